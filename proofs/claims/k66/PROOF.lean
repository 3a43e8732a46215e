import PyProof.Rows.All
import Wide.All
import OpenK.AllK
import Wide.FinOn
import Lean
import PyProof.EqAt
import PyProof.EqKinds
import PyProof.TupleCall
import PySem.Challenge.RW_shapethin_k66_whole_cores_make_the_pictu
set_option genSizeOf false
set_option bootstrap.genMatcherCode false
set_option compiler.extract_closed false
set_option linter.all false
set_option maxHeartbeats 4000000
set_option maxRecDepth 100000
def O7:=@if_pos
def O8:=@if_neg
def O9:=@PyProof.Rows.wpS_pure
def Pa:=@PyProof.Rows.wpS_bind
def Pb:=@PySem.wpAny_bind
def Pc:=@List.length_map
def Pe:=@List.mem_singleton
def Pf:=@Nat.le_refl
def Pg:=@List.mem_cons_self
def Ph:=@List.length_append
def Pi:=@List.mem_cons_of_mem
def Pj:=@PySem.wpAny_pure
def Pl:=@Int.le_refl
def Pm:=@List.mem_append_right
def Pn:=@List.mem_cons
def Po:=@List.mem_append
def Pp:=@PySem.W.mg_of
def Pq:=@List.mem_map
def Pr:=@List.length_cons
def Ps:=@List.map_cons
def Pt:=@PySem.Heap.lt_size
def Pu:=@PySem.Heap.get?_push_of_some
def Pv:=@List.mem_append_left
def Pw:=@List.getElem?_eq_some_iff
def Px:=@List.size_toArray
def Py:=@Array.map_reverse
def Pz:=@Nat.ne_of_lt
def PB:=@List.getElem?_map
def PC:=@congrArg
def PD:=@List.map_map
def PF:=@PyProof.Rows.wpS_mono
def PH:=@PyProof.Rows.wpS_forRange
def PK:=@List.length_singleton
def PL:=@Nat.le_trans
def PM:=@decide_eq_false
def PN:=@List.mem_filter
def PP:=@PySem.Heap.get?_push_size
def PQ:=@List.append_assoc
def PR:=@Option.some.inj
def PU:=@Nat.zero_le
def PV:=@List.lookup_cons
def PX:=@PySem.PassesOwn.never
def PY:=@Nat.lt_of_lt_of_le
def PZ:=@List.pairwise_append
def P1:=@Ne.symm
def P5:=@PyProof.Rows.wpS_modify
def P6:=@List.append_nil
def P7:=@List.getElem?_eq_getElem
def P8:=@PySem.wpAny_mono
def P9:=@Array.length_toList
def Qa:=@PySem.sizeLine_eq
def Qb:=@beq_iff_eq
def Qc:=@PySem.W.kia_one
def Qd:=@Bool.and_eq_true
def Qe:=@PyProof.Rows.wpS_get
def Qf:=@List.map_append
def Qg:=@Nat.le_of_lt
def Qh:=@List.getElem?_of_mem
def Qi:=@List.eq_nil_or_concat
def Qj:=@Nat.add_mul
def Qk:=@List.getElem?_set_ne
def Ql:=@Nat.le_of_eq
def Qm:=@List.nodup_cons
def Qn:=@PySem.wpAny_newObj_type
def Qo:=@List.concat_eq_append
def Qp:=@List.sum_cons
def Qq:=@List.pairwise_map
def Qr:=@of_decide_eq_false
def Qs:=@Iff.rfl
def Qt:=@List.length_filter_le
def Qu:=@PySem.F.plainAttrs_list
def Qv:=@PySem.W.mg_none_of
def Qw:=@Nat.lt_irrefl
def Qx:=@PySem.wpAny_rule
def Qy:=@Nat.zero_add
def Qz:=@Nat.lt_of_le_of_lt
def QA:=@List.length_range
def QB:=@Nat.mul_le_mul_right
def QC:=@PySem.Heap.size_push
def QD:=@Nat.le_succ
def QE:=@if_true
def QF:=@PySem.wpAny_field
def QG:=@List.length_set
def QH:=@List.pairwise_iff_getElem
def QI:=@PyProof.Rows.wpS_lift
def QJ:=@Array.map_push
def QK:=@List.length_eq_zero_iff
def QL:=@List.pairwise_cons
def QM:=@Int.add_mul
def QN:=@PySem.F.slot_list_append
def QO:=@PySem.F.type_list_append
def QP:=@List.filterMap_cons
def QQ:=@PySem.wpAny_holding
def QR:=@PySem.wpAny_passesOwn
def QS:=@Bool.false_ne_true
def QT:=@PySem.mem_of_lookup
def QU:=@List.getElem?_append_right
def QV:=@List.mem_of_getElem?
def QW:=@Array.toList_append
def QX:=@List.drop_of_length_le
def QY:=@Array.getElem?_toList
def QZ:=@of_decide_eq_true
def Q0:=@PySem.wpAny_of_eq
def Q1:=@List.length_reverse
def Q2:=@List.getElem?_set_self
def Q3:=@PyProof.Rows.callWith_type1
def Q4:=@List.mem_filterMap
def Q5:=@Nat.lt_succ_self
def Q6:=@List.length_take
def Q7:=@PyProof.Rows.slot_tuple_getitem
def Q8:=@PySem.wpAny_call_entry
def Q9:=@Array.toList_push
def Ra:=@List.nodup_append
def Rb:=@PySem.typeLookup_type
def Rc:=@PySem.builtinLookup_eq_fast
def Re:=@PySem.isSubtype_type
def Rf:=@List.getElem?_reverse
def Rg:=@List.getElem?_append_left
def Rh:=@decide_eq_true
def Ri:=@Nat.lt_succ_of_lt
def Rj:=@Array.perm_iff_toList_perm
def Rk:=@List.pairwise_singleton
def Rm:=@List.drop_eq_getElem_cons
def Ro:=@Array.toList_extract
def Rp:=@List.extract_eq_take_drop
def Rq:=@List.getElem?_drop
def Rr:=@List.take_of_length_le
def Rs:=@List.ext_getElem?
def Rt:=@List.zip_cons_cons
def Ru:=@List.getElem?_eq_none_iff
def Rv:=@List.length_pos_iff
def Rx:=@Nat.mul_le_mul_left
def Ry:=@beq_eq_false_iff_ne
def Rz:=@PySem.wpAny_execs_nil
def RA:=@PySem.wpAny_Call_Name_kw
def RB:=@PySem.wpAny_callSpecial?_slot
def RD:=@decide_eq_true_eq
def RE:=@List.getElem?_take
def RF:=@List.mem_reverse
def RG:=@PySem.Obj.data_mapFields
def RH:=@List.length_flatMap
def RI:=@Int.mul_le_mul_of_nonneg_right
def RJ:=@PySem.wpAny_pyNext_range_end
def RK:=@PySem.wpAny_pyIter_rangeiter
def RL:=@List.length_replicate
def RM:=@PySem.F.slot_tuple_add
def RN:=@PySem.F.entry_tuple_add
def RP:=@PySem.F.args_tuple_add_2
def RQ:=@PySem.Heap.get?_update_self
def RS:=@PySem.wpAny_comprehension_free
def RT:=@List.take_append_drop
def RU:=@List.pairwise_reverse
def RV:=@List.getD_eq_getElem?_getD
def RX:=@List.filter_cons
def RY:=@List.getElem?_eq_none
def RZ:=@List.Pairwise.filter
def R0:=@decide_eq_false_iff_not
def R5:=@List.reverse_reverse
def R6:=@List.length_filterMap_le
noncomputable section
namespace Hd
open PySem PySem.W PySem.Calls PyProof.Rows
def GW (stp:SharedT -> Thread -> Option (SharedT × Thread)) (ok:Thread -> Bool):Nat -> SharedT -> Thread -> Option SharedT
 | 0,_,_=>none
 | n + 1,s,t=>match through t with
  | true=>some s
  | false=>match ok t with
   | false=>none
   | true=>match stp s t with
    | some (s',t')=>GW stp ok n s' t'
    | none=>none
theorem yf {tb:String -> Option Builtin} {p:Program} {w:World} {n₀:Nat} {ann:Option Value}:∀ (n:Nat) (s:SharedT) (t:Thread) (r:SharedT),GW (stepT (denote tb) p w) (stepOk n₀ ann) n s t = some r -> topRun tb p w n₀ ann n s.abs t = some r.abs
 | 0,_,_,_,h=>by cases h
 | n + 1,s,t,r,h=>by
  unfold GW at h
  unfold topRun
  cases ht:through t with
  | true=>rw [ht] at h;cases h;rfl
  | false=>
   rw [ht] at h
   cases hk:stepOk n₀ ann t with
   | false=>rw [hk] at h;cases h
   | true=>
    rw [hk] at h
    cases hs:stepT (denote tb) p w s t with
    | none=>rw [hs] at h;cases h
    | some x=>
     obtain ⟨s',t'⟩:=x
     rw [hs] at h
     rw [stepT_spec hs]
     exact yf n s' t' r h
def FU:List Obj -> Nat -> BT -> BT
 | [],_,t=>t
 | o :: l,n,t=>FU l (n + 1) (t.ins n o)
def T0 (P:Params):BT:=FU (boot_heap P).objs.toList 0 .nil
theorem L9 (P:Params):absHeap (T0 P) 11 (boot_heap P).life = boot_heap P:=by kernel_rfl
theorem sz (P:Params):((boot_heap P).isNs mainGlobals,(boot_heap P).objs.size,(boot_heap P).nsMap mainGlobals "__annotations__") = (true,11,some (.ref 6)):=by kernel_rfl
def S0 (w:World) (os:OsState):SharedT:=⟨T0 w.params,11,(boot_heap w.params).life,Array.mk [],boot_drawn,boot_toks,os⟩
theorem HA {p q:Program} {loose:List Str} {Xt:Shared -> Bool} {α:Type} {Yf:Shared -> α} {Ya:World -> α} {N M:Nat} {g0:Bool}
  (open_:∀ w:World,(fencedOpening treeTable p w N).map (fun s=>(s.heap,s.gens,s.drawn,s.toks)) = some (boot_heap w.params,Array.mk [],boot_drawn,boot_toks)) (le:Nat.ble M N = true)
  (big:∀ w:World,(fun os=>(GW (stepT (denote treeTable) p w) (stepOk 11 (some (.ref 6))) M (S0 w os) (topStub p)).map fun r=>((staticsOk (importedModules p.main.body) (boot_heap w.params) r.abs.heap && namesBound p r.abs.heap && gensDone r.abs && laidKept (boot_heap w.params) r.abs.heap),
    openSeen q loose (importedModules p.main.body) Xt g0 r.abs,Yf r.abs)) = fun _=>some (true,openGood q loose,Ya w)):LeftO p q loose Xt Yf Ya N g0:=fun w=>by
 obtain ⟨⟨h,gs,d,k,os⟩,e,e'⟩:=Option.map_eq_some_iff.mp (open_ w)
 obtain ⟨rfl,rfl,rfl,rfl⟩:h = boot_heap w.params /\ gs = Array.mk [] /\ d = boot_drawn /\ k = boot_toks:=by simpa using e'
 obtain ⟨z1,z2,z3⟩:_ /\ _ /\ _:=by simpa only [Prod.mk.injEq] using sz w.params
 obtain ⟨r,hr,hb⟩:=Option.map_eq_some_iff.mp (congrFun (big w) os)
 obtain ⟨l1,l2,l3⟩:_ /\ _ /\ _:=by simpa only [Prod.mk.injEq] using hb
 have ha:(S0 w os).abs = ⟨boot_heap w.params,Array.mk [],boot_drawn,boot_toks,os⟩:=by
  unfold S0 SharedT.abs
  dsimp only
  rw [L9]
 have t:=topRun_mono (N - M) _ _ _ _ (yf _ _ _ _ hr)
 rw [show M + (N - M) = N by have:=Nat.le_of_ble_eq_true le;lia,ha] at t
 have t2:topFrom treeTable p w N ⟨boot_heap w.params,Array.mk [],boot_drawn,boot_toks,os⟩ = some r.abs:=by
  unfold topFrom
  dsimp only
  rw [z1,z2,z3,t]
  show (match staticsOk (importedModules p.main.body) (boot_heap w.params) r.abs.heap && namesBound p r.abs.heap && gensDone r.abs && laidKept (boot_heap w.params) r.abs.heap with | true=>_ | false=>_) = _
  rw [l1]
 unfold openEnds
 rw [e]
 show (topFrom treeTable p w N _).map _ = _
 rw [t2]
 exact PC some (Prod.ext l2 l3)
theorem HI {p q:Program} {loose:List Str} {Xt:Shared -> Bool} {α:Type} {Yf:Shared -> α} {Ya:World -> α} {g0:Bool}
  (open_:∀ w:World,(fencedOpening treeTable p w 100000).map (fun s=>(s.heap,s.gens,s.drawn,s.toks)) = some (boot_heap w.params,Array.mk [],boot_drawn,boot_toks))
  (big:∀ w:World,(fun os=>(GW (Fast.tw10156331382660048174 (Fast.tw11892475500146522536 Fast.tw14364793385576792824) p w) (Fast.tw6613529449190102663 11 (some (.ref 6))) 100000 (S0 w os) (topStub p)).map fun r=>((staticsOk (Fast.tw5923862056798008813 p.main.body) (boot_heap w.params) r.abs.heap && namesBound p r.abs.heap && gensDone r.abs && laidKept (boot_heap w.params) r.abs.heap),
    Fast.tw4187177175401517315 q loose (Fast.tw5923862056798008813 p.main.body) Xt g0 r.abs,Yf r.abs)) = fun _=>some (true,openGood q loose,Ya w)):LeftO p q loose Xt Yf Ya 100000 g0:=by
 rw [<- Fast.te10156331382660048174,<- Fast.te11892475500146522536,<- Fast.te14364793385576792824,<- Fast.te6613529449190102663,<- Fast.te5923862056798008813,<- Fast.te4187177175401517315] at big
 exact HA open_ rfl big
theorem HK {l:OpenLaw} (h:Fast.tw9446332074065402090 l = true):l.wellSaid = true:=by
 rw [Fast.te9446332074065402090]
 exact h
end Hd
set_option Elab.async false
section
open PySem PySem.W PyProof.Rows
def Hd.q : Program := view PySem.Challenge.pw_shapethin_k66_whole_cores_make_the_pictu [0, 2, 3, 4, 6, 7, 8, 9, 10, 11, 12, 14, 15, 16, 17, 18, 19, 20, 21, 22, 23, 25, 26, 27, 28, 29, 30, 31, 32, 33, 34, 35, 36, 37, 38, 39, 40, 42, 43, 44, 45, 47, 48, 49, 50, 51, 52]
local macro_rules | `(tactic| o_head $_)=>`(tactic| assumption)
set_option maxHeartbeats 0 in
theorem Hd.e0 : PySem.Challenge.rw_shapethin_k66_whole_cores_make_the_pictu.row.Holds -> PySem.Challenge.rw_shapethin_k66_whole_cores_make_the_pictu.row.Holds := by intro h; w_on; k_head
def Hd.as:List Addr:=(Hd.e0.heap_1 { strHash:=fun _=>0,shareClass:=fun _=>0,mergeTok:=id,idOf:=fun _=>0,idOfShared:=fun _ _=>0,followText:=fun _=>true,idOfImm:=fun _=>0 }).map (·.1)
theorem Hd.ae (P:Params):Hd.as = (Hd.e0.heap_1 P).map (·.1):=by kernel_rfl
abbrev Hd.H:Hook:=kHook Hd.e0.heap_1 Hd.as Hd.ae
set_option maxHeartbeats 0 in
theorem Hd.e1 : LeftO PySem.Challenge.rw_shapethin_k66_whole_cores_make_the_pictu.row.prog Hd.q [] (fun s => xlAt Hd.q [] s && recOk (RowW.records (OpenRow.toRowW (OpenLaw.row PySem.Challenge.rw_shapethin_k66_whole_cores_make_the_pictu))) s) (Hook.obs Hd.H) (Hook.val Hd.H) 100000 := Hd.HI (boot_open (by rfl) rfl (fun s => rfl)) (by intro w; kernel_rfl)
set_option maxHeartbeats 0 in
theorem Hd.e2 : PySem.Challenge.rw_shapethin_k66_whole_cores_make_the_pictu.wellSaid = true := Hd.HK (by kernel_rfl)
end
set_option Elab.async false
set_option linter.all false
set_option maxRecDepth 100000
namespace L2
open PySem PySem.Spec PyProof.Rows
abbrev Key:=Sum Int Str
def IR:Key -> Value -> Bool
 | .inl k,v=>Value.isInt k v
 | .inr x,v=>Value.isStrOf x v
def MU (w:World):Key -> Int
 | .inl k=>hashInt k
 | .inr x=>hashStr w x
theorem cJ:∀ {k:Key} {v:Value},IR k v = true -> (∃ i t,k = Sum.inl i /\ v = Value.int i t) \/ (∃ x t,k = Sum.inr x /\ v = Value.str x t)
 | .inl i,v,h=>by
  obtain ⟨t,e⟩:=Value.isInt_shape (k:=i) (v:=v) h
  exact .inl ⟨i,t,rfl,e⟩
 | .inr x,v,h=>by
  obtain ⟨t,e⟩:=Value.isStrOf_shape (x:=x) (v:=v) h
  exact .inr ⟨x,t,rfl,e⟩
theorem KA (a b:Int):decide ((Sum.inl a:Key) = Sum.inl b) = (a == b):=by
 by_cases e:a = b
 ·subst e;simp
 ·have h:¬ (Sum.inl a:Key) = Sum.inl b:=fun q=>e (Sum.inl.inj q)
  rw [PM h]
  exact (Ry.mpr e).symm
theorem K5 (a b:Str):decide ((Sum.inr a:Key) = Sum.inr b) = decide (a = b):=by
 by_cases e:a = b
 ·subst e;simp
 ·have h:¬ (Sum.inr a:Key) = Sum.inr b:=fun q=>e (Sum.inr.inj q)
  rw [PM h,PM e]
theorem Jr (a:Int) (b:Str):decide ((Sum.inl a:Key) = Sum.inr b) = false:=PM (fun q=>nomatch q)
theorem Kd (a:Str) (b:Int):decide ((Sum.inr a:Key) = Sum.inl b) = false:=PM (fun q=>nomatch q)
def zO (prog:Program) (w:World):PySem.KeyKind prog w Key where
 is:=IR
 hash:=MU w
 inj:=fun v a b ha hb=>by
  rcases cJ ha with ⟨i,t,rfl,rfl⟩ | ⟨x,t,rfl,rfl⟩
  ·rcases cJ hb with ⟨j,u,rfl,e⟩ | ⟨y,u,rfl,e⟩
   ·injection e with e1 _;rw [e1]
   ·exact nomatch e
  ·rcases cJ hb with ⟨j,u,rfl,e⟩ | ⟨y,u,rfl,e⟩
   ·exact nomatch e
   ·injection e with e1 _;rw [e1]
 byValue:=fun k v h=>by
  rcases cJ h with ⟨i,t,rfl,rfl⟩ | ⟨x,t,rfl,rfl⟩ <;> rfl
 pyHash:=fun hv h=>by
  rcases cJ hv with ⟨i,t,rfl,rfl⟩ | ⟨x,t,rfl,rfl⟩
  ·exact wpAny_pyHash_int h
  ·exact wpAny_pyHash_str h
 eqBool:=fun hu hv h=>by
  rcases cJ hu with ⟨i,t,rfl,rfl⟩ | ⟨x,t,rfl,rfl⟩
  ·rcases cJ hv with ⟨j,u,rfl,rfl⟩ | ⟨y,u,rfl,rfl⟩
   ·rw [KA] at h;exact wpAny_eqBool_int h
   ·rw [Jr] at h;exact SeqAt.EqAt.int_str i t y u _ _ _ _ h
  ·rcases cJ hv with ⟨j,u,rfl,rfl⟩ | ⟨y,u,rfl,rfl⟩
   ·rw [Kd] at h;exact SeqAt.EqAt.str_int x t j u _ _ _ _ h
   ·rw [K5] at h;exact wpAny_eqBool_str h
 «strs»:=fun k x t v h=>by
  rcases cJ h with ⟨i,u,rfl,e⟩ | ⟨y,u,rfl,e⟩
  ·exact nomatch e
  ·injection e with e1 _
   subst e1
   cases v <;> rfl
inductive V where
 | non | bl (b:Bool) | int (i:Int) | str (x:Str) | byt (b:Array UInt8) | flt (b:UInt64) | ref (a:Addr) | ty (n:String)
 deriving DecidableEq
def RelV:V -> Value -> Prop
 | .non,u=>u = Value.none
 | .bl b,u=>u = Value.bool b
 | .int i,u=>∃ t,u = Value.int i t
 | .str x,u=>∃ t,u = Value.str x t
 | .byt b,u=>∃ t,u = Value.bytes b t
 | .flt b,u=>∃ t,u = Value.float b t
 | .ref a,u=>u = Value.ref a
 | .ty n,u=>u = Value.type n
abbrev Vals:List V -> List Value -> Prop:=Paired RelV
theorem Vals.length {xs:List V} {us:List Value} (r:Vals xs us):xs.length = us.length:=Paired.length r
theorem Vals.get:∀ {xs:List V} {us:List Value} {i:Nat} {x:V},Vals xs us -> xs[i]? = some x -> ∃ u,us[i]? = some u /\ RelV x u
 | _,_,_,_,.nil,e=>by simp at e
 | _,_,0,_,.cons r _,e=>by simp at e;subst e;exact ⟨_,rfl,r⟩
 | _,_,i + 1,x,.cons _ t,e=>by
  obtain ⟨u,h1,h2⟩:=Vals.get (i:=i) (x:=x) t (by simpa using e)
  exact ⟨u,by simpa using h1,h2⟩
theorem Vals.set {x:V} {u:Value} (r:RelV x u):∀ {xs:List V} {us:List Value} (i:Nat),Vals xs us -> Vals (xs.set i x) (us.set i u)
 | _,_,_,.nil=>.nil
 | _,_,0,.cons _ t=>.cons r t
 | _,_,i + 1,.cons q t=>.cons q (Vals.set r i t)
theorem Vals.append:∀ {xs ys:List V} {us ws:List Value},Vals xs us -> Vals ys ws -> Vals (xs ++ ys) (us ++ ws)
 | _,_,_,_,.nil,s=>s
 | _,_,_,_,.cons r t,s=>.cons r (Vals.append t s)
theorem Vals.take:∀ {xs:List V} {us:List Value} (n:Nat),Vals xs us -> Vals (xs.take n) (us.take n)
 | _,_,0,_=>.nil
 | _,_,_ + 1,.nil=>.nil
 | _,_,n + 1,.cons r t=>.cons r (Vals.take n t)
theorem Vals.drop:∀ {xs:List V} {us:List Value} (n:Nat),Vals xs us -> Vals (xs.drop n) (us.drop n)
 | _,_,0,r=>r
 | _,_,_ + 1,.nil=>.nil
 | _,_,n + 1,.cons _ t=>Vals.drop n t
def RelO:Option V -> Option Value -> Prop
 | some v,some u=>RelV v u
 | none,none=>True
 | _,_=>False
def KV {κ:Type}:List (κ × V) -> List (κ × Value) -> Prop:=Paired fun (p:κ × V) (q:κ × Value)=>p.1 = q.1 /\ RelV p.2 q.2
def kV:Key -> V
 | .inl i=>.int i
 | .inr x=>.str x
inductive HO where
  | lst (xs:List V)
  | tup (xs:List V)
  | dK (kvs:List (Key × V)) | dT (kvs:List (List Key × V))
  | set (S:Int -> Bool) (n:Nat)
  | ins (C dx:Addr) (fs:List (Str × V))
  | own (x:Addr)
  | xd (fs:List (Str × V))
  | met (f x:Addr)
  | rng (lo hi:Int)
  | frz (o:Obj) (u:HO)
  | tbl (ps:Array Value)
  | ext (φ:Heap -> Prop)
abbrev Hp:=Addr -> Option HO
def upd (H:Hp) (a:Addr) (o:HO):Hp:=fun b=>if b = a then some o else H b
theorem aX {H:Hp} {a:Addr} {o:HO}:upd H a o a = some o:=by unfold upd;rw [O7 rfl]
theorem a8 {H:Hp} {a b:Addr} {o:HO} (h:b ≠ a):upd H a o b = H b:=by unfold upd;rw [O8 h]
theorem bh {H:Hp} {a b:Addr} {o:HO} (h:H a = some o) (h':H b = none):a ≠ b:=by
 intro e;subst e;rw [h] at h';cases h'
section
variable (P:Program) (w:World)
def ObjOk (H:Hp) (h:Heap) (a:Addr):HO -> Prop
 | .lst xs=>xs.length <= sizeLine /\ ∃ (its:List Value) (n:Nat),Vals xs its /\ h.get? a = some { cls:=.type "list",data:=.seq its.toArray n }
 | .tup xs=>xs.length <= sizeLine /\ ∃ its:List Value,Vals xs its /\ IsTup h a its.toArray
 | .dK kvs=>kvs.length <= sizeLine /\ (a == sysModules) = false /\ ∃ vs,KV kvs vs /\ h.DictOf (zO P w) a vs
 | .dT kvs=>kvs.length <= sizeLine /\ (a == sysModules) = false /\ ∃ xs:List (List Key × Addr × Value),
   Paired (fun (p:List Key × V) (q:List Key × Addr × Value)=>p.1 = q.1 /\ H q.2.1 = some (.tup (p.1.map kV)) /\ RelV p.2 q.2.2) kvs xs /\
   ∃ o es ep,h.get? a = some o /\ o.ExactDict /\ o.data = .dict es ep /\ es.toList = xs.map (entryOfKey (tupleKind (zO P w))) /\ (xs.map (·.1)).Nodup
 | .set S n=>h.SetOf (intKind P w) a S n
 | .ins C dx fs=>H dx = some (.own a) /\ fs.length <= 1000 /\ dx ≠ a /\ h.get? a = some (W.instObj C dx) /\
   ∃ mA,h.Ns1 dx mA /\ (∀ f,RelO (fs.lookup f) (mA f)) /\ PySem.Within mA (fs.map (·.1))
 | .own _=>∃ o,h.get? a = some o
 | .xd fs=>∃ mA,h.Ns1 a mA /\ ∀ f,RelO (fs.lookup f) (mA f)
 | .rng lo hi=>∃ t u v,h.get? a = some { cls:=.type "range",data:=.fields #[.int lo t,.int hi u,.int 1 v] }
 | .frz o u=>h.get? a = some o /\ ObjOk H h a u
 | .tbl ps=>h.get? a = some { cls:=.none,data:=.fields ps }
 | .met f x=>h.get? a = some (W.methodObj (.ref f) (.ref x))
 | .ext φ=>φ h /\ (∃ o,h.get? a = some o) /\ ∀ h1 h2:Heap,φ h1 -> (∀ o,h1.get? a = some o -> h2.get? a = some o) -> φ h2
def HOk (H:Hp) (h:Heap):Prop:=∀ a o,H a = some o -> ObjOk P w H h a o
end
section
variable {P:Program} {w:World} {H H':Hp} {h h':Heap} {a:Addr} {o:HO}
theorem ObjOk.lt (x:ObjOk P w H h a o):a < h.objs.size:=by
 cases o with
 | lst xs=>obtain ⟨_,_,_,_,e⟩:=x;exact Pt e
 | tup xs=>obtain ⟨_,_,_,p⟩:=x;exact p.lt
 | dK kvs=>obtain ⟨_,_,_,_,o,_,_,e,_⟩:=x;exact Pt e
 | dT kvs=>obtain ⟨_,_,_,_,o,_,_,e,_⟩:=x;exact Pt e
 | set S n=>obtain ⟨o,_,_,_,e,_⟩:=x;exact Pt e
 | ins C dx fs=>obtain ⟨_,_,_,e,_⟩:=x;exact Pt e
 | own y=>obtain ⟨_,e⟩:=x;exact Pt e
 | xd fs=>obtain ⟨_,⟨_,_,_,e,_⟩,_⟩:=x;exact Pt e
 | rng lo hi=>obtain ⟨_,_,_,e⟩:=x;exact Pt e
 | frz ob u=>obtain ⟨e,_⟩:=x;exact Pt e
 | tbl ps=>exact Pt (show h.get? a = some _ from x)
 | met f y=>exact Pt (show h.get? a = some _ from x)
 | ext φ=>obtain ⟨_,⟨_,e⟩,_⟩:=x;exact Pt e
theorem Paired.mapP {α β:Type} {F G:α -> β -> Prop}:∀ {l₁:List α} {l₂:List β},Paired F l₁ l₂ -> (∀ a b,F a b -> G a b) -> Paired G l₁ l₂
 | _,_,.nil,_=>.nil
 | _,_,.cons r t,f=>.cons (f _ _ r) (Paired.mapP t f)
theorem ObjOk.stay (x:ObjOk P w H h a o) (k:∀ b u,(b = a \/ H b = some (.own a)) -> h.get? b = some u -> h'.get? b = some u)
  (ho:∀ b,H b = some (.own a) -> H' b = some (.own a)) (ht:∀ b xs,H b = some (.tup xs) -> H' b = some (.tup xs)):ObjOk P w H' h' a o:=by
 induction o with
 | lst xs=>obtain ⟨z,its,n,r,e⟩:=x;exact ⟨z,its,n,r,k _ _ (.inl rfl) e⟩
 | tup xs=>obtain ⟨z,its,r,ob,e,c⟩:=x;exact ⟨z,its,r,ob,k _ _ (.inl rfl) e,c⟩
 | dK kvs=>obtain ⟨z,y,vs,r,ob,es,ep,e,c⟩:=x;exact ⟨z,y,vs,r,ob,es,ep,k _ _ (.inl rfl) e,c⟩
 | dT kvs=>
  obtain ⟨z,y,xs,r,ob,es,ep,e,c⟩:=x
  exact ⟨z,y,xs,Paired.mapP r fun p q z=>⟨z.1,ht _ _ z.2.1,z.2.2⟩,ob,es,ep,k _ _ (.inl rfl) e,c⟩
 | set S n=>obtain ⟨ob,es,ep,t,e,c⟩:=x;exact ⟨ob,es,ep,t,k _ _ (.inl rfl) e,c⟩
 | ins C dx fs=>
  obtain ⟨d,z,ne,e,mA,⟨od,es,ep,e2,c⟩,r⟩:=x
  exact ⟨ho _ d,z,ne,k _ _ (.inl rfl) e,mA,⟨od,es,ep,k _ _ (.inr d) e2,c⟩,r⟩
 | own y=>obtain ⟨ob,e⟩:=x;exact ⟨ob,k _ _ (.inl rfl) e⟩
 | xd fs=>obtain ⟨mA,⟨od,es,ep,e,c⟩,r⟩:=x;exact ⟨mA,⟨od,es,ep,k _ _ (.inl rfl) e,c⟩,r⟩
 | rng lo hi=>obtain ⟨t,u,v,e⟩:=x;exact ⟨t,u,v,k _ _ (.inl rfl) e⟩
 | frz ob u ih=>obtain ⟨e,q⟩:=x;exact ⟨k _ _ (.inl rfl) e,ih q⟩
 | tbl ps=>
  have e:h.get? a = some { cls:=.none,data:=.fields ps }:=x
  show h'.get? a = some { cls:=.none,data:=.fields ps }
  exact k a _ (.inl rfl) e
 | met f y=>
  have e:h.get? a = some (W.methodObj (.ref f) (.ref y)):=x
  show h'.get? a = some (W.methodObj (.ref f) (.ref y))
  exact k a _ (.inl rfl) e
 | ext φ=>obtain ⟨p,⟨o,e⟩,st⟩:=x;exact ⟨st _ _ p fun o q=>k _ _ (.inl rfl) q,⟨o,k _ _ (.inl rfl) e⟩,st⟩
theorem HOk.lt (x:HOk P w H h) (e:H a = some o):a < h.objs.size:=(x a o e).lt
theorem HOk.fresh (x:HOk P w H h) (e:h.objs.size <= a):H a = none:=by
 cases q:H a with
 | none=>rfl
 | some u=>exact absurd (PY (x.lt q) e) (Qw _)
theorem HOk.kept (x:HOk P w H h) (k:∀ b u,h.get? b = some u -> h'.get? b = some u):HOk P w H h':=fun a o e=>
 (x a o e).stay (fun b u _ q=>k b u q) (fun _ q=>q) fun _ _ q=>q
theorem HOk.laid (x:HOk P w H h) (k:∀ b u,h.get? b = some u -> h'.get? b = some u) (hp:h.objs.size <= a) (new:ObjOk P w (upd H a o) h' a o):HOk P w (upd H a o) h':=fun b u e=>by
 have hn:=x.fresh hp
 by_cases hb:b = a
 ·subst hb;rw [aX] at e;cases e;exact new
 ·rw [a8 hb] at e
  exact (x b u e).stay (fun c v _ q=>k c v q) (fun c q=>by rw [a8 (bh q hn)];exact q) fun c xs q=>by rw [a8 (bh q hn)];exact q
end
def Rd (H:Hp) (a:Addr) (u:HO):Prop:=H a = some u \/ ∃ o,H a = some (.frz o u)
theorem Rd.ok {P:Program} {w:World} {H:Hp} {h:Heap} {a:Addr} {u:HO} (r:Rd H a u) (x:HOk P w H h):ObjOk P w H h a u:=by
 rcases r with r | ⟨o,r⟩
 ·exact x a u r
 ·obtain ⟨_,q⟩:=x a _ r
  exact q
def Mut:Option HO -> Prop
 | some (.lst _)=>True
 | some (.dK _)=>True
 | some (.dT _)=>True
 | some (.set _ _)=>True
 | some (.ins _ _ _)=>True
 | some (.ext _)=>True
 | _=>False
section
variable {P:Program} {w:World} {H:Hp} {h h':Heap} {x e:Addr} {o':HO}
theorem HOk.write (ok:HOk P w H h) (mu:Mut (H x)) (he:e = x \/ H e = some (.own x)) (k:∀ b u,b ≠ e -> h.get? b = some u -> h'.get? b = some u) (heo:∃ u,h'.get? e = some u)
  (new:ObjOk P w (upd H x o') h' x o'):HOk P w (upd H x o') h':=fun b u q=>by
 have nown:∀ c y,H c = some (.own y) -> c ≠ x:=fun c y r z=>by subst z;rw [r] at mu;exact mu
 have ntup:∀ c xs,H c = some (.tup xs) -> c ≠ x:=fun c xs r z=>by subst z;rw [r] at mu;exact mu
 by_cases hb:b = x
 ·subst hb;rw [aX] at q;cases q;exact new
 ·rw [a8 hb] at q
  by_cases hbe:b = e
  ·have q':H b = some (.own x):=by
    rcases he with z | z
    ·exact absurd (hbe.trans z) hb
    ·rw [hbe];exact z
   rw [q] at q';cases q'
   obtain ⟨v,hv⟩:=heo
   exact ⟨v,by rw [hbe];exact hv⟩
  ·refine (ok b u q).stay (fun c v hc r=>k c v ?_ r) (fun c r=>by rw [a8 (nown c b r)];exact r) fun c xs r=>by rw [a8 (ntup c xs r)];exact r
   rcases hc with rfl | hc
   ·exact hbe
   ·rintro rfl
    rcases he with z | z
    ·exact nown c b hc z
    ·rw [hc] at z;cases z;exact hb rfl
end
structure Un (fs ex:List Addr) (H H':Hp) (h h':Heap):Prop where
 keep:∀ b o,h.get? b = some o -> H b = none -> b ∉ fs -> b ∉ ex -> h'.get? b = some o
 slot:∀ b o,h.get? b = some o -> H b = none -> b ∈ fs -> b ∉ ex -> ∃ sl,h'.get? b = some { o with slots:=sl }
 free:∀ b o,h.get? b = some o -> H b = none -> b ∉ ex -> H' b = none
 there:∀ b o,h.get? b = some o -> b ∉ ex -> ∃ o',h'.get? b = some o'
 tups:∀ b xs,H b = some (.tup xs) -> H' b = some (.tup xs)
 frzs:∀ b o u,H b = some (.frz o u) -> H' b = some (.frz o u)
 tbls:∀ b ps,H b = some (.tbl ps) -> ∃ more,H' b = some (.tbl (ps ++ more))
section
variable {fs fs' ex ex':List Addr} {H H1 H2:Hp} {h h1 h2 h':Heap} {a x e:Addr} {o:HO}
theorem Un.any (u:Un fs ex H H1 h h1) {b:Addr} {ob:Obj} (q:h.get? b = some ob) (n:H b = none) (hx:b ∉ ex):∃ sl,h1.get? b = some { ob with slots:=sl }:=by
 by_cases hb:b ∈ fs
 ·exact u.slot b ob q n hb hx
 ·exact ⟨ob.slots,u.keep b ob q n hb hx⟩
theorem Un.trans (a:Un fs ex H H1 h h1) (b:Un fs ex H1 H2 h1 h2):Un fs ex H H2 h h2 where
 keep:=fun c ob q n hc hx=>b.keep c ob (a.keep c ob q n hc hx) (a.free c ob q n hx) hc hx
 slot:=fun c ob q n hc hx=>by
  obtain ⟨sl,e1⟩:=a.slot c ob q n hc hx
  obtain ⟨sl',e2⟩:=b.slot c _ e1 (a.free c ob q n hx) hc hx
  exact ⟨sl',e2⟩
 free:=fun c ob q n hx=>by
  obtain ⟨o',e1⟩:=a.there c ob q hx
  exact b.free c o' e1 (a.free c ob q n hx) hx
 there:=fun c ob q hx=>by
  obtain ⟨o',e1⟩:=a.there c ob q hx
  exact b.there c o' e1 hx
 tups:=fun c xs q=>b.tups c xs (a.tups c xs q)
 frzs:=fun c ob xs q=>b.frzs c ob xs (a.frzs c ob xs q)
 tbls:=fun c ps q=>by
  obtain ⟨m1,e1⟩:=a.tbls c ps q
  obtain ⟨m2,e2⟩:=b.tbls c _ e1
  exact ⟨m1 ++ m2,by rw [e2,Array.append_assoc]⟩
theorem Un.kept (k:∀ b u,h.get? b = some u -> h'.get? b = some u):Un fs ex H H h h':=
 ⟨fun b ob q _ _ _=>k b ob q,fun b ob q _ _ _=>⟨ob.slots,k b ob q⟩,fun _ _ _ n _=>n,fun b ob q _=>⟨ob,k b ob q⟩,fun _ _ q=>q,fun _ _ _ q=>q,fun _ ps q=>⟨#[],by rw [q];simp⟩⟩
theorem Un.refl:Un fs ex H H h h:=Un.kept fun _ _ q=>q
theorem Un.laid (k:∀ b u,h.get? b = some u -> h'.get? b = some u) (hp:h.objs.size <= a) (hn:H a = none):Un fs ex H (upd H a o) h h' where
 keep:=fun b u q _ _ _=>k b u q
 slot:=fun b u q _ _ _=>⟨u.slots,k b u q⟩
 free:=fun b u q n _=>by rw [a8 (Pz (PY (Pt q) hp))];exact n
 there:=fun b u q _=>⟨u,k b u q⟩
 tups:=fun b xs q=>by rw [a8 (bh q hn)];exact q
 frzs:=fun b u xs q=>by rw [a8 (bh q hn)];exact q
 tbls:=fun b ps q=>⟨#[],by rw [a8 (bh q hn),q];simp⟩
theorem Un.write (mu:Mut (H x)) (he:e = x \/ H e = some (.own x)) (k:∀ b u,b ≠ e -> h.get? b = some u -> h'.get? b = some u) (heo:∃ u,h'.get? e = some u):Un fs ex H (upd H x o) h h':=by
 have hx:∀ b,H b = none -> b ≠ x:=fun b n z=>by subst z;rw [n] at mu;exact mu
 have hb:∀ b,H b = none -> b ≠ e:=fun b n z=>by
  subst z
  rcases he with r | r
  ·exact hx b n r
  ·rw [n] at r;cases r
 have hm:∀ b u,H b = some u -> ¬ Mut (some u) -> b ≠ x:=fun b u q nm z=>by subst z;rw [q] at mu;exact nm mu
 refine ⟨fun b u q n _ _=>k b u (hb b n) q,fun b u q n _ _=>⟨u.slots,k b u (hb b n) q⟩,fun b u q n _=>by rw [a8 (hx b n)];exact n,fun b u q _=>?_,
  fun b xs q=>by rw [a8 (hm b _ q fun z=>z)];exact q,fun b u xs q=>by rw [a8 (hm b _ q fun z=>z)];exact q,fun b ps q=>⟨#[],by rw [a8 (hm b _ q fun z=>z),q];simp⟩⟩
 by_cases hbe:b = e
 ·subst hbe;exact heo
 ·exact ⟨u,k b u hbe q⟩
end
def trk (h:Heap) (H:Hp):List Addr:=(List.range h.objs.size).filter fun a=>(H a).isSome
def zF (h:Heap) (H:Hp):Heap:=W.hideAll h (trk h H)
theorem Fc (h:Heap) (H:Hp):(zF h H).objs.size = h.objs.size:=W.hideAll_size _ _
theorem FM {h:Heap} {H:Hp} {b:Addr} {o:Obj} (e:h.get? b = some o) (n:H b = none):(zF h H).get? b = some o:=
 W.hideAll_get _ e fun hm=>by
  have q:(H b).isSome = true:=(PN.mp hm).2
  rw [n] at q;simp at q
theorem Iz {h:Heap} {H:Hp} {b:Addr} {o:Obj} (e:(zF h H).get? b = some o):h.get? b = some o /\ H b = none:=by
 have e':h.get? b = some o:=W.of_hideAll (trk h H) e
 refine ⟨e',?_⟩
 cases q:H b with
 | none=>rfl
 | some x=>
  have hm:b ∈ trk h H:=PN.mpr ⟨List.mem_range.mpr (Pt e'),by simp [q]⟩
  have z:(zF h H).get? b = none:=W.hideAll_none (trk h H) hm
  rw [z] at e;cases e
def HB (g h:Heap) (L:Addr):List (Addr × Obj):=(List.range h.objs.size).filterMap fun a=>if a = L \/ (g.get? a).isSome = true then none else (h.get? a).map fun o=>(a,o)
def rest (g h:Heap) (L d:Addr):List (Addr × Obj):=(HB g h L).filter fun p=>decide (p.1 ≠ d)
structure Mod (K:W.Frag) (mg:Str -> Option Value) (base:Heap):Prop where
 kin:K.In base
 glob:base.Ns mainGlobals mg
 blt:∃ mb,base.Ns builtinsNs mb /\ ∀ x:Str,x ≠ "__name__" -> mb x = bootBuiltins x
 nolimit:base.NoLimit
structure Cx where
 prog:Program
 w:World
 K:W.Frag
 mg:Str -> Option Value
 base:Heap
 A:Around
 N:List Str
 s₀:Shared
 H₀:Hp
 env:Env
 outer:List Env
 stack:List Env
 ex:List Addr
 fn:Str -> Bool
 calm:Bool
 pn:List (Addr × Obj)
 xe:Value -> Shared -> Prop
def frs (l:List Env):List Addr:=l.filterMap (·.frame)
abbrev Cx.fs (X:Cx):List Addr:=frs X.outer
def Vis (sc:Scope) (x:Str):Prop:=sc.names.lookup x = some .local \/ sc.names.lookup x = some .cell \/ sc.names.lookup x = some .free
def Loc (sc:Scope) (x:Str):Prop:=sc.names.lookup x = some .local \/ sc.names.lookup x = some .cell
def Nl (env:Env) (h:Heap) (m:Str -> Option Value) (x:Str) (u:Value):Prop:=
 (env.kindOf x = some .local /\ m x = some u) \/ ((env.kindOf x = some .cell \/ env.kindOf x = some .free) /\ ∃ c,env.cells.lookup x = some c /\ h.IsCell c (some u))
structure Cx.Ok (X:Cx):Prop where
 mod:Mod X.K X.mg X.base
 kind:X.env.scope.kind = .function
 glob:X.env.globals = mainGlobals
 blt:X.env.builtins = builtinsNs
 above:X.s₀.heap.objs.size <= X.env.locals
 inj:∀ x y c,X.env.cells.lookup x = some c -> X.env.cells.lookup y = some c -> x = y
 has:∀ x,(X.env.kindOf x = some .cell \/ X.env.kindOf x = some .free) -> ∃ c,X.env.cells.lookup x = some c
 cab:∀ x c,X.fn x = true -> X.env.cells.lookup x = some c -> X.s₀.heap.objs.size <= c
 hd:X.calm = true -> X.A.handled = none
 frames:X.A.frames = some X.stack
 stk:X.stack = X.outer \/ (X.stack = X.env :: X.outer /\ X.env.frame = some X.env.locals)
 exf:∀ b ∈ X.ex,b ≠ X.env.locals /\ ∀ x c,X.env.cells.lookup x = some c -> c ≠ b
 bs:∀ b o,X.base.get? b = some o -> X.s₀.heap.get? b = some o /\ X.H₀ b = none
 bsz:X.base.objs.size <= X.s₀.heap.objs.size
 noex:∀ b o,X.base.get? b = some o -> b ∉ X.ex
 exfs:∀ b ∈ X.ex,b ∉ X.fs
 funs:X.s₀.heap.FunFrames X.base X.outer
 frf:∀ b ∈ X.fs,X.H₀ b = none
structure Inv (X:Cx) (pins:List (Addr × Obj)) (σ:List (Option V)) (H:Hp) (s:Shared):Prop where
 ok:X.Ok
 os:s.os = X.s₀.os
 bare:AllBare s.gens
 base:Un X.fs X.ex X.H₀ H X.s₀.heap s.heap
 loc:∃ m,s.heap.Ns X.env.locals m /\ ∀ (i:Nat) (x:Str) (v:V),X.N[i]? = some x -> σ[i]? = some (some v) -> Vis X.env.scope x -> ∃ u,RelV v u /\ Nl X.env s.heap m x u
 cell:∀ x c,X.env.cells.lookup x = some c -> ∃ v,s.heap.IsCell c v
 free:H X.env.locals = none
 freeC:∀ x c,X.env.cells.lookup x = some c -> H c = none
 pin:∀ p ∈ X.pn ++ pins,s.heap.get? p.1 = some p.2 /\ H p.1 = none /\ p.1 ≠ X.env.locals /\ p.1 ∉ X.fs /\ ∀ v,p.2.data ≠ .cell v
 hok:HOk X.prog X.w H s.heap
 len:σ.length = X.N.length
section
variable {X:Cx} {pins:List (Addr × Obj)} {σ:List (Option V)} {H H':Hp} {s:Shared} {h':Heap}
theorem Cx.Ok.nofr (ok:X.Ok) {b:Addr} {o:Obj} (e:X.base.get? b = some o):b ∉ X.fs:=fun hb=>by
 have:=(ok.funs.mem hb).1
 rw [e] at this;cases this
theorem Inv.bs (I:Inv X pins σ H s):∀ b o,X.base.get? b = some o -> s.heap.get? b = some o /\ H b = none:=fun b o e=>
 ⟨I.base.keep b o (I.ok.bs b o e).1 (I.ok.bs b o e).2 (I.ok.nofr e) (I.ok.noex b o e),I.base.free b o (I.ok.bs b o e).1 (I.ok.bs b o e).2 (I.ok.noex b o e)⟩
theorem Inv.bk (I:Inv X pins σ H s):∀ b o,X.base.get? b = some o -> s.heap.get? b = some o:=fun b o e=>(I.bs b o e).1
theorem Inv.mod (I:Inv X pins σ H s):Mod X.K X.mg X.base:=I.ok.mod
theorem Inv.kIn (I:Inv X pins σ H s):X.K.In s.heap:=I.ok.mod.kin.keeps I.bk
theorem Inv.fr (I:Inv X pins σ H s):∃ m,Fr X.base X.env.locals s.heap m:=
 let ⟨m,hn,_⟩:=I.loc
 ⟨m,hn,I.bk,PL I.ok.bsz I.ok.above⟩
theorem Inv.lt (I:Inv X pins σ H s):X.env.locals < s.heap.objs.size:=let ⟨_,hn,_⟩:=I.loc;hn.lt
theorem Inv.sz (I:Inv X pins σ H s):X.s₀.heap.objs.size <= s.heap.objs.size:=PL I.ok.above (Qg I.lt)
theorem Inv.nofs (I:Inv X pins σ H s) {a:Addr} (h:s.heap.objs.size <= a):a ∉ X.fs:=fun hb=>by
 obtain ⟨_,o,ho,_⟩:=I.ok.funs.mem hb
 exact absurd (PY (Pt ho) (PL I.sz h)) (Qw _)
theorem Inv.cne (I:Inv X pins σ H s):∀ x c,X.env.cells.lookup x = some c -> c ≠ X.env.locals:=fun x c e z=>by
 obtain ⟨v,o,ho,hd⟩:=I.cell x c e
 obtain ⟨m,⟨o',es,ep,ho',hd',_⟩,_⟩:=I.loc
 rw [z,ho'] at ho;cases ho;rw [hd'] at hd;cases hd
theorem Inv.funs (I:Inv X pins σ H s):s.heap.FunFrames X.base X.outer:=by
 have all:∀ (l:List Env),(∀ b ∈ frs l,b ∈ X.fs) -> X.s₀.heap.FunFrames X.base l -> s.heap.FunFrames X.base l:=by
  intro l
  induction l with
  | nil=>intro _ _;trivial
  | cons env r ih=>
   intro hs hl
   obtain ⟨hk,⟨L,o,hf,hn,ho,hd⟩,hr⟩:=hl
   have hL:L ∈ X.fs:=hs L (by unfold frs;rw [QP,hf];exact Pg)
   obtain ⟨sl,e⟩:=I.base.slot L o ho (I.ok.frf L hL) hL fun z=>I.ok.exfs L z hL
   exact ⟨hk,⟨L,_,hf,hn,e,hd⟩,ih (fun b hb=>hs b (by unfold frs;rw [QP,hf];exact Pi _ hb)) hr⟩
 exact all X.outer (fun _ hb=>hb) I.ok.funs
theorem Inv.stack (I:Inv X pins σ H s):s.heap.FunFrames X.base X.stack:=by
 rcases I.ok.stk with e | ⟨e,hf⟩
 ·rw [e];exact I.funs
 ·rw [e]
  obtain ⟨m,hn,_⟩:=I.loc
  refine .cons (by rw [I.ok.kind];decide) hf hn ?_ I.funs
  exact Heap.get?_none_of_le (PL I.ok.bsz I.ok.above)
theorem Inv.stkSub (I:Inv X pins σ H s):∀ b ∈ frs X.stack,b ∈ X.env.locals :: X.fs:=fun b hb=>by
 rcases I.ok.stk with e | ⟨e,hf⟩
 ·rw [e] at hb;exact Pi _ hb
 ·rw [e] at hb
  unfold frs at hb
  rw [QP,hf] at hb
  exact hb
theorem Inv.stkFree (I:Inv X pins σ H s):∀ b ∈ frs X.stack,H b = none:=fun b hb=>by
 rcases Pn.mp (I.stkSub b hb) with e | hb
 ·rw [e];exact I.free
 ·obtain ⟨_,o,ho,_⟩:=I.ok.funs.mem hb
  exact I.base.free b o ho (I.ok.frf b hb) fun z=>I.ok.exfs b z hb
theorem Inv.step {g':Array GenState} {t':Nat} {d':Drawn} {ch:List Addr} (I:Inv X pins σ H s)
  (hch:∀ b ∈ ch,(b ∈ X.ex \/ X.s₀.heap.objs.size <= b) /\ b ≠ X.env.locals /\ (∀ x c,X.env.cells.lookup x = some c -> c ≠ b) /\ ∀ p ∈ X.pn ++ pins,p.1 ≠ b)
  (keep:∀ b o,b ≠ X.env.locals -> b ∉ X.fs -> b ∉ ch -> s.heap.get? b = some o -> H b = none -> h'.get? b = some o)
  (slot:∀ b o,b ≠ X.env.locals -> b ∈ X.fs -> b ∉ ch -> s.heap.get? b = some o -> H b = none -> ∃ sl,h'.get? b = some { o with slots:=sl }) (free:∀ b o,b ∉ ch -> s.heap.get? b = some o -> H b = none -> H' b = none)
  (there:∀ b o,b ∉ ch -> s.heap.get? b = some o -> ∃ o',h'.get? b = some o')
  (tups:∀ b xs,H b = some (.tup xs) -> H' b = some (.tup xs)) (frzs:∀ b o u,H b = some (.frz o u) -> H' b = some (.frz o u)) (tbls:∀ b ps,H b = some (.tbl ps) -> ∃ more,H' b = some (.tbl (ps ++ more)))
  (ns:∀ m,s.heap.Ns X.env.locals m -> h'.Ns X.env.locals m) (hok:HOk X.prog X.w H' h') (hg:AllBare g') :
  Inv X pins σ H' { s with heap:=h',gens:=g',drawn:=d',toks:=t' }:=by
 have neL:∀ b o,X.s₀.heap.get? b = some o -> b ≠ X.env.locals:=fun b o e=>Pz (PY (Pt e) I.ok.above)
 have neC:∀ b o,X.s₀.heap.get? b = some o -> b ∉ X.ex -> b ∉ ch:=fun b o e hx hb=>by
  rcases (hch b hb).1 with z | z
  ·exact hx z
  ·exact absurd (PY (Pt e) z) (Qw _)
 have cellK:∀ x c,X.env.cells.lookup x = some c -> ∀ v,s.heap.IsCell c v -> h'.IsCell c v:=fun x c e v hpt0=>by
  obtain ⟨o,ho,hd⟩:=hpt0
  have nch:c ∉ ch:=fun z=>(hch c z).2.2.1 x c e rfl
  by_cases hc:c ∈ X.fs
  ·obtain ⟨sl,q⟩:=slot c o (I.cne x c e) hc nch ho (I.freeC x c e)
   exact ⟨_,q,hd⟩
  ·exact ⟨o,keep c o (I.cne x c e) hc nch ho (I.freeC x c e),hd⟩
 refine ⟨I.ok,I.os,hg,⟨fun b o e n hb hx=>?_,fun b o e n hb hx=>?_,fun b o e n hx=>?_,fun b o e hx=>?_,fun b xs e=>tups b xs (I.base.tups b xs e),fun b o xs e=>frzs b o xs (I.base.frzs b o xs e),fun b ps e=>?_⟩,?_,fun x c e=>?_,?_,fun x c e=>?_,fun p hp=>?_,hok,I.len⟩
 ·exact keep b o (neL b o e) hb (neC b o e hx) (I.base.keep b o e n hb hx) (I.base.free b o e n hx)
 ·obtain ⟨sl,e1⟩:=I.base.slot b o e n hb hx
  obtain ⟨sl',e2⟩:=slot b _ (neL b o e) hb (neC b o e hx) e1 (I.base.free b o e n hx)
  exact ⟨sl',e2⟩
 ·obtain ⟨o',e1⟩:=I.base.there b o e hx
  exact free b o' (neC b o e hx) e1 (I.base.free b o e n hx)
 ·obtain ⟨o',e1⟩:=I.base.there b o e hx
  exact there b o' (neC b o e hx) e1
 ·obtain ⟨m1,e1⟩:=I.base.tbls b ps e
  obtain ⟨m2,e2⟩:=tbls b _ e1
  exact ⟨m1 ++ m2,by rw [e2,Array.append_assoc]⟩
 ·obtain ⟨m,hn,hl⟩:=I.loc
  refine ⟨m,ns m hn,fun i x v e1 e2 e3=>?_⟩
  obtain ⟨u,r,l⟩:=hl i x v e1 e2 e3
  refine ⟨u,r,?_⟩
  rcases l with l | ⟨k,c,e,z⟩
  ·exact .inl l
  ·exact .inr ⟨k,c,e,cellK x c e _ z⟩
 ·obtain ⟨v,z⟩:=I.cell x c e
  exact ⟨v,cellK x c e v z⟩
 ·obtain ⟨m,⟨o,_,_,ho,_⟩,_⟩:=I.loc
  exact free _ o (fun z=>(hch _ z).2.1 rfl) ho I.free
 ·obtain ⟨v,o,ho,hd⟩:=I.cell x c e
  exact free c o (fun z=>(hch c z).2.2.1 x c e rfl) ho (I.freeC x c e)
 ·obtain ⟨e,n,ne,nf,d⟩:=I.pin p hp
  have nch:p.1 ∉ ch:=fun z=>(hch p.1 z).2.2.2 p hp rfl
  exact ⟨keep p.1 p.2 ne nf nch e n,free p.1 p.2 nch e n,ne,nf,d⟩
theorem Inv.un {t':Nat} (I:Inv X pins σ H s) (u:Un X.fs [] H H' s.heap h') (hok:HOk X.prog X.w H' h'):Inv X pins σ H' { s with heap:=h',toks:=t' }:=by
 obtain ⟨m,⟨o,es,ep,ho,r⟩,_⟩:=id I.loc
 obtain ⟨sl,hL⟩:=u.any ho I.free (by simp)
 exact I.step (g':=s.gens) (d':=s.drawn) (ch:=[]) (fun _ z=>nomatch z) (fun b o _ hb _ e n=>u.keep b o e n hb (by simp)) (fun b o _ hb _ e n=>u.slot b o e n hb (by simp)) (fun b o _ e n=>u.free b o e n (by simp)) (fun b o _ e=>u.there b o e (by simp)) u.tups u.frzs u.tbls (fun m' hm=>by
  obtain ⟨o',es',ep',ho',r'⟩:=hm
  rw [ho] at ho';cases ho'
  exact ⟨_,es',ep',hL,r'⟩) hok I.bare
theorem Inv.call {g':Array GenState} {t':Nat} {d':Drawn} {ch:List Addr} (I:Inv X pins σ H s) (u:Un (frs X.stack) ch H H' s.heap h') (hok:HOk X.prog X.w H' h') (hg:AllBare g')
  (hch:∀ b ∈ ch,(b ∈ X.ex \/ X.s₀.heap.objs.size <= b) /\ b ≠ X.env.locals /\ (∀ x c,X.env.cells.lookup x = some c -> c ≠ b) /\ ∀ p ∈ X.pn ++ pins,p.1 ≠ b) :
  Inv X pins σ H' { s with heap:=h',gens:=g',drawn:=d',toks:=t' }:=by
 obtain ⟨m,⟨o,es,ep,ho,r⟩,_⟩:=id I.loc
 obtain ⟨sl,hL⟩:=u.any ho I.free fun z=>(hch _ z).2.1 rfl
 exact I.step (ch:=ch) hch (fun b o hL hb hc e n=>u.keep b o e n (fun z=>(Pn.mp (I.stkSub b z)).elim hL hb) hc) (fun b o _ _ hc e n=>u.any e n hc) (fun b o hc e n=>u.free b o e n hc) (fun b o hc e=>u.there b o e hc) u.tups u.frzs u.tbls (fun m' hm=>by
  obtain ⟨o',es',ep',ho',r'⟩:=hm
  rw [ho] at ho';cases ho'
  exact ⟨_,es',ep',hL,r'⟩) hok hg
theorem Inv.turned {t':Nat} {it:Addr} (I:Inv X pins σ H s) (k:∀ b o,b ≠ it -> s.heap.get? b = some o -> h'.get? b = some o) (hn:H it = none) (hL:it ≠ X.env.locals)
  (h1:it ∈ X.ex \/ X.s₀.heap.objs.size <= it) (h2:∀ x c,X.env.cells.lookup x = some c -> c ≠ it) (h3:∀ p ∈ X.pn ++ pins,p.1 ≠ it):Inv X pins σ H { s with heap:=h',toks:=t' }:=by
 have nit:∀ b u,H b = some u -> b ≠ it:=fun b u e z=>by rw [z,hn] at e;cases e
 refine I.step (g':=s.gens) (d':=s.drawn) (ch:=[it]) (fun b hb=>?_) (fun b o _ _ hc e _=>k b o (fun z=>hc (by simp [z])) e) (fun b o _ _ hc e _=>⟨o.slots,k b o (fun z=>hc (by simp [z])) e⟩) (fun _ _ _ _ n=>n)
  (fun b o hc e=>⟨o,k b o (fun z=>hc (by simp [z])) e⟩) (fun _ _ e=>e) (fun _ _ _ e=>e) (fun b ps e=>⟨#[],by rw [e];simp⟩) (fun m hm=>?_) (fun b u e=>?_) I.bare
 ·have e:b = it:=by simpa using hb
  subst e
  exact ⟨h1,hL,h2,h3⟩
 ·obtain ⟨o,es,ep,ho,r⟩:=hm
  exact ⟨o,es,ep,k _ o (P1 hL) ho,r⟩
 ·refine (I.hok b u e).stay (fun c v hc q=>k c v ?_ q) (fun _ q=>q) fun _ _ q=>q
  rcases hc with z | z
  ·rw [z];exact nit b u e
  ·exact nit c _ z
theorem Inv.tok (I:Inv X pins σ H s) (t:Nat):Inv X pins σ H { s with toks:=t }:=I.un (h':=s.heap) (t':=t) Un.refl I.hok
theorem Inv.kept {t':Nat} (I:Inv X pins σ H s) (k:∀ b u,s.heap.get? b = some u -> h'.get? b = some u):Inv X pins σ H { s with heap:=h',toks:=t' }:=I.un (Un.kept k) (I.hok.kept k)
theorem Inv.laid {a:Addr} {o:HO} {t':Nat} (I:Inv X pins σ H s) (k:∀ b u,s.heap.get? b = some u -> h'.get? b = some u) (hp:s.heap.objs.size <= a) (new:ObjOk X.prog X.w (upd H a o) h' a o) :
  Inv X pins σ (upd H a o) { s with heap:=h',toks:=t' }:=I.un (Un.laid k hp (I.hok.fresh hp)) (I.hok.laid k hp new)
theorem Inv.write {x e:Addr} {o:HO} {t':Nat} (I:Inv X pins σ H s) (mu:Mut (H x)) (he:e = x \/ H e = some (.own x)) (k:∀ b u,b ≠ e -> s.heap.get? b = some u -> h'.get? b = some u) (heo:∃ u,h'.get? e = some u)
  (new:ObjOk X.prog X.w (upd H x o) h' x o):Inv X pins σ (upd H x o) { s with heap:=h',toks:=t' }:=I.un (Un.write mu he k heo) (I.hok.write mu he k heo new)
theorem Inv.weak {σ':List (Option V)} (I:Inv X pins σ H s) (hl:σ'.length = σ.length) (w:∀ (i:Nat) v,σ'[i]? = some (some v) -> σ[i]? = some (some v)):Inv X pins σ' H s:=
 ⟨I.ok,I.os,I.bare,I.base,let ⟨m,hn,hl'⟩:=I.loc;⟨m,hn,fun i x v e1 e2 e3=>hl' i x v e1 (w i v e2) e3⟩,I.cell,I.free,I.freeC,I.pin,I.hok,hl.trans I.len⟩
theorem Inv.pins_of {pins':List (Addr × Obj)} (I:Inv X pins σ H s) (h:∀ p ∈ pins',s.heap.get? p.1 = some p.2 /\ H p.1 = none /\ p.1 ≠ X.env.locals /\ p.1 ∉ X.fs /\ ∀ v,p.2.data ≠ .cell v):Inv X pins' σ H s:=
 ⟨I.ok,I.os,I.bare,I.base,I.loc,I.cell,I.free,I.freeC,fun p hp=>(Po.mp hp).elim (fun z=>I.pin p (Pv _ z)) (h p),I.hok,I.len⟩
theorem Bb {N:List Str} (hN:N.Nodup) {i j:Nat} {x:Str} (a:N[i]? = some x) (b:N[j]? = some x):i = j:=by
 obtain ⟨h1,e1⟩:=Pw.mp a
 obtain ⟨h2,e2⟩:=Pw.mp b
 exact (List.getElem_inj hN).mp (e1.trans e2.symm)
theorem Ec {M:Model} {A:Around} {E:Value -> Shared -> Prop} {i:Nat} {x:Str} {v:V} {u:Value} {Q:Unit -> Shared -> Prop} (I:Inv X pins σ H s) (hN:X.N.Nodup) (hi:X.N[i]? = some x) (hx:Loc X.env.scope x) (r:RelV v u)
  (h:∀ s',Inv X pins (σ.set i (some v)) H s' -> (∃ a,Heap.SameBut a s.heap s'.heap /\ (a = X.env.locals \/ X.env.cells.lookup x = some a)) -> Q () s') (hf:X.fn x = true \/ X.env.scope.names.lookup x = some .local:=by first | exact .inl rfl | exact .inr rfl | assumption):wpAny M A (storeName X.env x u) Q E s:=by
 obtain ⟨m,hn,hl⟩:=id I.loc
 have hcls:(X.env.scope.kind == .class || (X.env.scope.kind == .module && X.env.locals != X.env.globals)) = false:=by rw [I.ok.kind];rfl
 have hiσ:i < σ.length:=by rw [I.len];exact (Pw.mp hi).1
 have cne:=I.cne
 have tracked:∀ {a:Addr} {h':Heap},(∃ o,s.heap.get? a = some o /\ H a = none) -> Heap.SameBut a s.heap h' -> HOk X.prog X.w H h':=fun {a h'} ha hs b ob e=>by
  obtain ⟨_,_,hfree⟩:=ha
  refine (I.hok b ob e).stay (fun c w' hc q=>(hs.2 c ?_).trans q) (fun _ q=>q) fun _ _ q=>q
  rintro rfl
  rcases hc with rfl | hc
  ·rw [hfree] at e;cases e
  ·rw [hfree] at hc;cases hc
 rcases hx with hk | hk
 ·refine wpAny_storeName_local hk hn (fun h' hn' hs=>?_) hcls
  obtain ⟨oL,_,_,hoL,_⟩:=id hn
  refine h _ ⟨I.ok,I.os,I.bare,⟨fun b o e n hb hx=>?_,fun b o e n hb hx=>?_,I.base.free,fun b o e hx=>?_,I.base.tups,I.base.frzs,I.base.tbls⟩,⟨_,hn',fun j y v' e1 e2 e3=>?_⟩,fun y c e=>?_,I.free,I.freeC,fun p hp=>?_,tracked ⟨oL,hoL,I.free⟩ hs,by simpa using I.len⟩ ⟨_,hs,.inl rfl⟩
  ·exact (hs.2 b (Pz (PY (Pt e) I.ok.above))).trans (I.base.keep b o e n hb hx)
  ·obtain ⟨sl,e1⟩:=I.base.slot b o e n hb hx
   exact ⟨sl,(hs.2 b (Pz (PY (Pt e) I.ok.above))).trans e1⟩
  ·obtain ⟨o',e1⟩:=I.base.there b o e hx
   exact ⟨o',(hs.2 b (Pz (PY (Pt e) I.ok.above))).trans e1⟩
  ·by_cases hj:j = i
   ·subst hj
    rw [hi] at e1;cases e1
    rw [Q2 hiσ] at e2
    cases e2
    exact ⟨u,r,.inl ⟨hk,by simp⟩⟩
   ·rw [Qk (P1 hj)] at e2
    obtain ⟨u',r',q⟩:=hl j y v' e1 e2 e3
    refine ⟨u',r',?_⟩
    rcases q with ⟨k,e⟩ | ⟨k,c,e,z⟩
    ·refine .inl ⟨k,?_⟩
     have:y ≠ x:=fun e=>hj (Bb hN e1 (e ▸ hi))
     simp [this,e]
    ·exact .inr ⟨k,c,e,z.sameBut hs (cne y c e)⟩
  ·obtain ⟨w',z⟩:=I.cell y c e
   exact ⟨w',z.sameBut hs (cne y c e)⟩
  ·obtain ⟨e,n,ne,nf,d⟩:=I.pin p hp
   exact ⟨(hs.2 p.1 ne).trans e,n,ne,nf,d⟩
 ·have hfn:X.fn x = true:=by
   rcases hf with z | z
   ·exact z
   ·rw [z] at hk;cases hk
  obtain ⟨c,hc⟩:=I.ok.has x (.inl hk)
  obtain ⟨w',z⟩:=I.cell x c hc
  refine wpAny_storeName_cell I.ok.kind hk hc z (fun h' hc' hs=>?_)
  obtain ⟨oc,hoc,hocd⟩:=id z
  refine h { s with heap:=h' } ⟨I.ok,I.os,I.bare,⟨fun b o e n hb hx=>?_,fun b o e n hb hx=>?_,I.base.free,fun b o e hx=>?_,I.base.tups,I.base.frzs,I.base.tbls⟩,⟨m,hn.sameBut hs (P1 (cne x c hc)),fun j y v' e1 e2 e3=>?_⟩,fun y c' e=>?_,I.free,I.freeC,fun p hp=>?_,tracked ⟨oc,hoc,I.freeC x c hc⟩ hs,by simpa using I.len⟩ ⟨c,hs,.inr hc⟩
  ·exact (hs.2 b (Pz (PY (Pt e) (I.ok.cab x c hfn hc)))).trans (I.base.keep b o e n hb hx)
  ·obtain ⟨sl,e1⟩:=I.base.slot b o e n hb hx
   exact ⟨sl,(hs.2 b (Pz (PY (Pt e) (I.ok.cab x c hfn hc)))).trans e1⟩
  ·obtain ⟨o',e1⟩:=I.base.there b o e hx
   exact ⟨o',(hs.2 b (Pz (PY (Pt e) (I.ok.cab x c hfn hc)))).trans e1⟩
  ·by_cases hj:j = i
   ·subst hj
    rw [hi] at e1;cases e1
    rw [Q2 hiσ] at e2
    cases e2
    exact ⟨u,r,.inr ⟨.inl hk,c,hc,hc'⟩⟩
   ·rw [Qk (P1 hj)] at e2
    obtain ⟨u',r',q⟩:=hl j y v' e1 e2 e3
    refine ⟨u',r',?_⟩
    rcases q with q | ⟨k,c',e,z'⟩
    ·exact .inl q
    ·refine .inr ⟨k,c',e,z'.sameBut hs ?_⟩
     rintro rfl
     exact hj (Bb hN e1 (I.ok.inj _ _ _ e hc ▸ hi))
  ·by_cases hcc:c' = c
   ·subst hcc;exact ⟨_,hc'⟩
   ·obtain ⟨w2,z2⟩:=I.cell y c' e
    exact ⟨w2,z2.sameBut hs hcc⟩
  ·obtain ⟨e,n,ne,nf,d⟩:=I.pin p hp
   refine ⟨(hs.2 p.1 ?_).trans e,n,ne,nf,d⟩
   intro q
   rw [q,hoc] at e
   have q':oc = p.2:=PR e
   exact d w' (by rw [<- q'];exact hocd)
theorem vg {M:Model} {A:Around} {E:Value -> Shared -> Prop} {i:Nat} {x:Str} {v:V} {u:Value} {Q:Unit -> Shared -> Prop} (I:Inv X pins σ H s) (hN:X.N.Nodup) (hi:X.N[i]? = some x) (hx:Loc X.env.scope x) (r:RelV v u)
  (h:∀ s',Inv X pins (σ.set i (some v)) H s' -> Q () s') (hf:X.fn x = true \/ X.env.scope.names.lookup x = some .local:=by first | exact .inl rfl | exact .inr rfl | assumption):wpAny M A (storeName X.env x u) Q E s:=
 Ec I hN hi hx r (fun s' I' _=>h s' I') hf
theorem Inv.call' {s':Shared} {ch:List Addr} (I:Inv X pins σ H s) (ho:s'.os = s.os) (u:Un (frs X.stack) ch H H' s.heap s'.heap) (hok:HOk X.prog X.w H' s'.heap) (hg:AllBare s'.gens)
  (hch:∀ b ∈ ch,(b ∈ X.ex \/ X.s₀.heap.objs.size <= b) /\ b ≠ X.env.locals /\ (∀ x c,X.env.cells.lookup x = some c -> c ≠ b) /\ ∀ p ∈ X.pn ++ pins,p.1 ≠ b):Inv X pins σ H' s':=by
 obtain ⟨h',g',d',t',o'⟩:=s'
 have e:o' = s.os:=ho
 subst e
 exact I.call (g':=g') (t':=t') (d':=d') u hok hg hch
end
abbrev XK:=Value -> Option Addr -> Hp -> Prop
abbrev St:=List (Option V)
abbrev VK:=V -> Hp -> Prop
abbrev TE:=St -> Hp -> VK -> Prop
abbrev TT:=St -> Hp -> (Bool -> Hp -> Prop) -> Prop
abbrev TA:=St -> Hp -> (List V -> Hp -> Prop) -> Prop
structure Ends where
 nx:St -> Hp -> Prop
 rt:VK
 bk:St -> Hp -> Prop:=fun _ _=>False
 ct:St -> Hp -> Prop:=fun _ _=>False
abbrev TS:=Ends -> St -> Hp -> Prop
def EP (X:Cx) (pins:List (Addr × Obj)) (σ:St) (Q:VK) (u:Value) (s':Shared):Prop:=∃ v H',Inv X pins σ H' s' /\ RelV v u /\ Q v H'
def TP (X:Cx) (pins:List (Addr × Obj)) (σ:St) (Q:Bool -> Hp -> Prop) (b:Bool) (s':Shared):Prop:=∃ H',Inv X pins σ H' s' /\ Q b H'
def AP (X:Cx) (pins:List (Addr × Obj)) (σ:St) (Q:List V -> Hp -> Prop) (us:List Value) (s':Shared):Prop:=∃ vs H',Inv X pins σ H' s' /\ Vals vs us /\ Q vs H'
def SP (X:Cx) (pins:List (Addr × Obj)) (D:Ends) (f:Flow) (s':Shared):Prop:=
 match f with
 | .next=>∃ σ' H',Inv X pins σ' H' s' /\ D.nx σ' H'
 | .brk=>∃ σ' H',Inv X pins σ' H' s' /\ D.bk σ' H'
 | .cont=>∃ σ' H',Inv X pins σ' H' s' /\ D.ct σ' H'
 | .ret u=>∃ v σ' H',Inv X pins σ' H' s' /\ RelV v u /\ D.rt v H'
def PE (X:Cx) (e:Expr) (t:TE):Prop:=
 ∀ (pins:List (Addr × Obj)) (s:Shared) (σ:St) (H:Hp) (Q:VK),Inv X pins σ H s -> t σ H Q -> wpAny (model X.prog X.w) X.A (eval e X.env) (EP X pins σ Q) X.xe s
def PT (X:Cx) (e:Expr) (t:TT):Prop:=
 ∀ (pins:List (Addr × Obj)) (s:Shared) (σ:St) (H:Hp) (Q:Bool -> Hp -> Prop),Inv X pins σ H s -> t σ H Q -> wpAny (model X.prog X.w) X.A (isTrue e X.env (eval e X.env)) (TP X pins σ Q) X.xe s
def PW (X:Cx) (e:Expr) (t:TT):Prop:=
 ∀ (whole:Sem Value) (pins:List (Addr × Obj)) (s:Shared) (σ:St) (H:Hp) (Q:Bool -> Hp -> Prop),Inv X pins σ H s -> t σ H Q -> wpAny (model X.prog X.w) X.A (isTrue e X.env whole) (TP X pins σ Q) X.xe s
theorem PW.pt {X:Cx} {e:Expr} {t:TT} (h:PW X e t):PT X e t:=h _
def PA (X:Cx) (es:List Expr) (t:TA):Prop:=
 ∀ (pos:Pos) (pins:List (Addr × Obj)) (s:Shared) (σ:St) (H:Hp) (Q:List V -> Hp -> Prop),Inv X pins σ H s -> t σ H Q -> wpAny (model X.prog X.w) X.A (spliced (backTo pos (starEach es X.env))) (AP X pins σ Q) X.xe s
def PS (X:Cx) (st:Stmt) (t:TS):Prop:=
 ∀ (pins:List (Addr × Obj)) (s:Shared) (σ:St) (H:Hp) (D:Ends),Inv X pins σ H s -> t D σ H -> wpAny (model X.prog X.w) X.A (exec st X.env) (SP X pins D) X.xe s
def PSs (X:Cx) (st:List Stmt) (t:TS):Prop:=
 ∀ (pins:List (Addr × Obj)) (s:Shared) (σ:St) (H:Hp) (D:Ends),Inv X pins σ H s -> t D σ H -> wpAny (model X.prog X.w) X.A (execs st X.env) (SP X pins D) X.xe s
theorem thn {α:Type} {t:Sem α} {Q Q':α -> Shared -> Prop} {M:Model} {A:Around} {E:Value -> Shared -> Prop} {s:Shared} (h:wpAny M A t Q E s) (hQ:∀ a s,Q a s -> Q' a s):wpAny M A t Q' E s:=P8 h hQ fun _ _ x=>x
section
variable {X:Cx}
def t7 (i:Nat):TE:=fun σ H Q=>∃ v,σ[i]? = some (some v) /\ Q v H
def tC (v:V):TE:=fun _ H Q=>Q v H
theorem Kv {i:Nat} {x:Str} {pos:Pos} (hN:X.N[i]? = some x) (hv:Vis X.env.scope x) (hd:(x == ("__debug__" : Str)) = false:=by decide) (hcd:(x == ("__classdict__" : Str)) = false:=by decide):PE X (.Name x pos) (t7 i):=by
 intro pins s σ H Q I h
 obtain ⟨v,e,h⟩:=h
 obtain ⟨m,hn,hl⟩:=I.loc
 obtain ⟨u,r,l⟩:=hl i x v hN e hv
 have fin:EP X pins σ Q u s:=⟨v,H,I,r,h⟩
 rcases l with ⟨hk,hm⟩ | ⟨hk,c,hc,hcell⟩
 ·exact wpAny_Name (wpAny_loadName_local I.ok.kind hk hn hm fin) hd
 ·rcases hk with hk | hk
  ·exact wpAny_Name (wpAny_loadName_cell I.ok.kind hk hc hcell fin) hd
  ·exact wpAny_Name (wpAny_loadName_free I.ok.kind hk hc hcell fin hcd) hd
theorem ah {i j pos}:PE X (.Constant (.int i) j pos) (tC (.int i)):=fun _ _ _ H _ I h=>wpAny_Constant_int ⟨.int i,H,I.tok _,⟨_,rfl⟩,h⟩
theorem Jc {b j pos}:PE X (.Constant (.bool b) j pos) (tC (.bl b)):=fun _ _ _ H _ I h=>Constant_bool ⟨.bl b,H,I,rfl,h⟩
theorem Jo {j pos}:PE X (.Constant .none j pos) (tC .non):=fun _ _ _ H _ I h=>Constant_none ⟨.non,H,I,rfl,h⟩
def Gl (X:Cx) (x:Str):Prop:=X.env.kindOf x = some .globalImplicit
theorem zN {E:Value -> Shared -> Prop} {pins:List (Addr × Obj)} {s:Shared} {σ:St} {H:Hp} {x:Str} {u:Value} {pos:Pos} {Q:Value -> Shared -> Prop} (I:Inv X pins σ H s) (hg:Gl X x) (hm:X.mg x = some u) (h:Q u s)
  (hd:(x == ("__debug__" : Str)) = false:=by decide):wpAny (model X.prog X.w) X.A (eval (.Name x pos) X.env) Q E s:=
 Calls.Name_function_global I.ok.kind hg (Calls.loadGlobal_global (by rw [I.ok.glob];exact I.mod.glob.keeps I.bk) hm h) hd
theorem nq {E:Value -> Shared -> Prop} {pins:List (Addr × Obj)} {s:Shared} {σ:St} {H:Hp} {x:Str} {u:Value} {pos:Pos} {Q:Value -> Shared -> Prop} (I:Inv X pins σ H s) (hg:Gl X x) (hm:X.mg x = none) (hv:bootBuiltins x = some u) (h:Q u s)
  (hn:x ≠ "__name__" := by decide) (hd:(x == ("__debug__" : Str)) = false:=by decide):wpAny (model X.prog X.w) X.A (eval (.Name x pos) X.env) Q E s:=by
 obtain ⟨mb,h1,h2⟩:=I.mod.blt
 exact Calls.Name_function_global I.ok.kind hg (Calls.loadGlobal_builtin (by rw [I.ok.glob];exact I.mod.glob.keeps I.bk) hm (by rw [I.ok.blt];exact h1.keeps I.bk) ((h2 x hn).trans hv) h) hd
theorem DC {x:Str} {v:V} {u:Value} {pos:Pos} (hg:Gl X x) (hm:X.mg x = some u) (r:RelV v u) (hd:(x == ("__debug__" : Str)) = false:=by decide):PE X (.Name x pos) (tC v):=
 fun _ _ _ H _ I h=>zN I hg hm ⟨v,H,I,r,h⟩ hd
theorem C8 {x:Str} {v:V} {u:Value} {pos:Pos} (hg:Gl X x) (hm:X.mg x = none) (hv:bootBuiltins x = some u) (r:RelV v u) (hn:x ≠ "__name__" := by decide) (hd:(x == ("__debug__" : Str)) = false:=by decide):PE X (.Name x pos) (tC v):=
 fun _ _ _ H _ I h=>nq I hg hm hv ⟨v,H,I,r,h⟩ hn hd
variable {a b:Expr} {ta tb:TE} {pos:Pos}
def tB (t:TE):TT:=fun σ H Q=>t σ H fun x H1=>∃ c,x = .bl c /\ Q c H1
variable {tA tB':TT} {rest:List Expr}
def Mn (t u:TT):TT:=fun σ H Q=>t σ H fun c H1=>if c = true then u σ H1 Q else Q false H1
def tOr (t u:TT):TT:=fun σ H Q=>t σ H fun c H1=>if c = true then Q true H1 else u σ H1 Q
def Lf (t:TT):TT:=fun σ H Q=>t σ H fun c H1=>Q (!c) H1
theorem kG (ha:PT X a tA):PW X (.BoolOp .And [a] pos) tA:=by
 intro wh pins s σ H Q I h
 refine isTrue_and (thn (ha pins s σ H Q I h) fun c s1 e=>?_)
 cases c with
 | true=>exact isTrue_and_nil e
 | false=>exact e
theorem yO (ha:PT X a tA):PW X (.BoolOp .Or [a] pos) tA:=by
 intro wh pins s σ H Q I h
 refine isTrue_or (thn (ha pins s σ H Q I h) fun c s1 e=>?_)
 cases c with
 | false=>exact isTrue_or_nil e
 | true=>exact e
theorem pB (ha:PT X a tA) (hb:PW X (.BoolOp .And (b :: rest) pos) tB'):PW X (.BoolOp .And (a :: b :: rest) pos) (Mn tA tB'):=by
 intro wh pins s σ H Q I h
 refine isTrue_and (thn (ha pins s σ H _ I h) fun c s1 hpt9=>?_)
 obtain ⟨H1,I1,q1⟩:=hpt9
 cases c with
 | true=>exact hb wh pins s1 σ H1 Q I1 q1
 | false=>exact ⟨H1,I1,q1⟩
theorem xJ (ha:PT X a tA) (hb:PW X (.BoolOp .Or (b :: rest) pos) tB'):PW X (.BoolOp .Or (a :: b :: rest) pos) (tOr tA tB'):=by
 intro wh pins s σ H Q I h
 refine isTrue_or (thn (ha pins s σ H _ I h) fun c s1 hpt9=>?_)
 obtain ⟨H1,I1,q1⟩:=hpt9
 cases c with
 | true=>exact ⟨H1,I1,q1⟩
 | false=>exact hb wh pins s1 σ H1 Q I1 q1
theorem yW (ha:PT X a tA):PT X (.UnaryOp .Not a pos) (Lf tA):=by
 intro pins s σ H Q I h
 exact isTrue_not (ha pins s σ H (fun c H1=>Q (!c) H1) I h)
def Ja (ta tb:TE):TE:=fun σ H Q=>ta σ H fun x H1=>∃ c,x = .bl c /\ if c = true then tb σ H1 Q else Q (.bl false) H1
theorem Kz {op} {t:TE} (h:PE X a t):PE X (.BoolOp op [a] pos) t:=fun pins s σ H Q I hw=>BoolOp_one (h pins s σ H Q I hw)
theorem Km (ha:PE X a ta) (hb:PE X (.BoolOp .And (b :: rest) pos) tb):PE X (.BoolOp .And (a :: b :: rest) pos) (Ja ta tb):=by
 intro pins s σ H Q I h
 refine BoolOp_and (thn (ha pins s σ H _ I h) fun v s1 hpt9=>?_)
 obtain ⟨x,H1,I1,r1,q1⟩:=hpt9
 obtain ⟨c,rfl,q1⟩:=q1
 cases r1
 refine wpAny_truthy_bool ?_
 cases c with
 | true=>exact hb pins s1 σ H1 Q I1 q1
 | false=>exact ⟨.bl false,H1,I1,rfl,q1⟩
end
def SqL (K:W.Frag) (H:Hp) (a:Addr) (xs:List V):Prop:=
 Rd H a (.lst xs) \/
  ∃ (o:Obj) (its:Array Value) (n:Nat),K.lookup a = some o /\ o.cls = .type "list" /\ o.dict = none /\ o.data = .seq its n /\ its.size <= sizeLine /\ Vals xs its.toList
def SqT (K:W.Frag) (H:Hp) (a:Addr) (xs:List V):Prop:=
 Rd H a (.tup xs) \/
  ∃ (o:Obj) (its:Array Value) (n:Nat),K.lookup a = some o /\ o.cls = .type "tuple" /\ o.data = .seq its n /\ its.size <= sizeLine /\ Vals xs its.toList
def Ng:Value -> Option V
 | .none=>some .non
 | .bool b=>some (.bl b)
 | .int i _=>some (.int i)
 | .str x _=>some (.str x)
 | .bytes b _=>some (.byt b)
 | .float b _=>some (.flt b)
 | .ref a=>some (.ref a)
 | .type n=>some (.ty n)
 | _=>none
theorem RelV.abs {x:V} {u:Value} (r:RelV x u):Ng u = some x:=by
 cases x with
 | non=>cases r;rfl
 | bl _=>cases r;rfl
 | int _=>obtain ⟨t,rfl⟩:=r;rfl
 | str _=>obtain ⟨t,rfl⟩:=r;rfl
 | byt _=>obtain ⟨t,rfl⟩:=r;rfl
 | flt _=>obtain ⟨t,rfl⟩:=r;rfl
 | ref _=>cases r;rfl
 | ty _=>cases r;rfl
theorem RelV.inj {x y:V} {u:Value} (r:RelV x u) (q:RelV y u):x = y:=PR (r.abs.symm.trans q.abs)
theorem Vals.inj {xs ys:List V} {us:List Value} (h:Vals xs us) (k:Vals ys us):xs = ys:=by
 induction h generalizing ys with
 | nil=>cases k;rfl
 | cons r t ih=>
  cases k with
  | cons r' t'=>rw [r.inj r',ih t']
section
variable {X:Cx} {pins:List (Addr × Obj)} {σ:St} {H:Hp} {s:Shared} {a:Addr} {xs ys:List V}
theorem SqL.of {K:W.Frag} (h:H a = some (.lst xs)):SqL K H a xs:=.inl (.inl h)
theorem SqT.of {K:W.Frag} (h:H a = some (.tup xs)):SqT K H a xs:=.inl (.inl h)
theorem Inv.list (I:Inv X pins σ H s) (h:SqL X.K H a xs):∃ its:List Value,Vals xs its /\ PlainL s.heap a its.toArray /\ xs.length <= sizeLine:=by
 rcases h with h | ⟨o,its,n,hk,hc,hd,hs,hz,r⟩
 ·obtain ⟨z,its,n,r,e⟩:=h.ok I.hok
  exact ⟨its,r,⟨_,n,e,rfl,rfl,rfl⟩,z⟩
 ·refine ⟨its.toList,r,⟨o,n,I.kIn a o hk,hc,hd,by simpa using hs⟩,?_⟩
  have e:=r.length
  simp only [P9] at e
  lia
theorem Inv.tuple (I:Inv X pins σ H s) (h:SqT X.K H a xs):∃ its:List Value,Vals xs its /\ IsTup s.heap a its.toArray /\ xs.length <= sizeLine:=by
 rcases h with h | ⟨o,its,n,hk,hc,hs,hz,r⟩
 ·obtain ⟨z,its,r,p⟩:=h.ok I.hok
  exact ⟨its,r,p,z⟩
 ·refine ⟨its.toList,r,⟨o,I.kIn a o hk,hc,n,by simpa using hs⟩,?_⟩
  have e:=r.length
  simp only [P9] at e
  lia
theorem Inv.list_inj (I:Inv X pins σ H s) (h:SqL X.K H a xs) (h':SqL X.K H a ys):xs = ys:=by
 obtain ⟨its,r,⟨o,n,e,_,_,d⟩,_⟩:=I.list h
 obtain ⟨its',r',⟨o',n',e',_,_,d'⟩,_⟩:=I.list h'
 rw [e] at e';cases e'
 rw [d] at d'
 injection d' with d1 _
 have:its = its':=by simpa using PC Array.toList d1
 subst this
 exact r.inj r'
theorem Inv.tuple_inj (I:Inv X pins σ H s) (h:SqT X.K H a xs) (h':SqT X.K H a ys):xs = ys:=by
 obtain ⟨its,r,⟨o,e,_,n,d⟩,_⟩:=I.tuple h
 obtain ⟨its',r',⟨o',e',_,n',d'⟩,_⟩:=I.tuple h'
 rw [e] at e';cases e'
 rw [d] at d'
 injection d' with d1 _
 have:its = its':=by simpa using PC Array.toList d1
 subst this
 exact r.inj r'
end
abbrev Cx.wish (X:Cx) (E:Value -> Shared -> Prop):Cx:={ X with xe:=E }
abbrev Cx.nox (X:Cx):Cx:=X.wish fun _ _=>False
theorem Cx.Ok.wish {X:Cx} (ok:X.Ok) (E:Value -> Shared -> Prop):(X.wish E).Ok:=
 ⟨ok.mod,ok.kind,ok.glob,ok.blt,ok.above,ok.inj,ok.has,ok.cab,ok.hd,ok.frames,ok.stk,ok.exf,ok.bs,ok.bsz,ok.noex,ok.exfs,ok.funs,ok.frf⟩
theorem Cx.Ok.unwish {X:Cx} {E:Value -> Shared -> Prop} (ok:(X.wish E).Ok):X.Ok:=
 ⟨ok.mod,ok.kind,ok.glob,ok.blt,ok.above,ok.inj,ok.has,ok.cab,ok.hd,ok.frames,ok.stk,ok.exf,ok.bs,ok.bsz,ok.noex,ok.exfs,ok.funs,ok.frf⟩
section
variable {X:Cx} {pins:List (Addr × Obj)} {σ:St} {H:Hp} {s:Shared} {E:Value -> Shared -> Prop}
theorem Inv.wish (I:Inv X pins σ H s) (E:Value -> Shared -> Prop):Inv (X.wish E) pins σ H s:=⟨I.ok.wish E,I.os,I.bare,I.base,I.loc,I.cell,I.free,I.freeC,I.pin,I.hok,I.len⟩
theorem Inv.unwish (I:Inv (X.wish E) pins σ H s):Inv X pins σ H s:=⟨I.ok.unwish,I.os,I.bare,I.base,I.loc,I.cell,I.free,I.freeC,I.pin,I.hok,I.len⟩
theorem SP.unwish {D:Ends} {f:Flow} {s':Shared} (h:SP (X.wish E) pins D f s'):SP X pins D f s':=by
 cases f with
 | next=>obtain ⟨σ',H',I,q⟩:=h;exact ⟨σ',H',I.unwish,q⟩
 | brk=>obtain ⟨σ',H',I,q⟩:=h;exact ⟨σ',H',I.unwish,q⟩
 | cont=>obtain ⟨σ',H',I,q⟩:=h;exact ⟨σ',H',I.unwish,q⟩
 | ret u=>obtain ⟨v,σ',H',I,r,q⟩:=h;exact ⟨v,σ',H',I.unwish,r,q⟩
theorem PSs.nox {st:List Stmt} {t:TS} (h:PSs X.nox st t):PSs X st t:=fun pins s σ H D I hw=>
 P8 (h pins s σ H D (I.wish _) hw) (fun _ _ q=>q.unwish) fun _ _ z=>False.elim z
end
section
variable {X:Cx} {st:Stmt} {rest:List Stmt} {t u:TS} {e:Expr} {te:TE} {pos:Pos}
def F8:TS:=fun D σ H=>D.nx σ H
def JA (t u:TS):TS:=fun D σ H=>t { D with nx:=u D } σ H
theorem bw:PSs X [] F8:=fun _ _ σ H _ I h=>Rz ⟨σ,H,I,h⟩
theorem ak (h1:PS X st t) (h2:PSs X rest u):PSs X (st :: rest) (JA t u):=by
 intro pins s σ H D I h
 refine wpAny_execs_cons (thn (h1 pins s σ H { D with nx:=u D } I h) fun f s1 q=>?_)
 cases f with
 | next=>
  obtain ⟨σ',H',I',q⟩:=q
  exact h2 pins s1 σ' H' D I' q
 | ret v=>exact q
 | brk=>exact q
 | cont=>exact q
theorem ao (h1:PS X st t):PSs X [st] t:=by
 intro pins s σ H D I h
 refine wpAny_execs_cons (thn (h1 pins s σ H D I h) fun f s1 q=>?_)
 cases f with
 | next=>exact Rz q
 | ret v=>exact q
 | brk=>exact q
 | cont=>exact q
theorem Inv.quiet {pins:List (Addr × Obj)} {σ:St} {H:Hp} {s:Shared} (I:Inv X pins σ H s):interactive X.env = false:=by simp [interactive,I.ok.kind]
def xA (te:TE):TS:=fun D σ H=>te σ H fun _ H1=>D.nx σ H1
theorem eo (he:PE X e te) (hs:swapsWith e none pos.line X.env = pure false:=by rfl):PS X (.Expr e pos) (xA te):=by
 intro pins s σ H D I h
 exact wpAny_Expr_any (thn (he pins s σ H _ I h) fun v s1 ⟨x,H1,I1,r1,q1⟩=>⟨σ,H1,I1,q1⟩) I.quiet hs
def Jz (te:TE):TS:=fun D σ H=>te σ H D.rt
theorem aM (he:PE X e te):PS X (.Return (some e) pos) (Jz te):=by
 intro pins s σ H D I h
 exact wpAny_Return_some (thn (he pins s σ H _ I h) fun v s1 ⟨x,H1,I1,r1,q1⟩=>⟨x,σ,H1,I1,r1,q1⟩)
def JE (c:TT) (t u:TS):TS:=fun D σ H=>c σ H fun b H1=>if b = true then t D σ H1 else u D σ H1
theorem cj {c:Expr} {a b:List Stmt} {tc:TT} (hc:PT X c tc) (ha:PSs X a t) (hb:PSs X b u):PS X (.If c a b pos) (JE tc t u):=by
 intro pins s σ H D I h
 refine wpAny_If (thn (hc pins s σ H _ I h) fun d s1 hpt9=>?_)
 obtain ⟨H1,I1,q1⟩:=hpt9
 cases d with
 | true=>exact ha pins s1 σ H1 D I1 q1
 | false=>exact hb pins s1 σ H1 D I1 q1
def zU:TS:=fun _ _ _=>False
theorem Aa:PS X st zU:=fun _ _ _ _ _ _ h=>h.elim
theorem sw {sts:List Stmt}:PSs X sts zU:=fun _ _ _ _ _ _ h=>h.elim
end
abbrev TG:=V -> St -> Hp -> (St -> Hp -> Prop) -> Prop
abbrev TGs:=List V -> St -> Hp -> (St -> Hp -> Prop) -> Prop
def PG (X:Cx) (target:Expr) (t:TG):Prop:=
 ∀ (pins:List (Addr × Obj)) (s:Shared) (σ:St) (H:Hp) (v:V) (u:Value) (Q:St -> Hp -> Prop),Inv X pins σ H s -> RelV v u -> t v σ H Q ->
  wpAny (model X.prog X.w) X.A (assign target X.env u) (fun _ s'=>∃ σ' H',Inv X pins σ' H' s' /\ Q σ' H') X.xe s
def PGs (X:Cx) (ts:List Expr) (t:TGs):Prop:=
 ∀ (pins:List (Addr × Obj)) (s:Shared) (σ:St) (H:Hp) (vs:List V) (us:List Value) (Q:St -> Hp -> Prop),Inv X pins σ H s -> Vals vs us -> t vs σ H Q ->
  wpAny (model X.prog X.w) X.A (assignInOrder ((assignEach ts X.env).map (·.2)) us) (fun _ s'=>∃ σ' H',Inv X pins σ' H' s' /\ Q σ' H') X.xe s
abbrev KS:=V -> V -> V -> Hp -> (Hp -> Prop) -> Prop
def LG (X:Cx) (t:KS):Prop:=
 ∀ (pins:List (Addr × Obj)) (s:Shared) (σ:St) (H:Hp) (o i v:V) (ov iv u:Value) (Q:Hp -> Prop),Inv X pins σ H s -> RelV o ov -> RelV i iv -> RelV v u -> t o i v H Q ->
  wpAny (model X.prog X.w) X.A (setItem ov iv u) (fun _ s'=>∃ H',Inv X pins σ H' s' /\ Q H') X.xe s
abbrev TIp:=V -> V -> Hp -> VK -> Prop
def PIp (X:Cx) (op:Operator) (t:TIp):Prop:=
 ∀ (pins:List (Addr × Obj)) (s:Shared) (σ:St) (H:Hp) (x y:V) (v u:Value) (Q:VK),Inv X pins σ H s -> RelV x v -> RelV y u -> t x y H Q ->
  wpAny (model X.prog X.w) X.A (inplaceOp op v u) (EP X pins σ Q) X.xe s
section
variable {X:Cx} {pos:Pos}
def kt (i:Nat):TG:=fun v σ H Q=>Q (σ.set i (some v)) H
theorem qQ {i:Nat} {x:Str} (hN:X.N.Nodup) (hi:X.N[i]? = some x) (hx:Loc X.env.scope x) (hf:X.fn x = true \/ X.env.scope.names.lookup x = some .local:=by first | exact .inl rfl | exact .inr rfl | assumption):PG X (.Name x pos) (kt i):=by
 intro pins s σ H v u Q I r h
 exact wpAny_assign_Name (vg I hN hi hx r (fun s' I'=>⟨_,H,I',h⟩) hf)
def KC:TGs:=fun vs σ H Q=>vs = [] /\ Q σ H
def GO (t:TG) (u:TGs):TGs:=fun vs σ H Q=>∃ v r,vs = v :: r /\ t v σ H fun σ' H'=>u r σ' H' Q
theorem bH:PGs X [] KC:=by
 intro pins s σ H vs us Q I r h
 obtain ⟨e,h⟩:=h
 subst e
 cases r
 exact assignInOrder_nil ⟨σ,H,I,h⟩
theorem aC {e:Expr} {es:List Expr} {t:TG} {u:TGs} (h1:PG X e t) (h2:PGs X es u)
  (hs:(assignEach (e :: es) X.env).map (·.2) = assign e X.env :: (assignEach es X.env).map (·.2):=by rfl):PGs X (e :: es) (GO t u):=by
 intro pins s σ H vs us Q I r h
 obtain ⟨v,vr,e1,h⟩:=h
 subst e1
 cases r with
 | cons r rr=>
  rw [hs]
  refine assignInOrder_cons (thn (h1 pins s σ H _ _ _ I r h) fun _ s1 hpt9=>?_)
  obtain ⟨σ1,H1,I1,q1⟩:=hpt9
  exact h2 pins s1 σ1 H1 _ _ Q I1 rr q1
def J2 (K:W.Frag) (n:Nat) (t:TGs):TG:=fun v σ H Q=>∃ a xs,v = .ref a /\ SqT K H a xs /\ xs.length = n /\ t xs σ H Q
theorem cu {es:List Expr} {k:Nat} {t:TGs} {n:Nat} (hc:X.calm = true) (h:PGs X es t)
  (hn:(assignEach es X.env).length = n:=by rfl) (hst:(assignEach es X.env).findIdx? (·.1) = none:=by rfl):PG X (.Tuple es k pos) (J2 X.K n t):=by
 intro pins s σ H v u Q I r hw
 obtain ⟨a,xs,e1,hq,hl,hw⟩:=hw
 subst e1
 cases r
 obtain ⟨its,rv,ht,hz⟩:=I.tuple hq
 refine assign_Tuple_tuple (I.ok.hd hc) ht (by simp [hn,<- hl,rv.length]) hst fun h' hx=>?_
 have I1:Inv X pins σ H { s with heap:=h' }:=I.kept (t':=s.toks) fun b o e=>hx b o (Pz (Pt e)) e
 exact h pins _ σ H xs _ Q I1 (by simpa using rv) hw
def L0 (to ti:TE) (t:KS):TG:=fun v σ H Q=>to σ H fun o H1=>ti σ H1 fun i H2=>t o i v H2 fun H3=>Q σ H3
theorem BO {o i:Expr} {to ti:TE} {t:KS} (ho:PE X o to) (hi:PE X i ti) (hs:LG X t)
  (ha:∀ v,assign (.Subscript o i pos) X.env v = (do
   let ov ← holding [v] (eval o X.env)
   let iv ← holding [v,ov] (eval i X.env)
   standAt pos
   holding [v,ov,iv] (setItem ov iv v)
   release [v,ov,iv] []):=by intro _;rfl):PG X (.Subscript o i pos) (L0 to ti t):=by
 intro pins s σ H v u Q I r h
 rw [ha]
 refine Pb (QQ (thn (ho pins s σ H _ I h) fun ov s1 hpt9=>?_))
 obtain ⟨x,H1,I1,r1,q1⟩:=hpt9
 refine Pb (QQ (thn (hi pins s1 σ H1 _ I1 q1) fun iv s2 hpt9=>?_))
 obtain ⟨y,H2,I2,r2,q2⟩:=hpt9
 refine Pb (wpAny_standAt (Pb (QQ (thn (hs pins s2 σ H2 x y v ov iv u _ I2 r1 r2 r q2) fun _ s3 hpt9=>?_))))
 obtain ⟨H3,I3,q3⟩:=hpt9
 exact wpAny_release ⟨σ,H3,I3,q3⟩
def A7 (te:TE) (g:TG):TS:=fun D σ H=>te σ H fun x H1=>g x σ H1 D.nx
theorem Cl {tg e:Expr} {te:TE} {g:TG} (he:PE X e te) (hg:PG X tg g) (hs:swapsWithSole [tg] e pos.line X.env = pure false:=by rfl) (hw:swappedStores [tg] e X.env = pure none:=by rfl)
  (h1:(assignEach [tg] X.env).map (·.2) = [assign tg X.env]:=by rfl):PS X (.Assign [tg] e pos) (A7 te g):=by
 intro pins s σ H D I h
 refine wpAny_Assign_stores (thn (he pins s σ H _ I h) fun v s1 hpt9=>?_) hs hw
 obtain ⟨x,H1,I1,r1,q1⟩:=hpt9
 rw [h1]
 exact thn (hg pins s1 σ H1 x v _ I1 r1 q1) fun _ s2 q=>q
theorem CO {i:Nat} {x:Str} {e:Expr} {te:TE} {pos':Pos} (hN:X.N.Nodup) (hi:X.N[i]? = some x) (hx:Loc X.env.scope x) (he:PE X e te) (hs:swapsWith e (some (.Name x pos')) pos.line X.env = pure false:=by rfl) (hf:X.fn x = true \/ X.env.scope.names.lookup x = some .local:=by first | exact .inl rfl | exact .inr rfl | assumption) :
  PS X (.Assign [.Name x pos'] e pos) (A7 te (kt i)):=by
 intro pins s σ H D I h
 refine wpAny_Assign_Name (thn (he pins s σ H _ I h) fun v s1 hpt9=>?_) hs
 obtain ⟨y,H1,I1,r1,q1⟩:=hpt9
 exact vg I1 hN hi hx r1 (fun s2 I2=>⟨_,H1,I2,q1⟩) hf
def Mo (i:Nat) (te:TE) (ti:TIp):TS:=fun D σ H=>∃ x,σ[i]? = some (some x) /\ te σ H fun y H1=>ti x y H1 fun z H2=>D.nx (σ.set i (some z)) H2
theorem zS {i:Nat} {x:Str} {e:Expr} {te:TE} {op:Operator} {ti:TIp} {pos':Pos} (hN:X.N.Nodup) (hi:X.N[i]? = some x) (hx:Loc X.env.scope x) (he:PE X e te) (ho:PIp X op ti) (hf:X.fn x = true \/ X.env.scope.names.lookup x = some .local:=by first | exact .inl rfl | exact .inr rfl | assumption) :
  PS X (.AugAssign (.Name x pos') op e pos) (Mo i te ti):=by
 intro pins s σ H D I h
 obtain ⟨v,e1,h⟩:=h
 obtain ⟨m,hn,hl⟩:=I.loc
 have vis:Vis X.env.scope x:=by rcases hx with k | k;exact .inl k;exact .inr (.inl k)
 obtain ⟨u,r,l⟩:=hl i x v hi e1 vis
 refine wpAny_AugAssign_Name ?_
 have go:wpAny (model X.prog X.w) X.A (eval e X.env) (fun w s₂=>wpAny (model X.prog X.w) X.A (inplaceOp op u w) (fun r s₃=>wpAny (model X.prog X.w) X.A (storeName X.env x r) (fun _=>SP X pins D .next) X.xe s₃) X.xe s₂) X.xe s:=by
  refine thn (he pins s σ H _ I h) fun w s1 hpt9=>?_
  obtain ⟨y,H1,I1,r1,q1⟩:=hpt9
  refine thn (ho pins s1 σ H1 v y u w _ I1 r r1 q1) fun z s2 hpt9=>?_
  obtain ⟨zv,H2,I2,r2,q2⟩:=hpt9
  exact vg I2 hN hi hx r2 (fun s3 I3=>⟨_,H2,I3,q2⟩) hf
 rcases l with ⟨hk,hm⟩ | ⟨hk,c,hc,hcell⟩
 ·exact wpAny_loadName_local I.ok.kind hk hn hm go
 ·rcases hk with hk | hk
  ·exact wpAny_loadName_cell I.ok.kind hk hc hcell go
  ·rcases hx with k | k
   ·have:X.env.scope.names.lookup x = some .free:=hk
    rw [k] at this;cases this
   ·have:X.env.scope.names.lookup x = some .free:=hk
    rw [k] at this;cases this
def ipI (f:Int -> Int -> Int):TIp:=fun x y H Q=>∃ i j,x = .int i /\ y = .int j /\ Q (.int (f i j)) H
theorem zu:PIp X .Add (ipI fun i j=>i + j):=by
 intro pins s σ H x y v u Q I r1 r2 h
 obtain ⟨i,j,e1,e2,q⟩:=h
 subst e1;subst e2
 obtain ⟨t,rfl⟩:=r1
 obtain ⟨t',rfl⟩:=r2
 exact iadd_int ⟨.int _,H,I.tok _,⟨_,rfl⟩,q⟩
end
section
variable {X:Cx} {pos:Pos}
def Hj (c:TT) (tb:TS):TS:=fun D σ H=>∃ W:Nat -> St -> Hp -> Prop,(∃ m,W m σ H) /\ ∀ m σ H,W m σ H ->
 c σ H fun b H1=>if b = true then ∃ N:St -> Hp -> Prop,(∀ σ' H',N σ' H' -> ∃ m',m' < m /\ W m' σ' H') /\ tb { D with nx:=N,ct:=N,bk:=D.nx } σ H1 else D.nx σ H1
theorem ny {c:Expr} {body:List Stmt} {tc:TT} {tb:TS} (hp:PassesOwn (model X.prog X.w) X.A X.env X.xe) (hc:PT X c tc) (hb:PSs X body tb):PS X (.While c body [] pos) (Hj tc tb):=by
 intro pins s σ H D I h
 obtain ⟨W,⟨m0,w0⟩,turn⟩:=h
 refine wpAny_While (codeAny_whileLoop (fun n s'=>∃ σ' H',Inv X pins σ' H' s' /\ W n σ' H') ?_ m0 ⟨σ,H,I,w0⟩)
 rintro n s1 ⟨σ1,H1,I1,w1⟩
 refine QR hp (thn (hc pins s1 σ1 H1 _ I1 (turn n σ1 H1 w1)) fun b s2 hpt9=>?_)
 obtain ⟨H2,I2,q2⟩:=hpt9
 cases b with
 | true=>
  obtain ⟨N,hN,q2⟩:=q2
  rw [O7 rfl]
  refine QR hp (thn (hb pins s2 σ1 H2 _ I2 q2) fun f s3 q3=>?_)
  cases f with
  | next=>
   obtain ⟨σ3,H3,I3,n3⟩:=q3
   obtain ⟨m',hm,w3⟩:=hN σ3 H3 n3
   exact ⟨m',hm,σ3,H3,I3,w3⟩
  | cont=>
   obtain ⟨σ3,H3,I3,n3⟩:=q3
   obtain ⟨m',hm,w3⟩:=hN σ3 H3 n3
   exact ⟨m',hm,σ3,H3,I3,w3⟩
  | brk=>exact q3
  | ret v=>exact q3
 | false=>
  rw [O8 QS]
  exact Rz ⟨σ1,H2,I2,q2⟩
end
structure It where
 go:Nat -> Hp -> Prop
 yld:Nat -> Hp -> V -> Hp -> Prop
 stop:Nat -> Hp -> Prop
def p7 (X:Cx) (pins:List (Addr × Obj)) (H:Hp) (b:Addr):Prop:=
 H b = none /\ b ≠ X.env.locals /\ b ∉ X.fs /\ (b ∈ X.ex \/ X.s₀.heap.objs.size <= b) /\ (∀ x c,X.env.cells.lookup x = some c -> c ≠ b) /\ ∀ p ∈ X.pn ++ pins,p.1 ≠ b
theorem Inv.fpOk {X:Cx} {pins:List (Addr × Obj)} {σ:St} {H H':Hp} {s:Shared} {b:Addr} (I:Inv X pins σ H s) (hb:s.heap.objs.size <= b) (hn:H' b = none):p7 X pins H' b:=by
 refine ⟨hn,Nat.ne_of_gt (PY I.lt hb),I.nofs hb,.inr (PL I.sz hb),fun x c e z=>?_,fun p hp z=>?_⟩
 ·obtain ⟨v,q⟩:=I.cell x c e
  exact absurd (PY q.lt (by rw [z];exact hb)) (Qw _)
 ·exact absurd (PY (Pt (I.pin p hp).1) (by rw [z];exact hb)) (Qw _)
structure Turn (P:Program) (w:World) (K:W.Frag) (tg:Expr) (J:It) (fp:List Addr) (it:Addr) (tn:Nat -> Heap -> Prop):Prop where
 mem:it ∈ fp
 obj:∀ i h,tn i h -> ∀ b ∈ fp,∃ o,h.get? b = some o /\ ∀ v,o.data ≠ .cell v
 keep:∀ i h h',tn i h -> (∀ b ∈ fp,∀ o,h.get? b = some o -> h'.get? b = some o) -> tn i h'
 item:∀ (X:Cx),X.prog = P -> X.w = w -> X.K = K -> X.calm = true -> ∀ (i:Nat) (pins:List (Addr × Obj)) (s:Shared) (σ:St) (H:Hp) (E:Value -> Shared -> Prop),Inv X pins σ H s -> (∀ b ∈ fp,p7 X pins H b) -> tn i s.heap -> J.go i H ->
  wpAny (model P w) X.A (pyNext (.ref it)) (fun r s1=>∃ u,r = some u /\
   wpAny (model P w) X.A (letOwnedTupleGo tg (.ref it) u) (fun _ s2=>∃ x H',Inv X pins σ H' s2 /\ RelV x u /\ J.yld i H x H' /\ tn (i + 1) s2.heap /\ ∀ b ∈ fp,H' b = none) E s1) E s
 done:∀ (X:Cx),X.prog = P -> X.w = w -> X.K = K -> X.calm = true -> ∀ (i:Nat) (pins:List (Addr × Obj)) (s:Shared) (σ:St) (H:Hp) (E:Value -> Shared -> Prop),Inv X pins σ H s -> (∀ b ∈ fp,p7 X pins H b) -> tn i s.heap -> J.stop i H ->
  wpAny (model P w) X.A (pyNext (.ref it)) (fun r s1=>r = none /\ Inv X pins σ H s1) E s
 self:∀ (A:Around) (i:Nat) (s:Shared) (Q:Value -> Shared -> Prop) (E:Value -> Shared -> Prop),tn i s.heap -> Q (.ref it) s -> wpAny (model P w) A (pyIter (.ref it)) Q E s
abbrev TI:=St -> Hp -> (It -> Hp -> Prop) -> Prop
def PIE (X:Cx) (pins:List (Addr × Obj)) (σ:St) (tg:Expr) (R:It -> Hp -> Prop) (itv:Value) (s2:Shared):Prop:=
 ∃ (it:Addr) (fp:List Addr) (tn:Nat -> Heap -> Prop) (J:It) (H':Hp),itv = .ref it /\ Inv X pins σ H' s2 /\ Turn X.prog X.w X.K tg J fp it tn /\ tn 0 s2.heap /\ (∀ b ∈ fp,p7 X pins H' b) /\ R J H'
def PI (X:Cx) (tg iter:Expr) (wi:TI):Prop:=
 ∀ (pins:List (Addr × Obj)) (s:Shared) (σ:St) (H:Hp) (R:It -> Hp -> Prop),Inv X pins σ H s -> wi σ H R ->
  wpAny (model X.prog X.w) X.A (eval iter X.env) (fun v s1=>wpAny (model X.prog X.w) X.A (pyIter v) (PIE X pins σ tg R) X.xe s1) X.xe s
theorem wL {M:Model} {A:Around} {E:Value -> Shared -> Prop} {s:Shared} {tg:Expr} {it:Addr} {u:Value} {o:Obj} {n:String} {vs:Array Value} {Q:Unit -> Shared -> Prop} (ho:s.heap.get? it = some o) (hc:o.cls = .type n) (hd:o.data = .fields vs)
  (hn:["enumerate", "zip", "dict_itemiterator", "dict_reverseitemiterator", "odict_iterator", "itertools.zip_longest", "itertools.pairwise"].contains n = false) (hQ:Q () s):wpAny M A (letOwnedTupleGo tg (.ref it) u) Q E s:=by
 unfold letOwnedTupleGo
 cases tg <;> first
  | exact Pj hQ
  | (cases u <;> first
    | exact Pj hQ
    | (refine Pb (wpAny_load ho ?_)
       rw [hc,hd]
       show wpAny M A (if (["enumerate", "zip", "dict_itemiterator", "dict_reverseitemiterator", "odict_iterator", "itertools.zip_longest", "itertools.pairwise"].contains n && vs[0]? == some (rawInt _)) = true then _ else _) Q E s
       rw [O8 (by intro h;rw [hn,Bool.false_and] at h;cases h)]
       exact Pj hQ))
def Itl (K:W.Frag) (a:Addr):It:=
 ⟨fun i H=>∃ xs x,SqL K H a xs /\ xs[i]? = some x,fun i H x H'=>H' = H /\ ∀ xs,SqL K H a xs -> xs[i]? = some x,fun i H=>∃ xs,SqL K H a xs /\ xs.length <= i⟩
def Itt (K:W.Frag) (a:Addr):It:=
 ⟨fun i H=>∃ xs x,SqT K H a xs /\ xs[i]? = some x,fun i H x H'=>H' = H /\ ∀ xs,SqT K H a xs -> xs[i]? = some x,fun i H=>∃ xs,SqT K H a xs /\ xs.length <= i⟩
def Itr (lo:Int) (n:Nat):It:=⟨fun i _=>i < n,fun i H x H'=>H' = H /\ x = .int (lo + i),fun i _=>n <= i⟩
theorem D8 {P:Program} {w:World} {K:W.Frag} {tg:Expr} (a it:Addr):Turn P w K tg (Itl K a) [it] it (fun i h=>h.IsListIter it a i) where
 mem:=by simp
 obj:=fun i h st b hb=>by
  have e:b = it:=by simpa using hb
  subst e
  obtain ⟨o,e,c,d⟩:=st
  exact ⟨o,e,fun v z=>by rw [d] at z;cases z⟩
 keep:=fun i h h' st k=>st.at fun o e=>k it (by simp) o e
 item:=by
  intro X hP hw hK hc i pins s σ H E I hf st hg
  subst hP hw hK
  obtain ⟨xs,x,hq,hx⟩:=hg
  obtain ⟨its,rv,p,hz⟩:=I.list hq
  obtain ⟨u,hu,ru⟩:=rv.get hx
  obtain ⟨f0,f1,f2,f3,f4,f5⟩:=hf it (by simp)
  refine wpAny_pyNext_list_item st p.isList (x:=u) (by simpa using hu) fun h' st' sb=>?_
  have I1:Inv X pins σ H { s with heap:=h' }:=I.turned (t':=s.toks) (fun b o hb e=>(sb.2 b hb).trans e) f0 f1 f3 f4 f5
  obtain ⟨o,e,c,d⟩:=id st'
  exact ⟨u,rfl,wL (s:={ s with heap:=h' }) e c d (by decide) ⟨x,H,I1,ru,⟨rfl,fun ys hy=>by rw [I.list_inj hy hq];exact hx⟩,st',fun b hb=>(hf b hb).1⟩⟩
 done:=by
  intro X hP hw hK hc i pins s σ H E I hf st hg
  subst hP hw hK
  obtain ⟨xs,hq,hx⟩:=hg
  obtain ⟨its,rv,p,hz⟩:=I.list hq
  obtain ⟨f0,f1,f2,f3,f4,f5⟩:=hf it (by simp)
  have hl:=rv.length
  exact wpAny_pyNext_list_end (I.ok.hd hc) st p.isList (by simp;lia) fun h' eb=>⟨rfl,I.turned (t':=s.toks) (fun b o hb e=>eb b o hb e) f0 f1 f3 f4 f5⟩
 self:=fun _ _ _ _ _ st h=>wpAny_pyIter_listiter st h
theorem Cf {P:Program} {w:World} {K:W.Frag} {tg:Expr} (a it:Addr):Turn P w K tg (Itt K a) [it] it (fun i h=>h.IsTupleIter it a i) where
 mem:=by simp
 obj:=fun i h st b hb=>by
  have e:b = it:=by simpa using hb
  subst e
  obtain ⟨o,e,c,d⟩:=st
  exact ⟨o,e,fun v z=>by rw [d] at z;cases z⟩
 keep:=fun i h h' st k=>st.at fun o e=>k it (by simp) o e
 item:=by
  intro X hP hw hK hc i pins s σ H E I hf st hg
  subst hP hw hK
  obtain ⟨xs,x,hq,hx⟩:=hg
  obtain ⟨its,rv,p,hz⟩:=I.tuple hq
  obtain ⟨u,hu,ru⟩:=rv.get hx
  obtain ⟨f0,f1,f2,f3,f4,f5⟩:=hf it (by simp)
  refine wpAny_pyNext_tuple_item st (show s.heap.IsTuple a its.toArray from p) (x:=u) (by simpa using hu) fun h' st' sb=>?_
  have I1:Inv X pins σ H { s with heap:=h' }:=I.turned (t':=s.toks) (fun b o hb e=>(sb.2 b hb).trans e) f0 f1 f3 f4 f5
  obtain ⟨o,e,c,d⟩:=id st'
  exact ⟨u,rfl,wL (s:={ s with heap:=h' }) e c d (by decide) ⟨x,H,I1,ru,⟨rfl,fun ys hy=>by rw [I.tuple_inj hy hq];exact hx⟩,st',fun b hb=>(hf b hb).1⟩⟩
 done:=by
  intro X hP hw hK hc i pins s σ H E I hf st hg
  subst hP hw hK
  obtain ⟨xs,hq,hx⟩:=hg
  obtain ⟨its,rv,p,hz⟩:=I.tuple hq
  obtain ⟨f0,f1,f2,f3,f4,f5⟩:=hf it (by simp)
  have hl:=rv.length
  exact wpAny_pyNext_tuple_end (I.ok.hd hc) st (show s.heap.IsTuple a its.toArray from p) (by simp;lia) fun h' eb=>⟨rfl,I.turned (t':=s.toks) (fun b o hb e=>eb b o hb e) f0 f1 f3 f4 f5⟩
 self:=fun _ _ _ _ _ st h=>wpAny_pyIter_tupleiter st h
theorem B7 {P:Program} {w:World} {K:PySem.W.Frag} {tg:Expr} (it:Addr) (lo:Int) (n:Nat):Turn P w K tg (Itr lo n) [it] it (fun i h=>IsRangeIter h it (lo + (i:Nat) * 1) ((n:Int) - (i:Nat)) 1) where
 mem:=by simp
 obj:=fun i h st b hb=>by
  have e:b = it:=by simpa using hb
  subst e
  exact ⟨_,st,fun v z=>by
   have z':Data.fields _ = Data.cell v:=z
   cases z'⟩
 keep:=fun i h h' st k=>k it (by simp) _ st
 item:=by
  intro X hP hw hK hc i pins s σ H E I hf st hg
  subst hP hw hK
  obtain ⟨f0,f1,f2,f3,f4,f5⟩:=hf it (by simp)
  have W:=Walks.range (prog:=X.prog) (w:=X.w) (I.ok.hd hc) it lo 1 n
  refine W.item i s _ _ hg st fun v h' tk hv st' kk=>?_
  obtain ⟨t,rfl⟩:=hv
  have I1:Inv X pins σ H { s with heap:=h',toks:=tk }:=I.turned (fun b o hb e=>kk b o (by simpa using hb) e) f0 f1 f3 f4 f5
  refine ⟨_,rfl,wL (s:={ s with heap:=h',toks:=tk }) (n := "range_iterator") st' rfl rfl (by decide) ⟨.int (lo + i),H,I1,⟨t,?_⟩,⟨rfl,rfl⟩,st',fun b hb=>(hf b hb).1⟩⟩
  rw [Int.mul_one]
 done:=by
  intro X hP hw hK hc i pins s σ H E I hf st hg
  subst hP hw hK
  obtain ⟨f0,f1,f2,f3,f4,f5⟩:=hf it (by simp)
  exact RJ (I.ok.hd hc) st (by have:n <= i:=hg;lia) fun h' eb=>⟨rfl,I.turned (t':=s.toks) (fun b o hb e=>eb b o hb e) f0 f1 f3 f4 f5⟩
 self:=fun _ _ _ _ _ st h=>RK st h
section
variable {X:Cx} {tg:Expr}
theorem G9 {pins:List (Addr × Obj)} {σ:St} {H:Hp} {s:Shared} {R:It -> Hp -> Prop} {E:Value -> Shared -> Prop} {lo hi:Int} {t u v:Tok} {tk:Nat} (I:Inv X pins σ H s) (h1:-(2 ^ 62) <= lo) (h2:lo < 2 ^ 62) (h3:-(2 ^ 62) <= hi) (h4:hi < 2 ^ 62)
  (q:R (Itr lo (hi - lo).toNat) H):wpAny (model X.prog X.w) X.A (pyIter (.ref s.heap.objs.size)) (PIE X pins σ tg R) E { s with heap:=s.heap.push { cls:=.type "range",data:=.fields #[.int lo t,.int hi u,.int 1 v] },toks:=tk }:=by
 refine wpAny_pyIter_range (IsRange.new ..) (small_one h1 h2 h3 h4) ?_
 have I1:Inv X pins σ H { s with heap:=s.heap.push { cls:=.type "range",data:=.fields #[.int lo t,.int hi u,.int 1 v] },toks:=tk }:=I.kept fun b o e=>Pu _ e
 refine ⟨(s.heap.push { cls:=.type "range",data:=.fields #[.int lo t,.int hi u,.int 1 v] }).objs.size,[(s.heap.push { cls:=.type "range",data:=.fields #[.int lo t,.int hi u,.int 1 v] }).objs.size],_,_,H,rfl,
  I1.kept (t':=tk) fun b o e=>Pu _ e,B7 _ lo (hi - lo).toNat,?_,fun b hb=>?_,q⟩
 ·have e1:lo + ((0:Nat):Int) * 1 = lo:=by simp
  have e2:(((hi - lo).toNat:Nat):Int) - ((0:Nat):Int) = Builtin.Range.rangeSize lo hi 1:=by rw [rangeSize_one];split <;> lia
  show IsRangeIter _ _ (lo + ((0:Nat):Int) * 1) ((((hi - lo).toNat:Nat):Int) - ((0:Nat):Int)) 1
  rw [e1,e2]
  exact PP _ rfl
 ·have e:b = (s.heap.push { cls:=.type "range",data:=.fields #[.int lo t,.int hi u,.int 1 v] }).objs.size:=by simpa using hb
  subst e
  exact I1.fpOk (Pf _) (I1.hok.fresh (Pf _))
def IE (ta:TA):TI:=fun σ H R=>ta σ H fun vs H1=>∃ j:Int,vs = [.int j] /\ -(2 ^ 62) <= j /\ j < 2 ^ 62 /\ R (Itr 0 j.toNat) H1
theorem sv {a:Expr} {ta:TA} {p pos:Pos} (hg:Gl X "range") (hm:X.mg "range" = none) (ha:PA X [a] ta) (hs:starEach [a] X.env = [(false,eval a X.env)]:=by rfl):PI X tg (.Call (.Name "range" p) [a] [] pos) (IE ta):=by
 intro pins s σ H R I h
 refine Call_ (nq I hg hm boot_range (Q3 (thn (ha pos pins s σ H _ I h) fun us s1 hpt9=>?_) hs rfl))
 obtain ⟨vs,H1,I1,r1,q1⟩:=hpt9
 obtain ⟨j,e,q1,q2,q⟩:=q1
 subst e
 cases r1 with
 | cons r rr=>
  cases rr
  obtain ⟨t,rfl⟩:=r
  exact call_range_1 (G9 I1 (by lia) (by lia) q1 q2 (by simpa using q))
def LF (wi:TI) (g:TG) (tb:TS):TS:=fun D σ H=>wi σ H fun J H1=>∃ W:Nat -> Nat -> St -> Hp -> Prop,(∃ m,W 0 m σ H1) /\ ∀ i m σ H,W i m σ H ->
 (J.stop i H /\ D.nx σ H) \/ (J.go i H /\ ∃ N:St -> Hp -> Prop,(∀ σ' H',N σ' H' -> ∃ m',m' < m /\ W (i + 1) m' σ' H') /\ ∀ x H',J.yld i H x H' -> g x σ H' fun σ2 H2=>tb { D with nx:=N,ct:=N,bk:=D.nx } σ2 H2)
def rH (fp:List Addr) (h:Heap):List (Addr × Obj):=fp.filterMap fun b=>(h.get? b).map fun o=>(b,o)
theorem gL {fp:List Addr} {h:Heap} {b:Addr} {o:Obj} (hb:b ∈ fp) (e:h.get? b = some o):(b,o) ∈ rH fp h:=Q4.mpr ⟨b,hb,by rw [e];rfl⟩
theorem Ej {fp:List Addr} {h:Heap} {p:Addr × Obj} (hp:p ∈ rH fp h):p.1 ∈ fp /\ h.get? p.1 = some p.2:=by
 obtain ⟨b,hb,e⟩:=Q4.mp hp
 cases q:h.get? b with
 | none=>rw [q] at e;cases e
 | some o=>
  rw [q] at e
  have e':(b,o) = p:=PR e
  subst e'
  exact ⟨hb,q⟩
theorem Inv.pinned {pins:List (Addr × Obj)} {σ:St} {H:Hp} {s:Shared} {fp:List Addr} (I:Inv X pins σ H s) (hf:∀ b ∈ fp,p7 X pins H b) (ho:∀ b ∈ fp,∃ o,s.heap.get? b = some o /\ ∀ v,o.data ≠ .cell v):Inv X (pins ++ rH fp s.heap) σ H s:=
 I.pins_of fun p hp=>(Po.mp hp).elim (fun z=>I.pin p (Pm _ z)) fun z=>by
  obtain ⟨hb,e⟩:=Ej z
  obtain ⟨f0,f1,f2,_⟩:=hf p.1 hb
  obtain ⟨o,e',d⟩:=ho p.1 hb
  rw [e] at e';cases e'
  exact ⟨e,f0,f1,f2,d⟩
theorem Inv.unpinned {pins pl:List (Addr × Obj)} {σ:St} {H:Hp} {s:Shared} (I:Inv X (pins ++ pl) σ H s):Inv X pins σ H s:=I.pins_of fun p hp=>I.pin p (Pm _ (Pv _ hp))
theorem gF {iter:Expr} {body:List Stmt} {wi:TI} {g:TG} {tb:TS} {pos:Pos} (hp:PassesOwn (model X.prog X.w) X.A X.env X.xe) (hc:X.calm = true) (hi:PI X tg iter wi) (hg:PG X tg g) (hb:PSs X body tb)
  (hs:∀ x,foldedSetIterable iter X.env x = pure x:=by intro _;rfl):PS X (.For tg iter body [] pos) (LF wi g tb):=by
 intro pins s σ H D I h
 refine wpAny_For (thn (hi pins s σ H _ I h) fun v s1 h1=>thn h1 fun itv s2 h2=>?_) hs
 obtain ⟨it,fp,tn,J,H2,e,I2,T,st2,f2,W,⟨m0,w0⟩,turn⟩:=h2
 subst e
 -- what stays true of the iterator's objects through the loop
 have stat:∀ {H':Hp},(∀ b ∈ fp,H' b = none) -> ∀ b ∈ fp,p7 X pins H' b:=fun hn b hb=>⟨hn b hb,(f2 b hb).2⟩
 refine codeAny_forLoop_any (fun n s'=>∃ i σ' H',Inv X pins σ' H' s' /\ tn i s'.heap /\ (∀ b ∈ fp,H' b = none) /\ W i n σ' H') ?_ m0 ⟨0,σ,H2,I2,st2,fun b hb=>(f2 b hb).1,w0⟩
 rintro n s3 ⟨i,σ3,H3,I3,st3,fr3,w3⟩
 rcases turn i n σ3 H3 w3 with ⟨stop,qn⟩ | ⟨go,N,hN,step⟩
 ·refine QR hp (thn (T.done X rfl rfl rfl hc i pins s3 σ3 H3 X.xe I3 (stat fr3) st3 stop) fun r s4 ⟨hr,I4⟩=>?_)
  subst hr
  exact Rz ⟨σ3,H3,I4,qn⟩
 ·refine QR hp (thn (T.item X rfl rfl rfl hc i pins s3 σ3 H3 X.xe I3 (stat fr3) st3 go) fun r s4 ⟨u,hr,h4⟩=>?_)
  subst hr
  refine QR hp (thn h4 fun _ s5 hpt9=>?_)
  obtain ⟨x,H5,I5,r5,y5,st5,fr5⟩:=hpt9
  have I5':=I5.pinned (stat fr5) (T.obj _ _ st5)
  refine QR hp (thn (hg _ s5 σ3 H5 x u _ I5' r5 (step x H5 y5)) fun _ s6 hpt9=>?_)
  obtain ⟨σ6,H6,I6,q6⟩:=hpt9
  refine QR hp (thn (hb _ s6 σ6 H6 _ I6 q6) fun f s7 q7=>?_)
  have again:∀ {σ7:St} {H7:Hp},Inv X (pins ++ rH fp s5.heap) σ7 H7 s7 -> N σ7 H7 -> ∃ m,m < n /\ ∃ i σ' H',Inv X pins σ' H' s7 /\ tn i s7.heap /\ (∀ b ∈ fp,H' b = none) /\ W i m σ' H':=fun {σ7 H7} I7 n7=>by
   obtain ⟨m',hm,w7⟩:=hN σ7 H7 n7
   refine ⟨m',hm,i + 1,σ7,H7,I7.unpinned,T.keep _ _ _ st5 fun b hb o e=>(I7.pin (b,o) (Pm _ (Pm _ (gL hb e)))).1,fun b hb=>?_,w7⟩
   obtain ⟨o,e,d⟩:=T.obj _ _ st5 b hb
   exact (I7.pin (b,o) (Pm _ (Pm _ (gL hb e)))).2.1
  cases f with
  | next=>obtain ⟨σ7,H7,I7,n7⟩:=q7;exact again I7 n7
  | cont=>obtain ⟨σ7,H7,I7,n7⟩:=q7;exact again I7 n7
  | brk=>obtain ⟨σ7,H7,I7,q7⟩:=q7;exact ⟨σ7,H7,I7.unpinned,q7⟩
  | ret v=>obtain ⟨x7,σ7,H7,I7,r7,q7⟩:=q7;exact ⟨x7,σ7,H7,I7.unpinned,r7,q7⟩
end
abbrev R2:=V -> V -> Hp -> VK -> Prop
def OpR (X:Cx) (f:Value -> Value -> Sem Value) (r:R2):Prop:=
 ∀ (pins:List (Addr × Obj)) (s:Shared) (σ:St) (H:Hp) (x y:V) (v u:Value) (Q:VK),Inv X pins σ H s -> RelV x v -> RelV y u -> r x y H Q ->
  wpAny (model X.prog X.w) X.A (f v u) (EP X pins σ Q) X.xe s
def UnR (X:Cx) (f:Value -> Sem Value) (r:V -> Hp -> VK -> Prop):Prop:=
 ∀ (pins:List (Addr × Obj)) (s:Shared) (σ:St) (H:Hp) (x:V) (v:Value) (Q:VK),Inv X pins σ H s -> RelV x v -> r x H Q ->
  wpAny (model X.prog X.w) X.A (f v) (EP X pins σ Q) X.xe s
def CallR (X:Cx) (f:Value) (r:List V -> Hp -> VK -> Prop):Prop:=
 ∀ (pins:List (Addr × Obj)) (s:Shared) (σ:St) (H:Hp) (xs:List V) (us:List Value) (Q:VK),Inv X pins σ H s -> Vals xs us -> r xs H Q ->
  wpAny (model X.prog X.w) X.A (call f us) (EP X pins σ Q) X.xe s
def Nb (X:Cx) (r:V -> Hp -> (Bool -> Hp -> Prop) -> Prop):Prop:=
 ∀ (pins:List (Addr × Obj)) (s:Shared) (σ:St) (H:Hp) (x:V) (v:Value) (Q:Bool -> Hp -> Prop),Inv X pins σ H s -> RelV x v -> r x H Q ->
  wpAny (model X.prog X.w) X.A (truthy v) (TP X pins σ Q) X.xe s
def tOp (r:R2) (ta tb:TE):TE:=fun σ H Q=>ta σ H fun x H1=>tb σ H1 fun y H2=>r x y H2 Q
def tUn (r:V -> Hp -> VK -> Prop) (ta:TE):TE:=fun σ H Q=>ta σ H fun x H1=>r x H1 Q
def rI (C:Int -> Int -> Prop) (g:Int -> Int -> V):R2:=fun x y H Q=>∃ i j,x = .int i /\ y = .int j /\ C i j /\ Q (g i j) H
def rI0 (g:Int -> Int -> V):R2:=fun x y H Q=>∃ i j,x = .int i /\ y = .int j /\ Q (g i j) H
def rU (g:Int -> V):V -> Hp -> VK -> Prop:=fun x H Q=>∃ i,x = .int i /\ Q (g i) H
section
variable {X:Cx} {a b c:Expr} {ta tb tc:TE} {pos:Pos}
theorem Jx (ha:PE X a ta) (hb:PE X b tb) {pins:List (Addr × Obj)} {s:Shared} {σ:St} {H:Hp} {R:V -> V -> Hp -> Prop} (I:Inv X pins σ H s)
  (h:ta σ H fun x H1=>tb σ H1 fun y H2=>R x y H2) {Q:Value -> Shared -> Prop} {f:Value -> Value -> Sem Value}
  (hf:∀ v u s2 x y H2,Inv X pins σ H2 s2 -> RelV x v -> RelV y u -> R x y H2 -> wpAny (model X.prog X.w) X.A (f v u) Q X.xe s2) :
  wpAny (model X.prog X.w) X.A (eval a X.env) (fun v s₁=>wpAny (model X.prog X.w) X.A (eval b X.env) (fun u s₂=>wpAny (model X.prog X.w) X.A (f v u) Q X.xe s₂) X.xe s₁) X.xe s:=by
 refine thn (ha pins s σ H _ I h) fun v s1 hpt9=>?_
 obtain ⟨x,H1,I1,r1,q1⟩:=hpt9
 refine thn (hb pins s1 σ H1 _ I1 q1) fun u s2 hpt9=>?_
 obtain ⟨y,H2,I2,r2,q2⟩:=hpt9
 exact hf v u s2 x y H2 I2 r1 r2 q2
theorem aB {op:Operator} {r:R2} (ho:OpR X (binaryOp op) r) (ha:PE X a ta) (hb:PE X b tb):PE X (.BinOp a op b pos) (tOp r ta tb):=by
 intro pins s σ H Q I h
 exact wpAny_BinOp (Jx ha hb I h fun v u s2 x y H2 I2 rx ry q=>ho pins s2 σ H2 x y v u Q I2 rx ry q)
theorem eB {op:UnaryOp} {r:V -> Hp -> VK -> Prop} (ho:UnR X (unaryOp op) r) (ha:PE X a ta):PE X (.UnaryOp op a pos) (tUn r ta):=by
 intro pins s σ H Q I h
 exact UnaryOp_ (thn (ha pins s σ H _ I h) fun v s1 ⟨x,H1,I1,r1,q1⟩=>ho pins s1 σ H1 x v Q I1 r1 q1)
theorem opI {f:Value -> Value -> Sem Value} {C:Int -> Int -> Prop} {g:Int -> Int -> Int}
  (rule:∀ (i j:Int) (t u:Tok) (s:Shared) (Q:Value -> Shared -> Prop) (E:Value -> Shared -> Prop),C i j -> Q (.int (g i j) s.toks) { s with toks:=s.toks + 1 } -> wpAny (model X.prog X.w) X.A (f (.int i t) (.int j u)) Q E s) :
  OpR X f (rI C fun i j=>.int (g i j)):=by
 intro pins s σ H x y v u Q I rx ry h
 obtain ⟨i,j,rfl,rfl,hc,q⟩:=h
 obtain ⟨t,rfl⟩:=rx
 obtain ⟨t',rfl⟩:=ry
 exact rule i j t t' s _ _ hc ⟨.int (g i j),H,I.tok _,⟨_,rfl⟩,q⟩
theorem Ml {f:Value -> Value -> Sem Value} {g:Int -> Int -> Int}
  (rule:∀ (i j:Int) (t u:Tok) (s:Shared) (Q:Value -> Shared -> Prop) (E:Value -> Shared -> Prop),Q (.int (g i j) s.toks) { s with toks:=s.toks + 1 } -> wpAny (model X.prog X.w) X.A (f (.int i t) (.int j u)) Q E s) :
  OpR X f (rI0 fun i j=>.int (g i j)):=by
 intro pins s σ H x y v u Q I rx ry h
 obtain ⟨i,j,rfl,rfl,q⟩:=h
 obtain ⟨t,rfl⟩:=rx
 obtain ⟨t',rfl⟩:=ry
 exact rule i j t t' s _ _ ⟨.int (g i j),H,I.tok _,⟨_,rfl⟩,q⟩
theorem JG {f:Value -> Value -> Sem Value} {g:Int -> Int -> Bool}
  (rule:∀ (i j:Int) (t u:Tok) (s:Shared) (Q:Value -> Shared -> Prop) (E:Value -> Shared -> Prop),Q (.bool (g i j)) s -> wpAny (model X.prog X.w) X.A (f (.int i t) (.int j u)) Q E s) :
  OpR X f (rI0 fun i j=>.bl (g i j)):=by
 intro pins s σ H x y v u Q I rx ry h
 obtain ⟨i,j,rfl,rfl,q⟩:=h
 obtain ⟨t,rfl⟩:=rx
 obtain ⟨t',rfl⟩:=ry
 exact rule i j t t' s _ _ ⟨.bl (g i j),H,I,rfl,q⟩
def Lj (i j:Int):Prop:=0 < j /\ j < 1073741824
def K1 (i j:Int):Prop:=0 <= j /\ j <= 1000000 /\ i.natAbs < 2 ^ 64
def CMul (i j:Int):Prop:=(-(2 ^ 64) < i /\ i < 2 ^ 64) \/ (-(2 ^ 64) < j /\ j < 2 ^ 64)
theorem CMul.ok {i j:Int} (h:CMul i j):IntMulOk i j:=by
 rcases h with ⟨h1,h2⟩ | ⟨h1,h2⟩
 ·exact .of_left (intBits_le_64 h1 h2)
 ·exact .of_right (intBits_le_64 h1 h2)
theorem op_add:OpR X (binaryOp .Add) (rI0 fun i j=>.int (i + j)):=Ml fun _ _ _ _ _ _ _ q=>add_int q
theorem cY:OpR X (binaryOp .Sub) (rI0 fun i j=>.int (i - j)):=Ml fun _ _ _ _ _ _ _ q=>sub_int q
theorem pJ:OpR X (binaryOp .Mult) (rI CMul fun i j=>.int (i * j)):=opI fun _ _ _ _ _ _ _ hc q=>mul_int q hc.ok
theorem ci:OpR X (binaryOp .FloorDiv) (rI Lj fun i j=>.int (i / j)):=opI fun i j _ _ _ _ _ hc q=>by
 have h1:(0:Int) < j:=hc.1
 have h2:j < 1073741824:=hc.2
 exact floordiv_int (by lia) (by rw [Int.fdiv_eq_ediv_of_nonneg i (by lia)];exact q) (.inl (PyProof.noPylong_small (by lia)))
theorem dh:OpR X (binaryOp .Mod) (rI (fun _ j=>0 < j) fun i j=>.int (i % j)):=opI fun i j _ _ _ _ _ hc q=>by
 have h1:(0:Int) < j:=hc
 exact mod_int' (by lia) (by rw [Int.fmod_eq_emod_of_nonneg i (by lia)];exact q)
theorem BS:OpR X (binaryOp .Pow) (rI K1 fun i j=>.int (i ^ j.toNat)):=opI fun _ _ _ _ _ _ _ hc q=>pow_int_small hc.1 hc.2.1 hc.2.2 q
theorem unI {f:Value -> Sem Value} {g:Int -> Int}
  (rule:∀ (i:Int) (t:Tok) (s:Shared) (Q:Value -> Shared -> Prop) (E:Value -> Shared -> Prop),Q (.int (g i) s.toks) { s with toks:=s.toks + 1 } -> wpAny (model X.prog X.w) X.A (f (.int i t)) Q E s) :
  UnR X f (rU fun i=>.int (g i)):=by
 intro pins s σ H x v Q I rx h
 obtain ⟨i,rfl,q⟩:=h
 obtain ⟨t,rfl⟩:=rx
 exact rule i t s _ _ ⟨.int (g i),H,I.tok _,⟨_,rfl⟩,q⟩
theorem bR:UnR X (unaryOp .USub) (rU fun i=>.int (-i)):=unI fun _ _ _ _ _ q=>neg_int q
end
section
variable {X:Cx} {a b c:Expr} {ta tb tc:TE} {pos:Pos}
theorem nr:OpR X (compareOp .Lt) (rI0 fun i j=>.bl (decide (i < j))):=JG fun _ _ _ _ _ _ _ q=>lt_int q
theorem A2:OpR X (compareOp .LtE) (rI0 fun i j=>.bl (decide (i <= j))):=JG fun _ _ _ _ _ _ _ q=>le_int q
theorem Db:OpR X (compareOp .Gt) (rI0 fun i j=>.bl (decide (j < i))):=JG fun _ _ _ _ _ _ _ q=>gt_int q
theorem OpR.or {f:Value -> Value -> Sem Value} {r r':R2} (h:OpR X f r) (h':OpR X f r'):OpR X f (fun x y H Q=>r x y H Q \/ r' x y H Q):=by
 intro pins s σ H x y v u Q I rx ry q
 rcases q with q | q
 ·exact h pins s σ H x y v u Q I rx ry q
 ·exact h' pins s σ H x y v u Q I rx ry q
theorem mQ (b:Expr) {op:CmpOp} (h:op ≠ .In:=by decide) (h2:op ≠ .NotIn:=by decide):behindInMarks op b = false:=by
 have e1:(op == CmpOp.In) = false:=by cases op <;> first | rfl | exact absurd rfl h
 have e2:(op == CmpOp.NotIn) = false:=by cases op <;> first | rfl | exact absurd rfl h2
 cases b <;> simp [behindInMarks,e1,e2]
theorem uh {op:CmpOp} {r:R2} (ho:OpR X (compareOp op) r) (ha:PE X a ta) (hb:PE X b tb) (hm:behindInMarks op b = false):PE X (.Compare a [op] [b] pos) (tOp r ta tb):=by
 intro pins s σ H Q I h
 exact wpAny_Compare1 (Jx ha hb I h fun v u s2 x y H2 I2 rx ry q=>ho pins s2 σ H2 x y v u Q I2 rx ry q) hm
def G7 (t:TE):TT:=fun σ H Q=>t σ H fun x H'=>∃ k,x = .bl k /\ Q k H'
theorem ui {op:CmpOp} {r:R2} (ho:OpR X (compareOp op) r) (ha:PE X a ta) (hb:PE X b tb) (hm:behindInMarks op b = false):PT X (.Compare a [op] [b] pos) (G7 (tOp r ta tb)):=by
 intro pins s σ H Q I h
 refine wpAny_isTrue_Compare1 (thn (ha pins s σ H _ I h) fun v s1 ⟨x,H1,I1,r1,q1⟩=>thn (hb pins s1 σ H1 _ I1 q1) fun u s2 ⟨y,H2,I2,r2,q2⟩=>
  thn (ho pins s2 σ H2 x y v u _ I2 r1 r2 q2) fun c s3 ⟨z,H3,I3,r3,k,e,q3⟩=>?_) hm
 subst e
 cases r3
 exact wpAny_truthy_bool ⟨H3,I3,q3⟩
def Ht (K:W.Frag) (x:V) (H:Hp) (k:Bool):Prop:=
 match x with
 | .non=>k = false
 | .bl b=>k = b
 | .int i=>k = (i != 0)
 | .str y=>y.length <= sizeLine /\ k = ((y.length:Int) != 0)
 | .byt y=>y.size <= sizeLine /\ k = ((y.size:Int) != 0)
 | .ref p=>(∃ xs,SqL K H p xs /\ k = !xs.isEmpty) \/ (∃ xs,SqT K H p xs /\ k = !xs.isEmpty) \/ ∃ kvs,H p = some (.dK kvs) /\ k = !kvs.isEmpty
 | _=>False
theorem CT {κ:Type} {kvs:List (κ × V)} {vs:List (κ × Value)} (r:KV kvs vs):(!vs.isEmpty) = !kvs.isEmpty:=by
 cases r <;> rfl
theorem wJ {xs:List V} {its:List Value} (r:Vals xs its):(!its.toArray.isEmpty) = !xs.isEmpty:=by
 cases r <;> simp
theorem pE:(sizeLine:Nat) < 2 ^ 63:=by rw [Qa];decide
theorem KP:Nb X (fun x H Q=>∃ k,Ht X.K x H k /\ Q k H):=by
 intro pins s σ H x v Q I rx h
 obtain ⟨k,e,q⟩:=h
 have hl:=pE
 have hs:sizeLine = 16777216:=Qa
 cases x with
 | non=>
  cases rx
  have e':k = false:=e
  subst e'
  exact truthy_none ⟨H,I,q⟩
 | bl b=>
  cases rx
  have e':k = b:=e
  subst e'
  exact wpAny_truthy_bool ⟨H,I,q⟩
 | int i=>
  obtain ⟨t,rfl⟩:=rx
  have e':k = (i != 0):=e
  subst e'
  exact PySem.P.truthy_int ⟨H,I,q⟩
 | str y=>
  obtain ⟨t,rfl⟩:=rx
  obtain ⟨hy,e'⟩:y.length <= sizeLine /\ k = ((y.length:Int) != 0):=e
  subst e'
  exact PySem.P.truthy_str (by lia) ⟨H,I.tok _,q⟩
 | byt y=>
  obtain ⟨t,rfl⟩:=rx
  obtain ⟨hy,e'⟩:y.size <= sizeLine /\ k = ((y.size:Int) != 0):=e
  subst e'
  exact W.truthy_bytes (by lia) ⟨H,I.tok _,q⟩
 | ref p=>
  cases rx
  have e':(∃ xs,SqL X.K H p xs /\ k = !xs.isEmpty) \/ (∃ xs,SqT X.K H p xs /\ k = !xs.isEmpty) \/ ∃ kvs,H p = some (.dK kvs) /\ k = !kvs.isEmpty:=e
  rcases e' with ⟨xs,hx,e'⟩ | ⟨xs,hx,e'⟩ | ⟨kvs,hx,e'⟩
  ·subst e'
   obtain ⟨its,r,pl,hz⟩:=I.list hx
   have hlen:=r.length
   exact wpAny_truthy_list pl.isList (by simp only [Px];lia) ⟨H,I.tok _,by rw [wJ r];exact q⟩
  ·subst e'
   obtain ⟨its,r,pl,hz⟩:=I.tuple hx
   have hlen:=r.length
   exact truthy_tuple pl (by simp only [Px];lia) ⟨H,I.tok _,by rw [wJ r];exact q⟩
  ·subst e'
   obtain ⟨hz,hS,vs,r,m⟩:kvs.length <= sizeLine /\ (p == sysModules) = false /\ ∃ vs,KV kvs vs /\ s.heap.DictOf (zO X.prog X.w) p vs:=I.hok p _ hx
   have hlen:kvs.length = vs.length:=Paired.length r
   exact wpAny_truthy_dict hS m (by lia) ⟨H,I.tok _,by rw [CT r];exact q⟩
 | _=>exact (show False from e).elim
theorem iW (ha:PE X a ta) (he:∀ whole,isTrue a X.env whole = (do let v ← whole;standAt a.pos;holding [v] (truthy v))) :
  PT X a (fun σ H Q=>ta σ H fun x H'=>∃ k,Ht X.K x H' k /\ Q k H'):=by
 intro pins s σ H Q I h
 exact isTrue_plain (thn (ha pins s σ H _ I h) fun v s1 ⟨x,H1,I1,r1,q1⟩=>KP pins s1 σ H1 x v Q I1 r1 q1) (he _)
theorem CL:OpR X (binaryOp .Add) (fun x y H Q=>∃ i j,x = .str i /\ y = .str j /\ i.length + j.length <= sizeLine /\ Q (.str (i ++ j)) H):=by
 intro pins s σ H x y v u Q I rx ry h
 obtain ⟨i,j,rfl,rfl,hz,q⟩:=h
 obtain ⟨t,rfl⟩:=rx
 obtain ⟨t',rfl⟩:=ry
 exact add_str (fun t' tk=>⟨.str (i ++ j),H,I.tok _,⟨_,rfl⟩,q⟩) hz
theorem z8 {x:V} {us:List Value} (r:Vals [x] us):∃ u,us = [u] /\ RelV x u:=by
 cases r with
 | cons r1 r2=>cases r2;exact ⟨_,rfl,r1⟩
theorem IY {x y:V} {us:List Value} (r:Vals [x,y] us):∃ u w',us = [u,w'] /\ RelV x u /\ RelV y w':=by
 cases r with
 | cons r1 r2=>
  cases r2 with
  | cons r3 r4=>cases r4;exact ⟨_,_,rfl,r1,r3⟩
theorem rG (hc:X.calm = true):CallR X (.builtin "max") (fun xs H Q=>∃ i j,xs = [.int i,.int j] /\ Q (.int (if j > i then j else i)) H):=by
 intro pins s σ H xs us Q I r h
 obtain ⟨i,j,rfl,q⟩:=h
 obtain ⟨u,w',rfl,⟨t,rfl⟩,⟨t',rfl⟩⟩:=IY r
 refine max_two_ints (I.ok.hd hc) fun h' tk k=>⟨_,H,I.kept k,?_,q⟩
 by_cases hj:j > i
 ·rw [O7 hj,O7 hj];exact ⟨_,rfl⟩
 ·rw [O8 hj,O8 hj];exact ⟨_,rfl⟩
theorem ko (hc:X.calm = true):CallR X (.builtin "min") (fun xs H Q=>∃ i j,xs = [.int i,.int j] /\ Q (.int (if j < i then j else i)) H):=by
 intro pins s σ H xs us Q I r h
 obtain ⟨i,j,rfl,q⟩:=h
 obtain ⟨u,w',rfl,⟨t,rfl⟩,⟨t',rfl⟩⟩:=IY r
 refine min_two_ints (I.ok.hd hc) fun h' tk k=>⟨_,H,I.kept k,?_,q⟩
 by_cases hj:j < i
 ·rw [O7 hj,O7 hj];exact ⟨_,rfl⟩
 ·rw [O8 hj,O8 hj];exact ⟨_,rfl⟩
def LH (K:W.Frag) (x:V) (H:Hp) (n:Nat):Prop:=
 match x with
 | .str y=>y.length <= sizeLine /\ n = y.length
 | .byt y=>y.size <= sizeLine /\ n = y.size
 | .ref p=>(∃ xs,SqL K H p xs /\ n = xs.length) \/ ∃ xs,SqT K H p xs /\ n = xs.length
 | _=>False
theorem Hh:CallR X (.builtin "len") (fun xs H Q=>∃ x n,xs = [x] /\ LH X.K x H n /\ Q (.int n) H):=by
 intro pins s σ H xs us Q I r h
 obtain ⟨x,n,rfl,e,q⟩:=h
 obtain ⟨u,rfl,rx⟩:=z8 r
 have hl:=pE
 have hs:sizeLine = 16777216:=Qa
 cases x with
 | str y=>
  obtain ⟨t,rfl⟩:=rx
  obtain ⟨hy,e'⟩:y.length <= sizeLine /\ n = y.length:=e
  subst e'
  exact len_str (by lia) ⟨.int _,H,I.tok _,⟨_,rfl⟩,q⟩
 | byt y=>
  obtain ⟨t,rfl⟩:=rx
  obtain ⟨hy,e'⟩:y.size <= sizeLine /\ n = y.size:=e
  subst e'
  exact W.len_bytes (by lia) ⟨.int _,H,I.tok _,⟨_,rfl⟩,q⟩
 | ref p=>
  cases rx
  have e':(∃ xs,SqL X.K H p xs /\ n = xs.length) \/ ∃ xs,SqT X.K H p xs /\ n = xs.length:=e
  rcases e' with ⟨xs,hx,e'⟩ | ⟨xs,hx,e'⟩
  ·subst e'
   obtain ⟨its,r',pl,hz⟩:=I.list hx
   have hlen:=r'.length
   exact Calls.call_len_list pl.isList (by simp only [Px];lia) ⟨.int xs.length,H,I.tok _,⟨_,by simp only [Px];rw [hlen]⟩,q⟩
  ·subst e'
   obtain ⟨its,r',pl,hz⟩:=I.tuple hx
   have hlen:=r'.length
   exact len_tuple pl (by simp only [Px];lia) ⟨.int xs.length,H,I.tok _,⟨_,by simp only [Px];rw [hlen]⟩,q⟩
 | _=>exact (show False from e).elim
end
structure ObjM (h:Heap) (x dx C:Addr) (mA:Str -> Option Value):Prop where
 obj:h.get? x = some (W.instObj C dx)
 ns:h.Ns1 dx mA
 ne:dx ≠ x
theorem Fe {h:Heap} {dx:Addr} {mA:Str -> Option Value} (n:h.Ns1 dx mA):∃ od,h.get? dx = some od /\ ∀ name,W.lookIn name od = some (mA name):=by
 obtain ⟨o,es,ep,ho,hd,hk,_,hm⟩:=n
 refine ⟨o,ho,fun name=>?_⟩
 have e:=hm name
 unfold nsFind findBy at e
 rw [<- Array.find?_toList] at e
 unfold W.lookIn
 rw [hd]
 dsimp only
 split
 ·rename_i y q
  rw [q] at e
  exact PC some e
 ·rename_i q
  rw [q] at e
  have a:es.toList.any (·.refKey) = false:=by
   rw [List.any_eq_false]
   intro y hy
   obtain ⟨z,t,hkey⟩:=hk y (Array.mem_toList_iff.mp hy)
   simp [DictEntry.refKey,hkey]
  have a':¬ es.toList.any (·.refKey) = true:=by rw [a];exact QS
  rw [O8 a']
  exact PC some e
theorem ObjM.look {h:Heap} {x dx C:Addr} {mA:Str -> Option Value} (I:ObjM h x dx C mA):∃ od,W.InstAt h x (W.instObj C dx) C (some od) /\ ∀ name,W.lookIn name od = some (mA name):=
 let ⟨od,ho,hl⟩:=Fe I.ns
 ⟨od,⟨I.obj,rfl,rfl,ho⟩,hl⟩
section
variable {prog:Program} {w:World} {A:Around} {E:Value -> Shared -> Prop} {s:Shared} {K:W.Frag} {x dx C f:Addr} {mA:Str -> Option Value} {name:Str} {v:Value}
theorem H9 {expr:Bool} {Q:Value -> Shared -> Prop} (X:K.In s.heap) (I:ObjM s.heap x dx C mA) (hg:W.plainGet K C name = true) (hh:W.hasDictIn K C = true)
  (ha:W.findIn K (.ref C) name = some none) (hv:mA name = some v) (hv':W.handedIn v = true) (h:Q v { s with toks:=s.toks + 1 }) :
  wpAny (model prog w) A (getAttr (.ref x) name expr) Q E s:=by
 obtain ⟨od,J,hl⟩:=I.look
 exact W.get_value X J (W.plainGet_of hg).1 (W.findObj_own hh ha rfl (by rw [hl,hv])) hv' h
theorem Hi {pl:Sem Bool} {Q:Value × List Value -> Shared -> Prop} (X:K.In s.heap) (I:ObjM s.heap x dx C mA) (hg:W.plainGet K C name = true)
  (hf:W.findIn K (.ref C) name = some (some (.ref f))) (ht:W.isFn K (.ref f) = true) (hv:mA name = none) (h:Q (.ref f,[.ref x]) s) :
  wpAny (model prog w) A (getMethod (.ref x) name pl) Q E s:=by
 obtain ⟨od,J,hl⟩:=I.look
 exact W.method_fn X J (W.plainGet_of hg).1 (W.plainGet_of hg).2 hf (Qb.mp ht) (by show (W.lookIn name od).map (·.isSome) = some false;rw [hl,hv];rfl) h
theorem Iu {ns:List Str} {Q:Unit -> Shared -> Prop} (X:K.In s.heap) (I:ObjM s.heap x dx C mA)
  (hs:W.findIn K (.ref C) "__setattr__" = some (some (.builtin "object.__setattr__"))) (hp:W.plainOver K C = true) (ht:W.takerIn K C name = some none) (hh:W.hasDictIn K C = true)
  (hw:PySem.Within mA ns) (hsz:ns.length <= sizeLine)
  (h:∀ h',ObjM h' x dx C (fun y=>if y = name then some v else mA y) -> Heap.SameBut dx s.heap h' -> Q () { s with heap:=h',toks:=s.toks + 2 }) :
  wpAny (model prog w) A (setAttr (.ref x) name v) Q E s:=by
 obtain ⟨od,J,hl⟩:=I.look
 refine W.set_plain X J hs (W.osa_open (s:={ s with toks:=s.toks + 1 }) (r:=none) X J hp ht fun b=>?_)
 obtain ⟨cd,hc,hd'⟩:=W.any_some hh
 have hx:s.heap.get? x = some ⟨.ref C,some dx,.plain,#[]⟩:=I.obj
 refine Pb (Pj (Pb (Pb (wpAny_loadPart hx (Pb (W.Looks.here (s:={ s with toks:=s.toks + 1 }) (W.looks_clsIn X hc) ?_))))))
 rw [hd']
 refine Pj (a:=some dx) (Pb (Pj (Pb ?_)))
 refine wpAny_nsSet1 (s:={ s with toks:=s.toks + 1 }) I.ns fun h' hn2 hs2=>?_
 obtain ⟨oD,esD,epD,hoD,hdD,hcD⟩:=hn2.count (PySem.Within.cons name v hw)
 refine Pb (wpAny_lookBehind hoD (by rw [hdD];exact pastItsLine_dict (PL hcD (by rw [Pr];lia))) ?_)
 exact Pj (h _ ⟨(hs2.2 _ (P1 I.ne)).trans I.obj,hn2,I.ne⟩ hs2)
theorem FT {R:Result -> Shared -> Prop} {vs:List Value} {kw:List (Str × Value)} (X:K.In s.heap) (hm:W.makesIn K C = true)
  (hi:W.findIn K (.ref C) "__init__" = some (some (.ref f))) (hf:W.typeIn K (.ref f) = some (.type "function"))
  (h:codeAny (model prog w) (A.under (.builtin "type.__call__" ⟨.ref C :: vs,kw⟩)) (.call (.ref f) ⟨.ref (s.heap.objs.size + 1) :: vs,kw⟩) (W.InitBack (s.heap.objs.size + 1) R)
   { s with heap:=(s.heap.push W.emptyDict).push (W.instObj C s.heap.objs.size) }) :
  codeAny (model prog w) A (.call (.ref C) ⟨vs,kw⟩) R s:=by
 obtain ⟨hh,g,d,t,os⟩:=s
 exact W.make_core (W.makes_of X hm) (W.looks_findIn X hi) (fun self=>W.bind_fn X self hf) (.inl rfl) h
end
def n5 (f:Str) (v:V):List (Str × V) -> List (Str × V)
 | []=>[(f,v)]
 | (g,x) :: r=>if g = f then (g,v) :: r else (g,x) :: n5 f v r
theorem sU (f g:Str) (v:V):∀ fs:List (Str × V),(n5 f v fs).lookup g = if g = f then some v else fs.lookup g
 | []=>by
  show List.lookup g [(f,v)] = _
  by_cases h:g = f
  ·have hb:(g == f) = true:=Qb.mpr h
   simp only [List.lookup,hb,O7 h]
  ·have hb:(g == f) = false:=Ry.mpr h
   simp only [List.lookup,hb,O8 h]
 | (k,x) :: r=>by
  have ih:=sU f g v r
  rw [show n5 f v ((k,x) :: r) = (if k = f then (k,v) :: r else (k,x) :: n5 f v r) from rfl]
  by_cases hk:k = f
  ·rw [O7 hk]
   by_cases h:g = k
   ·have hb:(g == k) = true:=Qb.mpr h
    simp only [List.lookup,hb,O7 (h.trans hk)]
   ·have hb:(g == k) = false:=Ry.mpr h
    simp only [List.lookup,hb,O8 (fun e:g = f=>h (e.trans hk.symm))]
  ·rw [O8 hk]
   by_cases h:g = k
   ·have hb:(g == k) = true:=Qb.mpr h
    simp only [List.lookup,hb,O8 (fun e:g = f=>hk (h.symm.trans e))]
   ·have hb:(g == k) = false:=Ry.mpr h
    simp only [List.lookup,hb]
    exact ih
theorem rK (f:Str) (v:V):∀ fs:List (Str × V),f ∈ (n5 f v fs).map (·.1) /\ ∀ g,g ∈ fs.map (·.1) -> g ∈ (n5 f v fs).map (·.1)
 | []=>⟨by simp [n5],fun g h=>by simp at h⟩
 | (k,x) :: r=>by
  obtain ⟨i1,i2⟩:=rK f v r
  rw [show n5 f v ((k,x) :: r) = (if k = f then (k,v) :: r else (k,x) :: n5 f v r) from rfl]
  by_cases hk:k = f
  ·rw [O7 hk]
   subst hk
   exact ⟨by simp,fun g h=>by simpa using h⟩
  ·rw [O8 hk]
   refine ⟨?_,fun g h=>?_⟩
   ·rw [Ps]
    exact Pi _ i1
   ·rw [Ps] at h ⊢
    rcases Pn.mp h with e | e
    ·exact Pn.mpr (.inl e)
    ·exact Pi _ (i2 g e)
theorem tE (f:Str) (v:V):∀ fs:List (Str × V),(n5 f v fs).length <= fs.length + 1
 | []=>by simp [n5]
 | (k,x) :: r=>by
  have ih:=tE f v r
  rw [show n5 f v ((k,x) :: r) = (if k = f then (k,v) :: r else (k,x) :: n5 f v r) from rfl]
  by_cases hk:k = f
  ·rw [O7 hk,Pr,Pr];lia
  ·rw [O8 hk,Pr,Pr];lia
theorem RelO.some_of {v:V} {o:Option Value} (r:RelO (some v) o):∃ u,o = some u /\ RelV v u:=by
 cases o with
 | none=>exact (show False from r).elim
 | some u=>exact ⟨u,rfl,r⟩
theorem RelO.none_of {o:Option Value} (r:RelO none o):o = none:=by
 cases o with
 | none=>rfl
 | some u=>exact (show False from r).elim
theorem EC {v:V} {u:Value} (r:RelV v u):W.handedIn u = true:=by
 cases v with
 | non=>cases (show u = Value.none from r);rfl
 | bl b=>cases (show u = Value.bool b from r);rfl
 | int i=>obtain ⟨t,e⟩:=(show ∃ t,u = Value.int i t from r);cases e;rfl
 | str x=>obtain ⟨t,e⟩:=(show ∃ t,u = Value.str x t from r);cases e;rfl
 | byt b=>obtain ⟨t,e⟩:=(show ∃ t,u = Value.bytes b t from r);cases e;rfl
 | flt b=>obtain ⟨t,e⟩:=(show ∃ t,u = Value.float b t from r);cases e;rfl
 | ref a=>cases (show u = Value.ref a from r);rfl
 | ty n=>cases (show u = Value.type n from r);rfl
section
variable {P:Program} {w:World} {H H':Hp} {h h':Heap} {a C dx:Addr} {fs fs':List (Str × V)}
theorem uk (hok:HOk P w H h) (e:H a = some (.ins C dx fs)):∃ mA,ObjM h a dx C mA /\ (∀ f,RelO (fs.lookup f) (mA f)) /\ PySem.Within mA (fs.map (·.1)) /\ fs.length <= 1000 /\ H dx = some (.own a):=by
 obtain ⟨d,z,ne,ob,mA,n,r,q⟩:=(show ObjOk P w H h a (.ins C dx fs) from hok a _ e)
 exact ⟨mA,⟨ob,n,ne⟩,r,q,z,d⟩
end
structure Cls (K:W.Frag) (C:Addr):Prop where
 pg:W.plainGet K C Str.empty = true
 hd:W.hasDictIn K C = true
 po:W.plainOver K C = true
 sa:W.findIn K (.ref C) "__setattr__" = some (some (.builtin "object.__setattr__"))
theorem Cls.get {K:W.Frag} {C:Addr} (c:Cls K C) (f:Str):W.plainGet K C f = true:=c.pg
def NoAttr (K:W.Frag) (C:Addr) (f:Str):Prop:=W.findIn K (.ref C) f = some none
theorem NoAttr.taker {K:W.Frag} {C:Addr} {f:Str} (n:NoAttr K C f):W.takerIn K C f = some none:=by
 unfold W.takerIn
 rw [show W.findIn K (.ref C) f = some none from n]
 rfl
structure Meth (K:W.Frag) (C:Addr) (m:Str) (f:Addr):Prop where
 at_:W.findIn K (.ref C) m = some (some (.ref f))
 fn:W.isFn K (.ref f) = true
 kp:W.keepIn K (.ref f) = true
section
variable {X:Cx} {pins:List (Addr × Obj)} {σ:St} {H:Hp} {s:Shared} {a C dx:Addr} {fs:List (Str × V)} {f:Str} {v:V} {A:Around} {E:Value -> Shared -> Prop}
theorem B8 {b:Bool} {Q:Value -> Shared -> Prop} (I:Inv X pins σ H s) (e:H a = some (.ins C dx fs)) (c:Cls X.K C) (n:NoAttr X.K C f) (l:fs.lookup f = some v)
  (h:∀ u s',Inv X pins σ H s' -> RelV v u -> Q u s'):wpAny (model X.prog X.w) A (getAttr (.ref a) f b) Q E s:=by
 obtain ⟨mA,O,r,_,_,_⟩:=uk I.hok e
 obtain ⟨u,hu,ru⟩:=RelO.some_of (v:=v) (o:=mA f) (by rw [<- l];exact r f)
 exact H9 I.kIn O (c.get f) c.hd n hu (EC ru) (h u _ (I.tok _) ru)
theorem CP {m:Str} {g:Addr} {pl:Sem Bool} {Q:Value × List Value -> Shared -> Prop} (I:Inv X pins σ H s) (e:H a = some (.ins C dx fs)) (c:Cls X.K C) (k:Meth X.K C m g) (l:fs.lookup m = none)
  (h:Q (.ref g,[.ref a]) s):wpAny (model X.prog X.w) A (getMethod (.ref a) m pl) Q E s:=by
 obtain ⟨mA,O,r,_,_,_⟩:=uk I.hok e
 have hn:mA m = none:=RelO.none_of (by rw [<- l];exact r m)
 exact Hi I.kIn O (c.get m) k.at_ k.fn hn h
theorem Cn {y:V} {u:Value} {Q:Unit -> Shared -> Prop} (I:Inv X pins σ H s) (e:H a = some (.ins C dx fs)) (c:Cls X.K C) (n:NoAttr X.K C f) (hl:fs.length < 1000) (ry:RelV y u)
  (h:∀ s',Inv X pins σ (upd H a (.ins C dx (n5 f y fs))) s' -> Q () s'):wpAny (model X.prog X.w) A (setAttr (.ref a) f u) Q E s:=by
 obtain ⟨mA,O,r,wi,_,ho⟩:=uk I.hok e
 have hz:(fs.map (·.1)).length <= sizeLine:=by rw [Pc,Qa];lia
 refine Iu I.kIn O c.sa c.po n.taker c.hd wi hz fun h' O' sb=>h _ ?_
 have hd:∃ o,h'.get? dx = some o:=let ⟨o,_,_,e',_⟩:=O'.ns;⟨o,e'⟩
 refine I.write (x:=a) (e:=dx) (by rw [e];exact True.intro) (.inr ho) (fun b q hb z=>(sb.2 b hb).trans z) hd ?_
 refine ⟨by rw [a8 O.ne];exact ho,?_,O.ne,O'.obj,_,O'.ns,fun g=>?_,fun g hg=>?_⟩
 ·have:=tE f y fs;lia
 ·show RelO ((n5 f y fs).lookup g) (if g = f then some u else mA g)
  rw [sU]
  by_cases q:g = f
  ·rw [O7 q,O7 q];exact ry
  ·rw [O8 q,O8 q];exact r g
 ·by_cases q:g = f
  ·rw [q];exact (rK f y fs).1
  ·refine (rK f y fs).2 g (wi g fun z=>hg ?_)
   show (if g = f then some u else mA g) = none
   rw [O8 q];exact z
theorem Inv.made (I:Inv X pins σ H s):Inv X pins σ (upd (upd H s.heap.objs.size (.own (s.heap.objs.size + 1))) (s.heap.objs.size + 1) (.ins C s.heap.objs.size []))
  { s with heap:=(s.heap.push W.emptyDict).push (W.instObj C s.heap.objs.size) }:=by
 have e1:(s.heap.push W.emptyDict).get? s.heap.objs.size = some W.emptyDict:=PP s.heap rfl
 have e2:((s.heap.push W.emptyDict).push (W.instObj C s.heap.objs.size)).get? (s.heap.objs.size + 1) = some (W.instObj C s.heap.objs.size):=by
  have:=PP (s.heap.push W.emptyDict) (o:=W.instObj C s.heap.objs.size) rfl
  rwa [QC] at this
 have e3:(s.heap.push W.emptyDict).Ns s.heap.objs.size (fun _=>none):=⟨W.emptyDict,#[],_,e1,rfl,(fun e he=>absurd he (by simp)),fun _=>rfl⟩
 have I1:=I.laid (a:=s.heap.objs.size) (o:=.own (s.heap.objs.size + 1)) (h':=s.heap.push W.emptyDict) (t':=s.toks) (fun b u q=>Pu _ q) (Pf _) ⟨_,e1⟩
 refine I1.laid (a:=s.heap.objs.size + 1) (o:=.ins C s.heap.objs.size []) (t':=s.toks) (fun b u q=>Pu _ q) (Ql (QC _ _)) ?_
 have ne:s.heap.objs.size ≠ s.heap.objs.size + 1:=Pz (Q5 _)
 refine ⟨by rw [a8 ne,aX],PU _,ne,e2,fun _=>none,(Heap.Ns1.of_empty e3).at fun o q=>Pu _ q,fun _=>True.intro,fun y hy=>absurd rfl hy⟩
theorem HL {prog:Program} {w:World} {env:Env} {e:Expr} {f:Str} {pos:Pos} {s:Shared} {Q:Value -> Shared -> Prop} (hb:attributeBase e f env (eval e env) = eval e env)
  (h:wpAny (model prog w) A (eval e env) (fun o s₁=>wpAny (model prog w) A (getAttr o f true) Q E s₁) E s):wpAny (model prog w) A (eval (.Attribute e f pos) env) Q E s:=
 Attribute_any_ h (by rw [arm_eval_Attribute,hb])
end
def Lq (K:W.Frag) (ta tv:TE) (f:Str):TS:=fun D σ H=>tv σ H fun y H1=>ta σ H1 fun x H2=>∃ a C dx fs,x = .ref a /\ H2 a = some (.ins C dx fs) /\ Cls K C /\ NoAttr K C f /\ fs.length < 1000 /\
 D.nx σ (upd H2 a (.ins C dx (n5 f y fs)))
section
variable {X:Cx} {o e value:Expr} {f:Str} {pos pos' tpos:Pos} {ta tv:TE}
theorem Kl (ha:PE X o ta) (hv:PE X value tv) (hs:swapsWith value (some (.Attribute o f pos')) pos.line X.env = pure false):PS X (.Assign [.Attribute o f pos'] value pos) (Lq X.K ta tv f):=by
 intro pins s σ H D I h
 refine plainObj_wpAny_Assign_Attribute (thn (hv pins s σ H _ I h) fun u s1 ⟨y,H1,I1,ry,q⟩=>thn (ha pins s1 σ H1 _ I1 q) fun ov s2 hpt9=>?_) hs
 obtain ⟨x,H2,I2,rx,a,C,dx,fs,ex,ea,c,n,l,q2⟩:=hpt9
 subst ex
 obtain rfl:ov = Value.ref a:=rx
 exact Cn I2 ea c n l ry fun s3 I3=>⟨σ,_,I3,q2⟩
end
section
variable {X:Cx} {pins:List (Addr × Obj)} {σ:St} {H:Hp} {s:Shared} {A:Around} {E:Value -> Shared -> Prop} {Q:Value -> Shared -> Prop} {c:Value} {b:Bool}
inductive TyOf (K:W.Frag) (H:Hp):V -> Value -> Prop where
 | non:TyOf K H .non (.type "NoneType")
 | bl (x:Bool):TyOf K H (.bl x) (.type "bool")
 | int (i:Int):TyOf K H (.int i) (.type "int")
 | str (x:Str):TyOf K H (.str x) (.type "str")
 | flt (x:UInt64):TyOf K H (.flt x) (.type "float")
 | lst {a:Addr} {xs:List V} (e:H a = some (.lst xs)):TyOf K H (.ref a) (.type "list")
 | frz {a:Addr} {o:Obj} {xs:List V} (e:H a = some (.frz o (.lst xs))):TyOf K H (.ref a) (.type "list")
 | tup {a:Addr} {xs:List V} (e:H a = some (.tup xs)):TyOf K H (.ref a) (.type "tuple")
 | dK {a:Addr} {kvs:List (Key × V)} (e:H a = some (.dK kvs)):TyOf K H (.ref a) (.type "dict")
 | dT {a:Addr} {kvs:List (List Key × V)} (e:H a = some (.dT kvs)):TyOf K H (.ref a) (.type "dict")
 | ins {a C dx:Addr} {fs:List (Str × V)} (e:H a = some (.ins C dx fs)) (cl:Cls K C) (ha:W.findIn K (.ref C) "__class__" = some (some (.builtin "object.__class__")))
   (hn:W.specialIn K (.builtin "object.__class__") "__get__" = some (some (.builtin "getset_descriptor.__get__"))) (htk:W.takesIn K (.builtin "object.__class__") = some true)
   (hm:W.mroIn K C (.type "object") = some true):TyOf K H (.ref a) (.ref C)
theorem nH {x:V} {u t:Value} (I:Inv X pins σ H s) (rx:RelV x u) (ty:TyOf X.K H x t) (e:W.kitOne X.K t c = some b) (h:∀ tk,Q (.bool b) { s with toks:=tk }) :
  wpAny (model X.prog X.w) A (call (.builtin "isinstance") [u,c]) Q E s:=by
 cases ty with
 | non=>cases (show u = Value.none from rx);exact Qc W.kitx_none I.kIn True.intro e (fun z=>nomatch z) h
 | bl y=>cases (show u = Value.bool y from rx);exact Qc W.kitx_bool I.kIn True.intro e (fun z=>nomatch z) h
 | int i=>obtain ⟨t,q⟩:=(show ∃ t,u = Value.int i t from rx);cases q;exact Qc W.kitx_int I.kIn True.intro e (fun z=>nomatch z) h
 | str y=>obtain ⟨t,q⟩:=(show ∃ t,u = Value.str y t from rx);cases q;exact Qc W.kitx_str I.kIn True.intro e (fun z=>nomatch z) h
 | flt y=>obtain ⟨t,q⟩:=(show ∃ t,u = Value.float y t from rx);cases q;exact Qc W.kitx_float I.kIn True.intro e (fun z=>nomatch z) h
 | @lst a xs ea=>
  cases (show u = Value.ref a from rx)
  obtain ⟨_,_,n,_,h1⟩:=(show ObjOk X.prog X.w H s.heap a (.lst xs) from I.hok a _ ea)
  exact Qc W.kitx_list I.kIn ⟨_,h1,rfl⟩ e (fun z=>nomatch z) h
 | @frz a ob xs ea=>
  cases (show u = Value.ref a from rx)
  obtain ⟨_,_,_,n,_,h1⟩:=(show ObjOk X.prog X.w H s.heap a (.frz ob (.lst xs)) from I.hok a _ ea)
  exact Qc W.kitx_list I.kIn ⟨_,h1,rfl⟩ e (fun z=>nomatch z) h
 | @tup a xs ea=>
  cases (show u = Value.ref a from rx)
  obtain ⟨_,_,_,p⟩:=(show ObjOk X.prog X.w H s.heap a (.tup xs) from I.hok a _ ea)
  obtain ⟨o,h1,h2,_⟩:=p
  exact Qc W.kitx_tuple I.kIn ⟨o,h1,h2⟩ e (fun z=>nomatch z) h
 | @dK a kvs ea=>
  cases (show u = Value.ref a from rx)
  obtain ⟨_,_,vs,_,p⟩:=(show ObjOk X.prog X.w H s.heap a (.dK kvs) from I.hok a _ ea)
  obtain ⟨o,es,ep,h1,h2,_⟩:=p
  exact Qc W.kitx_dict I.kIn ⟨o,h1,h2.1⟩ e (fun z=>nomatch z) h
 | @dT a kvs ea=>
  cases (show u = Value.ref a from rx)
  obtain ⟨_,_,xs,_,o,es,ep,h1,h2,_⟩:=(show ObjOk X.prog X.w H s.heap a (.dT kvs) from I.hok a _ ea)
  exact Qc W.kitx_dict I.kIn ⟨o,h1,h2.1⟩ e (fun z=>nomatch z) h
 | @ins a C dx fs ea cl ha hn htk hm=>
  cases (show u = Value.ref a from rx)
  obtain ⟨mA,O,_⟩:=uk I.hok ea
  obtain ⟨od,J,_⟩:=O.look
  exact Qc (W.kitx_own (cl.get _) cl.hd ha hn htk hm) I.kIn J e (fun z=>nomatch z) h
end
structure Room (k:Nat) (A:Around):Prop where
 hd:A.handled = none
 dp:A.depth + 3 * k + 5 < recursionLimit
 un:A.units + 16 * k + 200 < cLine
theorem Room.mono {j k:Nat} {A:Around} (r:Room k A) (h:j <= k):Room j A:=⟨r.hd,by have:=r.dp;lia,by have:=r.un;lia⟩
theorem Room.deeper {k:Nat} {A:Around} (r:Room (k + 1) A) (env:Env):Room k (A.deeper env):=
 ⟨r.hd,by have:=r.dp;show A.depth + 1 + 3 * k + 5 < _;lia,by have:=r.un;show A.units + 3 + 16 * k + 200 < _;lia⟩
theorem CN {A:Around} {C:Addr} {us:List Value} {kw:List (Str × Value)}:(A.under (.builtin "type.__call__" ⟨.ref C :: us,kw⟩)).depth = A.depth + 1:=by
 first | rfl | simp [Around.under,Code.weight,Code.isCreation,Code.isGuard,Code.isCaller,Code.frames,Code.isFrame,guardIds]
theorem BV {A:Around} {C:Addr} {us:List Value} {kw:List (Str × Value)}:(A.under (.builtin "type.__call__" ⟨.ref C :: us,kw⟩)).units = A.units + 1:=by
 first | rfl | simp [Around.under,Code.cUnits,Code.frames,Code.isFrame]
theorem Room.make {k:Nat} {A:Around} (r:Room (k + 1) A) (C:Addr) (us:List Value) (kw:List (Str × Value)):Room k (A.under (.builtin "type.__call__" ⟨.ref C :: us,kw⟩)):=
 ⟨r.hd,by have:=r.dp;rw [CN];lia,by have:=r.un;rw [BV];lia⟩
theorem Room.depth {k:Nat} {A:Around} (r:Room k A):A.depth < recursionLimit:=by have:=r.dp;lia
theorem Room.units {k:Nat} {A:Around} (r:Room k A):A.units + 64 < cLine:=by have:=r.un;lia
def wX:TA:=fun _ H Q=>Q [] H
def ke (ta:TE) (tr:TA):TA:=fun σ H Q=>ta σ H fun x H1=>tr σ H1 fun xs H2=>Q (x :: xs) H2
section
variable {X:Cx} {e:Expr} {es:List Expr} {te:TE} {t:TA} {pos:Pos}
theorem af:PA X [] wX:=fun _ _ _ _ H Q I h=>Calls.spliced_nil ⟨[],H,I,.nil,h⟩
theorem ac (ha:PE X e te) (hr:PA X es t) (hs:starEach (e :: es) X.env = (false,eval e X.env) :: starEach es X.env:=by rfl):PA X (e :: es) (ke te t):=by
 intro pos pins s σ H Q I h
 rw [hs]
 show wpAny _ _ (spliced ((false,eval e X.env) :: backTo pos (starEach es X.env))) _ _ s
 refine Calls.spliced_cons (thn (ha pins s σ H _ I h) fun u s1 hpt9=>?_)
 obtain ⟨x,H1,I1,r1,q1⟩:=hpt9
 exact thn (hr pos pins s1 σ H1 _ I1 q1) fun us s2 ⟨xs,H2,I2,r2,q2⟩=>⟨x :: xs,H2,I2,.cons r1 r2,q2⟩
def K3 (t:TA):TE:=fun σ H Q=>t σ H fun xs H1=>xs.length <= sizeLine /\ ∀ p,H1 p = none -> Q (.ref p) (upd H1 p (.tup xs))
def Kq (t:TA):TE:=fun σ H Q=>t σ H fun xs H1=>xs.length <= sizeLine /\ ∀ p,H1 p = none -> Q (.ref p) (upd H1 p (.lst xs))
theorem aE {x1} (h:PA X es t):PE X (.Tuple es x1 pos) (K3 t):=by
 intro pins s σ H Q I hq
 refine wpAny_Tuple_spliced (thn (h pos pins s σ H _ I hq) fun us s1 ⟨xs,H1,I1,r,z,q⟩=>⟨by rw [<- r.length];exact z,?_⟩)
 have hf:H1 s1.heap.objs.size = none:=I1.hok.fresh (Pf _)
 refine ⟨.ref s1.heap.objs.size,upd H1 s1.heap.objs.size (.tup xs),I1.laid (t':=s1.toks) (fun b u e=>Pu _ e) (Pf _) ?_,rfl,q _ hf⟩
 exact ⟨z,us,r,⟨_,PP _ rfl,rfl,_,rfl⟩⟩
theorem fJ (h:PA X es t):PE X (.List es pos) (Kq t):=by
 intro pins s σ H Q I hq
 refine wpAny_List_spliced (thn (h pos pins s σ H _ I hq) fun us s1 ⟨xs,H1,I1,r,z,q⟩=>⟨by rw [<- r.length];exact z,?_⟩)
 have hf:H1 s1.heap.objs.size = none:=I1.hok.fresh (Pf _)
 refine ⟨.ref s1.heap.objs.size,upd H1 s1.heap.objs.size (.lst xs),I1.laid (t':=s1.toks) (fun b u e=>Pu _ e) (Pf _) ?_,rfl,q _ hf⟩
 exact ⟨z,us,0,r,PP _ rfl⟩
end
abbrev Sp:=List V -> Hp -> VK -> XK -> Prop
abbrev CXT:=List Env -> Hp -> Shared -> XK -> Value -> Shared -> Prop
structure Env0 (P:Program) (w:World) (K:W.Frag) (mg:Str -> Option Value) (base:Heap) (A:Around) (outer:List Env) (s:Shared) (H:Hp):Prop where
 frames:A.frames = some outer
 mod:Mod K mg base
 bs:∀ b o,base.get? b = some o -> s.heap.get? b = some o /\ H b = none
 bsz:base.objs.size <= s.heap.objs.size
 funs:s.heap.FunFrames base outer
 frf:∀ b ∈ frs outer,H b = none
 hok:HOk P w H s.heap
 bare:AllBare s.gens
def CE (outer:List Env) (P:Program) (w:World) (H:Hp) (s:Shared) (Q:VK) (u:Value) (s':Shared):Prop:=
 ∃ v H',s'.os = s.os /\ AllBare s'.gens /\ Un (frs outer) [] H H' s.heap s'.heap /\ HOk P w H' s'.heap /\ RelV v u /\ Q v H'
def CR (CX:CXT) (outer:List Env) (P:Program) (w:World) (H:Hp) (s:Shared) (Q:VK) (E:XK) (r:Result) (s':Shared):Prop:=
 match r with
 | .ok (.ret u)=>CE outer P w H s Q u s'
 | .ok _=>False
 | .error e=>CX outer H s E e s'
structure FnOk (P:Program) (w:World) (K:W.Frag) (mg:Str -> Option Value) (base:Heap) (CX:CXT) (k:Nat) (f:Addr) (fd:FuncData) (ps:List Str) (sp:Sp):Prop where
 len:∀ vs H Q E,sp vs H Q E -> vs.length = ps.length
 run:∀ (A:Around) (outer:List Env) (s:Shared) (H:Hp) (args:Args) (us:List Value) (vs:List V) (Q:VK) (E:XK),Room k A -> Env0 P w K mg base A outer s H -> BindsTo s fd args (ps.zip us) -> Vals vs us -> sp vs H Q E ->
  codeAny (model P w) A (.call (.ref f) args) (CR CX outer P w H s Q E) s
theorem Env0.make {P:Program} {w:World} {K:W.Frag} {mg:Str -> Option Value} {base:Heap} {A:Around} {outer:List Env} {s:Shared} {H:Hp} (e:Env0 P w K mg base A outer s H) (C:Addr) (us:List Value) (kw:List (Str × Value)) :
  Env0 P w K mg base (A.under (.builtin "type.__call__" ⟨.ref C :: us,kw⟩)) outer s H:=⟨by first | exact e.frames | (simpa [Around.under,Code.envs,Code.isFrame,pushEnvs] using e.frames),e.mod,e.bs,e.bsz,e.funs,e.frf,e.hok,e.bare⟩
section
variable {X:Cx} {pins:List (Addr × Obj)} {σ:St} {H:Hp} {s s':Shared}
theorem Inv.env0 (I:Inv X pins σ H s):Env0 X.prog X.w X.K X.mg X.base X.A X.stack s H:=
 ⟨I.ok.frames,I.ok.mod,I.bs,PL I.ok.bsz I.sz,I.stack,I.stkFree,I.hok,I.bare⟩
theorem Inv.after {Q:VK} {u:Value} (I:Inv X pins σ H s) (h:CE X.stack X.prog X.w H s Q u s'):EP X pins σ Q u s':=by
 obtain ⟨v,H',os,bare,un,hok,r,q⟩:=h
 obtain ⟨hh,g,d,t,os'⟩:=s'
 obtain rfl:os' = s.os:=os
 exact ⟨v,H',I.call (h':=hh) (g':=g) (d':=d) (t':=t) (ch:=[]) un hok bare (fun b z=>absurd z (by simp)),r,q⟩
end
def tp (sp:Sp) (dvs:List V) (E:XK) (t:TA):TE:=fun σ H Q=>t σ H fun vs H1=>sp (vs ++ dvs) H1 Q E
def IL (C:Addr) (sp:Sp) (dvs:List V) (E:XK) (t:TA):TE:=fun σ H Q=>t σ H fun vs H1=>∀ x dx,H1 x = none -> H1 dx = none -> dx ≠ x ->
 sp (.ref x :: (vs ++ dvs)) (upd (upd H1 dx (.own x)) x (.ins C dx [])) (fun v H2=>v = .non /\ Q (.ref x) H2) E
def Binds (K:W.Frag) (fd:FuncData) (ps:List Str) (ds:List Value):Prop:=
 ∀ (s:Shared) (us:List Value),K.In s.heap -> (us ++ ds).length = ps.length -> BindsTo s fd ⟨us,[]⟩ (ps.zip (us ++ ds))
theorem Binds.all {K:W.Frag} {fd:FuncData} {ps:List Str} (h:∀ us:List Value,us.length = ps.length -> bindArgs fd ⟨us,[]⟩ = pure (ps.zip us)):Binds K fd ps []:=fun s us _ hl=>by
 rw [P6] at hl ⊢
 exact .of_eq (h us hl)
def mN (CX:CXT) (X:Cx) (E:XK):Prop:=∀ (pins:List (Addr × Obj)) (σ:St) (H:Hp) (s:Shared) (e:Value) (s':Shared),Inv X pins σ H s -> CX X.stack H s E e s' -> X.xe e s'
section
variable {X:Cx} {CX:CXT} {k:Nat} {f C:Addr} {fd:FuncData} {ps:List Str} {sp:Sp} {dvs:List V} {ds:List Value} {E:XK} {x m:Str} {p pos apos:Pos} {e o:Expr} {es:List Expr} {ta:TE} {t:TA}
theorem BQ {pins:List (Addr × Obj)} {σ:St} {H:Hp} {s:Shared} {Q:VK} {us:List Value} {vs:List V} (F:FnOk X.prog X.w X.K X.mg X.base CX k f fd ps sp) (hr:Room k X.A) (hb:Binds X.K fd ps ds) (hd:Vals dvs ds) (hx:mN CX X E)
  (I:Inv X pins σ H s) (r:Vals vs us) (h:sp (vs ++ dvs) H Q E):wpAny (model X.prog X.w) X.A (call (.ref f) us) (EP X pins σ Q) X.xe s:=by
 have r2:Vals (vs ++ dvs) (us ++ ds):=r.append hd
 have hl:(us ++ ds).length = ps.length:=by rw [<- r2.length];exact F.len _ _ _ _ h
 refine wpAny_call (codeAny_mono (F.run X.A X.stack s H ⟨us,[]⟩ (us ++ ds) (vs ++ dvs) Q E hr I.env0 (hb s us I.kIn hl) r2 h) fun r s' hq=>?_)
 cases r with
 | error e=>exact hx pins σ H s e s' I hq
 | ok fl=>
  cases fl with
  | ret u=>exact I.after hq
  | next=>exact False.elim hq
  | brk=>exact False.elim hq
  | cont=>exact False.elim hq
theorem yK (F:FnOk X.prog X.w X.K X.mg X.base CX k f fd ps sp) (hr:Room k X.A) (hg:Gl X x) (hm:X.mg x = some (.ref f)) (hk:W.keepIn X.K (.ref f) = true) (hb:Binds X.K fd ps ds) (hd:Vals dvs ds) (hx:mN CX X E)
  (ha:PA X (e :: es) t) (hdb:(x == ("__debug__" : Str)) = false:=by decide) (he:starEach (e :: es) X.env = (false,eval e X.env) :: starEach es X.env:=by rfl) (hpl:(backTo pos (starEach es X.env)).any (·.1) = false:=by rfl) :
  PE X (.Call (.Name x p) (e :: es) [] pos) (tp sp dvs E t):=by
 intro pins s σ H Q I h
 refine RA (zN I hg hm ?_ hdb)
 refine W.callWith_K (h₀:=X.base) I.ok.mod.kin hk (thn (ha pos pins s σ H _ I h) fun us s1 ⟨vs,H1,I1,r,q⟩=>⟨I1.kIn,?_⟩) he hpl
 exact BQ F hr hb hd hx I1 r q
structure Mk (K:W.Frag) (C f:Addr):Prop where
 makes:W.makesIn K C = true
 init:W.findIn K (.ref C) "__init__" = some (some (.ref f))
 fn:W.isFn K (.ref f) = true
 kp:W.keepIn K (.ref C) = true
theorem G8 {pins:List (Addr × Obj)} {σ:St} {H:Hp} {s:Shared} {Q:VK} {us:List Value} {vs:List V} (M:Mk X.K C f) (F:FnOk X.prog X.w X.K X.mg X.base CX k f fd ps sp) (hr:Room (k + 1) X.A) (hb:Binds X.K fd ps ds) (hd:Vals dvs ds)
  (hx:mN CX X E) (I:Inv X pins σ H s) (r:Vals vs us)
  (h:∀ x dx,H x = none -> H dx = none -> dx ≠ x -> sp (.ref x :: (vs ++ dvs)) (upd (upd H dx (.own x)) x (.ins C dx [])) (fun v H2=>v = .non /\ Q (.ref x) H2) E) :
  wpAny (model X.prog X.w) X.A (call (.ref C) us) (EP X pins σ Q) X.xe s:=by
 have hq:=h (s.heap.objs.size + 1) s.heap.objs.size (I.hok.fresh (QD _)) (I.hok.fresh (Pf _)) (Pz (Q5 _))
 have I2:=Inv.made (C:=C) I
 have r2:Vals (V.ref (s.heap.objs.size + 1) :: (vs ++ dvs)) (Value.ref (s.heap.objs.size + 1) :: (us ++ ds)):=.cons rfl (r.append hd)
 have hl:(Value.ref (s.heap.objs.size + 1) :: us ++ ds).length = ps.length:=by
  have e:=r2.length
  rw [F.len _ _ _ _ hq] at e
  exact e.symm
 refine wpAny_call (FT (f:=f) I.kIn M.makes M.init (Qb.mp M.fn) (codeAny_mono (F.run _ X.stack _ _ ⟨Value.ref (s.heap.objs.size + 1) :: us,[]⟩ (Value.ref (s.heap.objs.size + 1) :: (us ++ ds)) _ _ E (hr.make C us [])
  (I2.env0.make C us []) (hb _ (Value.ref (s.heap.objs.size + 1) :: us) I2.kIn hl) r2 hq) fun r s' hq'=>?_))
 cases r with
 | error e=>exact hx pins σ _ _ e s' I2 hq'
 | ok fl=>
  cases fl with
  | ret u=>
   obtain ⟨v,H',I3,rv,ev,q3⟩:=I2.after hq'
   subst ev
   exact ⟨rv,⟨V.ref (s.heap.objs.size + 1),H',I3,rfl,q3⟩⟩
  | next=>exact False.elim hq'
  | brk=>exact False.elim hq'
  | cont=>exact False.elim hq'
theorem HJ (M:Mk X.K C f) (F:FnOk X.prog X.w X.K X.mg X.base CX k f fd ps sp) (hr:Room (k + 1) X.A) (hg:Gl X x) (hm:X.mg x = some (.ref C)) (hb:Binds X.K fd ps ds) (hd:Vals dvs ds) (hx:mN CX X E)
  (ha:PA X (e :: es) t) (hdb:(x == ("__debug__" : Str)) = false:=by decide) (he:starEach (e :: es) X.env = (false,eval e X.env) :: starEach es X.env:=by rfl) (hpl:(backTo pos (starEach es X.env)).any (·.1) = false:=by rfl) :
  PE X (.Call (.Name x p) (e :: es) [] pos) (IL C sp dvs E t):=by
 intro pins s σ H Q I h
 refine RA (zN I hg hm ?_ hdb)
 refine W.callWith_K (h₀:=X.base) I.ok.mod.kin M.kp (thn (ha pos pins s σ H _ I h) fun us s1 ⟨vs,H1,I1,r,q⟩=>⟨I1.kIn,?_⟩) he hpl
 exact G8 M F hr hb hd hx I1 r q
end
section
variable {X:Cx} {CX:CXT} {k:Nat} {f C:Addr} {fd:FuncData} {ps ks:List Str} {sp:Sp} {E:XK} {x m:Str} {p pos apos kpos:Pos} {e o:Expr} {es:List Expr} {kws:List Keyword} {te ta:TE} {t tk:TA} {nm:Option Str}
variable {g:List Value -> List Value -> List Value} {gV:List V -> List V -> List V}
end
structure FnScope (N P:List Str) (sc:Scope):Prop where
 kind:sc.kind = .function
 co:sc.isCoroutine = false
 gen:sc.isGenerator = false
 nd:N.Nodup
 pre:N.take P.length = P
 par:∀ x ∈ P,sc.names.lookup x = some .local \/ sc.names.lookup x = some .cell
 nofree:∀ y ∈ sc.names,y.2 ≠ .free
theorem yg {kindOf:Str -> Option NameKind} {x:Str}:∀ {binds:List (Str × Value)} {m:Str -> Option Value},(∀ v,(x,v) ∉ binds) -> bindL kindOf binds m x = m x
 | [],_,_=>rfl
 | (n,v) :: r,m,h=>by
  unfold bindL
  rw [yg fun w hw=>h w (Pi _ hw)]
  split
  ·have:x ≠ n:=by rintro rfl;exact h v Pg
   simp [this]
  ·rfl
theorem yu {kindOf:Str -> Option NameKind} {x:Str}:∀ {binds:List (Str × Value)} {m:Str -> Option Value},(∀ v,(x,v) ∉ binds) -> bindC kindOf binds m x = m x
 | [],_,_=>rfl
 | (n,v) :: r,m,h=>by
  unfold bindC
  rw [yu fun w hw=>h w (Pi _ hw)]
  split
  ·rfl
  ·have:x ≠ n:=by rintro rfl;exact h v Pg
   simp [this]
theorem yA {kindOf:Str -> Option NameKind} {x:Str} {v:Value}:∀ {P:List Str} {vs:List Value} {i:Nat} {m:Str -> Option Value},P.Nodup -> P[i]? = some x -> vs[i]? = some v -> kindOf x = some .local ->
  bindL kindOf (P.zip vs) m x = some v
 | [],_,_,_,_,h,_,_=>by simp at h
 | _ :: _,[],_,_,_,_,h,_=>by simp at h
 | p :: P,w :: vs,0,m,nd,h1,h2,hk=>by
  simp at h1 h2;subst h1;subst h2
  show bindL kindOf ((p,w) :: P.zip vs) m p = _
  unfold bindL
  rw [yg fun v hv=>(Qm.mp nd).1 (List.of_mem_zip hv).1,O7 hk]
  simp
 | p :: P,w :: vs,i + 1,m,nd,h1,h2,hk=>by
  show bindL kindOf ((p,w) :: P.zip vs) m x = _
  unfold bindL
  exact yA (i:=i) (Qm.mp nd).2 (by simpa using h1) (by simpa using h2) hk
theorem yb {kindOf:Str -> Option NameKind} {x:Str} {v:Value}:∀ {P:List Str} {vs:List Value} {i:Nat} {m:Str -> Option Value},P.Nodup -> P[i]? = some x -> vs[i]? = some v -> kindOf x ≠ some .local ->
  bindC kindOf (P.zip vs) m x = some v
 | [],_,_,_,_,h,_,_=>by simp at h
 | _ :: _,[],_,_,_,_,h,_=>by simp at h
 | p :: P,w :: vs,0,m,nd,h1,h2,hk=>by
  simp at h1 h2;subst h1;subst h2
  show bindC kindOf ((p,w) :: P.zip vs) m p = _
  unfold bindC
  rw [yu fun v hv=>(Qm.mp nd).1 (List.of_mem_zip hv).1,O8 hk]
  simp
 | p :: P,w :: vs,i + 1,m,nd,h1,h2,hk=>by
  show bindC kindOf ((p,w) :: P.zip vs) m x = _
  unfold bindC
  exact yb (i:=i) (Qm.mp nd).2 (by simpa using h1) (by simpa using h2) hk
def aZ (N:List Str) (vs:List V):St:=vs.map some ++ List.replicate (N.length - vs.length) none
def Cz (CX:CXT) (P:Program) (w:World) (K:W.Frag) (mg:Str -> Option Value) (base:Heap) (N:List Str) (qual:Str) (scope:Scope) (f:Addr) (cd:Value) (A:Around) (outer:List Env) (s:Shared) (H:Hp) (E:XK):Cx where
 prog:=P
 w:=w
 K:=K
 mg:=mg
 base:=base
 A:=A.deeper (envOfC qual scope s.heap.objs.size f cd)
 N:=N
 s₀:=s
 H₀:=H
 env:=envOfC qual scope s.heap.objs.size f cd
 outer:=outer
 stack:=envOfC qual scope s.heap.objs.size f cd :: outer
 ex:=[]
 calm:=true
 fn:=fun _=>true
 pn:=[]
 xe:=fun e s'=>wpAny (model P w) (A.deeper (envOfC qual scope s.heap.objs.size f cd)) (leaving (envOfC qual scope s.heap.objs.size f cd) e) (fun _ s''=>CX outer H s E e s'') (fun e' s''=>CX outer H s E e' s'') s'
theorem AU {sc:Scope} {n:Nat} {x:Str} (h:sc.names.lookup x = some .cell):∃ c,(cellsFrom n sc.names []).lookup x = some c:=by
 have q:=W.cellsFrom_some sc.names n [] (.inl h)
 exact Option.isSome_iff_exists.mp q
theorem EH {CX:CXT} {P:Program} {w:World} {K:W.Frag} {mg:Str -> Option Value} {base:Heap} {N ps:List Str} {qual:Str} {scope:Scope} {f:Addr} {cd:Value} {A:Around} {outer:List Env} {s s1:Shared} {H:Hp} {E:XK} {us:List Value} {vs:List V}
  (S:FnScope N ps scope) (hd:A.handled = none) (e0:Env0 P w K mg base A outer s H) (hl:vs.length = ps.length) (r:Vals vs us)
  (x:InCallC s s.heap.objs.size (bindL (envOfC qual scope s.heap.objs.size f cd).kindOf (ps.zip us) fun _=>none) (cellsFrom (s.heap.objs.size + 1) scope.names []) (bindC (envOfC qual scope s.heap.objs.size f cd).kindOf (ps.zip us) fun _=>none) s1) :
  Inv (Cz CX P w K mg base N qual scope f cd A outer s H E) [] (aZ N vs) H s1:=by
 have hpl:ps.length <= N.length:=by have:=PC List.length S.pre;rw [Q6] at this;lia
 obtain ⟨h1,tk,rfl,hk⟩:=x.done
 have noA:∀ b:Addr,b ∉ (Cz CX P w K mg base N qual scope f cd A outer s H E).ex:=fun b z=>absurd (show b ∈ ([]:List Addr) from z) (by simp)
 refine ⟨⟨e0.mod,S.kind,rfl,rfl,Pf _,fun y z c h1 h2=>?_,fun y hy=>?_,fun y c _ h=>?_,fun _=>hd,Around.frames_deeper e0.frames,.inr ⟨rfl,rfl⟩,fun b z=>absurd z (noA b),e0.bs,e0.bsz,fun b _ _=>noA b,fun b z=>absurd z (noA b),e0.funs,e0.frf⟩,
  rfl,e0.bare,Un.kept hk,⟨_,x.toInCall.ns,fun i y v h1 h2 h3=>?_⟩,fun y c h=>⟨_,x.cell y c h⟩,e0.hok.fresh (Pf _),fun y c h=>?_,fun p hp=>absurd (show p ∈ ([]:List (Addr × Obj)) from hp) (by simp),e0.hok.kept hk,?_⟩
 ·exact name_of_addr x.apart (QT h1) (QT h2)
 ·have hy:scope.names.lookup y = some .cell \/ scope.names.lookup y = some .free:=hy
  rcases hy with hy | hy
  ·exact AU hy
  ·exact absurd rfl (S.nofree _ (QT hy))
 ·exact Qg (x.above y c (QT h))
 ·have hi:i < vs.length:=by
   unfold aZ at h2
   by_cases hi:i < vs.length
   ·exact hi
   ·rw [QU (by simpa using hi)] at h2
    rw [List.getElem?_replicate] at h2
    split at h2 <;> cases h2
  have ha:vs[i]? = some v:=by
   unfold aZ at h2
   rw [Rg (by simpa using hi),PB] at h2
   cases e:vs[i]? with
   | none=>rw [e] at h2;cases h2
   | some a=>rw [e] at h2;cases h2;rfl
  obtain ⟨u,hu,rv⟩:=r.get ha
  have hp:ps[i]? = some y:=by
   rw [<- S.pre,List.getElem?_take_of_lt (by lia)];exact h1
  have ndP:ps.Nodup:=by rw [<- S.pre];exact S.nd.sublist (List.take_sublist _ _)
  refine ⟨u,rv,?_⟩
  rcases S.par y (QV hp) with k | k
  ·exact .inl ⟨k,yA ndP hp hu k⟩
  ·obtain ⟨c,e⟩:=AU (n:=s.heap.objs.size + 1) k
   refine .inr ⟨.inl k,c,e,?_⟩
   have q:=x.cell y c e
   rw [yb ndP hp hu (by show scope.names.lookup y ≠ _;rw [k];decide)] at q
   exact q
 ·exact e0.hok.fresh (Qg (x.above y c (QT h)))
 ·unfold aZ
  show _ = N.length
  rw [Ph,Pc,RL]
  lia
theorem LU {CX:CXT} {P:Program} {w:World} {K:W.Frag} {mg:Str -> Option Value} {base:Heap} {k:Nat} {f:Addr} {name qual:Str} {params:Arguments} {body:List Stmt} {scope:Scope} {dV kV doc pm cdv ct oc:Value} {an od:Option Addr}
  {osl:Array (Option Value)} {N ps:List Str} {sp:Sp} (lk:K.lookup f = some ⟨oc,od,.func (W.fnOf name qual params body scope dV kV doc pm an cdv ct),osl⟩) (hcd:W.codeIn K cdv qual = true) (S:FnScope N ps scope)
  (len:∀ vs H Q E,sp vs H Q E -> vs.length = ps.length)
  (hbody:∀ (A:Around) (outer:List Env) (s:Shared) (H:Hp) (vs:List V) (Q:VK) (E:XK),Room k (A.deeper (envOfC qual scope s.heap.objs.size f cdv)) -> sp vs H Q E ->
   ∃ t,PSs (Cz CX P w K mg base N qual scope f cdv A outer s H E) body t /\ t { nx:=fun _ H'=>Q .non H',rt:=Q } (aZ N vs) H) :
  FnOk P w K mg base CX (k + 1) f (W.fnOf name qual params body scope dV kV doc pm an cdv ct) ps sp:=by
 refine ⟨len,fun A outer s H args us vs Q E hr e0 hb r hsp=>?_⟩
 have hl:=len _ _ _ _ hsp
 have KX:K.In s.heap:=e0.mod.kin.keeps fun b o e=>(e0.bs b o e).1
 have lim:s.heap.NoLimit:=e0.mod.nolimit.keeps fun b o e=>(e0.bs b o e).1
 have hkind:∀ y ∈ ps.zip us,scope.names.lookup y.1 = some .local \/ (scope.names.lookup y.1 = some .cell /\ ((cellsFrom (s.heap.objs.size + 1) scope.names []).lookup y.1).isSome = true):=fun hpt0 hy=>by
  obtain ⟨n,v⟩:=hpt0
  rcases S.par n (List.of_mem_zip hy).1 with q | q
  ·exact .inl q
  ·exact .inr ⟨q,W.cellsFrom_some _ _ _ (.inl q)⟩
 refine codeAny_call_function hr.depth (KX _ _ lk) rfl S.co S.gen rfl (W.codeRec_of KX hcd) (hb _ _ _ _ ?_)
 refine wpAny_newFunctionEnv_cells S.kind hkind fun env he s1 x=>?_
 subst he
 refine ⟨lim.keeps x.toInCall.keep,codeAny_func ?_⟩
 obtain ⟨t,ht,hq⟩:=hbody A outer s H vs Q E (hr.deeper _) hsp
 have I:Inv (Cz CX P w K mg base N qual scope f cdv A outer s H E) [] (aZ N vs) H s1:=EH S hr.hd e0 hl r x
 refine P8 (ht [] s1 (aZ N vs) H _ I hq) (fun fl s' hs=>?_) fun e s' hs=>hs
 have fin:∀ {σ':St} {H':Hp} {v:V} {u:Value},Inv (Cz CX P w K mg base N qual scope f cdv A outer s H E) [] σ' H' s' -> RelV v u -> Q v H' -> CE outer P w H s Q u s':=
  fun {σ' H' v u} J rv q=>⟨v,H',J.os,J.bare,J.base,J.hok,rv,q⟩
 cases fl with
 | ret u=>
  obtain ⟨v,σ',H',J,rv,q⟩:=hs
  exact fin J rv q
 | next=>
  obtain ⟨σ',H',J,q⟩:=hs
  exact fin (v:=V.non) (u:=Value.none) J rfl q
 | brk=>
  obtain ⟨_,_,_,q⟩:=hs
  exact False.elim q
 | cont=>
  obtain ⟨_,_,_,q⟩:=hs
  exact False.elim q
section
variable {X:Cx} {x:Str} {p pos:Pos} {e:Expr} {es:List Expr} {t:TA} {id T:String} {r:List V -> Hp -> VK -> Prop}
def tCB (r:List V -> Hp -> VK -> Prop) (t:TA):TE:=fun σ H Q=>t σ H fun vs H1=>r vs H1 Q
theorem aV (hc:CallR X (.builtin id) r) (hg:Gl X x) (hm:X.mg x = none) (hv:bootBuiltins x = some (.builtin id)) (ha:PA X (e :: es) t) (hn:x ≠ "__name__" := by decide) (hdb:(x == ("__debug__" : Str)) = false:=by decide)
  (he:starEach (e :: es) X.env = (false,eval e X.env) :: starEach es X.env:=by rfl) (hpl:(backTo pos (starEach es X.env)).any (·.1) = false:=by rfl):PE X (.Call (.Name x p) (e :: es) [] pos) (tCB r t):=by
 intro pins s σ H Q I h
 refine RA (nq I hg hm hv ?_ hn hdb)
 exact PyProof.Rows.callWith_builtin1 (thn (ha pos pins s σ H _ I h) fun us s1 ⟨vs,H1,I1,r1,q1⟩=>hc pins s1 σ H1 vs us Q I1 r1 q1) he hpl
theorem cF (hc:CallR X (.type T) r) (hg:Gl X x) (hm:X.mg x = none) (hv:bootBuiltins x = some (.type T)) (ha:PA X (e :: es) t) (hn:x ≠ "__name__" := by decide) (hdb:(x == ("__debug__" : Str)) = false:=by decide)
  (he:starEach (e :: es) X.env = (false,eval e X.env) :: starEach es X.env:=by rfl) (hpl:(backTo pos (starEach es X.env)).any (·.1) = false:=by rfl):PE X (.Call (.Name x p) (e :: es) [] pos) (tCB r t):=by
 intro pins s σ H Q I h
 refine RA (nq I hg hm hv ?_ hn hdb)
 exact Q3 (thn (ha pos pins s σ H _ I h) fun us s1 ⟨vs,H1,I1,r1,q1⟩=>hc pins s1 σ H1 vs us Q I1 r1 q1) he hpl
end
end L2
namespace HT
open PySem PyProof.Rows
def cT:List Int -> List Int -> Bool
 | [],[]=>false
 | [],_ :: _=>true
 | _ :: _,[]=>false
 | x :: xs,y :: ys=>if x = y then cT xs ys else decide (x < y)
theorem B0 (x y:Int) (xs ys:List Int):cT (x :: xs) (y :: ys) = if x = y then cT xs ys else decide (x < y):=rfl
section
open PySem.SeqAt
open PySem.AutoSeq1 (wpAny_loadPart')
open PySem.MeetsSeq PySem.MeetsSeq2 PySem.MeetsSeq3
end
section
variable {prog:Program} {w:World} {A:Around} {E:Value -> Shared -> Prop} {s:Shared}
theorem Hz {t b:Addr} {vs ws:List Value} {Q:Value -> Shared -> Prop} (ht:IsTup s.heap t vs.toArray) (hb:IsTup s.heap b ws.toArray) (hv:vs ≠ [])
  (h1:ws = [] -> Q (.ref t) s) (h2:ws ≠ [] -> Q (.ref s.heap.objs.size) { s with heap:=s.heap.push { cls:=.type "tuple",data:=.seq (vs ++ ws).toArray } })
  (hsz:vs.length + ws.length <= sizeLine):wpAny (model prog w) A (binaryOp .Add (.ref t) (.ref b)) Q E s:=by
 obtain ⟨⟨cls,dd,data,sl⟩,ho,hc,n,hd⟩:=id ht
 obtain ⟨⟨cls2,dd2,data2,sl2⟩,ho2,hc2,n2,hd2⟩:=id hb
 simp only at hc hd hc2 hd2
 subst hc hd hc2 hd2
 have e:vs.toArray ++ ws.toArray = (vs ++ ws).toArray:=by simp
 by_cases hw:ws = []
 ·exact concat_meets ⟨_,ho,rfl⟩ ⟨_,ho2,rfl⟩ noFill_tuple_add seq_tuple_add RM RN (RP _ _)
   (tuple_addW1 t b vs.toArray ws.toArray n n2 dd dd2 sl sl2 (by simpa using hv) (by simp [hw])) ⟨ho,ho2,h1 hw⟩
 ·refine concat_meets ⟨_,ho,rfl⟩ ⟨_,ho2,rfl⟩ noFill_tuple_add seq_tuple_add RM RN (RP _ _)
   (tuple_addW2 t b vs.toArray ws.toArray n n2 dd dd2 sl sl2 (by simpa using hv) (by simpa using hw) (by rw [Px,Px];exact hsz)) ⟨ho,ho2,?_⟩
  rw [e]
  exact h2 hw
def sIx (n d:Nat):Option Int -> Nat
 | none=>d
 | some v=>if v < 0 then (v + (n:Int)).toNat else min v.toNat n
theorem Ko (n d:Nat) (hd:d <= n) (o:Option Int):sIx n d o <= n:=by
 cases o with
 | none=>exact hd
 | some v=>
  show (if v < 0 then (v + (n:Int)).toNat else min v.toNat n) <= n
  by_cases hv:v < 0
  ·rw [O7 hv];lia
  ·rw [O8 hv];exact Nat.min_le_right _ _
theorem Dc (v:Int) (n d:Nat):(if v < 0 then max (v + (n:Int)) 0 else min v (n:Int)) = ((sIx n d (some v):Nat):Int):=by
 show (if v < 0 then max (v + (n:Int)) 0 else min v (n:Int)) = (((if v < 0 then (v + (n:Int)).toNat else min v.toNat n):Nat):Int)
 by_cases hv:v < 0
 ·simp only [O7 hv];lia
 ·simp only [O8 hv];lia
theorem BC (lo hi:Option Int) (n:Nat):Builtin.Slice.sliceAdjust lo hi 1 (n:Int) = (((sIx n 0 lo:Nat):Int),((sIx n n hi:Nat):Int)):=by
 have h1:¬ ((1:Int) < 0):=by lia
 unfold Builtin.Slice.sliceAdjust
 simp only [h1,if_false]
 refine Prod.ext ?_ ?_
 ·cases lo with
  | none=>rfl
  | some v=>exact Dc v n 0
 ·cases hi with
  | none=>rfl
  | some v=>exact Dc v n n
theorem Cm (i j:Nat):Builtin.Slice.slicePlaces (i:Int) (j:Int) 1 = j - i:=by
 unfold Builtin.Slice.slicePlaces
 have h1:(1:Int) > 0:=by lia
 simp only [h1,QE,Int.ediv_one]
 split <;> lia
theorem uN {v:Value} {o:Option Int} {Q:Option Int -> Shared -> Prop} (p:IsPart v o) (h:Q o s):wpAny (model prog w) A (Builtin.Slice.slicePartIndex v) Q E s:=by
 cases p with
 | none=>exact slicePart_none h
 | int i t=>exact slicePart_int h
theorem kg {sl:Addr} {vl vu:Value} {lo hi:Option Int} {n:Nat} {Q:Int × Int × Nat -> Shared -> Prop} (hs:s.heap.IsSliceOf sl vl vu .none) (pl:IsPart vl lo) (pu:IsPart vu hi)
  (h:Q (((sIx n 0 lo:Nat):Int),1,sIx n n hi - sIx n 0 lo) s):wpAny (model prog w) A (Builtin.Slice.sliceApplied (.ref sl) (pure (n:Int))) Q E s:=by
 obtain ⟨os,hos,hcs,hds⟩:=id hs
 unfold Builtin.Slice.sliceApplied Builtin.Slice.sliceFields
 refine Pb (Pb (QF hos hds (x:=vl) rfl (Pb (QF hos hds (x:=vu) rfl (Pb (QF hos hds (x:=.none) rfl (Pj ?_)))))))
 refine Pb (slicePart_none ?_)
 show wpAny _ _ (if ((1:Int) == 0) = true then _ else _) _ _ s
 rw [O8 (by decide)]
 refine Pb (uN pl (Pb (uN pu (Pb (Pj ?_)))))
 show wpAny _ _ (match Builtin.Slice.sliceAdjust lo hi 1 (n:Int) with | (lo,hi)=>pure (lo,(1:Int),Builtin.Slice.slicePlaces lo hi 1)) _ _ s
 rw [BC lo hi n]
 show wpAny _ _ (pure (((sIx n 0 lo:Nat):Int),(1:Int),Builtin.Slice.slicePlaces ((sIx n 0 lo:Nat):Int) ((sIx n n hi:Nat):Int) 1)) _ _ s
 rw [Cm]
 exact Pj h
theorem Gv (xs:Array Value) (i k:Nat):((List.range k).filterMap fun (m:Nat)=>xs[((i:Int) + (m:Int) * 1).toNat]?).toArray = ((xs.toList.drop i).take k).toArray:=by
 have e:(fun (m:Nat)=>xs[((i:Int) + (m:Int) * 1).toNat]?) = fun m=>xs[i + m]?:=by
  funext m
  have:((i:Int) + (m:Int) * 1).toNat = i + m:=by lia
  rw [this]
 rw [e]
 have:=pick_run xs i k
 rw [List.filterMap_map] at this
 have e2:((fun x=>xs[x]?) ∘ fun x=>i + x) = fun m=>xs[i + m]?:=rfl
 rw [e2] at this
 rw [this]
theorem qK {t sl:Addr} {items:Array Value} {vl vu:Value} {lo hi:Option Int} {Q:Value -> Shared -> Prop} (ht:IsTup s.heap t items) (hs:s.heap.IsSliceOf sl vl vu .none) (pl:IsPart vl lo) (pu:IsPart vu hi)
  (hw:¬ (sIx items.size 0 lo = 0 /\ sIx items.size items.size hi = items.size))
  (h:Q (.ref s.heap.objs.size) { s with heap:=s.heap.push { cls:=.type "tuple",data:=.seq ((items.toList.drop (sIx items.size 0 lo)).take (sIx items.size items.size hi - sIx items.size 0 lo)).toArray } })
  (hsz:items.size <= sizeLine):wpAny (model prog w) A (getItem (.ref t) (.ref sl)) Q E s:=by
 have htake:sizeOk (.seq ((items.toList.drop (sIx items.size 0 lo)).take (sIx items.size items.size hi - sIx items.size 0 lo)).toArray):=by
  show ((items.toList.drop (sIx items.size 0 lo)).take (sIx items.size items.size hi - sIx items.size 0 lo)).toArray.size <= sizeLine
  rw [Px,Q6,List.length_drop,P9]
  omega
 have hj:sIx items.size items.size hi <= items.size:=Ko _ _ (Pf _) hi
 obtain ⟨os,hos,hcs,hds⟩:=id hs
 have hTs:s.TypeIs (.ref sl) "slice" := ⟨os,hos,hcs⟩
 unfold getItem
 try with_reducible refine QQ ?_
 first | refine Pb (Pj ?_) | skip
 refine Pb (wpAny_sequenceKey ht.typeIs (by decide) ?_)
 refine Pb (RB (name:=Str.ofString "__getitem__") ht.typeIs Q7
  (Q8 Q7 ht.typeIs entry_tuple_getitem ?_ (args_tuple_getitem _ _)))
 show wpAny _ _ (Builtin.Tuple.tupleItemsOf (.ref t) >>= _) _ _ s
 refine Pb (tupleItemsOf_ ht ?_)
 refine Pb (wpAny_typeOf hTs ?_)
 rw [O7 (by decide)]
 refine Pb (kg hs pl pu ?_)
 have hno:¬ ((((sIx items.size 0 lo:Nat):Int) == 0 && (1:Int) == 1 && (sIx items.size items.size hi - sIx items.size 0 lo) == items.size) = true):=by
  intro q
  rw [Qd,Qd] at q
  have q1:((sIx items.size 0 lo:Nat):Int) = 0:=eq_of_beq q.1.1
  have q2:sIx items.size items.size hi - sIx items.size 0 lo = items.size:=eq_of_beq q.2
  exact hw ⟨by omega,by omega⟩
 show wpAny _ _ (if (((sIx items.size 0 lo:Nat):Int) == 0 && (1:Int) == 1 && (sIx items.size items.size hi - sIx items.size 0 lo) == items.size) = true then _ else _) _ _ s
 rw [O8 hno,Gv]
 first
  | exact Pb (m:=Builtin.Tuple.tupleExact _) (Qn (Pj ⟨_,rfl,Pj h⟩) htake)
  | exact Pb (m:=Builtin.Tuple.tupleExact _) (Qn (Pb (Pj (Pj ⟨_,rfl,Pj h⟩))) htake)
  | exact Pb (Pb (m:=Builtin.Tuple.tupleExact _) (Qn (Pj (Pj ⟨_,rfl,Pj h⟩)) htake))
  | exact Pb (Pb (m:=Builtin.Tuple.tupleExact _) (Qn (Pj ⟨_,rfl,Pj h⟩) htake))
end
end HT
namespace L2
open PySem PySem.Spec PyProof.Rows
abbrev TO:=St -> Hp -> (Option Int -> Hp -> Prop) -> Prop
def PO (X:Cx) (e:Option Expr) (t:TO):Prop:=
 ∀ (pins:List (Addr × Obj)) (s:Shared) (σ:St) (H:Hp) (Q:Option Int -> Hp -> Prop),Inv X pins σ H s -> t σ H Q ->
  wpAny (model X.prog X.w) X.A (evalPart e X.env) (fun u s'=>∃ o H',Inv X pins σ H' s' /\ IsPart u o /\ Q o H') X.xe s
def Dr:TO:=fun _ H Q=>Q none H
def IC (t:TE):TO:=fun σ H Q=>t σ H fun x H1=>∃ i,x = .int i /\ Q (some i) H1
theorem jq {ns:List Int}:∀ {us:List Value},Vals (ns.map V.int) us -> IntsAre us ns:=by
 induction ns with
 | nil=>intro us r;rw [List.map_nil] at r;cases r;exact .nil
 | cons n ns ih=>
  intro us r
  rw [Ps] at r
  cases r with
  | cons r1 r2=>
   obtain ⟨t,e⟩:=r1
   subst e
   exact .cons n t (ih r2)
section
variable {X:Cx} {e:Expr} {te:TE} {lo hi:Option Expr} {tl th:TO} {pos p2:Pos}
theorem DF:PO X none Dr:=by
 intro pins s σ H Q I h
 rw [evalPart_none]
 exact Pj ⟨none,H,I,.none,h⟩
theorem ux (h:PE X e te):PO X (some e) (IC te):=by
 intro pins s σ H Q I hw
 rw [evalPart_some]
 refine thn (h pins s σ H _ I hw) fun u s1 hpt9=>?_
 obtain ⟨x,H1,I1,r1,q1⟩:=hpt9
 obtain ⟨i,rfl,q⟩:=q1
 obtain ⟨t,rfl⟩:=r1
 exact ⟨some i,H1,I1,.int i t,q⟩
def SlR (X:Cx) (r:V -> Option Int -> Option Int -> Hp -> VK -> Prop):Prop:=
 ∀ (pins:List (Addr × Obj)) (s:Shared) (σ:St) (H:Hp) (x:V) (v vl vu:Value) (lo hi:Option Int) (sl:Addr) (Q:VK),Inv X pins σ H s -> RelV x v -> s.heap.IsSliceOf sl vl vu .none -> IsPart vl lo -> IsPart vu hi -> r x lo hi H Q ->
  ∃ T id,typeLookup (.type T) "__getitem__" = pure (some (.builtin id)) /\ s.TypeIs v T /\ wpAny (model X.prog X.w) X.A (getItem v (.ref sl)) (EP X pins σ Q) X.xe s
theorem SlR.or {r r':V -> Option Int -> Option Int -> Hp -> VK -> Prop} (h:SlR X r) (h':SlR X r'):SlR X (fun x lo hi H Q=>r x lo hi H Q \/ r' x lo hi H Q):=by
 intro pins s σ H x v vl vu lo hi sl Q I rx hs pl pu q
 rcases q with q | q
 ·exact h pins s σ H x v vl vu lo hi sl Q I rx hs pl pu q
 ·exact h' pins s σ H x v vl vu lo hi sl Q I rx hs pl pu q
def tSl (r:V -> Option Int -> Option Int -> Hp -> VK -> Prop) (te:TE) (tl th:TO):TE:=fun σ H Q=>te σ H fun x H1=>tl σ H1 fun l H2=>th σ H2 fun u H3=>r x l u H3 Q
theorem wf {r:V -> Option Int -> Option Int -> Hp -> VK -> Prop} (hr:SlR X r) (he:PE X e te) (hl:PO X lo tl) (hu:PO X hi th):PE X (.Subscript e (.Slice lo hi none p2) pos) (tSl r te tl th):=by
 intro pins s σ H Q I h
 refine Subscript_ (thn (he pins s σ H _ I h) fun v s1 hpt9=>?_)
 obtain ⟨x,H1,I1,r1,q1⟩:=hpt9
 refine wpAny_Slice (thn (hl pins s1 σ H1 _ I1 q1) fun vl s2 ⟨l,H2,I2,pl,q2⟩=>thn (hu pins s2 σ H2 _ I2 q2) fun vu s3 hpt9=>?_)
 obtain ⟨u,H3,I3,pu,q3⟩:=hpt9
 rw [evalPart_none]
 refine Pj ?_
 have I4:Inv X pins σ H3 { s3 with heap:=s3.heap.push { cls:=.type "slice",data:=.fields #[vl,vu,.none] } }:=I3.kept (t':=s3.toks) fun b ob q=>Pu _ q
 obtain ⟨T,id,hT,ht,hg⟩:=hr pins { s3 with heap:=s3.heap.push { cls:=.type "slice",data:=.fields #[vl,vu,.none] } } σ H3 x v vl vu l u s3.heap.objs.size Q I4 r1 (Heap.IsSliceOf.new ..) pl pu q3
 show wpAny (model X.prog X.w) X.A (subscriptTail e (.Slice lo hi none p2) v (.ref s3.heap.objs.size)) (EP X pins σ Q) X.xe { s3 with heap:=s3.heap.push { cls:=.type "slice",data:=.fields #[vl,vu,.none] } }
 exact tail_any (ops:=[.ref s3.heap.objs.size,v]) ht hT hg (by with_unfolding_all rfl)
def pO (xs:List V) (lo hi:Option Int):List V:=(xs.drop (HT.sIx xs.length 0 lo)).take (HT.sIx xs.length xs.length hi - HT.sIx xs.length 0 lo)
theorem sT (xs:List V) (lo hi:Option Int):(pO xs lo hi).length <= xs.length:=by
 unfold pO
 rw [Q6,List.length_drop]
 lia
def M5 (K:W.Frag):V -> Option Int -> Option Int -> Hp -> VK -> Prop:=fun x lo hi H Q=>∃ a xs,x = .ref a /\ SqT K H a xs /\
 ¬ (HT.sIx xs.length 0 lo = 0 /\ HT.sIx xs.length xs.length hi = xs.length) /\ ∀ p,H p = none -> Q (.ref p) (upd H p (.tup (pO xs lo hi)))
theorem JI:SlR X (M5 X.K):=by
 intro pins s σ H x v vl vu lo hi sl Q I rx hs pl pu h
 obtain ⟨a,xs,rfl,hx,hw,q⟩:=h
 cases rx
 obtain ⟨its,r,ht,hz⟩:=I.tuple hx
 have hlen:its.toArray.size = xs.length:=by rw [Px];exact r.length.symm
 refine ⟨"tuple",_,Q7.lookup,ht.typeIs,?_⟩
 refine HT.qK ht hs pl pu (by rw [hlen];exact hw) ?_ (by rw [hlen];exact hz)
 rw [hlen]
 refine ⟨.ref s.heap.objs.size,_,I.laid (t':=s.toks) (o:=.tup (pO xs lo hi)) (fun b ob q=>Pu _ q) (Pf _) ?_,rfl,q _ (I.hok.fresh (Pf _))⟩
 exact ⟨PL (sT xs lo hi) hz,_,(r.drop (HT.sIx xs.length 0 lo)).take (HT.sIx xs.length xs.length hi - HT.sIx xs.length 0 lo),IsTup.new _ _⟩
theorem Vals.nil_iff {xs:List V} {us:List Value} (r:Vals xs us):us = [] ↔ xs = []:=by
 cases r with
 | nil=>simp
 | cons _ _=>simp
end
def ixN (n:Nat) (i:Int):Option Nat:=if 0 <= i then (if i < n then some i.toNat else none) else if -(n:Int) <= i then some (i + n).toNat else none
def atI {α:Type} (xs:List α) (i:Int):Option α:=(ixN xs.length i).bind fun j=>xs[j]?
theorem DP {n:Nat} {i:Int} {j:Nat} (h:ixN n i = some j):seqIndex? i n = some j /\ j < n /\ -(n:Int) <= i /\ i < n:=by
 unfold ixN at h
 by_cases h0:0 <= i
 ·rw [O7 h0] at h
  by_cases h1:i < n
  ·rw [O7 h1] at h
   have e:i.toNat = j:=PR h
   exact ⟨by rw [seqIndex_of h0 h1,e],by lia,by lia,h1⟩
  ·rw [O8 h1] at h;cases h
 ·rw [O8 h0] at h
  by_cases h1:-(n:Int) <= i
  ·rw [O7 h1] at h
   have e:(i + n).toNat = j:=PR h
   exact ⟨by rw [seqIndex_neg (by lia) h1,e],by lia,h1,by lia⟩
  ·rw [O8 h1] at h;cases h
theorem zz {α:Type} {xs:List α} {i:Int} {v:α} (h:atI xs i = some v):∃ j,seqIndex? i xs.length = some j /\ xs[j]? = some v /\ j < xs.length /\ -(xs.length:Int) <= i /\ i < xs.length:=by
 unfold atI at h
 cases e:ixN xs.length i with
 | none=>rw [e] at h;cases h
 | some j=>
  rw [e] at h
  obtain ⟨h1,h2,h3,h4⟩:=DP e
  exact ⟨j,h1,h,h2,h3,h4⟩
def Df (b:Expr):Prop:=∀ o i,subscripted b false o i = operate [o,i] (getItem o i)
def IxR (X:Cx) (r:R2):Prop:=
 ∀ (value slice:Expr) (pins:List (Addr × Obj)) (s:Shared) (σ:St) (H:Hp) (x y:V) (v u:Value) (Q:VK),Inv X pins σ H s -> RelV x v -> RelV y u -> r x y H Q ->
  subscripted slice false v u = operate [v,u] (getItem v u) -> wpAny (model X.prog X.w) X.A (subscriptTail value slice v u) (EP X pins σ Q) X.xe s
def MtR (X:Cx) (id:String) (r:V -> List V -> Hp -> VK -> Prop):Prop:=
 ∀ (pins:List (Addr × Obj)) (s:Shared) (σ:St) (H:Hp) (x:V) (xs:List V) (v:Value) (us:List Value) (Q:VK),Inv X pins σ H s -> RelV x v -> Vals xs us -> r x xs H Q ->
  wpAny (model X.prog X.w) X.A (call (.builtin id) (v :: us)) (EP X pins σ Q) X.xe s
section
variable {X:Cx} {a b:Expr} {ta tb:TE} {pos:Pos}
theorem IxR.or {r r':R2} (h:IxR X r) (h':IxR X r'):IxR X (fun x y H Q=>r x y H Q \/ r' x y H Q):=by
 intro value slice pins s σ H x y v u Q I rx ry q hs
 rcases q with q | q
 ·exact h value slice pins s σ H x y v u Q I rx ry q hs
 ·exact h' value slice pins s σ H x y v u Q I rx ry q hs
theorem Ms {r:R2} (hr:IxR X r) (ha:PE X a ta) (hb:PE X b tb) (hs:Df b):PE X (.Subscript a b pos) (tOp r ta tb):=by
 intro pins s σ H Q I h
 exact Subscript_ (Jx ha hb I h fun v u s2 x y H2 I2 rx ry q=>hr a b pins s2 σ H2 x y v u Q I2 rx ry q (hs _ _))
def Mi (K:W.Frag):R2:=fun x y H Q=>∃ p xs i v,x = .ref p /\ y = .int i /\ SqL K H p xs /\ atI xs i = some v /\ Q v H
def ME (K:W.Frag):R2:=fun x y H Q=>∃ p xs i v,x = .ref p /\ y = .int i /\ SqT K H p xs /\ atI xs i = some v /\ Q v H
def Lx:R2:=fun x y H Q=>∃ z i c,x = .str z /\ y = .int i /\ z.length <= sizeLine /\ atI z.cps.toList i = some c /\ Q (.str ⟨#[c]⟩) H
theorem ix_list:IxR X (Mi X.K):=by
 intro value slice pins s σ H x y v u Q I rx ry h hs
 obtain ⟨p,xs,i,z,rfl,rfl,hq,he,q⟩:=h
 cases rx
 obtain ⟨t,rfl⟩:=ry
 obtain ⟨its,r,pl,hz⟩:=I.list hq
 obtain ⟨j,h1,h2,h3,h4,h5⟩:=zz he
 obtain ⟨w,ew,rw'⟩:=r.get h2
 have hl:=r.length
 have hn:=pE
 have fin:EP X pins σ Q w s:=⟨z,H,I,rw',q⟩
 by_cases h0:0 <= i
 ·have hj:i.toNat = j:=by
   rw [seqIndex_of h0 h5] at h1
   exact PR h1
  exact item_listR pl.isList h0 (by lia) (by rw [hj];simpa using ew) fin hs
 ·have hj:(i + (its.toArray.size:Int)).toNat = j:=by
   rw [seqIndex_neg (by lia) h4] at h1
   rw [Px,<- hl]
   exact PR h1
  exact subscriptTail_builtinR (x:=w) pl.isList.typeIs slot_list_getitem.lookup
   (wpAny_getItem_list_neg (Q:=fun r s'=>r = w /\ EP X pins σ Q r s') pl.isList (by lia) (by rw [Px] <;> lia) (by lia) (by rw [hj];simpa using ew) ⟨rfl,fin⟩) hs
theorem ix_tup:IxR X (ME X.K):=by
 intro value slice pins s σ H x y v u Q I rx ry h hs
 obtain ⟨p,xs,i,z,rfl,rfl,hq,he,q⟩:=h
 cases rx
 obtain ⟨t,rfl⟩:=ry
 obtain ⟨its,r,pl,hz⟩:=I.tuple hq
 obtain ⟨j,h1,h2,h3,h4,h5⟩:=zz he
 obtain ⟨w,ew,rw'⟩:=r.get h2
 have hl:=r.length
 have hn:=pE
 have fin:EP X pins σ Q w s:=⟨z,H,I,rw',q⟩
 exact subscriptTail_builtinR (x:=w) pl.typeIs slot_tuple_getitem.lookup
  (getItem_tuple (j:=j) (Q:=fun r s'=>r = w /\ EP X pins σ Q r s') pl (by lia) (by lia) (by rw [Px,<- hl];exact h1) (by simpa using ew) ⟨rfl,fin⟩) hs
theorem Jp:IxR X Lx:=by
 intro value slice pins s σ H x y v u Q I rx ry h hs
 obtain ⟨z,i,c,rfl,rfl,hz,he,q⟩:=h
 obtain ⟨t,rfl⟩:=rx
 obtain ⟨t',rfl⟩:=ry
 obtain ⟨j,h1,h2,h3,h4,h5⟩:=zz he
 have hl:z.cps.toList.length = z.length:=by simp [Str.length]
 rw [hl] at h1 h4 h5
 have hn:=pE
 exact tail_any (typeIs_str s z t) slot_str_getitem.lookup (getItem_str (c:=c) (by
  have e1:decide (i < -(2 ^ 63:Int)) = false:=PM (by lia)
  have e2:decide (i ≥ 2 ^ 63) = false:=PM (by lia)
  rw [e1,e2,Bool.or_false]) (by rw [h1];simpa using h2) ⟨.str ⟨#[c]⟩,H,I.tok _,⟨_,rfl⟩,q⟩) hs
def rIx (K:W.Frag):R2:=fun x y H Q=>Mi K x y H Q \/ ME K x y H Q \/ Lx x y H Q
theorem Kw:IxR X (rIx X.K):=ix_list.or (ix_tup.or Jp)
theorem CG (its:List Value) (n j:Nat) (u:Value):Obj.mapSeq (·.setIfInBounds j u) { cls:=.type "list",data:=.seq its.toArray n } = { cls:=.type "list",data:=.seq (its.set j u).toArray n }:=by
 simp [Obj.mapSeq]
theorem Inv.lst {pins:List (Addr × Obj)} {σ:St} {H:Hp} {s:Shared} {p:Addr} {xs:List V} (I:Inv X pins σ H s) (h:H p = some (.lst xs)) :
  ∃ (its:List Value) (n:Nat),Vals xs its /\ s.heap.get? p = some { cls:=.type "list",data:=.seq its.toArray n } /\ xs.length <= sizeLine:=by
 obtain ⟨z,its,n,r,e⟩:=I.hok p _ h
 exact ⟨its,n,r,e,z⟩
theorem Inv.lstUpd {pins:List (Addr × Obj)} {σ:St} {H:Hp} {s:Shared} {p:Addr} {xs ys:List V} {its its':List Value} {n n':Nat} {f:Obj -> Obj} (I:Inv X pins σ H s) (h:H p = some (.lst xs))
  (ho:s.heap.get? p = some { cls:=.type "list",data:=.seq its.toArray n }) (hf:f { cls:=.type "list",data:=.seq its.toArray n } = { cls:=.type "list",data:=.seq its'.toArray n' }) (r:Vals ys its') (hz:ys.length <= sizeLine) (t:Nat) :
  Inv X pins σ (upd H p (.lst ys)) { s with heap:=s.heap.update p f,toks:=t }:=by
 have e:(s.heap.update p f).get? p = some { cls:=.type "list",data:=.seq its'.toArray n' }:=by
  rw [RQ f ho (by rw [hf] <;> rfl),hf]
 refine I.write (x:=p) (e:=p) (by rw [h];trivial) (.inl rfl) (fun b u hb q=>(Heap.get?_update_other _ _ (P1 hb)).trans q) ⟨_,e⟩ ?_
 exact ⟨hz,its',n',r,e⟩
def IP:V -> V -> V -> Hp -> (Hp -> Prop) -> Prop:=fun o i v H Q=>∃ p xs k j,o = .ref p /\ i = .int k /\ H p = some (.lst xs) /\ ixN xs.length k = some j /\ Q (upd H p (.lst (xs.set j v)))
theorem u9:LG X IP:=by
 intro pins s σ H o i v ov iv u Q I ro ri rv h
 obtain ⟨p,xs,k,j,rfl,rfl,hp,hj,q⟩:=h
 cases ro
 obtain ⟨t,rfl⟩:=ri
 obtain ⟨its,n,r,ho,hz⟩:=I.lst hp
 obtain ⟨h1,h2,h3,h4⟩:=DP hj
 have hl:=r.length
 have hn:=pE
 have I':Inv X pins σ (upd H p (.lst (xs.set j v))) { s with heap:=s.heap.update p (Obj.mapSeq (·.setIfInBounds j u)) }:=
  I.lstUpd hp ho (CG its n j u) (r.set rv j) (by rw [QG];exact hz) s.toks
 by_cases h0:0 <= k
 ·have hk:k.toNat = j:=by
   rw [seqIndex_of h0 h4] at h1
   exact PR h1
  exact W.ki_setAt ho h0 (by lia) (by rw [Px,<- hl];exact h4) (by rw [hk];exact ⟨_,I',q⟩)
 ·have hk:(k + (its.toArray.size:Int)).toNat = j:=by
   rw [seqIndex_neg (by lia) h3] at h1
   rw [Px,<- hl]
   exact PR h1
  exact W.ki_setBack ho (by lia) (by rw [Px,<- hl];exact h3) (by lia) (by rw [hk];exact ⟨_,I',q⟩)
theorem yV (lo hi:Option Int) (n:Nat):(sliceBounds lo hi none n).1 = ((HT.sIx n 0 lo:Nat):Int) /\ (sliceBounds lo hi none n).2.1 = ((HT.sIx n n hi:Nat):Int) /\ (sliceBounds lo hi none n).2.2 = 1:=by
 refine ⟨?_,?_,rfl⟩
 ·cases lo with
  | none=>simp [sliceBounds,HT.sIx]
  | some i=>
   simp only [sliceBounds,HT.sIx,Option.getD_none,show (1:Int) > 0 by decide,QE]
   by_cases h:i < 0
   ·simp only [h,QE] <;> lia
   ·simp only [h,if_false] <;> lia
 ·cases hi with
  | none=>simp [sliceBounds,HT.sIx]
  | some i=>
   simp only [sliceBounds,HT.sIx,Option.getD_none,show (1:Int) > 0 by decide,QE]
   by_cases h:i < 0
   ·simp only [h,QE] <;> lia
   ·simp only [h,if_false] <;> lia
theorem xl (its:List Value) (lo hi:Option Int):slicePick its.toArray lo hi none = ((its.drop (HT.sIx its.length 0 lo)).take (HT.sIx its.length its.length hi - HT.sIx its.length 0 lo)).toArray:=by
 obtain ⟨h1,h2,h3⟩:=yV lo hi its.toArray.size
 unfold slicePick
 rw [h1,h2,h3]
 simp only [sliceRange_one,pick_run,Px] <;> rfl
def LX (K:W.Frag):V -> Option Int -> Option Int -> Hp -> VK -> Prop:=fun x lo hi H Q=>∃ a xs,x = .ref a /\ SqL K H a xs /\ ∀ p,H p = none -> Q (.ref p) (upd H p (.lst (pO xs lo hi)))
theorem HG:SlR X (LX X.K):=by
 intro pins s σ H x v vl vu lo hi sl Q I rx hs pl pu h
 obtain ⟨a,xs,rfl,hx,q⟩:=h
 cases rx
 obtain ⟨its,r,ht,hz⟩:=I.list hx
 have hlen:=r.length
 refine ⟨"list",_,slot_list_getitem.lookup,ht.isList.typeIs,?_⟩
 refine wpAny_getItem_list_slice ht.isList hs pl pu .none (by simp) ?_ (by rw [Px] <;> lia)
 rw [xl,<- hlen]
 refine ⟨.ref s.heap.objs.size,_,I.laid (t':=s.toks) (o:=.lst (pO xs lo hi)) (fun b ob q=>Pu _ q) (Pf _) ?_,rfl,q _ (I.hok.fresh (Pf _))⟩
 exact ⟨PL (sT xs lo hi) hz,_,0,(r.drop (HT.sIx xs.length 0 lo)).take (HT.sIx xs.length xs.length hi - HT.sIx xs.length 0 lo),PP _ rfl⟩
theorem CallR.or {f:Value} {r r':List V -> Hp -> VK -> Prop} (h:CallR X f r) (h':CallR X f r'):CallR X f (fun xs H Q=>r xs H Q \/ r' xs H Q):=by
 intro pins s σ H xs us Q I rs q
 rcases q with q | q
 ·exact h pins s σ H xs us Q I rs q
 ·exact h' pins s σ H xs us Q I rs q
theorem zt:CallR X (.type "list") (fun xs H Q=>∃ p ys,xs = [.ref p] /\ (SqL X.K H p ys \/ SqT X.K H p ys) /\ ∀ l,H l = none -> Q (.ref l) (upd H l (.lst ys))):=by
 intro pins s σ H xs us Q I r h
 obtain ⟨p,ys,rfl,hq,q⟩:=h
 obtain ⟨u,rfl,rx⟩:=z8 r
 cases rx
 have fin:∀ (its:List Value),Vals ys its -> ys.length <= sizeLine -> ∀ (h':Heap) (c':Nat),(∀ b o',s.heap.get? b = some o' -> h'.get? b = some o') ->
   h'.get? s.heap.objs.size = some { cls:=.type "list",dict:=none,data:=.seq its.toArray c',slots:=#[] } -> EP X pins σ Q (.ref s.heap.objs.size) { s with heap:=h' }:=fun its r' hz h' c' kp e=>
  ⟨.ref s.heap.objs.size,_,I.laid (t':=s.toks) kp (Pf _) (show ObjOk X.prog X.w _ h' _ (.lst ys) from ⟨hz,its,c',r',e⟩),rfl,q _ (I.hok.fresh (Pf _))⟩
 rcases hq with hq | hq
 ·obtain ⟨its,r',pl,hz⟩:=I.list hq
  have hlen:=r'.length
  obtain ⟨o,ho,hc,n,hd⟩:=pl.isList
  exact call_list_seq p (.inl rfl) ho hc hd (fun h' c' kp e=>fin its r' hz h' c' kp e) (by simp only [Px] <;> lia)
 ·obtain ⟨its,r',pl,hz⟩:=I.tuple hq
  have hlen:=r'.length
  obtain ⟨o,ho,hc,n,hd⟩:=pl
  exact call_list_seq p (.inr rfl) ho hc hd (fun h' c' kp e=>fin its r' hz h' c' kp e) (by simp only [Px] <;> lia)
theorem bu:CallR X (.type "tuple") (fun xs H Q=>∃ p ys,xs = [.ref p] /\ ((SqL X.K H p ys /\ ∀ l,H l = none -> Q (.ref l) (upd H l (.tup ys))) \/ (SqT X.K H p ys /\ Q (.ref p) H))):=by
 intro pins s σ H xs us Q I r h
 obtain ⟨p,ys,rfl,h⟩:=h
 obtain ⟨u,rfl,rx⟩:=z8 r
 cases rx
 rcases h with ⟨hq,q⟩ | ⟨hq,q⟩
 ·obtain ⟨its,r',pl,hz⟩:=I.list hq
  have hlen:=r'.length
  refine call_tuple_list pl.isList (fun h' kp=>?_) (by simp only [Px] <;> lia)
  have I1:Inv X pins σ H { s with heap:=h' }:=I.kept (t':=s.toks) kp
  have I2:Inv X pins σ (upd H h'.objs.size (.tup ys)) { s with heap:=h'.push { cls:=.type "tuple",data:=.seq its.toArray } }:=
   I1.laid (t':=s.toks) (fun b o e=>Pu _ e) (Pf _) (show ObjOk X.prog X.w _ _ _ (.tup ys) from ⟨hz,its,r',IsTup.new _ _⟩)
  exact ⟨.ref h'.objs.size,_,I2,rfl,q _ (I1.hok.fresh (Pf _))⟩
 ·obtain ⟨its,r',pl,hz⟩:=I.tuple hq
  exact call_tuple_same pl ⟨.ref p,H,I,rfl,q⟩
def tyV (K:W.Frag) (T:String) (x:V) (H:Hp):Prop:=match x with
 | .str _=>T = "str"
 | .int _=>T = "int"
 | .ref p=>(T = "list" /\ ∃ xs,SqL K H p xs) \/ (T = "tuple" /\ ∃ o,K.lookup p = some o /\ o.cls = .type "tuple" /\ o.dict = none) \/
   (T = "dict" /\ ((∃ kvs,H p = some (.dK kvs)) \/ ∃ kvs,H p = some (.dT kvs))) \/ (T = "set" /\ ∃ S n,H p = some (.set S n))
 | _=>False
theorem Jv {pins:List (Addr × Obj)} {σ:St} {H:Hp} {s:Shared} {T:String} {x:V} {v:Value} (I:Inv X pins σ H s) (r:RelV x v) (ty:tyV X.K T x H) :
  s.TypeIs v T /\ ∀ a,v = .ref a -> ∃ ob,s.heap.get? a = some ob /\ ob.dict = none:=by
 cases x with
 | str z=>
  obtain ⟨t,rfl⟩:=r
  cases (show T = "str" from ty)
  exact ⟨typeIs_str s z t,fun _ e=>nomatch e⟩
 | int i=>
  obtain ⟨t,rfl⟩:=r
  cases (show T = "int" from ty)
  exact ⟨typeIs_int s i t,fun _ e=>nomatch e⟩
 | ref p=>
  cases r
  rcases ty with ⟨rfl,xs,hq⟩ | ⟨rfl,o,hk,hc,hd⟩ | ⟨rfl,hk⟩ | ⟨rfl,S,n,hk⟩
  ·obtain ⟨its,_,pl,_⟩:=I.list hq
   refine ⟨pl.isList.typeIs,fun a e=>?_⟩
   cases e
   obtain ⟨o,n,e,c,hd,_⟩:=pl
   exact ⟨o,e,hd⟩
  ·refine ⟨⟨o,I.kIn p o hk,hc⟩,fun a e=>?_⟩
   cases e
   exact ⟨o,I.kIn _ o hk,hd⟩
  ·have z:∃ o,s.heap.get? p = some o /\ o.ExactDict:=by
    rcases hk with ⟨kvs,hk⟩ | ⟨kvs,hk⟩
    ·obtain ⟨_,_,_,_,o,_,_,e,ex,_⟩:=I.hok p _ hk
     exact ⟨o,e,ex⟩
    ·obtain ⟨_,_,_,_,o,_,_,e,ex,_⟩:=I.hok p _ hk
     exact ⟨o,e,ex⟩
   obtain ⟨o,e,ex⟩:=z
   refine ⟨⟨o,e,ex.1⟩,fun a e2=>?_⟩
   cases e2
   exact ⟨o,e,ex.2.1⟩
  ·obtain ⟨o,_,_,_,e,ex,_⟩:=I.hok p _ hk
   refine ⟨⟨o,e,ex.1⟩,fun a e2=>?_⟩
   cases e2
   exact ⟨o,e,ex.2.1⟩
 | _=>exact False.elim ty
def tBM (K:W.Frag) (T:String) (r:V -> List V -> Hp -> VK -> Prop) (to:TE) (t:TA):TE:=fun σ H Q=>to σ H fun x H1=>tyV K T x H1 /\ t σ H1 fun xs H2=>r x xs H2 Q
variable {o e:Expr} {es:List Expr} {to:TE} {t:TA} {name:Str} {apos cpos:Pos} {T id:String} {r:V -> List V -> Hp -> VK -> Prop}
theorem oi (pa:PlainAttrs T) (slot:Slot T name id) (hty:typeOf (.builtin id) = pure (.type "method_descriptor")) (hm:MtR X id r) (ho:PE X o to) (ha:PA X (e :: es) t)
  (hbase:attributeBase o name X.env (eval o X.env) = eval o X.env:=by rfl)
  (hfew:((backTo cpos (starEach (e :: es) X.env)).all (fun x=>!x.1) && (backToKw cpos (keywordEach [] X.env)).all (fun x=>x.1.isSome)
   && decide ((e :: es).length + ([]:List Keyword).length + (if ([]:List Keyword).isEmpty then 0 else 1) < 30)) = true:=by rfl)
  (hline:(apos.endLine == cpos.line) = true:=by rfl) (hs:starEach (e :: es) X.env = (false,eval e X.env) :: starEach es X.env:=by rfl) (hplain:(backTo cpos (starEach es X.env)).any (·.1) = false:=by rfl) :
  PE X (.Call (.Attribute o name apos) (e :: es) [] cpos) (tBM X.K T r to t):=by
 intro pins s σ H Q I h
 refine wpAny_Call_method_late hbase hfew hline rfl (thn (ho pins s σ H _ I h) fun v s1 hpt9=>?_)
 obtain ⟨x,H1,I1,r1,ty,q1⟩:=hpt9
 obtain ⟨h1,h2⟩:=Jv I1 r1 ty
 refine ⟨T,id,pa,slot,hty,h1,h2,?_⟩
 have hA:=ha cpos pins s1 σ H1 _ I1 q1
 rw [hs] at hA ⊢
 refine Calls.callWith_builtin (by show (false || (backTo cpos (starEach es X.env)).any (·.1)) = false;rw [hplain] <;> rfl) (Calls.evalArgs_plain ?_)
 exact thn hA fun us s2 ⟨vs,H2,I2,r2,q2⟩=>hm pins s2 σ H2 x vs v us Q I2 r1 r2 q2
end
def MtM (X:Cx) (id:String) (r:V -> List V -> Hp -> VK -> Prop):Prop:=
 ∀ (pins:List (Addr × Obj)) (s:Shared) (σ:St) (H:Hp) (x:V) (xs:List V) (v:Value) (us:List Value) (Q:VK),Inv X pins σ H s -> RelV x v -> Vals xs us -> r x xs H Q ->
  wpAny (model X.prog X.w) X.A (call (.builtin id) (v :: us)) (EP X pins σ Q) X.xe s
theorem Vals.one {x:V} {us:List Value} (h:Vals [x] us):∃ u,us = [u] /\ RelV x u:=by
 cases h with
 | cons r t=>cases t;exact ⟨_,rfl,r⟩
theorem Vals.two {x y:V} {us:List Value} (h:Vals [x,y] us):∃ u v,us = [u,v] /\ RelV x u /\ RelV y v:=by
 cases h with
 | cons r t=>
  cases t with
  | cons q t=>cases t;exact ⟨_,_,rfl,r,q⟩
section
variable {X:Cx} {pins:List (Addr × Obj)} {σ:St} {H:Hp} {s:Shared} {l b:Addr} {xs ys zs:List V}
theorem Inv.lset {its its':List Value} {n:Nat} {f:Array Value -> Array Value} {t':Nat} (I:Inv X pins σ H s) (hH:H l = some (.lst xs))
  (e:s.heap.get? l = some { cls:=.type "list",data:=.seq its.toArray n }) (hf:f its.toArray = its'.toArray) (hv:Vals ys its') (hz:ys.length <= sizeLine) :
  Inv X pins σ (upd H l (.lst ys)) { s with heap:=s.heap.update l (Obj.mapSeq f),toks:=t' }:=by
 have q:=PySem.IsL.update e f
 rw [hf] at q
 refine I.write (x:=l) (e:=l) (by rw [hH];exact trivial) (.inl rfl) (fun b' u hb hu=>(Heap.get?_update_other s.heap (Obj.mapSeq f) (P1 hb)).trans hu) ⟨_,q⟩ ?_
 exact ⟨hz,its',_,hv,q⟩
theorem Inv.lnew {its:List Value} {t':Nat} (I:Inv X pins σ H s) (hv:Vals ys its) (hz:ys.length <= sizeLine) :
  Inv X pins σ (upd H s.heap.objs.size (.lst ys)) { s with heap:=s.heap.push { cls:=.type "list",data:=.seq its.toArray },toks:=t' }:=
 I.laid (fun _ _ q=>Pu _ q) (Pf _) ⟨hz,its,0,hv,PP _ rfl⟩
theorem Inv.fresh (I:Inv X pins σ H s):H s.heap.objs.size = none:=I.hok.fresh (Pf _)
theorem Inv.lstM (I:Inv X pins σ H s) (hH:H l = some (.lst xs)):xs.length <= sizeLine /\ ∃ (its:List Value) (n:Nat),Vals xs its /\ xs.length = its.length /\ s.heap.get? l = some { cls:=.type "list",data:=.seq its.toArray n }:=by
 obtain ⟨z,its,n,r,e⟩:=I.hok l _ hH
 exact ⟨z,its,n,r,r.length,e⟩
theorem Gn {n:Nat} (h:n <= sizeLine):Builtin.List.listTooLong n = false:=by
 unfold Builtin.List.listTooLong
 exact PM (by lia)
end
section
variable {X:Cx}
def rAppend:V -> List V -> Hp -> VK -> Prop:=fun x vs H Q=>∃ l xs y,x = .ref l /\ vs = [y] /\ H l = some (.lst xs) /\ xs.length < sizeLine /\ Q .non (upd H l (.lst (xs ++ [y])))
theorem dZ:MtM X "list.append" rAppend:=by
 intro pins s σ H x vs v us Q I rx rv h
 obtain ⟨l,xs,y,rfl,rfl,hH,hz,q⟩:=h
 cases rx
 obtain ⟨u,rfl,ru⟩:=rv.one
 obtain ⟨z,its,n,r,hl,e⟩:=I.lstM hH
 refine call_meets F.slot_list_append ⟨_,e,rfl⟩ F.entry_list_append (F.args_list_append_2 _ _) (PySem.list_append l its.toArray n u (by rw [Px];lia)) ⟨e,?_⟩
 refine ⟨.non,_,I.lset (its':=its ++ [u]) hH e (by simp) (r.append (.cons ru .nil)) ?_,rfl,q⟩
 rw [Ph,PK]
 lia
end
section
variable {prog:Program} {w:World} {A:Around} {E:Value -> Shared -> Prop} {s:Shared}
end
section
variable {X:Cx}
end
end L2
namespace Att
open PySem PySem.W PySem.Calls PyProof.Rows
theorem tK {P:Params} {h:Heap}:∀ (ns:List Int) (vs:List Value),WellAll P h vs (ns.map WData.int) -> IntsAre vs ns:=by
 intro ns
 induction ns with
 | nil=>
  intro vs w
  rw [List.map_nil] at w
  cases w
  exact .nil
 | cons n ns ih=>
  intro vs w
  rw [Ps] at w
  cases w with
  | cons a b=>
   cases a
   exact .cons _ _ (ih _ b)
theorem EZ {l:OpenLaw} {n:Nat} (hn:l.most = some n) {P:Params} {h:Heap} {args:List WData} {vals:List Value}
  (hpre:l.row.toRowW.claim.pre args = true) (hwl:WellAll P h vals args) :
  ∃ a vs ns,vals = [Value.ref a] /\ args = [WData.list (ns.map WData.int)] /\ h.get? a = some { cls:=.type "list",data:=.seq vs.toArray } /\ IntsAre vs ns /\ ns.length <= n:=by
 have hsh:WShape.hasAll [] args [.list .int] = true:=(pre_splitW hpre).1
 have hc:l.pre.holds [] { args:=args } = true:=(pre_splitW hpre).2
 obtain ⟨d,r,rfl,h1,h2⟩:=hasAllW_cons hsh
 obtain rfl:=hasAllW_nil h2
 obtain ⟨xs,rfl,h3⟩:=hasW_list h1
 obtain ⟨ns,rfl⟩:=items_int h3
 have hlen:ns.length <= n:=by
  unfold OpenLaw.pre at hc
  have h4:(WTm.not (.lt (.lit (.int (n:Int))) (.len (.arg 0)))).holds [] { args:=[.list (ns.map .int)] } = true:=by
   have h4:=(holds_andW hc).1
   rw [hn] at h4
   exact h4
  have h5:=condW_of h4 (w_not (w_lt w_lit (w_len_list (w_arg rfl))))
  rw [Pc] at h5
  refine Nat.le_of_not_lt fun q=>?_
  have q':(n:Int) < ((ns.length:Nat):Int):=by omega
  first
   | (rw [Rh q'] at h5;exact absurd h5 (by decide))
   | (simp at h5;omega)
 cases hwl with
 | cons w1 w2=>
  cases w2
  cases w1 with
  | list ho hall=>exact ⟨_,_,ns,rfl,rfl,ho,tK ns _ hall,hlen⟩
theorem D3 (l:OpenLaw) (args:List WData):l.row.toRowW.claim.post args (.bool true) args = true:=
 postW_of (r:=l.row.toRowW) (X:=(true == true))
  (show WShape.has [] (.bool true) .bool = true by first | rfl | decide | simp [WShape.has,WShape.arms,WShape.armsAll])
  (show (WTm.eq .res (.lit (.bool true))).value [] { args:=args,res:=some (.bool true),after:=args } = some (.bool (true == true)) from w_eq_bool (w_res rfl) w_lit) rfl
theorem AF {l:OpenLaw} {n:Nat} {q:Program} {loose:List Str} {XP:(Str -> Option Value) -> Heap -> Prop} {YP:World -> Heap -> Prop} {d:DefRec}
  (hn:l.most = some n) (hdf:d.params.defaults = [])
  (call:∀ (w:World) (s₀ s₁:Shared) (mg mb:Str -> Option Value) (fa:Addr) (o:Obj) (pm cd doc:Value) (a:Addr) (vs:List Value) (ns:List Int),
   Ground q loose [] XP w s₀ mg mb s₁.heap -> YP w s₁.heap ->
   s₁.heap.get? fa = some o -> o.data = .func (docDef d.name d.params d.body d.scope pm cd doc) -> s₁.heap.CodeRec cd d.name -> mg d.name = some (.ref fa) ->
   s₁.heap.get? a = some { cls:=.type "list",data:=.seq vs.toArray } -> IntsAre vs ns -> ns.length <= n -> s₁.gens = #[] ->
   codeAny (model l.prog w) callerA (.call (.ref fa) ⟨[.ref a],[]⟩) (fun r s'=>r = .ok (.ret (.bool true)) /\ OldK s₁.heap s'.heap /\ s'.os = s₁.os /\ AllBare s'.gens) s₁) :
  WalkO q loose XP YP l.row.toRowW d [] (fun f vs=>PySem.call f vs):=by
 intro w s₀ s₁ mg mb G Y fa o pm cd doc dV kV ho hd hcd hD hmg hg args vals as hpre hlay hrd hwl hlo
 obtain rfl:dV = .none:=Dflts.none hD hdf
 obtain rfl:kV = .none:=Dflts.noKw hD
 obtain ⟨a,vs,ns,rfl,rfl,hobj,hints,hlen⟩:=EZ hn hpre hwl
 refine enter_call (codeAny_mono (call w s₀ s₁ mg mb fa o pm cd doc a vs ns G Y ho (fd_plain hd) hcd hmg hobj hints hlen hg) fun r s' hq=>?_)
 obtain ⟨rfl,h2,h3,h4⟩:=hq
 exact ⟨.inl ⟨.bool true,.bool true,[],rfl,fun _=>rfl,.bool true,D3 l _,fun _=>⟨List.Pairwise.nil,fun _ hm=>(nomatch hm)⟩⟩,h2,h3,h4⟩
section
variable {prog:Program} {w:World} {A:Around} {E:Value -> Shared -> Prop} {s:Shared} {K:Frag}
end
end Att
namespace L2
open PySem PySem.Spec PyProof.Rows
theorem yB:∀ {vs:List Value} {ns:List Int},IntsAre vs ns -> Vals (ns.map V.int) vs
 | _,_,.nil=>.nil
 | _,_,.cons n t h=>.cons ⟨t,rfl⟩ (yB h)
def JX (H:Hp):Prop:=∀ b,H b = none \/ ∃ o xs,H b = some (.frz o (.lst xs))
theorem F0 {P:Program} {w:World} {K:W.Frag} {mg mb:Str -> Option Value} {CX:CXT} {k:Nat} {fa a:Addr} {fd:FuncData} {x:Str} {sp:Sp} {s₁:Shared} {vs:List Value} {ns:List Int}
  (KX:K.In s₁.heap) (hns:s₁.heap.Ns mainGlobals mg) (hb:s₁.heap.Ns builtinsNs mb) (hbb:∀ x:Str,x ≠ "__name__" -> mb x = bootBuiltins x) (hlim:s₁.heap.NoLimit) (hg:s₁.gens = #[])
  (ha:s₁.heap.get? a = some { cls:=.type "list",data:=.seq vs.toArray }) (hi:IntsAre vs ns) (hl:ns.length <= sizeLine) (hr:Room k callerA)
  (F:∀ base:Heap,K.In base -> base.Ns mainGlobals mg -> FnOk P w K mg base CX k fa fd [x] sp) (hbind:∀ (s:Shared) (u:Value),BindsTo s fd ⟨[u],[]⟩ [(x,u)])
  (hsp:∀ H:Hp,JX H -> SqL K H a (ns.map V.int) -> sp [.ref a] H (fun v _=>v = .bl true) fun _ _ _=>False)
  (hCX:∀ H e s',CX [] H s₁ (fun _ _ _=>False) e s' -> False) :
  codeAny (model P w) callerA (.call (.ref fa) ⟨[.ref a],[]⟩) (fun r s'=>r = .ok (.ret (.bool true)) /\ OldK s₁.heap s'.heap /\ s'.os = s₁.os /\ AllBare s'.gens) s₁:=by
 have rv:=yB hi
 have lenV:=hi.length
 -- from an abstract heap in which nothing but the script may be tracked
 have core:∀ H:Hp,JX H -> SqL K H a (ns.map V.int) -> HOk P w H s₁.heap -> (∀ b,H b ≠ none -> b = a) -> (H a ≠ none -> K.lookup a = none) ->
   codeAny (model P w) callerA (.call (.ref fa) ⟨[.ref a],[]⟩) (fun r s'=>r = .ok (.ret (.bool true)) /\ OldK s₁.heap s'.heap /\ s'.os = s₁.os /\ AllBare s'.gens) s₁:=by
  intro H hO hS hok hA hK
  have base_of:∀ {b:Addr} {o:Obj},s₁.heap.get? b = some o -> H b = none -> (zF s₁.heap H).get? b = some o:=fun e n=>FM e n
  have noA:∀ {b:Addr} {o:Obj} {es:Array DictEntry} {ep:Nat},s₁.heap.get? b = some o -> o.data = .dict es ep -> H b = none:=fun {b o es ep} e d=>by
   cases q:H b with
   | none=>rfl
   | some u=>
    have e':b = a:=hA b (by rw [q];simp)
    subst e'
    rw [ha] at e;cases e
    have d':Data.seq vs.toArray _ = Data.dict es ep:=d
    cases d'
  have nsK:∀ {b:Addr} {m:Str -> Option Value},s₁.heap.Ns b m -> (zF s₁.heap H).Ns b m:=fun {b m} ⟨o,es,ep,e,d,r⟩=>⟨o,es,ep,base_of e (noA e d),d,r⟩
  have hKb:K.In (zF s₁.heap H):=fun b o e=>base_of (KX b o e) (by
   cases q:H b with
   | none=>rfl
   | some u=>
    have e':b = a:=hA b (by rw [q];simp)
    subst e'
    rw [hK (by rw [q];simp)] at e;cases e)
  have hM:Mod K mg (zF s₁.heap H):=⟨hKb,nsK hns,⟨mb,nsK hb,hbb⟩,let ⟨mc,h1,h2⟩:=hlim;⟨mc,nsK h1,h2⟩⟩
  have e0:Env0 P w K mg (zF s₁.heap H) callerA [] s₁ H:=⟨rfl,hM,fun b o e=>Iz e,Ql (Fc _ _),trivial,fun b hb=>absurd (show b ∈ ([]:List Addr) from hb) (by simp),hok,.of_eq hg⟩
  refine codeAny_mono ((F _ hKb (nsK hns)).run callerA [] s₁ H ⟨[.ref a],[]⟩ [.ref a] [.ref a] _ _ hr e0 (hbind s₁ (.ref a)) (.cons rfl .nil) (hsp H hO hS)) fun r s' h=>?_
  cases r with
  | error e=>exact (hCX H e s' h).elim
  | ok fl=>
   cases fl with
   | next=>exact False.elim h
   | brk=>exact False.elim h
   | cont=>exact False.elim h
   | ret u=>
    obtain ⟨v,H',os,bare,un,hok',r',q⟩:=h
    have q':v = .bl true:=q
    subst q'
    obtain rfl:u = Value.bool true:=r'
    refine ⟨rfl,OldK.of_keep fun b o e=>?_,os,bare⟩
    cases q:H b with
    | none=>exact un.keep b o e q (by intro z;exact absurd (show b ∈ ([]:List Addr) from z) (by simp)) (by simp)
    | some u=>
     rcases hO b with z | ⟨ob,xs,z⟩
     ·rw [q] at z;cases z
     ·have z2:=un.frzs b ob _ z
      obtain ⟨e1,_⟩:=hok b _ z
      obtain ⟨e2,_⟩:=hok' b _ z2
      rw [e] at e1;cases e1
      exact e2
 cases hk:K.lookup a with
 | some o=>
  -- the script is one of the module's own objects
  have e:=KX a o hk
  rw [ha] at e
  cases e
  refine core (fun _=>none) (fun _=>.inl rfl) (.inr ⟨_,vs.toArray,_,hk,rfl,rfl,rfl,by rw [Px,lenV];exact hl,by simpa using rv⟩) (fun b u z=>by have z':(none:Option HO) = some u:=z;cases z') (fun b z=>absurd rfl z) fun z=>absurd rfl z
 | none=>
  refine core (fun b=>if b = a then some (.frz { cls:=.type "list",data:=.seq vs.toArray } (.lst (ns.map V.int))) else none) (fun b=>?_) (.inl (.inr ⟨{ cls:=.type "list",data:=.seq vs.toArray },O7 rfl⟩)) (fun b u z=>?_) (fun b z=>?_) fun _=>hk
  ·by_cases hb:b = a
   ·exact .inr ⟨_,_,O7 hb⟩
   ·exact .inl (O8 hb)
  ·by_cases hb:b = a
   ·have z':=(O7 hb).symm.trans z
    cases z'
    subst hb
    exact ⟨ha,by rw [Pc];exact hl,vs,_,rv,ha⟩
   ·have z':=(O8 hb).symm.trans z
    cases z'
  ·by_cases hb:b = a
   ·exact hb
   ·exact absurd (O8 hb) z
theorem Iw {l:W.OpenLaw} {n k:Nat} {q:Program} {loose:List Str} {XP:(Str -> Option Value) -> Heap -> Prop} {YP:World -> Heap -> Prop} {d:DefRec} {K:Params -> W.Frag} {CX:World -> CXT} {sp:World -> Sp} {x:Str}
  (hn:l.most = some n) (hn2:n <= sizeLine) (hdf:d.params.defaults = []) (hr:Room k callerA)
  (hY:∀ (w:World) (h:Heap),YP w h -> (K w.params).In h)
  (F:∀ (w:World) (mg:Str -> Option Value) (fa:Addr) (h:Heap),(K w.params).In h -> h.Ns mainGlobals mg -> mg d.name = some (.ref fa) ->
   ∃ fd:FuncData,(∀ (s:Shared) (u:Value),BindsTo s fd ⟨[u],[]⟩ [(x,u)]) /\
    ∀ base:Heap,(K w.params).In base -> base.Ns mainGlobals mg -> FnOk l.prog w (K w.params) mg base (CX w) k fa fd [x] (sp w))
  (hsp:∀ (w:World) (H:Hp) (a:Addr) (ns:List Int),ns.length <= n -> JX H -> SqL (K w.params) H a (ns.map V.int) -> sp w [.ref a] H (fun v _=>v = .bl true) fun _ _ _=>False)
  (hCX:∀ (w:World) (H:Hp) (s:Shared) (e:Value) (s':Shared),CX w [] H s (fun _ _ _=>False) e s' -> False) :
  W.WalkO q loose XP YP l.row.toRowW d [] (fun f vs=>PySem.call f vs):=by
 refine Att.AF hn hdf fun w s₀ s₁ mg mb fa o pm cd doc a vs ns G Y ho hd hcd hmg hobj hints hlen hg=>?_
 have KX:=hY w _ Y
 obtain ⟨fd,hb,hF⟩:=F w mg fa _ KX G.T.g hmg
 exact F0 KX G.T.g G.T.b G.T.builtins G.T.nolimit hg hobj hints (PL hlen hn2) hr hF hb (fun H hO hS=>hsp w H a ns hlen hO hS) fun H e s'=>hCX w H s₁ e s'
def lc (s:Stmt) (j:Nat):Stmt:=match s with
 | .ClassDef _ _ _ body _ _ _ _ _ _ _=>body.getD j (.Pass ⟨0,0,0,0⟩)
 | _=>.Pass ⟨0,0,0,0⟩
def um (s:Stmt):Arguments:=match s with
 | .FunctionDef _ a _ _ _ _ _ _ _ _=>a
 | _=>{ posonlyargs:=[],args:=[],vararg:=none,kwonlyargs:=[],kw_defaults:=[],kwarg:=none,defaults:=[] }
def nU (s:Stmt):List Stmt:=match s with
 | .FunctionDef _ _ b _ _ _ _ _ _ _=>b
 | _=>[]
def aJ (s:Stmt):Scope:=match s with
 | .FunctionDef _ _ _ _ _ _ sc _ _ _=>sc
 | _=>{ kind:=.function,names:=[],isGenerator:=false,isCoroutine:=false }
abbrev CX0:CXT:=fun _ _ _ _ _ _=>False
abbrev E0:XK:=fun _ _ _=>False
theorem gk {X:Cx}:mN CX0 X E0:=fun _ _ _ _ _ _ _ h=>h.elim
structure Fun (K:W.Frag) (x qual:Str) (st:Stmt) (f:Addr) (fd:FuncData):Prop where
 ex:∃ (oc:Value) (od:Option Addr) (kV doc pm:Value) (an:Option Addr) (cdv ct:Value) (osl:Array (Option Value)),
  fd = W.fnOf x qual (um st) (nU st) (aJ st) .none kV doc pm an cdv ct /\ K.lookup f = some ⟨oc,od,.func fd,osl⟩ /\ W.codeIn K cdv qual = true
 kp:W.keepIn K (.ref f) = true
section
variable {P:Program} {w:World} {K:W.Frag} {mg:Str -> Option Value} {base:Heap}
theorem Fun.ok {x qual:Str} {st:Stmt} {f:Addr} {fd:FuncData} {N ps:List Str} {k:Nat} {sp:Sp} (F:Fun K x qual st f fd) (S:FnScope N ps (aJ st)) (len:∀ vs H Q E,sp vs H Q E -> vs.length = ps.length)
  (hbody:∀ (cdv:Value) (A:Around) (outer:List Env) (s:Shared) (H:Hp) (vs:List V) (Q:VK) (E:XK),Room k (A.deeper (envOfC qual (aJ st) s.heap.objs.size f cdv)) -> sp vs H Q E ->
   ∃ t,PSs (Cz CX0 P w K mg base N qual (aJ st) f cdv A outer s H E).nox (nU st) t /\ t { nx:=fun _ H'=>Q .non H',rt:=Q } (aZ N vs) H):FnOk P w K mg base CX0 (k + 1) f fd ps sp:=by
 obtain ⟨oc,od,kV,doc,pm,an,cdv,ct,osl,rfl,lk,hcd⟩:=F.ex
 refine LU lk hcd S len fun A outer s H vs Q E hr hsp=>?_
 obtain ⟨t,h,q⟩:=hbody cdv A outer s H vs Q E hr hsp
 exact ⟨t,h.nox,q⟩
theorem Fun.binds {x qual:Str} {st:Stmt} {f:Addr} {fd:FuncData} {ps:List Str} (F:Fun K x qual st f fd)
  (h:∀ (kV doc pm:Value) (an:Option Addr) (cdv ct:Value) (us:List Value),us.length = ps.length -> bindArgs (W.fnOf x qual (um st) (nU st) (aJ st) .none kV doc pm an cdv ct) ⟨us,[]⟩ = pure (ps.zip us)):Binds K fd ps []:=by
 obtain ⟨oc,od,kV,doc,pm,an,cdv,ct,osl,rfl,lk,hcd⟩:=F.ex
 exact .all (h kV doc pm an cdv ct)
theorem KY {x qual:Str} {st:Stmt} {f:Addr} {oc:Value} {od an:Option Addr} {osl:Array (Option Value)} {kV doc pm cdv ct:Value} (l:K.lookup f = some ⟨oc,od,.func (W.fnOf x qual (um st) (nU st) (aJ st) .none kV doc pm an cdv ct),osl⟩)
  (c:W.codeIn K cdv qual = true) (k:W.keepIn K (.ref f) = true):Fun K x qual st f (W.fnOf x qual (um st) (nU st) (aJ st) .none kV doc pm an cdv ct):=⟨⟨oc,od,kV,doc,pm,an,cdv,ct,osl,rfl,l,c⟩,k⟩
end
section
variable {X:Cx}
theorem pv (i:Nat) {x:Str} {pos:Pos} (hN:X.N[i]? = some x:=by rfl) (hv:Vis X.env.scope x:=by first | exact Or.inl rfl | exact Or.inr (.inl rfl) | exact Or.inr (.inr rfl)) (hd:(x == ("__debug__" : Str)) = false:=by decide)
  (hcd:(x == ("__classdict__" : Str)) = false:=by decide):PE X (.Name x pos) (t7 i):=Kv hN hv hd hcd
end
theorem EJ {A B:Prop} (h:B):if false = true then A else B:=by
 rw [O8 QS]
 exact h
theorem Fk {A B:Prop} (h:A):if true = true then A else B:=by
 rw [O7 rfl]
 exact h
def Same (H H':Hp):Prop:=∀ b o,H b = some o -> H' b = some o
theorem Same.refl (H:Hp):Same H H:=fun _ _ h=>h
theorem Same.trans {H H1 H2:Hp} (a:Same H H1) (b:Same H1 H2):Same H H2:=fun c o h=>b c o (a c o h)
theorem Same.free {H H':Hp} (e:Same H H') {l:Addr} (h:H' l = Option.none):H l = Option.none:=by
 cases q:H l with
 | none=>rfl
 | some o=>
  rw [e l o q] at h
  cases h
end L2
set_option linter.all false
set_option maxHeartbeats 4000000
set_option maxRecDepth 100000
namespace L2
open PySem PySem.Spec PyProof.Rows
structure CmpOk (XN:List Str) (sc scope:Scope) (N:List Str) (js:List (Option Nat)):Prop where
 kind:scope.kind = .function
 cell:∀ y ∈ scope.names,y.2 ≠ .cell
 free:∀ y ∈ scope.names,y.2 = .free -> sc.names.lookup y.1 = some .cell \/ sc.names.lookup y.1 = some .free
 loc:∀ y ∈ scope.names,y.2 = .local -> scope.names.lookup y.1 = some .local
 len:js.length = N.length
 ix:((N.zip js).all fun p=>match p.2 with | none=>true | some j=>decide (XN[j]? = some p.1) && decide (scope.names.lookup p.1 = some .free)) = true
def gR (env:Env):List (Str × NameKind) -> List (Str × Addr) -> List (Str × Addr)
 | [],cs=>cs
 | (n,k) :: r,cs=>gR env r (if k = .free then (match env.cells.lookup n with | some c=>(n,c) :: cs | none=>cs) else cs)
theorem vA {env:Env}:∀ {names:List (Str × NameKind)} {cs:List (Str × Addr)},(∀ n c,cs.lookup n = some c -> env.cells.lookup n = some c) -> ∀ n c,(gR env names cs).lookup n = some c -> env.cells.lookup n = some c
 | [],_,h=>h
 | (m,k) :: r,cs,h=>by
  unfold gR
  refine vA ?_
  split
  ·cases e:env.cells.lookup m with
   | none=>exact h
   | some d=>
    intro n c hn
    dsimp only at hn
    rw [PV] at hn
    cases q:n == m with
    | true=>
     rw [q] at hn
     have e1:n = m:=by simpa using q
     cases hn
     rw [e1];exact e
    | false=>rw [q] at hn;exact h n c hn
  ·exact h
theorem wC {env:Env}:∀ {names:List (Str × NameKind)} {cs:List (Str × Addr)} {n:Str},((n,NameKind.free) ∈ names /\ (∃ c,env.cells.lookup n = some c)) \/ (∃ c,cs.lookup n = some c) -> ∃ c,(gR env names cs).lookup n = some c
 | [],_,_,h=>h.elim (fun z=>by cases z.1) id
 | (m,k) :: r,cs,n,h=>by
  unfold gR
  refine wC ?_
  rcases h with ⟨hm,c,hc⟩ | ⟨c,hc⟩
  ·rcases Pn.mp hm with e | hm
   ·cases e
    right
    rw [O7 rfl,hc]
    exact ⟨c,by rw [PV];simp⟩
   ·exact .inl ⟨hm,c,hc⟩
  ·right
   split
   ·cases e:env.cells.lookup m with
    | none=>exact ⟨c,hc⟩
    | some d=>
     dsimp only
     rw [PV]
     cases q:n == m with
     | true=>exact ⟨d,rfl⟩
     | false=>exact ⟨c,hc⟩
   ·exact ⟨c,hc⟩
theorem ph {env:Env} {scope:Scope} (h:∀ y ∈ scope.names,y.2 = .free -> ∃ c,env.cells.lookup y.1 = some c):closureFor scope env = pure (gR env scope.names []):=by
 have key:∀ (names:List (Str × NameKind)) (cs:List (Str × Addr)),(∀ y ∈ names,y.2 = .free -> ∃ c,env.cells.lookup y.1 = some c) ->
   (forIn names cs (fun (x:Str × NameKind) r=>if (x.2 == NameKind.free) = true then (do let a ← cellOf env x.1;pure (ForInStep.yield ((x.1,a) :: r))) else pure (ForInStep.yield r)):Sem (List (Str × Addr))) = pure (gR env names cs):=by
  intro names
  induction names with
  | nil=>intro cs _;rfl
  | cons y r ih=>
   intro cs hy
   obtain ⟨n,k⟩:=y
   rw [List.forIn_cons]
   unfold gR
   by_cases hk:k = .free
   ·subst hk
    obtain ⟨c,hc⟩:=hy _ Pg rfl
    have e1:cellOf env n = pure c:=by unfold cellOf;rw [hc]
    rw [O7 (by rfl)]
    rw [O7 rfl,hc]
    show ((cellOf env n >>= fun a=>pure (ForInStep.yield ((n,a) :: cs))) >>= _) = _
    rw [e1]
    exact ih _ fun z hz=>hy z (Pi _ hz)
   ·have hb:(k == NameKind.free) = false:=by simpa using hk
    rw [O8 (by rw [hb];decide),O8 hk]
    exact ih _ fun z hz=>hy z (Pi _ hz)
 have k:=key scope.names [] h
 unfold closureFor
 show (forIn scope.names ([]:List (Str × Addr)) _ >>= fun cs=>pure cs) = _
 refine Eq.trans (PC (fun t=>t >>= fun cs=>pure cs) (Eq.trans ?_ k)) rfl
 congr 1
theorem pD {env:Env}:∀ {names:List (Str × NameKind)} {x:Str},names.lookup x = some .free ->
  (names.map fun (n,k)=>if (k == NameKind.free && env.scope.kind == .function && env.kindOf n == some .cell) then (n,NameKind.cell) else (n,k)).lookup x = some .cell \/
  (names.map fun (n,k)=>if (k == NameKind.free && env.scope.kind == .function && env.kindOf n == some .cell) then (n,NameKind.cell) else (n,k)).lookup x = some .free
 | [],_,h=>by simp at h
 | (n,k) :: r,x,h=>by
  have ih:=@pD env r x
  rw [Ps]
  dsimp only
  cases q:x == n with
  | true=>
   rw [PV,q] at h
   cases h
   split
   ·left;rw [PV,q]
   ·right;rw [PV,q]
  | false=>
   rw [PV,q] at h
   split
   ·rw [PV,q];exact ih h
   ·rw [PV,q];exact ih h
theorem pU {env:Env}:∀ {names:List (Str × NameKind)} {x:Str} {j:NameKind},(∀ y ∈ names,y.2 ≠ .cell) -> (j = .cell \/ j = .free) ->
  (names.map fun (n,k)=>if (k == NameKind.free && env.scope.kind == .function && env.kindOf n == some .cell) then (n,NameKind.cell) else (n,k)).lookup x = some j -> (x,NameKind.free) ∈ names
 | [],_,_,_,_,h=>by simp at h
 | (n,k) :: r,x,j,hc,hj,h=>by
  have ih:=@pU env r x j (fun y hy=>hc y (Pi _ hy)) hj
  rw [Ps] at h
  dsimp only at h
  cases q:x == n with
  | true=>
   have e:x = n:=by simpa using q
   subst e
   split at h
   ·rename_i g
    have:k = .free:=by
     simp only [Qd,Qb] at g
     exact g.1.1
    subst this
    exact Pg
   ·rw [PV,q] at h
    cases h
    rcases hj with z | z
    ·exact absurd z (hc _ Pg)
    ·rw [z];exact Pg
  | false=>
   refine Pi _ (ih ?_)
   split at h
   ·rw [PV,q] at h;exact h
   ·rw [PV,q] at h;exact h
def inn (js:List (Option Nat)) (σ:St):St:=js.map fun o=>match o with | none=>none | some j=>(σ[j]?).join
structure CxZ where
 cl:List (Str × Addr)
 C:Addr
 s:Shared
 H:Hp
 fp:List Addr
 pins:List (Addr × Obj)
def cxC (X:Cx) (N:List Str) (scope:Scope) (z:CxZ):Cx where
 prog:=X.prog
 w:=X.w
 K:=X.K
 mg:=X.mg
 base:=X.base
 A:=X.A
 N:=N
 s₀:=z.s
 H₀:=z.H
 env:=compEnvC scope z.cl z.C X.env
 outer:=X.stack
 stack:=X.stack
 ex:=z.fp
 fn:=fun _=>false
 calm:=X.calm
 pn:=X.pn ++ z.pins
 xe:=fun _ _=>False
section
variable {X:Cx} {pins:List (Addr × Obj)} {σ:St} {H:Hp} {s:Shared} {XN N:List Str} {sc scope:Scope} {js:List (Option Nat)}
theorem GI {h1:Heap} {m:Str -> Option Value} {tk:Nat} {fp:List Addr} (ck:CmpOk XN sc scope N js) (hXN:X.N = XN) (hsc:X.env.scope = sc) (I:Inv X pins σ H s) (hf:∀ b ∈ fp,p7 X pins H b)
  (hfo:∀ b ∈ fp,b < s.heap.objs.size) (hn:h1.Ns s.heap.objs.size m) (hk:∀ b o,s.heap.get? b = some o -> h1.get? b = some o) :
  Inv (cxC X N scope ⟨gR X.env scope.names [],s.heap.objs.size,s,H,fp,pins⟩) [] (inn js σ) H { s with heap:=h1,toks:=tk }:=by
 subst hXN hsc
 have sub:∀ n c,(gR X.env scope.names []).lookup n = some c -> X.env.cells.lookup n = some c:=vA fun n c h=>by simp at h
 have clt:∀ n c,(gR X.env scope.names []).lookup n = some c -> c < s.heap.objs.size:=fun n c h=>by
  obtain ⟨v,q⟩:=I.cell n c (sub n c h)
  exact q.lt
 have has:∀ x,(x,NameKind.free) ∈ scope.names -> ∃ c,(gR X.env scope.names []).lookup x = some c:=fun x hx=>
  wC (.inl ⟨hx,I.ok.has x (ck.free _ hx rfl)⟩)
 refine ⟨⟨I.ok.mod,ck.kind,I.ok.glob,I.ok.blt,Pf _,fun x y c h1 h2=>I.ok.inj x y c (sub x c h1) (sub y c h2),fun x hx=>?has,fun x c hx=>?cab,I.ok.hd,I.ok.frames,.inl rfl,fun b hb=>?exf,I.bs,?bsz,fun b o e hb=>?noex,fun b hb=>?exfs,I.stack,I.stkFree⟩,
  rfl,I.bare,Un.kept hk,⟨m,hn,fun i x v h1 h2 h3=>?loc⟩,fun x c h=>?cell,I.hok.fresh (Pf _),fun x c h=>I.freeC x c (sub x c h),fun p hp=>?pin,I.hok.kept hk,?len⟩
 case has=>
  rcases hx with hx | hx
  ·exact has x (pU ck.cell (.inl rfl) hx)
  ·exact has x (pU ck.cell (.inr rfl) hx)
 case cab=>cases hx
 case exf=>
  obtain ⟨f0,f1,f2,f3,f4,f5⟩:=hf b hb
  exact ⟨Pz (hfo b hb),fun x c e=>f4 x c (sub x c e)⟩
 case bsz=>exact PL I.ok.bsz I.sz
 case noex=>
  obtain ⟨f0,f1,f2,f3,f4,f5⟩:=hf b hb
  rcases f3 with f3 | f3
  ·exact I.ok.noex b o e f3
  ·exact absurd (PY (Pt e) (PL I.ok.bsz f3)) (Qw _)
 case exfs=>
  obtain ⟨f0,f1,f2,f3,f4,f5⟩:=hf b hb
  intro z
  rcases Pn.mp (I.stkSub b z) with e | e
  ·exact f1 e
  ·exact f2 e
 case loc=>
  have hl:N.length = js.length:=ck.len.symm
  have hi:i < js.length:=by
   have:=(Pw.mp h1).1
   have e:(cxC X N scope ⟨gR X.env scope.names [],s.heap.objs.size,s,H,fp,pins⟩).N = N:=rfl
   rw [e] at this
   lia
  have hN:N[i]? = some x:=h1
  have hj:js[i]? = some js[i]:=P7 hi
  unfold inn at h2
  rw [PB,hj] at h2
  cases q:js[i] with
  | none=>rw [q] at h2;cases h2
  | some j=>
   rw [q] at h2 hj
   have h2':(σ[j]?).join = some v:=PR h2
   have hσ:σ[j]? = some (some v):=by
    cases e:σ[j]? with
    | none=>rw [e] at h2';cases h2'
    | some o=>rw [e] at h2';exact PC some h2'
   have hm:(x,some j) ∈ N.zip js:=by
    refine QV (i:=i) ?_
    rw [List.getElem?_zip_eq_some]
    exact ⟨hN,hj⟩
   have hc:=List.all_eq_true.mp ck.ix _ hm
   simp only [Qd,RD] at hc
   obtain ⟨c1,c2⟩:=hc
   have hfr:(x,NameKind.free) ∈ scope.names:=QT c2
   have hvis:X.env.scope.names.lookup x = some .cell \/ X.env.scope.names.lookup x = some .free:=ck.free _ hfr rfl
   obtain ⟨m0,hn0,hl0⟩:=I.loc
   obtain ⟨u,r,l⟩:=hl0 j x v c1 hσ (hvis.elim (fun z=>.inr (.inl z)) fun z=>.inr (.inr z))
   refine ⟨u,r,.inr ⟨?_,?_⟩⟩
   ·exact pD c2
   ·rcases l with ⟨k1,_⟩ | ⟨_,c,k1,k2⟩
    ·have k1':X.env.scope.names.lookup x = some .local:=k1
     rcases hvis with z | z
     ·rw [z] at k1';cases k1'
     ·rw [z] at k1';cases k1'
    ·obtain ⟨c',hc'⟩:=has x hfr
     have e:=sub x c' hc'
     rw [k1] at e
     cases e
     obtain ⟨oc,ho,hd⟩:=k2
     exact ⟨c,hc',oc,hk _ _ ho,hd⟩
 case cell=>
  obtain ⟨v,oc,ho,hd⟩:=I.cell x c (sub x c h)
  exact ⟨v,oc,hk _ _ ho,hd⟩
 case pin=>
  have hp':p ∈ X.pn ++ pins:=by simpa [cxC] using hp
  obtain ⟨p1,p2,p3,p4,p5⟩:=I.pin p hp'
  refine ⟨hk _ _ p1,p2,Pz (Pt p1),fun z=>?_,p5⟩
  rcases Pn.mp (I.stkSub _ z) with e | e
  ·exact p3 e
  ·exact p4 e
 case len=>
  show (inn js σ).length = N.length
  unfold inn
  rw [Pc]
  exact ck.len
abbrev TIf:=St -> Hp -> (Bool -> Hp -> Prop) -> Prop
def PIf (X:Cx) (ifs:List Expr) (t:TIf):Prop:=
 ∀ (pins:List (Addr × Obj)) (s:Shared) (σ:St) (H:Hp) (Q:Bool -> Hp -> Prop),Inv X pins σ H s -> t σ H Q ->
  wpAny (model X.prog X.w) X.A (forIn ifs true fun c r=>if r = true then do let ok ← isTrue c X.env (eval c X.env);pure (ForInStep.yield ok) else pure (ForInStep.yield r)) (TP X pins σ Q) X.xe s
def I9:TIf:=fun _ H Q=>Q true H
theorem b8:PIf X [] I9:=fun _ _ _ H _ I h=>wpAny_tests_nil ⟨H,I,h⟩
theorem qA {c:Expr} {t:TT} (h:PT X c t):PIf X [c] t:=fun pins s σ H Q I q=>wpAny_tests_one (h pins s σ H Q I q)
def Lev (σ σ':St):Prop:=σ.length = σ'.length /\ ∀ (i:Nat) (v:V),σ[i]? = some (some v) -> σ'[i]? = some (some v)
theorem Lev.refl (σ:St):Lev σ σ:=⟨rfl,fun _ _ h=>h⟩
def wY (js:List (Option Nat)) (g:TG):Prop:=∀ (σ0:St) (v:V) (σ:St) (H:Hp) (Q:St -> Hp -> Prop),Lev (inn js σ0) σ -> g v σ H Q -> g v σ H fun σ' H'=>Lev (inn js σ0) σ' /\ Q σ' H'
def De (js:List (Option Nat)) (g:TGs):Prop:=∀ (σ0:St) (vs:List V) (σ:St) (H:Hp) (Q:St -> Hp -> Prop),Lev (inn js σ0) σ -> g vs σ H Q -> g vs σ H fun σ' H'=>Lev (inn js σ0) σ' /\ Q σ' H'
theorem aK {i:Nat} (h:js[i]? = some none:=by rfl):wY js (kt i):=fun σ0 v σ H Q l q=>by
 refine ⟨⟨?_,fun j u e=>?_⟩,q⟩
 ·rw [QG];exact l.1
 ·by_cases hij:i = j
  ·subst hij
   unfold inn at e
   rw [PB,h] at e
   cases e
  ·rw [Qk hij]
   exact l.2 j u e
theorem b9:De js KC:=fun σ0 vs σ H Q l q=>⟨q.1,l,q.2⟩
theorem aF {t:TG} {u:TGs} (h:wY js t) (k:De js u) (mono:∀ v σ H (Q Q':St -> Hp -> Prop),(∀ a b,Q a b -> Q' a b) -> t v σ H Q -> t v σ H Q'):De js (GO t u):=fun σ0 vs σ H Q l q=>by
 obtain ⟨v,r,e,q⟩:=q
 exact ⟨v,r,e,mono _ _ _ _ _ (fun σ' H' z=>k σ0 r σ' H' Q z.1 z.2) (h σ0 v σ H _ l q)⟩
theorem aA {i:Nat}:∀ v σ H (Q Q':St -> Hp -> Prop),(∀ a b,Q a b -> Q' a b) -> kt i v σ H Q -> kt i v σ H Q':=fun _ _ _ _ _ h q=>h _ _ q
theorem d9 {K:W.Frag} {n:Nat} {t:TGs} (h:De js t):wY js (J2 K n t):=fun σ0 v σ H Q l q=>by
 obtain ⟨a,xs,e,hq,hl,q⟩:=q
 exact ⟨a,xs,e,hq,hl,h σ0 xs σ H Q l q⟩
def Dm (js:List (Option Nat)) (wi:TI) (g:TG) (tt:TIf) (te:TE):TE:=fun σ H Q=>wi σ H fun J H1=>∀ D,H1 D = none -> ∃ W:Nat -> Nat -> Hp -> Prop,(∃ m,W 0 m (upd H1 D (.lst []))) /\ ∀ i m H,W i m H ->
 (J.stop i H /\ Q (.ref D) H) \/ (J.go i H /\ ∀ x H',J.yld i H x H' -> g x (inn js σ) H' fun σ2 H2=>tt σ2 H2 fun b H3=>
  if b = true then te σ2 H3 fun y H4=>∃ ys,H4 D = some (.lst ys) /\ ys.length < sizeLine /\ ∃ m',m' < m /\ W (i + 1) m' (upd H4 D (.lst (ys ++ [y]))) else ∃ m',m' < m /\ W (i + 1) m' H3)
variable {tg iter elt:Expr} {ifs:List Expr} {pos:Pos} {wi:TI} {g:TG} {tt:TIf} {te:TE}
theorem El {E:Value -> Shared -> Prop} {R:Result -> Shared -> Prop} {it D:Addr} {fp:List Addr} {tn:Nat -> Heap -> Prop} {J:It} {z:CxZ} {W:Nat -> Nat -> Hp -> Prop} {n:Nat}
  (hc:X.calm = true) (T:Turn X.prog X.w X.K tg J fp it tn) (hz:∀ b ∈ fp,∀ H',H' b = none -> p7 (cxC X N scope z) [] H' b)
  (hg:PG (cxC X N scope z) tg g) (hs:wY js g) (ht:PIf (cxC X N scope z) ifs tt) (he:PE (cxC X N scope z) elt te)
  (turn:∀ i m H,W i m H -> (J.stop i H /\ ∀ s',Inv (cxC X N scope z) [] (inn js σ) H s' -> R (.ok .next) s') \/ (J.go i H /\ ∀ x H',J.yld i H x H' -> g x (inn js σ) H' fun σ2 H2=>tt σ2 H2 fun b H3=>
   if b = true then te σ2 H3 fun y H4=>∃ ys,H4 D = some (.lst ys) /\ ys.length < sizeLine /\ ∃ m',m' < m /\ W (i + 1) m' (upd H4 D (.lst (ys ++ [y]))) else ∃ m',m' < m /\ W (i + 1) m' H3))
  {s1:Shared} {H1:Hp} (I1:Inv (cxC X N scope z) [] (inn js σ) H1 s1) (t1:tn 0 s1.heap) (f1:∀ b ∈ fp,H1 b = none) (w1:W 0 n H1) :
  codeAny (model X.prog X.w) X.A (.compLoop (.ListComp elt [⟨tg,iter,ifs,0⟩] scope pos) 0 (.ref it) (.ref D) (compEnvC scope z.cl z.C X.env)) R s1:=by
 refine codeAny_loop (c:=.compLoop (.ListComp elt [⟨tg,iter,ifs,0⟩] scope pos) 0 (.ref it) (.ref D) (compEnvC scope z.cl z.C X.env)) rfl
  (fun k s'=>∃ i H',Inv (cxC X N scope z) [] (inn js σ) H' s' /\ tn i s'.heap /\ (∀ b ∈ fp,H' b = none) /\ W i k H') ?_ n ⟨0,H1,I1,t1,f1,w1⟩
 rintro k s2 ⟨i,H2,I2,t2,f2,w2⟩
 show wpAny (model X.prog X.w) X.A ((compTurn (.ListComp elt [⟨tg,iter,ifs,0⟩] scope pos) 0 (.ref it) (.ref D) (compEnvC scope z.cl z.C X.env)).onRaise fun x=>do noteFrame x (compEnvC scope z.cl z.C X.env);theTreesLotGoes x) _ _ s2
 refine wpAny_noted ?_
 rw [compTurn_list]
 refine Pb (wpAny_standAt ?_)
 rcases turn i k H2 w2 with ⟨stop,fin⟩ | ⟨go,step⟩
 ·refine Pb (thn (T.done (cxC X N scope z) rfl rfl rfl hc i [] s2 (inn js σ) H2 _ I2 (fun b hb=>hz b hb H2 (f2 b hb)) t2 stop) fun r s3 h3=>?_)
  obtain ⟨rfl,I3⟩:=h3
  exact Pj (fin s3 I3)
 ·refine Pb (thn (T.item (cxC X N scope z) rfl rfl rfl hc i [] s2 (inn js σ) H2 _ I2 (fun b hb=>hz b hb H2 (f2 b hb)) t2 go) fun r s3 h3=>?_)
  obtain ⟨u,rfl,h3⟩:=h3
  refine Pb (thn h3 fun _ s4 h4=>?_)
  obtain ⟨x,H4,I4,r4,y4,t4,f4⟩:=h4
  have P4:=I4.pinned (fun b hb=>hz b hb H4 (f4 b hb)) (T.obj _ _ t4)
  have ff:∀ {e:Value} {s':Shared},(cxC X N scope z).xe e s' -> False:=fun h=>h
  refine Pb (P8 (hg _ s4 (inn js σ) H4 x u _ P4 r4 (hs σ x (inn js σ) H4 _ (Lev.refl _) (step x H4 y4))) (fun _ s5 h5=>?_) fun _ _ h=>(ff h).elim)
  obtain ⟨σ5,H5,I5,lev,q5⟩:=h5
  refine Pb (P8 (ht _ s5 σ5 H5 _ I5 q5) (fun ok s6 h6=>?_) fun _ _ h=>(ff h).elim)
  obtain ⟨H6,I6,q6⟩:=h6
  have again:∀ {s7:Shared} {H7:Hp},Inv (cxC X N scope z) ([] ++ rH fp s4.heap) σ5 H7 s7 -> (∃ m',m' < k /\ W (i + 1) m' H7) -> ∃ m,m < k /\ ∃ i H',Inv (cxC X N scope z) [] (inn js σ) H' s7 /\ tn i s7.heap /\ (∀ b ∈ fp,H' b = none) /\ W i m H':=fun {s7 H7} I7 h7=>by
   obtain ⟨m',hm,w7⟩:=h7
   refine ⟨m',hm,i + 1,H7,(I7.unpinned).weak lev.1 lev.2,T.keep _ _ _ t4 fun b hb o e=>(I7.pin (b,o) (Pm _ (Pm _ (gL hb e)))).1,fun b hb=>?_,w7⟩
   obtain ⟨o,e,d⟩:=T.obj _ _ t4 b hb
   exact (I7.pin (b,o) (Pm _ (Pm _ (gL hb e)))).2.1
  cases ok with
  | false=>
   rw [O8 (by decide)] at q6
   exact Pj ⟨rfl,again I6 q6⟩
  | true=>
   rw [O7 rfl] at q6
   refine Pb (Pb (P8 (he _ s6 σ5 H6 _ I6 q6) (fun y s7 h7=>?_) fun _ _ h=>(ff h).elim))
   obtain ⟨vy,H7,I7,r7,ys,hD,hl,q7⟩:=h7
   refine Pb (P8 (dZ (X:=cxC X N scope z) _ s7 σ5 H7 (.ref D) [vy] (.ref D) [y] (fun _ H'=>∃ m',m' < k /\ W (i + 1) m' H') I7 rfl (.cons r7 .nil) ⟨D,ys,vy,rfl,rfl,hD,hl,q7⟩) (fun _ s8 h8=>?_) fun _ _ h=>(ff h).elim)
   obtain ⟨_,H8,I8,_,q8⟩:=h8
   exact Pj (Pj ⟨rfl,again I8 q8⟩)
theorem uz {E:Value -> Shared -> Prop} {RR:Value -> Addr -> Result -> Shared -> Prop} {Q:VK} {itv:Value} {s2:Shared} (ck:CmpOk XN sc scope N js) (hXN:X.N = XN) (hsc:X.env.scope = sc) (hc:X.calm = true)
  (hg:∀ z,PG (cxC X N scope z) tg g) (hs:wY js g) (ht:∀ z,PIf (cxC X N scope z) ifs tt) (he:∀ z,PE (cxC X N scope z) elt te)
  (h2:PIE X pins σ tg (fun J H1=>∀ D,H1 D = none -> ∃ W:Nat -> Nat -> Hp -> Prop,(∃ m,W 0 m (upd H1 D (.lst []))) /\ ∀ i m H,W i m H ->
   (J.stop i H /\ Q (.ref D) H) \/ (J.go i H /\ ∀ x H',J.yld i H x H' -> g x (inn js σ) H' fun σ2 H2=>tt σ2 H2 fun b H3=>
    if b = true then te σ2 H3 fun y H4=>∃ ys,H4 D = some (.lst ys) /\ ys.length < sizeLine /\ ∃ m',m' < m /\ W (i + 1) m' (upd H4 D (.lst (ys ++ [y]))) else ∃ m',m' < m /\ W (i + 1) m' H3)) itv s2)
  (hRR:∀ D C s' H' m o,Inv X (pins ++ [(C,o)]) σ H' s' -> s'.heap.Ns C m -> (X.s₀.heap.objs.size <= C /\ C ≠ X.env.locals /\ (∀ x c,X.env.cells.lookup x = some c -> c ≠ C) /\ ∀ p ∈ X.pn ++ pins,p.1 ≠ C) -> H' C = none -> Q (.ref D) H' -> RR (.ref D) C (.ok .next) s') :
  wpAny (model X.prog X.w) X.A (newList []) (fun acc s₃=>wpAny (model X.prog X.w) X.A (newFunctionEnv scope X.env.globals (gR X.env scope.names []) [] X.env.qual none .none (some X.env)) (fun cenv s₄=>
   codeAny (model X.prog X.w) X.A (.compStart (.ListComp elt [⟨tg,iter,ifs,0⟩] scope pos) 0 itv acc { cenv with scope:=relabel scope X.env }) (RR acc cenv.locals) s₄) E s₃) E s2:=by
 obtain ⟨it,fp,tn,J,H2,rfl,I2,T,t2,f2,q2⟩:=h2
 have fo:∀ b ∈ fp,b < s2.heap.objs.size:=fun b hb=>by
  obtain ⟨o,e,_⟩:=T.obj _ _ t2 b hb
  exact Pt e
 have hD:H2 s2.heap.objs.size = none:=I2.fresh
 obtain ⟨W,⟨n,w0⟩,turn⟩:=q2 _ hD
 refine Qn (wpAny_newFunctionEnv ck.cell (by intro y hy;simp at hy) (fun h1 hns hsb=>?_) ck.kind)
 have I3:Inv X pins σ (upd H2 s2.heap.objs.size (.lst [])) { s2 with heap:=s2.heap.push { cls:=.type "list",data:=.seq ([]:List Value).toArray },toks:=s2.toks }:=I2.lnew (its:=[]) .nil (PU _)
 have f3:∀ b ∈ fp,p7 X pins (upd H2 s2.heap.objs.size (.lst [])) b:=fun b hb=>by
  obtain ⟨g0,g1⟩:=f2 b hb
  exact ⟨by rw [a8 (Pz (fo b hb))];exact g0,g1⟩
 have sz:(s2.heap.push { cls:=.type "list",data:=.seq ([]:List Value).toArray }).objs.size = s2.heap.objs.size + 1:=QC _ _
 have kept:∀ b o,(s2.heap.push { cls:=.type "list",data:=.seq ([]:List Value).toArray }).get? b = some o -> h1.get? b = some o:=fun b o e=>
  hsb.extBut b o (Pz (Pt e)) (Pu _ e)
 have I4:=GI (tk:=s2.toks + ([]:List (Str × Value)).length) ck hXN hsc I3 f3 (fun b hb=>by show b < (s2.heap.push _).objs.size;rw [sz];exact Ri (fo b hb)) hns kept
 have t4:tn 0 h1:=T.keep _ _ _ t2 fun b hb o e=>kept b o (Pu _ e)
 have fz:∀ b ∈ fp,∀ H',H' b = none -> p7 (cxC X N scope ⟨gR X.env scope.names [],(s2.heap.push { cls:=.type "list",data:=.seq ([]:List Value).toArray }).objs.size,{ s2 with heap:=s2.heap.push { cls:=.type "list",data:=.seq ([]:List Value).toArray },toks:=s2.toks },upd H2 s2.heap.objs.size (.lst []),fp,pins⟩) [] H' b:=fun b hb H' hn=>by
  obtain ⟨g0,g1,g2,g3,g4,g5⟩:=f3 b hb
  refine ⟨hn,(I4.ok.exf b hb).1,I4.ok.exfs b hb,.inl hb,(I4.ok.exf b hb).2,fun p hp=>?_⟩
  exact g5 p (by simpa [cxC] using hp)
 have loop:=El (X:=X) (σ:=σ) (N:=N) (scope:=scope) (js:=js) (iter:=iter) (pos:=pos) (E:=E) (R:=RR (.ref s2.heap.objs.size) (s2.heap.push { cls:=.type "list",data:=.seq ([]:List Value).toArray }).objs.size) (D:=s2.heap.objs.size) (W:=W) (n:=n)
  hc T fz (hg _) hs (ht _) (he _) (fun i m H w=>(turn i m H w).imp (fun a=>⟨a.1,fun s' Y=>?_⟩) id) I4 t4 (fun b hb=>(f3 b hb).1) w0
 ·exact codeAny_compStart_list loop (T.self _ 0 _ _ _ t4 loop)
 ·have bb:=Y.base
  have J0:Inv X pins σ H s':=I3.call' Y.os bb Y.hok Y.bare fun b hb=>by
   obtain ⟨g0,g1,g2,g3,g4,g5⟩:=f3 b hb
   exact ⟨g3,g1,g4,g5⟩
  obtain ⟨mC,nC,_⟩:=Y.loc
  obtain ⟨oC,eC,dC⟩:∃ o,s'.heap.get? (s2.heap.push { cls:=.type "list",data:=.seq ([]:List Value).toArray }).objs.size = some o /\ ∀ v,o.data ≠ .cell v:=by
   obtain ⟨o,es,ep,ho,hd,_⟩:=nC
   exact ⟨o,ho,fun v z=>by rw [hd] at z;cases z⟩
  have lC:X.s₀.heap.objs.size <= (s2.heap.push { cls:=.type "list",data:=.seq ([]:List Value).toArray }).objs.size:=I3.sz
  have cC:(s2.heap.push { cls:=.type "list",data:=.seq ([]:List Value).toArray }).objs.size ≠ X.env.locals:=Nat.ne_of_gt I3.lt
  have kC:∀ x c,X.env.cells.lookup x = some c -> c ≠ (s2.heap.push { cls:=.type "list",data:=.seq ([]:List Value).toArray }).objs.size:=fun x c e=>by
   obtain ⟨v,q⟩:=I3.cell x c e
   exact Pz q.lt
  have pC:∀ p ∈ X.pn ++ pins,p.1 ≠ (s2.heap.push { cls:=.type "list",data:=.seq ([]:List Value).toArray }).objs.size:=fun p hp=>Pz (Pt (I3.pin p hp).1)
  have J1:Inv X (pins ++ [((s2.heap.push { cls:=.type "list",data:=.seq ([]:List Value).toArray }).objs.size,oC)]) σ H s':=J0.pins_of fun p hp=>by
   rcases Po.mp hp with hp | hp
   ·exact J0.pin p (Pm _ hp)
   ·rw [Pe.mp hp]
    exact ⟨eC,Y.free,cC,I3.nofs (Pf _),dC⟩
  exact hRR _ _ s' H mC oC J1 nC ⟨lC,cC,kC,pC⟩ Y.free a.2
theorem bL (ck:CmpOk XN sc scope N js) (hi:PI X tg iter wi) (hg:∀ z,PG (cxC X N scope z) tg g) (hs:wY js g) (ht:∀ z,PIf (cxC X N scope z) ifs tt) (he:∀ z,PE (cxC X N scope z) elt te)
  (hXN:X.N = XN:=by rfl) (hsc:X.env.scope = sc:=by rfl) (hc:X.calm = true:=by rfl) (hf:∀ x,foldedSetIterable iter X.env x = pure x:=by intro _;rfl) :
  PE X (.ListComp elt [⟨tg,iter,ifs,0⟩] scope pos) (Dm js wi g tt te):=by
 intro pins s σ H Q I h
 rw [eval_ListComp]
 have hcl:closureFor scope X.env = pure (gR X.env scope.names []):=ph fun y hy hk=>I.ok.has y.1 (by
  have:=ck.free y hy hk
  rw [<- hsc] at this
  exact this)
 refine RS (use:=none) rfl hf hcl ck.kind ck.loc (thn (hi pins s σ H _ I h) fun v s1 h1=>thn h1 fun itv s2 h2=>?_)
 refine uz (RR:=fun acc C=>compPost (model X.prog X.w) X.A X.xe none (EP X pins σ Q) acc C) ck hXN hsc hc hg hs ht he h2 ?_
 intro D C s' H' m o J nC hC fC q
 refine ⟨m,nC,fun h' sb=>⟨.ref D,H',?_,rfl,q⟩⟩
 have J0:Inv X pins σ H' s':=J.unpinned
 exact J0.turned (t':=s'.toks) (it:=C) (fun b o hb e=>sb.extBut b o hb e) fC hC.2.1 (.inr hC.1) hC.2.2.1 hC.2.2.2
theorem HD {i:Nat} {y:Str} {pos' spos:Pos} (ck:CmpOk XN sc scope N js) (hN:X.N.Nodup) (hi0:X.N[i]? = some y) (hx:Loc X.env.scope y) (hi:PI X tg iter wi) (hg:∀ z,PG (cxC X N scope z) tg g) (hs:wY js g) (ht:∀ z,PIf (cxC X N scope z) ifs tt) (he:∀ z,PE (cxC X N scope z) elt te)
  (hsw:swapsWith (.ListComp elt [⟨tg,iter,ifs,0⟩] scope pos) (some (.Name y pos')) spos.line X.env = pure true:=by rfl)
  (hXN:X.N = XN:=by rfl) (hsc:X.env.scope = sc:=by rfl) (hc:X.calm = true:=by rfl) (hf:∀ x,foldedSetIterable iter X.env x = pure x:=by intro _;rfl)
  (hfn:X.fn y = true \/ X.env.scope.names.lookup y = some .local:=by first | exact .inl rfl | exact .inr rfl | assumption) :
  PS X (.Assign [.Name y pos'] (.ListComp elt [⟨tg,iter,ifs,0⟩] scope pos) spos) (A7 (Dm js wi g tt te) (kt i)):=by
 intro pins s σ H D I h
 rw [exec_Assign_Name_used _ _ _ _ hsw]
 have hcl:closureFor scope X.env = pure (gR X.env scope.names []):=ph fun y hy hk=>I.ok.has y.1 (by
  have:=ck.free y hy hk
  rw [<- hsc] at this
  exact this)
 refine Pb (wpAny_standAt (Pb ?_))
 show wpAny (model X.prog X.w) X.A (comprehension (.ListComp elt [⟨tg,iter,ifs,0⟩] scope pos) scope X.env _ (newList []) false (eval iter X.env) (some (assign (.Name y pos') X.env)) >>= fun _=>pure ()) _ _ s
 refine Pb (thn (RS (use:=some (assign (.Name y pos') X.env)) (Q:=fun _ s'=>SP X pins D .next s') rfl hf hcl ck.kind ck.loc (thn (hi pins s σ H _ I h) fun v s1 h1=>thn h1 fun itv s2 h2=>?_)) fun _ s' q=>Pj (Pj q))
 refine uz (RR:=fun acc C=>compPost (model X.prog X.w) X.A X.xe (some (assign (.Name y pos') X.env)) (fun _ s'=>SP X pins D .next s') acc C) (Q:=fun x H1=>kt i x σ H1 D.nx) ck hXN hsc hc hg hs ht he h2 ?_
 intro A C s' H' m o J nC hC fC q
 refine thn (qQ hN hi0 hx hfn _ s' σ H' (.ref A) (.ref A) _ J rfl q) fun _ s3 h3=>?_
 obtain ⟨σ3,H3,J3,q3⟩:=h3
 have pc:=J3.pin (C,o) (Pm _ (Pm _ Pg))
 have oC:s'.heap.get? C = some o:=(J.pin (C,o) (Pm _ (Pm _ Pg))).1
 refine ⟨m,nC.at' fun o' e=>?_,fun h' sb=>⟨σ3,H3,?_,q3⟩⟩
 ·rw [oC] at e
  cases e
  exact pc.1
 ·have J0:Inv X pins σ3 H3 s3:=J3.unpinned
  exact J0.turned (t':=s3.toks) (it:=C) (fun b o hb e=>sb.extBut b o hb e) pc.2.1 hC.2.1 (.inr hC.1) hC.2.2.1 hC.2.2.2
end
end L2
namespace Srt
open PySem PySem.W PyProof.Rows
section
variable {α β:Type} (lt:Nat -> Nat -> Bool) (n:Nat)
end
section
variable {lt:Nat -> Nat -> Bool} {le:Nat -> Nat -> Prop} {n:Nat} {p:Array Nat}
abbrev at' (p:Array Nat) (i:Nat):Nat:=p.getD i 0
theorem AM {p q:Array Nat} {i j:Nat} (h:p[i]? = q[j]?):at' p i = at' q j:=by
 have e:∀ (r:Array Nat) (k:Nat),at' r k = (r[k]?).getD 0:=fun r k=>by simp [at']
 rw [e,e,h]
def Asc (le:Nat -> Nat -> Prop) (p:Array Nat) (m:Nat):Prop:=∀ i j,i <= j -> j < m -> le (at' p i) (at' p j)
def Bel (n:Nat) (p:Array Nat):Prop:=∀ k,at' p k < n
structure Ord (lt:Nat -> Nat -> Bool) (le:Nat -> Nat -> Prop):Prop where
 tr:∀ a b c,le a b -> le b c -> le a c
 rf:∀ a,le a a
 yes:∀ a b,lt a b = true -> le a b
 no:∀ a b,lt a b = false -> le b a
theorem KH (hn:0 < n) (hp:p.Perm (List.range n).toArray):Bel n p:=fun k=>by
 have e:at' p k = (p[k]?).getD 0:=by simp [at']
 rw [e]
 cases h:p[k]? with
 | none=>exact hn
 | some v=>
  have hm:v ∈ p:=Array.mem_of_getElem? h
  have:=(Rj.mp hp).mem_iff.mp (Array.mem_toList_iff.mpr hm)
  simpa using this
theorem cB {i j:Nat} (hj:j <= p.size) (k:Nat):at' (kas_rev p i j) k = if i <= k /\ k < j then at' p (i + j - 1 - k) else at' p k:=by
 have e:=getElem?_mirror_all (i:=i) hj k
 by_cases h:i <= k /\ k < j
 ·rw [O7 h] at e ⊢;exact AM e
 ·rw [O8 h] at e ⊢;exact AM e
variable {z:Nat}
theorem sr {src d:Nat} (hs:src < p.size) (hd:d <= src) (k:Nat):at' (bubble p src d) k = if k = src - d then at' p src else if src - d < k /\ k <= src then at' p (k - 1) else at' p k:=by
 have e:=getElem?_bubble hs d hd k
 by_cases h1:k = src - d
 ·rw [O7 h1] at e ⊢;exact AM e
 ·rw [O8 h1] at e ⊢
  by_cases h2:src - d < k /\ k <= src
  ·rw [O7 h2] at e ⊢;exact AM e
  ·rw [O8 h2] at e ⊢;exact AM e
end
theorem B6 {α:Type} {le:Nat -> Nat -> Prop} {p:Array Nat} {vs:List α} {d:α} (hp:p.Perm (List.range vs.length).toArray) (ha:Asc le p vs.length) :
  (p.toList.map fun i=>vs.getD i d).Perm vs /\ ∀ R:α -> α -> Prop,(∀ i j,i < vs.length -> j < vs.length -> le i j -> R (vs.getD i d) (vs.getD j d)) -> (p.toList.map fun i=>vs.getD i d).Pairwise R:=by
 have hl:p.toList.Perm (List.range vs.length):=by simpa using Rj.mp hp
 constructor
 ·have h1:(p.toList.map fun i=>vs.getD i d).Perm ((List.range vs.length).map fun i=>vs.getD i d):=hl.map _
  have h2:((List.range vs.length).map fun i=>vs.getD i d) = vs:=by
   apply List.ext_getElem
   ·simp
   ·intro i h1 h2;simp at h1;simp [h1]
  rw [h2] at h1
  exact h1
 ·intro R hR
  rw [Qq,QH]
  intro i j hi hj hij
  have hs:p.toList.length = vs.length:=by rw [hl.length_eq];simp
  have m:∀ k (hk:k < p.toList.length),p.toList[k] < vs.length:=fun k hk=>by simpa using hl.mem_iff.mp (List.getElem_mem hk)
  have a:∀ k (hk:k < p.toList.length),at' p k = p.toList[k]:=fun k hk=>by
   have:k < p.size:=by simpa using hk
   simp [at',Array.getD,this]
  refine hR _ _ (m i hi) (m j hj) ?_
  rw [<- a i hi,<- a j hj]
  exact ha i j (Qg hij) (by lia)
def Hx:Bool -> Keyed -> Array Keyed -> Nat -> Nat -> Nat -> StateT SortSt Sem (Option Nat):=sortPriv% PySem.Builtin.gallop
def FE:Array Keyed -> Array Keyed -> StateT SortSt Sem (Array Keyed):=sortPriv% PySem.Builtin.mergeLo
def FD:Array Keyed -> Array Keyed -> StateT SortSt Sem (Array Keyed):=sortPriv% PySem.Builtin.mergeHi
section
variable {prog:Program} {w:World} {A:Around} {E:Value -> Shared -> Prop} {s:Shared} {κ:SortKind} {it:Array Keyed} {n:Nat} {lt:Nat -> Nat -> Bool} {le:Nat -> Nat -> Prop}
def wZ (prog:Program) (w:World) (A:Around) (s:Shared) (κ:SortKind) (it:Array Keyed) (n:Nat) (lt:Nat -> Nat -> Bool):Prop:=
 ∀ i j (C:Bool -> Shared -> Prop),i < n -> j < n -> C (lt i j) s -> kas_cmp prog w A κ it i j C s
theorem w_lt (hc:wZ prog w A s κ it n lt) {i j:Nat} {Q:Option Bool -> SortSt -> Prop} {st:SortSt} (hk:kindOf st = κ) (hi:i < n) (hj:j < n) (h:Q (some (lt i j)) st):wpS (model prog w) A E s (lt' (kas_item it i) (kas_item it j)) Q st:=by
 rw [lt'_eq]
 refine Pa (Qe ?_)
 rw [hk]
 refine Pa (QI (wpAny_attempt (P8 (hc i j (fun c s'=>s' = s /\ c = lt i j) hi hj ⟨rfl,rfl⟩) (fun c s' h'=>?_) fun _ _ hF=>hF.elim)))
 obtain ⟨rfl,rfl⟩:=h'
 exact ⟨rfl,O9 h⟩
theorem aO {X:Array Nat} {k:Nat} {Q:Keyed -> SortSt -> Prop} {st:SortSt} (hk:k < X.size) (h:Q (kas_item it (at' X k)) st):wpS (model prog w) A E s (elem' (X.map (kas_item it)) k) Q st:=by
 rw [elem'_eq]
 have e:at' X k = X[k]:=by simp [at',hk]
 rw [e] at h
 have e2:(X.map (kas_item it))[k]? = some (kas_item it X[k]):=by simp [hk]
 rw [e2]
 exact O9 h
theorem cQ (o:Ord lt le) (hc:wZ prog w A s κ it n lt) {left:Bool} {key:Nat} {X:Array Nat} {base m hint:Nat} {Q:Option Nat -> SortSt -> Prop} {st:SortSt} (hk:kindOf st = κ) (hb:∀ i,i < X.size -> at' X i < n) (hkey:key < n)
  (hz:base + m <= X.size) (hh:hint < m) (hs:∀ i j,i <= j -> j < m -> le (at' X (base + i)) (at' X (base + j)))
  (h:∀ k,k <= m -> (∀ i,i < k -> le (at' X (base + i)) key) -> (∀ i,k <= i -> i < m -> le key (at' X (base + i))) -> Q (some k) st) :
  wpS (model prog w) A E s (Hx left (kas_item it key) (X.map (kas_item it)) base m hint) Q st:=by
 have bey:∀ i,i < m -> ∀ (R:Option Bool -> SortSt -> Prop),(∀ c,(c = true -> le (at' X (base + i)) key) -> (c = false -> le key (at' X (base + i))) -> R (some c) st) -> wpS (model prog w) A E s (do
   let x ← elem' (X.map (kas_item it)) (base + i)
   if left = true then lt' x (kas_item it key) else do
    let r ← lt' (kas_item it key) x
    pure (Option.map (fun x=>!x) r)) R st:=fun i hi R hR=>by
  refine Pa (aO (by lia) ?_)
  have hx:=hb (base + i) (by lia)
  cases left with
  | true=>
   rw [O7 rfl]
   exact w_lt hc hk hx hkey (hR _ (o.yes _ _) (o.no _ _))
  | false=>
   rw [O8 (by decide)]
   refine Pa (w_lt hc hk hkey hx (O9 ?_))
   refine hR _ (fun e=>o.no _ _ (by simpa using e)) (fun e=>o.yes _ _ (by simpa using e))
 have lo':∀ k,k < m -> le (at' X (base + k)) key -> ∀ i,i <= k -> le (at' X (base + i)) key:=fun k hk hl i hi=>o.tr _ _ _ (hs i k hi hk) hl
 have hi':∀ k,k < m -> le key (at' X (base + k)) -> ∀ i,k <= i -> i < m -> le key (at' X (base + i)):=fun k hk hl i hi him=>o.tr _ _ _ hl (hs k i hi him)
 refine Pa (bey hint hh _ fun c c1 c2=>?_)
 dsimp only
 cases c with
 | true=>
  rw [O7 rfl]
  refine Pa (PF (PH (I:=fun x c st'=>st' = st /\ ∃ l f,c = (none,l,f) /\ x + 1 <= f /\ hint + l < m /\ le (at' X (base + (hint + l))) key)
   (Q:=fun c st'=>st' = st /\ ∃ l f,c = (none,l,f) /\ hint + l < m /\ le (at' X (base + (hint + l))) key /\ (f < m - hint -> le key (at' X (base + (hint + f))))) ?s1 ?f1 ?i1) ?p1)
  case i1=>exact ⟨rfl,0,1,rfl,by lia,by lia,c1 rfl⟩
  case f1=>
   rintro c st' ⟨rfl,l,f,rfl,h1,h2,h3⟩
   exact ⟨rfl,l,f,rfl,h2,h3,fun _=>by lia⟩
  case s1=>
   rintro x c st' _ hx ⟨rfl,l,f,rfl,h1,h2,h3⟩
   dsimp only
   by_cases hge:f ≥ m - hint
   ·rw [O7 hge]
    exact O9 ⟨rfl,l,f,rfl,h2,h3,fun _=>by lia⟩
   ·rw [O8 hge]
    refine Pa (bey (hint + f) (by lia) _ fun c d1 d2=>?_)
    dsimp only
    cases c with
    | true=>exact O9 ⟨rfl,f,2 * f + 1,rfl,by lia,by lia,d1 rfl⟩
    | false=>exact O9 ⟨rfl,l,f,rfl,h2,h3,fun _=>d2 rfl⟩
  case p1=>
   rintro c st' ⟨rfl,l,f,rfl,h2,h3,h4⟩
   dsimp only
   have g1:∀ i,i < hint + l + 1 -> i < m -> le (at' X (base + i)) key:=fun i hi _=>lo' _ h2 h3 i (by lia)
   have g2:∀ i,hint + min f (m - hint) <= i -> i < m -> le key (at' X (base + i)):=fun i hi him=>hi' (hint + f) (by lia) (h4 (by lia)) i (by lia) him
   have g3:hint + min f (m - hint) <= m:=by lia
   generalize hint + l + 1 = L at g1 ⊢
   generalize hint + min f (m - hint) = H at g2 g3 ⊢
   refine Pa (PF (PH (I:=fun x c st2=>st2 = st' /\ ∃ l h,c = (none,l,h) /\ h <= m /\ h - l <= m - x /\ (∀ i,i < l -> i < m -> le (at' X (base + i)) key) /\ (∀ i,h <= i -> i < m -> le key (at' X (base + i))))
    (Q:=fun c st2=>st2 = st' /\ ∃ l h,c = (none,l,h) /\ h <= m /\ h <= l /\ (∀ i,i < l -> i < m -> le (at' X (base + i)) key) /\ (∀ i,h <= i -> i < m -> le key (at' X (base + i)))) ?s2 ?f2 ?i2) ?p2)
   case i2=>exact ⟨rfl,L,H,rfl,g3,by lia,g1,g2⟩
   case f2=>
    rintro c st2 ⟨rfl,l,h,rfl,k1,k2,k3,k4⟩
    exact ⟨rfl,l,h,rfl,k1,by lia,k3,k4⟩
   case s2=>
    rintro x c st2 _ hx ⟨rfl,l,h,rfl,k1,k2,k3,k4⟩
    dsimp only
    by_cases hge:l ≥ h
    ·rw [O7 hge]
     exact O9 ⟨rfl,l,h,rfl,k1,hge,k3,k4⟩
    ·rw [O8 hge]
     refine Pa (bey (l + (h - l) / 2) (by lia) _ fun c d1 d2=>?_)
     dsimp only
     cases c with
     | true=>exact O9 ⟨rfl,_,_,rfl,k1,by lia,fun i hi him=>lo' _ (by lia) (d1 rfl) i (by lia),k4⟩
     | false=>exact O9 ⟨rfl,_,_,rfl,by lia,by lia,k3,fun i hi him=>hi' _ (by lia) (d2 rfl) i hi him⟩
   case p2=>
    rintro c st2 ⟨rfl,l,h',rfl,k1,k2,k3,k4⟩
    exact O9 (h h' k1 (fun i hi=>k3 i (by lia) (by lia)) k4)
 | false=>
  rw [O8 (by decide)]
  refine Pa (PF (PH (I:=fun x c st'=>st' = st /\ ∃ l f,c = (none,l,f) /\ x + 1 <= f /\ l <= hint /\ le key (at' X (base + (hint - l))))
   (Q:=fun c st'=>st' = st /\ ∃ l f,c = (none,l,f) /\ l <= hint /\ le key (at' X (base + (hint - l))) /\ (f < hint + 1 -> le (at' X (base + (hint - f))) key)) ?s1 ?f1 ?i1) ?p1)
  case i1=>exact ⟨rfl,0,1,rfl,by lia,by lia,c2 rfl⟩
  case f1=>
   rintro c st' ⟨rfl,l,f,rfl,h1,h2,h3⟩
   exact ⟨rfl,l,f,rfl,h2,h3,fun _=>by lia⟩
  case s1=>
   rintro x c st' _ hx ⟨rfl,l,f,rfl,h1,h2,h3⟩
   dsimp only
   by_cases hge:f ≥ hint + 1
   ·rw [O7 hge]
    exact O9 ⟨rfl,l,f,rfl,h2,h3,fun _=>by lia⟩
   ·rw [O8 hge]
    refine Pa (bey (hint - f) (by lia) _ fun c d1 d2=>?_)
    dsimp only
    cases c with
    | true=>exact O9 ⟨rfl,l,f,rfl,h2,h3,fun _=>d1 rfl⟩
    | false=>exact O9 ⟨rfl,f,2 * f + 1,rfl,by lia,by lia,d2 rfl⟩
  case p1=>
   rintro c st' ⟨rfl,l,f,rfl,h2,h3,h4⟩
   dsimp only
   have g1:∀ i,i < hint + 1 - min f (hint + 1) -> i < m -> le (at' X (base + i)) key:=fun i hi _=>lo' (hint - f) (by lia) (h4 (by lia)) i (by lia)
   have g2:∀ i,hint - l <= i -> i < m -> le key (at' X (base + i)):=fun i hi him=>hi' (hint - l) (by lia) h3 i (by lia) him
   have g3:hint - l <= m:=by lia
   generalize hint + 1 - min f (hint + 1) = L at g1 ⊢
   generalize hint - l = H at g2 g3 ⊢
   refine Pa (PF (PH (I:=fun x c st2=>st2 = st' /\ ∃ l h,c = (none,l,h) /\ h <= m /\ h - l <= m - x /\ (∀ i,i < l -> i < m -> le (at' X (base + i)) key) /\ (∀ i,h <= i -> i < m -> le key (at' X (base + i))))
    (Q:=fun c st2=>st2 = st' /\ ∃ l h,c = (none,l,h) /\ h <= m /\ h <= l /\ (∀ i,i < l -> i < m -> le (at' X (base + i)) key) /\ (∀ i,h <= i -> i < m -> le key (at' X (base + i)))) ?s2 ?f2 ?i2) ?p2)
   case i2=>exact ⟨rfl,L,H,rfl,g3,by lia,g1,g2⟩
   case f2=>
    rintro c st2 ⟨rfl,l,h,rfl,k1,k2,k3,k4⟩
    exact ⟨rfl,l,h,rfl,k1,by lia,k3,k4⟩
   case s2=>
    rintro x c st2 _ hx ⟨rfl,l,h,rfl,k1,k2,k3,k4⟩
    dsimp only
    by_cases hge:l ≥ h
    ·rw [O7 hge]
     exact O9 ⟨rfl,l,h,rfl,k1,hge,k3,k4⟩
    ·rw [O8 hge]
     refine Pa (bey (l + (h - l) / 2) (by lia) _ fun c d1 d2=>?_)
     dsimp only
     cases c with
     | true=>exact O9 ⟨rfl,_,_,rfl,k1,by lia,fun i hi him=>lo' _ (by lia) (d1 rfl) i (by lia),k4⟩
     | false=>exact O9 ⟨rfl,_,_,rfl,by lia,by lia,k3,fun i hi him=>hi' _ (by lia) (d2 rfl) i hi him⟩
   case p2=>
    rintro c st2 ⟨rfl,l,h',rfl,k1,k2,k3,k4⟩
    exact O9 (h h' k1 (fun i hi=>k3 i (by lia) (by lia)) k4)
end
end Srt
namespace Srt
section
variable {le:Nat -> Nat -> Prop} {tot out ra rb xs:List Nat}
def Inv (le:Nat -> Nat -> Prop) (tot out ra rb:List Nat):Prop:=(out ++ ra).Pairwise le /\ (out ++ rb).Pairwise le /\ (out ++ (ra ++ rb)).Perm tot
theorem Inv.symm (h:Inv le tot out ra rb):Inv le tot out rb ra:=⟨h.2.1,h.1,(List.Perm.append_left _ List.perm_append_comm).trans h.2.2⟩
theorem Inv.block (h:Inv le tot out (xs ++ ra) rb) (k:∀ x ∈ xs,∀ y ∈ rb,le x y):Inv le tot (out ++ xs) ra rb:=by
 obtain ⟨h1,h2,h3⟩:=h
 refine ⟨by rw [PQ];exact h1,?_,by rw [PQ,<- PQ xs];exact h3⟩
 rw [PZ] at h1 h2
 rw [PQ,PZ]
 obtain ⟨a1,a2,a3⟩:=h1
 obtain ⟨b1,b2,b3⟩:=h2
 rw [PZ] at a2
 refine ⟨a1,PZ.mpr ⟨a2.1,b2,k⟩,fun x hx y hy=>?_⟩
 rcases Po.mp hy with hy | hy
 ·exact a3 x hx y (Pv _ hy)
 ·exact b3 x hx y hy
theorem Inv.doneA (h:Inv le tot out ra []):(out ++ ra).Pairwise le /\ (out ++ ra).Perm tot:=⟨h.1,by have:=h.2.2;rwa [P6] at this⟩
theorem Inv.lastA {x:Nat} (h:Inv le tot out [x] rb) (k:∀ y ∈ rb,le y x):(out ++ (rb ++ [x])).Pairwise le /\ (out ++ (rb ++ [x])).Perm tot:=by
 refine ⟨?_,(List.Perm.append_left _ List.perm_append_comm).trans h.2.2⟩
 obtain ⟨h1,h2,_⟩:=h
 rw [PZ] at h1 h2
 rw [PZ]
 refine ⟨h1.1,PZ.mpr ⟨h2.2.1,Rk _ _,fun y hy z hz=>?_⟩,fun a ha b hb=>?_⟩
 ·rw [Pe] at hz;subst hz;exact k y hy
 ·rcases Po.mp hb with hb | hb
  ·exact h2.2.2 a ha b hb
  ·exact h1.2.2 a ha b hb
end
section
variable {X Y O:Array Nat} {le:Nat -> Nat -> Prop} {tot:List Nat}
theorem Kr {i:Nat} (h:i < X.size):at' X i = X[i]:=by simp [at',h]
theorem kK {i:Nat} (h:i < X.size):X.toList[i]'(by simpa using h) = at' X i:=by rw [Kr h];simp
theorem yM {i:Nat} (h:i < X.size):X.toList.drop i = at' X i :: X.toList.drop (i + 1):=by
 rw [Rm (by simpa using h),kK h]
theorem rh {i j:Nat} (h:i <= j):X.toList.drop i = (X.extract i j).toList ++ X.toList.drop j:=by
 rw [Ro,Rp]
 have e:X.toList.drop j = (X.toList.drop i).drop (j - i):=by rw [List.drop_drop];congr 1;lia
 rw [e,RT]
theorem ve {i x:Nat} (h:x ∈ X.toList.drop i):∃ j,i <= j /\ j < X.size /\ at' X j = x:=by
 obtain ⟨k,hk⟩:=Qh h
 rw [Rq] at hk
 obtain ⟨h1,h2⟩:=Pw.mp hk
 have h1':i + k < X.size:=by simpa using h1
 exact ⟨i + k,by lia,h1',by rw [<- kK h1'];exact h2⟩
theorem uw {i j x:Nat} (h:x ∈ (X.extract i j).toList):∃ k,i <= k /\ k < j /\ k < X.size /\ at' X k = x:=by
 obtain ⟨k,hk⟩:=Qh h
 rw [Ro,Rp,RE] at hk
 split at hk
 ·rw [Rq] at hk
  obtain ⟨h1,h2⟩:=Pw.mp hk
  have h1':i + k < X.size:=by simpa using h1
  exact ⟨i + k,by lia,by lia,h1',by rw [<- kK h1'];exact h2⟩
 ·cases hk
abbrev J (le:Nat -> Nat -> Prop) (tot:List Nat) (X Y O:Array Nat) (ia ib:Nat):Prop:=Inv le tot O.toList (X.toList.drop ia) (Y.toList.drop ib)
variable {ia ib:Nat}
theorem J.one (j:J le tot X Y O ia ib) (h:ia < X.size) (k:∀ i,ib <= i -> i < Y.size -> le (at' X ia) (at' Y i)):J le tot X Y (O.push (at' X ia)) (ia + 1) ib:=by
 unfold J at j ⊢
 rw [yM h] at j
 have:=Inv.block (xs:=[at' X ia]) j (fun x hx y hy=>by
  rw [Pe] at hx
  subst hx
  obtain ⟨i,h1,h2,rfl⟩:=ve hy
  exact k i h1 h2)
 rwa [Q9]
theorem J.blk {m:Nat} (j:J le tot X Y O ia ib) (k:∀ i l,ia <= i -> i < ia + m -> i < X.size -> ib <= l -> l < Y.size -> le (at' X i) (at' Y l)):J le tot X Y (O ++ X.extract ia (ia + m)) (ia + m) ib:=by
 unfold J at j ⊢
 rw [rh (j:=ia + m) (by lia)] at j
 have:=Inv.block j (fun x hx y hy=>by
  obtain ⟨i,h1,h2,h3,rfl⟩:=uw hx
  obtain ⟨l,h4,h5,rfl⟩:=ve hy
  exact k i l h1 h2 h3 h4 h5)
 rwa [QW]
theorem J.sy (j:J le tot X Y O ia ib):J le tot Y X O ib ia:=Inv.symm j
abbrev mh (le:Nat -> Nat -> Prop) (tot:List Nat) (R:Array Nat):Prop:=R.toList.Pairwise le /\ R.toList.Perm tot
theorem J.done1 (j:J le tot X Y O ia ib) (h:Y.size <= ib) (h2:ia <= X.size):mh le tot (O ++ X.extract ia X.size ++ Y.extract ib Y.size):=by
 unfold J at j
 rw [QX (l:=Y.toList) (by simpa using h)] at j
 have e:(Y.extract ib Y.size) = #[]:=by simp;lia
 have e2:X.toList.drop ia = (X.extract ia X.size).toList:=by rw [rh h2];simp
 rw [e,Array.append_empty]
 unfold mh
 rw [QW,<- e2]
 exact j.doneA
theorem J.done2 (j:J le tot X Y O ia ib) (h:X.size <= ia) (h2:ib <= Y.size):mh le tot (O ++ X.extract ia X.size ++ Y.extract ib Y.size):=by
 have e:(X.extract ia X.size) = #[]:=by simp;lia
 have:=j.sy.done1 h h2
 rw [e,Array.append_empty] at this ⊢
 exact this
theorem J.last (j:J le tot X Y O ia ib) (h:ia + 1 = X.size) (h2:ib <= Y.size) (k:∀ i,i < Y.size -> le (at' Y i) (at' X ia)):mh le tot (O ++ Y.extract ib Y.size ++ X.extract ia X.size):=by
 unfold J at j
 rw [yM (by lia),QX (l:=X.toList) (i:=ia + 1) (by simp;lia)] at j
 have:=j.lastA fun y hy=>by
  obtain ⟨i,h1,h2,rfl⟩:=ve hy
  exact k i h2
 have e:(X.extract ia X.size).toList = [at' X ia]:=by
  have e2:X.toList.drop ia = (X.extract ia X.size).toList:=by rw [rh (j:=X.size) (by lia)];simp
  rw [<- e2,yM (by lia),QX (l:=X.toList) (i:=ia + 1) (by simp;lia)]
 have e3:Y.toList.drop ib = (Y.extract ib Y.size).toList:=by rw [rh h2];simp
 unfold mh
 rw [QW,QW,e,<- e3,PQ]
 exact this
end
end Srt
namespace Srt
open PySem PySem.W PyProof.Rows
section
variable {prog:Program} {w:World} {A:Around} {E:Value -> Shared -> Prop} {s:Shared} {κ:SortKind} {it:Array Keyed} {n:Nat} {lt:Nat -> Nat -> Bool} {le:Nat -> Nat -> Prop}
def Same (κ:SortKind) (st st':SortSt):Prop:=kindOf st' = κ /\ arrOf st' = arrOf st /\ pendingOf st' = pendingOf st /\ failedOf st' = failedOf st
theorem Same.g {st st2:SortSt} (h:Same κ st st2) (g:Nat):Same κ st (SortSt.mk' (kindOf st2) (arrOf st2) (pendingOf st2) g (failedOf st2)):=h
theorem bO {σ α:Type} {M:Model} {c:Prop} [Decidable c] {a b:StateT σ Sem α} {Q:α -> σ -> Prop} {st:σ} (h1:wpS M A E s a Q st) (h2:wpS M A E s b Q st):wpS M A E s (if c then a else b) Q st:=by
 by_cases h:c
 ·rw [O7 h];exact h1
 ·rw [O8 h];exact h2
theorem exm (f:Nat -> Keyed) (Z:Array Nat):(Z.map f).extract 0 Z.size = Z.map f:=by
 have:Z.size = (Z.map f).size:=by simp
 rw [this];simp
theorem Dq {X:Array Nat} (h:∀ i j,i <= j -> j < X.size -> le (at' X i) (at' X j)):X.toList.Pairwise le:=by
 rw [QH]
 intro i j hi hj hij
 have h2:j < X.size:=by simpa using hj
 rw [kK (by lia),kK h2]
 exact h i j (by lia) h2
theorem Er (o:Ord lt le) (hc:wZ prog w A s κ it n lt) {X Y:Array Nat} {Q:Array Keyed -> SortSt -> Prop} {st:SortSt} (hk:kindOf st = κ) (hx:∀ i,i < X.size -> at' X i < n) (hy:∀ i,i < Y.size -> at' Y i < n)
  (x1:1 <= X.size) (y1:1 <= Y.size) (sx:∀ i j,i <= j -> j < X.size -> le (at' X i) (at' X j)) (sy:∀ i j,i <= j -> j < Y.size -> le (at' Y i) (at' Y j)) (hf:∀ i,i < X.size -> le (at' Y 0) (at' X i)) (hl:∀ i,i < Y.size -> le (at' Y i) (at' X (X.size - 1)))
  (h:∀ R st',Same κ st st' -> mh le (X.toList ++ Y.toList) R -> Q (R.map (kas_item it)) st') :
  wpS (model prog w) A E s (FE (X.map (kas_item it)) (Y.map (kas_item it))) Q st:=by
 have sm0:Same κ st st:=⟨hk,rfl,rfl,rfl⟩
 have j0:J le (X.toList ++ Y.toList) X Y #[] 0 0:=⟨by simpa using Dq sx,by simpa using Dq sy,by simp⟩
 have j1:J le (X.toList ++ Y.toList) X Y #[at' Y 0] 0 1:=(j0.sy.one (by lia) fun i _ h2=>hf i h2).sy
 refine Pa (QI (Qx ⟨rfl,?_⟩))
 refine Pa (aO (by lia) ?_)
 dsimp only
 simp only [Array.size_map,Qb]
 by_cases e1:1 = Y.size
 ·rw [O7 e1]
  refine O9 ?_
  have:=h _ st sm0 (j1.done1 (by lia) (by lia))
  simpa [exm] using this
 rw [O8 e1]
 by_cases e2:0 + 1 = X.size
 ·rw [O7 e2]
  refine O9 ?_
  have:=h _ st sm0 (j1.last (by lia) (by lia) fun i hi=>by have:=hl i hi;rwa [show X.size - 1 = 0 by lia] at this)
  simpa [exm] using this
 rw [O8 e2]
 refine Pa (Qe ?_)
 refine Pa (PF (PH (I:=fun x c st2=>Same κ st st2 /\ ∃ O ia ib g,c = (none,O.map (kas_item it),ia,ib,g) /\ ia + 1 < X.size /\ ib < Y.size /\ x + 1 <= ia + ib /\ J le (X.toList ++ Y.toList) X Y O ia ib)
  (Q:=fun c st2=>∃ R,c.1 = some (R.map (kas_item it)) /\ mh le (X.toList ++ Y.toList) R /\ Same κ st st2) ?s1 ?f1 ?i1) ?p1)
 case i1=>exact ⟨sm0,#[at' Y 0],0,1,_,by simp;rfl,by lia,by lia,by lia,j1⟩
 case f1=>
  rintro c st2 ⟨sm,O,ia,ib,g,rfl,la,lb,ls,j⟩
  lia
 case p1=>
  rintro ⟨c,c'⟩ st2 ⟨R,hc1,hR,sm⟩
  dsimp only at hc1
  subst hc1
  exact O9 (h R st2 sm hR)
 case s1=>
  rintro x c st2 _ hx0 ⟨sm,O,ia,ib,g,rfl,la,lb,ls,j⟩
  dsimp only
  -- one by one
  refine Pa (PF (PH (I:=fun y c st2=>Same κ st st2 /\ ∃ O ia ib a b,c = (none,O.map (kas_item it),ia,ib,a,b) /\ ia + 1 < X.size /\ ib < Y.size /\ x + 1 + y <= ia + ib /\ J le (X.toList ++ Y.toList) X Y O ia ib)
   (Q:=fun c st2=>(∃ R,c.1 = some (R.map (kas_item it)) /\ mh le (X.toList ++ Y.toList) R /\ Same κ st st2) \/ (Same κ st st2 /\ ∃ O ia ib a b,c = (none,O.map (kas_item it),ia,ib,a,b) /\ ia + 1 < X.size /\ ib < Y.size /\ x + 1 + 1 <= ia + ib /\ J le (X.toList ++ Y.toList) X Y O ia ib)) ?s2 ?f2 ?i2) ?p2)
  case i2=>exact ⟨sm,O,ia,ib,0,0,rfl,la,lb,ls,j⟩
  case f2=>
   rintro c st2 ⟨sm,O,ia,ib,a,b,rfl,la,lb,ls,j⟩
   lia
  case s2=>
   clear la lb ls j sm
   rintro y c st2 _ hy0 ⟨sm,O,ia,ib,a,b,rfl,la,lb,ls,j⟩
   dsimp only
   refine Pa (aO lb ?_)
   refine Pa (aO (by lia) ?_)
   refine Pa (w_lt hc sm.1 (hy ib lb) (hx ia (by lia)) ?_)
   dsimp only
   cases cw:lt (at' Y ib) (at' X ia) with
   | true=>
    rw [O7 rfl]
    have l0:=o.yes _ _ cw
    have j2:J le (X.toList ++ Y.toList) X Y (O.push (at' Y ib)) ia (ib + 1):=(j.sy.one lb fun i h1 h2=>o.tr _ _ _ l0 (sx _ _ h1 h2)).sy
    refine Pa (aO lb ?_)
    by_cases e3:ib + 1 = Y.size
    ·rw [O7 e3]
     refine O9 (.inl ⟨(O.push (at' Y ib)) ++ X.extract ia X.size ++ Y.extract (ib + 1) Y.size,?_,j2.done1 (by lia) (by lia),sm⟩)
     simp
    ·rw [O8 e3]
     refine bO ?_ ?_
     ·exact O9 (.inr ⟨sm,O.push (at' Y ib),ia,ib + 1,_,_,by rw [QJ],by lia,by lia,by lia,j2⟩)
     ·exact O9 ⟨sm,O.push (at' Y ib),ia,ib + 1,_,_,by rw [QJ],by lia,by lia,by lia,j2⟩
   | false=>
    rw [O8 (by decide)]
    have l0:=o.no _ _ cw
    have j2:=j.one (by lia) fun i h1 h2=>o.tr _ _ _ l0 (sy _ _ h1 h2)
    refine Pa (aO (by lia) ?_)
    by_cases e3:ia + 1 + 1 = X.size
    ·rw [O7 e3]
     refine O9 (.inl ⟨(O.push (at' X ia)) ++ Y.extract ib Y.size ++ X.extract (ia + 1) X.size,?_,j2.last (by lia) (by lia) (fun i hi=>by have:=hl i hi;rwa [show X.size - 1 = ia + 1 by lia] at this),sm⟩)
     simp
    ·rw [O8 e3]
     refine bO ?_ ?_
     ·exact O9 (.inr ⟨sm,O.push (at' X ia),ia + 1,ib,_,_,by rw [QJ],by lia,by lia,by lia,j2⟩)
     ·exact O9 ⟨sm,O.push (at' X ia),ia + 1,ib,_,_,by rw [QJ],by lia,by lia,by lia,j2⟩
  case p2=>
   clear la lb ls j sm
   rintro ⟨c,c'⟩ st2 (⟨R,hc1,hR,sm⟩ | ⟨sm,O,ia,ib,a,b,hcc,la,lb,ls,j⟩)
   ·dsimp only at hc1
    subst hc1
    exact O9 ⟨R,rfl,hR,sm⟩
   cases hcc
   dsimp only
   refine Pa (QI (Qx ⟨rfl,?_⟩))
   have hst:∃ aZ,aZ = x + 1 + 1:=⟨_,rfl⟩
   obtain ⟨aZ,hst⟩:=hst
   rw [<- hst] at ls
   refine Pa (PF (PH (I:=fun y c st2=>Same κ st st2 /\ ∃ O ia ib m a b,c = (none,O.map (kas_item it),ia,ib,m,a,b) /\ ia + 1 < X.size /\ ib < Y.size /\ aZ <= ia + ib /\ J le (X.toList ++ Y.toList) X Y O ia ib)
    (Q:=fun c st2=>(∃ R,c.1 = some (R.map (kas_item it)) /\ mh le (X.toList ++ Y.toList) R /\ Same κ st st2) \/ (Same κ st st2 /\ ∃ O ia ib m a b,c = (none,O.map (kas_item it),ia,ib,m,a,b) /\ ia + 1 < X.size /\ ib < Y.size /\ aZ <= ia + ib /\ J le (X.toList ++ Y.toList) X Y O ia ib)) ?s3 ?f3 ?i3) ?p3)
   case i3=>exact ⟨sm,O,ia,ib,_,_,_,rfl,la,lb,ls,j⟩
   case f3=>exact fun c st2 h=>.inr h
   case p3=>
    clear la lb ls j sm
    rintro ⟨c,c'⟩ st2 (⟨R,hc1,hR,sm⟩ | ⟨sm,O,ia,ib,m,a,b,hcc,la,lb,ls,j⟩)
    ·dsimp only at hc1
     subst hc1
     exact O9 ⟨R,rfl,hR,sm⟩
    cases hcc
    dsimp only
    refine Pa (P5 (O9 ?_))
    exact ⟨sm.g _,O,ia,ib,_,rfl,la,lb,by lia,j⟩
   case s3=>
    clear la lb ls j sm
    rintro y c st2 _ hy0 ⟨sm,O,ia,ib,m,a,b,rfl,la,lb,ls,j⟩
    dsimp only
    by_cases hm:m > 1
    ·rw [O7 hm]
     refine Pa (P5 ?_)
     replace sm:=sm.g (m - 1)
     refine Pa (aO lb ?_)
     refine Pa (cQ o hc sm.1 hx (hy ib lb) (by lia) (by lia) (fun i k h1 h2=>sx _ _ (by lia) (by lia)) fun k k1 k2 k3=>?_)
     dsimp only
     have k2':∀ i,ia <= i -> i < ia + k -> le (at' X i) (at' Y ib):=fun i h1 h2=>by
      have:=k2 (i - ia) (by lia)
      rwa [show ia + (i - ia) = i by lia] at this
     have ky:∀ i,ia + k <= i -> i < X.size -> le (at' Y ib) (at' X i):=fun i h1 h2=>by
      have:=k3 (i - ia) (by lia) (by lia)
      rwa [show ia + (i - ia) = i by lia] at this
     by_cases k0:k > 0
     ·rw [O7 k0]
      replace j:=j.blk (m:=k) fun i l h1 h2 h3 h4 h5=>o.tr _ _ _ (k2' i h1 h2) (sy _ _ h4 h5)
      have eO:O.map (kas_item it) ++ (X.map (kas_item it)).extract ia (ia + k) = (O ++ X.extract ia (ia + k)).map (kas_item it):=by simp
      rw [eO]
      by_cases e1:ia + k + 1 = X.size
      ·rw [O7 e1]
       refine O9 (.inl ⟨O ++ X.extract ia (ia + k) ++ Y.extract ib Y.size ++ X.extract (ia + k) X.size,?_,j.last (by lia) (by lia) (fun i hi=>by have:=hl i hi;rwa [show X.size - 1 = ia + k by lia] at this),sm⟩)
       simp
      rw [O8 e1]
      by_cases e2:ia + k = X.size
      ·rw [O7 e2]
       refine O9 (.inl ⟨O ++ X.extract ia (ia + k) ++ X.extract (ia + k) X.size ++ Y.extract ib Y.size,?_,j.done2 (by lia) (by lia),sm⟩)
       simp
      rw [O8 e2]
      have la2:ia + k + 1 < X.size:=by lia
      have ls2:aZ <= ia + k + ib:=by lia
      clear k2' k2 k3 eO e1 e2
      generalize O ++ X.extract ia (ia + k) = O at j ⊢
      generalize hia:ia + k = ia at j la2 ls2 ky ⊢
      clear la ls k1 hia
      rename_i ia0 _
      clear k0
      have la:=la2
      have ls:=ls2
      -- y0
      refine Pa (aO lb ?_)
      have j2:J le (X.toList ++ Y.toList) X Y (O.push (at' Y ib)) ia (ib + 1):=(j.sy.one lb fun i h1 h2=>ky i h1 h2).sy
      by_cases e3:ib + 1 = Y.size
      ·rw [O7 e3]
       refine O9 (.inl ⟨(O.push (at' Y ib)) ++ X.extract ia X.size ++ Y.extract (ib + 1) Y.size,?_,j2.done1 (by lia) (by lia),sm⟩)
       simp
      ·rw [O8 e3]
       refine Pa (aO (by lia) ?_)
       refine Pa (cQ o hc sm.1 hy (hx ia (by lia)) (by lia) (by lia) (fun i k h1 h2=>sy _ _ (by lia) (by lia)) fun k k1 k2 k3=>?_)
       dsimp only
       have k2':∀ i,ib + 1 <= i -> i < ib + 1 + k -> le (at' Y i) (at' X ia):=fun i h1 h2=>by
        have:=k2 (i - (ib + 1)) (by lia)
        rwa [show ib + 1 + (i - (ib + 1)) = i by lia] at this
       have k3':∀ i,ib + 1 + k <= i -> i < Y.size -> le (at' X ia) (at' Y i):=fun i h1 h2=>by
        have:=k3 (i - (ib + 1)) (by lia) (by lia)
        rwa [show ib + 1 + (i - (ib + 1)) = i by lia] at this
       have j3:J le (X.toList ++ Y.toList) X Y (O.push (at' Y ib) ++ Y.extract (ib + 1) (ib + 1 + k)) ia (ib + 1 + k):=(j2.sy.blk fun i l h1 h2 h3 h4 h5=>o.tr _ _ _ (k2' i h1 h2) (sx _ _ h4 h5)).sy
       by_cases k0:k > 0
       ·rw [O7 k0]
        by_cases e4:ib + 1 + k = Y.size
        ·rw [O7 e4]
         refine O9 (.inl ⟨(O.push (at' Y ib)) ++ Y.extract (ib + 1) (ib + 1 + k) ++ X.extract ia X.size ++ Y.extract (ib + 1 + k) Y.size,?_,j3.done1 (by lia) (by lia),sm⟩)
         simp
        ·rw [O8 e4]
         refine Pa (aO (by lia) ?_)
         have j4:=j3.one (by lia) fun i h1 h2=>k3' i h1 h2
         by_cases e5:ia + 1 + 1 = X.size
         ·rw [O7 e5]
          refine O9 (.inl ⟨(O.push (at' Y ib) ++ Y.extract (ib + 1) (ib + 1 + k)).push (at' X ia) ++ Y.extract (ib + 1 + k) Y.size ++ X.extract (ia + 1) X.size,?_,j4.last (by lia) (by lia) (fun i hi=>by have:=hl i hi;rwa [show X.size - 1 = ia + 1 by lia] at this),sm⟩)
          simp
         ·rw [O8 e5]
          have fin:∀ m c d,∃ O' ia' ib' m' c' d',((none,((O.map (kas_item it)).push (kas_item it (at' Y ib)) ++ (Y.map (kas_item it)).extract (ib + 1) (ib + 1 + k)).push (kas_item it (at' X ia)),ia + 1,ib + 1 + k,m,c,d):Option (Array Keyed) × Array Keyed × Nat × Nat × Nat × Nat × Nat) = (none,O'.map (kas_item it),ia',ib',m',c',d') /\ ia' + 1 < X.size /\ ib' < Y.size /\ aZ <= ia' + ib' /\ J le (X.toList ++ Y.toList) X Y O' ia' ib':=fun m c d=>⟨_,_,_,m,c,d,by rw [show (((O.map (kas_item it)).push (kas_item it (at' Y ib)) ++ (Y.map (kas_item it)).extract (ib + 1) (ib + 1 + k)).push (kas_item it (at' X ia))) = ((O.push (at' Y ib) ++ Y.extract (ib + 1) (ib + 1 + k)).push (at' X ia)).map (kas_item it) by simp],by lia,by lia,by lia,j4⟩
          refine bO ?_ ?_
          ·exact O9 (.inr ⟨sm,fin _ _ _⟩)
          ·exact O9 ⟨sm,fin _ _ _⟩
       ·rw [O8 k0]
        have k00:k = 0:=by lia
        subst k00
        have j3':J le (X.toList ++ Y.toList) X Y (O.push (at' Y ib)) ia (ib + 1):=j2
        refine Pa (aO (by lia) ?_)
        have j4:=j3'.one (by lia) fun i h1 h2=>k3' i (by lia) h2
        by_cases e5:ia + 1 + 1 = X.size
        ·rw [O7 e5]
         refine O9 (.inl ⟨(O.push (at' Y ib)).push (at' X ia) ++ Y.extract (ib + 1) Y.size ++ X.extract (ia + 1) X.size,?_,j4.last (by lia) (by lia) (fun i hi=>by have:=hl i hi;rwa [show X.size - 1 = ia + 1 by lia] at this),sm⟩)
         simp
        ·rw [O8 e5]
         have fin:∀ m c d,∃ O' ia' ib' m' c' d',((none,((O.map (kas_item it)).push (kas_item it (at' Y ib))).push (kas_item it (at' X ia)),ia + 1,ib + 1,m,c,d):Option (Array Keyed) × Array Keyed × Nat × Nat × Nat × Nat × Nat) = (none,O'.map (kas_item it),ia',ib',m',c',d') /\ ia' + 1 < X.size /\ ib' < Y.size /\ aZ <= ia' + ib' /\ J le (X.toList ++ Y.toList) X Y O' ia' ib':=fun m c d=>⟨_,_,_,m,c,d,by rw [show ((O.map (kas_item it)).push (kas_item it (at' Y ib))).push (kas_item it (at' X ia)) = ((O.push (at' Y ib)).push (at' X ia)).map (kas_item it) by simp],by lia,by lia,by lia,j4⟩
         refine bO ?_ ?_
         ·exact O9 (.inr ⟨sm,fin _ _ _⟩)
         ·exact O9 ⟨sm,fin _ _ _⟩
     ·rw [O8 k0]
      have k00:k = 0:=by lia
      subst k00
      replace ky:∀ i,ia <= i -> i < X.size -> le (at' Y ib) (at' X i):=ky
      -- y0
      refine Pa (aO lb ?_)
      have j2:J le (X.toList ++ Y.toList) X Y (O.push (at' Y ib)) ia (ib + 1):=(j.sy.one lb fun i h1 h2=>ky i h1 h2).sy
      by_cases e3:ib + 1 = Y.size
      ·rw [O7 e3]
       refine O9 (.inl ⟨(O.push (at' Y ib)) ++ X.extract ia X.size ++ Y.extract (ib + 1) Y.size,?_,j2.done1 (by lia) (by lia),sm⟩)
       simp
      ·rw [O8 e3]
       refine Pa (aO (by lia) ?_)
       refine Pa (cQ o hc sm.1 hy (hx ia (by lia)) (by lia) (by lia) (fun i k h1 h2=>sy _ _ (by lia) (by lia)) fun k k1 k2 k3=>?_)
       dsimp only
       have k2':∀ i,ib + 1 <= i -> i < ib + 1 + k -> le (at' Y i) (at' X ia):=fun i h1 h2=>by
        have:=k2 (i - (ib + 1)) (by lia)
        rwa [show ib + 1 + (i - (ib + 1)) = i by lia] at this
       have k3':∀ i,ib + 1 + k <= i -> i < Y.size -> le (at' X ia) (at' Y i):=fun i h1 h2=>by
        have:=k3 (i - (ib + 1)) (by lia) (by lia)
        rwa [show ib + 1 + (i - (ib + 1)) = i by lia] at this
       have j3:J le (X.toList ++ Y.toList) X Y (O.push (at' Y ib) ++ Y.extract (ib + 1) (ib + 1 + k)) ia (ib + 1 + k):=(j2.sy.blk fun i l h1 h2 h3 h4 h5=>o.tr _ _ _ (k2' i h1 h2) (sx _ _ h4 h5)).sy
       by_cases k0:k > 0
       ·rw [O7 k0]
        by_cases e4:ib + 1 + k = Y.size
        ·rw [O7 e4]
         refine O9 (.inl ⟨(O.push (at' Y ib)) ++ Y.extract (ib + 1) (ib + 1 + k) ++ X.extract ia X.size ++ Y.extract (ib + 1 + k) Y.size,?_,j3.done1 (by lia) (by lia),sm⟩)
         simp
        ·rw [O8 e4]
         refine Pa (aO (by lia) ?_)
         have j4:=j3.one (by lia) fun i h1 h2=>k3' i h1 h2
         by_cases e5:ia + 1 + 1 = X.size
         ·rw [O7 e5]
          refine O9 (.inl ⟨(O.push (at' Y ib) ++ Y.extract (ib + 1) (ib + 1 + k)).push (at' X ia) ++ Y.extract (ib + 1 + k) Y.size ++ X.extract (ia + 1) X.size,?_,j4.last (by lia) (by lia) (fun i hi=>by have:=hl i hi;rwa [show X.size - 1 = ia + 1 by lia] at this),sm⟩)
          simp
         ·rw [O8 e5]
          have fin:∀ m c d,∃ O' ia' ib' m' c' d',((none,((O.map (kas_item it)).push (kas_item it (at' Y ib)) ++ (Y.map (kas_item it)).extract (ib + 1) (ib + 1 + k)).push (kas_item it (at' X ia)),ia + 1,ib + 1 + k,m,c,d):Option (Array Keyed) × Array Keyed × Nat × Nat × Nat × Nat × Nat) = (none,O'.map (kas_item it),ia',ib',m',c',d') /\ ia' + 1 < X.size /\ ib' < Y.size /\ aZ <= ia' + ib' /\ J le (X.toList ++ Y.toList) X Y O' ia' ib':=fun m c d=>⟨_,_,_,m,c,d,by rw [show (((O.map (kas_item it)).push (kas_item it (at' Y ib)) ++ (Y.map (kas_item it)).extract (ib + 1) (ib + 1 + k)).push (kas_item it (at' X ia))) = ((O.push (at' Y ib) ++ Y.extract (ib + 1) (ib + 1 + k)).push (at' X ia)).map (kas_item it) by simp],by lia,by lia,by lia,j4⟩
          refine bO ?_ ?_
          ·exact O9 (.inr ⟨sm,fin _ _ _⟩)
          ·exact O9 ⟨sm,fin _ _ _⟩
       ·rw [O8 k0]
        have k00:k = 0:=by lia
        subst k00
        have j3':J le (X.toList ++ Y.toList) X Y (O.push (at' Y ib)) ia (ib + 1):=j2
        refine Pa (aO (by lia) ?_)
        have j4:=j3'.one (by lia) fun i h1 h2=>k3' i (by lia) h2
        by_cases e5:ia + 1 + 1 = X.size
        ·rw [O7 e5]
         refine O9 (.inl ⟨(O.push (at' Y ib)).push (at' X ia) ++ Y.extract (ib + 1) Y.size ++ X.extract (ia + 1) X.size,?_,j4.last (by lia) (by lia) (fun i hi=>by have:=hl i hi;rwa [show X.size - 1 = ia + 1 by lia] at this),sm⟩)
         simp
        ·rw [O8 e5]
         have fin:∀ m c d,∃ O' ia' ib' m' c' d',((none,((O.map (kas_item it)).push (kas_item it (at' Y ib))).push (kas_item it (at' X ia)),ia + 1,ib + 1,m,c,d):Option (Array Keyed) × Array Keyed × Nat × Nat × Nat × Nat × Nat) = (none,O'.map (kas_item it),ia',ib',m',c',d') /\ ia' + 1 < X.size /\ ib' < Y.size /\ aZ <= ia' + ib' /\ J le (X.toList ++ Y.toList) X Y O' ia' ib':=fun m c d=>⟨_,_,_,m,c,d,by rw [show ((O.map (kas_item it)).push (kas_item it (at' Y ib))).push (kas_item it (at' X ia)) = ((O.push (at' Y ib)).push (at' X ia)).map (kas_item it) by simp],by lia,by lia,by lia,j4⟩
         refine bO ?_ ?_
         ·exact O9 (.inr ⟨sm,fin _ _ _⟩)
         ·exact O9 ⟨sm,fin _ _ _⟩
    ·rw [O8 hm]
     refine Pa (P5 ?_)
     replace sm:=sm.g (m)
     refine Pa (aO lb ?_)
     refine Pa (cQ o hc sm.1 hx (hy ib lb) (by lia) (by lia) (fun i k h1 h2=>sx _ _ (by lia) (by lia)) fun k k1 k2 k3=>?_)
     dsimp only
     have k2':∀ i,ia <= i -> i < ia + k -> le (at' X i) (at' Y ib):=fun i h1 h2=>by
      have:=k2 (i - ia) (by lia)
      rwa [show ia + (i - ia) = i by lia] at this
     have ky:∀ i,ia + k <= i -> i < X.size -> le (at' Y ib) (at' X i):=fun i h1 h2=>by
      have:=k3 (i - ia) (by lia) (by lia)
      rwa [show ia + (i - ia) = i by lia] at this
     by_cases k0:k > 0
     ·rw [O7 k0]
      replace j:=j.blk (m:=k) fun i l h1 h2 h3 h4 h5=>o.tr _ _ _ (k2' i h1 h2) (sy _ _ h4 h5)
      have eO:O.map (kas_item it) ++ (X.map (kas_item it)).extract ia (ia + k) = (O ++ X.extract ia (ia + k)).map (kas_item it):=by simp
      rw [eO]
      by_cases e1:ia + k + 1 = X.size
      ·rw [O7 e1]
       refine O9 (.inl ⟨O ++ X.extract ia (ia + k) ++ Y.extract ib Y.size ++ X.extract (ia + k) X.size,?_,j.last (by lia) (by lia) (fun i hi=>by have:=hl i hi;rwa [show X.size - 1 = ia + k by lia] at this),sm⟩)
       simp
      rw [O8 e1]
      by_cases e2:ia + k = X.size
      ·rw [O7 e2]
       refine O9 (.inl ⟨O ++ X.extract ia (ia + k) ++ X.extract (ia + k) X.size ++ Y.extract ib Y.size,?_,j.done2 (by lia) (by lia),sm⟩)
       simp
      rw [O8 e2]
      have la2:ia + k + 1 < X.size:=by lia
      have ls2:aZ <= ia + k + ib:=by lia
      clear k2' k2 k3 eO e1 e2
      generalize O ++ X.extract ia (ia + k) = O at j ⊢
      generalize hia:ia + k = ia at j la2 ls2 ky ⊢
      clear la ls k1 hia
      rename_i ia0 _
      clear k0
      have la:=la2
      have ls:=ls2
      -- y0
      refine Pa (aO lb ?_)
      have j2:J le (X.toList ++ Y.toList) X Y (O.push (at' Y ib)) ia (ib + 1):=(j.sy.one lb fun i h1 h2=>ky i h1 h2).sy
      by_cases e3:ib + 1 = Y.size
      ·rw [O7 e3]
       refine O9 (.inl ⟨(O.push (at' Y ib)) ++ X.extract ia X.size ++ Y.extract (ib + 1) Y.size,?_,j2.done1 (by lia) (by lia),sm⟩)
       simp
      ·rw [O8 e3]
       refine Pa (aO (by lia) ?_)
       refine Pa (cQ o hc sm.1 hy (hx ia (by lia)) (by lia) (by lia) (fun i k h1 h2=>sy _ _ (by lia) (by lia)) fun k k1 k2 k3=>?_)
       dsimp only
       have k2':∀ i,ib + 1 <= i -> i < ib + 1 + k -> le (at' Y i) (at' X ia):=fun i h1 h2=>by
        have:=k2 (i - (ib + 1)) (by lia)
        rwa [show ib + 1 + (i - (ib + 1)) = i by lia] at this
       have k3':∀ i,ib + 1 + k <= i -> i < Y.size -> le (at' X ia) (at' Y i):=fun i h1 h2=>by
        have:=k3 (i - (ib + 1)) (by lia) (by lia)
        rwa [show ib + 1 + (i - (ib + 1)) = i by lia] at this
       have j3:J le (X.toList ++ Y.toList) X Y (O.push (at' Y ib) ++ Y.extract (ib + 1) (ib + 1 + k)) ia (ib + 1 + k):=(j2.sy.blk fun i l h1 h2 h3 h4 h5=>o.tr _ _ _ (k2' i h1 h2) (sx _ _ h4 h5)).sy
       by_cases k0:k > 0
       ·rw [O7 k0]
        by_cases e4:ib + 1 + k = Y.size
        ·rw [O7 e4]
         refine O9 (.inl ⟨(O.push (at' Y ib)) ++ Y.extract (ib + 1) (ib + 1 + k) ++ X.extract ia X.size ++ Y.extract (ib + 1 + k) Y.size,?_,j3.done1 (by lia) (by lia),sm⟩)
         simp
        ·rw [O8 e4]
         refine Pa (aO (by lia) ?_)
         have j4:=j3.one (by lia) fun i h1 h2=>k3' i h1 h2
         by_cases e5:ia + 1 + 1 = X.size
         ·rw [O7 e5]
          refine O9 (.inl ⟨(O.push (at' Y ib) ++ Y.extract (ib + 1) (ib + 1 + k)).push (at' X ia) ++ Y.extract (ib + 1 + k) Y.size ++ X.extract (ia + 1) X.size,?_,j4.last (by lia) (by lia) (fun i hi=>by have:=hl i hi;rwa [show X.size - 1 = ia + 1 by lia] at this),sm⟩)
          simp
         ·rw [O8 e5]
          have fin:∀ m c d,∃ O' ia' ib' m' c' d',((none,((O.map (kas_item it)).push (kas_item it (at' Y ib)) ++ (Y.map (kas_item it)).extract (ib + 1) (ib + 1 + k)).push (kas_item it (at' X ia)),ia + 1,ib + 1 + k,m,c,d):Option (Array Keyed) × Array Keyed × Nat × Nat × Nat × Nat × Nat) = (none,O'.map (kas_item it),ia',ib',m',c',d') /\ ia' + 1 < X.size /\ ib' < Y.size /\ aZ <= ia' + ib' /\ J le (X.toList ++ Y.toList) X Y O' ia' ib':=fun m c d=>⟨_,_,_,m,c,d,by rw [show (((O.map (kas_item it)).push (kas_item it (at' Y ib)) ++ (Y.map (kas_item it)).extract (ib + 1) (ib + 1 + k)).push (kas_item it (at' X ia))) = ((O.push (at' Y ib) ++ Y.extract (ib + 1) (ib + 1 + k)).push (at' X ia)).map (kas_item it) by simp],by lia,by lia,by lia,j4⟩
          refine bO ?_ ?_
          ·exact O9 (.inr ⟨sm,fin _ _ _⟩)
          ·exact O9 ⟨sm,fin _ _ _⟩
       ·rw [O8 k0]
        have k00:k = 0:=by lia
        subst k00
        have j3':J le (X.toList ++ Y.toList) X Y (O.push (at' Y ib)) ia (ib + 1):=j2
        refine Pa (aO (by lia) ?_)
        have j4:=j3'.one (by lia) fun i h1 h2=>k3' i (by lia) h2
        by_cases e5:ia + 1 + 1 = X.size
        ·rw [O7 e5]
         refine O9 (.inl ⟨(O.push (at' Y ib)).push (at' X ia) ++ Y.extract (ib + 1) Y.size ++ X.extract (ia + 1) X.size,?_,j4.last (by lia) (by lia) (fun i hi=>by have:=hl i hi;rwa [show X.size - 1 = ia + 1 by lia] at this),sm⟩)
         simp
        ·rw [O8 e5]
         have fin:∀ m c d,∃ O' ia' ib' m' c' d',((none,((O.map (kas_item it)).push (kas_item it (at' Y ib))).push (kas_item it (at' X ia)),ia + 1,ib + 1,m,c,d):Option (Array Keyed) × Array Keyed × Nat × Nat × Nat × Nat × Nat) = (none,O'.map (kas_item it),ia',ib',m',c',d') /\ ia' + 1 < X.size /\ ib' < Y.size /\ aZ <= ia' + ib' /\ J le (X.toList ++ Y.toList) X Y O' ia' ib':=fun m c d=>⟨_,_,_,m,c,d,by rw [show ((O.map (kas_item it)).push (kas_item it (at' Y ib))).push (kas_item it (at' X ia)) = ((O.push (at' Y ib)).push (at' X ia)).map (kas_item it) by simp],by lia,by lia,by lia,j4⟩
         refine bO ?_ ?_
         ·exact O9 (.inr ⟨sm,fin _ _ _⟩)
         ·exact O9 ⟨sm,fin _ _ _⟩
     ·rw [O8 k0]
      have k00:k = 0:=by lia
      subst k00
      replace ky:∀ i,ia <= i -> i < X.size -> le (at' Y ib) (at' X i):=ky
      -- y0
      refine Pa (aO lb ?_)
      have j2:J le (X.toList ++ Y.toList) X Y (O.push (at' Y ib)) ia (ib + 1):=(j.sy.one lb fun i h1 h2=>ky i h1 h2).sy
      by_cases e3:ib + 1 = Y.size
      ·rw [O7 e3]
       refine O9 (.inl ⟨(O.push (at' Y ib)) ++ X.extract ia X.size ++ Y.extract (ib + 1) Y.size,?_,j2.done1 (by lia) (by lia),sm⟩)
       simp
      ·rw [O8 e3]
       refine Pa (aO (by lia) ?_)
       refine Pa (cQ o hc sm.1 hy (hx ia (by lia)) (by lia) (by lia) (fun i k h1 h2=>sy _ _ (by lia) (by lia)) fun k k1 k2 k3=>?_)
       dsimp only
       have k2':∀ i,ib + 1 <= i -> i < ib + 1 + k -> le (at' Y i) (at' X ia):=fun i h1 h2=>by
        have:=k2 (i - (ib + 1)) (by lia)
        rwa [show ib + 1 + (i - (ib + 1)) = i by lia] at this
       have k3':∀ i,ib + 1 + k <= i -> i < Y.size -> le (at' X ia) (at' Y i):=fun i h1 h2=>by
        have:=k3 (i - (ib + 1)) (by lia) (by lia)
        rwa [show ib + 1 + (i - (ib + 1)) = i by lia] at this
       have j3:J le (X.toList ++ Y.toList) X Y (O.push (at' Y ib) ++ Y.extract (ib + 1) (ib + 1 + k)) ia (ib + 1 + k):=(j2.sy.blk fun i l h1 h2 h3 h4 h5=>o.tr _ _ _ (k2' i h1 h2) (sx _ _ h4 h5)).sy
       by_cases k0:k > 0
       ·rw [O7 k0]
        by_cases e4:ib + 1 + k = Y.size
        ·rw [O7 e4]
         refine O9 (.inl ⟨(O.push (at' Y ib)) ++ Y.extract (ib + 1) (ib + 1 + k) ++ X.extract ia X.size ++ Y.extract (ib + 1 + k) Y.size,?_,j3.done1 (by lia) (by lia),sm⟩)
         simp
        ·rw [O8 e4]
         refine Pa (aO (by lia) ?_)
         have j4:=j3.one (by lia) fun i h1 h2=>k3' i h1 h2
         by_cases e5:ia + 1 + 1 = X.size
         ·rw [O7 e5]
          refine O9 (.inl ⟨(O.push (at' Y ib) ++ Y.extract (ib + 1) (ib + 1 + k)).push (at' X ia) ++ Y.extract (ib + 1 + k) Y.size ++ X.extract (ia + 1) X.size,?_,j4.last (by lia) (by lia) (fun i hi=>by have:=hl i hi;rwa [show X.size - 1 = ia + 1 by lia] at this),sm⟩)
          simp
         ·rw [O8 e5]
          have fin:∀ m c d,∃ O' ia' ib' m' c' d',((none,((O.map (kas_item it)).push (kas_item it (at' Y ib)) ++ (Y.map (kas_item it)).extract (ib + 1) (ib + 1 + k)).push (kas_item it (at' X ia)),ia + 1,ib + 1 + k,m,c,d):Option (Array Keyed) × Array Keyed × Nat × Nat × Nat × Nat × Nat) = (none,O'.map (kas_item it),ia',ib',m',c',d') /\ ia' + 1 < X.size /\ ib' < Y.size /\ aZ <= ia' + ib' /\ J le (X.toList ++ Y.toList) X Y O' ia' ib':=fun m c d=>⟨_,_,_,m,c,d,by rw [show (((O.map (kas_item it)).push (kas_item it (at' Y ib)) ++ (Y.map (kas_item it)).extract (ib + 1) (ib + 1 + k)).push (kas_item it (at' X ia))) = ((O.push (at' Y ib) ++ Y.extract (ib + 1) (ib + 1 + k)).push (at' X ia)).map (kas_item it) by simp],by lia,by lia,by lia,j4⟩
          refine bO ?_ ?_
          ·exact O9 (.inr ⟨sm,fin _ _ _⟩)
          ·exact O9 ⟨sm,fin _ _ _⟩
       ·rw [O8 k0]
        have k00:k = 0:=by lia
        subst k00
        have j3':J le (X.toList ++ Y.toList) X Y (O.push (at' Y ib)) ia (ib + 1):=j2
        refine Pa (aO (by lia) ?_)
        have j4:=j3'.one (by lia) fun i h1 h2=>k3' i (by lia) h2
        by_cases e5:ia + 1 + 1 = X.size
        ·rw [O7 e5]
         refine O9 (.inl ⟨(O.push (at' Y ib)).push (at' X ia) ++ Y.extract (ib + 1) Y.size ++ X.extract (ia + 1) X.size,?_,j4.last (by lia) (by lia) (fun i hi=>by have:=hl i hi;rwa [show X.size - 1 = ia + 1 by lia] at this),sm⟩)
         simp
        ·rw [O8 e5]
         have fin:∀ m c d,∃ O' ia' ib' m' c' d',((none,((O.map (kas_item it)).push (kas_item it (at' Y ib))).push (kas_item it (at' X ia)),ia + 1,ib + 1,m,c,d):Option (Array Keyed) × Array Keyed × Nat × Nat × Nat × Nat × Nat) = (none,O'.map (kas_item it),ia',ib',m',c',d') /\ ia' + 1 < X.size /\ ib' < Y.size /\ aZ <= ia' + ib' /\ J le (X.toList ++ Y.toList) X Y O' ia' ib':=fun m c d=>⟨_,_,_,m,c,d,by rw [show ((O.map (kas_item it)).push (kas_item it (at' Y ib))).push (kas_item it (at' X ia)) = ((O.push (at' Y ib)).push (at' X ia)).map (kas_item it) by simp],by lia,by lia,by lia,j4⟩
         refine bO ?_ ?_
         ·exact O9 (.inr ⟨sm,fin _ _ _⟩)
         ·exact O9 ⟨sm,fin _ _ _⟩
end
section
variable {X Y O:Array Nat} {le:Nat -> Nat -> Prop} {tot:List Nat} {na nb:Nat}
theorem DY {i:Nat} (h:i < X.size):X.toList.take (i + 1) = X.toList.take i ++ [at' X i]:=by
 rw [List.take_succ_eq_append_getElem (by simpa using h),kK h]
theorem mO {i j:Nat} (h:i <= j):X.toList.take j = X.toList.take i ++ (X.extract i j).toList:=by
 rw [Ro,Rp]
 have e:j = i + (j - i):=by lia
 conv=>lhs;rw [e,List.take_add]
theorem vH {i x:Nat} (h:x ∈ X.toList.take i):∃ j,j < i /\ j < X.size /\ at' X j = x:=by
 obtain ⟨k,hk⟩:=Qh h
 rw [RE] at hk
 split at hk
 ·obtain ⟨h1,h2⟩:=Pw.mp hk
  have h1':k < X.size:=by simpa using h1
  exact ⟨k,by lia,h1',by rw [<- kK h1'];exact h2⟩
 ·cases hk
abbrev JH (le:Nat -> Nat -> Prop) (tot:List Nat) (X Y O:Array Nat) (na nb:Nat):Prop:=Inv (fun a b=>le b a) tot O.toList (X.toList.take na).reverse (Y.toList.take nb).reverse
theorem JH.sy (j:JH le tot X Y O na nb):JH le tot Y X O nb na:=Inv.symm j
theorem JH.one (j:JH le tot X Y O na nb) (h:1 <= na) (h2:na <= X.size) (k:∀ i,i < nb -> le (at' Y i) (at' X (na - 1))):JH le tot X Y (O.push (at' X (na - 1))) (na - 1) nb:=by
 unfold JH at j ⊢
 obtain ⟨m,rfl⟩:∃ m,na = m + 1:=⟨na - 1,by lia⟩
 rw [DY (by lia),List.reverse_append] at j
 rw [Nat.add_sub_cancel] at k ⊢
 have:=Inv.block (xs:=[at' X m]) j (fun x hx y hy=>by
  rw [Pe] at hx
  subst hx
  obtain ⟨i,h1,h2,rfl⟩:=vH (RF.mp hy)
  exact k i h1)
 rwa [Q9]
theorem JH.blk {m:Nat} (j:JH le tot X Y O na nb) (h:m <= na) (h2:na <= X.size) (k:∀ i l,m <= i -> i < na -> l < nb -> le (at' Y l) (at' X i)):JH le tot X Y (O ++ (X.extract m na).reverse) m nb:=by
 unfold JH at j ⊢
 rw [mO h,List.reverse_append] at j
 have:=Inv.block j (fun x hx y hy=>by
  obtain ⟨i,h1,h2,h3,rfl⟩:=uw (RF.mp hx)
  obtain ⟨l,h4,h5,rfl⟩:=vH (RF.mp hy)
  exact k i l h1 h2 h4)
 rwa [QW,Array.toList_reverse]
theorem A5 {l r:List Nat} (h:l.Pairwise (fun a b=>le b a) /\ l.Perm tot) (e:l = r.reverse):r.Pairwise le /\ r.Perm tot:=by
 subst e
 exact ⟨RU.mp h.1,(List.reverse_perm _).symm.trans h.2⟩
theorem Jq (m:Nat):(X.extract 0 m).toList = X.toList.take m:=by rw [Ro,Rp];simp
theorem JH.done1 (j:JH le tot X Y O na nb) (h:nb = 0) (h2:na <= X.size):mh le tot (X.extract 0 na ++ Y.extract 0 nb ++ O.reverse):=by
 subst h
 refine A5 (l:=O.toList ++ (X.toList.take na).reverse) (Inv.doneA (by unfold JH at j;simpa using j)) ?_
 simp [Jq]
theorem JH.done2 (j:JH le tot X Y O na nb) (h:na = 0) (h2:nb <= Y.size):mh le tot (X.extract 0 na ++ Y.extract 0 nb ++ O.reverse):=by
 have:=j.sy.done1 h h2
 subst h
 simpa using this
theorem JH.first (j:JH le tot X Y O na nb) (h:nb = 1) (y1:1 <= Y.size) (h2:na <= X.size) (k:∀ i,i < X.size -> le (at' Y 0) (at' X i)):mh le tot (Y.extract 0 nb ++ X.extract 0 na ++ O.reverse):=by
 subst h
 have e:Y.toList.take 1 = [at' Y 0]:=by rw [DY (i:=0) (by lia)];simp
 have j2:Inv (fun a b=>le b a) tot O.toList [at' Y 0] (X.toList.take na).reverse:=by have:=j.sy;unfold JH at this;rw [e] at this;exact this
 refine A5 (j2.lastA fun y hy=>?_) ?_
 ·obtain ⟨i,h1,h2,rfl⟩:=vH (RF.mp hy)
  exact k i h2
 ·rw [QW,QW,Jq,Jq,e]
  simp
end
section
variable {prog:Program} {w:World} {A:Around} {E:Value -> Shared -> Prop} {s:Shared} {κ:SortKind} {it:Array Keyed} {n:Nat} {lt:Nat -> Nat -> Bool} {le:Nat -> Nat -> Prop}
theorem ED (o:Ord lt le) (hc:wZ prog w A s κ it n lt) {X Y:Array Nat} {Q:Array Keyed -> SortSt -> Prop} {st:SortSt} (hk:kindOf st = κ) (hx:∀ i,i < X.size -> at' X i < n) (hy:∀ i,i < Y.size -> at' Y i < n)
  (x1:1 <= X.size) (y1:1 <= Y.size) (sx:∀ i j,i <= j -> j < X.size -> le (at' X i) (at' X j)) (sy:∀ i j,i <= j -> j < Y.size -> le (at' Y i) (at' Y j)) (hf:∀ i,i < X.size -> le (at' Y 0) (at' X i)) (hl:∀ i,i < Y.size -> le (at' Y i) (at' X (X.size - 1)))
  (h:∀ R st',Same κ st st' -> mh le (X.toList ++ Y.toList) R -> Q (R.map (kas_item it)) st') :
  wpS (model prog w) A E s (FD (X.map (kas_item it)) (Y.map (kas_item it))) Q st:=by
 have sm0:Same κ st st:=⟨hk,rfl,rfl,rfl⟩
 have j0:JH le (X.toList ++ Y.toList) X Y #[] X.size Y.size:=by
  have ex:X.toList.take X.size = X.toList:=Rr (by simp)
  have ey:Y.toList.take Y.size = Y.toList:=Rr (by simp)
  unfold JH
  rw [ex,ey]
  exact ⟨by simpa using RU.mpr (Dq sx),by simpa using RU.mpr (Dq sy),by simpa using (List.reverse_perm X.toList).append (List.reverse_perm Y.toList)⟩
 have j1:JH le (X.toList ++ Y.toList) X Y #[at' X (X.size - 1)] (X.size - 1) Y.size:=j0.one x1 (Pf _) fun i h2=>hl i h2
 refine Pa (QI (Qx ⟨rfl,?_⟩))
 dsimp only
 simp only [Array.size_map,Qb]
 refine Pa (aO (X:=X) (by lia) ?_)
 by_cases e1:X.size - 1 = 0
 ·rw [O7 e1]
  refine O9 ?_
  have:=h _ st sm0 (j1.done2 e1 (by lia))
  simpa [exm] using this
 rw [O8 e1]
 by_cases e2:Y.size = 1
 ·rw [O7 e2]
  refine O9 ?_
  have:=h _ st sm0 (j1.first e2 (by lia) (by lia) hf)
  simpa [exm] using this
 rw [O8 e2]
 refine Pa (Qe ?_)
 refine Pa (PF (PH (I:=fun x c st2=>Same κ st st2 /\ ∃ O na nb g,c = (none,na,nb,O.map (kas_item it),g) /\ 1 <= na /\ 1 < nb /\ na < X.size /\ nb <= Y.size /\ na + nb + (x + 1) <= X.size + Y.size /\ JH le (X.toList ++ Y.toList) X Y O na nb)
  (Q:=fun c st2=>∃ R,c.1 = some (R.map (kas_item it)) /\ mh le (X.toList ++ Y.toList) R /\ Same κ st st2) ?s1 ?f1 ?i1) ?p1)
 case i1=>exact ⟨sm0,#[at' X (X.size - 1)],X.size - 1,Y.size,_,by simp;rfl,by lia,by lia,by lia,by lia,by lia,j1⟩
 case f1=>
  rintro c st2 ⟨sm,O,na,nb,g,rfl,la,lb,lx,ly,ls,j⟩
  lia
 case p1=>
  rintro ⟨c,c'⟩ st2 ⟨R,hc1,hR,sm⟩
  dsimp only at hc1
  subst hc1
  exact O9 (h R st2 sm hR)
 case s1=>
  rintro x c st2 _ hx0 ⟨sm,O,na,nb,g,rfl,la,lb,lx,ly,ls,j⟩
  dsimp only
  refine Pa (PF (PH (I:=fun y c st2=>Same κ st st2 /\ ∃ O na nb a b,c = (none,na,nb,O.map (kas_item it),a,b) /\ 1 <= na /\ 1 < nb /\ na < X.size /\ nb <= Y.size /\ na + nb + (x + 1 + y) <= X.size + Y.size /\ JH le (X.toList ++ Y.toList) X Y O na nb)
   (Q:=fun c st2=>(∃ R,c.1 = some (R.map (kas_item it)) /\ mh le (X.toList ++ Y.toList) R /\ Same κ st st2) \/ (Same κ st st2 /\ ∃ O na nb a b,c = (none,na,nb,O.map (kas_item it),a,b) /\ 1 <= na /\ 1 < nb /\ na < X.size /\ nb <= Y.size /\ na + nb + (x + 1 + 1) <= X.size + Y.size /\ JH le (X.toList ++ Y.toList) X Y O na nb)) ?s2 ?f2 ?i2) ?p2)
  case i2=>exact ⟨sm,O,na,nb,0,0,rfl,la,lb,lx,ly,ls,j⟩
  case f2=>
   rintro c st2 ⟨sm,O,na,nb,a,b,rfl,la,lb,lx,ly,ls,j⟩
   lia
  case s2=>
   clear la lb lx ly ls j sm
   rintro y c st2 _ hy0 ⟨sm,O,na,nb,a,b,rfl,la,lb,lx,ly,ls,j⟩
   dsimp only
   refine Pa (aO (by lia) ?_)
   refine Pa (aO (by lia) ?_)
   refine Pa (w_lt hc sm.1 (hy (nb - 1) (by lia)) (hx (na - 1) (by lia)) ?_)
   dsimp only
   cases cw:lt (at' Y (nb - 1)) (at' X (na - 1)) with
   | true=>
    rw [O7 rfl]
    have l0:=o.yes _ _ cw
    have j2:=j.one la (by lia) fun i h1=>o.tr _ _ _ (sy i (nb - 1) (by lia) (by lia)) l0
    refine Pa (aO (by lia) ?_)
    by_cases e3:na - 1 = 0
    ·rw [O7 e3]
     refine O9 (.inl ⟨X.extract 0 (na - 1) ++ Y.extract 0 nb ++ (O.push (at' X (na - 1))).reverse,?_,j2.done2 e3 (by lia),sm⟩)
     simp [Py]
    ·rw [O8 e3]
     refine bO ?_ ?_
     ·exact O9 (.inr ⟨sm,O.push (at' X (na - 1)),na - 1,nb,_,_,by rw [QJ],by lia,by lia,by lia,by lia,by lia,j2⟩)
     ·exact O9 ⟨sm,O.push (at' X (na - 1)),na - 1,nb,_,_,by rw [QJ],by lia,by lia,by lia,by lia,by lia,j2⟩
   | false=>
    rw [O8 (by decide)]
    have l0:=o.no _ _ cw
    have j2:JH le (X.toList ++ Y.toList) X Y (O.push (at' Y (nb - 1))) na (nb - 1):=(j.sy.one (by lia) (by lia) fun i h1=>o.tr _ _ _ (sx i (na - 1) (by lia) (by lia)) l0).sy
    refine Pa (aO (by lia) ?_)
    by_cases e3:nb - 1 = 1
    ·rw [O7 e3]
     refine O9 (.inl ⟨Y.extract 0 (nb - 1) ++ X.extract 0 na ++ (O.push (at' Y (nb - 1))).reverse,?_,j2.first e3 (by lia) (by lia) hf,sm⟩)
     simp [Py]
    ·rw [O8 e3]
     refine bO ?_ ?_
     ·exact O9 (.inr ⟨sm,O.push (at' Y (nb - 1)),na,nb - 1,_,_,by rw [QJ],by lia,by lia,by lia,by lia,by lia,j2⟩)
     ·exact O9 ⟨sm,O.push (at' Y (nb - 1)),na,nb - 1,_,_,by rw [QJ],by lia,by lia,by lia,by lia,by lia,j2⟩
  case p2=>
   clear la lb lx ly ls j sm
   rintro ⟨c,c'⟩ st2 (⟨R,hc1,hR,sm⟩ | ⟨sm,O,na,nb,a,b,hcc,la,lb,lx,ly,ls,j⟩)
   ·dsimp only at hc1
    subst hc1
    exact O9 ⟨R,rfl,hR,sm⟩
   cases hcc
   dsimp only
   refine Pa (QI (Qx ⟨rfl,?_⟩))
   have hst:∃ aZ,aZ = x + 1 + 1:=⟨_,rfl⟩
   obtain ⟨aZ,hst⟩:=hst
   rw [<- hst] at ls
   refine Pa (PF (PH (I:=fun y c st2=>Same κ st st2 /\ ∃ O na nb m a b,c = (none,na,nb,O.map (kas_item it),m,a,b) /\ 1 <= na /\ 1 < nb /\ na < X.size /\ nb <= Y.size /\ na + nb + aZ <= X.size + Y.size /\ JH le (X.toList ++ Y.toList) X Y O na nb)
    (Q:=fun c st2=>(∃ R,c.1 = some (R.map (kas_item it)) /\ mh le (X.toList ++ Y.toList) R /\ Same κ st st2) \/ (Same κ st st2 /\ ∃ O na nb m a b,c = (none,na,nb,O.map (kas_item it),m,a,b) /\ 1 <= na /\ 1 < nb /\ na < X.size /\ nb <= Y.size /\ na + nb + aZ <= X.size + Y.size /\ JH le (X.toList ++ Y.toList) X Y O na nb)) ?s3 ?f3 ?i3) ?p3)
   case i3=>exact ⟨sm,O,na,nb,_,_,_,rfl,la,lb,lx,ly,ls,j⟩
   case f3=>exact fun c st2 h=>.inr h
   case p3=>
    clear la lb lx ly ls j sm
    rintro ⟨c,c'⟩ st2 (⟨R,hc1,hR,sm⟩ | ⟨sm,O,na,nb,m,a,b,hcc,la,lb,lx,ly,ls,j⟩)
    ·dsimp only at hc1
     subst hc1
     exact O9 ⟨R,rfl,hR,sm⟩
    cases hcc
    dsimp only
    refine Pa (P5 (O9 ?_))
    exact ⟨sm.g _,O,na,nb,_,rfl,la,lb,lx,ly,by lia,j⟩
   case s3=>
    clear la lb lx ly ls j sm
    rintro y c st2 _ hy0 ⟨sm,O,na,nb,m,a,b,rfl,la,lb,lx,ly,ls,j⟩
    dsimp only
    by_cases hm:m > 1
    ·rw [O7 hm]
     refine Pa (P5 ?_)
     replace sm:=sm.g (m - 1)
     refine Pa (aO (by lia) ?_)
     refine Pa (cQ o hc sm.1 hx (hy (nb - 1) (by lia)) (by lia) (by lia) (fun i k h1 h2=>sx _ _ (by lia) (by lia)) fun k k1 k2 k3=>?_)
     dsimp only
     simp only [Qy] at k2 k3
     by_cases k0:na - k > 0
     ·rw [O7 k0]
      replace j:=j.blk (m:=k) (by lia) (by lia) fun i l h1 h2 h3=>o.tr _ _ _ (sy l (nb - 1) (by lia) (by lia)) (k3 i h1 h2)
      have eO:O.map (kas_item it) ++ ((X.map (kas_item it)).extract k na).reverse = (O ++ (X.extract k na).reverse).map (kas_item it):=by simp [Py]
      rw [eO]
      by_cases e1:k = 0
      ·rw [O7 e1]
       refine O9 (.inl ⟨X.extract 0 k ++ Y.extract 0 nb ++ (O ++ (X.extract k na).reverse).reverse,?_,j.done2 e1 (by lia),sm⟩)
       simp [Py]
      rw [O8 e1]
      have la2:1 <= k:=by lia
      have lx2:k < X.size:=by lia
      have ls2:k + nb + aZ <= X.size + Y.size:=by lia
      have ky:∀ i,i < k -> le (at' X i) (at' Y (nb - 1)):=k2
      clear k2 k3 eO e1
      generalize O ++ (X.extract k na).reverse = O at j ⊢
      generalize na - k = kk at k0 ⊢
      clear k0 k1 la lx ls
      have la:=la2
      have lx:=lx2
      have ls:=ls2
      clear la2 lx2 ls2
      obtain ⟨na,hna⟩:∃ na,na = k:=⟨k,rfl⟩
      subst hna
      refine Pa (aO (by lia) ?_)
      have j2:JH le (X.toList ++ Y.toList) X Y (O.push (at' Y (nb - 1))) na (nb - 1):=(j.sy.one (by lia) (by lia) fun i h1=>ky i h1).sy
      by_cases e3:nb - 1 = 1
      ·rw [O7 e3]
       refine O9 (.inl ⟨Y.extract 0 (nb - 1) ++ X.extract 0 na ++ (O.push (at' Y (nb - 1))).reverse,?_,j2.first e3 (by lia) (by lia) hf,sm⟩)
       simp [Py]
      ·rw [O8 e3]
       refine Pa (aO (by lia) ?_)
       refine Pa (cQ o hc sm.1 hy (hx (na - 1) (by lia)) (by lia) (by lia) (fun i k h1 h2=>sy _ _ (by lia) (by lia)) fun k k1 k2 k3=>?_)
       dsimp only
       simp only [Qy] at k2 k3
       have j3:JH le (X.toList ++ Y.toList) X Y (O.push (at' Y (nb - 1)) ++ (Y.extract k (nb - 1)).reverse) na k:=(j2.sy.blk (by lia) (by lia) fun i l h1 h2 h3=>o.tr _ _ _ (sx l (na - 1) (by lia) (by lia)) (k3 i h1 h2)).sy
       by_cases k0:nb - 1 - k > 0
       ·rw [O7 k0]
        by_cases e4:k = 1
        ·rw [O7 e4]
         refine O9 (.inl ⟨Y.extract 0 k ++ X.extract 0 na ++ (O.push (at' Y (nb - 1)) ++ (Y.extract k (nb - 1)).reverse).reverse,?_,j3.first e4 (by lia) (by lia) hf,sm⟩)
         simp [Py]
        rw [O8 e4]
        by_cases e5:k = 0
        ·rw [O7 e5]
         refine O9 (.inl ⟨X.extract 0 na ++ Y.extract 0 k ++ (O.push (at' Y (nb - 1)) ++ (Y.extract k (nb - 1)).reverse).reverse,?_,j3.done1 e5 (by lia),sm⟩)
         simp [Py]
        rw [O8 e5]
        refine Pa (aO (by lia) ?_)
        have j4:=j3.one (by lia) (by lia) fun i h1=>k2 i h1
        have eO:((O.map (kas_item it)).push (kas_item it (at' Y (nb - 1))) ++ ((Y.map (kas_item it)).extract k (nb - 1)).reverse).push (kas_item it (at' X (na - 1))) = ((O.push (at' Y (nb - 1)) ++ (Y.extract k (nb - 1)).reverse).push (at' X (na - 1))).map (kas_item it):=by simp [Py]
        by_cases e6:na - 1 = 0
        ·rw [O7 e6]
         refine O9 (.inl ⟨X.extract 0 (na - 1) ++ Y.extract 0 k ++ ((O.push (at' Y (nb - 1)) ++ (Y.extract k (nb - 1)).reverse).push (at' X (na - 1))).reverse,?_,j4.done2 e6 (by lia),sm⟩)
         simp [Py]
        ·rw [O8 e6]
         have fin:∀ m c d,∃ O' na' nb' m' c' d',((none,na - 1,k,((O.map (kas_item it)).push (kas_item it (at' Y (nb - 1))) ++ ((Y.map (kas_item it)).extract k (nb - 1)).reverse).push (kas_item it (at' X (na - 1))),m,c,d):Option (Array Keyed) × Nat × Nat × Array Keyed × Nat × Nat × Nat) = (none,na',nb',O'.map (kas_item it),m',c',d') /\ 1 <= na' /\ 1 < nb' /\ na' < X.size /\ nb' <= Y.size /\ na' + nb' + aZ <= X.size + Y.size /\ JH le (X.toList ++ Y.toList) X Y O' na' nb':=fun m c d=>⟨_,_,_,m,c,d,by rw [eO],by lia,by lia,by lia,by lia,by lia,j4⟩
         refine bO ?_ ?_
         ·exact O9 (.inr ⟨sm,fin _ _ _⟩)
         ·exact O9 ⟨sm,fin _ _ _⟩
       ·rw [O8 k0]
        have k00:k = nb - 1:=by lia
        subst k00
        refine Pa (aO (by lia) ?_)
        have j4:=j2.one (by lia) (by lia) fun i h1=>k2 i h1
        have eO:((O.map (kas_item it)).push (kas_item it (at' Y (nb - 1)))).push (kas_item it (at' X (na - 1))) = ((O.push (at' Y (nb - 1))).push (at' X (na - 1))).map (kas_item it):=by simp
        by_cases e6:na - 1 = 0
        ·rw [O7 e6]
         refine O9 (.inl ⟨X.extract 0 (na - 1) ++ Y.extract 0 (nb - 1) ++ ((O.push (at' Y (nb - 1))).push (at' X (na - 1))).reverse,?_,j4.done2 e6 (by lia),sm⟩)
         simp [Py]
        ·rw [O8 e6]
         have fin:∀ m c d,∃ O' na' nb' m' c' d',((none,na - 1,nb - 1,((O.map (kas_item it)).push (kas_item it (at' Y (nb - 1)))).push (kas_item it (at' X (na - 1))),m,c,d):Option (Array Keyed) × Nat × Nat × Array Keyed × Nat × Nat × Nat) = (none,na',nb',O'.map (kas_item it),m',c',d') /\ 1 <= na' /\ 1 < nb' /\ na' < X.size /\ nb' <= Y.size /\ na' + nb' + aZ <= X.size + Y.size /\ JH le (X.toList ++ Y.toList) X Y O' na' nb':=fun m c d=>⟨_,_,_,m,c,d,by rw [eO],by lia,by lia,by lia,by lia,by lia,j4⟩
         refine bO ?_ ?_
         ·exact O9 (.inr ⟨sm,fin _ _ _⟩)
         ·exact O9 ⟨sm,fin _ _ _⟩
     ·rw [O8 k0]
      have k00:na = k:=by lia
      subst k00
      have ky:∀ i,i < na -> le (at' X i) (at' Y (nb - 1)):=k2
      refine Pa (aO (by lia) ?_)
      have j2:JH le (X.toList ++ Y.toList) X Y (O.push (at' Y (nb - 1))) na (nb - 1):=(j.sy.one (by lia) (by lia) fun i h1=>ky i h1).sy
      by_cases e3:nb - 1 = 1
      ·rw [O7 e3]
       refine O9 (.inl ⟨Y.extract 0 (nb - 1) ++ X.extract 0 na ++ (O.push (at' Y (nb - 1))).reverse,?_,j2.first e3 (by lia) (by lia) hf,sm⟩)
       simp [Py]
      ·rw [O8 e3]
       refine Pa (aO (by lia) ?_)
       refine Pa (cQ o hc sm.1 hy (hx (na - 1) (by lia)) (by lia) (by lia) (fun i k h1 h2=>sy _ _ (by lia) (by lia)) fun k k1 k2 k3=>?_)
       dsimp only
       simp only [Qy] at k2 k3
       have j3:JH le (X.toList ++ Y.toList) X Y (O.push (at' Y (nb - 1)) ++ (Y.extract k (nb - 1)).reverse) na k:=(j2.sy.blk (by lia) (by lia) fun i l h1 h2 h3=>o.tr _ _ _ (sx l (na - 1) (by lia) (by lia)) (k3 i h1 h2)).sy
       by_cases k0:nb - 1 - k > 0
       ·rw [O7 k0]
        by_cases e4:k = 1
        ·rw [O7 e4]
         refine O9 (.inl ⟨Y.extract 0 k ++ X.extract 0 na ++ (O.push (at' Y (nb - 1)) ++ (Y.extract k (nb - 1)).reverse).reverse,?_,j3.first e4 (by lia) (by lia) hf,sm⟩)
         simp [Py]
        rw [O8 e4]
        by_cases e5:k = 0
        ·rw [O7 e5]
         refine O9 (.inl ⟨X.extract 0 na ++ Y.extract 0 k ++ (O.push (at' Y (nb - 1)) ++ (Y.extract k (nb - 1)).reverse).reverse,?_,j3.done1 e5 (by lia),sm⟩)
         simp [Py]
        rw [O8 e5]
        refine Pa (aO (by lia) ?_)
        have j4:=j3.one (by lia) (by lia) fun i h1=>k2 i h1
        have eO:((O.map (kas_item it)).push (kas_item it (at' Y (nb - 1))) ++ ((Y.map (kas_item it)).extract k (nb - 1)).reverse).push (kas_item it (at' X (na - 1))) = ((O.push (at' Y (nb - 1)) ++ (Y.extract k (nb - 1)).reverse).push (at' X (na - 1))).map (kas_item it):=by simp [Py]
        by_cases e6:na - 1 = 0
        ·rw [O7 e6]
         refine O9 (.inl ⟨X.extract 0 (na - 1) ++ Y.extract 0 k ++ ((O.push (at' Y (nb - 1)) ++ (Y.extract k (nb - 1)).reverse).push (at' X (na - 1))).reverse,?_,j4.done2 e6 (by lia),sm⟩)
         simp [Py]
        ·rw [O8 e6]
         have fin:∀ m c d,∃ O' na' nb' m' c' d',((none,na - 1,k,((O.map (kas_item it)).push (kas_item it (at' Y (nb - 1))) ++ ((Y.map (kas_item it)).extract k (nb - 1)).reverse).push (kas_item it (at' X (na - 1))),m,c,d):Option (Array Keyed) × Nat × Nat × Array Keyed × Nat × Nat × Nat) = (none,na',nb',O'.map (kas_item it),m',c',d') /\ 1 <= na' /\ 1 < nb' /\ na' < X.size /\ nb' <= Y.size /\ na' + nb' + aZ <= X.size + Y.size /\ JH le (X.toList ++ Y.toList) X Y O' na' nb':=fun m c d=>⟨_,_,_,m,c,d,by rw [eO],by lia,by lia,by lia,by lia,by lia,j4⟩
         refine bO ?_ ?_
         ·exact O9 (.inr ⟨sm,fin _ _ _⟩)
         ·exact O9 ⟨sm,fin _ _ _⟩
       ·rw [O8 k0]
        have k00:k = nb - 1:=by lia
        subst k00
        refine Pa (aO (by lia) ?_)
        have j4:=j2.one (by lia) (by lia) fun i h1=>k2 i h1
        have eO:((O.map (kas_item it)).push (kas_item it (at' Y (nb - 1)))).push (kas_item it (at' X (na - 1))) = ((O.push (at' Y (nb - 1))).push (at' X (na - 1))).map (kas_item it):=by simp
        by_cases e6:na - 1 = 0
        ·rw [O7 e6]
         refine O9 (.inl ⟨X.extract 0 (na - 1) ++ Y.extract 0 (nb - 1) ++ ((O.push (at' Y (nb - 1))).push (at' X (na - 1))).reverse,?_,j4.done2 e6 (by lia),sm⟩)
         simp [Py]
        ·rw [O8 e6]
         have fin:∀ m c d,∃ O' na' nb' m' c' d',((none,na - 1,nb - 1,((O.map (kas_item it)).push (kas_item it (at' Y (nb - 1)))).push (kas_item it (at' X (na - 1))),m,c,d):Option (Array Keyed) × Nat × Nat × Array Keyed × Nat × Nat × Nat) = (none,na',nb',O'.map (kas_item it),m',c',d') /\ 1 <= na' /\ 1 < nb' /\ na' < X.size /\ nb' <= Y.size /\ na' + nb' + aZ <= X.size + Y.size /\ JH le (X.toList ++ Y.toList) X Y O' na' nb':=fun m c d=>⟨_,_,_,m,c,d,by rw [eO],by lia,by lia,by lia,by lia,by lia,j4⟩
         refine bO ?_ ?_
         ·exact O9 (.inr ⟨sm,fin _ _ _⟩)
         ·exact O9 ⟨sm,fin _ _ _⟩
    ·rw [O8 hm]
     refine Pa (P5 ?_)
     replace sm:=sm.g (m)
     refine Pa (aO (by lia) ?_)
     refine Pa (cQ o hc sm.1 hx (hy (nb - 1) (by lia)) (by lia) (by lia) (fun i k h1 h2=>sx _ _ (by lia) (by lia)) fun k k1 k2 k3=>?_)
     dsimp only
     simp only [Qy] at k2 k3
     by_cases k0:na - k > 0
     ·rw [O7 k0]
      replace j:=j.blk (m:=k) (by lia) (by lia) fun i l h1 h2 h3=>o.tr _ _ _ (sy l (nb - 1) (by lia) (by lia)) (k3 i h1 h2)
      have eO:O.map (kas_item it) ++ ((X.map (kas_item it)).extract k na).reverse = (O ++ (X.extract k na).reverse).map (kas_item it):=by simp [Py]
      rw [eO]
      by_cases e1:k = 0
      ·rw [O7 e1]
       refine O9 (.inl ⟨X.extract 0 k ++ Y.extract 0 nb ++ (O ++ (X.extract k na).reverse).reverse,?_,j.done2 e1 (by lia),sm⟩)
       simp [Py]
      rw [O8 e1]
      have la2:1 <= k:=by lia
      have lx2:k < X.size:=by lia
      have ls2:k + nb + aZ <= X.size + Y.size:=by lia
      have ky:∀ i,i < k -> le (at' X i) (at' Y (nb - 1)):=k2
      clear k2 k3 eO e1
      generalize O ++ (X.extract k na).reverse = O at j ⊢
      generalize na - k = kk at k0 ⊢
      clear k0 k1 la lx ls
      have la:=la2
      have lx:=lx2
      have ls:=ls2
      clear la2 lx2 ls2
      obtain ⟨na,hna⟩:∃ na,na = k:=⟨k,rfl⟩
      subst hna
      refine Pa (aO (by lia) ?_)
      have j2:JH le (X.toList ++ Y.toList) X Y (O.push (at' Y (nb - 1))) na (nb - 1):=(j.sy.one (by lia) (by lia) fun i h1=>ky i h1).sy
      by_cases e3:nb - 1 = 1
      ·rw [O7 e3]
       refine O9 (.inl ⟨Y.extract 0 (nb - 1) ++ X.extract 0 na ++ (O.push (at' Y (nb - 1))).reverse,?_,j2.first e3 (by lia) (by lia) hf,sm⟩)
       simp [Py]
      ·rw [O8 e3]
       refine Pa (aO (by lia) ?_)
       refine Pa (cQ o hc sm.1 hy (hx (na - 1) (by lia)) (by lia) (by lia) (fun i k h1 h2=>sy _ _ (by lia) (by lia)) fun k k1 k2 k3=>?_)
       dsimp only
       simp only [Qy] at k2 k3
       have j3:JH le (X.toList ++ Y.toList) X Y (O.push (at' Y (nb - 1)) ++ (Y.extract k (nb - 1)).reverse) na k:=(j2.sy.blk (by lia) (by lia) fun i l h1 h2 h3=>o.tr _ _ _ (sx l (na - 1) (by lia) (by lia)) (k3 i h1 h2)).sy
       by_cases k0:nb - 1 - k > 0
       ·rw [O7 k0]
        by_cases e4:k = 1
        ·rw [O7 e4]
         refine O9 (.inl ⟨Y.extract 0 k ++ X.extract 0 na ++ (O.push (at' Y (nb - 1)) ++ (Y.extract k (nb - 1)).reverse).reverse,?_,j3.first e4 (by lia) (by lia) hf,sm⟩)
         simp [Py]
        rw [O8 e4]
        by_cases e5:k = 0
        ·rw [O7 e5]
         refine O9 (.inl ⟨X.extract 0 na ++ Y.extract 0 k ++ (O.push (at' Y (nb - 1)) ++ (Y.extract k (nb - 1)).reverse).reverse,?_,j3.done1 e5 (by lia),sm⟩)
         simp [Py]
        rw [O8 e5]
        refine Pa (aO (by lia) ?_)
        have j4:=j3.one (by lia) (by lia) fun i h1=>k2 i h1
        have eO:((O.map (kas_item it)).push (kas_item it (at' Y (nb - 1))) ++ ((Y.map (kas_item it)).extract k (nb - 1)).reverse).push (kas_item it (at' X (na - 1))) = ((O.push (at' Y (nb - 1)) ++ (Y.extract k (nb - 1)).reverse).push (at' X (na - 1))).map (kas_item it):=by simp [Py]
        by_cases e6:na - 1 = 0
        ·rw [O7 e6]
         refine O9 (.inl ⟨X.extract 0 (na - 1) ++ Y.extract 0 k ++ ((O.push (at' Y (nb - 1)) ++ (Y.extract k (nb - 1)).reverse).push (at' X (na - 1))).reverse,?_,j4.done2 e6 (by lia),sm⟩)
         simp [Py]
        ·rw [O8 e6]
         have fin:∀ m c d,∃ O' na' nb' m' c' d',((none,na - 1,k,((O.map (kas_item it)).push (kas_item it (at' Y (nb - 1))) ++ ((Y.map (kas_item it)).extract k (nb - 1)).reverse).push (kas_item it (at' X (na - 1))),m,c,d):Option (Array Keyed) × Nat × Nat × Array Keyed × Nat × Nat × Nat) = (none,na',nb',O'.map (kas_item it),m',c',d') /\ 1 <= na' /\ 1 < nb' /\ na' < X.size /\ nb' <= Y.size /\ na' + nb' + aZ <= X.size + Y.size /\ JH le (X.toList ++ Y.toList) X Y O' na' nb':=fun m c d=>⟨_,_,_,m,c,d,by rw [eO],by lia,by lia,by lia,by lia,by lia,j4⟩
         refine bO ?_ ?_
         ·exact O9 (.inr ⟨sm,fin _ _ _⟩)
         ·exact O9 ⟨sm,fin _ _ _⟩
       ·rw [O8 k0]
        have k00:k = nb - 1:=by lia
        subst k00
        refine Pa (aO (by lia) ?_)
        have j4:=j2.one (by lia) (by lia) fun i h1=>k2 i h1
        have eO:((O.map (kas_item it)).push (kas_item it (at' Y (nb - 1)))).push (kas_item it (at' X (na - 1))) = ((O.push (at' Y (nb - 1))).push (at' X (na - 1))).map (kas_item it):=by simp
        by_cases e6:na - 1 = 0
        ·rw [O7 e6]
         refine O9 (.inl ⟨X.extract 0 (na - 1) ++ Y.extract 0 (nb - 1) ++ ((O.push (at' Y (nb - 1))).push (at' X (na - 1))).reverse,?_,j4.done2 e6 (by lia),sm⟩)
         simp [Py]
        ·rw [O8 e6]
         have fin:∀ m c d,∃ O' na' nb' m' c' d',((none,na - 1,nb - 1,((O.map (kas_item it)).push (kas_item it (at' Y (nb - 1)))).push (kas_item it (at' X (na - 1))),m,c,d):Option (Array Keyed) × Nat × Nat × Array Keyed × Nat × Nat × Nat) = (none,na',nb',O'.map (kas_item it),m',c',d') /\ 1 <= na' /\ 1 < nb' /\ na' < X.size /\ nb' <= Y.size /\ na' + nb' + aZ <= X.size + Y.size /\ JH le (X.toList ++ Y.toList) X Y O' na' nb':=fun m c d=>⟨_,_,_,m,c,d,by rw [eO],by lia,by lia,by lia,by lia,by lia,j4⟩
         refine bO ?_ ?_
         ·exact O9 (.inr ⟨sm,fin _ _ _⟩)
         ·exact O9 ⟨sm,fin _ _ _⟩
     ·rw [O8 k0]
      have k00:na = k:=by lia
      subst k00
      have ky:∀ i,i < na -> le (at' X i) (at' Y (nb - 1)):=k2
      refine Pa (aO (by lia) ?_)
      have j2:JH le (X.toList ++ Y.toList) X Y (O.push (at' Y (nb - 1))) na (nb - 1):=(j.sy.one (by lia) (by lia) fun i h1=>ky i h1).sy
      by_cases e3:nb - 1 = 1
      ·rw [O7 e3]
       refine O9 (.inl ⟨Y.extract 0 (nb - 1) ++ X.extract 0 na ++ (O.push (at' Y (nb - 1))).reverse,?_,j2.first e3 (by lia) (by lia) hf,sm⟩)
       simp [Py]
      ·rw [O8 e3]
       refine Pa (aO (by lia) ?_)
       refine Pa (cQ o hc sm.1 hy (hx (na - 1) (by lia)) (by lia) (by lia) (fun i k h1 h2=>sy _ _ (by lia) (by lia)) fun k k1 k2 k3=>?_)
       dsimp only
       simp only [Qy] at k2 k3
       have j3:JH le (X.toList ++ Y.toList) X Y (O.push (at' Y (nb - 1)) ++ (Y.extract k (nb - 1)).reverse) na k:=(j2.sy.blk (by lia) (by lia) fun i l h1 h2 h3=>o.tr _ _ _ (sx l (na - 1) (by lia) (by lia)) (k3 i h1 h2)).sy
       by_cases k0:nb - 1 - k > 0
       ·rw [O7 k0]
        by_cases e4:k = 1
        ·rw [O7 e4]
         refine O9 (.inl ⟨Y.extract 0 k ++ X.extract 0 na ++ (O.push (at' Y (nb - 1)) ++ (Y.extract k (nb - 1)).reverse).reverse,?_,j3.first e4 (by lia) (by lia) hf,sm⟩)
         simp [Py]
        rw [O8 e4]
        by_cases e5:k = 0
        ·rw [O7 e5]
         refine O9 (.inl ⟨X.extract 0 na ++ Y.extract 0 k ++ (O.push (at' Y (nb - 1)) ++ (Y.extract k (nb - 1)).reverse).reverse,?_,j3.done1 e5 (by lia),sm⟩)
         simp [Py]
        rw [O8 e5]
        refine Pa (aO (by lia) ?_)
        have j4:=j3.one (by lia) (by lia) fun i h1=>k2 i h1
        have eO:((O.map (kas_item it)).push (kas_item it (at' Y (nb - 1))) ++ ((Y.map (kas_item it)).extract k (nb - 1)).reverse).push (kas_item it (at' X (na - 1))) = ((O.push (at' Y (nb - 1)) ++ (Y.extract k (nb - 1)).reverse).push (at' X (na - 1))).map (kas_item it):=by simp [Py]
        by_cases e6:na - 1 = 0
        ·rw [O7 e6]
         refine O9 (.inl ⟨X.extract 0 (na - 1) ++ Y.extract 0 k ++ ((O.push (at' Y (nb - 1)) ++ (Y.extract k (nb - 1)).reverse).push (at' X (na - 1))).reverse,?_,j4.done2 e6 (by lia),sm⟩)
         simp [Py]
        ·rw [O8 e6]
         have fin:∀ m c d,∃ O' na' nb' m' c' d',((none,na - 1,k,((O.map (kas_item it)).push (kas_item it (at' Y (nb - 1))) ++ ((Y.map (kas_item it)).extract k (nb - 1)).reverse).push (kas_item it (at' X (na - 1))),m,c,d):Option (Array Keyed) × Nat × Nat × Array Keyed × Nat × Nat × Nat) = (none,na',nb',O'.map (kas_item it),m',c',d') /\ 1 <= na' /\ 1 < nb' /\ na' < X.size /\ nb' <= Y.size /\ na' + nb' + aZ <= X.size + Y.size /\ JH le (X.toList ++ Y.toList) X Y O' na' nb':=fun m c d=>⟨_,_,_,m,c,d,by rw [eO],by lia,by lia,by lia,by lia,by lia,j4⟩
         refine bO ?_ ?_
         ·exact O9 (.inr ⟨sm,fin _ _ _⟩)
         ·exact O9 ⟨sm,fin _ _ _⟩
       ·rw [O8 k0]
        have k00:k = nb - 1:=by lia
        subst k00
        refine Pa (aO (by lia) ?_)
        have j4:=j2.one (by lia) (by lia) fun i h1=>k2 i h1
        have eO:((O.map (kas_item it)).push (kas_item it (at' Y (nb - 1)))).push (kas_item it (at' X (na - 1))) = ((O.push (at' Y (nb - 1))).push (at' X (na - 1))).map (kas_item it):=by simp
        by_cases e6:na - 1 = 0
        ·rw [O7 e6]
         refine O9 (.inl ⟨X.extract 0 (na - 1) ++ Y.extract 0 (nb - 1) ++ ((O.push (at' Y (nb - 1))).push (at' X (na - 1))).reverse,?_,j4.done2 e6 (by lia),sm⟩)
         simp [Py]
        ·rw [O8 e6]
         have fin:∀ m c d,∃ O' na' nb' m' c' d',((none,na - 1,nb - 1,((O.map (kas_item it)).push (kas_item it (at' Y (nb - 1)))).push (kas_item it (at' X (na - 1))),m,c,d):Option (Array Keyed) × Nat × Nat × Array Keyed × Nat × Nat × Nat) = (none,na',nb',O'.map (kas_item it),m',c',d') /\ 1 <= na' /\ 1 < nb' /\ na' < X.size /\ nb' <= Y.size /\ na' + nb' + aZ <= X.size + Y.size /\ JH le (X.toList ++ Y.toList) X Y O' na' nb':=fun m c d=>⟨_,_,_,m,c,d,by rw [eO],by lia,by lia,by lia,by lia,by lia,j4⟩
         refine bO ?_ ?_
         ·exact O9 (.inr ⟨sm,fin _ _ _⟩)
         ·exact O9 ⟨sm,fin _ _ _⟩
end
section
variable {α:Type}
theorem Fx (lo:Nat):∀ (R:List α) (p:Array α) (j:Nat),lo + j + R.length <= p.size -> ((R.zipIdx j).foldl (fun a x=>a.setIfInBounds (lo + x.2) x.1) p).toList = p.toList.take (lo + j) ++ R ++ p.toList.drop (lo + j + R.length)
 | [],p,j,_=>by simp
 | r :: R,p,j,h=>by
  have hl:lo + j < p.toList.length:=by simp at h ⊢;lia
  rw [List.zipIdx_cons,List.foldl_cons,Fx lo R _ (j + 1) (by simp at h ⊢;lia)]
  have e1:(p.setIfInBounds (lo + j) r).toList = p.toList.set (lo + j) r:=by simp
  have e2:(p.toList.set (lo + j) r).take (lo + (j + 1)) = p.toList.take (lo + j) ++ [r]:=by
   rw [<- Nat.add_assoc,List.take_succ_eq_append_getElem (by simpa using hl),List.take_set_of_le (Pf _)]
   simp
  have e3:(p.toList.set (lo + j) r).drop (lo + (j + 1) + R.length) = p.toList.drop (lo + j + (r :: R).length):=by
   rw [List.drop_set_of_lt (by lia),Pr]
   congr 1;lia
  rw [e1,e2,e3]
  simp
end
section
variable {prog:Program} {w:World} {A:Around} {E:Value -> Shared -> Prop} {s:Shared} {κ:SortKind} {it:Array Keyed} {n:Nat} {lt:Nat -> Nat -> Bool} {le:Nat -> Nat -> Prop}
def Stt (κ:SortKind) (it:Array Keyed) (st:SortSt) (p:Array Nat) (pend:Array (Nat × Nat × Nat)):Prop:=kindOf st = κ /\ arrOf st = p.map (kas_item it) /\ pendingOf st = pend /\ failedOf st = none
structure Srtd (le:Nat -> Nat -> Prop) (p p':Array Nat) (lo hi:Nat):Prop where
 perm:p'.Perm p
 out:∀ k,k < lo \/ hi <= k -> at' p' k = at' p k
 asc:∀ i j,lo <= i -> i <= j -> j < hi -> le (at' p' i) (at' p' j)
theorem Ho {σ:Type} {M:Model} {x:σ} {Q:PUnit -> σ -> Prop} {st:σ} (h:Q ⟨⟩ x):wpS M A E s (set x:StateT σ Sem PUnit) Q st:=by
 unfold wpS
 rw [StateT.run_set]
 exact Pj ⟨rfl,h⟩
theorem Na (l:List Nat) (k:Nat):at' l.toArray k = (l[k]?).getD 0:=by simp [at']
theorem KT (p:Array Nat) (k:Nat):at' p k = (p.toList[k]?).getD 0:=by simp [at']
theorem CJ {p:Array Nat} {R:List Nat} {lo:Nat} (h:lo + R.length <= p.size) (k:Nat):at' (p.toList.take lo ++ R ++ p.toList.drop (lo + R.length)).toArray k = if lo <= k /\ k < lo + R.length then (R[k - lo]?).getD 0 else at' p k:=by
 rw [Na,KT]
 have hl:(p.toList.take lo).length = lo:=by rw [Q6];simp;lia
 by_cases h1:k < lo
 ·rw [O8 (by lia),PQ,Rg (by lia),RE,O7 h1]
 ·by_cases h2:k < lo + R.length
  ·rw [O7 ⟨by lia,h2⟩,PQ,QU (by lia),hl,Rg (by lia)]
  ·rw [O8 (by lia),QU (by rw [Ph,hl];lia),Ph,hl,Rq]
   congr 2;lia
theorem Gz {p:Array Nat} {R:List Nat} {lo:Nat} (h:R.Perm (p.extract lo (lo + R.length)).toList):(p.toList.take lo ++ R ++ p.toList.drop (lo + R.length)).toArray.Perm p:=by
 rw [Rj]
 show (p.toList.take lo ++ R ++ p.toList.drop (lo + R.length)).Perm p.toList
 refine ((h.append_left _).append_right _).trans ?_
 rw [<- mO (by lia),RT]
theorem GU {p:Array Nat} {i j k:Nat} (h:i + k < j):at' (p.extract i j) k = at' p (i + k):=by
 rw [KT,KT,Ro,Rp,RE,O7 (by lia),Rq]
theorem Br {p:Array Nat} {i j:Nat} (h:j <= p.size):(p.extract i j).size = j - i:=by simp;lia
theorem Fd (o:Ord lt le) (hc:wZ prog w A s κ it n lt) {i sa na pw sb nb q:Nat} {p:Array Nat} {pend:Array (Nat × Nat × Nat)} {Q:Bool -> SortSt -> Prop} {st:SortSt} (S:Stt κ it st p pend) (h1:pend[i]? = some (sa,na,pw)) (h2:pend[i + 1]? = some (sb,nb,q))
  (hsb:sb = sa + na) (na1:1 <= na) (nb1:1 <= nb) (hz:sb + nb <= p.size) (hp:∀ i,i < p.size -> at' p i < n) (sA:∀ i j,i <= j -> j < na -> le (at' p (sa + i)) (at' p (sa + j))) (sB:∀ i j,i <= j -> j < nb -> le (at' p (sb + i)) (at' p (sb + j)))
  (h:∀ p' st',Stt κ it st' p' ((pend.setIfInBounds i (sa,na + nb,pw)).eraseIdxIfInBounds (i + 1)) -> Srtd le p p' sa (sa + (na + nb)) -> Q true st'):wpS (model prog w) A E s (mergeAt' i) Q st:=by
 obtain ⟨S1,S2,S3,S4⟩:=S
 refine Pa (Qe ?_)
 have S3':(sortPriv% PySem.Builtin.SortState.pending) st = pend:=S3
 have S2':(sortPriv% PySem.Builtin.SortState.a) st = p.map (kas_item it):=S2
 rw [S3',h1,h2]
 refine Pa (Ho ?_)
 rw [S2']
 generalize hst:(sortPriv% PySem.Builtin.SortState.mk) _ _ _ _ _ = st2
 have T:Stt κ it st2 p ((pend.setIfInBounds i (sa,na + nb,pw)).eraseIdxIfInBounds (i + 1)):=by subst hst;exact ⟨S1,rfl,rfl,S4⟩
 clear hst S1 S2 S3 S4 S2' S3' h1 h2
 generalize ((pend.setIfInBounds i (sa,na + nb,pw)).eraseIdxIfInBounds (i + 1)) = pend2 at T h
 have sA':∀ i j,sa <= i -> i <= j -> j < sb -> le (at' p i) (at' p j):=fun i j a1 a2 a3=>by
  have:=sA (i - sa) (j - sa) (by lia) (by lia)
  rwa [show sa + (i - sa) = i by lia,show sa + (j - sa) = j by lia] at this
 have sB':∀ i j,sb <= i -> i <= j -> j < sb + nb -> le (at' p i) (at' p j):=fun i j a1 a2 a3=>by
  have:=sB (i - sb) (j - sb) (by lia) (by lia)
  rwa [show sb + (i - sb) = i by lia,show sb + (j - sb) = j by lia] at this
 refine Pa (aO (by lia) ?_)
 refine Pa (cQ o hc T.1 hp (hp sb (by lia)) (by lia) (by lia) sA fun k k1 k2 k3=>?_)
 have k2':∀ i,sa <= i -> i < sa + k -> le (at' p i) (at' p sb):=fun i a1 a2=>by
  have:=k2 (i - sa) (by lia)
  rwa [show sa + (i - sa) = i by lia] at this
 have k3':∀ i,sa + k <= i -> i < sb -> le (at' p sb) (at' p i):=fun i a1 a2=>by
  have:=k3 (i - sa) (by lia) (by lia)
  rwa [show sa + (i - sa) = i by lia] at this
 clear k2 k3
 dsimp only
 simp only [Qb]
 by_cases e1:na - k = 0
 ·rw [O7 e1]
  refine O9 (h p st2 T ⟨.refl _,fun _ _=>rfl,fun i j a1 a2 a3=>?_⟩)
  by_cases b1:j < sb
  ·exact sA' i j a1 a2 b1
  ·by_cases b2:sb <= i
   ·exact sB' i j b2 a2 (by lia)
   ·exact o.tr _ _ _ (k2' i a1 (by lia)) (sB' sb j (Pf _) (by lia) (by lia))
 rw [O8 e1]
 refine Pa (aO (by lia) ?_)
 have e2:sa + k + (na - k) - 1 = sb - 1:=by lia
 rw [e2]
 refine Pa (cQ o hc T.1 hp (hp (sb - 1) (by lia)) (by lia) (by lia) sB fun m m1 k2 k3=>?_)
 have m2':∀ i,sb <= i -> i < sb + m -> le (at' p i) (at' p (sb - 1)):=fun i a1 a2=>by
  have:=k2 (i - sb) (by lia)
  rwa [show sb + (i - sb) = i by lia] at this
 have m3':∀ i,sb + m <= i -> i < sb + nb -> le (at' p (sb - 1)) (at' p i):=fun i a1 a2=>by
  have:=k3 (i - sb) (by lia) (by lia)
  rwa [show sb + (i - sb) = i by lia] at this
 clear k2 k3
 dsimp only
 by_cases e3:m = 0
 ·rw [O7 e3]
  subst e3
  refine O9 (h p st2 T ⟨.refl _,fun _ _=>rfl,fun i j a1 a2 a3=>?_⟩)
  by_cases b1:j < sb
  ·exact sA' i j a1 a2 b1
  ·by_cases b2:sb <= i
   ·exact sB' i j b2 a2 (by lia)
   ·exact o.tr _ _ _ (sA' i (sb - 1) a1 (by lia) (by lia)) (m3' j (by lia) (by lia))
 rw [O8 e3]
 generalize hr:na - k = r
 have hr1:na = k + r:=by lia
 have hr0:0 < r:=by lia
 clear hr e1 e2
 have zx:(p.extract (sa + k) sb).size = r:=by rw [Br (by lia)];lia
 have zy:(p.extract sb (sb + m)).size = m:=by rw [Br (by lia)];lia
 have ax:∀ i,i < r -> at' (p.extract (sa + k) sb) i = at' p (sa + k + i):=fun i hi=>GU (by lia)
 have ay:∀ i,i < m -> at' (p.extract sb (sb + m)) i = at' p (sb + i):=fun i hi=>GU (by lia)
 have exy:(p.extract (sa + k) sb).toList ++ (p.extract sb (sb + m)).toList = (p.extract (sa + k) (sb + m)).toList:=by
  have a1:=mO (X:=p) (i:=sa + k) (j:=sb) (by lia)
  have a2:=mO (X:=p) (i:=sb) (j:=sb + m) (by lia)
  have a3:=mO (X:=p) (i:=sa + k) (j:=sb + m) (by lia)
  rw [a1,a3,PQ] at a2
  exact (List.append_cancel_left a2).symm
 have key:∀ R:Array Nat,mh le ((p.extract (sa + k) sb).toList ++ (p.extract sb (sb + m)).toList) R -> R.toList.length = r + m /\ Srtd le p (p.toList.take (sa + k) ++ R.toList ++ p.toList.drop (sa + k + R.toList.length)).toArray sa (sa + (na + nb)):=fun R g=>by
  have hlen:R.toList.length = r + m:=by
   rw [g.2.length_eq,Ph,P9,P9,zx,zy]
  refine ⟨hlen,?_,fun i hi=>?_,fun i j a1 a2 a3=>?_⟩
  ·refine Gz ?_
   rw [hlen,show sa + k + (r + m) = sb + m by lia,<- exy]
   exact g.2
  ·rw [CJ (by lia),O8 (by lia)]
  ·rw [CJ (by lia),CJ (by lia),hlen]
   have memR:∀ i,i < r + m -> ∃ c,(R.toList[i]?).getD 0 = at' p c /\ ((sa + k <= c /\ c < sb) \/ (sb <= c /\ c < sb + m)):=fun i hi=>by
    have hi':i < R.toList.length:=by lia
    have hm:R.toList[i] ∈ R.toList:=List.getElem_mem hi'
    have e:(R.toList[i]?).getD 0 = R.toList[i]:=by rw [P7 hi'];rfl
    rw [e]
    rcases Po.mp (g.2.mem_iff.mp hm) with hm | hm
    ·obtain ⟨c,c1,c2,c3,c4⟩:=uw hm
     exact ⟨c,c4.symm,.inl ⟨c1,c2⟩⟩
    ·obtain ⟨c,c1,c2,c3,c4⟩:=uw hm
     exact ⟨c,c4.symm,.inr ⟨c1,c2⟩⟩
   by_cases b1:sa + k <= i /\ i < sa + k + (r + m)
   ·rw [O7 b1]
    by_cases b2:sa + k <= j /\ j < sa + k + (r + m)
    ·rw [O7 b2]
     by_cases b3:i = j
     ·subst b3;exact o.rf _
     ·have:=QH.mp g.1 (i - (sa + k)) (j - (sa + k)) (by lia) (by lia) (by lia)
      rw [P7 (by lia),P7 (by lia)]
      exact this
    ·rw [O8 b2]
     obtain ⟨c,c1,c2⟩:=memR (i - (sa + k)) (by lia)
     rw [c1]
     rcases c2 with c2 | c2
     ·exact o.tr _ _ _ (sA' c (sb - 1) (by lia) (by lia) (by lia)) (m3' j (by lia) (by lia))
     ·exact sB' c j (by lia) (by lia) (by lia)
   ·rw [O8 b1]
    by_cases b2:sa + k <= j /\ j < sa + k + (r + m)
    ·rw [O7 b2]
     obtain ⟨c,c1,c2⟩:=memR (j - (sa + k)) (by lia)
     rw [c1]
     rcases c2 with c2 | c2
     ·exact sA' i c (by lia) (by lia) (by lia)
     ·exact o.tr _ _ _ (k2' i (by lia) (by lia)) (sB' sb c (Pf _) (by lia) (by lia))
    ·rw [O8 b2]
     by_cases b3:j < sb
     ·exact sA' i j a1 a2 b3
     ·by_cases b4:sb <= i
      ·exact sB' i j b4 a2 (by lia)
      ·exact o.tr _ _ _ (k2' i a1 (by lia)) (sB' sb j (Pf _) (by lia) (by lia))
 have fin:∀ (R:Array Nat) (st3:SortSt),Same κ st2 st3 -> mh le ((p.extract (sa + k) sb).toList ++ (p.extract sb (sb + m)).toList) R ->
   Q (failedOf st3).isNone (setArr st3 ((R.map (kas_item it)).toList.zipIdx.foldl (fun a x=>a.setIfInBounds (sa + k + x.2) x.1) (arrOf st3))):=fun R st3 sm g=>by
  obtain ⟨hlen,S⟩:=key R g
  have ea:arrOf st3 = p.map (kas_item it):=sm.2.1.trans T.2.1
  have ef:failedOf st3 = none:=sm.2.2.2.trans T.2.2.2
  rw [ef]
  refine h _ _ ⟨sm.1,?_,sm.2.2.1.trans T.2.2.1,ef⟩ S
  show (R.map (kas_item it)).toList.zipIdx.foldl (fun a x=>a.setIfInBounds (sa + k + x.2) x.1) (arrOf st3) = _
  rw [ea]
  apply Array.toList_inj.mp
  rw [Fx (sa + k) _ _ 0 (by simp at hlen ⊢;lia)]
  simp
 have cx:(p.map (kas_item it)).extract (sa + k) sb = (p.extract (sa + k) sb).map (kas_item it):=by simp
 have cy:(p.map (kas_item it)).extract sb (sb + m) = (p.extract sb (sb + m)).map (kas_item it):=by simp
 rw [cx,cy]
 have hx:∀ i,i < (p.extract (sa + k) sb).size -> at' (p.extract (sa + k) sb) i < n:=fun i hi=>by rw [ax i (by lia)];exact hp _ (by lia)
 have hy:∀ i,i < (p.extract sb (sb + m)).size -> at' (p.extract sb (sb + m)) i < n:=fun i hi=>by rw [ay i (by lia)];exact hp _ (by lia)
 have sx:∀ i j,i <= j -> j < (p.extract (sa + k) sb).size -> le (at' (p.extract (sa + k) sb) i) (at' (p.extract (sa + k) sb) j):=fun i j a1 a2=>by rw [ax i (by lia),ax j (by lia)];exact sA' _ _ (by lia) (by lia) (by lia)
 have sy:∀ i j,i <= j -> j < (p.extract sb (sb + m)).size -> le (at' (p.extract sb (sb + m)) i) (at' (p.extract sb (sb + m)) j):=fun i j a1 a2=>by rw [ay i (by lia),ay j (by lia)];exact sB' _ _ (by lia) (by lia) (by lia)
 have hf:∀ i,i < (p.extract (sa + k) sb).size -> le (at' (p.extract sb (sb + m)) 0) (at' (p.extract (sa + k) sb) i):=fun i a1=>by rw [ay 0 (by lia),ax i (by lia)];exact k3' _ (by lia) (by lia)
 have hl:∀ i,i < (p.extract sb (sb + m)).size -> le (at' (p.extract sb (sb + m)) i) (at' (p.extract (sa + k) sb) ((p.extract (sa + k) sb).size - 1)):=fun i a1=>by
  rw [zx,ay i (by lia),ax _ (by lia),show sa + k + (r - 1) = sb - 1 by lia]
  exact m2' _ (by lia) (by lia)
 by_cases e4:r <= m
 ·rw [O7 e4]
  refine Pa (Er o hc T.1 hx hy (by lia) (by lia) sx sy hf hl fun R st3 sm g=>?_)
  exact Pa (P5 (Pa (Qe (O9 (fin R st3 sm g)))))
 ·rw [O8 e4]
  refine Pa (ED o hc T.1 hx hy (by lia) (by lia) sx sy hf hl fun R st3 sm g=>?_)
  exact Pa (P5 (Pa (Qe (O9 (fin R st3 sm g)))))
end
section
variable {le:Nat -> Nat -> Prop} {lt:Nat -> Nat -> Bool} {p p' p2:Array Nat} {a b c:Nat}
def Up (le:Nat -> Nat -> Prop) (p:Array Nat) (a b:Nat):Prop:=∀ i j,a <= i -> i <= j -> j < b -> le (at' p i) (at' p j)
def Dn (le:Nat -> Nat -> Prop) (p:Array Nat) (a b:Nat):Prop:=∀ i j,a <= i -> i <= j -> j < b -> le (at' p j) (at' p i)
def Es (le:Nat -> Nat -> Prop) (p:Array Nat) (a b:Nat):Prop:=∀ k,a <= k -> k < b -> le (at' p k) (at' p (b - 1)) /\ le (at' p (b - 1)) (at' p k)
def Near (p p':Array Nat) (lo hi:Nat):Prop:=p'.Perm p /\ ∀ k,k < lo \/ hi <= k -> at' p' k = at' p k
theorem Near.rf:Near p p a b:=⟨.refl _,fun _ _=>rfl⟩
theorem Near.tr (h:Near p p' a b) (h2:Near p' p2 a b):Near p p2 a b:=⟨h2.1.trans h.1,fun k hk=>(h2.2 k hk).trans (h.2 k hk)⟩
theorem Near.wide {d e:Nat} (h:Near p p' a b) (h1:d <= a) (h2:b <= e):Near p p' d e:=⟨h.1,fun k hk=>h.2 k (by lia)⟩
theorem Near.size (h:Near p p' a b):p'.size = p.size:=h.1.size_eq
theorem gf (h:b <= p.size):Near p (kas_rev p a b) a b:=⟨mirror_perm _ _ _ _,fun k hk=>by rw [cB h,O8 (by lia)]⟩
theorem A1 {d:Nat} (h:b < p.size) (hd:d <= b):Near p (bubble p b d) (b - d) (b + 1):=⟨bubble_perm _ _ _,fun k hk=>by rw [sr h hd,O8 (by lia),O8 (by lia)]⟩
theorem Up.succ (o:Ord lt le) (h:Up le p a b) (hab:a < b) (hl:le (at' p (b - 1)) (at' p b)):Up le p a (b + 1):=fun i j h1 h2 h3=>by
 by_cases e:j = b
 ·subst e
  by_cases e2:i = j
  ·subst e2;exact o.rf _
  ·exact o.tr _ _ _ (h i (j - 1) h1 (by lia) (by lia)) hl
 ·exact h i j h1 h2 (by lia)
theorem Dn.succ (o:Ord lt le) (h:Dn le p a b) (hab:a < b) (hl:le (at' p b) (at' p (b - 1))):Dn le p a (b + 1):=fun i j h1 h2 h3=>by
 by_cases e:j = b
 ·subst e
  by_cases e2:i = j
  ·subst e2;exact o.rf _
  ·exact o.tr _ _ _ hl (h i (j - 1) h1 (by lia) (by lia))
 ·exact h i j h1 h2 (by lia)
theorem KG (o:Ord lt le):Up le p a (a + 1):=fun i j h1 h2 h3=>by
 have:i = j:=by lia
 subst this;exact o.rf _
theorem Up.of (h:Up le p a b) (k:∀ i,a <= i -> i < b -> at' p' i = at' p i):Up le p' a b:=fun i j h1 h2 h3=>by
 rw [k i h1 (by lia),k j (by lia) h3];exact h i j h1 h2 h3
theorem Dn.rev (o:Ord lt le) (h:Dn le p a b) (hb:b <= p.size) (hc:a <= c) (he:Es le p c b):Dn le (kas_rev p c b) a b:=by
 have key:∀ k,a <= k -> k < b -> ∃ k',a <= k' /\ k' < b /\ at' (kas_rev p c b) k = at' p k' /\ le (at' p k') (at' p k) /\ le (at' p k) (at' p k'):=fun k hk0 hk=>by
  rw [cB hb]
  split
  ·rename_i h1
   refine ⟨c + b - 1 - k,by lia,by lia,rfl,?_⟩
   obtain ⟨a1,a2⟩:=he k h1.1 hk
   obtain ⟨b1,b2⟩:=he (c + b - 1 - k) (by lia) (by lia)
   exact ⟨o.tr _ _ _ b1 a2,o.tr _ _ _ a1 b2⟩
  ·exact ⟨k,hk0,hk,rfl,o.rf _,o.rf _⟩
 intro i j h0 hij hj
 obtain ⟨i',_,_,e1,x1,x2⟩:=key i h0 (by lia)
 obtain ⟨j',_,_,e2,y1,y2⟩:=key j (by lia) hj
 rw [e1,e2]
 exact o.tr _ _ _ y1 (o.tr _ _ _ (h i j h0 hij hj) x2)
theorem Dn.turn (h:Dn le p a b) (hb:b <= p.size):Up le (kas_rev p a b) a b:=by
 intro i j h0 hij hj
 rw [cB hb,cB hb,O7 ⟨h0,by lia⟩,O7 ⟨by lia,hj⟩]
 exact h _ _ (by lia) (by lia) (by lia)
theorem rN (o:Ord lt le) (h:a + 1 = b):Es le p a b:=fun k h1 h2=>by
 have:k = b - 1:=by lia
 subst this
 exact ⟨o.rf _,o.rf _⟩
end
section
variable {prog:Program} {w:World} {A:Around} {E:Value -> Shared -> Prop} {s:Shared} {κ:SortKind} {it:Array Keyed} {n:Nat} {lt:Nat -> Nat -> Bool} {le:Nat -> Nat -> Prop} {p:Array Nat} {pend:Array (Nat × Nat × Nat)} {st:SortSt}
theorem i9 (hc:wZ prog w A s κ it n lt) (S:Stt κ it st p pend) (hp:∀ i,i < p.size -> at' p i < n) {i j:Nat} {Q:Option Bool -> SortSt -> Prop} (hi:i < p.size) (hj:j < p.size) (h:Q (some (lt (at' p i) (at' p j))) st):wpS (model prog w) A E s (ltAt' i j) Q st:=by
 rw [ltAt'_eq]
 refine Pa (Qe ?_)
 dsimp only
 rw [S.2.1]
 exact Pa (aO hi (Pa (aO hj (w_lt hc S.1 (hp _ hi) (hp _ hj) h))))
theorem qJ (S:Stt κ it st p pend) {i j:Nat} {Q:Unit -> SortSt -> Prop} (h:∀ st',Stt κ it st' (kas_rev p i j) pend -> Q () st'):wpS (model prog w) A E s (reverseSlice' i j) Q st:=by
 rw [reverseSlice'_eq]
 refine P5 (h _ ⟨S.1,?_,S.2.2⟩)
 show mirror (arrOf st) i j ((j - i) / 2) = _
 rw [S.2.1]
 exact kas_swaps_map (kas_item it) (fun k=>i + k) (fun k=>j - 1 - k) _ p
theorem K6 (S:Stt κ it st p pend) {i j:Nat} {Q:Unit -> SortSt -> Prop} (h:∀ st',Stt κ it st' (bubble p i (i - j)) pend -> Q () st'):wpS (model prog w) A E s (moveDown' i j) Q st:=by
 rw [moveDown'_eq]
 refine P5 (h _ ⟨S.1,?_,S.2.2⟩)
 show bubble (arrOf st) i (i - j) = _
 rw [S.2.1]
 exact kas_swaps_map (kas_item it) (fun k=>i - k) (fun k=>i - k - 1) _ p
theorem Lo (o:Ord lt le) (hc:wZ prog w A s κ it n lt) (S:Stt κ it st p pend) (hp:∀ p':Array Nat,p'.Perm p -> ∀ i,i < p'.size -> at' p' i < n) {lo m ok:Nat} {Q:Bool -> SortSt -> Prop} (hz:lo + m <= p.size) (hok:ok <= m) (ok1:1 <= ok) (hs:Up le p lo (lo + ok))
  (h:∀ p' st',Stt κ it st' p' pend -> Near p p' lo (lo + m) -> Up le p' lo (lo + m) -> Q true st'):wpS (model prog w) A E s (binarySort' lo m ok) Q st:=by
 refine Pa (PF (PH (I:=fun k c st'=>c = (none,()) /\ ∃ p',Stt κ it st' p' pend /\ Near p p' lo (lo + m) /\ Up le p' lo (lo + min k m))
  (Q:=fun c st'=>c = (none,()) /\ ∃ p',Stt κ it st' p' pend /\ Near p p' lo (lo + m) /\ Up le p' lo (lo + m)) ?step ?fin ?init) ?post)
 case post=>
  rintro c st' ⟨rfl,p',S',N,U⟩
  exact O9 (h p' st' S' N U)
 case init=>exact ⟨rfl,p,S,.rf,by rw [show min (max ok 1) m = ok by lia];exact hs⟩
 case fin=>
  rintro c st' ⟨hc',p',S',N,U⟩
  exact ⟨hc',p',S',N,by rwa [show min (max (max ok 1) m) m = m by lia] at U⟩
 case step=>
  rintro k c st' hak hkn ⟨rfl,p',S',N,U⟩
  rw [show min k m = k by lia] at U
  have hsz:=N.size
  have hk1:1 <= k:=by lia
  have hkm:k < m:=by lia
  clear hak hkn hok ok1 hs
  refine Pa (PF (PH (I:=fun x c st''=>st'' = st' /\ ∃ l r,c = (none,l,r) /\ l <= r /\ r <= k /\ r - l <= k - x /\
    (∀ i,i < l -> le (at' p' (lo + i)) (at' p' (lo + k))) /\ (∀ i,r <= i -> i < k -> le (at' p' (lo + k)) (at' p' (lo + i))))
   (Q:=fun c st''=>st'' = st' /\ ∃ l r,c = (none,l,r) /\ l <= k /\
    (∀ i,i < l -> le (at' p' (lo + i)) (at' p' (lo + k))) /\ (∀ i,l <= i -> i < k -> le (at' p' (lo + k)) (at' p' (lo + i)))) ?istep ?ifin ?iinit) ?ipost)
  case iinit=>exact ⟨rfl,0,k,rfl,by lia,by lia,by lia,fun i hi=>by lia,fun i h1 h2=>by lia⟩
  case ifin=>
   rintro c st'' ⟨rfl,l,r,rfl,hlr,hrk,hm,hlo,hhi⟩
   have:l = r:=by lia
   subst this
   exact ⟨rfl,l,l,rfl,hrk,hlo,hhi⟩
  case istep=>
   rintro x c st'' _ hxk ⟨rfl,l,r,rfl,hlr,hrk,hm,hlo,hhi⟩
   dsimp only
   by_cases hge:l ≥ r
   ·rw [O7 hge]
    have:l = r:=by lia
    subst this
    exact O9 ⟨rfl,l,l,rfl,hrk,hlo,hhi⟩
   ·rw [O8 hge]
    refine Pa (i9 hc S' (hp _ N.1) (by lia) (by lia) ?_)
    dsimp only
    cases cw:lt (at' p' (lo + k)) (at' p' (lo + (l + r) / 2)) with
    | true=>
     rw [O7 rfl]
     exact O9 ⟨rfl,l,(l + r) / 2,rfl,by lia,by lia,by lia,hlo,fun i h1 h2=>o.tr _ _ _ (o.yes _ _ cw) (U _ _ (by lia) (by lia) (by lia))⟩
    | false=>
     rw [O8 (by decide)]
     exact O9 ⟨rfl,(l + r) / 2 + 1,r,rfl,by lia,by lia,by lia,fun i h1=>o.tr _ _ _ (U _ _ (by lia) (by lia) (by lia)) (o.no _ _ cw),hhi⟩
  case ipost=>
   rintro c st'' ⟨rfl,l,r,rfl,hlk,hlo,hhi⟩
   dsimp only
   refine Pa (K6 S' fun st3 S3=>O9 ⟨rfl,_,S3,N.tr ((A1 (by lia) (by lia)).wide (by lia) (by lia)),?_⟩)
   rw [show min (k + 1) m = k + 1 by lia,show lo + k - (lo + l) = k - l by lia]
   intro i j h1 h2 h3
   rw [sr (by lia) (by lia),sr (by lia) (by lia)]
   rw [show lo + k - (k - l) = lo + l by lia]
   by_cases i1:i = lo + l
   ·rw [O7 i1]
    by_cases j1:j = lo + l
    ·rw [O7 j1];exact o.rf _
    ·rw [O8 j1]
     rw [O7 (by lia)]
     have:=hhi (j - 1 - lo) (by lia) (by lia)
     rwa [show lo + (j - 1 - lo) = j - 1 by lia] at this
   ·rw [O8 i1]
    by_cases j1:j = lo + l
    ·rw [O7 j1,O8 (by lia)]
     have:=hlo (i - lo) (by lia)
     rwa [show lo + (i - lo) = i by lia] at this
    ·rw [O8 j1]
     by_cases i2:lo + l < i /\ i <= lo + k
     ·rw [O7 i2,O7 (by lia)]
      exact U _ _ (by lia) (by lia) (by lia)
     ·rw [O8 i2]
      by_cases j2:lo + l < j /\ j <= lo + k
      ·rw [O7 j2]
       exact U _ _ (by lia) (by lia) (by lia)
      ·rw [O8 j2]
       exact U _ _ (by lia) (by lia) (by lia)
end
section
variable {prog:Program} {w:World} {A:Around} {E:Value -> Shared -> Prop} {s:Shared} {κ:SortKind} {it:Array Keyed} {n:Nat} {lt:Nat -> Nat -> Bool} {le:Nat -> Nat -> Prop} {p:Array Nat} {pend:Array (Nat × Nat × Nat)} {st:SortSt}
theorem HY (o:Ord lt le) (hc:wZ prog w A s κ it n lt) (S:Stt κ it st p pend) (hp:∀ p':Array Nat,p'.Perm p -> ∀ i,i < p'.size -> at' p' i < n) {lo nrem:Nat} {Q:Option Nat -> SortSt -> Prop} (h1:1 <= nrem) (hz:lo + nrem <= p.size)
  (h:∀ m p' st',Stt κ it st' p' pend -> 1 <= m -> m <= nrem -> Near p p' lo (lo + m) -> Up le p' lo (lo + m) -> Q (some m) st'):wpS (model prog w) A E s (countRun' lo nrem) Q st:=by
 refine Pa (PF (PH (I:=fun x c st'=>st' = st /\ c = (none,x) /\ x <= nrem /\ Up le p lo (lo + x))
  (Q:=fun c st'=>st' = st /\ ∃ m,c = (none,m) /\ 1 <= m /\ m <= nrem /\ Up le p lo (lo + m) /\ (m < nrem -> le (at' p (lo + m)) (at' p (lo + m - 1)))) ?s1 ?f1 ?i1) ?p1)
 case i1=>exact ⟨rfl,rfl,h1,KG o⟩
 case f1=>
  rintro c st' ⟨rfl,rfl,k1,k2⟩
  exact ⟨rfl,_,rfl,by lia,k1,k2,fun _=>by lia⟩
 case s1=>
  rintro x c st' hx0 hx ⟨rfl,rfl,k1,k2⟩
  dsimp only
  refine Pa (i9 hc S (hp p (.refl _)) (by lia) (by lia) ?_)
  dsimp only
  cases cw:lt (at' p (lo + x)) (at' p (lo + x - 1)) with
  | true=>
   rw [O7 rfl]
   exact O9 ⟨rfl,x,rfl,hx0,k1,k2,fun _=>o.yes _ _ cw⟩
  | false=>
   rw [O8 (by decide)]
   exact O9 ⟨rfl,rfl,by lia,Up.succ (b:=lo + x) o k2 (by lia) (o.no _ _ cw)⟩
 case p1=>
  rintro c st' ⟨rfl,m,rfl,m1,m2,U,hd⟩
  dsimp only
  simp only [Qb]
  by_cases e1:m = nrem
  ·rw [O7 e1]
   exact O9 (h m p st' S m1 m2 .rf U)
  rw [O8 e1]
  have e1':m < nrem:=by lia
  clear e1
  by_cases e2:m > 1
  ·rw [O7 e2]
   refine Pa (i9 hc S (hp p (.refl _)) (by lia) (by lia) ?_)
   dsimp only
   cases cw:lt (at' p lo) (at' p (lo + m - 1)) with
   | true=>
    rw [O7 rfl]
    exact O9 (h m p st' S m1 m2 .rf U)
   | false=>
    rw [O8 (by decide)]
    have g0:=o.no _ _ cw
    refine Pa (qJ S fun stx Sx=>?_)
    have same:∀ i j,lo <= i -> i < lo + m -> lo <= j -> j < lo + m -> le (at' p i) (at' p j):=fun i j a1 a2 a3 a4=>o.tr _ _ _ (U i (lo + m - 1) a1 (by lia) (by lia)) (o.tr _ _ _ g0 (U lo j (Pf _) a3 a4))
    have d0:Dn le (kas_rev p lo (lo + m)) lo (lo + m):=fun i j a1 a2 a3=>by
     rw [cB (by lia),cB (by lia),O7 (by lia),O7 (by lia)]
     exact same _ _ (by lia) (by lia) (by lia) (by lia)
    have Dx:Dn le (kas_rev p lo (lo + m)) lo (lo + (m + 1)):=Dn.succ (b:=lo + m) o d0 (by lia) (by
     rw [cB (by lia),cB (by lia),O8 (by lia),O7 (by lia)]
     exact o.tr _ _ _ (hd (by lia)) (same _ _ (by lia) (by lia) (by lia) (by lia)))
    have Nx:Near p (kas_rev p lo (lo + m)) lo (lo + (m + 1)):=(gf (by lia)).wide (Pf _) (by lia)
    generalize kas_rev p lo (lo + m) = px at Sx Dx Nx
    refine Pa (QI (Qx ⟨rfl,?_⟩))
    refine Pa (PF (PH (I:=fun x c st'=>∃ q p',c = (none,x,q) /\ Stt κ it st' p' pend /\ Near p p' lo (lo + x) /\ x <= nrem /\ q + 1 <= x /\ Dn le p' lo (lo + x) /\ Es le p' (lo + x - (q + 1)) (lo + x))
     (Q:=fun c st'=>∃ x q p',c = (none,x,q) /\ m + 1 <= x /\ Stt κ it st' p' pend /\ Near p p' lo (lo + x) /\ x <= nrem /\ q + 1 <= x /\ Dn le p' lo (lo + x) /\ Es le p' (lo + x - (q + 1)) (lo + x)) ?s2 ?f2 ?i2) ?p2)
    case i2=>exact ⟨0,px,rfl,Sx,Nx,by lia,by lia,Dx,rN o (by lia)⟩
    case f2=>
     rintro c st' ⟨q,p',rfl,S',N',k1,k2,D',E'⟩
     exact ⟨_,q,p',rfl,by lia,S',N',k1,k2,D',E'⟩
    case s2=>
     rintro x c st' hx0 hx ⟨q,p',rfl,S',N',k1,k2,D',E'⟩
     dsimp only
     have hs2:=N'.size
     refine Pa (i9 hc S' (hp _ N'.1) (by lia) (by lia) ?_)
     dsimp only
     cases cw:lt (at' p' (lo + x)) (at' p' (lo + x - 1)) with
     | true=>
      rw [O7 rfl]
      have hl:=o.yes _ _ cw
      by_cases q0:q > 0
      ·rw [O7 q0]
       refine Pa (qJ S' fun st4 S4=>O9 ?_)
       have d1:=D'.rev o (by lia) (by lia) E'
       have b1:at' (kas_rev p' (lo + x - (q + 1)) (lo + x)) (lo + x) = at' p' (lo + x):=by rw [cB (by lia),O8 (by lia)]
       have b2:at' (kas_rev p' (lo + x - (q + 1)) (lo + x)) (lo + x - 1) = at' p' (lo + x - (q + 1)):=by
        rw [cB (by lia),O7 (by lia)]
        congr 1;lia
       exact ⟨0,_,rfl,S4,(N'.tr ((gf (by lia)).wide (by lia) (by lia))).wide (by lia) (by lia),by lia,by lia,Dn.succ (b:=lo + x) o d1 (by lia) (by rw [b1,b2];exact o.tr _ _ _ hl (E' _ (Pf _) (by lia)).2),rN o (by lia)⟩
      ·rw [O8 q0]
       exact O9 ⟨0,p',rfl,S',N'.wide (by lia) (by lia),by lia,by lia,Dn.succ (b:=lo + x) o D' (by lia) hl,rN o (by lia)⟩
     | false=>
      rw [O8 (by decide)]
      have g1:=o.no _ _ cw
      refine Pa (i9 hc S' (hp _ N'.1) (by lia) (by lia) ?_)
      dsimp only
      cases cw2:lt (at' p' (lo + x - 1)) (at' p' (lo + x)) with
      | true=>
       rw [O7 rfl]
       exact O9 ⟨x,q,p',rfl,hx0,S',N',k1,k2,D',E'⟩
      | false=>
       rw [O8 (by decide)]
       have g2:=o.no _ _ cw2
       refine O9 ⟨q + 1,p',rfl,S',N'.wide (by lia) (by lia),by lia,by lia,Dn.succ (b:=lo + x) o D' (by lia) g2,fun k a1 a2=>?_⟩
       rw [show lo + (x + 1) - 1 = lo + x by lia]
       by_cases hk:k = lo + x
       ·subst hk;exact ⟨o.rf _,o.rf _⟩
       ·obtain ⟨x1,x2⟩:=E' k (by lia) (by lia)
        exact ⟨o.tr _ _ _ x1 g1,o.tr _ _ _ g2 x2⟩
    case p2=>
     rintro c st' ⟨x,q,p',rfl,x1,S',N',x2,x3,D',E'⟩
     dsimp only
     have hs2:=N'.size
     by_cases q0:q > 0
     ·rw [O7 q0]
      refine Pa (qJ S' fun stX SX=>?_)
      have DX:=D'.rev o (by lia) (by lia) E'
      have NX:=N'.tr ((gf (by lia)).wide (a:=lo + x - (q + 1)) (b:=lo + x) (d:=lo) (e:=lo + x) (by lia) (by lia))
      generalize kas_rev p' (lo + x - (q + 1)) (lo + x) = pX at SX DX NX
      refine Pa (qJ SX fun st4 S4=>?_)
      have hs4:=NX.size
      have N4:=NX.tr (gf (a:=lo) (b:=lo + x) (by lia))
      have U4:=DX.turn (by lia)
      refine Pa (PF (PH (I:=fun y c st'=>st' = st4 /\ c = (none,y) /\ y <= nrem /\ Up le (kas_rev pX lo (lo + x)) lo (lo + y))
       (Q:=fun c st'=>st' = st4 /\ ∃ y,c = (none,y) /\ x <= y /\ y <= nrem /\ Up le (kas_rev pX lo (lo + x)) lo (lo + y)) ?s3 ?f3 ?i3) ?p3)
      case i3=>exact ⟨rfl,rfl,x2,U4⟩
      case f3=>
       rintro c st' ⟨rfl,rfl,k1,k2⟩
       exact ⟨rfl,_,rfl,by lia,k1,k2⟩
      case s3=>
       rintro y c st' hy0 hy ⟨rfl,rfl,k1,k2⟩
       dsimp only
       have hs5:=N4.size
       refine Pa (i9 hc S4 (hp _ N4.1) (by lia) (by lia) ?_)
       dsimp only
       cases cw:lt (at' (kas_rev pX lo (lo + x)) (lo + y)) (at' (kas_rev pX lo (lo + x)) (lo + y - 1)) with
       | true=>
        rw [O7 rfl]
        exact O9 ⟨rfl,y,rfl,hy0,k1,k2⟩
       | false=>
        rw [O8 (by decide)]
        exact O9 ⟨rfl,rfl,by lia,Up.succ (b:=lo + y) o k2 (by lia) (o.no _ _ cw)⟩
      case p3=>
       rintro c st' ⟨rfl,y,rfl,y1,y2,U⟩
       exact O9 (h y _ st' S4 (by lia) y2 (N4.wide (Pf _) (by lia)) U)
     ·rw [O8 q0]
      have DX:=D'
      have NX:=N'
      have SX:=S'
      generalize p' = pX at SX DX NX
      refine Pa (qJ SX fun st4 S4=>?_)
      have hs4:=NX.size
      have N4:=NX.tr (gf (a:=lo) (b:=lo + x) (by lia))
      have U4:=DX.turn (by lia)
      refine Pa (PF (PH (I:=fun y c st'=>st' = st4 /\ c = (none,y) /\ y <= nrem /\ Up le (kas_rev pX lo (lo + x)) lo (lo + y))
       (Q:=fun c st'=>st' = st4 /\ ∃ y,c = (none,y) /\ x <= y /\ y <= nrem /\ Up le (kas_rev pX lo (lo + x)) lo (lo + y)) ?s3 ?f3 ?i3) ?p3)
      case i3=>exact ⟨rfl,rfl,x2,U4⟩
      case f3=>
       rintro c st' ⟨rfl,rfl,k1,k2⟩
       exact ⟨rfl,_,rfl,by lia,k1,k2⟩
      case s3=>
       rintro y c st' hy0 hy ⟨rfl,rfl,k1,k2⟩
       dsimp only
       have hs5:=N4.size
       refine Pa (i9 hc S4 (hp _ N4.1) (by lia) (by lia) ?_)
       dsimp only
       cases cw:lt (at' (kas_rev pX lo (lo + x)) (lo + y)) (at' (kas_rev pX lo (lo + x)) (lo + y - 1)) with
       | true=>
        rw [O7 rfl]
        exact O9 ⟨rfl,y,rfl,hy0,k1,k2⟩
       | false=>
        rw [O8 (by decide)]
        exact O9 ⟨rfl,rfl,by lia,Up.succ (b:=lo + y) o k2 (by lia) (o.no _ _ cw)⟩
      case p3=>
       rintro c st' ⟨rfl,y,rfl,y1,y2,U⟩
       exact O9 (h y _ st' S4 (by lia) y2 (N4.wide (Pf _) (by lia)) U)
  ·rw [O8 e2]
   have m11:m = 1:=by lia
   have Sx:=S
   have Dx:Dn le p lo (lo + (m + 1)):=Dn.succ (b:=lo + m) o (fun i j a1 a2 a3=>by
    have:i = j:=by lia
    subst this;exact o.rf _) (by lia) (hd (by lia))
   have Nx:Near p p lo (lo + (m + 1)):=.rf
   obtain ⟨px,hpx⟩:∃ px,px = p:=⟨p,rfl⟩
   rw [<- hpx] at Sx Dx
   replace Nx:Near p px lo (lo + (m + 1)):=by rw [hpx];exact .rf
   refine Pa (QI (Qx ⟨rfl,?_⟩))
   refine Pa (PF (PH (I:=fun x c st'=>∃ q p',c = (none,x,q) /\ Stt κ it st' p' pend /\ Near p p' lo (lo + x) /\ x <= nrem /\ q + 1 <= x /\ Dn le p' lo (lo + x) /\ Es le p' (lo + x - (q + 1)) (lo + x))
    (Q:=fun c st'=>∃ x q p',c = (none,x,q) /\ m + 1 <= x /\ Stt κ it st' p' pend /\ Near p p' lo (lo + x) /\ x <= nrem /\ q + 1 <= x /\ Dn le p' lo (lo + x) /\ Es le p' (lo + x - (q + 1)) (lo + x)) ?s2 ?f2 ?i2) ?p2)
   case i2=>exact ⟨0,px,rfl,Sx,Nx,by lia,by lia,Dx,rN o (by lia)⟩
   case f2=>
    rintro c st' ⟨q,p',rfl,S',N',k1,k2,D',E'⟩
    exact ⟨_,q,p',rfl,by lia,S',N',k1,k2,D',E'⟩
   case s2=>
    rintro x c st' hx0 hx ⟨q,p',rfl,S',N',k1,k2,D',E'⟩
    dsimp only
    have hs2:=N'.size
    refine Pa (i9 hc S' (hp _ N'.1) (by lia) (by lia) ?_)
    dsimp only
    cases cw:lt (at' p' (lo + x)) (at' p' (lo + x - 1)) with
    | true=>
     rw [O7 rfl]
     have hl:=o.yes _ _ cw
     by_cases q0:q > 0
     ·rw [O7 q0]
      refine Pa (qJ S' fun st4 S4=>O9 ?_)
      have d1:=D'.rev o (by lia) (by lia) E'
      have b1:at' (kas_rev p' (lo + x - (q + 1)) (lo + x)) (lo + x) = at' p' (lo + x):=by rw [cB (by lia),O8 (by lia)]
      have b2:at' (kas_rev p' (lo + x - (q + 1)) (lo + x)) (lo + x - 1) = at' p' (lo + x - (q + 1)):=by
       rw [cB (by lia),O7 (by lia)]
       congr 1;lia
      exact ⟨0,_,rfl,S4,(N'.tr ((gf (by lia)).wide (by lia) (by lia))).wide (by lia) (by lia),by lia,by lia,Dn.succ (b:=lo + x) o d1 (by lia) (by rw [b1,b2];exact o.tr _ _ _ hl (E' _ (Pf _) (by lia)).2),rN o (by lia)⟩
     ·rw [O8 q0]
      exact O9 ⟨0,p',rfl,S',N'.wide (by lia) (by lia),by lia,by lia,Dn.succ (b:=lo + x) o D' (by lia) hl,rN o (by lia)⟩
    | false=>
     rw [O8 (by decide)]
     have g1:=o.no _ _ cw
     refine Pa (i9 hc S' (hp _ N'.1) (by lia) (by lia) ?_)
     dsimp only
     cases cw2:lt (at' p' (lo + x - 1)) (at' p' (lo + x)) with
     | true=>
      rw [O7 rfl]
      exact O9 ⟨x,q,p',rfl,hx0,S',N',k1,k2,D',E'⟩
     | false=>
      rw [O8 (by decide)]
      have g2:=o.no _ _ cw2
      refine O9 ⟨q + 1,p',rfl,S',N'.wide (by lia) (by lia),by lia,by lia,Dn.succ (b:=lo + x) o D' (by lia) g2,fun k a1 a2=>?_⟩
      rw [show lo + (x + 1) - 1 = lo + x by lia]
      by_cases hk:k = lo + x
      ·subst hk;exact ⟨o.rf _,o.rf _⟩
      ·obtain ⟨x1,x2⟩:=E' k (by lia) (by lia)
       exact ⟨o.tr _ _ _ x1 g1,o.tr _ _ _ g2 x2⟩
   case p2=>
    rintro c st' ⟨x,q,p',rfl,x1,S',N',x2,x3,D',E'⟩
    dsimp only
    have hs2:=N'.size
    by_cases q0:q > 0
    ·rw [O7 q0]
     refine Pa (qJ S' fun stX SX=>?_)
     have DX:=D'.rev o (by lia) (by lia) E'
     have NX:=N'.tr ((gf (by lia)).wide (a:=lo + x - (q + 1)) (b:=lo + x) (d:=lo) (e:=lo + x) (by lia) (by lia))
     generalize kas_rev p' (lo + x - (q + 1)) (lo + x) = pX at SX DX NX
     refine Pa (qJ SX fun st4 S4=>?_)
     have hs4:=NX.size
     have N4:=NX.tr (gf (a:=lo) (b:=lo + x) (by lia))
     have U4:=DX.turn (by lia)
     refine Pa (PF (PH (I:=fun y c st'=>st' = st4 /\ c = (none,y) /\ y <= nrem /\ Up le (kas_rev pX lo (lo + x)) lo (lo + y))
      (Q:=fun c st'=>st' = st4 /\ ∃ y,c = (none,y) /\ x <= y /\ y <= nrem /\ Up le (kas_rev pX lo (lo + x)) lo (lo + y)) ?s3 ?f3 ?i3) ?p3)
     case i3=>exact ⟨rfl,rfl,x2,U4⟩
     case f3=>
      rintro c st' ⟨rfl,rfl,k1,k2⟩
      exact ⟨rfl,_,rfl,by lia,k1,k2⟩
     case s3=>
      rintro y c st' hy0 hy ⟨rfl,rfl,k1,k2⟩
      dsimp only
      have hs5:=N4.size
      refine Pa (i9 hc S4 (hp _ N4.1) (by lia) (by lia) ?_)
      dsimp only
      cases cw:lt (at' (kas_rev pX lo (lo + x)) (lo + y)) (at' (kas_rev pX lo (lo + x)) (lo + y - 1)) with
      | true=>
       rw [O7 rfl]
       exact O9 ⟨rfl,y,rfl,hy0,k1,k2⟩
      | false=>
       rw [O8 (by decide)]
       exact O9 ⟨rfl,rfl,by lia,Up.succ (b:=lo + y) o k2 (by lia) (o.no _ _ cw)⟩
     case p3=>
      rintro c st' ⟨rfl,y,rfl,y1,y2,U⟩
      exact O9 (h y _ st' S4 (by lia) y2 (N4.wide (Pf _) (by lia)) U)
    ·rw [O8 q0]
     have DX:=D'
     have NX:=N'
     have SX:=S'
     generalize p' = pX at SX DX NX
     refine Pa (qJ SX fun st4 S4=>?_)
     have hs4:=NX.size
     have N4:=NX.tr (gf (a:=lo) (b:=lo + x) (by lia))
     have U4:=DX.turn (by lia)
     refine Pa (PF (PH (I:=fun y c st'=>st' = st4 /\ c = (none,y) /\ y <= nrem /\ Up le (kas_rev pX lo (lo + x)) lo (lo + y))
      (Q:=fun c st'=>st' = st4 /\ ∃ y,c = (none,y) /\ x <= y /\ y <= nrem /\ Up le (kas_rev pX lo (lo + x)) lo (lo + y)) ?s3 ?f3 ?i3) ?p3)
     case i3=>exact ⟨rfl,rfl,x2,U4⟩
     case f3=>
      rintro c st' ⟨rfl,rfl,k1,k2⟩
      exact ⟨rfl,_,rfl,by lia,k1,k2⟩
     case s3=>
      rintro y c st' hy0 hy ⟨rfl,rfl,k1,k2⟩
      dsimp only
      have hs5:=N4.size
      refine Pa (i9 hc S4 (hp _ N4.1) (by lia) (by lia) ?_)
      dsimp only
      cases cw:lt (at' (kas_rev pX lo (lo + x)) (lo + y)) (at' (kas_rev pX lo (lo + x)) (lo + y - 1)) with
      | true=>
       rw [O7 rfl]
       exact O9 ⟨rfl,y,rfl,hy0,k1,k2⟩
      | false=>
       rw [O8 (by decide)]
       exact O9 ⟨rfl,rfl,by lia,Up.succ (b:=lo + y) o k2 (by lia) (o.no _ _ cw)⟩
     case p3=>
      rintro c st' ⟨rfl,y,rfl,y1,y2,U⟩
      exact O9 (h y _ st' S4 (by lia) y2 (N4.wide (Pf _) (by lia)) U)
end
section
variable {le:Nat -> Nat -> Prop} {p p':Array Nat} {a b c:Nat}
def Rn (le:Nat -> Nat -> Prop) (p:Array Nat):Nat -> List (Nat × Nat × Nat) -> Nat -> Prop
 | a,[],b=>a = b
 | a,e :: es,b=>e.1 = a /\ 1 <= e.2.1 /\ Up le p a (a + e.2.1) /\ Rn le p (a + e.2.1) es b
theorem Rn.len_le:∀ {l:List (Nat × Nat × Nat)} {a:Nat},Rn le p a l b -> a + l.length <= b
 | [],a,h=>by have:a = b:=h;simp [this]
 | e :: es,a,h=>by
  have:=Rn.len_le h.2.2.2
  have:=h.2.1
  simp;lia
theorem Rn.of:∀ {l:List (Nat × Nat × Nat)} {a:Nat},Rn le p a l b -> (∀ k,a <= k -> k < b -> at' p' k = at' p k) -> Rn le p' a l b
 | [],a,h,_=>h
 | e :: es,a,h,k=>⟨h.1,h.2.1,h.2.2.1.of fun i h1 h2=>k i h1 (by have:=Rn.len_le h.2.2.2;lia),Rn.of h.2.2.2 fun i h1 h2=>k i (by lia) h2⟩
theorem Rn.app:∀ {l l':List (Nat × Nat × Nat)} {a:Nat},Rn le p a (l ++ l') b -> ∃ c,Rn le p a l c /\ Rn le p c l' b
 | [],l',a,h=>⟨a,rfl,h⟩
 | e :: es,l',a,h=>by
  obtain ⟨c,h1,h2⟩:=Rn.app h.2.2.2
  exact ⟨c,⟨h.1,h.2.1,h.2.2.1,h1⟩,h2⟩
theorem Rn.put:∀ {l l':List (Nat × Nat × Nat)} {a:Nat},Rn le p a l c -> Rn le p c l' b -> Rn le p a (l ++ l') b
 | [],l',a,h,h2=>by have:a = c:=h;subst this;exact h2
 | e :: es,l',a,h,h2=>⟨h.1,h.2.1,h.2.2.1,Rn.put h.2.2.2 h2⟩
theorem Rn.same:∀ {l l':List (Nat × Nat × Nat)} {a:Nat},(l.map fun e=>(e.1,e.2.1)) = (l'.map fun e=>(e.1,e.2.1)) -> Rn le p a l b -> Rn le p a l' b
 | [],[],a,_,h=>h
 | [],_ :: _,a,h,_=>by simp at h
 | _ :: _,[],a,h,_=>by simp at h
 | e :: es,e' :: es',a,h,k=>by
  simp only [Ps,List.cons.injEq,Prod.mk.injEq] at h
  obtain ⟨⟨h1,h2⟩,h3⟩:=h
  obtain ⟨k1,k2,k3,k4⟩:=k
  rw [h1] at k1
  rw [h2] at k2 k3 k4
  exact ⟨k1,k2,k3,Rn.same h3 k4⟩
theorem Im {c:Prop} [Decidable c] {k m:Nat} (h:k + 1 < m):(if c then k - 1 else k) + 1 < m:=by split <;> lia
theorem J5 {α:Type} (x z:α) (r:List α):∀ pre:List α,(pre ++ x :: r).set pre.length z = pre ++ z :: r
 | []=>rfl
 | y :: pre=>by simp
theorem Fo {α:Type} (z y:α) (r:List α):∀ pre:List α,(pre ++ z :: y :: r).eraseIdx (pre.length + 1) = pre ++ z :: r
 | []=>rfl
 | x :: pre=>by
  have:=Fo z y r pre
  simp only [List.cons_append,Pr,List.eraseIdx_cons_succ,this]
theorem Kp {α:Type} {l:List α} {i:Nat} (h:i + 1 < l.length):∃ pre x y post,l = pre ++ x :: y :: post /\ pre.length = i:=by
 refine ⟨l.take i,l[i],l[i + 1],l.drop (i + 2),?_,by rw [Q6];lia⟩
 rw [<- Rm h,<- Rm (by lia),RT]
end
section
variable {prog:Program} {w:World} {A:Around} {E:Value -> Shared -> Prop} {s:Shared} {κ:SortKind} {it:Array Keyed} {n:Nat} {lt:Nat -> Nat -> Bool} {le:Nat -> Nat -> Prop} {p:Array Nat} {pend:Array (Nat × Nat × Nat)} {st:SortSt}
theorem sF (o:Ord lt le) (hc:wZ prog w A s κ it n lt) (S:Stt κ it st p pend) (hp:∀ i,i < p.size -> at' p i < n) {i b:Nat} {Q:Bool -> SortSt -> Prop} (hi:i + 1 < pend.size) (R:Rn le p 0 pend.toList b) (hb:b <= p.size)
  (h:∀ p' pend' st',Stt κ it st' p' pend' -> Near p p' 0 b -> Rn le p' 0 pend'.toList b -> pend'.size + 1 = pend.size -> Q true st'):wpS (model prog w) A E s (mergeAt' i) Q st:=by
 obtain ⟨pre,⟨sa,na,pw⟩,⟨sb,nb,q⟩,post,e,hl⟩:=Kp (l:=pend.toList) (i:=i) (by simpa using hi)
 rw [e] at R
 obtain ⟨c,R1,R2⟩:=R.app
 obtain ⟨r1,r2,r3,r4,r5,r6,r7⟩:=R2
 dsimp only at r1 r2 r3 r4 r5 r6 r7
 subst r1
 have hle:=r7.len_le
 have g1:pend[i]? = some (sa,na,pw):=by rw [<- QY,e,QU (by lia)];simp [hl]
 have g2:pend[i + 1]? = some (sb,nb,q):=by rw [<- QY,e,QU (by lia)];simp [hl]
 refine Fd o hc S g1 g2 r4 r2 r5 (by lia) hp (fun i j a1 a2=>r3 _ _ (by lia) (by lia) (by lia)) (fun i j a1 a2=>r6 _ _ (by lia) (by lia) (by lia)) fun p' st' S' so=>?_
 have en:((pend.setIfInBounds i (sa,na + nb,pw)).eraseIdxIfInBounds (i + 1)).toList = pre ++ (sa,na + nb,pw) :: post:=by
  have h2:i + 1 < (pend.setIfInBounds i (sa,na + nb,pw)).size:=by simpa using hi
  rw [Array.eraseIdxIfInBounds,dif_pos h2,Array.toList_eraseIdx,Array.toList_setIfInBounds,e,<- hl]
  rw [J5,Fo]
 have hle1:=R1.len_le
 refine h p' _ st' S' ⟨so.perm,fun k hk=>so.out k (by lia)⟩ ?_ ?_
 ·rw [en]
  refine Rn.put (R1.of fun k _ h2=>so.out k (by lia)) ⟨rfl,by dsimp only;lia,fun i j a1 a2 a3=>so.asc i j a1 a2 a3,?_⟩
  dsimp only
  rw [show sa + (na + nb) = sa + na + nb by lia]
  exact r7.of fun k h1 h2=>so.out k (by lia)
 ·have e4:=PC List.length en
  have e3:=PC List.length e
  rw [P9] at e4 e3
  rw [e4,e3]
  simp only [Ph,Pr]
  lia
theorem Ki (o:Ord lt le) (hc:wZ prog w A s κ it n lt) (S:Stt κ it st p #[]) (hp:∀ p':Array Nat,p'.Perm p -> ∀ i,i < p'.size -> at' p' i < n) {Q:Unit -> SortSt -> Prop}
  (h:∀ p' pend' st',Stt κ it st' p' pend' -> p'.Perm p -> Up le p' 0 p.size -> Q () st'):wpS (model prog w) A E s sortRuns' Q st:=by
 rw [sortRuns'_eq]
 refine Pa (Qe ?_)
 dsimp only
 rw [S.2.1,Array.size_map]
 generalize minRun' p.size p.size 0 = minrun
 refine Pa (PF (PH (I:=fun x c st'=>∃ lo p' pend',c = (none,lo) /\ Stt κ it st' p' pend' /\ p'.Perm p /\ Rn le p' 0 pend'.toList lo /\ lo <= p.size /\ x <= lo)
  (Q:=fun c st'=>∃ p' pend',c.1 = none /\ Stt κ it st' p' pend' /\ p'.Perm p /\ Rn le p' 0 pend'.toList p.size) ?s1 ?f1 ?i1) ?p1)
 case i1=>exact ⟨0,p,#[],rfl,S,.refl _,rfl,by lia,by lia⟩
 case f1=>
  rintro c st' ⟨lo,p',pend',rfl,S',P',R',l1,l2⟩
  have:lo = p.size:=by lia
  subst this
  exact ⟨p',pend',rfl,S',P',R'⟩
 case s1=>
  rintro x c st' _ hx ⟨lo,p',pend',rfl,S',P',R',l1,l2⟩
  dsimp only
  by_cases e1:lo ≥ p.size
  ·rw [O7 e1]
   have:lo = p.size:=by lia
   subst this
   exact O9 ⟨p',pend',rfl,S',P',R'⟩
  rw [O8 e1]
  have hs':=P'.size_eq
  refine Pa (HY o hc S' (fun q hq=>hp q (hq.trans P')) (by lia) (by lia) fun m p2 st2 S2 m1 m2 N2 U2=>?_)
  have P2:=N2.1.trans P'
  have hs2:=P2.size_eq
  have R2:Rn le p2 0 pend'.toList lo:=R'.of fun k _ h2=>N2.2 k (.inl h2)
  dsimp only
  by_cases e2:m < minrun
  ·rw [O7 e2]
   refine Pa (QI (Qx ⟨rfl,?_⟩))
   refine Pa (Lo o hc S2 (fun q hq=>hp q (hq.trans P2)) (m:=min (p.size - lo) minrun) (by lia) (by lia) m1 U2 fun p3 st3 S3 N3 U3=>?_)
   replace R2:Rn le p3 0 pend'.toList lo:=R2.of fun k _ h2=>N3.2 k (.inl h2)
   replace P2:=N3.1.trans P2
   replace S2:=S3
   replace U2:=U3
   have hnn:1 <= min (p.size - lo) minrun:=by lia
   have hnn2:lo + min (p.size - lo) minrun <= p.size:=by lia
   clear S3 U3 N3 N2 hs2
   generalize min (p.size - lo) minrun = nn at *
   rw [O8 (by decide)]
   clear st2 p2
   generalize p3 = p2 at *
   generalize st3 = st2 at *
   refine Pa (Qe ?_)
   rw [S2.2.2.1]
   cases hbk:pend'.back? with
   | none=>
    dsimp only
    refine Pa (P5 (O9 ⟨lo + nn,p2,pend'.push (lo,nn,0),rfl,⟨S2.1,S2.2.1,?_,S2.2.2.2⟩,P2,?_,by lia,by lia⟩))
    ·show (pendingOf st2).push _ = _
     rw [S2.2.2.1]
    ·rw [Q9]
     exact R2.put ⟨rfl,hnn,U2,rfl⟩
   | some e=>
    obtain ⟨s1,n1,z1⟩:=e
    dsimp only
    generalize power' _ _ _ _ = pw
    refine Pa (PF (PH (I:=fun y c st3=>c = (none,()) /\ ∃ p3 pend3,Stt κ it st3 p3 pend3 /\ p3.Perm p /\ Rn le p3 0 pend3.toList lo /\ Up le p3 lo (lo + nn))
     (Q:=fun c st3=>c = (none,()) /\ ∃ p3 pend3,Stt κ it st3 p3 pend3 /\ p3.Perm p /\ Rn le p3 0 pend3.toList lo /\ Up le p3 lo (lo + nn)) ?s2 ?f2 ?i2) ?p2)
    case i2=>exact ⟨rfl,p2,pend',S2,P2,R2,U2⟩
    case f2=>exact fun c st3 h=>h
    case s2=>
     rintro y c st3 _ hy ⟨rfl,p3,pend3,S3,P3,R3,U3⟩
     refine Pa (Qe ?_)
     rw [S3.2.2.1]
     by_cases c1:pend3.size > 1
     ·rw [O7 c1]
      cases hg:pend3[pend3.size - 2]? with
      | none=>exact O9 ⟨rfl,p3,pend3,S3,P3,R3,U3⟩
      | some e=>
       obtain ⟨z2,z3,older⟩:=e
       dsimp only
       by_cases c2:older <= pw
       ·rw [O7 c2]
        exact O9 ⟨rfl,p3,pend3,S3,P3,R3,U3⟩
       ·rw [O8 c2]
        have hs3:=P3.size_eq
        refine Pa (sF o hc S3 (hp _ P3) (i:=pend3.size - 2) (by lia) R3 (by lia) fun p4 pend4 st4 S4 N4 R4 _=>?_)
        exact O9 ⟨rfl,p4,pend4,S4,N4.1.trans P3,R4,U3.of fun i h1 h2=>N4.2 i (.inr h1)⟩
     ·rw [O8 c1]
      exact O9 ⟨rfl,p3,pend3,S3,P3,R3,U3⟩
    case p2=>
     rintro c st3 ⟨rfl,p3,pend3,S3,P3,R3,U3⟩
     dsimp only
     refine Pa (P5 (Pa (P5 (O9 ⟨lo + nn,p3,(pend3.modify (pend3.size - 1) fun e=>(e.1,e.2.1,pw)).push (lo,nn,0),rfl,⟨S3.1,S3.2.1,?_,S3.2.2.2⟩,P3,?_,by lia,by lia⟩))))
     ·show ((pendingOf st3).modify ((pendingOf st3).size - 1) _).push _ = _
      rw [S3.2.2.1]
     ·rw [Q9]
      refine Rn.put (R3.same ?_) ⟨rfl,hnn,U3,rfl⟩
      apply Rs
      intro k
      rw [PB,PB,QY,QY,Array.getElem?_modify]
      split
      ·cases pend3[k]? <;> rfl
      ·rfl
  ·rw [O8 e2]
   have hnn:=m1
   have hnn2:lo + m <= p.size:=by lia
   refine Pa (Qe ?_)
   rw [S2.2.2.1]
   cases hbk:pend'.back? with
   | none=>
    dsimp only
    refine Pa (P5 (O9 ⟨lo + m,p2,pend'.push (lo,m,0),rfl,⟨S2.1,S2.2.1,?_,S2.2.2.2⟩,P2,?_,by lia,by lia⟩))
    ·show (pendingOf st2).push _ = _
     rw [S2.2.2.1]
    ·rw [Q9]
     exact R2.put ⟨rfl,hnn,U2,rfl⟩
   | some e=>
    obtain ⟨s1,n1,z1⟩:=e
    dsimp only
    generalize power' _ _ _ _ = pw
    refine Pa (PF (PH (I:=fun y c st3=>c = (none,()) /\ ∃ p3 pend3,Stt κ it st3 p3 pend3 /\ p3.Perm p /\ Rn le p3 0 pend3.toList lo /\ Up le p3 lo (lo + m))
     (Q:=fun c st3=>c = (none,()) /\ ∃ p3 pend3,Stt κ it st3 p3 pend3 /\ p3.Perm p /\ Rn le p3 0 pend3.toList lo /\ Up le p3 lo (lo + m)) ?s2 ?f2 ?i2) ?p2)
    case i2=>exact ⟨rfl,p2,pend',S2,P2,R2,U2⟩
    case f2=>exact fun c st3 h=>h
    case s2=>
     rintro y c st3 _ hy ⟨rfl,p3,pend3,S3,P3,R3,U3⟩
     refine Pa (Qe ?_)
     rw [S3.2.2.1]
     by_cases c1:pend3.size > 1
     ·rw [O7 c1]
      cases hg:pend3[pend3.size - 2]? with
      | none=>exact O9 ⟨rfl,p3,pend3,S3,P3,R3,U3⟩
      | some e=>
       obtain ⟨z2,z3,older⟩:=e
       dsimp only
       by_cases c2:older <= pw
       ·rw [O7 c2]
        exact O9 ⟨rfl,p3,pend3,S3,P3,R3,U3⟩
       ·rw [O8 c2]
        have hs3:=P3.size_eq
        refine Pa (sF o hc S3 (hp _ P3) (i:=pend3.size - 2) (by lia) R3 (by lia) fun p4 pend4 st4 S4 N4 R4 _=>?_)
        exact O9 ⟨rfl,p4,pend4,S4,N4.1.trans P3,R4,U3.of fun i h1 h2=>N4.2 i (.inr h1)⟩
     ·rw [O8 c1]
      exact O9 ⟨rfl,p3,pend3,S3,P3,R3,U3⟩
    case p2=>
     rintro c st3 ⟨rfl,p3,pend3,S3,P3,R3,U3⟩
     dsimp only
     refine Pa (P5 (Pa (P5 (O9 ⟨lo + m,p3,(pend3.modify (pend3.size - 1) fun e=>(e.1,e.2.1,pw)).push (lo,m,0),rfl,⟨S3.1,S3.2.1,?_,S3.2.2.2⟩,P3,?_,by lia,by lia⟩))))
     ·show ((pendingOf st3).modify ((pendingOf st3).size - 1) _).push _ = _
      rw [S3.2.2.1]
     ·rw [Q9]
      refine Rn.put (R3.same ?_) ⟨rfl,hnn,U3,rfl⟩
      apply Rs
      intro k
      rw [PB,PB,QY,QY,Array.getElem?_modify]
      split
      ·cases pend3[k]? <;> rfl
      ·rfl
 case p1=>
  rintro ⟨c,c'⟩ st' ⟨p',pend',hc1,S',P',R'⟩
  dsimp only at hc1
  subst hc1
  dsimp only
  refine Pa (PF (PH (I:=fun x c st'=>∃ p' pend',c = (none,()) /\ Stt κ it st' p' pend' /\ p'.Perm p /\ Rn le p' 0 pend'.toList p.size /\ pend'.size + x <= p.size)
   (Q:=fun c st'=>∃ p' pend',c = (none,()) /\ Stt κ it st' p' pend' /\ p'.Perm p /\ Rn le p' 0 pend'.toList p.size /\ pend'.size <= 1) ?s5 ?f5 ?i5) ?p5)
  case i5=>exact ⟨p',pend',rfl,S',P',R',by have:=R'.len_le;rw [P9] at this;lia⟩
  case f5=>
   rintro c st' ⟨p',pend',rfl,S',P',R',hl⟩
   exact ⟨p',pend',rfl,S',P',R',by lia⟩
  case s5=>
   rintro x c st' _ hx ⟨p',pend',rfl,S',P',R',hl⟩
   refine Pa (Qe ?_)
   rw [S'.2.2.1]
   by_cases e1:pend'.size <= 1
   ·rw [O7 e1]
    exact O9 ⟨p',pend',rfl,S',P',R',e1⟩
   rw [O8 e1]
   have hs':=P'.size_eq
   refine Pa (sF o hc S' (hp _ P') ?_ R' (by lia) fun p4 pend4 st4 S4 N4 R4 h4=>?_)
   ·exact Im (by lia)
   ·exact O9 ⟨p4,pend4,rfl,S4,N4.1.trans P',R4,by lia⟩
  case p5=>
   rintro c st' ⟨p',pend',rfl,S',P',R',hl⟩
   refine O9 (h p' pend' st' S' P' ?_)
   cases hq:pend'.toList with
   | nil=>
    rw [hq] at R'
    have:0 = p.size:=R'
    intro i j _ _ h3
    lia
   | cons e es=>
    cases es with
    | nil=>
     rw [hq] at R'
     obtain ⟨r1,r2,r3,r4⟩:=R'
     have r4':0 + e.2.1 = p.size:=r4
     rw [<- r4']
     exact r3
    | cons e2 es=>
     have:=PC List.length hq
     rw [P9] at this
     simp at this
     lia
end
section
variable {prog:Program} {w:World} {A:Around} {E:Value -> Shared -> Prop} {s:Shared}
structure Known (prog:Program) (w:World) (s:Shared) (vs:List Value) (κ:SortKind) (lt:Nat -> Nat -> Bool):Prop where
 kind:∀ (A:Around) (E:Value -> Shared -> Prop) (h':Heap) (Q:SortKind -> Shared -> Prop),(∀ b o,s.heap.get? b = some o -> h'.get? b = some o) -> 2 <= vs.length -> Q κ { s with heap:=h' } -> wpAny (model prog w) A (keyKind' vs.toArray) Q E { s with heap:=h' }
 ask:∀ (A:Around) (h':Heap) (i j:Nat) (C:Bool -> Shared -> Prop),(∀ b o,s.heap.get? b = some o -> h'.get? b = some o) -> i < vs.length -> j < vs.length -> C (lt i j) { s with heap:=h' } -> kas_ask prog w A κ vs i j C { s with heap:=h' }
theorem Known.on {vs:List Value} {κ:SortKind} {lt:Nat -> Nat -> Bool} {h:Heap} (k:Known prog w s vs κ lt) (hk:∀ b o,s.heap.get? b = some o -> h.get? b = some o):Known prog w { s with heap:=h } vs κ lt:=
 ⟨fun A E h' Q h2=>k.kind A E h' Q fun b o e=>h2 b o (hk b o e),fun A h' i j C h2=>k.ask A h' i j C fun b o e=>h2 b o (hk b o e)⟩
def lQ (vs:List Value) (p:Array Nat):Array Value:=(p.toList.map fun i=>vs.getD i Value.none).toArray
theorem Cu {vs:List Value} {p:Array Nat} (h:p.size = vs.length):(lQ vs p).size = vs.length:=by
 unfold lQ;simp [h]
theorem Ap {vs:List Value}:lQ vs (List.range vs.length).toArray = vs.toArray:=by
 unfold lQ
 congr 1
 apply List.ext_getElem
 ·simp
 ·intro i h1 h2
  simp at h1
  simp [h1]
theorem Ii {le:Nat -> Nat -> Prop} (rf:∀ a,le a a) {n:Nat} (h:n < 2) (p:Array Nat):Asc le p n:=fun i j hij hj=>by
 have e:i = j:=by lia
 subst e;exact rf _
theorem G3 {a:Addr} {vs:List Value} {n:Nat} {κ:SortKind} {lt:Nat -> Nat -> Bool} {le:Nat -> Nat -> Prop} {P:PySem.Fin -> Shared -> Prop} (o:Ord lt le) (ho:s.heap.get? a = some (seqObj "list" vs.toArray n)) (hN:vs.length <= sizeLine)
  (hk:∀ h',(∀ b o,b ≠ a -> s.heap.get? b = some o -> h'.get? b = some o) -> Known prog w { s with heap:=h' } vs κ lt)
  (h:∀ p:Array Nat,p.Perm (List.range vs.length).toArray -> Asc le p vs.length -> P (.done (.ret .none)) { s with heap:=sortedHeap s.heap a vs (lQ vs p) }):wpAny (model prog w) A (Builtin.«list.sort» ⟨[.ref a],[]⟩) P E s:=by
 have ha:a < s.heap.objs.size:=Pt ho
 obtain ⟨e1,ho1⟩:∃ e1,(s.heap.update a (Obj.mapSeq fun _=>#[])).get? a = some (seqObj "list" #[] e1):=⟨_,get?_update_seq ho fun _=>#[]⟩
 have ne1:a ≠ ((s.heap.update a (Obj.mapSeq fun _=>#[])).push (seqObj "tuple" vs.toArray 0)).objs.size:=by rw [size_push',Heap.size_update];exact Pz (Ri ha)
 have ne2:a ≠ (s.heap.update a (Obj.mapSeq fun _=>#[])).objs.size:=by rw [Heap.size_update];exact Pz ha
 have ho6:(((s.heap.update a (Obj.mapSeq fun _=>#[])).push (seqObj "tuple" vs.toArray 0)).push (seqObj "list" #[] 0)).get? a = some (seqObj "list" #[] e1):=by rw [Heap.get?_push_ne _ _ _ ne1,Heap.get?_push_ne _ _ _ ne2,ho1]
 have keep:∀ b q,b ≠ a -> s.heap.get? b = some q -> (((s.heap.update a (Obj.mapSeq fun _=>#[])).push (seqObj "tuple" vs.toArray 0)).push (seqObj "list" #[] 0)).get? b = some q:=fun b q hb hq=>
  Pu _ (Pu _ ((Heap.get?_update_ne _ _ _ _ hb).trans hq))
 have K:=hk _ keep
 rw [list_sort_plain];refine Pb (listItems_at ho rfl (Pb (listUpdate_at ho rfl (Pb (seqEpoch_at ho1 rfl (Pb (wpAny_newTuple (Pb (wpAny_newList (QQ ?_))))))))))
 dsimp only
 have hn:vs.toArray.size = vs.length:=by simp
 have fin:∀ (p:Array Nat) (st:SortSt),p.Perm (List.range vs.length).toArray -> Asc le p vs.length -> (arrOf st).map (·.2) = lQ vs p -> failedOf st = none ->
   wpAny (model prog w) A (do
    let touched:=(← seqEpoch a) != e1
    Builtin.List.listUpdate (.ref a) fun _=>(arrOf st).map (·.2)
    if let some e:=failedOf st then rule "list.sort.comparison-raised"; throw e
    if touched then rule "list.sort.modified"; raiseError "ValueError" "list modified during sort"
    ret .none) P E { s with heap:=((s.heap.update a (Obj.mapSeq fun _=>#[])).push (seqObj "tuple" vs.toArray 0)).push (seqObj "list" #[] 0) }:=fun p st hp hs ho2 hf=>by
  have hz:(lQ vs p).size <= sizeLine + 1:=by
   rw [Cu (by rw [hp.size_eq];simp)];lia
  rw [ho2,hf]
  refine Pb (seqEpoch_at ho6 rfl (Pb (listUpdate_at ho6 rfl ?_ (hsz2:=hz))))
  simp only [bne_self_eq_false,Bool.false_eq_true,if_false]
  exact Pj (h p hp hs)
 by_cases h2:vs.toArray.size < 2
 ·rw [O7 h2,O7 h2]
  refine Pb (Pj ?_)
  rw [StateT.run_pure]
  refine Pb (Pj (fin (List.range vs.length).toArray _ (Array.Perm.refl _) (Ii o.rf (by lia) _) ?_ rfl))
  rw [Ap]
  show ((vs.toArray.zip vs.toArray).map (·.2)) = vs.toArray
  apply Array.ext
  ·simp
  ·intro i h1 h2;simp
 ·rw [O8 h2,O8 h2]
  refine Pb (K.kind _ _ _ _ (fun _ _ e=>e) (by lia) ?_)
  have pos:0 < vs.length:=by lia
  have perm0:∀ p':Array Nat,p'.Perm (List.range vs.length).toArray -> ∀ i,i < p'.size -> at' p' i < vs.length:=fun p' h' i _=>KH pos h' i
  have esz:(vs.toArray.zip vs.toArray).size = vs.length:=by simp
  have er:=kas_range (vs.toArray.zip vs.toArray)
  rw [esz] at er
  have run:=Ki (prog:=prog) (w:=w) (A:=A) (E:=E) (κ:=κ) (it:=vs.toArray.zip vs.toArray) (n:=vs.length) (lt:=lt) (le:=le) (p:=(List.range vs.length).toArray) (st:=SortSt.mk' κ (vs.toArray.zip vs.toArray) #[] 7 none)
   (s:={ s with heap:=((s.heap.update a (Obj.mapSeq fun _=>#[])).push (seqObj "tuple" vs.toArray 0)).push (seqObj "list" #[] 0) })
   (Q:=fun _ st=>∃ p:Array Nat,(arrOf st).map (·.2) = lQ vs p /\ failedOf st = none /\ p.Perm (List.range vs.length).toArray /\ Asc le p vs.length) o
   (fun i j C hi hj hc=>by rw [<- kat_ask_eq (ks:=vs) (vs:=vs) rfl];exact K.ask _ _ i j C (fun _ _ e=>e) hi hj hc) ⟨rfl,er.symm,rfl,rfl⟩ perm0
   (fun p' pend' st' S' hp hu=>⟨p',kat_snds rfl S'.2.1,S'.2.2.2,hp,fun i j hij hj=>hu i j (PU _) hij (by simpa using hj)⟩)
  refine Pb (P8 run (fun r s' hr=>?_) fun _ _ e=>e)
  ·obtain ⟨rfl,p,e2,hf,hp,hs⟩:=hr
   exact fin p r.2 hp hs e2 hf
theorem xR {l:Addr} {vs:List Value} {κ:SortKind} {lt:Nat -> Nat -> Bool} {le:Nat -> Nat -> Prop} {Q:Value -> Shared -> Prop} (o:Ord lt le) (hl:s.heap.IsList l vs.toArray) (hN:vs.length <= sizeLine) (hk:Known prog w s vs κ lt)
  (h:∀ p:Array Nat,p.Perm (List.range vs.length).toArray -> Asc le p vs.length -> Q (.ref (s.heap.objs.size + 1)) { s with heap:=sortedAll s.heap vs (lQ vs p) }):wpAny (model prog w) A (call (.builtin "sorted") [.ref l]) Q E s:=by
 have hz:vs.length <= sizeLine:=hN
 have sz:((s.heap.push (seqObj "list" #[] 0)).update s.heap.objs.size (Obj.mapSeq (· ++ vs.toArray))).objs.size = s.heap.objs.size + 1:=by rw [Heap.size_update,size_push']
 have at1:(((s.heap.push (seqObj "list" #[] 0)).update s.heap.objs.size (Obj.mapSeq (· ++ vs.toArray))).push (seqObj "list" vs.toArray 0)).get? (s.heap.objs.size + 1) = some (seqObj "list" vs.toArray 0):=by rw [<- sz];exact PP _ rfl
 have old:∀ b q,s.heap.get? b = some q -> b ≠ s.heap.objs.size + 1 /\ (((s.heap.push (seqObj "list" #[] 0)).update s.heap.objs.size (Obj.mapSeq (· ++ vs.toArray))).push (seqObj "list" vs.toArray 0)).get? b = some q:=fun b q e=>by
  have hb:=Pt e
  refine ⟨Pz (Ri hb),Pu _ ?_⟩
  rw [Heap.get?_update_ne _ _ _ _ (Pz hb)]
  exact Pu _ e
 refine Calls.call_function_entry kind_sorted plain_sorted entry_sorted (args_sorted1 (.ref l)) ?_;unfold Builtin.«sorted»
 refine Pb (m:=checkCount "sorted" 1 1 _) (Pj (Pb (collect_list hl (Pb (wpAny_newList ?_ hz)) hz)))
 show wpAny (model prog w) _ _ _ _ { s with heap:=((s.heap.push (seqObj "list" #[] 0)).update s.heap.objs.size (Obj.mapSeq (· ++ vs.toArray))).push (seqObj "list" vs.toArray 0) }
 rw [sz]
 refine Pb (QQ (Q8 slot_list_sort ⟨_,at1,rfl⟩ entry_list_sort (G3 (κ:=κ) (le:=le) o at1 hN (fun h' kp=>?_) fun p hp hs=>⟨_,rfl,Pj ⟨_,rfl,h p hp hs⟩⟩) (args_list_sort _)))
 exact hk.on fun b q e=>kp b q (old b q e).1 (old b q e).2
end
section
variable {prog:Program} {w:World} {A:Around} {E:Value -> Shared -> Prop} {s:Shared}
def iT:List Int -> List Int -> Bool
 | [],[]=>false
 | [],_ :: _=>true
 | _ :: _,[]=>false
 | x :: xs,y :: ys=>if x = y then iT xs ys else decide (x < y)
theorem td:∀ a:List Int,iT a a = false
 | []=>rfl
 | x :: xs=>by unfold iT;rw [O7 rfl];exact td xs
theorem vX:∀ a b:List Int,iT a b = true -> iT b a = false
 | [],[],h=>by unfold iT at h;cases h
 | [],_ :: _,_=>by unfold iT;rfl
 | _ :: _,[],h=>by unfold iT at h;cases h
 | x :: xs,y :: ys,h=>by
  unfold iT at h ⊢
  by_cases e:x = y
  ·rw [O7 e] at h;rw [O7 e.symm];exact vX xs ys h
  ·rw [O8 e] at h
   rw [O8 (P1 e)]
   have:=QZ h
   exact PM (by lia)
theorem vJ:∀ a b c:List Int,iT b a = false -> iT c b = false -> iT c a = false
 | [],_,[],_,_=>rfl
 | [],[],_ :: _,_,h=>by unfold iT at h;cases h <;> rfl
 | [],_ :: _,_ :: _,_,_=>by unfold iT;rfl
 | _ :: _,[],_,h,_=>by unfold iT at h;cases h
 | x :: xs,y :: ys,[],_,h=>by unfold iT at h;cases h
 | x :: xs,y :: ys,z :: zs,h1,h2=>by
  unfold iT at h1 h2 ⊢
  by_cases e1:y = x
  ·rw [O7 e1] at h1
   by_cases e2:z = y
   ·rw [O7 e2] at h2
    rw [O7 (e2.trans e1)]
    exact vJ xs ys zs h1 h2
   ·rw [O8 e2] at h2
    rw [O8 (by lia)]
    have:=Qr h2
    exact PM (by lia)
  ·rw [O8 e1] at h1
   have g1:=Qr h1
   by_cases e2:z = y
   ·rw [O8 (by lia)]
    exact PM (by lia)
   ·rw [O8 e2] at h2
    have g2:=Qr h2
    rw [O8 (by lia)]
    exact PM (by lia)
theorem Ha (f:Nat -> List Int):Ord (fun i j=>iT (f i) (f j)) (fun i j=>iT (f j) (f i) = false):=
 ⟨fun a b c h1 h2=>vJ _ _ _ h1 h2,fun a=>td _,fun a b h=>vX _ _ h,fun a b h=>h⟩
def Mu (h:Heap) (v:Value) (ns:List Int):Prop:=∃ a o xs n,v = .ref a /\ h.get? a = some o /\ o.cls = .type "tuple" /\ o.data = .seq xs n /\ IntsAre xs.toList ns
theorem HS:∀ (xs ys:List Value) (ns ms:List Int) (i:Nat) (fin:Bool) (Q:Bool -> Shared -> Prop),IntsAre xs ns -> IntsAre ys ms -> (fin = decide (xs.length < ys.length)) -> Q (iT ns ms) s ->
  KatLex prog w A true fin Q (xs.zip ys) i s:=by
 intro xs
 induction xs with
 | nil=>
  intro ys ns ms i fin Q hx hy hf hq
  cases hx
  rw [List.zip_nil_left]
  show Q fin s
  rw [hf]
  cases hy with
  | nil=>exact hq
  | cons b u ty=>exact hq
 | cons x xs ih=>
  intro ys ns ms i fin Q hx hy hf hq
  cases hx with
  | cons a t tx=>
   cases hy with
   | nil=>
    rw [List.zip_nil_right]
    show Q fin s
    rw [hf]
    exact hq
   | @cons c u ys' ms' ty=>
    rw [Rt]
    refine kat_cons ((SeqAt.EqAt.int_int a t c u) prog w _ _ ?_)
    unfold iT at hq
    by_cases e:a = c
    ·rw [O7 e] at hq
     have eb:(a == c) = true:=by simpa using e
     rw [eb]
     exact kat_yes (ih ys' _ ms' (i + 1) fin Q tx ty (by rw [hf];simp) hq)
    ·rw [O8 e] at hq
     have eb:(a == c) = false:=by simpa using e
     rw [eb]
     refine kat_no ?_
     cases q:i == 0 with
     | true=>exact oneLt_int hq
     | false=>exact kat_one _ _ (lt_int hq)
theorem BM {vs:List Value} {f:Nat -> List Int} (hv:∀ i,i < vs.length -> Mu s.heap (vs.getD i Value.none) (f i) /\ f i ≠ []):Known prog w s vs (tuples' true) fun i j=>iT (f i) (f j):=by
 refine ⟨fun A E h' Q hk h2 hq=>?_,fun A h' i j C hk hi hj hc=>?_⟩
 ·have hv':∀ v ∈ vs,∃ n t rest a o xs k,v = .ref a /\ h'.get? a = some o /\ o.cls = .type "tuple" /\ o.data = .seq xs k /\ xs.toList = Value.int n t :: rest:=fun v hm=>by
   obtain ⟨i,hi,e⟩:=List.getElem_of_mem hm
   obtain ⟨⟨a,o,xs,k,e1,e2,e3,e4,e5⟩,ne⟩:=hv i hi
   have ev:vs.getD i Value.none = v:=by rw [RV,P7 hi];exact e
   rw [ev] at e1
   revert e5 ne
   generalize f i = ns
   generalize ex:xs.toList = L
   intro ne e5
   cases e5 with
   | nil=>exact absurd rfl ne
   | @cons n t vs' ns' tl=>exact ⟨n,t,vs',a,o,xs,k,e1,hk _ _ e2,e3,e4,ex⟩
  have fs:∀ L:List Value,(∀ v ∈ L,∃ n t rest a o xs k,v = .ref a /\ h'.get? a = some o /\ o.cls = .type "tuple" /\ o.data = .seq xs k /\ xs.toList = Value.int n t :: rest) -> ∃ gs,KatTups h' L gs /\ gs.length = L.length /\ ∀ v ∈ gs,∃ n t,v = Value.int n t:=by
   intro L
   induction L with
   | nil=>exact fun _=>⟨[],.nil,rfl,fun _ h=>(by cases h)⟩
   | cons v L ih=>
    intro hL
    obtain ⟨gs,g1,g2,g3⟩:=ih fun u hu=>hL u (Pi _ hu)
    obtain ⟨n,t,rest,a,o,xs,k,rfl,e2,e3,e4,e5⟩:=hL v Pg
    refine ⟨.int n t :: gs,.cons e2 e3 e4 (by rw [<- QY,e5];rfl) g1,by rw [Pr,Pr,g2],fun u hu=>?_⟩
    rcases Pn.mp hu with rfl | hu
    ·exact ⟨n,t,rfl⟩
    ·exact g3 u hu
  obtain ⟨gs,g1,g2,g3⟩:=fs vs hv'
  refine kat_kind (s:={ s with heap:=h' }) (T:=.type "int") g1 (by lia) (fun v hm=>?_) (by decide) hq
  obtain ⟨n,t,rfl⟩:=g3 v hm
  exact Looks.of_pure rfl
 ·obtain ⟨⟨a,o,xs,k,e1,e2,e3,e4,e5⟩,_⟩:=hv i hi
  obtain ⟨⟨a',o',xs',k',e1',e2',e3',e4',e5'⟩,_⟩:=hv j hj
  unfold kas_ask
  rw [e1,e1']
  refine kat_lt (s:={ s with heap:=h' }) (hk _ _ e2) e4 (hk _ _ e2') e4' ?_
  refine HS (s:={ s with heap:=h' }) _ _ _ _ _ _ _ e5 e5' ?_ hc
  simp
theorem uj:∀ {vs:List Value} {ns:List Int},IntsAre vs ns -> ∀ i,i < vs.length -> ∃ t,vs.getD i Value.none = .int (ns.getD i 0) t
 | _,_,.nil,i,h=>by simp at h
 | _,_,.cons n t _,0,_=>⟨t,rfl⟩
 | _,_,.cons n t tl,i + 1,h=>by
  obtain ⟨u,e⟩:=uj tl i (by simpa using h)
  exact ⟨u,by simpa using e⟩
theorem B4 {vs:List Value} {ns:List Int} (hI:IntsAre vs ns):Known prog w s vs oneType' fun i j=>decide (ns.getD i 0 < ns.getD j 0):=by
 refine ⟨fun A E h' Q hk h2 hq=>?_,fun A h' i j C hk hi hj hc=>?_⟩
 ·rw [ksk_kind (keys:=vs.toArray) (kz:=ns) (by simpa using hI) (by simpa using h2)]
  exact Pj hq
 ·obtain ⟨t,e1⟩:=uj hI i hi
  obtain ⟨u,e2⟩:=uj hI j hj
  unfold kas_ask
  rw [e1,e2,keyLt'_oneType]
  exact oneLt_int hc
theorem FX (f:Nat -> Int):Ord (fun i j=>decide (f i < f j)) (fun i j=>f i <= f j):=
 ⟨fun _ _ _ h k=>Int.le_trans h k,fun _=>Pl _,fun a b h=>Int.le_of_lt (QZ h),fun a b h=>by have:=Qr h;show f b <= f a;lia⟩
theorem ju {vs:List Value} {ns:List Int} (hI:IntsAre vs ns):∀ L:List Nat,(∀ i ∈ L,i < vs.length) -> IntsAre (L.map fun i=>vs.getD i Value.none) (L.map fun i=>ns.getD i 0)
 | [],_=>.nil
 | i :: L,h=>by
  obtain ⟨t,e⟩:=uj hI i (h i Pg)
  rw [Ps,Ps,e]
  exact .cons _ t (ju hI L fun j hj=>h j (Pi _ hj))
theorem Al:∀ {vs:List Value} {ns:List Int},IntsAre vs ns -> vs.length = ns.length
 | _,_,.nil=>rfl
 | _,_,.cons n t tl=>by rw [Pr,Pr,Al tl]
theorem zf {l:Addr} {vs:List Value} {ns:List Int} {Q:Value -> Shared -> Prop} (hl:s.heap.IsList l vs.toArray) (hI:IntsAre vs ns) (hN:vs.length <= sizeLine)
  (h:∀ (out:Array Value) ms,IntsAre out.toList ms -> ms.Perm ns -> ms.Pairwise (· <= ·) -> Q (.ref (s.heap.objs.size + 1)) { s with heap:=sortedAll s.heap vs out }):wpAny (model prog w) A (call (.builtin "sorted") [.ref l]) Q E s:=by
 refine xR (FX fun i=>ns.getD i 0) hl hN (B4 hI) fun p hp ha=>?_
 have e:=Al hI
 have hb:∀ i ∈ p.toList,i < vs.length:=fun i hi=>by simpa using (Rj.mp hp).mem_iff.mp hi
 rw [e] at hp ha
 obtain ⟨p1,p2⟩:=B6 (vs:=ns) (d:=0) hp ha
 exact h (lQ vs p) _ (by simpa [lQ] using ju hI p.toList hb) p1 (p2 _ fun i j _ _ h=>h)
end
end Srt
namespace L2
open PySem
def KI (K:W.Frag):List V -> Hp -> VK -> Prop:=fun xs H Q=>∃ p ys,xs = [.ref p] /\ ((SqL K H p ys /\ ∀ l,H l = none -> Q (.ref l) (upd H l (.tup ys))) \/ (SqT K H p ys /\ Q (.ref p) H))
def Lz (K:W.Frag):List V -> Hp -> VK -> Prop:=fun xs H Q=>∃ p ys,xs = [.ref p] /\ (SqL K H p ys \/ SqT K H p ys) /\ ∀ l,H l = none -> Q (.ref l) (upd H l (.lst ys))
def Lh:List V -> Hp -> VK -> Prop:=fun xs H Q=>∃ i j,xs = [.int i,.int j] /\ Q (.int (if j > i then j else i)) H
def L3:List V -> Hp -> VK -> Prop:=fun xs H Q=>∃ i j,xs = [.int i,.int j] /\ Q (.int (if j < i then j else i)) H
def NP (K:W.Frag) (ta:TE):TT:=fun σ H Q=>ta σ H fun x H'=>∃ k,Ht K x H' k /\ Q k H'
def Av (K:W.Frag):List V -> Hp -> VK -> Prop:=fun xs H Q=>∃ p,∃ ns:List Int,xs = [.ref p] /\ SqL K H p (ns.map V.int) /\ ns.length < 30000 /\
 ∀ (ms:List Int) l,ms.Perm ns -> ms.Pairwise (· <= ·) -> H l = none -> Q (.ref l) (upd H l (.lst (ms.map V.int)))
def Jk (K:W.Frag):List V -> Hp -> VK -> Prop:=fun xs H Q=>∃ p,∃ ns:List Int,xs = [.ref p] /\ SqL K H p (ns.map V.int) /\ Q (.int ns.sum) H
def Jn (n:Nat):It:=⟨fun i _=>i < n,fun i H x H'=>H' = H /\ x = .int (2 * i),fun i _=>n <= i⟩
def IT (ta:TA):TI:=fun σ H R=>ta σ H fun vs H1=>∃ j:Int,vs = [.int 0,.int j,.int 2] /\ 0 <= j /\ j < 1000000 /\ R (Jn ((j + 1) / 2).toNat) H1
def J4 (K:W.Frag) (tl:TE):TI:=fun σ H R=>tl σ H fun x H1=>∃ a,x = .ref a /\ (((∃ xs,SqL K H1 a xs) /\ R (Itl K a) H1) \/ ((∃ xs,SqT K H1 a xs) /\ R (Itt K a) H1))
end L2
namespace M
open PySem L2
inductive D where
 | non | bl (b:Bool) | int (i:Int) | str (x:Str) | ty (n:String) | lst (l:List D) | tup (l:List D) | scr (l:List D) | ins (N:Str) (ns:List Str) (l:List D) | dic (ks:List (List Int)) | dif (ks:List (List Int)) | mtp (l:List D)
 deriving Inhabited
theorem cR {S S':Hp} (s:Same S S') {a:Addr} {u:HO} (h:Rd S a u):Rd S' a u:=h.elim (fun e=>.inl (s _ _ e)) fun ⟨o,e⟩=>.inr ⟨o,s _ _ e⟩
theorem fb {K:W.Frag} {S S':Hp} (s:Same S S') {a:Addr} {xs:List V} (h:SqL K S a xs):SqL K S' a xs:=h.elim (fun e=>.inl (cR s e)) .inr
theorem ba {K:W.Frag} {S S':Hp} (s:Same S S') {a:Addr} {xs:List V} (h:SqT K S a xs):SqT K S' a xs:=h.elim (fun e=>.inl (cR s e)) .inr
def TpA (K:W.Frag) (S:Hp) (a:Addr) (xs:List V):Prop:=SqT K S a xs
theorem TpA.of {K:W.Frag} {S:Hp} {a:Addr} {xs:List V} (h:S a = some (.tup xs)):TpA K S a xs:=SqT.of h
theorem TpA.sq {K:W.Frag} {S:Hp} {a:Addr} {xs:List V} (h:TpA K S a xs):SqT K S a xs:=h
theorem TpA.mono {K:W.Frag} {S S':Hp} (s:Same S S') {a:Addr} {xs:List V} (h:TpA K S a xs):TpA K S' a xs:=ba s h
def BZ (ks:List (List Int)):List (List Key × V):=ks.map fun k=>(k.map Sum.inl,V.bl true)
mutual
def Den (K:W.Frag) (S:Hp):D -> V -> Prop
 | .non,v=>v = .non
 | .bl b,v=>v = .bl b
 | .int i,v=>v = .int i
 | .str x,v=>v = .str x
 | .ty x,v=>v = .ty x
 | .lst l,v=>∃ p xs,v = .ref p /\ Rd S p (.lst xs) /\ Dens K S l xs
 | .tup l,v=>∃ p xs,v = .ref p /\ TpA K S p xs /\ Dens K S l xs
 | .scr l,v=>∃ p xs,v = .ref p /\ SqL K S p xs /\ Dens K S l xs
 | .mtp l,v=>∃ p xs,v = .ref p /\ SqT K S p xs /\ Dens K S l xs
 | .ins N ns l,v=>∃ p C dx fs,v = .ref p /\ W.nsIn K mainGlobals N = some (some (.ref C)) /\ S p = some (.ins C dx fs) /\ fs.map (·.1) = ns /\ Dens K S l (fs.map (·.2))
 | .dic ks,v=>∃ p,v = .ref p /\ Rd S p (.dT (BZ ks))
 | .dif ks,v=>∃ p o,v = .ref p /\ S p = some (.frz o (.dT (BZ ks)))
def Dens (K:W.Frag) (S:Hp):List D -> List V -> Prop
 | [],xs=>xs = []
 | d :: ds,xs=>∃ y ys,xs = y :: ys /\ Den K S d y /\ Dens K S ds ys
end
section
variable {K:W.Frag} {S S' H H':Hp}
theorem Dens.nil:Dens K S [] []:=by unfold Dens;rfl
theorem Dens.cons {d:D} {ds:List D} {y:V} {ys:List V} (h:Den K S d y) (k:Dens K S ds ys):Dens K S (d :: ds) (y :: ys):=by unfold Dens;exact ⟨y,ys,rfl,h,k⟩
theorem Dens.nil_of {xs:List V} (h:Dens K S [] xs):xs = []:=by unfold Dens at h;exact h
theorem Dens.cons_of {d:D} {ds:List D} {xs:List V} (h:Dens K S (d :: ds) xs):∃ y ys,xs = y :: ys /\ Den K S d y /\ Dens K S ds ys:=by unfold Dens at h;exact h
theorem Dens.length:∀ {ds:List D} {xs:List V},Dens K S ds xs -> ds.length = xs.length
 | [],_,h=>by rw [h.nil_of];rfl
 | _ :: _,_,h=>by
  obtain ⟨y,ys,rfl,_,k⟩:=h.cons_of
  rw [Pr,Pr,k.length]
theorem Dens.append:∀ {ds es:List D} {xs ys:List V},Dens K S ds xs -> Dens K S es ys -> Dens K S (ds ++ es) (xs ++ ys)
 | [],_,_,_,h,k=>by rw [h.nil_of];exact k
 | _ :: _,_,_,_,h,k=>by
  obtain ⟨y,ys,rfl,a,b⟩:=h.cons_of
  exact .cons a (b.append k)
theorem Dens.get:∀ {ds:List D} {xs:List V} {i:Nat} {d:D},Dens K S ds xs -> ds[i]? = some d -> ∃ x,xs[i]? = some x /\ Den K S d x
 | [],_,_,_,_,e=>by simp at e
 | _ :: _,_,0,_,h,e=>by
  obtain ⟨y,ys,rfl,a,b⟩:=h.cons_of
  simp at e;subst e
  exact ⟨y,rfl,a⟩
 | _ :: _,_,i + 1,_,h,e=>by
  obtain ⟨y,ys,rfl,a,b⟩:=h.cons_of
  obtain ⟨x,e1,h1⟩:=b.get (i:=i) (by simpa using e)
  exact ⟨x,by simpa using e1,h1⟩
theorem Dens.set:∀ {ds:List D} {xs:List V} {d:D} {x:V} (i:Nat),Dens K S ds xs -> Den K S d x -> Dens K S (ds.set i d) (xs.set i x)
 | [],_,_,_,_,h,_=>by rw [h.nil_of];exact .nil
 | _ :: _,_,_,_,0,h,k=>by
  obtain ⟨y,ys,rfl,a,b⟩:=h.cons_of
  exact .cons k b
 | _ :: _,_,_,_,i + 1,h,k=>by
  obtain ⟨y,ys,rfl,a,b⟩:=h.cons_of
  exact .cons a (b.set i k)
theorem Dens.take:∀ {ds:List D} {xs:List V} (i:Nat),Dens K S ds xs -> Dens K S (ds.take i) (xs.take i)
 | [],_,_,h=>by rw [h.nil_of];simp;exact .nil
 | _ :: _,_,0,h=>by simp;exact .nil
 | _ :: _,_,i + 1,h=>by
  obtain ⟨y,ys,rfl,a,b⟩:=h.cons_of
  exact .cons a (b.take i)
theorem Dens.drop:∀ {ds:List D} {xs:List V} (i:Nat),Dens K S ds xs -> Dens K S (ds.drop i) (xs.drop i)
 | [],_,_,h=>by rw [h.nil_of];simp;exact .nil
 | _ :: _,_,0,h=>h
 | _ :: _,_,i + 1,h=>by
  obtain ⟨y,ys,rfl,a,b⟩:=h.cons_of
  exact b.drop i
mutual
theorem Den.mono (s:Same S S'):∀ {d:D} {v:V},Den K S d v -> Den K S' d v
 | .dic _,_,h=>by
  unfold Den at *
  obtain ⟨p,e,h1⟩:=h
  exact ⟨p,e,cR s h1⟩
 | .dif _,_,h=>by
  unfold Den at *
  obtain ⟨p,o,e,h1⟩:=h
  exact ⟨p,o,e,s _ _ h1⟩
 | .non,_,h=>by unfold Den at *;exact h
 | .bl _,_,h=>by unfold Den at *;exact h
 | .int _,_,h=>by unfold Den at *;exact h
 | .str _,_,h=>by unfold Den at *;exact h
 | .ty _,_,h=>by unfold Den at *;exact h
 | .lst _,_,h=>by
  unfold Den at *
  obtain ⟨p,xs,e,h1,h2⟩:=h
  exact ⟨p,xs,e,cR s h1,Dens.mono s h2⟩
 | .tup _,_,h=>by
  unfold Den at *
  obtain ⟨p,xs,e,h1,h2⟩:=h
  exact ⟨p,xs,e,TpA.mono s h1,Dens.mono s h2⟩
 | .scr _,_,h=>by
  unfold Den at *
  obtain ⟨p,xs,e,h1,h2⟩:=h
  exact ⟨p,xs,e,fb s h1,Dens.mono s h2⟩
 | .mtp _,_,h=>by
  unfold Den at *
  obtain ⟨p,xs,e,h1,h2⟩:=h
  exact ⟨p,xs,e,ba s h1,Dens.mono s h2⟩
 | .ins _ _ _,_,h=>by
  unfold Den at *
  obtain ⟨p,C,dx,fs,e,h0,h1,h2,h3⟩:=h
  exact ⟨p,C,dx,fs,e,h0,s _ _ h1,h2,Dens.mono s h3⟩
theorem Dens.mono (s:Same S S'):∀ {ds:List D} {xs:List V},Dens K S ds xs -> Dens K S' ds xs
 | [],_,h=>by rw [h.nil_of];exact .nil
 | _ :: _,_,h=>by
  obtain ⟨y,ys,rfl,a,b⟩:=h.cons_of
  exact .cons (Den.mono s a) (Dens.mono s b)
end
theorem den_int {i:Int} {v:V}:Den K S (.int i) v ↔ v = .int i:=by unfold Den;exact Qs
theorem den_bl {b:Bool} {v:V}:Den K S (.bl b) v ↔ v = .bl b:=by unfold Den;exact Qs
theorem den_non {v:V}:Den K S .non v ↔ v = .non:=by unfold Den;exact Qs
theorem den_str {x:Str} {v:V}:Den K S (.str x) v ↔ v = .str x:=by unfold Den;exact Qs
theorem den_ty {x:String} {v:V}:Den K S (.ty x) v ↔ v = .ty x:=by unfold Den;exact Qs
theorem den_tup {l:List D} {v:V}:Den K S (.tup l) v ↔ ∃ p xs,v = .ref p /\ TpA K S p xs /\ Dens K S l xs:=by
 constructor
 ·intro h;unfold Den at h;exact h
 ·intro h;unfold Den;exact h
theorem iP {l:List D} {v:V} (h:Den K S (.tup l) v):∃ p xs,v = .ref p /\ SqT K S p xs /\ Dens K S l xs:=by
 obtain ⟨p,xs,e,h1,h2⟩:=den_tup.mp h
 exact ⟨p,xs,e,h1.sq,h2⟩
theorem den_lst {l:List D} {v:V}:Den K S (.lst l) v ↔ ∃ p xs,v = .ref p /\ Rd S p (.lst xs) /\ Dens K S l xs:=by
 constructor
 ·intro h;unfold Den at h;exact h
 ·intro h;unfold Den;exact h
theorem den_scr {l:List D} {v:V}:Den K S (.scr l) v ↔ ∃ p xs,v = .ref p /\ SqL K S p xs /\ Dens K S l xs:=by
 constructor
 ·intro h;unfold Den at h;exact h
 ·intro h;unfold Den;exact h
theorem den_mtp {l:List D} {v:V}:Den K S (.mtp l) v ↔ ∃ p xs,v = .ref p /\ SqT K S p xs /\ Dens K S l xs:=by
 constructor
 ·intro h;unfold Den at h;exact h
 ·intro h;unfold Den;exact h
theorem den_ins {N:Str} {ns:List Str} {l:List D} {v:V}:Den K S (.ins N ns l) v ↔ ∃ p C dx fs,v = .ref p /\ W.nsIn K mainGlobals N = some (some (.ref C)) /\ S p = some (.ins C dx fs) /\ fs.map (·.1) = ns /\ Dens K S l (fs.map (·.2)):=by
 constructor
 ·intro h;unfold Den at h;exact h
 ·intro h;unfold Den;exact h
def DenP (K:W.Frag) (S H:Hp) (d:D) (v:V):Prop:=Den K S d v \/ ∃ l p xs,d = .lst l /\ v = .ref p /\ H p = some (.lst xs) /\ Dens K S l xs
theorem DenP.lst {l:List D} {v:V} (s:Same S H) (h:DenP K S H (.lst l) v):∃ p xs,v = .ref p /\ Rd H p (.lst xs) /\ Dens K S l xs:=by
 rcases h with h | ⟨l',p,xs,e,e1,e2,e3⟩
 ·obtain ⟨p,xs,e,e1,e2⟩:=den_lst.mp h
  exact ⟨p,xs,e,cR s e1,e2⟩
 ·cases e
  exact ⟨p,xs,e1,.inl e2,e3⟩
theorem DenP.tup {l:List D} {v:V} (s:Same S H) (h:DenP K S H (.tup l) v):∃ p xs,v = .ref p /\ SqT K H p xs /\ Dens K S l xs:=by
 rcases h with h | ⟨l',p,xs,e,e1,e2,e3⟩
 ·obtain ⟨p,xs,e,e1,e2⟩:=iP h
  exact ⟨p,xs,e,ba s e1,e2⟩
 ·cases e
theorem DenP.scr {l:List D} {v:V} (s:Same S H) (h:DenP K S H (.scr l) v):∃ p xs,v = .ref p /\ SqL K H p xs /\ Dens K S l xs:=by
 rcases h with h | ⟨l',p,xs,e,e1,e2,e3⟩
 ·obtain ⟨p,xs,e,e1,e2⟩:=den_scr.mp h
  exact ⟨p,xs,e,fb s e1,e2⟩
 ·cases e
theorem DenP.int {i:Int} {v:V} (h:DenP K S H (.int i) v):v = .int i:=by
 rcases h with h | ⟨l',p,xs,e,_⟩
 ·exact den_int.mp h
 ·cases e
theorem DenP.bl {i:Bool} {v:V} (h:DenP K S H (.bl i) v):v = .bl i:=by
 rcases h with h | ⟨l',p,xs,e,_⟩
 ·exact den_bl.mp h
 ·cases e
theorem DenP.str {i:Str} {v:V} (h:DenP K S H (.str i) v):v = .str i:=by
 rcases h with h | ⟨l',p,xs,e,_⟩
 ·exact den_str.mp h
 ·cases e
theorem DenP.non {v:V} (h:DenP K S H .non v):v = .non:=by
 rcases h with h | ⟨l',p,xs,e,_⟩
 ·exact den_non.mp h
 ·cases e
theorem DenP.ty {i:String} {v:V} (h:DenP K S H (.ty i) v):v = .ty i:=by
 rcases h with h | ⟨l',p,xs,e,_⟩
 ·exact den_ty.mp h
 ·cases e
structure Ext (S H S' H':Hp):Prop where
 sh:Same S S'
 sub:Same S' H'
 al:∀ b o,H b = some o -> S b = none -> H' b = some o /\ S' b = none
theorem Ext.refl (h:Same S H):Ext S H S H:=⟨Same.refl _,h,fun _ _ h n=>⟨h,n⟩⟩
theorem Ext.trans {S1 H1 S2 H2:Hp} (a:Ext S H S1 H1) (b:Ext S1 H1 S2 H2):Ext S H S2 H2:=⟨a.sh.trans b.sh,b.sub,fun c o h n=>b.al c o (a.al c o h n).1 (a.al c o h n).2⟩
theorem Ext.same (a:Ext S H S' H') (s:Same S H):Same H H':=fun b o h=>by
 cases q:S b with
 | none=>exact (a.al b o h q).1
 | some u=>
  have:=s b u q
  rw [h] at this
  cases this
  exact a.sub b o (a.sh b o q)
theorem Ext.new (s:Same S H) {p:Addr} {o:HO} (h:H p = none):Ext S H (upd S p o) (upd H p o) where
 sh:=fun b u e=>by rw [a8 (bh e (s.free h))];exact e
 sub:=fun b u e=>by
  by_cases hb:b = p
  ·subst hb;rw [aX] at e ⊢;exact e
  ·rw [a8 hb] at e ⊢;exact s b u e
 al:=fun b u e n=>by
  have hb:=bh e h
  rw [a8 hb,a8 hb]
  exact ⟨e,n⟩
theorem Ext.own (s:Same S H) {p:Addr} {o:HO} (h:H p = none):Ext S H S (upd H p o) where
 sh:=Same.refl _
 sub:=fun b u e=>by rw [a8 (bh (s b u e) h)];exact s b u e
 al:=fun b u e n=>by
  have hb:=bh e h
  rw [a8 hb]
  exact ⟨e,n⟩
theorem DenP.mono {d:D} {v:V} (e:Ext S H S' H') (s:Same S H) (h:DenP K S H d v):DenP K S' H' d v:=by
 rcases h with h | ⟨l,p,xs,h1,h2,h3,h4⟩
 ·exact .inl (h.mono e.sh)
 ·exact .inr ⟨l,p,xs,h1,h2,e.same s _ _ h3,h4.mono e.sh⟩
inductive DensP (K:W.Frag) (S H:Hp):List D -> List V -> Prop where
 | nil:DensP K S H [] []
 | cons {d ds v vs}:DenP K S H d v -> DensP K S H ds vs -> DensP K S H (d :: ds) (v :: vs)
inductive O where
 | sh (d:D) | lst (l:List O) | tup (l:List O) | dic (ks:List (List Int)) | hd (p:Addr) (ks:List (List Int)) (os:List O)
 deriving Inhabited
mutual
def O.d:O -> D
 | .sh d=>d
 | .dic ks=>.dic ks
 | .hd _ ks os=>(O.ds os).headD (.dic ks)
 | .lst l=>.lst (O.ds l)
 | .tup l=>.tup (O.ds l)
def O.ds:List O -> List D
 | []=>[]
 | o :: l=>o.d :: O.ds l
end
mutual
def Own (K:W.Frag) (S H:Hp):O -> V -> List Addr -> Prop
 | .sh d,v,fp=>fp = [] /\ Den K S d v
 | .lst l,v,fp=>∃ a xs f,v = .ref a /\ fp = a :: f /\ H a = some (.lst xs) /\ Owns K S H l xs f
 | .tup l,v,fp=>∃ a xs f,v = .ref a /\ fp = a :: f /\ H a = some (.tup xs) /\ Owns K S H l xs f
 | .dic ks,v,fp=>∃ a,v = .ref a /\ fp = [a] /\ H a = some (.dT (BZ ks))
 | .hd p ks os,v,fp=>∃ xs f,v = xs.headD (.ref p) /\ fp = p :: f /\ H p = some (.dT (BZ ks)) /\ Owns K S H os xs f
def Owns (K:W.Frag) (S H:Hp):List O -> List V -> List Addr -> Prop
 | [],xs,fp=>xs = [] /\ fp = []
 | o :: l,xs,fp=>∃ y ys f g,xs = y :: ys /\ fp = f ++ g /\ Own K S H o y f /\ Owns K S H l ys g
end
theorem den_dic {ks:List (List Int)} {v:V}:Den K S (.dic ks) v ↔ ∃ p,v = .ref p /\ Rd S p (.dT (BZ ks)):=by unfold Den;exact Qs
theorem own_dic {ks:List (List Int)} {v:V} {fp:List Addr}:Own K S H (.dic ks) v fp ↔ ∃ a,v = .ref a /\ fp = [a] /\ H a = some (.dT (BZ ks)):=by unfold Own;exact Qs
theorem own_hd {p:Addr} {ks:List (List Int)} {os:List O} {v:V} {fp:List Addr}:Own K S H (.hd p ks os) v fp ↔ ∃ xs f,v = xs.headD (.ref p) /\ fp = p :: f /\ H p = some (.dT (BZ ks)) /\ Owns K S H os xs f:=by
 constructor
 ·intro h;unfold Own at h;exact h
 ·intro h;unfold Own;exact h
theorem own_sh {d:D} {v:V} {fp:List Addr}:Own K S H (.sh d) v fp ↔ fp = [] /\ Den K S d v:=by unfold Own;exact Qs
theorem own_lst {l:List O} {v:V} {fp:List Addr}:Own K S H (.lst l) v fp ↔ ∃ a xs f,v = .ref a /\ fp = a :: f /\ H a = some (.lst xs) /\ Owns K S H l xs f:=by
 constructor
 ·intro h;unfold Own at h;exact h
 ·intro h;unfold Own;exact h
theorem own_tup {l:List O} {v:V} {fp:List Addr}:Own K S H (.tup l) v fp ↔ ∃ a xs f,v = .ref a /\ fp = a :: f /\ H a = some (.tup xs) /\ Owns K S H l xs f:=by
 constructor
 ·intro h;unfold Own at h;exact h
 ·intro h;unfold Own;exact h
theorem Owns.nil:Owns K S H [] [] []:=by unfold Owns;exact ⟨rfl,rfl⟩
theorem Owns.cons {o:O} {l:List O} {y:V} {ys:List V} {f g:List Addr} (h:Own K S H o y f) (k:Owns K S H l ys g):Owns K S H (o :: l) (y :: ys) (f ++ g):=by unfold Owns;exact ⟨y,ys,f,g,rfl,rfl,h,k⟩
theorem Owns.nil_of {xs:List V} {fp:List Addr} (h:Owns K S H [] xs fp):xs = [] /\ fp = []:=by unfold Owns at h;exact h
theorem Owns.cons_of {o:O} {l:List O} {xs:List V} {fp:List Addr} (h:Owns K S H (o :: l) xs fp):∃ y ys f g,xs = y :: ys /\ fp = f ++ g /\ Own K S H o y f /\ Owns K S H l ys g:=by unfold Owns at h;exact h
theorem Owns.length:∀ {l:List O} {xs:List V} {fp:List Addr},Owns K S H l xs fp -> l.length = xs.length
 | [],_,_,h=>by rw [h.nil_of.1];rfl
 | _ :: _,_,_,h=>by
  obtain ⟨y,ys,f,g,rfl,rfl,_,k⟩:=h.cons_of
  rw [Pr,Pr,k.length]
theorem Owns.append:∀ {l m:List O} {xs ys:List V} {f g:List Addr},Owns K S H l xs f -> Owns K S H m ys g -> Owns K S H (l ++ m) (xs ++ ys) (f ++ g)
 | [],_,_,_,_,_,h,k=>by rw [h.nil_of.1,h.nil_of.2];exact k
 | _ :: _,_,_,_,_,_,h,k=>by
  obtain ⟨y,ys,f,g,rfl,rfl,a,b⟩:=h.cons_of
  rw [PQ]
  exact .cons a (b.append k)
theorem ut:∀ {ds:List D} {xs:List V},Dens K S ds xs -> Owns K S H (ds.map .sh) xs []
 | [],_,h=>by rw [h.nil_of];exact .nil
 | _ :: _,_,h=>by
  obtain ⟨y,ys,rfl,a,b⟩:=h.cons_of
  exact .cons (f:=[]) (own_sh.mpr ⟨rfl,a⟩) (ut b)
theorem o8:∀ {ds:List D} {xs:List V} {fp:List Addr},Owns K S H (ds.map .sh) xs fp -> Dens K S ds xs /\ fp = []
 | [],_,_,h=>by rw [h.nil_of.1,h.nil_of.2];exact ⟨.nil,rfl⟩
 | _ :: _,_,_,h=>by
  obtain ⟨y,ys,f,g,rfl,rfl,a,b⟩:=h.cons_of
  obtain ⟨e,a⟩:=own_sh.mp a
  obtain ⟨b,e2⟩:=o8 b
  exact ⟨.cons a b,by rw [e,e2];rfl⟩
mutual
theorem Own.mono (s:Same S S'):∀ {o:O} {v:V} {fp:List Addr},(∀ b ∈ fp,H' b = H b) -> Own K S H o v fp -> Own K S' H' o v fp
 | .dic _,_,_,k,h=>by
  obtain ⟨a,e,rfl,h1⟩:=own_dic.mp h
  exact own_dic.mpr ⟨a,e,rfl,by rw [k a Pg];exact h1⟩
 | .hd _ _ _,_,_,k,h=>by
  obtain ⟨xs,f,e,rfl,h1,h2⟩:=own_hd.mp h
  exact own_hd.mpr ⟨xs,f,e,rfl,by rw [k _ Pg];exact h1,Owns.mono s (fun b hb=>k b (Pi _ hb)) h2⟩
 | .sh _,_,_,k,h=>by
  obtain ⟨e,d⟩:=own_sh.mp h
  exact own_sh.mpr ⟨e,d.mono s⟩
 | .lst _,_,_,k,h=>by
  obtain ⟨a,xs,f,e,rfl,h1,h2⟩:=own_lst.mp h
  exact own_lst.mpr ⟨a,xs,f,e,rfl,by rw [k a Pg];exact h1,Owns.mono s (fun b hb=>k b (Pi _ hb)) h2⟩
 | .tup _,_,_,k,h=>by
  obtain ⟨a,xs,f,e,rfl,h1,h2⟩:=own_tup.mp h
  exact own_tup.mpr ⟨a,xs,f,e,rfl,by rw [k a Pg];exact h1,Owns.mono s (fun b hb=>k b (Pi _ hb)) h2⟩
theorem Owns.mono (s:Same S S'):∀ {l:List O} {xs:List V} {fp:List Addr},(∀ b ∈ fp,H' b = H b) -> Owns K S H l xs fp -> Owns K S' H' l xs fp
 | [],_,_,k,h=>by rw [h.nil_of.1,h.nil_of.2];exact .nil
 | _ :: _,_,_,k,h=>by
  obtain ⟨y,ys,f,g,rfl,rfl,a,b⟩:=h.cons_of
  exact .cons (Own.mono s (fun b hb=>k b (Pv _ hb)) a) (Owns.mono s (fun b hb=>k b (Pm _ hb)) b)
end
mutual
theorem Own.there:∀ {o:O} {v:V} {fp:List Addr},Own K S H o v fp -> ∀ b ∈ fp,H b ≠ none
 | .dic _,_,_,h=>by
  obtain ⟨a,e,rfl,h1⟩:=own_dic.mp h
  intro b hb
  rw [Pe] at hb
  subst hb
  rw [h1];exact fun z=>by cases z
 | .hd _ _ _,_,_,h=>by
  obtain ⟨xs,f,e,rfl,h1,h2⟩:=own_hd.mp h
  intro b hb
  rcases Pn.mp hb with rfl | hb
  ·rw [h1];exact fun z=>by cases z
  ·exact Owns.there h2 b hb
 | .sh _,_,_,h=>by
  obtain ⟨e,d⟩:=own_sh.mp h
  rw [e];intro b hb;cases hb
 | .lst _,_,_,h=>by
  obtain ⟨a,xs,f,e,rfl,h1,h2⟩:=own_lst.mp h
  intro b hb
  rcases Pn.mp hb with rfl | hb
  ·rw [h1];exact fun z=>by cases z
  ·exact Owns.there h2 b hb
 | .tup _,_,_,h=>by
  obtain ⟨a,xs,f,e,rfl,h1,h2⟩:=own_tup.mp h
  intro b hb
  rcases Pn.mp hb with rfl | hb
  ·rw [h1];exact fun z=>by cases z
  ·exact Owns.there h2 b hb
theorem Owns.there:∀ {l:List O} {xs:List V} {fp:List Addr},Owns K S H l xs fp -> ∀ b ∈ fp,H b ≠ none
 | [],_,_,h=>by rw [h.nil_of.2];intro b hb;cases hb
 | _ :: _,_,_,h=>by
  obtain ⟨y,ys,f,g,rfl,rfl,a,b⟩:=h.cons_of
  intro c hc
  rcases Po.mp hc with hc | hc
  ·exact Own.there a c hc
  ·exact Owns.there b c hc
end
mutual
theorem Own.den {S2:Hp} (s:Same S S2):∀ {o:O} {v:V} {fp:List Addr},(∀ b ∈ fp,S2 b = H b) -> Own K S H o v fp -> Den K S2 o.d v
 | .dic _,_,_,k,h=>by
  obtain ⟨a,e,rfl,h1⟩:=own_dic.mp h
  rw [O.d]
  exact den_dic.mpr ⟨a,e,.inl (by rw [k a Pg];exact h1)⟩
 | .hd p ks os,_,_,k,h=>by
  obtain ⟨xs,f,e,rfl,h1,h2⟩:=own_hd.mp h
  have ds:=Owns.den s (fun b hb=>k b (Pi _ hb)) h2
  rw [O.d,e]
  cases q:O.ds os with
  | nil=>
   rw [q] at ds
   rw [ds.nil_of]
   exact den_dic.mpr ⟨p,rfl,.inl (by rw [k p Pg];exact h1)⟩
  | cons d l=>
   rw [q] at ds
   obtain ⟨y,ys,rfl,a,_⟩:=ds.cons_of
   exact a
 | .sh _,_,_,k,h=>by
  obtain ⟨e,d⟩:=own_sh.mp h
  exact d.mono s
 | .lst l,_,_,k,h=>by
  obtain ⟨a,xs,f,e,rfl,h1,h2⟩:=own_lst.mp h
  rw [O.d]
  exact den_lst.mpr ⟨a,xs,e,.inl (by rw [k a Pg];exact h1),Owns.den s (fun b hb=>k b (Pi _ hb)) h2⟩
 | .tup l,_,_,k,h=>by
  obtain ⟨a,xs,f,e,rfl,h1,h2⟩:=own_tup.mp h
  rw [O.d]
  exact den_tup.mpr ⟨a,xs,e,TpA.of (by rw [k a Pg];exact h1),Owns.den s (fun b hb=>k b (Pi _ hb)) h2⟩
theorem Owns.den {S2:Hp} (s:Same S S2):∀ {l:List O} {xs:List V} {fp:List Addr},(∀ b ∈ fp,S2 b = H b) -> Owns K S H l xs fp -> Dens K S2 (O.ds l) xs
 | [],_,_,k,h=>by rw [h.nil_of.1,O.ds];exact .nil
 | _ :: _,_,_,k,h=>by
  obtain ⟨y,ys,f,g,rfl,rfl,a,b⟩:=h.cons_of
  rw [O.ds]
  exact .cons (Own.den s (fun b hb=>k b (Pv _ hb)) a) (Owns.den s (fun b hb=>k b (Pm _ hb)) b)
end
theorem Own.denH {o:O} {v:V} {fp:List Addr} (s:Same S H) (h:Own K S H o v fp):Den K H o.d v:=h.den s fun _ _=>rfl
theorem Ext.keeps {fp:List Addr} (e:Ext S H S' H') (h:∀ b ∈ fp,S b = none) (t:∀ b ∈ fp,H b ≠ none):(∀ b ∈ fp,H' b = H b) /\ ∀ b ∈ fp,S' b = none:=by
 have key:∀ b ∈ fp,H' b = H b /\ S' b = none:=fun b hb=>by
  cases q:H b with
  | none=>exact absurd q (t b hb)
  | some o=>exact e.al b o q (h b hb)
 exact ⟨fun b hb=>(key b hb).1,fun b hb=>(key b hb).2⟩
inductive Sl where
 | un | lo | sh (d:D) | ow (o:O)
 deriving Inhabited
abbrev Env:=List Sl
structure RlF (K:W.Frag) (A:Hp) (Λ:Nat -> Option Addr) (Φ:Nat -> List Addr) (ρ:Env) (σ:St) (S H:Hp):Prop where
 len:σ.length = ρ.length
 sub:Same S H
 sh:∀ (i:Nat) d,ρ[i]? = some (.sh d) -> ∃ v,σ[i]? = some (some v) /\ Den K S d v
 ow:∀ (i:Nat) o,ρ[i]? = some (.ow o) -> ∃ v,σ[i]? = some (some v) /\ Own K S H o v (Φ i) /\ (Φ i).Nodup /\ ∀ b ∈ Φ i,S b = none /\ A b = none
 dj:∀ (i j:Nat) o o',i ≠ j -> ρ[i]? = some (.ow o) -> ρ[j]? = some (.ow o') -> ∀ b ∈ Φ i,b ∉ Φ j
 lo:∀ (i:Nat),ρ[i]? = some .lo -> ∃ a,Λ i = some a /\ σ[i]? = some (some (.ref a))
 asub:Same A H
 adis:∀ b,S b = none \/ A b = none
def RlA (K:W.Frag) (A:Hp) (Λ:Nat -> Option Addr) (ρ:Env) (σ:St) (S H:Hp):Prop:=∃ Φ,RlF K A Λ Φ ρ σ S H
def Rl (K:W.Frag) (ρ:Env) (σ:St) (S H:Hp):Prop:=∃ A Λ Φ,RlF K A Λ Φ ρ σ S H
theorem RlF.ext {A:Hp} {Λ:Nat -> Option Addr} {Φ:Nat -> List Addr} {ρ:Env} {σ:St} (r:RlF K A Λ Φ ρ σ S H) (e:Ext S H S' H'):RlF K A Λ Φ ρ σ S' H' where
 len:=r.len
 sub:=e.sub
 sh:=fun i d h=>by
  obtain ⟨v,h1,h2⟩:=r.sh i d h
  exact ⟨v,h1,h2.mono e.sh⟩
 ow:=fun i o h=>by
  obtain ⟨v,h1,h2,h3,h4⟩:=r.ow i o h
  obtain ⟨k1,k2⟩:=e.keeps (fun b hb=>(h4 b hb).1) h2.there
  exact ⟨v,h1,h2.mono e.sh k1,h3,fun b hb=>⟨k2 b hb,(h4 b hb).2⟩⟩
 dj:=r.dj
 lo:=r.lo
 asub:=fun b o h=>e.same r.sub b o (r.asub b o h)
 adis:=fun b=>by
  rcases r.adis b with h | h
  ·cases q:A b with
   | none=>exact .inr rfl
   | some o=>exact .inl (e.al b o (r.asub b o q) h).2
  ·exact .inr h
theorem RlA.ext {A:Hp} {Λ:Nat -> Option Addr} {ρ:Env} {σ:St} (r:RlA K A Λ ρ σ S H) (e:Ext S H S' H'):RlA K A Λ ρ σ S' H':=let ⟨Φ,f⟩:=r;⟨Φ,f.ext e⟩
theorem RlA.toRl {A:Hp} {Λ:Nat -> Option Addr} {ρ:Env} {σ:St} (r:RlA K A Λ ρ σ S H):Rl K ρ σ S H:=let ⟨Φ,f⟩:=r;⟨A,Λ,Φ,f⟩
theorem RlA.sub {A:Hp} {Λ:Nat -> Option Addr} {ρ:Env} {σ:St} (r:RlA K A Λ ρ σ S H):Same S H:=let ⟨_,f⟩:=r;f.sub
theorem RlA.asub {A:Hp} {Λ:Nat -> Option Addr} {ρ:Env} {σ:St} (r:RlA K A Λ ρ σ S H):Same A H:=let ⟨_,f⟩:=r;f.asub
theorem RlA.adis {A:Hp} {Λ:Nat -> Option Addr} {ρ:Env} {σ:St} (r:RlA K A Λ ρ σ S H):∀ b,S b = none \/ A b = none:=let ⟨_,f⟩:=r;f.adis
theorem RlA.sh {A:Hp} {Λ:Nat -> Option Addr} {ρ:Env} {σ:St} (r:RlA K A Λ ρ σ S H):∀ (i:Nat) d,ρ[i]? = some (.sh d) -> ∃ v,σ[i]? = some (some v) /\ Den K S d v:=let ⟨_,f⟩:=r;f.sh
theorem Rl.ext {ρ:Env} {σ:St} (r:Rl K ρ σ S H) (e:Ext S H S' H'):Rl K ρ σ S' H':=let ⟨A,Λ,Φ,f⟩:=r;⟨A,Λ,Φ,f.ext e⟩
theorem Rl.sub {ρ:Env} {σ:St} (r:Rl K ρ σ S H):Same S H:=let ⟨_,_,_,f⟩:=r;f.sub
theorem Rl.sh {ρ:Env} {σ:St} (r:Rl K ρ σ S H):∀ (i:Nat) d,ρ[i]? = some (.sh d) -> ∃ v,σ[i]? = some (some v) /\ Den K S d v:=let ⟨_,_,_,f⟩:=r;f.sh
theorem Rl.ow {ρ:Env} {σ:St} (r:Rl K ρ σ S H):∀ (i:Nat) o,ρ[i]? = some (.ow o) -> ∃ v fp,σ[i]? = some (some v) /\ Own K S H o v fp /\ fp.Nodup /\ ∀ b ∈ fp,S b = none:=fun i o h=>by
 obtain ⟨A,Λ,Φ,f⟩:=r
 obtain ⟨v,h1,h2,h3,h4⟩:=f.ow i o h
 exact ⟨v,_,h1,h2,h3,fun b hb=>(h4 b hb).1⟩
abbrev XE:=Env -> Option D
abbrev XT:=Env -> Option Bool
abbrev XA:=Env -> Option (List D)
def SE (K:W.Frag) (t:TE) (e:XE):Prop:=∀ ρ σ S H (Q:VK) d,Rl K ρ σ S H -> e ρ = some d -> (∀ v S' H',Ext S H S' H' -> Den K S' d v -> Q v H') -> t σ H Q
def SPk (K:W.Frag) (t:TE) (e:XE):Prop:=∀ ρ σ S H (Q:VK) d,Rl K ρ σ S H -> e ρ = some d -> (∀ v S' H',Ext S H S' H' -> DenP K S' H' d v -> Q v H') -> t σ H Q
def SF (K:W.Frag) (t:TE) (e:XA):Prop:=∀ ρ σ S H (Q:VK) l,Rl K ρ σ S H -> e ρ = some l -> (∀ a xs S' H',Ext S H S' H' -> H a = none -> S' a = none -> H' a = some (.lst xs) -> Dens K S' l xs -> Q (.ref a) H') -> t σ H Q
def ST (K:W.Frag) (t:TT) (c:XT):Prop:=∀ ρ σ S H (Q:Bool -> Hp -> Prop) b,Rl K ρ σ S H -> c ρ = some b -> (∀ S' H',Ext S H S' H' -> Q b H') -> t σ H Q
def SA (K:W.Frag) (t:TA) (e:XA):Prop:=∀ ρ σ S H (Q:List V -> Hp -> Prop) ds,Rl K ρ σ S H -> e ρ = some ds -> (∀ vs S' H',Ext S H S' H' -> Dens K S' ds vs -> Q vs H') -> t σ H Q
def SAP (K:W.Frag) (t:TA) (e:XA):Prop:=∀ ρ σ S H (Q:List V -> Hp -> Prop) ds,Rl K ρ σ S H -> e ρ = some ds -> (∀ vs S' H',Ext S H S' H' -> DensP K S' H' ds vs -> Q vs H') -> t σ H Q
theorem SE.p {t:TE} {e:XE} (h:SE K t e):SPk K t e:=fun ρ σ S H Q d r x k=>h ρ σ S H Q d r x fun v S' H' z dv=>k v S' H' z (.inl dv)
@[simp] def xL (e:XA):XE:=fun ρ=>(e ρ).map D.lst
theorem SF.e {t:TE} {e:XA} (h:SF K t e):SE K t (xL e):=fun ρ σ S H Q d r x k=>by
 unfold xL at x
 cases q:e ρ with
 | none=>rw [q] at x;cases x
 | some l=>
  rw [q] at x
  cases x
  refine h ρ σ S H Q l r q fun a xs S' H' z h1 h2 h3 h4=>?_
  have s2:Same S' (upd S' a (.lst xs)):=fun b u e=>by rw [a8 (bh e h2)];exact e
  refine k _ (upd S' a (.lst xs)) H' ⟨z.sh.trans s2,fun b u e=>?_,fun b o e n=>?_⟩ (den_lst.mpr ⟨a,xs,rfl,.inl aX,h4.mono s2⟩)
  ·by_cases hb:b = a
   ·subst hb;rw [aX] at e;cases e;exact h3
   ·rw [a8 hb] at e;exact z.sub b u e
  ·obtain ⟨y1,y2⟩:=z.al b o e n
   exact ⟨y1,by rw [a8 (bh e h1)];exact y2⟩
@[simp] def ar (i:Nat):XE:=fun ρ=>match ρ[i]? with | some (.sh d)=>some d | _=>none
def shs:List O -> Option (List D)
 | []=>some []
 | .sh d :: l=>(shs l).map fun r=>d :: r
 | _=>none
theorem ul:∀ l:List D,shs (l.map .sh) = some l
 | []=>rfl
 | d :: l=>by rw [Ps,shs,ul l];rfl
theorem BF:∀ {os:List O} {l:List D},shs os = some l -> os = l.map .sh
 | [],l,h=>by cases h;rfl
 | o :: os,l,h=>by
  cases o with
  | sh d=>
   have h':(shs os).map (fun r=>d :: r) = some l:=h
   cases q:shs os with
   | none=>rw [q] at h';cases h'
   | some m=>rw [q] at h';cases h';rw [BF q];rfl
  | lst _=>cases h
  | tup _=>cases h
  | dic _=>cases h
  | hd _ _ _=>cases h
def FO:Sl -> Option D
 | .sh d=>some d
 | .ow (.sh d)=>some d
 | .ow (.lst os)=>(shs os).map D.lst
 | _=>none
@[simp] theorem MS (d:D):FO (.ow (.sh d)) = some d:=rfl
@[simp] theorem MQ (d:D):FO (.sh d) = some d:=rfl
@[simp] theorem MK (l:List D):FO (.ow (.lst (l.map .sh))) = some (.lst l):=by show (shs _).map D.lst = _;rw [ul];rfl
@[simp] def ag (i:Nat):XE:=fun ρ=>(ρ[i]?).bind FO
theorem s9 (i:Nat):SE K (t7 i) (ar i):=fun ρ σ S H Q d r x k=>by
 unfold ar at x
 split at x
 ·rename_i d' e
  cases x
  obtain ⟨v,h1,h2⟩:=r.sh i _ e
  exact ⟨v,h1,k v S H (Ext.refl r.sub) h2⟩
 ·cases x
theorem iJ (i:Nat):SPk K (t7 i) (ag i):=fun ρ σ S H Q d r x k=>by
 unfold ag at x
 cases q:ρ[i]? with
 | none=>rw [q] at x;cases x
 | some s=>
  rw [q] at x
  cases s with
  | un=>cases x
  | lo=>cases x
  | sh d'=>
   cases x
   obtain ⟨v,h1,h2⟩:=r.sh i _ q
   exact ⟨v,h1,k v S H (Ext.refl r.sub) (.inl h2)⟩
  | ow o=>
   cases o with
   | sh d'=>
    cases x
    obtain ⟨v,fp,h1,h2,h3,h4⟩:=r.ow i _ q
    exact ⟨v,h1,k v S H (Ext.refl r.sub) (.inl (own_sh.mp h2).2)⟩
   | tup l=>cases x
   | dic ks=>cases x
   | hd _ _ _=>cases x
   | lst os=>
    have x':(shs os).map D.lst = some d:=x
    cases qs:shs os with
    | none=>rw [qs] at x';cases x'
    | some l=>
     rw [qs] at x'
     cases x'
     have e:=BF qs
     subst e
     obtain ⟨v,fp,h1,h2,h3,h4⟩:=r.ow i _ q
     obtain ⟨a,xs,f,rfl,rfl,h5,h6⟩:=own_lst.mp h2
     exact ⟨_,h1,k _ S H (Ext.refl r.sub) (.inr ⟨l,a,xs,rfl,rfl,h5,(o8 h6).1⟩)⟩
def SQ (K:W.Frag) (t:TE) (e:XE):Prop:=∀ ρ σ S H (Q:VK) d,Rl K ρ σ S H -> e ρ = some d -> (∀ v S' H',Ext S H S' H' -> Den K H' d v -> Q v H') -> t σ H Q
theorem wM {d:D} {v:V} (s:Same S H) (h:DenP K S H d v):Den K H d v:=by
 rcases h with h | ⟨l,p,xs,rfl,rfl,h1,h2⟩
 ·exact h.mono s
 ·exact den_lst.mpr ⟨p,xs,rfl,.inl h1,h2.mono s⟩
theorem SPk.q {t:TE} {e:XE} (h:SPk K t e):SQ K t e:=fun ρ σ S H Q d r x k=>h ρ σ S H Q d r x fun v S' H' z dv=>k v S' H' z (wM z.sub dv)
def GL:Sl -> Option D
 | .sh d=>some d
 | .ow o=>some o.d
 | _=>none
@[simp] theorem MG (d:D):GL (.sh d) = some d:=rfl
@[simp] theorem MB (o:O):GL (.ow o) = some o.d:=rfl
@[simp] def DK (i:Nat):XE:=fun ρ=>(ρ[i]?).bind GL
theorem JF (i:Nat):SQ K (t7 i) (DK i):=fun ρ σ S H Q d r x k=>by
 unfold DK at x
 cases q:ρ[i]? with
 | none=>rw [q] at x;cases x
 | some s=>
  rw [q] at x
  cases s with
  | un=>cases x
  | lo=>cases x
  | sh d'=>
   cases x
   obtain ⟨v,h1,h2⟩:=r.sh i _ q
   exact ⟨v,h1,k v S H (Ext.refl r.sub) (h2.mono r.sub)⟩
  | ow o=>
   cases x
   obtain ⟨v,fp,h1,h2,h3,h4⟩:=r.ow i _ q
   exact ⟨_,h1,k _ S H (Ext.refl r.sub) (h2.denH r.sub)⟩
@[simp] def xC (d:D):XE:=fun _=>some d
def sK:D -> Option V
 | .non=>some .non | .bl b=>some (.bl b) | .int i=>some (.int i) | .str x=>some (.str x) | .ty x=>some (.ty x) | _=>none
theorem qz {d:D} {v:V} (h:sK d = some v):Den K S d v:=by
 cases d <;> simp [sK] at h <;> subst h <;> unfold Den <;> rfl
theorem s_c {v:V} {d:D} (h:sK d = some v):SE K (tC v) (xC d):=fun ρ σ S H Q e r x k=>by
 cases x
 exact k v S H (Ext.refl r.sub) (qz h)
@[simp] def xFl (e:XE):XE:=fun ρ=>(e ρ).bind fun d=>if (sK d).isSome then some d else none
theorem Ip {d:D} {v w:V} (h:sK d = some w) (k:Den K S d v):v = w:=by
 cases d <;> simp [sK] at h <;> subst h <;> unfold Den at k <;> exact k
theorem SQ.fl {t:TE} {e:XE} (h:SQ K t e):SE K t (xFl e):=fun ρ σ S H Q d r x k=>by
 unfold xFl at x
 cases q:e ρ with
 | none=>rw [q] at x;cases x
 | some d'=>
  rw [q] at x
  dsimp only [Option.bind] at x
  split at x
  ·rename_i hf
   cases x
   obtain ⟨w,hw⟩:=Option.isSome_iff_exists.mp hf
   refine h ρ σ S H Q d r q fun v S' H' z dv=>k v S' H' z ?_
   rw [Ip hw dv]
   exact qz hw
  ·cases x
@[simp] def xOp (f:D -> D -> Option D) (a b:XE):XE:=fun ρ=>(a ρ).bind fun x=>(b ρ).bind fun y=>f x y
def SR2 (K:W.Frag) (r:R2) (f:D -> D -> Option D):Prop:=∀ S H x y d e g (Q:VK),Same S H -> DenP K S H d x -> DenP K S H e y -> f d e = some g -> (∀ v S' H',Ext S H S' H' -> Den K S' g v -> Q v H') -> r x y H Q
theorem GK {r:R2} {f:D -> D -> Option D} {ta tb:TE} {a b:XE} (hr:SR2 K r f) (ha:SPk K ta a) (hb:SPk K tb b):SE K (tOp r ta tb) (xOp f a b):=fun ρ σ S H Q d r x k=>by
 unfold xOp at x
 cases qa:a ρ with
 | none=>rw [qa] at x;cases x
 | some da=>
  rw [qa] at x
  dsimp only [Option.bind] at x
  cases qb:b ρ with
  | none=>rw [qb] at x;cases x
  | some db=>
   rw [qb] at x
   refine ha ρ σ S H _ da r qa fun v S1 H1 z1 d1=>?_
   have r1:=r.ext z1
   refine hb ρ σ S1 H1 _ db r1 qb fun w S2 H2 z2 d2=>?_
   exact hr S2 H2 v w da db d Q z2.sub (d1.mono z2 r1.sub) d2 x fun u S3 H3 z3 d3=>k u S3 H3 ((z1.trans z2).trans z3) d3
theorem Iv {S2 H3 S3:Hp} (s:Same S H) (z:Ext H H S3 H3):Ext S H S H3:=⟨Same.refl _,fun b u e=>z.sub b u (z.sh b u (s b u e)),fun b o h n=>⟨z.sub b o (z.sh b o h),n⟩⟩
theorem MD {r:R2} {f:D -> D -> Option D} {ta tb:TE} {a b:XE} (hr:SR2 K r f) (ha:SQ K ta a) (hb:SQ K tb b):SQ K (tOp r ta tb) (xOp f a b):=fun ρ σ S H Q d r x k=>by
 unfold xOp at x
 cases qa:a ρ with
 | none=>rw [qa] at x;cases x
 | some da=>
  rw [qa] at x
  dsimp only [Option.bind] at x
  cases qb:b ρ with
  | none=>rw [qb] at x;cases x
  | some db=>
   rw [qb] at x
   refine ha ρ σ S H _ da r qa fun v S1 H1 z1 d1=>?_
   have r1:=r.ext z1
   refine hb ρ σ S1 H1 _ db r1 qb fun w S2 H2 z2 d2=>?_
   exact hr H2 H2 v w da db d Q (Same.refl _) (.inl (d1.mono (z2.same r1.sub))) (.inl d2) x fun u S3 H3 z3 d3=>k u S2 H3 ((z1.trans z2).trans (Iv (S2:=S2) z2.sub z3)) (d3.mono z3.sub)
@[simp] def xUn (f:D -> Option D) (a:XE):XE:=fun ρ=>(a ρ).bind f
def SR1 (K:W.Frag) (r:V -> Hp -> VK -> Prop) (f:D -> Option D):Prop:=∀ S H x d g (Q:VK),Same S H -> DenP K S H d x -> f d = some g -> (∀ v S' H',Ext S H S' H' -> Den K S' g v -> Q v H') -> r x H Q
theorem FY {r:V -> Hp -> VK -> Prop} {f:D -> Option D} {ta:TE} {a:XE} (hr:SR1 K r f) (ha:SPk K ta a):SE K (tUn r ta) (xUn f a):=fun ρ σ S H Q d r x k=>by
 unfold xUn at x
 cases qa:a ρ with
 | none=>rw [qa] at x;cases x
 | some da=>
  rw [qa] at x
  refine ha ρ σ S H _ da r qa fun v S1 H1 z1 d1=>?_
  exact hr S1 H1 v da d Q z1.sub d1 x fun u S3 H3 z3 d3=>k u S3 H3 (z1.trans z3) d3
@[simp] def am:XA:=fun _=>some []
@[simp] def ad (a:XE) (b:XA):XA:=fun ρ=>(a ρ).bind fun x=>(b ρ).bind fun y=>some (x :: y)
theorem hJ:SA K wX am:=fun ρ σ S H Q ds r x k=>by cases x;exact k [] S H (Ext.refl r.sub) .nil
theorem FN:SAP K wX am:=fun ρ σ S H Q ds r x k=>by cases x;exact k [] S H (Ext.refl r.sub) .nil
theorem p8 {a:XE} {b:XA} {ρ:Env} {ds:List D} (x:ad a b ρ = some ds):∃ d r,a ρ = some d /\ b ρ = some r /\ ds = d :: r:=by
 unfold ad at x
 cases qa:a ρ with
 | none=>rw [qa] at x;cases x
 | some da=>
  rw [qa] at x
  dsimp only [Option.bind] at x
  cases qb:b ρ with
  | none=>rw [qb] at x;cases x
  | some db=>rw [qb] at x;cases x;exact ⟨_,_,rfl,rfl,rfl⟩
theorem bK {ta:TE} {tr:TA} {a:XE} {b:XA} (ha:SE K ta a) (hb:SA K tr b):SA K (ke ta tr) (ad a b):=fun ρ σ S H Q ds r x k=>by
 obtain ⟨da,db,qa,qb,rfl⟩:=p8 x
 refine ha ρ σ S H _ da r qa fun v S1 H1 z1 d1=>hb ρ σ S1 H1 _ db (r.ext z1) qb fun vs S2 H2 z2 d2=>k _ S2 H2 (z1.trans z2) (.cons (d1.mono z2.sh) d2)
theorem pZ {ta:TE} {tr:TA} {a:XE} {b:XA} (ha:SPk K ta a) (hb:SAP K tr b):SAP K (ke ta tr) (ad a b):=fun ρ σ S H Q ds r x k=>by
 obtain ⟨da,db,qa,qb,rfl⟩:=p8 x
 refine ha ρ σ S H _ da r qa fun v S1 H1 z1 d1=>hb ρ σ S1 H1 _ db (r.ext z1) qb fun vs S2 H2 z2 d2=>k _ S2 H2 (z1.trans z2) (.cons (d1.mono z2 (r.ext z1).sub) d2)
@[irreducible] def LIM:Nat:=1000000
theorem lu:LIM < sizeLine:=by rw [Qa];unfold LIM;decide
@[simp] def aW (a:XA):XE:=fun ρ=>(a ρ).bind fun l=>if l.length <= LIM then some (.tup l) else none
theorem oS {t:TA} {a:XA} (h:SA K t a):SE K (K3 t) (aW a):=fun ρ σ S H Q d r x k=>by
 unfold aW at x
 cases q:a ρ with
 | none=>rw [q] at x;cases x
 | some l=>
  rw [q] at x
  dsimp only [Option.bind] at x
  split at x
  ·rename_i hl
   cases x
   refine h ρ σ S H _ l r q fun vs S1 H1 z1 d1=>⟨?_,fun p hp=>?_⟩
   ·rw [<- d1.length];exact Qg (Qz hl lu)
   ·have z2:=Ext.new (o:=.tup vs) z1.sub hp
    exact k _ _ _ (z1.trans z2) (den_tup.mpr ⟨p,vs,rfl,TpA.of aX,d1.mono z2.sh⟩)
  ·cases x
@[simp] def nY (a:XA):XA:=fun ρ=>(a ρ).bind fun l=>if l.length <= LIM then some l else none
theorem L4 {t:TA} {a:XA} (h:SA K t a):SF K (Kq t) (nY a):=fun ρ σ S H Q l r x k=>by
 unfold nY at x
 cases q:a ρ with
 | none=>rw [q] at x;cases x
 | some l=>
  rw [q] at x
  dsimp only [Option.bind] at x
  split at x
  ·rename_i hl
   cases x
   refine h ρ σ S H _ l r q fun vs S1 H1 z1 d1=>⟨?_,fun p hp=>?_⟩
   ·rw [<- d1.length];exact Qg (Qz hl lu)
   ·have hp0:H p = none:=(z1.same r.sub).free hp
    exact k p vs S1 _ (z1.trans (Ext.own z1.sub hp)) hp0 (z1.sub.free hp) aX d1
  ·cases x
@[simp] def xCB (f:List D -> Option D) (a:XA):XE:=fun ρ=>(a ρ).bind f
def SRB (K:W.Frag) (r:List V -> Hp -> VK -> Prop) (f:List D -> Option D):Prop:=∀ S H vs ds g (Q:VK),Same S H -> DensP K S H ds vs -> f ds = some g -> (∀ v S' H',Ext S H S' H' -> Den K S' g v -> Q v H') -> r vs H Q
theorem L8 {r:List V -> Hp -> VK -> Prop} {f:List D -> Option D} {t:TA} {a:XA} (hr:SRB K r f) (h:SAP K t a):SE K (tCB r t) (xCB f a):=fun ρ σ S H Q d rl x k=>by
 unfold xCB at x
 cases q:a ρ with
 | none=>rw [q] at x;cases x
 | some ds=>
  rw [q] at x
  refine h ρ σ S H _ ds rl q fun vs S1 H1 z1 d1=>?_
  exact hr S1 H1 vs ds d Q z1.sub d1 x fun v S2 H2 z2 d2=>k v S2 H2 (z1.trans z2) d2
@[simp] def BD (f:List D -> Option (List D)) (a:XA):XA:=fun ρ=>(a ρ).bind f
def SRF (K:W.Frag) (r:List V -> Hp -> VK -> Prop) (f:List D -> Option (List D)):Prop:=∀ S H vs ds g (Q:VK),Same S H -> DensP K S H ds vs -> f ds = some g -> (∀ a xs H',Ext S H S H' -> H a = none -> H' a = some (.lst xs) -> Dens K S g xs -> Q (.ref a) H') -> r vs H Q
theorem LR {r:List V -> Hp -> VK -> Prop} {f:List D -> Option (List D)} {t:TA} {a:XA} (hr:SRF K r f) (h:SAP K t a):SF K (tCB r t) (BD f a):=fun ρ σ S H Q d rl x k=>by
 unfold BD at x
 cases q:a ρ with
 | none=>rw [q] at x;cases x
 | some ds=>
  rw [q] at x
  refine h ρ σ S H _ ds rl q fun vs S1 H1 z1 d1=>?_
  exact hr S1 H1 vs ds d Q z1.sub d1 x fun b xs H2 z2 h1 h2 d2=>k b xs S1 H2 (z1.trans z2) ((z1.same rl.sub).free h1) (z1.sub.free h1) h2 d2
def STr (K:W.Frag) (t:TE) (e:Env -> Option O):Prop:=∀ ρ σ S H (Q:VK) o,Rl K ρ σ S H -> e ρ = some o -> (∀ v fp S' H',Ext S H S' H' -> Own K S' H' o v fp -> fp.Nodup -> (∀ b ∈ fp,H b = none /\ S' b = none) -> Q v H') -> t σ H Q
@[simp] def xLT (e:XA):Env -> Option O:=fun ρ=>(e ρ).map fun l=>.lst (l.map .sh)
theorem SF.t {t:TE} {e:XA} (h:SF K t e):STr K t (xLT e):=fun ρ σ S H Q o r x k=>by
 unfold xLT at x
 cases q:e ρ with
 | none=>rw [q] at x;cases x
 | some l=>
  rw [q] at x
  cases x
  refine h ρ σ S H Q l r q fun a xs S' H' z h1 h2 h3 h4=>?_
  refine k _ [a] S' H' z (own_lst.mpr ⟨a,xs,[],rfl,rfl,h3,ut h4⟩) (by simp) fun b hb=>?_
  rw [Pe.mp hb]
  exact ⟨h1,h2⟩
@[simp] def xSh (e:XE):Env -> Option O:=fun ρ=>(e ρ).map .sh
theorem SE.t {t:TE} {e:XE} (h:SE K t e):STr K t (xSh e):=fun ρ σ S H Q o r x k=>by
 unfold xSh at x
 cases q:e ρ with
 | none=>rw [q] at x;cases x
 | some d=>
  rw [q] at x
  cases x
  exact h ρ σ S H Q d r q fun v S' H' z dv=>k v [] S' H' z (own_sh.mpr ⟨rfl,dv⟩) .nil fun b hb=>by cases hb
def zC (S H:Hp) (fp:List Addr):Hp:=fun b=>if b ∈ fp then H b else S b
theorem ur {fp:List Addr} {b:Addr} (h:b ∈ fp):zC S H fp b = H b:=by unfold zC;rw [O7 h]
theorem m9 {fp:List Addr} {b:Addr} (h:b ∉ fp):zC S H fp b = S b:=by unfold zC;rw [O8 h]
theorem nB {fp:List Addr} (n:∀ b ∈ fp,S b = none):Same S (zC S H fp):=fun b o e=>by
 rw [m9 fun hb=>by rw [n b hb] at e;cases e]
 exact e
theorem Bm {fp:List Addr} (s:Same S H):Same (zC S H fp) H:=fun b o e=>by
 by_cases hb:b ∈ fp
 ·rw [ur hb] at e;exact e
 ·rw [m9 hb] at e;exact s b o e
theorem Be {fp:List Addr} (z:Ext S H S' H') (n:∀ b ∈ fp,H b = none /\ S' b = none):Ext S H (zC S' H' fp) H':=
 ⟨z.sh.trans (nB fun b hb=>(n b hb).2),Bm z.sub,fun b o h hn=>⟨(z.al b o h hn).1,by rw [m9 fun hb=>by rw [(n b hb).1] at h;cases h];exact (z.al b o h hn).2⟩⟩
@[simp] def xOD (e:Env -> Option O):XE:=fun ρ=>(e ρ).map O.d
theorem STr.e {t:TE} {e:Env -> Option O} (h:STr K t e):SE K t (xOD e):=fun ρ σ S H Q d r x k=>by
 unfold xOD at x
 cases q:e ρ with
 | none=>rw [q] at x;cases x
 | some o=>
  rw [q] at x
  cases x
  exact h ρ σ S H Q o r q fun v fp S' H' z ow nd n=>k v _ H' (Be z n) (ow.den (nB fun b hb=>(n b hb).2) fun b hb=>ur hb)
def cn (K:W.Frag) (n:Nat) (m:List D -> Option O):Sp:=fun vs H Q _=>vs.length = n /\ ∃ S ds o,Same S H /\ Dens K S ds vs /\ m ds = some o /\ ∀ v fp S' H',Ext S H S' H' -> Own K S' H' o v fp -> fp.Nodup -> (∀ b ∈ fp,H b = none /\ S' b = none) -> Q v H'
@[simp] def C1 (m:List D -> Option O) (a:XA):Env -> Option O:=fun ρ=>(a ρ).bind m
theorem Il {n:Nat} {m:List D -> Option O} {E:XK} {t:TA} {a:XA} (h:SA K t a) (hn:∀ ρ ds,a ρ = some ds -> ds.length = n):STr K (tp (cn K n m) [] E t) (C1 m a):=fun ρ σ S H Q o rl x k=>by
 unfold C1 at x
 cases q:a ρ with
 | none=>rw [q] at x;cases x
 | some ds=>
  rw [q] at x
  refine h ρ σ S H _ ds rl q fun vs S1 H1 z1 d1=>?_
  rw [P6]
  refine ⟨by rw [<- d1.length];exact hn ρ ds q,S1,ds,o,z1.sub,d1,x,fun v fp S2 H2 z2 ow nd n=>k v fp S2 H2 (z1.trans z2) ow nd fun b hb=>⟨(z1.same rl.sub).free (n b hb).1,(n b hb).2⟩⟩
@[simp] def aH (m:List D -> Option D) (a:XA):XE:=fun ρ=>(a ρ).bind m
theorem CF {n:Nat} {m:List D -> Option O} {E:XK} {t:TA} {a:XA} (h:SA K t a) (hn:∀ ρ ds,a ρ = some ds -> ds.length = n):SE K (tp (cn K n m) [] E t) (aH (fun ds=>(m ds).map O.d) a):=by
 have:=(Il (m:=m) (E:=E) h hn).e
 have e:xOD (C1 m a) = aH (fun ds=>(m ds).map O.d) a:=by
  funext ρ
  show ((a ρ).bind m).map O.d = (a ρ).bind fun ds=>(m ds).map O.d
  cases a ρ <;> rfl
 rw [e] at this
 exact this
@[simp] def NA (m:List D -> Option D) (a:XA):XE:=fun ρ=>((a ρ).bind m).bind fun d=>if (sK d).isSome then some d else none
def SAT (K:W.Frag) (t:TA) (e:Env -> Option (List O)):Prop:=∀ ρ σ S H (Q:List V -> Hp -> Prop) os,Rl K ρ σ S H -> e ρ = some os -> (∀ vs fp S' H',Ext S H S' H' -> Owns K S' H' os vs fp -> fp.Nodup -> (∀ b ∈ fp,H b = none /\ S' b = none) -> Q vs H') -> t σ H Q
@[simp] def Fu:Env -> Option (List O):=fun _=>some []
@[simp] def yU (a:Env -> Option O) (b:Env -> Option (List O)):Env -> Option (List O):=fun ρ=>(a ρ).bind fun x=>(b ρ).bind fun y=>some (x :: y)
theorem KD:SAT K wX Fu:=fun ρ σ S H Q ds r x k=>by cases x;exact k [] [] S H (Ext.refl r.sub) .nil .nil fun _ hb=>by cases hb
theorem Hv {ta:TE} {tr:TA} {a:Env -> Option O} {b:Env -> Option (List O)} (ha:STr K ta a) (hb:SAT K tr b):SAT K (ke ta tr) (yU a b):=fun ρ σ S H Q os r x k=>by
 unfold yU at x
 cases qa:a ρ with
 | none=>rw [qa] at x;cases x
 | some oa=>
  rw [qa] at x
  dsimp only [Option.bind] at x
  cases qb:b ρ with
  | none=>rw [qb] at x;cases x
  | some ob=>
   rw [qb] at x
   cases x
   refine ha ρ σ S H _ oa r qa fun v fp S1 H1 z1 o1 nd1 n1=>hb ρ σ S1 H1 _ ob (r.ext z1) qb fun vs fq S2 H2 z2 o2 nd2 n2=>?_
   obtain ⟨k1,k2⟩:=z2.keeps (fun b hb=>(n1 b hb).2) o1.there
   refine k _ _ S2 H2 (z1.trans z2) (.cons (o1.mono z2.sh k1) o2) ?_ fun c hc=>?_
   ·refine Ra.mpr ⟨nd1,nd2,fun c hc d hd e=>?_⟩
    subst e
    exact o1.there c hc (n2 c hd).1
   ·rcases Po.mp hc with hc | hc
    ·exact ⟨(n1 c hc).1,k2 c hc⟩
    ·exact ⟨(z1.same r.sub).free (n2 c hc).1,(n2 c hc).2⟩
@[simp] def GJ (a:Env -> Option (List O)):Env -> Option O:=fun ρ=>(a ρ).bind fun l=>if l.length <= LIM then some (.tup l) else none
@[simp] def GT (a:Env -> Option (List O)):Env -> Option O:=fun ρ=>(a ρ).bind fun l=>if l.length <= LIM then some (.lst l) else none
theorem yz {fp:List Addr} {p:Addr} {o:HO} (h:H p = none) (t:∀ b ∈ fp,H b ≠ none):(∀ b ∈ fp,upd H p o b = H b) /\ p ∉ fp:=by
 have np:p ∉ fp:=fun hp=>t p hp h
 exact ⟨fun b hb=>a8 fun e=>np (e ▸ hb),np⟩
theorem KW {t:TA} {a:Env -> Option (List O)} (h:SAT K t a):STr K (K3 t) (GJ a):=fun ρ σ S H Q o r x k=>by
 unfold GJ at x
 cases q:a ρ with
 | none=>rw [q] at x;cases x
 | some l=>
  rw [q] at x
  dsimp only [Option.bind] at x
  split at x
  ·rename_i hl
   cases x
   refine h ρ σ S H _ l r q fun vs fp S1 H1 z1 o1 nd1 n1=>⟨?_,fun p hp=>?_⟩
   ·rw [<- o1.length];exact Qg (Qz hl lu)
   ·obtain ⟨k1,k2⟩:=yz (o:=.tup vs) hp o1.there
    refine k _ (p :: fp) S1 _ (z1.trans (Ext.own z1.sub hp)) (own_tup.mpr ⟨p,vs,fp,rfl,rfl,aX,o1.mono (Same.refl _) k1⟩) (Qm.mpr ⟨k2,nd1⟩) fun b hb=>?_
    rcases Pn.mp hb with rfl | hb
    ·exact ⟨(z1.same r.sub).free hp,z1.sub.free hp⟩
    ·exact n1 b hb
  ·cases x
theorem Kf {t:TA} {a:Env -> Option (List O)} (h:SAT K t a):STr K (Kq t) (GT a):=fun ρ σ S H Q o r x k=>by
 unfold GT at x
 cases q:a ρ with
 | none=>rw [q] at x;cases x
 | some l=>
  rw [q] at x
  dsimp only [Option.bind] at x
  split at x
  ·rename_i hl
   cases x
   refine h ρ σ S H _ l r q fun vs fp S1 H1 z1 o1 nd1 n1=>⟨?_,fun p hp=>?_⟩
   ·rw [<- o1.length];exact Qg (Qz hl lu)
   ·obtain ⟨k1,k2⟩:=yz (o:=.lst vs) hp o1.there
    refine k _ (p :: fp) S1 _ (z1.trans (Ext.own z1.sub hp)) (own_lst.mpr ⟨p,vs,fp,rfl,rfl,aX,o1.mono (Same.refl _) k1⟩) (Qm.mpr ⟨k2,nd1⟩) fun b hb=>?_
    rcases Pn.mp hb with rfl | hb
    ·exact ⟨(z1.same r.sub).free hp,z1.sub.free hp⟩
    ·exact n1 b hb
  ·cases x
theorem zn {ρ:Env} {ds:List D} (h:am ρ = some ds):ds.length = 0:=by cases h;rfl
theorem wt {a:XE} {b:XA} {n:Nat} (h:∀ ρ ds,b ρ = some ds -> ds.length = n) (ρ:Env) (ds:List D) (x:ad a b ρ = some ds):ds.length = n + 1:=by
 obtain ⟨da,db,qa,qb,rfl⟩:=p8 x
 rw [Pr,h ρ db qb]
@[simp] def GE (a b:XE):XE:=fun ρ=>(a ρ).bind fun x=>match x with | .bl true=>b ρ | .bl false=>some (.bl false) | _=>none
@[simp] def O4 (a b:XE):XE:=fun ρ=>(a ρ).bind fun x=>match x with | .bl true=>some (.bl true) | .bl false=>b ρ | _=>none
@[simp] def NU (a:XE):XE:=fun ρ=>(a ρ).bind fun x=>match x with | .bl c=>some (.bl (!c)) | _=>none
theorem KE {ta tb:TE} {a b:XE} (ha:SPk K ta a) (hb:SE K tb b):SE K (Ja ta tb) (GE a b):=fun ρ σ S H Q d r x k=>by
 unfold GE at x
 cases qa:a ρ with
 | none=>rw [qa] at x;cases x
 | some da=>
  rw [qa] at x
  dsimp only [Option.bind] at x
  refine ha ρ σ S H _ da r qa fun v S1 H1 z1 d1=>?_
  split at x
  ·exact ⟨true,d1.bl,Fk (hb ρ σ S1 H1 Q d (r.ext z1) x fun w S2 H2 z2 d2=>k w S2 H2 (z1.trans z2) d2)⟩
  ·cases x
   exact ⟨false,d1.bl,EJ (k _ S1 H1 z1 (den_bl.mpr rfl))⟩
  ·cases x
@[simp] def OU (c:XT) (a b:XE):XE:=fun ρ=>(c ρ).bind fun q=>if q = true then a ρ else b ρ
@[simp] def xB (a:XE):XT:=fun ρ=>(a ρ).bind fun x=>match x with | .bl c=>some c | _=>none
theorem s_b {ta:TE} {a:XE} (ha:SPk K ta a):ST K (tB ta) (xB a):=fun ρ σ S H Q b r x k=>by
 unfold xB at x
 cases qa:a ρ with
 | none=>rw [qa] at x;cases x
 | some da=>
  rw [qa] at x
  dsimp only [Option.bind] at x
  refine ha ρ σ S H _ da r qa fun v S1 H1 z1 d1=>?_
  split at x
  ·cases x
   exact ⟨_,d1.bl,k S1 H1 z1⟩
  ·cases x
theorem zQ {ta:TE} {a:XE} (ha:SPk K ta a):ST K (G7 ta) (xB a):=s_b ha
def Ag:D -> Option Bool
 | .non=>some false
 | .bl b=>some b
 | .int i=>some (i != 0)
 | .str y=>if y.length <= LIM then some ((y.length:Int) != 0) else none
 | .lst l=>some (!l.isEmpty)
 | .tup l=>some (!l.isEmpty)
 | .scr l=>some (!l.isEmpty)
 | _=>none
theorem o5 {ds:List D} {xs:List V} (h:Dens K S ds xs):(!ds.isEmpty) = !xs.isEmpty:=by
 have:=h.length
 cases ds <;> cases xs <;> simp_all
@[simp] def wU (a:XE):XT:=fun ρ=>(a ρ).bind Ag
theorem JC {d:D} {v:V} {b:Bool} (s:Same S H) (h:DenP K S H d v) (x:Ag d = some b):Ht K v H b:=by
 cases d with
 | non=>rw [h.non];cases x;rfl
 | bl c=>rw [h.bl];cases x;rfl
 | int i=>rw [h.int];cases x;rfl
 | str y=>
  rw [h.str]
  have x':(if y.length <= LIM then some ((y.length:Int) != 0) else none) = some b:=x
  split at x'
  ·rename_i hl;cases x';exact ⟨Qg (Qz hl lu),rfl⟩
  ·cases x'
 | lst l=>
  obtain ⟨p,xs,rfl,h1,h2⟩:=h.lst s
  cases x
  exact .inl ⟨xs,.inl h1,o5 h2⟩
 | tup l=>
  obtain ⟨p,xs,rfl,h1,h2⟩:=h.tup s
  cases x
  exact .inr (.inl ⟨xs,h1,o5 h2⟩)
 | scr l=>
  obtain ⟨p,xs,rfl,h1,h2⟩:=h.scr s
  cases x
  exact .inl ⟨xs,h1,o5 h2⟩
 | _=>cases x
end
section
variable {K:W.Frag} {S S' H H':Hp}
@[simp] def zP (a b:XT):XT:=fun ρ=>(a ρ).bind fun x=>if x = true then b ρ else some false
@[simp] def xOr (a b:XT):XT:=fun ρ=>(a ρ).bind fun x=>if x = true then some true else b ρ
@[simp] def Cr (a:XT):XT:=fun ρ=>(a ρ).map fun x=>!x
theorem LZ {ta tb:TT} {a b:XT} (ha:ST K ta a) (hb:ST K tb b):ST K (Mn ta tb) (zP a b):=fun ρ σ S H Q d r x k=>by
 unfold zP at x
 cases qa:a ρ with
 | none=>rw [qa] at x;cases x
 | some q=>
  rw [qa] at x
  dsimp only [Option.bind] at x
  refine ha ρ σ S H _ q r qa fun S1 H1 z1=>?_
  cases q with
  | true=>exact Fk (hb ρ σ S1 H1 Q d (r.ext z1) (by simpa using x) fun S2 H2 z2=>k S2 H2 (z1.trans z2))
  | false=>
   have:d = false:=by simpa using x.symm
   subst this
   exact EJ (k S1 H1 z1)
theorem Nw {ta tb:TT} {a b:XT} (ha:ST K ta a) (hb:ST K tb b):ST K (tOr ta tb) (xOr a b):=fun ρ σ S H Q d r x k=>by
 unfold xOr at x
 cases qa:a ρ with
 | none=>rw [qa] at x;cases x
 | some q=>
  rw [qa] at x
  dsimp only [Option.bind] at x
  refine ha ρ σ S H _ q r qa fun S1 H1 z1=>?_
  cases q with
  | false=>exact EJ (hb ρ σ S1 H1 Q d (r.ext z1) (by simpa using x) fun S2 H2 z2=>k S2 H2 (z1.trans z2))
  | true=>
   have:d = true:=by simpa using x.symm
   subst this
   exact Fk (k S1 H1 z1)
theorem Mb {ta:TT} {a:XT} (ha:ST K ta a):ST K (Lf ta) (Cr a):=fun ρ σ S H Q d r x k=>by
 unfold Cr at x
 cases qa:a ρ with
 | none=>rw [qa] at x;cases x
 | some q=>
  rw [qa] at x
  cases x
  exact ha ρ σ S H _ q r qa k
inductive Out where
 | nx (ρ:Env) | rt (d:D) | ro (o:O) | bk (ρ:Env) | ct (ρ:Env)
abbrev XS:=Env -> Option Out
def Done (K:W.Frag) (A:Hp) (Λ:Nat -> Option Addr) (S:Hp) (E:Ends):Out -> Prop
 | .nx ρ=>∀ σ' S' H',RlA K A Λ ρ σ' S' H' -> Same S S' -> E.nx σ' H'
 | .bk ρ=>∀ σ' S' H',RlA K A Λ ρ σ' S' H' -> Same S S' -> E.bk σ' H'
 | .ct ρ=>∀ σ' S' H',RlA K A Λ ρ σ' S' H' -> Same S S' -> E.ct σ' H'
 | .rt d=>∀ v S' H',Same S S' -> Same S' H' -> Same A H' -> (∀ b,S' b = none \/ A b = none) -> Den K S' d v -> E.rt v H'
 | .ro o=>∀ v fp S' H',Same S S' -> Same S' H' -> Same A H' -> (∀ b,S' b = none \/ A b = none) -> Own K S' H' o v fp -> fp.Nodup -> (∀ b ∈ fp,S' b = none /\ A b = none) -> E.rt v H'
theorem Done.mono {A:Hp} {Λ:Nat -> Option Addr} {E:Ends} {o:Out} (s:Same S S') (h:Done K A Λ S E o):Done K A Λ S' E o:=by
 cases o with
 | nx ρ=>exact fun σ1 S1 H1 r z=>h σ1 S1 H1 r (s.trans z)
 | bk ρ=>exact fun σ1 S1 H1 r z=>h σ1 S1 H1 r (s.trans z)
 | ct ρ=>exact fun σ1 S1 H1 r z=>h σ1 S1 H1 r (s.trans z)
 | rt d=>exact fun v S1 H1 z=>h v S1 H1 (s.trans z)
 | ro d=>exact fun v fp S1 H1 z=>h v fp S1 H1 (s.trans z)
def SS (K:W.Frag) (t:TS) (m:XS):Prop:=∀ A Λ ρ σ S H (E:Ends) o,RlA K A Λ ρ σ S H -> m ρ = some o -> Done K A Λ S E o -> t E σ H
@[simp] def dq:XS:=fun ρ=>some (.nx ρ)
theorem K8:SS K F8 dq:=fun A Λ ρ σ S H E o r x k=>by cases x;exact k σ S H r (Same.refl _)
@[simp] def NK:XS:=fun ρ=>some (.bk ρ)
@[simp] def Ou:XS:=fun ρ=>some (.ct ρ)
@[simp] def Bz:XS:=fun _=>none
theorem HW {t:TS}:SS K t Bz:=fun A Λ ρ σ S H E o r x k=>by cases x
@[simp] def aP (m n:XS):XS:=fun ρ=>match m ρ with | some (.nx ρ')=>n ρ' | o=>o
theorem Lg {t u:TS} {m n:XS} (ht:SS K t m) (hu:SS K u n):SS K (JA t u) (aP m n):=fun A Λ ρ σ S H E o r x k=>by
 unfold aP at x
 cases q:m ρ with
 | none=>rw [q] at x;cases x
 | some om=>
  rw [q] at x
  refine ht A Λ ρ σ S H _ om r q ?_
  cases om with
  | nx ρ'=>exact fun σ' S' H' r' z=>hu A Λ ρ' σ' S' H' E o r' x (k.mono z)
  | rt d=>cases x;exact k
  | ro d=>cases x;exact k
  | bk d=>cases x;exact k
  | ct d=>cases x;exact k
@[simp] def bG (e:XE):XS:=fun ρ=>(e ρ).map .rt
theorem Ll {te:TE} {e:XE} (h:SE K te e):SS K (Jz te) (bG e):=fun A Λ ρ σ S H E o r x k=>by
 unfold bG at x
 cases q:e ρ with
 | none=>rw [q] at x;cases x
 | some d=>
  rw [q] at x
  cases x
  refine h ρ σ S H _ d r.toRl q fun v S1 H1 z1 d1=>?_
  have r1:=r.ext z1
  exact k v S1 H1 z1.sh z1.sub r1.asub r1.adis d1
@[simp] def OB (e:Env -> Option O):XS:=fun ρ=>(e ρ).map .ro
@[simp] def Gp (i:Nat):XS:=fun ρ=>match ρ[i]? with | some (.sh d)=>some (.rt d) | some (.ow o)=>some (.ro o) | _=>none
theorem KO (i:Nat):SS K (Jz (t7 i)) (Gp i):=fun A Λ ρ σ S H E o r x k=>by
 unfold Gp at x
 cases q:ρ[i]? with
 | none=>rw [q] at x;cases x
 | some s=>
  rw [q] at x
  obtain ⟨Φ,f⟩:=r
  cases s with
  | un=>cases x
  | lo=>cases x
  | sh d=>
   cases x
   obtain ⟨v,h1,h2⟩:=f.sh i d q
   exact ⟨v,h1,k v S H (Same.refl _) f.sub f.asub f.adis h2⟩
  | ow ot=>
   cases x
   obtain ⟨v,h1,h2,h3,h4⟩:=f.ow i ot q
   exact ⟨v,h1,k v _ S H (Same.refl _) f.sub f.asub f.adis h2 h3 h4⟩
@[simp] def N9:XS:=fun _=>some (.rt .non)
@[simp] def xIf (c:XT) (m n:XS):XS:=fun ρ=>(c ρ).bind fun b=>if b = true then m ρ else n ρ
theorem NQ {tc:TT} {t u:TS} {c:XT} {m n:XS} (hc:ST K tc c) (ht:SS K t m) (hu:SS K u n):SS K (JE tc t u) (xIf c m n):=fun A Λ ρ σ S H E o r x k=>by
 unfold xIf at x
 cases qc:c ρ with
 | none=>rw [qc] at x;cases x
 | some q=>
  rw [qc] at x
  dsimp only [Option.bind] at x
  refine hc ρ σ S H _ q r.toRl qc fun S1 H1 z1=>?_
  cases q with
  | true=>exact Fk (ht A Λ ρ σ S1 H1 E o (r.ext z1) (by simpa using x) (k.mono z1.sh))
  | false=>exact EJ (hu A Λ ρ σ S1 H1 E o (r.ext z1) (by simpa using x) (k.mono z1.sh))
theorem cV {α:Type} {l:List α} {i j:Nat} {x y:α} (h:(l.set i x)[j]? = some y):(i = j /\ y = x /\ i < l.length) \/ (i ≠ j /\ l[j]? = some y):=by
 by_cases hij:i = j
 ·subst hij
  have hl:=(Pw.mp h).1
  rw [QG] at hl
  rw [Q2 hl] at h
  exact .inl ⟨rfl,(PR h).symm,hl⟩
 ·rw [Qk hij] at h
  exact .inr ⟨hij,h⟩
theorem RlF.set {A:Hp} {Λ:Nat -> Option Addr} {Φ:Nat -> List Addr} {ρ:Env} {σ:St} {d:D} {v:V} (r:RlF K A Λ Φ ρ σ S H) (i:Nat) (h:Den K S d v):RlF K A Λ Φ (ρ.set i (.sh d)) (σ.set i (some v)) S H where
 len:=by rw [QG,QG];exact r.len
 sub:=r.sub
 sh:=fun j e hj=>by
  rcases cV hj with ⟨rfl,e,hl⟩ | ⟨hij,hj⟩
  ·cases e
   exact ⟨v,Q2 (by rw [r.len];exact hl),h⟩
  ·rw [Qk hij]
   exact r.sh j e hj
 ow:=fun j o hj=>by
  rcases cV hj with ⟨rfl,e,hl⟩ | ⟨hij,hj⟩
  ·cases e
  ·rw [Qk hij]
   exact r.ow j o hj
 dj:=fun j k o o' hjk h1 h2=>by
  rcases cV h1 with ⟨rfl,e,hl⟩ | ⟨hij,h1⟩
  ·cases e
  ·rcases cV h2 with ⟨rfl,e,hl⟩ | ⟨hik,h2⟩
   ·cases e
   ·exact r.dj j k o o' hjk h1 h2
 lo:=fun j hj=>by
  rcases cV hj with ⟨rfl,e,hl⟩ | ⟨hij,hj⟩
  ·cases e
  ·rw [Qk hij]
   exact r.lo j hj
 asub:=r.asub
 adis:=r.adis
theorem RlA.set {A:Hp} {Λ:Nat -> Option Addr} {ρ:Env} {σ:St} {d:D} {v:V} (r:RlA K A Λ ρ σ S H) (i:Nat) (h:Den K S d v):RlA K A Λ (ρ.set i (.sh d)) (σ.set i (some v)) S H:=let ⟨Φ,f⟩:=r;⟨Φ,f.set i h⟩
theorem RlF.put {A:Hp} {Λ:Nat -> Option Addr} {Φ:Nat -> List Addr} {ρ:Env} {σ:St} {o:O} {v:V} {fp:List Addr} (r:RlF K A Λ Φ ρ σ S H) (i:Nat) (sub:Same S H') (asub:Same A H') (ow:Own K S H' o v fp) (nd:fp.Nodup) (n:∀ b ∈ fp,S b = none /\ A b = none)
  (keep:∀ (j:Nat) o',j ≠ i -> ρ[j]? = some (.ow o') -> ∀ b ∈ Φ j,H' b = H b /\ b ∉ fp):RlF K A Λ (fun j=>if j = i then fp else Φ j) (ρ.set i (.ow o)) (σ.set i (some v)) S H' where
 len:=by rw [QG,QG];exact r.len
 sub:=sub
 sh:=fun j e hj=>by
  rcases cV hj with ⟨rfl,e,hl⟩ | ⟨hij,hj⟩
  ·cases e
  ·rw [Qk hij]
   exact r.sh j e hj
 ow:=fun j o' hj=>by
  rcases cV hj with ⟨rfl,e,hl⟩ | ⟨hij,hj⟩
  ·cases e
   rw [O7 rfl]
   exact ⟨v,Q2 (by rw [r.len];exact hl),ow,nd,n⟩
  ·rw [Qk hij,O8 (P1 hij)]
   obtain ⟨w,h1,h2,h3,h4⟩:=r.ow j o' hj
   exact ⟨w,h1,h2.mono (Same.refl _) fun b hb=>(keep j o' (P1 hij) hj b hb).1,h3,h4⟩
 dj:=fun j k o1 o2 hjk h1 h2 b hb hb2=>by
  rcases cV h1 with ⟨rfl,e,hl⟩ | ⟨hij,h1⟩
  ·rcases cV h2 with ⟨rfl,e,hl⟩ | ⟨hik,h2⟩
   ·exact hjk rfl
   ·rw [O7 rfl] at hb
    rw [O8 (P1 hik)] at hb2
    exact (keep k o2 (P1 hik) h2 b hb2).2 hb
  ·rcases cV h2 with ⟨rfl,e,hl⟩ | ⟨hik,h2⟩
   ·rw [O7 rfl] at hb2
    rw [O8 (P1 hij)] at hb
    exact (keep j o1 (P1 hij) h1 b hb).2 hb2
   ·rw [O8 (P1 hij)] at hb
    rw [O8 (P1 hik)] at hb2
    exact r.dj j k o1 o2 hjk h1 h2 b hb hb2
 lo:=fun j hj=>by
  rcases cV hj with ⟨rfl,e,hl⟩ | ⟨hij,hj⟩
  ·cases e
  ·rw [Qk hij]
   exact r.lo j hj
 asub:=asub
 adis:=r.adis
theorem Gb {α:Type} {l:List α} {i:Nat} {x:α} (h:l[i]? = some x):l.set i x = l:=by
 apply Rs
 intro j
 by_cases e:i = j
 ·subst e
  rw [Q2 (Pw.mp h).1,h]
 ·rw [Qk e]
def frz (i:Nat) (ρ:Env):Env:=match ρ[i]? with | some (.ow o)=>ρ.set i (.sh o.d) | _=>ρ
theorem RlA.frz {A:Hp} {Λ:Nat -> Option Addr} {ρ:Env} {σ:St} (r:RlA K A Λ ρ σ S H) (i:Nat):∃ S',Same S S' /\ RlA K A Λ (frz i ρ) σ S' H:=by
 unfold M.frz
 cases q:ρ[i]? with
 | none=>exact ⟨S,Same.refl _,r⟩
 | some s=>
  cases s with
  | un=>exact ⟨S,Same.refl _,r⟩
  | lo=>exact ⟨S,Same.refl _,r⟩
  | sh d=>exact ⟨S,Same.refl _,r⟩
  | ow o=>
   dsimp only
   obtain ⟨Φ,f⟩:=r
   obtain ⟨v,h1,h2,h3,h4⟩:=f.ow i o q
   have s2:Same S (zC S H (Φ i)):=nB fun b hb=>(h4 b hb).1
   have hd:Den K (zC S H (Φ i)) o.d v:=h2.den s2 fun b hb=>ur hb
   refine ⟨_,s2,Φ,?_⟩
   exact {
    len:=by rw [QG];exact f.len
    sub:=Bm f.sub
    sh:=fun j d hj=>by
     rcases cV hj with ⟨rfl,e,hl⟩ | ⟨hij,hj⟩
     ·cases e
      exact ⟨v,h1,hd⟩
     ·obtain ⟨w,k1,k2⟩:=f.sh j d hj
      exact ⟨w,k1,k2.mono s2⟩
    ow:=fun j o' hj=>by
     rcases cV hj with ⟨rfl,e,hl⟩ | ⟨hij,hj⟩
     ·cases e
     ·obtain ⟨w,k1,k2,k3,k4⟩:=f.ow j o' hj
      exact ⟨w,k1,k2.mono s2 fun _ _=>rfl,k3,fun b hb=>⟨by rw [m9 fun hi=>f.dj i j o o' hij q hj b hi hb];exact (k4 b hb).1,(k4 b hb).2⟩⟩
    dj:=fun j k o1 o2 hjk g1 g2=>by
     rcases cV g1 with ⟨rfl,e,hl⟩ | ⟨hij,g1⟩
     ·cases e
     ·rcases cV g2 with ⟨rfl,e,hl⟩ | ⟨hik,g2⟩
      ·cases e
      ·exact f.dj j k o1 o2 hjk g1 g2
    lo:=fun j hj=>by
     rcases cV hj with ⟨rfl,e,hl⟩ | ⟨hij,hj⟩
     ·cases e
     ·exact f.lo j hj
    asub:=f.asub
    adis:=fun b=>by
     by_cases hb:b ∈ Φ i
     ·exact .inr (h4 b hb).2
     ·rw [m9 hb];exact f.adis b }
@[simp] def K9 (i:Nat) (m:XS):XS:=fun ρ=>m (frz i ρ)
theorem Ls {t:TS} {m:XS} (i:Nat) (h:SS K t m):SS K t (K9 i m):=fun A Λ ρ σ S H E o r x k=>by
 obtain ⟨S',s,r'⟩:=r.frz i
 exact h A Λ _ σ S' H E o r' x (k.mono s)
abbrev XG:=D -> Env -> Option Env
abbrev XGs:=List D -> Env -> Option Env
def SG (K:W.Frag) (g:TG) (x:XG):Prop:=∀ A Λ ρ σ S H v d (Q:St -> Hp -> Prop) ρ',RlA K A Λ ρ σ S H -> Den K S d v -> x d ρ = some ρ' -> (∀ σ',RlA K A Λ ρ' σ' S H -> Q σ' H) -> g v σ H Q
def SGs (K:W.Frag) (g:TGs) (x:XGs):Prop:=∀ A Λ ρ σ S H vs ds (Q:St -> Hp -> Prop) ρ',RlA K A Λ ρ σ S H -> Dens K S ds vs -> x ds ρ = some ρ' -> (∀ σ',RlA K A Λ ρ' σ' S H -> Q σ' H) -> g vs σ H Q
@[simp] def ai (i:Nat):XG:=fun d ρ=>some (ρ.set i (.sh d))
def bf:XGs:=fun ds ρ=>match ds with | []=>some ρ | _=>none
def aq (x:XG) (y:XGs):XGs:=fun ds ρ=>match ds with | d :: r=>(x d ρ).bind (y r) | []=>none
def bi (y:XGs):XG:=fun d ρ=>match d with | .tup l=>y l ρ | .mtp l=>y l ρ | _=>none
theorem JT (i:Nat):SG K (kt i) (ai i):=fun A Λ ρ σ S H v d Q ρ' r dv x k=>by cases x;exact k _ (r.set i dv)
theorem My:SGs K KC bf:=fun A Λ ρ σ S H vs ds Q ρ' r dv x k=>by
 cases ds with
 | nil=>cases x;exact ⟨dv.nil_of,k σ r⟩
 | cons _ _=>cases x
theorem JL {g:TG} {gs:TGs} {x:XG} {y:XGs} (h:SG K g x) (hs:SGs K gs y):SGs K (GO g gs) (aq x y):=fun A Λ ρ σ S H vs ds Q ρ' r dv e k=>by
 cases ds with
 | nil=>cases e
 | cons d ds=>
  obtain ⟨v,vs,rfl,h1,h2⟩:=dv.cons_of
  have e':(x d ρ).bind (y ds) = some ρ':=e
  cases q:x d ρ with
  | none=>rw [q] at e';cases e'
  | some ρ1=>
   rw [q] at e'
   exact ⟨v,vs,rfl,h A Λ ρ σ S H v d _ ρ1 r h1 q fun σ1 r1=>hs A Λ ρ1 σ1 S H vs ds Q ρ' r1 h2 e' k⟩
def DJ (y:XGs) (n:Nat):Prop:=∀ ds ρ ρ',y ds ρ = some ρ' -> ds.length = n
theorem JZ:DJ bf 0:=fun ds ρ ρ' e=>by cases ds with | nil=>rfl | cons _ _=>cases e
theorem Hn {x:XG} {y:XGs} {n:Nat} (h:DJ y n):DJ (aq x y) (n + 1):=fun ds ρ ρ' e=>by
 cases ds with
 | nil=>cases e
 | cons d ds=>
  have e':(x d ρ).bind (y ds) = some ρ':=e
  cases q:x d ρ with
  | none=>rw [q] at e';cases e'
  | some ρ1=>rw [q] at e';rw [Pr,h ds ρ1 ρ' e']
theorem Me {gs:TGs} {y:XGs} {n:Nat} (hs:SGs K gs y) (hl:DJ y n):SG K (J2 K n gs) (bi y):=fun A Λ ρ σ S H v d Q ρ' r dv e k=>by
 cases d with
 | tup l=>
  obtain ⟨p,xs,rfl,h1,h2⟩:=iP dv
  exact ⟨p,xs,rfl,ba r.sub h1,by rw [<- h2.length];exact hl l ρ ρ' e,hs A Λ ρ σ S H xs l Q ρ' r h2 e k⟩
 | mtp l=>
  obtain ⟨p,xs,rfl,h1,h2⟩:=den_mtp.mp dv
  exact ⟨p,xs,rfl,ba r.sub h1,by rw [<- h2.length];exact hl l ρ ρ' e,hs A Λ ρ σ S H xs l Q ρ' r h2 e k⟩
 | _=>cases e
@[simp] def bv (e:XE) (g:XG):XS:=fun ρ=>(e ρ).bind fun d=>(g d ρ).map .nx
theorem Mw {te:TE} {g:TG} {e:XE} {x:XG} (h:SE K te e) (hg:SG K g x):SS K (A7 te g) (bv e x):=fun A Λ ρ σ S H E o r y k=>by
 unfold bv at y
 cases q:e ρ with
 | none=>rw [q] at y;cases y
 | some d=>
  rw [q] at y
  dsimp only [Option.bind] at y
  cases q2:x d ρ with
  | none=>rw [q2] at y;cases y
  | some ρ'=>
   rw [q2] at y
   cases y
   exact h ρ σ S H _ d r.toRl q fun v S1 H1 z1 d1=>hg A Λ ρ σ S1 H1 v d _ ρ' (r.ext z1) d1 q2 fun σ' r'=>k σ' S1 H1 r' z1.sh
@[simp] def Gc (e:Env -> Option O) (i:Nat):XS:=fun ρ=>(e ρ).map fun o=>.nx (ρ.set i (.ow o))
theorem Ku {te:TE} {e:Env -> Option O} {i:Nat} (h:STr K te e):SS K (A7 te (kt i)) (Gc e i):=fun A Λ ρ σ S H E o r y k=>by
 unfold Gc at y
 cases q:e ρ with
 | none=>rw [q] at y;cases y
 | some ot=>
  rw [q] at y
  cases y
  obtain ⟨Φ,f⟩:=r
  refine h ρ σ S H _ ot ⟨A,Λ,Φ,f⟩ q fun v fp S1 H1 z1 o1 nd n=>?_
  have r1:=f.ext z1
  refine k _ S1 H1 ⟨_,r1.put (H':=H1) i r1.sub r1.asub o1 nd (fun b hb=>⟨(n b hb).2,f.asub.free (n b hb).1⟩) fun j o' hj e1 b hb=>⟨rfl,fun hf=>?_⟩⟩ z1.sh
  obtain ⟨w,_,k2,_,_⟩:=f.ow j o' e1
  exact k2.there b hb (n b hf).1
@[simp] def oz (e:XA) (i:Nat):XS:=Gc (xLT e) i
theorem KF {te:TE} {e:XA} {i:Nat} (h:SF K te e):SS K (A7 te (kt i)) (oz e i):=Ku h.t
def eZ:O -> List Int -> Option O
 | o,[]=>some o
 | .lst l,k :: r=>(atI l k).bind fun o=>eZ o r
 | .tup l,k :: r=>(atI l k).bind fun o=>eZ o r
 | .sh _,_ :: _=>none
 | .dic _,_ :: _=>none
 | .hd _ _ _,_ :: _=>none
def vC (l:List O) (k:Int) (f:O -> O):List O:=match ixN l.length k with
 | some j=>(match l[j]? with | some o=>l.set j (f o) | none=>l)
 | none=>l
def kA:O -> List Int -> O -> O
 | _,[],q=>q
 | .lst l,k :: r,q=>.lst (vC l k fun o=>kA o r q)
 | .tup l,k :: r,q=>.tup (vC l k fun o=>kA o r q)
 | .sh d,_ :: _,_=>.sh d
 | .dic d,_ :: _,_=>.dic d
 | .hd p d l,_ :: _,_=>.hd p d l
def WalkV (H:Hp):V -> List Int -> V -> Prop
 | v,[],w=>v = w
 | v,k :: r,w=>∃ a xs u,v = .ref a /\ (H a = some (.lst xs) \/ H a = some (.tup xs)) /\ atI xs k = some u /\ WalkV H u r w
theorem WalkV.mono (s:Same H H'):∀ {p:List Int} {v w:V},WalkV H v p w -> WalkV H' v p w
 | [],_,_,h=>h
 | _ :: _,_,_,⟨a,xs,u,e,h,k,m⟩=>⟨a,xs,u,e,h.elim (fun z=>.inl (s _ _ z)) (fun z=>.inr (s _ _ z)),k,m.mono s⟩
theorem WalkV.uniq:∀ {p:List Int} {v w w':V},WalkV H v p w -> WalkV H v p w' -> w = w'
 | [],_,_,_,h,k=>h.symm.trans k
 | _ :: _,_,_,_,hpt0,hpt1=>by
  obtain ⟨a,xs,u,e,h,k,m⟩:=hpt0
  obtain ⟨a',xs',u',e',h',k',m'⟩:=hpt1
  rw [e] at e'
  cases e'
  have:xs = xs':=by
   rcases h with h | h <;> rcases h' with h' | h' <;> rw [h] at h' <;> cases h' <;> rfl
  subst this
  rw [k] at k'
  cases k'
  exact m.uniq m'
theorem WalkV.snoc:∀ {p:List Int} {v w u:V} {k:Int} {a:Addr} {xs:List V},WalkV H v p w -> w = .ref a -> (H a = some (.lst xs) \/ H a = some (.tup xs)) -> atI xs k = some u -> WalkV H v (p ++ [k]) u
 | [],_,_,u,k,a,xs,h,e,h1,h2=>⟨a,xs,u,h.trans e,h1,h2,rfl⟩
 | _ :: _,_,_,_,_,_,_,⟨b,ys,u',e,h,k,m⟩,e',h1,h2=>⟨b,ys,u',e,h,k,m.snoc e' h1 h2⟩
theorem rO:∀ {p:List Int} {o q:O} {k:Int},eZ o (p ++ [k]) = some q -> ∃ q0,eZ o p = some q0 /\ eZ q0 [k] = some q
 | [],o,q,k,h=>⟨o,by unfold eZ;rfl,h⟩
 | j :: p,o,q,k,h=>by
  cases o with
  | sh d=>cases h
  | dic _=>cases h
  | hd _ _ _=>cases h
  | lst l=>
   have h':(atI l j).bind (fun o=>eZ o (p ++ [k])) = some q:=h
   cases e:atI l j with
   | none=>rw [e] at h';cases h'
   | some o1=>
    rw [e] at h'
    obtain ⟨q0,a,b⟩:=rO (p:=p) h'
    exact ⟨q0,by show (atI l j).bind (fun o=>eZ o p) = some q0;rw [e];exact a,b⟩
  | tup l=>
   have h':(atI l j).bind (fun o=>eZ o (p ++ [k])) = some q:=h
   cases e:atI l j with
   | none=>rw [e] at h';cases h'
   | some o1=>
    rw [e] at h'
    obtain ⟨q0,a,b⟩:=rO (p:=p) h'
    exact ⟨q0,by show (atI l j).bind (fun o=>eZ o p) = some q0;rw [e];exact a,b⟩
theorem Owns.split:∀ {l:List O} {xs:List V} {f:List Addr} {j:Nat} {o:O},Owns K S H l xs f -> l[j]? = some o -> ∃ x f1 f2 f3,xs[j]? = some x /\ f = f1 ++ (f2 ++ f3) /\ Own K S H o x f2 /\
  ∀ H' o' f2',Own K S H' o' x f2' -> (∀ b ∈ f1,H' b = H b) -> (∀ b ∈ f3,H' b = H b) -> Owns K S H' (l.set j o') xs (f1 ++ (f2' ++ f3))
 | [],_,_,_,_,_,e=>by simp at e
 | o0 :: l,_,_,0,o,h,e=>by
  obtain ⟨y,ys,f,g,rfl,rfl,a,b⟩:=h.cons_of
  simp at e;subst e
  exact ⟨y,[],f,g,rfl,rfl,a,fun H' o' f2' h1 _ h3=>Owns.cons (f:=f2') h1 (b.mono (Same.refl _) h3)⟩
 | o0 :: l,_,_,j + 1,o,h,e=>by
  obtain ⟨y,ys,f,g,rfl,rfl,a,b⟩:=h.cons_of
  obtain ⟨x,f1,f2,f3,e1,rfl,h1,h2⟩:=b.split (j:=j) (by simpa using e)
  refine ⟨x,f ++ f1,f2,f3,by simpa using e1,by rw [PQ],h1,fun H' o' f2' k1 k2 k3=>?_⟩
  rw [PQ]
  exact .cons (a.mono (Same.refl _) fun b hb=>k2 b (Pv _ hb)) (h2 H' o' f2' k1 (fun b hb=>k2 b (Pm _ hb)) k3)
theorem Ca {α:Type} {l:List α} {k:Int} {x:α} (h:atI l k = some x):∃ j,ixN l.length k = some j /\ l[j]? = some x:=by
 unfold atI at h
 cases q:ixN l.length k with
 | none=>rw [q] at h;cases h
 | some j=>rw [q] at h;exact ⟨j,rfl,h⟩
theorem FC:∀ {p:List Int} {o q:O} {v:V} {fp:List Addr},Own K S H o v fp -> fp.Nodup -> eZ o p = some q -> ∃ w fq,Own K S H q w fq /\ WalkV H v p w /\ (∀ b ∈ fq,b ∈ fp) /\ fq.Nodup /\
  ∀ H' q' fq',Own K S H' q' w fq' -> fq'.Nodup -> (∀ b ∈ fp,b ∉ fq -> H' b = H b) -> (∀ b ∈ fq',b ∈ fp -> b ∈ fq) -> ∃ fp',Own K S H' (kA o p q') v fp' /\ fp'.Nodup /\ ∀ b ∈ fp',b ∈ fp \/ b ∈ fq'
 | [],o,q,v,fp,h,nd,e=>by
  have e':some o = some q:=by unfold eZ at e;exact e
  cases e'
  exact ⟨v,fp,h,rfl,fun b hb=>hb,nd,fun H' q' fq' h1 n1 _ _=>⟨fq',by unfold kA;exact h1,n1,fun b hb=>.inr hb⟩⟩
 | k :: r,o,q,v,fp,h,nd,e=>by
  have body:∀ (l:List O) (a:Addr) (xs:List V) (f:List Addr),v = .ref a -> fp = a :: f -> (H a = some (.lst xs) \/ H a = some (.tup xs)) -> Owns K S H l xs f -> ((atI l k).bind fun o=>eZ o r) = some q ->
    ∃ w fq,Own K S H q w fq /\ WalkV H v (k :: r) w /\ (∀ b ∈ fq,b ∈ fp) /\ fq.Nodup /\ ∀ H' q' fq',Own K S H' q' w fq' -> fq'.Nodup -> (∀ b ∈ fp,b ∉ fq -> H' b = H b) -> (∀ b ∈ fq',b ∈ fp -> b ∈ fq) ->
     ∃ f',Owns K S H' (vC l k fun o=>kA o r q') xs f' /\ H' a = H a /\ (a :: f').Nodup /\ ∀ b ∈ a :: f',b ∈ fp \/ b ∈ fq':=by
   rintro l a xs f rfl rfl ha hl hs
   obtain ⟨na,nf⟩:=Qm.mp nd
   cases qa:atI l k with
   | none=>rw [qa] at hs;cases hs
   | some o1=>
    rw [qa] at hs
    obtain ⟨j,ej,el⟩:=Ca qa
    obtain ⟨x,f1,f2,f3,ex,rfl,h1,h2⟩:=hl.split el
    obtain ⟨n1,n23,d1⟩:=Ra.mp nf
    obtain ⟨n2,n3,d2⟩:=Ra.mp n23
    obtain ⟨w,fq,k1,k2,k3,k4,k5⟩:=FC (p:=r) h1 n2 hs
    have ax:atI xs k = some x:=by unfold atI;rw [<- hl.length,ej];exact ex
    refine ⟨w,fq,k1,⟨a,xs,x,rfl,ha,ax,k2⟩,fun b hb=>Pi _ (Pm _ (Pv _ (k3 b hb))),k4,fun H' q' fq' g1 g2 g3 g4=>?_⟩
    have in2:∀ b ∈ fq,b ∈ f2:=k3
    have a1:∀ b ∈ f1,b ∉ fq:=fun b hb hq=>d1 b hb b (Pv _ (in2 b hq)) rfl
    have a3:∀ b ∈ f3,b ∉ fq:=fun b hb hq=>d2 b (in2 b hq) b hb rfl
    have aa:a ∉ fq:=fun hq=>na (Pm _ (Pv _ (in2 a hq)))
    obtain ⟨f2',m1,m2,m3⟩:=k5 H' q' fq' g1 g2 (fun b hb hn=>g3 b (Pi _ (Pm _ (Pv _ hb))) hn) fun b hb hp=>g4 b hb (Pi _ (Pm _ (Pv _ hp)))
    have out:∀ b ∈ f2',b ∉ f1 /\ b ∉ f3 /\ b ≠ a:=fun b hb=>by
     rcases m3 b hb with hb | hb
     ·exact ⟨fun z=>d1 b z b (Pv _ hb) rfl,fun z=>d2 b hb b z rfl,fun z=>na (z ▸ Pm _ (Pv _ hb))⟩
     ·refine ⟨fun z=>a1 b z (g4 b hb (Pi _ (Pv _ z))),fun z=>a3 b z (g4 b hb (Pi _ (Pm _ (Pm _ z)))),fun z=>?_⟩
      subst z
      exact aa (g4 b hb Pg)
    refine ⟨f1 ++ (f2' ++ f3),?_,g3 a Pg aa,?_,fun b hb=>?_⟩
    ·unfold vC
     rw [ej]
     dsimp only
     rw [el]
     exact h2 H' _ f2' m1 (fun b hb=>g3 b (Pi _ (Pv _ hb)) (a1 b hb)) fun b hb=>g3 b (Pi _ (Pm _ (Pm _ hb))) (a3 b hb)
    ·refine Qm.mpr ⟨fun z=>?_,Ra.mpr ⟨n1,Ra.mpr ⟨m2,n3,fun b hb c hc e=>(out b hb).2.1 (e ▸ hc)⟩,fun b hb c hc e=>?_⟩⟩
     ·rcases Po.mp z with z | z
      ·exact na (Pv _ z)
      ·rcases Po.mp z with z | z
       ·exact (out a z).2.2 rfl
       ·exact na (Pm _ (Pm _ z))
     ·subst e
      rcases Po.mp hc with hc | hc
      ·exact (out b hc).1 hb
      ·exact d1 b hb b (Pm _ hc) rfl
    ·rcases Pn.mp hb with rfl | hb
     ·exact .inl Pg
     ·rcases Po.mp hb with hb | hb
      ·exact .inl (Pi _ (Pv _ hb))
      ·rcases Po.mp hb with hb | hb
       ·exact (m3 b hb).imp (fun z=>Pi _ (Pm _ (Pv _ z))) id
       ·exact .inl (Pi _ (Pm _ (Pm _ hb)))
  cases o with
  | sh d=>cases e
  | dic _=>cases e
  | hd _ _ _=>cases e
  | lst l=>
   obtain ⟨a,xs,f,e1,e2,h1,h2⟩:=own_lst.mp h
   obtain ⟨w,fq,k1,k2,k3,k4,k5⟩:=body l a xs f e1 e2 (.inl h1) h2 e
   refine ⟨w,fq,k1,k2,k3,k4,fun H' q' fq' g1 g2 g3 g4=>?_⟩
   obtain ⟨f',m1,m2,m3,m4⟩:=k5 H' q' fq' g1 g2 g3 g4
   exact ⟨a :: f',by unfold kA;exact own_lst.mpr ⟨a,xs,f',e1,rfl,by rw [m2];exact h1,m1⟩,m3,m4⟩
  | tup l=>
   obtain ⟨a,xs,f,e1,e2,h1,h2⟩:=own_tup.mp h
   obtain ⟨w,fq,k1,k2,k3,k4,k5⟩:=body l a xs f e1 e2 (.inr h1) h2 e
   refine ⟨w,fq,k1,k2,k3,k4,fun H' q' fq' g1 g2 g3 g4=>?_⟩
   obtain ⟨f',m1,m2,m3,m4⟩:=k5 H' q' fq' g1 g2 g3 g4
   exact ⟨a :: f',by unfold kA;exact own_tup.mpr ⟨a,xs,f',e1,rfl,by rw [m2];exact h1,m1⟩,m3,m4⟩
abbrev XP:=Env -> Option (List Int)
def EO (K:W.Frag) (to:TE) (i:Nat) (p:XP):Prop:=∀ ρ σ S H (Q:VK) is o q,Rl K ρ σ S H -> ρ[i]? = some (.ow o) -> p ρ = some is -> eZ o is = some q -> (∀ v w S' H',σ[i]? = some (some v) -> Ext S H S' H' -> WalkV H' v is w -> Q w H') -> to σ H Q
@[simp] def xPv:XP:=fun _=>some []
theorem LC (i:Nat):EO K (t7 i) i xPv:=fun ρ σ S H Q is o q r h1 h2 h3 k=>by
 cases h2
 obtain ⟨v,fp,e,_⟩:=r.ow i o h1
 exact ⟨v,e,k v v S H e (Ext.refl r.sub) rfl⟩
@[simp] def xPi (p:XP) (ix:XE):XP:=fun ρ=>(p ρ).bind fun is=>(ix ρ).bind fun d=>match d with | .int k=>some (is ++ [k]) | _=>none
theorem NO {to ti:TE} {i:Nat} {p:XP} {ix:XE} (hp:EO K to i p) (hi:SPk K ti ix):EO K (tOp (rIx K) to ti) i (xPi p ix):=fun ρ σ S H Q is o q r h1 h2 h3 k=>by
 unfold xPi at h2
 cases e1:p ρ with
 | none=>rw [e1] at h2;cases h2
 | some js=>
  rw [e1] at h2
  dsimp only [Option.bind] at h2
  cases e2:ix ρ with
  | none=>rw [e2] at h2;cases h2
  | some d=>
   rw [e2] at h2
   cases d with
   | int kk=>
    cases h2
    obtain ⟨q0,s1,s2⟩:=rO h3
    refine hp ρ σ S H _ js o q0 r h1 e1 s1 fun v w S1 H1 ev z1 wk=>?_
    have r1:=r.ext z1
    refine hi ρ σ S1 H1 _ _ r1 e2 fun u S2 H2 z2 d2=>?_
    have r2:=r1.ext z2
    obtain ⟨v',fp,ev',ow,nd,_⟩:=r2.ow i o h1
    rw [ev] at ev'
    cases ev'
    obtain ⟨w',fq,k1,k2,_⟩:=FC ow nd s1
    have ew:=k2.uniq (wk.mono (z2.same r1.sub))
    subst ew
    rw [d2.int]
    cases q0 with
    | sh _=>cases s2
    | dic _=>cases s2
    | hd _ _ _=>cases s2
    | lst l=>
     have s2':(atI l kk).bind (fun o=>eZ o []) = some q:=s2
     cases e3:atI l kk with
     | none=>rw [e3] at s2';cases s2'
     | some o1=>
      obtain ⟨a,xs,f,rfl,rfl,hx,hl⟩:=own_lst.mp k1
      obtain ⟨j,ej,el⟩:=Ca e3
      obtain ⟨x,_,_,_,ex,_⟩:=hl.split el
      have ax:atI xs kk = some x:=by unfold atI;rw [<- hl.length,ej];exact ex
      exact .inl ⟨a,xs,kk,x,rfl,rfl,SqL.of hx,ax,k v x S2 H2 ev (z1.trans z2) (k2.snoc rfl (.inl hx) ax)⟩
    | tup l=>
     have s2':(atI l kk).bind (fun o=>eZ o []) = some q:=s2
     cases e3:atI l kk with
     | none=>rw [e3] at s2';cases s2'
     | some o1=>
      obtain ⟨a,xs,f,rfl,rfl,hx,hl⟩:=own_tup.mp k1
      obtain ⟨j,ej,el⟩:=Ca e3
      obtain ⟨x,_,_,_,ex,_⟩:=hl.split el
      have ax:atI xs kk = some x:=by unfold atI;rw [<- hl.length,ej];exact ex
      exact .inr (.inl ⟨a,xs,kk,x,rfl,rfl,SqT.of hx,ax,k v x S2 H2 ev (z1.trans z2) (k2.snoc rfl (.inr hx) ax)⟩)
   | _=>cases h2
theorem RlF.at {A:Hp} {Λ:Nat -> Option Addr} {Φ:Nat -> List Addr} {ρ:Env} {σ:St} {i:Nat} {o:O} {is:List Int} {l:List O} {v w:V} (f:RlF K A Λ Φ ρ σ S H) (h1:ρ[i]? = some (.ow o)) (h2:eZ o is = some (.lst l)) (ev:σ[i]? = some (some v)) (wk:WalkV H v is w) :
  ∃ a xs f0,w = .ref a /\ H a = some (.lst xs) /\ Owns K S H l xs f0 /\ (a :: f0).Nodup /\ (∀ b ∈ a :: f0,b ∈ Φ i) /\ ∀ l' xs' f',(∀ H',(∀ b,b ≠ a -> H' b = H b) -> Owns K S H' l' xs' f') -> (a :: f').Nodup -> (∀ b ∈ f',b ∈ f0 \/ ((∀ (j:Nat) o',ρ[j]? = some (.ow o') -> b ∉ Φ j) /\ S b = none /\ A b = none)) ->
   RlA K A Λ (ρ.set i (.ow (kA o is (.lst l')))) σ S (upd H a (.lst xs')):=by
 obtain ⟨v',e',ow,nd,n⟩:=f.ow i o h1
 rw [ev] at e'
 cases e'
 obtain ⟨w',fq,k1,k2,k3,k4,k5⟩:=FC ow nd h2
 have ew:=k2.uniq wk
 subst ew
 obtain ⟨a,xs,g,rfl,rfl,hx,hl⟩:=own_lst.mp k1
 have ain:=k3 a Pg
 refine ⟨a,xs,g,rfl,hx,hl,k4,k3,fun l' xs' f' g1 g2 g3=>?_⟩
 have ne:∀ b,b ≠ a -> upd H a (.lst xs') b = H b:=fun b hb=>a8 hb
 obtain ⟨fp',m1,m2,m3⟩:=k5 (upd H a (.lst xs')) (.lst l') (a :: f') (own_lst.mpr ⟨a,xs',f',rfl,rfl,aX,g1 _ ne⟩) g2 (fun b hb hn=>ne b fun z=>hn (z ▸ Pg)) fun b hb hp=>by
  rcases Pn.mp hb with rfl | hb
  ·exact Pg
  ·rcases g3 b hb with z | ⟨z,_⟩
   ·exact Pi _ z
   ·exact absurd hp (z i o h1)
 have sub':Same S (upd H a (.lst xs')):=fun b u e=>by rw [ne b fun z=>by subst z;rw [(n b ain).1] at e;cases e];exact f.sub b u e
 have asub':Same A (upd H a (.lst xs')):=fun b u e=>by rw [ne b fun z=>by subst z;rw [(n b ain).2] at e;cases e];exact f.asub b u e
 have fin:=f.put (H':=upd H a (.lst xs')) i sub' asub' m1 m2 (fun b hb=>by
  rcases m3 b hb with z | z
  ·exact n b z
  ·rcases Pn.mp z with rfl | z
   ·exact n b ain
   ·rcases g3 b z with z | ⟨_,z⟩
    ·exact n b (k3 b (Pi _ z))
    ·exact z) fun j o' hj e1 b hb=>by
   have nb:b ∉ Φ i:=fun z=>f.dj j i o' o hj e1 h1 b hb z
   refine ⟨ne b fun z=>nb (z ▸ ain),fun z=>?_⟩
   rcases m3 b z with z | z
   ·exact nb z
   ·rcases Pn.mp z with rfl | z
    ·exact nb ain
    ·rcases g3 b z with z | ⟨z,_⟩
     ·exact nb (k3 b (Pi _ z))
     ·exact z j o' e1 hb
 rw [Gb ev] at fin
 exact ⟨_,fin⟩
theorem RlF.fresh {A:Hp} {Λ:Nat -> Option Addr} {Φ:Nat -> List Addr} {ρ:Env} {σ:St} {b:Addr} (f:RlF K A Λ Φ ρ σ S H) (h:H b = none):(∀ (j:Nat) o',ρ[j]? = some (.ow o') -> b ∉ Φ j) /\ S b = none /\ A b = none:=
 ⟨fun j o' e hb=>by obtain ⟨_,_,ow,_⟩:=f.ow j o' e;exact ow.there b hb h,f.sub.free h,f.asub.free h⟩
@[simp] def lI (i:Nat) (p:XP) (e:Env -> Option O):XS:=fun ρ=>match ρ[i]? with
 | some (.ow o)=>(p ρ).bind fun is=>(e ρ).bind fun x=>match eZ o is with
  | some (.lst l)=>if l.length < LIM then some (.nx (ρ.set i (.ow (kA o is (.lst (l ++ [x])))))) else none
  | _=>none
 | _=>none
theorem Kc {to te:TE} {i:Nat} {p:XP} {e:Env -> Option O} (hp:EO K to i p) (h:STr K te e):SS K (xA (tBM K "list" rAppend to (ke te wX))) (lI i p e):=fun A Λ ρ σ S H E out r y k=>by
 unfold lI at y
 cases q0:ρ[i]? with
 | none=>rw [q0] at y;cases y
 | some s=>
  rw [q0] at y
  cases s with
  | un=>cases y
  | lo=>cases y
  | sh d=>cases y
  | ow o=>
   dsimp only at y
   cases q1:p ρ with
   | none=>rw [q1] at y;cases y
   | some is=>
    rw [q1] at y
    dsimp only [Option.bind] at y
    cases q2:e ρ with
    | none=>rw [q2] at y;cases y
    | some x=>
     rw [q2] at y
     dsimp only at y
     cases q3:eZ o is with
     | none=>rw [q3] at y;cases y
     | some qo=>
      rw [q3] at y
      cases qo with
      | sh _=>cases y
      | dic _=>cases y
      | hd _ _ _=>cases y
      | tup _=>cases y
      | lst l=>
       dsimp only at y
       split at y
       ·rename_i hl
        cases y
        obtain ⟨Φ,f⟩:=r
        refine hp ρ σ S H _ is o _ ⟨A,Λ,Φ,f⟩ q0 q1 q3 fun v w S1 H1 ev z1 wk=>?_
        have f1:=f.ext z1
        obtain ⟨a,xs,g0,rfl,hx,hw,nd0,in0,_⟩:=f1.at q0 q3 ev wk
        refine ⟨.inl ⟨rfl,xs,SqL.of hx⟩,h ρ σ S1 H1 _ x ⟨A,Λ,Φ,f1⟩ q2 fun u fu S2 H2 z2 ou nd n=>?_⟩
        have f2:=f1.ext z2
        obtain ⟨a',xs',g1,e1,hx',hw',nd1,in1,up⟩:=f2.at q0 q3 ev (wk.mono (z2.same f1.sub))
        cases e1
        have fr:∀ b ∈ fu,(∀ (j:Nat) o',ρ[j]? = some (.ow o') -> b ∉ Φ j) /\ S2 b = none /\ A b = none:=fun b hb=>⟨(f1.fresh (n b hb).1).1,(n b hb).2,(f1.fresh (n b hb).1).2.2⟩
        have fa:∀ b ∈ fu,b ∉ a :: g1:=fun b hb z=>(fr b hb).1 i o q0 (in1 b z)
        obtain ⟨na,ng⟩:=Qm.mp nd1
        refine ⟨a,xs',u,rfl,rfl,hx',?_,?_⟩
        ·rw [<- hw'.length];exact Nat.lt_trans hl lu
        ·refine k σ S2 _ (up (l ++ [x]) (xs' ++ [u]) (g1 ++ fu) (fun H' ne=>?_) ?_ fun b hb=>?_) (z1.sh.trans z2.sh)
         ·have:=(hw'.mono (H':=H') (Same.refl _) fun b hb=>ne b fun z=>na (z ▸ hb)).append (.cons (ou.mono (H':=H') (Same.refl _) fun b hb=>ne b fun z=>fa b hb (z ▸ Pg)) .nil)
          rw [P6] at this
          exact this
         ·refine Qm.mpr ⟨fun z=>?_,Ra.mpr ⟨ng,nd,fun b hb c hc e=>fa c hc (e ▸ Pi _ hb)⟩⟩
          rcases Po.mp z with z | z
          ·exact na z
          ·exact fa a z Pg
         ·rcases Po.mp hb with hb | hb
          ·exact .inl hb
          ·exact .inr (fr b hb)
       ·cases y
@[simp] def Oy (i:Nat) (p:XP) (j:Nat):XS:=fun ρ=>match ρ[i]? with
 | some (.ow o)=>(p ρ).bind fun is=>match eZ o is with
  | some (.lst l)=>(match l.getLast? with
   | some (.sh d)=>some (.nx ((ρ.set i (.ow (kA o is (.lst l.dropLast)))).set j (.sh d)))
   | _=>none)
  | _=>none
 | _=>none
@[simp] def Og (i:Nat) (p:XP):XS:=fun ρ=>match ρ[i]? with
 | some (.ow o)=>(p ρ).bind fun is=>match eZ o is with
  | some (.lst l)=>(match shs l with | some ds=>some (.nx (ρ.set i (.ow (kA o is (.lst (ds.reverse.map .sh)))))) | none=>none)
  | _=>none
 | _=>none
def rExtM:V -> List V -> Hp -> VK -> Prop:=fun x vs H Q=>∃ l b xs zs,x = .ref l /\ vs = [.ref b] /\ H l = some (.lst xs) /\ Rd H b (.lst zs) /\ xs.length + zs.length <= sizeLine /\ Q .non (upd H l (.lst (xs ++ zs)))
@[simp] def DZ (i:Nat) (p:XP) (e:XE):XS:=fun ρ=>match ρ[i]? with
 | some (.ow o)=>(p ρ).bind fun is=>(e ρ).bind fun d=>match eZ o is,d with
  | some (.lst l),.lst ds=>if l.length + ds.length <= LIM then some (.nx (ρ.set i (.ow (kA o is (.lst (l ++ ds.map .sh)))))) else none
  | _,_=>none
 | _=>none
theorem K4 {to te:TE} {i:Nat} {p:XP} {e:XE} (hp:EO K to i p) (h:SE K te e):SS K (xA (tBM K "list" rExtM to (ke te wX))) (DZ i p e):=fun A Λ ρ σ S H E out r y k=>by
 unfold DZ at y
 cases q0:ρ[i]? with
 | none=>rw [q0] at y;cases y
 | some s=>
  rw [q0] at y
  cases s with
  | un=>cases y
  | lo=>cases y
  | sh d=>cases y
  | ow o=>
   dsimp only at y
   cases q1:p ρ with
   | none=>rw [q1] at y;cases y
   | some is=>
    rw [q1] at y
    dsimp only [Option.bind] at y
    cases q2:e ρ with
    | none=>rw [q2] at y;cases y
    | some dd=>
     rw [q2] at y
     dsimp only at y
     cases q3:eZ o is with
     | none=>rw [q3] at y;cases y
     | some qo=>
      rw [q3] at y
      cases qo with
      | sh _=>cases y
      | dic _=>cases y
      | hd _ _ _=>cases y
      | tup _=>cases y
      | lst l=>
       cases dd with
       | lst ds=>
        dsimp only at y
        split at y
        ·rename_i hl
         cases y
         obtain ⟨Φ,f⟩:=r
         refine hp ρ σ S H _ is o _ ⟨A,Λ,Φ,f⟩ q0 q1 q3 fun v w S1 H1 ev z1 wk=>?_
         have f1:=f.ext z1
         obtain ⟨a,xs,g0,rfl,hx,hw,nd0,in0,_⟩:=f1.at q0 q3 ev wk
         refine ⟨.inl ⟨rfl,xs,SqL.of hx⟩,h ρ σ S1 H1 _ _ ⟨A,Λ,Φ,f1⟩ q2 fun u S2 H2 z2 d2=>?_⟩
         have f2:=f1.ext z2
         obtain ⟨a',xs',g1,e1,hx',hw',nd1,in1,up⟩:=f2.at q0 q3 ev (wk.mono (z2.same f1.sub))
         cases e1
         obtain ⟨b,zs,rfl,hb,dz⟩:=den_lst.mp d2
         obtain ⟨na,ng⟩:=Qm.mp nd1
         refine ⟨a,b,xs',zs,rfl,rfl,hx',cR z2.sub hb,?_,?_⟩
         ·rw [<- hw'.length,<- dz.length];exact Qg (Qz hl lu)
         ·refine k σ S2 _ (up (l ++ ds.map .sh) (xs' ++ zs) g1 (fun H' ne=>?_) nd1 fun b hb=>.inl hb) (z1.sh.trans z2.sh)
          have:=(hw'.mono (H':=H') (Same.refl _) fun b hb=>ne b fun z=>na (z ▸ hb)).append (ut (H:=H') dz)
          rw [P6] at this
          exact this
        ·cases y
       | _=>cases y
@[simp] def Bn (i:Nat) (p:XP) (ix e:XE):XS:=fun ρ=>(e ρ).bind fun d=>match ρ[i]? with
 | some (.ow o)=>(p ρ).bind fun is=>(ix ρ).bind fun k=>match eZ o is,k with
  | some (.lst l),.int k=>(match shs l with | some ds=>(ixN ds.length k).map fun j=>.nx (ρ.set i (.ow (kA o is (.lst ((ds.set j d).map .sh))))) | none=>none)
  | _,_=>none
 | _=>none
theorem Jw {to te ti:TE} {i:Nat} {p:XP} {e ix:XE} (h:SE K te e) (hp:EO K to i p) (hi:SPk K ti ix):SS K (A7 te (L0 to ti IP)) (Bn i p ix e):=fun A Λ ρ σ S H E out r y k=>by
 unfold Bn at y
 cases q:e ρ with
 | none=>rw [q] at y;cases y
 | some d=>
  rw [q] at y
  dsimp only [Option.bind] at y
  cases q0:ρ[i]? with
  | none=>rw [q0] at y;cases y
  | some s=>
   rw [q0] at y
   cases s with
   | un=>cases y
   | lo=>cases y
   | sh d=>cases y
   | ow o=>
    dsimp only at y
    cases q1:p ρ with
    | none=>rw [q1] at y;cases y
    | some is=>
     rw [q1] at y
     dsimp only at y
     cases q2:ix ρ with
     | none=>rw [q2] at y;cases y
     | some dk=>
      rw [q2] at y
      dsimp only at y
      cases q3:eZ o is with
      | none=>rw [q3] at y;cases y
      | some qo=>
       rw [q3] at y
       cases qo with
       | sh _=>cases y
       | dic _=>cases y
       | hd _ _ _=>cases y
       | tup _=>cases y
       | lst l=>
        cases dk with
        | int kk=>
         dsimp only at y
         cases q4:shs l with
         | none=>rw [q4] at y;cases y
         | some ds=>
          rw [q4] at y
          dsimp only at y
          cases q5:ixN ds.length kk with
          | none=>rw [q5] at y;cases y
          | some j=>
           rw [q5] at y
           cases y
           have ed:=BF q4
           subst ed
           obtain ⟨Φ,f⟩:=r
           refine h ρ σ S H _ d ⟨A,Λ,Φ,f⟩ q fun u S0 H0 z0 d0=>?_
           have f0:=f.ext z0
           refine hp ρ σ S0 H0 _ is o _ ⟨A,Λ,Φ,f0⟩ q0 q1 q3 fun v w S1 H1 ev z1 wk=>?_
           have f1:=f0.ext z1
           refine hi ρ σ S1 H1 _ _ ⟨A,Λ,Φ,f1⟩ q2 fun w2 S2 H2 z2 d2=>?_
           have f2:=f1.ext z2
           obtain ⟨a',xs',g1,rfl,hx',hw',nd1,in1,up⟩:=f2.at q0 q3 ev (wk.mono (z2.same f1.sub))
           obtain ⟨hd,rfl⟩:=o8 hw'
           refine ⟨a',xs',kk,j,rfl,d2.int,hx',by rw [<- hd.length];exact q5,?_⟩
           exact k σ S2 _ (up ((ds.set j d).map .sh) (xs'.set j u) [] (fun H' ne=>ut (hd.set j ((d0.mono z1.sh).mono z2.sh))) nd1 fun b hb=>by cases hb) ((z0.sh.trans z1.sh).trans z2.sh)
        | _=>cases y
@[simp] def D0 (i:Nat) (e:XE) (f:D -> D -> Option D):XS:=fun ρ=>match ρ[i]? with
 | some (.sh x)=>(e ρ).bind fun y=>(f x y).map fun z=>.nx (ρ.set i (.sh z))
 | _=>none
theorem Lu {te:TE} {e:XE} {i:Nat} {ti:TIp} {f:D -> D -> Option D} (h:SPk K te e) (hr:SR2 K ti f):SS K (Mo i te ti) (D0 i e f):=fun A Λ ρ σ S H E o r y k=>by
 unfold D0 at y
 cases q0:ρ[i]? with
 | none=>rw [q0] at y;cases y
 | some s=>
  rw [q0] at y
  cases s with
  | un=>cases y
  | lo=>cases y
  | ow d=>cases y
  | sh x=>
   dsimp only at y
   cases q:e ρ with
   | none=>rw [q] at y;cases y
   | some d=>
    rw [q] at y
    dsimp only [Option.bind] at y
    cases q2:f x d with
    | none=>rw [q2] at y;cases y
    | some g=>
     rw [q2] at y
     cases y
     obtain ⟨v,h1,h2⟩:=r.sh i x q0
     refine ⟨v,h1,h ρ σ S H _ d r.toRl q fun w S1 H1 z1 d1=>?_⟩
     exact hr S1 H1 v w x d g _ z1.sub (.inl (h2.mono z1.sh)) d1 q2 fun u S2 H2 z2 d2=>k _ S2 H2 ((r.ext (z1.trans z2)).set i d2) (z1.sh.trans z2.sh)
@[simp] def Os (e:XE):XS:=fun ρ=>(e ρ).map fun _=>.nx ρ
end
section
variable {K:W.Frag} {S S' H H':Hp}
def Walks (K:W.Frag) (J:It) (S:Hp) (l:List D):Prop:=∀ S' H',Same S S' -> Same S' H' ->
 (∀ i d,l[i]? = some d -> J.go i H' /\ ∀ x H'',J.yld i H' x H'' -> H'' = H' /\ Den K S' d x) /\ J.stop l.length H'
def SI (K:W.Frag) (wi:TI) (e:XA):Prop:=∀ ρ σ S H (R:It -> Hp -> Prop) l,Rl K ρ σ S H -> e ρ = some l -> (∀ J S' H',Ext S H S' H' -> Walks K J S' l -> R J H') -> wi σ H R
def CS:D -> Option (List D)
 | .lst l=>some l | .tup l=>some l | .scr l=>some l | .mtp l=>some l | _=>none
def JM (K:W.Frag) (J:It) (S H:Hp) (l:List D):Prop:=∀ S' H',Ext S H S' H' ->
 (∀ i d,l[i]? = some d -> J.go i H' /\ ∀ x H'',J.yld i H' x H'' -> H'' = H' /\ Den K S' d x) /\ J.stop l.length H'
def SIP (K:W.Frag) (wi:TI) (e:XA):Prop:=∀ ρ σ S H (R:It -> Hp -> Prop) l,Rl K ρ σ S H -> e ρ = some l -> (∀ J S' H',Ext S H S' H' -> JM K J S' H' l -> R J H') -> wi σ H R
theorem SI.p {wi:TI} {e:XA} (h:SI K wi e):SIP K wi e:=fun ρ σ S H R l r x k=>h ρ σ S H R l r x fun J S' H' z w=>k J S' H' z fun S2 H2 z2=>w S2 H2 z2.sh z2.sub
@[simp] def xIt (e:XE):XA:=fun ρ=>(e ρ).bind CS
theorem LM {tl:TE} {e:XE} (h:SE K tl e):SI K (J4 K tl) (xIt e):=fun ρ σ S H R l r x k=>by
 unfold xIt at x
 cases q:e ρ with
 | none=>rw [q] at x;cases x
 | some d=>
  rw [q] at x
  dsimp only [Option.bind] at x
  refine h ρ σ S H _ d r q fun v S1 H1 z1 d1=>?_
  cases d with
  | lst l'=>
   cases x
   obtain ⟨p,xs,rfl,h1,h2⟩:=den_lst.mp d1
   refine ⟨p,rfl,.inl ⟨⟨xs,.inl (cR z1.sub h1)⟩,k _ S1 H1 z1 fun S' H' s1 s2=>⟨fun i d hd=>?_,xs,.inl (cR (s1.trans s2) h1),Ql h2.length.symm⟩⟩⟩
   obtain ⟨y,e1,e2⟩:=h2.get hd
   refine ⟨⟨xs,y,.inl (cR (s1.trans s2) h1),e1⟩,fun x H'' hy=>⟨hy.1,?_⟩⟩
   have:=hy.2 xs (.inl (cR (s1.trans s2) h1))
   rw [e1] at this
   cases this
   exact e2.mono s1
  | tup l'=>
   cases x
   obtain ⟨p,xs,rfl,h1,h2⟩:=iP d1
   refine ⟨p,rfl,.inr ⟨⟨xs,ba z1.sub h1⟩,k _ S1 H1 z1 fun S' H' s1 s2=>⟨fun i d hd=>?_,xs,ba (s1.trans s2) h1,Ql h2.length.symm⟩⟩⟩
   obtain ⟨y,e1,e2⟩:=h2.get hd
   refine ⟨⟨xs,y,ba (s1.trans s2) h1,e1⟩,fun x H'' hy=>⟨hy.1,?_⟩⟩
   have:=hy.2 xs (ba (s1.trans s2) h1)
   rw [e1] at this
   cases this
   exact e2.mono s1
  | mtp l'=>
   cases x
   obtain ⟨p,xs,rfl,h1,h2⟩:=den_mtp.mp d1
   refine ⟨p,rfl,.inr ⟨⟨xs,ba z1.sub h1⟩,k _ S1 H1 z1 fun S' H' s1 s2=>⟨fun i d hd=>?_,xs,ba (s1.trans s2) h1,Ql h2.length.symm⟩⟩⟩
   obtain ⟨y,e1,e2⟩:=h2.get hd
   refine ⟨⟨xs,y,ba (s1.trans s2) h1,e1⟩,fun x H'' hy=>⟨hy.1,?_⟩⟩
   have:=hy.2 xs (ba (s1.trans s2) h1)
   rw [e1] at this
   cases this
   exact e2.mono s1
  | scr l'=>
   cases x
   obtain ⟨p,xs,rfl,h1,h2⟩:=den_scr.mp d1
   refine ⟨p,rfl,.inl ⟨⟨xs,fb z1.sub h1⟩,k _ S1 H1 z1 fun S' H' s1 s2=>⟨fun i d hd=>?_,xs,fb (s1.trans s2) h1,Ql h2.length.symm⟩⟩⟩
   obtain ⟨y,e1,e2⟩:=h2.get hd
   refine ⟨⟨xs,y,fb (s1.trans s2) h1,e1⟩,fun x H'' hy=>⟨hy.1,?_⟩⟩
   have:=hy.2 xs (fb (s1.trans s2) h1)
   rw [e1] at this
   cases this
   exact e2.mono s1
  | _=>cases x
def ifC {α:Type} (p:Prop) (a b:α):α:=@ite α p (Classical.propDecidable p) a b
theorem f9 {α:Type} {p:Prop} {a b:α} (h:p):ifC p a b = a:=by unfold ifC;exact O7 h
theorem jt {α:Type} {p:Prop} {a x:α} (h:ifC p (some a) none = some x):p /\ a = x:=by
 unfold ifC at h
 by_cases c:p
 ·rw [O7 c] at h;exact ⟨c,PR h⟩
 ·rw [O8 c] at h;cases h
theorem JD {tl:TE} {e:XE} (h:SPk K tl e):SIP K (J4 K tl) (xIt e):=fun ρ σ S H R l r x k=>by
 unfold xIt at x
 cases q:e ρ with
 | none=>rw [q] at x;cases x
 | some d=>
  rw [q] at x
  dsimp only [Option.bind] at x
  refine h ρ σ S H _ d r q fun v S1 H1 z1 d1=>?_
  rcases d1 with d1 | ⟨l',p,xs,rfl,rfl,hx,dx⟩
  ·cases d with
   | lst l'=>
    cases x
    obtain ⟨p,xs,rfl,h1,h2⟩:=den_lst.mp d1
    refine ⟨p,rfl,.inl ⟨⟨xs,.inl (cR z1.sub h1)⟩,k _ S1 H1 z1 fun S' H' z2=>⟨fun i d hd=>?_,xs,.inl (cR (z2.sh.trans z2.sub) h1),Ql h2.length.symm⟩⟩⟩
    obtain ⟨y,e1,e2⟩:=h2.get hd
    refine ⟨⟨xs,y,.inl (cR (z2.sh.trans z2.sub) h1),e1⟩,fun x H'' hy=>⟨hy.1,?_⟩⟩
    have:=hy.2 xs (.inl (cR (z2.sh.trans z2.sub) h1))
    rw [e1] at this
    cases this
    exact e2.mono z2.sh
   | tup l'=>
    cases x
    obtain ⟨p,xs,rfl,h1,h2⟩:=iP d1
    refine ⟨p,rfl,.inr ⟨⟨xs,ba z1.sub h1⟩,k _ S1 H1 z1 fun S' H' z2=>⟨fun i d hd=>?_,xs,ba (z2.sh.trans z2.sub) h1,Ql h2.length.symm⟩⟩⟩
    obtain ⟨y,e1,e2⟩:=h2.get hd
    refine ⟨⟨xs,y,ba (z2.sh.trans z2.sub) h1,e1⟩,fun x H'' hy=>⟨hy.1,?_⟩⟩
    have:=hy.2 xs (ba (z2.sh.trans z2.sub) h1)
    rw [e1] at this
    cases this
    exact e2.mono z2.sh
   | mtp l'=>
    cases x
    obtain ⟨p,xs,rfl,h1,h2⟩:=den_mtp.mp d1
    refine ⟨p,rfl,.inr ⟨⟨xs,ba z1.sub h1⟩,k _ S1 H1 z1 fun S' H' z2=>⟨fun i d hd=>?_,xs,ba (z2.sh.trans z2.sub) h1,Ql h2.length.symm⟩⟩⟩
    obtain ⟨y,e1,e2⟩:=h2.get hd
    refine ⟨⟨xs,y,ba (z2.sh.trans z2.sub) h1,e1⟩,fun x H'' hy=>⟨hy.1,?_⟩⟩
    have:=hy.2 xs (ba (z2.sh.trans z2.sub) h1)
    rw [e1] at this
    cases this
    exact e2.mono z2.sh
   | scr l'=>
    cases x
    obtain ⟨p,xs,rfl,h1,h2⟩:=den_scr.mp d1
    refine ⟨p,rfl,.inl ⟨⟨xs,fb z1.sub h1⟩,k _ S1 H1 z1 fun S' H' z2=>⟨fun i d hd=>?_,xs,fb (z2.sh.trans z2.sub) h1,Ql h2.length.symm⟩⟩⟩
    obtain ⟨y,e1,e2⟩:=h2.get hd
    refine ⟨⟨xs,y,fb (z2.sh.trans z2.sub) h1,e1⟩,fun x H'' hy=>⟨hy.1,?_⟩⟩
    have:=hy.2 xs (fb (z2.sh.trans z2.sub) h1)
    rw [e1] at this
    cases this
    exact e2.mono z2.sh
   | _=>cases x
  ·cases x
   refine ⟨p,rfl,.inl ⟨⟨xs,SqL.of hx⟩,k _ S1 H1 z1 fun S' H' z2=>?_⟩⟩
   have hx2:H' p = some (.lst xs):=z2.same z1.sub _ _ hx
   refine ⟨fun i d hd=>?_,xs,SqL.of hx2,Ql dx.length.symm⟩
   obtain ⟨y,e1,e2⟩:=dx.get hd
   refine ⟨⟨xs,y,SqL.of hx2,e1⟩,fun x H'' hy=>⟨hy.1,?_⟩⟩
   have:=hy.2 xs (SqL.of hx2)
   rw [e1] at this
   cases this
   exact e2.mono z2.sh
def fR (lo:Int):Nat -> List D
 | 0=>[]
 | n + 1=>.int lo :: fR (lo + 1) n
theorem sN:∀ (n:Nat) (lo:Int) (i:Nat) (d:D),(fR lo n)[i]? = some d -> i < n /\ d = .int (lo + i)
 | 0,_,_,_,h=>by simp [fR] at h
 | n + 1,lo,0,d,h=>by simp [fR] at h;exact ⟨Nat.succ_pos _,by rw [<- h];simp⟩
 | n + 1,lo,i + 1,d,h=>by
  obtain ⟨h1,h2⟩:=sN n (lo + 1) i d (by simpa [fR] using h)
  exact ⟨Nat.succ_lt_succ h1,by rw [h2];congr 1;lia⟩
theorem rM:∀ (n:Nat) (lo:Int),(fR lo n).length = n
 | 0,_=>rfl
 | n + 1,lo=>by rw [fR,Pr,rM n]
theorem D5 (lo:Int) (n:Nat):Walks K (Itr lo n) S (fR lo n):=fun S' H' _ _=>⟨fun i d h=>by
 obtain ⟨h1,rfl⟩:=sN n lo i d h
 exact ⟨h1,fun x H'' y=>⟨y.1,den_int.mpr y.2⟩⟩,by rw [rM];exact Pf _⟩
def Ge:List D -> Option (List D)
 | [.int j]=>ifC (j < 1000000 /\ -1000000 < j) (some (fR 0 j.toNat)) none
 | [.int i,.int j]=>ifC (j < 4000000000000000000 /\ -4000000000000000000 < i /\ i < 4000000000000000000 /\ -4000000000000000000 < j) (some (fR i (j - i).toNat)) none
 | _=>none
@[simp] def G0 (a:XA):XA:=fun ρ=>(a ρ).bind Ge
theorem J8 {ta:TE} {a:XE} (h:SPk K ta a):SI K (IE (ke ta wX)) (G0 (ad a am)):=fun ρ σ S H R l r x k=>by
 unfold G0 at x
 cases q:ad a am ρ with
 | none=>rw [q] at x;cases x
 | some ds=>
  rw [q] at x
  obtain ⟨d,e,qa,qb,rfl⟩:=p8 q
  cases qb
  cases d with
  | int j=>
   have x':ifC (j < 1000000 /\ -1000000 < j) (some (fR 0 j.toNat)) none = some l:=x
   obtain ⟨hj,rfl⟩:=jt x'
   refine h ρ σ S H _ _ r qa fun v S1 H1 z1 d1=>?_
   refine ⟨j,by rw [d1.int],?_,?_,k _ S1 H1 z1 (D5 0 _)⟩
   ·have:(2:Int) ^ 62 = 4611686018427387904:=by decide
    lia
   ·have:(2:Int) ^ 62 = 4611686018427387904:=by decide
    lia
  | _=>cases x
def ga:Nat -> Nat -> List D
 | _,0=>[]
 | k,n + 1=>.int (2 * k) :: ga (k + 1) n
theorem vp:∀ (n k i:Nat) (d:D),(ga k n)[i]? = some d -> i < n /\ d = .int (2 * ((k + i:Nat):Int))
 | 0,_,_,_,h=>by simp [ga] at h
 | n + 1,k,0,d,h=>by simp [ga] at h;exact ⟨Nat.succ_pos _,by rw [<- h];simp⟩
 | n + 1,k,i + 1,d,h=>by
  obtain ⟨h1,h2⟩:=vp n (k + 1) i d (by simpa [ga] using h)
  exact ⟨Nat.succ_lt_succ h1,by rw [h2];congr 1;lia⟩
theorem pz:∀ (n k:Nat),(ga k n).length = n
 | 0,_=>rfl
 | n + 1,k=>by rw [ga,Pr,pz n]
def DQ:List D -> Option (List D)
 | [.int a,.int j,.int b]=>ifC (a = 0 /\ b = 2 /\ 0 <= j /\ j < 1000000) (some (ga 0 ((j + 1) / 2).toNat)) none
 | _=>none
@[simp] def FS (a:XA):XA:=fun ρ=>(a ρ).bind DQ
theorem J7 {t:TA} {a:XA} (h:SAP K t a):SI K (IT t) (FS a):=fun ρ σ S H R l r x k=>by
 unfold FS at x
 cases q:a ρ with
 | none=>rw [q] at x;cases x
 | some ds=>
  rw [q] at x
  dsimp only [Option.bind] at x
  unfold DQ at x
  split at x
  ·rename_i aa j bb
   obtain ⟨⟨rfl,rfl,hj1,hj2⟩,rfl⟩:=jt x
   refine h ρ σ S H _ _ r q fun vs S1 H1 z1 d1=>?_
   cases d1 with
   | cons a1 d1=>cases d1 with
    | cons a2 d1=>cases d1 with
     | cons a3 d1=>
      cases d1
      refine ⟨j,by rw [a1.int,a2.int,a3.int],hj1,hj2,k _ S1 H1 z1 fun S' H' _ _=>⟨fun i d h=>?_,by rw [pz];exact Pf _⟩⟩
      obtain ⟨h1,rfl⟩:=vp _ 0 i d h
      exact ⟨h1,fun x H'' y=>⟨y.1,den_int.mpr (by rw [y.2,Qy])⟩⟩
  ·cases x
def ig (g:XG) (m:XS):List D -> Env -> Option Out
 | [],ρ=>some (.nx ρ)
 | d :: l,ρ=>(g d ρ).bind fun ρ1=>match m ρ1 with
  | some (.nx ρ2)=>ig g m l ρ2
  | some (.ct ρ2)=>ig g m l ρ2
  | some (.bk ρ2)=>some (.nx ρ2)
  | some (.rt d)=>some (.rt d)
  | some (.ro d)=>some (.ro d)
  | none=>none
@[simp] def jy (e:XA) (g:XG) (m:XS):XS:=fun ρ=>(e ρ).bind fun l=>ig g m l ρ
theorem Ay {l:List D} {i:Nat} {d:D} (h:l[i]? = some d):l.drop i = d :: l.drop (i + 1):=by
 obtain ⟨h1,rfl⟩:=Pw.mp h
 exact Rm h1
theorem Ly {wi:TI} {g:TG} {tb:TS} {e:XA} {x:XG} {m:XS} (hi:SI K wi e) (hg:SG K g x) (hb:SS K tb m):SS K (LF wi g tb) (jy e x m):=fun A Λ ρ σ S H E o r y k=>by
 unfold jy at y
 cases q:e ρ with
 | none=>rw [q] at y;cases y
 | some l=>
  rw [q] at y
  dsimp only [Option.bind] at y
  refine hi ρ σ S H _ l r.toRl q fun J S1 H1 z1 wk=>?_
  have r1:=r.ext z1
  refine ⟨fun i n σ' H'=>n = l.length - i /\ i <= l.length /\ ∃ ρ' S',RlA K A Λ ρ' σ' S' H' /\ Same S1 S' /\ ig x m (l.drop i) ρ' = some o,⟨_,rfl,PU _,ρ,S1,r1,Same.refl _,y⟩,?_⟩
  rintro i n σ2 H2 ⟨rfl,hil,ρ2,S2,r2,s2,y2⟩
  obtain ⟨w1,w2⟩:=wk S2 H2 s2 r2.sub
  cases qd:l[i]? with
  | none=>
   have:l.length = i:=by have:=Ru.mp qd;lia
   subst this
   rw [QX (Pf _)] at y2
   cases y2
   exact .inl ⟨w2,k σ2 S2 H2 r2 (z1.sh.trans s2)⟩
  | some d=>
   obtain ⟨g1,g2⟩:=w1 i d qd
   have hlt:=(Pw.mp qd).1
   rw [Ay qd] at y2
   unfold ig at y2
   cases qx:x d ρ2 with
   | none=>rw [qx] at y2;cases y2
   | some ρ3=>
    rw [qx] at y2
    dsimp only [Option.bind] at y2
    refine .inr ⟨g1,fun σ' H'=>∃ ρ' S',RlA K A Λ ρ' σ' S' H' /\ Same S1 S' /\ ig x m (l.drop (i + 1)) ρ' = some o,fun σ' H' ⟨ρ',S',a1,a2,a3⟩=>⟨_,by lia,rfl,hlt,ρ',S',a1,a2,a3⟩,fun xv H3 hy=>?_⟩
    obtain ⟨rfl,dx⟩:=g2 xv H3 hy
    refine hg A Λ ρ2 σ2 S2 H3 xv d _ ρ3 r2 dx qx fun σ3 r3=>?_
    cases qm:m ρ3 with
    | none=>rw [qm] at y2;cases y2
    | some om=>
     rw [qm] at y2
     refine hb A Λ ρ3 σ3 S2 H3 _ om r3 qm ?_
     cases om with
     | nx ρ4=>exact fun σ4 S4 H4 r4 s4=>⟨ρ4,S4,r4,s2.trans s4,y2⟩
     | ct ρ4=>exact fun σ4 S4 H4 r4 s4=>⟨ρ4,S4,r4,s2.trans s4,y2⟩
     | bk ρ4=>cases y2;exact fun σ4 S4 H4 r4 s4=>k σ4 S4 H4 r4 ((z1.sh.trans s2).trans s4)
     | rt d4=>cases y2;exact fun v S4 H4 s4=>k v S4 H4 ((z1.sh.trans s2).trans s4)
     | ro d4=>cases y2;exact fun v fp S4 H4 s4=>k v fp S4 H4 ((z1.sh.trans s2).trans s4)
def cS (c:XT) (m:XS):Nat -> Env -> Option Out
 | 0,_=>none
 | n + 1,ρ=>(c ρ).bind fun b=>if b = true then (match m ρ with
  | some (.nx ρ2)=>cS c m n ρ2
  | some (.ct ρ2)=>cS c m n ρ2
  | some (.bk ρ2)=>some (.nx ρ2)
  | some (.rt d)=>some (.rt d)
  | some (.ro d)=>some (.ro d)
  | none=>none) else some (.nx ρ)
theorem nc (c:XT) (m:XS):∀ (n:Nat) (ρ:Env) (o:Out),cS c m n ρ = some o -> cS c m (n + 1) ρ = some o
 | 0,_,_,h=>by cases h
 | n + 1,ρ,o,h=>by
  unfold cS at h ⊢
  cases qc:c ρ with
  | none=>rw [qc] at h;cases h
  | some b=>
   rw [qc] at h
   dsimp only [Option.bind] at h ⊢
   cases b with
   | false=>exact h
   | true=>
    rw [O7 rfl] at h ⊢
    cases qm:m ρ with
    | none=>rw [qm] at h;cases h
    | some om=>
     rw [qm] at h
     cases om with
     | nx ρ2=>exact nc c m n ρ2 o h
     | ct ρ2=>exact nc c m n ρ2 o h
     | bk ρ2=>exact h
     | rt d=>exact h
     | ro d=>exact h
theorem pK (c:XT) (m:XS) (n:Nat) (ρ:Env) (o:Out) (h:cS c m n ρ = some o):∀ k,cS c m (n + k) ρ = some o
 | 0=>h
 | k + 1=>nc c m (n + k) ρ o (pK c m n ρ o h k)
def rc (c:XT) (m:XS):XS:=fun ρ=>by
 classical
 exact if h:∃ o n,cS c m n ρ = some o then some h.choose else none
def eg (c:XT) (m:XS):XS:=fun ρ=>(cS c m 64 ρ).or (rc c m ρ)
theorem vh {c:XT} {m:XS} {ρ:Env} {o o':Out} {n k:Nat} (h:cS c m n ρ = some o) (h':cS c m k ρ = some o'):o' = o:=by
 have h3:=pK c m n ρ o h k
 have h4:=pK c m k ρ _ h' n
 rw [Nat.add_comm k n,h3] at h4
 exact (PR h4).symm
theorem xN {c:XT} {m:XS} {n:Nat} {ρ:Env} {o:Out} (h:cS c m n ρ = some o):eg c m ρ = some o:=by
 unfold eg
 cases q:cS c m 64 ρ with
 | some o'=>exact PC some (vh h q)
 | none=>
  have hx:∃ o n,cS c m n ρ = some o:=⟨o,n,h⟩
  show rc c m ρ = some o
  unfold rc
  rw [dif_pos hx]
  obtain ⟨n2,h2⟩:=hx.choose_spec
  exact PC some (vh h h2)
theorem xI {c:XT} {m:XS} {ρ:Env} {o:Out} (h:eg c m ρ = some o):∃ n,cS c m n ρ = some o:=by
 unfold eg at h
 cases q:cS c m 64 ρ with
 | some o'=>rw [q] at h;exact ⟨64,q.trans h⟩
 | none=>
  rw [q] at h
  have h:rc c m ρ = some o:=h
  unfold rc at h
  split at h
  ·rename_i hx
   cases h
   exact hx.choose_spec
  ·cases h
theorem uX {c:XT} {m:XS} {ρ:Env} (h:c ρ = some false):eg c m ρ = some (.nx ρ):=xN (n:=1) (by unfold cS;rw [h];rfl)
theorem tD {c:XT} {m:XS} {ρ ρ2:Env} {o:Out} (h:c ρ = some true) (hm:m ρ = some (.nx ρ2)) (k:eg c m ρ2 = some o):eg c m ρ = some o:=by
 obtain ⟨n,hn⟩:=xI k
 exact xN (n:=n + 1) (by unfold cS;rw [h,hm];exact hn)
theorem HR {tc:TT} {tb:TS} {c:XT} {m:XS} (hc:ST K tc c) (hb:SS K tb m):SS K (Hj tc tb) (eg c m):=fun A Λ ρ σ S H E o r y k=>by
 obtain ⟨n,hn⟩:=xI y
 refine ⟨fun n σ' H'=>∃ ρ' S',RlA K A Λ ρ' σ' S' H' /\ Same S S' /\ cS c m n ρ' = some o,⟨n,ρ,S,r,Same.refl _,hn⟩,?_⟩
 rintro n σ1 H1 ⟨ρ1,S1,r1,s1,h1⟩
 cases n with
 | zero=>cases h1
 | succ n=>
  unfold cS at h1
  cases qc:c ρ1 with
  | none=>rw [qc] at h1;cases h1
  | some b=>
   rw [qc] at h1
   dsimp only [Option.bind] at h1
   refine hc ρ1 σ1 S1 H1 _ b r1.toRl qc fun S2 H2 z2=>?_
   have r2:=r1.ext z2
   cases b with
   | false=>
    rw [O8 (by decide)] at h1
    cases h1
    exact EJ (k σ1 S2 H2 r2 (s1.trans z2.sh))
   | true=>
    rw [O7 rfl] at h1
    refine Fk ⟨fun σ' H'=>∃ ρ' S',RlA K A Λ ρ' σ' S' H' /\ Same S S' /\ cS c m n ρ' = some o,fun σ' H' a=>⟨n,Q5 _,a⟩,?_⟩
    cases qm:m ρ1 with
    | none=>rw [qm] at h1;cases h1
    | some om=>
     rw [qm] at h1
     refine hb A Λ ρ1 σ1 S2 H2 _ om r2 qm ?_
     cases om with
     | nx ρ4=>exact fun σ4 S4 H4 r4 s4=>⟨ρ4,S4,r4,(s1.trans z2.sh).trans s4,h1⟩
     | ct ρ4=>exact fun σ4 S4 H4 r4 s4=>⟨ρ4,S4,r4,(s1.trans z2.sh).trans s4,h1⟩
     | bk ρ4=>cases h1;exact fun σ4 S4 H4 r4 s4=>k σ4 S4 H4 r4 ((s1.trans z2.sh).trans s4)
     | rt d4=>cases h1;exact fun v S4 H4 s4=>k v S4 H4 ((s1.trans z2.sh).trans s4)
     | ro d4=>cases h1;exact fun v fp S4 H4 s4=>k v fp S4 H4 ((s1.trans z2.sh).trans s4)
@[simp] def zg (js:List (Option Nat)) (ρ:Env):Env:=js.map fun o=>match o with | none=>.un | some j=>match ρ[j]? with | some (.sh d)=>.sh d | _=>.un
def bU (g:XG) (c:XT) (e:XE) (ρ0:Env):List D -> Option (List D)
 | []=>some []
 | d :: l=>(g d ρ0).bind fun ρ1=>(c ρ1).bind fun b=>if b = true then (e ρ1).bind fun y=>(bU g c e ρ0 l).map fun r=>y :: r else bU g c e ρ0 l
@[simp] def dr (js:List (Option Nat)) (w:XA) (g:XG) (c:XT) (e:XE):XA:=fun ρ=>(w ρ).bind fun l=>if l.length <= LIM then bU g c e (zg js ρ) l else none
@[simp] def dl:XT:=fun _=>some true
theorem Ln:ST K I9 dl:=fun ρ σ S H Q b r x k=>by cases x;exact k S H (Ext.refl r.sub)
theorem p6 {js:List (Option Nat)} {ρ:Env} {i:Nat} {s:Sl} (h:(zg js ρ)[i]? = some s):s = .un \/ ∃ d j,s = .sh d /\ js[i]? = some (some j) /\ ρ[j]? = some (.sh d):=by
 unfold zg at h
 rw [PB] at h
 cases q:js[i]? with
 | none=>rw [q] at h;cases h
 | some o=>
  rw [q] at h
  cases o with
  | none=>cases h;exact .inl rfl
  | some j=>
   simp only [Option.map_some] at h
   cases q2:ρ[j]? with
   | none=>rw [q2] at h;cases h;exact .inl rfl
   | some s2=>
    rw [q2] at h
    cases s2 with
    | un=>cases h;exact .inl rfl
    | lo=>cases h;exact .inl rfl
    | ow l=>cases h;exact .inl rfl
    | sh d=>cases h;exact .inr ⟨d,j,rfl,rfl,q2⟩
def oQ (S H:Hp):Hp:=fun b=>match S b with | none=>H b | some _=>none
theorem yx {S H:Hp}:Same (oQ S H) H:=fun b o h=>by
 unfold oQ at h
 cases q:S b with
 | none=>rw [q] at h;exact h
 | some _=>rw [q] at h;cases h
theorem xw {S H:Hp} (b:Addr):S b = none \/ oQ S H b = none:=by
 unfold oQ
 cases q:S b with
 | none=>exact .inl rfl
 | some _=>exact .inr rfl
theorem Ad {S H:Hp} {b:Addr} {o:HO} (h:H b = some o) (n:S b = none):oQ S H b = some o:=by
 unfold oQ
 rw [n]
 exact h
theorem Ky {ρ:Env} {σ:St} (r:Rl K ρ σ S H) (js:List (Option Nat)):RlA K (oQ S H) (fun _=>none) (zg js ρ) (inn js σ) S H:=by
 refine ⟨fun _=>[],?_⟩
 exact {
  len:=by unfold zg inn;rw [Pc,Pc]
  sub:=r.sub
  sh:=fun i d h=>by
   rcases p6 h with e | ⟨d',j,e,h1,h2⟩
   ·cases e
   ·cases e
    obtain ⟨v,k1,k2⟩:=r.sh j d h2
    refine ⟨v,?_,k2⟩
    unfold inn
    rw [PB,h1]
    show some ((σ[j]?).join) = some (some v)
    rw [k1]
    rfl
  ow:=fun i o h=>by
   rcases p6 h with e | ⟨d',j,e,h1,h2⟩
   ·cases e
   ·cases e
  dj:=fun i j o o' _ h=>by
   rcases p6 h with e | ⟨d',j,e,h1,h2⟩
   ·cases e
   ·cases e
  lo:=fun i h=>by
   rcases p6 h with e | ⟨d',j,e,h1,h2⟩
   ·cases e
   ·cases e
  asub:=yx
  adis:=xw }
theorem Js {js:List (Option Nat)} {wi:TI} {g:TG} {tt:TIf} {te:TE} {w:XA} {x:XG} {c:XT} {e:XE} (hi:SIP K wi w) (hg:SG K g x) (hc:ST K tt c) (he:SE K te e):SF K (Dm js wi g tt te) (dr js w x c e):=fun ρ σ S H Q l r y k=>by
 unfold dr at y
 cases q:w ρ with
 | none=>rw [q] at y;cases y
 | some ds=>
  rw [q] at y
  dsimp only [Option.bind] at y
  split at y
  ·rename_i hlim
   refine hi ρ σ S H _ ds r q fun J S1 H1 z1 wk D hD=>?_
   have r1:=r.ext z1
   have hD0:H D = none:=(z1.same r.sub).free hD
   -- the word: what is told so far,what is still to be told
   refine ⟨fun i n H'=>n = ds.length - i /\ i <= ds.length /\ ∃ S' done ys rest,Ext S1 H1 S' H' /\ Same S1 S' /\ H' D = some (.lst ys) /\ S' D = none /\ Dens K S' done ys /\ done.length <= i /\ bU x c e (zg js ρ) (ds.drop i) = some rest /\ l = done ++ rest,
    ⟨_,rfl,PU _,S1,[],[],l,Ext.own z1.sub hD,Same.refl _,aX,z1.sub.free hD,.nil,PU _,y,rfl⟩,?_⟩
   rintro i n H2 ⟨rfl,hil,S2,done,ys,rest,z2,s2,hy,hSD,dy,hdl,y2,rfl⟩
   obtain ⟨w1,w2⟩:=wk S2 H2 z2
   cases qd:ds[i]? with
   | none=>
    have:ds.length = i:=by have:=Ru.mp qd;lia
    subst this
    rw [QX (Pf _)] at y2
    cases y2
    rw [P6] at k
    exact .inl ⟨w2,k D ys S2 H2 (z1.trans z2) hD0 hSD hy dy⟩
   | some d=>
    obtain ⟨g1,g2⟩:=w1 i d qd
    have hlt:=(Pw.mp qd).1
    rw [Ay qd] at y2
    unfold bU at y2
    cases qx:x d (zg js ρ) with
    | none=>rw [qx] at y2;cases y2
    | some ρ3=>
     rw [qx] at y2
     dsimp only [Option.bind] at y2
     refine .inr ⟨g1,fun xv H3 hyl=>?_⟩
     obtain ⟨rfl,dx⟩:=g2 xv H3 hyl
     have ri:=Ky (r1.ext z2) js
     refine hg _ _ _ _ S2 H3 xv d _ ρ3 ri dx qx fun σ3 r3=>?_
     cases qc:c ρ3 with
     | none=>rw [qc] at y2;cases y2
     | some b=>
      rw [qc] at y2
      dsimp only at y2
      refine hc ρ3 σ3 S2 H3 _ b r3.toRl qc fun S4 H4 z4=>?_
      obtain ⟨al1,al2⟩:=z4.al D _ hy hSD
      cases b with
      | false=>
       rw [O8 (by decide)] at y2
       exact EJ ⟨_,by lia,rfl,hlt,S4,done,ys,rest,z2.trans z4,s2.trans z4.sh,al1,al2,dy.mono z4.sh,by lia,y2,rfl⟩
      | true=>
       rw [O7 rfl] at y2
       cases qe:e ρ3 with
       | none=>rw [qe] at y2;cases y2
       | some dv=>
        rw [qe] at y2
        dsimp only at y2
        cases qr:bU x c e (zg js ρ) (ds.drop (i + 1)) with
        | none=>rw [qr] at y2;cases y2
        | some rest2=>
         rw [qr] at y2
         cases y2
         refine Fk (he ρ3 σ3 S4 H4 _ dv (r3.toRl.ext z4) qe fun v S5 H5 z5 d5=>?_)
         obtain ⟨b1,b2⟩:=z5.al D _ al1 al2
         refine ⟨ys,b1,?_,_,by lia,rfl,hlt,S5,done ++ [dv],ys ++ [v],rest2,?_,(s2.trans z4.sh).trans z5.sh,aX,b2,((dy.mono z4.sh).mono z5.sh).append (.cons d5 .nil),by rw [Ph,PK];lia,qr,by rw [PQ];rfl⟩
         ·rw [<- dy.length]
          exact PY (Qz hdl hlt) (PL hlim (Qg lu))
         ·have z6:=(z2.trans z4).trans z5
          exact ⟨z6.sh,fun b u hb=>by rw [a8 fun z=>by subst z;rw [b2] at hb;cases hb];exact z6.sub b u hb,fun b o hb hn=>by
           obtain ⟨c1,c2⟩:=z6.al b o hb hn
           exact ⟨by rw [a8 fun z=>by subst z;rw [hD] at hb;cases hb];exact c1,c2⟩⟩
  ·cases y
@[simp] def Oi (i:Nat) (g:XG) (m:XS):XS:=fun ρ=>match ρ[i]? with
 | some (.ow (.lst os))=>(match shs os with
  | some l=>(match ig g m l (ρ.set i .lo) with
   | some (.nx ρ')=>(match ρ'[i]? with | some .lo=>some (.nx (ρ'.set i (.ow (.lst os)))) | _=>none)
   | some (.rt d)=>some (.rt d)
   | _=>none)
  | none=>none)
 | _=>none
def fnO (n:Nat) (x:XS) (ds:List D):Option O:=match x (ds.map .sh ++ List.replicate (n - ds.length) .un) with
 | some (.rt d)=>some (.sh d)
 | some (.ro o)=>some o
 | some (.nx _)=>some (.sh .non)
 | _=>none
theorem GD {N:List Str} {ds:List D} {vs:List V} (s:Same S H) (h:Dens K S ds vs):RlA K (oQ S H) (fun _=>none) (ds.map .sh ++ List.replicate (N.length - ds.length) .un) (L2.aZ N vs) S H:=by
 have hl:=h.length
 have key:∀ (i:Nat) t,(ds.map Sl.sh ++ List.replicate (N.length - ds.length) .un)[i]? = some t -> t = .un \/ ∃ d v,t = .sh d /\ (L2.aZ N vs)[i]? = some (some v) /\ Den K S d v:=fun i t ht=>by
  by_cases hi:i < ds.length
  ·rw [Rg (by rw [Pc];exact hi),PB] at ht
   cases q:ds[i]? with
   | none=>rw [q] at ht;cases ht
   | some d=>
    rw [q] at ht
    cases ht
    obtain ⟨v,e1,e2⟩:=h.get q
    refine .inr ⟨d,v,rfl,?_,e2⟩
    unfold L2.aZ
    rw [Rg (by rw [Pc];lia),PB,e1]
    rfl
  ·rw [QU (by rw [Pc];lia),List.getElem?_replicate] at ht
   split at ht
   ·cases ht;exact .inl rfl
   ·cases ht
 refine ⟨fun _=>[],?_⟩
 exact {
  len:=by unfold L2.aZ;rw [Ph,Ph,Pc,Pc,RL,RL,hl]
  sub:=s
  sh:=fun i d hi=>by
   rcases key i _ hi with e | ⟨d',v,e,h1,h2⟩
   ·cases e
   ·cases e;exact ⟨v,h1,h2⟩
  ow:=fun i o hi=>by
   rcases key i _ hi with e | ⟨d',v,e,h1,h2⟩
   ·cases e
   ·cases e
  dj:=fun i j o o' _ hi=>by
   rcases key i _ hi with e | ⟨d',v,e,h1,h2⟩
   ·cases e
   ·cases e
  lo:=fun i hi=>by
   rcases key i _ hi with e | ⟨d',v,e,h1,h2⟩
   ·cases e
   ·cases e
  asub:=yx
  adis:=xw }
theorem L6 {t:TS} {x:XS} {N:List Str} {n k:Nat} {vs:List V} {H:Hp} {Q:VK} {E:XK} (hs:SS K t x) (hN:N.length = n) (h:cn K k (fnO n x) vs H Q E) :
  t { nx:=fun _ H'=>Q .non H',rt:=Q } (L2.aZ N vs) H:=by
 obtain ⟨_,S,ds,d,s,dd,y,q⟩:=h
 subst hN
 unfold fnO at y
 have r:=GD (N:=N) s dd
 have ex:∀ {S' H':Hp},Same S S' -> Same S' H' -> Same (oQ S H) H' -> (∀ b,S' b = none \/ oQ S H b = none) -> Ext S H S' H':=fun s1 s2 s3 s4=>⟨s1,s2,fun b o hb hn=>by
  have ha:=Ad hb hn
  refine ⟨s3 b o ha,?_⟩
  rcases s4 b with z | z
  ·exact z
  ·rw [ha] at z;cases z⟩
 cases qx:x (ds.map .sh ++ List.replicate (N.length - ds.length) .un) with
 | none=>rw [qx] at y;cases y
 | some o=>
  rw [qx] at y
  refine hs _ _ _ _ S H _ o r qx ?_
  cases o with
  | rt d'=>
   cases y
   exact fun v S' H' s1 s2 s3 s4 dv=>q v [] S' H' (ex s1 s2 s3 s4) (own_sh.mpr ⟨rfl,dv⟩) .nil fun b hb=>by cases hb
  | ro o'=>
   cases y
   refine fun v fp S' H' s1 s2 s3 s4 ow nd n=>q v fp S' H' (ex s1 s2 s3 s4) ow nd fun b hb=>⟨?_,(n b hb).1⟩
   cases qb:H b with
   | none=>rfl
   | some u=>
    have:=Ad qb (s1.free (n b hb).1)
    rw [(n b hb).2] at this;cases this
  | nx ρ'=>
   cases y
   exact fun σ' S' H' r' s1=>q .non [] S' H' (ex s1 r'.sub r'.asub r'.adis) (own_sh.mpr ⟨rfl,den_non.mpr rfl⟩) .nil fun b hb=>by cases hb
  | bk ρ'=>cases y
  | ct ρ'=>cases y
end
def dI (f:Int -> Int -> Option D):D -> D -> Option D
 | .int i,.int j=>f i j
 | _,_=>none
def pA:D -> D -> Option D:=dI fun i j=>ifC ((-18446744073709551616 < i /\ i < 18446744073709551616) \/ (-18446744073709551616 < j /\ j < 18446744073709551616)) (some (.int (i * j))) none
def ir:D -> D -> Option D:=dI fun i j=>ifC (0 < j /\ j < 1073741824) (some (.int (i / j))) none
def gn:D -> D -> Option D:=dI fun i j=>ifC (0 < j) (some (.int (i % j))) none
def Cy:D -> D -> Option D:=dI fun i j=>ifC (0 <= j /\ j <= 1000000 /\ i.natAbs < 18446744073709551616) (some (.int (i ^ j.toNat))) none
def gz:D -> D -> Option D:=dI fun i j=>some (.int (i - j))
def dLt:D -> D -> Option D:=dI fun i j=>some (.bl (decide (i < j)))
def dLe:D -> D -> Option D:=dI fun i j=>some (.bl (decide (i <= j)))
def dGt:D -> D -> Option D:=dI fun i j=>some (.bl (decide (j < i)))
def dGe:D -> D -> Option D:=dI fun i j=>some (.bl (decide (j <= i)))
def gG:D -> Option D
 | .int i=>some (.int (-i))
 | _=>none
section
variable {K:W.Frag}
theorem r_i {C:Int -> Int -> Prop} {g:Int -> Int -> V} {f:Int -> Int -> Option D} (h:∀ i j d,f i j = some d -> C i j /\ sK d = some (g i j)):SR2 K (rI C g) (dI f):=fun S H x y d e z Q s dx dy q k=>by
 cases d <;> cases e <;> try cases q
 rename_i i j
 obtain ⟨h1,h2⟩:=h i j z q
 exact ⟨i,j,dx.int,dy.int,h1,k _ S H (Ext.refl s) (qz h2)⟩
theorem G2 {g:Int -> Int -> V} {f:Int -> Int -> Option D} (h:∀ i j d,f i j = some d -> sK d = some (g i j)):SR2 K (rI0 g) (dI f):=fun S H x y d e z Q s dx dy q k=>by
 cases d <;> cases e <;> try cases q
 rename_i i j
 exact ⟨i,j,dx.int,dy.int,k _ S H (Ext.refl s) (qz (h i j z q))⟩
theorem LK:SR2 K (rI CMul fun i j=>.int (i * j)) pA:=r_i fun i j d h=>by
 obtain ⟨c,rfl⟩:=jt h
 refine ⟨?_,rfl⟩
 unfold CMul
 have:(2:Int) ^ 64 = 18446744073709551616:=by decide
 rw [this]
 exact c
theorem Lp:SR2 K (rI Lj fun i j=>.int (i / j)) ir:=r_i fun i j d h=>by
 obtain ⟨c,rfl⟩:=jt h
 exact ⟨c,rfl⟩
theorem Md:SR2 K (rI (fun _ j=>0 < j) fun i j=>.int (i % j)) gn:=r_i fun i j d h=>by
 obtain ⟨c,rfl⟩:=jt h
 exact ⟨c,rfl⟩
theorem LJ:SR2 K (rI K1 fun i j=>.int (i ^ j.toNat)) Cy:=r_i fun i j d h=>by
 obtain ⟨c,rfl⟩:=jt h
 refine ⟨?_,rfl⟩
 unfold K1
 have:(2:Nat) ^ 64 = 18446744073709551616:=by decide
 rw [this]
 exact c
theorem Lm:SR2 K (rI0 fun i j=>.int (i - j)) gz:=G2 fun i j d h=>by cases h;rfl
theorem JV:SR2 K (rI0 fun i j=>.bl (decide (i < j))) dLt:=G2 fun i j d h=>by cases h;rfl
theorem NH:SR2 K (rI0 fun i j=>.bl (decide (i <= j))) dLe:=G2 fun i j d h=>by cases h;rfl
theorem M0:SR2 K (rI0 fun i j=>.bl (decide (j < i))) dGt:=G2 fun i j d h=>by cases h;rfl
theorem Bv:SR1 K (rU fun i=>.int (-i)) gG:=fun S H x d g Q s dx q k=>by
 cases d <;> try cases q
 rename_i i
 exact ⟨i,dx.int,k _ S H (Ext.refl s) (den_int.mpr rfl)⟩
end
def Jd:R2:=fun x y H Q=>∃ l b xs zs,x = .ref l /\ y = .ref b /\ Rd H l (.lst xs) /\ Rd H b (.lst zs) /\ xs.length + zs.length <= sizeLine /\ ∀ p,H p = none -> Q (.ref p) (upd H p (.lst (xs ++ zs)))
def IV (K:W.Frag):R2:=fun x y H Q=>∃ a b xs ys,x = .ref a /\ y = .ref b /\ SqT K H a xs /\ SqT K H b ys /\ xs.length + ys.length <= sizeLine /\
 (ys = [] -> Q (.ref a) H) /\ (xs = [] -> Q (.ref b) H) /\ ∀ p,H p = none -> Q (.ref p) (upd H p (.tup (xs ++ ys)))
def Jg:R2:=fun x y H Q=>∃ i j,x = .str i /\ y = .str j /\ i.length + j.length <= sizeLine /\ Q (.str (i ++ j)) H
def IZ (K:W.Frag):R2:=fun x y H Q=>(∃ i j,x = .int i /\ y = .int j /\ Q (.int (i + j)) H) \/ Jd x y H Q \/ IV K x y H Q \/ Jg x y H Q
def bM:D -> D -> Option D
 | .int i,.int j=>some (.int (i + j))
 | .lst a,.lst b=>if a.length + b.length <= LIM then some (.lst (a ++ b)) else none
 | .tup a,.tup b=>if a.length + b.length <= LIM then some (.tup (a ++ b)) else none
 | .str a,.str b=>if a.length + b.length <= LIM then some (.str (a ++ b)) else none
 | _,_=>none
section
variable {K:W.Frag}
theorem Dens.nil_iff {S:Hp} {ds:List D} {xs:List V} (h:Dens K S ds xs):xs = [] ↔ ds = []:=by
 have:=h.length
 cases ds <;> cases xs <;> simp_all
theorem wu {n:Nat} (h:n <= LIM):n <= sizeLine:=Qg (Qz h lu)
theorem Jl:SR2 K (IZ K) bM:=fun S H x y d e z Q s dx dy q k=>by
 cases d <;> cases e <;> try (cases q;done)
 ·rename_i i j
  cases q
  exact .inl ⟨i,j,dx.int,dy.int,k _ S H (Ext.refl s) (den_int.mpr rfl)⟩
 ·rename_i i j
  have q':(if i.length + j.length <= LIM then some (D.str (i ++ j)) else none) = some z:=q
  split at q'
  ·rename_i hl
   cases q'
   exact .inr (.inr (.inr ⟨i,j,dx.str,dy.str,wu hl,k _ S H (Ext.refl s) (den_str.mpr rfl)⟩))
  ·cases q'
 ·rename_i a b
  have q':(if a.length + b.length <= LIM then some (D.lst (a ++ b)) else none) = some z:=q
  split at q'
  ·rename_i hl
   cases q'
   obtain ⟨p,xs,rfl,h1,h2⟩:=dx.lst s
   obtain ⟨p',ys,rfl,h3,h4⟩:=dy.lst s
   refine .inr (.inl ⟨p,p',xs,ys,rfl,rfl,h1,h3,by rw [<- h2.length,<- h4.length];exact wu hl,fun q hq=>?_⟩)
   have z:=Ext.new (o:=.lst (xs ++ ys)) s hq
   exact k _ _ _ z (den_lst.mpr ⟨q,_,rfl,.inl aX,(h2.append h4).mono z.sh⟩)
  ·cases q'
 ·rename_i a b
  have q':(if a.length + b.length <= LIM then some (D.tup (a ++ b)) else none) = some z:=q
  split at q'
  ·rename_i hl
   cases q'
   obtain ⟨p,xs,e1,h1,h2⟩:=dx.tup s
   obtain ⟨p',ys,e2,h3,h4⟩:=dy.tup s
   have dx':Den K S (.tup a) x:=dx.elim id fun ⟨_,_,_,e,_⟩=>by cases e
   have dy':Den K S (.tup b) y:=dy.elim id fun ⟨_,_,_,e,_⟩=>by cases e
   subst e1 e2
   refine .inr (.inr (.inl ⟨p,p',xs,ys,rfl,rfl,h1,h3,by rw [<- h2.length,<- h4.length];exact wu hl,fun e=>?_,fun e=>?_,fun q hq=>?_⟩))
   ·have:=h4.nil_iff.mp e
    subst this
    exact k _ S H (Ext.refl s) (by rw [P6];exact dx')
   ·have:=h2.nil_iff.mp e
    subst this
    exact k _ S H (Ext.refl s) (by rw [List.nil_append];exact dy')
   ·have z:=Ext.new (o:=.tup (xs ++ ys)) s hq
    exact k _ _ _ z (den_tup.mpr ⟨q,_,rfl,TpA.of aX,(h2.append h4).mono z.sh⟩)
  ·cases q'
end
mutual
def eqD:D -> D -> Bool
 | .non,.non=>true
 | .bl a,.bl b=>a == b
 | .bl a,.int j=>(if a then 1 else 0) == j
 | .int i,.bl b=>i == (if b then 1 else 0)
 | .int i,.int j=>i == j
 | .str x,.str y=>x == y
 | .lst a,.lst b=>eqDs a b
 | .tup a,.tup b=>eqDs a b
 | _,_=>false
def eqDs:List D -> List D -> Bool
 | [],[]=>true
 | x :: xs,y :: ys=>eqD x y && eqDs xs ys
 | _,_=>false
end
mutual
def okD:Nat -> D -> Bool
 | _,.non=>true
 | _,.bl _=>true
 | _,.int _=>true
 | _,.str x=>PyData.strOk x
 | n + 1,.lst l=>okDs n l
 | n + 1,.tup l=>okDs n l
 | _,_=>false
def okDs:Nat -> List D -> Bool
 | _,[]=>true
 | n,d :: l=>okD n d && okDs n l
end
def JQ (K:W.Frag) (neg:Bool):R2:=fun x y H Q=>∃ S d e,Same S H /\ DenP K S H d x /\ DenP K S H e y /\ okD 50 d = true /\ okD 50 e = true /\ Q (.bl (if neg then !eqD d e else eqD d e)) H
def dEq (neg:Bool) (d e:D):Option D:=if okD 50 d = true /\ okD 50 e = true then some (.bl (if neg then !eqD d e else eqD d e)) else none
section
variable {K:W.Frag}
theorem LN (neg:Bool):SR2 K (JQ K neg) (dEq neg):=fun S H x y d e z Q s dx dy q k=>by
 unfold dEq at q
 split at q
 ·rename_i c
  cases q
  exact ⟨S,d,e,s,dx,dy,c.1,c.2,k _ S H (Ext.refl s) (den_bl.mpr rfl)⟩
 ·cases q
end
def wA:D -> Bool
 | .non=>true | _=>false
def M8 (neg:Bool) (d e:D):Option D:=match e with | .non=>some (.bl (if neg then !wA d else wA d)) | _=>none
section
variable {K:W.Frag}
end
def dIx:D -> D -> Option D
 | .lst l,.int i=>atI l i
 | .tup l,.int i=>atI l i
 | .scr l,.int i=>atI l i
 | .str x,.int i=>if x.length <= LIM then (atI x.cps.toList i).map fun c=>.str ⟨#[c]⟩ else none
 | _,_=>none
section
variable {K:W.Frag}
theorem uZ {S:Hp} {ds:List D} {xs:List V} {i:Int} {d:D} (h:Dens K S ds xs) (e:atI ds i = some d):∃ v,atI xs i = some v /\ Den K S d v:=by
 unfold atI at e ⊢
 rw [<- h.length]
 cases q:ixN ds.length i with
 | none=>rw [q] at e;cases e
 | some j=>
  rw [q] at e
  exact h.get e
theorem Nt:SR2 K (rIx K) dIx:=fun S H x y d e z Q s dx dy q k=>by
 cases d <;> cases e <;> try (cases q;done)
 ·rename_i x' i
  have q':(if x'.length <= LIM then (atI x'.cps.toList i).map fun c=>D.str ⟨#[c]⟩ else none) = some z:=q
  split at q'
  ·rename_i hl
   cases qc:atI x'.cps.toList i with
   | none=>rw [qc] at q';cases q'
   | some c=>
    rw [qc] at q'
    cases q'
    exact .inr (.inr ⟨x',i,c,dx.str,dy.int,wu hl,qc,k _ S H (Ext.refl s) (den_str.mpr rfl)⟩)
  ·cases q'
 ·rename_i l i
  obtain ⟨p,xs,rfl,h1,h2⟩:=dx.lst s
  obtain ⟨v,h3,h4⟩:=uZ h2 q
  exact .inl ⟨p,xs,i,v,rfl,dy.int,.inl h1,h3,k v S H (Ext.refl s) h4⟩
 ·rename_i l i
  obtain ⟨p,xs,rfl,h1,h2⟩:=dx.tup s
  obtain ⟨v,h3,h4⟩:=uZ h2 q
  exact .inr (.inl ⟨p,xs,i,v,rfl,dy.int,h1,h3,k v S H (Ext.refl s) h4⟩)
 ·rename_i l i
  obtain ⟨p,xs,rfl,h1,h2⟩:=dx.scr s
  obtain ⟨v,h3,h4⟩:=uZ h2 q
  exact .inl ⟨p,xs,i,v,rfl,dy.int,h1,h3,k v S H (Ext.refl s) h4⟩
end
def j6 {α:Type} (xs:List α) (lo hi:Option Int):List α:=(xs.drop (HT.sIx xs.length 0 lo)).take (HT.sIx xs.length xs.length hi - HT.sIx xs.length 0 lo)
def L1 (K:W.Frag):V -> Option Int -> Option Int -> Hp -> VK -> Prop:=fun x lo hi H Q=>LX K x lo hi H Q \/
 ∃ a xs,x = .ref a /\ SqT K H a xs /\ (pO xs lo hi = xs -> Q (.ref a) H) /\ ∀ p,H p = none -> Q (.ref p) (upd H p (.tup (pO xs lo hi)))
abbrev XO:=Env -> Option (Option Int)
def SO (K:W.Frag) (t:TO) (o:XO):Prop:=∀ ρ σ S H (Q:Option Int -> Hp -> Prop) i,Rl K ρ σ S H -> o ρ = some i -> (∀ S' H',Ext S H S' H' -> Q i H') -> t σ H Q
@[simp] def zG:XO:=fun _=>some none
@[simp] def xE (a:XE):XO:=fun ρ=>(a ρ).bind fun d=>match d with | .int i=>some (some i) | _=>none
section
variable {K:W.Frag}
theorem Fv:SO K Dr zG:=fun ρ σ S H Q i r x k=>by cases x;exact k S H (Ext.refl r.sub)
theorem KL {ta:TE} {a:XE} (h:SPk K ta a):SO K (IC ta) (xE a):=fun ρ σ S H Q i r x k=>by
 unfold xE at x
 cases q:a ρ with
 | none=>rw [q] at x;cases x
 | some d=>
  rw [q] at x
  dsimp only [Option.bind] at x
  cases d <;> try (cases x;done)
  rename_i j
  cases x
  exact h ρ σ S H _ _ r q fun v S1 H1 z1 d1=>⟨j,d1.int,k S1 H1 z1⟩
theorem qw {S:Hp} {ds:List D} {xs:List V} (h:Dens K S ds xs) (lo hi:Option Int):Dens K S (j6 ds lo hi) (pO xs lo hi):=by
 unfold j6 pO
 rw [h.length]
 exact (h.drop _).take _
def dSl (d:D) (lo hi:Option Int):Option D:=match d with
 | .lst l=>some (.lst (j6 l lo hi))
 | .tup l=>some (.tup (j6 l lo hi))
 | .scr l=>some (.lst (j6 l lo hi))
 | _=>none
@[simp] def xSl (a:XE) (lo hi:XO):XE:=fun ρ=>(a ρ).bind fun d=>(lo ρ).bind fun l=>(hi ρ).bind fun h=>dSl d l h
theorem MW {te:TE} {tl th:TO} {a:XE} {lo hi:XO} (ha:SPk K te a) (hl:SO K tl lo) (hh:SO K th hi):SE K (tSl (L1 K) te tl th) (xSl a lo hi):=fun ρ σ S H Q g r x k=>by
 unfold xSl at x
 cases q:a ρ with
 | none=>rw [q] at x;cases x
 | some d=>
  rw [q] at x
  dsimp only [Option.bind] at x
  cases ql:lo ρ with
  | none=>rw [ql] at x;cases x
  | some l=>
   rw [ql] at x
   dsimp only at x
   cases qh:hi ρ with
   | none=>rw [qh] at x;cases x
   | some h=>
    rw [qh] at x
    dsimp only at x
    refine ha ρ σ S H _ d r q fun v S1 H1 z1 d1=>?_
    have r1:=r.ext z1
    refine hl ρ σ S1 H1 _ l r1 ql fun S2 H2 z2=>?_
    have r2:=r1.ext z2
    refine hh ρ σ S2 H2 _ h r2 qh fun S3 H3 z3=>?_
    have z23:=z2.trans z3
    have d3:=d1.mono z23 r1.sub
    have s3:=(r2.ext z3).sub
    have z:=z1.trans z23
    cases d <;> try (cases x;done)
    ·cases x
     obtain ⟨p,xs,rfl,h1,h2⟩:=d3.lst s3
     refine .inl ⟨p,xs,rfl,.inl h1,fun p' hp=>?_⟩
     have z4:=Ext.new (o:=.lst (pO xs l h)) s3 hp
     exact k _ _ _ (z.trans z4) (den_lst.mpr ⟨p',_,rfl,.inl aX,(qw h2 l h).mono z4.sh⟩)
    ·rename_i ds
     cases x
     have d3':Den K S3 (.tup ds) v:=d3.elim id fun ⟨_,_,_,e,_⟩=>by cases e
     obtain ⟨p,xs,e,h1,h2⟩:=d3.tup s3
     subst e
     refine .inr ⟨p,xs,rfl,h1,fun e=>k _ S3 H3 z ?_,fun p' hp=>?_⟩
     ·obtain ⟨p2,xs2,e2,h3,h4⟩:=den_tup.mp d3'
      cases e2
      have c:=qw h2 l h
      rw [e] at c
      refine den_tup.mpr ⟨p,xs2,rfl,h3,?_⟩
      have hlen:=c.length
      have:j6 ds l h = ds:=by
       have hl2:(j6 ds l h).length = ds.length:=by rw [c.length,h2.length]
       unfold j6 at hl2 ⊢
       rw [Q6,List.length_drop] at hl2
       have a0:HT.sIx ds.length 0 l = 0 \/ ds.length = 0:=by lia
       rcases a0 with a0 | a0
       ·rw [a0,List.drop_zero] at *
        exact Rr (by lia)
       ·have:ds = []:=QK.mp a0
        subst this
        simp
      rw [this]
      exact h4
     ·have z4:=Ext.new (o:=.tup (pO xs l h)) s3 hp
      exact k _ _ _ (z.trans z4) (den_tup.mpr ⟨p',_,rfl,TpA.of aX,(qw h2 l h).mono z4.sh⟩)
    ·cases x
     obtain ⟨p,xs,rfl,h1,h2⟩:=d3.scr s3
     refine .inl ⟨p,xs,rfl,h1,fun p' hp=>?_⟩
     have z4:=Ext.new (o:=.lst (pO xs l h)) s3 hp
     exact k _ _ _ (z.trans z4) (den_lst.mpr ⟨p',_,rfl,.inl aX,(qw h2 l h).mono z4.sh⟩)
def Ji (K:W.Frag):List V -> Hp -> VK -> Prop:=fun xs H Q=>∃ x n,xs = [x] /\ LH K x H n /\ Q (.int n) H
def kh:List D -> Option D
 | [.lst l]=>some (.int l.length)
 | [.tup l]=>some (.int l.length)
 | [.scr l]=>some (.int l.length)
 | [.str x]=>if x.length <= LIM then some (.int x.length) else none
 | _=>none
theorem gx {S H:Hp} {d:D} {vs:List V} (h:DensP K S H [d] vs):∃ v,vs = [v] /\ DenP K S H d v:=by
 cases h with
 | cons a b=>cases b;exact ⟨_,rfl,a⟩
theorem CY {S H:Hp} {d e:D} {vs:List V} (h:DensP K S H [d,e] vs):∃ v w,vs = [v,w] /\ DenP K S H d v /\ DenP K S H e w:=by
 cases h with
 | cons a b=>cases b with
  | cons c b=>cases b;exact ⟨_,_,rfl,a,c⟩
theorem LD:SRB K (Ji K) kh:=fun S H vs ds g Q s d q k=>by
 unfold kh at q
 split at q
 ·rename_i l
  cases q
  obtain ⟨v,rfl,d1⟩:=gx d
  obtain ⟨p,xs,rfl,h1,h2⟩:=d1.lst s
  exact ⟨_,xs.length,rfl,.inl ⟨xs,.inl h1,rfl⟩,k _ S H (Ext.refl s) (den_int.mpr (by rw [h2.length]))⟩
 ·rename_i l
  cases q
  obtain ⟨v,rfl,d1⟩:=gx d
  obtain ⟨p,xs,rfl,h1,h2⟩:=d1.tup s
  exact ⟨_,xs.length,rfl,.inr ⟨xs,h1,rfl⟩,k _ S H (Ext.refl s) (den_int.mpr (by rw [h2.length]))⟩
 ·rename_i l
  cases q
  obtain ⟨v,rfl,d1⟩:=gx d
  obtain ⟨p,xs,rfl,h1,h2⟩:=d1.scr s
  exact ⟨_,xs.length,rfl,.inl ⟨xs,h1,rfl⟩,k _ S H (Ext.refl s) (den_int.mpr (by rw [h2.length]))⟩
 ·rename_i x
  split at q
  ·rename_i hl
   cases q
   obtain ⟨v,rfl,d1⟩:=gx d
   exact ⟨_,x.length,rfl,by rw [d1.str];exact ⟨wu hl,rfl⟩,k _ S H (Ext.refl s) (den_int.mpr rfl)⟩
  ·cases q
 ·cases q
def fF:List D -> Option D
 | [.lst l]=>some (.tup l)
 | [.tup l]=>some (.tup l)
 | [.scr l]=>some (.tup l)
 | _=>none
theorem HP:SRB K (KI K) fF:=fun S H vs ds g Q s d q k=>by
 unfold fF at q
 split at q
 ·rename_i l
  cases q
  obtain ⟨v,rfl,d1⟩:=gx d
  obtain ⟨p,xs,rfl,h1,h2⟩:=d1.lst s
  refine ⟨p,xs,rfl,.inl ⟨.inl h1,fun q hq=>?_⟩⟩
  have z:=Ext.new (o:=.tup xs) s hq
  exact k _ _ _ z (den_tup.mpr ⟨q,_,rfl,TpA.of aX,h2.mono z.sh⟩)
 ·rename_i l
  cases q
  obtain ⟨v,rfl,d1⟩:=gx d
  have d':Den K S (.tup l) v:=d1.elim id fun ⟨_,_,_,e,_⟩=>by cases e
  obtain ⟨p,xs,rfl,h1,h2⟩:=d1.tup s
  exact ⟨p,xs,rfl,.inr ⟨h1,k _ S H (Ext.refl s) d'⟩⟩
 ·rename_i l
  cases q
  obtain ⟨v,rfl,d1⟩:=gx d
  obtain ⟨p,xs,rfl,h1,h2⟩:=d1.scr s
  refine ⟨p,xs,rfl,.inl ⟨h1,fun q hq=>?_⟩⟩
  have z:=Ext.new (o:=.tup xs) s hq
  exact k _ _ _ z (den_tup.mpr ⟨q,_,rfl,TpA.of aX,h2.mono z.sh⟩)
 ·cases q
def xO:List D -> Option (List D)
 | [.lst l]=>some l
 | [.tup l]=>some l
 | [.scr l]=>some l
 | _=>none
theorem Kn:SRF K (Lz K) xO:=fun S H vs ds g Q s d q k=>by
 unfold xO at q
 split at q
 ·rename_i l
  cases q
  obtain ⟨v,rfl,d1⟩:=gx d
  obtain ⟨p,xs,rfl,h1,h2⟩:=d1.lst s
  exact ⟨p,xs,rfl,.inl (.inl h1),fun q hq=>k q xs _ (Ext.own s hq) hq aX h2⟩
 ·rename_i l
  cases q
  obtain ⟨v,rfl,d1⟩:=gx d
  obtain ⟨p,xs,rfl,h1,h2⟩:=d1.tup s
  exact ⟨p,xs,rfl,.inr h1,fun q hq=>k q xs _ (Ext.own s hq) hq aX h2⟩
 ·rename_i l
  cases q
  obtain ⟨v,rfl,d1⟩:=gx d
  obtain ⟨p,xs,rfl,h1,h2⟩:=d1.scr s
  exact ⟨p,xs,rfl,.inl h1,fun q hq=>k q xs _ (Ext.own s hq) hq aX h2⟩
 ·cases q
def xr:List D -> Option D
 | [.int i,.int j]=>some (.int (if j > i then j else i))
 | _=>none
def qN:List D -> Option D
 | [.int i,.int j]=>some (.int (if j < i then j else i))
 | _=>none
theorem JN:SRB K Lh xr:=fun S H vs ds g Q s d q k=>by
 unfold xr at q
 split at q
 ·rename_i i j
  cases q
  obtain ⟨v,w,rfl,d1,d2⟩:=CY d
  exact ⟨i,j,by rw [d1.int,d2.int],k _ S H (Ext.refl s) (den_int.mpr rfl)⟩
 ·cases q
theorem KM:SRB K L3 qN:=fun S H vs ds g Q s d q k=>by
 unfold qN at q
 split at q
 ·rename_i i j
  cases q
  obtain ⟨v,w,rfl,d1,d2⟩:=CY d
  exact ⟨i,j,by rw [d1.int,d2.int],k _ S H (Ext.refl s) (den_int.mpr rfl)⟩
 ·cases q
def bS:List D -> Option (List Int)
 | []=>some []
 | .int i :: l=>(bS l).map fun r=>i :: r
 | _=>none
theorem kE {S:Hp}:∀ {ds:List D} {xs:List V} {ns:List Int},Dens K S ds xs -> bS ds = some ns -> xs = ns.map V.int /\ ds = ns.map D.int
 | [],xs,ns,h,e=>by cases e;exact ⟨h.nil_of,rfl⟩
 | d :: ds,xs,ns,h,e=>by
  obtain ⟨y,ys,rfl,h1,h2⟩:=h.cons_of
  cases d <;> try (cases e;done)
  rename_i i
  have e':(bS ds).map (fun r=>i :: r) = some ns:=e
  cases q:bS ds with
  | none=>rw [q] at e';cases e'
  | some ms=>
   rw [q] at e'
   cases e'
   obtain ⟨k1,k2⟩:=kE h2 q
   rw [den_int.mp h1,k1]
   exact ⟨rfl,PC (D.int i :: ·) k2⟩
theorem ju:∀ ns:List Int,bS (ns.map D.int) = some ns
 | []=>rfl
 | n :: ns=>by rw [Ps,bS,ju ns];rfl
def Fb:List D -> Option D
 | [.lst l]=>(bS l).map fun ns=>.int ns.sum
 | _=>none
theorem Mp:SRB K (Jk K) Fb:=fun S H vs ds g Q s d q k=>by
 unfold Fb at q
 split at q
 ·rename_i l
  cases qi:bS l with
  | none=>rw [qi] at q;cases q
  | some ns=>
   rw [qi] at q
   cases q
   obtain ⟨v,rfl,d1⟩:=gx d
   obtain ⟨p,xs,rfl,h1,h2⟩:=d1.lst s
   obtain ⟨e,_⟩:=kE h2 qi
   subst e
   exact ⟨p,ns,rfl,.inl h1,k _ S H (Ext.refl s) (den_int.mpr rfl)⟩
 ·cases q
def Lr:List D -> Option D
 | [.int i]=>some (.int i)
 | [.bl b]=>some (.int (if b then 1 else 0))
 | _=>none
@[simp] def Oe (a:XE):XA:=fun ρ=>(a ρ).bind fun d=>match d with | .lst l=>some l.reverse | _=>none
def tyD:D -> Option String
 | .non=>some "NoneType" | .bl _=>some "bool" | .int _=>some "int" | .str _=>some "str" | .lst _=>some "list" | .tup _=>some "tuple" | _=>none
def Ie (t T:String):Bool:=t == T || (t == "bool" && T == "int")
def tyM (K:W.Frag) (H:Hp) (x:V) (t:String):Prop:=match x with
 | .non=>t = "NoneType" | .bl _=>t = "bool" | .int _=>t = "int" | .str _=>t = "str"
 | .ref p=>(t = "list" /\ ∃ xs,Rd H p (.lst xs)) \/ (t = "tuple" /\ ∃ xs,SqT K H p xs)
 | _=>False
def Mc:List String:=["bool", "int", "str", "list", "tuple"]
def I0 (K:W.Frag):List V -> Hp -> VK -> Prop:=fun xs H Q=>∃ x T t,xs = [x,.ty T] /\ tyM K H x t /\ T ∈ Mc /\ Q (.bl (Ie t T)) H
def tT:List D -> Option D
 | [d,.ty T]=>if T ∈ Mc then (tyD d).map fun t=>.bl (Ie t T) else none
 | _=>none
theorem Mz {S H:Hp} {d:D} {v:V} {t:String} (s:Same S H) (h:DenP K S H d v) (e:tyD d = some t):tyM K H v t:=by
 cases d with
 | non=>rw [h.non];cases e;rfl
 | bl b=>rw [h.bl];cases e;rfl
 | int b=>rw [h.int];cases e;rfl
 | str b=>rw [h.str];cases e;rfl
 | lst l=>
  cases e
  obtain ⟨p,xs,rfl,h1,h2⟩:=h.lst s
  exact .inl ⟨rfl,xs,h1⟩
 | tup l=>
  cases e
  obtain ⟨p,xs,rfl,h1,h2⟩:=h.tup s
  exact .inr ⟨rfl,xs,h1⟩
 | _=>cases e
theorem LI:SRB K (I0 K) tT:=fun S H vs ds g Q s d q k=>by
 unfold tT at q
 split at q
 ·rename_i d0 T
  split at q
  ·rename_i hT
   cases qt:tyD d0 with
   | none=>rw [qt] at q;cases q
   | some t=>
    rw [qt] at q
    cases q
    obtain ⟨v,w,rfl,d1,d2⟩:=CY d
    exact ⟨v,T,t,by rw [d2.ty],Mz s d1 qt,hT,k _ S H (Ext.refl s) (den_bl.mpr rfl)⟩
  ·cases q
 ·cases q
end
def w8 (k:List Int):D:=.tup (k.map D.int)
def HU:D -> Option (List Int)
 | .tup l=>if l.isEmpty then none else bS l
 | _=>none
def keys:List D -> Option (List (List Int))
 | []=>some []
 | d :: l=>(HU d).bind fun k=>(keys l).map fun r=>k :: r
theorem A0:∀ a b:List Int,HT.cT a b = true -> HT.cT b a = false
 | [],[],h=>by cases h
 | [],_ :: _,_=>rfl
 | _ :: _,[],h=>by cases h
 | x :: a,y :: b,h=>by
  have h':(if x = y then HT.cT a b else decide (x < y)) = true:=h
  show (if y = x then HT.cT b a else decide (y < x)) = false
  by_cases e:x = y
  ·rw [O7 e] at h';rw [O7 e.symm];exact A0 a b h'
  ·rw [O8 e] at h';rw [O8 (fun z=>e z.symm)]
   have:=QZ h'
   exact PM (by lia)
theorem xy:∀ a b:List Int,HT.cT a b = false -> HT.cT b a = false -> a = b
 | [],[],_,_=>rfl
 | [],_ :: _,h,_=>by cases h
 | _ :: _,[],_,h=>by cases h
 | x :: a,y :: b,h,k=>by
  have h':(if x = y then HT.cT a b else decide (x < y)) = false:=h
  have k':(if y = x then HT.cT b a else decide (y < x)) = false:=k
  by_cases e:x = y
  ·rw [O7 e] at h';rw [O7 e.symm] at k'
   rw [e,xy a b h' k']
  ·rw [O8 e] at h';rw [O8 (fun z=>e z.symm)] at k'
   have:=Qr h'
   have:=Qr k'
   lia
theorem xS:∀ a b c:List Int,HT.cT a b = false -> HT.cT b c = false -> HT.cT a c = false
 | [],[],_,_,k=>k
 | [],_ :: _,_,h,_=>by cases h
 | _ :: _,_,[],_,_=>rfl
 | _ :: _,[],_ :: _,_,k=>by cases k
 | x :: a,y :: b,z :: c,h,k=>by
  have h':(if x = y then HT.cT a b else decide (x < y)) = false:=h
  have k':(if y = z then HT.cT b c else decide (y < z)) = false:=k
  show (if x = z then HT.cT a c else decide (x < z)) = false
  by_cases e1:x = y
  ·rw [O7 e1] at h'
   subst e1
   by_cases e2:x = z
   ·rw [O7 e2] at k' ⊢;exact xS a b c h' k'
   ·rw [O8 e2] at k' ⊢;exact k'
  ·rw [O8 e1] at h'
   have g1:=Qr h'
   by_cases e2:y = z
   ·subst e2
    rw [O8 e1];exact h'
   ·rw [O8 e2] at k'
    have g2:=Qr k'
    rw [O8 (by lia)]
    exact PM (by lia)
def Ei (x:List Int):List (List Int) -> List (List Int)
 | []=>[x]
 | y :: l=>if HT.cT y x = true then y :: Ei x l else x :: y :: l
def jj (ks:List (List Int)):List (List Int):=ks.foldr Ei []
theorem yv (x:List Int) (l:List (List Int)):(Ei x l).Perm (x :: l):=by
 induction l with
 | nil=>exact .refl _
 | cons y l ih=>
  unfold Ei
  split
  ·exact (ih.cons y).trans (.swap x y l)
  ·exact .refl _
def g8 (ns:List Int):List Int:=ns.mergeSort fun a b=>decide (a <= b)
theorem ji (ks:List (List Int)):(jj ks).Perm ks:=by
 induction ks with
 | nil=>exact .refl _
 | cons x l ih=>exact (yv x (jj l)).trans (ih.cons x)
theorem fA (ns:List Int):(g8 ns).Perm ns:=List.mergeSort_perm _ _
theorem Hu (x:List Int) (l:List (List Int)) (h:l.Pairwise fun a b=>HT.cT b a = false):(Ei x l).Pairwise fun a b=>HT.cT b a = false:=by
 induction l with
 | nil=>exact .cons (fun _ z=>by cases z) .nil
 | cons y l ih=>
  have hy:∀ z,z ∈ l -> HT.cT z y = false:=fun z hz=>List.rel_of_pairwise_cons h hz
  unfold Ei
  cases q:HT.cT y x with
  | true=>
   refine .cons (fun z hz=>?_) (ih (List.Pairwise.of_cons h))
   rcases Pn.mp ((yv x l).mem_iff.mp hz) with rfl | hz
   ·exact A0 y _ q
   ·exact hy z hz
  | false=>
   refine .cons (fun z hz=>?_) h
   rcases Pn.mp hz with rfl | hz
   ·exact q
   ·exact xS z y x (hy z hz) q
theorem uJ (ks:List (List Int)):(jj ks).Pairwise fun a b=>HT.cT b a = false:=by
 induction ks with
 | nil=>exact .nil
 | cons x l ih=>exact Hu x (jj l) ih
theorem AH (ns:List Int):(g8 ns).Pairwise (· <= ·):=by
 have h:=List.pairwise_mergeSort (le:=fun a b:Int=>decide (a <= b)) (fun a b c h k=>by
  have:=QZ h;have:=QZ k;exact Rh (by lia)) (fun a b=>by
  by_cases h:a <= b
  ·simp [h]
  ·simp [show b <= a by lia]) ns
 exact h.imp fun {a b} e=>QZ e
theorem B5 {ks js:List (List Int)} (hp:js.Perm ks) (hw:js.Pairwise fun a b=>HT.cT b a = false):js = jj ks:=
 List.Perm.eq_of_pairwise (fun a b _ _ h k=>xy a b k h) hw (uJ ks) (hp.trans (ji ks).symm)
theorem CU {ns ms:List Int} (hp:ms.Perm ns) (hw:ms.Pairwise (· <= ·)):ms = g8 ns:=
 List.Perm.eq_of_pairwise (fun a b _ _ h k=>by lia) hw (AH ns) (hp.trans (fA ns).symm)
def GA (K:W.Frag):List V -> Hp -> VK -> Prop:=fun xs H Q=>∃ p,∃ yks:List (V × List Int),xs = [.ref p] /\ SqL K H p (yks.map (·.1)) /\ yks.length < 30000 /\ (∀ yk ∈ yks,∃ q,yk.1 = .ref q /\ SqT K H q (yk.2.map V.int) /\ yk.2 ≠ []) /\
 ∀ (zks:List (V × List Int)) l,zks.Perm yks -> zks.Pairwise (fun a b=>HT.cT b.2 a.2 = false) -> H l = none -> Q (.ref l) (upd H l (.lst (zks.map (·.1))))
def A8 (K:W.Frag):List V -> Hp -> VK -> Prop:=fun xs H Q=>Av K xs H Q \/ GA K xs H Q
def iE:List D -> Option (List D)
 | [.lst l]=>if l.length < 30000 then (match bS l with
  | some ns=>some ((g8 ns).map D.int)
  | none=>(keys l).map fun ks=>(jj ks).map w8) else none
 | _=>none
section
variable {K:W.Frag}
theorem Hm {d:D} {k:List Int} (h:HU d = some k):d = w8 k /\ k ≠ []:=by
 cases d <;> try (cases h;done)
 rename_i l
 have h':(if l.isEmpty then none else bS l) = some k:=h
 split at h'
 ·cases h'
 ·rename_i hne
  have key:∀ (l:List D) (k:List Int),bS l = some k -> l = k.map D.int:=by
   intro l
   induction l with
   | nil=>intro k e;cases e;rfl
   | cons d l ih=>
    intro k e
    cases d <;> try (cases e;done)
    rename_i i
    have e':(bS l).map (fun r=>i :: r) = some k:=e
    cases q:bS l with
    | none=>rw [q] at e';cases e'
    | some m=>rw [q] at e';cases e';rw [ih m q];rfl
  have e:=key l k h'
  subst e
  exact ⟨rfl,fun z=>by subst z;exact hne rfl⟩
theorem Dj:∀ {l:List D} {ks:List (List Int)},keys l = some ks -> l = ks.map w8 /\ ∀ k ∈ ks,k ≠ []
 | [],ks,h=>by cases h;exact ⟨rfl,fun _ h=>by cases h⟩
 | d :: l,ks,h=>by
  have h':((HU d).bind fun k=>(keys l).map fun r=>k :: r) = some ks:=h
  cases q:HU d with
  | none=>rw [q] at h';cases h'
  | some k=>
   rw [q] at h'
   dsimp only [Option.bind] at h'
   cases q2:keys l with
   | none=>rw [q2] at h';cases h'
   | some r=>
    rw [q2] at h'
    cases h'
    obtain ⟨a,b⟩:=Dj q2
    obtain ⟨c,d⟩:=Hm q
    refine ⟨by rw [Ps,<- a,<- c],fun k hk=>?_⟩
    rcases Pn.mp hk with rfl | hk
    ·exact d
    ·exact b k hk
theorem vf:∀ {S:Hp} {k:List Int} {xs:List V},Dens K S (k.map D.int) xs -> xs = k.map V.int
 | S,[],xs,h=>h.nil_of
 | S,i :: k,xs,h=>by
  obtain ⟨y,ys,rfl,h1,h2⟩:=h.cons_of
  rw [den_int.mp h1,vf h2]
  rfl
theorem AJ {S:Hp}:∀ {ks:List (List Int)} {xs:List V},Dens K S (ks.map w8) xs -> (xs.zip ks).map (·.1) = xs /\ (xs.zip ks).map (·.2) = ks /\ (xs.zip ks).length = ks.length /\ ∀ yk ∈ xs.zip ks,Den K S (w8 yk.2) yk.1
 | [],xs,h=>by rw [h.nil_of];exact ⟨rfl,rfl,rfl,fun _ h=>by cases h⟩
 | k :: ks,xs,h=>by
  obtain ⟨y,ys,rfl,h1,h2⟩:=h.cons_of
  obtain ⟨a,b,c,d⟩:=AJ h2
  refine ⟨by rw [Rt,Ps,a],by rw [Rt,Ps,b],by rw [Rt,Pr,c,Pr],fun yk hm=>?_⟩
  rw [Rt] at hm
  rcases Pn.mp hm with rfl | hm
  ·exact h1
  ·exact d yk hm
theorem oW {S:Hp}:∀ {zks:List (V × List Int)},(∀ yk ∈ zks,Den K S (w8 yk.2) yk.1) -> Dens K S ((zks.map (·.2)).map w8) (zks.map (·.1))
 | [],_=>.nil
 | yk :: zks,h=>.cons (h yk Pg) (oW fun z hz=>h z (Pi _ hz))
theorem Gy:SRF K (A8 K) iE:=fun S H vs ds g Q s d q k=>by
 unfold iE at q
 split at q
 ·rename_i l
  split at q
  ·rename_i hl
   obtain ⟨v,rfl,d1⟩:=gx d
   obtain ⟨p,xs,rfl,h1,h2⟩:=d1.lst s
   cases qi:bS l with
   | some ns=>
    rw [qi] at q
    cases q
    obtain ⟨e1,e2⟩:=kE h2 qi
    subst e1 e2
    refine .inl ⟨p,ns,rfl,.inl h1,by rw [Pc] at hl;exact hl,fun ms a pm pw ha=>?_⟩
    rw [CU pm pw]
    refine k a _ _ (Ext.own s ha) ha aX ?_
    have key:∀ ns:List Int,Dens K S (ns.map D.int) (ns.map V.int):=by
     intro ns
     induction ns with
     | nil=>exact .nil
     | cons n ns ih=>exact .cons (den_int.mpr rfl) ih
    exact key _
   | none=>
    rw [qi] at q
    dsimp only at q
    cases qk:keys l with
    | none=>rw [qk] at q;cases q
    | some ks=>
     rw [qk] at q
     cases q
     obtain ⟨e1,e2⟩:=Dj qk
     subst e1
     obtain ⟨a,b,c,dd⟩:=AJ h2
     refine .inr ⟨p,xs.zip ks,rfl,by rw [a];exact .inl h1,by rw [c];rw [Pc] at hl;exact hl,fun yk hm=>?_,fun zks l pm pw hl=>?_⟩
     ·obtain ⟨q,ys,e,g1,g2⟩:=iP (dd yk hm)
      have:=vf g2
      subst this
      refine ⟨q,e,ba s g1,e2 _ ?_⟩
      rw [<- b]
      exact Pq.mpr ⟨yk,hm,rfl⟩
     ·have e:zks.map (·.2) = jj ks:=by
       refine B5 ?_ ?_
       ·rw [<- b];exact pm.map _
       ·rw [Qq];exact pw
      have dz:Dens K S ((zks.map (·.2)).map w8) (zks.map (·.1)):=oW fun yk hm=>dd yk (pm.mem_iff.mp hm)
      rw [e] at dz
      exact k l _ _ (Ext.own s hl) hl aX dz
  ·cases q
 ·cases q
end
def xz:D -> D -> Option D:=dI fun i j=>some (.int (i + j))
section
variable {K:W.Frag}
theorem HF:SR2 K (ipI fun i j=>i + j) xz:=G2 (g:=fun i j=>.int (i + j)) fun i j d h=>by cases h;rfl
end
theorem JK {K:W.Frag} {ta:TE} {a:XE} (ha:SQ K ta a):ST K (NP K ta) (wU a):=fun ρ σ S H Q b r x k=>by
 unfold wU at x
 cases qa:a ρ with
 | none=>rw [qa] at x;cases x
 | some da=>
  rw [qa] at x
  exact ha ρ σ S H _ da r qa fun v S1 H1 z1 d1=>⟨b,JC (Same.refl H1) (.inl d1) x,k S1 H1 z1⟩
theorem CI (g:XG) (m:XS) (d:D) (l:List D) (ρ:Env):ig g m (d :: l) ρ = (g d ρ).bind fun ρ1=>match m ρ1 with
  | some (.nx ρ2)=>ig g m l ρ2
  | some (.ct ρ2)=>ig g m l ρ2
  | some (.bk ρ2)=>some (.nx ρ2)
  | some (.rt d)=>some (.rt d)
  | some (.ro d)=>some (.ro d)
  | none=>none:=rfl
theorem yl {α:Type} {g:XG} {m:XS} (enc:α -> D) (P:List α -> Env -> Prop) (R:D -> Prop) (B:Env -> Prop) (l:List α) (ρ0:Env) (h0:P [] ρ0)
  (step:∀ pre a post ρ,l = pre ++ a :: post -> P pre ρ -> ∃ ρ1 o,g (enc a) ρ = some ρ1 /\ m ρ1 = some o /\ (match o with | .nx ρ2=>P (pre ++ [a]) ρ2 | .ct ρ2=>P (pre ++ [a]) ρ2 | .bk ρ2=>B ρ2 | .rt d=>R d | .ro _=>False)) :
  ∃ o,ig g m (l.map enc) ρ0 = some o /\ (match o with | .nx ρ'=>P l ρ' \/ B ρ' | .rt d=>R d | _=>False):=by
 have key:∀ (post pre:List α) (ρ:Env),l = pre ++ post -> P pre ρ -> ∃ o,ig g m (post.map enc) ρ = some o /\ (match o with | .nx ρ'=>P l ρ' \/ B ρ' | .rt d=>R d | _=>False):=by
  intro post
  induction post with
  | nil=>
   intro pre ρ e p
   rw [P6] at e
   subst e
   exact ⟨_,rfl,.inl p⟩
  | cons a post ih=>
   intro pre ρ e p
   obtain ⟨ρ1,o,h1,h2,h3⟩:=step pre a post ρ e p
   rw [Ps,CI,h1]
   dsimp only [Option.bind]
   rw [h2]
   cases o with
   | nx ρ2=>exact ih (pre ++ [a]) ρ2 (by rw [e,PQ];rfl) h3
   | ct ρ2=>exact ih (pre ++ [a]) ρ2 (by rw [e,PQ];rfl) h3
   | bk ρ2=>exact ⟨_,rfl,.inr h3⟩
   | rt d=>exact ⟨_,rfl,h3⟩
   | ro d=>exact h3.elim
 exact key l [] ρ0 rfl h0
theorem cE {α:Type} {g:XG} {m:XS} (enc:α -> D) (P:List α -> Env -> Prop) (l:List α) (ρ0:Env) (h0:P [] ρ0)
  (step:∀ pre a post ρ,l = pre ++ a :: post -> P pre ρ -> ∃ ρ1 ρ2,g (enc a) ρ = some ρ1 /\ (m ρ1 = some (.nx ρ2) \/ m ρ1 = some (.ct ρ2)) /\ P (pre ++ [a]) ρ2) :
  ∃ ρ',ig g m (l.map enc) ρ0 = some (.nx ρ') /\ P l ρ':=by
 obtain ⟨o,h1,h2⟩:=yl (g:=g) (m:=m) enc P (fun _=>False) (fun _=>False) l ρ0 h0 fun pre a post ρ e p=>by
  obtain ⟨ρ1,ρ2,k1,k2,k3⟩:=step pre a post ρ e p
  rcases k2 with k2 | k2
  ·exact ⟨ρ1,_,k1,k2,k3⟩
  ·exact ⟨ρ1,_,k1,k2,k3⟩
 cases o with
 | nx ρ'=>exact ⟨ρ',h1,h2.elim id False.elim⟩
 | rt d=>exact h2.elim
 | ro d=>exact h2.elim
 | bk ρ'=>exact h2.elim
 | ct ρ'=>exact h2.elim
def fe (g:XG) (c:XT) (e:XE) (ρ0:Env) (d:D):Option (Option D):=(g d ρ0).bind fun ρ1=>(c ρ1).bind fun b=>if b = true then (e ρ1).map some else some none
theorem i7 {α:Type} {g:XG} {c:XT} {e:XE} {ρ0:Env} (enc:α -> D) (f:α -> Option D):∀ (l:List α),(∀ a ∈ l,fe g c e ρ0 (enc a) = some (f a)) -> bU g c e ρ0 (l.map enc) = some (l.filterMap f)
 | [],_=>rfl
 | a :: l,h=>by
  have ih:=i7 (g:=g) (c:=c) (e:=e) (ρ0:=ρ0) enc f l fun b hb=>h b (Pi _ hb)
  have h1:=h a Pg
  unfold fe at h1
  rw [Ps,bU]
  cases q1:g (enc a) ρ0 with
  | none=>rw [q1] at h1;cases h1
  | some ρ1=>
   rw [q1] at h1
   dsimp only [Option.bind] at h1 ⊢
   cases q2:c ρ1 with
   | none=>rw [q2] at h1;cases h1
   | some b=>
    rw [q2] at h1
    dsimp only at h1 ⊢
    cases b with
    | false=>
     rw [O8 (by decide)] at h1 ⊢
     rw [ih,QP]
     have:f a = none:=(PR h1).symm
     rw [this]
    | true=>
     rw [O7 rfl] at h1 ⊢
     cases q3:e ρ1 with
     | none=>rw [q3] at h1;cases h1
     | some y=>
      rw [q3] at h1
      have:f a = some y:=(PR h1).symm
      rw [ih,QP,this]
      rfl
theorem bp {α:Type} {g:XG} {e:XE} {ρ0:Env} (enc:α -> D) (f:α -> D) (l:List α) (h:∀ a ∈ l,fe g dl e ρ0 (enc a) = some (some (f a))):bU g dl e ρ0 (l.map enc) = some (l.map f):=by
 rw [i7 enc (fun a=>some (f a)) l h]
 exact PC some (congrFun List.filterMap_eq_map' l)
theorem kX {c:XT} {m:XS} (P:Env -> Prop) (μ:Env -> Nat) (E:Env -> Prop) (step:∀ ρ,P ρ -> (c ρ = some false /\ E ρ) \/ (c ρ = some true /\ ∃ ρ2,m ρ = some (.nx ρ2) /\ P ρ2 /\ μ ρ2 < μ ρ)) (ρ0:Env) (h0:P ρ0):∃ ρ',eg c m ρ0 = some (.nx ρ') /\ E ρ':=by
 have key:∀ (n:Nat) (ρ:Env),μ ρ = n -> P ρ -> ∃ ρ',eg c m ρ = some (.nx ρ') /\ E ρ':=by
  intro n
  induction n using Nat.strongRecOn with
  | ind n ih=>
   intro ρ hn p
   rcases step ρ p with ⟨h1,h2⟩ | ⟨h1,ρ2,h2,h3,h4⟩
   ·exact ⟨ρ,uX h1,h2⟩
   ·obtain ⟨ρ',k1,k2⟩:=ih (μ ρ2) (by lia) ρ2 rfl h3
    exact ⟨ρ',tD h1 h2 k1,k2⟩
 exact key _ ρ0 rfl h0
abbrev prD (p:Int × Int):D:=.tup [.int p.1,.int p.2]
abbrev bQ (r:List (Int × Int)):D:=.tup (r.map prD)
abbrev BU (r:List (Int × Int)):D:=.lst (r.map prD)
@[simp] theorem jp {α:Type} (l:List α) (x:α):atI (l ++ [x]) (-1) = some x:=by
 unfold atI ixN
 rw [O8 (by decide),Ph,PK,O7 (by lia)]
 have:((-1:Int) + ((l.length + 1:Nat):Int)).toNat = l.length:=by lia
 dsimp only [Option.bind]
 rw [this]
 simp
theorem gP {α:Type} {l:List α} {j:Nat} {x:α} (h:l[j]? = some x):atI l (j:Int) = some x:=by
 have:=(Pw.mp h).1
 unfold atI ixN
 rw [O7 (by lia),O7 (by lia)]
 dsimp only [Option.bind]
 rw [Int.toNat_natCast]
 exact h
@[simp] theorem xZ (l:List O) (x:O) (f:O -> O):vC (l ++ [x]) (-1) f = l ++ [f x]:=by
 unfold vC ixN
 rw [O8 (by decide),Ph,PK,O7 (by lia)]
 have:((-1:Int) + ((l.length + 1:Nat):Int)).toNat = l.length:=by lia
 dsimp only
 rw [this]
 simp
@[simp] theorem Lb {α:Type} (l:List α) (a b:α):atI (l ++ [a,b]) (-1) = some b:=by
 have:=jp (l ++ [a]) b
 rw [PQ] at this
 exact this
@[simp] theorem MH {α:Type} (a:α):atI [a] (-1) = some a:=jp [] a
@[simp] theorem Kg (l:List O) (a b:O) (f:O -> O):vC (l ++ [a,b]) (-1) f = l ++ [a,f b]:=by
 have:=xZ (l ++ [a]) b f
 rw [PQ,PQ] at this
 exact this
@[simp] theorem LY (a:O) (f:O -> O):vC [a] (-1) f = [f a]:=xZ [] a f
@[simp] theorem Mm (i:Int):sK (.int i) = some (.int i):=rfl
@[simp] theorem MT (i:Bool):sK (.bl i) = some (.bl i):=rfl
@[simp] theorem Mj (i:Str):sK (.str i) = some (.str i):=rfl
@[simp] theorem Mg:sK .non = some .non:=rfl
@[simp] theorem MN (a b:O) (f:O -> O):vC [a,b] 1 f = [a,f b]:=rfl
theorem mw {n:Nat}:ixN (n + 1) (-1) = some n:=by
 unfold ixN
 rw [O8 (by decide),O7 (by lia)]
 congr 1
 lia
section
variable (i j:Int) (a b:List D) (neg:Bool) (ρ:Env)
@[simp] theorem Oj:gz (.int i) (.int j) = some (.int (i - j)):=rfl
@[simp] theorem OA:bM (.int i) (.int j) = some (.int (i + j)):=rfl
@[simp] theorem NM:xz (.int i) (.int j) = some (.int (i + j)):=rfl
@[simp] theorem OJ:dLt (.int i) (.int j) = some (.bl (decide (i < j))):=rfl
@[simp] theorem O2:dLe (.int i) (.int j) = some (.bl (decide (i <= j))):=rfl
@[simp] theorem OK:dGt (.int i) (.int j) = some (.bl (decide (j < i))):=rfl
@[simp] theorem OH:dGe (.int i) (.int j) = some (.bl (decide (j <= i))):=rfl
@[simp] theorem Ol:gG (.int i) = some (.int (-i)):=rfl
@[simp] theorem JR {i j:Int} (h:-18446744073709551616 < j /\ j < 18446744073709551616):pA (.int i) (.int j) = some (.int (i * j)):=f9 (.inr h)
@[simp] theorem G1 {i j:Int} (h:-18446744073709551616 < i /\ i < 18446744073709551616):pA (.int i) (.int j) = some (.int (i * j)):=f9 (.inl h)
@[simp] theorem Oo {i j:Int} (h:0 < j /\ j < 1073741824):ir (.int i) (.int j) = some (.int (i / j)):=f9 h
@[simp] theorem Ot {i j:Int} (h:0 < j):gn (.int i) (.int j) = some (.int (i % j)):=f9 h
@[simp] theorem Gf {i j:Int} (h:0 <= j /\ j <= 1000000 /\ i.natAbs < 18446744073709551616):Cy (.int i) (.int j) = some (.int (i ^ j.toNat)):=f9 h
theorem BI:bM (.lst a) (.lst b) = if a.length + b.length <= LIM then some (.lst (a ++ b)) else none:=rfl
theorem Cj:bM (.tup a) (.tup b) = if a.length + b.length <= LIM then some (.tup (a ++ b)) else none:=rfl
@[simp] theorem N8 (d:D):M8 neg d .non = some (.bl (if neg then !wA d else wA d)):=rfl
@[simp] theorem Mr:wA .non = true:=rfl
@[simp] theorem MC:wA (.int i) = false:=rfl
@[simp] theorem Mv:wA (.tup a) = false:=rfl
@[simp] theorem NV:dIx (.lst a) (.int i) = atI a i:=rfl
@[simp] theorem Od:dIx (.tup a) (.int i) = atI a i:=rfl
@[simp] theorem N5:dIx (.scr a) (.int i) = atI a i:=rfl
@[simp] theorem Ni:Ag (.lst a) = some (!a.isEmpty):=rfl
@[simp] theorem Ny:Ag (.tup a) = some (!a.isEmpty):=rfl
@[simp] theorem M1:Ag (.scr a) = some (!a.isEmpty):=rfl
@[simp] theorem Nu (x:Bool):Ag (.bl x) = some x:=rfl
@[simp] theorem Nv:Ag (.int i) = some (i != 0):=rfl
@[simp] theorem ND:Ag .non = some false:=rfl
@[simp] theorem NJ:kh [.lst a] = some (.int a.length):=rfl
@[simp] theorem No:kh [.tup a] = some (.int a.length):=rfl
@[simp] theorem Nk:kh [.scr a] = some (.int a.length):=rfl
@[simp] theorem MZ:fF [.lst a] = some (.tup a):=rfl
@[simp] theorem M7:fF [.tup a] = some (.tup a):=rfl
@[simp] theorem NR:xO [.lst a] = some a:=rfl
@[simp] theorem M9:xO [.tup a] = some a:=rfl
@[simp] theorem NB:xO [.scr a] = some a:=rfl
@[simp] theorem NW:xr [.int i,.int j] = some (.int (if j > i then j else i)):=rfl
@[simp] theorem N6:qN [.int i,.int j] = some (.int (if j < i then j else i)):=rfl
@[simp] theorem Om:Lr [.int i] = some (.int i):=rfl
@[simp] theorem M3 (x:Bool):Lr [.bl x] = some (.int (if x then 1 else 0)):=rfl
@[simp] theorem Nj:CS (.lst a) = some a:=rfl
@[simp] theorem NL:CS (.tup a) = some a:=rfl
@[simp] theorem NG:CS (.scr a) = some a:=rfl
@[simp] theorem Oz (lo hi:Option Int):dSl (.lst a) lo hi = some (.lst (j6 a lo hi)):=rfl
@[simp] theorem Ox (lo hi:Option Int):dSl (.tup a) lo hi = some (.tup (j6 a lo hi)):=rfl
@[simp] theorem NY (lo hi:Option Int):dSl (.scr a) lo hi = some (.lst (j6 a lo hi)):=rfl
@[simp] theorem OX (y:XGs):bi y (.tup a) ρ = y a ρ:=rfl
@[simp] theorem OC (x:XG) (y:XGs) (d:D):aq x y (d :: a) ρ = (x d ρ).bind (y a):=rfl
@[simp] theorem OM:bf [] ρ = some ρ:=rfl
@[simp] theorem Nf:tT [.int i,.ty "int"] = some (.bl true):=rfl
@[simp] theorem Np:tT [.int i,.ty "bool"] = some (.bl false):=rfl
@[simp] theorem Nc:tT [.tup a,.ty "tuple"] = some (.bl true):=rfl
@[simp] theorem NC:tT [.lst a,.ty "list"] = some (.bl true):=rfl
@[simp] theorem MR (x:Bool):tT [.bl x,.ty "bool"] = some (.bl true):=rfl
theorem JU {j:Int} (h:0 <= j /\ j < 1000000):DQ [.int 0,.int j,.int 2] = some (ga 0 ((j + 1) / 2).toNat):=f9 ⟨rfl,rfl,h⟩
theorem IK {j:Int} (h:j < 1000000 /\ -1000000 < j):Ge [.int j] = some (fR 0 j.toNat):=f9 h
end
abbrev owl (l:List D):Sl:=.ow (.lst (l.map O.sh))
@[simp] theorem Lv (os:List O):FO (.ow (.lst os)) = (shs os).map D.lst:=rfl
@[simp] theorem ML:shs [] = some []:=rfl
@[simp] theorem A4 (d:D) (l:List O):shs (.sh d :: l) = (shs l).map fun r=>d :: r:=rfl
@[simp] theorem Mt (l:List D):shs (l.map O.sh) = some l:=ul l
@[simp] theorem Gx {α:Type} (f:α -> D) (l:List α):shs (l.map (O.sh ∘ f)) = some (l.map f):=by rw [<- PD];exact ul _
@[simp] theorem Lc {α:Type} (f:α -> D) (l:List α):shs (l.map fun a=>O.sh (f a)) = some (l.map f):=Gx f l
@[simp] theorem IB:∀ (a b:List O),shs (a ++ b) = (shs a).bind fun x=>(shs b).map fun y=>x ++ y
 | [],b=>by cases h:shs b <;> simp [h]
 | .sh d :: a,b=>by
  rw [List.cons_append,A4,A4,IB a b]
  cases shs a with
  | none=>rfl
  | some x=>cases shs b <;> rfl
 | .dic _ :: _,_=>rfl
 | .hd _ _ _ :: _,_=>rfl
 | .lst _ :: a,b=>rfl
 | .tup _ :: a,b=>rfl
@[simp] theorem MF (o:O):eZ o [] = some o:=by unfold eZ;rfl
@[simp] theorem LO (l:List O) (k:Int) (r:List Int):eZ (.lst l) (k :: r) = (atI l k).bind fun o=>eZ o r:=rfl
@[simp] theorem Mh (l:List O) (k:Int) (r:List Int):eZ (.tup l) (k :: r) = (atI l k).bind fun o=>eZ o r:=rfl
@[simp] theorem Mf (o q:O):kA o [] q = q:=by unfold kA;rfl
@[simp] theorem LV (l:List O) (k:Int) (r:List Int) (q:O):kA (.lst l) (k :: r) q = .lst (vC l k fun o=>kA o r q):=rfl
@[simp] theorem Lk (l:List O) (k:Int) (r:List Int) (q:O):kA (.tup l) (k :: r) q = .tup (vC l k fun o=>kA o r q):=rfl
@[simp] theorem NI (d:D):O.d (.sh d) = d:=by unfold O.d;rfl
@[simp] theorem MO (l:List O):O.d (.lst l) = .lst (O.ds l):=by rw [O.d]
@[simp] theorem MM (l:List O):O.d (.tup l) = .tup (O.ds l):=by rw [O.d]
@[simp] theorem LS:O.ds [] = []:=by rw [O.ds]
@[simp] theorem E5 (o:O) (l:List O):O.ds (o :: l) = o.d :: O.ds l:=by rw [O.ds]
@[simp] theorem G6:∀ (a b:List O),O.ds (a ++ b) = O.ds a ++ O.ds b
 | [],b=>by simp
 | o :: a,b=>by simp [G6 a b]
@[simp] theorem AX:∀ l:List D,O.ds (l.map O.sh) = l
 | []=>by simp
 | d :: l=>by simp [AX l]
@[simp] theorem La {α:Type} (f:α -> D) (l:List α):O.ds (l.map (O.sh ∘ f)) = l.map f:=by rw [<- PD];exact AX _
@[simp] theorem NZ {α:Type} (a b:α):atI [a,b] 0 = some a:=rfl
@[simp] theorem Oh {α:Type} (a b:α):atI [a,b] 1 = some b:=rfl
@[simp] theorem N7 {α:Type} (a b c:α):atI [a,b,c] 0 = some a:=rfl
@[simp] theorem Oa {α:Type} (a b c:α):atI [a,b,c] 1 = some b:=rfl
@[simp] theorem Op {α:Type} (a b c:α):atI [a,b,c] 2 = some c:=rfl
theorem gJ:LIM = 1000000:=by unfold LIM;rfl
@[simp] theorem OD:(0:Nat) <= LIM:=PU _
@[simp] theorem OT:(1:Nat) <= LIM:=by rw [gJ];decide
@[simp] theorem O0:(2:Nat) <= LIM:=by rw [gJ];decide
@[simp] theorem OY:(3:Nat) <= LIM:=by rw [gJ];decide
@[simp] theorem OW:(4:Nat) <= LIM:=by rw [gJ];decide
@[simp] theorem OQ:(5:Nat) <= LIM:=by rw [gJ];decide
@[simp] theorem O6:(6:Nat) <= LIM:=by rw [gJ];decide
@[simp] theorem OE:(7:Nat) <= LIM:=by rw [gJ];decide
@[simp] theorem OP:(8:Nat) <= LIM:=by rw [gJ];decide
@[simp] theorem OZ:(9:Nat) <= LIM:=by rw [gJ];decide
@[simp] theorem N0:(10:Nat) <= LIM:=by rw [gJ];decide
@[simp] theorem Oc:(0:Nat) < LIM:=by rw [gJ];decide
theorem KJ (p q:Int × Int):eqD (prD p) (prD q) = decide (p = q):=by
 obtain ⟨a,b⟩:=p
 obtain ⟨c,d⟩:=q
 simp [prD,eqD,eqDs,Prod.ext_iff]
 by_cases h1:a = c <;> by_cases h2:b = d <;> simp [h1,h2]
theorem Aq:∀ r t:List (Int × Int),eqDs (r.map prD) (t.map prD) = decide (r = t)
 | [],[]=>rfl
 | [],_ :: _=>by simp [eqDs]
 | _ :: _,[]=>by simp [eqDs]
 | p :: r,q :: t=>by
  rw [Ps,Ps,eqDs,KJ,Aq r t]
  by_cases h1:p = q <;> by_cases h2:r = t <;> simp [h1,h2]
theorem Ig (r t:List (Int × Int)):eqD (bQ r) (bQ t) = decide (r = t):=by
 unfold bQ
 rw [eqD,Aq]
theorem vW (n:Nat):∀ r:List (Int × Int),okDs (n + 1) (r.map prD) = true
 | []=>by simp [okDs]
 | p :: r=>by rw [Ps,okDs,vW n r];simp [prD,okD,okDs]
theorem DN (r:List (Int × Int)):okD 50 (bQ r) = true:=by
 unfold bQ
 rw [okD]
 exact vW 48 r
theorem Ib (neg:Bool) (r t:List (Int × Int)):dEq neg (bQ r) (bQ t) = some (.bl (if neg then !decide (r = t) else decide (r = t))):=by
 unfold dEq
 rw [O7 ⟨DN r,DN t⟩,Ig]
@[simp] theorem MP (neg:Bool) (i j:Int):dEq neg (.int i) (.int j) = some (.bl (if neg then !decide (i = j) else decide (i = j))):=by
 unfold dEq
 rw [O7 ⟨by simp [okD],by simp [okD]⟩]
 have:eqD (.int i) (.int j) = decide (i = j):=by simp [eqD];by_cases h:i = j <;> simp [h]
 rw [this]
@[simp] theorem MX (neg:Bool) (i j:Bool):dEq neg (.bl i) (.bl j) = some (.bl (if neg then !decide (i = j) else decide (i = j))):=by
 unfold dEq
 rw [O7 ⟨by simp [okD],by simp [okD]⟩]
 have:eqD (.bl i) (.bl j) = decide (i = j):=by simp [eqD];by_cases h:i = j <;> simp [h]
 rw [this]
theorem xQ {K:W.Frag} {S:Hp}:∀ ns:List Int,Dens K S (ns.map D.int) (ns.map V.int)
 | []=>.nil
 | n :: ns=>.cons (den_int.mpr rfl) (xQ ns)
theorem E7 {K:W.Frag} {H:Hp} {a:Addr} {ns:List Int} {m:List D -> Option O} {E:XK} (hS:SqL K H a (ns.map V.int)) (h:(m [.scr (ns.map D.int)]).map O.d = some (.bl true)):cn K 1 m [.ref a] H (fun v _=>v = .bl true) E:=by
 cases q:m [.scr (ns.map D.int)] with
 | none=>rw [q] at h;cases h
 | some o=>
  rw [q] at h
  have e:o.d = .bl true:=PR h
  exact ⟨rfl,H,[.scr (ns.map D.int)],o,Same.refl _,.cons (den_scr.mpr ⟨a,_,rfl,hS,xQ ns⟩) .nil,q,fun v fp S' H' z ow _ _=>by
   have dv:=ow.denH z.sub
   rw [e] at dv
   exact den_bl.mp dv⟩
end M
namespace L2
open PySem PySem.Spec PyProof.Rows
theorem g9:bootBuiltins "len" = some (.builtin "len"):=by decide +kernel
theorem nV:bootBuiltins "sorted" = some (.builtin "sorted"):=by decide +kernel
theorem zm:bootBuiltins "max" = some (.builtin "max"):=by decide +kernel
theorem pe:bootBuiltins "min" = some (.builtin "min"):=by decide +kernel
theorem K2:bootBuiltins "sum" = some (.builtin "sum"):=by decide +kernel
theorem oO:bootBuiltins "isinstance" = some (.builtin "isinstance"):=by decide +kernel
theorem dE:bootBuiltins "tuple" = some (.type "tuple"):=by decide +kernel
theorem Dp:bootBuiltins "list" = some (.type "list"):=by decide +kernel
section
variable {X:Cx}
theorem nR {K:W.Frag} {t T:String} (ht:t ∈ ["NoneType", "bool", "int", "str", "list", "tuple"]) (hT:T ∈ ["bool", "int", "str", "list", "tuple"]):W.kitOne K (.type t) (.type T) = some (M.Ie t T):=by
 simp only [Pn,List.not_mem_nil,or_false] at ht hT
 rcases ht with rfl | rfl | rfl | rfl | rfl | rfl <;> rcases hT with rfl | rfl | rfl | rfl | rfl <;> kernel_rfl
theorem AG:∀ a b:List Int,Srt.iT a b = HT.cT a b
 | [],[]=>rfl
 | [],_ :: _=>rfl
 | _ :: _,[]=>rfl
 | x :: xs,y :: ys=>by
  rw [HT.B0,<- AG xs ys]
  rfl
end
end L2
namespace Rev
open PySem
section
variable {prog:Program} {w:World} {A:Around} {s:Shared} {R:Result -> Shared -> Prop} {I:Addr} {fp wr:List Addr} {G:Array GenState -> Array GenState -> Prop} {n:Nat} {P:Nat -> Value -> Prop} {St:Nat -> Shared -> Prop}
end
section
variable {prog:Program} {w:World} {A:Around} {E:Value -> Shared -> Prop} {s:Shared} {I:Addr} {fp wr:List Addr} {G:Array GenState -> Array GenState -> Prop} {n:Nat} {P:Nat -> Value -> Prop} {St:Nat -> Shared -> Prop}
end
end Rev
namespace L2
open PySem PySem.Spec PyProof.Rows
theorem sV:bootBuiltins "reversed" = some (.type "reversed"):=by decide +kernel
section
variable {X:Cx} {tg:Expr}
theorem bD {l:Expr} {tl:TE} (hl:PE X l tl):PI X tg l (J4 X.K tl):=by
 intro pins s σ H R I h
 refine thn (hl pins s σ H _ I h) fun v s1 h1=>?_
 obtain ⟨x,H1,I1,r1,a,e,q⟩:=h1
 subst e
 cases r1
 rcases q with ⟨⟨xs,hq⟩,q⟩ | ⟨⟨xs,hq⟩,q⟩
 ·obtain ⟨its,rv,p,hz⟩:=I1.list hq
  refine wpAny_pyIter_list p.isList ⟨s1.heap.objs.size,[s1.heap.objs.size],_,_,H1,rfl,I1.kept (t':=s1.toks) fun b o e=>Pu _ e,D8 a _,⟨_,PP _ rfl,rfl,rfl⟩,fun b hb=>?_,q⟩
  rw [Pe.mp hb]
  exact I1.fpOk (Pf _) I1.fresh
 ·obtain ⟨its,rv,p,hz⟩:=I1.tuple hq
  refine wpAny_pyIter_tuple (show s1.heap.IsTuple a its.toArray from p) ⟨s1.heap.objs.size,[s1.heap.objs.size],_,_,H1,rfl,I1.kept (t':=s1.toks) fun b o e=>Pu _ e,Cf a _,⟨_,PP _ rfl,rfl,rfl⟩,fun b hb=>?_,q⟩
  rw [Pe.mp hb]
  exact I1.fpOk (Pf _) I1.fresh
end
section
variable {X:Cx} {tg:Expr}
theorem xG:∀ {vs:List Value} {ns:List Int},IntsAre vs ns -> Vals (ns.map V.int) vs
 | _,_,.nil=>.nil
 | _,_,.cons n t h=>.cons ⟨t,rfl⟩ (xG h)
theorem call_sortedI:CallR X (.builtin "sorted") (Av X.K):=by
 intro pins s σ H xs us Q I r h
 obtain ⟨p,ns,rfl,hS,h64,k⟩:=h
 obtain ⟨u,rfl,ru⟩:=r.one
 cases ru
 obtain ⟨its,rv,pl,hz⟩:=I.list hS
 have hI:IntsAre its ns:=jq rv
 have hl:its.length = ns.length:=by have:=rv.length;rw [Pc] at this;exact this.symm
 refine Srt.zf pl.isList hI (by rw [Qa];lia) fun out ms ho perm pw=>?_
 obtain ⟨e,at1⟩:=sortedAll_at s.heap its out
 have fresh:s.heap.objs.size <= s.heap.objs.size + 1:=QD _
 refine ⟨.ref (s.heap.objs.size + 1),upd H (s.heap.objs.size + 1) (.lst (ms.map V.int)),I.laid (t':=s.toks) (fun b o hb=>sortedAll_old hb) fresh ?_,rfl,k ms _ perm pw (I.hok.fresh fresh)⟩
 exact ⟨by rw [Pc,perm.length_eq,Qa];lia,out.toList,e,xG ho,by simpa using at1⟩
theorem Ep (hc:X.calm = true):CallR X (.builtin "sum") (Jk X.K):=by
 intro pins s σ H xs us Q I r h
 obtain ⟨p,ns,rfl,hS,q⟩:=h
 obtain ⟨u,rfl,ru⟩:=r.one
 cases ru
 obtain ⟨its,rv,pl,hz⟩:=I.list hS
 have hI:IntsAre its ns:=jq rv
 obtain ⟨ys,e⟩:=hI.allInts.items
 have hl:=pl.isList
 have en:ns = ys.toList.map (·.1):=by
  rw [<- nums_intItems,<- e]
  simpa using hI.numsOf.symm
 rw [e] at hl
 refine sum_intListG (I.ok.hd hc) hl fun h' tk t' hk=>⟨.int ns.sum,H,I.kept hk,⟨t',?_⟩,q⟩
 rw [preSum_eq,Rr (by simp),en]
theorem D7 {j:Int} (h0:0 <= j) (h1:j < 1000000):Builtin.Range.small 0 j 2 = true:=by
 unfold Builtin.Range.small
 rw [rangeSize_pos (by decide) h0]
 simp only [Builtin.Range.rangeFitsLong,Qd,Bool.or_eq_true,RD,Qb,show (2:Int) > 0 by decide,QE]
 have e:(2:Int) ^ 63 = 9223372036854775808:=by decide
 lia
theorem Gr {P:Program} {w:World} {K:W.Frag} (it:Addr) (n:Nat):Turn P w K tg (Jn n) [it] it (fun i h=>IsRangeIter h it (0 + (i:Nat) * 2) ((n:Int) - (i:Nat)) 2) where
 mem:=by simp
 obj:=fun i h st b hb=>by
  rw [Pe.mp hb]
  exact ⟨_,st,fun v z=>by have z':Data.fields _ = Data.cell v:=z;cases z'⟩
 keep:=fun i h h' st k=>k it (by simp) _ st
 item:=by
  intro X hP hw hK hc i pins s σ H E I hf st hg
  subst hP hw hK
  obtain ⟨f0,f1,f2,f3,f4,f5⟩:=hf it (by simp)
  refine (Walks.range (prog:=X.prog) (w:=X.w) (I.ok.hd hc) it 0 2 n).item i s _ _ hg st fun v h' tk hv st' kk=>?_
  obtain ⟨t,rfl⟩:=hv
  have I1:Inv X pins σ H { s with heap:=h',toks:=tk }:=I.turned (fun b o hb e=>kk b o (fun z=>hb (Pe.mp z)) e) f0 f1 f3 f4 f5
  refine ⟨_,rfl,wL (s:={ s with heap:=h',toks:=tk }) (n := "range_iterator") st' rfl rfl (by decide) ⟨.int (2 * i),H,I1,⟨t,?_⟩,⟨rfl,rfl⟩,st',fun b hb=>(hf b hb).1⟩⟩
  rw [Int.zero_add,Int.mul_comm]
 done:=by
  intro X hP hw hK hc i pins s σ H E I hf st hg
  subst hP hw hK
  obtain ⟨f0,f1,f2,f3,f4,f5⟩:=hf it (by simp)
  exact RJ (I.ok.hd hc) st (by have:n <= i:=hg;lia) fun h' eb=>⟨rfl,I.turned (t':=s.toks) (fun b o hb e=>eb b o hb e) f0 f1 f3 f4 f5⟩
 self:=fun _ _ _ _ _ st h=>RK st h
theorem JP {pins:List (Addr × Obj)} {σ:St} {H:Hp} {s:Shared} {R:It -> Hp -> Prop} {E:Value -> Shared -> Prop} {j:Int} {t u v:Tok} {tk:Nat} (I:Inv X pins σ H s) (h1:0 <= j) (h2:j < 1000000) (q:R (Jn ((j + 1) / 2).toNat) H) :
  wpAny (model X.prog X.w) X.A (pyIter (.ref s.heap.objs.size)) (PIE X pins σ tg R) E { s with heap:=s.heap.push { cls:=.type "range",data:=.fields #[.int 0 t,.int j u,.int 2 v] },toks:=tk }:=by
 refine wpAny_pyIter_range (IsRange.new ..) (D7 h1 h2) ?_
 have I1:Inv X pins σ H { s with heap:=s.heap.push { cls:=.type "range",data:=.fields #[.int 0 t,.int j u,.int 2 v] },toks:=tk }:=I.kept fun b o e=>Pu _ e
 refine ⟨(s.heap.push { cls:=.type "range",data:=.fields #[.int 0 t,.int j u,.int 2 v] }).objs.size,[(s.heap.push { cls:=.type "range",data:=.fields #[.int 0 t,.int j u,.int 2 v] }).objs.size],_,_,H,rfl,I1.kept (t':=tk) fun b o e=>Pu _ e,Gr _ ((j + 1) / 2).toNat,?_,fun b hb=>?_,q⟩
 ·have e1:(0:Int) + ((0:Nat):Int) * 2 = 0:=by simp
  have e2:((((j + 1) / 2).toNat:Nat):Int) - ((0:Nat):Int) = Builtin.Range.rangeSize 0 j 2:=by rw [rangeSize_pos (by decide) h1];lia
  show IsRangeIter _ _ (0 + ((0:Nat):Int) * 2) (((((j + 1) / 2).toNat:Nat):Int) - ((0:Nat):Int)) 2
  rw [e1,e2]
  exact PP _ rfl
 ·rw [Pe.mp hb]
  exact I1.fpOk (Pf _) I1.fresh
theorem Ee {a b c:Expr} {ta:TA} {p pos:Pos} (hg:Gl X "range") (hm:X.mg "range" = none) (ha:PA X [a,b,c] ta) (hs:starEach [a,b,c] X.env = (false,eval a X.env) :: starEach [b,c] X.env:=by rfl)
  (hp:(backTo pos (starEach [b,c] X.env)).any (·.1) = false:=by rfl):PI X tg (.Call (.Name "range" p) [a,b,c] [] pos) (IT ta):=by
 intro pins s σ H R I h
 refine Call_ (nq I hg hm boot_range (Q3 (thn (ha pos pins s σ H _ I h) fun us s1 h1=>?_) hs hp))
 obtain ⟨vs,H1,I1,r1,j,rfl,q1,q2,q⟩:=h1
 cases r1 with
 | cons r rr=>
  cases rr with
  | cons r' rr=>
   cases rr with
   | cons r'' rr=>
    cases rr
    obtain ⟨t,rfl⟩:=r
    obtain ⟨t',rfl⟩:=r'
    obtain ⟨t'',rfl⟩:=r''
    exact call_range_3 (by decide) (JP I1 q1 q2 q)
end
end L2
namespace HT
open PySem PySem.Spec PyProof.Rows
section
variable {prog:Program} {w:World} {A:Around} {E:Value -> Shared -> Prop} {s:Shared}
theorem nZ {t sl:Addr} {items:Array Value} {vl vu:Value} {lo hi:Option Int} {Q:Value -> Shared -> Prop} (ht:IsTup s.heap t items) (hs:s.heap.IsSliceOf sl vl vu .none) (pl:IsPart vl lo) (pu:IsPart vu hi)
  (hw:sIx items.size 0 lo = 0 /\ sIx items.size items.size hi = items.size) (h:Q (.ref t) s):wpAny (model prog w) A (getItem (.ref t) (.ref sl)) Q E s:=by
 obtain ⟨os,hos,hcs,hds⟩:=id hs
 have hTs:s.TypeIs (.ref sl) "slice" := ⟨os,hos,hcs⟩
 unfold getItem
 try with_reducible refine QQ ?_
 first | refine Pb (Pj ?_) | skip
 refine Pb (wpAny_sequenceKey ht.typeIs (by decide) ?_)
 refine Pb (RB (name:=Str.ofString "__getitem__") ht.typeIs Q7
  (Q8 Q7 ht.typeIs entry_tuple_getitem ?_ (args_tuple_getitem _ _)))
 show wpAny _ _ (Builtin.Tuple.tupleItemsOf (.ref t) >>= _) _ _ s
 refine Pb (tupleItemsOf_ ht ?_)
 refine Pb (wpAny_typeOf hTs ?_)
 rw [O7 (by decide)]
 refine Pb (kg hs pl pu ?_)
 have hyes:((((sIx items.size 0 lo:Nat):Int) == 0 && (1:Int) == 1 && (sIx items.size items.size hi - sIx items.size 0 lo) == items.size) = true):=by
  rw [hw.1,hw.2]
  simp
 show wpAny _ _ (if (((sIx items.size 0 lo:Nat):Int) == 0 && (1:Int) == 1 && (sIx items.size items.size hi - sIx items.size 0 lo) == items.size) = true then _ else _) _ _ s
 rw [O7 hyes]
 refine Pb (m:=Builtin.Tuple.tupleIsExact _) (Pb (wpAny_typeOf ht.typeIs (Pj ?_)))
 rw [O7 (by decide)]
 exact Pb (Qx (Pj ⟨_,rfl,Pj h⟩))
end
end HT
namespace L2
open PySem PySem.Spec PyProof.Rows M
theorem Inv.rdl {X:Cx} {pins:List (Addr × Obj)} {σ:St} {H:Hp} {s:Shared} {l:Addr} {xs:List V} (I:Inv X pins σ H s) (h:Rd H l (.lst xs)):xs.length <= sizeLine /\ ∃ (its:List Value) (n:Nat),Vals xs its /\ xs.length = its.length /\ s.heap.get? l = some { cls:=.type "list",data:=.seq its.toArray n }:=by
 obtain ⟨h1,its,n,r,e⟩:=(show ObjOk X.prog X.w H s.heap l (.lst xs) from h.ok I.hok)
 exact ⟨h1,its,n,r,r.length,e⟩
section
variable {X:Cx}
theorem op_catM:OpR X (binaryOp .Add) Jd:=by
 intro pins s σ H x y v u Q I rx ry h
 obtain ⟨l,b,xs,zs,rfl,rfl,hH,hB,hz,q⟩:=h
 cases rx
 cases ry
 obtain ⟨z,its,n,r,hl,e⟩:=I.rdl hH
 obtain ⟨z2,its2,n2,r2,hl2,e2⟩:=I.rdl hB
 refine PySem.P.add_list e e2 ?_ (by rw [Px,Px];lia)
 have ea:its.toArray ++ its2.toArray = (its ++ its2).toArray:=by simp
 rw [ea]
 exact ⟨.ref _,_,I.lnew (t':=s.toks) (r.append r2) (by rw [Ph];lia),rfl,q _ I.fresh⟩
theorem op_tupM:OpR X (binaryOp .Add) (IV X.K):=by
 intro pins s σ H x y v u Q I rx ry h
 obtain ⟨a,b,xs,ys,rfl,rfl,ha,hb,hz,q1,q2,q⟩:=h
 cases rx
 cases ry
 obtain ⟨its,r1,p1,_⟩:=I.tuple ha
 obtain ⟨its2,r2,p2,_⟩:=I.tuple hb
 have hz2:its.length + its2.length <= sizeLine:=by rw [<- r1.length,<- r2.length];exact hz
 by_cases hv:its = []
 ·have hx:xs = []:=r1.nil_iff.mp hv
  obtain ⟨⟨cls,dd,data,sl⟩,ho,hc,n,hd⟩:=id p1
  obtain ⟨⟨cls2,dd2,data2,sl2⟩,ho2,hc2,n2,hd2⟩:=id p2
  simp only at hc hd hc2 hd2;subst hc hd hc2 hd2
  exact concat_meets ⟨_,ho,rfl⟩ ⟨_,ho2,rfl⟩ noFill_tuple_add seq_tuple_add RM RN (RP (.ref a) (.ref b)) (tuple_addW0 a b its.toArray its2.toArray n n2 dd dd2 sl sl2 (by simp [hv])) ⟨ho,ho2,⟨.ref b,H,I,rfl,q2 hx⟩⟩
 ·refine HT.Hz p1 p2 hv (fun z=>⟨.ref a,H,I,rfl,q1 (r2.nil_iff.mp z)⟩) (fun z=>?_) hz2
  refine ⟨.ref s.heap.objs.size,_,I.laid (t':=s.toks) (o:=.tup (xs ++ ys)) (fun b ob e=>Pu _ e) (Pf _) ?_,rfl,q _ (I.hok.fresh (Pf _))⟩
  exact ⟨by rw [Ph];exact hz,_,r1.append r2,IsTup.new _ _⟩
theorem HE:OpR X (binaryOp .Add) Jg:=CL
theorem a7:OpR X (binaryOp .Add) (IZ X.K):=op_add.or (op_catM.or (op_tupM.or HE))
mutual
def pyD:D -> PyData
 | .non=>.none
 | .bl b=>.bool b
 | .int i=>.int i
 | .str x=>.str x
 | .lst l=>.list (pyDs l)
 | .tup l=>.tuple (pyDs l)
 | _=>.none
def pyDs:List D -> List PyData
 | []=>[]
 | d :: l=>pyD d :: pyDs l
end
mutual
theorem uS:∀ (n:Nat) (d:D),okD n d = true -> (pyD d).canLay0 = true /\ (pyD d).depth <= n
 | _,.non,_=>by simp [pyD,PyData.canLay0,PyData.depth]
 | _,.bl _,_=>by simp [pyD,PyData.canLay0,PyData.depth]
 | _,.int _,_=>by simp [pyD,PyData.canLay0,PyData.depth]
 | n,.str x,h=>by
  have h':PyData.strOk x = true:=by cases n <;> simpa [okD] using h
  simp [pyD,PyData.canLay0,PyData.depth,h']
 | 0,.lst l,h=>by simp [okD] at h
 | n + 1,.lst l,h=>by
  obtain ⟨a,b⟩:=zK n l (by simpa [okD] using h)
  simp only [pyD,PyData.canLay0,PyData.depth]
  exact ⟨a,by lia⟩
 | 0,.tup l,h=>by simp [okD] at h
 | n + 1,.tup l,h=>by
  obtain ⟨a,b⟩:=zK n l (by simpa [okD] using h)
  simp only [pyD,PyData.canLay0,PyData.depth]
  exact ⟨a,by lia⟩
 | n,.ty _,h=>by cases n <;> simp [okD] at h
 | n,.scr _,h=>by cases n <;> simp [okD] at h
 | n,.ins _ _ _,h=>by cases n <;> simp [okD] at h
theorem zK:∀ (n:Nat) (l:List D),okDs n l = true -> PyData.canLayAll0 (pyDs l) = true /\ PyData.depthAll (pyDs l) <= n
 | _,[],_=>by simp [pyDs,PyData.canLayAll0,PyData.depthAll]
 | n,d :: l,h=>by
  rw [okDs,Qd] at h
  obtain ⟨a,b⟩:=uS n d h.1
  obtain ⟨c,e⟩:=zK n l h.2
  simp only [pyDs,PyData.canLayAll0,PyData.depthAll,a,c]
  exact ⟨rfl,by lia⟩
end
mutual
theorem Ci:∀ (n m:Nat) (d e:D),okD n d = true -> okD m e = true -> PyData.eqv (pyD d) (pyD e) = eqD d e
 | n,m,.non,e,_,he=>by cases e <;> first | (simp [pyD,PyData.eqv,eqD];done) | (cases m <;> simp [okD] at he)
 | n,m,.bl _,e,_,he=>by cases e <;> first | (simp [pyD,PyData.eqv,eqD];done) | (cases m <;> simp [okD] at he)
 | n,m,.int _,e,_,he=>by cases e <;> first | (simp [pyD,PyData.eqv,eqD];done) | (cases m <;> simp [okD] at he)
 | n,m,.str _,e,_,he=>by cases e <;> first | (simp [pyD,PyData.eqv,eqD];done) | (cases m <;> simp [okD] at he)
 | 0,m,.lst _,e,hd,he=>by simp [okD] at hd
 | n + 1,m,.lst l,e,hd,he=>by
  cases e with
  | lst l'=>
   cases m with
   | zero=>simp [okD] at he
   | succ m=>
    simp only [pyD,PyData.eqv,eqD]
    exact eqvs_is n m l l' (by simpa [okD] using hd) (by simpa [okD] using he)
  | _=>first | (simp [pyD,PyData.eqv,eqD];done) | (cases m <;> simp [okD] at he)
 | 0,m,.tup _,e,hd,he=>by simp [okD] at hd
 | n + 1,m,.tup l,e,hd,he=>by
  cases e with
  | tup l'=>
   cases m with
   | zero=>simp [okD] at he
   | succ m=>
    simp only [pyD,PyData.eqv,eqD]
    exact eqvs_is n m l l' (by simpa [okD] using hd) (by simpa [okD] using he)
  | _=>first | (simp [pyD,PyData.eqv,eqD];done) | (cases m <;> simp [okD] at he)
 | n,_,.ty _,_,h,_=>by cases n <;> simp [okD] at h
 | n,_,.scr _,_,h,_=>by cases n <;> simp [okD] at h
 | n,_,.ins _ _ _,_,h,_=>by cases n <;> simp [okD] at h
theorem eqvs_is:∀ (n m:Nat) (l l':List D),okDs n l = true -> okDs m l' = true -> PyData.eqvAll (pyDs l) (pyDs l') = eqDs l l'
 | _,_,[],[],_,_=>by simp [pyDs,PyData.eqvAll,eqDs]
 | _,_,[],_ :: _,_,_=>by simp [pyDs,PyData.eqvAll,eqDs]
 | _,_,_ :: _,[],_,_=>by simp [pyDs,PyData.eqvAll,eqDs]
 | n,m,d :: l,e :: l',hd,he=>by
  rw [okDs,Qd] at hd he
  rw [pyDs,pyDs,PyData.eqvAll,eqDs,Ci n m d e hd.1 he.1,eqvs_is n m l l' hd.2 he.2]
end
mutual
theorem kD {pins:List (Addr × Obj)} {σ:St} {H:Hp} {s:Shared} (I:Inv X pins σ H s):∀ (n:Nat) {d:D} {x:V} {v:Value},okD n d = true -> Den X.K H d x -> RelV x v -> ∃ as,Reads s.heap v (pyD d) as
 | _,.non,x,v,_,dx,r=>by rw [den_non.mp dx] at r;cases r;exact ⟨_,.none⟩
 | _,.bl b,x,v,_,dx,r=>by rw [den_bl.mp dx] at r;cases r;exact ⟨_,.bool b⟩
 | _,.int i,x,v,_,dx,r=>by rw [den_int.mp dx] at r;obtain ⟨t,rfl⟩:=r;exact ⟨_,.int i t⟩
 | _,.str y,x,v,_,dx,r=>by rw [den_str.mp dx] at r;obtain ⟨t,rfl⟩:=r;exact ⟨_,.str y t⟩
 | 0,.lst _,x,v,h,dx,r=>by simp [okD] at h
 | n + 1,.lst l,x,v,h,dx,r=>by
  obtain ⟨p,xs,rfl,hp,ds⟩:=den_lst.mp dx
  cases r
  obtain ⟨_,its,k,rv,_,e⟩:=I.rdl hp
  obtain ⟨as,ra⟩:=dens_reads I n (by simpa [okD] using h) ds rv
  exact ⟨_,.list e rfl rfl (by simpa using ra)⟩
 | 0,.tup _,x,v,h,dx,r=>by simp [okD] at h
 | n + 1,.tup l,x,v,h,dx,r=>by
  obtain ⟨p,xs,rfl,hp,ds⟩:=iP dx
  cases r
  obtain ⟨its,rv,⟨o,e,c,k,d⟩,_⟩:=I.tuple hp
  obtain ⟨as,ra⟩:=dens_reads I n (by simpa [okD] using h) ds rv
  exact ⟨_,.tuple e c d (by simpa using ra)⟩
 | n,.ty _,_,_,h,_,_=>by cases n <;> simp [okD] at h
 | n,.scr _,_,_,h,_,_=>by cases n <;> simp [okD] at h
 | n,.ins _ _ _,_,_,h,_,_=>by cases n <;> simp [okD] at h
theorem dens_reads {pins:List (Addr × Obj)} {σ:St} {H:Hp} {s:Shared} (I:Inv X pins σ H s):∀ (n:Nat) {ds:List D} {xs:List V} {vs:List Value},okDs n ds = true -> Dens X.K H ds xs -> Vals xs vs -> ∃ as,ReadsAll s.heap vs (pyDs ds) as
 | _,[],xs,vs,_,d,r=>by
  rw [d.nil_of] at r
  cases r
  exact ⟨_,.nil⟩
 | n,d :: ds,xs,vs,h,dd,r=>by
  rw [okDs,Qd] at h
  obtain ⟨y,ys,rfl,a,b⟩:=dd.cons_of
  cases r with
  | cons r rr=>
   obtain ⟨as,ra⟩:=kD I n h.1 a r
   obtain ⟨bs,rb⟩:=dens_reads I n h.2 b rr
   exact ⟨_,.cons ra rb⟩
end
theorem bV (hu:X.A.units + 64 < cLine):OpR X (compareOp .Eq) (JQ X.K false):=by
 intro pins s σ H x y v u Q I rx ry h
 obtain ⟨S,d,e,sm,dx,dy,cd,ce,q⟩:=h
 obtain ⟨as,ra⟩:=kD I 50 cd (wM sm dx) rx
 obtain ⟨bs,rb⟩:=kD I 50 ce (wM sm dy) ry
 obtain ⟨a1,a2⟩:=uS 50 d cd
 obtain ⟨b1,b2⟩:=uS 50 e ce
 have hm:=Nat.min_le_left (pyD d).depth (pyD e).depth
 refine SeqAt.compareEq_reads ra rb a1 b1 (by lia) ⟨.bl _,H,I,rfl,?_⟩
 rw [Ci 50 50 d e cd ce]
 exact q
theorem pG (hu:X.A.units + 64 < cLine):OpR X (compareOp .NotEq) (JQ X.K true):=by
 intro pins s σ H x y v u Q I rx ry h
 obtain ⟨S,d,e,sm,dx,dy,cd,ce,q⟩:=h
 obtain ⟨as,ra⟩:=kD I 50 cd (wM sm dx) rx
 obtain ⟨bs,rb⟩:=kD I 50 ce (wM sm dy) ry
 obtain ⟨a1,a2⟩:=uS 50 d cd
 obtain ⟨b1,b2⟩:=uS 50 e ce
 have hm:=Nat.min_le_left (pyD d).depth (pyD e).depth
 refine SeqAt.compareNe_reads ra rb a1 b1 (by lia) ⟨.bl _,H,I,rfl,?_⟩
 rw [Ci 50 50 d e cd ce]
 exact q
theorem cD:CallR X (.builtin "len") (Ji X.K):=Hh
theorem yG:CallR X (.builtin "isinstance") (I0 X.K):=by
 intro pins s σ H xs us Q I r h
 obtain ⟨x,T,t,rfl,ht,hm,q⟩:=h
 obtain ⟨u,w',rfl,ru,rw'⟩:=r.two
 cases rw'
 have fin:∀ tk:Nat,EP X pins σ Q (.bool (Ie t T)) { s with toks:=tk }:=fun tk=>⟨.bl _,H,I.tok tk,rfl,q⟩
 cases x with
 | non=>cases ht;exact nH I ru .non (nR (by decide) hm) fin
 | bl b=>cases ht;exact nH I ru (.bl b) (nR (by decide) hm) fin
 | int i=>cases ht;exact nH I ru (.int i) (nR (by decide) hm) fin
 | str y=>cases ht;exact nH I ru (.str y) (nR (by decide) hm) fin
 | ref p=>
  cases ru
  rcases ht with ⟨rfl,xs,h⟩ | ⟨rfl,xs,h⟩
  ·obtain ⟨_,its,n,rv,_,e⟩:=I.rdl h
   exact Qc W.kitx_list I.kIn ⟨_,e,rfl⟩ (nR (by decide) hm) (fun z=>nomatch z) fin
  ·obtain ⟨its,rv,⟨o,e,c,_⟩,_⟩:=I.tuple h
   exact Qc W.kitx_tuple I.kIn ⟨o,e,c⟩ (nR (by decide) hm) (fun z=>nomatch z) fin
 | _=>exact (show False from ht).elim
theorem Du:MtM X "list.extend" rExtM:=by
 intro pins s σ H x vs v us Q I rx rv h
 obtain ⟨l,b,xs,zs,rfl,rfl,hH,hB,hz,q⟩:=h
 cases rx
 obtain ⟨u,rfl,ru⟩:=rv.one
 cases ru
 obtain ⟨z,its,n,r,hl,e⟩:=I.lstM hH
 obtain ⟨z2,its2,n2,r2,hl2,e2⟩:=I.rdl hB
 have hsz:its.toArray.size + its2.toArray.size <= sizeLine:=by rw [Px,Px];lia
 have hlong:¬ (!its.toArray.isEmpty && Builtin.List.listTooLong (its.toArray.size + its2.toArray.size)) = true:=by
  rw [Gn hsz,Bool.and_false]
  exact QS
 refine call_meets F.slot_list_extend ⟨_,e,rfl⟩ F.entry_list_extend (F.args_list_extend_2 _ _)
  (AutoSeq1.list_extend_list_list_0 l its.toArray n b its2.toArray n2 hlong (by rw [Px];lia) (by lia)) ⟨e,e2,?_⟩
 refine ⟨.non,_,I.lset (its':=its ++ its2) hH e (by simp) (r.append r2) ?_,rfl,q⟩
 rw [Ph]
 lia
theorem KQ:SlR X (L1 X.K):=by
 refine SlR.or HG ?_
 intro pins s σ H x v vl vu lo hi sl Q I rx hs pl pu h
 obtain ⟨a,xs,rfl,hx,q1,q2⟩:=h
 cases rx
 by_cases hw:HT.sIx xs.length 0 lo = 0 /\ HT.sIx xs.length xs.length hi = xs.length
 ·obtain ⟨its,r,ht,hz⟩:=I.tuple hx
  have hlen:its.toArray.size = xs.length:=by rw [Px];exact r.length.symm
  have hcut:pO xs lo hi = xs:=by
   unfold pO
   rw [hw.1,hw.2,List.drop_zero,Nat.sub_zero,Rr (Pf _)]
  refine ⟨"tuple",_,Q7.lookup,ht.typeIs,?_⟩
  exact HT.nZ ht hs pl pu (by rw [hlen];exact hw) ⟨.ref a,H,I,rfl,q1 hcut⟩
 ·exact JI pins s σ H (.ref a) (.ref a) vl vu lo hi sl Q I rfl hs pl pu ⟨a,xs,rfl,hx,hw,q2⟩
theorem Cv:CallR X (.builtin "sorted") (GA X.K):=by
 intro pins s σ H xs us Q I r h
 obtain ⟨p,yks,rfl,hS,h64,hk,k⟩:=h
 obtain ⟨u,rfl,ru⟩:=r.one
 cases ru
 obtain ⟨its,rv,pl,hz⟩:=I.list hS
 have hl:yks.length = its.length:=by rw [<- rv.length,Pc]
 have atI:∀ i,i < its.length -> ∃ yk,yks[i]? = some yk /\ yks.getD i (.non,[]) = yk /\ RelV yk.1 (its.getD i Value.none):=fun i hi=>by
  have ey:yks[i]? = some yks[i]:=P7 (by lia)
  have ex:(yks.map (·.1))[i]? = some yks[i].1:=by rw [PB,ey];rfl
  obtain ⟨v,ev,rl⟩:=rv.get ex
  exact ⟨_,ey,by rw [RV,ey];rfl,by rw [RV,ev];exact rl⟩
 have tup:∀ i,i < its.length -> Srt.Mu s.heap (its.getD i Value.none) (yks.getD i (.non,[])).2 /\ (yks.getD i (.non,[])).2 ≠ []:=fun i hi=>by
  obtain ⟨yk,e1,e2,rl⟩:=atI i hi
  obtain ⟨q,e3,e4,e5⟩:=hk _ (QV e1)
  rw [e2]
  refine ⟨?_,e5⟩
  rw [e3] at rl
  have rl':its.getD i Value.none = Value.ref q:=rl
  obtain ⟨js,rj,⟨o,ho,hc,n,hd⟩,_⟩:=I.tuple e4
  refine ⟨q,o,js.toArray,n,rl',ho,hc,hd,?_⟩
  simpa using jq rj
 refine Srt.xR (Srt.Ha fun i=>(yks.getD i (.non,[])).2) pl.isList (by rw [Qa];lia) (Srt.BM tup) fun q hq ha=>?_
 obtain ⟨pv,pw⟩:=Srt.B6 (vs:=its) (d:=Value.none) hq ha
 rw [<- hl] at hq ha
 obtain ⟨py,wy⟩:=Srt.B6 (vs:=yks) (d:=((V.non,[]):V × List Int)) hq ha
 obtain ⟨e,at1⟩:=sortedAll_at s.heap its (Srt.lQ its q)
 have hv:Vals ((q.toList.map fun i=>yks.getD i (.non,[])).map (·.1)) (q.toList.map fun i=>its.getD i Value.none):=by
  have hb:∀ i ∈ q.toList,i < its.length:=fun i hi=>by
   have:i < yks.length:=by simpa using (Rj.mp hq).mem_iff.mp hi
   lia
  revert hb
  generalize q.toList = L
  induction L with
  | nil=>exact fun _=>.nil
  | cons i L ih=>
   intro hb
   refine .cons ?_ (ih fun j hj=>hb j (Pi _ hj))
   obtain ⟨yk,_,e2,rl⟩:=atI i (hb i Pg)
   dsimp only
   rw [e2]
   exact rl
 have fresh:s.heap.objs.size <= s.heap.objs.size + 1:=QD _
 refine ⟨.ref (s.heap.objs.size + 1),upd H (s.heap.objs.size + 1) (.lst ((q.toList.map fun i=>yks.getD i (.non,[])).map (·.1))),I.laid (t':=s.toks) (fun b o hb=>sortedAll_old hb) fresh ?_,rfl,?_⟩
 ·refine ⟨by rw [Pc,py.length_eq,Qa];lia,_,e,hv,at1⟩
 ·refine k _ _ py (wy _ fun i j _ _ h=>?_) (I.hok.fresh fresh)
  rw [<- AG]
  exact h
theorem ip:CallR X (.builtin "sorted") (A8 X.K):=call_sortedI.or Cv
end
end L2
namespace M
def Ld (a:List Int) (k:Int):List Int:=if a.any (· == k) then a else a ++ [k]
def M4 (ns:List Int):List Int:=ns.foldl Ld []
end M
namespace L2
open PySem
section
variable {X:Cx}
end
end L2
namespace M
open PySem L2
section
variable {K:W.Frag}
def tG (K:W.Frag) (d:D):TE:=fun _ H Q=>∀ v,(∀ S,Den K S d v) -> Q v H
theorem s_g {d:D}:SE K (tG K d) (xC d):=fun ρ σ S H Q e r x k v hv=>by
 cases x
 exact k v S H (Ext.refl r.sub) (hv S)
end
end M
namespace L2
open PySem M
theorem GH {X:_} {x:Str} {v:V} {u:Value} {pos:Pos} {K:W.Frag} {d:D} (hg:Gl X x) (hm:X.mg x = some u) (r:RelV v u) (hD:∀ S,Den K S d v) (hd:(x == ("__debug__" : Str)) = false:=by decide):PE X (.Name x pos) (tG K d):=
 fun a b c H Q I h=>DC hg hm r hd a b c H Q I (h v hD)
end L2
namespace M
open PySem L2
theorem p9 {K:W.Frag} {a:Addr} {o:Obj} {its:Array Value} {n:Nat} {xs:List V} {l:List D} (h:K.lookup a = some o) (hc:o.cls = .type "tuple") (hd:o.data = .seq its n) (hs:its.size <= sizeLine) (hv:Vals xs its.toList) (hD:∀ S,Dens K S l xs) (S:Hp):Den K S (.tup l) (.ref a):=
 den_tup.mpr ⟨a,xs,rfl,(show SqT K S a xs from .inr ⟨o,its,n,h,hc,hd,hs,hv⟩),hD S⟩
@[simp] def MJ (a:XE):XE:=fun ρ=>(a ρ).bind fun d=>match d with | .lst l=>(bS l).bind fun ns=>if ns.length < 4000 then some (.int ((M4 ns).length:Nat)) else none | _=>none
end M
namespace L2
open PySem
def vE (K:W.Frag) (Ns:List Str) (P:Addr -> Prop):Prop:=∀ N ∈ Ns,∀ C,W.nsIn K mainGlobals N = some (some (.ref C)) -> P C
def Ma (K:W.Frag) (Ns:List Str) (H:Hp) (x:V) (a:Addr) (C dx:Addr) (fs:List (Str × V)):Prop:=x = .ref a /\ (∃ N ∈ Ns,W.nsIn K mainGlobals N = some (some (.ref C))) /\ H a = some (.ins C dx fs)
def Jf (K:W.Frag) (Ns:List Str) (ta:TE) (f:Str):TE:=fun σ H Q=>ta σ H fun x H1=>∃ a C dx fs v,Ma K Ns H1 x a C dx fs /\ fs.lookup f = some v /\ Q v H1
def GP (K:W.Frag) (Ns:List Str) (m:Str) (sp:Sp) (ta:TE) (t:TA):TE:=fun σ H Q=>ta σ H fun x H1=>∃ a C dx fs,Ma K Ns H1 x a C dx fs /\ fs.lookup m = none /\ t σ H1 fun vs H2=>sp (x :: vs) H2 Q E0
def GX (K:W.Frag) (N:Str) (sp:Sp) (t:TA):TE:=fun σ H Q=>∀ C,W.nsIn K mainGlobals N = some (some (.ref C)) -> IL C sp [] E0 t σ H Q
section
variable {X:Cx} {o e:Expr} {es:List Expr} {f m:Str} {pos apos p:Pos} {ta:TE} {t:TA} {Ns:List Str} {k:Nat} {g C:Addr} {fd:FuncData} {ps:List Str} {sp:Sp}
theorem uv (hc:vE X.K Ns fun C=>Cls X.K C /\ NoAttr X.K C f) (he:PE X e ta) (hb:attributeBase e f X.env (eval e X.env) = eval e X.env):PE X (.Attribute e f pos) (Jf X.K Ns ta f):=by
 intro pins s σ H Q I h
 refine HL hb (thn (he pins s σ H _ I h) fun u s1 hpt9=>?_)
 obtain ⟨x,H1,I1,rx,a,C,dx,fs,v,⟨ex,⟨N,hN,hC⟩,ea⟩,l,q⟩:=hpt9
 subst ex
 have eu:u = Value.ref a:=rx
 subst eu
 obtain ⟨c,n⟩:=hc N hN C hC
 exact B8 I1 ea c n l fun u' s2 I2 ru=>⟨v,H1,I2,ru,q⟩
theorem nz {pl:Sem Bool} (hc:vE X.K Ns fun C=>Cls X.K C /\ Meth X.K C m g) (F:FnOk X.prog X.w X.K X.mg X.base CX0 k g fd ps sp) (hr:Room k X.A) (hb:Binds X.K fd ps []) (hx:mN CX0 X E0) (he:PE X o ta) (ha:PA X (e :: es) t)
  (hst:starEach (e :: es) X.env = (false,eval e X.env) :: starEach es X.env:=by rfl) (hpl:(backTo pos (starEach es X.env)).any (·.1) = false:=by rfl)
  (ht:eval (.Call (.Attribute o m apos) (e :: es) [] pos) X.env = (do
   let ov ← eval o X.env
   standAt apos.atName
   let (f,first) ← holding [ov] (getMethod ov m pl)
   callWith pos f first (backTo pos (starEach (e :: es) X.env)) (backToKw pos (keywordEach [] X.env))):=by rfl) :
  PE X (.Call (.Attribute o m apos) (e :: es) [] pos) (GP X.K Ns m sp ta t):=by
 intro pins s σ H Q I h
 refine W.methodCall_KW (pl:=pl) (thn (he pins s σ H _ I h) fun u s1 hpt9=>?_) ht
 obtain ⟨x,H1,I1,rx,a,C,dx,fs,⟨ex,⟨N,hN,hC⟩,ea⟩,l,q⟩:=hpt9
 subst ex
 have eu:u = Value.ref a:=rx
 subst eu
 obtain ⟨c,hm⟩:=hc N hN C hC
 refine CP I1 ea c hm l ?_
 refine W.callWith_K (first:=[.ref a]) (h₀:=X.base) I.ok.mod.kin hm.kp (thn (ha pos pins s1 σ H1 _ I1 q) fun us s2 ⟨vs,H2,I2,r,q2⟩=>⟨I2.kIn,?_⟩) hst hpl
 exact BQ (us:=.ref a :: us) (vs:=.ref a :: vs) (dvs:=[]) F hr hb .nil hx I2 (.cons rfl r) (by rw [P6];exact q2)
structure ClsFn (K:W.Frag) (C:Addr) (m:Str) (f:Addr):Prop where
 sp:W.specialIn K (.ref C) "__getattribute__" = some (some (.builtin "type.__getattribute__"))
 rd:W.readsIn K C (.type "type") = true
 fn:W.findCls K (.ref C) (.type "type") m = some (.val (.ref f))
 kp:W.keepIn K (.ref f) = true
theorem kO {pl:Sem Bool} {B:Str} (cf:ClsFn X.K C m g) (gB:Gl X B) (hm:X.mg B = some (.ref C)) (F:FnOk X.prog X.w X.K X.mg X.base CX0 k g fd ps sp) (hr:Room k X.A) (hb:Binds X.K fd ps []) (hx:mN CX0 X E0) (ha:PA X (e :: es) t) (hdb:(B == ("__debug__" : Str)) = false:=by decide)
  (hst:starEach (e :: es) X.env = (false,eval e X.env) :: starEach es X.env:=by rfl) (hpl:(backTo pos (starEach es X.env)).any (·.1) = false:=by rfl)
  (ht:eval (.Call (.Attribute (.Name B p) m apos) (e :: es) [] pos) X.env = (do
   let ov ← eval (.Name B p) X.env
   standAt apos.atName
   let (f,first) ← holding [ov] (getMethod ov m pl)
   callWith pos f first (backTo pos (starEach (e :: es) X.env)) (backToKw pos (keywordEach [] X.env))):=by rfl) :
  PE X (.Call (.Attribute (.Name B p) m apos) (e :: es) [] pos) (tp sp [] E0 t):=by
 intro pins s σ H Q I h
 refine W.methodCall_KW (pl:=pl) (thn (DC (v:=.ref C) gB hm rfl hdb pins s σ H (fun x H1=>x = .ref C /\ H1 = H) I ⟨rfl,rfl⟩) fun u s1 hpt9=>?_) ht
 obtain ⟨x,H1,I1,rx,ex,eH⟩:=hpt9
 subst ex
 subst eH
 have eu:u = Value.ref C:=rx
 subst eu
 refine W.method_cls I1.kIn cf.sp (W.cls_value I1.kIn cf.rd cf.fn rfl ?_)
 refine W.callWith_K (first:=[]) (h₀:=X.base) I.ok.mod.kin cf.kp (thn (ha pos pins _ σ H1 _ (I1.tok _) h) fun us s2 ⟨vs,H2,I2,r,q2⟩=>⟨I2.kIn,?_⟩) hst hpl
 exact BQ F hr hb .nil hx I2 r q2
theorem jf {N:Str} (hN:W.nsIn X.K mainGlobals N = some (some (.ref C))) (M:Mk X.K C g) (F:FnOk X.prog X.w X.K X.mg X.base CX0 k g fd ps sp) (hr:Room (k + 1) X.A) (hg:Gl X N) (hm:X.mg N = some (.ref C)) (hb:Binds X.K fd ps []) (hx:mN CX0 X E0)
  (ha:PA X (e :: es) t) (hdb:(N == ("__debug__" : Str)) = false:=by decide) (he:starEach (e :: es) X.env = (false,eval e X.env) :: starEach es X.env:=by rfl) (hpl:(backTo pos (starEach es X.env)).any (·.1) = false:=by rfl) :
  PE X (.Call (.Name N p) (e :: es) [] pos) (GX X.K N sp t):=fun a b c d q I h=>HJ M F hr hg hm hb .nil hx ha hdb he hpl a b c d q I (h C hN)
end
end L2
namespace M
open PySem L2
section
variable {K:W.Frag} {S S' H H':Hp}
def wP:List Str -> List D -> Str -> Option D
 | n :: ns,d :: l,f=>if f = n then some d else wP ns l f
 | _,_,_=>none
theorem Hf:∀ {fs:List (Str × V)} {l:List D} {f:Str} {d:D},Dens K S l (fs.map (·.2)) -> wP (fs.map (·.1)) l f = some d -> ∃ v,fs.lookup f = some v /\ Den K S d v
 | [],l,f,d,h,e=>by
  cases l <;> simp [wP] at e
 | (n,v) :: fs,l,f,d,h,e=>by
  cases l with
  | nil=>simp [wP] at e
  | cons a l=>
   obtain ⟨y,ys,e1,h1,h2⟩:=h.cons_of
   rw [Ps] at e1
   cases e1
   rw [Ps,wP] at e
   by_cases hf:f = n
   ·rw [O7 hf] at e
    cases e
    exact ⟨v,by simp [List.lookup,hf],h1⟩
   ·rw [O8 hf] at e
    obtain ⟨w,q1,q2⟩:=Hf h2 e
    have hb:(f == n) = false:=by simpa using hf
    exact ⟨w,by simp [List.lookup,hb,q1],q2⟩
theorem FI:∀ {fs:List (Str × V)} {f:Str},(fs.map (·.1)).contains f = false -> fs.lookup f = none
 | [],_,_=>rfl
 | (n,v) :: fs,f,h=>by
  simp at h
  have hb:(f == n) = false:=by simpa using h.1
  rw [List.lookup,hb]
  exact FI (by simpa using h.2)
@[simp] def pi (Ns:List Str) (f:Str) (e:XE):XE:=fun ρ=>(e ρ).bind fun d=>match d with | .ins N ns l=>if Ns.contains N then wP ns l f else none | _=>none
theorem F3 {Ns:List Str} {f:Str} {ta:TE} {e:XE} (h:SE K ta e):SE K (Jf K Ns ta f) (pi Ns f e):=fun ρ σ S H Q d r x k=>by
 unfold pi at x
 cases q:e ρ with
 | none=>rw [q] at x;cases x
 | some d0=>
  rw [q] at x
  dsimp only [Option.bind] at x
  cases d0 <;> try (cases x;done)
  rename_i N ns l
  dsimp only at x
  split at x
  ·rename_i hc
   refine h ρ σ S H _ _ r q fun v S1 H1 z1 d1=>?_
   obtain ⟨p,C,dx,fs,rfl,hC,h1,h2,h3⟩:=den_ins.mp d1
   subst h2
   obtain ⟨w,w1,w2⟩:=Hf h3 x
   exact ⟨p,C,dx,fs,w,⟨rfl,⟨N,by simpa using hc,hC⟩,z1.sub _ _ h1⟩,w1,k w S1 H1 z1 w2⟩
  ·cases x
@[simp] def oX (Ns:List Str) (m:Str) (g:List D -> Option D) (e:XE) (a:XA):XE:=fun ρ=>(e ρ).bind fun d=>match d with | .ins N ns l=>if Ns.contains N && !ns.contains m then (a ρ).bind fun ds=>g (.ins N ns l :: ds) else none | _=>none
theorem Kx {Ns:List Str} {m:Str} {n:Nat} {g:List D -> Option O} {ta:TE} {t:TA} {e:XE} {a:XA} (h:SE K ta e) (ha:SA K t a) (hn:∀ ρ ds,a ρ = some ds -> ds.length = n):SE K (GP K Ns m (cn K (n + 1) g) ta t) (oX Ns m (fun ds=>(g ds).map O.d) e a):=fun ρ σ S H Q d r x k=>by
 unfold oX at x
 cases q:e ρ with
 | none=>rw [q] at x;cases x
 | some d0=>
  rw [q] at x
  dsimp only [Option.bind] at x
  cases d0 <;> try (cases x;done)
  rename_i N ns l
  dsimp only at x
  split at x
  ·rename_i hc
   rw [Qd] at hc
   cases qa:a ρ with
   | none=>rw [qa] at x;cases x
   | some ds=>
    rw [qa] at x
    dsimp only at x
    cases qg:g (.ins N ns l :: ds) with
    | none=>rw [qg] at x;cases x
    | some o=>
     rw [qg] at x
     cases x
     refine h ρ σ S H _ _ r q fun v S1 H1 z1 d1=>?_
     obtain ⟨p,C,dx,fs,rfl,hC,h1,h2,h3⟩:=den_ins.mp d1
     refine ⟨p,C,dx,fs,⟨rfl,⟨N,by simpa using hc.1,hC⟩,z1.sub _ _ h1⟩,FI (by rw [h2];simpa using hc.2),?_⟩
     refine ha ρ σ S1 H1 _ ds (r.ext z1) qa fun vs S2 H2 z2 d2=>?_
     have dd:Dens K S2 (.ins N ns l :: ds) (.ref p :: vs):=.cons (d1.mono z2.sh) d2
     refine ⟨by rw [Pr,<- d2.length,hn ρ ds qa],S2,_,o,z2.sub,dd,qg,fun v fp S3 H3 z3 ow nd fr=>?_⟩
     exact k v _ H3 ((z1.trans z2).trans (Be z3 fr)) (ow.den (nB fun b hb=>(fr b hb).2) fun b hb=>ur hb)
  ·cases x
def lU (K:W.Frag) (Ns:List Str) (f:Str) (n:Nat) (mi:List D -> Option D):Sp:=fun vs H Q _=>vs.length = n + 1 /\ ∃ x rest C dx S ds d,vs = .ref x :: rest /\ H x = some (.ins C dx []) /\ (∃ N ∈ Ns,W.nsIn K mainGlobals N = some (some (.ref C))) /\ S x = none /\ Same S H /\ Dens K S ds rest /\ mi ds = some d /\
 ∀ S' H' v,Ext S H S' H' -> Den K S' d v -> Q .non (upd H' x (.ins C dx [(f,v)]))
def Fy:List D -> Option D
 | [d]=>some d
 | _=>none
theorem F1 {Ns:List Str} {f:Str} {vs:List V} {H:Hp} {Q:VK} {E:XK} (hc:vE K Ns fun C=>Cls K C /\ NoAttr K C f) {N:List Str} (h:lU K Ns f 1 Fy vs H Q E):Lq K (t7 0) (t7 1) f { nx:=fun _ H'=>Q .non H',rt:=Q } (L2.aZ N vs) H:=by
 obtain ⟨_,x,rest,C,dx,S,ds,d,rfl,hx,⟨M,hM,hC⟩,nS,sub,dd,e,k⟩:=h
 match ds,e with
 | [d'],e=>
  cases e
  obtain ⟨v,ys,rfl,dv,dn⟩:=dd.cons_of
  cases dn.nil_of
  obtain ⟨c,n⟩:=hc M hM C hC
  exact ⟨v,rfl,.ref x,rfl,x,C,dx,[],rfl,hx,c,n,by decide,k S H v (Ext.refl sub) dv⟩
theorem Dy {x:Addr} {ds:List D} {vs:List V} (s:Same S H) (h:Dens K S ds vs):Rl K (.lo :: ds.map .sh) (some (.ref x) :: vs.map some) S H:=by
 have hl:=h.length
 refine ⟨fun _=>none,fun i=>if i = 0 then some x else none,fun _=>[],?_⟩
 have ge:∀ (i:Nat) t,(Sl.lo :: ds.map Sl.sh)[i]? = some t -> (i = 0 /\ t = .lo) \/ ∃ d v,t = .sh d /\ (some (V.ref x) :: vs.map some)[i]? = some (some v) /\ Den K S d v:=fun i t ht=>by
  cases i with
  | zero=>cases ht;exact .inl ⟨rfl,rfl⟩
  | succ i=>
   rw [List.getElem?_cons_succ,PB] at ht
   cases q:ds[i]? with
   | none=>rw [q] at ht;cases ht
   | some d=>
    rw [q] at ht
    cases ht
    obtain ⟨v,e1,e2⟩:=h.get q
    refine .inr ⟨d,v,rfl,?_,e2⟩
    rw [List.getElem?_cons_succ,PB,e1]
    rfl
 exact {
  len:=by rw [Pr,Pr,Pc,Pc,hl]
  sub:=s
  sh:=fun i d hi=>by
   rcases ge i _ hi with ⟨_,e⟩ | ⟨d',v,e,h1,h2⟩
   ·cases e
   ·cases e;exact ⟨v,h1,h2⟩
  ow:=fun i o hi=>by
   rcases ge i _ hi with ⟨_,e⟩ | ⟨d',v,e,h1,h2⟩
   ·cases e
   ·cases e
  dj:=fun i j o o' _ hi _=>by
   rcases ge i _ hi with ⟨_,e⟩ | ⟨d',v,e,h1,h2⟩
   ·cases e
   ·cases e
  lo:=fun i hi=>by
   rcases ge i _ hi with ⟨rfl,e⟩ | ⟨d',v,e,h1,h2⟩
   ·exact ⟨x,rfl,rfl⟩
   ·cases e
  asub:=fun b o e=>by cases e
  adis:=fun b=>.inr rfl }
def Bt (xt:XT) (xe:XE) (ds:List D):Option D:=if xt (.lo :: ds.map .sh) = some false then xe (.lo :: ds.map .sh) else none
def L7 (xe:XE) (ds:List D):Option D:=xe (.lo :: ds.map .sh)
theorem An {Ns:List Str} {f:Str} {te:TE} {xe:XE} {x:Addr} {rest:List V} {C dx:Addr} {ds:List D} {d:D} {S H:Hp} {Dd:_} {Q:VK} (he:SE K te xe) (sub:Same S H) (dd:Dens K S ds rest) (hx:H x = some (.ins C dx [])) (hc:∃ N ∈ Ns,W.nsIn K mainGlobals N = some (some (.ref C))) (nS:S x = none)
  (e:xe (.lo :: ds.map .sh) = some d) (hD:Dd = ({ nx:=fun _ H'=>Q .non H',rt:=Q }:_)) (k:∀ S' H' v,Ext S H S' H' -> Den K S' d v -> Q .non (upd H' x (.ins C dx [(f,v)]))) :
  xA (tp (lU K Ns f 1 Fy) [] E0 (ke (t7 0) (ke te wX))) Dd (some (.ref x) :: rest.map some) H:=by
 subst hD
 refine ⟨.ref x,rfl,he _ _ S H _ d (Dy sub dd) e fun v S1 H1 z1 d1=>?_⟩
 refine ⟨rfl,x,[v],C,dx,S1,[d],d,rfl,(z1.al x _ hx nS).1,hc,(z1.al x _ hx nS).2,z1.sub,.cons d1 .nil,rfl,fun S2 H2 w z2 d2=>k S2 H2 w (z1.trans z2) d2⟩
theorem uO {Ns:List Str} {f:Str} {n:Nat} {tt:TT} {xt:XT} {te:TE} {xe:XE} {N:List Str} {vs:List V} {H:Hp} {Q:VK} {E:XK} (ht:ST K tt xt) (he:SE K te xe) (hN:N.length = n + 1) (h:lU K Ns f n (Bt xt xe) vs H Q E) :
  JA (JE tt zU F8) (xA (tp (lU K Ns f 1 Fy) [] E0 (ke (t7 0) (ke te wX)))) { nx:=fun _ H'=>Q .non H',rt:=Q } (L2.aZ N vs) H:=by
 obtain ⟨hl,x,rest,C,dx,S,ds,d,rfl,hx,hc,nS,sub,dd,e,k⟩:=h
 have es:L2.aZ N (.ref x :: rest) = some (.ref x) :: rest.map some:=by
  unfold L2.aZ
  rw [hl,hN,Nat.sub_self]
  simp
 unfold Bt at e
 split at e
 ·rename_i q
  rw [es]
  refine ht _ _ S H _ false (Dy sub dd) q fun S1 H1 z1=>?_
  rw [O8 QS]
  exact An he z1.sub (dd.mono z1.sh) (z1.al x _ hx nS).1 hc (z1.al x _ hx nS).2 e rfl fun S2 H2 w z2 d2=>k S2 H2 w (z1.trans z2) d2
 ·cases e
theorem EV {Ns:List Str} {f:Str} {n:Nat} {te:TE} {xe:XE} {N:List Str} {vs:List V} {H:Hp} {Q:VK} {E:XK} (he:SE K te xe) (hN:N.length = n + 1) (h:lU K Ns f n (L7 xe) vs H Q E) :
  xA (tp (lU K Ns f 1 Fy) [] E0 (ke (t7 0) (ke te wX))) { nx:=fun _ H'=>Q .non H',rt:=Q } (L2.aZ N vs) H:=by
 obtain ⟨hl,x,rest,C,dx,S,ds,d,rfl,hx,hc,nS,sub,dd,e,k⟩:=h
 have es:L2.aZ N (.ref x :: rest) = some (.ref x) :: rest.map some:=by
  unfold L2.aZ
  rw [hl,hN,Nat.sub_self]
  simp
 rw [es]
 exact An he sub dd hx hc nS e rfl k
@[simp] def lF (N f:Str) (mi:List D -> Option D) (a:XA):XE:=fun ρ=>((a ρ).bind mi).map fun d=>.ins N [f] [d]
theorem Ke {Ns:List Str} {N f:Str} {n:Nat} {mi:List D -> Option D} {t:TA} {a:XA} (hN:N ∈ Ns) (h:SA K t a) (hn:∀ ρ ds,a ρ = some ds -> ds.length = n):SE K (GX K N (lU K Ns f n mi) t) (lF N f mi a):=fun ρ σ S H Q d r x k C hC=>by
 unfold lF at x
 cases q:a ρ with
 | none=>rw [q] at x;cases x
 | some ds=>
  rw [q] at x
  dsimp only [Option.bind] at x
  cases q2:mi ds with
  | none=>rw [q2] at x;cases x
  | some d0=>
   rw [q2] at x
   cases x
   refine h ρ σ S H _ ds r q fun vs S1 H1 z1 d1=>?_
   intro x dx nx ndx nex
   have s0:Same S1 (upd (upd H1 dx (.own x)) x (.ins C dx [])):=fun b o e=>by
    have e':=z1.sub b o e
    rw [a8 (bh e' nx),a8 (bh e' ndx)]
    exact e'
   have nS:S1 x = none:=z1.sub.free nx
   refine ⟨by rw [P6,Pr,<- d1.length,hn ρ ds q],x,vs,C,dx,S1,ds,d0,by rw [P6],aX,⟨N,hN,hC⟩,nS,s0,d1,q2,fun S2 H2 v z2 d2=>⟨rfl,?_⟩⟩
   have hx2:=z2.al x _ aX nS
   have z3:Ext S1 H1 (upd S2 x (.ins C dx [(f,v)])) (upd H2 x (.ins C dx [(f,v)])):={
    sh:=fun b o e=>by
     rw [a8 (bh (z1.sub b o e) nx)]
     exact z2.sh b o e
    sub:=fun b o e=>by
     by_cases hb:b = x
     ·subst hb;rw [aX] at e ⊢;exact e
     ·rw [a8 hb] at e ⊢;exact z2.sub b o e
    al:=fun b o e ne=>by
     have hb:=bh e nx
     rw [a8 hb,a8 hb]
     exact z2.al b o (by rw [a8 hb,a8 (bh e ndx)];exact e) ne }
   refine k (.ref x) _ _ (z1.trans z3) (den_ins.mpr ⟨x,C,dx,[(f,v)],rfl,hC,aX,rfl,?_⟩)
   refine .cons (d2.mono fun b o e=>?_) .nil
   rw [a8 (bh e hx2.2)]
   exact e
end
end M
namespace M
def j8:List Int -> Int
 | []=>0
 | [a]=>a
 | a :: l=>min a (j8 l)
def mR:List Int -> Int
 | []=>0
 | [a]=>a
 | a :: l=>max a (mR l)
theorem yt (a b:Int) (l:List Int):j8 (a :: b :: l) = min a (j8 (b :: l)):=rfl
theorem Fg (a b:Int) (l:List Int):mR (a :: b :: l) = max a (mR (b :: l)):=rfl
theorem xW:∀ (a:Int) (l:List Int),j8 (a :: l) ∈ a :: l /\ ∀ b ∈ a :: l,j8 (a :: l) <= b
 | a,[]=>⟨Pg,fun b hb=>by rw [Pe] at hb;subst hb;exact Pl _⟩
 | a,c :: l=>by
  obtain ⟨h1,h2⟩:=xW c l
  rw [yt]
  refine ⟨?_,fun b hb=>?_⟩
  ·rcases Int.le_total a (j8 (c :: l)) with h | h
   ·rw [Int.min_eq_left h];exact Pg
   ·rw [Int.min_eq_right h];exact Pi _ h1
  ·rcases Pn.mp hb with rfl | hb
   ·exact Int.min_le_left _ _
   ·exact Int.le_trans (Int.min_le_right _ _) (h2 b hb)
theorem xF:∀ (a:Int) (l:List Int),mR (a :: l) ∈ a :: l /\ ∀ b ∈ a :: l,b <= mR (a :: l)
 | a,[]=>⟨Pg,fun b hb=>by rw [Pe] at hb;subst hb;exact Pl _⟩
 | a,c :: l=>by
  obtain ⟨h1,h2⟩:=xF c l
  rw [Fg]
  refine ⟨?_,fun b hb=>?_⟩
  ·rcases Int.le_total a (mR (c :: l)) with h | h
   ·rw [Int.max_eq_right h];exact Pi _ h1
   ·rw [Int.max_eq_left h];exact Pg
  ·rcases Pn.mp hb with rfl | hb
   ·exact Int.le_max_left _ _
   ·exact Int.le_trans (h2 b hb) (Int.le_max_right _ _)
theorem yh {ns:List Int} {m:Int} (h1:m ∈ ns) (h2:∀ a,a ∈ ns -> m <= a):j8 ns = m:=by
 cases ns with
 | nil=>cases h1
 | cons a l=>
  obtain ⟨k1,k2⟩:=xW a l
  exact Int.le_antisymm (k2 m h1) (h2 _ k1)
theorem EF {ns:List Int} {m:Int} (h1:m ∈ ns) (h2:∀ a,a ∈ ns -> a <= m):mR ns = m:=by
 cases ns with
 | nil=>cases h1
 | cons a l=>
  obtain ⟨k1,k2⟩:=xF a l
  exact Int.le_antisymm (h2 _ k1) (k2 m h1)
end M
namespace L2
open PySem PySem.Spec PyProof.Rows
section
variable {prog:Program} {w:World} {A:Around} {E:Value -> Shared -> Prop} {s:Shared}
theorem AL {l:Addr} {vs:List Value} {ns:List Int} {Q:Value -> Shared -> Prop} (hh:A.handled = none) (hl:s.heap.IsList l vs.toArray) (hi:IntsAre vs ns) (hne:0 < ns.length)
  (h:∀ (h':Heap) (t:Tok) (tk:Nat),(∀ b o,s.heap.get? b = some o -> h'.get? b = some o) -> Q (.int (M.j8 ns) t) { s with heap:=h',toks:=tk }):wpAny (model prog w) A (call (.builtin "min") [.ref l]) Q E s:=by
 obtain ⟨xs,e⟩:=hi.allInts.items
 have hns:ns = xs.toList.map (·.1):=by rw [<- hi.numsOf,<- nums_intItems,<- e]
 have hsz:0 < xs.size:=by have h3:=hne;rw [hns,Pc,P9] at h3;exact h3
 rw [e] at hl;refine min_intList hh hl hsz fun v h' tk hv hk=>?_
 obtain ⟨t,rfl⟩:=intItems_at hv;obtain ⟨h1,h2⟩:=argBest_lt (numAt xs) (xs.size - 1)
 have em:M.j8 ns = numAt xs (argBest (fun i j=>decide (numAt xs i < numAt xs j)) (xs.size - 1)):=by
  refine M.yh ?_ fun a ha=>?_
  ·rw [hns,numAt_eq];exact getD_mem (by rw [Pc,P9];lia)
  ·rw [hns] at ha;obtain ⟨j,hj,rfl⟩:=mem_getD ha;rw [Pc,P9] at hj;rw [<- numAt_eq];exact h2 j (by lia)
 rw [<- em];exact h h' t tk hk
theorem Ar {l:Addr} {vs:List Value} {ns:List Int} {Q:Value -> Shared -> Prop} (hh:A.handled = none) (hl:s.heap.IsList l vs.toArray) (hi:IntsAre vs ns) (hne:0 < ns.length)
  (h:∀ (h':Heap) (t:Tok) (tk:Nat),(∀ b o,s.heap.get? b = some o -> h'.get? b = some o) -> Q (.int (M.mR ns) t) { s with heap:=h',toks:=tk }):wpAny (model prog w) A (call (.builtin "max") [.ref l]) Q E s:=by
 obtain ⟨xs,e⟩:=hi.allInts.items
 have hns:ns = xs.toList.map (·.1):=by rw [<- hi.numsOf,<- nums_intItems,<- e]
 have hsz:0 < xs.size:=by have h3:=hne;rw [hns,Pc,P9] at h3;exact h3
 rw [e] at hl;refine max_intList hh hl hsz fun v h' tk hv hk=>?_
 obtain ⟨t,rfl⟩:=intItems_at hv;obtain ⟨h1,h2⟩:=argBest_gt (numAt xs) (xs.size - 1)
 have em:M.mR ns = numAt xs (argBest (fun i j=>decide (numAt xs i > numAt xs j)) (xs.size - 1)):=by
  refine M.EF ?_ fun a ha=>?_
  ·rw [hns,numAt_eq];exact getD_mem (by rw [Pc,P9];lia)
  ·rw [hns] at ha;obtain ⟨j,hj,rfl⟩:=mem_getD ha;rw [Pc,P9] at hj;rw [<- numAt_eq];exact h2 j (by lia)
 rw [<- em];exact h h' t tk hk
theorem EW (a b c d:Value):argsOk "min" ⟨[a,b,c,d],[]⟩:=by unfold argsOk;kernel_rfl
theorem D4 {a b c d:Value} {Q:Value -> Shared -> Prop}
  (h:wpAny (model prog w) A.in1 (pyIter (.ref s.heap.objs.size)) (fun it s₂=>∃ I fp wr n P St bt,it = .ref I /\ Walks prog w A.in1 I fp wr n P St /\ St 0 s₂.heap /\ (∀ b ∈ fp,b < s₂.heap.objs.size) /\ 0 < n /\ CmpOf prog w A.in1 .Lt P bt /\ ∀ v h' tk,P (argBest bt (n - 1)) v -> (∀ b o,b ∉ wr -> s₂.heap.get? b = some o -> h'.get? b = some o) -> Q v { s₂ with heap:=h',toks:=tk }) E { s with heap:=s.heap.push { cls:=.type "tuple",data:=.seq #[a,b,c,d] } }) :
  wpAny (model prog w) A (call (.builtin "min") [a,b,c,d]) Q E s:=by
 have hname:(toString "min" ++ toString ".loop" : String) = "min.loop" := by decide
 refine call_function_tree F.kind_min F.plain_min F.entry_min (EW _ _ _ _) ?_;show wpAny _ A.in1 (Builtin.Builtins.bindParams "min" ["key", "default"] 0 ⟨[],[]⟩ >>= _) _ _ s
 refine Pb (Q0 (show Builtin.Builtins.bindParams "min" ["key", "default"] 0 ⟨[],[]⟩ = pure [none,none] from rfl) ?_);show wpAny _ A.in1 (newTuple [a,b,c,d] >>= _) _ _ s
 refine Pb (Qn ?_);refine Pb (P8 h (fun it s₂ h₂=>?_) fun _ _ e=>e);obtain ⟨I,fp,wr,n,P,St,bt,rfl,W,hst,hfp,hn,hcmp,hQ⟩:=h₂
 refine Pb (Qn ?_);have hSf:s₂.heap.objs.size ∉ fp:=fun hm=>Qw _ (hfp _ hm)
 rw [hname];refine Pj ⟨plainId_quiet F.plain_min_loop _,codeAny_min_loop_first W bt hcmp s₂.heap.objs.size hSf hn (W.frame _ _ _ hst fun b _ o e=>Pu _ e) (PP _ rfl) fun v h' tk hP hk=>?_⟩
 exact hQ v h' tk hP fun b o hbw e=>hk b o hbw (Pz (Pt e)) (Pu _ e)
theorem Bj {a b c d:Int} {t u x y:Tok} {Q:Value -> Shared -> Prop} (hh:A.handled = none) (h:∀ (h':Heap) (z:Tok) (tk:Nat),(∀ b o,s.heap.get? b = some o -> h'.get? b = some o) -> Q (.int (M.j8 [a,b,c,d]) z) { s with heap:=h',toks:=tk }) :
  wpAny (model prog w) A (call (.builtin "min") [.int a t,.int b u,.int c x,.int d y]) Q E s:=by
 have hT:(s.heap.push { cls:=.type "tuple",data:=.seq #[.int a t,.int b u,.int c x,.int d y] }).IsTuple s.heap.objs.size (intItems #[(a,t),(b,u),(c,x),(d,y)]):=⟨_,PP _ rfl,rfl,0,by simp [intItems]⟩
 refine D4 (wpAny_pyIter_tuple hT ?_);have hsz:(s.heap.push { cls:=.type "tuple",data:=.seq #[.int a t,.int b u,.int c x,.int d y] }).objs.size = s.heap.objs.size + 1:=QC ..
 refine ⟨_,[_,s.heap.objs.size],[_],_,_,_,_,rfl,Walks.tuple (A:=A.in1) hh _ s.heap.objs.size (by rw [hsz];exact Pz (Q5 _)) (intItems #[(a,t),(b,u),(c,x),(d,y)]),⟨⟨_,PP _ rfl,rfl,rfl⟩,hT.push _⟩,fun e hd=>?_,by simp [intItems],CmpOf.ints_lt (numAt #[(a,t),(b,u),(c,x),(d,y)]) (fun _ _=>intItems_at),fun v h' tk hP hk=>?_⟩
 ·show e < ((s.heap.push _).push _).objs.size
  rw [QC,hsz];rcases Pn.mp hd with rfl | hd
  ·rw [hsz];exact Q5 _
  ·rcases Pn.mp hd with rfl | hd
   ·exact Ri (Q5 _)
   ·cases hd
 ·have hold:∀ z o,s.heap.get? z = some o -> h'.get? z = some o:=fun z o e=>by
   refine hk z o (fun hm=>?_) (Pu _ (Pu _ e));rcases Pn.mp hm with e1 | hm
   ·have:=Pt e;rw [e1,hsz] at this;exact Qw _ (Nat.lt_of_succ_lt this)
   ·cases hm
  have hP':(intItems #[(a,t),(b,u),(c,x),(d,y)])[argBest (fun i j=>decide (numAt #[(a,t),(b,u),(c,x),(d,y)] i < numAt #[(a,t),(b,u),(c,x),(d,y)] j)) 3]? = some v:=by
   have hsz2:(intItems #[(a,t),(b,u),(c,x),(d,y)]).size - 1 = 3:=by simp [intItems]
   rw [<- hsz2];exact hP
  obtain ⟨z,rfl⟩:=intItems_at hP';obtain ⟨h1,h2⟩:=argBest_lt (numAt #[(a,t),(b,u),(c,x),(d,y)]) 3
  have em:M.j8 [a,b,c,d] = numAt #[(a,t),(b,u),(c,x),(d,y)] (argBest (fun i j=>decide (numAt #[(a,t),(b,u),(c,x),(d,y)] i < numAt #[(a,t),(b,u),(c,x),(d,y)] j)) 3):=by
   have k0:=h2 0 (by lia);have k1:=h2 1 (by lia);have k2:=h2 2 (by lia);have k3:=h2 3 (by lia)
   generalize hg:argBest (fun i j=>decide (numAt #[(a,t),(b,u),(c,x),(d,y)] i < numAt #[(a,t),(b,u),(c,x),(d,y)] j)) 3 = g at h1 k0 k1 k2 k3 ⊢
   refine M.yh ?_ fun e he=>?_
   ·rcases (show g = 0 \/ g = 1 \/ g = 2 \/ g = 3 by lia) with rfl | rfl | rfl | rfl <;> simp [numAt]
   ·simp only [Pn,List.not_mem_nil,or_false] at he
    rcases he with rfl | rfl | rfl | rfl
    ·exact k0
    ·exact k1
    ·exact k2
    ·exact k3
  rw [<- em];exact h h' z tk hold
end
def Fp (K:W.Frag):List V -> Hp -> VK -> Prop:=fun xs H Q=>∃ p,∃ ns:List Int,xs = [.ref p] /\ SqL K H p (ns.map V.int) /\ 0 < ns.length /\ Q (.int (M.j8 ns)) H
def Gm (K:W.Frag):List V -> Hp -> VK -> Prop:=fun xs H Q=>∃ p,∃ ns:List Int,xs = [.ref p] /\ SqL K H p (ns.map V.int) /\ 0 < ns.length /\ Q (.int (M.mR ns)) H
def Jb:List V -> Hp -> VK -> Prop:=fun xs H Q=>∃ a b c d,xs = [.int a,.int b,.int c,.int d] /\ Q (.int (M.j8 [a,b,c,d])) H
section
variable {X:Cx}
theorem BX (hc:X.calm = true):CallR X (.builtin "min") (Fp X.K):=by
 intro pins s σ H xs us Q I r h
 obtain ⟨p,ns,rfl,hS,hne,q⟩:=h
 obtain ⟨u,rfl,ru⟩:=r.one
 cases ru
 obtain ⟨its,rv,pl,hz⟩:=I.list hS
 exact AL (I.ok.hd hc) pl.isList (jq rv) hne fun h' t tk k=>⟨.int (M.j8 ns),H,I.kept k,⟨t,rfl⟩,q⟩
theorem Cq (hc:X.calm = true):CallR X (.builtin "max") (Gm X.K):=by
 intro pins s σ H xs us Q I r h
 obtain ⟨p,ns,rfl,hS,hne,q⟩:=h
 obtain ⟨u,rfl,ru⟩:=r.one
 cases ru
 obtain ⟨its,rv,pl,hz⟩:=I.list hS
 exact Ar (I.ok.hd hc) pl.isList (jq rv) hne fun h' t tk k=>⟨.int (M.mR ns),H,I.kept k,⟨t,rfl⟩,q⟩
theorem Ek (hc:X.calm = true):CallR X (.builtin "min") Jb:=by
 intro pins s σ H xs us Q I r h
 obtain ⟨a,b,c,d,rfl,q⟩:=h
 cases r with
 | cons r1 r=>cases r with
  | cons r2 r=>cases r with
   | cons r3 r=>cases r with
    | cons r4 r=>
     cases r
     obtain ⟨t,rfl⟩:=r1
     obtain ⟨t2,rfl⟩:=r2
     obtain ⟨t3,rfl⟩:=r3
     obtain ⟨t4,rfl⟩:=r4
     exact Bj (I.ok.hd hc) fun h' t tk k=>⟨.int (M.j8 [a,b,c,d]),H,I.kept k,⟨t,rfl⟩,q⟩
end
end L2
namespace M
open PySem L2
def AE:List D -> Option D
 | [.lst l]=>(bS l).bind fun ns=>if 0 < ns.length then some (.int (j8 ns)) else none
 | _=>none
def Bl:List D -> Option D
 | [.lst l]=>(bS l).bind fun ns=>if 0 < ns.length then some (.int (mR ns)) else none
 | _=>none
def C4:List D -> Option D
 | [.int a,.int b,.int c,.int d]=>some (.int (j8 [a,b,c,d]))
 | _=>none
section
variable {K:W.Frag}
theorem K0:SRB K (Fp K) AE:=fun S H vs ds g Q s d q k=>by
 unfold AE at q
 split at q
 ·rename_i l
  cases qi:bS l with
  | none=>rw [qi] at q;cases q
  | some ns=>
   rw [qi] at q
   dsimp only [Option.bind] at q
   split at q
   ·rename_i hne
    cases q
    obtain ⟨v,rfl,d1⟩:=gx d
    obtain ⟨p,xs,rfl,h1,h2⟩:=d1.lst s
    obtain ⟨e,_⟩:=kE h2 qi
    subst e
    exact ⟨p,ns,rfl,.inl h1,hne,k _ S H (Ext.refl s) (den_int.mpr rfl)⟩
   ·cases q
 ·cases q
theorem Ju:SRB K (Gm K) Bl:=fun S H vs ds g Q s d q k=>by
 unfold Bl at q
 split at q
 ·rename_i l
  cases qi:bS l with
  | none=>rw [qi] at q;cases q
  | some ns=>
   rw [qi] at q
   dsimp only [Option.bind] at q
   split at q
   ·rename_i hne
    cases q
    obtain ⟨v,rfl,d1⟩:=gx d
    obtain ⟨p,xs,rfl,h1,h2⟩:=d1.lst s
    obtain ⟨e,_⟩:=kE h2 qi
    subst e
    exact ⟨p,ns,rfl,.inl h1,hne,k _ S H (Ext.refl s) (den_int.mpr rfl)⟩
   ·cases q
 ·cases q
theorem HZ {S H:Hp} {a b c d:D} {vs:List V} (h:DensP K S H [a,b,c,d] vs):∃ v w x y,vs = [v,w,x,y] /\ DenP K S H a v /\ DenP K S H b w /\ DenP K S H c x /\ DenP K S H d y:=by
 cases h with
 | cons h1 h=>cases h with
  | cons h2 h=>cases h with
   | cons h3 h=>cases h with
    | cons h4 h=>cases h;exact ⟨_,_,_,_,rfl,h1,h2,h3,h4⟩
theorem JB:SRB K Jb C4:=fun S H vs ds g Q s d q k=>by
 unfold C4 at q
 split at q
 ·rename_i a b c e
  cases q
  obtain ⟨v,w,x,y,rfl,d1,d2,d3,d4⟩:=HZ d
  exact ⟨a,b,c,e,by rw [d1.int,d2.int,d3.int,d4.int],k _ S H (Ext.refl s) (den_int.mpr rfl)⟩
 ·cases q
end
end M
namespace L2
open PySem
theorem eY {XN:List Str} {sc scope:Scope} {N:List Str} {js:List (Option Nat)} (h1:scope.kind = .function:=by rfl) (h2:∀ y ∈ scope.names,y.2 ≠ .cell:=by decide +kernel) (h3:∀ y ∈ scope.names,y.2 = .free -> sc.names.lookup y.1 = some .cell \/ sc.names.lookup y.1 = some .free:=by decide +kernel)
  (h4:∀ y ∈ scope.names,y.2 = .local -> scope.names.lookup y.1 = some .local:=by decide +kernel) (h5:js.length = N.length:=by rfl) (h6:((N.zip js).all fun p=>match p.2 with | none=>true | some j=>decide (XN[j]? = some p.1) && decide (scope.names.lookup p.1 = some .free)) = true:=by decide +kernel):CmpOk XN sc scope N js:=⟨h1,h2,h3,h4,h5,h6⟩
end L2
namespace M
open PySem L2
@[simp] def M2 (m:List D -> Option D) (e:D) (a:XA):XE:=fun ρ=>(a ρ).bind fun ds=>m (ds ++ [e])
section
variable {K:W.Frag}
end
end M
namespace L2
open PySem
section
variable {P:Program} {w:World} {K:W.Frag} {mg:Str -> Option Value} {base:Heap}
end
end L2
namespace L2
open PySem PySem.Spec PyProof.Rows
structure CmpOkC (XN:List Str) (sc scope:Scope) (N:List Str) (js:List (Option Nat)) (t:Str):Prop where
 kind:scope.kind = .function
 free:∀ y ∈ scope.names,y.2 = .free -> sc.names.lookup y.1 = some .cell \/ sc.names.lookup y.1 = some .free
 loc:∀ y ∈ scope.names,y.2 = .local -> scope.names.lookup y.1 = some .local
 len:js.length = N.length
 ix:((N.zip js).all fun p=>match p.2 with | none=>true | some j=>decide (XN[j]? = some p.1) && decide (scope.names.lookup p.1 = some .free)) = true
 cell1:∀ y ∈ scope.names,y.2 = .cell -> y.1 = t
 tl:scope.names.lookup t = some .cell
 laid:∀ n acc,cellsFrom n scope.names acc = (t,n) :: acc
 pushed:∀ h,pushCells h scope.names = h.push { cls:=.type "cell",data:=.cell none }
theorem JY {XN:List Str} {sc scope:Scope} {N:List Str} {js:List (Option Nat)} {t:Str} (h1:scope.kind = .function:=by rfl) (h3:∀ y ∈ scope.names,y.2 = .free -> sc.names.lookup y.1 = some .cell \/ sc.names.lookup y.1 = some .free:=by decide +kernel)
  (h4:∀ y ∈ scope.names,y.2 = .local -> scope.names.lookup y.1 = some .local:=by decide +kernel) (h5:js.length = N.length:=by rfl) (h6:((N.zip js).all fun p=>match p.2 with | none=>true | some j=>decide (XN[j]? = some p.1) && decide (scope.names.lookup p.1 = some .free)) = true:=by decide +kernel)
  (h7:∀ y ∈ scope.names,y.2 = .cell -> y.1 = t:=by decide +kernel) (h8:scope.names.lookup t = some .cell:=by decide +kernel) (h9:∀ n acc,cellsFrom n scope.names acc = (t,n) :: acc:=by intro n acc;rfl) (h10:∀ h,pushCells h scope.names = h.push { cls:=.type "cell",data:=.cell none }:=by intro h;rfl):CmpOkC XN sc scope N js t:=⟨h1,h3,h4,h5,h6,h7,h8,h9,h10⟩
def cxD (t:Str) (X:Cx) (N:List Str) (scope:Scope) (z:CxZ):Cx:={ cxC X N scope z with fn:=fun y=>y == t }
theorem mP {env:Env}:∀ {names:List (Str × NameKind)} {x:Str} {j:NameKind},(j = .cell \/ j = .free) ->
  (names.map fun (n,k)=>if (k == NameKind.free && env.scope.kind == .function && env.kindOf n == some .cell) then (n,NameKind.cell) else (n,k)).lookup x = some j -> (x,NameKind.free) ∈ names \/ (x,NameKind.cell) ∈ names
 | [],_,_,_,h=>by simp at h
 | (n,k) :: r,x,j,hj,h=>by
  have ih:=@mP env r x j hj
  rw [Ps] at h
  dsimp only at h
  cases q:x == n with
  | true=>
   have e:x = n:=by simpa using q
   subst e
   split at h
   ·rename_i g
    have:k = .free:=by simp only [Qd,Qb] at g;exact g.1.1
    subst this
    exact .inl Pg
   ·rw [PV,q] at h
    cases h
    rcases hj with z | z
    ·rw [z];exact .inr Pg
    ·rw [z];exact .inl Pg
  | false=>
   have h':(r.map fun (n,k)=>if (k == NameKind.free && env.scope.kind == .function && env.kindOf n == some .cell) then (n,NameKind.cell) else (n,k)).lookup x = some j:=by
    split at h
    ·rw [PV,q] at h;exact h
    ·rw [PV,q] at h;exact h
   exact (ih h').imp (Pi _) (Pi _)
section
variable {X:Cx} {pins:List (Addr × Obj)} {σ:St} {H:Hp} {s:Shared} {XN N:List Str} {sc scope:Scope} {js:List (Option Nat)}
theorem IA {M:Model} {A:Around} {E:Value -> Shared -> Prop} {t:Str} {cl:List (Str × Addr)} {globals:Addr} {qual:Str} {env:Env} {Q:Env -> Shared -> Prop} (ck:CmpOkC XN sc scope N js t)
  (h:Q { scope:=scope,locals:=s.heap.objs.size,globals:=globals,cells:=(t,s.heap.objs.size + 1) :: cl,qual:=qual,func:=none,code:=env.code,frame:=env.frame,builtins:=env.builtins } { s with heap:=(s.heap.push { cls:=.type "dict",data:=.dict #[] }).push { cls:=.type "cell",data:=.cell none } }):wpAny M A (newFunctionEnv scope globals cl [] qual none .none (some env)) Q E s:=by
 simp only [newFunctionEnv,Option.isSome_some,QE]
 refine Pb (wpAny_alloc ?_)
 refine Pb (wpAny_layCells _ (fun name kind cells=>by cases hkc:kind == NameKind.cell <;> simp [hkc]) _ _ _ _ ?_)
 rw [ck.pushed,ck.laid,show ({ s with heap:=s.heap.push { cls:=.type "dict",data:=.dict #[] } }:Shared).heap.objs.size = s.heap.objs.size + 1 from QC ..]
 exact Pj h
theorem EA {t:Str} {h1:Heap} {tk:Nat} {fp:List Addr} (ck:CmpOkC XN sc scope N js t) (hXN:X.N = XN) (hsc:X.env.scope = sc) (I:Inv X pins σ H s) (hf:∀ b ∈ fp,p7 X pins H b)
  (hfo:∀ b ∈ fp,b < s.heap.objs.size) (hh:h1 = (s.heap.push { cls:=.type "dict",data:=.dict #[] }).push { cls:=.type "cell",data:=.cell none }) :
  Inv (cxD t X N scope ⟨(t,s.heap.objs.size + 1) :: gR X.env scope.names [],s.heap.objs.size,s,H,fp,pins⟩) [] (inn js σ) H { s with heap:=h1,toks:=tk }:=by
 subst hXN hsc
 have hk:∀ b o,s.heap.get? b = some o -> h1.get? b = some o:=fun b o e=>by rw [hh];exact Pu _ (Pu _ e)
 have hn:h1.Ns s.heap.objs.size (fun _=>none):=by rw [hh];exact (Heap.Ns.new s.heap (.type "dict")).keeps fun b o e=>Pu _ e
 have hcell:h1.get? (s.heap.objs.size + 1) = some { cls:=.type "cell",data:=.cell none }:=by
  rw [hh,<- QC s.heap { cls:=.type "dict",data:=.dict #[] }]
  exact PP _ rfl
 have look:∀ n c,((t,s.heap.objs.size + 1) :: gR X.env scope.names []).lookup n = some c -> (n = t /\ c = s.heap.objs.size + 1) \/ (n ≠ t /\ (gR X.env scope.names []).lookup n = some c):=fun n c h=>by
  rw [PV] at h
  cases q:n == t with
  | true=>rw [q] at h;cases h;exact .inl ⟨by simpa using q,rfl⟩
  | false=>rw [q] at h;exact .inr ⟨fun e=>by rw [e] at q;simp at q,h⟩
 have sub:∀ n c,(gR X.env scope.names []).lookup n = some c -> X.env.cells.lookup n = some c:=vA fun n c h=>by simp at h
 have clt:∀ n c,(gR X.env scope.names []).lookup n = some c -> c < s.heap.objs.size:=fun n c h=>by
  obtain ⟨v,q⟩:=I.cell n c (sub n c h)
  exact q.lt
 have has:∀ x,(x,NameKind.free) ∈ scope.names -> ∃ c,(gR X.env scope.names []).lookup x = some c:=fun x hx=>
  wC (.inl ⟨hx,I.ok.has x (ck.free _ hx rfl)⟩)
 refine ⟨⟨I.ok.mod,ck.kind,I.ok.glob,I.ok.blt,Pf _,fun x y c h1 h2=>?inj,fun x hx=>?has,fun x c hx hl=>?cab,I.ok.hd,I.ok.frames,.inl rfl,fun b hb=>?exf,I.bs,?bsz,fun b o e hb=>?noex,fun b hb=>?exfs,I.stack,I.stkFree⟩,
  rfl,I.bare,Un.kept hk,⟨_,hn,fun i x v h1 h2 h3=>?loc⟩,fun x c h=>?cell,I.hok.fresh (Pf _),fun x c h=>?freeC,fun p hp=>?pin,I.hok.kept hk,?len⟩
 case inj=>
  rcases look x c h1 with ⟨e1,e2⟩ | ⟨e1,e2⟩ <;> rcases look y c h2 with ⟨e3,e4⟩ | ⟨e3,e4⟩
  ·rw [e1,e3]
  ·have z:c < s.heap.objs.size:=clt y c e4
   rw [e2] at z
   exact absurd z (Nat.not_lt.mpr (QD _))
  ·have z:c < s.heap.objs.size:=clt x c e2
   rw [e4] at z
   exact absurd z (Nat.not_lt.mpr (QD _))
  ·exact I.ok.inj x y c (sub x c e2) (sub y c e4)
 case freeC=>
  rcases look x c h with ⟨e1,e2⟩ | ⟨e1,e2⟩
  ·rw [e2];exact I.hok.fresh (QD _)
  ·exact I.freeC x c (sub x c e2)
 case has=>
  have hb:(x,NameKind.free) ∈ scope.names \/ (x,NameKind.cell) ∈ scope.names:=by
   rcases hx with hx | hx
   ·exact mP (.inl rfl) hx
   ·exact mP (.inr rfl) hx
  by_cases e:x = t
  ·exact ⟨s.heap.objs.size + 1,by subst e;show List.lookup x ((x,_) :: _) = _;rw [PV,beq_self_eq_true]⟩
  ·rcases hb with hb | hb
   ·obtain ⟨c,hc⟩:=has x hb
    refine ⟨c,?_⟩
    show List.lookup x ((t,_) :: _) = _
    rw [PV,show (x == t) = false by simpa using e]
    exact hc
   ·exact absurd (ck.cell1 _ hb rfl) e
 case cab=>
  have e:x = t:=by
   have hx':(x == t) = true:=hx
   simpa using hx'
  rcases look x c hl with ⟨_,e2⟩ | ⟨e1,_⟩
  ·rw [e2];exact QD _
  ·exact absurd e e1
 case exf=>
  obtain ⟨f0,f1,f2,f3,f4,f5⟩:=hf b hb
  refine ⟨Pz (hfo b hb),fun x c e=>?_⟩
  rcases look x c e with ⟨_,e2⟩ | ⟨_,e2⟩
  ·intro z
   have w:=hfo b hb
   rw [<- z,e2] at w
   exact absurd w (Nat.not_lt.mpr (QD _))
  ·exact f4 x c (sub x c e2)
 case bsz=>exact PL I.ok.bsz I.sz
 case noex=>
  obtain ⟨f0,f1,f2,f3,f4,f5⟩:=hf b hb
  rcases f3 with f3 | f3
  ·exact I.ok.noex b o e f3
  ·exact absurd (PY (Pt e) (PL I.ok.bsz f3)) (Qw _)
 case exfs=>
  obtain ⟨f0,f1,f2,f3,f4,f5⟩:=hf b hb
  intro z
  rcases Pn.mp (I.stkSub b z) with e | e
  ·exact f1 e
  ·exact f2 e
 case loc=>
  have hl:N.length = js.length:=ck.len.symm
  have hi:i < js.length:=by
   have:=(Pw.mp h1).1
   have e:(cxD t X N scope ⟨(t,s.heap.objs.size + 1) :: gR X.env scope.names [],s.heap.objs.size,s,H,fp,pins⟩).N = N:=rfl
   rw [e] at this
   lia
  have hN:N[i]? = some x:=h1
  have hj:js[i]? = some js[i]:=P7 hi
  unfold inn at h2
  rw [PB,hj] at h2
  cases q:js[i] with
  | none=>rw [q] at h2;cases h2
  | some j=>
   rw [q] at h2 hj
   have h2':(σ[j]?).join = some v:=PR h2
   have hσ:σ[j]? = some (some v):=by
    cases e:σ[j]? with
    | none=>rw [e] at h2';cases h2'
    | some o=>rw [e] at h2';exact PC some h2'
   have hm:(x,some j) ∈ N.zip js:=by
    refine QV (i:=i) ?_
    rw [List.getElem?_zip_eq_some]
    exact ⟨hN,hj⟩
   have hc:=List.all_eq_true.mp ck.ix _ hm
   simp only [Qd,RD] at hc
   obtain ⟨c1,c2⟩:=hc
   have hfr:(x,NameKind.free) ∈ scope.names:=QT c2
   have hvis:X.env.scope.names.lookup x = some .cell \/ X.env.scope.names.lookup x = some .free:=ck.free _ hfr rfl
   obtain ⟨m0,hn0,hl0⟩:=I.loc
   obtain ⟨u,r,l⟩:=hl0 j x v c1 hσ (hvis.elim (fun z=>.inr (.inl z)) fun z=>.inr (.inr z))
   refine ⟨u,r,.inr ⟨?_,?_⟩⟩
   ·exact pD c2
   ·rcases l with ⟨k1,_⟩ | ⟨_,c,k1,k2⟩
    ·have k1':X.env.scope.names.lookup x = some .local:=k1
     rcases hvis with z | z
     ·rw [z] at k1';cases k1'
     ·rw [z] at k1';cases k1'
    ·obtain ⟨c',hc'⟩:=has x hfr
     have e:=sub x c' hc'
     rw [k1] at e
     cases e
     obtain ⟨oc,ho,hd⟩:=k2
     refine ⟨c,?_,oc,hk _ _ ho,hd⟩
     have ne:x ≠ t:=fun e=>by rw [e,ck.tl] at c2;cases c2
     show List.lookup x ((t,_) :: _) = _
     rw [PV,show (x == t) = false by simpa using ne]
     exact hc'
 case cell=>
  rcases look x c h with ⟨e1,e2⟩ | ⟨e1,e2⟩
  ·exact ⟨none,_,by rw [e2];exact hcell,rfl⟩
  ·obtain ⟨v,oc,ho,hd⟩:=I.cell x c (sub x c e2)
   exact ⟨v,oc,hk _ _ ho,hd⟩
 case pin=>
  have hp':p ∈ X.pn ++ pins:=by simpa [cxD,cxC] using hp
  obtain ⟨p1,p2,p3,p4,p5⟩:=I.pin p hp'
  refine ⟨hk _ _ p1,p2,Pz (Pt p1),fun z=>?_,p5⟩
  rcases Pn.mp (I.stkSub _ z) with e | e
  ·exact p3 e
  ·exact p4 e
 case len=>
  show (inn js σ).length = N.length
  unfold inn
  rw [Pc]
  exact ck.len
variable {tg iter elt:Expr} {ifs:List Expr} {pos:Pos} {wi:TI} {g:TG} {tt:TIf} {te:TE}
theorem Cw {t:Str} {E:Value -> Shared -> Prop} {R:Result -> Shared -> Prop} {it D:Addr} {fp:List Addr} {tn:Nat -> Heap -> Prop} {J:It} {z:CxZ} {W:Nat -> Nat -> Hp -> Prop} {n:Nat}
  (hc:X.calm = true) (T:Turn X.prog X.w X.K tg J fp it tn) (hz:∀ b ∈ fp,∀ H',H' b = none -> p7 (cxD t X N scope z) [] H' b)
  (hg:PG (cxD t X N scope z) tg g) (hs:wY js g) (ht:PIf (cxD t X N scope z) ifs tt) (he:PE (cxD t X N scope z) elt te)
  (turn:∀ i m H,W i m H -> (J.stop i H /\ ∀ s',Inv (cxD t X N scope z) [] (inn js σ) H s' -> R (.ok .next) s') \/ (J.go i H /\ ∀ x H',J.yld i H x H' -> g x (inn js σ) H' fun σ2 H2=>tt σ2 H2 fun b H3=>
   if b = true then te σ2 H3 fun y H4=>∃ ys,H4 D = some (.lst ys) /\ ys.length < sizeLine /\ ∃ m',m' < m /\ W (i + 1) m' (upd H4 D (.lst (ys ++ [y]))) else ∃ m',m' < m /\ W (i + 1) m' H3))
  {s1:Shared} {H1:Hp} (I1:Inv (cxD t X N scope z) [] (inn js σ) H1 s1) (t1:tn 0 s1.heap) (f1:∀ b ∈ fp,H1 b = none) (w1:W 0 n H1) :
  codeAny (model X.prog X.w) X.A (.compLoop (.ListComp elt [⟨tg,iter,ifs,0⟩] scope pos) 0 (.ref it) (.ref D) (compEnvC scope z.cl z.C X.env)) R s1:=by
 refine codeAny_loop (c:=.compLoop (.ListComp elt [⟨tg,iter,ifs,0⟩] scope pos) 0 (.ref it) (.ref D) (compEnvC scope z.cl z.C X.env)) rfl
  (fun k s'=>∃ i H',Inv (cxD t X N scope z) [] (inn js σ) H' s' /\ tn i s'.heap /\ (∀ b ∈ fp,H' b = none) /\ W i k H') ?_ n ⟨0,H1,I1,t1,f1,w1⟩
 rintro k s2 ⟨i,H2,I2,t2,f2,w2⟩
 show wpAny (model X.prog X.w) X.A ((compTurn (.ListComp elt [⟨tg,iter,ifs,0⟩] scope pos) 0 (.ref it) (.ref D) (compEnvC scope z.cl z.C X.env)).onRaise fun x=>do noteFrame x (compEnvC scope z.cl z.C X.env);theTreesLotGoes x) _ _ s2
 refine wpAny_noted ?_
 rw [compTurn_list]
 refine Pb (wpAny_standAt ?_)
 rcases turn i k H2 w2 with ⟨stop,fin⟩ | ⟨go,step⟩
 ·refine Pb (thn (T.done (cxD t X N scope z) rfl rfl rfl hc i [] s2 (inn js σ) H2 _ I2 (fun b hb=>hz b hb H2 (f2 b hb)) t2 stop) fun r s3 h3=>?_)
  obtain ⟨rfl,I3⟩:=h3
  exact Pj (fin s3 I3)
 ·refine Pb (thn (T.item (cxD t X N scope z) rfl rfl rfl hc i [] s2 (inn js σ) H2 _ I2 (fun b hb=>hz b hb H2 (f2 b hb)) t2 go) fun r s3 h3=>?_)
  obtain ⟨u,rfl,h3⟩:=h3
  refine Pb (thn h3 fun _ s4 h4=>?_)
  obtain ⟨x,H4,I4,r4,y4,t4,f4⟩:=h4
  have P4:=I4.pinned (fun b hb=>hz b hb H4 (f4 b hb)) (T.obj _ _ t4)
  have ff:∀ {e:Value} {s':Shared},(cxD t X N scope z).xe e s' -> False:=fun h=>h
  refine Pb (P8 (hg _ s4 (inn js σ) H4 x u _ P4 r4 (hs σ x (inn js σ) H4 _ (Lev.refl _) (step x H4 y4))) (fun _ s5 h5=>?_) fun _ _ h=>(ff h).elim)
  obtain ⟨σ5,H5,I5,lev,q5⟩:=h5
  refine Pb (P8 (ht _ s5 σ5 H5 _ I5 q5) (fun ok s6 h6=>?_) fun _ _ h=>(ff h).elim)
  obtain ⟨H6,I6,q6⟩:=h6
  have again:∀ {s7:Shared} {H7:Hp},Inv (cxD t X N scope z) ([] ++ rH fp s4.heap) σ5 H7 s7 -> (∃ m',m' < k /\ W (i + 1) m' H7) -> ∃ m,m < k /\ ∃ i H',Inv (cxD t X N scope z) [] (inn js σ) H' s7 /\ tn i s7.heap /\ (∀ b ∈ fp,H' b = none) /\ W i m H':=fun {s7 H7} I7 h7=>by
   obtain ⟨m',hm,w7⟩:=h7
   refine ⟨m',hm,i + 1,H7,(I7.unpinned).weak lev.1 lev.2,T.keep _ _ _ t4 fun b hb o e=>(I7.pin (b,o) (Pm _ (Pm _ (gL hb e)))).1,fun b hb=>?_,w7⟩
   obtain ⟨o,e,d⟩:=T.obj _ _ t4 b hb
   exact (I7.pin (b,o) (Pm _ (Pm _ (gL hb e)))).2.1
  cases ok with
  | false=>
   rw [O8 (by decide)] at q6
   exact Pj ⟨rfl,again I6 q6⟩
  | true=>
   rw [O7 rfl] at q6
   refine Pb (Pb (P8 (he _ s6 σ5 H6 _ I6 q6) (fun y s7 h7=>?_) fun _ _ h=>(ff h).elim))
   obtain ⟨vy,H7,I7,r7,ys,hD,hl,q7⟩:=h7
   refine Pb (P8 (dZ (X:=cxD t X N scope z) _ s7 σ5 H7 (.ref D) [vy] (.ref D) [y] (fun _ H'=>∃ m',m' < k /\ W (i + 1) m' H') I7 rfl (.cons r7 .nil) ⟨D,ys,vy,rfl,rfl,hD,hl,q7⟩) (fun _ s8 h8=>?_) fun _ _ h=>(ff h).elim)
   obtain ⟨_,H8,I8,_,q8⟩:=h8
   exact Pj (Pj ⟨rfl,again I8 q8⟩)
theorem Bw {t:Str} {E:Value -> Shared -> Prop} {RR:Value -> Addr -> Result -> Shared -> Prop} {Q:VK} {itv:Value} {s2:Shared} (ck:CmpOkC XN sc scope N js t) (hXN:X.N = XN) (hsc:X.env.scope = sc) (hc:X.calm = true)
  (hg:∀ z,PG (cxD t X N scope z) tg g) (hs:wY js g) (ht:∀ z,PIf (cxD t X N scope z) ifs tt) (he:∀ z,PE (cxD t X N scope z) elt te)
  (h2:PIE X pins σ tg (fun J H1=>∀ D,H1 D = none -> ∃ W:Nat -> Nat -> Hp -> Prop,(∃ m,W 0 m (upd H1 D (.lst []))) /\ ∀ i m H,W i m H ->
   (J.stop i H /\ Q (.ref D) H) \/ (J.go i H /\ ∀ x H',J.yld i H x H' -> g x (inn js σ) H' fun σ2 H2=>tt σ2 H2 fun b H3=>
    if b = true then te σ2 H3 fun y H4=>∃ ys,H4 D = some (.lst ys) /\ ys.length < sizeLine /\ ∃ m',m' < m /\ W (i + 1) m' (upd H4 D (.lst (ys ++ [y]))) else ∃ m',m' < m /\ W (i + 1) m' H3)) itv s2)
  (hRR:∀ D C s' H' m o,Inv X (pins ++ [(C,o)]) σ H' s' -> s'.heap.Ns C m -> (X.s₀.heap.objs.size <= C /\ C ≠ X.env.locals /\ (∀ x c,X.env.cells.lookup x = some c -> c ≠ C) /\ ∀ p ∈ X.pn ++ pins,p.1 ≠ C) -> H' C = none -> Q (.ref D) H' -> RR (.ref D) C (.ok .next) s') :
  wpAny (model X.prog X.w) X.A (newList []) (fun acc s₃=>wpAny (model X.prog X.w) X.A (newFunctionEnv scope X.env.globals (gR X.env scope.names []) [] X.env.qual none .none (some X.env)) (fun cenv s₄=>
   codeAny (model X.prog X.w) X.A (.compStart (.ListComp elt [⟨tg,iter,ifs,0⟩] scope pos) 0 itv acc { cenv with scope:=relabel scope X.env }) (RR acc cenv.locals) s₄) E s₃) E s2:=by
 obtain ⟨it,fp,tn,J,H2,rfl,I2,T,t2,f2,q2⟩:=h2
 have fo:∀ b ∈ fp,b < s2.heap.objs.size:=fun b hb=>by
  obtain ⟨o,e,_⟩:=T.obj _ _ t2 b hb
  exact Pt e
 have hD:H2 s2.heap.objs.size = none:=I2.fresh
 obtain ⟨W,⟨n,w0⟩,turn⟩:=q2 _ hD
 refine Qn (IA ck ?_)
 generalize hh1:((s2.heap.push { cls:=.type "list",data:=.seq ([]:List Value).toArray }).push { cls:=.type "dict",data:=.dict #[] }).push { cls:=.type "cell",data:=.cell none } = h1
 have I3:Inv X pins σ (upd H2 s2.heap.objs.size (.lst [])) { s2 with heap:=s2.heap.push { cls:=.type "list",data:=.seq ([]:List Value).toArray },toks:=s2.toks }:=I2.lnew (its:=[]) .nil (PU _)
 have f3:∀ b ∈ fp,p7 X pins (upd H2 s2.heap.objs.size (.lst [])) b:=fun b hb=>by
  obtain ⟨g0,g1⟩:=f2 b hb
  exact ⟨by rw [a8 (Pz (fo b hb))];exact g0,g1⟩
 have sz:(s2.heap.push { cls:=.type "list",data:=.seq ([]:List Value).toArray }).objs.size = s2.heap.objs.size + 1:=QC _ _
 have kept:∀ b o,(s2.heap.push { cls:=.type "list",data:=.seq ([]:List Value).toArray }).get? b = some o -> h1.get? b = some o:=fun b o e=>by
  rw [<- hh1];exact Pu _ (Pu _ e)
 have I4:=EA (tk:=s2.toks) ck hXN hsc I3 f3 (fun b hb=>by show b < (s2.heap.push _).objs.size;rw [sz];exact Ri (fo b hb)) hh1.symm
 have t4:tn 0 h1:=T.keep _ _ _ t2 fun b hb o e=>kept b o (Pu _ e)
 have fz:∀ b ∈ fp,∀ H',H' b = none -> p7 (cxD t X N scope ⟨(t,(s2.heap.push { cls:=.type "list",data:=.seq ([]:List Value).toArray }).objs.size + 1) :: gR X.env scope.names [],(s2.heap.push { cls:=.type "list",data:=.seq ([]:List Value).toArray }).objs.size,{ s2 with heap:=s2.heap.push { cls:=.type "list",data:=.seq ([]:List Value).toArray },toks:=s2.toks },upd H2 s2.heap.objs.size (.lst []),fp,pins⟩) [] H' b:=fun b hb H' hn=>by
  obtain ⟨g0,g1,g2,g3,g4,g5⟩:=f3 b hb
  refine ⟨hn,(I4.ok.exf b hb).1,I4.ok.exfs b hb,.inl hb,(I4.ok.exf b hb).2,fun p hp=>?_⟩
  exact g5 p (by simpa [cxD,cxC] using hp)
 have loop:=Cw (X:=X) (t:=t) (σ:=σ) (N:=N) (scope:=scope) (js:=js) (iter:=iter) (pos:=pos) (E:=E) (R:=RR (.ref s2.heap.objs.size) (s2.heap.push { cls:=.type "list",data:=.seq ([]:List Value).toArray }).objs.size) (D:=s2.heap.objs.size) (W:=W) (n:=n)
  hc T fz (hg _) hs (ht _) (he _) (fun i m H w=>(turn i m H w).imp (fun a=>⟨a.1,fun s' Y=>?_⟩) id) I4 t4 (fun b hb=>(f3 b hb).1) w0
 ·exact codeAny_compStart_list loop (T.self _ 0 _ _ _ t4 loop)
 ·have bb:=Y.base
  have J0:Inv X pins σ H s':=I3.call' Y.os bb Y.hok Y.bare fun b hb=>by
   obtain ⟨g0,g1,g2,g3,g4,g5⟩:=f3 b hb
   exact ⟨g3,g1,g4,g5⟩
  obtain ⟨mC,nC,_⟩:=Y.loc
  obtain ⟨oC,eC,dC⟩:∃ o,s'.heap.get? (s2.heap.push { cls:=.type "list",data:=.seq ([]:List Value).toArray }).objs.size = some o /\ ∀ v,o.data ≠ .cell v:=by
   obtain ⟨o,es,ep,ho,hd,_⟩:=nC
   exact ⟨o,ho,fun v z=>by rw [hd] at z;cases z⟩
  have lC:X.s₀.heap.objs.size <= (s2.heap.push { cls:=.type "list",data:=.seq ([]:List Value).toArray }).objs.size:=I3.sz
  have cC:(s2.heap.push { cls:=.type "list",data:=.seq ([]:List Value).toArray }).objs.size ≠ X.env.locals:=Nat.ne_of_gt I3.lt
  have kC:∀ x c,X.env.cells.lookup x = some c -> c ≠ (s2.heap.push { cls:=.type "list",data:=.seq ([]:List Value).toArray }).objs.size:=fun x c e=>by
   obtain ⟨v,q⟩:=I3.cell x c e
   exact Pz q.lt
  have pC:∀ p ∈ X.pn ++ pins,p.1 ≠ (s2.heap.push { cls:=.type "list",data:=.seq ([]:List Value).toArray }).objs.size:=fun p hp=>Pz (Pt (I3.pin p hp).1)
  have J1:Inv X (pins ++ [((s2.heap.push { cls:=.type "list",data:=.seq ([]:List Value).toArray }).objs.size,oC)]) σ H s':=J0.pins_of fun p hp=>by
   rcases Po.mp hp with hp | hp
   ·exact J0.pin p (Pm _ hp)
   ·rw [Pe.mp hp]
    exact ⟨eC,Y.free,cC,I3.nofs (Pf _),dC⟩
  exact hRR _ _ s' H mC oC J1 nC ⟨lC,cC,kC,pC⟩ Y.free a.2
theorem FK {t:Str} (ck:CmpOkC XN sc scope N js t) (hi:PI X tg iter wi) (hg:∀ z,PG (cxD t X N scope z) tg g) (hs:wY js g) (ht:∀ z,PIf (cxD t X N scope z) ifs tt) (he:∀ z,PE (cxD t X N scope z) elt te)
  (hXN:X.N = XN:=by rfl) (hsc:X.env.scope = sc:=by rfl) (hc:X.calm = true:=by rfl) (hf:∀ x,foldedSetIterable iter X.env x = pure x:=by intro _;rfl) :
  PE X (.ListComp elt [⟨tg,iter,ifs,0⟩] scope pos) (Dm js wi g tt te):=by
 intro pins s σ H Q I h
 rw [eval_ListComp]
 have hcl:closureFor scope X.env = pure (gR X.env scope.names []):=ph fun y hy hk=>I.ok.has y.1 (by
  have:=ck.free y hy hk
  rw [<- hsc] at this
  exact this)
 refine RS (use:=none) rfl hf hcl ck.kind ck.loc (thn (hi pins s σ H _ I h) fun v s1 h1=>thn h1 fun itv s2 h2=>?_)
 refine Bw (RR:=fun acc C=>compPost (model X.prog X.w) X.A X.xe none (EP X pins σ Q) acc C) ck hXN hsc hc hg hs ht he h2 ?_
 intro D C s' H' m o J nC hC fC q
 refine ⟨m,nC,fun h' sb=>⟨.ref D,H',?_,rfl,q⟩⟩
 have J0:Inv X pins σ H' s':=J.unpinned
 exact J0.turned (t':=s'.toks) (it:=C) (fun b o hb e=>sb.extBut b o hb e) fC hC.2.1 (.inr hC.1) hC.2.2.1 hC.2.2.2
end
end L2
namespace RevT
open PySem PySem.Calls PyProof.Rows
theorem slot_next:Slot "reversed" "__next__" "reversed.__next__" := .of (owner := "reversed") (n := "__next__") (by rw [Rb,Rc];kernel_rfl) (by decide +kernel) (by decide +kernel) (by decide +kernel) (by first | exact .inl (by decide +kernel) | exact .inr (by decide +kernel)) (by rw [Re];kernel_rfl)
theorem uW:entryFor table "reversed.__next__" = some Builtin.«reversed.__next__»:=entryFor_of_tree (by kernel_rfl)
theorem yp (a:Value):argsOk "reversed.__next__" ⟨[a],[]⟩:=by unfold argsOk;kernel_rfl
theorem xx:Slot "reversed" "__iter__" "reversed.__iter__" := .of (owner := "reversed") (n := "__iter__") (by rw [Rb,Rc];kernel_rfl) (by decide +kernel) (by decide +kernel) (by decide +kernel) (by first | exact .inl (by decide +kernel) | exact .inr (by decide +kernel)) (by rw [Re];kernel_rfl)
theorem Eu (a:Value):argsOk "reversed.__iter__" ⟨[a],[]⟩:=by unfold argsOk;kernel_rfl
theorem BB:entryFor table "reversed.__iter__" = some Builtin.«dict_keyiterator.__iter__»:=entryFor_alias (id' := "dict_keyiterator.__iter__") (by kernel_rfl) (by first | rfl | decide +kernel | (unfold String.splitOn;simp +decide [String.splitOnAux])) (by decide +kernel) (by kernel_rfl)
theorem Kk:typeLookup (.type "tuple") "__reversed__" = pure none:=by rw [Rb,Rc];kernel_rfl
theorem DR:typeLookup (.type "tuple") "__getitem__" = pure (some (.builtin "tuple.__getitem__")):=by rw [Rb,Rc];kernel_rfl
theorem HX:isSubtype (.type "tuple") (.type "dict") = pure false:=by rw [Re];kernel_rfl
theorem sub_self:isSubtype (.type "reversed") (.type "reversed") = pure true:=by rw [Re];kernel_rfl
def wG (t:Addr) (i:Int):Obj:={ cls:=.type "reversed",data:=.fields #[.ref t,rawInt i] }
def IsRev (h:Heap) (a t:Addr) (i:Int):Prop:=∃ o,h.get? a = some o /\ o.cls = .type "reversed" /\ o.data = .fields #[.ref t,rawInt i]
section
variable {prog:Program} {w:World} {A:Around} {E:Value -> Shared -> Prop} {s:Shared}
theorem IsRev.typeIs {a t:Addr} {i:Int} (x:IsRev s.heap a t i):s.TypeIs (.ref a) "reversed" := let ⟨o,ho,hc,_⟩:=x;⟨o,ho,hc⟩
theorem En {it t:Addr} {i:Nat} {items:Array Value} {x:Value} {Q:Option Value -> Shared -> Prop} (hit:IsRev s.heap it t (i:Int)) (ht:IsTup s.heap t items) (hx:items[i]? = some x) (hi:(i:Int) < 2 ^ 62)
  (hQ:∀ h' tk,IsRev h' it t ((i:Int) - 1) -> Heap.SameBut it s.heap h' -> Q (some x) { s with heap:=h',toks:=tk }):wpAny (model prog w) A (pyNext (.ref it)) Q E s:=by
 obtain ⟨o,ho,hc,hd⟩:=id hit
 unfold pyNext
 refine Pb (wpAny_attempt (RB (name:=Str.ofString "__next__") hit.typeIs slot_next (Q8 slot_next hit.typeIs uW ?_ (yp _))))
 unfold Builtin.«reversed.__next__»
 refine Pb (Q0 (a:=(Value.ref it,[])) rfl ?_)
 try dsimp only
 refine Pb (QF ho hd (x:=.ref t) rfl ?_)
 refine Pb (QF ho hd (x:=rawInt (i:Int)) rfl ?_)
 show wpAny _ _ (if (i:Int) < 0 then _ else _) _ _ s
 rw [O8 (by lia)]
 refine Pb (wpAny_specialOf ht.typeIs DR ?_)
 rw [O8 (show ¬ ((some (Value.builtin "tuple.__getitem__")).isNone = true) from QS)]
 refine Pb (wpAny_mkInt ?_)
 have p63:(2:Int) ^ 63 = 9223372036854775808:=by decide
 have p62:(2:Int) ^ 62 = 4611686018427387904:=by decide
 have hsz:=(Array.getElem?_eq_some_iff.mp hx).1
 have hix:seqIndex? (i:Int) items.size = some i:=by
  unfold seqIndex?
  simp
  lia
 refine Pb (wpAny_attempt (getItem_tuple (s:={ s with toks:=s.toks + 1 }) (j:=i) ht (by lia) (by lia) hix hx ?_))
 dsimp only
 refine Pb (QF (s:={ s with toks:=s.toks + 1 }) ho hd (x:=rawInt (i:Int)) rfl ?_)
 show wpAny _ _ (setField (.ref it) 1 (rawInt ((i:Int) - 1)) >>= _) _ _ _
 refine Pb (wpAny_setField (s:={ s with toks:=s.toks + 1 }) ho hd (by simp) ?_)
 refine Pj ⟨x,rfl,Pj (hQ _ _ ?_ (Heap.SameBut.update ..))⟩
 exact ⟨_,RQ _ ho (Obj.isFreed_of_fields (RG hd _)),(Obj.cls_mapFields ..).trans hc,by rw [RG hd];simp⟩
theorem F2 {it t:Addr} {Q:Option Value -> Shared -> Prop} (hh:A.handled = none) (hit:IsRev s.heap it t (-1)) (hQ:∀ h',Heap.ExtBut it s.heap h' -> Q none { s with heap:=h' }):wpAny (model prog w) A (pyNext (.ref it)) Q E s:=by
 obtain ⟨o,ho,hc,hd⟩:=id hit
 unfold pyNext
 refine Pb (wpAny_attempt (RB (name:=Str.ofString "__next__") hit.typeIs slot_next (Q8 slot_next hit.typeIs uW ?_ (yp _))))
 unfold Builtin.«reversed.__next__»
 refine Pb (Q0 (a:=(Value.ref it,[])) rfl ?_)
 try dsimp only
 refine Pb (QF ho hd (x:=.ref t) rfl ?_)
 refine Pb (QF ho hd (x:=rawInt (-1)) rfl ?_)
 show wpAny _ _ (if (-1:Int) < 0 then _ else _) _ _ s
 rw [O7 (by decide)]
 refine Pb (Qx ?_)
 refine Pb ?_
 refine Pb (wpAny_setField ho hd (by simp) ?_)
 have ho':=RQ (h:=s.heap) (Obj.mapFields (·.setIfInBounds 1 (rawInt (-1)))) ho (Obj.isFreed_of_fields (RG hd _))
 have hd':=RG hd (·.setIfInBounds 1 (rawInt (-1)))
 refine wpAny_setField (s:={ s with heap:=s.heap.update it (Obj.mapFields (·.setIfInBounds 1 (rawInt (-1)))) }) ho' hd' (by simp) ?_
 first
 | show wpAny _ _ (newExc (.type "StopIteration") [] >>= _) _ _ _
 | (refine Pb ?_;show wpAny _ _ (newExc (.type "StopIteration") [] >>= _) _ _ _)
 refine Pb ?_
 simp only [newExc,newTuple]
 refine Pb (Qn ?_ (by size_fits))
 refine Pb (m:=firstArgMember _ _) (Q0 (a:=Value.none) (by first | rfl | (simp only [firstArgMember];rfl)) ?_)
 refine Qn ?_ (by size_fits)
 simp only [raiseNew]
 refine Pb (wpAny_handled ?_)
 first | rw [show A.in1.handled = none from hh] | rw [hh]
 refine Pb (Pj (wpAny_throw ?_))
 refine Pb (wpAny_isInstance (T := "StopIteration") (b:=true) ⟨_,PP _ rfl,rfl⟩ isSubtype_stop ?_)
 exact Pj (hQ _ ((((Heap.SameBut.update ..).trans (Heap.SameBut.update ..)).extBut.push _).push _))
theorem yn {it t:Addr} {i:Int} {Q:Value -> Shared -> Prop} (hit:IsRev s.heap it t i) (h:Q (.ref it) s):wpAny (model prog w) A (pyIter (.ref it)) Q E s:=by
 refine wpAny_pyIter_slot hit.typeIs xx (Q8 xx hit.typeIs BB ?_ (Eu _))
 show wpAny _ _ (ret (.ref it)) _ _ s
 exact Pj ⟨_,rfl, "reversed",_,hit.typeIs,slot_next.lookup,h⟩
end
theorem C5:mroOf (.type "reversed") = pure [.type "reversed",.type "object"]:=by rw [mroOf_type];kernel_rfl
theorem Fn:typeLookup (.type "reversed") "__new__" = pure (some (.builtin "reversed.__new__")):=by rw [Rb,Rc];kernel_rfl
theorem EG:Slot "reversed" "__init__" "object.__init__" := .of (owner := "object") (n := "__init__") (by rw [Rb,Rc];kernel_rfl) (by decide +kernel) (by decide +kernel) (by decide +kernel) (by first | exact .inl (by decide +kernel) | exact .inr (by decide +kernel)) (by rw [Re];kernel_rfl)
theorem Cp:TypeCalled "reversed" "reversed.__new__" "object.__init__" := ⟨by decide +kernel,by decide +kernel,⟨_,_,C5⟩,madeBy_type C5 Fn (by decide +kernel),by decide +kernel,by rw [Re];kernel_rfl,EG⟩
theorem zl (a:Value):checkTypeCall "reversed" ⟨[a],[]⟩ = pure ():=by kernel_rfl
theorem Bd (a:Value):checkBuiltinCall "reversed.__new__" ⟨[.type "reversed",a],[]⟩ = pure ():=by kernel_rfl
theorem Fj:entryFor table "reversed.__new__" = some Builtin.«reversed.__new__»:=entryFor_of_tree (by kernel_rfl)
theorem y7 (a:Value):Builtin.SmallTypes.newClass "reversed" ⟨[.type "reversed",a],[]⟩ = pure (.type "reversed",[a]):=by
 unfold Builtin.SmallTypes.newClass
 simp only [isType,sub_self,pure_bind,Bool.not_true,Bool.false_eq_true,if_false]
theorem Fa (t:Addr) (items:Array Value) (hz:(items.size:Int) < 2 ^ 63):Meets (Builtin.«reversed.__new__» ⟨[.type "reversed",.ref t],[]⟩) (fun _ R s=>IsTup s.heap t items /\ R (.ok (.ret (.ref s.heap.objs.size))) { s with heap:=s.heap.push (wG t ((items.size:Int) - 1)),toks:=s.toks + 1 + 1 }):=
 .of_wp fun prog w A R s h=>by
  obtain ⟨ht,h⟩:=h
  unfold Builtin.«reversed.__new__»
  refine Pb (Q0 (y7 _) ?_)
  try dsimp only
  refine Pb (Q0 (a:=()) (by first | rfl | kernel_rfl) ?_)
  refine Pb (Q0 (a:=()) (by first | rfl | kernel_rfl) ?_)
  try dsimp only
  refine Pb (wpAny_specialOf ht.typeIs Kk ?_)
  try dsimp only
  refine Pb (Pb (wpAny_isInstance (T := "tuple") (b:=false) ht.typeIs HX ?_))
  rw [O8 QS]
  refine Pb (wpAny_specialOf ht.typeIs DR ?_)
  refine (show wpAny _ _ (pure true) _ _ _ from Pj ?_)
  show wpAny _ _ (if (!true) = true then _ else _) _ _ _
  rw [O8 (by decide)]
  refine Pb (len_tuple ht hz ?_)
  show wpAny _ _ (Builtin.SmallTypes.newRecord (.type "reversed") [.ref t,rawInt ((items.size:Int) - 1)] >>= _) _ _ _
  refine Pb (Qn (data:=.fields #[.ref t,rawInt ((items.size:Int) - 1)]) ?_ (by size_fits))
  exact Pj ⟨_,rfl,h⟩
theorem Gh {prog:Program} {w:World} {A:Around} {E:Value -> Shared -> Prop} {s:Shared} {t:Addr} {items:Array Value} {Q:Value -> Shared -> Prop} (ht:IsTup s.heap t items) (hz:(items.size:Int) < 2 ^ 63)
  (h:Q (.ref s.heap.objs.size) { s with heap:=s.heap.push (wG t ((items.size:Int) - 1)),toks:=s.toks + 1 + 1 }):wpAny (model prog w) A (call (.type "reversed") [.ref t]) Q E s:=
 callType_new Cp (by decide) (zl _) (Bd _) (fun obj=>F.args_object_init_2 obj _) Fj (Fa t items hz) ⟨ht,⟨_,PP _ rfl,rfl⟩,h⟩
end RevT
namespace L2
open PySem PySem.Spec PyProof.Rows
def Itv (K:W.Frag) (a:Addr) (xs:List V):It:=
 ⟨fun i H=>SqT K H a xs /\ ∃ x,xs.reverse[i]? = some x,fun i H x H'=>H' = H /\ xs.reverse[i]? = some x,fun i H=>SqT K H a xs /\ xs.length = i⟩
def Mx (K:W.Frag) (ta:TA):TI:=fun σ H R=>ta σ H fun vs H1=>∃ a xs,vs = [.ref a] /\ SqT K H1 a xs /\ R (Itv K a xs) H1
section
variable {X:Cx} {tg:Expr}
theorem Gq {P:Program} {w:World} {K:W.Frag} (a it:Addr) (xs:List V):Turn P w K tg (Itv K a xs) [it] it (fun i h=>RevT.IsRev h it a ((xs.length:Int) - 1 - (i:Nat))) where
 mem:=by simp
 obj:=fun i h st b hb=>by
  rw [Pe.mp hb]
  obtain ⟨o,e,c,d⟩:=st
  exact ⟨o,e,fun v z=>by rw [d] at z;cases z⟩
 keep:=fun i h h' st k=>by
  obtain ⟨o,e,r⟩:=st
  exact ⟨o,k it (by simp) _ e,r⟩
 item:=by
  intro X hP hw hK hc i pins s σ H E I hf st hg
  subst hP hw hK
  obtain ⟨hq,x,hx⟩:=hg
  obtain ⟨its,rv,p,hz⟩:=I.tuple hq
  have hi:i < xs.length:=by have:=(Pw.mp hx).1;simpa using this
  have hx':xs[xs.length - 1 - i]? = some x:=by rw [Rf hi] at hx;exact hx
  obtain ⟨u,hu,ru⟩:=rv.get hx'
  obtain ⟨f0,f1,f2,f3,f4,f5⟩:=hf it (by simp)
  have e:(xs.length:Int) - 1 - (i:Nat) = ((xs.length - 1 - i:Nat):Int):=by lia
  have hn:(sizeLine:Nat) < 2 ^ 60:=by rw [Qa];decide
  have p62:(2:Int) ^ 62 = 4611686018427387904:=by decide
  rw [e] at st
  refine RevT.En st p (x:=u) (by simpa using hu) (by lia) fun h' tk st' sb=>?_
  have I1:Inv X pins σ H { s with heap:=h',toks:=tk }:=I.turned (fun b o hb e=>(sb.2 b hb).trans e) f0 f1 f3 f4 f5
  have st2:RevT.IsRev h' it a ((xs.length:Int) - 1 - ((i + 1:Nat):Int)):=by
   have e2:(xs.length:Int) - 1 - ((i + 1:Nat):Int) = ((xs.length - 1 - i:Nat):Int) - 1:=by lia
   rw [e2];exact st'
  obtain ⟨o,e,c,d⟩:=id st'
  exact ⟨u,rfl,wL (s:={ s with heap:=h',toks:=tk }) e c d (by decide) ⟨x,H,I1,ru,⟨rfl,hx⟩,st2,fun b hb=>(hf b hb).1⟩⟩
 done:=by
  intro X hP hw hK hc i pins s σ H E I hf st hg
  subst hP hw hK
  obtain ⟨hq,hx⟩:=hg
  obtain ⟨f0,f1,f2,f3,f4,f5⟩:=hf it (by simp)
  have e:(xs.length:Int) - 1 - (i:Nat) = -1:=by lia
  rw [e] at st
  exact RevT.F2 (I.ok.hd hc) st fun h' eb=>⟨rfl,I.turned (t':=s.toks) (fun b o hb e=>eb b o hb e) f0 f1 f3 f4 f5⟩
 self:=fun _ _ _ _ _ st h=>RevT.yn st h
theorem JS {a:Expr} {ta:TA} {p pos:Pos} (hg:Gl X "reversed") (hm:X.mg "reversed" = none) (ha:PA X [a] ta) (hs:starEach [a] X.env = [(false,eval a X.env)]:=by rfl):PI X tg (.Call (.Name "reversed" p) [a] [] pos) (Mx X.K ta):=by
 intro pins s σ H R I h
 refine Call_ (nq I hg hm sV (Q3 (thn (ha pos pins s σ H _ I h) fun us s1 h1=>?_) hs rfl))
 obtain ⟨vs,H1,I1,r1,t,xs,rfl,hq,q⟩:=h1
 obtain ⟨u,rfl,rx⟩:=z8 r1
 cases rx
 obtain ⟨its,rv,p,hz⟩:=I1.tuple hq
 have hlen:=rv.length
 have hn:=pE
 refine RevT.Gh p (by simp only [Px] <;> lia) ?_
 have I2:Inv X pins σ H1 { s1 with heap:=s1.heap.push (RevT.wG t ((its.toArray.size:Int) - 1)),toks:=s1.toks + 1 + 1 }:=I1.kept fun b o e=>Pu _ e
 have st:RevT.IsRev (s1.heap.push (RevT.wG t ((its.toArray.size:Int) - 1))) s1.heap.objs.size t ((xs.length:Int) - 1 - ((0:Nat):Int)):=by
  refine ⟨_,PP _ rfl,rfl,?_⟩
  have e:(xs.length:Int) - 1 - ((0:Nat):Int) = (its.toArray.size:Int) - 1:=by simp [hlen]
  rw [e];rfl
 refine RevT.yn (s:={ s1 with heap:=s1.heap.push (RevT.wG t ((its.toArray.size:Int) - 1)),toks:=s1.toks + 1 + 1 }) st ?_
 refine ⟨s1.heap.objs.size,[s1.heap.objs.size],_,_,H1,rfl,I2,Gq t _ xs,st,fun b hb=>?_,q⟩
 rw [Pe.mp hb]
 exact I1.fpOk (Pf _) I1.fresh
end
end L2
namespace M
open PySem L2
section
variable {K:W.Frag} {S S' H H':Hp}
def Mq:List D -> Option (List D)
 | [.tup l]=>some l.reverse | _=>none
@[simp] def ya (a:XA):XA:=fun ρ=>(a ρ).bind Mq
theorem LL {t:TA} {a:XA} (h:SAP K t a):SI K (Mx K t) (ya a):=fun ρ σ S H R l r x k=>by
 unfold ya at x
 cases q:a ρ with
 | none=>rw [q] at x;cases x
 | some ds=>
  rw [q] at x
  dsimp only [Option.bind] at x
  unfold Mq at x
  split at x
  ·rename_i l'
   cases x
   refine h ρ σ S H _ _ r q fun vs S1 H1 z1 d1=>?_
   cases d1 with
   | cons a1 d1=>
    cases d1
    rcases a1 with a1 | ⟨l2,_,_,e,_⟩
    ·obtain ⟨p,xs,rfl,h1,h2⟩:=iP a1
     refine ⟨p,xs,rfl,ba z1.sub h1,k _ S1 H1 z1 fun S' H' s1 s2=>⟨fun i d hd=>?_,ba (s1.trans s2) h1,by rw [Q1];exact h2.length.symm⟩⟩
     have hi:i < l'.length:=by have:=(Pw.mp hd).1;simpa using this
     rw [Rf hi] at hd
     obtain ⟨y,e1,e2⟩:=h2.get hd
     have hl:=h2.length
     have e3:xs.reverse[i]? = some y:=by rw [Rf (by lia)];rw [<- e1];congr 2;lia
     refine ⟨⟨ba (s1.trans s2) h1,y,e3⟩,fun x H'' hy=>⟨hy.1,?_⟩⟩
     have:=hy.2
     rw [e3] at this
     cases this
     exact e2.mono s1
    ·cases e
  ·cases x
end
end M
namespace L2
open PySem
section
variable {X:Cx} {e:Expr} {pos p p':Pos} {ta:TE} {T:Addr} {N:Str} {ans:List (Str × Bool)}
end
end L2
namespace M
open PySem L2
section
variable {K:W.Frag} {S S' H H':Hp}
@[simp] def Oq (ans:List (Str × Bool)) (e:XE):XE:=fun ρ=>(e ρ).bind fun d=>match d with | .ins N _ _=>(ans.lookup N).map .bl | _=>none
end
end M
namespace L2
open PySem PySem.Spec PyProof.Rows Builtin Builtin.ObjectAttr Builtin.Getset_descriptor
section
variable {prog:Program} {w:World} {A:Around} {E:Value -> Shared -> Prop} {s:Shared} {K:W.Frag} {C a:Addr}
end
end L2
namespace L2
open PySem PySem.Spec PyProof.Rows
section
variable {H H':Hp} {B h0 h h':Heap} {fs:List Addr}
end
section
variable {X:Cx} {pins:List (Addr × Obj)} {σ:St} {H:Hp} {s:Shared} {E:XK} {B:Heap} {e:Addr} {cls a0:Value}
end
section
variable {P:Program} {w:World} {K:W.Frag} {mg:Str -> Option Value} {base:Heap} {N:List Str} {qual:Str} {scope:Scope} {f:Addr} {cdv:Value} {A:Around} {outer:List Env} {s:Shared} {H:Hp} {E:XK}
end
section
variable {X:Cx} {E:XK} {x:Str} {e:Expr} {te:TE} {np cpos pos:Pos}
end
section
variable {X:Cx} {pins:List (Addr × Obj)} {σ:St} {H H':Hp} {s s':Shared} {e:Addr}
end
section
variable {X:Cx} {body suite:List Stmt} {b0:Stmt} {x n:Str} {i:Nat} {L:List Str} {tb:XK -> TS} {ts:TS} {np hp pos:Pos}
end
section
variable {X:Cx} {e:Expr} {pos p p':Pos} {i:Nat} {N:Str} {ans:List (Str × Bool)} {vv:V} {u:Value}
end
end L2
namespace M
open PySem L2
section
variable {K:W.Frag} {S S' H H':Hp}
inductive RO where
 | rz (N:Str) | nx (ρ:Env)
abbrev XR:=Env -> Option RO
variable {E:XK}
@[simp] def Nh:XR:=fun ρ=>some (.nx ρ)
@[simp] def MI (N:Str):XR:=fun _=>some (.rz N)
@[simp] def OG (c:XT) (m n:XR):XR:=fun ρ=>(c ρ).bind fun b=>if b = true then m ρ else n ρ
@[simp] def NT (m n:XR):XR:=fun ρ=>(m ρ).bind fun o=>match o with | .nx ρ'=>n ρ' | .rz N=>some (.rz N)
@[simp] def NF (m:XR):XR:=fun ρ=>(m ρ).bind fun o=>match o with | .nx _=>none | .rz N=>some (.rz N)
@[simp] def xrE (m:Env -> Option Str):XR:=fun ρ=>(m ρ).map .rz
@[simp] def MY (m:List D -> Option Str) (a:XA):Env -> Option Str:=fun ρ=>(a ρ).bind m
def IX (N:Str):List (List (Str × Bool)) -> Option (List Bool)
 | []=>some []
 | a :: l=>(a.lookup N).bind fun b=>(IX N l).map fun bs=>b :: bs
def IQ (i:Nat) (N:Str):List (Nat × List (List (Str × Bool))) -> Env -> Option Env
 | [],ρ=>some ρ
 | p :: l,ρ=>if p.1 = i then none else (IX N p.2).bind fun bs=>if bs.length <= 1000 then IQ i N l (ρ.set p.1 (.sh (.lst (bs.map .bl)))) else none
@[simp] def OV (L:List Str) (i:Nat) (m:XR) (l:List (Nat × List (List (Str × Bool)))):XS:=fun ρ=>if i < ρ.length then (m ρ).bind fun o=>match o with
 | .rz N=>if L.contains N then (IQ i N l (ρ.map fun _=>.un)).map fun ρ'=>.nx (ρ'.set i .un) else none
 | .nx ρ'=>some (.nx ρ') else none
end
end M
namespace L2
open PySem PySem.Spec PyProof.Rows
section
variable {X:Cx} {tg:Expr}
end
end L2
namespace M
open PySem L2
section
variable {K:W.Frag} {S S' H H':Hp}
def Nz:List D -> Option (List D)
 | [.int i,.int j]=>some (fR i (j - i).toNat)
 | _=>none
@[simp] def Ov (a:XA):XA:=fun ρ=>(a ρ).bind Nz
end
end M
namespace L2
open PySem PySem.Spec PyProof.Rows
section
variable {X:Cx} {tg:Expr}
end
end L2
namespace M
open PySem L2
section
variable {K:W.Frag} {S S' H H':Hp}
def Kb (x:Str):List D:=x.cps.toList.map fun c=>D.str ⟨#[c]⟩
def sgD:D -> Option (List D)
 | .str x=>some (Kb x)
 | _=>none
@[simp] def O5 (e:XE):XA:=fun ρ=>(e ρ).bind sgD
def Nd (d:D) (lo hi:Option Int):Option D:=match d with
 | .str x=>if x.length <= LIM then some (.str (Txt.slice x lo hi)) else none
 | _=>none
@[simp] def OI (a:XE) (lo hi:XO):XE:=fun ρ=>(a ρ).bind fun d=>(lo ρ).bind fun l=>(hi ρ).bind fun h=>Nd d l h
end
end M
namespace L2
open PySem
end L2
namespace L2
open PySem PySem.Spec PyProof.Rows
section
variable {X:Cx}
inductive PJ (X:Cx):List Expr -> List TE -> Prop
 | nil:PJ X [] []
 | cons {e:Expr} {t:TE} {es:List Expr} {ts:List TE}:PE X e t -> PJ X es ts -> PJ X (e :: es) (t :: ts)
end
end L2
namespace M
open PySem L2
section
variable {K:W.Frag} {S S' H H':Hp}
def fvD:D -> Option D
 | .int i=>if i.natAbs.log2 < 1920 then some (.str (toString i)) else none
 | .str y=>if y.length <= LIM then some (.str y) else none
 | _=>none
@[simp] def xFv (e:XE):XE:=fun ρ=>(e ρ).bind fvD
inductive SJ (K:W.Frag):List TE -> List XE -> Prop
 | nil:SJ K [] []
 | cons {t:TE} {a:XE} {ts:List TE} {as:List XE}:SPk K t a -> SJ K ts as -> SJ K (t :: ts) (a :: as)
end
end M
namespace L2
open PySem PySem.Spec PyProof.Rows
section
variable {M:Model} {A:Around} {Ex:Value -> Shared -> Prop} {s:Shared}
end
section
variable {P:Program} {w:World} {K:W.Frag} {mg:Str -> Option Value} {base:Heap} {N:List Str} {qual:Str} {scope:Scope} {f:Addr} {cdv:Value} {A:Around} {outer:List Env} {s:Shared} {H:Hp} {E:XK}
end
section
variable {X:Cx} {pins:List (Addr × Obj)} {σ:St} {H:Hp} {s:Shared} {XN N:List Str} {sc scope:Scope} {js:List (Option Nat)}
variable {tg iter elt:Expr} {ifs:List Expr} {pos:Pos} {wi:TI} {g:TG} {tt:TIf} {te:TE} {E:XK}
end
section
variable {X:Cx}
end
end L2
namespace M
open PySem L2
section
variable {K:W.Frag} {S S' H H':Hp} {E:XK}
@[simp] def OL (m:XS):XR:=fun ρ=>match m ρ with | some (.nx ρ')=>some (.nx ρ') | _=>none
@[simp] def O3 (n:Env -> Option Str) (m:XS):XR:=fun ρ=>match n ρ with | some N=>some (.rz N) | none=>(match m ρ with | some (.nx ρ')=>some (.nx ρ') | _=>none)
@[simp] def Nr (m:Env -> Option Str):Env -> Option Str:=m
@[simp] def Nq (e:XE) (m:Env -> Option Str):Env -> Option Str:=fun ρ=>(e ρ).bind fun _=>m ρ
@[simp] def OO (n:Env -> Option Str) (e:XE) (m:Env -> Option Str):Env -> Option Str:=fun ρ=>match n ρ with | some N=>some N | none=>(e ρ).bind fun _=>m ρ
@[simp] def Ow (i:Nat) (m:Env -> Option Str):Env -> Option Str:=fun ρ=>match ρ[i]? with | some (.ow (.lst _))=>m ρ | _=>none
def GZ (g:XG) (c:XT) (e:XE) (n:Env -> Option Str) (ρ0:Env):List D -> Option Str
 | []=>none
 | d :: l=>(g d ρ0).bind fun ρ1=>(c ρ1).bind fun b=>if b = true then (match n ρ1 with | some N=>some N | none=>(e ρ1).bind fun _=>GZ g c e n ρ0 l) else GZ g c e n ρ0 l
@[simp] def Nm (js:List (Option Nat)) (w:XA) (g:XG) (c:XT) (e:XE) (n:Env -> Option Str):Env -> Option Str:=fun ρ=>(w ρ).bind fun l=>if l.length <= LIM then GZ g c e n (zg js ρ) l else none
def Jh (g:XG) (m:XR):List D -> Env -> Option RO
 | [],ρ=>some (.nx ρ)
 | d :: l,ρ=>(g d ρ).bind fun ρ1=>(m ρ1).bind fun o=>match o with | .nx ρ2=>Jh g m l ρ2 | .rz N=>some (.rz N)
@[simp] def Ob (e:XA) (g:XG) (m:XR):XR:=fun ρ=>(e ρ).bind fun l=>Jh g m l ρ
end
end M
namespace L2
open PySem
structure Ak (CX:CXT) (n:Nat) (x:Str) (ps:List Str) (sp:W.Frag -> Sp) (P:Program) (w:World) (K:W.Frag) (mg:Str -> Option Value) (base:Heap) (f:Addr) (fd:FuncData):Prop where
 G:FnOk P w K mg base CX n f fd ps (sp K)
 m:mg x = some (.ref f)
 k:W.keepIn K (.ref f) = true
 b:Binds K fd ps []
structure Am (n:Nat) (x:Str) (Ns:List Str) (ps:List Str) (sp:W.Frag -> Sp) (P:Program) (w:World) (K:W.Frag) (mg:Str -> Option Value) (base:Heap) (f:Addr) (fd:FuncData):Prop where
 G:FnOk P w K mg base CX0 n f fd ps (sp K)
 b:Binds K fd ps []
 cm:vE K Ns fun C=>Cls K C /\ Meth K C x f
structure Ac (CX:CXT) (n:Nat) (x:Str) (ps:List Str) (sp:W.Frag -> Sp) (P:Program) (w:World) (K:W.Frag) (mg:Str -> Option Value) (base:Heap) (c f:Addr) (fd:FuncData):Prop where
 G:FnOk P w K mg base CX n f fd ps (sp K)
 b:Binds K fd ps []
 n:W.nsIn K mainGlobals x = some (some (.ref c))
 M:Mk K c f
 g:mg x = some (.ref c)
structure Ab (n:Nat) (x:Str) (ps:List Str) (sp:W.Frag -> Sp) (P:Program) (w:World) (K:W.Frag) (mg:Str -> Option Value) (base:Heap) (c f:Addr) (fd:FuncData):Prop where
 G:FnOk P w K mg base CX0 n f fd ps (sp K)
 b:Binds K fd ps []
 cf:ClsFn K c "__init__" f
 g:mg x = some (.ref c)
theorem usS {us:List Value} {n:Nat} (h:us.length = n + 1):∃ a v,us = a :: v /\ v.length = n:=by
 cases us with
 | nil=>cases h
 | cons a v=>exact ⟨a,v,rfl,Nat.succ.inj h⟩
theorem us1 {us:List Value} (h:us.length = 1):∃ a0,us = [a0]:=by
 obtain ⟨a0,v0,rfl,h0⟩:=usS h
 cases v0 with
 | nil=>exact ⟨a0,rfl⟩
 | cons a v=>cases h0
theorem us2 {us:List Value} (h:us.length = 2):∃ a0 a1,us = [a0,a1]:=by
 obtain ⟨a0,v0,rfl,h0⟩:=usS h
 obtain ⟨a1,v1,rfl,h1⟩:=usS h0
 cases v1 with
 | nil=>exact ⟨a0,a1,rfl⟩
 | cons a v=>cases h1
theorem us3 {us:List Value} (h:us.length = 3):∃ a0 a1 a2,us = [a0,a1,a2]:=by
 obtain ⟨a0,v0,rfl,h0⟩:=usS h
 obtain ⟨a1,v1,rfl,h1⟩:=usS h0
 obtain ⟨a2,v2,rfl,h2⟩:=usS h1
 cases v2 with
 | nil=>exact ⟨a0,a1,a2,rfl⟩
 | cons a v=>cases h2
theorem us5 {us:List Value} (h:us.length = 5):∃ a0 a1 a2 a3 a4,us = [a0,a1,a2,a3,a4]:=by
 obtain ⟨a0,v0,rfl,h0⟩:=usS h
 obtain ⟨a1,v1,rfl,h1⟩:=usS h0
 obtain ⟨a2,v2,rfl,h2⟩:=usS h1
 obtain ⟨a3,v3,rfl,h3⟩:=usS h2
 obtain ⟨a4,v4,rfl,h4⟩:=usS h3
 cases v4 with
 | nil=>exact ⟨a0,a1,a2,a3,a4,rfl⟩
 | cons a v=>cases h4
theorem vS {K:W.Frag} {P:Addr -> Prop}:vE K [] P:=fun _ h=>by cases h
theorem cA {K:W.Frag} {P:Addr -> Prop} {N:Str} {Ns:List Str} {c:Addr} (h:W.nsIn K mainGlobals N = some (some (.ref c))) (p:P c) (r:vE K Ns P):vE K (N :: Ns) P:=fun M hM C hC=>by
 rcases Pn.mp hM with rfl | hM
 ·rw [h] at hC
  cases hC
  exact p
 ·exact r M hM C hC
end L2
namespace L2
open PySem PySem.Spec PyProof.Rows M
section
variable {X:Cx}
end
end L2
namespace M
open PySem L2
section
variable {K:W.Frag}
end
end M
namespace L2
open PySem PySem.Spec PyProof.Rows
def JJ (a c:Int) (n:Nat):It:=⟨fun i _=>i < n,fun i H x H'=>H' = H /\ x = .int (a + i * c),fun i _=>n <= i⟩
def IH (ta:TA):TI:=fun σ H R=>ta σ H fun vs H1=>∃ a j c:Int,vs = [.int a,.int j,.int c] /\ c ≠ 0 /\ (-1000000 < c /\ c < 1000000) /\ Builtin.Range.small a j c = true /\ R (JJ a c (Builtin.Range.rangeSize a j c).toNat) H1
section
variable {X:Cx} {tg:Expr}
theorem D9 {P:Program} {w:World} {K:W.Frag} (it:Addr) (a c:Int) (n:Nat):Turn P w K tg (JJ a c n) [it] it (fun i h=>IsRangeIter h it (a + (i:Nat) * c) ((n:Int) - (i:Nat)) c) where
 mem:=by simp
 obj:=fun i h st b hb=>by
  rw [Pe.mp hb]
  exact ⟨_,st,fun v z=>by have z':Data.fields _ = Data.cell v:=z;cases z'⟩
 keep:=fun i h h' st k=>k it (by simp) _ st
 item:=by
  intro X hP hw hK hc i pins s σ H E I hf st hg
  subst hP hw hK
  obtain ⟨f0,f1,f2,f3,f4,f5⟩:=hf it (by simp)
  refine (Walks.range (prog:=X.prog) (w:=X.w) (I.ok.hd hc) it a c n).item i s _ _ hg st fun v h' tk hv st' kk=>?_
  obtain ⟨t,rfl⟩:=hv
  have I1:Inv X pins σ H { s with heap:=h',toks:=tk }:=I.turned (fun b o hb e=>kk b o (fun z=>hb (Pe.mp z)) e) f0 f1 f3 f4 f5
  exact ⟨_,rfl,wL (s:={ s with heap:=h',toks:=tk }) (n := "range_iterator") st' rfl rfl (by decide) ⟨.int (a + i * c),H,I1,⟨t,rfl⟩,⟨rfl,rfl⟩,st',fun b hb=>(hf b hb).1⟩⟩
 done:=by
  intro X hP hw hK hc i pins s σ H E I hf st hg
  subst hP hw hK
  obtain ⟨f0,f1,f2,f3,f4,f5⟩:=hf it (by simp)
  exact RJ (I.ok.hd hc) st (by have:n <= i:=hg;lia) fun h' eb=>⟨rfl,I.turned (t':=s.toks) (fun b o hb e=>eb b o hb e) f0 f1 f3 f4 f5⟩
 self:=fun _ _ _ _ _ st h=>RK st h
theorem HM {pins:List (Addr × Obj)} {σ:St} {H:Hp} {s:Shared} {R:It -> Hp -> Prop} {E:Value -> Shared -> Prop} {a j c:Int} {t u v:Tok} {tk:Nat} (I:Inv X pins σ H s) (hs:Builtin.Range.small a j c = true) (q:R (JJ a c (Builtin.Range.rangeSize a j c).toNat) H) :
  wpAny (model X.prog X.w) X.A (pyIter (.ref s.heap.objs.size)) (PIE X pins σ tg R) E { s with heap:=s.heap.push { cls:=.type "range",data:=.fields #[.int a t,.int j u,.int c v] },toks:=tk }:=by
 refine wpAny_pyIter_range (IsRange.new ..) hs ?_
 have I1:Inv X pins σ H { s with heap:=s.heap.push { cls:=.type "range",data:=.fields #[.int a t,.int j u,.int c v] },toks:=tk }:=I.kept fun b o e=>Pu _ e
 refine ⟨(s.heap.push { cls:=.type "range",data:=.fields #[.int a t,.int j u,.int c v] }).objs.size,[(s.heap.push { cls:=.type "range",data:=.fields #[.int a t,.int j u,.int c v] }).objs.size],_,_,H,rfl,I1.kept (t':=tk) fun b o e=>Pu _ e,D9 _ a c (Builtin.Range.rangeSize a j c).toNat,?_,fun b hb=>?_,q⟩
 ·have e1:a + ((0:Nat):Int) * c = a:=by simp
  have e2:(((Builtin.Range.rangeSize a j c).toNat:Nat):Int) - ((0:Nat):Int) = Builtin.Range.rangeSize a j c:=by rw [<- rangeSize_toNat];simp
  show IsRangeIter _ _ (a + ((0:Nat):Int) * c) ((((Builtin.Range.rangeSize a j c).toNat:Nat):Int) - ((0:Nat):Int)) c
  rw [e1,e2]
  exact PP _ rfl
 ·rw [Pe.mp hb]
  exact I1.fpOk (Pf _) I1.fresh
theorem Ez {a b c:Expr} {ta:TA} {p pos:Pos} (hg:Gl X "range") (hm:X.mg "range" = none) (ha:PA X [a,b,c] ta) (hs:starEach [a,b,c] X.env = (false,eval a X.env) :: starEach [b,c] X.env:=by rfl)
  (hp:(backTo pos (starEach [b,c] X.env)).any (·.1) = false:=by rfl):PI X tg (.Call (.Name "range" p) [a,b,c] [] pos) (IH ta):=by
 intro pins s σ H R I h
 refine Call_ (nq I hg hm boot_range (Q3 (thn (ha pos pins s σ H _ I h) fun us s1 h1=>?_) hs hp))
 obtain ⟨vs,H1,I1,r1,x,j,y,rfl,q1,⟨q3,q4⟩,q2,q⟩:=h1
 cases r1 with
 | cons r rr=>
  cases rr with
  | cons r' rr=>
   cases rr with
   | cons r'' rr=>
    cases rr
    obtain ⟨t,rfl⟩:=r
    obtain ⟨t',rfl⟩:=r'
    obtain ⟨t'',rfl⟩:=r''
    exact call_range_3 q1 (HM I1 q2 q)
end
end L2
namespace M
open PySem L2
section
variable {K:W.Frag} {S H:Hp}
def wo (a c:Int) (n:Nat):List D:=(List.range n).map fun i:Nat=>D.int (a + (i:Int) * c)
def FA:List D -> Option (List D)
 | [.int a,.int j,.int c]=>ifC (c ≠ 0 /\ (-1000000 < c /\ c < 1000000) /\ Builtin.Range.small a j c = true) (some (wo a c (Builtin.Range.rangeSize a j c).toNat)) none
 | _=>none
@[simp] def DA (a:XA):XA:=fun ρ=>(a ρ).bind FA
theorem Kj {t:TA} {a:XA} (h:SAP K t a):SI K (IH t) (DA a):=fun ρ σ S H R l r x k=>by
 unfold DA at x
 cases q:a ρ with
 | none=>rw [q] at x;cases x
 | some ds=>
  rw [q] at x
  dsimp only [Option.bind] at x
  unfold FA at x
  split at x
  ·rename_i aa j bb
   obtain ⟨⟨h1,h3,h2⟩,rfl⟩:=jt x
   refine h ρ σ S H _ _ r q fun vs S1 H1 z1 d1=>?_
   cases d1 with
   | cons a1 d1=>cases d1 with
    | cons a2 d1=>cases d1 with
     | cons a3 d1=>
      cases d1
      refine ⟨aa,j,bb,by rw [a1.int,a2.int,a3.int],h1,h3,h2,k _ S1 H1 z1 fun S' H' _ _=>⟨fun i d h=>?_,by unfold wo;rw [Pc,QA];exact Pf _⟩⟩
      unfold wo at h
      rw [PB] at h
      cases qi:(List.range (Builtin.Range.rangeSize aa j bb).toNat)[i]? with
      | none=>rw [qi] at h;cases h
      | some i'=>
       rw [qi] at h
       cases h
       obtain ⟨hi,e⟩:=Pw.mp qi
       rw [List.getElem_range] at e
       subst e
       rw [QA] at hi
       exact ⟨hi,fun x H'' y=>⟨y.1,den_int.mpr y.2⟩⟩
  ·cases x
end
end M
namespace L2
open PySem PySem.Spec PyProof.Rows
section
variable {X:Cx}
end
end L2
namespace M
open PySem L2
section
variable {K:W.Frag}
def Li:D -> Option (List D)
 | .int j=>ifC (0 <= j /\ j < 1000000) (some ((List.range j.toNat).map fun i:Nat=>D.int (i:Int))) none
 | _=>none
@[simp] def NN (a:XE):XA:=fun ρ=>(a ρ).bind Li
end
end M
namespace L2
open PySem PySem.Spec PyProof.Rows
section
variable {X:Cx} {pins:List (Addr × Obj)} {σ:List (Option V)} {H H':Hp} {s:Shared} {h':Heap}
end
section
variable {X:Cx}
end
end L2
namespace M
open PySem L2
section
variable {K:W.Frag} {S S' H H':Hp}
def enL (k:Nat):List D -> List D
 | []=>[]
 | d :: l=>.tup [.int (k:Int),d] :: enL (k + 1) l
@[simp] def OS (a:XE):XA:=fun ρ=>(a ρ).bind fun d=>match d with | .lst l=>some (enL 0 l) | _=>none
end
end M
namespace L2
open PySem PySem.Spec PyProof.Rows M
section
variable {X:Cx}
end
end L2
namespace M
open PySem L2
section
variable {K:W.Frag}
end
section
variable {K:W.Frag} {S S' H H':Hp}
@[simp] def O1 (i:Nat) (p:XP):XA:=fun ρ=>match ρ[i]? with
 | some (.ow o)=>(p ρ).bind fun is=>match eZ o is with | some (.lst l)=>shs l | _=>none
 | _=>none
end
end M
namespace TL
open PySem PyProof.Rows
section
variable {prog:Program} {w:World} {A:Around} {E:Value -> Shared -> Prop} {s:Shared}
end
end TL
namespace L2
open PySem PySem.Spec PyProof.Rows
section
variable {X:Cx}
end
end L2
namespace M
open PySem L2
section
variable {K:W.Frag}
end
end M
namespace L2
open PySem PySem.Spec PyProof.Rows
section
variable {X:Cx}
end
end L2
namespace M
open PySem L2
section
variable {K:W.Frag}
end
end M
namespace TL
open PySem PyProof.Rows
section
variable {prog:Program} {w:World} {A:Around} {R:Result -> Shared -> Prop} {I:Addr} {fp wr:List Addr} {n:Nat} {P:Nat -> Value -> Prop} {St:Nat -> Heap -> Prop} {h0:Heap}
end
section
variable {prog:Program} {w:World} {A:Around} {E:Value -> Shared -> Prop} {s:Shared}
end
end TL
namespace L2
open PySem PySem.Spec PyProof.Rows
section
variable {X:Cx}
end
end L2
namespace M
open PySem L2
section
variable {K:W.Frag}
end
section
variable {K:W.Frag} {S S' H H':Hp}
end
section
variable {K:W.Frag}
@[simp] def M6 (f g:D -> D -> Option D) (a b c:XE):XE:=fun ρ=>(a ρ).bind fun x=>(b ρ).bind fun y=>(f x y).bind fun z=>match z with
 | .bl true=>(c ρ).bind fun w=>g y w
 | .bl false=>some (.bl false)
 | _=>none
end
end M
namespace L2
open PySem PySem.Spec PyProof.Rows
def Itw (K:W.Frag) (a:Addr) (xs:List V):It:=
 ⟨fun i H=>SqL K H a xs /\ ∃ x,xs.reverse[i]? = some x,fun i H x H'=>H' = H /\ xs.reverse[i]? = some x,fun i H=>SqL K H a xs /\ xs.length = i⟩
def IM (K:W.Frag) (ta:TA):TI:=fun σ H R=>ta σ H fun vs H1=>∃ a xs,vs = [.ref a] /\ SqL K H1 a xs /\ R (Itw K a xs) H1
section
variable {X:Cx} {tg:Expr}
theorem Ef {P:Program} {w:World} {K:W.Frag} (a it:Addr) (xs:List V):Turn P w K tg (Itw K a xs) [it] it (fun i h=>h.IsRevIter it a ((xs.length:Int) - 1 - (i:Nat))) where
 mem:=by simp
 obj:=fun i h st b hb=>by
  rw [Pe.mp hb]
  obtain ⟨o,e,c,d⟩:=st
  exact ⟨o,e,fun v z=>by rw [d] at z;cases z⟩
 keep:=fun i h h' st k=>st.at fun o e=>k it (by simp) o e
 item:=by
  intro X hP hw hK hc i pins s σ H E I hf st hg
  subst hP hw hK
  obtain ⟨hq,x,hx⟩:=hg
  obtain ⟨its,rv,p,hz⟩:=I.list hq
  have hi:i < xs.length:=by have:=(Pw.mp hx).1;simpa using this
  have hx':xs[xs.length - 1 - i]? = some x:=by rw [Rf hi] at hx;exact hx
  obtain ⟨u,hu,ru⟩:=rv.get hx'
  obtain ⟨f0,f1,f2,f3,f4,f5⟩:=hf it (by simp)
  have e:(xs.length:Int) - 1 - (i:Nat) = ((xs.length - 1 - i:Nat):Int):=by lia
  rw [e] at st
  refine wpAny_pyNext_rev_item st p.isList (x:=u) (by simpa using hu) fun h' st' sb=>?_
  have I1:Inv X pins σ H { s with heap:=h' }:=I.turned (t':=s.toks) (fun b o hb e=>(sb.2 b hb).trans e) f0 f1 f3 f4 f5
  have st2:h'.IsRevIter it a ((xs.length:Int) - 1 - ((i + 1:Nat):Int)):=by
   have e2:(xs.length:Int) - 1 - ((i + 1:Nat):Int) = ((xs.length - 1 - i:Nat):Int) - 1:=by lia
   rw [e2];exact st'
  obtain ⟨o,e,c,d⟩:=id st'
  exact ⟨u,rfl,wL (s:={ s with heap:=h' }) e c d (by decide) ⟨x,H,I1,ru,⟨rfl,hx⟩,st2,fun b hb=>(hf b hb).1⟩⟩
 done:=by
  intro X hP hw hK hc i pins s σ H E I hf st hg
  subst hP hw hK
  obtain ⟨hq,hx⟩:=hg
  obtain ⟨f0,f1,f2,f3,f4,f5⟩:=hf it (by simp)
  have e:(xs.length:Int) - 1 - (i:Nat) = -1:=by lia
  rw [e] at st
  exact wpAny_pyNext_rev_end (I.ok.hd hc) st fun h' eb=>⟨rfl,I.turned (t':=s.toks) (fun b o hb e=>eb b o hb e) f0 f1 f3 f4 f5⟩
 self:=fun _ _ _ _ _ st h=>wpAny_pyIter_revIter st h
theorem Hy {a:Expr} {ta:TA} {p pos:Pos} (hg:Gl X "reversed") (hm:X.mg "reversed" = none) (ha:PA X [a] ta) (hs:starEach [a] X.env = [(false,eval a X.env)]:=by rfl):PI X tg (.Call (.Name "reversed" p) [a] [] pos) (IM X.K ta):=by
 intro pins s σ H R I h
 refine Call_ (nq I hg hm sV (Q3 (thn (ha pos pins s σ H _ I h) fun us s1 h1=>?_) hs rfl))
 obtain ⟨vs,H1,I1,r1,t,xs,rfl,hq,q⟩:=h1
 obtain ⟨u,rfl,rx⟩:=z8 r1
 cases rx
 obtain ⟨its,rv,lp,hz⟩:=I1.list hq
 have hlen:=rv.length
 refine call_reversed_list lp.isList ?_
 have I2:Inv X pins σ H1 { s1 with heap:=s1.heap.push (revObj t ((its.toArray.size:Int) - 1)) }:=I1.kept (t':=s1.toks) fun b o e=>Pu _ e
 have st:(s1.heap.push (revObj t ((its.toArray.size:Int) - 1))).IsRevIter s1.heap.objs.size t ((xs.length:Int) - 1 - ((0:Nat):Int)):=by
  refine ⟨_,PP _ rfl,rfl,?_⟩
  have e:(xs.length:Int) - 1 - ((0:Nat):Int) = (its.toArray.size:Int) - 1:=by simp [hlen]
  rw [e];rfl
 refine wpAny_pyIter_revIter (s:={ s1 with heap:=s1.heap.push (revObj t ((its.toArray.size:Int) - 1)) }) st ?_
 refine ⟨s1.heap.objs.size,[s1.heap.objs.size],_,_,H1,rfl,I2,Ef t _ xs,st,fun b hb=>?_,q⟩
 rw [Pe.mp hb]
 exact I1.fpOk (Pf _) I1.fresh
end
end L2
namespace M
open PySem L2
section
variable {K:W.Frag} {S S' H H':Hp}
def IG:List D -> Option (List D)
 | [.lst l]=>some l.reverse | _=>none
@[simp] def DB (a:XA):XA:=fun ρ=>(a ρ).bind IG
theorem KB {t:TA} {a:XA} (h:SA K t a):SI K (IM K t) (DB a):=fun ρ σ S H R l r x k=>by
 unfold DB at x
 cases q:a ρ with
 | none=>rw [q] at x;cases x
 | some ds=>
  rw [q] at x
  dsimp only [Option.bind] at x
  unfold IG at x
  split at x
  ·rename_i l'
   cases x
   refine h ρ σ S H _ _ r q fun vs S1 H1 z1 d1=>?_
   obtain ⟨v,ys,rfl,a1,e0⟩:=d1
   have e0:ys = []:=e0
   subst e0
   obtain ⟨p,xs,rfl,h1,h2⟩:=den_lst.mp a1
   refine ⟨p,xs,rfl,.inl (cR z1.sub h1),k _ S1 H1 z1 fun S' H' s1 s2=>⟨fun i d hd=>?_,.inl (cR (s1.trans s2) h1),by rw [Q1];exact h2.length.symm⟩⟩
   have hi:i < l'.length:=by have:=(Pw.mp hd).1;simpa using this
   rw [Rf hi] at hd
   obtain ⟨y,e1,e2⟩:=h2.get hd
   have hl:=h2.length
   have e3:xs.reverse[i]? = some y:=by rw [Rf (by lia)];rw [<- e1];congr 2;lia
   refine ⟨⟨.inl (cR (s1.trans s2) h1),y,e3⟩,fun x H'' hy=>⟨hy.1,?_⟩⟩
   have:=hy.2
   rw [e3] at this
   cases this
   exact e2.mono s1
  ·cases x
end
end M
namespace Rw
abbrev R:=List (Int × Int)
def Mem (r:R) (x:Int):Prop:=∃ p ∈ r,p.1 <= x /\ x <= p.2
def Ok (r:R):Prop:=∀ p ∈ r,p.1 <= p.2
def bc (r:R):Prop:=Ok r /\ r.Pairwise fun p q=>p.2 + 2 <= q.1
theorem bn (x:Int):¬ Mem [] x:=by rintro ⟨p,h,_⟩;cases h
theorem mem_cons (p:Int × Int) (r:R) (x:Int):Mem (p :: r) x ↔ (p.1 <= x /\ x <= p.2) \/ Mem r x:=by
 constructor
 ·rintro ⟨q,h,e⟩
  rcases Pn.mp h with rfl | h
  ·exact .inl e
  ·exact .inr ⟨q,h,e⟩
 ·rintro (e | ⟨q,h,e⟩)
  ·exact ⟨p,Pg,e⟩
  ·exact ⟨q,Pi _ h,e⟩
theorem mem_append (r t:R) (x:Int):Mem (r ++ t) x ↔ Mem r x \/ Mem t x:=by
 constructor
 ·rintro ⟨q,h,e⟩
  rcases Po.mp h with h | h
  ·exact .inl ⟨q,h,e⟩
  ·exact .inr ⟨q,h,e⟩
 ·rintro (⟨q,h,e⟩ | ⟨q,h,e⟩)
  ·exact ⟨q,Pv _ h,e⟩
  ·exact ⟨q,Pm _ h,e⟩
theorem GR {r t:R} (h:r.Perm t) (x:Int):Mem r x ↔ Mem t x:=
 ⟨fun ⟨q,m,e⟩=>⟨q,h.mem_iff.mp m,e⟩,fun ⟨q,m,e⟩=>⟨q,h.mem_iff.mpr m,e⟩⟩
theorem mem_filter (r:R) (x:Int):Mem (r.filter fun p=>decide (p.1 <= p.2)) x ↔ Mem r x:=by
 constructor
 ·rintro ⟨q,m,e⟩
  exact ⟨q,(PN.mp m).1,e⟩
 ·rintro ⟨q,m,e⟩
  exact ⟨q,PN.mpr ⟨m,by simp;lia⟩,e⟩
theorem di:bc []:=⟨fun _ h=>(by cases h),.nil⟩
theorem canon_cons {p:Int × Int} {r:R}:bc (p :: r) ↔ p.1 <= p.2 /\ (∀ q ∈ r,p.2 + 2 <= q.1) /\ bc r:=by
 constructor
 ·rintro ⟨h1,h2⟩
  have h3:=QL.mp h2
  exact ⟨h1 p Pg,h3.1,fun q hq=>h1 q (Pi _ hq),h3.2⟩
 ·rintro ⟨h1,h2,h3,h4⟩
  refine ⟨fun q hq=>?_,QL.mpr ⟨h2,h4⟩⟩
  rcases Pn.mp hq with rfl | hq
  ·exact h1
  ·exact h3 q hq
theorem eG {p:Int × Int} {r:R} (c:bc (p :: r)) {x:Int} (h:Mem r x):p.2 + 2 <= x:=by
 obtain ⟨q,m,e,_⟩:=h
 have:=(canon_cons.mp c).2.1 q m
 lia
theorem xV {p:Int × Int} {r:R} (c:bc (p :: r)) {x:Int} (h:Mem (p :: r) x):p.1 <= x:=by
 rcases (mem_cons p r x).mp h with h | h
 ·exact h.1
 ·have:=eG c h
  have:=(canon_cons.mp c).1
  lia
theorem Gd:∀ {r t:R},bc r -> bc t -> (∀ x,Mem r x ↔ Mem t x) -> r = t
 | [],[],_,_,_=>rfl
 | [],q :: t,_,ct,h=>by
  have:=(h q.1).mpr ((mem_cons ..).mpr (.inl ⟨Pl _,(canon_cons.mp ct).1⟩))
  exact (bn _ this).elim
 | p :: r,[],cr,_,h=>by
  have:=(h p.1).mp ((mem_cons ..).mpr (.inl ⟨Pl _,(canon_cons.mp cr).1⟩))
  exact (bn _ this).elim
 | p :: r,q :: t,cr,ct,h=>by
  have hp:=(canon_cons.mp cr).1
  have hq:=(canon_cons.mp ct).1
  have a1:q.1 <= p.1:=xV ct ((h p.1).mp ((mem_cons ..).mpr (.inl ⟨Pl _,hp⟩)))
  have a2:p.1 <= q.1:=xV cr ((h q.1).mpr ((mem_cons ..).mpr (.inl ⟨Pl _,hq⟩)))
  have e1:p.1 = q.1:=by lia
  have n1:¬ Mem (p :: r) (p.2 + 1):=fun m=>by
   rcases (mem_cons ..).mp m with m | m
   ·lia
   ·have:=eG cr m;lia
  have n2:¬ Mem (q :: t) (q.2 + 1):=fun m=>by
   rcases (mem_cons ..).mp m with m | m
   ·lia
   ·have:=eG ct m;lia
  have e2:p.2 = q.2:=by
   by_cases l1:p.2 < q.2
   ·exact (n1 ((h _).mpr ((mem_cons ..).mpr (.inl ⟨by lia,by lia⟩)))).elim
   ·by_cases l2:q.2 < p.2
    ·exact (n2 ((h _).mp ((mem_cons ..).mpr (.inl ⟨by lia,by lia⟩)))).elim
    ·lia
  have e:p = q:=by
   obtain ⟨a,b⟩:=p
   obtain ⟨c,d⟩:=q
   simp only at e1 e2
   rw [e1,e2]
  subst e
  have ih:r = t:=Gd (canon_cons.mp cr).2.2 (canon_cons.mp ct).2.2 fun x=>by
   constructor
   ·intro m
    rcases (mem_cons ..).mp ((h x).mp ((mem_cons ..).mpr (.inr m))) with k | k
    ·have:=eG cr m;lia
    ·exact k
   ·intro m
    rcases (mem_cons ..).mp ((h x).mpr ((mem_cons ..).mpr (.inr m))) with k | k
    ·have:=eG ct m;lia
    ·exact k
  rw [ih]
def step (acc:R) (p:Int × Int):R:=
 match acc.getLast? with
 | none=>[p]
 | some q=>if p.1 <= q.2 + 1 then acc.dropLast ++ [(q.1,if p.2 > q.2 then p.2 else q.2)] else acc ++ [p]
def oI (l:R):R:=l.foldl step []
theorem wd (p:Int × Int):step [] p = [p]:=rfl
theorem nD (t:R) (q p:Int × Int):step (t ++ [q]) p = if p.1 <= q.2 + 1 then t ++ [(q.1,if p.2 > q.2 then p.2 else q.2)] else t ++ [q] ++ [p]:=by
 unfold step
 simp
theorem canon_snoc {t:R} {q:Int × Int}:bc (t ++ [q]) ↔ bc t /\ q.1 <= q.2 /\ ∀ p ∈ t,p.2 + 2 <= q.1:=by
 constructor
 ·rintro ⟨h1,h2⟩
  have h3:=PZ.mp h2
  exact ⟨⟨fun p hp=>h1 p (Pv _ hp),h3.1⟩,h1 q (Pm _ Pg),fun p hp=>h3.2.2 p hp q Pg⟩
 ·rintro ⟨⟨h1,h2⟩,h3,h4⟩
  refine ⟨fun p hp=>?_,PZ.mpr ⟨h2,.cons (fun _ h=>(by cases h)) .nil,fun p hp x hx=>?_⟩⟩
  ·rcases Po.mp hp with hp | hp
   ·exact h1 p hp
   ·rw [Pe.mp hp];exact h3
  ·rw [Pe.mp hx];exact h4 p hp
theorem DE {acc:R} {p:Int × Int} (c:bc acc) (hp:p.1 <= p.2) (lo:∀ q ∈ acc,q.1 <= p.1) :
  bc (step acc p) /\ (∀ x,Mem (step acc p) x ↔ Mem acc x \/ (p.1 <= x /\ x <= p.2)) /\ (∀ q ∈ step acc p,q.1 <= p.1):=by
 rcases Qi acc with rfl | ⟨t,q,rfl⟩
 ·rw [wd]
  refine ⟨canon_cons.mpr ⟨hp,fun _ h=>(by cases h),di⟩,fun x=>?_,fun q hq=>?_⟩
  ·rw [mem_cons]
   constructor
   ·rintro (h | h)
    ·exact .inr h
    ·exact .inl h
   ·rintro (h | h)
    ·exact .inr h
    ·exact .inl h
  ·rw [Pe.mp hq];exact Pl _
 ·rw [Qo] at *
  obtain ⟨ct,hq,ht⟩:=canon_snoc.mp c
  have lq:q.1 <= p.1:=lo q (Pm _ Pg)
  rw [nD]
  by_cases h:p.1 <= q.2 + 1
  ·rw [O7 h]
   have m:∀ z,(if p.2 > q.2 then p.2 else q.2) = z -> q.2 <= z /\ p.2 <= z /\ (z = p.2 \/ z = q.2):=fun z e=>by
    split at e <;> lia
   obtain ⟨m1,m2,m3⟩:=m _ rfl
   generalize (if p.2 > q.2 then p.2 else q.2) = z at *
   refine ⟨canon_snoc.mpr ⟨ct,by dsimp only;lia,ht⟩,fun x=>?_,fun s hs=>?_⟩
   ·rw [mem_append,mem_append,mem_cons,mem_cons]
    dsimp only
    constructor
    ·rintro (k | k | k)
     ·exact .inl (.inl k)
     ·by_cases hx:x <= q.2
      ·exact .inl (.inr (.inl ⟨k.1,hx⟩))
      ·right;lia
     ·exact (bn _ k).elim
    ·rintro ((k | k | k) | k)
     ·exact .inl k
     ·right;left;lia
     ·exact (bn _ k).elim
     ·right;left;lia
   ·rcases Po.mp hs with hs | hs
    ·exact lo s (Pv _ hs)
    ·rw [Pe.mp hs];exact lq
  ·rw [O8 h]
   refine ⟨canon_snoc.mpr ⟨c,hp,fun s hs=>?_⟩,fun x=>?_,fun s hs=>?_⟩
   ·rcases Po.mp hs with hs | hs
    ·have:=ht s hs;lia
    ·rw [Pe.mp hs];lia
   ·rw [mem_append,mem_cons]
    constructor
    ·rintro (k | k | k)
     ·exact .inl k
     ·exact .inr k
     ·exact (bn _ k).elim
    ·rintro (k | k)
     ·exact .inl k
     ·exact .inr (.inl k)
   ·rcases Po.mp hs with hs | hs
    ·exact lo s hs
    ·rw [Pe.mp hs];exact Pl _
theorem DM:∀ (l:R) (acc:R),bc acc -> Ok l -> l.Pairwise (fun p q=>p.1 <= q.1) -> (∀ q ∈ acc,∀ p ∈ l,q.1 <= p.1) ->
  bc (l.foldl step acc) /\ ∀ x,Mem (l.foldl step acc) x ↔ Mem acc x \/ Mem l x
 | [],acc,c,_,_,_=>⟨c,fun x=>⟨fun h=>.inl h,fun h=>h.elim id fun k=>(bn _ k).elim⟩⟩
 | p :: l,acc,c,o,w,lo=>by
  obtain ⟨w1,w2⟩:=QL.mp w
  obtain ⟨c1,m1,l1⟩:=DE c (o p Pg) fun q hq=>lo q hq p Pg
  obtain ⟨c2,m2⟩:=DM l (step acc p) c1 (fun q hq=>o q (Pi _ hq)) w2 fun q hq s hs=>by
   have:=l1 q hq
   have:=w1 s hs
   lia
  refine ⟨c2,fun x=>?_⟩
  show Mem (l.foldl step (step acc p)) x ↔ _
  rw [m2,m1,mem_cons,or_assoc]
def Jj (ps r:R):Prop:=bc r /\ ∀ x,Mem r x ↔ Mem ps x
theorem Gu {l ps:R} (o:Ok l) (w:l.Pairwise fun p q=>p.1 <= q.1) (h:∀ x,Mem l x ↔ Mem ps x):Jj ps (oI l):=by
 obtain ⟨c,m⟩:=DM l [] di o w fun _ h=>(by cases h)
 exact ⟨c,fun x=>by
  show Mem (l.foldl step []) x ↔ _
  rw [m x,<- h x]
  exact ⟨fun k=>k.elim (fun z=>(bn _ z).elim) id,.inr⟩⟩
def oM (r:R) (lo hi:Int):R:=r.map fun p=>(p.1 + lo,p.2 + hi)
theorem Eb (r:R) (lo hi x:Int):Mem (oM r lo hi) x ↔ ∃ p ∈ r,p.1 + lo <= x /\ x <= p.2 + hi:=by
 constructor
 ·rintro ⟨q,m,e⟩
  obtain ⟨p,hp,rfl⟩:=Pq.mp m
  exact ⟨p,hp,e⟩
 ·rintro ⟨p,hp,e⟩
  exact ⟨_,Pq.mpr ⟨p,hp,rfl⟩,e⟩
theorem Ft {r:R} (o:Ok r) {lo hi:Int} (hl:lo <= hi):Ok (oM r lo hi):=fun q m=>by
 obtain ⟨p,hp,rfl⟩:=Pq.mp m
 have:=o p hp
 dsimp only
 lia
end Rw
namespace Rw
def dH:R -> R -> R
 | [],_=>[]
 | _ :: _,[]=>[]
 | p :: s,q :: t=>(if max p.1 q.1 <= min p.2 q.2 then [(max p.1 q.1,min p.2 q.2)] else []) ++ (if p.2 < q.2 then dH s (q :: t) else dH (p :: s) t)
termination_by s t=>s.length + t.length
theorem eD (s:R):dH s [] = []:=by cases s <;> simp [dH]
theorem fh (t:R):dH [] t = []:=by simp [dH]
theorem DV:∀ (n:Nat) (s t:R),s.length + t.length = n -> ∀ r ∈ dH s t,(∃ p ∈ s,p.1 <= r.1 /\ r.2 <= p.2) /\ (∃ q ∈ t,q.1 <= r.1 /\ r.2 <= q.2) /\ r.1 <= r.2:=by
 intro n
 induction n using Nat.strongRecOn with
 | ind n ih=>
  intro s t hn r hr
  match s,t with
  | [],t=>rw [fh] at hr;cases hr
  | p :: s,[]=>rw [eD] at hr;cases hr
  | p :: s,q :: t=>
   rw [dH] at hr
   rcases Po.mp hr with hr | hr
   ·split at hr
    ·rename_i h
     rw [Pe.mp hr]
     refine ⟨⟨p,Pg,?_,?_⟩,⟨q,Pg,?_,?_⟩,h⟩ <;> dsimp only <;> lia
    ·cases hr
   ·split at hr
    ·obtain ⟨⟨p',h1,h2⟩,h3⟩:=ih (s.length + (q :: t).length) (by simp at hn ⊢;lia) s (q :: t) rfl r hr
     exact ⟨⟨p',Pi _ h1,h2⟩,h3⟩
    ·obtain ⟨h1,⟨q',h2,h3⟩,h4⟩:=ih ((p :: s).length + t.length) (by simp at hn ⊢;lia) (p :: s) t rfl r hr
     exact ⟨h1,⟨q',Pi _ h2,h3⟩,h4⟩
theorem G5:∀ (n:Nat) (s t:R),s.length + t.length = n -> bc s -> bc t -> ∀ x,Mem (dH s t) x ↔ Mem s x /\ Mem t x:=by
 intro n
 induction n using Nat.strongRecOn with
 | ind n ih=>
  intro s t hn cs ct x
  match s,t with
  | [],t=>rw [fh];exact ⟨fun h=>(bn _ h).elim,fun h=>(bn _ h.1).elim⟩
  | p :: s,[]=>rw [eD];exact ⟨fun h=>(bn _ h).elim,fun h=>(bn _ h.2).elim⟩
  | p :: s,q :: t=>
   have hp:=(canon_cons.mp cs).1
   have hq:=(canon_cons.mp ct).1
   have cs':=(canon_cons.mp cs).2.2
   have ct':=(canon_cons.mp ct).2.2
   have first:Mem (if max p.1 q.1 <= min p.2 q.2 then [(max p.1 q.1,min p.2 q.2)] else []) x ↔ (p.1 <= x /\ x <= p.2) /\ (q.1 <= x /\ x <= q.2):=by
    split
    ·rw [mem_cons]
     constructor
     ·rintro (h | h)
      ·dsimp only at h;lia
      ·exact (bn _ h).elim
     ·intro h
      left
      dsimp only
      lia
    ·constructor
     ·intro h;exact (bn _ h).elim
     ·intro h;lia
   rw [dH,mem_append,first]
   split
   ·rename_i hlt
    rw [ih (s.length + (q :: t).length) (by simp at hn ⊢;lia) s (q :: t) rfl cs' ct x,mem_cons p s,mem_cons q t]
    constructor
    ·rintro (h | ⟨h1,h2⟩)
     ·exact ⟨.inl h.1,.inl h.2⟩
     ·exact ⟨.inr h1,h2⟩
    ·rintro ⟨h1 | h1,h2 | h2⟩
     ·exact .inl ⟨h1,h2⟩
     ·have:=eG ct h2;lia
     ·exact .inr ⟨h1,.inl h2⟩
     ·exact .inr ⟨h1,.inr h2⟩
   ·rename_i hge
    rw [ih ((p :: s).length + t.length) (by simp at hn ⊢;lia) (p :: s) t rfl cs ct' x,mem_cons p s,mem_cons q t]
    constructor
    ·rintro (h | ⟨h1,h2⟩)
     ·exact ⟨.inl h.1,.inl h.2⟩
     ·exact ⟨h1,.inr h2⟩
    ·rintro ⟨h1 | h1,h2 | h2⟩
     ·exact .inl ⟨h1,h2⟩
     ·exact .inr ⟨.inl h1,h2⟩
     ·have:=eG cs h1;lia
     ·exact .inr ⟨.inr h1,h2⟩
theorem CV:∀ (n:Nat) (s t:R),s.length + t.length = n -> bc s -> bc t -> bc (dH s t):=by
 intro n
 induction n using Nat.strongRecOn with
 | ind n ih=>
  intro s t hn cs ct
  match s,t with
  | [],t=>rw [fh];exact di
  | p :: s,[]=>rw [eD];exact di
  | p :: s,q :: t=>
   have cs':=(canon_cons.mp cs).2.2
   have ct':=(canon_cons.mp ct).2.2
   rw [dH]
   have rest:bc (if p.2 < q.2 then dH s (q :: t) else dH (p :: s) t) /\ ∀ r ∈ (if p.2 < q.2 then dH s (q :: t) else dH (p :: s) t),min p.2 q.2 + 2 <= r.1:=by
    split
    ·rename_i hlt
     refine ⟨ih (s.length + (q :: t).length) (by simp at hn ⊢;lia) s (q :: t) rfl cs' ct,fun r hr=>?_⟩
     obtain ⟨⟨p',h1,h2,_⟩,_⟩:=DV _ s (q :: t) rfl r hr
     have:=(canon_cons.mp cs).2.1 p' h1
     lia
    ·rename_i hge
     refine ⟨ih ((p :: s).length + t.length) (by simp at hn ⊢;lia) (p :: s) t rfl cs ct',fun r hr=>?_⟩
     obtain ⟨_,⟨q',h1,h2,_⟩,_⟩:=DV _ (p :: s) t rfl r hr
     have:=(canon_cons.mp ct).2.1 q' h1
     lia
   split
   ·rename_i h
    exact canon_cons.mpr ⟨h,rest.2,rest.1⟩
   ·rw [List.nil_append];exact rest.1
theorem qC:∀ (n:Nat) (s t:R),s.length + t.length = n -> (dH s t).length <= s.length + t.length:=by
 intro n
 induction n using Nat.strongRecOn with
 | ind n ih=>
  intro s t hn
  match s,t with
  | [],t=>rw [fh];simp
  | p :: s,[]=>rw [eD];simp
  | p :: s,q :: t=>
   rw [dH,Ph]
   have h1:(if max p.1 q.1 <= min p.2 q.2 then [(max p.1 q.1,min p.2 q.2)] else []).length <= 1:=by split <;> simp
   have h2:(if p.2 < q.2 then dH s (q :: t) else dH (p :: s) t).length + 1 <= (p :: s).length + (q :: t).length:=by
    split
    ·have:=ih (s.length + (q :: t).length) (by simp at hn ⊢;lia) s (q :: t) rfl
     simp at this ⊢;lia
    ·have:=ih ((p :: s).length + t.length) (by simp at hn ⊢;lia) (p :: s) t rfl
     simp at this ⊢;lia
   lia
def fE:List Int -> R
 | a :: b :: t=>(a,b - 1) :: fE t
 | _=>[]
def kQ (x:Int) (l:List Int):Nat:=l.countP fun c=>decide (c <= x)
theorem nF (x c:Int) (l:List Int):kQ x (c :: l) = kQ x l + if c <= x then 1 else 0:=by
 unfold kQ
 rw [List.countP_cons]
 by_cases h:c <= x <;> simp [h]
theorem rD {x:Int} {l:List Int} (h:∀ c ∈ l,x < c):kQ x l = 0:=by
 unfold kQ
 rw [List.countP_eq_zero]
 intro c hc
 have:=h c hc
 simp;lia
theorem uI:∀ (n:Nat) (l:List Int),l.length = 2 * n -> l.Pairwise (· <= ·) -> ∀ x,Mem (fE l) x ↔ kQ x l % 2 = 1
 | 0,l,h,_,x=>by
  have:l = []:=QK.mp (by lia)
  subst this
  exact ⟨fun h=>(bn _ h).elim,fun h=>by simp [kQ] at h⟩
 | n + 1,l,h,w,x=>by
  match l,h with
  | a :: b :: t,h=>
   obtain ⟨w1,w2⟩:=QL.mp w
   obtain ⟨w3,w4⟩:=QL.mp w2
   have hab:=w1 b Pg
   have ih:=uI n t (by simp at h;lia) w4 x
   rw [fE,mem_cons,ih,nF,nF]
   dsimp only
   by_cases hb:b <= x
   ·rw [O7 hb,O7 (by lia)]
    constructor
    ·rintro (k | k) <;> lia
    ·intro k;right;lia
   ·have z:kQ x t = 0:=rD fun c hc=>by have:=w3 c hc;lia
    rw [z,O8 hb]
    by_cases ha:a <= x
    ·rw [O7 ha];lia
    ·rw [O8 ha];lia
theorem Ev {l m:List Int} (h:l.Perm m) (x:Int):kQ x l = kQ x m:=h.countP_eq _
theorem nA (x:Int) (l m:List Int):kQ x (l ++ m) = kQ x l + kQ x m:=List.countP_append
theorem Bi {r:R} (c:bc r) (x:Int):(kQ x (r.map (·.1)) + kQ x (r.map (·.2 + 1))) % 2 = 1 ↔ Mem r x:=by
 induction r with
 | nil=>exact ⟨fun h=>by simp [kQ] at h,fun h=>(bn _ h).elim⟩
 | cons p r ih=>
  obtain ⟨hp,h2,h3⟩:=canon_cons.mp c
  rw [Ps,Ps,nF,nF,mem_cons,<- ih h3]
  by_cases h:p.1 <= x /\ x <= p.2
  ·have z1:kQ x (r.map (·.1)) = 0:=rD fun c hc=>by
    obtain ⟨q,hq,rfl⟩:=Pq.mp hc
    have:=h2 q hq;lia
   have z2:kQ x (r.map (·.2 + 1)) = 0:=rD fun c hc=>by
    obtain ⟨q,hq,rfl⟩:=Pq.mp hc
    have:=h2 q hq;have:=h3.1 q hq;lia
   rw [z1,z2,O7 h.1,O8 (by lia)]
   simp [h]
  ·by_cases h1:p.1 <= x
   ·rw [O7 h1,O7 (by lia)]
    constructor
    ·intro k;right;lia
    ·rintro (k | k)
     ·exact absurd k h
     ·lia
   ·rw [O8 h1,O8 (by lia)]
    constructor
    ·intro k;right;lia
    ·rintro (k | k)
     ·exact absurd k h
     ·lia
theorem GY {r t:R} (cr:bc r) (ct:bc t) (x:Int):kQ x ((r ++ t).map (·.1) ++ (r ++ t).map (·.2 + 1)) % 2 = 1 ↔ ((Mem r x /\ ¬ Mem t x) \/ (Mem t x /\ ¬ Mem r x)):=by
 rw [nA,Qf,Qf,nA,nA,<- Bi cr x,<- Bi ct x]
 lia
def AZ (r t u:R):Prop:=bc u /\ ∀ x,Mem u x ↔ ((Mem r x /\ ¬ Mem t x) \/ (Mem t x /\ ¬ Mem r x))
def FW (r t u:R):Prop:=bc u /\ ∀ x,Mem u x ↔ (Mem r x /\ ¬ Mem t x)
def GV (r t u:R):Prop:=bc u /\ ∀ x,Mem u x ↔ (Mem r x /\ Mem t x)
theorem Hw {r t u v:R} (h:GV r t u) (k:AZ r u v):FW r t v:=⟨k.1,fun x=>by
 rw [k.2 x,h.2 x]
 constructor
 ·rintro (⟨h1,h2⟩ | ⟨h1,h2⟩)
  ·exact ⟨h1,fun z=>h2 ⟨h1,z⟩⟩
  ·exact absurd h1.1 h2
 ·rintro ⟨h1,h2⟩
  exact .inl ⟨h1,fun z=>h2 z.2⟩⟩
def jg (P:Int -> Prop) (L:Int):Nat -> Int
 | 0=>0
 | n + 1=>jg P L n + (by classical exact if P (L + n) then 1 else 0)
end Rw
namespace P
open PySem L2 M
abbrev NS:List Str:=["Box", "Cross", "Shape", "Sum"]
def jm:XS:=aP (xIf (xB (xOp dLt (ag 1) (xCB kh (ad (ag 0) am)))) (bG (xOp dIx (ag 0) (ag 1))) dq) (bG (xC (.int 0)))
def jL:List D -> Option O:=fnO 2 jm
def b7:List D -> Option D:=fun ds=>(jL ds).map O.d
def kf:XS:=aP (xIf (xOr (xB (xOp (dEq false) (xOp gn (ag 0) (xC (.int 2))) (xC (.int 1)))) (xB (xOp (dEq false) (xOp gn (xOp ir (ag 0) (xC (.int 512))) (xC (.int 2))) (xC (.int 1))))) (xIf (zP (xB (xOp dGt (xCB kh (ad (ag 3) am)) (xC (.int 0)))) (xB (xOp (dEq false) (xOp dIx (xOp dIx (ag 3) (xUn gG (xC (.int 1)))) (xC (.int 1))) (xOp gz (ag 1) (xC (.int 1)))))) (Bn 3 xPv (xUn gG (xC (.int 1))) (aW (ad (xOp dIx (xOp dIx (ag 3) (xUn gG (xC (.int 1)))) (xC (.int 0))) (ad (xOp gz (xOp bM (ag 1) (ag 2)) (xC (.int 1))) am)))) (lI 3 xPv (xSh (aW (ad (ar 1) (ad (xOp gz (xOp bM (ag 1) (ag 2)) (xC (.int 1))) am)))))) dq) (aP (bv (xOp ir (ag 0) (xC (.int 2))) (ai 0)) (bv (xOp bM (ag 1) (ag 2)) (ai 1)))
def zp:XS:=aP (oz (nY am) 3) (aP (jy (G0 (ad (xC (.int 8)) am)) (ai 4) (kf)) (bG (xCB fF (ad (ag 3) am))))
def zT:List D -> Option O:=fnO 5 zp
def zr:List D -> Option D:=fun ds=>(zT ds).map O.d
def j9:XS:=aP (xIf (xB (xOp dLt (ag 0) (xC (.int 0)))) (bG (xOp gz (xC (.int 0)) (xOp gn (xOp gz (xC (.int 0)) (ag 0)) (ag 1)))) dq) (bG (xOp gn (ag 0) (ag 1)))
def kH:List D -> Option O:=fnO 2 j9
def kd:List D -> Option D:=fun ds=>(kH ds).map O.d
def rn:XS:=aP (xIf (xB (xOp (dEq false) (ag 0) (aW am))) (bG (xC .non)) dq) (aP (bv (xCB AE (ad (xL (dr [none,none] (xIt (ag 0)) (bi (aq (ai 0) (aq (ai 1) bf))) dl (xOp dIx (xOp dIx (ag 1) (xC (.int 0))) (xC (.int 0))))) am)) (ai 1)) (aP (bv (xCB Bl (ad (xL (dr [none,none] (xIt (ag 0)) (bi (aq (ai 0) (aq (ai 1) bf))) dl (xOp dIx (xOp dIx (ag 1) (xUn gG (xC (.int 1)))) (xC (.int 1))))) am)) (ai 2)) (bG (aW (ad (ar 1) (ad (xOp dIx (xOp dIx (ag 0) (xC (.int 0))) (xC (.int 0))) (ad (ar 2) (ad (xOp dIx (xOp dIx (ag 0) (xUn gG (xC (.int 1)))) (xC (.int 0))) am))))))))
def rT:List D -> Option O:=fnO 3 rn
def uM:List D -> Option D:=fun ds=>(rT ds).map O.d
def dR:XT:=xB (xOp dLt (ag 2) (ag 3))
def dJ:XS:=aP (bv (xOp ir (xOp bM (ag 2) (ag 3)) (xC (.int 2))) (ai 4)) (xIf (xB (xOp dLe (xOp dIx (xOp dIx (ag 0) (ag 4)) (xC (.int 0))) (ag 1))) (bv (xOp bM (ag 4) (xC (.int 1))) (ai 2)) (bv (ar 4) (ai 3)))
def gS:XS:=aP (bv (xC (.int 0)) (ai 2)) (aP (bv (xCB kh (ad (ag 0) am)) (ai 3)) (aP (eg (dR) (dJ)) (bG (ar 2))))
def iZ:List D -> Option O:=fnO 5 gS
def fc:List D -> Option D:=fun ds=>(iZ ds).map O.d
def f6:XS:=aP (bv (xL (dr [none] (xIt (ag 0)) (ai 0) (xB (xOp (dEq false) (xCB kh (ad (ag 0) am)) (xC (.int 1)))) (xOp dIx (ag 0) (xC (.int 0))))) (ai 1)) (aP (bv (xCB fF (ad (xL (dr [none,some 1] (G0 (ad (xC (.int 4)) am)) (ai 0) dl (xCB Fb (ad (xL (dr [none,some 0] (xIt (ag 1)) (ai 0) dl (xOp dIx (ag 0) (ag 1)))) am)))) am)) (ai 2)) (bG (xOp bM (aW (ad (aW (ad (ar 2) am)) am)) (xCB fF (ad (xL (dr [none] (xIt (ag 0)) (ai 0) (xB (xOp dGt (xCB kh (ad (ag 0) am)) (xC (.int 1)))) (ar 0))) am)))))
def hV:List D -> Option O:=fnO 3 f6
def iR:List D -> Option D:=fun ds=>(hV ds).map O.d
def c0:XT:=zP (xB (xOp dLt (ag 3) (xCB kh (ad (ag 0) am)))) (xB (xOp dLt (ag 4) (xCB kh (ad (ag 1) am))))
def b5:XS:=aP (bv (xCB xr (ad (xOp dIx (xOp dIx (ag 0) (ag 3)) (xC (.int 0))) (ad (xOp dIx (xOp dIx (ag 1) (ag 4)) (xC (.int 0))) am))) (ai 5)) (aP (bv (xCB qN (ad (xOp dIx (xOp dIx (ag 0) (ag 3)) (xC (.int 1))) (ad (xOp dIx (xOp dIx (ag 1) (ag 4)) (xC (.int 1))) am))) (ai 6)) (aP (xIf (xB (xOp dLe (ag 5) (ag 6))) (lI 2 xPv (xSh (aW (ad (ar 5) (ad (ar 6) am))))) dq) (xIf (xB (xOp dLt (xOp dIx (xOp dIx (ag 0) (ag 3)) (xC (.int 1))) (xOp dIx (xOp dIx (ag 1) (ag 4)) (xC (.int 1))))) (D0 3 (xC (.int 1)) xz) (D0 4 (xC (.int 1)) xz))))
def iq:XS:=aP (oz (nY am) 2) (aP (bv (xC (.int 0)) (ai 3)) (aP (bv (xC (.int 0)) (ai 4)) (aP (eg (c0) (b5)) (bG (xCB fF (ad (ag 2) am))))))
def jQ:List D -> Option O:=fnO 7 iq
def fU:List D -> Option D:=fun ds=>(jQ ds).map O.d
def jG:XS:=bG (xCB fF (ad (xL (dr [none,none,some 1] (xIt (ag 0)) (bi (aq (ai 0) (aq (ai 1) bf))) dl (aW (ad (xOp bM (ag 0) (ag 2)) (ad (xOp bM (ag 1) (ag 2)) am))))) am))
def ln:List D -> Option O:=fnO 2 jG
def jC:List D -> Option D:=fun ds=>(ln ds).map O.d
def fG:XS:=xIf (zP (wU (ag 1)) (xB (xOp dLe (ag 2) (xOp bM (xOp dIx (xOp dIx (ag 1) (xUn gG (xC (.int 1)))) (xC (.int 1))) (xC (.int 1)))))) (Bn 1 xPv (xUn gG (xC (.int 1))) (aW (ad (xOp dIx (xOp dIx (ag 1) (xUn gG (xC (.int 1)))) (xC (.int 0))) (ad (xCB xr (ad (xOp dIx (xOp dIx (ag 1) (xUn gG (xC (.int 1)))) (xC (.int 1))) (ad (ag 3) am))) am)))) (lI 1 xPv (xSh (aW (ad (ar 2) (ad (ar 3) am)))))
def qU:XS:=aP (oz (nY am) 1) (aP (jy (xIt (xL (BD iE (ad (xL (dr [none,none] (xIt (ag 0)) (bi (aq (ai 0) (aq (ai 1) bf))) (xB (xOp dLe (ag 0) (ag 1))) (aW (ad (ar 0) (ad (ar 1) am))))) am)))) (bi (aq (ai 2) (aq (ai 3) bf))) (fG)) (bG (xCB fF (ad (ag 1) am))))
def si:List D -> Option O:=fnO 4 qU
def kr:List D -> Option D:=fun ds=>(si ds).map O.d
def ez:XS:=bG (xCB fF (ad (xL (dr [none,none] (xIt (ag 0)) (bi (aq (ai 0) (aq (ai 1) bf))) (xB (xOp (dEq true) (ag 1) (aW am))) (aW (ad (ar 0) (ad (ar 1) am))))) am))
def fN:List D -> Option O:=fnO 1 ez
def bC:List D -> Option D:=fun ds=>(fN ds).map O.d
def eV:XS:=DZ 1 xPv (xL (dr [none,none,some 2] (xIt (ag 3)) (bi (aq (ai 0) (aq (ai 1) bf))) dl (aW (ad (ar 2) (ad (ar 0) (ad (ar 1) am))))))
def gy:XS:=aP (oz (nY am) 1) (aP (jy (xIt (ar 0)) (bi (aq (ai 2) (aq (ai 3) bf))) (eV)) (Gp 1))
def fx:List D -> Option O:=fnO 4 gy
def bW:List D -> Option D:=fun ds=>(fx ds).map O.d
def rC:List D -> Option D:=Bt (xB (xOp dLt (xCB C4 (ad (ag 1) (ad (ag 2) (ad (ag 3) (ad (ag 4) am))))) (xC (.int 0)))) (aW (ad (aW (ad (aW (ad (xUn gG (ag 1)) (ad (xUn gG (ag 2)) (ad (ar 3) (ad (ar 4) am))))) am)) am))
def vY:List D -> Option D:=Bt (xB (xOp dLt (ag 1) (xC (.int 0)))) (aW (ad (aW (ad (aW (ad (xUn gG (ag 1)) (ad (xC (.int 0)) (ad (ar 1) (ad (xC (.int 0)) am))))) (ad (aW (ad (xC (.int 0)) (ad (xUn gG (ag 1)) (ad (xC (.int 0)) (ad (ar 1) am))))) am))) am))
def BA:List D -> Option D:=L7 (aH iR (ad (xOp bM (pi NS "parts" (ar 1)) (pi NS "parts" (ar 2))) am))
def fX:XS:=bv (xOp bM (ag 7) (xOp gn (xOp pA (xC (.int 5)) (xOp dIx (ag 0) (ag 8))) (xC (.int 256)))) (ai 7)
def fV:XS:=aP (bv (xOp ir (xOp gn (xOp pA (xOp dIx (ag 0) (xOp bM (xC (.int 2)) (ag 6))) (xC (.int 48271))) (xC (.int 2147483647))) (xC (.int 37))) (ai 7)) (aP (jy (DA (ad (xOp bM (xC (.int 18)) (ag 6)) (ad (xCB qN (ad (xCB kh (ad (ag 0) am)) (ad (xC (.int 98)) am))) (ad (xC (.int 16)) am)))) (ai 8) (fX)) (aP (xIf (xB (xOp (dEq false) (xOp gn (xOp ir (ag 2) (xC (.int 32))) (xC (.int 2))) (xC (.int 1)))) (bv (xOp gn (xOp dIx (ag 0) (xOp bM (xC (.int 2)) (ag 6))) (xC (.int 256))) (ai 7)) dq) (aP (bv (aH zr (ad (ar 7) (ad (ar 3) (ad (ar 1) am)))) (ai 9)) (xIf (xB (xOp dGt (xCB kh (ad (ag 9) am)) (xC (.int 0)))) (lI 5 xPv (xSh (aW (ad (xOp bM (ag 4) (ag 6)) (ad (ar 9) am))))) dq))))
def kT:XS:=aP (bv (aH b7 (ad (ar 0) (ad (xC (.int 0)) am))) (ai 2)) (aP (bv (aH kd (ad (xOp ir (ag 2) (xC (.int 8))) (ad (xOp dIx (xL (nY (ad (xC (.int 9)) (ad (xOp Cy (xC (.int 10)) (xC (.int 58))) am)))) (xOp gn (xOp ir (ag 2) (xC (.int 2))) (xC (.int 2)))) am))) (ai 3)) (aP (bv (aH kd (ad (xOp ir (ag 2) (xC (.int 16))) (ad (xOp dIx (xL (nY (ad (xC (.int 9)) (ad (xOp Cy (xC (.int 10)) (xC (.int 58))) am)))) (xOp gn (xOp ir (ag 2) (xC (.int 4))) (xC (.int 2)))) am))) (ai 4)) (aP (oz (nY am) 5) (aP (jy (G0 (ad (xCB qN (ad (xC (.int 16)) (ad (xOp gz (xCB kh (ad (ag 0) am)) (xC (.int 2))) am))) am)) (ai 6) (fV)) (bG (xCB fF (ad (ag 5) am)))))))
def mB:List D -> Option O:=fnO 10 kT
def pj:List D -> Option D:=fun ds=>(mB ds).map O.d
def fk:XS:=bG (xSl (ag 0) (xE (xCB xr (ad (xC (.int 0)) (ad (xOp gz (aH fc (ad (ar 0) (ad (ar 1) am))) (xC (.int 1))) am)))) (xE (aH fc (ad (ar 0) (ad (ar 2) am)))))
def gE:List D -> Option O:=fnO 3 fk
def bF:List D -> Option D:=fun ds=>(gE ds).map O.d
def bT:XS:=xIf (zP (wU (ag 1)) (xB (xOp (dEq false) (xOp dIx (ag 1) (xUn gG (xC (.int 1)))) (aW (ad (ar 2) (ad (xOp dIx (xOp dIx (ag 1) (xUn gG (xC (.int 1)))) (xC (.int 1))) (ad (ar 3) (ad (xOp gz (ag 4) (xC (.int 1))) am)))))))) (Bn 1 xPv (xUn gG (xC (.int 1))) (aW (ad (ar 2) (ad (xOp dIx (xOp dIx (ag 1) (xUn gG (xC (.int 1)))) (xC (.int 1))) (ad (ar 3) (ad (ar 4) am)))))) (lI 1 xPv (xSh (aW (ad (ar 2) (ad (ar 4) (ad (ar 3) (ad (ar 4) am)))))))
def jF:XS:=aP (oz (nY am) 1) (aP (jy (xIt (xL (BD iE (ad (xL (dr [none,none,none] (xIt (aH bW (ad (ar 0) am))) (bi (aq (ai 0) (aq (ai 1) (aq (ai 2) bf)))) dl (aW (ad (ar 1) (ad (ar 2) (ad (ar 0) am)))))) am)))) (bi (aq (ai 2) (aq (ai 3) (aq (ai 4) bf)))) (bT)) (bG (xCB fF (ad (ag 1) am))))
def kR:List D -> Option O:=fnO 5 jF
def mX:List D -> Option D:=fun ds=>(kR ds).map O.d
def uu:XS:=bG (xCB fF (ad (xL (dr [none,none,some 2,some 1] (xIt (ag 0)) (bi (aq (ai 0) (aq (ai 1) bf))) dl (aW (ad (xOp bM (ag 0) (ag 2)) (ad (aH jC (ad (ar 1) (ad (ar 3) am))) am))))) am))
def vM:List D -> Option O:=fnO 3 uu
def ug:List D -> Option D:=fun ds=>(vM ds).map O.d
def b6:XS:=aP (xIf (xOr (Cr (wU (DK 1))) (xB (xOp (dEq true) (xFl (xOp dIx (xOp dIx (DK 1) (xUn gG (xC (.int 1)))) (xC (.int 0)))) (ag 2)))) (lI 1 xPv (GJ (yU (xSh (ar 2)) (yU (GT Fu) Fu)))) dq) (lI 1 (xPi (xPi xPv (xUn gG (xC (.int 1)))) (xC (.int 1))) (xSh (aW (ad (ar 3) (ad (ar 4) am)))))
def im:XS:=aP (oz (nY am) 1) (aP (jy (xIt (xL (BD iE (ad (xL (dr [none,none,none] (xIt (ag 0)) (bi (aq (ai 0) (aq (ai 1) (aq (ai 2) bf)))) (xB (xOp dLe (ag 1) (ag 2))) (aW (ad (ar 0) (ad (ar 1) (ad (ar 2) am)))))) am)))) (bi (aq (ai 2) (aq (ai 3) (aq (ai 4) bf)))) (b6)) (K9 1 (bG (xCB fF (ad (xL (dr [none,none] (xIt (ar 1)) (bi (aq (ai 0) (aq (ai 1) bf))) dl (aW (ad (ar 0) (ad (aH kr (ad (ar 1) am)) am))))) am)))))
def j5:List D -> Option O:=fnO 5 im
def gw:List D -> Option D:=fun ds=>(j5 ds).map O.d
def kl:XS:=aP (bv (aH fc (ad (ar 0) (ad (ar 1) am))) (ai 2)) (aP (xIf (zP (xB (xOp dGt (ag 2) (xC (.int 0)))) (xB (xOp (dEq false) (xOp dIx (xOp dIx (ag 0) (xOp gz (ag 2) (xC (.int 1)))) (xC (.int 0))) (ag 1)))) (bG (xOp dIx (xOp dIx (ag 0) (xOp gz (ag 2) (xC (.int 1)))) (xC (.int 1)))) dq) (bG (aW am)))
def kb:List D -> Option O:=fnO 3 kl
def g7:List D -> Option D:=fun ds=>(kb ds).map O.d
def iA:XS:=aP (bv (xOp bM (ag 0) (ag 1)) (ai 2)) (aP (bv (xL (BD iE (ad (xOp bM (xL (dr [none,none] (xIt (ag 2)) (bi (aq (ai 0) (aq (ai 1) bf))) dl (ar 0))) (xL (dr [none,none] (xIt (ag 2)) (bi (aq (ai 0) (aq (ai 1) bf))) dl (xOp bM (ag 1) (xC (.int 1)))))) am))) (ai 3)) (bG (aH kr (ad (xL (dr [none,some 3] (FS (ad (xC (.int 0)) (ad (xCB kh (ad (ag 3) am)) (ad (xC (.int 2)) am)))) (ai 0) dl (aW (ad (xOp dIx (ag 1) (ag 0)) (ad (xOp gz (xOp dIx (ag 1) (xOp bM (ag 0) (xC (.int 1)))) (xC (.int 1))) am))))) am))))
def j7:List D -> Option O:=fnO 4 iA
def kZ:List D -> Option D:=fun ds=>(j7 ds).map O.d
def iu:XS:=bG (aH kr (ad (xL (dr [none,none,some 1,some 2] (xIt (ag 0)) (bi (aq (ai 0) (aq (ai 1) bf))) dl (aW (ad (xOp gz (ag 0) (ag 2)) (ad (xOp gz (ag 1) (ag 3)) am))))) am))
def jU:List D -> Option O:=fnO 3 iu
def iw:List D -> Option D:=fun ds=>(jU ds).map O.d
def kF:List D -> Option D:=Bt (xB (xOp (dEq false) (ag 1) (aW am))) (aW (ad (aH mX (ad (ar 1) am)) am))
def qB:XS:=bG (aH bC (ad (xL (dr [none,none,some 1] (xIt (ag 0)) (bi (aq (ai 0) (aq (ai 1) bf))) dl (aW (ad (ar 0) (ad (aH fU (ad (ar 1) (ad (aH g7 (ad (ar 2) (ad (ar 0) am))) am))) am))))) am))
def sd:List D -> Option O:=fnO 2 qB
def q9:List D -> Option D:=fun ds=>(sd ds).map O.d
def zj:XS:=bG (aH gw (ad (xOp bM (aH bW (ad (ar 0) am)) (aH bW (ad (ar 1) am))) am))
def yR:List D -> Option O:=fnO 2 zj
def ww:List D -> Option D:=fun ds=>(yR ds).map O.d
def nK:XS:=aP (bv (aH bF (ad (ar 0) (ad (xOp bM (xOp dIx (ag 1) (xC (.int 1))) (xOp dIx (ag 2) (xC (.int 1)))) (ad (xOp bM (xOp dIx (ag 1) (xC (.int 3))) (xOp dIx (ag 2) (xC (.int 3)))) am)))) (ai 3)) (bG (aH bC (ad (xL (dr [none,none,some 1,some 2] (xIt (ag 3)) (bi (aq (ai 0) (aq (ai 1) bf))) dl (aW (ad (ar 0) (ad (aH bF (ad (ar 1) (ad (xOp bM (xOp dIx (ag 2) (xC (.int 0))) (xOp dIx (ag 3) (xC (.int 0)))) (ad (xOp bM (xOp dIx (ag 2) (xC (.int 2))) (xOp dIx (ag 3) (xC (.int 2)))) am)))) am))))) am)))
def o7:List D -> Option O:=fnO 4 nK
def r9:List D -> Option D:=fun ds=>(o7 ds).map O.d
def kP:XS:=bG (aH kZ (ad (ar 0) (ad (aH fU (ad (ar 0) (ad (ar 1) am))) am)))
def mo:List D -> Option O:=fnO 2 kP
def ld:List D -> Option D:=fun ds=>(mo ds).map O.d
def zH:XS:=bG (aH bC (ad (xL (dr [none,none,some 1] (xIt (ag 0)) (bi (aq (ai 0) (aq (ai 1) bf))) dl (aW (ad (ar 0) (ad (aH ld (ad (ar 1) (ad (aH g7 (ad (ar 2) (ad (ar 0) am))) am))) am))))) am))
def yS:List D -> Option O:=fnO 2 zH
def rF:List D -> Option D:=fun ds=>(yS ds).map O.d
def dG:XT:=xB (xOp dLt (ag 2) (ag 1))
def fv:XS:=aP (bv (xCB qN (ad (xOp bM (ag 2) (xC (.int 1))) (ad (xOp gz (ag 1) (ag 2)) am))) (ai 3)) (aP (bv (aH q9 (ad (ar 0) (ad (aH ug (ad (ar 0) (ad (xC (.int 0)) (ad (xUn gG (ag 3)) am)))) am))) (ai 0)) (D0 2 (ag 3) xz))
def gX:XS:=aP (bv (xC (.int 0)) (ai 2)) (aP (eg (dG) (fv)) (bG (ar 0)))
def i8:List D -> Option O:=fnO 4 gX
def gY:List D -> Option D:=fun ds=>(i8 ds).map O.d
def dQ:XT:=xB (xOp dLt (ag 2) (ag 1))
def fw:XS:=aP (bv (xCB qN (ad (xOp bM (ag 2) (xC (.int 1))) (ad (xOp gz (ag 1) (ag 2)) am))) (ai 3)) (aP (bv (aH ww (ad (ar 0) (ad (aH ug (ad (ar 0) (ad (xC (.int 0)) (ad (ar 3) am)))) am))) (ai 0)) (D0 2 (ag 3) xz))
def gT:XS:=aP (bv (xC (.int 0)) (ai 2)) (aP (eg (dQ) (fw)) (bG (ar 0)))
def iL:List D -> Option O:=fnO 4 gT
def gZ:List D -> Option D:=fun ds=>(iL ds).map O.d
def d7:XS:=aP (bv (xOp gn (ag 0) (xC (.int 5))) (ai 2)) (aP (xIf (xB (xOp (dEq false) (ag 2) (xC (.int 0)))) (bG (lF "Box" "parts" rC (ad (xC (.int 0)) (ad (xC (.int 0)) (ad (ar 1) (ad (xOp gn (xOp ir (ag 0) (xC (.int 5))) (xC (.int 2))) am)))))) dq) (aP (xIf (xB (xOp (dEq false) (ag 2) (xC (.int 1)))) (bG (lF "Box" "parts" rC (ad (xOp pA (xOp gn (xOp ir (ag 0) (xC (.int 5))) (xC (.int 2))) (ag 1)) (ad (xC (.int 1)) (ad (xOp pA (xOp gn (xOp ir (ag 0) (xC (.int 10))) (xC (.int 2))) (ag 1)) (ad (xC (.int 0)) am)))))) dq) (aP (xIf (zP (xB (xOp (dEq false) (ag 2) (xC (.int 2)))) (xB (xOp (dEq false) (ag 1) (xC (.int 1))))) (bG (lF "Cross" "parts" vY (ad (xC (.int 1)) am))) dq) (aP (xIf (xB (xOp (dEq false) (ag 2) (xC (.int 2)))) (bG (lF "Box" "parts" rC (ad (ar 1) (ad (xC (.int 1)) (ad (xC (.int 0)) (ad (xC (.int 1)) am)))))) dq) (aP (xIf (xB (xOp (dEq false) (ag 2) (xC (.int 3)))) (bG (lF "Shape" "parts" kF (ad (aW (ad (aW (ad (xOp gn (xOp ir (ag 0) (xC (.int 5))) (xC (.int 3))) (ad (aW (ad (aW (ad (xC (.int 0)) (ad (xC (.int 0)) am))) am)) am))) (ad (aW (ad (xOp bM (xOp gn (xOp ir (ag 0) (xC (.int 5))) (xC (.int 3))) (xC (.int 1))) (ad (aW (ad (aW (ad (ar 1) (ad (ar 1) am))) am)) am))) am))) am))) dq) (bG (lF "Shape" "parts" kF (ad (aW (ad (aW (ad (xC (.int 0)) (ad (aW (ad (aW (ad (xC (.int 0)) (ad (xC (.int 0)) am))) (ad (aW (ad (xOp pA (xC (.int 2)) (ag 1)) (ad (xOp pA (xC (.int 2)) (ag 1)) am))) am))) am))) (ad (aW (ad (xC (.int 1)) (ad (aW (ad (aW (ad (xOp gz (xC (.int 0)) (ag 1)) (ad (xOp gz (xC (.int 0)) (ag 1)) am))) am)) am))) am))) am))))))))
def wb:List D -> Option O:=fnO 3 d7
def nP:List D -> Option D:=fun ds=>(wb ds).map O.d
def bZ:XS:=aP (bv (xL (dr [none,none,none,some 1] (xIt (aH bW (ad (ar 0) am))) (bi (aq (ai 0) (aq (ai 1) (aq (ai 2) bf)))) dl (aW (ad (xOp bM (ag 0) (xOp dIx (ag 3) (xC (.int 1)))) (ad (xOp bM (ag 1) (xOp dIx (ag 3) (xC (.int 0)))) (ad (xOp bM (ag 2) (xOp dIx (ag 3) (xC (.int 2)))) am)))))) (ai 2)) (aP (xIf (xB (xOp (dEq false) (xOp dIx (ag 1) (xC (.int 1))) (xOp dIx (ag 1) (xC (.int 3))))) (bG (ar 2)) dq) (bG (aH bW (ad (aH gZ (ad (aH gw (ad (ar 2) am)) (ad (xOp gz (xOp dIx (ag 1) (xC (.int 3))) (xOp dIx (ag 1) (xC (.int 1)))) am))) am))))
def cX:List D -> Option O:=fnO 3 bZ
def dA:List D -> Option D:=fun ds=>(cX ds).map O.d
def nQ:XS:=bG (xOp (dEq false) (aH rF (ad (ar 0) (ad (ar 1) am))) (aW am))
def pQ:List D -> Option O:=fnO 2 nQ
def rY:List D -> Option D:=fun ds=>(pQ ds).map O.d
def du:XS:=aP (bv (aH bC (ad (xL (dr [none,none,some 1] (xIt (ag 0)) (bi (aq (ai 0) (aq (ai 1) bf))) dl (aW (ad (xOp gz (ag 0) (xOp dIx (ag 2) (xC (.int 1)))) (ad (aH iw (ad (ar 1) (ad (xOp dIx (ag 2) (xC (.int 0))) (ad (xOp dIx (ag 2) (xC (.int 2))) am)))) am))))) am)) (ai 2)) (bG (aH gY (ad (ar 2) (ad (xOp gz (xOp dIx (ag 1) (xC (.int 3))) (xOp dIx (ag 1) (xC (.int 1)))) am))))
def e7:List D -> Option O:=fnO 3 du
def dD:List D -> Option D:=fun ds=>(e7 ds).map O.d
def cW:XS:=DZ 2 xPv (aH dA (ad (ar 0) (ad (ar 3) am)))
def et:XS:=aP (oz (nY am) 2) (aP (jy (xIt (ar 1)) (ai 3) (cW)) (K9 2 (bG (aH gw (ad (ar 2) am)))))
def fO:List D -> Option O:=fnO 4 et
def fT:List D -> Option D:=fun ds=>(fO ds).map O.d
def bE:XS:=aP (xIf (xB (xOp (dEq false) (ag 2) (aW am))) (bG (aW am)) dq) (bv (aH q9 (ad (ar 2) (ad (aH dD (ad (aH r9 (ad (ar 0) (ad (aH uM (ad (ar 2) am)) (ad (ar 3) am)))) (ad (ar 3) am))) am))) (ai 2))
def cP:XS:=aP (bv (aH dD (ad (ar 0) (ad (xOp dIx (ag 1) (xUn gG (xC (.int 1)))) am))) (ai 2)) (aP (jy (xIt (xSl (ag 1) zG (xE (xUn gG (xC (.int 1)))))) (ai 3) (bE)) (bG (ar 2)))
def dw:List D -> Option O:=fnO 4 cP
def eA:List D -> Option D:=fun ds=>(dw ds).map O.d
def c6:XS:=bv (aH fT (ad (ar 1) (ad (ar 2) am))) (ai 1)
def eK:XS:=aP (jy (ya (ad (pi NS "parts" (ar 0)) am)) (ai 2) (c6)) (bG (ar 1))
def lP:List D -> Option O:=fnO 3 eK
def dc:List D -> Option D:=fun ds=>(lP ds).map O.d
def cZ:XS:=bv (aH eA (ad (ar 1) (ad (ar 2) am))) (ai 1)
def eJ:XS:=aP (jy (xIt (pi NS "parts" (ar 0))) (ai 2) (cZ)) (bG (ar 1))
def lJ:List D -> Option O:=fnO 3 eJ
def bB:List D -> Option D:=fun ds=>(lJ ds).map O.d
def eE:XS:=bG (xOp (dEq true) (oX NS "smaller" bB (ar 0) (ad (xC (.tup [.tup [.int (0),.tup [.tup [.int (0),.int (0)]]]])) am)) (aW am))
def lS:List D -> Option O:=fnO 1 eE
def nw:List D -> Option D:=fun ds=>(lS ds).map O.d
def eS:XS:=bv (aH ww (ad (ar 3) (ad (oX NS "greater" dc (ar 1) (ad (ar 2) am)) am))) (ai 2)
def eL:XS:=aP (bv (aW am) (ai 2)) (aP (jy (DB (ad (ar 0) am)) (ai 3) (eS)) (bG (ar 2)))
def md:List D -> Option O:=fnO 4 eL
def fY:List D -> Option D:=fun ds=>(md ds).map O.d
def cG:XT:=zP (xB (xOp (dEq true) (ag 4) (aW am))) (xB (xOp dLt (xCB kh (ad (ag 3) am)) (ag 2)))
def dN:XS:=aP (bv (oX NS "smaller" bB (ar 1) (ad (ar 4) am)) (ai 5)) (aP (lI 3 xPv (xSh (aH rF (ad (ar 4) (ad (oX NS "greater" dc (ar 1) (ad (ar 5) am)) am))))) (bv (ar 5) (ai 4)))
def fi:XS:=aP (oz (nY am) 3) (aP (bv (ar 0) (ai 4)) (aP (eg (cG) (dN)) (bG (xOp bM (ag 3) (xL (nY (ad (ar 4) am)))))))
def mE:List D -> Option O:=fnO 6 fi
def n9:List D -> Option D:=fun ds=>(mE ds).map O.d
def qF:XS:=aP (xIf (wU (aH nw (ad (ar 1) am))) (Bz) dq) (aP (bv (aH n9 (ad (ar 0) (ad (ar 1) (ad (ar 2) am)))) (ai 3)) (aP (xIf (xB (xOp (dEq true) (xOp dIx (ag 3) (xUn gG (xC (.int 1)))) (aW am))) (Bz) dq) (bG (xSl (ag 3) zG (xE (xUn gG (xC (.int 1))))))))
def Au:List D -> Option O:=fnO 4 qF
def Dh:List D -> Option D:=fun ds=>(Au ds).map O.d
def qv:XS:=aP (xIf (xOr (xB (xOp (dEq false) (ag 8) (aW am))) (Cr (wU (aH rY (ad (ar 9) (ad (ar 8) am)))))) (bG (xC (.bl false))) dq) (bv (oX NS "smaller" bB (ar 4) (ad (ar 8) am)) (ai 8))
def Bk:XS:=aP (bv (xOp dIx (xL (nY (ad (xC (.int 1)) (ad (xOp bM (xOp Cy (xC (.int 10)) (xC (.int 40))) (xC (.int 7))) am)))) (xOp gn (aH b7 (ad (ar 0) (ad (xC (.int 0)) am))) (xC (.int 2)))) (ai 1)) (aP (bv (aH pj (ad (ar 0) (ad (ar 1) am))) (ai 2)) (aP (bv (xOp ir (xOp gn (xOp pA (aH b7 (ad (ar 0) (ad (xC (.int 1)) am))) (xC (.int 39373))) (xC (.int 2147483629))) (xC (.int 37))) (ai 3)) (aP (xIf (xB (xOp (dEq false) (xOp gn (xOp ir (aH b7 (ad (ar 0) (ad (xC (.int 0)) am))) (xC (.int 32))) (xC (.int 2))) (xC (.int 1)))) (bv (aH b7 (ad (ar 0) (ad (xC (.int 1)) am))) (ai 3)) dq) (aP (bv (aH nP (ad (ar 3) (ad (ar 1) am))) (ai 4)) (aP (xIf (xB (xOp (dEq false) (xOp gn (xOp ir (ag 3) (xC (.int 64))) (xC (.int 3))) (xC (.int 1)))) (bv (lF "Sum" "parts" BA (ad (ar 4) (ad (aH nP (ad (xOp ir (ag 3) (xC (.int 256))) (ad (ar 1) am))) am))) (ai 4)) dq) (aP (bv (aH Dh (ad (ar 2) (ad (ar 4) (ad (xC (.int 17)) am)))) (ai 5)) (aP (bv (xL (BD xO (ad (ag 5) am))) (ai 6)) (aP (bv (aH fY (ad (ar 6) (ad (ar 4) am))) (ai 7)) (aP (xIf (xOr (Cr (wU (xCB tT (ad (ag 5) (ad (xC (.ty "list")) am))))) (xOr (Cr (wU (xCB tT (ad (ag 7) (ad (xC (.ty "tuple")) am))))) (xOr (xB (xOp (dEq true) (ag 7) (ag 2))) (xB (xOp (dEq true) (ag 6) (ag 5)))))) (bG (xC (.bl false))) dq) (aP (bv (ar 2) (ai 8)) (aP (jy (xIt (ar 5)) (ai 9) (qv)) (bG (GE (xOp (dEq false) (ag 8) (aW am)) (xOp (dEq false) (aH fY (ad (xL (nY am)) (ad (ar 4) am))) (aW am)))))))))))))))
def Hc:List D -> Option O:=fnO 10 Bk
def LP:List D -> Option D:=fun ds=>(Hc ds).map O.d
local macro_rules | `(tactic| and_intros)=>`(tactic| repeat' first | (with_reducible first | exact LI | exact LD | exact Kn | exact JN | exact Ju | exact KM | exact K0 | exact Gy | exact Mp | exact HP | exact JT _ | exact My | exact JZ | exact LC _ | exact Jl | exact Lp | exact LN _ | exact M0 | exact HF | exact Nt | exact NH | exact JV | exact Md | exact LK | exact Bv | exact LJ | exact Lm | exact HW (t:=zU) | exact K8 | exact Fv | exact KO _ | exact s9 _ | exact iJ _ | exact JF _ | exact Ln | exact hJ | exact FN | exact KD | apply SE.t | apply SF.e | apply SF.t | apply SQ.fl | apply STr.e | apply JL | apply Me | apply LL | apply KB | apply J8 | apply J7 | apply Kj | apply LM | apply JD | apply Hn | apply NO | apply LZ | apply KE | apply Kc | apply Mw | apply KF | apply Lu | apply L8 | apply LR | apply Js | apply K4 | apply F3 | apply Ly | apply Ls | apply NQ | apply L4 | apply Kf | apply Mb | apply GK | apply MD | apply Nw | apply KL | apply Ll | apply Lg | apply Jw | apply MW | apply zQ | apply JK | apply oS | apply KW | apply FY | apply HR | apply bK | apply pZ | apply Hv | apply SE.p | apply SPk.q | apply SI.p) | exact s_c rfl | exact s_g | apply wt | exact fun _ _ h=>zn h | refine' CF (E:=E0) ?_ ?_ | refine' Kx (Ns:=NS) ?_ ?_ ?_ | refine' Ke (Ns:=NS) ?_ ?_ ?_ | exact List.Mem.head _ | exact List.Mem.tail _ (List.Mem.head _) | decide +kernel)
abbrev kB (K:W.Frag):Sp:=lU K NS "parts" 1 Fy
abbrev sW (K:W.Frag):Sp:=cn K 2 jL
def AA (K:W.Frag):{ t:TS // SS K t jm }:=⟨_,by delta jm;and_intros⟩
abbrev Dz (K:W.Frag):Sp:=cn K 3 zT
def Ij (K:W.Frag):{ t:TS // SS K t zp }:=⟨_,by delta zp kf;and_intros⟩
abbrev vq (K:W.Frag):Sp:=cn K 2 kH
def CH (K:W.Frag):{ t:TS // SS K t j9 }:=⟨_,by delta j9;and_intros⟩
abbrev ym (K:W.Frag):Sp:=cn K 1 rT
def EE (K:W.Frag):{ t:TS // SS K t rn }:=⟨_,by delta rn;and_intros⟩
abbrev m8 (K:W.Frag):Sp:=cn K 2 iZ
def wm (K:W.Frag):{ t:TS // SS K t gS }:=⟨_,by delta gS dJ dR;and_intros⟩
abbrev lL (K:W.Frag):Sp:=cn K 1 hV
def tL (K:W.Frag):{ t:TS // SS K t f6 }:=⟨_,by delta f6;and_intros⟩
abbrev oA (K:W.Frag):Sp:=cn K 2 jQ
def xo (K:W.Frag):{ t:TS // SS K t iq }:=⟨_,by delta iq b5 c0;and_intros⟩
abbrev qY (K:W.Frag):Sp:=cn K 2 ln
def y6 (K:W.Frag):{ t:TS // SS K t jG }:=⟨_,by delta jG;and_intros⟩
abbrev yi (K:W.Frag):Sp:=cn K 1 si
def Et (K:W.Frag):{ t:TS // SS K t qU }:=⟨_,by delta qU fG;and_intros⟩
abbrev iU (K:W.Frag):Sp:=cn K 1 fN
def pH (K:W.Frag):{ t:TS // SS K t ez }:=⟨_,by delta ez;and_intros⟩
abbrev lG (K:W.Frag):Sp:=cn K 1 fx
def tW (K:W.Frag):{ t:TS // SS K t gy }:=⟨_,by delta gy eV;and_intros⟩
abbrev lW (K:W.Frag):Sp:=lU K NS "parts" 4 rC
abbrev jH (K:W.Frag):Sp:=lU K NS "parts" 1 vY
abbrev ma (K:W.Frag):Sp:=lU K NS "parts" 2 BA
abbrev tu (K:W.Frag):Sp:=cn K 2 mB
def Bc (K:W.Frag):{ t:TS // SS K t kT }:=⟨_,by delta kT fV fX;and_intros⟩
abbrev kx (K:W.Frag):Sp:=cn K 3 gE
def sD (K:W.Frag):{ t:TS // SS K t fk }:=⟨_,by delta fk;and_intros⟩
abbrev qI (K:W.Frag):Sp:=cn K 1 kR
def zh (K:W.Frag):{ t:TS // SS K t jF }:=⟨_,by delta jF bT;and_intros⟩
abbrev A6 (K:W.Frag):Sp:=cn K 3 vM
def GF (K:W.Frag):{ t:TS // SS K t uu }:=⟨_,by delta uu;and_intros⟩
abbrev oH (K:W.Frag):Sp:=cn K 1 j5
def wR (K:W.Frag):{ t:TS // SS K t im }:=⟨_,by delta im b6;and_intros⟩
abbrev yI (K:W.Frag):Sp:=cn K 2 kb
def Eo (K:W.Frag):{ t:TS // SS K t kl }:=⟨_,by delta kl;and_intros⟩
abbrev oB (K:W.Frag):Sp:=cn K 2 j7
def wO (K:W.Frag):{ t:TS // SS K t iA }:=⟨_,by delta iA;and_intros⟩
abbrev oq (K:W.Frag):Sp:=cn K 3 jU
def xg (K:W.Frag):{ t:TS // SS K t iu }:=⟨_,by delta iu;and_intros⟩
abbrev jD (K:W.Frag):Sp:=lU K NS "parts" 1 kF
abbrev yc (K:W.Frag):Sp:=cn K 2 sd
def D2 (K:W.Frag):{ t:TS // SS K t qB }:=⟨_,by delta qB;and_intros⟩
abbrev DH (K:W.Frag):Sp:=cn K 2 yR
def Hs (K:W.Frag):{ t:TS // SS K t zj }:=⟨_,by delta zj;and_intros⟩
abbrev vT (K:W.Frag):Sp:=cn K 3 o7
def CQ (K:W.Frag):{ t:TS // SS K t nK }:=⟨_,by delta nK;and_intros⟩
abbrev sP (K:W.Frag):Sp:=cn K 2 mo
def Bq (K:W.Frag):{ t:TS // SS K t kP }:=⟨_,by delta kP;and_intros⟩
abbrev Dt (K:W.Frag):Sp:=cn K 2 yS
def Hk (K:W.Frag):{ t:TS // SS K t zH }:=⟨_,by delta zH;and_intros⟩
abbrev mF (K:W.Frag):Sp:=cn K 2 i8
def vd (K:W.Frag):{ t:TS // SS K t gX }:=⟨_,by delta gX fv dG;and_intros⟩
abbrev mj (K:W.Frag):Sp:=cn K 2 iL
def wE (K:W.Frag):{ t:TS // SS K t gT }:=⟨_,by delta gT fw dQ;and_intros⟩
abbrev wc (K:W.Frag):Sp:=cn K 2 wb
def Bx (K:W.Frag):{ t:TS // SS K t d7 }:=⟨_,by delta d7;and_intros⟩
abbrev ii (K:W.Frag):Sp:=cn K 2 cX
def nW (K:W.Frag):{ t:TS // SS K t bZ }:=⟨_,by delta bZ;and_intros⟩
abbrev vj (K:W.Frag):Sp:=cn K 2 pQ
def CC (K:W.Frag):{ t:TS // SS K t nQ }:=⟨_,by delta nQ;and_intros⟩
abbrev ik (K:W.Frag):Sp:=cn K 2 e7
def n8 (K:W.Frag):{ t:TS // SS K t du }:=⟨_,by delta du;and_intros⟩
abbrev iQ (K:W.Frag):Sp:=cn K 2 fO
def pM (K:W.Frag):{ t:TS // SS K t et }:=⟨_,by delta et cW;and_intros⟩
abbrev ja (K:W.Frag):Sp:=cn K 2 dw
def pf (K:W.Frag):{ t:TS // SS K t cP }:=⟨_,by delta cP bE;and_intros⟩
abbrev lY (K:W.Frag):Sp:=cn K 2 lP
def uc (K:W.Frag):{ t:TS // SS K t eK }:=⟨_,by delta eK c6;and_intros⟩
abbrev lH (K:W.Frag):Sp:=cn K 2 lJ
def tR (K:W.Frag):{ t:TS // SS K t eJ }:=⟨_,by delta eJ cZ;and_intros⟩
abbrev lB (K:W.Frag):Sp:=cn K 1 lS
def tN (K:W.Frag):{ t:TS // SS K t eE }:=⟨_,by delta eE;and_intros⟩
abbrev lD (K:W.Frag):Sp:=cn K 2 md
def tP (K:W.Frag):{ t:TS // SS K t eL }:=⟨_,by delta eL eS;and_intros⟩
abbrev mD (K:W.Frag):Sp:=cn K 3 mE
def u8 (K:W.Frag):{ t:TS // SS K t fi }:=⟨_,by delta fi dN cG;and_intros⟩
abbrev Ax (K:W.Frag):Sp:=cn K 3 Au
def Fw (K:W.Frag):{ t:TS // SS K t qF }:=⟨_,by delta qF;and_intros⟩
abbrev zc (K:W.Frag):Sp:=cn K 1 Hc
def Kt (K:W.Frag):{ t:TS // SS K t Bk }:=⟨_,by delta Bk qv;and_intros⟩
end P
namespace P
open PySem L2 M Rw
def wS (p:Int × Int):List Int:=[p.1,p.2]
theorem AD:∀ r:R,keys (r.map prD) = some (r.map wS)
 | []=>rfl
 | p :: r=>by
  rw [Ps,keys,AD r]
  rfl
theorem Fq:∀ {r:R},r ≠ [] -> bS (r.map prD) = none
 | [],h=>absurd rfl h
 | p :: r,_=>rfl
def Dl:List Int -> Int × Int
 | [a,b]=>(a,b)
 | _=>(0,0)
def oo (ps:R):R:=(jj (ps.map wS)).map Dl
theorem uR (ps:R):(oo ps).map wS = jj (ps.map wS):=by
 unfold oo
 rw [PD]
 have h:∀ k ∈ jj (ps.map wS),(wS ∘ Dl) k = k:=fun k hk=>by
  have:=(ji _).mem_iff.mp hk
  obtain ⟨p,_,rfl⟩:=Pq.mp this
  rfl
 rw [List.map_congr_left h,List.map_id']
theorem jv (ps:R):(oo ps).Perm ps:=by
 have h:=(ji (ps.map wS)).map Dl
 rw [PD] at h
 have e:(Dl ∘ wS) = id:=rfl
 rw [e,List.map_id] at h
 exact h
theorem FL (ps:R):(oo ps).Pairwise fun p q=>p.1 <= q.1:=by
 have h:=uJ (ps.map wS)
 rw [<- uR,Qq] at h
 refine h.imp fun {p q} e=>?_
 have e':(if q.1 = p.1 then HT.cT [q.2] [p.2] else decide (q.1 < p.1)) = false:=e
 by_cases hq:q.1 = p.1
 ·lia
 ·rw [O8 hq] at e'
  have:=Qr e'
  lia
theorem Bh (ps:R) (h:ps.length < 30000):iE [BU ps] = some ((oo ps).map prD):=by
 show (if (ps.map prD).length < 30000 then _ else _) = _
 rw [O7 (by rw [Pc];exact h)]
 by_cases e:ps = []
 ·subst e
  have e0:oo [] = []:=QK.mp (by rw [(jv []).length_eq];rfl)
  have e1:g8 [] = []:=QK.mp (by rw [(fA []).length_eq];rfl)
  show some ((g8 []).map D.int) = _
  rw [e0,e1]
  rfl
 ·rw [Fq e]
  dsimp only
  rw [AD]
  have:(oo ps).map prD = (jj (ps.map wS)).map w8:=by
   rw [<- uR,PD]
   rfl
  rw [this]
  rfl
def rS (p:Int × Int):Bool:=decide (p.1 <= p.2)
def lV (ps:R):R:=oI (oo (ps.filter rS))
theorem eF (ps:R):Jj ps (lV ps):=by
 refine Gu ?_ (FL _) fun x=>?_
 ·intro p hp
  have:=(jv _).mem_iff.mp hp
  simpa [rS] using (PN.mp this).2
 ·rw [GR (jv _)]
  exact mem_filter ps x
theorem Aw (acc:R) (p:Int × Int):(step acc p).length <= acc.length + 1:=by
 rcases Qi acc with rfl | ⟨t,q,rfl⟩
 ·simp [Rw.step]
 ·rw [Qo,nD]
  split <;> simp
theorem sI:∀ (l acc:R),(l.foldl step acc).length <= acc.length + l.length
 | [],acc=>by simp
 | p :: l,acc=>by
  have h1:=sI l (step acc p)
  have h2:=Aw acc p
  rw [List.foldl_cons,Pr]
  lia
theorem rZ (ps:R):(lV ps).length <= ps.length:=by
 have h1:=sI (oo (ps.filter rS)) []
 have h2:=(jv (ps.filter rS)).length_eq
 have h3:=Qt rS ps
 unfold lV oI
 simp only [List.length_nil] at h1
 lia
theorem bj {n:Nat} (h:n <= 100000):n <= LIM:=PL h (by rw [gJ];decide)
theorem jE {n:Nat} (h:n <= 100000):n < LIM:=Qz h (by rw [gJ];decide)
theorem yZ (a b:Int):D.tup [.int a,.int b] = prD (a,b):=rfl
theorem yy:∀ ps:R,ps.filterMap (fun p=>if p.1 <= p.2 then some (prD p) else none) = (ps.filter rS).map prD
 | []=>rfl
 | p :: t=>by
  rw [QP,RX,yy t]
  by_cases h:p.1 <= p.2
  ·simp [rS,h]
  ·simp [rS,h]
theorem EN (ps:R):bU (bi (aq (ai 0) (aq (ai 1) bf))) (xB (xOp dLe (ag 0) (ag 1))) (aW (ad (ar 0) (ad (ar 1) am))) [.un,.un] (ps.map prD) = some ((ps.filter rS).map prD):=by
 rw [i7 prD (fun p=>if p.1 <= p.2 then some (prD p) else none) ps,yy]
 intro p _
 by_cases h:p.1 <= p.2 <;> simp [fe,h]
theorem Co (pre:R) (p:Int × Int):oI (pre ++ [p]) = step (oI pre) p:=by
 unfold oI
 rw [List.foldl_append]
 rfl
theorem Ga (pre:R):(oI pre).length <= pre.length:=by
 have:=sI pre []
 unfold oI
 simpa using this
theorem iI {α:Type} {l:List α} {i:Nat} {x:α} (h:l[i]? = some x):l.drop i = x :: l.drop (i + 1):=by
 obtain ⟨h1,rfl⟩:=Pw.mp h
 exact Rm h1
theorem Jm {r:R} {i:Nat} {p:Int × Int} (h:r[i]? = some p):atI (r.map prD) (i:Int) = some (prD p):=gP (by rw [PB,h];rfl)
theorem E4 (p q:Int × Int) (s t:R):dH (p :: s) (q :: t) = (if max p.1 q.1 <= min p.2 q.2 then [(max p.1 q.1,min p.2 q.2)] else []) ++ (if p.2 < q.2 then dH s (q :: t) else dH (p :: s) t):=by rw [dH]
theorem mx (a b:Int):(if b > a then b else a) = max a b:=by split <;> lia
theorem mn (a b:Int):(if b < a then b else a) = min a b:=by split <;> lia
def chg (r:R):List Int:=r.map (·.1) ++ r.map (·.2 + 1)
theorem za (ns:List Int) (h:ns.length < 30000):iE [.lst (ns.map D.int)] = some ((g8 ns).map D.int):=by
 show (if (ns.map D.int).length < 30000 then _ else _) = _
 rw [O7 (by rw [Pc];exact h),ju]
theorem xT:∀ (n k:Nat),ga k n = (List.range' k n).map fun k:Nat=>D.int (2 * (k:Int))
 | 0,_=>rfl
 | n + 1,k=>by rw [ga,xT n (k + 1),List.range'_succ,Ps]
theorem o9:∀ (n:Nat) (c:List Int),c.length = 2 * n -> ∀ k,k < n -> ∃ a b,c[2 * k]? = some a /\ c[2 * k + 1]? = some b /\ (fE c)[k]? = some (a,b - 1)
 | 0,_,_,k,h=>by lia
 | n + 1,c,h,k,hk=>by
  match c,h with
  | a :: b :: t,h=>
   cases k with
   | zero=>exact ⟨a,b,rfl,rfl,rfl⟩
   | succ k=>
    obtain ⟨x,y,h1,h2,h3⟩:=o9 n t (by simp at h;lia) k (by lia)
    refine ⟨x,y,?_,?_,?_⟩
    ·rw [show 2 * (k + 1) = 2 * k + 1 + 1 by lia];exact h1
    ·rw [show 2 * (k + 1) + 1 = 2 * k + 1 + 1 + 1 by lia];exact h2
    ·rw [fE];exact h3
theorem pr:∀ (n:Nat) (c:List Int),c.length = 2 * n -> (fE c).length = n
 | 0,c,h=>by
  have:c = []:=QK.mp (by lia)
  subst this;rfl
 | n + 1,c,h=>by
  match c,h with
  | a :: b :: t,h=>rw [fE,Pr,pr n t (by simp at h;lia)]
theorem Cg (n:Nat) (c:List Int) (h:c.length = 2 * n):bU (ai 0) dl (aW (ad (xOp dIx (ag 1) (ag 0)) (ad (xOp gz (xOp dIx (ag 1) (xOp bM (ag 0) (xC (.int 1)))) (xC (.int 1))) am))) [.un,.sh (.lst (c.map D.int))] (ga 0 n) = some ((fE c).map prD):=by
 rw [xT,bp (fun k:Nat=>D.int (2 * (k:Int))) (fun k=>match (fE c)[k]? with | some p=>prD p | none=>.non) (List.range' 0 n)]
 ·congr 1
  apply Rs
  intro k
  rw [PB,PB]
  by_cases hk:k < n
  ·rw [P7 (by rw [List.length_range'];exact hk),List.getElem_range']
   obtain ⟨a,b,_,_,h3⟩:=o9 n c h k hk
   simp [h3]
  ·rw [RY (by rw [List.length_range'];lia),RY (by rw [pr n c h];lia)]
   rfl
 ·intro k hk
  have hk':k < n:=by simpa using (List.mem_range'.mp hk)
  obtain ⟨a,b,h1,h2,h3⟩:=o9 n c h k hk'
  have e1:atI (c.map D.int) (2 * (k:Int)) = some (.int a):=by
   have:=gP (l:=c.map D.int) (j:=2 * k) (x:=.int a) (by rw [PB,h1];rfl)
   rw [<- this];congr 1
  have e2:atI (c.map D.int) (2 * (k:Int) + 1) = some (.int b):=by
   have:=gP (l:=c.map D.int) (j:=2 * k + 1) (x:=.int b) (by rw [PB,h2];rfl)
   rw [<- this];congr 1
  simp [fe,e1,e2,h3]
def iK (r t:R):R:=lV (fE (g8 (chg (r ++ t))))
theorem zE (r:R):(chg r).length = 2 * r.length:=by unfold chg;simp;lia
theorem AV {r t:R} (cr:bc r) (ct:bc t):AZ r t (iK r t):=by
 obtain ⟨h1,h2⟩:=eF (fE (g8 (chg (r ++ t))))
 refine ⟨h1,fun x=>?_⟩
 have hl:(g8 (chg (r ++ t))).length = 2 * (r ++ t).length:=by rw [(fA _).length_eq,zE]
 unfold iK
 rw [h2 x,uI _ _ hl (AH _) x,Ev (fA _),<- GY cr ct x]
 rfl
def jY (r t:R):R:=iK r (dH r t)
theorem kn {r t:R} (cr:bc r) (ct:bc t):GV r t (dH r t):=⟨CV _ r t rfl cr ct,fun x=>G5 _ r t rfl cr ct x⟩
theorem se {r t:R} (cr:bc r) (ct:bc t):FW r t (jY r t):=Hw (kn cr ct) (AV cr (kn cr ct).1)
theorem Hb (n:Nat):fR 0 n = (List.range n).map fun k:Nat=>D.int (k:Int):=by
 apply Rs
 intro i
 cases q:(fR 0 n)[i]? with
 | none=>
  have:=Ru.mp q
  rw [rM] at this
  rw [RY (by rw [Pc,QA];exact this)]
 | some d=>
  obtain ⟨h1,rfl⟩:=sN n 0 i d q
  rw [PB,List.getElem?_range h1]
  simp
theorem DD {α β:Type} (f:α -> β) (xs:List α) (lo hi:Option Int):j6 (xs.map f) lo hi = (j6 xs lo hi).map f:=by
 unfold j6
 rw [Pc,<- List.map_drop,<- List.map_take]
theorem aI {m n:XS} {ρ ρ':M.Env} (h:m ρ = some (.nx ρ')):aP m n ρ = n ρ':=by unfold aP;rw [h]
theorem sY {n:Nat} {x:XS} {ds:List D} {d:D} (h:x (ds.map .sh ++ List.replicate (n - ds.length) .un) = some (.rt d)):(fnO n x ds).map O.d = some d:=by unfold fnO;rw [h];simp
theorem C9 {n d:Nat} {v:Int} (h:0 <= v):HT.sIx n d (some v) = min v.toNat n:=by
 show (if v < 0 then _ else _) = _
 rw [O8 (by lia)]
theorem A3 (s0:Sl) (acc:R) (a b:Int) (h:acc.length <= 30000):fG [s0,owl (acc.map prD),.sh (.int a),.sh (.int b)] = some (.nx [s0,owl ((step acc (a,b)).map prD),.sh (.int a),.sh (.int b)]):=by
 rcases Qi acc with rfl | ⟨t,q,rfl⟩
 ·simp [fG,Rw.step,prD]
 ·rw [Qo] at *
  rw [nD]
  have hl:t.length + 1 <= 30000:=by simpa using h
  have hlim:t.length + 1 < LIM:=jE (by lia)
  have at1:atI (t.map prD ++ [prD q]) (-1) = some (prD q):=jp _ _
  by_cases hc:a <= q.2 + 1
  ·simp [fG,at1,hc,mw,yZ]
  ·simp [fG,at1,hc,hlim,yZ]
theorem mz (ps:R) (h:ps.length < 30000):kr [BU ps] = some (bQ (lV ps)):=by
 have hf:=Qt rS ps
 have hs:=(jv (ps.filter rS)).length_eq
 have key:∃ ρ',ig (bi (aq (ai 2) (aq (ai 3) bf))) fG ((oo (ps.filter rS)).map prD) [.sh (BU ps),.ow (.lst []),.un,.un] = some (.nx ρ') /\ ∃ va vb,ρ' = [.sh (BU ps),owl ((lV ps).map prD),va,vb]:=by
  refine cE prD (fun pre ρ=>∃ va vb,ρ = [.sh (BU ps),owl ((oI pre).map prD),va,vb]) _ _ ⟨_,_,rfl⟩ ?_
  rintro pre p post _ e ⟨va,vb,rfl⟩
  have hp:pre.length <= 30000:=by
   have:=PC List.length e
   rw [Ph] at this
   lia
  refine ⟨_,_,rfl,.inl (A3 _ (oI pre) p.1 p.2 (by have:=Ga pre;lia)),.sh (.int p.1),.sh (.int p.2),by rw [Co]⟩
 obtain ⟨ρ',k1,va,vb,rfl⟩:=key
 have hc:=EN ps
 have hb:=Bh (ps.filter rS) (by lia)
 have hl:ps.length <= LIM:=bj (by lia)
 simp [kr,si,fnO,qU,hl,hc,hb,k1]
abbrev Tri:=Int × Int × Int
abbrev dm (t:Tri):D:=.tup [.int t.1,.int t.2.1,.int t.2.2]
abbrev Pic:=List (Int × R)
abbrev pyD (q:Int × R):D:=.tup [.int q.1,bQ q.2]
abbrev au (p:Pic):D:=.tup (p.map pyD)
def kJ (ts:List Tri) (x y:Int):Prop:=∃ t ∈ ts,t.1 = y /\ t.2.1 <= x /\ x <= t.2.2
def aN (p:Pic) (x y:Int):Prop:=∃ q ∈ p,q.1 = y /\ Mem q.2 x
def av (p:Pic):Prop:=(∀ q ∈ p,bc q.2 /\ q.2 ≠ []) /\ p.Pairwise fun a b=>a.1 < b.1
theorem cI (x y:Int):¬ aN [] x y:=by rintro ⟨_,h,_⟩;cases h
theorem bo (q:Int × R) (p:Pic) (x y:Int):aN (q :: p) x y ↔ (q.1 = y /\ Mem q.2 x) \/ aN p x y:=by
 constructor
 ·rintro ⟨s,h,e⟩
  rcases Pn.mp h with rfl | h
  ·exact .inl e
  ·exact .inr ⟨s,h,e⟩
 ·rintro (e | ⟨s,h,e⟩)
  ·exact ⟨q,Pg,e⟩
  ·exact ⟨s,Pi _ h,e⟩
theorem mZ (p q:Pic) (x y:Int):aN (p ++ q) x y ↔ aN p x y \/ aN q x y:=by
 constructor
 ·rintro ⟨s,h,e⟩
  rcases Po.mp h with h | h
  ·exact .inl ⟨s,h,e⟩
  ·exact .inr ⟨s,h,e⟩
 ·rintro (⟨s,h,e⟩ | ⟨s,h,e⟩)
  ·exact ⟨s,Pv _ h,e⟩
  ·exact ⟨s,Pm _ h,e⟩
theorem Eg (t:Tri) (ts:List Tri) (x y:Int):kJ (t :: ts) x y ↔ (t.1 = y /\ t.2.1 <= x /\ x <= t.2.2) \/ kJ ts x y:=by
 constructor
 ·rintro ⟨s,h,e⟩
  rcases Pn.mp h with rfl | h
  ·exact .inl e
  ·exact .inr ⟨s,h,e⟩
 ·rintro (e | ⟨s,h,e⟩)
  ·exact ⟨t,Pg,e⟩
  ·exact ⟨s,Pi _ h,e⟩
theorem mt (a b:List Tri) (x y:Int):kJ (a ++ b) x y ↔ kJ a x y \/ kJ b x y:=by
 constructor
 ·rintro ⟨s,h,e⟩
  rcases Po.mp h with h | h
  ·exact .inl ⟨s,h,e⟩
  ·exact .inr ⟨s,h,e⟩
 ·rintro (⟨s,h,e⟩ | ⟨s,h,e⟩)
  ·exact ⟨s,Pv _ h,e⟩
  ·exact ⟨s,Pm _ h,e⟩
theorem E9 {a b:List Tri} (h:a.Perm b) (x y:Int):kJ a x y ↔ kJ b x y:=
 ⟨fun ⟨q,m,e⟩=>⟨q,h.mem_iff.mp m,e⟩,fun ⟨q,m,e⟩=>⟨q,h.mem_iff.mpr m,e⟩⟩
theorem fH:av []:=⟨fun _ h=>(by cases h),.nil⟩
theorem pcanon_cons {q:Int × R} {p:Pic}:av (q :: p) ↔ (bc q.2 /\ q.2 ≠ []) /\ (∀ s ∈ p,q.1 < s.1) /\ av p:=by
 constructor
 ·rintro ⟨h1,h2⟩
  have h3:=QL.mp h2
  exact ⟨h1 q Pg,h3.1,fun s hs=>h1 s (Pi _ hs),h3.2⟩
 ·rintro ⟨h1,h2,h3,h4⟩
  refine ⟨fun s hs=>?_,QL.mpr ⟨h2,h4⟩⟩
  rcases Pn.mp hs with rfl | hs
  ·exact h1
  ·exact h3 s hs
theorem jP {r:R} (c:bc r) (h:r ≠ []):∃ x,Mem r x:=by
 cases r with
 | nil=>exact absurd rfl h
 | cons p r=>exact ⟨p.1,(mem_cons ..).mpr (.inl ⟨Pl _,(canon_cons.mp c).1⟩)⟩
theorem uq:∀ {p q:Pic},av p -> av q -> (∀ x y,aN p x y ↔ aN q x y) -> p = q
 | [],[],_,_,_=>rfl
 | [],b :: q,_,cq,h=>by
  obtain ⟨⟨c1,c2⟩,_⟩:=pcanon_cons.mp cq
  obtain ⟨x,hx⟩:=jP c1 c2
  exact (cI _ _ ((h x b.1).mpr ((bo ..).mpr (.inl ⟨rfl,hx⟩)))).elim
 | a :: p,[],cp,_,h=>by
  obtain ⟨⟨c1,c2⟩,_⟩:=pcanon_cons.mp cp
  obtain ⟨x,hx⟩:=jP c1 c2
  exact (cI _ _ ((h x a.1).mp ((bo ..).mpr (.inl ⟨rfl,hx⟩)))).elim
 | a :: p,b :: q,cp,cq,h=>by
  obtain ⟨⟨ca,na⟩,la,cp'⟩:=pcanon_cons.mp cp
  obtain ⟨⟨cb,nb⟩,lb,cq'⟩:=pcanon_cons.mp cq
  obtain ⟨xa,ha⟩:=jP ca na
  obtain ⟨xb,hb⟩:=jP cb nb
  have ey:a.1 = b.1:=by
   have h1:b.1 <= a.1:=by
    rcases (bo ..).mp ((h xa a.1).mp ((bo ..).mpr (.inl ⟨rfl,ha⟩))) with ⟨e,_⟩ | ⟨s,hs,e,_⟩
    ·lia
    ·have:=lb s hs;lia
   have h2:a.1 <= b.1:=by
    rcases (bo ..).mp ((h xb b.1).mpr ((bo ..).mpr (.inl ⟨rfl,hb⟩))) with ⟨e,_⟩ | ⟨s,hs,e,_⟩
    ·lia
    ·have:=la s hs;lia
   lia
  have er:a.2 = b.2:=Gd ca cb fun x=>by
   have hx:=h x a.1
   rw [bo,bo] at hx
   have n1:¬ aN p x a.1:=by rintro ⟨s,hs,e,_⟩;have:=la s hs;lia
   have n2:¬ aN q x a.1:=by rintro ⟨s,hs,e,_⟩;have:=lb s hs;lia
   constructor
   ·intro hm
    rcases hx.mp (.inl ⟨rfl,hm⟩) with z | z
    ·exact z.2
    ·exact absurd z n2
   ·intro hm
    rcases hx.mpr (.inl ⟨ey.symm,hm⟩) with z | z
    ·exact z.2
    ·exact absurd z n1
  have eab:a = b:=by
   obtain ⟨a1,a2⟩:=a
   obtain ⟨b1,b2⟩:=b
   simp only at ey er
   rw [ey,er]
  subst eab
  have ih:p = q:=uq cp' cq' fun x y=>by
   have hx:=h x y
   rw [bo,bo] at hx
   constructor
   ·intro hm
    rcases hx.mp (.inr hm) with z | z
    ·obtain ⟨s,hs,e,_⟩:=hm;have:=la s hs;lia
    ·exact z
   ·intro hm
    rcases hx.mpr (.inr hm) with z | z
    ·obtain ⟨s,hs,e,_⟩:=hm;have:=lb s hs;lia
    ·exact z
  rw [ih]
def wT (t:Tri):List Int:=[t.1,t.2.1,t.2.2]
def zw:List Int -> Tri
 | [a,b,c]=>(a,b,c)
 | _=>(0,0,0)
theorem yj:∀ r:List Tri,keys (r.map dm) = some (r.map wT)
 | []=>rfl
 | p :: r=>by rw [Ps,keys,yj r];rfl
theorem Fi:∀ {r:List Tri},r ≠ [] -> bS (r.map dm) = none
 | [],h=>absurd rfl h
 | _ :: _,_=>rfl
def dS (ts:List Tri):List Tri:=(jj (ts.map wT)).map zw
theorem uK (ts:List Tri):(dS ts).map wT = jj (ts.map wT):=by
 unfold dS
 rw [PD]
 have h:∀ k ∈ jj (ts.map wT),(wT ∘ zw) k = k:=fun k hk=>by
  have:=(ji _).mem_iff.mp hk
  obtain ⟨p,_,rfl⟩:=Pq.mp this
  rfl
 rw [List.map_congr_left h,List.map_id']
theorem fL (ts:List Tri):(dS ts).Perm ts:=by
 have h:=(ji (ts.map wT)).map zw
 rw [PD] at h
 have e:(zw ∘ wT) = id:=rfl
 rw [e,List.map_id] at h
 exact h
theorem AR (ts:List Tri):(dS ts).Pairwise fun p q=>p.1 <= q.1:=by
 have h:=uJ (ts.map wT)
 rw [<- uK,Qq] at h
 refine h.imp fun {p q} e=>?_
 have e':(if q.1 = p.1 then HT.cT [q.2.1,q.2.2] [p.2.1,p.2.2] else decide (q.1 < p.1)) = false:=e
 by_cases hq:q.1 = p.1
 ·lia
 ·rw [O8 hq] at e'
  have:=Qr e'
  lia
theorem qS (ts:List Tri) (h:ts.length < 30000):iE [.lst (ts.map dm)] = some ((dS ts).map dm):=by
 show (if (ts.map dm).length < 30000 then _ else _) = _
 rw [O7 (by rw [Pc];exact h)]
 by_cases e:ts = []
 ·subst e
  have e0:dS [] = []:=QK.mp (by rw [(fL []).length_eq];rfl)
  have e1:g8 [] = []:=QK.mp (by rw [(fA []).length_eq];rfl)
  show some ((g8 []).map D.int) = _
  rw [e0,e1]
  rfl
 ·rw [Fi e]
  dsimp only
  rw [yj]
  have:(dS ts).map dm = (jj (ts.map wT)).map w8:=by
   rw [<- uK,PD]
   rfl
  rw [this]
  rfl
def dt (t:Tri):Bool:=decide (t.2.1 <= t.2.2)
theorem AS (ts:List Tri) (x y:Int):kJ (ts.filter dt) x y ↔ kJ ts x y:=by
 constructor
 ·rintro ⟨q,m,e⟩
  exact ⟨q,(PN.mp m).1,e⟩
 ·rintro ⟨q,m,e⟩
  exact ⟨q,PN.mpr ⟨m,by simp [dt];lia⟩,e⟩
theorem vR:∀ ps:List Tri,ps.filterMap (fun p=>if p.2.1 <= p.2.2 then some (dm p) else none) = (ps.filter dt).map dm
 | []=>rfl
 | p :: t=>by
  rw [QP,RX,vR t]
  by_cases h:p.2.1 <= p.2.2
  ·simp [dt,h]
  ·simp [dt,h]
theorem Ct (ps:List Tri):bU (bi (aq (ai 0) (aq (ai 1) (aq (ai 2) bf)))) (xB (xOp dLe (ag 1) (ag 2))) (aW (ad (ar 0) (ad (ar 1) (ad (ar 2) am)))) [.un,.un,.un] (ps.map dm) = some ((ps.filter dt).map dm):=by
 rw [i7 dm (fun p=>if p.2.1 <= p.2.2 then some (dm p) else none) ps,vR]
 intro p _
 by_cases h:p.2.1 <= p.2.2 <;> simp [fe,h]
def l9 (gs:Pic) (t:Tri):Pic:=match gs.getLast? with
 | none=>[(t.1,[t.2])]
 | some g=>if g.1 = t.1 then gs.dropLast ++ [(g.1,g.2 ++ [t.2])] else gs ++ [(t.1,[t.2])]
theorem EU (t:Tri):l9 [] t = [(t.1,[t.2])]:=rfl
theorem oY (gs:Pic) (g:Int × R) (t:Tri):l9 (gs ++ [g]) t = if g.1 = t.1 then gs ++ [(g.1,g.2 ++ [t.2])] else gs ++ [g] ++ [(t.1,[t.2])]:=by
 unfold l9
 simp
def e9 (ts:List Tri):Pic:=ts.foldl l9 []
theorem wa (pre:List Tri) (t:Tri):e9 (pre ++ [t]) = l9 (e9 pre) t:=by
 unfold e9
 rw [List.foldl_append]
 rfl
structure GOk (gs:Pic) (ts:List Tri):Prop where
 ne:∀ g ∈ gs,g.2 ≠ [] /\ Ok g.2
 up:gs.Pairwise fun a b=>a.1 < b.1
 mem:∀ x y,aN gs x y ↔ kJ ts x y
 le:∀ g ∈ gs,∃ t ∈ ts,g.1 = t.1
 len:(gs.map fun g=>g.2.length).sum = ts.length
theorem F4 {gs:Pic} {ts:List Tri} {t:Tri} (o:GOk gs ts) (ht:t.2.1 <= t.2.2) (hb:∀ s ∈ ts,s.1 <= t.1):GOk (l9 gs t) (ts ++ [t]):=by
 have tm:∀ x y,kJ (ts ++ [t]) x y ↔ kJ ts x y \/ (t.1 = y /\ t.2.1 <= x /\ x <= t.2.2):=fun x y=>by
  rw [mt,Eg]
  constructor
  ·rintro (h | h | ⟨_,h,_⟩)
   ·exact .inl h
   ·exact .inr h
   ·cases h
  ·rintro (h | h)
   ·exact .inl h
   ·exact .inr (.inl h)
 have okt:Ok [t.2]:=fun p hp=>by rw [Pe.mp hp];exact ht
 rcases Qi gs with rfl | ⟨gs0,g,rfl⟩
 ·rw [EU]
  have e0:ts = []:=QK.mp (by have:=o.len;simpa using this.symm)
  subst e0
  refine ⟨fun g hg=>?_,Rk _ _,fun x y=>?_,fun g hg=>⟨t,by simp,by rw [Pe.mp hg]⟩,by simp⟩
  ·rw [Pe.mp hg];exact ⟨by simp,okt⟩
  ·rw [tm,bo,mem_cons]
   constructor
   ·rintro (⟨h1,h2 | h2⟩ | h)
    ·exact .inr ⟨h1,h2⟩
    ·exact (bn _ h2).elim
    ·exact (cI _ _ h).elim
   ·rintro (⟨_,h,_⟩ | h)
    ·cases h
    ·exact .inl ⟨h.1,.inl h.2⟩
 ·rw [Qo] at *
  have up:=PZ.mp o.up
  rw [oY]
  have glast:g.1 <= t.1:=by
   obtain ⟨s,hs,e⟩:=o.le g (by simp)
   have:=hb s hs
   lia
  by_cases h:g.1 = t.1
  ·rw [O7 h]
   refine ⟨fun q hq=>?_,?_,fun x y=>?_,fun q hq=>?_,?_⟩
   ·rcases Po.mp hq with hq | hq
    ·exact o.ne q (Pv _ hq)
    ·rw [Pe.mp hq]
     refine ⟨by simp,fun p hp=>?_⟩
     rcases Po.mp hp with hp | hp
     ·exact (o.ne g (by simp)).2 p hp
     ·exact okt p hp
   ·refine PZ.mpr ⟨up.1,Rk _ _,fun a ha b hb=>?_⟩
    rw [Pe.mp hb]
    exact up.2.2 a ha g (by simp)
   ·rw [tm,<- o.mem,mZ,mZ,bo,bo]
    dsimp only
    rw [mem_append,mem_cons]
    have n0:=cI x y
    have n1:=bn x
    constructor
    ·rintro (k | ⟨k1,k2 | k2 | k2⟩ | k)
     ·exact .inl (.inl k)
     ·exact .inl (.inr (.inl ⟨k1,k2⟩))
     ·exact .inr ⟨by lia,k2⟩
     ·exact absurd k2 n1
     ·exact absurd k n0
    ·rintro ((k | ⟨k1,k2⟩ | k) | ⟨k1,k2⟩)
     ·exact .inl k
     ·exact .inr (.inl ⟨k1,.inl k2⟩)
     ·exact absurd k n0
     ·exact .inr (.inl ⟨by lia,.inr (.inl k2)⟩)
   ·rcases Po.mp hq with hq | hq
    ·obtain ⟨s,hs,e⟩:=o.le q (Pv _ hq)
     exact ⟨s,Pv _ hs,e⟩
    ·rw [Pe.mp hq]
     exact ⟨t,by simp,h⟩
   ·have:=o.len
    simp only [Qf,List.sum_append,Ps,List.map_nil,Qp,List.sum_nil,Ph,Pr,List.length_nil] at this ⊢
    lia
  ·rw [O8 h]
   refine ⟨fun q hq=>?_,?_,fun x y=>?_,fun q hq=>?_,?_⟩
   ·rcases Po.mp hq with hq | hq
    ·exact o.ne q hq
    ·rw [Pe.mp hq];exact ⟨by simp,okt⟩
   ·refine PZ.mpr ⟨o.up,Rk _ _,fun a ha b hb'=>?_⟩
    rw [Pe.mp hb']
    rcases Po.mp ha with ha | ha
    ·have:=up.2.2 a ha g (by simp)
     dsimp only
     lia
    ·rw [Pe.mp ha];dsimp only;lia
   ·rw [tm,<- o.mem,mZ,bo]
    dsimp only
    rw [mem_cons]
    have n0:=cI x y
    have n1:=bn x
    constructor
    ·rintro (k | ⟨k1,k2 | k2⟩ | k)
     ·exact .inl k
     ·exact .inr ⟨k1,k2⟩
     ·exact absurd k2 n1
     ·exact absurd k n0
    ·rintro (k | ⟨k1,k2⟩)
     ·exact .inl k
     ·exact .inr (.inl ⟨k1,.inl k2⟩)
   ·rcases Po.mp hq with hq | hq
    ·obtain ⟨s,hs,e⟩:=o.le q hq
     exact ⟨s,Pv _ hs,e⟩
    ·rw [Pe.mp hq]
     exact ⟨t,by simp,rfl⟩
   ·have:=o.len
    simp only [Qf,List.sum_append,Ps,List.map_nil,Qp,List.sum_nil,Ph,Pr,List.length_nil] at this ⊢
    lia
theorem z9:∀ (post pre:List Tri),(∀ t ∈ pre ++ post,t.2.1 <= t.2.2) -> (pre ++ post).Pairwise (fun p q=>p.1 <= q.1) -> GOk (e9 pre) pre -> GOk (e9 (pre ++ post)) (pre ++ post)
 | [],pre,_,_,o=>by rw [P6];exact o
 | t :: post,pre,h1,h2,o=>by
  have e:pre ++ t :: post = (pre ++ [t]) ++ post:=by simp
  rw [e] at h1 h2 ⊢
  refine z9 post (pre ++ [t]) h1 h2 ?_
  rw [wa]
  have h3:=PZ.mp h2
  have h4:=PZ.mp h3.1
  exact F4 o (h1 t (by simp)) fun s hs=>h4.2.2 s hs t (by simp)
theorem yq {ts:List Tri} (h1:∀ t ∈ ts,t.2.1 <= t.2.2) (h2:ts.Pairwise fun p q=>p.1 <= q.1):GOk (e9 ts) ts:=
 z9 ts [] h1 h2 ⟨fun _ h=>(by cases h),.nil,fun x y=>⟨fun h=>(cI _ _ h).elim,fun ⟨_,h,_⟩=>by cases h⟩,fun _ h=>(by cases h),rfl⟩
def g6 (ts:List Tri):Pic:=(e9 (dS (ts.filter dt))).map fun g=>(g.1,lV g.2)
theorem m5 (ts:List Tri):GOk (e9 (dS (ts.filter dt))) (dS (ts.filter dt)):=yq (fun t ht=>by
 have:=(fL _).mem_iff.mp ht
 simpa [dt] using (PN.mp this).2) (AR _)
theorem Gs {ps:R} (h:ps ≠ []) (o:Ok ps):lV ps ≠ []:=fun e=>by
 cases ps with
 | nil=>exact h rfl
 | cons p ps=>
  have:=((eF (p :: ps)).2 p.1).mpr ((mem_cons ..).mpr (.inl ⟨Pl _,o p Pg⟩))
  rw [e] at this
  exact bn _ this
theorem gd (ts:List Tri):av (g6 ts) /\ ∀ x y,aN (g6 ts) x y ↔ kJ ts x y:=by
 have o:=m5 ts
 refine ⟨⟨fun q hq=>?_,?_⟩,fun x y=>?_⟩
 ·obtain ⟨g,hg,rfl⟩:=Pq.mp hq
  obtain ⟨h1,h2⟩:=o.ne g hg
  exact ⟨(eF g.2).1,Gs h1 h2⟩
 ·unfold g6
  rw [Qq]
  exact o.up
 ·rw [<- AS ts,<- E9 (fL _),<- o.mem]
  constructor
  ·rintro ⟨q,hq,e,hm⟩
   obtain ⟨g,hg,rfl⟩:=Pq.mp hq
   exact ⟨g,hg,e,((eF g.2).2 x).mp hm⟩
  ·rintro ⟨g,hg,e,hm⟩
   exact ⟨_,Pq.mpr ⟨g,hg,rfl⟩,e,((eF g.2).2 x).mpr hm⟩
def aj (p:Pic):List Tri:=p.flatMap fun q=>q.2.map fun s=>(q.1,s)
theorem bz (q:Int × R) (p:Pic):aj (q :: p) = (q.2.map fun s=>(q.1,s)) ++ aj p:=rfl
theorem ki (p:Pic) (x y:Int):kJ (aj p) x y ↔ aN p x y:=by
 constructor
 ·rintro ⟨t,ht,e,h⟩
  obtain ⟨q,hq,hs⟩:=List.mem_flatMap.mp ht
  obtain ⟨s,hs2,rfl⟩:=Pq.mp hs
  exact ⟨q,hq,e,s,hs2,h⟩
 ·rintro ⟨q,hq,e,s,hs,h⟩
  exact ⟨(q.1,s),List.mem_flatMap.mpr ⟨q,hq,Pq.mpr ⟨s,hs,rfl⟩⟩,e,h⟩
theorem BR {ts:List Tri} {p:Pic} (c:av p) (h:∀ x y,kJ ts x y ↔ aN p x y):g6 ts = p:=
 uq (gd ts).1 c fun x y=>((gd ts).2 x y).trans (h x y)
mutual
theorem Ae:∀ (n:Nat) (d:D),okD n d = true -> eqD d d = true
 | _,.non,_=>by simp [eqD]
 | _,.bl _,_=>by simp [eqD]
 | _,.int _,_=>by simp [eqD]
 | _,.str _,_=>by simp [eqD]
 | 0,.lst _,h=>by simp [okD] at h
 | n + 1,.lst l,h=>by rw [eqD];exact eqDs_refl n l (by simpa [okD] using h)
 | 0,.tup _,h=>by simp [okD] at h
 | n + 1,.tup l,h=>by rw [eqD];exact eqDs_refl n l (by simpa [okD] using h)
 | n,.ty _,h=>by cases n <;> simp [okD] at h
 | n,.scr _,h=>by cases n <;> simp [okD] at h
 | n,.ins _ _ _,h=>by cases n <;> simp [okD] at h
 | n,.dic _,h=>by cases n <;> simp [okD] at h
theorem eqDs_refl:∀ (n:Nat) (l:List D),okDs n l = true -> eqDs l l = true
 | _,[],_=>by simp [eqDs]
 | n,d :: l,h=>by
  rw [okDs,Qd] at h
  rw [eqDs,Ae n d h.1,eqDs_refl n l h.2]
  rfl
end
theorem mU {α:Type} {n:Nat} {f:α -> D}:∀ (l:List α),(∀ a ∈ l,okD n (f a) = true) -> okDs n (l.map f) = true
 | [],_=>by simp [okDs]
 | a :: l,h=>by rw [Ps,okDs,h a Pg,mU l fun b hb=>h b (Pi _ hb)];rfl
theorem wp {d:D} (neg:Bool) (h:okD 50 d = true):dEq neg d d = some (.bl (!neg)):=by
 unfold dEq
 rw [O7 ⟨h,h⟩,Ae 50 d h]
 cases neg <;> rfl
theorem yQ (p:Pic):okD 50 (au p) = true:=by
 rw [okD]
 refine mU p fun q _=>?_
 simp only [okD,okDs]
 rw [vW 46 q.2]
 rfl
def grO (g:Int × R):O:=.tup [.sh (.int g.1),.lst (g.2.map (O.sh ∘ prD))]
def grD (g:Int × R):D:=.tup [.int g.1,BU g.2]
theorem LB (g:Int × R):(grO g).d = grD g:=by simp [grO,grD]
theorem IW:∀ gs:Pic,O.ds (gs.map grO) = gs.map grD
 | []=>by simp
 | g :: gs=>by rw [Ps,E5,LB,IW gs];rfl
theorem EY (gs:Pic) (t:Tri):(l9 gs t).length <= gs.length + 1:=by
 rcases Qi gs with rfl | ⟨gs0,g,rfl⟩
 ·simp [l9]
 ·rw [Qo,oY]
  split <;> simp
theorem xD:∀ ts:List Tri,(e9 ts).length <= ts.length:=by
 intro ts
 have key:∀ (l:List Tri) (gs:Pic),(l.foldl l9 gs).length <= gs.length + l.length:=by
  intro l
  induction l with
  | nil=>intro gs;simp
  | cons t l ih=>
   intro gs
   have h1:=ih (l9 gs t)
   have h2:=EY gs t
   rw [List.foldl_cons,Pr]
   lia
 have:=key ts []
 unfold e9
 simpa using this
theorem y8 (s0:Sl) (gs:Pic) (t:Tri) (h:gs.length <= 30000) (hg:∀ g ∈ gs,g.2.length <= 30000):b6 [s0,.ow (.lst (gs.map grO)),.sh (.int t.1),.sh (.int t.2.1),.sh (.int t.2.2)] = some (.nx [s0,.ow (.lst ((l9 gs t).map grO)),.sh (.int t.1),.sh (.int t.2.1),.sh (.int t.2.2)]):=by
 rcases Qi gs with rfl | ⟨gs0,g,rfl⟩
 ·simp [b6,l9,grO]
 ·rw [Qo] at *
  rw [oY]
  have hl:gs0.length + 1 <= 30000:=by simpa using h
  have hlim:gs0.length + 1 < LIM:=jE (by lia)
  have hg2:g.2.length < LIM:=jE (by have:=hg g (by simp);lia)
  by_cases hc:g.1 = t.1
  ·simp [b6,hc,hg2,grO]
  ·simp [b6,hc,hlim,grO]
theorem pT:∀ {l:List Nat} {n:Nat},n ∈ l -> n <= l.sum
 | [],_,h=>by cases h
 | m :: l,n,h=>by
  rw [Qp]
  rcases Pn.mp h with rfl | h
  ·lia
  ·have:=pT h;lia
theorem hE (ts:List Tri) (h:ts.length < 30000):gw [.lst (ts.map dm)] = some (au (g6 ts)):=by
 have hf:=Qt dt ts
 have hs:=(fL (ts.filter dt)).length_eq
 have og:=m5 ts
 have key:∃ ρ',ig (bi (aq (ai 2) (aq (ai 3) (aq (ai 4) bf)))) b6 ((dS (ts.filter dt)).map dm) [.sh (.lst (ts.map dm)),.ow (.lst []),.un,.un,.un] = some (.nx ρ') /\ ∃ va vb vc,ρ' = [.sh (.lst (ts.map dm)),.ow (.lst ((e9 (dS (ts.filter dt))).map grO)),va,vb,vc]:=by
  refine cE dm (fun pre ρ=>∃ va vb vc,ρ = [.sh (.lst (ts.map dm)),.ow (.lst ((e9 pre).map grO)),va,vb,vc]) _ _ ⟨_,_,_,rfl⟩ ?_
  rintro pre t post _ e ⟨va,vb,vc,rfl⟩
  have hp:pre.length <= 30000:=by
   have:=PC List.length e
   rw [Ph] at this
   lia
  have gl:=xD pre
  have gp:GOk (e9 pre) pre:=by
   refine yq (fun s hs=>?_) ?_
   ·have:=(fL _).mem_iff.mp (show s ∈ dS (ts.filter dt) by rw [e];simp [hs])
    simpa [dt] using (PN.mp this).2
   ·have:=AR (ts.filter dt)
    rw [e] at this
    exact (PZ.mp this).1
  have gg:∀ g ∈ e9 pre,g.2.length <= 30000:=fun g hg=>by
   have h1:=gp.len
   have h2:g.2.length <= ((e9 pre).map fun g=>g.2.length).sum:=pT (Pq.mpr ⟨g,hg,rfl⟩)
   lia
  refine ⟨_,_,rfl,.inl (y8 _ (e9 pre) t (by lia) gg),.sh (.int t.1),.sh (.int t.2.1),.sh (.int t.2.2),by rw [wa]⟩
 obtain ⟨ρ',k1,va,vb,vc,rfl⟩:=key
 have hc:=Ct ts
 have hb:=qS (ts.filter dt) (by lia)
 have hl:ts.length <= LIM:=bj (by lia)
 have gl:=xD (dS (ts.filter dt))
 have hl2:(e9 (dS (ts.filter dt))).length <= LIM:=bj (by lia)
 have c2:bU (bi (aq (ai 0) (aq (ai 1) bf))) dl (aW (ad (ar 0) (ad (aH kr (ad (ar 1) am)) am))) [.un,.un] ((e9 (dS (ts.filter dt))).map grD) = some ((g6 ts).map pyD):=by
  rw [bp grD (fun g=>pyD (g.1,lV g.2))]
  ·unfold g6
   rw [PD]
   rfl
  ·intro g hg
   have h1:g.2.length < 30000:=by
    have h2:g.2.length <= ((e9 (dS (ts.filter dt))).map fun g=>g.2.length).sum:=pT (Pq.mpr ⟨g,hg,rfl⟩)
    have:=og.len
    lia
   have h3:=mz g.2 h1
   simp [fe,grD,h3]
 simp [gw,j5,fnO,im,hl,hc,hb,k1,frz,IW,hl2,c2]
theorem qX (p q:Pic):aj (p ++ q) = aj p ++ aj q:=by unfold aj;rw [List.flatMap_append]
theorem d6 {p:Pic} {q:Int × R} (h:q ∈ p):q.2.length <= (aj p).length:=by
 induction p with
 | nil=>cases h
 | cons s p ih=>
  rw [bz,Ph,Pc]
  rcases Pn.mp h with rfl | h
  ·lia
  ·have:=ih h;lia
theorem oZ (p:Pic) (h:(aj p).length <= 100000):fx [au p] = some (.lst ((aj p).map (O.sh ∘ dm))):=by
 obtain ⟨ρ',k1,v2,v3,rfl⟩:=cE (g:=bi (aq (ai 2) (aq (ai 3) bf))) (m:=eV) pyD (fun pre ρ=>∃ v2 v3,ρ = [.sh (au p),.ow (.lst ((aj pre).map (O.sh ∘ dm))),v2,v3]) p [.sh (au p),.ow (.lst []),.un,.un] ⟨_,_,rfl⟩ (by
  rintro pre q post _ e ⟨v2,v3,rfl⟩
  have hlen:(aj pre).length + q.2.length <= 100000:=by
   rw [e,qX,bz,Ph,Ph,Pc] at h
   lia
  have hl:(aj pre).length + q.2.length <= LIM:=bj hlen
  have hl2:q.2.length <= LIM:=bj (by lia)
  have hc:bU (bi (aq (ai 0) (aq (ai 1) bf))) dl (aW (ad (ar 2) (ad (ar 0) (ad (ar 1) am)))) [.un,.un,.sh (.int q.1)] (q.2.map prD) = some (q.2.map fun s=>dm (q.1,s)):=bp prD _ q.2 fun s _=>by simp [fe]
  refine ⟨_,[.sh (au p),.ow (.lst ((aj (pre ++ [q])).map (O.sh ∘ dm))),.sh (.int q.1),.sh (bQ q.2)],rfl,.inl ?_,_,_,rfl⟩
  have es:aj (pre ++ [q]) = aj pre ++ q.2.map fun s=>(q.1,s):=by rw [qX,bz];simp [aj]
  rw [es]
  simp [eV,hl,hl2,hc])
 simp [fx,fnO,gy,k1]
theorem cO (p:Pic) (h:(aj p).length <= 100000):bW [au p] = some (.lst ((aj p).map dm)):=by
 unfold bW
 rw [oZ p h]
 simp
theorem gM {α:Type} (l:List α) (k:α -> Int) (enc:α -> D) (x:Int) (he:∀ a,dIx (enc a) (.int 0) = some (.int (k a))) (hl:l.length <= 100000) (pw:l.Pairwise fun a b=>k a < k b) :
  ∃ n:Nat,n <= l.length /\ fc [.tup (l.map enc),.int x] = some (.int n) /\ ∀ (i:Nat) a,l[i]? = some a -> (k a <= x ↔ i < n):=by
 have lt:∀ (i j:Nat) a b,l[i]? = some a -> l[j]? = some b -> i < j -> k a < k b:=fun i j a b hi hj hij=>by
  obtain ⟨h1,rfl⟩:=Pw.mp hi
  obtain ⟨h2,rfl⟩:=Pw.mp hj
  exact QH.mp pw i j h1 h2 hij
 obtain ⟨ρ',k1,n,v3,v4,rfl,h1,h2⟩:=kX (c:=dR) (m:=dJ)
  (fun ρ=>∃ (lo hi:Nat) (v4:Sl),ρ = [.sh (.tup (l.map enc)),.sh (.int x),.sh (.int lo),.sh (.int hi),v4] /\ lo <= hi /\ hi <= l.length /\ (∀ (i:Nat) a,l[i]? = some a -> i < lo -> k a <= x) /\ ∀ (i:Nat) a,l[i]? = some a -> hi <= i -> x < k a)
  (fun ρ=>match ρ with | [_,_,.sh (.int lo),.sh (.int hi),_]=>(hi - lo).toNat | _=>0)
  (fun ρ=>∃ (n:Nat) (v3 v4:Sl),ρ = [.sh (.tup (l.map enc)),.sh (.int x),.sh (.int n),v3,v4] /\ n <= l.length /\ ∀ (i:Nat) a,l[i]? = some a -> (k a <= x ↔ i < n))
  (by
   rintro _ ⟨lo,hi,v4,rfl,h1,h2,h3,h4⟩
   by_cases hc:lo < hi
   ·right
    have hc':(lo:Int) < hi:=by lia
    obtain ⟨a,ha⟩:∃ a,l[(lo + hi) / 2]? = some a:=⟨_,P7 (by lia)⟩
    have em:((lo:Int) + hi) / 2 = (((lo + hi) / 2:Nat):Int):=by lia
    have ea:atI (l.map enc) (((lo:Int) + hi) / 2) = some (enc a):=by rw [em];exact gP (by rw [PB,ha];rfl)
    refine ⟨by simp [dR,hc'],?_⟩
    by_cases ck:k a <= x
    ·refine ⟨[.sh (.tup (l.map enc)),.sh (.int x),.sh (.int (((lo + hi) / 2 + 1:Nat):Int)),.sh (.int hi),.sh (.int (((lo:Int) + hi) / 2))],?_,⟨(lo + hi) / 2 + 1,hi,_,rfl,by lia,h2,fun i b hb hi'=>?_,h4⟩,by dsimp only;lia⟩
     ·simp [dJ,ea,he,ck]
     ·by_cases z:i = (lo + hi) / 2
      ·subst z;rw [ha] at hb;cases hb;exact ck
      ·have:=lt i _ b a hb ha (by lia);lia
    ·refine ⟨[.sh (.tup (l.map enc)),.sh (.int x),.sh (.int lo),.sh (.int (((lo + hi) / 2:Nat):Int)),.sh (.int (((lo:Int) + hi) / 2))],?_,⟨lo,(lo + hi) / 2,_,rfl,by lia,by lia,h3,fun i b hb hi'=>?_⟩,by dsimp only;lia⟩
     ·simp [dJ,ea,he,ck]
     ·by_cases z:i = (lo + hi) / 2
      ·subst z;rw [ha] at hb;cases hb;lia
      ·have:=lt _ i a b ha hb (by lia);lia
   ·left
    have hc':¬ (lo:Int) < hi:=by lia
    have e:lo = hi:=by lia
    subst e
    refine ⟨by simp [dR],lo,_,_,rfl,h2,fun i a ha=>⟨fun hk=>?_,fun hi'=>h3 i a ha hi'⟩⟩
    by_cases z:i < lo
    ·exact z
    ·have:=h4 i a ha (by lia);lia)
  [.sh (.tup (l.map enc)),.sh (.int x),.sh (.int 0),.sh (.int l.length),.un]
  ⟨0,l.length,_,rfl,PU _,Pf _,fun i a _ h=>absurd h (Nat.not_lt_zero _),fun i a ha h=>by have:=(Pw.mp ha).1;lia⟩
 refine ⟨n,h1,?_,h2⟩
 simp [fc,iZ,fnO,gS,k1]
def bA (p:Pic) (y:Int):R:=match p.find? fun q=>decide (q.1 = y) with | some q=>q.2 | none=>[]
theorem nj {p:Pic} (c:av p) {q:Int × R} (hq:q ∈ p):bA p q.1 = q.2:=by
 unfold bA
 cases e:p.find? fun s=>decide (s.1 = q.1) with
 | none=>
  have:=List.find?_eq_none.mp e q hq
  simp at this
 | some s=>
  have h1:=List.find?_some e
  have h2:=List.mem_of_find?_eq_some e
  have h3:s.1 = q.1:=QZ h1
  have:s = q:=by
   obtain ⟨i,hi⟩:=Qh h2
   obtain ⟨j,hj⟩:=Qh hq
   obtain ⟨li,ei⟩:=Pw.mp hi
   obtain ⟨lj,ej⟩:=Pw.mp hj
   have pw:=QH.mp c.2
   by_cases z:i < j
   ·have:=pw i j li lj z;rw [ei,ej] at this;lia
   ·by_cases z2:j < i
    ·have:=pw j i lj li z2;rw [ei,ej] at this;lia
    ·have:i = j:=by lia
     subst this
     rw [hi] at hj;exact PR hj
  rw [this]
theorem lh {p:Pic} {y:Int} (h:∀ q ∈ p,q.1 ≠ y):bA p y = []:=by
 unfold bA
 have:p.find? (fun q=>decide (q.1 = y)) = none:=List.find?_eq_none.mpr fun q hq=>by simpa using h q hq
 rw [this]
theorem eI {p:Pic} (c:av p) (y:Int):bc (bA p y):=by
 by_cases h:∃ q ∈ p,q.1 = y
 ·obtain ⟨q,hq,rfl⟩:=h
  rw [nj c hq];exact (c.1 q hq).1
 ·rw [lh fun q hq e=>h ⟨q,hq,e⟩];exact di
theorem ku {p:Pic} (c:av p) (x y:Int):Mem (bA p y) x ↔ aN p x y:=by
 constructor
 ·intro h
  by_cases k:∃ q ∈ p,q.1 = y
  ·obtain ⟨q,hq,rfl⟩:=k
   rw [nj c hq] at h
   exact ⟨q,hq,rfl,h⟩
  ·rw [lh fun q hq e=>k ⟨q,hq,e⟩] at h
   exact (bn _ h).elim
 ·rintro ⟨q,hq,rfl,h⟩
  rw [nj c hq];exact h
theorem sX (p:Pic) (y:Int) (c:av p) (h:p.length <= 100000):g7 [au p,.int y] = some (bQ (bA p y)):=by
 obtain ⟨n,h1,h2,h3⟩:=gM p (·.1) pyD y (fun a=>by simp) h c.2
 by_cases hn:n = 0
 ·subst hn
  have e:bA p y = []:=lh fun q hq e=>by
   obtain ⟨j,ej⟩:=Qh hq
   exact absurd ((h3 j q ej).mp (by lia)) (Nat.not_lt_zero _)
  simp at h2
  simp [g7,kb,fnO,kl,h2,e]
 ·obtain ⟨q,hq⟩:∃ q,p[n - 1]? = some q:=⟨_,P7 (by lia)⟩
  have en:(n:Int) - 1 = ((n - 1:Nat):Int):=by lia
  have ea:atI (p.map pyD) ((n:Int) - 1) = some (pyD q):=by rw [en];exact gP (by rw [PB,hq];rfl)
  have hn':(0:Int) < n:=by lia
  have hn2:0 < n:=by lia
  by_cases hy:q.1 = y
  ·have e:bA p y = q.2:=by rw [<- hy];exact nj c (QV hq)
   simp [g7,kb,fnO,kl,h2,hn,hn',hn2,ea,hy,e]
  ·have e:bA p y = []:=lh fun s hs e=>by
    obtain ⟨j,ej⟩:=Qh hs
    have hj:=(h3 j s ej).mp (by lia)
    by_cases z:j = n - 1
    ·subst z;rw [hq] at ej;cases ej;exact hy e
    ·obtain ⟨l1,e1⟩:=Pw.mp ej
     obtain ⟨l2,e2⟩:=Pw.mp hq
     have:=QH.mp c.2 j (n - 1) l1 l2 (by lia)
     rw [e1,e2] at this
     have:=(h3 _ _ hq).mpr (by lia)
     lia
   simp [g7,kb,fnO,kl,h2,hn,hn',hn2,ea,hy,e]
theorem lA (r t:R) (h:r.length + t.length <= 30000):fU [bQ r,bQ t] = some (bQ (dH r t)):=by
 have hlen:=qC _ r t rfl
 have key:∃ ρ',eg c0 b5 [.sh (bQ r),.sh (bQ t),.ow (.lst []),.sh (.int 0),.sh (.int 0),.un,.un] = some (.nx ρ') /\ ∃ v3 v4 v5 v6,ρ' = [.sh (bQ r),.sh (bQ t),owl ((dH r t).map prD),v3,v4,v5,v6]:=by
  refine kX (fun ρ=>∃ (acc:R) (i j:Nat) (v5 v6:Sl),ρ = [.sh (bQ r),.sh (bQ t),owl (acc.map prD),.sh (.int i),.sh (.int j),v5,v6] /\ i <= r.length /\ j <= t.length /\ acc ++ dH (r.drop i) (t.drop j) = dH r t)
   (fun ρ=>match ρ with | [_,_,_,.sh (.int i),.sh (.int j),_,_]=>(r.length + t.length - i - j).toNat | _=>0) _ ?_ _ ⟨[],0,0,.un,.un,rfl,PU _,PU _,rfl⟩
  rintro _ ⟨acc,i,j,v5,v6,rfl,hi,hj,e⟩
  have hacc:acc.length <= 30000:=by
   have:=PC List.length e
   rw [Ph] at this
   lia
  have hlim:acc.length < LIM:=jE (by lia)
  cases qi:r[i]? with
  | none=>
   have hi':i = r.length:=by have:=Ru.mp qi;lia
   subst hi'
   rw [QX (Pf _),fh,P6] at e
   subst e
   exact .inl ⟨by simp [c0],_,_,_,_,rfl⟩
  | some p=>
   have hi':=(Pw.mp qi).1
   have ei:(i:Int) < r.length:=by lia
   cases qj:t[j]? with
   | none=>
    have hj':j = t.length:=by have:=Ru.mp qj;lia
    subst hj'
    rw [QX (Pf _),eD,P6] at e
    subst e
    exact .inl ⟨by simp [c0,ei],_,_,_,_,rfl⟩
   | some q=>
    have hj':=(Pw.mp qj).1
    have ej:(j:Int) < t.length:=by lia
    have a1:=Jm qi
    have a2:=Jm qj
    rw [iI qi,iI qj,E4] at e
    refine .inr ⟨by simp [c0,ei,ej],?_⟩
    by_cases c1:max p.1 q.1 <= min p.2 q.2
    ·rw [O7 c1] at e
     by_cases c2:p.2 < q.2
     ·rw [O7 c2,<- iI qj] at e
      exact ⟨[.sh (bQ r),.sh (bQ t),owl ((acc ++ [(max p.1 q.1,min p.2 q.2)]).map prD),.sh (.int ((i + 1:Nat):Int)),.sh (.int j),.sh (.int (max p.1 q.1)),.sh (.int (min p.2 q.2))],by simp [b5,a1,a2,mx,mn,c1,c2,hlim],⟨_,i + 1,j,_,_,rfl,hi',hj,by rw [PQ];exact e⟩,by dsimp only;lia⟩
     ·rw [O8 c2,<- iI qi] at e
      exact ⟨[.sh (bQ r),.sh (bQ t),owl ((acc ++ [(max p.1 q.1,min p.2 q.2)]).map prD),.sh (.int i),.sh (.int ((j + 1:Nat):Int)),.sh (.int (max p.1 q.1)),.sh (.int (min p.2 q.2))],by simp [b5,a1,a2,mx,mn,c1,c2,hlim],⟨_,i,j + 1,_,_,rfl,hi,hj',by rw [PQ];exact e⟩,by dsimp only;lia⟩
    ·rw [O8 c1,List.nil_append] at e
     by_cases c2:p.2 < q.2
     ·rw [O7 c2,<- iI qj] at e
      exact ⟨[.sh (bQ r),.sh (bQ t),owl (acc.map prD),.sh (.int ((i + 1:Nat):Int)),.sh (.int j),.sh (.int (max p.1 q.1)),.sh (.int (min p.2 q.2))],by simp [b5,a1,a2,mx,mn,c1,c2,hlim],⟨_,i + 1,j,_,_,rfl,hi',hj,e⟩,by dsimp only;lia⟩
     ·rw [O8 c2,<- iI qi] at e
      exact ⟨[.sh (bQ r),.sh (bQ t),owl (acc.map prD),.sh (.int i),.sh (.int ((j + 1:Nat):Int)),.sh (.int (max p.1 q.1)),.sh (.int (min p.2 q.2))],by simp [b5,a1,a2,mx,mn,c1,c2,hlim],⟨_,i,j + 1,_,_,rfl,hi,hj',e⟩,by dsimp only;lia⟩
 obtain ⟨ρ',k1,v3,v4,v5,v6,rfl⟩:=key
 simp [fU,jQ,fnO,iq,k1]
theorem tY (r t:R) (h:r.length + t.length < 10000):kZ [bQ r,bQ t] = some (bQ (iK r t)):=by
 have hl:r.length + t.length <= LIM:=bj (by lia)
 have hl2:(r ++ t).length <= LIM:=by rw [Ph];exact hl
 have c1:bU (bi (aq (ai 0) (aq (ai 1) bf))) dl (ar 0) [.un,.un] ((r ++ t).map prD) = some ((r ++ t).map fun p=>.int p.1):=bp prD _ _ fun p _=>by simp [fe]
 have c2:bU (bi (aq (ai 0) (aq (ai 1) bf))) dl (xOp bM (ag 1) (xC (.int 1))) [.un,.un] ((r ++ t).map prD) = some ((r ++ t).map fun p=>.int (p.2 + 1)):=bp prD _ _ fun p _=>by simp [fe]
 have ec:((r ++ t).map fun p=>D.int p.1) ++ ((r ++ t).map fun p=>D.int (p.2 + 1)) = (chg (r ++ t)).map D.int:=by
  unfold chg
  rw [Qf (f:=D.int),PD,PD]
  rfl
 have hcl:=zE (r ++ t)
 rw [Ph] at hcl
 have hsl:(g8 (chg (r ++ t))).length = 2 * (r.length + t.length):=by rw [(fA _).length_eq,hcl]
 have hb:=za (chg (r ++ t)) (by lia)
 have c3:=Cg (r.length + t.length) (g8 (chg (r ++ t))) hsl
 have hro:=mz (fE (g8 (chg (r ++ t)))) (by rw [pr _ _ hsl];lia)
 have hsum:r.length + t.length + (r.length + t.length) <= LIM:=bj (by lia)
 have hrng:DQ [.int 0,.int ((2 * (r.length + t.length):Nat):Int),.int 2] = some (ga 0 (r.length + t.length)):=by
  rw [JU (by lia)]
  congr 2
  lia
 have hel:(ga 0 (r.length + t.length)).length <= LIM:=by rw [pz];exact hl
 rw [<- ec] at hb
 rw [<- hsl] at hrng
 simp only [Qf,PQ] at c1 c2 hb
 simp [kZ,j7,fnO,iA,Cj,BI,hl,c1,c2,hsum,hb,hrng,hel,c3,hro,iK]
theorem xn (r t:R) (h:2 * r.length + t.length < 10000):ld [bQ r,bQ t] = some (bQ (jY r t)):=by
 have h1:=lA r t (by lia)
 have h2:=tY r (dH r t) (by have:=qC _ r t rfl;lia)
 simp [ld,mo,fnO,kP,h1,h2,jY]
def iy (q:Int × R):Bool:=!decide (q.2 = [])
theorem zB:∀ l:Pic,l.filterMap (fun q=>if q.2 = [] then none else some (pyD q)) = (l.filter iy).map pyD
 | []=>rfl
 | q :: l=>by
  by_cases h:q.2 = []
  ·simp [h,iy,<- zB l]
  ·simp [h,iy,<- zB l]
theorem cL (l:Pic) (h:l.length <= 30000):bC [.lst (l.map pyD)] = some (au (l.filter iy)):=by
 have hl:l.length <= LIM:=bj (by lia)
 have hf:=Qt iy l
 have hl2:(l.filter iy).length <= LIM:=bj (by lia)
 have hc:bU (bi (aq (ai 0) (aq (ai 1) bf))) (xB (xOp (dEq true) (ag 1) (aW am))) (aW (ad (ar 0) (ad (ar 1) am))) [.un,.un] (l.map pyD) = some ((l.filter iy).map pyD):=by
  rw [i7 pyD (fun q=>if q.2 = [] then none else some (pyD q)) l,zB]
  intro q _
  have d:dEq true (bQ q.2) (.tup []) = some (.bl (!decide (q.2 = []))):=Ib true q.2 []
  by_cases hq:q.2 = []
  ·simp [hq] at d
   simp [fe,hq,d]
  ·simp [hq] at d
   simp [fe,hq,d]
 simp [bC,fN,fnO,ez,hl,hc,hl2]
def pW (f:R -> R -> R) (p q:Pic):Pic:=(p.map fun s=>(s.1,f s.2 (bA q s.1))).filter iy
def cmP (p q:Pic):Pic:=pW dH p q
def leP (p q:Pic):Pic:=pW jY p q
def joP (p q:Pic):Pic:=g6 (aj p ++ aj q)
theorem sO {f:R -> R -> R} {p q:Pic} (cp:av p) (h:∀ s ∈ p,bc (f s.2 (bA q s.1))):av (pW f p q):=by
 refine ⟨fun s hs=>?_,?_⟩
 ·obtain ⟨h1,h2⟩:=PN.mp hs
  obtain ⟨z,hz,rfl⟩:=Pq.mp h1
  exact ⟨h z hz,by simpa [iy] using h2⟩
 ·refine RZ _ ?_
  rw [Qq]
  exact cp.2
theorem yH {f:R -> R -> R} {p q:Pic} (x y:Int):aN (pW f p q) x y ↔ ∃ s ∈ p,s.1 = y /\ Mem (f s.2 (bA q s.1)) x:=by
 constructor
 ·rintro ⟨s,hs,h1,h2⟩
  obtain ⟨z,hz,rfl⟩:=Pq.mp (PN.mp hs).1
  exact ⟨z,hz,h1,h2⟩
 ·rintro ⟨z,hz,h1,h2⟩
  refine ⟨(z.1,f z.2 (bA q z.1)),PN.mpr ⟨Pq.mpr ⟨z,hz,rfl⟩,?_⟩,h1,h2⟩
  unfold iy
  rw [Bool.not_eq_true',R0]
  intro e
  dsimp only at e
  rw [e] at h2
  exact bn _ h2
theorem yC {p q:Pic} (cp:av p) (cq:av q):av (cmP p q):=sO cp fun s hs=>(kn (cp.1 s hs).1 (eI cq _)).1
theorem xH {p q:Pic} (cp:av p) (cq:av q):av (leP p q):=sO cp fun s hs=>(se (cp.1 s hs).1 (eI cq _)).1
theorem yo (p q:Pic):av (joP p q):=(gd _).1
theorem C6 {p q:Pic} (cp:av p) (cq:av q) (x y:Int):aN (cmP p q) x y ↔ aN p x y /\ aN q x y:=by
 unfold cmP
 rw [yH]
 constructor
 ·rintro ⟨s,hs,rfl,h2⟩
  rw [(kn (cp.1 s hs).1 (eI cq _)).2,ku cq] at h2
  exact ⟨⟨s,hs,rfl,h2.1⟩,h2.2⟩
 ·rintro ⟨⟨s,hs,rfl,h1⟩,h2⟩
  exact ⟨s,hs,rfl,by rw [(kn (cp.1 s hs).1 (eI cq _)).2,ku cq];exact ⟨h1,h2⟩⟩
theorem zL {p q:Pic} (cp:av p) (cq:av q) (x y:Int):aN (leP p q) x y ↔ aN p x y /\ ¬ aN q x y:=by
 unfold leP
 rw [yH]
 constructor
 ·rintro ⟨s,hs,rfl,h2⟩
  rw [(se (cp.1 s hs).1 (eI cq _)).2,ku cq] at h2
  exact ⟨⟨s,hs,rfl,h2.1⟩,h2.2⟩
 ·rintro ⟨⟨s,hs,rfl,h1⟩,h2⟩
  exact ⟨s,hs,rfl,by rw [(se (cp.1 s hs).1 (eI cq _)).2,ku cq];exact ⟨h1,h2⟩⟩
theorem Di (p q:Pic) (x y:Int):aN (joP p q) x y ↔ aN p x y \/ aN q x y:=by
 unfold joP
 rw [(gd _).2,mt,ki,ki]
theorem ox {p:Pic} (y:Int):(bA p y).length <= (aj p).length:=by
 unfold bA
 cases h:p.find? fun q=>decide (q.1 = y) with
 | none=>exact PU _
 | some q=>exact d6 (List.mem_of_find?_eq_some h)
theorem ye (p q:Pic) (h:(aj p).length + (aj q).length < 30000):ww [au p,au q] = some (au (joP p q)):=by
 have h1:=cO p (by lia)
 have h2:=cO q (by lia)
 have hl:(aj p).length + (aj q).length <= LIM:=bj (by lia)
 have hm:=hE (aj p ++ aj q) (by rw [Ph];exact h)
 rw [Qf] at hm
 simp [ww,yR,fnO,zj,h1,h2,BI,hl,hm,joP]
theorem sR {p q:Pic} (cq:av q) (h1:p.length <= 30000) (h2:q.length <= 30000) (h:(aj p).length + (aj q).length <= 30000):q9 [au p,au q] = some (au (cmP p q)):=by
 have hl:p.length <= LIM:=bj (by lia)
 have hc:bU (bi (aq (ai 0) (aq (ai 1) bf))) dl (aW (ad (ar 0) (ad (aH fU (ad (ar 1) (ad (aH g7 (ad (ar 2) (ad (ar 0) am))) am))) am))) [.un,.un,.sh (au q)] (p.map pyD) = some ((p.map fun s=>(s.1,dH s.2 (bA q s.1))).map pyD):=by
  rw [PD]
  exact bp pyD (fun s=>pyD (s.1,dH s.2 (bA q s.1))) p fun s hs=>by
   have a1:=sX q s.1 cq (by lia)
   have a2:=lA s.2 (bA q s.1) (by have:=d6 hs;have:=ox (p:=q) s.1;lia)
   simp [fe,a1,a2]
 have hm:=cL (p.map fun s=>(s.1,dH s.2 (bA q s.1))) (by rw [Pc];exact h1)
 rw [PD] at hm hc
 simp [q9,sd,fnO,qB,hl,hc,hm,cmP,pW]
theorem xP {p q:Pic} (cq:av q) (h1:p.length <= 30000) (h2:q.length <= 30000) (h:2 * (aj p).length + (aj q).length < 10000):rF [au p,au q] = some (au (leP p q)):=by
 have hl:p.length <= LIM:=bj (by lia)
 have hc:bU (bi (aq (ai 0) (aq (ai 1) bf))) dl (aW (ad (ar 0) (ad (aH ld (ad (ar 1) (ad (aH g7 (ad (ar 2) (ad (ar 0) am))) am))) am))) [.un,.un,.sh (au q)] (p.map pyD) = some ((p.map fun s=>(s.1,jY s.2 (bA q s.1))).map pyD):=by
  rw [PD]
  exact bp pyD (fun s=>pyD (s.1,jY s.2 (bA q s.1))) p fun s hs=>by
   have a1:=sX q s.1 cq (by lia)
   have a2:=xn s.2 (bA q s.1) (by have:=d6 hs;have:=ox (p:=q) s.1;lia)
   simp [fe,a1,a2]
 have hm:=cL (p.map fun s=>(s.1,jY s.2 (bA q s.1))) (by rw [Pc];exact h1)
 rw [PD] at hm hc
 simp [rF,yS,fnO,zH,hl,hc,hm,leP,pW]
theorem eU:∀ p:Pic,aj (p.filter iy) = aj p
 | []=>rfl
 | q :: p=>by
  rw [RX]
  by_cases h:q.2 = []
  ·have:iy q = false:=by simp [iy,h]
   rw [this,bz,h]
   exact eU p
  ·have:iy q = true:=by simp [iy,h]
   rw [this,O7 rfl,bz,bz,eU p]
theorem vz (r:R) (by':Int) (h:r.length <= 30000):jC [bQ r,.int by'] = some (bQ (oM r by' by')):=by
 have hl:r.length <= LIM:=bj (by lia)
 have hc:bU (bi (aq (ai 0) (aq (ai 1) bf))) dl (aW (ad (xOp bM (ag 0) (ag 2)) (ad (xOp bM (ag 1) (ag 2)) am))) [.un,.un,.sh (.int by')] (r.map prD) = some (r.map fun p=>prD (p.1 + by',p.2 + by')):=bp prD _ r fun p _=>by simp [fe]
 simp [jC,ln,fnO,jG,hl,hc,oM]
def mvP (p:Pic) (dx dy:Int):Pic:=p.map fun q=>(q.1 + dy,oM q.2 dx dx)
theorem wB (p:Pic) (dx dy:Int) (h:p.length <= 30000) (hr:∀ q ∈ p,q.2.length <= 30000):ug [au p,.int dx,.int dy] = some (au (mvP p dx dy)):=by
 have hl:p.length <= LIM:=bj (by lia)
 have hc:bU (bi (aq (ai 0) (aq (ai 1) bf))) dl (aW (ad (xOp bM (ag 0) (ag 2)) (ad (aH jC (ad (ar 1) (ad (ar 3) am))) am))) [.un,.un,.sh (.int dy),.sh (.int dx)] (p.map pyD) = some (p.map fun q=>pyD (q.1 + dy,oM q.2 dx dx)):=bp pyD _ p fun q hq=>by
  have:=vz q.2 dx (hr q hq)
  simp [fe,this]
 simp [ug,vM,fnO,uu,hl,hc,mvP]
theorem AY {r:R} (c:bc r) (d:Int):bc (oM r d d):=by
 refine ⟨Ft c.1 (Pl _),?_⟩
 unfold oM
 rw [Qq]
 exact c.2.imp fun {p q} h=>by dsimp only;lia
theorem He (r:R) (d x:Int):Mem (oM r d d) x ↔ Mem r (x - d):=by
 rw [Eb]
 constructor
 ·rintro ⟨p,hp,h1,h2⟩;exact ⟨p,hp,by lia,by lia⟩
 ·rintro ⟨p,hp,h1,h2⟩;exact ⟨p,hp,by lia,by lia⟩
theorem Ew {p:Pic} (c:av p) (dx dy:Int):av (mvP p dx dy):=by
 refine ⟨fun q hq=>?_,?_⟩
 ·obtain ⟨s,hs,rfl⟩:=Pq.mp hq
  obtain ⟨h1,h2⟩:=c.1 s hs
  refine ⟨AY h1 dx,fun e=>h2 ?_⟩
  exact List.map_eq_nil_iff.mp e
 ·unfold mvP
  rw [Qq]
  exact c.2.imp fun {a b} h=>by dsimp only;lia
theorem DS (p:Pic) (dx dy x y:Int):aN (mvP p dx dy) x y ↔ aN p (x - dx) (y - dy):=by
 constructor
 ·rintro ⟨q,hq,h1,h2⟩
  obtain ⟨s,hs,rfl⟩:=Pq.mp hq
  dsimp only at h1 h2
  exact ⟨s,hs,by lia,(He _ _ _).mp h2⟩
 ·rintro ⟨s,hs,h1,h2⟩
  exact ⟨_,Pq.mpr ⟨s,hs,rfl⟩,by dsimp only;lia,(He _ _ _).mpr h2⟩
abbrev Blk:=Int × Int × Int × Int
abbrev cz (b:Blk):D:=.tup [.int b.1,.int b.2.1,.int b.2.2.1,.int b.2.2.2]
def n4 (b:Blk) (dx dy:Int):Prop:=b.1 <= dx /\ dx <= b.2.2.1 /\ b.2.1 <= dy /\ dy <= b.2.2.2
def BOk (b:Blk):Prop:=b.1 <= b.2.2.1 /\ b.2.1 <= b.2.2.2
theorem FV (p:Pic) (dx dy:Int):(aj (mvP p dx dy)).length = (aj p).length:=by
 unfold mvP aj
 rw [RH,RH,PD]
 congr 1
 apply List.map_congr_left
 intro q _
 simp [oM]
theorem nI (ts:List Tri):(aj (g6 ts)).length <= ts.length:=by
 have o:=m5 ts
 have h1:∀ gs:Pic,(aj (gs.map fun g=>(g.1,lV g.2))).length <= (gs.map fun g=>g.2.length).sum:=by
  intro gs
  induction gs with
  | nil=>simp [aj]
  | cons g gs ih=>
   have:=rZ g.2
   rw [Ps,bz,Ph,Pc,Ps,Qp]
   dsimp only
   lia
 have h2:=h1 (e9 (dS (ts.filter dt)))
 have h3:=o.len
 have h4:=(fL (ts.filter dt)).length_eq
 have h5:=Qt dt ts
 have h6:aj (g6 ts) = aj ((e9 (dS (ts.filter dt))).map fun g=>(g.1,lV g.2)):=rfl
 rw [h6]
 lia
theorem nO {p:Pic} (c:av p):p.length <= (aj p).length:=by
 induction p with
 | nil=>exact Pf _
 | cons q p ih=>
  obtain ⟨⟨_,h1⟩,_,h2⟩:=pcanon_cons.mp c
  have:=ih h2
  have:=Rv.mpr h1
  rw [bz,Ph,Pc,Pr]
  lia
theorem yJ {p:Pic} (c:av p):∀ t ∈ aj p,t.2.1 <= t.2.2:=by
 intro t ht
 obtain ⟨q,hq,h⟩:=List.mem_flatMap.mp ht
 obtain ⟨s,hs,rfl⟩:=Pq.mp h
 exact (c.1 q hq).1.1 s hs
theorem J9 (p q:Pic):(aj (joP p q)).length <= (aj p).length + (aj q).length:=by
 have:=nI (aj p ++ aj q)
 rwa [Ph] at this
theorem sH (p:Pic) (c:av p) (n:Nat) (hs:(2 * n + 1) * (aj p).length <= 10000):∃ q:Pic,gZ [au p,.int (n:Int)] = some (au q) /\ av q /\ (aj q).length <= (2 * n + 1) * (aj p).length /\ ∀ x y,aN q x y ↔ ∃ j:Int,0 <= j /\ j <= n /\ aN p x (y - j):=by
 obtain ⟨ρ',k1,q,v2,v3,rfl,a1,a3,a4⟩:=kX (c:=dQ) (m:=fw)
  (fun ρ=>∃ (q:Pic) (k:Nat) (v3:Sl),ρ = [.sh (au q),.sh (.int (n:Int)),.sh (.int (k:Int)),v3] /\ k <= n /\ av q /\ ((aj q).length <= (k + 1) * (aj p).length \/ (k = n /\ (aj q).length <= (2 * n + 1) * (aj p).length)) /\ ∀ x y,aN q x y ↔ ∃ j:Int,0 <= j /\ j <= k /\ aN p x (y - j))
  (fun ρ=>match ρ with | [_,.sh (.int n),.sh (.int k),_]=>(n - k).toNat | _=>0)
  (fun ρ=>∃ (q:Pic) (v2 v3:Sl),ρ = [.sh (au q),.sh (.int (n:Int)),v2,v3] /\ av q /\ (aj q).length <= (2 * n + 1) * (aj p).length /\ ∀ x y,aN q x y ↔ ∃ j:Int,0 <= j /\ j <= n /\ aN p x (y - j))
  (by
   rintro _ ⟨q,k,v3,rfl,hk,c',hsz,hm⟩
   by_cases hc:k < n
   ·right
    have hc':(k:Int) < n:=by lia
    refine ⟨by simp [dQ,hc'],?_⟩
    have hsz':(aj q).length <= (k + 1) * (aj p).length:=hsz.elim id fun h=>by lia
    generalize hst:(if (n:Int) - k < (k:Int) + 1 then (n:Int) - k else (k:Int) + 1) = st
    have hst1:1 <= st /\ st <= k + 1 /\ st <= n - k /\ (st = k + 1 \/ st = n - k):=by rw [<- hst];split <;> lia
    have e1:(k + 1) * (aj p).length <= (2 * n + 1) * (aj p).length:=QB _ (by lia)
    have lq:(aj q).length <= 10000:=by lia
    have rq:=nO c'
    have mv:=wB q 0 st (by lia) fun z hz=>by have:=d6 hz;lia
    have smv:=FV q 0 st
    have jo:=ye q (mvP q 0 st) (by lia)
    have sjo:=J9 q (mvP q 0 st)
    have ek:(((k + st.toNat:Nat)):Int) = (k:Int) + st:=by lia
    refine ⟨[.sh (au (joP q (mvP q 0 st))),.sh (.int (n:Int)),.sh (.int ((k + st.toNat:Nat):Int)),.sh (.int st)],?_,⟨joP q (mvP q 0 st),k + st.toNat,_,rfl,by lia,yo _ _,?_,fun x y=>?_⟩,by dsimp only;lia⟩
    ·rw [ek]
     simp [fw,hst,mv,jo]
    ·rcases hst1.2.2.2 with e | e
     ·left
      have e2:(k + st.toNat + 1) * (aj p).length = (k + 1) * (aj p).length + (k + 1) * (aj p).length:=by
       rw [<- Qj]
       congr 1
       lia
      lia
     ·right
      have e2:(k + 1) * (aj p).length + (k + 1) * (aj p).length <= (2 * n + 1) * (aj p).length:=by
       rw [<- Qj]
       exact QB _ (by lia)
      exact ⟨by lia,by lia⟩
    ·rw [Di,DS,hm,hm,show x - 0 = x by lia]
     constructor
     ·rintro (⟨j,j0,j1,g⟩ | ⟨j,j0,j1,g⟩)
      ·exact ⟨j,j0,by lia,g⟩
      ·exact ⟨st + j,by lia,by lia,by rwa [show y - (st + j) = y - st - j by lia]⟩
     ·rintro ⟨j,j0,j1,g⟩
      by_cases hj:j <= k
      ·exact .inl ⟨j,j0,hj,g⟩
      ·exact .inr ⟨j - st,by lia,by lia,by rwa [show y - st - (j - st) = y - j by lia]⟩
   ·left
    have ek:k = n:=by lia
    subst ek
    refine ⟨by simp [dQ],q,_,_,rfl,c',?_,hm⟩
    rcases hsz with h | h
    ·have:(k + 1) * (aj p).length <= (2 * k + 1) * (aj p).length:=QB _ (by lia)
     lia
    ·exact h.2)
  [.sh (au p),.sh (.int (n:Int)),.sh (.int 0),.un] ⟨p,0,.un,rfl,by lia,c,.inl (by lia),fun x y=>⟨fun h=>⟨0,by lia,by lia,by rwa [show y - 0 = y by lia]⟩,fun ⟨j,j0,j1,h⟩=>by rwa [show y - j = y by lia] at h⟩⟩
 exact ⟨q,by simp [gZ,iL,fnO,gT,k1],a1,a3,a4⟩
def fQ (b:Blk) (t:Tri):Tri:=(t.1 + b.2.1,t.2.1 + b.1,t.2.2 + b.2.2.1)
theorem wn {p:Pic} (c:av p) {b:Blk} (hb:b.1 <= b.2.2.1) (x y:Int):kJ ((aj p).map (fQ b)) x y ↔ ∃ dx,b.1 <= dx /\ dx <= b.2.2.1 /\ aN p (x - dx) (y - b.2.1):=by
 constructor
 ·rintro ⟨_,ht0,h1,h2,h3⟩
  obtain ⟨t,ht,rfl⟩:=Pq.mp ht0
  have ok:=yJ c t ht
  simp only [fQ] at h1 h2 h3
  refine ⟨max b.1 (x - t.2.2),by lia,by lia,?_⟩
  exact (ki _ _ _).mp ⟨t,ht,by lia,by lia,by lia⟩
 ·rintro ⟨dx,d1,d2,h⟩
  obtain ⟨t,ht,h1,h2,h3⟩:=(ki _ _ _).mpr h
  exact ⟨_,Pq.mpr ⟨t,ht,rfl⟩,by simp only [fQ];lia,by simp only [fQ];lia,by simp only [fQ];lia⟩
def GrB (p:Pic) (b:Blk) (x y:Int):Prop:=∃ dx dy,n4 b dx dy /\ aN p (x - dx) (y - dy)
theorem mf (p:Pic) (c:av p) (b:Blk) (hb:BOk b) (n:Nat) (hn:b.2.2.2 - b.2.1 = n) (hs:(2 * n + 1) * (aj p).length <= 10000):∃ ts:List Tri,dA [au p,cz b] = some (.lst (ts.map dm)) /\ (∀ t ∈ ts,t.2.1 <= t.2.2) /\ ts.length <= (2 * n + 1) * (aj p).length /\ ∀ x y,kJ ts x y ↔ GrB p b x y:=by
 have e1:(aj p).length <= (2 * n + 1) * (aj p).length:=Nat.le_mul_of_pos_left _ (by lia)
 have hl:(aj p).length <= LIM:=bj (by lia)
 have h1:=cO p (by lia)
 have hc:bU (bi (aq (ai 0) (aq (ai 1) (aq (ai 2) bf)))) dl (aW (ad (xOp bM (ag 0) (xOp dIx (ag 3) (xC (.int 1)))) (ad (xOp bM (ag 1) (xOp dIx (ag 3) (xC (.int 0)))) (ad (xOp bM (ag 2) (xOp dIx (ag 3) (xC (.int 2)))) am)))) [.un,.un,.un,.sh (cz b)] ((aj p).map dm) = some (((aj p).map (fQ b)).map dm):=by
  rw [PD]
  exact bp dm (dm ∘ fQ b) (aj p) fun q hq=>by simp [fe,atI,ixN,fQ]
 have hw:∀ t ∈ (aj p).map (fQ b),t.2.1 <= t.2.2:=by
  intro t ht
  obtain ⟨s,hs,rfl⟩:=Pq.mp ht
  have:=yJ c s hs
  have:=hb.1
  simp only [fQ]
  lia
 by_cases h0:b.2.1 = b.2.2.2
 ·refine ⟨(aj p).map (fQ b),?_,hw,by rw [Pc];exact e1,fun x y=>?_⟩
  ·generalize ((aj p).map (fQ b)).map dm = zs at hc
   simp [dA,cX,fnO,bZ,h1,hl,hc,atI,ixN,h0]
  ·rw [wn c hb.1]
   constructor
   ·rintro ⟨dx,d1,d2,h⟩
    exact ⟨dx,b.2.1,⟨d1,d2,by lia,by lia⟩,h⟩
   ·rintro ⟨dx,dy,⟨d1,d2,d3,d4⟩,h⟩
    refine ⟨dx,d1,d2,?_⟩
    rwa [show b.2.1 = dy by lia]
 ·have lw:(aj (g6 ((aj p).map (fQ b)))).length <= (aj p).length:=by
   have:=nI ((aj p).map (fQ b))
   rwa [Pc] at this
  have e2:(2 * n + 1) * (aj (g6 ((aj p).map (fQ b)))).length <= (2 * n + 1) * (aj p).length:=Rx _ lw
  obtain ⟨q,a1,a2,a3,a4⟩:=sH (g6 ((aj p).map (fQ b))) (gd _).1 n (by lia)
  have hp:=hE ((aj p).map (fQ b)) (by rw [Pc];lia)
  have h2:=cO q (by lia)
  have a1':gZ [au (g6 ((aj p).map (fQ b))),.int (b.2.2.2 - b.2.1)] = some (au q):=by rw [hn];exact a1
  refine ⟨aj q,?_,yJ a2,by lia,fun x y=>?_⟩
  ·generalize g6 ((aj p).map (fQ b)) = w at hp a1'
   generalize ((aj p).map (fQ b)).map dm = zs at hc hp
   simp [dA,cX,fnO,bZ,h1,hl,hc,atI,ixN,h0,hp,a1',h2]
  ·rw [ki,a4]
   constructor
   ·rintro ⟨j,j0,j1,h⟩
    rw [(gd _).2,wn c hb.1] at h
    obtain ⟨dx,d1,d2,h⟩:=h
    exact ⟨dx,b.2.1 + j,⟨d1,d2,by lia,by lia⟩,by rwa [show y - (b.2.1 + j) = y - j - b.2.1 by lia]⟩
   ·rintro ⟨dx,dy,⟨d1,d2,d3,d4⟩,h⟩
    refine ⟨dy - b.2.1,by lia,by lia,?_⟩
    rw [(gd _).2,wn c hb.1]
    exact ⟨dx,d1,d2,by rwa [show y - (dy - b.2.1) - b.2.1 = y - dy by lia]⟩
def cU (b:Blk):Nat:=2 * (b.2.2.2 - b.2.1).toNat + 1
def a9 (bs:List Blk):Nat:=(bs.map cU).sum
def GrP (p:Pic) (bs:List Blk) (x y:Int):Prop:=∃ b ∈ bs,GrB p b x y
theorem cH (as bs:List Blk):a9 (as ++ bs) = a9 as + a9 bs:=by unfold a9;rw [Qf,List.sum_append]
theorem mK (p:Pic) (c:av p) (bs:List Blk) (hb:∀ b ∈ bs,BOk b) (hs:a9 bs * (aj p).length <= 10000):∃ q:Pic,fT [au p,.tup (bs.map cz)] = some (au q) /\ av q /\ (aj q).length <= a9 bs * (aj p).length /\ ∀ x y,aN q x y ↔ GrP p bs x y:=by
 obtain ⟨ρ',k1,ts,v3,rfl,b1,b2⟩:=cE (g:=ai 3) (m:=cW) cz (fun pre ρ=>∃ (ts:List Tri) (v3:Sl),ρ = [.sh (au p),.sh (.tup (bs.map cz)),.ow (.lst (ts.map (O.sh ∘ dm))),v3] /\ ts.length <= a9 pre * (aj p).length /\ ∀ x y,kJ ts x y ↔ GrP p pre x y) bs [.sh (au p),.sh (.tup (bs.map cz)),.ow (.lst []),.un] ⟨[],_,rfl,by simp [a9],fun x y=>⟨fun ⟨_,h,_⟩=>(by cases h),fun ⟨_,h,_⟩=>(by cases h)⟩⟩ (by
  rintro pre b post _ e ⟨ts,v3,rfl,l1,l2⟩
  have hbb:=hb b (by rw [e];simp)
  have hh:a9 pre + cU b <= a9 bs:=by
   rw [e,cH]
   have:a9 (b :: post) = cU b + a9 post:=rfl
   lia
  have hh2:(a9 pre + cU b) * (aj p).length <= a9 bs * (aj p).length:=QB _ hh
  rw [Qj] at hh2
  obtain ⟨us,c1,c2,c3,c4⟩:=mf p c b hbb (b.2.2.2 - b.2.1).toNat (by have:=hbb.2;lia) (by show cU b * _ <= _;lia)
  have c3':us.length <= cU b * (aj p).length:=c3
  have hl:ts.length + us.length <= LIM:=bj (by lia)
  refine ⟨_,[.sh (au p),.sh (.tup (bs.map cz)),.ow (.lst ((ts ++ us).map (O.sh ∘ dm))),.sh (cz b)],rfl,.inl ?_,ts ++ us,_,rfl,?_,fun x y=>?_⟩
  ·simp [cW,c1,hl]
  ·rw [Ph,cH,Qj]
   have:a9 [b] = cU b:=by simp [a9]
   rw [this]
   lia
  ·rw [mt,l2,c4]
   unfold GrP
   simp only [Po,Pe]
   constructor
   ·rintro (⟨z,hz,h⟩ | h)
    ·exact ⟨z,.inl hz,h⟩
    ·exact ⟨b,.inr rfl,h⟩
   ·rintro ⟨z,hz | rfl,h⟩
    ·exact .inl ⟨z,hz,h⟩
    ·exact .inr h)
 have hp:=hE ts (by lia)
 have hl:=nI ts
 refine ⟨g6 ts,?_,(gd _).1,by lia,fun x y=>by rw [(gd _).2,b2]⟩
 simp [fT,fO,fnO,et,k1,hp,frz]
def uQ (acc:List Blk) (t:Tri):List Blk:=match acc.getLast? with
 | some l=>if l.1 = t.1 /\ l.2.2.1 = t.2.1 /\ l.2.2.2 = t.2.2 - 1 then acc.dropLast ++ [(t.1,l.2.1,t.2.1,t.2.2)] else acc ++ [(t.1,t.2.2,t.2.1,t.2.2)]
 | none=>[(t.1,t.2.2,t.2.1,t.2.2)]
theorem EB (t:Tri):uQ [] t = [(t.1,t.2.2,t.2.1,t.2.2)]:=rfl
theorem vO (acc:List Blk) (l:Blk) (t:Tri):uQ (acc ++ [l]) t = if l.1 = t.1 /\ l.2.2.1 = t.2.1 /\ l.2.2.2 = t.2.2 - 1 then acc ++ [(t.1,l.2.1,t.2.1,t.2.2)] else acc ++ [l] ++ [(t.1,t.2.2,t.2.1,t.2.2)]:=by
 unfold uQ
 rw [List.getLast?_append]
 simp
def tI (ts:List Tri):List Blk:=ts.foldl uQ []
theorem xU (pre:List Tri) (t:Tri):tI (pre ++ [t]) = uQ (tI pre) t:=by unfold tI;rw [List.foldl_append];rfl
theorem Hq (b c:Blk):dEq false (cz b) (cz c) = some (.bl (decide (b = c))):=by
 have h:∀ b:Blk,okD 50 (cz b) = true:=fun b=>by simp [okD,okDs]
 unfold dEq
 rw [O7 ⟨h b,h c⟩]
 obtain ⟨b1,b2,b3,b4⟩:=b
 obtain ⟨c1,c2,c3,c4⟩:=c
 simp [eqD,eqDs,Prod.ext_iff]
 by_cases h1:b1 = c1 <;> by_cases h2:b2 = c2 <;> by_cases h3:b3 = c3 <;> by_cases h4:b4 = c4 <;> simp [h1,h2,h3,h4]
theorem KK (l:Blk) (a b y:Int):l = (a,l.2.1,b,y) ↔ l.1 = a /\ l.2.2.1 = b /\ l.2.2.2 = y:=by
 obtain ⟨b1,b2,b3,b4⟩:=l
 simp [Prod.ext_iff]
theorem Bg (s0:Sl) (acc:List Blk) (t:Tri) (h:acc.length <= 30000):bT [s0,owl (acc.map cz),.sh (.int t.1),.sh (.int t.2.1),.sh (.int t.2.2)] = some (.nx [s0,owl ((uQ acc t).map cz),.sh (.int t.1),.sh (.int t.2.1),.sh (.int t.2.2)]):=by
 rcases Qi acc with rfl | ⟨r,l,rfl⟩
 ·simp [bT,EB]
 ·rw [Qo] at *
  rw [vO]
  have hl:r.length + 1 <= 30000:=by simpa using h
  have hlim:r.length + 1 < LIM:=jE (by lia)
  have at1:atI (r.map cz ++ [cz l]) (-1) = some (cz l):=jp _ _
  have ix1:atI [D.int l.1,.int l.2.1,.int l.2.2.1,.int l.2.2.2] 1 = some (.int l.2.1):=by simp [atI,ixN]
  have de:=Hq l (t.1,l.2.1,t.2.1,t.2.2 - 1)
  have ee:=KK l t.1 t.2.1 (t.2.2 - 1)
  by_cases hc:l.1 = t.1 /\ l.2.2.1 = t.2.1 /\ l.2.2.2 = t.2.2 - 1
  ·rw [O7 hc]
   rw [Rh (ee.mpr hc)] at de
   simp [bT,at1,ix1,de,mw]
  ·rw [O8 hc]
   rw [PM fun z=>hc (ee.mp z)] at de
   simp [bT,at1,ix1,de,hlim]
structure BsOk (bs:List Blk) (ts:List Tri):Prop where
 ok:∀ b ∈ bs,BOk b
 mem:∀ x y,(∃ b ∈ bs,n4 b x y) ↔ ∃ t ∈ ts,t.1 <= x /\ x <= t.2.1 /\ y = t.2.2
 len:a9 bs + bs.length = 2 * ts.length
theorem sL (bs:List Blk) (b:Blk) (x y:Int):(∃ c ∈ bs ++ [b],n4 c x y) ↔ (∃ c ∈ bs,n4 c x y) \/ n4 b x y:=by
 constructor
 ·rintro ⟨c,hc,h⟩
  rcases Po.mp hc with hc | hc
  ·exact .inl ⟨c,hc,h⟩
  ·rw [Pe] at hc;subst hc;exact .inr h
 ·rintro (⟨c,hc,h⟩ | h)
  ·exact ⟨c,Pv _ hc,h⟩
  ·exact ⟨b,Pm _ (Pe.mpr rfl),h⟩
theorem AO (ts:List Tri) (t:Tri) (x y:Int):(∃ s ∈ ts ++ [t],s.1 <= x /\ x <= s.2.1 /\ y = s.2.2) ↔ (∃ s ∈ ts,s.1 <= x /\ x <= s.2.1 /\ y = s.2.2) \/ (t.1 <= x /\ x <= t.2.1 /\ y = t.2.2):=by
 constructor
 ·rintro ⟨c,hc,h⟩
  rcases Po.mp hc with hc | hc
  ·exact .inl ⟨c,hc,h⟩
  ·rw [Pe] at hc;subst hc;exact .inr h
 ·rintro (⟨c,hc,h⟩ | h)
  ·exact ⟨c,Pv _ hc,h⟩
  ·exact ⟨t,Pm _ (Pe.mpr rfl),h⟩
theorem gN (b:Blk):a9 [b] = cU b:=by simp [a9]
theorem FF {bs:List Blk} {ts:List Tri} {t:Tri} (o:BsOk bs ts) (ht:t.1 <= t.2.1):BsOk (uQ bs t) (ts ++ [t]):=by
 have new:∀ x y,n4 (t.1,t.2.2,t.2.1,t.2.2) x y ↔ t.1 <= x /\ x <= t.2.1 /\ y = t.2.2:=fun x y=>by
  unfold n4
  dsimp only
  constructor
  ·rintro ⟨h1,h2,h3,h4⟩;exact ⟨h1,h2,by lia⟩
  ·rintro ⟨h1,h2,h3⟩;exact ⟨h1,h2,by lia,by lia⟩
 have hn:cU (t.1,t.2.2,t.2.1,t.2.2) = 1:=by simp [cU]
 have app:BsOk (bs ++ [(t.1,t.2.2,t.2.1,t.2.2)]) (ts ++ [t]):=by
  refine ⟨fun b hb=>?_,fun x y=>by rw [sL,AO,o.mem,new],?_⟩
  ·rcases Po.mp hb with hb | hb
   ·exact o.ok b hb
   ·rw [Pe] at hb;subst hb;exact ⟨ht,Pl _⟩
  ·have:=o.len
   rw [cH,gN,hn,Ph,Ph,PK,PK]
   lia
 rcases Qi bs with rfl | ⟨r,l,rfl⟩
 ·exact app
 ·rw [Qo] at *
  rw [vO]
  by_cases hc:l.1 = t.1 /\ l.2.2.1 = t.2.1 /\ l.2.2.2 = t.2.2 - 1
  ·rw [O7 hc]
   have lo:=o.ok l (by simp)
   refine ⟨fun b hb=>?_,fun x y=>?_,?_⟩
   ·rcases Po.mp hb with hb | hb
    ·exact o.ok b (Pv _ hb)
    ·rw [Pe] at hb;subst hb
     have:=lo.2
     exact ⟨ht,by dsimp only;lia⟩
   ·rw [AO,<- o.mem,sL,sL,or_assoc]
    refine or_congr Qs ?_
    have:=lo.2
    unfold n4
    dsimp only
    constructor
    ·rintro ⟨h1,h2,h3,h4⟩
     by_cases e:y = t.2.2
     ·exact .inr ⟨h1,h2,e⟩
     ·exact .inl ⟨by lia,by lia,h3,by lia⟩
    ·rintro (⟨h1,h2,h3,h4⟩ | ⟨h1,h2,h3⟩)
     ·exact ⟨by lia,by lia,h3,by lia⟩
     ·exact ⟨h1,h2,by lia,by lia⟩
   ·have h1:=o.len
    have h2:=lo.2
    have h3:cU (t.1,l.2.1,t.2.1,t.2.2) = cU l + 2:=by unfold cU;dsimp only;lia
    rw [cH,gN,Ph,PK] at h1
    rw [cH,gN,h3,Ph,Ph,PK,PK]
    lia
  ·rw [O8 hc]
   exact app
theorem DW:∀ (post pre:List Tri),(∀ t ∈ pre ++ post,t.1 <= t.2.1) -> BsOk (tI pre) pre -> BsOk (tI (pre ++ post)) (pre ++ post)
 | [],pre,_,o=>by rw [P6];exact o
 | t :: post,pre,h,o=>by
  have e:pre ++ t :: post = (pre ++ [t]) ++ post:=by simp
  rw [e] at h ⊢
  refine DW post (pre ++ [t]) h ?_
  rw [xU]
  exact FF o (h t (by simp))
theorem Bf {ts:List Tri} (h:∀ t ∈ ts,t.1 <= t.2.1):BsOk (tI ts) ts:=by
 have:=DW ts [] (by simpa using h) ⟨fun _ h=>(by cases h),fun x y=>⟨fun ⟨_,h,_⟩=>(by cases h),fun ⟨_,h,_⟩=>(by cases h)⟩,rfl⟩
 simpa using this
def eP (p:Pic):List Blk:=tI (dS ((aj p).map fun t=>(t.2.1,t.2.2,t.1)))
theorem mH (p:Pic) (c:av p) (h:(aj p).length < 30000):mX [au p] = some (.tup ((eP p).map cz)) /\ (∀ b ∈ eP p,BOk b) /\ a9 (eP p) <= 2 * (aj p).length /\ ∀ x y,(∃ b ∈ eP p,n4 b x y) ↔ aN p x y:=by
 have hperm:=fL ((aj p).map fun t=>(t.2.1,t.2.2,t.1))
 have hlen:(dS ((aj p).map fun t=>(t.2.1,t.2.2,t.1))).length = (aj p).length:=by rw [hperm.length_eq,Pc]
 have hok:∀ t ∈ dS ((aj p).map fun t=>(t.2.1,t.2.2,t.1)),t.1 <= t.2.1:=by
  intro t ht
  obtain ⟨s,hs,rfl⟩:=Pq.mp (hperm.mem_iff.mp ht)
  exact yJ c s hs
 have o:=Bf hok
 have ol:=o.len
 refine ⟨?_,o.ok,by have:=o.len;show a9 (tI _) <= _;lia,fun x y=>?_⟩
 ·obtain ⟨ρ',k1,v2,v3,v4,rfl⟩:=cE (g:=bi (aq (ai 2) (aq (ai 3) (aq (ai 4) bf)))) (m:=bT) dm (fun pre ρ=>∃ v2 v3 v4,ρ = [.sh (au p),owl ((tI pre).map cz),v2,v3,v4]) (dS ((aj p).map fun t=>(t.2.1,t.2.2,t.1))) [.sh (au p),.ow (.lst []),.un,.un,.un] ⟨_,_,_,rfl⟩ (by
   rintro pre t post _ e ⟨v2,v3,v4,rfl⟩
   have hp:pre.length <= (aj p).length:=by
    rw [<- hlen,e,Ph];lia
   have opre:=Bf (ts:=pre) fun t ht=>hok t (by rw [e];exact Pv _ ht)
   have:=opre.len
   have h1:(tI pre).length <= a9 (tI pre):=by
    have:∀ bs:List Blk,bs.length <= a9 bs:=by
     intro bs
     induction bs with
     | nil=>exact PU _
     | cons b bs ih=>
      have e2:a9 (b :: bs) = cU b + a9 bs:=rfl
      rw [e2,Pr]
      unfold cU
      lia
    exact this _
   refine ⟨_,_,rfl,.inl (Bg _ (tI pre) t (by lia)),.sh (.int t.1),.sh (.int t.2.1),.sh (.int t.2.2),by rw [xU]⟩)
  have h1:=cO p (by lia)
  have hl:(aj p).length <= LIM:=bj (by lia)
  have hc:bU (bi (aq (ai 0) (aq (ai 1) (aq (ai 2) bf)))) dl (aW (ad (ar 1) (ad (ar 2) (ad (ar 0) am)))) [.un,.un,.un] ((aj p).map dm) = some (((aj p).map fun t=>(t.2.1,t.2.2,t.1)).map dm):=by
   rw [PD]
   exact bp dm (dm ∘ fun t=>(t.2.1,t.2.2,t.1)) (aj p) fun q hq=>by simp [fe]
  have hb:=qS ((aj p).map fun t=>(t.2.1,t.2.2,t.1)) (by rw [Pc];exact h)
  have k2:ig (bi (aq (ai 2) (aq (ai 3) (aq (ai 4) bf)))) bT ((dS ((aj p).map fun t=>(t.2.1,t.2.2,t.1))).map dm) [.sh (au p),.ow (.lst []),.un,.un,.un] = some (.nx [.sh (au p),owl ((eP p).map cz),v2,v3,v4]):=k1
  generalize eP p = bs at k2
  generalize (dS ((aj p).map fun t=>(t.2.1,t.2.2,t.1))).map dm = zs at k2 hb
  generalize ((aj p).map fun t=>(t.2.1,t.2.2,t.1)).map dm = ws at hb hc
  simp [mX,kR,fnO,jF,h1,hl,hc,hb,k2]
 ·unfold eP
  rw [o.mem,<- ki]
  constructor
  ·rintro ⟨t,ht,h1,h2,h3⟩
   obtain ⟨s,hs,rfl⟩:=Pq.mp (hperm.mem_iff.mp ht)
   exact ⟨s,hs,h3.symm,h1,h2⟩
  ·rintro ⟨s,hs,h1,h2,h3⟩
   exact ⟨_,hperm.mem_iff.mpr (Pq.mpr ⟨s,hs,rfl⟩),h2,h3,h1.symm⟩
abbrev gj (bs:List Blk):D:=.tup (bs.map cz)
abbrev dB (ps:List (List Blk)):D:=.tup (ps.map gj)
abbrev aD (N:Str) (ps:List (List Blk)):D:=.ins N ["parts"] [dB ps]
def zd (bs:List Blk) (x y:Int):Prop:=∃ b ∈ bs,n4 b x y
def Off:List (List Blk) -> Int -> Int -> Prop
 | [],x,y=>x = 0 /\ y = 0
 | bs :: r,x,y=>∃ u v,zd bs u v /\ Off r (x - u) (y - v)
def FOk (ps:List (List Blk)):Prop:=∀ bs ∈ ps,bs ≠ [] /\ ∀ b ∈ bs,BOk b
theorem Ih (p:Pic) (bs:List Blk) (x y:Int):GrP p bs x y ↔ ∃ u v,zd bs u v /\ aN p (x - u) (y - v):=by
 constructor
 ·rintro ⟨b,hb,dx,dy,h1,h2⟩
  exact ⟨dx,dy,⟨b,hb,h1⟩,h2⟩
 ·rintro ⟨dx,dy,⟨b,hb,h1⟩,h2⟩
  exact ⟨b,hb,dx,dy,h1,h2⟩
def Ic:Pic:=[(0,[(0,0)])]
def shr (r:R) (lo hi:Int):R:=lV (r.map fun p=>(p.1 - lo,p.2 - hi))
theorem tJ (r:R) (lo hi:Int) (h:r.length <= 1000):iw [bQ r,.int lo,.int hi] = some (bQ (shr r lo hi)):=by
 have hl:r.length <= LIM:=bj (by lia)
 have hc:bU (bi (aq (ai 0) (aq (ai 1) bf))) dl (aW (ad (xOp gz (ag 0) (ag 2)) (ad (xOp gz (ag 1) (ag 3)) am))) [.un,.un,.sh (.int lo),.sh (.int hi)] (r.map prD) = some (r.map fun p=>prD (p.1 - lo,p.2 - hi)):=bp prD _ r fun p _=>by simp [fe]
 have hm:=mz (r.map fun p=>(p.1 - lo,p.2 - hi)) (by rw [Pc];lia)
 rw [BU,PD] at hm
 have e:(prD ∘ fun p:Int × Int=>(p.1 - lo,p.2 - hi)) = fun p=>prD (p.1 - lo,p.2 - hi):=rfl
 rw [e] at hm
 try simp at hm
 try simp at hc
 simp [iw,jU,fnO,iu,hl,hc,hm,shr]
theorem C7 (r:R) (lo hi x:Int):Mem (shr r lo hi) x ↔ ∃ p ∈ r,p.1 <= x + lo /\ x + hi <= p.2:=by
 unfold shr
 rw [(eF _).2 x]
 constructor
 ·rintro ⟨q,hq,h1,h2⟩
  obtain ⟨p,hp,rfl⟩:=Pq.mp hq
  dsimp only at h1 h2
  exact ⟨p,hp,by lia,by lia⟩
 ·rintro ⟨p,hp,h1,h2⟩
  exact ⟨_,Pq.mpr ⟨p,hp,rfl⟩,by dsimp only;lia,by dsimp only;lia⟩
theorem Em (r:R) (lo hi:Int):bc (shr r lo hi):=(eF _).1
theorem Iq (r:R) (lo hi:Int):(shr r lo hi).length <= r.length:=by
 have:=rZ (r.map fun p=>(p.1 - lo,p.2 - hi))
 rw [Pc] at this
 exact this
def Ka (P:Int -> Int -> Prop) (b:Blk) (x y:Int):Prop:=∀ dx dy,n4 b dx dy -> P (x + dx) (y + dy)
theorem nM {r:R} (c:bc r) {i j:Nat} {p q:Int × Int} (hi:r[i]? = some p) (hj:r[j]? = some q) (hij:i < j):p.2 + 2 <= q.1:=by
 obtain ⟨h1,rfl⟩:=Pw.mp hi
 obtain ⟨h2,rfl⟩:=Pw.mp hj
 exact QH.mp c.2 i j h1 h2 hij
theorem Az {r:R} (c:bc r) {u v:Int} (h:u <= v) (hm:∀ z,u <= z -> z <= v -> Mem r z):∃ s ∈ r,s.1 <= u /\ v <= s.2:=by
 obtain ⟨s,hs,h1,h2⟩:=hm u (Pl _) h
 refine ⟨s,hs,h1,?_⟩
 by_cases hv:v <= s.2
 ·exact hv
 ·obtain ⟨t,ht,k1,k2⟩:=hm (s.2 + 1) (by lia) (by lia)
  obtain ⟨i,hi⟩:=Qh hs
  obtain ⟨j,hj⟩:=Qh ht
  rcases Nat.lt_trichotomy i j with hij | hij | hij
  ·have:=nM c hi hj hij
   lia
  ·subst hij
   rw [hi] at hj
   cases hj
   lia
  ·have:=nM c hj hi hij
   have:=c.1 s hs
   lia
def L5 (p:Pic) (u v y:Int):Prop:=∃ q ∈ p,q.1 = y /\ ∃ s ∈ q.2,s.1 <= u /\ v <= s.2
theorem FP {p:Pic} (c:av p) {u v y:Int} (h:u <= v):L5 p u v y ↔ ∀ z,u <= z -> z <= v -> aN p z y:=by
 constructor
 ·rintro ⟨q,hq,e,s,hs,h1,h2⟩ z k1 k2
  exact ⟨q,hq,e,s,hs,by lia,by lia⟩
 ·intro hm
  have hr:=eI c y
  obtain ⟨s,hs,h1,h2⟩:=Az hr h fun z k1 k2=>(ku c z y).mpr (hm z k1 k2)
  obtain ⟨q,hq,e,_⟩:=hm u (Pl _) h
  refine ⟨q,hq,e,s,?_,h1,h2⟩
  rw [<- e,nj c hq] at hs
  exact hs
def xm (p:Pic) (b:Blk):Pic:=(p.map fun q=>(q.1 - b.2.1,shr q.2 b.1 b.2.2.1)).filter iy
theorem B3 {p:Pic} (c:av p) (b:Blk):av (xm p b):=by
 refine ⟨fun q hq=>?_,?_⟩
 ·obtain ⟨h1,h2⟩:=PN.mp hq
  obtain ⟨z,hz,rfl⟩:=Pq.mp h1
  exact ⟨Em _ _ _,by simpa [iy] using h2⟩
 ·refine RZ _ ?_
  rw [Qq]
  exact c.2.imp fun {s t} h=>by dsimp only;lia
theorem zY {p:Pic} (c:av p) {b:Blk} (hb:b.1 <= b.2.2.1) (x y:Int):aN (xm p b) x y ↔ ∀ dx,b.1 <= dx -> dx <= b.2.2.1 -> aN p (x + dx) (y + b.2.1):=by
 have h1:aN (xm p b) x y ↔ L5 p (x + b.1) (x + b.2.2.1) (y + b.2.1):=by
  constructor
  ·rintro ⟨q,hq,e,hm⟩
   obtain ⟨z,hz,rfl⟩:=Pq.mp (PN.mp hq).1
   dsimp only at e hm
   obtain ⟨s,hs,k1,k2⟩:=(C7 _ _ _ _).mp hm
   exact ⟨z,hz,by lia,s,hs,k1,k2⟩
  ·rintro ⟨z,hz,e,s,hs,k1,k2⟩
   have hm:Mem (shr z.2 b.1 b.2.2.1) x:=(C7 _ _ _ _).mpr ⟨s,hs,k1,k2⟩
   refine ⟨(z.1 - b.2.1,shr z.2 b.1 b.2.2.1),PN.mpr ⟨Pq.mpr ⟨z,hz,rfl⟩,?_⟩,by dsimp only;lia,hm⟩
   unfold iy
   rw [Bool.not_eq_true',R0]
   intro e'
   dsimp only at e'
   rw [e'] at hm
   exact bn _ hm
 rw [h1,FP c (by lia)]
 constructor
 ·intro h dx k1 k2
  exact h (x + dx) (by lia) (by lia)
 ·intro h z k1 k2
  have:=h (z - x) (by lia) (by lia)
  rwa [show x + (z - x) = z by lia] at this
theorem lz {f:Int × R -> Int × R}:∀ p:Pic,(∀ q ∈ p,(f q).2.length <= q.2.length) -> (aj (p.map f)).length <= (aj p).length
 | [],_=>Pf _
 | q :: p,h=>by
  have h1:=lz p fun s hs=>h s (Pi _ hs)
  have h2:=h q Pg
  rw [Ps,bz,bz,Ph,Ph,Pc,Pc]
  lia
theorem FZ (p:Pic) (b:Blk):(xm p b).length <= p.length /\ (aj (xm p b)).length <= (aj p).length:=by
 unfold xm
 rw [eU]
 refine ⟨?_,lz p fun q _=>Iq _ _ _⟩
 have:=Qt iy (p.map fun q=>(q.1 - b.2.1,shr q.2 b.1 b.2.2.1))
 rwa [Pc] at this
theorem uY:∀ (q p:Pic),p.Pairwise (fun s t=>s.1 < t.1) -> (p.map fun s=>(bA q s.1).length).sum <= (aj q).length
 | [],p,_=>by
  have:∀ p:Pic,(p.map fun s=>(bA [] s.1).length).sum = 0:=by
   intro p
   induction p with
   | nil=>rfl
   | cons s p ih=>rw [Ps,Qp,ih];rfl
  rw [this]
  exact PU _
 | t :: q,p,hp=>by
  have ih:=uY q p hp
  have key:∀ p:Pic,p.Pairwise (fun s t=>s.1 < t.1) -> (p.map fun s=>(bA (t :: q) s.1).length).sum <= t.2.length + (p.map fun s=>(bA q s.1).length).sum /\ ((∀ s ∈ p,t.1 ≠ s.1) -> (p.map fun s=>(bA (t :: q) s.1).length).sum <= (p.map fun s=>(bA q s.1).length).sum):=by
   intro p
   induction p with
   | nil=>intro _;simp
   | cons s p ihp=>
    intro hp
    obtain ⟨k1,k2⟩:=QL.mp hp
    obtain ⟨i1,i2⟩:=ihp k2
    have er:bA (t :: q) s.1 = if t.1 = s.1 then t.2 else bA q s.1:=by
     unfold bA
     rw [List.find?_cons]
     by_cases h:t.1 = s.1 <;> simp [h]
    simp only [Ps,Qp,er]
    by_cases h:t.1 = s.1
    ·rw [O7 h]
     refine ⟨?_,fun hn=>absurd h (hn s Pg)⟩
     have:=i2 fun z hz e=>by have:=k1 z hz;lia
     lia
    ·rw [O8 h]
     refine ⟨by lia,fun hn=>?_⟩
     have:=i2 fun z hz=>hn z (Pi _ hz)
     lia
  have:=(key p hp).1
  rw [bz,Ph,Pc]
  lia
theorem Fs {p q:Pic} (cp:av p):(aj (cmP p q)).length <= (aj p).length + (aj q).length:=by
 have h1:=uY q p cp.2
 have key:∀ p:Pic,(aj (p.map fun s=>(s.1,dH s.2 (bA q s.1)))).length <= (aj p).length + (p.map fun s=>(bA q s.1).length).sum:=by
  intro p
  induction p with
  | nil=>simp [aj]
  | cons s p ih=>
   have:=qC _ s.2 (bA q s.1) rfl
   rw [Ps,bz,bz,Ph,Ph,Pc,Pc,Ps,Qp]
   dsimp only
   lia
 unfold cmP pW
 rw [eU]
 have:=key p
 lia
theorem Dw (p q:Pic):(cmP p q).length <= p.length:=by
 unfold cmP pW
 have:=Qt iy (p.map fun s=>(s.1,dH s.2 (bA q s.1)))
 rwa [Pc] at this
theorem rX (p:Pic) (c:av p) (n:Nat) (hp:p.length <= 10000) (hs:(2 * n + 1) * (aj p).length <= 10000):∃ q:Pic,gY [au p,.int (n:Int)] = some (au q) /\ av q /\ q.length <= p.length /\ (aj q).length <= (2 * n + 1) * (aj p).length /\ ∀ x y,aN q x y ↔ ∀ j:Int,0 <= j -> j <= n -> aN p x (y + j):=by
 obtain ⟨ρ',k1,q,v2,v3,rfl,a1,a2,a3,a4⟩:=kX (c:=dG) (m:=fv)
  (fun ρ=>∃ (q:Pic) (k:Nat) (v3:Sl),ρ = [.sh (au q),.sh (.int (n:Int)),.sh (.int (k:Int)),v3] /\ k <= n /\ av q /\ q.length <= p.length /\ ((aj q).length <= (k + 1) * (aj p).length \/ (k = n /\ (aj q).length <= (2 * n + 1) * (aj p).length)) /\ (k = 0 -> (aj q).length <= (aj p).length) /\ ∀ x y,aN q x y ↔ ∀ j:Int,0 <= j -> j <= k -> aN p x (y + j))
  (fun ρ=>match ρ with | [_,.sh (.int n),.sh (.int k),_]=>(n - k).toNat | _=>0)
  (fun ρ=>∃ (q:Pic) (v2 v3:Sl),ρ = [.sh (au q),.sh (.int (n:Int)),v2,v3] /\ av q /\ q.length <= p.length /\ (aj q).length <= (2 * n + 1) * (aj p).length /\ ∀ x y,aN q x y ↔ ∀ j:Int,0 <= j -> j <= n -> aN p x (y + j))
  (by
   rintro _ ⟨q,k,v3,rfl,hk,c',hl,hsz,h0,hm⟩
   by_cases hc:k < n
   ·right
    have hc':(k:Int) < n:=by lia
    refine ⟨by simp [dG,hc'],?_⟩
    have hsz':(aj q).length <= (k + 1) * (aj p).length:=hsz.elim id fun h=>by lia
    generalize hst:(if (n:Int) - k < (k:Int) + 1 then (n:Int) - k else (k:Int) + 1) = st
    have hst1:1 <= st /\ st <= k + 1 /\ st <= n - k /\ (st = k + 1 \/ st = n - k):=by rw [<- hst];split <;> lia
    have e1:(k + 1) * (aj p).length <= (2 * n + 1) * (aj p).length:=QB _ (by lia)
    have lq:(aj q).length <= 10000:=by lia
    have mv:=wB q 0 (-st) (by lia) fun z hz=>by have:=d6 hz;lia
    have cmv:=Ew c' 0 (-st)
    have lmv:(mvP q 0 (-st)).length = q.length:=by unfold mvP;rw [Pc]
    have smv:=FV q 0 (-st)
    have cm:=sR (p:=q) (q:=mvP q 0 (-st)) cmv (by lia) (by lia) (by lia)
    have scm:=Fs (p:=q) (q:=mvP q 0 (-st)) c'
    have rcm:=Dw q (mvP q 0 (-st))
    have ek:(((k + st.toNat:Nat)):Int) = (k:Int) + st:=by lia
    refine ⟨[.sh (au (cmP q (mvP q 0 (-st)))),.sh (.int (n:Int)),.sh (.int ((k + st.toNat:Nat):Int)),.sh (.int st)],?_,⟨cmP q (mvP q 0 (-st)),k + st.toNat,_,rfl,by lia,yC c' cmv,by lia,?_,fun z=>by lia,fun x y=>?_⟩,by dsimp only;lia⟩
    ·rw [ek]
     simp [fv,hst,mv,cm]
    ·rcases hst1.2.2.2 with e | e
     ·left
      have e2:(k + st.toNat + 1) * (aj p).length = (k + 1) * (aj p).length + (k + 1) * (aj p).length:=by
       rw [<- Qj]
       congr 1
       lia
      lia
     ·right
      have e2:(k + 1) * (aj p).length + (k + 1) * (aj p).length <= (2 * n + 1) * (aj p).length:=by
       rw [<- Qj]
       exact QB _ (by lia)
      exact ⟨by lia,by lia⟩
    ·rw [C6 c' cmv,DS,hm,hm,show x - 0 = x by lia,show y - -st = y + st by lia]
     constructor
     ·rintro ⟨g1,g2⟩ j j0 j1
      by_cases hj:j <= k
      ·exact g1 j j0 hj
      ·have:=g2 (j - st) (by lia) (by lia)
       rwa [show y + st + (j - st) = y + j by lia] at this
     ·intro g
      refine ⟨fun j j0 j1=>g j j0 (by lia),fun j j0 j1=>?_⟩
      have:=g (st + j) (by lia) (by lia)
      rwa [show y + (st + j) = y + st + j by lia] at this
   ·left
    have ek:k = n:=by lia
    subst ek
    refine ⟨by simp [dG],q,_,_,rfl,c',hl,?_,hm⟩
    rcases hsz with h | h
    ·have:(k + 1) * (aj p).length <= (2 * k + 1) * (aj p).length:=QB _ (by lia)
     lia
    ·exact h.2)
  [.sh (au p),.sh (.int (n:Int)),.sh (.int 0),.un] ⟨p,0,.un,rfl,by lia,c,Pf _,.inl (by lia),fun _=>Pf _,fun x y=>⟨fun h j j0 j1=>by rwa [show y + j = y by lia],fun h=>by have:=h 0 (by lia) (by lia);rwa [show y + 0 = y by lia] at this⟩⟩
 exact ⟨q,by simp [gY,i8,fnO,gX,k1],a1,a2,a3,a4⟩
theorem gA (p:Pic) (c:av p) (b:Blk) (hb:BOk b) (n:Nat) (hn:b.2.2.2 - b.2.1 = n) (hp:p.length <= 1000) (hs:(2 * n + 1) * (aj p).length <= 10000) (hr:∀ q ∈ p,q.2.length <= 1000):∃ q:Pic,dD [au p,cz b] = some (au q) /\ av q /\ q.length <= p.length /\ (aj q).length <= (2 * n + 1) * (aj p).length /\ ∀ x y,aN q x y ↔ Ka (aN p) b x y:=by
 have hl:p.length <= LIM:=bj (by lia)
 have hc:bU (bi (aq (ai 0) (aq (ai 1) bf))) dl (aW (ad (xOp gz (ag 0) (xOp dIx (ag 2) (xC (.int 1)))) (ad (aH iw (ad (ar 1) (ad (xOp dIx (ag 2) (xC (.int 0))) (ad (xOp dIx (ag 2) (xC (.int 2))) am)))) am))) [.un,.un,.sh (cz b)] (p.map pyD) = some ((p.map fun q=>(q.1 - b.2.1,shr q.2 b.1 b.2.2.1)).map pyD):=by
  rw [PD]
  exact bp pyD (fun q=>pyD (q.1 - b.2.1,shr q.2 b.1 b.2.2.1)) p fun q hq=>by
   have a:=tJ q.2 b.1 b.2.2.1 (hr q hq)
   simp [fe,a,atI,ixN]
 have hm:=cL (p.map fun q=>(q.1 - b.2.1,shr q.2 b.1 b.2.2.1)) (by rw [Pc];lia)
 have hnl:=FZ p b
 have e1:(2 * n + 1) * (aj (xm p b)).length <= (2 * n + 1) * (aj p).length:=Rx _ hnl.2
 obtain ⟨q,a1,a2,a3,a4,a5⟩:=rX (xm p b) (B3 c b) n (by lia) (by lia)
 refine ⟨q,?_,a2,by lia,by lia,fun x y=>?_⟩
 ·have a1':gY [au (xm p b),.int (b.2.2.2 - b.2.1)] = some (au q):=by rw [hn];exact a1
  have hm':bC [.lst ((p.map fun q=>(q.1 - b.2.1,shr q.2 b.1 b.2.2.1)).map pyD)] = some (au (xm p b)):=hm
  generalize (p.map fun q=>(q.1 - b.2.1,shr q.2 b.1 b.2.2.1)).map pyD = zs at hc hm'
  simp [dD,e7,fnO,du,hl,hc,hm',a1',atI,ixN]
 ·rw [a5]
  constructor
  ·intro h dx dy hd
   have h1:=(zY c hb.1 x (y + (dy - b.2.1))).mp (h (dy - b.2.1) (by have:=hd.2.2.1;lia) (by have:=hd.2.2.2;lia)) dx hd.1 hd.2.1
   rwa [show y + (dy - b.2.1) + b.2.1 = y + dy by lia] at h1
  ·intro h j j0 j1
   rw [zY c hb.1]
   intro dx d0 d1
   have:=h dx (j + b.2.1) ⟨d0,d1,by lia,by lia⟩
   rwa [show y + (j + b.2.1) = y + j + b.2.1 by lia] at this
theorem wl {α:Type} (l:List α) (k:α -> Int) (enc:α -> D) (f g:Int) (he:∀ a,dIx (enc a) (.int 0) = some (.int (k a))) (hl:l.length <= 100000) (pw:l.Pairwise fun a b=>k a < k b) :
  ∃ l':List α,bF [.tup (l.map enc),.int f,.int g] = some (.tup (l'.map enc)) /\ l'.Sublist l /\ ∀ a ∈ l,k a <= g -> (∀ b ∈ l,k a < k b -> f < k b) -> a ∈ l':=by
 obtain ⟨n1,a1,b1,c1⟩:=gM l k enc f he hl pw
 obtain ⟨n2,a2,b2,c2⟩:=gM l k enc g he hl pw
 refine ⟨j6 l (some ((n1 - 1:Nat):Int)) (some (n2:Int)),?_,?_,fun a ha hg hb=>?_⟩
 ·have e1:(if ((n1:Int) - 1) > 0 then (n1:Int) - 1 else 0) = ((n1 - 1:Nat):Int):=by split <;> lia
  have e1':(if 1 < n1 then (n1:Int) - 1 else 0) = ((n1 - 1:Nat):Int):=by split <;> lia
  have e1'':(if (1:Int) < (n1:Int) then (n1:Int) - 1 else 0) = ((n1 - 1:Nat):Int):=by split <;> lia
  simp [bF,gE,fnO,fk,b1,b2,DD,e1,e1',e1'',dSl]
 ·unfold j6
  exact (List.take_sublist _ _).trans (List.drop_sublist _ _)
 ·obtain ⟨i,hi⟩:=Qh ha
  have hil:=(Pw.mp hi).1
  have h2:=(c2 i a hi).mp hg
  have h1:n1 - 1 <= i:=by
   by_cases h:n1 - 1 <= i
   ·exact h
   ·exfalso
    obtain ⟨b,hb'⟩:∃ b,l[i + 1]? = some b:=⟨_,P7 (show i + 1 < l.length by lia)⟩
    have h3:=(c1 (i + 1) b hb').mpr (by lia)
    obtain ⟨l1,e1⟩:=Pw.mp hi
    obtain ⟨l2,e2⟩:=Pw.mp hb'
    have h4:=QH.mp pw i (i + 1) l1 l2 (by lia)
    rw [e1,e2] at h4
    have:=hb b (QV hb') h4
    lia
  unfold j6
  rw [C9 (by lia),C9 (by lia),Int.toNat_natCast,Int.toNat_natCast,Nat.min_eq_left (by lia:n1 - 1 <= l.length),Nat.min_eq_left a2]
  refine QV (i:=i - (n1 - 1)) ?_
  rw [List.getElem?_take_of_lt (by lia),Rq,show n1 - 1 + (i - (n1 - 1)) = i by lia]
  exact hi
theorem FJ {r:R} (c:bc r) (h:r.length <= 100000) (f g:Int):∃ r':R,bF [bQ r,.int f,.int g] = some (bQ r') /\ r'.Sublist r /\ ∀ x,f <= x -> x <= g -> Mem r x -> Mem r' x:=by
 have pw:r.Pairwise fun a b=>a.1 < b.1:=by
  refine List.Pairwise.imp_of_mem ?_ c.2
  intro p q hp _ h
  have:=c.1 p hp
  lia
 obtain ⟨r',h1,h2,h3⟩:=wl r (·.1) prD f g (fun a=>by simp) h pw
 refine ⟨r',h1,h2,fun x hf hg ⟨q,hq,k1,k2⟩=>⟨q,h3 q hq (by lia) fun b hb hlt=>?_,k1,k2⟩⟩
 obtain ⟨i,hi⟩:=Qh hq
 obtain ⟨j,hj⟩:=Qh hb
 rcases Nat.lt_trichotomy i j with hij | hij | hij
 ·have:=nM c hi hj hij
  lia
 ·subst hij
  rw [hi] at hj
  cases hj
  lia
 ·have:=nM c hj hi hij
  have:=c.1 b hb
  have:=c.1 q hq
  lia
theorem Eh {r r':R} (c:bc r) (s:r'.Sublist r):bc r':=⟨fun q hq=>c.1 q (s.subset hq),c.2.sublist s⟩
theorem Ds:∀ (l:List Int),∀ x ∈ l,j8 l <= x
 | [],_,h=>by cases h
 | [a],x,h=>by rw [Pe.mp h];exact Pl _
 | a :: b :: l,x,h=>by
  rw [yt]
  rcases Pn.mp h with rfl | h
  ·lia
  ·have:=Ds (b :: l) x h
   lia
theorem Dg:∀ (l:List Int),∀ x ∈ l,x <= mR l
 | [],_,h=>by cases h
 | [a],x,h=>by rw [Pe.mp h];exact Pl _
 | a :: b :: l,x,h=>by
  have e:mR (a :: b :: l) = max a (mR (b :: l)):=rfl
  rw [e]
  rcases Pn.mp h with rfl | h
  ·lia
  ·have:=Dg (b :: l) x h
   lia
def tF (p:Pic):List Int:=p.map fun q=>(q.2.head?.getD (0,0)).1
def mL (p:Pic):List Int:=p.map fun q=>(q.2.getLast?.getD (0,0)).2
theorem EM (p:Pic) (hn:∀ q ∈ p,q.2 ≠ []):bU (bi (aq (ai 0) (aq (ai 1) bf))) dl (xOp dIx (xOp dIx (ag 1) (xC (.int 0))) (xC (.int 0))) [.un,.un] (p.map pyD) = some ((tF p).map D.int):=by
 unfold tF
 rw [PD]
 refine bp pyD _ p fun q hq=>?_
 obtain ⟨y,r⟩:=q
 cases r with
 | nil=>exact absurd rfl (hn _ hq)
 | cons a r=>
  have f0:atI (prD a :: r.map prD) 0 = some (prD a):=gP (j:=0) rfl
  have f1:atI [D.int a.1,D.int a.2] 0 = some (.int a.1):=gP (j:=0) rfl
  simp [fe,f0,f1]
theorem BK (p:Pic) (hn:∀ q ∈ p,q.2 ≠ []):bU (bi (aq (ai 0) (aq (ai 1) bf))) dl (xOp dIx (xOp dIx (ag 1) (xUn gG (xC (.int 1)))) (xC (.int 1))) [.un,.un] (p.map pyD) = some ((mL p).map D.int):=by
 unfold mL
 rw [PD]
 refine bp pyD _ p fun q hq=>?_
 obtain ⟨y,r⟩:=q
 rcases Qi r with rfl | ⟨r0,a,rfl⟩
 ·exact absurd rfl (hn _ hq)
 ·have f0:atI ((r0 ++ [a]).map prD) (-1) = some (prD a):=by
   unfold atI
   rw [Pc,Ph,PK,mw]
   simp
  have f1:atI [D.int a.1,D.int a.2] 1 = some (.int a.2):=gP (j:=1) rfl
  rw [Qf] at f0
  simp at f0
  simp [fe,f0,f1]
theorem CD {r:R} (c:bc r) {q:Int × Int} (hq:q ∈ r):(r.head?.getD (0,0)).1 <= q.1:=by
 cases r with
 | nil=>cases hq
 | cons a r=>
  rcases Pn.mp hq with rfl | hq
  ·exact Pl _
  ·have:=(canon_cons.mp c).2.1 q hq
   have:=(canon_cons.mp c).1
   show a.1 <= q.1
   lia
theorem BP {r:R} (c:bc r) {q:Int × Int} (hq:q ∈ r):q.2 <= (r.getLast?.getD (0,0)).2:=by
 rcases Qi r with rfl | ⟨r0,a,rfl⟩
 ·cases hq
 ·rw [Qo] at *
  have e:((r0 ++ [a]).getLast?.getD (0,0)) = a:=by simp
  rw [e]
  rcases Po.mp hq with hq | hq
  ·obtain ⟨_,h1,h2⟩:=canon_snoc.mp c
   have:=h2 q hq
   lia
  ·rw [Pe.mp hq]
   exact Pl _
theorem Bo (p:Pic) (c:av p) (hne:p ≠ []) (h:p.length <= 30000):∃ l t r b:Int,uM [au p] = some (.tup [.int l,.int t,.int r,.int b]) /\ ∀ x y,aN p x y -> l <= x /\ x <= r /\ t <= y /\ y <= b:=by
 have hn:∀ q ∈ p,q.2 ≠ []:=fun q hq=>(c.1 q hq).2
 have c1:=EM p hn
 have c2:=BK p hn
 have hl:p.length <= LIM:=bj (by lia)
 have hpos:0 < p.length:=Rv.mpr hne
 have l1:(tF p).length = p.length:=by unfold tF;rw [Pc]
 have l2:(mL p).length = p.length:=by unfold mL;rw [Pc]
 have hml:AE [.lst ((tF p).map D.int)] = some (.int (j8 (tF p))):=by
  unfold AE
  simp only [ju,Option.bind_some]
  rw [O7 (by lia)]
 have hmh:Bl [.lst ((mL p).map D.int)] = some (.int (mR (mL p))):=by
  unfold Bl
  simp only [ju,Option.bind_some]
  rw [O7 (by lia)]
 obtain ⟨q0,h0⟩:∃ q,p[0]? = some q:=⟨_,P7 hpos⟩
 obtain ⟨q1,h1⟩:∃ q,p.getLast? = some q:=by
  cases e:p.getLast? with
  | none=>exact absurd (List.getLast?_eq_none_iff.mp e) hne
  | some q=>exact ⟨q,rfl⟩
 have f0:atI (p.map pyD) 0 = some (pyD q0):=gP (j:=0) (by rw [PB,h0];rfl)
 have f1:atI (p.map pyD) (-1) = some (pyD q1):=by
  obtain ⟨Y,rfl⟩:=List.getLast?_eq_some_iff.mp h1
  rw [Qf]
  exact jp _ _
 have g0:∀ (y:Int) (d:D),atI [D.int y,d] 0 = some (.int y):=fun y d=>gP (j:=0) rfl
 have d0:dEq false (au p) (.tup []) = some (.bl false):=by
  cases p with
  | nil=>exact absurd rfl hne
  | cons q p=>
   unfold dEq
   rw [O7 ⟨yQ _,by simp [okD,okDs]⟩]
   simp [eqD,eqDs]
 refine ⟨j8 (tF p),q0.1,mR (mL p),q1.1,?_,fun x y hm=>?_⟩
 ·generalize hP:p.map pyD = Pd at *
  have hPl:Pd.length <= LIM:=by rw [<- hP,Pc];exact hl
  simp [uM,rT,fnO,rn,hP,d0,c1,c2,hPl,hml,hmh,f0,f1,g0]
 ·obtain ⟨q,hq,rfl,s,hs,k1,k2⟩:=hm
  have cq:=(c.1 q hq).1
  have e1:=Ds (tF p) _ (Pq.mpr ⟨q,hq,rfl⟩)
  have e2:=Dg (mL p) _ (Pq.mpr ⟨q,hq,rfl⟩)
  have e3:=CD cq hs
  have e4:=BP cq hs
  refine ⟨by lia,by lia,?_,?_⟩
  ·cases p with
   | nil=>exact absurd rfl hne
   | cons a p=>
    cases h0
    rcases Pn.mp hq with rfl | hq
    ·exact Pl _
    ·have:=(pcanon_cons.mp c).2.1 q hq
     lia
  ·obtain ⟨Y,rfl⟩:=List.getLast?_eq_some_iff.mp h1
   rcases Po.mp hq with hq | hq
   ·have:=(PZ.mp c.2).2.2 q hq q1 (by simp)
    lia
   ·rw [Pe.mp hq]
    exact Pl _
theorem HH {l m:List Nat} (h:l.Sublist m):l.sum <= m.sum:=by
 induction h with
 | slnil=>exact Pf _
 | cons a _ ih=>rw [Qp];lia
 | cons_cons a _ ih=>rw [Qp,Qp];lia
theorem Aj (p:Pic) (c:av p) (hr:∀ q ∈ p,q.2.length <= 1000) (f g:Int):∃ part:Int × R -> R,∀ q ∈ p,bF [bQ q.2,.int f,.int g] = some (bQ (part q)) /\ (part q).Sublist q.2 /\ ∀ x,f <= x -> x <= g -> Mem q.2 x -> Mem (part q) x:=by
 have h:∀ q:Int × R,∃ r:R,q ∈ p -> bF [bQ q.2,.int f,.int g] = some (bQ r) /\ r.Sublist q.2 /\ ∀ x,f <= x -> x <= g -> Mem q.2 x -> Mem r x:=fun q=>by
  by_cases hq:q ∈ p
  ·obtain ⟨r,h1⟩:=FJ (c.1 q hq).1 (by have:=hr q hq;lia) f g
   exact ⟨r,fun _=>h1⟩
  ·exact ⟨[],fun z=>absurd z hq⟩
 exact ⟨fun q=>(h q).choose,fun q hq=>(h q).choose_spec hq⟩
theorem yT (p:Pic) (c:av p) (hp:p.length <= 1000) (hr:∀ q ∈ p,q.2.length <= 1000) (l t r b:Int) (k:Blk):∃ q:Pic,r9 [au p,.tup [.int l,.int t,.int r,.int b],cz k] = some (au q) /\ av q /\ q.length <= p.length /\ (aj q).length <= (aj p).length /\ (∀ s ∈ q,s.2.length <= 1000) /\ (∀ x y,aN q x y -> aN p x y) /\
  ∀ x y,l + k.1 <= x -> x <= r + k.2.2.1 -> t + k.2.1 <= y -> y <= b + k.2.2.2 -> aN p x y -> aN q x y:=by
 obtain ⟨p',h1,h2,h3⟩:=wl p (·.1) pyD (t + k.2.1) (b + k.2.2.2) (fun a=>by simp) (by lia) c.2
 have c':av p':=⟨fun q hq=>c.1 q (h2.subset hq),c.2.sublist h2⟩
 obtain ⟨part,hpart⟩:=Aj p c hr (l + k.1) (r + k.2.2.1)
 have hl':p'.length <= p.length:=h2.length_le
 have hlim:p'.length <= LIM:=bj (by lia)
 have hc:bU (bi (aq (ai 0) (aq (ai 1) bf))) dl (aW (ad (ar 0) (ad (aH bF (ad (ar 1) (ad (xOp bM (xOp dIx (ag 2) (xC (.int 0))) (xOp dIx (ag 3) (xC (.int 0)))) (ad (xOp bM (xOp dIx (ag 2) (xC (.int 2))) (xOp dIx (ag 3) (xC (.int 2)))) am)))) am))) [.un,.un,.sh (.tup [.int l,.int t,.int r,.int b]),.sh (cz k)] (p'.map pyD) = some ((p'.map fun q=>(q.1,part q)).map pyD):=by
  rw [PD]
  exact bp pyD (fun q=>pyD (q.1,part q)) p' fun q hq=>by
   have a:=(hpart q (h2.subset hq)).1
   simp [fe,a,atI,ixN]
 have hm:=cL (p'.map fun q=>(q.1,part q)) (by rw [Pc];lia)
 have hsub:∀ q ∈ p',(part q).Sublist q.2:=fun q hq=>(hpart q (h2.subset hq)).2.1
 refine ⟨(p'.map fun q=>(q.1,part q)).filter iy,?_,⟨fun q hq=>?_,?_⟩,?_,?_,fun s hs=>?_,fun x y h=>?_,fun x y x0 x1 y0 y1 h=>?_⟩
 ·have a1:atI [D.int l,.int t,.int r,.int b] 1 = some (.int t):=rfl
  have a3:atI [D.int l,.int t,.int r,.int b] 3 = some (.int b):=rfl
  have b1:atI [D.int k.1,.int k.2.1,.int k.2.2.1,.int k.2.2.2] 1 = some (.int k.2.1):=rfl
  have b3:atI [D.int k.1,.int k.2.1,.int k.2.2.1,.int k.2.2.2] 3 = some (.int k.2.2.2):=rfl
  generalize hz:(p'.map fun q=>(q.1,part q)).map pyD = zs at hc hm
  generalize hz2:p'.map pyD = ps at h1 hc
  have hps:ps.length <= LIM:=by rw [<- hz2,Pc];exact hlim
  simp [r9,o7,fnO,nK,a1,a3,b1,b3,h1,hps,hc,hm,CS]
 ·obtain ⟨k1,k2⟩:=PN.mp hq
  obtain ⟨z,hz,rfl⟩:=Pq.mp k1
  exact ⟨Eh (c'.1 z hz).1 (hsub z hz),by simpa [iy] using k2⟩
 ·refine RZ _ ?_
  rw [Qq]
  exact c'.2
 ·have:=Qt iy (p'.map fun q=>(q.1,part q))
  rw [Pc] at this
  lia
 ·rw [eU]
  have e1:=lz (f:=fun q=>(q.1,part q)) p' fun q hq=>(hsub q hq).length_le
  have e2:(aj p').length <= (aj p).length:=by
   unfold aj
   rw [RH,RH]
   exact HH (h2.map _)
  lia
 ·obtain ⟨z,hz,rfl⟩:=Pq.mp (PN.mp hs).1
  have:=(hsub z hz).length_le
  have:=hr z (h2.subset hz)
  dsimp only
  lia
 ·obtain ⟨q,hq,e,s,hs,k1,k2⟩:=h
  obtain ⟨z,hz,rfl⟩:=Pq.mp (PN.mp hq).1
  exact ⟨z,h2.subset hz,e,s,(hsub z hz).subset hs,k1,k2⟩
 ·obtain ⟨q,hq,rfl,hmm⟩:=h
  have hq':q ∈ p':=h3 q hq y1 fun b' hb hlt=>by lia
  have hmem:=(hpart q hq).2.2 x x0 x1 hmm
  refine ⟨(q.1,part q),PN.mpr ⟨Pq.mpr ⟨q,hq',rfl⟩,?_⟩,rfl,hmem⟩
  unfold iy
  rw [Bool.not_eq_true',R0]
  intro e'
  dsimp only at e'
  rw [e'] at hmem
  exact bn _ hmem
def Ey (p:Pic) (bs:List Blk) (x y:Int):Prop:=∀ b ∈ bs,Ka (aN p) b x y
theorem fI (p:Pic):dEq false (au p) (.tup []) = some (.bl (decide (p = []))):=by
 cases p with
 | nil=>rw [Rh rfl];exact wp false (d:=.tup []) (by simp [okD,okDs])
 | cons q p=>
  rw [PM (by simp)]
  unfold dEq
  rw [O7 ⟨yQ _,by simp [okD,okDs]⟩]
  simp [eqD,eqDs]
theorem CA (p:Pic) (c:av p) (hp:p.length <= 1000) (hr:∀ q ∈ p,q.2.length <= 1000) (s1 v3:Sl) (q:Pic) (cq:av q) (hq:q.length <= p.length) (b:Blk) (hb:BOk b) (hs:(aj q).length + cU b * (aj p).length <= 10000) (hne:q ≠ []) :
  ∃ q':Pic,bE [.sh (au p),s1,.sh (au q),.sh (cz b)] = some (.nx [.sh (au p),s1,.sh (au q'),.sh (cz b)]) /\ av q' /\ q'.length <= p.length /\ (aj q').length <= (aj q).length + cU b * (aj p).length /\ ∀ x y,aN q' x y ↔ aN q x y /\ Ka (aN p) b x y:=by
 obtain ⟨l,t,r,bt,h1,h2⟩:=Bo q cq hne (by lia)
 obtain ⟨z,z1,z2,z3,z4,z5,z6,z7⟩:=yT p c hp hr l t r bt b
 obtain ⟨n,hn⟩:∃ n:Nat,b.2.2.2 - b.2.1 = n:=⟨(b.2.2.2 - b.2.1).toNat,by have:=hb.2;lia⟩
 have eh:cU b = 2 * n + 1:=by unfold cU;rw [hn];simp
 have e1:(2 * n + 1) * (aj z).length <= cU b * (aj p).length:=by rw [eh];exact Rx _ z4
 obtain ⟨w,w1,w2,w3,w4,w5⟩:=gA z z2 b hb n hn (by lia) (by lia) z5
 have cm:=sR (p:=q) (q:=w) w2 (by lia) (by lia) (by lia)
 have d0:=fI q
 rw [PM hne] at d0
 refine ⟨cmP q w,?_,yC cq w2,?_,?_,fun x y=>?_⟩
 ·simp [bE,d0,h1,z1,w1,cm]
 ·have:=Dw q w
  lia
 ·have:=Fs (p:=q) (q:=w) cq
  lia
 ·rw [C6 cq w2,w5]
  constructor
  ·rintro ⟨g1,g2⟩
   exact ⟨g1,fun dx dy hd=>z6 _ _ (g2 dx dy hd)⟩
  ·rintro ⟨g1,g2⟩
   obtain ⟨x0,x1,y0,y1⟩:=h2 x y g1
   refine ⟨g1,fun dx dy hd=>z7 _ _ ?_ ?_ ?_ ?_ (g2 dx dy hd)⟩
   ·have:=hd.1;lia
   ·have:=hd.2.1;lia
   ·have:=hd.2.2.1;lia
   ·have:=hd.2.2.2;lia
theorem mW (p:Pic) (c:av p) (bs:List Blk) (hne:bs ≠ []) (hb:∀ b ∈ bs,BOk b) (hp:p.length <= 1000) (hr:∀ q ∈ p,q.2.length <= 1000) (hl:bs.length <= 1000) (hs:a9 bs * (aj p).length <= 10000) :
  ∃ q:Pic,eA [au p,.tup (bs.map cz)] = some (au q) /\ av q /\ q.length <= p.length /\ (aj q).length <= a9 bs * (aj p).length /\ ∀ x y,aN q x y ↔ Ey p bs x y:=by
 obtain ⟨cs,b0,rfl⟩:∃ cs b0,bs = cs ++ [b0]:=by
  rcases Qi bs with h | ⟨cs,b0,h⟩
  ·exact absurd h hne
  ·exact ⟨cs,b0,by rw [h,Qo]⟩
 have hh:a9 (cs ++ [b0]) = a9 cs + cU b0:=by rw [cH,gN]
 rw [hh,Qj] at hs
 obtain ⟨n,hn⟩:∃ n:Nat,b0.2.2.2 - b0.2.1 = n:=⟨(b0.2.2.2 - b0.2.1).toNat,by have:=(hb b0 (by simp)).2;lia⟩
 have eh:cU b0 = 2 * n + 1:=by unfold cU;rw [hn];simp
 obtain ⟨q0,w1,w2,w3,w4,w5⟩:=gA p c b0 (hb b0 (by simp)) n hn hp (by rw [<- eh];lia) hr
 rw [<- eh] at w4
 have ec:j6 ((cs ++ [b0]).map cz) none (some (-1)) = cs.map cz:=by
  rw [DD]
  congr 1
  unfold j6
  have e1:HT.sIx (cs ++ [b0]).length 0 none = 0:=rfl
  have e2:HT.sIx (cs ++ [b0]).length (cs ++ [b0]).length (some (-1)) = cs.length:=by
   rw [Ph,PK]
   unfold HT.sIx
   simp
   lia
  rw [e1,e2]
  simp
 have at1:atI ((cs ++ [b0]).map cz) (-1) = some (cz b0):=by rw [Qf];exact jp _ _
 obtain ⟨o,k1,k2⟩:=yl (g:=ai 3) (m:=bE) cz (fun pre ρ=>∃ (q:Pic) (v3:Sl),ρ = [.sh (au p),.sh (.tup ((cs ++ [b0]).map cz)),.sh (au q),v3] /\ av q /\ q.length <= p.length /\ (aj q).length <= (a9 pre + cU b0) * (aj p).length /\ ∀ x y,aN q x y ↔ Ey p (pre ++ [b0]) x y)
  (fun d=>d = .tup [] /\ ∀ x y,¬ Ey p (cs ++ [b0]) x y) (fun _=>False) cs [.sh (au p),.sh (.tup ((cs ++ [b0]).map cz)),.sh (au q0),.un]
  ⟨q0,_,rfl,w2,w3,by have:a9 [] = 0:=rfl;rw [this,Qy];exact w4,fun x y=>by rw [w5];unfold Ey;simp⟩ (by
  rintro pre b post _ e ⟨q,v3,rfl,cq,lq,sq,mq⟩
  have hbm:b ∈ cs:=by rw [e];simp
  have hpre:a9 pre + cU b <= a9 cs:=by
   rw [e,cH]
   have:a9 (b :: post) = cU b + a9 post:=rfl
   lia
  have hmul:(a9 pre + cU b0) * (aj p).length + cU b * (aj p).length <= 10000:=by
   have:(a9 pre + cU b0) * (aj p).length + cU b * (aj p).length = (a9 pre + cU b) * (aj p).length + cU b0 * (aj p).length:=by
    rw [Qj,Qj]
    lia
   rw [this]
   have:=QB (aj p).length hpre
   lia
  by_cases hq0:q = []
  ·subst hq0
   refine ⟨_,.rt (.tup []),rfl,?_,rfl,fun x y h=>?_⟩
   ·have d0:=fI []
    rw [Rh rfl] at d0
    simp [bE,d0]
   ·refine cI x y ((mq x y).mpr fun b' hb'=>h b' ?_)
    rw [e]
    rcases Po.mp hb' with h' | h'
    ·simp [h']
    ·simp [Pe.mp h']
  ·obtain ⟨q',t1,t2,t3,t4,t5⟩:=CA p c hp hr (.sh (.tup ((cs ++ [b0]).map cz))) (.sh (cz b)) q cq lq b (hb b (Pv _ hbm)) (by lia) hq0
   refine ⟨_,_,rfl,t1,q',_,rfl,t2,t3,?_,fun x y=>?_⟩
   ·rw [cH,gN]
    have:(a9 pre + cU b + cU b0) * (aj p).length = (a9 pre + cU b0) * (aj p).length + cU b * (aj p).length:=by
     rw [Qj,Qj,Qj]
     lia
    lia
   ·rw [t5,mq]
    unfold Ey
    constructor
    ·rintro ⟨g1,g2⟩ b' hb'
     rcases Po.mp hb' with h' | h'
     ·rcases Po.mp h' with h' | h'
      ·exact g1 b' (Pv _ h')
      ·rw [Pe.mp h'];exact g2
     ·exact g1 b' (Pm _ h')
    ·intro g
     refine ⟨fun b' hb'=>g b' ?_,g b (by simp)⟩
     rcases Po.mp hb' with h' | h'
     ·simp [h']
     ·simp [Pe.mp h'])
 have hlim:(cs ++ [b0]).length <= LIM:=bj (by lia)
 cases o with
 | nx ρ'=>
  rcases k2 with ⟨q,v3,rfl,cq,lq,sq,mq⟩ | h
  ·refine ⟨q,?_,cq,lq,by rw [hh];exact sq,mq⟩
   generalize (cs ++ [b0]).map cz = Bs at *
   simp [eA,dw,fnO,cP,at1,w1,dSl,ec,CS,k1]
  ·exact h.elim
 | rt d=>
  obtain ⟨rfl,hno⟩:=k2
  refine ⟨[],?_,fH,PU _,PU _,fun x y=>⟨fun h=>(cI _ _ h).elim,fun h=>(hno x y h).elim⟩⟩
  generalize (cs ++ [b0]).map cz = Bs at *
  simp [eA,dw,fnO,cP,at1,w1,dSl,ec,CS,k1]
 | ct _=>exact k2.elim
 | bk _=>exact k2.elim
 | ro _=>exact k2.elim
theorem F9 (p:Pic) (bs:List Blk) (x y:Int):Ey p bs x y ↔ ∀ u v,zd bs u v -> aN p (x + u) (y + v):=by
 constructor
 ·rintro h u v ⟨b,hb,hm⟩
  exact h b hb u v hm
 ·intro h b hb u v hm
  exact h u v ⟨b,hb,hm⟩
def uf (p:Pic) (ps:List (List Blk)) (x y:Int):Prop:=∀ u v,Off ps u v -> aN p (x + u) (y + v)
theorem Ao (ps:List (List Blk)) (bs:List Blk) (x y:Int):Off (ps ++ [bs]) x y ↔ ∃ u v,Off ps u v /\ zd bs (x - u) (y - v):=by
 induction ps generalizing x y with
 | nil=>
  constructor
  ·rintro ⟨u,v,h1,h2,h3⟩
   exact ⟨0,0,⟨rfl,rfl⟩,by rwa [show x - 0 = u by lia,show y - 0 = v by lia]⟩
  ·rintro ⟨u,v,⟨rfl,rfl⟩,h⟩
   exact ⟨x - 0,y - 0,h,by lia,by lia⟩
 | cons a ps ih=>
  constructor
  ·rintro ⟨u,v,h1,h2⟩
   obtain ⟨u',v',h3,h4⟩:=(ih _ _).mp h2
   exact ⟨u + u',v + v',⟨u,v,h1,by rwa [show u + u' - u = u' by lia,show v + v' - v = v' by lia]⟩,by rwa [show x - (u + u') = x - u - u' by lia,show y - (v + v') = y - v - v' by lia]⟩
  ·rintro ⟨u,v,⟨u',v',h1,h3⟩,h2⟩
   exact ⟨u',v',h1,(ih _ _).mpr ⟨u - u',v - v',h3,by rwa [show x - u' - (u - u') = x - u by lia,show y - v' - (v - v') = y - v by lia]⟩⟩
def F7 (ps:List (List Blk)):Prop:=∀ bs ∈ ps,bs.length <= 1000
theorem tz (l:List Int):(fE l).length <= l.length:=by
 match l with
 | []=>exact PU _
 | [_]=>exact PU _
 | a :: b :: l=>
  have:=tz l
  rw [fE,Pr,Pr,Pr]
  lia
theorem BH (r t:R):(iK r t).length <= 2 * (r.length + t.length):=by
 unfold iK
 have h1:=rZ (fE (g8 (chg (r ++ t))))
 have h2:=tz (g8 (chg (r ++ t)))
 have h3:=(fA (chg (r ++ t))).length_eq
 have h4:=zE (r ++ t)
 rw [Ph] at h4
 lia
theorem GC (r t:R):(jY r t).length <= 4 * r.length + 2 * t.length:=by
 unfold jY
 have h1:=BH r (dH r t)
 have h2:=qC _ r t rfl
 lia
theorem K7 {p q:Pic} (cp:av p):(aj (leP p q)).length <= 4 * (aj p).length + 2 * (aj q).length:=by
 have h1:=uY q p cp.2
 have key:∀ p:Pic,(aj (p.map fun s=>(s.1,jY s.2 (bA q s.1)))).length <= 4 * (aj p).length + 2 * (p.map fun s=>(bA q s.1).length).sum:=by
  intro p
  induction p with
  | nil=>simp [aj]
  | cons s p ih=>
   have:=GC s.2 (bA q s.1)
   rw [Ps,bz,bz,Ph,Ph,Pc,Pc,Ps,Qp]
   dsimp only
   lia
 unfold leP pW
 rw [eU]
 have:=key p
 lia
def Cov (n:Nat) (P:Int -> Int -> Prop):Prop:=∃ ts:List Tri,ts.length <= n /\ ∀ x y,kJ ts x y ↔ P x y
theorem uo {q:Pic} (c:av q) {n:Nat} {P:Int -> Int -> Prop} (hP:∀ x y,aN q x y ↔ P x y) (h:Cov n P):(aj q).length <= n:=by
 obtain ⟨ts,hl,hm⟩:=h
 have e:g6 ts = q:=BR c fun x y=>(hm x y).trans (hP x y).symm
 have:=nI ts
 rw [e] at this
 lia
theorem Cov.mono {n m:Nat} {P:Int -> Int -> Prop} (h:Cov n P) (hm:n <= m):Cov m P:=let ⟨ts,a,b⟩:=h;⟨ts,PL a hm,b⟩
def GrF (p:Pic) (ps:List (List Blk)) (x y:Int):Prop:=∃ u v,Off ps u v /\ aN p (x - u) (y - v)
theorem yN (N:Str) (hN:NS.contains N = true) (ps:List (List Blk)) (hf:FOk ps) (p:Pic) (c:av p) (hs:∀ post bs pre,ps = post ++ bs :: pre -> ∃ n,Cov n (GrF p pre) /\ a9 bs * n <= 10000) :
  ∃ q:Pic,dc [aD N ps,au p] = some (au q) /\ av q /\ ∀ x y,aN q x y ↔ GrF p ps x y:=by
 obtain ⟨ρ',k1,q,v2,rfl,b1,b3⟩:=cE (g:=ai 2) (m:=c6) gj (fun pre ρ=>∃ (q:Pic) (v2:Sl),ρ = [.sh (aD N ps),.sh (au q),v2] /\ av q /\ ∀ x y,aN q x y ↔ GrF p pre.reverse x y) ps.reverse [.sh (aD N ps),.sh (au p),.un] ⟨p,_,rfl,c,fun x y=>⟨fun h=>⟨0,0,⟨rfl,rfl⟩,by simpa using h⟩,fun ⟨u,v,⟨hu,hv⟩,h⟩=>by subst hu hv;simpa using h⟩⟩ (by
  rintro pre bs post _ e ⟨q,v2,rfl,cq,l2⟩
  have e':ps = post.reverse ++ (bs :: pre.reverse):=by
   have:=PC List.reverse e
   rw [R5] at this
   rw [this]
   simp
  have hbs:=hf bs (by rw [e'];simp)
  obtain ⟨n,hcov,hn⟩:=hs _ _ _ e'
  have hl:=uo cq l2 hcov
  have hp3:a9 bs * (aj q).length <= a9 bs * n:=Rx _ hl
  obtain ⟨q',c1,c2,c3,c4⟩:=mK q cq bs hbs.2 (by lia)
  have er:(pre ++ [bs]).reverse = bs :: pre.reverse:=by simp
  refine ⟨_,[.sh (aD N ps),.sh (au q'),.sh (gj bs)],rfl,.inl ?_,q',_,rfl,c2,fun x y=>?_⟩
  ·simp [c6,c1]
  ·rw [er,c4,Ih]
   constructor
   ·rintro ⟨u,v,h1,h2⟩
    obtain ⟨u',v',h3,h4⟩:=(l2 _ _).mp h2
    exact ⟨u + u',v + v',⟨u,v,h1,by rwa [show u + u' - u = u' by lia,show v + v' - v = v' by lia]⟩,by rwa [show x - (u + u') = x - u - u' by lia,show y - (v + v') = y - v - v' by lia]⟩
   ·rintro ⟨u,v,⟨u',v',h1,h3⟩,h2⟩
    exact ⟨u',v',h1,(l2 _ _).mpr ⟨u - u',v - v',h3,by rwa [show x - u' - (u - u') = x - u by lia,show y - v' - (v - v') = y - v by lia]⟩⟩)
 refine ⟨q,?_,b1,fun x y=>by rw [b3,R5]⟩
 have ef:pi NS "parts" (ar 0) [.sh (aD N ps),.sh (au p),.un] = some (dB ps):=by
  show (if NS.contains N then wP ["parts"] [dB ps] "parts" else none) = _
  rw [O7 hN]
  rfl
 rw [List.map_reverse] at k1
 have er:ya (ad (pi NS "parts" (ar 0)) am) [.sh (aD N ps),.sh (au p),.un] = some (ps.map gj).reverse:=by
  unfold ya ad am
  rw [ef]
  rfl
 have ex:eK [.sh (aD N ps),.sh (au p),.un] = some (.rt (au q)):=by
  unfold eK
  have e1:jy (ya (ad (pi NS "parts" (ar 0)) am)) (ai 2) c6 [.sh (aD N ps),.sh (au p),.un] = some (.nx [.sh (aD N ps),.sh (au q),v2]):=by
   unfold jy
   rw [er]
   exact k1
  rw [aI e1]
  rfl
 exact sY (n:=3) (ds:=[aD N ps,au p]) ex
theorem rA (N:Str) (hN:NS.contains N = true) (ps:List (List Blk)) (hf:FOk ps) (hlo:F7 ps) (p:Pic) (c:av p) (hp:p.length <= 1000) (hs:∀ pre bs post,ps = pre ++ bs :: post -> ∃ n,Cov n (uf p pre) /\ n <= 1000 /\ a9 bs * n <= 10000) :
  ∃ q:Pic,bB [aD N ps,au p] = some (au q) /\ av q /\ q.length <= p.length /\ ∀ x y,aN q x y ↔ uf p ps x y:=by
 obtain ⟨ρ',k1,q,v2,rfl,b1,b0,b3⟩:=cE (g:=ai 2) (m:=cZ) gj (fun pre ρ=>∃ (q:Pic) (v2:Sl),ρ = [.sh (aD N ps),.sh (au q),v2] /\ av q /\ q.length <= p.length /\ ∀ x y,aN q x y ↔ uf p pre x y) ps [.sh (aD N ps),.sh (au p),.un] ⟨p,_,rfl,c,Pf _,fun x y=>⟨fun h u v ⟨hu,hv⟩=>by subst hu hv;simpa using h,fun h=>by simpa using h 0 0 ⟨rfl,rfl⟩⟩⟩ (by
  rintro pre bs post _ e ⟨q,v2,rfl,cq,lq,l2⟩
  have hbs:=hf bs (by rw [e];simp)
  obtain ⟨n,hcov,hn1,hn⟩:=hs _ _ _ e
  have hl:=uo cq l2 hcov
  have hp3:a9 bs * (aj q).length <= a9 bs * n:=Rx _ hl
  obtain ⟨q',c1,c2,c3,c4,c5⟩:=mW q cq bs hbs.1 hbs.2 (by lia) (fun z hz=>by have:=d6 hz;lia) (hlo bs (by rw [e];simp)) (by lia)
  refine ⟨_,[.sh (aD N ps),.sh (au q'),.sh (gj bs)],rfl,.inl ?_,q',_,rfl,c2,by lia,fun x y=>?_⟩
  ·simp [cZ,c1]
  ·rw [c5,F9]
   unfold uf
   constructor
   ·intro h u v ho
    obtain ⟨u',v',h1,h2⟩:=(Ao pre bs u v).mp ho
    have:=(l2 _ _).mp (h _ _ h2) u' v' h1
    rwa [show x + (u - u') + u' = x + u by lia,show y + (v - v') + v' = y + v by lia] at this
   ·intro h u v hu
    rw [l2]
    intro u' v' h1
    have:=h (u + u') (v + v') ((Ao pre bs _ _).mpr ⟨u',v',h1,by rwa [show u + u' - u' = u by lia,show v + v' - v' = v by lia]⟩)
    rwa [show x + (u + u') = x + u + u' by lia,show y + (v + v') = y + v + v' by lia] at this)
 refine ⟨q,?_,b1,b0,b3⟩
 have ef:pi NS "parts" (ar 0) [.sh (aD N ps),.sh (au p),.un] = some (dB ps):=by
  show (if NS.contains N then wP ["parts"] [dB ps] "parts" else none) = _
  rw [O7 hN]
  rfl
 have ex:eJ [.sh (aD N ps),.sh (au p),.un] = some (.rt (au q)):=by
  unfold eJ
  have e1:jy (xIt (pi NS "parts" (ar 0))) (ai 2) cZ [.sh (aD N ps),.sh (au p),.un] = some (.nx [.sh (aD N ps),.sh (au q),v2]):=by
   unfold jy xIt
   rw [ef]
   exact k1
  rw [aI e1]
  rfl
 exact sY (n:=3) (ds:=[aD N ps,au p]) ex
def u0 (b c:Blk):Blk:=(b.1 + c.1,b.2.1 + c.2.1,b.2.2.1 + c.2.2.1,b.2.2.2 + c.2.2.2)
def aL (ps:List (List Blk)):List Blk:=ps.filterMap fun bs=>if bs.length = 1 then bs.head? else none
def jz (ss:List Blk):Blk:=ss.foldr u0 (0,0,0,0)
def jg (ps:List (List Blk)):List (List Blk):=ps.filter fun bs=>decide (1 < bs.length)
def vn (ps:List (List Blk)):List (List Blk):=[jz (aL ps)] :: jg ps
theorem AK {b c:Blk} (hb:BOk b) (hc:BOk c) (x y:Int):n4 (u0 b c) x y ↔ ∃ u v,n4 b u v /\ n4 c (x - u) (y - v):=by
 obtain ⟨h1,h2⟩:=hb
 obtain ⟨h3,h4⟩:=hc
 unfold n4 u0
 dsimp only
 constructor
 ·rintro ⟨k1,k2,k3,k4⟩
  exact ⟨max b.1 (x - c.2.2.1),max b.2.1 (y - c.2.2.2),⟨by lia,by lia,by lia,by lia⟩,by lia,by lia,by lia,by lia⟩
 ·rintro ⟨u,v,⟨a1,a2,a3,a4⟩,b1,b2,b3,b4⟩
  exact ⟨by lia,by lia,by lia,by lia⟩
theorem Hr {b c:Blk} (hb:BOk b) (hc:BOk c):BOk (u0 b c):=by
 obtain ⟨h1,h2⟩:=hb
 obtain ⟨h3,h4⟩:=hc
 exact ⟨by unfold u0;dsimp only;lia,by unfold u0;dsimp only;lia⟩
theorem Dk:∀ {ss:List Blk},(∀ b ∈ ss,BOk b) -> BOk (jz ss)
 | [],_=>⟨Pl _,Pl _⟩
 | b :: ss,h=>Hr (h b Pg) (Dk fun c hc=>h c (Pi _ hc))
theorem fj (b:Blk) (x y:Int):zd [b] x y ↔ n4 b x y:=by
 constructor
 ·rintro ⟨c,hc,h⟩
  rw [Pe] at hc
  subst hc
  exact h
 ·intro h
  exact ⟨b,Pe.mpr rfl,h⟩
theorem kU:∀ (a b:List (List Blk)) (x y:Int),Off (a ++ b) x y ↔ ∃ u v,Off a u v /\ Off b (x - u) (y - v)
 | [],b,x,y=>by
  constructor
  ·intro h
   exact ⟨0,0,⟨rfl,rfl⟩,by simpa using h⟩
  ·rintro ⟨u,v,⟨rfl,rfl⟩,h⟩
   simpa using h
 | bs :: a,b,x,y=>by
  constructor
  ·rintro ⟨u,v,h1,h2⟩
   obtain ⟨u',v',h3,h4⟩:=(kU a b _ _).mp h2
   exact ⟨u + u',v + v',⟨u,v,h1,by rwa [show u + u' - u = u' by lia,show v + v' - v = v' by lia]⟩,by rwa [show x - (u + u') = x - u - u' by lia,show y - (v + v') = y - v - v' by lia]⟩
  ·rintro ⟨u,v,⟨u',v',h1,h2⟩,h3⟩
   exact ⟨u',v',h1,(kU a b _ _).mpr ⟨u - u',v - v',h2,by rwa [show x - u' - (u - u') = x - u by lia,show y - v' - (v - v') = y - v by lia]⟩⟩
theorem GQ (a b:List Blk) (r:List (List Blk)) (x y:Int):Off (a :: b :: r) x y ↔ Off (b :: a :: r) x y:=by
 have key:∀ (a b:List Blk),Off (a :: b :: r) x y -> Off (b :: a :: r) x y:=by
  rintro a b ⟨u,v,h1,u',v',h2,h3⟩
  exact ⟨u',v',h2,u,v,h1,by rwa [show x - u' - u = x - u - u' by lia,show y - v' - v = y - v - v' by lia]⟩
 exact ⟨key a b,key b a⟩
theorem vo {r r':List (List Blk)} (bs:List Blk) (h:∀ x y,Off r x y ↔ Off r' x y) (x y:Int):Off (bs :: r) x y ↔ Off (bs :: r') x y:=by
 constructor
 ·rintro ⟨u,v,h1,h2⟩;exact ⟨u,v,h1,(h _ _).mp h2⟩
 ·rintro ⟨u,v,h1,h2⟩;exact ⟨u,v,h1,(h _ _).mpr h2⟩
theorem Cs {ps:List (List Blk)} (h:FOk ps):∀ b ∈ aL ps,BOk b:=by
 intro b hb
 obtain ⟨bs,h1,h2⟩:=Q4.mp hb
 split at h2
 ·exact (h bs h1).2 b (List.mem_of_mem_head? h2)
 ·cases h2
theorem zD:∀ {ps:List (List Blk)},FOk ps -> ∀ x y,Off (vn ps) x y ↔ Off ps x y
 | [],_,x,y=>by
  constructor
  ·rintro ⟨u,v,h1,h2,h3⟩
   have h4:=(fj _ _ _).mp h1
   obtain ⟨k1,k2,k3,k4⟩:=h4
   simp only [aL,jz,List.filterMap_nil,List.foldr_nil] at k1 k2 k3 k4
   exact ⟨by lia,by lia⟩
  ·rintro ⟨rfl,rfl⟩
   exact ⟨0,0,(fj _ _ _).mpr ⟨Pl _,Pl _,Pl _,Pl _⟩,rfl,rfl⟩
 | bs :: r,h,x,y=>by
  have hr:FOk r:=fun z hz=>h z (Pi _ hz)
  have ih:=zD hr
  obtain ⟨hne,hb⟩:=h bs Pg
  by_cases h1:bs.length = 1
  ·obtain ⟨b,rfl⟩:=List.length_eq_one_iff.mp h1
   have e1:aL ([b] :: r) = b :: aL r:=by simp [aL]
   have e2:jg ([b] :: r) = jg r:=by simp [jg]
   have hbb:=hb b (Pe.mpr rfl)
   have ht:=Dk (Cs hr)
   have e3:vn ([b] :: r) = [u0 b (jz (aL r))] :: jg r:=by unfold vn;rw [e1,e2];rfl
   rw [e3]
   constructor
   ·rintro ⟨u,v,k1,k2⟩
    obtain ⟨u',v',k3,k4⟩:=(AK hbb ht u v).mp ((fj _ _ _).mp k1)
    refine ⟨u',v',(fj _ _ _).mpr k3,(ih _ _).mp ⟨u - u',v - v',(fj _ _ _).mpr k4,?_⟩⟩
    rwa [show x - u' - (u - u') = x - u by lia,show y - v' - (v - v') = y - v by lia]
   ·rintro ⟨u,v,k1,k2⟩
    obtain ⟨u',v',k3,k4⟩:=(ih _ _).mpr k2
    refine ⟨u + u',v + v',(fj _ _ _).mpr ((AK hbb ht _ _).mpr ⟨u,v,(fj _ _ _).mp k1,?_⟩),?_⟩
    ·rw [show u + u' - u = u' by lia,show v + v' - v = v' by lia]
     exact (fj _ _ _).mp k3
    ·rwa [show x - (u + u') = x - u - u' by lia,show y - (v + v') = y - v - v' by lia]
  ·have hl:1 < bs.length:=by
    have:=Rv.mpr hne
    lia
   have e1:aL (bs :: r) = aL r:=by simp [aL,h1]
   have e2:jg (bs :: r) = bs :: jg r:=by simp [jg,hl]
   have e3:vn (bs :: r) = [jz (aL r)] :: bs :: jg r:=by unfold vn;rw [e1,e2]
   rw [e3,GQ]
   exact vo bs ih x y
theorem qM (ns:List Int):Fb [.lst (ns.map D.int)] = some (.int ns.sum):=by
 have:bS (ns.map D.int) = some ns:=by
  induction ns with
  | nil=>rfl
  | cons n ns ih=>simp [bS,ih]
 simp [Fb,this]
theorem D1 (ss:List Blk):jz ss = ((ss.map fun b=>b.1).sum,(ss.map fun b=>b.2.1).sum,(ss.map fun b=>b.2.2.1).sum,(ss.map fun b=>b.2.2.2).sum):=by
 induction ss with
 | nil=>rfl
 | cons b ss ih=>
  show u0 b (jz ss) = _
  rw [ih]
  simp [u0]
theorem Da:∀ ps:List (List Blk),ps.filterMap (fun bs=>if 1 < bs.length then some (gj bs) else none) = (jg ps).map gj
 | []=>rfl
 | bs :: r=>by
  have ih:=Da r
  unfold jg at ih ⊢
  by_cases h:1 < bs.length <;> simp [h,ih]
theorem rp (ps:List (List Blk)) (hl:ps.length <= 1000):iR [dB ps] = some (dB (vn ps)):=by
 have l1:ps.length <= LIM:=bj (by lia)
 have hs:(aL ps).length <= ps.length:=R6 _ _
 have l2:(aL ps).length <= LIM:=bj (by lia)
 have l3:(jg ps).length <= ps.length:=Qt _ _
 have l4:1 + (jg ps).length <= LIM:=bj (by lia)
 have l5:(jg ps).length + 1 <= LIM:=bj (by lia)
 have c1:bU (ai 0) (xB (xOp (dEq false) (xCB kh (ad (ag 0) am)) (xC (.int 1)))) (xOp dIx (ag 0) (xC (.int 0))) [.un] (ps.map gj) = some ((aL ps).map cz):=by
  rw [i7 gj (fun bs=>if bs.length = 1 then (bs.head?).map cz else none) ps fun bs _=>by
   by_cases h:bs.length = 1
   ·obtain ⟨b,rfl⟩:=List.length_eq_one_iff.mp h
    simp [fe,atI,ixN]
   ·have h':¬ ((bs.length:Int) = 1):=by lia
    simp [fe,h,h']]
  congr 1
  unfold aL
  rw [List.map_filterMap]
  congr 1
  funext bs
  by_cases h:bs.length = 1 <;> simp [h]
 have c3:bU (ai 0) (xB (xOp dGt (xCB kh (ad (ag 0) am)) (xC (.int 1)))) (ar 0) [.un] (ps.map gj) = some ((jg ps).map gj):=by
  rw [i7 gj (fun bs=>if 1 < bs.length then some (gj bs) else none) ps fun bs _=>by
   by_cases h:1 < bs.length
   ·have h':(1:Int) < bs.length:=by lia
    simp [fe,h,h']
   ·have h':¬ ((1:Int) < bs.length):=by lia
    simp [fe,h,h']]
  exact PC some (Da ps)
 have inner:∀ (k:Int) (f:Blk -> Int),(∀ b:Blk,atI [D.int b.1,.int b.2.1,.int b.2.2.1,.int b.2.2.2] k = some (.int (f b))) -> bU (ai 0) dl (xOp dIx (ag 0) (ag 1)) [.un,.sh (.int k)] ((aL ps).map cz) = some (((aL ps).map f).map D.int):=by
  intro k f hf
  rw [PD]
  exact bp cz (D.int ∘ f) (aL ps) fun b _=>by
   have:=hf b
   simp [fe,this]
 have e4:fR 0 4 = ([0,1,2,3]:List Int).map D.int:=rfl
 have tog:=D1 (aL ps)
 have c2:bU (ai 0) dl (xCB Fb (ad (xL (dr [none,some 0] (xIt (ag 1)) (ai 0) dl (xOp dIx (ag 0) (ag 1)))) am)) [.un,.sh (.lst ((aL ps).map cz))] (fR 0 4) = some [.int (jz (aL ps)).1,.int (jz (aL ps)).2.1,.int (jz (aL ps)).2.2.1,.int (jz (aL ps)).2.2.2]:=by
  rw [e4,tog]
  dsimp only
  rw [bp D.int (fun k=>if k = 0 then .int ((aL ps).map fun b=>b.1).sum else if k = 1 then .int ((aL ps).map fun b=>b.2.1).sum else if k = 2 then .int ((aL ps).map fun b=>b.2.2.1).sum else .int ((aL ps).map fun b=>b.2.2.2).sum) [0,1,2,3] fun k hk=>by
   have i0:=inner 0 (fun b=>b.1) fun b=>rfl
   have i1:=inner 1 (fun b=>b.2.1) fun b=>rfl
   have i2:=inner 2 (fun b=>b.2.2.1) fun b=>rfl
   have i3:=inner 3 (fun b=>b.2.2.2) fun b=>rfl
   have s0:=qM ((aL ps).map fun b=>b.1)
   have s1:=qM ((aL ps).map fun b=>b.2.1)
   have s2:=qM ((aL ps).map fun b=>b.2.2.1)
   have s3:=qM ((aL ps).map fun b=>b.2.2.2)
   generalize ((aL ps).map fun b=>b.1).map D.int = z0 at i0 s0
   generalize ((aL ps).map fun b=>b.2.1).map D.int = z1 at i1 s1
   generalize ((aL ps).map fun b=>b.2.2.1).map D.int = z2 at i2 s2
   generalize ((aL ps).map fun b=>b.2.2.2).map D.int = z3 at i3 s3
   simp only [Pn,List.not_mem_nil,or_false] at hk
   rcases hk with rfl | rfl | rfl | rfl
   ·simp [fe,l2,i0,s0]
   ·simp [fe,l2,i1,s1]
   ·simp [fe,l2,i2,s2]
   ·simp [fe,l2,i3,s3]]
  rfl
 have es:dB (vn ps) = .tup ([.tup [cz (jz (aL ps))]] ++ (jg ps).map gj):=rfl
 rw [es]
 have lm:((jg ps).map gj).length = (jg ps).length:=Pc ..
 generalize (jg ps).map gj = ms at c3 lm
 have l6:1 + ms.length <= LIM:=by lia
 have hr:Ge [.int 4] = some (fR 0 4):=IK (by decide)
 have lf:(fR 0 4).length <= LIM:=bj (by decide)
 have lt:4 <= LIM:=bj (by decide)
 have lo:1 <= LIM:=bj (by decide)
 generalize jz (aL ps) = tb at c2
 generalize fR 0 4 = four at c2 hr lf
 generalize (aL ps).map cz = zs at c1 c2
 simp [iR,hV,fnO,f6,c1,l1,hr,lf,c2,c3,Cj,l6,lt,lo]
def GrS (P:Int -> Int -> Prop) (Q:Int -> Int -> Prop) (x y:Int):Prop:=∃ u v,Q u v /\ P (x - u) (y - v)
def RC (P:Int -> Int -> Prop):Prop:=∀ y a b c,P a y -> P c y -> a <= b -> b <= c -> P b y
theorem Ks {p:Pic} (h:RC (aN p)) (ps:List (List Blk)):RC (uf p ps):=fun y a b c ha hc h1 h2 u v ho=>h _ _ _ _ (ha u v ho) (hc u v ho) (by lia) (by lia)
theorem uB (P:Int -> Prop) (cv:∀ a b c,P a -> P c -> a <= b -> b <= c -> P b):∀ (n:Nat) (lo hi:Int),hi - lo < n -> (∀ x,P x -> lo <= x /\ x <= hi) -> ∃ a b:Int,∀ x,(a <= x /\ x <= b) ↔ P x
 | 0,lo,hi,h,hb=>⟨1,0,fun x=>⟨fun h=>by lia,fun h=>by have:=hb x h;lia⟩⟩
 | n + 1,lo,hi,h,hb=>by
  by_cases h1:P lo
  ·by_cases h2:P hi
   ·exact ⟨lo,hi,fun x=>⟨fun h=>cv lo x hi h1 h2 h.1 h.2,hb x⟩⟩
   ·refine uB P cv n lo (hi - 1) (by lia) fun x hx=>?_
    have:=hb x hx
    have:x ≠ hi:=fun e=>h2 (e ▸ hx)
    lia
  ·refine uB P cv n (lo + 1) hi (by lia) fun x hx=>?_
   have:=hb x hx
   have:x ≠ lo:=fun e=>h1 (e ▸ hx)
   lia
theorem EK (r:R):∃ lo hi:Int,∀ x,Mem r x -> lo <= x /\ x <= hi:=by
 induction r with
 | nil=>exact ⟨0,0,fun x h=>(bn _ h).elim⟩
 | cons s r ih=>
  obtain ⟨lo,hi,h⟩:=ih
  refine ⟨min lo s.1,max hi s.2,fun x hx=>?_⟩
  rcases (mem_cons ..).mp hx with ⟨h1,h2⟩ | hx
  ·lia
  ·have:=h x hx;lia
theorem Ah:∀ {ps:List (List Blk)},FOk ps -> ∃ u v,Off ps u v
 | [],_=>⟨0,0,rfl,rfl⟩
 | bs :: r,h=>by
  obtain ⟨u,v,k⟩:=Ah (ps:=r) fun x hx=>h x (Pi _ hx)
  obtain ⟨hne,hb⟩:=h bs Pg
  obtain ⟨b,r',rfl⟩:=List.exists_cons_of_ne_nil hne
  have ok:=hb b Pg
  exact ⟨b.1 + u,b.2.1 + v,b.1,b.2.1,⟨b,Pg,Pl _,ok.1,Pl _,ok.2⟩,by rwa [show b.1 + u - b.1 = u by lia,show b.2.1 + v - b.2.1 = v by lia]⟩
theorem B1 (p:Pic):∃ lo hi:Int,∀ x y,aN p x y -> lo <= x /\ x <= hi:=by
 induction p with
 | nil=>exact ⟨0,0,fun x y h=>(cI _ _ h).elim⟩
 | cons q p ih=>
  obtain ⟨lo,hi,h⟩:=ih
  obtain ⟨lo',hi',h'⟩:=EK q.2
  refine ⟨min lo lo',max hi hi',fun x y hx=>?_⟩
  rcases (bo ..).mp hx with ⟨_,hx⟩ | hx
  ·have:=h' x hx;lia
  ·have:=h x y hx;lia
theorem HQ {p:Pic} (h:RC (aN p)) {ps:List (List Blk)} (hf:FOk ps):Cov p.length (uf p ps):=by
 obtain ⟨u,v,ho⟩:=Ah hf
 obtain ⟨lo,hi,hb⟩:=B1 p
 have key:∀ y,∃ ab:Int × Int,∀ x,(ab.1 <= x /\ x <= ab.2) ↔ uf p ps x y:=fun y=>by
  obtain ⟨a,b,k⟩:=uB (fun x=>uf p ps x y) (fun a b c ha hc h1 h2=>Ks h ps _ _ _ _ ha hc h1 h2) ((hi - lo).toNat + 1) (lo - u) (hi - u) (by lia) fun x hx=>by
   have:=hb _ _ (hx u v ho)
   lia
  exact ⟨(a,b),k⟩
 refine ⟨p.map fun q=>(q.1 - v,(Classical.choose (key (q.1 - v))).1,(Classical.choose (key (q.1 - v))).2),by rw [Pc];exact Pf _,fun x y=>?_⟩
 constructor
 ·rintro ⟨t,ht,e,h1,h2⟩
  obtain ⟨q,hq,rfl⟩:=Pq.mp ht
  dsimp only at e h1 h2
  have:=(Classical.choose_spec (key (q.1 - v)) x).mp ⟨h1,h2⟩
  rwa [e] at this
 ·intro hx
  obtain ⟨q,hq,e,_⟩:=hx u v ho
  have e':q.1 - v = y:=by lia
  refine ⟨_,Pq.mpr ⟨q,hq,rfl⟩,e',?_⟩
  dsimp only
  exact (Classical.choose_spec (key (q.1 - v)) x).mpr (by rw [e'];exact hx)
theorem ET (N:Str) (hN:NS.contains N = true) (ps:List (List Blk)) (hf:FOk ps) (hlo:F7 ps) (p:Pic) (c:av p) (hp:p.length <= 3) (hr:RC (aN p)) (hs:∀ bs ∈ ps,a9 bs <= 3333) :
  ∃ q:Pic,bB [aD N ps,au p] = some (au q) /\ av q /\ q.length <= p.length /\ ∀ x y,aN q x y ↔ uf p ps x y:=
 rA N hN ps hf hlo p c (by lia) fun pre bs post e=>⟨p.length,HQ hr fun x hx=>hf x (by rw [e];exact Pv _ hx),by lia,by
  have h1:=hs bs (by rw [e];simp)
  have:=Nat.mul_le_mul h1 hp
  lia⟩
abbrev col (x0 s x:Int):Int:=(x - x0) / s
theorem nT {x0 s x c:Int} (hs:0 < s):col x0 s x = c ↔ x0 + c * s <= x /\ x < x0 + c * s + s:=by
 constructor
 ·rintro rfl
  have h1:=Int.emod_nonneg (x - x0) (show s ≠ 0 by lia)
  have h2:=Int.emod_lt_of_pos (x - x0) hs
  have h3:=Int.emod_add_ediv_mul (x - x0) s
  show x0 + (x - x0) / s * s <= x /\ x < x0 + (x - x0) / s * s + s
  lia
 ·rintro ⟨h1,h2⟩
  have h3:x - x0 = (x - x0 - c * s) + c * s:=by lia
  show (x - x0) / s = c
  rw [h3,Int.add_mul_ediv_right _ _ (by lia),Int.ediv_eq_zero_of_lt (by lia) (by lia)]
  lia
theorem pq {x0 s x z:Int} (hs:0 < s) (h:x <= z):col x0 s x <= col x0 s z:=Int.ediv_le_ediv hs (by lia)
theorem nN {x0 s:Int} (hs:0 < s) (x j:Int):col x0 s (x + j * s) = col x0 s x + j:=by
 show (x + j * s - x0) / s = _
 rw [show x + j * s - x0 = (x - x0) + j * s by lia,Int.add_mul_ediv_right _ _ (by lia)]
theorem zX {x0 s:Int} (hs:0 < s) (x j:Int):col x0 s (x - j * s) = col x0 s x - j:=by
 have:=nN (x0:=x0) hs x (-j)
 rw [Int.neg_mul] at this
 exact this
structure AB (x0 s:Int) (P:Int -> Int -> Prop) (w h:Nat):Prop where
 al:∀ x x' y,col x0 s x = col x0 s x' -> P x y -> P x' y
 bd:∃ a b:Int,∀ x y,P x y -> a <= col x0 s x /\ col x0 s x < a + w /\ b <= y /\ y < b + h
theorem AB.congr {x0 s:Int} {P Q:Int -> Int -> Prop} {w h:Nat} (k:AB x0 s P w h) (e:∀ x y,P x y ↔ Q x y):AB x0 s Q w h:=by
 obtain ⟨a,b,hb⟩:=k.bd
 exact ⟨fun x x' y h1 h2=>(e _ _).mp (k.al x x' y h1 ((e _ _).mpr h2)),a,b,fun x y h=>hb x y ((e _ _).mpr h)⟩
theorem AB.cov {x0 s:Int} {P:Int -> Int -> Prop} {w h:Nat} (hs:0 < s) (k:AB x0 s P w h):Cov (w * h) P:=by
 classical
 obtain ⟨a,b,hb⟩:=k.bd
 refine ⟨(List.range (w * h)).filterMap fun n:Nat=>if P (x0 + (a + ((n / h:Nat):Int)) * s) (b + ((n % h:Nat):Int)) then some (b + ((n % h:Nat):Int),x0 + (a + ((n / h:Nat):Int)) * s,x0 + (a + ((n / h:Nat):Int)) * s + s - 1) else none,by
  have:=R6 (fun n:Nat=>if P (x0 + (a + ((n / h:Nat):Int)) * s) (b + ((n % h:Nat):Int)) then some ((b + ((n % h:Nat):Int),x0 + (a + ((n / h:Nat):Int)) * s,x0 + (a + ((n / h:Nat):Int)) * s + s - 1):Tri) else none) (List.range (w * h))
  rwa [QA] at this,fun x y=>?_⟩
 constructor
 ·rintro ⟨t,ht,e,h1,h2⟩
  obtain ⟨n,hn,hf⟩:=Q4.mp ht
  split at hf
  ·rename_i hp
   cases hf
   dsimp only at e h1 h2
   subst e
   refine k.al _ _ _ ?_ hp
   rw [(nT (c:=a + ((n / h:Nat):Int)) hs).mpr ⟨Pl _,by lia⟩]
   exact ((nT hs).mpr ⟨h1,by lia⟩).symm
  ·cases hf
 ·intro hp
  obtain ⟨b1,b2,b3,b4⟩:=hb x y hp
  obtain ⟨i,hi⟩:∃ i:Nat,col x0 s x = a + i:=⟨(col x0 s x - a).toNat,by lia⟩
  obtain ⟨j,hj⟩:∃ j:Nat,y = b + j:=⟨(y - b).toNat,by lia⟩
  have hiw:i < w:=by lia
  have hjh:j < h:=by lia
  have e1:(j + i * h) / h = i:=by rw [Nat.add_mul_div_right _ _ (by lia),Nat.div_eq_of_lt hjh,Qy]
  have e2:(j + i * h) % h = j:=by rw [Nat.add_mul_mod_self_right,Nat.mod_eq_of_lt hjh]
  have hlt:j + i * h < w * h:=by
   have:(i + 1) * h <= w * h:=QB _ hiw
   rw [Nat.succ_mul] at this
   lia
  have hc:=(nT hs).mp hi
  refine ⟨_,Q4.mpr ⟨j + i * h,List.mem_range.mpr hlt,O7 ?_⟩,?_⟩
  ·rw [e1,e2,<- hj]
   exact k.al x _ y (by rw [hi];exact ((nT hs).mpr ⟨Pl _,by lia⟩).symm) hp
  ·dsimp only
   rw [e1,e2]
   exact ⟨hj.symm,hc.1,by lia⟩
structure SQ (x0 s:Int) (Q:Int -> Int -> Prop) (n:Nat):Prop where
 pl:∀ x x' u v,col x0 s x = col x0 s x' -> Q u v -> ∃ u',Q u' v /\ col x0 s (x + u') = col x0 s (x' + u)
 mi:∀ x x' u v,col x0 s x = col x0 s x' -> Q u v -> ∃ u',Q u' v /\ col x0 s (x' - u') = col x0 s (x - u)
 wi:∀ u v,Q u v -> -(2 * (n:Int)) * s <= u /\ u <= 4 * (n:Int) * s /\ -(2 * (n:Int)) <= v /\ v <= 6 * n
 ne:∃ c v,Q (c * s) v
def Nn (P Q:Int -> Int -> Prop) (x y:Int):Prop:=∀ u v,Q u v -> P (x + u) (y + v)
theorem AB.fit {x0 s:Int} {P Q:Int -> Int -> Prop} {w h n:Nat} (hs:0 < s) (k:AB x0 s P w h) (q:SQ x0 s Q n):AB x0 s (Nn P Q) w h:=by
 obtain ⟨a,b,hb⟩:=k.bd
 obtain ⟨c,v,hcv⟩:=q.ne
 refine ⟨fun x x' y e hf u v huv=>?_,a - c,b - v,fun x y hf=>?_⟩
 ·obtain ⟨u',h1,h2⟩:=q.pl x x' u v e huv
  exact k.al _ _ _ h2 (hf u' v h1)
 ·have:=hb _ _ (hf _ _ hcv)
  rw [nN hs] at this
  lia
theorem AB.gr {x0 s:Int} {P Q:Int -> Int -> Prop} {w h n:Nat} (hs:0 < s) (k:AB x0 s P w h) (q:SQ x0 s Q n):AB x0 s (GrS P Q) (w + 6 * n) (h + 8 * n):=by
 obtain ⟨a,b,hb⟩:=k.bd
 refine ⟨fun x x' y e ⟨u,v,h1,h2⟩=>?_,a - 2 * n,b - 2 * n,fun x y ⟨u,v,h1,h2⟩=>?_⟩
 ·obtain ⟨u',h3,h4⟩:=q.mi x x' u v e h1
  exact ⟨u',v,h3,k.al _ _ _ h4.symm h2⟩
 ·obtain ⟨w1,w2,w3,w4⟩:=q.wi u v h1
  have h3:=hb _ _ h2
  have h4:=pq (x0:=x0) hs (show x - u <= x + 2 * (n:Int) * s by rw [Int.neg_mul] at w1;lia)
  have h5:=pq (x0:=x0) hs (show x - 4 * (n:Int) * s <= x - u by lia)
  rw [nN hs] at h4
  rw [zX hs] at h5
  lia
theorem SQ.add {x0 s:Int} {P Q:Int -> Int -> Prop} {n m:Nat} (p:SQ x0 s P n) (q:SQ x0 s Q m):SQ x0 s (fun x y=>∃ u v,P u v /\ Q (x - u) (y - v)) (n + m):=by
 refine ⟨fun x x' u v e ⟨u1,v1,h1,h2⟩=>?_,fun x x' u v e ⟨u1,v1,h1,h2⟩=>?_,fun u v ⟨u1,v1,h1,h2⟩=>?_,?_⟩
 ·obtain ⟨u2,h3,h4⟩:=p.pl x x' u1 v1 e h1
  obtain ⟨u3,h5,h6⟩:=q.pl (x + u2) (x' + u1) (u - u1) (v - v1) h4 h2
  exact ⟨u2 + u3,⟨u2,v1,h3,by rwa [show u2 + u3 - u2 = u3 by lia]⟩,by rw [show x + (u2 + u3) = x + u2 + u3 by lia,h6];congr 1;lia⟩
 ·obtain ⟨u2,h3,h4⟩:=p.mi x x' u1 v1 e h1
  obtain ⟨u3,h5,h6⟩:=q.mi (x - u1) (x' - u2) (u - u1) (v - v1) h4.symm h2
  exact ⟨u2 + u3,⟨u2,v1,h3,by rwa [show u2 + u3 - u2 = u3 by lia]⟩,by rw [show x' - (u2 + u3) = x' - u2 - u3 by lia,h6];congr 1;lia⟩
 ·obtain ⟨a1,a2,a3,a4⟩:=p.wi _ _ h1
  obtain ⟨b1,b2,b3,b4⟩:=q.wi _ _ h2
  have e1:-(2 * ((n + m:Nat):Int)) * s = -(2 * (n:Int)) * s + -(2 * (m:Int)) * s:=by rw [<- QM];congr 1;lia
  have e2:4 * ((n + m:Nat):Int) * s = 4 * (n:Int) * s + 4 * (m:Int) * s:=by rw [<- QM];congr 1;lia
  rw [e1,e2]
  lia
 ·obtain ⟨c,v,h1⟩:=p.ne
  obtain ⟨d,w,h2⟩:=q.ne
  exact ⟨c + d,v + w,c * s,v,h1,by rw [QM,show c * s + d * s - c * s = d * s by lia,show v + w - v = w by lia];exact h2⟩
def BG (s:Int) (b:Blk):Prop:=∃ c d:Int,b.1 = c * s /\ b.2.2.1 = d * s /\ -2 <= c /\ c <= d /\ d <= 4 /\ -2 <= b.2.1 /\ b.2.1 <= b.2.2.2 /\ b.2.2.2 <= 6
theorem BG.ok {s:Int} {b:Blk} (hs:0 < s) (h:BG s b):BOk b:=by
 obtain ⟨c,d,e1,e2,_,h1,_,_,h2,_⟩:=h
 exact ⟨by rw [e1,e2];exact RI h1 (by lia),h2⟩
theorem Ir {x0 s:Int} (hs:0 < s) {bs:List Blk} (hne:bs ≠ []) (h:∀ b ∈ bs,BG s b):SQ x0 s (zd bs) 1:=by
 have mm:∀ {i j:Int},i <= j -> i * s <= j * s:=fun h=>RI h (by lia)
 refine ⟨fun x x' u v e ⟨b,hb,h1,h2,h3⟩=>?_,fun x x' u v e ⟨b,hb,h1,h2,h3⟩=>?_,fun u v ⟨b,hb,h1,h2,h3,h4⟩=>?_,?_⟩
 ·obtain ⟨c,d,e1,e2,_,_,_⟩:=h b hb
  rw [e1] at h1
  rw [e2] at h2
  have k1:=pq (x0:=x0) hs (show x' + c * s <= x' + u by lia)
  have k2:=pq (x0:=x0) hs (show x' + u <= x' + d * s by lia)
  rw [nN hs] at k1 k2
  obtain ⟨j,hj⟩:∃ j,col x0 s (x' + u) = col x0 s x + j:=⟨col x0 s (x' + u) - col x0 s x,by lia⟩
  exact ⟨j * s,⟨b,hb,by rw [e1];exact mm (by lia),by rw [e2];exact mm (by lia),h3⟩,by rw [nN hs,hj]⟩
 ·obtain ⟨c,d,e1,e2,_,_,_⟩:=h b hb
  rw [e1] at h1
  rw [e2] at h2
  have k1:=pq (x0:=x0) hs (show x - u <= x - c * s by lia)
  have k2:=pq (x0:=x0) hs (show x - d * s <= x - u by lia)
  rw [zX hs] at k1 k2
  obtain ⟨j,hj⟩:∃ j,col x0 s (x - u) = col x0 s x - j:=⟨col x0 s x - col x0 s (x - u),by lia⟩
  exact ⟨j * s,⟨b,hb,by rw [e1];exact mm (by lia),by rw [e2];exact mm (by lia),h3⟩,by rw [zX hs,hj,e]⟩
 ·obtain ⟨c,d,e1,e2,a1,a2,a3,a4,a5,a6⟩:=h b hb
  rw [e1] at h1
  rw [e2] at h2
  have k1:=mm a1
  have k2:=mm a3
  refine ⟨?_,?_,by lia,by lia⟩
  ·show -(2 * 1) * s <= u
   lia
  ·show 4 * 1 * s ≥ u
   lia
 ·obtain ⟨b,r,rfl⟩:=List.exists_cons_of_ne_nil hne
  have hb:=h b Pg
  have ok:=hb.ok hs
  obtain ⟨c,d,e1,e2,_⟩:=hb
  exact ⟨c,b.2.1,b,Pg,by rw [e1];exact Pl _,by rw [<- e1];exact ok.1,Pl _,ok.2⟩
theorem uH {x0 s:Int} (hs:0 < s):∀ {ps:List (List Blk)},(∀ bs ∈ ps,bs ≠ [] /\ ∀ b ∈ bs,BG s b) -> SQ x0 s (Off ps) ps.length
 | [],_=>⟨fun x x' u v e ⟨h1,h2⟩=>⟨u,⟨h1,h2⟩,by subst h1;simpa using e⟩,fun x x' u v e ⟨h1,h2⟩=>⟨u,⟨h1,h2⟩,by subst h1;simpa using e.symm⟩,fun u v ⟨h1,h2⟩=>by subst h1 h2;simp,0,0,by show 0 * s = 0 /\ (0:Int) = 0;simp⟩
 | bs :: r,h=>by
  obtain ⟨h1,h2⟩:=h bs Pg
  have:=(Ir (x0:=x0) hs h1 h2).add (uH hs fun z hz=>h z (Pi _ hz))
  rw [Pr,Nat.add_comm]
  exact this
structure FG (s:Int) (ps:List (List Blk)):Prop where
 few:ps.length <= 3
 bl:∀ bs ∈ ps,bs ≠ [] /\ ∀ b ∈ bs,BG s b
 hi:∀ bs ∈ ps,bs.length <= 10 /\ a9 bs <= 9
 two:∃ u1 v1 u2 v2,Off ps u1 v1 /\ Off ps u2 v2 /\ (v1 < v2 \/ u1 + s <= u2)
theorem FG.ok {s:Int} (hs:0 < s) {ps:List (List Blk)} (h:FG s ps):FOk ps:=fun bs hb=>⟨(h.bl bs hb).1,fun b k=>((h.bl bs hb).2 b k).ok hs⟩
theorem FG.lo {s:Int} {ps:List (List Blk)} (h:FG s ps):F7 ps:=fun bs hb=>by have:=(h.hi bs hb).1;lia
theorem zb {x0 s:Int} (hs:0 < s) {p:Pic} (c:av p) {w h:Nat} (k:AB x0 s (aN p) w h):(aj p).length <= w * h:=uo c (fun _ _=>Qs) (k.cov hs)
theorem g66 {x0 s:Int} (hs:0 < s) {ps:List (List Blk)} (f:FG s ps) (N:Str) (hN:NS.contains N = true) {p:Pic} (c:av p) (k:AB x0 s (aN p) 8 16) :
  ∃ q:Pic,dc [aD N ps,au p] = some (au q) /\ av q /\ (aj q).length <= 1040 /\ ∀ x y,aN q x y ↔ GrF p ps x y:=by
 obtain ⟨q,h1,h2,h3⟩:=yN N hN ps (f.ok hs) p c fun post bs pre e=>by
  have hm:∀ bs ∈ pre,bs ≠ [] /\ ∀ b ∈ bs,BG s b:=fun z hz=>f.bl z (by rw [e];exact Pm _ (Pi _ hz))
  have hl:pre.length <= 2:=by
   have:=f.few
   rw [e,Ph,Pr] at this
   lia
  refine ⟨640,((k.gr hs (uH hs hm)).cov hs).mono (Nat.mul_le_mul (show 8 + 6 * pre.length <= 20 by lia) (show 16 + 8 * pre.length <= 32 by lia)),?_⟩
  have:=(f.hi bs (by rw [e];simp)).2
  lia
 refine ⟨q,h1,h2,?_,h3⟩
 have hl:=f.few
 have:=((k.gr hs (uH hs f.bl)).cov hs).mono (Nat.mul_le_mul (show 8 + 6 * ps.length <= 26 by lia) (show 16 + 8 * ps.length <= 40 by lia))
 exact uo h2 h3 this
theorem s66 {x0 s:Int} (hs:0 < s) {ps:List (List Blk)} (f:FG s ps) (N:Str) (hN:NS.contains N = true) {p:Pic} (c:av p) (k:AB x0 s (aN p) 8 16) :
  ∃ q:Pic,bB [aD N ps,au p] = some (au q) /\ av q /\ AB x0 s (aN q) 8 16 /\ ∀ x y,aN q x y ↔ uf p ps x y:=by
 have hp:=zb hs c k
 have hl:=nO c
 obtain ⟨q,h1,h2,h3,h4⟩:=rA N hN ps (f.ok hs) f.lo p c (by lia) fun pre bs post e=>by
  have hm:∀ bs ∈ pre,bs ≠ [] /\ ∀ b ∈ bs,BG s b:=fun z hz=>f.bl z (by rw [e];exact Pv _ hz)
  refine ⟨128,(k.fit hs (uH hs hm)).cov hs,by decide,?_⟩
  have:=(f.hi bs (by rw [e];simp)).2
  lia
 exact ⟨q,h1,h2,(k.fit hs (uH hs f.bl)).congr fun x y=>(h4 x y).symm,h4⟩
theorem gQ {e:XE} {d:D} {i:Nat} {ρ:M.Env} (h:e ρ = some d):bv e (ai i) ρ = some (.nx (ρ.set i (.sh d))):=by unfold bv;rw [h];rfl
theorem gU {f:List D -> Option D} {a:XA} {ρ:M.Env} {ds:List D} {d:D} (ha:a ρ = some ds) (h:f ds = some d):aH f a ρ = some d:=by unfold aH;rw [ha];exact h
theorem qq {N:Str} (hN:NS.contains N = true) {ps:List (List Blk)} {m:Str} {f:List D -> Option D} {e:XE} {as:XA} {ρ:M.Env} {ds:List D} {d:D} (hm:(["parts"]:List Str).contains m = false) (h0:e ρ = some (aD N ps)) (ha:as ρ = some ds) (h:f (aD N ps :: ds) = some d):oX NS m f e as ρ = some d:=by
 unfold oX
 rw [h0,ha]
 show (if NS.contains N && !(["parts"]:List Str).contains m then f (aD N ps :: ds) else none) = _
 rw [hN,hm]
 exact h
theorem Jt {e:XE} {d:D} {i:Nat} {ρ:M.Env} {gs:List D} (h:e ρ = some d) (hi:ρ[i]? = some (owl gs)) (hl:gs.length < LIM):lI i xPv (xSh e) ρ = some (.nx (ρ.set i (owl (gs ++ [d])))):=by
 have hl':(gs.map O.sh).length < LIM:=by rw [Pc];exact hl
 show _ = some (Out.nx (ρ.set i (.ow (.lst ((gs ++ [d]).map O.sh)))))
 simp [lI,xPv,xSh,hi,h,eZ,kA,hl]
theorem kW {a:XE} {r:XA} {ρ:M.Env} {d:D} {ds:List D} (h:a ρ = some d) (k:r ρ = some ds):ad a r ρ = some (d :: ds):=by unfold ad;rw [h,k];rfl
theorem vB {q:Pic} (c:av q) (h:∀ x y,¬ aN q x y):q = []:=uq c fH fun x y=>⟨fun k=>(h x y k).elim,fun k=>(cI _ _ k).elim⟩
theorem MA (Q:Nat -> Prop):∀ m,Q m -> ∃ n,n <= m /\ Q n /\ ∀ k,k < n -> ¬ Q k:=fun m=>by
 induction m using Nat.strongRecOn with
 | ind m ih=>
  intro h
  by_cases hk:∃ k,k < m /\ Q k
  ·obtain ⟨k,h1,h2⟩:=hk
   obtain ⟨n,a,b,c⟩:=ih k h1 h2
   exact ⟨n,by lia,b,c⟩
  ·exact ⟨m,Pf _,h,fun k hk' hq=>hk ⟨k,hk',hq⟩⟩
structure Lay (x0 s:Int) (N:Str) (ps:List (List Blk)) (X G:Nat -> Pic):Prop where
 hN:NS.contains N = true
 c:∀ k,av (X k)
 ab:∀ k,AB x0 s (aN (X k)) 8 16
 sm:∀ k,bB [aD N ps,au (X k)] = some (au (X (k + 1)))
 fit:∀ k x y,aN (X (k + 1)) x y ↔ uf (X k) ps x y
 gr:∀ k,dc [aD N ps,au (X (k + 1))] = some (au (G k))
 cg:∀ k,av (G k)
 lg:∀ k,(aj (G k)).length <= 1040
 gm:∀ k x y,aN (G k) x y ↔ GrF (X (k + 1)) ps x y
theorem Go {x0 s:Int} (hs:0 < s) {ps:List (List Blk)} (f:FG s ps) (N:Str) (hN:NS.contains N = true) {p:Pic} (c:av p) (k:AB x0 s (aN p) 8 16):∃ X G:Nat -> Pic,X 0 = p /\ Lay x0 s N ps X G:=by
 have key:∀ p:Pic,∃ q:Pic × Pic,(av p /\ AB x0 s (aN p) 8 16) -> (av q.1 /\ AB x0 s (aN q.1) 8 16) /\ bB [aD N ps,au p] = some (au q.1) /\ (∀ x y,aN q.1 x y ↔ uf p ps x y) /\ dc [aD N ps,au q.1] = some (au q.2) /\ av q.2 /\ (aj q.2).length <= 1040 /\ ∀ x y,aN q.2 x y ↔ GrF q.1 ps x y:=fun p=>by
  by_cases h:av p /\ AB x0 s (aN p) 8 16
  ·obtain ⟨q,a1,a2,a3,a4⟩:=s66 hs f N hN h.1 h.2
   obtain ⟨g,b1,b2,b3,b4⟩:=g66 hs f N hN a2 a3
   exact ⟨(q,g),fun _=>⟨⟨a2,a3⟩,a1,a4,b1,b2,b3,b4⟩⟩
  ·exact ⟨([],[]),fun k=>absurd k h⟩
 obtain ⟨F,hF⟩:=Classical.skolem.mp key
 let X:Nat -> Pic:=fun k=>Nat.rec p (fun _ q=>(F q).1) k
 have hX:∀ k,av (X k) /\ AB x0 s (aN (X k)) 8 16:=fun k=>by
  induction k with
  | zero=>exact ⟨c,k⟩
  | succ k ih=>exact (hF (X k) ih).1
 exact ⟨X,fun k=>(F (X k)).2,rfl,hN,fun k=>(hX k).1,fun k=>(hX k).2,fun k=>(hF _ (hX k)).2.1,fun k=>(hF _ (hX k)).2.2.1,fun k=>(hF _ (hX k)).2.2.2.1,fun k=>(hF _ (hX k)).2.2.2.2.1,fun k=>(hF _ (hX k)).2.2.2.2.2.1,fun k=>(hF _ (hX k)).2.2.2.2.2.2⟩
section
variable {x0 s:Int} {N:Str} {ps:List (List Blk)} {X G:Nat -> Pic}
theorem Lay.down (L:Lay x0 s N ps X G) {u v:Int} (ho:Off ps u v):∀ (k:Nat) (x y:Int),aN (X k) x y -> aN (X 0) (x + (k:Int) * u) (y + (k:Int) * v)
 | 0,x,y,h=>by simpa using h
 | k + 1,x,y,h=>by
  have:=L.down ho k _ _ ((L.fit k x y).mp h u v ho)
  have e:∀ z:Int,((k + 1:Nat):Int) * z = z + (k:Int) * z:=fun z=>by rw [Int.natCast_add,QM];lia
  rw [e,e]
  rwa [Int.add_assoc,Int.add_assoc] at this
theorem Lay.ends (hs:0 < s) (f:FG s ps) (L:Lay x0 s N ps X G):X 16 = []:=vB (L.c 16) fun x y h=>by
 obtain ⟨u1,v1,u2,v2,o1,o2,h2⟩:=f.two
 obtain ⟨a,b,hb⟩:=(L.ab 0).bd
 have d1:=L.down o1 16 x y h
 have d2:=L.down o2 16 x y h
 have k1:=hb _ _ d1
 have k2:=hb _ _ d2
 rcases h2 with h2 | h2
 ·lia
 ·have e:=pq (x0:=x0) hs (show x + ((16:Nat):Int) * u1 + 16 * s <= x + ((16:Nat):Int) * u2 by lia)
  rw [nN hs] at e
  lia
theorem Lay.num (hs:0 < s) (f:FG s ps) (L:Lay x0 s N ps X G):∃ n,n <= 16 /\ X n = [] /\ ∀ k,k < n -> X k ≠ []:=MA (fun k=>X k = []) 16 (L.ends hs f)
def e8 (X G:Nat -> Pic) (k:Nat):Pic:=leP (X k) (G k)
theorem Lay.op (L:Lay x0 s N ps X G) (k:Nat) (x y:Int) (h:aN (G k) x y):aN (X k) x y:=by
 obtain ⟨u,v,h1,h2⟩:=(L.gm k x y).mp h
 have:=(L.fit k _ _).mp h2 u v h1
 rwa [show x - u + u = x by lia,show y - v + v = y by lia] at this
theorem Lay.core_len (hs:0 < s) (L:Lay x0 s N ps X G) (k:Nat):(aj (e8 X G k)).length <= 2592:=by
 have h1:=zb hs (L.c k) (L.ab k)
 have h2:=L.lg k
 have h3:=K7 (q:=G k) (L.c k)
 unfold e8
 lia
theorem Lay.less (hs:0 < s) (L:Lay x0 s N ps X G) (k:Nat):rF [au (X k),au (G k)] = some (au (e8 X G k)):=by
 have h1:=zb hs (L.c k) (L.ab k)
 have h2:=L.lg k
 have h3:=nO (L.c k)
 have h4:=nO (L.cg k)
 exact xP (L.cg k) (by lia) (by lia) (by lia)
theorem Lay.join (hs:0 < s) (L:Lay x0 s N ps X G) (k:Nat):ww [au (e8 X G k),au (G k)] = some (au (X k)):=by
 have h2:=L.lg k
 have h3:=L.core_len hs k
 rw [ye _ _ (by lia)]
 refine PC (fun p=>some (au p)) (uq (yo _ _) (L.c k) fun x y=>?_)
 rw [Di,e8,zL (L.c k) (L.cg k)]
 constructor
 ·rintro (h | h)
  ·exact h.1
  ·exact L.op k x y h
 ·intro h
  by_cases g:aN (G k) x y
  ·exact .inr g
  ·exact .inl ⟨h,g⟩
def aG (X G:Nat -> Pic) (n:Nat):List D:=(List.range n).map fun k=>au (e8 X G k)
theorem AW (X G:Nat -> Pic) (n:Nat):aG X G (n + 1) = aG X G n ++ [au (e8 X G n)]:=by unfold aG;rw [List.range_succ,Qf];rfl
theorem kY (X G:Nat -> Pic) (n:Nat):(aG X G n).length = n:=by unfold aG;simp
theorem lv {p:Pic}:dEq true (au p) (.tup []) = some (.bl (!decide (p = []))):=by
 have:=fI p
 unfold dEq at this ⊢
 split at this
 ·rename_i h
  rw [O7 h]
  have e:eqD (au p) (.tup []) = decide (p = []):=by simpa using this
  simp [e]
 ·cases this
theorem sn (hs:0 < s) (L:Lay x0 s N ps X G) {n:Nat} (hn:n <= 16) (e0:X n = []) (hne:∀ k,k < n -> X k ≠ []):n9 [au (X 0),aD N ps,.int 17] = some (.lst (aG X G n ++ [.tup []])):=by
 have turn:∀ j k,k + j = n -> ∀ v5:Sl,∃ v5',eg cG dN [.sh (au (X 0)),.sh (aD N ps),.sh (.int 17),owl (aG X G k),.sh (au (X k)),v5] = some (.nx [.sh (au (X 0)),.sh (aD N ps),.sh (.int 17),owl (aG X G n),.sh (au (X n)),v5']):=by
  intro j
  induction j with
  | zero=>
   intro k hk v5
   have:k = n:=by lia
   subst this
   refine ⟨v5,uX ?_⟩
   have:=lv (p:=X k)
   rw [e0] at this ⊢
   generalize aG X G k = cs
   generalize aD N ps = F
   generalize au (X 0) = P0
   simp [cG,this]
  | succ j ih=>
   intro k hk v5
   obtain ⟨v',h⟩:=ih (k + 1) (by lia) (.sh (au (X (k + 1))))
   refine ⟨v',tD ?_ ?_ h⟩
   ·have:=lv (p:=X k)
    rw [PM (hne k (by lia))] at this
    have hl:=kY X G k
    have hk17:(k:Int) < 17:=by lia
    generalize aG X G k = cs at *
    generalize aD N ps = F
    generalize au (X 0) = P0
    generalize au (X k) = Pk at *
    simp [cG,this,hl,hk17]
   ·unfold dN
    rw [aI (gQ (qq L.hN (ps:=ps) (ds:=[au (X k)]) (by decide) rfl rfl (L.sm k)))]
    rw [aI (Jt (gs:=aG X G k) (gU (kW (d:=au (X k)) rfl (kW (qq L.hN (ps:=ps) (ds:=[au (X (k + 1))]) (by decide) rfl rfl (L.gr k)) rfl)) (L.less hs k)) rfl (jE (by rw [kY];lia)))]
    rw [<- AW]
    rfl
 obtain ⟨v',h⟩:=turn n 0 (by lia) .un
 have ex:fi [.sh (au (X 0)),.sh (aD N ps),.sh (.int 17),.un,.un,.un] = some (.rt (.lst (aG X G n ++ [.tup []]))):=by
  unfold fi
  rw [aI (ρ':=[.sh (au (X 0)),.sh (aD N ps),.sh (.int 17),owl [],.un,.un]) (by rfl)]
  rw [aI (ρ':=[.sh (au (X 0)),.sh (aD N ps),.sh (.int 17),owl [],.sh (au (X 0)),.un]) (gQ (d:=au (X 0)) rfl)]
  have h':eg cG dN [.sh (au (X 0)),.sh (aD N ps),.sh (.int 17),owl [],.sh (au (X 0)),.un] = _:=h
  rw [aI h',e0]
  have hl:=kY X G n
  generalize aG X G n = cs at *
  have l1:1 <= LIM:=bj (by lia)
  have l2:cs.length + 1 <= LIM:=bj (by lia)
  generalize aD N ps = F
  generalize au (X 0) = P0
  have ha:bM (.lst cs) (.lst [au []]) = some (.lst (cs ++ [.tup []])):=by rw [BI,O7 (by simpa using l2)];rfl
  simp [l1,ha]
 exact sY (n:=6) (ds:=[au (X 0),aD N ps,.int 17]) ex
theorem LQ {a b:XE} {ρ:M.Env} {p:Pic} (hp:p ≠ []) (h:a ρ = some (au p)) (k:b ρ = some (.tup [])):xB (xOp (dEq false) a b) ρ = some false:=by
 have e:xOp (dEq false) a b ρ = some (.bl false):=by unfold xOp;rw [h,k];show dEq false (au p) (.tup []) = _;rw [fI,PM hp]
 unfold xB;rw [e];rfl
theorem Lay.one (hs:0 < s) (f:FG s ps) (L:Lay x0 s N ps X G):nw [aD N ps] = some (.bl false):=by
 have oneC:av Ic:=pcanon_cons.mpr ⟨⟨canon_cons.mpr ⟨Pl _,fun _ h=>(by cases h),di⟩,fun z=>by cases z⟩,fun _ h=>(by cases h),fH⟩
 have mone:∀ x y,aN Ic x y -> x = 0 /\ y = 0:=fun x y h=>by
  obtain ⟨q,hq,e,h⟩:=h
  rw [Pe.mp hq] at e h
  obtain ⟨t,ht,h1,h2⟩:=h
  rw [Pe.mp ht] at h1 h2
  dsimp only at *
  lia
 obtain ⟨q,a1,a2,a3,a4⟩:=ET N L.hN ps (f.ok hs) f.lo Ic oneC (by show 1 <= 3;decide) (fun y a b c ha hc h1 h2=>by
  have e1:=mone _ _ ha
  have e2:=mone _ _ hc
  have:b = 0:=by lia
  rw [this]
  rw [e1.1] at ha
  exact ha) fun bs hb=>by have:=(f.hi bs hb).2;lia
 have e:q = []:=vB a2 fun x y h=>by
  obtain ⟨u1,v1,u2,v2,o1,o2,h2⟩:=f.two
  have d1:=mone _ _ ((a4 x y).mp h u1 v1 o1)
  have d2:=mone _ _ ((a4 x y).mp h u2 v2 o2)
  lia
 rw [e] at a1
 have em:oX NS "smaller" bB (ar 0) (ad (xC (.tup [.tup [.int (0),.tup [.tup [.int (0),.int (0)]]]])) am) [.sh (aD N ps)] = some (.tup []):=qq L.hN (ps:=ps) (ds:=[au Ic]) (by decide) rfl rfl a1
 have ex:eE [.sh (aD N ps)] = some (.rt (.bl false)):=by
  unfold eE bG xOp
  rw [em]
  have:dEq true (D.tup []) (.tup []) = some (.bl false):=lv (p:=[])
  generalize aD N ps = F
  simp [this]
 exact sY (n:=1) (ds:=[aD N ps]) ex
theorem BN (hs:0 < s) (f:FG s ps) (L:Lay x0 s N ps X G) {n:Nat} (hn:n <= 16) (e0:X n = []) (hne:∀ k,k < n -> X k ≠ []):Dh [au (X 0),aD N ps,.int 17] = some (.lst (aG X G n)):=by
 have h1:=L.one hs f
 have h2:=sn hs L hn e0 hne
 have hl:=kY X G n
 have d:dEq true (D.tup []) (.tup []) = some (.bl false):=lv (p:=[])
 have hcut:j6 (aG X G n ++ [D.tup []]) none (some (-1)) = aG X G n:=by
  generalize aG X G n = cs
  have e:HT.sIx (cs.length + 1) (cs.length + 1) (some (-1)) = cs.length:=by
   unfold HT.sIx
   simp
   lia
  unfold j6
  rw [Ph,PK,e]
  simp [HT.sIx]
 have hat:atI (aG X G n ++ [D.tup []]) (-1) = some (.tup []):=by
  generalize aG X G n = cs
  have q1:(1:Int) <= cs.length + 1:=by lia
  have q2:(-1 + ((cs.length:Int) + 1)).toNat = cs.length:=by lia
  simp [atI,ixN,q1,q2]
 generalize aG X G n = cs at *
 have ex:qF [.sh (au (X 0)),.sh (aD N ps),.sh (.int 17),.un] = some (.rt (.lst cs)):=by
  generalize aD N ps = F at *
  generalize au (X 0) = P0 at *
  simp [qF,h1,h2,hat,d,dSl,hcut]
 exact sY (n:=4) (ds:=[au (X 0),aD N ps,.int 17]) ex
theorem sZ (hs:0 < s) (L:Lay x0 s N ps X G) (n:Nat) (e0:X n = []):fY [.lst (aG X G n),aD N ps] = some (au (X 0)):=by
 obtain ⟨ρ',k1,v3,rfl⟩:=cE (g:=ai 3) (m:=eS) (fun k:Nat=>au (e8 X G k)) (fun pre ρ=>∃ v3:Sl,ρ = [.sh (.lst (aG X G n)),.sh (aD N ps),.sh (au (X (n - pre.length))),v3]) (List.range n).reverse [.sh (.lst (aG X G n)),.sh (aD N ps),.sh (.tup []),.un] ⟨.un,by
   show _ = ([_,_,Sl.sh (au (X n)),_]:M.Env)
   rw [e0]
   rfl⟩ (by
  rintro pre k post _ e ⟨v3,rfl⟩
  have e':List.range n = post.reverse ++ k :: pre.reverse:=by
   have:=PC List.reverse e
   rw [R5] at this
   rw [this]
   simp
  have hl:=PC List.length e'
  rw [QA,Ph,Pr,Q1,Q1] at hl
  have hk:k = post.length:=by
   have h1:(List.range n)[post.length]? = some k:=by
    rw [e',QU (by rw [Q1];exact Pf _),Q1,Nat.sub_self]
    rfl
   rw [List.getElem?_range (by lia)] at h1
   exact (PR h1).symm
  have hx:n - pre.length = k + 1:=by lia
  have hy:n - (pre ++ [k]).length = k:=by rw [Ph,PK];lia
  rw [hx]
  refine ⟨[.sh (.lst (aG X G n)),.sh (aD N ps),.sh (au (X (k + 1))),.sh (au (e8 X G k))],[.sh (.lst (aG X G n)),.sh (aD N ps),.sh (au (X k)),.sh (au (e8 X G k))],rfl,.inl ?_,_,by rw [hy]⟩
  exact gQ (gU (kW (d:=au (e8 X G k)) rfl (kW (qq L.hN (ps:=ps) (ds:=[au (X (k + 1))]) (by decide) rfl rfl (L.gr k)) rfl)) (L.join hs k)))
 rw [Q1,QA,Nat.sub_self,List.map_reverse] at k1
 have ex:eL [.sh (.lst (aG X G n)),.sh (aD N ps),.un,.un] = some (.rt (au (X 0))):=by
  unfold eL
  rw [aI (ρ':=[.sh (.lst (aG X G n)),.sh (aD N ps),.sh (.tup []),.un]) (gQ (d:=.tup []) rfl)]
  have hfor:jy (DB (ad (ar 0) am)) (ai 3) eS [.sh (.lst (aG X G n)),.sh (aD N ps),.sh (.tup []),.un] = some (.nx [.sh (.lst (aG X G n)),.sh (aD N ps),.sh (au (X 0)),v3]):=k1
  rw [aI hfor]
  rfl
 exact sY (n:=4) (ds:=[.lst (aG X G n),aD N ps]) ex
theorem vD (hs:0 < s) (L:Lay x0 s N ps X G) (k:Nat):rY [au (e8 X G k),au (X k)] = some (.bl true):=by
 have h1:=L.core_len hs k
 have h2:=zb hs (L.c k) (L.ab k)
 have h3:=nO (L.c k)
 have cc:av (e8 X G k):=xH (L.c k) (L.cg k)
 have h4:=nO cc
 have hl:=xP (p:=e8 X G k) (q:=X k) (L.c k) (by lia) (by lia) (by lia)
 have e:leP (e8 X G k) (X k) = []:=vB (xH cc (L.c k)) fun x y h=>by
  rw [zL cc (L.c k)] at h
  exact h.2 (((zL (L.c k) (L.cg k) x y).mp h.1).1)
 rw [e] at hl
 have hl:rF [au (e8 X G k),au (X k)] = some (.tup []):=hl
 have d:dEq false (D.tup []) (.tup []) = some (.bl true):=fI []
 generalize au (e8 X G k) = a at *
 generalize au (X k) = b at *
 simp [rY,pQ,fnO,nQ,hl,d]
end
theorem Ea (bits x s:Int) (hs:0 < s) (acc:R) (v4:Sl) (c:bc acc) (hx:∀ z,Mem acc z -> z < x) (hl:acc.length <= 100) :
  ∃ acc':R,kf [.sh (.int bits),.sh (.int x),.sh (.int s),owl (acc.map prD),v4] = some (.nx [.sh (.int (bits / 2)),.sh (.int (x + s)),.sh (.int s),owl (acc'.map prD),v4]) /\ bc acc' /\ (acc' = acc \/ ∀ z,Mem acc' z ↔ Mem acc z \/ (x <= z /\ z <= x + s - 1)) /\ acc'.length <= acc.length + 1:=by
 have hlim:acc.length < LIM:=jE (by lia)
 by_cases hb:bits % 2 = 1 \/ bits / 512 % 2 = 1
 ·have hx2:∀ q ∈ acc,q.1 <= q.2 /\ q.2 < x:=fun q hq=>⟨c.1 q hq,hx _ ⟨q,hq,c.1 q hq,Pl _⟩⟩
  obtain ⟨k1,k2,k3⟩:=DE (p:=(x,x + s - 1)) c (by dsimp only;lia) fun q hq=>by have:=hx2 q hq;dsimp only;lia
  refine ⟨step acc (x,x + s - 1),?_,k1,.inr k2,Aw _ _⟩
  clear k1 k2 k3
  have cond:∀ ρ:M.Env,ρ[0]? = some (.sh (.int bits)) -> xOr (xB (xOp (dEq false) (xOp gn (ag 0) (xC (.int 2))) (xC (.int 1)))) (xB (xOp (dEq false) (xOp gn (xOp ir (ag 0) (xC (.int 512))) (xC (.int 2))) (xC (.int 1)))) ρ = some true:=fun ρ h=>by
   by_cases h1:bits % 2 = 1
   ·simp [h,h1]
   ·have h2:=hb.resolve_left h1
    simp [h,h1,h2]
  unfold kf
  rcases Qi acc with rfl | ⟨t,p,rfl⟩
  ·rw [aI (ρ':=[.sh (.int bits),.sh (.int x),.sh (.int s),owl ((Rw.step [] (x,x + s - 1)).map prD),v4]) (by
    unfold xIf
    rw [cond _ rfl]
    simp [wd,prD])]
   simp [wd,prD]
  ·rw [Qo] at *
   have at1:atI (t.map prD ++ [prD p]) (-1) = some (prD p):=jp _ _
   have hpx:=(hx2 p (by simp)).2
   have hlim':t.length + 1 < LIM:=by simpa using hlim
   have hpos:(0:Int) < (t.length:Int) + 1:=by lia
   rw [nD]
   dsimp only
   by_cases he:p.2 = x - 1
   ·rw [O7 (by lia),O7 (by lia)]
    rw [aI (ρ':=[.sh (.int bits),.sh (.int x),.sh (.int s),owl ((t ++ [(p.1,x + s - 1)]).map prD),v4]) (by
     unfold xIf
     rw [cond _ rfl]
     simp [at1,he,mw,yZ,hpos])]
    simp
   ·rw [O8 (by lia)]
    rw [aI (ρ':=[.sh (.int bits),.sh (.int x),.sh (.int s),owl ((t ++ [p] ++ [(x,x + s - 1)]).map prD),v4]) (by
     unfold xIf
     rw [cond _ rfl]
     simp [at1,he,mw,yZ,hpos,hlim'])]
    simp
 ·have h1:¬ bits % 2 = 1:=fun h=>hb (.inl h)
  have h2:¬ bits / 512 % 2 = 1:=fun h=>hb (.inr h)
  exact ⟨acc,by simp [kf,h1,h2],c,.inl rfl,by lia⟩
theorem uV {n k:Nat} {pre post:List Nat} (e:List.range n = pre ++ k :: post):k = pre.length /\ k < n:=by
 have h1:(List.range n)[pre.length]? = some k:=by rw [e];simp
 obtain ⟨h2,h3⟩:=Pw.mp h1
 rw [List.getElem_range] at h3
 rw [QA] at h2
 lia
theorem zo (bits x s:Int) (hs:0 < s):∃ r:R,zr [.int bits,.int x,.int s] = some (bQ r) /\ bc r /\ (∀ z,Mem r z -> x <= z /\ z < x + 8 * s) /\ ∀ z z',col x s z = col x s z' -> Mem r z -> Mem r z':=by
 obtain ⟨ρ',k1,b',r,v4,rfl,c1,c2,c3,c4⟩:=cE (g:=ai 4) (m:=kf) (fun k:Nat=>D.int (k:Int)) (fun pre ρ=>∃ (b':Int) (r:R) (v4:Sl),ρ = [.sh (.int b'),.sh (.int (x + (pre.length:Int) * s)),.sh (.int s),owl (r.map prD),v4] /\ bc r /\ (∀ z,Mem r z -> x <= z /\ z < x + (pre.length:Int) * s) /\ (∀ z z',col x s z = col x s z' -> Mem r z -> Mem r z') /\ r.length <= pre.length) (List.range 8) [.sh (.int bits),.sh (.int x),.sh (.int s),.ow (.lst []),.un]
  ⟨bits,[],.un,by simp,di,fun z h=>(bn _ h).elim,fun z z' _ h=>(bn _ h).elim,by simp⟩ (by
  rintro pre k post _ e ⟨b',r,v4,rfl,c1,c2,c3,c4⟩
  obtain ⟨hk,hk8⟩:=uV e
  obtain ⟨r',h1,h2,h3,h4⟩:=Ea b' (x + (pre.length:Int) * s) s hs r (.sh (.int (k:Int))) c1 (fun z hz=>(c2 z hz).2) (by lia)
  have es:((pre ++ [k]).length:Int) * s = (pre.length:Int) * s + s:=by rw [Ph,PK,Int.natCast_add,QM];lia
  have h0:0 <= (pre.length:Int) * s:=Int.mul_nonneg (by lia) (by lia)
  refine ⟨_,_,rfl,.inl h1,b' / 2,r',_,by rw [es,Int.add_assoc],h2,fun z hz=>?_,fun z z' hc hz=>?_,by rw [Ph,PK];lia⟩
  ·rw [es]
   rcases h3 with rfl | h3
   ·have:=c2 z hz;lia
   ·rcases (h3 z).mp hz with h | h
    ·have:=c2 z h;lia
    ·lia
  ·rcases h3 with rfl | h3
   ·exact c3 z z' hc hz
   ·rw [h3] at hz ⊢
    rcases hz with h | h
    ·exact .inl (c3 z z' hc h)
    ·right
     have e1:col x s z = (pre.length:Int):=(nT hs).mpr (by lia)
     rw [hc] at e1
     have:=(nT hs).mp e1
     lia)
 have h8:((List.range 8).length:Int) = 8:=by simp
 rw [h8] at c2
 refine ⟨r,?_,c1,c2,c3⟩
 have hr:Ge [.int 8] = some ((List.range 8).map fun k:Nat=>D.int (k:Int)):=IK (by decide)
 generalize (List.range 8).map (fun k:Nat=>D.int (k:Int)) = rg at *
 simp [zr,zT,fnO,zp,hr,k1]
theorem gK (ns:List Int) (k:Nat):∃ f:Int,b7 [.scr (ns.map D.int),.int k] = some (.int f):=by
 by_cases h:k < ns.length
 ·have h':(k:Int) < ns.length:=by lia
  have ea:atI (ns.map D.int) (k:Int) = some (.int ns[k]):=gP (by rw [PB,P7 h];rfl)
  exact ⟨ns[k],by simp [b7,jL,fnO,jm,h,h',ea]⟩
 ·have h':¬ (k:Int) < ns.length:=by lia
  exact ⟨0,by simp [b7,jL,fnO,jm,h,h']⟩
theorem lO (c m:Int) (h:0 < m):∃ f:Int,kd [.int c,.int m] = some (.int f):=by
 by_cases hc:c < 0
 ·exact ⟨_,by simp [kd,kH,fnO,j9,h,hc];rfl⟩
 ·exact ⟨_,by simp [kd,kH,fnO,j9,h,hc];rfl⟩
theorem EL {a j:Int} (h0:0 <= a) (h1:a < 1000000) (h2:0 <= j) (h3:j < 1000000):Builtin.Range.small a j 16 = true:=by
 have e1:0 <= Builtin.Range.rangeSize a j 16 /\ Builtin.Range.rangeSize a j 16 < 1000000:=by
  unfold Builtin.Range.rangeSize
  rw [O7 (by decide)]
  split <;> lia
 unfold Builtin.Range.small
 generalize Builtin.Range.rangeSize a j 16 = n at e1
 simp only [Builtin.Range.rangeFitsLong,Qd,Bool.or_eq_true,RD,Qb,show (16:Int) > 0 by decide,QE]
 have e:(2:Int) ^ 63 = 9223372036854775808:=by decide
 lia
theorem Ck (ns:List Int) (hn:ns.length <= 63) (k:Nat) (hk:k < 16) (s1 s2 s3 s4 s5 v8 v9:Sl) (bits:Int):∃ bits' v8',jy (DA (ad (xOp bM (xC (.int 18)) (ag 6)) (ad (xCB qN (ad (xCB kh (ad (ag 0) am)) (ad (xC (.int 98)) am))) (ad (xC (.int 16)) am)))) (ai 8) (fX) [.sh (.scr (ns.map D.int)),s1,s2,s3,s4,s5,.sh (.int k),.sh (.int bits),v8,v9] = some (.nx [.sh (.scr (ns.map D.int)),s1,s2,s3,s4,s5,.sh (.int k),.sh (.int bits'),v8',v9]):=by
 have hr:FA [.int (18 + (k:Int)),.int (ns.length:Int),.int 16] = some (wo (18 + (k:Int)) 16 (Builtin.Range.rangeSize (18 + (k:Int)) ns.length 16).toNat):=f9 ⟨by decide,by decide,EL (by lia) (by lia) (by lia) (by lia)⟩
 have hmin:¬ (98:Int) < ns.length:=by lia
 obtain ⟨ρ',k1,b',v',rfl⟩:=cE (g:=ai 8) (m:=fX) (fun i:Nat=>D.int (18 + (k:Int) + (i:Int) * 16)) (fun pre ρ=>∃ b' v',ρ = [.sh (.scr (ns.map D.int)),s1,s2,s3,s4,s5,.sh (.int k),.sh (.int b'),v',v9]) (List.range (Builtin.Range.rangeSize (18 + (k:Int)) ns.length 16).toNat) [.sh (.scr (ns.map D.int)),s1,s2,s3,s4,s5,.sh (.int k),.sh (.int bits),v8,v9] ⟨_,_,rfl⟩ (by
  rintro pre i post _ e ⟨b',v',rfl⟩
  have hi:i < (Builtin.Range.rangeSize (18 + (k:Int)) ns.length 16).toNat:=List.mem_range.mp (by rw [e];simp)
  have hb:18 + k + i * 16 < ns.length:=by
   unfold Builtin.Range.rangeSize at hi
   rw [O7 (by decide)] at hi
   split at hi <;> lia
  have ea:atI (ns.map D.int) (18 + (k:Int) + (i:Int) * 16) = some (.int ns[18 + k + i * 16]):=by
   have:=gP (l:=ns.map D.int) (j:=18 + k + i * 16) (x:=.int ns[18 + k + i * 16]) (by rw [PB,P7 hb];rfl)
   rw [<- this]
   congr 1
  have hm:pA (.int 5) (.int ns[18 + k + i * 16]) = some (.int (5 * ns[18 + k + i * 16])):=f9 (.inl (by decide))
  exact ⟨[.sh (.scr (ns.map D.int)),s1,s2,s3,s4,s5,.sh (.int k),.sh (.int b'),.sh (.int (18 + (k:Int) + (i:Int) * 16)),v9],[.sh (.scr (ns.map D.int)),s1,s2,s3,s4,s5,.sh (.int k),.sh (.int (b' + 5 * ns[18 + k + i * 16] % 256)),.sh (.int (18 + (k:Int) + (i:Int) * 16)),v9],rfl,.inl (by simp [fX,ea,hm]),_,_,rfl⟩)
 refine ⟨b',v',?_⟩
 unfold wo at hr
 simp [hmin,hr,k1]
theorem su (ns:List Int) (hn:ns.length <= 63) (s:Int) (hs:0 < s):∃ (x:Int) (p:Pic),pj [.scr (ns.map D.int),.int s] = some (au p) /\ av p /\ AB x s (aN p) 8 16:=by
 obtain ⟨f,hf⟩:=gK ns 0
 obtain ⟨q,hq1,hq⟩:∃ q:Int,0 < q /\ Cy (.int 10) (.int 58) = some (.int q):=⟨_,by decide,Gf (by decide)⟩
 have at2:∀ c:Int,∃ m:Int,0 < m /\ atI [D.int 9,.int q] (c % 2) = some (.int m):=fun c=>by
  have:c % 2 = 0 \/ c % 2 = 1:=by lia
  rcases this with e | e <;> rw [e]
  ·exact ⟨9,by lia,rfl⟩
  ·exact ⟨q,hq1,rfl⟩
 obtain ⟨m1,h1,e1⟩:=at2 (f / 2)
 obtain ⟨m2,h2,e2⟩:=at2 (f / 4)
 obtain ⟨x,hx⟩:=lO (f / 8) m1 h1
 obtain ⟨y,hy⟩:=lO (f / 16) m2 h2
 obtain ⟨n,hn16,hnl,hr⟩:∃ n:Nat,n <= 16 /\ n <= ns.length - 2 /\ Ge [.int (if (ns.length:Int) - 2 < 16 then (ns.length:Int) - 2 else 16)] = some ((List.range n).map fun k:Nat=>D.int (k:Int)):=by
  refine ⟨(if (ns.length:Int) - 2 < 16 then (ns.length:Int) - 2 else 16).toNat,by split <;> lia,by split <;> lia,?_⟩
  rw [<- Hb]
  exact f9 (by split <;> lia)
 obtain ⟨ρ',k1,p,v6,v7,v8,v9,rfl,c1,c2,c3⟩:=cE (g:=ai 6) (m:=fV) (fun k:Nat=>D.int (k:Int)) (fun pre ρ=>∃ (p:Pic) (v6 v7 v8 v9:Sl),ρ = [.sh (.scr (ns.map D.int)),.sh (.int s),.sh (.int f),.sh (.int x),.sh (.int y),owl (p.map pyD),v6,v7,v8,v9] /\ av p /\ (∀ g ∈ p,y <= g.1 /\ g.1 < y + pre.length /\ (∀ z,Mem g.2 z -> x <= z /\ z < x + 8 * s) /\ ∀ z z',col x s z = col x s z' -> Mem g.2 z -> Mem g.2 z') /\ p.length <= pre.length) (List.range n) [.sh (.scr (ns.map D.int)),.sh (.int s),.sh (.int f),.sh (.int x),.sh (.int y),.ow (.lst []),.un,.un,.un,.un]
  ⟨[],_,_,_,_,rfl,fH,fun _ h=>(by cases h),by simp⟩ (by
  rintro pre k post _ e ⟨p,v6,v7,v8,v9,rfl,c1,c2,c3⟩
  obtain ⟨hk,hkn⟩:=uV e
  have hlim:p.length < LIM:=jE (by lia)
  obtain ⟨w,hw⟩:∃ w:Int,ns[2 + k]? = some w:=⟨_,P7 (by lia)⟩
  have ea:atI (ns.map D.int) (2 + (k:Int)) = some (.int w):=by
   have:=gP (l:=ns.map D.int) (j:=2 + k) (x:=.int w) (by rw [PB,hw];rfl)
   rw [<- this]
   congr 1
  obtain ⟨b,v8',hin⟩:=Ck ns hn k (by lia) (.sh (.int s)) (.sh (.int f)) (.sh (.int x)) (.sh (.int y)) (owl (p.map pyD)) v8 v9 (w * 48271 % 2147483647 / 37)
  obtain ⟨b',hb'⟩:∃ b':Int,(if f / 32 % 2 = 1 then w % 256 else b) = b':=⟨_,rfl⟩
  obtain ⟨r,hrow,cr,r1,r2⟩:=zo b' x s hs
  have step1:∀ n:XS,aP (bv (xOp ir (xOp gn (xOp pA (xOp dIx (ag 0) (xOp bM (xC (.int 2)) (ag 6))) (xC (.int 48271))) (xC (.int 2147483647))) (xC (.int 37))) (ai 7)) n [.sh (.scr (ns.map D.int)),.sh (.int s),.sh (.int f),.sh (.int x),.sh (.int y),owl (p.map pyD),.sh (.int k),v7,v8,v9] = n [.sh (.scr (ns.map D.int)),.sh (.int s),.sh (.int f),.sh (.int x),.sh (.int y),owl (p.map pyD),.sh (.int k),.sh (.int (w * 48271 % 2147483647 / 37)),v8,v9]:=fun n=>by
   have hm:pA (.int w) (.int 48271) = some (.int (w * 48271)):=f9 (.inr (by decide))
   simp [ea,hm]
  have step2:xIf (xB (xOp (dEq false) (xOp gn (xOp ir (ag 2) (xC (.int 32))) (xC (.int 2))) (xC (.int 1)))) (bv (xOp gn (xOp dIx (ag 0) (xOp bM (xC (.int 2)) (ag 6))) (xC (.int 256))) (ai 7)) dq [.sh (.scr (ns.map D.int)),.sh (.int s),.sh (.int f),.sh (.int x),.sh (.int y),owl (p.map pyD),.sh (.int k),.sh (.int b),v8',v9] = some (.nx [.sh (.scr (ns.map D.int)),.sh (.int s),.sh (.int f),.sh (.int x),.sh (.int y),owl (p.map pyD),.sh (.int k),.sh (.int b'),v8',v9]):=by
   rw [<- hb']
   by_cases hz:f / 32 % 2 = 1
   ·simp [hz,ea]
   ·simp [hz]
  have step3:∀ n:XS,aP (bv (aH zr (ad (ar 7) (ad (ar 3) (ad (ar 1) am)))) (ai 9)) n [.sh (.scr (ns.map D.int)),.sh (.int s),.sh (.int f),.sh (.int x),.sh (.int y),owl (p.map pyD),.sh (.int k),.sh (.int b'),v8',v9] = n [.sh (.scr (ns.map D.int)),.sh (.int s),.sh (.int f),.sh (.int x),.sh (.int y),owl (p.map pyD),.sh (.int k),.sh (.int b'),v8',.sh (bQ r)]:=fun n=>by
   rw [aI (gQ (gU (ds:=[.int b',.int x,.int s]) rfl hrow))]
   rfl
  by_cases hr0:r = []
  ·subst hr0
   refine ⟨[.sh (.scr (ns.map D.int)),.sh (.int s),.sh (.int f),.sh (.int x),.sh (.int y),owl (p.map pyD),.sh (.int k),v7,v8,v9],[.sh (.scr (ns.map D.int)),.sh (.int s),.sh (.int f),.sh (.int x),.sh (.int y),owl (p.map pyD),.sh (.int k),.sh (.int b'),v8',.sh (bQ [])],rfl,.inl ?_,p,_,_,_,_,rfl,c1,fun g hg=>?_,by rw [Ph,PK];lia⟩
   ·unfold fV
    rw [step1,aI hin,aI step2,step3]
    simp
   ·obtain ⟨a1,a2,a3⟩:=c2 g hg
    rw [Ph,PK]
    exact ⟨a1,by lia,a3⟩
  ·have hpos:(0:Int) < r.length:=by have:=Rv.mpr hr0;lia
   have hpos':0 < r.length:=Rv.mpr hr0
   refine ⟨[.sh (.scr (ns.map D.int)),.sh (.int s),.sh (.int f),.sh (.int x),.sh (.int y),owl (p.map pyD),.sh (.int k),v7,v8,v9],[.sh (.scr (ns.map D.int)),.sh (.int s),.sh (.int f),.sh (.int x),.sh (.int y),owl ((p ++ [(y + k,r)]).map pyD),.sh (.int k),.sh (.int b'),v8',.sh (bQ r)],rfl,.inl ?_,p ++ [(y + k,r)],_,_,_,_,rfl,⟨fun g hg=>?_,?_⟩,fun g hg=>?_,?_⟩
   ·unfold fV
    rw [step1,aI hin,aI step2,step3]
    simp [hpos,hpos',hlim]
   ·rcases Po.mp hg with hg | hg
    ·exact c1.1 g hg
    ·rw [Pe.mp hg];exact ⟨cr,hr0⟩
   ·refine PZ.mpr ⟨c1.2,Rk _ _,fun a ha b hb=>?_⟩
    rw [Pe.mp hb]
    have:=c2 a ha
    dsimp only
    lia
   ·rw [Ph,PK]
    rcases Po.mp hg with hg | hg
    ·obtain ⟨a1,a2,a3⟩:=c2 g hg
     exact ⟨a1,by lia,a3⟩
    ·rw [Pe.mp hg]
     exact ⟨by dsimp only;lia,by dsimp only;lia,r1,r2⟩
   ·rw [Ph,Ph,PK,PK];lia)
 rw [QA] at c2 c3
 refine ⟨x,p,?_,c1,⟨fun z z' w hc ⟨g,hg,e,hm⟩=>⟨g,hg,e,(c2 g hg).2.2.2 z z' hc hm⟩,0,y,fun z w ⟨g,hg,e,hm⟩=>?_⟩⟩
 ·have hf':b7 [D.scr (ns.map D.int),.int 0] = some (.int f):=hf
  simp [pj,mB,fnO,kT,hf',hq,e1,e2,hx,hy,hr,k1]
 ·obtain ⟨a1,a2,a3,_⟩:=c2 g hg
  have a4:=a3 z hm
  have b1:0 <= col x s z:=Int.ediv_nonneg (by lia) (by lia)
  have b2:col x s z < 8:=Int.ediv_lt_of_lt_mul hs (by lia)
  exact ⟨b1,by lia,by lia,by lia⟩
theorem wv {N:Str} {ps:List (List Blk)} {mi:List D -> Option D} {a:XA} {ρ:M.Env} {ds:List D} (ha:a ρ = some ds) (hi:mi ds = some (dB ps)):lF N "parts" mi a ρ = some (aD N ps):=by
 unfold lF;rw [ha];show (mi ds).map _ = _;rw [hi];rfl
theorem gC {c:XT} {a:XS} {ρ:M.Env} (h:c ρ = some false):xIf c a dq ρ = some (.nx ρ):=by unfold xIf;rw [h];rfl
theorem uP {c:XT} {e:XE} {n:XS} {ρ:M.Env} {d:D} (h:c ρ = some true) (k:e ρ = some d):aP (xIf c (bG e) dq) n ρ = some (.rt d):=by
 unfold aP xIf bG;rw [h];dsimp only [Option.bind];rw [O7 rfl,k];rfl
theorem rR (l u r d:Int) (h1:0 <= l) (h2:0 <= u) (h3:0 <= r) (h4:0 <= d):rC [.int l,.int u,.int r,.int d] = some (dB [[(-l,-u,r,d)]]):=by
 have hm:∃ m:Int,C4 [.int l,.int u,.int r,.int d] = some (.int m) /\ 0 <= m:=by
  exact ⟨min l (min u (min r d)),rfl,Int.le_min.mpr ⟨h1,Int.le_min.mpr ⟨h2,Int.le_min.mpr ⟨h3,h4⟩⟩⟩⟩
 obtain ⟨m,hm,m0⟩:=hm
 have m1:¬ m < 0:=by lia
 simp [rC,Bt,hm,m1]
theorem sS (p:Pic) (c:av p) (hp:p ≠ []) (h:(aj p).length < 30000):kF [au p] = some (dB [eP p]):=by
 have hb:=(mH p c h).1
 have de:dEq false (au p) (.tup []) = some (.bl false):=by rw [fI,PM hp]
 simp [kF,Bt,de,hb]
theorem Ff (N M:Str) (hN:NS.contains N = true) (hM:NS.contains M = true) (ps qs:List (List Blk)) (h:ps.length + qs.length <= 1000):BA [aD N ps,aD M qs] = some (dB (vn (ps ++ qs))):=by
 have hl:(ps.map gj).length + (qs.map gj).length <= LIM:=bj (by rw [Pc,Pc];lia)
 have hm:=rp (ps ++ qs) (by rw [Ph];exact h)
 have e1:pi NS "parts" (ar 1) [.lo,.sh (aD N ps),.sh (aD M qs)] = some (dB ps):=by
  show (if NS.contains N then wP ["parts"] [dB ps] "parts" else none) = _
  rw [O7 hN]
  rfl
 have e2:pi NS "parts" (ar 2) [.lo,.sh (aD N ps),.sh (aD M qs)] = some (dB qs):=by
  show (if NS.contains M then wP ["parts"] [dB qs] "parts" else none) = _
  rw [O7 hM]
  rfl
 have e3:xOp bM (pi NS "parts" (ar 1)) (pi NS "parts" (ar 2)) [.lo,.sh (aD N ps),.sh (aD M qs)] = some (dB (ps ++ qs)):=by
  unfold xOp
  rw [e1,e2]
  show bM (dB ps) (dB qs) = _
  rw [Cj,O7 hl,<- Qf]
 exact gU (kW e3 rfl) hm
def SB (s:Int) (b:Blk):Prop:=∃ c d:Int,b.1 = c * s /\ b.2.2.1 = d * s /\ -1 <= c /\ c <= d /\ d <= 2 /\ -1 <= b.2.1 /\ b.2.1 <= b.2.2.2 /\ b.2.2.2 <= 3 /\ b.2.2.2 - b.2.1 <= 2
theorem SB.bg {s:Int} {b:Blk} (h:SB s b):BG s b:=by
 obtain ⟨c,d,h1,h2,h3,h4,h5,h6,h7,h8,h9⟩:=h
 exact ⟨c,d,h1,h2,by lia,h4,by lia,by lia,h7,by lia⟩
structure SF (s:Int) (bs:List Blk):Prop where
 ne:bs ≠ []
 bl:∀ b ∈ bs,SB s b
 few:bs.length <= 10
 hi:a9 bs <= 9
 two:∃ u1 v1 u2 v2,zd bs u1 v1 /\ zd bs u2 v2 /\ (v1 < v2 \/ u1 + s <= u2)
theorem nL (bs:List Blk) (x y:Int):Off [bs] x y ↔ zd bs x y:=by
 constructor
 ·rintro ⟨u,v,h,h1,h2⟩
  rwa [show x = u by lia,show y = v by lia]
 ·intro h
  exact ⟨x,y,h,by lia,by lia⟩
theorem SF.fg {s:Int} {bs:List Blk} (h:SF s bs):FG s [bs]:=by
 have m:∀ z ∈ [bs],z = bs:=fun z hz=>Pe.mp hz
 obtain ⟨u1,v1,u2,v2,h1,h2,h3⟩:=h.two
 exact ⟨by show 1 <= 3;decide,fun z hz=>by rw [m z hz];exact ⟨h.ne,fun b hb=>(h.bl b hb).bg⟩,fun z hz=>by rw [m z hz];exact ⟨h.few,h.hi⟩,u1,v1,u2,v2,(nL ..).mpr h1,(nL ..).mpr h2,h3⟩
theorem Ik {s:Int}:∀ {ss:List Blk},ss.length <= 2 -> (∀ b ∈ ss,SB s b) -> BG s (jz ss) /\ cU (jz ss) <= 9
 | [],_,_=>⟨⟨0,0,by simp [jz],by simp [jz],by decide,by decide,by decide,by decide,by decide,by decide⟩,by decide⟩
 | [b],_,h=>by
  obtain ⟨c,d,h1,h2,h3,h4,h5,h6,h7,h8,h9⟩:=h b (by simp)
  have e:jz [b] = b:=by simp [jz,u0]
  rw [e]
  exact ⟨⟨c,d,h1,h2,by lia,h4,by lia,by lia,h7,by lia⟩,by unfold cU;lia⟩
 | [b,b'],_,h=>by
  obtain ⟨c,d,h1,h2,h3,h4,h5,h6,h7,h8,h9⟩:=h b (by simp)
  obtain ⟨c',d',k1,k2,k3,k4,k5,k6,k7,k8,k9⟩:=h b' (by simp)
  have e:jz [b,b'] = (b.1 + b'.1,b.2.1 + b'.2.1,b.2.2.1 + b'.2.2.1,b.2.2.2 + b'.2.2.2):=by simp [jz,u0]
  rw [e]
  refine ⟨⟨c + c',d + d',?_,?_,by lia,by lia,by lia,?_,?_,?_⟩,?_⟩
  ·rw [QM];dsimp only;lia
  ·rw [QM];dsimp only;lia
  ·dsimp only;lia
  ·dsimp only;lia
  ·dsimp only;lia
  ·unfold cU;dsimp only;lia
 | _ :: _ :: _ :: _,h,_=>by simp at h
theorem SF.sum {s:Int} {bs cs:List Blk} (hs:0 < s) (h:SF s bs) (k:SF s cs):FG s (vn ([bs] ++ [cs])):=by
 have mem:∀ z ∈ [bs] ++ [cs],SF s z:=fun z hz=>by
  rcases Po.mp hz with hz | hz
  ·rw [Pe.mp hz];exact h
  ·rw [Pe.mp hz];exact k
 have hok:FOk ([bs] ++ [cs]):=fun z hz=>⟨(mem z hz).ne,fun b hb=>((mem z hz).bl b hb).bg.ok hs⟩
 have hl:(aL ([bs] ++ [cs])).length <= 2:=R6 _ _
 have hm:∀ b ∈ aL ([bs] ++ [cs]),SB s b:=fun b hb=>by
  obtain ⟨z,h1,h2⟩:=Q4.mp hb
  split at h2
  ·exact (mem z h1).bl b (List.mem_of_mem_head? h2)
  ·cases h2
 obtain ⟨t1,t2⟩:=Ik hl hm
 have hq:∀ z ∈ vn ([bs] ++ [cs]),z = [jz (aL ([bs] ++ [cs]))] \/ SF s z:=fun z hz=>by
  rcases Pn.mp hz with rfl | hz
  ·exact .inl rfl
  ·exact .inr (mem z (PN.mp hz).1)
 obtain ⟨u1,v1,u2,v2,o1,o2,o3⟩:=h.two
 obtain ⟨u,v,_,_,o4,_⟩:=k.two
 refine ⟨?_,fun z hz=>?_,fun z hz=>?_,u1 + u,v1 + v,u2 + u,v2 + v,?_,?_,by lia⟩
 ·have:=Qt (fun bs:List Blk=>decide (1 < bs.length)) ([bs] ++ [cs])
  show (jg ([bs] ++ [cs])).length + 1 <= 3
  unfold jg
  simp only [Ph,PK] at this
  lia
 ·rcases hq z hz with rfl | g
  ·exact ⟨by simp,fun b hb=>by rw [Pe.mp hb];exact t1⟩
  ·exact ⟨g.ne,fun b hb=>(g.bl b hb).bg⟩
 ·rcases hq z hz with rfl | g
  ·exact ⟨by simp,by rw [gN];exact t2⟩
  ·exact ⟨g.few,g.hi⟩
 ·rw [zD hok,kU]
  exact ⟨u1,v1,(nL ..).mpr o1,(nL ..).mpr (by rwa [show u1 + u - u1 = u by lia,show v1 + v - v1 = v by lia])⟩
 ·rw [zD hok,kU]
  exact ⟨u2,v2,(nL ..).mpr o2,(nL ..).mpr (by rwa [show u2 + u - u2 = u by lia,show v2 + v - v2 = v by lia])⟩
theorem Cc {s c d v1 v2:Int} (hs:0 < s) (h1:-1 <= c) (h2:c <= d) (h3:d <= 2) (h4:-1 <= v1) (h5:v1 <= v2) (h6:v2 <= 3) (h7:v2 - v1 <= 2) (h8:v1 < v2 \/ c < d):SF s [(c * s,v1,d * s,v2)]:=by
 have m:∀ z ∈ [((c * s,v1,d * s,v2):Blk)],z = (c * s,v1,d * s,v2):=fun z hz=>Pe.mp hz
 have hcd:c * s <= d * s:=RI h2 (by lia)
 refine ⟨by simp,fun b hb=>by rw [m b hb];exact ⟨c,d,rfl,rfl,h1,h2,h3,h4,h5,h6,h7⟩,by simp,by rw [gN];unfold cU;dsimp only;lia,c * s,v1,d * s,v2,(fj ..).mpr ⟨Pl _,hcd,Pl _,h5⟩,(fj ..).mpr ⟨hcd,Pl _,h5,Pl _⟩,?_⟩
 rcases h8 with h | h
 ·exact .inl h
 ·right
  have:=RI (show c + 1 <= d by lia) (show 0 <= s by lia)
  rw [QM,Int.one_mul] at this
  exact this
theorem Gg (bs:List Blk):bs.length <= a9 bs:=by
 induction bs with
 | nil=>exact PU _
 | cons b bs ih=>
  have e:a9 (b :: bs) = cU b + a9 bs:=rfl
  rw [e,Pr]
  unfold cU
  lia
theorem A9 {s:Int} (hs:0 < s) {p:Pic} (c:av p) (hl:(aj p).length <= 4) {lo:Int} (h0:-1 <= lo /\ lo <= 2) (hc:∀ x y,aN p x y -> ∃ i:Int,x = i * s /\ -1 <= i /\ i <= 2 /\ lo <= y /\ y <= lo + 1) (ht:∃ u1 v1 u2 v2,aN p u1 v1 /\ aN p u2 v2 /\ (v1 < v2 \/ u1 + s <= u2)):SF s (eP p):=by
 obtain ⟨_,b1,b2,b3⟩:=mH p c (by lia)
 obtain ⟨u1,v1,u2,v2,t1,t2,t3⟩:=ht
 have hp:=Gg (eP p)
 refine ⟨fun e=>?_,fun b hb=>?_,by lia,by lia,u1,v1,u2,v2,(b3 _ _).mpr t1,(b3 _ _).mpr t2,t3⟩
 ·obtain ⟨b,hb,_⟩:=(b3 _ _).mpr t1
  rw [e] at hb
  cases hb
 ·obtain ⟨k1,k2⟩:=b1 b hb
  obtain ⟨i,e1,i1,i2,i3,i4⟩:=hc _ _ ((b3 b.1 b.2.1).mp ⟨b,hb,Pl _,k1,Pl _,k2⟩)
  obtain ⟨j,e2,j1,j2,j3,j4⟩:=hc _ _ ((b3 b.2.2.1 b.2.2.2).mp ⟨b,hb,k1,Pl _,k2,Pl _⟩)
  have hij:i <= j:=by
   rw [e1,e2] at k1
   exact Int.le_of_mul_le_mul_right k1 hs
  exact ⟨i,j,e1,e2,i1,hij,j2,by lia,k2,by lia,by lia⟩
theorem uy (q:Int × Int) (x:Int):Mem [q] x ↔ q.1 <= x /\ x <= q.2:=by
 rw [mem_cons]
 exact ⟨fun h=>h.elim id fun k=>(bn _ k).elim,.inl⟩
theorem GN (b:Int):b % 2 = 0 \/ b % 2 = 1:=by lia
theorem lM (c s:Int) (hs:0 < s):∃ (N:Str) (bs:List Blk),NS.contains N = true /\ nP [.int c,.int s] = some (aD N [bs]) /\ SF s bs:=by
 have l1:1 <= LIM:=bj (by lia)
 have l2:2 <= LIM:=bj (by lia)
 have aZ:∀ (d:D),(d7 [.sh (.int c),.sh (.int s),.un] = some (.rt d)) -> nP [.int c,.int s] = some d:=fun d h=>sY (n:=3) (ds:=[.int c,.int s]) h
 have as1:∀ n:XS,aP (bv (xOp gn (ag 0) (xC (.int 5))) (ai 2)) n [.sh (.int c),.sh (.int s),.un] = n [.sh (.int c),.sh (.int s),.sh (.int (c % 5))]:=fun n=>by simp
 have hw:c % 5 = 0 \/ c % 5 = 1 \/ c % 5 = 2 \/ c % 5 = 3 \/ c % 5 = 4:=by lia
 rcases hw with hw | hw | hw | hw | hw
 ·have he:=GN (c / 5)
  refine ⟨"Box",[(-0,-0,s,c / 5 % 2)],by decide,aZ _ ?_,?_⟩
  ·unfold d7
   rw [as1,hw]
   exact uP (by simp) (wv (ds:=[.int 0,.int 0,.int s,.int (c / 5 % 2)]) (by simp) (rR 0 0 s (c / 5 % 2) (by lia) (by lia) (by lia) (by lia)))
  ·have:=Cc (c:=0) (d:=1) (v1:=0) (v2:=c / 5 % 2) hs (by lia) (by lia) (by lia) (by lia) (by lia) (by lia) (by lia) (by lia)
   rw [Int.zero_mul,Int.one_mul] at this
   exact this
 ·have he:=GN (c / 5)
  have hf:=GN (c / 10)
  have g1:0 <= c / 5 % 2 * s:=Int.mul_nonneg (by lia) (by lia)
  have g2:0 <= c / 10 % 2 * s:=Int.mul_nonneg (by lia) (by lia)
  have q1:=G1 (i:=c / 5 % 2) (j:=s) (by lia)
  have q2:=G1 (i:=c / 10 % 2) (j:=s) (by lia)
  refine ⟨"Box",[(-(c / 5 % 2 * s),-1,c / 10 % 2 * s,0)],by decide,aZ _ ?_,?_⟩
  ·unfold d7
   rw [as1,hw,aI (gC (by simp))]
   exact uP (by simp) (wv (ds:=[.int (c / 5 % 2 * s),.int 1,.int (c / 10 % 2 * s),.int 0]) (by simp [q1,q2]) (rR _ 1 _ 0 g1 (by lia) g2 (by lia)))
  ·have:=Cc (c:=-(c / 5 % 2)) (d:=c / 10 % 2) (v1:=-1) (v2:=0) hs (by lia) (by lia) (by lia) (by lia) (by lia) (by lia) (by lia) (by lia)
   rw [Int.neg_mul] at this
   exact this
 ·by_cases h1:s = 1
  ·subst h1
   refine ⟨"Cross",[(-1,0,1,0),(0,-1,0,1)],by decide,aZ _ ?_,?_⟩
   ·unfold d7
    rw [as1,hw,aI (gC (by simp)),aI (gC (by simp))]
    exact uP (by simp) (wv (ds:=[.int 1]) (by simp) (by simp [vY,Bt]))
   ·have hb:∀ b ∈ [((-1,0,1,0):Blk),(0,-1,0,1)],b = (-1,0,1,0) \/ b = (0,-1,0,1):=fun b hb=>by simpa using hb
    refine ⟨by simp,fun b h=>?_,by simp,by decide,0,-1,0,1,⟨(0,-1,0,1),by simp,by decide,by decide,by decide,by decide⟩,⟨(0,-1,0,1),by simp,by decide,by decide,by decide,by decide⟩,.inl (by decide)⟩
    rcases hb b h with rfl | rfl
    ·exact ⟨-1,1,by decide,by decide,by decide,by decide,by decide,by decide,by decide,by decide,by decide⟩
    ·exact ⟨0,0,by decide,by decide,by decide,by decide,by decide,by decide,by decide,by decide,by decide⟩
  ·refine ⟨"Box",[(-s,-1,0,1)],by decide,aZ _ ?_,?_⟩
   ·unfold d7
    rw [as1,hw,aI (gC (by simp)),aI (gC (by simp)),aI (gC (by simp [h1]))]
    exact uP (by simp) (wv (ds:=[.int s,.int 1,.int 0,.int 1]) (by simp) (rR s 1 0 1 (by lia) (by lia) (by lia) (by lia)))
   ·have:=Cc (c:=-1) (d:=0) (v1:=-1) (v2:=1) hs (by lia) (by lia) (by lia) (by lia) (by lia) (by lia) (by lia) (by lia)
    rw [Int.neg_mul,Int.one_mul,Int.zero_mul] at this
    exact this
 ·obtain ⟨t,ht,t0⟩:∃ t:Int,c / 5 % 3 = t /\ 0 <= t /\ t <= 2:=⟨_,rfl,by lia⟩
  have cp:av [(t,[((0:Int),(0:Int))]),(t + 1,[(s,s)])]:=pcanon_cons.mpr ⟨⟨canon_cons.mpr ⟨Pl _,fun _ h=>(by cases h),di⟩,fun z=>by cases z⟩,fun q hq=>by rw [Pe.mp hq];dsimp only;lia,pcanon_cons.mpr ⟨⟨canon_cons.mpr ⟨Pl _,fun _ h=>(by cases h),di⟩,fun z=>by cases z⟩,fun _ h=>(by cases h),fH⟩⟩
  have pm:∀ x y,aN [(t,[((0:Int),(0:Int))]),(t + 1,[(s,s)])] x y ↔ (x = 0 /\ y = t) \/ (x = s /\ y = t + 1):=fun x y=>by
   rw [bo,bo]
   dsimp only
   rw [uy,uy]
   dsimp only
   have h0:aN [] x y ↔ False:=⟨cI _ _,False.elim⟩
   simp only [h0,or_false]
   lia
  refine ⟨"Shape",eP [(t,[(0,0)]),(t + 1,[(s,s)])],by decide,aZ _ ?_,A9 hs cp (by show 2 <= 4;decide) (lo:=t) (by lia) (fun x y h=>?_) ⟨0,t,s,t + 1,(pm _ _).mpr (.inl ⟨rfl,rfl⟩),(pm _ _).mpr (.inr ⟨rfl,rfl⟩),.inl (by lia)⟩⟩
  ·unfold d7
   rw [as1,hw,aI (gC (by simp)),aI (gC (by simp)),aI (gC (by simp)),aI (gC (by simp))]
   exact uP (by simp) (wv (ds:=[au [(t,[(0,0)]),(t + 1,[(s,s)])]]) (by simp [l1,l2,ht]) (sS _ cp (by simp) (by show 2 < 30000;decide)))
  ·rcases (pm x y).mp h with ⟨rfl,rfl⟩ | ⟨rfl,rfl⟩
   ·exact ⟨0,by lia,by lia,by lia,by lia,by lia⟩
   ·exact ⟨1,by lia,by lia,by lia,by lia,by lia⟩
 ·have cp:av [((0:Int),[((0:Int),(0:Int)),(2 * s,2 * s)]),(1,[(0 - s,0 - s)])]:=pcanon_cons.mpr ⟨⟨canon_cons.mpr ⟨Pl _,fun q hq=>by rw [Pe.mp hq];dsimp only;lia,canon_cons.mpr ⟨Pl _,fun _ h=>(by cases h),di⟩⟩,fun z=>by cases z⟩,fun q hq=>by rw [Pe.mp hq];dsimp only;lia,pcanon_cons.mpr ⟨⟨canon_cons.mpr ⟨Pl _,fun _ h=>(by cases h),di⟩,fun z=>by cases z⟩,fun _ h=>(by cases h),fH⟩⟩
  have pm:∀ x y,aN [((0:Int),[((0:Int),(0:Int)),(2 * s,2 * s)]),(1,[(0 - s,0 - s)])] x y ↔ ((x = 0 /\ y = 0) \/ (x = 2 * s /\ y = 0)) \/ (x = 0 - s /\ y = 1):=fun x y=>by
   rw [bo,bo]
   dsimp only
   rw [mem_cons,uy,uy]
   dsimp only
   have h0:aN [] x y ↔ False:=⟨cI _ _,False.elim⟩
   simp only [h0,or_false]
   lia
  refine ⟨"Shape",eP [(0,[(0,0),(2 * s,2 * s)]),(1,[(0 - s,0 - s)])],by decide,aZ _ ?_,A9 hs cp (by show 3 <= 4;decide) (lo:=0) (by lia) (fun x y h=>?_) ⟨0,0,0 - s,1,(pm _ _).mpr (.inl (.inl ⟨rfl,rfl⟩)),(pm _ _).mpr (.inr ⟨rfl,rfl⟩),.inl (by lia)⟩⟩
  ·unfold d7
   rw [as1,hw,aI (gC (by simp)),aI (gC (by simp)),aI (gC (by simp)),aI (gC (by simp)),aI (gC (by simp))]
   have hm:lF "Shape" "parts" kF (ad (aW (ad (aW (ad (xC (.int 0)) (ad (aW (ad (aW (ad (xC (.int 0)) (ad (xC (.int 0)) am))) (ad (aW (ad (xOp pA (xC (.int 2)) (ag 1)) (ad (xOp pA (xC (.int 2)) (ag 1)) am))) am))) am))) (ad (aW (ad (xC (.int 1)) (ad (aW (ad (aW (ad (xOp gz (xC (.int 0)) (ag 1)) (ad (xOp gz (xC (.int 0)) (ag 1)) am))) am)) am))) am))) am) [.sh (.int c),.sh (.int s),.sh (.int 4)] = some (aD "Shape" [eP [(0,[(0,0),(2 * s,2 * s)]),(1,[(0 - s,0 - s)])]]):=wv (ds:=[au [(0,[(0,0),(2 * s,2 * s)]),(1,[(0 - s,0 - s)])]]) (by simp [l1,l2]) (sS _ cp (by simp) (by show 3 < 30000;decide))
   unfold bG
   rw [hm]
   rfl
  ·rcases (pm x y).mp h with (⟨rfl,rfl⟩ | ⟨rfl,rfl⟩) | ⟨rfl,rfl⟩
   ·exact ⟨0,by lia,by lia,by lia,by lia,by lia⟩
   ·exact ⟨2,by lia,by lia,by lia,by lia,by lia⟩
   ·exact ⟨-1,by lia,by lia,by lia,by lia,by lia⟩
theorem MV (p:Pic):okD 49 (au p) = true:=by
 show okDs 48 (p.map pyD) = true
 refine mU p fun q _=>?_
 show okDs 47 [.int q.1,bQ q.2] = true
 simp only [okDs,okD,Bool.true_and,Bool.and_true]
 exact mU q.2 fun s _=>by simp [okD,okDs]
theorem F6 (ns:List Int) (h:ns.length <= 63):LP [.scr (ns.map D.int)] = some (.bl true):=by
 have l2:2 <= LIM:=bj (by lia)
 obtain ⟨P40,hP40⟩:∃ P:Int,(10:Int) ^ (40:Int).toNat = P:=⟨_,rfl⟩
 have p40:Cy (.int 10) (.int 40) = some (.int P40):=by rw [<- hP40];exact Gf (by decide)
 have h40:0 < P40:=by rw [<- hP40];decide
 clear hP40
 obtain ⟨f,hf⟩:∃ v:Int,b7 [.scr (ns.map D.int),.int 0] = some (.int v):=gK ns 0
 obtain ⟨g,hg⟩:∃ v:Int,b7 [.scr (ns.map D.int),.int 1] = some (.int v):=gK ns 1
 obtain ⟨s,hs,es⟩:∃ u:Int,0 < u /\ atI [D.int 1,.int (P40 + 7)] (f % 2) = some (.int u):=by
  have:f % 2 = 0 \/ f % 2 = 1:=by lia
  rcases this with e | e <;> rw [e]
  ·exact ⟨1,by lia,rfl⟩
  ·exact ⟨P40 + 7,by lia,rfl⟩
 obtain ⟨x0,p,pp,cp,ap⟩:=su ns h s hs
 obtain ⟨c,hc⟩:∃ c:Int,(if f / 32 % 2 = 1 then g else g * 39373 % 2147483629 / 37) = c:=⟨_,rfl⟩
 obtain ⟨N1,b1,hN1,m1,f1⟩:=lM c s hs
 obtain ⟨N2,b2,hN2,m2,f2⟩:=lM (c / 256) s hs
 have iX:=Ff N1 N2 hN1 hN2 [b1] [b2] (by show 2 <= 1000;decide)
 obtain ⟨N,ps,hN,eN,fg⟩:∃ (N:Str) (ps:List (List Blk)),NS.contains N = true /\ aD N ps = (if c / 64 % 3 = 1 then aD "Sum" (vn ([b1] ++ [b2])) else aD N1 [b1]) /\ FG s ps:=by
  by_cases h3:c / 64 % 3 = 1
  ·exact ⟨"Sum",_,by decide,by rw [O7 h3],f1.sum hs f2⟩
  ·exact ⟨N1,_,hN1,by rw [O8 h3],f1.fg⟩
 obtain ⟨X,G,e0,L⟩:=Go hs fg N hN cp ap
 obtain ⟨n,hn,en,hne⟩:=L.num hs fg
 subst e0
 have kc:=BN hs fg L hn en hne
 have kj:=sZ hs L n en
 obtain ⟨X',G',e0',L'⟩:=Go (x0:=x0) hs fg N hN fH ⟨fun _ _ _ _ h=>(cI _ _ h).elim,0,0,fun _ _ h=>(cI _ _ h).elim⟩
 have kj0:fY [.lst [],aD N ps] = some (.tup []):=by
  have:=sZ hs L' 0 e0'
  rw [e0'] at this
  exact this
 -- the walk over the cores
 obtain ⟨ρ',k1,v9,rfl⟩:=cE (g:=ai 9) (m:=qv) (fun k:Nat=>au (e8 X G k)) (fun pre ρ=>∃ v9:Sl,ρ = [.sh (.scr (ns.map D.int)),.sh (.int s),.sh (au (X 0)),.sh (.int c),.sh (aD N ps),.sh (.lst (aG X G n)),.sh (.lst (aG X G n)),.sh (au (X 0)),.sh (au (X pre.length)),v9]) (List.range n) [.sh (.scr (ns.map D.int)),.sh (.int s),.sh (au (X 0)),.sh (.int c),.sh (aD N ps),.sh (.lst (aG X G n)),.sh (.lst (aG X G n)),.sh (au (X 0)),.sh (au (X 0)),.un] ⟨.un,rfl⟩ (by
  rintro pre k post _ e ⟨v9,rfl⟩
  obtain ⟨hk,hkn⟩:=uV e
  rw [<- hk]
  refine ⟨[.sh (.scr (ns.map D.int)),.sh (.int s),.sh (au (X 0)),.sh (.int c),.sh (aD N ps),.sh (.lst (aG X G n)),.sh (.lst (aG X G n)),.sh (au (X 0)),.sh (au (X k)),.sh (au (e8 X G k))],[.sh (.scr (ns.map D.int)),.sh (.int s),.sh (au (X 0)),.sh (.int c),.sh (aD N ps),.sh (.lst (aG X G n)),.sh (.lst (aG X G n)),.sh (au (X 0)),.sh (au (X (k + 1))),.sh (au (e8 X G k))],rfl,.inl ?_,_,by rw [Ph,PK,<- hk]⟩
  unfold qv
  rw [aI (gC (by
   unfold xOr
   rw [LQ (p:=X k) (hne k hkn) rfl rfl]
   dsimp only [Option.bind]
   unfold Cr wU
   rw [gU (ds:=[au (e8 X G k),au (X k)]) rfl (vD hs L k)]
   rfl))]
  exact gQ (qq L.hN (ps:=ps) (ds:=[au (X k)]) (by decide) rfl rfl (L.sm k)))
 rw [QA] at k1
 have okc:okD 50 (.lst (aG X G n)) = true:=mU (List.range n) fun k _=>MV _
 have dL:dEq true (.lst (aG X G n)) (.lst (aG X G n)) = some (.bl false):=wp true okc
 have dP:dEq true (au (X 0)) (au (X 0)) = some (.bl false):=wp true (yQ _)
 have d0:dEq false (D.tup []) (.tup []) = some (.bl true):=fI []
 have k1':jy (xIt (ar 5)) (ai 9) qv [.sh (.scr (ns.map D.int)),.sh (.int s),.sh (au (X 0)),.sh (.int c),.sh (aD N ps),.sh (.lst (aG X G n)),.sh (.lst (aG X G n)),.sh (au (X 0)),.sh (au (X 0)),.un] = some (.nx [.sh (.scr (ns.map D.int)),.sh (.int s),.sh (au (X 0)),.sh (.int c),.sh (aD N ps),.sh (.lst (aG X G n)),.sh (.lst (aG X G n)),.sh (au (X 0)),.sh (.tup []),v9]):=by
  rw [en] at k1
  exact k1
 have isi:∀ l:List D,tT [D.tup l,.ty "tuple"] = some (.bl true):=fun l=>by rfl
 have isl:∀ l:List D,tT [D.lst l,.ty "list"] = some (.bl true):=fun l=>by rfl
 have isP:tT [au (X 0),.ty "tuple"] = some (.bl true):=isi _
 clear k1 hne okc
 generalize hsc:D.scr (ns.map D.int) = sc at *
 have q1:=JR (i:=g) (j:=39373) (by lia)
 have ex:Bk [.sh sc,.un,.un,.un,.un,.un,.un,.un,.un,.un] = some (.rt (.bl true)):=by
  unfold Bk
  rw [aI (ρ':=[.sh sc,.sh (.int s),.un,.un,.un,.un,.un,.un,.un,.un]) (by simp [-Gf,p40,hf,es,l2])]
  rw [aI (ρ':=[.sh sc,.sh (.int s),.sh (au (X 0)),.un,.un,.un,.un,.un,.un,.un]) (gQ (gU (ds:=[sc,.int s]) rfl pp))]
  generalize hp0:au (X 0) = P0 at *
  rw [aI (ρ':=[.sh sc,.sh (.int s),.sh P0,.sh (.int (g * 39373 % 2147483629 / 37)),.un,.un,.un,.un,.un,.un]) (by simp [hg,q1])]
  rw [aI (ρ':=[.sh sc,.sh (.int s),.sh P0,.sh (.int c),.un,.un,.un,.un,.un,.un]) (by
   rw [<- hc]
   by_cases hz:f / 32 % 2 = 1
   ·simp [hf,hg,hz]
   ·simp [hf,hz])]
  rw [aI (ρ':=[.sh sc,.sh (.int s),.sh P0,.sh (.int c),.sh (aD N1 [b1]),.un,.un,.un,.un,.un]) (gQ (gU (ds:=[.int c,.int s]) rfl m1))]
  rw [aI (ρ':=[.sh sc,.sh (.int s),.sh P0,.sh (.int c),.sh (aD N ps),.un,.un,.un,.un,.un]) (by
   rw [eN]
   by_cases h3:c / 64 % 3 = 1
   ·rw [O7 h3]
    have hc3:xB (xOp (dEq false) (xOp gn (xOp ir (ag 3) (xC (.int 64))) (xC (.int 3))) (xC (.int 1))) [.sh sc,.sh (.int s),.sh P0,.sh (.int c),.sh (aD N1 [b1]),.un,.un,.un,.un,.un] = some true:=by simp [h3]
    unfold xIf
    rw [hc3]
    dsimp only [Option.bind]
    rw [O7 rfl]
    exact gQ (wv (kW (d:=aD N1 [b1]) rfl (kW (gU (ds:=[.int (c / 256),.int s]) (by simp) m2) rfl)) iX)
   ·rw [O8 h3]
    exact gC (by simp [h3]))]
  rw [aI (ρ':=[.sh sc,.sh (.int s),.sh P0,.sh (.int c),.sh (aD N ps),.sh (.lst (aG X G n)),.un,.un,.un,.un]) (gQ (gU (ds:=[P0,aD N ps,.int 17]) rfl kc))]
  rw [aI (ρ':=[.sh sc,.sh (.int s),.sh P0,.sh (.int c),.sh (aD N ps),.sh (.lst (aG X G n)),.sh (.lst (aG X G n)),.un,.un,.un]) (gQ rfl)]
  rw [aI (ρ':=[.sh sc,.sh (.int s),.sh P0,.sh (.int c),.sh (aD N ps),.sh (.lst (aG X G n)),.sh (.lst (aG X G n)),.sh P0,.un,.un]) (gQ (gU (ds:=[.lst (aG X G n),aD N ps]) rfl kj))]
  rw [aI (ρ':=[.sh sc,.sh (.int s),.sh P0,.sh (.int c),.sh (aD N ps),.sh (.lst (aG X G n)),.sh (.lst (aG X G n)),.sh P0,.un,.un]) (gC (by
   have i1:=isl (aG X G n)
   generalize aG X G n = cs at *
   generalize aD N ps = F at *
   simp [i1,isP,dP,dL]))]
  rw [aI (ρ':=[.sh sc,.sh (.int s),.sh P0,.sh (.int c),.sh (aD N ps),.sh (.lst (aG X G n)),.sh (.lst (aG X G n)),.sh P0,.sh P0,.un]) (gQ rfl)]
  rw [aI k1']
  generalize aG X G n = cs at *
  generalize aD N ps = F at *
  simp [d0,kj0]
 exact sY (n:=10) (ds:=[sc]) ex
end P
namespace L2
open PySem PySem.Spec PyProof.Rows M
section
variable {X:Cx} {a b e:Expr} {es:List Expr} {ta tb te:TE} {t:TA} {p pos pos':Pos} {x:Str}
theorem pgn (i:Nat) (hN:X.N.Nodup) (hi:X.N[i]? = some x:=by rfl) (hx:Loc X.env.scope x:=by exact .inl rfl) (hf:X.fn x = true \/ X.env.scope.names.lookup x = some .local:=by first | exact .inl rfl | exact .inr rfl | assumption):PG X (.Name x pos) (kt i):=qQ hN hi hx hf
theorem pgc {N:List Str} {scope:Scope} {z:CxZ} (i:Nat) (hN:N.Nodup:=by decide +kernel) (hi:(cxC X N scope z).N[i]? = some x:=by rfl) (hx:Loc (cxC X N scope z).env.scope x:=by exact .inl rfl) (hf:(cxC X N scope z).fn x = true \/ (cxC X N scope z).env.scope.names.lookup x = some .local:=by first | exact .inl rfl | exact .inr rfl | assumption):PG (cxC X N scope z) (.Name x pos) (kt i):=qQ hN hi hx hf
theorem pst (i:Nat) (hN:X.N.Nodup) (he:PE X e te) (hi:X.N[i]? = some x:=by rfl) (hx:Loc X.env.scope x:=by exact .inl rfl) (hs:swapsWith e (some (.Name x pos')) pos.line X.env = pure false:=by rfl) (hf:X.fn x = true \/ X.env.scope.names.lookup x = some .local:=by first | exact .inl rfl | exact .inr rfl | assumption) :
  PS X (.Assign [.Name x pos'] e pos) (A7 te (kt i)):=CO hN hi hx he hs hf
theorem pix (ha:PE X a ta) (hb:PE X b tb) (hs:Df b:=by exact fun _ _=>rfl):PE X (.Subscript a b pos) (tOp (rIx X.K) ta tb):=Ms Kw ha hb hs
theorem ptc {op:CmpOp} {r:R2} (ho:OpR X (compareOp op) r) (ha:PE X a ta) (hb:PE X b tb) (hm:behindInMarks op b = false:=by exact mQ _):PT X (.Compare a [op] [b] pos) (G7 (tOp r ta tb)):=ui ho ha hb hm
theorem pcl {n k:Nat} {ps:List Str} {sp:Sp} {f:Addr} {fd:FuncData} (F:FnOk X.prog X.w X.K X.mg X.base CX0 n f fd ps sp) (hr:Room k X.A) (hm:X.mg x = some (.ref f)) (hk:W.keepIn X.K (.ref f) = true) (hb:Binds X.K fd ps []) (ha:PA X (e :: es) t) (hn:n <= k:=by decide) (hg:Gl X x:=by rfl) (hdb:(x == ("__debug__" : Str)) = false:=by decide)
  (he:starEach (e :: es) X.env = (false,eval e X.env) :: starEach es X.env:=by rfl) (hpl:(backTo pos (starEach es X.env)).any (·.1) = false:=by rfl):PE X (.Call (.Name x p) (e :: es) [] pos) (tp sp [] E0 t):=yK F (hr.mono hn) hg hm hk hb .nil gk ha hdb he hpl
end
theorem Fun.okk {P:Program} {w:World} {K:W.Frag} {mg:Str -> Option Value} {base:Heap} {x qual:Str} {st:Stmt} {f:Addr} {fd:FuncData} {N ps:List Str} {k n j:Nat} {y:XS} {t:TS} (F:Fun K x qual st f fd) (hs:SS K t y) (hN:N.length = n) (hj:ps.length = j) (S:FnScope N ps (aJ st))
  (hb:N.Nodup -> ∀ (cdv:Value) (A:Around) (outer:List PySem.Env) (s:Shared) (H:Hp) (E:XK),Room k (A.deeper (envOfC qual (aJ st) s.heap.objs.size f cdv)) ->
   ∃ t',PSs (Cz CX0 P w K mg base N qual (aJ st) f cdv A outer s H E).nox (nU st) t' /\ t' = t):FnOk P w K mg base CX0 (k + 1) f fd ps (cn K j (fnO n y)):=by
 refine F.ok S (fun vs H Q E h=>h.1.trans hj.symm) fun cdv A outer s H vs Q E hr h=>?_
 obtain ⟨t',h1,rfl⟩:=hb S.nd cdv A outer s H E hr
 exact ⟨_,h1,M.L6 hs hN h⟩
end L2
namespace Lw
open PySem PySem.W L2 M P
set_option autoImplicit true
def top (i : Nat) : Stmt := PySem.Challenge.pw_shapethin_k66_whole_cores_make_the_pictu.main.body.getD i (.Pass ⟨0, 0, 0, 0⟩)
abbrev wj:Stmt:=top 6
abbrev oj:Stmt:=top 7
abbrev p0:Stmt:=top 8
abbrev vI:Stmt:=top 9
abbrev gt:Stmt:=top 10
abbrev mG:Stmt:=top 11
abbrev lr:Stmt:=top 12
abbrev iz:Stmt:=top 14
abbrev jh:Stmt:=top 15
abbrev AN:Stmt:=top 16
abbrev fZ:Stmt:=top 17
abbrev GB:Stmt:=top 18
abbrev vF:Stmt:=top 19
abbrev Ce:Stmt:=top 20
abbrev yE:Stmt:=top 21
abbrev qE:Stmt:=top 22
abbrev zW:Stmt:=top 23
abbrev m7:Stmt:=top 26
abbrev eM:Stmt:=top 27
abbrev oG:Stmt:=top 28
abbrev oV:Stmt:=top 29
abbrev fK:Stmt:=top 30
abbrev jJ:Stmt:=top 31
abbrev fD:Stmt:=top 32
abbrev jM:Stmt:=top 33
abbrev rB:Stmt:=top 34
abbrev l8:Stmt:=top 35
abbrev oP:Stmt:=top 42
abbrev mr:Stmt:=top 43
abbrev Dv:Stmt:=top 44
abbrev mY:Stmt:=top 45
abbrev wx:Stmt:=top 47
abbrev xq:Stmt:=top 48
abbrev Gw:Stmt:=top 49
abbrev vw:Stmt:=top 50
abbrev yr:Stmt:=top 51
abbrev IU:Stmt:=top 52
abbrev hG:Stmt:=lc (top 36) 0
abbrev nv:Stmt:=lc (top 36) 2
abbrev mM:Stmt:=lc (top 36) 3
abbrev iV:Stmt:=lc (top 37) 0
abbrev gD:Stmt:=lc (top 38) 0
abbrev gI:Stmt:=lc (top 39) 0
abbrev jx:Stmt:=lc (top 40) 0
structure Txt (K:Frag) (mg:Str -> Option Value):Prop where
 isinstance:mg "isinstance" = none
 len:mg "len" = none
 list:mg "list" = none
 max:mg "max" = none
 min:mg "min" = none
 range:mg "range" = none
 reversed:mg "reversed" = none
 sorted:mg "sorted" = none
 sum:mg "sum" = none
 tuple:mg "tuple" = none
 ONE_CELL:∃ (u:Value) (v:V),mg "ONE_CELL" = some u /\ RelV v u /\ ∀ S,Den K S (.tup [.tup [.int (0),.tup [.tup [.int (0),.int (0)]]]]) v
 cN:vE K NS fun C=>Cls K C /\ NoAttr K C "parts"
section
variable {P:Program} {w:World} {K:Frag} {mg:Str -> Option Value} {base:Heap}
local macro_rules | `(tactic| ac_rfl)=>`(tactic| exact ⟨rfl,rfl,rfl,by decide +kernel,rfl,by decide +kernel,by decide +kernel⟩)
theorem sC:FnScope ["self", "parts"] ["self", "parts"] (aJ hG):=⟨rfl,rfl,rfl,by decide +kernel,rfl,by decide +kernel,by decide +kernel⟩
theorem tZ:FnScope ["self", "left", "up", "right", "down"] ["self", "left", "up", "right", "down"] (aJ iV):=⟨rfl,rfl,rfl,by decide +kernel,rfl,by decide +kernel,by decide +kernel⟩
theorem pY:FnScope ["self", "arm"] ["self", "arm"] (aJ gD):=⟨rfl,rfl,rfl,by decide +kernel,rfl,by decide +kernel,by decide +kernel⟩
theorem ua:FnScope ["self", "one", "other"] ["self", "one", "other"] (aJ jx):=⟨rfl,rfl,rfl,by decide +kernel,rfl,by decide +kernel,by decide +kernel⟩
theorem qW:FnScope ["self", "picture"] ["self", "picture"] (aJ gI):=⟨rfl,rfl,rfl,by decide +kernel,rfl,by decide +kernel,by decide +kernel⟩
theorem rQ (F:Fun K "__init__" "Form.__init__" hG f fd) (T:Txt K mg):FnOk P w K mg base CX0 1 f fd ["self", "parts"] (kB K):=by
 refine F.ok sC (fun vs H Q E h=>h.1) (fun cdv A outer s H vs Q E hr h=>?_)
 exact ⟨_,ao (Kl (pv 0) (pv 1) rfl),F1 T.cN h⟩
abbrev qG:=Ab 1 "Form" ["self", "parts"] kB
theorem Ba (F:Fun K "_law_cell_at" "_law_cell_at" wx f fd) (T:Txt K mg):FnOk P w K mg base CX0 1 f fd ["_law_script", "_law_k"] (sW K):=F.okk (N:=["_law_script", "_law_k"]) (AA K).2 rfl rfl (by ac_rfl) fun nd _ _ _ _ _ _ hr=>⟨_,ak (cj (ptc nr (pv 1) (aV cD (by rfl) T.len g9 (ac (pv 0) af))) (ao (aM (pix (pv 0) (pv 1)))) bw) (ao (aM ah)),rfl⟩
abbrev o6:=Ak CX0 1 "_law_cell_at" ["_law_script", "_law_k"] sW
theorem Ia (F:Fun K "_law_row" "_law_row" Gw f fd) (T:Txt K mg):FnOk P w K mg base CX0 1 f fd ["_law_bits", "_law_x", "_law_size"] (Dz K):=F.okk (N:=["_law_bits", "_law_x", "_law_size", "_law_row_here", "_law_k"]) (Ij K).2 rfl rfl (by ac_rfl) fun nd _ _ _ _ _ _ hr=>⟨_,ak (pst 3 nd (fJ af)) (ak (gF PX rfl (sv (by rfl) T.range (ac ah af)) (pgn 4 nd) (ak (cj (PW.pt (xJ (ptc (bV hr.units) (aB dh (pv 0) ah) ah) (yO (ptc (bV hr.units) (aB dh (aB ci (pv 0) ah) ah) ah)))) (ao (cj (PW.pt (pB (ptc Db (aV cD (by rfl) T.len g9 (ac (pv 3) af)) ah) (kG (ptc (bV hr.units) (pix (pix (pv 3) (eB bR ah)) ah) (aB cY (pv 1) ah))))) (ao (Cl (aE (ac (pix (pix (pv 3) (eB bR ah)) ah) (ac (aB cY (aB a7 (pv 1) (pv 2)) ah) af))) (BO (pv 3) (eB bR ah) u9))) (ao (eo (oi Qu QN QO dZ (pv 3) (ac (aE (ac (pv 1) (ac (aB cY (aB a7 (pv 1) (pv 2)) ah) af))) af)))))) bw) (ak (pst 0 nd (aB ci (pv 0) ah)) (ao (pst 1 nd (aB a7 (pv 1) (pv 2))))))) (ao (aM (cF bu (by rfl) T.tuple dE (ac (pv 3) af))))),rfl⟩
abbrev FQ:=Ak CX0 1 "_law_row" ["_law_bits", "_law_x", "_law_size"] Dz
theorem C2 (F:Fun K "_law_signed" "_law_signed" xq f fd) (T:Txt K mg):FnOk P w K mg base CX0 1 f fd ["_law_cell", "_law_most"] (vq K):=F.okk (N:=["_law_cell", "_law_most"]) (CH K).2 rfl rfl (by ac_rfl) fun nd _ _ _ _ _ _ hr=>⟨_,ak (cj (ptc nr (pv 0) ah) (ao (aM (aB cY ah (aB dh (aB cY ah (pv 0)) (pv 1))))) bw) (ao (aM (aB dh (pv 0) (pv 1)))),rfl⟩
abbrev xu:=Ak CX0 1 "_law_signed" ["_law_cell", "_law_most"] vq
theorem ER (F:Fun K "box_of" "box_of" qE f fd) (T:Txt K mg):FnOk P w K mg base CX0 1 f fd ["picture"] (ym K):=F.okk (N:=["picture", "left", "right"]) (EE K).2 rfl rfl (by ac_rfl) fun nd _ _ _ _ _ _ hr=>⟨_,ak (cj (ptc (bV hr.units) (pv 0) (aE af)) (ao (aM (Jo))) bw) (ak (pst 1 nd (aV (BX rfl) (by rfl) T.min pe (ac (bL (show CmpOk ["picture", "left", "right"] (aJ qE) _ ["y", "row"] [none,none] from eY) (bD (pv 0)) (fun _=>cu rfl (aC (pgc 0) (aC (pgc 1) bH))) (d9 (aF aK (aF aK b9 aA) aA)) (fun _=>b8) (fun _=>pix (pix (pv 1) ah) ah)) af))) (ak (pst 2 nd (aV (Cq rfl) (by rfl) T.max zm (ac (bL (show CmpOk ["picture", "left", "right"] (aJ qE) _ ["y", "row"] [none,none] from eY) (bD (pv 0)) (fun _=>cu rfl (aC (pgc 0) (aC (pgc 1) bH))) (d9 (aF aK (aF aK b9 aA) aA)) (fun _=>b8) (fun _=>pix (pix (pv 1) (eB bR ah)) ah)) af))) (ao (aM (aE (ac (pv 1) (ac (pix (pix (pv 0) ah) ah) (ac (pv 2) (ac (pix (pix (pv 0) (eB bR ah)) ah) af))))))))),rfl⟩
abbrev AQ:=Ak CX0 1 "box_of" ["picture"] ym
theorem vQ (F:Fun K "count_up_to" "count_up_to" oj f fd) (T:Txt K mg):FnOk P w K mg base CX0 1 f fd ["pairs", "number"] (m8 K):=F.okk (N:=["pairs", "number", "low", "high", "middle"]) (wm K).2 rfl rfl (by ac_rfl) fun nd _ _ _ _ _ _ hr=>⟨_,ak (pst 2 nd ah) (ak (pst 3 nd (aV cD (by rfl) T.len g9 (ac (pv 0) af))) (ak (ny PX (ptc nr (pv 2) (pv 3)) (ak (pst 4 nd (aB ci (aB a7 (pv 2) (pv 3)) ah)) (ao (cj (ptc A2 (pix (pix (pv 0) (pv 4)) ah) (pv 1)) (ao (pst 2 nd (aB a7 (pv 4) ah))) (ao (pst 3 nd (pv 4))))))) (ao (aM (pv 2))))),rfl⟩
abbrev jT:=Ak CX0 1 "count_up_to" ["pairs", "number"] m8
theorem tO (F:Fun K "parts_of_sum" "parts_of_sum" eM f fd) (T:Txt K mg):FnOk P w K mg base CX0 1 f fd ["parts"] (lL K):=F.okk (N:=["parts", "single", "together"]) (tL K).2 rfl rfl (by ac_rfl) fun nd _ _ _ _ _ _ hr=>⟨_,ak (CO (i:=1) nd rfl (.inr rfl) (bL (show CmpOk ["parts", "single", "together"] (aJ eM) _ ["blocks"] [none] from eY) (bD (pv 0)) (fun _=>pgc 0) aK (fun _=>qA (ptc (bV hr.units) (aV cD (by rfl) T.len g9 (ac (pv 0) af)) ah)) (fun _=>pix (pv 0) ah))) (ak (pst 2 nd (cF bu (by rfl) T.tuple dE (ac (FK (show CmpOkC ["parts", "single", "together"] (aJ eM) _ ["side", "single"] [none,some 1] "side" from JY) (sv (by rfl) T.range (ac ah af)) (fun _=>qQ (i:=0) (show List.Nodup (["side", "single"]:List Str) from by decide +kernel) rfl (.inr rfl)) aK (fun _=>b8) (fun _=>aV (Ep rfl) (by rfl) T.sum K2 (ac (bL (show CmpOk ["side", "single"] ({ kind:=.function,names:=[(".0",.local),("side",.cell),("sum",.globalImplicit),("single",.cell)],isGenerator:=false,isCoroutine:=false }:Scope) _ ["block", "side"] [none,some 0] from eY) (bD (pv 1)) (fun _=>pgc 0) aK (fun _=>b8) (fun _=>pix (pv 0) (pv 1))) af))) af))) (ao (aM (aB a7 (aE (ac (aE (ac (pv 2) af)) af)) (cF bu (by rfl) T.tuple dE (ac (bL (show CmpOk ["parts", "single", "together"] (aJ eM) _ ["blocks"] [none] from eY) (bD (pv 0)) (fun _=>pgc 0) aK (fun _=>qA (ptc Db (aV cD (by rfl) T.len g9 (ac (pv 0) af)) ah)) (fun _=>pv 0)) af)))))),rfl⟩
abbrev mJ:=Ak CX0 1 "parts_of_sum" ["parts"] lL
theorem xk (F:Fun K "row_common" "row_common" p0 f fd) (T:Txt K mg):FnOk P w K mg base CX0 1 f fd ["one", "other"] (oA K):=F.okk (N:=["one", "other", "shared", "here", "there", "a", "b"]) (xo K).2 rfl rfl (by ac_rfl) fun nd _ _ _ _ _ _ hr=>⟨_,ak (pst 2 nd (fJ af)) (ak (pst 3 nd ah) (ak (pst 4 nd ah) (ak (ny PX (PW.pt (pB (ptc nr (pv 3) (aV cD (by rfl) T.len g9 (ac (pv 0) af))) (kG (ptc nr (pv 4) (aV cD (by rfl) T.len g9 (ac (pv 1) af)))))) (ak (pst 5 nd (aV (rG rfl) (by rfl) T.max zm (ac (pix (pix (pv 0) (pv 3)) ah) (ac (pix (pix (pv 1) (pv 4)) ah) af)))) (ak (pst 6 nd (aV (ko rfl) (by rfl) T.min pe (ac (pix (pix (pv 0) (pv 3)) ah) (ac (pix (pix (pv 1) (pv 4)) ah) af)))) (ak (cj (ptc A2 (pv 5) (pv 6)) (ao (eo (oi Qu QN QO dZ (pv 2) (ac (aE (ac (pv 5) (ac (pv 6) af))) af)))) bw) (ao (cj (ptc nr (pix (pix (pv 0) (pv 3)) ah) (pix (pix (pv 1) (pv 4)) ah)) (ao (zS (i:=3) nd rfl (.inl rfl) ah zu)) (ao (zS (i:=4) nd rfl (.inl rfl) ah zu)))))))) (ao (aM (cF bu (by rfl) T.tuple dE (ac (pv 2) af))))))),rfl⟩
abbrev ll:=Ak CX0 1 "row_common" ["one", "other"] oA
theorem zM (F:Fun K "row_moved" "row_moved" mG f fd) (T:Txt K mg):FnOk P w K mg base CX0 1 f fd ["row", "by"] (qY K):=F.okk (N:=["row", "by"]) (y6 K).2 rfl rfl (by ac_rfl) fun nd _ _ _ _ _ _ hr=>⟨_,ao (aM (cF bu (by rfl) T.tuple dE (ac (bL (show CmpOk ["row", "by"] (aJ mG) _ ["a", "b", "by"] [none,none,some 1] from eY) (bD (pv 0)) (fun _=>cu rfl (aC (pgc 0) (aC (pgc 1) bH))) (d9 (aF aK (aF aK b9 aA) aA)) (fun _=>b8) (fun _=>aE (ac (aB a7 (pv 0) (pv 2)) (ac (aB a7 (pv 1) (pv 2)) af)))) af))),rfl⟩
abbrev tf:=Ak CX0 1 "row_moved" ["row", "by"] qY
theorem E2 (F:Fun K "row_of" "row_of" wj f fd) (T:Txt K mg):FnOk P w K mg base CX0 1 f fd ["pairs"] (yi K):=F.okk (N:=["pairs", "stretches", "a", "b"]) (Et K).2 rfl rfl (by ac_rfl) fun nd _ _ _ _ _ _ hr=>⟨_,ak (pst 1 nd (fJ af)) (ak (gF PX rfl (bD (aV ip (by rfl) T.sorted nV (ac (bL (show CmpOk ["pairs", "stretches", "a", "b"] (aJ wj) _ ["a", "b"] [none,none] from eY) (bD (pv 0)) (fun _=>cu rfl (aC (pgc 0) (aC (pgc 1) bH))) (d9 (aF aK (aF aK b9 aA) aA)) (fun _=>qA (ptc A2 (pv 0) (pv 1))) (fun _=>aE (ac (pv 0) (ac (pv 1) af)))) af))) (cu rfl (aC (pgn 2 nd) (aC (pgn 3 nd) bH))) (ao (cj (PW.pt (pB (iW (pv 1) (fun _=>rfl)) (kG (ptc A2 (pv 2) (aB a7 (pix (pix (pv 1) (eB bR ah)) ah) ah))))) (ao (Cl (aE (ac (pix (pix (pv 1) (eB bR ah)) ah) (ac (aV (rG rfl) (by rfl) T.max zm (ac (pix (pix (pv 1) (eB bR ah)) ah) (ac (pv 3) af))) af))) (BO (pv 1) (eB bR ah) u9))) (ao (eo (oi Qu QN QO dZ (pv 1) (ac (aE (ac (pv 2) (ac (pv 3) af))) af))))))) (ao (aM (cF bu (by rfl) T.tuple dE (ac (pv 1) af))))),rfl⟩
abbrev qf:=Ak CX0 1 "row_of" ["pairs"] yi
theorem pR (F:Fun K "rows_with_cells" "rows_with_cells" fZ f fd) (T:Txt K mg):FnOk P w K mg base CX0 1 f fd ["rows"] (iU K):=F.okk (N:=["rows"]) (pH K).2 rfl rfl (by ac_rfl) fun nd _ _ _ _ _ _ hr=>⟨_,ao (aM (cF bu (by rfl) T.tuple dE (ac (bL (show CmpOk ["rows"] (aJ fZ) _ ["y", "row"] [none,none] from eY) (bD (pv 0)) (fun _=>cu rfl (aC (pgc 0) (aC (pgc 1) bH))) (d9 (aF aK (aF aK b9 aA) aA)) (fun _=>qA (ptc (pG hr.units) (pv 1) (aE af))) (fun _=>aE (ac (pv 0) (ac (pv 1) af)))) af))),rfl⟩
abbrev cM:=Ak CX0 1 "rows_with_cells" ["rows"] iU
theorem ue (F:Fun K "stretches_of" "stretches_of" jh f fd) (T:Txt K mg):FnOk P w K mg base CX0 1 f fd ["picture"] (lG K):=F.okk (N:=["picture", "stretches", "y", "row"]) (tW K).2 rfl rfl (by ac_rfl) fun nd _ _ _ _ _ _ hr=>⟨_,ak (pst 1 nd (fJ af)) (ak (gF PX rfl (bD (pv 0)) (cu rfl (aC (qQ (i:=2) nd rfl (.inr rfl)) (aC (pgn 3 nd) bH))) (ao (eo (oi Qu PySem.F.slot_list_extend PySem.F.type_list_extend Du (pv 1) (ac (bL (show CmpOk ["picture", "stretches", "y", "row"] (aJ jh) _ ["a", "b", "y"] [none,none,some 2] from eY) (bD (pv 3)) (fun _=>cu rfl (aC (pgc 0) (aC (pgc 1) bH))) (d9 (aF aK (aF aK b9 aA) aA)) (fun _=>b8) (fun _=>aE (ac (pv 2) (ac (pv 0) (ac (pv 1) af))))) af))))) (ao (aM (pv 1)))),rfl⟩
abbrev gu:=Ak CX0 1 "stretches_of" ["picture"] lG
theorem tS (F:Fun K "__init__" "Box.__init__" iV f fd) (T:Txt K mg) (AB_Form:qG P w K mg base c_Form f_Form___init__ df):FnOk P w K mg base CX0 2 f fd ["self", "left", "up", "right", "down"] (lW K):=by
 refine F.ok tZ (fun vs H Q E h=>h.1) (fun cdv A outer s H vs Q E hr h=>?_)
 exact ⟨_,ak (cj (ui nr (aV (Ek rfl) (by rfl) T.min pe (ac (pv 1) (ac (pv 2) (ac (pv 3) (ac (pv 4) af))))) ah (mQ _)) sw bw) (ao (eo (kO AB_Form.cf (by rfl) AB_Form.g AB_Form.G (hr.mono (by decide)) AB_Form.b gk (ac (pv 0) (ac (aE (ac (aE (ac (aE (ac (eB bR (pv 1)) (ac (eB bR (pv 2)) (ac (pv 3) (ac (pv 4) af))))) af)) af)) af))))),uO (zQ (SE.p (GK JV ((L8 JB (pZ (iJ 1) (pZ (iJ 2) (pZ (iJ 3) (pZ (iJ 4) FN))))).p) ((s_c rfl).p)))) (oS (bK (oS (bK (oS (bK (FY Bv (iJ 1)) (bK (FY Bv (iJ 2)) (bK (s9 3) (bK (s9 4) hJ))))) hJ)) hJ)) rfl h⟩
abbrev Je:=Ac CX0 2 "Box" ["self", "left", "up", "right", "down"] lW
theorem qV (F:Fun K "__init__" "Cross.__init__" gD f fd) (T:Txt K mg) (AB_Form:qG P w K mg base c_Form f_Form___init__ df):FnOk P w K mg base CX0 2 f fd ["self", "arm"] (jH K):=by
 refine F.ok pY (fun vs H Q E h=>h.1) (fun cdv A outer s H vs Q E hr h=>?_)
 exact ⟨_,ak (cj (ui nr (pv 1) ah (mQ _)) sw bw) (ao (eo (kO AB_Form.cf (by rfl) AB_Form.g AB_Form.G (hr.mono (by decide)) AB_Form.b gk (ac (pv 0) (ac (aE (ac (aE (ac (aE (ac (eB bR (pv 1)) (ac ah (ac (pv 1) (ac ah af))))) (ac (aE (ac ah (ac (eB bR (pv 1)) (ac ah (ac (pv 1) af))))) af))) af)) af))))),uO (zQ (SE.p (GK JV (iJ 1) ((s_c rfl).p)))) (oS (bK (oS (bK (oS (bK (FY Bv (iJ 1)) (bK (s_c rfl) (bK (s9 1) (bK (s_c rfl) hJ))))) (bK (oS (bK (s_c rfl) (bK (FY Bv (iJ 1)) (bK (s_c rfl) (bK (s9 1) hJ))))) hJ))) hJ)) rfl h⟩
abbrev DT:=Ac CX0 2 "Cross" ["self", "arm"] jH
theorem tQ (F:Fun K "__init__" "Sum.__init__" jx f fd) (T:Txt K mg) (c8:mJ P w K mg base nu lZ) (AB_Form:qG P w K mg base c_Form f_Form___init__ df):FnOk P w K mg base CX0 2 f fd ["self", "one", "other"] (ma K):=by
 refine F.ok ua (fun vs H Q E h=>h.1) (fun cdv A outer s H vs Q E hr h=>?_)
 exact ⟨_,ao (eo (kO AB_Form.cf (by rfl) AB_Form.g AB_Form.G (hr.mono (by decide)) AB_Form.b gk (ac (pv 0) (ac (yK c8.G (hr.mono (by decide)) (by rfl) c8.m c8.k c8.b .nil gk (ac (aB a7 (uv T.cN (pv 1) rfl) (uv T.cN (pv 2) rfl)) af)) af)))),EV (CF (E:=E0) (bK (GK Jl ((F3 (s9 1)).p) ((F3 (s9 2)).p)) hJ) (wt (fun _ _ h=>zn h))) rfl h⟩
abbrev II:=Ac CX0 2 "Sum" ["self", "one", "other"] ma
theorem AI (F:Fun K "_law_picture" "_law_picture" vw f fd) (T:Txt K mg) (aQ:o6 P w K mg base pV ni) (d8:xu P w K mg base xY vL) (sk:FQ P w K mg base FH DL):FnOk P w K mg base CX0 2 f fd ["_law_script", "_law_size"] (tu K):=F.okk (N:=["_law_script", "_law_size", "_law_first", "_law_x", "_law_y", "_law_rows", "_law_k", "_law_bits", "_law_j", "_law_row_here"]) (Bc K).2 rfl rfl (by ac_rfl) fun nd _ _ _ _ _ _ hr=>⟨_,ak (pst 2 nd (pcl aQ.G hr aQ.m aQ.k aQ.b (ac (pv 0) (ac ah af)))) (ak (pst 3 nd (pcl d8.G hr d8.m d8.k d8.b (ac (aB ci (pv 2) ah) (ac (pix (fJ (ac ah (ac (aB BS ah ah) af))) (aB dh (aB ci (pv 2) ah) ah)) af)))) (ak (pst 4 nd (pcl d8.G hr d8.m d8.k d8.b (ac (aB ci (pv 2) ah) (ac (pix (fJ (ac ah (ac (aB BS ah ah) af))) (aB dh (aB ci (pv 2) ah) ah)) af)))) (ak (pst 5 nd (fJ af)) (ak (gF PX rfl (sv (by rfl) T.range (ac (aV (ko rfl) (by rfl) T.min pe (ac ah (ac (aB cY (aV cD (by rfl) T.len g9 (ac (pv 0) af)) ah) af))) af)) (pgn 6 nd) (ak (pst 7 nd (aB ci (aB dh (aB pJ (pix (pv 0) (aB a7 ah (pv 6))) ah) ah) ah)) (ak (gF PX rfl (Ez (by rfl) T.range (ac (aB a7 ah (pv 6)) (ac (aV (ko rfl) (by rfl) T.min pe (ac (aV cD (by rfl) T.len g9 (ac (pv 0) af)) (ac ah af))) (ac ah af)))) (pgn 8 nd) (ao (pst 7 nd (aB a7 (pv 7) (aB dh (aB pJ ah (pix (pv 0) (pv 8))) ah))))) (ak (cj (ptc (bV hr.units) (aB dh (aB ci (pv 2) ah) ah) ah) (ao (pst 7 nd (aB dh (pix (pv 0) (aB a7 ah (pv 6))) ah))) bw) (ak (pst 9 nd (pcl sk.G hr sk.m sk.k sk.b (ac (pv 7) (ac (pv 3) (ac (pv 1) af))))) (ao (cj (ptc Db (aV cD (by rfl) T.len g9 (ac (pv 9) af)) ah) (ao (eo (oi Qu QN QO dZ (pv 5) (ac (aE (ac (aB a7 (pv 4) (pv 6)) (ac (pv 9) af))) af)))) bw))))))) (ao (aM (cF bu (by rfl) T.tuple dE (ac (pv 5) af)))))))),rfl⟩
abbrev vV:=Ak CX0 2 "_law_picture" ["_law_script", "_law_size"] tu
theorem r8 (F:Fun K "begun_between" "begun_between" l8 f fd) (T:Txt K mg) (aU:jT P w K mg base jS je):FnOk P w K mg base CX0 2 f fd ["pairs", "first", "last"] (kx K):=F.okk (N:=["pairs", "first", "last"]) (sD K).2 rfl rfl (by ac_rfl) fun nd _ _ _ _ _ _ hr=>⟨_,ao (aM (wf KQ (pv 0) (ux (aV (rG rfl) (by rfl) T.max zm (ac ah (ac (aB cY (pcl aU.G hr aU.m aU.k aU.b (ac (pv 0) (ac (pv 1) af))) ah) af)))) (ux (pcl aU.G hr aU.m aU.k aU.b (ac (pv 0) (ac (pv 2) af)))))),rfl⟩
abbrev l7:=Ak CX0 2 "begun_between" ["pairs", "first", "last"] kx
theorem zq (F:Fun K "blocks_of" "blocks_of" m7 f fd) (T:Txt K mg) (az:gu P w K mg base gc fy):FnOk P w K mg base CX0 2 f fd ["picture"] (qI K):=F.okk (N:=["picture", "blocks", "a", "b", "y"]) (zh K).2 rfl rfl (by ac_rfl) fun nd _ _ _ _ _ _ hr=>⟨_,ak (pst 1 nd (fJ af)) (ak (gF PX rfl (bD (aV ip (by rfl) T.sorted nV (ac (bL (show CmpOk ["picture", "blocks", "a", "b", "y"] (aJ m7) _ ["y", "a", "b"] [none,none,none] from eY) (bD (pcl az.G hr az.m az.k az.b (ac (pv 0) af))) (fun _=>cu rfl (aC (pgc 0) (aC (pgc 1) (aC (pgc 2) bH)))) (d9 (aF aK (aF aK (aF aK b9 aA) aA) aA)) (fun _=>b8) (fun _=>aE (ac (pv 1) (ac (pv 2) (ac (pv 0) af))))) af))) (cu rfl (aC (pgn 2 nd) (aC (pgn 3 nd) (aC (pgn 4 nd) bH)))) (ao (cj (PW.pt (pB (iW (pv 1) (fun _=>rfl)) (kG (ptc (bV hr.units) (pix (pv 1) (eB bR ah)) (aE (ac (pv 2) (ac (pix (pix (pv 1) (eB bR ah)) ah) (ac (pv 3) (ac (aB cY (pv 4) ah) af))))))))) (ao (Cl (aE (ac (pv 2) (ac (pix (pix (pv 1) (eB bR ah)) ah) (ac (pv 3) (ac (pv 4) af))))) (BO (pv 1) (eB bR ah) u9))) (ao (eo (oi Qu QN QO dZ (pv 1) (ac (aE (ac (pv 2) (ac (pv 4) (ac (pv 3) (ac (pv 4) af))))) af))))))) (ao (aM (cF bu (by rfl) T.tuple dE (ac (pv 1) af))))),rfl⟩
abbrev sQ:=Ak CX0 2 "blocks_of" ["picture"] qI
theorem GM (F:Fun K "moved" "moved" zW f fd) (T:Txt K mg) (fS:tf P w K mg base tj qy):FnOk P w K mg base CX0 2 f fd ["picture", "dx", "dy"] (A6 K):=F.okk (N:=["picture", "dx", "dy"]) (GF K).2 rfl rfl (by ac_rfl) fun nd _ _ _ _ _ _ hr=>⟨_,ao (aM (cF bu (by rfl) T.tuple dE (ac (bL (show CmpOk ["picture", "dx", "dy"] (aJ zW) _ ["y", "row", "dy", "dx"] [none,none,some 2,some 1] from eY) (bD (pv 0)) (fun _=>cu rfl (aC (pgc 0) (aC (pgc 1) bH))) (d9 (aF aK (aF aK b9 aA) aA)) (fun _=>b8) (fun _=>aE (ac (aB a7 (pv 0) (pv 2)) (ac (pcl fS.G hr fS.m fS.k fS.b (ac (pv 1) (ac (pv 3) af))) af)))) af))),rfl⟩
abbrev y9:=Ak CX0 2 "moved" ["picture", "dx", "dy"] A6
theorem xf (F:Fun K "picture_of" "picture_of" iz f fd) (T:Txt K mg) (bI:qf P w K mg base re nJ):FnOk P w K mg base CX0 2 f fd ["stretches"] (oH K):=F.okk (N:=["stretches", "pairs_by_row", "y", "a", "b"]) (wR K).2 rfl rfl (by ac_rfl) fun nd _ _ _ _ _ _ hr=>⟨_,ak (pst 1 nd (fJ af)) (ak (gF PX rfl (bD (aV ip (by rfl) T.sorted nV (ac (bL (show CmpOk ["stretches", "pairs_by_row", "y", "a", "b"] (aJ iz) _ ["y", "a", "b"] [none,none,none] from eY) (bD (pv 0)) (fun _=>cu rfl (aC (pgc 0) (aC (pgc 1) (aC (pgc 2) bH)))) (d9 (aF aK (aF aK (aF aK b9 aA) aA) aA)) (fun _=>qA (ptc A2 (pv 1) (pv 2))) (fun _=>aE (ac (pv 0) (ac (pv 1) (ac (pv 2) af))))) af))) (cu rfl (aC (pgn 2 nd) (aC (pgn 3 nd) (aC (pgn 4 nd) bH)))) (ak (cj (PW.pt (xJ (yW (iW (pv 1) (fun _=>rfl))) (yO (ptc (pG hr.units) (pix (pix (pv 1) (eB bR ah)) ah) (pv 2))))) (ao (eo (oi Qu QN QO dZ (pv 1) (ac (aE (ac (pv 2) (ac (fJ af) af))) af)))) bw) (ao (eo (oi Qu QN QO dZ (pix (pix (pv 1) (eB bR ah)) ah) (ac (aE (ac (pv 3) (ac (pv 4) af))) af)))))) (ao (aM (cF bu (by rfl) T.tuple dE (ac (bL (show CmpOk ["stretches", "pairs_by_row", "y", "a", "b"] (aJ iz) _ ["y", "pairs"] [none,none] from eY) (bD (pv 1)) (fun _=>cu rfl (aC (pgc 0) (aC (pgc 1) bH))) (d9 (aF aK (aF aK b9 aA) aA)) (fun _=>b8) (fun _=>aE (ac (pv 0) (ac (pcl bI.G hr bI.m bI.k bI.b (ac (pv 1) af)) af)))) af))))),rfl⟩
abbrev iB:=Ak CX0 2 "picture_of" ["stretches"] oH
theorem E1 (F:Fun K "row_at" "row_at" AN f fd) (T:Txt K mg) (aU:jT P w K mg base jS je):FnOk P w K mg base CX0 2 f fd ["picture", "y"] (yI K):=F.okk (N:=["picture", "y", "begun"]) (Eo K).2 rfl rfl (by ac_rfl) fun nd _ _ _ _ _ _ hr=>⟨_,ak (pst 2 nd (pcl aU.G hr aU.m aU.k aU.b (ac (pv 0) (ac (pv 1) af)))) (ak (cj (PW.pt (pB (ptc Db (pv 2) ah) (kG (ptc (bV hr.units) (pix (pix (pv 0) (aB cY (pv 2) ah)) ah) (pv 1))))) (ao (aM (pix (pix (pv 0) (aB cY (pv 2) ah)) ah))) bw) (ao (aM (aE af)))),rfl⟩
abbrev vP:=Ak CX0 2 "row_at" ["picture", "y"] yI
theorem xi (F:Fun K "row_either" "row_either" gt f fd) (T:Txt K mg) (bI:qf P w K mg base re nJ):FnOk P w K mg base CX0 2 f fd ["one", "other"] (oB K):=F.okk (N:=["one", "other", "stretches", "changes"]) (wO K).2 rfl rfl (by ac_rfl) fun nd _ _ _ _ _ _ hr=>⟨_,ak (pst 2 nd (aB a7 (pv 0) (pv 1))) (ak (CO (i:=3) nd rfl (.inr rfl) (aV ip (by rfl) T.sorted nV (ac (aB a7 (bL (show CmpOk ["one", "other", "stretches", "changes"] (aJ gt) _ ["a", "b"] [none,none] from eY) (bD (pv 2)) (fun _=>cu rfl (aC (pgc 0) (aC (pgc 1) bH))) (d9 (aF aK (aF aK b9 aA) aA)) (fun _=>b8) (fun _=>pv 0)) (bL (show CmpOk ["one", "other", "stretches", "changes"] (aJ gt) _ ["a", "b"] [none,none] from eY) (bD (pv 2)) (fun _=>cu rfl (aC (pgc 0) (aC (pgc 1) bH))) (d9 (aF aK (aF aK b9 aA) aA)) (fun _=>b8) (fun _=>aB a7 (pv 1) ah))) af))) (ao (aM (pcl bI.G hr bI.m bI.k bI.b (ac (bL (show CmpOk ["one", "other", "stretches", "changes"] (aJ gt) _ ["k", "changes"] [none,some 3] from eY) (Ee (by rfl) T.range (ac ah (ac (aV cD (by rfl) T.len g9 (ac (pv 3) af)) (ac ah af)))) (fun _=>pgc 0) aK (fun _=>b8) (fun _=>aE (ac (pix (pv 1) (pv 0)) (ac (aB cY (pix (pv 1) (aB a7 (pv 0) ah)) ah) af)))) af))))),rfl⟩
abbrev qT:=Ak CX0 2 "row_either" ["one", "other"] oB
theorem wW (F:Fun K "row_shrunk" "row_shrunk" lr f fd) (T:Txt K mg) (bI:qf P w K mg base re nJ):FnOk P w K mg base CX0 2 f fd ["row", "low", "high"] (oq K):=F.okk (N:=["row", "low", "high"]) (xg K).2 rfl rfl (by ac_rfl) fun nd _ _ _ _ _ _ hr=>⟨_,ao (aM (pcl bI.G hr bI.m bI.k bI.b (ac (bL (show CmpOk ["row", "low", "high"] (aJ lr) _ ["a", "b", "low", "high"] [none,none,some 1,some 2] from eY) (bD (pv 0)) (fun _=>cu rfl (aC (pgc 0) (aC (pgc 1) bH))) (d9 (aF aK (aF aK b9 aA) aA)) (fun _=>b8) (fun _=>aE (ac (aB cY (pv 0) (pv 2)) (ac (aB cY (pv 1) (pv 3)) af)))) af))),rfl⟩
abbrev rm:=Ak CX0 2 "row_shrunk" ["row", "low", "high"] oq
theorem qL (F:Fun K "__init__" "Shape.__init__" gI f fd) (T:Txt K mg) (fP:sQ P w K mg base tH qP) (AB_Form:qG P w K mg base c_Form f_Form___init__ df):FnOk P w K mg base CX0 3 f fd ["self", "picture"] (jD K):=by
 refine F.ok qW (fun vs H Q E h=>h.1) (fun cdv A outer s H vs Q E hr h=>?_)
 exact ⟨_,ak (cj (ui (bV hr.units) (pv 1) (aE af) (mQ _)) sw bw) (ao (eo (kO AB_Form.cf (by rfl) AB_Form.g AB_Form.G (hr.mono (by decide)) AB_Form.b gk (ac (pv 0) (ac (aE (ac (yK fP.G (hr.mono (by decide)) (by rfl) fP.m fP.k fP.b .nil gk (ac (pv 1) af)) af)) af))))),uO (zQ (SE.p (GK (LN false) (iJ 1) ((oS hJ).p)))) (oS (bK (CF (E:=E0) (bK (s9 1) hJ) (wt (fun _ _ h=>zn h))) hJ)) rfl h⟩
abbrev DG:=Ac CX0 3 "Shape" ["self", "picture"] jD
theorem EI (F:Fun K "common" "common" vF f fd) (T:Txt K mg) (aw:cM P w K mg base cK bX) (bx:ll P w K mg base kM jX) (dM:vP P w K mg base u4 rE):FnOk P w K mg base CX0 3 f fd ["one", "other"] (yc K):=F.okk (N:=["one", "other"]) (D2 K).2 rfl rfl (by ac_rfl) fun nd _ _ _ _ _ _ hr=>⟨_,ao (aM (pcl aw.G hr aw.m aw.k aw.b (ac (bL (show CmpOk ["one", "other"] (aJ vF) _ ["y", "row", "other"] [none,none,some 1] from eY) (bD (pv 0)) (fun _=>cu rfl (aC (pgc 0) (aC (pgc 1) bH))) (d9 (aF aK (aF aK b9 aA) aA)) (fun _=>b8) (fun _=>aE (ac (pv 0) (ac (pcl bx.G hr bx.m bx.k bx.b (ac (pv 1) (ac (pcl dM.G hr dM.m dM.k dM.b (ac (pv 2) (ac (pv 0) af))) af))) af)))) af))),rfl⟩
abbrev vt:=Ak CX0 3 "common" ["one", "other"] yc
theorem Iy (F:Fun K "join" "join" GB f fd) (T:Txt K mg) (aS:iB P w K mg base iC gW) (az:gu P w K mg base gc fy):FnOk P w K mg base CX0 3 f fd ["one", "other"] (DH K):=F.okk (N:=["one", "other"]) (Hs K).2 rfl rfl (by ac_rfl) fun nd _ _ _ _ _ _ hr=>⟨_,ao (aM (pcl aS.G hr aS.m aS.k aS.b (ac (aB a7 (pcl az.G hr az.m az.k az.b (ac (pv 0) af)) (pcl az.G hr az.m az.k az.b (ac (pv 1) af))) af))),rfl⟩
abbrev B9:=Ak CX0 3 "join" ["one", "other"] DH
theorem CB (F:Fun K "reached" "reached" rB f fd) (T:Txt K mg) (bm:l7 P w K mg base me km) (aw:cM P w K mg base cK bX):FnOk P w K mg base CX0 3 f fd ["picture", "box", "block"] (vT K):=F.okk (N:=["picture", "box", "block", "rows"]) (CQ K).2 rfl rfl (by ac_rfl) fun nd _ _ _ _ _ _ hr=>⟨_,ak (pst 3 nd (pcl bm.G hr bm.m bm.k bm.b (ac (pv 0) (ac (aB a7 (pix (pv 1) ah) (pix (pv 2) ah)) (ac (aB a7 (pix (pv 1) ah) (pix (pv 2) ah)) af))))) (ao (aM (pcl aw.G hr aw.m aw.k aw.b (ac (bL (show CmpOk ["picture", "box", "block", "rows"] (aJ rB) _ ["y", "row", "box", "block"] [none,none,some 1,some 2] from eY) (bD (pv 3)) (fun _=>cu rfl (aC (pgc 0) (aC (pgc 1) bH))) (d9 (aF aK (aF aK b9 aA) aA)) (fun _=>b8) (fun _=>aE (ac (pv 0) (ac (pcl bm.G hr bm.m bm.k bm.b (ac (pv 1) (ac (aB a7 (pix (pv 2) ah) (pix (pv 3) ah)) (ac (aB a7 (pix (pv 2) ah) (pix (pv 3) ah)) af)))) af)))) af)))),rfl⟩
abbrev yd:=Ak CX0 3 "reached" ["picture", "box", "block"] vT
theorem AC (F:Fun K "row_less" "row_less" vI f fd) (T:Txt K mg) (eT:qT P w K mg base qD oT) (bx:ll P w K mg base kM jX):FnOk P w K mg base CX0 3 f fd ["one", "other"] (sP K):=F.okk (N:=["one", "other"]) (Bq K).2 rfl rfl (by ac_rfl) fun nd _ _ _ _ _ _ hr=>⟨_,ao (aM (pcl eT.G hr eT.m eT.k eT.b (ac (pv 0) (ac (pcl bx.G hr bx.m bx.k bx.b (ac (pv 0) (ac (pv 1) af))) af)))),rfl⟩
abbrev vi:=Ak CX0 3 "row_less" ["one", "other"] sP
theorem HC (F:Fun K "less" "less" Ce f fd) (T:Txt K mg) (aw:cM P w K mg base cK bX) (gH:vi P w K mg base uG tq) (dM:vP P w K mg base u4 rE):FnOk P w K mg base CX0 4 f fd ["one", "other"] (Dt K):=F.okk (N:=["one", "other"]) (Hk K).2 rfl rfl (by ac_rfl) fun nd _ _ _ _ _ _ hr=>⟨_,ao (aM (pcl aw.G hr aw.m aw.k aw.b (ac (bL (show CmpOk ["one", "other"] (aJ Ce) _ ["y", "row", "other"] [none,none,some 1] from eY) (bD (pv 0)) (fun _=>cu rfl (aC (pgc 0) (aC (pgc 1) bH))) (d9 (aF aK (aF aK b9 aA) aA)) (fun _=>b8) (fun _=>aE (ac (pv 0) (ac (pcl gH.G hr gH.m gH.k gH.b (ac (pv 1) (ac (pcl dM.G hr dM.m dM.k dM.b (ac (pv 2) (ac (pv 0) af))) af))) af)))) af))),rfl⟩
abbrev C3:=Ak CX0 4 "less" ["one", "other"] Dt
theorem u5 (F:Fun K "shrunk_down" "shrunk_down" oV f fd) (T:Txt K mg) (dF:vt P w K mg base wI sf) (fm:y9 P w K mg base zi wN):FnOk P w K mg base CX0 4 f fd ["picture", "by"] (mF K):=F.okk (N:=["picture", "by", "done", "step"]) (vd K).2 rfl rfl (by ac_rfl) fun nd _ _ _ _ _ _ hr=>⟨_,ak (pst 2 nd ah) (ak (ny PX (ptc nr (pv 2) (pv 1)) (ak (pst 3 nd (aV (ko rfl) (by rfl) T.min pe (ac (aB a7 (pv 2) ah) (ac (aB cY (pv 1) (pv 2)) af)))) (ak (pst 0 nd (pcl dF.G hr dF.m dF.k dF.b (ac (pv 0) (ac (pcl fm.G hr fm.m fm.k fm.b (ac (pv 0) (ac ah (ac (eB bR (pv 3)) af)))) af)))) (ao (zS (i:=2) nd rfl (.inl rfl) (pv 3) zu))))) (ao (aM (pv 0)))),rfl⟩
abbrev oJ:=Ak CX0 4 "shrunk_down" ["picture", "by"] mF
theorem wg (F:Fun K "spread_down" "spread_down" oG f fd) (T:Txt K mg) (ic:B9 P w K mg base Ch zI) (fm:y9 P w K mg base zi wN):FnOk P w K mg base CX0 4 f fd ["picture", "by"] (mj K):=F.okk (N:=["picture", "by", "done", "step"]) (wE K).2 rfl rfl (by ac_rfl) fun nd _ _ _ _ _ _ hr=>⟨_,ak (pst 2 nd ah) (ak (ny PX (ptc nr (pv 2) (pv 1)) (ak (pst 3 nd (aV (ko rfl) (by rfl) T.min pe (ac (aB a7 (pv 2) ah) (ac (aB cY (pv 1) (pv 2)) af)))) (ak (pst 0 nd (pcl ic.G hr ic.m ic.k ic.b (ac (pv 0) (ac (pcl fm.G hr fm.m fm.k fm.b (ac (pv 0) (ac ah (ac (pv 3) af)))) af)))) (ao (zS (i:=2) nd rfl (.inl rfl) (pv 3) zu))))) (ao (aM (pv 0)))),rfl⟩
abbrev oe:=Ak CX0 4 "spread_down" ["picture", "by"] mj
theorem Cb (F:Fun K "_law_simple" "_law_simple" yr f fd) (T:Txt K mg) (A_Box:Je P w K mg base c_Box gv lX) (A_Cross:DT P w K mg base c_Cross eW jA) (A_Shape:DG P w K mg base c_Shape eX jB):FnOk P w K mg base CX0 5 f fd ["_law_cell", "_law_size"] (wc K):=F.okk (N:=["_law_cell", "_law_size", "_law_way"]) (Bx K).2 rfl rfl (by ac_rfl) fun nd _ _ _ _ _ _ hr=>⟨_,ak (pst 2 nd (aB dh (pv 0) ah)) (ak (cj (ptc (bV hr.units) (pv 2) ah) (ao (aM (jf A_Box.n A_Box.M A_Box.G (hr.mono (by decide)) (by rfl) A_Box.g A_Box.b gk (ac ah (ac ah (ac (pv 1) (ac (aB dh (aB ci (pv 0) ah) ah) af))))))) bw) (ak (cj (ptc (bV hr.units) (pv 2) ah) (ao (aM (jf A_Box.n A_Box.M A_Box.G (hr.mono (by decide)) (by rfl) A_Box.g A_Box.b gk (ac (aB pJ (aB dh (aB ci (pv 0) ah) ah) (pv 1)) (ac ah (ac (aB pJ (aB dh (aB ci (pv 0) ah) ah) (pv 1)) (ac ah af))))))) bw) (ak (cj (PW.pt (pB (ptc (bV hr.units) (pv 2) ah) (kG (ptc (bV hr.units) (pv 1) ah)))) (ao (aM (jf A_Cross.n A_Cross.M A_Cross.G (hr.mono (by decide)) (by rfl) A_Cross.g A_Cross.b gk (ac ah af)))) bw) (ak (cj (ptc (bV hr.units) (pv 2) ah) (ao (aM (jf A_Box.n A_Box.M A_Box.G (hr.mono (by decide)) (by rfl) A_Box.g A_Box.b gk (ac (pv 1) (ac ah (ac ah (ac ah af))))))) bw) (ak (cj (ptc (bV hr.units) (pv 2) ah) (ao (aM (jf A_Shape.n A_Shape.M A_Shape.G (hr.mono (by decide)) (by rfl) A_Shape.g A_Shape.b gk (ac (aE (ac (aE (ac (aB dh (aB ci (pv 0) ah) ah) (ac (aE (ac (aE (ac ah (ac ah af))) af)) af))) (ac (aE (ac (aB a7 (aB dh (aB ci (pv 0) ah) ah) ah) (ac (aE (ac (aE (ac (pv 1) (ac (pv 1) af))) af)) af))) af))) af)))) bw) (ao (aM (jf A_Shape.n A_Shape.M A_Shape.G (hr.mono (by decide)) (by rfl) A_Shape.g A_Shape.b gk (ac (aE (ac (aE (ac ah (ac (aE (ac (aE (ac ah (ac ah af))) (ac (aE (ac (aB pJ ah (pv 1)) (ac (aB pJ ah (pv 1)) af))) af))) af))) (ac (aE (ac ah (ac (aE (ac (aE (ac (aB cY ah (pv 1)) (ac (aB cY ah (pv 1)) af))) af)) af))) af))) af))))))))),rfl⟩
abbrev xX:=Ak CX0 5 "_law_simple" ["_law_cell", "_law_size"] wc
theorem n6 (F:Fun K "greater_by_block" "greater_by_block" fK f fd) (T:Txt K mg) (az:gu P w K mg base gc fy) (dW:oe P w K mg base oK nt) (aS:iB P w K mg base iC gW):FnOk P w K mg base CX0 5 f fd ["picture", "block"] (ii K):=F.okk (N:=["picture", "block", "wide"]) (nW K).2 rfl rfl (by ac_rfl) fun nd _ _ _ _ _ _ hr=>⟨_,ak (HD (i:=2) (hN:=nd) (hi0:=rfl) (hx:=Or.inl rfl) (ck:=(show CmpOk ["picture", "block", "wide"] (aJ fK) _ ["y", "a", "b", "block"] [none,none,none,some 1] from eY)) (hi:=bD (pcl az.G hr az.m az.k az.b (ac (pv 0) af))) (hg:=fun _=>cu rfl (aC (pgc 0) (aC (pgc 1) (aC (pgc 2) bH)))) (hs:=d9 (aF aK (aF aK (aF aK b9 aA) aA) aA)) (ht:=fun _=>b8) (he:=fun _=>aE (ac (aB a7 (pv 0) (pix (pv 3) ah)) (ac (aB a7 (pv 1) (pix (pv 3) ah)) (ac (aB a7 (pv 2) (pix (pv 3) ah)) af))))) (ak (cj (ptc (bV hr.units) (pix (pv 1) ah) (pix (pv 1) ah)) (ao (aM (pv 2))) bw) (ao (aM (pcl az.G hr az.m az.k az.b (ac (pcl dW.G hr dW.m dW.k dW.b (ac (pcl aS.G hr aS.m aS.k aS.b (ac (pv 2) af)) (ac (aB cY (pix (pv 1) ah) (pix (pv 1) ah)) af))) af))))),rfl⟩
abbrev i6:=Ak CX0 5 "greater_by_block" ["picture", "block"] ii
theorem BJ (F:Fun K "lies_in" "lies_in" yE f fd) (T:Txt K mg) (ie:C3 P w K mg base B2 ze):FnOk P w K mg base CX0 5 f fd ["one", "other"] (vj K):=F.okk (N:=["one", "other"]) (CC K).2 rfl rfl (by ac_rfl) fun nd _ _ _ _ _ _ hr=>⟨_,ao (aM (uh (bV hr.units) (pcl ie.G hr ie.m ie.k ie.b (ac (pv 0) (ac (pv 1) af))) (aE af) (mQ _))),rfl⟩
abbrev yD:=Ak CX0 5 "lies_in" ["one", "other"] vj
theorem nX (F:Fun K "smaller_by_block" "smaller_by_block" fD f fd) (T:Txt K mg) (aw:cM P w K mg base cK bX) (eR:rm P w K mg base qZ oU) (dY:oJ P w K mg base oy mV):FnOk P w K mg base CX0 5 f fd ["picture", "block"] (ik K):=F.okk (N:=["picture", "block", "narrow"]) (n8 K).2 rfl rfl (by ac_rfl) fun nd _ _ _ _ _ _ hr=>⟨_,ak (pst 2 nd (pcl aw.G hr aw.m aw.k aw.b (ac (bL (show CmpOk ["picture", "block", "narrow"] (aJ fD) _ ["y", "row", "block"] [none,none,some 1] from eY) (bD (pv 0)) (fun _=>cu rfl (aC (pgc 0) (aC (pgc 1) bH))) (d9 (aF aK (aF aK b9 aA) aA)) (fun _=>b8) (fun _=>aE (ac (aB cY (pv 0) (pix (pv 2) ah)) (ac (pcl eR.G hr eR.m eR.k eR.b (ac (pv 1) (ac (pix (pv 2) ah) (ac (pix (pv 2) ah) af)))) af)))) af))) (ao (aM (pcl dY.G hr dY.m dY.k dY.b (ac (pv 2) (ac (aB cY (pix (pv 1) ah) (pix (pv 1) ah)) af))))),rfl⟩
abbrev jb:=Ak CX0 5 "smaller_by_block" ["picture", "block"] ik
theorem pb (F:Fun K "greater_by_part" "greater_by_part" jJ f fd) (T:Txt K mg) (bJ:i6 P w K mg base jk il) (aS:iB P w K mg base iC gW):FnOk P w K mg base CX0 6 f fd ["picture", "blocks"] (iQ K):=F.okk (N:=["picture", "blocks", "stretches", "block"]) (pM K).2 rfl rfl (by ac_rfl) fun nd _ _ _ _ _ _ hr=>⟨_,ak (pst 2 nd (fJ af)) (ak (gF PX rfl (bD (pv 1)) (pgn 3 nd) (ao (eo (oi Qu PySem.F.slot_list_extend PySem.F.type_list_extend Du (pv 2) (ac (pcl bJ.G hr bJ.m bJ.k bJ.b (ac (pv 0) (ac (pv 3) af))) af))))) (ao (aM (pcl aS.G hr aS.m aS.k aS.b (ac (pv 2) af))))),rfl⟩
abbrev jN:=Ak CX0 6 "greater_by_part" ["picture", "blocks"] iQ
theorem pF (F:Fun K "smaller_by_part" "smaller_by_part" jM f fd) (T:Txt K mg) (aY:jb P w K mg base jc ij) (dF:vt P w K mg base wI sf) (iH:yd P w K mg base yF wq) (kq:AQ P w K mg base Ai xM):FnOk P w K mg base CX0 6 f fd ["picture", "blocks"] (ja K):=F.okk (N:=["picture", "blocks", "kept", "block"]) (pf K).2 rfl rfl (by ac_rfl) fun nd _ _ _ _ _ _ hr=>⟨_,ak (pst 2 nd (pcl aY.G hr aY.m aY.k aY.b (ac (pv 0) (ac (pix (pv 1) (eB bR ah)) af)))) (ak (gF PX rfl (bD (wf KQ (pv 1) (DF) (ux (eB bR ah)))) (pgn 3 nd) (ak (cj (ptc (bV hr.units) (pv 2) (aE af)) (ao (aM (aE af))) bw) (ao (pst 2 nd (pcl dF.G hr dF.m dF.k dF.b (ac (pv 2) (ac (pcl aY.G hr aY.m aY.k aY.b (ac (pcl iH.G hr iH.m iH.k iH.b (ac (pv 0) (ac (pcl kq.G hr kq.m kq.k kq.b (ac (pv 2) af)) (ac (pv 3) af)))) (ac (pv 3) af))) af))))))) (ao (aM (pv 2)))),rfl⟩
abbrev jK:=Ak CX0 6 "smaller_by_part" ["picture", "blocks"] ja
theorem tV (F:Fun K "greater" "Form.greater" nv f fd) (T:Txt K mg) (bP:jN P w K mg base jO jl):FnOk P w K mg base CX0 7 f fd ["self", "picture"] (lY K):=F.okk (N:=["self", "picture", "blocks"]) (uc K).2 rfl rfl (by ac_rfl) fun nd _ _ _ _ _ _ hr=>⟨_,ak (gF PX rfl (JS (by rfl) T.reversed (ac (uv T.cN (pv 0) rfl) af)) (pgn 2 nd) (ao (pst 1 nd (pcl bP.G hr bP.m bP.k bP.b (ac (pv 1) (ac (pv 2) af)))))) (ao (aM (pv 1))),rfl⟩
abbrev jn:=Am 7 "greater" NS ["self", "picture"] lY
theorem t6 (F:Fun K "smaller" "Form.smaller" mM f fd) (T:Txt K mg) (bN:jK P w K mg base jI iY):FnOk P w K mg base CX0 7 f fd ["self", "picture"] (lH K):=F.okk (N:=["self", "picture", "blocks"]) (tR K).2 rfl rfl (by ac_rfl) fun nd _ _ _ _ _ _ hr=>⟨_,ak (gF PX rfl (bD (uv T.cN (pv 0) rfl)) (pgn 2 nd) (ao (pst 1 nd (pcl bN.G hr bN.m bN.k bN.b (ac (pv 1) (ac (pv 2) af)))))) (ao (aM (pv 1))),rfl⟩
abbrev gq:=Am 7 "smaller" NS ["self", "picture"] lH
theorem ub (F:Fun K "has_one_cell" "has_one_cell" mr f fd) (T:Txt K mg) (aR:gq P w K mg base f_Form_smaller ft):FnOk P w K mg base CX0 8 f fd ["form"] (lB K):=F.okk (N:=["form"]) (tN K).2 rfl rfl (by ac_rfl) fun nd _ _ _ _ _ _ hr=>⟨_,ao (aM (uh (pG hr.units) (nz aR.cm aR.G (hr.mono (by decide)) aR.b gk (pv 0) (ac (GH (by rfl) T.ONE_CELL.choose_spec.choose_spec.1 T.ONE_CELL.choose_spec.choose_spec.2.1 T.ONE_CELL.choose_spec.choose_spec.2.2) af)) (aE af) (mQ _))),rfl⟩
abbrev mS:=Ak CX0 8 "has_one_cell" ["form"] lB
theorem tM (F:Fun K "joined_cores" "joined_cores" mY f fd) (T:Txt K mg) (ic:B9 P w K mg base Ch zI) (br:jn P w K mg base f_Form_greater hW):FnOk P w K mg base CX0 8 f fd ["some", "form"] (lD K):=F.okk (N:=["some", "form", "joined", "core"]) (tP K).2 rfl rfl (by ac_rfl) fun nd _ _ _ _ _ _ hr=>⟨_,ak (pst 2 nd (aE af)) (ak (gF PX rfl (Hy (by rfl) T.reversed (ac (pv 0) af)) (pgn 3 nd) (ao (pst 2 nd (pcl ic.G hr ic.m ic.k ic.b (ac (pv 3) (ac (nz br.cm br.G (hr.mono (by decide)) br.b gk (pv 1) (ac (pv 2) af)) af)))))) (ao (aM (pv 2)))),rfl⟩
abbrev nk:=Ak CX0 8 "joined_cores" ["some", "form"] lD
theorem uC (F:Fun K "taken_apart" "taken_apart" oP f fd) (T:Txt K mg) (ie:C3 P w K mg base B2 ze) (aR:gq P w K mg base f_Form_smaller ft) (br:jn P w K mg base f_Form_greater hW):FnOk P w K mg base CX0 8 f fd ["picture", "form", "most"] (mD K):=F.okk (N:=["picture", "form", "most", "layers", "left", "smaller"]) (u8 K).2 rfl rfl (by ac_rfl) fun nd _ _ _ _ _ _ hr=>⟨_,ak (pst 3 nd (fJ af)) (ak (pst 4 nd (pv 0)) (ak (ny PX (PW.pt (pB (ptc (pG hr.units) (pv 4) (aE af)) (kG (ptc nr (aV cD (by rfl) T.len g9 (ac (pv 3) af)) (pv 2))))) (ak (pst 5 nd (nz aR.cm aR.G (hr.mono (by decide)) aR.b gk (pv 1) (ac (pv 4) af))) (ak (eo (oi Qu QN QO dZ (pv 3) (ac (pcl ie.G hr ie.m ie.k ie.b (ac (pv 4) (ac (nz br.cm br.G (hr.mono (by decide)) br.b gk (pv 1) (ac (pv 5) af)) af))) af))) (ao (pst 4 nd (pv 5)))))) (ao (aM (aB a7 (pv 3) (fJ (ac (pv 4) af))))))),rfl⟩
abbrev oh:=Ak CX0 8 "taken_apart" ["picture", "form", "most"] mD
theorem Hg (F:Fun K "cores" "cores" Dv f fd) (T:Txt K mg) (dg:mS P w K mg base nl lK) (dU:oh P w K mg base oE my):FnOk P w K mg base CX0 9 f fd ["picture", "form", "most"] (Ax K):=F.okk (N:=["picture", "form", "most", "layers"]) (Fw K).2 rfl rfl (by ac_rfl) fun nd _ _ _ _ _ _ hr=>⟨_,ak (cj (iW (pcl dg.G hr dg.m dg.k dg.b (ac (pv 1) af)) (fun _=>rfl)) (ao (Aa)) bw) (ak (pst 3 nd (pcl dU.G hr dU.m dU.k dU.b (ac (pv 0) (ac (pv 1) (ac (pv 2) af))))) (ak (cj (ptc (pG hr.units) (pix (pv 3) (eB bR ah)) (aE af)) (ao (Aa)) bw) (ao (aM (wf KQ (pv 3) (DF) (ux (eB bR ah))))))),rfl⟩
abbrev DI:=Ak CX0 9 "cores" ["picture", "form", "most"] Ax
theorem KU (F:Fun K "law" "law" IU f fd) (T:Txt K mg) (aQ:o6 P w K mg base pV ni) (gO:vV P w K mg base uL tw) (dX:xX P w K mg base xK vx) (nG:DI P w K mg base DU As) (bq:nk P w K mg base ml lR) (iG:yD P w K mg base yw vm) (aR:gq P w K mg base f_Form_smaller ft) (A_Sum:II P w K mg base c_Sum fW lN):FnOk P w K mg base CX0 10 f fd ["_law_script"] (zc K):=F.okk (N:=["_law_script", "_law_size", "_law_picture_here", "_law_second", "_law_form", "_law_found", "_law_handed", "_law_again", "_law_left", "_law_core"]) (Kt K).2 rfl rfl (by ac_rfl) fun nd _ _ _ _ _ _ hr=>⟨_,ak (pst 1 nd (pix (fJ (ac ah (ac (aB a7 (aB BS ah ah) ah) af))) (aB dh (pcl aQ.G hr aQ.m aQ.k aQ.b (ac (pv 0) (ac ah af))) ah))) (ak (pst 2 nd (pcl gO.G hr gO.m gO.k gO.b (ac (pv 0) (ac (pv 1) af)))) (ak (pst 3 nd (aB ci (aB dh (aB pJ (pcl aQ.G hr aQ.m aQ.k aQ.b (ac (pv 0) (ac ah af))) ah) ah) ah)) (ak (cj (ptc (bV hr.units) (aB dh (aB ci (pcl aQ.G hr aQ.m aQ.k aQ.b (ac (pv 0) (ac ah af))) ah) ah) ah) (ao (pst 3 nd (pcl aQ.G hr aQ.m aQ.k aQ.b (ac (pv 0) (ac ah af))))) bw) (ak (pst 4 nd (pcl dX.G hr dX.m dX.k dX.b (ac (pv 3) (ac (pv 1) af)))) (ak (cj (ptc (bV hr.units) (aB dh (aB ci (pv 3) ah) ah) ah) (ao (pst 4 nd (jf A_Sum.n A_Sum.M A_Sum.G (hr.mono (by decide)) (by rfl) A_Sum.g A_Sum.b gk (ac (pv 4) (ac (pcl dX.G hr dX.m dX.k dX.b (ac (aB ci (pv 3) ah) (ac (pv 1) af))) af))))) bw) (ak (pst 5 nd (pcl nG.G hr nG.m nG.k nG.b (ac (pv 2) (ac (pv 4) (ac ah af))))) (ak (pst 6 nd (cF zt (by rfl) T.list Dp (ac (pv 5) af))) (ak (pst 7 nd (pcl bq.G hr bq.m bq.k bq.b (ac (pv 6) (ac (pv 4) af)))) (ak (cj (PW.pt (xJ (yW (iW (aV yG (by rfl) T.isinstance oO (ac (pv 5) (ac (C8 (v:=.ty "list") (by rfl) T.list Dp rfl) af))) (fun _=>rfl))) (xJ (yW (iW (aV yG (by rfl) T.isinstance oO (ac (pv 7) (ac (C8 (v:=.ty "tuple") (by rfl) T.tuple dE rfl) af))) (fun _=>rfl))) (xJ (ptc (pG hr.units) (pv 7) (pv 2)) (yO (ptc (pG hr.units) (pv 6) (pv 5))))))) (ao (aM Jc)) bw) (ak (pst 8 nd (pv 2)) (ak (gF PX rfl (bD (pv 5)) (pgn 9 nd) (ak (cj (PW.pt (xJ (ptc (bV hr.units) (pv 8) (aE af)) (yO (yW (iW (pcl iG.G hr iG.m iG.k iG.b (ac (pv 9) (ac (pv 8) af))) (fun _=>rfl)))))) (ao (aM Jc)) bw) (ao (pst 8 nd (nz aR.cm aR.G (hr.mono (by decide)) aR.b gk (pv 4) (ac (pv 8) af)))))) (ao (aM (Km (uh (bV hr.units) (pv 8) (aE af) (mQ _)) (Kz (uh (bV hr.units) (pcl bq.G hr bq.m bq.k bq.b (ac (fJ af) (ac (pv 4) af))) (aE af) (mQ _))))))))))))))))),rfl⟩
end
theorem KZ {l:OpenLaw} {w:World} {K:Frag} {h:Heap} {mg:Str -> Option Value} {fa:Addr} (X:K.In h) (G:h.Ns mainGlobals mg) (hfa:mg "law" = some (.ref fa))
  {g_ONE_CELL_0:Addr} {od_ONE_CELL_0:Option Addr} {n_ONE_CELL_0:Nat} {sl_ONE_CELL_0:Array (Option Value)}
  {g_ONE_CELL_1:Addr} {od_ONE_CELL_1:Option Addr} {n_ONE_CELL_1:Nat} {sl_ONE_CELL_1:Array (Option Value)}
  {t_ONE_CELL_1_0:Tok}
  {g_ONE_CELL_2:Addr} {od_ONE_CELL_2:Option Addr} {n_ONE_CELL_2:Nat} {sl_ONE_CELL_2:Array (Option Value)}
  {g_ONE_CELL_3:Addr} {od_ONE_CELL_3:Option Addr} {n_ONE_CELL_3:Nat} {sl_ONE_CELL_3:Array (Option Value)}
  {t_ONE_CELL_3_0:Tok}
  {t_ONE_CELL_3_1:Tok}
  (n_Box:nsIn K mainGlobals "Box" = some (some (.ref c_Box)))
  (n_Cross:nsIn K mainGlobals "Cross" = some (some (.ref c_Cross)))
  (n_Shape:nsIn K mainGlobals "Shape" = some (some (.ref c_Shape)))
  (n_Sum:nsIn K mainGlobals "Sum" = some (some (.ref c_Sum)))
  (n_Form:nsIn K mainGlobals "Form" = some (some (.ref c_Form)))
  (FB:nsIn K mainGlobals "row_of" = some (some (.ref re)))
  (wQ:nsIn K mainGlobals "count_up_to" = some (some (.ref jS)))
  (yY:nsIn K mainGlobals "row_common" = some (some (.ref kM)))
  (CZ:nsIn K mainGlobals "row_less" = some (some (.ref uG)))
  (zR:nsIn K mainGlobals "row_either" = some (some (.ref qD)))
  (Bp:nsIn K mainGlobals "row_moved" = some (some (.ref tj)))
  (zA:nsIn K mainGlobals "row_shrunk" = some (some (.ref qZ)))
  (zJ:nsIn K mainGlobals "picture_of" = some (some (.ref iC)))
  (wF:nsIn K mainGlobals "stretches_of" = some (some (.ref gc)))
  (GG:nsIn K mainGlobals "row_at" = some (some (.ref u4)))
  (qR:nsIn K mainGlobals "rows_with_cells" = some (some (.ref cK)))
  (Kh:nsIn K mainGlobals "join" = some (some (.ref Ch)))
  (GS:nsIn K mainGlobals "common" = some (some (.ref wI)))
  (KN:nsIn K mainGlobals "less" = some (some (.ref B2)))
  (Fh:nsIn K mainGlobals "lies_in" = some (some (.ref yw)))
  (G4:nsIn K mainGlobals "box_of" = some (some (.ref Ai)))
  (HN:nsIn K mainGlobals "moved" = some (some (.ref zi)))
  (Bu:nsIn K mainGlobals "blocks_of" = some (some (.ref tH)))
  (uA:nsIn K mainGlobals "parts_of_sum" = some (some (.ref nu)))
  (w9:nsIn K mainGlobals "spread_down" = some (some (.ref oK)))
  (wV:nsIn K mainGlobals "shrunk_down" = some (some (.ref oy)))
  (pP:nsIn K mainGlobals "greater_by_block" = some (some (.ref jk)))
  (qu:nsIn K mainGlobals "greater_by_part" = some (some (.ref jO)))
  (pk:nsIn K mainGlobals "smaller_by_block" = some (some (.ref jc)))
  (qH:nsIn K mainGlobals "smaller_by_part" = some (some (.ref jI)))
  (Ed:nsIn K mainGlobals "reached" = some (some (.ref yF)))
  (tU:nsIn K mainGlobals "begun_between" = some (some (.ref me)))
  (xc:nsIn K mainGlobals "taken_apart" = some (some (.ref oE)))
  (u6:nsIn K mainGlobals "has_one_cell" = some (some (.ref nl)))
  (Ix:nsIn K mainGlobals "cores" = some (some (.ref DU)))
  (vU:nsIn K mainGlobals "joined_cores" = some (some (.ref ml)))
  (CM:nsIn K mainGlobals "_law_cell_at" = some (some (.ref pV)))
  (D6:nsIn K mainGlobals "_law_signed" = some (some (.ref xY)))
  (JW:nsIn K mainGlobals "_law_row" = some (some (.ref FH)))
  (BW:nsIn K mainGlobals "_law_picture" = some (some (.ref uL)))
  (E8:nsIn K mainGlobals "_law_simple" = some (some (.ref xK)))
  (LW:nsIn K mainGlobals "law" = some (some (.ref LA)))
  (Fl:findIn K (.ref c_Form) "__init__" = some (some (.ref f_Form___init__)))
  (Fm:isFn K (.ref f_Form___init__) = true)
  (Gk:findIn K (.ref c_Box) "greater" = some (some (.ref f_Form_greater)))
  (gh:isFn K (.ref f_Form_greater) = true)
  (Gj:findIn K (.ref c_Box) "smaller" = some (some (.ref f_Form_smaller)))
  (gb:isFn K (.ref f_Form_smaller) = true)
  (vK:findIn K (.ref c_Box) "__init__" = some (some (.ref gv)))
  (vN:isFn K (.ref gv) = true)
  (rL:findIn K (.ref c_Cross) "__init__" = some (some (.ref eW)))
  (sE:isFn K (.ref eW) = true)
  (sG:findIn K (.ref c_Shape) "__init__" = some (some (.ref eX)))
  (rJ:isFn K (.ref eX) = true)
  (wH:findIn K (.ref c_Sum) "__init__" = some (some (.ref fW)))
  (uD:isFn K (.ref fW) = true)
  (vk:Fun K "row_of" "row_of" wj re nJ)
  (jZ:Fun K "count_up_to" "count_up_to" oj jS je)
  (kI:Fun K "row_common" "row_common" p0 kM jX)
  (pd:Fun K "row_less" "row_less" vI uG tq)
  (kL:Fun K "row_either" "row_either" gt qD oT)
  (mT:Fun K "row_moved" "row_moved" mG tj qy)
  (kS:Fun K "row_shrunk" "row_shrunk" lr qZ oU)
  (kN:Fun K "picture_of" "picture_of" iz iC gW)
  (jr:Fun K "stretches_of" "stretches_of" jh gc fy)
  (we:Fun K "row_at" "row_at" AN u4 rE)
  (f7:Fun K "rows_with_cells" "rows_with_cells" fZ cK bX)
  (CK:Fun K "join" "join" GB Ch zI)
  (u7:Fun K "common" "common" vF wI sf)
  (BE:Fun K "less" "less" Ce B2 ze)
  (rP:Fun K "lies_in" "lies_in" yE yw vm)
  (wD:Fun K "box_of" "box_of" qE Ai xM)
  (yL:Fun K "moved" "moved" zW zi wN)
  (m6:Fun K "blocks_of" "blocks_of" m7 tH qP)
  (jd:Fun K "parts_of_sum" "parts_of_sum" eM nu lZ)
  (jV:Fun K "spread_down" "spread_down" oG oK nt)
  (jW:Fun K "shrunk_down" "shrunk_down" oV oy mV)
  (fB:Fun K "greater_by_block" "greater_by_block" fK jk il)
  (gi:Fun K "greater_by_part" "greater_by_part" jJ jO jl)
  (fM:Fun K "smaller_by_block" "smaller_by_block" fD jc ij)
  (f8:Fun K "smaller_by_part" "smaller_by_part" jM jI iY)
  (sM:Fun K "reached" "reached" rB yF wq)
  (hU:Fun K "begun_between" "begun_between" l8 me km)
  (jR:Fun K "taken_apart" "taken_apart" oP oE my)
  (iM:Fun K "has_one_cell" "has_one_cell" mr nl lK)
  (zV:Fun K "cores" "cores" Dv DU As)
  (jw:Fun K "joined_cores" "joined_cores" mY ml lR)
  (pI:Fun K "_law_cell_at" "_law_cell_at" wx pV ni)
  (sJ:Fun K "_law_signed" "_law_signed" xq xY vL)
  (C0:Fun K "_law_row" "_law_row" Gw FH DL)
  (pL:Fun K "_law_picture" "_law_picture" vw uL tw)
  (sj:Fun K "_law_simple" "_law_simple" yr xK vx)
  (IJ:Fun K "law" "law" IU LA KR)
  (hZ:Fun K "__init__" "Form.__init__" hG f_Form___init__ df)
  (c9:Fun K "greater" "Form.greater" nv f_Form_greater hW)
  (c7:Fun K "smaller" "Form.smaller" mM f_Form_smaller ft)
  (nh:Fun K "__init__" "Box.__init__" iV gv lX)
  (ka:Fun K "__init__" "Cross.__init__" gD eW jA)
  (kv:Fun K "__init__" "Shape.__init__" gI eX jB)
  (mI:Fun K "__init__" "Sum.__init__" jx fW lN)
  (pg_Box:plainGet K c_Box Str.empty = true)
  (hd_Box:hasDictIn K c_Box = true)
  (po_Box:plainOver K c_Box = true)
  (sa_Box:findIn K (.ref c_Box) "__setattr__" = some (some (.builtin "object.__setattr__")))
  (mk_Box:makesIn K c_Box = true)
  (kc_Box:keepIn K (.ref c_Box) = true)
  (np_Box:findIn K (.ref c_Box) "parts" = some none)
  (mm_Box_greater:findIn K (.ref c_Box) "greater" = some (some (.ref f_Form_greater)))
  (mm_Box_smaller:findIn K (.ref c_Box) "smaller" = some (some (.ref f_Form_smaller)))
  (pg_Cross:plainGet K c_Cross Str.empty = true)
  (hd_Cross:hasDictIn K c_Cross = true)
  (po_Cross:plainOver K c_Cross = true)
  (sa_Cross:findIn K (.ref c_Cross) "__setattr__" = some (some (.builtin "object.__setattr__")))
  (mk_Cross:makesIn K c_Cross = true)
  (kc_Cross:keepIn K (.ref c_Cross) = true)
  (np_Cross:findIn K (.ref c_Cross) "parts" = some none)
  (mm_Cross_greater:findIn K (.ref c_Cross) "greater" = some (some (.ref f_Form_greater)))
  (mm_Cross_smaller:findIn K (.ref c_Cross) "smaller" = some (some (.ref f_Form_smaller)))
  (pg_Shape:plainGet K c_Shape Str.empty = true)
  (hd_Shape:hasDictIn K c_Shape = true)
  (po_Shape:plainOver K c_Shape = true)
  (sa_Shape:findIn K (.ref c_Shape) "__setattr__" = some (some (.builtin "object.__setattr__")))
  (mk_Shape:makesIn K c_Shape = true)
  (kc_Shape:keepIn K (.ref c_Shape) = true)
  (np_Shape:findIn K (.ref c_Shape) "parts" = some none)
  (mm_Shape_greater:findIn K (.ref c_Shape) "greater" = some (some (.ref f_Form_greater)))
  (mm_Shape_smaller:findIn K (.ref c_Shape) "smaller" = some (some (.ref f_Form_smaller)))
  (pg_Sum:plainGet K c_Sum Str.empty = true)
  (hd_Sum:hasDictIn K c_Sum = true)
  (po_Sum:plainOver K c_Sum = true)
  (sa_Sum:findIn K (.ref c_Sum) "__setattr__" = some (some (.builtin "object.__setattr__")))
  (mk_Sum:makesIn K c_Sum = true)
  (kc_Sum:keepIn K (.ref c_Sum) = true)
  (np_Sum:findIn K (.ref c_Sum) "parts" = some none)
  (mm_Sum_greater:findIn K (.ref c_Sum) "greater" = some (some (.ref f_Form_greater)))
  (mm_Sum_smaller:findIn K (.ref c_Sum) "smaller" = some (some (.ref f_Form_smaller)))
  (bs_Form:specialIn K (.ref c_Form) "__getattribute__" = some (some (.builtin "type.__getattribute__")))
  (br_Form:readsIn K c_Form (.type "type") = true)
  (bf_Form:findCls K (.ref c_Form) (.type "type") "__init__" = some (.val (.ref f_Form___init__)))
  (z_isinstance:nsIn K mainGlobals "isinstance" = some none)
  (z_len:nsIn K mainGlobals "len" = some none)
  (z_list:nsIn K mainGlobals "list" = some none)
  (z_max:nsIn K mainGlobals "max" = some none)
  (z_min:nsIn K mainGlobals "min" = some none)
  (z_range:nsIn K mainGlobals "range" = some none)
  (z_reversed:nsIn K mainGlobals "reversed" = some none)
  (z_sorted:nsIn K mainGlobals "sorted" = some none)
  (z_sum:nsIn K mainGlobals "sum" = some none)
  (z_tuple:nsIn K mainGlobals "tuple" = some none)
  (y_ONE_CELL:nsIn K mainGlobals "ONE_CELL" = some (some (.ref g_ONE_CELL_0)))
  (v_ONE_CELL_0:K.lookup g_ONE_CELL_0 = some ⟨.type "tuple",od_ONE_CELL_0,.seq #[.ref g_ONE_CELL_1] n_ONE_CELL_0,sl_ONE_CELL_0⟩)
  (v_ONE_CELL_1:K.lookup g_ONE_CELL_1 = some ⟨.type "tuple",od_ONE_CELL_1,.seq #[.int (0) t_ONE_CELL_1_0,.ref g_ONE_CELL_2] n_ONE_CELL_1,sl_ONE_CELL_1⟩)
  (v_ONE_CELL_2:K.lookup g_ONE_CELL_2 = some ⟨.type "tuple",od_ONE_CELL_2,.seq #[.ref g_ONE_CELL_3] n_ONE_CELL_2,sl_ONE_CELL_2⟩)
  (v_ONE_CELL_3:K.lookup g_ONE_CELL_3 = some ⟨.type "tuple",od_ONE_CELL_3,.seq #[.int (0) t_ONE_CELL_3_0,.int (0) t_ONE_CELL_3_1] n_ONE_CELL_3,sl_ONE_CELL_3⟩)
  : ∃ fd:FuncData,(∀ (s:Shared) (v:Value),BindsTo s fd ⟨[v],[]⟩ [("_law_script",v)]) /\ ∀ base:Heap,K.In base -> base.Ns mainGlobals mg -> FnOk l.prog w K mg base CX0 10 fa fd ["_law_script"] (zc K):=by
 have e:=hfa.symm.trans (Pp X G LW)
 cases e
 have cN:vE K NS fun C=>Cls K C /\ NoAttr K C "parts" := cA n_Box ⟨⟨pg_Box,hd_Box,po_Box,sa_Box⟩,np_Box⟩ (cA n_Cross ⟨⟨pg_Cross,hd_Cross,po_Cross,sa_Cross⟩,np_Cross⟩ (cA n_Shape ⟨⟨pg_Shape,hd_Shape,po_Shape,sa_Shape⟩,np_Shape⟩ (cA n_Sum ⟨⟨pg_Sum,hd_Sum,po_Sum,sa_Sum⟩,np_Sum⟩ (vS))))
 have t8:vE K NS fun C=>Cls K C /\ Meth K C "greater" f_Form_greater:=cA n_Box ⟨⟨pg_Box,hd_Box,po_Box,sa_Box⟩,⟨mm_Box_greater,gh,c9.kp⟩⟩ (cA n_Cross ⟨⟨pg_Cross,hd_Cross,po_Cross,sa_Cross⟩,⟨mm_Cross_greater,gh,c9.kp⟩⟩ (cA n_Shape ⟨⟨pg_Shape,hd_Shape,po_Shape,sa_Shape⟩,⟨mm_Shape_greater,gh,c9.kp⟩⟩ (cA n_Sum ⟨⟨pg_Sum,hd_Sum,po_Sum,sa_Sum⟩,⟨mm_Sum_greater,gh,c9.kp⟩⟩ (vS))))
 have t9:vE K NS fun C=>Cls K C /\ Meth K C "smaller" f_Form_smaller:=cA n_Box ⟨⟨pg_Box,hd_Box,po_Box,sa_Box⟩,⟨mm_Box_smaller,gb,c7.kp⟩⟩ (cA n_Cross ⟨⟨pg_Cross,hd_Cross,po_Cross,sa_Cross⟩,⟨mm_Cross_smaller,gb,c7.kp⟩⟩ (cA n_Shape ⟨⟨pg_Shape,hd_Shape,po_Shape,sa_Shape⟩,⟨mm_Shape_smaller,gb,c7.kp⟩⟩ (cA n_Sum ⟨⟨pg_Sum,hd_Sum,po_Sum,sa_Sum⟩,⟨mm_Sum_smaller,gb,c7.kp⟩⟩ (vS))))
 have T:Txt K mg:=⟨Qv X G z_isinstance,Qv X G z_len,Qv X G z_list,Qv X G z_max,Qv X G z_min,Qv X G z_range,Qv X G z_reversed,Qv X G z_sorted,Qv X G z_sum,Qv X G z_tuple,⟨_,.ref _,Pp X G y_ONE_CELL,rfl,fun S=>p9 (xs:=[.ref g_ONE_CELL_1]) v_ONE_CELL_0 rfl rfl (PL (show 1 <= 1000 by decide) (by rw [Qa];decide)) (.cons rfl (.nil)) (fun S=>Dens.cons (p9 (xs:=[.int (0),.ref g_ONE_CELL_2]) v_ONE_CELL_1 rfl rfl (PL (show 2 <= 1000 by decide) (by rw [Qa];decide)) (.cons ⟨_,rfl⟩ (.cons rfl (.nil))) (fun S=>Dens.cons (den_int.mpr rfl) (Dens.cons (p9 (xs:=[.ref g_ONE_CELL_3]) v_ONE_CELL_2 rfl rfl (PL (show 1 <= 1000 by decide) (by rw [Qa];decide)) (.cons rfl (.nil)) (fun S=>Dens.cons (p9 (xs:=[.int (0),.int (0)]) v_ONE_CELL_3 rfl rfl (PL (show 2 <= 1000 by decide) (by rw [Qa];decide)) (.cons ⟨_,rfl⟩ (.cons ⟨_,rfl⟩ (.nil))) (fun S=>Dens.cons (den_int.mpr rfl) (Dens.cons (den_int.mpr rfl) (Dens.nil))) S) (Dens.nil)) S) (Dens.nil))) S) (Dens.nil)) S⟩,cN⟩
 have M_Box:Mk K c_Box gv:=⟨mk_Box,vK,vN,kc_Box⟩
 have M_Cross:Mk K c_Cross eW:=⟨mk_Cross,rL,sE,kc_Cross⟩
 have M_Shape:Mk K c_Shape eX:=⟨mk_Shape,sG,rJ,kc_Shape⟩
 have M_Sum:Mk K c_Sum fW:=⟨mk_Sum,wH,uD,kc_Sum⟩
 have cf_Form:ClsFn K c_Form "__init__" f_Form___init__:=⟨bs_Form,br_Form,bf_Form,hZ.kp⟩
 obtain ⟨_,_,_,_,_,_,_,_,_,hfd,_⟩:=IJ.ex
 refine ⟨KR,fun s v=>.of_eq (by rw [hfd];rfl),fun base _ _=>?_⟩
 have tX:Binds K df ["self", "parts"] []:=hZ.binds fun _ _ _ _ _ _ us hl=>by obtain ⟨_,_,rfl⟩:=us2 hl;rfl
 have AB_Form:qG l.prog w K mg base _ _ _:=⟨rQ hZ T,tX,cf_Form,Pp X G n_Form⟩
 have CW:Binds K ni ["_law_script", "_law_k"] []:=pI.binds fun _ _ _ _ _ _ us hl=>by obtain ⟨_,_,rfl⟩:=us2 hl;rfl
 have aQ:o6 l.prog w K mg base _ _:=⟨Ba pI T,Pp X G CM,pI.kp,CW⟩
 have Jy:Binds K DL ["_law_bits", "_law_x", "_law_size"] []:=C0.binds fun _ _ _ _ _ _ us hl=>by obtain ⟨_,_,_,rfl⟩:=us3 hl;rfl
 have sk:FQ l.prog w K mg base _ _:=⟨Ia C0 T,Pp X G JW,C0.kp,Jy⟩
 have ES:Binds K vL ["_law_cell", "_law_most"] []:=sJ.binds fun _ _ _ _ _ _ us hl=>by obtain ⟨_,_,rfl⟩:=us2 hl;rfl
 have d8:xu l.prog w K mg base _ _:=⟨C2 sJ T,Pp X G D6,sJ.kp,ES⟩
 have Fz:Binds K xM ["picture"] []:=wD.binds fun _ _ _ _ _ _ us hl=>by obtain ⟨_,rfl⟩:=us1 hl;rfl
 have kq:AQ l.prog w K mg base _ _:=⟨ER wD T,Pp X G G4,wD.kp,Fz⟩
 have xh:Binds K je ["pairs", "number"] []:=jZ.binds fun _ _ _ _ _ _ us hl=>by obtain ⟨_,_,rfl⟩:=us2 hl;rfl
 have aU:jT l.prog w K mg base _ _:=⟨vQ jZ T,Pp X G wQ,jZ.kp,xh⟩
 have uT:Binds K lZ ["parts"] []:=jd.binds fun _ _ _ _ _ _ us hl=>by obtain ⟨_,rfl⟩:=us1 hl;rfl
 have c8:mJ l.prog w K mg base _ _:=⟨tO jd T,Pp X G uA,jd.kp,uT⟩
 have yX:Binds K jX ["one", "other"] []:=kI.binds fun _ _ _ _ _ _ us hl=>by obtain ⟨_,_,rfl⟩:=us2 hl;rfl
 have bx:ll l.prog w K mg base _ _:=⟨xk kI T,Pp X G yY,kI.kp,yX⟩
 have zZ:Binds K qy ["row", "by"] []:=mT.binds fun _ _ _ _ _ _ us hl=>by obtain ⟨_,_,rfl⟩:=us2 hl;rfl
 have fS:tf l.prog w K mg base _ _:=⟨zM mT T,Pp X G Bp,mT.kp,zZ⟩
 have F5:Binds K nJ ["pairs"] []:=vk.binds fun _ _ _ _ _ _ us hl=>by obtain ⟨_,rfl⟩:=us1 hl;rfl
 have bI:qf l.prog w K mg base _ _:=⟨E2 vk T,Pp X G FB,vk.kp,F5⟩
 have qp:Binds K bX ["rows"] []:=f7.binds fun _ _ _ _ _ _ us hl=>by obtain ⟨_,rfl⟩:=us1 hl;rfl
 have aw:cM l.prog w K mg base _ _:=⟨pR f7 T,Pp X G qR,f7.kp,qp⟩
 have wK:Binds K fy ["picture"] []:=jr.binds fun _ _ _ _ _ _ us hl=>by obtain ⟨_,rfl⟩:=us1 hl;rfl
 have az:gu l.prog w K mg base _ _:=⟨ue jr T,Pp X G wF,jr.kp,wK⟩
 have uE:Binds K lX ["self", "left", "up", "right", "down"] []:=nh.binds fun _ _ _ _ _ _ us hl=>by obtain ⟨_,_,_,_,_,rfl⟩:=us5 hl;rfl
 have A_Box:Je l.prog w K mg base _ _ _:=⟨tS nh T AB_Form,uE,n_Box,M_Box,Pp X G n_Box⟩
 have rV:Binds K jA ["self", "arm"] []:=ka.binds fun _ _ _ _ _ _ us hl=>by obtain ⟨_,_,rfl⟩:=us2 hl;rfl
 have A_Cross:DT l.prog w K mg base _ _ _:=⟨qV ka T AB_Form,rV,n_Cross,M_Cross,Pp X G n_Cross⟩
 have uU:Binds K lN ["self", "one", "other"] []:=mI.binds fun _ _ _ _ _ _ us hl=>by obtain ⟨_,_,_,rfl⟩:=us3 hl;rfl
 have A_Sum:II l.prog w K mg base _ _ _:=⟨tQ mI T c8 AB_Form,uU,n_Sum,M_Sum,Pp X G n_Sum⟩
 have BL:Binds K tw ["_law_script", "_law_size"] []:=pL.binds fun _ _ _ _ _ _ us hl=>by obtain ⟨_,_,rfl⟩:=us2 hl;rfl
 have gO:vV l.prog w K mg base _ _:=⟨AI pL T aQ d8 sk,Pp X G BW,pL.kp,BL⟩
 have ud:Binds K km ["pairs", "first", "last"] []:=hU.binds fun _ _ _ _ _ _ us hl=>by obtain ⟨_,_,_,rfl⟩:=us3 hl;rfl
 have bm:l7 l.prog w K mg base _ _:=⟨r8 hU T aU,Pp X G tU,hU.kp,ud⟩
 have Af:Binds K qP ["picture"] []:=m6.binds fun _ _ _ _ _ _ us hl=>by obtain ⟨_,rfl⟩:=us1 hl;rfl
 have fP:sQ l.prog w K mg base _ _:=⟨zq m6 T az,Pp X G Bu,m6.kp,Af⟩
 have Hl:Binds K wN ["picture", "dx", "dy"] []:=yL.binds fun _ _ _ _ _ _ us hl=>by obtain ⟨_,_,_,rfl⟩:=us3 hl;rfl
 have fm:y9 l.prog w K mg base _ _:=⟨GM yL T fS,Pp X G HN,yL.kp,Hl⟩
 have y3:Binds K gW ["stretches"] []:=kN.binds fun _ _ _ _ _ _ us hl=>by obtain ⟨_,rfl⟩:=us1 hl;rfl
 have aS:iB l.prog w K mg base _ _:=⟨xf kN T bI,Pp X G zJ,kN.kp,y3⟩
 have FR:Binds K rE ["picture", "y"] []:=we.binds fun _ _ _ _ _ _ us hl=>by obtain ⟨_,_,rfl⟩:=us2 hl;rfl
 have dM:vP l.prog w K mg base _ _:=⟨E1 we T aU,Pp X G GG,we.kp,FR⟩
 have yP:Binds K oT ["one", "other"] []:=kL.binds fun _ _ _ _ _ _ us hl=>by obtain ⟨_,_,rfl⟩:=us2 hl;rfl
 have eT:qT l.prog w K mg base _ _:=⟨xi kL T bI,Pp X G zR,kL.kp,yP⟩
 have zk:Binds K oU ["row", "low", "high"] []:=kS.binds fun _ _ _ _ _ _ us hl=>by obtain ⟨_,_,_,rfl⟩:=us3 hl;rfl
 have eR:rm l.prog w K mg base _ _:=⟨wW kS T bI,Pp X G zA,kS.kp,zk⟩
 have sg:Binds K jB ["self", "picture"] []:=kv.binds fun _ _ _ _ _ _ us hl=>by obtain ⟨_,_,rfl⟩:=us2 hl;rfl
 have A_Shape:DG l.prog w K mg base _ _ _:=⟨qL kv T fP AB_Form,sg,n_Shape,M_Shape,Pp X G n_Shape⟩
 have Gi:Binds K sf ["one", "other"] []:=u7.binds fun _ _ _ _ _ _ us hl=>by obtain ⟨_,_,rfl⟩:=us2 hl;rfl
 have dF:vt l.prog w K mg base _ _:=⟨EI u7 T aw bx dM,Pp X G GS,u7.kp,Gi⟩
 have J6:Binds K zI ["one", "other"] []:=CK.binds fun _ _ _ _ _ _ us hl=>by obtain ⟨_,_,rfl⟩:=us2 hl;rfl
 have ic:B9 l.prog w K mg base _ _:=⟨Iy CK T aS az,Pp X G Kh,CK.kp,J6⟩
 have E3:Binds K wq ["picture", "box", "block"] []:=sM.binds fun _ _ _ _ _ _ us hl=>by obtain ⟨_,_,_,rfl⟩:=us3 hl;rfl
 have iH:yd l.prog w K mg base _ _:=⟨CB sM T bm aw,Pp X G Ed,sM.kp,E3⟩
 have Cd:Binds K tq ["one", "other"] []:=pd.binds fun _ _ _ _ _ _ us hl=>by obtain ⟨_,_,rfl⟩:=us2 hl;rfl
 have gH:vi l.prog w K mg base _ _:=⟨AC pd T eT bx,Pp X G CZ,pd.kp,Cd⟩
 have JO:Binds K ze ["one", "other"] []:=BE.binds fun _ _ _ _ _ _ us hl=>by obtain ⟨_,_,rfl⟩:=us2 hl;rfl
 have ie:C3 l.prog w K mg base _ _:=⟨HC BE T aw gH dM,Pp X G KN,BE.kp,JO⟩
 have w6:Binds K mV ["picture", "by"] []:=jW.binds fun _ _ _ _ _ _ us hl=>by obtain ⟨_,_,rfl⟩:=us2 hl;rfl
 have dY:oJ l.prog w K mg base _ _:=⟨u5 jW T dF fm,Pp X G wV,jW.kp,w6⟩
 have xj:Binds K nt ["picture", "by"] []:=jV.binds fun _ _ _ _ _ _ us hl=>by obtain ⟨_,_,rfl⟩:=us2 hl;rfl
 have dW:oe l.prog w K mg base _ _:=⟨wg jV T ic fm,Pp X G w9,jV.kp,xj⟩
 have EX:Binds K vx ["_law_cell", "_law_size"] []:=sj.binds fun _ _ _ _ _ _ us hl=>by obtain ⟨_,_,rfl⟩:=us2 hl;rfl
 have dX:xX l.prog w K mg base _ _:=⟨Cb sj T A_Box A_Cross A_Shape,Pp X G E8,sj.kp,EX⟩
 have pN:Binds K il ["picture", "block"] []:=fB.binds fun _ _ _ _ _ _ us hl=>by obtain ⟨_,_,rfl⟩:=us2 hl;rfl
 have bJ:i6 l.prog w K mg base _ _:=⟨n6 fB T az dW aS,Pp X G pP,fB.kp,pN⟩
 have E6:Binds K vm ["one", "other"] []:=rP.binds fun _ _ _ _ _ _ us hl=>by obtain ⟨_,_,rfl⟩:=us2 hl;rfl
 have iG:yD l.prog w K mg base _ _:=⟨BJ rP T ie,Pp X G Fh,rP.kp,E6⟩
 have pS:Binds K ij ["picture", "block"] []:=fM.binds fun _ _ _ _ _ _ us hl=>by obtain ⟨_,_,rfl⟩:=us2 hl;rfl
 have aY:jb l.prog w K mg base _ _:=⟨nX fM T aw eR dY,Pp X G pk,fM.kp,pS⟩
 have rk:Binds K jl ["picture", "blocks"] []:=gi.binds fun _ _ _ _ _ _ us hl=>by obtain ⟨_,_,rfl⟩:=us2 hl;rfl
 have bP:jN l.prog w K mg base _ _:=⟨pb gi T bJ aS,Pp X G qu,gi.kp,rk⟩
 have qO:Binds K iY ["picture", "blocks"] []:=f8.binds fun _ _ _ _ _ _ us hl=>by obtain ⟨_,_,rfl⟩:=us2 hl;rfl
 have bN:jK l.prog w K mg base _ _:=⟨pF f8 T aY dF iH kq,Pp X G qH,f8.kp,qO⟩
 have vZ:Binds K hW ["self", "picture"] []:=c9.binds fun _ _ _ _ _ _ us hl=>by obtain ⟨_,_,rfl⟩:=us2 hl;rfl
 have br:jn l.prog w K mg base _ _:=⟨tV c9 T bP,vZ,t8⟩
 have uF:Binds K ft ["self", "picture"] []:=c7.binds fun _ _ _ _ _ _ us hl=>by obtain ⟨_,_,rfl⟩:=us2 hl;rfl
 have aR:gq l.prog w K mg base _ _:=⟨t6 c7 T bN,uF,t9⟩
 have wz:Binds K lK ["form"] []:=iM.binds fun _ _ _ _ _ _ us hl=>by obtain ⟨_,rfl⟩:=us1 hl;rfl
 have dg:mS l.prog w K mg base _ _:=⟨ub iM T aR,Pp X G u6,iM.kp,wz⟩
 have vG:Binds K lR ["some", "form"] []:=jw.binds fun _ _ _ _ _ _ us hl=>by obtain ⟨_,_,rfl⟩:=us2 hl;rfl
 have bq:nk l.prog w K mg base _ _:=⟨tM jw T ic br,Pp X G vU,jw.kp,vG⟩
 have xp:Binds K my ["picture", "form", "most"] []:=jR.binds fun _ _ _ _ _ _ us hl=>by obtain ⟨_,_,_,rfl⟩:=us3 hl;rfl
 have dU:oh l.prog w K mg base _ _:=⟨uC jR T ie aR br,Pp X G xc,jR.kp,xp⟩
 have HV:Binds K As ["picture", "form", "most"] []:=zV.binds fun _ _ _ _ _ _ us hl=>by obtain ⟨_,_,_,rfl⟩:=us3 hl;rfl
 have nG:DI l.prog w K mg base _ _:=⟨Hg zV T dg dU,Pp X G Ix,zV.kp,HV⟩
 exact KU IJ T aQ gO dX nG bq iG aR A_Sum
theorem walk {l:OpenLaw} {q:Program} {loose:List Str} {XP:(Str -> Option Value) -> Heap -> Prop} {YP:World -> Heap -> Prop} {d:DefRec} {K:Params -> Frag} (hn:l.most = some 63) (hdf:d.params.defaults = [])
  (hY:∀ (w:World) (h:Heap),YP w h -> (K w.params).In h)
  (F:∀ (w:World) (mg:Str -> Option Value) (fa:Addr) (h:Heap),(K w.params).In h -> h.Ns mainGlobals mg -> mg d.name = some (.ref fa) ->
   ∃ fd:FuncData,(∀ (s:Shared) (u:Value),BindsTo s fd ⟨[u],[]⟩ [("_law_script",u)]) /\ ∀ base:Heap,(K w.params).In base -> base.Ns mainGlobals mg -> FnOk l.prog w (K w.params) mg base CX0 10 fa fd ["_law_script"] (zc (K w.params))) :
  WalkO q loose XP YP l.row.toRowW d [] (fun f vs=>PySem.call f vs):=
 L2.Iw (n:=63) (k:=10) (x := "_law_script") (CX:=fun _=>CX0) (sp:=fun w=>zc (K w.params)) hn (by decide) hdf ⟨rfl,by decide,by decide⟩ hY F (fun _ H a ns hl _ hS=>M.E7 hS (F6 ns hl)) fun _ _ _ _ _ z=>z
end Lw
open PySem PySem.W PyProof.Rows
set_option maxRecDepth 100000 in
set_option maxHeartbeats 0 in
theorem PySem.Challenge.cw_shapethin_k66_whole_cores_make_the_pictu_holds : PySem.Challenge.rw_shapethin_k66_whole_cores_make_the_pictu.Holds := by
 w_on;refine holds_law Hd.e2 fun said=>?_
 refine holds_open (q:=Hd.q) (XP:=XL Hd.q []) (YP:=Hook.says Hd.H) (N:=100000) Hd.e1 (Hook.of Hd.H) (Hook.keeps Hd.H) (fun s e=>xl_of s (Bool.and_eq_true_iff.mp e).1) XL.keeps (by rfl) (by rfl) (by rfl) (fun s e=>recFacts_of (Bool.and_eq_true_iff.mp e).2) (by rfl) (by assumption) (by decide +kernel) ⟨rfl,rfl,rfl,rfl,rfl,by decide +kernel⟩ ?hw ?hc
 case hw=>w_witness2
 refine Lw.walk (l := PySem.Challenge.rw_shapethin_k66_whole_cores_make_the_pictu) rfl rfl (fun w h Y => kIn_of Y) ?F
 case F=>
  intro w mg fa h KX G hmg
  refine' Lw.KZ KX G hmg ?x0 ?x1 ?x2 ?x3 ?x4 ?x5 ?x6 ?x7 ?x8 ?x9 ?x10 ?x11 ?x12 ?x13 ?x14 ?x15 ?x16 ?x17 ?x18 ?x19 ?x20 ?x21 ?x22 ?x23 ?x24 ?x25 ?x26 ?x27 ?x28 ?x29 ?x30 ?x31 ?x32 ?x33 ?x34 ?x35 ?x36 ?x37 ?x38 ?x39 ?x40 ?x41 ?x42 ?x43 ?x44 ?x45 ?x46 ?x47 ?x48 ?x49 ?x50 ?x51 ?x52 ?x53 ?x54 ?x55 ?x56 ?x57 ?x58 ?x59 ?x60 ?x61 ?x62 ?x63 ?x64 ?x65 ?x66 ?x67 ?x68 ?x69 ?x70 ?x71 ?x72 ?x73 ?x74 ?x75 ?x76 ?x77 ?x78 ?x79 ?x80 ?x81 ?x82 ?x83 ?x84 ?x85 ?x86 ?x87 ?x88 ?x89 ?x90 ?x91 ?x92 ?x93 ?x94 ?x95 ?x96 ?x97 ?x98 ?x99 ?x100 ?x101 ?x102 ?x103 ?x104 ?x105 ?x106 ?x107 ?x108 ?x109 ?x110 ?x111 ?x112 ?x113 ?x114 ?x115 ?x116 ?x117 ?x118 ?x119 ?x120 ?x121 ?x122 ?x123 ?x124 ?x125 ?x126 ?x127 ?x128 ?x129 ?x130 ?x131 ?x132 ?x133 ?x134 ?x135 ?x136 ?x137 ?x138 ?x139 ?x140 ?x141 ?x142 ?x143 ?x144 ?x145 ?x146 ?x147 ?x148 ?x149 ?x150 ?x151 ?x152 ?x153
  case x0 | x1 | x2 | x3 | x4 | x5 | x6 | x7 | x8 | x9 | x10 | x11 | x12 | x13 | x14 | x15 | x16 | x17 | x18 | x19 | x20 | x21 | x22 | x23 | x24 | x25 | x26 | x27 | x28 | x29 | x30 | x31 | x32 | x33 | x34 | x35 | x36 | x37 | x38 | x39 | x40 | x41 | x42 | x43 | x44 | x45 | x46 | x47 | x48 | x49 | x50 | x51 | x52 | x53 | x54 | x55=>k_is
  case x56 | x57 | x58 | x59 | x60 | x61 | x62 | x63 | x64 | x65 | x66 | x67 | x68 | x69 | x70 | x71 | x72 | x73 | x74 | x75 | x76 | x77 | x78 | x79 | x80 | x81 | x82 | x83 | x84 | x85 | x86 | x87 | x88 | x89 | x90 | x91 | x92 | x93 | x94 | x95 | x96 | x97 | x98 | x99=>exact L2.KY (by k_is) (by k_is) (by k_is)
  case x100 | x101 | x102 | x103 | x104 | x105 | x106 | x107 | x108 | x109 | x110 | x111 | x112 | x113 | x114 | x115 | x116 | x117 | x118 | x119 | x120 | x121 | x122 | x123 | x124 | x125 | x126 | x127 | x128 | x129 | x130 | x131 | x132 | x133 | x134 | x135 | x136 | x137 | x138 | x139 | x140 | x141 | x142 | x143 | x144 | x145 | x146 | x147 | x148 | x149 | x150 | x151 | x152 | x153=>k_is

import PyProof.Rows.All
import Wide.All
import OpenK.AllK
import Wide.FinOn
import Lean
import PyProof.EqAt
import PyProof.EqKinds
import PyProof.TupleCall
import PySem.Challenge.RW_shapethin_k64_too_many_cores
set_option genSizeOf false
set_option bootstrap.genMatcherCode false
set_option compiler.extract_closed false
set_option linter.all false
set_option maxHeartbeats 4000000
set_option maxRecDepth 100000
def Pb:=@if_pos
def Pc:=@if_neg
def Pe:=@PyProof.Rows.wpS_pure
def Pf:=@PyProof.Rows.wpS_bind
def Pg:=@PySem.wpAny_bind
def Ph:=@List.length_map
def Pi:=@List.mem_singleton
def Pj:=@Nat.le_refl
def Pl:=@PySem.wpAny_pure
def Pm:=@List.mem_cons_self
def Po:=@List.mem_cons_of_mem
def Pp:=@PySem.W.mg_of
def Pq:=@List.mem_cons
def Pr:=@List.mem_append_right
def Ps:=@List.length_append
def Pt:=@List.mem_map
def Pu:=@List.mem_append
def Pv:=@PySem.Heap.lt_size
def Pw:=@List.length_cons
def Px:=@List.map_cons
def Py:=@List.mem_append_left
def Pz:=@PySem.Heap.get?_push_of_some
def PC:=@Int.le_refl
def PD:=@Nat.ne_of_lt
def PF:=@List.getElem?_eq_some_iff
def PH:=@Array.map_reverse
def PK:=@List.size_toArray
def PL:=@List.mem_filter
def PM:=@Ne.symm
def PN:=@List.getElem?_map
def PP:=@List.map_map
def PQ:=@congrArg
def PR:=@Nat.le_trans
def PU:=@PyProof.Rows.wpS_mono
def PV:=@PyProof.Rows.wpS_forRange
def PX:=@decide_eq_false
def PY:=@Nat.lt_of_lt_of_le
def PZ:=@List.append_assoc
def P1:=@List.getElem?_set_ne
def P5:=@List.lookup_cons
def P6:=@Option.some.inj
def P7:=@PySem.Heap.get?_push_size
def P8:=@Nat.zero_le
def P9:=@PySem.wpAny_mono
def Qa:=@List.append_nil
def Qb:=@PySem.sizeLine_eq
def Qc:=@List.pairwise_append
def Qd:=@PyProof.Rows.wpS_modify
def Qe:=@Array.length_toList
def Qf:=@beq_iff_eq
def Qg:=@List.length_set
def Qh:=@Bool.and_eq_true
def Qi:=@List.getElem?_eq_getElem
def Qj:=@PyProof.Rows.wpS_get
def Qk:=@PySem.PassesOwn.never
def Ql:=@Nat.le_of_lt
def Qm:=@List.length_singleton
def Qn:=@List.getElem?_of_mem
def Qo:=@Nat.add_mul
def Qp:=@Nat.le_of_eq
def Qq:=@List.nodup_cons
def Qr:=@PySem.wpAny_newObj_type
def Qs:=@List.pairwise_map
def Qt:=@Iff.rfl
def Qu:=@List.eq_nil_or_concat
def Qv:=@List.length_filter_le
def Qw:=@List.map_append
def Qx:=@List.sum_cons
def Qy:=@of_decide_eq_false
def Qz:=@List.concat_eq_append
def QA:=@PySem.W.mg_none_of
def QB:=@Nat.lt_irrefl
def QC:=@PySem.wpAny_holding
def QD:=@decide_eq_true
def QE:=@PySem.wpAny_rule
def QF:=@of_decide_eq_true
def QG:=@Nat.lt_of_le_of_lt
def QH:=@List.getElem?_set_self
def QI:=@PySem.Heap.size_push
def QJ:=@Nat.le_succ
def QK:=@if_true
def QL:=@PySem.wpAny_field
def QM:=@List.pairwise_iff_getElem
def QN:=@PyProof.Rows.wpS_lift
def QO:=@Array.map_push
def QP:=@Nat.zero_add
def QQ:=@Nat.mul_le_mul_right
def QR:=@PySem.F.plainAttrs_list
def QS:=@List.filterMap_cons
def QT:=@PySem.wpAny_passesOwn
def QU:=@Bool.false_ne_true
def QV:=@PySem.mem_of_lookup
def QW:=@List.mem_of_getElem?
def QX:=@Array.toList_append
def QY:=@List.drop_of_length_le
def QZ:=@Array.getElem?_toList
def Q0:=@List.length_eq_zero_iff
def Q1:=@PySem.wpAny_of_eq
def Q2:=@Nat.lt_succ_self
def Q3:=@List.length_take
def Q4:=@List.getElem?_append_right
def Q5:=@PyProof.Rows.slot_tuple_getitem
def Q6:=@PySem.wpAny_call_entry
def Q7:=@PySem.wpAny_attempt
def Q8:=@Array.toList_push
def Q9:=@List.nodup_append
def Ra:=@PySem.typeLookup_type
def Rb:=@PySem.builtinLookup_eq_fast
def Rc:=@PySem.isSubtype_type
def Re:=@List.pairwise_cons
def Rf:=@PySem.F.slot_list_append
def Rg:=@PySem.F.type_list_append
def Rh:=@List.mem_range
def Ri:=@PySem.wpAny_execs_nil
def Rj:=@List.mem_filterMap
def Rk:=@PySem.codeAny_mono
def Rm:=@PySem.wpAny_Call_Name_kw
def Ro:=@List.getElem?_append_left
def Rp:=@Nat.lt_succ_of_lt
def Rq:=@Array.perm_iff_toList_perm
def Rr:=@List.drop_eq_getElem_cons
def Rs:=@Array.toList_extract
def Rt:=@List.extract_eq_take_drop
def Ru:=@List.getElem?_drop
def Rv:=@List.take_of_length_le
def Rx:=@List.ext_getElem?
def Ry:=@List.zip_cons_cons
def Rz:=@List.getElem?_eq_none_iff
def RA:=@List.mem_flatMap
def RB:=@List.length_flatMap
def RD:=@Nat.mul_le_mul_left
def RE:=@beq_eq_false_iff_ne
def RG:=@PySem.wpAny_execs_cons
def RH:=@PyProof.Rows.callWith_type1
def RI:=@PySem.W.looks_findIn
def RJ:=@PySem.wpAny_callSpecial?_slot
def RK:=@List.pairwise_singleton
def RL:=@List.getElem?_take
def RM:=@List.mem_reverse
def RN:=@PySem.Obj.data_mapFields
def RP:=@Bool.not_eq_true'
def RQ:=@List.getElem?_eq_none
def RS:=@List.length_nil
def RT:=@List.length_range
def RU:=@Nat.mul_le_mul
def RV:=@List.length_replicate
def RX:=@PySem.F.slot_tuple_add
def RY:=@PySem.F.entry_tuple_add
def RZ:=@PySem.F.args_tuple_add_2
def R0:=@PySem.Heap.get?_update_self
def R5:=@PySem.wpAny_comprehension_free
def R6:=@List.take_append_drop
def R7:=@List.pairwise_reverse
def R8:=@List.getD_eq_getElem?_getD
def R9:=@List.getElem?_reverse
def Sa:=@List.filter_cons
def Sb:=@List.Pairwise.filter
def Sc:=@decide_eq_false_iff_not
noncomputable section
namespace Hd
open PySem PySem.W PySem.Calls PyProof.Rows
def E7 (stp:SharedT -> Thread -> Option (SharedT × Thread)) (ok:Thread -> Bool):Nat -> SharedT -> Thread -> Option SharedT
 | 0,_,_=>none
 | n + 1,s,t=>match through t with
  | true=>some s
  | false=>match ok t with
   | false=>none
   | true=>match stp s t with
    | some (s',t')=>E7 stp ok n s' t'
    | none=>none
theorem wT {tb:String -> Option Builtin} {p:Program} {w:World} {n₀:Nat} {ann:Option Value}:∀ (n:Nat) (s:SharedT) (t:Thread) (r:SharedT),E7 (stepT (denote tb) p w) (stepOk n₀ ann) n s t = some r -> topRun tb p w n₀ ann n s.abs t = some r.abs
 | 0,_,_,_,h=>by cases h
 | n + 1,s,t,r,h=>by
  unfold E7 at h
  unfold topRun
  cases ht:through t with
  | true=>rw [ht] at h;cases h;rfl
  | false=>
   rw [ht] at h
   cases hk:stepOk n₀ ann t with
   | false=>rw [hk] at h;cases h
   | true=>
    rw [hk] at h
    cases hs:stepT (denote tb) p w s t with
    | none=>rw [hs] at h;cases h
    | some x=>
     obtain ⟨s',t'⟩:=x
     rw [hs] at h
     rw [stepT_spec hs]
     exact wT n s' t' r h
def GW:List Obj -> Nat -> BT -> BT
 | [],_,t=>t
 | o :: l,n,t=>GW l (n + 1) (t.ins n o)
def T0 (P:Params):BT:=GW (boot_heap P).objs.toList 0 .nil
theorem LN (P:Params):absHeap (T0 P) 11 (boot_heap P).life = boot_heap P:=by kernel_rfl
theorem sz (P:Params):((boot_heap P).isNs mainGlobals,(boot_heap P).objs.size,(boot_heap P).nsMap mainGlobals "__annotations__") = (true,11,some (.ref 6)):=by kernel_rfl
def S0 (w:World) (os:OsState):SharedT:=⟨T0 w.params,11,(boot_heap w.params).life,Array.mk [],boot_drawn,boot_toks,os⟩
theorem Ho {p q:Program} {loose:List Str} {Xt:Shared -> Bool} {α:Type} {Yf:Shared -> α} {Ya:World -> α} {N M:Nat} {g0:Bool}
  (open_:∀ w:World,(fencedOpening treeTable p w N).map (fun s=>(s.heap,s.gens,s.drawn,s.toks)) = some (boot_heap w.params,Array.mk [],boot_drawn,boot_toks)) (le:Nat.ble M N = true)
  (big:∀ w:World,(fun os=>(E7 (stepT (denote treeTable) p w) (stepOk 11 (some (.ref 6))) M (S0 w os) (topStub p)).map fun r=>((staticsOk (importedModules p.main.body) (boot_heap w.params) r.abs.heap && namesBound p r.abs.heap && gensDone r.abs && laidKept (boot_heap w.params) r.abs.heap),
    openSeen q loose (importedModules p.main.body) Xt g0 r.abs,Yf r.abs)) = fun _=>some (true,openGood q loose,Ya w)):LeftO p q loose Xt Yf Ya N g0:=fun w=>by
 obtain ⟨⟨h,gs,d,k,os⟩,e,e'⟩:=Option.map_eq_some_iff.mp (open_ w)
 obtain ⟨rfl,rfl,rfl,rfl⟩:h = boot_heap w.params /\ gs = Array.mk [] /\ d = boot_drawn /\ k = boot_toks:=by simpa using e'
 obtain ⟨z1,z2,z3⟩:_ /\ _ /\ _:=by simpa only [Prod.mk.injEq] using sz w.params
 obtain ⟨r,hr,hb⟩:=Option.map_eq_some_iff.mp (congrFun (big w) os)
 obtain ⟨l1,l2,l3⟩:_ /\ _ /\ _:=by simpa only [Prod.mk.injEq] using hb
 have ha:(S0 w os).abs = ⟨boot_heap w.params,Array.mk [],boot_drawn,boot_toks,os⟩:=by
  unfold S0 SharedT.abs
  dsimp only
  rw [LN]
 have t:=topRun_mono (N - M) _ _ _ _ (wT _ _ _ _ hr)
 rw [show M + (N - M) = N by have:=Nat.le_of_ble_eq_true le;lia,ha] at t
 have t2:topFrom treeTable p w N ⟨boot_heap w.params,Array.mk [],boot_drawn,boot_toks,os⟩ = some r.abs:=by
  unfold topFrom
  dsimp only
  rw [z1,z2,z3,t]
  show (match staticsOk (importedModules p.main.body) (boot_heap w.params) r.abs.heap && namesBound p r.abs.heap && gensDone r.abs && laidKept (boot_heap w.params) r.abs.heap with | true=>_ | false=>_) = _
  rw [l1]
 unfold openEnds
 rw [e]
 show (topFrom treeTable p w N _).map _ = _
 rw [t2]
 exact PQ some (Prod.ext l2 l3)
theorem Hl {p q:Program} {loose:List Str} {Xt:Shared -> Bool} {α:Type} {Yf:Shared -> α} {Ya:World -> α} {g0:Bool}
  (open_:∀ w:World,(fencedOpening treeTable p w 100000).map (fun s=>(s.heap,s.gens,s.drawn,s.toks)) = some (boot_heap w.params,Array.mk [],boot_drawn,boot_toks))
  (big:∀ w:World,(fun os=>(E7 (Fast.tw10156331382660048174 (Fast.tw11892475500146522536 Fast.tw14364793385576792824) p w) (Fast.tw6613529449190102663 11 (some (.ref 6))) 100000 (S0 w os) (topStub p)).map fun r=>((staticsOk (Fast.tw5923862056798008813 p.main.body) (boot_heap w.params) r.abs.heap && namesBound p r.abs.heap && gensDone r.abs && laidKept (boot_heap w.params) r.abs.heap),
    Fast.tw4187177175401517315 q loose (Fast.tw5923862056798008813 p.main.body) Xt g0 r.abs,Yf r.abs)) = fun _=>some (true,openGood q loose,Ya w)):LeftO p q loose Xt Yf Ya 100000 g0:=by
 rw [<- Fast.te10156331382660048174,<- Fast.te11892475500146522536,<- Fast.te14364793385576792824,<- Fast.te6613529449190102663,<- Fast.te5923862056798008813,<- Fast.te4187177175401517315] at big
 exact Ho open_ rfl big
theorem Hu {l:OpenLaw} (h:Fast.tw9446332074065402090 l = true):l.wellSaid = true:=by
 rw [Fast.te9446332074065402090]
 exact h
end Hd
set_option Elab.async false
section
open PySem PySem.W PyProof.Rows
def Hd.q : Program := view PySem.Challenge.pw_shapethin_k64_too_many_cores [0, 2, 3, 4, 5, 6, 7, 8, 9, 11, 12, 13, 14, 15, 16, 17, 19, 20, 21, 22, 23, 24, 25, 26, 27, 29, 30, 31, 32, 33, 34, 35, 36, 37, 38, 39, 40, 41, 42, 43, 44, 46, 47, 48, 50, 51, 52, 53, 54, 55]
local macro_rules | `(tactic| o_head $_)=>`(tactic| assumption)
set_option maxHeartbeats 0 in
theorem Hd.e0 : PySem.Challenge.rw_shapethin_k64_too_many_cores.row.Holds -> PySem.Challenge.rw_shapethin_k64_too_many_cores.row.Holds := by intro h; w_on; k_head
def Hd.as:List Addr:=(Hd.e0.heap_1 { strHash:=fun _=>0,shareClass:=fun _=>0,mergeTok:=id,idOf:=fun _=>0,idOfShared:=fun _ _=>0,followText:=fun _=>true,idOfImm:=fun _=>0 }).map (·.1)
theorem Hd.ae (P:Params):Hd.as = (Hd.e0.heap_1 P).map (·.1):=by kernel_rfl
abbrev Hd.H:Hook:=kHook Hd.e0.heap_1 Hd.as Hd.ae
set_option maxHeartbeats 0 in
theorem Hd.e1 : LeftO PySem.Challenge.rw_shapethin_k64_too_many_cores.row.prog Hd.q [] (fun s => xlAt Hd.q [] s && recOk (RowW.records (OpenRow.toRowW (OpenLaw.row PySem.Challenge.rw_shapethin_k64_too_many_cores))) s) (Hook.obs Hd.H) (Hook.val Hd.H) 100000 := Hd.Hl (boot_open (by rfl) rfl (fun s => rfl)) (by intro w; kernel_rfl)
set_option maxHeartbeats 0 in
theorem Hd.e2 : PySem.Challenge.rw_shapethin_k64_too_many_cores.wellSaid = true := Hd.Hu (by kernel_rfl)
end
set_option Elab.async false
set_option linter.all false
set_option maxRecDepth 100000
namespace L2
open PySem PySem.Spec PyProof.Rows
abbrev Key:=Sum Int Str
def Jl:Key -> Value -> Bool
 | .inl k,v=>Value.isInt k v
 | .inr x,v=>Value.isStrOf x v
def NK (w:World):Key -> Int
 | .inl k=>hashInt k
 | .inr x=>hashStr w x
theorem cF:∀ {k:Key} {v:Value},Jl k v = true -> (∃ i t,k = Sum.inl i /\ v = Value.int i t) \/ (∃ x t,k = Sum.inr x /\ v = Value.str x t)
 | .inl i,v,h=>by
  obtain ⟨t,e⟩:=Value.isInt_shape (k:=i) (v:=v) h
  exact .inl ⟨i,t,rfl,e⟩
 | .inr x,v,h=>by
  obtain ⟨t,e⟩:=Value.isStrOf_shape (x:=x) (v:=v) h
  exact .inr ⟨x,t,rfl,e⟩
theorem La (a b:Int):decide ((Sum.inl a:Key) = Sum.inl b) = (a == b):=by
 by_cases e:a = b
 ·subst e;simp
 ·have h:¬ (Sum.inl a:Key) = Sum.inl b:=fun q=>e (Sum.inl.inj q)
  rw [PX h]
  exact (RE.mpr e).symm
theorem Kt (a b:Str):decide ((Sum.inr a:Key) = Sum.inr b) = decide (a = b):=by
 by_cases e:a = b
 ·subst e;simp
 ·have h:¬ (Sum.inr a:Key) = Sum.inr b:=fun q=>e (Sum.inr.inj q)
  rw [PX h,PX e]
theorem JF (a:Int) (b:Str):decide ((Sum.inl a:Key) = Sum.inr b) = false:=PX (fun q=>nomatch q)
theorem Kk (a:Str) (b:Int):decide ((Sum.inr a:Key) = Sum.inl b) = false:=PX (fun q=>nomatch q)
def y8 (prog:Program) (w:World):PySem.KeyKind prog w Key where
 is:=Jl
 hash:=NK w
 inj:=fun v a b ha hb=>by
  rcases cF ha with ⟨i,t,rfl,rfl⟩ | ⟨x,t,rfl,rfl⟩
  ·rcases cF hb with ⟨j,u,rfl,e⟩ | ⟨y,u,rfl,e⟩
   ·injection e with e1 _;rw [e1]
   ·exact nomatch e
  ·rcases cF hb with ⟨j,u,rfl,e⟩ | ⟨y,u,rfl,e⟩
   ·exact nomatch e
   ·injection e with e1 _;rw [e1]
 byValue:=fun k v h=>by
  rcases cF h with ⟨i,t,rfl,rfl⟩ | ⟨x,t,rfl,rfl⟩ <;> rfl
 pyHash:=fun hv h=>by
  rcases cF hv with ⟨i,t,rfl,rfl⟩ | ⟨x,t,rfl,rfl⟩
  ·exact wpAny_pyHash_int h
  ·exact wpAny_pyHash_str h
 eqBool:=fun hu hv h=>by
  rcases cF hu with ⟨i,t,rfl,rfl⟩ | ⟨x,t,rfl,rfl⟩
  ·rcases cF hv with ⟨j,u,rfl,rfl⟩ | ⟨y,u,rfl,rfl⟩
   ·rw [La] at h;exact wpAny_eqBool_int h
   ·rw [JF] at h;exact SeqAt.EqAt.int_str i t y u _ _ _ _ h
  ·rcases cF hv with ⟨j,u,rfl,rfl⟩ | ⟨y,u,rfl,rfl⟩
   ·rw [Kk] at h;exact SeqAt.EqAt.str_int x t j u _ _ _ _ h
   ·rw [Kt] at h;exact wpAny_eqBool_str h
 «strs»:=fun k x t v h=>by
  rcases cF h with ⟨i,u,rfl,e⟩ | ⟨y,u,rfl,e⟩
  ·exact nomatch e
  ·injection e with e1 _
   subst e1
   cases v <;> rfl
inductive V where
 | non | bl (b:Bool) | int (i:Int) | str (x:Str) | byt (b:Array UInt8) | flt (b:UInt64) | ref (a:Addr) | ty (n:String)
 deriving DecidableEq
def RelV:V -> Value -> Prop
 | .non,u=>u = Value.none
 | .bl b,u=>u = Value.bool b
 | .int i,u=>∃ t,u = Value.int i t
 | .str x,u=>∃ t,u = Value.str x t
 | .byt b,u=>∃ t,u = Value.bytes b t
 | .flt b,u=>∃ t,u = Value.float b t
 | .ref a,u=>u = Value.ref a
 | .ty n,u=>u = Value.type n
abbrev Vals:List V -> List Value -> Prop:=Paired RelV
theorem Vals.length {xs:List V} {us:List Value} (r:Vals xs us):xs.length = us.length:=Paired.length r
theorem Vals.get:∀ {xs:List V} {us:List Value} {i:Nat} {x:V},Vals xs us -> xs[i]? = some x -> ∃ u,us[i]? = some u /\ RelV x u
 | _,_,_,_,.nil,e=>by simp at e
 | _,_,0,_,.cons r _,e=>by simp at e;subst e;exact ⟨_,rfl,r⟩
 | _,_,i + 1,x,.cons _ t,e=>by
  obtain ⟨u,h1,h2⟩:=Vals.get (i:=i) (x:=x) t (by simpa using e)
  exact ⟨u,by simpa using h1,h2⟩
theorem Vals.set {x:V} {u:Value} (r:RelV x u):∀ {xs:List V} {us:List Value} (i:Nat),Vals xs us -> Vals (xs.set i x) (us.set i u)
 | _,_,_,.nil=>.nil
 | _,_,0,.cons _ t=>.cons r t
 | _,_,i + 1,.cons q t=>.cons q (Vals.set r i t)
theorem Vals.append:∀ {xs ys:List V} {us ws:List Value},Vals xs us -> Vals ys ws -> Vals (xs ++ ys) (us ++ ws)
 | _,_,_,_,.nil,s=>s
 | _,_,_,_,.cons r t,s=>.cons r (Vals.append t s)
theorem Vals.take:∀ {xs:List V} {us:List Value} (n:Nat),Vals xs us -> Vals (xs.take n) (us.take n)
 | _,_,0,_=>.nil
 | _,_,_ + 1,.nil=>.nil
 | _,_,n + 1,.cons r t=>.cons r (Vals.take n t)
theorem Vals.drop:∀ {xs:List V} {us:List Value} (n:Nat),Vals xs us -> Vals (xs.drop n) (us.drop n)
 | _,_,0,r=>r
 | _,_,_ + 1,.nil=>.nil
 | _,_,n + 1,.cons _ t=>Vals.drop n t
def RelO:Option V -> Option Value -> Prop
 | some v,some u=>RelV v u
 | none,none=>True
 | _,_=>False
def KV {κ:Type}:List (κ × V) -> List (κ × Value) -> Prop:=Paired fun (p:κ × V) (q:κ × Value)=>p.1 = q.1 /\ RelV p.2 q.2
def kV:Key -> V
 | .inl i=>.int i
 | .inr x=>.str x
inductive HO where
  | lst (xs:List V)
  | tup (xs:List V)
  | dK (kvs:List (Key × V)) | dT (kvs:List (List Key × V))
  | set (S:Int -> Bool) (n:Nat)
  | ins (C dx:Addr) (fs:List (Str × V))
  | own (x:Addr)
  | xd (fs:List (Str × V))
  | met (f x:Addr)
  | rng (lo hi:Int)
  | frz (o:Obj) (u:HO)
  | tbl (ps:Array Value)
  | ext (φ:Heap -> Prop)
abbrev Hp:=Addr -> Option HO
def upd (H:Hp) (a:Addr) (o:HO):Hp:=fun b=>if b = a then some o else H b
theorem aY {H:Hp} {a:Addr} {o:HO}:upd H a o a = some o:=by unfold upd;rw [Pb rfl]
theorem aP {H:Hp} {a b:Addr} {o:HO} (h:b ≠ a):upd H a o b = H b:=by unfold upd;rw [Pc h]
theorem aR {H:Hp} {a b:Addr} {o:HO} (h:H a = some o) (h':H b = none):a ≠ b:=by
 intro e;subst e;rw [h] at h';cases h'
section
variable (P:Program) (w:World)
def ObjOk (H:Hp) (h:Heap) (a:Addr):HO -> Prop
 | .lst xs=>xs.length <= sizeLine /\ ∃ (its:List Value) (n:Nat),Vals xs its /\ h.get? a = some { cls:=.type "list",data:=.seq its.toArray n }
 | .tup xs=>xs.length <= sizeLine /\ ∃ its:List Value,Vals xs its /\ IsTup h a its.toArray
 | .dK kvs=>kvs.length <= sizeLine /\ (a == sysModules) = false /\ ∃ vs,KV kvs vs /\ h.DictOf (y8 P w) a vs
 | .dT kvs=>kvs.length <= sizeLine /\ (a == sysModules) = false /\ ∃ xs:List (List Key × Addr × Value),
   Paired (fun (p:List Key × V) (q:List Key × Addr × Value)=>p.1 = q.1 /\ H q.2.1 = some (.tup (p.1.map kV)) /\ RelV p.2 q.2.2) kvs xs /\
   ∃ o es ep,h.get? a = some o /\ o.ExactDict /\ o.data = .dict es ep /\ es.toList = xs.map (entryOfKey (tupleKind (y8 P w))) /\ (xs.map (·.1)).Nodup
 | .set S n=>h.SetOf (intKind P w) a S n
 | .ins C dx fs=>H dx = some (.own a) /\ fs.length <= 1000 /\ dx ≠ a /\ h.get? a = some (W.instObj C dx) /\
   ∃ mA,h.Ns1 dx mA /\ (∀ f,RelO (fs.lookup f) (mA f)) /\ PySem.Within mA (fs.map (·.1))
 | .own _=>∃ o,h.get? a = some o
 | .xd fs=>∃ mA,h.Ns1 a mA /\ ∀ f,RelO (fs.lookup f) (mA f)
 | .rng lo hi=>∃ t u v,h.get? a = some { cls:=.type "range",data:=.fields #[.int lo t,.int hi u,.int 1 v] }
 | .frz o u=>h.get? a = some o /\ ObjOk H h a u
 | .tbl ps=>h.get? a = some { cls:=.none,data:=.fields ps }
 | .met f x=>h.get? a = some (W.methodObj (.ref f) (.ref x))
 | .ext φ=>φ h /\ (∃ o,h.get? a = some o) /\ ∀ h1 h2:Heap,φ h1 -> (∀ o,h1.get? a = some o -> h2.get? a = some o) -> φ h2
def HOk (H:Hp) (h:Heap):Prop:=∀ a o,H a = some o -> ObjOk P w H h a o
end
section
variable {P:Program} {w:World} {H H':Hp} {h h':Heap} {a:Addr} {o:HO}
theorem ObjOk.lt (x:ObjOk P w H h a o):a < h.objs.size:=by
 cases o with
 | lst xs=>obtain ⟨_,_,_,_,e⟩:=x;exact Pv e
 | tup xs=>obtain ⟨_,_,_,p⟩:=x;exact p.lt
 | dK kvs=>obtain ⟨_,_,_,_,o,_,_,e,_⟩:=x;exact Pv e
 | dT kvs=>obtain ⟨_,_,_,_,o,_,_,e,_⟩:=x;exact Pv e
 | set S n=>obtain ⟨o,_,_,_,e,_⟩:=x;exact Pv e
 | ins C dx fs=>obtain ⟨_,_,_,e,_⟩:=x;exact Pv e
 | own y=>obtain ⟨_,e⟩:=x;exact Pv e
 | xd fs=>obtain ⟨_,⟨_,_,_,e,_⟩,_⟩:=x;exact Pv e
 | rng lo hi=>obtain ⟨_,_,_,e⟩:=x;exact Pv e
 | frz ob u=>obtain ⟨e,_⟩:=x;exact Pv e
 | tbl ps=>exact Pv (show h.get? a = some _ from x)
 | met f y=>exact Pv (show h.get? a = some _ from x)
 | ext φ=>obtain ⟨_,⟨_,e⟩,_⟩:=x;exact Pv e
theorem Paired.mapP {α β:Type} {F G:α -> β -> Prop}:∀ {l₁:List α} {l₂:List β},Paired F l₁ l₂ -> (∀ a b,F a b -> G a b) -> Paired G l₁ l₂
 | _,_,.nil,_=>.nil
 | _,_,.cons r t,f=>.cons (f _ _ r) (Paired.mapP t f)
theorem ObjOk.stay (x:ObjOk P w H h a o) (k:∀ b u,(b = a \/ H b = some (.own a)) -> h.get? b = some u -> h'.get? b = some u)
  (ho:∀ b,H b = some (.own a) -> H' b = some (.own a)) (ht:∀ b xs,H b = some (.tup xs) -> H' b = some (.tup xs)):ObjOk P w H' h' a o:=by
 induction o with
 | lst xs=>obtain ⟨z,its,n,r,e⟩:=x;exact ⟨z,its,n,r,k _ _ (.inl rfl) e⟩
 | tup xs=>obtain ⟨z,its,r,ob,e,c⟩:=x;exact ⟨z,its,r,ob,k _ _ (.inl rfl) e,c⟩
 | dK kvs=>obtain ⟨z,y,vs,r,ob,es,ep,e,c⟩:=x;exact ⟨z,y,vs,r,ob,es,ep,k _ _ (.inl rfl) e,c⟩
 | dT kvs=>
  obtain ⟨z,y,xs,r,ob,es,ep,e,c⟩:=x
  exact ⟨z,y,xs,Paired.mapP r fun p q z=>⟨z.1,ht _ _ z.2.1,z.2.2⟩,ob,es,ep,k _ _ (.inl rfl) e,c⟩
 | set S n=>obtain ⟨ob,es,ep,t,e,c⟩:=x;exact ⟨ob,es,ep,t,k _ _ (.inl rfl) e,c⟩
 | ins C dx fs=>
  obtain ⟨d,z,ne,e,mA,⟨od,es,ep,e2,c⟩,r⟩:=x
  exact ⟨ho _ d,z,ne,k _ _ (.inl rfl) e,mA,⟨od,es,ep,k _ _ (.inr d) e2,c⟩,r⟩
 | own y=>obtain ⟨ob,e⟩:=x;exact ⟨ob,k _ _ (.inl rfl) e⟩
 | xd fs=>obtain ⟨mA,⟨od,es,ep,e,c⟩,r⟩:=x;exact ⟨mA,⟨od,es,ep,k _ _ (.inl rfl) e,c⟩,r⟩
 | rng lo hi=>obtain ⟨t,u,v,e⟩:=x;exact ⟨t,u,v,k _ _ (.inl rfl) e⟩
 | frz ob u ih=>obtain ⟨e,q⟩:=x;exact ⟨k _ _ (.inl rfl) e,ih q⟩
 | tbl ps=>
  have e:h.get? a = some { cls:=.none,data:=.fields ps }:=x
  show h'.get? a = some { cls:=.none,data:=.fields ps }
  exact k a _ (.inl rfl) e
 | met f y=>
  have e:h.get? a = some (W.methodObj (.ref f) (.ref y)):=x
  show h'.get? a = some (W.methodObj (.ref f) (.ref y))
  exact k a _ (.inl rfl) e
 | ext φ=>obtain ⟨p,⟨o,e⟩,st⟩:=x;exact ⟨st _ _ p fun o q=>k _ _ (.inl rfl) q,⟨o,k _ _ (.inl rfl) e⟩,st⟩
theorem HOk.lt (x:HOk P w H h) (e:H a = some o):a < h.objs.size:=(x a o e).lt
theorem HOk.fresh (x:HOk P w H h) (e:h.objs.size <= a):H a = none:=by
 cases q:H a with
 | none=>rfl
 | some u=>exact absurd (PY (x.lt q) e) (QB _)
theorem HOk.kept (x:HOk P w H h) (k:∀ b u,h.get? b = some u -> h'.get? b = some u):HOk P w H h':=fun a o e=>
 (x a o e).stay (fun b u _ q=>k b u q) (fun _ q=>q) fun _ _ q=>q
theorem HOk.laid (x:HOk P w H h) (k:∀ b u,h.get? b = some u -> h'.get? b = some u) (hp:h.objs.size <= a) (new:ObjOk P w (upd H a o) h' a o):HOk P w (upd H a o) h':=fun b u e=>by
 have hn:=x.fresh hp
 by_cases hb:b = a
 ·subst hb;rw [aY] at e;cases e;exact new
 ·rw [aP hb] at e
  exact (x b u e).stay (fun c v _ q=>k c v q) (fun c q=>by rw [aP (aR q hn)];exact q) fun c xs q=>by rw [aP (aR q hn)];exact q
end
def Rd (H:Hp) (a:Addr) (u:HO):Prop:=H a = some u \/ ∃ o,H a = some (.frz o u)
theorem Rd.ok {P:Program} {w:World} {H:Hp} {h:Heap} {a:Addr} {u:HO} (r:Rd H a u) (x:HOk P w H h):ObjOk P w H h a u:=by
 rcases r with r | ⟨o,r⟩
 ·exact x a u r
 ·obtain ⟨_,q⟩:=x a _ r
  exact q
def Mut:Option HO -> Prop
 | some (.lst _)=>True
 | some (.dK _)=>True
 | some (.dT _)=>True
 | some (.set _ _)=>True
 | some (.ins _ _ _)=>True
 | some (.ext _)=>True
 | _=>False
section
variable {P:Program} {w:World} {H:Hp} {h h':Heap} {x e:Addr} {o':HO}
theorem HOk.write (ok:HOk P w H h) (mu:Mut (H x)) (he:e = x \/ H e = some (.own x)) (k:∀ b u,b ≠ e -> h.get? b = some u -> h'.get? b = some u) (heo:∃ u,h'.get? e = some u)
  (new:ObjOk P w (upd H x o') h' x o'):HOk P w (upd H x o') h':=fun b u q=>by
 have nown:∀ c y,H c = some (.own y) -> c ≠ x:=fun c y r z=>by subst z;rw [r] at mu;exact mu
 have ntup:∀ c xs,H c = some (.tup xs) -> c ≠ x:=fun c xs r z=>by subst z;rw [r] at mu;exact mu
 by_cases hb:b = x
 ·subst hb;rw [aY] at q;cases q;exact new
 ·rw [aP hb] at q
  by_cases hbe:b = e
  ·have q':H b = some (.own x):=by
    rcases he with z | z
    ·exact absurd (hbe.trans z) hb
    ·rw [hbe];exact z
   rw [q] at q';cases q'
   obtain ⟨v,hv⟩:=heo
   exact ⟨v,by rw [hbe];exact hv⟩
  ·refine (ok b u q).stay (fun c v hc r=>k c v ?_ r) (fun c r=>by rw [aP (nown c b r)];exact r) fun c xs r=>by rw [aP (ntup c xs r)];exact r
   rcases hc with rfl | hc
   ·exact hbe
   ·rintro rfl
    rcases he with z | z
    ·exact nown c b hc z
    ·rw [hc] at z;cases z;exact hb rfl
end
structure Un (fs ex:List Addr) (H H':Hp) (h h':Heap):Prop where
 keep:∀ b o,h.get? b = some o -> H b = none -> b ∉ fs -> b ∉ ex -> h'.get? b = some o
 slot:∀ b o,h.get? b = some o -> H b = none -> b ∈ fs -> b ∉ ex -> ∃ sl,h'.get? b = some { o with slots:=sl }
 free:∀ b o,h.get? b = some o -> H b = none -> b ∉ ex -> H' b = none
 there:∀ b o,h.get? b = some o -> b ∉ ex -> ∃ o',h'.get? b = some o'
 tups:∀ b xs,H b = some (.tup xs) -> H' b = some (.tup xs)
 frzs:∀ b o u,H b = some (.frz o u) -> H' b = some (.frz o u)
 tbls:∀ b ps,H b = some (.tbl ps) -> ∃ more,H' b = some (.tbl (ps ++ more))
section
variable {fs fs' ex ex':List Addr} {H H1 H2:Hp} {h h1 h2 h':Heap} {a x e:Addr} {o:HO}
theorem Un.any (u:Un fs ex H H1 h h1) {b:Addr} {ob:Obj} (q:h.get? b = some ob) (n:H b = none) (hx:b ∉ ex):∃ sl,h1.get? b = some { ob with slots:=sl }:=by
 by_cases hb:b ∈ fs
 ·exact u.slot b ob q n hb hx
 ·exact ⟨ob.slots,u.keep b ob q n hb hx⟩
theorem Un.trans (a:Un fs ex H H1 h h1) (b:Un fs ex H1 H2 h1 h2):Un fs ex H H2 h h2 where
 keep:=fun c ob q n hc hx=>b.keep c ob (a.keep c ob q n hc hx) (a.free c ob q n hx) hc hx
 slot:=fun c ob q n hc hx=>by
  obtain ⟨sl,e1⟩:=a.slot c ob q n hc hx
  obtain ⟨sl',e2⟩:=b.slot c _ e1 (a.free c ob q n hx) hc hx
  exact ⟨sl',e2⟩
 free:=fun c ob q n hx=>by
  obtain ⟨o',e1⟩:=a.there c ob q hx
  exact b.free c o' e1 (a.free c ob q n hx) hx
 there:=fun c ob q hx=>by
  obtain ⟨o',e1⟩:=a.there c ob q hx
  exact b.there c o' e1 hx
 tups:=fun c xs q=>b.tups c xs (a.tups c xs q)
 frzs:=fun c ob xs q=>b.frzs c ob xs (a.frzs c ob xs q)
 tbls:=fun c ps q=>by
  obtain ⟨m1,e1⟩:=a.tbls c ps q
  obtain ⟨m2,e2⟩:=b.tbls c _ e1
  exact ⟨m1 ++ m2,by rw [e2,Array.append_assoc]⟩
theorem Un.kept (k:∀ b u,h.get? b = some u -> h'.get? b = some u):Un fs ex H H h h':=
 ⟨fun b ob q _ _ _=>k b ob q,fun b ob q _ _ _=>⟨ob.slots,k b ob q⟩,fun _ _ _ n _=>n,fun b ob q _=>⟨ob,k b ob q⟩,fun _ _ q=>q,fun _ _ _ q=>q,fun _ ps q=>⟨#[],by rw [q];simp⟩⟩
theorem Un.refl:Un fs ex H H h h:=Un.kept fun _ _ q=>q
theorem Un.laid (k:∀ b u,h.get? b = some u -> h'.get? b = some u) (hp:h.objs.size <= a) (hn:H a = none):Un fs ex H (upd H a o) h h' where
 keep:=fun b u q _ _ _=>k b u q
 slot:=fun b u q _ _ _=>⟨u.slots,k b u q⟩
 free:=fun b u q n _=>by rw [aP (PD (PY (Pv q) hp))];exact n
 there:=fun b u q _=>⟨u,k b u q⟩
 tups:=fun b xs q=>by rw [aP (aR q hn)];exact q
 frzs:=fun b u xs q=>by rw [aP (aR q hn)];exact q
 tbls:=fun b ps q=>⟨#[],by rw [aP (aR q hn),q];simp⟩
theorem Un.write (mu:Mut (H x)) (he:e = x \/ H e = some (.own x)) (k:∀ b u,b ≠ e -> h.get? b = some u -> h'.get? b = some u) (heo:∃ u,h'.get? e = some u):Un fs ex H (upd H x o) h h':=by
 have hx:∀ b,H b = none -> b ≠ x:=fun b n z=>by subst z;rw [n] at mu;exact mu
 have hb:∀ b,H b = none -> b ≠ e:=fun b n z=>by
  subst z
  rcases he with r | r
  ·exact hx b n r
  ·rw [n] at r;cases r
 have hm:∀ b u,H b = some u -> ¬ Mut (some u) -> b ≠ x:=fun b u q nm z=>by subst z;rw [q] at mu;exact nm mu
 refine ⟨fun b u q n _ _=>k b u (hb b n) q,fun b u q n _ _=>⟨u.slots,k b u (hb b n) q⟩,fun b u q n _=>by rw [aP (hx b n)];exact n,fun b u q _=>?_,
  fun b xs q=>by rw [aP (hm b _ q fun z=>z)];exact q,fun b u xs q=>by rw [aP (hm b _ q fun z=>z)];exact q,fun b ps q=>⟨#[],by rw [aP (hm b _ q fun z=>z),q];simp⟩⟩
 by_cases hbe:b = e
 ·subst hbe;exact heo
 ·exact ⟨u,k b u hbe q⟩
end
def trk (h:Heap) (H:Hp):List Addr:=(List.range h.objs.size).filter fun a=>(H a).isSome
def zk (h:Heap) (H:Hp):Heap:=W.hideAll h (trk h H)
theorem EE (h:Heap) (H:Hp):(zk h H).objs.size = h.objs.size:=W.hideAll_size _ _
theorem Hc {h:Heap} {H:Hp} {b:Addr} {o:Obj} (e:h.get? b = some o) (n:H b = none):(zk h H).get? b = some o:=
 W.hideAll_get _ e fun hm=>by
  have q:(H b).isSome = true:=(PL.mp hm).2
  rw [n] at q;simp at q
theorem Hs {h:Heap} {H:Hp} {b:Addr} {o:Obj} (e:(zk h H).get? b = some o):h.get? b = some o /\ H b = none:=by
 have e':h.get? b = some o:=W.of_hideAll (trk h H) e
 refine ⟨e',?_⟩
 cases q:H b with
 | none=>rfl
 | some x=>
  have hm:b ∈ trk h H:=PL.mpr ⟨Rh.mpr (Pv e'),by simp [q]⟩
  have z:(zk h H).get? b = none:=W.hideAll_none (trk h H) hm
  rw [z] at e;cases e
def IB (g h:Heap) (L:Addr):List (Addr × Obj):=(List.range h.objs.size).filterMap fun a=>if a = L \/ (g.get? a).isSome = true then none else (h.get? a).map fun o=>(a,o)
def rest (g h:Heap) (L d:Addr):List (Addr × Obj):=(IB g h L).filter fun p=>decide (p.1 ≠ d)
structure Mod (K:W.Frag) (mg:Str -> Option Value) (base:Heap):Prop where
 kin:K.In base
 glob:base.Ns mainGlobals mg
 blt:∃ mb,base.Ns builtinsNs mb /\ ∀ x:Str,x ≠ "__name__" -> mb x = bootBuiltins x
 nolimit:base.NoLimit
structure Cx where
 prog:Program
 w:World
 K:W.Frag
 mg:Str -> Option Value
 base:Heap
 A:Around
 N:List Str
 s₀:Shared
 H₀:Hp
 env:Env
 outer:List Env
 stack:List Env
 ex:List Addr
 fn:Str -> Bool
 calm:Bool
 pn:List (Addr × Obj)
 xe:Value -> Shared -> Prop
def frs (l:List Env):List Addr:=l.filterMap (·.frame)
abbrev Cx.fs (X:Cx):List Addr:=frs X.outer
def Vis (sc:Scope) (x:Str):Prop:=sc.names.lookup x = some .local \/ sc.names.lookup x = some .cell \/ sc.names.lookup x = some .free
def Loc (sc:Scope) (x:Str):Prop:=sc.names.lookup x = some .local \/ sc.names.lookup x = some .cell
def NA (env:Env) (h:Heap) (m:Str -> Option Value) (x:Str) (u:Value):Prop:=
 (env.kindOf x = some .local /\ m x = some u) \/ ((env.kindOf x = some .cell \/ env.kindOf x = some .free) /\ ∃ c,env.cells.lookup x = some c /\ h.IsCell c (some u))
structure Cx.Ok (X:Cx):Prop where
 mod:Mod X.K X.mg X.base
 kind:X.env.scope.kind = .function
 glob:X.env.globals = mainGlobals
 blt:X.env.builtins = builtinsNs
 above:X.s₀.heap.objs.size <= X.env.locals
 inj:∀ x y c,X.env.cells.lookup x = some c -> X.env.cells.lookup y = some c -> x = y
 has:∀ x,(X.env.kindOf x = some .cell \/ X.env.kindOf x = some .free) -> ∃ c,X.env.cells.lookup x = some c
 cab:∀ x c,X.fn x = true -> X.env.cells.lookup x = some c -> X.s₀.heap.objs.size <= c
 hd:X.calm = true -> X.A.handled = none
 frames:X.A.frames = some X.stack
 stk:X.stack = X.outer \/ (X.stack = X.env :: X.outer /\ X.env.frame = some X.env.locals)
 exf:∀ b ∈ X.ex,b ≠ X.env.locals /\ ∀ x c,X.env.cells.lookup x = some c -> c ≠ b
 bs:∀ b o,X.base.get? b = some o -> X.s₀.heap.get? b = some o /\ X.H₀ b = none
 bsz:X.base.objs.size <= X.s₀.heap.objs.size
 noex:∀ b o,X.base.get? b = some o -> b ∉ X.ex
 exfs:∀ b ∈ X.ex,b ∉ X.fs
 funs:X.s₀.heap.FunFrames X.base X.outer
 frf:∀ b ∈ X.fs,X.H₀ b = none
structure Inv (X:Cx) (pins:List (Addr × Obj)) (σ:List (Option V)) (H:Hp) (s:Shared):Prop where
 ok:X.Ok
 os:s.os = X.s₀.os
 bare:AllBare s.gens
 base:Un X.fs X.ex X.H₀ H X.s₀.heap s.heap
 loc:∃ m,s.heap.Ns X.env.locals m /\ ∀ (i:Nat) (x:Str) (v:V),X.N[i]? = some x -> σ[i]? = some (some v) -> Vis X.env.scope x -> ∃ u,RelV v u /\ NA X.env s.heap m x u
 cell:∀ x c,X.env.cells.lookup x = some c -> ∃ v,s.heap.IsCell c v
 free:H X.env.locals = none
 freeC:∀ x c,X.env.cells.lookup x = some c -> H c = none
 pin:∀ p ∈ X.pn ++ pins,s.heap.get? p.1 = some p.2 /\ H p.1 = none /\ p.1 ≠ X.env.locals /\ p.1 ∉ X.fs /\ ∀ v,p.2.data ≠ .cell v
 hok:HOk X.prog X.w H s.heap
 len:σ.length = X.N.length
section
variable {X:Cx} {pins:List (Addr × Obj)} {σ:List (Option V)} {H H':Hp} {s:Shared} {h':Heap}
theorem Cx.Ok.nofr (ok:X.Ok) {b:Addr} {o:Obj} (e:X.base.get? b = some o):b ∉ X.fs:=fun hb=>by
 have:=(ok.funs.mem hb).1
 rw [e] at this;cases this
theorem Inv.bs (I:Inv X pins σ H s):∀ b o,X.base.get? b = some o -> s.heap.get? b = some o /\ H b = none:=fun b o e=>
 ⟨I.base.keep b o (I.ok.bs b o e).1 (I.ok.bs b o e).2 (I.ok.nofr e) (I.ok.noex b o e),I.base.free b o (I.ok.bs b o e).1 (I.ok.bs b o e).2 (I.ok.noex b o e)⟩
theorem Inv.bk (I:Inv X pins σ H s):∀ b o,X.base.get? b = some o -> s.heap.get? b = some o:=fun b o e=>(I.bs b o e).1
theorem Inv.mod (I:Inv X pins σ H s):Mod X.K X.mg X.base:=I.ok.mod
theorem Inv.kIn (I:Inv X pins σ H s):X.K.In s.heap:=I.ok.mod.kin.keeps I.bk
theorem Inv.fr (I:Inv X pins σ H s):∃ m,Fr X.base X.env.locals s.heap m:=
 let ⟨m,hn,_⟩:=I.loc
 ⟨m,hn,I.bk,PR I.ok.bsz I.ok.above⟩
theorem Inv.lt (I:Inv X pins σ H s):X.env.locals < s.heap.objs.size:=let ⟨_,hn,_⟩:=I.loc;hn.lt
theorem Inv.sz (I:Inv X pins σ H s):X.s₀.heap.objs.size <= s.heap.objs.size:=PR I.ok.above (Ql I.lt)
theorem Inv.nofs (I:Inv X pins σ H s) {a:Addr} (h:s.heap.objs.size <= a):a ∉ X.fs:=fun hb=>by
 obtain ⟨_,o,ho,_⟩:=I.ok.funs.mem hb
 exact absurd (PY (Pv ho) (PR I.sz h)) (QB _)
theorem Inv.cne (I:Inv X pins σ H s):∀ x c,X.env.cells.lookup x = some c -> c ≠ X.env.locals:=fun x c e z=>by
 obtain ⟨v,o,ho,hd⟩:=I.cell x c e
 obtain ⟨m,⟨o',es,ep,ho',hd',_⟩,_⟩:=I.loc
 rw [z,ho'] at ho;cases ho;rw [hd'] at hd;cases hd
theorem Inv.funs (I:Inv X pins σ H s):s.heap.FunFrames X.base X.outer:=by
 have all:∀ (l:List Env),(∀ b ∈ frs l,b ∈ X.fs) -> X.s₀.heap.FunFrames X.base l -> s.heap.FunFrames X.base l:=by
  intro l
  induction l with
  | nil=>intro _ _;trivial
  | cons env r ih=>
   intro hs hl
   obtain ⟨hk,⟨L,o,hf,hn,ho,hd⟩,hr⟩:=hl
   have hL:L ∈ X.fs:=hs L (by unfold frs;rw [QS,hf];exact Pm)
   obtain ⟨sl,e⟩:=I.base.slot L o ho (I.ok.frf L hL) hL fun z=>I.ok.exfs L z hL
   exact ⟨hk,⟨L,_,hf,hn,e,hd⟩,ih (fun b hb=>hs b (by unfold frs;rw [QS,hf];exact Po _ hb)) hr⟩
 exact all X.outer (fun _ hb=>hb) I.ok.funs
theorem Inv.stack (I:Inv X pins σ H s):s.heap.FunFrames X.base X.stack:=by
 rcases I.ok.stk with e | ⟨e,hf⟩
 ·rw [e];exact I.funs
 ·rw [e]
  obtain ⟨m,hn,_⟩:=I.loc
  refine .cons (by rw [I.ok.kind];decide) hf hn ?_ I.funs
  exact Heap.get?_none_of_le (PR I.ok.bsz I.ok.above)
theorem Inv.stkSub (I:Inv X pins σ H s):∀ b ∈ frs X.stack,b ∈ X.env.locals :: X.fs:=fun b hb=>by
 rcases I.ok.stk with e | ⟨e,hf⟩
 ·rw [e] at hb;exact Po _ hb
 ·rw [e] at hb
  unfold frs at hb
  rw [QS,hf] at hb
  exact hb
theorem Inv.stkFree (I:Inv X pins σ H s):∀ b ∈ frs X.stack,H b = none:=fun b hb=>by
 rcases Pq.mp (I.stkSub b hb) with e | hb
 ·rw [e];exact I.free
 ·obtain ⟨_,o,ho,_⟩:=I.ok.funs.mem hb
  exact I.base.free b o ho (I.ok.frf b hb) fun z=>I.ok.exfs b z hb
theorem Inv.step {g':Array GenState} {t':Nat} {d':Drawn} {ch:List Addr} (I:Inv X pins σ H s)
  (hch:∀ b ∈ ch,(b ∈ X.ex \/ X.s₀.heap.objs.size <= b) /\ b ≠ X.env.locals /\ (∀ x c,X.env.cells.lookup x = some c -> c ≠ b) /\ ∀ p ∈ X.pn ++ pins,p.1 ≠ b)
  (keep:∀ b o,b ≠ X.env.locals -> b ∉ X.fs -> b ∉ ch -> s.heap.get? b = some o -> H b = none -> h'.get? b = some o)
  (slot:∀ b o,b ≠ X.env.locals -> b ∈ X.fs -> b ∉ ch -> s.heap.get? b = some o -> H b = none -> ∃ sl,h'.get? b = some { o with slots:=sl }) (free:∀ b o,b ∉ ch -> s.heap.get? b = some o -> H b = none -> H' b = none)
  (there:∀ b o,b ∉ ch -> s.heap.get? b = some o -> ∃ o',h'.get? b = some o')
  (tups:∀ b xs,H b = some (.tup xs) -> H' b = some (.tup xs)) (frzs:∀ b o u,H b = some (.frz o u) -> H' b = some (.frz o u)) (tbls:∀ b ps,H b = some (.tbl ps) -> ∃ more,H' b = some (.tbl (ps ++ more)))
  (ns:∀ m,s.heap.Ns X.env.locals m -> h'.Ns X.env.locals m) (hok:HOk X.prog X.w H' h') (hg:AllBare g') :
  Inv X pins σ H' { s with heap:=h',gens:=g',drawn:=d',toks:=t' }:=by
 have neL:∀ b o,X.s₀.heap.get? b = some o -> b ≠ X.env.locals:=fun b o e=>PD (PY (Pv e) I.ok.above)
 have neC:∀ b o,X.s₀.heap.get? b = some o -> b ∉ X.ex -> b ∉ ch:=fun b o e hx hb=>by
  rcases (hch b hb).1 with z | z
  ·exact hx z
  ·exact absurd (PY (Pv e) z) (QB _)
 have cellK:∀ x c,X.env.cells.lookup x = some c -> ∀ v,s.heap.IsCell c v -> h'.IsCell c v:=fun x c e v hpt0=>by
  obtain ⟨o,ho,hd⟩:=hpt0
  have nch:c ∉ ch:=fun z=>(hch c z).2.2.1 x c e rfl
  by_cases hc:c ∈ X.fs
  ·obtain ⟨sl,q⟩:=slot c o (I.cne x c e) hc nch ho (I.freeC x c e)
   exact ⟨_,q,hd⟩
  ·exact ⟨o,keep c o (I.cne x c e) hc nch ho (I.freeC x c e),hd⟩
 refine ⟨I.ok,I.os,hg,⟨fun b o e n hb hx=>?_,fun b o e n hb hx=>?_,fun b o e n hx=>?_,fun b o e hx=>?_,fun b xs e=>tups b xs (I.base.tups b xs e),fun b o xs e=>frzs b o xs (I.base.frzs b o xs e),fun b ps e=>?_⟩,?_,fun x c e=>?_,?_,fun x c e=>?_,fun p hp=>?_,hok,I.len⟩
 ·exact keep b o (neL b o e) hb (neC b o e hx) (I.base.keep b o e n hb hx) (I.base.free b o e n hx)
 ·obtain ⟨sl,e1⟩:=I.base.slot b o e n hb hx
  obtain ⟨sl',e2⟩:=slot b _ (neL b o e) hb (neC b o e hx) e1 (I.base.free b o e n hx)
  exact ⟨sl',e2⟩
 ·obtain ⟨o',e1⟩:=I.base.there b o e hx
  exact free b o' (neC b o e hx) e1 (I.base.free b o e n hx)
 ·obtain ⟨o',e1⟩:=I.base.there b o e hx
  exact there b o' (neC b o e hx) e1
 ·obtain ⟨m1,e1⟩:=I.base.tbls b ps e
  obtain ⟨m2,e2⟩:=tbls b _ e1
  exact ⟨m1 ++ m2,by rw [e2,Array.append_assoc]⟩
 ·obtain ⟨m,hn,hl⟩:=I.loc
  refine ⟨m,ns m hn,fun i x v e1 e2 e3=>?_⟩
  obtain ⟨u,r,l⟩:=hl i x v e1 e2 e3
  refine ⟨u,r,?_⟩
  rcases l with l | ⟨k,c,e,z⟩
  ·exact .inl l
  ·exact .inr ⟨k,c,e,cellK x c e _ z⟩
 ·obtain ⟨v,z⟩:=I.cell x c e
  exact ⟨v,cellK x c e v z⟩
 ·obtain ⟨m,⟨o,_,_,ho,_⟩,_⟩:=I.loc
  exact free _ o (fun z=>(hch _ z).2.1 rfl) ho I.free
 ·obtain ⟨v,o,ho,hd⟩:=I.cell x c e
  exact free c o (fun z=>(hch c z).2.2.1 x c e rfl) ho (I.freeC x c e)
 ·obtain ⟨e,n,ne,nf,d⟩:=I.pin p hp
  have nch:p.1 ∉ ch:=fun z=>(hch p.1 z).2.2.2 p hp rfl
  exact ⟨keep p.1 p.2 ne nf nch e n,free p.1 p.2 nch e n,ne,nf,d⟩
theorem Inv.un {t':Nat} (I:Inv X pins σ H s) (u:Un X.fs [] H H' s.heap h') (hok:HOk X.prog X.w H' h'):Inv X pins σ H' { s with heap:=h',toks:=t' }:=by
 obtain ⟨m,⟨o,es,ep,ho,r⟩,_⟩:=id I.loc
 obtain ⟨sl,hL⟩:=u.any ho I.free (by simp)
 exact I.step (g':=s.gens) (d':=s.drawn) (ch:=[]) (fun _ z=>nomatch z) (fun b o _ hb _ e n=>u.keep b o e n hb (by simp)) (fun b o _ hb _ e n=>u.slot b o e n hb (by simp)) (fun b o _ e n=>u.free b o e n (by simp)) (fun b o _ e=>u.there b o e (by simp)) u.tups u.frzs u.tbls (fun m' hm=>by
  obtain ⟨o',es',ep',ho',r'⟩:=hm
  rw [ho] at ho';cases ho'
  exact ⟨_,es',ep',hL,r'⟩) hok I.bare
theorem Inv.call {g':Array GenState} {t':Nat} {d':Drawn} {ch:List Addr} (I:Inv X pins σ H s) (u:Un (frs X.stack) ch H H' s.heap h') (hok:HOk X.prog X.w H' h') (hg:AllBare g')
  (hch:∀ b ∈ ch,(b ∈ X.ex \/ X.s₀.heap.objs.size <= b) /\ b ≠ X.env.locals /\ (∀ x c,X.env.cells.lookup x = some c -> c ≠ b) /\ ∀ p ∈ X.pn ++ pins,p.1 ≠ b) :
  Inv X pins σ H' { s with heap:=h',gens:=g',drawn:=d',toks:=t' }:=by
 obtain ⟨m,⟨o,es,ep,ho,r⟩,_⟩:=id I.loc
 obtain ⟨sl,hL⟩:=u.any ho I.free fun z=>(hch _ z).2.1 rfl
 exact I.step (ch:=ch) hch (fun b o hL hb hc e n=>u.keep b o e n (fun z=>(Pq.mp (I.stkSub b z)).elim hL hb) hc) (fun b o _ _ hc e n=>u.any e n hc) (fun b o hc e n=>u.free b o e n hc) (fun b o hc e=>u.there b o e hc) u.tups u.frzs u.tbls (fun m' hm=>by
  obtain ⟨o',es',ep',ho',r'⟩:=hm
  rw [ho] at ho';cases ho'
  exact ⟨_,es',ep',hL,r'⟩) hok hg
theorem Inv.turned {t':Nat} {it:Addr} (I:Inv X pins σ H s) (k:∀ b o,b ≠ it -> s.heap.get? b = some o -> h'.get? b = some o) (hn:H it = none) (hL:it ≠ X.env.locals)
  (h1:it ∈ X.ex \/ X.s₀.heap.objs.size <= it) (h2:∀ x c,X.env.cells.lookup x = some c -> c ≠ it) (h3:∀ p ∈ X.pn ++ pins,p.1 ≠ it):Inv X pins σ H { s with heap:=h',toks:=t' }:=by
 have nit:∀ b u,H b = some u -> b ≠ it:=fun b u e z=>by rw [z,hn] at e;cases e
 refine I.step (g':=s.gens) (d':=s.drawn) (ch:=[it]) (fun b hb=>?_) (fun b o _ _ hc e _=>k b o (fun z=>hc (by simp [z])) e) (fun b o _ _ hc e _=>⟨o.slots,k b o (fun z=>hc (by simp [z])) e⟩) (fun _ _ _ _ n=>n)
  (fun b o hc e=>⟨o,k b o (fun z=>hc (by simp [z])) e⟩) (fun _ _ e=>e) (fun _ _ _ e=>e) (fun b ps e=>⟨#[],by rw [e];simp⟩) (fun m hm=>?_) (fun b u e=>?_) I.bare
 ·have e:b = it:=by simpa using hb
  subst e
  exact ⟨h1,hL,h2,h3⟩
 ·obtain ⟨o,es,ep,ho,r⟩:=hm
  exact ⟨o,es,ep,k _ o (PM hL) ho,r⟩
 ·refine (I.hok b u e).stay (fun c v hc q=>k c v ?_ q) (fun _ q=>q) fun _ _ q=>q
  rcases hc with z | z
  ·rw [z];exact nit b u e
  ·exact nit c _ z
theorem Inv.tok (I:Inv X pins σ H s) (t:Nat):Inv X pins σ H { s with toks:=t }:=I.un (h':=s.heap) (t':=t) Un.refl I.hok
theorem Inv.kept {t':Nat} (I:Inv X pins σ H s) (k:∀ b u,s.heap.get? b = some u -> h'.get? b = some u):Inv X pins σ H { s with heap:=h',toks:=t' }:=I.un (Un.kept k) (I.hok.kept k)
theorem Inv.laid {a:Addr} {o:HO} {t':Nat} (I:Inv X pins σ H s) (k:∀ b u,s.heap.get? b = some u -> h'.get? b = some u) (hp:s.heap.objs.size <= a) (new:ObjOk X.prog X.w (upd H a o) h' a o) :
  Inv X pins σ (upd H a o) { s with heap:=h',toks:=t' }:=I.un (Un.laid k hp (I.hok.fresh hp)) (I.hok.laid k hp new)
theorem Inv.write {x e:Addr} {o:HO} {t':Nat} (I:Inv X pins σ H s) (mu:Mut (H x)) (he:e = x \/ H e = some (.own x)) (k:∀ b u,b ≠ e -> s.heap.get? b = some u -> h'.get? b = some u) (heo:∃ u,h'.get? e = some u)
  (new:ObjOk X.prog X.w (upd H x o) h' x o):Inv X pins σ (upd H x o) { s with heap:=h',toks:=t' }:=I.un (Un.write mu he k heo) (I.hok.write mu he k heo new)
theorem Inv.weak {σ':List (Option V)} (I:Inv X pins σ H s) (hl:σ'.length = σ.length) (w:∀ (i:Nat) v,σ'[i]? = some (some v) -> σ[i]? = some (some v)):Inv X pins σ' H s:=
 ⟨I.ok,I.os,I.bare,I.base,let ⟨m,hn,hl'⟩:=I.loc;⟨m,hn,fun i x v e1 e2 e3=>hl' i x v e1 (w i v e2) e3⟩,I.cell,I.free,I.freeC,I.pin,I.hok,hl.trans I.len⟩
theorem Inv.pins_of {pins':List (Addr × Obj)} (I:Inv X pins σ H s) (h:∀ p ∈ pins',s.heap.get? p.1 = some p.2 /\ H p.1 = none /\ p.1 ≠ X.env.locals /\ p.1 ∉ X.fs /\ ∀ v,p.2.data ≠ .cell v):Inv X pins' σ H s:=
 ⟨I.ok,I.os,I.bare,I.base,I.loc,I.cell,I.free,I.freeC,fun p hp=>(Pu.mp hp).elim (fun z=>I.pin p (Py _ z)) (h p),I.hok,I.len⟩
theorem um {N:List Str} (hN:N.Nodup) {i j:Nat} {x:Str} (a:N[i]? = some x) (b:N[j]? = some x):i = j:=by
 obtain ⟨h1,e1⟩:=PF.mp a
 obtain ⟨h2,e2⟩:=PF.mp b
 exact (List.getElem_inj hN).mp (e1.trans e2.symm)
theorem DF {M:Model} {A:Around} {E:Value -> Shared -> Prop} {i:Nat} {x:Str} {v:V} {u:Value} {Q:Unit -> Shared -> Prop} (I:Inv X pins σ H s) (hN:X.N.Nodup) (hi:X.N[i]? = some x) (hx:Loc X.env.scope x) (r:RelV v u)
  (h:∀ s',Inv X pins (σ.set i (some v)) H s' -> (∃ a,Heap.SameBut a s.heap s'.heap /\ (a = X.env.locals \/ X.env.cells.lookup x = some a)) -> Q () s') (hf:X.fn x = true \/ X.env.scope.names.lookup x = some .local:=by first | exact .inl rfl | exact .inr rfl | assumption):wpAny M A (storeName X.env x u) Q E s:=by
 obtain ⟨m,hn,hl⟩:=id I.loc
 have hcls:(X.env.scope.kind == .class || (X.env.scope.kind == .module && X.env.locals != X.env.globals)) = false:=by rw [I.ok.kind];rfl
 have hiσ:i < σ.length:=by rw [I.len];exact (PF.mp hi).1
 have cne:=I.cne
 have tracked:∀ {a:Addr} {h':Heap},(∃ o,s.heap.get? a = some o /\ H a = none) -> Heap.SameBut a s.heap h' -> HOk X.prog X.w H h':=fun {a h'} ha hs b ob e=>by
  obtain ⟨_,_,hfree⟩:=ha
  refine (I.hok b ob e).stay (fun c w' hc q=>(hs.2 c ?_).trans q) (fun _ q=>q) fun _ _ q=>q
  rintro rfl
  rcases hc with rfl | hc
  ·rw [hfree] at e;cases e
  ·rw [hfree] at hc;cases hc
 rcases hx with hk | hk
 ·refine wpAny_storeName_local hk hn (fun h' hn' hs=>?_) hcls
  obtain ⟨oL,_,_,hoL,_⟩:=id hn
  refine h _ ⟨I.ok,I.os,I.bare,⟨fun b o e n hb hx=>?_,fun b o e n hb hx=>?_,I.base.free,fun b o e hx=>?_,I.base.tups,I.base.frzs,I.base.tbls⟩,⟨_,hn',fun j y v' e1 e2 e3=>?_⟩,fun y c e=>?_,I.free,I.freeC,fun p hp=>?_,tracked ⟨oL,hoL,I.free⟩ hs,by simpa using I.len⟩ ⟨_,hs,.inl rfl⟩
  ·exact (hs.2 b (PD (PY (Pv e) I.ok.above))).trans (I.base.keep b o e n hb hx)
  ·obtain ⟨sl,e1⟩:=I.base.slot b o e n hb hx
   exact ⟨sl,(hs.2 b (PD (PY (Pv e) I.ok.above))).trans e1⟩
  ·obtain ⟨o',e1⟩:=I.base.there b o e hx
   exact ⟨o',(hs.2 b (PD (PY (Pv e) I.ok.above))).trans e1⟩
  ·by_cases hj:j = i
   ·subst hj
    rw [hi] at e1;cases e1
    rw [QH hiσ] at e2
    cases e2
    exact ⟨u,r,.inl ⟨hk,by simp⟩⟩
   ·rw [P1 (PM hj)] at e2
    obtain ⟨u',r',q⟩:=hl j y v' e1 e2 e3
    refine ⟨u',r',?_⟩
    rcases q with ⟨k,e⟩ | ⟨k,c,e,z⟩
    ·refine .inl ⟨k,?_⟩
     have:y ≠ x:=fun e=>hj (um hN e1 (e ▸ hi))
     simp [this,e]
    ·exact .inr ⟨k,c,e,z.sameBut hs (cne y c e)⟩
  ·obtain ⟨w',z⟩:=I.cell y c e
   exact ⟨w',z.sameBut hs (cne y c e)⟩
  ·obtain ⟨e,n,ne,nf,d⟩:=I.pin p hp
   exact ⟨(hs.2 p.1 ne).trans e,n,ne,nf,d⟩
 ·have hfn:X.fn x = true:=by
   rcases hf with z | z
   ·exact z
   ·rw [z] at hk;cases hk
  obtain ⟨c,hc⟩:=I.ok.has x (.inl hk)
  obtain ⟨w',z⟩:=I.cell x c hc
  refine wpAny_storeName_cell I.ok.kind hk hc z (fun h' hc' hs=>?_)
  obtain ⟨oc,hoc,hocd⟩:=id z
  refine h { s with heap:=h' } ⟨I.ok,I.os,I.bare,⟨fun b o e n hb hx=>?_,fun b o e n hb hx=>?_,I.base.free,fun b o e hx=>?_,I.base.tups,I.base.frzs,I.base.tbls⟩,⟨m,hn.sameBut hs (PM (cne x c hc)),fun j y v' e1 e2 e3=>?_⟩,fun y c' e=>?_,I.free,I.freeC,fun p hp=>?_,tracked ⟨oc,hoc,I.freeC x c hc⟩ hs,by simpa using I.len⟩ ⟨c,hs,.inr hc⟩
  ·exact (hs.2 b (PD (PY (Pv e) (I.ok.cab x c hfn hc)))).trans (I.base.keep b o e n hb hx)
  ·obtain ⟨sl,e1⟩:=I.base.slot b o e n hb hx
   exact ⟨sl,(hs.2 b (PD (PY (Pv e) (I.ok.cab x c hfn hc)))).trans e1⟩
  ·obtain ⟨o',e1⟩:=I.base.there b o e hx
   exact ⟨o',(hs.2 b (PD (PY (Pv e) (I.ok.cab x c hfn hc)))).trans e1⟩
  ·by_cases hj:j = i
   ·subst hj
    rw [hi] at e1;cases e1
    rw [QH hiσ] at e2
    cases e2
    exact ⟨u,r,.inr ⟨.inl hk,c,hc,hc'⟩⟩
   ·rw [P1 (PM hj)] at e2
    obtain ⟨u',r',q⟩:=hl j y v' e1 e2 e3
    refine ⟨u',r',?_⟩
    rcases q with q | ⟨k,c',e,z'⟩
    ·exact .inl q
    ·refine .inr ⟨k,c',e,z'.sameBut hs ?_⟩
     rintro rfl
     exact hj (um hN e1 (I.ok.inj _ _ _ e hc ▸ hi))
  ·by_cases hcc:c' = c
   ·subst hcc;exact ⟨_,hc'⟩
   ·obtain ⟨w2,z2⟩:=I.cell y c' e
    exact ⟨w2,z2.sameBut hs hcc⟩
  ·obtain ⟨e,n,ne,nf,d⟩:=I.pin p hp
   refine ⟨(hs.2 p.1 ?_).trans e,n,ne,nf,d⟩
   intro q
   rw [q,hoc] at e
   have q':oc = p.2:=P6 e
   exact d w' (by rw [<- q'];exact hocd)
theorem pP {M:Model} {A:Around} {E:Value -> Shared -> Prop} {i:Nat} {x:Str} {v:V} {u:Value} {Q:Unit -> Shared -> Prop} (I:Inv X pins σ H s) (hN:X.N.Nodup) (hi:X.N[i]? = some x) (hx:Loc X.env.scope x) (r:RelV v u)
  (h:∀ s',Inv X pins (σ.set i (some v)) H s' -> Q () s') (hf:X.fn x = true \/ X.env.scope.names.lookup x = some .local:=by first | exact .inl rfl | exact .inr rfl | assumption):wpAny M A (storeName X.env x u) Q E s:=
 DF I hN hi hx r (fun s' I' _=>h s' I') hf
theorem Inv.call' {s':Shared} {ch:List Addr} (I:Inv X pins σ H s) (ho:s'.os = s.os) (u:Un (frs X.stack) ch H H' s.heap s'.heap) (hok:HOk X.prog X.w H' s'.heap) (hg:AllBare s'.gens)
  (hch:∀ b ∈ ch,(b ∈ X.ex \/ X.s₀.heap.objs.size <= b) /\ b ≠ X.env.locals /\ (∀ x c,X.env.cells.lookup x = some c -> c ≠ b) /\ ∀ p ∈ X.pn ++ pins,p.1 ≠ b):Inv X pins σ H' s':=by
 obtain ⟨h',g',d',t',o'⟩:=s'
 have e:o' = s.os:=ho
 subst e
 exact I.call (g':=g') (t':=t') (d':=d') u hok hg hch
end
abbrev XK:=Value -> Option Addr -> Hp -> Prop
abbrev St:=List (Option V)
abbrev VK:=V -> Hp -> Prop
abbrev TE:=St -> Hp -> VK -> Prop
abbrev TT:=St -> Hp -> (Bool -> Hp -> Prop) -> Prop
abbrev TA:=St -> Hp -> (List V -> Hp -> Prop) -> Prop
structure Ends where
 nx:St -> Hp -> Prop
 rt:VK
 bk:St -> Hp -> Prop:=fun _ _=>False
 ct:St -> Hp -> Prop:=fun _ _=>False
abbrev TS:=Ends -> St -> Hp -> Prop
def EP (X:Cx) (pins:List (Addr × Obj)) (σ:St) (Q:VK) (u:Value) (s':Shared):Prop:=∃ v H',Inv X pins σ H' s' /\ RelV v u /\ Q v H'
def TP (X:Cx) (pins:List (Addr × Obj)) (σ:St) (Q:Bool -> Hp -> Prop) (b:Bool) (s':Shared):Prop:=∃ H',Inv X pins σ H' s' /\ Q b H'
def AP (X:Cx) (pins:List (Addr × Obj)) (σ:St) (Q:List V -> Hp -> Prop) (us:List Value) (s':Shared):Prop:=∃ vs H',Inv X pins σ H' s' /\ Vals vs us /\ Q vs H'
def SP (X:Cx) (pins:List (Addr × Obj)) (D:Ends) (f:Flow) (s':Shared):Prop:=
 match f with
 | .next=>∃ σ' H',Inv X pins σ' H' s' /\ D.nx σ' H'
 | .brk=>∃ σ' H',Inv X pins σ' H' s' /\ D.bk σ' H'
 | .cont=>∃ σ' H',Inv X pins σ' H' s' /\ D.ct σ' H'
 | .ret u=>∃ v σ' H',Inv X pins σ' H' s' /\ RelV v u /\ D.rt v H'
def PE (X:Cx) (e:Expr) (t:TE):Prop:=
 ∀ (pins:List (Addr × Obj)) (s:Shared) (σ:St) (H:Hp) (Q:VK),Inv X pins σ H s -> t σ H Q -> wpAny (model X.prog X.w) X.A (eval e X.env) (EP X pins σ Q) X.xe s
def PT (X:Cx) (e:Expr) (t:TT):Prop:=
 ∀ (pins:List (Addr × Obj)) (s:Shared) (σ:St) (H:Hp) (Q:Bool -> Hp -> Prop),Inv X pins σ H s -> t σ H Q -> wpAny (model X.prog X.w) X.A (isTrue e X.env (eval e X.env)) (TP X pins σ Q) X.xe s
def PW (X:Cx) (e:Expr) (t:TT):Prop:=
 ∀ (whole:Sem Value) (pins:List (Addr × Obj)) (s:Shared) (σ:St) (H:Hp) (Q:Bool -> Hp -> Prop),Inv X pins σ H s -> t σ H Q -> wpAny (model X.prog X.w) X.A (isTrue e X.env whole) (TP X pins σ Q) X.xe s
theorem PW.pt {X:Cx} {e:Expr} {t:TT} (h:PW X e t):PT X e t:=h _
def PA (X:Cx) (es:List Expr) (t:TA):Prop:=
 ∀ (pos:Pos) (pins:List (Addr × Obj)) (s:Shared) (σ:St) (H:Hp) (Q:List V -> Hp -> Prop),Inv X pins σ H s -> t σ H Q -> wpAny (model X.prog X.w) X.A (spliced (backTo pos (starEach es X.env))) (AP X pins σ Q) X.xe s
def PS (X:Cx) (st:Stmt) (t:TS):Prop:=
 ∀ (pins:List (Addr × Obj)) (s:Shared) (σ:St) (H:Hp) (D:Ends),Inv X pins σ H s -> t D σ H -> wpAny (model X.prog X.w) X.A (exec st X.env) (SP X pins D) X.xe s
def PSs (X:Cx) (st:List Stmt) (t:TS):Prop:=
 ∀ (pins:List (Addr × Obj)) (s:Shared) (σ:St) (H:Hp) (D:Ends),Inv X pins σ H s -> t D σ H -> wpAny (model X.prog X.w) X.A (execs st X.env) (SP X pins D) X.xe s
theorem thn {α:Type} {t:Sem α} {Q Q':α -> Shared -> Prop} {M:Model} {A:Around} {E:Value -> Shared -> Prop} {s:Shared} (h:wpAny M A t Q E s) (hQ:∀ a s,Q a s -> Q' a s):wpAny M A t Q' E s:=P9 h hQ fun _ _ x=>x
section
variable {X:Cx}
def pb (i:Nat):TE:=fun σ H Q=>∃ v,σ[i]? = some (some v) /\ Q v H
def tC (v:V):TE:=fun _ H Q=>Q v H
theorem Kx {i:Nat} {x:Str} {pos:Pos} (hN:X.N[i]? = some x) (hv:Vis X.env.scope x) (hd:(x == ("__debug__" : Str)) = false:=by decide) (hcd:(x == ("__classdict__" : Str)) = false:=by decide):PE X (.Name x pos) (pb i):=by
 intro pins s σ H Q I h
 obtain ⟨v,e,h⟩:=h
 obtain ⟨m,hn,hl⟩:=I.loc
 obtain ⟨u,r,l⟩:=hl i x v hN e hv
 have fin:EP X pins σ Q u s:=⟨v,H,I,r,h⟩
 rcases l with ⟨hk,hm⟩ | ⟨hk,c,hc,hcell⟩
 ·exact wpAny_Name (wpAny_loadName_local I.ok.kind hk hn hm fin) hd
 ·rcases hk with hk | hk
  ·exact wpAny_Name (wpAny_loadName_cell I.ok.kind hk hc hcell fin) hd
  ·exact wpAny_Name (wpAny_loadName_free I.ok.kind hk hc hcell fin hcd) hd
theorem aj {i j pos}:PE X (.Constant (.int i) j pos) (tC (.int i)):=fun _ _ _ H _ I h=>wpAny_Constant_int ⟨.int i,H,I.tok _,⟨_,rfl⟩,h⟩
theorem eU {b j pos}:PE X (.Constant (.bool b) j pos) (tC (.bl b)):=fun _ _ _ H _ I h=>Constant_bool ⟨.bl b,H,I,rfl,h⟩
theorem sF {j pos}:PE X (.Constant .none j pos) (tC .non):=fun _ _ _ H _ I h=>Constant_none ⟨.non,H,I,rfl,h⟩
theorem Gn {x j pos}:PE X (.Constant (.str x) j pos) (tC (.str x)):=fun _ _ _ H _ I h=>Calls.Constant_str ⟨.str x,H,I.tok _,⟨_,rfl⟩,h⟩
def Gl (X:Cx) (x:Str):Prop:=X.env.kindOf x = some .globalImplicit
theorem nM {E:Value -> Shared -> Prop} {pins:List (Addr × Obj)} {s:Shared} {σ:St} {H:Hp} {x:Str} {u:Value} {pos:Pos} {Q:Value -> Shared -> Prop} (I:Inv X pins σ H s) (hg:Gl X x) (hm:X.mg x = some u) (h:Q u s)
  (hd:(x == ("__debug__" : Str)) = false:=by decide):wpAny (model X.prog X.w) X.A (eval (.Name x pos) X.env) Q E s:=
 Calls.Name_function_global I.ok.kind hg (Calls.loadGlobal_global (by rw [I.ok.glob];exact I.mod.glob.keeps I.bk) hm h) hd
theorem rY {E:Value -> Shared -> Prop} {pins:List (Addr × Obj)} {s:Shared} {σ:St} {H:Hp} {x:Str} {u:Value} {pos:Pos} {Q:Value -> Shared -> Prop} (I:Inv X pins σ H s) (hg:Gl X x) (hm:X.mg x = none) (hv:bootBuiltins x = some u) (h:Q u s)
  (hn:x ≠ "__name__" := by decide) (hd:(x == ("__debug__" : Str)) = false:=by decide):wpAny (model X.prog X.w) X.A (eval (.Name x pos) X.env) Q E s:=by
 obtain ⟨mb,h1,h2⟩:=I.mod.blt
 exact Calls.Name_function_global I.ok.kind hg (Calls.loadGlobal_builtin (by rw [I.ok.glob];exact I.mod.glob.keeps I.bk) hm (by rw [I.ok.blt];exact h1.keeps I.bk) ((h2 x hn).trans hv) h) hd
theorem yS {x:Str} {v:V} {u:Value} {pos:Pos} (hg:Gl X x) (hm:X.mg x = some u) (r:RelV v u) (hd:(x == ("__debug__" : Str)) = false:=by decide):PE X (.Name x pos) (tC v):=
 fun _ _ _ H _ I h=>nM I hg hm ⟨v,H,I,r,h⟩ hd
theorem HQ {x:Str} {v:V} {u:Value} {pos:Pos} (hg:Gl X x) (hm:X.mg x = none) (hv:bootBuiltins x = some u) (r:RelV v u) (hn:x ≠ "__name__" := by decide) (hd:(x == ("__debug__" : Str)) = false:=by decide):PE X (.Name x pos) (tC v):=
 fun _ _ _ H _ I h=>rY I hg hm hv ⟨v,H,I,r,h⟩ hn hd
variable {a b:Expr} {ta tb:TE} {pos:Pos}
def tB (t:TE):TT:=fun σ H Q=>t σ H fun x H1=>∃ c,x = .bl c /\ Q c H1
variable {tA tB':TT} {rest:List Expr}
def L8 (t u:TT):TT:=fun σ H Q=>t σ H fun c H1=>if c = true then u σ H1 Q else Q false H1
def tOr (t u:TT):TT:=fun σ H Q=>t σ H fun c H1=>if c = true then Q true H1 else u σ H1 Q
def LB (t:TT):TT:=fun σ H Q=>t σ H fun c H1=>Q (!c) H1
theorem nJ (ha:PT X a tA):PW X (.BoolOp .And [a] pos) tA:=by
 intro wh pins s σ H Q I h
 refine isTrue_and (thn (ha pins s σ H Q I h) fun c s1 e=>?_)
 cases c with
 | true=>exact isTrue_and_nil e
 | false=>exact e
theorem y9 (ha:PT X a tA):PW X (.BoolOp .Or [a] pos) tA:=by
 intro wh pins s σ H Q I h
 refine isTrue_or (thn (ha pins s σ H Q I h) fun c s1 e=>?_)
 cases c with
 | false=>exact isTrue_or_nil e
 | true=>exact e
theorem sC (ha:PT X a tA) (hb:PW X (.BoolOp .And (b :: rest) pos) tB'):PW X (.BoolOp .And (a :: b :: rest) pos) (L8 tA tB'):=by
 intro wh pins s σ H Q I h
 refine isTrue_and (thn (ha pins s σ H _ I h) fun c s1 hpt9=>?_)
 obtain ⟨H1,I1,q1⟩:=hpt9
 cases c with
 | true=>exact hb wh pins s1 σ H1 Q I1 q1
 | false=>exact ⟨H1,I1,q1⟩
theorem Dk (ha:PT X a tA) (hb:PW X (.BoolOp .Or (b :: rest) pos) tB'):PW X (.BoolOp .Or (a :: b :: rest) pos) (tOr tA tB'):=by
 intro wh pins s σ H Q I h
 refine isTrue_or (thn (ha pins s σ H _ I h) fun c s1 hpt9=>?_)
 obtain ⟨H1,I1,q1⟩:=hpt9
 cases c with
 | true=>exact ⟨H1,I1,q1⟩
 | false=>exact hb wh pins s1 σ H1 Q I1 q1
theorem JZ (ha:PT X a tA):PT X (.UnaryOp .Not a pos) (LB tA):=by
 intro pins s σ H Q I h
 exact isTrue_not (ha pins s σ H (fun c H1=>Q (!c) H1) I h)
def Jg (ta tb:TE):TE:=fun σ H Q=>ta σ H fun x H1=>∃ c,x = .bl c /\ if c = true then tb σ H1 Q else Q (.bl false) H1
theorem JA {op} {t:TE} (h:PE X a t):PE X (.BoolOp op [a] pos) t:=fun pins s σ H Q I hw=>BoolOp_one (h pins s σ H Q I hw)
theorem JQ (ha:PE X a ta) (hb:PE X (.BoolOp .And (b :: rest) pos) tb):PE X (.BoolOp .And (a :: b :: rest) pos) (Jg ta tb):=by
 intro pins s σ H Q I h
 refine BoolOp_and (thn (ha pins s σ H _ I h) fun v s1 hpt9=>?_)
 obtain ⟨x,H1,I1,r1,q1⟩:=hpt9
 obtain ⟨c,rfl,q1⟩:=q1
 cases r1
 refine wpAny_truthy_bool ?_
 cases c with
 | true=>exact hb pins s1 σ H1 Q I1 q1
 | false=>exact ⟨.bl false,H1,I1,rfl,q1⟩
end
def SqL (K:W.Frag) (H:Hp) (a:Addr) (xs:List V):Prop:=
 Rd H a (.lst xs) \/
  ∃ (o:Obj) (its:Array Value) (n:Nat),K.lookup a = some o /\ o.cls = .type "list" /\ o.dict = none /\ o.data = .seq its n /\ its.size <= sizeLine /\ Vals xs its.toList
def SqT (K:W.Frag) (H:Hp) (a:Addr) (xs:List V):Prop:=
 Rd H a (.tup xs) \/
  ∃ (o:Obj) (its:Array Value) (n:Nat),K.lookup a = some o /\ o.cls = .type "tuple" /\ o.data = .seq its n /\ its.size <= sizeLine /\ Vals xs its.toList
def NP:Value -> Option V
 | .none=>some .non
 | .bool b=>some (.bl b)
 | .int i _=>some (.int i)
 | .str x _=>some (.str x)
 | .bytes b _=>some (.byt b)
 | .float b _=>some (.flt b)
 | .ref a=>some (.ref a)
 | .type n=>some (.ty n)
 | _=>none
theorem RelV.abs {x:V} {u:Value} (r:RelV x u):NP u = some x:=by
 cases x with
 | non=>cases r;rfl
 | bl _=>cases r;rfl
 | int _=>obtain ⟨t,rfl⟩:=r;rfl
 | str _=>obtain ⟨t,rfl⟩:=r;rfl
 | byt _=>obtain ⟨t,rfl⟩:=r;rfl
 | flt _=>obtain ⟨t,rfl⟩:=r;rfl
 | ref _=>cases r;rfl
 | ty _=>cases r;rfl
theorem RelV.inj {x y:V} {u:Value} (r:RelV x u) (q:RelV y u):x = y:=P6 (r.abs.symm.trans q.abs)
theorem Vals.inj {xs ys:List V} {us:List Value} (h:Vals xs us) (k:Vals ys us):xs = ys:=by
 induction h generalizing ys with
 | nil=>cases k;rfl
 | cons r t ih=>
  cases k with
  | cons r' t'=>rw [r.inj r',ih t']
section
variable {X:Cx} {pins:List (Addr × Obj)} {σ:St} {H:Hp} {s:Shared} {a:Addr} {xs ys:List V}
theorem SqL.of {K:W.Frag} (h:H a = some (.lst xs)):SqL K H a xs:=.inl (.inl h)
theorem SqT.of {K:W.Frag} (h:H a = some (.tup xs)):SqT K H a xs:=.inl (.inl h)
theorem Inv.list (I:Inv X pins σ H s) (h:SqL X.K H a xs):∃ its:List Value,Vals xs its /\ PlainL s.heap a its.toArray /\ xs.length <= sizeLine:=by
 rcases h with h | ⟨o,its,n,hk,hc,hd,hs,hz,r⟩
 ·obtain ⟨z,its,n,r,e⟩:=h.ok I.hok
  exact ⟨its,r,⟨_,n,e,rfl,rfl,rfl⟩,z⟩
 ·refine ⟨its.toList,r,⟨o,n,I.kIn a o hk,hc,hd,by simpa using hs⟩,?_⟩
  have e:=r.length
  simp only [Qe] at e
  lia
theorem Inv.tuple (I:Inv X pins σ H s) (h:SqT X.K H a xs):∃ its:List Value,Vals xs its /\ IsTup s.heap a its.toArray /\ xs.length <= sizeLine:=by
 rcases h with h | ⟨o,its,n,hk,hc,hs,hz,r⟩
 ·obtain ⟨z,its,r,p⟩:=h.ok I.hok
  exact ⟨its,r,p,z⟩
 ·refine ⟨its.toList,r,⟨o,I.kIn a o hk,hc,n,by simpa using hs⟩,?_⟩
  have e:=r.length
  simp only [Qe] at e
  lia
theorem Inv.list_inj (I:Inv X pins σ H s) (h:SqL X.K H a xs) (h':SqL X.K H a ys):xs = ys:=by
 obtain ⟨its,r,⟨o,n,e,_,_,d⟩,_⟩:=I.list h
 obtain ⟨its',r',⟨o',n',e',_,_,d'⟩,_⟩:=I.list h'
 rw [e] at e';cases e'
 rw [d] at d'
 injection d' with d1 _
 have:its = its':=by simpa using PQ Array.toList d1
 subst this
 exact r.inj r'
theorem Inv.tuple_inj (I:Inv X pins σ H s) (h:SqT X.K H a xs) (h':SqT X.K H a ys):xs = ys:=by
 obtain ⟨its,r,⟨o,e,_,n,d⟩,_⟩:=I.tuple h
 obtain ⟨its',r',⟨o',e',_,n',d'⟩,_⟩:=I.tuple h'
 rw [e] at e';cases e'
 rw [d] at d'
 injection d' with d1 _
 have:its = its':=by simpa using PQ Array.toList d1
 subst this
 exact r.inj r'
end
abbrev Cx.wish (X:Cx) (E:Value -> Shared -> Prop):Cx:={ X with xe:=E }
abbrev Cx.nox (X:Cx):Cx:=X.wish fun _ _=>False
theorem Cx.Ok.wish {X:Cx} (ok:X.Ok) (E:Value -> Shared -> Prop):(X.wish E).Ok:=
 ⟨ok.mod,ok.kind,ok.glob,ok.blt,ok.above,ok.inj,ok.has,ok.cab,ok.hd,ok.frames,ok.stk,ok.exf,ok.bs,ok.bsz,ok.noex,ok.exfs,ok.funs,ok.frf⟩
theorem Cx.Ok.unwish {X:Cx} {E:Value -> Shared -> Prop} (ok:(X.wish E).Ok):X.Ok:=
 ⟨ok.mod,ok.kind,ok.glob,ok.blt,ok.above,ok.inj,ok.has,ok.cab,ok.hd,ok.frames,ok.stk,ok.exf,ok.bs,ok.bsz,ok.noex,ok.exfs,ok.funs,ok.frf⟩
section
variable {X:Cx} {pins:List (Addr × Obj)} {σ:St} {H:Hp} {s:Shared} {E:Value -> Shared -> Prop}
theorem Inv.wish (I:Inv X pins σ H s) (E:Value -> Shared -> Prop):Inv (X.wish E) pins σ H s:=⟨I.ok.wish E,I.os,I.bare,I.base,I.loc,I.cell,I.free,I.freeC,I.pin,I.hok,I.len⟩
theorem Inv.unwish (I:Inv (X.wish E) pins σ H s):Inv X pins σ H s:=⟨I.ok.unwish,I.os,I.bare,I.base,I.loc,I.cell,I.free,I.freeC,I.pin,I.hok,I.len⟩
theorem SP.unwish {D:Ends} {f:Flow} {s':Shared} (h:SP (X.wish E) pins D f s'):SP X pins D f s':=by
 cases f with
 | next=>obtain ⟨σ',H',I,q⟩:=h;exact ⟨σ',H',I.unwish,q⟩
 | brk=>obtain ⟨σ',H',I,q⟩:=h;exact ⟨σ',H',I.unwish,q⟩
 | cont=>obtain ⟨σ',H',I,q⟩:=h;exact ⟨σ',H',I.unwish,q⟩
 | ret u=>obtain ⟨v,σ',H',I,r,q⟩:=h;exact ⟨v,σ',H',I.unwish,r,q⟩
theorem PSs.nox {st:List Stmt} {t:TS} (h:PSs X.nox st t):PSs X st t:=fun pins s σ H D I hw=>
 P9 (h pins s σ H D (I.wish _) hw) (fun _ _ q=>q.unwish) fun _ _ z=>False.elim z
end
section
variable {X:Cx} {st:Stmt} {rest:List Stmt} {t u:TS} {e:Expr} {te:TE} {pos:Pos}
def A2:TS:=fun D σ H=>D.nx σ H
def GU (t u:TS):TS:=fun D σ H=>t { D with nx:=u D } σ H
theorem br:PSs X [] A2:=fun _ _ σ H _ I h=>Ri ⟨σ,H,I,h⟩
theorem am (h1:PS X st t) (h2:PSs X rest u):PSs X (st :: rest) (GU t u):=by
 intro pins s σ H D I h
 refine RG (thn (h1 pins s σ H { D with nx:=u D } I h) fun f s1 q=>?_)
 cases f with
 | next=>
  obtain ⟨σ',H',I',q⟩:=q
  exact h2 pins s1 σ' H' D I' q
 | ret v=>exact q
 | brk=>exact q
 | cont=>exact q
theorem ap (h1:PS X st t):PSs X [st] t:=by
 intro pins s σ H D I h
 refine RG (thn (h1 pins s σ H D I h) fun f s1 q=>?_)
 cases f with
 | next=>exact Ri q
 | ret v=>exact q
 | brk=>exact q
 | cont=>exact q
theorem Inv.quiet {pins:List (Addr × Obj)} {σ:St} {H:Hp} {s:Shared} (I:Inv X pins σ H s):interactive X.env = false:=by simp [interactive,I.ok.kind]
def w6 (te:TE):TS:=fun D σ H=>te σ H fun _ H1=>D.nx σ H1
theorem fk (he:PE X e te) (hs:swapsWith e none pos.line X.env = pure false:=by rfl):PS X (.Expr e pos) (w6 te):=by
 intro pins s σ H D I h
 exact wpAny_Expr_any (thn (he pins s σ H _ I h) fun v s1 ⟨x,H1,I1,r1,q1⟩=>⟨σ,H1,I1,q1⟩) I.quiet hs
def Kg (te:TE):TS:=fun D σ H=>te σ H D.rt
theorem aK (he:PE X e te):PS X (.Return (some e) pos) (Kg te):=by
 intro pins s σ H D I h
 exact wpAny_Return_some (thn (he pins s σ H _ I h) fun v s1 ⟨x,H1,I1,r1,q1⟩=>⟨x,σ,H1,I1,r1,q1⟩)
def Hw (c:TT) (t u:TS):TS:=fun D σ H=>c σ H fun b H1=>if b = true then t D σ H1 else u D σ H1
theorem cG {c:Expr} {a b:List Stmt} {tc:TT} (hc:PT X c tc) (ha:PSs X a t) (hb:PSs X b u):PS X (.If c a b pos) (Hw tc t u):=by
 intro pins s σ H D I h
 refine wpAny_If (thn (hc pins s σ H _ I h) fun d s1 hpt9=>?_)
 obtain ⟨H1,I1,q1⟩:=hpt9
 cases d with
 | true=>exact ha pins s1 σ H1 D I1 q1
 | false=>exact hb pins s1 σ H1 D I1 q1
def ye:TS:=fun _ _ _=>False
theorem Au:PS X st ye:=fun _ _ _ _ _ _ h=>h.elim
theorem rR {sts:List Stmt}:PSs X sts ye:=fun _ _ _ _ _ _ h=>h.elim
end
abbrev TG:=V -> St -> Hp -> (St -> Hp -> Prop) -> Prop
abbrev TGs:=List V -> St -> Hp -> (St -> Hp -> Prop) -> Prop
def PG (X:Cx) (target:Expr) (t:TG):Prop:=
 ∀ (pins:List (Addr × Obj)) (s:Shared) (σ:St) (H:Hp) (v:V) (u:Value) (Q:St -> Hp -> Prop),Inv X pins σ H s -> RelV v u -> t v σ H Q ->
  wpAny (model X.prog X.w) X.A (assign target X.env u) (fun _ s'=>∃ σ' H',Inv X pins σ' H' s' /\ Q σ' H') X.xe s
def PGs (X:Cx) (ts:List Expr) (t:TGs):Prop:=
 ∀ (pins:List (Addr × Obj)) (s:Shared) (σ:St) (H:Hp) (vs:List V) (us:List Value) (Q:St -> Hp -> Prop),Inv X pins σ H s -> Vals vs us -> t vs σ H Q ->
  wpAny (model X.prog X.w) X.A (assignInOrder ((assignEach ts X.env).map (·.2)) us) (fun _ s'=>∃ σ' H',Inv X pins σ' H' s' /\ Q σ' H') X.xe s
abbrev JN:=V -> V -> V -> Hp -> (Hp -> Prop) -> Prop
def ML (X:Cx) (t:JN):Prop:=
 ∀ (pins:List (Addr × Obj)) (s:Shared) (σ:St) (H:Hp) (o i v:V) (ov iv u:Value) (Q:Hp -> Prop),Inv X pins σ H s -> RelV o ov -> RelV i iv -> RelV v u -> t o i v H Q ->
  wpAny (model X.prog X.w) X.A (setItem ov iv u) (fun _ s'=>∃ H',Inv X pins σ H' s' /\ Q H') X.xe s
abbrev TIp:=V -> V -> Hp -> VK -> Prop
def PIp (X:Cx) (op:Operator) (t:TIp):Prop:=
 ∀ (pins:List (Addr × Obj)) (s:Shared) (σ:St) (H:Hp) (x y:V) (v u:Value) (Q:VK),Inv X pins σ H s -> RelV x v -> RelV y u -> t x y H Q ->
  wpAny (model X.prog X.w) X.A (inplaceOp op v u) (EP X pins σ Q) X.xe s
section
variable {X:Cx} {pos:Pos}
def ir (i:Nat):TG:=fun v σ H Q=>Q (σ.set i (some v)) H
theorem p9 {i:Nat} {x:Str} (hN:X.N.Nodup) (hi:X.N[i]? = some x) (hx:Loc X.env.scope x) (hf:X.fn x = true \/ X.env.scope.names.lookup x = some .local:=by first | exact .inl rfl | exact .inr rfl | assumption):PG X (.Name x pos) (ir i):=by
 intro pins s σ H v u Q I r h
 exact wpAny_assign_Name (pP I hN hi hx r (fun s' I'=>⟨_,H,I',h⟩) hf)
def KI:TGs:=fun vs σ H Q=>vs = [] /\ Q σ H
def Ga (t:TG) (u:TGs):TGs:=fun vs σ H Q=>∃ v r,vs = v :: r /\ t v σ H fun σ' H'=>u r σ' H' Q
theorem bJ:PGs X [] KI:=by
 intro pins s σ H vs us Q I r h
 obtain ⟨e,h⟩:=h
 subst e
 cases r
 exact assignInOrder_nil ⟨σ,H,I,h⟩
theorem aC {e:Expr} {es:List Expr} {t:TG} {u:TGs} (h1:PG X e t) (h2:PGs X es u)
  (hs:(assignEach (e :: es) X.env).map (·.2) = assign e X.env :: (assignEach es X.env).map (·.2):=by rfl):PGs X (e :: es) (Ga t u):=by
 intro pins s σ H vs us Q I r h
 obtain ⟨v,vr,e1,h⟩:=h
 subst e1
 cases r with
 | cons r rr=>
  rw [hs]
  refine assignInOrder_cons (thn (h1 pins s σ H _ _ _ I r h) fun _ s1 hpt9=>?_)
  obtain ⟨σ1,H1,I1,q1⟩:=hpt9
  exact h2 pins s1 σ1 H1 _ _ Q I1 rr q1
def J4 (K:W.Frag) (n:Nat) (t:TGs):TG:=fun v σ H Q=>∃ a xs,v = .ref a /\ SqT K H a xs /\ xs.length = n /\ t xs σ H Q
theorem cz {es:List Expr} {k:Nat} {t:TGs} {n:Nat} (hc:X.calm = true) (h:PGs X es t)
  (hn:(assignEach es X.env).length = n:=by rfl) (hst:(assignEach es X.env).findIdx? (·.1) = none:=by rfl):PG X (.Tuple es k pos) (J4 X.K n t):=by
 intro pins s σ H v u Q I r hw
 obtain ⟨a,xs,e1,hq,hl,hw⟩:=hw
 subst e1
 cases r
 obtain ⟨its,rv,ht,hz⟩:=I.tuple hq
 refine assign_Tuple_tuple (I.ok.hd hc) ht (by simp [hn,<- hl,rv.length]) hst fun h' hx=>?_
 have I1:Inv X pins σ H { s with heap:=h' }:=I.kept (t':=s.toks) fun b o e=>hx b o (PD (Pv e)) e
 exact h pins _ σ H xs _ Q I1 (by simpa using rv) hw
def Mq (to ti:TE) (t:JN):TG:=fun v σ H Q=>to σ H fun o H1=>ti σ H1 fun i H2=>t o i v H2 fun H3=>Q σ H3
theorem y6 {o i:Expr} {to ti:TE} {t:JN} (ho:PE X o to) (hi:PE X i ti) (hs:ML X t)
  (ha:∀ v,assign (.Subscript o i pos) X.env v = (do
   let ov ← holding [v] (eval o X.env)
   let iv ← holding [v,ov] (eval i X.env)
   standAt pos
   holding [v,ov,iv] (setItem ov iv v)
   release [v,ov,iv] []):=by intro _;rfl):PG X (.Subscript o i pos) (Mq to ti t):=by
 intro pins s σ H v u Q I r h
 rw [ha]
 refine Pg (QC (thn (ho pins s σ H _ I h) fun ov s1 hpt9=>?_))
 obtain ⟨x,H1,I1,r1,q1⟩:=hpt9
 refine Pg (QC (thn (hi pins s1 σ H1 _ I1 q1) fun iv s2 hpt9=>?_))
 obtain ⟨y,H2,I2,r2,q2⟩:=hpt9
 refine Pg (wpAny_standAt (Pg (QC (thn (hs pins s2 σ H2 x y v ov iv u _ I2 r1 r2 r q2) fun _ s3 hpt9=>?_))))
 obtain ⟨H3,I3,q3⟩:=hpt9
 exact wpAny_release ⟨σ,H3,I3,q3⟩
def vO (te:TE) (g:TG):TS:=fun D σ H=>te σ H fun x H1=>g x σ H1 D.nx
theorem y3 {tg e:Expr} {te:TE} {g:TG} (he:PE X e te) (hg:PG X tg g) (hs:swapsWithSole [tg] e pos.line X.env = pure false:=by rfl) (hw:swappedStores [tg] e X.env = pure none:=by rfl)
  (h1:(assignEach [tg] X.env).map (·.2) = [assign tg X.env]:=by rfl):PS X (.Assign [tg] e pos) (vO te g):=by
 intro pins s σ H D I h
 refine wpAny_Assign_stores (thn (he pins s σ H _ I h) fun v s1 hpt9=>?_) hs hw
 obtain ⟨x,H1,I1,r1,q1⟩:=hpt9
 rw [h1]
 exact thn (hg pins s1 σ H1 x v _ I1 r1 q1) fun _ s2 q=>q
theorem mO {i:Nat} {x:Str} {e:Expr} {te:TE} {pos':Pos} (hN:X.N.Nodup) (hi:X.N[i]? = some x) (hx:Loc X.env.scope x) (he:PE X e te) (hs:swapsWith e (some (.Name x pos')) pos.line X.env = pure false:=by rfl) (hf:X.fn x = true \/ X.env.scope.names.lookup x = some .local:=by first | exact .inl rfl | exact .inr rfl | assumption) :
  PS X (.Assign [.Name x pos'] e pos) (vO te (ir i)):=by
 intro pins s σ H D I h
 refine wpAny_Assign_Name (thn (he pins s σ H _ I h) fun v s1 hpt9=>?_) hs
 obtain ⟨y,H1,I1,r1,q1⟩:=hpt9
 exact pP I1 hN hi hx r1 (fun s2 I2=>⟨_,H1,I2,q1⟩) hf
def Me (i:Nat) (te:TE) (ti:TIp):TS:=fun D σ H=>∃ x,σ[i]? = some (some x) /\ te σ H fun y H1=>ti x y H1 fun z H2=>D.nx (σ.set i (some z)) H2
theorem yR {i:Nat} {x:Str} {e:Expr} {te:TE} {op:Operator} {ti:TIp} {pos':Pos} (hN:X.N.Nodup) (hi:X.N[i]? = some x) (hx:Loc X.env.scope x) (he:PE X e te) (ho:PIp X op ti) (hf:X.fn x = true \/ X.env.scope.names.lookup x = some .local:=by first | exact .inl rfl | exact .inr rfl | assumption) :
  PS X (.AugAssign (.Name x pos') op e pos) (Me i te ti):=by
 intro pins s σ H D I h
 obtain ⟨v,e1,h⟩:=h
 obtain ⟨m,hn,hl⟩:=I.loc
 have vis:Vis X.env.scope x:=by rcases hx with k | k;exact .inl k;exact .inr (.inl k)
 obtain ⟨u,r,l⟩:=hl i x v hi e1 vis
 refine wpAny_AugAssign_Name ?_
 have go:wpAny (model X.prog X.w) X.A (eval e X.env) (fun w s₂=>wpAny (model X.prog X.w) X.A (inplaceOp op u w) (fun r s₃=>wpAny (model X.prog X.w) X.A (storeName X.env x r) (fun _=>SP X pins D .next) X.xe s₃) X.xe s₂) X.xe s:=by
  refine thn (he pins s σ H _ I h) fun w s1 hpt9=>?_
  obtain ⟨y,H1,I1,r1,q1⟩:=hpt9
  refine thn (ho pins s1 σ H1 v y u w _ I1 r r1 q1) fun z s2 hpt9=>?_
  obtain ⟨zv,H2,I2,r2,q2⟩:=hpt9
  exact pP I2 hN hi hx r2 (fun s3 I3=>⟨_,H2,I3,q2⟩) hf
 rcases l with ⟨hk,hm⟩ | ⟨hk,c,hc,hcell⟩
 ·exact wpAny_loadName_local I.ok.kind hk hn hm go
 ·rcases hk with hk | hk
  ·exact wpAny_loadName_cell I.ok.kind hk hc hcell go
  ·rcases hx with k | k
   ·have:X.env.scope.names.lookup x = some .free:=hk
    rw [k] at this;cases this
   ·have:X.env.scope.names.lookup x = some .free:=hk
    rw [k] at this;cases this
def ipI (f:Int -> Int -> Int):TIp:=fun x y H Q=>∃ i j,x = .int i /\ y = .int j /\ Q (.int (f i j)) H
theorem yG:PIp X .Add (ipI fun i j=>i + j):=by
 intro pins s σ H x y v u Q I r1 r2 h
 obtain ⟨i,j,e1,e2,q⟩:=h
 subst e1;subst e2
 obtain ⟨t,rfl⟩:=r1
 obtain ⟨t',rfl⟩:=r2
 exact iadd_int ⟨.int _,H,I.tok _,⟨_,rfl⟩,q⟩
end
section
variable {X:Cx} {pos:Pos}
def Gy (c:TT) (tb:TS):TS:=fun D σ H=>∃ W:Nat -> St -> Hp -> Prop,(∃ m,W m σ H) /\ ∀ m σ H,W m σ H ->
 c σ H fun b H1=>if b = true then ∃ N:St -> Hp -> Prop,(∀ σ' H',N σ' H' -> ∃ m',m' < m /\ W m' σ' H') /\ tb { D with nx:=N,ct:=N,bk:=D.nx } σ H1 else D.nx σ H1
theorem mU {c:Expr} {body:List Stmt} {tc:TT} {tb:TS} (hp:PassesOwn (model X.prog X.w) X.A X.env X.xe) (hc:PT X c tc) (hb:PSs X body tb):PS X (.While c body [] pos) (Gy tc tb):=by
 intro pins s σ H D I h
 obtain ⟨W,⟨m0,w0⟩,turn⟩:=h
 refine wpAny_While (codeAny_whileLoop (fun n s'=>∃ σ' H',Inv X pins σ' H' s' /\ W n σ' H') ?_ m0 ⟨σ,H,I,w0⟩)
 rintro n s1 ⟨σ1,H1,I1,w1⟩
 refine QT hp (thn (hc pins s1 σ1 H1 _ I1 (turn n σ1 H1 w1)) fun b s2 hpt9=>?_)
 obtain ⟨H2,I2,q2⟩:=hpt9
 cases b with
 | true=>
  obtain ⟨N,hN,q2⟩:=q2
  rw [Pb rfl]
  refine QT hp (thn (hb pins s2 σ1 H2 _ I2 q2) fun f s3 q3=>?_)
  cases f with
  | next=>
   obtain ⟨σ3,H3,I3,n3⟩:=q3
   obtain ⟨m',hm,w3⟩:=hN σ3 H3 n3
   exact ⟨m',hm,σ3,H3,I3,w3⟩
  | cont=>
   obtain ⟨σ3,H3,I3,n3⟩:=q3
   obtain ⟨m',hm,w3⟩:=hN σ3 H3 n3
   exact ⟨m',hm,σ3,H3,I3,w3⟩
  | brk=>exact q3
  | ret v=>exact q3
 | false=>
  rw [Pc QU]
  exact Ri ⟨σ1,H2,I2,q2⟩
end
structure It where
 go:Nat -> Hp -> Prop
 yld:Nat -> Hp -> V -> Hp -> Prop
 stop:Nat -> Hp -> Prop
def qE (X:Cx) (pins:List (Addr × Obj)) (H:Hp) (b:Addr):Prop:=
 H b = none /\ b ≠ X.env.locals /\ b ∉ X.fs /\ (b ∈ X.ex \/ X.s₀.heap.objs.size <= b) /\ (∀ x c,X.env.cells.lookup x = some c -> c ≠ b) /\ ∀ p ∈ X.pn ++ pins,p.1 ≠ b
theorem Inv.fpOk {X:Cx} {pins:List (Addr × Obj)} {σ:St} {H H':Hp} {s:Shared} {b:Addr} (I:Inv X pins σ H s) (hb:s.heap.objs.size <= b) (hn:H' b = none):qE X pins H' b:=by
 refine ⟨hn,Nat.ne_of_gt (PY I.lt hb),I.nofs hb,.inr (PR I.sz hb),fun x c e z=>?_,fun p hp z=>?_⟩
 ·obtain ⟨v,q⟩:=I.cell x c e
  exact absurd (PY q.lt (by rw [z];exact hb)) (QB _)
 ·exact absurd (PY (Pv (I.pin p hp).1) (by rw [z];exact hb)) (QB _)
structure Turn (P:Program) (w:World) (K:W.Frag) (tg:Expr) (J:It) (fp:List Addr) (it:Addr) (tn:Nat -> Heap -> Prop):Prop where
 mem:it ∈ fp
 obj:∀ i h,tn i h -> ∀ b ∈ fp,∃ o,h.get? b = some o /\ ∀ v,o.data ≠ .cell v
 keep:∀ i h h',tn i h -> (∀ b ∈ fp,∀ o,h.get? b = some o -> h'.get? b = some o) -> tn i h'
 item:∀ (X:Cx),X.prog = P -> X.w = w -> X.K = K -> X.calm = true -> ∀ (i:Nat) (pins:List (Addr × Obj)) (s:Shared) (σ:St) (H:Hp) (E:Value -> Shared -> Prop),Inv X pins σ H s -> (∀ b ∈ fp,qE X pins H b) -> tn i s.heap -> J.go i H ->
  wpAny (model P w) X.A (pyNext (.ref it)) (fun r s1=>∃ u,r = some u /\
   wpAny (model P w) X.A (letOwnedTupleGo tg (.ref it) u) (fun _ s2=>∃ x H',Inv X pins σ H' s2 /\ RelV x u /\ J.yld i H x H' /\ tn (i + 1) s2.heap /\ ∀ b ∈ fp,H' b = none) E s1) E s
 done:∀ (X:Cx),X.prog = P -> X.w = w -> X.K = K -> X.calm = true -> ∀ (i:Nat) (pins:List (Addr × Obj)) (s:Shared) (σ:St) (H:Hp) (E:Value -> Shared -> Prop),Inv X pins σ H s -> (∀ b ∈ fp,qE X pins H b) -> tn i s.heap -> J.stop i H ->
  wpAny (model P w) X.A (pyNext (.ref it)) (fun r s1=>r = none /\ Inv X pins σ H s1) E s
 self:∀ (A:Around) (i:Nat) (s:Shared) (Q:Value -> Shared -> Prop) (E:Value -> Shared -> Prop),tn i s.heap -> Q (.ref it) s -> wpAny (model P w) A (pyIter (.ref it)) Q E s
abbrev TI:=St -> Hp -> (It -> Hp -> Prop) -> Prop
def PIE (X:Cx) (pins:List (Addr × Obj)) (σ:St) (tg:Expr) (R:It -> Hp -> Prop) (itv:Value) (s2:Shared):Prop:=
 ∃ (it:Addr) (fp:List Addr) (tn:Nat -> Heap -> Prop) (J:It) (H':Hp),itv = .ref it /\ Inv X pins σ H' s2 /\ Turn X.prog X.w X.K tg J fp it tn /\ tn 0 s2.heap /\ (∀ b ∈ fp,qE X pins H' b) /\ R J H'
def PI (X:Cx) (tg iter:Expr) (wi:TI):Prop:=
 ∀ (pins:List (Addr × Obj)) (s:Shared) (σ:St) (H:Hp) (R:It -> Hp -> Prop),Inv X pins σ H s -> wi σ H R ->
  wpAny (model X.prog X.w) X.A (eval iter X.env) (fun v s1=>wpAny (model X.prog X.w) X.A (pyIter v) (PIE X pins σ tg R) X.xe s1) X.xe s
theorem Aa {M:Model} {A:Around} {E:Value -> Shared -> Prop} {s:Shared} {tg:Expr} {it:Addr} {u:Value} {o:Obj} {n:String} {vs:Array Value} {Q:Unit -> Shared -> Prop} (ho:s.heap.get? it = some o) (hc:o.cls = .type n) (hd:o.data = .fields vs)
  (hn:["enumerate", "zip", "dict_itemiterator", "dict_reverseitemiterator", "odict_iterator", "itertools.zip_longest", "itertools.pairwise"].contains n = false) (hQ:Q () s):wpAny M A (letOwnedTupleGo tg (.ref it) u) Q E s:=by
 unfold letOwnedTupleGo
 cases tg <;> first
  | exact Pl hQ
  | (cases u <;> first
    | exact Pl hQ
    | (refine Pg (wpAny_load ho ?_)
       rw [hc,hd]
       show wpAny M A (if (["enumerate", "zip", "dict_itemiterator", "dict_reverseitemiterator", "odict_iterator", "itertools.zip_longest", "itertools.pairwise"].contains n && vs[0]? == some (rawInt _)) = true then _ else _) Q E s
       rw [Pc (by intro h;rw [hn,Bool.false_and] at h;cases h)]
       exact Pl hQ))
def Itl (K:W.Frag) (a:Addr):It:=
 ⟨fun i H=>∃ xs x,SqL K H a xs /\ xs[i]? = some x,fun i H x H'=>H' = H /\ ∀ xs,SqL K H a xs -> xs[i]? = some x,fun i H=>∃ xs,SqL K H a xs /\ xs.length <= i⟩
def Itt (K:W.Frag) (a:Addr):It:=
 ⟨fun i H=>∃ xs x,SqT K H a xs /\ xs[i]? = some x,fun i H x H'=>H' = H /\ ∀ xs,SqT K H a xs -> xs[i]? = some x,fun i H=>∃ xs,SqT K H a xs /\ xs.length <= i⟩
def Itr (lo:Int) (n:Nat):It:=⟨fun i _=>i < n,fun i H x H'=>H' = H /\ x = .int (lo + i),fun i _=>n <= i⟩
theorem Eb {P:Program} {w:World} {K:W.Frag} {tg:Expr} (a it:Addr):Turn P w K tg (Itl K a) [it] it (fun i h=>h.IsListIter it a i) where
 mem:=by simp
 obj:=fun i h st b hb=>by
  have e:b = it:=by simpa using hb
  subst e
  obtain ⟨o,e,c,d⟩:=st
  exact ⟨o,e,fun v z=>by rw [d] at z;cases z⟩
 keep:=fun i h h' st k=>st.at fun o e=>k it (by simp) o e
 item:=by
  intro X hP hw hK hc i pins s σ H E I hf st hg
  subst hP hw hK
  obtain ⟨xs,x,hq,hx⟩:=hg
  obtain ⟨its,rv,p,hz⟩:=I.list hq
  obtain ⟨u,hu,ru⟩:=rv.get hx
  obtain ⟨f0,f1,f2,f3,f4,f5⟩:=hf it (by simp)
  refine wpAny_pyNext_list_item st p.isList (x:=u) (by simpa using hu) fun h' st' sb=>?_
  have I1:Inv X pins σ H { s with heap:=h' }:=I.turned (t':=s.toks) (fun b o hb e=>(sb.2 b hb).trans e) f0 f1 f3 f4 f5
  obtain ⟨o,e,c,d⟩:=id st'
  exact ⟨u,rfl,Aa (s:={ s with heap:=h' }) e c d (by decide) ⟨x,H,I1,ru,⟨rfl,fun ys hy=>by rw [I.list_inj hy hq];exact hx⟩,st',fun b hb=>(hf b hb).1⟩⟩
 done:=by
  intro X hP hw hK hc i pins s σ H E I hf st hg
  subst hP hw hK
  obtain ⟨xs,hq,hx⟩:=hg
  obtain ⟨its,rv,p,hz⟩:=I.list hq
  obtain ⟨f0,f1,f2,f3,f4,f5⟩:=hf it (by simp)
  have hl:=rv.length
  exact wpAny_pyNext_list_end (I.ok.hd hc) st p.isList (by simp;lia) fun h' eb=>⟨rfl,I.turned (t':=s.toks) (fun b o hb e=>eb b o hb e) f0 f1 f3 f4 f5⟩
 self:=fun _ _ _ _ _ st h=>wpAny_pyIter_listiter st h
theorem Bx {P:Program} {w:World} {K:W.Frag} {tg:Expr} (a it:Addr):Turn P w K tg (Itt K a) [it] it (fun i h=>h.IsTupleIter it a i) where
 mem:=by simp
 obj:=fun i h st b hb=>by
  have e:b = it:=by simpa using hb
  subst e
  obtain ⟨o,e,c,d⟩:=st
  exact ⟨o,e,fun v z=>by rw [d] at z;cases z⟩
 keep:=fun i h h' st k=>st.at fun o e=>k it (by simp) o e
 item:=by
  intro X hP hw hK hc i pins s σ H E I hf st hg
  subst hP hw hK
  obtain ⟨xs,x,hq,hx⟩:=hg
  obtain ⟨its,rv,p,hz⟩:=I.tuple hq
  obtain ⟨u,hu,ru⟩:=rv.get hx
  obtain ⟨f0,f1,f2,f3,f4,f5⟩:=hf it (by simp)
  refine wpAny_pyNext_tuple_item st (show s.heap.IsTuple a its.toArray from p) (x:=u) (by simpa using hu) fun h' st' sb=>?_
  have I1:Inv X pins σ H { s with heap:=h' }:=I.turned (t':=s.toks) (fun b o hb e=>(sb.2 b hb).trans e) f0 f1 f3 f4 f5
  obtain ⟨o,e,c,d⟩:=id st'
  exact ⟨u,rfl,Aa (s:={ s with heap:=h' }) e c d (by decide) ⟨x,H,I1,ru,⟨rfl,fun ys hy=>by rw [I.tuple_inj hy hq];exact hx⟩,st',fun b hb=>(hf b hb).1⟩⟩
 done:=by
  intro X hP hw hK hc i pins s σ H E I hf st hg
  subst hP hw hK
  obtain ⟨xs,hq,hx⟩:=hg
  obtain ⟨its,rv,p,hz⟩:=I.tuple hq
  obtain ⟨f0,f1,f2,f3,f4,f5⟩:=hf it (by simp)
  have hl:=rv.length
  exact wpAny_pyNext_tuple_end (I.ok.hd hc) st (show s.heap.IsTuple a its.toArray from p) (by simp;lia) fun h' eb=>⟨rfl,I.turned (t':=s.toks) (fun b o hb e=>eb b o hb e) f0 f1 f3 f4 f5⟩
 self:=fun _ _ _ _ _ st h=>wpAny_pyIter_tupleiter st h
theorem BG {P:Program} {w:World} {K:PySem.W.Frag} {tg:Expr} (it:Addr) (lo:Int) (n:Nat):Turn P w K tg (Itr lo n) [it] it (fun i h=>IsRangeIter h it (lo + (i:Nat) * 1) ((n:Int) - (i:Nat)) 1) where
 mem:=by simp
 obj:=fun i h st b hb=>by
  have e:b = it:=by simpa using hb
  subst e
  exact ⟨_,st,fun v z=>by
   have z':Data.fields _ = Data.cell v:=z
   cases z'⟩
 keep:=fun i h h' st k=>k it (by simp) _ st
 item:=by
  intro X hP hw hK hc i pins s σ H E I hf st hg
  subst hP hw hK
  obtain ⟨f0,f1,f2,f3,f4,f5⟩:=hf it (by simp)
  have W:=Walks.range (prog:=X.prog) (w:=X.w) (I.ok.hd hc) it lo 1 n
  refine W.item i s _ _ hg st fun v h' tk hv st' kk=>?_
  obtain ⟨t,rfl⟩:=hv
  have I1:Inv X pins σ H { s with heap:=h',toks:=tk }:=I.turned (fun b o hb e=>kk b o (by simpa using hb) e) f0 f1 f3 f4 f5
  refine ⟨_,rfl,Aa (s:={ s with heap:=h',toks:=tk }) (n := "range_iterator") st' rfl rfl (by decide) ⟨.int (lo + i),H,I1,⟨t,?_⟩,⟨rfl,rfl⟩,st',fun b hb=>(hf b hb).1⟩⟩
  rw [Int.mul_one]
 done:=by
  intro X hP hw hK hc i pins s σ H E I hf st hg
  subst hP hw hK
  obtain ⟨f0,f1,f2,f3,f4,f5⟩:=hf it (by simp)
  exact wpAny_pyNext_range_end (I.ok.hd hc) st (by have:n <= i:=hg;lia) fun h' eb=>⟨rfl,I.turned (t':=s.toks) (fun b o hb e=>eb b o hb e) f0 f1 f3 f4 f5⟩
 self:=fun _ _ _ _ _ st h=>wpAny_pyIter_rangeiter st h
section
variable {X:Cx} {tg:Expr}
theorem Fg {pins:List (Addr × Obj)} {σ:St} {H:Hp} {s:Shared} {R:It -> Hp -> Prop} {E:Value -> Shared -> Prop} {lo hi:Int} {t u v:Tok} {tk:Nat} (I:Inv X pins σ H s) (h1:-(2 ^ 62) <= lo) (h2:lo < 2 ^ 62) (h3:-(2 ^ 62) <= hi) (h4:hi < 2 ^ 62)
  (q:R (Itr lo (hi - lo).toNat) H):wpAny (model X.prog X.w) X.A (pyIter (.ref s.heap.objs.size)) (PIE X pins σ tg R) E { s with heap:=s.heap.push { cls:=.type "range",data:=.fields #[.int lo t,.int hi u,.int 1 v] },toks:=tk }:=by
 refine wpAny_pyIter_range (IsRange.new ..) (small_one h1 h2 h3 h4) ?_
 have I1:Inv X pins σ H { s with heap:=s.heap.push { cls:=.type "range",data:=.fields #[.int lo t,.int hi u,.int 1 v] },toks:=tk }:=I.kept fun b o e=>Pz _ e
 refine ⟨(s.heap.push { cls:=.type "range",data:=.fields #[.int lo t,.int hi u,.int 1 v] }).objs.size,[(s.heap.push { cls:=.type "range",data:=.fields #[.int lo t,.int hi u,.int 1 v] }).objs.size],_,_,H,rfl,
  I1.kept (t':=tk) fun b o e=>Pz _ e,BG _ lo (hi - lo).toNat,?_,fun b hb=>?_,q⟩
 ·have e1:lo + ((0:Nat):Int) * 1 = lo:=by simp
  have e2:(((hi - lo).toNat:Nat):Int) - ((0:Nat):Int) = Builtin.Range.rangeSize lo hi 1:=by rw [rangeSize_one];split <;> lia
  show IsRangeIter _ _ (lo + ((0:Nat):Int) * 1) ((((hi - lo).toNat:Nat):Int) - ((0:Nat):Int)) 1
  rw [e1,e2]
  exact P7 _ rfl
 ·have e:b = (s.heap.push { cls:=.type "range",data:=.fields #[.int lo t,.int hi u,.int 1 v] }).objs.size:=by simpa using hb
  subst e
  exact I1.fpOk (Pj _) (I1.hok.fresh (Pj _))
def Jk (ta:TA):TI:=fun σ H R=>ta σ H fun vs H1=>∃ j:Int,vs = [.int j] /\ -(2 ^ 62) <= j /\ j < 2 ^ 62 /\ R (Itr 0 j.toNat) H1
theorem wV {a:Expr} {ta:TA} {p pos:Pos} (hg:Gl X "range") (hm:X.mg "range" = none) (ha:PA X [a] ta) (hs:starEach [a] X.env = [(false,eval a X.env)]:=by rfl):PI X tg (.Call (.Name "range" p) [a] [] pos) (Jk ta):=by
 intro pins s σ H R I h
 refine Call_ (rY I hg hm boot_range (RH (thn (ha pos pins s σ H _ I h) fun us s1 hpt9=>?_) hs rfl))
 obtain ⟨vs,H1,I1,r1,q1⟩:=hpt9
 obtain ⟨j,e,q1,q2,q⟩:=q1
 subst e
 cases r1 with
 | cons r rr=>
  cases rr
  obtain ⟨t,rfl⟩:=r
  exact call_range_1 (Fg I1 (by lia) (by lia) q1 q2 (by simpa using q))
def Lp (wi:TI) (g:TG) (tb:TS):TS:=fun D σ H=>wi σ H fun J H1=>∃ W:Nat -> Nat -> St -> Hp -> Prop,(∃ m,W 0 m σ H1) /\ ∀ i m σ H,W i m σ H ->
 (J.stop i H /\ D.nx σ H) \/ (J.go i H /\ ∃ N:St -> Hp -> Prop,(∀ σ' H',N σ' H' -> ∃ m',m' < m /\ W (i + 1) m' σ' H') /\ ∀ x H',J.yld i H x H' -> g x σ H' fun σ2 H2=>tb { D with nx:=N,ct:=N,bk:=D.nx } σ2 H2)
def sj (fp:List Addr) (h:Heap):List (Addr × Obj):=fp.filterMap fun b=>(h.get? b).map fun o=>(b,o)
theorem gG {fp:List Addr} {h:Heap} {b:Addr} {o:Obj} (hb:b ∈ fp) (e:h.get? b = some o):(b,o) ∈ sj fp h:=Rj.mpr ⟨b,hb,by rw [e];rfl⟩
theorem EV {fp:List Addr} {h:Heap} {p:Addr × Obj} (hp:p ∈ sj fp h):p.1 ∈ fp /\ h.get? p.1 = some p.2:=by
 obtain ⟨b,hb,e⟩:=Rj.mp hp
 cases q:h.get? b with
 | none=>rw [q] at e;cases e
 | some o=>
  rw [q] at e
  have e':(b,o) = p:=P6 e
  subst e'
  exact ⟨hb,q⟩
theorem Inv.pinned {pins:List (Addr × Obj)} {σ:St} {H:Hp} {s:Shared} {fp:List Addr} (I:Inv X pins σ H s) (hf:∀ b ∈ fp,qE X pins H b) (ho:∀ b ∈ fp,∃ o,s.heap.get? b = some o /\ ∀ v,o.data ≠ .cell v):Inv X (pins ++ sj fp s.heap) σ H s:=
 I.pins_of fun p hp=>(Pu.mp hp).elim (fun z=>I.pin p (Pr _ z)) fun z=>by
  obtain ⟨hb,e⟩:=EV z
  obtain ⟨f0,f1,f2,_⟩:=hf p.1 hb
  obtain ⟨o,e',d⟩:=ho p.1 hb
  rw [e] at e';cases e'
  exact ⟨e,f0,f1,f2,d⟩
theorem Inv.unpinned {pins pl:List (Addr × Obj)} {σ:St} {H:Hp} {s:Shared} (I:Inv X (pins ++ pl) σ H s):Inv X pins σ H s:=I.pins_of fun p hp=>I.pin p (Pr _ (Py _ hp))
theorem mK {iter:Expr} {body:List Stmt} {wi:TI} {g:TG} {tb:TS} {pos:Pos} (hp:PassesOwn (model X.prog X.w) X.A X.env X.xe) (hc:X.calm = true) (hi:PI X tg iter wi) (hg:PG X tg g) (hb:PSs X body tb)
  (hs:∀ x,foldedSetIterable iter X.env x = pure x:=by intro _;rfl):PS X (.For tg iter body [] pos) (Lp wi g tb):=by
 intro pins s σ H D I h
 refine wpAny_For (thn (hi pins s σ H _ I h) fun v s1 h1=>thn h1 fun itv s2 h2=>?_) hs
 obtain ⟨it,fp,tn,J,H2,e,I2,T,st2,f2,W,⟨m0,w0⟩,turn⟩:=h2
 subst e
 -- what stays true of the iterator's objects through the loop
 have stat:∀ {H':Hp},(∀ b ∈ fp,H' b = none) -> ∀ b ∈ fp,qE X pins H' b:=fun hn b hb=>⟨hn b hb,(f2 b hb).2⟩
 refine codeAny_forLoop_any (fun n s'=>∃ i σ' H',Inv X pins σ' H' s' /\ tn i s'.heap /\ (∀ b ∈ fp,H' b = none) /\ W i n σ' H') ?_ m0 ⟨0,σ,H2,I2,st2,fun b hb=>(f2 b hb).1,w0⟩
 rintro n s3 ⟨i,σ3,H3,I3,st3,fr3,w3⟩
 rcases turn i n σ3 H3 w3 with ⟨stop,qn⟩ | ⟨go,N,hN,step⟩
 ·refine QT hp (thn (T.done X rfl rfl rfl hc i pins s3 σ3 H3 X.xe I3 (stat fr3) st3 stop) fun r s4 ⟨hr,I4⟩=>?_)
  subst hr
  exact Ri ⟨σ3,H3,I4,qn⟩
 ·refine QT hp (thn (T.item X rfl rfl rfl hc i pins s3 σ3 H3 X.xe I3 (stat fr3) st3 go) fun r s4 ⟨u,hr,h4⟩=>?_)
  subst hr
  refine QT hp (thn h4 fun _ s5 hpt9=>?_)
  obtain ⟨x,H5,I5,r5,y5,st5,fr5⟩:=hpt9
  have I5':=I5.pinned (stat fr5) (T.obj _ _ st5)
  refine QT hp (thn (hg _ s5 σ3 H5 x u _ I5' r5 (step x H5 y5)) fun _ s6 hpt9=>?_)
  obtain ⟨σ6,H6,I6,q6⟩:=hpt9
  refine QT hp (thn (hb _ s6 σ6 H6 _ I6 q6) fun f s7 q7=>?_)
  have again:∀ {σ7:St} {H7:Hp},Inv X (pins ++ sj fp s5.heap) σ7 H7 s7 -> N σ7 H7 -> ∃ m,m < n /\ ∃ i σ' H',Inv X pins σ' H' s7 /\ tn i s7.heap /\ (∀ b ∈ fp,H' b = none) /\ W i m σ' H':=fun {σ7 H7} I7 n7=>by
   obtain ⟨m',hm,w7⟩:=hN σ7 H7 n7
   refine ⟨m',hm,i + 1,σ7,H7,I7.unpinned,T.keep _ _ _ st5 fun b hb o e=>(I7.pin (b,o) (Pr _ (Pr _ (gG hb e)))).1,fun b hb=>?_,w7⟩
   obtain ⟨o,e,d⟩:=T.obj _ _ st5 b hb
   exact (I7.pin (b,o) (Pr _ (Pr _ (gG hb e)))).2.1
  cases f with
  | next=>obtain ⟨σ7,H7,I7,n7⟩:=q7;exact again I7 n7
  | cont=>obtain ⟨σ7,H7,I7,n7⟩:=q7;exact again I7 n7
  | brk=>obtain ⟨σ7,H7,I7,q7⟩:=q7;exact ⟨σ7,H7,I7.unpinned,q7⟩
  | ret v=>obtain ⟨x7,σ7,H7,I7,r7,q7⟩:=q7;exact ⟨x7,σ7,H7,I7.unpinned,r7,q7⟩
end
abbrev R2:=V -> V -> Hp -> VK -> Prop
def OpR (X:Cx) (f:Value -> Value -> Sem Value) (r:R2):Prop:=
 ∀ (pins:List (Addr × Obj)) (s:Shared) (σ:St) (H:Hp) (x y:V) (v u:Value) (Q:VK),Inv X pins σ H s -> RelV x v -> RelV y u -> r x y H Q ->
  wpAny (model X.prog X.w) X.A (f v u) (EP X pins σ Q) X.xe s
def UnR (X:Cx) (f:Value -> Sem Value) (r:V -> Hp -> VK -> Prop):Prop:=
 ∀ (pins:List (Addr × Obj)) (s:Shared) (σ:St) (H:Hp) (x:V) (v:Value) (Q:VK),Inv X pins σ H s -> RelV x v -> r x H Q ->
  wpAny (model X.prog X.w) X.A (f v) (EP X pins σ Q) X.xe s
def CallR (X:Cx) (f:Value) (r:List V -> Hp -> VK -> Prop):Prop:=
 ∀ (pins:List (Addr × Obj)) (s:Shared) (σ:St) (H:Hp) (xs:List V) (us:List Value) (Q:VK),Inv X pins σ H s -> Vals xs us -> r xs H Q ->
  wpAny (model X.prog X.w) X.A (call f us) (EP X pins σ Q) X.xe s
def NC (X:Cx) (r:V -> Hp -> (Bool -> Hp -> Prop) -> Prop):Prop:=
 ∀ (pins:List (Addr × Obj)) (s:Shared) (σ:St) (H:Hp) (x:V) (v:Value) (Q:Bool -> Hp -> Prop),Inv X pins σ H s -> RelV x v -> r x H Q ->
  wpAny (model X.prog X.w) X.A (truthy v) (TP X pins σ Q) X.xe s
def tOp (r:R2) (ta tb:TE):TE:=fun σ H Q=>ta σ H fun x H1=>tb σ H1 fun y H2=>r x y H2 Q
def tUn (r:V -> Hp -> VK -> Prop) (ta:TE):TE:=fun σ H Q=>ta σ H fun x H1=>r x H1 Q
def rI (C:Int -> Int -> Prop) (g:Int -> Int -> V):R2:=fun x y H Q=>∃ i j,x = .int i /\ y = .int j /\ C i j /\ Q (g i j) H
def rI0 (g:Int -> Int -> V):R2:=fun x y H Q=>∃ i j,x = .int i /\ y = .int j /\ Q (g i j) H
def rU (g:Int -> V):V -> Hp -> VK -> Prop:=fun x H Q=>∃ i,x = .int i /\ Q (g i) H
section
variable {X:Cx} {a b c:Expr} {ta tb tc:TE} {pos:Pos}
theorem Ki (ha:PE X a ta) (hb:PE X b tb) {pins:List (Addr × Obj)} {s:Shared} {σ:St} {H:Hp} {R:V -> V -> Hp -> Prop} (I:Inv X pins σ H s)
  (h:ta σ H fun x H1=>tb σ H1 fun y H2=>R x y H2) {Q:Value -> Shared -> Prop} {f:Value -> Value -> Sem Value}
  (hf:∀ v u s2 x y H2,Inv X pins σ H2 s2 -> RelV x v -> RelV y u -> R x y H2 -> wpAny (model X.prog X.w) X.A (f v u) Q X.xe s2) :
  wpAny (model X.prog X.w) X.A (eval a X.env) (fun v s₁=>wpAny (model X.prog X.w) X.A (eval b X.env) (fun u s₂=>wpAny (model X.prog X.w) X.A (f v u) Q X.xe s₂) X.xe s₁) X.xe s:=by
 refine thn (ha pins s σ H _ I h) fun v s1 hpt9=>?_
 obtain ⟨x,H1,I1,r1,q1⟩:=hpt9
 refine thn (hb pins s1 σ H1 _ I1 q1) fun u s2 hpt9=>?_
 obtain ⟨y,H2,I2,r2,q2⟩:=hpt9
 exact hf v u s2 x y H2 I2 r1 r2 q2
theorem aO {op:Operator} {r:R2} (ho:OpR X (binaryOp op) r) (ha:PE X a ta) (hb:PE X b tb):PE X (.BinOp a op b pos) (tOp r ta tb):=by
 intro pins s σ H Q I h
 exact wpAny_BinOp (Ki ha hb I h fun v u s2 x y H2 I2 rx ry q=>ho pins s2 σ H2 x y v u Q I2 rx ry q)
theorem eV {op:UnaryOp} {r:V -> Hp -> VK -> Prop} (ho:UnR X (unaryOp op) r) (ha:PE X a ta):PE X (.UnaryOp op a pos) (tUn r ta):=by
 intro pins s σ H Q I h
 exact UnaryOp_ (thn (ha pins s σ H _ I h) fun v s1 ⟨x,H1,I1,r1,q1⟩=>ho pins s1 σ H1 x v Q I1 r1 q1)
theorem opI {f:Value -> Value -> Sem Value} {C:Int -> Int -> Prop} {g:Int -> Int -> Int}
  (rule:∀ (i j:Int) (t u:Tok) (s:Shared) (Q:Value -> Shared -> Prop) (E:Value -> Shared -> Prop),C i j -> Q (.int (g i j) s.toks) { s with toks:=s.toks + 1 } -> wpAny (model X.prog X.w) X.A (f (.int i t) (.int j u)) Q E s) :
  OpR X f (rI C fun i j=>.int (g i j)):=by
 intro pins s σ H x y v u Q I rx ry h
 obtain ⟨i,j,rfl,rfl,hc,q⟩:=h
 obtain ⟨t,rfl⟩:=rx
 obtain ⟨t',rfl⟩:=ry
 exact rule i j t t' s _ _ hc ⟨.int (g i j),H,I.tok _,⟨_,rfl⟩,q⟩
theorem Ll {f:Value -> Value -> Sem Value} {g:Int -> Int -> Int}
  (rule:∀ (i j:Int) (t u:Tok) (s:Shared) (Q:Value -> Shared -> Prop) (E:Value -> Shared -> Prop),Q (.int (g i j) s.toks) { s with toks:=s.toks + 1 } -> wpAny (model X.prog X.w) X.A (f (.int i t) (.int j u)) Q E s) :
  OpR X f (rI0 fun i j=>.int (g i j)):=by
 intro pins s σ H x y v u Q I rx ry h
 obtain ⟨i,j,rfl,rfl,q⟩:=h
 obtain ⟨t,rfl⟩:=rx
 obtain ⟨t',rfl⟩:=ry
 exact rule i j t t' s _ _ ⟨.int (g i j),H,I.tok _,⟨_,rfl⟩,q⟩
theorem JU {f:Value -> Value -> Sem Value} {g:Int -> Int -> Bool}
  (rule:∀ (i j:Int) (t u:Tok) (s:Shared) (Q:Value -> Shared -> Prop) (E:Value -> Shared -> Prop),Q (.bool (g i j)) s -> wpAny (model X.prog X.w) X.A (f (.int i t) (.int j u)) Q E s) :
  OpR X f (rI0 fun i j=>.bl (g i j)):=by
 intro pins s σ H x y v u Q I rx ry h
 obtain ⟨i,j,rfl,rfl,q⟩:=h
 obtain ⟨t,rfl⟩:=rx
 obtain ⟨t',rfl⟩:=ry
 exact rule i j t t' s _ _ ⟨.bl (g i j),H,I,rfl,q⟩
def Mx (i j:Int):Prop:=0 < j /\ j < 1073741824
def KW (i j:Int):Prop:=0 <= j /\ j <= 1000000 /\ i.natAbs < 2 ^ 64
theorem op_add:OpR X (binaryOp .Add) (rI0 fun i j=>.int (i + j)):=Ll fun _ _ _ _ _ _ _ q=>add_int q
theorem dY:OpR X (binaryOp .Sub) (rI0 fun i j=>.int (i - j)):=Ll fun _ _ _ _ _ _ _ q=>sub_int q
theorem Cw:OpR X (binaryOp .FloorDiv) (rI Mx fun i j=>.int (i / j)):=opI fun i j _ _ _ _ _ hc q=>by
 have h1:(0:Int) < j:=hc.1
 have h2:j < 1073741824:=hc.2
 exact floordiv_int (by lia) (by rw [Int.fdiv_eq_ediv_of_nonneg i (by lia)];exact q) (.inl (PyProof.noPylong_small (by lia)))
theorem gj:OpR X (binaryOp .Mod) (rI (fun _ j=>0 < j) fun i j=>.int (i % j)):=opI fun i j _ _ _ _ _ hc q=>by
 have h1:(0:Int) < j:=hc
 exact mod_int' (by lia) (by rw [Int.fmod_eq_emod_of_nonneg i (by lia)];exact q)
theorem yf:OpR X (binaryOp .Pow) (rI KW fun i j=>.int (i ^ j.toNat)):=opI fun _ _ _ _ _ _ _ hc q=>pow_int_small hc.1 hc.2.1 hc.2.2 q
theorem unI {f:Value -> Sem Value} {g:Int -> Int}
  (rule:∀ (i:Int) (t:Tok) (s:Shared) (Q:Value -> Shared -> Prop) (E:Value -> Shared -> Prop),Q (.int (g i) s.toks) { s with toks:=s.toks + 1 } -> wpAny (model X.prog X.w) X.A (f (.int i t)) Q E s) :
  UnR X f (rU fun i=>.int (g i)):=by
 intro pins s σ H x v Q I rx h
 obtain ⟨i,rfl,q⟩:=h
 obtain ⟨t,rfl⟩:=rx
 exact rule i t s _ _ ⟨.int (g i),H,I.tok _,⟨_,rfl⟩,q⟩
theorem cj:UnR X (unaryOp .USub) (rU fun i=>.int (-i)):=unI fun _ _ _ _ _ q=>neg_int q
end
section
variable {X:Cx} {a b c:Expr} {ta tb tc:TE} {pos:Pos}
theorem md:OpR X (compareOp .Lt) (rI0 fun i j=>.bl (decide (i < j))):=JU fun _ _ _ _ _ _ _ q=>lt_int q
theorem AU:OpR X (compareOp .LtE) (rI0 fun i j=>.bl (decide (i <= j))):=JU fun _ _ _ _ _ _ _ q=>le_int q
theorem Js:OpR X (compareOp .Gt) (rI0 fun i j=>.bl (decide (j < i))):=JU fun _ _ _ _ _ _ _ q=>gt_int q
theorem OpR.or {f:Value -> Value -> Sem Value} {r r':R2} (h:OpR X f r) (h':OpR X f r'):OpR X f (fun x y H Q=>r x y H Q \/ r' x y H Q):=by
 intro pins s σ H x y v u Q I rx ry q
 rcases q with q | q
 ·exact h pins s σ H x y v u Q I rx ry q
 ·exact h' pins s σ H x y v u Q I rx ry q
theorem mT (b:Expr) {op:CmpOp} (h:op ≠ .In:=by decide) (h2:op ≠ .NotIn:=by decide):behindInMarks op b = false:=by
 have e1:(op == CmpOp.In) = false:=by cases op <;> first | rfl | exact absurd rfl h
 have e2:(op == CmpOp.NotIn) = false:=by cases op <;> first | rfl | exact absurd rfl h2
 cases b <;> simp [behindInMarks,e1,e2]
theorem yu {op:CmpOp} {r:R2} (ho:OpR X (compareOp op) r) (ha:PE X a ta) (hb:PE X b tb) (hm:behindInMarks op b = false):PE X (.Compare a [op] [b] pos) (tOp r ta tb):=by
 intro pins s σ H Q I h
 exact wpAny_Compare1 (Ki ha hb I h fun v u s2 x y H2 I2 rx ry q=>ho pins s2 σ H2 x y v u Q I2 rx ry q) hm
def FG (t:TE):TT:=fun σ H Q=>t σ H fun x H'=>∃ k,x = .bl k /\ Q k H'
theorem pM {op:CmpOp} {r:R2} (ho:OpR X (compareOp op) r) (ha:PE X a ta) (hb:PE X b tb) (hm:behindInMarks op b = false):PT X (.Compare a [op] [b] pos) (FG (tOp r ta tb)):=by
 intro pins s σ H Q I h
 refine wpAny_isTrue_Compare1 (thn (ha pins s σ H _ I h) fun v s1 ⟨x,H1,I1,r1,q1⟩=>thn (hb pins s1 σ H1 _ I1 q1) fun u s2 ⟨y,H2,I2,r2,q2⟩=>
  thn (ho pins s2 σ H2 x y v u _ I2 r1 r2 q2) fun c s3 ⟨z,H3,I3,r3,k,e,q3⟩=>?_) hm
 subst e
 cases r3
 exact wpAny_truthy_bool ⟨H3,I3,q3⟩
def E6 (K:W.Frag) (x:V) (H:Hp) (k:Bool):Prop:=
 match x with
 | .non=>k = false
 | .bl b=>k = b
 | .int i=>k = (i != 0)
 | .str y=>y.length <= sizeLine /\ k = ((y.length:Int) != 0)
 | .byt y=>y.size <= sizeLine /\ k = ((y.size:Int) != 0)
 | .ref p=>(∃ xs,SqL K H p xs /\ k = !xs.isEmpty) \/ (∃ xs,SqT K H p xs /\ k = !xs.isEmpty) \/ ∃ kvs,H p = some (.dK kvs) /\ k = !kvs.isEmpty
 | _=>False
theorem BC {κ:Type} {kvs:List (κ × V)} {vs:List (κ × Value)} (r:KV kvs vs):(!vs.isEmpty) = !kvs.isEmpty:=by
 cases r <;> rfl
theorem vj {xs:List V} {its:List Value} (r:Vals xs its):(!its.toArray.isEmpty) = !xs.isEmpty:=by
 cases r <;> simp
theorem pi:(sizeLine:Nat) < 2 ^ 63:=by rw [Qb];decide
theorem JL:NC X (fun x H Q=>∃ k,E6 X.K x H k /\ Q k H):=by
 intro pins s σ H x v Q I rx h
 obtain ⟨k,e,q⟩:=h
 have hl:=pi
 have hs:sizeLine = 16777216:=Qb
 cases x with
 | non=>
  cases rx
  have e':k = false:=e
  subst e'
  exact truthy_none ⟨H,I,q⟩
 | bl b=>
  cases rx
  have e':k = b:=e
  subst e'
  exact wpAny_truthy_bool ⟨H,I,q⟩
 | int i=>
  obtain ⟨t,rfl⟩:=rx
  have e':k = (i != 0):=e
  subst e'
  exact PySem.P.truthy_int ⟨H,I,q⟩
 | str y=>
  obtain ⟨t,rfl⟩:=rx
  obtain ⟨hy,e'⟩:y.length <= sizeLine /\ k = ((y.length:Int) != 0):=e
  subst e'
  exact PySem.P.truthy_str (by lia) ⟨H,I.tok _,q⟩
 | byt y=>
  obtain ⟨t,rfl⟩:=rx
  obtain ⟨hy,e'⟩:y.size <= sizeLine /\ k = ((y.size:Int) != 0):=e
  subst e'
  exact W.truthy_bytes (by lia) ⟨H,I.tok _,q⟩
 | ref p=>
  cases rx
  have e':(∃ xs,SqL X.K H p xs /\ k = !xs.isEmpty) \/ (∃ xs,SqT X.K H p xs /\ k = !xs.isEmpty) \/ ∃ kvs,H p = some (.dK kvs) /\ k = !kvs.isEmpty:=e
  rcases e' with ⟨xs,hx,e'⟩ | ⟨xs,hx,e'⟩ | ⟨kvs,hx,e'⟩
  ·subst e'
   obtain ⟨its,r,pl,hz⟩:=I.list hx
   have hlen:=r.length
   exact wpAny_truthy_list pl.isList (by simp only [PK];lia) ⟨H,I.tok _,by rw [vj r];exact q⟩
  ·subst e'
   obtain ⟨its,r,pl,hz⟩:=I.tuple hx
   have hlen:=r.length
   exact truthy_tuple pl (by simp only [PK];lia) ⟨H,I.tok _,by rw [vj r];exact q⟩
  ·subst e'
   obtain ⟨hz,hS,vs,r,m⟩:kvs.length <= sizeLine /\ (p == sysModules) = false /\ ∃ vs,KV kvs vs /\ s.heap.DictOf (y8 X.prog X.w) p vs:=I.hok p _ hx
   have hlen:kvs.length = vs.length:=Paired.length r
   exact wpAny_truthy_dict hS m (by lia) ⟨H,I.tok _,by rw [BC r];exact q⟩
 | _=>exact (show False from e).elim
theorem mE (ha:PE X a ta) (he:∀ whole,isTrue a X.env whole = (do let v ← whole;standAt a.pos;holding [v] (truthy v))) :
  PT X a (fun σ H Q=>ta σ H fun x H'=>∃ k,E6 X.K x H' k /\ Q k H'):=by
 intro pins s σ H Q I h
 exact isTrue_plain (thn (ha pins s σ H _ I h) fun v s1 ⟨x,H1,I1,r1,q1⟩=>JL pins s1 σ H1 x v Q I1 r1 q1) (he _)
theorem Ce:OpR X (binaryOp .Add) (fun x y H Q=>∃ i j,x = .str i /\ y = .str j /\ i.length + j.length <= sizeLine /\ Q (.str (i ++ j)) H):=by
 intro pins s σ H x y v u Q I rx ry h
 obtain ⟨i,j,rfl,rfl,hz,q⟩:=h
 obtain ⟨t,rfl⟩:=rx
 obtain ⟨t',rfl⟩:=ry
 exact add_str (fun t' tk=>⟨.str (i ++ j),H,I.tok _,⟨_,rfl⟩,q⟩) hz
theorem Fz {x:V} {us:List Value} (r:Vals [x] us):∃ u,us = [u] /\ RelV x u:=by
 cases r with
 | cons r1 r2=>cases r2;exact ⟨_,rfl,r1⟩
theorem Jq {x y:V} {us:List Value} (r:Vals [x,y] us):∃ u w',us = [u,w'] /\ RelV x u /\ RelV y w':=by
 cases r with
 | cons r1 r2=>
  cases r2 with
  | cons r3 r4=>cases r4;exact ⟨_,_,rfl,r1,r3⟩
theorem rC (hc:X.calm = true):CallR X (.builtin "max") (fun xs H Q=>∃ i j,xs = [.int i,.int j] /\ Q (.int (if j > i then j else i)) H):=by
 intro pins s σ H xs us Q I r h
 obtain ⟨i,j,rfl,q⟩:=h
 obtain ⟨u,w',rfl,⟨t,rfl⟩,⟨t',rfl⟩⟩:=Jq r
 refine max_two_ints (I.ok.hd hc) fun h' tk k=>⟨_,H,I.kept k,?_,q⟩
 by_cases hj:j > i
 ·rw [Pb hj,Pb hj];exact ⟨_,rfl⟩
 ·rw [Pc hj,Pc hj];exact ⟨_,rfl⟩
theorem rg (hc:X.calm = true):CallR X (.builtin "min") (fun xs H Q=>∃ i j,xs = [.int i,.int j] /\ Q (.int (if j < i then j else i)) H):=by
 intro pins s σ H xs us Q I r h
 obtain ⟨i,j,rfl,q⟩:=h
 obtain ⟨u,w',rfl,⟨t,rfl⟩,⟨t',rfl⟩⟩:=Jq r
 refine min_two_ints (I.ok.hd hc) fun h' tk k=>⟨_,H,I.kept k,?_,q⟩
 by_cases hj:j < i
 ·rw [Pb hj,Pb hj];exact ⟨_,rfl⟩
 ·rw [Pc hj,Pc hj];exact ⟨_,rfl⟩
def L3 (K:W.Frag) (x:V) (H:Hp) (n:Nat):Prop:=
 match x with
 | .str y=>y.length <= sizeLine /\ n = y.length
 | .byt y=>y.size <= sizeLine /\ n = y.size
 | .ref p=>(∃ xs,SqL K H p xs /\ n = xs.length) \/ ∃ xs,SqT K H p xs /\ n = xs.length
 | _=>False
theorem Fw:CallR X (.builtin "len") (fun xs H Q=>∃ x n,xs = [x] /\ L3 X.K x H n /\ Q (.int n) H):=by
 intro pins s σ H xs us Q I r h
 obtain ⟨x,n,rfl,e,q⟩:=h
 obtain ⟨u,rfl,rx⟩:=Fz r
 have hl:=pi
 have hs:sizeLine = 16777216:=Qb
 cases x with
 | str y=>
  obtain ⟨t,rfl⟩:=rx
  obtain ⟨hy,e'⟩:y.length <= sizeLine /\ n = y.length:=e
  subst e'
  exact len_str (by lia) ⟨.int _,H,I.tok _,⟨_,rfl⟩,q⟩
 | byt y=>
  obtain ⟨t,rfl⟩:=rx
  obtain ⟨hy,e'⟩:y.size <= sizeLine /\ n = y.size:=e
  subst e'
  exact W.len_bytes (by lia) ⟨.int _,H,I.tok _,⟨_,rfl⟩,q⟩
 | ref p=>
  cases rx
  have e':(∃ xs,SqL X.K H p xs /\ n = xs.length) \/ ∃ xs,SqT X.K H p xs /\ n = xs.length:=e
  rcases e' with ⟨xs,hx,e'⟩ | ⟨xs,hx,e'⟩
  ·subst e'
   obtain ⟨its,r',pl,hz⟩:=I.list hx
   have hlen:=r'.length
   exact Calls.call_len_list pl.isList (by simp only [PK];lia) ⟨.int xs.length,H,I.tok _,⟨_,by simp only [PK];rw [hlen]⟩,q⟩
  ·subst e'
   obtain ⟨its,r',pl,hz⟩:=I.tuple hx
   have hlen:=r'.length
   exact len_tuple pl (by simp only [PK];lia) ⟨.int xs.length,H,I.tok _,⟨_,by simp only [PK];rw [hlen]⟩,q⟩
 | _=>exact (show False from e).elim
end
structure ObjM (h:Heap) (x dx C:Addr) (mA:Str -> Option Value):Prop where
 obj:h.get? x = some (W.instObj C dx)
 ns:h.Ns1 dx mA
 ne:dx ≠ x
theorem EU {h:Heap} {dx:Addr} {mA:Str -> Option Value} (n:h.Ns1 dx mA):∃ od,h.get? dx = some od /\ ∀ name,W.lookIn name od = some (mA name):=by
 obtain ⟨o,es,ep,ho,hd,hk,_,hm⟩:=n
 refine ⟨o,ho,fun name=>?_⟩
 have e:=hm name
 unfold nsFind findBy at e
 rw [<- Array.find?_toList] at e
 unfold W.lookIn
 rw [hd]
 dsimp only
 split
 ·rename_i y q
  rw [q] at e
  exact PQ some e
 ·rename_i q
  rw [q] at e
  have a:es.toList.any (·.refKey) = false:=by
   rw [List.any_eq_false]
   intro y hy
   obtain ⟨z,t,hkey⟩:=hk y (Array.mem_toList_iff.mp hy)
   simp [DictEntry.refKey,hkey]
  have a':¬ es.toList.any (·.refKey) = true:=by rw [a];exact QU
  rw [Pc a']
  exact PQ some e
theorem ObjM.look {h:Heap} {x dx C:Addr} {mA:Str -> Option Value} (I:ObjM h x dx C mA):∃ od,W.InstAt h x (W.instObj C dx) C (some od) /\ ∀ name,W.lookIn name od = some (mA name):=
 let ⟨od,ho,hl⟩:=EU I.ns
 ⟨od,⟨I.obj,rfl,rfl,ho⟩,hl⟩
section
variable {prog:Program} {w:World} {A:Around} {E:Value -> Shared -> Prop} {s:Shared} {K:W.Frag} {x dx C f:Addr} {mA:Str -> Option Value} {name:Str} {v:Value}
theorem HX {expr:Bool} {Q:Value -> Shared -> Prop} (X:K.In s.heap) (I:ObjM s.heap x dx C mA) (hg:W.plainGet K C name = true) (hh:W.hasDictIn K C = true)
  (ha:W.findIn K (.ref C) name = some none) (hv:mA name = some v) (hv':W.handedIn v = true) (h:Q v { s with toks:=s.toks + 1 }) :
  wpAny (model prog w) A (getAttr (.ref x) name expr) Q E s:=by
 obtain ⟨od,J,hl⟩:=I.look
 exact W.get_value X J (W.plainGet_of hg).1 (W.findObj_own hh ha rfl (by rw [hl,hv])) hv' h
theorem Ft {pl:Sem Bool} {Q:Value × List Value -> Shared -> Prop} (X:K.In s.heap) (I:ObjM s.heap x dx C mA) (hg:W.plainGet K C name = true)
  (hf:W.findIn K (.ref C) name = some (some (.ref f))) (ht:W.isFn K (.ref f) = true) (hv:mA name = none) (h:Q (.ref f,[.ref x]) s) :
  wpAny (model prog w) A (getMethod (.ref x) name pl) Q E s:=by
 obtain ⟨od,J,hl⟩:=I.look
 exact W.method_fn X J (W.plainGet_of hg).1 (W.plainGet_of hg).2 hf (Qf.mp ht) (by show (W.lookIn name od).map (·.isSome) = some false;rw [hl,hv];rfl) h
theorem Ic {ns:List Str} {Q:Unit -> Shared -> Prop} (X:K.In s.heap) (I:ObjM s.heap x dx C mA)
  (hs:W.findIn K (.ref C) "__setattr__" = some (some (.builtin "object.__setattr__"))) (hp:W.plainOver K C = true) (ht:W.takerIn K C name = some none) (hh:W.hasDictIn K C = true)
  (hw:PySem.Within mA ns) (hsz:ns.length <= sizeLine)
  (h:∀ h',ObjM h' x dx C (fun y=>if y = name then some v else mA y) -> Heap.SameBut dx s.heap h' -> Q () { s with heap:=h',toks:=s.toks + 2 }) :
  wpAny (model prog w) A (setAttr (.ref x) name v) Q E s:=by
 obtain ⟨od,J,hl⟩:=I.look
 refine W.set_plain X J hs (W.osa_open (s:={ s with toks:=s.toks + 1 }) (r:=none) X J hp ht fun b=>?_)
 obtain ⟨cd,hc,hd'⟩:=W.any_some hh
 have hx:s.heap.get? x = some ⟨.ref C,some dx,.plain,#[]⟩:=I.obj
 refine Pg (Pl (Pg (Pg (wpAny_loadPart hx (Pg (W.Looks.here (s:={ s with toks:=s.toks + 1 }) (W.looks_clsIn X hc) ?_))))))
 rw [hd']
 refine Pl (a:=some dx) (Pg (Pl (Pg ?_)))
 refine wpAny_nsSet1 (s:={ s with toks:=s.toks + 1 }) I.ns fun h' hn2 hs2=>?_
 obtain ⟨oD,esD,epD,hoD,hdD,hcD⟩:=hn2.count (PySem.Within.cons name v hw)
 refine Pg (wpAny_lookBehind hoD (by rw [hdD];exact pastItsLine_dict (PR hcD (by rw [Pw];lia))) ?_)
 exact Pl (h _ ⟨(hs2.2 _ (PM I.ne)).trans I.obj,hn2,I.ne⟩ hs2)
theorem F7 {R:Result -> Shared -> Prop} {vs:List Value} {kw:List (Str × Value)} (X:K.In s.heap) (hm:W.makesIn K C = true)
  (hi:W.findIn K (.ref C) "__init__" = some (some (.ref f))) (hf:W.typeIn K (.ref f) = some (.type "function"))
  (h:codeAny (model prog w) (A.under (.builtin "type.__call__" ⟨.ref C :: vs,kw⟩)) (.call (.ref f) ⟨.ref (s.heap.objs.size + 1) :: vs,kw⟩) (W.InitBack (s.heap.objs.size + 1) R)
   { s with heap:=(s.heap.push W.emptyDict).push (W.instObj C s.heap.objs.size) }) :
  codeAny (model prog w) A (.call (.ref C) ⟨vs,kw⟩) R s:=by
 obtain ⟨hh,g,d,t,os⟩:=s
 exact W.make_core (W.makes_of X hm) (RI X hi) (fun self=>W.bind_fn X self hf) (.inl rfl) h
end
def nN (f:Str) (v:V):List (Str × V) -> List (Str × V)
 | []=>[(f,v)]
 | (g,x) :: r=>if g = f then (g,v) :: r else (g,x) :: nN f v r
theorem sH (f g:Str) (v:V):∀ fs:List (Str × V),(nN f v fs).lookup g = if g = f then some v else fs.lookup g
 | []=>by
  show List.lookup g [(f,v)] = _
  by_cases h:g = f
  ·have hb:(g == f) = true:=Qf.mpr h
   simp only [List.lookup,hb,Pb h]
  ·have hb:(g == f) = false:=RE.mpr h
   simp only [List.lookup,hb,Pc h]
 | (k,x) :: r=>by
  have ih:=sH f g v r
  rw [show nN f v ((k,x) :: r) = (if k = f then (k,v) :: r else (k,x) :: nN f v r) from rfl]
  by_cases hk:k = f
  ·rw [Pb hk]
   by_cases h:g = k
   ·have hb:(g == k) = true:=Qf.mpr h
    simp only [List.lookup,hb,Pb (h.trans hk)]
   ·have hb:(g == k) = false:=RE.mpr h
    simp only [List.lookup,hb,Pc (fun e:g = f=>h (e.trans hk.symm))]
  ·rw [Pc hk]
   by_cases h:g = k
   ·have hb:(g == k) = true:=Qf.mpr h
    simp only [List.lookup,hb,Pc (fun e:g = f=>hk (h.symm.trans e))]
   ·have hb:(g == k) = false:=RE.mpr h
    simp only [List.lookup,hb]
    exact ih
theorem r9 (f:Str) (v:V):∀ fs:List (Str × V),f ∈ (nN f v fs).map (·.1) /\ ∀ g,g ∈ fs.map (·.1) -> g ∈ (nN f v fs).map (·.1)
 | []=>⟨by simp [nN],fun g h=>by simp at h⟩
 | (k,x) :: r=>by
  obtain ⟨i1,i2⟩:=r9 f v r
  rw [show nN f v ((k,x) :: r) = (if k = f then (k,v) :: r else (k,x) :: nN f v r) from rfl]
  by_cases hk:k = f
  ·rw [Pb hk]
   subst hk
   exact ⟨by simp,fun g h=>by simpa using h⟩
  ·rw [Pc hk]
   refine ⟨?_,fun g h=>?_⟩
   ·rw [Px]
    exact Po _ i1
   ·rw [Px] at h ⊢
    rcases Pq.mp h with e | e
    ·exact Pq.mpr (.inl e)
    ·exact Po _ (i2 g e)
theorem sO (f:Str) (v:V):∀ fs:List (Str × V),(nN f v fs).length <= fs.length + 1
 | []=>by simp [nN]
 | (k,x) :: r=>by
  have ih:=sO f v r
  rw [show nN f v ((k,x) :: r) = (if k = f then (k,v) :: r else (k,x) :: nN f v r) from rfl]
  by_cases hk:k = f
  ·rw [Pb hk,Pw,Pw];lia
  ·rw [Pc hk,Pw,Pw];lia
theorem RelO.some_of {v:V} {o:Option Value} (r:RelO (some v) o):∃ u,o = some u /\ RelV v u:=by
 cases o with
 | none=>exact (show False from r).elim
 | some u=>exact ⟨u,rfl,r⟩
theorem RelO.none_of {o:Option Value} (r:RelO none o):o = none:=by
 cases o with
 | none=>rfl
 | some u=>exact (show False from r).elim
theorem DS {v:V} {u:Value} (r:RelV v u):W.handedIn u = true:=by
 cases v with
 | non=>cases (show u = Value.none from r);rfl
 | bl b=>cases (show u = Value.bool b from r);rfl
 | int i=>obtain ⟨t,e⟩:=(show ∃ t,u = Value.int i t from r);cases e;rfl
 | str x=>obtain ⟨t,e⟩:=(show ∃ t,u = Value.str x t from r);cases e;rfl
 | byt b=>obtain ⟨t,e⟩:=(show ∃ t,u = Value.bytes b t from r);cases e;rfl
 | flt b=>obtain ⟨t,e⟩:=(show ∃ t,u = Value.float b t from r);cases e;rfl
 | ref a=>cases (show u = Value.ref a from r);rfl
 | ty n=>cases (show u = Value.type n from r);rfl
section
variable {P:Program} {w:World} {H H':Hp} {h h':Heap} {a C dx:Addr} {fs fs':List (Str × V)}
theorem yy (hok:HOk P w H h) (e:H a = some (.ins C dx fs)):∃ mA,ObjM h a dx C mA /\ (∀ f,RelO (fs.lookup f) (mA f)) /\ PySem.Within mA (fs.map (·.1)) /\ fs.length <= 1000 /\ H dx = some (.own a):=by
 obtain ⟨d,z,ne,ob,mA,n,r,q⟩:=(show ObjOk P w H h a (.ins C dx fs) from hok a _ e)
 exact ⟨mA,⟨ob,n,ne⟩,r,q,z,d⟩
end
structure Cls (K:W.Frag) (C:Addr):Prop where
 pg:W.plainGet K C Str.empty = true
 hd:W.hasDictIn K C = true
 po:W.plainOver K C = true
 sa:W.findIn K (.ref C) "__setattr__" = some (some (.builtin "object.__setattr__"))
theorem Cls.get {K:W.Frag} {C:Addr} (c:Cls K C) (f:Str):W.plainGet K C f = true:=c.pg
def NoAttr (K:W.Frag) (C:Addr) (f:Str):Prop:=W.findIn K (.ref C) f = some none
theorem NoAttr.taker {K:W.Frag} {C:Addr} {f:Str} (n:NoAttr K C f):W.takerIn K C f = some none:=by
 unfold W.takerIn
 rw [show W.findIn K (.ref C) f = some none from n]
 rfl
structure Meth (K:W.Frag) (C:Addr) (m:Str) (f:Addr):Prop where
 at_:W.findIn K (.ref C) m = some (some (.ref f))
 fn:W.isFn K (.ref f) = true
 kp:W.keepIn K (.ref f) = true
section
variable {X:Cx} {pins:List (Addr × Obj)} {σ:St} {H:Hp} {s:Shared} {a C dx:Addr} {fs:List (Str × V)} {f:Str} {v:V} {A:Around} {E:Value -> Shared -> Prop}
theorem B4 {b:Bool} {Q:Value -> Shared -> Prop} (I:Inv X pins σ H s) (e:H a = some (.ins C dx fs)) (c:Cls X.K C) (n:NoAttr X.K C f) (l:fs.lookup f = some v)
  (h:∀ u s',Inv X pins σ H s' -> RelV v u -> Q u s'):wpAny (model X.prog X.w) A (getAttr (.ref a) f b) Q E s:=by
 obtain ⟨mA,O,r,_,_,_⟩:=yy I.hok e
 obtain ⟨u,hu,ru⟩:=RelO.some_of (v:=v) (o:=mA f) (by rw [<- l];exact r f)
 exact HX I.kIn O (c.get f) c.hd n hu (DS ru) (h u _ (I.tok _) ru)
theorem Bj {m:Str} {g:Addr} {pl:Sem Bool} {Q:Value × List Value -> Shared -> Prop} (I:Inv X pins σ H s) (e:H a = some (.ins C dx fs)) (c:Cls X.K C) (k:Meth X.K C m g) (l:fs.lookup m = none)
  (h:Q (.ref g,[.ref a]) s):wpAny (model X.prog X.w) A (getMethod (.ref a) m pl) Q E s:=by
 obtain ⟨mA,O,r,_,_,_⟩:=yy I.hok e
 have hn:mA m = none:=RelO.none_of (by rw [<- l];exact r m)
 exact Ft I.kIn O (c.get m) k.at_ k.fn hn h
theorem BW {y:V} {u:Value} {Q:Unit -> Shared -> Prop} (I:Inv X pins σ H s) (e:H a = some (.ins C dx fs)) (c:Cls X.K C) (n:NoAttr X.K C f) (hl:fs.length < 1000) (ry:RelV y u)
  (h:∀ s',Inv X pins σ (upd H a (.ins C dx (nN f y fs))) s' -> Q () s'):wpAny (model X.prog X.w) A (setAttr (.ref a) f u) Q E s:=by
 obtain ⟨mA,O,r,wi,_,ho⟩:=yy I.hok e
 have hz:(fs.map (·.1)).length <= sizeLine:=by rw [Ph,Qb];lia
 refine Ic I.kIn O c.sa c.po n.taker c.hd wi hz fun h' O' sb=>h _ ?_
 have hd:∃ o,h'.get? dx = some o:=let ⟨o,_,_,e',_⟩:=O'.ns;⟨o,e'⟩
 refine I.write (x:=a) (e:=dx) (by rw [e];exact True.intro) (.inr ho) (fun b q hb z=>(sb.2 b hb).trans z) hd ?_
 refine ⟨by rw [aP O.ne];exact ho,?_,O.ne,O'.obj,_,O'.ns,fun g=>?_,fun g hg=>?_⟩
 ·have:=sO f y fs;lia
 ·show RelO ((nN f y fs).lookup g) (if g = f then some u else mA g)
  rw [sH]
  by_cases q:g = f
  ·rw [Pb q,Pb q];exact ry
  ·rw [Pc q,Pc q];exact r g
 ·by_cases q:g = f
  ·rw [q];exact (r9 f y fs).1
  ·refine (r9 f y fs).2 g (wi g fun z=>hg ?_)
   show (if g = f then some u else mA g) = none
   rw [Pc q];exact z
theorem Inv.made (I:Inv X pins σ H s):Inv X pins σ (upd (upd H s.heap.objs.size (.own (s.heap.objs.size + 1))) (s.heap.objs.size + 1) (.ins C s.heap.objs.size []))
  { s with heap:=(s.heap.push W.emptyDict).push (W.instObj C s.heap.objs.size) }:=by
 have e1:(s.heap.push W.emptyDict).get? s.heap.objs.size = some W.emptyDict:=P7 s.heap rfl
 have e2:((s.heap.push W.emptyDict).push (W.instObj C s.heap.objs.size)).get? (s.heap.objs.size + 1) = some (W.instObj C s.heap.objs.size):=by
  have:=P7 (s.heap.push W.emptyDict) (o:=W.instObj C s.heap.objs.size) rfl
  rwa [QI] at this
 have e3:(s.heap.push W.emptyDict).Ns s.heap.objs.size (fun _=>none):=⟨W.emptyDict,#[],_,e1,rfl,(fun e he=>absurd he (by simp)),fun _=>rfl⟩
 have I1:=I.laid (a:=s.heap.objs.size) (o:=.own (s.heap.objs.size + 1)) (h':=s.heap.push W.emptyDict) (t':=s.toks) (fun b u q=>Pz _ q) (Pj _) ⟨_,e1⟩
 refine I1.laid (a:=s.heap.objs.size + 1) (o:=.ins C s.heap.objs.size []) (t':=s.toks) (fun b u q=>Pz _ q) (Qp (QI _ _)) ?_
 have ne:s.heap.objs.size ≠ s.heap.objs.size + 1:=PD (Q2 _)
 refine ⟨by rw [aP ne,aY],P8 _,ne,e2,fun _=>none,(Heap.Ns1.of_empty e3).at fun o q=>Pz _ q,fun _=>True.intro,fun y hy=>absurd rfl hy⟩
theorem Hx {prog:Program} {w:World} {env:Env} {e:Expr} {f:Str} {pos:Pos} {s:Shared} {Q:Value -> Shared -> Prop} (hb:attributeBase e f env (eval e env) = eval e env)
  (h:wpAny (model prog w) A (eval e env) (fun o s₁=>wpAny (model prog w) A (getAttr o f true) Q E s₁) E s):wpAny (model prog w) A (eval (.Attribute e f pos) env) Q E s:=
 Attribute_any_ h (by rw [arm_eval_Attribute,hb])
end
def MJ (K:W.Frag) (ta tv:TE) (f:Str):TS:=fun D σ H=>tv σ H fun y H1=>ta σ H1 fun x H2=>∃ a C dx fs,x = .ref a /\ H2 a = some (.ins C dx fs) /\ Cls K C /\ NoAttr K C f /\ fs.length < 1000 /\
 D.nx σ (upd H2 a (.ins C dx (nN f y fs)))
section
variable {X:Cx} {o e value:Expr} {f:Str} {pos pos' tpos:Pos} {ta tv:TE}
theorem KO (ha:PE X o ta) (hv:PE X value tv) (hs:swapsWith value (some (.Attribute o f pos')) pos.line X.env = pure false):PS X (.Assign [.Attribute o f pos'] value pos) (MJ X.K ta tv f):=by
 intro pins s σ H D I h
 refine plainObj_wpAny_Assign_Attribute (thn (hv pins s σ H _ I h) fun u s1 ⟨y,H1,I1,ry,q⟩=>thn (ha pins s1 σ H1 _ I1 q) fun ov s2 hpt9=>?_) hs
 obtain ⟨x,H2,I2,rx,a,C,dx,fs,ex,ea,c,n,l,q2⟩:=hpt9
 subst ex
 obtain rfl:ov = Value.ref a:=rx
 exact BW I2 ea c n l ry fun s3 I3=>⟨σ,_,I3,q2⟩
end
section
variable {X:Cx} {pins:List (Addr × Obj)} {σ:St} {H:Hp} {s:Shared} {A:Around} {E:Value -> Shared -> Prop} {Q:Value -> Shared -> Prop} {c:Value} {b:Bool}
inductive TyOf (K:W.Frag) (H:Hp):V -> Value -> Prop where
 | non:TyOf K H .non (.type "NoneType")
 | bl (x:Bool):TyOf K H (.bl x) (.type "bool")
 | int (i:Int):TyOf K H (.int i) (.type "int")
 | str (x:Str):TyOf K H (.str x) (.type "str")
 | flt (x:UInt64):TyOf K H (.flt x) (.type "float")
 | lst {a:Addr} {xs:List V} (e:H a = some (.lst xs)):TyOf K H (.ref a) (.type "list")
 | frz {a:Addr} {o:Obj} {xs:List V} (e:H a = some (.frz o (.lst xs))):TyOf K H (.ref a) (.type "list")
 | tup {a:Addr} {xs:List V} (e:H a = some (.tup xs)):TyOf K H (.ref a) (.type "tuple")
 | dK {a:Addr} {kvs:List (Key × V)} (e:H a = some (.dK kvs)):TyOf K H (.ref a) (.type "dict")
 | dT {a:Addr} {kvs:List (List Key × V)} (e:H a = some (.dT kvs)):TyOf K H (.ref a) (.type "dict")
 | ins {a C dx:Addr} {fs:List (Str × V)} (e:H a = some (.ins C dx fs)) (cl:Cls K C) (ha:W.findIn K (.ref C) "__class__" = some (some (.builtin "object.__class__")))
   (hn:W.specialIn K (.builtin "object.__class__") "__get__" = some (some (.builtin "getset_descriptor.__get__"))) (htk:W.takesIn K (.builtin "object.__class__") = some true)
   (hm:W.mroIn K C (.type "object") = some true):TyOf K H (.ref a) (.ref C)
end
structure Room (k:Nat) (A:Around):Prop where
 hd:A.handled = none
 dp:A.depth + 3 * k + 5 < recursionLimit
 un:A.units + 16 * k + 200 < cLine
theorem Room.mono {j k:Nat} {A:Around} (r:Room k A) (h:j <= k):Room j A:=⟨r.hd,by have:=r.dp;lia,by have:=r.un;lia⟩
theorem Room.deeper {k:Nat} {A:Around} (r:Room (k + 1) A) (env:Env):Room k (A.deeper env):=
 ⟨r.hd,by have:=r.dp;show A.depth + 1 + 3 * k + 5 < _;lia,by have:=r.un;show A.units + 3 + 16 * k + 200 < _;lia⟩
theorem BO {A:Around} {C:Addr} {us:List Value} {kw:List (Str × Value)}:(A.under (.builtin "type.__call__" ⟨.ref C :: us,kw⟩)).depth = A.depth + 1:=by
 first | rfl | simp [Around.under,Code.weight,Code.isCreation,Code.isGuard,Code.isCaller,Code.frames,Code.isFrame,guardIds]
theorem BE {A:Around} {C:Addr} {us:List Value} {kw:List (Str × Value)}:(A.under (.builtin "type.__call__" ⟨.ref C :: us,kw⟩)).units = A.units + 1:=by
 first | rfl | simp [Around.under,Code.cUnits,Code.frames,Code.isFrame]
theorem Room.make {k:Nat} {A:Around} (r:Room (k + 1) A) (C:Addr) (us:List Value) (kw:List (Str × Value)):Room k (A.under (.builtin "type.__call__" ⟨.ref C :: us,kw⟩)):=
 ⟨r.hd,by have:=r.dp;rw [BO];lia,by have:=r.un;rw [BE];lia⟩
theorem Room.depth {k:Nat} {A:Around} (r:Room k A):A.depth < recursionLimit:=by have:=r.dp;lia
theorem Room.units {k:Nat} {A:Around} (r:Room k A):A.units + 64 < cLine:=by have:=r.un;lia
def rh:TA:=fun _ H Q=>Q [] H
def gW (ta:TE) (tr:TA):TA:=fun σ H Q=>ta σ H fun x H1=>tr σ H1 fun xs H2=>Q (x :: xs) H2
section
variable {X:Cx} {e:Expr} {es:List Expr} {te:TE} {t:TA} {pos:Pos}
theorem ag:PA X [] rh:=fun _ _ _ _ H Q I h=>Calls.spliced_nil ⟨[],H,I,.nil,h⟩
theorem ad (ha:PE X e te) (hr:PA X es t) (hs:starEach (e :: es) X.env = (false,eval e X.env) :: starEach es X.env:=by rfl):PA X (e :: es) (gW te t):=by
 intro pos pins s σ H Q I h
 rw [hs]
 show wpAny _ _ (spliced ((false,eval e X.env) :: backTo pos (starEach es X.env))) _ _ s
 refine Calls.spliced_cons (thn (ha pins s σ H _ I h) fun u s1 hpt9=>?_)
 obtain ⟨x,H1,I1,r1,q1⟩:=hpt9
 exact thn (hr pos pins s1 σ H1 _ I1 q1) fun us s2 ⟨xs,H2,I2,r2,q2⟩=>⟨x :: xs,H2,I2,.cons r1 r2,q2⟩
def KN (t:TA):TE:=fun σ H Q=>t σ H fun xs H1=>xs.length <= sizeLine /\ ∀ p,H1 p = none -> Q (.ref p) (upd H1 p (.tup xs))
def EM (t:TA):TE:=fun σ H Q=>t σ H fun xs H1=>xs.length <= sizeLine /\ ∀ p,H1 p = none -> Q (.ref p) (upd H1 p (.lst xs))
theorem aD {x1} (h:PA X es t):PE X (.Tuple es x1 pos) (KN t):=by
 intro pins s σ H Q I hq
 refine wpAny_Tuple_spliced (thn (h pos pins s σ H _ I hq) fun us s1 ⟨xs,H1,I1,r,z,q⟩=>⟨by rw [<- r.length];exact z,?_⟩)
 have hf:H1 s1.heap.objs.size = none:=I1.hok.fresh (Pj _)
 refine ⟨.ref s1.heap.objs.size,upd H1 s1.heap.objs.size (.tup xs),I1.laid (t':=s1.toks) (fun b u e=>Pz _ e) (Pj _) ?_,rfl,q _ hf⟩
 exact ⟨z,us,r,⟨_,P7 _ rfl,rfl,_,rfl⟩⟩
theorem fD (h:PA X es t):PE X (.List es pos) (EM t):=by
 intro pins s σ H Q I hq
 refine wpAny_List_spliced (thn (h pos pins s σ H _ I hq) fun us s1 ⟨xs,H1,I1,r,z,q⟩=>⟨by rw [<- r.length];exact z,?_⟩)
 have hf:H1 s1.heap.objs.size = none:=I1.hok.fresh (Pj _)
 refine ⟨.ref s1.heap.objs.size,upd H1 s1.heap.objs.size (.lst xs),I1.laid (t':=s1.toks) (fun b u e=>Pz _ e) (Pj _) ?_,rfl,q _ hf⟩
 exact ⟨z,us,0,r,P7 _ rfl⟩
end
abbrev Sp:=List V -> Hp -> VK -> XK -> Prop
abbrev CXT:=List Env -> Hp -> Shared -> XK -> Value -> Shared -> Prop
structure Env0 (P:Program) (w:World) (K:W.Frag) (mg:Str -> Option Value) (base:Heap) (A:Around) (outer:List Env) (s:Shared) (H:Hp):Prop where
 frames:A.frames = some outer
 mod:Mod K mg base
 bs:∀ b o,base.get? b = some o -> s.heap.get? b = some o /\ H b = none
 bsz:base.objs.size <= s.heap.objs.size
 funs:s.heap.FunFrames base outer
 frf:∀ b ∈ frs outer,H b = none
 hok:HOk P w H s.heap
 bare:AllBare s.gens
def CE (outer:List Env) (P:Program) (w:World) (H:Hp) (s:Shared) (Q:VK) (u:Value) (s':Shared):Prop:=
 ∃ v H',s'.os = s.os /\ AllBare s'.gens /\ Un (frs outer) [] H H' s.heap s'.heap /\ HOk P w H' s'.heap /\ RelV v u /\ Q v H'
def CR (CX:CXT) (outer:List Env) (P:Program) (w:World) (H:Hp) (s:Shared) (Q:VK) (E:XK) (r:Result) (s':Shared):Prop:=
 match r with
 | .ok (.ret u)=>CE outer P w H s Q u s'
 | .ok _=>False
 | .error e=>CX outer H s E e s'
structure FnOk (P:Program) (w:World) (K:W.Frag) (mg:Str -> Option Value) (base:Heap) (CX:CXT) (k:Nat) (f:Addr) (fd:FuncData) (ps:List Str) (sp:Sp):Prop where
 len:∀ vs H Q E,sp vs H Q E -> vs.length = ps.length
 run:∀ (A:Around) (outer:List Env) (s:Shared) (H:Hp) (args:Args) (us:List Value) (vs:List V) (Q:VK) (E:XK),Room k A -> Env0 P w K mg base A outer s H -> BindsTo s fd args (ps.zip us) -> Vals vs us -> sp vs H Q E ->
  codeAny (model P w) A (.call (.ref f) args) (CR CX outer P w H s Q E) s
theorem Env0.make {P:Program} {w:World} {K:W.Frag} {mg:Str -> Option Value} {base:Heap} {A:Around} {outer:List Env} {s:Shared} {H:Hp} (e:Env0 P w K mg base A outer s H) (C:Addr) (us:List Value) (kw:List (Str × Value)) :
  Env0 P w K mg base (A.under (.builtin "type.__call__" ⟨.ref C :: us,kw⟩)) outer s H:=⟨by first | exact e.frames | (simpa [Around.under,Code.envs,Code.isFrame,pushEnvs] using e.frames),e.mod,e.bs,e.bsz,e.funs,e.frf,e.hok,e.bare⟩
section
variable {X:Cx} {pins:List (Addr × Obj)} {σ:St} {H:Hp} {s s':Shared}
theorem Inv.env0 (I:Inv X pins σ H s):Env0 X.prog X.w X.K X.mg X.base X.A X.stack s H:=
 ⟨I.ok.frames,I.ok.mod,I.bs,PR I.ok.bsz I.sz,I.stack,I.stkFree,I.hok,I.bare⟩
theorem Inv.after {Q:VK} {u:Value} (I:Inv X pins σ H s) (h:CE X.stack X.prog X.w H s Q u s'):EP X pins σ Q u s':=by
 obtain ⟨v,H',os,bare,un,hok,r,q⟩:=h
 obtain ⟨hh,g,d,t,os'⟩:=s'
 obtain rfl:os' = s.os:=os
 exact ⟨v,H',I.call (h':=hh) (g':=g) (d':=d) (t':=t) (ch:=[]) un hok bare (fun b z=>absurd z (by simp)),r,q⟩
end
def sY (sp:Sp) (dvs:List V) (E:XK) (t:TA):TE:=fun σ H Q=>t σ H fun vs H1=>sp (vs ++ dvs) H1 Q E
def IX (C:Addr) (sp:Sp) (dvs:List V) (E:XK) (t:TA):TE:=fun σ H Q=>t σ H fun vs H1=>∀ x dx,H1 x = none -> H1 dx = none -> dx ≠ x ->
 sp (.ref x :: (vs ++ dvs)) (upd (upd H1 dx (.own x)) x (.ins C dx [])) (fun v H2=>v = .non /\ Q (.ref x) H2) E
def Binds (K:W.Frag) (fd:FuncData) (ps:List Str) (ds:List Value):Prop:=
 ∀ (s:Shared) (us:List Value),K.In s.heap -> (us ++ ds).length = ps.length -> BindsTo s fd ⟨us,[]⟩ (ps.zip (us ++ ds))
theorem Binds.all {K:W.Frag} {fd:FuncData} {ps:List Str} (h:∀ us:List Value,us.length = ps.length -> bindArgs fd ⟨us,[]⟩ = pure (ps.zip us)):Binds K fd ps []:=fun s us _ hl=>by
 rw [Qa] at hl ⊢
 exact .of_eq (h us hl)
def me (CX:CXT) (X:Cx) (E:XK):Prop:=∀ (pins:List (Addr × Obj)) (σ:St) (H:Hp) (s:Shared) (e:Value) (s':Shared),Inv X pins σ H s -> CX X.stack H s E e s' -> X.xe e s'
section
variable {X:Cx} {CX:CXT} {k:Nat} {f C:Addr} {fd:FuncData} {ps:List Str} {sp:Sp} {dvs:List V} {ds:List Value} {E:XK} {x m:Str} {p pos apos:Pos} {e o:Expr} {es:List Expr} {ta:TE} {t:TA}
theorem Bu {pins:List (Addr × Obj)} {σ:St} {H:Hp} {s:Shared} {Q:VK} {us:List Value} {vs:List V} (F:FnOk X.prog X.w X.K X.mg X.base CX k f fd ps sp) (hr:Room k X.A) (hb:Binds X.K fd ps ds) (hd:Vals dvs ds) (hx:me CX X E)
  (I:Inv X pins σ H s) (r:Vals vs us) (h:sp (vs ++ dvs) H Q E):wpAny (model X.prog X.w) X.A (call (.ref f) us) (EP X pins σ Q) X.xe s:=by
 have r2:Vals (vs ++ dvs) (us ++ ds):=r.append hd
 have hl:(us ++ ds).length = ps.length:=by rw [<- r2.length];exact F.len _ _ _ _ h
 refine wpAny_call (Rk (F.run X.A X.stack s H ⟨us,[]⟩ (us ++ ds) (vs ++ dvs) Q E hr I.env0 (hb s us I.kIn hl) r2 h) fun r s' hq=>?_)
 cases r with
 | error e=>exact hx pins σ H s e s' I hq
 | ok fl=>
  cases fl with
  | ret u=>exact I.after hq
  | next=>exact False.elim hq
  | brk=>exact False.elim hq
  | cont=>exact False.elim hq
theorem qw (F:FnOk X.prog X.w X.K X.mg X.base CX k f fd ps sp) (hr:Room k X.A) (hg:Gl X x) (hm:X.mg x = some (.ref f)) (hk:W.keepIn X.K (.ref f) = true) (hb:Binds X.K fd ps ds) (hd:Vals dvs ds) (hx:me CX X E)
  (ha:PA X (e :: es) t) (hdb:(x == ("__debug__" : Str)) = false:=by decide) (he:starEach (e :: es) X.env = (false,eval e X.env) :: starEach es X.env:=by rfl) (hpl:(backTo pos (starEach es X.env)).any (·.1) = false:=by rfl) :
  PE X (.Call (.Name x p) (e :: es) [] pos) (sY sp dvs E t):=by
 intro pins s σ H Q I h
 refine Rm (nM I hg hm ?_ hdb)
 refine W.callWith_K (h₀:=X.base) I.ok.mod.kin hk (thn (ha pos pins s σ H _ I h) fun us s1 ⟨vs,H1,I1,r,q⟩=>⟨I1.kIn,?_⟩) he hpl
 exact Bu F hr hb hd hx I1 r q
structure Mk (K:W.Frag) (C f:Addr):Prop where
 makes:W.makesIn K C = true
 init:W.findIn K (.ref C) "__init__" = some (some (.ref f))
 fn:W.isFn K (.ref f) = true
 kp:W.keepIn K (.ref C) = true
theorem G7 {pins:List (Addr × Obj)} {σ:St} {H:Hp} {s:Shared} {Q:VK} {us:List Value} {vs:List V} (M:Mk X.K C f) (F:FnOk X.prog X.w X.K X.mg X.base CX k f fd ps sp) (hr:Room (k + 1) X.A) (hb:Binds X.K fd ps ds) (hd:Vals dvs ds)
  (hx:me CX X E) (I:Inv X pins σ H s) (r:Vals vs us)
  (h:∀ x dx,H x = none -> H dx = none -> dx ≠ x -> sp (.ref x :: (vs ++ dvs)) (upd (upd H dx (.own x)) x (.ins C dx [])) (fun v H2=>v = .non /\ Q (.ref x) H2) E) :
  wpAny (model X.prog X.w) X.A (call (.ref C) us) (EP X pins σ Q) X.xe s:=by
 have hq:=h (s.heap.objs.size + 1) s.heap.objs.size (I.hok.fresh (QJ _)) (I.hok.fresh (Pj _)) (PD (Q2 _))
 have I2:=Inv.made (C:=C) I
 have r2:Vals (V.ref (s.heap.objs.size + 1) :: (vs ++ dvs)) (Value.ref (s.heap.objs.size + 1) :: (us ++ ds)):=.cons rfl (r.append hd)
 have hl:(Value.ref (s.heap.objs.size + 1) :: us ++ ds).length = ps.length:=by
  have e:=r2.length
  rw [F.len _ _ _ _ hq] at e
  exact e.symm
 refine wpAny_call (F7 (f:=f) I.kIn M.makes M.init (Qf.mp M.fn) (Rk (F.run _ X.stack _ _ ⟨Value.ref (s.heap.objs.size + 1) :: us,[]⟩ (Value.ref (s.heap.objs.size + 1) :: (us ++ ds)) _ _ E (hr.make C us [])
  (I2.env0.make C us []) (hb _ (Value.ref (s.heap.objs.size + 1) :: us) I2.kIn hl) r2 hq) fun r s' hq'=>?_))
 cases r with
 | error e=>exact hx pins σ _ _ e s' I2 hq'
 | ok fl=>
  cases fl with
  | ret u=>
   obtain ⟨v,H',I3,rv,ev,q3⟩:=I2.after hq'
   subst ev
   exact ⟨rv,⟨V.ref (s.heap.objs.size + 1),H',I3,rfl,q3⟩⟩
  | next=>exact False.elim hq'
  | brk=>exact False.elim hq'
  | cont=>exact False.elim hq'
theorem Hz (M:Mk X.K C f) (F:FnOk X.prog X.w X.K X.mg X.base CX k f fd ps sp) (hr:Room (k + 1) X.A) (hg:Gl X x) (hm:X.mg x = some (.ref C)) (hb:Binds X.K fd ps ds) (hd:Vals dvs ds) (hx:me CX X E)
  (ha:PA X (e :: es) t) (hdb:(x == ("__debug__" : Str)) = false:=by decide) (he:starEach (e :: es) X.env = (false,eval e X.env) :: starEach es X.env:=by rfl) (hpl:(backTo pos (starEach es X.env)).any (·.1) = false:=by rfl) :
  PE X (.Call (.Name x p) (e :: es) [] pos) (IX C sp dvs E t):=by
 intro pins s σ H Q I h
 refine Rm (nM I hg hm ?_ hdb)
 refine W.callWith_K (h₀:=X.base) I.ok.mod.kin M.kp (thn (ha pos pins s σ H _ I h) fun us s1 ⟨vs,H1,I1,r,q⟩=>⟨I1.kIn,?_⟩) he hpl
 exact G7 M F hr hb hd hx I1 r q
end
section
variable {X:Cx} {CX:CXT} {k:Nat} {f C:Addr} {fd:FuncData} {ps ks:List Str} {sp:Sp} {E:XK} {x m:Str} {p pos apos kpos:Pos} {e o:Expr} {es:List Expr} {kws:List Keyword} {te ta:TE} {t tk:TA} {nm:Option Str}
variable {g:List Value -> List Value -> List Value} {gV:List V -> List V -> List V}
end
structure FnScope (N P:List Str) (sc:Scope):Prop where
 kind:sc.kind = .function
 co:sc.isCoroutine = false
 gen:sc.isGenerator = false
 nd:N.Nodup
 pre:N.take P.length = P
 par:∀ x ∈ P,sc.names.lookup x = some .local \/ sc.names.lookup x = some .cell
 nofree:∀ y ∈ sc.names,y.2 ≠ .free
theorem w9 {kindOf:Str -> Option NameKind} {x:Str}:∀ {binds:List (Str × Value)} {m:Str -> Option Value},(∀ v,(x,v) ∉ binds) -> bindL kindOf binds m x = m x
 | [],_,_=>rfl
 | (n,v) :: r,m,h=>by
  unfold bindL
  rw [w9 fun w hw=>h w (Po _ hw)]
  split
  ·have:x ≠ n:=by rintro rfl;exact h v Pm
   simp [this]
  ·rfl
theorem wY {kindOf:Str -> Option NameKind} {x:Str}:∀ {binds:List (Str × Value)} {m:Str -> Option Value},(∀ v,(x,v) ∉ binds) -> bindC kindOf binds m x = m x
 | [],_,_=>rfl
 | (n,v) :: r,m,h=>by
  unfold bindC
  rw [wY fun w hw=>h w (Po _ hw)]
  split
  ·rfl
  ·have:x ≠ n:=by rintro rfl;exact h v Pm
   simp [this]
theorem xG {kindOf:Str -> Option NameKind} {x:Str} {v:Value}:∀ {P:List Str} {vs:List Value} {i:Nat} {m:Str -> Option Value},P.Nodup -> P[i]? = some x -> vs[i]? = some v -> kindOf x = some .local ->
  bindL kindOf (P.zip vs) m x = some v
 | [],_,_,_,_,h,_,_=>by simp at h
 | _ :: _,[],_,_,_,_,h,_=>by simp at h
 | p :: P,w :: vs,0,m,nd,h1,h2,hk=>by
  simp at h1 h2;subst h1;subst h2
  show bindL kindOf ((p,w) :: P.zip vs) m p = _
  unfold bindL
  rw [w9 fun v hv=>(Qq.mp nd).1 (List.of_mem_zip hv).1,Pb hk]
  simp
 | p :: P,w :: vs,i + 1,m,nd,h1,h2,hk=>by
  show bindL kindOf ((p,w) :: P.zip vs) m x = _
  unfold bindL
  exact xG (i:=i) (Qq.mp nd).2 (by simpa using h1) (by simpa using h2) hk
theorem xA {kindOf:Str -> Option NameKind} {x:Str} {v:Value}:∀ {P:List Str} {vs:List Value} {i:Nat} {m:Str -> Option Value},P.Nodup -> P[i]? = some x -> vs[i]? = some v -> kindOf x ≠ some .local ->
  bindC kindOf (P.zip vs) m x = some v
 | [],_,_,_,_,h,_,_=>by simp at h
 | _ :: _,[],_,_,_,_,h,_=>by simp at h
 | p :: P,w :: vs,0,m,nd,h1,h2,hk=>by
  simp at h1 h2;subst h1;subst h2
  show bindC kindOf ((p,w) :: P.zip vs) m p = _
  unfold bindC
  rw [wY fun v hv=>(Qq.mp nd).1 (List.of_mem_zip hv).1,Pc hk]
  simp
 | p :: P,w :: vs,i + 1,m,nd,h1,h2,hk=>by
  show bindC kindOf ((p,w) :: P.zip vs) m x = _
  unfold bindC
  exact xA (i:=i) (Qq.mp nd).2 (by simpa using h1) (by simpa using h2) hk
def aV (N:List Str) (vs:List V):St:=vs.map some ++ List.replicate (N.length - vs.length) none
def rH (CX:CXT) (P:Program) (w:World) (K:W.Frag) (mg:Str -> Option Value) (base:Heap) (N:List Str) (qual:Str) (scope:Scope) (f:Addr) (cd:Value) (A:Around) (outer:List Env) (s:Shared) (H:Hp) (E:XK):Cx where
 prog:=P
 w:=w
 K:=K
 mg:=mg
 base:=base
 A:=A.deeper (envOfC qual scope s.heap.objs.size f cd)
 N:=N
 s₀:=s
 H₀:=H
 env:=envOfC qual scope s.heap.objs.size f cd
 outer:=outer
 stack:=envOfC qual scope s.heap.objs.size f cd :: outer
 ex:=[]
 calm:=true
 fn:=fun _=>true
 pn:=[]
 xe:=fun e s'=>wpAny (model P w) (A.deeper (envOfC qual scope s.heap.objs.size f cd)) (leaving (envOfC qual scope s.heap.objs.size f cd) e) (fun _ s''=>CX outer H s E e s'') (fun e' s''=>CX outer H s E e' s'') s'
theorem As {sc:Scope} {n:Nat} {x:Str} (h:sc.names.lookup x = some .cell):∃ c,(cellsFrom n sc.names []).lookup x = some c:=by
 have q:=W.cellsFrom_some sc.names n [] (.inl h)
 exact Option.isSome_iff_exists.mp q
theorem EY {CX:CXT} {P:Program} {w:World} {K:W.Frag} {mg:Str -> Option Value} {base:Heap} {N ps:List Str} {qual:Str} {scope:Scope} {f:Addr} {cd:Value} {A:Around} {outer:List Env} {s s1:Shared} {H:Hp} {E:XK} {us:List Value} {vs:List V}
  (S:FnScope N ps scope) (hd:A.handled = none) (e0:Env0 P w K mg base A outer s H) (hl:vs.length = ps.length) (r:Vals vs us)
  (x:InCallC s s.heap.objs.size (bindL (envOfC qual scope s.heap.objs.size f cd).kindOf (ps.zip us) fun _=>none) (cellsFrom (s.heap.objs.size + 1) scope.names []) (bindC (envOfC qual scope s.heap.objs.size f cd).kindOf (ps.zip us) fun _=>none) s1) :
  Inv (rH CX P w K mg base N qual scope f cd A outer s H E) [] (aV N vs) H s1:=by
 have hpl:ps.length <= N.length:=by have:=PQ List.length S.pre;rw [Q3] at this;lia
 obtain ⟨h1,tk,rfl,hk⟩:=x.done
 have noA:∀ b:Addr,b ∉ (rH CX P w K mg base N qual scope f cd A outer s H E).ex:=fun b z=>absurd (show b ∈ ([]:List Addr) from z) (by simp)
 refine ⟨⟨e0.mod,S.kind,rfl,rfl,Pj _,fun y z c h1 h2=>?_,fun y hy=>?_,fun y c _ h=>?_,fun _=>hd,Around.frames_deeper e0.frames,.inr ⟨rfl,rfl⟩,fun b z=>absurd z (noA b),e0.bs,e0.bsz,fun b _ _=>noA b,fun b z=>absurd z (noA b),e0.funs,e0.frf⟩,
  rfl,e0.bare,Un.kept hk,⟨_,x.toInCall.ns,fun i y v h1 h2 h3=>?_⟩,fun y c h=>⟨_,x.cell y c h⟩,e0.hok.fresh (Pj _),fun y c h=>?_,fun p hp=>absurd (show p ∈ ([]:List (Addr × Obj)) from hp) (by simp),e0.hok.kept hk,?_⟩
 ·exact name_of_addr x.apart (QV h1) (QV h2)
 ·have hy:scope.names.lookup y = some .cell \/ scope.names.lookup y = some .free:=hy
  rcases hy with hy | hy
  ·exact As hy
  ·exact absurd rfl (S.nofree _ (QV hy))
 ·exact Ql (x.above y c (QV h))
 ·have hi:i < vs.length:=by
   unfold aV at h2
   by_cases hi:i < vs.length
   ·exact hi
   ·rw [Q4 (by simpa using hi)] at h2
    rw [List.getElem?_replicate] at h2
    split at h2 <;> cases h2
  have ha:vs[i]? = some v:=by
   unfold aV at h2
   rw [Ro (by simpa using hi),PN] at h2
   cases e:vs[i]? with
   | none=>rw [e] at h2;cases h2
   | some a=>rw [e] at h2;cases h2;rfl
  obtain ⟨u,hu,rv⟩:=r.get ha
  have hp:ps[i]? = some y:=by
   rw [<- S.pre,List.getElem?_take_of_lt (by lia)];exact h1
  have ndP:ps.Nodup:=by rw [<- S.pre];exact S.nd.sublist (List.take_sublist _ _)
  refine ⟨u,rv,?_⟩
  rcases S.par y (QW hp) with k | k
  ·exact .inl ⟨k,xG ndP hp hu k⟩
  ·obtain ⟨c,e⟩:=As (n:=s.heap.objs.size + 1) k
   refine .inr ⟨.inl k,c,e,?_⟩
   have q:=x.cell y c e
   rw [xA ndP hp hu (by show scope.names.lookup y ≠ _;rw [k];decide)] at q
   exact q
 ·exact e0.hok.fresh (Ql (x.above y c (QV h)))
 ·unfold aV
  show _ = N.length
  rw [Ps,Ph,RV]
  lia
theorem Ja {CX:CXT} {P:Program} {w:World} {K:W.Frag} {mg:Str -> Option Value} {base:Heap} {k:Nat} {f:Addr} {name qual:Str} {params:Arguments} {body:List Stmt} {scope:Scope} {dV kV doc pm cdv ct oc:Value} {an od:Option Addr}
  {osl:Array (Option Value)} {N ps:List Str} {sp:Sp} (lk:K.lookup f = some ⟨oc,od,.func (W.fnOf name qual params body scope dV kV doc pm an cdv ct),osl⟩) (hcd:W.codeIn K cdv qual = true) (S:FnScope N ps scope)
  (len:∀ vs H Q E,sp vs H Q E -> vs.length = ps.length)
  (hbody:∀ (A:Around) (outer:List Env) (s:Shared) (H:Hp) (vs:List V) (Q:VK) (E:XK),Room k (A.deeper (envOfC qual scope s.heap.objs.size f cdv)) -> sp vs H Q E ->
   ∃ t,PSs (rH CX P w K mg base N qual scope f cdv A outer s H E) body t /\ t { nx:=fun _ H'=>Q .non H',rt:=Q } (aV N vs) H) :
  FnOk P w K mg base CX (k + 1) f (W.fnOf name qual params body scope dV kV doc pm an cdv ct) ps sp:=by
 refine ⟨len,fun A outer s H args us vs Q E hr e0 hb r hsp=>?_⟩
 have hl:=len _ _ _ _ hsp
 have KX:K.In s.heap:=e0.mod.kin.keeps fun b o e=>(e0.bs b o e).1
 have lim:s.heap.NoLimit:=e0.mod.nolimit.keeps fun b o e=>(e0.bs b o e).1
 have hkind:∀ y ∈ ps.zip us,scope.names.lookup y.1 = some .local \/ (scope.names.lookup y.1 = some .cell /\ ((cellsFrom (s.heap.objs.size + 1) scope.names []).lookup y.1).isSome = true):=fun hpt0 hy=>by
  obtain ⟨n,v⟩:=hpt0
  rcases S.par n (List.of_mem_zip hy).1 with q | q
  ·exact .inl q
  ·exact .inr ⟨q,W.cellsFrom_some _ _ _ (.inl q)⟩
 refine codeAny_call_function hr.depth (KX _ _ lk) rfl S.co S.gen rfl (W.codeRec_of KX hcd) (hb _ _ _ _ ?_)
 refine wpAny_newFunctionEnv_cells S.kind hkind fun env he s1 x=>?_
 subst he
 refine ⟨lim.keeps x.toInCall.keep,codeAny_func ?_⟩
 obtain ⟨t,ht,hq⟩:=hbody A outer s H vs Q E (hr.deeper _) hsp
 have I:Inv (rH CX P w K mg base N qual scope f cdv A outer s H E) [] (aV N vs) H s1:=EY S hr.hd e0 hl r x
 refine P9 (ht [] s1 (aV N vs) H _ I hq) (fun fl s' hs=>?_) fun e s' hs=>hs
 have fin:∀ {σ':St} {H':Hp} {v:V} {u:Value},Inv (rH CX P w K mg base N qual scope f cdv A outer s H E) [] σ' H' s' -> RelV v u -> Q v H' -> CE outer P w H s Q u s':=
  fun {σ' H' v u} J rv q=>⟨v,H',J.os,J.bare,J.base,J.hok,rv,q⟩
 cases fl with
 | ret u=>
  obtain ⟨v,σ',H',J,rv,q⟩:=hs
  exact fin J rv q
 | next=>
  obtain ⟨σ',H',J,q⟩:=hs
  exact fin (v:=V.non) (u:=Value.none) J rfl q
 | brk=>
  obtain ⟨_,_,_,q⟩:=hs
  exact False.elim q
 | cont=>
  obtain ⟨_,_,_,q⟩:=hs
  exact False.elim q
section
variable {X:Cx} {x:Str} {p pos:Pos} {e:Expr} {es:List Expr} {t:TA} {id T:String} {r:List V -> Hp -> VK -> Prop}
def tCB (r:List V -> Hp -> VK -> Prop) (t:TA):TE:=fun σ H Q=>t σ H fun vs H1=>r vs H1 Q
theorem bd (hc:CallR X (.builtin id) r) (hg:Gl X x) (hm:X.mg x = none) (hv:bootBuiltins x = some (.builtin id)) (ha:PA X (e :: es) t) (hn:x ≠ "__name__" := by decide) (hdb:(x == ("__debug__" : Str)) = false:=by decide)
  (he:starEach (e :: es) X.env = (false,eval e X.env) :: starEach es X.env:=by rfl) (hpl:(backTo pos (starEach es X.env)).any (·.1) = false:=by rfl):PE X (.Call (.Name x p) (e :: es) [] pos) (tCB r t):=by
 intro pins s σ H Q I h
 refine Rm (rY I hg hm hv ?_ hn hdb)
 exact PyProof.Rows.callWith_builtin1 (thn (ha pos pins s σ H _ I h) fun us s1 ⟨vs,H1,I1,r1,q1⟩=>hc pins s1 σ H1 vs us Q I1 r1 q1) he hpl
theorem dR (hc:CallR X (.type T) r) (hg:Gl X x) (hm:X.mg x = none) (hv:bootBuiltins x = some (.type T)) (ha:PA X (e :: es) t) (hn:x ≠ "__name__" := by decide) (hdb:(x == ("__debug__" : Str)) = false:=by decide)
  (he:starEach (e :: es) X.env = (false,eval e X.env) :: starEach es X.env:=by rfl) (hpl:(backTo pos (starEach es X.env)).any (·.1) = false:=by rfl):PE X (.Call (.Name x p) (e :: es) [] pos) (tCB r t):=by
 intro pins s σ H Q I h
 refine Rm (rY I hg hm hv ?_ hn hdb)
 exact RH (thn (ha pos pins s σ H _ I h) fun us s1 ⟨vs,H1,I1,r1,q1⟩=>hc pins s1 σ H1 vs us Q I1 r1 q1) he hpl
end
end L2
namespace HT
open PySem PyProof.Rows
def cT:List Int -> List Int -> Bool
 | [],[]=>false
 | [],_ :: _=>true
 | _ :: _,[]=>false
 | x :: xs,y :: ys=>if x = y then cT xs ys else decide (x < y)
theorem BD (x y:Int) (xs ys:List Int):cT (x :: xs) (y :: ys) = if x = y then cT xs ys else decide (x < y):=rfl
section
open PySem.SeqAt
open PySem.AutoSeq1 (wpAny_loadPart')
open PySem.MeetsSeq PySem.MeetsSeq2 PySem.MeetsSeq3
end
section
variable {prog:Program} {w:World} {A:Around} {E:Value -> Shared -> Prop} {s:Shared}
theorem Iw {t b:Addr} {vs ws:List Value} {Q:Value -> Shared -> Prop} (ht:IsTup s.heap t vs.toArray) (hb:IsTup s.heap b ws.toArray) (hv:vs ≠ [])
  (h1:ws = [] -> Q (.ref t) s) (h2:ws ≠ [] -> Q (.ref s.heap.objs.size) { s with heap:=s.heap.push { cls:=.type "tuple",data:=.seq (vs ++ ws).toArray } })
  (hsz:vs.length + ws.length <= sizeLine):wpAny (model prog w) A (binaryOp .Add (.ref t) (.ref b)) Q E s:=by
 obtain ⟨⟨cls,dd,data,sl⟩,ho,hc,n,hd⟩:=id ht
 obtain ⟨⟨cls2,dd2,data2,sl2⟩,ho2,hc2,n2,hd2⟩:=id hb
 simp only at hc hd hc2 hd2
 subst hc hd hc2 hd2
 have e:vs.toArray ++ ws.toArray = (vs ++ ws).toArray:=by simp
 by_cases hw:ws = []
 ·exact concat_meets ⟨_,ho,rfl⟩ ⟨_,ho2,rfl⟩ noFill_tuple_add seq_tuple_add RX RY (RZ _ _)
   (tuple_addW1 t b vs.toArray ws.toArray n n2 dd dd2 sl sl2 (by simpa using hv) (by simp [hw])) ⟨ho,ho2,h1 hw⟩
 ·refine concat_meets ⟨_,ho,rfl⟩ ⟨_,ho2,rfl⟩ noFill_tuple_add seq_tuple_add RX RY (RZ _ _)
   (tuple_addW2 t b vs.toArray ws.toArray n n2 dd dd2 sl sl2 (by simpa using hv) (by simpa using hw) (by rw [PK,PK];exact hsz)) ⟨ho,ho2,?_⟩
  rw [e]
  exact h2 hw
def sIx (n d:Nat):Option Int -> Nat
 | none=>d
 | some v=>if v < 0 then (v + (n:Int)).toNat else min v.toNat n
theorem KP (n d:Nat) (hd:d <= n) (o:Option Int):sIx n d o <= n:=by
 cases o with
 | none=>exact hd
 | some v=>
  show (if v < 0 then (v + (n:Int)).toNat else min v.toNat n) <= n
  by_cases hv:v < 0
  ·rw [Pb hv];lia
  ·rw [Pc hv];exact Nat.min_le_right _ _
theorem C5 (v:Int) (n d:Nat):(if v < 0 then max (v + (n:Int)) 0 else min v (n:Int)) = ((sIx n d (some v):Nat):Int):=by
 show (if v < 0 then max (v + (n:Int)) 0 else min v (n:Int)) = (((if v < 0 then (v + (n:Int)).toNat else min v.toNat n):Nat):Int)
 by_cases hv:v < 0
 ·simp only [Pb hv];lia
 ·simp only [Pc hv];lia
theorem Ci (lo hi:Option Int) (n:Nat):Builtin.Slice.sliceAdjust lo hi 1 (n:Int) = (((sIx n 0 lo:Nat):Int),((sIx n n hi:Nat):Int)):=by
 have h1:¬ ((1:Int) < 0):=by lia
 unfold Builtin.Slice.sliceAdjust
 simp only [h1,if_false]
 refine Prod.ext ?_ ?_
 ·cases lo with
  | none=>rfl
  | some v=>exact C5 v n 0
 ·cases hi with
  | none=>rfl
  | some v=>exact C5 v n n
theorem BU (i j:Nat):Builtin.Slice.slicePlaces (i:Int) (j:Int) 1 = j - i:=by
 unfold Builtin.Slice.slicePlaces
 have h1:(1:Int) > 0:=by lia
 simp only [h1,QK,Int.ediv_one]
 split <;> lia
theorem vG {v:Value} {o:Option Int} {Q:Option Int -> Shared -> Prop} (p:IsPart v o) (h:Q o s):wpAny (model prog w) A (Builtin.Slice.slicePartIndex v) Q E s:=by
 cases p with
 | none=>exact slicePart_none h
 | int i t=>exact slicePart_int h
theorem kl {sl:Addr} {vl vu:Value} {lo hi:Option Int} {n:Nat} {Q:Int × Int × Nat -> Shared -> Prop} (hs:s.heap.IsSliceOf sl vl vu .none) (pl:IsPart vl lo) (pu:IsPart vu hi)
  (h:Q (((sIx n 0 lo:Nat):Int),1,sIx n n hi - sIx n 0 lo) s):wpAny (model prog w) A (Builtin.Slice.sliceApplied (.ref sl) (pure (n:Int))) Q E s:=by
 obtain ⟨os,hos,hcs,hds⟩:=id hs
 unfold Builtin.Slice.sliceApplied Builtin.Slice.sliceFields
 refine Pg (Pg (QL hos hds (x:=vl) rfl (Pg (QL hos hds (x:=vu) rfl (Pg (QL hos hds (x:=.none) rfl (Pl ?_)))))))
 refine Pg (slicePart_none ?_)
 show wpAny _ _ (if ((1:Int) == 0) = true then _ else _) _ _ s
 rw [Pc (by decide)]
 refine Pg (vG pl (Pg (vG pu (Pg (Pl ?_)))))
 show wpAny _ _ (match Builtin.Slice.sliceAdjust lo hi 1 (n:Int) with | (lo,hi)=>pure (lo,(1:Int),Builtin.Slice.slicePlaces lo hi 1)) _ _ s
 rw [Ci lo hi n]
 show wpAny _ _ (pure (((sIx n 0 lo:Nat):Int),(1:Int),Builtin.Slice.slicePlaces ((sIx n 0 lo:Nat):Int) ((sIx n n hi:Nat):Int) 1)) _ _ s
 rw [BU]
 exact Pl h
theorem Gh (xs:Array Value) (i k:Nat):((List.range k).filterMap fun (m:Nat)=>xs[((i:Int) + (m:Int) * 1).toNat]?).toArray = ((xs.toList.drop i).take k).toArray:=by
 have e:(fun (m:Nat)=>xs[((i:Int) + (m:Int) * 1).toNat]?) = fun m=>xs[i + m]?:=by
  funext m
  have:((i:Int) + (m:Int) * 1).toNat = i + m:=by lia
  rw [this]
 rw [e]
 have:=pick_run xs i k
 rw [List.filterMap_map] at this
 have e2:((fun x=>xs[x]?) ∘ fun x=>i + x) = fun m=>xs[i + m]?:=rfl
 rw [e2] at this
 rw [this]
theorem pQ {t sl:Addr} {items:Array Value} {vl vu:Value} {lo hi:Option Int} {Q:Value -> Shared -> Prop} (ht:IsTup s.heap t items) (hs:s.heap.IsSliceOf sl vl vu .none) (pl:IsPart vl lo) (pu:IsPart vu hi)
  (hw:¬ (sIx items.size 0 lo = 0 /\ sIx items.size items.size hi = items.size))
  (h:Q (.ref s.heap.objs.size) { s with heap:=s.heap.push { cls:=.type "tuple",data:=.seq ((items.toList.drop (sIx items.size 0 lo)).take (sIx items.size items.size hi - sIx items.size 0 lo)).toArray } })
  (hsz:items.size <= sizeLine):wpAny (model prog w) A (getItem (.ref t) (.ref sl)) Q E s:=by
 have htake:sizeOk (.seq ((items.toList.drop (sIx items.size 0 lo)).take (sIx items.size items.size hi - sIx items.size 0 lo)).toArray):=by
  show ((items.toList.drop (sIx items.size 0 lo)).take (sIx items.size items.size hi - sIx items.size 0 lo)).toArray.size <= sizeLine
  rw [PK,Q3,List.length_drop,Qe]
  omega
 have hj:sIx items.size items.size hi <= items.size:=KP _ _ (Pj _) hi
 obtain ⟨os,hos,hcs,hds⟩:=id hs
 have hTs:s.TypeIs (.ref sl) "slice" := ⟨os,hos,hcs⟩
 unfold getItem
 try with_reducible refine QC ?_
 first | refine Pg (Pl ?_) | skip
 refine Pg (wpAny_sequenceKey ht.typeIs (by decide) ?_)
 refine Pg (RJ (name:=Str.ofString "__getitem__") ht.typeIs Q5
  (Q6 Q5 ht.typeIs entry_tuple_getitem ?_ (args_tuple_getitem _ _)))
 show wpAny _ _ (Builtin.Tuple.tupleItemsOf (.ref t) >>= _) _ _ s
 refine Pg (tupleItemsOf_ ht ?_)
 refine Pg (wpAny_typeOf hTs ?_)
 rw [Pb (by decide)]
 refine Pg (kl hs pl pu ?_)
 have hno:¬ ((((sIx items.size 0 lo:Nat):Int) == 0 && (1:Int) == 1 && (sIx items.size items.size hi - sIx items.size 0 lo) == items.size) = true):=by
  intro q
  rw [Qh,Qh] at q
  have q1:((sIx items.size 0 lo:Nat):Int) = 0:=eq_of_beq q.1.1
  have q2:sIx items.size items.size hi - sIx items.size 0 lo = items.size:=eq_of_beq q.2
  exact hw ⟨by omega,by omega⟩
 show wpAny _ _ (if (((sIx items.size 0 lo:Nat):Int) == 0 && (1:Int) == 1 && (sIx items.size items.size hi - sIx items.size 0 lo) == items.size) = true then _ else _) _ _ s
 rw [Pc hno,Gh]
 first
  | exact Pg (m:=Builtin.Tuple.tupleExact _) (Qr (Pl ⟨_,rfl,Pl h⟩) htake)
  | exact Pg (m:=Builtin.Tuple.tupleExact _) (Qr (Pg (Pl (Pl ⟨_,rfl,Pl h⟩))) htake)
  | exact Pg (Pg (m:=Builtin.Tuple.tupleExact _) (Qr (Pl (Pl ⟨_,rfl,Pl h⟩)) htake))
  | exact Pg (Pg (m:=Builtin.Tuple.tupleExact _) (Qr (Pl ⟨_,rfl,Pl h⟩) htake))
end
end HT
namespace L2
open PySem PySem.Spec PyProof.Rows
abbrev TO:=St -> Hp -> (Option Int -> Hp -> Prop) -> Prop
def PO (X:Cx) (e:Option Expr) (t:TO):Prop:=
 ∀ (pins:List (Addr × Obj)) (s:Shared) (σ:St) (H:Hp) (Q:Option Int -> Hp -> Prop),Inv X pins σ H s -> t σ H Q ->
  wpAny (model X.prog X.w) X.A (evalPart e X.env) (fun u s'=>∃ o H',Inv X pins σ H' s' /\ IsPart u o /\ Q o H') X.xe s
def CF:TO:=fun _ H Q=>Q none H
def IR (t:TE):TO:=fun σ H Q=>t σ H fun x H1=>∃ i,x = .int i /\ Q (some i) H1
theorem jd {ns:List Int}:∀ {us:List Value},Vals (ns.map V.int) us -> IntsAre us ns:=by
 induction ns with
 | nil=>intro us r;rw [List.map_nil] at r;cases r;exact .nil
 | cons n ns ih=>
  intro us r
  rw [Px] at r
  cases r with
  | cons r1 r2=>
   obtain ⟨t,e⟩:=r1
   subst e
   exact .cons n t (ih r2)
section
variable {X:Cx} {e:Expr} {te:TE} {lo hi:Option Expr} {tl th:TO} {pos p2:Pos}
theorem CN:PO X none CF:=by
 intro pins s σ H Q I h
 rw [evalPart_none]
 exact Pl ⟨none,H,I,.none,h⟩
theorem ue (h:PE X e te):PO X (some e) (IR te):=by
 intro pins s σ H Q I hw
 rw [evalPart_some]
 refine thn (h pins s σ H _ I hw) fun u s1 hpt9=>?_
 obtain ⟨x,H1,I1,r1,q1⟩:=hpt9
 obtain ⟨i,rfl,q⟩:=q1
 obtain ⟨t,rfl⟩:=r1
 exact ⟨some i,H1,I1,.int i t,q⟩
def SlR (X:Cx) (r:V -> Option Int -> Option Int -> Hp -> VK -> Prop):Prop:=
 ∀ (pins:List (Addr × Obj)) (s:Shared) (σ:St) (H:Hp) (x:V) (v vl vu:Value) (lo hi:Option Int) (sl:Addr) (Q:VK),Inv X pins σ H s -> RelV x v -> s.heap.IsSliceOf sl vl vu .none -> IsPart vl lo -> IsPart vu hi -> r x lo hi H Q ->
  ∃ T id,typeLookup (.type T) "__getitem__" = pure (some (.builtin id)) /\ s.TypeIs v T /\ wpAny (model X.prog X.w) X.A (getItem v (.ref sl)) (EP X pins σ Q) X.xe s
theorem SlR.or {r r':V -> Option Int -> Option Int -> Hp -> VK -> Prop} (h:SlR X r) (h':SlR X r'):SlR X (fun x lo hi H Q=>r x lo hi H Q \/ r' x lo hi H Q):=by
 intro pins s σ H x v vl vu lo hi sl Q I rx hs pl pu q
 rcases q with q | q
 ·exact h pins s σ H x v vl vu lo hi sl Q I rx hs pl pu q
 ·exact h' pins s σ H x v vl vu lo hi sl Q I rx hs pl pu q
def tSl (r:V -> Option Int -> Option Int -> Hp -> VK -> Prop) (te:TE) (tl th:TO):TE:=fun σ H Q=>te σ H fun x H1=>tl σ H1 fun l H2=>th σ H2 fun u H3=>r x l u H3 Q
theorem vH {r:V -> Option Int -> Option Int -> Hp -> VK -> Prop} (hr:SlR X r) (he:PE X e te) (hl:PO X lo tl) (hu:PO X hi th):PE X (.Subscript e (.Slice lo hi none p2) pos) (tSl r te tl th):=by
 intro pins s σ H Q I h
 refine Subscript_ (thn (he pins s σ H _ I h) fun v s1 hpt9=>?_)
 obtain ⟨x,H1,I1,r1,q1⟩:=hpt9
 refine wpAny_Slice (thn (hl pins s1 σ H1 _ I1 q1) fun vl s2 ⟨l,H2,I2,pl,q2⟩=>thn (hu pins s2 σ H2 _ I2 q2) fun vu s3 hpt9=>?_)
 obtain ⟨u,H3,I3,pu,q3⟩:=hpt9
 rw [evalPart_none]
 refine Pl ?_
 have I4:Inv X pins σ H3 { s3 with heap:=s3.heap.push { cls:=.type "slice",data:=.fields #[vl,vu,.none] } }:=I3.kept (t':=s3.toks) fun b ob q=>Pz _ q
 obtain ⟨T,id,hT,ht,hg⟩:=hr pins { s3 with heap:=s3.heap.push { cls:=.type "slice",data:=.fields #[vl,vu,.none] } } σ H3 x v vl vu l u s3.heap.objs.size Q I4 r1 (Heap.IsSliceOf.new ..) pl pu q3
 show wpAny (model X.prog X.w) X.A (subscriptTail e (.Slice lo hi none p2) v (.ref s3.heap.objs.size)) (EP X pins σ Q) X.xe { s3 with heap:=s3.heap.push { cls:=.type "slice",data:=.fields #[vl,vu,.none] } }
 exact tail_any (ops:=[.ref s3.heap.objs.size,v]) ht hT hg (by with_unfolding_all rfl)
def o6 (xs:List V) (lo hi:Option Int):List V:=(xs.drop (HT.sIx xs.length 0 lo)).take (HT.sIx xs.length xs.length hi - HT.sIx xs.length 0 lo)
theorem sM (xs:List V) (lo hi:Option Int):(o6 xs lo hi).length <= xs.length:=by
 unfold o6
 rw [Q3,List.length_drop]
 lia
def Nb (K:W.Frag):V -> Option Int -> Option Int -> Hp -> VK -> Prop:=fun x lo hi H Q=>∃ a xs,x = .ref a /\ SqT K H a xs /\
 ¬ (HT.sIx xs.length 0 lo = 0 /\ HT.sIx xs.length xs.length hi = xs.length) /\ ∀ p,H p = none -> Q (.ref p) (upd H p (.tup (o6 xs lo hi)))
theorem Kq:SlR X (Nb X.K):=by
 intro pins s σ H x v vl vu lo hi sl Q I rx hs pl pu h
 obtain ⟨a,xs,rfl,hx,hw,q⟩:=h
 cases rx
 obtain ⟨its,r,ht,hz⟩:=I.tuple hx
 have hlen:its.toArray.size = xs.length:=by rw [PK];exact r.length.symm
 refine ⟨"tuple",_,Q5.lookup,ht.typeIs,?_⟩
 refine HT.pQ ht hs pl pu (by rw [hlen];exact hw) ?_ (by rw [hlen];exact hz)
 rw [hlen]
 refine ⟨.ref s.heap.objs.size,_,I.laid (t':=s.toks) (o:=.tup (o6 xs lo hi)) (fun b ob q=>Pz _ q) (Pj _) ?_,rfl,q _ (I.hok.fresh (Pj _))⟩
 exact ⟨PR (sM xs lo hi) hz,_,(r.drop (HT.sIx xs.length 0 lo)).take (HT.sIx xs.length xs.length hi - HT.sIx xs.length 0 lo),IsTup.new _ _⟩
theorem Vals.nil_iff {xs:List V} {us:List Value} (r:Vals xs us):us = [] ↔ xs = []:=by
 cases r with
 | nil=>simp
 | cons _ _=>simp
end
def ixN (n:Nat) (i:Int):Option Nat:=if 0 <= i then (if i < n then some i.toNat else none) else if -(n:Int) <= i then some (i + n).toNat else none
def atI {α:Type} (xs:List α) (i:Int):Option α:=(ixN xs.length i).bind fun j=>xs[j]?
theorem Dl {n:Nat} {i:Int} {j:Nat} (h:ixN n i = some j):seqIndex? i n = some j /\ j < n /\ -(n:Int) <= i /\ i < n:=by
 unfold ixN at h
 by_cases h0:0 <= i
 ·rw [Pb h0] at h
  by_cases h1:i < n
  ·rw [Pb h1] at h
   have e:i.toNat = j:=P6 h
   exact ⟨by rw [seqIndex_of h0 h1,e],by lia,by lia,h1⟩
  ·rw [Pc h1] at h;cases h
 ·rw [Pc h0] at h
  by_cases h1:-(n:Int) <= i
  ·rw [Pb h1] at h
   have e:(i + n).toNat = j:=P6 h
   exact ⟨by rw [seqIndex_neg (by lia) h1,e],by lia,h1,by lia⟩
  ·rw [Pc h1] at h;cases h
theorem yL {α:Type} {xs:List α} {i:Int} {v:α} (h:atI xs i = some v):∃ j,seqIndex? i xs.length = some j /\ xs[j]? = some v /\ j < xs.length /\ -(xs.length:Int) <= i /\ i < xs.length:=by
 unfold atI at h
 cases e:ixN xs.length i with
 | none=>rw [e] at h;cases h
 | some j=>
  rw [e] at h
  obtain ⟨h1,h2,h3,h4⟩:=Dl e
  exact ⟨j,h1,h,h2,h3,h4⟩
def CB (b:Expr):Prop:=∀ o i,subscripted b false o i = operate [o,i] (getItem o i)
def IxR (X:Cx) (r:R2):Prop:=
 ∀ (value slice:Expr) (pins:List (Addr × Obj)) (s:Shared) (σ:St) (H:Hp) (x y:V) (v u:Value) (Q:VK),Inv X pins σ H s -> RelV x v -> RelV y u -> r x y H Q ->
  subscripted slice false v u = operate [v,u] (getItem v u) -> wpAny (model X.prog X.w) X.A (subscriptTail value slice v u) (EP X pins σ Q) X.xe s
def MtR (X:Cx) (id:String) (r:V -> List V -> Hp -> VK -> Prop):Prop:=
 ∀ (pins:List (Addr × Obj)) (s:Shared) (σ:St) (H:Hp) (x:V) (xs:List V) (v:Value) (us:List Value) (Q:VK),Inv X pins σ H s -> RelV x v -> Vals xs us -> r x xs H Q ->
  wpAny (model X.prog X.w) X.A (call (.builtin id) (v :: us)) (EP X pins σ Q) X.xe s
section
variable {X:Cx} {a b:Expr} {ta tb:TE} {pos:Pos}
theorem IxR.or {r r':R2} (h:IxR X r) (h':IxR X r'):IxR X (fun x y H Q=>r x y H Q \/ r' x y H Q):=by
 intro value slice pins s σ H x y v u Q I rx ry q hs
 rcases q with q | q
 ·exact h value slice pins s σ H x y v u Q I rx ry q hs
 ·exact h' value slice pins s σ H x y v u Q I rx ry q hs
theorem I9 {r:R2} (hr:IxR X r) (ha:PE X a ta) (hb:PE X b tb) (hs:CB b):PE X (.Subscript a b pos) (tOp r ta tb):=by
 intro pins s σ H Q I h
 exact Subscript_ (Ki ha hb I h fun v u s2 x y H2 I2 rx ry q=>hr a b pins s2 σ H2 x y v u Q I2 rx ry q (hs _ _))
def Lx (K:W.Frag):R2:=fun x y H Q=>∃ p xs i v,x = .ref p /\ y = .int i /\ SqL K H p xs /\ atI xs i = some v /\ Q v H
def L9 (K:W.Frag):R2:=fun x y H Q=>∃ p xs i v,x = .ref p /\ y = .int i /\ SqT K H p xs /\ atI xs i = some v /\ Q v H
def Mt:R2:=fun x y H Q=>∃ z i c,x = .str z /\ y = .int i /\ z.length <= sizeLine /\ atI z.cps.toList i = some c /\ Q (.str ⟨#[c]⟩) H
theorem ix_list:IxR X (Lx X.K):=by
 intro value slice pins s σ H x y v u Q I rx ry h hs
 obtain ⟨p,xs,i,z,rfl,rfl,hq,he,q⟩:=h
 cases rx
 obtain ⟨t,rfl⟩:=ry
 obtain ⟨its,r,pl,hz⟩:=I.list hq
 obtain ⟨j,h1,h2,h3,h4,h5⟩:=yL he
 obtain ⟨w,ew,rw'⟩:=r.get h2
 have hl:=r.length
 have hn:=pi
 have fin:EP X pins σ Q w s:=⟨z,H,I,rw',q⟩
 by_cases h0:0 <= i
 ·have hj:i.toNat = j:=by
   rw [seqIndex_of h0 h5] at h1
   exact P6 h1
  exact item_listR pl.isList h0 (by lia) (by rw [hj];simpa using ew) fin hs
 ·have hj:(i + (its.toArray.size:Int)).toNat = j:=by
   rw [seqIndex_neg (by lia) h4] at h1
   rw [PK,<- hl]
   exact P6 h1
  exact subscriptTail_builtinR (x:=w) pl.isList.typeIs slot_list_getitem.lookup
   (wpAny_getItem_list_neg (Q:=fun r s'=>r = w /\ EP X pins σ Q r s') pl.isList (by lia) (by rw [PK] <;> lia) (by lia) (by rw [hj];simpa using ew) ⟨rfl,fin⟩) hs
theorem ix_tup:IxR X (L9 X.K):=by
 intro value slice pins s σ H x y v u Q I rx ry h hs
 obtain ⟨p,xs,i,z,rfl,rfl,hq,he,q⟩:=h
 cases rx
 obtain ⟨t,rfl⟩:=ry
 obtain ⟨its,r,pl,hz⟩:=I.tuple hq
 obtain ⟨j,h1,h2,h3,h4,h5⟩:=yL he
 obtain ⟨w,ew,rw'⟩:=r.get h2
 have hl:=r.length
 have hn:=pi
 have fin:EP X pins σ Q w s:=⟨z,H,I,rw',q⟩
 exact subscriptTail_builtinR (x:=w) pl.typeIs slot_tuple_getitem.lookup
  (getItem_tuple (j:=j) (Q:=fun r s'=>r = w /\ EP X pins σ Q r s') pl (by lia) (by lia) (by rw [PK,<- hl];exact h1) (by simpa using ew) ⟨rfl,fin⟩) hs
theorem K1:IxR X Mt:=by
 intro value slice pins s σ H x y v u Q I rx ry h hs
 obtain ⟨z,i,c,rfl,rfl,hz,he,q⟩:=h
 obtain ⟨t,rfl⟩:=rx
 obtain ⟨t',rfl⟩:=ry
 obtain ⟨j,h1,h2,h3,h4,h5⟩:=yL he
 have hl:z.cps.toList.length = z.length:=by simp [Str.length]
 rw [hl] at h1 h4 h5
 have hn:=pi
 exact tail_any (typeIs_str s z t) slot_str_getitem.lookup (getItem_str (c:=c) (by
  have e1:decide (i < -(2 ^ 63:Int)) = false:=PX (by lia)
  have e2:decide (i ≥ 2 ^ 63) = false:=PX (by lia)
  rw [e1,e2,Bool.or_false]) (by rw [h1];simpa using h2) ⟨.str ⟨#[c]⟩,H,I.tok _,⟨_,rfl⟩,q⟩) hs
def rIx (K:W.Frag):R2:=fun x y H Q=>Lx K x y H Q \/ L9 K x y H Q \/ Mt x y H Q
theorem GL:IxR X (rIx X.K):=ix_list.or (ix_tup.or K1)
theorem Cb (its:List Value) (n j:Nat) (u:Value):Obj.mapSeq (·.setIfInBounds j u) { cls:=.type "list",data:=.seq its.toArray n } = { cls:=.type "list",data:=.seq (its.set j u).toArray n }:=by
 simp [Obj.mapSeq]
theorem Inv.lst {pins:List (Addr × Obj)} {σ:St} {H:Hp} {s:Shared} {p:Addr} {xs:List V} (I:Inv X pins σ H s) (h:H p = some (.lst xs)) :
  ∃ (its:List Value) (n:Nat),Vals xs its /\ s.heap.get? p = some { cls:=.type "list",data:=.seq its.toArray n } /\ xs.length <= sizeLine:=by
 obtain ⟨z,its,n,r,e⟩:=I.hok p _ h
 exact ⟨its,n,r,e,z⟩
theorem Inv.lstUpd {pins:List (Addr × Obj)} {σ:St} {H:Hp} {s:Shared} {p:Addr} {xs ys:List V} {its its':List Value} {n n':Nat} {f:Obj -> Obj} (I:Inv X pins σ H s) (h:H p = some (.lst xs))
  (ho:s.heap.get? p = some { cls:=.type "list",data:=.seq its.toArray n }) (hf:f { cls:=.type "list",data:=.seq its.toArray n } = { cls:=.type "list",data:=.seq its'.toArray n' }) (r:Vals ys its') (hz:ys.length <= sizeLine) (t:Nat) :
  Inv X pins σ (upd H p (.lst ys)) { s with heap:=s.heap.update p f,toks:=t }:=by
 have e:(s.heap.update p f).get? p = some { cls:=.type "list",data:=.seq its'.toArray n' }:=by
  rw [R0 f ho (by rw [hf] <;> rfl),hf]
 refine I.write (x:=p) (e:=p) (by rw [h];trivial) (.inl rfl) (fun b u hb q=>(Heap.get?_update_other _ _ (PM hb)).trans q) ⟨_,e⟩ ?_
 exact ⟨hz,its',n',r,e⟩
def Jn:V -> V -> V -> Hp -> (Hp -> Prop) -> Prop:=fun o i v H Q=>∃ p xs k j,o = .ref p /\ i = .int k /\ H p = some (.lst xs) /\ ixN xs.length k = some j /\ Q (upd H p (.lst (xs.set j v)))
theorem qQ:ML X Jn:=by
 intro pins s σ H o i v ov iv u Q I ro ri rv h
 obtain ⟨p,xs,k,j,rfl,rfl,hp,hj,q⟩:=h
 cases ro
 obtain ⟨t,rfl⟩:=ri
 obtain ⟨its,n,r,ho,hz⟩:=I.lst hp
 obtain ⟨h1,h2,h3,h4⟩:=Dl hj
 have hl:=r.length
 have hn:=pi
 have I':Inv X pins σ (upd H p (.lst (xs.set j v))) { s with heap:=s.heap.update p (Obj.mapSeq (·.setIfInBounds j u)) }:=
  I.lstUpd hp ho (Cb its n j u) (r.set rv j) (by rw [Qg];exact hz) s.toks
 by_cases h0:0 <= k
 ·have hk:k.toNat = j:=by
   rw [seqIndex_of h0 h4] at h1
   exact P6 h1
  exact W.ki_setAt ho h0 (by lia) (by rw [PK,<- hl];exact h4) (by rw [hk];exact ⟨_,I',q⟩)
 ·have hk:(k + (its.toArray.size:Int)).toNat = j:=by
   rw [seqIndex_neg (by lia) h3] at h1
   rw [PK,<- hl]
   exact P6 h1
  exact W.ki_setBack ho (by lia) (by rw [PK,<- hl];exact h3) (by lia) (by rw [hk];exact ⟨_,I',q⟩)
theorem zc (lo hi:Option Int) (n:Nat):(sliceBounds lo hi none n).1 = ((HT.sIx n 0 lo:Nat):Int) /\ (sliceBounds lo hi none n).2.1 = ((HT.sIx n n hi:Nat):Int) /\ (sliceBounds lo hi none n).2.2 = 1:=by
 refine ⟨?_,?_,rfl⟩
 ·cases lo with
  | none=>simp [sliceBounds,HT.sIx]
  | some i=>
   simp only [sliceBounds,HT.sIx,Option.getD_none,show (1:Int) > 0 by decide,QK]
   by_cases h:i < 0
   ·simp only [h,QK] <;> lia
   ·simp only [h,if_false] <;> lia
 ·cases hi with
  | none=>simp [sliceBounds,HT.sIx]
  | some i=>
   simp only [sliceBounds,HT.sIx,Option.getD_none,show (1:Int) > 0 by decide,QK]
   by_cases h:i < 0
   ·simp only [h,QK] <;> lia
   ·simp only [h,if_false] <;> lia
theorem wR (its:List Value) (lo hi:Option Int):slicePick its.toArray lo hi none = ((its.drop (HT.sIx its.length 0 lo)).take (HT.sIx its.length its.length hi - HT.sIx its.length 0 lo)).toArray:=by
 obtain ⟨h1,h2,h3⟩:=zc lo hi its.toArray.size
 unfold slicePick
 rw [h1,h2,h3]
 simp only [sliceRange_one,pick_run,PK] <;> rfl
def MD (K:W.Frag):V -> Option Int -> Option Int -> Hp -> VK -> Prop:=fun x lo hi H Q=>∃ a xs,x = .ref a /\ SqL K H a xs /\ ∀ p,H p = none -> Q (.ref p) (upd H p (.lst (o6 xs lo hi)))
theorem Iq:SlR X (MD X.K):=by
 intro pins s σ H x v vl vu lo hi sl Q I rx hs pl pu h
 obtain ⟨a,xs,rfl,hx,q⟩:=h
 cases rx
 obtain ⟨its,r,ht,hz⟩:=I.list hx
 have hlen:=r.length
 refine ⟨"list",_,slot_list_getitem.lookup,ht.isList.typeIs,?_⟩
 refine wpAny_getItem_list_slice ht.isList hs pl pu .none (by simp) ?_ (by rw [PK] <;> lia)
 rw [wR,<- hlen]
 refine ⟨.ref s.heap.objs.size,_,I.laid (t':=s.toks) (o:=.lst (o6 xs lo hi)) (fun b ob q=>Pz _ q) (Pj _) ?_,rfl,q _ (I.hok.fresh (Pj _))⟩
 exact ⟨PR (sM xs lo hi) hz,_,0,(r.drop (HT.sIx xs.length 0 lo)).take (HT.sIx xs.length xs.length hi - HT.sIx xs.length 0 lo),P7 _ rfl⟩
theorem CallR.or {f:Value} {r r':List V -> Hp -> VK -> Prop} (h:CallR X f r) (h':CallR X f r'):CallR X f (fun xs H Q=>r xs H Q \/ r' xs H Q):=by
 intro pins s σ H xs us Q I rs q
 rcases q with q | q
 ·exact h pins s σ H xs us Q I rs q
 ·exact h' pins s σ H xs us Q I rs q
theorem bw:CallR X (.type "tuple") (fun xs H Q=>∃ p ys,xs = [.ref p] /\ ((SqL X.K H p ys /\ ∀ l,H l = none -> Q (.ref l) (upd H l (.tup ys))) \/ (SqT X.K H p ys /\ Q (.ref p) H))):=by
 intro pins s σ H xs us Q I r h
 obtain ⟨p,ys,rfl,h⟩:=h
 obtain ⟨u,rfl,rx⟩:=Fz r
 cases rx
 rcases h with ⟨hq,q⟩ | ⟨hq,q⟩
 ·obtain ⟨its,r',pl,hz⟩:=I.list hq
  have hlen:=r'.length
  refine call_tuple_list pl.isList (fun h' kp=>?_) (by simp only [PK] <;> lia)
  have I1:Inv X pins σ H { s with heap:=h' }:=I.kept (t':=s.toks) kp
  have I2:Inv X pins σ (upd H h'.objs.size (.tup ys)) { s with heap:=h'.push { cls:=.type "tuple",data:=.seq its.toArray } }:=
   I1.laid (t':=s.toks) (fun b o e=>Pz _ e) (Pj _) (show ObjOk X.prog X.w _ _ _ (.tup ys) from ⟨hz,its,r',IsTup.new _ _⟩)
  exact ⟨.ref h'.objs.size,_,I2,rfl,q _ (I1.hok.fresh (Pj _))⟩
 ·obtain ⟨its,r',pl,hz⟩:=I.tuple hq
  exact call_tuple_same pl ⟨.ref p,H,I,rfl,q⟩
def tyV (K:W.Frag) (T:String) (x:V) (H:Hp):Prop:=match x with
 | .str _=>T = "str"
 | .int _=>T = "int"
 | .ref p=>(T = "list" /\ ∃ xs,SqL K H p xs) \/ (T = "tuple" /\ ∃ o,K.lookup p = some o /\ o.cls = .type "tuple" /\ o.dict = none) \/
   (T = "dict" /\ ((∃ kvs,H p = some (.dK kvs)) \/ ∃ kvs,H p = some (.dT kvs))) \/ (T = "set" /\ ∃ S n,H p = some (.set S n))
 | _=>False
theorem Ka {pins:List (Addr × Obj)} {σ:St} {H:Hp} {s:Shared} {T:String} {x:V} {v:Value} (I:Inv X pins σ H s) (r:RelV x v) (ty:tyV X.K T x H) :
  s.TypeIs v T /\ ∀ a,v = .ref a -> ∃ ob,s.heap.get? a = some ob /\ ob.dict = none:=by
 cases x with
 | str z=>
  obtain ⟨t,rfl⟩:=r
  cases (show T = "str" from ty)
  exact ⟨typeIs_str s z t,fun _ e=>nomatch e⟩
 | int i=>
  obtain ⟨t,rfl⟩:=r
  cases (show T = "int" from ty)
  exact ⟨typeIs_int s i t,fun _ e=>nomatch e⟩
 | ref p=>
  cases r
  rcases ty with ⟨rfl,xs,hq⟩ | ⟨rfl,o,hk,hc,hd⟩ | ⟨rfl,hk⟩ | ⟨rfl,S,n,hk⟩
  ·obtain ⟨its,_,pl,_⟩:=I.list hq
   refine ⟨pl.isList.typeIs,fun a e=>?_⟩
   cases e
   obtain ⟨o,n,e,c,hd,_⟩:=pl
   exact ⟨o,e,hd⟩
  ·refine ⟨⟨o,I.kIn p o hk,hc⟩,fun a e=>?_⟩
   cases e
   exact ⟨o,I.kIn _ o hk,hd⟩
  ·have z:∃ o,s.heap.get? p = some o /\ o.ExactDict:=by
    rcases hk with ⟨kvs,hk⟩ | ⟨kvs,hk⟩
    ·obtain ⟨_,_,_,_,o,_,_,e,ex,_⟩:=I.hok p _ hk
     exact ⟨o,e,ex⟩
    ·obtain ⟨_,_,_,_,o,_,_,e,ex,_⟩:=I.hok p _ hk
     exact ⟨o,e,ex⟩
   obtain ⟨o,e,ex⟩:=z
   refine ⟨⟨o,e,ex.1⟩,fun a e2=>?_⟩
   cases e2
   exact ⟨o,e,ex.2.1⟩
  ·obtain ⟨o,_,_,_,e,ex,_⟩:=I.hok p _ hk
   refine ⟨⟨o,e,ex.1⟩,fun a e2=>?_⟩
   cases e2
   exact ⟨o,e,ex.2.1⟩
 | _=>exact False.elim ty
def tBM (K:W.Frag) (T:String) (r:V -> List V -> Hp -> VK -> Prop) (to:TE) (t:TA):TE:=fun σ H Q=>to σ H fun x H1=>tyV K T x H1 /\ t σ H1 fun xs H2=>r x xs H2 Q
variable {o e:Expr} {es:List Expr} {to:TE} {t:TA} {name:Str} {apos cpos:Pos} {T id:String} {r:V -> List V -> Hp -> VK -> Prop}
theorem sP (pa:PlainAttrs T) (slot:Slot T name id) (hty:typeOf (.builtin id) = pure (.type "method_descriptor")) (hm:MtR X id r) (ho:PE X o to) (ha:PA X (e :: es) t)
  (hbase:attributeBase o name X.env (eval o X.env) = eval o X.env:=by rfl)
  (hfew:((backTo cpos (starEach (e :: es) X.env)).all (fun x=>!x.1) && (backToKw cpos (keywordEach [] X.env)).all (fun x=>x.1.isSome)
   && decide ((e :: es).length + ([]:List Keyword).length + (if ([]:List Keyword).isEmpty then 0 else 1) < 30)) = true:=by rfl)
  (hline:(apos.endLine == cpos.line) = true:=by rfl) (hs:starEach (e :: es) X.env = (false,eval e X.env) :: starEach es X.env:=by rfl) (hplain:(backTo cpos (starEach es X.env)).any (·.1) = false:=by rfl) :
  PE X (.Call (.Attribute o name apos) (e :: es) [] cpos) (tBM X.K T r to t):=by
 intro pins s σ H Q I h
 refine wpAny_Call_method_late hbase hfew hline rfl (thn (ho pins s σ H _ I h) fun v s1 hpt9=>?_)
 obtain ⟨x,H1,I1,r1,ty,q1⟩:=hpt9
 obtain ⟨h1,h2⟩:=Ka I1 r1 ty
 refine ⟨T,id,pa,slot,hty,h1,h2,?_⟩
 have hA:=ha cpos pins s1 σ H1 _ I1 q1
 rw [hs] at hA ⊢
 refine Calls.callWith_builtin (by show (false || (backTo cpos (starEach es X.env)).any (·.1)) = false;rw [hplain] <;> rfl) (Calls.evalArgs_plain ?_)
 exact thn hA fun us s2 ⟨vs,H2,I2,r2,q2⟩=>hm pins s2 σ H2 x vs v us Q I2 r1 r2 q2
end
def MtM (X:Cx) (id:String) (r:V -> List V -> Hp -> VK -> Prop):Prop:=
 ∀ (pins:List (Addr × Obj)) (s:Shared) (σ:St) (H:Hp) (x:V) (xs:List V) (v:Value) (us:List Value) (Q:VK),Inv X pins σ H s -> RelV x v -> Vals xs us -> r x xs H Q ->
  wpAny (model X.prog X.w) X.A (call (.builtin id) (v :: us)) (EP X pins σ Q) X.xe s
theorem Vals.one {x:V} {us:List Value} (h:Vals [x] us):∃ u,us = [u] /\ RelV x u:=by
 cases h with
 | cons r t=>cases t;exact ⟨_,rfl,r⟩
theorem Vals.two {x y:V} {us:List Value} (h:Vals [x,y] us):∃ u v,us = [u,v] /\ RelV x u /\ RelV y v:=by
 cases h with
 | cons r t=>
  cases t with
  | cons q t=>cases t;exact ⟨_,_,rfl,r,q⟩
section
variable {X:Cx} {pins:List (Addr × Obj)} {σ:St} {H:Hp} {s:Shared} {l b:Addr} {xs ys zs:List V}
theorem Inv.lset {its its':List Value} {n:Nat} {f:Array Value -> Array Value} {t':Nat} (I:Inv X pins σ H s) (hH:H l = some (.lst xs))
  (e:s.heap.get? l = some { cls:=.type "list",data:=.seq its.toArray n }) (hf:f its.toArray = its'.toArray) (hv:Vals ys its') (hz:ys.length <= sizeLine) :
  Inv X pins σ (upd H l (.lst ys)) { s with heap:=s.heap.update l (Obj.mapSeq f),toks:=t' }:=by
 have q:=PySem.IsL.update e f
 rw [hf] at q
 refine I.write (x:=l) (e:=l) (by rw [hH];exact trivial) (.inl rfl) (fun b' u hb hu=>(Heap.get?_update_other s.heap (Obj.mapSeq f) (PM hb)).trans hu) ⟨_,q⟩ ?_
 exact ⟨hz,its',_,hv,q⟩
theorem Inv.lnew {its:List Value} {t':Nat} (I:Inv X pins σ H s) (hv:Vals ys its) (hz:ys.length <= sizeLine) :
  Inv X pins σ (upd H s.heap.objs.size (.lst ys)) { s with heap:=s.heap.push { cls:=.type "list",data:=.seq its.toArray },toks:=t' }:=
 I.laid (fun _ _ q=>Pz _ q) (Pj _) ⟨hz,its,0,hv,P7 _ rfl⟩
theorem Inv.fresh (I:Inv X pins σ H s):H s.heap.objs.size = none:=I.hok.fresh (Pj _)
theorem Inv.lstM (I:Inv X pins σ H s) (hH:H l = some (.lst xs)):xs.length <= sizeLine /\ ∃ (its:List Value) (n:Nat),Vals xs its /\ xs.length = its.length /\ s.heap.get? l = some { cls:=.type "list",data:=.seq its.toArray n }:=by
 obtain ⟨z,its,n,r,e⟩:=I.hok l _ hH
 exact ⟨z,its,n,r,r.length,e⟩
theorem Gg {n:Nat} (h:n <= sizeLine):Builtin.List.listTooLong n = false:=by
 unfold Builtin.List.listTooLong
 exact PX (by lia)
end
section
variable {X:Cx}
def rAppend:V -> List V -> Hp -> VK -> Prop:=fun x vs H Q=>∃ l xs y,x = .ref l /\ vs = [y] /\ H l = some (.lst xs) /\ xs.length < sizeLine /\ Q .non (upd H l (.lst (xs ++ [y])))
theorem fK:MtM X "list.append" rAppend:=by
 intro pins s σ H x vs v us Q I rx rv h
 obtain ⟨l,xs,y,rfl,rfl,hH,hz,q⟩:=h
 cases rx
 obtain ⟨u,rfl,ru⟩:=rv.one
 obtain ⟨z,its,n,r,hl,e⟩:=I.lstM hH
 refine call_meets F.slot_list_append ⟨_,e,rfl⟩ F.entry_list_append (F.args_list_append_2 _ _) (PySem.list_append l its.toArray n u (by rw [PK];lia)) ⟨e,?_⟩
 refine ⟨.non,_,I.lset (its':=its ++ [u]) hH e (by simp) (r.append (.cons ru .nil)) ?_,rfl,q⟩
 rw [Ps,Qm]
 lia
end
section
variable {prog:Program} {w:World} {A:Around} {E:Value -> Shared -> Prop} {s:Shared}
end
section
variable {X:Cx}
end
end L2
namespace Att
open PySem PySem.W PySem.Calls PyProof.Rows
theorem tH {P:Params} {h:Heap}:∀ (ns:List Int) (vs:List Value),WellAll P h vs (ns.map WData.int) -> IntsAre vs ns:=by
 intro ns
 induction ns with
 | nil=>
  intro vs w
  rw [List.map_nil] at w
  cases w
  exact .nil
 | cons n ns ih=>
  intro vs w
  rw [Px] at w
  cases w with
  | cons a b=>
   cases a
   exact .cons _ _ (ih _ b)
theorem DM {l:OpenLaw} {n:Nat} (hn:l.most = some n) {P:Params} {h:Heap} {args:List WData} {vals:List Value}
  (hpre:l.row.toRowW.claim.pre args = true) (hwl:WellAll P h vals args) :
  ∃ a vs ns,vals = [Value.ref a] /\ args = [WData.list (ns.map WData.int)] /\ h.get? a = some { cls:=.type "list",data:=.seq vs.toArray } /\ IntsAre vs ns /\ ns.length <= n:=by
 have hsh:WShape.hasAll [] args [.list .int] = true:=(pre_splitW hpre).1
 have hc:l.pre.holds [] { args:=args } = true:=(pre_splitW hpre).2
 obtain ⟨d,r,rfl,h1,h2⟩:=hasAllW_cons hsh
 obtain rfl:=hasAllW_nil h2
 obtain ⟨xs,rfl,h3⟩:=hasW_list h1
 obtain ⟨ns,rfl⟩:=items_int h3
 have hlen:ns.length <= n:=by
  unfold OpenLaw.pre at hc
  have h4:(WTm.not (.lt (.lit (.int (n:Int))) (.len (.arg 0)))).holds [] { args:=[.list (ns.map .int)] } = true:=by
   have h4:=(holds_andW hc).1
   rw [hn] at h4
   exact h4
  have h5:=condW_of h4 (w_not (w_lt w_lit (w_len_list (w_arg rfl))))
  rw [Ph] at h5
  refine Nat.le_of_not_lt fun q=>?_
  have q':(n:Int) < ((ns.length:Nat):Int):=by omega
  first
   | (rw [QD q'] at h5;exact absurd h5 (by decide))
   | (simp at h5;omega)
 cases hwl with
 | cons w1 w2=>
  cases w2
  cases w1 with
  | list ho hall=>exact ⟨_,_,ns,rfl,rfl,ho,tH ns _ hall,hlen⟩
theorem Ef (l:OpenLaw) (args:List WData):l.row.toRowW.claim.post args (.bool true) args = true:=
 postW_of (r:=l.row.toRowW) (X:=(true == true))
  (show WShape.has [] (.bool true) .bool = true by first | rfl | decide | simp [WShape.has,WShape.arms,WShape.armsAll])
  (show (WTm.eq .res (.lit (.bool true))).value [] { args:=args,res:=some (.bool true),after:=args } = some (.bool (true == true)) from w_eq_bool (w_res rfl) w_lit) rfl
theorem zW {l:OpenLaw} {n:Nat} {q:Program} {loose:List Str} {XP:(Str -> Option Value) -> Heap -> Prop} {YP:World -> Heap -> Prop} {d:DefRec}
  (hn:l.most = some n) (hdf:d.params.defaults = [])
  (call:∀ (w:World) (s₀ s₁:Shared) (mg mb:Str -> Option Value) (fa:Addr) (o:Obj) (pm cd doc:Value) (a:Addr) (vs:List Value) (ns:List Int),
   Ground q loose [] XP w s₀ mg mb s₁.heap -> YP w s₁.heap ->
   s₁.heap.get? fa = some o -> o.data = .func (docDef d.name d.params d.body d.scope pm cd doc) -> s₁.heap.CodeRec cd d.name -> mg d.name = some (.ref fa) ->
   s₁.heap.get? a = some { cls:=.type "list",data:=.seq vs.toArray } -> IntsAre vs ns -> ns.length <= n -> s₁.gens = #[] ->
   codeAny (model l.prog w) callerA (.call (.ref fa) ⟨[.ref a],[]⟩) (fun r s'=>r = .ok (.ret (.bool true)) /\ OldK s₁.heap s'.heap /\ s'.os = s₁.os /\ AllBare s'.gens) s₁) :
  WalkO q loose XP YP l.row.toRowW d [] (fun f vs=>PySem.call f vs):=by
 intro w s₀ s₁ mg mb G Y fa o pm cd doc dV kV ho hd hcd hD hmg hg args vals as hpre hlay hrd hwl hlo
 obtain rfl:dV = .none:=Dflts.none hD hdf
 obtain rfl:kV = .none:=Dflts.noKw hD
 obtain ⟨a,vs,ns,rfl,rfl,hobj,hints,hlen⟩:=DM hn hpre hwl
 refine enter_call (Rk (call w s₀ s₁ mg mb fa o pm cd doc a vs ns G Y ho (fd_plain hd) hcd hmg hobj hints hlen hg) fun r s' hq=>?_)
 obtain ⟨rfl,h2,h3,h4⟩:=hq
 exact ⟨.inl ⟨.bool true,.bool true,[],rfl,fun _=>rfl,.bool true,Ef l _,fun _=>⟨List.Pairwise.nil,fun _ hm=>(nomatch hm)⟩⟩,h2,h3,h4⟩
section
variable {prog:Program} {w:World} {A:Around} {E:Value -> Shared -> Prop} {s:Shared} {K:Frag}
end
end Att
namespace L2
open PySem PySem.Spec PyProof.Rows
theorem xN:∀ {vs:List Value} {ns:List Int},IntsAre vs ns -> Vals (ns.map V.int) vs
 | _,_,.nil=>.nil
 | _,_,.cons n t h=>.cons ⟨t,rfl⟩ (xN h)
def Lb (H:Hp):Prop:=∀ b,H b = none \/ ∃ o xs,H b = some (.frz o (.lst xs))
theorem FK {P:Program} {w:World} {K:W.Frag} {mg mb:Str -> Option Value} {CX:CXT} {k:Nat} {fa a:Addr} {fd:FuncData} {x:Str} {sp:Sp} {s₁:Shared} {vs:List Value} {ns:List Int}
  (KX:K.In s₁.heap) (hns:s₁.heap.Ns mainGlobals mg) (hb:s₁.heap.Ns builtinsNs mb) (hbb:∀ x:Str,x ≠ "__name__" -> mb x = bootBuiltins x) (hlim:s₁.heap.NoLimit) (hg:s₁.gens = #[])
  (ha:s₁.heap.get? a = some { cls:=.type "list",data:=.seq vs.toArray }) (hi:IntsAre vs ns) (hl:ns.length <= sizeLine) (hr:Room k callerA)
  (F:∀ base:Heap,K.In base -> base.Ns mainGlobals mg -> FnOk P w K mg base CX k fa fd [x] sp) (hbind:∀ (s:Shared) (u:Value),BindsTo s fd ⟨[u],[]⟩ [(x,u)])
  (hsp:∀ H:Hp,Lb H -> SqL K H a (ns.map V.int) -> sp [.ref a] H (fun v _=>v = .bl true) fun _ _ _=>False)
  (hCX:∀ H e s',CX [] H s₁ (fun _ _ _=>False) e s' -> False) :
  codeAny (model P w) callerA (.call (.ref fa) ⟨[.ref a],[]⟩) (fun r s'=>r = .ok (.ret (.bool true)) /\ OldK s₁.heap s'.heap /\ s'.os = s₁.os /\ AllBare s'.gens) s₁:=by
 have rv:=xN hi
 have lenV:=hi.length
 -- from an abstract heap in which nothing but the script may be tracked
 have core:∀ H:Hp,Lb H -> SqL K H a (ns.map V.int) -> HOk P w H s₁.heap -> (∀ b,H b ≠ none -> b = a) -> (H a ≠ none -> K.lookup a = none) ->
   codeAny (model P w) callerA (.call (.ref fa) ⟨[.ref a],[]⟩) (fun r s'=>r = .ok (.ret (.bool true)) /\ OldK s₁.heap s'.heap /\ s'.os = s₁.os /\ AllBare s'.gens) s₁:=by
  intro H hO hS hok hA hK
  have base_of:∀ {b:Addr} {o:Obj},s₁.heap.get? b = some o -> H b = none -> (zk s₁.heap H).get? b = some o:=fun e n=>Hc e n
  have noA:∀ {b:Addr} {o:Obj} {es:Array DictEntry} {ep:Nat},s₁.heap.get? b = some o -> o.data = .dict es ep -> H b = none:=fun {b o es ep} e d=>by
   cases q:H b with
   | none=>rfl
   | some u=>
    have e':b = a:=hA b (by rw [q];simp)
    subst e'
    rw [ha] at e;cases e
    have d':Data.seq vs.toArray _ = Data.dict es ep:=d
    cases d'
  have nsK:∀ {b:Addr} {m:Str -> Option Value},s₁.heap.Ns b m -> (zk s₁.heap H).Ns b m:=fun {b m} ⟨o,es,ep,e,d,r⟩=>⟨o,es,ep,base_of e (noA e d),d,r⟩
  have hKb:K.In (zk s₁.heap H):=fun b o e=>base_of (KX b o e) (by
   cases q:H b with
   | none=>rfl
   | some u=>
    have e':b = a:=hA b (by rw [q];simp)
    subst e'
    rw [hK (by rw [q];simp)] at e;cases e)
  have hM:Mod K mg (zk s₁.heap H):=⟨hKb,nsK hns,⟨mb,nsK hb,hbb⟩,let ⟨mc,h1,h2⟩:=hlim;⟨mc,nsK h1,h2⟩⟩
  have e0:Env0 P w K mg (zk s₁.heap H) callerA [] s₁ H:=⟨rfl,hM,fun b o e=>Hs e,Qp (EE _ _),trivial,fun b hb=>absurd (show b ∈ ([]:List Addr) from hb) (by simp),hok,.of_eq hg⟩
  refine Rk ((F _ hKb (nsK hns)).run callerA [] s₁ H ⟨[.ref a],[]⟩ [.ref a] [.ref a] _ _ hr e0 (hbind s₁ (.ref a)) (.cons rfl .nil) (hsp H hO hS)) fun r s' h=>?_
  cases r with
  | error e=>exact (hCX H e s' h).elim
  | ok fl=>
   cases fl with
   | next=>exact False.elim h
   | brk=>exact False.elim h
   | cont=>exact False.elim h
   | ret u=>
    obtain ⟨v,H',os,bare,un,hok',r',q⟩:=h
    have q':v = .bl true:=q
    subst q'
    obtain rfl:u = Value.bool true:=r'
    refine ⟨rfl,OldK.of_keep fun b o e=>?_,os,bare⟩
    cases q:H b with
    | none=>exact un.keep b o e q (by intro z;exact absurd (show b ∈ ([]:List Addr) from z) (by simp)) (by simp)
    | some u=>
     rcases hO b with z | ⟨ob,xs,z⟩
     ·rw [q] at z;cases z
     ·have z2:=un.frzs b ob _ z
      obtain ⟨e1,_⟩:=hok b _ z
      obtain ⟨e2,_⟩:=hok' b _ z2
      rw [e] at e1;cases e1
      exact e2
 cases hk:K.lookup a with
 | some o=>
  -- the script is one of the module's own objects
  have e:=KX a o hk
  rw [ha] at e
  cases e
  refine core (fun _=>none) (fun _=>.inl rfl) (.inr ⟨_,vs.toArray,_,hk,rfl,rfl,rfl,by rw [PK,lenV];exact hl,by simpa using rv⟩) (fun b u z=>by have z':(none:Option HO) = some u:=z;cases z') (fun b z=>absurd rfl z) fun z=>absurd rfl z
 | none=>
  refine core (fun b=>if b = a then some (.frz { cls:=.type "list",data:=.seq vs.toArray } (.lst (ns.map V.int))) else none) (fun b=>?_) (.inl (.inr ⟨{ cls:=.type "list",data:=.seq vs.toArray },Pb rfl⟩)) (fun b u z=>?_) (fun b z=>?_) fun _=>hk
  ·by_cases hb:b = a
   ·exact .inr ⟨_,_,Pb hb⟩
   ·exact .inl (Pc hb)
  ·by_cases hb:b = a
   ·have z':=(Pb hb).symm.trans z
    cases z'
    subst hb
    exact ⟨ha,by rw [Ph];exact hl,vs,_,rv,ha⟩
   ·have z':=(Pc hb).symm.trans z
    cases z'
  ·by_cases hb:b = a
   ·exact hb
   ·exact absurd (Pc hb) z
theorem HE {l:W.OpenLaw} {n k:Nat} {q:Program} {loose:List Str} {XP:(Str -> Option Value) -> Heap -> Prop} {YP:World -> Heap -> Prop} {d:DefRec} {K:Params -> W.Frag} {CX:World -> CXT} {sp:World -> Sp} {x:Str}
  (hn:l.most = some n) (hn2:n <= sizeLine) (hdf:d.params.defaults = []) (hr:Room k callerA)
  (hY:∀ (w:World) (h:Heap),YP w h -> (K w.params).In h)
  (F:∀ (w:World) (mg:Str -> Option Value) (fa:Addr) (h:Heap),(K w.params).In h -> h.Ns mainGlobals mg -> mg d.name = some (.ref fa) ->
   ∃ fd:FuncData,(∀ (s:Shared) (u:Value),BindsTo s fd ⟨[u],[]⟩ [(x,u)]) /\
    ∀ base:Heap,(K w.params).In base -> base.Ns mainGlobals mg -> FnOk l.prog w (K w.params) mg base (CX w) k fa fd [x] (sp w))
  (hsp:∀ (w:World) (H:Hp) (a:Addr) (ns:List Int),ns.length <= n -> Lb H -> SqL (K w.params) H a (ns.map V.int) -> sp w [.ref a] H (fun v _=>v = .bl true) fun _ _ _=>False)
  (hCX:∀ (w:World) (H:Hp) (s:Shared) (e:Value) (s':Shared),CX w [] H s (fun _ _ _=>False) e s' -> False) :
  W.WalkO q loose XP YP l.row.toRowW d [] (fun f vs=>PySem.call f vs):=by
 refine Att.zW hn hdf fun w s₀ s₁ mg mb fa o pm cd doc a vs ns G Y ho hd hcd hmg hobj hints hlen hg=>?_
 have KX:=hY w _ Y
 obtain ⟨fd,hb,hF⟩:=F w mg fa _ KX G.T.g hmg
 exact FK KX G.T.g G.T.b G.T.builtins G.T.nolimit hg hobj hints (PR hlen hn2) hr hF hb (fun H hO hS=>hsp w H a ns hlen hO hS) fun H e s'=>hCX w H s₁ e s'
def kY (s:Stmt) (j:Nat):Stmt:=match s with
 | .ClassDef _ _ _ body _ _ _ _ _ _ _=>body.getD j (.Pass ⟨0,0,0,0⟩)
 | _=>.Pass ⟨0,0,0,0⟩
def uf (s:Stmt):Arguments:=match s with
 | .FunctionDef _ a _ _ _ _ _ _ _ _=>a
 | _=>{ posonlyargs:=[],args:=[],vararg:=none,kwonlyargs:=[],kw_defaults:=[],kwarg:=none,defaults:=[] }
def kT (s:Stmt):List Stmt:=match s with
 | .FunctionDef _ _ b _ _ _ _ _ _ _=>b
 | _=>[]
def aG (s:Stmt):Scope:=match s with
 | .FunctionDef _ _ _ _ _ _ sc _ _ _=>sc
 | _=>{ kind:=.function,names:=[],isGenerator:=false,isCoroutine:=false }
abbrev CX0:CXT:=fun _ _ _ _ _ _=>False
abbrev E0:XK:=fun _ _ _=>False
theorem fM {X:Cx}:me CX0 X E0:=fun _ _ _ _ _ _ _ h=>h.elim
structure Fun (K:W.Frag) (x qual:Str) (st:Stmt) (f:Addr) (fd:FuncData):Prop where
 ex:∃ (oc:Value) (od:Option Addr) (kV doc pm:Value) (an:Option Addr) (cdv ct:Value) (osl:Array (Option Value)),
  fd = W.fnOf x qual (uf st) (kT st) (aG st) .none kV doc pm an cdv ct /\ K.lookup f = some ⟨oc,od,.func fd,osl⟩ /\ W.codeIn K cdv qual = true
 kp:W.keepIn K (.ref f) = true
section
variable {P:Program} {w:World} {K:W.Frag} {mg:Str -> Option Value} {base:Heap}
theorem Fun.ok {x qual:Str} {st:Stmt} {f:Addr} {fd:FuncData} {N ps:List Str} {k:Nat} {sp:Sp} (F:Fun K x qual st f fd) (S:FnScope N ps (aG st)) (len:∀ vs H Q E,sp vs H Q E -> vs.length = ps.length)
  (hbody:∀ (cdv:Value) (A:Around) (outer:List Env) (s:Shared) (H:Hp) (vs:List V) (Q:VK) (E:XK),Room k (A.deeper (envOfC qual (aG st) s.heap.objs.size f cdv)) -> sp vs H Q E ->
   ∃ t,PSs (rH CX0 P w K mg base N qual (aG st) f cdv A outer s H E).nox (kT st) t /\ t { nx:=fun _ H'=>Q .non H',rt:=Q } (aV N vs) H):FnOk P w K mg base CX0 (k + 1) f fd ps sp:=by
 obtain ⟨oc,od,kV,doc,pm,an,cdv,ct,osl,rfl,lk,hcd⟩:=F.ex
 refine Ja lk hcd S len fun A outer s H vs Q E hr hsp=>?_
 obtain ⟨t,h,q⟩:=hbody cdv A outer s H vs Q E hr hsp
 exact ⟨t,h.nox,q⟩
theorem Fun.binds {x qual:Str} {st:Stmt} {f:Addr} {fd:FuncData} {ps:List Str} (F:Fun K x qual st f fd)
  (h:∀ (kV doc pm:Value) (an:Option Addr) (cdv ct:Value) (us:List Value),us.length = ps.length -> bindArgs (W.fnOf x qual (uf st) (kT st) (aG st) .none kV doc pm an cdv ct) ⟨us,[]⟩ = pure (ps.zip us)):Binds K fd ps []:=by
 obtain ⟨oc,od,kV,doc,pm,an,cdv,ct,osl,rfl,lk,hcd⟩:=F.ex
 exact .all (h kV doc pm an cdv ct)
theorem JC {x qual:Str} {st:Stmt} {f:Addr} {oc:Value} {od an:Option Addr} {osl:Array (Option Value)} {kV doc pm cdv ct:Value} (l:K.lookup f = some ⟨oc,od,.func (W.fnOf x qual (uf st) (kT st) (aG st) .none kV doc pm an cdv ct),osl⟩)
  (c:W.codeIn K cdv qual = true) (k:W.keepIn K (.ref f) = true):Fun K x qual st f (W.fnOf x qual (uf st) (kT st) (aG st) .none kV doc pm an cdv ct):=⟨⟨oc,od,kV,doc,pm,an,cdv,ct,osl,rfl,l,c⟩,k⟩
end
section
variable {X:Cx}
theorem pv (i:Nat) {x:Str} {pos:Pos} (hN:X.N[i]? = some x:=by rfl) (hv:Vis X.env.scope x:=by first | exact Or.inl rfl | exact Or.inr (.inl rfl) | exact Or.inr (.inr rfl)) (hd:(x == ("__debug__" : Str)) = false:=by decide)
  (hcd:(x == ("__classdict__" : Str)) = false:=by decide):PE X (.Name x pos) (pb i):=Kx hN hv hd hcd
end
theorem Cd {A B:Prop} (h:B):if false = true then A else B:=by
 rw [Pc QU]
 exact h
theorem BA {A B:Prop} (h:A):if true = true then A else B:=by
 rw [Pb rfl]
 exact h
def Same (H H':Hp):Prop:=∀ b o,H b = some o -> H' b = some o
theorem Same.refl (H:Hp):Same H H:=fun _ _ h=>h
theorem Same.trans {H H1 H2:Hp} (a:Same H H1) (b:Same H1 H2):Same H H2:=fun c o h=>b c o (a c o h)
theorem Same.free {H H':Hp} (e:Same H H') {l:Addr} (h:H' l = Option.none):H l = Option.none:=by
 cases q:H l with
 | none=>rfl
 | some o=>
  rw [e l o q] at h
  cases h
end L2
set_option linter.all false
set_option maxHeartbeats 4000000
set_option maxRecDepth 100000
namespace L2
open PySem PySem.Spec PyProof.Rows
structure CmpOk (XN:List Str) (sc scope:Scope) (N:List Str) (js:List (Option Nat)):Prop where
 kind:scope.kind = .function
 cell:∀ y ∈ scope.names,y.2 ≠ .cell
 free:∀ y ∈ scope.names,y.2 = .free -> sc.names.lookup y.1 = some .cell \/ sc.names.lookup y.1 = some .free
 loc:∀ y ∈ scope.names,y.2 = .local -> scope.names.lookup y.1 = some .local
 len:js.length = N.length
 ix:((N.zip js).all fun p=>match p.2 with | none=>true | some j=>decide (XN[j]? = some p.1) && decide (scope.names.lookup p.1 = some .free)) = true
def gH (env:Env):List (Str × NameKind) -> List (Str × Addr) -> List (Str × Addr)
 | [],cs=>cs
 | (n,k) :: r,cs=>gH env r (if k = .free then (match env.cells.lookup n with | some c=>(n,c) :: cs | none=>cs) else cs)
theorem wl {env:Env}:∀ {names:List (Str × NameKind)} {cs:List (Str × Addr)},(∀ n c,cs.lookup n = some c -> env.cells.lookup n = some c) -> ∀ n c,(gH env names cs).lookup n = some c -> env.cells.lookup n = some c
 | [],_,h=>h
 | (m,k) :: r,cs,h=>by
  unfold gH
  refine wl ?_
  split
  ·cases e:env.cells.lookup m with
   | none=>exact h
   | some d=>
    intro n c hn
    dsimp only at hn
    rw [P5] at hn
    cases q:n == m with
    | true=>
     rw [q] at hn
     have e1:n = m:=by simpa using q
     cases hn
     rw [e1];exact e
    | false=>rw [q] at hn;exact h n c hn
  ·exact h
theorem vB {env:Env}:∀ {names:List (Str × NameKind)} {cs:List (Str × Addr)} {n:Str},((n,NameKind.free) ∈ names /\ (∃ c,env.cells.lookup n = some c)) \/ (∃ c,cs.lookup n = some c) -> ∃ c,(gH env names cs).lookup n = some c
 | [],_,_,h=>h.elim (fun z=>by cases z.1) id
 | (m,k) :: r,cs,n,h=>by
  unfold gH
  refine vB ?_
  rcases h with ⟨hm,c,hc⟩ | ⟨c,hc⟩
  ·rcases Pq.mp hm with e | hm
   ·cases e
    right
    rw [Pb rfl,hc]
    exact ⟨c,by rw [P5];simp⟩
   ·exact .inl ⟨hm,c,hc⟩
  ·right
   split
   ·cases e:env.cells.lookup m with
    | none=>exact ⟨c,hc⟩
    | some d=>
     dsimp only
     rw [P5]
     cases q:n == m with
     | true=>exact ⟨d,rfl⟩
     | false=>exact ⟨c,hc⟩
   ·exact ⟨c,hc⟩
theorem o3 {env:Env} {scope:Scope} (h:∀ y ∈ scope.names,y.2 = .free -> ∃ c,env.cells.lookup y.1 = some c):closureFor scope env = pure (gH env scope.names []):=by
 have key:∀ (names:List (Str × NameKind)) (cs:List (Str × Addr)),(∀ y ∈ names,y.2 = .free -> ∃ c,env.cells.lookup y.1 = some c) ->
   (forIn names cs (fun (x:Str × NameKind) r=>if (x.2 == NameKind.free) = true then (do let a ← cellOf env x.1;pure (ForInStep.yield ((x.1,a) :: r))) else pure (ForInStep.yield r)):Sem (List (Str × Addr))) = pure (gH env names cs):=by
  intro names
  induction names with
  | nil=>intro cs _;rfl
  | cons y r ih=>
   intro cs hy
   obtain ⟨n,k⟩:=y
   rw [List.forIn_cons]
   unfold gH
   by_cases hk:k = .free
   ·subst hk
    obtain ⟨c,hc⟩:=hy _ Pm rfl
    have e1:cellOf env n = pure c:=by unfold cellOf;rw [hc]
    rw [Pb (by rfl)]
    rw [Pb rfl,hc]
    show ((cellOf env n >>= fun a=>pure (ForInStep.yield ((n,a) :: cs))) >>= _) = _
    rw [e1]
    exact ih _ fun z hz=>hy z (Po _ hz)
   ·have hb:(k == NameKind.free) = false:=by simpa using hk
    rw [Pc (by rw [hb];decide),Pc hk]
    exact ih _ fun z hz=>hy z (Po _ hz)
 have k:=key scope.names [] h
 unfold closureFor
 show (forIn scope.names ([]:List (Str × Addr)) _ >>= fun cs=>pure cs) = _
 refine Eq.trans (PQ (fun t=>t >>= fun cs=>pure cs) (Eq.trans ?_ k)) rfl
 congr 1
theorem pd {env:Env}:∀ {names:List (Str × NameKind)} {x:Str},names.lookup x = some .free ->
  (names.map fun (n,k)=>if (k == NameKind.free && env.scope.kind == .function && env.kindOf n == some .cell) then (n,NameKind.cell) else (n,k)).lookup x = some .cell \/
  (names.map fun (n,k)=>if (k == NameKind.free && env.scope.kind == .function && env.kindOf n == some .cell) then (n,NameKind.cell) else (n,k)).lookup x = some .free
 | [],_,h=>by simp at h
 | (n,k) :: r,x,h=>by
  have ih:=@pd env r x
  rw [Px]
  dsimp only
  cases q:x == n with
  | true=>
   rw [P5,q] at h
   cases h
   split
   ·left;rw [P5,q]
   ·right;rw [P5,q]
  | false=>
   rw [P5,q] at h
   split
   ·rw [P5,q];exact ih h
   ·rw [P5,q];exact ih h
theorem pp {env:Env}:∀ {names:List (Str × NameKind)} {x:Str} {j:NameKind},(∀ y ∈ names,y.2 ≠ .cell) -> (j = .cell \/ j = .free) ->
  (names.map fun (n,k)=>if (k == NameKind.free && env.scope.kind == .function && env.kindOf n == some .cell) then (n,NameKind.cell) else (n,k)).lookup x = some j -> (x,NameKind.free) ∈ names
 | [],_,_,_,_,h=>by simp at h
 | (n,k) :: r,x,j,hc,hj,h=>by
  have ih:=@pp env r x j (fun y hy=>hc y (Po _ hy)) hj
  rw [Px] at h
  dsimp only at h
  cases q:x == n with
  | true=>
   have e:x = n:=by simpa using q
   subst e
   split at h
   ·rename_i g
    have:k = .free:=by
     simp only [Qh,Qf] at g
     exact g.1.1
    subst this
    exact Pm
   ·rw [P5,q] at h
    cases h
    rcases hj with z | z
    ·exact absurd z (hc _ Pm)
    ·rw [z];exact Pm
  | false=>
   refine Po _ (ih ?_)
   split at h
   ·rw [P5,q] at h;exact h
   ·rw [P5,q] at h;exact h
def inn (js:List (Option Nat)) (σ:St):St:=js.map fun o=>match o with | none=>none | some j=>(σ[j]?).join
structure CxZ where
 cl:List (Str × Addr)
 C:Addr
 s:Shared
 H:Hp
 fp:List Addr
 pins:List (Addr × Obj)
def cxC (X:Cx) (N:List Str) (scope:Scope) (z:CxZ):Cx where
 prog:=X.prog
 w:=X.w
 K:=X.K
 mg:=X.mg
 base:=X.base
 A:=X.A
 N:=N
 s₀:=z.s
 H₀:=z.H
 env:=compEnvC scope z.cl z.C X.env
 outer:=X.stack
 stack:=X.stack
 ex:=z.fp
 fn:=fun _=>false
 calm:=X.calm
 pn:=X.pn ++ z.pins
 xe:=fun _ _=>False
section
variable {X:Cx} {pins:List (Addr × Obj)} {σ:St} {H:Hp} {s:Shared} {XN N:List Str} {sc scope:Scope} {js:List (Option Nat)}
theorem FC {h1:Heap} {m:Str -> Option Value} {tk:Nat} {fp:List Addr} (ck:CmpOk XN sc scope N js) (hXN:X.N = XN) (hsc:X.env.scope = sc) (I:Inv X pins σ H s) (hf:∀ b ∈ fp,qE X pins H b)
  (hfo:∀ b ∈ fp,b < s.heap.objs.size) (hn:h1.Ns s.heap.objs.size m) (hk:∀ b o,s.heap.get? b = some o -> h1.get? b = some o) :
  Inv (cxC X N scope ⟨gH X.env scope.names [],s.heap.objs.size,s,H,fp,pins⟩) [] (inn js σ) H { s with heap:=h1,toks:=tk }:=by
 subst hXN hsc
 have sub:∀ n c,(gH X.env scope.names []).lookup n = some c -> X.env.cells.lookup n = some c:=wl fun n c h=>by simp at h
 have clt:∀ n c,(gH X.env scope.names []).lookup n = some c -> c < s.heap.objs.size:=fun n c h=>by
  obtain ⟨v,q⟩:=I.cell n c (sub n c h)
  exact q.lt
 have has:∀ x,(x,NameKind.free) ∈ scope.names -> ∃ c,(gH X.env scope.names []).lookup x = some c:=fun x hx=>
  vB (.inl ⟨hx,I.ok.has x (ck.free _ hx rfl)⟩)
 refine ⟨⟨I.ok.mod,ck.kind,I.ok.glob,I.ok.blt,Pj _,fun x y c h1 h2=>I.ok.inj x y c (sub x c h1) (sub y c h2),fun x hx=>?has,fun x c hx=>?cab,I.ok.hd,I.ok.frames,.inl rfl,fun b hb=>?exf,I.bs,?bsz,fun b o e hb=>?noex,fun b hb=>?exfs,I.stack,I.stkFree⟩,
  rfl,I.bare,Un.kept hk,⟨m,hn,fun i x v h1 h2 h3=>?loc⟩,fun x c h=>?cell,I.hok.fresh (Pj _),fun x c h=>I.freeC x c (sub x c h),fun p hp=>?pin,I.hok.kept hk,?len⟩
 case has=>
  rcases hx with hx | hx
  ·exact has x (pp ck.cell (.inl rfl) hx)
  ·exact has x (pp ck.cell (.inr rfl) hx)
 case cab=>cases hx
 case exf=>
  obtain ⟨f0,f1,f2,f3,f4,f5⟩:=hf b hb
  exact ⟨PD (hfo b hb),fun x c e=>f4 x c (sub x c e)⟩
 case bsz=>exact PR I.ok.bsz I.sz
 case noex=>
  obtain ⟨f0,f1,f2,f3,f4,f5⟩:=hf b hb
  rcases f3 with f3 | f3
  ·exact I.ok.noex b o e f3
  ·exact absurd (PY (Pv e) (PR I.ok.bsz f3)) (QB _)
 case exfs=>
  obtain ⟨f0,f1,f2,f3,f4,f5⟩:=hf b hb
  intro z
  rcases Pq.mp (I.stkSub b z) with e | e
  ·exact f1 e
  ·exact f2 e
 case loc=>
  have hl:N.length = js.length:=ck.len.symm
  have hi:i < js.length:=by
   have:=(PF.mp h1).1
   have e:(cxC X N scope ⟨gH X.env scope.names [],s.heap.objs.size,s,H,fp,pins⟩).N = N:=rfl
   rw [e] at this
   lia
  have hN:N[i]? = some x:=h1
  have hj:js[i]? = some js[i]:=Qi hi
  unfold inn at h2
  rw [PN,hj] at h2
  cases q:js[i] with
  | none=>rw [q] at h2;cases h2
  | some j=>
   rw [q] at h2 hj
   have h2':(σ[j]?).join = some v:=P6 h2
   have hσ:σ[j]? = some (some v):=by
    cases e:σ[j]? with
    | none=>rw [e] at h2';cases h2'
    | some o=>rw [e] at h2';exact PQ some h2'
   have hm:(x,some j) ∈ N.zip js:=by
    refine QW (i:=i) ?_
    rw [List.getElem?_zip_eq_some]
    exact ⟨hN,hj⟩
   have hc:=List.all_eq_true.mp ck.ix _ hm
   simp only [Qh,decide_eq_true_eq] at hc
   obtain ⟨c1,c2⟩:=hc
   have hfr:(x,NameKind.free) ∈ scope.names:=QV c2
   have hvis:X.env.scope.names.lookup x = some .cell \/ X.env.scope.names.lookup x = some .free:=ck.free _ hfr rfl
   obtain ⟨m0,hn0,hl0⟩:=I.loc
   obtain ⟨u,r,l⟩:=hl0 j x v c1 hσ (hvis.elim (fun z=>.inr (.inl z)) fun z=>.inr (.inr z))
   refine ⟨u,r,.inr ⟨?_,?_⟩⟩
   ·exact pd c2
   ·rcases l with ⟨k1,_⟩ | ⟨_,c,k1,k2⟩
    ·have k1':X.env.scope.names.lookup x = some .local:=k1
     rcases hvis with z | z
     ·rw [z] at k1';cases k1'
     ·rw [z] at k1';cases k1'
    ·obtain ⟨c',hc'⟩:=has x hfr
     have e:=sub x c' hc'
     rw [k1] at e
     cases e
     obtain ⟨oc,ho,hd⟩:=k2
     exact ⟨c,hc',oc,hk _ _ ho,hd⟩
 case cell=>
  obtain ⟨v,oc,ho,hd⟩:=I.cell x c (sub x c h)
  exact ⟨v,oc,hk _ _ ho,hd⟩
 case pin=>
  have hp':p ∈ X.pn ++ pins:=by simpa [cxC] using hp
  obtain ⟨p1,p2,p3,p4,p5⟩:=I.pin p hp'
  refine ⟨hk _ _ p1,p2,PD (Pv p1),fun z=>?_,p5⟩
  rcases Pq.mp (I.stkSub _ z) with e | e
  ·exact p3 e
  ·exact p4 e
 case len=>
  show (inn js σ).length = N.length
  unfold inn
  rw [Ph]
  exact ck.len
abbrev TIf:=St -> Hp -> (Bool -> Hp -> Prop) -> Prop
def PIf (X:Cx) (ifs:List Expr) (t:TIf):Prop:=
 ∀ (pins:List (Addr × Obj)) (s:Shared) (σ:St) (H:Hp) (Q:Bool -> Hp -> Prop),Inv X pins σ H s -> t σ H Q ->
  wpAny (model X.prog X.w) X.A (forIn ifs true fun c r=>if r = true then do let ok ← isTrue c X.env (eval c X.env);pure (ForInStep.yield ok) else pure (ForInStep.yield r)) (TP X pins σ Q) X.xe s
def IU:TIf:=fun _ H Q=>Q true H
theorem bX:PIf X [] IU:=fun _ _ _ H _ I h=>wpAny_tests_nil ⟨H,I,h⟩
theorem qF {c:Expr} {t:TT} (h:PT X c t):PIf X [c] t:=fun pins s σ H Q I q=>wpAny_tests_one (h pins s σ H Q I q)
def Lev (σ σ':St):Prop:=σ.length = σ'.length /\ ∀ (i:Nat) (v:V),σ[i]? = some (some v) -> σ'[i]? = some (some v)
theorem Lev.refl (σ:St):Lev σ σ:=⟨rfl,fun _ _ h=>h⟩
def wO (js:List (Option Nat)) (g:TG):Prop:=∀ (σ0:St) (v:V) (σ:St) (H:Hp) (Q:St -> Hp -> Prop),Lev (inn js σ0) σ -> g v σ H Q -> g v σ H fun σ' H'=>Lev (inn js σ0) σ' /\ Q σ' H'
def Di (js:List (Option Nat)) (g:TGs):Prop:=∀ (σ0:St) (vs:List V) (σ:St) (H:Hp) (Q:St -> Hp -> Prop),Lev (inn js σ0) σ -> g vs σ H Q -> g vs σ H fun σ' H'=>Lev (inn js σ0) σ' /\ Q σ' H'
theorem aJ {i:Nat} (h:js[i]? = some none:=by rfl):wO js (ir i):=fun σ0 v σ H Q l q=>by
 refine ⟨⟨?_,fun j u e=>?_⟩,q⟩
 ·rw [Qg];exact l.1
 ·by_cases hij:i = j
  ·subst hij
   unfold inn at e
   rw [PN,h] at e
   cases e
  ·rw [P1 hij]
   exact l.2 j u e
theorem ci:Di js KI:=fun σ0 vs σ H Q l q=>⟨q.1,l,q.2⟩
theorem aI {t:TG} {u:TGs} (h:wO js t) (k:Di js u) (mono:∀ v σ H (Q Q':St -> Hp -> Prop),(∀ a b,Q a b -> Q' a b) -> t v σ H Q -> t v σ H Q'):Di js (Ga t u):=fun σ0 vs σ H Q l q=>by
 obtain ⟨v,r,e,q⟩:=q
 exact ⟨v,r,e,mono _ _ _ _ _ (fun σ' H' z=>k σ0 r σ' H' Q z.1 z.2) (h σ0 v σ H _ l q)⟩
theorem aA {i:Nat}:∀ v σ H (Q Q':St -> Hp -> Prop),(∀ a b,Q a b -> Q' a b) -> ir i v σ H Q -> ir i v σ H Q':=fun _ _ _ _ _ h q=>h _ _ q
theorem d6 {K:W.Frag} {n:Nat} {t:TGs} (h:Di js t):wO js (J4 K n t):=fun σ0 v σ H Q l q=>by
 obtain ⟨a,xs,e,hq,hl,q⟩:=q
 exact ⟨a,xs,e,hq,hl,h σ0 xs σ H Q l q⟩
def CT (js:List (Option Nat)) (wi:TI) (g:TG) (tt:TIf) (te:TE):TE:=fun σ H Q=>wi σ H fun J H1=>∀ D,H1 D = none -> ∃ W:Nat -> Nat -> Hp -> Prop,(∃ m,W 0 m (upd H1 D (.lst []))) /\ ∀ i m H,W i m H ->
 (J.stop i H /\ Q (.ref D) H) \/ (J.go i H /\ ∀ x H',J.yld i H x H' -> g x (inn js σ) H' fun σ2 H2=>tt σ2 H2 fun b H3=>
  if b = true then te σ2 H3 fun y H4=>∃ ys,H4 D = some (.lst ys) /\ ys.length < sizeLine /\ ∃ m',m' < m /\ W (i + 1) m' (upd H4 D (.lst (ys ++ [y]))) else ∃ m',m' < m /\ W (i + 1) m' H3)
variable {tg iter elt:Expr} {ifs:List Expr} {pos:Pos} {wi:TI} {g:TG} {tt:TIf} {te:TE}
theorem Eu {E:Value -> Shared -> Prop} {R:Result -> Shared -> Prop} {it D:Addr} {fp:List Addr} {tn:Nat -> Heap -> Prop} {J:It} {z:CxZ} {W:Nat -> Nat -> Hp -> Prop} {n:Nat}
  (hc:X.calm = true) (T:Turn X.prog X.w X.K tg J fp it tn) (hz:∀ b ∈ fp,∀ H',H' b = none -> qE (cxC X N scope z) [] H' b)
  (hg:PG (cxC X N scope z) tg g) (hs:wO js g) (ht:PIf (cxC X N scope z) ifs tt) (he:PE (cxC X N scope z) elt te)
  (turn:∀ i m H,W i m H -> (J.stop i H /\ ∀ s',Inv (cxC X N scope z) [] (inn js σ) H s' -> R (.ok .next) s') \/ (J.go i H /\ ∀ x H',J.yld i H x H' -> g x (inn js σ) H' fun σ2 H2=>tt σ2 H2 fun b H3=>
   if b = true then te σ2 H3 fun y H4=>∃ ys,H4 D = some (.lst ys) /\ ys.length < sizeLine /\ ∃ m',m' < m /\ W (i + 1) m' (upd H4 D (.lst (ys ++ [y]))) else ∃ m',m' < m /\ W (i + 1) m' H3))
  {s1:Shared} {H1:Hp} (I1:Inv (cxC X N scope z) [] (inn js σ) H1 s1) (t1:tn 0 s1.heap) (f1:∀ b ∈ fp,H1 b = none) (w1:W 0 n H1) :
  codeAny (model X.prog X.w) X.A (.compLoop (.ListComp elt [⟨tg,iter,ifs,0⟩] scope pos) 0 (.ref it) (.ref D) (compEnvC scope z.cl z.C X.env)) R s1:=by
 refine codeAny_loop (c:=.compLoop (.ListComp elt [⟨tg,iter,ifs,0⟩] scope pos) 0 (.ref it) (.ref D) (compEnvC scope z.cl z.C X.env)) rfl
  (fun k s'=>∃ i H',Inv (cxC X N scope z) [] (inn js σ) H' s' /\ tn i s'.heap /\ (∀ b ∈ fp,H' b = none) /\ W i k H') ?_ n ⟨0,H1,I1,t1,f1,w1⟩
 rintro k s2 ⟨i,H2,I2,t2,f2,w2⟩
 show wpAny (model X.prog X.w) X.A ((compTurn (.ListComp elt [⟨tg,iter,ifs,0⟩] scope pos) 0 (.ref it) (.ref D) (compEnvC scope z.cl z.C X.env)).onRaise fun x=>do noteFrame x (compEnvC scope z.cl z.C X.env);theTreesLotGoes x) _ _ s2
 refine wpAny_noted ?_
 rw [compTurn_list]
 refine Pg (wpAny_standAt ?_)
 rcases turn i k H2 w2 with ⟨stop,fin⟩ | ⟨go,step⟩
 ·refine Pg (thn (T.done (cxC X N scope z) rfl rfl rfl hc i [] s2 (inn js σ) H2 _ I2 (fun b hb=>hz b hb H2 (f2 b hb)) t2 stop) fun r s3 h3=>?_)
  obtain ⟨rfl,I3⟩:=h3
  exact Pl (fin s3 I3)
 ·refine Pg (thn (T.item (cxC X N scope z) rfl rfl rfl hc i [] s2 (inn js σ) H2 _ I2 (fun b hb=>hz b hb H2 (f2 b hb)) t2 go) fun r s3 h3=>?_)
  obtain ⟨u,rfl,h3⟩:=h3
  refine Pg (thn h3 fun _ s4 h4=>?_)
  obtain ⟨x,H4,I4,r4,y4,t4,f4⟩:=h4
  have P4:=I4.pinned (fun b hb=>hz b hb H4 (f4 b hb)) (T.obj _ _ t4)
  have ff:∀ {e:Value} {s':Shared},(cxC X N scope z).xe e s' -> False:=fun h=>h
  refine Pg (P9 (hg _ s4 (inn js σ) H4 x u _ P4 r4 (hs σ x (inn js σ) H4 _ (Lev.refl _) (step x H4 y4))) (fun _ s5 h5=>?_) fun _ _ h=>(ff h).elim)
  obtain ⟨σ5,H5,I5,lev,q5⟩:=h5
  refine Pg (P9 (ht _ s5 σ5 H5 _ I5 q5) (fun ok s6 h6=>?_) fun _ _ h=>(ff h).elim)
  obtain ⟨H6,I6,q6⟩:=h6
  have again:∀ {s7:Shared} {H7:Hp},Inv (cxC X N scope z) ([] ++ sj fp s4.heap) σ5 H7 s7 -> (∃ m',m' < k /\ W (i + 1) m' H7) -> ∃ m,m < k /\ ∃ i H',Inv (cxC X N scope z) [] (inn js σ) H' s7 /\ tn i s7.heap /\ (∀ b ∈ fp,H' b = none) /\ W i m H':=fun {s7 H7} I7 h7=>by
   obtain ⟨m',hm,w7⟩:=h7
   refine ⟨m',hm,i + 1,H7,(I7.unpinned).weak lev.1 lev.2,T.keep _ _ _ t4 fun b hb o e=>(I7.pin (b,o) (Pr _ (Pr _ (gG hb e)))).1,fun b hb=>?_,w7⟩
   obtain ⟨o,e,d⟩:=T.obj _ _ t4 b hb
   exact (I7.pin (b,o) (Pr _ (Pr _ (gG hb e)))).2.1
  cases ok with
  | false=>
   rw [Pc (by decide)] at q6
   exact Pl ⟨rfl,again I6 q6⟩
  | true=>
   rw [Pb rfl] at q6
   refine Pg (Pg (P9 (he _ s6 σ5 H6 _ I6 q6) (fun y s7 h7=>?_) fun _ _ h=>(ff h).elim))
   obtain ⟨vy,H7,I7,r7,ys,hD,hl,q7⟩:=h7
   refine Pg (P9 (fK (X:=cxC X N scope z) _ s7 σ5 H7 (.ref D) [vy] (.ref D) [y] (fun _ H'=>∃ m',m' < k /\ W (i + 1) m' H') I7 rfl (.cons r7 .nil) ⟨D,ys,vy,rfl,rfl,hD,hl,q7⟩) (fun _ s8 h8=>?_) fun _ _ h=>(ff h).elim)
   obtain ⟨_,H8,I8,_,q8⟩:=h8
   exact Pl (Pl ⟨rfl,again I8 q8⟩)
theorem vE {E:Value -> Shared -> Prop} {RR:Value -> Addr -> Result -> Shared -> Prop} {Q:VK} {itv:Value} {s2:Shared} (ck:CmpOk XN sc scope N js) (hXN:X.N = XN) (hsc:X.env.scope = sc) (hc:X.calm = true)
  (hg:∀ z,PG (cxC X N scope z) tg g) (hs:wO js g) (ht:∀ z,PIf (cxC X N scope z) ifs tt) (he:∀ z,PE (cxC X N scope z) elt te)
  (h2:PIE X pins σ tg (fun J H1=>∀ D,H1 D = none -> ∃ W:Nat -> Nat -> Hp -> Prop,(∃ m,W 0 m (upd H1 D (.lst []))) /\ ∀ i m H,W i m H ->
   (J.stop i H /\ Q (.ref D) H) \/ (J.go i H /\ ∀ x H',J.yld i H x H' -> g x (inn js σ) H' fun σ2 H2=>tt σ2 H2 fun b H3=>
    if b = true then te σ2 H3 fun y H4=>∃ ys,H4 D = some (.lst ys) /\ ys.length < sizeLine /\ ∃ m',m' < m /\ W (i + 1) m' (upd H4 D (.lst (ys ++ [y]))) else ∃ m',m' < m /\ W (i + 1) m' H3)) itv s2)
  (hRR:∀ D C s' H' m o,Inv X (pins ++ [(C,o)]) σ H' s' -> s'.heap.Ns C m -> (X.s₀.heap.objs.size <= C /\ C ≠ X.env.locals /\ (∀ x c,X.env.cells.lookup x = some c -> c ≠ C) /\ ∀ p ∈ X.pn ++ pins,p.1 ≠ C) -> H' C = none -> Q (.ref D) H' -> RR (.ref D) C (.ok .next) s') :
  wpAny (model X.prog X.w) X.A (newList []) (fun acc s₃=>wpAny (model X.prog X.w) X.A (newFunctionEnv scope X.env.globals (gH X.env scope.names []) [] X.env.qual none .none (some X.env)) (fun cenv s₄=>
   codeAny (model X.prog X.w) X.A (.compStart (.ListComp elt [⟨tg,iter,ifs,0⟩] scope pos) 0 itv acc { cenv with scope:=relabel scope X.env }) (RR acc cenv.locals) s₄) E s₃) E s2:=by
 obtain ⟨it,fp,tn,J,H2,rfl,I2,T,t2,f2,q2⟩:=h2
 have fo:∀ b ∈ fp,b < s2.heap.objs.size:=fun b hb=>by
  obtain ⟨o,e,_⟩:=T.obj _ _ t2 b hb
  exact Pv e
 have hD:H2 s2.heap.objs.size = none:=I2.fresh
 obtain ⟨W,⟨n,w0⟩,turn⟩:=q2 _ hD
 refine Qr (wpAny_newFunctionEnv ck.cell (by intro y hy;simp at hy) (fun h1 hns hsb=>?_) ck.kind)
 have I3:Inv X pins σ (upd H2 s2.heap.objs.size (.lst [])) { s2 with heap:=s2.heap.push { cls:=.type "list",data:=.seq ([]:List Value).toArray },toks:=s2.toks }:=I2.lnew (its:=[]) .nil (P8 _)
 have f3:∀ b ∈ fp,qE X pins (upd H2 s2.heap.objs.size (.lst [])) b:=fun b hb=>by
  obtain ⟨g0,g1⟩:=f2 b hb
  exact ⟨by rw [aP (PD (fo b hb))];exact g0,g1⟩
 have sz:(s2.heap.push { cls:=.type "list",data:=.seq ([]:List Value).toArray }).objs.size = s2.heap.objs.size + 1:=QI _ _
 have kept:∀ b o,(s2.heap.push { cls:=.type "list",data:=.seq ([]:List Value).toArray }).get? b = some o -> h1.get? b = some o:=fun b o e=>
  hsb.extBut b o (PD (Pv e)) (Pz _ e)
 have I4:=FC (tk:=s2.toks + ([]:List (Str × Value)).length) ck hXN hsc I3 f3 (fun b hb=>by show b < (s2.heap.push _).objs.size;rw [sz];exact Rp (fo b hb)) hns kept
 have t4:tn 0 h1:=T.keep _ _ _ t2 fun b hb o e=>kept b o (Pz _ e)
 have fz:∀ b ∈ fp,∀ H',H' b = none -> qE (cxC X N scope ⟨gH X.env scope.names [],(s2.heap.push { cls:=.type "list",data:=.seq ([]:List Value).toArray }).objs.size,{ s2 with heap:=s2.heap.push { cls:=.type "list",data:=.seq ([]:List Value).toArray },toks:=s2.toks },upd H2 s2.heap.objs.size (.lst []),fp,pins⟩) [] H' b:=fun b hb H' hn=>by
  obtain ⟨g0,g1,g2,g3,g4,g5⟩:=f3 b hb
  refine ⟨hn,(I4.ok.exf b hb).1,I4.ok.exfs b hb,.inl hb,(I4.ok.exf b hb).2,fun p hp=>?_⟩
  exact g5 p (by simpa [cxC] using hp)
 have loop:=Eu (X:=X) (σ:=σ) (N:=N) (scope:=scope) (js:=js) (iter:=iter) (pos:=pos) (E:=E) (R:=RR (.ref s2.heap.objs.size) (s2.heap.push { cls:=.type "list",data:=.seq ([]:List Value).toArray }).objs.size) (D:=s2.heap.objs.size) (W:=W) (n:=n)
  hc T fz (hg _) hs (ht _) (he _) (fun i m H w=>(turn i m H w).imp (fun a=>⟨a.1,fun s' Y=>?_⟩) id) I4 t4 (fun b hb=>(f3 b hb).1) w0
 ·exact codeAny_compStart_list loop (T.self _ 0 _ _ _ t4 loop)
 ·have bb:=Y.base
  have J0:Inv X pins σ H s':=I3.call' Y.os bb Y.hok Y.bare fun b hb=>by
   obtain ⟨g0,g1,g2,g3,g4,g5⟩:=f3 b hb
   exact ⟨g3,g1,g4,g5⟩
  obtain ⟨mC,nC,_⟩:=Y.loc
  obtain ⟨oC,eC,dC⟩:∃ o,s'.heap.get? (s2.heap.push { cls:=.type "list",data:=.seq ([]:List Value).toArray }).objs.size = some o /\ ∀ v,o.data ≠ .cell v:=by
   obtain ⟨o,es,ep,ho,hd,_⟩:=nC
   exact ⟨o,ho,fun v z=>by rw [hd] at z;cases z⟩
  have lC:X.s₀.heap.objs.size <= (s2.heap.push { cls:=.type "list",data:=.seq ([]:List Value).toArray }).objs.size:=I3.sz
  have cC:(s2.heap.push { cls:=.type "list",data:=.seq ([]:List Value).toArray }).objs.size ≠ X.env.locals:=Nat.ne_of_gt I3.lt
  have kC:∀ x c,X.env.cells.lookup x = some c -> c ≠ (s2.heap.push { cls:=.type "list",data:=.seq ([]:List Value).toArray }).objs.size:=fun x c e=>by
   obtain ⟨v,q⟩:=I3.cell x c e
   exact PD q.lt
  have pC:∀ p ∈ X.pn ++ pins,p.1 ≠ (s2.heap.push { cls:=.type "list",data:=.seq ([]:List Value).toArray }).objs.size:=fun p hp=>PD (Pv (I3.pin p hp).1)
  have J1:Inv X (pins ++ [((s2.heap.push { cls:=.type "list",data:=.seq ([]:List Value).toArray }).objs.size,oC)]) σ H s':=J0.pins_of fun p hp=>by
   rcases Pu.mp hp with hp | hp
   ·exact J0.pin p (Pr _ hp)
   ·rw [Pi.mp hp]
    exact ⟨eC,Y.free,cC,I3.nofs (Pj _),dC⟩
  exact hRR _ _ s' H mC oC J1 nC ⟨lC,cC,kC,pC⟩ Y.free a.2
theorem bI (ck:CmpOk XN sc scope N js) (hi:PI X tg iter wi) (hg:∀ z,PG (cxC X N scope z) tg g) (hs:wO js g) (ht:∀ z,PIf (cxC X N scope z) ifs tt) (he:∀ z,PE (cxC X N scope z) elt te)
  (hXN:X.N = XN:=by rfl) (hsc:X.env.scope = sc:=by rfl) (hc:X.calm = true:=by rfl) (hf:∀ x,foldedSetIterable iter X.env x = pure x:=by intro _;rfl) :
  PE X (.ListComp elt [⟨tg,iter,ifs,0⟩] scope pos) (CT js wi g tt te):=by
 intro pins s σ H Q I h
 rw [eval_ListComp]
 have hcl:closureFor scope X.env = pure (gH X.env scope.names []):=o3 fun y hy hk=>I.ok.has y.1 (by
  have:=ck.free y hy hk
  rw [<- hsc] at this
  exact this)
 refine R5 (use:=none) rfl hf hcl ck.kind ck.loc (thn (hi pins s σ H _ I h) fun v s1 h1=>thn h1 fun itv s2 h2=>?_)
 refine vE (RR:=fun acc C=>compPost (model X.prog X.w) X.A X.xe none (EP X pins σ Q) acc C) ck hXN hsc hc hg hs ht he h2 ?_
 intro D C s' H' m o J nC hC fC q
 refine ⟨m,nC,fun h' sb=>⟨.ref D,H',?_,rfl,q⟩⟩
 have J0:Inv X pins σ H' s':=J.unpinned
 exact J0.turned (t':=s'.toks) (it:=C) (fun b o hb e=>sb.extBut b o hb e) fC hC.2.1 (.inr hC.1) hC.2.2.1 hC.2.2.2
theorem IA {i:Nat} {y:Str} {pos' spos:Pos} (ck:CmpOk XN sc scope N js) (hN:X.N.Nodup) (hi0:X.N[i]? = some y) (hx:Loc X.env.scope y) (hi:PI X tg iter wi) (hg:∀ z,PG (cxC X N scope z) tg g) (hs:wO js g) (ht:∀ z,PIf (cxC X N scope z) ifs tt) (he:∀ z,PE (cxC X N scope z) elt te)
  (hsw:swapsWith (.ListComp elt [⟨tg,iter,ifs,0⟩] scope pos) (some (.Name y pos')) spos.line X.env = pure true:=by rfl)
  (hXN:X.N = XN:=by rfl) (hsc:X.env.scope = sc:=by rfl) (hc:X.calm = true:=by rfl) (hf:∀ x,foldedSetIterable iter X.env x = pure x:=by intro _;rfl)
  (hfn:X.fn y = true \/ X.env.scope.names.lookup y = some .local:=by first | exact .inl rfl | exact .inr rfl | assumption) :
  PS X (.Assign [.Name y pos'] (.ListComp elt [⟨tg,iter,ifs,0⟩] scope pos) spos) (vO (CT js wi g tt te) (ir i)):=by
 intro pins s σ H D I h
 rw [exec_Assign_Name_used _ _ _ _ hsw]
 have hcl:closureFor scope X.env = pure (gH X.env scope.names []):=o3 fun y hy hk=>I.ok.has y.1 (by
  have:=ck.free y hy hk
  rw [<- hsc] at this
  exact this)
 refine Pg (wpAny_standAt (Pg ?_))
 show wpAny (model X.prog X.w) X.A (comprehension (.ListComp elt [⟨tg,iter,ifs,0⟩] scope pos) scope X.env _ (newList []) false (eval iter X.env) (some (assign (.Name y pos') X.env)) >>= fun _=>pure ()) _ _ s
 refine Pg (thn (R5 (use:=some (assign (.Name y pos') X.env)) (Q:=fun _ s'=>SP X pins D .next s') rfl hf hcl ck.kind ck.loc (thn (hi pins s σ H _ I h) fun v s1 h1=>thn h1 fun itv s2 h2=>?_)) fun _ s' q=>Pl (Pl q))
 refine vE (RR:=fun acc C=>compPost (model X.prog X.w) X.A X.xe (some (assign (.Name y pos') X.env)) (fun _ s'=>SP X pins D .next s') acc C) (Q:=fun x H1=>ir i x σ H1 D.nx) ck hXN hsc hc hg hs ht he h2 ?_
 intro A C s' H' m o J nC hC fC q
 refine thn (p9 hN hi0 hx hfn _ s' σ H' (.ref A) (.ref A) _ J rfl q) fun _ s3 h3=>?_
 obtain ⟨σ3,H3,J3,q3⟩:=h3
 have pc:=J3.pin (C,o) (Pr _ (Pr _ Pm))
 have oC:s'.heap.get? C = some o:=(J.pin (C,o) (Pr _ (Pr _ Pm))).1
 refine ⟨m,nC.at' fun o' e=>?_,fun h' sb=>⟨σ3,H3,?_,q3⟩⟩
 ·rw [oC] at e
  cases e
  exact pc.1
 ·have J0:Inv X pins σ3 H3 s3:=J3.unpinned
  exact J0.turned (t':=s3.toks) (it:=C) (fun b o hb e=>sb.extBut b o hb e) pc.2.1 hC.2.1 (.inr hC.1) hC.2.2.1 hC.2.2.2
end
end L2
namespace Srt
open PySem PySem.W PyProof.Rows
section
variable {α β:Type} (lt:Nat -> Nat -> Bool) (n:Nat)
end
section
variable {lt:Nat -> Nat -> Bool} {le:Nat -> Nat -> Prop} {n:Nat} {p:Array Nat}
abbrev at' (p:Array Nat) (i:Nat):Nat:=p.getD i 0
theorem AD {p q:Array Nat} {i j:Nat} (h:p[i]? = q[j]?):at' p i = at' q j:=by
 have e:∀ (r:Array Nat) (k:Nat),at' r k = (r[k]?).getD 0:=fun r k=>by simp [at']
 rw [e,e,h]
def Asc (le:Nat -> Nat -> Prop) (p:Array Nat) (m:Nat):Prop:=∀ i j,i <= j -> j < m -> le (at' p i) (at' p j)
def Bel (n:Nat) (p:Array Nat):Prop:=∀ k,at' p k < n
structure Ord (lt:Nat -> Nat -> Bool) (le:Nat -> Nat -> Prop):Prop where
 tr:∀ a b c,le a b -> le b c -> le a c
 rf:∀ a,le a a
 yes:∀ a b,lt a b = true -> le a b
 no:∀ a b,lt a b = false -> le b a
theorem Ko (hn:0 < n) (hp:p.Perm (List.range n).toArray):Bel n p:=fun k=>by
 have e:at' p k = (p[k]?).getD 0:=by simp [at']
 rw [e]
 cases h:p[k]? with
 | none=>exact hn
 | some v=>
  have hm:v ∈ p:=Array.mem_of_getElem? h
  have:=(Rq.mp hp).mem_iff.mp (Array.mem_toList_iff.mpr hm)
  simpa using this
theorem cB {i j:Nat} (hj:j <= p.size) (k:Nat):at' (kas_rev p i j) k = if i <= k /\ k < j then at' p (i + j - 1 - k) else at' p k:=by
 have e:=getElem?_mirror_all (i:=i) hj k
 by_cases h:i <= k /\ k < j
 ·rw [Pb h] at e ⊢;exact AD e
 ·rw [Pc h] at e ⊢;exact AD e
variable {z:Nat}
theorem rX {src d:Nat} (hs:src < p.size) (hd:d <= src) (k:Nat):at' (bubble p src d) k = if k = src - d then at' p src else if src - d < k /\ k <= src then at' p (k - 1) else at' p k:=by
 have e:=getElem?_bubble hs d hd k
 by_cases h1:k = src - d
 ·rw [Pb h1] at e ⊢;exact AD e
 ·rw [Pc h1] at e ⊢
  by_cases h2:src - d < k /\ k <= src
  ·rw [Pb h2] at e ⊢;exact AD e
  ·rw [Pc h2] at e ⊢;exact AD e
end
theorem BR {α:Type} {le:Nat -> Nat -> Prop} {p:Array Nat} {vs:List α} {d:α} (hp:p.Perm (List.range vs.length).toArray) (ha:Asc le p vs.length) :
  (p.toList.map fun i=>vs.getD i d).Perm vs /\ ∀ R:α -> α -> Prop,(∀ i j,i < vs.length -> j < vs.length -> le i j -> R (vs.getD i d) (vs.getD j d)) -> (p.toList.map fun i=>vs.getD i d).Pairwise R:=by
 have hl:p.toList.Perm (List.range vs.length):=by simpa using Rq.mp hp
 constructor
 ·have h1:(p.toList.map fun i=>vs.getD i d).Perm ((List.range vs.length).map fun i=>vs.getD i d):=hl.map _
  have h2:((List.range vs.length).map fun i=>vs.getD i d) = vs:=by
   apply List.ext_getElem
   ·simp
   ·intro i h1 h2;simp at h1;simp [h1]
  rw [h2] at h1
  exact h1
 ·intro R hR
  rw [Qs,QM]
  intro i j hi hj hij
  have hs:p.toList.length = vs.length:=by rw [hl.length_eq];simp
  have m:∀ k (hk:k < p.toList.length),p.toList[k] < vs.length:=fun k hk=>by simpa using hl.mem_iff.mp (List.getElem_mem hk)
  have a:∀ k (hk:k < p.toList.length),at' p k = p.toList[k]:=fun k hk=>by
   have:k < p.size:=by simpa using hk
   simp [at',Array.getD,this]
  refine hR _ _ (m i hi) (m j hj) ?_
  rw [<- a i hi,<- a j hj]
  exact ha i j (Ql hij) (by lia)
def HP:Bool -> Keyed -> Array Keyed -> Nat -> Nat -> Nat -> StateT SortSt Sem (Option Nat):=sortPriv% PySem.Builtin.gallop
def GV:Array Keyed -> Array Keyed -> StateT SortSt Sem (Array Keyed):=sortPriv% PySem.Builtin.mergeLo
def FN:Array Keyed -> Array Keyed -> StateT SortSt Sem (Array Keyed):=sortPriv% PySem.Builtin.mergeHi
section
variable {prog:Program} {w:World} {A:Around} {E:Value -> Shared -> Prop} {s:Shared} {κ:SortKind} {it:Array Keyed} {n:Nat} {lt:Nat -> Nat -> Bool} {le:Nat -> Nat -> Prop}
def wA (prog:Program) (w:World) (A:Around) (s:Shared) (κ:SortKind) (it:Array Keyed) (n:Nat) (lt:Nat -> Nat -> Bool):Prop:=
 ∀ i j (C:Bool -> Shared -> Prop),i < n -> j < n -> C (lt i j) s -> kas_cmp prog w A κ it i j C s
theorem w_lt (hc:wA prog w A s κ it n lt) {i j:Nat} {Q:Option Bool -> SortSt -> Prop} {st:SortSt} (hk:kindOf st = κ) (hi:i < n) (hj:j < n) (h:Q (some (lt i j)) st):wpS (model prog w) A E s (lt' (kas_item it i) (kas_item it j)) Q st:=by
 rw [lt'_eq]
 refine Pf (Qj ?_)
 rw [hk]
 refine Pf (QN (Q7 (P9 (hc i j (fun c s'=>s' = s /\ c = lt i j) hi hj ⟨rfl,rfl⟩) (fun c s' h'=>?_) fun _ _ hF=>hF.elim)))
 obtain ⟨rfl,rfl⟩:=h'
 exact ⟨rfl,Pe h⟩
theorem aM {X:Array Nat} {k:Nat} {Q:Keyed -> SortSt -> Prop} {st:SortSt} (hk:k < X.size) (h:Q (kas_item it (at' X k)) st):wpS (model prog w) A E s (elem' (X.map (kas_item it)) k) Q st:=by
 rw [elem'_eq]
 have e:at' X k = X[k]:=by simp [at',hk]
 rw [e] at h
 have e2:(X.map (kas_item it))[k]? = some (kas_item it X[k]):=by simp [hk]
 rw [e2]
 exact Pe h
theorem cD (o:Ord lt le) (hc:wA prog w A s κ it n lt) {left:Bool} {key:Nat} {X:Array Nat} {base m hint:Nat} {Q:Option Nat -> SortSt -> Prop} {st:SortSt} (hk:kindOf st = κ) (hb:∀ i,i < X.size -> at' X i < n) (hkey:key < n)
  (hz:base + m <= X.size) (hh:hint < m) (hs:∀ i j,i <= j -> j < m -> le (at' X (base + i)) (at' X (base + j)))
  (h:∀ k,k <= m -> (∀ i,i < k -> le (at' X (base + i)) key) -> (∀ i,k <= i -> i < m -> le key (at' X (base + i))) -> Q (some k) st) :
  wpS (model prog w) A E s (HP left (kas_item it key) (X.map (kas_item it)) base m hint) Q st:=by
 have bey:∀ i,i < m -> ∀ (R:Option Bool -> SortSt -> Prop),(∀ c,(c = true -> le (at' X (base + i)) key) -> (c = false -> le key (at' X (base + i))) -> R (some c) st) -> wpS (model prog w) A E s (do
   let x ← elem' (X.map (kas_item it)) (base + i)
   if left = true then lt' x (kas_item it key) else do
    let r ← lt' (kas_item it key) x
    pure (Option.map (fun x=>!x) r)) R st:=fun i hi R hR=>by
  refine Pf (aM (by lia) ?_)
  have hx:=hb (base + i) (by lia)
  cases left with
  | true=>
   rw [Pb rfl]
   exact w_lt hc hk hx hkey (hR _ (o.yes _ _) (o.no _ _))
  | false=>
   rw [Pc (by decide)]
   refine Pf (w_lt hc hk hkey hx (Pe ?_))
   refine hR _ (fun e=>o.no _ _ (by simpa using e)) (fun e=>o.yes _ _ (by simpa using e))
 have lo':∀ k,k < m -> le (at' X (base + k)) key -> ∀ i,i <= k -> le (at' X (base + i)) key:=fun k hk hl i hi=>o.tr _ _ _ (hs i k hi hk) hl
 have hi':∀ k,k < m -> le key (at' X (base + k)) -> ∀ i,k <= i -> i < m -> le key (at' X (base + i)):=fun k hk hl i hi him=>o.tr _ _ _ hl (hs k i hi him)
 refine Pf (bey hint hh _ fun c c1 c2=>?_)
 dsimp only
 cases c with
 | true=>
  rw [Pb rfl]
  refine Pf (PU (PV (I:=fun x c st'=>st' = st /\ ∃ l f,c = (none,l,f) /\ x + 1 <= f /\ hint + l < m /\ le (at' X (base + (hint + l))) key)
   (Q:=fun c st'=>st' = st /\ ∃ l f,c = (none,l,f) /\ hint + l < m /\ le (at' X (base + (hint + l))) key /\ (f < m - hint -> le key (at' X (base + (hint + f))))) ?s1 ?f1 ?i1) ?p1)
  case i1=>exact ⟨rfl,0,1,rfl,by lia,by lia,c1 rfl⟩
  case f1=>
   rintro c st' ⟨rfl,l,f,rfl,h1,h2,h3⟩
   exact ⟨rfl,l,f,rfl,h2,h3,fun _=>by lia⟩
  case s1=>
   rintro x c st' _ hx ⟨rfl,l,f,rfl,h1,h2,h3⟩
   dsimp only
   by_cases hge:f ≥ m - hint
   ·rw [Pb hge]
    exact Pe ⟨rfl,l,f,rfl,h2,h3,fun _=>by lia⟩
   ·rw [Pc hge]
    refine Pf (bey (hint + f) (by lia) _ fun c d1 d2=>?_)
    dsimp only
    cases c with
    | true=>exact Pe ⟨rfl,f,2 * f + 1,rfl,by lia,by lia,d1 rfl⟩
    | false=>exact Pe ⟨rfl,l,f,rfl,h2,h3,fun _=>d2 rfl⟩
  case p1=>
   rintro c st' ⟨rfl,l,f,rfl,h2,h3,h4⟩
   dsimp only
   have g1:∀ i,i < hint + l + 1 -> i < m -> le (at' X (base + i)) key:=fun i hi _=>lo' _ h2 h3 i (by lia)
   have g2:∀ i,hint + min f (m - hint) <= i -> i < m -> le key (at' X (base + i)):=fun i hi him=>hi' (hint + f) (by lia) (h4 (by lia)) i (by lia) him
   have g3:hint + min f (m - hint) <= m:=by lia
   generalize hint + l + 1 = L at g1 ⊢
   generalize hint + min f (m - hint) = H at g2 g3 ⊢
   refine Pf (PU (PV (I:=fun x c st2=>st2 = st' /\ ∃ l h,c = (none,l,h) /\ h <= m /\ h - l <= m - x /\ (∀ i,i < l -> i < m -> le (at' X (base + i)) key) /\ (∀ i,h <= i -> i < m -> le key (at' X (base + i))))
    (Q:=fun c st2=>st2 = st' /\ ∃ l h,c = (none,l,h) /\ h <= m /\ h <= l /\ (∀ i,i < l -> i < m -> le (at' X (base + i)) key) /\ (∀ i,h <= i -> i < m -> le key (at' X (base + i)))) ?s2 ?f2 ?i2) ?p2)
   case i2=>exact ⟨rfl,L,H,rfl,g3,by lia,g1,g2⟩
   case f2=>
    rintro c st2 ⟨rfl,l,h,rfl,k1,k2,k3,k4⟩
    exact ⟨rfl,l,h,rfl,k1,by lia,k3,k4⟩
   case s2=>
    rintro x c st2 _ hx ⟨rfl,l,h,rfl,k1,k2,k3,k4⟩
    dsimp only
    by_cases hge:l ≥ h
    ·rw [Pb hge]
     exact Pe ⟨rfl,l,h,rfl,k1,hge,k3,k4⟩
    ·rw [Pc hge]
     refine Pf (bey (l + (h - l) / 2) (by lia) _ fun c d1 d2=>?_)
     dsimp only
     cases c with
     | true=>exact Pe ⟨rfl,_,_,rfl,k1,by lia,fun i hi him=>lo' _ (by lia) (d1 rfl) i (by lia),k4⟩
     | false=>exact Pe ⟨rfl,_,_,rfl,by lia,by lia,k3,fun i hi him=>hi' _ (by lia) (d2 rfl) i hi him⟩
   case p2=>
    rintro c st2 ⟨rfl,l,h',rfl,k1,k2,k3,k4⟩
    exact Pe (h h' k1 (fun i hi=>k3 i (by lia) (by lia)) k4)
 | false=>
  rw [Pc (by decide)]
  refine Pf (PU (PV (I:=fun x c st'=>st' = st /\ ∃ l f,c = (none,l,f) /\ x + 1 <= f /\ l <= hint /\ le key (at' X (base + (hint - l))))
   (Q:=fun c st'=>st' = st /\ ∃ l f,c = (none,l,f) /\ l <= hint /\ le key (at' X (base + (hint - l))) /\ (f < hint + 1 -> le (at' X (base + (hint - f))) key)) ?s1 ?f1 ?i1) ?p1)
  case i1=>exact ⟨rfl,0,1,rfl,by lia,by lia,c2 rfl⟩
  case f1=>
   rintro c st' ⟨rfl,l,f,rfl,h1,h2,h3⟩
   exact ⟨rfl,l,f,rfl,h2,h3,fun _=>by lia⟩
  case s1=>
   rintro x c st' _ hx ⟨rfl,l,f,rfl,h1,h2,h3⟩
   dsimp only
   by_cases hge:f ≥ hint + 1
   ·rw [Pb hge]
    exact Pe ⟨rfl,l,f,rfl,h2,h3,fun _=>by lia⟩
   ·rw [Pc hge]
    refine Pf (bey (hint - f) (by lia) _ fun c d1 d2=>?_)
    dsimp only
    cases c with
    | true=>exact Pe ⟨rfl,l,f,rfl,h2,h3,fun _=>d1 rfl⟩
    | false=>exact Pe ⟨rfl,f,2 * f + 1,rfl,by lia,by lia,d2 rfl⟩
  case p1=>
   rintro c st' ⟨rfl,l,f,rfl,h2,h3,h4⟩
   dsimp only
   have g1:∀ i,i < hint + 1 - min f (hint + 1) -> i < m -> le (at' X (base + i)) key:=fun i hi _=>lo' (hint - f) (by lia) (h4 (by lia)) i (by lia)
   have g2:∀ i,hint - l <= i -> i < m -> le key (at' X (base + i)):=fun i hi him=>hi' (hint - l) (by lia) h3 i (by lia) him
   have g3:hint - l <= m:=by lia
   generalize hint + 1 - min f (hint + 1) = L at g1 ⊢
   generalize hint - l = H at g2 g3 ⊢
   refine Pf (PU (PV (I:=fun x c st2=>st2 = st' /\ ∃ l h,c = (none,l,h) /\ h <= m /\ h - l <= m - x /\ (∀ i,i < l -> i < m -> le (at' X (base + i)) key) /\ (∀ i,h <= i -> i < m -> le key (at' X (base + i))))
    (Q:=fun c st2=>st2 = st' /\ ∃ l h,c = (none,l,h) /\ h <= m /\ h <= l /\ (∀ i,i < l -> i < m -> le (at' X (base + i)) key) /\ (∀ i,h <= i -> i < m -> le key (at' X (base + i)))) ?s2 ?f2 ?i2) ?p2)
   case i2=>exact ⟨rfl,L,H,rfl,g3,by lia,g1,g2⟩
   case f2=>
    rintro c st2 ⟨rfl,l,h,rfl,k1,k2,k3,k4⟩
    exact ⟨rfl,l,h,rfl,k1,by lia,k3,k4⟩
   case s2=>
    rintro x c st2 _ hx ⟨rfl,l,h,rfl,k1,k2,k3,k4⟩
    dsimp only
    by_cases hge:l ≥ h
    ·rw [Pb hge]
     exact Pe ⟨rfl,l,h,rfl,k1,hge,k3,k4⟩
    ·rw [Pc hge]
     refine Pf (bey (l + (h - l) / 2) (by lia) _ fun c d1 d2=>?_)
     dsimp only
     cases c with
     | true=>exact Pe ⟨rfl,_,_,rfl,k1,by lia,fun i hi him=>lo' _ (by lia) (d1 rfl) i (by lia),k4⟩
     | false=>exact Pe ⟨rfl,_,_,rfl,by lia,by lia,k3,fun i hi him=>hi' _ (by lia) (d2 rfl) i hi him⟩
   case p2=>
    rintro c st2 ⟨rfl,l,h',rfl,k1,k2,k3,k4⟩
    exact Pe (h h' k1 (fun i hi=>k3 i (by lia) (by lia)) k4)
end
end Srt
namespace Srt
section
variable {le:Nat -> Nat -> Prop} {tot out ra rb xs:List Nat}
def Inv (le:Nat -> Nat -> Prop) (tot out ra rb:List Nat):Prop:=(out ++ ra).Pairwise le /\ (out ++ rb).Pairwise le /\ (out ++ (ra ++ rb)).Perm tot
theorem Inv.symm (h:Inv le tot out ra rb):Inv le tot out rb ra:=⟨h.2.1,h.1,(List.Perm.append_left _ List.perm_append_comm).trans h.2.2⟩
theorem Inv.block (h:Inv le tot out (xs ++ ra) rb) (k:∀ x ∈ xs,∀ y ∈ rb,le x y):Inv le tot (out ++ xs) ra rb:=by
 obtain ⟨h1,h2,h3⟩:=h
 refine ⟨by rw [PZ];exact h1,?_,by rw [PZ,<- PZ xs];exact h3⟩
 rw [Qc] at h1 h2
 rw [PZ,Qc]
 obtain ⟨a1,a2,a3⟩:=h1
 obtain ⟨b1,b2,b3⟩:=h2
 rw [Qc] at a2
 refine ⟨a1,Qc.mpr ⟨a2.1,b2,k⟩,fun x hx y hy=>?_⟩
 rcases Pu.mp hy with hy | hy
 ·exact a3 x hx y (Py _ hy)
 ·exact b3 x hx y hy
theorem Inv.doneA (h:Inv le tot out ra []):(out ++ ra).Pairwise le /\ (out ++ ra).Perm tot:=⟨h.1,by have:=h.2.2;rwa [Qa] at this⟩
theorem Inv.lastA {x:Nat} (h:Inv le tot out [x] rb) (k:∀ y ∈ rb,le y x):(out ++ (rb ++ [x])).Pairwise le /\ (out ++ (rb ++ [x])).Perm tot:=by
 refine ⟨?_,(List.Perm.append_left _ List.perm_append_comm).trans h.2.2⟩
 obtain ⟨h1,h2,_⟩:=h
 rw [Qc] at h1 h2
 rw [Qc]
 refine ⟨h1.1,Qc.mpr ⟨h2.2.1,RK _ _,fun y hy z hz=>?_⟩,fun a ha b hb=>?_⟩
 ·rw [Pi] at hz;subst hz;exact k y hy
 ·rcases Pu.mp hb with hb | hb
  ·exact h2.2.2 a ha b hb
  ·exact h1.2.2 a ha b hb
end
section
variable {X Y O:Array Nat} {le:Nat -> Nat -> Prop} {tot:List Nat}
theorem JD {i:Nat} (h:i < X.size):at' X i = X[i]:=by simp [at',h]
theorem lr {i:Nat} (h:i < X.size):X.toList[i]'(by simpa using h) = at' X i:=by rw [JD h];simp
theorem yA {i:Nat} (h:i < X.size):X.toList.drop i = at' X i :: X.toList.drop (i + 1):=by
 rw [Rr (by simpa using h),lr h]
theorem qO {i j:Nat} (h:i <= j):X.toList.drop i = (X.extract i j).toList ++ X.toList.drop j:=by
 rw [Rs,Rt]
 have e:X.toList.drop j = (X.toList.drop i).drop (j - i):=by rw [List.drop_drop];congr 1;lia
 rw [e,R6]
theorem uX {i x:Nat} (h:x ∈ X.toList.drop i):∃ j,i <= j /\ j < X.size /\ at' X j = x:=by
 obtain ⟨k,hk⟩:=Qn h
 rw [Ru] at hk
 obtain ⟨h1,h2⟩:=PF.mp hk
 have h1':i + k < X.size:=by simpa using h1
 exact ⟨i + k,by lia,h1',by rw [<- lr h1'];exact h2⟩
theorem ui {i j x:Nat} (h:x ∈ (X.extract i j).toList):∃ k,i <= k /\ k < j /\ k < X.size /\ at' X k = x:=by
 obtain ⟨k,hk⟩:=Qn h
 rw [Rs,Rt,RL] at hk
 split at hk
 ·rw [Ru] at hk
  obtain ⟨h1,h2⟩:=PF.mp hk
  have h1':i + k < X.size:=by simpa using h1
  exact ⟨i + k,by lia,by lia,h1',by rw [<- lr h1'];exact h2⟩
 ·cases hk
abbrev J (le:Nat -> Nat -> Prop) (tot:List Nat) (X Y O:Array Nat) (ia ib:Nat):Prop:=Inv le tot O.toList (X.toList.drop ia) (Y.toList.drop ib)
variable {ia ib:Nat}
theorem J.one (j:J le tot X Y O ia ib) (h:ia < X.size) (k:∀ i,ib <= i -> i < Y.size -> le (at' X ia) (at' Y i)):J le tot X Y (O.push (at' X ia)) (ia + 1) ib:=by
 unfold J at j ⊢
 rw [yA h] at j
 have:=Inv.block (xs:=[at' X ia]) j (fun x hx y hy=>by
  rw [Pi] at hx
  subst hx
  obtain ⟨i,h1,h2,rfl⟩:=uX hy
  exact k i h1 h2)
 rwa [Q8]
theorem J.blk {m:Nat} (j:J le tot X Y O ia ib) (k:∀ i l,ia <= i -> i < ia + m -> i < X.size -> ib <= l -> l < Y.size -> le (at' X i) (at' Y l)):J le tot X Y (O ++ X.extract ia (ia + m)) (ia + m) ib:=by
 unfold J at j ⊢
 rw [qO (j:=ia + m) (by lia)] at j
 have:=Inv.block j (fun x hx y hy=>by
  obtain ⟨i,h1,h2,h3,rfl⟩:=ui hx
  obtain ⟨l,h4,h5,rfl⟩:=uX hy
  exact k i l h1 h2 h3 h4 h5)
 rwa [QX]
theorem J.sy (j:J le tot X Y O ia ib):J le tot Y X O ib ia:=Inv.symm j
abbrev l9 (le:Nat -> Nat -> Prop) (tot:List Nat) (R:Array Nat):Prop:=R.toList.Pairwise le /\ R.toList.Perm tot
theorem J.done1 (j:J le tot X Y O ia ib) (h:Y.size <= ib) (h2:ia <= X.size):l9 le tot (O ++ X.extract ia X.size ++ Y.extract ib Y.size):=by
 unfold J at j
 rw [QY (l:=Y.toList) (by simpa using h)] at j
 have e:(Y.extract ib Y.size) = #[]:=by simp;lia
 have e2:X.toList.drop ia = (X.extract ia X.size).toList:=by rw [qO h2];simp
 rw [e,Array.append_empty]
 unfold l9
 rw [QX,<- e2]
 exact j.doneA
theorem J.done2 (j:J le tot X Y O ia ib) (h:X.size <= ia) (h2:ib <= Y.size):l9 le tot (O ++ X.extract ia X.size ++ Y.extract ib Y.size):=by
 have e:(X.extract ia X.size) = #[]:=by simp;lia
 have:=j.sy.done1 h h2
 rw [e,Array.append_empty] at this ⊢
 exact this
theorem J.last (j:J le tot X Y O ia ib) (h:ia + 1 = X.size) (h2:ib <= Y.size) (k:∀ i,i < Y.size -> le (at' Y i) (at' X ia)):l9 le tot (O ++ Y.extract ib Y.size ++ X.extract ia X.size):=by
 unfold J at j
 rw [yA (by lia),QY (l:=X.toList) (i:=ia + 1) (by simp;lia)] at j
 have:=j.lastA fun y hy=>by
  obtain ⟨i,h1,h2,rfl⟩:=uX hy
  exact k i h2
 have e:(X.extract ia X.size).toList = [at' X ia]:=by
  have e2:X.toList.drop ia = (X.extract ia X.size).toList:=by rw [qO (j:=X.size) (by lia)];simp
  rw [<- e2,yA (by lia),QY (l:=X.toList) (i:=ia + 1) (by simp;lia)]
 have e3:Y.toList.drop ib = (Y.extract ib Y.size).toList:=by rw [qO h2];simp
 unfold l9
 rw [QX,QX,e,<- e3,PZ]
 exact this
end
end Srt
namespace Srt
open PySem PySem.W PyProof.Rows
section
variable {prog:Program} {w:World} {A:Around} {E:Value -> Shared -> Prop} {s:Shared} {κ:SortKind} {it:Array Keyed} {n:Nat} {lt:Nat -> Nat -> Bool} {le:Nat -> Nat -> Prop}
def Same (κ:SortKind) (st st':SortSt):Prop:=kindOf st' = κ /\ arrOf st' = arrOf st /\ pendingOf st' = pendingOf st /\ failedOf st' = failedOf st
theorem Same.g {st st2:SortSt} (h:Same κ st st2) (g:Nat):Same κ st (SortSt.mk' (kindOf st2) (arrOf st2) (pendingOf st2) g (failedOf st2)):=h
theorem bT {σ α:Type} {M:Model} {c:Prop} [Decidable c] {a b:StateT σ Sem α} {Q:α -> σ -> Prop} {st:σ} (h1:wpS M A E s a Q st) (h2:wpS M A E s b Q st):wpS M A E s (if c then a else b) Q st:=by
 by_cases h:c
 ·rw [Pb h];exact h1
 ·rw [Pc h];exact h2
theorem exm (f:Nat -> Keyed) (Z:Array Nat):(Z.map f).extract 0 Z.size = Z.map f:=by
 have:Z.size = (Z.map f).size:=by simp
 rw [this];simp
theorem C6 {X:Array Nat} (h:∀ i j,i <= j -> j < X.size -> le (at' X i) (at' X j)):X.toList.Pairwise le:=by
 rw [QM]
 intro i j hi hj hij
 have h2:j < X.size:=by simpa using hj
 rw [lr (by lia),lr h2]
 exact h i j (by lia) h2
theorem Ev (o:Ord lt le) (hc:wA prog w A s κ it n lt) {X Y:Array Nat} {Q:Array Keyed -> SortSt -> Prop} {st:SortSt} (hk:kindOf st = κ) (hx:∀ i,i < X.size -> at' X i < n) (hy:∀ i,i < Y.size -> at' Y i < n)
  (x1:1 <= X.size) (y1:1 <= Y.size) (sx:∀ i j,i <= j -> j < X.size -> le (at' X i) (at' X j)) (sy:∀ i j,i <= j -> j < Y.size -> le (at' Y i) (at' Y j)) (hf:∀ i,i < X.size -> le (at' Y 0) (at' X i)) (hl:∀ i,i < Y.size -> le (at' Y i) (at' X (X.size - 1)))
  (h:∀ R st',Same κ st st' -> l9 le (X.toList ++ Y.toList) R -> Q (R.map (kas_item it)) st') :
  wpS (model prog w) A E s (GV (X.map (kas_item it)) (Y.map (kas_item it))) Q st:=by
 have sm0:Same κ st st:=⟨hk,rfl,rfl,rfl⟩
 have j0:J le (X.toList ++ Y.toList) X Y #[] 0 0:=⟨by simpa using C6 sx,by simpa using C6 sy,by simp⟩
 have j1:J le (X.toList ++ Y.toList) X Y #[at' Y 0] 0 1:=(j0.sy.one (by lia) fun i _ h2=>hf i h2).sy
 refine Pf (QN (QE ⟨rfl,?_⟩))
 refine Pf (aM (by lia) ?_)
 dsimp only
 simp only [Array.size_map,Qf]
 by_cases e1:1 = Y.size
 ·rw [Pb e1]
  refine Pe ?_
  have:=h _ st sm0 (j1.done1 (by lia) (by lia))
  simpa [exm] using this
 rw [Pc e1]
 by_cases e2:0 + 1 = X.size
 ·rw [Pb e2]
  refine Pe ?_
  have:=h _ st sm0 (j1.last (by lia) (by lia) fun i hi=>by have:=hl i hi;rwa [show X.size - 1 = 0 by lia] at this)
  simpa [exm] using this
 rw [Pc e2]
 refine Pf (Qj ?_)
 refine Pf (PU (PV (I:=fun x c st2=>Same κ st st2 /\ ∃ O ia ib g,c = (none,O.map (kas_item it),ia,ib,g) /\ ia + 1 < X.size /\ ib < Y.size /\ x + 1 <= ia + ib /\ J le (X.toList ++ Y.toList) X Y O ia ib)
  (Q:=fun c st2=>∃ R,c.1 = some (R.map (kas_item it)) /\ l9 le (X.toList ++ Y.toList) R /\ Same κ st st2) ?s1 ?f1 ?i1) ?p1)
 case i1=>exact ⟨sm0,#[at' Y 0],0,1,_,by simp;rfl,by lia,by lia,by lia,j1⟩
 case f1=>
  rintro c st2 ⟨sm,O,ia,ib,g,rfl,la,lb,ls,j⟩
  lia
 case p1=>
  rintro ⟨c,c'⟩ st2 ⟨R,hc1,hR,sm⟩
  dsimp only at hc1
  subst hc1
  exact Pe (h R st2 sm hR)
 case s1=>
  rintro x c st2 _ hx0 ⟨sm,O,ia,ib,g,rfl,la,lb,ls,j⟩
  dsimp only
  -- one by one
  refine Pf (PU (PV (I:=fun y c st2=>Same κ st st2 /\ ∃ O ia ib a b,c = (none,O.map (kas_item it),ia,ib,a,b) /\ ia + 1 < X.size /\ ib < Y.size /\ x + 1 + y <= ia + ib /\ J le (X.toList ++ Y.toList) X Y O ia ib)
   (Q:=fun c st2=>(∃ R,c.1 = some (R.map (kas_item it)) /\ l9 le (X.toList ++ Y.toList) R /\ Same κ st st2) \/ (Same κ st st2 /\ ∃ O ia ib a b,c = (none,O.map (kas_item it),ia,ib,a,b) /\ ia + 1 < X.size /\ ib < Y.size /\ x + 1 + 1 <= ia + ib /\ J le (X.toList ++ Y.toList) X Y O ia ib)) ?s2 ?f2 ?i2) ?p2)
  case i2=>exact ⟨sm,O,ia,ib,0,0,rfl,la,lb,ls,j⟩
  case f2=>
   rintro c st2 ⟨sm,O,ia,ib,a,b,rfl,la,lb,ls,j⟩
   lia
  case s2=>
   clear la lb ls j sm
   rintro y c st2 _ hy0 ⟨sm,O,ia,ib,a,b,rfl,la,lb,ls,j⟩
   dsimp only
   refine Pf (aM lb ?_)
   refine Pf (aM (by lia) ?_)
   refine Pf (w_lt hc sm.1 (hy ib lb) (hx ia (by lia)) ?_)
   dsimp only
   cases cw:lt (at' Y ib) (at' X ia) with
   | true=>
    rw [Pb rfl]
    have l0:=o.yes _ _ cw
    have j2:J le (X.toList ++ Y.toList) X Y (O.push (at' Y ib)) ia (ib + 1):=(j.sy.one lb fun i h1 h2=>o.tr _ _ _ l0 (sx _ _ h1 h2)).sy
    refine Pf (aM lb ?_)
    by_cases e3:ib + 1 = Y.size
    ·rw [Pb e3]
     refine Pe (.inl ⟨(O.push (at' Y ib)) ++ X.extract ia X.size ++ Y.extract (ib + 1) Y.size,?_,j2.done1 (by lia) (by lia),sm⟩)
     simp
    ·rw [Pc e3]
     refine bT ?_ ?_
     ·exact Pe (.inr ⟨sm,O.push (at' Y ib),ia,ib + 1,_,_,by rw [QO],by lia,by lia,by lia,j2⟩)
     ·exact Pe ⟨sm,O.push (at' Y ib),ia,ib + 1,_,_,by rw [QO],by lia,by lia,by lia,j2⟩
   | false=>
    rw [Pc (by decide)]
    have l0:=o.no _ _ cw
    have j2:=j.one (by lia) fun i h1 h2=>o.tr _ _ _ l0 (sy _ _ h1 h2)
    refine Pf (aM (by lia) ?_)
    by_cases e3:ia + 1 + 1 = X.size
    ·rw [Pb e3]
     refine Pe (.inl ⟨(O.push (at' X ia)) ++ Y.extract ib Y.size ++ X.extract (ia + 1) X.size,?_,j2.last (by lia) (by lia) (fun i hi=>by have:=hl i hi;rwa [show X.size - 1 = ia + 1 by lia] at this),sm⟩)
     simp
    ·rw [Pc e3]
     refine bT ?_ ?_
     ·exact Pe (.inr ⟨sm,O.push (at' X ia),ia + 1,ib,_,_,by rw [QO],by lia,by lia,by lia,j2⟩)
     ·exact Pe ⟨sm,O.push (at' X ia),ia + 1,ib,_,_,by rw [QO],by lia,by lia,by lia,j2⟩
  case p2=>
   clear la lb ls j sm
   rintro ⟨c,c'⟩ st2 (⟨R,hc1,hR,sm⟩ | ⟨sm,O,ia,ib,a,b,hcc,la,lb,ls,j⟩)
   ·dsimp only at hc1
    subst hc1
    exact Pe ⟨R,rfl,hR,sm⟩
   cases hcc
   dsimp only
   refine Pf (QN (QE ⟨rfl,?_⟩))
   have hst:∃ aV,aV = x + 1 + 1:=⟨_,rfl⟩
   obtain ⟨aV,hst⟩:=hst
   rw [<- hst] at ls
   refine Pf (PU (PV (I:=fun y c st2=>Same κ st st2 /\ ∃ O ia ib m a b,c = (none,O.map (kas_item it),ia,ib,m,a,b) /\ ia + 1 < X.size /\ ib < Y.size /\ aV <= ia + ib /\ J le (X.toList ++ Y.toList) X Y O ia ib)
    (Q:=fun c st2=>(∃ R,c.1 = some (R.map (kas_item it)) /\ l9 le (X.toList ++ Y.toList) R /\ Same κ st st2) \/ (Same κ st st2 /\ ∃ O ia ib m a b,c = (none,O.map (kas_item it),ia,ib,m,a,b) /\ ia + 1 < X.size /\ ib < Y.size /\ aV <= ia + ib /\ J le (X.toList ++ Y.toList) X Y O ia ib)) ?s3 ?f3 ?i3) ?p3)
   case i3=>exact ⟨sm,O,ia,ib,_,_,_,rfl,la,lb,ls,j⟩
   case f3=>exact fun c st2 h=>.inr h
   case p3=>
    clear la lb ls j sm
    rintro ⟨c,c'⟩ st2 (⟨R,hc1,hR,sm⟩ | ⟨sm,O,ia,ib,m,a,b,hcc,la,lb,ls,j⟩)
    ·dsimp only at hc1
     subst hc1
     exact Pe ⟨R,rfl,hR,sm⟩
    cases hcc
    dsimp only
    refine Pf (Qd (Pe ?_))
    exact ⟨sm.g _,O,ia,ib,_,rfl,la,lb,by lia,j⟩
   case s3=>
    clear la lb ls j sm
    rintro y c st2 _ hy0 ⟨sm,O,ia,ib,m,a,b,rfl,la,lb,ls,j⟩
    dsimp only
    by_cases hm:m > 1
    ·rw [Pb hm]
     refine Pf (Qd ?_)
     replace sm:=sm.g (m - 1)
     refine Pf (aM lb ?_)
     refine Pf (cD o hc sm.1 hx (hy ib lb) (by lia) (by lia) (fun i k h1 h2=>sx _ _ (by lia) (by lia)) fun k k1 k2 k3=>?_)
     dsimp only
     have k2':∀ i,ia <= i -> i < ia + k -> le (at' X i) (at' Y ib):=fun i h1 h2=>by
      have:=k2 (i - ia) (by lia)
      rwa [show ia + (i - ia) = i by lia] at this
     have ky:∀ i,ia + k <= i -> i < X.size -> le (at' Y ib) (at' X i):=fun i h1 h2=>by
      have:=k3 (i - ia) (by lia) (by lia)
      rwa [show ia + (i - ia) = i by lia] at this
     by_cases k0:k > 0
     ·rw [Pb k0]
      replace j:=j.blk (m:=k) fun i l h1 h2 h3 h4 h5=>o.tr _ _ _ (k2' i h1 h2) (sy _ _ h4 h5)
      have eO:O.map (kas_item it) ++ (X.map (kas_item it)).extract ia (ia + k) = (O ++ X.extract ia (ia + k)).map (kas_item it):=by simp
      rw [eO]
      by_cases e1:ia + k + 1 = X.size
      ·rw [Pb e1]
       refine Pe (.inl ⟨O ++ X.extract ia (ia + k) ++ Y.extract ib Y.size ++ X.extract (ia + k) X.size,?_,j.last (by lia) (by lia) (fun i hi=>by have:=hl i hi;rwa [show X.size - 1 = ia + k by lia] at this),sm⟩)
       simp
      rw [Pc e1]
      by_cases e2:ia + k = X.size
      ·rw [Pb e2]
       refine Pe (.inl ⟨O ++ X.extract ia (ia + k) ++ X.extract (ia + k) X.size ++ Y.extract ib Y.size,?_,j.done2 (by lia) (by lia),sm⟩)
       simp
      rw [Pc e2]
      have la2:ia + k + 1 < X.size:=by lia
      have ls2:aV <= ia + k + ib:=by lia
      clear k2' k2 k3 eO e1 e2
      generalize O ++ X.extract ia (ia + k) = O at j ⊢
      generalize hia:ia + k = ia at j la2 ls2 ky ⊢
      clear la ls k1 hia
      rename_i ia0 _
      clear k0
      have la:=la2
      have ls:=ls2
      -- y0
      refine Pf (aM lb ?_)
      have j2:J le (X.toList ++ Y.toList) X Y (O.push (at' Y ib)) ia (ib + 1):=(j.sy.one lb fun i h1 h2=>ky i h1 h2).sy
      by_cases e3:ib + 1 = Y.size
      ·rw [Pb e3]
       refine Pe (.inl ⟨(O.push (at' Y ib)) ++ X.extract ia X.size ++ Y.extract (ib + 1) Y.size,?_,j2.done1 (by lia) (by lia),sm⟩)
       simp
      ·rw [Pc e3]
       refine Pf (aM (by lia) ?_)
       refine Pf (cD o hc sm.1 hy (hx ia (by lia)) (by lia) (by lia) (fun i k h1 h2=>sy _ _ (by lia) (by lia)) fun k k1 k2 k3=>?_)
       dsimp only
       have k2':∀ i,ib + 1 <= i -> i < ib + 1 + k -> le (at' Y i) (at' X ia):=fun i h1 h2=>by
        have:=k2 (i - (ib + 1)) (by lia)
        rwa [show ib + 1 + (i - (ib + 1)) = i by lia] at this
       have k3':∀ i,ib + 1 + k <= i -> i < Y.size -> le (at' X ia) (at' Y i):=fun i h1 h2=>by
        have:=k3 (i - (ib + 1)) (by lia) (by lia)
        rwa [show ib + 1 + (i - (ib + 1)) = i by lia] at this
       have j3:J le (X.toList ++ Y.toList) X Y (O.push (at' Y ib) ++ Y.extract (ib + 1) (ib + 1 + k)) ia (ib + 1 + k):=(j2.sy.blk fun i l h1 h2 h3 h4 h5=>o.tr _ _ _ (k2' i h1 h2) (sx _ _ h4 h5)).sy
       by_cases k0:k > 0
       ·rw [Pb k0]
        by_cases e4:ib + 1 + k = Y.size
        ·rw [Pb e4]
         refine Pe (.inl ⟨(O.push (at' Y ib)) ++ Y.extract (ib + 1) (ib + 1 + k) ++ X.extract ia X.size ++ Y.extract (ib + 1 + k) Y.size,?_,j3.done1 (by lia) (by lia),sm⟩)
         simp
        ·rw [Pc e4]
         refine Pf (aM (by lia) ?_)
         have j4:=j3.one (by lia) fun i h1 h2=>k3' i h1 h2
         by_cases e5:ia + 1 + 1 = X.size
         ·rw [Pb e5]
          refine Pe (.inl ⟨(O.push (at' Y ib) ++ Y.extract (ib + 1) (ib + 1 + k)).push (at' X ia) ++ Y.extract (ib + 1 + k) Y.size ++ X.extract (ia + 1) X.size,?_,j4.last (by lia) (by lia) (fun i hi=>by have:=hl i hi;rwa [show X.size - 1 = ia + 1 by lia] at this),sm⟩)
          simp
         ·rw [Pc e5]
          have fin:∀ m c d,∃ O' ia' ib' m' c' d',((none,((O.map (kas_item it)).push (kas_item it (at' Y ib)) ++ (Y.map (kas_item it)).extract (ib + 1) (ib + 1 + k)).push (kas_item it (at' X ia)),ia + 1,ib + 1 + k,m,c,d):Option (Array Keyed) × Array Keyed × Nat × Nat × Nat × Nat × Nat) = (none,O'.map (kas_item it),ia',ib',m',c',d') /\ ia' + 1 < X.size /\ ib' < Y.size /\ aV <= ia' + ib' /\ J le (X.toList ++ Y.toList) X Y O' ia' ib':=fun m c d=>⟨_,_,_,m,c,d,by rw [show (((O.map (kas_item it)).push (kas_item it (at' Y ib)) ++ (Y.map (kas_item it)).extract (ib + 1) (ib + 1 + k)).push (kas_item it (at' X ia))) = ((O.push (at' Y ib) ++ Y.extract (ib + 1) (ib + 1 + k)).push (at' X ia)).map (kas_item it) by simp],by lia,by lia,by lia,j4⟩
          refine bT ?_ ?_
          ·exact Pe (.inr ⟨sm,fin _ _ _⟩)
          ·exact Pe ⟨sm,fin _ _ _⟩
       ·rw [Pc k0]
        have k00:k = 0:=by lia
        subst k00
        have j3':J le (X.toList ++ Y.toList) X Y (O.push (at' Y ib)) ia (ib + 1):=j2
        refine Pf (aM (by lia) ?_)
        have j4:=j3'.one (by lia) fun i h1 h2=>k3' i (by lia) h2
        by_cases e5:ia + 1 + 1 = X.size
        ·rw [Pb e5]
         refine Pe (.inl ⟨(O.push (at' Y ib)).push (at' X ia) ++ Y.extract (ib + 1) Y.size ++ X.extract (ia + 1) X.size,?_,j4.last (by lia) (by lia) (fun i hi=>by have:=hl i hi;rwa [show X.size - 1 = ia + 1 by lia] at this),sm⟩)
         simp
        ·rw [Pc e5]
         have fin:∀ m c d,∃ O' ia' ib' m' c' d',((none,((O.map (kas_item it)).push (kas_item it (at' Y ib))).push (kas_item it (at' X ia)),ia + 1,ib + 1,m,c,d):Option (Array Keyed) × Array Keyed × Nat × Nat × Nat × Nat × Nat) = (none,O'.map (kas_item it),ia',ib',m',c',d') /\ ia' + 1 < X.size /\ ib' < Y.size /\ aV <= ia' + ib' /\ J le (X.toList ++ Y.toList) X Y O' ia' ib':=fun m c d=>⟨_,_,_,m,c,d,by rw [show ((O.map (kas_item it)).push (kas_item it (at' Y ib))).push (kas_item it (at' X ia)) = ((O.push (at' Y ib)).push (at' X ia)).map (kas_item it) by simp],by lia,by lia,by lia,j4⟩
         refine bT ?_ ?_
         ·exact Pe (.inr ⟨sm,fin _ _ _⟩)
         ·exact Pe ⟨sm,fin _ _ _⟩
     ·rw [Pc k0]
      have k00:k = 0:=by lia
      subst k00
      replace ky:∀ i,ia <= i -> i < X.size -> le (at' Y ib) (at' X i):=ky
      -- y0
      refine Pf (aM lb ?_)
      have j2:J le (X.toList ++ Y.toList) X Y (O.push (at' Y ib)) ia (ib + 1):=(j.sy.one lb fun i h1 h2=>ky i h1 h2).sy
      by_cases e3:ib + 1 = Y.size
      ·rw [Pb e3]
       refine Pe (.inl ⟨(O.push (at' Y ib)) ++ X.extract ia X.size ++ Y.extract (ib + 1) Y.size,?_,j2.done1 (by lia) (by lia),sm⟩)
       simp
      ·rw [Pc e3]
       refine Pf (aM (by lia) ?_)
       refine Pf (cD o hc sm.1 hy (hx ia (by lia)) (by lia) (by lia) (fun i k h1 h2=>sy _ _ (by lia) (by lia)) fun k k1 k2 k3=>?_)
       dsimp only
       have k2':∀ i,ib + 1 <= i -> i < ib + 1 + k -> le (at' Y i) (at' X ia):=fun i h1 h2=>by
        have:=k2 (i - (ib + 1)) (by lia)
        rwa [show ib + 1 + (i - (ib + 1)) = i by lia] at this
       have k3':∀ i,ib + 1 + k <= i -> i < Y.size -> le (at' X ia) (at' Y i):=fun i h1 h2=>by
        have:=k3 (i - (ib + 1)) (by lia) (by lia)
        rwa [show ib + 1 + (i - (ib + 1)) = i by lia] at this
       have j3:J le (X.toList ++ Y.toList) X Y (O.push (at' Y ib) ++ Y.extract (ib + 1) (ib + 1 + k)) ia (ib + 1 + k):=(j2.sy.blk fun i l h1 h2 h3 h4 h5=>o.tr _ _ _ (k2' i h1 h2) (sx _ _ h4 h5)).sy
       by_cases k0:k > 0
       ·rw [Pb k0]
        by_cases e4:ib + 1 + k = Y.size
        ·rw [Pb e4]
         refine Pe (.inl ⟨(O.push (at' Y ib)) ++ Y.extract (ib + 1) (ib + 1 + k) ++ X.extract ia X.size ++ Y.extract (ib + 1 + k) Y.size,?_,j3.done1 (by lia) (by lia),sm⟩)
         simp
        ·rw [Pc e4]
         refine Pf (aM (by lia) ?_)
         have j4:=j3.one (by lia) fun i h1 h2=>k3' i h1 h2
         by_cases e5:ia + 1 + 1 = X.size
         ·rw [Pb e5]
          refine Pe (.inl ⟨(O.push (at' Y ib) ++ Y.extract (ib + 1) (ib + 1 + k)).push (at' X ia) ++ Y.extract (ib + 1 + k) Y.size ++ X.extract (ia + 1) X.size,?_,j4.last (by lia) (by lia) (fun i hi=>by have:=hl i hi;rwa [show X.size - 1 = ia + 1 by lia] at this),sm⟩)
          simp
         ·rw [Pc e5]
          have fin:∀ m c d,∃ O' ia' ib' m' c' d',((none,((O.map (kas_item it)).push (kas_item it (at' Y ib)) ++ (Y.map (kas_item it)).extract (ib + 1) (ib + 1 + k)).push (kas_item it (at' X ia)),ia + 1,ib + 1 + k,m,c,d):Option (Array Keyed) × Array Keyed × Nat × Nat × Nat × Nat × Nat) = (none,O'.map (kas_item it),ia',ib',m',c',d') /\ ia' + 1 < X.size /\ ib' < Y.size /\ aV <= ia' + ib' /\ J le (X.toList ++ Y.toList) X Y O' ia' ib':=fun m c d=>⟨_,_,_,m,c,d,by rw [show (((O.map (kas_item it)).push (kas_item it (at' Y ib)) ++ (Y.map (kas_item it)).extract (ib + 1) (ib + 1 + k)).push (kas_item it (at' X ia))) = ((O.push (at' Y ib) ++ Y.extract (ib + 1) (ib + 1 + k)).push (at' X ia)).map (kas_item it) by simp],by lia,by lia,by lia,j4⟩
          refine bT ?_ ?_
          ·exact Pe (.inr ⟨sm,fin _ _ _⟩)
          ·exact Pe ⟨sm,fin _ _ _⟩
       ·rw [Pc k0]
        have k00:k = 0:=by lia
        subst k00
        have j3':J le (X.toList ++ Y.toList) X Y (O.push (at' Y ib)) ia (ib + 1):=j2
        refine Pf (aM (by lia) ?_)
        have j4:=j3'.one (by lia) fun i h1 h2=>k3' i (by lia) h2
        by_cases e5:ia + 1 + 1 = X.size
        ·rw [Pb e5]
         refine Pe (.inl ⟨(O.push (at' Y ib)).push (at' X ia) ++ Y.extract (ib + 1) Y.size ++ X.extract (ia + 1) X.size,?_,j4.last (by lia) (by lia) (fun i hi=>by have:=hl i hi;rwa [show X.size - 1 = ia + 1 by lia] at this),sm⟩)
         simp
        ·rw [Pc e5]
         have fin:∀ m c d,∃ O' ia' ib' m' c' d',((none,((O.map (kas_item it)).push (kas_item it (at' Y ib))).push (kas_item it (at' X ia)),ia + 1,ib + 1,m,c,d):Option (Array Keyed) × Array Keyed × Nat × Nat × Nat × Nat × Nat) = (none,O'.map (kas_item it),ia',ib',m',c',d') /\ ia' + 1 < X.size /\ ib' < Y.size /\ aV <= ia' + ib' /\ J le (X.toList ++ Y.toList) X Y O' ia' ib':=fun m c d=>⟨_,_,_,m,c,d,by rw [show ((O.map (kas_item it)).push (kas_item it (at' Y ib))).push (kas_item it (at' X ia)) = ((O.push (at' Y ib)).push (at' X ia)).map (kas_item it) by simp],by lia,by lia,by lia,j4⟩
         refine bT ?_ ?_
         ·exact Pe (.inr ⟨sm,fin _ _ _⟩)
         ·exact Pe ⟨sm,fin _ _ _⟩
    ·rw [Pc hm]
     refine Pf (Qd ?_)
     replace sm:=sm.g (m)
     refine Pf (aM lb ?_)
     refine Pf (cD o hc sm.1 hx (hy ib lb) (by lia) (by lia) (fun i k h1 h2=>sx _ _ (by lia) (by lia)) fun k k1 k2 k3=>?_)
     dsimp only
     have k2':∀ i,ia <= i -> i < ia + k -> le (at' X i) (at' Y ib):=fun i h1 h2=>by
      have:=k2 (i - ia) (by lia)
      rwa [show ia + (i - ia) = i by lia] at this
     have ky:∀ i,ia + k <= i -> i < X.size -> le (at' Y ib) (at' X i):=fun i h1 h2=>by
      have:=k3 (i - ia) (by lia) (by lia)
      rwa [show ia + (i - ia) = i by lia] at this
     by_cases k0:k > 0
     ·rw [Pb k0]
      replace j:=j.blk (m:=k) fun i l h1 h2 h3 h4 h5=>o.tr _ _ _ (k2' i h1 h2) (sy _ _ h4 h5)
      have eO:O.map (kas_item it) ++ (X.map (kas_item it)).extract ia (ia + k) = (O ++ X.extract ia (ia + k)).map (kas_item it):=by simp
      rw [eO]
      by_cases e1:ia + k + 1 = X.size
      ·rw [Pb e1]
       refine Pe (.inl ⟨O ++ X.extract ia (ia + k) ++ Y.extract ib Y.size ++ X.extract (ia + k) X.size,?_,j.last (by lia) (by lia) (fun i hi=>by have:=hl i hi;rwa [show X.size - 1 = ia + k by lia] at this),sm⟩)
       simp
      rw [Pc e1]
      by_cases e2:ia + k = X.size
      ·rw [Pb e2]
       refine Pe (.inl ⟨O ++ X.extract ia (ia + k) ++ X.extract (ia + k) X.size ++ Y.extract ib Y.size,?_,j.done2 (by lia) (by lia),sm⟩)
       simp
      rw [Pc e2]
      have la2:ia + k + 1 < X.size:=by lia
      have ls2:aV <= ia + k + ib:=by lia
      clear k2' k2 k3 eO e1 e2
      generalize O ++ X.extract ia (ia + k) = O at j ⊢
      generalize hia:ia + k = ia at j la2 ls2 ky ⊢
      clear la ls k1 hia
      rename_i ia0 _
      clear k0
      have la:=la2
      have ls:=ls2
      -- y0
      refine Pf (aM lb ?_)
      have j2:J le (X.toList ++ Y.toList) X Y (O.push (at' Y ib)) ia (ib + 1):=(j.sy.one lb fun i h1 h2=>ky i h1 h2).sy
      by_cases e3:ib + 1 = Y.size
      ·rw [Pb e3]
       refine Pe (.inl ⟨(O.push (at' Y ib)) ++ X.extract ia X.size ++ Y.extract (ib + 1) Y.size,?_,j2.done1 (by lia) (by lia),sm⟩)
       simp
      ·rw [Pc e3]
       refine Pf (aM (by lia) ?_)
       refine Pf (cD o hc sm.1 hy (hx ia (by lia)) (by lia) (by lia) (fun i k h1 h2=>sy _ _ (by lia) (by lia)) fun k k1 k2 k3=>?_)
       dsimp only
       have k2':∀ i,ib + 1 <= i -> i < ib + 1 + k -> le (at' Y i) (at' X ia):=fun i h1 h2=>by
        have:=k2 (i - (ib + 1)) (by lia)
        rwa [show ib + 1 + (i - (ib + 1)) = i by lia] at this
       have k3':∀ i,ib + 1 + k <= i -> i < Y.size -> le (at' X ia) (at' Y i):=fun i h1 h2=>by
        have:=k3 (i - (ib + 1)) (by lia) (by lia)
        rwa [show ib + 1 + (i - (ib + 1)) = i by lia] at this
       have j3:J le (X.toList ++ Y.toList) X Y (O.push (at' Y ib) ++ Y.extract (ib + 1) (ib + 1 + k)) ia (ib + 1 + k):=(j2.sy.blk fun i l h1 h2 h3 h4 h5=>o.tr _ _ _ (k2' i h1 h2) (sx _ _ h4 h5)).sy
       by_cases k0:k > 0
       ·rw [Pb k0]
        by_cases e4:ib + 1 + k = Y.size
        ·rw [Pb e4]
         refine Pe (.inl ⟨(O.push (at' Y ib)) ++ Y.extract (ib + 1) (ib + 1 + k) ++ X.extract ia X.size ++ Y.extract (ib + 1 + k) Y.size,?_,j3.done1 (by lia) (by lia),sm⟩)
         simp
        ·rw [Pc e4]
         refine Pf (aM (by lia) ?_)
         have j4:=j3.one (by lia) fun i h1 h2=>k3' i h1 h2
         by_cases e5:ia + 1 + 1 = X.size
         ·rw [Pb e5]
          refine Pe (.inl ⟨(O.push (at' Y ib) ++ Y.extract (ib + 1) (ib + 1 + k)).push (at' X ia) ++ Y.extract (ib + 1 + k) Y.size ++ X.extract (ia + 1) X.size,?_,j4.last (by lia) (by lia) (fun i hi=>by have:=hl i hi;rwa [show X.size - 1 = ia + 1 by lia] at this),sm⟩)
          simp
         ·rw [Pc e5]
          have fin:∀ m c d,∃ O' ia' ib' m' c' d',((none,((O.map (kas_item it)).push (kas_item it (at' Y ib)) ++ (Y.map (kas_item it)).extract (ib + 1) (ib + 1 + k)).push (kas_item it (at' X ia)),ia + 1,ib + 1 + k,m,c,d):Option (Array Keyed) × Array Keyed × Nat × Nat × Nat × Nat × Nat) = (none,O'.map (kas_item it),ia',ib',m',c',d') /\ ia' + 1 < X.size /\ ib' < Y.size /\ aV <= ia' + ib' /\ J le (X.toList ++ Y.toList) X Y O' ia' ib':=fun m c d=>⟨_,_,_,m,c,d,by rw [show (((O.map (kas_item it)).push (kas_item it (at' Y ib)) ++ (Y.map (kas_item it)).extract (ib + 1) (ib + 1 + k)).push (kas_item it (at' X ia))) = ((O.push (at' Y ib) ++ Y.extract (ib + 1) (ib + 1 + k)).push (at' X ia)).map (kas_item it) by simp],by lia,by lia,by lia,j4⟩
          refine bT ?_ ?_
          ·exact Pe (.inr ⟨sm,fin _ _ _⟩)
          ·exact Pe ⟨sm,fin _ _ _⟩
       ·rw [Pc k0]
        have k00:k = 0:=by lia
        subst k00
        have j3':J le (X.toList ++ Y.toList) X Y (O.push (at' Y ib)) ia (ib + 1):=j2
        refine Pf (aM (by lia) ?_)
        have j4:=j3'.one (by lia) fun i h1 h2=>k3' i (by lia) h2
        by_cases e5:ia + 1 + 1 = X.size
        ·rw [Pb e5]
         refine Pe (.inl ⟨(O.push (at' Y ib)).push (at' X ia) ++ Y.extract (ib + 1) Y.size ++ X.extract (ia + 1) X.size,?_,j4.last (by lia) (by lia) (fun i hi=>by have:=hl i hi;rwa [show X.size - 1 = ia + 1 by lia] at this),sm⟩)
         simp
        ·rw [Pc e5]
         have fin:∀ m c d,∃ O' ia' ib' m' c' d',((none,((O.map (kas_item it)).push (kas_item it (at' Y ib))).push (kas_item it (at' X ia)),ia + 1,ib + 1,m,c,d):Option (Array Keyed) × Array Keyed × Nat × Nat × Nat × Nat × Nat) = (none,O'.map (kas_item it),ia',ib',m',c',d') /\ ia' + 1 < X.size /\ ib' < Y.size /\ aV <= ia' + ib' /\ J le (X.toList ++ Y.toList) X Y O' ia' ib':=fun m c d=>⟨_,_,_,m,c,d,by rw [show ((O.map (kas_item it)).push (kas_item it (at' Y ib))).push (kas_item it (at' X ia)) = ((O.push (at' Y ib)).push (at' X ia)).map (kas_item it) by simp],by lia,by lia,by lia,j4⟩
         refine bT ?_ ?_
         ·exact Pe (.inr ⟨sm,fin _ _ _⟩)
         ·exact Pe ⟨sm,fin _ _ _⟩
     ·rw [Pc k0]
      have k00:k = 0:=by lia
      subst k00
      replace ky:∀ i,ia <= i -> i < X.size -> le (at' Y ib) (at' X i):=ky
      -- y0
      refine Pf (aM lb ?_)
      have j2:J le (X.toList ++ Y.toList) X Y (O.push (at' Y ib)) ia (ib + 1):=(j.sy.one lb fun i h1 h2=>ky i h1 h2).sy
      by_cases e3:ib + 1 = Y.size
      ·rw [Pb e3]
       refine Pe (.inl ⟨(O.push (at' Y ib)) ++ X.extract ia X.size ++ Y.extract (ib + 1) Y.size,?_,j2.done1 (by lia) (by lia),sm⟩)
       simp
      ·rw [Pc e3]
       refine Pf (aM (by lia) ?_)
       refine Pf (cD o hc sm.1 hy (hx ia (by lia)) (by lia) (by lia) (fun i k h1 h2=>sy _ _ (by lia) (by lia)) fun k k1 k2 k3=>?_)
       dsimp only
       have k2':∀ i,ib + 1 <= i -> i < ib + 1 + k -> le (at' Y i) (at' X ia):=fun i h1 h2=>by
        have:=k2 (i - (ib + 1)) (by lia)
        rwa [show ib + 1 + (i - (ib + 1)) = i by lia] at this
       have k3':∀ i,ib + 1 + k <= i -> i < Y.size -> le (at' X ia) (at' Y i):=fun i h1 h2=>by
        have:=k3 (i - (ib + 1)) (by lia) (by lia)
        rwa [show ib + 1 + (i - (ib + 1)) = i by lia] at this
       have j3:J le (X.toList ++ Y.toList) X Y (O.push (at' Y ib) ++ Y.extract (ib + 1) (ib + 1 + k)) ia (ib + 1 + k):=(j2.sy.blk fun i l h1 h2 h3 h4 h5=>o.tr _ _ _ (k2' i h1 h2) (sx _ _ h4 h5)).sy
       by_cases k0:k > 0
       ·rw [Pb k0]
        by_cases e4:ib + 1 + k = Y.size
        ·rw [Pb e4]
         refine Pe (.inl ⟨(O.push (at' Y ib)) ++ Y.extract (ib + 1) (ib + 1 + k) ++ X.extract ia X.size ++ Y.extract (ib + 1 + k) Y.size,?_,j3.done1 (by lia) (by lia),sm⟩)
         simp
        ·rw [Pc e4]
         refine Pf (aM (by lia) ?_)
         have j4:=j3.one (by lia) fun i h1 h2=>k3' i h1 h2
         by_cases e5:ia + 1 + 1 = X.size
         ·rw [Pb e5]
          refine Pe (.inl ⟨(O.push (at' Y ib) ++ Y.extract (ib + 1) (ib + 1 + k)).push (at' X ia) ++ Y.extract (ib + 1 + k) Y.size ++ X.extract (ia + 1) X.size,?_,j4.last (by lia) (by lia) (fun i hi=>by have:=hl i hi;rwa [show X.size - 1 = ia + 1 by lia] at this),sm⟩)
          simp
         ·rw [Pc e5]
          have fin:∀ m c d,∃ O' ia' ib' m' c' d',((none,((O.map (kas_item it)).push (kas_item it (at' Y ib)) ++ (Y.map (kas_item it)).extract (ib + 1) (ib + 1 + k)).push (kas_item it (at' X ia)),ia + 1,ib + 1 + k,m,c,d):Option (Array Keyed) × Array Keyed × Nat × Nat × Nat × Nat × Nat) = (none,O'.map (kas_item it),ia',ib',m',c',d') /\ ia' + 1 < X.size /\ ib' < Y.size /\ aV <= ia' + ib' /\ J le (X.toList ++ Y.toList) X Y O' ia' ib':=fun m c d=>⟨_,_,_,m,c,d,by rw [show (((O.map (kas_item it)).push (kas_item it (at' Y ib)) ++ (Y.map (kas_item it)).extract (ib + 1) (ib + 1 + k)).push (kas_item it (at' X ia))) = ((O.push (at' Y ib) ++ Y.extract (ib + 1) (ib + 1 + k)).push (at' X ia)).map (kas_item it) by simp],by lia,by lia,by lia,j4⟩
          refine bT ?_ ?_
          ·exact Pe (.inr ⟨sm,fin _ _ _⟩)
          ·exact Pe ⟨sm,fin _ _ _⟩
       ·rw [Pc k0]
        have k00:k = 0:=by lia
        subst k00
        have j3':J le (X.toList ++ Y.toList) X Y (O.push (at' Y ib)) ia (ib + 1):=j2
        refine Pf (aM (by lia) ?_)
        have j4:=j3'.one (by lia) fun i h1 h2=>k3' i (by lia) h2
        by_cases e5:ia + 1 + 1 = X.size
        ·rw [Pb e5]
         refine Pe (.inl ⟨(O.push (at' Y ib)).push (at' X ia) ++ Y.extract (ib + 1) Y.size ++ X.extract (ia + 1) X.size,?_,j4.last (by lia) (by lia) (fun i hi=>by have:=hl i hi;rwa [show X.size - 1 = ia + 1 by lia] at this),sm⟩)
         simp
        ·rw [Pc e5]
         have fin:∀ m c d,∃ O' ia' ib' m' c' d',((none,((O.map (kas_item it)).push (kas_item it (at' Y ib))).push (kas_item it (at' X ia)),ia + 1,ib + 1,m,c,d):Option (Array Keyed) × Array Keyed × Nat × Nat × Nat × Nat × Nat) = (none,O'.map (kas_item it),ia',ib',m',c',d') /\ ia' + 1 < X.size /\ ib' < Y.size /\ aV <= ia' + ib' /\ J le (X.toList ++ Y.toList) X Y O' ia' ib':=fun m c d=>⟨_,_,_,m,c,d,by rw [show ((O.map (kas_item it)).push (kas_item it (at' Y ib))).push (kas_item it (at' X ia)) = ((O.push (at' Y ib)).push (at' X ia)).map (kas_item it) by simp],by lia,by lia,by lia,j4⟩
         refine bT ?_ ?_
         ·exact Pe (.inr ⟨sm,fin _ _ _⟩)
         ·exact Pe ⟨sm,fin _ _ _⟩
end
section
variable {X Y O:Array Nat} {le:Nat -> Nat -> Prop} {tot:List Nat} {na nb:Nat}
theorem Db {i:Nat} (h:i < X.size):X.toList.take (i + 1) = X.toList.take i ++ [at' X i]:=by
 rw [List.take_succ_eq_append_getElem (by simpa using h),lr h]
theorem nq {i j:Nat} (h:i <= j):X.toList.take j = X.toList.take i ++ (X.extract i j).toList:=by
 rw [Rs,Rt]
 have e:j = i + (j - i):=by lia
 conv=>lhs;rw [e,List.take_add]
theorem vK {i x:Nat} (h:x ∈ X.toList.take i):∃ j,j < i /\ j < X.size /\ at' X j = x:=by
 obtain ⟨k,hk⟩:=Qn h
 rw [RL] at hk
 split at hk
 ·obtain ⟨h1,h2⟩:=PF.mp hk
  have h1':k < X.size:=by simpa using h1
  exact ⟨k,by lia,h1',by rw [<- lr h1'];exact h2⟩
 ·cases hk
abbrev JH (le:Nat -> Nat -> Prop) (tot:List Nat) (X Y O:Array Nat) (na nb:Nat):Prop:=Inv (fun a b=>le b a) tot O.toList (X.toList.take na).reverse (Y.toList.take nb).reverse
theorem JH.sy (j:JH le tot X Y O na nb):JH le tot Y X O nb na:=Inv.symm j
theorem JH.one (j:JH le tot X Y O na nb) (h:1 <= na) (h2:na <= X.size) (k:∀ i,i < nb -> le (at' Y i) (at' X (na - 1))):JH le tot X Y (O.push (at' X (na - 1))) (na - 1) nb:=by
 unfold JH at j ⊢
 obtain ⟨m,rfl⟩:∃ m,na = m + 1:=⟨na - 1,by lia⟩
 rw [Db (by lia),List.reverse_append] at j
 rw [Nat.add_sub_cancel] at k ⊢
 have:=Inv.block (xs:=[at' X m]) j (fun x hx y hy=>by
  rw [Pi] at hx
  subst hx
  obtain ⟨i,h1,h2,rfl⟩:=vK (RM.mp hy)
  exact k i h1)
 rwa [Q8]
theorem JH.blk {m:Nat} (j:JH le tot X Y O na nb) (h:m <= na) (h2:na <= X.size) (k:∀ i l,m <= i -> i < na -> l < nb -> le (at' Y l) (at' X i)):JH le tot X Y (O ++ (X.extract m na).reverse) m nb:=by
 unfold JH at j ⊢
 rw [nq h,List.reverse_append] at j
 have:=Inv.block j (fun x hx y hy=>by
  obtain ⟨i,h1,h2,h3,rfl⟩:=ui (RM.mp hx)
  obtain ⟨l,h4,h5,rfl⟩:=vK (RM.mp hy)
  exact k i l h1 h2 h4)
 rwa [QX,Array.toList_reverse]
theorem Ad {l r:List Nat} (h:l.Pairwise (fun a b=>le b a) /\ l.Perm tot) (e:l = r.reverse):r.Pairwise le /\ r.Perm tot:=by
 subst e
 exact ⟨R7.mp h.1,(List.reverse_perm _).symm.trans h.2⟩
theorem K2 (m:Nat):(X.extract 0 m).toList = X.toList.take m:=by rw [Rs,Rt];simp
theorem JH.done1 (j:JH le tot X Y O na nb) (h:nb = 0) (h2:na <= X.size):l9 le tot (X.extract 0 na ++ Y.extract 0 nb ++ O.reverse):=by
 subst h
 refine Ad (l:=O.toList ++ (X.toList.take na).reverse) (Inv.doneA (by unfold JH at j;simpa using j)) ?_
 simp [K2]
theorem JH.done2 (j:JH le tot X Y O na nb) (h:na = 0) (h2:nb <= Y.size):l9 le tot (X.extract 0 na ++ Y.extract 0 nb ++ O.reverse):=by
 have:=j.sy.done1 h h2
 subst h
 simpa using this
theorem JH.first (j:JH le tot X Y O na nb) (h:nb = 1) (y1:1 <= Y.size) (h2:na <= X.size) (k:∀ i,i < X.size -> le (at' Y 0) (at' X i)):l9 le tot (Y.extract 0 nb ++ X.extract 0 na ++ O.reverse):=by
 subst h
 have e:Y.toList.take 1 = [at' Y 0]:=by rw [Db (i:=0) (by lia)];simp
 have j2:Inv (fun a b=>le b a) tot O.toList [at' Y 0] (X.toList.take na).reverse:=by have:=j.sy;unfold JH at this;rw [e] at this;exact this
 refine Ad (j2.lastA fun y hy=>?_) ?_
 ·obtain ⟨i,h1,h2,rfl⟩:=vK (RM.mp hy)
  exact k i h2
 ·rw [QX,QX,K2,K2,e]
  simp
end
section
variable {prog:Program} {w:World} {A:Around} {E:Value -> Shared -> Prop} {s:Shared} {κ:SortKind} {it:Array Keyed} {n:Nat} {lt:Nat -> Nat -> Bool} {le:Nat -> Nat -> Prop}
theorem EZ (o:Ord lt le) (hc:wA prog w A s κ it n lt) {X Y:Array Nat} {Q:Array Keyed -> SortSt -> Prop} {st:SortSt} (hk:kindOf st = κ) (hx:∀ i,i < X.size -> at' X i < n) (hy:∀ i,i < Y.size -> at' Y i < n)
  (x1:1 <= X.size) (y1:1 <= Y.size) (sx:∀ i j,i <= j -> j < X.size -> le (at' X i) (at' X j)) (sy:∀ i j,i <= j -> j < Y.size -> le (at' Y i) (at' Y j)) (hf:∀ i,i < X.size -> le (at' Y 0) (at' X i)) (hl:∀ i,i < Y.size -> le (at' Y i) (at' X (X.size - 1)))
  (h:∀ R st',Same κ st st' -> l9 le (X.toList ++ Y.toList) R -> Q (R.map (kas_item it)) st') :
  wpS (model prog w) A E s (FN (X.map (kas_item it)) (Y.map (kas_item it))) Q st:=by
 have sm0:Same κ st st:=⟨hk,rfl,rfl,rfl⟩
 have j0:JH le (X.toList ++ Y.toList) X Y #[] X.size Y.size:=by
  have ex:X.toList.take X.size = X.toList:=Rv (by simp)
  have ey:Y.toList.take Y.size = Y.toList:=Rv (by simp)
  unfold JH
  rw [ex,ey]
  exact ⟨by simpa using R7.mpr (C6 sx),by simpa using R7.mpr (C6 sy),by simpa using (List.reverse_perm X.toList).append (List.reverse_perm Y.toList)⟩
 have j1:JH le (X.toList ++ Y.toList) X Y #[at' X (X.size - 1)] (X.size - 1) Y.size:=j0.one x1 (Pj _) fun i h2=>hl i h2
 refine Pf (QN (QE ⟨rfl,?_⟩))
 dsimp only
 simp only [Array.size_map,Qf]
 refine Pf (aM (X:=X) (by lia) ?_)
 by_cases e1:X.size - 1 = 0
 ·rw [Pb e1]
  refine Pe ?_
  have:=h _ st sm0 (j1.done2 e1 (by lia))
  simpa [exm] using this
 rw [Pc e1]
 by_cases e2:Y.size = 1
 ·rw [Pb e2]
  refine Pe ?_
  have:=h _ st sm0 (j1.first e2 (by lia) (by lia) hf)
  simpa [exm] using this
 rw [Pc e2]
 refine Pf (Qj ?_)
 refine Pf (PU (PV (I:=fun x c st2=>Same κ st st2 /\ ∃ O na nb g,c = (none,na,nb,O.map (kas_item it),g) /\ 1 <= na /\ 1 < nb /\ na < X.size /\ nb <= Y.size /\ na + nb + (x + 1) <= X.size + Y.size /\ JH le (X.toList ++ Y.toList) X Y O na nb)
  (Q:=fun c st2=>∃ R,c.1 = some (R.map (kas_item it)) /\ l9 le (X.toList ++ Y.toList) R /\ Same κ st st2) ?s1 ?f1 ?i1) ?p1)
 case i1=>exact ⟨sm0,#[at' X (X.size - 1)],X.size - 1,Y.size,_,by simp;rfl,by lia,by lia,by lia,by lia,by lia,j1⟩
 case f1=>
  rintro c st2 ⟨sm,O,na,nb,g,rfl,la,lb,lx,ly,ls,j⟩
  lia
 case p1=>
  rintro ⟨c,c'⟩ st2 ⟨R,hc1,hR,sm⟩
  dsimp only at hc1
  subst hc1
  exact Pe (h R st2 sm hR)
 case s1=>
  rintro x c st2 _ hx0 ⟨sm,O,na,nb,g,rfl,la,lb,lx,ly,ls,j⟩
  dsimp only
  refine Pf (PU (PV (I:=fun y c st2=>Same κ st st2 /\ ∃ O na nb a b,c = (none,na,nb,O.map (kas_item it),a,b) /\ 1 <= na /\ 1 < nb /\ na < X.size /\ nb <= Y.size /\ na + nb + (x + 1 + y) <= X.size + Y.size /\ JH le (X.toList ++ Y.toList) X Y O na nb)
   (Q:=fun c st2=>(∃ R,c.1 = some (R.map (kas_item it)) /\ l9 le (X.toList ++ Y.toList) R /\ Same κ st st2) \/ (Same κ st st2 /\ ∃ O na nb a b,c = (none,na,nb,O.map (kas_item it),a,b) /\ 1 <= na /\ 1 < nb /\ na < X.size /\ nb <= Y.size /\ na + nb + (x + 1 + 1) <= X.size + Y.size /\ JH le (X.toList ++ Y.toList) X Y O na nb)) ?s2 ?f2 ?i2) ?p2)
  case i2=>exact ⟨sm,O,na,nb,0,0,rfl,la,lb,lx,ly,ls,j⟩
  case f2=>
   rintro c st2 ⟨sm,O,na,nb,a,b,rfl,la,lb,lx,ly,ls,j⟩
   lia
  case s2=>
   clear la lb lx ly ls j sm
   rintro y c st2 _ hy0 ⟨sm,O,na,nb,a,b,rfl,la,lb,lx,ly,ls,j⟩
   dsimp only
   refine Pf (aM (by lia) ?_)
   refine Pf (aM (by lia) ?_)
   refine Pf (w_lt hc sm.1 (hy (nb - 1) (by lia)) (hx (na - 1) (by lia)) ?_)
   dsimp only
   cases cw:lt (at' Y (nb - 1)) (at' X (na - 1)) with
   | true=>
    rw [Pb rfl]
    have l0:=o.yes _ _ cw
    have j2:=j.one la (by lia) fun i h1=>o.tr _ _ _ (sy i (nb - 1) (by lia) (by lia)) l0
    refine Pf (aM (by lia) ?_)
    by_cases e3:na - 1 = 0
    ·rw [Pb e3]
     refine Pe (.inl ⟨X.extract 0 (na - 1) ++ Y.extract 0 nb ++ (O.push (at' X (na - 1))).reverse,?_,j2.done2 e3 (by lia),sm⟩)
     simp [PH]
    ·rw [Pc e3]
     refine bT ?_ ?_
     ·exact Pe (.inr ⟨sm,O.push (at' X (na - 1)),na - 1,nb,_,_,by rw [QO],by lia,by lia,by lia,by lia,by lia,j2⟩)
     ·exact Pe ⟨sm,O.push (at' X (na - 1)),na - 1,nb,_,_,by rw [QO],by lia,by lia,by lia,by lia,by lia,j2⟩
   | false=>
    rw [Pc (by decide)]
    have l0:=o.no _ _ cw
    have j2:JH le (X.toList ++ Y.toList) X Y (O.push (at' Y (nb - 1))) na (nb - 1):=(j.sy.one (by lia) (by lia) fun i h1=>o.tr _ _ _ (sx i (na - 1) (by lia) (by lia)) l0).sy
    refine Pf (aM (by lia) ?_)
    by_cases e3:nb - 1 = 1
    ·rw [Pb e3]
     refine Pe (.inl ⟨Y.extract 0 (nb - 1) ++ X.extract 0 na ++ (O.push (at' Y (nb - 1))).reverse,?_,j2.first e3 (by lia) (by lia) hf,sm⟩)
     simp [PH]
    ·rw [Pc e3]
     refine bT ?_ ?_
     ·exact Pe (.inr ⟨sm,O.push (at' Y (nb - 1)),na,nb - 1,_,_,by rw [QO],by lia,by lia,by lia,by lia,by lia,j2⟩)
     ·exact Pe ⟨sm,O.push (at' Y (nb - 1)),na,nb - 1,_,_,by rw [QO],by lia,by lia,by lia,by lia,by lia,j2⟩
  case p2=>
   clear la lb lx ly ls j sm
   rintro ⟨c,c'⟩ st2 (⟨R,hc1,hR,sm⟩ | ⟨sm,O,na,nb,a,b,hcc,la,lb,lx,ly,ls,j⟩)
   ·dsimp only at hc1
    subst hc1
    exact Pe ⟨R,rfl,hR,sm⟩
   cases hcc
   dsimp only
   refine Pf (QN (QE ⟨rfl,?_⟩))
   have hst:∃ aV,aV = x + 1 + 1:=⟨_,rfl⟩
   obtain ⟨aV,hst⟩:=hst
   rw [<- hst] at ls
   refine Pf (PU (PV (I:=fun y c st2=>Same κ st st2 /\ ∃ O na nb m a b,c = (none,na,nb,O.map (kas_item it),m,a,b) /\ 1 <= na /\ 1 < nb /\ na < X.size /\ nb <= Y.size /\ na + nb + aV <= X.size + Y.size /\ JH le (X.toList ++ Y.toList) X Y O na nb)
    (Q:=fun c st2=>(∃ R,c.1 = some (R.map (kas_item it)) /\ l9 le (X.toList ++ Y.toList) R /\ Same κ st st2) \/ (Same κ st st2 /\ ∃ O na nb m a b,c = (none,na,nb,O.map (kas_item it),m,a,b) /\ 1 <= na /\ 1 < nb /\ na < X.size /\ nb <= Y.size /\ na + nb + aV <= X.size + Y.size /\ JH le (X.toList ++ Y.toList) X Y O na nb)) ?s3 ?f3 ?i3) ?p3)
   case i3=>exact ⟨sm,O,na,nb,_,_,_,rfl,la,lb,lx,ly,ls,j⟩
   case f3=>exact fun c st2 h=>.inr h
   case p3=>
    clear la lb lx ly ls j sm
    rintro ⟨c,c'⟩ st2 (⟨R,hc1,hR,sm⟩ | ⟨sm,O,na,nb,m,a,b,hcc,la,lb,lx,ly,ls,j⟩)
    ·dsimp only at hc1
     subst hc1
     exact Pe ⟨R,rfl,hR,sm⟩
    cases hcc
    dsimp only
    refine Pf (Qd (Pe ?_))
    exact ⟨sm.g _,O,na,nb,_,rfl,la,lb,lx,ly,by lia,j⟩
   case s3=>
    clear la lb lx ly ls j sm
    rintro y c st2 _ hy0 ⟨sm,O,na,nb,m,a,b,rfl,la,lb,lx,ly,ls,j⟩
    dsimp only
    by_cases hm:m > 1
    ·rw [Pb hm]
     refine Pf (Qd ?_)
     replace sm:=sm.g (m - 1)
     refine Pf (aM (by lia) ?_)
     refine Pf (cD o hc sm.1 hx (hy (nb - 1) (by lia)) (by lia) (by lia) (fun i k h1 h2=>sx _ _ (by lia) (by lia)) fun k k1 k2 k3=>?_)
     dsimp only
     simp only [QP] at k2 k3
     by_cases k0:na - k > 0
     ·rw [Pb k0]
      replace j:=j.blk (m:=k) (by lia) (by lia) fun i l h1 h2 h3=>o.tr _ _ _ (sy l (nb - 1) (by lia) (by lia)) (k3 i h1 h2)
      have eO:O.map (kas_item it) ++ ((X.map (kas_item it)).extract k na).reverse = (O ++ (X.extract k na).reverse).map (kas_item it):=by simp [PH]
      rw [eO]
      by_cases e1:k = 0
      ·rw [Pb e1]
       refine Pe (.inl ⟨X.extract 0 k ++ Y.extract 0 nb ++ (O ++ (X.extract k na).reverse).reverse,?_,j.done2 e1 (by lia),sm⟩)
       simp [PH]
      rw [Pc e1]
      have la2:1 <= k:=by lia
      have lx2:k < X.size:=by lia
      have ls2:k + nb + aV <= X.size + Y.size:=by lia
      have ky:∀ i,i < k -> le (at' X i) (at' Y (nb - 1)):=k2
      clear k2 k3 eO e1
      generalize O ++ (X.extract k na).reverse = O at j ⊢
      generalize na - k = kk at k0 ⊢
      clear k0 k1 la lx ls
      have la:=la2
      have lx:=lx2
      have ls:=ls2
      clear la2 lx2 ls2
      obtain ⟨na,hna⟩:∃ na,na = k:=⟨k,rfl⟩
      subst hna
      refine Pf (aM (by lia) ?_)
      have j2:JH le (X.toList ++ Y.toList) X Y (O.push (at' Y (nb - 1))) na (nb - 1):=(j.sy.one (by lia) (by lia) fun i h1=>ky i h1).sy
      by_cases e3:nb - 1 = 1
      ·rw [Pb e3]
       refine Pe (.inl ⟨Y.extract 0 (nb - 1) ++ X.extract 0 na ++ (O.push (at' Y (nb - 1))).reverse,?_,j2.first e3 (by lia) (by lia) hf,sm⟩)
       simp [PH]
      ·rw [Pc e3]
       refine Pf (aM (by lia) ?_)
       refine Pf (cD o hc sm.1 hy (hx (na - 1) (by lia)) (by lia) (by lia) (fun i k h1 h2=>sy _ _ (by lia) (by lia)) fun k k1 k2 k3=>?_)
       dsimp only
       simp only [QP] at k2 k3
       have j3:JH le (X.toList ++ Y.toList) X Y (O.push (at' Y (nb - 1)) ++ (Y.extract k (nb - 1)).reverse) na k:=(j2.sy.blk (by lia) (by lia) fun i l h1 h2 h3=>o.tr _ _ _ (sx l (na - 1) (by lia) (by lia)) (k3 i h1 h2)).sy
       by_cases k0:nb - 1 - k > 0
       ·rw [Pb k0]
        by_cases e4:k = 1
        ·rw [Pb e4]
         refine Pe (.inl ⟨Y.extract 0 k ++ X.extract 0 na ++ (O.push (at' Y (nb - 1)) ++ (Y.extract k (nb - 1)).reverse).reverse,?_,j3.first e4 (by lia) (by lia) hf,sm⟩)
         simp [PH]
        rw [Pc e4]
        by_cases e5:k = 0
        ·rw [Pb e5]
         refine Pe (.inl ⟨X.extract 0 na ++ Y.extract 0 k ++ (O.push (at' Y (nb - 1)) ++ (Y.extract k (nb - 1)).reverse).reverse,?_,j3.done1 e5 (by lia),sm⟩)
         simp [PH]
        rw [Pc e5]
        refine Pf (aM (by lia) ?_)
        have j4:=j3.one (by lia) (by lia) fun i h1=>k2 i h1
        have eO:((O.map (kas_item it)).push (kas_item it (at' Y (nb - 1))) ++ ((Y.map (kas_item it)).extract k (nb - 1)).reverse).push (kas_item it (at' X (na - 1))) = ((O.push (at' Y (nb - 1)) ++ (Y.extract k (nb - 1)).reverse).push (at' X (na - 1))).map (kas_item it):=by simp [PH]
        by_cases e6:na - 1 = 0
        ·rw [Pb e6]
         refine Pe (.inl ⟨X.extract 0 (na - 1) ++ Y.extract 0 k ++ ((O.push (at' Y (nb - 1)) ++ (Y.extract k (nb - 1)).reverse).push (at' X (na - 1))).reverse,?_,j4.done2 e6 (by lia),sm⟩)
         simp [PH]
        ·rw [Pc e6]
         have fin:∀ m c d,∃ O' na' nb' m' c' d',((none,na - 1,k,((O.map (kas_item it)).push (kas_item it (at' Y (nb - 1))) ++ ((Y.map (kas_item it)).extract k (nb - 1)).reverse).push (kas_item it (at' X (na - 1))),m,c,d):Option (Array Keyed) × Nat × Nat × Array Keyed × Nat × Nat × Nat) = (none,na',nb',O'.map (kas_item it),m',c',d') /\ 1 <= na' /\ 1 < nb' /\ na' < X.size /\ nb' <= Y.size /\ na' + nb' + aV <= X.size + Y.size /\ JH le (X.toList ++ Y.toList) X Y O' na' nb':=fun m c d=>⟨_,_,_,m,c,d,by rw [eO],by lia,by lia,by lia,by lia,by lia,j4⟩
         refine bT ?_ ?_
         ·exact Pe (.inr ⟨sm,fin _ _ _⟩)
         ·exact Pe ⟨sm,fin _ _ _⟩
       ·rw [Pc k0]
        have k00:k = nb - 1:=by lia
        subst k00
        refine Pf (aM (by lia) ?_)
        have j4:=j2.one (by lia) (by lia) fun i h1=>k2 i h1
        have eO:((O.map (kas_item it)).push (kas_item it (at' Y (nb - 1)))).push (kas_item it (at' X (na - 1))) = ((O.push (at' Y (nb - 1))).push (at' X (na - 1))).map (kas_item it):=by simp
        by_cases e6:na - 1 = 0
        ·rw [Pb e6]
         refine Pe (.inl ⟨X.extract 0 (na - 1) ++ Y.extract 0 (nb - 1) ++ ((O.push (at' Y (nb - 1))).push (at' X (na - 1))).reverse,?_,j4.done2 e6 (by lia),sm⟩)
         simp [PH]
        ·rw [Pc e6]
         have fin:∀ m c d,∃ O' na' nb' m' c' d',((none,na - 1,nb - 1,((O.map (kas_item it)).push (kas_item it (at' Y (nb - 1)))).push (kas_item it (at' X (na - 1))),m,c,d):Option (Array Keyed) × Nat × Nat × Array Keyed × Nat × Nat × Nat) = (none,na',nb',O'.map (kas_item it),m',c',d') /\ 1 <= na' /\ 1 < nb' /\ na' < X.size /\ nb' <= Y.size /\ na' + nb' + aV <= X.size + Y.size /\ JH le (X.toList ++ Y.toList) X Y O' na' nb':=fun m c d=>⟨_,_,_,m,c,d,by rw [eO],by lia,by lia,by lia,by lia,by lia,j4⟩
         refine bT ?_ ?_
         ·exact Pe (.inr ⟨sm,fin _ _ _⟩)
         ·exact Pe ⟨sm,fin _ _ _⟩
     ·rw [Pc k0]
      have k00:na = k:=by lia
      subst k00
      have ky:∀ i,i < na -> le (at' X i) (at' Y (nb - 1)):=k2
      refine Pf (aM (by lia) ?_)
      have j2:JH le (X.toList ++ Y.toList) X Y (O.push (at' Y (nb - 1))) na (nb - 1):=(j.sy.one (by lia) (by lia) fun i h1=>ky i h1).sy
      by_cases e3:nb - 1 = 1
      ·rw [Pb e3]
       refine Pe (.inl ⟨Y.extract 0 (nb - 1) ++ X.extract 0 na ++ (O.push (at' Y (nb - 1))).reverse,?_,j2.first e3 (by lia) (by lia) hf,sm⟩)
       simp [PH]
      ·rw [Pc e3]
       refine Pf (aM (by lia) ?_)
       refine Pf (cD o hc sm.1 hy (hx (na - 1) (by lia)) (by lia) (by lia) (fun i k h1 h2=>sy _ _ (by lia) (by lia)) fun k k1 k2 k3=>?_)
       dsimp only
       simp only [QP] at k2 k3
       have j3:JH le (X.toList ++ Y.toList) X Y (O.push (at' Y (nb - 1)) ++ (Y.extract k (nb - 1)).reverse) na k:=(j2.sy.blk (by lia) (by lia) fun i l h1 h2 h3=>o.tr _ _ _ (sx l (na - 1) (by lia) (by lia)) (k3 i h1 h2)).sy
       by_cases k0:nb - 1 - k > 0
       ·rw [Pb k0]
        by_cases e4:k = 1
        ·rw [Pb e4]
         refine Pe (.inl ⟨Y.extract 0 k ++ X.extract 0 na ++ (O.push (at' Y (nb - 1)) ++ (Y.extract k (nb - 1)).reverse).reverse,?_,j3.first e4 (by lia) (by lia) hf,sm⟩)
         simp [PH]
        rw [Pc e4]
        by_cases e5:k = 0
        ·rw [Pb e5]
         refine Pe (.inl ⟨X.extract 0 na ++ Y.extract 0 k ++ (O.push (at' Y (nb - 1)) ++ (Y.extract k (nb - 1)).reverse).reverse,?_,j3.done1 e5 (by lia),sm⟩)
         simp [PH]
        rw [Pc e5]
        refine Pf (aM (by lia) ?_)
        have j4:=j3.one (by lia) (by lia) fun i h1=>k2 i h1
        have eO:((O.map (kas_item it)).push (kas_item it (at' Y (nb - 1))) ++ ((Y.map (kas_item it)).extract k (nb - 1)).reverse).push (kas_item it (at' X (na - 1))) = ((O.push (at' Y (nb - 1)) ++ (Y.extract k (nb - 1)).reverse).push (at' X (na - 1))).map (kas_item it):=by simp [PH]
        by_cases e6:na - 1 = 0
        ·rw [Pb e6]
         refine Pe (.inl ⟨X.extract 0 (na - 1) ++ Y.extract 0 k ++ ((O.push (at' Y (nb - 1)) ++ (Y.extract k (nb - 1)).reverse).push (at' X (na - 1))).reverse,?_,j4.done2 e6 (by lia),sm⟩)
         simp [PH]
        ·rw [Pc e6]
         have fin:∀ m c d,∃ O' na' nb' m' c' d',((none,na - 1,k,((O.map (kas_item it)).push (kas_item it (at' Y (nb - 1))) ++ ((Y.map (kas_item it)).extract k (nb - 1)).reverse).push (kas_item it (at' X (na - 1))),m,c,d):Option (Array Keyed) × Nat × Nat × Array Keyed × Nat × Nat × Nat) = (none,na',nb',O'.map (kas_item it),m',c',d') /\ 1 <= na' /\ 1 < nb' /\ na' < X.size /\ nb' <= Y.size /\ na' + nb' + aV <= X.size + Y.size /\ JH le (X.toList ++ Y.toList) X Y O' na' nb':=fun m c d=>⟨_,_,_,m,c,d,by rw [eO],by lia,by lia,by lia,by lia,by lia,j4⟩
         refine bT ?_ ?_
         ·exact Pe (.inr ⟨sm,fin _ _ _⟩)
         ·exact Pe ⟨sm,fin _ _ _⟩
       ·rw [Pc k0]
        have k00:k = nb - 1:=by lia
        subst k00
        refine Pf (aM (by lia) ?_)
        have j4:=j2.one (by lia) (by lia) fun i h1=>k2 i h1
        have eO:((O.map (kas_item it)).push (kas_item it (at' Y (nb - 1)))).push (kas_item it (at' X (na - 1))) = ((O.push (at' Y (nb - 1))).push (at' X (na - 1))).map (kas_item it):=by simp
        by_cases e6:na - 1 = 0
        ·rw [Pb e6]
         refine Pe (.inl ⟨X.extract 0 (na - 1) ++ Y.extract 0 (nb - 1) ++ ((O.push (at' Y (nb - 1))).push (at' X (na - 1))).reverse,?_,j4.done2 e6 (by lia),sm⟩)
         simp [PH]
        ·rw [Pc e6]
         have fin:∀ m c d,∃ O' na' nb' m' c' d',((none,na - 1,nb - 1,((O.map (kas_item it)).push (kas_item it (at' Y (nb - 1)))).push (kas_item it (at' X (na - 1))),m,c,d):Option (Array Keyed) × Nat × Nat × Array Keyed × Nat × Nat × Nat) = (none,na',nb',O'.map (kas_item it),m',c',d') /\ 1 <= na' /\ 1 < nb' /\ na' < X.size /\ nb' <= Y.size /\ na' + nb' + aV <= X.size + Y.size /\ JH le (X.toList ++ Y.toList) X Y O' na' nb':=fun m c d=>⟨_,_,_,m,c,d,by rw [eO],by lia,by lia,by lia,by lia,by lia,j4⟩
         refine bT ?_ ?_
         ·exact Pe (.inr ⟨sm,fin _ _ _⟩)
         ·exact Pe ⟨sm,fin _ _ _⟩
    ·rw [Pc hm]
     refine Pf (Qd ?_)
     replace sm:=sm.g (m)
     refine Pf (aM (by lia) ?_)
     refine Pf (cD o hc sm.1 hx (hy (nb - 1) (by lia)) (by lia) (by lia) (fun i k h1 h2=>sx _ _ (by lia) (by lia)) fun k k1 k2 k3=>?_)
     dsimp only
     simp only [QP] at k2 k3
     by_cases k0:na - k > 0
     ·rw [Pb k0]
      replace j:=j.blk (m:=k) (by lia) (by lia) fun i l h1 h2 h3=>o.tr _ _ _ (sy l (nb - 1) (by lia) (by lia)) (k3 i h1 h2)
      have eO:O.map (kas_item it) ++ ((X.map (kas_item it)).extract k na).reverse = (O ++ (X.extract k na).reverse).map (kas_item it):=by simp [PH]
      rw [eO]
      by_cases e1:k = 0
      ·rw [Pb e1]
       refine Pe (.inl ⟨X.extract 0 k ++ Y.extract 0 nb ++ (O ++ (X.extract k na).reverse).reverse,?_,j.done2 e1 (by lia),sm⟩)
       simp [PH]
      rw [Pc e1]
      have la2:1 <= k:=by lia
      have lx2:k < X.size:=by lia
      have ls2:k + nb + aV <= X.size + Y.size:=by lia
      have ky:∀ i,i < k -> le (at' X i) (at' Y (nb - 1)):=k2
      clear k2 k3 eO e1
      generalize O ++ (X.extract k na).reverse = O at j ⊢
      generalize na - k = kk at k0 ⊢
      clear k0 k1 la lx ls
      have la:=la2
      have lx:=lx2
      have ls:=ls2
      clear la2 lx2 ls2
      obtain ⟨na,hna⟩:∃ na,na = k:=⟨k,rfl⟩
      subst hna
      refine Pf (aM (by lia) ?_)
      have j2:JH le (X.toList ++ Y.toList) X Y (O.push (at' Y (nb - 1))) na (nb - 1):=(j.sy.one (by lia) (by lia) fun i h1=>ky i h1).sy
      by_cases e3:nb - 1 = 1
      ·rw [Pb e3]
       refine Pe (.inl ⟨Y.extract 0 (nb - 1) ++ X.extract 0 na ++ (O.push (at' Y (nb - 1))).reverse,?_,j2.first e3 (by lia) (by lia) hf,sm⟩)
       simp [PH]
      ·rw [Pc e3]
       refine Pf (aM (by lia) ?_)
       refine Pf (cD o hc sm.1 hy (hx (na - 1) (by lia)) (by lia) (by lia) (fun i k h1 h2=>sy _ _ (by lia) (by lia)) fun k k1 k2 k3=>?_)
       dsimp only
       simp only [QP] at k2 k3
       have j3:JH le (X.toList ++ Y.toList) X Y (O.push (at' Y (nb - 1)) ++ (Y.extract k (nb - 1)).reverse) na k:=(j2.sy.blk (by lia) (by lia) fun i l h1 h2 h3=>o.tr _ _ _ (sx l (na - 1) (by lia) (by lia)) (k3 i h1 h2)).sy
       by_cases k0:nb - 1 - k > 0
       ·rw [Pb k0]
        by_cases e4:k = 1
        ·rw [Pb e4]
         refine Pe (.inl ⟨Y.extract 0 k ++ X.extract 0 na ++ (O.push (at' Y (nb - 1)) ++ (Y.extract k (nb - 1)).reverse).reverse,?_,j3.first e4 (by lia) (by lia) hf,sm⟩)
         simp [PH]
        rw [Pc e4]
        by_cases e5:k = 0
        ·rw [Pb e5]
         refine Pe (.inl ⟨X.extract 0 na ++ Y.extract 0 k ++ (O.push (at' Y (nb - 1)) ++ (Y.extract k (nb - 1)).reverse).reverse,?_,j3.done1 e5 (by lia),sm⟩)
         simp [PH]
        rw [Pc e5]
        refine Pf (aM (by lia) ?_)
        have j4:=j3.one (by lia) (by lia) fun i h1=>k2 i h1
        have eO:((O.map (kas_item it)).push (kas_item it (at' Y (nb - 1))) ++ ((Y.map (kas_item it)).extract k (nb - 1)).reverse).push (kas_item it (at' X (na - 1))) = ((O.push (at' Y (nb - 1)) ++ (Y.extract k (nb - 1)).reverse).push (at' X (na - 1))).map (kas_item it):=by simp [PH]
        by_cases e6:na - 1 = 0
        ·rw [Pb e6]
         refine Pe (.inl ⟨X.extract 0 (na - 1) ++ Y.extract 0 k ++ ((O.push (at' Y (nb - 1)) ++ (Y.extract k (nb - 1)).reverse).push (at' X (na - 1))).reverse,?_,j4.done2 e6 (by lia),sm⟩)
         simp [PH]
        ·rw [Pc e6]
         have fin:∀ m c d,∃ O' na' nb' m' c' d',((none,na - 1,k,((O.map (kas_item it)).push (kas_item it (at' Y (nb - 1))) ++ ((Y.map (kas_item it)).extract k (nb - 1)).reverse).push (kas_item it (at' X (na - 1))),m,c,d):Option (Array Keyed) × Nat × Nat × Array Keyed × Nat × Nat × Nat) = (none,na',nb',O'.map (kas_item it),m',c',d') /\ 1 <= na' /\ 1 < nb' /\ na' < X.size /\ nb' <= Y.size /\ na' + nb' + aV <= X.size + Y.size /\ JH le (X.toList ++ Y.toList) X Y O' na' nb':=fun m c d=>⟨_,_,_,m,c,d,by rw [eO],by lia,by lia,by lia,by lia,by lia,j4⟩
         refine bT ?_ ?_
         ·exact Pe (.inr ⟨sm,fin _ _ _⟩)
         ·exact Pe ⟨sm,fin _ _ _⟩
       ·rw [Pc k0]
        have k00:k = nb - 1:=by lia
        subst k00
        refine Pf (aM (by lia) ?_)
        have j4:=j2.one (by lia) (by lia) fun i h1=>k2 i h1
        have eO:((O.map (kas_item it)).push (kas_item it (at' Y (nb - 1)))).push (kas_item it (at' X (na - 1))) = ((O.push (at' Y (nb - 1))).push (at' X (na - 1))).map (kas_item it):=by simp
        by_cases e6:na - 1 = 0
        ·rw [Pb e6]
         refine Pe (.inl ⟨X.extract 0 (na - 1) ++ Y.extract 0 (nb - 1) ++ ((O.push (at' Y (nb - 1))).push (at' X (na - 1))).reverse,?_,j4.done2 e6 (by lia),sm⟩)
         simp [PH]
        ·rw [Pc e6]
         have fin:∀ m c d,∃ O' na' nb' m' c' d',((none,na - 1,nb - 1,((O.map (kas_item it)).push (kas_item it (at' Y (nb - 1)))).push (kas_item it (at' X (na - 1))),m,c,d):Option (Array Keyed) × Nat × Nat × Array Keyed × Nat × Nat × Nat) = (none,na',nb',O'.map (kas_item it),m',c',d') /\ 1 <= na' /\ 1 < nb' /\ na' < X.size /\ nb' <= Y.size /\ na' + nb' + aV <= X.size + Y.size /\ JH le (X.toList ++ Y.toList) X Y O' na' nb':=fun m c d=>⟨_,_,_,m,c,d,by rw [eO],by lia,by lia,by lia,by lia,by lia,j4⟩
         refine bT ?_ ?_
         ·exact Pe (.inr ⟨sm,fin _ _ _⟩)
         ·exact Pe ⟨sm,fin _ _ _⟩
     ·rw [Pc k0]
      have k00:na = k:=by lia
      subst k00
      have ky:∀ i,i < na -> le (at' X i) (at' Y (nb - 1)):=k2
      refine Pf (aM (by lia) ?_)
      have j2:JH le (X.toList ++ Y.toList) X Y (O.push (at' Y (nb - 1))) na (nb - 1):=(j.sy.one (by lia) (by lia) fun i h1=>ky i h1).sy
      by_cases e3:nb - 1 = 1
      ·rw [Pb e3]
       refine Pe (.inl ⟨Y.extract 0 (nb - 1) ++ X.extract 0 na ++ (O.push (at' Y (nb - 1))).reverse,?_,j2.first e3 (by lia) (by lia) hf,sm⟩)
       simp [PH]
      ·rw [Pc e3]
       refine Pf (aM (by lia) ?_)
       refine Pf (cD o hc sm.1 hy (hx (na - 1) (by lia)) (by lia) (by lia) (fun i k h1 h2=>sy _ _ (by lia) (by lia)) fun k k1 k2 k3=>?_)
       dsimp only
       simp only [QP] at k2 k3
       have j3:JH le (X.toList ++ Y.toList) X Y (O.push (at' Y (nb - 1)) ++ (Y.extract k (nb - 1)).reverse) na k:=(j2.sy.blk (by lia) (by lia) fun i l h1 h2 h3=>o.tr _ _ _ (sx l (na - 1) (by lia) (by lia)) (k3 i h1 h2)).sy
       by_cases k0:nb - 1 - k > 0
       ·rw [Pb k0]
        by_cases e4:k = 1
        ·rw [Pb e4]
         refine Pe (.inl ⟨Y.extract 0 k ++ X.extract 0 na ++ (O.push (at' Y (nb - 1)) ++ (Y.extract k (nb - 1)).reverse).reverse,?_,j3.first e4 (by lia) (by lia) hf,sm⟩)
         simp [PH]
        rw [Pc e4]
        by_cases e5:k = 0
        ·rw [Pb e5]
         refine Pe (.inl ⟨X.extract 0 na ++ Y.extract 0 k ++ (O.push (at' Y (nb - 1)) ++ (Y.extract k (nb - 1)).reverse).reverse,?_,j3.done1 e5 (by lia),sm⟩)
         simp [PH]
        rw [Pc e5]
        refine Pf (aM (by lia) ?_)
        have j4:=j3.one (by lia) (by lia) fun i h1=>k2 i h1
        have eO:((O.map (kas_item it)).push (kas_item it (at' Y (nb - 1))) ++ ((Y.map (kas_item it)).extract k (nb - 1)).reverse).push (kas_item it (at' X (na - 1))) = ((O.push (at' Y (nb - 1)) ++ (Y.extract k (nb - 1)).reverse).push (at' X (na - 1))).map (kas_item it):=by simp [PH]
        by_cases e6:na - 1 = 0
        ·rw [Pb e6]
         refine Pe (.inl ⟨X.extract 0 (na - 1) ++ Y.extract 0 k ++ ((O.push (at' Y (nb - 1)) ++ (Y.extract k (nb - 1)).reverse).push (at' X (na - 1))).reverse,?_,j4.done2 e6 (by lia),sm⟩)
         simp [PH]
        ·rw [Pc e6]
         have fin:∀ m c d,∃ O' na' nb' m' c' d',((none,na - 1,k,((O.map (kas_item it)).push (kas_item it (at' Y (nb - 1))) ++ ((Y.map (kas_item it)).extract k (nb - 1)).reverse).push (kas_item it (at' X (na - 1))),m,c,d):Option (Array Keyed) × Nat × Nat × Array Keyed × Nat × Nat × Nat) = (none,na',nb',O'.map (kas_item it),m',c',d') /\ 1 <= na' /\ 1 < nb' /\ na' < X.size /\ nb' <= Y.size /\ na' + nb' + aV <= X.size + Y.size /\ JH le (X.toList ++ Y.toList) X Y O' na' nb':=fun m c d=>⟨_,_,_,m,c,d,by rw [eO],by lia,by lia,by lia,by lia,by lia,j4⟩
         refine bT ?_ ?_
         ·exact Pe (.inr ⟨sm,fin _ _ _⟩)
         ·exact Pe ⟨sm,fin _ _ _⟩
       ·rw [Pc k0]
        have k00:k = nb - 1:=by lia
        subst k00
        refine Pf (aM (by lia) ?_)
        have j4:=j2.one (by lia) (by lia) fun i h1=>k2 i h1
        have eO:((O.map (kas_item it)).push (kas_item it (at' Y (nb - 1)))).push (kas_item it (at' X (na - 1))) = ((O.push (at' Y (nb - 1))).push (at' X (na - 1))).map (kas_item it):=by simp
        by_cases e6:na - 1 = 0
        ·rw [Pb e6]
         refine Pe (.inl ⟨X.extract 0 (na - 1) ++ Y.extract 0 (nb - 1) ++ ((O.push (at' Y (nb - 1))).push (at' X (na - 1))).reverse,?_,j4.done2 e6 (by lia),sm⟩)
         simp [PH]
        ·rw [Pc e6]
         have fin:∀ m c d,∃ O' na' nb' m' c' d',((none,na - 1,nb - 1,((O.map (kas_item it)).push (kas_item it (at' Y (nb - 1)))).push (kas_item it (at' X (na - 1))),m,c,d):Option (Array Keyed) × Nat × Nat × Array Keyed × Nat × Nat × Nat) = (none,na',nb',O'.map (kas_item it),m',c',d') /\ 1 <= na' /\ 1 < nb' /\ na' < X.size /\ nb' <= Y.size /\ na' + nb' + aV <= X.size + Y.size /\ JH le (X.toList ++ Y.toList) X Y O' na' nb':=fun m c d=>⟨_,_,_,m,c,d,by rw [eO],by lia,by lia,by lia,by lia,by lia,j4⟩
         refine bT ?_ ?_
         ·exact Pe (.inr ⟨sm,fin _ _ _⟩)
         ·exact Pe ⟨sm,fin _ _ _⟩
end
section
variable {α:Type}
theorem Fd (lo:Nat):∀ (R:List α) (p:Array α) (j:Nat),lo + j + R.length <= p.size -> ((R.zipIdx j).foldl (fun a x=>a.setIfInBounds (lo + x.2) x.1) p).toList = p.toList.take (lo + j) ++ R ++ p.toList.drop (lo + j + R.length)
 | [],p,j,_=>by simp
 | r :: R,p,j,h=>by
  have hl:lo + j < p.toList.length:=by simp at h ⊢;lia
  rw [List.zipIdx_cons,List.foldl_cons,Fd lo R _ (j + 1) (by simp at h ⊢;lia)]
  have e1:(p.setIfInBounds (lo + j) r).toList = p.toList.set (lo + j) r:=by simp
  have e2:(p.toList.set (lo + j) r).take (lo + (j + 1)) = p.toList.take (lo + j) ++ [r]:=by
   rw [<- Nat.add_assoc,List.take_succ_eq_append_getElem (by simpa using hl),List.take_set_of_le (Pj _)]
   simp
  have e3:(p.toList.set (lo + j) r).drop (lo + (j + 1) + R.length) = p.toList.drop (lo + j + (r :: R).length):=by
   rw [List.drop_set_of_lt (by lia),Pw]
   congr 1;lia
  rw [e1,e2,e3]
  simp
end
section
variable {prog:Program} {w:World} {A:Around} {E:Value -> Shared -> Prop} {s:Shared} {κ:SortKind} {it:Array Keyed} {n:Nat} {lt:Nat -> Nat -> Bool} {le:Nat -> Nat -> Prop}
def Stt (κ:SortKind) (it:Array Keyed) (st:SortSt) (p:Array Nat) (pend:Array (Nat × Nat × Nat)):Prop:=kindOf st = κ /\ arrOf st = p.map (kas_item it) /\ pendingOf st = pend /\ failedOf st = none
structure Srtd (le:Nat -> Nat -> Prop) (p p':Array Nat) (lo hi:Nat):Prop where
 perm:p'.Perm p
 out:∀ k,k < lo \/ hi <= k -> at' p' k = at' p k
 asc:∀ i j,lo <= i -> i <= j -> j < hi -> le (at' p' i) (at' p' j)
theorem Ij {σ:Type} {M:Model} {x:σ} {Q:PUnit -> σ -> Prop} {st:σ} (h:Q ⟨⟩ x):wpS M A E s (set x:StateT σ Sem PUnit) Q st:=by
 unfold wpS
 rw [StateT.run_set]
 exact Pl ⟨rfl,h⟩
theorem Nr (l:List Nat) (k:Nat):at' l.toArray k = (l[k]?).getD 0:=by simp [at']
theorem K5 (p:Array Nat) (k:Nat):at' p k = (p.toList[k]?).getD 0:=by simp [at']
theorem Cl {p:Array Nat} {R:List Nat} {lo:Nat} (h:lo + R.length <= p.size) (k:Nat):at' (p.toList.take lo ++ R ++ p.toList.drop (lo + R.length)).toArray k = if lo <= k /\ k < lo + R.length then (R[k - lo]?).getD 0 else at' p k:=by
 rw [Nr,K5]
 have hl:(p.toList.take lo).length = lo:=by rw [Q3];simp;lia
 by_cases h1:k < lo
 ·rw [Pc (by lia),PZ,Ro (by lia),RL,Pb h1]
 ·by_cases h2:k < lo + R.length
  ·rw [Pb ⟨by lia,h2⟩,PZ,Q4 (by lia),hl,Ro (by lia)]
  ·rw [Pc (by lia),Q4 (by rw [Ps,hl];lia),Ps,hl,Ru]
   congr 2;lia
theorem G0 {p:Array Nat} {R:List Nat} {lo:Nat} (h:R.Perm (p.extract lo (lo + R.length)).toList):(p.toList.take lo ++ R ++ p.toList.drop (lo + R.length)).toArray.Perm p:=by
 rw [Rq]
 show (p.toList.take lo ++ R ++ p.toList.drop (lo + R.length)).Perm p.toList
 refine ((h.append_left _).append_right _).trans ?_
 rw [<- nq (by lia),R6]
theorem FD {p:Array Nat} {i j k:Nat} (h:i + k < j):at' (p.extract i j) k = at' p (i + k):=by
 rw [K5,K5,Rs,Rt,RL,Pb (by lia),Ru]
theorem AI {p:Array Nat} {i j:Nat} (h:j <= p.size):(p.extract i j).size = j - i:=by simp;lia
theorem ER (o:Ord lt le) (hc:wA prog w A s κ it n lt) {i sa na pw sb nb q:Nat} {p:Array Nat} {pend:Array (Nat × Nat × Nat)} {Q:Bool -> SortSt -> Prop} {st:SortSt} (S:Stt κ it st p pend) (h1:pend[i]? = some (sa,na,pw)) (h2:pend[i + 1]? = some (sb,nb,q))
  (hsb:sb = sa + na) (na1:1 <= na) (nb1:1 <= nb) (hz:sb + nb <= p.size) (hp:∀ i,i < p.size -> at' p i < n) (sA:∀ i j,i <= j -> j < na -> le (at' p (sa + i)) (at' p (sa + j))) (sB:∀ i j,i <= j -> j < nb -> le (at' p (sb + i)) (at' p (sb + j)))
  (h:∀ p' st',Stt κ it st' p' ((pend.setIfInBounds i (sa,na + nb,pw)).eraseIdxIfInBounds (i + 1)) -> Srtd le p p' sa (sa + (na + nb)) -> Q true st'):wpS (model prog w) A E s (mergeAt' i) Q st:=by
 obtain ⟨S1,S2,S3,S4⟩:=S
 refine Pf (Qj ?_)
 have S3':(sortPriv% PySem.Builtin.SortState.pending) st = pend:=S3
 have S2':(sortPriv% PySem.Builtin.SortState.a) st = p.map (kas_item it):=S2
 rw [S3',h1,h2]
 refine Pf (Ij ?_)
 rw [S2']
 generalize hst:(sortPriv% PySem.Builtin.SortState.mk) _ _ _ _ _ = st2
 have T:Stt κ it st2 p ((pend.setIfInBounds i (sa,na + nb,pw)).eraseIdxIfInBounds (i + 1)):=by subst hst;exact ⟨S1,rfl,rfl,S4⟩
 clear hst S1 S2 S3 S4 S2' S3' h1 h2
 generalize ((pend.setIfInBounds i (sa,na + nb,pw)).eraseIdxIfInBounds (i + 1)) = pend2 at T h
 have sA':∀ i j,sa <= i -> i <= j -> j < sb -> le (at' p i) (at' p j):=fun i j a1 a2 a3=>by
  have:=sA (i - sa) (j - sa) (by lia) (by lia)
  rwa [show sa + (i - sa) = i by lia,show sa + (j - sa) = j by lia] at this
 have sB':∀ i j,sb <= i -> i <= j -> j < sb + nb -> le (at' p i) (at' p j):=fun i j a1 a2 a3=>by
  have:=sB (i - sb) (j - sb) (by lia) (by lia)
  rwa [show sb + (i - sb) = i by lia,show sb + (j - sb) = j by lia] at this
 refine Pf (aM (by lia) ?_)
 refine Pf (cD o hc T.1 hp (hp sb (by lia)) (by lia) (by lia) sA fun k k1 k2 k3=>?_)
 have k2':∀ i,sa <= i -> i < sa + k -> le (at' p i) (at' p sb):=fun i a1 a2=>by
  have:=k2 (i - sa) (by lia)
  rwa [show sa + (i - sa) = i by lia] at this
 have k3':∀ i,sa + k <= i -> i < sb -> le (at' p sb) (at' p i):=fun i a1 a2=>by
  have:=k3 (i - sa) (by lia) (by lia)
  rwa [show sa + (i - sa) = i by lia] at this
 clear k2 k3
 dsimp only
 simp only [Qf]
 by_cases e1:na - k = 0
 ·rw [Pb e1]
  refine Pe (h p st2 T ⟨.refl _,fun _ _=>rfl,fun i j a1 a2 a3=>?_⟩)
  by_cases b1:j < sb
  ·exact sA' i j a1 a2 b1
  ·by_cases b2:sb <= i
   ·exact sB' i j b2 a2 (by lia)
   ·exact o.tr _ _ _ (k2' i a1 (by lia)) (sB' sb j (Pj _) (by lia) (by lia))
 rw [Pc e1]
 refine Pf (aM (by lia) ?_)
 have e2:sa + k + (na - k) - 1 = sb - 1:=by lia
 rw [e2]
 refine Pf (cD o hc T.1 hp (hp (sb - 1) (by lia)) (by lia) (by lia) sB fun m m1 k2 k3=>?_)
 have m2':∀ i,sb <= i -> i < sb + m -> le (at' p i) (at' p (sb - 1)):=fun i a1 a2=>by
  have:=k2 (i - sb) (by lia)
  rwa [show sb + (i - sb) = i by lia] at this
 have m3':∀ i,sb + m <= i -> i < sb + nb -> le (at' p (sb - 1)) (at' p i):=fun i a1 a2=>by
  have:=k3 (i - sb) (by lia) (by lia)
  rwa [show sb + (i - sb) = i by lia] at this
 clear k2 k3
 dsimp only
 by_cases e3:m = 0
 ·rw [Pb e3]
  subst e3
  refine Pe (h p st2 T ⟨.refl _,fun _ _=>rfl,fun i j a1 a2 a3=>?_⟩)
  by_cases b1:j < sb
  ·exact sA' i j a1 a2 b1
  ·by_cases b2:sb <= i
   ·exact sB' i j b2 a2 (by lia)
   ·exact o.tr _ _ _ (sA' i (sb - 1) a1 (by lia) (by lia)) (m3' j (by lia) (by lia))
 rw [Pc e3]
 generalize hr:na - k = r
 have hr1:na = k + r:=by lia
 have hr0:0 < r:=by lia
 clear hr e1 e2
 have zx:(p.extract (sa + k) sb).size = r:=by rw [AI (by lia)];lia
 have zy:(p.extract sb (sb + m)).size = m:=by rw [AI (by lia)];lia
 have ax:∀ i,i < r -> at' (p.extract (sa + k) sb) i = at' p (sa + k + i):=fun i hi=>FD (by lia)
 have ay:∀ i,i < m -> at' (p.extract sb (sb + m)) i = at' p (sb + i):=fun i hi=>FD (by lia)
 have exy:(p.extract (sa + k) sb).toList ++ (p.extract sb (sb + m)).toList = (p.extract (sa + k) (sb + m)).toList:=by
  have a1:=nq (X:=p) (i:=sa + k) (j:=sb) (by lia)
  have a2:=nq (X:=p) (i:=sb) (j:=sb + m) (by lia)
  have a3:=nq (X:=p) (i:=sa + k) (j:=sb + m) (by lia)
  rw [a1,a3,PZ] at a2
  exact (List.append_cancel_left a2).symm
 have key:∀ R:Array Nat,l9 le ((p.extract (sa + k) sb).toList ++ (p.extract sb (sb + m)).toList) R -> R.toList.length = r + m /\ Srtd le p (p.toList.take (sa + k) ++ R.toList ++ p.toList.drop (sa + k + R.toList.length)).toArray sa (sa + (na + nb)):=fun R g=>by
  have hlen:R.toList.length = r + m:=by
   rw [g.2.length_eq,Ps,Qe,Qe,zx,zy]
  refine ⟨hlen,?_,fun i hi=>?_,fun i j a1 a2 a3=>?_⟩
  ·refine G0 ?_
   rw [hlen,show sa + k + (r + m) = sb + m by lia,<- exy]
   exact g.2
  ·rw [Cl (by lia),Pc (by lia)]
  ·rw [Cl (by lia),Cl (by lia),hlen]
   have memR:∀ i,i < r + m -> ∃ c,(R.toList[i]?).getD 0 = at' p c /\ ((sa + k <= c /\ c < sb) \/ (sb <= c /\ c < sb + m)):=fun i hi=>by
    have hi':i < R.toList.length:=by lia
    have hm:R.toList[i] ∈ R.toList:=List.getElem_mem hi'
    have e:(R.toList[i]?).getD 0 = R.toList[i]:=by rw [Qi hi'];rfl
    rw [e]
    rcases Pu.mp (g.2.mem_iff.mp hm) with hm | hm
    ·obtain ⟨c,c1,c2,c3,c4⟩:=ui hm
     exact ⟨c,c4.symm,.inl ⟨c1,c2⟩⟩
    ·obtain ⟨c,c1,c2,c3,c4⟩:=ui hm
     exact ⟨c,c4.symm,.inr ⟨c1,c2⟩⟩
   by_cases b1:sa + k <= i /\ i < sa + k + (r + m)
   ·rw [Pb b1]
    by_cases b2:sa + k <= j /\ j < sa + k + (r + m)
    ·rw [Pb b2]
     by_cases b3:i = j
     ·subst b3;exact o.rf _
     ·have:=QM.mp g.1 (i - (sa + k)) (j - (sa + k)) (by lia) (by lia) (by lia)
      rw [Qi (by lia),Qi (by lia)]
      exact this
    ·rw [Pc b2]
     obtain ⟨c,c1,c2⟩:=memR (i - (sa + k)) (by lia)
     rw [c1]
     rcases c2 with c2 | c2
     ·exact o.tr _ _ _ (sA' c (sb - 1) (by lia) (by lia) (by lia)) (m3' j (by lia) (by lia))
     ·exact sB' c j (by lia) (by lia) (by lia)
   ·rw [Pc b1]
    by_cases b2:sa + k <= j /\ j < sa + k + (r + m)
    ·rw [Pb b2]
     obtain ⟨c,c1,c2⟩:=memR (j - (sa + k)) (by lia)
     rw [c1]
     rcases c2 with c2 | c2
     ·exact sA' i c (by lia) (by lia) (by lia)
     ·exact o.tr _ _ _ (k2' i (by lia) (by lia)) (sB' sb c (Pj _) (by lia) (by lia))
    ·rw [Pc b2]
     by_cases b3:j < sb
     ·exact sA' i j a1 a2 b3
     ·by_cases b4:sb <= i
      ·exact sB' i j b4 a2 (by lia)
      ·exact o.tr _ _ _ (k2' i a1 (by lia)) (sB' sb j (Pj _) (by lia) (by lia))
 have fin:∀ (R:Array Nat) (st3:SortSt),Same κ st2 st3 -> l9 le ((p.extract (sa + k) sb).toList ++ (p.extract sb (sb + m)).toList) R ->
   Q (failedOf st3).isNone (setArr st3 ((R.map (kas_item it)).toList.zipIdx.foldl (fun a x=>a.setIfInBounds (sa + k + x.2) x.1) (arrOf st3))):=fun R st3 sm g=>by
  obtain ⟨hlen,S⟩:=key R g
  have ea:arrOf st3 = p.map (kas_item it):=sm.2.1.trans T.2.1
  have ef:failedOf st3 = none:=sm.2.2.2.trans T.2.2.2
  rw [ef]
  refine h _ _ ⟨sm.1,?_,sm.2.2.1.trans T.2.2.1,ef⟩ S
  show (R.map (kas_item it)).toList.zipIdx.foldl (fun a x=>a.setIfInBounds (sa + k + x.2) x.1) (arrOf st3) = _
  rw [ea]
  apply Array.toList_inj.mp
  rw [Fd (sa + k) _ _ 0 (by simp at hlen ⊢;lia)]
  simp
 have cx:(p.map (kas_item it)).extract (sa + k) sb = (p.extract (sa + k) sb).map (kas_item it):=by simp
 have cy:(p.map (kas_item it)).extract sb (sb + m) = (p.extract sb (sb + m)).map (kas_item it):=by simp
 rw [cx,cy]
 have hx:∀ i,i < (p.extract (sa + k) sb).size -> at' (p.extract (sa + k) sb) i < n:=fun i hi=>by rw [ax i (by lia)];exact hp _ (by lia)
 have hy:∀ i,i < (p.extract sb (sb + m)).size -> at' (p.extract sb (sb + m)) i < n:=fun i hi=>by rw [ay i (by lia)];exact hp _ (by lia)
 have sx:∀ i j,i <= j -> j < (p.extract (sa + k) sb).size -> le (at' (p.extract (sa + k) sb) i) (at' (p.extract (sa + k) sb) j):=fun i j a1 a2=>by rw [ax i (by lia),ax j (by lia)];exact sA' _ _ (by lia) (by lia) (by lia)
 have sy:∀ i j,i <= j -> j < (p.extract sb (sb + m)).size -> le (at' (p.extract sb (sb + m)) i) (at' (p.extract sb (sb + m)) j):=fun i j a1 a2=>by rw [ay i (by lia),ay j (by lia)];exact sB' _ _ (by lia) (by lia) (by lia)
 have hf:∀ i,i < (p.extract (sa + k) sb).size -> le (at' (p.extract sb (sb + m)) 0) (at' (p.extract (sa + k) sb) i):=fun i a1=>by rw [ay 0 (by lia),ax i (by lia)];exact k3' _ (by lia) (by lia)
 have hl:∀ i,i < (p.extract sb (sb + m)).size -> le (at' (p.extract sb (sb + m)) i) (at' (p.extract (sa + k) sb) ((p.extract (sa + k) sb).size - 1)):=fun i a1=>by
  rw [zx,ay i (by lia),ax _ (by lia),show sa + k + (r - 1) = sb - 1 by lia]
  exact m2' _ (by lia) (by lia)
 by_cases e4:r <= m
 ·rw [Pb e4]
  refine Pf (Ev o hc T.1 hx hy (by lia) (by lia) sx sy hf hl fun R st3 sm g=>?_)
  exact Pf (Qd (Pf (Qj (Pe (fin R st3 sm g)))))
 ·rw [Pc e4]
  refine Pf (EZ o hc T.1 hx hy (by lia) (by lia) sx sy hf hl fun R st3 sm g=>?_)
  exact Pf (Qd (Pf (Qj (Pe (fin R st3 sm g)))))
end
section
variable {le:Nat -> Nat -> Prop} {lt:Nat -> Nat -> Bool} {p p' p2:Array Nat} {a b c:Nat}
def Up (le:Nat -> Nat -> Prop) (p:Array Nat) (a b:Nat):Prop:=∀ i j,a <= i -> i <= j -> j < b -> le (at' p i) (at' p j)
def Dn (le:Nat -> Nat -> Prop) (p:Array Nat) (a b:Nat):Prop:=∀ i j,a <= i -> i <= j -> j < b -> le (at' p j) (at' p i)
def Es (le:Nat -> Nat -> Prop) (p:Array Nat) (a b:Nat):Prop:=∀ k,a <= k -> k < b -> le (at' p k) (at' p (b - 1)) /\ le (at' p (b - 1)) (at' p k)
def Near (p p':Array Nat) (lo hi:Nat):Prop:=p'.Perm p /\ ∀ k,k < lo \/ hi <= k -> at' p' k = at' p k
theorem Near.rf:Near p p a b:=⟨.refl _,fun _ _=>rfl⟩
theorem Near.tr (h:Near p p' a b) (h2:Near p' p2 a b):Near p p2 a b:=⟨h2.1.trans h.1,fun k hk=>(h2.2 k hk).trans (h.2 k hk)⟩
theorem Near.wide {d e:Nat} (h:Near p p' a b) (h1:d <= a) (h2:b <= e):Near p p' d e:=⟨h.1,fun k hk=>h.2 k (by lia)⟩
theorem Near.size (h:Near p p' a b):p'.size = p.size:=h.1.size_eq
theorem gt (h:b <= p.size):Near p (kas_rev p a b) a b:=⟨mirror_perm _ _ _ _,fun k hk=>by rw [cB h,Pc (by lia)]⟩
theorem zt {d:Nat} (h:b < p.size) (hd:d <= b):Near p (bubble p b d) (b - d) (b + 1):=⟨bubble_perm _ _ _,fun k hk=>by rw [rX h hd,Pc (by lia),Pc (by lia)]⟩
theorem Up.succ (o:Ord lt le) (h:Up le p a b) (hab:a < b) (hl:le (at' p (b - 1)) (at' p b)):Up le p a (b + 1):=fun i j h1 h2 h3=>by
 by_cases e:j = b
 ·subst e
  by_cases e2:i = j
  ·subst e2;exact o.rf _
  ·exact o.tr _ _ _ (h i (j - 1) h1 (by lia) (by lia)) hl
 ·exact h i j h1 h2 (by lia)
theorem Dn.succ (o:Ord lt le) (h:Dn le p a b) (hab:a < b) (hl:le (at' p b) (at' p (b - 1))):Dn le p a (b + 1):=fun i j h1 h2 h3=>by
 by_cases e:j = b
 ·subst e
  by_cases e2:i = j
  ·subst e2;exact o.rf _
  ·exact o.tr _ _ _ hl (h i (j - 1) h1 (by lia) (by lia))
 ·exact h i j h1 h2 (by lia)
theorem Lf (o:Ord lt le):Up le p a (a + 1):=fun i j h1 h2 h3=>by
 have:i = j:=by lia
 subst this;exact o.rf _
theorem Up.of (h:Up le p a b) (k:∀ i,a <= i -> i < b -> at' p' i = at' p i):Up le p' a b:=fun i j h1 h2 h3=>by
 rw [k i h1 (by lia),k j (by lia) h3];exact h i j h1 h2 h3
theorem Dn.rev (o:Ord lt le) (h:Dn le p a b) (hb:b <= p.size) (hc:a <= c) (he:Es le p c b):Dn le (kas_rev p c b) a b:=by
 have key:∀ k,a <= k -> k < b -> ∃ k',a <= k' /\ k' < b /\ at' (kas_rev p c b) k = at' p k' /\ le (at' p k') (at' p k) /\ le (at' p k) (at' p k'):=fun k hk0 hk=>by
  rw [cB hb]
  split
  ·rename_i h1
   refine ⟨c + b - 1 - k,by lia,by lia,rfl,?_⟩
   obtain ⟨a1,a2⟩:=he k h1.1 hk
   obtain ⟨b1,b2⟩:=he (c + b - 1 - k) (by lia) (by lia)
   exact ⟨o.tr _ _ _ b1 a2,o.tr _ _ _ a1 b2⟩
  ·exact ⟨k,hk0,hk,rfl,o.rf _,o.rf _⟩
 intro i j h0 hij hj
 obtain ⟨i',_,_,e1,x1,x2⟩:=key i h0 (by lia)
 obtain ⟨j',_,_,e2,y1,y2⟩:=key j (by lia) hj
 rw [e1,e2]
 exact o.tr _ _ _ y1 (o.tr _ _ _ (h i j h0 hij hj) x2)
theorem Dn.turn (h:Dn le p a b) (hb:b <= p.size):Up le (kas_rev p a b) a b:=by
 intro i j h0 hij hj
 rw [cB hb,cB hb,Pb ⟨h0,by lia⟩,Pb ⟨by lia,hj⟩]
 exact h _ _ (by lia) (by lia) (by lia)
theorem rp (o:Ord lt le) (h:a + 1 = b):Es le p a b:=fun k h1 h2=>by
 have:k = b - 1:=by lia
 subst this
 exact ⟨o.rf _,o.rf _⟩
end
section
variable {prog:Program} {w:World} {A:Around} {E:Value -> Shared -> Prop} {s:Shared} {κ:SortKind} {it:Array Keyed} {n:Nat} {lt:Nat -> Nat -> Bool} {le:Nat -> Nat -> Prop} {p:Array Nat} {pend:Array (Nat × Nat × Nat)} {st:SortSt}
theorem i7 (hc:wA prog w A s κ it n lt) (S:Stt κ it st p pend) (hp:∀ i,i < p.size -> at' p i < n) {i j:Nat} {Q:Option Bool -> SortSt -> Prop} (hi:i < p.size) (hj:j < p.size) (h:Q (some (lt (at' p i) (at' p j))) st):wpS (model prog w) A E s (ltAt' i j) Q st:=by
 rw [ltAt'_eq]
 refine Pf (Qj ?_)
 dsimp only
 rw [S.2.1]
 exact Pf (aM hi (Pf (aM hj (w_lt hc S.1 (hp _ hi) (hp _ hj) h))))
theorem qM (S:Stt κ it st p pend) {i j:Nat} {Q:Unit -> SortSt -> Prop} (h:∀ st',Stt κ it st' (kas_rev p i j) pend -> Q () st'):wpS (model prog w) A E s (reverseSlice' i j) Q st:=by
 rw [reverseSlice'_eq]
 refine Qd (h _ ⟨S.1,?_,S.2.2⟩)
 show mirror (arrOf st) i j ((j - i) / 2) = _
 rw [S.2.1]
 exact kas_swaps_map (kas_item it) (fun k=>i + k) (fun k=>j - 1 - k) _ p
theorem KH (S:Stt κ it st p pend) {i j:Nat} {Q:Unit -> SortSt -> Prop} (h:∀ st',Stt κ it st' (bubble p i (i - j)) pend -> Q () st'):wpS (model prog w) A E s (moveDown' i j) Q st:=by
 rw [moveDown'_eq]
 refine Qd (h _ ⟨S.1,?_,S.2.2⟩)
 show bubble (arrOf st) i (i - j) = _
 rw [S.2.1]
 exact kas_swaps_map (kas_item it) (fun k=>i - k) (fun k=>i - k - 1) _ p
theorem Mo (o:Ord lt le) (hc:wA prog w A s κ it n lt) (S:Stt κ it st p pend) (hp:∀ p':Array Nat,p'.Perm p -> ∀ i,i < p'.size -> at' p' i < n) {lo m ok:Nat} {Q:Bool -> SortSt -> Prop} (hz:lo + m <= p.size) (hok:ok <= m) (ok1:1 <= ok) (hs:Up le p lo (lo + ok))
  (h:∀ p' st',Stt κ it st' p' pend -> Near p p' lo (lo + m) -> Up le p' lo (lo + m) -> Q true st'):wpS (model prog w) A E s (binarySort' lo m ok) Q st:=by
 refine Pf (PU (PV (I:=fun k c st'=>c = (none,()) /\ ∃ p',Stt κ it st' p' pend /\ Near p p' lo (lo + m) /\ Up le p' lo (lo + min k m))
  (Q:=fun c st'=>c = (none,()) /\ ∃ p',Stt κ it st' p' pend /\ Near p p' lo (lo + m) /\ Up le p' lo (lo + m)) ?step ?fin ?init) ?post)
 case post=>
  rintro c st' ⟨rfl,p',S',N,U⟩
  exact Pe (h p' st' S' N U)
 case init=>exact ⟨rfl,p,S,.rf,by rw [show min (max ok 1) m = ok by lia];exact hs⟩
 case fin=>
  rintro c st' ⟨hc',p',S',N,U⟩
  exact ⟨hc',p',S',N,by rwa [show min (max (max ok 1) m) m = m by lia] at U⟩
 case step=>
  rintro k c st' hak hkn ⟨rfl,p',S',N,U⟩
  rw [show min k m = k by lia] at U
  have hsz:=N.size
  have hk1:1 <= k:=by lia
  have hkm:k < m:=by lia
  clear hak hkn hok ok1 hs
  refine Pf (PU (PV (I:=fun x c st''=>st'' = st' /\ ∃ l r,c = (none,l,r) /\ l <= r /\ r <= k /\ r - l <= k - x /\
    (∀ i,i < l -> le (at' p' (lo + i)) (at' p' (lo + k))) /\ (∀ i,r <= i -> i < k -> le (at' p' (lo + k)) (at' p' (lo + i))))
   (Q:=fun c st''=>st'' = st' /\ ∃ l r,c = (none,l,r) /\ l <= k /\
    (∀ i,i < l -> le (at' p' (lo + i)) (at' p' (lo + k))) /\ (∀ i,l <= i -> i < k -> le (at' p' (lo + k)) (at' p' (lo + i)))) ?istep ?ifin ?iinit) ?ipost)
  case iinit=>exact ⟨rfl,0,k,rfl,by lia,by lia,by lia,fun i hi=>by lia,fun i h1 h2=>by lia⟩
  case ifin=>
   rintro c st'' ⟨rfl,l,r,rfl,hlr,hrk,hm,hlo,hhi⟩
   have:l = r:=by lia
   subst this
   exact ⟨rfl,l,l,rfl,hrk,hlo,hhi⟩
  case istep=>
   rintro x c st'' _ hxk ⟨rfl,l,r,rfl,hlr,hrk,hm,hlo,hhi⟩
   dsimp only
   by_cases hge:l ≥ r
   ·rw [Pb hge]
    have:l = r:=by lia
    subst this
    exact Pe ⟨rfl,l,l,rfl,hrk,hlo,hhi⟩
   ·rw [Pc hge]
    refine Pf (i7 hc S' (hp _ N.1) (by lia) (by lia) ?_)
    dsimp only
    cases cw:lt (at' p' (lo + k)) (at' p' (lo + (l + r) / 2)) with
    | true=>
     rw [Pb rfl]
     exact Pe ⟨rfl,l,(l + r) / 2,rfl,by lia,by lia,by lia,hlo,fun i h1 h2=>o.tr _ _ _ (o.yes _ _ cw) (U _ _ (by lia) (by lia) (by lia))⟩
    | false=>
     rw [Pc (by decide)]
     exact Pe ⟨rfl,(l + r) / 2 + 1,r,rfl,by lia,by lia,by lia,fun i h1=>o.tr _ _ _ (U _ _ (by lia) (by lia) (by lia)) (o.no _ _ cw),hhi⟩
  case ipost=>
   rintro c st'' ⟨rfl,l,r,rfl,hlk,hlo,hhi⟩
   dsimp only
   refine Pf (KH S' fun st3 S3=>Pe ⟨rfl,_,S3,N.tr ((zt (by lia) (by lia)).wide (by lia) (by lia)),?_⟩)
   rw [show min (k + 1) m = k + 1 by lia,show lo + k - (lo + l) = k - l by lia]
   intro i j h1 h2 h3
   rw [rX (by lia) (by lia),rX (by lia) (by lia)]
   rw [show lo + k - (k - l) = lo + l by lia]
   by_cases i1:i = lo + l
   ·rw [Pb i1]
    by_cases j1:j = lo + l
    ·rw [Pb j1];exact o.rf _
    ·rw [Pc j1]
     rw [Pb (by lia)]
     have:=hhi (j - 1 - lo) (by lia) (by lia)
     rwa [show lo + (j - 1 - lo) = j - 1 by lia] at this
   ·rw [Pc i1]
    by_cases j1:j = lo + l
    ·rw [Pb j1,Pc (by lia)]
     have:=hlo (i - lo) (by lia)
     rwa [show lo + (i - lo) = i by lia] at this
    ·rw [Pc j1]
     by_cases i2:lo + l < i /\ i <= lo + k
     ·rw [Pb i2,Pb (by lia)]
      exact U _ _ (by lia) (by lia) (by lia)
     ·rw [Pc i2]
      by_cases j2:lo + l < j /\ j <= lo + k
      ·rw [Pb j2]
       exact U _ _ (by lia) (by lia) (by lia)
      ·rw [Pc j2]
       exact U _ _ (by lia) (by lia) (by lia)
end
section
variable {prog:Program} {w:World} {A:Around} {E:Value -> Shared -> Prop} {s:Shared} {κ:SortKind} {it:Array Keyed} {n:Nat} {lt:Nat -> Nat -> Bool} {le:Nat -> Nat -> Prop} {p:Array Nat} {pend:Array (Nat × Nat × Nat)} {st:SortSt}
theorem HI (o:Ord lt le) (hc:wA prog w A s κ it n lt) (S:Stt κ it st p pend) (hp:∀ p':Array Nat,p'.Perm p -> ∀ i,i < p'.size -> at' p' i < n) {lo nrem:Nat} {Q:Option Nat -> SortSt -> Prop} (h1:1 <= nrem) (hz:lo + nrem <= p.size)
  (h:∀ m p' st',Stt κ it st' p' pend -> 1 <= m -> m <= nrem -> Near p p' lo (lo + m) -> Up le p' lo (lo + m) -> Q (some m) st'):wpS (model prog w) A E s (countRun' lo nrem) Q st:=by
 refine Pf (PU (PV (I:=fun x c st'=>st' = st /\ c = (none,x) /\ x <= nrem /\ Up le p lo (lo + x))
  (Q:=fun c st'=>st' = st /\ ∃ m,c = (none,m) /\ 1 <= m /\ m <= nrem /\ Up le p lo (lo + m) /\ (m < nrem -> le (at' p (lo + m)) (at' p (lo + m - 1)))) ?s1 ?f1 ?i1) ?p1)
 case i1=>exact ⟨rfl,rfl,h1,Lf o⟩
 case f1=>
  rintro c st' ⟨rfl,rfl,k1,k2⟩
  exact ⟨rfl,_,rfl,by lia,k1,k2,fun _=>by lia⟩
 case s1=>
  rintro x c st' hx0 hx ⟨rfl,rfl,k1,k2⟩
  dsimp only
  refine Pf (i7 hc S (hp p (.refl _)) (by lia) (by lia) ?_)
  dsimp only
  cases cw:lt (at' p (lo + x)) (at' p (lo + x - 1)) with
  | true=>
   rw [Pb rfl]
   exact Pe ⟨rfl,x,rfl,hx0,k1,k2,fun _=>o.yes _ _ cw⟩
  | false=>
   rw [Pc (by decide)]
   exact Pe ⟨rfl,rfl,by lia,Up.succ (b:=lo + x) o k2 (by lia) (o.no _ _ cw)⟩
 case p1=>
  rintro c st' ⟨rfl,m,rfl,m1,m2,U,hd⟩
  dsimp only
  simp only [Qf]
  by_cases e1:m = nrem
  ·rw [Pb e1]
   exact Pe (h m p st' S m1 m2 .rf U)
  rw [Pc e1]
  have e1':m < nrem:=by lia
  clear e1
  by_cases e2:m > 1
  ·rw [Pb e2]
   refine Pf (i7 hc S (hp p (.refl _)) (by lia) (by lia) ?_)
   dsimp only
   cases cw:lt (at' p lo) (at' p (lo + m - 1)) with
   | true=>
    rw [Pb rfl]
    exact Pe (h m p st' S m1 m2 .rf U)
   | false=>
    rw [Pc (by decide)]
    have g0:=o.no _ _ cw
    refine Pf (qM S fun stx Sx=>?_)
    have same:∀ i j,lo <= i -> i < lo + m -> lo <= j -> j < lo + m -> le (at' p i) (at' p j):=fun i j a1 a2 a3 a4=>o.tr _ _ _ (U i (lo + m - 1) a1 (by lia) (by lia)) (o.tr _ _ _ g0 (U lo j (Pj _) a3 a4))
    have d0:Dn le (kas_rev p lo (lo + m)) lo (lo + m):=fun i j a1 a2 a3=>by
     rw [cB (by lia),cB (by lia),Pb (by lia),Pb (by lia)]
     exact same _ _ (by lia) (by lia) (by lia) (by lia)
    have Dx:Dn le (kas_rev p lo (lo + m)) lo (lo + (m + 1)):=Dn.succ (b:=lo + m) o d0 (by lia) (by
     rw [cB (by lia),cB (by lia),Pc (by lia),Pb (by lia)]
     exact o.tr _ _ _ (hd (by lia)) (same _ _ (by lia) (by lia) (by lia) (by lia)))
    have Nx:Near p (kas_rev p lo (lo + m)) lo (lo + (m + 1)):=(gt (by lia)).wide (Pj _) (by lia)
    generalize kas_rev p lo (lo + m) = px at Sx Dx Nx
    refine Pf (QN (QE ⟨rfl,?_⟩))
    refine Pf (PU (PV (I:=fun x c st'=>∃ q p',c = (none,x,q) /\ Stt κ it st' p' pend /\ Near p p' lo (lo + x) /\ x <= nrem /\ q + 1 <= x /\ Dn le p' lo (lo + x) /\ Es le p' (lo + x - (q + 1)) (lo + x))
     (Q:=fun c st'=>∃ x q p',c = (none,x,q) /\ m + 1 <= x /\ Stt κ it st' p' pend /\ Near p p' lo (lo + x) /\ x <= nrem /\ q + 1 <= x /\ Dn le p' lo (lo + x) /\ Es le p' (lo + x - (q + 1)) (lo + x)) ?s2 ?f2 ?i2) ?p2)
    case i2=>exact ⟨0,px,rfl,Sx,Nx,by lia,by lia,Dx,rp o (by lia)⟩
    case f2=>
     rintro c st' ⟨q,p',rfl,S',N',k1,k2,D',E'⟩
     exact ⟨_,q,p',rfl,by lia,S',N',k1,k2,D',E'⟩
    case s2=>
     rintro x c st' hx0 hx ⟨q,p',rfl,S',N',k1,k2,D',E'⟩
     dsimp only
     have hs2:=N'.size
     refine Pf (i7 hc S' (hp _ N'.1) (by lia) (by lia) ?_)
     dsimp only
     cases cw:lt (at' p' (lo + x)) (at' p' (lo + x - 1)) with
     | true=>
      rw [Pb rfl]
      have hl:=o.yes _ _ cw
      by_cases q0:q > 0
      ·rw [Pb q0]
       refine Pf (qM S' fun st4 S4=>Pe ?_)
       have d1:=D'.rev o (by lia) (by lia) E'
       have b1:at' (kas_rev p' (lo + x - (q + 1)) (lo + x)) (lo + x) = at' p' (lo + x):=by rw [cB (by lia),Pc (by lia)]
       have b2:at' (kas_rev p' (lo + x - (q + 1)) (lo + x)) (lo + x - 1) = at' p' (lo + x - (q + 1)):=by
        rw [cB (by lia),Pb (by lia)]
        congr 1;lia
       exact ⟨0,_,rfl,S4,(N'.tr ((gt (by lia)).wide (by lia) (by lia))).wide (by lia) (by lia),by lia,by lia,Dn.succ (b:=lo + x) o d1 (by lia) (by rw [b1,b2];exact o.tr _ _ _ hl (E' _ (Pj _) (by lia)).2),rp o (by lia)⟩
      ·rw [Pc q0]
       exact Pe ⟨0,p',rfl,S',N'.wide (by lia) (by lia),by lia,by lia,Dn.succ (b:=lo + x) o D' (by lia) hl,rp o (by lia)⟩
     | false=>
      rw [Pc (by decide)]
      have g1:=o.no _ _ cw
      refine Pf (i7 hc S' (hp _ N'.1) (by lia) (by lia) ?_)
      dsimp only
      cases cw2:lt (at' p' (lo + x - 1)) (at' p' (lo + x)) with
      | true=>
       rw [Pb rfl]
       exact Pe ⟨x,q,p',rfl,hx0,S',N',k1,k2,D',E'⟩
      | false=>
       rw [Pc (by decide)]
       have g2:=o.no _ _ cw2
       refine Pe ⟨q + 1,p',rfl,S',N'.wide (by lia) (by lia),by lia,by lia,Dn.succ (b:=lo + x) o D' (by lia) g2,fun k a1 a2=>?_⟩
       rw [show lo + (x + 1) - 1 = lo + x by lia]
       by_cases hk:k = lo + x
       ·subst hk;exact ⟨o.rf _,o.rf _⟩
       ·obtain ⟨x1,x2⟩:=E' k (by lia) (by lia)
        exact ⟨o.tr _ _ _ x1 g1,o.tr _ _ _ g2 x2⟩
    case p2=>
     rintro c st' ⟨x,q,p',rfl,x1,S',N',x2,x3,D',E'⟩
     dsimp only
     have hs2:=N'.size
     by_cases q0:q > 0
     ·rw [Pb q0]
      refine Pf (qM S' fun stX SX=>?_)
      have DX:=D'.rev o (by lia) (by lia) E'
      have NX:=N'.tr ((gt (by lia)).wide (a:=lo + x - (q + 1)) (b:=lo + x) (d:=lo) (e:=lo + x) (by lia) (by lia))
      generalize kas_rev p' (lo + x - (q + 1)) (lo + x) = pX at SX DX NX
      refine Pf (qM SX fun st4 S4=>?_)
      have hs4:=NX.size
      have N4:=NX.tr (gt (a:=lo) (b:=lo + x) (by lia))
      have U4:=DX.turn (by lia)
      refine Pf (PU (PV (I:=fun y c st'=>st' = st4 /\ c = (none,y) /\ y <= nrem /\ Up le (kas_rev pX lo (lo + x)) lo (lo + y))
       (Q:=fun c st'=>st' = st4 /\ ∃ y,c = (none,y) /\ x <= y /\ y <= nrem /\ Up le (kas_rev pX lo (lo + x)) lo (lo + y)) ?s3 ?f3 ?i3) ?p3)
      case i3=>exact ⟨rfl,rfl,x2,U4⟩
      case f3=>
       rintro c st' ⟨rfl,rfl,k1,k2⟩
       exact ⟨rfl,_,rfl,by lia,k1,k2⟩
      case s3=>
       rintro y c st' hy0 hy ⟨rfl,rfl,k1,k2⟩
       dsimp only
       have hs5:=N4.size
       refine Pf (i7 hc S4 (hp _ N4.1) (by lia) (by lia) ?_)
       dsimp only
       cases cw:lt (at' (kas_rev pX lo (lo + x)) (lo + y)) (at' (kas_rev pX lo (lo + x)) (lo + y - 1)) with
       | true=>
        rw [Pb rfl]
        exact Pe ⟨rfl,y,rfl,hy0,k1,k2⟩
       | false=>
        rw [Pc (by decide)]
        exact Pe ⟨rfl,rfl,by lia,Up.succ (b:=lo + y) o k2 (by lia) (o.no _ _ cw)⟩
      case p3=>
       rintro c st' ⟨rfl,y,rfl,y1,y2,U⟩
       exact Pe (h y _ st' S4 (by lia) y2 (N4.wide (Pj _) (by lia)) U)
     ·rw [Pc q0]
      have DX:=D'
      have NX:=N'
      have SX:=S'
      generalize p' = pX at SX DX NX
      refine Pf (qM SX fun st4 S4=>?_)
      have hs4:=NX.size
      have N4:=NX.tr (gt (a:=lo) (b:=lo + x) (by lia))
      have U4:=DX.turn (by lia)
      refine Pf (PU (PV (I:=fun y c st'=>st' = st4 /\ c = (none,y) /\ y <= nrem /\ Up le (kas_rev pX lo (lo + x)) lo (lo + y))
       (Q:=fun c st'=>st' = st4 /\ ∃ y,c = (none,y) /\ x <= y /\ y <= nrem /\ Up le (kas_rev pX lo (lo + x)) lo (lo + y)) ?s3 ?f3 ?i3) ?p3)
      case i3=>exact ⟨rfl,rfl,x2,U4⟩
      case f3=>
       rintro c st' ⟨rfl,rfl,k1,k2⟩
       exact ⟨rfl,_,rfl,by lia,k1,k2⟩
      case s3=>
       rintro y c st' hy0 hy ⟨rfl,rfl,k1,k2⟩
       dsimp only
       have hs5:=N4.size
       refine Pf (i7 hc S4 (hp _ N4.1) (by lia) (by lia) ?_)
       dsimp only
       cases cw:lt (at' (kas_rev pX lo (lo + x)) (lo + y)) (at' (kas_rev pX lo (lo + x)) (lo + y - 1)) with
       | true=>
        rw [Pb rfl]
        exact Pe ⟨rfl,y,rfl,hy0,k1,k2⟩
       | false=>
        rw [Pc (by decide)]
        exact Pe ⟨rfl,rfl,by lia,Up.succ (b:=lo + y) o k2 (by lia) (o.no _ _ cw)⟩
      case p3=>
       rintro c st' ⟨rfl,y,rfl,y1,y2,U⟩
       exact Pe (h y _ st' S4 (by lia) y2 (N4.wide (Pj _) (by lia)) U)
  ·rw [Pc e2]
   have m11:m = 1:=by lia
   have Sx:=S
   have Dx:Dn le p lo (lo + (m + 1)):=Dn.succ (b:=lo + m) o (fun i j a1 a2 a3=>by
    have:i = j:=by lia
    subst this;exact o.rf _) (by lia) (hd (by lia))
   have Nx:Near p p lo (lo + (m + 1)):=.rf
   obtain ⟨px,hpx⟩:∃ px,px = p:=⟨p,rfl⟩
   rw [<- hpx] at Sx Dx
   replace Nx:Near p px lo (lo + (m + 1)):=by rw [hpx];exact .rf
   refine Pf (QN (QE ⟨rfl,?_⟩))
   refine Pf (PU (PV (I:=fun x c st'=>∃ q p',c = (none,x,q) /\ Stt κ it st' p' pend /\ Near p p' lo (lo + x) /\ x <= nrem /\ q + 1 <= x /\ Dn le p' lo (lo + x) /\ Es le p' (lo + x - (q + 1)) (lo + x))
    (Q:=fun c st'=>∃ x q p',c = (none,x,q) /\ m + 1 <= x /\ Stt κ it st' p' pend /\ Near p p' lo (lo + x) /\ x <= nrem /\ q + 1 <= x /\ Dn le p' lo (lo + x) /\ Es le p' (lo + x - (q + 1)) (lo + x)) ?s2 ?f2 ?i2) ?p2)
   case i2=>exact ⟨0,px,rfl,Sx,Nx,by lia,by lia,Dx,rp o (by lia)⟩
   case f2=>
    rintro c st' ⟨q,p',rfl,S',N',k1,k2,D',E'⟩
    exact ⟨_,q,p',rfl,by lia,S',N',k1,k2,D',E'⟩
   case s2=>
    rintro x c st' hx0 hx ⟨q,p',rfl,S',N',k1,k2,D',E'⟩
    dsimp only
    have hs2:=N'.size
    refine Pf (i7 hc S' (hp _ N'.1) (by lia) (by lia) ?_)
    dsimp only
    cases cw:lt (at' p' (lo + x)) (at' p' (lo + x - 1)) with
    | true=>
     rw [Pb rfl]
     have hl:=o.yes _ _ cw
     by_cases q0:q > 0
     ·rw [Pb q0]
      refine Pf (qM S' fun st4 S4=>Pe ?_)
      have d1:=D'.rev o (by lia) (by lia) E'
      have b1:at' (kas_rev p' (lo + x - (q + 1)) (lo + x)) (lo + x) = at' p' (lo + x):=by rw [cB (by lia),Pc (by lia)]
      have b2:at' (kas_rev p' (lo + x - (q + 1)) (lo + x)) (lo + x - 1) = at' p' (lo + x - (q + 1)):=by
       rw [cB (by lia),Pb (by lia)]
       congr 1;lia
      exact ⟨0,_,rfl,S4,(N'.tr ((gt (by lia)).wide (by lia) (by lia))).wide (by lia) (by lia),by lia,by lia,Dn.succ (b:=lo + x) o d1 (by lia) (by rw [b1,b2];exact o.tr _ _ _ hl (E' _ (Pj _) (by lia)).2),rp o (by lia)⟩
     ·rw [Pc q0]
      exact Pe ⟨0,p',rfl,S',N'.wide (by lia) (by lia),by lia,by lia,Dn.succ (b:=lo + x) o D' (by lia) hl,rp o (by lia)⟩
    | false=>
     rw [Pc (by decide)]
     have g1:=o.no _ _ cw
     refine Pf (i7 hc S' (hp _ N'.1) (by lia) (by lia) ?_)
     dsimp only
     cases cw2:lt (at' p' (lo + x - 1)) (at' p' (lo + x)) with
     | true=>
      rw [Pb rfl]
      exact Pe ⟨x,q,p',rfl,hx0,S',N',k1,k2,D',E'⟩
     | false=>
      rw [Pc (by decide)]
      have g2:=o.no _ _ cw2
      refine Pe ⟨q + 1,p',rfl,S',N'.wide (by lia) (by lia),by lia,by lia,Dn.succ (b:=lo + x) o D' (by lia) g2,fun k a1 a2=>?_⟩
      rw [show lo + (x + 1) - 1 = lo + x by lia]
      by_cases hk:k = lo + x
      ·subst hk;exact ⟨o.rf _,o.rf _⟩
      ·obtain ⟨x1,x2⟩:=E' k (by lia) (by lia)
       exact ⟨o.tr _ _ _ x1 g1,o.tr _ _ _ g2 x2⟩
   case p2=>
    rintro c st' ⟨x,q,p',rfl,x1,S',N',x2,x3,D',E'⟩
    dsimp only
    have hs2:=N'.size
    by_cases q0:q > 0
    ·rw [Pb q0]
     refine Pf (qM S' fun stX SX=>?_)
     have DX:=D'.rev o (by lia) (by lia) E'
     have NX:=N'.tr ((gt (by lia)).wide (a:=lo + x - (q + 1)) (b:=lo + x) (d:=lo) (e:=lo + x) (by lia) (by lia))
     generalize kas_rev p' (lo + x - (q + 1)) (lo + x) = pX at SX DX NX
     refine Pf (qM SX fun st4 S4=>?_)
     have hs4:=NX.size
     have N4:=NX.tr (gt (a:=lo) (b:=lo + x) (by lia))
     have U4:=DX.turn (by lia)
     refine Pf (PU (PV (I:=fun y c st'=>st' = st4 /\ c = (none,y) /\ y <= nrem /\ Up le (kas_rev pX lo (lo + x)) lo (lo + y))
      (Q:=fun c st'=>st' = st4 /\ ∃ y,c = (none,y) /\ x <= y /\ y <= nrem /\ Up le (kas_rev pX lo (lo + x)) lo (lo + y)) ?s3 ?f3 ?i3) ?p3)
     case i3=>exact ⟨rfl,rfl,x2,U4⟩
     case f3=>
      rintro c st' ⟨rfl,rfl,k1,k2⟩
      exact ⟨rfl,_,rfl,by lia,k1,k2⟩
     case s3=>
      rintro y c st' hy0 hy ⟨rfl,rfl,k1,k2⟩
      dsimp only
      have hs5:=N4.size
      refine Pf (i7 hc S4 (hp _ N4.1) (by lia) (by lia) ?_)
      dsimp only
      cases cw:lt (at' (kas_rev pX lo (lo + x)) (lo + y)) (at' (kas_rev pX lo (lo + x)) (lo + y - 1)) with
      | true=>
       rw [Pb rfl]
       exact Pe ⟨rfl,y,rfl,hy0,k1,k2⟩
      | false=>
       rw [Pc (by decide)]
       exact Pe ⟨rfl,rfl,by lia,Up.succ (b:=lo + y) o k2 (by lia) (o.no _ _ cw)⟩
     case p3=>
      rintro c st' ⟨rfl,y,rfl,y1,y2,U⟩
      exact Pe (h y _ st' S4 (by lia) y2 (N4.wide (Pj _) (by lia)) U)
    ·rw [Pc q0]
     have DX:=D'
     have NX:=N'
     have SX:=S'
     generalize p' = pX at SX DX NX
     refine Pf (qM SX fun st4 S4=>?_)
     have hs4:=NX.size
     have N4:=NX.tr (gt (a:=lo) (b:=lo + x) (by lia))
     have U4:=DX.turn (by lia)
     refine Pf (PU (PV (I:=fun y c st'=>st' = st4 /\ c = (none,y) /\ y <= nrem /\ Up le (kas_rev pX lo (lo + x)) lo (lo + y))
      (Q:=fun c st'=>st' = st4 /\ ∃ y,c = (none,y) /\ x <= y /\ y <= nrem /\ Up le (kas_rev pX lo (lo + x)) lo (lo + y)) ?s3 ?f3 ?i3) ?p3)
     case i3=>exact ⟨rfl,rfl,x2,U4⟩
     case f3=>
      rintro c st' ⟨rfl,rfl,k1,k2⟩
      exact ⟨rfl,_,rfl,by lia,k1,k2⟩
     case s3=>
      rintro y c st' hy0 hy ⟨rfl,rfl,k1,k2⟩
      dsimp only
      have hs5:=N4.size
      refine Pf (i7 hc S4 (hp _ N4.1) (by lia) (by lia) ?_)
      dsimp only
      cases cw:lt (at' (kas_rev pX lo (lo + x)) (lo + y)) (at' (kas_rev pX lo (lo + x)) (lo + y - 1)) with
      | true=>
       rw [Pb rfl]
       exact Pe ⟨rfl,y,rfl,hy0,k1,k2⟩
      | false=>
       rw [Pc (by decide)]
       exact Pe ⟨rfl,rfl,by lia,Up.succ (b:=lo + y) o k2 (by lia) (o.no _ _ cw)⟩
     case p3=>
      rintro c st' ⟨rfl,y,rfl,y1,y2,U⟩
      exact Pe (h y _ st' S4 (by lia) y2 (N4.wide (Pj _) (by lia)) U)
end
section
variable {le:Nat -> Nat -> Prop} {p p':Array Nat} {a b c:Nat}
def Rn (le:Nat -> Nat -> Prop) (p:Array Nat):Nat -> List (Nat × Nat × Nat) -> Nat -> Prop
 | a,[],b=>a = b
 | a,e :: es,b=>e.1 = a /\ 1 <= e.2.1 /\ Up le p a (a + e.2.1) /\ Rn le p (a + e.2.1) es b
theorem Rn.len_le:∀ {l:List (Nat × Nat × Nat)} {a:Nat},Rn le p a l b -> a + l.length <= b
 | [],a,h=>by have:a = b:=h;simp [this]
 | e :: es,a,h=>by
  have:=Rn.len_le h.2.2.2
  have:=h.2.1
  simp;lia
theorem Rn.of:∀ {l:List (Nat × Nat × Nat)} {a:Nat},Rn le p a l b -> (∀ k,a <= k -> k < b -> at' p' k = at' p k) -> Rn le p' a l b
 | [],a,h,_=>h
 | e :: es,a,h,k=>⟨h.1,h.2.1,h.2.2.1.of fun i h1 h2=>k i h1 (by have:=Rn.len_le h.2.2.2;lia),Rn.of h.2.2.2 fun i h1 h2=>k i (by lia) h2⟩
theorem Rn.app:∀ {l l':List (Nat × Nat × Nat)} {a:Nat},Rn le p a (l ++ l') b -> ∃ c,Rn le p a l c /\ Rn le p c l' b
 | [],l',a,h=>⟨a,rfl,h⟩
 | e :: es,l',a,h=>by
  obtain ⟨c,h1,h2⟩:=Rn.app h.2.2.2
  exact ⟨c,⟨h.1,h.2.1,h.2.2.1,h1⟩,h2⟩
theorem Rn.put:∀ {l l':List (Nat × Nat × Nat)} {a:Nat},Rn le p a l c -> Rn le p c l' b -> Rn le p a (l ++ l') b
 | [],l',a,h,h2=>by have:a = c:=h;subst this;exact h2
 | e :: es,l',a,h,h2=>⟨h.1,h.2.1,h.2.2.1,Rn.put h.2.2.2 h2⟩
theorem Rn.same:∀ {l l':List (Nat × Nat × Nat)} {a:Nat},(l.map fun e=>(e.1,e.2.1)) = (l'.map fun e=>(e.1,e.2.1)) -> Rn le p a l b -> Rn le p a l' b
 | [],[],a,_,h=>h
 | [],_ :: _,a,h,_=>by simp at h
 | _ :: _,[],a,h,_=>by simp at h
 | e :: es,e' :: es',a,h,k=>by
  simp only [Px,List.cons.injEq,Prod.mk.injEq] at h
  obtain ⟨⟨h1,h2⟩,h3⟩:=h
  obtain ⟨k1,k2,k3,k4⟩:=k
  rw [h1] at k1
  rw [h2] at k2 k3 k4
  exact ⟨k1,k2,k3,Rn.same h3 k4⟩
theorem Iu {c:Prop} [Decidable c] {k m:Nat} (h:k + 1 < m):(if c then k - 1 else k) + 1 < m:=by split <;> lia
theorem JV {α:Type} (x z:α) (r:List α):∀ pre:List α,(pre ++ x :: r).set pre.length z = pre ++ z :: r
 | []=>rfl
 | y :: pre=>by simp
theorem Gw {α:Type} (z y:α) (r:List α):∀ pre:List α,(pre ++ z :: y :: r).eraseIdx (pre.length + 1) = pre ++ z :: r
 | []=>rfl
 | x :: pre=>by
  have:=Gw z y r pre
  simp only [List.cons_append,Pw,List.eraseIdx_cons_succ,this]
theorem KM {α:Type} {l:List α} {i:Nat} (h:i + 1 < l.length):∃ pre x y post,l = pre ++ x :: y :: post /\ pre.length = i:=by
 refine ⟨l.take i,l[i],l[i + 1],l.drop (i + 2),?_,by rw [Q3];lia⟩
 rw [<- Rr h,<- Rr (by lia),R6]
end
section
variable {prog:Program} {w:World} {A:Around} {E:Value -> Shared -> Prop} {s:Shared} {κ:SortKind} {it:Array Keyed} {n:Nat} {lt:Nat -> Nat -> Bool} {le:Nat -> Nat -> Prop} {p:Array Nat} {pend:Array (Nat × Nat × Nat)} {st:SortSt}
theorem rk (o:Ord lt le) (hc:wA prog w A s κ it n lt) (S:Stt κ it st p pend) (hp:∀ i,i < p.size -> at' p i < n) {i b:Nat} {Q:Bool -> SortSt -> Prop} (hi:i + 1 < pend.size) (R:Rn le p 0 pend.toList b) (hb:b <= p.size)
  (h:∀ p' pend' st',Stt κ it st' p' pend' -> Near p p' 0 b -> Rn le p' 0 pend'.toList b -> pend'.size + 1 = pend.size -> Q true st'):wpS (model prog w) A E s (mergeAt' i) Q st:=by
 obtain ⟨pre,⟨sa,na,pw⟩,⟨sb,nb,q⟩,post,e,hl⟩:=KM (l:=pend.toList) (i:=i) (by simpa using hi)
 rw [e] at R
 obtain ⟨c,R1,R2⟩:=R.app
 obtain ⟨r1,r2,r3,r4,r5,r6,r7⟩:=R2
 dsimp only at r1 r2 r3 r4 r5 r6 r7
 subst r1
 have hle:=r7.len_le
 have g1:pend[i]? = some (sa,na,pw):=by rw [<- QZ,e,Q4 (by lia)];simp [hl]
 have g2:pend[i + 1]? = some (sb,nb,q):=by rw [<- QZ,e,Q4 (by lia)];simp [hl]
 refine ER o hc S g1 g2 r4 r2 r5 (by lia) hp (fun i j a1 a2=>r3 _ _ (by lia) (by lia) (by lia)) (fun i j a1 a2=>r6 _ _ (by lia) (by lia) (by lia)) fun p' st' S' so=>?_
 have en:((pend.setIfInBounds i (sa,na + nb,pw)).eraseIdxIfInBounds (i + 1)).toList = pre ++ (sa,na + nb,pw) :: post:=by
  have h2:i + 1 < (pend.setIfInBounds i (sa,na + nb,pw)).size:=by simpa using hi
  rw [Array.eraseIdxIfInBounds,dif_pos h2,Array.toList_eraseIdx,Array.toList_setIfInBounds,e,<- hl]
  rw [JV,Gw]
 have hle1:=R1.len_le
 refine h p' _ st' S' ⟨so.perm,fun k hk=>so.out k (by lia)⟩ ?_ ?_
 ·rw [en]
  refine Rn.put (R1.of fun k _ h2=>so.out k (by lia)) ⟨rfl,by dsimp only;lia,fun i j a1 a2 a3=>so.asc i j a1 a2 a3,?_⟩
  dsimp only
  rw [show sa + (na + nb) = sa + na + nb by lia]
  exact r7.of fun k h1 h2=>so.out k (by lia)
 ·have e4:=PQ List.length en
  have e3:=PQ List.length e
  rw [Qe] at e4 e3
  rw [e4,e3]
  simp only [Ps,Pw]
  lia
theorem KB (o:Ord lt le) (hc:wA prog w A s κ it n lt) (S:Stt κ it st p #[]) (hp:∀ p':Array Nat,p'.Perm p -> ∀ i,i < p'.size -> at' p' i < n) {Q:Unit -> SortSt -> Prop}
  (h:∀ p' pend' st',Stt κ it st' p' pend' -> p'.Perm p -> Up le p' 0 p.size -> Q () st'):wpS (model prog w) A E s sortRuns' Q st:=by
 rw [sortRuns'_eq]
 refine Pf (Qj ?_)
 dsimp only
 rw [S.2.1,Array.size_map]
 generalize minRun' p.size p.size 0 = minrun
 refine Pf (PU (PV (I:=fun x c st'=>∃ lo p' pend',c = (none,lo) /\ Stt κ it st' p' pend' /\ p'.Perm p /\ Rn le p' 0 pend'.toList lo /\ lo <= p.size /\ x <= lo)
  (Q:=fun c st'=>∃ p' pend',c.1 = none /\ Stt κ it st' p' pend' /\ p'.Perm p /\ Rn le p' 0 pend'.toList p.size) ?s1 ?f1 ?i1) ?p1)
 case i1=>exact ⟨0,p,#[],rfl,S,.refl _,rfl,by lia,by lia⟩
 case f1=>
  rintro c st' ⟨lo,p',pend',rfl,S',P',R',l1,l2⟩
  have:lo = p.size:=by lia
  subst this
  exact ⟨p',pend',rfl,S',P',R'⟩
 case s1=>
  rintro x c st' _ hx ⟨lo,p',pend',rfl,S',P',R',l1,l2⟩
  dsimp only
  by_cases e1:lo ≥ p.size
  ·rw [Pb e1]
   have:lo = p.size:=by lia
   subst this
   exact Pe ⟨p',pend',rfl,S',P',R'⟩
  rw [Pc e1]
  have hs':=P'.size_eq
  refine Pf (HI o hc S' (fun q hq=>hp q (hq.trans P')) (by lia) (by lia) fun m p2 st2 S2 m1 m2 N2 U2=>?_)
  have P2:=N2.1.trans P'
  have hs2:=P2.size_eq
  have R2:Rn le p2 0 pend'.toList lo:=R'.of fun k _ h2=>N2.2 k (.inl h2)
  dsimp only
  by_cases e2:m < minrun
  ·rw [Pb e2]
   refine Pf (QN (QE ⟨rfl,?_⟩))
   refine Pf (Mo o hc S2 (fun q hq=>hp q (hq.trans P2)) (m:=min (p.size - lo) minrun) (by lia) (by lia) m1 U2 fun p3 st3 S3 N3 U3=>?_)
   replace R2:Rn le p3 0 pend'.toList lo:=R2.of fun k _ h2=>N3.2 k (.inl h2)
   replace P2:=N3.1.trans P2
   replace S2:=S3
   replace U2:=U3
   have hnn:1 <= min (p.size - lo) minrun:=by lia
   have hnn2:lo + min (p.size - lo) minrun <= p.size:=by lia
   clear S3 U3 N3 N2 hs2
   generalize min (p.size - lo) minrun = nn at *
   rw [Pc (by decide)]
   clear st2 p2
   generalize p3 = p2 at *
   generalize st3 = st2 at *
   refine Pf (Qj ?_)
   rw [S2.2.2.1]
   cases hbk:pend'.back? with
   | none=>
    dsimp only
    refine Pf (Qd (Pe ⟨lo + nn,p2,pend'.push (lo,nn,0),rfl,⟨S2.1,S2.2.1,?_,S2.2.2.2⟩,P2,?_,by lia,by lia⟩))
    ·show (pendingOf st2).push _ = _
     rw [S2.2.2.1]
    ·rw [Q8]
     exact R2.put ⟨rfl,hnn,U2,rfl⟩
   | some e=>
    obtain ⟨s1,n1,z1⟩:=e
    dsimp only
    generalize power' _ _ _ _ = pw
    refine Pf (PU (PV (I:=fun y c st3=>c = (none,()) /\ ∃ p3 pend3,Stt κ it st3 p3 pend3 /\ p3.Perm p /\ Rn le p3 0 pend3.toList lo /\ Up le p3 lo (lo + nn))
     (Q:=fun c st3=>c = (none,()) /\ ∃ p3 pend3,Stt κ it st3 p3 pend3 /\ p3.Perm p /\ Rn le p3 0 pend3.toList lo /\ Up le p3 lo (lo + nn)) ?s2 ?f2 ?i2) ?p2)
    case i2=>exact ⟨rfl,p2,pend',S2,P2,R2,U2⟩
    case f2=>exact fun c st3 h=>h
    case s2=>
     rintro y c st3 _ hy ⟨rfl,p3,pend3,S3,P3,R3,U3⟩
     refine Pf (Qj ?_)
     rw [S3.2.2.1]
     by_cases c1:pend3.size > 1
     ·rw [Pb c1]
      cases hg:pend3[pend3.size - 2]? with
      | none=>exact Pe ⟨rfl,p3,pend3,S3,P3,R3,U3⟩
      | some e=>
       obtain ⟨z2,z3,older⟩:=e
       dsimp only
       by_cases c2:older <= pw
       ·rw [Pb c2]
        exact Pe ⟨rfl,p3,pend3,S3,P3,R3,U3⟩
       ·rw [Pc c2]
        have hs3:=P3.size_eq
        refine Pf (rk o hc S3 (hp _ P3) (i:=pend3.size - 2) (by lia) R3 (by lia) fun p4 pend4 st4 S4 N4 R4 _=>?_)
        exact Pe ⟨rfl,p4,pend4,S4,N4.1.trans P3,R4,U3.of fun i h1 h2=>N4.2 i (.inr h1)⟩
     ·rw [Pc c1]
      exact Pe ⟨rfl,p3,pend3,S3,P3,R3,U3⟩
    case p2=>
     rintro c st3 ⟨rfl,p3,pend3,S3,P3,R3,U3⟩
     dsimp only
     refine Pf (Qd (Pf (Qd (Pe ⟨lo + nn,p3,(pend3.modify (pend3.size - 1) fun e=>(e.1,e.2.1,pw)).push (lo,nn,0),rfl,⟨S3.1,S3.2.1,?_,S3.2.2.2⟩,P3,?_,by lia,by lia⟩))))
     ·show ((pendingOf st3).modify ((pendingOf st3).size - 1) _).push _ = _
      rw [S3.2.2.1]
     ·rw [Q8]
      refine Rn.put (R3.same ?_) ⟨rfl,hnn,U3,rfl⟩
      apply Rx
      intro k
      rw [PN,PN,QZ,QZ,Array.getElem?_modify]
      split
      ·cases pend3[k]? <;> rfl
      ·rfl
  ·rw [Pc e2]
   have hnn:=m1
   have hnn2:lo + m <= p.size:=by lia
   refine Pf (Qj ?_)
   rw [S2.2.2.1]
   cases hbk:pend'.back? with
   | none=>
    dsimp only
    refine Pf (Qd (Pe ⟨lo + m,p2,pend'.push (lo,m,0),rfl,⟨S2.1,S2.2.1,?_,S2.2.2.2⟩,P2,?_,by lia,by lia⟩))
    ·show (pendingOf st2).push _ = _
     rw [S2.2.2.1]
    ·rw [Q8]
     exact R2.put ⟨rfl,hnn,U2,rfl⟩
   | some e=>
    obtain ⟨s1,n1,z1⟩:=e
    dsimp only
    generalize power' _ _ _ _ = pw
    refine Pf (PU (PV (I:=fun y c st3=>c = (none,()) /\ ∃ p3 pend3,Stt κ it st3 p3 pend3 /\ p3.Perm p /\ Rn le p3 0 pend3.toList lo /\ Up le p3 lo (lo + m))
     (Q:=fun c st3=>c = (none,()) /\ ∃ p3 pend3,Stt κ it st3 p3 pend3 /\ p3.Perm p /\ Rn le p3 0 pend3.toList lo /\ Up le p3 lo (lo + m)) ?s2 ?f2 ?i2) ?p2)
    case i2=>exact ⟨rfl,p2,pend',S2,P2,R2,U2⟩
    case f2=>exact fun c st3 h=>h
    case s2=>
     rintro y c st3 _ hy ⟨rfl,p3,pend3,S3,P3,R3,U3⟩
     refine Pf (Qj ?_)
     rw [S3.2.2.1]
     by_cases c1:pend3.size > 1
     ·rw [Pb c1]
      cases hg:pend3[pend3.size - 2]? with
      | none=>exact Pe ⟨rfl,p3,pend3,S3,P3,R3,U3⟩
      | some e=>
       obtain ⟨z2,z3,older⟩:=e
       dsimp only
       by_cases c2:older <= pw
       ·rw [Pb c2]
        exact Pe ⟨rfl,p3,pend3,S3,P3,R3,U3⟩
       ·rw [Pc c2]
        have hs3:=P3.size_eq
        refine Pf (rk o hc S3 (hp _ P3) (i:=pend3.size - 2) (by lia) R3 (by lia) fun p4 pend4 st4 S4 N4 R4 _=>?_)
        exact Pe ⟨rfl,p4,pend4,S4,N4.1.trans P3,R4,U3.of fun i h1 h2=>N4.2 i (.inr h1)⟩
     ·rw [Pc c1]
      exact Pe ⟨rfl,p3,pend3,S3,P3,R3,U3⟩
    case p2=>
     rintro c st3 ⟨rfl,p3,pend3,S3,P3,R3,U3⟩
     dsimp only
     refine Pf (Qd (Pf (Qd (Pe ⟨lo + m,p3,(pend3.modify (pend3.size - 1) fun e=>(e.1,e.2.1,pw)).push (lo,m,0),rfl,⟨S3.1,S3.2.1,?_,S3.2.2.2⟩,P3,?_,by lia,by lia⟩))))
     ·show ((pendingOf st3).modify ((pendingOf st3).size - 1) _).push _ = _
      rw [S3.2.2.1]
     ·rw [Q8]
      refine Rn.put (R3.same ?_) ⟨rfl,hnn,U3,rfl⟩
      apply Rx
      intro k
      rw [PN,PN,QZ,QZ,Array.getElem?_modify]
      split
      ·cases pend3[k]? <;> rfl
      ·rfl
 case p1=>
  rintro ⟨c,c'⟩ st' ⟨p',pend',hc1,S',P',R'⟩
  dsimp only at hc1
  subst hc1
  dsimp only
  refine Pf (PU (PV (I:=fun x c st'=>∃ p' pend',c = (none,()) /\ Stt κ it st' p' pend' /\ p'.Perm p /\ Rn le p' 0 pend'.toList p.size /\ pend'.size + x <= p.size)
   (Q:=fun c st'=>∃ p' pend',c = (none,()) /\ Stt κ it st' p' pend' /\ p'.Perm p /\ Rn le p' 0 pend'.toList p.size /\ pend'.size <= 1) ?s5 ?f5 ?i5) ?p5)
  case i5=>exact ⟨p',pend',rfl,S',P',R',by have:=R'.len_le;rw [Qe] at this;lia⟩
  case f5=>
   rintro c st' ⟨p',pend',rfl,S',P',R',hl⟩
   exact ⟨p',pend',rfl,S',P',R',by lia⟩
  case s5=>
   rintro x c st' _ hx ⟨p',pend',rfl,S',P',R',hl⟩
   refine Pf (Qj ?_)
   rw [S'.2.2.1]
   by_cases e1:pend'.size <= 1
   ·rw [Pb e1]
    exact Pe ⟨p',pend',rfl,S',P',R',e1⟩
   rw [Pc e1]
   have hs':=P'.size_eq
   refine Pf (rk o hc S' (hp _ P') ?_ R' (by lia) fun p4 pend4 st4 S4 N4 R4 h4=>?_)
   ·exact Iu (by lia)
   ·exact Pe ⟨p4,pend4,rfl,S4,N4.1.trans P',R4,by lia⟩
  case p5=>
   rintro c st' ⟨p',pend',rfl,S',P',R',hl⟩
   refine Pe (h p' pend' st' S' P' ?_)
   cases hq:pend'.toList with
   | nil=>
    rw [hq] at R'
    have:0 = p.size:=R'
    intro i j _ _ h3
    lia
   | cons e es=>
    cases es with
    | nil=>
     rw [hq] at R'
     obtain ⟨r1,r2,r3,r4⟩:=R'
     have r4':0 + e.2.1 = p.size:=r4
     rw [<- r4']
     exact r3
    | cons e2 es=>
     have:=PQ List.length hq
     rw [Qe] at this
     simp at this
     lia
end
section
variable {prog:Program} {w:World} {A:Around} {E:Value -> Shared -> Prop} {s:Shared}
structure Known (prog:Program) (w:World) (s:Shared) (vs:List Value) (κ:SortKind) (lt:Nat -> Nat -> Bool):Prop where
 kind:∀ (A:Around) (E:Value -> Shared -> Prop) (h':Heap) (Q:SortKind -> Shared -> Prop),(∀ b o,s.heap.get? b = some o -> h'.get? b = some o) -> 2 <= vs.length -> Q κ { s with heap:=h' } -> wpAny (model prog w) A (keyKind' vs.toArray) Q E { s with heap:=h' }
 ask:∀ (A:Around) (h':Heap) (i j:Nat) (C:Bool -> Shared -> Prop),(∀ b o,s.heap.get? b = some o -> h'.get? b = some o) -> i < vs.length -> j < vs.length -> C (lt i j) { s with heap:=h' } -> kas_ask prog w A κ vs i j C { s with heap:=h' }
theorem Known.on {vs:List Value} {κ:SortKind} {lt:Nat -> Nat -> Bool} {h:Heap} (k:Known prog w s vs κ lt) (hk:∀ b o,s.heap.get? b = some o -> h.get? b = some o):Known prog w { s with heap:=h } vs κ lt:=
 ⟨fun A E h' Q h2=>k.kind A E h' Q fun b o e=>h2 b o (hk b o e),fun A h' i j C h2=>k.ask A h' i j C fun b o e=>h2 b o (hk b o e)⟩
def lB (vs:List Value) (p:Array Nat):Array Value:=(p.toList.map fun i=>vs.getD i Value.none).toArray
theorem BF {vs:List Value} {p:Array Nat} (h:p.size = vs.length):(lB vs p).size = vs.length:=by
 unfold lB;simp [h]
theorem A8 {vs:List Value}:lB vs (List.range vs.length).toArray = vs.toArray:=by
 unfold lB
 congr 1
 apply List.ext_getElem
 ·simp
 ·intro i h1 h2
  simp at h1
  simp [h1]
theorem Ip {le:Nat -> Nat -> Prop} (rf:∀ a,le a a) {n:Nat} (h:n < 2) (p:Array Nat):Asc le p n:=fun i j hij hj=>by
 have e:i = j:=by lia
 subst e;exact rf _
theorem GD {a:Addr} {vs:List Value} {n:Nat} {κ:SortKind} {lt:Nat -> Nat -> Bool} {le:Nat -> Nat -> Prop} {P:PySem.Fin -> Shared -> Prop} (o:Ord lt le) (ho:s.heap.get? a = some (seqObj "list" vs.toArray n)) (hN:vs.length <= sizeLine)
  (hk:∀ h',(∀ b o,b ≠ a -> s.heap.get? b = some o -> h'.get? b = some o) -> Known prog w { s with heap:=h' } vs κ lt)
  (h:∀ p:Array Nat,p.Perm (List.range vs.length).toArray -> Asc le p vs.length -> P (.done (.ret .none)) { s with heap:=sortedHeap s.heap a vs (lB vs p) }):wpAny (model prog w) A (Builtin.«list.sort» ⟨[.ref a],[]⟩) P E s:=by
 have ha:a < s.heap.objs.size:=Pv ho
 obtain ⟨e1,ho1⟩:∃ e1,(s.heap.update a (Obj.mapSeq fun _=>#[])).get? a = some (seqObj "list" #[] e1):=⟨_,get?_update_seq ho fun _=>#[]⟩
 have ne1:a ≠ ((s.heap.update a (Obj.mapSeq fun _=>#[])).push (seqObj "tuple" vs.toArray 0)).objs.size:=by rw [size_push',Heap.size_update];exact PD (Rp ha)
 have ne2:a ≠ (s.heap.update a (Obj.mapSeq fun _=>#[])).objs.size:=by rw [Heap.size_update];exact PD ha
 have ho6:(((s.heap.update a (Obj.mapSeq fun _=>#[])).push (seqObj "tuple" vs.toArray 0)).push (seqObj "list" #[] 0)).get? a = some (seqObj "list" #[] e1):=by rw [Heap.get?_push_ne _ _ _ ne1,Heap.get?_push_ne _ _ _ ne2,ho1]
 have keep:∀ b q,b ≠ a -> s.heap.get? b = some q -> (((s.heap.update a (Obj.mapSeq fun _=>#[])).push (seqObj "tuple" vs.toArray 0)).push (seqObj "list" #[] 0)).get? b = some q:=fun b q hb hq=>
  Pz _ (Pz _ ((Heap.get?_update_ne _ _ _ _ hb).trans hq))
 have K:=hk _ keep
 rw [list_sort_plain];refine Pg (listItems_at ho rfl (Pg (listUpdate_at ho rfl (Pg (seqEpoch_at ho1 rfl (Pg (wpAny_newTuple (Pg (wpAny_newList (QC ?_))))))))))
 dsimp only
 have hn:vs.toArray.size = vs.length:=by simp
 have fin:∀ (p:Array Nat) (st:SortSt),p.Perm (List.range vs.length).toArray -> Asc le p vs.length -> (arrOf st).map (·.2) = lB vs p -> failedOf st = none ->
   wpAny (model prog w) A (do
    let touched:=(← seqEpoch a) != e1
    Builtin.List.listUpdate (.ref a) fun _=>(arrOf st).map (·.2)
    if let some e:=failedOf st then rule "list.sort.comparison-raised"; throw e
    if touched then rule "list.sort.modified"; raiseError "ValueError" "list modified during sort"
    ret .none) P E { s with heap:=((s.heap.update a (Obj.mapSeq fun _=>#[])).push (seqObj "tuple" vs.toArray 0)).push (seqObj "list" #[] 0) }:=fun p st hp hs ho2 hf=>by
  have hz:(lB vs p).size <= sizeLine + 1:=by
   rw [BF (by rw [hp.size_eq];simp)];lia
  rw [ho2,hf]
  refine Pg (seqEpoch_at ho6 rfl (Pg (listUpdate_at ho6 rfl ?_ (hsz2:=hz))))
  simp only [bne_self_eq_false,Bool.false_eq_true,if_false]
  exact Pl (h p hp hs)
 by_cases h2:vs.toArray.size < 2
 ·rw [Pb h2,Pb h2]
  refine Pg (Pl ?_)
  rw [StateT.run_pure]
  refine Pg (Pl (fin (List.range vs.length).toArray _ (Array.Perm.refl _) (Ip o.rf (by lia) _) ?_ rfl))
  rw [A8]
  show ((vs.toArray.zip vs.toArray).map (·.2)) = vs.toArray
  apply Array.ext
  ·simp
  ·intro i h1 h2;simp
 ·rw [Pc h2,Pc h2]
  refine Pg (K.kind _ _ _ _ (fun _ _ e=>e) (by lia) ?_)
  have pos:0 < vs.length:=by lia
  have perm0:∀ p':Array Nat,p'.Perm (List.range vs.length).toArray -> ∀ i,i < p'.size -> at' p' i < vs.length:=fun p' h' i _=>Ko pos h' i
  have esz:(vs.toArray.zip vs.toArray).size = vs.length:=by simp
  have er:=kas_range (vs.toArray.zip vs.toArray)
  rw [esz] at er
  have run:=KB (prog:=prog) (w:=w) (A:=A) (E:=E) (κ:=κ) (it:=vs.toArray.zip vs.toArray) (n:=vs.length) (lt:=lt) (le:=le) (p:=(List.range vs.length).toArray) (st:=SortSt.mk' κ (vs.toArray.zip vs.toArray) #[] 7 none)
   (s:={ s with heap:=((s.heap.update a (Obj.mapSeq fun _=>#[])).push (seqObj "tuple" vs.toArray 0)).push (seqObj "list" #[] 0) })
   (Q:=fun _ st=>∃ p:Array Nat,(arrOf st).map (·.2) = lB vs p /\ failedOf st = none /\ p.Perm (List.range vs.length).toArray /\ Asc le p vs.length) o
   (fun i j C hi hj hc=>by rw [<- kat_ask_eq (ks:=vs) (vs:=vs) rfl];exact K.ask _ _ i j C (fun _ _ e=>e) hi hj hc) ⟨rfl,er.symm,rfl,rfl⟩ perm0
   (fun p' pend' st' S' hp hu=>⟨p',kat_snds rfl S'.2.1,S'.2.2.2,hp,fun i j hij hj=>hu i j (P8 _) hij (by simpa using hj)⟩)
  refine Pg (P9 run (fun r s' hr=>?_) fun _ _ e=>e)
  ·obtain ⟨rfl,p,e2,hf,hp,hs⟩:=hr
   exact fin p r.2 hp hs e2 hf
theorem wS {l:Addr} {vs:List Value} {κ:SortKind} {lt:Nat -> Nat -> Bool} {le:Nat -> Nat -> Prop} {Q:Value -> Shared -> Prop} (o:Ord lt le) (hl:s.heap.IsList l vs.toArray) (hN:vs.length <= sizeLine) (hk:Known prog w s vs κ lt)
  (h:∀ p:Array Nat,p.Perm (List.range vs.length).toArray -> Asc le p vs.length -> Q (.ref (s.heap.objs.size + 1)) { s with heap:=sortedAll s.heap vs (lB vs p) }):wpAny (model prog w) A (call (.builtin "sorted") [.ref l]) Q E s:=by
 have hz:vs.length <= sizeLine:=hN
 have sz:((s.heap.push (seqObj "list" #[] 0)).update s.heap.objs.size (Obj.mapSeq (· ++ vs.toArray))).objs.size = s.heap.objs.size + 1:=by rw [Heap.size_update,size_push']
 have at1:(((s.heap.push (seqObj "list" #[] 0)).update s.heap.objs.size (Obj.mapSeq (· ++ vs.toArray))).push (seqObj "list" vs.toArray 0)).get? (s.heap.objs.size + 1) = some (seqObj "list" vs.toArray 0):=by rw [<- sz];exact P7 _ rfl
 have old:∀ b q,s.heap.get? b = some q -> b ≠ s.heap.objs.size + 1 /\ (((s.heap.push (seqObj "list" #[] 0)).update s.heap.objs.size (Obj.mapSeq (· ++ vs.toArray))).push (seqObj "list" vs.toArray 0)).get? b = some q:=fun b q e=>by
  have hb:=Pv e
  refine ⟨PD (Rp hb),Pz _ ?_⟩
  rw [Heap.get?_update_ne _ _ _ _ (PD hb)]
  exact Pz _ e
 refine Calls.call_function_entry kind_sorted plain_sorted entry_sorted (args_sorted1 (.ref l)) ?_;unfold Builtin.«sorted»
 refine Pg (m:=checkCount "sorted" 1 1 _) (Pl (Pg (collect_list hl (Pg (wpAny_newList ?_ hz)) hz)))
 show wpAny (model prog w) _ _ _ _ { s with heap:=((s.heap.push (seqObj "list" #[] 0)).update s.heap.objs.size (Obj.mapSeq (· ++ vs.toArray))).push (seqObj "list" vs.toArray 0) }
 rw [sz]
 refine Pg (QC (Q6 slot_list_sort ⟨_,at1,rfl⟩ entry_list_sort (GD (κ:=κ) (le:=le) o at1 hN (fun h' kp=>?_) fun p hp hs=>⟨_,rfl,Pl ⟨_,rfl,h p hp hs⟩⟩) (args_list_sort _)))
 exact hk.on fun b q e=>kp b q (old b q e).1 (old b q e).2
end
section
variable {prog:Program} {w:World} {A:Around} {E:Value -> Shared -> Prop} {s:Shared}
def jD:List Int -> List Int -> Bool
 | [],[]=>false
 | [],_ :: _=>true
 | _ :: _,[]=>false
 | x :: xs,y :: ys=>if x = y then jD xs ys else decide (x < y)
theorem sW:∀ a:List Int,jD a a = false
 | []=>rfl
 | x :: xs=>by unfold jD;rw [Pb rfl];exact sW xs
theorem u9:∀ a b:List Int,jD a b = true -> jD b a = false
 | [],[],h=>by unfold jD at h;cases h
 | [],_ :: _,_=>by unfold jD;rfl
 | _ :: _,[],h=>by unfold jD at h;cases h
 | x :: xs,y :: ys,h=>by
  unfold jD at h ⊢
  by_cases e:x = y
  ·rw [Pb e] at h;rw [Pb e.symm];exact u9 xs ys h
  ·rw [Pc e] at h
   rw [Pc (PM e)]
   have:=QF h
   exact PX (by lia)
theorem uT:∀ a b c:List Int,jD b a = false -> jD c b = false -> jD c a = false
 | [],_,[],_,_=>rfl
 | [],[],_ :: _,_,h=>by unfold jD at h;cases h <;> rfl
 | [],_ :: _,_ :: _,_,_=>by unfold jD;rfl
 | _ :: _,[],_,h,_=>by unfold jD at h;cases h
 | x :: xs,y :: ys,[],_,h=>by unfold jD at h;cases h
 | x :: xs,y :: ys,z :: zs,h1,h2=>by
  unfold jD at h1 h2 ⊢
  by_cases e1:y = x
  ·rw [Pb e1] at h1
   by_cases e2:z = y
   ·rw [Pb e2] at h2
    rw [Pb (e2.trans e1)]
    exact uT xs ys zs h1 h2
   ·rw [Pc e2] at h2
    rw [Pc (by lia)]
    have:=Qy h2
    exact PX (by lia)
  ·rw [Pc e1] at h1
   have g1:=Qy h1
   by_cases e2:z = y
   ·rw [Pc (by lia)]
    exact PX (by lia)
   ·rw [Pc e2] at h2
    have g2:=Qy h2
    rw [Pc (by lia)]
    exact PX (by lia)
theorem G8 (f:Nat -> List Int):Ord (fun i j=>jD (f i) (f j)) (fun i j=>jD (f j) (f i) = false):=
 ⟨fun a b c h1 h2=>uT _ _ _ h1 h2,fun a=>sW _,fun a b h=>u9 _ _ h,fun a b h=>h⟩
def L6 (h:Heap) (v:Value) (ns:List Int):Prop:=∃ a o xs n,v = .ref a /\ h.get? a = some o /\ o.cls = .type "tuple" /\ o.data = .seq xs n /\ IntsAre xs.toList ns
theorem Iz:∀ (xs ys:List Value) (ns ms:List Int) (i:Nat) (fin:Bool) (Q:Bool -> Shared -> Prop),IntsAre xs ns -> IntsAre ys ms -> (fin = decide (xs.length < ys.length)) -> Q (jD ns ms) s ->
  KatLex prog w A true fin Q (xs.zip ys) i s:=by
 intro xs
 induction xs with
 | nil=>
  intro ys ns ms i fin Q hx hy hf hq
  cases hx
  rw [List.zip_nil_left]
  show Q fin s
  rw [hf]
  cases hy with
  | nil=>exact hq
  | cons b u ty=>exact hq
 | cons x xs ih=>
  intro ys ns ms i fin Q hx hy hf hq
  cases hx with
  | cons a t tx=>
   cases hy with
   | nil=>
    rw [List.zip_nil_right]
    show Q fin s
    rw [hf]
    exact hq
   | @cons c u ys' ms' ty=>
    rw [Ry]
    refine kat_cons ((SeqAt.EqAt.int_int a t c u) prog w _ _ ?_)
    unfold jD at hq
    by_cases e:a = c
    ·rw [Pb e] at hq
     have eb:(a == c) = true:=by simpa using e
     rw [eb]
     exact kat_yes (ih ys' _ ms' (i + 1) fin Q tx ty (by rw [hf];simp) hq)
    ·rw [Pc e] at hq
     have eb:(a == c) = false:=by simpa using e
     rw [eb]
     refine kat_no ?_
     cases q:i == 0 with
     | true=>exact oneLt_int hq
     | false=>exact kat_one _ _ (lt_int hq)
theorem BV {vs:List Value} {f:Nat -> List Int} (hv:∀ i,i < vs.length -> L6 s.heap (vs.getD i Value.none) (f i) /\ f i ≠ []):Known prog w s vs (tuples' true) fun i j=>jD (f i) (f j):=by
 refine ⟨fun A E h' Q hk h2 hq=>?_,fun A h' i j C hk hi hj hc=>?_⟩
 ·have hv':∀ v ∈ vs,∃ n t rest a o xs k,v = .ref a /\ h'.get? a = some o /\ o.cls = .type "tuple" /\ o.data = .seq xs k /\ xs.toList = Value.int n t :: rest:=fun v hm=>by
   obtain ⟨i,hi,e⟩:=List.getElem_of_mem hm
   obtain ⟨⟨a,o,xs,k,e1,e2,e3,e4,e5⟩,ne⟩:=hv i hi
   have ev:vs.getD i Value.none = v:=by rw [R8,Qi hi];exact e
   rw [ev] at e1
   revert e5 ne
   generalize f i = ns
   generalize ex:xs.toList = L
   intro ne e5
   cases e5 with
   | nil=>exact absurd rfl ne
   | @cons n t vs' ns' tl=>exact ⟨n,t,vs',a,o,xs,k,e1,hk _ _ e2,e3,e4,ex⟩
  have fs:∀ L:List Value,(∀ v ∈ L,∃ n t rest a o xs k,v = .ref a /\ h'.get? a = some o /\ o.cls = .type "tuple" /\ o.data = .seq xs k /\ xs.toList = Value.int n t :: rest) -> ∃ gs,KatTups h' L gs /\ gs.length = L.length /\ ∀ v ∈ gs,∃ n t,v = Value.int n t:=by
   intro L
   induction L with
   | nil=>exact fun _=>⟨[],.nil,rfl,fun _ h=>(by cases h)⟩
   | cons v L ih=>
    intro hL
    obtain ⟨gs,g1,g2,g3⟩:=ih fun u hu=>hL u (Po _ hu)
    obtain ⟨n,t,rest,a,o,xs,k,rfl,e2,e3,e4,e5⟩:=hL v Pm
    refine ⟨.int n t :: gs,.cons e2 e3 e4 (by rw [<- QZ,e5];rfl) g1,by rw [Pw,Pw,g2],fun u hu=>?_⟩
    rcases Pq.mp hu with rfl | hu
    ·exact ⟨n,t,rfl⟩
    ·exact g3 u hu
  obtain ⟨gs,g1,g2,g3⟩:=fs vs hv'
  refine kat_kind (s:={ s with heap:=h' }) (T:=.type "int") g1 (by lia) (fun v hm=>?_) (by decide) hq
  obtain ⟨n,t,rfl⟩:=g3 v hm
  exact Looks.of_pure rfl
 ·obtain ⟨⟨a,o,xs,k,e1,e2,e3,e4,e5⟩,_⟩:=hv i hi
  obtain ⟨⟨a',o',xs',k',e1',e2',e3',e4',e5'⟩,_⟩:=hv j hj
  unfold kas_ask
  rw [e1,e1']
  refine kat_lt (s:={ s with heap:=h' }) (hk _ _ e2) e4 (hk _ _ e2') e4' ?_
  refine Iz (s:={ s with heap:=h' }) _ _ _ _ _ _ _ e5 e5' ?_ hc
  simp
theorem ug:∀ {vs:List Value} {ns:List Int},IntsAre vs ns -> ∀ i,i < vs.length -> ∃ t,vs.getD i Value.none = .int (ns.getD i 0) t
 | _,_,.nil,i,h=>by simp at h
 | _,_,.cons n t _,0,_=>⟨t,rfl⟩
 | _,_,.cons n t tl,i + 1,h=>by
  obtain ⟨u,e⟩:=ug tl i (by simpa using h)
  exact ⟨u,by simpa using e⟩
theorem BJ {vs:List Value} {ns:List Int} (hI:IntsAre vs ns):Known prog w s vs oneType' fun i j=>decide (ns.getD i 0 < ns.getD j 0):=by
 refine ⟨fun A E h' Q hk h2 hq=>?_,fun A h' i j C hk hi hj hc=>?_⟩
 ·rw [ksk_kind (keys:=vs.toArray) (kz:=ns) (by simpa using hI) (by simpa using h2)]
  exact Pl hq
 ·obtain ⟨t,e1⟩:=ug hI i hi
  obtain ⟨u,e2⟩:=ug hI j hj
  unfold kas_ask
  rw [e1,e2,keyLt'_oneType]
  exact oneLt_int hc
theorem FT (f:Nat -> Int):Ord (fun i j=>decide (f i < f j)) (fun i j=>f i <= f j):=
 ⟨fun _ _ _ h k=>Int.le_trans h k,fun _=>PC _,fun a b h=>Int.le_of_lt (QF h),fun a b h=>by have:=Qy h;show f b <= f a;lia⟩
theorem jF {vs:List Value} {ns:List Int} (hI:IntsAre vs ns):∀ L:List Nat,(∀ i ∈ L,i < vs.length) -> IntsAre (L.map fun i=>vs.getD i Value.none) (L.map fun i=>ns.getD i 0)
 | [],_=>.nil
 | i :: L,h=>by
  obtain ⟨t,e⟩:=ug hI i (h i Pm)
  rw [Px,Px,e]
  exact .cons _ t (jF hI L fun j hj=>h j (Po _ hj))
theorem AX:∀ {vs:List Value} {ns:List Int},IntsAre vs ns -> vs.length = ns.length
 | _,_,.nil=>rfl
 | _,_,.cons n t tl=>by rw [Pw,Pw,AX tl]
theorem y7 {l:Addr} {vs:List Value} {ns:List Int} {Q:Value -> Shared -> Prop} (hl:s.heap.IsList l vs.toArray) (hI:IntsAre vs ns) (hN:vs.length <= sizeLine)
  (h:∀ (out:Array Value) ms,IntsAre out.toList ms -> ms.Perm ns -> ms.Pairwise (· <= ·) -> Q (.ref (s.heap.objs.size + 1)) { s with heap:=sortedAll s.heap vs out }):wpAny (model prog w) A (call (.builtin "sorted") [.ref l]) Q E s:=by
 refine wS (FT fun i=>ns.getD i 0) hl hN (BJ hI) fun p hp ha=>?_
 have e:=AX hI
 have hb:∀ i ∈ p.toList,i < vs.length:=fun i hi=>by simpa using (Rq.mp hp).mem_iff.mp hi
 rw [e] at hp ha
 obtain ⟨p1,p2⟩:=BR (vs:=ns) (d:=0) hp ha
 exact h (lB vs p) _ (by simpa [lB] using jF hI p.toList hb) p1 (p2 _ fun i j _ _ h=>h)
end
end Srt
namespace L2
open PySem
def KR (K:W.Frag):List V -> Hp -> VK -> Prop:=fun xs H Q=>∃ p ys,xs = [.ref p] /\ ((SqL K H p ys /\ ∀ l,H l = none -> Q (.ref l) (upd H l (.tup ys))) \/ (SqT K H p ys /\ Q (.ref p) H))
def L1:List V -> Hp -> VK -> Prop:=fun xs H Q=>∃ i j,xs = [.int i,.int j] /\ Q (.int (if j > i then j else i)) H
def LL:List V -> Hp -> VK -> Prop:=fun xs H Q=>∃ i j,xs = [.int i,.int j] /\ Q (.int (if j < i then j else i)) H
def LW (K:W.Frag) (ta:TE):TT:=fun σ H Q=>ta σ H fun x H'=>∃ k,E6 K x H' k /\ Q k H'
def Al (K:W.Frag):List V -> Hp -> VK -> Prop:=fun xs H Q=>∃ p,∃ ns:List Int,xs = [.ref p] /\ SqL K H p (ns.map V.int) /\ ns.length < 30000 /\
 ∀ (ms:List Int) l,ms.Perm ns -> ms.Pairwise (· <= ·) -> H l = none -> Q (.ref l) (upd H l (.lst (ms.map V.int)))
def Jr (K:W.Frag):List V -> Hp -> VK -> Prop:=fun xs H Q=>∃ p,∃ ns:List Int,xs = [.ref p] /\ SqL K H p (ns.map V.int) /\ Q (.int ns.sum) H
def KE (n:Nat):It:=⟨fun i _=>i < n,fun i H x H'=>H' = H /\ x = .int (2 * i),fun i _=>n <= i⟩
def Jp (ta:TA):TI:=fun σ H R=>ta σ H fun vs H1=>∃ j:Int,vs = [.int 0,.int j,.int 2] /\ 0 <= j /\ j < 1000000 /\ R (KE ((j + 1) / 2).toNat) H1
def Kp (K:W.Frag) (tl:TE):TI:=fun σ H R=>tl σ H fun x H1=>∃ a,x = .ref a /\ (((∃ xs,SqL K H1 a xs) /\ R (Itl K a) H1) \/ ((∃ xs,SqT K H1 a xs) /\ R (Itt K a) H1))
end L2
namespace M
open PySem L2
inductive D where
 | non | bl (b:Bool) | int (i:Int) | str (x:Str) | ty (n:String) | lst (l:List D) | tup (l:List D) | scr (l:List D) | ins (N:Str) (ns:List Str) (l:List D) | dic (ks:List (List Int)) | dif (ks:List (List Int)) | mtp (l:List D)
 deriving Inhabited
theorem et {S S':Hp} (s:Same S S') {a:Addr} {u:HO} (h:Rd S a u):Rd S' a u:=h.elim (fun e=>.inl (s _ _ e)) fun ⟨o,e⟩=>.inr ⟨o,s _ _ e⟩
theorem fg {K:W.Frag} {S S':Hp} (s:Same S S') {a:Addr} {xs:List V} (h:SqL K S a xs):SqL K S' a xs:=h.elim (fun e=>.inl (et s e)) .inr
theorem bf {K:W.Frag} {S S':Hp} (s:Same S S') {a:Addr} {xs:List V} (h:SqT K S a xs):SqT K S' a xs:=h.elim (fun e=>.inl (et s e)) .inr
def TpA (K:W.Frag) (S:Hp) (a:Addr) (xs:List V):Prop:=SqT K S a xs
theorem TpA.of {K:W.Frag} {S:Hp} {a:Addr} {xs:List V} (h:S a = some (.tup xs)):TpA K S a xs:=SqT.of h
theorem TpA.sq {K:W.Frag} {S:Hp} {a:Addr} {xs:List V} (h:TpA K S a xs):SqT K S a xs:=h
theorem TpA.mono {K:W.Frag} {S S':Hp} (s:Same S S') {a:Addr} {xs:List V} (h:TpA K S a xs):TpA K S' a xs:=bf s h
def BL (ks:List (List Int)):List (List Key × V):=ks.map fun k=>(k.map Sum.inl,V.bl true)
mutual
def Den (K:W.Frag) (S:Hp):D -> V -> Prop
 | .non,v=>v = .non
 | .bl b,v=>v = .bl b
 | .int i,v=>v = .int i
 | .str x,v=>v = .str x
 | .ty x,v=>v = .ty x
 | .lst l,v=>∃ p xs,v = .ref p /\ Rd S p (.lst xs) /\ Dens K S l xs
 | .tup l,v=>∃ p xs,v = .ref p /\ TpA K S p xs /\ Dens K S l xs
 | .scr l,v=>∃ p xs,v = .ref p /\ SqL K S p xs /\ Dens K S l xs
 | .mtp l,v=>∃ p xs,v = .ref p /\ SqT K S p xs /\ Dens K S l xs
 | .ins N ns l,v=>∃ p C dx fs,v = .ref p /\ W.nsIn K mainGlobals N = some (some (.ref C)) /\ S p = some (.ins C dx fs) /\ fs.map (·.1) = ns /\ Dens K S l (fs.map (·.2))
 | .dic ks,v=>∃ p,v = .ref p /\ Rd S p (.dT (BL ks))
 | .dif ks,v=>∃ p o,v = .ref p /\ S p = some (.frz o (.dT (BL ks)))
def Dens (K:W.Frag) (S:Hp):List D -> List V -> Prop
 | [],xs=>xs = []
 | d :: ds,xs=>∃ y ys,xs = y :: ys /\ Den K S d y /\ Dens K S ds ys
end
section
variable {K:W.Frag} {S S' H H':Hp}
theorem Dens.nil:Dens K S [] []:=by unfold Dens;rfl
theorem Dens.cons {d:D} {ds:List D} {y:V} {ys:List V} (h:Den K S d y) (k:Dens K S ds ys):Dens K S (d :: ds) (y :: ys):=by unfold Dens;exact ⟨y,ys,rfl,h,k⟩
theorem Dens.nil_of {xs:List V} (h:Dens K S [] xs):xs = []:=by unfold Dens at h;exact h
theorem Dens.cons_of {d:D} {ds:List D} {xs:List V} (h:Dens K S (d :: ds) xs):∃ y ys,xs = y :: ys /\ Den K S d y /\ Dens K S ds ys:=by unfold Dens at h;exact h
theorem Dens.length:∀ {ds:List D} {xs:List V},Dens K S ds xs -> ds.length = xs.length
 | [],_,h=>by rw [h.nil_of];rfl
 | _ :: _,_,h=>by
  obtain ⟨y,ys,rfl,_,k⟩:=h.cons_of
  rw [Pw,Pw,k.length]
theorem Dens.append:∀ {ds es:List D} {xs ys:List V},Dens K S ds xs -> Dens K S es ys -> Dens K S (ds ++ es) (xs ++ ys)
 | [],_,_,_,h,k=>by rw [h.nil_of];exact k
 | _ :: _,_,_,_,h,k=>by
  obtain ⟨y,ys,rfl,a,b⟩:=h.cons_of
  exact .cons a (b.append k)
theorem Dens.get:∀ {ds:List D} {xs:List V} {i:Nat} {d:D},Dens K S ds xs -> ds[i]? = some d -> ∃ x,xs[i]? = some x /\ Den K S d x
 | [],_,_,_,_,e=>by simp at e
 | _ :: _,_,0,_,h,e=>by
  obtain ⟨y,ys,rfl,a,b⟩:=h.cons_of
  simp at e;subst e
  exact ⟨y,rfl,a⟩
 | _ :: _,_,i + 1,_,h,e=>by
  obtain ⟨y,ys,rfl,a,b⟩:=h.cons_of
  obtain ⟨x,e1,h1⟩:=b.get (i:=i) (by simpa using e)
  exact ⟨x,by simpa using e1,h1⟩
theorem Dens.set:∀ {ds:List D} {xs:List V} {d:D} {x:V} (i:Nat),Dens K S ds xs -> Den K S d x -> Dens K S (ds.set i d) (xs.set i x)
 | [],_,_,_,_,h,_=>by rw [h.nil_of];exact .nil
 | _ :: _,_,_,_,0,h,k=>by
  obtain ⟨y,ys,rfl,a,b⟩:=h.cons_of
  exact .cons k b
 | _ :: _,_,_,_,i + 1,h,k=>by
  obtain ⟨y,ys,rfl,a,b⟩:=h.cons_of
  exact .cons a (b.set i k)
theorem Dens.take:∀ {ds:List D} {xs:List V} (i:Nat),Dens K S ds xs -> Dens K S (ds.take i) (xs.take i)
 | [],_,_,h=>by rw [h.nil_of];simp;exact .nil
 | _ :: _,_,0,h=>by simp;exact .nil
 | _ :: _,_,i + 1,h=>by
  obtain ⟨y,ys,rfl,a,b⟩:=h.cons_of
  exact .cons a (b.take i)
theorem Dens.drop:∀ {ds:List D} {xs:List V} (i:Nat),Dens K S ds xs -> Dens K S (ds.drop i) (xs.drop i)
 | [],_,_,h=>by rw [h.nil_of];simp;exact .nil
 | _ :: _,_,0,h=>h
 | _ :: _,_,i + 1,h=>by
  obtain ⟨y,ys,rfl,a,b⟩:=h.cons_of
  exact b.drop i
mutual
theorem Den.mono (s:Same S S'):∀ {d:D} {v:V},Den K S d v -> Den K S' d v
 | .dic _,_,h=>by
  unfold Den at *
  obtain ⟨p,e,h1⟩:=h
  exact ⟨p,e,et s h1⟩
 | .dif _,_,h=>by
  unfold Den at *
  obtain ⟨p,o,e,h1⟩:=h
  exact ⟨p,o,e,s _ _ h1⟩
 | .non,_,h=>by unfold Den at *;exact h
 | .bl _,_,h=>by unfold Den at *;exact h
 | .int _,_,h=>by unfold Den at *;exact h
 | .str _,_,h=>by unfold Den at *;exact h
 | .ty _,_,h=>by unfold Den at *;exact h
 | .lst _,_,h=>by
  unfold Den at *
  obtain ⟨p,xs,e,h1,h2⟩:=h
  exact ⟨p,xs,e,et s h1,Dens.mono s h2⟩
 | .tup _,_,h=>by
  unfold Den at *
  obtain ⟨p,xs,e,h1,h2⟩:=h
  exact ⟨p,xs,e,TpA.mono s h1,Dens.mono s h2⟩
 | .scr _,_,h=>by
  unfold Den at *
  obtain ⟨p,xs,e,h1,h2⟩:=h
  exact ⟨p,xs,e,fg s h1,Dens.mono s h2⟩
 | .mtp _,_,h=>by
  unfold Den at *
  obtain ⟨p,xs,e,h1,h2⟩:=h
  exact ⟨p,xs,e,bf s h1,Dens.mono s h2⟩
 | .ins _ _ _,_,h=>by
  unfold Den at *
  obtain ⟨p,C,dx,fs,e,h0,h1,h2,h3⟩:=h
  exact ⟨p,C,dx,fs,e,h0,s _ _ h1,h2,Dens.mono s h3⟩
theorem Dens.mono (s:Same S S'):∀ {ds:List D} {xs:List V},Dens K S ds xs -> Dens K S' ds xs
 | [],_,h=>by rw [h.nil_of];exact .nil
 | _ :: _,_,h=>by
  obtain ⟨y,ys,rfl,a,b⟩:=h.cons_of
  exact .cons (Den.mono s a) (Dens.mono s b)
end
theorem den_int {i:Int} {v:V}:Den K S (.int i) v ↔ v = .int i:=by unfold Den;exact Qt
theorem den_bl {b:Bool} {v:V}:Den K S (.bl b) v ↔ v = .bl b:=by unfold Den;exact Qt
theorem den_non {v:V}:Den K S .non v ↔ v = .non:=by unfold Den;exact Qt
theorem den_str {x:Str} {v:V}:Den K S (.str x) v ↔ v = .str x:=by unfold Den;exact Qt
theorem M2 {x:String} {v:V}:Den K S (.ty x) v ↔ v = .ty x:=by unfold Den;exact Qt
theorem den_tup {l:List D} {v:V}:Den K S (.tup l) v ↔ ∃ p xs,v = .ref p /\ TpA K S p xs /\ Dens K S l xs:=by
 constructor
 ·intro h;unfold Den at h;exact h
 ·intro h;unfold Den;exact h
theorem jn {l:List D} {v:V} (h:Den K S (.tup l) v):∃ p xs,v = .ref p /\ SqT K S p xs /\ Dens K S l xs:=by
 obtain ⟨p,xs,e,h1,h2⟩:=den_tup.mp h
 exact ⟨p,xs,e,h1.sq,h2⟩
theorem den_lst {l:List D} {v:V}:Den K S (.lst l) v ↔ ∃ p xs,v = .ref p /\ Rd S p (.lst xs) /\ Dens K S l xs:=by
 constructor
 ·intro h;unfold Den at h;exact h
 ·intro h;unfold Den;exact h
theorem den_scr {l:List D} {v:V}:Den K S (.scr l) v ↔ ∃ p xs,v = .ref p /\ SqL K S p xs /\ Dens K S l xs:=by
 constructor
 ·intro h;unfold Den at h;exact h
 ·intro h;unfold Den;exact h
theorem den_mtp {l:List D} {v:V}:Den K S (.mtp l) v ↔ ∃ p xs,v = .ref p /\ SqT K S p xs /\ Dens K S l xs:=by
 constructor
 ·intro h;unfold Den at h;exact h
 ·intro h;unfold Den;exact h
theorem den_ins {N:Str} {ns:List Str} {l:List D} {v:V}:Den K S (.ins N ns l) v ↔ ∃ p C dx fs,v = .ref p /\ W.nsIn K mainGlobals N = some (some (.ref C)) /\ S p = some (.ins C dx fs) /\ fs.map (·.1) = ns /\ Dens K S l (fs.map (·.2)):=by
 constructor
 ·intro h;unfold Den at h;exact h
 ·intro h;unfold Den;exact h
def DenP (K:W.Frag) (S H:Hp) (d:D) (v:V):Prop:=Den K S d v \/ ∃ l p xs,d = .lst l /\ v = .ref p /\ H p = some (.lst xs) /\ Dens K S l xs
theorem DenP.lst {l:List D} {v:V} (s:Same S H) (h:DenP K S H (.lst l) v):∃ p xs,v = .ref p /\ Rd H p (.lst xs) /\ Dens K S l xs:=by
 rcases h with h | ⟨l',p,xs,e,e1,e2,e3⟩
 ·obtain ⟨p,xs,e,e1,e2⟩:=den_lst.mp h
  exact ⟨p,xs,e,et s e1,e2⟩
 ·cases e
  exact ⟨p,xs,e1,.inl e2,e3⟩
theorem DenP.tup {l:List D} {v:V} (s:Same S H) (h:DenP K S H (.tup l) v):∃ p xs,v = .ref p /\ SqT K H p xs /\ Dens K S l xs:=by
 rcases h with h | ⟨l',p,xs,e,e1,e2,e3⟩
 ·obtain ⟨p,xs,e,e1,e2⟩:=jn h
  exact ⟨p,xs,e,bf s e1,e2⟩
 ·cases e
theorem DenP.scr {l:List D} {v:V} (s:Same S H) (h:DenP K S H (.scr l) v):∃ p xs,v = .ref p /\ SqL K H p xs /\ Dens K S l xs:=by
 rcases h with h | ⟨l',p,xs,e,e1,e2,e3⟩
 ·obtain ⟨p,xs,e,e1,e2⟩:=den_scr.mp h
  exact ⟨p,xs,e,fg s e1,e2⟩
 ·cases e
theorem DenP.int {i:Int} {v:V} (h:DenP K S H (.int i) v):v = .int i:=by
 rcases h with h | ⟨l',p,xs,e,_⟩
 ·exact den_int.mp h
 ·cases e
theorem DenP.bl {i:Bool} {v:V} (h:DenP K S H (.bl i) v):v = .bl i:=by
 rcases h with h | ⟨l',p,xs,e,_⟩
 ·exact den_bl.mp h
 ·cases e
theorem DenP.str {i:Str} {v:V} (h:DenP K S H (.str i) v):v = .str i:=by
 rcases h with h | ⟨l',p,xs,e,_⟩
 ·exact den_str.mp h
 ·cases e
theorem DenP.non {v:V} (h:DenP K S H .non v):v = .non:=by
 rcases h with h | ⟨l',p,xs,e,_⟩
 ·exact den_non.mp h
 ·cases e
structure Ext (S H S' H':Hp):Prop where
 sh:Same S S'
 sub:Same S' H'
 al:∀ b o,H b = some o -> S b = none -> H' b = some o /\ S' b = none
theorem Ext.refl (h:Same S H):Ext S H S H:=⟨Same.refl _,h,fun _ _ h n=>⟨h,n⟩⟩
theorem Ext.trans {S1 H1 S2 H2:Hp} (a:Ext S H S1 H1) (b:Ext S1 H1 S2 H2):Ext S H S2 H2:=⟨a.sh.trans b.sh,b.sub,fun c o h n=>b.al c o (a.al c o h n).1 (a.al c o h n).2⟩
theorem Ext.same (a:Ext S H S' H') (s:Same S H):Same H H':=fun b o h=>by
 cases q:S b with
 | none=>exact (a.al b o h q).1
 | some u=>
  have:=s b u q
  rw [h] at this
  cases this
  exact a.sub b o (a.sh b o q)
theorem Ext.new (s:Same S H) {p:Addr} {o:HO} (h:H p = none):Ext S H (upd S p o) (upd H p o) where
 sh:=fun b u e=>by rw [aP (aR e (s.free h))];exact e
 sub:=fun b u e=>by
  by_cases hb:b = p
  ·subst hb;rw [aY] at e ⊢;exact e
  ·rw [aP hb] at e ⊢;exact s b u e
 al:=fun b u e n=>by
  have hb:=aR e h
  rw [aP hb,aP hb]
  exact ⟨e,n⟩
theorem Ext.own (s:Same S H) {p:Addr} {o:HO} (h:H p = none):Ext S H S (upd H p o) where
 sh:=Same.refl _
 sub:=fun b u e=>by rw [aP (aR (s b u e) h)];exact s b u e
 al:=fun b u e n=>by
  have hb:=aR e h
  rw [aP hb]
  exact ⟨e,n⟩
theorem DenP.mono {d:D} {v:V} (e:Ext S H S' H') (s:Same S H) (h:DenP K S H d v):DenP K S' H' d v:=by
 rcases h with h | ⟨l,p,xs,h1,h2,h3,h4⟩
 ·exact .inl (h.mono e.sh)
 ·exact .inr ⟨l,p,xs,h1,h2,e.same s _ _ h3,h4.mono e.sh⟩
inductive DensP (K:W.Frag) (S H:Hp):List D -> List V -> Prop where
 | nil:DensP K S H [] []
 | cons {d ds v vs}:DenP K S H d v -> DensP K S H ds vs -> DensP K S H (d :: ds) (v :: vs)
inductive O where
 | sh (d:D) | lst (l:List O) | tup (l:List O) | dic (ks:List (List Int)) | hd (p:Addr) (ks:List (List Int)) (os:List O)
 deriving Inhabited
mutual
def O.d:O -> D
 | .sh d=>d
 | .dic ks=>.dic ks
 | .hd _ ks os=>(O.ds os).headD (.dic ks)
 | .lst l=>.lst (O.ds l)
 | .tup l=>.tup (O.ds l)
def O.ds:List O -> List D
 | []=>[]
 | o :: l=>o.d :: O.ds l
end
mutual
def Own (K:W.Frag) (S H:Hp):O -> V -> List Addr -> Prop
 | .sh d,v,fp=>fp = [] /\ Den K S d v
 | .lst l,v,fp=>∃ a xs f,v = .ref a /\ fp = a :: f /\ H a = some (.lst xs) /\ Owns K S H l xs f
 | .tup l,v,fp=>∃ a xs f,v = .ref a /\ fp = a :: f /\ H a = some (.tup xs) /\ Owns K S H l xs f
 | .dic ks,v,fp=>∃ a,v = .ref a /\ fp = [a] /\ H a = some (.dT (BL ks))
 | .hd p ks os,v,fp=>∃ xs f,v = xs.headD (.ref p) /\ fp = p :: f /\ H p = some (.dT (BL ks)) /\ Owns K S H os xs f
def Owns (K:W.Frag) (S H:Hp):List O -> List V -> List Addr -> Prop
 | [],xs,fp=>xs = [] /\ fp = []
 | o :: l,xs,fp=>∃ y ys f g,xs = y :: ys /\ fp = f ++ g /\ Own K S H o y f /\ Owns K S H l ys g
end
theorem den_dic {ks:List (List Int)} {v:V}:Den K S (.dic ks) v ↔ ∃ p,v = .ref p /\ Rd S p (.dT (BL ks)):=by unfold Den;exact Qt
theorem own_dic {ks:List (List Int)} {v:V} {fp:List Addr}:Own K S H (.dic ks) v fp ↔ ∃ a,v = .ref a /\ fp = [a] /\ H a = some (.dT (BL ks)):=by unfold Own;exact Qt
theorem own_hd {p:Addr} {ks:List (List Int)} {os:List O} {v:V} {fp:List Addr}:Own K S H (.hd p ks os) v fp ↔ ∃ xs f,v = xs.headD (.ref p) /\ fp = p :: f /\ H p = some (.dT (BL ks)) /\ Owns K S H os xs f:=by
 constructor
 ·intro h;unfold Own at h;exact h
 ·intro h;unfold Own;exact h
theorem own_sh {d:D} {v:V} {fp:List Addr}:Own K S H (.sh d) v fp ↔ fp = [] /\ Den K S d v:=by unfold Own;exact Qt
theorem own_lst {l:List O} {v:V} {fp:List Addr}:Own K S H (.lst l) v fp ↔ ∃ a xs f,v = .ref a /\ fp = a :: f /\ H a = some (.lst xs) /\ Owns K S H l xs f:=by
 constructor
 ·intro h;unfold Own at h;exact h
 ·intro h;unfold Own;exact h
theorem own_tup {l:List O} {v:V} {fp:List Addr}:Own K S H (.tup l) v fp ↔ ∃ a xs f,v = .ref a /\ fp = a :: f /\ H a = some (.tup xs) /\ Owns K S H l xs f:=by
 constructor
 ·intro h;unfold Own at h;exact h
 ·intro h;unfold Own;exact h
theorem Owns.nil:Owns K S H [] [] []:=by unfold Owns;exact ⟨rfl,rfl⟩
theorem Owns.cons {o:O} {l:List O} {y:V} {ys:List V} {f g:List Addr} (h:Own K S H o y f) (k:Owns K S H l ys g):Owns K S H (o :: l) (y :: ys) (f ++ g):=by unfold Owns;exact ⟨y,ys,f,g,rfl,rfl,h,k⟩
theorem Owns.nil_of {xs:List V} {fp:List Addr} (h:Owns K S H [] xs fp):xs = [] /\ fp = []:=by unfold Owns at h;exact h
theorem Owns.cons_of {o:O} {l:List O} {xs:List V} {fp:List Addr} (h:Owns K S H (o :: l) xs fp):∃ y ys f g,xs = y :: ys /\ fp = f ++ g /\ Own K S H o y f /\ Owns K S H l ys g:=by unfold Owns at h;exact h
theorem Owns.length:∀ {l:List O} {xs:List V} {fp:List Addr},Owns K S H l xs fp -> l.length = xs.length
 | [],_,_,h=>by rw [h.nil_of.1];rfl
 | _ :: _,_,_,h=>by
  obtain ⟨y,ys,f,g,rfl,rfl,_,k⟩:=h.cons_of
  rw [Pw,Pw,k.length]
theorem Owns.append:∀ {l m:List O} {xs ys:List V} {f g:List Addr},Owns K S H l xs f -> Owns K S H m ys g -> Owns K S H (l ++ m) (xs ++ ys) (f ++ g)
 | [],_,_,_,_,_,h,k=>by rw [h.nil_of.1,h.nil_of.2];exact k
 | _ :: _,_,_,_,_,_,h,k=>by
  obtain ⟨y,ys,f,g,rfl,rfl,a,b⟩:=h.cons_of
  rw [PZ]
  exact .cons a (b.append k)
theorem uc:∀ {ds:List D} {xs:List V},Dens K S ds xs -> Owns K S H (ds.map .sh) xs []
 | [],_,h=>by rw [h.nil_of];exact .nil
 | _ :: _,_,h=>by
  obtain ⟨y,ys,rfl,a,b⟩:=h.cons_of
  exact .cons (f:=[]) (own_sh.mpr ⟨rfl,a⟩) (uc b)
theorem pq:∀ {ds:List D} {xs:List V} {fp:List Addr},Owns K S H (ds.map .sh) xs fp -> Dens K S ds xs /\ fp = []
 | [],_,_,h=>by rw [h.nil_of.1,h.nil_of.2];exact ⟨.nil,rfl⟩
 | _ :: _,_,_,h=>by
  obtain ⟨y,ys,f,g,rfl,rfl,a,b⟩:=h.cons_of
  obtain ⟨e,a⟩:=own_sh.mp a
  obtain ⟨b,e2⟩:=pq b
  exact ⟨.cons a b,by rw [e,e2];rfl⟩
mutual
theorem Own.mono (s:Same S S'):∀ {o:O} {v:V} {fp:List Addr},(∀ b ∈ fp,H' b = H b) -> Own K S H o v fp -> Own K S' H' o v fp
 | .dic _,_,_,k,h=>by
  obtain ⟨a,e,rfl,h1⟩:=own_dic.mp h
  exact own_dic.mpr ⟨a,e,rfl,by rw [k a Pm];exact h1⟩
 | .hd _ _ _,_,_,k,h=>by
  obtain ⟨xs,f,e,rfl,h1,h2⟩:=own_hd.mp h
  exact own_hd.mpr ⟨xs,f,e,rfl,by rw [k _ Pm];exact h1,Owns.mono s (fun b hb=>k b (Po _ hb)) h2⟩
 | .sh _,_,_,k,h=>by
  obtain ⟨e,d⟩:=own_sh.mp h
  exact own_sh.mpr ⟨e,d.mono s⟩
 | .lst _,_,_,k,h=>by
  obtain ⟨a,xs,f,e,rfl,h1,h2⟩:=own_lst.mp h
  exact own_lst.mpr ⟨a,xs,f,e,rfl,by rw [k a Pm];exact h1,Owns.mono s (fun b hb=>k b (Po _ hb)) h2⟩
 | .tup _,_,_,k,h=>by
  obtain ⟨a,xs,f,e,rfl,h1,h2⟩:=own_tup.mp h
  exact own_tup.mpr ⟨a,xs,f,e,rfl,by rw [k a Pm];exact h1,Owns.mono s (fun b hb=>k b (Po _ hb)) h2⟩
theorem Owns.mono (s:Same S S'):∀ {l:List O} {xs:List V} {fp:List Addr},(∀ b ∈ fp,H' b = H b) -> Owns K S H l xs fp -> Owns K S' H' l xs fp
 | [],_,_,k,h=>by rw [h.nil_of.1,h.nil_of.2];exact .nil
 | _ :: _,_,_,k,h=>by
  obtain ⟨y,ys,f,g,rfl,rfl,a,b⟩:=h.cons_of
  exact .cons (Own.mono s (fun b hb=>k b (Py _ hb)) a) (Owns.mono s (fun b hb=>k b (Pr _ hb)) b)
end
mutual
theorem Own.there:∀ {o:O} {v:V} {fp:List Addr},Own K S H o v fp -> ∀ b ∈ fp,H b ≠ none
 | .dic _,_,_,h=>by
  obtain ⟨a,e,rfl,h1⟩:=own_dic.mp h
  intro b hb
  rw [Pi] at hb
  subst hb
  rw [h1];exact fun z=>by cases z
 | .hd _ _ _,_,_,h=>by
  obtain ⟨xs,f,e,rfl,h1,h2⟩:=own_hd.mp h
  intro b hb
  rcases Pq.mp hb with rfl | hb
  ·rw [h1];exact fun z=>by cases z
  ·exact Owns.there h2 b hb
 | .sh _,_,_,h=>by
  obtain ⟨e,d⟩:=own_sh.mp h
  rw [e];intro b hb;cases hb
 | .lst _,_,_,h=>by
  obtain ⟨a,xs,f,e,rfl,h1,h2⟩:=own_lst.mp h
  intro b hb
  rcases Pq.mp hb with rfl | hb
  ·rw [h1];exact fun z=>by cases z
  ·exact Owns.there h2 b hb
 | .tup _,_,_,h=>by
  obtain ⟨a,xs,f,e,rfl,h1,h2⟩:=own_tup.mp h
  intro b hb
  rcases Pq.mp hb with rfl | hb
  ·rw [h1];exact fun z=>by cases z
  ·exact Owns.there h2 b hb
theorem Owns.there:∀ {l:List O} {xs:List V} {fp:List Addr},Owns K S H l xs fp -> ∀ b ∈ fp,H b ≠ none
 | [],_,_,h=>by rw [h.nil_of.2];intro b hb;cases hb
 | _ :: _,_,_,h=>by
  obtain ⟨y,ys,f,g,rfl,rfl,a,b⟩:=h.cons_of
  intro c hc
  rcases Pu.mp hc with hc | hc
  ·exact Own.there a c hc
  ·exact Owns.there b c hc
end
mutual
theorem Own.den {S2:Hp} (s:Same S S2):∀ {o:O} {v:V} {fp:List Addr},(∀ b ∈ fp,S2 b = H b) -> Own K S H o v fp -> Den K S2 o.d v
 | .dic _,_,_,k,h=>by
  obtain ⟨a,e,rfl,h1⟩:=own_dic.mp h
  rw [O.d]
  exact den_dic.mpr ⟨a,e,.inl (by rw [k a Pm];exact h1)⟩
 | .hd p ks os,_,_,k,h=>by
  obtain ⟨xs,f,e,rfl,h1,h2⟩:=own_hd.mp h
  have ds:=Owns.den s (fun b hb=>k b (Po _ hb)) h2
  rw [O.d,e]
  cases q:O.ds os with
  | nil=>
   rw [q] at ds
   rw [ds.nil_of]
   exact den_dic.mpr ⟨p,rfl,.inl (by rw [k p Pm];exact h1)⟩
  | cons d l=>
   rw [q] at ds
   obtain ⟨y,ys,rfl,a,_⟩:=ds.cons_of
   exact a
 | .sh _,_,_,k,h=>by
  obtain ⟨e,d⟩:=own_sh.mp h
  exact d.mono s
 | .lst l,_,_,k,h=>by
  obtain ⟨a,xs,f,e,rfl,h1,h2⟩:=own_lst.mp h
  rw [O.d]
  exact den_lst.mpr ⟨a,xs,e,.inl (by rw [k a Pm];exact h1),Owns.den s (fun b hb=>k b (Po _ hb)) h2⟩
 | .tup l,_,_,k,h=>by
  obtain ⟨a,xs,f,e,rfl,h1,h2⟩:=own_tup.mp h
  rw [O.d]
  exact den_tup.mpr ⟨a,xs,e,TpA.of (by rw [k a Pm];exact h1),Owns.den s (fun b hb=>k b (Po _ hb)) h2⟩
theorem Owns.den {S2:Hp} (s:Same S S2):∀ {l:List O} {xs:List V} {fp:List Addr},(∀ b ∈ fp,S2 b = H b) -> Owns K S H l xs fp -> Dens K S2 (O.ds l) xs
 | [],_,_,k,h=>by rw [h.nil_of.1,O.ds];exact .nil
 | _ :: _,_,_,k,h=>by
  obtain ⟨y,ys,f,g,rfl,rfl,a,b⟩:=h.cons_of
  rw [O.ds]
  exact .cons (Own.den s (fun b hb=>k b (Py _ hb)) a) (Owns.den s (fun b hb=>k b (Pr _ hb)) b)
end
theorem Own.denH {o:O} {v:V} {fp:List Addr} (s:Same S H) (h:Own K S H o v fp):Den K H o.d v:=h.den s fun _ _=>rfl
theorem Ext.keeps {fp:List Addr} (e:Ext S H S' H') (h:∀ b ∈ fp,S b = none) (t:∀ b ∈ fp,H b ≠ none):(∀ b ∈ fp,H' b = H b) /\ ∀ b ∈ fp,S' b = none:=by
 have key:∀ b ∈ fp,H' b = H b /\ S' b = none:=fun b hb=>by
  cases q:H b with
  | none=>exact absurd q (t b hb)
  | some o=>exact e.al b o q (h b hb)
 exact ⟨fun b hb=>(key b hb).1,fun b hb=>(key b hb).2⟩
inductive Sl where
 | un | lo | sh (d:D) | ow (o:O)
 deriving Inhabited
abbrev Env:=List Sl
structure RlF (K:W.Frag) (A:Hp) (Λ:Nat -> Option Addr) (Φ:Nat -> List Addr) (ρ:Env) (σ:St) (S H:Hp):Prop where
 len:σ.length = ρ.length
 sub:Same S H
 sh:∀ (i:Nat) d,ρ[i]? = some (.sh d) -> ∃ v,σ[i]? = some (some v) /\ Den K S d v
 ow:∀ (i:Nat) o,ρ[i]? = some (.ow o) -> ∃ v,σ[i]? = some (some v) /\ Own K S H o v (Φ i) /\ (Φ i).Nodup /\ ∀ b ∈ Φ i,S b = none /\ A b = none
 dj:∀ (i j:Nat) o o',i ≠ j -> ρ[i]? = some (.ow o) -> ρ[j]? = some (.ow o') -> ∀ b ∈ Φ i,b ∉ Φ j
 lo:∀ (i:Nat),ρ[i]? = some .lo -> ∃ a,Λ i = some a /\ σ[i]? = some (some (.ref a))
 asub:Same A H
 adis:∀ b,S b = none \/ A b = none
def RlA (K:W.Frag) (A:Hp) (Λ:Nat -> Option Addr) (ρ:Env) (σ:St) (S H:Hp):Prop:=∃ Φ,RlF K A Λ Φ ρ σ S H
def Rl (K:W.Frag) (ρ:Env) (σ:St) (S H:Hp):Prop:=∃ A Λ Φ,RlF K A Λ Φ ρ σ S H
theorem RlF.ext {A:Hp} {Λ:Nat -> Option Addr} {Φ:Nat -> List Addr} {ρ:Env} {σ:St} (r:RlF K A Λ Φ ρ σ S H) (e:Ext S H S' H'):RlF K A Λ Φ ρ σ S' H' where
 len:=r.len
 sub:=e.sub
 sh:=fun i d h=>by
  obtain ⟨v,h1,h2⟩:=r.sh i d h
  exact ⟨v,h1,h2.mono e.sh⟩
 ow:=fun i o h=>by
  obtain ⟨v,h1,h2,h3,h4⟩:=r.ow i o h
  obtain ⟨k1,k2⟩:=e.keeps (fun b hb=>(h4 b hb).1) h2.there
  exact ⟨v,h1,h2.mono e.sh k1,h3,fun b hb=>⟨k2 b hb,(h4 b hb).2⟩⟩
 dj:=r.dj
 lo:=r.lo
 asub:=fun b o h=>e.same r.sub b o (r.asub b o h)
 adis:=fun b=>by
  rcases r.adis b with h | h
  ·cases q:A b with
   | none=>exact .inr rfl
   | some o=>exact .inl (e.al b o (r.asub b o q) h).2
  ·exact .inr h
theorem RlA.ext {A:Hp} {Λ:Nat -> Option Addr} {ρ:Env} {σ:St} (r:RlA K A Λ ρ σ S H) (e:Ext S H S' H'):RlA K A Λ ρ σ S' H':=let ⟨Φ,f⟩:=r;⟨Φ,f.ext e⟩
theorem RlA.toRl {A:Hp} {Λ:Nat -> Option Addr} {ρ:Env} {σ:St} (r:RlA K A Λ ρ σ S H):Rl K ρ σ S H:=let ⟨Φ,f⟩:=r;⟨A,Λ,Φ,f⟩
theorem RlA.sub {A:Hp} {Λ:Nat -> Option Addr} {ρ:Env} {σ:St} (r:RlA K A Λ ρ σ S H):Same S H:=let ⟨_,f⟩:=r;f.sub
theorem RlA.asub {A:Hp} {Λ:Nat -> Option Addr} {ρ:Env} {σ:St} (r:RlA K A Λ ρ σ S H):Same A H:=let ⟨_,f⟩:=r;f.asub
theorem RlA.adis {A:Hp} {Λ:Nat -> Option Addr} {ρ:Env} {σ:St} (r:RlA K A Λ ρ σ S H):∀ b,S b = none \/ A b = none:=let ⟨_,f⟩:=r;f.adis
theorem RlA.sh {A:Hp} {Λ:Nat -> Option Addr} {ρ:Env} {σ:St} (r:RlA K A Λ ρ σ S H):∀ (i:Nat) d,ρ[i]? = some (.sh d) -> ∃ v,σ[i]? = some (some v) /\ Den K S d v:=let ⟨_,f⟩:=r;f.sh
theorem Rl.ext {ρ:Env} {σ:St} (r:Rl K ρ σ S H) (e:Ext S H S' H'):Rl K ρ σ S' H':=let ⟨A,Λ,Φ,f⟩:=r;⟨A,Λ,Φ,f.ext e⟩
theorem Rl.sub {ρ:Env} {σ:St} (r:Rl K ρ σ S H):Same S H:=let ⟨_,_,_,f⟩:=r;f.sub
theorem Rl.sh {ρ:Env} {σ:St} (r:Rl K ρ σ S H):∀ (i:Nat) d,ρ[i]? = some (.sh d) -> ∃ v,σ[i]? = some (some v) /\ Den K S d v:=let ⟨_,_,_,f⟩:=r;f.sh
theorem Rl.ow {ρ:Env} {σ:St} (r:Rl K ρ σ S H):∀ (i:Nat) o,ρ[i]? = some (.ow o) -> ∃ v fp,σ[i]? = some (some v) /\ Own K S H o v fp /\ fp.Nodup /\ ∀ b ∈ fp,S b = none:=fun i o h=>by
 obtain ⟨A,Λ,Φ,f⟩:=r
 obtain ⟨v,h1,h2,h3,h4⟩:=f.ow i o h
 exact ⟨v,_,h1,h2,h3,fun b hb=>(h4 b hb).1⟩
abbrev XE:=Env -> Option D
abbrev XT:=Env -> Option Bool
abbrev XA:=Env -> Option (List D)
def SE (K:W.Frag) (t:TE) (e:XE):Prop:=∀ ρ σ S H (Q:VK) d,Rl K ρ σ S H -> e ρ = some d -> (∀ v S' H',Ext S H S' H' -> Den K S' d v -> Q v H') -> t σ H Q
def SPk (K:W.Frag) (t:TE) (e:XE):Prop:=∀ ρ σ S H (Q:VK) d,Rl K ρ σ S H -> e ρ = some d -> (∀ v S' H',Ext S H S' H' -> DenP K S' H' d v -> Q v H') -> t σ H Q
def SF (K:W.Frag) (t:TE) (e:XA):Prop:=∀ ρ σ S H (Q:VK) l,Rl K ρ σ S H -> e ρ = some l -> (∀ a xs S' H',Ext S H S' H' -> H a = none -> S' a = none -> H' a = some (.lst xs) -> Dens K S' l xs -> Q (.ref a) H') -> t σ H Q
def ST (K:W.Frag) (t:TT) (c:XT):Prop:=∀ ρ σ S H (Q:Bool -> Hp -> Prop) b,Rl K ρ σ S H -> c ρ = some b -> (∀ S' H',Ext S H S' H' -> Q b H') -> t σ H Q
def SA (K:W.Frag) (t:TA) (e:XA):Prop:=∀ ρ σ S H (Q:List V -> Hp -> Prop) ds,Rl K ρ σ S H -> e ρ = some ds -> (∀ vs S' H',Ext S H S' H' -> Dens K S' ds vs -> Q vs H') -> t σ H Q
def SAP (K:W.Frag) (t:TA) (e:XA):Prop:=∀ ρ σ S H (Q:List V -> Hp -> Prop) ds,Rl K ρ σ S H -> e ρ = some ds -> (∀ vs S' H',Ext S H S' H' -> DensP K S' H' ds vs -> Q vs H') -> t σ H Q
theorem SE.p {t:TE} {e:XE} (h:SE K t e):SPk K t e:=fun ρ σ S H Q d r x k=>h ρ σ S H Q d r x fun v S' H' z dv=>k v S' H' z (.inl dv)
@[simp] def xL (e:XA):XE:=fun ρ=>(e ρ).map D.lst
theorem SF.e {t:TE} {e:XA} (h:SF K t e):SE K t (xL e):=fun ρ σ S H Q d r x k=>by
 unfold xL at x
 cases q:e ρ with
 | none=>rw [q] at x;cases x
 | some l=>
  rw [q] at x
  cases x
  refine h ρ σ S H Q l r q fun a xs S' H' z h1 h2 h3 h4=>?_
  have s2:Same S' (upd S' a (.lst xs)):=fun b u e=>by rw [aP (aR e h2)];exact e
  refine k _ (upd S' a (.lst xs)) H' ⟨z.sh.trans s2,fun b u e=>?_,fun b o e n=>?_⟩ (den_lst.mpr ⟨a,xs,rfl,.inl aY,h4.mono s2⟩)
  ·by_cases hb:b = a
   ·subst hb;rw [aY] at e;cases e;exact h3
   ·rw [aP hb] at e;exact z.sub b u e
  ·obtain ⟨y1,y2⟩:=z.al b o e n
   exact ⟨y1,by rw [aP (aR e h1)];exact y2⟩
@[simp] def aq (i:Nat):XE:=fun ρ=>match ρ[i]? with | some (.sh d)=>some d | _=>none
def shs:List O -> Option (List D)
 | []=>some []
 | .sh d :: l=>(shs l).map fun r=>d :: r
 | _=>none
theorem t8:∀ l:List D,shs (l.map .sh) = some l
 | []=>rfl
 | d :: l=>by rw [Px,shs,t8 l];rfl
theorem B9:∀ {os:List O} {l:List D},shs os = some l -> os = l.map .sh
 | [],l,h=>by cases h;rfl
 | o :: os,l,h=>by
  cases o with
  | sh d=>
   have h':(shs os).map (fun r=>d :: r) = some l:=h
   cases q:shs os with
   | none=>rw [q] at h';cases h'
   | some m=>rw [q] at h';cases h';rw [B9 q];rfl
  | lst _=>cases h
  | tup _=>cases h
  | dic _=>cases h
  | hd _ _ _=>cases h
def Fu:Sl -> Option D
 | .sh d=>some d
 | .ow (.sh d)=>some d
 | .ow (.lst os)=>(shs os).map D.lst
 | _=>none
@[simp] theorem MY (d:D):Fu (.ow (.sh d)) = some d:=rfl
@[simp] theorem MN (d:D):Fu (.sh d) = some d:=rfl
@[simp] theorem MX (l:List D):Fu (.ow (.lst (l.map .sh))) = some (.lst l):=by show (shs _).map D.lst = _;rw [t8];rfl
@[simp] def ai (i:Nat):XE:=fun ρ=>(ρ[i]?).bind Fu
theorem lA (i:Nat):SE K (pb i) (aq i):=fun ρ σ S H Q d r x k=>by
 unfold aq at x
 split at x
 ·rename_i d' e
  cases x
  obtain ⟨v,h1,h2⟩:=r.sh i _ e
  exact ⟨v,h1,k v S H (Ext.refl r.sub) h2⟩
 ·cases x
theorem ie (i:Nat):SPk K (pb i) (ai i):=fun ρ σ S H Q d r x k=>by
 unfold ai at x
 cases q:ρ[i]? with
 | none=>rw [q] at x;cases x
 | some s=>
  rw [q] at x
  cases s with
  | un=>cases x
  | lo=>cases x
  | sh d'=>
   cases x
   obtain ⟨v,h1,h2⟩:=r.sh i _ q
   exact ⟨v,h1,k v S H (Ext.refl r.sub) (.inl h2)⟩
  | ow o=>
   cases o with
   | sh d'=>
    cases x
    obtain ⟨v,fp,h1,h2,h3,h4⟩:=r.ow i _ q
    exact ⟨v,h1,k v S H (Ext.refl r.sub) (.inl (own_sh.mp h2).2)⟩
   | tup l=>cases x
   | dic ks=>cases x
   | hd _ _ _=>cases x
   | lst os=>
    have x':(shs os).map D.lst = some d:=x
    cases qs:shs os with
    | none=>rw [qs] at x';cases x'
    | some l=>
     rw [qs] at x'
     cases x'
     have e:=B9 qs
     subst e
     obtain ⟨v,fp,h1,h2,h3,h4⟩:=r.ow i _ q
     obtain ⟨a,xs,f,rfl,rfl,h5,h6⟩:=own_lst.mp h2
     exact ⟨_,h1,k _ S H (Ext.refl r.sub) (.inr ⟨l,a,xs,rfl,rfl,h5,(pq h6).1⟩)⟩
def SQ (K:W.Frag) (t:TE) (e:XE):Prop:=∀ ρ σ S H (Q:VK) d,Rl K ρ σ S H -> e ρ = some d -> (∀ v S' H',Ext S H S' H' -> Den K H' d v -> Q v H') -> t σ H Q
theorem vL {d:D} {v:V} (s:Same S H) (h:DenP K S H d v):Den K H d v:=by
 rcases h with h | ⟨l,p,xs,rfl,rfl,h1,h2⟩
 ·exact h.mono s
 ·exact den_lst.mpr ⟨p,xs,rfl,.inl h1,h2.mono s⟩
theorem SPk.q {t:TE} {e:XE} (h:SPk K t e):SQ K t e:=fun ρ σ S H Q d r x k=>h ρ σ S H Q d r x fun v S' H' z dv=>k v S' H' z (vL z.sub dv)
def Hg:Sl -> Option D
 | .sh d=>some d
 | .ow o=>some o.d
 | _=>none
@[simp] theorem MM (d:D):Hg (.sh d) = some d:=rfl
@[simp] theorem Mi (o:O):Hg (.ow o) = some o.d:=rfl
@[simp] def DB (i:Nat):XE:=fun ρ=>(ρ[i]?).bind Hg
theorem K6 (i:Nat):SQ K (pb i) (DB i):=fun ρ σ S H Q d r x k=>by
 unfold DB at x
 cases q:ρ[i]? with
 | none=>rw [q] at x;cases x
 | some s=>
  rw [q] at x
  cases s with
  | un=>cases x
  | lo=>cases x
  | sh d'=>
   cases x
   obtain ⟨v,h1,h2⟩:=r.sh i _ q
   exact ⟨v,h1,k v S H (Ext.refl r.sub) (h2.mono r.sub)⟩
  | ow o=>
   cases x
   obtain ⟨v,fp,h1,h2,h3,h4⟩:=r.ow i _ q
   exact ⟨_,h1,k _ S H (Ext.refl r.sub) (h2.denH r.sub)⟩
@[simp] def xC (d:D):XE:=fun _=>some d
def rV:D -> Option V
 | .non=>some .non | .bl b=>some (.bl b) | .int i=>some (.int i) | .str x=>some (.str x) | .ty x=>some (.ty x) | _=>none
theorem pH {d:D} {v:V} (h:rV d = some v):Den K S d v:=by
 cases d <;> simp [rV] at h <;> subst h <;> unfold Den <;> rfl
theorem s_c {v:V} {d:D} (h:rV d = some v):SE K (tC v) (xC d):=fun ρ σ S H Q e r x k=>by
 cases x
 exact k v S H (Ext.refl r.sub) (pH h)
@[simp] def xFl (e:XE):XE:=fun ρ=>(e ρ).bind fun d=>if (rV d).isSome then some d else none
theorem Hv {d:D} {v w:V} (h:rV d = some w) (k:Den K S d v):v = w:=by
 cases d <;> simp [rV] at h <;> subst h <;> unfold Den at k <;> exact k
theorem SQ.fl {t:TE} {e:XE} (h:SQ K t e):SE K t (xFl e):=fun ρ σ S H Q d r x k=>by
 unfold xFl at x
 cases q:e ρ with
 | none=>rw [q] at x;cases x
 | some d'=>
  rw [q] at x
  dsimp only [Option.bind] at x
  split at x
  ·rename_i hf
   cases x
   obtain ⟨w,hw⟩:=Option.isSome_iff_exists.mp hf
   refine h ρ σ S H Q d r q fun v S' H' z dv=>k v S' H' z ?_
   rw [Hv hw dv]
   exact pH hw
  ·cases x
@[simp] def xOp (f:D -> D -> Option D) (a b:XE):XE:=fun ρ=>(a ρ).bind fun x=>(b ρ).bind fun y=>f x y
def SR2 (K:W.Frag) (r:R2) (f:D -> D -> Option D):Prop:=∀ S H x y d e g (Q:VK),Same S H -> DenP K S H d x -> DenP K S H e y -> f d e = some g -> (∀ v S' H',Ext S H S' H' -> Den K S' g v -> Q v H') -> r x y H Q
theorem Br {r:R2} {f:D -> D -> Option D} {ta tb:TE} {a b:XE} (hr:SR2 K r f) (ha:SPk K ta a) (hb:SPk K tb b):SE K (tOp r ta tb) (xOp f a b):=fun ρ σ S H Q d r x k=>by
 unfold xOp at x
 cases qa:a ρ with
 | none=>rw [qa] at x;cases x
 | some da=>
  rw [qa] at x
  dsimp only [Option.bind] at x
  cases qb:b ρ with
  | none=>rw [qb] at x;cases x
  | some db=>
   rw [qb] at x
   refine ha ρ σ S H _ da r qa fun v S1 H1 z1 d1=>?_
   have r1:=r.ext z1
   refine hb ρ σ S1 H1 _ db r1 qb fun w S2 H2 z2 d2=>?_
   exact hr S2 H2 v w da db d Q z2.sub (d1.mono z2 r1.sub) d2 x fun u S3 H3 z3 d3=>k u S3 H3 ((z1.trans z2).trans z3) d3
theorem HN {S2 H3 S3:Hp} (s:Same S H) (z:Ext H H S3 H3):Ext S H S H3:=⟨Same.refl _,fun b u e=>z.sub b u (z.sh b u (s b u e)),fun b o h n=>⟨z.sub b o (z.sh b o h),n⟩⟩
theorem MF {r:R2} {f:D -> D -> Option D} {ta tb:TE} {a b:XE} (hr:SR2 K r f) (ha:SQ K ta a) (hb:SQ K tb b):SQ K (tOp r ta tb) (xOp f a b):=fun ρ σ S H Q d r x k=>by
 unfold xOp at x
 cases qa:a ρ with
 | none=>rw [qa] at x;cases x
 | some da=>
  rw [qa] at x
  dsimp only [Option.bind] at x
  cases qb:b ρ with
  | none=>rw [qb] at x;cases x
  | some db=>
   rw [qb] at x
   refine ha ρ σ S H _ da r qa fun v S1 H1 z1 d1=>?_
   have r1:=r.ext z1
   refine hb ρ σ S1 H1 _ db r1 qb fun w S2 H2 z2 d2=>?_
   exact hr H2 H2 v w da db d Q (Same.refl _) (.inl (d1.mono (z2.same r1.sub))) (.inl d2) x fun u S3 H3 z3 d3=>k u S2 H3 ((z1.trans z2).trans (HN (S2:=S2) z2.sub z3)) (d3.mono z3.sub)
@[simp] def xUn (f:D -> Option D) (a:XE):XE:=fun ρ=>(a ρ).bind f
def SR1 (K:W.Frag) (r:V -> Hp -> VK -> Prop) (f:D -> Option D):Prop:=∀ S H x d g (Q:VK),Same S H -> DenP K S H d x -> f d = some g -> (∀ v S' H',Ext S H S' H' -> Den K S' g v -> Q v H') -> r x H Q
theorem Ec {r:V -> Hp -> VK -> Prop} {f:D -> Option D} {ta:TE} {a:XE} (hr:SR1 K r f) (ha:SPk K ta a):SE K (tUn r ta) (xUn f a):=fun ρ σ S H Q d r x k=>by
 unfold xUn at x
 cases qa:a ρ with
 | none=>rw [qa] at x;cases x
 | some da=>
  rw [qa] at x
  refine ha ρ σ S H _ da r qa fun v S1 H1 z1 d1=>?_
  exact hr S1 H1 v da d Q z1.sub d1 x fun u S3 H3 z3 d3=>k u S3 H3 (z1.trans z3) d3
@[simp] def ao:XA:=fun _=>some []
@[simp] def af (a:XE) (b:XA):XA:=fun ρ=>(a ρ).bind fun x=>(b ρ).bind fun y=>some (x :: y)
theorem fF:SA K rh ao:=fun ρ σ S H Q ds r x k=>by cases x;exact k [] S H (Ext.refl r.sub) .nil
theorem G1:SAP K rh ao:=fun ρ σ S H Q ds r x k=>by cases x;exact k [] S H (Ext.refl r.sub) .nil
theorem qB {a:XE} {b:XA} {ρ:Env} {ds:List D} (x:af a b ρ = some ds):∃ d r,a ρ = some d /\ b ρ = some r /\ ds = d :: r:=by
 unfold af at x
 cases qa:a ρ with
 | none=>rw [qa] at x;cases x
 | some da=>
  rw [qa] at x
  dsimp only [Option.bind] at x
  cases qb:b ρ with
  | none=>rw [qb] at x;cases x
  | some db=>rw [qb] at x;cases x;exact ⟨_,_,rfl,rfl,rfl⟩
theorem bu {ta:TE} {tr:TA} {a:XE} {b:XA} (ha:SE K ta a) (hb:SA K tr b):SA K (gW ta tr) (af a b):=fun ρ σ S H Q ds r x k=>by
 obtain ⟨da,db,qa,qb,rfl⟩:=qB x
 refine ha ρ σ S H _ da r qa fun v S1 H1 z1 d1=>hb ρ σ S1 H1 _ db (r.ext z1) qb fun vs S2 H2 z2 d2=>k _ S2 H2 (z1.trans z2) (.cons (d1.mono z2.sh) d2)
theorem pN {ta:TE} {tr:TA} {a:XE} {b:XA} (ha:SPk K ta a) (hb:SAP K tr b):SAP K (gW ta tr) (af a b):=fun ρ σ S H Q ds r x k=>by
 obtain ⟨da,db,qa,qb,rfl⟩:=qB x
 refine ha ρ σ S H _ da r qa fun v S1 H1 z1 d1=>hb ρ σ S1 H1 _ db (r.ext z1) qb fun vs S2 H2 z2 d2=>k _ S2 H2 (z1.trans z2) (.cons (d1.mono z2 (r.ext z1).sub) d2)
@[irreducible] def LIM:Nat:=1000000
theorem lh:LIM < sizeLine:=by rw [Qb];unfold LIM;decide
@[simp] def aL (a:XA):XE:=fun ρ=>(a ρ).bind fun l=>if l.length <= LIM then some (.tup l) else none
theorem mF {t:TA} {a:XA} (h:SA K t a):SE K (KN t) (aL a):=fun ρ σ S H Q d r x k=>by
 unfold aL at x
 cases q:a ρ with
 | none=>rw [q] at x;cases x
 | some l=>
  rw [q] at x
  dsimp only [Option.bind] at x
  split at x
  ·rename_i hl
   cases x
   refine h ρ σ S H _ l r q fun vs S1 H1 z1 d1=>⟨?_,fun p hp=>?_⟩
   ·rw [<- d1.length];exact Ql (QG hl lh)
   ·have z2:=Ext.new (o:=.tup vs) z1.sub hp
    exact k _ _ _ (z1.trans z2) (den_tup.mpr ⟨p,vs,rfl,TpA.of aY,d1.mono z2.sh⟩)
  ·cases x
@[simp] def oT (a:XA):XA:=fun ρ=>(a ρ).bind fun l=>if l.length <= LIM then some l else none
theorem LO {t:TA} {a:XA} (h:SA K t a):SF K (EM t) (oT a):=fun ρ σ S H Q l r x k=>by
 unfold oT at x
 cases q:a ρ with
 | none=>rw [q] at x;cases x
 | some l=>
  rw [q] at x
  dsimp only [Option.bind] at x
  split at x
  ·rename_i hl
   cases x
   refine h ρ σ S H _ l r q fun vs S1 H1 z1 d1=>⟨?_,fun p hp=>?_⟩
   ·rw [<- d1.length];exact Ql (QG hl lh)
   ·have hp0:H p = none:=(z1.same r.sub).free hp
    exact k p vs S1 _ (z1.trans (Ext.own z1.sub hp)) hp0 (z1.sub.free hp) aY d1
  ·cases x
@[simp] def xCB (f:List D -> Option D) (a:XA):XE:=fun ρ=>(a ρ).bind f
def SRB (K:W.Frag) (r:List V -> Hp -> VK -> Prop) (f:List D -> Option D):Prop:=∀ S H vs ds g (Q:VK),Same S H -> DensP K S H ds vs -> f ds = some g -> (∀ v S' H',Ext S H S' H' -> Den K S' g v -> Q v H') -> r vs H Q
theorem LQ {r:List V -> Hp -> VK -> Prop} {f:List D -> Option D} {t:TA} {a:XA} (hr:SRB K r f) (h:SAP K t a):SE K (tCB r t) (xCB f a):=fun ρ σ S H Q d rl x k=>by
 unfold xCB at x
 cases q:a ρ with
 | none=>rw [q] at x;cases x
 | some ds=>
  rw [q] at x
  refine h ρ σ S H _ ds rl q fun vs S1 H1 z1 d1=>?_
  exact hr S1 H1 vs ds d Q z1.sub d1 x fun v S2 H2 z2 d2=>k v S2 H2 (z1.trans z2) d2
@[simp] def DR (f:List D -> Option (List D)) (a:XA):XA:=fun ρ=>(a ρ).bind f
def SRF (K:W.Frag) (r:List V -> Hp -> VK -> Prop) (f:List D -> Option (List D)):Prop:=∀ S H vs ds g (Q:VK),Same S H -> DensP K S H ds vs -> f ds = some g -> (∀ a xs H',Ext S H S H' -> H a = none -> H' a = some (.lst xs) -> Dens K S g xs -> Q (.ref a) H') -> r vs H Q
theorem LM {r:List V -> Hp -> VK -> Prop} {f:List D -> Option (List D)} {t:TA} {a:XA} (hr:SRF K r f) (h:SAP K t a):SF K (tCB r t) (DR f a):=fun ρ σ S H Q d rl x k=>by
 unfold DR at x
 cases q:a ρ with
 | none=>rw [q] at x;cases x
 | some ds=>
  rw [q] at x
  refine h ρ σ S H _ ds rl q fun vs S1 H1 z1 d1=>?_
  exact hr S1 H1 vs ds d Q z1.sub d1 x fun b xs H2 z2 h1 h2 d2=>k b xs S1 H2 (z1.trans z2) ((z1.same rl.sub).free h1) (z1.sub.free h1) h2 d2
def STr (K:W.Frag) (t:TE) (e:Env -> Option O):Prop:=∀ ρ σ S H (Q:VK) o,Rl K ρ σ S H -> e ρ = some o -> (∀ v fp S' H',Ext S H S' H' -> Own K S' H' o v fp -> fp.Nodup -> (∀ b ∈ fp,H b = none /\ S' b = none) -> Q v H') -> t σ H Q
@[simp] def xLT (e:XA):Env -> Option O:=fun ρ=>(e ρ).map fun l=>.lst (l.map .sh)
theorem SF.t {t:TE} {e:XA} (h:SF K t e):STr K t (xLT e):=fun ρ σ S H Q o r x k=>by
 unfold xLT at x
 cases q:e ρ with
 | none=>rw [q] at x;cases x
 | some l=>
  rw [q] at x
  cases x
  refine h ρ σ S H Q l r q fun a xs S' H' z h1 h2 h3 h4=>?_
  refine k _ [a] S' H' z (own_lst.mpr ⟨a,xs,[],rfl,rfl,h3,uc h4⟩) (by simp) fun b hb=>?_
  rw [Pi.mp hb]
  exact ⟨h1,h2⟩
@[simp] def xSh (e:XE):Env -> Option O:=fun ρ=>(e ρ).map .sh
theorem SE.t {t:TE} {e:XE} (h:SE K t e):STr K t (xSh e):=fun ρ σ S H Q o r x k=>by
 unfold xSh at x
 cases q:e ρ with
 | none=>rw [q] at x;cases x
 | some d=>
  rw [q] at x
  cases x
  exact h ρ σ S H Q d r q fun v S' H' z dv=>k v [] S' H' z (own_sh.mpr ⟨rfl,dv⟩) .nil fun b hb=>by cases hb
def yW (S H:Hp) (fp:List Addr):Hp:=fun b=>if b ∈ fp then H b else S b
theorem t0 {fp:List Addr} {b:Addr} (h:b ∈ fp):yW S H fp b = H b:=by unfold yW;rw [Pb h]
theorem my {fp:List Addr} {b:Addr} (h:b ∉ fp):yW S H fp b = S b:=by unfold yW;rw [Pc h]
theorem nI {fp:List Addr} (n:∀ b ∈ fp,S b = none):Same S (yW S H fp):=fun b o e=>by
 rw [my fun hb=>by rw [n b hb] at e;cases e]
 exact e
theorem AZ {fp:List Addr} (s:Same S H):Same (yW S H fp) H:=fun b o e=>by
 by_cases hb:b ∈ fp
 ·rw [t0 hb] at e;exact e
 ·rw [my hb] at e;exact s b o e
theorem zB {fp:List Addr} (z:Ext S H S' H') (n:∀ b ∈ fp,H b = none /\ S' b = none):Ext S H (yW S' H' fp) H':=
 ⟨z.sh.trans (nI fun b hb=>(n b hb).2),AZ z.sub,fun b o h hn=>⟨(z.al b o h hn).1,by rw [my fun hb=>by rw [(n b hb).1] at h;cases h];exact (z.al b o h hn).2⟩⟩
@[simp] def xOD (e:Env -> Option O):XE:=fun ρ=>(e ρ).map O.d
theorem STr.e {t:TE} {e:Env -> Option O} (h:STr K t e):SE K t (xOD e):=fun ρ σ S H Q d r x k=>by
 unfold xOD at x
 cases q:e ρ with
 | none=>rw [q] at x;cases x
 | some o=>
  rw [q] at x
  cases x
  exact h ρ σ S H Q o r q fun v fp S' H' z ow nd n=>k v _ H' (zB z n) (ow.den (nI fun b hb=>(n b hb).2) fun b hb=>t0 hb)
def cS (K:W.Frag) (n:Nat) (m:List D -> Option O):Sp:=fun vs H Q _=>vs.length = n /\ ∃ S ds o,Same S H /\ Dens K S ds vs /\ m ds = some o /\ ∀ v fp S' H',Ext S H S' H' -> Own K S' H' o v fp -> fp.Nodup -> (∀ b ∈ fp,H b = none /\ S' b = none) -> Q v H'
@[simp] def Bh (m:List D -> Option O) (a:XA):Env -> Option O:=fun ρ=>(a ρ).bind m
theorem HB {n:Nat} {m:List D -> Option O} {E:XK} {t:TA} {a:XA} (h:SA K t a) (hn:∀ ρ ds,a ρ = some ds -> ds.length = n):STr K (sY (cS K n m) [] E t) (Bh m a):=fun ρ σ S H Q o rl x k=>by
 unfold Bh at x
 cases q:a ρ with
 | none=>rw [q] at x;cases x
 | some ds=>
  rw [q] at x
  refine h ρ σ S H _ ds rl q fun vs S1 H1 z1 d1=>?_
  rw [Qa]
  refine ⟨by rw [<- d1.length];exact hn ρ ds q,S1,ds,o,z1.sub,d1,x,fun v fp S2 H2 z2 ow nd n=>k v fp S2 H2 (z1.trans z2) ow nd fun b hb=>⟨(z1.same rl.sub).free (n b hb).1,(n b hb).2⟩⟩
@[simp] def aF (m:List D -> Option D) (a:XA):XE:=fun ρ=>(a ρ).bind m
theorem u3 {n:Nat} {m:List D -> Option O} {E:XK} {t:TA} {a:XA} (h:SA K t a) (hn:∀ ρ ds,a ρ = some ds -> ds.length = n):SE K (sY (cS K n m) [] E t) (aF (fun ds=>(m ds).map O.d) a):=by
 have:=(HB (m:=m) (E:=E) h hn).e
 have e:xOD (Bh m a) = aF (fun ds=>(m ds).map O.d) a:=by
  funext ρ
  show ((a ρ).bind m).map O.d = (a ρ).bind fun ds=>(m ds).map O.d
  cases a ρ <;> rfl
 rw [e] at this
 exact this
@[simp] def Nd (m:List D -> Option D) (a:XA):XE:=fun ρ=>((a ρ).bind m).bind fun d=>if (rV d).isSome then some d else none
def SAT (K:W.Frag) (t:TA) (e:Env -> Option (List O)):Prop:=∀ ρ σ S H (Q:List V -> Hp -> Prop) os,Rl K ρ σ S H -> e ρ = some os -> (∀ vs fp S' H',Ext S H S' H' -> Owns K S' H' os vs fp -> fp.Nodup -> (∀ b ∈ fp,H b = none /\ S' b = none) -> Q vs H') -> t σ H Q
@[simp] def Fv:Env -> Option (List O):=fun _=>some []
@[simp] def ym (a:Env -> Option O) (b:Env -> Option (List O)):Env -> Option (List O):=fun ρ=>(a ρ).bind fun x=>(b ρ).bind fun y=>some (x :: y)
theorem KK:SAT K rh Fv:=fun ρ σ S H Q ds r x k=>by cases x;exact k [] [] S H (Ext.refl r.sub) .nil .nil fun _ hb=>by cases hb
theorem II {ta:TE} {tr:TA} {a:Env -> Option O} {b:Env -> Option (List O)} (ha:STr K ta a) (hb:SAT K tr b):SAT K (gW ta tr) (ym a b):=fun ρ σ S H Q os r x k=>by
 unfold ym at x
 cases qa:a ρ with
 | none=>rw [qa] at x;cases x
 | some oa=>
  rw [qa] at x
  dsimp only [Option.bind] at x
  cases qb:b ρ with
  | none=>rw [qb] at x;cases x
  | some ob=>
   rw [qb] at x
   cases x
   refine ha ρ σ S H _ oa r qa fun v fp S1 H1 z1 o1 nd1 n1=>hb ρ σ S1 H1 _ ob (r.ext z1) qb fun vs fq S2 H2 z2 o2 nd2 n2=>?_
   obtain ⟨k1,k2⟩:=z2.keeps (fun b hb=>(n1 b hb).2) o1.there
   refine k _ _ S2 H2 (z1.trans z2) (.cons (o1.mono z2.sh k1) o2) ?_ fun c hc=>?_
   ·refine Q9.mpr ⟨nd1,nd2,fun c hc d hd e=>?_⟩
    subst e
    exact o1.there c hc (n2 c hd).1
   ·rcases Pu.mp hc with hc | hc
    ·exact ⟨(n1 c hc).1,k2 c hc⟩
    ·exact ⟨(z1.same r.sub).free (n2 c hc).1,(n2 c hc).2⟩
@[simp] def FB (a:Env -> Option (List O)):Env -> Option O:=fun ρ=>(a ρ).bind fun l=>if l.length <= LIM then some (.tup l) else none
@[simp] def F0 (a:Env -> Option (List O)):Env -> Option O:=fun ρ=>(a ρ).bind fun l=>if l.length <= LIM then some (.lst l) else none
theorem xn {fp:List Addr} {p:Addr} {o:HO} (h:H p = none) (t:∀ b ∈ fp,H b ≠ none):(∀ b ∈ fp,upd H p o b = H b) /\ p ∉ fp:=by
 have np:p ∉ fp:=fun hp=>t p hp h
 exact ⟨fun b hb=>aP fun e=>np (e ▸ hb),np⟩
theorem JT {t:TA} {a:Env -> Option (List O)} (h:SAT K t a):STr K (KN t) (FB a):=fun ρ σ S H Q o r x k=>by
 unfold FB at x
 cases q:a ρ with
 | none=>rw [q] at x;cases x
 | some l=>
  rw [q] at x
  dsimp only [Option.bind] at x
  split at x
  ·rename_i hl
   cases x
   refine h ρ σ S H _ l r q fun vs fp S1 H1 z1 o1 nd1 n1=>⟨?_,fun p hp=>?_⟩
   ·rw [<- o1.length];exact Ql (QG hl lh)
   ·obtain ⟨k1,k2⟩:=xn (o:=.tup vs) hp o1.there
    refine k _ (p :: fp) S1 _ (z1.trans (Ext.own z1.sub hp)) (own_tup.mpr ⟨p,vs,fp,rfl,rfl,aY,o1.mono (Same.refl _) k1⟩) (Qq.mpr ⟨k2,nd1⟩) fun b hb=>?_
    rcases Pq.mp hb with rfl | hb
    ·exact ⟨(z1.same r.sub).free hp,z1.sub.free hp⟩
    ·exact n1 b hb
  ·cases x
theorem Jt {t:TA} {a:Env -> Option (List O)} (h:SAT K t a):STr K (EM t) (F0 a):=fun ρ σ S H Q o r x k=>by
 unfold F0 at x
 cases q:a ρ with
 | none=>rw [q] at x;cases x
 | some l=>
  rw [q] at x
  dsimp only [Option.bind] at x
  split at x
  ·rename_i hl
   cases x
   refine h ρ σ S H _ l r q fun vs fp S1 H1 z1 o1 nd1 n1=>⟨?_,fun p hp=>?_⟩
   ·rw [<- o1.length];exact Ql (QG hl lh)
   ·obtain ⟨k1,k2⟩:=xn (o:=.lst vs) hp o1.there
    refine k _ (p :: fp) S1 _ (z1.trans (Ext.own z1.sub hp)) (own_lst.mpr ⟨p,vs,fp,rfl,rfl,aY,o1.mono (Same.refl _) k1⟩) (Qq.mpr ⟨k2,nd1⟩) fun b hb=>?_
    rcases Pq.mp hb with rfl | hb
    ·exact ⟨(z1.same r.sub).free hp,z1.sub.free hp⟩
    ·exact n1 b hb
  ·cases x
theorem qz {ρ:Env} {ds:List D} (h:ao ρ = some ds):ds.length = 0:=by cases h;rfl
theorem jH {a:XE} {b:XA} {n:Nat} (h:∀ ρ ds,b ρ = some ds -> ds.length = n) (ρ:Env) (ds:List D) (x:af a b ρ = some ds):ds.length = n + 1:=by
 obtain ⟨da,db,qa,qb,rfl⟩:=qB x
 rw [Pw,h ρ db qb]
@[simp] def Fe (a b:XE):XE:=fun ρ=>(a ρ).bind fun x=>match x with | .bl true=>b ρ | .bl false=>some (.bl false) | _=>none
@[simp] def OT (a b:XE):XE:=fun ρ=>(a ρ).bind fun x=>match x with | .bl true=>some (.bl true) | .bl false=>b ρ | _=>none
@[simp] def Og (a:XE):XE:=fun ρ=>(a ρ).bind fun x=>match x with | .bl c=>some (.bl (!c)) | _=>none
theorem K7 {ta tb:TE} {a b:XE} (ha:SPk K ta a) (hb:SE K tb b):SE K (Jg ta tb) (Fe a b):=fun ρ σ S H Q d r x k=>by
 unfold Fe at x
 cases qa:a ρ with
 | none=>rw [qa] at x;cases x
 | some da=>
  rw [qa] at x
  dsimp only [Option.bind] at x
  refine ha ρ σ S H _ da r qa fun v S1 H1 z1 d1=>?_
  split at x
  ·exact ⟨true,d1.bl,BA (hb ρ σ S1 H1 Q d (r.ext z1) x fun w S2 H2 z2 d2=>k w S2 H2 (z1.trans z2) d2)⟩
  ·cases x
   exact ⟨false,d1.bl,Cd (k _ S1 H1 z1 (den_bl.mpr rfl))⟩
  ·cases x
@[simp] def OV (c:XT) (a b:XE):XE:=fun ρ=>(c ρ).bind fun q=>if q = true then a ρ else b ρ
@[simp] def xB (a:XE):XT:=fun ρ=>(a ρ).bind fun x=>match x with | .bl c=>some c | _=>none
theorem s_b {ta:TE} {a:XE} (ha:SPk K ta a):ST K (tB ta) (xB a):=fun ρ σ S H Q b r x k=>by
 unfold xB at x
 cases qa:a ρ with
 | none=>rw [qa] at x;cases x
 | some da=>
  rw [qa] at x
  dsimp only [Option.bind] at x
  refine ha ρ σ S H _ da r qa fun v S1 H1 z1 d1=>?_
  split at x
  ·cases x
   exact ⟨_,d1.bl,k S1 H1 z1⟩
  ·cases x
theorem vN {ta:TE} {a:XE} (ha:SPk K ta a):ST K (FG ta) (xB a):=s_b ha
def A4:D -> Option Bool
 | .non=>some false
 | .bl b=>some b
 | .int i=>some (i != 0)
 | .str y=>if y.length <= LIM then some ((y.length:Int) != 0) else none
 | .lst l=>some (!l.isEmpty)
 | .tup l=>some (!l.isEmpty)
 | .scr l=>some (!l.isEmpty)
 | _=>none
theorem pe {ds:List D} {xs:List V} (h:Dens K S ds xs):(!ds.isEmpty) = !xs.isEmpty:=by
 have:=h.length
 cases ds <;> cases xs <;> simp_all
@[simp] def wN (a:XE):XT:=fun ρ=>(a ρ).bind A4
theorem Ge {d:D} {v:V} {b:Bool} (s:Same S H) (h:DenP K S H d v) (x:A4 d = some b):E6 K v H b:=by
 cases d with
 | non=>rw [h.non];cases x;rfl
 | bl c=>rw [h.bl];cases x;rfl
 | int i=>rw [h.int];cases x;rfl
 | str y=>
  rw [h.str]
  have x':(if y.length <= LIM then some ((y.length:Int) != 0) else none) = some b:=x
  split at x'
  ·rename_i hl;cases x';exact ⟨Ql (QG hl lh),rfl⟩
  ·cases x'
 | lst l=>
  obtain ⟨p,xs,rfl,h1,h2⟩:=h.lst s
  cases x
  exact .inl ⟨xs,.inl h1,pe h2⟩
 | tup l=>
  obtain ⟨p,xs,rfl,h1,h2⟩:=h.tup s
  cases x
  exact .inr (.inl ⟨xs,h1,pe h2⟩)
 | scr l=>
  obtain ⟨p,xs,rfl,h1,h2⟩:=h.scr s
  cases x
  exact .inl ⟨xs,h1,pe h2⟩
 | _=>cases x
end
section
variable {K:W.Frag} {S S' H H':Hp}
theorem LC {ta:TE} {a:XE} (ha:SPk K ta a):ST K (fun σ H Q=>ta σ H fun x H'=>∃ k,E6 K x H' k /\ Q k H') (wN a):=fun ρ σ S H Q b r x k=>by
 unfold wN at x
 cases qa:a ρ with
 | none=>rw [qa] at x;cases x
 | some da=>
  rw [qa] at x
  exact ha ρ σ S H _ da r qa fun v S1 H1 z1 d1=>⟨b,Ge z1.sub d1 x,k S1 H1 z1⟩
@[simp] def Aj (a b:XT):XT:=fun ρ=>(a ρ).bind fun x=>if x = true then b ρ else some false
@[simp] def xOr (a b:XT):XT:=fun ρ=>(a ρ).bind fun x=>if x = true then some true else b ρ
@[simp] def KC (a:XT):XT:=fun ρ=>(a ρ).map fun x=>!x
theorem LA {ta tb:TT} {a b:XT} (ha:ST K ta a) (hb:ST K tb b):ST K (L8 ta tb) (Aj a b):=fun ρ σ S H Q d r x k=>by
 unfold Aj at x
 cases qa:a ρ with
 | none=>rw [qa] at x;cases x
 | some q=>
  rw [qa] at x
  dsimp only [Option.bind] at x
  refine ha ρ σ S H _ q r qa fun S1 H1 z1=>?_
  cases q with
  | true=>exact BA (hb ρ σ S1 H1 Q d (r.ext z1) (by simpa using x) fun S2 H2 z2=>k S2 H2 (z1.trans z2))
  | false=>
   have:d = false:=by simpa using x.symm
   subst this
   exact Cd (k S1 H1 z1)
theorem Nu {ta tb:TT} {a b:XT} (ha:ST K ta a) (hb:ST K tb b):ST K (tOr ta tb) (xOr a b):=fun ρ σ S H Q d r x k=>by
 unfold xOr at x
 cases qa:a ρ with
 | none=>rw [qa] at x;cases x
 | some q=>
  rw [qa] at x
  dsimp only [Option.bind] at x
  refine ha ρ σ S H _ q r qa fun S1 H1 z1=>?_
  cases q with
  | false=>exact Cd (hb ρ σ S1 H1 Q d (r.ext z1) (by simpa using x) fun S2 H2 z2=>k S2 H2 (z1.trans z2))
  | true=>
   have:d = true:=by simpa using x.symm
   subst this
   exact BA (k S1 H1 z1)
theorem L5 {ta:TT} {a:XT} (ha:ST K ta a):ST K (LB ta) (KC a):=fun ρ σ S H Q d r x k=>by
 unfold KC at x
 cases qa:a ρ with
 | none=>rw [qa] at x;cases x
 | some q=>
  rw [qa] at x
  cases x
  exact ha ρ σ S H _ q r qa k
inductive Out where
 | nx (ρ:Env) | rt (d:D) | ro (o:O) | bk (ρ:Env) | ct (ρ:Env)
abbrev XS:=Env -> Option Out
def Done (K:W.Frag) (A:Hp) (Λ:Nat -> Option Addr) (S:Hp) (E:Ends):Out -> Prop
 | .nx ρ=>∀ σ' S' H',RlA K A Λ ρ σ' S' H' -> Same S S' -> E.nx σ' H'
 | .bk ρ=>∀ σ' S' H',RlA K A Λ ρ σ' S' H' -> Same S S' -> E.bk σ' H'
 | .ct ρ=>∀ σ' S' H',RlA K A Λ ρ σ' S' H' -> Same S S' -> E.ct σ' H'
 | .rt d=>∀ v S' H',Same S S' -> Same S' H' -> Same A H' -> (∀ b,S' b = none \/ A b = none) -> Den K S' d v -> E.rt v H'
 | .ro o=>∀ v fp S' H',Same S S' -> Same S' H' -> Same A H' -> (∀ b,S' b = none \/ A b = none) -> Own K S' H' o v fp -> fp.Nodup -> (∀ b ∈ fp,S' b = none /\ A b = none) -> E.rt v H'
theorem Done.mono {A:Hp} {Λ:Nat -> Option Addr} {E:Ends} {o:Out} (s:Same S S') (h:Done K A Λ S E o):Done K A Λ S' E o:=by
 cases o with
 | nx ρ=>exact fun σ1 S1 H1 r z=>h σ1 S1 H1 r (s.trans z)
 | bk ρ=>exact fun σ1 S1 H1 r z=>h σ1 S1 H1 r (s.trans z)
 | ct ρ=>exact fun σ1 S1 H1 r z=>h σ1 S1 H1 r (s.trans z)
 | rt d=>exact fun v S1 H1 z=>h v S1 H1 (s.trans z)
 | ro d=>exact fun v fp S1 H1 z=>h v fp S1 H1 (s.trans z)
def SS (K:W.Frag) (t:TS) (m:XS):Prop:=∀ A Λ ρ σ S H (E:Ends) o,RlA K A Λ ρ σ S H -> m ρ = some o -> Done K A Λ S E o -> t E σ H
@[simp] def d9:XS:=fun ρ=>some (.nx ρ)
theorem JI:SS K A2 d9:=fun A Λ ρ σ S H E o r x k=>by cases x;exact k σ S H r (Same.refl _)
@[simp] def M6:XS:=fun ρ=>some (.bk ρ)
@[simp] def Ov:XS:=fun ρ=>some (.ct ρ)
@[simp] def Cj:XS:=fun _=>none
theorem HR {t:TS}:SS K t Cj:=fun A Λ ρ σ S H E o r x k=>by cases x
@[simp] def aQ (m n:XS):XS:=fun ρ=>match m ρ with | some (.nx ρ')=>n ρ' | o=>o
theorem L7 {t u:TS} {m n:XS} (ht:SS K t m) (hu:SS K u n):SS K (GU t u) (aQ m n):=fun A Λ ρ σ S H E o r x k=>by
 unfold aQ at x
 cases q:m ρ with
 | none=>rw [q] at x;cases x
 | some om=>
  rw [q] at x
  refine ht A Λ ρ σ S H _ om r q ?_
  cases om with
  | nx ρ'=>exact fun σ' S' H' r' z=>hu A Λ ρ' σ' S' H' E o r' x (k.mono z)
  | rt d=>cases x;exact k
  | ro d=>cases x;exact k
  | bk d=>cases x;exact k
  | ct d=>cases x;exact k
@[simp] def bD (e:XE):XS:=fun ρ=>(e ρ).map .rt
theorem L4 {te:TE} {e:XE} (h:SE K te e):SS K (Kg te) (bD e):=fun A Λ ρ σ S H E o r x k=>by
 unfold bD at x
 cases q:e ρ with
 | none=>rw [q] at x;cases x
 | some d=>
  rw [q] at x
  cases x
  refine h ρ σ S H _ d r.toRl q fun v S1 H1 z1 d1=>?_
  have r1:=r.ext z1
  exact k v S1 H1 z1.sh z1.sub r1.asub r1.adis d1
@[simp] def Oz (e:Env -> Option O):XS:=fun ρ=>(e ρ).map .ro
@[simp] def F4 (i:Nat):XS:=fun ρ=>match ρ[i]? with | some (.sh d)=>some (.rt d) | some (.ow o)=>some (.ro o) | _=>none
theorem JB (i:Nat):SS K (Kg (pb i)) (F4 i):=fun A Λ ρ σ S H E o r x k=>by
 unfold F4 at x
 cases q:ρ[i]? with
 | none=>rw [q] at x;cases x
 | some s=>
  rw [q] at x
  obtain ⟨Φ,f⟩:=r
  cases s with
  | un=>cases x
  | lo=>cases x
  | sh d=>
   cases x
   obtain ⟨v,h1,h2⟩:=f.sh i d q
   exact ⟨v,h1,k v S H (Same.refl _) f.sub f.asub f.adis h2⟩
  | ow ot=>
   cases x
   obtain ⟨v,h1,h2,h3,h4⟩:=f.ow i ot q
   exact ⟨v,h1,k v _ S H (Same.refl _) f.sub f.asub f.adis h2 h3 h4⟩
@[simp] def OE:XS:=fun _=>some (.rt .non)
@[simp] def xIf (c:XT) (m n:XS):XS:=fun ρ=>(c ρ).bind fun b=>if b = true then m ρ else n ρ
theorem M5 {tc:TT} {t u:TS} {c:XT} {m n:XS} (hc:ST K tc c) (ht:SS K t m) (hu:SS K u n):SS K (Hw tc t u) (xIf c m n):=fun A Λ ρ σ S H E o r x k=>by
 unfold xIf at x
 cases qc:c ρ with
 | none=>rw [qc] at x;cases x
 | some q=>
  rw [qc] at x
  dsimp only [Option.bind] at x
  refine hc ρ σ S H _ q r.toRl qc fun S1 H1 z1=>?_
  cases q with
  | true=>exact BA (ht A Λ ρ σ S1 H1 E o (r.ext z1) (by simpa using x) (k.mono z1.sh))
  | false=>exact Cd (hu A Λ ρ σ S1 H1 E o (r.ext z1) (by simpa using x) (k.mono z1.sh))
theorem cg {α:Type} {l:List α} {i j:Nat} {x y:α} (h:(l.set i x)[j]? = some y):(i = j /\ y = x /\ i < l.length) \/ (i ≠ j /\ l[j]? = some y):=by
 by_cases hij:i = j
 ·subst hij
  have hl:=(PF.mp h).1
  rw [Qg] at hl
  rw [QH hl] at h
  exact .inl ⟨rfl,(P6 h).symm,hl⟩
 ·rw [P1 hij] at h
  exact .inr ⟨hij,h⟩
theorem RlF.set {A:Hp} {Λ:Nat -> Option Addr} {Φ:Nat -> List Addr} {ρ:Env} {σ:St} {d:D} {v:V} (r:RlF K A Λ Φ ρ σ S H) (i:Nat) (h:Den K S d v):RlF K A Λ Φ (ρ.set i (.sh d)) (σ.set i (some v)) S H where
 len:=by rw [Qg,Qg];exact r.len
 sub:=r.sub
 sh:=fun j e hj=>by
  rcases cg hj with ⟨rfl,e,hl⟩ | ⟨hij,hj⟩
  ·cases e
   exact ⟨v,QH (by rw [r.len];exact hl),h⟩
  ·rw [P1 hij]
   exact r.sh j e hj
 ow:=fun j o hj=>by
  rcases cg hj with ⟨rfl,e,hl⟩ | ⟨hij,hj⟩
  ·cases e
  ·rw [P1 hij]
   exact r.ow j o hj
 dj:=fun j k o o' hjk h1 h2=>by
  rcases cg h1 with ⟨rfl,e,hl⟩ | ⟨hij,h1⟩
  ·cases e
  ·rcases cg h2 with ⟨rfl,e,hl⟩ | ⟨hik,h2⟩
   ·cases e
   ·exact r.dj j k o o' hjk h1 h2
 lo:=fun j hj=>by
  rcases cg hj with ⟨rfl,e,hl⟩ | ⟨hij,hj⟩
  ·cases e
  ·rw [P1 hij]
   exact r.lo j hj
 asub:=r.asub
 adis:=r.adis
theorem RlA.set {A:Hp} {Λ:Nat -> Option Addr} {ρ:Env} {σ:St} {d:D} {v:V} (r:RlA K A Λ ρ σ S H) (i:Nat) (h:Den K S d v):RlA K A Λ (ρ.set i (.sh d)) (σ.set i (some v)) S H:=let ⟨Φ,f⟩:=r;⟨Φ,f.set i h⟩
theorem RlF.put {A:Hp} {Λ:Nat -> Option Addr} {Φ:Nat -> List Addr} {ρ:Env} {σ:St} {o:O} {v:V} {fp:List Addr} (r:RlF K A Λ Φ ρ σ S H) (i:Nat) (sub:Same S H') (asub:Same A H') (ow:Own K S H' o v fp) (nd:fp.Nodup) (n:∀ b ∈ fp,S b = none /\ A b = none)
  (keep:∀ (j:Nat) o',j ≠ i -> ρ[j]? = some (.ow o') -> ∀ b ∈ Φ j,H' b = H b /\ b ∉ fp):RlF K A Λ (fun j=>if j = i then fp else Φ j) (ρ.set i (.ow o)) (σ.set i (some v)) S H' where
 len:=by rw [Qg,Qg];exact r.len
 sub:=sub
 sh:=fun j e hj=>by
  rcases cg hj with ⟨rfl,e,hl⟩ | ⟨hij,hj⟩
  ·cases e
  ·rw [P1 hij]
   exact r.sh j e hj
 ow:=fun j o' hj=>by
  rcases cg hj with ⟨rfl,e,hl⟩ | ⟨hij,hj⟩
  ·cases e
   rw [Pb rfl]
   exact ⟨v,QH (by rw [r.len];exact hl),ow,nd,n⟩
  ·rw [P1 hij,Pc (PM hij)]
   obtain ⟨w,h1,h2,h3,h4⟩:=r.ow j o' hj
   exact ⟨w,h1,h2.mono (Same.refl _) fun b hb=>(keep j o' (PM hij) hj b hb).1,h3,h4⟩
 dj:=fun j k o1 o2 hjk h1 h2 b hb hb2=>by
  rcases cg h1 with ⟨rfl,e,hl⟩ | ⟨hij,h1⟩
  ·rcases cg h2 with ⟨rfl,e,hl⟩ | ⟨hik,h2⟩
   ·exact hjk rfl
   ·rw [Pb rfl] at hb
    rw [Pc (PM hik)] at hb2
    exact (keep k o2 (PM hik) h2 b hb2).2 hb
  ·rcases cg h2 with ⟨rfl,e,hl⟩ | ⟨hik,h2⟩
   ·rw [Pb rfl] at hb2
    rw [Pc (PM hij)] at hb
    exact (keep j o1 (PM hij) h1 b hb).2 hb2
   ·rw [Pc (PM hij)] at hb
    rw [Pc (PM hik)] at hb2
    exact r.dj j k o1 o2 hjk h1 h2 b hb hb2
 lo:=fun j hj=>by
  rcases cg hj with ⟨rfl,e,hl⟩ | ⟨hij,hj⟩
  ·cases e
  ·rw [P1 hij]
   exact r.lo j hj
 asub:=asub
 adis:=r.adis
theorem Gr {α:Type} {l:List α} {i:Nat} {x:α} (h:l[i]? = some x):l.set i x = l:=by
 apply Rx
 intro j
 by_cases e:i = j
 ·subst e
  rw [QH (PF.mp h).1,h]
 ·rw [P1 e]
def frz (i:Nat) (ρ:Env):Env:=match ρ[i]? with | some (.ow o)=>ρ.set i (.sh o.d) | _=>ρ
theorem RlA.frz {A:Hp} {Λ:Nat -> Option Addr} {ρ:Env} {σ:St} (r:RlA K A Λ ρ σ S H) (i:Nat):∃ S',Same S S' /\ RlA K A Λ (frz i ρ) σ S' H:=by
 unfold M.frz
 cases q:ρ[i]? with
 | none=>exact ⟨S,Same.refl _,r⟩
 | some s=>
  cases s with
  | un=>exact ⟨S,Same.refl _,r⟩
  | lo=>exact ⟨S,Same.refl _,r⟩
  | sh d=>exact ⟨S,Same.refl _,r⟩
  | ow o=>
   dsimp only
   obtain ⟨Φ,f⟩:=r
   obtain ⟨v,h1,h2,h3,h4⟩:=f.ow i o q
   have s2:Same S (yW S H (Φ i)):=nI fun b hb=>(h4 b hb).1
   have hd:Den K (yW S H (Φ i)) o.d v:=h2.den s2 fun b hb=>t0 hb
   refine ⟨_,s2,Φ,?_⟩
   exact {
    len:=by rw [Qg];exact f.len
    sub:=AZ f.sub
    sh:=fun j d hj=>by
     rcases cg hj with ⟨rfl,e,hl⟩ | ⟨hij,hj⟩
     ·cases e
      exact ⟨v,h1,hd⟩
     ·obtain ⟨w,k1,k2⟩:=f.sh j d hj
      exact ⟨w,k1,k2.mono s2⟩
    ow:=fun j o' hj=>by
     rcases cg hj with ⟨rfl,e,hl⟩ | ⟨hij,hj⟩
     ·cases e
     ·obtain ⟨w,k1,k2,k3,k4⟩:=f.ow j o' hj
      exact ⟨w,k1,k2.mono s2 fun _ _=>rfl,k3,fun b hb=>⟨by rw [my fun hi=>f.dj i j o o' hij q hj b hi hb];exact (k4 b hb).1,(k4 b hb).2⟩⟩
    dj:=fun j k o1 o2 hjk g1 g2=>by
     rcases cg g1 with ⟨rfl,e,hl⟩ | ⟨hij,g1⟩
     ·cases e
     ·rcases cg g2 with ⟨rfl,e,hl⟩ | ⟨hik,g2⟩
      ·cases e
      ·exact f.dj j k o1 o2 hjk g1 g2
    lo:=fun j hj=>by
     rcases cg hj with ⟨rfl,e,hl⟩ | ⟨hij,hj⟩
     ·cases e
     ·exact f.lo j hj
    asub:=f.asub
    adis:=fun b=>by
     by_cases hb:b ∈ Φ i
     ·exact .inr (h4 b hb).2
     ·rw [my hb];exact f.adis b }
@[simp] def AN (i:Nat) (m:XS):XS:=fun ρ=>m (frz i ρ)
theorem Ma {t:TS} {m:XS} (i:Nat) (h:SS K t m):SS K t (AN i m):=fun A Λ ρ σ S H E o r x k=>by
 obtain ⟨S',s,r'⟩:=r.frz i
 exact h A Λ _ σ S' H E o r' x (k.mono s)
abbrev XG:=D -> Env -> Option Env
abbrev XGs:=List D -> Env -> Option Env
def SG (K:W.Frag) (g:TG) (x:XG):Prop:=∀ A Λ ρ σ S H v d (Q:St -> Hp -> Prop) ρ',RlA K A Λ ρ σ S H -> Den K S d v -> x d ρ = some ρ' -> (∀ σ',RlA K A Λ ρ' σ' S H -> Q σ' H) -> g v σ H Q
def SGs (K:W.Frag) (g:TGs) (x:XGs):Prop:=∀ A Λ ρ σ S H vs ds (Q:St -> Hp -> Prop) ρ',RlA K A Λ ρ σ S H -> Dens K S ds vs -> x ds ρ = some ρ' -> (∀ σ',RlA K A Λ ρ' σ' S H -> Q σ' H) -> g vs σ H Q
@[simp] def ah (i:Nat):XG:=fun d ρ=>some (ρ.set i (.sh d))
def bh:XGs:=fun ds ρ=>match ds with | []=>some ρ | _=>none
def au (x:XG) (y:XGs):XGs:=fun ds ρ=>match ds with | d :: r=>(x d ρ).bind (y r) | []=>none
def bj (y:XGs):XG:=fun d ρ=>match d with | .tup l=>y l ρ | .mtp l=>y l ρ | _=>none
theorem Gj (i:Nat):SG K (ir i) (ah i):=fun A Λ ρ σ S H v d Q ρ' r dv x k=>by cases x;exact k _ (r.set i dv)
theorem Mn:SGs K KI bh:=fun A Λ ρ σ S H vs ds Q ρ' r dv x k=>by
 cases ds with
 | nil=>cases x;exact ⟨dv.nil_of,k σ r⟩
 | cons _ _=>cases x
theorem Kv {g:TG} {gs:TGs} {x:XG} {y:XGs} (h:SG K g x) (hs:SGs K gs y):SGs K (Ga g gs) (au x y):=fun A Λ ρ σ S H vs ds Q ρ' r dv e k=>by
 cases ds with
 | nil=>cases e
 | cons d ds=>
  obtain ⟨v,vs,rfl,h1,h2⟩:=dv.cons_of
  have e':(x d ρ).bind (y ds) = some ρ':=e
  cases q:x d ρ with
  | none=>rw [q] at e';cases e'
  | some ρ1=>
   rw [q] at e'
   exact ⟨v,vs,rfl,h A Λ ρ σ S H v d _ ρ1 r h1 q fun σ1 r1=>hs A Λ ρ1 σ1 S H vs ds Q ρ' r1 h2 e' k⟩
def CV (y:XGs) (n:Nat):Prop:=∀ ds ρ ρ',y ds ρ = some ρ' -> ds.length = n
theorem JS:CV bh 0:=fun ds ρ ρ' e=>by cases ds with | nil=>rfl | cons _ _=>cases e
theorem HU {x:XG} {y:XGs} {n:Nat} (h:CV y n):CV (au x y) (n + 1):=fun ds ρ ρ' e=>by
 cases ds with
 | nil=>cases e
 | cons d ds=>
  have e':(x d ρ).bind (y ds) = some ρ':=e
  cases q:x d ρ with
  | none=>rw [q] at e';cases e'
  | some ρ1=>rw [q] at e';rw [Pw,h ds ρ1 ρ' e']
theorem LS {gs:TGs} {y:XGs} {n:Nat} (hs:SGs K gs y) (hl:CV y n):SG K (J4 K n gs) (bj y):=fun A Λ ρ σ S H v d Q ρ' r dv e k=>by
 cases d with
 | tup l=>
  obtain ⟨p,xs,rfl,h1,h2⟩:=jn dv
  exact ⟨p,xs,rfl,bf r.sub h1,by rw [<- h2.length];exact hl l ρ ρ' e,hs A Λ ρ σ S H xs l Q ρ' r h2 e k⟩
 | mtp l=>
  obtain ⟨p,xs,rfl,h1,h2⟩:=den_mtp.mp dv
  exact ⟨p,xs,rfl,bf r.sub h1,by rw [<- h2.length];exact hl l ρ ρ' e,hs A Λ ρ σ S H xs l Q ρ' r h2 e k⟩
 | _=>cases e
@[simp] def bH (e:XE) (g:XG):XS:=fun ρ=>(e ρ).bind fun d=>(g d ρ).map .nx
theorem IZ {te:TE} {g:TG} {e:XE} {x:XG} (h:SE K te e) (hg:SG K g x):SS K (vO te g) (bH e x):=fun A Λ ρ σ S H E o r y k=>by
 unfold bH at y
 cases q:e ρ with
 | none=>rw [q] at y;cases y
 | some d=>
  rw [q] at y
  dsimp only [Option.bind] at y
  cases q2:x d ρ with
  | none=>rw [q2] at y;cases y
  | some ρ'=>
   rw [q2] at y
   cases y
   exact h ρ σ S H _ d r.toRl q fun v S1 H1 z1 d1=>hg A Λ ρ σ S1 H1 v d _ ρ' (r.ext z1) d1 q2 fun σ' r'=>k σ' S1 H1 r' z1.sh
@[simp] def GK (e:Env -> Option O) (i:Nat):XS:=fun ρ=>(e ρ).map fun o=>.nx (ρ.set i (.ow o))
theorem KT {te:TE} {e:Env -> Option O} {i:Nat} (h:STr K te e):SS K (vO te (ir i)) (GK e i):=fun A Λ ρ σ S H E o r y k=>by
 unfold GK at y
 cases q:e ρ with
 | none=>rw [q] at y;cases y
 | some ot=>
  rw [q] at y
  cases y
  obtain ⟨Φ,f⟩:=r
  refine h ρ σ S H _ ot ⟨A,Λ,Φ,f⟩ q fun v fp S1 H1 z1 o1 nd n=>?_
  have r1:=f.ext z1
  refine k _ S1 H1 ⟨_,r1.put (H':=H1) i r1.sub r1.asub o1 nd (fun b hb=>⟨(n b hb).2,f.asub.free (n b hb).1⟩) fun j o' hj e1 b hb=>⟨rfl,fun hf=>?_⟩⟩ z1.sh
  obtain ⟨w,_,k2,_,_⟩:=f.ow j o' e1
  exact k2.there b hb (n b hf).1
@[simp] def oA (e:XA) (i:Nat):XS:=GK (xLT e) i
theorem Ke {te:TE} {e:XA} {i:Nat} (h:SF K te e):SS K (vO te (ir i)) (oA e i):=KT h.t
def eW:O -> List Int -> Option O
 | o,[]=>some o
 | .lst l,k :: r=>(atI l k).bind fun o=>eW o r
 | .tup l,k :: r=>(atI l k).bind fun o=>eW o r
 | .sh _,_ :: _=>none
 | .dic _,_ :: _=>none
 | .hd _ _ _,_ :: _=>none
def uC (l:List O) (k:Int) (f:O -> O):List O:=match ixN l.length k with
 | some j=>(match l[j]? with | some o=>l.set j (f o) | none=>l)
 | none=>l
def kG:O -> List Int -> O -> O
 | _,[],q=>q
 | .lst l,k :: r,q=>.lst (uC l k fun o=>kG o r q)
 | .tup l,k :: r,q=>.tup (uC l k fun o=>kG o r q)
 | .sh d,_ :: _,_=>.sh d
 | .dic d,_ :: _,_=>.dic d
 | .hd p d l,_ :: _,_=>.hd p d l
def WalkV (H:Hp):V -> List Int -> V -> Prop
 | v,[],w=>v = w
 | v,k :: r,w=>∃ a xs u,v = .ref a /\ (H a = some (.lst xs) \/ H a = some (.tup xs)) /\ atI xs k = some u /\ WalkV H u r w
theorem WalkV.mono (s:Same H H'):∀ {p:List Int} {v w:V},WalkV H v p w -> WalkV H' v p w
 | [],_,_,h=>h
 | _ :: _,_,_,⟨a,xs,u,e,h,k,m⟩=>⟨a,xs,u,e,h.elim (fun z=>.inl (s _ _ z)) (fun z=>.inr (s _ _ z)),k,m.mono s⟩
theorem WalkV.uniq:∀ {p:List Int} {v w w':V},WalkV H v p w -> WalkV H v p w' -> w = w'
 | [],_,_,_,h,k=>h.symm.trans k
 | _ :: _,_,_,_,hpt0,hpt1=>by
  obtain ⟨a,xs,u,e,h,k,m⟩:=hpt0
  obtain ⟨a',xs',u',e',h',k',m'⟩:=hpt1
  rw [e] at e'
  cases e'
  have:xs = xs':=by
   rcases h with h | h <;> rcases h' with h' | h' <;> rw [h] at h' <;> cases h' <;> rfl
  subst this
  rw [k] at k'
  cases k'
  exact m.uniq m'
theorem WalkV.snoc:∀ {p:List Int} {v w u:V} {k:Int} {a:Addr} {xs:List V},WalkV H v p w -> w = .ref a -> (H a = some (.lst xs) \/ H a = some (.tup xs)) -> atI xs k = some u -> WalkV H v (p ++ [k]) u
 | [],_,_,u,k,a,xs,h,e,h1,h2=>⟨a,xs,u,h.trans e,h1,h2,rfl⟩
 | _ :: _,_,_,_,_,_,_,⟨b,ys,u',e,h,k,m⟩,e',h1,h2=>⟨b,ys,u',e,h,k,m.snoc e' h1 h2⟩
theorem se:∀ {p:List Int} {o q:O} {k:Int},eW o (p ++ [k]) = some q -> ∃ q0,eW o p = some q0 /\ eW q0 [k] = some q
 | [],o,q,k,h=>⟨o,by unfold eW;rfl,h⟩
 | j :: p,o,q,k,h=>by
  cases o with
  | sh d=>cases h
  | dic _=>cases h
  | hd _ _ _=>cases h
  | lst l=>
   have h':(atI l j).bind (fun o=>eW o (p ++ [k])) = some q:=h
   cases e:atI l j with
   | none=>rw [e] at h';cases h'
   | some o1=>
    rw [e] at h'
    obtain ⟨q0,a,b⟩:=se (p:=p) h'
    exact ⟨q0,by show (atI l j).bind (fun o=>eW o p) = some q0;rw [e];exact a,b⟩
  | tup l=>
   have h':(atI l j).bind (fun o=>eW o (p ++ [k])) = some q:=h
   cases e:atI l j with
   | none=>rw [e] at h';cases h'
   | some o1=>
    rw [e] at h'
    obtain ⟨q0,a,b⟩:=se (p:=p) h'
    exact ⟨q0,by show (atI l j).bind (fun o=>eW o p) = some q0;rw [e];exact a,b⟩
theorem Owns.split:∀ {l:List O} {xs:List V} {f:List Addr} {j:Nat} {o:O},Owns K S H l xs f -> l[j]? = some o -> ∃ x f1 f2 f3,xs[j]? = some x /\ f = f1 ++ (f2 ++ f3) /\ Own K S H o x f2 /\
  ∀ H' o' f2',Own K S H' o' x f2' -> (∀ b ∈ f1,H' b = H b) -> (∀ b ∈ f3,H' b = H b) -> Owns K S H' (l.set j o') xs (f1 ++ (f2' ++ f3))
 | [],_,_,_,_,_,e=>by simp at e
 | o0 :: l,_,_,0,o,h,e=>by
  obtain ⟨y,ys,f,g,rfl,rfl,a,b⟩:=h.cons_of
  simp at e;subst e
  exact ⟨y,[],f,g,rfl,rfl,a,fun H' o' f2' h1 _ h3=>Owns.cons (f:=f2') h1 (b.mono (Same.refl _) h3)⟩
 | o0 :: l,_,_,j + 1,o,h,e=>by
  obtain ⟨y,ys,f,g,rfl,rfl,a,b⟩:=h.cons_of
  obtain ⟨x,f1,f2,f3,e1,rfl,h1,h2⟩:=b.split (j:=j) (by simpa using e)
  refine ⟨x,f ++ f1,f2,f3,by simpa using e1,by rw [PZ],h1,fun H' o' f2' k1 k2 k3=>?_⟩
  rw [PZ]
  exact .cons (a.mono (Same.refl _) fun b hb=>k2 b (Py _ hb)) (h2 H' o' f2' k1 (fun b hb=>k2 b (Pr _ hb)) k3)
theorem BX {α:Type} {l:List α} {k:Int} {x:α} (h:atI l k = some x):∃ j,ixN l.length k = some j /\ l[j]? = some x:=by
 unfold atI at h
 cases q:ixN l.length k with
 | none=>rw [q] at h;cases h
 | some j=>rw [q] at h;exact ⟨j,rfl,h⟩
theorem Fl:∀ {p:List Int} {o q:O} {v:V} {fp:List Addr},Own K S H o v fp -> fp.Nodup -> eW o p = some q -> ∃ w fq,Own K S H q w fq /\ WalkV H v p w /\ (∀ b ∈ fq,b ∈ fp) /\ fq.Nodup /\
  ∀ H' q' fq',Own K S H' q' w fq' -> fq'.Nodup -> (∀ b ∈ fp,b ∉ fq -> H' b = H b) -> (∀ b ∈ fq',b ∈ fp -> b ∈ fq) -> ∃ fp',Own K S H' (kG o p q') v fp' /\ fp'.Nodup /\ ∀ b ∈ fp',b ∈ fp \/ b ∈ fq'
 | [],o,q,v,fp,h,nd,e=>by
  have e':some o = some q:=by unfold eW at e;exact e
  cases e'
  exact ⟨v,fp,h,rfl,fun b hb=>hb,nd,fun H' q' fq' h1 n1 _ _=>⟨fq',by unfold kG;exact h1,n1,fun b hb=>.inr hb⟩⟩
 | k :: r,o,q,v,fp,h,nd,e=>by
  have body:∀ (l:List O) (a:Addr) (xs:List V) (f:List Addr),v = .ref a -> fp = a :: f -> (H a = some (.lst xs) \/ H a = some (.tup xs)) -> Owns K S H l xs f -> ((atI l k).bind fun o=>eW o r) = some q ->
    ∃ w fq,Own K S H q w fq /\ WalkV H v (k :: r) w /\ (∀ b ∈ fq,b ∈ fp) /\ fq.Nodup /\ ∀ H' q' fq',Own K S H' q' w fq' -> fq'.Nodup -> (∀ b ∈ fp,b ∉ fq -> H' b = H b) -> (∀ b ∈ fq',b ∈ fp -> b ∈ fq) ->
     ∃ f',Owns K S H' (uC l k fun o=>kG o r q') xs f' /\ H' a = H a /\ (a :: f').Nodup /\ ∀ b ∈ a :: f',b ∈ fp \/ b ∈ fq':=by
   rintro l a xs f rfl rfl ha hl hs
   obtain ⟨na,nf⟩:=Qq.mp nd
   cases qa:atI l k with
   | none=>rw [qa] at hs;cases hs
   | some o1=>
    rw [qa] at hs
    obtain ⟨j,ej,el⟩:=BX qa
    obtain ⟨x,f1,f2,f3,ex,rfl,h1,h2⟩:=hl.split el
    obtain ⟨n1,n23,d1⟩:=Q9.mp nf
    obtain ⟨n2,n3,d2⟩:=Q9.mp n23
    obtain ⟨w,fq,k1,k2,k3,k4,k5⟩:=Fl (p:=r) h1 n2 hs
    have ax:atI xs k = some x:=by unfold atI;rw [<- hl.length,ej];exact ex
    refine ⟨w,fq,k1,⟨a,xs,x,rfl,ha,ax,k2⟩,fun b hb=>Po _ (Pr _ (Py _ (k3 b hb))),k4,fun H' q' fq' g1 g2 g3 g4=>?_⟩
    have in2:∀ b ∈ fq,b ∈ f2:=k3
    have a1:∀ b ∈ f1,b ∉ fq:=fun b hb hq=>d1 b hb b (Py _ (in2 b hq)) rfl
    have a3:∀ b ∈ f3,b ∉ fq:=fun b hb hq=>d2 b (in2 b hq) b hb rfl
    have aa:a ∉ fq:=fun hq=>na (Pr _ (Py _ (in2 a hq)))
    obtain ⟨f2',m1,m2,m3⟩:=k5 H' q' fq' g1 g2 (fun b hb hn=>g3 b (Po _ (Pr _ (Py _ hb))) hn) fun b hb hp=>g4 b hb (Po _ (Pr _ (Py _ hp)))
    have out:∀ b ∈ f2',b ∉ f1 /\ b ∉ f3 /\ b ≠ a:=fun b hb=>by
     rcases m3 b hb with hb | hb
     ·exact ⟨fun z=>d1 b z b (Py _ hb) rfl,fun z=>d2 b hb b z rfl,fun z=>na (z ▸ Pr _ (Py _ hb))⟩
     ·refine ⟨fun z=>a1 b z (g4 b hb (Po _ (Py _ z))),fun z=>a3 b z (g4 b hb (Po _ (Pr _ (Pr _ z)))),fun z=>?_⟩
      subst z
      exact aa (g4 b hb Pm)
    refine ⟨f1 ++ (f2' ++ f3),?_,g3 a Pm aa,?_,fun b hb=>?_⟩
    ·unfold uC
     rw [ej]
     dsimp only
     rw [el]
     exact h2 H' _ f2' m1 (fun b hb=>g3 b (Po _ (Py _ hb)) (a1 b hb)) fun b hb=>g3 b (Po _ (Pr _ (Pr _ hb))) (a3 b hb)
    ·refine Qq.mpr ⟨fun z=>?_,Q9.mpr ⟨n1,Q9.mpr ⟨m2,n3,fun b hb c hc e=>(out b hb).2.1 (e ▸ hc)⟩,fun b hb c hc e=>?_⟩⟩
     ·rcases Pu.mp z with z | z
      ·exact na (Py _ z)
      ·rcases Pu.mp z with z | z
       ·exact (out a z).2.2 rfl
       ·exact na (Pr _ (Pr _ z))
     ·subst e
      rcases Pu.mp hc with hc | hc
      ·exact (out b hc).1 hb
      ·exact d1 b hb b (Pr _ hc) rfl
    ·rcases Pq.mp hb with rfl | hb
     ·exact .inl Pm
     ·rcases Pu.mp hb with hb | hb
      ·exact .inl (Po _ (Py _ hb))
      ·rcases Pu.mp hb with hb | hb
       ·exact (m3 b hb).imp (fun z=>Po _ (Pr _ (Py _ z))) id
       ·exact .inl (Po _ (Pr _ (Pr _ hb)))
  cases o with
  | sh d=>cases e
  | dic _=>cases e
  | hd _ _ _=>cases e
  | lst l=>
   obtain ⟨a,xs,f,e1,e2,h1,h2⟩:=own_lst.mp h
   obtain ⟨w,fq,k1,k2,k3,k4,k5⟩:=body l a xs f e1 e2 (.inl h1) h2 e
   refine ⟨w,fq,k1,k2,k3,k4,fun H' q' fq' g1 g2 g3 g4=>?_⟩
   obtain ⟨f',m1,m2,m3,m4⟩:=k5 H' q' fq' g1 g2 g3 g4
   exact ⟨a :: f',by unfold kG;exact own_lst.mpr ⟨a,xs,f',e1,rfl,by rw [m2];exact h1,m1⟩,m3,m4⟩
  | tup l=>
   obtain ⟨a,xs,f,e1,e2,h1,h2⟩:=own_tup.mp h
   obtain ⟨w,fq,k1,k2,k3,k4,k5⟩:=body l a xs f e1 e2 (.inr h1) h2 e
   refine ⟨w,fq,k1,k2,k3,k4,fun H' q' fq' g1 g2 g3 g4=>?_⟩
   obtain ⟨f',m1,m2,m3,m4⟩:=k5 H' q' fq' g1 g2 g3 g4
   exact ⟨a :: f',by unfold kG;exact own_tup.mpr ⟨a,xs,f',e1,rfl,by rw [m2];exact h1,m1⟩,m3,m4⟩
abbrev XP:=Env -> Option (List Int)
def EL (K:W.Frag) (to:TE) (i:Nat) (p:XP):Prop:=∀ ρ σ S H (Q:VK) is o q,Rl K ρ σ S H -> ρ[i]? = some (.ow o) -> p ρ = some is -> eW o is = some q -> (∀ v w S' H',σ[i]? = some (some v) -> Ext S H S' H' -> WalkV H' v is w -> Q w H') -> to σ H Q
@[simp] def xPv:XP:=fun _=>some []
theorem ME (i:Nat):EL K (pb i) i xPv:=fun ρ σ S H Q is o q r h1 h2 h3 k=>by
 cases h2
 obtain ⟨v,fp,e,_⟩:=r.ow i o h1
 exact ⟨v,e,k v v S H e (Ext.refl r.sub) rfl⟩
@[simp] def xPi (p:XP) (ix:XE):XP:=fun ρ=>(p ρ).bind fun is=>(ix ρ).bind fun d=>match d with | .int k=>some (is ++ [k]) | _=>none
theorem NO {to ti:TE} {i:Nat} {p:XP} {ix:XE} (hp:EL K to i p) (hi:SPk K ti ix):EL K (tOp (rIx K) to ti) i (xPi p ix):=fun ρ σ S H Q is o q r h1 h2 h3 k=>by
 unfold xPi at h2
 cases e1:p ρ with
 | none=>rw [e1] at h2;cases h2
 | some js=>
  rw [e1] at h2
  dsimp only [Option.bind] at h2
  cases e2:ix ρ with
  | none=>rw [e2] at h2;cases h2
  | some d=>
   rw [e2] at h2
   cases d with
   | int kk=>
    cases h2
    obtain ⟨q0,s1,s2⟩:=se h3
    refine hp ρ σ S H _ js o q0 r h1 e1 s1 fun v w S1 H1 ev z1 wk=>?_
    have r1:=r.ext z1
    refine hi ρ σ S1 H1 _ _ r1 e2 fun u S2 H2 z2 d2=>?_
    have r2:=r1.ext z2
    obtain ⟨v',fp,ev',ow,nd,_⟩:=r2.ow i o h1
    rw [ev] at ev'
    cases ev'
    obtain ⟨w',fq,k1,k2,_⟩:=Fl ow nd s1
    have ew:=k2.uniq (wk.mono (z2.same r1.sub))
    subst ew
    rw [d2.int]
    cases q0 with
    | sh _=>cases s2
    | dic _=>cases s2
    | hd _ _ _=>cases s2
    | lst l=>
     have s2':(atI l kk).bind (fun o=>eW o []) = some q:=s2
     cases e3:atI l kk with
     | none=>rw [e3] at s2';cases s2'
     | some o1=>
      obtain ⟨a,xs,f,rfl,rfl,hx,hl⟩:=own_lst.mp k1
      obtain ⟨j,ej,el⟩:=BX e3
      obtain ⟨x,_,_,_,ex,_⟩:=hl.split el
      have ax:atI xs kk = some x:=by unfold atI;rw [<- hl.length,ej];exact ex
      exact .inl ⟨a,xs,kk,x,rfl,rfl,SqL.of hx,ax,k v x S2 H2 ev (z1.trans z2) (k2.snoc rfl (.inl hx) ax)⟩
    | tup l=>
     have s2':(atI l kk).bind (fun o=>eW o []) = some q:=s2
     cases e3:atI l kk with
     | none=>rw [e3] at s2';cases s2'
     | some o1=>
      obtain ⟨a,xs,f,rfl,rfl,hx,hl⟩:=own_tup.mp k1
      obtain ⟨j,ej,el⟩:=BX e3
      obtain ⟨x,_,_,_,ex,_⟩:=hl.split el
      have ax:atI xs kk = some x:=by unfold atI;rw [<- hl.length,ej];exact ex
      exact .inr (.inl ⟨a,xs,kk,x,rfl,rfl,SqT.of hx,ax,k v x S2 H2 ev (z1.trans z2) (k2.snoc rfl (.inr hx) ax)⟩)
   | _=>cases h2
theorem RlF.at {A:Hp} {Λ:Nat -> Option Addr} {Φ:Nat -> List Addr} {ρ:Env} {σ:St} {i:Nat} {o:O} {is:List Int} {l:List O} {v w:V} (f:RlF K A Λ Φ ρ σ S H) (h1:ρ[i]? = some (.ow o)) (h2:eW o is = some (.lst l)) (ev:σ[i]? = some (some v)) (wk:WalkV H v is w) :
  ∃ a xs f0,w = .ref a /\ H a = some (.lst xs) /\ Owns K S H l xs f0 /\ (a :: f0).Nodup /\ (∀ b ∈ a :: f0,b ∈ Φ i) /\ ∀ l' xs' f',(∀ H',(∀ b,b ≠ a -> H' b = H b) -> Owns K S H' l' xs' f') -> (a :: f').Nodup -> (∀ b ∈ f',b ∈ f0 \/ ((∀ (j:Nat) o',ρ[j]? = some (.ow o') -> b ∉ Φ j) /\ S b = none /\ A b = none)) ->
   RlA K A Λ (ρ.set i (.ow (kG o is (.lst l')))) σ S (upd H a (.lst xs')):=by
 obtain ⟨v',e',ow,nd,n⟩:=f.ow i o h1
 rw [ev] at e'
 cases e'
 obtain ⟨w',fq,k1,k2,k3,k4,k5⟩:=Fl ow nd h2
 have ew:=k2.uniq wk
 subst ew
 obtain ⟨a,xs,g,rfl,rfl,hx,hl⟩:=own_lst.mp k1
 have ain:=k3 a Pm
 refine ⟨a,xs,g,rfl,hx,hl,k4,k3,fun l' xs' f' g1 g2 g3=>?_⟩
 have ne:∀ b,b ≠ a -> upd H a (.lst xs') b = H b:=fun b hb=>aP hb
 obtain ⟨fp',m1,m2,m3⟩:=k5 (upd H a (.lst xs')) (.lst l') (a :: f') (own_lst.mpr ⟨a,xs',f',rfl,rfl,aY,g1 _ ne⟩) g2 (fun b hb hn=>ne b fun z=>hn (z ▸ Pm)) fun b hb hp=>by
  rcases Pq.mp hb with rfl | hb
  ·exact Pm
  ·rcases g3 b hb with z | ⟨z,_⟩
   ·exact Po _ z
   ·exact absurd hp (z i o h1)
 have sub':Same S (upd H a (.lst xs')):=fun b u e=>by rw [ne b fun z=>by subst z;rw [(n b ain).1] at e;cases e];exact f.sub b u e
 have asub':Same A (upd H a (.lst xs')):=fun b u e=>by rw [ne b fun z=>by subst z;rw [(n b ain).2] at e;cases e];exact f.asub b u e
 have fin:=f.put (H':=upd H a (.lst xs')) i sub' asub' m1 m2 (fun b hb=>by
  rcases m3 b hb with z | z
  ·exact n b z
  ·rcases Pq.mp z with rfl | z
   ·exact n b ain
   ·rcases g3 b z with z | ⟨_,z⟩
    ·exact n b (k3 b (Po _ z))
    ·exact z) fun j o' hj e1 b hb=>by
   have nb:b ∉ Φ i:=fun z=>f.dj j i o' o hj e1 h1 b hb z
   refine ⟨ne b fun z=>nb (z ▸ ain),fun z=>?_⟩
   rcases m3 b z with z | z
   ·exact nb z
   ·rcases Pq.mp z with rfl | z
    ·exact nb ain
    ·rcases g3 b z with z | ⟨z,_⟩
     ·exact nb (k3 b (Po _ z))
     ·exact z j o' e1 hb
 rw [Gr ev] at fin
 exact ⟨_,fin⟩
theorem RlF.fresh {A:Hp} {Λ:Nat -> Option Addr} {Φ:Nat -> List Addr} {ρ:Env} {σ:St} {b:Addr} (f:RlF K A Λ Φ ρ σ S H) (h:H b = none):(∀ (j:Nat) o',ρ[j]? = some (.ow o') -> b ∉ Φ j) /\ S b = none /\ A b = none:=
 ⟨fun j o' e hb=>by obtain ⟨_,_,ow,_⟩:=f.ow j o' e;exact ow.there b hb h,f.sub.free h,f.asub.free h⟩
@[simp] def n4 (i:Nat) (p:XP) (e:Env -> Option O):XS:=fun ρ=>match ρ[i]? with
 | some (.ow o)=>(p ρ).bind fun is=>(e ρ).bind fun x=>match eW o is with
  | some (.lst l)=>if l.length < LIM then some (.nx (ρ.set i (.ow (kG o is (.lst (l ++ [x])))))) else none
  | _=>none
 | _=>none
theorem Jw {to te:TE} {i:Nat} {p:XP} {e:Env -> Option O} (hp:EL K to i p) (h:STr K te e):SS K (w6 (tBM K "list" rAppend to (gW te rh))) (n4 i p e):=fun A Λ ρ σ S H E out r y k=>by
 unfold n4 at y
 cases q0:ρ[i]? with
 | none=>rw [q0] at y;cases y
 | some s=>
  rw [q0] at y
  cases s with
  | un=>cases y
  | lo=>cases y
  | sh d=>cases y
  | ow o=>
   dsimp only at y
   cases q1:p ρ with
   | none=>rw [q1] at y;cases y
   | some is=>
    rw [q1] at y
    dsimp only [Option.bind] at y
    cases q2:e ρ with
    | none=>rw [q2] at y;cases y
    | some x=>
     rw [q2] at y
     dsimp only at y
     cases q3:eW o is with
     | none=>rw [q3] at y;cases y
     | some qo=>
      rw [q3] at y
      cases qo with
      | sh _=>cases y
      | dic _=>cases y
      | hd _ _ _=>cases y
      | tup _=>cases y
      | lst l=>
       dsimp only at y
       split at y
       ·rename_i hl
        cases y
        obtain ⟨Φ,f⟩:=r
        refine hp ρ σ S H _ is o _ ⟨A,Λ,Φ,f⟩ q0 q1 q3 fun v w S1 H1 ev z1 wk=>?_
        have f1:=f.ext z1
        obtain ⟨a,xs,g0,rfl,hx,hw,nd0,in0,_⟩:=f1.at q0 q3 ev wk
        refine ⟨.inl ⟨rfl,xs,SqL.of hx⟩,h ρ σ S1 H1 _ x ⟨A,Λ,Φ,f1⟩ q2 fun u fu S2 H2 z2 ou nd n=>?_⟩
        have f2:=f1.ext z2
        obtain ⟨a',xs',g1,e1,hx',hw',nd1,in1,up⟩:=f2.at q0 q3 ev (wk.mono (z2.same f1.sub))
        cases e1
        have fr:∀ b ∈ fu,(∀ (j:Nat) o',ρ[j]? = some (.ow o') -> b ∉ Φ j) /\ S2 b = none /\ A b = none:=fun b hb=>⟨(f1.fresh (n b hb).1).1,(n b hb).2,(f1.fresh (n b hb).1).2.2⟩
        have fa:∀ b ∈ fu,b ∉ a :: g1:=fun b hb z=>(fr b hb).1 i o q0 (in1 b z)
        obtain ⟨na,ng⟩:=Qq.mp nd1
        refine ⟨a,xs',u,rfl,rfl,hx',?_,?_⟩
        ·rw [<- hw'.length];exact Nat.lt_trans hl lh
        ·refine k σ S2 _ (up (l ++ [x]) (xs' ++ [u]) (g1 ++ fu) (fun H' ne=>?_) ?_ fun b hb=>?_) (z1.sh.trans z2.sh)
         ·have:=(hw'.mono (H':=H') (Same.refl _) fun b hb=>ne b fun z=>na (z ▸ hb)).append (.cons (ou.mono (H':=H') (Same.refl _) fun b hb=>ne b fun z=>fa b hb (z ▸ Pm)) .nil)
          rw [Qa] at this
          exact this
         ·refine Qq.mpr ⟨fun z=>?_,Q9.mpr ⟨ng,nd,fun b hb c hc e=>fa c hc (e ▸ Po _ hb)⟩⟩
          rcases Pu.mp z with z | z
          ·exact na z
          ·exact fa a z Pm
         ·rcases Pu.mp hb with hb | hb
          ·exact .inl hb
          ·exact .inr (fr b hb)
       ·cases y
@[simp] def Ox (i:Nat) (p:XP) (j:Nat):XS:=fun ρ=>match ρ[i]? with
 | some (.ow o)=>(p ρ).bind fun is=>match eW o is with
  | some (.lst l)=>(match l.getLast? with
   | some (.sh d)=>some (.nx ((ρ.set i (.ow (kG o is (.lst l.dropLast)))).set j (.sh d)))
   | _=>none)
  | _=>none
 | _=>none
@[simp] def Op (i:Nat) (p:XP):XS:=fun ρ=>match ρ[i]? with
 | some (.ow o)=>(p ρ).bind fun is=>match eW o is with
  | some (.lst l)=>(match shs l with | some ds=>some (.nx (ρ.set i (.ow (kG o is (.lst (ds.reverse.map .sh)))))) | none=>none)
  | _=>none
 | _=>none
def rExtM:V -> List V -> Hp -> VK -> Prop:=fun x vs H Q=>∃ l b xs zs,x = .ref l /\ vs = [.ref b] /\ H l = some (.lst xs) /\ Rd H b (.lst zs) /\ xs.length + zs.length <= sizeLine /\ Q .non (upd H l (.lst (xs ++ zs)))
@[simp] def CY (i:Nat) (p:XP) (e:XE):XS:=fun ρ=>match ρ[i]? with
 | some (.ow o)=>(p ρ).bind fun is=>(e ρ).bind fun d=>match eW o is,d with
  | some (.lst l),.lst ds=>if l.length + ds.length <= LIM then some (.nx (ρ.set i (.ow (kG o is (.lst (l ++ ds.map .sh)))))) else none
  | _,_=>none
 | _=>none
theorem Kr {to te:TE} {i:Nat} {p:XP} {e:XE} (hp:EL K to i p) (h:SE K te e):SS K (w6 (tBM K "list" rExtM to (gW te rh))) (CY i p e):=fun A Λ ρ σ S H E out r y k=>by
 unfold CY at y
 cases q0:ρ[i]? with
 | none=>rw [q0] at y;cases y
 | some s=>
  rw [q0] at y
  cases s with
  | un=>cases y
  | lo=>cases y
  | sh d=>cases y
  | ow o=>
   dsimp only at y
   cases q1:p ρ with
   | none=>rw [q1] at y;cases y
   | some is=>
    rw [q1] at y
    dsimp only [Option.bind] at y
    cases q2:e ρ with
    | none=>rw [q2] at y;cases y
    | some dd=>
     rw [q2] at y
     dsimp only at y
     cases q3:eW o is with
     | none=>rw [q3] at y;cases y
     | some qo=>
      rw [q3] at y
      cases qo with
      | sh _=>cases y
      | dic _=>cases y
      | hd _ _ _=>cases y
      | tup _=>cases y
      | lst l=>
       cases dd with
       | lst ds=>
        dsimp only at y
        split at y
        ·rename_i hl
         cases y
         obtain ⟨Φ,f⟩:=r
         refine hp ρ σ S H _ is o _ ⟨A,Λ,Φ,f⟩ q0 q1 q3 fun v w S1 H1 ev z1 wk=>?_
         have f1:=f.ext z1
         obtain ⟨a,xs,g0,rfl,hx,hw,nd0,in0,_⟩:=f1.at q0 q3 ev wk
         refine ⟨.inl ⟨rfl,xs,SqL.of hx⟩,h ρ σ S1 H1 _ _ ⟨A,Λ,Φ,f1⟩ q2 fun u S2 H2 z2 d2=>?_⟩
         have f2:=f1.ext z2
         obtain ⟨a',xs',g1,e1,hx',hw',nd1,in1,up⟩:=f2.at q0 q3 ev (wk.mono (z2.same f1.sub))
         cases e1
         obtain ⟨b,zs,rfl,hb,dz⟩:=den_lst.mp d2
         obtain ⟨na,ng⟩:=Qq.mp nd1
         refine ⟨a,b,xs',zs,rfl,rfl,hx',et z2.sub hb,?_,?_⟩
         ·rw [<- hw'.length,<- dz.length];exact Ql (QG hl lh)
         ·refine k σ S2 _ (up (l ++ ds.map .sh) (xs' ++ zs) g1 (fun H' ne=>?_) nd1 fun b hb=>.inl hb) (z1.sh.trans z2.sh)
          have:=(hw'.mono (H':=H') (Same.refl _) fun b hb=>ne b fun z=>na (z ▸ hb)).append (uc (H:=H') dz)
          rw [Qa] at this
          exact this
        ·cases y
       | _=>cases y
@[simp] def xY (i:Nat) (p:XP) (ix e:XE):XS:=fun ρ=>(e ρ).bind fun d=>match ρ[i]? with
 | some (.ow o)=>(p ρ).bind fun is=>(ix ρ).bind fun k=>match eW o is,k with
  | some (.lst l),.int k=>(match shs l with | some ds=>(ixN ds.length k).map fun j=>.nx (ρ.set i (.ow (kG o is (.lst ((ds.set j d).map .sh))))) | none=>none)
  | _,_=>none
 | _=>none
theorem Kz {to te ti:TE} {i:Nat} {p:XP} {e ix:XE} (h:SE K te e) (hp:EL K to i p) (hi:SPk K ti ix):SS K (vO te (Mq to ti Jn)) (xY i p ix e):=fun A Λ ρ σ S H E out r y k=>by
 unfold xY at y
 cases q:e ρ with
 | none=>rw [q] at y;cases y
 | some d=>
  rw [q] at y
  dsimp only [Option.bind] at y
  cases q0:ρ[i]? with
  | none=>rw [q0] at y;cases y
  | some s=>
   rw [q0] at y
   cases s with
   | un=>cases y
   | lo=>cases y
   | sh d=>cases y
   | ow o=>
    dsimp only at y
    cases q1:p ρ with
    | none=>rw [q1] at y;cases y
    | some is=>
     rw [q1] at y
     dsimp only at y
     cases q2:ix ρ with
     | none=>rw [q2] at y;cases y
     | some dk=>
      rw [q2] at y
      dsimp only at y
      cases q3:eW o is with
      | none=>rw [q3] at y;cases y
      | some qo=>
       rw [q3] at y
       cases qo with
       | sh _=>cases y
       | dic _=>cases y
       | hd _ _ _=>cases y
       | tup _=>cases y
       | lst l=>
        cases dk with
        | int kk=>
         dsimp only at y
         cases q4:shs l with
         | none=>rw [q4] at y;cases y
         | some ds=>
          rw [q4] at y
          dsimp only at y
          cases q5:ixN ds.length kk with
          | none=>rw [q5] at y;cases y
          | some j=>
           rw [q5] at y
           cases y
           have ed:=B9 q4
           subst ed
           obtain ⟨Φ,f⟩:=r
           refine h ρ σ S H _ d ⟨A,Λ,Φ,f⟩ q fun u S0 H0 z0 d0=>?_
           have f0:=f.ext z0
           refine hp ρ σ S0 H0 _ is o _ ⟨A,Λ,Φ,f0⟩ q0 q1 q3 fun v w S1 H1 ev z1 wk=>?_
           have f1:=f0.ext z1
           refine hi ρ σ S1 H1 _ _ ⟨A,Λ,Φ,f1⟩ q2 fun w2 S2 H2 z2 d2=>?_
           have f2:=f1.ext z2
           obtain ⟨a',xs',g1,rfl,hx',hw',nd1,in1,up⟩:=f2.at q0 q3 ev (wk.mono (z2.same f1.sub))
           obtain ⟨hd,rfl⟩:=pq hw'
           refine ⟨a',xs',kk,j,rfl,d2.int,hx',by rw [<- hd.length];exact q5,?_⟩
           exact k σ S2 _ (up ((ds.set j d).map .sh) (xs'.set j u) [] (fun H' ne=>uc (hd.set j ((d0.mono z1.sh).mono z2.sh))) nd1 fun b hb=>by cases hb) ((z0.sh.trans z1.sh).trans z2.sh)
        | _=>cases y
@[simp] def EF (i:Nat) (e:XE) (f:D -> D -> Option D):XS:=fun ρ=>match ρ[i]? with
 | some (.sh x)=>(e ρ).bind fun y=>(f x y).map fun z=>.nx (ρ.set i (.sh z))
 | _=>none
theorem MI {te:TE} {e:XE} {i:Nat} {ti:TIp} {f:D -> D -> Option D} (h:SPk K te e) (hr:SR2 K ti f):SS K (Me i te ti) (EF i e f):=fun A Λ ρ σ S H E o r y k=>by
 unfold EF at y
 cases q0:ρ[i]? with
 | none=>rw [q0] at y;cases y
 | some s=>
  rw [q0] at y
  cases s with
  | un=>cases y
  | lo=>cases y
  | ow d=>cases y
  | sh x=>
   dsimp only at y
   cases q:e ρ with
   | none=>rw [q] at y;cases y
   | some d=>
    rw [q] at y
    dsimp only [Option.bind] at y
    cases q2:f x d with
    | none=>rw [q2] at y;cases y
    | some g=>
     rw [q2] at y
     cases y
     obtain ⟨v,h1,h2⟩:=r.sh i x q0
     refine ⟨v,h1,h ρ σ S H _ d r.toRl q fun w S1 H1 z1 d1=>?_⟩
     exact hr S1 H1 v w x d g _ z1.sub (.inl (h2.mono z1.sh)) d1 q2 fun u S2 H2 z2 d2=>k _ S2 H2 ((r.ext (z1.trans z2)).set i d2) (z1.sh.trans z2.sh)
@[simp] def N7 (e:XE):XS:=fun ρ=>(e ρ).map fun _=>.nx ρ
end
section
variable {K:W.Frag} {S S' H H':Hp}
def Walks (K:W.Frag) (J:It) (S:Hp) (l:List D):Prop:=∀ S' H',Same S S' -> Same S' H' ->
 (∀ i d,l[i]? = some d -> J.go i H' /\ ∀ x H'',J.yld i H' x H'' -> H'' = H' /\ Den K S' d x) /\ J.stop l.length H'
def SI (K:W.Frag) (wi:TI) (e:XA):Prop:=∀ ρ σ S H (R:It -> Hp -> Prop) l,Rl K ρ σ S H -> e ρ = some l -> (∀ J S' H',Ext S H S' H' -> Walks K J S' l -> R J H') -> wi σ H R
def BP:D -> Option (List D)
 | .lst l=>some l | .tup l=>some l | .scr l=>some l | .mtp l=>some l | _=>none
def Ku (K:W.Frag) (J:It) (S H:Hp) (l:List D):Prop:=∀ S' H',Ext S H S' H' ->
 (∀ i d,l[i]? = some d -> J.go i H' /\ ∀ x H'',J.yld i H' x H'' -> H'' = H' /\ Den K S' d x) /\ J.stop l.length H'
def SIP (K:W.Frag) (wi:TI) (e:XA):Prop:=∀ ρ σ S H (R:It -> Hp -> Prop) l,Rl K ρ σ S H -> e ρ = some l -> (∀ J S' H',Ext S H S' H' -> Ku K J S' H' l -> R J H') -> wi σ H R
theorem SI.p {wi:TI} {e:XA} (h:SI K wi e):SIP K wi e:=fun ρ σ S H R l r x k=>h ρ σ S H R l r x fun J S' H' z w=>k J S' H' z fun S2 H2 z2=>w S2 H2 z2.sh z2.sub
@[simp] def xIt (e:XE):XA:=fun ρ=>(e ρ).bind BP
theorem Mu {tl:TE} {e:XE} (h:SE K tl e):SI K (Kp K tl) (xIt e):=fun ρ σ S H R l r x k=>by
 unfold xIt at x
 cases q:e ρ with
 | none=>rw [q] at x;cases x
 | some d=>
  rw [q] at x
  dsimp only [Option.bind] at x
  refine h ρ σ S H _ d r q fun v S1 H1 z1 d1=>?_
  cases d with
  | lst l'=>
   cases x
   obtain ⟨p,xs,rfl,h1,h2⟩:=den_lst.mp d1
   refine ⟨p,rfl,.inl ⟨⟨xs,.inl (et z1.sub h1)⟩,k _ S1 H1 z1 fun S' H' s1 s2=>⟨fun i d hd=>?_,xs,.inl (et (s1.trans s2) h1),Qp h2.length.symm⟩⟩⟩
   obtain ⟨y,e1,e2⟩:=h2.get hd
   refine ⟨⟨xs,y,.inl (et (s1.trans s2) h1),e1⟩,fun x H'' hy=>⟨hy.1,?_⟩⟩
   have:=hy.2 xs (.inl (et (s1.trans s2) h1))
   rw [e1] at this
   cases this
   exact e2.mono s1
  | tup l'=>
   cases x
   obtain ⟨p,xs,rfl,h1,h2⟩:=jn d1
   refine ⟨p,rfl,.inr ⟨⟨xs,bf z1.sub h1⟩,k _ S1 H1 z1 fun S' H' s1 s2=>⟨fun i d hd=>?_,xs,bf (s1.trans s2) h1,Qp h2.length.symm⟩⟩⟩
   obtain ⟨y,e1,e2⟩:=h2.get hd
   refine ⟨⟨xs,y,bf (s1.trans s2) h1,e1⟩,fun x H'' hy=>⟨hy.1,?_⟩⟩
   have:=hy.2 xs (bf (s1.trans s2) h1)
   rw [e1] at this
   cases this
   exact e2.mono s1
  | mtp l'=>
   cases x
   obtain ⟨p,xs,rfl,h1,h2⟩:=den_mtp.mp d1
   refine ⟨p,rfl,.inr ⟨⟨xs,bf z1.sub h1⟩,k _ S1 H1 z1 fun S' H' s1 s2=>⟨fun i d hd=>?_,xs,bf (s1.trans s2) h1,Qp h2.length.symm⟩⟩⟩
   obtain ⟨y,e1,e2⟩:=h2.get hd
   refine ⟨⟨xs,y,bf (s1.trans s2) h1,e1⟩,fun x H'' hy=>⟨hy.1,?_⟩⟩
   have:=hy.2 xs (bf (s1.trans s2) h1)
   rw [e1] at this
   cases this
   exact e2.mono s1
  | scr l'=>
   cases x
   obtain ⟨p,xs,rfl,h1,h2⟩:=den_scr.mp d1
   refine ⟨p,rfl,.inl ⟨⟨xs,fg z1.sub h1⟩,k _ S1 H1 z1 fun S' H' s1 s2=>⟨fun i d hd=>?_,xs,fg (s1.trans s2) h1,Qp h2.length.symm⟩⟩⟩
   obtain ⟨y,e1,e2⟩:=h2.get hd
   refine ⟨⟨xs,y,fg (s1.trans s2) h1,e1⟩,fun x H'' hy=>⟨hy.1,?_⟩⟩
   have:=hy.2 xs (fg (s1.trans s2) h1)
   rw [e1] at this
   cases this
   exact e2.mono s1
  | _=>cases x
def ifC {α:Type} (p:Prop) (a b:α):α:=@ite α p (Classical.propDecidable p) a b
theorem jJ {α:Type} {p:Prop} {a b:α} (h:p):ifC p a b = a:=by unfold ifC;exact Pb h
theorem nj {α:Type} {p:Prop} {a x:α} (h:ifC p (some a) none = some x):p /\ a = x:=by
 unfold ifC at h
 by_cases c:p
 ·rw [Pb c] at h;exact ⟨c,P6 h⟩
 ·rw [Pc c] at h;cases h
theorem KQ {tl:TE} {e:XE} (h:SPk K tl e):SIP K (Kp K tl) (xIt e):=fun ρ σ S H R l r x k=>by
 unfold xIt at x
 cases q:e ρ with
 | none=>rw [q] at x;cases x
 | some d=>
  rw [q] at x
  dsimp only [Option.bind] at x
  refine h ρ σ S H _ d r q fun v S1 H1 z1 d1=>?_
  rcases d1 with d1 | ⟨l',p,xs,rfl,rfl,hx,dx⟩
  ·cases d with
   | lst l'=>
    cases x
    obtain ⟨p,xs,rfl,h1,h2⟩:=den_lst.mp d1
    refine ⟨p,rfl,.inl ⟨⟨xs,.inl (et z1.sub h1)⟩,k _ S1 H1 z1 fun S' H' z2=>⟨fun i d hd=>?_,xs,.inl (et (z2.sh.trans z2.sub) h1),Qp h2.length.symm⟩⟩⟩
    obtain ⟨y,e1,e2⟩:=h2.get hd
    refine ⟨⟨xs,y,.inl (et (z2.sh.trans z2.sub) h1),e1⟩,fun x H'' hy=>⟨hy.1,?_⟩⟩
    have:=hy.2 xs (.inl (et (z2.sh.trans z2.sub) h1))
    rw [e1] at this
    cases this
    exact e2.mono z2.sh
   | tup l'=>
    cases x
    obtain ⟨p,xs,rfl,h1,h2⟩:=jn d1
    refine ⟨p,rfl,.inr ⟨⟨xs,bf z1.sub h1⟩,k _ S1 H1 z1 fun S' H' z2=>⟨fun i d hd=>?_,xs,bf (z2.sh.trans z2.sub) h1,Qp h2.length.symm⟩⟩⟩
    obtain ⟨y,e1,e2⟩:=h2.get hd
    refine ⟨⟨xs,y,bf (z2.sh.trans z2.sub) h1,e1⟩,fun x H'' hy=>⟨hy.1,?_⟩⟩
    have:=hy.2 xs (bf (z2.sh.trans z2.sub) h1)
    rw [e1] at this
    cases this
    exact e2.mono z2.sh
   | mtp l'=>
    cases x
    obtain ⟨p,xs,rfl,h1,h2⟩:=den_mtp.mp d1
    refine ⟨p,rfl,.inr ⟨⟨xs,bf z1.sub h1⟩,k _ S1 H1 z1 fun S' H' z2=>⟨fun i d hd=>?_,xs,bf (z2.sh.trans z2.sub) h1,Qp h2.length.symm⟩⟩⟩
    obtain ⟨y,e1,e2⟩:=h2.get hd
    refine ⟨⟨xs,y,bf (z2.sh.trans z2.sub) h1,e1⟩,fun x H'' hy=>⟨hy.1,?_⟩⟩
    have:=hy.2 xs (bf (z2.sh.trans z2.sub) h1)
    rw [e1] at this
    cases this
    exact e2.mono z2.sh
   | scr l'=>
    cases x
    obtain ⟨p,xs,rfl,h1,h2⟩:=den_scr.mp d1
    refine ⟨p,rfl,.inl ⟨⟨xs,fg z1.sub h1⟩,k _ S1 H1 z1 fun S' H' z2=>⟨fun i d hd=>?_,xs,fg (z2.sh.trans z2.sub) h1,Qp h2.length.symm⟩⟩⟩
    obtain ⟨y,e1,e2⟩:=h2.get hd
    refine ⟨⟨xs,y,fg (z2.sh.trans z2.sub) h1,e1⟩,fun x H'' hy=>⟨hy.1,?_⟩⟩
    have:=hy.2 xs (fg (z2.sh.trans z2.sub) h1)
    rw [e1] at this
    cases this
    exact e2.mono z2.sh
   | _=>cases x
  ·cases x
   refine ⟨p,rfl,.inl ⟨⟨xs,SqL.of hx⟩,k _ S1 H1 z1 fun S' H' z2=>?_⟩⟩
   have hx2:H' p = some (.lst xs):=z2.same z1.sub _ _ hx
   refine ⟨fun i d hd=>?_,xs,SqL.of hx2,Qp dx.length.symm⟩
   obtain ⟨y,e1,e2⟩:=dx.get hd
   refine ⟨⟨xs,y,SqL.of hx2,e1⟩,fun x H'' hy=>⟨hy.1,?_⟩⟩
   have:=hy.2 xs (SqL.of hx2)
   rw [e1] at this
   cases this
   exact e2.mono z2.sh
def fc (lo:Int):Nat -> List D
 | 0=>[]
 | n + 1=>.int lo :: fc (lo + 1) n
theorem rG:∀ (n:Nat) (lo:Int) (i:Nat) (d:D),(fc lo n)[i]? = some d -> i < n /\ d = .int (lo + i)
 | 0,_,_,_,h=>by simp [fc] at h
 | n + 1,lo,0,d,h=>by simp [fc] at h;exact ⟨Nat.succ_pos _,by rw [<- h];simp⟩
 | n + 1,lo,i + 1,d,h=>by
  obtain ⟨h1,h2⟩:=rG n (lo + 1) i d (by simpa [fc] using h)
  exact ⟨Nat.succ_lt_succ h1,by rw [h2];congr 1;lia⟩
theorem rE:∀ (n:Nat) (lo:Int),(fc lo n).length = n
 | 0,_=>rfl
 | n + 1,lo=>by rw [fc,Pw,rE n]
theorem ED (lo:Int) (n:Nat):Walks K (Itr lo n) S (fc lo n):=fun S' H' _ _=>⟨fun i d h=>by
 obtain ⟨h1,rfl⟩:=rG n lo i d h
 exact ⟨h1,fun x H'' y=>⟨y.1,den_int.mpr y.2⟩⟩,by rw [rE];exact Pj _⟩
def IE:List D -> Option (List D)
 | [.int j]=>ifC (j < 1000000 /\ -1000000 < j) (some (fc 0 j.toNat)) none
 | [.int i,.int j]=>ifC (j < 4000000000000000000 /\ -4000000000000000000 < i /\ i < 4000000000000000000 /\ -4000000000000000000 < j) (some (fc i (j - i).toNat)) none
 | _=>none
@[simp] def Ir (a:XA):XA:=fun ρ=>(a ρ).bind IE
theorem K0 {ta:TE} {a:XE} (h:SPk K ta a):SI K (Jk (gW ta rh)) (Ir (af a ao)):=fun ρ σ S H R l r x k=>by
 unfold Ir at x
 cases q:af a ao ρ with
 | none=>rw [q] at x;cases x
 | some ds=>
  rw [q] at x
  obtain ⟨d,e,qa,qb,rfl⟩:=qB q
  cases qb
  cases d with
  | int j=>
   have x':ifC (j < 1000000 /\ -1000000 < j) (some (fc 0 j.toNat)) none = some l:=x
   obtain ⟨hj,rfl⟩:=nj x'
   refine h ρ σ S H _ _ r qa fun v S1 H1 z1 d1=>?_
   refine ⟨j,by rw [d1.int],?_,?_,k _ S1 H1 z1 (ED 0 _)⟩
   ·have:(2:Int) ^ 62 = 4611686018427387904:=by decide
    lia
   ·have:(2:Int) ^ 62 = 4611686018427387904:=by decide
    lia
  | _=>cases x
def gv:Nat -> Nat -> List D
 | _,0=>[]
 | k,n + 1=>.int (2 * k) :: gv (k + 1) n
theorem wb:∀ (n k i:Nat) (d:D),(gv k n)[i]? = some d -> i < n /\ d = .int (2 * ((k + i:Nat):Int))
 | 0,_,_,_,h=>by simp [gv] at h
 | n + 1,k,0,d,h=>by simp [gv] at h;exact ⟨Nat.succ_pos _,by rw [<- h];simp⟩
 | n + 1,k,i + 1,d,h=>by
  obtain ⟨h1,h2⟩:=wb n (k + 1) i d (by simpa [gv] using h)
  exact ⟨Nat.succ_lt_succ h1,by rw [h2];congr 1;lia⟩
theorem oI:∀ (n k:Nat),(gv k n).length = n
 | 0,_=>rfl
 | n + 1,k=>by rw [gv,Pw,oI n]
def Cu:List D -> Option (List D)
 | [.int a,.int j,.int b]=>ifC (a = 0 /\ b = 2 /\ 0 <= j /\ j < 1000000) (some (gv 0 ((j + 1) / 2).toNat)) none
 | _=>none
@[simp] def FH (a:XA):XA:=fun ρ=>(a ρ).bind Cu
theorem KL {t:TA} {a:XA} (h:SAP K t a):SI K (Jp t) (FH a):=fun ρ σ S H R l r x k=>by
 unfold FH at x
 cases q:a ρ with
 | none=>rw [q] at x;cases x
 | some ds=>
  rw [q] at x
  dsimp only [Option.bind] at x
  unfold Cu at x
  split at x
  ·rename_i aa j bb
   obtain ⟨⟨rfl,rfl,hj1,hj2⟩,rfl⟩:=nj x
   refine h ρ σ S H _ _ r q fun vs S1 H1 z1 d1=>?_
   cases d1 with
   | cons a1 d1=>cases d1 with
    | cons a2 d1=>cases d1 with
     | cons a3 d1=>
      cases d1
      refine ⟨j,by rw [a1.int,a2.int,a3.int],hj1,hj2,k _ S1 H1 z1 fun S' H' _ _=>⟨fun i d h=>?_,by rw [oI];exact Pj _⟩⟩
      obtain ⟨h1,rfl⟩:=wb _ 0 i d h
      exact ⟨h1,fun x H'' y=>⟨y.1,den_int.mpr (by rw [y.2,QP])⟩⟩
  ·cases x
def iq (g:XG) (m:XS):List D -> Env -> Option Out
 | [],ρ=>some (.nx ρ)
 | d :: l,ρ=>(g d ρ).bind fun ρ1=>match m ρ1 with
  | some (.nx ρ2)=>iq g m l ρ2
  | some (.ct ρ2)=>iq g m l ρ2
  | some (.bk ρ2)=>some (.nx ρ2)
  | some (.rt d)=>some (.rt d)
  | some (.ro d)=>some (.ro d)
  | none=>none
@[simp] def qu (e:XA) (g:XG) (m:XS):XS:=fun ρ=>(e ρ).bind fun l=>iq g m l ρ
theorem zp {l:List D} {i:Nat} {d:D} (h:l[i]? = some d):l.drop i = d :: l.drop (i + 1):=by
 obtain ⟨h1,rfl⟩:=PF.mp h
 exact Rr h1
theorem MB {wi:TI} {g:TG} {tb:TS} {e:XA} {x:XG} {m:XS} (hi:SI K wi e) (hg:SG K g x) (hb:SS K tb m):SS K (Lp wi g tb) (qu e x m):=fun A Λ ρ σ S H E o r y k=>by
 unfold qu at y
 cases q:e ρ with
 | none=>rw [q] at y;cases y
 | some l=>
  rw [q] at y
  dsimp only [Option.bind] at y
  refine hi ρ σ S H _ l r.toRl q fun J S1 H1 z1 wk=>?_
  have r1:=r.ext z1
  refine ⟨fun i n σ' H'=>n = l.length - i /\ i <= l.length /\ ∃ ρ' S',RlA K A Λ ρ' σ' S' H' /\ Same S1 S' /\ iq x m (l.drop i) ρ' = some o,⟨_,rfl,P8 _,ρ,S1,r1,Same.refl _,y⟩,?_⟩
  rintro i n σ2 H2 ⟨rfl,hil,ρ2,S2,r2,s2,y2⟩
  obtain ⟨w1,w2⟩:=wk S2 H2 s2 r2.sub
  cases qd:l[i]? with
  | none=>
   have:l.length = i:=by have:=Rz.mp qd;lia
   subst this
   rw [QY (Pj _)] at y2
   cases y2
   exact .inl ⟨w2,k σ2 S2 H2 r2 (z1.sh.trans s2)⟩
  | some d=>
   obtain ⟨g1,g2⟩:=w1 i d qd
   have hlt:=(PF.mp qd).1
   rw [zp qd] at y2
   unfold iq at y2
   cases qx:x d ρ2 with
   | none=>rw [qx] at y2;cases y2
   | some ρ3=>
    rw [qx] at y2
    dsimp only [Option.bind] at y2
    refine .inr ⟨g1,fun σ' H'=>∃ ρ' S',RlA K A Λ ρ' σ' S' H' /\ Same S1 S' /\ iq x m (l.drop (i + 1)) ρ' = some o,fun σ' H' ⟨ρ',S',a1,a2,a3⟩=>⟨_,by lia,rfl,hlt,ρ',S',a1,a2,a3⟩,fun xv H3 hy=>?_⟩
    obtain ⟨rfl,dx⟩:=g2 xv H3 hy
    refine hg A Λ ρ2 σ2 S2 H3 xv d _ ρ3 r2 dx qx fun σ3 r3=>?_
    cases qm:m ρ3 with
    | none=>rw [qm] at y2;cases y2
    | some om=>
     rw [qm] at y2
     refine hb A Λ ρ3 σ3 S2 H3 _ om r3 qm ?_
     cases om with
     | nx ρ4=>exact fun σ4 S4 H4 r4 s4=>⟨ρ4,S4,r4,s2.trans s4,y2⟩
     | ct ρ4=>exact fun σ4 S4 H4 r4 s4=>⟨ρ4,S4,r4,s2.trans s4,y2⟩
     | bk ρ4=>cases y2;exact fun σ4 S4 H4 r4 s4=>k σ4 S4 H4 r4 ((z1.sh.trans s2).trans s4)
     | rt d4=>cases y2;exact fun v S4 H4 s4=>k v S4 H4 ((z1.sh.trans s2).trans s4)
     | ro d4=>cases y2;exact fun v fp S4 H4 s4=>k v fp S4 H4 ((z1.sh.trans s2).trans s4)
def cR (c:XT) (m:XS):Nat -> Env -> Option Out
 | 0,_=>none
 | n + 1,ρ=>(c ρ).bind fun b=>if b = true then (match m ρ with
  | some (.nx ρ2)=>cR c m n ρ2
  | some (.ct ρ2)=>cR c m n ρ2
  | some (.bk ρ2)=>some (.nx ρ2)
  | some (.rt d)=>some (.rt d)
  | some (.ro d)=>some (.ro d)
  | none=>none) else some (.nx ρ)
theorem ny (c:XT) (m:XS):∀ (n:Nat) (ρ:Env) (o:Out),cR c m n ρ = some o -> cR c m (n + 1) ρ = some o
 | 0,_,_,h=>by cases h
 | n + 1,ρ,o,h=>by
  unfold cR at h ⊢
  cases qc:c ρ with
  | none=>rw [qc] at h;cases h
  | some b=>
   rw [qc] at h
   dsimp only [Option.bind] at h ⊢
   cases b with
   | false=>exact h
   | true=>
    rw [Pb rfl] at h ⊢
    cases qm:m ρ with
    | none=>rw [qm] at h;cases h
    | some om=>
     rw [qm] at h
     cases om with
     | nx ρ2=>exact ny c m n ρ2 o h
     | ct ρ2=>exact ny c m n ρ2 o h
     | bk ρ2=>exact h
     | rt d=>exact h
     | ro d=>exact h
theorem oW (c:XT) (m:XS) (n:Nat) (ρ:Env) (o:Out) (h:cR c m n ρ = some o):∀ k,cR c m (n + k) ρ = some o
 | 0=>h
 | k + 1=>ny c m (n + k) ρ o (oW c m n ρ o h k)
def pW (c:XT) (m:XS):XS:=fun ρ=>by
 classical
 exact if h:∃ o n,cR c m n ρ = some o then some h.choose else none
def dZ (c:XT) (m:XS):XS:=fun ρ=>(cR c m 64 ρ).or (pW c m ρ)
theorem vx {c:XT} {m:XS} {ρ:Env} {o o':Out} {n k:Nat} (h:cR c m n ρ = some o) (h':cR c m k ρ = some o'):o' = o:=by
 have h3:=oW c m n ρ o h k
 have h4:=oW c m k ρ _ h' n
 rw [Nat.add_comm k n,h3] at h4
 exact (P6 h4).symm
theorem xl {c:XT} {m:XS} {n:Nat} {ρ:Env} {o:Out} (h:cR c m n ρ = some o):dZ c m ρ = some o:=by
 unfold dZ
 cases q:cR c m 64 ρ with
 | some o'=>exact PQ some (vx h q)
 | none=>
  have hx:∃ o n,cR c m n ρ = some o:=⟨o,n,h⟩
  show pW c m ρ = some o
  unfold pW
  rw [dif_pos hx]
  obtain ⟨n2,h2⟩:=hx.choose_spec
  exact PQ some (vx h h2)
theorem xf {c:XT} {m:XS} {ρ:Env} {o:Out} (h:dZ c m ρ = some o):∃ n,cR c m n ρ = some o:=by
 unfold dZ at h
 cases q:cR c m 64 ρ with
 | some o'=>rw [q] at h;exact ⟨64,q.trans h⟩
 | none=>
  rw [q] at h
  have h:pW c m ρ = some o:=h
  unfold pW at h
  split at h
  ·rename_i hx
   cases h
   exact hx.choose_spec
  ·cases h
theorem uu {c:XT} {m:XS} {ρ:Env} (h:c ρ = some false):dZ c m ρ = some (.nx ρ):=xl (n:=1) (by unfold cR;rw [h];rfl)
theorem tf {c:XT} {m:XS} {ρ ρ2:Env} {o:Out} (h:c ρ = some true) (hm:m ρ = some (.nx ρ2)) (k:dZ c m ρ2 = some o):dZ c m ρ = some o:=by
 obtain ⟨n,hn⟩:=xf k
 exact xl (n:=n + 1) (by unfold cR;rw [h,hm];exact hn)
theorem HK {tc:TT} {tb:TS} {c:XT} {m:XS} (hc:ST K tc c) (hb:SS K tb m):SS K (Gy tc tb) (dZ c m):=fun A Λ ρ σ S H E o r y k=>by
 obtain ⟨n,hn⟩:=xf y
 refine ⟨fun n σ' H'=>∃ ρ' S',RlA K A Λ ρ' σ' S' H' /\ Same S S' /\ cR c m n ρ' = some o,⟨n,ρ,S,r,Same.refl _,hn⟩,?_⟩
 rintro n σ1 H1 ⟨ρ1,S1,r1,s1,h1⟩
 cases n with
 | zero=>cases h1
 | succ n=>
  unfold cR at h1
  cases qc:c ρ1 with
  | none=>rw [qc] at h1;cases h1
  | some b=>
   rw [qc] at h1
   dsimp only [Option.bind] at h1
   refine hc ρ1 σ1 S1 H1 _ b r1.toRl qc fun S2 H2 z2=>?_
   have r2:=r1.ext z2
   cases b with
   | false=>
    rw [Pc (by decide)] at h1
    cases h1
    exact Cd (k σ1 S2 H2 r2 (s1.trans z2.sh))
   | true=>
    rw [Pb rfl] at h1
    refine BA ⟨fun σ' H'=>∃ ρ' S',RlA K A Λ ρ' σ' S' H' /\ Same S S' /\ cR c m n ρ' = some o,fun σ' H' a=>⟨n,Q2 _,a⟩,?_⟩
    cases qm:m ρ1 with
    | none=>rw [qm] at h1;cases h1
    | some om=>
     rw [qm] at h1
     refine hb A Λ ρ1 σ1 S2 H2 _ om r2 qm ?_
     cases om with
     | nx ρ4=>exact fun σ4 S4 H4 r4 s4=>⟨ρ4,S4,r4,(s1.trans z2.sh).trans s4,h1⟩
     | ct ρ4=>exact fun σ4 S4 H4 r4 s4=>⟨ρ4,S4,r4,(s1.trans z2.sh).trans s4,h1⟩
     | bk ρ4=>cases h1;exact fun σ4 S4 H4 r4 s4=>k σ4 S4 H4 r4 ((s1.trans z2.sh).trans s4)
     | rt d4=>cases h1;exact fun v S4 H4 s4=>k v S4 H4 ((s1.trans z2.sh).trans s4)
     | ro d4=>cases h1;exact fun v fp S4 H4 s4=>k v fp S4 H4 ((s1.trans z2.sh).trans s4)
@[simp] def yv (js:List (Option Nat)) (ρ:Env):Env:=js.map fun o=>match o with | none=>.un | some j=>match ρ[j]? with | some (.sh d)=>.sh d | _=>.un
def bV (g:XG) (c:XT) (e:XE) (ρ0:Env):List D -> Option (List D)
 | []=>some []
 | d :: l=>(g d ρ0).bind fun ρ1=>(c ρ1).bind fun b=>if b = true then (e ρ1).bind fun y=>(bV g c e ρ0 l).map fun r=>y :: r else bV g c e ρ0 l
@[simp] def c0 (js:List (Option Nat)) (w:XA) (g:XG) (c:XT) (e:XE):XA:=fun ρ=>(w ρ).bind fun l=>if l.length <= LIM then bV g c e (yv js ρ) l else none
@[simp] def cU:XT:=fun _=>some true
theorem LI:ST K IU cU:=fun ρ σ S H Q b r x k=>by cases x;exact k S H (Ext.refl r.sub)
theorem pY {js:List (Option Nat)} {ρ:Env} {i:Nat} {s:Sl} (h:(yv js ρ)[i]? = some s):s = .un \/ ∃ d j,s = .sh d /\ js[i]? = some (some j) /\ ρ[j]? = some (.sh d):=by
 unfold yv at h
 rw [PN] at h
 cases q:js[i]? with
 | none=>rw [q] at h;cases h
 | some o=>
  rw [q] at h
  cases o with
  | none=>cases h;exact .inl rfl
  | some j=>
   simp only [Option.map_some] at h
   cases q2:ρ[j]? with
   | none=>rw [q2] at h;cases h;exact .inl rfl
   | some s2=>
    rw [q2] at h
    cases s2 with
    | un=>cases h;exact .inl rfl
    | lo=>cases h;exact .inl rfl
    | ow l=>cases h;exact .inl rfl
    | sh d=>cases h;exact .inr ⟨d,j,rfl,rfl,q2⟩
def lN (S H:Hp):Hp:=fun b=>match S b with | none=>H b | some _=>none
theorem xr {S H:Hp}:Same (lN S H) H:=fun b o h=>by
 unfold lN at h
 cases q:S b with
 | none=>rw [q] at h;exact h
 | some _=>rw [q] at h;cases h
theorem xE {S H:Hp} (b:Addr):S b = none \/ lN S H b = none:=by
 unfold lN
 cases q:S b with
 | none=>exact .inl rfl
 | some _=>exact .inr rfl
theorem u8 {S H:Hp} {b:Addr} {o:HO} (h:H b = some o) (n:S b = none):lN S H b = some o:=by
 unfold lN
 rw [n]
 exact h
theorem Jv {ρ:Env} {σ:St} (r:Rl K ρ σ S H) (js:List (Option Nat)):RlA K (lN S H) (fun _=>none) (yv js ρ) (inn js σ) S H:=by
 refine ⟨fun _=>[],?_⟩
 exact {
  len:=by unfold yv inn;rw [Ph,Ph]
  sub:=r.sub
  sh:=fun i d h=>by
   rcases pY h with e | ⟨d',j,e,h1,h2⟩
   ·cases e
   ·cases e
    obtain ⟨v,k1,k2⟩:=r.sh j d h2
    refine ⟨v,?_,k2⟩
    unfold inn
    rw [PN,h1]
    show some ((σ[j]?).join) = some (some v)
    rw [k1]
    rfl
  ow:=fun i o h=>by
   rcases pY h with e | ⟨d',j,e,h1,h2⟩
   ·cases e
   ·cases e
  dj:=fun i j o o' _ h=>by
   rcases pY h with e | ⟨d',j,e,h1,h2⟩
   ·cases e
   ·cases e
  lo:=fun i h=>by
   rcases pY h with e | ⟨d',j,e,h1,h2⟩
   ·cases e
   ·cases e
  asub:=xr
  adis:=xE }
theorem Kc {js:List (Option Nat)} {wi:TI} {g:TG} {tt:TIf} {te:TE} {w:XA} {x:XG} {c:XT} {e:XE} (hi:SIP K wi w) (hg:SG K g x) (hc:ST K tt c) (he:SE K te e):SF K (CT js wi g tt te) (c0 js w x c e):=fun ρ σ S H Q l r y k=>by
 unfold c0 at y
 cases q:w ρ with
 | none=>rw [q] at y;cases y
 | some ds=>
  rw [q] at y
  dsimp only [Option.bind] at y
  split at y
  ·rename_i hlim
   refine hi ρ σ S H _ ds r q fun J S1 H1 z1 wk D hD=>?_
   have r1:=r.ext z1
   have hD0:H D = none:=(z1.same r.sub).free hD
   -- the word: what is told so far,what is still to be told
   refine ⟨fun i n H'=>n = ds.length - i /\ i <= ds.length /\ ∃ S' done ys rest,Ext S1 H1 S' H' /\ Same S1 S' /\ H' D = some (.lst ys) /\ S' D = none /\ Dens K S' done ys /\ done.length <= i /\ bV x c e (yv js ρ) (ds.drop i) = some rest /\ l = done ++ rest,
    ⟨_,rfl,P8 _,S1,[],[],l,Ext.own z1.sub hD,Same.refl _,aY,z1.sub.free hD,.nil,P8 _,y,rfl⟩,?_⟩
   rintro i n H2 ⟨rfl,hil,S2,done,ys,rest,z2,s2,hy,hSD,dy,hdl,y2,rfl⟩
   obtain ⟨w1,w2⟩:=wk S2 H2 z2
   cases qd:ds[i]? with
   | none=>
    have:ds.length = i:=by have:=Rz.mp qd;lia
    subst this
    rw [QY (Pj _)] at y2
    cases y2
    rw [Qa] at k
    exact .inl ⟨w2,k D ys S2 H2 (z1.trans z2) hD0 hSD hy dy⟩
   | some d=>
    obtain ⟨g1,g2⟩:=w1 i d qd
    have hlt:=(PF.mp qd).1
    rw [zp qd] at y2
    unfold bV at y2
    cases qx:x d (yv js ρ) with
    | none=>rw [qx] at y2;cases y2
    | some ρ3=>
     rw [qx] at y2
     dsimp only [Option.bind] at y2
     refine .inr ⟨g1,fun xv H3 hyl=>?_⟩
     obtain ⟨rfl,dx⟩:=g2 xv H3 hyl
     have ri:=Jv (r1.ext z2) js
     refine hg _ _ _ _ S2 H3 xv d _ ρ3 ri dx qx fun σ3 r3=>?_
     cases qc:c ρ3 with
     | none=>rw [qc] at y2;cases y2
     | some b=>
      rw [qc] at y2
      dsimp only at y2
      refine hc ρ3 σ3 S2 H3 _ b r3.toRl qc fun S4 H4 z4=>?_
      obtain ⟨al1,al2⟩:=z4.al D _ hy hSD
      cases b with
      | false=>
       rw [Pc (by decide)] at y2
       exact Cd ⟨_,by lia,rfl,hlt,S4,done,ys,rest,z2.trans z4,s2.trans z4.sh,al1,al2,dy.mono z4.sh,by lia,y2,rfl⟩
      | true=>
       rw [Pb rfl] at y2
       cases qe:e ρ3 with
       | none=>rw [qe] at y2;cases y2
       | some dv=>
        rw [qe] at y2
        dsimp only at y2
        cases qr:bV x c e (yv js ρ) (ds.drop (i + 1)) with
        | none=>rw [qr] at y2;cases y2
        | some rest2=>
         rw [qr] at y2
         cases y2
         refine BA (he ρ3 σ3 S4 H4 _ dv (r3.toRl.ext z4) qe fun v S5 H5 z5 d5=>?_)
         obtain ⟨b1,b2⟩:=z5.al D _ al1 al2
         refine ⟨ys,b1,?_,_,by lia,rfl,hlt,S5,done ++ [dv],ys ++ [v],rest2,?_,(s2.trans z4.sh).trans z5.sh,aY,b2,((dy.mono z4.sh).mono z5.sh).append (.cons d5 .nil),by rw [Ps,Qm];lia,qr,by rw [PZ];rfl⟩
         ·rw [<- dy.length]
          exact PY (QG hdl hlt) (PR hlim (Ql lh))
         ·have z6:=(z2.trans z4).trans z5
          exact ⟨z6.sh,fun b u hb=>by rw [aP fun z=>by subst z;rw [b2] at hb;cases hb];exact z6.sub b u hb,fun b o hb hn=>by
           obtain ⟨c1,c2⟩:=z6.al b o hb hn
           exact ⟨by rw [aP fun z=>by subst z;rw [hD] at hb;cases hb];exact c1,c2⟩⟩
  ·cases y
@[simp] def N5 (i:Nat) (g:XG) (m:XS):XS:=fun ρ=>match ρ[i]? with
 | some (.ow (.lst os))=>(match shs os with
  | some l=>(match iq g m l (ρ.set i .lo) with
   | some (.nx ρ')=>(match ρ'[i]? with | some .lo=>some (.nx (ρ'.set i (.ow (.lst os)))) | _=>none)
   | some (.rt d)=>some (.rt d)
   | _=>none)
  | none=>none)
 | _=>none
def fnO (n:Nat) (x:XS) (ds:List D):Option O:=match x (ds.map .sh ++ List.replicate (n - ds.length) .un) with
 | some (.rt d)=>some (.sh d)
 | some (.ro o)=>some o
 | some (.nx _)=>some (.sh .non)
 | _=>none
theorem zH {N:List Str} {ds:List D} {vs:List V} (s:Same S H) (h:Dens K S ds vs):RlA K (lN S H) (fun _=>none) (ds.map .sh ++ List.replicate (N.length - ds.length) .un) (L2.aV N vs) S H:=by
 have hl:=h.length
 have key:∀ (i:Nat) t,(ds.map Sl.sh ++ List.replicate (N.length - ds.length) .un)[i]? = some t -> t = .un \/ ∃ d v,t = .sh d /\ (L2.aV N vs)[i]? = some (some v) /\ Den K S d v:=fun i t ht=>by
  by_cases hi:i < ds.length
  ·rw [Ro (by rw [Ph];exact hi),PN] at ht
   cases q:ds[i]? with
   | none=>rw [q] at ht;cases ht
   | some d=>
    rw [q] at ht
    cases ht
    obtain ⟨v,e1,e2⟩:=h.get q
    refine .inr ⟨d,v,rfl,?_,e2⟩
    unfold L2.aV
    rw [Ro (by rw [Ph];lia),PN,e1]
    rfl
  ·rw [Q4 (by rw [Ph];lia),List.getElem?_replicate] at ht
   split at ht
   ·cases ht;exact .inl rfl
   ·cases ht
 refine ⟨fun _=>[],?_⟩
 exact {
  len:=by unfold L2.aV;rw [Ps,Ps,Ph,Ph,RV,RV,hl]
  sub:=s
  sh:=fun i d hi=>by
   rcases key i _ hi with e | ⟨d',v,e,h1,h2⟩
   ·cases e
   ·cases e;exact ⟨v,h1,h2⟩
  ow:=fun i o hi=>by
   rcases key i _ hi with e | ⟨d',v,e,h1,h2⟩
   ·cases e
   ·cases e
  dj:=fun i j o o' _ hi=>by
   rcases key i _ hi with e | ⟨d',v,e,h1,h2⟩
   ·cases e
   ·cases e
  lo:=fun i hi=>by
   rcases key i _ hi with e | ⟨d',v,e,h1,h2⟩
   ·cases e
   ·cases e
  asub:=xr
  adis:=xE }
theorem Lk {t:TS} {x:XS} {N:List Str} {n k:Nat} {vs:List V} {H:Hp} {Q:VK} {E:XK} (hs:SS K t x) (hN:N.length = n) (h:cS K k (fnO n x) vs H Q E) :
  t { nx:=fun _ H'=>Q .non H',rt:=Q } (L2.aV N vs) H:=by
 obtain ⟨_,S,ds,d,s,dd,y,q⟩:=h
 subst hN
 unfold fnO at y
 have r:=zH (N:=N) s dd
 have ex:∀ {S' H':Hp},Same S S' -> Same S' H' -> Same (lN S H) H' -> (∀ b,S' b = none \/ lN S H b = none) -> Ext S H S' H':=fun s1 s2 s3 s4=>⟨s1,s2,fun b o hb hn=>by
  have ha:=u8 hb hn
  refine ⟨s3 b o ha,?_⟩
  rcases s4 b with z | z
  ·exact z
  ·rw [ha] at z;cases z⟩
 cases qx:x (ds.map .sh ++ List.replicate (N.length - ds.length) .un) with
 | none=>rw [qx] at y;cases y
 | some o=>
  rw [qx] at y
  refine hs _ _ _ _ S H _ o r qx ?_
  cases o with
  | rt d'=>
   cases y
   exact fun v S' H' s1 s2 s3 s4 dv=>q v [] S' H' (ex s1 s2 s3 s4) (own_sh.mpr ⟨rfl,dv⟩) .nil fun b hb=>by cases hb
  | ro o'=>
   cases y
   refine fun v fp S' H' s1 s2 s3 s4 ow nd n=>q v fp S' H' (ex s1 s2 s3 s4) ow nd fun b hb=>⟨?_,(n b hb).1⟩
   cases qb:H b with
   | none=>rfl
   | some u=>
    have:=u8 qb (s1.free (n b hb).1)
    rw [(n b hb).2] at this;cases this
  | nx ρ'=>
   cases y
   exact fun σ' S' H' r' s1=>q .non [] S' H' (ex s1 r'.sub r'.asub r'.adis) (own_sh.mpr ⟨rfl,den_non.mpr rfl⟩) .nil fun b hb=>by cases hb
  | bk ρ'=>cases y
  | ct ρ'=>cases y
end
def dI (f:Int -> Int -> Option D):D -> D -> Option D
 | .int i,.int j=>f i j
 | _,_=>none
def Lu:D -> D -> Option D:=dI fun i j=>ifC ((-18446744073709551616 < i /\ i < 18446744073709551616) \/ (-18446744073709551616 < j /\ j < 18446744073709551616)) (some (.int (i * j))) none
def IQ:D -> D -> Option D:=dI fun i j=>ifC (0 < j /\ j < 1073741824) (some (.int (i / j))) none
def mz:D -> D -> Option D:=dI fun i j=>ifC (0 < j) (some (.int (i % j))) none
def wD:D -> D -> Option D:=dI fun i j=>ifC (0 <= j /\ j <= 1000000 /\ i.natAbs < 18446744073709551616) (some (.int (i ^ j.toNat))) none
def gD:D -> D -> Option D:=dI fun i j=>some (.int (i - j))
def dLt:D -> D -> Option D:=dI fun i j=>some (.bl (decide (i < j)))
def dLe:D -> D -> Option D:=dI fun i j=>some (.bl (decide (i <= j)))
def dGt:D -> D -> Option D:=dI fun i j=>some (.bl (decide (j < i)))
def dGe:D -> D -> Option D:=dI fun i j=>some (.bl (decide (j <= i)))
def hU:D -> Option D
 | .int i=>some (.int (-i))
 | _=>none
section
variable {K:W.Frag}
theorem r_i {C:Int -> Int -> Prop} {g:Int -> Int -> V} {f:Int -> Int -> Option D} (h:∀ i j d,f i j = some d -> C i j /\ rV d = some (g i j)):SR2 K (rI C g) (dI f):=fun S H x y d e z Q s dx dy q k=>by
 cases d <;> cases e <;> try cases q
 rename_i i j
 obtain ⟨h1,h2⟩:=h i j z q
 exact ⟨i,j,dx.int,dy.int,h1,k _ S H (Ext.refl s) (pH h2)⟩
theorem E9 {g:Int -> Int -> V} {f:Int -> Int -> Option D} (h:∀ i j d,f i j = some d -> rV d = some (g i j)):SR2 K (rI0 g) (dI f):=fun S H x y d e z Q s dx dy q k=>by
 cases d <;> cases e <;> try cases q
 rename_i i j
 exact ⟨i,j,dx.int,dy.int,k _ S H (Ext.refl s) (pH (h i j z q))⟩
theorem LX:SR2 K (rI Mx fun i j=>.int (i / j)) IQ:=r_i fun i j d h=>by
 obtain ⟨c,rfl⟩:=nj h
 exact ⟨c,rfl⟩
theorem Mg:SR2 K (rI (fun _ j=>0 < j) fun i j=>.int (i % j)) mz:=r_i fun i j d h=>by
 obtain ⟨c,rfl⟩:=nj h
 exact ⟨c,rfl⟩
theorem LK:SR2 K (rI KW fun i j=>.int (i ^ j.toNat)) wD:=r_i fun i j d h=>by
 obtain ⟨c,rfl⟩:=nj h
 refine ⟨?_,rfl⟩
 unfold KW
 have:(2:Nat) ^ 64 = 18446744073709551616:=by decide
 rw [this]
 exact c
theorem MA:SR2 K (rI0 fun i j=>.int (i - j)) gD:=E9 fun i j d h=>by cases h;rfl
theorem JX:SR2 K (rI0 fun i j=>.bl (decide (i < j))) dLt:=E9 fun i j d h=>by cases h;rfl
theorem Nq:SR2 K (rI0 fun i j=>.bl (decide (i <= j))) dLe:=E9 fun i j d h=>by cases h;rfl
theorem NQ:SR2 K (rI0 fun i j=>.bl (decide (j < i))) dGt:=E9 fun i j d h=>by cases h;rfl
theorem xc:SR1 K (rU fun i=>.int (-i)) hU:=fun S H x d g Q s dx q k=>by
 cases d <;> try cases q
 rename_i i
 exact ⟨i,dx.int,k _ S H (Ext.refl s) (den_int.mpr rfl)⟩
end
def Je:R2:=fun x y H Q=>∃ l b xs zs,x = .ref l /\ y = .ref b /\ Rd H l (.lst xs) /\ Rd H b (.lst zs) /\ xs.length + zs.length <= sizeLine /\ ∀ p,H p = none -> Q (.ref p) (upd H p (.lst (xs ++ zs)))
def Jf (K:W.Frag):R2:=fun x y H Q=>∃ a b xs ys,x = .ref a /\ y = .ref b /\ SqT K H a xs /\ SqT K H b ys /\ xs.length + ys.length <= sizeLine /\
 (ys = [] -> Q (.ref a) H) /\ (xs = [] -> Q (.ref b) H) /\ ∀ p,H p = none -> Q (.ref p) (upd H p (.tup (xs ++ ys)))
def Ji:R2:=fun x y H Q=>∃ i j,x = .str i /\ y = .str j /\ i.length + j.length <= sizeLine /\ Q (.str (i ++ j)) H
def IW (K:W.Frag):R2:=fun x y H Q=>(∃ i j,x = .int i /\ y = .int j /\ Q (.int (i + j)) H) \/ Je x y H Q \/ Jf K x y H Q \/ Ji x y H Q
def b5:D -> D -> Option D
 | .int i,.int j=>some (.int (i + j))
 | .lst a,.lst b=>if a.length + b.length <= LIM then some (.lst (a ++ b)) else none
 | .tup a,.tup b=>if a.length + b.length <= LIM then some (.tup (a ++ b)) else none
 | .str a,.str b=>if a.length + b.length <= LIM then some (.str (a ++ b)) else none
 | _,_=>none
section
variable {K:W.Frag}
theorem Dens.nil_iff {S:Hp} {ds:List D} {xs:List V} (h:Dens K S ds xs):xs = [] ↔ ds = []:=by
 have:=h.length
 cases ds <;> cases xs <;> simp_all
theorem uY {n:Nat} (h:n <= LIM):n <= sizeLine:=Ql (QG h lh)
theorem IT:SR2 K (IW K) b5:=fun S H x y d e z Q s dx dy q k=>by
 cases d <;> cases e <;> try (cases q;done)
 ·rename_i i j
  cases q
  exact .inl ⟨i,j,dx.int,dy.int,k _ S H (Ext.refl s) (den_int.mpr rfl)⟩
 ·rename_i i j
  have q':(if i.length + j.length <= LIM then some (D.str (i ++ j)) else none) = some z:=q
  split at q'
  ·rename_i hl
   cases q'
   exact .inr (.inr (.inr ⟨i,j,dx.str,dy.str,uY hl,k _ S H (Ext.refl s) (den_str.mpr rfl)⟩))
  ·cases q'
 ·rename_i a b
  have q':(if a.length + b.length <= LIM then some (D.lst (a ++ b)) else none) = some z:=q
  split at q'
  ·rename_i hl
   cases q'
   obtain ⟨p,xs,rfl,h1,h2⟩:=dx.lst s
   obtain ⟨p',ys,rfl,h3,h4⟩:=dy.lst s
   refine .inr (.inl ⟨p,p',xs,ys,rfl,rfl,h1,h3,by rw [<- h2.length,<- h4.length];exact uY hl,fun q hq=>?_⟩)
   have z:=Ext.new (o:=.lst (xs ++ ys)) s hq
   exact k _ _ _ z (den_lst.mpr ⟨q,_,rfl,.inl aY,(h2.append h4).mono z.sh⟩)
  ·cases q'
 ·rename_i a b
  have q':(if a.length + b.length <= LIM then some (D.tup (a ++ b)) else none) = some z:=q
  split at q'
  ·rename_i hl
   cases q'
   obtain ⟨p,xs,e1,h1,h2⟩:=dx.tup s
   obtain ⟨p',ys,e2,h3,h4⟩:=dy.tup s
   have dx':Den K S (.tup a) x:=dx.elim id fun ⟨_,_,_,e,_⟩=>by cases e
   have dy':Den K S (.tup b) y:=dy.elim id fun ⟨_,_,_,e,_⟩=>by cases e
   subst e1 e2
   refine .inr (.inr (.inl ⟨p,p',xs,ys,rfl,rfl,h1,h3,by rw [<- h2.length,<- h4.length];exact uY hl,fun e=>?_,fun e=>?_,fun q hq=>?_⟩))
   ·have:=h4.nil_iff.mp e
    subst this
    exact k _ S H (Ext.refl s) (by rw [Qa];exact dx')
   ·have:=h2.nil_iff.mp e
    subst this
    exact k _ S H (Ext.refl s) (by rw [List.nil_append];exact dy')
   ·have z:=Ext.new (o:=.tup (xs ++ ys)) s hq
    exact k _ _ _ z (den_tup.mpr ⟨q,_,rfl,TpA.of aY,(h2.append h4).mono z.sh⟩)
  ·cases q'
end
mutual
def eqD:D -> D -> Bool
 | .non,.non=>true
 | .bl a,.bl b=>a == b
 | .bl a,.int j=>(if a then 1 else 0) == j
 | .int i,.bl b=>i == (if b then 1 else 0)
 | .int i,.int j=>i == j
 | .str x,.str y=>x == y
 | .lst a,.lst b=>eqDs a b
 | .tup a,.tup b=>eqDs a b
 | _,_=>false
def eqDs:List D -> List D -> Bool
 | [],[]=>true
 | x :: xs,y :: ys=>eqD x y && eqDs xs ys
 | _,_=>false
end
mutual
def okD:Nat -> D -> Bool
 | _,.non=>true
 | _,.bl _=>true
 | _,.int _=>true
 | _,.str x=>PyData.strOk x
 | n + 1,.lst l=>okDs n l
 | n + 1,.tup l=>okDs n l
 | _,_=>false
def okDs:Nat -> List D -> Bool
 | _,[]=>true
 | n,d :: l=>okD n d && okDs n l
end
def Ks (K:W.Frag) (neg:Bool):R2:=fun x y H Q=>∃ S d e,Same S H /\ DenP K S H d x /\ DenP K S H e y /\ okD 50 d = true /\ okD 50 e = true /\ Q (.bl (if neg then !eqD d e else eqD d e)) H
def dEq (neg:Bool) (d e:D):Option D:=if okD 50 d = true /\ okD 50 e = true then some (.bl (if neg then !eqD d e else eqD d e)) else none
section
variable {K:W.Frag}
theorem JO (neg:Bool):SR2 K (Ks K neg) (dEq neg):=fun S H x y d e z Q s dx dy q k=>by
 unfold dEq at q
 split at q
 ·rename_i c
  cases q
  exact ⟨S,d,e,s,dx,dy,c.1,c.2,k _ S H (Ext.refl s) (den_bl.mpr rfl)⟩
 ·cases q
end
def uE:D -> Bool
 | .non=>true | _=>false
def NM (neg:Bool) (d e:D):Option D:=match e with | .non=>some (.bl (if neg then !uE d else uE d)) | _=>none
section
variable {K:W.Frag}
end
def dIx:D -> D -> Option D
 | .lst l,.int i=>atI l i
 | .tup l,.int i=>atI l i
 | .scr l,.int i=>atI l i
 | .str x,.int i=>if x.length <= LIM then (atI x.cps.toList i).map fun c=>.str ⟨#[c]⟩ else none
 | _,_=>none
section
variable {K:W.Frag}
theorem vn {S:Hp} {ds:List D} {xs:List V} {i:Int} {d:D} (h:Dens K S ds xs) (e:atI ds i = some d):∃ v,atI xs i = some v /\ Den K S d v:=by
 unfold atI at e ⊢
 rw [<- h.length]
 cases q:ixN ds.length i with
 | none=>rw [q] at e;cases e
 | some j=>
  rw [q] at e
  exact h.get e
theorem Ly:SR2 K (rIx K) dIx:=fun S H x y d e z Q s dx dy q k=>by
 cases d <;> cases e <;> try (cases q;done)
 ·rename_i x' i
  have q':(if x'.length <= LIM then (atI x'.cps.toList i).map fun c=>D.str ⟨#[c]⟩ else none) = some z:=q
  split at q'
  ·rename_i hl
   cases qc:atI x'.cps.toList i with
   | none=>rw [qc] at q';cases q'
   | some c=>
    rw [qc] at q'
    cases q'
    exact .inr (.inr ⟨x',i,c,dx.str,dy.int,uY hl,qc,k _ S H (Ext.refl s) (den_str.mpr rfl)⟩)
  ·cases q'
 ·rename_i l i
  obtain ⟨p,xs,rfl,h1,h2⟩:=dx.lst s
  obtain ⟨v,h3,h4⟩:=vn h2 q
  exact .inl ⟨p,xs,i,v,rfl,dy.int,.inl h1,h3,k v S H (Ext.refl s) h4⟩
 ·rename_i l i
  obtain ⟨p,xs,rfl,h1,h2⟩:=dx.tup s
  obtain ⟨v,h3,h4⟩:=vn h2 q
  exact .inr (.inl ⟨p,xs,i,v,rfl,dy.int,h1,h3,k v S H (Ext.refl s) h4⟩)
 ·rename_i l i
  obtain ⟨p,xs,rfl,h1,h2⟩:=dx.scr s
  obtain ⟨v,h3,h4⟩:=vn h2 q
  exact .inl ⟨p,xs,i,v,rfl,dy.int,h1,h3,k v S H (Ext.refl s) h4⟩
end
def j8 {α:Type} (xs:List α) (lo hi:Option Int):List α:=(xs.drop (HT.sIx xs.length 0 lo)).take (HT.sIx xs.length xs.length hi - HT.sIx xs.length 0 lo)
def Mz (K:W.Frag):V -> Option Int -> Option Int -> Hp -> VK -> Prop:=fun x lo hi H Q=>MD K x lo hi H Q \/
 ∃ a xs,x = .ref a /\ SqT K H a xs /\ (o6 xs lo hi = xs -> Q (.ref a) H) /\ ∀ p,H p = none -> Q (.ref p) (upd H p (.tup (o6 xs lo hi)))
abbrev XO:=Env -> Option (Option Int)
def SO (K:W.Frag) (t:TO) (o:XO):Prop:=∀ ρ σ S H (Q:Option Int -> Hp -> Prop) i,Rl K ρ σ S H -> o ρ = some i -> (∀ S' H',Ext S H S' H' -> Q i H') -> t σ H Q
@[simp] def za:XO:=fun _=>some none
@[simp] def xU (a:XE):XO:=fun ρ=>(a ρ).bind fun d=>match d with | .int i=>some (some i) | _=>none
section
variable {K:W.Frag}
theorem GF:SO K CF za:=fun ρ σ S H Q i r x k=>by cases x;exact k S H (Ext.refl r.sub)
theorem KG {ta:TE} {a:XE} (h:SPk K ta a):SO K (IR ta) (xU a):=fun ρ σ S H Q i r x k=>by
 unfold xU at x
 cases q:a ρ with
 | none=>rw [q] at x;cases x
 | some d=>
  rw [q] at x
  dsimp only [Option.bind] at x
  cases d <;> try (cases x;done)
  rename_i j
  cases x
  exact h ρ σ S H _ _ r q fun v S1 H1 z1 d1=>⟨j,d1.int,k S1 H1 z1⟩
theorem qX {S:Hp} {ds:List D} {xs:List V} (h:Dens K S ds xs) (lo hi:Option Int):Dens K S (j8 ds lo hi) (o6 xs lo hi):=by
 unfold j8 o6
 rw [h.length]
 exact (h.drop _).take _
def dSl (d:D) (lo hi:Option Int):Option D:=match d with
 | .lst l=>some (.lst (j8 l lo hi))
 | .tup l=>some (.tup (j8 l lo hi))
 | .scr l=>some (.lst (j8 l lo hi))
 | _=>none
@[simp] def xSl (a:XE) (lo hi:XO):XE:=fun ρ=>(a ρ).bind fun d=>(lo ρ).bind fun l=>(hi ρ).bind fun h=>dSl d l h
theorem Np {te:TE} {tl th:TO} {a:XE} {lo hi:XO} (ha:SPk K te a) (hl:SO K tl lo) (hh:SO K th hi):SE K (tSl (Mz K) te tl th) (xSl a lo hi):=fun ρ σ S H Q g r x k=>by
 unfold xSl at x
 cases q:a ρ with
 | none=>rw [q] at x;cases x
 | some d=>
  rw [q] at x
  dsimp only [Option.bind] at x
  cases ql:lo ρ with
  | none=>rw [ql] at x;cases x
  | some l=>
   rw [ql] at x
   dsimp only at x
   cases qh:hi ρ with
   | none=>rw [qh] at x;cases x
   | some h=>
    rw [qh] at x
    dsimp only at x
    refine ha ρ σ S H _ d r q fun v S1 H1 z1 d1=>?_
    have r1:=r.ext z1
    refine hl ρ σ S1 H1 _ l r1 ql fun S2 H2 z2=>?_
    have r2:=r1.ext z2
    refine hh ρ σ S2 H2 _ h r2 qh fun S3 H3 z3=>?_
    have z23:=z2.trans z3
    have d3:=d1.mono z23 r1.sub
    have s3:=(r2.ext z3).sub
    have z:=z1.trans z23
    cases d <;> try (cases x;done)
    ·cases x
     obtain ⟨p,xs,rfl,h1,h2⟩:=d3.lst s3
     refine .inl ⟨p,xs,rfl,.inl h1,fun p' hp=>?_⟩
     have z4:=Ext.new (o:=.lst (o6 xs l h)) s3 hp
     exact k _ _ _ (z.trans z4) (den_lst.mpr ⟨p',_,rfl,.inl aY,(qX h2 l h).mono z4.sh⟩)
    ·rename_i ds
     cases x
     have d3':Den K S3 (.tup ds) v:=d3.elim id fun ⟨_,_,_,e,_⟩=>by cases e
     obtain ⟨p,xs,e,h1,h2⟩:=d3.tup s3
     subst e
     refine .inr ⟨p,xs,rfl,h1,fun e=>k _ S3 H3 z ?_,fun p' hp=>?_⟩
     ·obtain ⟨p2,xs2,e2,h3,h4⟩:=den_tup.mp d3'
      cases e2
      have c:=qX h2 l h
      rw [e] at c
      refine den_tup.mpr ⟨p,xs2,rfl,h3,?_⟩
      have hlen:=c.length
      have:j8 ds l h = ds:=by
       have hl2:(j8 ds l h).length = ds.length:=by rw [c.length,h2.length]
       unfold j8 at hl2 ⊢
       rw [Q3,List.length_drop] at hl2
       have a0:HT.sIx ds.length 0 l = 0 \/ ds.length = 0:=by lia
       rcases a0 with a0 | a0
       ·rw [a0,List.drop_zero] at *
        exact Rv (by lia)
       ·have:ds = []:=Q0.mp a0
        subst this
        simp
      rw [this]
      exact h4
     ·have z4:=Ext.new (o:=.tup (o6 xs l h)) s3 hp
      exact k _ _ _ (z.trans z4) (den_tup.mpr ⟨p',_,rfl,TpA.of aY,(qX h2 l h).mono z4.sh⟩)
    ·cases x
     obtain ⟨p,xs,rfl,h1,h2⟩:=d3.scr s3
     refine .inl ⟨p,xs,rfl,h1,fun p' hp=>?_⟩
     have z4:=Ext.new (o:=.lst (o6 xs l h)) s3 hp
     exact k _ _ _ (z.trans z4) (den_lst.mpr ⟨p',_,rfl,.inl aY,(qX h2 l h).mono z4.sh⟩)
def Jh (K:W.Frag):List V -> Hp -> VK -> Prop:=fun xs H Q=>∃ x n,xs = [x] /\ L3 K x H n /\ Q (.int n) H
def nP:List D -> Option D
 | [.lst l]=>some (.int l.length)
 | [.tup l]=>some (.int l.length)
 | [.scr l]=>some (.int l.length)
 | [.str x]=>if x.length <= LIM then some (.int x.length) else none
 | _=>none
theorem jh {S H:Hp} {d:D} {vs:List V} (h:DensP K S H [d] vs):∃ v,vs = [v] /\ DenP K S H d v:=by
 cases h with
 | cons a b=>cases b;exact ⟨_,rfl,a⟩
theorem GR {S H:Hp} {d e:D} {vs:List V} (h:DensP K S H [d,e] vs):∃ v w,vs = [v,w] /\ DenP K S H d v /\ DenP K S H e w:=by
 cases h with
 | cons a b=>cases b with
  | cons c b=>cases b;exact ⟨_,_,rfl,a,c⟩
theorem LJ:SRB K (Jh K) nP:=fun S H vs ds g Q s d q k=>by
 unfold nP at q
 split at q
 ·rename_i l
  cases q
  obtain ⟨v,rfl,d1⟩:=jh d
  obtain ⟨p,xs,rfl,h1,h2⟩:=d1.lst s
  exact ⟨_,xs.length,rfl,.inl ⟨xs,.inl h1,rfl⟩,k _ S H (Ext.refl s) (den_int.mpr (by rw [h2.length]))⟩
 ·rename_i l
  cases q
  obtain ⟨v,rfl,d1⟩:=jh d
  obtain ⟨p,xs,rfl,h1,h2⟩:=d1.tup s
  exact ⟨_,xs.length,rfl,.inr ⟨xs,h1,rfl⟩,k _ S H (Ext.refl s) (den_int.mpr (by rw [h2.length]))⟩
 ·rename_i l
  cases q
  obtain ⟨v,rfl,d1⟩:=jh d
  obtain ⟨p,xs,rfl,h1,h2⟩:=d1.scr s
  exact ⟨_,xs.length,rfl,.inl ⟨xs,h1,rfl⟩,k _ S H (Ext.refl s) (den_int.mpr (by rw [h2.length]))⟩
 ·rename_i x
  split at q
  ·rename_i hl
   cases q
   obtain ⟨v,rfl,d1⟩:=jh d
   exact ⟨_,x.length,rfl,by rw [d1.str];exact ⟨uY hl,rfl⟩,k _ S H (Ext.refl s) (den_int.mpr rfl)⟩
  ·cases q
 ·cases q
def f9:List D -> Option D
 | [.lst l]=>some (.tup l)
 | [.tup l]=>some (.tup l)
 | [.scr l]=>some (.tup l)
 | _=>none
theorem Ii:SRB K (KR K) f9:=fun S H vs ds g Q s d q k=>by
 unfold f9 at q
 split at q
 ·rename_i l
  cases q
  obtain ⟨v,rfl,d1⟩:=jh d
  obtain ⟨p,xs,rfl,h1,h2⟩:=d1.lst s
  refine ⟨p,xs,rfl,.inl ⟨.inl h1,fun q hq=>?_⟩⟩
  have z:=Ext.new (o:=.tup xs) s hq
  exact k _ _ _ z (den_tup.mpr ⟨q,_,rfl,TpA.of aY,h2.mono z.sh⟩)
 ·rename_i l
  cases q
  obtain ⟨v,rfl,d1⟩:=jh d
  have d':Den K S (.tup l) v:=d1.elim id fun ⟨_,_,_,e,_⟩=>by cases e
  obtain ⟨p,xs,rfl,h1,h2⟩:=d1.tup s
  exact ⟨p,xs,rfl,.inr ⟨h1,k _ S H (Ext.refl s) d'⟩⟩
 ·rename_i l
  cases q
  obtain ⟨v,rfl,d1⟩:=jh d
  obtain ⟨p,xs,rfl,h1,h2⟩:=d1.scr s
  refine ⟨p,xs,rfl,.inl ⟨h1,fun q hq=>?_⟩⟩
  have z:=Ext.new (o:=.tup xs) s hq
  exact k _ _ _ z (den_tup.mpr ⟨q,_,rfl,TpA.of aY,h2.mono z.sh⟩)
 ·cases q
def Fi:List D -> Option (List D)
 | [.lst l]=>some l
 | [.tup l]=>some l
 | [.scr l]=>some l
 | _=>none
def xy:List D -> Option D
 | [.int i,.int j]=>some (.int (if j > i then j else i))
 | _=>none
def xI:List D -> Option D
 | [.int i,.int j]=>some (.int (if j < i then j else i))
 | _=>none
theorem JG:SRB K L1 xy:=fun S H vs ds g Q s d q k=>by
 unfold xy at q
 split at q
 ·rename_i i j
  cases q
  obtain ⟨v,w,rfl,d1,d2⟩:=GR d
  exact ⟨i,j,by rw [d1.int,d2.int],k _ S H (Ext.refl s) (den_int.mpr rfl)⟩
 ·cases q
theorem JE:SRB K LL xI:=fun S H vs ds g Q s d q k=>by
 unfold xI at q
 split at q
 ·rename_i i j
  cases q
  obtain ⟨v,w,rfl,d1,d2⟩:=GR d
  exact ⟨i,j,by rw [d1.int,d2.int],k _ S H (Ext.refl s) (den_int.mpr rfl)⟩
 ·cases q
def bW:List D -> Option (List Int)
 | []=>some []
 | .int i :: l=>(bW l).map fun r=>i :: r
 | _=>none
theorem kI {S:Hp}:∀ {ds:List D} {xs:List V} {ns:List Int},Dens K S ds xs -> bW ds = some ns -> xs = ns.map V.int /\ ds = ns.map D.int
 | [],xs,ns,h,e=>by cases e;exact ⟨h.nil_of,rfl⟩
 | d :: ds,xs,ns,h,e=>by
  obtain ⟨y,ys,rfl,h1,h2⟩:=h.cons_of
  cases d <;> try (cases e;done)
  rename_i i
  have e':(bW ds).map (fun r=>i :: r) = some ns:=e
  cases q:bW ds with
  | none=>rw [q] at e';cases e'
  | some ms=>
   rw [q] at e'
   cases e'
   obtain ⟨k1,k2⟩:=kI h2 q
   rw [den_int.mp h1,k1]
   exact ⟨rfl,PQ (D.int i :: ·) k2⟩
theorem jF:∀ ns:List Int,bW (ns.map D.int) = some ns
 | []=>rfl
 | n :: ns=>by rw [Px,bW,jF ns];rfl
def EW:List D -> Option D
 | [.lst l]=>(bW l).map fun ns=>.int ns.sum
 | _=>none
theorem My:SRB K (Jr K) EW:=fun S H vs ds g Q s d q k=>by
 unfold EW at q
 split at q
 ·rename_i l
  cases qi:bW l with
  | none=>rw [qi] at q;cases q
  | some ns=>
   rw [qi] at q
   cases q
   obtain ⟨v,rfl,d1⟩:=jh d
   obtain ⟨p,xs,rfl,h1,h2⟩:=d1.lst s
   obtain ⟨e,_⟩:=kI h2 qi
   subst e
   exact ⟨p,ns,rfl,.inl h1,k _ S H (Ext.refl s) (den_int.mpr rfl)⟩
 ·cases q
def Lm:List D -> Option D
 | [.int i]=>some (.int i)
 | [.bl b]=>some (.int (if b then 1 else 0))
 | _=>none
@[simp] def Ou (a:XE):XA:=fun ρ=>(a ρ).bind fun d=>match d with | .lst l=>some l.reverse | _=>none
def tyD:D -> Option String
 | .non=>some "NoneType" | .bl _=>some "bool" | .int _=>some "int" | .str _=>some "str" | .lst _=>some "list" | .tup _=>some "tuple" | _=>none
def M9 (t T:String):Bool:=t == T || (t == "bool" && T == "int")
def Nl:List String:=["bool", "int", "str", "list", "tuple"]
def FQ:List D -> Option D
 | [d,.ty T]=>if T ∈ Nl then (tyD d).map fun t=>.bl (M9 t T) else none
 | _=>none
end
def wp (k:List Int):D:=.tup (k.map D.int)
def HZ:D -> Option (List Int)
 | .tup l=>if l.isEmpty then none else bW l
 | _=>none
def keys:List D -> Option (List (List Int))
 | []=>some []
 | d :: l=>(HZ d).bind fun k=>(keys l).map fun r=>k :: r
theorem zq:∀ a b:List Int,HT.cT a b = true -> HT.cT b a = false
 | [],[],h=>by cases h
 | [],_ :: _,_=>rfl
 | _ :: _,[],h=>by cases h
 | x :: a,y :: b,h=>by
  have h':(if x = y then HT.cT a b else decide (x < y)) = true:=h
  show (if y = x then HT.cT b a else decide (y < x)) = false
  by_cases e:x = y
  ·rw [Pb e] at h';rw [Pb e.symm];exact zq a b h'
  ·rw [Pc e] at h';rw [Pc (fun z=>e z.symm)]
   have:=QF h'
   exact PX (by lia)
theorem xP:∀ a b:List Int,HT.cT a b = false -> HT.cT b a = false -> a = b
 | [],[],_,_=>rfl
 | [],_ :: _,h,_=>by cases h
 | _ :: _,[],_,h=>by cases h
 | x :: a,y :: b,h,k=>by
  have h':(if x = y then HT.cT a b else decide (x < y)) = false:=h
  have k':(if y = x then HT.cT b a else decide (y < x)) = false:=k
  by_cases e:x = y
  ·rw [Pb e] at h';rw [Pb e.symm] at k'
   rw [e,xP a b h' k']
  ·rw [Pc e] at h';rw [Pc (fun z=>e z.symm)] at k'
   have:=Qy h'
   have:=Qy k'
   lia
theorem w8:∀ a b c:List Int,HT.cT a b = false -> HT.cT b c = false -> HT.cT a c = false
 | [],[],_,_,k=>k
 | [],_ :: _,_,h,_=>by cases h
 | _ :: _,_,[],_,_=>rfl
 | _ :: _,[],_ :: _,_,k=>by cases k
 | x :: a,y :: b,z :: c,h,k=>by
  have h':(if x = y then HT.cT a b else decide (x < y)) = false:=h
  have k':(if y = z then HT.cT b c else decide (y < z)) = false:=k
  show (if x = z then HT.cT a c else decide (x < z)) = false
  by_cases e1:x = y
  ·rw [Pb e1] at h'
   subst e1
   by_cases e2:x = z
   ·rw [Pb e2] at k' ⊢;exact w8 a b c h' k'
   ·rw [Pc e2] at k' ⊢;exact k'
  ·rw [Pc e1] at h'
   have g1:=Qy h'
   by_cases e2:y = z
   ·subst e2
    rw [Pc e1];exact h'
   ·rw [Pc e2] at k'
    have g2:=Qy k'
    rw [Pc (by lia)]
    exact PX (by lia)
def Ep (x:List Int):List (List Int) -> List (List Int)
 | []=>[x]
 | y :: l=>if HT.cT y x = true then y :: Ep x l else x :: y :: l
def jC (ks:List (List Int)):List (List Int):=ks.foldr Ep []
theorem xK (x:List Int) (l:List (List Int)):(Ep x l).Perm (x :: l):=by
 induction l with
 | nil=>exact .refl _
 | cons y l ih=>
  unfold Ep
  split
  ·exact (ih.cons y).trans (.swap x y l)
  ·exact .refl _
def kv (ns:List Int):List Int:=ns.mergeSort fun a b=>decide (a <= b)
theorem jf (ks:List (List Int)):(jC ks).Perm ks:=by
 induction ks with
 | nil=>exact .refl _
 | cons x l ih=>exact (xK x (jC l)).trans (ih.cons x)
theorem k6 (ns:List Int):(kv ns).Perm ns:=List.mergeSort_perm _ _
theorem Ia (x:List Int) (l:List (List Int)) (h:l.Pairwise fun a b=>HT.cT b a = false):(Ep x l).Pairwise fun a b=>HT.cT b a = false:=by
 induction l with
 | nil=>exact .cons (fun _ z=>by cases z) .nil
 | cons y l ih=>
  have hy:∀ z,z ∈ l -> HT.cT z y = false:=fun z hz=>List.rel_of_pairwise_cons h hz
  unfold Ep
  cases q:HT.cT y x with
  | true=>
   refine .cons (fun z hz=>?_) (ih (List.Pairwise.of_cons h))
   rcases Pq.mp ((xK x l).mem_iff.mp hz) with rfl | hz
   ·exact zq y _ q
   ·exact hy z hz
  | false=>
   refine .cons (fun z hz=>?_) h
   rcases Pq.mp hz with rfl | hz
   ·exact q
   ·exact w8 z y x (hy z hz) q
theorem vC (ks:List (List Int)):(jC ks).Pairwise fun a b=>HT.cT b a = false:=by
 induction ks with
 | nil=>exact .nil
 | cons x l ih=>exact Ia x (jC l) ih
theorem Fy (ns:List Int):(kv ns).Pairwise (· <= ·):=by
 have h:=List.pairwise_mergeSort (le:=fun a b:Int=>decide (a <= b)) (fun a b c h k=>by
  have:=QF h;have:=QF k;exact QD (by lia)) (fun a b=>by
  by_cases h:a <= b
  ·simp [h]
  ·simp [show b <= a by lia]) ns
 exact h.imp fun {a b} e=>QF e
theorem Ch {ks js:List (List Int)} (hp:js.Perm ks) (hw:js.Pairwise fun a b=>HT.cT b a = false):js = jC ks:=
 List.Perm.eq_of_pairwise (fun a b _ _ h k=>xP a b k h) hw (vC ks) (hp.trans (jf ks).symm)
theorem Bg {ns ms:List Int} (hp:ms.Perm ns) (hw:ms.Pairwise (· <= ·)):ms = kv ns:=
 List.Perm.eq_of_pairwise (fun a b _ _ h k=>by lia) hw (Fy ns) (hp.trans (k6 ns).symm)
def F9 (K:W.Frag):List V -> Hp -> VK -> Prop:=fun xs H Q=>∃ p,∃ yks:List (V × List Int),xs = [.ref p] /\ SqL K H p (yks.map (·.1)) /\ yks.length < 30000 /\ (∀ yk ∈ yks,∃ q,yk.1 = .ref q /\ SqT K H q (yk.2.map V.int) /\ yk.2 ≠ []) /\
 ∀ (zks:List (V × List Int)) l,zks.Perm yks -> zks.Pairwise (fun a b=>HT.cT b.2 a.2 = false) -> H l = none -> Q (.ref l) (upd H l (.lst (zks.map (·.1))))
def Ai (K:W.Frag):List V -> Hp -> VK -> Prop:=fun xs H Q=>Al K xs H Q \/ F9 K xs H Q
def iB:List D -> Option (List D)
 | [.lst l]=>if l.length < 30000 then (match bW l with
  | some ns=>some ((kv ns).map D.int)
  | none=>(keys l).map fun ks=>(jC ks).map wp) else none
 | _=>none
section
variable {K:W.Frag}
theorem HC {d:D} {k:List Int} (h:HZ d = some k):d = wp k /\ k ≠ []:=by
 cases d <;> try (cases h;done)
 rename_i l
 have h':(if l.isEmpty then none else bW l) = some k:=h
 split at h'
 ·cases h'
 ·rename_i hne
  have key:∀ (l:List D) (k:List Int),bW l = some k -> l = k.map D.int:=by
   intro l
   induction l with
   | nil=>intro k e;cases e;rfl
   | cons d l ih=>
    intro k e
    cases d <;> try (cases e;done)
    rename_i i
    have e':(bW l).map (fun r=>i :: r) = some k:=e
    cases q:bW l with
    | none=>rw [q] at e';cases e'
    | some m=>rw [q] at e';cases e';rw [ih m q];rfl
  have e:=key l k h'
  subst e
  exact ⟨rfl,fun z=>by subst z;exact hne rfl⟩
theorem CO:∀ {l:List D} {ks:List (List Int)},keys l = some ks -> l = ks.map wp /\ ∀ k ∈ ks,k ≠ []
 | [],ks,h=>by cases h;exact ⟨rfl,fun _ h=>by cases h⟩
 | d :: l,ks,h=>by
  have h':((HZ d).bind fun k=>(keys l).map fun r=>k :: r) = some ks:=h
  cases q:HZ d with
  | none=>rw [q] at h';cases h'
  | some k=>
   rw [q] at h'
   dsimp only [Option.bind] at h'
   cases q2:keys l with
   | none=>rw [q2] at h';cases h'
   | some r=>
    rw [q2] at h'
    cases h'
    obtain ⟨a,b⟩:=CO q2
    obtain ⟨c,d⟩:=HC q
    refine ⟨by rw [Px,<- a,<- c],fun k hk=>?_⟩
    rcases Pq.mp hk with rfl | hk
    ·exact d
    ·exact b k hk
theorem vA:∀ {S:Hp} {k:List Int} {xs:List V},Dens K S (k.map D.int) xs -> xs = k.map V.int
 | S,[],xs,h=>h.nil_of
 | S,i :: k,xs,h=>by
  obtain ⟨y,ys,rfl,h1,h2⟩:=h.cons_of
  rw [den_int.mp h1,vA h2]
  rfl
theorem AM {S:Hp}:∀ {ks:List (List Int)} {xs:List V},Dens K S (ks.map wp) xs -> (xs.zip ks).map (·.1) = xs /\ (xs.zip ks).map (·.2) = ks /\ (xs.zip ks).length = ks.length /\ ∀ yk ∈ xs.zip ks,Den K S (wp yk.2) yk.1
 | [],xs,h=>by rw [h.nil_of];exact ⟨rfl,rfl,rfl,fun _ h=>by cases h⟩
 | k :: ks,xs,h=>by
  obtain ⟨y,ys,rfl,h1,h2⟩:=h.cons_of
  obtain ⟨a,b,c,d⟩:=AM h2
  refine ⟨by rw [Ry,Px,a],by rw [Ry,Px,b],by rw [Ry,Pw,c,Pw],fun yk hm=>?_⟩
  rw [Ry] at hm
  rcases Pq.mp hm with rfl | hm
  ·exact h1
  ·exact d yk hm
theorem oy {S:Hp}:∀ {zks:List (V × List Int)},(∀ yk ∈ zks,Den K S (wp yk.2) yk.1) -> Dens K S ((zks.map (·.2)).map wp) (zks.map (·.1))
 | [],_=>.nil
 | yk :: zks,h=>.cons (h yk Pm) (oy fun z hz=>h z (Po _ hz))
theorem G6:SRF K (Ai K) iB:=fun S H vs ds g Q s d q k=>by
 unfold iB at q
 split at q
 ·rename_i l
  split at q
  ·rename_i hl
   obtain ⟨v,rfl,d1⟩:=jh d
   obtain ⟨p,xs,rfl,h1,h2⟩:=d1.lst s
   cases qi:bW l with
   | some ns=>
    rw [qi] at q
    cases q
    obtain ⟨e1,e2⟩:=kI h2 qi
    subst e1 e2
    refine .inl ⟨p,ns,rfl,.inl h1,by rw [Ph] at hl;exact hl,fun ms a pm pw ha=>?_⟩
    rw [Bg pm pw]
    refine k a _ _ (Ext.own s ha) ha aY ?_
    have key:∀ ns:List Int,Dens K S (ns.map D.int) (ns.map V.int):=by
     intro ns
     induction ns with
     | nil=>exact .nil
     | cons n ns ih=>exact .cons (den_int.mpr rfl) ih
    exact key _
   | none=>
    rw [qi] at q
    dsimp only at q
    cases qk:keys l with
    | none=>rw [qk] at q;cases q
    | some ks=>
     rw [qk] at q
     cases q
     obtain ⟨e1,e2⟩:=CO qk
     subst e1
     obtain ⟨a,b,c,dd⟩:=AM h2
     refine .inr ⟨p,xs.zip ks,rfl,by rw [a];exact .inl h1,by rw [c];rw [Ph] at hl;exact hl,fun yk hm=>?_,fun zks l pm pw hl=>?_⟩
     ·obtain ⟨q,ys,e,g1,g2⟩:=jn (dd yk hm)
      have:=vA g2
      subst this
      refine ⟨q,e,bf s g1,e2 _ ?_⟩
      rw [<- b]
      exact Pt.mpr ⟨yk,hm,rfl⟩
     ·have e:zks.map (·.2) = jC ks:=by
       refine Ch ?_ ?_
       ·rw [<- b];exact pm.map _
       ·rw [Qs];exact pw
      have dz:Dens K S ((zks.map (·.2)).map wp) (zks.map (·.1)):=oy fun yk hm=>dd yk (pm.mem_iff.mp hm)
      rw [e] at dz
      exact k l _ _ (Ext.own s hl) hl aY dz
  ·cases q
 ·cases q
theorem Kd {ta:TE} {a:XE} (ha:SPk K ta a):ST K (LW K ta) (wN a):=LC ha
end
def xx:D -> D -> Option D:=dI fun i j=>some (.int (i + j))
section
variable {K:W.Frag}
theorem Hm:SR2 K (ipI fun i j=>i + j) xx:=E9 (g:=fun i j=>.int (i + j)) fun i j d h=>by cases h;rfl
end
theorem JR {K:W.Frag} {ta:TE} {a:XE} (ha:SQ K ta a):ST K (LW K ta) (wN a):=fun ρ σ S H Q b r x k=>by
 unfold wN at x
 cases qa:a ρ with
 | none=>rw [qa] at x;cases x
 | some da=>
  rw [qa] at x
  exact ha ρ σ S H _ da r qa fun v S1 H1 z1 d1=>⟨b,Ge (Same.refl H1) (.inl d1) x,k S1 H1 z1⟩
theorem Bt (g:XG) (m:XS) (d:D) (l:List D) (ρ:Env):iq g m (d :: l) ρ = (g d ρ).bind fun ρ1=>match m ρ1 with
  | some (.nx ρ2)=>iq g m l ρ2
  | some (.ct ρ2)=>iq g m l ρ2
  | some (.bk ρ2)=>some (.nx ρ2)
  | some (.rt d)=>some (.rt d)
  | some (.ro d)=>some (.ro d)
  | none=>none:=rfl
theorem xX {α:Type} {g:XG} {m:XS} (enc:α -> D) (P:List α -> Env -> Prop) (R:D -> Prop) (B:Env -> Prop) (l:List α) (ρ0:Env) (h0:P [] ρ0)
  (step:∀ pre a post ρ,l = pre ++ a :: post -> P pre ρ -> ∃ ρ1 o,g (enc a) ρ = some ρ1 /\ m ρ1 = some o /\ (match o with | .nx ρ2=>P (pre ++ [a]) ρ2 | .ct ρ2=>P (pre ++ [a]) ρ2 | .bk ρ2=>B ρ2 | .rt d=>R d | .ro _=>False)) :
  ∃ o,iq g m (l.map enc) ρ0 = some o /\ (match o with | .nx ρ'=>P l ρ' \/ B ρ' | .rt d=>R d | _=>False):=by
 have key:∀ (post pre:List α) (ρ:Env),l = pre ++ post -> P pre ρ -> ∃ o,iq g m (post.map enc) ρ = some o /\ (match o with | .nx ρ'=>P l ρ' \/ B ρ' | .rt d=>R d | _=>False):=by
  intro post
  induction post with
  | nil=>
   intro pre ρ e p
   rw [Qa] at e
   subst e
   exact ⟨_,rfl,.inl p⟩
  | cons a post ih=>
   intro pre ρ e p
   obtain ⟨ρ1,o,h1,h2,h3⟩:=step pre a post ρ e p
   rw [Px,Bt,h1]
   dsimp only [Option.bind]
   rw [h2]
   cases o with
   | nx ρ2=>exact ih (pre ++ [a]) ρ2 (by rw [e,PZ];rfl) h3
   | ct ρ2=>exact ih (pre ++ [a]) ρ2 (by rw [e,PZ];rfl) h3
   | bk ρ2=>exact ⟨_,rfl,.inr h3⟩
   | rt d=>exact ⟨_,rfl,h3⟩
   | ro d=>exact h3.elim
 exact key l [] ρ0 rfl h0
theorem gF {α:Type} {g:XG} {m:XS} (enc:α -> D) (P:List α -> Env -> Prop) (l:List α) (ρ0:Env) (h0:P [] ρ0)
  (step:∀ pre a post ρ,l = pre ++ a :: post -> P pre ρ -> ∃ ρ1 ρ2,g (enc a) ρ = some ρ1 /\ (m ρ1 = some (.nx ρ2) \/ m ρ1 = some (.ct ρ2)) /\ P (pre ++ [a]) ρ2) :
  ∃ ρ',iq g m (l.map enc) ρ0 = some (.nx ρ') /\ P l ρ':=by
 obtain ⟨o,h1,h2⟩:=xX (g:=g) (m:=m) enc P (fun _=>False) (fun _=>False) l ρ0 h0 fun pre a post ρ e p=>by
  obtain ⟨ρ1,ρ2,k1,k2,k3⟩:=step pre a post ρ e p
  rcases k2 with k2 | k2
  ·exact ⟨ρ1,_,k1,k2,k3⟩
  ·exact ⟨ρ1,_,k1,k2,k3⟩
 cases o with
 | nx ρ'=>exact ⟨ρ',h1,h2.elim id False.elim⟩
 | rt d=>exact h2.elim
 | ro d=>exact h2.elim
 | bk ρ'=>exact h2.elim
 | ct ρ'=>exact h2.elim
def eY (g:XG) (c:XT) (e:XE) (ρ0:Env) (d:D):Option (Option D):=(g d ρ0).bind fun ρ1=>(c ρ1).bind fun b=>if b = true then (e ρ1).map some else some none
theorem i6 {α:Type} {g:XG} {c:XT} {e:XE} {ρ0:Env} (enc:α -> D) (f:α -> Option D):∀ (l:List α),(∀ a ∈ l,eY g c e ρ0 (enc a) = some (f a)) -> bV g c e ρ0 (l.map enc) = some (l.filterMap f)
 | [],_=>rfl
 | a :: l,h=>by
  have ih:=i6 (g:=g) (c:=c) (e:=e) (ρ0:=ρ0) enc f l fun b hb=>h b (Po _ hb)
  have h1:=h a Pm
  unfold eY at h1
  rw [Px,bV]
  cases q1:g (enc a) ρ0 with
  | none=>rw [q1] at h1;cases h1
  | some ρ1=>
   rw [q1] at h1
   dsimp only [Option.bind] at h1 ⊢
   cases q2:c ρ1 with
   | none=>rw [q2] at h1;cases h1
   | some b=>
    rw [q2] at h1
    dsimp only at h1 ⊢
    cases b with
    | false=>
     rw [Pc (by decide)] at h1 ⊢
     rw [ih,QS]
     have:f a = none:=(P6 h1).symm
     rw [this]
    | true=>
     rw [Pb rfl] at h1 ⊢
     cases q3:e ρ1 with
     | none=>rw [q3] at h1;cases h1
     | some y=>
      rw [q3] at h1
      have:f a = some y:=(P6 h1).symm
      rw [ih,QS,this]
      rfl
theorem bp {α:Type} {g:XG} {e:XE} {ρ0:Env} (enc:α -> D) (f:α -> D) (l:List α) (h:∀ a ∈ l,eY g cU e ρ0 (enc a) = some (some (f a))):bV g cU e ρ0 (l.map enc) = some (l.map f):=by
 rw [i6 enc (fun a=>some (f a)) l h]
 exact PQ some (congrFun List.filterMap_eq_map' l)
theorem lv {c:XT} {m:XS} (P:Env -> Prop) (μ:Env -> Nat) (E:Env -> Prop) (step:∀ ρ,P ρ -> (c ρ = some false /\ E ρ) \/ (c ρ = some true /\ ∃ ρ2,m ρ = some (.nx ρ2) /\ P ρ2 /\ μ ρ2 < μ ρ)) (ρ0:Env) (h0:P ρ0):∃ ρ',dZ c m ρ0 = some (.nx ρ') /\ E ρ':=by
 have key:∀ (n:Nat) (ρ:Env),μ ρ = n -> P ρ -> ∃ ρ',dZ c m ρ = some (.nx ρ') /\ E ρ':=by
  intro n
  induction n using Nat.strongRecOn with
  | ind n ih=>
   intro ρ hn p
   rcases step ρ p with ⟨h1,h2⟩ | ⟨h1,ρ2,h2,h3,h4⟩
   ·exact ⟨ρ,uu h1,h2⟩
   ·obtain ⟨ρ',k1,k2⟩:=ih (μ ρ2) (by lia) ρ2 rfl h3
    exact ⟨ρ',tf h1 h2 k1,k2⟩
 exact key _ ρ0 rfl h0
abbrev prD (p:Int × Int):D:=.tup [.int p.1,.int p.2]
abbrev cu (r:List (Int × Int)):D:=.tup (r.map prD)
abbrev Bz (r:List (Int × Int)):D:=.lst (r.map prD)
@[simp] theorem kD {α:Type} (l:List α) (x:α):atI (l ++ [x]) (-1) = some x:=by
 unfold atI ixN
 rw [Pc (by decide),Ps,Qm,Pb (by lia)]
 have:((-1:Int) + ((l.length + 1:Nat):Int)).toNat = l.length:=by lia
 dsimp only [Option.bind]
 rw [this]
 simp
theorem jw {α:Type} {l:List α} {j:Nat} {x:α} (h:l[j]? = some x):atI l (j:Int) = some x:=by
 have:=(PF.mp h).1
 unfold atI ixN
 rw [Pb (by lia),Pb (by lia)]
 dsimp only [Option.bind]
 rw [Int.toNat_natCast]
 exact h
@[simp] theorem xT (l:List O) (x:O) (f:O -> O):uC (l ++ [x]) (-1) f = l ++ [f x]:=by
 unfold uC ixN
 rw [Pc (by decide),Ps,Qm,Pb (by lia)]
 have:((-1:Int) + ((l.length + 1:Nat):Int)).toNat = l.length:=by lia
 dsimp only
 rw [this]
 simp
@[simp] theorem Lj {α:Type} (l:List α) (a b:α):atI (l ++ [a,b]) (-1) = some b:=by
 have:=kD (l ++ [a]) b
 rw [PZ] at this
 exact this
@[simp] theorem MO {α:Type} (a:α):atI [a] (-1) = some a:=kD [] a
@[simp] theorem KY (l:List O) (a b:O) (f:O -> O):uC (l ++ [a,b]) (-1) f = l ++ [a,f b]:=by
 have:=xT (l ++ [a]) b f
 rw [PZ,PZ] at this
 exact this
@[simp] theorem L0 (a:O) (f:O -> O):uC [a] (-1) f = [f a]:=xT [] a f
@[simp] theorem Lo (i:Int):rV (.int i) = some (.int i):=rfl
@[simp] theorem MU (i:Bool):rV (.bl i) = some (.bl i):=rfl
@[simp] theorem LG (i:Str):rV (.str i) = some (.str i):=rfl
@[simp] theorem LH:rV .non = some .non:=rfl
@[simp] theorem MQ (a b:O) (f:O -> O):uC [a,b] 1 f = [a,f b]:=rfl
theorem wg {n:Nat}:ixN (n + 1) (-1) = some n:=by
 unfold ixN
 rw [Pc (by decide),Pb (by lia)]
 congr 1
 lia
section
variable (i j:Int) (a b:List D) (neg:Bool) (ρ:Env)
@[simp] theorem N1:gD (.int i) (.int j) = some (.int (i - j)):=rfl
@[simp] theorem Ot:b5 (.int i) (.int j) = some (.int (i + j)):=rfl
@[simp] theorem Na:xx (.int i) (.int j) = some (.int (i + j)):=rfl
@[simp] theorem OW:dLt (.int i) (.int j) = some (.bl (decide (i < j))):=rfl
@[simp] theorem OP:dLe (.int i) (.int j) = some (.bl (decide (i <= j))):=rfl
@[simp] theorem O6:dGt (.int i) (.int j) = some (.bl (decide (j < i))):=rfl
@[simp] theorem OL:dGe (.int i) (.int j) = some (.bl (decide (j <= i))):=rfl
@[simp] theorem Os:hU (.int i) = some (.int (-i)):=rfl
@[simp] theorem Nj {i j:Int} (h:-18446744073709551616 < j /\ j < 18446744073709551616):Lu (.int i) (.int j) = some (.int (i * j)):=jJ (.inr h)
@[simp] theorem Ni {i j:Int} (h:-18446744073709551616 < i /\ i < 18446744073709551616):Lu (.int i) (.int j) = some (.int (i * j)):=jJ (.inl h)
@[simp] theorem Oy {i j:Int} (h:0 < j /\ j < 1073741824):IQ (.int i) (.int j) = some (.int (i / j)):=jJ h
@[simp] theorem Mb {i j:Int} (h:0 < j):mz (.int i) (.int j) = some (.int (i % j)):=jJ h
@[simp] theorem pK {i j:Int} (h:0 <= j /\ j <= 1000000 /\ i.natAbs < 18446744073709551616):wD (.int i) (.int j) = some (.int (i ^ j.toNat)):=jJ h
theorem Bv:b5 (.lst a) (.lst b) = if a.length + b.length <= LIM then some (.lst (a ++ b)) else none:=rfl
theorem BK:b5 (.tup a) (.tup b) = if a.length + b.length <= LIM then some (.tup (a ++ b)) else none:=rfl
@[simp] theorem N8 (d:D):NM neg d .non = some (.bl (if neg then !uE d else uE d)):=rfl
@[simp] theorem Mh:uE .non = true:=rfl
@[simp] theorem Lq:uE (.int i) = false:=rfl
@[simp] theorem LF:uE (.tup a) = false:=rfl
@[simp] theorem Oq:dIx (.lst a) (.int i) = atI a i:=rfl
@[simp] theorem Oc:dIx (.tup a) (.int i) = atI a i:=rfl
@[simp] theorem Od:dIx (.scr a) (.int i) = atI a i:=rfl
@[simp] theorem NH:A4 (.lst a) = some (!a.isEmpty):=rfl
@[simp] theorem Nz:A4 (.tup a) = some (!a.isEmpty):=rfl
@[simp] theorem NB:A4 (.scr a) = some (!a.isEmpty):=rfl
@[simp] theorem M7 (x:Bool):A4 (.bl x) = some x:=rfl
@[simp] theorem Nt:A4 (.int i) = some (i != 0):=rfl
@[simp] theorem ND:A4 .non = some false:=rfl
@[simp] theorem NY:nP [.lst a] = some (.int a.length):=rfl
@[simp] theorem NV:nP [.tup a] = some (.int a.length):=rfl
@[simp] theorem Nc:nP [.scr a] = some (.int a.length):=rfl
@[simp] theorem Nh:f9 [.lst a] = some (.tup a):=rfl
@[simp] theorem Ny:f9 [.tup a] = some (.tup a):=rfl
@[simp] theorem NZ:Fi [.lst a] = some a:=rfl
@[simp] theorem M1:Fi [.tup a] = some a:=rfl
@[simp] theorem Nw:Fi [.scr a] = some a:=rfl
@[simp] theorem Oo:xy [.int i,.int j] = some (.int (if j > i then j else i)):=rfl
@[simp] theorem Ol:xI [.int i,.int j] = some (.int (if j < i then j else i)):=rfl
@[simp] theorem Oh:Lm [.int i] = some (.int i):=rfl
@[simp] theorem NI (x:Bool):Lm [.bl x] = some (.int (if x then 1 else 0)):=rfl
@[simp] theorem Ng:BP (.lst a) = some a:=rfl
@[simp] theorem NG:BP (.tup a) = some a:=rfl
@[simp] theorem NL:BP (.scr a) = some a:=rfl
@[simp] theorem N9 (lo hi:Option Int):dSl (.lst a) lo hi = some (.lst (j8 a lo hi)):=rfl
@[simp] theorem OH (lo hi:Option Int):dSl (.tup a) lo hi = some (.tup (j8 a lo hi)):=rfl
@[simp] theorem N6 (lo hi:Option Int):dSl (.scr a) lo hi = some (.lst (j8 a lo hi)):=rfl
@[simp] theorem OJ (y:XGs):bj y (.tup a) ρ = y a ρ:=rfl
@[simp] theorem OZ (x:XG) (y:XGs) (d:D):au x y (d :: a) ρ = (x d ρ).bind (y a):=rfl
@[simp] theorem OU:bh [] ρ = some ρ:=rfl
@[simp] theorem NF:FQ [.int i,.ty "int"] = some (.bl true):=rfl
@[simp] theorem NU:FQ [.int i,.ty "bool"] = some (.bl false):=rfl
@[simp] theorem NR:FQ [.tup a,.ty "tuple"] = some (.bl true):=rfl
@[simp] theorem Nv:FQ [.lst a,.ty "list"] = some (.bl true):=rfl
@[simp] theorem MW (x:Bool):FQ [.bl x,.ty "bool"] = some (.bl true):=rfl
theorem Ju {j:Int} (h:0 <= j /\ j < 1000000):Cu [.int 0,.int j,.int 2] = some (gv 0 ((j + 1) / 2).toNat):=jJ ⟨rfl,rfl,h⟩
theorem LP {j:Int} (h:j < 1000000 /\ -1000000 < j):IE [.int j] = some (fc 0 j.toNat):=jJ h
end
abbrev owl (l:List D):Sl:=.ow (.lst (l.map O.sh))
@[simp] theorem MK (os:List O):Fu (.ow (.lst os)) = (shs os).map D.lst:=rfl
@[simp] theorem MV:shs [] = some []:=rfl
@[simp] theorem Aq (d:D) (l:List O):shs (.sh d :: l) = (shs l).map fun r=>d :: r:=rfl
@[simp] theorem MC (l:List D):shs (l.map O.sh) = some l:=t8 l
@[simp] theorem FI {α:Type} (f:α -> D) (l:List α):shs (l.map (O.sh ∘ f)) = some (l.map f):=by rw [<- PP];exact t8 _
@[simp] theorem Mp {α:Type} (f:α -> D) (l:List α):shs (l.map fun a=>O.sh (f a)) = some (l.map f):=FI f l
@[simp] theorem HA:∀ (a b:List O),shs (a ++ b) = (shs a).bind fun x=>(shs b).map fun y=>x ++ y
 | [],b=>by cases h:shs b <;> simp [h]
 | .sh d :: a,b=>by
  rw [List.cons_append,Aq,Aq,HA a b]
  cases shs a with
  | none=>rfl
  | some x=>cases shs b <;> rfl
 | .dic _ :: _,_=>rfl
 | .hd _ _ _ :: _,_=>rfl
 | .lst _ :: a,b=>rfl
 | .tup _ :: a,b=>rfl
@[simp] theorem Mw (o:O):eW o [] = some o:=by unfold eW;rfl
@[simp] theorem LV (l:List O) (k:Int) (r:List Int):eW (.lst l) (k :: r) = (atI l k).bind fun o=>eW o r:=rfl
@[simp] theorem Lr (l:List O) (k:Int) (r:List Int):eW (.tup l) (k :: r) = (atI l k).bind fun o=>eW o r:=rfl
@[simp] theorem LY (o q:O):kG o [] q = q:=by unfold kG;rfl
@[simp] theorem LR (l:List O) (k:Int) (r:List Int) (q:O):kG (.lst l) (k :: r) q = .lst (uC l k fun o=>kG o r q):=rfl
@[simp] theorem Mm (l:List O) (k:Int) (r:List Int) (q:O):kG (.tup l) (k :: r) q = .tup (uC l k fun o=>kG o r q):=rfl
@[simp] theorem Nk (d:D):O.d (.sh d) = d:=by unfold O.d;rfl
@[simp] theorem MS (l:List O):O.d (.lst l) = .lst (O.ds l):=by rw [O.d]
@[simp] theorem MT (l:List O):O.d (.tup l) = .tup (O.ds l):=by rw [O.d]
@[simp] theorem Lz:O.ds [] = []:=by rw [O.ds]
@[simp] theorem Et (o:O) (l:List O):O.ds (o :: l) = o.d :: O.ds l:=by rw [O.ds]
@[simp] theorem Gz:∀ (a b:List O),O.ds (a ++ b) = O.ds a ++ O.ds b
 | [],b=>by simp
 | o :: a,b=>by simp [Gz a b]
@[simp] theorem Ao:∀ l:List D,O.ds (l.map O.sh) = l
 | []=>by simp
 | d :: l=>by simp [Ao l]
@[simp] theorem Li {α:Type} (f:α -> D) (l:List α):O.ds (l.map (O.sh ∘ f)) = l.map f:=by rw [<- PP];exact Ao _
@[simp] theorem Oa {α:Type} (a b:α):atI [a,b] 0 = some a:=rfl
@[simp] theorem Ow {α:Type} (a b:α):atI [a,b] 1 = some b:=rfl
@[simp] theorem Oj {α:Type} (a b c:α):atI [a,b,c] 0 = some a:=rfl
@[simp] theorem OC {α:Type} (a b c:α):atI [a,b,c] 1 = some b:=rfl
@[simp] theorem OA {α:Type} (a b c:α):atI [a,b,c] 2 = some c:=rfl
theorem gJ:LIM = 1000000:=by unfold LIM;rfl
@[simp] theorem O4:(0:Nat) <= LIM:=P8 _
@[simp] theorem O5:(1:Nat) <= LIM:=by rw [gJ];decide
@[simp] theorem Pa:(2:Nat) <= LIM:=by rw [gJ];decide
@[simp] theorem OX:(3:Nat) <= LIM:=by rw [gJ];decide
@[simp] theorem OQ:(4:Nat) <= LIM:=by rw [gJ];decide
@[simp] theorem OM:(5:Nat) <= LIM:=by rw [gJ];decide
@[simp] theorem OS:(6:Nat) <= LIM:=by rw [gJ];decide
@[simp] theorem OY:(7:Nat) <= LIM:=by rw [gJ];decide
@[simp] theorem O3:(8:Nat) <= LIM:=by rw [gJ];decide
@[simp] theorem OK:(9:Nat) <= LIM:=by rw [gJ];decide
@[simp] theorem OG:(10:Nat) <= LIM:=by rw [gJ];decide
@[simp] theorem N0:(0:Nat) < LIM:=by rw [gJ];decide
theorem KS (p q:Int × Int):eqD (prD p) (prD q) = decide (p = q):=by
 obtain ⟨a,b⟩:=p
 obtain ⟨c,d⟩:=q
 simp [prD,eqD,eqDs,Prod.ext_iff]
 by_cases h1:a = c <;> by_cases h2:b = d <;> simp [h1,h2]
theorem zI:∀ r t:List (Int × Int),eqDs (r.map prD) (t.map prD) = decide (r = t)
 | [],[]=>rfl
 | [],_ :: _=>by simp [eqDs]
 | _ :: _,[]=>by simp [eqDs]
 | p :: r,q :: t=>by
  rw [Px,Px,eqDs,KS,zI r t]
  by_cases h1:p = q <;> by_cases h2:r = t <;> simp [h1,h2]
theorem Hr (r t:List (Int × Int)):eqD (cu r) (cu t) = decide (r = t):=by
 unfold cu
 rw [eqD,zI]
theorem uw (n:Nat):∀ r:List (Int × Int),okDs (n + 1) (r.map prD) = true
 | []=>by simp [okDs]
 | p :: r=>by rw [Px,okDs,uw n r];simp [prD,okD,okDs]
theorem CC (r:List (Int × Int)):okD 50 (cu r) = true:=by
 unfold cu
 rw [okD]
 exact uw 48 r
theorem HF (neg:Bool) (r t:List (Int × Int)):dEq neg (cu r) (cu t) = some (.bl (if neg then !decide (r = t) else decide (r = t))):=by
 unfold dEq
 rw [Pb ⟨CC r,CC t⟩,Hr]
@[simp] theorem MP (neg:Bool) (i j:Int):dEq neg (.int i) (.int j) = some (.bl (if neg then !decide (i = j) else decide (i = j))):=by
 unfold dEq
 rw [Pb ⟨by simp [okD],by simp [okD]⟩]
 have:eqD (.int i) (.int j) = decide (i = j):=by simp [eqD];by_cases h:i = j <;> simp [h]
 rw [this]
@[simp] theorem M4 (neg:Bool) (i j:Bool):dEq neg (.bl i) (.bl j) = some (.bl (if neg then !decide (i = j) else decide (i = j))):=by
 unfold dEq
 rw [Pb ⟨by simp [okD],by simp [okD]⟩]
 have:eqD (.bl i) (.bl j) = decide (i = j):=by simp [eqD];by_cases h:i = j <;> simp [h]
 rw [this]
theorem xo {K:W.Frag} {S:Hp}:∀ ns:List Int,Dens K S (ns.map D.int) (ns.map V.int)
 | []=>.nil
 | n :: ns=>.cons (den_int.mpr rfl) (xo ns)
theorem EG {K:W.Frag} {H:Hp} {a:Addr} {ns:List Int} {m:List D -> Option O} {E:XK} (hS:SqL K H a (ns.map V.int)) (h:(m [.scr (ns.map D.int)]).map O.d = some (.bl true)):cS K 1 m [.ref a] H (fun v _=>v = .bl true) E:=by
 cases q:m [.scr (ns.map D.int)] with
 | none=>rw [q] at h;cases h
 | some o=>
  rw [q] at h
  have e:o.d = .bl true:=P6 h
  exact ⟨rfl,H,[.scr (ns.map D.int)],o,Same.refl _,.cons (den_scr.mpr ⟨a,_,rfl,hS,xo ns⟩) .nil,q,fun v fp S' H' z ow _ _=>by
   have dv:=ow.denH z.sub
   rw [e] at dv
   exact den_bl.mp dv⟩
end M
namespace L2
open PySem PySem.Spec PyProof.Rows
theorem kQ:bootBuiltins "len" = some (.builtin "len"):=by decide +kernel
theorem nG:bootBuiltins "sorted" = some (.builtin "sorted"):=by decide +kernel
theorem yz:bootBuiltins "max" = some (.builtin "max"):=by decide +kernel
theorem uA:bootBuiltins "min" = some (.builtin "min"):=by decide +kernel
theorem KU:bootBuiltins "sum" = some (.builtin "sum"):=by decide +kernel
theorem n8:bootBuiltins "isinstance" = some (.builtin "isinstance"):=by decide +kernel
theorem fe:bootBuiltins "tuple" = some (.type "tuple"):=by decide +kernel
section
variable {X:Cx}
theorem AO:∀ a b:List Int,Srt.jD a b = HT.cT a b
 | [],[]=>rfl
 | [],_ :: _=>rfl
 | _ :: _,[]=>rfl
 | x :: xs,y :: ys=>by
  rw [HT.BD,<- AO xs ys]
  rfl
end
end L2
namespace Rev
open PySem
section
variable {prog:Program} {w:World} {A:Around} {s:Shared} {R:Result -> Shared -> Prop} {I:Addr} {fp wr:List Addr} {G:Array GenState -> Array GenState -> Prop} {n:Nat} {P:Nat -> Value -> Prop} {St:Nat -> Shared -> Prop}
end
section
variable {prog:Program} {w:World} {A:Around} {E:Value -> Shared -> Prop} {s:Shared} {I:Addr} {fp wr:List Addr} {G:Array GenState -> Array GenState -> Prop} {n:Nat} {P:Nat -> Value -> Prop} {St:Nat -> Shared -> Prop}
end
end Rev
namespace L2
open PySem PySem.Spec PyProof.Rows
theorem AS:bootBuiltins "reversed" = some (.type "reversed"):=by decide +kernel
section
variable {X:Cx} {tg:Expr}
theorem bG {l:Expr} {tl:TE} (hl:PE X l tl):PI X tg l (Kp X.K tl):=by
 intro pins s σ H R I h
 refine thn (hl pins s σ H _ I h) fun v s1 h1=>?_
 obtain ⟨x,H1,I1,r1,a,e,q⟩:=h1
 subst e
 cases r1
 rcases q with ⟨⟨xs,hq⟩,q⟩ | ⟨⟨xs,hq⟩,q⟩
 ·obtain ⟨its,rv,p,hz⟩:=I1.list hq
  refine wpAny_pyIter_list p.isList ⟨s1.heap.objs.size,[s1.heap.objs.size],_,_,H1,rfl,I1.kept (t':=s1.toks) fun b o e=>Pz _ e,Eb a _,⟨_,P7 _ rfl,rfl,rfl⟩,fun b hb=>?_,q⟩
  rw [Pi.mp hb]
  exact I1.fpOk (Pj _) I1.fresh
 ·obtain ⟨its,rv,p,hz⟩:=I1.tuple hq
  refine wpAny_pyIter_tuple (show s1.heap.IsTuple a its.toArray from p) ⟨s1.heap.objs.size,[s1.heap.objs.size],_,_,H1,rfl,I1.kept (t':=s1.toks) fun b o e=>Pz _ e,Bx a _,⟨_,P7 _ rfl,rfl,rfl⟩,fun b hb=>?_,q⟩
  rw [Pi.mp hb]
  exact I1.fpOk (Pj _) I1.fresh
end
section
variable {X:Cx} {tg:Expr}
theorem xV:∀ {vs:List Value} {ns:List Int},IntsAre vs ns -> Vals (ns.map V.int) vs
 | _,_,.nil=>.nil
 | _,_,.cons n t h=>.cons ⟨t,rfl⟩ (xV h)
theorem call_sortedI:CallR X (.builtin "sorted") (Al X.K):=by
 intro pins s σ H xs us Q I r h
 obtain ⟨p,ns,rfl,hS,h64,k⟩:=h
 obtain ⟨u,rfl,ru⟩:=r.one
 cases ru
 obtain ⟨its,rv,pl,hz⟩:=I.list hS
 have hI:IntsAre its ns:=jd rv
 have hl:its.length = ns.length:=by have:=rv.length;rw [Ph] at this;exact this.symm
 refine Srt.y7 pl.isList hI (by rw [Qb];lia) fun out ms ho perm pw=>?_
 obtain ⟨e,at1⟩:=sortedAll_at s.heap its out
 have fresh:s.heap.objs.size <= s.heap.objs.size + 1:=QJ _
 refine ⟨.ref (s.heap.objs.size + 1),upd H (s.heap.objs.size + 1) (.lst (ms.map V.int)),I.laid (t':=s.toks) (fun b o hb=>sortedAll_old hb) fresh ?_,rfl,k ms _ perm pw (I.hok.fresh fresh)⟩
 exact ⟨by rw [Ph,perm.length_eq,Qb];lia,out.toList,e,xV ho,by simpa using at1⟩
theorem D4 (hc:X.calm = true):CallR X (.builtin "sum") (Jr X.K):=by
 intro pins s σ H xs us Q I r h
 obtain ⟨p,ns,rfl,hS,q⟩:=h
 obtain ⟨u,rfl,ru⟩:=r.one
 cases ru
 obtain ⟨its,rv,pl,hz⟩:=I.list hS
 have hI:IntsAre its ns:=jd rv
 obtain ⟨ys,e⟩:=hI.allInts.items
 have hl:=pl.isList
 have en:ns = ys.toList.map (·.1):=by
  rw [<- nums_intItems,<- e]
  simpa using hI.numsOf.symm
 rw [e] at hl
 refine sum_intListG (I.ok.hd hc) hl fun h' tk t' hk=>⟨.int ns.sum,H,I.kept hk,⟨t',?_⟩,q⟩
 rw [preSum_eq,Rv (by simp),en]
theorem DZ {j:Int} (h0:0 <= j) (h1:j < 1000000):Builtin.Range.small 0 j 2 = true:=by
 unfold Builtin.Range.small
 rw [rangeSize_pos (by decide) h0]
 simp only [Builtin.Range.rangeFitsLong,Qh,Bool.or_eq_true,decide_eq_true_eq,Qf,show (2:Int) > 0 by decide,QK]
 have e:(2:Int) ^ 63 = 9223372036854775808:=by decide
 lia
theorem FL {P:Program} {w:World} {K:W.Frag} (it:Addr) (n:Nat):Turn P w K tg (KE n) [it] it (fun i h=>IsRangeIter h it (0 + (i:Nat) * 2) ((n:Int) - (i:Nat)) 2) where
 mem:=by simp
 obj:=fun i h st b hb=>by
  rw [Pi.mp hb]
  exact ⟨_,st,fun v z=>by have z':Data.fields _ = Data.cell v:=z;cases z'⟩
 keep:=fun i h h' st k=>k it (by simp) _ st
 item:=by
  intro X hP hw hK hc i pins s σ H E I hf st hg
  subst hP hw hK
  obtain ⟨f0,f1,f2,f3,f4,f5⟩:=hf it (by simp)
  refine (Walks.range (prog:=X.prog) (w:=X.w) (I.ok.hd hc) it 0 2 n).item i s _ _ hg st fun v h' tk hv st' kk=>?_
  obtain ⟨t,rfl⟩:=hv
  have I1:Inv X pins σ H { s with heap:=h',toks:=tk }:=I.turned (fun b o hb e=>kk b o (fun z=>hb (Pi.mp z)) e) f0 f1 f3 f4 f5
  refine ⟨_,rfl,Aa (s:={ s with heap:=h',toks:=tk }) (n := "range_iterator") st' rfl rfl (by decide) ⟨.int (2 * i),H,I1,⟨t,?_⟩,⟨rfl,rfl⟩,st',fun b hb=>(hf b hb).1⟩⟩
  rw [Int.zero_add,Int.mul_comm]
 done:=by
  intro X hP hw hK hc i pins s σ H E I hf st hg
  subst hP hw hK
  obtain ⟨f0,f1,f2,f3,f4,f5⟩:=hf it (by simp)
  exact wpAny_pyNext_range_end (I.ok.hd hc) st (by have:n <= i:=hg;lia) fun h' eb=>⟨rfl,I.turned (t':=s.toks) (fun b o hb e=>eb b o hb e) f0 f1 f3 f4 f5⟩
 self:=fun _ _ _ _ _ st h=>wpAny_pyIter_rangeiter st h
theorem Jx {pins:List (Addr × Obj)} {σ:St} {H:Hp} {s:Shared} {R:It -> Hp -> Prop} {E:Value -> Shared -> Prop} {j:Int} {t u v:Tok} {tk:Nat} (I:Inv X pins σ H s) (h1:0 <= j) (h2:j < 1000000) (q:R (KE ((j + 1) / 2).toNat) H) :
  wpAny (model X.prog X.w) X.A (pyIter (.ref s.heap.objs.size)) (PIE X pins σ tg R) E { s with heap:=s.heap.push { cls:=.type "range",data:=.fields #[.int 0 t,.int j u,.int 2 v] },toks:=tk }:=by
 refine wpAny_pyIter_range (IsRange.new ..) (DZ h1 h2) ?_
 have I1:Inv X pins σ H { s with heap:=s.heap.push { cls:=.type "range",data:=.fields #[.int 0 t,.int j u,.int 2 v] },toks:=tk }:=I.kept fun b o e=>Pz _ e
 refine ⟨(s.heap.push { cls:=.type "range",data:=.fields #[.int 0 t,.int j u,.int 2 v] }).objs.size,[(s.heap.push { cls:=.type "range",data:=.fields #[.int 0 t,.int j u,.int 2 v] }).objs.size],_,_,H,rfl,I1.kept (t':=tk) fun b o e=>Pz _ e,FL _ ((j + 1) / 2).toNat,?_,fun b hb=>?_,q⟩
 ·have e1:(0:Int) + ((0:Nat):Int) * 2 = 0:=by simp
  have e2:((((j + 1) / 2).toNat:Nat):Int) - ((0:Nat):Int) = Builtin.Range.rangeSize 0 j 2:=by rw [rangeSize_pos (by decide) h1];lia
  show IsRangeIter _ _ (0 + ((0:Nat):Int) * 2) (((((j + 1) / 2).toNat:Nat):Int) - ((0:Nat):Int)) 2
  rw [e1,e2]
  exact P7 _ rfl
 ·rw [Pi.mp hb]
  exact I1.fpOk (Pj _) I1.fresh
theorem Ei {a b c:Expr} {ta:TA} {p pos:Pos} (hg:Gl X "range") (hm:X.mg "range" = none) (ha:PA X [a,b,c] ta) (hs:starEach [a,b,c] X.env = (false,eval a X.env) :: starEach [b,c] X.env:=by rfl)
  (hp:(backTo pos (starEach [b,c] X.env)).any (·.1) = false:=by rfl):PI X tg (.Call (.Name "range" p) [a,b,c] [] pos) (Jp ta):=by
 intro pins s σ H R I h
 refine Call_ (rY I hg hm boot_range (RH (thn (ha pos pins s σ H _ I h) fun us s1 h1=>?_) hs hp))
 obtain ⟨vs,H1,I1,r1,j,rfl,q1,q2,q⟩:=h1
 cases r1 with
 | cons r rr=>
  cases rr with
  | cons r' rr=>
   cases rr with
   | cons r'' rr=>
    cases rr
    obtain ⟨t,rfl⟩:=r
    obtain ⟨t',rfl⟩:=r'
    obtain ⟨t'',rfl⟩:=r''
    exact call_range_3 (by decide) (Jx I1 q1 q2 q)
end
end L2
namespace HT
open PySem PySem.Spec PyProof.Rows
section
variable {prog:Program} {w:World} {A:Around} {E:Value -> Shared -> Prop} {s:Shared}
theorem nO {t sl:Addr} {items:Array Value} {vl vu:Value} {lo hi:Option Int} {Q:Value -> Shared -> Prop} (ht:IsTup s.heap t items) (hs:s.heap.IsSliceOf sl vl vu .none) (pl:IsPart vl lo) (pu:IsPart vu hi)
  (hw:sIx items.size 0 lo = 0 /\ sIx items.size items.size hi = items.size) (h:Q (.ref t) s):wpAny (model prog w) A (getItem (.ref t) (.ref sl)) Q E s:=by
 obtain ⟨os,hos,hcs,hds⟩:=id hs
 have hTs:s.TypeIs (.ref sl) "slice" := ⟨os,hos,hcs⟩
 unfold getItem
 try with_reducible refine QC ?_
 first | refine Pg (Pl ?_) | skip
 refine Pg (wpAny_sequenceKey ht.typeIs (by decide) ?_)
 refine Pg (RJ (name:=Str.ofString "__getitem__") ht.typeIs Q5
  (Q6 Q5 ht.typeIs entry_tuple_getitem ?_ (args_tuple_getitem _ _)))
 show wpAny _ _ (Builtin.Tuple.tupleItemsOf (.ref t) >>= _) _ _ s
 refine Pg (tupleItemsOf_ ht ?_)
 refine Pg (wpAny_typeOf hTs ?_)
 rw [Pb (by decide)]
 refine Pg (kl hs pl pu ?_)
 have hyes:((((sIx items.size 0 lo:Nat):Int) == 0 && (1:Int) == 1 && (sIx items.size items.size hi - sIx items.size 0 lo) == items.size) = true):=by
  rw [hw.1,hw.2]
  simp
 show wpAny _ _ (if (((sIx items.size 0 lo:Nat):Int) == 0 && (1:Int) == 1 && (sIx items.size items.size hi - sIx items.size 0 lo) == items.size) = true then _ else _) _ _ s
 rw [Pb hyes]
 refine Pg (m:=Builtin.Tuple.tupleIsExact _) (Pg (wpAny_typeOf ht.typeIs (Pl ?_)))
 rw [Pb (by decide)]
 exact Pg (QE (Pl ⟨_,rfl,Pl h⟩))
end
end HT
namespace L2
open PySem PySem.Spec PyProof.Rows M
theorem Inv.rdl {X:Cx} {pins:List (Addr × Obj)} {σ:St} {H:Hp} {s:Shared} {l:Addr} {xs:List V} (I:Inv X pins σ H s) (h:Rd H l (.lst xs)):xs.length <= sizeLine /\ ∃ (its:List Value) (n:Nat),Vals xs its /\ xs.length = its.length /\ s.heap.get? l = some { cls:=.type "list",data:=.seq its.toArray n }:=by
 obtain ⟨h1,its,n,r,e⟩:=(show ObjOk X.prog X.w H s.heap l (.lst xs) from h.ok I.hok)
 exact ⟨h1,its,n,r,r.length,e⟩
section
variable {X:Cx}
theorem op_catM:OpR X (binaryOp .Add) Je:=by
 intro pins s σ H x y v u Q I rx ry h
 obtain ⟨l,b,xs,zs,rfl,rfl,hH,hB,hz,q⟩:=h
 cases rx
 cases ry
 obtain ⟨z,its,n,r,hl,e⟩:=I.rdl hH
 obtain ⟨z2,its2,n2,r2,hl2,e2⟩:=I.rdl hB
 refine PySem.P.add_list e e2 ?_ (by rw [PK,PK];lia)
 have ea:its.toArray ++ its2.toArray = (its ++ its2).toArray:=by simp
 rw [ea]
 exact ⟨.ref _,_,I.lnew (t':=s.toks) (r.append r2) (by rw [Ps];lia),rfl,q _ I.fresh⟩
theorem op_tupM:OpR X (binaryOp .Add) (Jf X.K):=by
 intro pins s σ H x y v u Q I rx ry h
 obtain ⟨a,b,xs,ys,rfl,rfl,ha,hb,hz,q1,q2,q⟩:=h
 cases rx
 cases ry
 obtain ⟨its,r1,p1,_⟩:=I.tuple ha
 obtain ⟨its2,r2,p2,_⟩:=I.tuple hb
 have hz2:its.length + its2.length <= sizeLine:=by rw [<- r1.length,<- r2.length];exact hz
 by_cases hv:its = []
 ·have hx:xs = []:=r1.nil_iff.mp hv
  obtain ⟨⟨cls,dd,data,sl⟩,ho,hc,n,hd⟩:=id p1
  obtain ⟨⟨cls2,dd2,data2,sl2⟩,ho2,hc2,n2,hd2⟩:=id p2
  simp only at hc hd hc2 hd2;subst hc hd hc2 hd2
  exact concat_meets ⟨_,ho,rfl⟩ ⟨_,ho2,rfl⟩ noFill_tuple_add seq_tuple_add RX RY (RZ (.ref a) (.ref b)) (tuple_addW0 a b its.toArray its2.toArray n n2 dd dd2 sl sl2 (by simp [hv])) ⟨ho,ho2,⟨.ref b,H,I,rfl,q2 hx⟩⟩
 ·refine HT.Iw p1 p2 hv (fun z=>⟨.ref a,H,I,rfl,q1 (r2.nil_iff.mp z)⟩) (fun z=>?_) hz2
  refine ⟨.ref s.heap.objs.size,_,I.laid (t':=s.toks) (o:=.tup (xs ++ ys)) (fun b ob e=>Pz _ e) (Pj _) ?_,rfl,q _ (I.hok.fresh (Pj _))⟩
  exact ⟨by rw [Ps];exact hz,_,r1.append r2,IsTup.new _ _⟩
theorem HD:OpR X (binaryOp .Add) Ji:=Ce
theorem bi:OpR X (binaryOp .Add) (IW X.K):=op_add.or (op_catM.or (op_tupM.or HD))
mutual
def pyD:D -> PyData
 | .non=>.none
 | .bl b=>.bool b
 | .int i=>.int i
 | .str x=>.str x
 | .lst l=>.list (pyDs l)
 | .tup l=>.tuple (pyDs l)
 | _=>.none
def pyDs:List D -> List PyData
 | []=>[]
 | d :: l=>pyD d :: pyDs l
end
mutual
theorem vR:∀ (n:Nat) (d:D),okD n d = true -> (pyD d).canLay0 = true /\ (pyD d).depth <= n
 | _,.non,_=>by simp [pyD,PyData.canLay0,PyData.depth]
 | _,.bl _,_=>by simp [pyD,PyData.canLay0,PyData.depth]
 | _,.int _,_=>by simp [pyD,PyData.canLay0,PyData.depth]
 | n,.str x,h=>by
  have h':PyData.strOk x = true:=by cases n <;> simpa [okD] using h
  simp [pyD,PyData.canLay0,PyData.depth,h']
 | 0,.lst l,h=>by simp [okD] at h
 | n + 1,.lst l,h=>by
  obtain ⟨a,b⟩:=yq n l (by simpa [okD] using h)
  simp only [pyD,PyData.canLay0,PyData.depth]
  exact ⟨a,by lia⟩
 | 0,.tup l,h=>by simp [okD] at h
 | n + 1,.tup l,h=>by
  obtain ⟨a,b⟩:=yq n l (by simpa [okD] using h)
  simp only [pyD,PyData.canLay0,PyData.depth]
  exact ⟨a,by lia⟩
 | n,.ty _,h=>by cases n <;> simp [okD] at h
 | n,.scr _,h=>by cases n <;> simp [okD] at h
 | n,.ins _ _ _,h=>by cases n <;> simp [okD] at h
theorem yq:∀ (n:Nat) (l:List D),okDs n l = true -> PyData.canLayAll0 (pyDs l) = true /\ PyData.depthAll (pyDs l) <= n
 | _,[],_=>by simp [pyDs,PyData.canLayAll0,PyData.depthAll]
 | n,d :: l,h=>by
  rw [okDs,Qh] at h
  obtain ⟨a,b⟩:=vR n d h.1
  obtain ⟨c,e⟩:=yq n l h.2
  simp only [pyDs,PyData.canLayAll0,PyData.depthAll,a,c]
  exact ⟨rfl,by lia⟩
end
mutual
theorem Cg:∀ (n m:Nat) (d e:D),okD n d = true -> okD m e = true -> PyData.eqv (pyD d) (pyD e) = eqD d e
 | n,m,.non,e,_,he=>by cases e <;> first | (simp [pyD,PyData.eqv,eqD];done) | (cases m <;> simp [okD] at he)
 | n,m,.bl _,e,_,he=>by cases e <;> first | (simp [pyD,PyData.eqv,eqD];done) | (cases m <;> simp [okD] at he)
 | n,m,.int _,e,_,he=>by cases e <;> first | (simp [pyD,PyData.eqv,eqD];done) | (cases m <;> simp [okD] at he)
 | n,m,.str _,e,_,he=>by cases e <;> first | (simp [pyD,PyData.eqv,eqD];done) | (cases m <;> simp [okD] at he)
 | 0,m,.lst _,e,hd,he=>by simp [okD] at hd
 | n + 1,m,.lst l,e,hd,he=>by
  cases e with
  | lst l'=>
   cases m with
   | zero=>simp [okD] at he
   | succ m=>
    simp only [pyD,PyData.eqv,eqD]
    exact eqvs_is n m l l' (by simpa [okD] using hd) (by simpa [okD] using he)
  | _=>first | (simp [pyD,PyData.eqv,eqD];done) | (cases m <;> simp [okD] at he)
 | 0,m,.tup _,e,hd,he=>by simp [okD] at hd
 | n + 1,m,.tup l,e,hd,he=>by
  cases e with
  | tup l'=>
   cases m with
   | zero=>simp [okD] at he
   | succ m=>
    simp only [pyD,PyData.eqv,eqD]
    exact eqvs_is n m l l' (by simpa [okD] using hd) (by simpa [okD] using he)
  | _=>first | (simp [pyD,PyData.eqv,eqD];done) | (cases m <;> simp [okD] at he)
 | n,_,.ty _,_,h,_=>by cases n <;> simp [okD] at h
 | n,_,.scr _,_,h,_=>by cases n <;> simp [okD] at h
 | n,_,.ins _ _ _,_,h,_=>by cases n <;> simp [okD] at h
theorem eqvs_is:∀ (n m:Nat) (l l':List D),okDs n l = true -> okDs m l' = true -> PyData.eqvAll (pyDs l) (pyDs l') = eqDs l l'
 | _,_,[],[],_,_=>by simp [pyDs,PyData.eqvAll,eqDs]
 | _,_,[],_ :: _,_,_=>by simp [pyDs,PyData.eqvAll,eqDs]
 | _,_,_ :: _,[],_,_=>by simp [pyDs,PyData.eqvAll,eqDs]
 | n,m,d :: l,e :: l',hd,he=>by
  rw [okDs,Qh] at hd he
  rw [pyDs,pyDs,PyData.eqvAll,eqDs,Cg n m d e hd.1 he.1,eqvs_is n m l l' hd.2 he.2]
end
mutual
theorem kM {pins:List (Addr × Obj)} {σ:St} {H:Hp} {s:Shared} (I:Inv X pins σ H s):∀ (n:Nat) {d:D} {x:V} {v:Value},okD n d = true -> Den X.K H d x -> RelV x v -> ∃ as,Reads s.heap v (pyD d) as
 | _,.non,x,v,_,dx,r=>by rw [den_non.mp dx] at r;cases r;exact ⟨_,.none⟩
 | _,.bl b,x,v,_,dx,r=>by rw [den_bl.mp dx] at r;cases r;exact ⟨_,.bool b⟩
 | _,.int i,x,v,_,dx,r=>by rw [den_int.mp dx] at r;obtain ⟨t,rfl⟩:=r;exact ⟨_,.int i t⟩
 | _,.str y,x,v,_,dx,r=>by rw [den_str.mp dx] at r;obtain ⟨t,rfl⟩:=r;exact ⟨_,.str y t⟩
 | 0,.lst _,x,v,h,dx,r=>by simp [okD] at h
 | n + 1,.lst l,x,v,h,dx,r=>by
  obtain ⟨p,xs,rfl,hp,ds⟩:=den_lst.mp dx
  cases r
  obtain ⟨_,its,k,rv,_,e⟩:=I.rdl hp
  obtain ⟨as,ra⟩:=dens_reads I n (by simpa [okD] using h) ds rv
  exact ⟨_,.list e rfl rfl (by simpa using ra)⟩
 | 0,.tup _,x,v,h,dx,r=>by simp [okD] at h
 | n + 1,.tup l,x,v,h,dx,r=>by
  obtain ⟨p,xs,rfl,hp,ds⟩:=jn dx
  cases r
  obtain ⟨its,rv,⟨o,e,c,k,d⟩,_⟩:=I.tuple hp
  obtain ⟨as,ra⟩:=dens_reads I n (by simpa [okD] using h) ds rv
  exact ⟨_,.tuple e c d (by simpa using ra)⟩
 | n,.ty _,_,_,h,_,_=>by cases n <;> simp [okD] at h
 | n,.scr _,_,_,h,_,_=>by cases n <;> simp [okD] at h
 | n,.ins _ _ _,_,_,h,_,_=>by cases n <;> simp [okD] at h
theorem dens_reads {pins:List (Addr × Obj)} {σ:St} {H:Hp} {s:Shared} (I:Inv X pins σ H s):∀ (n:Nat) {ds:List D} {xs:List V} {vs:List Value},okDs n ds = true -> Dens X.K H ds xs -> Vals xs vs -> ∃ as,ReadsAll s.heap vs (pyDs ds) as
 | _,[],xs,vs,_,d,r=>by
  rw [d.nil_of] at r
  cases r
  exact ⟨_,.nil⟩
 | n,d :: ds,xs,vs,h,dd,r=>by
  rw [okDs,Qh] at h
  obtain ⟨y,ys,rfl,a,b⟩:=dd.cons_of
  cases r with
  | cons r rr=>
   obtain ⟨as,ra⟩:=kM I n h.1 a r
   obtain ⟨bs,rb⟩:=dens_reads I n h.2 b rr
   exact ⟨_,.cons ra rb⟩
end
theorem eD (hu:X.A.units + 64 < cLine):OpR X (compareOp .Eq) (Ks X.K false):=by
 intro pins s σ H x y v u Q I rx ry h
 obtain ⟨S,d,e,sm,dx,dy,cd,ce,q⟩:=h
 obtain ⟨as,ra⟩:=kM I 50 cd (vL sm dx) rx
 obtain ⟨bs,rb⟩:=kM I 50 ce (vL sm dy) ry
 obtain ⟨a1,a2⟩:=vR 50 d cd
 obtain ⟨b1,b2⟩:=vR 50 e ce
 have hm:=Nat.min_le_left (pyD d).depth (pyD e).depth
 refine SeqAt.compareEq_reads ra rb a1 b1 (by lia) ⟨.bl _,H,I,rfl,?_⟩
 rw [Cg 50 50 d e cd ce]
 exact q
theorem g7 (hu:X.A.units + 64 < cLine):OpR X (compareOp .NotEq) (Ks X.K true):=by
 intro pins s σ H x y v u Q I rx ry h
 obtain ⟨S,d,e,sm,dx,dy,cd,ce,q⟩:=h
 obtain ⟨as,ra⟩:=kM I 50 cd (vL sm dx) rx
 obtain ⟨bs,rb⟩:=kM I 50 ce (vL sm dy) ry
 obtain ⟨a1,a2⟩:=vR 50 d cd
 obtain ⟨b1,b2⟩:=vR 50 e ce
 have hm:=Nat.min_le_left (pyD d).depth (pyD e).depth
 refine SeqAt.compareNe_reads ra rb a1 b1 (by lia) ⟨.bl _,H,I,rfl,?_⟩
 rw [Cg 50 50 d e cd ce]
 exact q
theorem eS:CallR X (.builtin "len") (Jh X.K):=Fw
theorem C1:MtM X "list.extend" rExtM:=by
 intro pins s σ H x vs v us Q I rx rv h
 obtain ⟨l,b,xs,zs,rfl,rfl,hH,hB,hz,q⟩:=h
 cases rx
 obtain ⟨u,rfl,ru⟩:=rv.one
 cases ru
 obtain ⟨z,its,n,r,hl,e⟩:=I.lstM hH
 obtain ⟨z2,its2,n2,r2,hl2,e2⟩:=I.rdl hB
 have hsz:its.toArray.size + its2.toArray.size <= sizeLine:=by rw [PK,PK];lia
 have hlong:¬ (!its.toArray.isEmpty && Builtin.List.listTooLong (its.toArray.size + its2.toArray.size)) = true:=by
  rw [Gg hsz,Bool.and_false]
  exact QU
 refine call_meets F.slot_list_extend ⟨_,e,rfl⟩ F.entry_list_extend (F.args_list_extend_2 _ _)
  (AutoSeq1.list_extend_list_list_0 l its.toArray n b its2.toArray n2 hlong (by rw [PK];lia) (by lia)) ⟨e,e2,?_⟩
 refine ⟨.non,_,I.lset (its':=its ++ its2) hH e (by simp) (r.append r2) ?_,rfl,q⟩
 rw [Ps]
 lia
theorem Kf:SlR X (Mz X.K):=by
 refine SlR.or Iq ?_
 intro pins s σ H x v vl vu lo hi sl Q I rx hs pl pu h
 obtain ⟨a,xs,rfl,hx,q1,q2⟩:=h
 cases rx
 by_cases hw:HT.sIx xs.length 0 lo = 0 /\ HT.sIx xs.length xs.length hi = xs.length
 ·obtain ⟨its,r,ht,hz⟩:=I.tuple hx
  have hlen:its.toArray.size = xs.length:=by rw [PK];exact r.length.symm
  have hcut:o6 xs lo hi = xs:=by
   unfold o6
   rw [hw.1,hw.2,List.drop_zero,Nat.sub_zero,Rv (Pj _)]
  refine ⟨"tuple",_,Q5.lookup,ht.typeIs,?_⟩
  exact HT.nO ht hs pl pu (by rw [hlen];exact hw) ⟨.ref a,H,I,rfl,q1 hcut⟩
 ·exact Kq pins s σ H (.ref a) (.ref a) vl vu lo hi sl Q I rfl hs pl pu ⟨a,xs,rfl,hx,hw,q2⟩
theorem B1:CallR X (.builtin "sorted") (F9 X.K):=by
 intro pins s σ H xs us Q I r h
 obtain ⟨p,yks,rfl,hS,h64,hk,k⟩:=h
 obtain ⟨u,rfl,ru⟩:=r.one
 cases ru
 obtain ⟨its,rv,pl,hz⟩:=I.list hS
 have hl:yks.length = its.length:=by rw [<- rv.length,Ph]
 have atI:∀ i,i < its.length -> ∃ yk,yks[i]? = some yk /\ yks.getD i (.non,[]) = yk /\ RelV yk.1 (its.getD i Value.none):=fun i hi=>by
  have ey:yks[i]? = some yks[i]:=Qi (by lia)
  have ex:(yks.map (·.1))[i]? = some yks[i].1:=by rw [PN,ey];rfl
  obtain ⟨v,ev,rl⟩:=rv.get ex
  exact ⟨_,ey,by rw [R8,ey];rfl,by rw [R8,ev];exact rl⟩
 have tup:∀ i,i < its.length -> Srt.L6 s.heap (its.getD i Value.none) (yks.getD i (.non,[])).2 /\ (yks.getD i (.non,[])).2 ≠ []:=fun i hi=>by
  obtain ⟨yk,e1,e2,rl⟩:=atI i hi
  obtain ⟨q,e3,e4,e5⟩:=hk _ (QW e1)
  rw [e2]
  refine ⟨?_,e5⟩
  rw [e3] at rl
  have rl':its.getD i Value.none = Value.ref q:=rl
  obtain ⟨js,rj,⟨o,ho,hc,n,hd⟩,_⟩:=I.tuple e4
  refine ⟨q,o,js.toArray,n,rl',ho,hc,hd,?_⟩
  simpa using jd rj
 refine Srt.wS (Srt.G8 fun i=>(yks.getD i (.non,[])).2) pl.isList (by rw [Qb];lia) (Srt.BV tup) fun q hq ha=>?_
 obtain ⟨pv,pw⟩:=Srt.BR (vs:=its) (d:=Value.none) hq ha
 rw [<- hl] at hq ha
 obtain ⟨py,wy⟩:=Srt.BR (vs:=yks) (d:=((V.non,[]):V × List Int)) hq ha
 obtain ⟨e,at1⟩:=sortedAll_at s.heap its (Srt.lB its q)
 have hv:Vals ((q.toList.map fun i=>yks.getD i (.non,[])).map (·.1)) (q.toList.map fun i=>its.getD i Value.none):=by
  have hb:∀ i ∈ q.toList,i < its.length:=fun i hi=>by
   have:i < yks.length:=by simpa using (Rq.mp hq).mem_iff.mp hi
   lia
  revert hb
  generalize q.toList = L
  induction L with
  | nil=>exact fun _=>.nil
  | cons i L ih=>
   intro hb
   refine .cons ?_ (ih fun j hj=>hb j (Po _ hj))
   obtain ⟨yk,_,e2,rl⟩:=atI i (hb i Pm)
   dsimp only
   rw [e2]
   exact rl
 have fresh:s.heap.objs.size <= s.heap.objs.size + 1:=QJ _
 refine ⟨.ref (s.heap.objs.size + 1),upd H (s.heap.objs.size + 1) (.lst ((q.toList.map fun i=>yks.getD i (.non,[])).map (·.1))),I.laid (t':=s.toks) (fun b o hb=>sortedAll_old hb) fresh ?_,rfl,?_⟩
 ·refine ⟨by rw [Ph,py.length_eq,Qb];lia,_,e,hv,at1⟩
 ·refine k _ _ py (wy _ fun i j _ _ h=>?_) (I.hok.fresh fresh)
  rw [<- AO]
  exact h
theorem iA:CallR X (.builtin "sorted") (Ai X.K):=call_sortedI.or B1
end
end L2
namespace M
def Mv (a:List Int) (k:Int):List Int:=if a.any (· == k) then a else a ++ [k]
def NT (ns:List Int):List Int:=ns.foldl Mv []
end M
namespace L2
open PySem
section
variable {X:Cx}
end
end L2
namespace M
open PySem L2
section
variable {K:W.Frag}
def tG (K:W.Frag) (d:D):TE:=fun _ H Q=>∀ v,(∀ S,Den K S d v) -> Q v H
theorem s_g {d:D}:SE K (tG K d) (xC d):=fun ρ σ S H Q e r x k v hv=>by
 cases x
 exact k v S H (Ext.refl r.sub) (hv S)
end
end M
namespace L2
open PySem M
theorem Fx {X:_} {x:Str} {v:V} {u:Value} {pos:Pos} {K:W.Frag} {d:D} (hg:Gl X x) (hm:X.mg x = some u) (r:RelV v u) (hD:∀ S,Den K S d v) (hd:(x == ("__debug__" : Str)) = false:=by decide):PE X (.Name x pos) (tG K d):=
 fun a b c H Q I h=>yS hg hm r hd a b c H Q I (h v hD)
end L2
namespace M
open PySem L2
theorem pz {K:W.Frag} {a:Addr} {o:Obj} {its:Array Value} {n:Nat} {xs:List V} {l:List D} (h:K.lookup a = some o) (hc:o.cls = .type "tuple") (hd:o.data = .seq its n) (hs:its.size <= sizeLine) (hv:Vals xs its.toList) (hD:∀ S,Dens K S l xs) (S:Hp):Den K S (.tup l) (.ref a):=
 den_tup.mpr ⟨a,xs,rfl,(show SqT K S a xs from .inr ⟨o,its,n,h,hc,hd,hs,hv⟩),hD S⟩
@[simp] def MR (a:XE):XE:=fun ρ=>(a ρ).bind fun d=>match d with | .lst l=>(bW l).bind fun ns=>if ns.length < 4000 then some (.int ((NT ns).length:Nat)) else none | _=>none
end M
namespace L2
open PySem
def uH (K:W.Frag) (Ns:List Str) (P:Addr -> Prop):Prop:=∀ N ∈ Ns,∀ C,W.nsIn K mainGlobals N = some (some (.ref C)) -> P C
def MH (K:W.Frag) (Ns:List Str) (H:Hp) (x:V) (a:Addr) (C dx:Addr) (fs:List (Str × V)):Prop:=x = .ref a /\ (∃ N ∈ Ns,W.nsIn K mainGlobals N = some (some (.ref C))) /\ H a = some (.ins C dx fs)
def Jo (K:W.Frag) (Ns:List Str) (ta:TE) (f:Str):TE:=fun σ H Q=>ta σ H fun x H1=>∃ a C dx fs v,MH K Ns H1 x a C dx fs /\ fs.lookup f = some v /\ Q v H1
def GI (K:W.Frag) (Ns:List Str) (m:Str) (sp:Sp) (ta:TE) (t:TA):TE:=fun σ H Q=>ta σ H fun x H1=>∃ a C dx fs,MH K Ns H1 x a C dx fs /\ fs.lookup m = none /\ t σ H1 fun vs H2=>sp (x :: vs) H2 Q E0
def FP (K:W.Frag) (N:Str) (sp:Sp) (t:TA):TE:=fun σ H Q=>∀ C,W.nsIn K mainGlobals N = some (some (.ref C)) -> IX C sp [] E0 t σ H Q
section
variable {X:Cx} {o e:Expr} {es:List Expr} {f m:Str} {pos apos p:Pos} {ta:TE} {t:TA} {Ns:List Str} {k:Nat} {g C:Addr} {fd:FuncData} {ps:List Str} {sp:Sp}
theorem ud (hc:uH X.K Ns fun C=>Cls X.K C /\ NoAttr X.K C f) (he:PE X e ta) (hb:attributeBase e f X.env (eval e X.env) = eval e X.env):PE X (.Attribute e f pos) (Jo X.K Ns ta f):=by
 intro pins s σ H Q I h
 refine Hx hb (thn (he pins s σ H _ I h) fun u s1 hpt9=>?_)
 obtain ⟨x,H1,I1,rx,a,C,dx,fs,v,⟨ex,⟨N,hN,hC⟩,ea⟩,l,q⟩:=hpt9
 subst ex
 have eu:u = Value.ref a:=rx
 subst eu
 obtain ⟨c,n⟩:=hc N hN C hC
 exact B4 I1 ea c n l fun u' s2 I2 ru=>⟨v,H1,I2,ru,q⟩
theorem vP {pl:Sem Bool} (hc:uH X.K Ns fun C=>Cls X.K C /\ Meth X.K C m g) (F:FnOk X.prog X.w X.K X.mg X.base CX0 k g fd ps sp) (hr:Room k X.A) (hb:Binds X.K fd ps []) (hx:me CX0 X E0) (he:PE X o ta) (ha:PA X (e :: es) t)
  (hst:starEach (e :: es) X.env = (false,eval e X.env) :: starEach es X.env:=by rfl) (hpl:(backTo pos (starEach es X.env)).any (·.1) = false:=by rfl)
  (ht:eval (.Call (.Attribute o m apos) (e :: es) [] pos) X.env = (do
   let ov ← eval o X.env
   standAt apos.atName
   let (f,first) ← holding [ov] (getMethod ov m pl)
   callWith pos f first (backTo pos (starEach (e :: es) X.env)) (backToKw pos (keywordEach [] X.env))):=by rfl) :
  PE X (.Call (.Attribute o m apos) (e :: es) [] pos) (GI X.K Ns m sp ta t):=by
 intro pins s σ H Q I h
 refine W.methodCall_KW (pl:=pl) (thn (he pins s σ H _ I h) fun u s1 hpt9=>?_) ht
 obtain ⟨x,H1,I1,rx,a,C,dx,fs,⟨ex,⟨N,hN,hC⟩,ea⟩,l,q⟩:=hpt9
 subst ex
 have eu:u = Value.ref a:=rx
 subst eu
 obtain ⟨c,hm⟩:=hc N hN C hC
 refine Bj I1 ea c hm l ?_
 refine W.callWith_K (first:=[.ref a]) (h₀:=X.base) I.ok.mod.kin hm.kp (thn (ha pos pins s1 σ H1 _ I1 q) fun us s2 ⟨vs,H2,I2,r,q2⟩=>⟨I2.kIn,?_⟩) hst hpl
 exact Bu (us:=.ref a :: us) (vs:=.ref a :: vs) (dvs:=[]) F hr hb .nil hx I2 (.cons rfl r) (by rw [Qa];exact q2)
structure ClsFn (K:W.Frag) (C:Addr) (m:Str) (f:Addr):Prop where
 sp:W.specialIn K (.ref C) "__getattribute__" = some (some (.builtin "type.__getattribute__"))
 rd:W.readsIn K C (.type "type") = true
 fn:W.findCls K (.ref C) (.type "type") m = some (.val (.ref f))
 kp:W.keepIn K (.ref f) = true
theorem kU {pl:Sem Bool} {B:Str} (cf:ClsFn X.K C m g) (gB:Gl X B) (hm:X.mg B = some (.ref C)) (F:FnOk X.prog X.w X.K X.mg X.base CX0 k g fd ps sp) (hr:Room k X.A) (hb:Binds X.K fd ps []) (hx:me CX0 X E0) (ha:PA X (e :: es) t) (hdb:(B == ("__debug__" : Str)) = false:=by decide)
  (hst:starEach (e :: es) X.env = (false,eval e X.env) :: starEach es X.env:=by rfl) (hpl:(backTo pos (starEach es X.env)).any (·.1) = false:=by rfl)
  (ht:eval (.Call (.Attribute (.Name B p) m apos) (e :: es) [] pos) X.env = (do
   let ov ← eval (.Name B p) X.env
   standAt apos.atName
   let (f,first) ← holding [ov] (getMethod ov m pl)
   callWith pos f first (backTo pos (starEach (e :: es) X.env)) (backToKw pos (keywordEach [] X.env))):=by rfl) :
  PE X (.Call (.Attribute (.Name B p) m apos) (e :: es) [] pos) (sY sp [] E0 t):=by
 intro pins s σ H Q I h
 refine W.methodCall_KW (pl:=pl) (thn (yS (v:=.ref C) gB hm rfl hdb pins s σ H (fun x H1=>x = .ref C /\ H1 = H) I ⟨rfl,rfl⟩) fun u s1 hpt9=>?_) ht
 obtain ⟨x,H1,I1,rx,ex,eH⟩:=hpt9
 subst ex
 subst eH
 have eu:u = Value.ref C:=rx
 subst eu
 refine W.method_cls I1.kIn cf.sp (W.cls_value I1.kIn cf.rd cf.fn rfl ?_)
 refine W.callWith_K (first:=[]) (h₀:=X.base) I.ok.mod.kin cf.kp (thn (ha pos pins _ σ H1 _ (I1.tok _) h) fun us s2 ⟨vs,H2,I2,r,q2⟩=>⟨I2.kIn,?_⟩) hst hpl
 exact Bu F hr hb .nil hx I2 r q2
theorem gX {N:Str} (hN:W.nsIn X.K mainGlobals N = some (some (.ref C))) (M:Mk X.K C g) (F:FnOk X.prog X.w X.K X.mg X.base CX0 k g fd ps sp) (hr:Room (k + 1) X.A) (hg:Gl X N) (hm:X.mg N = some (.ref C)) (hb:Binds X.K fd ps []) (hx:me CX0 X E0)
  (ha:PA X (e :: es) t) (hdb:(N == ("__debug__" : Str)) = false:=by decide) (he:starEach (e :: es) X.env = (false,eval e X.env) :: starEach es X.env:=by rfl) (hpl:(backTo pos (starEach es X.env)).any (·.1) = false:=by rfl) :
  PE X (.Call (.Name N p) (e :: es) [] pos) (FP X.K N sp t):=fun a b c d q I h=>Hz M F hr hg hm hb .nil hx ha hdb he hpl a b c d q I (h C hN)
end
end L2
namespace M
open PySem L2
section
variable {K:W.Frag} {S S' H H':Hp}
def wP:List Str -> List D -> Str -> Option D
 | n :: ns,d :: l,f=>if f = n then some d else wP ns l f
 | _,_,_=>none
theorem GY:∀ {fs:List (Str × V)} {l:List D} {f:Str} {d:D},Dens K S l (fs.map (·.2)) -> wP (fs.map (·.1)) l f = some d -> ∃ v,fs.lookup f = some v /\ Den K S d v
 | [],l,f,d,h,e=>by
  cases l <;> simp [wP] at e
 | (n,v) :: fs,l,f,d,h,e=>by
  cases l with
  | nil=>simp [wP] at e
  | cons a l=>
   obtain ⟨y,ys,e1,h1,h2⟩:=h.cons_of
   rw [Px] at e1
   cases e1
   rw [Px,wP] at e
   by_cases hf:f = n
   ·rw [Pb hf] at e
    cases e
    exact ⟨v,by simp [List.lookup,hf],h1⟩
   ·rw [Pc hf] at e
    obtain ⟨w,q1,q2⟩:=GY h2 e
    have hb:(f == n) = false:=by simpa using hf
    exact ⟨w,by simp [List.lookup,hb,q1],q2⟩
theorem FX:∀ {fs:List (Str × V)} {f:Str},(fs.map (·.1)).contains f = false -> fs.lookup f = none
 | [],_,_=>rfl
 | (n,v) :: fs,f,h=>by
  simp at h
  have hb:(f == n) = false:=by simpa using h.1
  rw [List.lookup,hb]
  exact FX (by simpa using h.2)
@[simp] def o7 (Ns:List Str) (f:Str) (e:XE):XE:=fun ρ=>(e ρ).bind fun d=>match d with | .ins N ns l=>if Ns.contains N then wP ns l f else none | _=>none
theorem FO {Ns:List Str} {f:Str} {ta:TE} {e:XE} (h:SE K ta e):SE K (Jo K Ns ta f) (o7 Ns f e):=fun ρ σ S H Q d r x k=>by
 unfold o7 at x
 cases q:e ρ with
 | none=>rw [q] at x;cases x
 | some d0=>
  rw [q] at x
  dsimp only [Option.bind] at x
  cases d0 <;> try (cases x;done)
  rename_i N ns l
  dsimp only at x
  split at x
  ·rename_i hc
   refine h ρ σ S H _ _ r q fun v S1 H1 z1 d1=>?_
   obtain ⟨p,C,dx,fs,rfl,hC,h1,h2,h3⟩:=den_ins.mp d1
   subst h2
   obtain ⟨w,w1,w2⟩:=GY h3 x
   exact ⟨p,C,dx,fs,w,⟨rfl,⟨N,by simpa using hc,hC⟩,z1.sub _ _ h1⟩,w1,k w S1 H1 z1 w2⟩
  ·cases x
@[simp] def tq (Ns:List Str) (m:Str) (g:List D -> Option D) (e:XE) (a:XA):XE:=fun ρ=>(e ρ).bind fun d=>match d with | .ins N ns l=>if Ns.contains N && !ns.contains m then (a ρ).bind fun ds=>g (.ins N ns l :: ds) else none | _=>none
theorem Kj {Ns:List Str} {m:Str} {n:Nat} {g:List D -> Option O} {ta:TE} {t:TA} {e:XE} {a:XA} (h:SE K ta e) (ha:SA K t a) (hn:∀ ρ ds,a ρ = some ds -> ds.length = n):SE K (GI K Ns m (cS K (n + 1) g) ta t) (tq Ns m (fun ds=>(g ds).map O.d) e a):=fun ρ σ S H Q d r x k=>by
 unfold tq at x
 cases q:e ρ with
 | none=>rw [q] at x;cases x
 | some d0=>
  rw [q] at x
  dsimp only [Option.bind] at x
  cases d0 <;> try (cases x;done)
  rename_i N ns l
  dsimp only at x
  split at x
  ·rename_i hc
   rw [Qh] at hc
   cases qa:a ρ with
   | none=>rw [qa] at x;cases x
   | some ds=>
    rw [qa] at x
    dsimp only at x
    cases qg:g (.ins N ns l :: ds) with
    | none=>rw [qg] at x;cases x
    | some o=>
     rw [qg] at x
     cases x
     refine h ρ σ S H _ _ r q fun v S1 H1 z1 d1=>?_
     obtain ⟨p,C,dx,fs,rfl,hC,h1,h2,h3⟩:=den_ins.mp d1
     refine ⟨p,C,dx,fs,⟨rfl,⟨N,by simpa using hc.1,hC⟩,z1.sub _ _ h1⟩,FX (by rw [h2];simpa using hc.2),?_⟩
     refine ha ρ σ S1 H1 _ ds (r.ext z1) qa fun vs S2 H2 z2 d2=>?_
     have dd:Dens K S2 (.ins N ns l :: ds) (.ref p :: vs):=.cons (d1.mono z2.sh) d2
     refine ⟨by rw [Pw,<- d2.length,hn ρ ds qa],S2,_,o,z2.sub,dd,qg,fun v fp S3 H3 z3 ow nd fr=>?_⟩
     exact k v _ H3 ((z1.trans z2).trans (zB z3 fr)) (ow.den (nI fun b hb=>(fr b hb).2) fun b hb=>t0 hb)
  ·cases x
def lU (K:W.Frag) (Ns:List Str) (f:Str) (n:Nat) (mi:List D -> Option D):Sp:=fun vs H Q _=>vs.length = n + 1 /\ ∃ x rest C dx S ds d,vs = .ref x :: rest /\ H x = some (.ins C dx []) /\ (∃ N ∈ Ns,W.nsIn K mainGlobals N = some (some (.ref C))) /\ S x = none /\ Same S H /\ Dens K S ds rest /\ mi ds = some d /\
 ∀ S' H' v,Ext S H S' H' -> Den K S' d v -> Q .non (upd H' x (.ins C dx [(f,v)]))
def F8:List D -> Option D
 | [d]=>some d
 | _=>none
theorem E5 {Ns:List Str} {f:Str} {vs:List V} {H:Hp} {Q:VK} {E:XK} (hc:uH K Ns fun C=>Cls K C /\ NoAttr K C f) {N:List Str} (h:lU K Ns f 1 F8 vs H Q E):MJ K (pb 0) (pb 1) f { nx:=fun _ H'=>Q .non H',rt:=Q } (L2.aV N vs) H:=by
 obtain ⟨_,x,rest,C,dx,S,ds,d,rfl,hx,⟨M,hM,hC⟩,nS,sub,dd,e,k⟩:=h
 match ds,e with
 | [d'],e=>
  cases e
  obtain ⟨v,ys,rfl,dv,dn⟩:=dd.cons_of
  cases dn.nil_of
  obtain ⟨c,n⟩:=hc M hM C hC
  exact ⟨v,rfl,.ref x,rfl,x,C,dx,[],rfl,hx,c,n,by decide,k S H v (Ext.refl sub) dv⟩
theorem Da {x:Addr} {ds:List D} {vs:List V} (s:Same S H) (h:Dens K S ds vs):Rl K (.lo :: ds.map .sh) (some (.ref x) :: vs.map some) S H:=by
 have hl:=h.length
 refine ⟨fun _=>none,fun i=>if i = 0 then some x else none,fun _=>[],?_⟩
 have ge:∀ (i:Nat) t,(Sl.lo :: ds.map Sl.sh)[i]? = some t -> (i = 0 /\ t = .lo) \/ ∃ d v,t = .sh d /\ (some (V.ref x) :: vs.map some)[i]? = some (some v) /\ Den K S d v:=fun i t ht=>by
  cases i with
  | zero=>cases ht;exact .inl ⟨rfl,rfl⟩
  | succ i=>
   rw [List.getElem?_cons_succ,PN] at ht
   cases q:ds[i]? with
   | none=>rw [q] at ht;cases ht
   | some d=>
    rw [q] at ht
    cases ht
    obtain ⟨v,e1,e2⟩:=h.get q
    refine .inr ⟨d,v,rfl,?_,e2⟩
    rw [List.getElem?_cons_succ,PN,e1]
    rfl
 exact {
  len:=by rw [Pw,Pw,Ph,Ph,hl]
  sub:=s
  sh:=fun i d hi=>by
   rcases ge i _ hi with ⟨_,e⟩ | ⟨d',v,e,h1,h2⟩
   ·cases e
   ·cases e;exact ⟨v,h1,h2⟩
  ow:=fun i o hi=>by
   rcases ge i _ hi with ⟨_,e⟩ | ⟨d',v,e,h1,h2⟩
   ·cases e
   ·cases e
  dj:=fun i j o o' _ hi _=>by
   rcases ge i _ hi with ⟨_,e⟩ | ⟨d',v,e,h1,h2⟩
   ·cases e
   ·cases e
  lo:=fun i hi=>by
   rcases ge i _ hi with ⟨rfl,e⟩ | ⟨d',v,e,h1,h2⟩
   ·exact ⟨x,rfl,rfl⟩
   ·cases e
  asub:=fun b o e=>by cases e
  adis:=fun b=>.inr rfl }
def Ag (xt:XT) (xe:XE) (ds:List D):Option D:=if xt (.lo :: ds.map .sh) = some false then xe (.lo :: ds.map .sh) else none
def MG (xe:XE) (ds:List D):Option D:=xe (.lo :: ds.map .sh)
theorem A1 {Ns:List Str} {f:Str} {te:TE} {xe:XE} {x:Addr} {rest:List V} {C dx:Addr} {ds:List D} {d:D} {S H:Hp} {Dd:_} {Q:VK} (he:SE K te xe) (sub:Same S H) (dd:Dens K S ds rest) (hx:H x = some (.ins C dx [])) (hc:∃ N ∈ Ns,W.nsIn K mainGlobals N = some (some (.ref C))) (nS:S x = none)
  (e:xe (.lo :: ds.map .sh) = some d) (hD:Dd = ({ nx:=fun _ H'=>Q .non H',rt:=Q }:_)) (k:∀ S' H' v,Ext S H S' H' -> Den K S' d v -> Q .non (upd H' x (.ins C dx [(f,v)]))) :
  w6 (sY (lU K Ns f 1 F8) [] E0 (gW (pb 0) (gW te rh))) Dd (some (.ref x) :: rest.map some) H:=by
 subst hD
 refine ⟨.ref x,rfl,he _ _ S H _ d (Da sub dd) e fun v S1 H1 z1 d1=>?_⟩
 refine ⟨rfl,x,[v],C,dx,S1,[d],d,rfl,(z1.al x _ hx nS).1,hc,(z1.al x _ hx nS).2,z1.sub,.cons d1 .nil,rfl,fun S2 H2 w z2 d2=>k S2 H2 w (z1.trans z2) d2⟩
theorem uD {Ns:List Str} {f:Str} {n:Nat} {tt:TT} {xt:XT} {te:TE} {xe:XE} {N:List Str} {vs:List V} {H:Hp} {Q:VK} {E:XK} (ht:ST K tt xt) (he:SE K te xe) (hN:N.length = n + 1) (h:lU K Ns f n (Ag xt xe) vs H Q E) :
  GU (Hw tt ye A2) (w6 (sY (lU K Ns f 1 F8) [] E0 (gW (pb 0) (gW te rh)))) { nx:=fun _ H'=>Q .non H',rt:=Q } (L2.aV N vs) H:=by
 obtain ⟨hl,x,rest,C,dx,S,ds,d,rfl,hx,hc,nS,sub,dd,e,k⟩:=h
 have es:L2.aV N (.ref x :: rest) = some (.ref x) :: rest.map some:=by
  unfold L2.aV
  rw [hl,hN,Nat.sub_self]
  simp
 unfold Ag at e
 split at e
 ·rename_i q
  rw [es]
  refine ht _ _ S H _ false (Da sub dd) q fun S1 H1 z1=>?_
  rw [Pc QU]
  exact A1 he z1.sub (dd.mono z1.sh) (z1.al x _ hx nS).1 hc (z1.al x _ hx nS).2 e rfl fun S2 H2 w z2 d2=>k S2 H2 w (z1.trans z2) d2
 ·cases e
theorem DQ {Ns:List Str} {f:Str} {n:Nat} {te:TE} {xe:XE} {N:List Str} {vs:List V} {H:Hp} {Q:VK} {E:XK} (he:SE K te xe) (hN:N.length = n + 1) (h:lU K Ns f n (MG xe) vs H Q E) :
  w6 (sY (lU K Ns f 1 F8) [] E0 (gW (pb 0) (gW te rh))) { nx:=fun _ H'=>Q .non H',rt:=Q } (L2.aV N vs) H:=by
 obtain ⟨hl,x,rest,C,dx,S,ds,d,rfl,hx,hc,nS,sub,dd,e,k⟩:=h
 have es:L2.aV N (.ref x :: rest) = some (.ref x) :: rest.map some:=by
  unfold L2.aV
  rw [hl,hN,Nat.sub_self]
  simp
 rw [es]
 exact A1 he sub dd hx hc nS e rfl k
@[simp] def ik (N f:Str) (mi:List D -> Option D) (a:XA):XE:=fun ρ=>((a ρ).bind mi).map fun d=>.ins N [f] [d]
theorem Ky {Ns:List Str} {N f:Str} {n:Nat} {mi:List D -> Option D} {t:TA} {a:XA} (hN:N ∈ Ns) (h:SA K t a) (hn:∀ ρ ds,a ρ = some ds -> ds.length = n):SE K (FP K N (lU K Ns f n mi) t) (ik N f mi a):=fun ρ σ S H Q d r x k C hC=>by
 unfold ik at x
 cases q:a ρ with
 | none=>rw [q] at x;cases x
 | some ds=>
  rw [q] at x
  dsimp only [Option.bind] at x
  cases q2:mi ds with
  | none=>rw [q2] at x;cases x
  | some d0=>
   rw [q2] at x
   cases x
   refine h ρ σ S H _ ds r q fun vs S1 H1 z1 d1=>?_
   intro x dx nx ndx nex
   have s0:Same S1 (upd (upd H1 dx (.own x)) x (.ins C dx [])):=fun b o e=>by
    have e':=z1.sub b o e
    rw [aP (aR e' nx),aP (aR e' ndx)]
    exact e'
   have nS:S1 x = none:=z1.sub.free nx
   refine ⟨by rw [Qa,Pw,<- d1.length,hn ρ ds q],x,vs,C,dx,S1,ds,d0,by rw [Qa],aY,⟨N,hN,hC⟩,nS,s0,d1,q2,fun S2 H2 v z2 d2=>⟨rfl,?_⟩⟩
   have hx2:=z2.al x _ aY nS
   have z3:Ext S1 H1 (upd S2 x (.ins C dx [(f,v)])) (upd H2 x (.ins C dx [(f,v)])):={
    sh:=fun b o e=>by
     rw [aP (aR (z1.sub b o e) nx)]
     exact z2.sh b o e
    sub:=fun b o e=>by
     by_cases hb:b = x
     ·subst hb;rw [aY] at e ⊢;exact e
     ·rw [aP hb] at e ⊢;exact z2.sub b o e
    al:=fun b o e ne=>by
     have hb:=aR e nx
     rw [aP hb,aP hb]
     exact z2.al b o (by rw [aP hb,aP (aR e ndx)];exact e) ne }
   refine k (.ref x) _ _ (z1.trans z3) (den_ins.mpr ⟨x,C,dx,[(f,v)],rfl,hC,aY,rfl,?_⟩)
   refine .cons (d2.mono fun b o e=>?_) .nil
   rw [aP (aR e hx2.2)]
   exact e
end
end M
namespace M
def kJ:List Int -> Int
 | []=>0
 | [a]=>a
 | a :: l=>min a (kJ l)
def mI:List Int -> Int
 | []=>0
 | [a]=>a
 | a :: l=>max a (mI l)
theorem xH (a b:Int) (l:List Int):kJ (a :: b :: l) = min a (kJ (b :: l)):=rfl
theorem DP (a b:Int) (l:List Int):mI (a :: b :: l) = max a (mI (b :: l)):=rfl
theorem xq:∀ (a:Int) (l:List Int),kJ (a :: l) ∈ a :: l /\ ∀ b ∈ a :: l,kJ (a :: l) <= b
 | a,[]=>⟨Pm,fun b hb=>by rw [Pi] at hb;subst hb;exact PC _⟩
 | a,c :: l=>by
  obtain ⟨h1,h2⟩:=xq c l
  rw [xH]
  refine ⟨?_,fun b hb=>?_⟩
  ·rcases Int.le_total a (kJ (c :: l)) with h | h
   ·rw [Int.min_eq_left h];exact Pm
   ·rw [Int.min_eq_right h];exact Po _ h1
  ·rcases Pq.mp hb with rfl | hb
   ·exact Int.min_le_left _ _
   ·exact Int.le_trans (Int.min_le_right _ _) (h2 b hb)
theorem yb:∀ (a:Int) (l:List Int),mI (a :: l) ∈ a :: l /\ ∀ b ∈ a :: l,b <= mI (a :: l)
 | a,[]=>⟨Pm,fun b hb=>by rw [Pi] at hb;subst hb;exact PC _⟩
 | a,c :: l=>by
  obtain ⟨h1,h2⟩:=yb c l
  rw [DP]
  refine ⟨?_,fun b hb=>?_⟩
  ·rcases Int.le_total a (mI (c :: l)) with h | h
   ·rw [Int.max_eq_right h];exact Po _ h1
   ·rw [Int.max_eq_left h];exact Pm
  ·rcases Pq.mp hb with rfl | hb
   ·exact Int.le_max_left _ _
   ·exact Int.le_trans (h2 b hb) (Int.le_max_right _ _)
theorem xW {ns:List Int} {m:Int} (h1:m ∈ ns) (h2:∀ a,a ∈ ns -> m <= a):kJ ns = m:=by
 cases ns with
 | nil=>cases h1
 | cons a l=>
  obtain ⟨k1,k2⟩:=xq a l
  exact Int.le_antisymm (k2 m h1) (h2 _ k1)
theorem EB {ns:List Int} {m:Int} (h1:m ∈ ns) (h2:∀ a,a ∈ ns -> a <= m):mI ns = m:=by
 cases ns with
 | nil=>cases h1
 | cons a l=>
  obtain ⟨k1,k2⟩:=yb a l
  exact Int.le_antisymm (h2 _ k1) (k2 m h1)
end M
namespace L2
open PySem PySem.Spec PyProof.Rows
section
variable {prog:Program} {w:World} {A:Around} {E:Value -> Shared -> Prop} {s:Shared}
theorem Ay {l:Addr} {vs:List Value} {ns:List Int} {Q:Value -> Shared -> Prop} (hh:A.handled = none) (hl:s.heap.IsList l vs.toArray) (hi:IntsAre vs ns) (hne:0 < ns.length)
  (h:∀ (h':Heap) (t:Tok) (tk:Nat),(∀ b o,s.heap.get? b = some o -> h'.get? b = some o) -> Q (.int (M.kJ ns) t) { s with heap:=h',toks:=tk }):wpAny (model prog w) A (call (.builtin "min") [.ref l]) Q E s:=by
 obtain ⟨xs,e⟩:=hi.allInts.items
 have hns:ns = xs.toList.map (·.1):=by rw [<- hi.numsOf,<- nums_intItems,<- e]
 have hsz:0 < xs.size:=by have h3:=hne;rw [hns,Ph,Qe] at h3;exact h3
 rw [e] at hl;refine min_intList hh hl hsz fun v h' tk hv hk=>?_
 obtain ⟨t,rfl⟩:=intItems_at hv;obtain ⟨h1,h2⟩:=argBest_lt (numAt xs) (xs.size - 1)
 have em:M.kJ ns = numAt xs (argBest (fun i j=>decide (numAt xs i < numAt xs j)) (xs.size - 1)):=by
  refine M.xW ?_ fun a ha=>?_
  ·rw [hns,numAt_eq];exact getD_mem (by rw [Ph,Qe];lia)
  ·rw [hns] at ha;obtain ⟨j,hj,rfl⟩:=mem_getD ha;rw [Ph,Qe] at hj;rw [<- numAt_eq];exact h2 j (by lia)
 rw [<- em];exact h h' t tk hk
theorem zE {l:Addr} {vs:List Value} {ns:List Int} {Q:Value -> Shared -> Prop} (hh:A.handled = none) (hl:s.heap.IsList l vs.toArray) (hi:IntsAre vs ns) (hne:0 < ns.length)
  (h:∀ (h':Heap) (t:Tok) (tk:Nat),(∀ b o,s.heap.get? b = some o -> h'.get? b = some o) -> Q (.int (M.mI ns) t) { s with heap:=h',toks:=tk }):wpAny (model prog w) A (call (.builtin "max") [.ref l]) Q E s:=by
 obtain ⟨xs,e⟩:=hi.allInts.items
 have hns:ns = xs.toList.map (·.1):=by rw [<- hi.numsOf,<- nums_intItems,<- e]
 have hsz:0 < xs.size:=by have h3:=hne;rw [hns,Ph,Qe] at h3;exact h3
 rw [e] at hl;refine max_intList hh hl hsz fun v h' tk hv hk=>?_
 obtain ⟨t,rfl⟩:=intItems_at hv;obtain ⟨h1,h2⟩:=argBest_gt (numAt xs) (xs.size - 1)
 have em:M.mI ns = numAt xs (argBest (fun i j=>decide (numAt xs i > numAt xs j)) (xs.size - 1)):=by
  refine M.EB ?_ fun a ha=>?_
  ·rw [hns,numAt_eq];exact getD_mem (by rw [Ph,Qe];lia)
  ·rw [hns] at ha;obtain ⟨j,hj,rfl⟩:=mem_getD ha;rw [Ph,Qe] at hj;rw [<- numAt_eq];exact h2 j (by lia)
 rw [<- em];exact h h' t tk hk
theorem DL (a b c d:Value):argsOk "min" ⟨[a,b,c,d],[]⟩:=by unfold argsOk;kernel_rfl
theorem DV {a b c d:Value} {Q:Value -> Shared -> Prop}
  (h:wpAny (model prog w) A.in1 (pyIter (.ref s.heap.objs.size)) (fun it s₂=>∃ I fp wr n P St bt,it = .ref I /\ Walks prog w A.in1 I fp wr n P St /\ St 0 s₂.heap /\ (∀ b ∈ fp,b < s₂.heap.objs.size) /\ 0 < n /\ CmpOf prog w A.in1 .Lt P bt /\ ∀ v h' tk,P (argBest bt (n - 1)) v -> (∀ b o,b ∉ wr -> s₂.heap.get? b = some o -> h'.get? b = some o) -> Q v { s₂ with heap:=h',toks:=tk }) E { s with heap:=s.heap.push { cls:=.type "tuple",data:=.seq #[a,b,c,d] } }) :
  wpAny (model prog w) A (call (.builtin "min") [a,b,c,d]) Q E s:=by
 have hname:(toString "min" ++ toString ".loop" : String) = "min.loop" := by decide
 refine call_function_tree F.kind_min F.plain_min F.entry_min (DL _ _ _ _) ?_;show wpAny _ A.in1 (Builtin.Builtins.bindParams "min" ["key", "default"] 0 ⟨[],[]⟩ >>= _) _ _ s
 refine Pg (Q1 (show Builtin.Builtins.bindParams "min" ["key", "default"] 0 ⟨[],[]⟩ = pure [none,none] from rfl) ?_);show wpAny _ A.in1 (newTuple [a,b,c,d] >>= _) _ _ s
 refine Pg (Qr ?_);refine Pg (P9 h (fun it s₂ h₂=>?_) fun _ _ e=>e);obtain ⟨I,fp,wr,n,P,St,bt,rfl,W,hst,hfp,hn,hcmp,hQ⟩:=h₂
 refine Pg (Qr ?_);have hSf:s₂.heap.objs.size ∉ fp:=fun hm=>QB _ (hfp _ hm)
 rw [hname];refine Pl ⟨plainId_quiet F.plain_min_loop _,codeAny_min_loop_first W bt hcmp s₂.heap.objs.size hSf hn (W.frame _ _ _ hst fun b _ o e=>Pz _ e) (P7 _ rfl) fun v h' tk hP hk=>?_⟩
 exact hQ v h' tk hP fun b o hbw e=>hk b o hbw (PD (Pv e)) (Pz _ e)
theorem Ap {a b c d:Int} {t u x y:Tok} {Q:Value -> Shared -> Prop} (hh:A.handled = none) (h:∀ (h':Heap) (z:Tok) (tk:Nat),(∀ b o,s.heap.get? b = some o -> h'.get? b = some o) -> Q (.int (M.kJ [a,b,c,d]) z) { s with heap:=h',toks:=tk }) :
  wpAny (model prog w) A (call (.builtin "min") [.int a t,.int b u,.int c x,.int d y]) Q E s:=by
 have hT:(s.heap.push { cls:=.type "tuple",data:=.seq #[.int a t,.int b u,.int c x,.int d y] }).IsTuple s.heap.objs.size (intItems #[(a,t),(b,u),(c,x),(d,y)]):=⟨_,P7 _ rfl,rfl,0,by simp [intItems]⟩
 refine DV (wpAny_pyIter_tuple hT ?_);have hsz:(s.heap.push { cls:=.type "tuple",data:=.seq #[.int a t,.int b u,.int c x,.int d y] }).objs.size = s.heap.objs.size + 1:=QI ..
 refine ⟨_,[_,s.heap.objs.size],[_],_,_,_,_,rfl,Walks.tuple (A:=A.in1) hh _ s.heap.objs.size (by rw [hsz];exact PD (Q2 _)) (intItems #[(a,t),(b,u),(c,x),(d,y)]),⟨⟨_,P7 _ rfl,rfl,rfl⟩,hT.push _⟩,fun e hd=>?_,by simp [intItems],CmpOf.ints_lt (numAt #[(a,t),(b,u),(c,x),(d,y)]) (fun _ _=>intItems_at),fun v h' tk hP hk=>?_⟩
 ·show e < ((s.heap.push _).push _).objs.size
  rw [QI,hsz];rcases Pq.mp hd with rfl | hd
  ·rw [hsz];exact Q2 _
  ·rcases Pq.mp hd with rfl | hd
   ·exact Rp (Q2 _)
   ·cases hd
 ·have hold:∀ z o,s.heap.get? z = some o -> h'.get? z = some o:=fun z o e=>by
   refine hk z o (fun hm=>?_) (Pz _ (Pz _ e));rcases Pq.mp hm with e1 | hm
   ·have:=Pv e;rw [e1,hsz] at this;exact QB _ (Nat.lt_of_succ_lt this)
   ·cases hm
  have hP':(intItems #[(a,t),(b,u),(c,x),(d,y)])[argBest (fun i j=>decide (numAt #[(a,t),(b,u),(c,x),(d,y)] i < numAt #[(a,t),(b,u),(c,x),(d,y)] j)) 3]? = some v:=by
   have hsz2:(intItems #[(a,t),(b,u),(c,x),(d,y)]).size - 1 = 3:=by simp [intItems]
   rw [<- hsz2];exact hP
  obtain ⟨z,rfl⟩:=intItems_at hP';obtain ⟨h1,h2⟩:=argBest_lt (numAt #[(a,t),(b,u),(c,x),(d,y)]) 3
  have em:M.kJ [a,b,c,d] = numAt #[(a,t),(b,u),(c,x),(d,y)] (argBest (fun i j=>decide (numAt #[(a,t),(b,u),(c,x),(d,y)] i < numAt #[(a,t),(b,u),(c,x),(d,y)] j)) 3):=by
   have k0:=h2 0 (by lia);have k1:=h2 1 (by lia);have k2:=h2 2 (by lia);have k3:=h2 3 (by lia)
   generalize hg:argBest (fun i j=>decide (numAt #[(a,t),(b,u),(c,x),(d,y)] i < numAt #[(a,t),(b,u),(c,x),(d,y)] j)) 3 = g at h1 k0 k1 k2 k3 ⊢
   refine M.xW ?_ fun e he=>?_
   ·rcases (show g = 0 \/ g = 1 \/ g = 2 \/ g = 3 by lia) with rfl | rfl | rfl | rfl <;> simp [numAt]
   ·simp only [Pq,List.not_mem_nil,or_false] at he
    rcases he with rfl | rfl | rfl | rfl
    ·exact k0
    ·exact k1
    ·exact k2
    ·exact k3
  rw [<- em];exact h h' z tk hold
end
def Go (K:W.Frag):List V -> Hp -> VK -> Prop:=fun xs H Q=>∃ p,∃ ns:List Int,xs = [.ref p] /\ SqL K H p (ns.map V.int) /\ 0 < ns.length /\ Q (.int (M.kJ ns)) H
def Hf (K:W.Frag):List V -> Hp -> VK -> Prop:=fun xs H Q=>∃ p,∃ ns:List Int,xs = [.ref p] /\ SqL K H p (ns.map V.int) /\ 0 < ns.length /\ Q (.int (M.mI ns)) H
def I0:List V -> Hp -> VK -> Prop:=fun xs H Q=>∃ a b c d,xs = [.int a,.int b,.int c,.int d] /\ Q (.int (M.kJ [a,b,c,d])) H
section
variable {X:Cx}
theorem Bi (hc:X.calm = true):CallR X (.builtin "min") (Go X.K):=by
 intro pins s σ H xs us Q I r h
 obtain ⟨p,ns,rfl,hS,hne,q⟩:=h
 obtain ⟨u,rfl,ru⟩:=r.one
 cases ru
 obtain ⟨its,rv,pl,hz⟩:=I.list hS
 exact Ay (I.ok.hd hc) pl.isList (jd rv) hne fun h' t tk k=>⟨.int (M.kJ ns),H,I.kept k,⟨t,rfl⟩,q⟩
theorem Bw (hc:X.calm = true):CallR X (.builtin "max") (Hf X.K):=by
 intro pins s σ H xs us Q I r h
 obtain ⟨p,ns,rfl,hS,hne,q⟩:=h
 obtain ⟨u,rfl,ru⟩:=r.one
 cases ru
 obtain ⟨its,rv,pl,hz⟩:=I.list hS
 exact zE (I.ok.hd hc) pl.isList (jd rv) hne fun h' t tk k=>⟨.int (M.mI ns),H,I.kept k,⟨t,rfl⟩,q⟩
theorem DN (hc:X.calm = true):CallR X (.builtin "min") I0:=by
 intro pins s σ H xs us Q I r h
 obtain ⟨a,b,c,d,rfl,q⟩:=h
 cases r with
 | cons r1 r=>cases r with
  | cons r2 r=>cases r with
   | cons r3 r=>cases r with
    | cons r4 r=>
     cases r
     obtain ⟨t,rfl⟩:=r1
     obtain ⟨t2,rfl⟩:=r2
     obtain ⟨t3,rfl⟩:=r3
     obtain ⟨t4,rfl⟩:=r4
     exact Ap (I.ok.hd hc) fun h' t tk k=>⟨.int (M.kJ [a,b,c,d]),H,I.kept k,⟨t,rfl⟩,q⟩
end
end L2
namespace M
open PySem L2
def Aw:List D -> Option D
 | [.lst l]=>(bW l).bind fun ns=>if 0 < ns.length then some (.int (kJ ns)) else none
 | _=>none
def zM:List D -> Option D
 | [.lst l]=>(bW l).bind fun ns=>if 0 < ns.length then some (.int (mI ns)) else none
 | _=>none
def Ct:List D -> Option D
 | [.int a,.int b,.int c,.int d]=>some (.int (kJ [a,b,c,d]))
 | _=>none
section
variable {K:W.Frag}
theorem KZ:SRB K (Go K) Aw:=fun S H vs ds g Q s d q k=>by
 unfold Aw at q
 split at q
 ·rename_i l
  cases qi:bW l with
  | none=>rw [qi] at q;cases q
  | some ns=>
   rw [qi] at q
   dsimp only [Option.bind] at q
   split at q
   ·rename_i hne
    cases q
    obtain ⟨v,rfl,d1⟩:=jh d
    obtain ⟨p,xs,rfl,h1,h2⟩:=d1.lst s
    obtain ⟨e,_⟩:=kI h2 qi
    subst e
    exact ⟨p,ns,rfl,.inl h1,hne,k _ S H (Ext.refl s) (den_int.mpr rfl)⟩
   ·cases q
 ·cases q
theorem JW:SRB K (Hf K) zM:=fun S H vs ds g Q s d q k=>by
 unfold zM at q
 split at q
 ·rename_i l
  cases qi:bW l with
  | none=>rw [qi] at q;cases q
  | some ns=>
   rw [qi] at q
   dsimp only [Option.bind] at q
   split at q
   ·rename_i hne
    cases q
    obtain ⟨v,rfl,d1⟩:=jh d
    obtain ⟨p,xs,rfl,h1,h2⟩:=d1.lst s
    obtain ⟨e,_⟩:=kI h2 qi
    subst e
    exact ⟨p,ns,rfl,.inl h1,hne,k _ S H (Ext.refl s) (den_int.mpr rfl)⟩
   ·cases q
 ·cases q
theorem HW {S H:Hp} {a b c d:D} {vs:List V} (h:DensP K S H [a,b,c,d] vs):∃ v w x y,vs = [v,w,x,y] /\ DenP K S H a v /\ DenP K S H b w /\ DenP K S H c x /\ DenP K S H d y:=by
 cases h with
 | cons h1 h=>cases h with
  | cons h2 h=>cases h with
   | cons h3 h=>cases h with
    | cons h4 h=>cases h;exact ⟨_,_,_,_,rfl,h1,h2,h3,h4⟩
theorem KJ:SRB K I0 Ct:=fun S H vs ds g Q s d q k=>by
 unfold Ct at q
 split at q
 ·rename_i a b c e
  cases q
  obtain ⟨v,w,x,y,rfl,d1,d2,d3,d4⟩:=HW d
  exact ⟨a,b,c,e,by rw [d1.int,d2.int,d3.int,d4.int],k _ S H (Ext.refl s) (den_int.mpr rfl)⟩
 ·cases q
end
end M
namespace L2
open PySem
theorem eE {XN:List Str} {sc scope:Scope} {N:List Str} {js:List (Option Nat)} (h1:scope.kind = .function:=by rfl) (h2:∀ y ∈ scope.names,y.2 ≠ .cell:=by decide +kernel) (h3:∀ y ∈ scope.names,y.2 = .free -> sc.names.lookup y.1 = some .cell \/ sc.names.lookup y.1 = some .free:=by decide +kernel)
  (h4:∀ y ∈ scope.names,y.2 = .local -> scope.names.lookup y.1 = some .local:=by decide +kernel) (h5:js.length = N.length:=by rfl) (h6:((N.zip js).all fun p=>match p.2 with | none=>true | some j=>decide (XN[j]? = some p.1) && decide (scope.names.lookup p.1 = some .free)) = true:=by decide +kernel):CmpOk XN sc scope N js:=⟨h1,h2,h3,h4,h5,h6⟩
end L2
namespace M
open PySem L2
@[simp] def Nm (m:List D -> Option D) (e:D) (a:XA):XE:=fun ρ=>(a ρ).bind fun ds=>m (ds ++ [e])
section
variable {K:W.Frag}
end
end M
namespace L2
open PySem
section
variable {P:Program} {w:World} {K:W.Frag} {mg:Str -> Option Value} {base:Heap}
end
end L2
namespace L2
open PySem PySem.Spec PyProof.Rows
structure CmpOkC (XN:List Str) (sc scope:Scope) (N:List Str) (js:List (Option Nat)) (t:Str):Prop where
 kind:scope.kind = .function
 free:∀ y ∈ scope.names,y.2 = .free -> sc.names.lookup y.1 = some .cell \/ sc.names.lookup y.1 = some .free
 loc:∀ y ∈ scope.names,y.2 = .local -> scope.names.lookup y.1 = some .local
 len:js.length = N.length
 ix:((N.zip js).all fun p=>match p.2 with | none=>true | some j=>decide (XN[j]? = some p.1) && decide (scope.names.lookup p.1 = some .free)) = true
 cell1:∀ y ∈ scope.names,y.2 = .cell -> y.1 = t
 tl:scope.names.lookup t = some .cell
 laid:∀ n acc,cellsFrom n scope.names acc = (t,n) :: acc
 pushed:∀ h,pushCells h scope.names = h.push { cls:=.type "cell",data:=.cell none }
theorem Kb {XN:List Str} {sc scope:Scope} {N:List Str} {js:List (Option Nat)} {t:Str} (h1:scope.kind = .function:=by rfl) (h3:∀ y ∈ scope.names,y.2 = .free -> sc.names.lookup y.1 = some .cell \/ sc.names.lookup y.1 = some .free:=by decide +kernel)
  (h4:∀ y ∈ scope.names,y.2 = .local -> scope.names.lookup y.1 = some .local:=by decide +kernel) (h5:js.length = N.length:=by rfl) (h6:((N.zip js).all fun p=>match p.2 with | none=>true | some j=>decide (XN[j]? = some p.1) && decide (scope.names.lookup p.1 = some .free)) = true:=by decide +kernel)
  (h7:∀ y ∈ scope.names,y.2 = .cell -> y.1 = t:=by decide +kernel) (h8:scope.names.lookup t = some .cell:=by decide +kernel) (h9:∀ n acc,cellsFrom n scope.names acc = (t,n) :: acc:=by intro n acc;rfl) (h10:∀ h,pushCells h scope.names = h.push { cls:=.type "cell",data:=.cell none }:=by intro h;rfl):CmpOkC XN sc scope N js t:=⟨h1,h3,h4,h5,h6,h7,h8,h9,h10⟩
def cxD (t:Str) (X:Cx) (N:List Str) (scope:Scope) (z:CxZ):Cx:={ cxC X N scope z with fn:=fun y=>y == t }
theorem mJ {env:Env}:∀ {names:List (Str × NameKind)} {x:Str} {j:NameKind},(j = .cell \/ j = .free) ->
  (names.map fun (n,k)=>if (k == NameKind.free && env.scope.kind == .function && env.kindOf n == some .cell) then (n,NameKind.cell) else (n,k)).lookup x = some j -> (x,NameKind.free) ∈ names \/ (x,NameKind.cell) ∈ names
 | [],_,_,_,h=>by simp at h
 | (n,k) :: r,x,j,hj,h=>by
  have ih:=@mJ env r x j hj
  rw [Px] at h
  dsimp only at h
  cases q:x == n with
  | true=>
   have e:x = n:=by simpa using q
   subst e
   split at h
   ·rename_i g
    have:k = .free:=by simp only [Qh,Qf] at g;exact g.1.1
    subst this
    exact .inl Pm
   ·rw [P5,q] at h
    cases h
    rcases hj with z | z
    ·rw [z];exact .inr Pm
    ·rw [z];exact .inl Pm
  | false=>
   have h':(r.map fun (n,k)=>if (k == NameKind.free && env.scope.kind == .function && env.kindOf n == some .cell) then (n,NameKind.cell) else (n,k)).lookup x = some j:=by
    split at h
    ·rw [P5,q] at h;exact h
    ·rw [P5,q] at h;exact h
   exact (ih h').imp (Po _) (Po _)
section
variable {X:Cx} {pins:List (Addr × Obj)} {σ:St} {H:Hp} {s:Shared} {XN N:List Str} {sc scope:Scope} {js:List (Option Nat)}
theorem Ik {M:Model} {A:Around} {E:Value -> Shared -> Prop} {t:Str} {cl:List (Str × Addr)} {globals:Addr} {qual:Str} {env:Env} {Q:Env -> Shared -> Prop} (ck:CmpOkC XN sc scope N js t)
  (h:Q { scope:=scope,locals:=s.heap.objs.size,globals:=globals,cells:=(t,s.heap.objs.size + 1) :: cl,qual:=qual,func:=none,code:=env.code,frame:=env.frame,builtins:=env.builtins } { s with heap:=(s.heap.push { cls:=.type "dict",data:=.dict #[] }).push { cls:=.type "cell",data:=.cell none } }):wpAny M A (newFunctionEnv scope globals cl [] qual none .none (some env)) Q E s:=by
 simp only [newFunctionEnv,Option.isSome_some,QK]
 refine Pg (wpAny_alloc ?_)
 refine Pg (wpAny_layCells _ (fun name kind cells=>by cases hkc:kind == NameKind.cell <;> simp [hkc]) _ _ _ _ ?_)
 rw [ck.pushed,ck.laid,show ({ s with heap:=s.heap.push { cls:=.type "dict",data:=.dict #[] } }:Shared).heap.objs.size = s.heap.objs.size + 1 from QI ..]
 exact Pl h
theorem Eo {t:Str} {h1:Heap} {tk:Nat} {fp:List Addr} (ck:CmpOkC XN sc scope N js t) (hXN:X.N = XN) (hsc:X.env.scope = sc) (I:Inv X pins σ H s) (hf:∀ b ∈ fp,qE X pins H b)
  (hfo:∀ b ∈ fp,b < s.heap.objs.size) (hh:h1 = (s.heap.push { cls:=.type "dict",data:=.dict #[] }).push { cls:=.type "cell",data:=.cell none }) :
  Inv (cxD t X N scope ⟨(t,s.heap.objs.size + 1) :: gH X.env scope.names [],s.heap.objs.size,s,H,fp,pins⟩) [] (inn js σ) H { s with heap:=h1,toks:=tk }:=by
 subst hXN hsc
 have hk:∀ b o,s.heap.get? b = some o -> h1.get? b = some o:=fun b o e=>by rw [hh];exact Pz _ (Pz _ e)
 have hn:h1.Ns s.heap.objs.size (fun _=>none):=by rw [hh];exact (Heap.Ns.new s.heap (.type "dict")).keeps fun b o e=>Pz _ e
 have hcell:h1.get? (s.heap.objs.size + 1) = some { cls:=.type "cell",data:=.cell none }:=by
  rw [hh,<- QI s.heap { cls:=.type "dict",data:=.dict #[] }]
  exact P7 _ rfl
 have look:∀ n c,((t,s.heap.objs.size + 1) :: gH X.env scope.names []).lookup n = some c -> (n = t /\ c = s.heap.objs.size + 1) \/ (n ≠ t /\ (gH X.env scope.names []).lookup n = some c):=fun n c h=>by
  rw [P5] at h
  cases q:n == t with
  | true=>rw [q] at h;cases h;exact .inl ⟨by simpa using q,rfl⟩
  | false=>rw [q] at h;exact .inr ⟨fun e=>by rw [e] at q;simp at q,h⟩
 have sub:∀ n c,(gH X.env scope.names []).lookup n = some c -> X.env.cells.lookup n = some c:=wl fun n c h=>by simp at h
 have clt:∀ n c,(gH X.env scope.names []).lookup n = some c -> c < s.heap.objs.size:=fun n c h=>by
  obtain ⟨v,q⟩:=I.cell n c (sub n c h)
  exact q.lt
 have has:∀ x,(x,NameKind.free) ∈ scope.names -> ∃ c,(gH X.env scope.names []).lookup x = some c:=fun x hx=>
  vB (.inl ⟨hx,I.ok.has x (ck.free _ hx rfl)⟩)
 refine ⟨⟨I.ok.mod,ck.kind,I.ok.glob,I.ok.blt,Pj _,fun x y c h1 h2=>?inj,fun x hx=>?has,fun x c hx hl=>?cab,I.ok.hd,I.ok.frames,.inl rfl,fun b hb=>?exf,I.bs,?bsz,fun b o e hb=>?noex,fun b hb=>?exfs,I.stack,I.stkFree⟩,
  rfl,I.bare,Un.kept hk,⟨_,hn,fun i x v h1 h2 h3=>?loc⟩,fun x c h=>?cell,I.hok.fresh (Pj _),fun x c h=>?freeC,fun p hp=>?pin,I.hok.kept hk,?len⟩
 case inj=>
  rcases look x c h1 with ⟨e1,e2⟩ | ⟨e1,e2⟩ <;> rcases look y c h2 with ⟨e3,e4⟩ | ⟨e3,e4⟩
  ·rw [e1,e3]
  ·have z:c < s.heap.objs.size:=clt y c e4
   rw [e2] at z
   exact absurd z (Nat.not_lt.mpr (QJ _))
  ·have z:c < s.heap.objs.size:=clt x c e2
   rw [e4] at z
   exact absurd z (Nat.not_lt.mpr (QJ _))
  ·exact I.ok.inj x y c (sub x c e2) (sub y c e4)
 case freeC=>
  rcases look x c h with ⟨e1,e2⟩ | ⟨e1,e2⟩
  ·rw [e2];exact I.hok.fresh (QJ _)
  ·exact I.freeC x c (sub x c e2)
 case has=>
  have hb:(x,NameKind.free) ∈ scope.names \/ (x,NameKind.cell) ∈ scope.names:=by
   rcases hx with hx | hx
   ·exact mJ (.inl rfl) hx
   ·exact mJ (.inr rfl) hx
  by_cases e:x = t
  ·exact ⟨s.heap.objs.size + 1,by subst e;show List.lookup x ((x,_) :: _) = _;rw [P5,beq_self_eq_true]⟩
  ·rcases hb with hb | hb
   ·obtain ⟨c,hc⟩:=has x hb
    refine ⟨c,?_⟩
    show List.lookup x ((t,_) :: _) = _
    rw [P5,show (x == t) = false by simpa using e]
    exact hc
   ·exact absurd (ck.cell1 _ hb rfl) e
 case cab=>
  have e:x = t:=by
   have hx':(x == t) = true:=hx
   simpa using hx'
  rcases look x c hl with ⟨_,e2⟩ | ⟨e1,_⟩
  ·rw [e2];exact QJ _
  ·exact absurd e e1
 case exf=>
  obtain ⟨f0,f1,f2,f3,f4,f5⟩:=hf b hb
  refine ⟨PD (hfo b hb),fun x c e=>?_⟩
  rcases look x c e with ⟨_,e2⟩ | ⟨_,e2⟩
  ·intro z
   have w:=hfo b hb
   rw [<- z,e2] at w
   exact absurd w (Nat.not_lt.mpr (QJ _))
  ·exact f4 x c (sub x c e2)
 case bsz=>exact PR I.ok.bsz I.sz
 case noex=>
  obtain ⟨f0,f1,f2,f3,f4,f5⟩:=hf b hb
  rcases f3 with f3 | f3
  ·exact I.ok.noex b o e f3
  ·exact absurd (PY (Pv e) (PR I.ok.bsz f3)) (QB _)
 case exfs=>
  obtain ⟨f0,f1,f2,f3,f4,f5⟩:=hf b hb
  intro z
  rcases Pq.mp (I.stkSub b z) with e | e
  ·exact f1 e
  ·exact f2 e
 case loc=>
  have hl:N.length = js.length:=ck.len.symm
  have hi:i < js.length:=by
   have:=(PF.mp h1).1
   have e:(cxD t X N scope ⟨(t,s.heap.objs.size + 1) :: gH X.env scope.names [],s.heap.objs.size,s,H,fp,pins⟩).N = N:=rfl
   rw [e] at this
   lia
  have hN:N[i]? = some x:=h1
  have hj:js[i]? = some js[i]:=Qi hi
  unfold inn at h2
  rw [PN,hj] at h2
  cases q:js[i] with
  | none=>rw [q] at h2;cases h2
  | some j=>
   rw [q] at h2 hj
   have h2':(σ[j]?).join = some v:=P6 h2
   have hσ:σ[j]? = some (some v):=by
    cases e:σ[j]? with
    | none=>rw [e] at h2';cases h2'
    | some o=>rw [e] at h2';exact PQ some h2'
   have hm:(x,some j) ∈ N.zip js:=by
    refine QW (i:=i) ?_
    rw [List.getElem?_zip_eq_some]
    exact ⟨hN,hj⟩
   have hc:=List.all_eq_true.mp ck.ix _ hm
   simp only [Qh,decide_eq_true_eq] at hc
   obtain ⟨c1,c2⟩:=hc
   have hfr:(x,NameKind.free) ∈ scope.names:=QV c2
   have hvis:X.env.scope.names.lookup x = some .cell \/ X.env.scope.names.lookup x = some .free:=ck.free _ hfr rfl
   obtain ⟨m0,hn0,hl0⟩:=I.loc
   obtain ⟨u,r,l⟩:=hl0 j x v c1 hσ (hvis.elim (fun z=>.inr (.inl z)) fun z=>.inr (.inr z))
   refine ⟨u,r,.inr ⟨?_,?_⟩⟩
   ·exact pd c2
   ·rcases l with ⟨k1,_⟩ | ⟨_,c,k1,k2⟩
    ·have k1':X.env.scope.names.lookup x = some .local:=k1
     rcases hvis with z | z
     ·rw [z] at k1';cases k1'
     ·rw [z] at k1';cases k1'
    ·obtain ⟨c',hc'⟩:=has x hfr
     have e:=sub x c' hc'
     rw [k1] at e
     cases e
     obtain ⟨oc,ho,hd⟩:=k2
     refine ⟨c,?_,oc,hk _ _ ho,hd⟩
     have ne:x ≠ t:=fun e=>by rw [e,ck.tl] at c2;cases c2
     show List.lookup x ((t,_) :: _) = _
     rw [P5,show (x == t) = false by simpa using ne]
     exact hc'
 case cell=>
  rcases look x c h with ⟨e1,e2⟩ | ⟨e1,e2⟩
  ·exact ⟨none,_,by rw [e2];exact hcell,rfl⟩
  ·obtain ⟨v,oc,ho,hd⟩:=I.cell x c (sub x c e2)
   exact ⟨v,oc,hk _ _ ho,hd⟩
 case pin=>
  have hp':p ∈ X.pn ++ pins:=by simpa [cxD,cxC] using hp
  obtain ⟨p1,p2,p3,p4,p5⟩:=I.pin p hp'
  refine ⟨hk _ _ p1,p2,PD (Pv p1),fun z=>?_,p5⟩
  rcases Pq.mp (I.stkSub _ z) with e | e
  ·exact p3 e
  ·exact p4 e
 case len=>
  show (inn js σ).length = N.length
  unfold inn
  rw [Ph]
  exact ck.len
variable {tg iter elt:Expr} {ifs:List Expr} {pos:Pos} {wi:TI} {g:TG} {tt:TIf} {te:TE}
theorem Bk {t:Str} {E:Value -> Shared -> Prop} {R:Result -> Shared -> Prop} {it D:Addr} {fp:List Addr} {tn:Nat -> Heap -> Prop} {J:It} {z:CxZ} {W:Nat -> Nat -> Hp -> Prop} {n:Nat}
  (hc:X.calm = true) (T:Turn X.prog X.w X.K tg J fp it tn) (hz:∀ b ∈ fp,∀ H',H' b = none -> qE (cxD t X N scope z) [] H' b)
  (hg:PG (cxD t X N scope z) tg g) (hs:wO js g) (ht:PIf (cxD t X N scope z) ifs tt) (he:PE (cxD t X N scope z) elt te)
  (turn:∀ i m H,W i m H -> (J.stop i H /\ ∀ s',Inv (cxD t X N scope z) [] (inn js σ) H s' -> R (.ok .next) s') \/ (J.go i H /\ ∀ x H',J.yld i H x H' -> g x (inn js σ) H' fun σ2 H2=>tt σ2 H2 fun b H3=>
   if b = true then te σ2 H3 fun y H4=>∃ ys,H4 D = some (.lst ys) /\ ys.length < sizeLine /\ ∃ m',m' < m /\ W (i + 1) m' (upd H4 D (.lst (ys ++ [y]))) else ∃ m',m' < m /\ W (i + 1) m' H3))
  {s1:Shared} {H1:Hp} (I1:Inv (cxD t X N scope z) [] (inn js σ) H1 s1) (t1:tn 0 s1.heap) (f1:∀ b ∈ fp,H1 b = none) (w1:W 0 n H1) :
  codeAny (model X.prog X.w) X.A (.compLoop (.ListComp elt [⟨tg,iter,ifs,0⟩] scope pos) 0 (.ref it) (.ref D) (compEnvC scope z.cl z.C X.env)) R s1:=by
 refine codeAny_loop (c:=.compLoop (.ListComp elt [⟨tg,iter,ifs,0⟩] scope pos) 0 (.ref it) (.ref D) (compEnvC scope z.cl z.C X.env)) rfl
  (fun k s'=>∃ i H',Inv (cxD t X N scope z) [] (inn js σ) H' s' /\ tn i s'.heap /\ (∀ b ∈ fp,H' b = none) /\ W i k H') ?_ n ⟨0,H1,I1,t1,f1,w1⟩
 rintro k s2 ⟨i,H2,I2,t2,f2,w2⟩
 show wpAny (model X.prog X.w) X.A ((compTurn (.ListComp elt [⟨tg,iter,ifs,0⟩] scope pos) 0 (.ref it) (.ref D) (compEnvC scope z.cl z.C X.env)).onRaise fun x=>do noteFrame x (compEnvC scope z.cl z.C X.env);theTreesLotGoes x) _ _ s2
 refine wpAny_noted ?_
 rw [compTurn_list]
 refine Pg (wpAny_standAt ?_)
 rcases turn i k H2 w2 with ⟨stop,fin⟩ | ⟨go,step⟩
 ·refine Pg (thn (T.done (cxD t X N scope z) rfl rfl rfl hc i [] s2 (inn js σ) H2 _ I2 (fun b hb=>hz b hb H2 (f2 b hb)) t2 stop) fun r s3 h3=>?_)
  obtain ⟨rfl,I3⟩:=h3
  exact Pl (fin s3 I3)
 ·refine Pg (thn (T.item (cxD t X N scope z) rfl rfl rfl hc i [] s2 (inn js σ) H2 _ I2 (fun b hb=>hz b hb H2 (f2 b hb)) t2 go) fun r s3 h3=>?_)
  obtain ⟨u,rfl,h3⟩:=h3
  refine Pg (thn h3 fun _ s4 h4=>?_)
  obtain ⟨x,H4,I4,r4,y4,t4,f4⟩:=h4
  have P4:=I4.pinned (fun b hb=>hz b hb H4 (f4 b hb)) (T.obj _ _ t4)
  have ff:∀ {e:Value} {s':Shared},(cxD t X N scope z).xe e s' -> False:=fun h=>h
  refine Pg (P9 (hg _ s4 (inn js σ) H4 x u _ P4 r4 (hs σ x (inn js σ) H4 _ (Lev.refl _) (step x H4 y4))) (fun _ s5 h5=>?_) fun _ _ h=>(ff h).elim)
  obtain ⟨σ5,H5,I5,lev,q5⟩:=h5
  refine Pg (P9 (ht _ s5 σ5 H5 _ I5 q5) (fun ok s6 h6=>?_) fun _ _ h=>(ff h).elim)
  obtain ⟨H6,I6,q6⟩:=h6
  have again:∀ {s7:Shared} {H7:Hp},Inv (cxD t X N scope z) ([] ++ sj fp s4.heap) σ5 H7 s7 -> (∃ m',m' < k /\ W (i + 1) m' H7) -> ∃ m,m < k /\ ∃ i H',Inv (cxD t X N scope z) [] (inn js σ) H' s7 /\ tn i s7.heap /\ (∀ b ∈ fp,H' b = none) /\ W i m H':=fun {s7 H7} I7 h7=>by
   obtain ⟨m',hm,w7⟩:=h7
   refine ⟨m',hm,i + 1,H7,(I7.unpinned).weak lev.1 lev.2,T.keep _ _ _ t4 fun b hb o e=>(I7.pin (b,o) (Pr _ (Pr _ (gG hb e)))).1,fun b hb=>?_,w7⟩
   obtain ⟨o,e,d⟩:=T.obj _ _ t4 b hb
   exact (I7.pin (b,o) (Pr _ (Pr _ (gG hb e)))).2.1
  cases ok with
  | false=>
   rw [Pc (by decide)] at q6
   exact Pl ⟨rfl,again I6 q6⟩
  | true=>
   rw [Pb rfl] at q6
   refine Pg (Pg (P9 (he _ s6 σ5 H6 _ I6 q6) (fun y s7 h7=>?_) fun _ _ h=>(ff h).elim))
   obtain ⟨vy,H7,I7,r7,ys,hD,hl,q7⟩:=h7
   refine Pg (P9 (fK (X:=cxD t X N scope z) _ s7 σ5 H7 (.ref D) [vy] (.ref D) [y] (fun _ H'=>∃ m',m' < k /\ W (i + 1) m' H') I7 rfl (.cons r7 .nil) ⟨D,ys,vy,rfl,rfl,hD,hl,q7⟩) (fun _ s8 h8=>?_) fun _ _ h=>(ff h).elim)
   obtain ⟨_,H8,I8,_,q8⟩:=h8
   exact Pl (Pl ⟨rfl,again I8 q8⟩)
theorem zC {t:Str} {E:Value -> Shared -> Prop} {RR:Value -> Addr -> Result -> Shared -> Prop} {Q:VK} {itv:Value} {s2:Shared} (ck:CmpOkC XN sc scope N js t) (hXN:X.N = XN) (hsc:X.env.scope = sc) (hc:X.calm = true)
  (hg:∀ z,PG (cxD t X N scope z) tg g) (hs:wO js g) (ht:∀ z,PIf (cxD t X N scope z) ifs tt) (he:∀ z,PE (cxD t X N scope z) elt te)
  (h2:PIE X pins σ tg (fun J H1=>∀ D,H1 D = none -> ∃ W:Nat -> Nat -> Hp -> Prop,(∃ m,W 0 m (upd H1 D (.lst []))) /\ ∀ i m H,W i m H ->
   (J.stop i H /\ Q (.ref D) H) \/ (J.go i H /\ ∀ x H',J.yld i H x H' -> g x (inn js σ) H' fun σ2 H2=>tt σ2 H2 fun b H3=>
    if b = true then te σ2 H3 fun y H4=>∃ ys,H4 D = some (.lst ys) /\ ys.length < sizeLine /\ ∃ m',m' < m /\ W (i + 1) m' (upd H4 D (.lst (ys ++ [y]))) else ∃ m',m' < m /\ W (i + 1) m' H3)) itv s2)
  (hRR:∀ D C s' H' m o,Inv X (pins ++ [(C,o)]) σ H' s' -> s'.heap.Ns C m -> (X.s₀.heap.objs.size <= C /\ C ≠ X.env.locals /\ (∀ x c,X.env.cells.lookup x = some c -> c ≠ C) /\ ∀ p ∈ X.pn ++ pins,p.1 ≠ C) -> H' C = none -> Q (.ref D) H' -> RR (.ref D) C (.ok .next) s') :
  wpAny (model X.prog X.w) X.A (newList []) (fun acc s₃=>wpAny (model X.prog X.w) X.A (newFunctionEnv scope X.env.globals (gH X.env scope.names []) [] X.env.qual none .none (some X.env)) (fun cenv s₄=>
   codeAny (model X.prog X.w) X.A (.compStart (.ListComp elt [⟨tg,iter,ifs,0⟩] scope pos) 0 itv acc { cenv with scope:=relabel scope X.env }) (RR acc cenv.locals) s₄) E s₃) E s2:=by
 obtain ⟨it,fp,tn,J,H2,rfl,I2,T,t2,f2,q2⟩:=h2
 have fo:∀ b ∈ fp,b < s2.heap.objs.size:=fun b hb=>by
  obtain ⟨o,e,_⟩:=T.obj _ _ t2 b hb
  exact Pv e
 have hD:H2 s2.heap.objs.size = none:=I2.fresh
 obtain ⟨W,⟨n,w0⟩,turn⟩:=q2 _ hD
 refine Qr (Ik ck ?_)
 generalize hh1:((s2.heap.push { cls:=.type "list",data:=.seq ([]:List Value).toArray }).push { cls:=.type "dict",data:=.dict #[] }).push { cls:=.type "cell",data:=.cell none } = h1
 have I3:Inv X pins σ (upd H2 s2.heap.objs.size (.lst [])) { s2 with heap:=s2.heap.push { cls:=.type "list",data:=.seq ([]:List Value).toArray },toks:=s2.toks }:=I2.lnew (its:=[]) .nil (P8 _)
 have f3:∀ b ∈ fp,qE X pins (upd H2 s2.heap.objs.size (.lst [])) b:=fun b hb=>by
  obtain ⟨g0,g1⟩:=f2 b hb
  exact ⟨by rw [aP (PD (fo b hb))];exact g0,g1⟩
 have sz:(s2.heap.push { cls:=.type "list",data:=.seq ([]:List Value).toArray }).objs.size = s2.heap.objs.size + 1:=QI _ _
 have kept:∀ b o,(s2.heap.push { cls:=.type "list",data:=.seq ([]:List Value).toArray }).get? b = some o -> h1.get? b = some o:=fun b o e=>by
  rw [<- hh1];exact Pz _ (Pz _ e)
 have I4:=Eo (tk:=s2.toks) ck hXN hsc I3 f3 (fun b hb=>by show b < (s2.heap.push _).objs.size;rw [sz];exact Rp (fo b hb)) hh1.symm
 have t4:tn 0 h1:=T.keep _ _ _ t2 fun b hb o e=>kept b o (Pz _ e)
 have fz:∀ b ∈ fp,∀ H',H' b = none -> qE (cxD t X N scope ⟨(t,(s2.heap.push { cls:=.type "list",data:=.seq ([]:List Value).toArray }).objs.size + 1) :: gH X.env scope.names [],(s2.heap.push { cls:=.type "list",data:=.seq ([]:List Value).toArray }).objs.size,{ s2 with heap:=s2.heap.push { cls:=.type "list",data:=.seq ([]:List Value).toArray },toks:=s2.toks },upd H2 s2.heap.objs.size (.lst []),fp,pins⟩) [] H' b:=fun b hb H' hn=>by
  obtain ⟨g0,g1,g2,g3,g4,g5⟩:=f3 b hb
  refine ⟨hn,(I4.ok.exf b hb).1,I4.ok.exfs b hb,.inl hb,(I4.ok.exf b hb).2,fun p hp=>?_⟩
  exact g5 p (by simpa [cxD,cxC] using hp)
 have loop:=Bk (X:=X) (t:=t) (σ:=σ) (N:=N) (scope:=scope) (js:=js) (iter:=iter) (pos:=pos) (E:=E) (R:=RR (.ref s2.heap.objs.size) (s2.heap.push { cls:=.type "list",data:=.seq ([]:List Value).toArray }).objs.size) (D:=s2.heap.objs.size) (W:=W) (n:=n)
  hc T fz (hg _) hs (ht _) (he _) (fun i m H w=>(turn i m H w).imp (fun a=>⟨a.1,fun s' Y=>?_⟩) id) I4 t4 (fun b hb=>(f3 b hb).1) w0
 ·exact codeAny_compStart_list loop (T.self _ 0 _ _ _ t4 loop)
 ·have bb:=Y.base
  have J0:Inv X pins σ H s':=I3.call' Y.os bb Y.hok Y.bare fun b hb=>by
   obtain ⟨g0,g1,g2,g3,g4,g5⟩:=f3 b hb
   exact ⟨g3,g1,g4,g5⟩
  obtain ⟨mC,nC,_⟩:=Y.loc
  obtain ⟨oC,eC,dC⟩:∃ o,s'.heap.get? (s2.heap.push { cls:=.type "list",data:=.seq ([]:List Value).toArray }).objs.size = some o /\ ∀ v,o.data ≠ .cell v:=by
   obtain ⟨o,es,ep,ho,hd,_⟩:=nC
   exact ⟨o,ho,fun v z=>by rw [hd] at z;cases z⟩
  have lC:X.s₀.heap.objs.size <= (s2.heap.push { cls:=.type "list",data:=.seq ([]:List Value).toArray }).objs.size:=I3.sz
  have cC:(s2.heap.push { cls:=.type "list",data:=.seq ([]:List Value).toArray }).objs.size ≠ X.env.locals:=Nat.ne_of_gt I3.lt
  have kC:∀ x c,X.env.cells.lookup x = some c -> c ≠ (s2.heap.push { cls:=.type "list",data:=.seq ([]:List Value).toArray }).objs.size:=fun x c e=>by
   obtain ⟨v,q⟩:=I3.cell x c e
   exact PD q.lt
  have pC:∀ p ∈ X.pn ++ pins,p.1 ≠ (s2.heap.push { cls:=.type "list",data:=.seq ([]:List Value).toArray }).objs.size:=fun p hp=>PD (Pv (I3.pin p hp).1)
  have J1:Inv X (pins ++ [((s2.heap.push { cls:=.type "list",data:=.seq ([]:List Value).toArray }).objs.size,oC)]) σ H s':=J0.pins_of fun p hp=>by
   rcases Pu.mp hp with hp | hp
   ·exact J0.pin p (Pr _ hp)
   ·rw [Pi.mp hp]
    exact ⟨eC,Y.free,cC,I3.nofs (Pj _),dC⟩
  exact hRR _ _ s' H mC oC J1 nC ⟨lC,cC,kC,pC⟩ Y.free a.2
theorem Gx {t:Str} (ck:CmpOkC XN sc scope N js t) (hi:PI X tg iter wi) (hg:∀ z,PG (cxD t X N scope z) tg g) (hs:wO js g) (ht:∀ z,PIf (cxD t X N scope z) ifs tt) (he:∀ z,PE (cxD t X N scope z) elt te)
  (hXN:X.N = XN:=by rfl) (hsc:X.env.scope = sc:=by rfl) (hc:X.calm = true:=by rfl) (hf:∀ x,foldedSetIterable iter X.env x = pure x:=by intro _;rfl) :
  PE X (.ListComp elt [⟨tg,iter,ifs,0⟩] scope pos) (CT js wi g tt te):=by
 intro pins s σ H Q I h
 rw [eval_ListComp]
 have hcl:closureFor scope X.env = pure (gH X.env scope.names []):=o3 fun y hy hk=>I.ok.has y.1 (by
  have:=ck.free y hy hk
  rw [<- hsc] at this
  exact this)
 refine R5 (use:=none) rfl hf hcl ck.kind ck.loc (thn (hi pins s σ H _ I h) fun v s1 h1=>thn h1 fun itv s2 h2=>?_)
 refine zC (RR:=fun acc C=>compPost (model X.prog X.w) X.A X.xe none (EP X pins σ Q) acc C) ck hXN hsc hc hg hs ht he h2 ?_
 intro D C s' H' m o J nC hC fC q
 refine ⟨m,nC,fun h' sb=>⟨.ref D,H',?_,rfl,q⟩⟩
 have J0:Inv X pins σ H' s':=J.unpinned
 exact J0.turned (t':=s'.toks) (it:=C) (fun b o hb e=>sb.extBut b o hb e) fC hC.2.1 (.inr hC.1) hC.2.2.1 hC.2.2.2
end
end L2
namespace RevT
open PySem PySem.Calls PyProof.Rows
theorem slot_next:Slot "reversed" "__next__" "reversed.__next__" := .of (owner := "reversed") (n := "__next__") (by rw [Ra,Rb];kernel_rfl) (by decide +kernel) (by decide +kernel) (by decide +kernel) (by first | exact .inl (by decide +kernel) | exact .inr (by decide +kernel)) (by rw [Rc];kernel_rfl)
theorem vo:entryFor table "reversed.__next__" = some Builtin.«reversed.__next__»:=entryFor_of_tree (by kernel_rfl)
theorem xS (a:Value):argsOk "reversed.__next__" ⟨[a],[]⟩:=by unfold argsOk;kernel_rfl
theorem xQ:Slot "reversed" "__iter__" "reversed.__iter__" := .of (owner := "reversed") (n := "__iter__") (by rw [Ra,Rb];kernel_rfl) (by decide +kernel) (by decide +kernel) (by decide +kernel) (by first | exact .inl (by decide +kernel) | exact .inr (by decide +kernel)) (by rw [Rc];kernel_rfl)
theorem EH (a:Value):argsOk "reversed.__iter__" ⟨[a],[]⟩:=by unfold argsOk;kernel_rfl
theorem BM:entryFor table "reversed.__iter__" = some Builtin.«dict_keyiterator.__iter__»:=entryFor_alias (id' := "dict_keyiterator.__iter__") (by kernel_rfl) (by first | rfl | decide +kernel | (unfold String.splitOn;simp +decide [String.splitOnAux])) (by decide +kernel) (by kernel_rfl)
theorem Km:typeLookup (.type "tuple") "__reversed__" = pure none:=by rw [Ra,Rb];kernel_rfl
theorem Dz:typeLookup (.type "tuple") "__getitem__" = pure (some (.builtin "tuple.__getitem__")):=by rw [Ra,Rb];kernel_rfl
theorem H9:isSubtype (.type "tuple") (.type "dict") = pure false:=by rw [Rc];kernel_rfl
theorem sub_self:isSubtype (.type "reversed") (.type "reversed") = pure true:=by rw [Rc];kernel_rfl
def vq (t:Addr) (i:Int):Obj:={ cls:=.type "reversed",data:=.fields #[.ref t,rawInt i] }
def IsRev (h:Heap) (a t:Addr) (i:Int):Prop:=∃ o,h.get? a = some o /\ o.cls = .type "reversed" /\ o.data = .fields #[.ref t,rawInt i]
section
variable {prog:Program} {w:World} {A:Around} {E:Value -> Shared -> Prop} {s:Shared}
theorem IsRev.typeIs {a t:Addr} {i:Int} (x:IsRev s.heap a t i):s.TypeIs (.ref a) "reversed" := let ⟨o,ho,hc,_⟩:=x;⟨o,ho,hc⟩
theorem Ee {it t:Addr} {i:Nat} {items:Array Value} {x:Value} {Q:Option Value -> Shared -> Prop} (hit:IsRev s.heap it t (i:Int)) (ht:IsTup s.heap t items) (hx:items[i]? = some x) (hi:(i:Int) < 2 ^ 62)
  (hQ:∀ h' tk,IsRev h' it t ((i:Int) - 1) -> Heap.SameBut it s.heap h' -> Q (some x) { s with heap:=h',toks:=tk }):wpAny (model prog w) A (pyNext (.ref it)) Q E s:=by
 obtain ⟨o,ho,hc,hd⟩:=id hit
 unfold pyNext
 refine Pg (Q7 (RJ (name:=Str.ofString "__next__") hit.typeIs slot_next (Q6 slot_next hit.typeIs vo ?_ (xS _))))
 unfold Builtin.«reversed.__next__»
 refine Pg (Q1 (a:=(Value.ref it,[])) rfl ?_)
 try dsimp only
 refine Pg (QL ho hd (x:=.ref t) rfl ?_)
 refine Pg (QL ho hd (x:=rawInt (i:Int)) rfl ?_)
 show wpAny _ _ (if (i:Int) < 0 then _ else _) _ _ s
 rw [Pc (by lia)]
 refine Pg (wpAny_specialOf ht.typeIs Dz ?_)
 rw [Pc (show ¬ ((some (Value.builtin "tuple.__getitem__")).isNone = true) from QU)]
 refine Pg (wpAny_mkInt ?_)
 have p63:(2:Int) ^ 63 = 9223372036854775808:=by decide
 have p62:(2:Int) ^ 62 = 4611686018427387904:=by decide
 have hsz:=(Array.getElem?_eq_some_iff.mp hx).1
 have hix:seqIndex? (i:Int) items.size = some i:=by
  unfold seqIndex?
  simp
  lia
 refine Pg (Q7 (getItem_tuple (s:={ s with toks:=s.toks + 1 }) (j:=i) ht (by lia) (by lia) hix hx ?_))
 dsimp only
 refine Pg (QL (s:={ s with toks:=s.toks + 1 }) ho hd (x:=rawInt (i:Int)) rfl ?_)
 show wpAny _ _ (setField (.ref it) 1 (rawInt ((i:Int) - 1)) >>= _) _ _ _
 refine Pg (wpAny_setField (s:={ s with toks:=s.toks + 1 }) ho hd (by simp) ?_)
 refine Pl ⟨x,rfl,Pl (hQ _ _ ?_ (Heap.SameBut.update ..))⟩
 exact ⟨_,R0 _ ho (Obj.isFreed_of_fields (RN hd _)),(Obj.cls_mapFields ..).trans hc,by rw [RN hd];simp⟩
theorem FR {it t:Addr} {Q:Option Value -> Shared -> Prop} (hh:A.handled = none) (hit:IsRev s.heap it t (-1)) (hQ:∀ h',Heap.ExtBut it s.heap h' -> Q none { s with heap:=h' }):wpAny (model prog w) A (pyNext (.ref it)) Q E s:=by
 obtain ⟨o,ho,hc,hd⟩:=id hit
 unfold pyNext
 refine Pg (Q7 (RJ (name:=Str.ofString "__next__") hit.typeIs slot_next (Q6 slot_next hit.typeIs vo ?_ (xS _))))
 unfold Builtin.«reversed.__next__»
 refine Pg (Q1 (a:=(Value.ref it,[])) rfl ?_)
 try dsimp only
 refine Pg (QL ho hd (x:=.ref t) rfl ?_)
 refine Pg (QL ho hd (x:=rawInt (-1)) rfl ?_)
 show wpAny _ _ (if (-1:Int) < 0 then _ else _) _ _ s
 rw [Pb (by decide)]
 refine Pg (QE ?_)
 refine Pg ?_
 refine Pg (wpAny_setField ho hd (by simp) ?_)
 have ho':=R0 (h:=s.heap) (Obj.mapFields (·.setIfInBounds 1 (rawInt (-1)))) ho (Obj.isFreed_of_fields (RN hd _))
 have hd':=RN hd (·.setIfInBounds 1 (rawInt (-1)))
 refine wpAny_setField (s:={ s with heap:=s.heap.update it (Obj.mapFields (·.setIfInBounds 1 (rawInt (-1)))) }) ho' hd' (by simp) ?_
 first
 | show wpAny _ _ (newExc (.type "StopIteration") [] >>= _) _ _ _
 | (refine Pg ?_;show wpAny _ _ (newExc (.type "StopIteration") [] >>= _) _ _ _)
 refine Pg ?_
 simp only [newExc,newTuple]
 refine Pg (Qr ?_ (by size_fits))
 refine Pg (m:=firstArgMember _ _) (Q1 (a:=Value.none) (by first | rfl | (simp only [firstArgMember];rfl)) ?_)
 refine Qr ?_ (by size_fits)
 simp only [raiseNew]
 refine Pg (wpAny_handled ?_)
 first | rw [show A.in1.handled = none from hh] | rw [hh]
 refine Pg (Pl (wpAny_throw ?_))
 refine Pg (wpAny_isInstance (T := "StopIteration") (b:=true) ⟨_,P7 _ rfl,rfl⟩ isSubtype_stop ?_)
 exact Pl (hQ _ ((((Heap.SameBut.update ..).trans (Heap.SameBut.update ..)).extBut.push _).push _))
theorem xR {it t:Addr} {i:Int} {Q:Value -> Shared -> Prop} (hit:IsRev s.heap it t i) (h:Q (.ref it) s):wpAny (model prog w) A (pyIter (.ref it)) Q E s:=by
 refine wpAny_pyIter_slot hit.typeIs xQ (Q6 xQ hit.typeIs BM ?_ (EH _))
 show wpAny _ _ (ret (.ref it)) _ _ s
 exact Pl ⟨_,rfl, "reversed",_,hit.typeIs,slot_next.lookup,h⟩
end
theorem Dq:mroOf (.type "reversed") = pure [.type "reversed",.type "object"]:=by rw [mroOf_type];kernel_rfl
theorem Fc:typeLookup (.type "reversed") "__new__" = pure (some (.builtin "reversed.__new__")):=by rw [Ra,Rb];kernel_rfl
theorem Ek:Slot "reversed" "__init__" "object.__init__" := .of (owner := "object") (n := "__init__") (by rw [Ra,Rb];kernel_rfl) (by decide +kernel) (by decide +kernel) (by decide +kernel) (by first | exact .inl (by decide +kernel) | exact .inr (by decide +kernel)) (by rw [Rc];kernel_rfl)
theorem B7:TypeCalled "reversed" "reversed.__new__" "object.__init__" := ⟨by decide +kernel,by decide +kernel,⟨_,_,Dq⟩,madeBy_type Dq Fc (by decide +kernel),by decide +kernel,by rw [Rc];kernel_rfl,Ek⟩
theorem yY (a:Value):checkTypeCall "reversed" ⟨[a],[]⟩ = pure ():=by kernel_rfl
theorem zA (a:Value):checkBuiltinCall "reversed.__new__" ⟨[.type "reversed",a],[]⟩ = pure ():=by kernel_rfl
theorem Ed:entryFor table "reversed.__new__" = some Builtin.«reversed.__new__»:=entryFor_of_tree (by kernel_rfl)
theorem yi (a:Value):Builtin.SmallTypes.newClass "reversed" ⟨[.type "reversed",a],[]⟩ = pure (.type "reversed",[a]):=by
 unfold Builtin.SmallTypes.newClass
 simp only [isType,sub_self,pure_bind,Bool.not_true,Bool.false_eq_true,if_false]
theorem EX (t:Addr) (items:Array Value) (hz:(items.size:Int) < 2 ^ 63):Meets (Builtin.«reversed.__new__» ⟨[.type "reversed",.ref t],[]⟩) (fun _ R s=>IsTup s.heap t items /\ R (.ok (.ret (.ref s.heap.objs.size))) { s with heap:=s.heap.push (vq t ((items.size:Int) - 1)),toks:=s.toks + 1 + 1 }):=
 .of_wp fun prog w A R s h=>by
  obtain ⟨ht,h⟩:=h
  unfold Builtin.«reversed.__new__»
  refine Pg (Q1 (yi _) ?_)
  try dsimp only
  refine Pg (Q1 (a:=()) (by first | rfl | kernel_rfl) ?_)
  refine Pg (Q1 (a:=()) (by first | rfl | kernel_rfl) ?_)
  try dsimp only
  refine Pg (wpAny_specialOf ht.typeIs Km ?_)
  try dsimp only
  refine Pg (Pg (wpAny_isInstance (T := "tuple") (b:=false) ht.typeIs H9 ?_))
  rw [Pc QU]
  refine Pg (wpAny_specialOf ht.typeIs Dz ?_)
  refine (show wpAny _ _ (pure true) _ _ _ from Pl ?_)
  show wpAny _ _ (if (!true) = true then _ else _) _ _ _
  rw [Pc (by decide)]
  refine Pg (len_tuple ht hz ?_)
  show wpAny _ _ (Builtin.SmallTypes.newRecord (.type "reversed") [.ref t,rawInt ((items.size:Int) - 1)] >>= _) _ _ _
  refine Pg (Qr (data:=.fields #[.ref t,rawInt ((items.size:Int) - 1)]) ?_ (by size_fits))
  exact Pl ⟨_,rfl,h⟩
theorem Gi {prog:Program} {w:World} {A:Around} {E:Value -> Shared -> Prop} {s:Shared} {t:Addr} {items:Array Value} {Q:Value -> Shared -> Prop} (ht:IsTup s.heap t items) (hz:(items.size:Int) < 2 ^ 63)
  (h:Q (.ref s.heap.objs.size) { s with heap:=s.heap.push (vq t ((items.size:Int) - 1)),toks:=s.toks + 1 + 1 }):wpAny (model prog w) A (call (.type "reversed") [.ref t]) Q E s:=
 callType_new B7 (by decide) (yY _) (zA _) (fun obj=>F.args_object_init_2 obj _) Ed (EX t items hz) ⟨ht,⟨_,P7 _ rfl,rfl⟩,h⟩
end RevT
namespace L2
open PySem PySem.Spec PyProof.Rows
def Itv (K:W.Frag) (a:Addr) (xs:List V):It:=
 ⟨fun i H=>SqT K H a xs /\ ∃ x,xs.reverse[i]? = some x,fun i H x H'=>H' = H /\ xs.reverse[i]? = some x,fun i H=>SqT K H a xs /\ xs.length = i⟩
def Lv (K:W.Frag) (ta:TA):TI:=fun σ H R=>ta σ H fun vs H1=>∃ a xs,vs = [.ref a] /\ SqT K H1 a xs /\ R (Itv K a xs) H1
section
variable {X:Cx} {tg:Expr}
theorem E8 {P:Program} {w:World} {K:W.Frag} (a it:Addr) (xs:List V):Turn P w K tg (Itv K a xs) [it] it (fun i h=>RevT.IsRev h it a ((xs.length:Int) - 1 - (i:Nat))) where
 mem:=by simp
 obj:=fun i h st b hb=>by
  rw [Pi.mp hb]
  obtain ⟨o,e,c,d⟩:=st
  exact ⟨o,e,fun v z=>by rw [d] at z;cases z⟩
 keep:=fun i h h' st k=>by
  obtain ⟨o,e,r⟩:=st
  exact ⟨o,k it (by simp) _ e,r⟩
 item:=by
  intro X hP hw hK hc i pins s σ H E I hf st hg
  subst hP hw hK
  obtain ⟨hq,x,hx⟩:=hg
  obtain ⟨its,rv,p,hz⟩:=I.tuple hq
  have hi:i < xs.length:=by have:=(PF.mp hx).1;simpa using this
  have hx':xs[xs.length - 1 - i]? = some x:=by rw [R9 hi] at hx;exact hx
  obtain ⟨u,hu,ru⟩:=rv.get hx'
  obtain ⟨f0,f1,f2,f3,f4,f5⟩:=hf it (by simp)
  have e:(xs.length:Int) - 1 - (i:Nat) = ((xs.length - 1 - i:Nat):Int):=by lia
  have hn:(sizeLine:Nat) < 2 ^ 60:=by rw [Qb];decide
  have p62:(2:Int) ^ 62 = 4611686018427387904:=by decide
  rw [e] at st
  refine RevT.Ee st p (x:=u) (by simpa using hu) (by lia) fun h' tk st' sb=>?_
  have I1:Inv X pins σ H { s with heap:=h',toks:=tk }:=I.turned (fun b o hb e=>(sb.2 b hb).trans e) f0 f1 f3 f4 f5
  have st2:RevT.IsRev h' it a ((xs.length:Int) - 1 - ((i + 1:Nat):Int)):=by
   have e2:(xs.length:Int) - 1 - ((i + 1:Nat):Int) = ((xs.length - 1 - i:Nat):Int) - 1:=by lia
   rw [e2];exact st'
  obtain ⟨o,e,c,d⟩:=id st'
  exact ⟨u,rfl,Aa (s:={ s with heap:=h',toks:=tk }) e c d (by decide) ⟨x,H,I1,ru,⟨rfl,hx⟩,st2,fun b hb=>(hf b hb).1⟩⟩
 done:=by
  intro X hP hw hK hc i pins s σ H E I hf st hg
  subst hP hw hK
  obtain ⟨hq,hx⟩:=hg
  obtain ⟨f0,f1,f2,f3,f4,f5⟩:=hf it (by simp)
  have e:(xs.length:Int) - 1 - (i:Nat) = -1:=by lia
  rw [e] at st
  exact RevT.FR (I.ok.hd hc) st fun h' eb=>⟨rfl,I.turned (t':=s.toks) (fun b o hb e=>eb b o hb e) f0 f1 f3 f4 f5⟩
 self:=fun _ _ _ _ _ st h=>RevT.xR st h
theorem KD {a:Expr} {ta:TA} {p pos:Pos} (hg:Gl X "reversed") (hm:X.mg "reversed" = none) (ha:PA X [a] ta) (hs:starEach [a] X.env = [(false,eval a X.env)]:=by rfl):PI X tg (.Call (.Name "reversed" p) [a] [] pos) (Lv X.K ta):=by
 intro pins s σ H R I h
 refine Call_ (rY I hg hm AS (RH (thn (ha pos pins s σ H _ I h) fun us s1 h1=>?_) hs rfl))
 obtain ⟨vs,H1,I1,r1,t,xs,rfl,hq,q⟩:=h1
 obtain ⟨u,rfl,rx⟩:=Fz r1
 cases rx
 obtain ⟨its,rv,p,hz⟩:=I1.tuple hq
 have hlen:=rv.length
 have hn:=pi
 refine RevT.Gi p (by simp only [PK] <;> lia) ?_
 have I2:Inv X pins σ H1 { s1 with heap:=s1.heap.push (RevT.vq t ((its.toArray.size:Int) - 1)),toks:=s1.toks + 1 + 1 }:=I1.kept fun b o e=>Pz _ e
 have st:RevT.IsRev (s1.heap.push (RevT.vq t ((its.toArray.size:Int) - 1))) s1.heap.objs.size t ((xs.length:Int) - 1 - ((0:Nat):Int)):=by
  refine ⟨_,P7 _ rfl,rfl,?_⟩
  have e:(xs.length:Int) - 1 - ((0:Nat):Int) = (its.toArray.size:Int) - 1:=by simp [hlen]
  rw [e];rfl
 refine RevT.xR (s:={ s1 with heap:=s1.heap.push (RevT.vq t ((its.toArray.size:Int) - 1)),toks:=s1.toks + 1 + 1 }) st ?_
 refine ⟨s1.heap.objs.size,[s1.heap.objs.size],_,_,H1,rfl,I2,E8 t _ xs,st,fun b hb=>?_,q⟩
 rw [Pi.mp hb]
 exact I1.fpOk (Pj _) I1.fresh
end
end L2
namespace M
open PySem L2
section
variable {K:W.Frag} {S S' H H':Hp}
def Mr:List D -> Option (List D)
 | [.tup l]=>some l.reverse | _=>none
@[simp] def xi (a:XA):XA:=fun ρ=>(a ρ).bind Mr
theorem LU {t:TA} {a:XA} (h:SAP K t a):SI K (Lv K t) (xi a):=fun ρ σ S H R l r x k=>by
 unfold xi at x
 cases q:a ρ with
 | none=>rw [q] at x;cases x
 | some ds=>
  rw [q] at x
  dsimp only [Option.bind] at x
  unfold Mr at x
  split at x
  ·rename_i l'
   cases x
   refine h ρ σ S H _ _ r q fun vs S1 H1 z1 d1=>?_
   cases d1 with
   | cons a1 d1=>
    cases d1
    rcases a1 with a1 | ⟨l2,_,_,e,_⟩
    ·obtain ⟨p,xs,rfl,h1,h2⟩:=jn a1
     refine ⟨p,xs,rfl,bf z1.sub h1,k _ S1 H1 z1 fun S' H' s1 s2=>⟨fun i d hd=>?_,bf (s1.trans s2) h1,by rw [List.length_reverse];exact h2.length.symm⟩⟩
     have hi:i < l'.length:=by have:=(PF.mp hd).1;simpa using this
     rw [R9 hi] at hd
     obtain ⟨y,e1,e2⟩:=h2.get hd
     have hl:=h2.length
     have e3:xs.reverse[i]? = some y:=by rw [R9 (by lia)];rw [<- e1];congr 2;lia
     refine ⟨⟨bf (s1.trans s2) h1,y,e3⟩,fun x H'' hy=>⟨hy.1,?_⟩⟩
     have:=hy.2
     rw [e3] at this
     cases this
     exact e2.mono s1
    ·cases e
  ·cases x
end
end M
namespace L2
open PySem
section
variable {X:Cx} {e:Expr} {pos p p':Pos} {ta:TE} {T:Addr} {N:Str} {ans:List (Str × Bool)}
end
end L2
namespace M
open PySem L2
section
variable {K:W.Frag} {S S' H H':Hp}
@[simp] def Oi (ans:List (Str × Bool)) (e:XE):XE:=fun ρ=>(e ρ).bind fun d=>match d with | .ins N _ _=>(ans.lookup N).map .bl | _=>none
end
end M
namespace L2
open PySem PySem.Spec PyProof.Rows Builtin Builtin.ObjectAttr Builtin.Getset_descriptor
def XAt (C a:Addr) (h:Heap):Prop:=∃ o vs,h.get? a = some o /\ o.cls = .ref C /\ o.data = .fields vs
abbrev AB (C a:Addr):HO:=.ext (XAt C a)
structure XCls (K:W.Frag) (C:Addr):Prop where
 cl:W.hasDictIn K C = true
 ga:W.findIn K (.ref C) "__getattribute__" = some (some (.builtin "BaseException.__getattribute__"))
 gx:W.findIn K (.ref C) "__getattr__" = some none
 ca:W.findIn K (.ref C) "__class__" = some (some (.builtin "object.__class__"))
 hn:W.specialIn K (.builtin "object.__class__") "__get__" = some (some (.builtin "getset_descriptor.__get__"))
 tk:W.takesIn K (.builtin "object.__class__") = some true
 ob:W.mroIn K C (.type "object") = some true
 be:W.mroIn K C (.type "BaseException") = some true
section
variable {prog:Program} {w:World} {A:Around} {E:Value -> Shared -> Prop} {s:Shared} {K:W.Frag} {C a:Addr}
theorem XAt.type {M:Model} {h:Heap} (x:XAt C a h):W.Looks M h (typeOf (.ref a)) (.ref C):=by
 obtain ⟨o,vs,e,c,d⟩:=x
 exact c ▸ (W.Looks.ld e).andThen .now
theorem GJ {M:Model} {h:Heap} (X:K.In h) (c:XCls K C):W.Looks M h (find (.ref a) (.ref C) "__class__") (.bind (.builtin "getset_descriptor.__get__") (.builtin "object.__class__")):=by
 refine (RI (M:=M) X c.ca).andThen ((show W.Looks M h (getOf (some (.builtin "object.__class__"))) (some (.builtin "getset_descriptor.__get__")) from W.looks_specialIn X c.hn).andThen ?_)
 exact (show W.Looks M h (dataDescriptor? (some (.builtin "object.__class__")) (some (.builtin "getset_descriptor.__get__"))) (some (.builtin "getset_descriptor.__get__",.builtin "object.__class__")) from (W.looks_takesIn (M:=M) X c.tk).andThen .now).andThen (W.Looks.tag .now)
theorem ww {tp:Value} {R:Result -> Shared -> Prop} (X:K.In s.heap) (c:XCls K C) (x:XAt C a s.heap) (h:R (.ok (.ret (.ref C))) s) :
  codeAny (model prog w) A (.call (.builtin "getset_descriptor.__get__") ⟨[.builtin "object.__class__",.ref a,tp],[]⟩) R s:=by
 obtain ⟨hp,gn,dr,tt,oss⟩:=s
 have T0:=x.type (M:=model prog w)
 have T1:=W.looks_mroIn (M:=model prog w) X c.ob
 refine codeAny_call_builtin W.KF.slot_gs.plain W.KF.entry_gs (W.KF.slot_gs.check _ _ _ _ _ _ _ _ W.KF.type_class (W.KF.args_gs _ _ _) ?_)
 unfold Builtin.«getset_descriptor.__get__» descrGet
 rw [W.dga_obj]
 refine Pg (Pl ?_)
 unfold descrGetter descrCheckInstance descrNameAndClass isInstance
 simp only [W.KF.owner_class]
 repeat lk
 refine ⟨Code.quiet_builtin _ (by decide +kernel),codeAny_builtin W.KF.entry_class ?_⟩
 unfold Builtin.«object.__class__» shownTypeOf
 repeat lk
 exact h
theorem yt {nv:Value} {Q:Unit -> Shared -> Prop} {M:Model} (X:K.In s.heap) (c:XCls K C) (x:XAt C a s.heap) (h:Q () s):wpAny M A (checkBuiltinCall "BaseException.__getattribute__" ⟨[.ref a,nv],[]⟩) Q E s:=by
 obtain ⟨hp,gn,dr,tt,oss⟩:=s
 have T0:=x.type (M:=M)
 have T1:=W.looks_mroIn (M:=M) X c.be
 have kk:builtinKind "BaseException.__getattribute__" = some .slot:=by decide +kernel
 have sp:splitId "BaseException.__getattribute__" = some ("BaseException", "__getattribute__"):=by decide +kernel
 have ar:=F.args_bexc_ga (.ref a) nv
 simp only [checkBuiltinCall,kk,sp]
 refine Pg ?_
 unfold isInstance
 repeat (first | lk | wp_step)
 exact h
theorem DG {Q:Option Value -> Shared -> Prop} (X:K.In s.heap) (c:XCls K C) (x:XAt C a s.heap) (h:Q (some (.ref C)) { s with toks:=s.toks + 1 }):wpAny (model prog w) A (getAttr? (.ref a) "__class__") Q E s:=by
 obtain ⟨hp,gn,dr,tt,oss⟩:=s
 have T0:=x.type (M:=model prog w)
 have T1:=RI (M:=model prog w) X c.ga
 have T2:=RI (M:=model prog w) X c.gx
 have T3:=GJ (M:=model prog w) (a:=a) X c
 unfold getAttr? getAttrBy? getAttrBy
 refine Pg (wpAny_mkText (Pg (Q7 (QC (Pg (T0.at (Pg (T1.at ?_))))))))
 show wpAny _ _ (getAttrByItsOwn _ _ _ _ _ _) _ _ _
 unfold getAttrByItsOwn hookBefore
 refine Pg (T2.at ?_)
 refine Pg (Q7 (QC ?_))
 show wpAny _ _ (boundAndCalled _ _ _) _ _ _
 have hbd:=PySem.F.attr_ValueError.ga.bind (.ref a)
 unfold boundAndCalled
 rw [hbd]
 refine Pg (Pl ?_)
 refine wpAny_call (codeAny_call_builtin PySem.F.attr_ValueError.ga.plain F.entry_bexc_ga (yt X c x ?_))
 unfold Builtin.«object.__getattribute__»
 repeat (first | with_reducible refine wpAny_call ?_ | lk | wp_step)
 refine ww (s:=⟨hp,gn,dr,tt + 1,oss⟩) X c x ?_
 refine Pl (Pl ?_)
 exact Pl h
theorem Fb (c:XCls K C):W.KitX K (.ref a) (.ref C) (XAt C a) where
 ty:=fun _ _ _ x=>x.type
 it:=fun M h X _=>by
  obtain ⟨cd,hc,_⟩:=W.any_some c.cl
  unfold W.clsIn at hc
  split at hc
  ·rename_i ho
   intro A' Q' E' s' k q
   unfold isType loadHead
   exact Pg (wpAny_loadPart (k _ _ (X _ _ ho)) (Pl q))
  ·cases hc
 ne:=fun h tp dd its n sl X htp=>by
  obtain ⟨cd,hc,_⟩:=W.any_some c.cl
  refine Bool.eq_false_iff.mpr fun q=>?_
  obtain rfl:C = tp:=Value.ref.inj (Qf.mp q)
  unfold W.clsIn at hc
  split at hc
  ·rename_i ho
   have z:=(X _ _ ho).symm.trans htp
   cases z
  ·cases hc
 ca:=fun X x k=>DG X c x k
end
end L2
namespace L2
open PySem PySem.Spec PyProof.Rows
theorem ObjOk.at_ {P:Program} {w:World} {H:Hp} {h:Heap} {a:Addr} {o:HO} (x:ObjOk P w H h a o):∃ u,h.get? a = some u:=by
 cases o with
 | lst xs=>obtain ⟨_,_,_,_,e⟩:=x;exact ⟨_,e⟩
 | tup xs=>obtain ⟨_,_,_,_,e,_⟩:=x;exact ⟨_,e⟩
 | dK kvs=>obtain ⟨_,_,_,_,o,_,_,e,_⟩:=x;exact ⟨_,e⟩
 | dT kvs=>obtain ⟨_,_,_,_,o,_,_,e,_⟩:=x;exact ⟨_,e⟩
 | set S n=>obtain ⟨o,_,_,_,e,_⟩:=x;exact ⟨_,e⟩
 | ins C dx fs=>obtain ⟨_,_,_,e,_⟩:=x;exact ⟨_,e⟩
 | own y=>exact x
 | xd fs=>obtain ⟨_,⟨_,_,_,e,_⟩,_⟩:=x;exact ⟨_,e⟩
 | rng lo hi=>obtain ⟨_,_,_,e⟩:=x;exact ⟨_,e⟩
 | frz ob u=>exact ⟨_,x.1⟩
 | tbl ps=>exact ⟨_,(show h.get? a = some _ from x)⟩
 | met f y=>exact ⟨_,(show h.get? a = some _ from x)⟩
 | ext φ=>exact x.2.1
def CXe (P:Program) (w:World):CXT:=fun outer H s E v s'=>∃ (e:Addr) (cls a0:Value) (H':Hp) (B:Heap),v = .ref e /\ s'.os = s.os /\ AllBare s'.gens /\ Un (frs outer) [] H H' s.heap s'.heap /\ HOk P w H' s'.heap /\ E cls none H' /\
 Heap.FlyingW B outer e cls a0 s'.heap /\ (∀ b u,H' b = some u -> ∃ o,B.get? b = some o) /\ ∀ b o,s.heap.get? b = some o -> b ∉ frs outer -> ∃ o',B.get? b = some o'
section
variable {H H':Hp} {B h0 h h':Heap} {fs:List Addr}
theorem zl {P:Program} {w:World} (x:HOk P w H h) (hB:B.StaysIn h) (hB':B.StaysIn h') (k:∀ b u,H b = some u -> ∃ o,B.get? b = some o):HOk P w H h':=fun a o ha=>
 (x a o ha).stay (fun b u hb q=>by
  obtain ⟨v,hv⟩:∃ v,H b = some v:=by
   rcases hb with rfl | hb
   ·exact ⟨o,ha⟩
   ·exact ⟨_,hb⟩
  obtain ⟨ob,q1⟩:=k b v hv
  have q2:=hB b ob q1
  rw [q] at q2
  cases q2
  exact hB' b _ q1) (fun _ q=>q) fun _ _ q=>q
theorem BQ (un:Un fs [] H H' h0 h) (k2:∀ b o,h0.get? b = some o -> b ∉ fs -> ∃ o',B.get? b = some o') (nf:∀ b ∈ fs,∀ o,h0.get? b = some o -> ∀ vs,o.data ≠ .fields vs) (fr:∀ b ∈ fs,H b = none)
  (hB:B.StaysIn h) (hB':B.StaysIn h') (sm:h.UpToSlots h'):Un fs [] H H' h0 h':=by
 have no:∀ b:Addr,b ∉ ([]:List Addr):=fun b z=>by cases z
 have both:∀ b o,h0.get? b = some o -> b ∉ fs -> ∃ o',h.get? b = some o' /\ h'.get? b = some o':=fun b o q z=>by
  obtain ⟨o',q'⟩:=k2 b o q z
  exact ⟨o',hB b o' q',hB' b o' q'⟩
 have slots:∀ b o,h0.get? b = some o -> b ∈ fs -> ∃ sl,h'.get? b = some { o with slots:=sl }:=fun b o q z=>by
  obtain ⟨sl,q2⟩:=un.slot b o q (fr b z) z (no b)
  obtain ⟨sl',q3⟩:=sm b _ q2 (nf b z o q)
  exact ⟨sl',q3⟩
 refine ⟨fun b o q n z _=>?_,fun b o q _ z _=>slots b o q z,un.free,fun b o q _=>?_,un.tups,un.frzs,un.tbls⟩
 ·obtain ⟨o',q1,q2⟩:=both b o q z
  have q3:=un.keep b o q n z (no b)
  rw [q3] at q1
  cases q1
  exact q2
 ·by_cases z:b ∈ fs
  ·obtain ⟨sl,q1⟩:=slots b o q z
   exact ⟨_,q1⟩
  ·obtain ⟨o',_,q2⟩:=both b o q z
   exact ⟨o',q2⟩
end
section
variable {X:Cx} {pins:List (Addr × Obj)} {σ:St} {H:Hp} {s:Shared} {E:XK} {B:Heap} {e:Addr} {cls a0:Value}
theorem Inv.nf (I:Inv X pins σ H s):∀ b ∈ X.fs,∀ o,X.s₀.heap.get? b = some o -> ∀ vs,o.data ≠ .fields vs:=fun b z o q=>by
 obtain ⟨_,o1,q1,nf⟩:=I.ok.funs.mem z
 rw [q] at q1
 cases q1
 exact nf
theorem Inv.nfS (I:Inv X pins σ H s):∀ b ∈ frs X.stack,∀ o,s.heap.get? b = some o -> ∀ vs,o.data ≠ .fields vs:=fun b z o q=>by
 obtain ⟨_,o1,q1,nf⟩:=I.stack.mem z
 rw [q] at q1
 cases q1
 exact nf
theorem HV {h':Heap} (I:Inv X pins σ H s) (hex:X.ex = []) (hE:E cls none H) (hB:B.StaysIn s.heap) (k1:∀ b u,H b = some u -> ∃ o,B.get? b = some o)
  (k2:∀ b o,X.s₀.heap.get? b = some o -> b ∉ X.fs -> ∃ o',B.get? b = some o') (fl:Heap.FlyingW B X.outer e cls a0 h') (sm:s.heap.UpToSlots h'):CXe X.prog X.w X.outer X.H₀ X.s₀ E (.ref e) { s with heap:=h' }:=
 ⟨e,cls,a0,H,B,rfl,I.os,I.bare,BQ (by have:=I.base;rw [hex] at this;exact this) k2 I.nf I.ok.frf hB fl.1 sm,zl I.hok hB fl.1 k1,hE,fl,k1,k2⟩
theorem Inv.notStk (I:Inv X pins σ H s) {b:Addr} {o:Obj} (q:X.s₀.heap.get? b = some o) (z:b ∉ X.fs):b ∉ frs X.stack:=fun hb=>by
 rcases Pq.mp (I.stkSub b hb) with r | r
 ·exact absurd (Pv q) (by rw [r];exact Nat.not_lt.mpr I.ok.above)
 ·exact z r
end
section
variable {P:Program} {w:World} {K:W.Frag} {mg:Str -> Option Value} {base:Heap} {N:List Str} {qual:Str} {scope:Scope} {f:Addr} {cdv:Value} {A:Around} {outer:List Env} {s:Shared} {H:Hp} {E:XK}
def Hj (X:Cx) (E:XK):Prop:=∀ (pins:List (Addr × Obj)) (σ:St) (H:Hp) (s:Shared) (h':Heap) (e C:Addr) (vs:List Value),Inv X pins σ H s -> Heap.MadeExcOf s.heap h' e (.ref C) vs -> E (.ref C) none H -> X.xe (.ref e) { s with heap:=h' }
theorem CQ:Hj (rH (CXe P w) P w K mg base N qual scope f cdv A outer s H E) E:=by
 intro pins σ H1 s1 h' e C vs I hx hE
 have hin:∀ env ∈ (rH (CXe P w) P w K mg base N qual scope f cdv A outer s H E).stack,∀ b,env.frame = some b -> b ∈ frs (rH (CXe P w) P w K mg base N qual scope f cdv A outer s H E).stack:=fun env he b hb=>Rj.mpr ⟨env,he,hb⟩
 have I2:=I.kept (t':=s1.toks) hx.keeps
 refine wpAny_leaves_madeW (base:=W.hideAll s1.heap (frs (rH (CXe P w) P w K mg base N qual scope f cdv A outer s H E).stack)) I.ok.frames rfl (fun b o q=>W.of_hideAll _ q) (W.funFrames_hide I.stack hin) hx fun h2 t fl _ _ sm=>?_
 refine HV (X:=rH (CXe P w) P w K mg base N qual scope f cdv A outer s H E) (s:={ s1 with heap:=h' }) I2 rfl hE (fun b o q=>hx.keeps b o (W.of_hideAll _ q)) (fun b u q=>?_) (fun b o q z=>?_) fl sm
 ·obtain ⟨o,q1⟩:=(I.hok b u q).at_
  exact ⟨o,W.hideAll_get _ q1 fun hb=>by rw [I.stkFree b hb] at q;cases q⟩
 ·obtain ⟨o1,q1⟩:=I.base.there b o q (by intro y;cases y)
  exact ⟨o1,W.hideAll_get _ q1 (I.notStk q z)⟩
end
theorem IC {K:W.Frag} {h:Heap} {C:Addr} {bmB:List Value} {newId:String} (X:K.In h) (q:W.excIn K C bmB newId = true):∃ bm N nm qn bs hdct sn sub ab col dd k0 k1 k2 k3 k5 mN,
  h.get? C = some (excClassObj nm qn C N bs bm hdct sn sub ab col dd k0 k1 k2 k3 k5 newId) /\ h.Ns N mN /\ mN "__init__" = none /\ OwnTail h bmB bm:=by
 unfold W.excIn at q
 split at q <;> try (cases q;done)
 rename_i dd cd sl ho
 split at q <;> try (cases q;done)
 rename_i C' bm k0 k1 k2 k3 n k5 hm hs
 simp only [Qh,Qf,RP] at q
 obtain ⟨⟨⟨⟨⟨rfl,rfl⟩,qd⟩,qt⟩,qo⟩,qi⟩:=q
 obtain ⟨nm,bs,mro,ns,qn,hd,sn,sub,ab,col,del⟩:=cd
 obtain ⟨l⟩:=sl
 dsimp only at hm hs qd qo qi
 subst hm hs qd
 exact ⟨bm,ns,nm,qn,bs,hd,sn,sub,ab,col,dd,k0,k1,k2,k3,k5,_,X _ _ ho,.of_isNs (W.isNs_of_in X qo),W.nsMap_none_of_in X qo qi,W.tail_of_in X qt⟩
abbrev bmV:List Value:=[.type "ValueError",.type "Exception",.type "BaseException",.type "object"]
def GT (K:W.Frag) (N:Str) (te:TE) (E:XK):TS:=fun _ σ H=>∀ C,W.nsIn K mainGlobals N = some (some (.ref C)) -> gW te rh σ H fun vs H1=>vs.length = 1 /\ E (.ref C) none H1
section
variable {X:Cx} {E:XK} {x:Str} {e:Expr} {te:TE} {np cpos pos:Pos}
theorem A5 (hz:Hj X E) (hE:∃ C:Addr,W.nsIn X.K mainGlobals x = some (some (.ref C)) /\ W.excIn X.K C bmV "ValueError.__new__" = true /\ X.mg x = some (.ref C)) (hh:X.A.handled = none) (hg:Gl X x) (he:PE X e te)
  (hdb:(x == ("__debug__" : Str)) = false:=by decide) (h1:starEach [e] X.env = (false,eval e X.env) :: starEach [] X.env:=by rfl) (h2:(backTo cpos (starEach [] X.env)).any (·.1) = false:=by rfl) :
  PS X (.Raise (some (.Call (.Name x np) [e] [] cpos)) none pos) (GT X.K x te E):=by
 intro pins s σ H D I h
 obtain ⟨C,hN,hq,hm⟩:=hE
 have h:=h C hN
 obtain ⟨tl,N,nm,q,bs,hdct,sn,sub,ab,col,dd,k0,k1,k2,k3,k5,mN,hC,hNs,hni,T⟩:=IC I.ok.mod.kin hq
 refine wpAny_Raise_call_subT (C:=C) (nm:=nm) (q:=q) (N:=N) (bs:=bs) (bm:=tl) (hdct:=hdct) (sn:=sn) (sub:=sub) (ab:=ab) (col:=col) (dd:=dd) (k0:=k0) (k1:=k1) (k2:=k2) (k3:=k3) (k5:=k5)
  PySem.F.excBase_ValueError (mN:=mN) (T.hasType PySem.F.excBase_ValueError.hasBase) hh (by rw [h1];show (false || (backTo cpos (starEach [] X.env)).any (·.1)) = false;rw [h2];rfl) hni (nM I hg hm ⟨rfl,?_⟩ hdb)
 have hp:=ad (X:=X) he ag h1 cpos pins s σ H (fun vs H1=>vs.length = 1 /\ E (.ref C) none H1) I h
 rw [h1] at hp ⊢
 exact Calls.evalArgs_plain (thn hp fun us s2 ⟨vs,H2,I2,r,ql,q2⟩=>⟨rfl,by rw [<- r.length,ql];exact PR (show 1 <= 1000 by decide) (by rw [Qb];decide),I2.bk _ _ hC,hNs.keeps I2.bk,T.keeps I2.bk,fun h' e' hx=>hz pins σ H2 s2 h' e' C us I2 hx q2⟩)
end
abbrev Cx.hold (X:Cx) (e:Addr):Cx:={ X with A:=X.A.mark (some (.ref e)),calm:=false,xe:=fun _ _=>False }
abbrev Cx.pin (X:Cx) (ps:List (Addr × Obj)):Cx:={ X with pn:=X.pn ++ ps }
section
variable {X:Cx} {pins:List (Addr × Obj)} {σ:St} {H H':Hp} {s s':Shared} {e:Addr}
theorem Cx.Ok.hold (ok:X.Ok) (e:Addr):(X.hold e).Ok:=
 ⟨ok.mod,ok.kind,ok.glob,ok.blt,ok.above,ok.inj,ok.has,ok.cab,(fun z=>by cases z),ok.frames,ok.stk,ok.exf,ok.bs,ok.bsz,ok.noex,ok.exfs,ok.funs,ok.frf⟩
theorem Inv.hold (I:Inv X pins σ H s) (e:Addr):Inv (X.hold e) pins σ H s:=⟨I.ok.hold e,I.os,I.bare,I.base,I.loc,I.cell,I.free,I.freeC,I.pin,I.hok,I.len⟩
theorem Inv.unhold (ok:X.Ok) (I:Inv (X.hold e) pins σ H s):Inv X pins σ H s:=⟨ok,I.os,I.bare,I.base,I.loc,I.cell,I.free,I.freeC,I.pin,I.hok,I.len⟩
theorem Inv.toPin (I:Inv X pins σ H s):Inv (X.pin pins) [] σ H s:=
 ⟨⟨I.ok.mod,I.ok.kind,I.ok.glob,I.ok.blt,I.ok.above,I.ok.inj,I.ok.has,I.ok.cab,I.ok.hd,I.ok.frames,I.ok.stk,I.ok.exf,I.ok.bs,I.ok.bsz,I.ok.noex,I.ok.exfs,I.ok.funs,I.ok.frf⟩,I.os,I.bare,I.base,I.loc,I.cell,I.free,I.freeC,fun p hp=>I.pin p (by rw [Qa] at hp;exact hp),I.hok,I.len⟩
theorem Inv.ofPin {ps:List (Addr × Obj)} (ok:X.Ok) (I:Inv (X.pin pins) ps σ H s):Inv X pins σ H s:=
 ⟨ok,I.os,I.bare,I.base,I.loc,I.cell,I.free,I.freeC,fun p hp=>I.pin p (Py _ hp),I.hok,I.len⟩
theorem Ie {M:Model} {A:Around} {E:Value -> Shared -> Prop} {i:Nat} {n:Str} {pos:Pos} {Q:Unit -> Shared -> Prop} (I:Inv X pins σ H s) (hN:X.N.Nodup) (hi:X.N[i]? = some n) (hk:X.env.kindOf n = some .local)
  (h:∀ s',Inv X pins (σ.set i none) H s' -> Q () s'):wpAny M A (do bindName X.env n .none;unbindBehindTheSuite X.env n pos) Q E s:=by
 have hcls:(X.env.scope.kind == .class || (X.env.scope.kind == .module && X.env.locals != X.env.globals)) = false:=by rw [I.ok.kind];rfl
 obtain ⟨m,hn,hl⟩:=id I.loc
 refine Pg (wpAny_bindName (wpAny_storeName_local hk hn (fun h1 hn1 hs1=>?_) hcls))
 unfold unbindBehindTheSuite
 refine wpAny_onRaise ?_
 unfold unbindName
 refine Pg (wpAny_point (Pg ?_))
 unfold deleteName
 simp only [hk,hcls]
 rw [Pc (by decide)]
 refine Pg (wpAny_nsDel_keeps hn1 fun h2 v hn2 hs2=>?_)
 simp only [QK,Option.isSome_some,Bool.not_true,Bool.false_eq_true,if_false]
 have hs:=hs1.trans hs2
 have cne:=I.cne
 obtain ⟨oL,_,_,hoL,_⟩:=id hn
 refine Pl (wpAny_point (h _ ⟨I.ok,I.os,I.bare,⟨fun b o q z hb hx=>?_,fun b o q z hb hx=>?_,I.base.free,fun b o q hx=>?_,I.base.tups,I.base.frzs,I.base.tbls⟩,⟨_,hn2,fun j y v' e1 e2 e3=>?_⟩,fun y c q=>?_,I.free,I.freeC,fun p hp=>?_,fun b ob q=>?_,by rw [Qg];exact I.len⟩))
 ·exact (hs.2 b (PD (PY (Pv q) I.ok.above))).trans (I.base.keep b o q z hb hx)
 ·obtain ⟨sl,q1⟩:=I.base.slot b o q z hb hx
  exact ⟨sl,(hs.2 b (PD (PY (Pv q) I.ok.above))).trans q1⟩
 ·obtain ⟨o',q1⟩:=I.base.there b o q hx
  exact ⟨o',(hs.2 b (PD (PY (Pv q) I.ok.above))).trans q1⟩
 ·have hj:j ≠ i:=fun z=>by
   subst z
   by_cases hlt:j < σ.length
   ·rw [QH hlt] at e2;cases e2
   ·rw [RQ (by rw [Qg];lia)] at e2;cases e2
  rw [P1 (PM hj)] at e2
  have hy:y ≠ n:=fun z=>hj (um hN e1 (z ▸ hi))
  obtain ⟨u',r',q⟩:=hl j y v' e1 e2 e3
  refine ⟨u',r',?_⟩
  rcases q with ⟨k,q⟩ | ⟨k,c,q,z⟩
  ·exact .inl ⟨k,by simp [hy,q]⟩
  ·exact .inr ⟨k,c,q,z.sameBut hs (cne y c q)⟩
 ·obtain ⟨w',z⟩:=I.cell y c q
  exact ⟨w',z.sameBut hs (cne y c q)⟩
 ·obtain ⟨q,z,ne,nf,d⟩:=I.pin p hp
  exact ⟨(hs.2 p.1 ne).trans q,z,ne,nf,d⟩
 ·refine (I.hok b ob q).stay (fun c w' hc z=>(hs.2 c ?_).trans z) (fun _ z=>z) fun _ _ z=>z
  rintro rfl
  rcases hc with rfl | hc
  ·rw [I.free] at q;cases q
  ·rw [I.free] at hc;cases hc
end
section
variable {X:Cx} {body suite:List Stmt} {b0:Stmt} {x n:Str} {i:Nat} {L:List Str} {tb:XK -> TS} {ts:TS} {np hp pos:Pos}
end
def jI (K:W.Frag) (ans:List (Str × Bool)) (u:Value):Prop:=∀ N b,ans.lookup N = some b -> ∀ C:Addr,W.nsIn K mainGlobals N = some (some (.ref C)) -> XCls K C /\ W.kitOne K (.ref C) u = some b
theorem gY {K:W.Frag} {u:Value}:jI K [] u:=fun N b h=>by cases h
theorem bC {K:W.Frag} {u:Value} {N:Str} {b0:Bool} {ans:List (Str × Bool)} (h0:∀ C:Addr,W.nsIn K mainGlobals N = some (some (.ref C)) -> XCls K C /\ W.kitOne K (.ref C) u = some b0) (h:jI K ans u):jI K ((N,b0) :: ans) u:=fun M b hl C hC=>by
 rw [List.lookup] at hl
 split at hl
 ·rename_i hb
  have e:M = N:=by simpa using hb
  subst e
  cases hl
  exact h0 C hC
 ·exact h M b hl C hC
def Mc (K:W.Frag) (ans:List (Str × Bool)) (vv:V):List V -> Hp -> VK -> Prop:=fun xs H Q=>∃ e C N b,xs = [.ref e,vv] /\ H e = some (AB C e) /\ W.nsIn K mainGlobals N = some (some (.ref C)) /\ ans.lookup N = some b /\ Q (.bl b) H
def Ht (K:W.Frag) (i:Nat) (ans:List (Str × Bool)):TE:=fun σ H Q=>∃ e C N b,σ[i]? = some (some (.ref e)) /\ H e = some (AB C e) /\ W.nsIn K mainGlobals N = some (some (.ref C)) /\ ans.lookup N = some b /\ Q (.bl b) H
def Bb (K:W.Frag) (i:Nat):List (List (Str × Bool)) -> TA
 | []=>rh
 | a :: l=>gW (Ht K i a) (Bb K i l)
section
variable {X:Cx} {e:Expr} {pos p p':Pos} {i:Nat} {N:Str} {ans:List (Str × Bool)} {vv:V} {u:Value}
theorem AQ (hv:∀ v,RelV vv v -> v = u) (hc:jI X.K ans u):CallR X (.builtin "isinstance") (Mc X.K ans vv):=by
 intro pins s σ H xs us Q I r h
 obtain ⟨a,C,N,b,rfl,ea,hC,hb,q⟩:=h
 obtain ⟨u1,v,rfl,r1,r2⟩:=Vals.two r
 have eu:u1 = Value.ref a:=r1
 subst eu
 have ev:=hv v r2
 subst ev
 obtain ⟨c,hk⟩:=hc N b hb C hC
 exact W.kia_one (Fb c) I.kIn (I.hok a _ ea).1 hk (fun z=>nomatch z) fun tk=>⟨.bl b,H,I.tok _,rfl,q⟩
theorem Fo {K:W.Frag} {σ:St} {H:Hp} {Q:VK} (h:Ht K i ans σ H Q):tCB (Mc K ans vv) (gW (pb i) (gW (tC vv) rh)) σ H Q:=by
 obtain ⟨a,C,N,b,h1,ea,hC,hb,q⟩:=h
 exact ⟨.ref a,h1,a,C,N,b,rfl,ea,hC,hb,q⟩
theorem ph (h:∃ T:Addr,X.mg N = some (.ref T) /\ jI X.K ans (.ref T)) (hg:Gl X "isinstance") (hm:X.mg "isinstance" = none) (gT:Gl X N) (he:PE X e (pb i)) (hdb:(N == ("__debug__" : Str)) = false:=by decide)
  (h1:starEach [e,.Name N p'] X.env = (false,eval e X.env) :: starEach [.Name N p'] X.env:=by rfl) (h2:starEach [.Name N p'] X.env = (false,eval (.Name N p') X.env) :: starEach [] X.env:=by rfl) (hpl:(backTo pos (starEach [.Name N p'] X.env)).any (·.1) = false:=by rfl) :
  PE X (.Call (.Name "isinstance" p) [e,.Name N p'] [] pos) (Ht X.K i ans):=by
 obtain ⟨T,k2,k3⟩:=h
 exact fun a b c d q I h=>bd (AQ (vv:=.ref T) (fun v r=>r) k3) hg hm n8 (ad he (ad (yS (v:=.ref T) gT k2 rfl hdb) ag h2) h1) (by decide) (by decide) h1 hpl a b c d q I (Fo h)
theorem HJ {M:String} (k2:X.mg N = none) (hv:bootBuiltins N = some (.type M)) (k3:jI X.K ans (.type M)) (hg:Gl X "isinstance") (hm:X.mg "isinstance" = none) (gT:Gl X N) (he:PE X e (pb i)) (hn:N ≠ "__name__" := by decide) (hdb:(N == ("__debug__" : Str)) = false:=by decide)
  (h1:starEach [e,.Name N p'] X.env = (false,eval e X.env) :: starEach [.Name N p'] X.env:=by rfl) (h2:starEach [.Name N p'] X.env = (false,eval (.Name N p') X.env) :: starEach [] X.env:=by rfl) (hpl:(backTo pos (starEach [.Name N p'] X.env)).any (·.1) = false:=by rfl) :
  PE X (.Call (.Name "isinstance" p) [e,.Name N p'] [] pos) (Ht X.K i ans):=
 fun a b c d q I h=>bd (AQ (vv:=.ty M) (fun v r=>r) k3) hg hm n8 (ad he (ad (HQ (v:=.ty M) gT k2 hv rfl hn hdb) ag h2) h1) (by decide) (by decide) h1 hpl a b c d q I (Fo h)
theorem Gc {st:Stmt} {rest:List Stmt} {t:TS} (h:PS X st t):PSs X (st :: rest) (fun D=>t { D with nx:=fun _ _=>False }):=by
 intro pins s σ H D I q
 refine RG (thn (h pins s σ H _ I q) fun f s1 z=>?_)
 cases f with
 | next=>obtain ⟨_,_,_,y⟩:=z;exact y.elim
 | brk=>exact z
 | cont=>exact z
 | ret u=>exact z
theorem Fun.okX {P:Program} {w:World} {K:W.Frag} {mg:Str -> Option Value} {base:Heap} {x qual:Str} {st:Stmt} {f:Addr} {fd:FuncData} {N ps:List Str} {k:Nat} {sp:Sp} (F:Fun K x qual st f fd) (S:FnScope N ps (aG st)) (len:∀ vs H Q E,sp vs H Q E -> vs.length = ps.length)
  (hbody:∀ (cdv:Value) (A:Around) (outer:List Env) (s:Shared) (H:Hp) (vs:List V) (Q:VK) (E:XK),Room k (A.deeper (envOfC qual (aG st) s.heap.objs.size f cdv)) -> sp vs H Q E ->
   ∃ t,PSs (rH (CXe P w) P w K mg base N qual (aG st) f cdv A outer s H E) (kT st) t /\ t { nx:=fun _ H'=>Q .non H',rt:=Q } (aV N vs) H):FnOk P w K mg base (CXe P w) (k + 1) f fd ps sp:=by
 obtain ⟨oc,od,kV,doc,pm,an,cdv,ct,osl,rfl,lk,hcd⟩:=F.ex
 exact Ja lk hcd S len fun A outer s H vs Q E hr hsp=>hbody cdv A outer s H vs Q E hr hsp
end
end L2
namespace M
open PySem L2
section
variable {K:W.Frag} {S S' H H':Hp}
def OO:List D -> Option D
 | [.int i]=>some (.int (if i < 0 then -i else i))
 | _=>none
inductive RO where
 | rz (N:Str) | nx (ρ:Env)
abbrev XR:=Env -> Option RO
def XDone (K:W.Frag) (A S:Hp) (E:XK) (N:Str):Prop:=∀ C S' H',Same S S' -> Same S' H' -> Same A H' -> (∀ b,S' b = none \/ A b = none) -> W.nsIn K mainGlobals N = some (some (.ref C)) -> E (.ref C) none H'
theorem XDone.mono {A:Hp} {E:XK} {N:Str} (s:Same S S') (h:XDone K A S E N):XDone K A S' E N:=fun C S1 H1 z=>h C S1 H1 (s.trans z)
def DoneX (K:W.Frag) (A:Hp) (Λ:Nat -> Option Addr) (S:Hp) (E:XK) (D:Ends):RO -> Prop
 | .rz N=>XDone K A S E N
 | .nx ρ=>∀ σ' S' H',RlA K A Λ ρ σ' S' H' -> Same S S' -> D.nx σ' H'
theorem DoneX.mono {A:Hp} {Λ:Nat -> Option Addr} {E:XK} {D:Ends} {o:RO} (s:Same S S') (h:DoneX K A Λ S E D o):DoneX K A Λ S' E D o:=by
 cases o with
 | rz N=>exact XDone.mono s h
 | nx ρ=>exact fun σ1 S1 H1 r z=>h σ1 S1 H1 r (s.trans z)
def SX (K:W.Frag) (E:XK) (t:TS) (m:XR):Prop:=∀ A Λ ρ σ S H (D:Ends) o,RlA K A Λ ρ σ S H -> m ρ = some o -> DoneX K A Λ S E D o -> t D σ H
variable {E:XK}
@[simp] def BH:XR:=fun ρ=>some (.nx ρ)
theorem CU:SX K E A2 BH:=fun A Λ ρ σ S H D o r x k=>by cases x;exact k σ S H r (Same.refl _)
@[simp] def yw (N:Str):XR:=fun _=>some (.rz N)
theorem An {N:Str} {v:V}:SX K E (GT K N (tC v) E) (yw N):=fun A Λ ρ σ S H D o r x k=>by
 cases x
 exact fun C hC=>⟨rfl,k C S H (Same.refl _) r.sub r.asub r.adis hC⟩
@[simp] def HM (c:XT) (m n:XR):XR:=fun ρ=>(c ρ).bind fun b=>if b = true then m ρ else n ρ
theorem Jm {tc:TT} {t u:TS} {c:XT} {m n:XR} (hc:ST K tc c) (ht:SX K E t m) (hu:SX K E u n):SX K E (Hw tc t u) (HM c m n):=fun A Λ ρ σ S H D o r x k=>by
 unfold HM at x
 cases qc:c ρ with
 | none=>rw [qc] at x;cases x
 | some q=>
  rw [qc] at x
  dsimp only [Option.bind] at x
  refine hc ρ σ S H _ q r.toRl qc fun S1 H1 z1=>?_
  cases q with
  | true=>exact BA (ht A Λ ρ σ S1 H1 D o (r.ext z1) (by simpa using x) (k.mono z1.sh))
  | false=>exact Cd (hu A Λ ρ σ S1 H1 D o (r.ext z1) (by simpa using x) (k.mono z1.sh))
@[simp] def CA (m n:XR):XR:=fun ρ=>(m ρ).bind fun o=>match o with | .nx ρ'=>n ρ' | .rz N=>some (.rz N)
theorem F3 {t u:TS} {m n:XR} (ht:SX K E t m) (hu:SX K E u n):SX K E (GU t u) (CA m n):=fun A Λ ρ σ S H D o r x k=>by
 unfold CA at x
 cases q:m ρ with
 | none=>rw [q] at x;cases x
 | some om=>
  rw [q] at x
  dsimp only [Option.bind] at x
  refine ht A Λ ρ σ S H _ om r q ?_
  cases om with
  | nx ρ'=>exact fun σ' S' H' r' z=>hu A Λ ρ' σ' S' H' D o r' x (k.mono z)
  | rz N=>cases x;exact k
@[simp] def Bn (m:XR):XR:=fun ρ=>(m ρ).bind fun o=>match o with | .nx _=>none | .rz N=>some (.rz N)
theorem HG {t:TS} {m:XR} (ht:SX K E t m):SX K E (fun D=>t { D with nx:=fun _ _=>False }) (Bn m):=fun A Λ ρ σ S H D o r x k=>by
 unfold Bn at x
 cases q:m ρ with
 | none=>rw [q] at x;cases x
 | some om=>
  rw [q] at x
  dsimp only [Option.bind] at x
  cases om with
  | nx ρ'=>cases x
  | rz N=>cases x;exact ht A Λ ρ σ S H _ _ r q k
@[simp] def xrE (m:Env -> Option Str):XR:=fun ρ=>(m ρ).map .rz
def spX (K:W.Frag) (n:Nat) (m:List D -> Option Str):Sp:=fun vs H _ E=>vs.length = n /\ ∃ S ds N,Same S H /\ Dens K S ds vs /\ m ds = some N /\ ∀ C S' H',Ext S H S' H' -> W.nsIn K mainGlobals N = some (some (.ref C)) -> E (.ref C) none H'
@[simp] def NJ (m:List D -> Option Str) (a:XA):Env -> Option Str:=fun ρ=>(a ρ).bind m
def fnX (n:Nat) (m:XR) (ds:List D):Option Str:=match m (ds.map .sh ++ List.replicate (n - ds.length) .un) with
 | some (.rz N)=>some N
 | _=>none
theorem Jy {S1 H1:Hp} (s1:Same S S1) (s2:Same S1 H1) (s3:Same (lN S H) H1) (s4:∀ b,S1 b = none \/ lN S H b = none):Ext S H S1 H1:=⟨s1,s2,fun b o hb hn=>by
 have ha:=u8 hb hn
 refine ⟨s3 b o ha,?_⟩
 rcases s4 b with z | z
 ·exact z
 ·rw [ha] at z;cases z⟩
theorem Kl {t:TS} {m:XR} {N:List Str} {n k:Nat} {vs:List V} {H:Hp} {Q:VK} (hs:SX K E t m) (hN:N.length = n) (h:spX K k (fnX n m) vs H Q E):t { nx:=fun _ H'=>Q .non H',rt:=Q } (L2.aV N vs) H:=by
 obtain ⟨_,S,ds,M,s,dd,y,q⟩:=h
 subst hN
 unfold fnX at y
 have r:=zH (N:=N) s dd
 split at y <;> cases y
 rename_i qx
 exact hs _ _ _ _ S H _ _ r qx fun C S' H' s1 s2 s3 s4 hC=>q C S' H' (Jy s1 s2 s3 s4) hC
theorem C7:∀ bs:List Bool,Dens K S (bs.map D.bl) (bs.map V.bl)
 | []=>.nil
 | b :: bs=>.cons (den_bl.mpr rfl) (C7 bs)
def pF (N:Str):List (List (Str × Bool)) -> Option (List Bool)
 | []=>some []
 | a :: l=>(a.lookup N).bind fun b=>(pF N l).map fun bs=>b :: bs
theorem FZ {i:Nat} {N:Str}:∀ {l:List (List (Str × Bool))} {bs:List Bool},pF N l = some bs -> ∀ σ H (Q:List V -> Hp -> Prop) e C,σ[i]? = some (some (.ref e)) -> H e = some (AB C e) -> W.nsIn K mainGlobals N = some (some (.ref C)) -> Q (bs.map V.bl) H -> Bb K i l σ H Q
 | [],bs,h,σ,H,Q,e,C,_,_,_,q=>by cases h;exact q
 | a :: l,bs,h,σ,H,Q,e,C,h1,h2,h3,q=>by
  unfold pF at h
  cases qa:a.lookup N with
  | none=>rw [qa] at h;cases h
  | some b=>
   rw [qa] at h
   cases ql:pF N l with
   | none=>rw [ql] at h;cases h
   | some bs'=>
    rw [ql] at h
    cases h
    exact ⟨e,C,N,b,h1,h2,h3,qa,FZ ql σ H _ e C h1 h2 h3 q⟩
def Du (K:W.Frag) (i:Nat):List (Nat × List (List (Str × Bool))) -> TS
 | []=>A2
 | [p]=>vO (EM (Bb K i p.2)) (ir p.1)
 | p :: l=>GU (vO (EM (Bb K i p.2)) (ir p.1)) (Du K i l)
def jO (i:Nat) (N:Str):List (Nat × List (List (Str × Bool))) -> Env -> Option Env
 | [],ρ=>some ρ
 | p :: l,ρ=>if p.1 = i then none else (pF N p.2).bind fun bs=>if bs.length <= 1000 then jO i N l (ρ.set p.1 (.sh (.lst (bs.map .bl)))) else none
def SU (K:W.Frag) (i:Nat) (N:Str) (t:TS) (f:Env -> Option Env):Prop:=∀ A Λ ρ σ S H (D:Ends) e C ρ',RlA K A Λ ρ σ S H -> f ρ = some ρ' -> σ[i]? = some (some (.ref e)) -> H e = some (AB C e) -> W.nsIn K mainGlobals N = some (some (.ref C)) ->
 (∀ σ' S' H',RlA K A Λ ρ' σ' S' H' -> Same S S' -> σ'[i]? = some (some (.ref e)) -> H' e = some (AB C e) -> D.nx σ' H') -> t D σ H
theorem Gv {i:Nat} {N:Str} (p:Nat × List (List (Str × Bool))):SU K i N (vO (EM (Bb K i p.2)) (ir p.1)) (jO i N [p]):=fun A Λ ρ σ S H D e C ρ' r hf h1 h2 h3 k=>by
 unfold jO at hf
 split at hf
 ·cases hf
 ·rename_i hij
  cases ql:pF N p.2 with
  | none=>rw [ql] at hf;cases hf
  | some bs=>
   rw [ql] at hf
   dsimp only [Option.bind] at hf
   split at hf
   ·rename_i hl
    cases hf
    refine FZ ql σ H _ e C h1 h2 h3 ⟨by rw [Ph];exact PR hl (by rw [Qb];decide),fun a ha=>?_⟩
    have z:Ext S H (upd S a (.lst (bs.map V.bl))) (upd H a (.lst (bs.map V.bl))):=Ext.new r.sub ha
    refine k _ (upd S a (.lst (bs.map V.bl))) _ ((r.ext z).set p.1 (den_lst.mpr ⟨a,bs.map V.bl,rfl,.inl aY,C7 bs⟩)) z.sh ?_ ?_
    ·rw [P1 hij];exact h1
    ·rw [aP (aR h2 ha)];exact h2
   ·cases hf
theorem Bq {i:Nat} {N:Str} {p:Nat × List (List (Str × Bool))} {l:List (Nat × List (List (Str × Bool)))} {ρ ρ':Env} (h:jO i N (p :: l) ρ = some ρ'):∃ ρ1,jO i N [p] ρ = some ρ1 /\ jO i N l ρ1 = some ρ':=by
 rw [jO] at h
 split at h
 ·cases h
 ·rename_i hij
  cases ql:pF N p.2 with
  | none=>rw [ql] at h;cases h
  | some bs=>
   rw [ql] at h
   dsimp only [Option.bind] at h
   split at h
   ·rename_i hl
    refine ⟨ρ.set p.1 (.sh (.lst (bs.map .bl))),?_,h⟩
    rw [jO,Pc hij,ql]
    show (if bs.length <= 1000 then _ else none) = _
    rw [Pb hl]
    rfl
   ·cases h
theorem CM {i:Nat} {N:Str}:∀ l:List (Nat × List (List (Str × Bool))),SU K i N (Du K i l) (jO i N l)
 | []=>fun A Λ ρ σ S H D e C ρ' r hf h1 h2 h3 k=>by cases hf;exact k σ S H r (Same.refl _) h1 h2
 | [p]=>Gv p
 | p :: q :: l=>fun A Λ ρ σ S H D e C ρ' r hf h1 h2 h3 k=>by
  obtain ⟨ρ1,f1,f2⟩:=Bq hf
  refine Gv p A Λ ρ σ S H _ e C ρ1 r f1 h1 h2 h3 fun σ' S' H' r' z a b=>?_
  exact CM (q :: l) A Λ ρ1 σ' S' H' D e C ρ' r' f2 a b h3 fun σ2 S2 H2 r2 z2 a2 b2=>k σ2 S2 H2 r2 (z.trans z2) a2 b2
theorem RlA.drop {A:Hp} {Λ:Nat -> Option Addr} {ρ:Env} {σ:St} (r:RlA K A Λ ρ σ S H) (i:Nat):RlA K A Λ (ρ.set i .un) (σ.set i none) S H:=by
 obtain ⟨Φ,f⟩:=r
 have ge:∀ (j:Nat) t,(ρ.set i .un)[j]? = some t -> t ≠ .un -> j ≠ i /\ ρ[j]? = some t:=fun j t h n=>by
  rcases cg h with ⟨_,e,_⟩ | ⟨hij,h⟩
  ·exact absurd e n
  ·exact ⟨PM hij,h⟩
 exact ⟨Φ,{
  len:=by rw [Qg,Qg];exact f.len
  sub:=f.sub
  sh:=fun j d h=>by
   obtain ⟨hj,h⟩:=ge j _ h (by intro z;cases z)
   rw [P1 (PM hj)]
   exact f.sh j d h
  ow:=fun j o h=>by
   obtain ⟨hj,h⟩:=ge j _ h (by intro z;cases z)
   rw [P1 (PM hj)]
   exact f.ow j o h
  dj:=fun j k o o' hjk h1 h2=>f.dj j k o o' hjk (ge j _ h1 (by intro z;cases z)).2 (ge k _ h2 (by intro z;cases z)).2
  lo:=fun j h=>by
   obtain ⟨hj,h⟩:=ge j _ h (by intro z;cases z)
   rw [P1 (PM hj)]
   exact f.lo j h
  asub:=f.asub
  adis:=f.adis }⟩
@[simp] def O9 (L:List Str) (i:Nat) (m:XR) (l:List (Nat × List (List (Str × Bool)))):XS:=fun ρ=>if i < ρ.length then (m ρ).bind fun o=>match o with
 | .rz N=>if L.contains N then (jO i N l (ρ.map fun _=>.un)).map fun ρ'=>.nx (ρ'.set i .un) else none
 | .nx ρ'=>some (.nx ρ') else none
end
end M
namespace L2
open PySem PySem.Spec PyProof.Rows
section
variable {X:Cx} {tg:Expr}
end
end L2
namespace M
open PySem L2
section
variable {K:W.Frag} {S S' H H':Hp}
def Nn:List D -> Option (List D)
 | [.int i,.int j]=>some (fc i (j - i).toNat)
 | _=>none
@[simp] def Om (a:XA):XA:=fun ρ=>(a ρ).bind Nn
end
end M
namespace L2
open PySem PySem.Spec PyProof.Rows
section
variable {X:Cx} {tg:Expr}
end
end L2
namespace M
open PySem L2
section
variable {K:W.Frag} {S S' H H':Hp}
def K9 (x:Str):List D:=x.cps.toList.map fun c=>D.str ⟨#[c]⟩
def sgD:D -> Option (List D)
 | .str x=>some (K9 x)
 | _=>none
@[simp] def O2 (e:XE):XA:=fun ρ=>(e ρ).bind sgD
def NN (d:D) (lo hi:Option Int):Option D:=match d with
 | .str x=>if x.length <= LIM then some (.str (Txt.slice x lo hi)) else none
 | _=>none
@[simp] def O0 (a:XE) (lo hi:XO):XE:=fun ρ=>(a ρ).bind fun d=>(lo ρ).bind fun l=>(hi ρ).bind fun h=>NN d l h
end
end M
namespace L2
open PySem
end L2
namespace L2
open PySem PySem.Spec PyProof.Rows
section
variable {X:Cx}
inductive PJ (X:Cx):List Expr -> List TE -> Prop
 | nil:PJ X [] []
 | cons {e:Expr} {t:TE} {es:List Expr} {ts:List TE}:PE X e t -> PJ X es ts -> PJ X (e :: es) (t :: ts)
end
end L2
namespace M
open PySem L2
section
variable {K:W.Frag} {S S' H H':Hp}
def fvD:D -> Option D
 | .int i=>if i.natAbs.log2 < 1920 then some (.str (toString i)) else none
 | .str y=>if y.length <= LIM then some (.str y) else none
 | _=>none
@[simp] def xFv (e:XE):XE:=fun ρ=>(e ρ).bind fvD
inductive SJ (K:W.Frag):List TE -> List XE -> Prop
 | nil:SJ K [] []
 | cons {t:TE} {a:XE} {ts:List TE} {as:List XE}:SPk K t a -> SJ K ts as -> SJ K (t :: ts) (a :: as)
end
end M
namespace L2
open PySem PySem.Spec PyProof.Rows
section
variable {M:Model} {A:Around} {Ex:Value -> Shared -> Prop} {s:Shared}
end
section
variable {P:Program} {w:World} {K:W.Frag} {mg:Str -> Option Value} {base:Heap} {N:List Str} {qual:Str} {scope:Scope} {f:Addr} {cdv:Value} {A:Around} {outer:List Env} {s:Shared} {H:Hp} {E:XK}
end
section
variable {X:Cx} {pins:List (Addr × Obj)} {σ:St} {H:Hp} {s:Shared} {XN N:List Str} {sc scope:Scope} {js:List (Option Nat)}
variable {tg iter elt:Expr} {ifs:List Expr} {pos:Pos} {wi:TI} {g:TG} {tt:TIf} {te:TE} {E:XK}
end
section
variable {X:Cx}
end
end L2
namespace M
open PySem L2
section
variable {K:W.Frag} {S S' H H':Hp} {E:XK}
@[simp] def K8 (m:XS):XR:=fun ρ=>match m ρ with | some (.nx ρ')=>some (.nx ρ') | _=>none
theorem LZ {t:TS} {m:XS} (h:SS K t m):SX K E t (K8 m):=fun A Λ ρ σ S H D o r x k=>by
 unfold K8 at x
 split at x <;> cases x
 rename_i q
 exact h A Λ ρ σ S H D _ r q k
@[simp] def O8 (n:Env -> Option Str) (m:XS):XR:=fun ρ=>match n ρ with | some N=>some (.rz N) | none=>(match m ρ with | some (.nx ρ')=>some (.nx ρ') | _=>none)
@[simp] def M8 (m:Env -> Option Str):Env -> Option Str:=m
@[simp] def No (e:XE) (m:Env -> Option Str):Env -> Option Str:=fun ρ=>(e ρ).bind fun _=>m ρ
@[simp] def O1 (n:Env -> Option Str) (e:XE) (m:Env -> Option Str):Env -> Option Str:=fun ρ=>match n ρ with | some N=>some N | none=>(e ρ).bind fun _=>m ρ
@[simp] def Ob (i:Nat) (m:Env -> Option Str):Env -> Option Str:=fun ρ=>match ρ[i]? with | some (.ow (.lst _))=>m ρ | _=>none
def Fj (g:XG) (c:XT) (e:XE) (n:Env -> Option Str) (ρ0:Env):List D -> Option Str
 | []=>none
 | d :: l=>(g d ρ0).bind fun ρ1=>(c ρ1).bind fun b=>if b = true then (match n ρ1 with | some N=>some N | none=>(e ρ1).bind fun _=>Fj g c e n ρ0 l) else Fj g c e n ρ0 l
@[simp] def NW (js:List (Option Nat)) (w:XA) (g:XG) (c:XT) (e:XE) (n:Env -> Option Str):Env -> Option Str:=fun ρ=>(w ρ).bind fun l=>if l.length <= LIM then Fj g c e n (yv js ρ) l else none
def Jc (g:XG) (m:XR):List D -> Env -> Option RO
 | [],ρ=>some (.nx ρ)
 | d :: l,ρ=>(g d ρ).bind fun ρ1=>(m ρ1).bind fun o=>match o with | .nx ρ2=>Jc g m l ρ2 | .rz N=>some (.rz N)
@[simp] def OD (e:XA) (g:XG) (m:XR):XR:=fun ρ=>(e ρ).bind fun l=>Jc g m l ρ
end
end M
namespace L2
open PySem
structure Ak (CX:CXT) (n:Nat) (x:Str) (ps:List Str) (sp:W.Frag -> Sp) (P:Program) (w:World) (K:W.Frag) (mg:Str -> Option Value) (base:Heap) (f:Addr) (fd:FuncData):Prop where
 G:FnOk P w K mg base CX n f fd ps (sp K)
 m:mg x = some (.ref f)
 k:W.keepIn K (.ref f) = true
 b:Binds K fd ps []
structure Am (n:Nat) (x:Str) (Ns:List Str) (ps:List Str) (sp:W.Frag -> Sp) (P:Program) (w:World) (K:W.Frag) (mg:Str -> Option Value) (base:Heap) (f:Addr) (fd:FuncData):Prop where
 G:FnOk P w K mg base CX0 n f fd ps (sp K)
 b:Binds K fd ps []
 cm:uH K Ns fun C=>Cls K C /\ Meth K C x f
structure Ac (CX:CXT) (n:Nat) (x:Str) (ps:List Str) (sp:W.Frag -> Sp) (P:Program) (w:World) (K:W.Frag) (mg:Str -> Option Value) (base:Heap) (c f:Addr) (fd:FuncData):Prop where
 G:FnOk P w K mg base CX n f fd ps (sp K)
 b:Binds K fd ps []
 n:W.nsIn K mainGlobals x = some (some (.ref c))
 M:Mk K c f
 g:mg x = some (.ref c)
structure Ab (n:Nat) (x:Str) (ps:List Str) (sp:W.Frag -> Sp) (P:Program) (w:World) (K:W.Frag) (mg:Str -> Option Value) (base:Heap) (c f:Addr) (fd:FuncData):Prop where
 G:FnOk P w K mg base CX0 n f fd ps (sp K)
 b:Binds K fd ps []
 cf:ClsFn K c "__init__" f
 g:mg x = some (.ref c)
theorem usS {us:List Value} {n:Nat} (h:us.length = n + 1):∃ a v,us = a :: v /\ v.length = n:=by
 cases us with
 | nil=>cases h
 | cons a v=>exact ⟨a,v,rfl,Nat.succ.inj h⟩
theorem us1 {us:List Value} (h:us.length = 1):∃ a0,us = [a0]:=by
 obtain ⟨a0,v0,rfl,h0⟩:=usS h
 cases v0 with
 | nil=>exact ⟨a0,rfl⟩
 | cons a v=>cases h0
theorem us2 {us:List Value} (h:us.length = 2):∃ a0 a1,us = [a0,a1]:=by
 obtain ⟨a0,v0,rfl,h0⟩:=usS h
 obtain ⟨a1,v1,rfl,h1⟩:=usS h0
 cases v1 with
 | nil=>exact ⟨a0,a1,rfl⟩
 | cons a v=>cases h1
theorem us3 {us:List Value} (h:us.length = 3):∃ a0 a1 a2,us = [a0,a1,a2]:=by
 obtain ⟨a0,v0,rfl,h0⟩:=usS h
 obtain ⟨a1,v1,rfl,h1⟩:=usS h0
 obtain ⟨a2,v2,rfl,h2⟩:=usS h1
 cases v2 with
 | nil=>exact ⟨a0,a1,a2,rfl⟩
 | cons a v=>cases h2
theorem us5 {us:List Value} (h:us.length = 5):∃ a0 a1 a2 a3 a4,us = [a0,a1,a2,a3,a4]:=by
 obtain ⟨a0,v0,rfl,h0⟩:=usS h
 obtain ⟨a1,v1,rfl,h1⟩:=usS h0
 obtain ⟨a2,v2,rfl,h2⟩:=usS h1
 obtain ⟨a3,v3,rfl,h3⟩:=usS h2
 obtain ⟨a4,v4,rfl,h4⟩:=usS h3
 cases v4 with
 | nil=>exact ⟨a0,a1,a2,a3,a4,rfl⟩
 | cons a v=>cases h4
theorem uQ {K:W.Frag} {P:Addr -> Prop}:uH K [] P:=fun _ h=>by cases h
theorem cA {K:W.Frag} {P:Addr -> Prop} {N:Str} {Ns:List Str} {c:Addr} (h:W.nsIn K mainGlobals N = some (some (.ref c))) (p:P c) (r:uH K Ns P):uH K (N :: Ns) P:=fun M hM C hC=>by
 rcases Pq.mp hM with rfl | hM
 ·rw [h] at hC
  cases hC
  exact p
 ·exact r M hM C hC
end L2
namespace L2
open PySem PySem.Spec PyProof.Rows M
section
variable {X:Cx}
end
end L2
namespace M
open PySem L2
section
variable {K:W.Frag}
end
end M
namespace L2
open PySem PySem.Spec PyProof.Rows
section
variable {X:Cx} {tg:Expr}
end
end L2
namespace M
open PySem L2
section
variable {K:W.Frag} {S H:Hp}
def JP (a c:Int) (n:Nat):List D:=(List.range n).map fun i:Nat=>D.int (a + (i:Int) * c)
def Ml:List D -> Option (List D)
 | [.int a,.int j,.int c]=>ifC (c ≠ 0 /\ (-1000000 < c /\ c < 1000000) /\ Builtin.Range.small a j c = true) (some (JP a c (Builtin.Range.rangeSize a j c).toNat)) none
 | _=>none
@[simp] def OB (a:XA):XA:=fun ρ=>(a ρ).bind Ml
end
end M
namespace L2
open PySem PySem.Spec PyProof.Rows
section
variable {X:Cx}
end
end L2
namespace M
open PySem L2
section
variable {K:W.Frag}
def Mj:D -> Option (List D)
 | .int j=>ifC (0 <= j /\ j < 1000000) (some ((List.range j.toNat).map fun i:Nat=>D.int (i:Int))) none
 | _=>none
@[simp] def Nf (a:XE):XA:=fun ρ=>(a ρ).bind Mj
end
end M
namespace L2
open PySem PySem.Spec PyProof.Rows
section
variable {X:Cx} {pins:List (Addr × Obj)} {σ:List (Option V)} {H H':Hp} {s:Shared} {h':Heap}
end
section
variable {X:Cx}
end
end L2
namespace M
open PySem L2
section
variable {K:W.Frag} {S S' H H':Hp}
def enL (k:Nat):List D -> List D
 | []=>[]
 | d :: l=>.tup [.int (k:Int),d] :: enL (k + 1) l
@[simp] def O7 (a:XE):XA:=fun ρ=>(a ρ).bind fun d=>match d with | .lst l=>some (enL 0 l) | _=>none
end
end M
namespace L2
open PySem PySem.Spec PyProof.Rows M
section
variable {X:Cx}
end
end L2
namespace M
open PySem L2
section
variable {K:W.Frag}
end
section
variable {K:W.Frag} {S S' H H':Hp}
@[simp] def OI (i:Nat) (p:XP):XA:=fun ρ=>match ρ[i]? with
 | some (.ow o)=>(p ρ).bind fun is=>match eW o is with | some (.lst l)=>shs l | _=>none
 | _=>none
end
end M
namespace TL
open PySem PyProof.Rows
section
variable {prog:Program} {w:World} {A:Around} {E:Value -> Shared -> Prop} {s:Shared}
end
end TL
namespace L2
open PySem PySem.Spec PyProof.Rows
section
variable {X:Cx}
end
end L2
namespace M
open PySem L2
section
variable {K:W.Frag}
end
end M
namespace L2
open PySem PySem.Spec PyProof.Rows
section
variable {X:Cx}
end
end L2
namespace M
open PySem L2
section
variable {K:W.Frag}
end
end M
namespace TL
open PySem PyProof.Rows
section
variable {prog:Program} {w:World} {A:Around} {R:Result -> Shared -> Prop} {I:Addr} {fp wr:List Addr} {n:Nat} {P:Nat -> Value -> Prop} {St:Nat -> Heap -> Prop} {h0:Heap}
end
section
variable {prog:Program} {w:World} {A:Around} {E:Value -> Shared -> Prop} {s:Shared}
end
end TL
namespace L2
open PySem PySem.Spec PyProof.Rows
section
variable {X:Cx}
end
end L2
namespace M
open PySem L2
section
variable {K:W.Frag}
end
section
variable {K:W.Frag} {S S' H H':Hp}
end
section
variable {K:W.Frag}
@[simp] def M0 (f g:D -> D -> Option D) (a b c:XE):XE:=fun ρ=>(a ρ).bind fun x=>(b ρ).bind fun y=>(f x y).bind fun z=>match z with
 | .bl true=>(c ρ).bind fun w=>g y w
 | .bl false=>some (.bl false)
 | _=>none
end
end M
namespace L2
open PySem PySem.Spec PyProof.Rows
section
variable {X:Cx} {tg:Expr}
end
end L2
namespace M
open PySem L2
section
variable {K:W.Frag} {S S' H H':Hp}
def Md:List D -> Option (List D)
 | [.lst l]=>some l.reverse | _=>none
@[simp] def Oe (a:XA):XA:=fun ρ=>(a ρ).bind Md
end
end M
namespace L2
open PySem PySem.Spec PyProof.Rows
def AR (CX:CXT) (X:Cx) (σ:St) (E:XK):Prop:=∀ (pins:List (Addr × Obj)) (H:Hp) (s:Shared) (e:Value) (s':Shared),Inv X pins σ H s -> CX X.stack H s E e s' -> X.xe e s'
section
variable {X:Cx} {CX:CXT} {k:Nat} {f:Addr} {fd:FuncData} {ps:List Str} {sp:Sp} {E:XK} {x y:Str} {p cpos pos pos':Pos} {e:Expr} {es:List Expr} {t:TA}
theorem GX {pins:List (Addr × Obj)} {σ:St} {H:Hp} {s:Shared} {Q:VK} {us:List Value} {vs:List V} (F:FnOk X.prog X.w X.K X.mg X.base CX k f fd ps sp) (hr:Room k X.A) (hb:Binds X.K fd ps []) (hx:AR CX X σ E)
  (I:Inv X pins σ H s) (r:Vals vs us) (h:sp vs H Q E):wpAny (model X.prog X.w) X.A (call (.ref f) us) (EP X pins σ Q) X.xe s:=by
 have r2:Vals (vs ++ []) (us ++ []):=r.append .nil
 rw [Qa] at r2
 have hl:(us ++ []).length = ps.length:=by rw [<- r2.length];exact F.len _ _ _ _ h
 refine wpAny_call (Rk (F.run X.A X.stack s H ⟨us,[]⟩ (us ++ []) vs Q E hr I.env0 (hb s us I.kIn hl) r2 h) fun r s' hq=>?_)
 cases r with
 | error e=>exact hx pins H s e s' I hq
 | ok fl=>
  cases fl with
  | ret u=>exact I.after hq
  | next=>exact False.elim hq
  | brk=>exact False.elim hq
  | cont=>exact False.elim hq
def PB (X:Cx) (body:List Stmt) (tx:XK -> St -> Hp -> Prop):Prop:=∀ (ps:List (Addr × Obj)) (W:Value -> Shared -> Prop) (E:XK) (σ:St),AR (CXe X.prog X.w) ((X.pin ps).wish W) σ E -> ∀ s H,Inv ((X.pin ps).wish W) [] σ H s -> tx E σ H -> wpAny (model X.prog X.w) X.A (execs body X.env) (fun _ _=>False) W s
def tBC (sp:Sp) (t:TA):XK -> St -> Hp -> Prop:=fun E σ H=>t σ H fun vs H1=>sp vs H1 (fun _ _=>False) E
theorem Jz (F:FnOk X.prog X.w X.K X.mg X.base (CXe X.prog X.w) k f fd ps sp) (hr:Room k X.A) (hg:Gl X x) (hm:X.mg x = some (.ref f)) (hk:PySem.W.keepIn X.K (.ref f) = true) (hb:Binds X.K fd ps [])
  (ha:∀ ps W,PA ((X.pin ps).wish W) (e :: es) t) (hdb:(x == ("__debug__" : Str)) = false:=by decide) (he:starEach (e :: es) X.env = (false,eval e X.env) :: starEach es X.env:=by rfl) (hpl:(backTo cpos (starEach es X.env)).any (·.1) = false:=by rfl)
  (hs:swapsWith (.Call (.Name x p) (e :: es) [] cpos) (some (.Name y pos')) pos.line X.env = pure false:=by rfl) :
  PB X [.Assign [.Name y pos'] (.Call (.Name x p) (e :: es) [] cpos) pos] (tBC sp t):=by
 intro ps' W E σ hx s H I h
 refine RG (thn (wpAny_Assign_Name (Q:=fun _ _=>False) (thn (Q:=EP ((X.pin ps').wish W) [] σ fun _ _=>False) ?_ fun v s1 ⟨_,_,_,_,q⟩=>q.elim) hs) fun _ _ q=>q.elim)
 refine Rm (nM (X:=(X.pin ps').wish W) I hg hm ?_ hdb)
 refine PySem.W.callWith_K (h₀:=X.base) I.ok.mod.kin hk (thn (ha ps' W cpos [] s σ H _ I h) fun us s1 ⟨vs,H1,I1,r,q⟩=>⟨I1.kIn,?_⟩) he hpl
 exact GX (X:=(X.pin ps').wish W) F hr hb hx I1 r q
end
def Jd (K:W.Frag) (L:List Str) (i:Nat) (tx:XK -> St -> Hp -> Prop) (tu ts:TS):TS:=fun D σ H=>
 tx (fun cls _ H'=>∃ N C,N ∈ L /\ cls = .ref C /\ W.nsIn K mainGlobals N = some (some (.ref C)) /\ ∀ e,H' e = none ->
  ts { nx:=fun σ' H2=>D.nx (σ'.set i none) H2,rt:=fun _ _=>False } (σ.set i (some (.ref e))) (upd H' e (AB C e))) σ H \/ tu D σ H
section
variable {X:Cx} {body suite:List Stmt} {b0:Stmt} {x n:Str} {i:Nat} {L:List Str} {tx:XK -> St -> Hp -> Prop} {tu ts:TS} {np hp pos:Pos}
theorem IH (hst:X.stack = X.env :: X.outer) (hfr:X.env.frame = some X.env.locals) (hN:X.N.Nodup) (hi:X.N[i]? = some n) (hl:X.env.kindOf n = some .local) (hm:∃ T:Addr,X.mg x = some (.ref T) /\ ∀ N ∈ L,∀ C:Addr,PySem.W.nsIn X.K mainGlobals N = some (some (.ref C)) -> PySem.W.exmOne X.K (.ref C) (.ref T) = some true) (hg:Gl X x)
  (hx:PB X body tx) (hu:∀ (ps:List (Addr × Obj)) (W:Value -> Shared -> Prop),PSs ((X.pin ps).wish W) body tu) (hs:∀ e,PSs (X.hold e) (b0 :: suite) ts) (hdb:(x == ("__debug__" : Str)) = false:=by decide)
  (hf:X.fn n = true \/ X.env.scope.names.lookup n = some .local:=by first | exact .inl rfl | exact .inr rfl | assumption) :
  PS X (.Try body [.ExceptHandler (some (.Name x np)) (some n) (b0 :: suite) hp] [] [] pos) (Jd X.K L i tx tu ts):=by
 intro pins s σ H D I h
 refine wpAny_Try_except ?_
 rcases h with h | h
 ·refine P9 (hx pins (fun v s1=>wpAny (model X.prog X.w) X.A (noteFrame v X.env) (fun _ s2=>wpAny (model X.prog X.w) X.A (setFlight v none) (fun _ s3=>wpAny (model X.prog X.w) X.A (handleBy v X.env [.ExceptHandler (some (.Name x np)) (some n) (b0 :: suite) hp]) (SP X pins D) X.xe s3) X.xe s2) X.xe s1) _ σ ?_ s H (I.toPin.wish _) h) (fun f s1 q=>q.elim) fun _ _ z=>z
  intro ps H1 s1 v s' J hx
  obtain ⟨e,cls,a0,H',B,rfl,ho,hgn,un,hok,hE,fl,k1,k2⟩:=hx
  obtain ⟨M,C,hM,rfl,hC,hh⟩:=hE
  obtain ⟨T,hm,hmt⟩:=hm
  have hmt:=hmt M hM C hC
  have J1:Inv X pins σ H1 s1:=Inv.ofPin I.ok J.unwish
  have fl:Heap.FlyingW B (X.env :: X.outer) e (.ref C) a0 s'.heap:=hst ▸ fl
  have hfrm:X.A.frames = some (X.env :: X.outer):=by rw [I.ok.frames,hst]
  refine wpAny_looks_onW hfrm hfr fl fun h4 held sm4=>?_
  refine wpAny_landsW held fun h5 fl5 sm5=>?_
  have sm5:=sm4.trans sm5
  -- the state ahead of the clause
  have J5:Inv X pins σ H' { s' with heap:=h5 }:=J1.call' ho (BQ un k2 J1.nfS J1.stkFree fl.1 fl5.1 sm5) (zl hok fl.1 fl5.1 k1) hgn (fun b z=>by cases z)
  obtain ⟨oe,vs,he,hc,hd,_⟩:=fl5.first
  refine wpAny_handleBy_cons (codeAny_handlers_test (nM (X:=X.hold e) (J5.hold e) hg hm ?_ hdb)) (by intro z;cases z)
  have LT:PySem.W.Looks (model X.prog X.w) h5 (typeOf (.ref e)) (.ref C):=hc ▸ (PySem.W.Looks.ld he).andThen .now
  refine (PySem.W.exm_one (J5.kIn) LT hmt).here ?_
  refine codeAny_handlers_suite_as ?_
  refine lands_againW fl5 fun h6 fl6 sm6=>?_
  have sm6:=sm5.trans sm6
  obtain ⟨oe,vs,he,hc,hd,_⟩:=fl6.first
  have heB:H' e = none:=by
   cases q:H' e with
   | none=>rfl
   | some u=>
    obtain ⟨o,q1⟩:=k1 e u q
    rw [fl6.2.1] at q1
    cases q1
  have un6:=BQ un k2 J1.nfS J1.stkFree fl.1 fl6.1 sm6
  have hnew:∀ b o,s1.heap.get? b = some o -> b ≠ e:=fun b o q z=>by
   subst z
   by_cases hz:b ∈ frs X.stack
   ·obtain ⟨sl,q2⟩:=un6.slot b o q (J1.stkFree b hz) hz (by intro y;cases y)
    rw [he] at q2
    cases q2
    exact J1.nfS b hz o q _ hd
   ·obtain ⟨o',q1⟩:=k2 b o q hz
    rw [fl6.2.1] at q1
    cases q1
  have J6:Inv X pins σ (upd H' e (AB C e)) { s' with heap:=h6 }:=by
   refine J1.call' ho (ch:=[]) ⟨un6.keep,un6.slot,fun b o q z y=>?_,un6.there,fun b xs q=>?_,fun b o u q=>?_,fun b ps' q=>?_⟩ (fun b u q=>?_) hgn (fun b z=>by cases z)
   ·rw [aP (hnew b o q)];exact un6.free b o q z y
   ·have:=un6.tups b xs q;rw [aP (aR this heB)];exact this
   ·have:=un6.frzs b o u q;rw [aP (aR this heB)];exact this
   ·obtain ⟨mr,this⟩:=un6.tbls b ps' q;exact ⟨mr,by rw [aP (aR this heB)];exact this⟩
   ·have hok6:=zl hok fl.1 fl6.1 k1
    by_cases hbe:b = e
    ·subst hbe
     rw [aY] at q
     cases q
     refine ⟨⟨oe,vs,he,hc,hd⟩,⟨oe,he⟩,fun h1 h2 ⟨o1,v1,z1,z2,z3⟩ kk=>⟨o1,v1,kk _ z1,z2,z3⟩⟩
    ·rw [aP hbe] at q
     exact (hok6 b u q).stay (fun _ _ _ z=>z) (fun c z=>by rw [aP (aR z heB)];exact z) fun c xs z=>by rw [aP (aR z heB)];exact z
  refine pP (X:=X.hold e) (J6.hold e) hN hi (.inl hl) (v:=.ref e) rfl (fun s7 J7=>?_) hf
  refine P9 (hs e pins s7 _ _ _ J7 (hh e heB)) (fun f s8 q=>?_) fun _ _ z=>z.elim
  cases f with
  | next=>
   obtain ⟨σ8,H8,J8,q8⟩:=q
   exact Ie (Inv.unhold I.ok J8) hN hi hl fun s9 J9=>⟨_,H8,J9,q8⟩
  | brk=>obtain ⟨_,_,_,z⟩:=q;exact z.elim
  | cont=>obtain ⟨_,_,_,z⟩:=q;exact z.elim
  | ret u=>obtain ⟨_,_,_,_,_,z⟩:=q;exact z.elim
 ·refine P9 (hu pins (fun v s1=>wpAny (model X.prog X.w) X.A (noteFrame v X.env) (fun _ s2=>wpAny (model X.prog X.w) X.A (setFlight v none) (fun _ s3=>wpAny (model X.prog X.w) X.A (handleBy v X.env [.ExceptHandler (some (.Name x np)) (some n) (b0 :: suite) hp]) (SP X pins D) X.xe s3) X.xe s2) X.xe s1) [] s σ H D (I.toPin.wish _) h) (fun f s1 q=>?_) fun _ _ z=>z
  have q:SP X pins D f s1:=by
   have q:=q.unwish
   cases f with
   | next=>obtain ⟨σ',H',J,z⟩:=q;exact ⟨σ',H',Inv.ofPin I.ok J,z⟩
   | brk=>obtain ⟨σ',H',J,z⟩:=q;exact ⟨σ',H',Inv.ofPin I.ok J,z⟩
   | cont=>obtain ⟨σ',H',J,z⟩:=q;exact ⟨σ',H',Inv.ofPin I.ok J,z⟩
   | ret u=>obtain ⟨v,σ',H',J,r,z⟩:=q;exact ⟨v,σ',H',Inv.ofPin I.ok J,r,z⟩
  cases f with
  | next=>exact Ri q
  | brk=>exact q
  | cont=>exact q
  | ret u=>exact q
end
end L2
namespace M
open PySem L2
section
variable {K:W.Frag} {S S' H H':Hp}
theorem RlA.put {A:Hp} {Λ:Nat -> Option Addr} {ρ:Env} {σ:St} (r:RlA K A Λ ρ σ S H) (i:Nat) (v:Option V):RlA K A Λ (ρ.set i .un) (σ.set i v) S H:=by
 obtain ⟨Φ,f⟩:=r
 have ge:∀ (j:Nat) t,(ρ.set i .un)[j]? = some t -> t ≠ .un -> j ≠ i /\ ρ[j]? = some t:=fun j t h n=>by
  rcases cg h with ⟨_,e,_⟩ | ⟨hij,h⟩
  ·exact absurd e n
  ·exact ⟨PM hij,h⟩
 exact ⟨Φ,{
  len:=by rw [Qg,Qg];exact f.len
  sub:=f.sub
  sh:=fun j d h=>by
   obtain ⟨hj,h⟩:=ge j _ h (by intro z;cases z)
   rw [P1 (PM hj)]
   exact f.sh j d h
  ow:=fun j o h=>by
   obtain ⟨hj,h⟩:=ge j _ h (by intro z;cases z)
   rw [P1 (PM hj)]
   exact f.ow j o h
  dj:=fun j k o o' hjk h1 h2=>f.dj j k o o' hjk (ge j _ h1 (by intro z;cases z)).2 (ge k _ h2 (by intro z;cases z)).2
  lo:=fun j h=>by
   obtain ⟨hj,h⟩:=ge j _ h (by intro z;cases z)
   rw [P1 (PM hj)]
   exact f.lo j h
  asub:=f.asub
  adis:=f.adis }⟩
@[simp] def GA (L:List Str) (i:Nat) (n:List D -> Option Str) (a:XA) (m:XS) (l:List (Nat × List (List (Str × Bool)))):XS:=fun ρ=>if i < ρ.length then (match (a ρ).bind n with
 | some N=>if L.contains N then (jO i N l (ρ.set i .un)).map fun ρ'=>.nx (ρ'.set i .un) else none
 | none=>(match m ρ with | some (.nx ρ')=>some (.nx ρ') | _=>none)) else none
theorem JM {L:List Str} {i c:Nat} {n:List D -> Option Str} {t:TA} {a:XA} {tu:TS} {m:XS} {l:List (Nat × List (List (Str × Bool)))} (h:SA K t a) (hn:∀ ρ ds,a ρ = some ds -> ds.length = c) (hu:SS K tu m):SS K (Jd K L i (tBC (spX K c n) t) tu (Du K i l)) (GA L i n a m l):=fun A Λ ρ σ S H D o r q k=>by
 unfold GA at q
 split at q <;> try (cases q;done)
 rename_i hi
 have hlen:σ.length = ρ.length:=by obtain ⟨_,f⟩:=r;exact f.len
 cases qa:(a ρ).bind n with
 | none=>
  rw [qa] at q
  dsimp only at q
  right
  refine hu A Λ ρ σ S H D o r ?_ k
  cases qm:m ρ with
  | none=>rw [qm] at q;cases q
  | some om=>
   rw [qm] at q
   cases om <;> first | exact q | (cases q;done)
 | some N=>
  rw [qa] at q
  dsimp only at q
  left
  split at q <;> try (cases q;done)
  rename_i hN
  cases qf:jO i N l (ρ.set i .un) with
  | none=>rw [qf] at q;cases q
  | some ρ'=>
   rw [qf] at q
   cases q
   cases qd:a ρ with
   | none=>rw [qd] at qa;cases qa
   | some ds=>
    rw [qd] at qa
    refine h ρ σ S H _ ds r.toRl qd fun vs S1 H1 z1 d1=>?_
    refine ⟨by rw [<- d1.length];exact hn ρ ds qd,S1,ds,N,z1.sub,d1,qa,fun C S2 H2 z2 hC=>⟨N,C,by simpa using hN,rfl,hC,fun e he=>?_⟩⟩
    have z3:=(z1.trans z2).trans (Ext.own (o:=AB C e) z2.sub he)
    have r0:=(r.ext z3).put i (some (.ref e))
    refine CM l A Λ _ _ S2 _ _ e C ρ' r0 qf (QH (by rw [hlen];exact hi)) aY hC fun σ' S' H' r' z _ _=>?_
    exact k _ S' H' (r'.drop i) (z3.sh.trans z)
end
end M
namespace Rw
abbrev R:=List (Int × Int)
def Mem (r:R) (x:Int):Prop:=∃ p ∈ r,p.1 <= x /\ x <= p.2
def Ok (r:R):Prop:=∀ p ∈ r,p.1 <= p.2
def bE (r:R):Prop:=Ok r /\ r.Pairwise fun p q=>p.2 + 2 <= q.1
theorem bz (x:Int):¬ Mem [] x:=by rintro ⟨p,h,_⟩;cases h
theorem mem_cons (p:Int × Int) (r:R) (x:Int):Mem (p :: r) x ↔ (p.1 <= x /\ x <= p.2) \/ Mem r x:=by
 constructor
 ·rintro ⟨q,h,e⟩
  rcases Pq.mp h with rfl | h
  ·exact .inl e
  ·exact .inr ⟨q,h,e⟩
 ·rintro (e | ⟨q,h,e⟩)
  ·exact ⟨p,Pm,e⟩
  ·exact ⟨q,Po _ h,e⟩
theorem mem_append (r t:R) (x:Int):Mem (r ++ t) x ↔ Mem r x \/ Mem t x:=by
 constructor
 ·rintro ⟨q,h,e⟩
  rcases Pu.mp h with h | h
  ·exact .inl ⟨q,h,e⟩
  ·exact .inr ⟨q,h,e⟩
 ·rintro (⟨q,h,e⟩ | ⟨q,h,e⟩)
  ·exact ⟨q,Py _ h,e⟩
  ·exact ⟨q,Pr _ h,e⟩
theorem GS {r t:R} (h:r.Perm t) (x:Int):Mem r x ↔ Mem t x:=
 ⟨fun ⟨q,m,e⟩=>⟨q,h.mem_iff.mp m,e⟩,fun ⟨q,m,e⟩=>⟨q,h.mem_iff.mpr m,e⟩⟩
theorem mem_filter (r:R) (x:Int):Mem (r.filter fun p=>decide (p.1 <= p.2)) x ↔ Mem r x:=by
 constructor
 ·rintro ⟨q,m,e⟩
  exact ⟨q,(PL.mp m).1,e⟩
 ·rintro ⟨q,m,e⟩
  exact ⟨q,PL.mpr ⟨m,by simp;lia⟩,e⟩
theorem iT:bE []:=⟨fun _ h=>(by cases h),.nil⟩
theorem canon_cons {p:Int × Int} {r:R}:bE (p :: r) ↔ p.1 <= p.2 /\ (∀ q ∈ r,p.2 + 2 <= q.1) /\ bE r:=by
 constructor
 ·rintro ⟨h1,h2⟩
  have h3:=Re.mp h2
  exact ⟨h1 p Pm,h3.1,fun q hq=>h1 q (Po _ hq),h3.2⟩
 ·rintro ⟨h1,h2,h3,h4⟩
  refine ⟨fun q hq=>?_,Re.mpr ⟨h2,h4⟩⟩
  rcases Pq.mp hq with rfl | hq
  ·exact h1
  ·exact h3 q hq
theorem eB {p:Int × Int} {r:R} (c:bE (p :: r)) {x:Int} (h:Mem r x):p.2 + 2 <= x:=by
 obtain ⟨q,m,e,_⟩:=h
 have:=(canon_cons.mp c).2.1 q m
 lia
theorem wU {p:Int × Int} {r:R} (c:bE (p :: r)) {x:Int} (h:Mem (p :: r) x):p.1 <= x:=by
 rcases (mem_cons p r x).mp h with h | h
 ·exact h.1
 ·have:=eB c h
  have:=(canon_cons.mp c).1
  lia
theorem B0:∀ {r t:R},bE r -> bE t -> (∀ x,Mem r x ↔ Mem t x) -> r = t
 | [],[],_,_,_=>rfl
 | [],q :: t,_,ct,h=>by
  have:=(h q.1).mpr ((mem_cons ..).mpr (.inl ⟨PC _,(canon_cons.mp ct).1⟩))
  exact (bz _ this).elim
 | p :: r,[],cr,_,h=>by
  have:=(h p.1).mp ((mem_cons ..).mpr (.inl ⟨PC _,(canon_cons.mp cr).1⟩))
  exact (bz _ this).elim
 | p :: r,q :: t,cr,ct,h=>by
  have hp:=(canon_cons.mp cr).1
  have hq:=(canon_cons.mp ct).1
  have a1:q.1 <= p.1:=wU ct ((h p.1).mp ((mem_cons ..).mpr (.inl ⟨PC _,hp⟩)))
  have a2:p.1 <= q.1:=wU cr ((h q.1).mpr ((mem_cons ..).mpr (.inl ⟨PC _,hq⟩)))
  have e1:p.1 = q.1:=by lia
  have n1:¬ Mem (p :: r) (p.2 + 1):=fun m=>by
   rcases (mem_cons ..).mp m with m | m
   ·lia
   ·have:=eB cr m;lia
  have n2:¬ Mem (q :: t) (q.2 + 1):=fun m=>by
   rcases (mem_cons ..).mp m with m | m
   ·lia
   ·have:=eB ct m;lia
  have e2:p.2 = q.2:=by
   by_cases l1:p.2 < q.2
   ·exact (n1 ((h _).mpr ((mem_cons ..).mpr (.inl ⟨by lia,by lia⟩)))).elim
   ·by_cases l2:q.2 < p.2
    ·exact (n2 ((h _).mp ((mem_cons ..).mpr (.inl ⟨by lia,by lia⟩)))).elim
    ·lia
  have e:p = q:=by
   obtain ⟨a,b⟩:=p
   obtain ⟨c,d⟩:=q
   simp only at e1 e2
   rw [e1,e2]
  subst e
  have ih:r = t:=B0 (canon_cons.mp cr).2.2 (canon_cons.mp ct).2.2 fun x=>by
   constructor
   ·intro m
    rcases (mem_cons ..).mp ((h x).mp ((mem_cons ..).mpr (.inr m))) with k | k
    ·have:=eB cr m;lia
    ·exact k
   ·intro m
    rcases (mem_cons ..).mp ((h x).mpr ((mem_cons ..).mpr (.inr m))) with k | k
    ·have:=eB ct m;lia
    ·exact k
  rw [ih]
def step (acc:R) (p:Int × Int):R:=
 match acc.getLast? with
 | none=>[p]
 | some q=>if p.1 <= q.2 + 1 then acc.dropLast ++ [(q.1,if p.2 > q.2 then p.2 else q.2)] else acc ++ [p]
def oj (l:R):R:=l.foldl step []
theorem Ha (p:Int × Int):step [] p = [p]:=rfl
theorem rO (t:R) (q p:Int × Int):step (t ++ [q]) p = if p.1 <= q.2 + 1 then t ++ [(q.1,if p.2 > q.2 then p.2 else q.2)] else t ++ [q] ++ [p]:=by
 unfold step
 simp
theorem canon_snoc {t:R} {q:Int × Int}:bE (t ++ [q]) ↔ bE t /\ q.1 <= q.2 /\ ∀ p ∈ t,p.2 + 2 <= q.1:=by
 constructor
 ·rintro ⟨h1,h2⟩
  have h3:=Qc.mp h2
  exact ⟨⟨fun p hp=>h1 p (Py _ hp),h3.1⟩,h1 q (Pr _ Pm),fun p hp=>h3.2.2 p hp q Pm⟩
 ·rintro ⟨⟨h1,h2⟩,h3,h4⟩
  refine ⟨fun p hp=>?_,Qc.mpr ⟨h2,.cons (fun _ h=>(by cases h)) .nil,fun p hp x hx=>?_⟩⟩
  ·rcases Pu.mp hp with hp | hp
   ·exact h1 p hp
   ·rw [Pi.mp hp];exact h3
  ·rw [Pi.mp hx];exact h4 p hp
theorem Il {acc:R} {p:Int × Int} (c:bE acc) (hp:p.1 <= p.2) (lo:∀ q ∈ acc,q.1 <= p.1) :
  bE (step acc p) /\ (∀ x,Mem (step acc p) x ↔ Mem acc x \/ (p.1 <= x /\ x <= p.2)) /\ (∀ q ∈ step acc p,q.1 <= p.1):=by
 rcases Qu acc with rfl | ⟨t,q,rfl⟩
 ·rw [Ha]
  refine ⟨canon_cons.mpr ⟨hp,fun _ h=>(by cases h),iT⟩,fun x=>?_,fun q hq=>?_⟩
  ·rw [mem_cons]
   constructor
   ·rintro (h | h)
    ·exact .inr h
    ·exact .inl h
   ·rintro (h | h)
    ·exact .inr h
    ·exact .inl h
  ·rw [Pi.mp hq];exact PC _
 ·rw [Qz] at *
  obtain ⟨ct,hq,ht⟩:=canon_snoc.mp c
  have lq:q.1 <= p.1:=lo q (Pr _ Pm)
  rw [rO]
  by_cases h:p.1 <= q.2 + 1
  ·rw [Pb h]
   have m:∀ z,(if p.2 > q.2 then p.2 else q.2) = z -> q.2 <= z /\ p.2 <= z /\ (z = p.2 \/ z = q.2):=fun z e=>by
    split at e <;> lia
   obtain ⟨m1,m2,m3⟩:=m _ rfl
   generalize (if p.2 > q.2 then p.2 else q.2) = z at *
   refine ⟨canon_snoc.mpr ⟨ct,by dsimp only;lia,ht⟩,fun x=>?_,fun s hs=>?_⟩
   ·rw [mem_append,mem_append,mem_cons,mem_cons]
    dsimp only
    constructor
    ·rintro (k | k | k)
     ·exact .inl (.inl k)
     ·by_cases hx:x <= q.2
      ·exact .inl (.inr (.inl ⟨k.1,hx⟩))
      ·right;lia
     ·exact (bz _ k).elim
    ·rintro ((k | k | k) | k)
     ·exact .inl k
     ·right;left;lia
     ·exact (bz _ k).elim
     ·right;left;lia
   ·rcases Pu.mp hs with hs | hs
    ·exact lo s (Py _ hs)
    ·rw [Pi.mp hs];exact lq
  ·rw [Pc h]
   refine ⟨canon_snoc.mpr ⟨c,hp,fun s hs=>?_⟩,fun x=>?_,fun s hs=>?_⟩
   ·rcases Pu.mp hs with hs | hs
    ·have:=ht s hs;lia
    ·rw [Pi.mp hs];lia
   ·rw [mem_append,mem_cons]
    constructor
    ·rintro (k | k | k)
     ·exact .inl k
     ·exact .inr k
     ·exact (bz _ k).elim
    ·rintro (k | k)
     ·exact .inl k
     ·exact .inr (.inl k)
   ·rcases Pu.mp hs with hs | hs
    ·exact lo s hs
    ·rw [Pi.mp hs];exact PC _
theorem Dm:∀ (l:R) (acc:R),bE acc -> Ok l -> l.Pairwise (fun p q=>p.1 <= q.1) -> (∀ q ∈ acc,∀ p ∈ l,q.1 <= p.1) ->
  bE (l.foldl step acc) /\ ∀ x,Mem (l.foldl step acc) x ↔ Mem acc x \/ Mem l x
 | [],acc,c,_,_,_=>⟨c,fun x=>⟨fun h=>.inl h,fun h=>h.elim id fun k=>(bz _ k).elim⟩⟩
 | p :: l,acc,c,o,w,lo=>by
  obtain ⟨w1,w2⟩:=Re.mp w
  obtain ⟨c1,m1,l1⟩:=Il c (o p Pm) fun q hq=>lo q hq p Pm
  obtain ⟨c2,m2⟩:=Dm l (step acc p) c1 (fun q hq=>o q (Po _ hq)) w2 fun q hq s hs=>by
   have:=l1 q hq
   have:=w1 s hs
   lia
  refine ⟨c2,fun x=>?_⟩
  show Mem (l.foldl step (step acc p)) x ↔ _
  rw [m2,m1,mem_cons,or_assoc]
def IsRow (ps r:R):Prop:=bE r /\ ∀ x,Mem r x ↔ Mem ps x
theorem GC {l ps:R} (o:Ok l) (w:l.Pairwise fun p q=>p.1 <= q.1) (h:∀ x,Mem l x ↔ Mem ps x):IsRow ps (oj l):=by
 obtain ⟨c,m⟩:=Dm l [] iT o w fun _ h=>(by cases h)
 exact ⟨c,fun x=>by
  show Mem (l.foldl step []) x ↔ _
  rw [m x,<- h x]
  exact ⟨fun k=>k.elim (fun z=>(bz _ z).elim) id,.inr⟩⟩
theorem IsRow.eq {ps qs r t:R} (h:IsRow ps r) (k:IsRow qs t) (e:∀ x,Mem ps x ↔ Mem qs x):r = t:=
 B0 h.1 k.1 fun x=>(h.2 x).trans ((e x).trans (k.2 x).symm)
def n5 (r:R) (lo hi:Int):R:=r.map fun p=>(p.1 + lo,p.2 + hi)
theorem D1 (r:R) (lo hi x:Int):Mem (n5 r lo hi) x ↔ ∃ p ∈ r,p.1 + lo <= x /\ x <= p.2 + hi:=by
 constructor
 ·rintro ⟨q,m,e⟩
  obtain ⟨p,hp,rfl⟩:=Pt.mp m
  exact ⟨p,hp,e⟩
 ·rintro ⟨p,hp,e⟩
  exact ⟨_,Pt.mpr ⟨p,hp,rfl⟩,e⟩
theorem FS {r:R} (o:Ok r) {lo hi:Int} (hl:lo <= hi):Ok (n5 r lo hi):=fun q m=>by
 obtain ⟨p,hp,rfl⟩:=Pt.mp m
 have:=o p hp
 dsimp only
 lia
end Rw
namespace Rw
def d7:R -> R -> R
 | [],_=>[]
 | _ :: _,[]=>[]
 | p :: s,q :: t=>(if max p.1 q.1 <= min p.2 q.2 then [(max p.1 q.1,min p.2 q.2)] else []) ++ (if p.2 < q.2 then d7 s (q :: t) else d7 (p :: s) t)
termination_by s t=>s.length + t.length
theorem eA (s:R):d7 s [] = []:=by cases s <;> simp [d7]
theorem fb (t:R):d7 [] t = []:=by simp [d7]
theorem Dg:∀ (n:Nat) (s t:R),s.length + t.length = n -> ∀ r ∈ d7 s t,(∃ p ∈ s,p.1 <= r.1 /\ r.2 <= p.2) /\ (∃ q ∈ t,q.1 <= r.1 /\ r.2 <= q.2) /\ r.1 <= r.2:=by
 intro n
 induction n using Nat.strongRecOn with
 | ind n ih=>
  intro s t hn r hr
  match s,t with
  | [],t=>rw [fb] at hr;cases hr
  | p :: s,[]=>rw [eA] at hr;cases hr
  | p :: s,q :: t=>
   rw [d7] at hr
   rcases Pu.mp hr with hr | hr
   ·split at hr
    ·rename_i h
     rw [Pi.mp hr]
     refine ⟨⟨p,Pm,?_,?_⟩,⟨q,Pm,?_,?_⟩,h⟩ <;> dsimp only <;> lia
    ·cases hr
   ·split at hr
    ·obtain ⟨⟨p',h1,h2⟩,h3⟩:=ih (s.length + (q :: t).length) (by simp at hn ⊢;lia) s (q :: t) rfl r hr
     exact ⟨⟨p',Po _ h1,h2⟩,h3⟩
    ·obtain ⟨h1,⟨q',h2,h3⟩,h4⟩:=ih ((p :: s).length + t.length) (by simp at hn ⊢;lia) (p :: s) t rfl r hr
     exact ⟨h1,⟨q',Po _ h2,h3⟩,h4⟩
theorem FW:∀ (n:Nat) (s t:R),s.length + t.length = n -> bE s -> bE t -> ∀ x,Mem (d7 s t) x ↔ Mem s x /\ Mem t x:=by
 intro n
 induction n using Nat.strongRecOn with
 | ind n ih=>
  intro s t hn cs ct x
  match s,t with
  | [],t=>rw [fb];exact ⟨fun h=>(bz _ h).elim,fun h=>(bz _ h.1).elim⟩
  | p :: s,[]=>rw [eA];exact ⟨fun h=>(bz _ h).elim,fun h=>(bz _ h.2).elim⟩
  | p :: s,q :: t=>
   have hp:=(canon_cons.mp cs).1
   have hq:=(canon_cons.mp ct).1
   have cs':=(canon_cons.mp cs).2.2
   have ct':=(canon_cons.mp ct).2.2
   have first:Mem (if max p.1 q.1 <= min p.2 q.2 then [(max p.1 q.1,min p.2 q.2)] else []) x ↔ (p.1 <= x /\ x <= p.2) /\ (q.1 <= x /\ x <= q.2):=by
    split
    ·rw [mem_cons]
     constructor
     ·rintro (h | h)
      ·dsimp only at h;lia
      ·exact (bz _ h).elim
     ·intro h
      left
      dsimp only
      lia
    ·constructor
     ·intro h;exact (bz _ h).elim
     ·intro h;lia
   rw [d7,mem_append,first]
   split
   ·rename_i hlt
    rw [ih (s.length + (q :: t).length) (by simp at hn ⊢;lia) s (q :: t) rfl cs' ct x,mem_cons p s,mem_cons q t]
    constructor
    ·rintro (h | ⟨h1,h2⟩)
     ·exact ⟨.inl h.1,.inl h.2⟩
     ·exact ⟨.inr h1,h2⟩
    ·rintro ⟨h1 | h1,h2 | h2⟩
     ·exact .inl ⟨h1,h2⟩
     ·have:=eB ct h2;lia
     ·exact .inr ⟨h1,.inl h2⟩
     ·exact .inr ⟨h1,.inr h2⟩
   ·rename_i hge
    rw [ih ((p :: s).length + t.length) (by simp at hn ⊢;lia) (p :: s) t rfl cs ct' x,mem_cons p s,mem_cons q t]
    constructor
    ·rintro (h | ⟨h1,h2⟩)
     ·exact ⟨.inl h.1,.inl h.2⟩
     ·exact ⟨h1,.inr h2⟩
    ·rintro ⟨h1 | h1,h2 | h2⟩
     ·exact .inl ⟨h1,h2⟩
     ·exact .inr ⟨.inl h1,h2⟩
     ·have:=eB cs h1;lia
     ·exact .inr ⟨.inr h1,h2⟩
theorem BZ:∀ (n:Nat) (s t:R),s.length + t.length = n -> bE s -> bE t -> bE (d7 s t):=by
 intro n
 induction n using Nat.strongRecOn with
 | ind n ih=>
  intro s t hn cs ct
  match s,t with
  | [],t=>rw [fb];exact iT
  | p :: s,[]=>rw [eA];exact iT
  | p :: s,q :: t=>
   have cs':=(canon_cons.mp cs).2.2
   have ct':=(canon_cons.mp ct).2.2
   rw [d7]
   have rest:bE (if p.2 < q.2 then d7 s (q :: t) else d7 (p :: s) t) /\ ∀ r ∈ (if p.2 < q.2 then d7 s (q :: t) else d7 (p :: s) t),min p.2 q.2 + 2 <= r.1:=by
    split
    ·rename_i hlt
     refine ⟨ih (s.length + (q :: t).length) (by simp at hn ⊢;lia) s (q :: t) rfl cs' ct,fun r hr=>?_⟩
     obtain ⟨⟨p',h1,h2,_⟩,_⟩:=Dg _ s (q :: t) rfl r hr
     have:=(canon_cons.mp cs).2.1 p' h1
     lia
    ·rename_i hge
     refine ⟨ih ((p :: s).length + t.length) (by simp at hn ⊢;lia) (p :: s) t rfl cs ct',fun r hr=>?_⟩
     obtain ⟨_,⟨q',h1,h2,_⟩,_⟩:=Dg _ (p :: s) t rfl r hr
     have:=(canon_cons.mp ct).2.1 q' h1
     lia
   split
   ·rename_i h
    exact canon_cons.mpr ⟨h,rest.2,rest.1⟩
   ·rw [List.nil_append];exact rest.1
theorem ur:∀ (n:Nat) (s t:R),s.length + t.length = n -> (d7 s t).length <= s.length + t.length:=by
 intro n
 induction n using Nat.strongRecOn with
 | ind n ih=>
  intro s t hn
  match s,t with
  | [],t=>rw [fb];simp
  | p :: s,[]=>rw [eA];simp
  | p :: s,q :: t=>
   rw [d7,Ps]
   have h1:(if max p.1 q.1 <= min p.2 q.2 then [(max p.1 q.1,min p.2 q.2)] else []).length <= 1:=by split <;> simp
   have h2:(if p.2 < q.2 then d7 s (q :: t) else d7 (p :: s) t).length + 1 <= (p :: s).length + (q :: t).length:=by
    split
    ·have:=ih (s.length + (q :: t).length) (by simp at hn ⊢;lia) s (q :: t) rfl
     simp at this ⊢;lia
    ·have:=ih ((p :: s).length + t.length) (by simp at hn ⊢;lia) (p :: s) t rfl
     simp at this ⊢;lia
   lia
def kX:List Int -> R
 | a :: b :: t=>(a,b - 1) :: kX t
 | _=>[]
def Ld (r t u:R):Prop:=bE u /\ ∀ x,Mem u x ↔ (Mem r x /\ Mem t x)
def j6 (P:Int -> Prop) (L:Int):Nat -> Int
 | 0=>0
 | n + 1=>j6 P L n + (by classical exact if P (L + n) then 1 else 0)
end Rw
namespace P
open PySem L2 M
abbrev NS:List Str:=["Box", "Cross", "Shape", "Sum"]
abbrev xNs:List Str:=["NoForm", "TooMany"]
abbrev iV:List (Str × Bool):=[("NoForm",false),("TooMany",false)]
abbrev iM:List (Str × Bool):=[("NoForm",true),("TooMany",false)]
abbrev iP:List (Str × Bool):=[("NoForm",false),("TooMany",false)]
abbrev km:List (Str × Bool):=[("NoForm",false),("TooMany",false)]
abbrev iQ:List (Str × Bool):=[("NoForm",false),("TooMany",false)]
abbrev fJ:List (Str × Bool):=[("NoForm",false),("TooMany",false)]
abbrev gL:List (Str × Bool):=[("NoForm",false),("TooMany",true)]
abbrev dW:List (Str × Bool):=[("NoForm",true),("TooMany",true)]
def jk:XS:=aQ (xIf (xB (xOp dLt (ai 1) (xCB nP (af (ai 0) ao)))) (bD (xOp dIx (ai 0) (ai 1))) d9) (bD (xC (.int 0)))
def jK:List D -> Option O:=fnO 2 jk
def aS:List D -> Option D:=fun ds=>(jK ds).map O.d
def kE:XS:=aQ (xIf (xB (xOp dLt (ai 0) (xC (.int 0)))) (bD (xOp gD (xC (.int 0)) (xOp mz (xOp gD (xC (.int 0)) (ai 0)) (ai 1)))) d9) (bD (xOp mz (ai 0) (ai 1)))
def lc:List D -> Option O:=fnO 2 kE
def gA:List D -> Option D:=fun ds=>(lc ds).map O.d
def pG:XS:=aQ (xIf (xB (xOp (dEq false) (ai 0) (aL ao))) (bD (xC .non)) d9) (aQ (bH (xCB Aw (af (xL (c0 [none,none] (xIt (ai 0)) (bj (au (ah 0) (au (ah 1) bh))) cU (xOp dIx (xOp dIx (ai 1) (xC (.int 0))) (xC (.int 0))))) ao)) (ah 1)) (aQ (bH (xCB zM (af (xL (c0 [none,none] (xIt (ai 0)) (bj (au (ah 0) (au (ah 1) bh))) cU (xOp dIx (xOp dIx (ai 1) (xUn hU (xC (.int 1)))) (xC (.int 1))))) ao)) (ah 2)) (bD (aL (af (aq 1) (af (xOp dIx (xOp dIx (ai 0) (xC (.int 0))) (xC (.int 0))) (af (aq 2) (af (xOp dIx (xOp dIx (ai 0) (xUn hU (xC (.int 1)))) (xC (.int 0))) ao))))))))
def rQ:List D -> Option O:=fnO 3 pG
def vt:List D -> Option D:=fun ds=>(rQ ds).map O.d
def dP:XT:=xB (xOp dLt (ai 2) (ai 3))
def dQ:XS:=aQ (bH (xOp IQ (xOp b5 (ai 2) (ai 3)) (xC (.int 2))) (ah 4)) (xIf (xB (xOp dLe (xOp dIx (xOp dIx (ai 0) (ai 4)) (xC (.int 0))) (ai 1))) (bH (xOp b5 (ai 4) (xC (.int 1))) (ah 2)) (bH (aq 4) (ah 3)))
def gO:XS:=aQ (bH (xC (.int 0)) (ah 2)) (aQ (bH (xCB nP (af (ai 0) ao)) (ah 3)) (aQ (dZ (dP) (dQ)) (bD (aq 2))))
def jb:List D -> Option O:=fnO 5 gO
def eZ:List D -> Option D:=fun ds=>(jb ds).map O.d
def fX:XS:=aQ (bH (xL (c0 [none] (xIt (ai 0)) (ah 0) (xB (xOp (dEq false) (xCB nP (af (ai 0) ao)) (xC (.int 1)))) (xOp dIx (ai 0) (xC (.int 0))))) (ah 1)) (aQ (bH (xCB f9 (af (xL (c0 [none,some 1] (Ir (af (xC (.int 4)) ao)) (ah 0) cU (xCB EW (af (xL (c0 [none,some 0] (xIt (ai 1)) (ah 0) cU (xOp dIx (ai 0) (ai 1)))) ao)))) ao)) (ah 2)) (bD (xOp b5 (aL (af (aL (af (aq 2) ao)) ao)) (xCB f9 (af (xL (c0 [none] (xIt (ai 0)) (ah 0) (xB (xOp dGt (xCB nP (af (ai 0) ao)) (xC (.int 1)))) (aq 0))) ao)))))
def hV:List D -> Option O:=fnO 3 fX
def jx:List D -> Option D:=fun ds=>(hV ds).map O.d
def cZ:XT:=Aj (xB (xOp dLt (ai 3) (xCB nP (af (ai 0) ao)))) (xB (xOp dLt (ai 4) (xCB nP (af (ai 1) ao))))
def b8:XS:=aQ (bH (xCB xy (af (xOp dIx (xOp dIx (ai 0) (ai 3)) (xC (.int 0))) (af (xOp dIx (xOp dIx (ai 1) (ai 4)) (xC (.int 0))) ao))) (ah 5)) (aQ (bH (xCB xI (af (xOp dIx (xOp dIx (ai 0) (ai 3)) (xC (.int 1))) (af (xOp dIx (xOp dIx (ai 1) (ai 4)) (xC (.int 1))) ao))) (ah 6)) (aQ (xIf (xB (xOp dLe (ai 5) (ai 6))) (n4 2 xPv (xSh (aL (af (aq 5) (af (aq 6) ao))))) d9) (xIf (xB (xOp dLt (xOp dIx (xOp dIx (ai 0) (ai 3)) (xC (.int 1))) (xOp dIx (xOp dIx (ai 1) (ai 4)) (xC (.int 1))))) (EF 3 (xC (.int 1)) xx) (EF 4 (xC (.int 1)) xx))))
def iK:XS:=aQ (oA (oT ao) 2) (aQ (bH (xC (.int 0)) (ah 3)) (aQ (bH (xC (.int 0)) (ah 4)) (aQ (dZ (cZ) (b8)) (bD (xCB f9 (af (ai 2) ao))))))
def ke:List D -> Option O:=fnO 7 iK
def fV:List D -> Option D:=fun ds=>(ke ds).map O.d
def jZ:XS:=bD (xCB f9 (af (xL (c0 [none,none,some 1] (xIt (ai 0)) (bj (au (ah 0) (au (ah 1) bh))) cU (aL (af (xOp b5 (ai 0) (ai 2)) (af (xOp b5 (ai 1) (ai 2)) ao))))) ao))
def kN:List D -> Option O:=fnO 2 jZ
def jU:List D -> Option D:=fun ds=>(kN ds).map O.d
def fw:XS:=xIf (Aj (wN (ai 1)) (xB (xOp dLe (ai 2) (xOp b5 (xOp dIx (xOp dIx (ai 1) (xUn hU (xC (.int 1)))) (xC (.int 1))) (xC (.int 1)))))) (xY 1 xPv (xUn hU (xC (.int 1))) (aL (af (xOp dIx (xOp dIx (ai 1) (xUn hU (xC (.int 1)))) (xC (.int 0))) (af (xCB xy (af (xOp dIx (xOp dIx (ai 1) (xUn hU (xC (.int 1)))) (xC (.int 1))) (af (ai 3) ao))) ao)))) (n4 1 xPv (xSh (aL (af (aq 2) (af (aq 3) ao)))))
def qq:XS:=aQ (oA (oT ao) 1) (aQ (qu (xIt (xL (DR iB (af (xL (c0 [none,none] (xIt (ai 0)) (bj (au (ah 0) (au (ah 1) bh))) (xB (xOp dLe (ai 0) (ai 1))) (aL (af (aq 0) (af (aq 1) ao))))) ao)))) (bj (au (ah 2) (au (ah 3) bh))) (fw)) (bD (xCB f9 (af (ai 1) ao))))
def sg:List D -> Option O:=fnO 4 qq
def kt:List D -> Option D:=fun ds=>(sg ds).map O.d
def eo:XS:=bD (xCB f9 (af (xL (c0 [none,none] (xIt (ai 0)) (bj (au (ah 0) (au (ah 1) bh))) (xB (xOp (dEq true) (ai 1) (aL ao))) (aL (af (aq 0) (af (aq 1) ao))))) ao))
def fB:List D -> Option O:=fnO 1 eo
def bx:List D -> Option D:=fun ds=>(fB ds).map O.d
def eP:XS:=CY 1 xPv (xL (c0 [none,none,some 2] (xIt (ai 3)) (bj (au (ah 0) (au (ah 1) bh))) cU (aL (af (aq 2) (af (aq 0) (af (aq 1) ao))))))
def gw:XS:=aQ (oA (oT ao) 1) (aQ (qu (xIt (aq 0)) (bj (au (ah 2) (au (ah 3) bh))) (eP)) (F4 1))
def fi:List D -> Option O:=fnO 4 gw
def b6:List D -> Option D:=fun ds=>(fi ds).map O.d
def uG:List D -> Option D:=Ag (xB (xOp dLt (xCB Ct (af (ai 1) (af (ai 2) (af (ai 3) (af (ai 4) ao))))) (xC (.int 0)))) (aL (af (aL (af (aL (af (xUn hU (ai 1)) (af (xUn hU (ai 2)) (af (aq 3) (af (aq 4) ao))))) ao)) ao))
def kF:List D -> Option D:=Ag (xB (xOp dLt (ai 1) (xC (.int 0)))) (aL (af (aL (af (aL (af (xUn hU (ai 1)) (af (xC (.int 0)) (af (aq 1) (af (xC (.int 0)) ao))))) (af (aL (af (xC (.int 0)) (af (xUn hU (ai 1)) (af (xC (.int 0)) (af (aq 1) ao))))) ao))) ao))
def yc:List D -> Option D:=MG (aF jx (af (xOp b5 (o7 NS "parts" (aq 1)) (o7 NS "parts" (aq 2))) ao))
def fv:XS:=bD (xSl (ai 0) (xU (xCB xy (af (xC (.int 0)) (af (xOp gD (aF eZ (af (aq 0) (af (aq 1) ao))) (xC (.int 1))) ao)))) (xU (aF eZ (af (aq 0) (af (aq 2) ao)))))
def gM:List D -> Option O:=fnO 3 fv
def bF:List D -> Option D:=fun ds=>(gM ds).map O.d
def bZ:XS:=xIf (Aj (wN (ai 1)) (xB (xOp (dEq false) (xOp dIx (ai 1) (xUn hU (xC (.int 1)))) (aL (af (aq 2) (af (xOp dIx (xOp dIx (ai 1) (xUn hU (xC (.int 1)))) (xC (.int 1))) (af (aq 3) (af (xOp gD (ai 4) (xC (.int 1))) ao)))))))) (xY 1 xPv (xUn hU (xC (.int 1))) (aL (af (aq 2) (af (xOp dIx (xOp dIx (ai 1) (xUn hU (xC (.int 1)))) (xC (.int 1))) (af (aq 3) (af (aq 4) ao)))))) (n4 1 xPv (xSh (aL (af (aq 2) (af (aq 4) (af (aq 3) (af (aq 4) ao)))))))
def jN:XS:=aQ (oA (oT ao) 1) (aQ (qu (xIt (xL (DR iB (af (xL (c0 [none,none,none] (xIt (aF b6 (af (aq 0) ao))) (bj (au (ah 0) (au (ah 1) (au (ah 2) bh)))) cU (aL (af (aq 1) (af (aq 2) (af (aq 0) ao)))))) ao)))) (bj (au (ah 2) (au (ah 3) (au (ah 4) bh)))) (bZ)) (bD (xCB f9 (af (ai 1) ao))))
def kW:List D -> Option O:=fnO 5 jN
def mR:List D -> Option D:=fun ds=>(kW ds).map O.d
def ub:XS:=bD (xCB f9 (af (xL (c0 [none,none,some 2,some 1] (xIt (ai 0)) (bj (au (ah 0) (au (ah 1) bh))) cU (aL (af (xOp b5 (ai 0) (ai 2)) (af (aF jU (af (aq 1) (af (aq 3) ao))) ao))))) ao))
def uz:List D -> Option O:=fnO 3 ub
def t7:List D -> Option D:=fun ds=>(uz ds).map O.d
def b7:XS:=aQ (xIf (xOr (KC (wN (DB 1))) (xB (xOp (dEq true) (xFl (xOp dIx (xOp dIx (DB 1) (xUn hU (xC (.int 1)))) (xC (.int 0)))) (ai 2)))) (n4 1 xPv (FB (ym (xSh (aq 2)) (ym (F0 Fv) Fv)))) d9) (n4 1 (xPi (xPi xPv (xUn hU (xC (.int 1)))) (xC (.int 1))) (xSh (aL (af (aq 3) (af (aq 4) ao)))))
def iw:XS:=aQ (oA (oT ao) 1) (aQ (qu (xIt (xL (DR iB (af (xL (c0 [none,none,none] (xIt (ai 0)) (bj (au (ah 0) (au (ah 1) (au (ah 2) bh)))) (xB (xOp dLe (ai 1) (ai 2))) (aL (af (aq 0) (af (aq 1) (af (aq 2) ao)))))) ao)))) (bj (au (ah 2) (au (ah 3) (au (ah 4) bh)))) (b7)) (AN 1 (bD (xCB f9 (af (xL (c0 [none,none] (xIt (aq 1)) (bj (au (ah 0) (au (ah 1) bh))) cU (aL (af (aq 0) (af (aF kt (af (aq 1) ao)) ao))))) ao)))))
def kc:List D -> Option O:=fnO 5 iw
def gc:List D -> Option D:=fun ds=>(kc ds).map O.d
def ku:XS:=aQ (bH (aF eZ (af (aq 0) (af (aq 1) ao))) (ah 2)) (aQ (xIf (Aj (xB (xOp dGt (ai 2) (xC (.int 0)))) (xB (xOp (dEq false) (xOp dIx (xOp dIx (ai 0) (xOp gD (ai 2) (xC (.int 1)))) (xC (.int 0))) (ai 1)))) (bD (xOp dIx (xOp dIx (ai 0) (xOp gD (ai 2) (xC (.int 1)))) (xC (.int 1)))) d9) (bD (aL ao)))
def kA:List D -> Option O:=fnO 3 ku
def g6:List D -> Option D:=fun ds=>(kA ds).map O.d
def iL:XS:=aQ (bH (xOp b5 (ai 0) (ai 1)) (ah 2)) (aQ (bH (xL (DR iB (af (xOp b5 (xL (c0 [none,none] (xIt (ai 2)) (bj (au (ah 0) (au (ah 1) bh))) cU (aq 0))) (xL (c0 [none,none] (xIt (ai 2)) (bj (au (ah 0) (au (ah 1) bh))) cU (xOp b5 (ai 1) (xC (.int 1)))))) ao))) (ah 3)) (bD (aF kt (af (xL (c0 [none,some 3] (FH (af (xC (.int 0)) (af (xCB nP (af (ai 3) ao)) (af (xC (.int 2)) ao)))) (ah 0) cU (aL (af (xOp dIx (ai 1) (ai 0)) (af (xOp gD (xOp dIx (ai 1) (xOp b5 (ai 0) (xC (.int 1)))) (xC (.int 1))) ao))))) ao))))
def kf:List D -> Option O:=fnO 4 iL
def kO:List D -> Option D:=fun ds=>(kf ds).map O.d
def iE:XS:=bD (aF kt (af (xL (c0 [none,none,some 1,some 2] (xIt (ai 0)) (bj (au (ah 0) (au (ah 1) bh))) cU (aL (af (xOp gD (ai 0) (ai 2)) (af (xOp gD (ai 1) (ai 3)) ao))))) ao))
def kd:List D -> Option O:=fnO 3 iE
def iJ:List D -> Option D:=fun ds=>(kd ds).map O.d
def gk:List D -> Option D:=Ag (xB (xOp (dEq false) (ai 1) (aL ao))) (aL (af (aF mR (af (aq 1) ao)) ao))
def pR:XS:=bD (aF bx (af (xL (c0 [none,none,some 1] (xIt (ai 0)) (bj (au (ah 0) (au (ah 1) bh))) cU (aL (af (aq 0) (af (aF fV (af (aq 1) (af (aF g6 (af (aq 2) (af (aq 0) ao))) ao))) ao))))) ao))
def rn:List D -> Option O:=fnO 2 pR
def pI:List D -> Option D:=fun ds=>(rn ds).map O.d
def yK:XS:=bD (aF gc (af (xOp b5 (aF b6 (af (aq 0) ao)) (aF b6 (af (aq 1) ao))) ao))
def yT:List D -> Option O:=fnO 2 yK
def BB:List D -> Option D:=fun ds=>(yT ds).map O.d
def nL:XS:=aQ (bH (aF bF (af (aq 0) (af (xOp b5 (xOp dIx (ai 1) (xC (.int 1))) (xOp dIx (ai 2) (xC (.int 1)))) (af (xOp b5 (xOp dIx (ai 1) (xC (.int 3))) (xOp dIx (ai 2) (xC (.int 3)))) ao)))) (ah 3)) (bD (aF bx (af (xL (c0 [none,none,some 1,some 2] (xIt (ai 3)) (bj (au (ah 0) (au (ah 1) bh))) cU (aL (af (aq 0) (af (aF bF (af (aq 1) (af (xOp b5 (xOp dIx (ai 2) (xC (.int 0))) (xOp dIx (ai 3) (xC (.int 0)))) (af (xOp b5 (xOp dIx (ai 2) (xC (.int 2))) (xOp dIx (ai 3) (xC (.int 2)))) ao)))) ao))))) ao)))
def oY:List D -> Option O:=fnO 4 nL
def rM:List D -> Option D:=fun ds=>(oY ds).map O.d
def k9:XS:=bD (aF kO (af (aq 0) (af (aF fV (af (aq 0) (af (aq 1) ao))) ao)))
def nr:List D -> Option O:=fnO 2 k9
def k7:List D -> Option D:=fun ds=>(nr ds).map O.d
def yP:XS:=bD (aF bx (af (xL (c0 [none,none,some 1] (xIt (ai 0)) (bj (au (ah 0) (au (ah 1) bh))) cU (aL (af (aq 0) (af (aF k7 (af (aq 1) (af (aF g6 (af (aq 2) (af (aq 0) ao))) ao))) ao))))) ao))
def yI:List D -> Option O:=fnO 2 yP
def yB:List D -> Option D:=fun ds=>(yI ds).map O.d
def dD:XT:=xB (xOp dLt (ai 2) (ai 1))
def fm:XS:=aQ (bH (xCB xI (af (xOp b5 (ai 2) (xC (.int 1))) (af (xOp gD (ai 1) (ai 2)) ao))) (ah 3)) (aQ (bH (aF pI (af (aq 0) (af (aF t7 (af (aq 0) (af (xC (.int 0)) (af (xUn hU (ai 3)) ao)))) ao))) (ah 0)) (EF 2 (ai 3) xx))
def gS:XS:=aQ (bH (xC (.int 0)) (ah 2)) (aQ (dZ (dD) (fm)) (bD (aq 0)))
def jA:List D -> Option O:=fnO 4 gS
def gQ:List D -> Option D:=fun ds=>(jA ds).map O.d
def dG:XT:=xB (xOp dLt (ai 2) (ai 1))
def ft:XS:=aQ (bH (xCB xI (af (xOp b5 (ai 2) (xC (.int 1))) (af (xOp gD (ai 1) (ai 2)) ao))) (ah 3)) (aQ (bH (aF BB (af (aq 0) (af (aF t7 (af (aq 0) (af (xC (.int 0)) (af (aq 3) ao)))) ao))) (ah 0)) (EF 2 (ai 3) xx))
def gU:XS:=aQ (bH (xC (.int 0)) (ah 2)) (aQ (dZ (dG) (ft)) (bD (aq 0)))
def ju:List D -> Option O:=fnO 4 gU
def gR:List D -> Option D:=fun ds=>(ju ds).map O.d
def kP:XS:=aQ (xIf (xB (xOp (dEq false) (ai 0) (xC (.int 0)))) (bD (ik "Box" "parts" uG (af (xC (.int 0)) (af (xC (.int 0)) (af (xC (.int 1)) (af (xC (.int 1)) ao)))))) d9) (aQ (xIf (xB (xOp (dEq false) (ai 0) (xC (.int 1)))) (bD (ik "Shape" "parts" gk (af (aL (af (aL (af (xC (.int 0)) (af (aL (af (aL (af (xC (.int 0)) (af (xC (.int 1)) ao))) ao)) ao))) ao)) ao))) d9) (bD (ik "Shape" "parts" gk (af (aL (af (aL (af (xC (.int 0)) (af (aL (af (aL (af (xC (.int 0)) (af (xC (.int 0)) ao))) ao)) ao))) (af (aL (af (xC (.int 1)) (af (aL (af (aL (af (xC (.int 0)) (af (xC (.int 0)) ao))) ao)) ao))) ao))) ao))))
def Ah:List D -> Option O:=fnO 1 kP
def yC:List D -> Option D:=fun ds=>(Ah ds).map O.d
def dm:XS:=aQ (bH (aF gA (af (aq 0) (af (xOp wD (xC (.int 10)) (xC (.int 40))) ao))) (ah 1)) (aQ (bH (ik "Shape" "parts" gk (af (aL (af (aL (af (aq 1) (af (aL (af (aL (af (xOp gD (xC (.int 0)) (ai 1)) (af (xOp gD (xC (.int 0)) (ai 1)) ao))) ao)) ao))) ao)) ao)) (ah 2)) (aQ (xIf (xB (xOp (dEq false) (xOp mz (ai 0) (xC (.int 4))) (xC (.int 0)))) (bD (ik "Box" "parts" uG (af (xC (.int 0)) (af (xC (.int 0)) (af (xC (.int 0)) (af (xC (.int 0)) ao)))))) d9) (aQ (xIf (xB (xOp (dEq false) (xOp mz (ai 0) (xC (.int 4))) (xC (.int 1)))) (bD (ik "Cross" "parts" kF (af (xC (.int 0)) ao))) d9) (aQ (xIf (xB (xOp (dEq false) (xOp mz (ai 0) (xC (.int 4))) (xC (.int 2)))) (bD (aq 2)) d9) (bD (ik "Sum" "parts" yc (af (aq 2) (af (ik "Cross" "parts" kF (af (xC (.int 0)) ao)) ao))))))))
def pU:List D -> Option O:=fnO 3 dm
def ni:List D -> Option D:=fun ds=>(pU ds).map O.d
def b9:XS:=aQ (bH (xL (c0 [none,none,none,some 1] (xIt (aF b6 (af (aq 0) ao))) (bj (au (ah 0) (au (ah 1) (au (ah 2) bh)))) cU (aL (af (xOp b5 (ai 0) (xOp dIx (ai 3) (xC (.int 1)))) (af (xOp b5 (ai 1) (xOp dIx (ai 3) (xC (.int 0)))) (af (xOp b5 (ai 2) (xOp dIx (ai 3) (xC (.int 2)))) ao)))))) (ah 2)) (aQ (xIf (xB (xOp (dEq false) (xOp dIx (ai 1) (xC (.int 1))) (xOp dIx (ai 1) (xC (.int 3))))) (bD (aq 2)) d9) (bD (aF b6 (af (aF gR (af (aF gc (af (aq 2) ao)) (af (xOp gD (xOp dIx (ai 1) (xC (.int 3))) (xOp dIx (ai 1) (xC (.int 1)))) ao))) ao))))
def cW:List D -> Option O:=fnO 3 b9
def dt:List D -> Option D:=fun ds=>(cW ds).map O.d
def dw:XS:=aQ (bH (aF bx (af (xL (c0 [none,none,some 1] (xIt (ai 0)) (bj (au (ah 0) (au (ah 1) bh))) cU (aL (af (xOp gD (ai 0) (xOp dIx (ai 2) (xC (.int 1)))) (af (aF iJ (af (aq 1) (af (xOp dIx (ai 2) (xC (.int 0))) (af (xOp dIx (ai 2) (xC (.int 2))) ao)))) ao))))) ao)) (ah 2)) (bD (aF gQ (af (aq 2) (af (xOp gD (xOp dIx (ai 1) (xC (.int 3))) (xOp dIx (ai 1) (xC (.int 1)))) ao))))
def eX:List D -> Option O:=fnO 3 dw
def du:List D -> Option D:=fun ds=>(eX ds).map O.d
def cV:XS:=CY 2 xPv (aF dt (af (aq 0) (af (aq 3) ao)))
def d8:XS:=aQ (oA (oT ao) 2) (aQ (qu (xIt (aq 1)) (ah 3) (cV)) (AN 2 (bD (aF gc (af (aq 2) ao)))))
def fG:List D -> Option O:=fnO 4 d8
def f6:List D -> Option D:=fun ds=>(fG ds).map O.d
def bB:XS:=aQ (xIf (xB (xOp (dEq false) (ai 2) (aL ao))) (bD (aL ao)) d9) (bH (aF pI (af (aq 2) (af (aF du (af (aF rM (af (aq 0) (af (aF vt (af (aq 2) ao)) (af (aq 3) ao)))) (af (aq 3) ao))) ao))) (ah 2))
def cJ:XS:=aQ (bH (aF du (af (aq 0) (af (xOp dIx (ai 1) (xUn hU (xC (.int 1)))) ao))) (ah 2)) (aQ (qu (xIt (xSl (ai 1) za (xU (xUn hU (xC (.int 1)))))) (ah 3) (bB)) (bD (aq 2)))
def dq:List D -> Option O:=fnO 4 cJ
def eg:List D -> Option D:=fun ds=>(dq ds).map O.d
def di:XS:=bH (aF f6 (af (aq 1) (af (aq 2) ao))) (ah 1)
def eL:XS:=aQ (qu (xi (af (o7 NS "parts" (aq 0)) ao)) (ah 2) (di)) (bD (aq 1))
def lP:List D -> Option O:=fnO 3 eL
def eI:List D -> Option D:=fun ds=>(lP ds).map O.d
def c9:XS:=bH (aF eg (af (aq 1) (af (aq 2) ao))) (ah 1)
def eF:XS:=aQ (qu (xIt (o7 NS "parts" (aq 0))) (ah 2) (c9)) (bD (aq 1))
def lZ:List D -> Option O:=fnO 3 eF
def bP:List D -> Option D:=fun ds=>(lZ ds).map O.d
def ez:XS:=bD (xOp (dEq true) (tq NS "smaller" bP (aq 0) (af (xC (.tup [.tup [.int (0),.tup [.tup [.int (0),.int (0)]]]])) ao)) (aL ao))
def lO:List D -> Option O:=fnO 1 ez
def a8:List D -> Option D:=fun ds=>(lO ds).map O.d
def bU:XT:=Aj (xB (xOp (dEq true) (ai 4) (aL ao))) (xB (xOp dLt (xCB nP (af (ai 3) ao)) (ai 2)))
def dL:XS:=aQ (bH (tq NS "smaller" bP (aq 1) (af (aq 4) ao)) (ah 5)) (aQ (n4 3 xPv (xSh (aF yB (af (aq 4) (af (tq NS "greater" eI (aq 1) (af (aq 5) ao)) ao))))) (bH (aq 5) (ah 4)))
def e9:XS:=aQ (oA (oT ao) 3) (aQ (bH (aq 0) (ah 4)) (aQ (dZ (bU) (dL)) (bD (xOp b5 (ai 3) (xL (oT (af (aq 4) ao)))))))
def mS:List D -> Option O:=fnO 6 e9
def cQ:List D -> Option D:=fun ds=>(mS ds).map O.d
def gi:XR:=CA (HM (wN (aF a8 (af (aq 1) ao))) (yw "NoForm") (BH)) (CA (K8 (bH (aF cQ (af (aq 0) (af (aq 1) (af (aq 2) ao)))) (ah 3))) (Bn (HM (xB (xOp (dEq true) (xOp dIx (ai 3) (xUn hU (xC (.int 1)))) (aL ao))) (yw "TooMany") (BH))))
def m6:List D -> Option Str:=fnX 4 gi
def qN:XS:=aQ (xIf (wN (aF a8 (af (aq 1) ao))) (Cj) d9) (aQ (bH (aF cQ (af (aq 0) (af (aq 1) (af (aq 2) ao)))) (ah 3)) (aQ (xIf (xB (xOp (dEq true) (xOp dIx (ai 3) (xUn hU (xC (.int 1)))) (aL ao))) (Cj) d9) (bD (xSl (ai 3) za (xU (xUn hU (xC (.int 1))))))))
def zJ:List D -> Option O:=fnO 4 qN
def CG:List D -> Option D:=fun ds=>(zJ ds).map O.d
def iH:XS:=aQ (bH (xC .non) (ah 3)) (aQ (bH (xL (oT ao)) (ah 4)) (aQ (GA xNs 5 m6 (af (aq 0) (af (aq 1) (af (aq 2) ao))) (bH (aF CG (af (aq 0) (af (aq 1) (af (aq 2) ao)))) (ah 4)) [(3,[dW,gL,iM,iQ,km,iP,iV,fJ])]) (bD (aL (af (aq 3) (af (xCB nP (af (ai 4) ao)) ao))))))
def AW:List D -> Option O:=fnO 6 iH
def cM:List D -> Option D:=fun ds=>(AW ds).map O.d
def A6:XS:=aQ (bH (aF aS (af (aq 0) (af (xC (.int 0)) ao))) (ah 1)) (aQ (bH (aF gA (af (aF aS (af (aq 0) (af (xC (.int 1)) ao))) (af (xOp dIx (xL (oT (af (xC (.int 9)) (af (xOp wD (xC (.int 10)) (xC (.int 58))) ao)))) (xOp mz (ai 1) (xC (.int 2)))) ao))) (ah 2)) (aQ (bH (aF gA (af (aF aS (af (aq 0) (af (xC (.int 2)) ao))) (af (xOp dIx (xL (oT (af (xC (.int 9)) (af (xOp wD (xC (.int 10)) (xC (.int 58))) ao)))) (xOp mz (xOp IQ (ai 1) (xC (.int 2))) (xC (.int 2)))) ao))) (ah 3)) (aQ (bH (xOp b5 (xC (.int 1)) (xOp mz (aF aS (af (aq 0) (af (xC (.int 3)) ao))) (xC (.int 12)))) (ah 4)) (aQ (bH (xOp mz (aF aS (af (aq 0) (af (xC (.int 4)) ao))) (xC (.int 3))) (ah 5)) (aQ (bH (aq 4) (ah 6)) (aQ (bH (xOp b5 (ai 4) (xOp mz (aF aS (af (aq 0) (af (xC (.int 5)) ao))) (xC (.int 13)))) (ah 7)) (aQ (xIf (xOr (xB (xOp (dEq false) (ai 5) (xC (.int 2)))) (Aj (xB (xOp (dEq false) (ai 5) (xC (.int 0)))) (xB (xOp (dEq false) (xOp mz (aF aS (af (aq 0) (af (xC (.int 5)) ao))) (xC (.int 2))) (xC (.int 0)))))) (aQ (bH (xOp b5 (ai 4) (xOp mz (aF aS (af (aq 0) (af (xC (.int 5)) ao))) (xOp wD (xC (.int 10)) (xC (.int 40))))) (ah 6)) (bH (aq 4) (ah 7))) d9) (aQ (bH (xCB f9 (af (xL (c0 [none,some 3,some 2,some 6] (Ir (af (ai 7) ao)) (ah 0) cU (aL (af (xOp b5 (ai 1) (ai 0)) (af (aL (af (aL (af (aq 2) (af (xOp gD (xOp b5 (ai 2) (ai 3)) (xC (.int 1))) ao))) ao)) ao))))) ao)) (ah 8)) (aQ (bH (aF yC (af (aq 5) ao)) (ah 9)) (aQ (oA (oT (af (xC (.bl false)) (af (xC (.bl true)) (af (xC (.bl false)) (af (xC (.bl false)) (af (xC (.bl false)) (af (xC (.bl false)) (af (xC (.bl false)) (af (xC (.bl false)) ao))))))))) 10) (aQ (oA (oT (af (xC (.bl false)) (af (xC (.bl false)) (af (xC (.bl true)) (af (xC (.bl false)) (af (xC (.bl false)) (af (xC (.bl false)) (af (xC (.bl false)) (af (xC (.bl false)) ao))))))))) 11) (aQ (xY 10 xPv (xC (.int 0)) (xC (.bl true))) (aQ (xY 11 xPv (xC (.int 0)) (xC (.bl true))) (aQ (xIf (xOr (xB (xOp (dEq true) (aF cM (af (aq 8) (af (aq 9) (af (aq 4) ao)))) (aL (af (xC .non) (af (aq 4) ao))))) (xB (xOp (dEq true) (aF cM (af (aq 8) (af (aq 9) (af (xC (.int 100)) ao)))) (aL (af (xC .non) (af (aq 4) ao)))))) (bD (xC (.bl false))) d9) (aQ (AN 10 (xIf (xB (xOp (dEq true) (aF cM (af (aq 8) (af (aq 9) (af (xOp gD (ai 4) (xC (.int 1))) ao)))) (aL (af (aq 10) (af (xC (.int 0)) ao))))) (bD (xC (.bl false))) d9)) (aQ (AN 10 (xIf (xB (xOp (dEq true) (aF cM (af (aq 8) (af (aq 9) (af (xOp mz (aF aS (af (aq 0) (af (xC (.int 6)) ao))) (ai 4)) ao)))) (aL (af (aq 10) (af (xC (.int 0)) ao))))) (bD (xC (.bl false))) d9)) (aQ (bH (aF ni (af (aF aS (af (aq 0) (af (xC (.int 7)) ao))) ao)) (ah 12)) (aQ (AN 11 (xIf (xOr (xB (xOp (dEq true) (aF cM (af (aq 8) (af (aq 12) (af (xOp mz (aF aS (af (aq 0) (af (xC (.int 8)) ao))) (xC (.int 101))) ao)))) (aL (af (aq 11) (af (xC (.int 0)) ao))))) (xB (xOp (dEq true) (aF cM (af (aL ao) (af (aq 12) (af (xC (.int 0)) ao)))) (aL (af (aq 11) (af (xC (.int 0)) ao)))))) (bD (xC (.bl false))) d9)) (bD (Fe (xOp (dEq false) (aF cM (af (aq 8) (af (aq 9) (af (aq 4) ao)))) (aL (af (xC .non) (af (aq 4) ao)))) (xOp (dEq false) (aF cM (af (aL ao) (af (aq 9) (af (xC (.int 0)) ao)))) (aL (af (xC .non) (af (xC (.int 0)) ao))))))))))))))))))))))))
def G9:List D -> Option O:=fnO 13 A6
def Ms:List D -> Option D:=fun ds=>(G9 ds).map O.d
local macro_rules | `(tactic| and_intros)=>`(tactic| repeat' first | (with_reducible first | exact LJ | exact JG | exact JW | exact JE | exact KZ | exact G6 | exact My | exact Ii | exact Gj _ | exact Mn | exact JS | exact ME _ | exact IT | exact LX | exact JO _ | exact NQ | exact Hm | exact Ly | exact Nq | exact JX | exact Mg | exact xc | exact LK | exact MA | exact HR (t:=ye) | exact JI | exact GF | exact JB _ | exact lA _ | exact ie _ | exact K6 _ | exact LI | exact fF | exact G1 | exact KK | apply SE.t | apply SF.e | apply SF.t | apply SQ.fl | apply STr.e | apply Kv | apply LS | apply LU | apply K0 | apply KL | apply Mu | apply KQ | apply HU | apply NO | apply LA | apply K7 | apply Jw | apply IZ | apply Ke | apply MI | apply LQ | apply LM | apply Kc | apply Kr | apply FO | apply MB | apply Ma | apply M5 | apply LO | apply Jt | apply L5 | apply Br | apply MF | apply Nu | apply KG | apply L4 | apply L7 | apply Kz | apply Np | apply vN | apply JR | apply JM | apply mF | apply JT | apply Ec | apply HK | apply bu | apply pN | apply II | apply SE.p | apply SPk.q | apply SI.p) | exact s_c rfl | exact s_g | apply jH | exact fun _ _ h=>qz h | refine' u3 (E:=E0) ?_ ?_ | refine' Kj (Ns:=NS) ?_ ?_ ?_ | refine' Ky (Ns:=NS) ?_ ?_ ?_ | exact List.Mem.head _ | exact List.Mem.tail _ (List.Mem.head _) | decide +kernel)
abbrev kr (K:W.Frag):Sp:=lU K NS "parts" 1 F8
abbrev sL (K:W.Frag):Sp:=cS K 2 jK
def AC (K:W.Frag):{ t:TS // SS K t jk }:=⟨_,by delta jk;and_intros⟩
abbrev ul (K:W.Frag):Sp:=cS K 2 lc
def BI (K:W.Frag):{ t:TS // SS K t kE }:=⟨_,by delta kE;and_intros⟩
abbrev xp (K:W.Frag):Sp:=cS K 1 rQ
def DI (K:W.Frag):{ t:TS // SS K t pG }:=⟨_,by delta pG;and_intros⟩
abbrev mB (K:W.Frag):Sp:=cS K 2 jb
def u7 (K:W.Frag):{ t:TS // SS K t gO }:=⟨_,by delta gO dQ dP;and_intros⟩
abbrev lS (K:W.Frag):Sp:=cS K 1 hV
def tE (K:W.Frag):{ t:TS // SS K t fX }:=⟨_,by delta fX;and_intros⟩
abbrev nY (K:W.Frag):Sp:=cS K 2 ke
def wL (K:W.Frag):{ t:TS // SS K t iK }:=⟨_,by delta iK b8 cZ;and_intros⟩
abbrev pL (K:W.Frag):Sp:=cS K 2 kN
def yV (K:W.Frag):{ t:TS // SS K t jZ }:=⟨_,by delta jZ;and_intros⟩
abbrev xz (K:W.Frag):Sp:=cS K 1 sg
def El (K:W.Frag):{ t:TS // SS K t qq }:=⟨_,by delta qq fw;and_intros⟩
abbrev jq (K:W.Frag):Sp:=cS K 1 fB
def oQ (K:W.Frag):{ t:TS // SS K t eo }:=⟨_,by delta eo;and_intros⟩
abbrev lM (K:W.Frag):Sp:=cS K 1 fi
def tI (K:W.Frag):{ t:TS // SS K t gw }:=⟨_,by delta gw eP;and_intros⟩
abbrev lL (K:W.Frag):Sp:=lU K NS "parts" 4 uG
abbrev jX (K:W.Frag):Sp:=lU K NS "parts" 1 kF
abbrev lK (K:W.Frag):Sp:=lU K NS "parts" 2 yc
abbrev kB (K:W.Frag):Sp:=cS K 3 gM
def qZ (K:W.Frag):{ t:TS // SS K t fv }:=⟨_,by delta fv;and_intros⟩
abbrev qp (K:W.Frag):Sp:=cS K 1 kW
def yZ (K:W.Frag):{ t:TS // SS K t jN }:=⟨_,by delta jN bZ;and_intros⟩
abbrev zF (K:W.Frag):Sp:=cS K 3 uz
def Gs (K:W.Frag):{ t:TS // SS K t ub }:=⟨_,by delta ub;and_intros⟩
abbrev oq (K:W.Frag):Sp:=cS K 1 kc
def wq (K:W.Frag):{ t:TS // SS K t iw }:=⟨_,by delta iw b7;and_intros⟩
abbrev xZ (K:W.Frag):Sp:=cS K 2 kA
def DU (K:W.Frag):{ t:TS // SS K t ku }:=⟨_,by delta ku;and_intros⟩
abbrev oE (K:W.Frag):Sp:=cS K 2 kf
def wB (K:W.Frag):{ t:TS // SS K t iL }:=⟨_,by delta iL;and_intros⟩
abbrev oB (K:W.Frag):Sp:=cS K 3 kd
def wz (K:W.Frag):{ t:TS // SS K t iE }:=⟨_,by delta iE;and_intros⟩
abbrev jM (K:W.Frag):Sp:=lU K NS "parts" 1 gk
abbrev xM (K:W.Frag):Sp:=cS K 2 rn
def DD (K:W.Frag):{ t:TS // SS K t pR }:=⟨_,by delta pR;and_intros⟩
abbrev Dw (K:W.Frag):Sp:=cS K 2 yT
def Im (K:W.Frag):{ t:TS // SS K t yK }:=⟨_,by delta yK;and_intros⟩
abbrev u4 (K:W.Frag):Sp:=cS K 3 oY
def Cf (K:W.Frag):{ t:TS // SS K t nL }:=⟨_,by delta nL;and_intros⟩
abbrev sU (K:W.Frag):Sp:=cS K 2 nr
def Ax (K:W.Frag):{ t:TS // SS K t k9 }:=⟨_,by delta k9;and_intros⟩
abbrev CL (K:W.Frag):Sp:=cS K 2 yI
def IL (K:W.Frag):{ t:TS // SS K t yP }:=⟨_,by delta yP;and_intros⟩
abbrev nt (K:W.Frag):Sp:=cS K 2 jA
def vI (K:W.Frag):{ t:TS // SS K t gS }:=⟨_,by delta gS fm dD;and_intros⟩
abbrev mj (K:W.Frag):Sp:=cS K 2 ju
def vT (K:W.Frag):{ t:TS // SS K t gU }:=⟨_,by delta gU ft dG;and_intros⟩
abbrev zD (K:W.Frag):Sp:=cS K 1 Ah
def Gk (K:W.Frag):{ t:TS // SS K t kP }:=⟨_,by delta kP;and_intros⟩
abbrev p8 (K:W.Frag):Sp:=cS K 1 pU
def zd (K:W.Frag):{ t:TS // SS K t dm }:=⟨_,by delta dm;and_intros⟩
abbrev ij (K:W.Frag):Sp:=cS K 2 cW
def nU (K:W.Frag):{ t:TS // SS K t b9 }:=⟨_,by delta b9;and_intros⟩
abbrev il (K:W.Frag):Sp:=cS K 2 eX
def nQ (K:W.Frag):{ t:TS // SS K t dw }:=⟨_,by delta dw;and_intros⟩
abbrev jG (K:W.Frag):Sp:=cS K 2 fG
def oO (K:W.Frag):{ t:TS // SS K t d8 }:=⟨_,by delta d8 cV;and_intros⟩
abbrev jc (K:W.Frag):Sp:=cS K 2 dq
def o9 (K:W.Frag):{ t:TS // SS K t cJ }:=⟨_,by delta cJ bB;and_intros⟩
abbrev lR (K:W.Frag):Sp:=cS K 2 lP
def tP (K:W.Frag):{ t:TS // SS K t eL }:=⟨_,by delta eL di;and_intros⟩
abbrev lD (K:W.Frag):Sp:=cS K 2 lZ
def tX (K:W.Frag):{ t:TS // SS K t eF }:=⟨_,by delta eF c9;and_intros⟩
abbrev lJ (K:W.Frag):Sp:=cS K 1 lO
def tS (K:W.Frag):{ t:TS // SS K t ez }:=⟨_,by delta ez;and_intros⟩
abbrev mP (K:W.Frag):Sp:=cS K 3 mS
def uJ (K:W.Frag):{ t:TS // SS K t e9 }:=⟨_,by delta e9 dL bU;and_intros⟩
abbrev re (K:W.Frag):Sp:=spX K 3 m6
def xO (K:W.Frag) (E:XK):{ t:TS // SX K E t gi }:=⟨_,F3 (Jm (Kd ((u3 (E:=E0) (bu (lA 1) fF) (jH (fun _ _ h=>qz h))).p)) (An (v:=(.str (Str.ofString "by a form of one cell a picture never ends")))) (CU)) (F3 (LZ (IZ (u3 (E:=E0) (bu (lA 0) (bu (lA 1) (bu (lA 2) fF))) (jH (jH (jH (fun _ _ h=>qz h))))) (Gj 3))) (HG (Jm (vN (SE.p (Br (JO true) ((Br Ly (ie 3) ((Ec xc ((s_c rfl).p)).p)).p) ((mF fF).p)))) (An (v:=(.str (Str.ofString "the picture has more cores than that")))) (CU))))⟩
theorem Eg {K:W.Frag} {vs:List V} {H:Hp} {Q:VK} {E:XK} (h:re K vs H Q E):(xO K E).1 { nx:=fun _ H'=>Q .non H',rt:=Q } (aV ["picture", "form", "most", "layers"] vs) H:=Kl (xO K E).2 rfl h
abbrev AY (K:W.Frag):Sp:=cS K 3 zJ
def Fs (K:W.Frag):{ t:TS // SS K t qN }:=⟨_,by delta qN;and_intros⟩
abbrev zG (K:W.Frag):Sp:=cS K 3 AW
def GH (K:W.Frag):{ t:TS // SS K t iH }:=⟨_,by delta iH;and_intros⟩
abbrev yd (K:W.Frag):Sp:=cS K 1 G9
def Lh (K:W.Frag):{ t:TS // SS K t A6 }:=⟨_,by delta A6;and_intros⟩
end P
namespace P
open PySem L2 M Rw
def wG (p:Int × Int):List Int:=[p.1,p.2]
theorem zr:∀ r:R,keys (r.map prD) = some (r.map wG)
 | []=>rfl
 | p :: r=>by
  rw [Px,keys,zr r]
  rfl
theorem GG:∀ {r:R},r ≠ [] -> bW (r.map prD) = none
 | [],h=>absurd rfl h
 | p :: r,_=>rfl
def CS:List Int -> Int × Int
 | [a,b]=>(a,b)
 | _=>(0,0)
def oz (ps:R):R:=(jC (ps.map wG)).map CS
theorem ve (ps:R):(oz ps).map wG = jC (ps.map wG):=by
 unfold oz
 rw [PP]
 have h:∀ k ∈ jC (ps.map wG),(wG ∘ CS) k = k:=fun k hk=>by
  have:=(jf _).mem_iff.mp hk
  obtain ⟨p,_,rfl⟩:=Pt.mp this
  rfl
 rw [List.map_congr_left h,List.map_id']
theorem i9 (ps:R):(oz ps).Perm ps:=by
 have h:=(jf (ps.map wG)).map CS
 rw [PP] at h
 have e:(CS ∘ wG) = id:=rfl
 rw [e,List.map_id] at h
 exact h
theorem Fk (ps:R):(oz ps).Pairwise fun p q=>p.1 <= q.1:=by
 have h:=vC (ps.map wG)
 rw [<- ve,Qs] at h
 refine h.imp fun {p q} e=>?_
 have e':(if q.1 = p.1 then HT.cT [q.2] [p.2] else decide (q.1 < p.1)) = false:=e
 by_cases hq:q.1 = p.1
 ·lia
 ·rw [Pc hq] at e'
  have:=Qy e'
  lia
theorem z8 (ps:R) (h:ps.length < 30000):iB [Bz ps] = some ((oz ps).map prD):=by
 show (if (ps.map prD).length < 30000 then _ else _) = _
 rw [Pb (by rw [Ph];exact h)]
 by_cases e:ps = []
 ·subst e
  have e0:oz [] = []:=Q0.mp (by rw [(i9 []).length_eq];rfl)
  have e1:kv [] = []:=Q0.mp (by rw [(k6 []).length_eq];rfl)
  show some ((kv []).map D.int) = _
  rw [e0,e1]
  rfl
 ·rw [GG e]
  dsimp only
  rw [zr]
  have:(oz ps).map prD = (jC (ps.map wG)).map wp:=by
   rw [<- ve,PP]
   rfl
  rw [this]
  rfl
def rN (p:Int × Int):Bool:=decide (p.1 <= p.2)
def lF (ps:R):R:=oj (oz (ps.filter rN))
theorem fN (ps:R):IsRow ps (lF ps):=by
 refine GC ?_ (Fk _) fun x=>?_
 ·intro p hp
  have:=(i9 _).mem_iff.mp hp
  simpa [rN] using (PL.mp this).2
 ·rw [GS (i9 _)]
  exact mem_filter ps x
theorem E4 (acc:R) (p:Int × Int):(step acc p).length <= acc.length + 1:=by
 rcases Qu acc with rfl | ⟨t,q,rfl⟩
 ·simp [Rw.step]
 ·rw [Qz,rO]
  split <;> simp
theorem sw:∀ (l acc:R),(l.foldl step acc).length <= acc.length + l.length
 | [],acc=>by simp
 | p :: l,acc=>by
  have h1:=sw l (step acc p)
  have h2:=E4 acc p
  rw [List.foldl_cons,Pw]
  lia
theorem xu (ps:R):(lF ps).length <= ps.length:=by
 have h1:=sw (oz (ps.filter rN)) []
 have h2:=(i9 (ps.filter rN)).length_eq
 have h3:=Qv rN ps
 unfold lF oj
 simp only [RS] at h1
 lia
theorem aZ {n:Nat} (h:n <= 100000):n <= LIM:=PR h (by rw [gJ];decide)
theorem nK {n:Nat} (h:n <= 100000):n < LIM:=QG h (by rw [gJ];decide)
theorem Fm (a b:Int):D.tup [.int a,.int b] = prD (a,b):=rfl
theorem xJ:∀ ps:R,ps.filterMap (fun p=>if p.1 <= p.2 then some (prD p) else none) = (ps.filter rN).map prD
 | []=>rfl
 | p :: t=>by
  rw [QS,Sa,xJ t]
  by_cases h:p.1 <= p.2
  ·simp [rN,h]
  ·simp [rN,h]
theorem DE (ps:R):bV (bj (au (ah 0) (au (ah 1) bh))) (xB (xOp dLe (ai 0) (ai 1))) (aL (af (aq 0) (af (aq 1) ao))) [.un,.un] (ps.map prD) = some ((ps.filter rN).map prD):=by
 rw [i6 prD (fun p=>if p.1 <= p.2 then some (prD p) else none) ps,xJ]
 intro p _
 by_cases h:p.1 <= p.2 <;> simp [eY,h]
theorem B8 (pre:R) (p:Int × Int):oj (pre ++ [p]) = step (oj pre) p:=by
 unfold oj
 rw [List.foldl_append]
 rfl
theorem FA (pre:R):(oj pre).length <= pre.length:=by
 have:=sw pre []
 unfold oj
 simpa using this
theorem iR {α:Type} {l:List α} {i:Nat} {x:α} (h:l[i]? = some x):l.drop i = x :: l.drop (i + 1):=by
 obtain ⟨h1,rfl⟩:=PF.mp h
 exact Rr h1
theorem Jb {r:R} {i:Nat} {p:Int × Int} (h:r[i]? = some p):atI (r.map prD) (i:Int) = some (prD p):=jw (by rw [PN,h];rfl)
theorem Ew (p q:Int × Int) (s t:R):d7 (p :: s) (q :: t) = (if max p.1 q.1 <= min p.2 q.2 then [(max p.1 q.1,min p.2 q.2)] else []) ++ (if p.2 < q.2 then d7 s (q :: t) else d7 (p :: s) t):=by rw [d7]
theorem mx (a b:Int):(if b > a then b else a) = max a b:=by split <;> lia
theorem mn (a b:Int):(if b < a then b else a) = min a b:=by split <;> lia
def chg (r:R):List Int:=r.map (·.1) ++ r.map (·.2 + 1)
theorem yO (ns:List Int) (h:ns.length < 30000):iB [.lst (ns.map D.int)] = some ((kv ns).map D.int):=by
 show (if (ns.map D.int).length < 30000 then _ else _) = _
 rw [Pb (by rw [Ph];exact h),jF]
theorem xD:∀ (n k:Nat),gv k n = (List.range' k n).map fun k:Nat=>D.int (2 * (k:Int))
 | 0,_=>rfl
 | n + 1,k=>by rw [gv,xD n (k + 1),List.range'_succ,Px]
theorem pj:∀ (n:Nat) (c:List Int),c.length = 2 * n -> ∀ k,k < n -> ∃ a b,c[2 * k]? = some a /\ c[2 * k + 1]? = some b /\ (kX c)[k]? = some (a,b - 1)
 | 0,_,_,k,h=>by lia
 | n + 1,c,h,k,hk=>by
  match c,h with
  | a :: b :: t,h=>
   cases k with
   | zero=>exact ⟨a,b,rfl,rfl,rfl⟩
   | succ k=>
    obtain ⟨x,y,h1,h2,h3⟩:=pj n t (by simp at h;lia) k (by lia)
    refine ⟨x,y,?_,?_,?_⟩
    ·rw [show 2 * (k + 1) = 2 * k + 1 + 1 by lia];exact h1
    ·rw [show 2 * (k + 1) + 1 = 2 * k + 1 + 1 + 1 by lia];exact h2
    ·rw [kX];exact h3
theorem o4:∀ (n:Nat) (c:List Int),c.length = 2 * n -> (kX c).length = n
 | 0,c,h=>by
  have:c = []:=Q0.mp (by lia)
  subst this;rfl
 | n + 1,c,h=>by
  match c,h with
  | a :: b :: t,h=>rw [kX,Pw,o4 n t (by simp at h;lia)]
theorem Bl (n:Nat) (c:List Int) (h:c.length = 2 * n):bV (ah 0) cU (aL (af (xOp dIx (ai 1) (ai 0)) (af (xOp gD (xOp dIx (ai 1) (xOp b5 (ai 0) (xC (.int 1)))) (xC (.int 1))) ao))) [.un,.sh (.lst (c.map D.int))] (gv 0 n) = some ((kX c).map prD):=by
 rw [xD,bp (fun k:Nat=>D.int (2 * (k:Int))) (fun k=>match (kX c)[k]? with | some p=>prD p | none=>.non) (List.range' 0 n)]
 ·congr 1
  apply Rx
  intro k
  rw [PN,PN]
  by_cases hk:k < n
  ·rw [Qi (by rw [List.length_range'];exact hk),List.getElem_range']
   obtain ⟨a,b,_,_,h3⟩:=pj n c h k hk
   simp [h3]
  ·rw [RQ (by rw [List.length_range'];lia),RQ (by rw [o4 n c h];lia)]
   rfl
 ·intro k hk
  have hk':k < n:=by simpa using (List.mem_range'.mp hk)
  obtain ⟨a,b,h1,h2,h3⟩:=pj n c h k hk'
  have e1:atI (c.map D.int) (2 * (k:Int)) = some (.int a):=by
   have:=jw (l:=c.map D.int) (j:=2 * k) (x:=.int a) (by rw [PN,h1];rfl)
   rw [<- this];congr 1
  have e2:atI (c.map D.int) (2 * (k:Int) + 1) = some (.int b):=by
   have:=jw (l:=c.map D.int) (j:=2 * k + 1) (x:=.int b) (by rw [PN,h2];rfl)
   rw [<- this];congr 1
  simp [eY,e1,e2,h3]
def uS (r t:R):R:=lF (kX (kv (chg (r ++ t))))
theorem Hn (r:R):(chg r).length = 2 * r.length:=by unfold chg;simp;lia
def rT (r t:R):R:=uS r (d7 r t)
theorem rP {r t:R} (cr:bE r) (ct:bE t):Ld r t (d7 r t):=⟨BZ _ r t rfl cr ct,fun x=>FW _ r t rfl cr ct x⟩
theorem GE (n:Nat):fc 0 n = (List.range n).map fun k:Nat=>D.int (k:Int):=by
 apply Rx
 intro i
 cases q:(fc 0 n)[i]? with
 | none=>
  have:=Rz.mp q
  rw [rE] at this
  rw [RQ (by rw [Ph,RT];exact this)]
 | some d=>
  obtain ⟨h1,rfl⟩:=rG n 0 i d q
  rw [PN,List.getElem?_range h1]
  simp
theorem Cv {α β:Type} (f:α -> β) (xs:List α) (lo hi:Option Int):j8 (xs.map f) lo hi = (j8 xs lo hi).map f:=by
 unfold j8
 rw [Ph,<- List.map_drop,<- List.map_take]
theorem aX {m n:XS} {ρ ρ':M.Env} (h:m ρ = some (.nx ρ')):aQ m n ρ = n ρ':=by unfold aQ;rw [h]
theorem ml {n:Nat} {x:XS} {ds:List D} {d:D} (h:x (ds.map .sh ++ List.replicate (n - ds.length) .un) = some (.rt d)):(fnO n x ds).map O.d = some d:=by unfold fnO;rw [h];simp
theorem De {n d:Nat} {v:Int} (h:0 <= v):HT.sIx n d (some v) = min v.toNat n:=by
 show (if v < 0 then _ else _) = _
 rw [Pc (by lia)]
theorem zz (s0:Sl) (acc:R) (a b:Int) (h:acc.length <= 30000):fw [s0,owl (acc.map prD),.sh (.int a),.sh (.int b)] = some (.nx [s0,owl ((step acc (a,b)).map prD),.sh (.int a),.sh (.int b)]):=by
 rcases Qu acc with rfl | ⟨t,q,rfl⟩
 ·simp [fw,Rw.step,prD]
 ·rw [Qz] at *
  rw [rO]
  have hl:t.length + 1 <= 30000:=by simpa using h
  have hlim:t.length + 1 < LIM:=nK (by lia)
  have at1:atI (t.map prD ++ [prD q]) (-1) = some (prD q):=kD _ _
  by_cases hc:a <= q.2 + 1
  ·simp [fw,at1,hc,wg,Fm]
  ·simp [fw,at1,hc,hlim,Fm]
theorem mh (ps:R) (h:ps.length < 30000):kt [Bz ps] = some (cu (lF ps)):=by
 have hf:=Qv rN ps
 have hs:=(i9 (ps.filter rN)).length_eq
 have key:∃ ρ',iq (bj (au (ah 2) (au (ah 3) bh))) fw ((oz (ps.filter rN)).map prD) [.sh (Bz ps),.ow (.lst []),.un,.un] = some (.nx ρ') /\ ∃ va vb,ρ' = [.sh (Bz ps),owl ((lF ps).map prD),va,vb]:=by
  refine gF prD (fun pre ρ=>∃ va vb,ρ = [.sh (Bz ps),owl ((oj pre).map prD),va,vb]) _ _ ⟨_,_,rfl⟩ ?_
  rintro pre p post _ e ⟨va,vb,rfl⟩
  have hp:pre.length <= 30000:=by
   have:=PQ List.length e
   rw [Ps] at this
   lia
  refine ⟨_,_,rfl,.inl (zz _ (oj pre) p.1 p.2 (by have:=FA pre;lia)),.sh (.int p.1),.sh (.int p.2),by rw [B8]⟩
 obtain ⟨ρ',k1,va,vb,rfl⟩:=key
 have hc:=DE ps
 have hb:=z8 (ps.filter rN) (by lia)
 have hl:ps.length <= LIM:=aZ (by lia)
 simp [kt,sg,fnO,qq,hl,hc,hb,k1]
abbrev Tri:=Int × Int × Int
abbrev dl (t:Tri):D:=.tup [.int t.1,.int t.2.1,.int t.2.2]
abbrev Pic:=List (Int × R)
abbrev pyD (q:Int × R):D:=.tup [.int q.1,cu q.2]
abbrev aB (p:Pic):D:=.tup (p.map pyD)
def kq (ts:List Tri) (x y:Int):Prop:=∃ t ∈ ts,t.1 = y /\ t.2.1 <= x /\ x <= t.2.2
def bg (p:Pic) (x y:Int):Prop:=∃ q ∈ p,q.1 = y /\ Mem q.2 x
def aE (p:Pic):Prop:=(∀ q ∈ p,bE q.2 /\ q.2 ≠ []) /\ p.Pairwise fun a b=>a.1 < b.1
theorem dg (x y:Int):¬ bg [] x y:=by rintro ⟨_,h,_⟩;cases h
theorem bO (q:Int × R) (p:Pic) (x y:Int):bg (q :: p) x y ↔ (q.1 = y /\ Mem q.2 x) \/ bg p x y:=by
 constructor
 ·rintro ⟨s,h,e⟩
  rcases Pq.mp h with rfl | h
  ·exact .inl e
  ·exact .inr ⟨s,h,e⟩
 ·rintro (e | ⟨s,h,e⟩)
  ·exact ⟨q,Pm,e⟩
  ·exact ⟨s,Po _ h,e⟩
theorem mG (p q:Pic) (x y:Int):bg (p ++ q) x y ↔ bg p x y \/ bg q x y:=by
 constructor
 ·rintro ⟨s,h,e⟩
  rcases Pu.mp h with h | h
  ·exact .inl ⟨s,h,e⟩
  ·exact .inr ⟨s,h,e⟩
 ·rintro (⟨s,h,e⟩ | ⟨s,h,e⟩)
  ·exact ⟨s,Py _ h,e⟩
  ·exact ⟨s,Pr _ h,e⟩
theorem q9 (t:Tri) (ts:List Tri) (x y:Int):kq (t :: ts) x y ↔ (t.1 = y /\ t.2.1 <= x /\ x <= t.2.2) \/ kq ts x y:=by
 constructor
 ·rintro ⟨s,h,e⟩
  rcases Pq.mp h with rfl | h
  ·exact .inl e
  ·exact .inr ⟨s,h,e⟩
 ·rintro (e | ⟨s,h,e⟩)
  ·exact ⟨t,Pm,e⟩
  ·exact ⟨s,Po _ h,e⟩
theorem mL (a b:List Tri) (x y:Int):kq (a ++ b) x y ↔ kq a x y \/ kq b x y:=by
 constructor
 ·rintro ⟨s,h,e⟩
  rcases Pu.mp h with h | h
  ·exact .inl ⟨s,h,e⟩
  ·exact .inr ⟨s,h,e⟩
 ·rintro (⟨s,h,e⟩ | ⟨s,h,e⟩)
  ·exact ⟨s,Py _ h,e⟩
  ·exact ⟨s,Pr _ h,e⟩
theorem D5 {a b:List Tri} (h:a.Perm b) (x y:Int):kq a x y ↔ kq b x y:=
 ⟨fun ⟨q,m,e⟩=>⟨q,h.mem_iff.mp m,e⟩,fun ⟨q,m,e⟩=>⟨q,h.mem_iff.mpr m,e⟩⟩
theorem oJ:aE []:=⟨fun _ h=>(by cases h),.nil⟩
theorem pcanon_cons {q:Int × R} {p:Pic}:aE (q :: p) ↔ (bE q.2 /\ q.2 ≠ []) /\ (∀ s ∈ p,q.1 < s.1) /\ aE p:=by
 constructor
 ·rintro ⟨h1,h2⟩
  have h3:=Re.mp h2
  exact ⟨h1 q Pm,h3.1,fun s hs=>h1 s (Po _ hs),h3.2⟩
 ·rintro ⟨h1,h2,h3,h4⟩
  refine ⟨fun s hs=>?_,Re.mpr ⟨h2,h4⟩⟩
  rcases Pq.mp hs with rfl | hs
  ·exact h1
  ·exact h3 s hs
theorem jR {r:R} (c:bE r) (h:r ≠ []):∃ x,Mem r x:=by
 cases r with
 | nil=>exact absurd rfl h
 | cons p r=>exact ⟨p.1,(mem_cons ..).mpr (.inl ⟨PC _,(canon_cons.mp c).1⟩)⟩
theorem ua:∀ {p q:Pic},aE p -> aE q -> (∀ x y,bg p x y ↔ bg q x y) -> p = q
 | [],[],_,_,_=>rfl
 | [],b :: q,_,cq,h=>by
  obtain ⟨⟨c1,c2⟩,_⟩:=pcanon_cons.mp cq
  obtain ⟨x,hx⟩:=jR c1 c2
  exact (dg _ _ ((h x b.1).mpr ((bO ..).mpr (.inl ⟨rfl,hx⟩)))).elim
 | a :: p,[],cp,_,h=>by
  obtain ⟨⟨c1,c2⟩,_⟩:=pcanon_cons.mp cp
  obtain ⟨x,hx⟩:=jR c1 c2
  exact (dg _ _ ((h x a.1).mp ((bO ..).mpr (.inl ⟨rfl,hx⟩)))).elim
 | a :: p,b :: q,cp,cq,h=>by
  obtain ⟨⟨ca,na⟩,la,cp'⟩:=pcanon_cons.mp cp
  obtain ⟨⟨cb,nb⟩,lb,cq'⟩:=pcanon_cons.mp cq
  obtain ⟨xa,ha⟩:=jR ca na
  obtain ⟨xb,hb⟩:=jR cb nb
  have ey:a.1 = b.1:=by
   have h1:b.1 <= a.1:=by
    rcases (bO ..).mp ((h xa a.1).mp ((bO ..).mpr (.inl ⟨rfl,ha⟩))) with ⟨e,_⟩ | ⟨s,hs,e,_⟩
    ·lia
    ·have:=lb s hs;lia
   have h2:a.1 <= b.1:=by
    rcases (bO ..).mp ((h xb b.1).mpr ((bO ..).mpr (.inl ⟨rfl,hb⟩))) with ⟨e,_⟩ | ⟨s,hs,e,_⟩
    ·lia
    ·have:=la s hs;lia
   lia
  have er:a.2 = b.2:=B0 ca cb fun x=>by
   have hx:=h x a.1
   rw [bO,bO] at hx
   have n1:¬ bg p x a.1:=by rintro ⟨s,hs,e,_⟩;have:=la s hs;lia
   have n2:¬ bg q x a.1:=by rintro ⟨s,hs,e,_⟩;have:=lb s hs;lia
   constructor
   ·intro hm
    rcases hx.mp (.inl ⟨rfl,hm⟩) with z | z
    ·exact z.2
    ·exact absurd z n2
   ·intro hm
    rcases hx.mpr (.inl ⟨ey.symm,hm⟩) with z | z
    ·exact z.2
    ·exact absurd z n1
  have eab:a = b:=by
   obtain ⟨a1,a2⟩:=a
   obtain ⟨b1,b2⟩:=b
   simp only at ey er
   rw [ey,er]
  subst eab
  have ih:p = q:=ua cp' cq' fun x y=>by
   have hx:=h x y
   rw [bO,bO] at hx
   constructor
   ·intro hm
    rcases hx.mp (.inr hm) with z | z
    ·obtain ⟨s,hs,e,_⟩:=hm;have:=la s hs;lia
    ·exact z
   ·intro hm
    rcases hx.mpr (.inr hm) with z | z
    ·obtain ⟨s,hs,e,_⟩:=hm;have:=lb s hs;lia
    ·exact z
  rw [ih]
def wm (t:Tri):List Int:=[t.1,t.2.1,t.2.2]
def yg:List Int -> Tri
 | [a,b,c]=>(a,b,c)
 | _=>(0,0,0)
theorem xm:∀ r:List Tri,keys (r.map dl) = some (r.map wm)
 | []=>rfl
 | p :: r=>by rw [Px,keys,xm r];rfl
theorem Eh:∀ {r:List Tri},r ≠ [] -> bW (r.map dl) = none
 | [],h=>absurd rfl h
 | _ :: _,_=>rfl
def dE (ts:List Tri):List Tri:=(jC (ts.map wm)).map yg
theorem uN (ts:List Tri):(dE ts).map wm = jC (ts.map wm):=by
 unfold dE
 rw [PP]
 have h:∀ k ∈ jC (ts.map wm),(wm ∘ yg) k = k:=fun k hk=>by
  have:=(jf _).mem_iff.mp hk
  obtain ⟨p,_,rfl⟩:=Pt.mp this
  rfl
 rw [List.map_congr_left h,List.map_id']
theorem fy (ts:List Tri):(dE ts).Perm ts:=by
 have h:=(jf (ts.map wm)).map yg
 rw [PP] at h
 have e:(yg ∘ wm) = id:=rfl
 rw [e,List.map_id] at h
 exact h
theorem zZ (ts:List Tri):(dE ts).Pairwise fun p q=>p.1 <= q.1:=by
 have h:=vC (ts.map wm)
 rw [<- uN,Qs] at h
 refine h.imp fun {p q} e=>?_
 have e':(if q.1 = p.1 then HT.cT [q.2.1,q.2.2] [p.2.1,p.2.2] else decide (q.1 < p.1)) = false:=e
 by_cases hq:q.1 = p.1
 ·lia
 ·rw [Pc hq] at e'
  have:=Qy e'
  lia
theorem pE (ts:List Tri) (h:ts.length < 30000):iB [.lst (ts.map dl)] = some ((dE ts).map dl):=by
 show (if (ts.map dl).length < 30000 then _ else _) = _
 rw [Pb (by rw [Ph];exact h)]
 by_cases e:ts = []
 ·subst e
  have e0:dE [] = []:=Q0.mp (by rw [(fy []).length_eq];rfl)
  have e1:kv [] = []:=Q0.mp (by rw [(k6 []).length_eq];rfl)
  show some ((kv []).map D.int) = _
  rw [e0,e1]
  rfl
 ·rw [Eh e]
  dsimp only
  rw [xm]
  have:(dE ts).map dl = (jC (ts.map wm)).map wp:=by
   rw [<- uN,PP]
   rfl
  rw [this]
  rfl
def bQ (t:Tri):Bool:=decide (t.2.1 <= t.2.2)
theorem AA (ts:List Tri) (x y:Int):kq (ts.filter bQ) x y ↔ kq ts x y:=by
 constructor
 ·rintro ⟨q,m,e⟩
  exact ⟨q,(PL.mp m).1,e⟩
 ·rintro ⟨q,m,e⟩
  exact ⟨q,PL.mpr ⟨m,by simp [bQ];lia⟩,e⟩
theorem vS:∀ ps:List Tri,ps.filterMap (fun p=>if p.2.1 <= p.2.2 then some (dl p) else none) = (ps.filter bQ).map dl
 | []=>rfl
 | p :: t=>by
  rw [QS,Sa,vS t]
  by_cases h:p.2.1 <= p.2.2
  ·simp [bQ,h]
  ·simp [bQ,h]
theorem Cm (ps:List Tri):bV (bj (au (ah 0) (au (ah 1) (au (ah 2) bh)))) (xB (xOp dLe (ai 1) (ai 2))) (aL (af (aq 0) (af (aq 1) (af (aq 2) ao)))) [.un,.un,.un] (ps.map dl) = some ((ps.filter bQ).map dl):=by
 rw [i6 dl (fun p=>if p.2.1 <= p.2.2 then some (dl p) else none) ps,vS]
 intro p _
 by_cases h:p.2.1 <= p.2.2 <;> simp [eY,h]
def lQ (gs:Pic) (t:Tri):Pic:=match gs.getLast? with
 | none=>[(t.1,[t.2])]
 | some g=>if g.1 = t.1 then gs.dropLast ++ [(g.1,g.2 ++ [t.2])] else gs ++ [(t.1,[t.2])]
theorem D3 (t:Tri):lQ [] t = [(t.1,[t.2])]:=rfl
theorem oH (gs:Pic) (g:Int × R) (t:Tri):lQ (gs ++ [g]) t = if g.1 = t.1 then gs ++ [(g.1,g.2 ++ [t.2])] else gs ++ [g] ++ [(t.1,[t.2])]:=by
 unfold lQ
 simp
def e8 (ts:List Tri):Pic:=ts.foldl lQ []
theorem u6 (pre:List Tri) (t:Tri):e8 (pre ++ [t]) = lQ (e8 pre) t:=by
 unfold e8
 rw [List.foldl_append]
 rfl
structure GOk (gs:Pic) (ts:List Tri):Prop where
 ne:∀ g ∈ gs,g.2 ≠ [] /\ Ok g.2
 up:gs.Pairwise fun a b=>a.1 < b.1
 mem:∀ x y,bg gs x y ↔ kq ts x y
 le:∀ g ∈ gs,∃ t ∈ ts,g.1 = t.1
 len:(gs.map fun g=>g.2.length).sum = ts.length
theorem G4 {gs:Pic} {ts:List Tri} {t:Tri} (o:GOk gs ts) (ht:t.2.1 <= t.2.2) (hb:∀ s ∈ ts,s.1 <= t.1):GOk (lQ gs t) (ts ++ [t]):=by
 have tm:∀ x y,kq (ts ++ [t]) x y ↔ kq ts x y \/ (t.1 = y /\ t.2.1 <= x /\ x <= t.2.2):=fun x y=>by
  rw [mL,q9]
  constructor
  ·rintro (h | h | ⟨_,h,_⟩)
   ·exact .inl h
   ·exact .inr h
   ·cases h
  ·rintro (h | h)
   ·exact .inl h
   ·exact .inr (.inl h)
 have okt:Ok [t.2]:=fun p hp=>by rw [Pi.mp hp];exact ht
 rcases Qu gs with rfl | ⟨gs0,g,rfl⟩
 ·rw [D3]
  have e0:ts = []:=Q0.mp (by have:=o.len;simpa using this.symm)
  subst e0
  refine ⟨fun g hg=>?_,RK _ _,fun x y=>?_,fun g hg=>⟨t,by simp,by rw [Pi.mp hg]⟩,by simp⟩
  ·rw [Pi.mp hg];exact ⟨by simp,okt⟩
  ·rw [tm,bO,mem_cons]
   constructor
   ·rintro (⟨h1,h2 | h2⟩ | h)
    ·exact .inr ⟨h1,h2⟩
    ·exact (bz _ h2).elim
    ·exact (dg _ _ h).elim
   ·rintro (⟨_,h,_⟩ | h)
    ·cases h
    ·exact .inl ⟨h.1,.inl h.2⟩
 ·rw [Qz] at *
  have up:=Qc.mp o.up
  rw [oH]
  have glast:g.1 <= t.1:=by
   obtain ⟨s,hs,e⟩:=o.le g (by simp)
   have:=hb s hs
   lia
  by_cases h:g.1 = t.1
  ·rw [Pb h]
   refine ⟨fun q hq=>?_,?_,fun x y=>?_,fun q hq=>?_,?_⟩
   ·rcases Pu.mp hq with hq | hq
    ·exact o.ne q (Py _ hq)
    ·rw [Pi.mp hq]
     refine ⟨by simp,fun p hp=>?_⟩
     rcases Pu.mp hp with hp | hp
     ·exact (o.ne g (by simp)).2 p hp
     ·exact okt p hp
   ·refine Qc.mpr ⟨up.1,RK _ _,fun a ha b hb=>?_⟩
    rw [Pi.mp hb]
    exact up.2.2 a ha g (by simp)
   ·rw [tm,<- o.mem,mG,mG,bO,bO]
    dsimp only
    rw [mem_append,mem_cons]
    have n0:=dg x y
    have n1:=bz x
    constructor
    ·rintro (k | ⟨k1,k2 | k2 | k2⟩ | k)
     ·exact .inl (.inl k)
     ·exact .inl (.inr (.inl ⟨k1,k2⟩))
     ·exact .inr ⟨by lia,k2⟩
     ·exact absurd k2 n1
     ·exact absurd k n0
    ·rintro ((k | ⟨k1,k2⟩ | k) | ⟨k1,k2⟩)
     ·exact .inl k
     ·exact .inr (.inl ⟨k1,.inl k2⟩)
     ·exact absurd k n0
     ·exact .inr (.inl ⟨by lia,.inr (.inl k2)⟩)
   ·rcases Pu.mp hq with hq | hq
    ·obtain ⟨s,hs,e⟩:=o.le q (Py _ hq)
     exact ⟨s,Py _ hs,e⟩
    ·rw [Pi.mp hq]
     exact ⟨t,by simp,h⟩
   ·have:=o.len
    simp only [Qw,List.sum_append,Px,List.map_nil,Qx,List.sum_nil,Ps,Pw,RS] at this ⊢
    lia
  ·rw [Pc h]
   refine ⟨fun q hq=>?_,?_,fun x y=>?_,fun q hq=>?_,?_⟩
   ·rcases Pu.mp hq with hq | hq
    ·exact o.ne q hq
    ·rw [Pi.mp hq];exact ⟨by simp,okt⟩
   ·refine Qc.mpr ⟨o.up,RK _ _,fun a ha b hb'=>?_⟩
    rw [Pi.mp hb']
    rcases Pu.mp ha with ha | ha
    ·have:=up.2.2 a ha g (by simp)
     dsimp only
     lia
    ·rw [Pi.mp ha];dsimp only;lia
   ·rw [tm,<- o.mem,mG,bO]
    dsimp only
    rw [mem_cons]
    have n0:=dg x y
    have n1:=bz x
    constructor
    ·rintro (k | ⟨k1,k2 | k2⟩ | k)
     ·exact .inl k
     ·exact .inr ⟨k1,k2⟩
     ·exact absurd k2 n1
     ·exact absurd k n0
    ·rintro (k | ⟨k1,k2⟩)
     ·exact .inl k
     ·exact .inr (.inl ⟨k1,.inl k2⟩)
   ·rcases Pu.mp hq with hq | hq
    ·obtain ⟨s,hs,e⟩:=o.le q hq
     exact ⟨s,Py _ hs,e⟩
    ·rw [Pi.mp hq]
     exact ⟨t,by simp,rfl⟩
   ·have:=o.len
    simp only [Qw,List.sum_append,Px,List.map_nil,Qx,List.sum_nil,Ps,Pw,RS] at this ⊢
    lia
theorem zu:∀ (post pre:List Tri),(∀ t ∈ pre ++ post,t.2.1 <= t.2.2) -> (pre ++ post).Pairwise (fun p q=>p.1 <= q.1) -> GOk (e8 pre) pre -> GOk (e8 (pre ++ post)) (pre ++ post)
 | [],pre,_,_,o=>by rw [Qa];exact o
 | t :: post,pre,h1,h2,o=>by
  have e:pre ++ t :: post = (pre ++ [t]) ++ post:=by simp
  rw [e] at h1 h2 ⊢
  refine zu post (pre ++ [t]) h1 h2 ?_
  rw [u6]
  have h3:=Qc.mp h2
  have h4:=Qc.mp h3.1
  exact G4 o (h1 t (by simp)) fun s hs=>h4.2.2 s hs t (by simp)
theorem xF {ts:List Tri} (h1:∀ t ∈ ts,t.2.1 <= t.2.2) (h2:ts.Pairwise fun p q=>p.1 <= q.1):GOk (e8 ts) ts:=
 zu ts [] h1 h2 ⟨fun _ h=>(by cases h),.nil,fun x y=>⟨fun h=>(dg _ _ h).elim,fun ⟨_,h,_⟩=>by cases h⟩,fun _ h=>(by cases h),rfl⟩
def gZ (ts:List Tri):Pic:=(e8 (dE (ts.filter bQ))).map fun g=>(g.1,lF g.2)
theorem mD (ts:List Tri):GOk (e8 (dE (ts.filter bQ))) (dE (ts.filter bQ)):=xF (fun t ht=>by
 have:=(fy _).mem_iff.mp ht
 simpa [bQ] using (PL.mp this).2) (zZ _)
theorem FV {ps:R} (h:ps ≠ []) (o:Ok ps):lF ps ≠ []:=fun e=>by
 cases ps with
 | nil=>exact h rfl
 | cons p ps=>
  have:=((fN (p :: ps)).2 p.1).mpr ((mem_cons ..).mpr (.inl ⟨PC _,o p Pm⟩))
  rw [e] at this
  exact bz _ this
theorem fT (ts:List Tri):aE (gZ ts) /\ ∀ x y,bg (gZ ts) x y ↔ kq ts x y:=by
 have o:=mD ts
 refine ⟨⟨fun q hq=>?_,?_⟩,fun x y=>?_⟩
 ·obtain ⟨g,hg,rfl⟩:=Pt.mp hq
  obtain ⟨h1,h2⟩:=o.ne g hg
  exact ⟨(fN g.2).1,FV h1 h2⟩
 ·unfold gZ
  rw [Qs]
  exact o.up
 ·rw [<- AA ts,<- D5 (fy _),<- o.mem]
  constructor
  ·rintro ⟨q,hq,e,hm⟩
   obtain ⟨g,hg,rfl⟩:=Pt.mp hq
   exact ⟨g,hg,e,((fN g.2).2 x).mp hm⟩
  ·rintro ⟨g,hg,e,hm⟩
   exact ⟨_,Pt.mpr ⟨g,hg,rfl⟩,e,((fN g.2).2 x).mpr hm⟩
def ak (p:Pic):List Tri:=p.flatMap fun q=>q.2.map fun s=>(q.1,s)
theorem bM (q:Int × R) (p:Pic):ak (q :: p) = (q.2.map fun s=>(q.1,s)) ++ ak p:=rfl
theorem ko (p:Pic) (x y:Int):kq (ak p) x y ↔ bg p x y:=by
 constructor
 ·rintro ⟨t,ht,e,h⟩
  obtain ⟨q,hq,hs⟩:=RA.mp ht
  obtain ⟨s,hs2,rfl⟩:=Pt.mp hs
  exact ⟨q,hq,e,s,hs2,h⟩
 ·rintro ⟨q,hq,e,s,hs,h⟩
  exact ⟨(q.1,s),RA.mpr ⟨q,hq,Pt.mpr ⟨s,hs,rfl⟩⟩,e,h⟩
theorem Bf {ts:List Tri} {p:Pic} (c:aE p) (h:∀ x y,kq ts x y ↔ bg p x y):gZ ts = p:=
 ua (fT ts).1 c fun x y=>((fT ts).2 x y).trans (h x y)
mutual
theorem zo:∀ (n:Nat) (d:D),okD n d = true -> eqD d d = true
 | _,.non,_=>by simp [eqD]
 | _,.bl _,_=>by simp [eqD]
 | _,.int _,_=>by simp [eqD]
 | _,.str _,_=>by simp [eqD]
 | 0,.lst _,h=>by simp [okD] at h
 | n + 1,.lst l,h=>by rw [eqD];exact eqDs_refl n l (by simpa [okD] using h)
 | 0,.tup _,h=>by simp [okD] at h
 | n + 1,.tup l,h=>by rw [eqD];exact eqDs_refl n l (by simpa [okD] using h)
 | n,.ty _,h=>by cases n <;> simp [okD] at h
 | n,.scr _,h=>by cases n <;> simp [okD] at h
 | n,.ins _ _ _,h=>by cases n <;> simp [okD] at h
 | n,.dic _,h=>by cases n <;> simp [okD] at h
theorem eqDs_refl:∀ (n:Nat) (l:List D),okDs n l = true -> eqDs l l = true
 | _,[],_=>by simp [eqDs]
 | n,d :: l,h=>by
  rw [okDs,Qh] at h
  rw [eqDs,zo n d h.1,eqDs_refl n l h.2]
  rfl
end
theorem AJ {α:Type} {n:Nat} {f:α -> D}:∀ (l:List α),(∀ a ∈ l,okD n (f a) = true) -> okDs n (l.map f) = true
 | [],_=>by simp [okDs]
 | a :: l,h=>by rw [Px,okDs,h a Pm,AJ l fun b hb=>h b (Po _ hb)];rfl
theorem kH {d:D} (neg:Bool) (h:okD 50 d = true):dEq neg d d = some (.bl (!neg)):=by
 unfold dEq
 rw [Pb ⟨h,h⟩,zo 50 d h]
 cases neg <;> rfl
theorem Dy (p:Pic):okD 50 (aB p) = true:=by
 rw [okD]
 refine AJ p fun q _=>?_
 simp only [okD,okDs]
 rw [uw 46 q.2]
 rfl
def grO (g:Int × R):O:=.tup [.sh (.int g.1),.lst (g.2.map (O.sh ∘ prD))]
def grD (g:Int × R):D:=.tup [.int g.1,Bz g.2]
theorem LD (g:Int × R):(grO g).d = grD g:=by simp [grO,grD]
theorem IV:∀ gs:Pic,O.ds (gs.map grO) = gs.map grD
 | []=>by simp
 | g :: gs=>by rw [Px,Et,LD,IV gs];rfl
theorem En (gs:Pic) (t:Tri):(lQ gs t).length <= gs.length + 1:=by
 rcases Qu gs with rfl | ⟨gs0,g,rfl⟩
 ·simp [lQ]
 ·rw [Qz,oH]
  split <;> simp
theorem wW:∀ ts:List Tri,(e8 ts).length <= ts.length:=by
 intro ts
 have key:∀ (l:List Tri) (gs:Pic),(l.foldl lQ gs).length <= gs.length + l.length:=by
  intro l
  induction l with
  | nil=>intro gs;simp
  | cons t l ih=>
   intro gs
   have h1:=ih (lQ gs t)
   have h2:=En gs t
   rw [List.foldl_cons,Pw]
   lia
 have:=key ts []
 unfold e8
 simpa using this
theorem zh (s0:Sl) (gs:Pic) (t:Tri) (h:gs.length <= 30000) (hg:∀ g ∈ gs,g.2.length <= 30000):b7 [s0,.ow (.lst (gs.map grO)),.sh (.int t.1),.sh (.int t.2.1),.sh (.int t.2.2)] = some (.nx [s0,.ow (.lst ((lQ gs t).map grO)),.sh (.int t.1),.sh (.int t.2.1),.sh (.int t.2.2)]):=by
 rcases Qu gs with rfl | ⟨gs0,g,rfl⟩
 ·simp [b7,lQ,grO]
 ·rw [Qz] at *
  rw [oH]
  have hl:gs0.length + 1 <= 30000:=by simpa using h
  have hlim:gs0.length + 1 < LIM:=nK (by lia)
  have hg2:g.2.length < LIM:=nK (by have:=hg g (by simp);lia)
  by_cases hc:g.1 = t.1
  ·simp [b7,hc,hg2,grO]
  ·simp [b7,hc,hlim,grO]
theorem oS:∀ {l:List Nat} {n:Nat},n ∈ l -> n <= l.sum
 | [],_,h=>by cases h
 | m :: l,n,h=>by
  rw [Qx]
  rcases Pq.mp h with rfl | h
  ·lia
  ·have:=oS h;lia
theorem ic (ts:List Tri) (h:ts.length < 30000):gc [.lst (ts.map dl)] = some (aB (gZ ts)):=by
 have hf:=Qv bQ ts
 have hs:=(fy (ts.filter bQ)).length_eq
 have og:=mD ts
 have key:∃ ρ',iq (bj (au (ah 2) (au (ah 3) (au (ah 4) bh)))) b7 ((dE (ts.filter bQ)).map dl) [.sh (.lst (ts.map dl)),.ow (.lst []),.un,.un,.un] = some (.nx ρ') /\ ∃ va vb vc,ρ' = [.sh (.lst (ts.map dl)),.ow (.lst ((e8 (dE (ts.filter bQ))).map grO)),va,vb,vc]:=by
  refine gF dl (fun pre ρ=>∃ va vb vc,ρ = [.sh (.lst (ts.map dl)),.ow (.lst ((e8 pre).map grO)),va,vb,vc]) _ _ ⟨_,_,_,rfl⟩ ?_
  rintro pre t post _ e ⟨va,vb,vc,rfl⟩
  have hp:pre.length <= 30000:=by
   have:=PQ List.length e
   rw [Ps] at this
   lia
  have gl:=wW pre
  have gp:GOk (e8 pre) pre:=by
   refine xF (fun s hs=>?_) ?_
   ·have:=(fy _).mem_iff.mp (show s ∈ dE (ts.filter bQ) by rw [e];simp [hs])
    simpa [bQ] using (PL.mp this).2
   ·have:=zZ (ts.filter bQ)
    rw [e] at this
    exact (Qc.mp this).1
  have gg:∀ g ∈ e8 pre,g.2.length <= 30000:=fun g hg=>by
   have h1:=gp.len
   have h2:g.2.length <= ((e8 pre).map fun g=>g.2.length).sum:=oS (Pt.mpr ⟨g,hg,rfl⟩)
   lia
  refine ⟨_,_,rfl,.inl (zh _ (e8 pre) t (by lia) gg),.sh (.int t.1),.sh (.int t.2.1),.sh (.int t.2.2),by rw [u6]⟩
 obtain ⟨ρ',k1,va,vb,vc,rfl⟩:=key
 have hc:=Cm ts
 have hb:=pE (ts.filter bQ) (by lia)
 have hl:ts.length <= LIM:=aZ (by lia)
 have gl:=wW (dE (ts.filter bQ))
 have hl2:(e8 (dE (ts.filter bQ))).length <= LIM:=aZ (by lia)
 have c2:bV (bj (au (ah 0) (au (ah 1) bh))) cU (aL (af (aq 0) (af (aF kt (af (aq 1) ao)) ao))) [.un,.un] ((e8 (dE (ts.filter bQ))).map grD) = some ((gZ ts).map pyD):=by
  rw [bp grD (fun g=>pyD (g.1,lF g.2))]
  ·unfold gZ
   rw [PP]
   rfl
  ·intro g hg
   have h1:g.2.length < 30000:=by
    have h2:g.2.length <= ((e8 (dE (ts.filter bQ))).map fun g=>g.2.length).sum:=oS (Pt.mpr ⟨g,hg,rfl⟩)
    have:=og.len
    lia
   have h3:=mh g.2 h1
   simp [eY,grD,h3]
 simp [gc,kc,fnO,iw,hl,hc,hb,k1,frz,IV,hl2,c2]
theorem qI (p q:Pic):ak (p ++ q) = ak p ++ ak q:=by unfold ak;rw [List.flatMap_append]
theorem dX {p:Pic} {q:Int × R} (h:q ∈ p):q.2.length <= (ak p).length:=by
 induction p with
 | nil=>cases h
 | cons s p ih=>
  rw [bM,Ps,Ph]
  rcases Pq.mp h with rfl | h
  ·lia
  ·have:=ih h;lia
theorem pf (p:Pic) (h:(ak p).length <= 100000):fi [aB p] = some (.lst ((ak p).map (O.sh ∘ dl))):=by
 obtain ⟨ρ',k1,v2,v3,rfl⟩:=gF (g:=bj (au (ah 2) (au (ah 3) bh))) (m:=eP) pyD (fun pre ρ=>∃ v2 v3,ρ = [.sh (aB p),.ow (.lst ((ak pre).map (O.sh ∘ dl))),v2,v3]) p [.sh (aB p),.ow (.lst []),.un,.un] ⟨_,_,rfl⟩ (by
  rintro pre q post _ e ⟨v2,v3,rfl⟩
  have hlen:(ak pre).length + q.2.length <= 100000:=by
   rw [e,qI,bM,Ps,Ps,Ph] at h
   lia
  have hl:(ak pre).length + q.2.length <= LIM:=aZ hlen
  have hl2:q.2.length <= LIM:=aZ (by lia)
  have hc:bV (bj (au (ah 0) (au (ah 1) bh))) cU (aL (af (aq 2) (af (aq 0) (af (aq 1) ao)))) [.un,.un,.sh (.int q.1)] (q.2.map prD) = some (q.2.map fun s=>dl (q.1,s)):=bp prD _ q.2 fun s _=>by simp [eY]
  refine ⟨_,[.sh (aB p),.ow (.lst ((ak (pre ++ [q])).map (O.sh ∘ dl))),.sh (.int q.1),.sh (cu q.2)],rfl,.inl ?_,_,_,rfl⟩
  have es:ak (pre ++ [q]) = ak pre ++ q.2.map fun s=>(q.1,s):=by rw [qI,bM];simp [ak]
  rw [es]
  simp [eP,hl,hl2,hc])
 simp [fi,fnO,gw,k1]
theorem cE (p:Pic) (h:(ak p).length <= 100000):b6 [aB p] = some (.lst ((ak p).map dl)):=by
 unfold b6
 rw [pf p h]
 simp
theorem gC {α:Type} (l:List α) (k:α -> Int) (enc:α -> D) (x:Int) (he:∀ a,dIx (enc a) (.int 0) = some (.int (k a))) (hl:l.length <= 100000) (pw:l.Pairwise fun a b=>k a < k b) :
  ∃ n:Nat,n <= l.length /\ eZ [.tup (l.map enc),.int x] = some (.int n) /\ ∀ (i:Nat) a,l[i]? = some a -> (k a <= x ↔ i < n):=by
 have lt:∀ (i j:Nat) a b,l[i]? = some a -> l[j]? = some b -> i < j -> k a < k b:=fun i j a b hi hj hij=>by
  obtain ⟨h1,rfl⟩:=PF.mp hi
  obtain ⟨h2,rfl⟩:=PF.mp hj
  exact QM.mp pw i j h1 h2 hij
 obtain ⟨ρ',k1,n,v3,v4,rfl,h1,h2⟩:=lv (c:=dP) (m:=dQ)
  (fun ρ=>∃ (lo hi:Nat) (v4:Sl),ρ = [.sh (.tup (l.map enc)),.sh (.int x),.sh (.int lo),.sh (.int hi),v4] /\ lo <= hi /\ hi <= l.length /\ (∀ (i:Nat) a,l[i]? = some a -> i < lo -> k a <= x) /\ ∀ (i:Nat) a,l[i]? = some a -> hi <= i -> x < k a)
  (fun ρ=>match ρ with | [_,_,.sh (.int lo),.sh (.int hi),_]=>(hi - lo).toNat | _=>0)
  (fun ρ=>∃ (n:Nat) (v3 v4:Sl),ρ = [.sh (.tup (l.map enc)),.sh (.int x),.sh (.int n),v3,v4] /\ n <= l.length /\ ∀ (i:Nat) a,l[i]? = some a -> (k a <= x ↔ i < n))
  (by
   rintro _ ⟨lo,hi,v4,rfl,h1,h2,h3,h4⟩
   by_cases hc:lo < hi
   ·right
    have hc':(lo:Int) < hi:=by lia
    obtain ⟨a,ha⟩:∃ a,l[(lo + hi) / 2]? = some a:=⟨_,Qi (by lia)⟩
    have em:((lo:Int) + hi) / 2 = (((lo + hi) / 2:Nat):Int):=by lia
    have ea:atI (l.map enc) (((lo:Int) + hi) / 2) = some (enc a):=by rw [em];exact jw (by rw [PN,ha];rfl)
    refine ⟨by simp [dP,hc'],?_⟩
    by_cases ck:k a <= x
    ·refine ⟨[.sh (.tup (l.map enc)),.sh (.int x),.sh (.int (((lo + hi) / 2 + 1:Nat):Int)),.sh (.int hi),.sh (.int (((lo:Int) + hi) / 2))],?_,⟨(lo + hi) / 2 + 1,hi,_,rfl,by lia,h2,fun i b hb hi'=>?_,h4⟩,by dsimp only;lia⟩
     ·simp [dQ,ea,he,ck]
     ·by_cases z:i = (lo + hi) / 2
      ·subst z;rw [ha] at hb;cases hb;exact ck
      ·have:=lt i _ b a hb ha (by lia);lia
    ·refine ⟨[.sh (.tup (l.map enc)),.sh (.int x),.sh (.int lo),.sh (.int (((lo + hi) / 2:Nat):Int)),.sh (.int (((lo:Int) + hi) / 2))],?_,⟨lo,(lo + hi) / 2,_,rfl,by lia,by lia,h3,fun i b hb hi'=>?_⟩,by dsimp only;lia⟩
     ·simp [dQ,ea,he,ck]
     ·by_cases z:i = (lo + hi) / 2
      ·subst z;rw [ha] at hb;cases hb;lia
      ·have:=lt _ i a b ha hb (by lia);lia
   ·left
    have hc':¬ (lo:Int) < hi:=by lia
    have e:lo = hi:=by lia
    subst e
    refine ⟨by simp [dP],lo,_,_,rfl,h2,fun i a ha=>⟨fun hk=>?_,fun hi'=>h3 i a ha hi'⟩⟩
    by_cases z:i < lo
    ·exact z
    ·have:=h4 i a ha (by lia);lia)
  [.sh (.tup (l.map enc)),.sh (.int x),.sh (.int 0),.sh (.int l.length),.un]
  ⟨0,l.length,_,rfl,P8 _,Pj _,fun i a _ h=>absurd h (Nat.not_lt_zero _),fun i a ha h=>by have:=(PF.mp ha).1;lia⟩
 refine ⟨n,h1,?_,h2⟩
 simp [eZ,jb,fnO,gO,k1]
def bK (p:Pic) (y:Int):R:=match p.find? fun q=>decide (q.1 = y) with | some q=>q.2 | none=>[]
theorem nz {p:Pic} (c:aE p) {q:Int × R} (hq:q ∈ p):bK p q.1 = q.2:=by
 unfold bK
 cases e:p.find? fun s=>decide (s.1 = q.1) with
 | none=>
  have:=List.find?_eq_none.mp e q hq
  simp at this
 | some s=>
  have h1:=List.find?_some e
  have h2:=List.mem_of_find?_eq_some e
  have h3:s.1 = q.1:=QF h1
  have:s = q:=by
   obtain ⟨i,hi⟩:=Qn h2
   obtain ⟨j,hj⟩:=Qn hq
   obtain ⟨li,ei⟩:=PF.mp hi
   obtain ⟨lj,ej⟩:=PF.mp hj
   have pw:=QM.mp c.2
   by_cases z:i < j
   ·have:=pw i j li lj z;rw [ei,ej] at this;lia
   ·by_cases z2:j < i
    ·have:=pw j i lj li z2;rw [ei,ej] at this;lia
    ·have:i = j:=by lia
     subst this
     rw [hi] at hj;exact P6 hj
  rw [this]
theorem kR {p:Pic} {y:Int} (h:∀ q ∈ p,q.1 ≠ y):bK p y = []:=by
 unfold bK
 have:p.find? (fun q=>decide (q.1 = y)) = none:=List.find?_eq_none.mpr fun q hq=>by simpa using h q hq
 rw [this]
theorem jT {p:Pic} (c:aE p) (y:Int):bE (bK p y):=by
 by_cases h:∃ q ∈ p,q.1 = y
 ·obtain ⟨q,hq,rfl⟩:=h
  rw [nz c hq];exact (c.1 q hq).1
 ·rw [kR fun q hq e=>h ⟨q,hq,e⟩];exact iT
theorem rB {p:Pic} (c:aE p) (x y:Int):Mem (bK p y) x ↔ bg p x y:=by
 constructor
 ·intro h
  by_cases k:∃ q ∈ p,q.1 = y
  ·obtain ⟨q,hq,rfl⟩:=k
   rw [nz c hq] at h
   exact ⟨q,hq,rfl,h⟩
  ·rw [kR fun q hq e=>k ⟨q,hq,e⟩] at h
   exact (bz _ h).elim
 ·rintro ⟨q,hq,rfl,h⟩
  rw [nz c hq];exact h
theorem sG (p:Pic) (y:Int) (c:aE p) (h:p.length <= 100000):g6 [aB p,.int y] = some (cu (bK p y)):=by
 obtain ⟨n,h1,h2,h3⟩:=gC p (·.1) pyD y (fun a=>by simp) h c.2
 by_cases hn:n = 0
 ·subst hn
  have e:bK p y = []:=kR fun q hq e=>by
   obtain ⟨j,ej⟩:=Qn hq
   exact absurd ((h3 j q ej).mp (by lia)) (Nat.not_lt_zero _)
  simp at h2
  simp [g6,kA,fnO,ku,h2,e]
 ·obtain ⟨q,hq⟩:∃ q,p[n - 1]? = some q:=⟨_,Qi (by lia)⟩
  have en:(n:Int) - 1 = ((n - 1:Nat):Int):=by lia
  have ea:atI (p.map pyD) ((n:Int) - 1) = some (pyD q):=by rw [en];exact jw (by rw [PN,hq];rfl)
  have hn':(0:Int) < n:=by lia
  have hn2:0 < n:=by lia
  by_cases hy:q.1 = y
  ·have e:bK p y = q.2:=by rw [<- hy];exact nz c (QW hq)
   simp [g6,kA,fnO,ku,h2,hn,hn',hn2,ea,hy,e]
  ·have e:bK p y = []:=kR fun s hs e=>by
    obtain ⟨j,ej⟩:=Qn hs
    have hj:=(h3 j s ej).mp (by lia)
    by_cases z:j = n - 1
    ·subst z;rw [hq] at ej;cases ej;exact hy e
    ·obtain ⟨l1,e1⟩:=PF.mp ej
     obtain ⟨l2,e2⟩:=PF.mp hq
     have:=QM.mp c.2 j (n - 1) l1 l2 (by lia)
     rw [e1,e2] at this
     have:=(h3 _ _ hq).mpr (by lia)
     lia
   simp [g6,kA,fnO,ku,h2,hn,hn',hn2,ea,hy,e]
theorem lV (r t:R) (h:r.length + t.length <= 30000):fV [cu r,cu t] = some (cu (d7 r t)):=by
 have hlen:=ur _ r t rfl
 have key:∃ ρ',dZ cZ b8 [.sh (cu r),.sh (cu t),.ow (.lst []),.sh (.int 0),.sh (.int 0),.un,.un] = some (.nx ρ') /\ ∃ v3 v4 v5 v6,ρ' = [.sh (cu r),.sh (cu t),owl ((d7 r t).map prD),v3,v4,v5,v6]:=by
  refine lv (fun ρ=>∃ (acc:R) (i j:Nat) (v5 v6:Sl),ρ = [.sh (cu r),.sh (cu t),owl (acc.map prD),.sh (.int i),.sh (.int j),v5,v6] /\ i <= r.length /\ j <= t.length /\ acc ++ d7 (r.drop i) (t.drop j) = d7 r t)
   (fun ρ=>match ρ with | [_,_,_,.sh (.int i),.sh (.int j),_,_]=>(r.length + t.length - i - j).toNat | _=>0) _ ?_ _ ⟨[],0,0,.un,.un,rfl,P8 _,P8 _,rfl⟩
  rintro _ ⟨acc,i,j,v5,v6,rfl,hi,hj,e⟩
  have hacc:acc.length <= 30000:=by
   have:=PQ List.length e
   rw [Ps] at this
   lia
  have hlim:acc.length < LIM:=nK (by lia)
  cases qi:r[i]? with
  | none=>
   have hi':i = r.length:=by have:=Rz.mp qi;lia
   subst hi'
   rw [QY (Pj _),fb,Qa] at e
   subst e
   exact .inl ⟨by simp [cZ],_,_,_,_,rfl⟩
  | some p=>
   have hi':=(PF.mp qi).1
   have ei:(i:Int) < r.length:=by lia
   cases qj:t[j]? with
   | none=>
    have hj':j = t.length:=by have:=Rz.mp qj;lia
    subst hj'
    rw [QY (Pj _),eA,Qa] at e
    subst e
    exact .inl ⟨by simp [cZ,ei],_,_,_,_,rfl⟩
   | some q=>
    have hj':=(PF.mp qj).1
    have ej:(j:Int) < t.length:=by lia
    have a1:=Jb qi
    have a2:=Jb qj
    rw [iR qi,iR qj,Ew] at e
    refine .inr ⟨by simp [cZ,ei,ej],?_⟩
    by_cases c1:max p.1 q.1 <= min p.2 q.2
    ·rw [Pb c1] at e
     by_cases c2:p.2 < q.2
     ·rw [Pb c2,<- iR qj] at e
      exact ⟨[.sh (cu r),.sh (cu t),owl ((acc ++ [(max p.1 q.1,min p.2 q.2)]).map prD),.sh (.int ((i + 1:Nat):Int)),.sh (.int j),.sh (.int (max p.1 q.1)),.sh (.int (min p.2 q.2))],by simp [b8,a1,a2,mx,mn,c1,c2,hlim],⟨_,i + 1,j,_,_,rfl,hi',hj,by rw [PZ];exact e⟩,by dsimp only;lia⟩
     ·rw [Pc c2,<- iR qi] at e
      exact ⟨[.sh (cu r),.sh (cu t),owl ((acc ++ [(max p.1 q.1,min p.2 q.2)]).map prD),.sh (.int i),.sh (.int ((j + 1:Nat):Int)),.sh (.int (max p.1 q.1)),.sh (.int (min p.2 q.2))],by simp [b8,a1,a2,mx,mn,c1,c2,hlim],⟨_,i,j + 1,_,_,rfl,hi,hj',by rw [PZ];exact e⟩,by dsimp only;lia⟩
    ·rw [Pc c1,List.nil_append] at e
     by_cases c2:p.2 < q.2
     ·rw [Pb c2,<- iR qj] at e
      exact ⟨[.sh (cu r),.sh (cu t),owl (acc.map prD),.sh (.int ((i + 1:Nat):Int)),.sh (.int j),.sh (.int (max p.1 q.1)),.sh (.int (min p.2 q.2))],by simp [b8,a1,a2,mx,mn,c1,c2,hlim],⟨_,i + 1,j,_,_,rfl,hi',hj,e⟩,by dsimp only;lia⟩
     ·rw [Pc c2,<- iR qi] at e
      exact ⟨[.sh (cu r),.sh (cu t),owl (acc.map prD),.sh (.int i),.sh (.int ((j + 1:Nat):Int)),.sh (.int (max p.1 q.1)),.sh (.int (min p.2 q.2))],by simp [b8,a1,a2,mx,mn,c1,c2,hlim],⟨_,i,j + 1,_,_,rfl,hi,hj',e⟩,by dsimp only;lia⟩
 obtain ⟨ρ',k1,v3,v4,v5,v6,rfl⟩:=key
 simp [fV,ke,fnO,iK,k1]
theorem tK (r t:R) (h:r.length + t.length < 10000):kO [cu r,cu t] = some (cu (uS r t)):=by
 have hl:r.length + t.length <= LIM:=aZ (by lia)
 have hl2:(r ++ t).length <= LIM:=by rw [Ps];exact hl
 have c1:bV (bj (au (ah 0) (au (ah 1) bh))) cU (aq 0) [.un,.un] ((r ++ t).map prD) = some ((r ++ t).map fun p=>.int p.1):=bp prD _ _ fun p _=>by simp [eY]
 have c2:bV (bj (au (ah 0) (au (ah 1) bh))) cU (xOp b5 (ai 1) (xC (.int 1))) [.un,.un] ((r ++ t).map prD) = some ((r ++ t).map fun p=>.int (p.2 + 1)):=bp prD _ _ fun p _=>by simp [eY]
 have ec:((r ++ t).map fun p=>D.int p.1) ++ ((r ++ t).map fun p=>D.int (p.2 + 1)) = (chg (r ++ t)).map D.int:=by
  unfold chg
  rw [Qw (f:=D.int),PP,PP]
  rfl
 have hcl:=Hn (r ++ t)
 rw [Ps] at hcl
 have hsl:(kv (chg (r ++ t))).length = 2 * (r.length + t.length):=by rw [(k6 _).length_eq,hcl]
 have hb:=yO (chg (r ++ t)) (by lia)
 have c3:=Bl (r.length + t.length) (kv (chg (r ++ t))) hsl
 have hro:=mh (kX (kv (chg (r ++ t)))) (by rw [o4 _ _ hsl];lia)
 have hsum:r.length + t.length + (r.length + t.length) <= LIM:=aZ (by lia)
 have hrng:Cu [.int 0,.int ((2 * (r.length + t.length):Nat):Int),.int 2] = some (gv 0 (r.length + t.length)):=by
  rw [Ju (by lia)]
  congr 2
  lia
 have hel:(gv 0 (r.length + t.length)).length <= LIM:=by rw [oI];exact hl
 rw [<- ec] at hb
 rw [<- hsl] at hrng
 simp only [Qw,PZ] at c1 c2 hb
 simp [kO,kf,fnO,iL,BK,Bv,hl,c1,c2,hsum,hb,hrng,hel,c3,hro,uS]
theorem wF (r t:R) (h:2 * r.length + t.length < 10000):k7 [cu r,cu t] = some (cu (rT r t)):=by
 have h1:=lV r t (by lia)
 have h2:=tK r (d7 r t) (by have:=ur _ r t rfl;lia)
 simp [k7,nr,fnO,k9,h1,h2,rT]
def iG (q:Int × R):Bool:=!decide (q.2 = [])
theorem yx:∀ l:Pic,l.filterMap (fun q=>if q.2 = [] then none else some (pyD q)) = (l.filter iG).map pyD
 | []=>rfl
 | q :: l=>by
  by_cases h:q.2 = []
  ·simp [h,iG,<- yx l]
  ·simp [h,iG,<- yx l]
theorem cO (l:Pic) (h:l.length <= 30000):bx [.lst (l.map pyD)] = some (aB (l.filter iG)):=by
 have hl:l.length <= LIM:=aZ (by lia)
 have hf:=Qv iG l
 have hl2:(l.filter iG).length <= LIM:=aZ (by lia)
 have hc:bV (bj (au (ah 0) (au (ah 1) bh))) (xB (xOp (dEq true) (ai 1) (aL ao))) (aL (af (aq 0) (af (aq 1) ao))) [.un,.un] (l.map pyD) = some ((l.filter iG).map pyD):=by
  rw [i6 pyD (fun q=>if q.2 = [] then none else some (pyD q)) l,yx]
  intro q _
  have d:dEq true (cu q.2) (.tup []) = some (.bl (!decide (q.2 = []))):=HF true q.2 []
  by_cases hq:q.2 = []
  ·simp [hq] at d
   simp [eY,hq,d]
  ·simp [hq] at d
   simp [eY,hq,d]
 simp [bx,fB,fnO,eo,hl,hc,hl2]
def sT (f:R -> R -> R) (p q:Pic):Pic:=(p.map fun s=>(s.1,f s.2 (bK q s.1))).filter iG
def cmP (p q:Pic):Pic:=sT d7 p q
def leP (p q:Pic):Pic:=sT rT p q
def joP (p q:Pic):Pic:=gZ (ak p ++ ak q)
theorem zR {f:R -> R -> R} {p q:Pic} (cp:aE p) (h:∀ s ∈ p,bE (f s.2 (bK q s.1))):aE (sT f p q):=by
 refine ⟨fun s hs=>?_,?_⟩
 ·obtain ⟨h1,h2⟩:=PL.mp hs
  obtain ⟨z,hz,rfl⟩:=Pt.mp h1
  exact ⟨h z hz,by simpa [iG] using h2⟩
 ·refine Sb _ ?_
  rw [Qs]
  exact cp.2
theorem DY {f:R -> R -> R} {p q:Pic} (x y:Int):bg (sT f p q) x y ↔ ∃ s ∈ p,s.1 = y /\ Mem (f s.2 (bK q s.1)) x:=by
 constructor
 ·rintro ⟨s,hs,h1,h2⟩
  obtain ⟨z,hz,rfl⟩:=Pt.mp (PL.mp hs).1
  exact ⟨z,hz,h1,h2⟩
 ·rintro ⟨z,hz,h1,h2⟩
  refine ⟨(z.1,f z.2 (bK q z.1)),PL.mpr ⟨Pt.mpr ⟨z,hz,rfl⟩,?_⟩,h1,h2⟩
  unfold iG
  rw [RP,Sc]
  intro e
  dsimp only at e
  rw [e] at h2
  exact bz _ h2
theorem xh {p q:Pic} (cp:aE p) (cq:aE q):aE (cmP p q):=zR cp fun s hs=>(rP (cp.1 s hs).1 (jT cq _)).1
theorem Ey (p q:Pic):aE (joP p q):=(fT _).1
theorem C3 {p q:Pic} (cp:aE p) (cq:aE q) (x y:Int):bg (cmP p q) x y ↔ bg p x y /\ bg q x y:=by
 unfold cmP
 rw [DY]
 constructor
 ·rintro ⟨s,hs,rfl,h2⟩
  rw [(rP (cp.1 s hs).1 (jT cq _)).2,rB cq] at h2
  exact ⟨⟨s,hs,rfl,h2.1⟩,h2.2⟩
 ·rintro ⟨⟨s,hs,rfl,h1⟩,h2⟩
  exact ⟨s,hs,rfl,by rw [(rP (cp.1 s hs).1 (jT cq _)).2,rB cq];exact ⟨h1,h2⟩⟩
theorem HY (p q:Pic) (x y:Int):bg (joP p q) x y ↔ bg p x y \/ bg q x y:=by
 unfold joP
 rw [(fT _).2,mL,ko,ko]
theorem n9 {p:Pic} (y:Int):(bK p y).length <= (ak p).length:=by
 unfold bK
 cases h:p.find? fun q=>decide (q.1 = y) with
 | none=>exact P8 _
 | some q=>exact dX (List.mem_of_find?_eq_some h)
theorem EO (p q:Pic) (h:(ak p).length + (ak q).length < 30000):BB [aB p,aB q] = some (aB (joP p q)):=by
 have h1:=cE p (by lia)
 have h2:=cE q (by lia)
 have hl:(ak p).length + (ak q).length <= LIM:=aZ (by lia)
 have hm:=ic (ak p ++ ak q) (by rw [Ps];exact h)
 rw [Qw] at hm
 simp [BB,yT,fnO,yK,h1,h2,Bv,hl,hm,joP]
theorem sZ {p q:Pic} (cq:aE q) (h1:p.length <= 30000) (h2:q.length <= 30000) (h:(ak p).length + (ak q).length <= 30000):pI [aB p,aB q] = some (aB (cmP p q)):=by
 have hl:p.length <= LIM:=aZ (by lia)
 have hc:bV (bj (au (ah 0) (au (ah 1) bh))) cU (aL (af (aq 0) (af (aF fV (af (aq 1) (af (aF g6 (af (aq 2) (af (aq 0) ao))) ao))) ao))) [.un,.un,.sh (aB q)] (p.map pyD) = some ((p.map fun s=>(s.1,d7 s.2 (bK q s.1))).map pyD):=by
  rw [PP]
  exact bp pyD (fun s=>pyD (s.1,d7 s.2 (bK q s.1))) p fun s hs=>by
   have a1:=sG q s.1 cq (by lia)
   have a2:=lV s.2 (bK q s.1) (by have:=dX hs;have:=n9 (p:=q) s.1;lia)
   simp [eY,a1,a2]
 have hm:=cO (p.map fun s=>(s.1,d7 s.2 (bK q s.1))) (by rw [Ph];exact h1)
 rw [PP] at hm hc
 simp [pI,rn,fnO,pR,hl,hc,hm,cmP,sT]
theorem Ea {p q:Pic} (cq:aE q) (h1:p.length <= 30000) (h2:q.length <= 30000) (h:2 * (ak p).length + (ak q).length < 10000):yB [aB p,aB q] = some (aB (leP p q)):=by
 have hl:p.length <= LIM:=aZ (by lia)
 have hc:bV (bj (au (ah 0) (au (ah 1) bh))) cU (aL (af (aq 0) (af (aF k7 (af (aq 1) (af (aF g6 (af (aq 2) (af (aq 0) ao))) ao))) ao))) [.un,.un,.sh (aB q)] (p.map pyD) = some ((p.map fun s=>(s.1,rT s.2 (bK q s.1))).map pyD):=by
  rw [PP]
  exact bp pyD (fun s=>pyD (s.1,rT s.2 (bK q s.1))) p fun s hs=>by
   have a1:=sG q s.1 cq (by lia)
   have a2:=wF s.2 (bK q s.1) (by have:=dX hs;have:=n9 (p:=q) s.1;lia)
   simp [eY,a1,a2]
 have hm:=cO (p.map fun s=>(s.1,rT s.2 (bK q s.1))) (by rw [Ph];exact h1)
 rw [PP] at hm hc
 simp [yB,yI,fnO,yP,hl,hc,hm,leP,sT]
theorem fU:∀ p:Pic,ak (p.filter iG) = ak p
 | []=>rfl
 | q :: p=>by
  rw [Sa]
  by_cases h:q.2 = []
  ·have:iG q = false:=by simp [iG,h]
   rw [this,bM,h]
   exact fU p
  ·have:iG q = true:=by simp [iG,h]
   rw [this,Pb rfl,bM,bM,fU p]
theorem we (r:R) (by':Int) (h:r.length <= 30000):jU [cu r,.int by'] = some (cu (n5 r by' by')):=by
 have hl:r.length <= LIM:=aZ (by lia)
 have hc:bV (bj (au (ah 0) (au (ah 1) bh))) cU (aL (af (xOp b5 (ai 0) (ai 2)) (af (xOp b5 (ai 1) (ai 2)) ao))) [.un,.un,.sh (.int by')] (r.map prD) = some (r.map fun p=>prD (p.1 + by',p.2 + by')):=bp prD _ r fun p _=>by simp [eY]
 simp [jU,kN,fnO,jZ,hl,hc,n5]
def mvP (p:Pic) (dx dy:Int):Pic:=p.map fun q=>(q.1 + dy,n5 q.2 dx dx)
theorem vk (p:Pic) (dx dy:Int) (h:p.length <= 30000) (hr:∀ q ∈ p,q.2.length <= 30000):t7 [aB p,.int dx,.int dy] = some (aB (mvP p dx dy)):=by
 have hl:p.length <= LIM:=aZ (by lia)
 have hc:bV (bj (au (ah 0) (au (ah 1) bh))) cU (aL (af (xOp b5 (ai 0) (ai 2)) (af (aF jU (af (aq 1) (af (aq 3) ao))) ao))) [.un,.un,.sh (.int dy),.sh (.int dx)] (p.map pyD) = some (p.map fun q=>pyD (q.1 + dy,n5 q.2 dx dx)):=bp pyD _ p fun q hq=>by
  have:=we q.2 dx (hr q hq)
  simp [eY,this]
 simp [t7,uz,fnO,ub,hl,hc,mvP]
theorem zV {r:R} (c:bE r) (d:Int):bE (n5 r d d):=by
 refine ⟨FS c.1 (PC _),?_⟩
 unfold n5
 rw [Qs]
 exact c.2.imp fun {p q} h=>by dsimp only;lia
theorem GB (r:R) (d x:Int):Mem (n5 r d d) x ↔ Mem r (x - d):=by
 rw [D1]
 constructor
 ·rintro ⟨p,hp,h1,h2⟩;exact ⟨p,hp,by lia,by lia⟩
 ·rintro ⟨p,hp,h1,h2⟩;exact ⟨p,hp,by lia,by lia⟩
theorem DT {p:Pic} (c:aE p) (dx dy:Int):aE (mvP p dx dy):=by
 refine ⟨fun q hq=>?_,?_⟩
 ·obtain ⟨s,hs,rfl⟩:=Pt.mp hq
  obtain ⟨h1,h2⟩:=c.1 s hs
  refine ⟨zV h1 dx,fun e=>h2 ?_⟩
  exact List.map_eq_nil_iff.mp e
 ·unfold mvP
  rw [Qs]
  exact c.2.imp fun {a b} h=>by dsimp only;lia
theorem Dr (p:Pic) (dx dy x y:Int):bg (mvP p dx dy) x y ↔ bg p (x - dx) (y - dy):=by
 constructor
 ·rintro ⟨q,hq,h1,h2⟩
  obtain ⟨s,hs,rfl⟩:=Pt.mp hq
  dsimp only at h1 h2
  exact ⟨s,hs,by lia,(GB _ _ _).mp h2⟩
 ·rintro ⟨s,hs,h1,h2⟩
  exact ⟨_,Pt.mpr ⟨s,hs,rfl⟩,by dsimp only;lia,(GB _ _ _).mpr h2⟩
abbrev Blk:=Int × Int × Int × Int
abbrev cn (b:Blk):D:=.tup [.int b.1,.int b.2.1,.int b.2.2.1,.int b.2.2.2]
def mH (b:Blk) (dx dy:Int):Prop:=b.1 <= dx /\ dx <= b.2.2.1 /\ b.2.1 <= dy /\ dy <= b.2.2.2
def BOk (b:Blk):Prop:=b.1 <= b.2.2.1 /\ b.2.1 <= b.2.2.2
theorem GN (p:Pic) (dx dy:Int):(ak (mvP p dx dy)).length = (ak p).length:=by
 unfold mvP ak
 rw [RB,RB,PP]
 congr 1
 apply List.map_congr_left
 intro q _
 simp [n5]
theorem nB (ts:List Tri):(ak (gZ ts)).length <= ts.length:=by
 have o:=mD ts
 have h1:∀ gs:Pic,(ak (gs.map fun g=>(g.1,lF g.2))).length <= (gs.map fun g=>g.2.length).sum:=by
  intro gs
  induction gs with
  | nil=>simp [ak]
  | cons g gs ih=>
   have:=xu g.2
   rw [Px,bM,Ps,Ph,Px,Qx]
   dsimp only
   lia
 have h2:=h1 (e8 (dE (ts.filter bQ)))
 have h3:=o.len
 have h4:=(fy (ts.filter bQ)).length_eq
 have h5:=Qv bQ ts
 have h6:ak (gZ ts) = ak ((e8 (dE (ts.filter bQ))).map fun g=>(g.1,lF g.2)):=rfl
 rw [h6]
 lia
theorem CH {p:Pic} (c:aE p):p.length <= (ak p).length:=by
 induction p with
 | nil=>exact Pj _
 | cons q p ih=>
  obtain ⟨⟨_,h1⟩,_,h2⟩:=pcanon_cons.mp c
  have:=ih h2
  have:=List.length_pos_iff.mpr h1
  rw [bM,Ps,Ph,Pw]
  lia
theorem zn {p:Pic} (c:aE p):∀ t ∈ ak p,t.2.1 <= t.2.2:=by
 intro t ht
 obtain ⟨q,hq,h⟩:=RA.mp ht
 obtain ⟨s,hs,rfl⟩:=Pt.mp h
 exact (c.1 q hq).1.1 s hs
theorem Lc (p q:Pic):(ak (joP p q)).length <= (ak p).length + (ak q).length:=by
 have:=nB (ak p ++ ak q)
 rwa [Ps] at this
theorem sd (p:Pic) (c:aE p) (n:Nat) (hs:(2 * n + 1) * (ak p).length <= 10000):∃ q:Pic,gR [aB p,.int (n:Int)] = some (aB q) /\ aE q /\ (ak q).length <= (2 * n + 1) * (ak p).length /\ ∀ x y,bg q x y ↔ ∃ j:Int,0 <= j /\ j <= n /\ bg p x (y - j):=by
 obtain ⟨ρ',k1,q,v2,v3,rfl,a1,a3,a4⟩:=lv (c:=dG) (m:=ft)
  (fun ρ=>∃ (q:Pic) (k:Nat) (v3:Sl),ρ = [.sh (aB q),.sh (.int (n:Int)),.sh (.int (k:Int)),v3] /\ k <= n /\ aE q /\ ((ak q).length <= (k + 1) * (ak p).length \/ (k = n /\ (ak q).length <= (2 * n + 1) * (ak p).length)) /\ ∀ x y,bg q x y ↔ ∃ j:Int,0 <= j /\ j <= k /\ bg p x (y - j))
  (fun ρ=>match ρ with | [_,.sh (.int n),.sh (.int k),_]=>(n - k).toNat | _=>0)
  (fun ρ=>∃ (q:Pic) (v2 v3:Sl),ρ = [.sh (aB q),.sh (.int (n:Int)),v2,v3] /\ aE q /\ (ak q).length <= (2 * n + 1) * (ak p).length /\ ∀ x y,bg q x y ↔ ∃ j:Int,0 <= j /\ j <= n /\ bg p x (y - j))
  (by
   rintro _ ⟨q,k,v3,rfl,hk,c',hsz,hm⟩
   by_cases hc:k < n
   ·right
    have hc':(k:Int) < n:=by lia
    refine ⟨by simp [dG,hc'],?_⟩
    have hsz':(ak q).length <= (k + 1) * (ak p).length:=hsz.elim id fun h=>by lia
    generalize hst:(if (n:Int) - k < (k:Int) + 1 then (n:Int) - k else (k:Int) + 1) = st
    have hst1:1 <= st /\ st <= k + 1 /\ st <= n - k /\ (st = k + 1 \/ st = n - k):=by rw [<- hst];split <;> lia
    have e1:(k + 1) * (ak p).length <= (2 * n + 1) * (ak p).length:=QQ _ (by lia)
    have lq:(ak q).length <= 10000:=by lia
    have rq:=CH c'
    have mv:=vk q 0 st (by lia) fun z hz=>by have:=dX hz;lia
    have smv:=GN q 0 st
    have jo:=EO q (mvP q 0 st) (by lia)
    have sjo:=Lc q (mvP q 0 st)
    have ek:(((k + st.toNat:Nat)):Int) = (k:Int) + st:=by lia
    refine ⟨[.sh (aB (joP q (mvP q 0 st))),.sh (.int (n:Int)),.sh (.int ((k + st.toNat:Nat):Int)),.sh (.int st)],?_,⟨joP q (mvP q 0 st),k + st.toNat,_,rfl,by lia,Ey _ _,?_,fun x y=>?_⟩,by dsimp only;lia⟩
    ·rw [ek]
     simp [ft,hst,mv,jo]
    ·rcases hst1.2.2.2 with e | e
     ·left
      have e2:(k + st.toNat + 1) * (ak p).length = (k + 1) * (ak p).length + (k + 1) * (ak p).length:=by
       rw [<- Qo]
       congr 1
       lia
      lia
     ·right
      have e2:(k + 1) * (ak p).length + (k + 1) * (ak p).length <= (2 * n + 1) * (ak p).length:=by
       rw [<- Qo]
       exact QQ _ (by lia)
      exact ⟨by lia,by lia⟩
    ·rw [HY,Dr,hm,hm,show x - 0 = x by lia]
     constructor
     ·rintro (⟨j,j0,j1,g⟩ | ⟨j,j0,j1,g⟩)
      ·exact ⟨j,j0,by lia,g⟩
      ·exact ⟨st + j,by lia,by lia,by rwa [show y - (st + j) = y - st - j by lia]⟩
     ·rintro ⟨j,j0,j1,g⟩
      by_cases hj:j <= k
      ·exact .inl ⟨j,j0,hj,g⟩
      ·exact .inr ⟨j - st,by lia,by lia,by rwa [show y - st - (j - st) = y - j by lia]⟩
   ·left
    have ek:k = n:=by lia
    subst ek
    refine ⟨by simp [dG],q,_,_,rfl,c',?_,hm⟩
    rcases hsz with h | h
    ·have:(k + 1) * (ak p).length <= (2 * k + 1) * (ak p).length:=QQ _ (by lia)
     lia
    ·exact h.2)
  [.sh (aB p),.sh (.int (n:Int)),.sh (.int 0),.un] ⟨p,0,.un,rfl,by lia,c,.inl (by lia),fun x y=>⟨fun h=>⟨0,by lia,by lia,by rwa [show y - 0 = y by lia]⟩,fun ⟨j,j0,j1,h⟩=>by rwa [show y - j = y by lia] at h⟩⟩
 exact ⟨q,by simp [gR,ju,fnO,gU,k1],a1,a3,a4⟩
def fP (b:Blk) (t:Tri):Tri:=(t.1 + b.2.1,t.2.1 + b.1,t.2.2 + b.2.2.1)
theorem uj {p:Pic} (c:aE p) {b:Blk} (hb:b.1 <= b.2.2.1) (x y:Int):kq ((ak p).map (fP b)) x y ↔ ∃ dx,b.1 <= dx /\ dx <= b.2.2.1 /\ bg p (x - dx) (y - b.2.1):=by
 constructor
 ·rintro ⟨_,ht0,h1,h2,h3⟩
  obtain ⟨t,ht,rfl⟩:=Pt.mp ht0
  have ok:=zn c t ht
  simp only [fP] at h1 h2 h3
  refine ⟨max b.1 (x - t.2.2),by lia,by lia,?_⟩
  exact (ko _ _ _).mp ⟨t,ht,by lia,by lia,by lia⟩
 ·rintro ⟨dx,d1,d2,h⟩
  obtain ⟨t,ht,h1,h2,h3⟩:=(ko _ _ _).mpr h
  exact ⟨_,Pt.mpr ⟨t,ht,rfl⟩,by simp only [fP];lia,by simp only [fP];lia,by simp only [fP];lia⟩
def GrB (p:Pic) (b:Blk) (x y:Int):Prop:=∃ dx dy,mH b dx dy /\ bg p (x - dx) (y - dy)
theorem l7 (p:Pic) (c:aE p) (b:Blk) (hb:BOk b) (n:Nat) (hn:b.2.2.2 - b.2.1 = n) (hs:(2 * n + 1) * (ak p).length <= 10000):∃ ts:List Tri,dt [aB p,cn b] = some (.lst (ts.map dl)) /\ (∀ t ∈ ts,t.2.1 <= t.2.2) /\ ts.length <= (2 * n + 1) * (ak p).length /\ ∀ x y,kq ts x y ↔ GrB p b x y:=by
 have e1:(ak p).length <= (2 * n + 1) * (ak p).length:=Nat.le_mul_of_pos_left _ (by lia)
 have hl:(ak p).length <= LIM:=aZ (by lia)
 have h1:=cE p (by lia)
 have hc:bV (bj (au (ah 0) (au (ah 1) (au (ah 2) bh)))) cU (aL (af (xOp b5 (ai 0) (xOp dIx (ai 3) (xC (.int 1)))) (af (xOp b5 (ai 1) (xOp dIx (ai 3) (xC (.int 0)))) (af (xOp b5 (ai 2) (xOp dIx (ai 3) (xC (.int 2)))) ao)))) [.un,.un,.un,.sh (cn b)] ((ak p).map dl) = some (((ak p).map (fP b)).map dl):=by
  rw [PP]
  exact bp dl (dl ∘ fP b) (ak p) fun q hq=>by simp [eY,atI,ixN,fP]
 have hw:∀ t ∈ (ak p).map (fP b),t.2.1 <= t.2.2:=by
  intro t ht
  obtain ⟨s,hs,rfl⟩:=Pt.mp ht
  have:=zn c s hs
  have:=hb.1
  simp only [fP]
  lia
 by_cases h0:b.2.1 = b.2.2.2
 ·refine ⟨(ak p).map (fP b),?_,hw,by rw [Ph];exact e1,fun x y=>?_⟩
  ·generalize ((ak p).map (fP b)).map dl = zs at hc
   simp [dt,cW,fnO,b9,h1,hl,hc,atI,ixN,h0]
  ·rw [uj c hb.1]
   constructor
   ·rintro ⟨dx,d1,d2,h⟩
    exact ⟨dx,b.2.1,⟨d1,d2,by lia,by lia⟩,h⟩
   ·rintro ⟨dx,dy,⟨d1,d2,d3,d4⟩,h⟩
    refine ⟨dx,d1,d2,?_⟩
    rwa [show b.2.1 = dy by lia]
 ·have lw:(ak (gZ ((ak p).map (fP b)))).length <= (ak p).length:=by
   have:=nB ((ak p).map (fP b))
   rwa [Ph] at this
  have e2:(2 * n + 1) * (ak (gZ ((ak p).map (fP b)))).length <= (2 * n + 1) * (ak p).length:=RD _ lw
  obtain ⟨q,a1,a2,a3,a4⟩:=sd (gZ ((ak p).map (fP b))) (fT _).1 n (by lia)
  have hp:=ic ((ak p).map (fP b)) (by rw [Ph];lia)
  have h2:=cE q (by lia)
  have a1':gR [aB (gZ ((ak p).map (fP b))),.int (b.2.2.2 - b.2.1)] = some (aB q):=by rw [hn];exact a1
  refine ⟨ak q,?_,zn a2,by lia,fun x y=>?_⟩
  ·generalize gZ ((ak p).map (fP b)) = w at hp a1'
   generalize ((ak p).map (fP b)).map dl = zs at hc hp
   simp [dt,cW,fnO,b9,h1,hl,hc,atI,ixN,h0,hp,a1',h2]
  ·rw [ko,a4]
   constructor
   ·rintro ⟨j,j0,j1,h⟩
    rw [(fT _).2,uj c hb.1] at h
    obtain ⟨dx,d1,d2,h⟩:=h
    exact ⟨dx,b.2.1 + j,⟨d1,d2,by lia,by lia⟩,by rwa [show y - (b.2.1 + j) = y - j - b.2.1 by lia]⟩
   ·rintro ⟨dx,dy,⟨d1,d2,d3,d4⟩,h⟩
    refine ⟨dy - b.2.1,by lia,by lia,?_⟩
    rw [(fT _).2,uj c hb.1]
    exact ⟨dx,d1,d2,by rwa [show y - (dy - b.2.1) - b.2.1 = y - dy by lia]⟩
def dA (b:Blk):Nat:=2 * (b.2.2.2 - b.2.1).toNat + 1
def a9 (bs:List Blk):Nat:=(bs.map dA).sum
def GrP (p:Pic) (bs:List Blk) (x y:Int):Prop:=∃ b ∈ bs,GrB p b x y
theorem cH (as bs:List Blk):a9 (as ++ bs) = a9 as + a9 bs:=by unfold a9;rw [Qw,List.sum_append]
theorem mo (p:Pic) (c:aE p) (bs:List Blk) (hb:∀ b ∈ bs,BOk b) (hs:a9 bs * (ak p).length <= 10000):∃ q:Pic,f6 [aB p,.tup (bs.map cn)] = some (aB q) /\ aE q /\ (ak q).length <= a9 bs * (ak p).length /\ ∀ x y,bg q x y ↔ GrP p bs x y:=by
 obtain ⟨ρ',k1,ts,v3,rfl,b1,b2⟩:=gF (g:=ah 3) (m:=cV) cn (fun pre ρ=>∃ (ts:List Tri) (v3:Sl),ρ = [.sh (aB p),.sh (.tup (bs.map cn)),.ow (.lst (ts.map (O.sh ∘ dl))),v3] /\ ts.length <= a9 pre * (ak p).length /\ ∀ x y,kq ts x y ↔ GrP p pre x y) bs [.sh (aB p),.sh (.tup (bs.map cn)),.ow (.lst []),.un] ⟨[],_,rfl,by simp [a9],fun x y=>⟨fun ⟨_,h,_⟩=>(by cases h),fun ⟨_,h,_⟩=>(by cases h)⟩⟩ (by
  rintro pre b post _ e ⟨ts,v3,rfl,l1,l2⟩
  have hbb:=hb b (by rw [e];simp)
  have hh:a9 pre + dA b <= a9 bs:=by
   rw [e,cH]
   have:a9 (b :: post) = dA b + a9 post:=rfl
   lia
  have hh2:(a9 pre + dA b) * (ak p).length <= a9 bs * (ak p).length:=QQ _ hh
  rw [Qo] at hh2
  obtain ⟨us,c1,c2,c3,c4⟩:=l7 p c b hbb (b.2.2.2 - b.2.1).toNat (by have:=hbb.2;lia) (by show dA b * _ <= _;lia)
  have c3':us.length <= dA b * (ak p).length:=c3
  have hl:ts.length + us.length <= LIM:=aZ (by lia)
  refine ⟨_,[.sh (aB p),.sh (.tup (bs.map cn)),.ow (.lst ((ts ++ us).map (O.sh ∘ dl))),.sh (cn b)],rfl,.inl ?_,ts ++ us,_,rfl,?_,fun x y=>?_⟩
  ·simp [cV,c1,hl]
  ·rw [Ps,cH,Qo]
   have:a9 [b] = dA b:=by simp [a9]
   rw [this]
   lia
  ·rw [mL,l2,c4]
   unfold GrP
   simp only [Pu,Pi]
   constructor
   ·rintro (⟨z,hz,h⟩ | h)
    ·exact ⟨z,.inl hz,h⟩
    ·exact ⟨b,.inr rfl,h⟩
   ·rintro ⟨z,hz | rfl,h⟩
    ·exact .inl ⟨z,hz,h⟩
    ·exact .inr h)
 have hp:=ic ts (by lia)
 have hl:=nB ts
 refine ⟨gZ ts,?_,(fT _).1,by lia,fun x y=>by rw [(fT _).2,b2]⟩
 simp [f6,fG,fnO,d8,k1,hp,frz]
def wf (acc:List Blk) (t:Tri):List Blk:=match acc.getLast? with
 | some l=>if l.1 = t.1 /\ l.2.2.1 = t.2.1 /\ l.2.2.2 = t.2.2 - 1 then acc.dropLast ++ [(t.1,l.2.1,t.2.1,t.2.2)] else acc ++ [(t.1,t.2.2,t.2.1,t.2.2)]
 | none=>[(t.1,t.2.2,t.2.1,t.2.2)]
theorem EC (t:Tri):wf [] t = [(t.1,t.2.2,t.2.1,t.2.2)]:=rfl
theorem uR (acc:List Blk) (l:Blk) (t:Tri):wf (acc ++ [l]) t = if l.1 = t.1 /\ l.2.2.1 = t.2.1 /\ l.2.2.2 = t.2.2 - 1 then acc ++ [(t.1,l.2.1,t.2.1,t.2.2)] else acc ++ [l] ++ [(t.1,t.2.2,t.2.1,t.2.2)]:=by
 unfold wf
 rw [List.getLast?_append]
 simp
def tF (ts:List Tri):List Blk:=ts.foldl wf []
theorem xj (pre:List Tri) (t:Tri):tF (pre ++ [t]) = wf (tF pre) t:=by unfold tF;rw [List.foldl_append];rfl
theorem IK (b c:Blk):dEq false (cn b) (cn c) = some (.bl (decide (b = c))):=by
 have h:∀ b:Blk,okD 50 (cn b) = true:=fun b=>by simp [okD,okDs]
 unfold dEq
 rw [Pb ⟨h b,h c⟩]
 obtain ⟨b1,b2,b3,b4⟩:=b
 obtain ⟨c1,c2,c3,c4⟩:=c
 simp [eqD,eqDs,Prod.ext_iff]
 by_cases h1:b1 = c1 <;> by_cases h2:b2 = c2 <;> by_cases h3:b3 = c3 <;> by_cases h4:b4 = c4 <;> simp [h1,h2,h3,h4]
theorem K3 (l:Blk) (a b y:Int):l = (a,l.2.1,b,y) ↔ l.1 = a /\ l.2.2.1 = b /\ l.2.2.2 = y:=by
 obtain ⟨b1,b2,b3,b4⟩:=l
 simp [Prod.ext_iff]
theorem zP (s0:Sl) (acc:List Blk) (t:Tri) (h:acc.length <= 30000):bZ [s0,owl (acc.map cn),.sh (.int t.1),.sh (.int t.2.1),.sh (.int t.2.2)] = some (.nx [s0,owl ((wf acc t).map cn),.sh (.int t.1),.sh (.int t.2.1),.sh (.int t.2.2)]):=by
 rcases Qu acc with rfl | ⟨r,l,rfl⟩
 ·simp [bZ,EC]
 ·rw [Qz] at *
  rw [uR]
  have hl:r.length + 1 <= 30000:=by simpa using h
  have hlim:r.length + 1 < LIM:=nK (by lia)
  have at1:atI (r.map cn ++ [cn l]) (-1) = some (cn l):=kD _ _
  have ix1:atI [D.int l.1,.int l.2.1,.int l.2.2.1,.int l.2.2.2] 1 = some (.int l.2.1):=by simp [atI,ixN]
  have de:=IK l (t.1,l.2.1,t.2.1,t.2.2 - 1)
  have ee:=K3 l t.1 t.2.1 (t.2.2 - 1)
  by_cases hc:l.1 = t.1 /\ l.2.2.1 = t.2.1 /\ l.2.2.2 = t.2.2 - 1
  ·rw [Pb hc]
   rw [QD (ee.mpr hc)] at de
   simp [bZ,at1,ix1,de,wg]
  ·rw [Pc hc]
   rw [PX fun z=>hc (ee.mp z)] at de
   simp [bZ,at1,ix1,de,hlim]
structure BsOk (bs:List Blk) (ts:List Tri):Prop where
 ok:∀ b ∈ bs,BOk b
 mem:∀ x y,(∃ b ∈ bs,mH b x y) ↔ ∃ t ∈ ts,t.1 <= x /\ x <= t.2.1 /\ y = t.2.2
 len:a9 bs + bs.length = 2 * ts.length
theorem rZ (bs:List Blk) (b:Blk) (x y:Int):(∃ c ∈ bs ++ [b],mH c x y) ↔ (∃ c ∈ bs,mH c x y) \/ mH b x y:=by
 constructor
 ·rintro ⟨c,hc,h⟩
  rcases Pu.mp hc with hc | hc
  ·exact .inl ⟨c,hc,h⟩
  ·rw [Pi] at hc;subst hc;exact .inr h
 ·rintro (⟨c,hc,h⟩ | h)
  ·exact ⟨c,Py _ hc,h⟩
  ·exact ⟨b,Pr _ (Pi.mpr rfl),h⟩
theorem AE (ts:List Tri) (t:Tri) (x y:Int):(∃ s ∈ ts ++ [t],s.1 <= x /\ x <= s.2.1 /\ y = s.2.2) ↔ (∃ s ∈ ts,s.1 <= x /\ x <= s.2.1 /\ y = s.2.2) \/ (t.1 <= x /\ x <= t.2.1 /\ y = t.2.2):=by
 constructor
 ·rintro ⟨c,hc,h⟩
  rcases Pu.mp hc with hc | hc
  ·exact .inl ⟨c,hc,h⟩
  ·rw [Pi] at hc;subst hc;exact .inr h
 ·rintro (⟨c,hc,h⟩ | h)
  ·exact ⟨c,Py _ hc,h⟩
  ·exact ⟨t,Pr _ (Pi.mpr rfl),h⟩
theorem iU (b:Blk):a9 [b] = dA b:=by simp [a9]
theorem Gd {bs:List Blk} {ts:List Tri} {t:Tri} (o:BsOk bs ts) (ht:t.1 <= t.2.1):BsOk (wf bs t) (ts ++ [t]):=by
 have new:∀ x y,mH (t.1,t.2.2,t.2.1,t.2.2) x y ↔ t.1 <= x /\ x <= t.2.1 /\ y = t.2.2:=fun x y=>by
  unfold mH
  dsimp only
  constructor
  ·rintro ⟨h1,h2,h3,h4⟩;exact ⟨h1,h2,by lia⟩
  ·rintro ⟨h1,h2,h3⟩;exact ⟨h1,h2,by lia,by lia⟩
 have hn:dA (t.1,t.2.2,t.2.1,t.2.2) = 1:=by simp [dA]
 have app:BsOk (bs ++ [(t.1,t.2.2,t.2.1,t.2.2)]) (ts ++ [t]):=by
  refine ⟨fun b hb=>?_,fun x y=>by rw [rZ,AE,o.mem,new],?_⟩
  ·rcases Pu.mp hb with hb | hb
   ·exact o.ok b hb
   ·rw [Pi] at hb;subst hb;exact ⟨ht,PC _⟩
  ·have:=o.len
   rw [cH,iU,hn,Ps,Ps,Qm,Qm]
   lia
 rcases Qu bs with rfl | ⟨r,l,rfl⟩
 ·exact app
 ·rw [Qz] at *
  rw [uR]
  by_cases hc:l.1 = t.1 /\ l.2.2.1 = t.2.1 /\ l.2.2.2 = t.2.2 - 1
  ·rw [Pb hc]
   have lo:=o.ok l (by simp)
   refine ⟨fun b hb=>?_,fun x y=>?_,?_⟩
   ·rcases Pu.mp hb with hb | hb
    ·exact o.ok b (Py _ hb)
    ·rw [Pi] at hb;subst hb
     have:=lo.2
     exact ⟨ht,by dsimp only;lia⟩
   ·rw [AE,<- o.mem,rZ,rZ,or_assoc]
    refine or_congr Qt ?_
    have:=lo.2
    unfold mH
    dsimp only
    constructor
    ·rintro ⟨h1,h2,h3,h4⟩
     by_cases e:y = t.2.2
     ·exact .inr ⟨h1,h2,e⟩
     ·exact .inl ⟨by lia,by lia,h3,by lia⟩
    ·rintro (⟨h1,h2,h3,h4⟩ | ⟨h1,h2,h3⟩)
     ·exact ⟨by lia,by lia,h3,by lia⟩
     ·exact ⟨h1,h2,by lia,by lia⟩
   ·have h1:=o.len
    have h2:=lo.2
    have h3:dA (t.1,l.2.1,t.2.1,t.2.2) = dA l + 2:=by unfold dA;dsimp only;lia
    rw [cH,iU,Ps,Qm] at h1
    rw [cH,iU,h3,Ps,Ps,Qm,Qm]
    lia
  ·rw [Pc hc]
   exact app
theorem CI:∀ (post pre:List Tri),(∀ t ∈ pre ++ post,t.1 <= t.2.1) -> BsOk (tF pre) pre -> BsOk (tF (pre ++ post)) (pre ++ post)
 | [],pre,_,o=>by rw [Qa];exact o
 | t :: post,pre,h,o=>by
  have e:pre ++ t :: post = (pre ++ [t]) ++ post:=by simp
  rw [e] at h ⊢
  refine CI post (pre ++ [t]) h ?_
  rw [xj]
  exact Gd o (h t (by simp))
theorem A3 {ts:List Tri} (h:∀ t ∈ ts,t.1 <= t.2.1):BsOk (tF ts) ts:=by
 have:=CI ts [] (by simpa using h) ⟨fun _ h=>(by cases h),fun x y=>⟨fun ⟨_,h,_⟩=>(by cases h),fun ⟨_,h,_⟩=>(by cases h)⟩,rfl⟩
 simpa using this
def cI (p:Pic):List Blk:=tF (dE ((ak p).map fun t=>(t.2.1,t.2.2,t.1)))
theorem mV (p:Pic) (c:aE p) (h:(ak p).length < 30000):mR [aB p] = some (.tup ((cI p).map cn)) /\ (∀ b ∈ cI p,BOk b) /\ a9 (cI p) <= 2 * (ak p).length /\ ∀ x y,(∃ b ∈ cI p,mH b x y) ↔ bg p x y:=by
 have hperm:=fy ((ak p).map fun t=>(t.2.1,t.2.2,t.1))
 have hlen:(dE ((ak p).map fun t=>(t.2.1,t.2.2,t.1))).length = (ak p).length:=by rw [hperm.length_eq,Ph]
 have hok:∀ t ∈ dE ((ak p).map fun t=>(t.2.1,t.2.2,t.1)),t.1 <= t.2.1:=by
  intro t ht
  obtain ⟨s,hs,rfl⟩:=Pt.mp (hperm.mem_iff.mp ht)
  exact zn c s hs
 have o:=A3 hok
 have ol:=o.len
 refine ⟨?_,o.ok,by have:=o.len;show a9 (tF _) <= _;lia,fun x y=>?_⟩
 ·obtain ⟨ρ',k1,v2,v3,v4,rfl⟩:=gF (g:=bj (au (ah 2) (au (ah 3) (au (ah 4) bh)))) (m:=bZ) dl (fun pre ρ=>∃ v2 v3 v4,ρ = [.sh (aB p),owl ((tF pre).map cn),v2,v3,v4]) (dE ((ak p).map fun t=>(t.2.1,t.2.2,t.1))) [.sh (aB p),.ow (.lst []),.un,.un,.un] ⟨_,_,_,rfl⟩ (by
   rintro pre t post _ e ⟨v2,v3,v4,rfl⟩
   have hp:pre.length <= (ak p).length:=by
    rw [<- hlen,e,Ps];lia
   have opre:=A3 (ts:=pre) fun t ht=>hok t (by rw [e];exact Py _ ht)
   have:=opre.len
   have h1:(tF pre).length <= a9 (tF pre):=by
    have:∀ bs:List Blk,bs.length <= a9 bs:=by
     intro bs
     induction bs with
     | nil=>exact P8 _
     | cons b bs ih=>
      have e2:a9 (b :: bs) = dA b + a9 bs:=rfl
      rw [e2,Pw]
      unfold dA
      lia
    exact this _
   refine ⟨_,_,rfl,.inl (zP _ (tF pre) t (by lia)),.sh (.int t.1),.sh (.int t.2.1),.sh (.int t.2.2),by rw [xj]⟩)
  have h1:=cE p (by lia)
  have hl:(ak p).length <= LIM:=aZ (by lia)
  have hc:bV (bj (au (ah 0) (au (ah 1) (au (ah 2) bh)))) cU (aL (af (aq 1) (af (aq 2) (af (aq 0) ao)))) [.un,.un,.un] ((ak p).map dl) = some (((ak p).map fun t=>(t.2.1,t.2.2,t.1)).map dl):=by
   rw [PP]
   exact bp dl (dl ∘ fun t=>(t.2.1,t.2.2,t.1)) (ak p) fun q hq=>by simp [eY]
  have hb:=pE ((ak p).map fun t=>(t.2.1,t.2.2,t.1)) (by rw [Ph];exact h)
  have k2:iq (bj (au (ah 2) (au (ah 3) (au (ah 4) bh)))) bZ ((dE ((ak p).map fun t=>(t.2.1,t.2.2,t.1))).map dl) [.sh (aB p),.ow (.lst []),.un,.un,.un] = some (.nx [.sh (aB p),owl ((cI p).map cn),v2,v3,v4]):=k1
  generalize cI p = bs at k2
  generalize (dE ((ak p).map fun t=>(t.2.1,t.2.2,t.1))).map dl = zs at k2 hb
  generalize ((ak p).map fun t=>(t.2.1,t.2.2,t.1)).map dl = ws at hb hc
  simp [mR,kW,fnO,jN,h1,hl,hc,hb,k2]
 ·unfold cI
  rw [o.mem,<- ko]
  constructor
  ·rintro ⟨t,ht,h1,h2,h3⟩
   obtain ⟨s,hs,rfl⟩:=Pt.mp (hperm.mem_iff.mp ht)
   exact ⟨s,hs,h3.symm,h1,h2⟩
  ·rintro ⟨s,hs,h1,h2,h3⟩
   exact ⟨_,hperm.mem_iff.mpr (Pt.mpr ⟨s,hs,rfl⟩),h2,h3,h1.symm⟩
abbrev fR (bs:List Blk):D:=.tup (bs.map cn)
abbrev cP (ps:List (List Blk)):D:=.tup (ps.map fR)
abbrev aH (N:Str) (ps:List (List Blk)):D:=.ins N ["parts"] [cP ps]
def EA (bs:List Blk) (x y:Int):Prop:=∃ b ∈ bs,mH b x y
def Off:List (List Blk) -> Int -> Int -> Prop
 | [],x,y=>x = 0 /\ y = 0
 | bs :: r,x,y=>∃ u v,EA bs u v /\ Off r (x - u) (y - v)
def FOk (ps:List (List Blk)):Prop:=∀ bs ∈ ps,bs ≠ [] /\ ∀ b ∈ bs,BOk b
theorem Ig (p:Pic) (bs:List Blk) (x y:Int):GrP p bs x y ↔ ∃ u v,EA bs u v /\ bg p (x - u) (y - v):=by
 constructor
 ·rintro ⟨b,hb,dx,dy,h1,h2⟩
  exact ⟨dx,dy,⟨b,hb,h1⟩,h2⟩
 ·rintro ⟨dx,dy,⟨b,hb,h1⟩,h2⟩
  exact ⟨b,hb,dx,dy,h1,h2⟩
def Hi:Pic:=[(0,[(0,0)])]
def shr (r:R) (lo hi:Int):R:=lF (r.map fun p=>(p.1 - lo,p.2 - hi))
theorem tW (r:R) (lo hi:Int) (h:r.length <= 1000):iJ [cu r,.int lo,.int hi] = some (cu (shr r lo hi)):=by
 have hl:r.length <= LIM:=aZ (by lia)
 have hc:bV (bj (au (ah 0) (au (ah 1) bh))) cU (aL (af (xOp gD (ai 0) (ai 2)) (af (xOp gD (ai 1) (ai 3)) ao))) [.un,.un,.sh (.int lo),.sh (.int hi)] (r.map prD) = some (r.map fun p=>prD (p.1 - lo,p.2 - hi)):=bp prD _ r fun p _=>by simp [eY]
 have hm:=mh (r.map fun p=>(p.1 - lo,p.2 - hi)) (by rw [Ph];lia)
 rw [Bz,PP] at hm
 have e:(prD ∘ fun p:Int × Int=>(p.1 - lo,p.2 - hi)) = fun p=>prD (p.1 - lo,p.2 - hi):=rfl
 rw [e] at hm
 try simp at hm
 try simp at hc
 simp [iJ,kd,fnO,iE,hl,hc,hm,shr]
theorem C2 (r:R) (lo hi x:Int):Mem (shr r lo hi) x ↔ ∃ p ∈ r,p.1 <= x + lo /\ x + hi <= p.2:=by
 unfold shr
 rw [(fN _).2 x]
 constructor
 ·rintro ⟨q,hq,h1,h2⟩
  obtain ⟨p,hp,rfl⟩:=Pt.mp hq
  dsimp only at h1 h2
  exact ⟨p,hp,by lia,by lia⟩
 ·rintro ⟨p,hp,h1,h2⟩
  exact ⟨_,Pt.mpr ⟨p,hp,rfl⟩,by dsimp only;lia,by dsimp only;lia⟩
theorem D9 (r:R) (lo hi:Int):bE (shr r lo hi):=(fN _).1
theorem Iy (r:R) (lo hi:Int):(shr r lo hi).length <= r.length:=by
 have:=xu (r.map fun p=>(p.1 - lo,p.2 - hi))
 rw [Ph] at this
 exact this
def K4 (P:Int -> Int -> Prop) (b:Blk) (x y:Int):Prop:=∀ dx dy,mH b dx dy -> P (x + dx) (y + dy)
theorem nH {r:R} (c:bE r) {i j:Nat} {p q:Int × Int} (hi:r[i]? = some p) (hj:r[j]? = some q) (hij:i < j):p.2 + 2 <= q.1:=by
 obtain ⟨h1,rfl⟩:=PF.mp hi
 obtain ⟨h2,rfl⟩:=PF.mp hj
 exact QM.mp c.2 i j h1 h2 hij
theorem Ar {r:R} (c:bE r) {u v:Int} (h:u <= v) (hm:∀ z,u <= z -> z <= v -> Mem r z):∃ s ∈ r,s.1 <= u /\ v <= s.2:=by
 obtain ⟨s,hs,h1,h2⟩:=hm u (PC _) h
 refine ⟨s,hs,h1,?_⟩
 by_cases hv:v <= s.2
 ·exact hv
 ·obtain ⟨t,ht,k1,k2⟩:=hm (s.2 + 1) (by lia) (by lia)
  obtain ⟨i,hi⟩:=Qn hs
  obtain ⟨j,hj⟩:=Qn ht
  rcases Nat.lt_trichotomy i j with hij | hij | hij
  ·have:=nH c hi hj hij
   lia
  ·subst hij
   rw [hi] at hj
   cases hj
   lia
  ·have:=nH c hj hi hij
   have:=c.1 s hs
   lia
def Mf (p:Pic) (u v y:Int):Prop:=∃ q ∈ p,q.1 = y /\ ∃ s ∈ q.2,s.1 <= u /\ v <= s.2
theorem F5 {p:Pic} (c:aE p) {u v y:Int} (h:u <= v):Mf p u v y ↔ ∀ z,u <= z -> z <= v -> bg p z y:=by
 constructor
 ·rintro ⟨q,hq,e,s,hs,h1,h2⟩ z k1 k2
  exact ⟨q,hq,e,s,hs,by lia,by lia⟩
 ·intro hm
  have hr:=jT c y
  obtain ⟨s,hs,h1,h2⟩:=Ar hr h fun z k1 k2=>(rB c z y).mpr (hm z k1 k2)
  obtain ⟨q,hq,e,_⟩:=hm u (PC _) h
  refine ⟨q,hq,e,s,?_,h1,h2⟩
  rw [<- e,nz c hq] at hs
  exact hs
def wu (p:Pic) (b:Blk):Pic:=(p.map fun q=>(q.1 - b.2.1,shr q.2 b.1 b.2.2.1)).filter iG
theorem Bm {p:Pic} (c:aE p) (b:Blk):aE (wu p b):=by
 refine ⟨fun q hq=>?_,?_⟩
 ·obtain ⟨h1,h2⟩:=PL.mp hq
  obtain ⟨z,hz,rfl⟩:=Pt.mp h1
  exact ⟨D9 _ _ _,by simpa [iG] using h2⟩
 ·refine Sb _ ?_
  rw [Qs]
  exact c.2.imp fun {s t} h=>by dsimp only;lia
theorem AH {p:Pic} (c:aE p) {b:Blk} (hb:b.1 <= b.2.2.1) (x y:Int):bg (wu p b) x y ↔ ∀ dx,b.1 <= dx -> dx <= b.2.2.1 -> bg p (x + dx) (y + b.2.1):=by
 have h1:bg (wu p b) x y ↔ Mf p (x + b.1) (x + b.2.2.1) (y + b.2.1):=by
  constructor
  ·rintro ⟨q,hq,e,hm⟩
   obtain ⟨z,hz,rfl⟩:=Pt.mp (PL.mp hq).1
   dsimp only at e hm
   obtain ⟨s,hs,k1,k2⟩:=(C2 _ _ _ _).mp hm
   exact ⟨z,hz,by lia,s,hs,k1,k2⟩
  ·rintro ⟨z,hz,e,s,hs,k1,k2⟩
   have hm:Mem (shr z.2 b.1 b.2.2.1) x:=(C2 _ _ _ _).mpr ⟨s,hs,k1,k2⟩
   refine ⟨(z.1 - b.2.1,shr z.2 b.1 b.2.2.1),PL.mpr ⟨Pt.mpr ⟨z,hz,rfl⟩,?_⟩,by dsimp only;lia,hm⟩
   unfold iG
   rw [RP,Sc]
   intro e'
   dsimp only at e'
   rw [e'] at hm
   exact bz _ hm
 rw [h1,F5 c (by lia)]
 constructor
 ·intro h dx k1 k2
  exact h (x + dx) (by lia) (by lia)
 ·intro h z k1 k2
  have:=h (z - x) (by lia) (by lia)
  rwa [show x + (z - x) = z by lia] at this
theorem k8 {f:Int × R -> Int × R}:∀ p:Pic,(∀ q ∈ p,(f q).2.length <= q.2.length) -> (ak (p.map f)).length <= (ak p).length
 | [],_=>Pj _
 | q :: p,h=>by
  have h1:=k8 p fun s hs=>h s (Po _ hs)
  have h2:=h q Pm
  rw [Px,bM,bM,Ps,Ps,Ph,Ph]
  lia
theorem GQ (p:Pic) (b:Blk):(wu p b).length <= p.length /\ (ak (wu p b)).length <= (ak p).length:=by
 unfold wu
 rw [fU]
 refine ⟨?_,k8 p fun q _=>Iy _ _ _⟩
 have:=Qv iG (p.map fun q=>(q.1 - b.2.1,shr q.2 b.1 b.2.2.1))
 rwa [Ph] at this
theorem Bd:∀ (q p:Pic),p.Pairwise (fun s t=>s.1 < t.1) -> (p.map fun s=>(bK q s.1).length).sum <= (ak q).length
 | [],p,_=>by
  have:∀ p:Pic,(p.map fun s=>(bK [] s.1).length).sum = 0:=by
   intro p
   induction p with
   | nil=>rfl
   | cons s p ih=>rw [Px,Qx,ih];rfl
  rw [this]
  exact P8 _
 | t :: q,p,hp=>by
  have ih:=Bd q p hp
  have key:∀ p:Pic,p.Pairwise (fun s t=>s.1 < t.1) -> (p.map fun s=>(bK (t :: q) s.1).length).sum <= t.2.length + (p.map fun s=>(bK q s.1).length).sum /\ ((∀ s ∈ p,t.1 ≠ s.1) -> (p.map fun s=>(bK (t :: q) s.1).length).sum <= (p.map fun s=>(bK q s.1).length).sum):=by
   intro p
   induction p with
   | nil=>intro _;simp
   | cons s p ihp=>
    intro hp
    obtain ⟨k1,k2⟩:=Re.mp hp
    obtain ⟨i1,i2⟩:=ihp k2
    have er:bK (t :: q) s.1 = if t.1 = s.1 then t.2 else bK q s.1:=by
     unfold bK
     rw [List.find?_cons]
     by_cases h:t.1 = s.1 <;> simp [h]
    simp only [Px,Qx,er]
    by_cases h:t.1 = s.1
    ·rw [Pb h]
     refine ⟨?_,fun hn=>absurd h (hn s Pm)⟩
     have:=i2 fun z hz e=>by have:=k1 z hz;lia
     lia
    ·rw [Pc h]
     refine ⟨by lia,fun hn=>?_⟩
     have:=i2 fun z hz=>hn z (Po _ hz)
     lia
  have:=(key p hp).1
  rw [bM,Ps,Ph]
  lia
theorem G3 {p q:Pic} (cp:aE p):(ak (cmP p q)).length <= (ak p).length + (ak q).length:=by
 have h1:=Bd q p cp.2
 have key:∀ p:Pic,(ak (p.map fun s=>(s.1,d7 s.2 (bK q s.1)))).length <= (ak p).length + (p.map fun s=>(bK q s.1).length).sum:=by
  intro p
  induction p with
  | nil=>simp [ak]
  | cons s p ih=>
   have:=ur _ s.2 (bK q s.1) rfl
   rw [Px,bM,bM,Ps,Ps,Ph,Ph,Px,Qx]
   dsimp only
   lia
 unfold cmP sT
 rw [fU]
 have:=key p
 lia
theorem C9 (p q:Pic):(cmP p q).length <= p.length:=by
 unfold cmP sT
 have:=Qv iG (p.map fun s=>(s.1,d7 s.2 (bK q s.1)))
 rwa [Ph] at this
theorem si (p:Pic) (c:aE p) (n:Nat) (hp:p.length <= 10000) (hs:(2 * n + 1) * (ak p).length <= 10000):∃ q:Pic,gQ [aB p,.int (n:Int)] = some (aB q) /\ aE q /\ q.length <= p.length /\ (ak q).length <= (2 * n + 1) * (ak p).length /\ ∀ x y,bg q x y ↔ ∀ j:Int,0 <= j -> j <= n -> bg p x (y + j):=by
 obtain ⟨ρ',k1,q,v2,v3,rfl,a1,a2,a3,a4⟩:=lv (c:=dD) (m:=fm)
  (fun ρ=>∃ (q:Pic) (k:Nat) (v3:Sl),ρ = [.sh (aB q),.sh (.int (n:Int)),.sh (.int (k:Int)),v3] /\ k <= n /\ aE q /\ q.length <= p.length /\ ((ak q).length <= (k + 1) * (ak p).length \/ (k = n /\ (ak q).length <= (2 * n + 1) * (ak p).length)) /\ (k = 0 -> (ak q).length <= (ak p).length) /\ ∀ x y,bg q x y ↔ ∀ j:Int,0 <= j -> j <= k -> bg p x (y + j))
  (fun ρ=>match ρ with | [_,.sh (.int n),.sh (.int k),_]=>(n - k).toNat | _=>0)
  (fun ρ=>∃ (q:Pic) (v2 v3:Sl),ρ = [.sh (aB q),.sh (.int (n:Int)),v2,v3] /\ aE q /\ q.length <= p.length /\ (ak q).length <= (2 * n + 1) * (ak p).length /\ ∀ x y,bg q x y ↔ ∀ j:Int,0 <= j -> j <= n -> bg p x (y + j))
  (by
   rintro _ ⟨q,k,v3,rfl,hk,c',hl,hsz,h0,hm⟩
   by_cases hc:k < n
   ·right
    have hc':(k:Int) < n:=by lia
    refine ⟨by simp [dD,hc'],?_⟩
    have hsz':(ak q).length <= (k + 1) * (ak p).length:=hsz.elim id fun h=>by lia
    generalize hst:(if (n:Int) - k < (k:Int) + 1 then (n:Int) - k else (k:Int) + 1) = st
    have hst1:1 <= st /\ st <= k + 1 /\ st <= n - k /\ (st = k + 1 \/ st = n - k):=by rw [<- hst];split <;> lia
    have e1:(k + 1) * (ak p).length <= (2 * n + 1) * (ak p).length:=QQ _ (by lia)
    have lq:(ak q).length <= 10000:=by lia
    have mv:=vk q 0 (-st) (by lia) fun z hz=>by have:=dX hz;lia
    have cmv:=DT c' 0 (-st)
    have lmv:(mvP q 0 (-st)).length = q.length:=by unfold mvP;rw [Ph]
    have smv:=GN q 0 (-st)
    have cm:=sZ (p:=q) (q:=mvP q 0 (-st)) cmv (by lia) (by lia) (by lia)
    have scm:=G3 (p:=q) (q:=mvP q 0 (-st)) c'
    have rcm:=C9 q (mvP q 0 (-st))
    have ek:(((k + st.toNat:Nat)):Int) = (k:Int) + st:=by lia
    refine ⟨[.sh (aB (cmP q (mvP q 0 (-st)))),.sh (.int (n:Int)),.sh (.int ((k + st.toNat:Nat):Int)),.sh (.int st)],?_,⟨cmP q (mvP q 0 (-st)),k + st.toNat,_,rfl,by lia,xh c' cmv,by lia,?_,fun z=>by lia,fun x y=>?_⟩,by dsimp only;lia⟩
    ·rw [ek]
     simp [fm,hst,mv,cm]
    ·rcases hst1.2.2.2 with e | e
     ·left
      have e2:(k + st.toNat + 1) * (ak p).length = (k + 1) * (ak p).length + (k + 1) * (ak p).length:=by
       rw [<- Qo]
       congr 1
       lia
      lia
     ·right
      have e2:(k + 1) * (ak p).length + (k + 1) * (ak p).length <= (2 * n + 1) * (ak p).length:=by
       rw [<- Qo]
       exact QQ _ (by lia)
      exact ⟨by lia,by lia⟩
    ·rw [C3 c' cmv,Dr,hm,hm,show x - 0 = x by lia,show y - -st = y + st by lia]
     constructor
     ·rintro ⟨g1,g2⟩ j j0 j1
      by_cases hj:j <= k
      ·exact g1 j j0 hj
      ·have:=g2 (j - st) (by lia) (by lia)
       rwa [show y + st + (j - st) = y + j by lia] at this
     ·intro g
      refine ⟨fun j j0 j1=>g j j0 (by lia),fun j j0 j1=>?_⟩
      have:=g (st + j) (by lia) (by lia)
      rwa [show y + (st + j) = y + st + j by lia] at this
   ·left
    have ek:k = n:=by lia
    subst ek
    refine ⟨by simp [dD],q,_,_,rfl,c',hl,?_,hm⟩
    rcases hsz with h | h
    ·have:(k + 1) * (ak p).length <= (2 * k + 1) * (ak p).length:=QQ _ (by lia)
     lia
    ·exact h.2)
  [.sh (aB p),.sh (.int (n:Int)),.sh (.int 0),.un] ⟨p,0,.un,rfl,by lia,c,Pj _,.inl (by lia),fun _=>Pj _,fun x y=>⟨fun h j j0 j1=>by rwa [show y + j = y by lia],fun h=>by have:=h 0 (by lia) (by lia);rwa [show y + 0 = y by lia] at this⟩⟩
 exact ⟨q,by simp [gQ,jA,fnO,gS,k1],a1,a2,a3,a4⟩
theorem gy (p:Pic) (c:aE p) (b:Blk) (hb:BOk b) (n:Nat) (hn:b.2.2.2 - b.2.1 = n) (hp:p.length <= 1000) (hs:(2 * n + 1) * (ak p).length <= 10000) (hr:∀ q ∈ p,q.2.length <= 1000):∃ q:Pic,du [aB p,cn b] = some (aB q) /\ aE q /\ q.length <= p.length /\ (ak q).length <= (2 * n + 1) * (ak p).length /\ ∀ x y,bg q x y ↔ K4 (bg p) b x y:=by
 have hl:p.length <= LIM:=aZ (by lia)
 have hc:bV (bj (au (ah 0) (au (ah 1) bh))) cU (aL (af (xOp gD (ai 0) (xOp dIx (ai 2) (xC (.int 1)))) (af (aF iJ (af (aq 1) (af (xOp dIx (ai 2) (xC (.int 0))) (af (xOp dIx (ai 2) (xC (.int 2))) ao)))) ao))) [.un,.un,.sh (cn b)] (p.map pyD) = some ((p.map fun q=>(q.1 - b.2.1,shr q.2 b.1 b.2.2.1)).map pyD):=by
  rw [PP]
  exact bp pyD (fun q=>pyD (q.1 - b.2.1,shr q.2 b.1 b.2.2.1)) p fun q hq=>by
   have a:=tW q.2 b.1 b.2.2.1 (hr q hq)
   simp [eY,a,atI,ixN]
 have hm:=cO (p.map fun q=>(q.1 - b.2.1,shr q.2 b.1 b.2.2.1)) (by rw [Ph];lia)
 have hnl:=GQ p b
 have e1:(2 * n + 1) * (ak (wu p b)).length <= (2 * n + 1) * (ak p).length:=RD _ hnl.2
 obtain ⟨q,a1,a2,a3,a4,a5⟩:=si (wu p b) (Bm c b) n (by lia) (by lia)
 refine ⟨q,?_,a2,by lia,by lia,fun x y=>?_⟩
 ·have a1':gQ [aB (wu p b),.int (b.2.2.2 - b.2.1)] = some (aB q):=by rw [hn];exact a1
  have hm':bx [.lst ((p.map fun q=>(q.1 - b.2.1,shr q.2 b.1 b.2.2.1)).map pyD)] = some (aB (wu p b)):=hm
  generalize (p.map fun q=>(q.1 - b.2.1,shr q.2 b.1 b.2.2.1)).map pyD = zs at hc hm'
  simp [du,eX,fnO,dw,hl,hc,hm',a1',atI,ixN]
 ·rw [a5]
  constructor
  ·intro h dx dy hd
   have h1:=(AH c hb.1 x (y + (dy - b.2.1))).mp (h (dy - b.2.1) (by have:=hd.2.2.1;lia) (by have:=hd.2.2.2;lia)) dx hd.1 hd.2.1
   rwa [show y + (dy - b.2.1) + b.2.1 = y + dy by lia] at h1
  ·intro h j j0 j1
   rw [AH c hb.1]
   intro dx d0 d1
   have:=h dx (j + b.2.1) ⟨d0,d1,by lia,by lia⟩
   rwa [show y + (j + b.2.1) = y + j + b.2.1 by lia] at this
theorem vQ {α:Type} (l:List α) (k:α -> Int) (enc:α -> D) (f g:Int) (he:∀ a,dIx (enc a) (.int 0) = some (.int (k a))) (hl:l.length <= 100000) (pw:l.Pairwise fun a b=>k a < k b) :
  ∃ l':List α,bF [.tup (l.map enc),.int f,.int g] = some (.tup (l'.map enc)) /\ l'.Sublist l /\ ∀ a ∈ l,k a <= g -> (∀ b ∈ l,k a < k b -> f < k b) -> a ∈ l':=by
 obtain ⟨n1,a1,b1,c1⟩:=gC l k enc f he hl pw
 obtain ⟨n2,a2,b2,c2⟩:=gC l k enc g he hl pw
 refine ⟨j8 l (some ((n1 - 1:Nat):Int)) (some (n2:Int)),?_,?_,fun a ha hg hb=>?_⟩
 ·have e1:(if ((n1:Int) - 1) > 0 then (n1:Int) - 1 else 0) = ((n1 - 1:Nat):Int):=by split <;> lia
  have e1':(if 1 < n1 then (n1:Int) - 1 else 0) = ((n1 - 1:Nat):Int):=by split <;> lia
  have e1'':(if (1:Int) < (n1:Int) then (n1:Int) - 1 else 0) = ((n1 - 1:Nat):Int):=by split <;> lia
  simp [bF,gM,fnO,fv,b1,b2,Cv,e1,e1',e1'',dSl]
 ·unfold j8
  exact (List.take_sublist _ _).trans (List.drop_sublist _ _)
 ·obtain ⟨i,hi⟩:=Qn ha
  have hil:=(PF.mp hi).1
  have h2:=(c2 i a hi).mp hg
  have h1:n1 - 1 <= i:=by
   by_cases h:n1 - 1 <= i
   ·exact h
   ·exfalso
    obtain ⟨b,hb'⟩:∃ b,l[i + 1]? = some b:=⟨_,Qi (show i + 1 < l.length by lia)⟩
    have h3:=(c1 (i + 1) b hb').mpr (by lia)
    obtain ⟨l1,e1⟩:=PF.mp hi
    obtain ⟨l2,e2⟩:=PF.mp hb'
    have h4:=QM.mp pw i (i + 1) l1 l2 (by lia)
    rw [e1,e2] at h4
    have:=hb b (QW hb') h4
    lia
  unfold j8
  rw [De (by lia),De (by lia),Int.toNat_natCast,Int.toNat_natCast,Nat.min_eq_left (by lia:n1 - 1 <= l.length),Nat.min_eq_left a2]
  refine QW (i:=i - (n1 - 1)) ?_
  rw [List.getElem?_take_of_lt (by lia),Ru,show n1 - 1 + (i - (n1 - 1)) = i by lia]
  exact hi
theorem F1 {r:R} (c:bE r) (h:r.length <= 100000) (f g:Int):∃ r':R,bF [cu r,.int f,.int g] = some (cu r') /\ r'.Sublist r /\ ∀ x,f <= x -> x <= g -> Mem r x -> Mem r' x:=by
 have pw:r.Pairwise fun a b=>a.1 < b.1:=by
  refine List.Pairwise.imp_of_mem ?_ c.2
  intro p q hp _ h
  have:=c.1 p hp
  lia
 obtain ⟨r',h1,h2,h3⟩:=vQ r (·.1) prD f g (fun a=>by simp) h pw
 refine ⟨r',h1,h2,fun x hf hg ⟨q,hq,k1,k2⟩=>⟨q,h3 q hq (by lia) fun b hb hlt=>?_,k1,k2⟩⟩
 obtain ⟨i,hi⟩:=Qn hq
 obtain ⟨j,hj⟩:=Qn hb
 rcases Nat.lt_trichotomy i j with hij | hij | hij
 ·have:=nH c hi hj hij
  lia
 ·subst hij
  rw [hi] at hj
  cases hj
  lia
 ·have:=nH c hj hi hij
  have:=c.1 b hb
  have:=c.1 q hq
  lia
theorem Em {r r':R} (c:bE r) (s:r'.Sublist r):bE r':=⟨fun q hq=>c.1 q (s.subset hq),c.2.sublist s⟩
theorem Dh:∀ (l:List Int),∀ x ∈ l,kJ l <= x
 | [],_,h=>by cases h
 | [a],x,h=>by rw [Pi.mp h];exact PC _
 | a :: b :: l,x,h=>by
  rw [xH]
  rcases Pq.mp h with rfl | h
  ·lia
  ·have:=Dh (b :: l) x h
   lia
theorem CJ:∀ (l:List Int),∀ x ∈ l,x <= mI l
 | [],_,h=>by cases h
 | [a],x,h=>by rw [Pi.mp h];exact PC _
 | a :: b :: l,x,h=>by
  have e:mI (a :: b :: l) = max a (mI (b :: l)):=rfl
  rw [e]
  rcases Pq.mp h with rfl | h
  ·lia
  ·have:=CJ (b :: l) x h
   lia
def sK (p:Pic):List Int:=p.map fun q=>(q.2.head?.getD (0,0)).1
def nA (p:Pic):List Int:=p.map fun q=>(q.2.getLast?.getD (0,0)).2
theorem D6 (p:Pic) (hn:∀ q ∈ p,q.2 ≠ []):bV (bj (au (ah 0) (au (ah 1) bh))) cU (xOp dIx (xOp dIx (ai 1) (xC (.int 0))) (xC (.int 0))) [.un,.un] (p.map pyD) = some ((sK p).map D.int):=by
 unfold sK
 rw [PP]
 refine bp pyD _ p fun q hq=>?_
 obtain ⟨y,r⟩:=q
 cases r with
 | nil=>exact absurd rfl (hn _ hq)
 | cons a r=>
  have f0:atI (prD a :: r.map prD) 0 = some (prD a):=jw (j:=0) rfl
  have f1:atI [D.int a.1,D.int a.2] 0 = some (.int a.1):=jw (j:=0) rfl
  simp [eY,f0,f1]
theorem Cs (p:Pic) (hn:∀ q ∈ p,q.2 ≠ []):bV (bj (au (ah 0) (au (ah 1) bh))) cU (xOp dIx (xOp dIx (ai 1) (xUn hU (xC (.int 1)))) (xC (.int 1))) [.un,.un] (p.map pyD) = some ((nA p).map D.int):=by
 unfold nA
 rw [PP]
 refine bp pyD _ p fun q hq=>?_
 obtain ⟨y,r⟩:=q
 rcases Qu r with rfl | ⟨r0,a,rfl⟩
 ·exact absurd rfl (hn _ hq)
 ·have f0:atI ((r0 ++ [a]).map prD) (-1) = some (prD a):=by
   unfold atI
   rw [Ph,Ps,Qm,wg]
   simp
  have f1:atI [D.int a.1,D.int a.2] 1 = some (.int a.2):=jw (j:=1) rfl
  rw [Qw] at f0
  simp at f0
  simp [eY,f0,f1]
theorem Bo {r:R} (c:bE r) {q:Int × Int} (hq:q ∈ r):(r.head?.getD (0,0)).1 <= q.1:=by
 cases r with
 | nil=>cases hq
 | cons a r=>
  rcases Pq.mp hq with rfl | hq
  ·exact PC _
  ·have:=(canon_cons.mp c).2.1 q hq
   have:=(canon_cons.mp c).1
   show a.1 <= q.1
   lia
theorem Bp {r:R} (c:bE r) {q:Int × Int} (hq:q ∈ r):q.2 <= (r.getLast?.getD (0,0)).2:=by
 rcases Qu r with rfl | ⟨r0,a,rfl⟩
 ·cases hq
 ·rw [Qz] at *
  have e:((r0 ++ [a]).getLast?.getD (0,0)) = a:=by simp
  rw [e]
  rcases Pu.mp hq with hq | hq
  ·obtain ⟨_,h1,h2⟩:=canon_snoc.mp c
   have:=h2 q hq
   lia
  ·rw [Pi.mp hq]
   exact PC _
theorem Az (p:Pic) (c:aE p) (hne:p ≠ []) (h:p.length <= 30000):∃ l t r b:Int,vt [aB p] = some (.tup [.int l,.int t,.int r,.int b]) /\ ∀ x y,bg p x y -> l <= x /\ x <= r /\ t <= y /\ y <= b:=by
 have hn:∀ q ∈ p,q.2 ≠ []:=fun q hq=>(c.1 q hq).2
 have c1:=D6 p hn
 have c2:=Cs p hn
 have hl:p.length <= LIM:=aZ (by lia)
 have hpos:0 < p.length:=List.length_pos_iff.mpr hne
 have l1:(sK p).length = p.length:=by unfold sK;rw [Ph]
 have l2:(nA p).length = p.length:=by unfold nA;rw [Ph]
 have hml:Aw [.lst ((sK p).map D.int)] = some (.int (kJ (sK p))):=by
  unfold Aw
  simp only [jF,Option.bind_some]
  rw [Pb (by lia)]
 have hmh:zM [.lst ((nA p).map D.int)] = some (.int (mI (nA p))):=by
  unfold zM
  simp only [jF,Option.bind_some]
  rw [Pb (by lia)]
 obtain ⟨q0,h0⟩:∃ q,p[0]? = some q:=⟨_,Qi hpos⟩
 obtain ⟨q1,h1⟩:∃ q,p.getLast? = some q:=by
  cases e:p.getLast? with
  | none=>exact absurd (List.getLast?_eq_none_iff.mp e) hne
  | some q=>exact ⟨q,rfl⟩
 have f0:atI (p.map pyD) 0 = some (pyD q0):=jw (j:=0) (by rw [PN,h0];rfl)
 have f1:atI (p.map pyD) (-1) = some (pyD q1):=by
  obtain ⟨Y,rfl⟩:=List.getLast?_eq_some_iff.mp h1
  rw [Qw]
  exact kD _ _
 have g0:∀ (y:Int) (d:D),atI [D.int y,d] 0 = some (.int y):=fun y d=>jw (j:=0) rfl
 have d0:dEq false (aB p) (.tup []) = some (.bl false):=by
  cases p with
  | nil=>exact absurd rfl hne
  | cons q p=>
   unfold dEq
   rw [Pb ⟨Dy _,by simp [okD,okDs]⟩]
   simp [eqD,eqDs]
 refine ⟨kJ (sK p),q0.1,mI (nA p),q1.1,?_,fun x y hm=>?_⟩
 ·generalize hP:p.map pyD = Pd at *
  have hPl:Pd.length <= LIM:=by rw [<- hP,Ph];exact hl
  simp [vt,rQ,fnO,pG,hP,d0,c1,c2,hPl,hml,hmh,f0,f1,g0]
 ·obtain ⟨q,hq,rfl,s,hs,k1,k2⟩:=hm
  have cq:=(c.1 q hq).1
  have e1:=Dh (sK p) _ (Pt.mpr ⟨q,hq,rfl⟩)
  have e2:=CJ (nA p) _ (Pt.mpr ⟨q,hq,rfl⟩)
  have e3:=Bo cq hs
  have e4:=Bp cq hs
  refine ⟨by lia,by lia,?_,?_⟩
  ·cases p with
   | nil=>exact absurd rfl hne
   | cons a p=>
    cases h0
    rcases Pq.mp hq with rfl | hq
    ·exact PC _
    ·have:=(pcanon_cons.mp c).2.1 q hq
     lia
  ·obtain ⟨Y,rfl⟩:=List.getLast?_eq_some_iff.mp h1
   rcases Pu.mp hq with hq | hq
   ·have:=(Qc.mp c.2).2.2 q hq q1 (by simp)
    lia
   ·rw [Pi.mp hq]
    exact PC _
theorem Ix {l m:List Nat} (h:l.Sublist m):l.sum <= m.sum:=by
 induction h with
 | slnil=>exact Pj _
 | cons a _ ih=>rw [Qx];lia
 | cons_cons a _ ih=>rw [Qx,Qx];lia
theorem Ba (p:Pic) (c:aE p) (hr:∀ q ∈ p,q.2.length <= 1000) (f g:Int):∃ part:Int × R -> R,∀ q ∈ p,bF [cu q.2,.int f,.int g] = some (cu (part q)) /\ (part q).Sublist q.2 /\ ∀ x,f <= x -> x <= g -> Mem q.2 x -> Mem (part q) x:=by
 have h:∀ q:Int × R,∃ r:R,q ∈ p -> bF [cu q.2,.int f,.int g] = some (cu r) /\ r.Sublist q.2 /\ ∀ x,f <= x -> x <= g -> Mem q.2 x -> Mem r x:=fun q=>by
  by_cases hq:q ∈ p
  ·obtain ⟨r,h1⟩:=F1 (c.1 q hq).1 (by have:=hr q hq;lia) f g
   exact ⟨r,fun _=>h1⟩
  ·exact ⟨[],fun z=>absurd z hq⟩
 exact ⟨fun q=>(h q).choose,fun q hq=>(h q).choose_spec hq⟩
theorem ze (p:Pic) (c:aE p) (hp:p.length <= 1000) (hr:∀ q ∈ p,q.2.length <= 1000) (l t r b:Int) (k:Blk):∃ q:Pic,rM [aB p,.tup [.int l,.int t,.int r,.int b],cn k] = some (aB q) /\ aE q /\ q.length <= p.length /\ (ak q).length <= (ak p).length /\ (∀ s ∈ q,s.2.length <= 1000) /\ (∀ x y,bg q x y -> bg p x y) /\
  ∀ x y,l + k.1 <= x -> x <= r + k.2.2.1 -> t + k.2.1 <= y -> y <= b + k.2.2.2 -> bg p x y -> bg q x y:=by
 obtain ⟨p',h1,h2,h3⟩:=vQ p (·.1) pyD (t + k.2.1) (b + k.2.2.2) (fun a=>by simp) (by lia) c.2
 have c':aE p':=⟨fun q hq=>c.1 q (h2.subset hq),c.2.sublist h2⟩
 obtain ⟨part,hpart⟩:=Ba p c hr (l + k.1) (r + k.2.2.1)
 have hl':p'.length <= p.length:=h2.length_le
 have hlim:p'.length <= LIM:=aZ (by lia)
 have hc:bV (bj (au (ah 0) (au (ah 1) bh))) cU (aL (af (aq 0) (af (aF bF (af (aq 1) (af (xOp b5 (xOp dIx (ai 2) (xC (.int 0))) (xOp dIx (ai 3) (xC (.int 0)))) (af (xOp b5 (xOp dIx (ai 2) (xC (.int 2))) (xOp dIx (ai 3) (xC (.int 2)))) ao)))) ao))) [.un,.un,.sh (.tup [.int l,.int t,.int r,.int b]),.sh (cn k)] (p'.map pyD) = some ((p'.map fun q=>(q.1,part q)).map pyD):=by
  rw [PP]
  exact bp pyD (fun q=>pyD (q.1,part q)) p' fun q hq=>by
   have a:=(hpart q (h2.subset hq)).1
   simp [eY,a,atI,ixN]
 have hm:=cO (p'.map fun q=>(q.1,part q)) (by rw [Ph];lia)
 have hsub:∀ q ∈ p',(part q).Sublist q.2:=fun q hq=>(hpart q (h2.subset hq)).2.1
 refine ⟨(p'.map fun q=>(q.1,part q)).filter iG,?_,⟨fun q hq=>?_,?_⟩,?_,?_,fun s hs=>?_,fun x y h=>?_,fun x y x0 x1 y0 y1 h=>?_⟩
 ·have a1:atI [D.int l,.int t,.int r,.int b] 1 = some (.int t):=rfl
  have a3:atI [D.int l,.int t,.int r,.int b] 3 = some (.int b):=rfl
  have b1:atI [D.int k.1,.int k.2.1,.int k.2.2.1,.int k.2.2.2] 1 = some (.int k.2.1):=rfl
  have b3:atI [D.int k.1,.int k.2.1,.int k.2.2.1,.int k.2.2.2] 3 = some (.int k.2.2.2):=rfl
  generalize hz:(p'.map fun q=>(q.1,part q)).map pyD = zs at hc hm
  generalize hz2:p'.map pyD = ps at h1 hc
  have hps:ps.length <= LIM:=by rw [<- hz2,Ph];exact hlim
  simp [rM,oY,fnO,nL,a1,a3,b1,b3,h1,hps,hc,hm,BP]
 ·obtain ⟨k1,k2⟩:=PL.mp hq
  obtain ⟨z,hz,rfl⟩:=Pt.mp k1
  exact ⟨Em (c'.1 z hz).1 (hsub z hz),by simpa [iG] using k2⟩
 ·refine Sb _ ?_
  rw [Qs]
  exact c'.2
 ·have:=Qv iG (p'.map fun q=>(q.1,part q))
  rw [Ph] at this
  lia
 ·rw [fU]
  have e1:=k8 (f:=fun q=>(q.1,part q)) p' fun q hq=>(hsub q hq).length_le
  have e2:(ak p').length <= (ak p).length:=by
   unfold ak
   rw [RB,RB]
   exact Ix (h2.map _)
  lia
 ·obtain ⟨z,hz,rfl⟩:=Pt.mp (PL.mp hs).1
  have:=(hsub z hz).length_le
  have:=hr z (h2.subset hz)
  dsimp only
  lia
 ·obtain ⟨q,hq,e,s,hs,k1,k2⟩:=h
  obtain ⟨z,hz,rfl⟩:=Pt.mp (PL.mp hq).1
  exact ⟨z,h2.subset hz,e,s,(hsub z hz).subset hs,k1,k2⟩
 ·obtain ⟨q,hq,rfl,hmm⟩:=h
  have hq':q ∈ p':=h3 q hq y1 fun b' hb hlt=>by lia
  have hmem:=(hpart q hq).2.2 x x0 x1 hmm
  refine ⟨(q.1,part q),PL.mpr ⟨Pt.mpr ⟨q,hq',rfl⟩,?_⟩,rfl,hmem⟩
  unfold iG
  rw [RP,Sc]
  intro e'
  dsimp only at e'
  rw [e'] at hmem
  exact bz _ hmem
def Ez (p:Pic) (bs:List Blk) (x y:Int):Prop:=∀ b ∈ bs,K4 (bg p) b x y
theorem lz (p:Pic):dEq false (aB p) (.tup []) = some (.bl (decide (p = []))):=by
 cases p with
 | nil=>rw [QD rfl];exact kH false (d:=.tup []) (by simp [okD,okDs])
 | cons q p=>
  rw [PX (by simp)]
  unfold dEq
  rw [Pb ⟨Dy _,by simp [okD,okDs]⟩]
  simp [eqD,eqDs]
theorem Cq (p:Pic) (c:aE p) (hp:p.length <= 1000) (hr:∀ q ∈ p,q.2.length <= 1000) (s1 v3:Sl) (q:Pic) (cq:aE q) (hq:q.length <= p.length) (b:Blk) (hb:BOk b) (hs:(ak q).length + dA b * (ak p).length <= 10000) (hne:q ≠ []) :
  ∃ q':Pic,bB [.sh (aB p),s1,.sh (aB q),.sh (cn b)] = some (.nx [.sh (aB p),s1,.sh (aB q'),.sh (cn b)]) /\ aE q' /\ q'.length <= p.length /\ (ak q').length <= (ak q).length + dA b * (ak p).length /\ ∀ x y,bg q' x y ↔ bg q x y /\ K4 (bg p) b x y:=by
 obtain ⟨l,t,r,bt,h1,h2⟩:=Az q cq hne (by lia)
 obtain ⟨z,z1,z2,z3,z4,z5,z6,z7⟩:=ze p c hp hr l t r bt b
 obtain ⟨n,hn⟩:∃ n:Nat,b.2.2.2 - b.2.1 = n:=⟨(b.2.2.2 - b.2.1).toNat,by have:=hb.2;lia⟩
 have eh:dA b = 2 * n + 1:=by unfold dA;rw [hn];simp
 have e1:(2 * n + 1) * (ak z).length <= dA b * (ak p).length:=by rw [eh];exact RD _ z4
 obtain ⟨w,w1,w2,w3,w4,w5⟩:=gy z z2 b hb n hn (by lia) (by lia) z5
 have cm:=sZ (p:=q) (q:=w) w2 (by lia) (by lia) (by lia)
 have d0:=lz q
 rw [PX hne] at d0
 refine ⟨cmP q w,?_,xh cq w2,?_,?_,fun x y=>?_⟩
 ·simp [bB,d0,h1,z1,w1,cm]
 ·have:=C9 q w
  lia
 ·have:=G3 (p:=q) (q:=w) cq
  lia
 ·rw [C3 cq w2,w5]
  constructor
  ·rintro ⟨g1,g2⟩
   exact ⟨g1,fun dx dy hd=>z6 _ _ (g2 dx dy hd)⟩
  ·rintro ⟨g1,g2⟩
   obtain ⟨x0,x1,y0,y1⟩:=h2 x y g1
   refine ⟨g1,fun dx dy hd=>z7 _ _ ?_ ?_ ?_ ?_ (g2 dx dy hd)⟩
   ·have:=hd.1;lia
   ·have:=hd.2.1;lia
   ·have:=hd.2.2.1;lia
   ·have:=hd.2.2.2;lia
theorem nu (p:Pic) (c:aE p) (bs:List Blk) (hne:bs ≠ []) (hb:∀ b ∈ bs,BOk b) (hp:p.length <= 1000) (hr:∀ q ∈ p,q.2.length <= 1000) (hl:bs.length <= 1000) (hs:a9 bs * (ak p).length <= 10000) :
  ∃ q:Pic,eg [aB p,.tup (bs.map cn)] = some (aB q) /\ aE q /\ q.length <= p.length /\ (ak q).length <= a9 bs * (ak p).length /\ ∀ x y,bg q x y ↔ Ez p bs x y:=by
 obtain ⟨cs,b0,rfl⟩:∃ cs b0,bs = cs ++ [b0]:=by
  rcases Qu bs with h | ⟨cs,b0,h⟩
  ·exact absurd h hne
  ·exact ⟨cs,b0,by rw [h,Qz]⟩
 have hh:a9 (cs ++ [b0]) = a9 cs + dA b0:=by rw [cH,iU]
 rw [hh,Qo] at hs
 obtain ⟨n,hn⟩:∃ n:Nat,b0.2.2.2 - b0.2.1 = n:=⟨(b0.2.2.2 - b0.2.1).toNat,by have:=(hb b0 (by simp)).2;lia⟩
 have eh:dA b0 = 2 * n + 1:=by unfold dA;rw [hn];simp
 obtain ⟨q0,w1,w2,w3,w4,w5⟩:=gy p c b0 (hb b0 (by simp)) n hn hp (by rw [<- eh];lia) hr
 rw [<- eh] at w4
 have ec:j8 ((cs ++ [b0]).map cn) none (some (-1)) = cs.map cn:=by
  rw [Cv]
  congr 1
  unfold j8
  have e1:HT.sIx (cs ++ [b0]).length 0 none = 0:=rfl
  have e2:HT.sIx (cs ++ [b0]).length (cs ++ [b0]).length (some (-1)) = cs.length:=by
   rw [Ps,Qm]
   unfold HT.sIx
   simp
   lia
  rw [e1,e2]
  simp
 have at1:atI ((cs ++ [b0]).map cn) (-1) = some (cn b0):=by rw [Qw];exact kD _ _
 obtain ⟨o,k1,k2⟩:=xX (g:=ah 3) (m:=bB) cn (fun pre ρ=>∃ (q:Pic) (v3:Sl),ρ = [.sh (aB p),.sh (.tup ((cs ++ [b0]).map cn)),.sh (aB q),v3] /\ aE q /\ q.length <= p.length /\ (ak q).length <= (a9 pre + dA b0) * (ak p).length /\ ∀ x y,bg q x y ↔ Ez p (pre ++ [b0]) x y)
  (fun d=>d = .tup [] /\ ∀ x y,¬ Ez p (cs ++ [b0]) x y) (fun _=>False) cs [.sh (aB p),.sh (.tup ((cs ++ [b0]).map cn)),.sh (aB q0),.un]
  ⟨q0,_,rfl,w2,w3,by have:a9 [] = 0:=rfl;rw [this,QP];exact w4,fun x y=>by rw [w5];unfold Ez;simp⟩ (by
  rintro pre b post _ e ⟨q,v3,rfl,cq,lq,sq,mq⟩
  have hbm:b ∈ cs:=by rw [e];simp
  have hpre:a9 pre + dA b <= a9 cs:=by
   rw [e,cH]
   have:a9 (b :: post) = dA b + a9 post:=rfl
   lia
  have hmul:(a9 pre + dA b0) * (ak p).length + dA b * (ak p).length <= 10000:=by
   have:(a9 pre + dA b0) * (ak p).length + dA b * (ak p).length = (a9 pre + dA b) * (ak p).length + dA b0 * (ak p).length:=by
    rw [Qo,Qo]
    lia
   rw [this]
   have:=QQ (ak p).length hpre
   lia
  by_cases hq0:q = []
  ·subst hq0
   refine ⟨_,.rt (.tup []),rfl,?_,rfl,fun x y h=>?_⟩
   ·have d0:=lz []
    rw [QD rfl] at d0
    simp [bB,d0]
   ·refine dg x y ((mq x y).mpr fun b' hb'=>h b' ?_)
    rw [e]
    rcases Pu.mp hb' with h' | h'
    ·simp [h']
    ·simp [Pi.mp h']
  ·obtain ⟨q',t1,t2,t3,t4,t5⟩:=Cq p c hp hr (.sh (.tup ((cs ++ [b0]).map cn))) (.sh (cn b)) q cq lq b (hb b (Py _ hbm)) (by lia) hq0
   refine ⟨_,_,rfl,t1,q',_,rfl,t2,t3,?_,fun x y=>?_⟩
   ·rw [cH,iU]
    have:(a9 pre + dA b + dA b0) * (ak p).length = (a9 pre + dA b0) * (ak p).length + dA b * (ak p).length:=by
     rw [Qo,Qo,Qo]
     lia
    lia
   ·rw [t5,mq]
    unfold Ez
    constructor
    ·rintro ⟨g1,g2⟩ b' hb'
     rcases Pu.mp hb' with h' | h'
     ·rcases Pu.mp h' with h' | h'
      ·exact g1 b' (Py _ h')
      ·rw [Pi.mp h'];exact g2
     ·exact g1 b' (Pr _ h')
    ·intro g
     refine ⟨fun b' hb'=>g b' ?_,g b (by simp)⟩
     rcases Pu.mp hb' with h' | h'
     ·simp [h']
     ·simp [Pi.mp h'])
 have hlim:(cs ++ [b0]).length <= LIM:=aZ (by lia)
 cases o with
 | nx ρ'=>
  rcases k2 with ⟨q,v3,rfl,cq,lq,sq,mq⟩ | h
  ·refine ⟨q,?_,cq,lq,by rw [hh];exact sq,mq⟩
   generalize (cs ++ [b0]).map cn = Bs at *
   simp [eg,dq,fnO,cJ,at1,w1,dSl,ec,BP,k1]
  ·exact h.elim
 | rt d=>
  obtain ⟨rfl,hno⟩:=k2
  refine ⟨[],?_,oJ,P8 _,P8 _,fun x y=>⟨fun h=>(dg _ _ h).elim,fun h=>(hno x y h).elim⟩⟩
  generalize (cs ++ [b0]).map cn = Bs at *
  simp [eg,dq,fnO,cJ,at1,w1,dSl,ec,BP,k1]
 | ct _=>exact k2.elim
 | bk _=>exact k2.elim
 | ro _=>exact k2.elim
theorem Gm (p:Pic) (bs:List Blk) (x y:Int):Ez p bs x y ↔ ∀ u v,EA bs u v -> bg p (x + u) (y + v):=by
 constructor
 ·rintro h u v ⟨b,hb,hm⟩
  exact h b hb u v hm
 ·intro h b hb u v hm
  exact h u v ⟨b,hb,hm⟩
def zj (p:Pic) (ps:List (List Blk)) (x y:Int):Prop:=∀ u v,Off ps u v -> bg p (x + u) (y + v)
theorem zT (ps:List (List Blk)) (bs:List Blk) (x y:Int):Off (ps ++ [bs]) x y ↔ ∃ u v,Off ps u v /\ EA bs (x - u) (y - v):=by
 induction ps generalizing x y with
 | nil=>
  constructor
  ·rintro ⟨u,v,h1,h2,h3⟩
   exact ⟨0,0,⟨rfl,rfl⟩,by rwa [show x - 0 = u by lia,show y - 0 = v by lia]⟩
  ·rintro ⟨u,v,⟨rfl,rfl⟩,h⟩
   exact ⟨x - 0,y - 0,h,by lia,by lia⟩
 | cons a ps ih=>
  constructor
  ·rintro ⟨u,v,h1,h2⟩
   obtain ⟨u',v',h3,h4⟩:=(ih _ _).mp h2
   exact ⟨u + u',v + v',⟨u,v,h1,by rwa [show u + u' - u = u' by lia,show v + v' - v = v' by lia]⟩,by rwa [show x - (u + u') = x - u - u' by lia,show y - (v + v') = y - v - v' by lia]⟩
  ·rintro ⟨u,v,⟨u',v',h1,h3⟩,h2⟩
   exact ⟨u',v',h1,(ih _ _).mpr ⟨u - u',v - v',h3,by rwa [show x - u' - (u - u') = x - u by lia,show y - v' - (v - v') = y - v by lia]⟩⟩
def CZ (ps:List (List Blk)):Prop:=∀ bs ∈ ps,bs.length <= 1000
def Cov (n:Nat) (P:Int -> Int -> Prop):Prop:=∃ ts:List Tri,ts.length <= n /\ ∀ x y,kq ts x y ↔ P x y
theorem qv {q:Pic} (c:aE q) {n:Nat} {P:Int -> Int -> Prop} (hP:∀ x y,bg q x y ↔ P x y) (h:Cov n P):(ak q).length <= n:=by
 obtain ⟨ts,hl,hm⟩:=h
 have e:gZ ts = q:=Bf c fun x y=>(hm x y).trans (hP x y).symm
 have:=nB ts
 rw [e] at this
 lia
theorem Cov.mono {n m:Nat} {P:Int -> Int -> Prop} (h:Cov n P) (hm:n <= m):Cov m P:=let ⟨ts,a,b⟩:=h;⟨ts,PR a hm,b⟩
theorem Cov.congr {n:Nat} {P Q:Int -> Int -> Prop} (h:Cov n P) (e:∀ x y,P x y ↔ Q x y):Cov n Q:=let ⟨ts,a,b⟩:=h;⟨ts,a,fun x y=>(b x y).trans (e x y)⟩
def GrF (p:Pic) (ps:List (List Blk)) (x y:Int):Prop:=∃ u v,Off ps u v /\ bg p (x - u) (y - v)
theorem yQ (N:Str) (hN:NS.contains N = true) (ps:List (List Blk)) (hf:FOk ps) (p:Pic) (c:aE p) (hs:∀ post bs pre,ps = post ++ bs :: pre -> ∃ n,Cov n (GrF p pre) /\ a9 bs * n <= 10000) :
  ∃ q:Pic,eI [aH N ps,aB p] = some (aB q) /\ aE q /\ ∀ x y,bg q x y ↔ GrF p ps x y:=by
 obtain ⟨ρ',k1,q,v2,rfl,b1,b3⟩:=gF (g:=ah 2) (m:=di) fR (fun pre ρ=>∃ (q:Pic) (v2:Sl),ρ = [.sh (aH N ps),.sh (aB q),v2] /\ aE q /\ ∀ x y,bg q x y ↔ GrF p pre.reverse x y) ps.reverse [.sh (aH N ps),.sh (aB p),.un] ⟨p,_,rfl,c,fun x y=>⟨fun h=>⟨0,0,⟨rfl,rfl⟩,by simpa using h⟩,fun ⟨u,v,⟨hu,hv⟩,h⟩=>by subst hu hv;simpa using h⟩⟩ (by
  rintro pre bs post _ e ⟨q,v2,rfl,cq,l2⟩
  have e':ps = post.reverse ++ (bs :: pre.reverse):=by
   have:=PQ List.reverse e
   rw [List.reverse_reverse] at this
   rw [this]
   simp
  have hbs:=hf bs (by rw [e'];simp)
  obtain ⟨n,hcov,hn⟩:=hs _ _ _ e'
  have hl:=qv cq l2 hcov
  have hp3:a9 bs * (ak q).length <= a9 bs * n:=RD _ hl
  obtain ⟨q',c1,c2,c3,c4⟩:=mo q cq bs hbs.2 (by lia)
  have er:(pre ++ [bs]).reverse = bs :: pre.reverse:=by simp
  refine ⟨_,[.sh (aH N ps),.sh (aB q'),.sh (fR bs)],rfl,.inl ?_,q',_,rfl,c2,fun x y=>?_⟩
  ·simp [di,c1]
  ·rw [er,c4,Ig]
   constructor
   ·rintro ⟨u,v,h1,h2⟩
    obtain ⟨u',v',h3,h4⟩:=(l2 _ _).mp h2
    exact ⟨u + u',v + v',⟨u,v,h1,by rwa [show u + u' - u = u' by lia,show v + v' - v = v' by lia]⟩,by rwa [show x - (u + u') = x - u - u' by lia,show y - (v + v') = y - v - v' by lia]⟩
   ·rintro ⟨u,v,⟨u',v',h1,h3⟩,h2⟩
    exact ⟨u',v',h1,(l2 _ _).mpr ⟨u - u',v - v',h3,by rwa [show x - u' - (u - u') = x - u by lia,show y - v' - (v - v') = y - v by lia]⟩⟩)
 refine ⟨q,?_,b1,fun x y=>by rw [b3,List.reverse_reverse]⟩
 have ef:o7 NS "parts" (aq 0) [.sh (aH N ps),.sh (aB p),.un] = some (cP ps):=by
  show (if NS.contains N then wP ["parts"] [cP ps] "parts" else none) = _
  rw [Pb hN]
  rfl
 rw [List.map_reverse] at k1
 have er:xi (af (o7 NS "parts" (aq 0)) ao) [.sh (aH N ps),.sh (aB p),.un] = some (ps.map fR).reverse:=by
  unfold xi af ao
  rw [ef]
  rfl
 have ex:eL [.sh (aH N ps),.sh (aB p),.un] = some (.rt (aB q)):=by
  unfold eL
  have e1:qu (xi (af (o7 NS "parts" (aq 0)) ao)) (ah 2) di [.sh (aH N ps),.sh (aB p),.un] = some (.nx [.sh (aH N ps),.sh (aB q),v2]):=by
   unfold qu
   rw [er]
   exact k1
  rw [aX e1]
  rfl
 exact ml (n:=3) (ds:=[aH N ps,aB p]) ex
theorem qV (N:Str) (hN:NS.contains N = true) (ps:List (List Blk)) (hf:FOk ps) (hlo:CZ ps) (p:Pic) (c:aE p) (hp:p.length <= 1000) (hs:∀ pre bs post,ps = pre ++ bs :: post -> ∃ n,Cov n (zj p pre) /\ n <= 1000 /\ a9 bs * n <= 10000) :
  ∃ q:Pic,bP [aH N ps,aB p] = some (aB q) /\ aE q /\ q.length <= p.length /\ ∀ x y,bg q x y ↔ zj p ps x y:=by
 obtain ⟨ρ',k1,q,v2,rfl,b1,b0,b3⟩:=gF (g:=ah 2) (m:=c9) fR (fun pre ρ=>∃ (q:Pic) (v2:Sl),ρ = [.sh (aH N ps),.sh (aB q),v2] /\ aE q /\ q.length <= p.length /\ ∀ x y,bg q x y ↔ zj p pre x y) ps [.sh (aH N ps),.sh (aB p),.un] ⟨p,_,rfl,c,Pj _,fun x y=>⟨fun h u v ⟨hu,hv⟩=>by subst hu hv;simpa using h,fun h=>by simpa using h 0 0 ⟨rfl,rfl⟩⟩⟩ (by
  rintro pre bs post _ e ⟨q,v2,rfl,cq,lq,l2⟩
  have hbs:=hf bs (by rw [e];simp)
  obtain ⟨n,hcov,hn1,hn⟩:=hs _ _ _ e
  have hl:=qv cq l2 hcov
  have hp3:a9 bs * (ak q).length <= a9 bs * n:=RD _ hl
  obtain ⟨q',c1,c2,c3,c4,c5⟩:=nu q cq bs hbs.1 hbs.2 (by lia) (fun z hz=>by have:=dX hz;lia) (hlo bs (by rw [e];simp)) (by lia)
  refine ⟨_,[.sh (aH N ps),.sh (aB q'),.sh (fR bs)],rfl,.inl ?_,q',_,rfl,c2,by lia,fun x y=>?_⟩
  ·simp [c9,c1]
  ·rw [c5,Gm]
   unfold zj
   constructor
   ·intro h u v ho
    obtain ⟨u',v',h1,h2⟩:=(zT pre bs u v).mp ho
    have:=(l2 _ _).mp (h _ _ h2) u' v' h1
    rwa [show x + (u - u') + u' = x + u by lia,show y + (v - v') + v' = y + v by lia] at this
   ·intro h u v hu
    rw [l2]
    intro u' v' h1
    have:=h (u + u') (v + v') ((zT pre bs _ _).mpr ⟨u',v',h1,by rwa [show u + u' - u' = u by lia,show v + v' - v' = v by lia]⟩)
    rwa [show x + (u + u') = x + u + u' by lia,show y + (v + v') = y + v + v' by lia] at this)
 refine ⟨q,?_,b1,b0,b3⟩
 have ef:o7 NS "parts" (aq 0) [.sh (aH N ps),.sh (aB p),.un] = some (cP ps):=by
  show (if NS.contains N then wP ["parts"] [cP ps] "parts" else none) = _
  rw [Pb hN]
  rfl
 have ex:eF [.sh (aH N ps),.sh (aB p),.un] = some (.rt (aB q)):=by
  unfold eF
  have e1:qu (xIt (o7 NS "parts" (aq 0))) (ah 2) c9 [.sh (aH N ps),.sh (aB p),.un] = some (.nx [.sh (aH N ps),.sh (aB q),v2]):=by
   unfold qu xIt
   rw [ef]
   exact k1
  rw [aX e1]
  rfl
 exact ml (n:=3) (ds:=[aH N ps,aB p]) ex
def uZ (b c:Blk):Blk:=(b.1 + c.1,b.2.1 + c.2.1,b.2.2.1 + c.2.2.1,b.2.2.2 + c.2.2.2)
def aN (ps:List (List Blk)):List Blk:=ps.filterMap fun bs=>if bs.length = 1 then bs.head? else none
def nk (ss:List Blk):Blk:=ss.foldr uZ (0,0,0,0)
def j6 (ps:List (List Blk)):List (List Blk):=ps.filter fun bs=>decide (1 < bs.length)
def tN (ps:List (List Blk)):List (List Blk):=[nk (aN ps)] :: j6 ps
theorem zS {b c:Blk} (hb:BOk b) (hc:BOk c) (x y:Int):mH (uZ b c) x y ↔ ∃ u v,mH b u v /\ mH c (x - u) (y - v):=by
 obtain ⟨h1,h2⟩:=hb
 obtain ⟨h3,h4⟩:=hc
 unfold mH uZ
 dsimp only
 constructor
 ·rintro ⟨k1,k2,k3,k4⟩
  exact ⟨max b.1 (x - c.2.2.1),max b.2.1 (y - c.2.2.2),⟨by lia,by lia,by lia,by lia⟩,by lia,by lia,by lia,by lia⟩
 ·rintro ⟨u,v,⟨a1,a2,a3,a4⟩,b1,b2,b3,b4⟩
  exact ⟨by lia,by lia,by lia,by lia⟩
theorem Ib {b c:Blk} (hb:BOk b) (hc:BOk c):BOk (uZ b c):=by
 obtain ⟨h1,h2⟩:=hb
 obtain ⟨h3,h4⟩:=hc
 exact ⟨by unfold uZ;dsimp only;lia,by unfold uZ;dsimp only;lia⟩
theorem yH:∀ {ss:List Blk},(∀ b ∈ ss,BOk b) -> BOk (nk ss)
 | [],_=>⟨PC _,PC _⟩
 | b :: ss,h=>Ib (h b Pm) (yH fun c hc=>h c (Po _ hc))
theorem e7 (b:Blk) (x y:Int):EA [b] x y ↔ mH b x y:=by
 constructor
 ·rintro ⟨c,hc,h⟩
  rw [Pi] at hc
  subst hc
  exact h
 ·intro h
  exact ⟨b,Pi.mpr rfl,h⟩
theorem oV:∀ (a b:List (List Blk)) (x y:Int),Off (a ++ b) x y ↔ ∃ u v,Off a u v /\ Off b (x - u) (y - v)
 | [],b,x,y=>by
  constructor
  ·intro h
   exact ⟨0,0,⟨rfl,rfl⟩,by simpa using h⟩
  ·rintro ⟨u,v,⟨rfl,rfl⟩,h⟩
   simpa using h
 | bs :: a,b,x,y=>by
  constructor
  ·rintro ⟨u,v,h1,h2⟩
   obtain ⟨u',v',h3,h4⟩:=(oV a b _ _).mp h2
   exact ⟨u + u',v + v',⟨u,v,h1,by rwa [show u + u' - u = u' by lia,show v + v' - v = v' by lia]⟩,by rwa [show x - (u + u') = x - u - u' by lia,show y - (v + v') = y - v - v' by lia]⟩
  ·rintro ⟨u,v,⟨u',v',h1,h2⟩,h3⟩
   exact ⟨u',v',h1,(oV a b _ _).mpr ⟨u - u',v - v',h2,by rwa [show x - u' - (u - u') = x - u by lia,show y - v' - (v - v') = y - v by lia]⟩⟩
theorem Fn (a b:List Blk) (r:List (List Blk)) (x y:Int):Off (a :: b :: r) x y ↔ Off (b :: a :: r) x y:=by
 have key:∀ (a b:List Blk),Off (a :: b :: r) x y -> Off (b :: a :: r) x y:=by
  rintro a b ⟨u,v,h1,u',v',h2,h3⟩
  exact ⟨u',v',h2,u,v,h1,by rwa [show x - u' - u = x - u - u' by lia,show y - v' - v = y - v - v' by lia]⟩
 exact ⟨key a b,key b a⟩
theorem uV {r r':List (List Blk)} (bs:List Blk) (h:∀ x y,Off r x y ↔ Off r' x y) (x y:Int):Off (bs :: r) x y ↔ Off (bs :: r') x y:=by
 constructor
 ·rintro ⟨u,v,h1,h2⟩;exact ⟨u,v,h1,(h _ _).mp h2⟩
 ·rintro ⟨u,v,h1,h2⟩;exact ⟨u,v,h1,(h _ _).mpr h2⟩
theorem vV {ps:List (List Blk)} (h:FOk ps):∀ b ∈ aN ps,BOk b:=by
 intro b hb
 obtain ⟨bs,h1,h2⟩:=Rj.mp hb
 split at h2
 ·exact (h bs h1).2 b (List.mem_of_mem_head? h2)
 ·cases h2
theorem CW:∀ {ps:List (List Blk)},FOk ps -> ∀ x y,Off (tN ps) x y ↔ Off ps x y
 | [],_,x,y=>by
  constructor
  ·rintro ⟨u,v,h1,h2,h3⟩
   have h4:=(e7 _ _ _).mp h1
   obtain ⟨k1,k2,k3,k4⟩:=h4
   simp only [aN,nk,List.filterMap_nil,List.foldr_nil] at k1 k2 k3 k4
   exact ⟨by lia,by lia⟩
  ·rintro ⟨rfl,rfl⟩
   exact ⟨0,0,(e7 _ _ _).mpr ⟨PC _,PC _,PC _,PC _⟩,rfl,rfl⟩
 | bs :: r,h,x,y=>by
  have hr:FOk r:=fun z hz=>h z (Po _ hz)
  have ih:=CW hr
  obtain ⟨hne,hb⟩:=h bs Pm
  by_cases h1:bs.length = 1
  ·obtain ⟨b,rfl⟩:=List.length_eq_one_iff.mp h1
   have e1:aN ([b] :: r) = b :: aN r:=by simp [aN]
   have e2:j6 ([b] :: r) = j6 r:=by simp [j6]
   have hbb:=hb b (Pi.mpr rfl)
   have ht:=yH (vV hr)
   have e3:tN ([b] :: r) = [uZ b (nk (aN r))] :: j6 r:=by unfold tN;rw [e1,e2];rfl
   rw [e3]
   constructor
   ·rintro ⟨u,v,k1,k2⟩
    obtain ⟨u',v',k3,k4⟩:=(zS hbb ht u v).mp ((e7 _ _ _).mp k1)
    refine ⟨u',v',(e7 _ _ _).mpr k3,(ih _ _).mp ⟨u - u',v - v',(e7 _ _ _).mpr k4,?_⟩⟩
    rwa [show x - u' - (u - u') = x - u by lia,show y - v' - (v - v') = y - v by lia]
   ·rintro ⟨u,v,k1,k2⟩
    obtain ⟨u',v',k3,k4⟩:=(ih _ _).mpr k2
    refine ⟨u + u',v + v',(e7 _ _ _).mpr ((zS hbb ht _ _).mpr ⟨u,v,(e7 _ _ _).mp k1,?_⟩),?_⟩
    ·rw [show u + u' - u = u' by lia,show v + v' - v = v' by lia]
     exact (e7 _ _ _).mp k3
    ·rwa [show x - (u + u') = x - u - u' by lia,show y - (v + v') = y - v - v' by lia]
  ·have hl:1 < bs.length:=by
    have:=List.length_pos_iff.mpr hne
    lia
   have e1:aN (bs :: r) = aN r:=by simp [aN,h1]
   have e2:j6 (bs :: r) = bs :: j6 r:=by simp [j6,hl]
   have e3:tN (bs :: r) = [nk (aN r)] :: bs :: j6 r:=by unfold tN;rw [e1,e2]
   rw [e3,Fn]
   exact uV bs ih x y
theorem IJ {ps:List (List Blk)} (h:FOk ps):FOk (tN ps):=by
 intro bs hbs
 rcases Pq.mp hbs with rfl | hbs
 ·exact ⟨by simp,fun b hb=>by rw [Pi] at hb;subst hb;exact yH (vV h)⟩
 ·exact h bs (PL.mp hbs).1
theorem qL (ns:List Int):EW [.lst (ns.map D.int)] = some (.int ns.sum):=by
 have:bW (ns.map D.int) = some ns:=by
  induction ns with
  | nil=>rfl
  | cons n ns ih=>simp [bW,ih]
 simp [EW,this]
theorem D0 (ss:List Blk):nk ss = ((ss.map fun b=>b.1).sum,(ss.map fun b=>b.2.1).sum,(ss.map fun b=>b.2.2.1).sum,(ss.map fun b=>b.2.2.2).sum):=by
 induction ss with
 | nil=>rfl
 | cons b ss ih=>
  show uZ b (nk ss) = _
  rw [ih]
  simp [uZ]
theorem Dc:∀ ps:List (List Blk),ps.filterMap (fun bs=>if 1 < bs.length then some (fR bs) else none) = (j6 ps).map fR
 | []=>rfl
 | bs :: r=>by
  have ih:=Dc r
  unfold j6 at ih ⊢
  by_cases h:1 < bs.length <;> simp [h,ih]
theorem qR (ps:List (List Blk)) (hl:ps.length <= 1000):jx [cP ps] = some (cP (tN ps)):=by
 have l1:ps.length <= LIM:=aZ (by lia)
 have hs:(aN ps).length <= ps.length:=List.length_filterMap_le _ _
 have l2:(aN ps).length <= LIM:=aZ (by lia)
 have l3:(j6 ps).length <= ps.length:=Qv _ _
 have l4:1 + (j6 ps).length <= LIM:=aZ (by lia)
 have l5:(j6 ps).length + 1 <= LIM:=aZ (by lia)
 have c1:bV (ah 0) (xB (xOp (dEq false) (xCB nP (af (ai 0) ao)) (xC (.int 1)))) (xOp dIx (ai 0) (xC (.int 0))) [.un] (ps.map fR) = some ((aN ps).map cn):=by
  rw [i6 fR (fun bs=>if bs.length = 1 then (bs.head?).map cn else none) ps fun bs _=>by
   by_cases h:bs.length = 1
   ·obtain ⟨b,rfl⟩:=List.length_eq_one_iff.mp h
    simp [eY,atI,ixN]
   ·have h':¬ ((bs.length:Int) = 1):=by lia
    simp [eY,h,h']]
  congr 1
  unfold aN
  rw [List.map_filterMap]
  congr 1
  funext bs
  by_cases h:bs.length = 1 <;> simp [h]
 have c3:bV (ah 0) (xB (xOp dGt (xCB nP (af (ai 0) ao)) (xC (.int 1)))) (aq 0) [.un] (ps.map fR) = some ((j6 ps).map fR):=by
  rw [i6 fR (fun bs=>if 1 < bs.length then some (fR bs) else none) ps fun bs _=>by
   by_cases h:1 < bs.length
   ·have h':(1:Int) < bs.length:=by lia
    simp [eY,h,h']
   ·have h':¬ ((1:Int) < bs.length):=by lia
    simp [eY,h,h']]
  exact PQ some (Dc ps)
 have inner:∀ (k:Int) (f:Blk -> Int),(∀ b:Blk,atI [D.int b.1,.int b.2.1,.int b.2.2.1,.int b.2.2.2] k = some (.int (f b))) -> bV (ah 0) cU (xOp dIx (ai 0) (ai 1)) [.un,.sh (.int k)] ((aN ps).map cn) = some (((aN ps).map f).map D.int):=by
  intro k f hf
  rw [PP]
  exact bp cn (D.int ∘ f) (aN ps) fun b _=>by
   have:=hf b
   simp [eY,this]
 have e4:fc 0 4 = ([0,1,2,3]:List Int).map D.int:=rfl
 have tog:=D0 (aN ps)
 have c2:bV (ah 0) cU (xCB EW (af (xL (c0 [none,some 0] (xIt (ai 1)) (ah 0) cU (xOp dIx (ai 0) (ai 1)))) ao)) [.un,.sh (.lst ((aN ps).map cn))] (fc 0 4) = some [.int (nk (aN ps)).1,.int (nk (aN ps)).2.1,.int (nk (aN ps)).2.2.1,.int (nk (aN ps)).2.2.2]:=by
  rw [e4,tog]
  dsimp only
  rw [bp D.int (fun k=>if k = 0 then .int ((aN ps).map fun b=>b.1).sum else if k = 1 then .int ((aN ps).map fun b=>b.2.1).sum else if k = 2 then .int ((aN ps).map fun b=>b.2.2.1).sum else .int ((aN ps).map fun b=>b.2.2.2).sum) [0,1,2,3] fun k hk=>by
   have i0:=inner 0 (fun b=>b.1) fun b=>rfl
   have i1:=inner 1 (fun b=>b.2.1) fun b=>rfl
   have i2:=inner 2 (fun b=>b.2.2.1) fun b=>rfl
   have i3:=inner 3 (fun b=>b.2.2.2) fun b=>rfl
   have s0:=qL ((aN ps).map fun b=>b.1)
   have s1:=qL ((aN ps).map fun b=>b.2.1)
   have s2:=qL ((aN ps).map fun b=>b.2.2.1)
   have s3:=qL ((aN ps).map fun b=>b.2.2.2)
   generalize ((aN ps).map fun b=>b.1).map D.int = z0 at i0 s0
   generalize ((aN ps).map fun b=>b.2.1).map D.int = z1 at i1 s1
   generalize ((aN ps).map fun b=>b.2.2.1).map D.int = z2 at i2 s2
   generalize ((aN ps).map fun b=>b.2.2.2).map D.int = z3 at i3 s3
   simp only [Pq,List.not_mem_nil,or_false] at hk
   rcases hk with rfl | rfl | rfl | rfl
   ·simp [eY,l2,i0,s0]
   ·simp [eY,l2,i1,s1]
   ·simp [eY,l2,i2,s2]
   ·simp [eY,l2,i3,s3]]
  rfl
 have es:cP (tN ps) = .tup ([.tup [cn (nk (aN ps))]] ++ (j6 ps).map fR):=rfl
 rw [es]
 have lm:((j6 ps).map fR).length = (j6 ps).length:=Ph ..
 generalize (j6 ps).map fR = ms at c3 lm
 have l6:1 + ms.length <= LIM:=by lia
 have hr:IE [.int 4] = some (fc 0 4):=LP (by decide)
 have lf:(fc 0 4).length <= LIM:=aZ (by decide)
 have lt:4 <= LIM:=aZ (by decide)
 have lo:1 <= LIM:=aZ (by decide)
 generalize nk (aN ps) = tb at c2
 generalize fc 0 4 = four at c2 hr lf
 generalize (aN ps).map cn = zs at c1 c2
 simp [jx,hV,fnO,fX,c1,l1,hr,lf,c2,c3,BK,l6,lt,lo]
def GrS (P:Int -> Int -> Prop) (Q:Int -> Int -> Prop) (x y:Int):Prop:=∃ u v,Q u v /\ P (x - u) (y - v)
theorem HL {n k:Nat} {P Q:Int -> Int -> Prop} (hP:Cov n P) (hQ:Cov k Q):Cov (n * k) (GrS P Q):=by
 obtain ⟨ts,l1,m1⟩:=hP
 obtain ⟨us,l2,m2⟩:=hQ
 refine ⟨(ts.filter bQ).flatMap fun t=>(us.filter bQ).map fun u=>(t.1 + u.1,t.2.1 + u.2.1,t.2.2 + u.2.2),?_,fun x y=>?_⟩
 ·rw [RB]
  have h1:=Qv bQ ts
  have h2:=Qv bQ us
  have h3:((ts.filter bQ).map fun t:Tri=>((us.filter bQ).map fun u:Tri=>((t.1 + u.1,t.2.1 + u.2.1,t.2.2 + u.2.2):Tri)).length).sum = (ts.filter bQ).length * (us.filter bQ).length:=by
   generalize ts.filter bQ = l
   induction l with
   | nil=>simp
   | cons a l ih=>rw [Px,Qx,ih,Ph,Pw,Nat.succ_mul];lia
  rw [h3]
  exact RU (by lia) (by lia)
 ·constructor
  ·rintro ⟨t,ht,e,h1,h2⟩
   obtain ⟨a,ha,h⟩:=RA.mp ht
   obtain ⟨b,hb,rfl⟩:=Pt.mp h
   obtain ⟨ha1,ha2⟩:=PL.mp ha
   obtain ⟨hb1,hb2⟩:=PL.mp hb
   have ga:=QF ha2
   have gb:=QF hb2
   dsimp only at e h1 h2
   refine ⟨max b.2.1 (x - a.2.2),b.1,(m2 _ _).mp ⟨b,hb1,rfl,by lia,by lia⟩,(m1 _ _).mp ⟨a,ha1,by lia,by lia,by lia⟩⟩
  ·rintro ⟨u,v,hq,hp⟩
   obtain ⟨b,hb,e1,b1,b2⟩:=(m2 _ _).mpr hq
   obtain ⟨a,ha,e2,a1,a2⟩:=(m1 _ _).mpr hp
   exact ⟨_,RA.mpr ⟨a,PL.mpr ⟨ha,QD (by lia)⟩,Pt.mpr ⟨b,PL.mpr ⟨hb,QD (by lia)⟩,rfl⟩⟩,by dsimp only;lia,by dsimp only;lia,by dsimp only;lia⟩
def RC (P:Int -> Int -> Prop):Prop:=∀ y a b c,P a y -> P c y -> a <= b -> b <= c -> P b y
theorem J2 {p:Pic} (h:RC (bg p)) (ps:List (List Blk)):RC (zj p ps):=fun y a b c ha hc h1 h2 u v ho=>h _ _ _ _ (ha u v ho) (hc u v ho) (by lia) (by lia)
theorem v9 (P:Int -> Prop) (cv:∀ a b c,P a -> P c -> a <= b -> b <= c -> P b):∀ (n:Nat) (lo hi:Int),hi - lo < n -> (∀ x,P x -> lo <= x /\ x <= hi) -> ∃ a b:Int,∀ x,(a <= x /\ x <= b) ↔ P x
 | 0,lo,hi,h,hb=>⟨1,0,fun x=>⟨fun h=>by lia,fun h=>by have:=hb x h;lia⟩⟩
 | n + 1,lo,hi,h,hb=>by
  by_cases h1:P lo
  ·by_cases h2:P hi
   ·exact ⟨lo,hi,fun x=>⟨fun h=>cv lo x hi h1 h2 h.1 h.2,hb x⟩⟩
   ·refine v9 P cv n lo (hi - 1) (by lia) fun x hx=>?_
    have:=hb x hx
    have:x ≠ hi:=fun e=>h2 (e ▸ hx)
    lia
  ·refine v9 P cv n (lo + 1) hi (by lia) fun x hx=>?_
   have:=hb x hx
   have:x ≠ lo:=fun e=>h1 (e ▸ hx)
   lia
theorem ES (r:R):∃ lo hi:Int,∀ x,Mem r x -> lo <= x /\ x <= hi:=by
 induction r with
 | nil=>exact ⟨0,0,fun x h=>(bz _ h).elim⟩
 | cons s r ih=>
  obtain ⟨lo,hi,h⟩:=ih
  refine ⟨min lo s.1,max hi s.2,fun x hx=>?_⟩
  rcases (mem_cons ..).mp hx with ⟨h1,h2⟩ | hx
  ·lia
  ·have:=h x hx;lia
theorem AG:∀ {ps:List (List Blk)},FOk ps -> ∃ u v,Off ps u v
 | [],_=>⟨0,0,rfl,rfl⟩
 | bs :: r,h=>by
  obtain ⟨u,v,k⟩:=AG (ps:=r) fun x hx=>h x (Po _ hx)
  obtain ⟨hne,hb⟩:=h bs Pm
  obtain ⟨b,r',rfl⟩:=List.exists_cons_of_ne_nil hne
  have ok:=hb b Pm
  exact ⟨b.1 + u,b.2.1 + v,b.1,b.2.1,⟨b,Pm,PC _,ok.1,PC _,ok.2⟩,by rwa [show b.1 + u - b.1 = u by lia,show b.2.1 + v - b.2.1 = v by lia]⟩
theorem Cr (p:Pic):∃ lo hi:Int,∀ x y,bg p x y -> lo <= x /\ x <= hi:=by
 induction p with
 | nil=>exact ⟨0,0,fun x y h=>(dg _ _ h).elim⟩
 | cons q p ih=>
  obtain ⟨lo,hi,h⟩:=ih
  obtain ⟨lo',hi',h'⟩:=ES q.2
  refine ⟨min lo lo',max hi hi',fun x y hx=>?_⟩
  rcases (bO ..).mp hx with ⟨_,hx⟩ | hx
  ·have:=h' x hx;lia
  ·have:=h x y hx;lia
theorem IG {p:Pic} (h:RC (bg p)) {ps:List (List Blk)} (hf:FOk ps):Cov p.length (zj p ps):=by
 obtain ⟨u,v,ho⟩:=AG hf
 obtain ⟨lo,hi,hb⟩:=Cr p
 have key:∀ y,∃ ab:Int × Int,∀ x,(ab.1 <= x /\ x <= ab.2) ↔ zj p ps x y:=fun y=>by
  obtain ⟨a,b,k⟩:=v9 (fun x=>zj p ps x y) (fun a b c ha hc h1 h2=>J2 h ps _ _ _ _ ha hc h1 h2) ((hi - lo).toNat + 1) (lo - u) (hi - u) (by lia) fun x hx=>by
   have:=hb _ _ (hx u v ho)
   lia
  exact ⟨(a,b),k⟩
 refine ⟨p.map fun q=>(q.1 - v,(Classical.choose (key (q.1 - v))).1,(Classical.choose (key (q.1 - v))).2),by rw [Ph];exact Pj _,fun x y=>?_⟩
 constructor
 ·rintro ⟨t,ht,e,h1,h2⟩
  obtain ⟨q,hq,rfl⟩:=Pt.mp ht
  dsimp only at e h1 h2
  have:=(Classical.choose_spec (key (q.1 - v)) x).mp ⟨h1,h2⟩
  rwa [e] at this
 ·intro hx
  obtain ⟨q,hq,e,_⟩:=hx u v ho
  have e':q.1 - v = y:=by lia
  refine ⟨_,Pt.mpr ⟨q,hq,rfl⟩,e',?_⟩
  dsimp only
  exact (Classical.choose_spec (key (q.1 - v)) x).mpr (by rw [e'];exact hx)
theorem DK (N:Str) (hN:NS.contains N = true) (ps:List (List Blk)) (hf:FOk ps) (hlo:CZ ps) (p:Pic) (c:aE p) (hp:p.length <= 3) (hr:RC (bg p)) (hs:∀ bs ∈ ps,a9 bs <= 3333) :
  ∃ q:Pic,bP [aH N ps,aB p] = some (aB q) /\ aE q /\ q.length <= p.length /\ ∀ x y,bg q x y ↔ zj p ps x y:=
 qV N hN ps hf hlo p c (by lia) fun pre bs post e=>⟨p.length,IG hr fun x hx=>hf x (by rw [e];exact Py _ hx),by lia,by
  have h1:=hs bs (by rw [e];simp)
  have:=RU h1 hp
  lia⟩
theorem gI {e:XE} {d:D} {i:Nat} {ρ:M.Env} (h:e ρ = some d):bH e (ah i) ρ = some (.nx (ρ.set i (.sh d))):=by unfold bH;rw [h];rfl
theorem DC {f:List D -> Option D} {a:XA} {ρ:M.Env} {ds:List D} {d:D} (ha:a ρ = some ds) (h:f ds = some d):aF f a ρ = some d:=by unfold aF;rw [ha];exact h
theorem yj {N:Str} (hN:NS.contains N = true) {ps:List (List Blk)} {m:Str} {f:List D -> Option D} {e:XE} {as:XA} {ρ:M.Env} {ds:List D} {d:D} (hm:(["parts"]:List Str).contains m = false) (h0:e ρ = some (aH N ps)) (ha:as ρ = some ds) (h:f (aH N ps :: ds) = some d):tq NS m f e as ρ = some d:=by
 unfold tq
 rw [h0,ha]
 show (if NS.contains N && !(["parts"]:List Str).contains m then f (aH N ps :: ds) else none) = _
 rw [hN,hm]
 exact h
theorem JY {e:XE} {d:D} {i:Nat} {ρ:M.Env} {gs:List D} (h:e ρ = some d) (hi:ρ[i]? = some (owl gs)) (hl:gs.length < LIM):n4 i xPv (xSh e) ρ = some (.nx (ρ.set i (owl (gs ++ [d])))):=by
 have hl':(gs.map O.sh).length < LIM:=by rw [Ph];exact hl
 show _ = some (Out.nx (ρ.set i (.ow (.lst ((gs ++ [d]).map O.sh)))))
 simp [n4,xPv,xSh,hi,h,eW,kG,hl]
theorem pT {a:XE} {r:XA} {ρ:M.Env} {d:D} {ds:List D} (h:a ρ = some d) (k:r ρ = some ds):af a r ρ = some (d :: ds):=by unfold af;rw [h,k];rfl
theorem FE {q:Pic} (c:aE q) (h:∀ x y,¬ bg q x y):q = []:=ua c oJ fun x y=>⟨fun k=>(h x y k).elim,fun k=>(dg _ _ k).elim⟩
theorem jB {p:Pic}:dEq true (aB p) (.tup []) = some (.bl (!decide (p = []))):=by
 have:=lz p
 unfold dEq at this ⊢
 split at this
 ·rename_i h
  rw [Pb h]
  have e:eqD (aB p) (.tup []) = decide (p = []):=by simpa using this
  simp [e]
 ·cases this
def bc (x y w:Int) (h:Nat):Pic:=if 1 <= w then (List.range h).map fun k:Nat=>(y + (k:Int),[(x,x + w - 1)]) else []
theorem Dj (q:Int × Int) (x:Int):Mem [q] x ↔ q.1 <= x /\ x <= q.2:=by
 rw [mem_cons]
 exact ⟨fun h=>h.elim id fun k=>(bz _ k).elim,.inl⟩
theorem fE (x y w:Int) (h:Nat):aE (bc x y w h):=by
 unfold bc
 split
 ·refine ⟨fun q hq=>?_,?_⟩
  ·obtain ⟨k,_,rfl⟩:=Pt.mp hq
   exact ⟨canon_cons.mpr ⟨by dsimp only;lia,fun _ h=>(by cases h),iT⟩,by simp⟩
  ·rw [Qs]
   exact List.pairwise_lt_range.imp fun {a b} h=>by dsimp only;lia
 ·exact oJ
theorem dB (x y w:Int) (h:Nat) (u v:Int):bg (bc x y w h) u v ↔ x <= u /\ u <= x + w - 1 /\ y <= v /\ v < y + h:=by
 unfold bc
 split
 ·constructor
  ·rintro ⟨q,hq,e,hm⟩
   obtain ⟨k,hk,rfl⟩:=Pt.mp hq
   have:=Rh.mp hk
   rw [Dj] at hm
   dsimp only at e hm
   lia
  ·rintro ⟨h1,h2,h3,h4⟩
   exact ⟨_,Pt.mpr ⟨(v - y).toNat,Rh.mpr (by lia),rfl⟩,by dsimp only;lia,(Dj _ _).mpr ⟨h1,h2⟩⟩
 ·constructor
  ·intro h;exact (dg _ _ h).elim
  ·intro h;lia
theorem zQ (x y w:Int) (h:Nat):(bc x y w h).length <= h:=by
 unfold bc
 split
 ·rw [Ph,RT];exact Pj _
 ·exact P8 _
theorem m8 (x y w:Int) (h:Nat):Cov h (bg (bc x y w h)):=by
 refine ⟨(List.range h).map fun k:Nat=>(y + (k:Int),x,x + w - 1),by rw [Ph,RT];exact Pj _,fun u v=>?_⟩
 rw [dB]
 constructor
 ·rintro ⟨t,ht,e,h1,h2⟩
  obtain ⟨k,hk,rfl⟩:=Pt.mp ht
  have:=Rh.mp hk
  dsimp only at e h1 h2
  lia
 ·rintro ⟨h1,h2,h3,h4⟩
  exact ⟨_,Pt.mpr ⟨(v - y).toNat,Rh.mpr (by lia),rfl⟩,by dsimp only;lia,h1,h2⟩
theorem rect_nil {x y w:Int} {h:Nat}:bc x y w h = [] ↔ w <= 0 \/ h = 0:=by
 constructor
 ·intro e
  by_cases hw:w <= 0
  ·exact .inl hw
  ·by_cases hh:h = 0
   ·exact .inr hh
   ·have:=(dB x y w h x y).mpr ⟨by lia,by lia,by lia,by lia⟩
    rw [e] at this
    exact (dg _ _ this).elim
 ·intro k
  exact FE (fE ..) fun u v hm=>by have:=(dB x y w h u v).mp hm;lia
structure RF (ps:List (List Blk)) (bs:List Blk) (a b:Nat):Prop where
 eq:ps = [bs]
 ok:FOk ps
 hi:bs.length <= 10 /\ a9 bs <= 10
 ab:a <= 1 /\ b <= 1
 mem:∀ u v,Off ps u v ↔ 0 <= u /\ u <= a /\ 0 <= v /\ v <= b
section
variable {ps:List (List Blk)} {bs:List Blk} {a b:Nat} {N:Str} {x y w:Int} {h:Nat}
theorem RF.lo (f:RF ps bs a b):CZ ps:=fun z hz=>by
 rw [f.eq,Pi] at hz
 subst hz
 have:=f.hi.1
 lia
theorem RF.one (f:RF ps bs a b) {pre post:List (List Blk)} {c:List Blk} (e:ps = pre ++ c :: post):pre = [] /\ c = bs /\ post = []:=by
 rw [f.eq] at e
 cases pre with
 | nil=>cases e;exact ⟨rfl,rfl,rfl⟩
 | cons z pre=>
  have:=PQ List.length e
  rw [Pw,Ps,Pw,Pw,RS] at this
  lia
theorem RF.smaller (f:RF ps bs a b) (hN:NS.contains N = true) (hh:h <= 100):bP [aH N ps,aB (bc x y w h)] = some (aB (bc x y (w - a) (h - b))):=by
 have hl:=zQ x y w h
 obtain ⟨q,h1,h2,h3,h4⟩:=qV N hN ps f.ok f.lo (bc x y w h) (fE ..) (by lia) fun pre c post e=>by
  obtain ⟨rfl,rfl,rfl⟩:=f.one e
  refine ⟨h,(m8 x y w h).congr fun u v=>⟨fun k u' v' ⟨e1,e2⟩=>by subst e1 e2;simpa using k,fun k=>by simpa using k 0 0 ⟨rfl,rfl⟩⟩,by lia,?_⟩
  have:=RU f.hi.2 hh
  lia
 rw [h1]
 refine PQ (fun p=>some (aB p)) (ua h2 (fE ..) fun u v=>?_)
 rw [h4,dB]
 have:=f.ab
 constructor
 ·intro k
  have k1:=(dB ..).mp (k 0 0 ((f.mem _ _).mpr (by lia)))
  have k2:=(dB ..).mp (k a b ((f.mem _ _).mpr (by lia)))
  lia
 ·intro k u' v' ho
  have:=(f.mem _ _).mp ho
  rw [dB]
  lia
theorem RF.greater (f:RF ps bs a b) (hN:NS.contains N = true) (hh:h <= 100):∃ q:Pic,eI [aH N ps,aB (bc x y w h)] = some (aB q) /\ aE q /\ (ak q).length <= 200:=by
 obtain ⟨q,h1,h2,h3⟩:=yQ N hN ps f.ok (bc x y w h) (fE ..) fun post c pre e=>by
  obtain ⟨rfl,rfl,rfl⟩:=f.one e
  refine ⟨h,(m8 x y w h).congr fun u v=>⟨fun k=>⟨0,0,⟨rfl,rfl⟩,by simpa using k⟩,fun ⟨u',v',⟨e1,e2⟩,k⟩=>by subst e1 e2;simpa using k⟩,?_⟩
  have:=RU f.hi.2 hh
  lia
 refine ⟨q,h1,h2,?_⟩
 have co:Cov 2 (Off ps):=⟨[(0,0,(a:Int)),((b:Int),0,(a:Int))],Pj _,fun u v=>by
  rw [f.mem,q9,q9]
  have h0:kq [] u v ↔ False:=⟨fun ⟨_,h,_⟩=>(by cases h),False.elim⟩
  have:=f.ab
  simp only [h0,or_false]
  lia⟩
 have:=qv h2 h3 (HL (m8 x y w h) co)
 lia
end
structure LayM (N:Str) (ps:List (List Blk)) (X G C:Nat -> Pic):Prop where
 hN:NS.contains N = true
 sm:∀ k,bP [aH N ps,aB (X k)] = some (aB (X (k + 1)))
 gr:∀ k,eI [aH N ps,aB (X (k + 1))] = some (aB (G k))
 ls:∀ k,yB [aB (X k),aB (G k)] = some (aB (C k))
theorem Af {ps:List (List Blk)} {bs:List Blk} {a b:Nat} {N:Str} (f:RF ps bs a b) (hN:NS.contains N = true) (x y w:Int) (h:Nat) (hh:h <= 100):∃ X G C:Nat -> Pic,(∀ k:Nat,X k = bc x y (w - (k:Int) * a) (h - k * b)) /\ LayM N ps X G C:=by
 have key:∀ k:Nat,∃ q:Pic,eI [aH N ps,aB (bc x y (w - ((k + 1:Nat):Int) * a) (h - (k + 1) * b))] = some (aB q) /\ aE q /\ (ak q).length <= 200:=fun k=>f.greater hN (by lia)
 obtain ⟨G,hG⟩:=Classical.skolem.mp key
 refine ⟨fun k=>bc x y (w - (k:Int) * a) (h - k * b),G,fun k=>leP (bc x y (w - (k:Int) * a) (h - k * b)) (G k),fun _=>rfl,hN,fun k=>?_,fun k=>(hG k).1,fun k=>?_⟩
 ·have:=f.smaller (x:=x) (y:=y) (w:=w - (k:Int) * a) (h:=h - k * b) hN (by lia)
  rw [this]
  have e1:w - (k:Int) * a - a = w - ((k + 1:Nat):Int) * a:=by rw [Int.natCast_add,Int.add_mul];lia
  have e2:h - k * b - b = h - (k + 1) * b:=by rw [Nat.succ_mul];lia
  rw [e1,e2]
 ·obtain ⟨_,h2,h3⟩:=hG k
  have h4:=CH h2
  have h5:=zQ x y (w - (k:Int) * a) (h - k * b)
  have h6:=qv (fE x y (w - (k:Int) * a) (h - k * b)) (fun _ _=>Qt) (m8 x y (w - (k:Int) * a) (h - k * b))
  exact Ea h2 (by lia) (by lia) (by lia)
def gf (C:Nat -> Pic) (n:Nat):List D:=(List.range n).map fun k=>aB (C k)
theorem Ae (C:Nat -> Pic) (n:Nat):gf C (n + 1) = gf C n ++ [aB (C n)]:=by unfold gf;rw [List.range_succ,Qw];rfl
theorem jg (C:Nat -> Pic) (n:Nat):(gf C n).length = n:=by unfold gf;simp
section
variable {N:Str} {ps:List (List Blk)} {X G C:Nat -> Pic}
theorem gE (L:LayM N ps X G C) {n m:Nat} (hn:n <= 1000) (hm:n <= m) (e0:X n = [] \/ n = m) (hne:∀ k,k < n -> X k ≠ []):cQ [aB (X 0),aH N ps,.int (m:Int)] = some (.lst (gf C n ++ [aB (X n)])):=by
 have turn:∀ j k,k + j = n -> ∀ v5:Sl,∃ v5',dZ bU dL [.sh (aB (X 0)),.sh (aH N ps),.sh (.int (m:Int)),owl (gf C k),.sh (aB (X k)),v5] = some (.nx [.sh (aB (X 0)),.sh (aH N ps),.sh (.int (m:Int)),owl (gf C n),.sh (aB (X n)),v5']):=by
  intro j
  induction j with
  | zero=>
   intro k hk v5
   have:k = n:=by lia
   subst this
   refine ⟨v5,uu ?_⟩
   have d:=jB (p:=X k)
   have hl:=jg C k
   generalize gf C k = cs at *
   generalize aH N ps = F
   generalize aB (X 0) = P0
   rcases e0 with e0 | e0
   ·rw [QD e0] at d
    generalize aB (X k) = Pk at *
    simp [bU,d]
   ·have:¬ ((cs.length:Int) < m):=by lia
    generalize aB (X k) = Pk at *
    cases hd:decide (X k = []) <;> rw [hd] at d <;> simp [bU,d,this]
  | succ j ih=>
   intro k hk v5
   obtain ⟨v',h⟩:=ih (k + 1) (by lia) (.sh (aB (X (k + 1))))
   refine ⟨v',tf ?_ ?_ h⟩
   ·have:=jB (p:=X k)
    rw [PX (hne k (by lia))] at this
    have hl:=jg C k
    have hkm:((gf C k).length:Int) < m:=by lia
    generalize gf C k = cs at *
    generalize aH N ps = F
    generalize aB (X 0) = P0
    generalize aB (X k) = Pk at *
    simp [bU,this,hkm]
   ·unfold dL
    rw [aX (gI (yj L.hN (ps:=ps) (ds:=[aB (X k)]) (by decide) rfl rfl (L.sm k)))]
    rw [aX (JY (gs:=gf C k) (DC (pT (d:=aB (X k)) rfl (pT (yj L.hN (ps:=ps) (ds:=[aB (X (k + 1))]) (by decide) rfl rfl (L.gr k)) rfl)) (L.ls k)) rfl (nK (by rw [jg];lia)))]
    rw [<- Ae]
    rfl
 obtain ⟨v',h⟩:=turn n 0 (by lia) .un
 have ex:e9 [.sh (aB (X 0)),.sh (aH N ps),.sh (.int (m:Int)),.un,.un,.un] = some (.rt (.lst (gf C n ++ [aB (X n)]))):=by
  unfold e9
  rw [aX (ρ':=[.sh (aB (X 0)),.sh (aH N ps),.sh (.int (m:Int)),owl [],.un,.un]) (by rfl)]
  rw [aX (ρ':=[.sh (aB (X 0)),.sh (aH N ps),.sh (.int (m:Int)),owl [],.sh (aB (X 0)),.un]) (gI (d:=aB (X 0)) rfl)]
  have h':dZ bU dL [.sh (aB (X 0)),.sh (aH N ps),.sh (.int (m:Int)),owl [],.sh (aB (X 0)),.un] = _:=h
  rw [aX h']
  have hl:=jg C n
  generalize gf C n = cs at *
  have l1:1 <= LIM:=aZ (by lia)
  have l2:cs.length + 1 <= LIM:=aZ (by lia)
  generalize aH N ps = F
  generalize aB (X 0) = P0
  generalize aB (X n) = Pn
  have ha:b5 (.lst cs) (.lst [Pn]) = some (.lst (cs ++ [Pn])):=by rw [Bv,Pb (by simpa using l2)]
  simp [l1,ha]
 exact ml (n:=6) (ds:=[aB (X 0),aH N ps,.int (m:Int)]) ex
end
theorem zY (cs:List D) (d:D):atI (cs ++ [d]) (-1) = some d:=by
 have q1:(1:Int) <= cs.length + 1:=by lia
 have q2:(-1 + ((cs.length:Int) + 1)).toNat = cs.length:=by lia
 simp [atI,ixN,q1,q2]
theorem GM (cs:List D) (d:D):j8 (cs ++ [d]) none (some (-1)) = cs:=by
 have e:HT.sIx (cs.length + 1) (cs.length + 1) (some (-1)) = cs.length:=by
  unfold HT.sIx
  simp
  lia
 unfold j8
 rw [Ps,Qm,e]
 simp [HT.sIx]
section
variable {P0 F:D} {m:Int} {cs:List D}
theorem ET (h1:a8 [F] = some (.bl false)) (h2:cQ [P0,F,.int m] = some (.lst (cs ++ [.tup []]))):CG [P0,F,.int m] = some (.lst cs) /\ m6 [P0,F,.int m] = none:=by
 have d:dEq true (D.tup []) (.tup []) = some (.bl false):=jB (p:=[])
 have a:=zY cs (.tup [])
 have c:=GM cs (.tup [])
 refine ⟨?_,?_⟩
 ·have ex:qN [.sh P0,.sh F,.sh (.int m),.un] = some (.rt (.lst cs)):=by simp [qN,h1,h2,a,d,dSl,c]
  exact ml (n:=4) (ds:=[P0,F,.int m]) ex
 ·have ey:gi [.sh P0,.sh F,.sh (.int m),.un] = none:=by simp [gi,h1,h2,a,d]
  show (match gi [.sh P0,.sh F,.sh (.int m),.un] with | some (.rz N)=>some N | _=>none) = none
  rw [ey]
theorem BN {p:Pic} (hp:p ≠ []) (h1:a8 [F] = some (.bl false)) (h2:cQ [P0,F,.int m] = some (.lst (cs ++ [aB p]))):m6 [P0,F,.int m] = some ("TooMany" : Str):=by
 have d:=jB (p:=p)
 rw [PX hp] at d
 have a:=zY cs (aB p)
 generalize aB p = q at *
 have ey:gi [.sh P0,.sh F,.sh (.int m),.un] = some (.rz "TooMany"):=by simp [gi,h1,h2,a,d]
 show (match gi [.sh P0,.sh F,.sh (.int m),.un] with | some (.rz N)=>some N | _=>none) = _
 rw [ey]
theorem Cc (h1:a8 [F] = some (.bl true)):m6 [P0,F,.int m] = some ("NoForm" : Str):=by
 have ey:gi [.sh P0,.sh F,.sh (.int m),.un] = some (.rz "NoForm"):=by simp [gi,h1]
 show (match gi [.sh P0,.sh F,.sh (.int m),.un] with | some (.rz N)=>some N | _=>none) = _
 rw [ey]
theorem AF (h1:a8 [F] = some (.bl false)) (h2:cQ [P0,F,.int m] = some (.lst (cs ++ [.tup []]))):cM [P0,F,.int m] = some (.tup [.non,.int cs.length]):=by
 obtain ⟨k1,k2⟩:=ET h1 h2
 have l2:2 <= LIM:=aZ (by lia)
 have ex:iH [.sh P0,.sh F,.sh (.int m),.un,.un,.un] = some (.rt (.tup [.non,.int cs.length])):=by
  simp [iH,k1,k2,l2]
 exact ml (n:=6) (ds:=[P0,F,.int m]) ex
theorem Er {p:Pic} (hp:p ≠ []) (h1:a8 [F] = some (.bl false)) (h2:cQ [P0,F,.int m] = some (.lst (cs ++ [aB p]))):cM [P0,F,.int m] = some (.tup [.lst [.bl true,.bl true,.bl false,.bl false,.bl false,.bl false,.bl false,.bl false],.int 0]):=by
 have k:=BN hp h1 h2
 have l2:2 <= LIM:=aZ (by lia)
 have n1:xNs.contains "TooMany" = true:=by first | rfl | decide +kernel
 have n2:pF "TooMany" [dW,gL,iM,iQ,km,iP,iV,fJ] = some [true,true,false,false,false,false,false,false]:=by first | rfl | decide +kernel
 have ex:iH [.sh P0,.sh F,.sh (.int m),.un,.un,.un] = some (.rt (.tup [.lst [.bl true,.bl true,.bl false,.bl false,.bl false,.bl false,.bl false,.bl false],.int 0])):=by
  simp [-List.contains_eq_mem,iH,k,l2,n1,jO,n2]
 exact ml (n:=6) (ds:=[P0,F,.int m]) ex
theorem Ej (h1:a8 [F] = some (.bl true)):cM [P0,F,.int m] = some (.tup [.lst [.bl true,.bl false,.bl true,.bl false,.bl false,.bl false,.bl false,.bl false],.int 0]):=by
 have k:=Cc (P0:=P0) (m:=m) h1
 have l2:2 <= LIM:=aZ (by lia)
 have n1:xNs.contains "NoForm" = true:=by first | rfl | decide +kernel
 have n2:pF "NoForm" [dW,gL,iM,iQ,km,iP,iV,fJ] = some [true,false,true,false,false,false,false,false]:=by first | rfl | decide +kernel
 have ex:iH [.sh P0,.sh F,.sh (.int m),.un,.un,.un] = some (.rt (.tup [.lst [.bl true,.bl false,.bl true,.bl false,.bl false,.bl false,.bl false,.bl false],.int 0])):=by
  simp [-List.contains_eq_mem,iH,k,l2,n1,jO,n2]
 exact ml (n:=6) (ds:=[P0,F,.int m]) ex
end
theorem vX:Hi = bc 0 0 1 1:=by decide
theorem C4 {N:Str} (hN:NS.contains N = true) {ps:List (List Blk)} {q:Pic} (h:bP [aH N ps,aB Hi] = some (aB q)):a8 [aH N ps] = some (.bl (!decide (q = []))):=by
 have em:tq NS "smaller" bP (aq 0) (af (xC (.tup [.tup [.int (0),.tup [.tup [.int (0),.int (0)]]]])) ao) [.sh (aH N ps)] = some (aB q):=yj hN (ps:=ps) (ds:=[aB Hi]) (by decide) rfl rfl h
 have ex:ez [.sh (aH N ps)] = some (.rt (.bl (!decide (q = [])))):=by
  unfold ez bD xOp
  rw [em]
  have:=jB (p:=q)
  generalize aH N ps = F
  generalize aB q = z at *
  simp [this]
 exact ml (n:=1) (ds:=[aH N ps]) ex
theorem RF.no_one {ps:List (List Blk)} {bs:List Blk} {a b:Nat} (f:RF ps bs a b) (h:1 <= a + b) {N:Str} (hN:NS.contains N = true):a8 [aH N ps] = some (.bl false):=by
 have h1:=f.smaller (x:=0) (y:=0) (w:=1) (h:=1) hN (by lia)
 rw [<- vX] at h1
 rw [C4 hN h1]
 have e:bc 0 0 (1 - (a:Int)) (1 - b) = []:=rect_nil.mpr (by have:=f.ab;lia)
 rw [QD e]
 rfl
theorem uh {ps:List (List Blk)} (ok:FOk ps) (lo:CZ ps) (hi:∀ bs ∈ ps,a9 bs <= 3333) {u0 v0:Int} (hm:∀ u v,Off ps u v -> u = u0 /\ v = v0) {N:Str} (hN:NS.contains N = true):a8 [aH N ps] = some (.bl true):=by
 have mone:∀ x y,bg Hi x y ↔ x = 0 /\ y = 0:=fun x y=>by rw [vX,dB];lia
 obtain ⟨q,a1,a2,a3,a4⟩:=DK N hN ps ok lo Hi (by rw [vX];exact fE ..) (by show 1 <= 3;decide) (fun y a b c ha hc h1 h2=>by
  have e1:=(mone _ _).mp ha
  have e2:=(mone _ _).mp hc
  exact (mone _ _).mpr ⟨by lia,e1.2⟩) hi
 rw [C4 hN a1]
 have e:q ≠ []:=fun e=>by
  have:bg q (-u0) (-v0):=(a4 _ _).mpr fun u v ho=>by
   obtain ⟨rfl,rfl⟩:=hm u v ho
   exact (mone _ _).mpr ⟨by lia,by lia⟩
  rw [e] at this
  exact dg _ _ this
 rw [PX e]
 rfl
theorem tj {N:Str} {ps:List (List Blk)} {mi:List D -> Option D} {a:XA} {ρ:M.Env} {ds:List D} (ha:a ρ = some ds) (hi:mi ds = some (cP ps)):ik N "parts" mi a ρ = some (aH N ps):=by
 unfold ik;rw [ha];show (mi ds).map _ = _;rw [hi];rfl
theorem mm {c:XT} {a:XS} {ρ:M.Env} (h:c ρ = some false):xIf c a d9 ρ = some (.nx ρ):=by unfold xIf;rw [h];rfl
theorem vf {c:XT} {e:XE} {n:XS} {ρ:M.Env} {d:D} (h:c ρ = some true) (k:e ρ = some d):aQ (xIf c (bD e) d9) n ρ = some (.rt d):=by
 unfold aQ xIf bD;rw [h];dsimp only [Option.bind];rw [Pb rfl,k];rfl
theorem wZ (l u r d:Int) (h1:0 <= l) (h2:0 <= u) (h3:0 <= r) (h4:0 <= d):uG [.int l,.int u,.int r,.int d] = some (cP [[(-l,-u,r,d)]]):=by
 have hm:∃ m:Int,Ct [.int l,.int u,.int r,.int d] = some (.int m) /\ 0 <= m:=by
  exact ⟨min l (min u (min r d)),rfl,Int.le_min.mpr ⟨h1,Int.le_min.mpr ⟨h2,Int.le_min.mpr ⟨h3,h4⟩⟩⟩⟩
 obtain ⟨m,hm,m0⟩:=hm
 have m1:¬ m < 0:=by lia
 simp [uG,Ag,hm,m1]
theorem zK (p:Pic) (c:aE p) (hp:p ≠ []) (h:(ak p).length < 30000):gk [aB p] = some (cP [cI p]):=by
 have hb:=(mV p c h).1
 have de:dEq false (aB p) (.tup []) = some (.bl false):=by rw [lz,PX hp]
 simp [gk,Ag,de,hb]
theorem DJ (N M:Str) (hN:NS.contains N = true) (hM:NS.contains M = true) (ps qs:List (List Blk)) (h:ps.length + qs.length <= 1000):yc [aH N ps,aH M qs] = some (cP (tN (ps ++ qs))):=by
 have hl:(ps.map fR).length + (qs.map fR).length <= LIM:=aZ (by rw [Ph,Ph];lia)
 have hm:=qR (ps ++ qs) (by rw [Ps];exact h)
 have e1:o7 NS "parts" (aq 1) [.lo,.sh (aH N ps),.sh (aH M qs)] = some (cP ps):=by
  show (if NS.contains N then wP ["parts"] [cP ps] "parts" else none) = _
  rw [Pb hN]
  rfl
 have e2:o7 NS "parts" (aq 2) [.lo,.sh (aH N ps),.sh (aH M qs)] = some (cP qs):=by
  show (if NS.contains M then wP ["parts"] [cP qs] "parts" else none) = _
  rw [Pb hM]
  rfl
 have e3:xOp b5 (o7 NS "parts" (aq 1)) (o7 NS "parts" (aq 2)) [.lo,.sh (aH N ps),.sh (aH M qs)] = some (cP (ps ++ qs)):=by
  unfold xOp
  rw [e1,e2]
  show b5 (cP ps) (cP qs) = _
  rw [BK,Pb hl,<- Qw]
 exact DC (pT e3 rfl) hm
theorem t9 (bs:List Blk) (x y:Int):Off [bs] x y ↔ EA bs x y:=by
 constructor
 ·rintro ⟨u,v,h,h1,h2⟩
  rwa [show x = u by lia,show y = v by lia]
 ·intro h
  exact ⟨x,y,h,by lia,by lia⟩
theorem Ff (bs:List Blk):bs.length <= a9 bs:=by
 induction bs with
 | nil=>exact P8 _
 | cons b bs ih=>
  have e:a9 (b :: bs) = dA b + a9 bs:=rfl
  rw [e,Pw]
  unfold dA
  lia
theorem uo {x y w:Int} {h:Nat} (hw:1 <= w) (hh:1 <= h) (h5:h <= 5):gk [aB (bc x y w h)] = some (cP [cI (bc x y w h)]) /\ FOk [cI (bc x y w h)] /\ (cI (bc x y w h)).length <= 10 /\ a9 (cI (bc x y w h)) <= 10 /\ (∀ u v,Off [cI (bc x y w h)] u v ↔ x <= u /\ u <= x + w - 1 /\ y <= v /\ v < y + h) /\ ∀ b ∈ cI (bc x y w h),y <= b.2.1 /\ b.2.2.2 < y + h:=by
 have c:=fE x y w h
 have hl:=qv c (fun _ _=>Qt) (m8 x y w h)
 have ne:bc x y w h ≠ []:=fun e=>by have:=rect_nil.mp e;lia
 obtain ⟨_,b1,b2,b3⟩:=mV (bc x y w h) c (by lia)
 have hp:=Ff (cI (bc x y w h))
 refine ⟨zK _ c ne (by lia),fun z hz=>?_,by lia,by lia,fun u v=>?_,fun b hb=>?_⟩
 ·rw [Pi] at hz
  subst hz
  refine ⟨fun e=>?_,b1⟩
  obtain ⟨b,hb,_⟩:=(b3 x y).mpr ((dB ..).mpr ⟨by lia,by lia,by lia,by lia⟩)
  rw [e] at hb
  cases hb
 ·rw [t9,<- dB]
  exact b3 u v
 ·obtain ⟨k1,k2⟩:=b1 b hb
  have q1:=(dB ..).mp ((b3 b.1 b.2.1).mp ⟨b,hb,PC _,k1,PC _,k2⟩)
  have q2:=(dB ..).mp ((b3 b.2.2.1 b.2.2.2).mp ⟨b,hb,k1,PC _,k2,PC _⟩)
  lia
theorem wJ (way:Int) (hw:way = 0 \/ way = 1 \/ way = 2):∃ (N:Str) (ps:List (List Blk)) (bs:List Blk) (a b:Nat),NS.contains N = true /\ yC [.int way] = some (aH N ps) /\ RF ps bs a b /\ ((way = 0 /\ a = 1 /\ b = 1) \/ (way = 1 /\ a = 1 /\ b = 0) \/ (way = 2 /\ a = 0 /\ b = 1)):=by
 have l1:1 <= LIM:=aZ (by lia)
 have l2:2 <= LIM:=aZ (by lia)
 have aV:∀ (d:D),(kP [.sh (.int way)] = some (.rt d)) -> yC [.int way] = some d:=fun d h=>ml (n:=1) (ds:=[.int way]) h
 rcases hw with rfl | rfl | rfl
 ·refine ⟨"Box",[[(-0,-0,1,1)]],[(-0,-0,1,1)],1,1,by decide,aV _ ?_,⟨rfl,fun z hz=>?_,by decide,by decide,fun u v=>?_⟩,.inl ⟨rfl,rfl,rfl⟩⟩
  ·unfold kP
   exact vf (by simp) (tj (ds:=[.int 0,.int 0,.int 1,.int 1]) (by simp) (wZ 0 0 1 1 (by lia) (by lia) (by lia) (by lia)))
  ·rw [Pi] at hz
   subst hz
   exact ⟨by simp,fun b hb=>by rw [Pi] at hb;subst hb;exact ⟨by decide,by decide⟩⟩
  ·rw [t9,e7]
   unfold mH
   dsimp only
   lia
 ·obtain ⟨s1,s2,s3,s4,s5,_⟩:=uo (x:=0) (y:=0) (w:=2) (h:=1) (by lia) (by lia) (by lia)
  have e:bc 0 0 2 1 = [(0,[(0,1)])]:=by decide
  refine ⟨"Shape",_,_,1,0,by decide,aV _ ?_,⟨rfl,s2,⟨s3,s4⟩,by decide,fun u v=>?_⟩,.inr (.inl ⟨rfl,rfl,rfl⟩)⟩
  ·unfold kP
   rw [aX (mm (by simp))]
   exact vf (by simp) (tj (ds:=[aB (bc 0 0 2 1)]) (by rw [e];simp [l1,l2]) s1)
  ·rw [s5]
   lia
 ·obtain ⟨s1,s2,s3,s4,s5,_⟩:=uo (x:=0) (y:=0) (w:=1) (h:=2) (by lia) (by lia) (by lia)
  have e:bc 0 0 1 2 = [(0,[(0,0)]),(1,[(0,0)])]:=by decide
  refine ⟨"Shape",_,_,0,1,by decide,aV _ ?_,⟨rfl,s2,⟨s3,s4⟩,by decide,fun u v=>?_⟩,.inr (.inr ⟨rfl,rfl,rfl⟩)⟩
  ·unfold kP
   rw [aX (mm (by simp)),aX (mm (by simp))]
   have hm:ik "Shape" "parts" gk (af (aL (af (aL (af (xC (.int 0)) (af (aL (af (aL (af (xC (.int 0)) (af (xC (.int 0)) ao))) ao)) ao))) (af (aL (af (xC (.int 1)) (af (aL (af (aL (af (xC (.int 0)) (af (xC (.int 0)) ao))) ao)) ao))) ao))) ao) [.sh (.int 2)] = some (aH "Shape" [cI (bc 0 0 1 2)]):=tj (ds:=[aB (bc 0 0 1 2)]) (by rw [e];simp [l1,l2]) s1
   unfold bD
   rw [hm]
   rfl
  ·rw [s5]
   lia
theorem wd (c m:Int) (h:0 < m):∃ v:Int,gA [.int c,.int m] = some (.int v):=by
 by_cases h0:c < 0
 ·exact ⟨_,by simp [gA,lc,fnO,kE,h0,h];rfl⟩
 ·exact ⟨_,by simp [gA,lc,fnO,kE,h0,h];rfl⟩
abbrev cr0:List Blk:=[(-0,0,0,0),(0,-0,0,0)]
theorem GO:FOk [cr0]:=fun z hz=>by
 rw [Pi] at hz
 subst hz
 refine ⟨by simp,fun b hb=>?_⟩
 have:b = (0,0,0,0):=by simpa using hb
 subst this
 exact ⟨by decide,by decide⟩
theorem Cz (u v:Int) (h:Off [cr0] u v):u = 0 /\ v = 0:=by
 rw [t9] at h
 obtain ⟨b,hb,h1,h2,h3,h4⟩:=h
 have:b = (0,0,0,0):=by simpa using hb
 subst this
 dsimp only at *
 lia
theorem zw:∀ ss:List Blk,(∀ b ∈ ss,b.2.1 = b.2.2.2) -> (nk ss).2.1 = (nk ss).2.2.2
 | [],_=>rfl
 | b :: ss,h=>by
  have e:nk (b :: ss) = uZ b (nk ss):=rfl
  rw [e]
  unfold uZ
  dsimp only
  rw [h b Pm,zw ss fun c hc=>h c (Po _ hc)]
theorem pA (c:Int):∃ (N:Str) (ps:List (List Blk)),ni [.int c] = some (aH N ps) /\ a8 [aH N ps] = some (.bl true):=by
 have l1:1 <= LIM:=aZ (by lia)
 have l2:2 <= LIM:=aZ (by lia)
 obtain ⟨P40,hP40⟩:∃ P:Int,(10:Int) ^ (40:Int).toNat = P:=⟨_,rfl⟩
 have p40:wD (.int 10) (.int 40) = some (.int P40):=by rw [<- hP40];exact pK (by decide)
 have h40:0 < P40:=by rw [<- hP40];decide
 clear hP40
 obtain ⟨f,hf⟩:=wd c P40 h40
 obtain ⟨s1,s2,s3,s4,s5,s6⟩:=uo (x:=0 - f) (y:=f) (w:=1) (h:=1) (by lia) (by lia) (by lia)
 have e:bc (0 - f) f 1 1 = [(f,[(0 - f,0 - f)])]:=by
  unfold bc
  rw [Pb (by decide)]
  show [(f + ((0:Nat):Int),[(0 - f,0 - f + 1 - 1)])] = _
  simp
 generalize hbs:cI (bc (0 - f) f 1 1) = bs at *
 have aV:∀ (d:D),(dm [.sh (.int c),.un,.un] = some (.rt d)) -> ni [.int c] = some d:=fun d h=>ml (n:=3) (ds:=[.int c]) h
 have st1:∀ n:XS,aQ (bH (aF gA (af (aq 0) (af (xOp wD (xC (.int 10)) (xC (.int 40))) ao))) (ah 1)) n [.sh (.int c),.un,.un] = n [.sh (.int c),.sh (.int f),.un]:=fun n=>by simp [-pK,p40,hf]
 have st2:bH (ik "Shape" "parts" gk (af (aL (af (aL (af (aq 1) (af (aL (af (aL (af (xOp gD (xC (.int 0)) (ai 1)) (af (xOp gD (xC (.int 0)) (ai 1)) ao))) ao)) ao))) ao)) ao)) (ah 2) [.sh (.int c),.sh (.int f),.un] = some (.nx [.sh (.int c),.sh (.int f),.sh (aH "Shape" [bs])]):=gI (tj (ds:=[aB (bc (0 - f) f 1 1)]) (by rw [e];simp [l1,l2]) s1)
 have iC:kF [.int 0] = some (cP [cr0]):=by simp [kF,Ag]
 have spot:a8 [aH "Shape" [bs]] = some (.bl true):=uh s2 (fun z hz=>by rw [Pi] at hz;subst hz;lia) (fun z hz=>by rw [Pi] at hz;subst hz;lia) (u0:=0 - f) (v0:=f) (fun u v h=>by have:=(s5 u v).mp h;lia) (by decide)
 have hw:c % 4 = 0 \/ c % 4 = 1 \/ c % 4 = 2 \/ c % 4 = 3:=by lia
 rcases hw with hw | hw | hw | hw
 ·refine ⟨"Box",[[(-0,-0,0,0)]],aV _ ?_,uh (fun z hz=>?_) (fun z hz=>?_) (fun z hz=>?_) (u0:=0) (v0:=0) (fun u v h=>?_) (by decide)⟩
  ·unfold dm
   rw [st1,aX st2]
   exact vf (by generalize aH "Shape" [bs] = S;simp [hw]) (tj (ds:=[.int 0,.int 0,.int 0,.int 0]) (by rfl) (wZ 0 0 0 0 (by lia) (by lia) (by lia) (by lia)))
  ·rw [Pi] at hz
   subst hz
   exact ⟨by simp,fun b hb=>by rw [Pi] at hb;subst hb;exact ⟨by decide,by decide⟩⟩
  ·rw [Pi] at hz;subst hz;decide
  ·rw [Pi] at hz;subst hz;decide
  ·rw [t9,e7] at h
   obtain ⟨a1,a2,a3,a4⟩:=h
   dsimp only at *
   lia
 ·refine ⟨"Cross",[cr0],aV _ ?_,uh GO (fun z hz=>by rw [Pi] at hz;subst hz;decide) (fun z hz=>by rw [Pi] at hz;subst hz;decide) (u0:=0) (v0:=0) Cz (by decide)⟩
  unfold dm
  rw [st1,aX st2,aX (mm (by generalize aH "Shape" [bs] = S;simp [hw]))]
  exact vf (by generalize aH "Shape" [bs] = S;simp [hw]) (tj (ds:=[.int 0]) (by rfl) iC)
 ·refine ⟨"Shape",[bs],aV _ ?_,spot⟩
  unfold dm
  rw [st1,aX st2,aX (mm (by generalize aH "Shape" [bs] = S;simp [hw])),aX (mm (by generalize aH "Shape" [bs] = S;simp [hw]))]
  exact vf (by generalize aH "Shape" [bs] = S;simp [hw]) rfl
 ·have iX:=DJ "Shape" "Cross" (by decide) (by decide) [bs] [cr0] (by show 2 <= 1000;decide)
  have ok2:FOk ([bs] ++ [cr0]):=fun z hz=>(Pu.mp hz).elim (s2 z) (GO z)
  have hz2:∀ z ∈ tN ([bs] ++ [cr0]),z.length <= 1000 /\ a9 z <= 3333:=fun z hz=>by
   rcases Pq.mp hz with rfl | hz
   ·refine ⟨by simp,?_⟩
    have hfl:=zw (aN ([bs] ++ [cr0])) fun b hb=>by
     obtain ⟨z,h1,h2⟩:=Rj.mp hb
     split at h2
     ·have hbz:=List.mem_of_mem_head? h2
      rcases Pu.mp h1 with h1 | h1
      ·rw [Pi] at h1
       subst h1
       have:=s6 b hbz
       have:=(s2 z (Pi.mpr rfl)).2 b hbz
       have:=this.2
       lia
      ·rw [Pi] at h1
       subst h1
       have:b = (0,0,0,0):=by simpa using hbz
       subst this
       rfl
     ·cases h2
    rw [iU]
    unfold dA
    lia
   ·rcases Pu.mp (PL.mp hz).1 with hz | hz
    ·rw [Pi] at hz;subst hz;exact ⟨by lia,by lia⟩
    ·rw [Pi] at hz;subst hz;exact ⟨by decide,by decide⟩
  refine ⟨"Sum",tN ([bs] ++ [cr0]),aV _ ?_,uh (IJ ok2) (fun z hz=>(hz2 z hz).1) (fun z hz=>(hz2 z hz).2) (u0:=0 - f) (v0:=f) (fun u v h=>?_) (by decide)⟩
  ·unfold dm
   rw [st1,aX st2,aX (mm (by generalize aH "Shape" [bs] = S;simp [hw])),aX (mm (by generalize aH "Shape" [bs] = S;simp [hw])),aX (mm (by generalize aH "Shape" [bs] = S;simp [hw]))]
   have hm:ik "Sum" "parts" yc (af (aq 2) (af (ik "Cross" "parts" kF (af (xC (.int 0)) ao)) ao)) [.sh (.int c),.sh (.int f),.sh (aH "Shape" [bs])] = some (aH "Sum" (tN ([bs] ++ [cr0]))):=tj (pT (d:=aH "Shape" [bs]) rfl (pT (tj (ds:=[.int 0]) (by rfl) iC) rfl)) iX
   unfold bD
   rw [hm]
   rfl
  ·rw [CW ok2,oV] at h
   obtain ⟨u1,v1,h1,h2⟩:=h
   have k1:=(s5 _ _).mp h1
   have k2:=Cz _ _ h2
   lia
theorem eT (ns:List Int) (k:Nat):∃ v:Int,aS [.scr (ns.map D.int),.int (k:Int)] = some (.int v):=by
 by_cases h:k < ns.length
 ·have h':(k:Int) < ns.length:=by lia
  have ac:atI (ns.map D.int) (k:Int) = some (.int ns[k]):=jw (by rw [PN,Qi h];rfl)
  exact ⟨ns[k],by simp [aS,jK,fnO,jk,h',ac]⟩
 ·have h':¬ (k:Int) < ns.length:=by lia
  exact ⟨0,by simp [aS,jK,fnO,jk,h']⟩
theorem Hk (a b x:Int) (ha:0 < a) (hb:0 < b):∃ u:Int,0 < u /\ atI [D.int a,.int b] (x % 2) = some (.int u):=by
 have:x % 2 = 0 \/ x % 2 = 1:=by lia
 rcases this with e | e <;> rw [e]
 ·exact ⟨a,ha,rfl⟩
 ·exact ⟨b,hb,rfl⟩
theorem MZ (n:Nat) (hn:n <= 1000):IE [D.int (n:Int)] = some ((List.range n).map fun i:Nat=>D.int (i:Int)):=by
 show ifC _ _ _ = _
 rw [jJ (by lia)]
 show some (fc 0 n) = _
 rw [GE]
theorem B3 {i:Nat} {c:XT} {a n:XS} {ρ ρ':M.Env} (e:frz i ρ = ρ') (h:c ρ' = some false):aQ (AN i (xIf c a d9)) n ρ = n ρ':=by
 unfold aQ AN
 rw [e,mm h]
theorem G5 (ns:List Int) (h:ns.length <= 63):Ms [.scr (ns.map D.int)] = some (.bl true):=by
 have l1:1 <= LIM:=aZ (by lia)
 have l2:2 <= LIM:=aZ (by lia)
 have l8:8 <= LIM:=aZ (by lia)
 obtain ⟨P58,hP58⟩:∃ P:Int,(10:Int) ^ (58:Int).toNat = P:=⟨_,rfl⟩
 have p58:wD (.int 10) (.int 58) = some (.int P58):=by rw [<- hP58];exact pK (by decide)
 have h58:0 < P58:=by rw [<- hP58];decide
 clear hP58
 obtain ⟨P40,hP40⟩:∃ P:Int,(10:Int) ^ (40:Int).toNat = P:=⟨_,rfl⟩
 have p40:wD (.int 10) (.int 40) = some (.int P40):=by rw [<- hP40];exact pK (by decide)
 have h40:0 < P40:=by rw [<- hP40];decide
 clear hP40
 obtain ⟨f,hf⟩:∃ v:Int,aS [.scr (ns.map D.int),.int 0] = some (.int v):=eT ns 0
 obtain ⟨c1,hc1⟩:∃ v:Int,aS [.scr (ns.map D.int),.int 1] = some (.int v):=eT ns 1
 obtain ⟨c2,hc2⟩:∃ v:Int,aS [.scr (ns.map D.int),.int 2] = some (.int v):=eT ns 2
 obtain ⟨c3,hc3⟩:∃ v:Int,aS [.scr (ns.map D.int),.int 3] = some (.int v):=eT ns 3
 obtain ⟨c4,hc4⟩:∃ v:Int,aS [.scr (ns.map D.int),.int 4] = some (.int v):=eT ns 4
 obtain ⟨c5,hc5⟩:∃ v:Int,aS [.scr (ns.map D.int),.int 5] = some (.int v):=eT ns 5
 obtain ⟨c6,hc6⟩:∃ v:Int,aS [.scr (ns.map D.int),.int 6] = some (.int v):=eT ns 6
 obtain ⟨c7,hc7⟩:∃ v:Int,aS [.scr (ns.map D.int),.int 7] = some (.int v):=eT ns 7
 obtain ⟨c8,hc8⟩:∃ v:Int,aS [.scr (ns.map D.int),.int 8] = some (.int v):=eT ns 8
 obtain ⟨u1,hu1,e1⟩:=Hk 9 P58 f (by lia) h58
 obtain ⟨u2,hu2,e2⟩:=Hk 9 P58 (f / 2) (by lia) h58
 obtain ⟨x,hx⟩:=wd c1 u1 hu1
 obtain ⟨y,hy⟩:=wd c2 u2 hu2
 obtain ⟨n,hn,hn1⟩:∃ n:Nat,1 + c3 % 12 = (n:Int) /\ 1 <= n /\ n <= 12:=⟨(1 + c3 % 12).toNat,by lia,by lia,by lia⟩
 obtain ⟨way,hw,hw3⟩:∃ w:Int,c4 % 3 = w /\ (w = 0 \/ w = 1 \/ w = 2):=⟨_,rfl,by lia⟩
 have hm40:=Int.emod_nonneg c5 (show P40 ≠ 0 by lia)
 obtain ⟨W,hW⟩:∃ W:Int,(if way = 2 \/ (way = 0 /\ c5 % 2 = 0) then (n:Int) + c5 % P40 else n) = W:=⟨_,rfl⟩
 obtain ⟨Hh,hH⟩:∃ H:Nat,(if way = 2 \/ (way = 0 /\ c5 % 2 = 0) then (n:Int) else n + c5 % 13) = (H:Int):=⟨(if way = 2 \/ (way = 0 /\ c5 % 2 = 0) then (n:Int) else n + c5 % 13).toNat,by split <;> lia⟩
 have hWH:((way = 2 \/ (way = 0 /\ c5 % 2 = 0)) /\ W = n + c5 % P40 /\ (Hh:Int) = n) \/ (¬ (way = 2 \/ (way = 0 /\ c5 % 2 = 0)) /\ W = n /\ (Hh:Int) = n + c5 % 13):=by
  by_cases hc:way = 2 \/ (way = 0 /\ c5 % 2 = 0)
  ·rw [Pb hc] at hW hH
   exact .inl ⟨hc,hW.symm,hH.symm⟩
  ·rw [Pc hc] at hW hH
   exact .inr ⟨hc,hW.symm,hH.symm⟩
 have hHb:1 <= Hh /\ Hh <= 24:=by lia
 have hWb:1 <= W:=by lia
 obtain ⟨N,ps,bs,a,b,hN,mf,rf,hab⟩:=wJ way hw3
 have no1:=rf.no_one (by lia) hN
 have hempty:∀ k:Nat,bc x y (W - (k:Int) * a) (Hh - k * b) = [] ↔ n <= k:=fun k=>by
  rw [rect_nil]
  clear hW hH
  rcases hab with ⟨rfl,rfl,rfl⟩ | ⟨rfl,rfl,rfl⟩ | ⟨rfl,rfl,rfl⟩ <;> lia
 obtain ⟨X,G,C,hX,L⟩:=Af rf hN x y W Hh (by lia)
 have hX0:X 0 = bc x y W Hh:=by rw [hX];simp
 have hXe:∀ k,X k = [] ↔ n <= k:=fun k=>by rw [hX];exact hempty k
 have told1:∀ m:Nat,n <= m -> cM [aB (bc x y W Hh),aH N ps,.int (m:Int)] = some (.tup [.non,.int (n:Int)]):=fun m hm=>by
  have:=gE L (n:=n) (m:=m) (by lia) hm (.inl ((hXe n).mpr (Pj _))) fun k hk e=>by have:=(hXe k).mp e;lia
  rw [(hXe n).mpr (Pj _),hX0] at this
  have:=AF no1 this
  rw [jg] at this
  exact this
 have told2:∀ m:Nat,m < n -> cM [aB (bc x y W Hh),aH N ps,.int (m:Int)] = some (.tup [.lst [.bl true,.bl true,.bl false,.bl false,.bl false,.bl false,.bl false,.bl false],.int 0]):=fun m hm=>by
  have:=gE L (n:=m) (m:=m) (by lia) (Pj _) (.inr rfl) fun k hk e=>by have:=(hXe k).mp e;lia
  rw [hX0] at this
  exact Er (fun e=>by have:=(hXe m).mp e;lia) no1 this
 obtain ⟨X',G',C',hX',L'⟩:=Af rf hN 0 0 0 0 (by lia)
 have told0:cM [.tup [],aH N ps,.int 0] = some (.tup [.non,.int 0]):=by
  have e0:X' 0 = []:=by rw [hX'];exact rect_nil.mpr (.inr (by lia))
  have:=gE L' (n:=0) (m:=0) (by lia) (Pj _) (.inr rfl) fun k hk=>by lia
  rw [e0] at this
  exact AF no1 this
 obtain ⟨N2,ps2,ma,one1⟩:=pA c7
 have toldA:=fun (P0:D) (m:Int)=>Ej (P0:=P0) (m:=m) one1
 have t1:=told1 n (Pj _)
 have t2:cM [aB (bc x y W Hh),aH N ps,.int 100] = some (.tup [.non,.int (n:Int)]):=told1 100 (by lia)
 have t3:cM [aB (bc x y W Hh),aH N ps,.int ((n:Int) - 1)] = some (.tup [.lst [.bl true,.bl true,.bl false,.bl false,.bl false,.bl false,.bl false,.bl false],.int 0]):=by
  have:=told2 (n - 1) (by lia)
  rwa [show ((n - 1:Nat):Int) = (n:Int) - 1 by lia] at this
 have t4:cM [aB (bc x y W Hh),aH N ps,.int (c6 % (n:Int))] = some (.tup [.lst [.bl true,.bl true,.bl false,.bl false,.bl false,.bl false,.bl false,.bl false],.int 0]):=by
  have q1:=Int.emod_nonneg c6 (show (n:Int) ≠ 0 by lia)
  have q2:=Int.emod_lt_of_pos c6 (show (0:Int) < n by lia)
  have:=told2 (c6 % (n:Int)).toNat (by lia)
  rwa [show (((c6 % (n:Int)).toNat:Nat):Int) = c6 % (n:Int) by lia] at this
 have hr:=MZ Hh (by lia)
 have hrl:((List.range Hh).map fun i:Nat=>D.int (i:Int)).length <= LIM:=aZ (by rw [Ph,RT];lia)
 have hcomp:bV (ah 0) cU (aL (af (xOp b5 (ai 1) (ai 0)) (af (aL (af (aL (af (aq 2) (af (xOp gD (xOp b5 (ai 2) (ai 3)) (xC (.int 1))) ao))) ao)) ao))) [.un,.sh (.int y),.sh (.int x),.sh (.int W)] ((List.range Hh).map fun i:Nat=>D.int (i:Int)) = some ((bc x y W Hh).map pyD):=by
  unfold bc
  rw [Pb hWb,PP]
  exact bp (fun i:Nat=>D.int (i:Int)) (pyD ∘ fun k:Nat=>(y + (k:Int),[(x,x + W - 1)])) (List.range Hh) fun k hk=>by simp [eY,l1,l2]
 have dN:dEq true (D.tup [.non,.int (n:Int)]) (.tup [.non,.int (n:Int)]) = some (.bl false):=kH true rfl
 have dN':dEq false (D.tup [.non,.int (n:Int)]) (.tup [.non,.int (n:Int)]) = some (.bl true):=kH false rfl
 have d0:dEq false (D.tup [.non,.int 0]) (.tup [.non,.int 0]) = some (.bl true):=kH false rfl
 have dM:dEq true (D.tup [.lst [.bl true,.bl true,.bl false,.bl false,.bl false,.bl false,.bl false,.bl false],.int 0]) (.tup [.lst [.bl true,.bl true,.bl false,.bl false,.bl false,.bl false,.bl false,.bl false],.int 0]) = some (.bl false):=kH true rfl
 have dF:dEq true (D.tup [.lst [.bl true,.bl false,.bl true,.bl false,.bl false,.bl false,.bl false,.bl false],.int 0]) (.tup [.lst [.bl true,.bl false,.bl true,.bl false,.bl false,.bl false,.bl false,.bl false],.int 0]) = some (.bl false):=kH true rfl
 have hn0:(0:Int) < n:=by lia
 have hmod:mz (.int c6) (.int (n:Int)) = some (.int (c6 % (n:Int))):=Mb hn0
 clear told1 told2 hempty hX L hXe hX0 hX' L' rf no1 hab one1
 have hPr:aB (bc x y W Hh) = .tup ((bc x y W Hh).map pyD):=rfl
 generalize aB (bc x y W Hh) = P0 at *
 generalize (bc x y W Hh).map pyD = pl at *
 generalize ((List.range Hh).map fun i:Nat=>D.int (i:Int)) = rl at *
 generalize aH N ps = F at *
 generalize aH N2 ps2 = F2 at *
 generalize hsc:D.scr (ns.map D.int) = sc at *
 have ex:A6 [.sh sc,.un,.un,.un,.un,.un,.un,.un,.un,.un,.un,.un,.un] = some (.rt (.bl true)):=by
  unfold A6
  rw [aX (gI (d:=.int f) (by simp [hf]))]
  rw [aX (gI (d:=.int x) (by simp [-pK,hc1,p58,e1,hx,l2]))]
  rw [aX (gI (d:=.int y) (by simp [-pK,hc2,p58,e2,hy,l2]))]
  rw [aX (gI (d:=.int (n:Int)) (by simp [hc3,hn]))]
  rw [aX (gI (d:=.int way) (by simp [hc4,hw]))]
  rw [aX (gI (d:=.int (n:Int)) (by simp))]
  rw [aX (gI (d:=.int ((n:Int) + c5 % 13)) (by simp [hc5]))]
  rw [aX (ρ':=[.sh sc,.sh (.int f),.sh (.int x),.sh (.int y),.sh (.int (n:Int)),.sh (.int way),.sh (.int W),.sh (.int (Hh:Int)),.un,.un,.un,.un,.un]) (by
   rw [<- hW,<- hH]
   by_cases k1:way = 2
   ·simp [-pK,k1,hc5,p40,h40]
   ·by_cases k2:way = 0
    ·by_cases k3:c5 % 2 = 0
     ·simp [-pK,k2,k3,hc5,p40,h40]
     ·simp [-pK,k2,k3,hc5]
    ·simp [k1,k2])]
  rw [aX (gI (d:=P0) (by rw [hPr];simp [hr,hrl,hcomp]))]
  rw [aX (gI (d:=F) (by simp [mf]))]
  rw [aX (ρ':=[.sh sc,.sh (.int f),.sh (.int x),.sh (.int y),.sh (.int (n:Int)),.sh (.int way),.sh (.int W),.sh (.int (Hh:Int)),.sh P0,.sh F,owl [.bl false,.bl true,.bl false,.bl false,.bl false,.bl false,.bl false,.bl false],.un,.un]) (by simp [l8])]
  rw [aX (ρ':=[.sh sc,.sh (.int f),.sh (.int x),.sh (.int y),.sh (.int (n:Int)),.sh (.int way),.sh (.int W),.sh (.int (Hh:Int)),.sh P0,.sh F,owl [.bl false,.bl true,.bl false,.bl false,.bl false,.bl false,.bl false,.bl false],owl [.bl false,.bl false,.bl true,.bl false,.bl false,.bl false,.bl false,.bl false],.un]) (by simp [l8])]
  rw [aX (ρ':=[.sh sc,.sh (.int f),.sh (.int x),.sh (.int y),.sh (.int (n:Int)),.sh (.int way),.sh (.int W),.sh (.int (Hh:Int)),.sh P0,.sh F,owl [.bl true,.bl true,.bl false,.bl false,.bl false,.bl false,.bl false,.bl false],owl [.bl false,.bl false,.bl true,.bl false,.bl false,.bl false,.bl false,.bl false],.un]) (by simp [ixN])]
  rw [aX (ρ':=[.sh sc,.sh (.int f),.sh (.int x),.sh (.int y),.sh (.int (n:Int)),.sh (.int way),.sh (.int W),.sh (.int (Hh:Int)),.sh P0,.sh F,owl [.bl true,.bl true,.bl false,.bl false,.bl false,.bl false,.bl false,.bl false],owl [.bl true,.bl false,.bl true,.bl false,.bl false,.bl false,.bl false,.bl false],.un]) (by simp [ixN])]
  rw [aX (mm (by simp [t1,t2,dN,l2]))]
  rw [B3 (ρ':=[.sh sc,.sh (.int f),.sh (.int x),.sh (.int y),.sh (.int (n:Int)),.sh (.int way),.sh (.int W),.sh (.int (Hh:Int)),.sh P0,.sh F,.sh (.lst [.bl true,.bl true,.bl false,.bl false,.bl false,.bl false,.bl false,.bl false]),owl [.bl true,.bl false,.bl true,.bl false,.bl false,.bl false,.bl false,.bl false],.un]) rfl (by simp [t3,dM,l2])]
  rw [B3 (ρ':=[.sh sc,.sh (.int f),.sh (.int x),.sh (.int y),.sh (.int (n:Int)),.sh (.int way),.sh (.int W),.sh (.int (Hh:Int)),.sh P0,.sh F,.sh (.lst [.bl true,.bl true,.bl false,.bl false,.bl false,.bl false,.bl false,.bl false]),owl [.bl true,.bl false,.bl true,.bl false,.bl false,.bl false,.bl false,.bl false],.un]) rfl (by simp [hc6,hmod,t4,dM,l2])]
  rw [aX (gI (d:=F2) (by simp [hc7,ma]))]
  rw [B3 (ρ':=[.sh sc,.sh (.int f),.sh (.int x),.sh (.int y),.sh (.int (n:Int)),.sh (.int way),.sh (.int W),.sh (.int (Hh:Int)),.sh P0,.sh F,.sh (.lst [.bl true,.bl true,.bl false,.bl false,.bl false,.bl false,.bl false,.bl false]),.sh (.lst [.bl true,.bl false,.bl true,.bl false,.bl false,.bl false,.bl false,.bl false]),.sh F2]) rfl (by simp [hc8,toldA,dF,l2])]
  simp [t1,told0,dN',d0,l2]
 exact ml (n:=13) (ds:=[sc]) ex
end P
namespace L2
open PySem PySem.Spec PyProof.Rows M
section
variable {X:Cx} {a b e:Expr} {es:List Expr} {ta tb te:TE} {t:TA} {p pos pos':Pos} {x:Str}
theorem pgn (i:Nat) (hN:X.N.Nodup) (hi:X.N[i]? = some x:=by rfl) (hx:Loc X.env.scope x:=by exact .inl rfl) (hf:X.fn x = true \/ X.env.scope.names.lookup x = some .local:=by first | exact .inl rfl | exact .inr rfl | assumption):PG X (.Name x pos) (ir i):=p9 hN hi hx hf
theorem pgc {N:List Str} {scope:Scope} {z:CxZ} (i:Nat) (hN:N.Nodup:=by decide +kernel) (hi:(cxC X N scope z).N[i]? = some x:=by rfl) (hx:Loc (cxC X N scope z).env.scope x:=by exact .inl rfl) (hf:(cxC X N scope z).fn x = true \/ (cxC X N scope z).env.scope.names.lookup x = some .local:=by first | exact .inl rfl | exact .inr rfl | assumption):PG (cxC X N scope z) (.Name x pos) (ir i):=p9 hN hi hx hf
theorem pst (i:Nat) (hN:X.N.Nodup) (he:PE X e te) (hi:X.N[i]? = some x:=by rfl) (hx:Loc X.env.scope x:=by exact .inl rfl) (hs:swapsWith e (some (.Name x pos')) pos.line X.env = pure false:=by rfl) (hf:X.fn x = true \/ X.env.scope.names.lookup x = some .local:=by first | exact .inl rfl | exact .inr rfl | assumption) :
  PS X (.Assign [.Name x pos'] e pos) (vO te (ir i)):=mO hN hi hx he hs hf
theorem pix (ha:PE X a ta) (hb:PE X b tb) (hs:CB b:=by exact fun _ _=>rfl):PE X (.Subscript a b pos) (tOp (rIx X.K) ta tb):=I9 GL ha hb hs
theorem ptc {op:CmpOp} {r:R2} (ho:OpR X (compareOp op) r) (ha:PE X a ta) (hb:PE X b tb) (hm:behindInMarks op b = false:=by exact mT _):PT X (.Compare a [op] [b] pos) (FG (tOp r ta tb)):=pM ho ha hb hm
theorem pcl {n k:Nat} {ps:List Str} {sp:Sp} {f:Addr} {fd:FuncData} (F:FnOk X.prog X.w X.K X.mg X.base CX0 n f fd ps sp) (hr:Room k X.A) (hm:X.mg x = some (.ref f)) (hk:W.keepIn X.K (.ref f) = true) (hb:Binds X.K fd ps []) (ha:PA X (e :: es) t) (hn:n <= k:=by decide) (hg:Gl X x:=by rfl) (hdb:(x == ("__debug__" : Str)) = false:=by decide)
  (he:starEach (e :: es) X.env = (false,eval e X.env) :: starEach es X.env:=by rfl) (hpl:(backTo pos (starEach es X.env)).any (·.1) = false:=by rfl):PE X (.Call (.Name x p) (e :: es) [] pos) (sY sp [] E0 t):=qw F (hr.mono hn) hg hm hk hb .nil fM ha hdb he hpl
end
theorem Fun.okk {P:Program} {w:World} {K:W.Frag} {mg:Str -> Option Value} {base:Heap} {x qual:Str} {st:Stmt} {f:Addr} {fd:FuncData} {N ps:List Str} {k n j:Nat} {y:XS} {t:TS} (F:Fun K x qual st f fd) (hs:SS K t y) (hN:N.length = n) (hj:ps.length = j) (S:FnScope N ps (aG st))
  (hb:N.Nodup -> ∀ (cdv:Value) (A:Around) (outer:List PySem.Env) (s:Shared) (H:Hp) (E:XK),Room k (A.deeper (envOfC qual (aG st) s.heap.objs.size f cdv)) ->
   ∃ t',PSs (rH CX0 P w K mg base N qual (aG st) f cdv A outer s H E).nox (kT st) t' /\ t' = t):FnOk P w K mg base CX0 (k + 1) f fd ps (cS K j (fnO n y)):=by
 refine F.ok S (fun vs H Q E h=>h.1.trans hj.symm) fun cdv A outer s H vs Q E hr h=>?_
 obtain ⟨t',h1,rfl⟩:=hb S.nd cdv A outer s H E hr
 exact ⟨_,h1,M.Lk hs hN h⟩
end L2
namespace Lw
open PySem PySem.W L2 M P
set_option autoImplicit true
def top (i : Nat) : Stmt := PySem.Challenge.pw_shapethin_k64_too_many_cores.main.body.getD i (.Pass ⟨0, 0, 0, 0⟩)
abbrev vD:Stmt:=top 11
abbrev oG:Stmt:=top 12
abbrev pS:Stmt:=top 13
abbrev uL:Stmt:=top 14
abbrev gd:Stmt:=top 15
abbrev m5:Stmt:=top 16
abbrev ll:Stmt:=top 17
abbrev iI:Stmt:=top 19
abbrev je:Stmt:=top 20
abbrev zX:Stmt:=top 21
abbrev fS:Stmt:=top 22
abbrev Gp:Stmt:=top 23
abbrev uq:Stmt:=top 24
abbrev B6:Stmt:=top 25
abbrev qS:Stmt:=top 26
abbrev zi:Stmt:=top 27
abbrev nw:Stmt:=top 30
abbrev eK:Stmt:=top 31
abbrev oh:Stmt:=top 32
abbrev nV:Stmt:=top 33
abbrev fH:Stmt:=top 34
abbrev jW:Stmt:=top 35
abbrev fI:Stmt:=top 36
abbrev jY:Stmt:=top 37
abbrev rJ:Stmt:=top 38
abbrev lY:Stmt:=top 39
abbrev nZ:Stmt:=top 46
abbrev m9:Stmt:=top 47
abbrev t6:Stmt:=top 48
abbrev vz:Stmt:=top 50
abbrev xw:Stmt:=top 51
abbrev Dp:Stmt:=top 52
abbrev sQ:Stmt:=top 53
abbrev Dt:Stmt:=top 54
abbrev Fp:Stmt:=top 55
abbrev hJ:Stmt:=kY (top 40) 0
abbrev mX:Stmt:=kY (top 40) 2
abbrev mZ:Stmt:=kY (top 40) 3
abbrev jE:Stmt:=kY (top 41) 0
abbrev gN:Stmt:=kY (top 42) 0
abbrev gK:Stmt:=kY (top 43) 0
abbrev jp:Stmt:=kY (top 44) 0
structure Txt (K:Frag) (mg:Str -> Option Value):Prop where
 ValueError:mg "ValueError" = none
 isinstance:mg "isinstance" = none
 len:mg "len" = none
 max:mg "max" = none
 min:mg "min" = none
 range:mg "range" = none
 reversed:mg "reversed" = none
 sorted:mg "sorted" = none
 sum:mg "sum" = none
 tuple:mg "tuple" = none
 ONE_CELL:∃ (u:Value) (v:V),mg "ONE_CELL" = some u /\ RelV v u /\ ∀ S,Den K S (.tup [.tup [.int (0),.tup [.tup [.int (0),.int (0)]]]]) v
 cN:uH K NS fun C=>Cls K C /\ NoAttr K C "parts"
 xc_ShapeError:∃ T:Addr,mg "ShapeError" = some (.ref T) /\ ∀ N ∈ xNs,∀ C:Addr,nsIn K mainGlobals N = some (some (.ref C)) -> exmOne K (.ref C) (.ref T) = some true
 xa_NoBack:∃ T:Addr,mg "NoBack" = some (.ref T) /\ jI K iV (.ref T)
 xa_NoForm:∃ T:Addr,mg "NoForm" = some (.ref T) /\ jI K iM (.ref T)
 xa_NoName:∃ T:Addr,mg "NoName" = some (.ref T) /\ jI K iP (.ref T)
 xa_NoRow:∃ T:Addr,mg "NoRow" = some (.ref T) /\ jI K km (.ref T)
 xa_NoText:∃ T:Addr,mg "NoText" = some (.ref T) /\ jI K iQ (.ref T)
 xa_TooGreat:∃ T:Addr,mg "TooGreat" = some (.ref T) /\ jI K fJ (.ref T)
 xa_TooMany:∃ T:Addr,mg "TooMany" = some (.ref T) /\ jI K gL (.ref T)
 xa_ValueError:jI K dW (.type "ValueError")
 xr_NoForm:∃ C:Addr,nsIn K mainGlobals "NoForm" = some (some (.ref C)) /\ excIn K C bmV "ValueError.__new__" = true /\ mg "NoForm" = some (.ref C)
 xr_TooMany:∃ C:Addr,nsIn K mainGlobals "TooMany" = some (some (.ref C)) /\ excIn K C bmV "ValueError.__new__" = true /\ mg "TooMany" = some (.ref C)
section
variable {P:Program} {w:World} {K:Frag} {mg:Str -> Option Value} {base:Heap}
local macro_rules | `(tactic| ac_rfl)=>`(tactic| exact ⟨rfl,rfl,rfl,by decide +kernel,rfl,by decide +kernel,by decide +kernel⟩)
theorem rK:FnScope ["self", "parts"] ["self", "parts"] (aG hJ):=⟨rfl,rfl,rfl,by decide +kernel,rfl,by decide +kernel,by decide +kernel⟩
theorem tL:FnScope ["self", "left", "up", "right", "down"] ["self", "left", "up", "right", "down"] (aG jE):=⟨rfl,rfl,rfl,by decide +kernel,rfl,by decide +kernel,by decide +kernel⟩
theorem qG:FnScope ["self", "arm"] ["self", "arm"] (aG gN):=⟨rfl,rfl,rfl,by decide +kernel,rfl,by decide +kernel,by decide +kernel⟩
theorem tY:FnScope ["self", "one", "other"] ["self", "one", "other"] (aG jp):=⟨rfl,rfl,rfl,by decide +kernel,rfl,by decide +kernel,by decide +kernel⟩
theorem qH:FnScope ["self", "picture"] ["self", "picture"] (aG gK):=⟨rfl,rfl,rfl,by decide +kernel,rfl,by decide +kernel,by decide +kernel⟩
theorem Be:FnScope ["picture", "form", "most", "layers"] ["picture", "form", "most"] (aG t6):=⟨rfl,rfl,rfl,by decide +kernel,rfl,by decide +kernel,by decide +kernel⟩
theorem rA (F:Fun K "__init__" "Form.__init__" hJ f fd) (T:Txt K mg):FnOk P w K mg base CX0 1 f fd ["self", "parts"] (kr K):=by
 refine F.ok rK (fun vs H Q E h=>h.1) (fun cdv A outer s H vs Q E hr h=>?_)
 exact ⟨_,ap (KO (pv 0) (pv 1) rfl),E5 T.cN h⟩
abbrev p0:=Ab 1 "Form" ["self", "parts"] kr
theorem zN (F:Fun K "_law_cell_at" "_law_cell_at" vz f fd) (T:Txt K mg):FnOk P w K mg base CX0 1 f fd ["_law_script", "_law_k"] (sL K):=F.okk (N:=["_law_script", "_law_k"]) (AC K).2 rfl rfl (by ac_rfl) fun nd _ _ _ _ _ _ hr=>⟨_,am (cG (ptc md (pv 1) (bd eS (by rfl) T.len kQ (ad (pv 0) ag))) (ap (aK (pix (pv 0) (pv 1)))) br) (ap (aK aj)),rfl⟩
abbrev vi:=Ak CX0 1 "_law_cell_at" ["_law_script", "_law_k"] sL
theorem Co (F:Fun K "_law_signed" "_law_signed" xw f fd) (T:Txt K mg):FnOk P w K mg base CX0 1 f fd ["_law_cell", "_law_most"] (ul K):=F.okk (N:=["_law_cell", "_law_most"]) (BI K).2 rfl rfl (by ac_rfl) fun nd _ _ _ _ _ _ hr=>⟨_,am (cG (ptc md (pv 0) aj) (ap (aK (aO dY aj (aO gj (aO dY aj (pv 0)) (pv 1))))) br) (ap (aK (aO gj (pv 0) (pv 1)))),rfl⟩
abbrev r8:=Ak CX0 1 "_law_signed" ["_law_cell", "_law_most"] ul
theorem DW (F:Fun K "box_of" "box_of" qS f fd) (T:Txt K mg):FnOk P w K mg base CX0 1 f fd ["picture"] (xp K):=F.okk (N:=["picture", "left", "right"]) (DI K).2 rfl rfl (by ac_rfl) fun nd _ _ _ _ _ _ hr=>⟨_,am (cG (ptc (eD hr.units) (pv 0) (aD ag)) (ap (aK (sF))) br) (am (pst 1 nd (bd (Bi rfl) (by rfl) T.min uA (ad (bI (show CmpOk ["picture", "left", "right"] (aG qS) _ ["y", "row"] [none,none] from eE) (bG (pv 0)) (fun _=>cz rfl (aC (pgc 0) (aC (pgc 1) bJ))) (d6 (aI aJ (aI aJ ci aA) aA)) (fun _=>bX) (fun _=>pix (pix (pv 1) aj) aj)) ag))) (am (pst 2 nd (bd (Bw rfl) (by rfl) T.max yz (ad (bI (show CmpOk ["picture", "left", "right"] (aG qS) _ ["y", "row"] [none,none] from eE) (bG (pv 0)) (fun _=>cz rfl (aC (pgc 0) (aC (pgc 1) bJ))) (d6 (aI aJ (aI aJ ci aA) aA)) (fun _=>bX) (fun _=>pix (pix (pv 1) (eV cj aj)) aj)) ag))) (ap (aK (aD (ad (pv 1) (ad (pix (pix (pv 0) aj) aj) (ad (pv 2) (ad (pix (pix (pv 0) (eV cj aj)) aj) ag))))))))),rfl⟩
abbrev zU:=Ak CX0 1 "box_of" ["picture"] xp
theorem vh (F:Fun K "count_up_to" "count_up_to" oG f fd) (T:Txt K mg):FnOk P w K mg base CX0 1 f fd ["pairs", "number"] (mB K):=F.okk (N:=["pairs", "number", "low", "high", "middle"]) (u7 K).2 rfl rfl (by ac_rfl) fun nd _ _ _ _ _ _ hr=>⟨_,am (pst 2 nd aj) (am (pst 3 nd (bd eS (by rfl) T.len kQ (ad (pv 0) ag))) (am (mU Qk (ptc md (pv 2) (pv 3)) (am (pst 4 nd (aO Cw (aO bi (pv 2) (pv 3)) aj)) (ap (cG (ptc AU (pix (pix (pv 0) (pv 4)) aj) (pv 1)) (ap (pst 2 nd (aO bi (pv 4) aj))) (ap (pst 3 nd (pv 4))))))) (ap (aK (pv 2))))),rfl⟩
abbrev ka:=Ak CX0 1 "count_up_to" ["pairs", "number"] mB
theorem tQ (F:Fun K "parts_of_sum" "parts_of_sum" eK f fd) (T:Txt K mg):FnOk P w K mg base CX0 1 f fd ["parts"] (lS K):=F.okk (N:=["parts", "single", "together"]) (tE K).2 rfl rfl (by ac_rfl) fun nd _ _ _ _ _ _ hr=>⟨_,am (mO (i:=1) nd rfl (.inr rfl) (bI (show CmpOk ["parts", "single", "together"] (aG eK) _ ["blocks"] [none] from eE) (bG (pv 0)) (fun _=>pgc 0) aJ (fun _=>qF (ptc (eD hr.units) (bd eS (by rfl) T.len kQ (ad (pv 0) ag)) aj)) (fun _=>pix (pv 0) aj))) (am (pst 2 nd (dR bw (by rfl) T.tuple fe (ad (Gx (show CmpOkC ["parts", "single", "together"] (aG eK) _ ["side", "single"] [none,some 1] "side" from Kb) (wV (by rfl) T.range (ad aj ag)) (fun _=>p9 (i:=0) (show List.Nodup (["side", "single"]:List Str) from by decide +kernel) rfl (.inr rfl)) aJ (fun _=>bX) (fun _=>bd (D4 rfl) (by rfl) T.sum KU (ad (bI (show CmpOk ["side", "single"] ({ kind:=.function,names:=[(".0",.local),("side",.cell),("sum",.globalImplicit),("single",.cell)],isGenerator:=false,isCoroutine:=false }:Scope) _ ["block", "side"] [none,some 0] from eE) (bG (pv 1)) (fun _=>pgc 0) aJ (fun _=>bX) (fun _=>pix (pv 0) (pv 1))) ag))) ag))) (ap (aK (aO bi (aD (ad (aD (ad (pv 2) ag)) ag)) (dR bw (by rfl) T.tuple fe (ad (bI (show CmpOk ["parts", "single", "together"] (aG eK) _ ["blocks"] [none] from eE) (bG (pv 0)) (fun _=>pgc 0) aJ (fun _=>qF (ptc Js (bd eS (by rfl) T.len kQ (ad (pv 0) ag)) aj)) (fun _=>pv 0)) ag)))))),rfl⟩
abbrev mt:=Ak CX0 1 "parts_of_sum" ["parts"] lS
theorem wx (F:Fun K "row_common" "row_common" pS f fd) (T:Txt K mg):FnOk P w K mg base CX0 1 f fd ["one", "other"] (nY K):=F.okk (N:=["one", "other", "shared", "here", "there", "a", "b"]) (wL K).2 rfl rfl (by ac_rfl) fun nd _ _ _ _ _ _ hr=>⟨_,am (pst 2 nd (fD ag)) (am (pst 3 nd aj) (am (pst 4 nd aj) (am (mU Qk (PW.pt (sC (ptc md (pv 3) (bd eS (by rfl) T.len kQ (ad (pv 0) ag))) (nJ (ptc md (pv 4) (bd eS (by rfl) T.len kQ (ad (pv 1) ag)))))) (am (pst 5 nd (bd (rC rfl) (by rfl) T.max yz (ad (pix (pix (pv 0) (pv 3)) aj) (ad (pix (pix (pv 1) (pv 4)) aj) ag)))) (am (pst 6 nd (bd (rg rfl) (by rfl) T.min uA (ad (pix (pix (pv 0) (pv 3)) aj) (ad (pix (pix (pv 1) (pv 4)) aj) ag)))) (am (cG (ptc AU (pv 5) (pv 6)) (ap (fk (sP QR Rf Rg fK (pv 2) (ad (aD (ad (pv 5) (ad (pv 6) ag))) ag)))) br) (ap (cG (ptc md (pix (pix (pv 0) (pv 3)) aj) (pix (pix (pv 1) (pv 4)) aj)) (ap (yR (i:=3) nd rfl (.inl rfl) aj yG)) (ap (yR (i:=4) nd rfl (.inl rfl) aj yG)))))))) (ap (aK (dR bw (by rfl) T.tuple fe (ad (pv 2) ag))))))),rfl⟩
abbrev kZ:=Ak CX0 1 "row_common" ["one", "other"] nY
theorem yM (F:Fun K "row_moved" "row_moved" m5 f fd) (T:Txt K mg):FnOk P w K mg base CX0 1 f fd ["row", "by"] (pL K):=F.okk (N:=["row", "by"]) (yV K).2 rfl rfl (by ac_rfl) fun nd _ _ _ _ _ _ hr=>⟨_,ap (aK (dR bw (by rfl) T.tuple fe (ad (bI (show CmpOk ["row", "by"] (aG m5) _ ["a", "b", "by"] [none,none,some 1] from eE) (bG (pv 0)) (fun _=>cz rfl (aC (pgc 0) (aC (pgc 1) bJ))) (d6 (aI aJ (aI aJ ci aA) aA)) (fun _=>bX) (fun _=>aD (ad (aO bi (pv 0) (pv 2)) (ad (aO bi (pv 1) (pv 2)) ag)))) ag))),rfl⟩
abbrev sR:=Ak CX0 1 "row_moved" ["row", "by"] pL
theorem EI (F:Fun K "row_of" "row_of" vD f fd) (T:Txt K mg):FnOk P w K mg base CX0 1 f fd ["pairs"] (xz K):=F.okk (N:=["pairs", "stretches", "a", "b"]) (El K).2 rfl rfl (by ac_rfl) fun nd _ _ _ _ _ _ hr=>⟨_,am (pst 1 nd (fD ag)) (am (mK Qk rfl (bG (bd iA (by rfl) T.sorted nG (ad (bI (show CmpOk ["pairs", "stretches", "a", "b"] (aG vD) _ ["a", "b"] [none,none] from eE) (bG (pv 0)) (fun _=>cz rfl (aC (pgc 0) (aC (pgc 1) bJ))) (d6 (aI aJ (aI aJ ci aA) aA)) (fun _=>qF (ptc AU (pv 0) (pv 1))) (fun _=>aD (ad (pv 0) (ad (pv 1) ag)))) ag))) (cz rfl (aC (pgn 2 nd) (aC (pgn 3 nd) bJ))) (ap (cG (PW.pt (sC (mE (pv 1) (fun _=>rfl)) (nJ (ptc AU (pv 2) (aO bi (pix (pix (pv 1) (eV cj aj)) aj) aj))))) (ap (y3 (aD (ad (pix (pix (pv 1) (eV cj aj)) aj) (ad (bd (rC rfl) (by rfl) T.max yz (ad (pix (pix (pv 1) (eV cj aj)) aj) (ad (pv 3) ag))) ag))) (y6 (pv 1) (eV cj aj) qQ))) (ap (fk (sP QR Rf Rg fK (pv 1) (ad (aD (ad (pv 2) (ad (pv 3) ag))) ag))))))) (ap (aK (dR bw (by rfl) T.tuple fe (ad (pv 1) ag))))),rfl⟩
abbrev qC:=Ak CX0 1 "row_of" ["pairs"] xz
theorem pk (F:Fun K "rows_with_cells" "rows_with_cells" fS f fd) (T:Txt K mg):FnOk P w K mg base CX0 1 f fd ["rows"] (jq K):=F.okk (N:=["rows"]) (oQ K).2 rfl rfl (by ac_rfl) fun nd _ _ _ _ _ _ hr=>⟨_,ap (aK (dR bw (by rfl) T.tuple fe (ad (bI (show CmpOk ["rows"] (aG fS) _ ["y", "row"] [none,none] from eE) (bG (pv 0)) (fun _=>cz rfl (aC (pgc 0) (aC (pgc 1) bJ))) (d6 (aI aJ (aI aJ ci aA) aA)) (fun _=>qF (ptc (g7 hr.units) (pv 1) (aD ag))) (fun _=>aD (ad (pv 0) (ad (pv 1) ag)))) ag))),rfl⟩
abbrev cL:=Ak CX0 1 "rows_with_cells" ["rows"] jq
theorem tw (F:Fun K "stretches_of" "stretches_of" je f fd) (T:Txt K mg):FnOk P w K mg base CX0 1 f fd ["picture"] (lM K):=F.okk (N:=["picture", "stretches", "y", "row"]) (tI K).2 rfl rfl (by ac_rfl) fun nd _ _ _ _ _ _ hr=>⟨_,am (pst 1 nd (fD ag)) (am (mK Qk rfl (bG (pv 0)) (cz rfl (aC (p9 (i:=2) nd rfl (.inr rfl)) (aC (pgn 3 nd) bJ))) (ap (fk (sP QR PySem.F.slot_list_extend PySem.F.type_list_extend C1 (pv 1) (ad (bI (show CmpOk ["picture", "stretches", "y", "row"] (aG je) _ ["a", "b", "y"] [none,none,some 2] from eE) (bG (pv 3)) (fun _=>cz rfl (aC (pgc 0) (aC (pgc 1) bJ))) (d6 (aI aJ (aI aJ ci aA) aA)) (fun _=>bX) (fun _=>aD (ad (pv 2) (ad (pv 0) (ad (pv 1) ag))))) ag))))) (ap (aK (pv 1)))),rfl⟩
abbrev f7:=Ak CX0 1 "stretches_of" ["picture"] lM
theorem tV (F:Fun K "__init__" "Box.__init__" jE f fd) (T:Txt K mg) (AB_Form:p0 P w K mg base c_Form f_Form___init__ dh):FnOk P w K mg base CX0 2 f fd ["self", "left", "up", "right", "down"] (lL K):=by
 refine F.ok tL (fun vs H Q E h=>h.1) (fun cdv A outer s H vs Q E hr h=>?_)
 exact ⟨_,am (cG (pM md (bd (DN rfl) (by rfl) T.min uA (ad (pv 1) (ad (pv 2) (ad (pv 3) (ad (pv 4) ag))))) aj (mT _)) rR br) (ap (fk (kU AB_Form.cf (by rfl) AB_Form.g AB_Form.G (hr.mono (by decide)) AB_Form.b fM (ad (pv 0) (ad (aD (ad (aD (ad (aD (ad (eV cj (pv 1)) (ad (eV cj (pv 2)) (ad (pv 3) (ad (pv 4) ag))))) ag)) ag)) ag))))),uD (vN (SE.p (Br JX ((LQ KJ (pN (ie 1) (pN (ie 2) (pN (ie 3) (pN (ie 4) G1))))).p) ((s_c rfl).p)))) (mF (bu (mF (bu (mF (bu (Ec xc (ie 1)) (bu (Ec xc (ie 2)) (bu (lA 3) (bu (lA 4) fF))))) fF)) fF)) rfl h⟩
abbrev G2:=Ac CX0 2 "Box" ["self", "left", "up", "right", "down"] lL
theorem pZ (F:Fun K "__init__" "Cross.__init__" gN f fd) (T:Txt K mg) (AB_Form:p0 P w K mg base c_Form f_Form___init__ dh):FnOk P w K mg base CX0 2 f fd ["self", "arm"] (jX K):=by
 refine F.ok qG (fun vs H Q E h=>h.1) (fun cdv A outer s H vs Q E hr h=>?_)
 exact ⟨_,am (cG (pM md (pv 1) aj (mT _)) rR br) (ap (fk (kU AB_Form.cf (by rfl) AB_Form.g AB_Form.G (hr.mono (by decide)) AB_Form.b fM (ad (pv 0) (ad (aD (ad (aD (ad (aD (ad (eV cj (pv 1)) (ad aj (ad (pv 1) (ad aj ag))))) (ad (aD (ad aj (ad (eV cj (pv 1)) (ad aj (ad (pv 1) ag))))) ag))) ag)) ag))))),uD (vN (SE.p (Br JX (ie 1) ((s_c rfl).p)))) (mF (bu (mF (bu (mF (bu (Ec xc (ie 1)) (bu (s_c rfl) (bu (lA 1) (bu (s_c rfl) fF))))) (bu (mF (bu (s_c rfl) (bu (Ec xc (ie 1)) (bu (s_c rfl) (bu (lA 1) fF))))) fF))) fF)) rfl h⟩
abbrev CP:=Ac CX0 2 "Cross" ["self", "arm"] jX
theorem tZ (F:Fun K "__init__" "Sum.__init__" jp f fd) (T:Txt K mg) (cX:mt P w K mg base mY lW) (AB_Form:p0 P w K mg base c_Form f_Form___init__ dh):FnOk P w K mg base CX0 2 f fd ["self", "one", "other"] (lK K):=by
 refine F.ok tY (fun vs H Q E h=>h.1) (fun cdv A outer s H vs Q E hr h=>?_)
 exact ⟨_,ap (fk (kU AB_Form.cf (by rfl) AB_Form.g AB_Form.G (hr.mono (by decide)) AB_Form.b fM (ad (pv 0) (ad (qw cX.G (hr.mono (by decide)) (by rfl) cX.m cX.k cX.b .nil fM (ad (aO bi (ud T.cN (pv 1) rfl) (ud T.cN (pv 2) rfl)) ag)) ag)))),DQ (u3 (E:=E0) (bu (Br IT ((FO (lA 1)).p) ((FO (lA 2)).p)) fF) (jH (fun _ _ h=>qz h))) rfl h⟩
abbrev IY:=Ac CX0 2 "Sum" ["self", "one", "other"] lK
theorem sD (F:Fun K "begun_between" "begun_between" lY f fd) (T:Txt K mg) (aW:ka P w K mg base j9 jj):FnOk P w K mg base CX0 2 f fd ["pairs", "first", "last"] (kB K):=F.okk (N:=["pairs", "first", "last"]) (qZ K).2 rfl rfl (by ac_rfl) fun nd _ _ _ _ _ _ hr=>⟨_,ap (aK (vH Kf (pv 0) (ue (bd (rC rfl) (by rfl) T.max yz (ad aj (ad (aO dY (pcl aW.G hr aW.m aW.k aW.b (ad (pv 0) (ad (pv 1) ag))) aj) ag)))) (ue (pcl aW.G hr aW.m aW.k aW.b (ad (pv 0) (ad (pv 2) ag)))))),rfl⟩
abbrev lI:=Ak CX0 2 "begun_between" ["pairs", "first", "last"] kB
theorem yn (F:Fun K "blocks_of" "blocks_of" nw f fd) (T:Txt K mg) (az:f7 P w K mg base fZ fj):FnOk P w K mg base CX0 2 f fd ["picture"] (qp K):=F.okk (N:=["picture", "blocks", "a", "b", "y"]) (yZ K).2 rfl rfl (by ac_rfl) fun nd _ _ _ _ _ _ hr=>⟨_,am (pst 1 nd (fD ag)) (am (mK Qk rfl (bG (bd iA (by rfl) T.sorted nG (ad (bI (show CmpOk ["picture", "blocks", "a", "b", "y"] (aG nw) _ ["y", "a", "b"] [none,none,none] from eE) (bG (pcl az.G hr az.m az.k az.b (ad (pv 0) ag))) (fun _=>cz rfl (aC (pgc 0) (aC (pgc 1) (aC (pgc 2) bJ)))) (d6 (aI aJ (aI aJ (aI aJ ci aA) aA) aA)) (fun _=>bX) (fun _=>aD (ad (pv 1) (ad (pv 2) (ad (pv 0) ag))))) ag))) (cz rfl (aC (pgn 2 nd) (aC (pgn 3 nd) (aC (pgn 4 nd) bJ)))) (ap (cG (PW.pt (sC (mE (pv 1) (fun _=>rfl)) (nJ (ptc (eD hr.units) (pix (pv 1) (eV cj aj)) (aD (ad (pv 2) (ad (pix (pix (pv 1) (eV cj aj)) aj) (ad (pv 3) (ad (aO dY (pv 4) aj) ag))))))))) (ap (y3 (aD (ad (pv 2) (ad (pix (pix (pv 1) (eV cj aj)) aj) (ad (pv 3) (ad (pv 4) ag))))) (y6 (pv 1) (eV cj aj) qQ))) (ap (fk (sP QR Rf Rg fK (pv 1) (ad (aD (ad (pv 2) (ad (pv 4) (ad (pv 3) (ad (pv 4) ag))))) ag))))))) (ap (aK (dR bw (by rfl) T.tuple fe (ad (pv 1) ag))))),rfl⟩
abbrev sJ:=Ak CX0 2 "blocks_of" ["picture"] qp
theorem F6 (F:Fun K "moved" "moved" zi f fd) (T:Txt K mg) (fQ:sR P w K mg base sS pB):FnOk P w K mg base CX0 2 f fd ["picture", "dx", "dy"] (zF K):=F.okk (N:=["picture", "dx", "dy"]) (Gs K).2 rfl rfl (by ac_rfl) fun nd _ _ _ _ _ _ hr=>⟨_,ap (aK (dR bw (by rfl) T.tuple fe (ad (bI (show CmpOk ["picture", "dx", "dy"] (aG zi) _ ["y", "row", "dy", "dx"] [none,none,some 2,some 1] from eE) (bG (pv 0)) (fun _=>cz rfl (aC (pgc 0) (aC (pgc 1) bJ))) (d6 (aI aJ (aI aJ ci aA) aA)) (fun _=>bX) (fun _=>aD (ad (aO bi (pv 0) (pv 2)) (ad (pcl fQ.G hr fQ.m fQ.k fQ.b (ad (pv 1) (ad (pv 3) ag))) ag)))) ag))),rfl⟩
abbrev yr:=Ak CX0 2 "moved" ["picture", "dx", "dy"] zF
theorem wo (F:Fun K "picture_of" "picture_of" iI f fd) (T:Txt K mg) (bL:qC P w K mg base qA nD):FnOk P w K mg base CX0 2 f fd ["stretches"] (oq K):=F.okk (N:=["stretches", "pairs_by_row", "y", "a", "b"]) (wq K).2 rfl rfl (by ac_rfl) fun nd _ _ _ _ _ _ hr=>⟨_,am (pst 1 nd (fD ag)) (am (mK Qk rfl (bG (bd iA (by rfl) T.sorted nG (ad (bI (show CmpOk ["stretches", "pairs_by_row", "y", "a", "b"] (aG iI) _ ["y", "a", "b"] [none,none,none] from eE) (bG (pv 0)) (fun _=>cz rfl (aC (pgc 0) (aC (pgc 1) (aC (pgc 2) bJ)))) (d6 (aI aJ (aI aJ (aI aJ ci aA) aA) aA)) (fun _=>qF (ptc AU (pv 1) (pv 2))) (fun _=>aD (ad (pv 0) (ad (pv 1) (ad (pv 2) ag))))) ag))) (cz rfl (aC (pgn 2 nd) (aC (pgn 3 nd) (aC (pgn 4 nd) bJ)))) (am (cG (PW.pt (Dk (JZ (mE (pv 1) (fun _=>rfl))) (y9 (ptc (g7 hr.units) (pix (pix (pv 1) (eV cj aj)) aj) (pv 2))))) (ap (fk (sP QR Rf Rg fK (pv 1) (ad (aD (ad (pv 2) (ad (fD ag) ag))) ag)))) br) (ap (fk (sP QR Rf Rg fK (pix (pix (pv 1) (eV cj aj)) aj) (ad (aD (ad (pv 3) (ad (pv 4) ag))) ag)))))) (ap (aK (dR bw (by rfl) T.tuple fe (ad (bI (show CmpOk ["stretches", "pairs_by_row", "y", "a", "b"] (aG iI) _ ["y", "pairs"] [none,none] from eE) (bG (pv 1)) (fun _=>cz rfl (aC (pgc 0) (aC (pgc 1) bJ))) (d6 (aI aJ (aI aJ ci aA) aA)) (fun _=>bX) (fun _=>aD (ad (pv 0) (ad (pcl bL.G hr bL.m bL.k bL.b (ad (pv 1) ag)) ag)))) ag))))),rfl⟩
abbrev iy:=Ak CX0 2 "picture_of" ["stretches"] oq
theorem DH (F:Fun K "row_at" "row_at" zX f fd) (T:Txt K mg) (aW:ka P w K mg base j9 jj):FnOk P w K mg base CX0 2 f fd ["picture", "y"] (xZ K):=F.okk (N:=["picture", "y", "begun"]) (DU K).2 rfl rfl (by ac_rfl) fun nd _ _ _ _ _ _ hr=>⟨_,am (pst 2 nd (pcl aW.G hr aW.m aW.k aW.b (ad (pv 0) (ad (pv 1) ag)))) (am (cG (PW.pt (sC (ptc Js (pv 2) aj) (nJ (ptc (eD hr.units) (pix (pix (pv 0) (aO dY (pv 2) aj)) aj) (pv 1))))) (ap (aK (pix (pix (pv 0) (aO dY (pv 2) aj)) aj))) br) (ap (aK (aD ag)))),rfl⟩
abbrev uB:=Ak CX0 2 "row_at" ["picture", "y"] xZ
theorem wI (F:Fun K "row_either" "row_either" gd f fd) (T:Txt K mg) (bL:qC P w K mg base qA nD):FnOk P w K mg base CX0 2 f fd ["one", "other"] (oE K):=F.okk (N:=["one", "other", "stretches", "changes"]) (wB K).2 rfl rfl (by ac_rfl) fun nd _ _ _ _ _ _ hr=>⟨_,am (pst 2 nd (aO bi (pv 0) (pv 1))) (am (mO (i:=3) nd rfl (.inr rfl) (bd iA (by rfl) T.sorted nG (ad (aO bi (bI (show CmpOk ["one", "other", "stretches", "changes"] (aG gd) _ ["a", "b"] [none,none] from eE) (bG (pv 2)) (fun _=>cz rfl (aC (pgc 0) (aC (pgc 1) bJ))) (d6 (aI aJ (aI aJ ci aA) aA)) (fun _=>bX) (fun _=>pv 0)) (bI (show CmpOk ["one", "other", "stretches", "changes"] (aG gd) _ ["a", "b"] [none,none] from eE) (bG (pv 2)) (fun _=>cz rfl (aC (pgc 0) (aC (pgc 1) bJ))) (d6 (aI aJ (aI aJ ci aA) aA)) (fun _=>bX) (fun _=>aO bi (pv 1) aj))) ag))) (ap (aK (pcl bL.G hr bL.m bL.k bL.b (ad (bI (show CmpOk ["one", "other", "stretches", "changes"] (aG gd) _ ["k", "changes"] [none,some 3] from eE) (Ei (by rfl) T.range (ad aj (ad (bd eS (by rfl) T.len kQ (ad (pv 3) ag)) (ad aj ag)))) (fun _=>pgc 0) aJ (fun _=>bX) (fun _=>aD (ad (pix (pv 1) (pv 0)) (ad (aO dY (pix (pv 1) (aO bi (pv 0) aj)) aj) ag)))) ag))))),rfl⟩
abbrev p6:=Ak CX0 2 "row_either" ["one", "other"] oE
theorem wK (F:Fun K "row_shrunk" "row_shrunk" ll f fd) (T:Txt K mg) (bL:qC P w K mg base qA nD):FnOk P w K mg base CX0 2 f fd ["row", "low", "high"] (oB K):=F.okk (N:=["row", "low", "high"]) (wz K).2 rfl rfl (by ac_rfl) fun nd _ _ _ _ _ _ hr=>⟨_,ap (aK (pcl bL.G hr bL.m bL.k bL.b (ad (bI (show CmpOk ["row", "low", "high"] (aG ll) _ ["a", "b", "low", "high"] [none,none,some 1,some 2] from eE) (bG (pv 0)) (fun _=>cz rfl (aC (pgc 0) (aC (pgc 1) bJ))) (d6 (aI aJ (aI aJ ci aA) aA)) (fun _=>bX) (fun _=>aD (ad (aO dY (pv 0) (pv 2)) (ad (aO dY (pv 1) (pv 3)) ag)))) ag))),rfl⟩
abbrev qD:=Ak CX0 2 "row_shrunk" ["row", "low", "high"] oB
theorem qK (F:Fun K "__init__" "Shape.__init__" gK f fd) (T:Txt K mg) (fL:sJ P w K mg base sV pO) (AB_Form:p0 P w K mg base c_Form f_Form___init__ dh):FnOk P w K mg base CX0 3 f fd ["self", "picture"] (jM K):=by
 refine F.ok qH (fun vs H Q E h=>h.1) (fun cdv A outer s H vs Q E hr h=>?_)
 exact ⟨_,am (cG (pM (eD hr.units) (pv 1) (aD ag) (mT _)) rR br) (ap (fk (kU AB_Form.cf (by rfl) AB_Form.g AB_Form.G (hr.mono (by decide)) AB_Form.b fM (ad (pv 0) (ad (aD (ad (qw fL.G (hr.mono (by decide)) (by rfl) fL.m fL.k fL.b .nil fM (ad (pv 1) ag)) ag)) ag))))),uD (vN (SE.p (Br (JO false) (ie 1) ((mF fF).p)))) (mF (bu (u3 (E:=E0) (bu (lA 1) fF) (jH (fun _ _ h=>qz h))) fF)) rfl h⟩
abbrev zb:=Ac CX0 3 "Shape" ["self", "picture"] jM
theorem EK (F:Fun K "common" "common" uq f fd) (T:Txt K mg) (aw:cL P w K mg base cK cc) (bv:kZ P w K mg base kS kj) (dJ:uB P w K mg base vY sr):FnOk P w K mg base CX0 3 f fd ["one", "other"] (xM K):=F.okk (N:=["one", "other"]) (DD K).2 rfl rfl (by ac_rfl) fun nd _ _ _ _ _ _ hr=>⟨_,ap (aK (pcl aw.G hr aw.m aw.k aw.b (ad (bI (show CmpOk ["one", "other"] (aG uq) _ ["y", "row", "other"] [none,none,some 1] from eE) (bG (pv 0)) (fun _=>cz rfl (aC (pgc 0) (aC (pgc 1) bJ))) (d6 (aI aJ (aI aJ ci aA) aA)) (fun _=>bX) (fun _=>aD (ad (pv 0) (ad (pcl bv.G hr bv.m bv.k bv.b (ad (pv 1) (ad (pcl dJ.G hr dJ.m dJ.k dJ.b (ad (pv 2) (ad (pv 0) ag))) ag))) ag)))) ag))),rfl⟩
abbrev wc:=Ak CX0 3 "common" ["one", "other"] xM
theorem HH (F:Fun K "join" "join" Gp f fd) (T:Txt K mg) (aU:iy P w K mg base iz gP) (az:f7 P w K mg base fZ fj):FnOk P w K mg base CX0 3 f fd ["one", "other"] (Dw K):=F.okk (N:=["one", "other"]) (Im K).2 rfl rfl (by ac_rfl) fun nd _ _ _ _ _ _ hr=>⟨_,ap (aK (pcl aU.G hr aU.m aU.k aU.b (ad (aO bi (pcl az.G hr az.m az.k az.b (ad (pv 0) ag)) (pcl az.G hr az.m az.k az.b (ad (pv 1) ag))) ag))),rfl⟩
abbrev FF:=Ak CX0 3 "join" ["one", "other"] Dw
theorem Ca (F:Fun K "reached" "reached" rJ f fd) (T:Txt K mg) (bo:lI P w K mg base lG kn) (aw:cL P w K mg base cK cc):FnOk P w K mg base CX0 3 f fd ["picture", "box", "block"] (u4 K):=F.okk (N:=["picture", "box", "block", "rows"]) (Cf K).2 rfl rfl (by ac_rfl) fun nd _ _ _ _ _ _ hr=>⟨_,am (pst 3 nd (pcl bo.G hr bo.m bo.k bo.b (ad (pv 0) (ad (aO bi (pix (pv 1) aj) (pix (pv 2) aj)) (ad (aO bi (pix (pv 1) aj) (pix (pv 2) aj)) ag))))) (ap (aK (pcl aw.G hr aw.m aw.k aw.b (ad (bI (show CmpOk ["picture", "box", "block", "rows"] (aG rJ) _ ["y", "row", "box", "block"] [none,none,some 1,some 2] from eE) (bG (pv 3)) (fun _=>cz rfl (aC (pgc 0) (aC (pgc 1) bJ))) (d6 (aI aJ (aI aJ ci aA) aA)) (fun _=>bX) (fun _=>aD (ad (pv 0) (ad (pcl bo.G hr bo.m bo.k bo.b (ad (pv 1) (ad (aO bi (pix (pv 2) aj) (pix (pv 3) aj)) (ad (aO bi (pix (pv 2) aj) (pix (pv 3) aj)) ag)))) ag)))) ag)))),rfl⟩
abbrev xk:=Ak CX0 3 "reached" ["picture", "box", "block"] u4
theorem Av (F:Fun K "row_less" "row_less" uL f fd) (T:Txt K mg) (eR:p6 P w K mg base qW ox) (bv:kZ P w K mg base kS kj):FnOk P w K mg base CX0 3 f fd ["one", "other"] (sU K):=F.okk (N:=["one", "other"]) (Ax K).2 rfl rfl (by ac_rfl) fun nd _ _ _ _ _ _ hr=>⟨_,ap (aK (pcl eR.G hr eR.m eR.k eR.b (ad (pv 0) (ad (pcl bv.G hr bv.m bv.k bv.b (ad (pv 0) (ad (pv 1) ag))) ag)))),rfl⟩
abbrev vJ:=Ak CX0 3 "row_less" ["one", "other"] sU
theorem HS (F:Fun K "less" "less" B6 f fd) (T:Txt K mg) (aw:cL P w K mg base cK cc) (gz:vJ P w K mg base uy sX) (dJ:uB P w K mg base vY sr):FnOk P w K mg base CX0 4 f fd ["one", "other"] (CL K):=F.okk (N:=["one", "other"]) (IL K).2 rfl rfl (by ac_rfl) fun nd _ _ _ _ _ _ hr=>⟨_,ap (aK (pcl aw.G hr aw.m aw.k aw.b (ad (bI (show CmpOk ["one", "other"] (aG B6) _ ["y", "row", "other"] [none,none,some 1] from eE) (bG (pv 0)) (fun _=>cz rfl (aC (pgc 0) (aC (pgc 1) bJ))) (d6 (aI aJ (aI aJ ci aA) aA)) (fun _=>bX) (fun _=>aD (ad (pv 0) (ad (pcl gz.G hr gz.m gz.k gz.b (ad (pv 1) (ad (pcl dJ.G hr dJ.m dJ.k dJ.b (ad (pv 2) (ad (pv 0) ag))) ag))) ag)))) ag))),rfl⟩
abbrev Fa:=Ak CX0 4 "less" ["one", "other"] CL
theorem v8 (F:Fun K "shrunk_down" "shrunk_down" nV f fd) (T:Txt K mg) (dH:wc P w K mg base uv sv) (fh:yr P w K mg base yN wj):FnOk P w K mg base CX0 4 f fd ["picture", "by"] (nt K):=F.okk (N:=["picture", "by", "done", "step"]) (vI K).2 rfl rfl (by ac_rfl) fun nd _ _ _ _ _ _ hr=>⟨_,am (pst 2 nd aj) (am (mU Qk (ptc md (pv 2) (pv 1)) (am (pst 3 nd (bd (rg rfl) (by rfl) T.min uA (ad (aO bi (pv 2) aj) (ad (aO dY (pv 1) (pv 2)) ag)))) (am (pst 0 nd (pcl dH.G hr dH.m dH.k dH.b (ad (pv 0) (ad (pcl fh.G hr fh.m fh.k fh.b (ad (pv 0) (ad aj (ad (eV cj (pv 3)) ag)))) ag)))) (ap (yR (i:=2) nd rfl (.inl rfl) (pv 3) yG))))) (ap (aK (pv 0)))),rfl⟩
abbrev nW:=Ak CX0 4 "shrunk_down" ["picture", "by"] nt
theorem vW (F:Fun K "spread_down" "spread_down" oh f fd) (T:Txt K mg) (sE:FF P w K mg base Gf C8) (fh:yr P w K mg base yN wj):FnOk P w K mg base CX0 4 f fd ["picture", "by"] (mj K):=F.okk (N:=["picture", "by", "done", "step"]) (vT K).2 rfl rfl (by ac_rfl) fun nd _ _ _ _ _ _ hr=>⟨_,am (pst 2 nd aj) (am (mU Qk (ptc md (pv 2) (pv 1)) (am (pst 3 nd (bd (rg rfl) (by rfl) T.min uA (ad (aO bi (pv 2) aj) (ad (aO dY (pv 1) (pv 2)) ag)))) (am (pst 0 nd (pcl sE.G hr sE.m sE.k sE.b (ad (pv 0) (ad (pcl fh.G hr fh.m fh.k fh.b (ad (pv 0) (ad aj (ad (pv 3) ag)))) ag)))) (ap (yR (i:=2) nd rfl (.inl rfl) (pv 3) yG))))) (ap (aK (pv 0)))),rfl⟩
abbrev nX:=Ak CX0 4 "spread_down" ["picture", "by"] mj
theorem GP (F:Fun K "_law_form" "_law_form" Dt f fd) (T:Txt K mg) (A_Box:G2 P w K mg base c_Box eJ g9) (A_Shape:zb P w K mg base c_Shape cY fY):FnOk P w K mg base CX0 5 f fd ["_law_way"] (zD K):=F.okk (N:=["_law_way"]) (Gk K).2 rfl rfl (by ac_rfl) fun nd _ _ _ _ _ _ hr=>⟨_,am (cG (ptc (eD hr.units) (pv 0) aj) (ap (aK (gX A_Box.n A_Box.M A_Box.G (hr.mono (by decide)) (by rfl) A_Box.g A_Box.b fM (ad aj (ad aj (ad aj (ad aj ag))))))) br) (am (cG (ptc (eD hr.units) (pv 0) aj) (ap (aK (gX A_Shape.n A_Shape.M A_Shape.G (hr.mono (by decide)) (by rfl) A_Shape.g A_Shape.b fM (ad (aD (ad (aD (ad aj (ad (aD (ad (aD (ad aj (ad aj ag))) ag)) ag))) ag)) ag)))) br) (ap (aK (gX A_Shape.n A_Shape.M A_Shape.G (hr.mono (by decide)) (by rfl) A_Shape.g A_Shape.b fM (ad (aD (ad (aD (ad aj (ad (aD (ad (aD (ad aj (ad aj ag))) ag)) ag))) (ad (aD (ad aj (ad (aD (ad (aD (ad aj (ad aj ag))) ag)) ag))) ag))) ag))))),rfl⟩
abbrev CK:=Ak CX0 5 "_law_form" ["_law_way"] zD
theorem yJ (F:Fun K "_law_one_cell" "_law_one_cell" sQ f fd) (T:Txt K mg) (bA:r8 P w K mg base rL o8) (A_Shape:zb P w K mg base c_Shape cY fY) (A_Box:G2 P w K mg base c_Box eJ g9) (A_Cross:CP P w K mg base c_Cross eM jP) (A_Sum:IY P w K mg base c_Sum gm lH):FnOk P w K mg base CX0 5 f fd ["_law_cell"] (p8 K):=F.okk (N:=["_law_cell", "_law_far", "_law_spot"]) (zd K).2 rfl rfl (by ac_rfl) fun nd _ _ _ _ _ _ hr=>⟨_,am (pst 1 nd (pcl bA.G hr bA.m bA.k bA.b (ad (pv 0) (ad (aO yf aj aj) ag)))) (am (pst 2 nd (gX A_Shape.n A_Shape.M A_Shape.G (hr.mono (by decide)) (by rfl) A_Shape.g A_Shape.b fM (ad (aD (ad (aD (ad (pv 1) (ad (aD (ad (aD (ad (aO dY aj (pv 1)) (ad (aO dY aj (pv 1)) ag))) ag)) ag))) ag)) ag))) (am (cG (ptc (eD hr.units) (aO gj (pv 0) aj) aj) (ap (aK (gX A_Box.n A_Box.M A_Box.G (hr.mono (by decide)) (by rfl) A_Box.g A_Box.b fM (ad aj (ad aj (ad aj (ad aj ag))))))) br) (am (cG (ptc (eD hr.units) (aO gj (pv 0) aj) aj) (ap (aK (gX A_Cross.n A_Cross.M A_Cross.G (hr.mono (by decide)) (by rfl) A_Cross.g A_Cross.b fM (ad aj ag)))) br) (am (cG (ptc (eD hr.units) (aO gj (pv 0) aj) aj) (ap (aK (pv 2))) br) (ap (aK (gX A_Sum.n A_Sum.M A_Sum.G (hr.mono (by decide)) (by rfl) A_Sum.g A_Sum.b fM (ad (pv 2) (ad (gX A_Cross.n A_Cross.M A_Cross.G (hr.mono (by decide)) (by rfl) A_Cross.g A_Cross.b fM (ad aj ag)) ag))))))))),rfl⟩
abbrev td:=Ak CX0 5 "_law_one_cell" ["_law_cell"] p8
theorem nT (F:Fun K "greater_by_block" "greater_by_block" fH f fd) (T:Txt K mg) (az:f7 P w K mg base fZ fj) (dS:nX P w K mg base oo nc) (aU:iy P w K mg base iz gP):FnOk P w K mg base CX0 5 f fd ["picture", "block"] (ij K):=F.okk (N:=["picture", "block", "wide"]) (nU K).2 rfl rfl (by ac_rfl) fun nd _ _ _ _ _ _ hr=>⟨_,am (IA (i:=2) (hN:=nd) (hi0:=rfl) (hx:=Or.inl rfl) (ck:=(show CmpOk ["picture", "block", "wide"] (aG fH) _ ["y", "a", "b", "block"] [none,none,none,some 1] from eE)) (hi:=bG (pcl az.G hr az.m az.k az.b (ad (pv 0) ag))) (hg:=fun _=>cz rfl (aC (pgc 0) (aC (pgc 1) (aC (pgc 2) bJ)))) (hs:=d6 (aI aJ (aI aJ (aI aJ ci aA) aA) aA)) (ht:=fun _=>bX) (he:=fun _=>aD (ad (aO bi (pv 0) (pix (pv 3) aj)) (ad (aO bi (pv 1) (pix (pv 3) aj)) (ad (aO bi (pv 2) (pix (pv 3) aj)) ag))))) (am (cG (ptc (eD hr.units) (pix (pv 1) aj) (pix (pv 1) aj)) (ap (aK (pv 2))) br) (ap (aK (pcl az.G hr az.m az.k az.b (ad (pcl dS.G hr dS.m dS.k dS.b (ad (pcl aU.G hr aU.m aU.k aU.b (ad (pv 2) ag)) (ad (aO dY (pix (pv 1) aj) (pix (pv 1) aj)) ag))) ag))))),rfl⟩
abbrev jt:=Ak CX0 5 "greater_by_block" ["picture", "block"] ij
theorem nR (F:Fun K "smaller_by_block" "smaller_by_block" fI f fd) (T:Txt K mg) (aw:cL P w K mg base cK cc) (eN:qD P w K mg base pD n6) (dU:nW P w K mg base oi m7):FnOk P w K mg base CX0 5 f fd ["picture", "block"] (il K):=F.okk (N:=["picture", "block", "narrow"]) (nQ K).2 rfl rfl (by ac_rfl) fun nd _ _ _ _ _ _ hr=>⟨_,am (pst 2 nd (pcl aw.G hr aw.m aw.k aw.b (ad (bI (show CmpOk ["picture", "block", "narrow"] (aG fI) _ ["y", "row", "block"] [none,none,some 1] from eE) (bG (pv 0)) (fun _=>cz rfl (aC (pgc 0) (aC (pgc 1) bJ))) (d6 (aI aJ (aI aJ ci aA) aA)) (fun _=>bX) (fun _=>aD (ad (aO dY (pv 0) (pix (pv 2) aj)) (ad (pcl eN.G hr eN.m eN.k eN.b (ad (pv 1) (ad (pix (pv 2) aj) (ad (pix (pv 2) aj) ag)))) ag)))) ag))) (ap (aK (pcl dU.G hr dU.m dU.k dU.b (ad (pv 2) (ad (aO dY (pix (pv 1) aj) (pix (pv 1) aj)) ag))))),rfl⟩
abbrev jm:=Ak CX0 5 "smaller_by_block" ["picture", "block"] il
theorem o5 (F:Fun K "greater_by_part" "greater_by_part" jW f fd) (T:Txt K mg) (bN:jt P w K mg base i4 im) (aU:iy P w K mg base iz gP):FnOk P w K mg base CX0 6 f fd ["picture", "blocks"] (jG K):=F.okk (N:=["picture", "blocks", "stretches", "block"]) (oO K).2 rfl rfl (by ac_rfl) fun nd _ _ _ _ _ _ hr=>⟨_,am (pst 2 nd (fD ag)) (am (mK Qk rfl (bG (pv 1)) (pgn 3 nd) (ap (fk (sP QR PySem.F.slot_list_extend PySem.F.type_list_extend C1 (pv 2) (ad (pcl bN.G hr bN.m bN.k bN.b (ad (pv 0) (ad (pv 3) ag))) ag))))) (ap (aK (pcl aU.G hr aU.m aU.k aU.b (ad (pv 2) ag))))),rfl⟩
abbrev jV:=Ak CX0 6 "greater_by_part" ["picture", "blocks"] jG
theorem oM (F:Fun K "smaller_by_part" "smaller_by_part" jY f fd) (T:Txt K mg) (a6:jm P w K mg base jv ip) (dH:wc P w K mg base uv sv) (iW:xk P w K mg base wX vZ) (kx:zU P w K mg base A0 ya):FnOk P w K mg base CX0 6 f fd ["picture", "blocks"] (jc K):=F.okk (N:=["picture", "blocks", "kept", "block"]) (o9 K).2 rfl rfl (by ac_rfl) fun nd _ _ _ _ _ _ hr=>⟨_,am (pst 2 nd (pcl a6.G hr a6.m a6.k a6.b (ad (pv 0) (ad (pix (pv 1) (eV cj aj)) ag)))) (am (mK Qk rfl (bG (vH Kf (pv 1) (CN) (ue (eV cj aj)))) (pgn 3 nd) (am (cG (ptc (eD hr.units) (pv 2) (aD ag)) (ap (aK (aD ag))) br) (ap (pst 2 nd (pcl dH.G hr dH.m dH.k dH.b (ad (pv 2) (ad (pcl a6.G hr a6.m a6.k a6.b (ad (pcl iW.G hr iW.m iW.k iW.b (ad (pv 0) (ad (pcl kx.G hr kx.m kx.k kx.b (ad (pv 2) ag)) (ad (pv 3) ag)))) (ad (pv 3) ag))) ag))))))) (ap (aK (pv 2)))),rfl⟩
abbrev jS:=Ak CX0 6 "smaller_by_part" ["picture", "blocks"] jc
theorem tT (F:Fun K "greater" "Form.greater" mX f fd) (T:Txt K mg) (bS:jV P w K mg base jQ iY):FnOk P w K mg base CX0 7 f fd ["self", "picture"] (lR K):=F.okk (N:=["self", "picture", "blocks"]) (tP K).2 rfl rfl (by ac_rfl) fun nd _ _ _ _ _ _ hr=>⟨_,am (mK Qk rfl (KD (by rfl) T.reversed (ad (ud T.cN (pv 0) rfl) ag)) (pgn 2 nd) (ap (pst 1 nd (pcl bS.G hr bS.m bS.k bS.b (ad (pv 1) (ad (pv 2) ag)))))) (ap (aK (pv 1))),rfl⟩
abbrev nl:=Am 7 "greater" NS ["self", "picture"] lR
theorem tz (F:Fun K "smaller" "Form.smaller" mZ f fd) (T:Txt K mg) (bR:jS P w K mg base jL jl):FnOk P w K mg base CX0 7 f fd ["self", "picture"] (lD K):=F.okk (N:=["self", "picture", "blocks"]) (tX K).2 rfl rfl (by ac_rfl) fun nd _ _ _ _ _ _ hr=>⟨_,am (mK Qk rfl (bG (ud T.cN (pv 0) rfl)) (pgn 2 nd) (ap (pst 1 nd (pcl bR.G hr bR.m bR.k bR.b (ad (pv 1) (ad (pv 2) ag)))))) (ap (aK (pv 1))),rfl⟩
abbrev ja:=Am 7 "smaller" NS ["self", "picture"] lD
theorem tO (F:Fun K "has_one_cell" "has_one_cell" m9 f fd) (T:Txt K mg) (bq:ja P w K mg base f_Form_smaller g8):FnOk P w K mg base CX0 8 f fd ["form"] (lJ K):=F.okk (N:=["form"]) (tS K).2 rfl rfl (by ac_rfl) fun nd _ _ _ _ _ _ hr=>⟨_,ap (aK (yu (g7 hr.units) (vP bq.cm bq.G (hr.mono (by decide)) bq.b fM (pv 0) (ad (Fx (by rfl) T.ONE_CELL.choose_spec.choose_spec.1 T.ONE_CELL.choose_spec.choose_spec.2.1 T.ONE_CELL.choose_spec.choose_spec.2.2) ag)) (aD ag) (mT _))),rfl⟩
abbrev i8:=Ak CX0 8 "has_one_cell" ["form"] lJ
theorem v7 (F:Fun K "taken_apart" "taken_apart" nZ f fd) (T:Txt K mg) (rc:Fa P w K mg base Gu DA) (bq:ja P w K mg base f_Form_smaller g8) (eG:nl P w K mg base f_Form_greater lX):FnOk P w K mg base CX0 8 f fd ["picture", "form", "most"] (mP K):=F.okk (N:=["picture", "form", "most", "layers", "left", "smaller"]) (uJ K).2 rfl rfl (by ac_rfl) fun nd _ _ _ _ _ _ hr=>⟨_,am (pst 3 nd (fD ag)) (am (pst 4 nd (pv 0)) (am (mU Qk (PW.pt (sC (ptc (g7 hr.units) (pv 4) (aD ag)) (nJ (ptc md (bd eS (by rfl) T.len kQ (ad (pv 3) ag)) (pv 2))))) (am (pst 5 nd (vP bq.cm bq.G (hr.mono (by decide)) bq.b fM (pv 1) (ad (pv 4) ag))) (am (fk (sP QR Rf Rg fK (pv 3) (ad (pcl rc.G hr rc.m rc.k rc.b (ad (pv 4) (ad (vP eG.cm eG.G (hr.mono (by decide)) eG.b fM (pv 1) (ad (pv 5) ag)) ag))) ag))) (ap (pst 4 nd (pv 5)))))) (ap (aK (aO bi (pv 3) (fD (ad (pv 4) ag))))))),rfl⟩
abbrev ki:=Ak CX0 8 "taken_apart" ["picture", "form", "most"] mP
theorem EJ (F:Fun K "cores" "cores" t6 f fd) (T:Txt K mg) (ba:i8 P w K mg base jy ii) (bn:ki P w K mg base kh jz):FnOk P w K mg base (CXe P w) 9 f fd ["picture", "form", "most"] (re K):=by
 refine F.okX Be (fun vs H Q E h=>h.1) (fun cdv A outer s H vs Q E hr h=>?_)
 have nd:=(Be).nd
 exact ⟨_,am (cG (mE (qw ba.G (hr.mono (by decide)) (by rfl) ba.m ba.k ba.b .nil fM (ad (pv 1) ag)) (fun _=>rfl)) (ap (A5 CQ T.xr_NoForm hr.hd (by rfl) (Gn))) br) (am (mO (i:=3) nd rfl (.inl rfl) (qw bn.G (hr.mono (by decide)) (by rfl) bn.m bn.k bn.b .nil fM (ad (pv 0) (ad (pv 1) (ad (pv 2) ag))))) (Gc (cG (pM (g7 hr.units) (I9 GL (pv 3) (eV cj aj) (fun _ _=>rfl)) (aD ag) (mT _)) (ap (A5 CQ T.xr_TooMany hr.hd (by rfl) (Gn))) br))),Eg h⟩
abbrev zO:=fun P w=>Ak (CXe P w) 9 "cores" ["picture", "form", "most"] re P w
theorem FY (F:Fun K "cores" "cores" t6 f fd) (T:Txt K mg) (ba:i8 P w K mg base jy ii) (bn:ki P w K mg base kh jz):FnOk P w K mg base CX0 9 f fd ["picture", "form", "most"] (AY K):=F.okk (N:=["picture", "form", "most", "layers"]) (Fs K).2 rfl rfl (by ac_rfl) fun nd _ _ _ _ _ _ hr=>⟨_,am (cG (mE (pcl ba.G hr ba.m ba.k ba.b (ad (pv 1) ag)) (fun _=>rfl)) (ap (Au)) br) (am (pst 3 nd (pcl bn.G hr bn.m bn.k bn.b (ad (pv 0) (ad (pv 1) (ad (pv 2) ag))))) (am (cG (ptc (g7 hr.units) (pix (pv 3) (eV cj aj)) (aD ag)) (ap (Au)) br) (ap (aK (vH Kf (pv 3) (CN) (ue (eV cj aj))))))),rfl⟩
abbrev CD:=Ak CX0 9 "cores" ["picture", "form", "most"] AY
theorem Fh (F:Fun K "_law_told" "_law_told" Dp f fd) (T:Txt K mg) (iu:CD P w K mg base yF uP) (uk:zO P w K mg base yF uP):FnOk P w K mg base CX0 10 f fd ["_law_picture", "_law_form_here", "_law_most"] (zG K):=F.okk (N:=["_law_picture", "_law_form_here", "_law_most", "_law_caught", "_law_found", "e"]) (GH K).2 rfl rfl (by ac_rfl) fun nd _ _ _ _ _ _ hr=>⟨_,am (pst 3 nd (sF)) (am (pst 4 nd (fD ag)) (am (IH (L:=xNs) (i:=5) rfl rfl nd rfl rfl T.xc_ShapeError (by rfl) (Jz uk.G (hr.mono (by decide)) (by rfl) iu.m iu.k iu.b (fun ps W=>ad (pv 0) (ad (pv 1) (ad (pv 2) ag)))) (fun ps W=>ap (pst 4 nd (pcl iu.G hr iu.m iu.k iu.b (ad (pv 0) (ad (pv 1) (ad (pv 2) ag)))))) (fun e=>(show PSs _ _ (Du K 5 [(3,[dW,gL,iM,iQ,km,iP,iV,fJ])]) from ap (pst 3 nd (fD (ad (HJ T.ValueError PyProof.Rows.Boot.«ValueError» T.xa_ValueError (by rfl) T.isinstance (by rfl) (pv 5)) (ad (ph T.xa_TooMany (by rfl) T.isinstance (by rfl) (pv 5)) (ad (ph T.xa_NoForm (by rfl) T.isinstance (by rfl) (pv 5)) (ad (ph T.xa_NoText (by rfl) T.isinstance (by rfl) (pv 5)) (ad (ph T.xa_NoRow (by rfl) T.isinstance (by rfl) (pv 5)) (ad (ph T.xa_NoName (by rfl) T.isinstance (by rfl) (pv 5)) (ad (ph T.xa_NoBack (by rfl) T.isinstance (by rfl) (pv 5)) (ad (ph T.xa_TooGreat (by rfl) T.isinstance (by rfl) (pv 5)) ag))))))))))))) (ap (aK (aD (ad (pv 3) (ad (bd eS (by rfl) T.len kQ (ad (pv 4) ag)) ag))))))),rfl⟩
abbrev Ds:=Ak CX0 10 "_law_told" ["_law_picture", "_law_form_here", "_law_most"] zG
theorem Kw (F:Fun K "law" "law" Fp f fd) (T:Txt K mg) (av:vi P w K mg base uI sN) (bA:r8 P w K mg base rL o8) (nF:CK P w K mg base C0 Bc) (a7:Ds P w K mg base Dv z9) (fO:td P w K mg base sI pV):FnOk P w K mg base CX0 11 f fd ["_law_script"] (yd K):=F.okk (N:=["_law_script", "_law_first", "_law_x", "_law_y", "_law_short", "_law_way", "_law_wide", "_law_high", "_law_picture", "_law_form_here", "_law_many", "_law_none", "_law_alone"]) (Lh K).2 rfl rfl (by ac_rfl) fun nd _ _ _ _ _ _ hr=>⟨_,am (pst 1 nd (pcl av.G hr av.m av.k av.b (ad (pv 0) (ad aj ag)))) (am (mO (i:=2) nd rfl (.inr rfl) (pcl bA.G hr bA.m bA.k bA.b (ad (pcl av.G hr av.m av.k av.b (ad (pv 0) (ad aj ag))) (ad (pix (fD (ad aj (ad (aO yf aj aj) ag))) (aO gj (pv 1) aj)) ag)))) (am (mO (i:=3) nd rfl (.inr rfl) (pcl bA.G hr bA.m bA.k bA.b (ad (pcl av.G hr av.m av.k av.b (ad (pv 0) (ad aj ag))) (ad (pix (fD (ad aj (ad (aO yf aj aj) ag))) (aO gj (aO Cw (pv 1) aj) aj)) ag)))) (am (pst 4 nd (aO bi aj (aO gj (pcl av.G hr av.m av.k av.b (ad (pv 0) (ad aj ag))) aj))) (am (pst 5 nd (aO gj (pcl av.G hr av.m av.k av.b (ad (pv 0) (ad aj ag))) aj)) (am (mO (i:=6) nd rfl (.inr rfl) (pv 4)) (am (pst 7 nd (aO bi (pv 4) (aO gj (pcl av.G hr av.m av.k av.b (ad (pv 0) (ad aj ag))) aj))) (am (cG (PW.pt (Dk (ptc (eD hr.units) (pv 5) aj) (y9 (PW.pt (sC (ptc (eD hr.units) (pv 5) aj) (nJ (ptc (eD hr.units) (aO gj (pcl av.G hr av.m av.k av.b (ad (pv 0) (ad aj ag))) aj) aj))))))) (am (mO (i:=6) nd rfl (.inr rfl) (aO bi (pv 4) (aO gj (pcl av.G hr av.m av.k av.b (ad (pv 0) (ad aj ag))) (aO yf aj aj)))) (ap (pst 7 nd (pv 4)))) br) (am (pst 8 nd (dR bw (by rfl) T.tuple fe (ad (bI (show CmpOk ["_law_script", "_law_first", "_law_x", "_law_y", "_law_short", "_law_way", "_law_wide", "_law_high", "_law_picture", "_law_form_here", "_law_many", "_law_none", "_law_alone"] (aG Fp) _ ["_law_k", "_law_y", "_law_x", "_law_wide"] [none,some 3,some 2,some 6] from eE) (wV (by rfl) T.range (ad (pv 7) ag)) (fun _=>pgc 0) aJ (fun _=>bX) (fun _=>aD (ad (aO bi (pv 1) (pv 0)) (ad (aD (ad (aD (ad (pv 2) (ad (aO dY (aO bi (pv 2) (pv 3)) aj) ag))) ag)) ag)))) ag))) (am (pst 9 nd (pcl nF.G hr nF.m nF.k nF.b (ad (pv 5) ag))) (am (pst 10 nd (fD (ad eU (ad eU (ad eU (ad eU (ad eU (ad eU (ad eU (ad eU ag)))))))))) (am (pst 11 nd (fD (ad eU (ad eU (ad eU (ad eU (ad eU (ad eU (ad eU (ad eU ag)))))))))) (am (y3 eU (y6 (pv 10) aj qQ)) (am (y3 eU (y6 (pv 11) aj qQ)) (am (cG (PW.pt (Dk (ptc (g7 hr.units) (pcl a7.G hr a7.m a7.k a7.b (ad (pv 8) (ad (pv 9) (ad (pv 4) ag)))) (aD (ad (sF) (ad (pv 4) ag)))) (y9 (ptc (g7 hr.units) (pcl a7.G hr a7.m a7.k a7.b (ad (pv 8) (ad (pv 9) (ad aj ag)))) (aD (ad (sF) (ad (pv 4) ag))))))) (ap (aK eU)) br) (am (cG (ptc (g7 hr.units) (pcl a7.G hr a7.m a7.k a7.b (ad (pv 8) (ad (pv 9) (ad (aO dY (pv 4) aj) ag)))) (aD (ad (pv 10) (ad aj ag)))) (ap (aK eU)) br) (am (cG (ptc (g7 hr.units) (pcl a7.G hr a7.m a7.k a7.b (ad (pv 8) (ad (pv 9) (ad (aO gj (pcl av.G hr av.m av.k av.b (ad (pv 0) (ad aj ag))) (pv 4)) ag)))) (aD (ad (pv 10) (ad aj ag)))) (ap (aK eU)) br) (am (pst 12 nd (pcl fO.G hr fO.m fO.k fO.b (ad (pcl av.G hr av.m av.k av.b (ad (pv 0) (ad aj ag))) ag))) (am (cG (PW.pt (Dk (ptc (g7 hr.units) (pcl a7.G hr a7.m a7.k a7.b (ad (pv 8) (ad (pv 12) (ad (aO gj (pcl av.G hr av.m av.k av.b (ad (pv 0) (ad aj ag))) aj) ag)))) (aD (ad (pv 11) (ad aj ag)))) (y9 (ptc (g7 hr.units) (pcl a7.G hr a7.m a7.k a7.b (ad (aD ag) (ad (pv 12) (ad aj ag)))) (aD (ad (pv 11) (ad aj ag))))))) (ap (aK eU)) br) (ap (aK (JQ (yu (eD hr.units) (pcl a7.G hr a7.m a7.k a7.b (ad (pv 8) (ad (pv 9) (ad (pv 4) ag)))) (aD (ad (sF) (ad (pv 4) ag))) (mT _)) (JA (yu (eD hr.units) (pcl a7.G hr a7.m a7.k a7.b (ad (aD ag) (ad (pv 9) (ad aj ag)))) (aD (ad (sF) (ad aj ag))) (mT _)))))))))))))))))))))))),rfl⟩
end
theorem Kh {l:OpenLaw} {w:World} {K:Frag} {h:Heap} {mg:Str -> Option Value} {fa:Addr} (X:K.In h) (G:h.Ns mainGlobals mg) (hfa:mg "law" = some (.ref fa))
  {g_ONE_CELL_0:Addr} {od_ONE_CELL_0:Option Addr} {n_ONE_CELL_0:Nat} {sl_ONE_CELL_0:Array (Option Value)}
  {g_ONE_CELL_1:Addr} {od_ONE_CELL_1:Option Addr} {n_ONE_CELL_1:Nat} {sl_ONE_CELL_1:Array (Option Value)}
  {t_ONE_CELL_1_0:Tok}
  {g_ONE_CELL_2:Addr} {od_ONE_CELL_2:Option Addr} {n_ONE_CELL_2:Nat} {sl_ONE_CELL_2:Array (Option Value)}
  {g_ONE_CELL_3:Addr} {od_ONE_CELL_3:Option Addr} {n_ONE_CELL_3:Nat} {sl_ONE_CELL_3:Array (Option Value)}
  {t_ONE_CELL_3_0:Tok}
  {t_ONE_CELL_3_1:Tok}
  (n_Box:nsIn K mainGlobals "Box" = some (some (.ref c_Box)))
  (n_Cross:nsIn K mainGlobals "Cross" = some (some (.ref c_Cross)))
  (n_Shape:nsIn K mainGlobals "Shape" = some (some (.ref c_Shape)))
  (n_Sum:nsIn K mainGlobals "Sum" = some (some (.ref c_Sum)))
  (n_Form:nsIn K mainGlobals "Form" = some (some (.ref c_Form)))
  (GZ:nsIn K mainGlobals "row_of" = some (some (.ref qA)))
  (wC:nsIn K mainGlobals "count_up_to" = some (some (.ref j9)))
  (zg:nsIn K mainGlobals "row_common" = some (some (.ref kS)))
  (Cp:nsIn K mainGlobals "row_less" = some (some (.ref uy)))
  (yo:nsIn K mainGlobals "row_either" = some (some (.ref qW)))
  (AV:nsIn K mainGlobals "row_moved" = some (some (.ref sS)))
  (yE:nsIn K mainGlobals "row_shrunk" = some (some (.ref pD)))
  (yU:nsIn K mainGlobals "picture_of" = some (some (.ref iz)))
  (uW:nsIn K mainGlobals "stretches_of" = some (some (.ref fZ)))
  (He:nsIn K mainGlobals "row_at" = some (some (.ref vY)))
  (qP:nsIn K mainGlobals "rows_with_cells" = some (some (.ref cK)))
  (JK:nsIn K mainGlobals "join" = some (some (.ref Gf)))
  (Fq:nsIn K mainGlobals "common" = some (some (.ref uv)))
  (KA:nsIn K mainGlobals "less" = some (some (.ref Gu)))
  (FU:nsIn K mainGlobals "box_of" = some (some (.ref A0)))
  (IM:nsIn K mainGlobals "moved" = some (some (.ref yN)))
  (A7:nsIn K mainGlobals "blocks_of" = some (some (.ref sV)))
  (vg:nsIn K mainGlobals "parts_of_sum" = some (some (.ref mY)))
  (wH:nsIn K mainGlobals "spread_down" = some (some (.ref oo)))
  (wE:nsIn K mainGlobals "shrunk_down" = some (some (.ref oi)))
  (oX:nsIn K mainGlobals "greater_by_block" = some (some (.ref i4)))
  (qU:nsIn K mainGlobals "greater_by_part" = some (some (.ref jQ)))
  (oU:nsIn K mainGlobals "smaller_by_block" = some (some (.ref jv)))
  (pJ:nsIn K mainGlobals "smaller_by_part" = some (some (.ref jL)))
  (D7:nsIn K mainGlobals "reached" = some (some (.ref wX)))
  (tU:nsIn K mainGlobals "begun_between" = some (some (.ref lG)))
  (wM:nsIn K mainGlobals "taken_apart" = some (some (.ref kh)))
  (uF:nsIn K mainGlobals "has_one_cell" = some (some (.ref jy)))
  (Cy:nsIn K mainGlobals "cores" = some (some (.ref yF)))
  (BS:nsIn K mainGlobals "_law_cell_at" = some (some (.ref uI)))
  (D8:nsIn K mainGlobals "_law_signed" = some (some (.ref rL)))
  (Ih:nsIn K mainGlobals "_law_told" = some (some (.ref Dv)))
  (A9:nsIn K mainGlobals "_law_one_cell" = some (some (.ref sI)))
  (IP:nsIn K mainGlobals "_law_form" = some (some (.ref C0)))
  (Ln:nsIn K mainGlobals "law" = some (some (.ref Ls)))
  (E2:findIn K (.ref c_Form) "__init__" = some (some (.ref f_Form___init__)))
  (E1:isFn K (.ref f_Form___init__) = true)
  (Gq:findIn K (.ref c_Box) "greater" = some (some (.ref f_Form_greater)))
  (fW:isFn K (.ref f_Form_greater) = true)
  (Gb:findIn K (.ref c_Box) "smaller" = some (some (.ref f_Form_smaller)))
  (gh:isFn K (.ref f_Form_smaller) = true)
  (uO:findIn K (.ref c_Box) "__init__" = some (some (.ref eJ)))
  (vm:isFn K (.ref eJ) = true)
  (rF:findIn K (.ref c_Cross) "__init__" = some (some (.ref eM)))
  (qY:isFn K (.ref eM) = true)
  (su:findIn K (.ref c_Shape) "__init__" = some (some (.ref cY)))
  (rS:isFn K (.ref cY) = true)
  (ut:findIn K (.ref c_Sum) "__init__" = some (some (.ref gm)))
  (vw:isFn K (.ref gm) = true)
  (uK:Fun K "row_of" "row_of" vD qA nD)
  (kb:Fun K "count_up_to" "count_up_to" oG j9 jj)
  (ln:Fun K "row_common" "row_common" pS kS kj)
  (pr:Fun K "row_less" "row_less" uL uy sX)
  (lp:Fun K "row_either" "row_either" gd qW ox)
  (nh:Fun K "row_moved" "row_moved" m5 sS pB)
  (lg:Fun K "row_shrunk" "row_shrunk" ll pD n6)
  (lu:Fun K "picture_of" "picture_of" iI iz gP)
  (ji:Fun K "stretches_of" "stretches_of" je fZ fj)
  (uM:Fun K "row_at" "row_at" zX vY sr)
  (gu:Fun K "rows_with_cells" "rows_with_cells" fS cK cc)
  (Cn:Fun K "join" "join" Gp Gf C8)
  (wa:Fun K "common" "common" uq uv sv)
  (B2:Fun K "less" "less" B6 Gu DA)
  (ux:Fun K "box_of" "box_of" qS A0 ya)
  (yh:Fun K "moved" "moved" zi yN wj)
  (mw:Fun K "blocks_of" "blocks_of" nw sV pO)
  (iZ:Fun K "parts_of_sum" "parts_of_sum" eK mY lW)
  (j7:Fun K "spread_down" "spread_down" oh oo nc)
  (j5:Fun K "shrunk_down" "shrunk_down" nV oi m7)
  (fx:Fun K "greater_by_block" "greater_by_block" fH i4 im)
  (f8:Fun K "greater_by_part" "greater_by_part" jW jQ iY)
  (fA:Fun K "smaller_by_block" "smaller_by_block" fI jv ip)
  (gq:Fun K "smaller_by_part" "smaller_by_part" jY jL jl)
  (rD:Fun K "reached" "reached" rJ wX vZ)
  (hZ:Fun K "begun_between" "begun_between" lY lG kn)
  (kg:Fun K "taken_apart" "taken_apart" nZ kh jz)
  (jr:Fun K "has_one_cell" "has_one_cell" m9 jy ii)
  (qT:Fun K "cores" "cores" t6 yF uP)
  (oK:Fun K "_law_cell_at" "_law_cell_at" vz uI sN)
  (rm:Fun K "_law_signed" "_law_signed" xw rL o8)
  (yl:Fun K "_law_told" "_law_told" Dp Dv z9)
  (mQ:Fun K "_law_one_cell" "_law_one_cell" sQ sI pV)
  (yp:Fun K "_law_form" "_law_form" Dt C0 Bc)
  (Jj:Fun K "law" "law" Fp Ls Kn)
  (ig:Fun K "__init__" "Form.__init__" hJ f_Form___init__ dh)
  (dc:Fun K "greater" "Form.greater" mX f_Form_greater lX)
  (df:Fun K "smaller" "Form.smaller" mZ f_Form_smaller g8)
  (mM:Fun K "__init__" "Box.__init__" jE eJ g9)
  (kK:Fun K "__init__" "Cross.__init__" gN eM jP)
  (kL:Fun K "__init__" "Shape.__init__" gK cY fY)
  (mW:Fun K "__init__" "Sum.__init__" jp gm lH)
  (pg_Box:plainGet K c_Box Str.empty = true)
  (hd_Box:hasDictIn K c_Box = true)
  (po_Box:plainOver K c_Box = true)
  (sa_Box:findIn K (.ref c_Box) "__setattr__" = some (some (.builtin "object.__setattr__")))
  (mk_Box:makesIn K c_Box = true)
  (kc_Box:keepIn K (.ref c_Box) = true)
  (np_Box:findIn K (.ref c_Box) "parts" = some none)
  (mm_Box_greater:findIn K (.ref c_Box) "greater" = some (some (.ref f_Form_greater)))
  (mm_Box_smaller:findIn K (.ref c_Box) "smaller" = some (some (.ref f_Form_smaller)))
  (pg_Cross:plainGet K c_Cross Str.empty = true)
  (hd_Cross:hasDictIn K c_Cross = true)
  (po_Cross:plainOver K c_Cross = true)
  (sa_Cross:findIn K (.ref c_Cross) "__setattr__" = some (some (.builtin "object.__setattr__")))
  (mk_Cross:makesIn K c_Cross = true)
  (kc_Cross:keepIn K (.ref c_Cross) = true)
  (np_Cross:findIn K (.ref c_Cross) "parts" = some none)
  (mm_Cross_greater:findIn K (.ref c_Cross) "greater" = some (some (.ref f_Form_greater)))
  (mm_Cross_smaller:findIn K (.ref c_Cross) "smaller" = some (some (.ref f_Form_smaller)))
  (pg_Shape:plainGet K c_Shape Str.empty = true)
  (hd_Shape:hasDictIn K c_Shape = true)
  (po_Shape:plainOver K c_Shape = true)
  (sa_Shape:findIn K (.ref c_Shape) "__setattr__" = some (some (.builtin "object.__setattr__")))
  (mk_Shape:makesIn K c_Shape = true)
  (kc_Shape:keepIn K (.ref c_Shape) = true)
  (np_Shape:findIn K (.ref c_Shape) "parts" = some none)
  (mm_Shape_greater:findIn K (.ref c_Shape) "greater" = some (some (.ref f_Form_greater)))
  (mm_Shape_smaller:findIn K (.ref c_Shape) "smaller" = some (some (.ref f_Form_smaller)))
  (pg_Sum:plainGet K c_Sum Str.empty = true)
  (hd_Sum:hasDictIn K c_Sum = true)
  (po_Sum:plainOver K c_Sum = true)
  (sa_Sum:findIn K (.ref c_Sum) "__setattr__" = some (some (.builtin "object.__setattr__")))
  (mk_Sum:makesIn K c_Sum = true)
  (kc_Sum:keepIn K (.ref c_Sum) = true)
  (np_Sum:findIn K (.ref c_Sum) "parts" = some none)
  (mm_Sum_greater:findIn K (.ref c_Sum) "greater" = some (some (.ref f_Form_greater)))
  (mm_Sum_smaller:findIn K (.ref c_Sum) "smaller" = some (some (.ref f_Form_smaller)))
  (n_NoBack:nsIn K mainGlobals "NoBack" = some (some (.ref c_NoBack)))
  (n_NoForm:nsIn K mainGlobals "NoForm" = some (some (.ref c_NoForm)))
  (n_NoName:nsIn K mainGlobals "NoName" = some (some (.ref c_NoName)))
  (n_NoRow:nsIn K mainGlobals "NoRow" = some (some (.ref c_NoRow)))
  (n_NoText:nsIn K mainGlobals "NoText" = some (some (.ref c_NoText)))
  (n_ShapeError:nsIn K mainGlobals "ShapeError" = some (some (.ref c_ShapeError)))
  (n_TooGreat:nsIn K mainGlobals "TooGreat" = some (some (.ref c_TooGreat)))
  (n_TooMany:nsIn K mainGlobals "TooMany" = some (some (.ref c_TooMany)))
  (xg:specialIn K (.builtin "object.__class__") "__get__" = some (some (.builtin "getset_descriptor.__get__")))
  (xt:takesIn K (.builtin "object.__class__") = some true)
  (x1_NoForm:hasDictIn K c_NoForm = true)
  (x2_NoForm:findIn K (.ref c_NoForm) "__getattribute__" = some (some (.builtin "BaseException.__getattribute__")))
  (x3_NoForm:findIn K (.ref c_NoForm) "__getattr__" = some none)
  (x4_NoForm:findIn K (.ref c_NoForm) "__class__" = some (some (.builtin "object.__class__")))
  (x5_NoForm:mroIn K c_NoForm (.type "object") = some true)
  (x6_NoForm:mroIn K c_NoForm (.type "BaseException") = some true)
  (xe_NoForm:excIn K c_NoForm bmV "ValueError.__new__" = true)
  (xo_NoForm_NoBack:kitOne K (.ref c_NoForm) (.ref c_NoBack) = some false)
  (xo_NoForm_NoForm:kitOne K (.ref c_NoForm) (.ref c_NoForm) = some true)
  (xo_NoForm_NoName:kitOne K (.ref c_NoForm) (.ref c_NoName) = some false)
  (xo_NoForm_NoRow:kitOne K (.ref c_NoForm) (.ref c_NoRow) = some false)
  (xo_NoForm_NoText:kitOne K (.ref c_NoForm) (.ref c_NoText) = some false)
  (xo_NoForm_TooGreat:kitOne K (.ref c_NoForm) (.ref c_TooGreat) = some false)
  (xo_NoForm_TooMany:kitOne K (.ref c_NoForm) (.ref c_TooMany) = some false)
  (xo_NoForm_ValueError:kitOne K (.ref c_NoForm) (.type "ValueError") = some true)
  (xm_NoForm_ShapeError:exmOne K (.ref c_NoForm) (.ref c_ShapeError) = some true)
  (x1_TooMany:hasDictIn K c_TooMany = true)
  (x2_TooMany:findIn K (.ref c_TooMany) "__getattribute__" = some (some (.builtin "BaseException.__getattribute__")))
  (x3_TooMany:findIn K (.ref c_TooMany) "__getattr__" = some none)
  (x4_TooMany:findIn K (.ref c_TooMany) "__class__" = some (some (.builtin "object.__class__")))
  (x5_TooMany:mroIn K c_TooMany (.type "object") = some true)
  (x6_TooMany:mroIn K c_TooMany (.type "BaseException") = some true)
  (xe_TooMany:excIn K c_TooMany bmV "ValueError.__new__" = true)
  (xo_TooMany_NoBack:kitOne K (.ref c_TooMany) (.ref c_NoBack) = some false)
  (xo_TooMany_NoForm:kitOne K (.ref c_TooMany) (.ref c_NoForm) = some false)
  (xo_TooMany_NoName:kitOne K (.ref c_TooMany) (.ref c_NoName) = some false)
  (xo_TooMany_NoRow:kitOne K (.ref c_TooMany) (.ref c_NoRow) = some false)
  (xo_TooMany_NoText:kitOne K (.ref c_TooMany) (.ref c_NoText) = some false)
  (xo_TooMany_TooGreat:kitOne K (.ref c_TooMany) (.ref c_TooGreat) = some false)
  (xo_TooMany_TooMany:kitOne K (.ref c_TooMany) (.ref c_TooMany) = some true)
  (xo_TooMany_ValueError:kitOne K (.ref c_TooMany) (.type "ValueError") = some true)
  (xm_TooMany_ShapeError:exmOne K (.ref c_TooMany) (.ref c_ShapeError) = some true)
  (bs_Form:specialIn K (.ref c_Form) "__getattribute__" = some (some (.builtin "type.__getattribute__")))
  (br_Form:readsIn K c_Form (.type "type") = true)
  (bf_Form:findCls K (.ref c_Form) (.type "type") "__init__" = some (.val (.ref f_Form___init__)))
  (z_ValueError:nsIn K mainGlobals "ValueError" = some none)
  (z_isinstance:nsIn K mainGlobals "isinstance" = some none)
  (z_len:nsIn K mainGlobals "len" = some none)
  (z_max:nsIn K mainGlobals "max" = some none)
  (z_min:nsIn K mainGlobals "min" = some none)
  (z_range:nsIn K mainGlobals "range" = some none)
  (z_reversed:nsIn K mainGlobals "reversed" = some none)
  (z_sorted:nsIn K mainGlobals "sorted" = some none)
  (z_sum:nsIn K mainGlobals "sum" = some none)
  (z_tuple:nsIn K mainGlobals "tuple" = some none)
  (y_ONE_CELL:nsIn K mainGlobals "ONE_CELL" = some (some (.ref g_ONE_CELL_0)))
  (v_ONE_CELL_0:K.lookup g_ONE_CELL_0 = some ⟨.type "tuple",od_ONE_CELL_0,.seq #[.ref g_ONE_CELL_1] n_ONE_CELL_0,sl_ONE_CELL_0⟩)
  (v_ONE_CELL_1:K.lookup g_ONE_CELL_1 = some ⟨.type "tuple",od_ONE_CELL_1,.seq #[.int (0) t_ONE_CELL_1_0,.ref g_ONE_CELL_2] n_ONE_CELL_1,sl_ONE_CELL_1⟩)
  (v_ONE_CELL_2:K.lookup g_ONE_CELL_2 = some ⟨.type "tuple",od_ONE_CELL_2,.seq #[.ref g_ONE_CELL_3] n_ONE_CELL_2,sl_ONE_CELL_2⟩)
  (v_ONE_CELL_3:K.lookup g_ONE_CELL_3 = some ⟨.type "tuple",od_ONE_CELL_3,.seq #[.int (0) t_ONE_CELL_3_0,.int (0) t_ONE_CELL_3_1] n_ONE_CELL_3,sl_ONE_CELL_3⟩)
  : ∃ fd:FuncData,(∀ (s:Shared) (v:Value),BindsTo s fd ⟨[v],[]⟩ [("_law_script",v)]) /\ ∀ base:Heap,K.In base -> base.Ns mainGlobals mg -> FnOk l.prog w K mg base CX0 11 fa fd ["_law_script"] (yd K):=by
 have e:=hfa.symm.trans (Pp X G Ln)
 cases e
 have cN:uH K NS fun C=>Cls K C /\ NoAttr K C "parts" := cA n_Box ⟨⟨pg_Box,hd_Box,po_Box,sa_Box⟩,np_Box⟩ (cA n_Cross ⟨⟨pg_Cross,hd_Cross,po_Cross,sa_Cross⟩,np_Cross⟩ (cA n_Shape ⟨⟨pg_Shape,hd_Shape,po_Shape,sa_Shape⟩,np_Shape⟩ (cA n_Sum ⟨⟨pg_Sum,hd_Sum,po_Sum,sa_Sum⟩,np_Sum⟩ (uQ))))
 have tR:uH K NS fun C=>Cls K C /\ Meth K C "greater" f_Form_greater:=cA n_Box ⟨⟨pg_Box,hd_Box,po_Box,sa_Box⟩,⟨mm_Box_greater,fW,dc.kp⟩⟩ (cA n_Cross ⟨⟨pg_Cross,hd_Cross,po_Cross,sa_Cross⟩,⟨mm_Cross_greater,fW,dc.kp⟩⟩ (cA n_Shape ⟨⟨pg_Shape,hd_Shape,po_Shape,sa_Shape⟩,⟨mm_Shape_greater,fW,dc.kp⟩⟩ (cA n_Sum ⟨⟨pg_Sum,hd_Sum,po_Sum,sa_Sum⟩,⟨mm_Sum_greater,fW,dc.kp⟩⟩ (uQ))))
 have tJ:uH K NS fun C=>Cls K C /\ Meth K C "smaller" f_Form_smaller:=cA n_Box ⟨⟨pg_Box,hd_Box,po_Box,sa_Box⟩,⟨mm_Box_smaller,gh,df.kp⟩⟩ (cA n_Cross ⟨⟨pg_Cross,hd_Cross,po_Cross,sa_Cross⟩,⟨mm_Cross_smaller,gh,df.kp⟩⟩ (cA n_Shape ⟨⟨pg_Shape,hd_Shape,po_Shape,sa_Shape⟩,⟨mm_Shape_smaller,gh,df.kp⟩⟩ (cA n_Sum ⟨⟨pg_Sum,hd_Sum,po_Sum,sa_Sum⟩,⟨mm_Sum_smaller,gh,df.kp⟩⟩ (uQ))))
 have xc_ShapeError:∃ T:Addr,mg "ShapeError" = some (.ref T) /\ ∀ N ∈ xNs,∀ C:Addr,nsIn K mainGlobals N = some (some (.ref C)) -> exmOne K (.ref C) (.ref T) = some true:=by
  refine ⟨c_ShapeError,Pp X G n_ShapeError,fun N hN C hC=>?_⟩
  simp only [Pq,List.not_mem_nil,or_false] at hN
  rcases hN with rfl | rfl
  ·rw [n_NoForm] at hC;cases hC;exact xm_NoForm_ShapeError
  ·rw [n_TooMany] at hC;cases hC;exact xm_TooMany_ShapeError
 have xa_NoBack:∃ T:Addr,mg "NoBack" = some (.ref T) /\ jI K iV (.ref T):=⟨c_NoBack,Pp X G n_NoBack,bC (fun C hC=>by rw [n_NoForm] at hC;cases hC;exact ⟨⟨x1_NoForm,x2_NoForm,x3_NoForm,x4_NoForm,xg,xt,x5_NoForm,x6_NoForm⟩,xo_NoForm_NoBack⟩) (bC (fun C hC=>by rw [n_TooMany] at hC;cases hC;exact ⟨⟨x1_TooMany,x2_TooMany,x3_TooMany,x4_TooMany,xg,xt,x5_TooMany,x6_TooMany⟩,xo_TooMany_NoBack⟩) (gY))⟩
 have xa_NoForm:∃ T:Addr,mg "NoForm" = some (.ref T) /\ jI K iM (.ref T):=⟨c_NoForm,Pp X G n_NoForm,bC (fun C hC=>by rw [n_NoForm] at hC;cases hC;exact ⟨⟨x1_NoForm,x2_NoForm,x3_NoForm,x4_NoForm,xg,xt,x5_NoForm,x6_NoForm⟩,xo_NoForm_NoForm⟩) (bC (fun C hC=>by rw [n_TooMany] at hC;cases hC;exact ⟨⟨x1_TooMany,x2_TooMany,x3_TooMany,x4_TooMany,xg,xt,x5_TooMany,x6_TooMany⟩,xo_TooMany_NoForm⟩) (gY))⟩
 have xa_NoName:∃ T:Addr,mg "NoName" = some (.ref T) /\ jI K iP (.ref T):=⟨c_NoName,Pp X G n_NoName,bC (fun C hC=>by rw [n_NoForm] at hC;cases hC;exact ⟨⟨x1_NoForm,x2_NoForm,x3_NoForm,x4_NoForm,xg,xt,x5_NoForm,x6_NoForm⟩,xo_NoForm_NoName⟩) (bC (fun C hC=>by rw [n_TooMany] at hC;cases hC;exact ⟨⟨x1_TooMany,x2_TooMany,x3_TooMany,x4_TooMany,xg,xt,x5_TooMany,x6_TooMany⟩,xo_TooMany_NoName⟩) (gY))⟩
 have xa_NoRow:∃ T:Addr,mg "NoRow" = some (.ref T) /\ jI K km (.ref T):=⟨c_NoRow,Pp X G n_NoRow,bC (fun C hC=>by rw [n_NoForm] at hC;cases hC;exact ⟨⟨x1_NoForm,x2_NoForm,x3_NoForm,x4_NoForm,xg,xt,x5_NoForm,x6_NoForm⟩,xo_NoForm_NoRow⟩) (bC (fun C hC=>by rw [n_TooMany] at hC;cases hC;exact ⟨⟨x1_TooMany,x2_TooMany,x3_TooMany,x4_TooMany,xg,xt,x5_TooMany,x6_TooMany⟩,xo_TooMany_NoRow⟩) (gY))⟩
 have xa_NoText:∃ T:Addr,mg "NoText" = some (.ref T) /\ jI K iQ (.ref T):=⟨c_NoText,Pp X G n_NoText,bC (fun C hC=>by rw [n_NoForm] at hC;cases hC;exact ⟨⟨x1_NoForm,x2_NoForm,x3_NoForm,x4_NoForm,xg,xt,x5_NoForm,x6_NoForm⟩,xo_NoForm_NoText⟩) (bC (fun C hC=>by rw [n_TooMany] at hC;cases hC;exact ⟨⟨x1_TooMany,x2_TooMany,x3_TooMany,x4_TooMany,xg,xt,x5_TooMany,x6_TooMany⟩,xo_TooMany_NoText⟩) (gY))⟩
 have xa_TooGreat:∃ T:Addr,mg "TooGreat" = some (.ref T) /\ jI K fJ (.ref T):=⟨c_TooGreat,Pp X G n_TooGreat,bC (fun C hC=>by rw [n_NoForm] at hC;cases hC;exact ⟨⟨x1_NoForm,x2_NoForm,x3_NoForm,x4_NoForm,xg,xt,x5_NoForm,x6_NoForm⟩,xo_NoForm_TooGreat⟩) (bC (fun C hC=>by rw [n_TooMany] at hC;cases hC;exact ⟨⟨x1_TooMany,x2_TooMany,x3_TooMany,x4_TooMany,xg,xt,x5_TooMany,x6_TooMany⟩,xo_TooMany_TooGreat⟩) (gY))⟩
 have xa_TooMany:∃ T:Addr,mg "TooMany" = some (.ref T) /\ jI K gL (.ref T):=⟨c_TooMany,Pp X G n_TooMany,bC (fun C hC=>by rw [n_NoForm] at hC;cases hC;exact ⟨⟨x1_NoForm,x2_NoForm,x3_NoForm,x4_NoForm,xg,xt,x5_NoForm,x6_NoForm⟩,xo_NoForm_TooMany⟩) (bC (fun C hC=>by rw [n_TooMany] at hC;cases hC;exact ⟨⟨x1_TooMany,x2_TooMany,x3_TooMany,x4_TooMany,xg,xt,x5_TooMany,x6_TooMany⟩,xo_TooMany_TooMany⟩) (gY))⟩
 have xa_ValueError:jI K dW (.type "ValueError"):=bC (fun C hC=>by rw [n_NoForm] at hC;cases hC;exact ⟨⟨x1_NoForm,x2_NoForm,x3_NoForm,x4_NoForm,xg,xt,x5_NoForm,x6_NoForm⟩,xo_NoForm_ValueError⟩) (bC (fun C hC=>by rw [n_TooMany] at hC;cases hC;exact ⟨⟨x1_TooMany,x2_TooMany,x3_TooMany,x4_TooMany,xg,xt,x5_TooMany,x6_TooMany⟩,xo_TooMany_ValueError⟩) (gY))
 have xr_NoForm:∃ C:Addr,nsIn K mainGlobals "NoForm" = some (some (.ref C)) /\ excIn K C bmV "ValueError.__new__" = true /\ mg "NoForm" = some (.ref C):=⟨c_NoForm,n_NoForm,xe_NoForm,Pp X G n_NoForm⟩
 have xr_TooMany:∃ C:Addr,nsIn K mainGlobals "TooMany" = some (some (.ref C)) /\ excIn K C bmV "ValueError.__new__" = true /\ mg "TooMany" = some (.ref C):=⟨c_TooMany,n_TooMany,xe_TooMany,Pp X G n_TooMany⟩
 have T:Txt K mg:=⟨QA X G z_ValueError,QA X G z_isinstance,QA X G z_len,QA X G z_max,QA X G z_min,QA X G z_range,QA X G z_reversed,QA X G z_sorted,QA X G z_sum,QA X G z_tuple,⟨_,.ref _,Pp X G y_ONE_CELL,rfl,fun S=>pz (xs:=[.ref g_ONE_CELL_1]) v_ONE_CELL_0 rfl rfl (PR (show 1 <= 1000 by decide) (by rw [Qb];decide)) (.cons rfl (.nil)) (fun S=>Dens.cons (pz (xs:=[.int (0),.ref g_ONE_CELL_2]) v_ONE_CELL_1 rfl rfl (PR (show 2 <= 1000 by decide) (by rw [Qb];decide)) (.cons ⟨_,rfl⟩ (.cons rfl (.nil))) (fun S=>Dens.cons (den_int.mpr rfl) (Dens.cons (pz (xs:=[.ref g_ONE_CELL_3]) v_ONE_CELL_2 rfl rfl (PR (show 1 <= 1000 by decide) (by rw [Qb];decide)) (.cons rfl (.nil)) (fun S=>Dens.cons (pz (xs:=[.int (0),.int (0)]) v_ONE_CELL_3 rfl rfl (PR (show 2 <= 1000 by decide) (by rw [Qb];decide)) (.cons ⟨_,rfl⟩ (.cons ⟨_,rfl⟩ (.nil))) (fun S=>Dens.cons (den_int.mpr rfl) (Dens.cons (den_int.mpr rfl) (Dens.nil))) S) (Dens.nil)) S) (Dens.nil))) S) (Dens.nil)) S⟩,cN,xc_ShapeError,xa_NoBack,xa_NoForm,xa_NoName,xa_NoRow,xa_NoText,xa_TooGreat,xa_TooMany,xa_ValueError,xr_NoForm,xr_TooMany⟩
 have M_Box:Mk K c_Box eJ:=⟨mk_Box,uO,vm,kc_Box⟩
 have M_Cross:Mk K c_Cross eM:=⟨mk_Cross,rF,qY,kc_Cross⟩
 have M_Shape:Mk K c_Shape cY:=⟨mk_Shape,su,rS,kc_Shape⟩
 have M_Sum:Mk K c_Sum gm:=⟨mk_Sum,ut,vw,kc_Sum⟩
 have cf_Form:ClsFn K c_Form "__init__" f_Form___init__:=⟨bs_Form,br_Form,bf_Form,ig.kp⟩
 obtain ⟨_,_,_,_,_,_,_,_,_,hfd,_⟩:=Jj.ex
 refine ⟨Kn,fun s v=>.of_eq (by rw [hfd];rfl),fun base _ _=>?_⟩
 have tM:Binds K dh ["self", "parts"] []:=ig.binds fun _ _ _ _ _ _ us hl=>by obtain ⟨_,_,rfl⟩:=us2 hl;rfl
 have AB_Form:p0 l.prog w K mg base _ _ _:=⟨rA ig T,tM,cf_Form,Pp X G n_Form⟩
 have Ck:Binds K sN ["_law_script", "_law_k"] []:=oK.binds fun _ _ _ _ _ _ us hl=>by obtain ⟨_,_,rfl⟩:=us2 hl;rfl
 have av:vi l.prog w K mg base _ _:=⟨zN oK T,Pp X G BS,oK.kp,Ck⟩
 have D2:Binds K o8 ["_law_cell", "_law_most"] []:=rm.binds fun _ _ _ _ _ _ us hl=>by obtain ⟨_,_,rfl⟩:=us2 hl;rfl
 have bA:r8 l.prog w K mg base _ _:=⟨Co rm T,Pp X G D8,rm.kp,D2⟩
 have FM:Binds K ya ["picture"] []:=ux.binds fun _ _ _ _ _ _ us hl=>by obtain ⟨_,rfl⟩:=us1 hl;rfl
 have kx:zU l.prog w K mg base _ _:=⟨DW ux T,Pp X G FU,ux.kp,FM⟩
 have wv:Binds K jj ["pairs", "number"] []:=kb.binds fun _ _ _ _ _ _ us hl=>by obtain ⟨_,_,rfl⟩:=us2 hl;rfl
 have aW:ka l.prog w K mg base _ _:=⟨vh kb T,Pp X G wC,kb.kp,wv⟩
 have vF:Binds K lW ["parts"] []:=iZ.binds fun _ _ _ _ _ _ us hl=>by obtain ⟨_,rfl⟩:=us1 hl;rfl
 have cX:mt l.prog w K mg base _ _:=⟨tQ iZ T,Pp X G vg,iZ.kp,vF⟩
 have zm:Binds K kj ["one", "other"] []:=ln.binds fun _ _ _ _ _ _ us hl=>by obtain ⟨_,_,rfl⟩:=us2 hl;rfl
 have bv:kZ l.prog w K mg base _ _:=⟨wx ln T,Pp X G zg,ln.kp,zm⟩
 have zL:Binds K pB ["row", "by"] []:=nh.binds fun _ _ _ _ _ _ us hl=>by obtain ⟨_,_,rfl⟩:=us2 hl;rfl
 have fQ:sR l.prog w K mg base _ _:=⟨yM nh T,Pp X G AV,nh.kp,zL⟩
 have Hb:Binds K nD ["pairs"] []:=uK.binds fun _ _ _ _ _ _ us hl=>by obtain ⟨_,rfl⟩:=us1 hl;rfl
 have bL:qC l.prog w K mg base _ _:=⟨EI uK T,Pp X G GZ,uK.kp,Hb⟩
 have qJ:Binds K cc ["rows"] []:=gu.binds fun _ _ _ _ _ _ us hl=>by obtain ⟨_,rfl⟩:=us1 hl;rfl
 have aw:cL l.prog w K mg base _ _:=⟨pk gu T,Pp X G qP,gu.kp,qJ⟩
 have vU:Binds K fj ["picture"] []:=ji.binds fun _ _ _ _ _ _ us hl=>by obtain ⟨_,rfl⟩:=us1 hl;rfl
 have az:f7 l.prog w K mg base _ _:=⟨tw ji T,Pp X G uW,ji.kp,vU⟩
 have vd:Binds K g9 ["self", "left", "up", "right", "down"] []:=mM.binds fun _ _ _ _ _ _ us hl=>by obtain ⟨_,_,_,_,_,rfl⟩:=us5 hl;rfl
 have A_Box:G2 l.prog w K mg base _ _ _:=⟨tV mM T AB_Form,vd,n_Box,M_Box,Pp X G n_Box⟩
 have sk:Binds K jP ["self", "arm"] []:=kK.binds fun _ _ _ _ _ _ us hl=>by obtain ⟨_,_,rfl⟩:=us2 hl;rfl
 have A_Cross:CP l.prog w K mg base _ _ _:=⟨pZ kK T AB_Form,sk,n_Cross,M_Cross,Pp X G n_Cross⟩
 have vM:Binds K lH ["self", "one", "other"] []:=mW.binds fun _ _ _ _ _ _ us hl=>by obtain ⟨_,_,_,rfl⟩:=us3 hl;rfl
 have A_Sum:IY l.prog w K mg base _ _ _:=⟨tZ mW T cX AB_Form,vM,n_Sum,M_Sum,Pp X G n_Sum⟩
 have tD:Binds K kn ["pairs", "first", "last"] []:=hZ.binds fun _ _ _ _ _ _ us hl=>by obtain ⟨_,_,_,rfl⟩:=us3 hl;rfl
 have bo:lI l.prog w K mg base _ _:=⟨sD hZ T aW,Pp X G tU,hZ.kp,tD⟩
 have AK:Binds K pO ["picture"] []:=mw.binds fun _ _ _ _ _ _ us hl=>by obtain ⟨_,rfl⟩:=us1 hl;rfl
 have fL:sJ l.prog w K mg base _ _:=⟨yn mw T az,Pp X G A7,mw.kp,AK⟩
 have Hy:Binds K wj ["picture", "dx", "dy"] []:=yh.binds fun _ _ _ _ _ _ us hl=>by obtain ⟨_,_,_,rfl⟩:=us3 hl;rfl
 have fh:yr l.prog w K mg base _ _:=⟨F6 yh T fQ,Pp X G IM,yh.kp,Hy⟩
 have yD:Binds K gP ["stretches"] []:=lu.binds fun _ _ _ _ _ _ us hl=>by obtain ⟨_,rfl⟩:=us1 hl;rfl
 have aU:iy l.prog w K mg base _ _:=⟨wo lu T bL,Pp X G yU,lu.kp,yD⟩
 have FJ:Binds K sr ["picture", "y"] []:=uM.binds fun _ _ _ _ _ _ us hl=>by obtain ⟨_,_,rfl⟩:=us2 hl;rfl
 have dJ:uB l.prog w K mg base _ _:=⟨DH uM T aW,Pp X G He,uM.kp,FJ⟩
 have yX:Binds K ox ["one", "other"] []:=lp.binds fun _ _ _ _ _ _ us hl=>by obtain ⟨_,_,rfl⟩:=us2 hl;rfl
 have eR:p6 l.prog w K mg base _ _:=⟨wI lp T bL,Pp X G yo,lp.kp,yX⟩
 have zf:Binds K n6 ["row", "low", "high"] []:=lg.binds fun _ _ _ _ _ _ us hl=>by obtain ⟨_,_,_,rfl⟩:=us3 hl;rfl
 have eN:qD l.prog w K mg base _ _:=⟨wK lg T bL,Pp X G yE,lg.kp,zf⟩
 have sf:Binds K fY ["self", "picture"] []:=kL.binds fun _ _ _ _ _ _ us hl=>by obtain ⟨_,_,rfl⟩:=us2 hl;rfl
 have A_Shape:zb l.prog w K mg base _ _ _:=⟨qK kL T fL AB_Form,sf,n_Shape,M_Shape,Pp X G n_Shape⟩
 have E3:Binds K sv ["one", "other"] []:=wa.binds fun _ _ _ _ _ _ us hl=>by obtain ⟨_,_,rfl⟩:=us2 hl;rfl
 have dH:wc l.prog w K mg base _ _:=⟨EK wa T aw bv dJ,Pp X G Fq,wa.kp,E3⟩
 have JJ:Binds K C8 ["one", "other"] []:=Cn.binds fun _ _ _ _ _ _ us hl=>by obtain ⟨_,_,rfl⟩:=us2 hl;rfl
 have sE:FF l.prog w K mg base _ _:=⟨HH Cn T aU az,Pp X G JK,Cn.kp,JJ⟩
 have EN:Binds K vZ ["picture", "box", "block"] []:=rD.binds fun _ _ _ _ _ _ us hl=>by obtain ⟨_,_,_,rfl⟩:=us3 hl;rfl
 have iW:xk l.prog w K mg base _ _:=⟨Ca rD T bo aw,Pp X G D7,rD.kp,EN⟩
 have B5:Binds K sX ["one", "other"] []:=pr.binds fun _ _ _ _ _ _ us hl=>by obtain ⟨_,_,rfl⟩:=us2 hl;rfl
 have gz:vJ l.prog w K mg base _ _:=⟨Av pr T eR bv,Pp X G Cp,pr.kp,B5⟩
 have Lg:Binds K DA ["one", "other"] []:=B2.binds fun _ _ _ _ _ _ us hl=>by obtain ⟨_,_,rfl⟩:=us2 hl;rfl
 have rc:Fa l.prog w K mg base _ _:=⟨HS B2 T aw gz dJ,Pp X G KA,B2.kp,Lg⟩
 have wQ:Binds K m7 ["picture", "by"] []:=j5.binds fun _ _ _ _ _ _ us hl=>by obtain ⟨_,_,rfl⟩:=us2 hl;rfl
 have dU:nW l.prog w K mg base _ _:=⟨v8 j5 T dH fh,Pp X G wE,j5.kp,wQ⟩
 have wn:Binds K nc ["picture", "by"] []:=j7.binds fun _ _ _ _ _ _ us hl=>by obtain ⟨_,_,rfl⟩:=us2 hl;rfl
 have dS:nX l.prog w K mg base _ _:=⟨vW j7 T sE fh,Pp X G wH,j7.kp,wn⟩
 have Iv:Binds K Bc ["_law_way"] []:=yp.binds fun _ _ _ _ _ _ us hl=>by obtain ⟨_,rfl⟩:=us1 hl;rfl
 have nF:CK l.prog w K mg base _ _:=⟨GP yp T A_Box A_Shape,Pp X G IP,yp.kp,Iv⟩
 have AL:Binds K pV ["_law_cell"] []:=mQ.binds fun _ _ _ _ _ _ us hl=>by obtain ⟨_,rfl⟩:=us1 hl;rfl
 have fO:td l.prog w K mg base _ _:=⟨yJ mQ T bA A_Shape A_Box A_Cross A_Sum,Pp X G A9,mQ.kp,AL⟩
 have oZ:Binds K im ["picture", "block"] []:=fx.binds fun _ _ _ _ _ _ us hl=>by obtain ⟨_,_,rfl⟩:=us2 hl;rfl
 have bN:jt l.prog w K mg base _ _:=⟨nT fx T az dS aU,Pp X G oX,fx.kp,oZ⟩
 have oP:Binds K ip ["picture", "block"] []:=fA.binds fun _ _ _ _ _ _ us hl=>by obtain ⟨_,_,rfl⟩:=us2 hl;rfl
 have a6:jm l.prog w K mg base _ _:=⟨nR fA T aw eN dU,Pp X G oU,fA.kp,oP⟩
 have qy:Binds K iY ["picture", "blocks"] []:=f8.binds fun _ _ _ _ _ _ us hl=>by obtain ⟨_,_,rfl⟩:=us2 hl;rfl
 have bS:jV l.prog w K mg base _ _:=⟨o5 f8 T bN aU,Pp X G qU,f8.kp,qy⟩
 have p7:Binds K jl ["picture", "blocks"] []:=gq.binds fun _ _ _ _ _ _ us hl=>by obtain ⟨_,_,rfl⟩:=us2 hl;rfl
 have bR:jS l.prog w K mg base _ _:=⟨oM gq T a6 dH iW kx,Pp X G pJ,gq.kp,p7⟩
 have u5:Binds K lX ["self", "picture"] []:=dc.binds fun _ _ _ _ _ _ us hl=>by obtain ⟨_,_,rfl⟩:=us2 hl;rfl
 have eG:nl l.prog w K mg base _ _:=⟨tT dc T bS,u5,tR⟩
 have uU:Binds K g8 ["self", "picture"] []:=df.binds fun _ _ _ _ _ _ us hl=>by obtain ⟨_,_,rfl⟩:=us2 hl;rfl
 have bq:ja l.prog w K mg base _ _:=⟨tz df T bR,uU,tJ⟩
 have vp:Binds K ii ["form"] []:=jr.binds fun _ _ _ _ _ _ us hl=>by obtain ⟨_,rfl⟩:=us1 hl;rfl
 have ba:i8 l.prog w K mg base _ _:=⟨tO jr T bq,Pp X G uF,jr.kp,vp⟩
 have wt:Binds K jz ["picture", "form", "most"] []:=kg.binds fun _ _ _ _ _ _ us hl=>by obtain ⟨_,_,_,rfl⟩:=us3 hl;rfl
 have bn:ki l.prog w K mg base _ _:=⟨v7 kg T rc bq eG,Pp X G wM,kg.kp,wt⟩
 have Df:Binds K uP ["picture", "form", "most"] []:=qT.binds fun _ _ _ _ _ _ us hl=>by obtain ⟨_,_,_,rfl⟩:=us3 hl;rfl
 have uk:zO l.prog w K mg base _ _:=⟨EJ qT T ba bn,Pp X G Cy,qT.kp,Df⟩
 have iu:CD l.prog w K mg base _ _:=⟨FY qT T ba bn,Pp X G Cy,qT.kp,Df⟩
 have Hq:Binds K z9 ["_law_picture", "_law_form_here", "_law_most"] []:=yl.binds fun _ _ _ _ _ _ us hl=>by obtain ⟨_,_,_,rfl⟩:=us3 hl;rfl
 have a7:Ds l.prog w K mg base _ _:=⟨Fh yl T iu uk,Pp X G Ih,yl.kp,Hq⟩
 exact Kw Jj T av bA nF a7 fO
theorem M3 {l:OpenLaw} {q:Program} {loose:List Str} {XP:(Str -> Option Value) -> Heap -> Prop} {YP:World -> Heap -> Prop} {d:DefRec} {K:Params -> Frag} (hn:l.most = some 63) (hdf:d.params.defaults = [])
  (hY:∀ (w:World) (h:Heap),YP w h -> (K w.params).In h)
  (F:∀ (w:World) (mg:Str -> Option Value) (fa:Addr) (h:Heap),(K w.params).In h -> h.Ns mainGlobals mg -> mg d.name = some (.ref fa) ->
   ∃ fd:FuncData,(∀ (s:Shared) (u:Value),BindsTo s fd ⟨[u],[]⟩ [("_law_script",u)]) /\ ∀ base:Heap,(K w.params).In base -> base.Ns mainGlobals mg -> FnOk l.prog w (K w.params) mg base CX0 11 fa fd ["_law_script"] (yd (K w.params))) :
  WalkO q loose XP YP l.row.toRowW d [] (fun f vs=>PySem.call f vs):=
 L2.HE (n:=63) (k:=11) (x := "_law_script") (CX:=fun _=>CX0) (sp:=fun w=>yd (K w.params)) hn (by decide) hdf ⟨rfl,by decide,by decide⟩ hY F (fun _ H a ns hl _ hS=>M.EG hS (G5 ns hl)) fun _ _ _ _ _ z=>z
end Lw
open PySem PySem.W PyProof.Rows
set_option maxRecDepth 100000 in
set_option maxHeartbeats 0 in
theorem PySem.Challenge.cw_shapethin_k64_too_many_cores_holds : PySem.Challenge.rw_shapethin_k64_too_many_cores.Holds := by
 w_on;refine holds_law Hd.e2 fun said=>?_
 refine holds_open (q:=Hd.q) (XP:=XL Hd.q []) (YP:=Hook.says Hd.H) (N:=100000) Hd.e1 (Hook.of Hd.H) (Hook.keeps Hd.H) (fun s e=>xl_of s (Bool.and_eq_true_iff.mp e).1) XL.keeps (by rfl) (by rfl) (by rfl) (fun s e=>recFacts_of (Bool.and_eq_true_iff.mp e).2) (by rfl) (by assumption) (by decide +kernel) ⟨rfl,rfl,rfl,rfl,rfl,by decide +kernel⟩ ?hw ?hc
 case hw=>w_witness2
 refine Lw.M3 (l := PySem.Challenge.rw_shapethin_k64_too_many_cores) rfl rfl (fun w h Y => kIn_of Y) ?F
 case F=>
  intro w mg fa h KX G hmg
  refine' Lw.Kh KX G hmg ?x0 ?x1 ?x2 ?x3 ?x4 ?x5 ?x6 ?x7 ?x8 ?x9 ?x10 ?x11 ?x12 ?x13 ?x14 ?x15 ?x16 ?x17 ?x18 ?x19 ?x20 ?x21 ?x22 ?x23 ?x24 ?x25 ?x26 ?x27 ?x28 ?x29 ?x30 ?x31 ?x32 ?x33 ?x34 ?x35 ?x36 ?x37 ?x38 ?x39 ?x40 ?x41 ?x42 ?x43 ?x44 ?x45 ?x46 ?x47 ?x48 ?x49 ?x50 ?x51 ?x52 ?x53 ?x54 ?x55 ?x56 ?x57 ?x58 ?x59 ?x60 ?x61 ?x62 ?x63 ?x64 ?x65 ?x66 ?x67 ?x68 ?x69 ?x70 ?x71 ?x72 ?x73 ?x74 ?x75 ?x76 ?x77 ?x78 ?x79 ?x80 ?x81 ?x82 ?x83 ?x84 ?x85 ?x86 ?x87 ?x88 ?x89 ?x90 ?x91 ?x92 ?x93 ?x94 ?x95 ?x96 ?x97 ?x98 ?x99 ?x100 ?x101 ?x102 ?x103 ?x104 ?x105 ?x106 ?x107 ?x108 ?x109 ?x110 ?x111 ?x112 ?x113 ?x114 ?x115 ?x116 ?x117 ?x118 ?x119 ?x120 ?x121 ?x122 ?x123 ?x124 ?x125 ?x126 ?x127 ?x128 ?x129 ?x130 ?x131 ?x132 ?x133 ?x134 ?x135 ?x136 ?x137 ?x138 ?x139 ?x140 ?x141 ?x142 ?x143 ?x144 ?x145 ?x146 ?x147 ?x148 ?x149 ?x150 ?x151 ?x152 ?x153 ?x154 ?x155 ?x156 ?x157 ?x158 ?x159 ?x160 ?x161 ?x162 ?x163 ?x164 ?x165 ?x166 ?x167 ?x168 ?x169 ?x170 ?x171 ?x172 ?x173 ?x174 ?x175 ?x176 ?x177 ?x178 ?x179 ?x180 ?x181 ?x182 ?x183 ?x184 ?x185 ?x186 ?x187 ?x188 ?x189 ?x190 ?x191
  case x0 | x1 | x2 | x3 | x4 | x5 | x6 | x7 | x8 | x9 | x10 | x11 | x12 | x13 | x14 | x15 | x16 | x17 | x18 | x19 | x20 | x21 | x22 | x23 | x24 | x25 | x26 | x27 | x28 | x29 | x30 | x31 | x32 | x33 | x34 | x35 | x36 | x37 | x38 | x39 | x40 | x41 | x42 | x43 | x44 | x45 | x46 | x47 | x48 | x49 | x50 | x51 | x52 | x53=>k_is
  case x54 | x55 | x56 | x57 | x58 | x59 | x60 | x61 | x62 | x63 | x64 | x65 | x66 | x67 | x68 | x69 | x70 | x71 | x72 | x73 | x74 | x75 | x76 | x77 | x78 | x79 | x80 | x81 | x82 | x83 | x84 | x85 | x86 | x87 | x88 | x89 | x90 | x91 | x92 | x93 | x94 | x95=>exact L2.JC (by k_is) (by k_is) (by k_is)
  case x96 | x97 | x98 | x99 | x100 | x101 | x102 | x103 | x104 | x105 | x106 | x107 | x108 | x109 | x110 | x111 | x112 | x113 | x114 | x115 | x116 | x117 | x118 | x119 | x120 | x121 | x122 | x123 | x124 | x125 | x126 | x127 | x128 | x129 | x130 | x131 | x132 | x133 | x134 | x135 | x136 | x137 | x138 | x139 | x140 | x141 | x142 | x143 | x144 | x145 | x146 | x147=>k_is
  case x148=>k_exc
  case x149 | x150 | x151 | x152 | x153 | x154 | x155 | x156=>kit_is
  case x157=>kts_exm
  case x158 | x159 | x160 | x161 | x162 | x163=>k_is
  case x164=>k_exc
  case x165 | x166 | x167 | x168 | x169 | x170 | x171 | x172=>kit_is
  case x173=>kts_exm
  case x174 | x175 | x176 | x177 | x178 | x179 | x180 | x181 | x182 | x183 | x184 | x185 | x186 | x187 | x188 | x189 | x190 | x191=>k_is

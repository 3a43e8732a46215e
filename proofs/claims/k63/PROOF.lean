import PyProof.Rows.All
import Wide.All
import OpenK.AllK
import Wide.FinOn
import Lean
import PyProof.EqAt
import PyProof.EqKinds
import PyProof.TupleCall
import PySem.Challenge.RW_shapethin_k63_cores_layer_by_layer
set_option genSizeOf false
set_option bootstrap.genMatcherCode false
set_option compiler.extract_closed false
set_option linter.all false
set_option maxHeartbeats 4000000
set_option maxRecDepth 100000
local macro_rules | `(()) => `(by lia)
abbrev XD:=List Int
abbrev XC:=List (XD)
abbrev XB:=List PySem.Str
abbrev Xz:=List PySem.Addr
abbrev Xy:=PySem.W.Frag
abbrev Xx:=Option PySem.Value
abbrev Xw:=List PySem.Value
abbrev Xv:=PySem.Str->Option PySem.Value
abbrev Xu:=List (PySem.Addr×PySem.Obj)
abbrev Xs:=PySem.Value->PySem.Shared->Prop
def Tq:=@PySem.wpAny_bind
def Tr:=@if_neg
def Ts:=@if_pos
def Tt:=@PySem.wpAny_pure
def Tu:=@PyProof.Rows.wpS_bind
def Tv:=@List.mem_singleton
def Tw:=@List.length_map
def Tx:=@PyProof.Rows.wpS_pure
def Tz:=@List.length_append
def TB:=@Nat.le_refl
def TC:=@List.mem_map
def TD:=@List.mem_cons_self
def TF:=@List.length_cons
def TH:=@List.mem_append
def TJ:=@List.mem_cons_of_mem
def TK:=@List.mem_append_left
def TN:=@List.mem_cons
def TQ:=@List.map_cons
def TR:=@List.getElem?_eq_some_iff
def TU:=@PySem.Heap.get?_push_of_some
def TV:=@List.mem_append_right
def TW:=@PySem.Heap.lt_size
def TX:=@List.getElem?_map
def TZ:=@List.size_toArray
def T1:=@Int.le_refl
def T2:=@Nat.ne_of_lt
def T3:=@Ne.symm
def T4:=@List.length_singleton
def T5:=@List.map_map
def T6:=@Array.length_toList
def T7:=@congrArg
def T8:=@PySem.Heap.get?_push_size
def T9:=@Nat.zero_le
def Ua:=@List.getElem?_eq_getElem
def Ub:=@List.map_append
def Uc:=@decide_eq_false
def Ud:=@Nat.le_trans
def Ue:=@List.append_assoc
def Uf:=@if_false
def Ug:=@List.pairwise_append
def Uh:=@Option.some.inj
def Ui:=@List.mem_filter
def Uj:=@PySem.sizeLine_eq
def Uk:=@List.nodup_cons
def Ul:=@Nat.lt_of_lt_of_le
def Um:=@List.append_nil
def Uo:=@Array.getElem?_eq_getElem
def Uq:=@List.filterMap_cons
def Ur:=@List.pairwise_map
def Us:=@List.mem_range
def Ut:=@Nat.le_of_lt
def Uu:=@Bool.false_eq_true
def Uv:=@List.eq_nil_or_concat
def Uw:=@PySem.wpAny_holding
def Ux:=@decide_eq_true
def Uy:=@Array.getElem?_toList
def Uz:=@List.concat_eq_append
def UA:=@Nat.le_of_eq
def UB:=@PySem.wpAny_newObj_type
def UC:=@Iff.rfl
def UD:=@Prod.ext
def UE:=@if_true
def UF:=@PySem.wpAny_call_entry
def UG:=@PyProof.Rows.wpS_mono
def UH:=@PyProof.Rows.wpS_forRange
def UI:=@PyProof.Rows.wpS_modify
def UJ:=@Classical.byContradiction
def UK:=@beq_iff_eq
def UL:=@PySem.W.kia_one
def UM:=@Bool.and_eq_true
def UN:=@PyProof.Rows.wpS_get
def UO:=@of_decide_eq_false
def UP:=@PySem.wpAny_of_eq
def UQ:=@List.lookup_cons
def UR:=@List.getElem?_of_mem
def US:=@Array.map_push
def UT:=@Nat.lt_of_le_of_lt
def UU:=@Nat.add_mul
def UV:=@List.getElem?_set_ne
def UW:=@List.length_set
def UX:=@of_decide_eq_true
def UY:=@Int.toNat_natCast
def UZ:=@PySem.W.mg_none_of
def U0:=@Bool.false_ne_true
def U1:=@PySem.Heap.get?_update_self
def U5:=@List.pairwise_iff_getElem
def U6:=@List.drop_of_length_le
def U7:=@Nat.zero_add
def U8:=@List.length_eq_zero_iff
def U9:=@PySem.typeLookup_type
def Va:=@PySem.builtinLookup_eq_fast
def Vb:=@PySem.isSubtype_type
def Vc:=@Array.getElem?_eq_some_iff
def Vd:=@PySem.Obj.data_mapFields
def Ve:=@List.pairwise_cons
def Vf:=@List.length_filter_le
def Vg:=@List.sum_cons
def Vh:=@PySem.wpAny_mono
def Vi:=@List.mem_of_getElem?
def Vj:=@PySem.wpAny_callSpecial?_slot
def Vk:=@Array.toList_append
def Vl:=@PySem.wpAny_rule
def Vm:=@Array.map_reverse
def Vn:=@List.getElem?_eq_none_iff
def Vo:=@PySem.wpAny_setState_of
def Vp:=@Nat.mul_le_mul_right
def Vq:=@PySem.PassesOwn.never
def Vr:=@PySem.wpAny_Call_Name_kw
def Vs:=@List.getElem?_append_right
def Vt:=@PySem.wpAny_field
def Vu:=@PySem.wpAny_attempt
def Vv:=@List.pairwise_singleton
def Vw:=@Array.toList_push
def Vx:=@List.foldl_cons
def Vy:=@List.getElem_of_mem
def Vz:=@List.getD_eq_getElem?_getD
def VA:=@List.nodup_append
def VB:=@Nat.succ_pos
def VC:=@List.nil_append
def VD:=@PySem.wpAny_setField
def VE:=@List.length_range
def VF:=@PySem.F.called_set
def VG:=@List.length_range'
def VH:=@PySem.wpAny_passesOwn
def VI:=@PyProof.Rows.callWith_type1
def VJ:=@List.mem_filterMap
def VL:=@PySem.Heap.size_push
def VM:=@Nat.lt_succ_self
def VN:=@List.length_take
def VO:=@List.getElem?_append_left
def VP:=@List.find?_cons
def VQ:=@PySem.Paired.length
def VR:=@Nat.lt_irrefl
def VS:=@List.getElem?_set_self
def VT:=@PySem.codeAny_mono
def VU:=@PySem.mem_of_lookup
def VV:=@PyProof.Rows.slot_tuple_getitem
def VW:=@List.map_nil
def VX:=@List.all_eq_true
def VY:=@Nat.lt_succ_of_lt
def VZ:=@Array.perm_iff_toList_perm
def V0:=@List.getElem_mem
def V1:=@List.drop_eq_getElem_cons
def V2:=@List.ext_getElem?
def V3:=@PySem.Heap.get?_update_ne
def V4:=@PySem.Heap.SameBut.update
def V5:=@Bool.not_true
def V6:=@List.length_nil
def V7:=@Nat.mod_lt
def V8:=@PySem.wpAny_fieldsOf
def V9:=@Nat.not_lt_zero
def Wa:=@PySem.codeAny_builtin
def Wb:=@beq_eq_false_iff_ne
def Wc:=@PySem.wpAny_truthy_bool
def Wd:=@Nat.ne_of_gt
def We:=@Nat.le_succ
def Wf:=@PySem.wpAny_typeOf
def Wg:=@PySem.Heap.get?_update_other
def Wh:=@Nat.le_of_not_lt
def Wi:=@Array.toList_extract
def Wj:=@List.extract_eq_take_drop
def Wk:=@List.getElem?_drop
def Wl:=@List.take_of_length_le
def Wm:=@List.zip_cons_cons
def Wn:=@List.getElem?_cons_succ
def Wo:=@PySem.wpAny_specialOf
def Wp:=@PySem.Obj.isFreed_of_fields
def Wq:=@PySem.wpAny_isInstance
def Wr:=@List.map_congr_left
def Ws:=@Nat.le_of_lt_succ
def Wt:=@List.nodup_iff_pairwise_ne
def Wu:=@Array.size_extract
def Wv:=@PySem.F.slot_dict_keyiterator_next
def Ww:=@PySem.Around.under_plainId
def Wx:=@PySem.wpAny_askSetting
def Wy:=@List.foldl_append
def Wz:=@Nat.mul_le_mul_left
def WA:=@Prod.mk.inj
def WB:=@Classical.skolem
def WC:=@PySem.F.plainAttrs_list
def WD:=@PySem.wpAny_execs_nil
def WE:=@Option.isSome_iff_exists
def WF:=@List.reverse_cons
def WG:=@List.take_append_drop
def WH:=@List.getElem?_take
def WI:=@Array.size_map
def WJ:=@List.mem_reverse
def WK:=@PySem.Obj.cls_mapFields
def WL:=@PySem.wpAny_pyIter_slot
def WM:=@List.find?_eq_none
def WN:=@Array.getD_eq_getD_getElem?
def WO:=@List.nodup_range
def WP:=@PySem.wpAny_dictEntries
def WQ:=@PySem.wpAny_typeNameOfWhole_keyiter
def WR:=@PySem.wpAny_typeNameOf_keyiter
def WS:=@List.filter_cons
def WT:=@List.length_flatMap
def WU:=@Int.natCast_add
def WV:=@PySem.wpAny_pyNext_range_end
def WW:=@PySem.wpAny_pyIter_rangeiter
def WX:=@List.length_replicate
def WY:=@PyProof.Rows.callWith_builtin1
def WZ:=@PySem.F.slot_tuple_add
def W0:=@PySem.F.entry_tuple_add
def W1:=@PySem.F.args_tuple_add_2
def W2:=@List.Perm.append_left
def W3:=@List.pairwise_reverse
def W4:=@PySem.Calls.call_function_entry
def W5:=@List.getElem?_reverse
def W6:=@List.contains_iff_mem
def W7:=@List.mem_erase_of_ne
def W8:=@List.length_erase_of_mem
def W9:=@PySem.wpAny_isOneOf_keyiter
def Xa:=@Array.getElem?_eq_none
def Xb:=@Bool.and_eq_true_iff
def Xd:=@List.getElem?_toArray
def Xf:=@List.mem_of_find?_eq_some
def Xg:=@PyProof.Rows.F.plain_set_update_loop
def Xh:=@List.getElem?_eq_none
def Xi:=@List.Pairwise.filter
def Xj:=@decide_eq_false_iff_not
def Xk:=@List.exists_cons_of_ne_nil
def Xn:=@List.contains_eq_mem
namespace Hd
open PySem PySem.W PySem.Calls PyProof.Rows
noncomputable def HY (stp:SharedT->Thread->Option (SharedT×Thread))(ok:Thread->Bool):Nat->SharedT->Thread->Option SharedT
 |0,_,_=>none
 |n+1,s,t=>match through t with
  |true=>some s
  |false=>match ok t with
   |false=>none
   |true=>match stp s t with
    |some (s',t')=>HY stp ok n s' t'
    |none=>none
theorem wI {tb:String->Option Builtin}   {n₀:Nat}  : ∀(n:Nat) (s:SharedT) (t:Thread) (r:SharedT),HY (stepT (denote tb) p w) (stepOk n₀ ann) n s t=some r->topRun tb p w n₀ ann n s.abs t=some r.abs
 |0,_,_,_,h=>by cases h
 |n+1,s,t,r,h=>by
  unfold HY at h;unfold topRun;cases ht:through t with
  |true=>rw[ht] at h;cases h;rfl
  |false=>
   rw[ht] at h;cases hk:stepOk n₀ ann t with
   |false=>rw[hk] at h;cases h
   |true=>
    rw[hk] at h;cases hs:stepT (denote tb) p w s t with
    |none=>rw[hs] at h;cases h
    |some x=>obtain⟨s',t'⟩:=x;rw[hs] at h;rw[stepT_spec hs];exact wI n s' t' r h
noncomputable def IH:List Obj->Nat->BT->BT
 |[],_,t=>t
 |o::l,n,t=>IH l (n+1) (t.ins n o)
noncomputable def T0 (P:Params):BT:=IH (boot_heap P).objs.toList 0 .nil
def Ob (P:Params):absHeap (T0 P) 11 (boot_heap P).life=boot_heap P:=by kernel_rfl
def sz (P:Params):((boot_heap P).isNs mainGlobals,(boot_heap P).objs.size,(boot_heap P).nsMap mainGlobals "__annotations__")=(true,11,some (.ref 6)):=by kernel_rfl
noncomputable def S0 (w:World)(os:OsState):SharedT:=⟨T0 w.params,11,(boot_heap w.params).life,Array.mk [],boot_drawn,boot_toks,os⟩
def JV    {α:Type}{Yf:Shared->α}{Ya:World->α}{N M:Nat}{g0:Bool}
  (open_:∀w:World,(fencedOpening treeTable p w N).map (fun s=>(s.heap,s.gens,s.drawn,s.toks))=some (boot_heap w.params,Array.mk [],boot_drawn,boot_toks)) (le:Nat.ble M N=true)
  (big:∀w:World,(fun os=>(HY (stepT (denote treeTable) p w) (stepOk 11 (some (.ref 6))) M (S0 w os) (topStub p)).map fun r=>((staticsOk (importedModules p.main.body) (boot_heap w.params) r.abs.heap&&namesBound p r.abs.heap&&gensDone r.abs&&laidKept (boot_heap w.params) r.abs.heap),
    openSeen q loose (importedModules p.main.body) Xt g0 r.abs,Yf r.abs))=fun _=>some (true,openGood q loose,Ya w)):LeftO p q loose Xt Yf Ya N g0:=fun w=>by
 obtain⟨⟨h,gs,d,k,os⟩,e,e'⟩:=Option.map_eq_some_iff.mp (open_ w);obtain⟨rfl,rfl,rfl,rfl⟩:h=boot_heap w.params/\gs=Array.mk []/\d=boot_drawn/\k=boot_toks:=by simpa using e'
 obtain⟨z1,z2,z3⟩:_/\_/\_:=by simpa only[Prod.mk.injEq] using sz w.params
 obtain⟨r,hr,hb⟩:=Option.map_eq_some_iff.mp (congrFun (big w) os);obtain⟨l1,l2,l3⟩:_/\_/\_:=by simpa only[Prod.mk.injEq] using hb
 have ha:(S0 w os).abs=⟨boot_heap w.params,Array.mk [],boot_drawn,boot_toks,os⟩:=by unfold S0 SharedT.abs;dsimp only;rw[Ob]
 have t:=topRun_mono (N-M) _ _ _ _ (wI _ _ _ _ hr);rw[show M+(N-M)=N by have:=Nat.le_of_ble_eq_true le;lia,ha] at t;have t2:topFrom treeTable p w N ⟨boot_heap w.params,Array.mk [],boot_drawn,boot_toks,os⟩=some r.abs:=by unfold topFrom;dsimp only;rw[z1,z2,z3,t];show (match staticsOk (importedModules p.main.body) (boot_heap w.params) r.abs.heap&&namesBound p r.abs.heap&&gensDone r.abs&&laidKept (boot_heap w.params) r.abs.heap with|true=>_|false=>_)=_;rw[l1]
 unfold openEnds;rw[e];show (topFrom treeTable p w N _).map _=_;rw[t2];exact T7 some (UD l2 l3)
def JW    {α:Type}{Yf:Shared->α}{Ya:World->α}{g0:Bool}
  (open_:∀w:World,(fencedOpening treeTable p w 100000).map (fun s=>(s.heap,s.gens,s.drawn,s.toks))=some (boot_heap w.params,Array.mk [],boot_drawn,boot_toks))
  (big:∀w:World,(fun os=>(HY (Fast.tw10156331382660048174 (Fast.tw11892475500146522536 Fast.tw14364793385576792824) p w) (Fast.tw6613529449190102663 11 (some (.ref 6))) 100000 (S0 w os) (topStub p)).map fun r=>((staticsOk (Fast.tw5923862056798008813 p.main.body) (boot_heap w.params) r.abs.heap&&namesBound p r.abs.heap&&gensDone r.abs&&laidKept (boot_heap w.params) r.abs.heap),
    Fast.tw4187177175401517315 q loose (Fast.tw5923862056798008813 p.main.body) Xt g0 r.abs,Yf r.abs))=fun _=>some (true,openGood q loose,Ya w)):LeftO p q loose Xt Yf Ya 100000 g0:=by
 rw[<- Fast.te10156331382660048174,<- Fast.te11892475500146522536,<- Fast.te14364793385576792824,<- Fast.te6613529449190102663,<- Fast.te5923862056798008813,<- Fast.te4187177175401517315] at big;exact JV open_ rfl big
def KB  (h:Fast.tw9446332074065402090 l=true):l.wellSaid=true:=by rw[Fast.te9446332074065402090];exact h
end Hd
set_option Elab.async false
section
open PySem PySem.W PyProof.Rows
noncomputable def Hd.q : Program := view PySem.Challenge.pw_shapethin_k63_cores_layer_by_layer [0, 2, 3, 4, 6, 7, 8, 9, 10, 11, 12, 14, 15, 16, 17, 18, 19, 20, 21, 22, 24, 25, 26, 27, 28, 29, 30, 31, 32, 33, 34, 35, 37, 38, 39, 41, 42, 43, 44, 45, 46, 47, 48, 49]
local macro_rules | `(tactic| o_head $_)=>`(tactic| assumption)
set_option maxHeartbeats 0 in
theorem Hd.e0 : PySem.Challenge.rw_shapethin_k63_cores_layer_by_layer.row.Holds -> PySem.Challenge.rw_shapethin_k63_cores_layer_by_layer.row.Holds := by intro h; w_on; k_head
noncomputable def Hd.as:Xz:=(Hd.e0.heap_1 { strHash:=fun _=>0,shareClass:=fun _=>0,mergeTok:=id,idOf:=fun _=>0,idOfShared:=fun _ _=>0,followText:=fun _=>true,idOfImm:=fun _=>0 }).map (·.1)
def Hd.ae (P:Params):Hd.as=(Hd.e0.heap_1 P).map (·.1):=by kernel_rfl
noncomputable abbrev Hd.H:Hook:=kHook Hd.e0.heap_1 Hd.as Hd.ae
set_option maxHeartbeats 0 in
theorem Hd.e1 : LeftO PySem.Challenge.rw_shapethin_k63_cores_layer_by_layer.row.prog Hd.q [] (fun s => xlAt Hd.q [] s && recOk (RowW.records (OpenRow.toRowW (OpenLaw.row PySem.Challenge.rw_shapethin_k63_cores_layer_by_layer))) s) (Hook.obs Hd.H) (Hook.val Hd.H) 100000 := Hd.JW (boot_open (by rfl) rfl (fun s => rfl)) (by intro w; kernel_rfl)
set_option maxHeartbeats 0 in
theorem Hd.e2 : PySem.Challenge.rw_shapethin_k63_cores_layer_by_layer.wellSaid = true := Hd.KB (by kernel_rfl)
end
set_option Elab.async false
set_option linter.all false
set_option maxRecDepth 100000
namespace L2
open PySem PySem.Spec PyProof.Rows
noncomputable abbrev Key:=Sum Int Str
noncomputable def wo:Key->Value->Bool
 |.inl k,v=>Value.isInt k v
 |.inr x,v=>Value.isStrOf x v
noncomputable def QC (w:World):Key->Int
 |.inl k=>hashInt k
 |.inr x=>hashStr w x
def bX:∀ {k:Key} {v:Value},wo k v=true->(∃i t,k=Sum.inl i/\v=Value.int i t)\/(∃x t,k=Sum.inr x/\v=Value.str x t)
 |.inl i,v,h=>by
  obtain⟨t,e⟩:=Value.isInt_shape (k:=i) (v:=v) h;exact .inl ⟨i,t,rfl,e⟩
 |.inr x,v,h=>by obtain⟨t,e⟩:=Value.isStrOf_shape (x:=x) (v:=v) h;exact .inr ⟨x,t,rfl,e⟩
def EC (i:Int)(t:Tok):wo (.inl i) (.int i t)=true:=by simp[wo,Value.isInt]
def ED (x:Str)(t:Tok):wo (.inr x) (.str x t)=true:=by simp[wo,Value.isStrOf]
def Mr (a b:Int):decide ((Sum.inl a:Key)=Sum.inl b)=(a==b):=by
 by_cases e:a=b
 ·subst e;simp
 ·have h:¬(Sum.inl a:Key)=Sum.inl b:=fun q=>e (Sum.inl.inj q);rw[Uc h];exact (Wb.mpr e).symm
def Mv (a b:Str):decide ((Sum.inr a:Key)=Sum.inr b)=decide (a=b):=by
 by_cases e:a=b
 ·subst e;simp
 ·have h:¬(Sum.inr a:Key)=Sum.inr b:=fun q=>e (Sum.inr.inj q);rw[Uc h,Uc e]
def Ms (a:Int)(b:Str):decide ((Sum.inl a:Key)=Sum.inr b)=false:=Uc (fun q=>nomatch q)
def Mu (a:Str)(b:Int):decide ((Sum.inr a:Key)=Sum.inl b)=false:=Uc (fun q=>nomatch q)
noncomputable def cn (prog:Program)(w:World):PySem.KeyKind prog w Key where
 is:=wo
 hash:=QC w
 inj:=fun v a b ha hb=>by
  rcases bX ha with ⟨i,t,rfl,rfl⟩|⟨x,t,rfl,rfl⟩
  ·rcases bX hb with ⟨j,u,rfl,e⟩|⟨y,u,rfl,e⟩
   ·injection e with e1 _;rw[e1]
   ·exact nomatch e
  ·rcases bX hb with ⟨j,u,rfl,e⟩|⟨y,u,rfl,e⟩
   ·exact nomatch e
   ·injection e with e1 _;rw[e1]
 byValue:=fun k v h=>by rcases bX h with ⟨i,t,rfl,rfl⟩|⟨x,t,rfl,rfl⟩<;>rfl
 pyHash:=fun hv h=>by
  rcases bX hv with ⟨i,t,rfl,rfl⟩|⟨x,t,rfl,rfl⟩
  ·exact wpAny_pyHash_int h
  ·exact wpAny_pyHash_str h
 eqBool:=fun hu hv h=>by
  rcases bX hu with ⟨i,t,rfl,rfl⟩|⟨x,t,rfl,rfl⟩
  ·rcases bX hv with ⟨j,u,rfl,rfl⟩|⟨y,u,rfl,rfl⟩
   ·rw[Mr] at h;exact wpAny_eqBool_int h
   ·rw[Ms] at h;exact SeqAt.EqAt.int_str i t y u _ _ _ _ h
  ·rcases bX hv with ⟨j,u,rfl,rfl⟩|⟨y,u,rfl,rfl⟩
   ·rw[Mu] at h;exact SeqAt.EqAt.str_int x t j u _ _ _ _ h
   ·rw[Mv] at h;exact wpAny_eqBool_str h
 «strs»:=fun k x t v h=>by
  rcases bX h with ⟨i,u,rfl,e⟩|⟨y,u,rfl,e⟩
  ·exact nomatch e
  ·injection e with e1 _
   subst e1;cases v<;>rfl
def zE (prog:Program)(w:World)(i:Int)(t:Tok):(cn prog w).is (.inl i) (.int i t)=true:=EC i t
def zF (prog:Program)(w:World)(x:Str)(t:Tok):(cn prog w).is (.inr x) (.str x t)=true:=ED x t
inductive V where
 |non|bl (b:Bool)|int (i:Int)|str (x:Str)|byt (b:Array UInt8)|flt (b:UInt64)|ref (a:Addr)|ty (n:String)
 deriving DecidableEq
abbrev Xo:=List V
noncomputable def RelV:V->Value->Prop
 |.non,u=>u=Value.none
 |.bl b,u=>u=Value.bool b
 |.int i,u=>∃t,u=Value.int i t
 |.str x,u=>∃t,u=Value.str x t
 |.byt b,u=>∃t,u=Value.bytes b t
 |.flt b,u=>∃t,u=Value.float b t
 |.ref a,u=>u=Value.ref a
 |.ty n,u=>u=Value.type n
noncomputable abbrev Vals:Xo->Xw->Prop:=Paired RelV
theorem Vals.length {xs:Xo}{us:Xw}(r:Vals xs us):xs.length=us.length:=VQ r
theorem Vals.get:∀ {xs:Xo} {us:Xw} {i:Nat} {x:V},Vals xs us->xs[i]?=some x->∃u,us[i]?=some u/\RelV x u
 |_,_,_,_,.nil,e=>by simp at e
 |_,_,0,_,.cons r _,e=>by simp at e;subst e;exact⟨_,rfl,r⟩
 |_,_,i+1,x,.cons _ t,e=>by obtain⟨u,h1,h2⟩:=Vals.get (i:=i) (x:=x) t (by simpa using e);exact⟨u,by simpa using h1,h2⟩
theorem Vals.set {x:V}{u:Value}(r:RelV x u):∀ {xs:Xo} {us:Xw} (i:Nat),Vals xs us->Vals (xs.set i x) (us.set i u)
 |_,_,_,.nil=>.nil
 |_,_,0,.cons _ t=>.cons r t
 |_,_,i+1,.cons q t=>.cons q (Vals.set r i t)
theorem Vals.append:∀ {xs ys:Xo} {us ws:Xw},Vals xs us->Vals ys ws->Vals (xs++ys) (us++ws)
 |_,_,_,_,.nil,s=>s
 |_,_,_,_,.cons r t,s=>.cons r (Vals.append t s)
theorem Vals.take:∀ {xs:Xo} {us:Xw} (n:Nat),Vals xs us->Vals (xs.take n) (us.take n)
 |_,_,0,_=>.nil
 |_,_,_+1,.nil=>.nil
 |_,_,n+1,.cons r t=>.cons r (Vals.take n t)
theorem Vals.drop:∀ {xs:Xo} {us:Xw} (n:Nat),Vals xs us->Vals (xs.drop n) (us.drop n)
 |_,_,0,r=>r
 |_,_,_+1,.nil=>.nil
 |_,_,n+1,.cons _ t=>Vals.drop n t
noncomputable def RelO:Option V->Xx->Prop
 |some v,some u=>RelV v u
 |none,none=>True
 |_,_=>False
noncomputable def KV {κ:Type}:List (κ×V)->List (κ×Value)->Prop:=Paired fun (p:κ×V) (q:κ×Value)=>p.1=q.1/\RelV p.2 q.2
noncomputable def kV:Key->V
 |.inl i=>.int i
 |.inr x=>.str x
inductive HO where
  |lst (xs:Xo)
  |tup (xs:Xo)
  |dK (kvs:List (Key×V))|dT (kvs:List (List Key×V))
  |set (S:Int->Bool) (n:Nat)
  |ins (C dx:Addr) (fs:List (Str×V))
  |own (x:Addr)
  |xd (fs:List (Str×V))
  |met (f x:Addr)
  |rng (lo hi:Int)
  |frz (o:Obj) (u:HO)
  |tbl (ps:Array Value)
  |ext (φ:Heap->Prop)
noncomputable abbrev Hp:=Addr->Option HO
noncomputable def upd (H:Hp)(a:Addr)(o:HO):Hp:=fun b=>if b=a then some o else H b
def ar:upd H a o a=some o:=by unfold upd;rw[Ts rfl]
def av  {a b:Addr}  (h:b≠a):upd H a o b=H b:=by unfold upd;rw[Tr h]
def Li {H:Hp}{a b:Addr}{o u:HO}(h:H a=some o)(h':H b=some u)(d:o≠u):a≠b:=by intro e;subst e;rw[h] at h';exact d (Uh h')
def aP {H:Hp}{a b:Addr}{o:HO}(h:H a=some o)(h':H b=none):a≠b:=by intro e;subst e;rw[h] at h';cases h'
section
variable (P:Program)(w:World)
noncomputable def ObjOk (H:Hp)(h:Heap)(a:Addr):HO->Prop
 |.lst xs=>xs.length<=sizeLine/\∃(its:Xw) (n:Nat),Vals xs its/\h.get? a=some { cls:=.type "list",data:=.seq its.toArray n }
 |.tup xs=>xs.length<=sizeLine/\∃its:Xw,Vals xs its/\IsTup h a its.toArray
 |.dK kvs=>kvs.length<=sizeLine/\(a==sysModules)=false/\∃vs,KV kvs vs/\h.DictOf (cn P w) a vs
 |.dT kvs=>kvs.length<=sizeLine/\(a==sysModules)=false/\∃xs:List (List Key×Addr×Value),
   Paired (fun (p:List Key×V) (q:List Key×Addr×Value)=>p.1=q.1/\H q.2.1=some (.tup (p.1.map kV))/\RelV p.2 q.2.2) kvs xs /\
   ∃o es ep,h.get? a=some o/\o.ExactDict/\o.data = .dict es ep/\es.toList=xs.map (entryOfKey (tupleKind (cn P w)))/\(xs.map (·.1)).Nodup
 |.set S n=>h.SetOf (intKind P w) a S n
 |.ins C dx fs=>H dx=some (.own a)/\fs.length<=1000/\dx≠a/\h.get? a=some (W.instObj C dx) /\
   ∃mA,h.Ns1 dx mA/\(∀f,RelO (fs.lookup f) (mA f))/\PySem.Within mA (fs.map (·.1))
 |.own _=>∃o,h.get? a=some o
 |.xd fs=>∃mA,h.Ns1 a mA/\∀f,RelO (fs.lookup f) (mA f)
 |.rng lo hi=>∃t u v,h.get? a=some { cls:=.type "range",data:=.fields #[.int lo t,.int hi u,.int 1 v] }
 |.frz o u=>h.get? a=some o/\ObjOk H h a u
 |.tbl ps=>h.get? a=some { cls:=.none,data:=.fields ps }
 |.met f x=>h.get? a=some (W.methodObj (.ref f) (.ref x))
 |.ext φ=>φ h/\(∃o,h.get? a=some o)/\∀h1 h2:Heap,φ h1->(∀o,h1.get? a=some o->h2.get? a=some o)->φ h2
def HOk (H:Hp)(h:Heap):Prop:=∀a o,H a=some o->ObjOk P w H h a o
end
section
variable {P:Program}{w:World}{H H':Hp}{h h':Heap}{a:Addr}{o:HO}
theorem ObjOk.lt (x:ObjOk P w H h a o):a<h.objs.size:=by
 cases o with
 |lst xs=>obtain⟨_,_,_,_,e⟩:=x;exact TW e
 |tup xs=>obtain⟨_,_,_,p⟩:=x;exact p.lt
 |dK kvs=>obtain⟨_,_,_,_,o,_,_,e,_⟩:=x;exact TW e
 |dT kvs=>obtain⟨_,_,_,_,o,_,_,e,_⟩:=x;exact TW e
 |set S n=>obtain⟨o,_,_,_,e,_⟩:=x;exact TW e
 |ins C dx fs=>obtain⟨_,_,_,e,_⟩:=x;exact TW e
 |own y=>obtain⟨_,e⟩:=x;exact TW e
 |xd fs=>obtain⟨_,⟨_,_,_,e,_⟩,_⟩:=x;exact TW e
 |rng lo hi=>obtain⟨_,_,_,e⟩:=x;exact TW e
 |frz ob u=>obtain⟨e,_⟩:=x;exact TW e
 |tbl ps=>exact TW (show h.get? a=some _ from x)
 |met f y=>exact TW (show h.get? a=some _ from x)
 |ext φ=>obtain⟨_,⟨_,e⟩,_⟩:=x;exact TW e
theorem Paired.mapP {α β:Type}{F G:α->β->Prop}:∀ {l₁:List α} {l₂:List β},Paired F l₁ l₂->(∀a b,F a b->G a b)->Paired G l₁ l₂
 |_,_,.nil,_=>.nil
 |_,_,.cons r t,f=>.cons (f _ _ r) (Paired.mapP t f)
def ObjOk.stay (x:ObjOk P w H h a o)(k:∀b u,(b=a\/H b=some (.own a))->h.get? b=some u->h'.get? b=some u)
  (ho:∀b,H b=some (.own a)->H' b=some (.own a)) (ht:∀b xs,H b=some (.tup xs)->H' b=some (.tup xs)):ObjOk P w H' h' a o:=by
 induction o with
 |lst xs=>obtain⟨z,its,n,r,e⟩:=x;exact⟨z,its,n,r,k _ _ (.inl rfl) e⟩
 |tup xs=>obtain⟨z,its,r,ob,e,c⟩:=x;exact⟨z,its,r,ob,k _ _ (.inl rfl) e,c⟩
 |dK kvs=>obtain⟨z,y,vs,r,ob,es,ep,e,c⟩:=x;exact⟨z,y,vs,r,ob,es,ep,k _ _ (.inl rfl) e,c⟩
 |dT kvs=>
  obtain⟨z,y,xs,r,ob,es,ep,e,c⟩:=x;exact⟨z,y,xs,Paired.mapP r fun p q z=>⟨z.1,ht _ _ z.2.1,z.2.2⟩,ob,es,ep,k _ _ (.inl rfl) e,c⟩
 |set S n=>obtain⟨ob,es,ep,t,e,c⟩:=x;exact⟨ob,es,ep,t,k _ _ (.inl rfl) e,c⟩
 |ins C dx fs=>
  obtain⟨d,z,ne,e,mA,⟨od,es,ep,e2,c⟩,r⟩:=x;exact⟨ho _ d,z,ne,k _ _ (.inl rfl) e,mA,⟨od,es,ep,k _ _ (.inr d) e2,c⟩,r⟩
 |own y=>obtain⟨ob,e⟩:=x;exact⟨ob,k _ _ (.inl rfl) e⟩
 |xd fs=>obtain⟨mA,⟨od,es,ep,e,c⟩,r⟩:=x;exact⟨mA,⟨od,es,ep,k _ _ (.inl rfl) e,c⟩,r⟩
 |rng lo hi=>obtain⟨t,u,v,e⟩:=x;exact⟨t,u,v,k _ _ (.inl rfl) e⟩
 |frz ob u ih=>obtain⟨e,q⟩:=x;exact⟨k _ _ (.inl rfl) e,ih q⟩
 |tbl ps=>
  have e:h.get? a=some { cls:=.none,data:=.fields ps }:=x;show h'.get? a=some { cls:=.none,data:=.fields ps };exact k a _ (.inl rfl) e
 |met f y=>
  have e:h.get? a=some (W.methodObj (.ref f) (.ref y)):=x;show h'.get? a=some (W.methodObj (.ref f) (.ref y));exact k a _ (.inl rfl) e
 |ext φ=>obtain⟨p,⟨o,e⟩,st⟩:=x;exact⟨st _ _ p fun o q=>k _ _ (.inl rfl) q,⟨o,k _ _ (.inl rfl) e⟩,st⟩
theorem HOk.lt (x:HOk P w H h)(e:H a=some o):a<h.objs.size:=(x a o e).lt
def HOk.fresh (x:HOk P w H h)(e:h.objs.size<=a):H a=none:=by
 cases q:H a with
 |none=>rfl
 |some u=>exact absurd (Ul (x.lt q) e) (VR _)
def HOk.kept (x:HOk P w H h)(k:∀b u,h.get? b=some u->h'.get? b=some u):HOk P w H h':=fun a o e=>
 (x a o e).stay (fun b u _ q=>k b u q) (fun _ q=>q) fun _ _ q=>q
def HOk.laid (x:HOk P w H h)(k:∀b u,h.get? b=some u->h'.get? b=some u)(hp:h.objs.size<=a)(new:ObjOk P w (upd H a o) h' a o):HOk P w (upd H a o) h':=fun b u e=>by
 have hn:=x.fresh hp;by_cases hb:b=a
 ·subst hb;rw[ar] at e;cases e;exact new
 ·rw[av hb] at e;exact (x b u e).stay (fun c v _ q=>k c v q) (fun c q=>by rw[av (aP q hn)];exact q) fun c xs q=>by rw[av (aP q hn)];exact q
end
def Rd (H:Hp)(a:Addr)(u:HO):Prop:=H a=some u\/∃o,H a=some (.frz o u)
def Rd.ok {P:Program}{w:World}{H:Hp}{h:Heap}{a:Addr}{u:HO}(r:Rd H a u)(x:HOk P w H h):ObjOk P w H h a u:=by
 rcases r with r|⟨o,r⟩
 ·exact x a u r
 ·obtain⟨_,q⟩:=x a _ r;exact q
noncomputable def Mut:Option HO->Prop
 |some (.lst _)=>True
 |some (.dK _)=>True
 |some (.dT _)=>True
 |some (.set _ _)=>True
 |some (.ins _ _ _)=>True
 |some (.ext _)=>True
 |_=>False
section
variable {P:Program}{w:World}{H:Hp}{h h':Heap}{x e:Addr}{o':HO}
def HOk.write (ok:HOk P w H h)(mu:Mut (H x))(he:e=x\/H e=some (.own x))(k:∀b u,b≠e->h.get? b=some u->h'.get? b=some u)(heo:∃u,h'.get? e=some u)
  (new:ObjOk P w (upd H x o') h' x o'):HOk P w (upd H x o') h':=fun b u q=>by
 have nown:∀c y,H c=some (.own y)->c≠x:=fun c y r z=>by subst z;rw[r] at mu;exact mu
 have ntup:∀c xs,H c=some (.tup xs)->c≠x:=fun c xs r z=>by subst z;rw[r] at mu;exact mu
 by_cases hb:b=x
 ·subst hb;rw[ar] at q;cases q;exact new
 ·rw[av hb] at q;by_cases hbe:b=e
  ·have q':H b=some (.own x):=by
    rcases he with z|z
    ·exact absurd (hbe.trans z) hb
    ·rw[hbe];exact z
   rw[q] at q';cases q';obtain⟨v,hv⟩:=heo;exact⟨v,by rw[hbe];exact hv⟩
  ·refine (ok b u q).stay (fun c v hc r=>k c v ?_ r) (fun c r=>by rw[av (nown c b r)];exact r) fun c xs r=>by rw[av (ntup c xs r)];exact r
   rcases hc with rfl|hc
   ·exact hbe
   ·rintro rfl;rcases he with z|z
    ·exact nown c b hc z
    ·rw[hc] at z;cases z;exact hb rfl
end
structure Un (fs ex:Xz) (H H':Hp) (h h':Heap):Prop where
 keep:∀b o,h.get? b=some o->H b=none->b∉fs->b∉ex->h'.get? b=some o
 slot:∀b o,h.get? b=some o->H b=none->b∈fs->b∉ex->∃sl,h'.get? b=some { o with slots:=sl }
 free:∀b o,h.get? b=some o->H b=none->b∉ex->H' b=none
 there:∀b o,h.get? b=some o->b∉ex->∃o',h'.get? b=some o'
 tups:∀b xs,H b=some (.tup xs)->H' b=some (.tup xs)
 frzs:∀b o u,H b=some (.frz o u)->H' b=some (.frz o u)
 tbls:∀b ps,H b=some (.tbl ps)->∃more,H' b=some (.tbl (ps++more))
section
variable {fs fs' ex ex':Xz}{H H1 H2:Hp}{h h1 h2 h':Heap}{a x e:Addr}{o:HO}
def Un.any (u:Un fs ex H H1 h h1)  {ob:Obj}(q:h.get? b=some ob)(n:H b=none)(hx:b∉ex):∃sl,h1.get? b=some { ob with slots:=sl }:=by
 by_cases hb:b∈fs
 ·exact u.slot b ob q n hb hx
 ·exact⟨ob.slots,u.keep b ob q n hb hx⟩
def Un.trans (a:Un fs ex H H1 h h1)(b:Un fs ex H1 H2 h1 h2):Un fs ex H H2 h h2 where
 keep:=fun c ob q n hc hx=>b.keep c ob (a.keep c ob q n hc hx) (a.free c ob q n hx) hc hx
 slot:=fun c ob q n hc hx=>by obtain⟨sl,e1⟩:=a.slot c ob q n hc hx;obtain⟨sl',e2⟩:=b.slot c _ e1 (a.free c ob q n hx) hc hx;exact⟨sl',e2⟩
 free:=fun c ob q n hx=>by obtain⟨o',e1⟩:=a.there c ob q hx;exact b.free c o' e1 (a.free c ob q n hx) hx
 there:=fun c ob q hx=>by obtain⟨o',e1⟩:=a.there c ob q hx;exact b.there c o' e1 hx
 tups:=fun c xs q=>b.tups c xs (a.tups c xs q)
 frzs:=fun c ob xs q=>b.frzs c ob xs (a.frzs c ob xs q)
 tbls:=fun c ps q=>by obtain⟨m1,e1⟩:=a.tbls c ps q;obtain⟨m2,e2⟩:=b.tbls c _ e1;exact⟨m1++m2,by rw[e2,Array.append_assoc]⟩
def Un.kept (k:∀b u,h.get? b=some u->h'.get? b=some u):Un fs ex H H h h':=
 ⟨fun b ob q _ _ _=>k b ob q,fun b ob q _ _ _=>⟨ob.slots,k b ob q⟩,fun _ _ _ n _=>n,fun b ob q _=>⟨ob,k b ob q⟩,fun _ _ q=>q,fun _ _ _ q=>q,fun _ ps q=>⟨#[],by rw[q];simp⟩⟩
def Un.refl:Un fs ex H H h h:=Un.kept fun _ _ q=>q
def Un.laid (k:∀b u,h.get? b=some u->h'.get? b=some u)(hp:h.objs.size<=a)(hn:H a=none):Un fs ex H (upd H a o) h h' where
 keep:=fun b u q _ _ _=>k b u q
 slot:=fun b u q _ _ _=>⟨u.slots,k b u q⟩
 free:=fun b u q n _=>by rw[av (T2 (Ul (TW q) hp))];exact n
 there:=fun b u q _=>⟨u,k b u q⟩
 tups:=fun b xs q=>by rw[av (aP q hn)];exact q
 frzs:=fun b u xs q=>by rw[av (aP q hn)];exact q
 tbls:=fun b ps q=>⟨#[],by rw[av (aP q hn),q];simp⟩
def Un.write (mu:Mut (H x))(he:e=x\/H e=some (.own x))(k:∀b u,b≠e->h.get? b=some u->h'.get? b=some u)(heo:∃u,h'.get? e=some u):Un fs ex H (upd H x o) h h':=by
 have hx:∀b,H b=none->b≠x:=fun b n z=>by subst z;rw[n] at mu;exact mu
 have hb:∀b,H b=none->b≠e:=fun b n z=>by
  subst z;rcases he with r|r
  ·exact hx b n r
  ·rw[n] at r;cases r
 have hm:∀b u,H b=some u->¬Mut (some u)->b≠x:=fun b u q nm z=>by subst z;rw[q] at mu;exact nm mu
 refine⟨fun b u q n _ _=>k b u (hb b n) q,fun b u q n _ _=>⟨u.slots,k b u (hb b n) q⟩,fun b u q n _=>by rw[av (hx b n)];exact n,fun b u q _=>?_,
  fun b xs q=>by rw[av (hm b _ q fun z=>z)];exact q,fun b u xs q=>by rw[av (hm b _ q fun z=>z)];exact q,fun b ps q=>⟨#[],by rw[av (hm b _ q fun z=>z),q];simp⟩⟩
 by_cases hbe:b=e
 ·subst hbe;exact heo
 ·exact⟨u,k b u hbe q⟩
end
noncomputable def trk (h:Heap)(H:Hp):Xz:=(List.range h.objs.size).filter fun a=>(H a).isSome
noncomputable def xu (h:Heap)(H:Hp):Heap:=W.hideAll h (trk h H)
def Eu (h:Heap)(H:Hp):(xu h H).objs.size=h.objs.size:=W.hideAll_size _ _
def GK {h:Heap}{H:Hp}{b:Addr}{o:Obj}(e:h.get? b=some o)(n:H b=none):(xu h H).get? b=some o:=
 W.hideAll_get _ e fun hm=>by have q:(H b).isSome=true:=(Ui.mp hm).2;rw[n] at q;simp at q
def J7   {b:Addr}{o:Obj}(e:(xu h H).get? b=some o):h.get? b=some o/\H b=none:=by
 have e':h.get? b=some o:=W.of_hideAll (trk h H) e;refine⟨e',?_⟩;cases q:H b with
 |none=>rfl
 |some x=>have hm:b∈trk h H:=Ui.mpr ⟨Us.mpr (TW e'),by simp[q]⟩;have z:(xu h H).get? b=none:=W.hideAll_none (trk h H) hm;rw[z] at e;cases e
noncomputable def Jj (g h:Heap)(L:Addr):Xu:=(List.range h.objs.size).filterMap fun a=>if a=L\/(g.get? a).isSome=true then none else (h.get? a).map fun o=>(a,o)
noncomputable def rest (g h:Heap)(L d:Addr):Xu:=(Jj g h L).filter fun p=>decide (p.1≠d)
structure Mod (K:Xy) (mg:Xv) (base:Heap):Prop where
 kin:K.In base
 glob:base.Ns mainGlobals mg
 blt:∃mb,base.Ns builtinsNs mb/\∀x:Str,x ≠ "__name__" -> mb x=bootBuiltins x
 nolimit:base.NoLimit
structure Cx where
 prog:Program
 w:World
 K:Xy
 mg:Xv
 base:Heap
 A:Around
 N:XB
 s₀:Shared
 H₀:Hp
 env:Env
 outer:List Env
 stack:List Env
 ex:Xz
 fn:Str->Bool
 calm:Bool
 pn:Xu
 xe:Xs
noncomputable def frs (l:List Env):Xz:=l.filterMap (·.frame)
noncomputable abbrev Cx.fs (X:Cx):Xz:=frs X.outer
def Vis (sc:Scope)(x:Str):Prop:=sc.names.lookup x=some .local\/sc.names.lookup x=some .cell\/sc.names.lookup x=some .free
def Loc (sc:Scope)(x:Str):Prop:=sc.names.lookup x=some .local\/sc.names.lookup x=some .cell
def Qq (env:Env)(h:Heap)(m:Xv)(x:Str)(u:Value):Prop:=
 (env.kindOf x=some .local/\m x=some u)\/((env.kindOf x=some .cell\/env.kindOf x=some .free)/\∃c,env.cells.lookup x=some c/\h.IsCell c (some u))
structure Cx.Ok (X:Cx):Prop where
 mod:Mod X.K X.mg X.base
 kind:X.env.scope.kind = .function
 glob:X.env.globals=mainGlobals
 blt:X.env.builtins=builtinsNs
 above:X.s₀.heap.objs.size<=X.env.locals
 inj:∀x y c,X.env.cells.lookup x=some c->X.env.cells.lookup y=some c->x=y
 has:∀x,(X.env.kindOf x=some .cell\/X.env.kindOf x=some .free)->∃c,X.env.cells.lookup x=some c
 cab:∀x c,X.fn x=true->X.env.cells.lookup x=some c->X.s₀.heap.objs.size<=c
 hd:X.calm=true->X.A.handled=none
 frames:X.A.frames=some X.stack
 stk:X.stack=X.outer\/(X.stack=X.env::X.outer/\X.env.frame=some X.env.locals)
 exf:∀b∈X.ex,b≠X.env.locals/\∀x c,X.env.cells.lookup x=some c->c≠b
 bs:∀b o,X.base.get? b=some o->X.s₀.heap.get? b=some o/\X.H₀ b=none
 bsz:X.base.objs.size<=X.s₀.heap.objs.size
 noex:∀b o,X.base.get? b=some o->b∉X.ex
 exfs:∀b∈X.ex,b∉X.fs
 funs:X.s₀.heap.FunFrames X.base X.outer
 frf:∀b∈X.fs,X.H₀ b=none
structure Inv (X:Cx) (pins:Xu) (σ:List (Option V)) (H:Hp) (s:Shared):Prop where
 ok:X.Ok
 os:s.os=X.s₀.os
 bare:AllBare s.gens
 base:Un X.fs X.ex X.H₀ H X.s₀.heap s.heap
 loc:∃m,s.heap.Ns X.env.locals m/\∀(i:Nat) (x:Str) (v:V),X.N[i]?=some x->σ[i]?=some (some v)->Vis X.env.scope x->∃u,RelV v u/\Qq X.env s.heap m x u
 cell:∀x c,X.env.cells.lookup x=some c->∃v,s.heap.IsCell c v
 free:H X.env.locals=none
 freeC:∀x c,X.env.cells.lookup x=some c->H c=none
 pin:∀p∈X.pn++pins,s.heap.get? p.1=some p.2/\H p.1=none/\p.1≠X.env.locals/\p.1∉X.fs/\∀v,p.2.data ≠ .cell v
 hok:HOk X.prog X.w H s.heap
 len:σ.length=X.N.length
section
variable {X:Cx}{pins:Xu}{σ:List (Option V)}{H H':Hp}{s:Shared}{h':Heap}
def Cx.Ok.nofr (ok:X.Ok)  {o:Obj}(e:X.base.get? b=some o):b∉X.fs:=fun hb=>by have:=(ok.funs.mem hb).1;rw[e] at this;cases this
theorem Inv.bs (I:Inv X pins σ H s):∀b o,X.base.get? b=some o->s.heap.get? b=some o/\H b=none:=fun b o e=>
 ⟨I.base.keep b o (I.ok.bs b o e).1 (I.ok.bs b o e).2 (I.ok.nofr e) (I.ok.noex b o e),I.base.free b o (I.ok.bs b o e).1 (I.ok.bs b o e).2 (I.ok.noex b o e)⟩
def Inv.bk (I:Inv X pins σ H s):∀b o,X.base.get? b=some o->s.heap.get? b=some o:=fun b o e=>(I.bs b o e).1
theorem Inv.mod (I:Inv X pins σ H s):Mod X.K X.mg X.base:=I.ok.mod
def Inv.kIn (I:Inv X pins σ H s):X.K.In s.heap:=I.ok.mod.kin.keeps I.bk
def Inv.fr (I:Inv X pins σ H s):∃m,Fr X.base X.env.locals s.heap m:=
 let ⟨m,hn,_⟩:=I.loc
 ⟨m,hn,I.bk,Ud I.ok.bsz I.ok.above⟩
theorem Inv.lt (I:Inv X pins σ H s):X.env.locals<s.heap.objs.size:=let ⟨_,hn,_⟩:=I.loc;hn.lt
def Inv.sz (I:Inv X pins σ H s):X.s₀.heap.objs.size<=s.heap.objs.size:=Ud I.ok.above (Ut I.lt)
def Inv.nofs (I:Inv X pins σ H s){a:Addr}(h:s.heap.objs.size<=a):a∉X.fs:=fun hb=>by obtain⟨_,o,ho,_⟩:=I.ok.funs.mem hb;exact absurd (Ul (TW ho) (Ud I.sz h)) (VR _)
def Inv.cne (I:Inv X pins σ H s):∀x c,X.env.cells.lookup x=some c->c≠X.env.locals:=fun x c e z=>by obtain⟨v,o,ho,hd⟩:=I.cell x c e;obtain⟨m,⟨o',es,ep,ho',hd',_⟩,_⟩:=I.loc;rw[z,ho'] at ho;cases ho;rw[hd'] at hd;cases hd
theorem Inv.funs (I:Inv X pins σ H s):s.heap.FunFrames X.base X.outer:=by
 have all:∀(l:List Env),(∀b∈frs l,b∈X.fs)->X.s₀.heap.FunFrames X.base l->s.heap.FunFrames X.base l:=by
  intro l;induction l with
  |nil=>intro _ _;trivial
  |cons env r ih=>intro hs hl;obtain⟨hk,⟨L,o,hf,hn,ho,hd⟩,hr⟩:=hl;have hL:L∈X.fs:=hs L (by unfold frs;rw[Uq,hf];exact TD);obtain⟨sl,e⟩:=I.base.slot L o ho (I.ok.frf L hL) hL fun z=>I.ok.exfs L z hL;exact⟨hk,⟨L,_,hf,hn,e,hd⟩,ih (fun b hb=>hs b (by unfold frs;rw[Uq,hf];exact TJ _ hb)) hr⟩
 exact all X.outer (fun _ hb=>hb) I.ok.funs
theorem Inv.stack (I:Inv X pins σ H s):s.heap.FunFrames X.base X.stack:=by
 rcases I.ok.stk with e|⟨e,hf⟩
 ·rw[e];exact I.funs
 ·rw[e];obtain⟨m,hn,_⟩:=I.loc;refine .cons (by rw[I.ok.kind];decide) hf hn ?_ I.funs;exact Heap.get?_none_of_le (Ud I.ok.bsz I.ok.above)
def Inv.stkSub (I:Inv X pins σ H s):∀b∈frs X.stack,b∈X.env.locals::X.fs:=fun b hb=>by
 rcases I.ok.stk with e|⟨e,hf⟩
 ·rw[e] at hb;exact TJ _ hb
 ·rw[e] at hb;unfold frs at hb;rw[Uq,hf] at hb;exact hb
def Inv.stkFree (I:Inv X pins σ H s):∀b∈frs X.stack,H b=none:=fun b hb=>by
 rcases TN.mp (I.stkSub b hb) with e|hb
 ·rw[e];exact I.free
 ·obtain⟨_,o,ho,_⟩:=I.ok.funs.mem hb;exact I.base.free b o ho (I.ok.frf b hb) fun z=>I.ok.exfs b z hb
def Inv.step  {t':Nat}{d':Drawn}{ch:Xz}(I:Inv X pins σ H s)
  (hch:∀b∈ch,(b∈X.ex\/X.s₀.heap.objs.size<=b)/\b≠X.env.locals/\(∀x c,X.env.cells.lookup x=some c->c≠b)/\∀p∈X.pn++pins,p.1≠b)
  (keep:∀b o,b≠X.env.locals->b∉X.fs->b∉ch->s.heap.get? b=some o->H b=none->h'.get? b=some o)
  (slot:∀b o,b≠X.env.locals->b∈X.fs->b∉ch->s.heap.get? b=some o->H b=none->∃sl,h'.get? b=some { o with slots:=sl }) (free:∀b o,b∉ch->s.heap.get? b=some o->H b=none->H' b=none)
  (there:∀b o,b∉ch->s.heap.get? b=some o->∃o',h'.get? b=some o')
  (tups:∀b xs,H b=some (.tup xs)->H' b=some (.tup xs)) (frzs:∀b o u,H b=some (.frz o u)->H' b=some (.frz o u)) (tbls:∀b ps,H b=some (.tbl ps)->∃more,H' b=some (.tbl (ps++more)))
  (ns:∀m,s.heap.Ns X.env.locals m->h'.Ns X.env.locals m) (hok:HOk X.prog X.w H' h') (hg:AllBare g') :
  Inv X pins σ H' { s with heap:=h',gens:=g',drawn:=d',toks:=t' }:=by
 have neL:∀b o,X.s₀.heap.get? b=some o->b≠X.env.locals:=fun b o e=>T2 (Ul (TW e) I.ok.above);have neC:∀b o,X.s₀.heap.get? b=some o->b∉X.ex->b∉ch:=fun b o e hx hb=>by
  rcases (hch b hb).1 with z|z
  ·exact hx z
  ·exact absurd (Ul (TW e) z) (VR _)
 have cellK:∀x c,X.env.cells.lookup x=some c->∀v,s.heap.IsCell c v->h'.IsCell c v:=fun x c e v hpt0=>by
  obtain⟨o,ho,hd⟩:=hpt0;have nch:c∉ch:=fun z=>(hch c z).2.2.1 x c e rfl;by_cases hc:c∈X.fs
  ·obtain⟨sl,q⟩:=slot c o (I.cne x c e) hc nch ho (I.freeC x c e);exact⟨_,q,hd⟩
  ·exact⟨o,keep c o (I.cne x c e) hc nch ho (I.freeC x c e),hd⟩
 refine⟨I.ok,I.os,hg,⟨fun b o e n hb hx=>?_,fun b o e n hb hx=>?_,fun b o e n hx=>?_,fun b o e hx=>?_,fun b xs e=>tups b xs (I.base.tups b xs e),fun b o xs e=>frzs b o xs (I.base.frzs b o xs e),fun b ps e=>?_⟩,?_,fun x c e=>?_,?_,fun x c e=>?_,fun p hp=>?_,hok,I.len⟩
 ·exact keep b o (neL b o e) hb (neC b o e hx) (I.base.keep b o e n hb hx) (I.base.free b o e n hx)
 ·obtain⟨sl,e1⟩:=I.base.slot b o e n hb hx;obtain⟨sl',e2⟩:=slot b _ (neL b o e) hb (neC b o e hx) e1 (I.base.free b o e n hx);exact⟨sl',e2⟩
 ·obtain⟨o',e1⟩:=I.base.there b o e hx;exact free b o' (neC b o e hx) e1 (I.base.free b o e n hx)
 ·obtain⟨o',e1⟩:=I.base.there b o e hx;exact there b o' (neC b o e hx) e1
 ·obtain⟨m1,e1⟩:=I.base.tbls b ps e;obtain⟨m2,e2⟩:=tbls b _ e1;exact⟨m1++m2,by rw[e2,Array.append_assoc]⟩
 ·obtain⟨m,hn,hl⟩:=I.loc;refine⟨m,ns m hn,fun i x v e1 e2 e3=>?_⟩;obtain⟨u,r,l⟩:=hl i x v e1 e2 e3;refine⟨u,r,?_⟩;rcases l with l|⟨k,c,e,z⟩
  ·exact .inl l
  ·exact .inr ⟨k,c,e,cellK x c e _ z⟩
 ·obtain⟨v,z⟩:=I.cell x c e;exact⟨v,cellK x c e v z⟩
 ·obtain⟨m,⟨o,_,_,ho,_⟩,_⟩:=I.loc;exact free _ o (fun z=>(hch _ z).2.1 rfl) ho I.free
 ·obtain⟨v,o,ho,hd⟩:=I.cell x c e;exact free c o (fun z=>(hch c z).2.2.1 x c e rfl) ho (I.freeC x c e)
 ·obtain⟨e,n,ne,nf,d⟩:=I.pin p hp;have nch:p.1∉ch:=fun z=>(hch p.1 z).2.2.2 p hp rfl;exact⟨keep p.1 p.2 ne nf nch e n,free p.1 p.2 nch e n,ne,nf,d⟩
def Inv.un {t':Nat}(I:Inv X pins σ H s)(u:Un X.fs [] H H' s.heap h')(hok:HOk X.prog X.w H' h'):Inv X pins σ H' { s with heap:=h',toks:=t' }:=by
 obtain⟨m,⟨o,es,ep,ho,r⟩,_⟩:=id I.loc;obtain⟨sl,hL⟩:=u.any ho I.free (by simp);exact I.step (g':=s.gens) (d':=s.drawn) (ch:=[]) (fun _ z=>nomatch z) (fun b o _ hb _ e n=>u.keep b o e n hb (by simp)) (fun b o _ hb _ e n=>u.slot b o e n hb (by simp)) (fun b o _ e n=>u.free b o e n (by simp)) (fun b o _ e=>u.there b o e (by simp)) u.tups u.frzs u.tbls (fun m' hm=>by
  obtain⟨o',es',ep',ho',r'⟩:=hm;rw[ho] at ho';cases ho'
  exact⟨_,es',ep',hL,r'⟩) hok I.bare
def Inv.call  {t':Nat}{d':Drawn}  (I:Inv X pins σ H s)(u:Un (frs X.stack) ch H H' s.heap h')(hok:HOk X.prog X.w H' h')(hg:AllBare g')
  (hch:∀b∈ch,(b∈X.ex\/X.s₀.heap.objs.size<=b)/\b≠X.env.locals/\(∀x c,X.env.cells.lookup x=some c->c≠b)/\∀p∈X.pn++pins,p.1≠b) :
  Inv X pins σ H' { s with heap:=h',gens:=g',drawn:=d',toks:=t' }:=by
 obtain⟨m,⟨o,es,ep,ho,r⟩,_⟩:=id I.loc;obtain⟨sl,hL⟩:=u.any ho I.free fun z=>(hch _ z).2.1 rfl;exact I.step (ch:=ch) hch (fun b o hL hb hc e n=>u.keep b o e n (fun z=>(TN.mp (I.stkSub b z)).elim hL hb) hc) (fun b o _ _ hc e n=>u.any e n hc) (fun b o hc e n=>u.free b o e n hc) (fun b o hc e=>u.there b o e hc) u.tups u.frzs u.tbls (fun m' hm=>by
  obtain⟨o',es',ep',ho',r'⟩:=hm;rw[ho] at ho';cases ho'
  exact⟨_,es',ep',hL,r'⟩) hok hg
def Inv.turned {t':Nat}{it:Addr}(I:Inv X pins σ H s)(k:∀b o,b≠it->s.heap.get? b=some o->h'.get? b=some o)(hn:H it=none)(hL:it≠X.env.locals)
  (h1:it∈X.ex\/X.s₀.heap.objs.size<=it) (h2:∀x c,X.env.cells.lookup x=some c->c≠it) (h3:∀p∈X.pn++pins,p.1≠it):Inv X pins σ H { s with heap:=h',toks:=t' }:=by
 have nit:∀b u,H b=some u->b≠it:=fun b u e z=>by rw[z,hn] at e;cases e
 refine I.step (g':=s.gens) (d':=s.drawn) (ch:=[it]) (fun b hb=>?_) (fun b o _ _ hc e _=>k b o (fun z=>hc (by simp[z])) e) (fun b o _ _ hc e _=>⟨o.slots,k b o (fun z=>hc (by simp[z])) e⟩) (fun _ _ _ _ n=>n)
  (fun b o hc e=>⟨o,k b o (fun z=>hc (by simp[z])) e⟩) (fun _ _ e=>e) (fun _ _ _ e=>e) (fun b ps e=>⟨#[],by rw[e];simp⟩) (fun m hm=>?_) (fun b u e=>?_) I.bare
 ·have e:b=it:=by simpa using hb
  subst e;exact⟨h1,hL,h2,h3⟩
 ·obtain⟨o,es,ep,ho,r⟩:=hm;exact⟨o,es,ep,k _ o (T3 hL) ho,r⟩
 ·refine (I.hok b u e).stay (fun c v hc q=>k c v ?_ q) (fun _ q=>q) fun _ _ q=>q;rcases hc with z|z
  ·rw[z];exact nit b u e
  ·exact nit c _ z
def Inv.tok (I:Inv X pins σ H s)(t:Nat):Inv X pins σ H { s with toks:=t }:=I.un (h':=s.heap) (t':=t) Un.refl I.hok
theorem Inv.kept {t':Nat}(I:Inv X pins σ H s)(k:∀b u,s.heap.get? b=some u->h'.get? b=some u):Inv X pins σ H { s with heap:=h',toks:=t' }:=I.un (Un.kept k) (I.hok.kept k)
theorem Inv.laid {a:Addr}  {t':Nat}(I:Inv X pins σ H s)(k:∀b u,s.heap.get? b=some u->h'.get? b=some u)(hp:s.heap.objs.size<=a)(new:ObjOk X.prog X.w (upd H a o) h' a o) :
  Inv X pins σ (upd H a o) { s with heap:=h',toks:=t' }:=I.un (Un.laid k hp (I.hok.fresh hp)) (I.hok.laid k hp new)
theorem Inv.write {e:Addr}  {t':Nat}(I:Inv X pins σ H s)(mu:Mut (H x))(he:e=x\/H e=some (.own x))(k:∀b u,b≠e->s.heap.get? b=some u->h'.get? b=some u)(heo:∃u,h'.get? e=some u)
  (new:ObjOk X.prog X.w (upd H x o) h' x o):Inv X pins σ (upd H x o) { s with heap:=h',toks:=t' }:=I.un (Un.write mu he k heo) (I.hok.write mu he k heo new)
def Inv.weak {σ':List (Option V)}(I:Inv X pins σ H s)(hl:σ'.length=σ.length)(w:∀(i:Nat) v,σ'[i]?=some (some v)->σ[i]?=some (some v)):Inv X pins σ' H s:=
 ⟨I.ok,I.os,I.bare,I.base,let ⟨m,hn,hl'⟩:=I.loc;⟨m,hn,fun i x v e1 e2 e3=>hl' i x v e1 (w i v e2) e3⟩,I.cell,I.free,I.freeC,I.pin,I.hok,hl.trans I.len⟩
def Inv.pins_of {pins':Xu}(I:Inv X pins σ H s)(h:∀p∈pins',s.heap.get? p.1=some p.2/\H p.1=none/\p.1≠X.env.locals/\p.1∉X.fs/\∀v,p.2.data ≠ .cell v):Inv X pins' σ H s:=
 ⟨I.ok,I.os,I.bare,I.base,I.loc,I.cell,I.free,I.freeC,fun p hp=>(TH.mp hp).elim (fun z=>I.pin p (TK _ z)) (h p),I.hok,I.len⟩
def zM {N:XB}(hN:N.Nodup){i j:Nat}{x:Str}(a:N[i]?=some x)(b:N[j]?=some x):i=j:=by obtain⟨h1,e1⟩:=TR.mp a;obtain⟨h2,e2⟩:=TR.mp b;exact (List.getElem_inj hN).mp (e1.trans e2.symm)
def Fw    {i:Nat}{x:Str}   {Q:Unit->Shared->Prop}(I:Inv X pins σ H s)(hN:X.N.Nodup)(hi:X.N[i]?=some x)(hx:Loc X.env.scope x)(r:RelV v u)
  (h:∀s',Inv X pins (σ.set i (some v)) H s'->(∃a,Heap.SameBut a s.heap s'.heap/\(a=X.env.locals\/X.env.cells.lookup x=some a))->Q Unit.unit s') (hf:X.fn x=true\/X.env.scope.names.lookup x=some .local:=by first|exact .inl rfl|exact .inr rfl|assumption):wpAny M A (storeName X.env x u) Q E s:=by
 obtain⟨m,hn,hl⟩:=id I.loc;have hcls:(X.env.scope.kind == .class || (X.env.scope.kind == .module&&X.env.locals != X.env.globals))=false:=by rw[I.ok.kind];rfl
 have hiσ:i<σ.length:=by rw[I.len];exact (TR.mp hi).1
 have cne:=I.cne;have tracked:∀ {a:Addr} {h':Heap},(∃o,s.heap.get? a=some o/\H a=none)->Heap.SameBut a s.heap h'->HOk X.prog X.w H h':=fun {a h'} ha hs b ob e=>by
  obtain⟨_,_,hfree⟩:=ha;refine (I.hok b ob e).stay (fun c w' hc q=>(hs.2 c ?_).trans q) (fun _ q=>q) fun _ _ q=>q;rintro rfl;rcases hc with rfl|hc
  ·rw[hfree] at e;cases e
  ·rw[hfree] at hc;cases hc
 rcases hx with hk|hk
 ·refine wpAny_storeName_local hk hn (fun h' hn' hs=>?_) hcls;obtain⟨oL,_,_,hoL,_⟩:=id hn;refine h _ ⟨I.ok,I.os,I.bare,⟨fun b o e n hb hx=>?_,fun b o e n hb hx=>?_,I.base.free,fun b o e hx=>?_,I.base.tups,I.base.frzs,I.base.tbls⟩,⟨_,hn',fun j y v' e1 e2 e3=>?_⟩,fun y c e=>?_,I.free,I.freeC,fun p hp=>?_,tracked ⟨oL,hoL,I.free⟩ hs,by simpa using I.len⟩ ⟨_,hs,.inl rfl⟩
  ·exact (hs.2 b (T2 (Ul (TW e) I.ok.above))).trans (I.base.keep b o e n hb hx)
  ·obtain⟨sl,e1⟩:=I.base.slot b o e n hb hx;exact⟨sl,(hs.2 b (T2 (Ul (TW e) I.ok.above))).trans e1⟩
  ·obtain⟨o',e1⟩:=I.base.there b o e hx;exact⟨o',(hs.2 b (T2 (Ul (TW e) I.ok.above))).trans e1⟩
  ·by_cases hj:j=i
   ·subst hj;rw[hi] at e1;cases e1;rw[VS hiσ] at e2;cases e2;exact⟨u,r,.inl ⟨hk,by simp⟩⟩
   ·rw[UV (T3 hj)] at e2;obtain⟨u',r',q⟩:=hl j y v' e1 e2 e3;refine⟨u',r',?_⟩;rcases q with ⟨k,e⟩|⟨k,c,e,z⟩
    ·refine .inl ⟨k,?_⟩;have:y≠x:=fun e=>hj (zM hN e1 (e▸hi));simp[this,e]
    ·exact .inr ⟨k,c,e,z.sameBut hs (cne y c e)⟩
  ·obtain⟨w',z⟩:=I.cell y c e;exact⟨w',z.sameBut hs (cne y c e)⟩
  ·obtain⟨e,n,ne,nf,d⟩:=I.pin p hp;exact⟨(hs.2 p.1 ne).trans e,n,ne,nf,d⟩
 ·have hfn:X.fn x=true:=by
   rcases hf with z|z
   ·exact z
   ·rw[z] at hk;cases hk
  obtain⟨c,hc⟩:=I.ok.has x (.inl hk);obtain⟨w',z⟩:=I.cell x c hc;refine wpAny_storeName_cell I.ok.kind hk hc z (fun h' hc' hs=>?_);obtain⟨oc,hoc,hocd⟩:=id z;refine h { s with heap:=h' } ⟨I.ok,I.os,I.bare,⟨fun b o e n hb hx=>?_,fun b o e n hb hx=>?_,I.base.free,fun b o e hx=>?_,I.base.tups,I.base.frzs,I.base.tbls⟩,⟨m,hn.sameBut hs (T3 (cne x c hc)),fun j y v' e1 e2 e3=>?_⟩,fun y c' e=>?_,I.free,I.freeC,fun p hp=>?_,tracked ⟨oc,hoc,I.freeC x c hc⟩ hs,by simpa using I.len⟩ ⟨c,hs,.inr hc⟩
  ·exact (hs.2 b (T2 (Ul (TW e) (I.ok.cab x c hfn hc)))).trans (I.base.keep b o e n hb hx)
  ·obtain⟨sl,e1⟩:=I.base.slot b o e n hb hx;exact⟨sl,(hs.2 b (T2 (Ul (TW e) (I.ok.cab x c hfn hc)))).trans e1⟩
  ·obtain⟨o',e1⟩:=I.base.there b o e hx;exact⟨o',(hs.2 b (T2 (Ul (TW e) (I.ok.cab x c hfn hc)))).trans e1⟩
  ·by_cases hj:j=i
   ·subst hj;rw[hi] at e1;cases e1;rw[VS hiσ] at e2;cases e2;exact⟨u,r,.inr ⟨.inl hk,c,hc,hc'⟩⟩
   ·rw[UV (T3 hj)] at e2;obtain⟨u',r',q⟩:=hl j y v' e1 e2 e3;refine⟨u',r',?_⟩;rcases q with q|⟨k,c',e,z'⟩
    ·exact .inl q
    ·refine .inr ⟨k,c',e,z'.sameBut hs ?_⟩;rintro rfl;exact hj (zM hN e1 (I.ok.inj _ _ _ e hc▸hi))
  ·by_cases hcc:c'=c
   ·subst hcc;exact⟨_,hc'⟩
   ·obtain⟨w2,z2⟩:=I.cell y c' e;exact⟨w2,z2.sameBut hs hcc⟩
  ·obtain⟨e,n,ne,nf,d⟩:=I.pin p hp;refine⟨(hs.2 p.1 ?_).trans e,n,ne,nf,d⟩;intro q;rw[q,hoc] at e;have q':oc=p.2:=Uh e;exact d w' (by rw[<- q'];exact hocd)
def uM {M:Model}{A:Around}{E:Xs}{i:Nat}{x:Str}{v:V}{u:Value}{Q:Unit->Shared->Prop}(I:Inv X pins σ H s)(hN:X.N.Nodup)(hi:X.N[i]?=some x)(hx:Loc X.env.scope x)(r:RelV v u)
  (h:∀s',Inv X pins (σ.set i (some v)) H s'->Q Unit.unit s') (hf:X.fn x=true\/X.env.scope.names.lookup x=some .local:=by first|exact .inl rfl|exact .inr rfl|assumption):wpAny M A (storeName X.env x u) Q E s:=
 Fw I hN hi hx r (fun s' I' _=>h s' I') hf
def Inv.call' {s':Shared}  (I:Inv X pins σ H s)(ho:s'.os=s.os)(u:Un (frs X.stack) ch H H' s.heap s'.heap)(hok:HOk X.prog X.w H' s'.heap)(hg:AllBare s'.gens)
  (hch:∀b∈ch,(b∈X.ex\/X.s₀.heap.objs.size<=b)/\b≠X.env.locals/\(∀x c,X.env.cells.lookup x=some c->c≠b)/\∀p∈X.pn++pins,p.1≠b):Inv X pins σ H' s':=by
 obtain⟨h',g',d',t',o'⟩:=s';have e:o'=s.os:=ho;subst e;exact I.call (g':=g') (t':=t') (d':=d') u hok hg hch
end
noncomputable abbrev XK:=Value->Option Addr->Hp->Prop
noncomputable abbrev St:=List (Option V)
noncomputable abbrev VK:=V->Hp->Prop
noncomputable abbrev TE:=St->Hp->VK->Prop
noncomputable abbrev TT:=St->Hp->(Bool->Hp->Prop)->Prop
noncomputable abbrev TA:=St->Hp->(Xo->Hp->Prop)->Prop
structure Ends where
 nx:St->Hp->Prop
 rt:VK
 bk:St->Hp->Prop:=fun _ _=>False
 ct:St->Hp->Prop:=fun _ _=>False
noncomputable abbrev TS:=Ends->St->Hp->Prop
def EP (X:Cx)(pins:Xu)(σ:St)(Q:VK)(u:Value)(s':Shared):Prop:=∃v H',Inv X pins σ H' s'/\RelV v u/\Q v H'
def TP (X:Cx)(pins:Xu)(σ:St)(Q:Bool->Hp->Prop)(b:Bool)(s':Shared):Prop:=∃H',Inv X pins σ H' s'/\Q b H'
def AP (X:Cx)(pins:Xu)(σ:St)(Q:Xo->Hp->Prop)(us:Xw)(s':Shared):Prop:=∃vs H',Inv X pins σ H' s'/\Vals vs us/\Q vs H'
def SP (X:Cx)(pins:Xu)(D:Ends)(f:Flow)(s':Shared):Prop:=
 match f with
 |.next=>∃σ' H',Inv X pins σ' H' s'/\D.nx σ' H'
 |.brk=>∃σ' H',Inv X pins σ' H' s'/\D.bk σ' H'
 |.cont=>∃σ' H',Inv X pins σ' H' s'/\D.ct σ' H'
 |.ret u=>∃v σ' H',Inv X pins σ' H' s'/\RelV v u/\D.rt v H'
def PE (X:Cx)(e:Expr)(t:TE):Prop:=
 ∀(pins:Xu) (s:Shared) (σ:St) (H:Hp) (Q:VK),Inv X pins σ H s->t σ H Q->wpAny (model X.prog X.w) X.A (eval e X.env) (EP X pins σ Q) X.xe s
def PT (X:Cx)(e:Expr)(t:TT):Prop:=
 ∀(pins:Xu) (s:Shared) (σ:St) (H:Hp) (Q:Bool->Hp->Prop),Inv X pins σ H s->t σ H Q->wpAny (model X.prog X.w) X.A (isTrue e X.env (eval e X.env)) (TP X pins σ Q) X.xe s
def PW (X:Cx)(e:Expr)(t:TT):Prop:=
 ∀(whole:Sem Value) (pins:Xu) (s:Shared) (σ:St) (H:Hp) (Q:Bool->Hp->Prop),Inv X pins σ H s->t σ H Q->wpAny (model X.prog X.w) X.A (isTrue e X.env whole) (TP X pins σ Q) X.xe s
def PW.pt {X:Cx}{e:Expr}{t:TT}(h:PW X e t):PT X e t:=h _
def PA (X:Cx)(es:List Expr)(t:TA):Prop:=
 ∀(pos:Pos) (pins:Xu) (s:Shared) (σ:St) (H:Hp) (Q:Xo->Hp->Prop),Inv X pins σ H s->t σ H Q->wpAny (model X.prog X.w) X.A (spliced (backTo pos (starEach es X.env))) (AP X pins σ Q) X.xe s
def PS (X:Cx)(st:Stmt)(t:TS):Prop:=
 ∀(pins:Xu) (s:Shared) (σ:St) (H:Hp) (D:Ends),Inv X pins σ H s->t D σ H->wpAny (model X.prog X.w) X.A (exec st X.env) (SP X pins D) X.xe s
def PSs (X:Cx)(st:List Stmt)(t:TS):Prop:=
 ∀(pins:Xu) (s:Shared) (σ:St) (H:Hp) (D:Ends),Inv X pins σ H s->t D σ H->wpAny (model X.prog X.w) X.A (execs st X.env) (SP X pins D) X.xe s
def thn {α:Type}{t:Sem α}{Q Q':α->Shared->Prop}{M:Model}{A:Around}{E:Xs}{s:Shared}(h:wpAny M A t Q E s)(hQ:∀a s,Q a s->Q' a s):wpAny M A t Q' E s:=Vh h hQ fun _ _ x=>x
section
variable {X:Cx}
noncomputable def jm (i:Nat):TE:=fun σ H Q=>∃v,σ[i]?=some (some v)/\Q v H
noncomputable def tC (v:V):TE:=fun _ H Q=>Q v H
def MP {i:Nat}{x:Str}{pos:Pos}(hN:X.N[i]?=some x)(hv:Vis X.env.scope x)(hd:(x==("__debug__" : Str))=false:=by decide) (hcd:(x==("__classdict__" : Str))=false:=by decide):PE X (.Name x pos) (jm i):=by
 intro pins s σ H Q I h;obtain⟨v,e,h⟩:=h;obtain⟨m,hn,hl⟩:=I.loc;obtain⟨u,r,l⟩:=hl i x v hN e hv;have fin:EP X pins σ Q u s:=⟨v,H,I,r,h⟩
 rcases l with ⟨hk,hm⟩|⟨hk,c,hc,hcell⟩
 ·exact wpAny_Name (wpAny_loadName_local I.ok.kind hk hn hm fin) hd
 ·rcases hk with hk|hk
  ·exact wpAny_Name (wpAny_loadName_cell I.ok.kind hk hc hcell fin) hd
  ·exact wpAny_Name (wpAny_loadName_free I.ok.kind hk hc hcell fin hcd) hd
def ML {i j pos}:PE X (.Constant (.int i) j pos) (tC (.int i)):=fun _ _ _ H _ I h=>wpAny_Constant_int ⟨.int i,H,I.tok _,⟨_,rfl⟩,h⟩
def OW {b j pos}:PE X (.Constant (.bool b) j pos) (tC (.bl b)):=fun _ _ _ H _ I h=>Constant_bool ⟨.bl b,H,I,rfl,h⟩
def MN {j pos}:PE X (.Constant .none j pos) (tC .non):=fun _ _ _ H _ I h=>Constant_none ⟨.non,H,I,rfl,h⟩
def Gl (X:Cx)(x:Str):Prop:=X.env.kindOf x=some .globalImplicit
def xD  {pins:Xu}     {u:Value}{pos:Pos}{Q:Xs}(I:Inv X pins σ H s)(hg:Gl X x)(hm:X.mg x=some u)(h:Q u s)
  (hd:(x==("__debug__" : Str))=false:=by decide):wpAny (model X.prog X.w) X.A (eval (.Name x pos) X.env) Q E s:=
 Calls.Name_function_global I.ok.kind hg (Calls.loadGlobal_global (by rw[I.ok.glob];exact I.mod.glob.keeps I.bk) hm h) hd
def g6 {E:Xs}{pins:Xu}{s:Shared}{σ:St}{H:Hp}{x:Str}{u:Value}{pos:Pos}{Q:Xs}(I:Inv X pins σ H s)(hg:Gl X x)(hm:X.mg x=none)(hv:bootBuiltins x=some u)(h:Q u s)
  (hn:x ≠ "__name__" := by decide) (hd:(x==("__debug__" : Str))=false:=by decide):wpAny (model X.prog X.w) X.A (eval (.Name x pos) X.env) Q E s:=by
 obtain⟨mb,h1,h2⟩:=I.mod.blt;exact Calls.Name_function_global I.ok.kind hg (Calls.loadGlobal_builtin (by rw[I.ok.glob];exact I.mod.glob.keeps I.bk) hm (by rw[I.ok.blt];exact h1.keeps I.bk) ((h2 x hn).trans hv) h) hd
def Ds   {u:Value}{pos:Pos}(hg:Gl X x)(hm:X.mg x=some u)(r:RelV v u)(hd:(x==("__debug__" : Str))=false:=by decide):PE X (.Name x pos) (tC v):=
 fun _ _ _ H _ I h=>xD I hg hm ⟨v,H,I,r,h⟩ hd
def Dq   {u:Value}{pos:Pos}(hg:Gl X x)(hm:X.mg x=none)(hv:bootBuiltins x=some u)(r:RelV v u)(hn:x ≠ "__name__" := by decide) (hd:(x==("__debug__" : Str))=false:=by decide):PE X (.Name x pos) (tC v):=
 fun _ _ _ H _ I h=>g6 I hg hm hv ⟨v,H,I,r,h⟩ hn hd
variable {a b:Expr}{ta tb:TE}{pos:Pos}
def PC (X:Cx)(op:CmpOp)(a b:Expr)(t:TE):Prop:=
 ∀(pins:Xu) (s:Shared) (σ:St) (H:Hp) (Q:VK),Inv X pins σ H s->t σ H Q ->
  wpAny (model X.prog X.w) X.A (eval a X.env) (fun v s₁=>wpAny (model X.prog X.w) X.A (eval b X.env) (fun u s₂=>wpAny (model X.prog X.w) X.A (compareOp op v u) (EP X pins σ Q) X.xe s₂) X.xe s₁) X.xe s
noncomputable def tB (t:TE):TT:=fun σ H Q=>t σ H fun x H1=>∃c,x = .bl c/\Q c H1
def MJ   (h:PC X op a b t)(h1:behindInMarks op b=false:=by first|exact nobehind _ (by decide) (by decide)|rfl):PE X (.Compare a [op] [b] pos) t:=fun pins s σ H Q I hw=>wpAny_Compare1 (h pins s σ H Q I hw) h1
def MZ {op:CmpOp}{t:TE}(h:PC X op a b t)(h1:behindInMarks op b=false:=by first|exact nobehind _ (by decide) (by decide)|rfl):PT X (.Compare a [op] [b] pos) (tB t):=by intro pins s σ H Q I hw;refine wpAny_isTrue_Compare1 (thn (h pins s σ H _ I hw) fun v s1 h1=>thn h1 fun u s2 h2=>thn h2 fun c s3 hpt9=>?_) h1;obtain⟨x,H1,I1,r1,q1⟩:=hpt9;obtain⟨d,rfl,q⟩:=q1;cases r1;exact Wc ⟨H1,I1,q⟩
variable {tA tB':TT}{rest:List Expr}
noncomputable def NF (t u:TT):TT:=fun σ H Q=>t σ H fun c H1=>if c=true then u σ H1 Q else Q false H1
noncomputable def tOr (t u:TT):TT:=fun σ H Q=>t σ H fun c H1=>if c=true then Q true H1 else u σ H1 Q
noncomputable def NI (t:TT):TT:=fun σ H Q=>t σ H fun c H1=>Q (!c) H1
def Kt (ha:PT X a tA):PW X (.BoolOp .And [a] pos) tA:=by
 intro wh pins s σ H Q I h;refine isTrue_and (thn (ha pins s σ H Q I h) fun c s1 e=>?_);cases c with
 |true=>exact isTrue_and_nil e
 |false=>exact e
def M2 (ha:PT X a tA):PW X (.BoolOp .Or [a] pos) tA:=by
 intro wh pins s σ H Q I h;refine isTrue_or (thn (ha pins s σ H Q I h) fun c s1 e=>?_);cases c with
 |false=>exact isTrue_or_nil e
 |true=>exact e
def HE (ha:PT X a tA)(hb:PW X (.BoolOp .And (b::rest) pos) tB'):PW X (.BoolOp .And (a::b::rest) pos) (NF tA tB'):=by
 intro wh pins s σ H Q I h;refine isTrue_and (thn (ha pins s σ H _ I h) fun c s1 hpt9=>?_);obtain⟨H1,I1,q1⟩:=hpt9;cases c with
 |true=>exact hb wh pins s1 σ H1 Q I1 q1
 |false=>exact⟨H1,I1,q1⟩
def Lk (ha:PT X a tA)(hb:PW X (.BoolOp .Or (b::rest) pos) tB'):PW X (.BoolOp .Or (a::b::rest) pos) (tOr tA tB'):=by
 intro wh pins s σ H Q I h;refine isTrue_or (thn (ha pins s σ H _ I h) fun c s1 hpt9=>?_);obtain⟨H1,I1,q1⟩:=hpt9;cases c with
 |true=>exact⟨H1,I1,q1⟩
 |false=>exact hb wh pins s1 σ H1 Q I1 q1
def M0 (ha:PT X a tA):PT X (.UnaryOp .Not a pos) (NI tA):=by intro pins s σ H Q I h;exact isTrue_not (ha pins s σ H (fun c H1=>Q (!c) H1) I h)
noncomputable def Iz (ta tb:TE):TE:=fun σ H Q=>ta σ H fun x H1=>∃c,x = .bl c/\if c=true then tb σ H1 Q else Q (.bl false) H1
def MO {op}  (h:PE X a t):PE X (.BoolOp op [a] pos) t:=fun pins s σ H Q I hw=>BoolOp_one (h pins s σ H Q I hw)
def MH (ha:PE X a ta)(hb:PE X (.BoolOp .And (b::rest) pos) tb):PE X (.BoolOp .And (a::b::rest) pos) (Iz ta tb):=by
 intro pins s σ H Q I h;refine BoolOp_and (thn (ha pins s σ H _ I h) fun v s1 hpt9=>?_);obtain⟨x,H1,I1,r1,q1⟩:=hpt9;obtain⟨c,rfl,q1⟩:=q1;cases r1;refine Wc ?_;cases c with
 |true=>exact hb pins s1 σ H1 Q I1 q1
 |false=>exact⟨.bl false,H1,I1,rfl,q1⟩
end
def SqL (K:Xy)(H:Hp)(a:Addr)(xs:Xo):Prop:=
 Rd H a (.lst xs) \/
  ∃(o:Obj) (its:Array Value) (n:Nat),K.lookup a=some o/\o.cls = .type "list" /\ o.dict=none/\o.data = .seq its n/\its.size<=sizeLine/\Vals xs its.toList
def SqT (K:Xy)(H:Hp)(a:Addr)(xs:Xo):Prop:=
 Rd H a (.tup xs) \/
  ∃(o:Obj) (its:Array Value) (n:Nat),K.lookup a=some o/\o.cls = .type "tuple" /\ o.data = .seq its n/\its.size<=sizeLine/\Vals xs its.toList
noncomputable def Qt:Value->Option V
 |.none=>some .non
 |.bool b=>some (.bl b)
 |.int i _=>some (.int i)
 |.str x _=>some (.str x)
 |.bytes b _=>some (.byt b)
 |.float b _=>some (.flt b)
 |.ref a=>some (.ref a)
 |.type n=>some (.ty n)
 |_=>none
def RelV.abs   (r:RelV x u):Qt u=some x:=by
 cases x with
 |non=>cases r;rfl
 |bl _=>cases r;rfl
 |int _=>obtain⟨t,rfl⟩:=r;rfl
 |str _=>obtain⟨t,rfl⟩:=r;rfl
 |byt _=>obtain⟨t,rfl⟩:=r;rfl
 |flt _=>obtain⟨t,rfl⟩:=r;rfl
 |ref _=>cases r;rfl
 |ty _=>cases r;rfl
def RelV.inj   (r:RelV x u)(q:RelV y u):x=y:=Uh (r.abs.symm.trans q.abs)
theorem Vals.inj {xs ys:Xo}{us:Xw}(h:Vals xs us)(k:Vals ys us):xs=ys:=by
 induction h generalizing ys with
 |nil=>cases k;rfl
 |cons r t ih=>
  cases k with
  |cons r' t'=>rw[r.inj r',ih t']
section
variable {X:Cx}{pins:Xu}{σ:St}{H:Hp}{s:Shared}{a:Addr}{xs ys:Xo}
def SqL.of {K:Xy}(h:H a=some (.lst xs)):SqL K H a xs:=.inl (.inl h)
def SqT.of {K:Xy}(h:H a=some (.tup xs)):SqT K H a xs:=.inl (.inl h)
def Inv.list (I:Inv X pins σ H s)(h:SqL X.K H a xs):∃its:Xw,Vals xs its/\PlainL s.heap a its.toArray/\xs.length<=sizeLine:=by
 rcases h with h|⟨o,its,n,hk,hc,hd,hs,hz,r⟩
 ·obtain⟨z,its,n,r,e⟩:=h.ok I.hok;exact⟨its,r,⟨_,n,e,rfl,rfl,rfl⟩,z⟩
 ·refine⟨its.toList,r,⟨o,n,I.kIn a o hk,hc,hd,by simpa using hs⟩,?_⟩;have e:=r.length;simp only[T6] at e;lia
def Inv.tuple (I:Inv X pins σ H s)(h:SqT X.K H a xs):∃its:Xw,Vals xs its/\IsTup s.heap a its.toArray/\xs.length<=sizeLine:=by
 rcases h with h|⟨o,its,n,hk,hc,hs,hz,r⟩
 ·obtain⟨z,its,r,p⟩:=h.ok I.hok;exact⟨its,r,p,z⟩
 ·refine⟨its.toList,r,⟨o,I.kIn a o hk,hc,n,by simpa using hs⟩,?_⟩;have e:=r.length;simp only[T6] at e;lia
def Inv.list_inj (I:Inv X pins σ H s)(h:SqL X.K H a xs)(h':SqL X.K H a ys):xs=ys:=by
 obtain⟨its,r,⟨o,n,e,_,_,d⟩,_⟩:=I.list h;obtain⟨its',r',⟨o',n',e',_,_,d'⟩,_⟩:=I.list h';rw[e] at e';cases e';rw[d] at d';injection d' with d1 _
 have:its=its':=by simpa using T7 Array.toList d1
 subst this;exact r.inj r'
def Inv.tuple_inj (I:Inv X pins σ H s)(h:SqT X.K H a xs)(h':SqT X.K H a ys):xs=ys:=by
 obtain⟨its,r,⟨o,e,_,n,d⟩,_⟩:=I.tuple h;obtain⟨its',r',⟨o',e',_,n',d'⟩,_⟩:=I.tuple h';rw[e] at e';cases e';rw[d] at d';injection d' with d1 _
 have:its=its':=by simpa using T7 Array.toList d1
 subst this;exact r.inj r'
end
noncomputable abbrev Cx.wish (X:Cx)(E:Xs):Cx:={ X with xe:=E }
noncomputable abbrev Cx.nox (X:Cx):Cx:=X.wish fun _ _=>False
theorem Cx.Ok.wish {X:Cx}(ok:X.Ok)(E:Xs):(X.wish E).Ok:=
 ⟨ok.mod,ok.kind,ok.glob,ok.blt,ok.above,ok.inj,ok.has,ok.cab,ok.hd,ok.frames,ok.stk,ok.exf,ok.bs,ok.bsz,ok.noex,ok.exfs,ok.funs,ok.frf⟩
def Cx.Ok.unwish {X:Cx}{E:Xs}(ok:(X.wish E).Ok):X.Ok:=
 ⟨ok.mod,ok.kind,ok.glob,ok.blt,ok.above,ok.inj,ok.has,ok.cab,ok.hd,ok.frames,ok.stk,ok.exf,ok.bs,ok.bsz,ok.noex,ok.exfs,ok.funs,ok.frf⟩
section
variable {X:Cx}{pins:Xu}{σ:St}{H:Hp}{s:Shared}{E:Xs}
theorem Inv.wish (I:Inv X pins σ H s)(E:Xs):Inv (X.wish E) pins σ H s:=⟨I.ok.wish E,I.os,I.bare,I.base,I.loc,I.cell,I.free,I.freeC,I.pin,I.hok,I.len⟩
theorem Inv.unwish (I:Inv (X.wish E) pins σ H s):Inv X pins σ H s:=⟨I.ok.unwish,I.os,I.bare,I.base,I.loc,I.cell,I.free,I.freeC,I.pin,I.hok,I.len⟩
theorem SP.unwish   {s':Shared}(h:SP (X.wish E) pins D f s'):SP X pins D f s':=by
 cases f with
 |next=>obtain⟨σ',H',I,q⟩:=h;exact⟨σ',H',I.unwish,q⟩
 |brk=>obtain⟨σ',H',I,q⟩:=h;exact⟨σ',H',I.unwish,q⟩
 |cont=>obtain⟨σ',H',I,q⟩:=h;exact⟨σ',H',I.unwish,q⟩
 |ret u=>obtain⟨v,σ',H',I,r,q⟩:=h;exact⟨v,σ',H',I.unwish,r,q⟩
theorem PSs.nox {st:List Stmt}  (h:PSs X.nox st t):PSs X st t:=fun pins s σ H D I hw=>
 Vh (h pins s σ H D (I.wish _) hw) (fun _ _ q=>q.unwish) fun _ _ z=>False.elim z
end
section
variable {X:Cx}{st:Stmt}{rest:List Stmt}{t u:TS}{e:Expr}{te:TE}{pos:Pos}
noncomputable def DI:TS:=fun D σ H=>D.nx σ H
noncomputable def KZ (t u:TS):TS:=fun D σ H=>t { D with nx:=u D } σ H
def xT:PSs X [] DI:=fun _ _ σ H _ I h=>WD ⟨σ,H,I,h⟩
def aB (h1:PS X st t)(h2:PSs X rest u):PSs X (st::rest) (KZ t u):=by
 intro pins s σ H D I h;refine wpAny_execs_cons (thn (h1 pins s σ H { D with nx:=u D } I h) fun f s1 q=>?_);cases f with
 |next=>
  obtain⟨σ',H',I',q⟩:=q;exact h2 pins s1 σ' H' D I' q
 |ret v|brk|cont=>exact q
def cQ (h1:PS X st t):PSs X [st] t:=by
 intro pins s σ H D I h;refine wpAny_execs_cons (thn (h1 pins s σ H D I h) fun f s1 q=>?_);cases f with
 |next=>exact WD q
 |ret v|brk|cont=>exact q
def Inv.quiet {pins:Xu}{σ:St}{H:Hp}{s:Shared}(I:Inv X pins σ H s):interactive X.env=false:=by simp[interactive,I.ok.kind]
noncomputable def uN (te:TE):TS:=fun D σ H=>te σ H fun _ H1=>D.nx σ H1
def rS (he:PE X e te)(hs:swapsWith e none pos.line X.env=pure false:=by rfl):PS X (.Expr e pos) (uN te):=by intro pins s σ H D I h;exact wpAny_Expr_any (thn (he pins s σ H _ I h) fun v s1 ⟨x,H1,I1,r1,q1⟩=>⟨σ,H1,I1,q1⟩) I.quiet hs
noncomputable def IG (te:TE):TS:=fun D σ H=>te σ H D.rt
def hZ (he:PE X e te):PS X (.Return (some e) pos) (IG te):=by intro pins s σ H D I h;exact wpAny_Return_some (thn (he pins s σ H _ I h) fun v s1 ⟨x,H1,I1,r1,q1⟩=>⟨x,σ,H1,I1,r1,q1⟩)
noncomputable def KW (c:TT)(t u:TS):TS:=fun D σ H=>c σ H fun b H1=>if b=true then t D σ H1 else u D σ H1
def Hz {c:Expr}{a b:List Stmt}{tc:TT}(hc:PT X c tc)(ha:PSs X a t)(hb:PSs X b u):PS X (.If c a b pos) (KW tc t u):=by
 intro pins s σ H D I h;refine wpAny_If (thn (hc pins s σ H _ I h) fun d s1 hpt9=>?_);obtain⟨H1,I1,q1⟩:=hpt9;cases d with
 |true=>exact ha pins s1 σ H1 D I1 q1
 |false=>exact hb pins s1 σ H1 D I1 q1
noncomputable def uP:TS:=fun _ _ _=>False
def HA:PS X st uP:=fun _ _ _ _ _ _ h=>h.elim
def Fc:PSs X sts uP:=fun _ _ _ _ _ _ h=>h.elim
end
noncomputable abbrev TG:=V->St->Hp->(St->Hp->Prop)->Prop
noncomputable abbrev TGs:=Xo->St->Hp->(St->Hp->Prop)->Prop
def PG (X:Cx)(target:Expr)(t:TG):Prop:=
 ∀(pins:Xu) (s:Shared) (σ:St) (H:Hp) (v:V) (u:Value) (Q:St->Hp->Prop),Inv X pins σ H s->RelV v u->t v σ H Q ->
  wpAny (model X.prog X.w) X.A (assign target X.env u) (fun _ s'=>∃σ' H',Inv X pins σ' H' s'/\Q σ' H') X.xe s
def PGs (X:Cx)(ts:List Expr)(t:TGs):Prop:=
 ∀(pins:Xu) (s:Shared) (σ:St) (H:Hp) (vs:Xo) (us:Xw) (Q:St->Hp->Prop),Inv X pins σ H s->Vals vs us->t vs σ H Q ->
  wpAny (model X.prog X.w) X.A (assignInOrder ((assignEach ts X.env).map (·.2)) us) (fun _ s'=>∃σ' H',Inv X pins σ' H' s'/\Q σ' H') X.xe s
noncomputable abbrev LH:=V->V->V->Hp->(Hp->Prop)->Prop
def LG (X:Cx)(t:LH):Prop:=
 ∀(pins:Xu) (s:Shared) (σ:St) (H:Hp) (o i v:V) (ov iv u:Value) (Q:Hp->Prop),Inv X pins σ H s->RelV o ov->RelV i iv->RelV v u->t o i v H Q ->
  wpAny (model X.prog X.w) X.A (setItem ov iv u) (fun _ s'=>∃H',Inv X pins σ H' s'/\Q H') X.xe s
noncomputable abbrev TIp:=V->V->Hp->VK->Prop
def PIp (X:Cx)(op:Operator)(t:TIp):Prop:=
 ∀(pins:Xu) (s:Shared) (σ:St) (H:Hp) (x y:V) (v u:Value) (Q:VK),Inv X pins σ H s->RelV x v->RelV y u->t x y H Q ->
  wpAny (model X.prog X.w) X.A (inplaceOp op v u) (EP X pins σ Q) X.xe s
section
variable {X:Cx}{pos:Pos}
noncomputable def iw (i:Nat):TG:=fun v σ H Q=>Q (σ.set i (some v)) H
def rR {i:Nat}{x:Str}(hN:X.N.Nodup)(hi:X.N[i]?=some x)(hx:Loc X.env.scope x)(hf:X.fn x=true\/X.env.scope.names.lookup x=some .local:=by first|exact .inl rfl|exact .inr rfl|assumption):PG X (.Name x pos) (iw i):=by intro pins s σ H v u Q I r h;exact wpAny_assign_Name (uM I hN hi hx r (fun s' I'=>⟨_,H,I',h⟩) hf)
noncomputable def JI:TGs:=fun vs σ H Q=>vs=[]/\Q σ H
noncomputable def CU (t:TG)(u:TGs):TGs:=fun vs σ H Q=>∃v r,vs=v::r/\t v σ H fun σ' H'=>u r σ' H' Q
def Ki:PGs X [] JI:=by intro pins s σ H vs us Q I r h;obtain⟨e,h⟩:=h;subst e;cases r;exact assignInOrder_nil ⟨σ,H,I,h⟩
def Ht {e:Expr}{es:List Expr}{t:TG}{u:TGs}(h1:PG X e t)(h2:PGs X es u)
  (hs:(assignEach (e::es) X.env).map (·.2)=assign e X.env::(assignEach es X.env).map (·.2):=by rfl):PGs X (e::es) (CU t u):=by
 intro pins s σ H vs us Q I r h;obtain⟨v,vr,e1,h⟩:=h;subst e1;cases r with
 |cons r rr=>rw[hs];refine assignInOrder_cons (thn (h1 pins s σ H _ _ _ I r h) fun _ s1 hpt9=>?_);obtain⟨σ1,H1,I1,q1⟩:=hpt9;exact h2 pins s1 σ1 H1 _ _ Q I1 rr q1
noncomputable def GF (K:Xy)(n:Nat)(t:TGs):TG:=fun v σ H Q=>∃a xs,v = .ref a/\SqT K H a xs/\xs.length=n/\t xs σ H Q
def MR {es:List Expr}{k:Nat}  {n:Nat}(hc:X.calm=true)(h:PGs X es t)
  (hn:(assignEach es X.env).length=n:=by rfl) (hst:(assignEach es X.env).findIdx? (·.1)=none:=by rfl):PG X (.Tuple es k pos) (GF X.K n t):=by
 intro pins s σ H v u Q I r hw;obtain⟨a,xs,e1,hq,hl,hw⟩:=hw;subst e1;cases r;obtain⟨its,rv,ht,hz⟩:=I.tuple hq;refine assign_Tuple_tuple (I.ok.hd hc) ht (by simp[hn,<- hl,rv.length]) hst fun h' hx=>?_;have I1:Inv X pins σ H { s with heap:=h' }:=I.kept (t':=s.toks) fun b o e=>hx b o (T2 (TW e)) e;exact h pins _ σ H xs _ Q I1 (by simpa using rv) hw
noncomputable def Mb (to ti:TE)(t:LH):TG:=fun v σ H Q=>to σ H fun o H1=>ti σ H1 fun i H2=>t o i v H2 fun H3=>Q σ H3
def MQ {o i:Expr}{to ti:TE}{t:LH}(ho:PE X o to)(hi:PE X i ti)(hs:LG X t)
  (ha:∀v,assign (.Subscript o i pos) X.env v=(do
   let ov ← holding [v] (eval o X.env)
   let iv ← holding [v,ov] (eval i X.env)
   standAt pos
   holding [v,ov,iv] (setItem ov iv v)
   release [v,ov,iv] []):=by intro _;rfl):PG X (.Subscript o i pos) (Mb to ti t):=by
 intro pins s σ H v u Q I r h;rw[ha];refine Tq (Uw (thn (ho pins s σ H _ I h) fun ov s1 hpt9=>?_));obtain⟨x,H1,I1,r1,q1⟩:=hpt9;refine Tq (Uw (thn (hi pins s1 σ H1 _ I1 q1) fun iv s2 hpt9=>?_));obtain⟨y,H2,I2,r2,q2⟩:=hpt9;refine Tq (wpAny_standAt (Tq (Uw (thn (hs pins s2 σ H2 x y v ov iv u _ I2 r1 r2 r q2) fun _ s3 hpt9=>?_))));obtain⟨H3,I3,q3⟩:=hpt9;exact wpAny_release ⟨σ,H3,I3,q3⟩
noncomputable def yg (te:TE)(g:TG):TS:=fun D σ H=>te σ H fun x H1=>g x σ H1 D.nx
def MW {tg e:Expr}{te:TE}{g:TG}(he:PE X e te)(hg:PG X tg g)(hs:swapsWithSole [tg] e pos.line X.env=pure false:=by rfl)(hw:swappedStores [tg] e X.env=pure none:=by rfl)
  (h1:(assignEach [tg] X.env).map (·.2)=[assign tg X.env]:=by rfl):PS X (.Assign [tg] e pos) (yg te g):=by
 intro pins s σ H D I h;refine wpAny_Assign_stores (thn (he pins s σ H _ I h) fun v s1 hpt9=>?_) hs hw;obtain⟨x,H1,I1,r1,q1⟩:=hpt9;rw[h1];exact thn (hg pins s1 σ H1 x v _ I1 r1 q1) fun _ s2 q=>q
def B2 {i:Nat}{x:Str}{e:Expr}{te:TE}{pos':Pos}(hN:X.N.Nodup)(hi:X.N[i]?=some x)(hx:Loc X.env.scope x)(he:PE X e te)(hs:swapsWith e (some (.Name x pos')) pos.line X.env=pure false:=by rfl)(hf:X.fn x=true\/X.env.scope.names.lookup x=some .local:=by first|exact .inl rfl|exact .inr rfl|assumption) :
  PS X (.Assign [.Name x pos'] e pos) (yg te (iw i)):=by
 intro pins s σ H D I h;refine wpAny_Assign_Name (thn (he pins s σ H _ I h) fun v s1 hpt9=>?_) hs;obtain⟨y,H1,I1,r1,q1⟩:=hpt9;exact uM I1 hN hi hx r1 (fun s2 I2=>⟨_,H1,I2,q1⟩) hf
noncomputable def NG (i:Nat)(te:TE)(ti:TIp):TS:=fun D σ H=>∃x,σ[i]?=some (some x)/\te σ H fun y H1=>ti x y H1 fun z H2=>D.nx (σ.set i (some z)) H2
def MX {i:Nat}{x:Str}{e:Expr}{te:TE}{op:Operator}{ti:TIp}{pos':Pos}(hN:X.N.Nodup)(hi:X.N[i]?=some x)(hx:Loc X.env.scope x)(he:PE X e te)(ho:PIp X op ti)(hf:X.fn x=true\/X.env.scope.names.lookup x=some .local:=by first|exact .inl rfl|exact .inr rfl|assumption) :
  PS X (.AugAssign (.Name x pos') op e pos) (NG i te ti):=by
 intro pins s σ H D I h;obtain⟨v,e1,h⟩:=h;obtain⟨m,hn,hl⟩:=I.loc;have vis:Vis X.env.scope x:=by rcases hx with k|k;exact .inl k;exact .inr (.inl k)
 obtain⟨u,r,l⟩:=hl i x v hi e1 vis;refine wpAny_AugAssign_Name ?_;have go:wpAny (model X.prog X.w) X.A (eval e X.env) (fun w s₂=>wpAny (model X.prog X.w) X.A (inplaceOp op u w) (fun r s₃=>wpAny (model X.prog X.w) X.A (storeName X.env x r) (fun _=>SP X pins D .next) X.xe s₃) X.xe s₂) X.xe s:=by refine thn (he pins s σ H _ I h) fun w s1 hpt9=>?_;obtain⟨y,H1,I1,r1,q1⟩:=hpt9;refine thn (ho pins s1 σ H1 v y u w _ I1 r r1 q1) fun z s2 hpt9=>?_;obtain⟨zv,H2,I2,r2,q2⟩:=hpt9;exact uM I2 hN hi hx r2 (fun s3 I3=>⟨_,H2,I3,q2⟩) hf
 rcases l with ⟨hk,hm⟩|⟨hk,c,hc,hcell⟩
 ·exact wpAny_loadName_local I.ok.kind hk hn hm go
 ·rcases hk with hk|hk
  ·exact wpAny_loadName_cell I.ok.kind hk hc hcell go
  ·rcases hx with k|k
   ·have:X.env.scope.names.lookup x=some .free:=hk;rw[k] at this;cases this
   ·have:X.env.scope.names.lookup x=some .free:=hk;rw[k] at this;cases this
noncomputable def ipI (f:Int->Int->Int):TIp:=fun x y H Q=>∃i j,x = .int i/\y = .int j/\Q (.int (f i j)) H
def Ml:PIp X .Add (ipI fun i j=>i+j):=by intro pins s σ H x y v u Q I r1 r2 h;obtain⟨i,j,e1,e2,q⟩:=h;subst e1;subst e2;obtain⟨t,rfl⟩:=r1;obtain⟨t',rfl⟩:=r2;exact iadd_int ⟨.int _,H,I.tok _,⟨_,rfl⟩,q⟩
end
section
variable {X:Cx}{pos:Pos}
noncomputable def Ci (c:TT)(tb:TS):TS:=fun D σ H=>∃W:Nat->St->Hp->Prop,(∃m,W m σ H)/\∀m σ H,W m σ H ->
 c σ H fun b H1=>if b=true then ∃N:St->Hp->Prop,(∀σ' H',N σ' H'->∃m',m'<m/\W m' σ' H')/\tb { D with nx:=N,ct:=N,bk:=D.nx } σ H1 else D.nx σ H1
def Ab {c:Expr}{body:List Stmt}{tc:TT}{tb:TS}(hp:PassesOwn (model X.prog X.w) X.A X.env X.xe)(hc:PT X c tc)(hb:PSs X body tb):PS X (.While c body [] pos) (Ci tc tb):=by
 intro pins s σ H D I h;obtain⟨W,⟨m0,w0⟩,turn⟩:=h;refine wpAny_While (codeAny_whileLoop (fun n s'=>∃σ' H',Inv X pins σ' H' s'/\W n σ' H') ?_ m0 ⟨σ,H,I,w0⟩);rintro n s1 ⟨σ1,H1,I1,w1⟩;refine VH hp (thn (hc pins s1 σ1 H1 _ I1 (turn n σ1 H1 w1)) fun b s2 hpt9=>?_);obtain⟨H2,I2,q2⟩:=hpt9;cases b with
 |true=>
  obtain⟨N,hN,q2⟩:=q2;rw[Ts rfl];refine VH hp (thn (hb pins s2 σ1 H2 _ I2 q2) fun f s3 q3=>?_);cases f with
  |next=>
   obtain⟨σ3,H3,I3,n3⟩:=q3;obtain⟨m',hm,w3⟩:=hN σ3 H3 n3;exact⟨m',hm,σ3,H3,I3,w3⟩
  |cont=>
   obtain⟨σ3,H3,I3,n3⟩:=q3;obtain⟨m',hm,w3⟩:=hN σ3 H3 n3;exact⟨m',hm,σ3,H3,I3,w3⟩
  |brk|ret _=>exact q3
 |false=>rw[Tr U0];exact WD ⟨σ1,H2,I2,q2⟩
end
structure It where
 go:Nat->Hp->Prop
 yld:Nat->Hp->V->Hp->Prop
 stop:Nat->Hp->Prop
def u5 (X:Cx)(pins:Xu)(H:Hp)(b:Addr):Prop:=
 H b=none/\b≠X.env.locals/\b∉X.fs/\(b∈X.ex\/X.s₀.heap.objs.size<=b)/\(∀x c,X.env.cells.lookup x=some c->c≠b)/\∀p∈X.pn++pins,p.1≠b
def Inv.fpOk  {pins:Xu}  {H':Hp}  {b:Addr}(I:Inv X pins σ H s)(hb:s.heap.objs.size<=b)(hn:H' b=none):u5 X pins H' b:=by
 refine⟨hn,Wd (Ul I.lt hb),I.nofs hb,.inr (Ud I.sz hb),fun x c e z=>?_,fun p hp z=>?_⟩
 ·obtain⟨v,q⟩:=I.cell x c e;exact absurd (Ul q.lt (by rw[z];exact hb)) (VR _)
 ·exact absurd (Ul (TW (I.pin p hp).1) (by rw[z];exact hb)) (VR _)
structure Turn (P:Program) (w:World) (K:Xy) (tg:Expr) (J:It) (fp:Xz) (it:Addr) (tn:Nat->Heap->Prop):Prop where
 mem:it∈fp
 obj:∀i h,tn i h->∀b∈fp,∃o,h.get? b=some o/\∀v,o.data ≠ .cell v
 keep:∀i h h',tn i h->(∀b∈fp,∀o,h.get? b=some o->h'.get? b=some o)->tn i h'
 item:∀(X:Cx),X.prog=P->X.w=w->X.K=K->X.calm=true->∀(i:Nat) (pins:Xu) (s:Shared) (σ:St) (H:Hp) (E:Xs),Inv X pins σ H s->(∀b∈fp,u5 X pins H b)->tn i s.heap->J.go i H ->
  wpAny (model P w) X.A (pyNext (.ref it)) (fun r s1=>∃u,r=some u /\
   wpAny (model P w) X.A (letOwnedTupleGo tg (.ref it) u) (fun _ s2=>∃x H',Inv X pins σ H' s2/\RelV x u/\J.yld i H x H'/\tn (i+1) s2.heap/\∀b∈fp,H' b=none) E s1) E s
 done:∀(X:Cx),X.prog=P->X.w=w->X.K=K->X.calm=true->∀(i:Nat) (pins:Xu) (s:Shared) (σ:St) (H:Hp) (E:Xs),Inv X pins σ H s->(∀b∈fp,u5 X pins H b)->tn i s.heap->J.stop i H ->
  wpAny (model P w) X.A (pyNext (.ref it)) (fun r s1=>r=none/\Inv X pins σ H s1) E s
 self:∀(A:Around) (i:Nat) (s:Shared) (Q:Xs) (E:Xs),tn i s.heap->Q (.ref it) s->wpAny (model P w) A (pyIter (.ref it)) Q E s
noncomputable abbrev TI:=St->Hp->(It->Hp->Prop)->Prop
def PIE (X:Cx)(pins:Xu)(σ:St)(tg:Expr)(R:It->Hp->Prop)(itv:Value)(s2:Shared):Prop:=
 ∃(it:Addr) (fp:Xz) (tn:Nat->Heap->Prop) (J:It) (H':Hp),itv = .ref it/\Inv X pins σ H' s2/\Turn X.prog X.w X.K tg J fp it tn/\tn 0 s2.heap/\(∀b∈fp,u5 X pins H' b)/\R J H'
def PI (X:Cx)(tg iter:Expr)(wi:TI):Prop:=
 ∀(pins:Xu) (s:Shared) (σ:St) (H:Hp) (R:It->Hp->Prop),Inv X pins σ H s->wi σ H R ->
  wpAny (model X.prog X.w) X.A (eval iter X.env) (fun v s1=>wpAny (model X.prog X.w) X.A (pyIter v) (PIE X pins σ tg R) X.xe s1) X.xe s
def s9    {s:Shared}{tg:Expr}{it:Addr}  {o:Obj}{n:String}{vs:Array Value}{Q:Unit->Shared->Prop}(ho:s.heap.get? it=some o)(hc:o.cls = .type n)(hd:o.data = .fields vs)
  (hn:["enumerate", "zip", "dict_itemiterator", "dict_reverseitemiterator", "odict_iterator", "itertools.zip_longest", "itertools.pairwise"].contains n=false) (hQ:Q Unit.unit s):wpAny M A (letOwnedTupleGo tg (.ref it) u) Q E s:=by
 unfold letOwnedTupleGo
 cases tg<;>first
  |exact Tt hQ
  | (cases u<;>first
    |exact Tt hQ
    | (refine Tq (wpAny_load ho ?_)
       rw[hc,hd];show wpAny M A (if (["enumerate", "zip", "dict_itemiterator", "dict_reverseitemiterator", "odict_iterator", "itertools.zip_longest", "itertools.pairwise"].contains n&&vs[0]?==some (rawInt _))=true then _ else _) Q E s;rw[Tr (by intro h;rw[hn,Bool.false_and] at h;cases h)]
       exact Tt hQ))
noncomputable def Itl (K:Xy)(a:Addr):It:=
 ⟨fun i H=>∃xs x,SqL K H a xs/\xs[i]?=some x,fun i H x H'=>H'=H/\∀xs,SqL K H a xs->xs[i]?=some x,fun i H=>∃xs,SqL K H a xs/\xs.length<=i⟩
noncomputable def Itt (K:Xy)(a:Addr):It:=
 ⟨fun i H=>∃xs x,SqT K H a xs/\xs[i]?=some x,fun i H x H'=>H'=H/\∀xs,SqT K H a xs->xs[i]?=some x,fun i H=>∃xs,SqT K H a xs/\xs.length<=i⟩
noncomputable def Itr (lo:Int)(n:Nat):It:=⟨fun i _=>i<n,fun i H x H'=>H'=H/\x = .int (lo+i),fun i _=>n<=i⟩
def Fz {P:Program}{w:World}{K:Xy}{tg:Expr}(a it:Addr):Turn P w K tg (Itl K a) [it] it (fun i h=>h.IsListIter it a i) where
 mem:=by simp
 obj:=fun i h st b hb=>by
  have e:b=it:=by simpa using hb
  subst e;obtain⟨o,e,c,d⟩:=st;exact⟨o,e,fun v z=>by rw[d] at z;cases z⟩
 keep:=fun i h h' st k=>st.at fun o e=>k it (by simp) o e
 item:=by intro X hP hw hK hc i pins s σ H E I hf st hg;subst hP hw hK;obtain⟨xs,x,hq,hx⟩:=hg;obtain⟨its,rv,p,hz⟩:=I.list hq;obtain⟨u,hu,ru⟩:=rv.get hx;obtain⟨f0,f1,f2,f3,f4,f5⟩:=hf it (by simp);refine wpAny_pyNext_list_item st p.isList (x:=u) (by simpa using hu) fun h' st' sb=>?_;have I1:Inv X pins σ H { s with heap:=h' }:=I.turned (t':=s.toks) (fun b o hb e=>(sb.2 b hb).trans e) f0 f1 f3 f4 f5;obtain⟨o,e,c,d⟩:=id st';exact⟨u,rfl,s9 (s:={ s with heap:=h' }) e c d (by decide) ⟨x,H,I1,ru,⟨rfl,fun ys hy=>by rw[I.list_inj hy hq];exact hx⟩,st',fun b hb=>(hf b hb).1⟩⟩
 done:=by intro X hP hw hK hc i pins s σ H E I hf st hg;subst hP hw hK;obtain⟨xs,hq,hx⟩:=hg;obtain⟨its,rv,p,hz⟩:=I.list hq;obtain⟨f0,f1,f2,f3,f4,f5⟩:=hf it (by simp);have hl:=rv.length;exact wpAny_pyNext_list_end (I.ok.hd hc) st p.isList (by simp;lia) fun h' eb=>⟨rfl,I.turned (t':=s.toks) (fun b o hb e=>eb b o hb e) f0 f1 f3 f4 f5⟩
 self:=fun _ _ _ _ _ st h=>wpAny_pyIter_listiter st h
def Ck {P:Program}{w:World}{K:Xy}{tg:Expr}(a it:Addr):Turn P w K tg (Itt K a) [it] it (fun i h=>h.IsTupleIter it a i) where
 mem:=by simp
 obj:=fun i h st b hb=>by
  have e:b=it:=by simpa using hb
  subst e;obtain⟨o,e,c,d⟩:=st;exact⟨o,e,fun v z=>by rw[d] at z;cases z⟩
 keep:=fun i h h' st k=>st.at fun o e=>k it (by simp) o e
 item:=by intro X hP hw hK hc i pins s σ H E I hf st hg;subst hP hw hK;obtain⟨xs,x,hq,hx⟩:=hg;obtain⟨its,rv,p,hz⟩:=I.tuple hq;obtain⟨u,hu,ru⟩:=rv.get hx;obtain⟨f0,f1,f2,f3,f4,f5⟩:=hf it (by simp);refine wpAny_pyNext_tuple_item st (show s.heap.IsTuple a its.toArray from p) (x:=u) (by simpa using hu) fun h' st' sb=>?_;have I1:Inv X pins σ H { s with heap:=h' }:=I.turned (t':=s.toks) (fun b o hb e=>(sb.2 b hb).trans e) f0 f1 f3 f4 f5;obtain⟨o,e,c,d⟩:=id st';exact⟨u,rfl,s9 (s:={ s with heap:=h' }) e c d (by decide) ⟨x,H,I1,ru,⟨rfl,fun ys hy=>by rw[I.tuple_inj hy hq];exact hx⟩,st',fun b hb=>(hf b hb).1⟩⟩
 done:=by intro X hP hw hK hc i pins s σ H E I hf st hg;subst hP hw hK;obtain⟨xs,hq,hx⟩:=hg;obtain⟨its,rv,p,hz⟩:=I.tuple hq;obtain⟨f0,f1,f2,f3,f4,f5⟩:=hf it (by simp);have hl:=rv.length;exact wpAny_pyNext_tuple_end (I.ok.hd hc) st (show s.heap.IsTuple a its.toArray from p) (by simp;lia) fun h' eb=>⟨rfl,I.turned (t':=s.toks) (fun b o hb e=>eb b o hb e) f0 f1 f3 f4 f5⟩
 self:=fun _ _ _ _ _ st h=>wpAny_pyIter_tupleiter st h
def Cj {P:Program}{w:World}{K:PySem.W.Frag}{tg:Expr}(it:Addr)(lo:Int)(n:Nat):Turn P w K tg (Itr lo n) [it] it (fun i h=>IsRangeIter h it (lo+(i:Nat) * 1) ((n:Int)-(i:Nat)) 1) where
 mem:=by simp
 obj:=fun i h st b hb=>by
  have e:b=it:=by simpa using hb
  subst e;exact⟨_,st,fun v z=>by
   have z':Data.fields _=Data.cell v:=z
   cases z'⟩
 keep:=fun i h h' st k=>k it (by simp) _ st
 item:=by intro X hP hw hK hc i pins s σ H E I hf st hg;subst hP hw hK;obtain⟨f0,f1,f2,f3,f4,f5⟩:=hf it (by simp);have W:=Walks.range (prog:=X.prog) (w:=X.w) (I.ok.hd hc) it lo 1 n;refine W.item i s _ _ hg st fun v h' tk hv st' kk=>?_;obtain⟨t,rfl⟩:=hv;have I1:Inv X pins σ H { s with heap:=h',toks:=tk }:=I.turned (fun b o hb e=>kk b o (by simpa using hb) e) f0 f1 f3 f4 f5;refine⟨_,rfl,s9 (s:={ s with heap:=h',toks:=tk }) (n := "range_iterator") st' rfl rfl (by decide) ⟨.int (lo+i),H,I1,⟨t,?_⟩,⟨rfl,rfl⟩,st',fun b hb=>(hf b hb).1⟩⟩;rw[Int.mul_one]
 done:=by intro X hP hw hK hc i pins s σ H E I hf st hg;subst hP hw hK;obtain⟨f0,f1,f2,f3,f4,f5⟩:=hf it (by simp);exact WV (I.ok.hd hc) st (by have:n<=i:=hg;lia) fun h' eb=>⟨rfl,I.turned (t':=s.toks) (fun b o hb e=>eb b o hb e) f0 f1 f3 f4 f5⟩
 self:=fun _ _ _ _ _ st h=>WW st h
section
variable {X:Cx}{tg:Expr}
def HR {pins:Xu}{σ:St}{H:Hp}{s:Shared}{R:It->Hp->Prop}{E:Xs}{lo hi:Int}{t u v:Tok}{tk:Nat}(I:Inv X pins σ H s)(h1:-(2 ^ 62)<=lo)(h2:lo<2 ^ 62)(h3:-(2 ^ 62)<=hi)(h4:hi<2 ^ 62)
  (q:R (Itr lo (hi-lo).toNat) H):wpAny (model X.prog X.w) X.A (pyIter (.ref s.heap.objs.size)) (PIE X pins σ tg R) E { s with heap:=s.heap.push { cls:=.type "range",data:=.fields #[.int lo t,.int hi u,.int 1 v] },toks:=tk }:=by
 refine wpAny_pyIter_range (IsRange.new ..) (small_one h1 h2 h3 h4) ?_;have I1:Inv X pins σ H { s with heap:=s.heap.push { cls:=.type "range",data:=.fields #[.int lo t,.int hi u,.int 1 v] },toks:=tk }:=I.kept fun b o e=>TU _ e;refine⟨(s.heap.push { cls:=.type "range",data:=.fields #[.int lo t,.int hi u,.int 1 v] }).objs.size,[(s.heap.push { cls:=.type "range",data:=.fields #[.int lo t,.int hi u,.int 1 v] }).objs.size],_,_,H,rfl,
  I1.kept (t':=tk) fun b o e=>TU _ e,Cj _ lo (hi-lo).toNat,?_,fun b hb=>?_,q⟩
 ·have e1:lo+((0:Nat):Int) * 1=lo:=by simp
  have e2:(((hi-lo).toNat:Nat):Int)-((0:Nat):Int)=Builtin.Range.rangeSize lo hi 1:=by rw[rangeSize_one];split<;>lia
  show IsRangeIter _ _ (lo+((0:Nat):Int) * 1) ((((hi-lo).toNat:Nat):Int)-((0:Nat):Int)) 1;rw[e1,e2];exact T8 _ rfl
 ·have e:b=(s.heap.push { cls:=.type "range",data:=.fields #[.int lo t,.int hi u,.int 1 v] }).objs.size:=by simpa using hb
  subst e;exact I1.fpOk (TB _) (I1.hok.fresh (TB _))
noncomputable def K9 (ta:TA):TI:=fun σ H R=>ta σ H fun vs H1=>∃j:Int,vs=[.int j] /\ -(2 ^ 62)<=j/\j<2 ^ 62/\R (Itr 0 j.toNat) H1
def E2 {a:Expr}{ta:TA}{p pos:Pos}(hg:Gl X "range") (hm:X.mg "range" = none) (ha:PA X [a] ta) (hs:starEach [a] X.env=[(false,eval a X.env)]:=by rfl):PI X tg (.Call (.Name "range" p) [a] [] pos) (K9 ta):=by
 intro pins s σ H R I h;refine Call_ (g6 I hg hm boot_range (VI (thn (ha pos pins s σ H _ I h) fun us s1 hpt9=>?_) hs rfl));obtain⟨vs,H1,I1,r1,q1⟩:=hpt9;obtain⟨j,e,q1,q2,q⟩:=q1;subst e;cases r1 with
 |cons r rr=>cases rr;obtain⟨t,rfl⟩:=r;exact call_range_1 (HR I1 () () q1 q2 (by simpa using q))
noncomputable def Fx (wi:TI)(g:TG)(tb:TS):TS:=fun D σ H=>wi σ H fun J H1=>∃W:Nat->Nat->St->Hp->Prop,(∃m,W 0 m σ H1)/\∀i m σ H,W i m σ H ->
 (J.stop i H/\D.nx σ H)\/(J.go i H/\∃N:St->Hp->Prop,(∀σ' H',N σ' H'->∃m',m'<m/\W (i+1) m' σ' H')/\∀x H',J.yld i H x H'->g x σ H' fun σ2 H2=>tb { D with nx:=N,ct:=N,bk:=D.nx } σ2 H2)
noncomputable def uj (fp:Xz)(h:Heap):Xu:=fp.filterMap fun b=>(h.get? b).map fun o=>(b,o)
def jG {fp:Xz}{h:Heap}{b:Addr}{o:Obj}(hb:b∈fp)(e:h.get? b=some o):(b,o)∈uj fp h:=VJ.mpr ⟨b,hb,by rw[e];rfl⟩
def EU {fp:Xz}  {p:Addr×Obj}(hp:p∈uj fp h):p.1∈fp/\h.get? p.1=some p.2:=by
 obtain⟨b,hb,e⟩:=VJ.mp hp;cases q:h.get? b with
 |none=>rw[q] at e;cases e
 |some o=>rw[q] at e;have e':(b,o)=p:=Uh e;subst e';exact⟨hb,q⟩
def Inv.pinned {pins:Xu}    {fp:Xz}(I:Inv X pins σ H s)(hf:∀b∈fp,u5 X pins H b)(ho:∀b∈fp,∃o,s.heap.get? b=some o/\∀v,o.data ≠ .cell v):Inv X (pins++uj fp s.heap) σ H s:=
 I.pins_of fun p hp=>(TH.mp hp).elim (fun z=>I.pin p (TV _ z)) fun z=>by obtain⟨hb,e⟩:=EU z;obtain⟨f0,f1,f2,_⟩:=hf p.1 hb;obtain⟨o,e',d⟩:=ho p.1 hb;rw[e] at e';cases e';exact⟨e,f0,f1,f2,d⟩
def Inv.unpinned {pins pl:Xu}    (I:Inv X (pins++pl) σ H s):Inv X pins σ H s:=I.pins_of fun p hp=>I.pin p (TV _ (TK _ hp))
def nk {iter:Expr}{body:List Stmt}{wi:TI}{g:TG}{tb:TS}{pos:Pos}(hp:PassesOwn (model X.prog X.w) X.A X.env X.xe)(hc:X.calm=true)(hi:PI X tg iter wi)(hg:PG X tg g)(hb:PSs X body tb)
  (hs:∀x,foldedSetIterable iter X.env x=pure x:=by intro _;rfl):PS X (.For tg iter body [] pos) (Fx wi g tb):=by
 intro pins s σ H D I h;refine wpAny_For (thn (hi pins s σ H _ I h) fun v s1 h1=>thn h1 fun itv s2 h2=>?_) hs;obtain⟨it,fp,tn,J,H2,e,I2,T,st2,f2,W,⟨m0,w0⟩,turn⟩:=h2;subst e
 -- what stays true of the iterator's objects through the loop
 have stat:∀ {H':Hp},(∀b∈fp,H' b=none)->∀b∈fp,u5 X pins H' b:=fun hn b hb=>⟨hn b hb,(f2 b hb).2⟩
 refine codeAny_forLoop_any (fun n s'=>∃i σ' H',Inv X pins σ' H' s'/\tn i s'.heap/\(∀b∈fp,H' b=none)/\W i n σ' H') ?_ m0 ⟨0,σ,H2,I2,st2,fun b hb=>(f2 b hb).1,w0⟩;rintro n s3 ⟨i,σ3,H3,I3,st3,fr3,w3⟩;rcases turn i n σ3 H3 w3 with ⟨stop,qn⟩|⟨go,N,hN,step⟩
 ·refine VH hp (thn (T.done X rfl rfl rfl hc i pins s3 σ3 H3 X.xe I3 (stat fr3) st3 stop) fun r s4 ⟨hr,I4⟩=>?_);subst hr;exact WD ⟨σ3,H3,I4,qn⟩
 ·refine VH hp (thn (T.item X rfl rfl rfl hc i pins s3 σ3 H3 X.xe I3 (stat fr3) st3 go) fun r s4 ⟨u,hr,h4⟩=>?_);subst hr;refine VH hp (thn h4 fun _ s5 hpt9=>?_);obtain⟨x,H5,I5,r5,y5,st5,fr5⟩:=hpt9;have I5':=I5.pinned (stat fr5) (T.obj _ _ st5);refine VH hp (thn (hg _ s5 σ3 H5 x u _ I5' r5 (step x H5 y5)) fun _ s6 hpt9=>?_);obtain⟨σ6,H6,I6,q6⟩:=hpt9;refine VH hp (thn (hb _ s6 σ6 H6 _ I6 q6) fun f s7 q7=>?_);have again:∀ {σ7:St} {H7:Hp},Inv X (pins++uj fp s5.heap) σ7 H7 s7->N σ7 H7->∃m,m<n/\∃i σ' H',Inv X pins σ' H' s7/\tn i s7.heap/\(∀b∈fp,H' b=none)/\W i m σ' H':=fun {σ7 H7} I7 n7=>by
   obtain⟨m',hm,w7⟩:=hN σ7 H7 n7;refine⟨m',hm,i+1,σ7,H7,I7.unpinned,T.keep _ _ _ st5 fun b hb o e=>(I7.pin (b,o) (TV _ (TV _ (jG hb e)))).1,fun b hb=>?_,w7⟩;obtain⟨o,e,d⟩:=T.obj _ _ st5 b hb;exact (I7.pin (b,o) (TV _ (TV _ (jG hb e)))).2.1
  cases f with
  |next=>obtain⟨σ7,H7,I7,n7⟩:=q7;exact again I7 n7
  |cont=>obtain⟨σ7,H7,I7,n7⟩:=q7;exact again I7 n7
  |brk=>obtain⟨σ7,H7,I7,q7⟩:=q7;exact⟨σ7,H7,I7.unpinned,q7⟩
  |ret v=>obtain⟨x7,σ7,H7,I7,r7,q7⟩:=q7;exact⟨x7,σ7,H7,I7.unpinned,r7,q7⟩
end
noncomputable abbrev R2:=V->V->Hp->VK->Prop
def OpR (X:Cx)(f:Value->Value->Sem Value)(r:R2):Prop:=
 ∀(pins:Xu) (s:Shared) (σ:St) (H:Hp) (x y:V) (v u:Value) (Q:VK),Inv X pins σ H s->RelV x v->RelV y u->r x y H Q ->
  wpAny (model X.prog X.w) X.A (f v u) (EP X pins σ Q) X.xe s
def UnR (X:Cx)(f:Value->Sem Value)(r:V->Hp->VK->Prop):Prop:=
 ∀(pins:Xu) (s:Shared) (σ:St) (H:Hp) (x:V) (v:Value) (Q:VK),Inv X pins σ H s->RelV x v->r x H Q ->
  wpAny (model X.prog X.w) X.A (f v) (EP X pins σ Q) X.xe s
def CallR (X:Cx)(f:Value)(r:Xo->Hp->VK->Prop):Prop:=
 ∀(pins:Xu) (s:Shared) (σ:St) (H:Hp) (xs:Xo) (us:Xw) (Q:VK),Inv X pins σ H s->Vals xs us->r xs H Q ->
  wpAny (model X.prog X.w) X.A (call f us) (EP X pins σ Q) X.xe s
def Qs (X:Cx)(r:V->Hp->(Bool->Hp->Prop)->Prop):Prop:=
 ∀(pins:Xu) (s:Shared) (σ:St) (H:Hp) (x:V) (v:Value) (Q:Bool->Hp->Prop),Inv X pins σ H s->RelV x v->r x H Q ->
  wpAny (model X.prog X.w) X.A (truthy v) (TP X pins σ Q) X.xe s
noncomputable def tOp (r:R2)(ta tb:TE):TE:=fun σ H Q=>ta σ H fun x H1=>tb σ H1 fun y H2=>r x y H2 Q
noncomputable def tUn (r:V->Hp->VK->Prop)(ta:TE):TE:=fun σ H Q=>ta σ H fun x H1=>r x H1 Q
noncomputable def rI (C:Int->Int->Prop)(g:Int->Int->V):R2:=fun x y H Q=>∃i j,x = .int i/\y = .int j/\C i j/\Q (g i j) H
noncomputable def rI0 (g:Int->Int->V):R2:=fun x y H Q=>∃i j,x = .int i/\y = .int j/\Q (g i j) H
noncomputable def rU (g:Int->V):V->Hp->VK->Prop:=fun x H Q=>∃i,x = .int i/\Q (g i) H
section
variable {X:Cx}{a b c:Expr}{ta tb tc:TE}{pos:Pos}
def LY (ha:PE X a ta)(hb:PE X b tb){pins:Xu}{s:Shared}{σ:St}{H:Hp}{R:V->V->Hp->Prop}(I:Inv X pins σ H s)
  (h:ta σ H fun x H1=>tb σ H1 fun y H2=>R x y H2) {Q:Xs} {f:Value->Value->Sem Value}
  (hf:∀v u s2 x y H2,Inv X pins σ H2 s2->RelV x v->RelV y u->R x y H2->wpAny (model X.prog X.w) X.A (f v u) Q X.xe s2) :
  wpAny (model X.prog X.w) X.A (eval a X.env) (fun v s₁=>wpAny (model X.prog X.w) X.A (eval b X.env) (fun u s₂=>wpAny (model X.prog X.w) X.A (f v u) Q X.xe s₂) X.xe s₁) X.xe s:=by
 refine thn (ha pins s σ H _ I h) fun v s1 hpt9=>?_;obtain⟨x,H1,I1,r1,q1⟩:=hpt9;refine thn (hb pins s1 σ H1 _ I1 q1) fun u s2 hpt9=>?_;obtain⟨y,H2,I2,r2,q2⟩:=hpt9;exact hf v u s2 x y H2 I2 r1 r2 q2
def Lj   (ho:OpR X (binaryOp op) r)(ha:PE X a ta)(hb:PE X b tb):PE X (.BinOp a op b pos) (tOp r ta tb):=by intro pins s σ H Q I h;exact wpAny_BinOp (LY ha hb I h fun v u s2 x y H2 I2 rx ry q=>ho pins s2 σ H2 x y v u Q I2 rx ry q)
def OY {op:UnaryOp}{r:V->Hp->VK->Prop}(ho:UnR X (unaryOp op) r)(ha:PE X a ta):PE X (.UnaryOp op a pos) (tUn r ta):=by intro pins s σ H Q I h;exact UnaryOp_ (thn (ha pins s σ H _ I h) fun v s1 ⟨x,H1,I1,r1,q1⟩=>ho pins s1 σ H1 x v Q I1 r1 q1)
def opI {f:Value->Value->Sem Value}{C:Int->Int->Prop}{g:Int->Int->Int}
  (rule:∀(i j:Int) (t u:Tok) (s:Shared) (Q:Xs) (E:Xs),C i j->Q (.int (g i j) s.toks) { s with toks:=s.toks+1 }->wpAny (model X.prog X.w) X.A (f (.int i t) (.int j u)) Q E s) :
  OpR X f (rI C fun i j=>.int (g i j)):=by
 intro pins s σ H x y v u Q I rx ry h;obtain⟨i,j,rfl,rfl,hc,q⟩:=h;obtain⟨t,rfl⟩:=rx;obtain⟨t',rfl⟩:=ry;exact rule i j t t' s _ _ hc ⟨.int (g i j),H,I.tok _,⟨_,rfl⟩,q⟩
def OP {f:Value->Value->Sem Value}{g:Int->Int->Int}
  (rule:∀(i j:Int) (t u:Tok) (s:Shared) (Q:Xs) (E:Xs),Q (.int (g i j) s.toks) { s with toks:=s.toks+1 }->wpAny (model X.prog X.w) X.A (f (.int i t) (.int j u)) Q E s) :
  OpR X f (rI0 fun i j=>.int (g i j)):=by
 intro pins s σ H x y v u Q I rx ry h;obtain⟨i,j,rfl,rfl,q⟩:=h;obtain⟨t,rfl⟩:=rx;obtain⟨t',rfl⟩:=ry;exact rule i j t t' s _ _ ⟨.int (g i j),H,I.tok _,⟨_,rfl⟩,q⟩
def MA {f:Value->Value->Sem Value}{g:Int->Int->Bool}
  (rule:∀(i j:Int) (t u:Tok) (s:Shared) (Q:Xs) (E:Xs),Q (.bool (g i j)) s->wpAny (model X.prog X.w) X.A (f (.int i t) (.int j u)) Q E s) :
  OpR X f (rI0 fun i j=>.bl (g i j)):=by
 intro pins s σ H x y v u Q I rx ry h;obtain⟨i,j,rfl,rfl,q⟩:=h;obtain⟨t,rfl⟩:=rx;obtain⟨t',rfl⟩:=ry;exact rule i j t t' s _ _ ⟨.bl (g i j),H,I,rfl,q⟩
def N1 (i j:Int):Prop:=0<j/\j<1073741824
def Ly (i j:Int):Prop:=0<=j/\j<=1000000/\i.natAbs<2 ^ 64
def CMul (i j:Int):Prop:=(-(2 ^ 64)<i/\i<2 ^ 64)\/(-(2 ^ 64)<j/\j<2 ^ 64)
def CMul.ok {i j:Int}(h:CMul i j):IntMulOk i j:=by
 rcases h with ⟨h1,h2⟩|⟨h1,h2⟩
 ·exact .of_left (intBits_le_64 h1 h2)
 ·exact .of_right (intBits_le_64 h1 h2)
def op_add:OpR X (binaryOp .Add) (rI0 fun i j=>.int (i+j)):=OP fun _ _ _ _ _ _ _ q=>add_int q
def MF:OpR X (binaryOp .Sub) (rI0 fun i j=>.int (i-j)):=OP fun _ _ _ _ _ _ _ q=>sub_int q
def MC:OpR X (binaryOp .Mult) (rI CMul fun i j=>.int (i * j)):=opI fun _ _ _ _ _ _ _ hc q=>mul_int q hc.ok
def Ka:OpR X (binaryOp .FloorDiv) (rI N1 fun i j=>.int (i / j)):=opI fun i j _ _ _ _ _ hc q=>by have h1:(0:Int)<j:=hc.1;have h2:j<1073741824:=hc.2;exact floordiv_int () (by rw[Int.fdiv_eq_ediv_of_nonneg i ()];exact q) (.inl (PyProof.noPylong_small ()))
def MB:OpR X (binaryOp .Mod) (rI (fun _ j=>0<j) fun i j=>.int (i % j)):=opI fun i j _ _ _ _ _ hc q=>by have h1:(0:Int)<j:=hc;exact mod_int' () (by rw[Int.fmod_eq_emod_of_nonneg i ()];exact q)
def ME:OpR X (binaryOp .Pow) (rI Ly fun i j=>.int (i ^ j.toNat)):=opI fun _ _ _ _ _ _ _ hc q=>pow_int_small hc.1 hc.2.1 hc.2.2 q
def unI {f:Value->Sem Value}{g:Int->Int}
  (rule:∀(i:Int) (t:Tok) (s:Shared) (Q:Xs) (E:Xs),Q (.int (g i) s.toks) { s with toks:=s.toks+1 }->wpAny (model X.prog X.w) X.A (f (.int i t)) Q E s) :
  UnR X f (rU fun i=>.int (g i)):=by
 intro pins s σ H x v Q I rx h;obtain⟨i,rfl,q⟩:=h;obtain⟨t,rfl⟩:=rx;exact rule i t s _ _ ⟨.int (g i),H,I.tok _,⟨_,rfl⟩,q⟩
def NN:UnR X (unaryOp .USub) (rU fun i=>.int (-i)):=unI fun _ _ _ _ _ q=>neg_int q
end
section
variable {X:Cx}{a b c:Expr}{ta tb tc:TE}{pos:Pos}
def OU:OpR X (compareOp .Lt) (rI0 fun i j=>.bl (decide (i<j))):=MA fun _ _ _ _ _ _ _ q=>lt_int q
def OT:OpR X (compareOp .LtE) (rI0 fun i j=>.bl (decide (i<=j))):=MA fun _ _ _ _ _ _ _ q=>le_int q
def OQ:OpR X (compareOp .Gt) (rI0 fun i j=>.bl (decide (j<i))):=MA fun _ _ _ _ _ _ _ q=>gt_int q
def OpR.or   (h:OpR X f r)(h':OpR X f r'):OpR X f (fun x y H Q=>r x y H Q\/r' x y H Q):=by
 intro pins s σ H x y v u Q I rx ry q;rcases q with q|q
 ·exact h pins s σ H x y v u Q I rx ry q
 ·exact h' pins s σ H x y v u Q I rx ry q
def Hc (b:Expr){op:CmpOp}(h:op ≠ .In:=by decide)(h2:op ≠ .NotIn:=by decide):behindInMarks op b=false:=by
 have e1:(op==CmpOp.In)=false:=by cases op<;>first|rfl|exact absurd rfl h
 have e2:(op==CmpOp.NotIn)=false:=by cases op<;>first|rfl|exact absurd rfl h2
 cases b<;>simp[behindInMarks,e1,e2]
def Ke   (ho:OpR X (compareOp op) r)(ha:PE X a ta)(hb:PE X b tb)(hm:behindInMarks op b=false):PE X (.Compare a [op] [b] pos) (tOp r ta tb):=by intro pins s σ H Q I h;exact wpAny_Compare1 (LY ha hb I h fun v u s2 x y H2 I2 rx ry q=>ho pins s2 σ H2 x y v u Q I2 rx ry q) hm
noncomputable def DJ (t:TE):TT:=fun σ H Q=>t σ H fun x H'=>∃k,x = .bl k/\Q k H'
def Kr {op:CmpOp}{r:R2}(ho:OpR X (compareOp op) r)(ha:PE X a ta)(hb:PE X b tb)(hm:behindInMarks op b=false):PT X (.Compare a [op] [b] pos) (DJ (tOp r ta tb)):=by
 intro pins s σ H Q I h;refine wpAny_isTrue_Compare1 (thn (ha pins s σ H _ I h) fun v s1 ⟨x,H1,I1,r1,q1⟩=>thn (hb pins s1 σ H1 _ I1 q1) fun u s2 ⟨y,H2,I2,r2,q2⟩=>
  thn (ho pins s2 σ H2 x y v u _ I2 r1 r2 q2) fun c s3 ⟨z,H3,I3,r3,k,e,q3⟩=>?_) hm
 subst e;cases r3;exact Wc ⟨H3,I3,q3⟩
def Jh (K:Xy)(x:V)(H:Hp)(k:Bool):Prop:=
 match x with
 |.non=>k=false
 |.bl b=>k=b
 |.int i=>k=(i != 0)
 |.str y=>y.length<=sizeLine/\k=((y.length:Int) != 0)
 |.byt y=>y.size<=sizeLine/\k=((y.size:Int) != 0)
 |.ref p=>(∃xs,SqL K H p xs/\k = !xs.isEmpty)\/(∃xs,SqT K H p xs/\k = !xs.isEmpty)\/∃kvs,H p=some (.dK kvs)/\k = !kvs.isEmpty
 |_=>False
def Bz {κ:Type}{kvs:List (κ×V)}{vs:List (κ×Value)}(r:KV kvs vs):(!vs.isEmpty) = !kvs.isEmpty:=by cases r<;>rfl
def tz {xs:Xo}{its:Xw}(r:Vals xs its):(!its.toArray.isEmpty) = !xs.isEmpty:=by cases r<;>simp
def mV:(sizeLine:Nat)<2 ^ 63:=by rw[Uj];decide
def NK:Qs X (fun x H Q=>∃k,Jh X.K x H k/\Q k H):=by
 intro pins s σ H x v Q I rx h;obtain⟨k,e,q⟩:=h;have hl:=mV;have hs:sizeLine=16777216:=Uj;cases x with
 |non=>
  cases rx;have e':k=false:=e;subst e';exact truthy_none ⟨H,I,q⟩
 |bl b=>
  cases rx;have e':k=b:=e;subst e';exact Wc ⟨H,I,q⟩
 |int i=>
  obtain⟨t,rfl⟩:=rx;have e':k=(i != 0):=e;subst e';exact PySem.P.truthy_int ⟨H,I,q⟩
 |str y=>
  obtain⟨t,rfl⟩:=rx;obtain⟨hy,e'⟩:y.length<=sizeLine/\k=((y.length:Int) != 0):=e;subst e';exact PySem.P.truthy_str () ⟨H,I.tok _,q⟩
 |byt y=>
  obtain⟨t,rfl⟩:=rx;obtain⟨hy,e'⟩:y.size<=sizeLine/\k=((y.size:Int) != 0):=e;subst e';exact W.truthy_bytes () ⟨H,I.tok _,q⟩
 |ref p=>
  cases rx;have e':(∃xs,SqL X.K H p xs/\k = !xs.isEmpty)\/(∃xs,SqT X.K H p xs/\k = !xs.isEmpty)\/∃kvs,H p=some (.dK kvs)/\k = !kvs.isEmpty:=e;rcases e' with ⟨xs,hx,e'⟩|⟨xs,hx,e'⟩|⟨kvs,hx,e'⟩
  ·subst e';obtain⟨its,r,pl,hz⟩:=I.list hx;have hlen:=r.length;exact wpAny_truthy_list pl.isList (by simp only[TZ];lia) ⟨H,I.tok _,by rw[tz r];exact q⟩
  ·subst e';obtain⟨its,r,pl,hz⟩:=I.tuple hx;have hlen:=r.length;exact truthy_tuple pl (by simp only[TZ];lia) ⟨H,I.tok _,by rw[tz r];exact q⟩
  ·subst e';obtain⟨hz,hS,vs,r,m⟩:kvs.length<=sizeLine/\(p==sysModules)=false/\∃vs,KV kvs vs/\s.heap.DictOf (cn X.prog X.w) p vs:=I.hok p _ hx;have hlen:kvs.length=vs.length:=VQ r;exact wpAny_truthy_dict hS m () ⟨H,I.tok _,by rw[Bz r];exact q⟩
 |_=>exact (show False from e).elim
def Ac (ha:PE X a ta)(he:∀whole,isTrue a X.env whole=(do let v ← whole;standAt a.pos;holding [v] (truthy v))) :
  PT X a (fun σ H Q=>ta σ H fun x H'=>∃k,Jh X.K x H' k/\Q k H'):=by
 intro pins s σ H Q I h;exact isTrue_plain (thn (ha pins s σ H _ I h) fun v s1 ⟨x,H1,I1,r1,q1⟩=>NK pins s1 σ H1 x v Q I1 r1 q1) (he _)
def BR:OpR X (binaryOp .Add) (fun x y H Q=>∃i j,x = .str i/\y = .str j/\i.length+j.length<=sizeLine/\Q (.str (i++j)) H):=by intro pins s σ H x y v u Q I rx ry h;obtain⟨i,j,rfl,rfl,hz,q⟩:=h;obtain⟨t,rfl⟩:=rx;obtain⟨t',rfl⟩:=ry;exact add_str (fun t' tk=>⟨.str (i++j),H,I.tok _,⟨_,rfl⟩,q⟩) hz
def IQ {x:V}  (r:Vals [x] us):∃u,us=[u]/\RelV x u:=by
 cases r with
 |cons r1 r2=>cases r2;exact⟨_,rfl,r1⟩
def Lv {x y:V}  (r:Vals [x,y] us):∃u w',us=[u,w']/\RelV x u/\RelV y w':=by
 cases r with
 |cons r1 r2=>
  cases r2 with
  |cons r3 r4=>cases r4;exact⟨_,_,rfl,r1,r3⟩
def D8 (hc:X.calm=true):CallR X (.builtin "max") (fun xs H Q=>∃i j,xs=[.int i,.int j]/\Q (.int (if j > i then j else i)) H):=by
 intro pins s σ H xs us Q I r h;obtain⟨i,j,rfl,q⟩:=h;obtain⟨u,w',rfl,⟨t,rfl⟩,⟨t',rfl⟩⟩:=Lv r;refine max_two_ints (I.ok.hd hc) fun h' tk k=>⟨_,H,I.kept k,?_,q⟩
 by_cases hj:j > i
 ·rw[Ts hj,Ts hj];exact⟨_,rfl⟩
 ·rw[Tr hj,Tr hj];exact⟨_,rfl⟩
def D9 (hc:X.calm=true):CallR X (.builtin "min") (fun xs H Q=>∃i j,xs=[.int i,.int j]/\Q (.int (if j<i then j else i)) H):=by
 intro pins s σ H xs us Q I r h;obtain⟨i,j,rfl,q⟩:=h;obtain⟨u,w',rfl,⟨t,rfl⟩,⟨t',rfl⟩⟩:=Lv r;refine min_two_ints (I.ok.hd hc) fun h' tk k=>⟨_,H,I.kept k,?_,q⟩
 by_cases hj:j<i
 ·rw[Ts hj,Ts hj];exact⟨_,rfl⟩
 ·rw[Tr hj,Tr hj];exact⟨_,rfl⟩
def N8 (K:Xy)(x:V)(H:Hp)(n:Nat):Prop:=
 match x with
 |.str y=>y.length<=sizeLine/\n=y.length
 |.byt y=>y.size<=sizeLine/\n=y.size
 |.ref p=>(∃xs,SqL K H p xs/\n=xs.length)\/∃xs,SqT K H p xs/\n=xs.length
 |_=>False
def Gh:CallR X (.builtin "len") (fun xs H Q=>∃x n,xs=[x]/\N8 X.K x H n/\Q (.int n) H):=by
 intro pins s σ H xs us Q I r h;obtain⟨x,n,rfl,e,q⟩:=h;obtain⟨u,rfl,rx⟩:=IQ r;have hl:=mV;have hs:sizeLine=16777216:=Uj;cases x with
 |str y=>
  obtain⟨t,rfl⟩:=rx;obtain⟨hy,e'⟩:y.length<=sizeLine/\n=y.length:=e;subst e';exact len_str () ⟨.int _,H,I.tok _,⟨_,rfl⟩,q⟩
 |byt y=>
  obtain⟨t,rfl⟩:=rx;obtain⟨hy,e'⟩:y.size<=sizeLine/\n=y.size:=e;subst e';exact W.len_bytes () ⟨.int _,H,I.tok _,⟨_,rfl⟩,q⟩
 |ref p=>
  cases rx;have e':(∃xs,SqL X.K H p xs/\n=xs.length)\/∃xs,SqT X.K H p xs/\n=xs.length:=e;rcases e' with ⟨xs,hx,e'⟩|⟨xs,hx,e'⟩
  ·subst e';obtain⟨its,r',pl,hz⟩:=I.list hx;have hlen:=r'.length;exact Calls.call_len_list pl.isList (by simp only[TZ];lia) ⟨.int xs.length,H,I.tok _,⟨_,by simp only[TZ];rw[hlen]⟩,q⟩
  ·subst e';obtain⟨its,r',pl,hz⟩:=I.tuple hx;have hlen:=r'.length;exact len_tuple pl (by simp only[TZ];lia) ⟨.int xs.length,H,I.tok _,⟨_,by simp only[TZ];rw[hlen]⟩,q⟩
 |_=>exact (show False from e).elim
end
structure ObjM (h:Heap) (x dx C:Addr) (mA:Xv):Prop where
 obj:h.get? x=some (W.instObj C dx)
 ns:h.Ns1 dx mA
 ne:dx≠x
def EG {h:Heap}{dx:Addr}{mA:Xv}(n:h.Ns1 dx mA):∃od,h.get? dx=some od/\∀name,W.lookIn name od=some (mA name):=by
 obtain⟨o,es,ep,ho,hd,hk,_,hm⟩:=n;refine⟨o,ho,fun name=>?_⟩;have e:=hm name;unfold nsFind findBy at e;rw[<- Array.find?_toList] at e;unfold W.lookIn;rw[hd];dsimp only;split
 ·rename_i y q;rw[q] at e;exact T7 some e
 ·rename_i q;rw[q] at e;have a:es.toList.any (·.refKey)=false:=by
   rw[List.any_eq_false];intro y hy;obtain⟨z,t,hkey⟩:=hk y (Array.mem_toList_iff.mp hy);simp[DictEntry.refKey,hkey]
  have a':¬es.toList.any (·.refKey)=true:=by rw[a];exact U0
  rw[Tr a'];exact T7 some e
def ObjM.look  {dx:Addr}{mA:Xv}(I:ObjM h x dx C mA):∃od,W.InstAt h x (W.instObj C dx) C (some od)/\∀name,W.lookIn name od=some (mA name):=
 let ⟨od,ho,hl⟩:=EG I.ns
 ⟨od,⟨I.obj,rfl,rfl,ho⟩,hl⟩
section
variable {prog:Program}{w:World}{A:Around}{E:Xs}{s:Shared}{K:Xy}{x dx C f:Addr}{mA:Xv}{name:Str}{v:Value}
def JK {expr:Bool}{Q:Xs}(X:K.In s.heap)(I:ObjM s.heap x dx C mA)(hg:W.plainGet K C name=true)(hh:W.hasDictIn K C=true)
  (ha:W.findIn K (.ref C) name=some none) (hv:mA name=some v) (hv':W.handedIn v=true) (h:Q v { s with toks:=s.toks+1 }) :
  wpAny (model prog w) A (getAttr (.ref x) name expr) Q E s:=by
 obtain⟨od,J,hl⟩:=I.look;exact W.get_value X J (W.plainGet_of hg).1 (W.findObj_own hh ha rfl (by rw[hl,hv])) hv' h
def GH  {Q:Value×Xw->Shared->Prop}(X:K.In s.heap)(I:ObjM s.heap x dx C mA)(hg:W.plainGet K C name=true)
  (hf:W.findIn K (.ref C) name=some (some (.ref f))) (ht:W.isFn K (.ref f)=true) (hv:mA name=none) (h:Q (.ref f,[.ref x]) s) :
  wpAny (model prog w) A (getMethod (.ref x) name pl) Q E s:=by
 obtain⟨od,J,hl⟩:=I.look;exact W.method_fn X J (W.plainGet_of hg).1 (W.plainGet_of hg).2 hf (UK.mp ht) (by show (W.lookIn name od).map (·.isSome)=some false;rw[hl,hv];rfl) h
def KD  {Q:Unit->Shared->Prop}(X:K.In s.heap)(I:ObjM s.heap x dx C mA)
  (hs:W.findIn K (.ref C) "__setattr__" = some (some (.builtin "object.__setattr__"))) (hp:W.plainOver K C=true) (ht:W.takerIn K C name=some none) (hh:W.hasDictIn K C=true)
  (hw:PySem.Within mA ns) (hsz:ns.length<=sizeLine)
  (h:∀h',ObjM h' x dx C (fun y=>if y=name then some v else mA y)->Heap.SameBut dx s.heap h'->Q Unit.unit { s with heap:=h',toks:=s.toks+2 }) :
  wpAny (model prog w) A (setAttr (.ref x) name v) Q E s:=by
 obtain⟨od,J,hl⟩:=I.look;refine W.set_plain X J hs (W.osa_open (s:={ s with toks:=s.toks+1 }) (r:=none) X J hp ht fun b=>?_);obtain⟨cd,hc,hd'⟩:=W.any_some hh;have hx:s.heap.get? x=some ⟨.ref C,some dx,.plain,#[]⟩:=I.obj;refine Tq (Tt (Tq (Tq (wpAny_loadPart hx (Tq (W.Looks.here (s:={ s with toks:=s.toks+1 }) (W.looks_clsIn X hc) ?_))))));rw[hd'];refine Tt (a:=some dx) (Tq (Tt (Tq ?_)));refine wpAny_nsSet1 (s:={ s with toks:=s.toks+1 }) I.ns fun h' hn2 hs2=>?_;obtain⟨oD,esD,epD,hoD,hdD,hcD⟩:=hn2.count (PySem.Within.cons name v hw);refine Tq (wpAny_lookBehind hoD (by rw[hdD];exact pastItsLine_dict (Ud hcD (by rw[TF];lia))) ?_);exact Tt (h _ ⟨(hs2.2 _ (T3 I.ne)).trans I.obj,hn2,I.ne⟩ hs2)
def G0  {vs:Xw}{kw:List (Str×Value)}(X:K.In s.heap)(hm:W.makesIn K C=true)
  (hi:W.findIn K (.ref C) "__init__" = some (some (.ref f))) (hf:W.typeIn K (.ref f)=some (.type "function"))
  (h:codeAny (model prog w) (A.under (.builtin "type.__call__" ⟨.ref C::vs,kw⟩)) (.call (.ref f) ⟨.ref (s.heap.objs.size+1)::vs,kw⟩) (W.InitBack (s.heap.objs.size+1) R)
   { s with heap:=(s.heap.push W.emptyDict).push (W.instObj C s.heap.objs.size) }) :
  codeAny (model prog w) A (.call (.ref C) ⟨vs,kw⟩) R s:=by
 obtain⟨hh,g,d,t,os⟩:=s;exact W.make_core (W.makes_of X hm) (W.looks_findIn X hi) (fun self=>W.bind_fn X self hf) (.inl rfl) h
end
noncomputable def lU (f:Str)(v:V):List (Str×V)->List (Str×V)
 |[]=>[(f,v)]
 | (g,x)::r=>if g=f then (g,v)::r else (g,x)::lU f v r
theorem qK (f g:Str)(v:V):∀fs:List (Str×V),(lU f v fs).lookup g=if g=f then some v else fs.lookup g
 |[]=>by
  show List.lookup g [(f,v)]=_;by_cases h:g=f
  ·have hb:(g==f)=true:=UK.mpr h;simp only[List.lookup,hb,Ts h]
  ·have hb:(g==f)=false:=Wb.mpr h;simp only[List.lookup,hb,Tr h]
 | (k,x)::r=>by
  have ih:=qK f g v r;rw[show lU f v ((k,x)::r)=(if k=f then (k,v)::r else (k,x)::lU f v r) from rfl];by_cases hk:k=f
  ·rw[Ts hk];by_cases h:g=k
   ·have hb:(g==k)=true:=UK.mpr h;simp only[List.lookup,hb,Ts (h.trans hk)]
   ·have hb:(g==k)=false:=Wb.mpr h;simp only[List.lookup,hb,Tr (fun e:g=f=>h (e.trans hk.symm))]
  ·rw[Tr hk];by_cases h:g=k
   ·have hb:(g==k)=true:=UK.mpr h;simp only[List.lookup,hb,Tr (fun e:g=f=>hk (h.symm.trans e))]
   ·have hb:(g==k)=false:=Wb.mpr h;simp only[List.lookup,hb];exact ih
theorem pD (f:Str)(v:V):∀fs:List (Str×V),f∈(lU f v fs).map (·.1)/\∀g,g∈fs.map (·.1)->g∈(lU f v fs).map (·.1)
 |[]=>⟨by simp[lU],fun g h=>by simp at h⟩
 | (k,x)::r=>by
  obtain⟨i1,i2⟩:=pD f v r;rw[show lU f v ((k,x)::r)=(if k=f then (k,v)::r else (k,x)::lU f v r) from rfl];by_cases hk:k=f
  ·rw[Ts hk];subst hk;exact⟨by simp,fun g h=>by simpa using h⟩
  ·rw[Tr hk];refine⟨?_,fun g h=>?_⟩
   ·rw[TQ];exact TJ _ i1
   ·rw[TQ] at h ⊢;rcases TN.mp h with e|e
    ·exact TN.mpr (.inl e)
    ·exact TJ _ (i2 g e)
theorem qH (f:Str)(v:V):∀fs:List (Str×V),(lU f v fs).length<=fs.length+1
 |[]=>by simp[lU]
 | (k,x)::r=>by
  have ih:=qH f v r;rw[show lU f v ((k,x)::r)=(if k=f then (k,v)::r else (k,x)::lU f v r) from rfl];by_cases hk:k=f
  ·rw[Ts hk,TF,TF];lia
  ·rw[Tr hk,TF,TF];lia
def RelO.some_of {v:V}  (r:RelO (some v) o):∃u,o=some u/\RelV v u:=by
 cases o with
 |none=>exact (show False from r).elim
 |some u=>exact⟨u,rfl,r⟩
def RelO.none_of  (r:RelO none o):o=none:=by
 cases o with
 |none=>rfl
 |some u=>exact (show False from r).elim
def Er   (r:RelV v u):W.handedIn u=true:=by
 cases v with
 |non=>cases (show u=Value.none from r);rfl
 |bl b=>cases (show u=Value.bool b from r);rfl
 |int i=>obtain⟨t,e⟩:=(show ∃t,u=Value.int i t from r);cases e;rfl
 |str x=>obtain⟨t,e⟩:=(show ∃t,u=Value.str x t from r);cases e;rfl
 |byt b=>obtain⟨t,e⟩:=(show ∃t,u=Value.bytes b t from r);cases e;rfl
 |flt b=>obtain⟨t,e⟩:=(show ∃t,u=Value.float b t from r);cases e;rfl
 |ref a=>cases (show u=Value.ref a from r);rfl
 |ty n=>cases (show u=Value.type n from r);rfl
section
variable {P:Program}{w:World}{H H':Hp}{h h':Heap}{a C dx:Addr}{fs fs':List (Str×V)}
def rL (hok:HOk P w H h)(e:H a=some (.ins C dx fs)):∃mA,ObjM h a dx C mA/\(∀f,RelO (fs.lookup f) (mA f))/\PySem.Within mA (fs.map (·.1))/\fs.length<=1000/\H dx=some (.own a):=by
 obtain⟨d,z,ne,ob,mA,n,r,q⟩:=(show ObjOk P w H h a (.ins C dx fs) from hok a _ e)
 exact⟨mA,⟨ob,n,ne⟩,r,q,z,d⟩
end
structure Cls (K:Xy) (C:Addr):Prop where
 pg:W.plainGet K C Str.empty=true
 hd:W.hasDictIn K C=true
 po:W.plainOver K C=true
 sa:W.findIn K (.ref C) "__setattr__" = some (some (.builtin "object.__setattr__"))
def Cls.get {K:Xy}{C:Addr}(c:Cls K C)(f:Str):W.plainGet K C f=true:=c.pg
def NoAttr (K:Xy)(C:Addr)(f:Str):Prop:=W.findIn K (.ref C) f=some none
def NoAttr.taker {K:Xy}{C:Addr}{f:Str}(n:NoAttr K C f):W.takerIn K C f=some none:=by unfold W.takerIn;rw[show W.findIn K (.ref C) f=some none from n];rfl
structure Meth (K:Xy) (C:Addr) (m:Str) (f:Addr):Prop where
 at_:W.findIn K (.ref C) m=some (some (.ref f))
 fn:W.isFn K (.ref f)=true
 kp:W.keepIn K (.ref f)=true
section
variable {X:Cx}{pins:Xu}{σ:St}{H:Hp}{s:Shared}{a C dx:Addr}{fs:List (Str×V)}{f:Str}{v:V}{A:Around}{E:Xs}
def Bw {b:Bool}{Q:Xs}(I:Inv X pins σ H s)(e:H a=some (.ins C dx fs))(c:Cls X.K C)(n:NoAttr X.K C f)(l:fs.lookup f=some v)
  (h:∀u s',Inv X pins σ H s'->RelV v u->Q u s'):wpAny (model X.prog X.w) A (getAttr (.ref a) f b) Q E s:=by
 obtain⟨mA,O,r,_,_,_⟩:=rL I.hok e;obtain⟨u,hu,ru⟩:=RelO.some_of (v:=v) (o:=mA f) (by rw[<- l];exact r f);exact JK I.kIn O (c.get f) c.hd n hu (Er ru) (h u _ (I.tok _) ru)
def Bx    {Q:Value×Xw->Shared->Prop}(I:Inv X pins σ H s)(e:H a=some (.ins C dx fs))(c:Cls X.K C)(k:Meth X.K C m g)(l:fs.lookup m=none)
  (h:Q (.ref g,[.ref a]) s):wpAny (model X.prog X.w) A (getMethod (.ref a) m pl) Q E s:=by
 obtain⟨mA,O,r,_,_,_⟩:=rL I.hok e;have hn:mA m=none:=RelO.none_of (by rw[<- l];exact r m);exact GH I.kIn O (c.get m) k.at_ k.fn hn h
def B9   {Q:Unit->Shared->Prop}(I:Inv X pins σ H s)(e:H a=some (.ins C dx fs))(c:Cls X.K C)(n:NoAttr X.K C f)(hl:fs.length<1000)(ry:RelV y u)
  (h:∀s',Inv X pins σ (upd H a (.ins C dx (lU f y fs))) s'->Q Unit.unit s'):wpAny (model X.prog X.w) A (setAttr (.ref a) f u) Q E s:=by
 obtain⟨mA,O,r,wi,_,ho⟩:=rL I.hok e;have hz:(fs.map (·.1)).length<=sizeLine:=by rw[Tw,Uj];lia
 refine KD I.kIn O c.sa c.po n.taker c.hd wi hz fun h' O' sb=>h _ ?_;have hd:∃o,h'.get? dx=some o:=let ⟨o,_,_,e',_⟩:=O'.ns;⟨o,e'⟩
 refine I.write (x:=a) (e:=dx) (by rw[e];exact True.intro) (.inr ho) (fun b q hb z=>(sb.2 b hb).trans z) hd ?_;refine⟨by rw[av O.ne];exact ho,?_,O.ne,O'.obj,_,O'.ns,fun g=>?_,fun g hg=>?_⟩
 ·have:=qH f y fs;lia
 ·show RelO ((lU f y fs).lookup g) (if g=f then some u else mA g);rw[qK];by_cases q:g=f
  ·rw[Ts q,Ts q];exact ry
  ·rw[Tr q,Tr q];exact r g
 ·by_cases q:g=f
  ·rw[q];exact (pD f y fs).1
  ·refine (pD f y fs).2 g (wi g fun z=>hg ?_);show (if g=f then some u else mA g)=none;rw[Tr q];exact z
def Inv.made (I:Inv X pins σ H s):Inv X pins σ (upd (upd H s.heap.objs.size (.own (s.heap.objs.size+1))) (s.heap.objs.size+1) (.ins C s.heap.objs.size []))
  { s with heap:=(s.heap.push W.emptyDict).push (W.instObj C s.heap.objs.size) }:=by
 have e1:(s.heap.push W.emptyDict).get? s.heap.objs.size=some W.emptyDict:=T8 s.heap rfl;have e2:((s.heap.push W.emptyDict).push (W.instObj C s.heap.objs.size)).get? (s.heap.objs.size+1)=some (W.instObj C s.heap.objs.size):=by have:=T8 (s.heap.push W.emptyDict) (o:=W.instObj C s.heap.objs.size) rfl;rwa[VL] at this
 have e3:(s.heap.push W.emptyDict).Ns s.heap.objs.size (fun _=>none):=⟨W.emptyDict,#[],_,e1,rfl,(fun e he=>absurd he (by simp)),fun _=>rfl⟩
 have I1:=I.laid (a:=s.heap.objs.size) (o:=.own (s.heap.objs.size+1)) (h':=s.heap.push W.emptyDict) (t':=s.toks) (fun b u q=>TU _ q) (TB _) ⟨_,e1⟩;refine I1.laid (a:=s.heap.objs.size+1) (o:=.ins C s.heap.objs.size []) (t':=s.toks) (fun b u q=>TU _ q) (UA (VL _ _)) ?_;have ne:s.heap.objs.size≠s.heap.objs.size+1:=T2 (VM _);refine⟨by rw[av ne,ar],T9 _,ne,e2,fun _=>none,(Heap.Ns1.of_empty e3).at fun o q=>TU _ q,fun _=>True.intro,fun y hy=>absurd rfl hy⟩
def Jl {prog:Program}     {pos:Pos}   (hb:attributeBase e f env (eval e env)=eval e env)
  (h:wpAny (model prog w) A (eval e env) (fun o s₁=>wpAny (model prog w) A (getAttr o f true) Q E s₁) E s):wpAny (model prog w) A (eval (.Attribute e f pos) env) Q E s:=
 Attribute_any_ h (by rw[arm_eval_Attribute,hb])
end
noncomputable def Pq (K:Xy)(ta tv:TE)(f:Str):TS:=fun D σ H=>tv σ H fun y H1=>ta σ H1 fun x H2=>∃a C dx fs,x = .ref a/\H2 a=some (.ins C dx fs)/\Cls K C/\NoAttr K C f/\fs.length<1000 /\
 D.nx σ (upd H2 a (.ins C dx (lU f y fs)))
section
variable {X:Cx}{o e value:Expr}{f:Str}{pos pos' tpos:Pos}{ta tv:TE}
def MY (ha:PE X o ta)(hv:PE X value tv)(hs:swapsWith value (some (.Attribute o f pos')) pos.line X.env=pure false):PS X (.Assign [.Attribute o f pos'] value pos) (Pq X.K ta tv f):=by intro pins s σ H D I h;refine plainObj_wpAny_Assign_Attribute (thn (hv pins s σ H _ I h) fun u s1 ⟨y,H1,I1,ry,q⟩=>thn (ha pins s1 σ H1 _ I1 q) fun ov s2 hpt9=>?_) hs;obtain⟨x,H2,I2,rx,a,C,dx,fs,ex,ea,c,n,l,q2⟩:=hpt9;subst ex;obtain rfl:ov=Value.ref a:=rx;exact B9 I2 ea c n l ry fun s3 I3=>⟨σ,_,I3,q2⟩
end
section
variable {X:Cx}{pins:Xu}{σ:St}{H:Hp}{s:Shared}{A:Around}{E:Xs}{Q:Xs}{c:Value}{b:Bool}
inductive TyOf (K:W.Frag) (H:Hp):V->Value->Prop where
 |non:TyOf K H .non (.type "NoneType")
 |bl (x:Bool):TyOf K H (.bl x) (.type "bool")
 |int (i:Int):TyOf K H (.int i) (.type "int")
 |str (x:Str):TyOf K H (.str x) (.type "str")
 |flt (x:UInt64):TyOf K H (.flt x) (.type "float")
 |lst {a:Addr} {xs:Xo} (e:H a=some (.lst xs)):TyOf K H (.ref a) (.type "list")
 |frz {a:Addr} {o:Obj} {xs:Xo} (e:H a=some (.frz o (.lst xs))):TyOf K H (.ref a) (.type "list")
 |tup {a:Addr} {xs:Xo} (e:H a=some (.tup xs)):TyOf K H (.ref a) (.type "tuple")
 |dK {a:Addr} {kvs:List (Key×V)} (e:H a=some (.dK kvs)):TyOf K H (.ref a) (.type "dict")
 |dT {a:Addr} {kvs:List (List Key×V)} (e:H a=some (.dT kvs)):TyOf K H (.ref a) (.type "dict")
 |ins {a C dx:Addr} {fs:List (Str×V)} (e:H a=some (.ins C dx fs)) (cl:Cls K C) (ha:W.findIn K (.ref C) "__class__" = some (some (.builtin "object.__class__")))
   (hn:W.specialIn K (.builtin "object.__class__") "__get__" = some (some (.builtin "getset_descriptor.__get__"))) (htk:W.takesIn K (.builtin "object.__class__")=some true)
   (hm:W.mroIn K C (.type "object")=some true):TyOf K H (.ref a) (.ref C)
def lz   (I:Inv X pins σ H s)(rx:RelV x u)(ty:TyOf X.K H x t)(e:W.kitOne X.K t c=some b)(h:∀tk,Q (.bool b) { s with toks:=tk }) :
  wpAny (model X.prog X.w) A (call (.builtin "isinstance") [u,c]) Q E s:=by
 cases ty with
 |non=>cases (show u=Value.none from rx);exact UL W.kitx_none I.kIn True.intro e (fun z=>nomatch z) h
 |bl y=>cases (show u=Value.bool y from rx);exact UL W.kitx_bool I.kIn True.intro e (fun z=>nomatch z) h
 |int i=>obtain⟨t,q⟩:=(show ∃t,u=Value.int i t from rx);cases q;exact UL W.kitx_int I.kIn True.intro e (fun z=>nomatch z) h
 |str y=>obtain⟨t,q⟩:=(show ∃t,u=Value.str y t from rx);cases q;exact UL W.kitx_str I.kIn True.intro e (fun z=>nomatch z) h
 |flt y=>obtain⟨t,q⟩:=(show ∃t,u=Value.float y t from rx);cases q;exact UL W.kitx_float I.kIn True.intro e (fun z=>nomatch z) h
 | @lst a xs ea=>
  cases (show u=Value.ref a from rx);obtain⟨_,_,n,_,h1⟩:=(show ObjOk X.prog X.w H s.heap a (.lst xs) from I.hok a _ ea)
  exact UL W.kitx_list I.kIn ⟨_,h1,rfl⟩ e (fun z=>nomatch z) h
 | @frz a ob xs ea=>
  cases (show u=Value.ref a from rx);obtain⟨_,_,_,n,_,h1⟩:=(show ObjOk X.prog X.w H s.heap a (.frz ob (.lst xs)) from I.hok a _ ea)
  exact UL W.kitx_list I.kIn ⟨_,h1,rfl⟩ e (fun z=>nomatch z) h
 | @tup a xs ea=>
  cases (show u=Value.ref a from rx);obtain⟨_,_,_,p⟩:=(show ObjOk X.prog X.w H s.heap a (.tup xs) from I.hok a _ ea)
  obtain⟨o,h1,h2,_⟩:=p;exact UL W.kitx_tuple I.kIn ⟨o,h1,h2⟩ e (fun z=>nomatch z) h
 | @dK a kvs ea=>
  cases (show u=Value.ref a from rx);obtain⟨_,_,vs,_,p⟩:=(show ObjOk X.prog X.w H s.heap a (.dK kvs) from I.hok a _ ea)
  obtain⟨o,es,ep,h1,h2,_⟩:=p;exact UL W.kitx_dict I.kIn ⟨o,h1,h2.1⟩ e (fun z=>nomatch z) h
 | @dT a kvs ea=>
  cases (show u=Value.ref a from rx);obtain⟨_,_,xs,_,o,es,ep,h1,h2,_⟩:=(show ObjOk X.prog X.w H s.heap a (.dT kvs) from I.hok a _ ea)
  exact UL W.kitx_dict I.kIn ⟨o,h1,h2.1⟩ e (fun z=>nomatch z) h
 | @ins a C dx fs ea cl ha hn htk hm=>cases (show u=Value.ref a from rx);obtain⟨mA,O,_⟩:=rL I.hok ea;obtain⟨od,J,_⟩:=O.look;exact UL (W.kitx_own (cl.get _) cl.hd ha hn htk hm) I.kIn J e (fun z=>nomatch z) h
end
structure Room (k:Nat) (A:Around):Prop where
 hd:A.handled=none
 dp:A.depth+3 * k+5<recursionLimit
 un:A.units+16 * k+200<cLine
def Room.mono {j k:Nat}  (r:Room k A)(h:j<=k):Room j A:=⟨r.hd,by have:=r.dp;lia,by have:=r.un;lia⟩
theorem Room.deeper {k:Nat}  (r:Room (k+1) A)(env:Env):Room k (A.deeper env):=
 ⟨r.hd,by have:=r.dp;show A.depth+1+3 * k+5<_;lia,by have:=r.un;show A.units+3+16 * k+200<_;lia⟩
def BH {A:Around}{C:Addr}{us:Xw}{kw:List (Str×Value)}:(A.under (.builtin "type.__call__" ⟨.ref C::us,kw⟩)).depth=A.depth+1:=by
 first|rfl|simp[Around.under,Code.weight,Code.isCreation,Code.isGuard,Code.isCaller,Code.frames,Code.isFrame,guardIds]
def BI {A:Around}{C:Addr}{us:Xw}{kw:List (Str×Value)}:(A.under (.builtin "type.__call__" ⟨.ref C::us,kw⟩)).units=A.units+1:=by
 first|rfl|simp[Around.under,Code.cUnits,Code.frames,Code.isFrame]
def Room.make {k:Nat}  (r:Room (k+1) A)(C:Addr)(us:Xw)(kw:List (Str×Value)):Room k (A.under (.builtin "type.__call__" ⟨.ref C::us,kw⟩)):=
 ⟨r.hd,by have:=r.dp;rw[BH];lia,by have:=r.un;rw[BI];lia⟩
theorem Room.depth {k:Nat}  (r:Room k A):A.depth<recursionLimit:=by have:=r.dp;lia
theorem Room.units {k:Nat}  (r:Room k A):A.units+64<cLine:=by have:=r.un;lia
noncomputable def p8:TA:=fun _ H Q=>Q [] H
noncomputable def ie (ta:TE)(tr:TA):TA:=fun σ H Q=>ta σ H fun x H1=>tr σ H1 fun xs H2=>Q (x::xs) H2
section
variable {X:Cx}{e:Expr}{es:List Expr}{te:TE}{t:TA}{pos:Pos}
def bn:PA X [] p8:=fun _ _ _ _ H Q I h=>Calls.spliced_nil ⟨[],H,I,.nil,h⟩
def aW (ha:PE X e te)(hr:PA X es t)(hs:starEach (e::es) X.env=(false,eval e X.env)::starEach es X.env:=by rfl):PA X (e::es) (ie te t):=by intro pos pins s σ H Q I h;rw[hs];show wpAny _ _ (spliced ((false,eval e X.env)::backTo pos (starEach es X.env))) _ _ s;refine Calls.spliced_cons (thn (ha pins s σ H _ I h) fun u s1 hpt9=>?_);obtain⟨x,H1,I1,r1,q1⟩:=hpt9;exact thn (hr pos pins s1 σ H1 _ I1 q1) fun us s2 ⟨xs,H2,I2,r2,q2⟩=>⟨x::xs,H2,I2,.cons r1 r2,q2⟩
noncomputable def K0 (t:TA):TE:=fun σ H Q=>t σ H fun xs H1=>xs.length<=sizeLine/\∀p,H1 p=none->Q (.ref p) (upd H1 p (.tup xs))
noncomputable def KY (t:TA):TE:=fun σ H Q=>t σ H fun xs H1=>xs.length<=sizeLine/\∀p,H1 p=none->Q (.ref p) (upd H1 p (.lst xs))
def BW {x1}(h:PA X es t):PE X (.Tuple es x1 pos) (K0 t):=by intro pins s σ H Q I hq;refine wpAny_Tuple_spliced (thn (h pos pins s σ H _ I hq) fun us s1 ⟨xs,H1,I1,r,z,q⟩=>⟨by rw[<- r.length];exact z,?_⟩);have hf:H1 s1.heap.objs.size=none:=I1.hok.fresh (TB _);refine⟨.ref s1.heap.objs.size,upd H1 s1.heap.objs.size (.tup xs),I1.laid (t':=s1.toks) (fun b u e=>TU _ e) (TB _) ?_,rfl,q _ hf⟩;exact⟨z,us,r,⟨_,T8 _ rfl,rfl,_,rfl⟩⟩
def MM (h:PA X es t):PE X (.List es pos) (KY t):=by intro pins s σ H Q I hq;refine wpAny_List_spliced (thn (h pos pins s σ H _ I hq) fun us s1 ⟨xs,H1,I1,r,z,q⟩=>⟨by rw[<- r.length];exact z,?_⟩);have hf:H1 s1.heap.objs.size=none:=I1.hok.fresh (TB _);refine⟨.ref s1.heap.objs.size,upd H1 s1.heap.objs.size (.lst xs),I1.laid (t':=s1.toks) (fun b u e=>TU _ e) (TB _) ?_,rfl,q _ hf⟩;exact⟨z,us,0,r,T8 _ rfl⟩
end
noncomputable abbrev Sp:=Xo->Hp->VK->XK->Prop
noncomputable abbrev CXT:=List Env->Hp->Shared->XK->Xs
structure Env0 (P:Program) (w:World) (K:Xy) (mg:Xv) (base:Heap) (A:Around) (outer:List Env) (s:Shared) (H:Hp):Prop where
 frames:A.frames=some outer
 mod:Mod K mg base
 bs:∀b o,base.get? b=some o->s.heap.get? b=some o/\H b=none
 bsz:base.objs.size<=s.heap.objs.size
 funs:s.heap.FunFrames base outer
 frf:∀b∈frs outer,H b=none
 hok:HOk P w H s.heap
 bare:AllBare s.gens
def CE (outer:List Env)(P:Program)(w:World)(H:Hp)(s:Shared)(Q:VK)(u:Value)(s':Shared):Prop:=
 ∃v H',s'.os=s.os/\AllBare s'.gens/\Un (frs outer) [] H H' s.heap s'.heap/\HOk P w H' s'.heap/\RelV v u/\Q v H'
def CR (CX:CXT)(outer:List Env)(P:Program)(w:World)(H:Hp)(s:Shared)(Q:VK)(E:XK)(r:Result)(s':Shared):Prop:=
 match r with
 |.ok (.ret u)=>CE outer P w H s Q u s'
 |.ok _=>False
 |.error e=>CX outer H s E e s'
structure FnOk (P:Program) (w:World) (K:Xy) (mg:Xv) (base:Heap) (CX:CXT) (k:Nat) (f:Addr) (fd:FuncData) (ps:XB) (sp:Sp):Prop where
 len:∀vs H Q E,sp vs H Q E->vs.length=ps.length
 run:∀(A:Around) (outer:List Env) (s:Shared) (H:Hp) (args:Args) (us:Xw) (vs:Xo) (Q:VK) (E:XK),Room k A->Env0 P w K mg base A outer s H->BindsTo s fd args (ps.zip us)->Vals vs us->sp vs H Q E ->
  codeAny (model P w) A (.call (.ref f) args) (CR CX outer P w H s Q E) s
def Env0.make {P:Program}{w:World}{K:Xy}{mg:Xv}{base:Heap}{A:Around}{outer:List Env}{s:Shared}{H:Hp}(e:Env0 P w K mg base A outer s H)(C:Addr)(us:Xw)(kw:List (Str×Value)) :
  Env0 P w K mg base (A.under (.builtin "type.__call__" ⟨.ref C::us,kw⟩)) outer s H:=⟨by first|exact e.frames|(simpa[Around.under,Code.envs,Code.isFrame,pushEnvs] using e.frames),e.mod,e.bs,e.bsz,e.funs,e.frf,e.hok,e.bare⟩
section
variable {X:Cx}{pins:Xu}{σ:St}{H:Hp}{s s':Shared}
def Inv.env0 (I:Inv X pins σ H s):Env0 X.prog X.w X.K X.mg X.base X.A X.stack s H:=
 ⟨I.ok.frames,I.ok.mod,I.bs,Ud I.ok.bsz I.sz,I.stack,I.stkFree,I.hok,I.bare⟩
def Inv.after   (I:Inv X pins σ H s)(h:CE X.stack X.prog X.w H s Q u s'):EP X pins σ Q u s':=by obtain⟨v,H',os,bare,un,hok,r,q⟩:=h;obtain⟨hh,g,d,t,os'⟩:=s';obtain rfl:os'=s.os:=os;exact⟨v,H',I.call (h':=hh) (g':=g) (d':=d) (t':=t) (ch:=[]) un hok bare (fun b z=>absurd z (by simp)),r,q⟩
end
noncomputable def qP (sp:Sp)(dvs:Xo)(E:XK)(t:TA):TE:=fun σ H Q=>t σ H fun vs H1=>sp (vs++dvs) H1 Q E
noncomputable def Lu (C:Addr)(sp:Sp)(dvs:Xo)(E:XK)(t:TA):TE:=fun σ H Q=>t σ H fun vs H1=>∀x dx,H1 x=none->H1 dx=none->dx≠x ->
 sp (.ref x::(vs++dvs)) (upd (upd H1 dx (.own x)) x (.ins C dx [])) (fun v H2=>v = .non/\Q (.ref x) H2) E
def Binds (K:Xy)(fd:FuncData)(ps:XB)(ds:Xw):Prop:=
 ∀(s:Shared) (us:Xw),K.In s.heap->(us++ds).length=ps.length->BindsTo s fd ⟨us,[]⟩ (ps.zip (us++ds))
def Binds.all {K:Xy}{fd:FuncData}{ps:XB}(h:∀us:Xw,us.length=ps.length->bindArgs fd ⟨us,[]⟩=pure (ps.zip us)):Binds K fd ps []:=fun s us _ hl=>by rw[Um] at hl ⊢;exact .of_eq (h us hl)
def kh (CX:CXT)(X:Cx)(E:XK):Prop:=∀(pins:Xu) (σ:St) (H:Hp) (s:Shared) (e:Value) (s':Shared),Inv X pins σ H s->CX X.stack H s E e s'->X.xe e s'
section
variable {X:Cx}{CX:CXT}{k:Nat}{f C:Addr}{fd:FuncData}{ps:XB}{sp:Sp}{dvs:Xo}{ds:Xw}{E:XK}{x m:Str}{p pos apos:Pos}{e o:Expr}{es:List Expr}{ta:TE}{t:TA}
def B5 {pins:Xu}       (F:FnOk X.prog X.w X.K X.mg X.base CX k f fd ps sp)(hr:Room k X.A)(hb:Binds X.K fd ps ds)(hd:Vals dvs ds)(hx:kh CX X E)
  (I:Inv X pins σ H s) (r:Vals vs us) (h:sp (vs++dvs) H Q E):wpAny (model X.prog X.w) X.A (call (.ref f) us) (EP X pins σ Q) X.xe s:=by
 have r2:Vals (vs++dvs) (us++ds):=r.append hd;have hl:(us++ds).length=ps.length:=by rw[<- r2.length];exact F.len _ _ _ _ h
 refine wpAny_call (VT (F.run X.A X.stack s H ⟨us,[]⟩ (us++ds) (vs++dvs) Q E hr I.env0 (hb s us I.kIn hl) r2 h) fun r s' hq=>?_);cases r with
 |error e=>exact hx pins σ H s e s' I hq
 |ok fl=>
  cases fl with
  |ret u=>exact I.after hq
  |next=>exact False.elim hq
  |brk=>exact False.elim hq
  |cont=>exact False.elim hq
def Kd (F:FnOk X.prog X.w X.K X.mg X.base CX k f fd ps sp)(hr:Room k X.A)(hg:Gl X x)(hm:X.mg x=some (.ref f))(hk:W.keepIn X.K (.ref f)=true)(hb:Binds X.K fd ps ds)(hd:Vals dvs ds)(hx:kh CX X E)
  (ha:PA X (e::es) t) (hdb:(x==("__debug__" : Str))=false:=by decide) (he:starEach (e::es) X.env=(false,eval e X.env)::starEach es X.env:=by rfl) (hpl:(backTo pos (starEach es X.env)).any (·.1)=false:=by rfl) :
  PE X (.Call (.Name x p) (e::es) [] pos) (qP sp dvs E t):=by
 intro pins s σ H Q I h;refine Vr (xD I hg hm ?_ hdb);refine W.callWith_K (h₀:=X.base) I.ok.mod.kin hk (thn (ha pos pins s σ H _ I h) fun us s1 ⟨vs,H1,I1,r,q⟩=>⟨I1.kIn,?_⟩) he hpl;exact B5 F hr hb hd hx I1 r q
structure Mk (K:Xy) (C f:Addr):Prop where
 makes:W.makesIn K C=true
 init:W.findIn K (.ref C) "__init__" = some (some (.ref f))
 fn:W.isFn K (.ref f)=true
 kp:W.keepIn K (.ref C)=true
def HZ {pins:Xu}    {Q:VK}   (M:Mk X.K C f)(F:FnOk X.prog X.w X.K X.mg X.base CX k f fd ps sp)(hr:Room (k+1) X.A)(hb:Binds X.K fd ps ds)(hd:Vals dvs ds)
  (hx:kh CX X E) (I:Inv X pins σ H s) (r:Vals vs us)
  (h:∀x dx,H x=none->H dx=none->dx≠x->sp (.ref x::(vs++dvs)) (upd (upd H dx (.own x)) x (.ins C dx [])) (fun v H2=>v = .non/\Q (.ref x) H2) E) :
  wpAny (model X.prog X.w) X.A (call (.ref C) us) (EP X pins σ Q) X.xe s:=by
 have hq:=h (s.heap.objs.size+1) s.heap.objs.size (I.hok.fresh (We _)) (I.hok.fresh (TB _)) (T2 (VM _));have I2:=Inv.made (C:=C) I;have r2:Vals (V.ref (s.heap.objs.size+1)::(vs++dvs)) (Value.ref (s.heap.objs.size+1)::(us++ds)):=.cons rfl (r.append hd);have hl:(Value.ref (s.heap.objs.size+1)::us++ds).length=ps.length:=by have e:=r2.length;rw[F.len _ _ _ _ hq] at e;exact e.symm
 refine wpAny_call (G0 (f:=f) I.kIn M.makes M.init (UK.mp M.fn) (VT (F.run _ X.stack _ _ ⟨Value.ref (s.heap.objs.size+1)::us,[]⟩ (Value.ref (s.heap.objs.size+1)::(us++ds)) _ _ E (hr.make C us [])
  (I2.env0.make C us []) (hb _ (Value.ref (s.heap.objs.size+1)::us) I2.kIn hl) r2 hq) fun r s' hq'=>?_))
 cases r with
 |error e=>exact hx pins σ _ _ e s' I2 hq'
 |ok fl=>
  cases fl with
  |ret u=>
   obtain⟨v,H',I3,rv,ev,q3⟩:=I2.after hq';subst ev;exact⟨rv,⟨V.ref (s.heap.objs.size+1),H',I3,rfl,q3⟩⟩
  |next=>exact False.elim hq'
  |brk=>exact False.elim hq'
  |cont=>exact False.elim hq'
def Kh (M:Mk X.K C f)(F:FnOk X.prog X.w X.K X.mg X.base CX k f fd ps sp)(hr:Room (k+1) X.A)(hg:Gl X x)(hm:X.mg x=some (.ref C))(hb:Binds X.K fd ps ds)(hd:Vals dvs ds)(hx:kh CX X E)
  (ha:PA X (e::es) t) (hdb:(x==("__debug__" : Str))=false:=by decide) (he:starEach (e::es) X.env=(false,eval e X.env)::starEach es X.env:=by rfl) (hpl:(backTo pos (starEach es X.env)).any (·.1)=false:=by rfl) :
  PE X (.Call (.Name x p) (e::es) [] pos) (Lu C sp dvs E t):=by
 intro pins s σ H Q I h;refine Vr (xD I hg hm ?_ hdb);refine W.callWith_K (h₀:=X.base) I.ok.mod.kin M.kp (thn (ha pos pins s σ H _ I h) fun us s1 ⟨vs,H1,I1,r,q⟩=>⟨I1.kIn,?_⟩) he hpl;exact HZ M F hr hb hd hx I1 r q
end
section
variable {X:Cx}{CX:CXT}{k:Nat}{f C:Addr}{fd:FuncData}{ps ks:XB}{sp:Sp}{E:XK}{x m:Str}{p pos apos kpos:Pos}{e o:Expr}{es:List Expr}{kws:List Keyword}{te ta:TE}{t tk:TA}{nm:Option Str}
variable {g:Xw->Xw->Xw}{gV:Xo->Xo->Xo}
end
structure FnScope (N P:XB) (sc:Scope):Prop where
 kind:sc.kind = .function
 co:sc.isCoroutine=false
 gen:sc.isGenerator=false
 nd:N.Nodup
 pre:N.take P.length=P
 par:∀x∈P,sc.names.lookup x=some .local\/sc.names.lookup x=some .cell
 nofree:∀y∈sc.names,y.2 ≠ .free
theorem vQ {kindOf:Str->Option NameKind}{x:Str}:∀ {binds:List (Str×Value)} {m:Xv},(∀v,(x,v)∉binds)->bindL kindOf binds m x=m x
 |[],_,_=>rfl
 | (n,v)::r,m,h=>by
  unfold bindL;rw[vQ fun w hw=>h w (TJ _ hw)];split
  ·have:x≠n:=by rintro rfl;exact h v TD
   simp[this]
  ·rfl
theorem vO {kindOf:Str->Option NameKind}{x:Str}:∀ {binds:List (Str×Value)} {m:Xv},(∀v,(x,v)∉binds)->bindC kindOf binds m x=m x
 |[],_,_=>rfl
 | (n,v)::r,m,h=>by
  unfold bindC;rw[vO fun w hw=>h w (TJ _ hw)];split
  ·rfl
  ·have:x≠n:=by rintro rfl;exact h v TD
   simp[this]
theorem vP {kindOf:Str->Option NameKind}{x:Str}{v:Value}:∀ {P:XB} {vs:Xw} {i:Nat} {m:Xv},P.Nodup->P[i]?=some x->vs[i]?=some v->kindOf x=some .local ->
  bindL kindOf (P.zip vs) m x=some v
 |[],_,_,_,_,h,_,_=>by simp at h
 |_::_,[],_,_,_,_,h,_=>by simp at h
 |p::P,w::vs,0,m,nd,h1,h2,hk=>by
  simp at h1 h2;subst h1;subst h2;show bindL kindOf ((p,w)::P.zip vs) m p=_;unfold bindL;rw[vQ fun v hv=>(Uk.mp nd).1 (List.of_mem_zip hv).1,Ts hk];simp
 |p::P,w::vs,i+1,m,nd,h1,h2,hk=>by show bindL kindOf ((p,w)::P.zip vs) m x=_;unfold bindL;exact vP (i:=i) (Uk.mp nd).2 (by simpa using h1) (by simpa using h2) hk
theorem vN {kindOf:Str->Option NameKind}{x:Str}{v:Value}:∀ {P:XB} {vs:Xw} {i:Nat} {m:Xv},P.Nodup->P[i]?=some x->vs[i]?=some v->kindOf x≠some .local ->
  bindC kindOf (P.zip vs) m x=some v
 |[],_,_,_,_,h,_,_=>by simp at h
 |_::_,[],_,_,_,_,h,_=>by simp at h
 |p::P,w::vs,0,m,nd,h1,h2,hk=>by
  simp at h1 h2;subst h1;subst h2;show bindC kindOf ((p,w)::P.zip vs) m p=_;unfold bindC;rw[vO fun v hv=>(Uk.mp nd).1 (List.of_mem_zip hv).1,Tr hk];simp
 |p::P,w::vs,i+1,m,nd,h1,h2,hk=>by show bindC kindOf ((p,w)::P.zip vs) m x=_;unfold bindC;exact vN (i:=i) (Uk.mp nd).2 (by simpa using h1) (by simpa using h2) hk
noncomputable def fU (N:XB)(vs:Xo):St:=vs.map some++List.replicate (N.length-vs.length) none
noncomputable def yU (CX:CXT)(P:Program)(w:World)(K:Xy)(mg:Xv)(base:Heap)(N:XB)(qual:Str)(scope:Scope)(f:Addr)(cd:Value)(A:Around)(outer:List Env)(s:Shared)(H:Hp)(E:XK):Cx where
 prog:=P
 w:=w
 K:=K
 mg:=mg
 base:=base
 A:=A.deeper (envOfC qual scope s.heap.objs.size f cd)
 N:=N
 s₀:=s
 H₀:=H
 env:=envOfC qual scope s.heap.objs.size f cd
 outer:=outer
 stack:=envOfC qual scope s.heap.objs.size f cd::outer
 ex:=[]
 calm:=true
 fn:=fun _=>true
 pn:=[]
 xe:=fun e s'=>wpAny (model P w) (A.deeper (envOfC qual scope s.heap.objs.size f cd)) (leaving (envOfC qual scope s.heap.objs.size f cd) e) (fun _ s''=>CX outer H s E e s'') (fun e' s''=>CX outer H s E e' s'') s'
def yQ {sc:Scope}{n:Nat}{x:Str}(h:sc.names.lookup x=some .cell):∃c,(cellsFrom n sc.names []).lookup x=some c:=by have q:=W.cellsFrom_some sc.names n [] (.inl h);exact WE.mp q
def Ey {CX:CXT}{P:Program}{w:World}{K:Xy}{mg:Xv}{base:Heap}{N ps:XB}{qual:Str}{scope:Scope}{f:Addr}{cd:Value}{A:Around}{outer:List Env}{s s1:Shared}{H:Hp}{E:XK}{us:Xw}{vs:Xo}
  (S:FnScope N ps scope) (hd:A.handled=none) (e0:Env0 P w K mg base A outer s H) (hl:vs.length=ps.length) (r:Vals vs us)
  (x:InCallC s s.heap.objs.size (bindL (envOfC qual scope s.heap.objs.size f cd).kindOf (ps.zip us) fun _=>none) (cellsFrom (s.heap.objs.size+1) scope.names []) (bindC (envOfC qual scope s.heap.objs.size f cd).kindOf (ps.zip us) fun _=>none) s1) :
  Inv (yU CX P w K mg base N qual scope f cd A outer s H E) [] (fU N vs) H s1:=by
 have hpl:ps.length<=N.length:=by have:=T7 List.length S.pre;rw[VN] at this;lia
 obtain⟨h1,tk,rfl,hk⟩:=x.done;have noA:∀b:Addr,b∉(yU CX P w K mg base N qual scope f cd A outer s H E).ex:=fun b z=>absurd (show b∈([]:Xz) from z) (by simp);refine⟨⟨e0.mod,S.kind,rfl,rfl,TB _,fun y z c h1 h2=>?_,fun y hy=>?_,fun y c _ h=>?_,fun _=>hd,Around.frames_deeper e0.frames,.inr ⟨rfl,rfl⟩,fun b z=>absurd z (noA b),e0.bs,e0.bsz,fun b _ _=>noA b,fun b z=>absurd z (noA b),e0.funs,e0.frf⟩,
  rfl,e0.bare,Un.kept hk,⟨_,x.toInCall.ns,fun i y v h1 h2 h3=>?_⟩,fun y c h=>⟨_,x.cell y c h⟩,e0.hok.fresh (TB _),fun y c h=>?_,fun p hp=>absurd (show p∈([]:Xu) from hp) (by simp),e0.hok.kept hk,?_⟩
 ·exact name_of_addr x.apart (VU h1) (VU h2)
 ·have hy:scope.names.lookup y=some .cell\/scope.names.lookup y=some .free:=hy;rcases hy with hy|hy
  ·exact yQ hy
  ·exact absurd rfl (S.nofree _ (VU hy))
 ·exact Ut (x.above y c (VU h))
 ·have hi:i<vs.length:=by
   unfold fU at h2;by_cases hi:i<vs.length
   ·exact hi
   ·rw[Vs (by simpa using hi)] at h2;rw[List.getElem?_replicate] at h2;split at h2<;>cases h2
  have ha:vs[i]?=some v:=by
   unfold fU at h2;rw[VO (by simpa using hi),TX] at h2;cases e:vs[i]? with
   |none=>rw[e] at h2;cases h2
   |some a=>rw[e] at h2;cases h2;rfl
  obtain⟨u,hu,rv⟩:=r.get ha;have hp:ps[i]?=some y:=by rw[<- S.pre,List.getElem?_take_of_lt ()];exact h1
  have ndP:ps.Nodup:=by rw[<- S.pre];exact S.nd.sublist (List.take_sublist _ _)
  refine⟨u,rv,?_⟩;rcases S.par y (Vi hp) with k|k
  ·exact .inl ⟨k,vP ndP hp hu k⟩
  ·obtain⟨c,e⟩:=yQ (n:=s.heap.objs.size+1) k;refine .inr ⟨.inl k,c,e,?_⟩;have q:=x.cell y c e;rw[vN ndP hp hu (by show scope.names.lookup y≠_;rw[k];decide)] at q;exact q
 ·exact e0.hok.fresh (Ut (x.above y c (VU h)))
 ·unfold fU;show _=N.length;rw[Tz,Tw,WX];lia
def Ow {CX:CXT}{P:Program}{w:World}{K:Xy}{mg:Xv}{base:Heap}{k:Nat}{f:Addr}{name qual:Str}{params:Arguments}{body:List Stmt}{scope:Scope}{dV kV doc pm cdv ct oc:Value}{an od:Option Addr}
  {osl:Array (Xx)} {N ps:XB} {sp:Sp} (lk:K.lookup f=some ⟨oc,od,.func (W.fnOf name qual params body scope dV kV doc pm an cdv ct),osl⟩) (hcd:W.codeIn K cdv qual=true) (S:FnScope N ps scope)
  (len:∀vs H Q E,sp vs H Q E->vs.length=ps.length)
  (hbody:∀(A:Around) (outer:List Env) (s:Shared) (H:Hp) (vs:Xo) (Q:VK) (E:XK),Room k (A.deeper (envOfC qual scope s.heap.objs.size f cdv))->sp vs H Q E ->
   ∃t,PSs (yU CX P w K mg base N qual scope f cdv A outer s H E) body t/\t { nx:=fun _ H'=>Q .non H',rt:=Q } (fU N vs) H) :
  FnOk P w K mg base CX (k+1) f (W.fnOf name qual params body scope dV kV doc pm an cdv ct) ps sp:=by
 refine⟨len,fun A outer s H args us vs Q E hr e0 hb r hsp=>?_⟩;have hl:=len _ _ _ _ hsp;have KX:K.In s.heap:=e0.mod.kin.keeps fun b o e=>(e0.bs b o e).1;have lim:s.heap.NoLimit:=e0.mod.nolimit.keeps fun b o e=>(e0.bs b o e).1;have hkind:∀y∈ps.zip us,scope.names.lookup y.1=some .local\/(scope.names.lookup y.1=some .cell/\((cellsFrom (s.heap.objs.size+1) scope.names []).lookup y.1).isSome=true):=fun hpt0 hy=>by
  obtain⟨n,v⟩:=hpt0;rcases S.par n (List.of_mem_zip hy).1 with q|q
  ·exact .inl q
  ·exact .inr ⟨q,W.cellsFrom_some _ _ _ (.inl q)⟩
 refine codeAny_call_function hr.depth (KX _ _ lk) rfl S.co S.gen rfl (W.codeRec_of KX hcd) (hb _ _ _ _ ?_);refine wpAny_newFunctionEnv_cells S.kind hkind fun env he s1 x=>?_;subst he;refine⟨lim.keeps x.toInCall.keep,codeAny_func ?_⟩;obtain⟨t,ht,hq⟩:=hbody A outer s H vs Q E (hr.deeper _) hsp;have I:Inv (yU CX P w K mg base N qual scope f cdv A outer s H E) [] (fU N vs) H s1:=Ey S hr.hd e0 hl r x;refine Vh (ht [] s1 (fU N vs) H _ I hq) (fun fl s' hs=>?_) fun e s' hs=>hs;have fin:∀ {σ':St} {H':Hp} {v:V} {u:Value},Inv (yU CX P w K mg base N qual scope f cdv A outer s H E) [] σ' H' s'->RelV v u->Q v H'->CE outer P w H s Q u s':=
  fun {σ' H' v u} J rv q=>⟨v,H',J.os,J.bare,J.base,J.hok,rv,q⟩
 cases fl with
 |ret u=>
  obtain⟨v,σ',H',J,rv,q⟩:=hs;exact fin J rv q
 |next=>
  obtain⟨σ',H',J,q⟩:=hs;exact fin (v:=V.non) (u:=Value.none) J rfl q
 |brk=>
  obtain⟨_,_,_,q⟩:=hs;exact False.elim q
 |cont=>obtain⟨_,_,_,q⟩:=hs;exact False.elim q
section
variable {X:Cx}{x:Str}{p pos:Pos}{e:Expr}{es:List Expr}{t:TA}{id T:String}{r:Xo->Hp->VK->Prop}
noncomputable def tCB (r:Xo->Hp->VK->Prop)(t:TA):TE:=fun σ H Q=>t σ H fun vs H1=>r vs H1 Q
def cF (hc:CallR X (.builtin id) r)(hg:Gl X x)(hm:X.mg x=none)(hv:bootBuiltins x=some (.builtin id))(ha:PA X (e::es) t)(hn:x ≠ "__name__" := by decide) (hdb:(x==("__debug__" : Str))=false:=by decide)
  (he:starEach (e::es) X.env=(false,eval e X.env)::starEach es X.env:=by rfl) (hpl:(backTo pos (starEach es X.env)).any (·.1)=false:=by rfl):PE X (.Call (.Name x p) (e::es) [] pos) (tCB r t):=by
 intro pins s σ H Q I h;refine Vr (g6 I hg hm hv ?_ hn hdb);exact WY (thn (ha pos pins s σ H _ I h) fun us s1 ⟨vs,H1,I1,r1,q1⟩=>hc pins s1 σ H1 vs us Q I1 r1 q1) he hpl
def jf (hc:CallR X (.type T) r)(hg:Gl X x)(hm:X.mg x=none)(hv:bootBuiltins x=some (.type T))(ha:PA X (e::es) t)(hn:x ≠ "__name__" := by decide) (hdb:(x==("__debug__" : Str))=false:=by decide)
  (he:starEach (e::es) X.env=(false,eval e X.env)::starEach es X.env:=by rfl) (hpl:(backTo pos (starEach es X.env)).any (·.1)=false:=by rfl):PE X (.Call (.Name x p) (e::es) [] pos) (tCB r t):=by
 intro pins s σ H Q I h;refine Vr (g6 I hg hm hv ?_ hn hdb);exact VI (thn (ha pos pins s σ H _ I h) fun us s1 ⟨vs,H1,I1,r1,q1⟩=>hc pins s1 σ H1 vs us Q I1 r1 q1) he hpl
end
end L2
namespace HT
open PySem PyProof.Rows
noncomputable def bM:XD->XD->Bool
 |[],[]=>false
 |[],_::_=>true
 |_::_,[]=>false
 |x::xs,y::ys=>if x=y then bM xs ys else decide (x<y)
def BE (x y:Int)(xs ys:XD):bM (x::xs) (y::ys)=if x=y then bM xs ys else decide (x<y):=rfl
section
open PySem.SeqAt
open PySem.AutoSeq1 (wpAny_loadPart')
open PySem.MeetsSeq PySem.MeetsSeq2 PySem.MeetsSeq3
end
section
variable {prog:Program}{w:World}{A:Around}{E:Xs}{s:Shared}
def Jr  {vs ws:Xw}{Q:Xs}(ht:IsTup s.heap t vs.toArray)(hb:IsTup s.heap b ws.toArray)(hv:vs≠[])
  (h1:ws=[]->Q (.ref t) s) (h2:ws≠[]->Q (.ref s.heap.objs.size) { s with heap:=s.heap.push { cls:=.type "tuple",data:=.seq (vs++ws).toArray } })
  (hsz:vs.length+ws.length<=sizeLine):wpAny (model prog w) A (binaryOp .Add (.ref t) (.ref b)) Q E s:=by
 obtain⟨⟨cls,dd,data,sl⟩,ho,hc,n,hd⟩:=id ht;obtain⟨⟨cls2,dd2,data2,sl2⟩,ho2,hc2,n2,hd2⟩:=id hb;simp only at hc hd hc2 hd2;subst hc hd hc2 hd2;have e:vs.toArray++ws.toArray=(vs++ws).toArray:=by simp
 by_cases hw:ws=[]
 ·exact concat_meets ⟨_,ho,rfl⟩ ⟨_,ho2,rfl⟩ noFill_tuple_add seq_tuple_add WZ W0 (W1 _ _)
   (tuple_addW1 t b vs.toArray ws.toArray n n2 dd dd2 sl sl2 (by simpa using hv) (by simp[hw])) ⟨ho,ho2,h1 hw⟩
 ·refine concat_meets ⟨_,ho,rfl⟩ ⟨_,ho2,rfl⟩ noFill_tuple_add seq_tuple_add WZ W0 (W1 _ _)
   (tuple_addW2 t b vs.toArray ws.toArray n n2 dd dd2 sl sl2 (by simpa using hv) (by simpa using hw) (by rw[TZ,TZ];exact hsz)) ⟨ho,ho2,?_⟩
  rw[e];exact h2 hw
noncomputable def sIx (n d:Nat):Option Int->Nat
 |none=>d
 |some v=>if v<0 then (v+(n:Int)).toNat else min v.toNat n
def M6 (n d:Nat)(hd:d<=n)(o:Option Int):sIx n d o<=n:=by
 cases o with
 |none=>exact hd
 |some v=>
  show (if v<0 then (v+(n:Int)).toNat else min v.toNat n)<=n;by_cases hv:v<0
  ·rw[Ts hv];lia
  ·rw[Tr hv];exact Nat.min_le_right _ _
def CK (v:Int)(n d:Nat):(if v<0 then max (v+(n:Int)) 0 else min v (n:Int))=((sIx n d (some v):Nat):Int):=by
 show (if v<0 then max (v+(n:Int)) 0 else min v (n:Int))=(((if v<0 then (v+(n:Int)).toNat else min v.toNat n):Nat):Int)
 by_cases hv:v<0
 ·simp only[Ts hv];lia
 ·simp only[Tr hv];lia
def AY (lo hi:Option Int)(n:Nat):Builtin.Slice.sliceAdjust lo hi 1 (n:Int)=(((sIx n 0 lo:Nat):Int),((sIx n n hi:Nat):Int)):=by
 have h1:¬((1:Int)<0):=()
 unfold Builtin.Slice.sliceAdjust;simp only[h1,Uf];refine UD ?_ ?_
 ·cases lo with
  |none=>rfl
  |some v=>exact CK v n 0
 ·cases hi with
  |none=>rfl
  |some v=>exact CK v n n
def B1 (i j:Nat):Builtin.Slice.slicePlaces (i:Int) (j:Int) 1=j-i:=by
 unfold Builtin.Slice.slicePlaces;have h1:(1:Int) > 0:=()
 simp only[h1,UE,Int.ediv_one];split<;>lia
def uB   {Q:Option Int->Shared->Prop}(p:IsPart v o)(h:Q o s):wpAny (model prog w) A (Builtin.Slice.slicePartIndex v) Q E s:=by
 cases p with
 |none=>exact slicePart_none h
 |int i t=>exact slicePart_int h
def jj   {lo hi:Option Int}{n:Nat}{Q:Int×Int×Nat->Shared->Prop}(hs:s.heap.IsSliceOf sl vl vu .none)(pl:IsPart vl lo)(pu:IsPart vu hi)
  (h:Q (((sIx n 0 lo:Nat):Int),1,sIx n n hi-sIx n 0 lo) s):wpAny (model prog w) A (Builtin.Slice.sliceApplied (.ref sl) (pure (n:Int))) Q E s:=by
 obtain⟨os,hos,hcs,hds⟩:=id hs;unfold Builtin.Slice.sliceApplied Builtin.Slice.sliceFields;refine Tq (Tq (Vt hos hds (x:=vl) rfl (Tq (Vt hos hds (x:=vu) rfl (Tq (Vt hos hds (x:=.none) rfl (Tt ?_)))))));refine Tq (slicePart_none ?_);show wpAny _ _ (if ((1:Int)==0)=true then _ else _) _ _ s;rw[Tr (by decide)];refine Tq (uB pl (Tq (uB pu (Tq (Tt ?_)))));show wpAny _ _ (match Builtin.Slice.sliceAdjust lo hi 1 (n:Int) with|(lo,hi)=>pure (lo,(1:Int),Builtin.Slice.slicePlaces lo hi 1)) _ _ s;rw[AY lo hi n];show wpAny _ _ (pure (((sIx n 0 lo:Nat):Int),(1:Int),Builtin.Slice.slicePlaces ((sIx n 0 lo:Nat):Int) ((sIx n n hi:Nat):Int) 1)) _ _ s;rw[B1];exact Tt h
def Hu (xs:Array Value)(i k:Nat):((List.range k).filterMap fun (m:Nat)=>xs[((i:Int)+(m:Int) * 1).toNat]?).toArray=((xs.toList.drop i).take k).toArray:=by
 have e:(fun (m:Nat)=>xs[((i:Int)+(m:Int) * 1).toNat]?)=fun m=>xs[i+m]?:=by
  funext m
  have:((i:Int)+(m:Int) * 1).toNat=i+m:=()
  rw[this]
 rw[e];have:=pick_run xs i k;rw[List.filterMap_map] at this;have e2:((fun x=>xs[x]?)∘fun x=>i+x)=fun m=>xs[i+m]?:=rfl;rw[e2] at this;rw[this]
def oh    {lo hi:Option Int}{Q:Xs}(ht:IsTup s.heap t items)(hs:s.heap.IsSliceOf sl vl vu .none)(pl:IsPart vl lo)(pu:IsPart vu hi)
  (hw:¬(sIx items.size 0 lo=0/\sIx items.size items.size hi=items.size))
  (h:Q (.ref s.heap.objs.size) { s with heap:=s.heap.push { cls:=.type "tuple",data:=.seq ((items.toList.drop (sIx items.size 0 lo)).take (sIx items.size items.size hi-sIx items.size 0 lo)).toArray } })
  (hsz:items.size<=sizeLine):wpAny (model prog w) A (getItem (.ref t) (.ref sl)) Q E s:=by
 have htake:sizeOk (.seq ((items.toList.drop (sIx items.size 0 lo)).take (sIx items.size items.size hi-sIx items.size 0 lo)).toArray):=by show ((items.toList.drop (sIx items.size 0 lo)).take (sIx items.size items.size hi-sIx items.size 0 lo)).toArray.size<=sizeLine;rw[TZ,VN,List.length_drop,T6];omega
 have hj:sIx items.size items.size hi<=items.size:=M6 _ _ (TB _) hi;obtain⟨os,hos,hcs,hds⟩:=id hs;have hTs:s.TypeIs (.ref sl) "slice" := ⟨os,hos,hcs⟩
 unfold getItem;try with_reducible refine Uw ?_
 first|refine Tq (Tt ?_)|skip
 refine Tq (wpAny_sequenceKey ht.typeIs (by decide) ?_)
 refine Tq (Vj (name:=Str.ofString "__getitem__") ht.typeIs VV
  (UF VV ht.typeIs entry_tuple_getitem ?_ (args_tuple_getitem _ _)))
 show wpAny _ _ (Builtin.Tuple.tupleItemsOf (.ref t) >>= _) _ _ s;refine Tq (tupleItemsOf_ ht ?_);refine Tq (Wf hTs ?_);rw[Ts (by decide)];refine Tq (jj hs pl pu ?_);have hno:¬((((sIx items.size 0 lo:Nat):Int)==0&&(1:Int)==1&&(sIx items.size items.size hi-sIx items.size 0 lo)==items.size)=true):=by intro q;rw[UM,UM] at q;have q1:((sIx items.size 0 lo:Nat):Int)=0:=eq_of_beq q.1.1;have q2:sIx items.size items.size hi-sIx items.size 0 lo=items.size:=eq_of_beq q.2;exact hw ⟨by omega,by omega⟩
 show wpAny _ _ (if (((sIx items.size 0 lo:Nat):Int)==0&&(1:Int)==1&&(sIx items.size items.size hi-sIx items.size 0 lo)==items.size)=true then _ else _) _ _ s;rw[Tr hno,Hu]
 first
  |exact Tq (m:=Builtin.Tuple.tupleExact _) (UB (Tt ⟨_,rfl,Tt h⟩) htake)
  |exact Tq (m:=Builtin.Tuple.tupleExact _) (UB (Tq (Tt (Tt ⟨_,rfl,Tt h⟩))) htake)
  |exact Tq (Tq (m:=Builtin.Tuple.tupleExact _) (UB (Tt (Tt ⟨_,rfl,Tt h⟩)) htake))
  |exact Tq (Tq (m:=Builtin.Tuple.tupleExact _) (UB (Tt ⟨_,rfl,Tt h⟩) htake))
end
end HT
namespace L2
open PySem PySem.Spec PyProof.Rows
noncomputable abbrev TO:=St->Hp->(Option Int->Hp->Prop)->Prop
def PO (X:Cx)(e:Option Expr)(t:TO):Prop:=
 ∀(pins:Xu) (s:Shared) (σ:St) (H:Hp) (Q:Option Int->Hp->Prop),Inv X pins σ H s->t σ H Q ->
  wpAny (model X.prog X.w) X.A (evalPart e X.env) (fun u s'=>∃o H',Inv X pins σ H' s'/\IsPart u o/\Q o H') X.xe s
noncomputable def yj:TO:=fun _ H Q=>Q none H
noncomputable def IE (t:TE):TO:=fun σ H Q=>t σ H fun x H1=>∃i,x = .int i/\Q (some i) H1
def jD {ns:XD}:∀ {us:Xw},Vals (ns.map V.int) us->IntsAre us ns:=by
 induction ns with
 |nil=>intro us r;rw[VW] at r;cases r;exact .nil
 |cons n ns ih=>
  intro us r;rw[TQ] at r;cases r with
  |cons r1 r2=>obtain⟨t,e⟩:=r1;subst e;exact .cons n t (ih r2)
section
variable {X:Cx}{e:Expr}{te:TE}{lo hi:Option Expr}{tl th:TO}{pos p2:Pos}
def Kn:PO X none yj:=by intro pins s σ H Q I h;rw[evalPart_none];exact Tt ⟨none,H,I,.none,h⟩
def Ko (h:PE X e te):PO X (some e) (IE te):=by intro pins s σ H Q I hw;rw[evalPart_some];refine thn (h pins s σ H _ I hw) fun u s1 hpt9=>?_;obtain⟨x,H1,I1,r1,q1⟩:=hpt9;obtain⟨i,rfl,q⟩:=q1;obtain⟨t,rfl⟩:=r1;exact⟨some i,H1,I1,.int i t,q⟩
def SlR (X:Cx)(r:V->Option Int->Option Int->Hp->VK->Prop):Prop:=
 ∀(pins:Xu) (s:Shared) (σ:St) (H:Hp) (x:V) (v vl vu:Value) (lo hi:Option Int) (sl:Addr) (Q:VK),Inv X pins σ H s->RelV x v->s.heap.IsSliceOf sl vl vu .none->IsPart vl lo->IsPart vu hi->r x lo hi H Q ->
  ∃T id,typeLookup (.type T) "__getitem__" = pure (some (.builtin id))/\s.TypeIs v T/\wpAny (model X.prog X.w) X.A (getItem v (.ref sl)) (EP X pins σ Q) X.xe s
def SlR.or  (h:SlR X r)(h':SlR X r'):SlR X (fun x lo hi H Q=>r x lo hi H Q\/r' x lo hi H Q):=by
 intro pins s σ H x v vl vu lo hi sl Q I rx hs pl pu q;rcases q with q|q
 ·exact h pins s σ H x v vl vu lo hi sl Q I rx hs pl pu q
 ·exact h' pins s σ H x v vl vu lo hi sl Q I rx hs pl pu q
noncomputable def tSl (r:V->Option Int->Option Int->Hp->VK->Prop)(te:TE)(tl th:TO):TE:=fun σ H Q=>te σ H fun x H1=>tl σ H1 fun l H2=>th σ H2 fun u H3=>r x l u H3 Q
def Hq  (hr:SlR X r)(he:PE X e te)(hl:PO X lo tl)(hu:PO X hi th):PE X (.Subscript e (.Slice lo hi none p2) pos) (tSl r te tl th):=by intro pins s σ H Q I h;refine Subscript_ (thn (he pins s σ H _ I h) fun v s1 hpt9=>?_);obtain⟨x,H1,I1,r1,q1⟩:=hpt9;refine wpAny_Slice (thn (hl pins s1 σ H1 _ I1 q1) fun vl s2 ⟨l,H2,I2,pl,q2⟩=>thn (hu pins s2 σ H2 _ I2 q2) fun vu s3 hpt9=>?_);obtain⟨u,H3,I3,pu,q3⟩:=hpt9;rw[evalPart_none];refine Tt ?_;have I4:Inv X pins σ H3 { s3 with heap:=s3.heap.push { cls:=.type "slice",data:=.fields #[vl,vu,.none] } }:=I3.kept (t':=s3.toks) fun b ob q=>TU _ q;obtain⟨T,id,hT,ht,hg⟩:=hr pins { s3 with heap:=s3.heap.push { cls:=.type "slice",data:=.fields #[vl,vu,.none] } } σ H3 x v vl vu l u s3.heap.objs.size Q I4 r1 (Heap.IsSliceOf.new ..) pl pu q3;show wpAny (model X.prog X.w) X.A (subscriptTail e (.Slice lo hi none p2) v (.ref s3.heap.objs.size)) (EP X pins σ Q) X.xe { s3 with heap:=s3.heap.push { cls:=.type "slice",data:=.fields #[vl,vu,.none] } };exact tail_any (ops:=[.ref s3.heap.objs.size,v]) ht hT hg (by with_unfolding_all rfl)
noncomputable def lK (xs:Xo)(lo hi:Option Int):Xo:=(xs.drop (HT.sIx xs.length 0 lo)).take (HT.sIx xs.length xs.length hi-HT.sIx xs.length 0 lo)
def qF (xs:Xo)(lo hi:Option Int):(lK xs lo hi).length<=xs.length:=by unfold lK;rw[VN,List.length_drop];lia
noncomputable def QH (K:Xy):V->Option Int->Option Int->Hp->VK->Prop:=fun x lo hi H Q=>∃a xs,x = .ref a/\SqT K H a xs /\
 ¬(HT.sIx xs.length 0 lo=0/\HT.sIx xs.length xs.length hi=xs.length)/\∀p,H p=none->Q (.ref p) (upd H p (.tup (lK xs lo hi)))
def Nz:SlR X (QH X.K):=by
 intro pins s σ H x v vl vu lo hi sl Q I rx hs pl pu h;obtain⟨a,xs,rfl,hx,hw,q⟩:=h;cases rx;obtain⟨its,r,ht,hz⟩:=I.tuple hx;have hlen:its.toArray.size=xs.length:=by rw[TZ];exact r.length.symm
 refine⟨"tuple",_,VV.lookup,ht.typeIs,?_⟩;refine HT.oh ht hs pl pu (by rw[hlen];exact hw) ?_ (by rw[hlen];exact hz);rw[hlen];refine⟨.ref s.heap.objs.size,_,I.laid (t':=s.toks) (o:=.tup (lK xs lo hi)) (fun b ob q=>TU _ q) (TB _) ?_,rfl,q _ (I.hok.fresh (TB _))⟩;exact⟨Ud (qF xs lo hi) hz,_,(r.drop (HT.sIx xs.length 0 lo)).take (HT.sIx xs.length xs.length hi-HT.sIx xs.length 0 lo),IsTup.new _ _⟩
def Vals.nil_iff {xs:Xo}  (r:Vals xs us):us=[]↔xs=[]:=by
 cases r with
 |nil=>simp
 |cons _ _=>simp
end
noncomputable def ixN (n:Nat)(i:Int):Option Nat:=if 0<=i then (if i<n then some i.toNat else none) else if -(n:Int)<=i then some (i+n).toNat else none
noncomputable def atI {α:Type}(xs:List α)(i:Int):Option α:=(ixN xs.length i).bind fun j=>xs[j]?
def CY {n:Nat}{i:Int}{j:Nat}(h:ixN n i=some j):seqIndex? i n=some j/\j<n /\ -(n:Int)<=i/\i<n:=by
 unfold ixN at h;by_cases h0:0<=i
 ·rw[Ts h0] at h;by_cases h1:i<n
  ·rw[Ts h1] at h;have e:i.toNat=j:=Uh h;exact⟨by rw[seqIndex_of h0 h1,e],(),(),h1⟩
  ·rw[Tr h1] at h;cases h
 ·rw[Tr h0] at h;by_cases h1:-(n:Int)<=i
  ·rw[Ts h1] at h;have e:(i+n).toNat=j:=Uh h;exact⟨by rw[seqIndex_neg () h1,e],(),h1,()⟩
  ·rw[Tr h1] at h;cases h
def xf {α:Type}{xs:List α}{i:Int}{v:α}(h:atI xs i=some v):∃j,seqIndex? i xs.length=some j/\xs[j]?=some v/\j<xs.length /\ -(xs.length:Int)<=i/\i<xs.length:=by
 unfold atI at h;cases e:ixN xs.length i with
 |none=>rw[e] at h;cases h
 |some j=>rw[e] at h;obtain⟨h1,h2,h3,h4⟩:=CY e;exact⟨j,h1,h,h2,h3,h4⟩
def Cv (b:Expr):Prop:=∀o i,subscripted b false o i=operate [o,i] (getItem o i)
def IxR (X:Cx)(r:R2):Prop:=
 ∀(value slice:Expr) (pins:Xu) (s:Shared) (σ:St) (H:Hp) (x y:V) (v u:Value) (Q:VK),Inv X pins σ H s->RelV x v->RelV y u->r x y H Q ->
  subscripted slice false v u=operate [v,u] (getItem v u)->wpAny (model X.prog X.w) X.A (subscriptTail value slice v u) (EP X pins σ Q) X.xe s
def MtR (X:Cx)(id:String)(r:V->Xo->Hp->VK->Prop):Prop:=
 ∀(pins:Xu) (s:Shared) (σ:St) (H:Hp) (x:V) (xs:Xo) (v:Value) (us:Xw) (Q:VK),Inv X pins σ H s->RelV x v->Vals xs us->r x xs H Q ->
  wpAny (model X.prog X.w) X.A (call (.builtin id) (v::us)) (EP X pins σ Q) X.xe s
section
variable {X:Cx}{a b:Expr}{ta tb:TE}{pos:Pos}
def IxR.or  (h:IxR X r)(h':IxR X r'):IxR X (fun x y H Q=>r x y H Q\/r' x y H Q):=by
 intro value slice pins s σ H x y v u Q I rx ry q hs;rcases q with q|q
 ·exact h value slice pins s σ H x y v u Q I rx ry q hs
 ·exact h' value slice pins s σ H x y v u Q I rx ry q hs
def OX  (hr:IxR X r)(ha:PE X a ta)(hb:PE X b tb)(hs:Cv b):PE X (.Subscript a b pos) (tOp r ta tb):=by intro pins s σ H Q I h;exact Subscript_ (LY ha hb I h fun v u s2 x y H2 I2 rx ry q=>hr a b pins s2 σ H2 x y v u Q I2 rx ry q (hs _ _))
noncomputable def O7 (K:Xy):R2:=fun x y H Q=>∃p xs i v,x = .ref p/\y = .int i/\SqL K H p xs/\atI xs i=some v/\Q v H
noncomputable def O9 (K:Xy):R2:=fun x y H Q=>∃p xs i v,x = .ref p/\y = .int i/\SqT K H p xs/\atI xs i=some v/\Q v H
noncomputable def O8:R2:=fun x y H Q=>∃z i c,x = .str z/\y = .int i/\z.length<=sizeLine/\atI z.cps.toList i=some c/\Q (.str ⟨#[c]⟩) H
def ix_list:IxR X (O7 X.K):=by
 intro value slice pins s σ H x y v u Q I rx ry h hs;obtain⟨p,xs,i,z,rfl,rfl,hq,he,q⟩:=h;cases rx;obtain⟨t,rfl⟩:=ry;obtain⟨its,r,pl,hz⟩:=I.list hq;obtain⟨j,h1,h2,h3,h4,h5⟩:=xf he;obtain⟨w,ew,rw'⟩:=r.get h2;have hl:=r.length;have hn:=mV;have fin:EP X pins σ Q w s:=⟨z,H,I,rw',q⟩
 by_cases h0:0<=i
 ·have hj:i.toNat=j:=by
   rw[seqIndex_of h0 h5] at h1;exact Uh h1
  exact item_listR pl.isList h0 () (by rw[hj];simpa using ew) fin hs
 ·have hj:(i+(its.toArray.size:Int)).toNat=j:=by
   rw[seqIndex_neg () h4] at h1;rw[TZ,<- hl];exact Uh h1
  exact subscriptTail_builtinR (x:=w) pl.isList.typeIs slot_list_getitem.lookup
   (wpAny_getItem_list_neg (Q:=fun r s'=>r=w/\EP X pins σ Q r s') pl.isList () (by rw[TZ]<;>lia) () (by rw[hj];simpa using ew) ⟨rfl,fin⟩) hs
def ix_tup:IxR X (O9 X.K):=by
 intro value slice pins s σ H x y v u Q I rx ry h hs;obtain⟨p,xs,i,z,rfl,rfl,hq,he,q⟩:=h;cases rx;obtain⟨t,rfl⟩:=ry;obtain⟨its,r,pl,hz⟩:=I.tuple hq;obtain⟨j,h1,h2,h3,h4,h5⟩:=xf he;obtain⟨w,ew,rw'⟩:=r.get h2;have hl:=r.length;have hn:=mV;have fin:EP X pins σ Q w s:=⟨z,H,I,rw',q⟩
 exact subscriptTail_builtinR (x:=w) pl.typeIs slot_tuple_getitem.lookup
  (getItem_tuple (j:=j) (Q:=fun r s'=>r=w/\EP X pins σ Q r s') pl () () (by rw[TZ,<- hl];exact h1) (by simpa using ew) ⟨rfl,fin⟩) hs
def Mn:IxR X O8:=by
 intro value slice pins s σ H x y v u Q I rx ry h hs;obtain⟨z,i,c,rfl,rfl,hz,he,q⟩:=h;obtain⟨t,rfl⟩:=rx;obtain⟨t',rfl⟩:=ry;obtain⟨j,h1,h2,h3,h4,h5⟩:=xf he;have hl:z.cps.toList.length=z.length:=by simp[Str.length]
 rw[hl] at h1 h4 h5;have hn:=mV;exact tail_any (typeIs_str s z t) slot_str_getitem.lookup (getItem_str (c:=c) (by
  have e1:decide (i < -(2 ^ 63:Int))=false:=Uc ();have e2:decide (i ≥ 2 ^ 63)=false:=Uc ()
  rw[e1,e2,Bool.or_false]) (by rw[h1];simpa using h2) ⟨.str ⟨#[c]⟩,H,I.tok _,⟨_,rfl⟩,q⟩) hs
noncomputable def rIx (K:Xy):R2:=fun x y H Q=>O7 K x y H Q\/O9 K x y H Q\/O8 x y H Q
def Mm:IxR X (rIx X.K):=ix_list.or (ix_tup.or Mn)
def BJ (its:Xw)(n j:Nat)(u:Value):Obj.mapSeq (·.setIfInBounds j u) { cls:=.type "list",data:=.seq its.toArray n }={ cls:=.type "list",data:=.seq (its.set j u).toArray n }:=by simp[Obj.mapSeq]
theorem Inv.lst {pins:Xu}{σ:St}{H:Hp}{s:Shared}{p:Addr}{xs:Xo}(I:Inv X pins σ H s)(h:H p=some (.lst xs)) :
  ∃(its:Xw) (n:Nat),Vals xs its/\s.heap.get? p=some { cls:=.type "list",data:=.seq its.toArray n }/\xs.length<=sizeLine:=by
 obtain⟨z,its,n,r,e⟩:=I.hok p _ h;exact⟨its,n,r,e,z⟩
def Inv.lstUpd {pins:Xu}    {p:Addr}{xs ys:Xo}{its its':Xw}{n n':Nat}{f:Obj->Obj}(I:Inv X pins σ H s)(h:H p=some (.lst xs))
  (ho:s.heap.get? p=some { cls:=.type "list",data:=.seq its.toArray n }) (hf:f { cls:=.type "list",data:=.seq its.toArray n }={ cls:=.type "list",data:=.seq its'.toArray n' }) (r:Vals ys its') (hz:ys.length<=sizeLine) (t:Nat) :
  Inv X pins σ (upd H p (.lst ys)) { s with heap:=s.heap.update p f,toks:=t }:=by
 have e:(s.heap.update p f).get? p=some { cls:=.type "list",data:=.seq its'.toArray n' }:=by rw[U1 f ho (by rw[hf]<;>rfl),hf]
 refine I.write (x:=p) (e:=p) (by rw[h];trivial) (.inl rfl) (fun b u hb q=>(Wg _ _ (T3 hb)).trans q) ⟨_,e⟩ ?_;exact⟨hz,its',n',r,e⟩
noncomputable def HN:V->V->V->Hp->(Hp->Prop)->Prop:=fun o i v H Q=>∃p xs k j,o = .ref p/\i = .int k/\H p=some (.lst xs)/\ixN xs.length k=some j/\Q (upd H p (.lst (xs.set j v)))
def Ik:LG X HN:=by
 intro pins s σ H o i v ov iv u Q I ro ri rv h;obtain⟨p,xs,k,j,rfl,rfl,hp,hj,q⟩:=h;cases ro;obtain⟨t,rfl⟩:=ri;obtain⟨its,n,r,ho,hz⟩:=I.lst hp;obtain⟨h1,h2,h3,h4⟩:=CY hj;have hl:=r.length;have hn:=mV;have I':Inv X pins σ (upd H p (.lst (xs.set j v))) { s with heap:=s.heap.update p (Obj.mapSeq (·.setIfInBounds j u)) }:=
  I.lstUpd hp ho (BJ its n j u) (r.set rv j) (by rw[UW];exact hz) s.toks
 by_cases h0:0<=k
 ·have hk:k.toNat=j:=by
   rw[seqIndex_of h0 h4] at h1;exact Uh h1
  exact W.ki_setAt ho h0 () (by rw[TZ,<- hl];exact h4) (by rw[hk];exact⟨_,I',q⟩)
 ·have hk:(k+(its.toArray.size:Int)).toNat=j:=by
   rw[seqIndex_neg () h3] at h1;rw[TZ,<- hl];exact Uh h1
  exact W.ki_setBack ho () (by rw[TZ,<- hl];exact h3) () (by rw[hk];exact⟨_,I',q⟩)
def xZ (lo hi:Option Int)(n:Nat):(sliceBounds lo hi none n).1=((HT.sIx n 0 lo:Nat):Int)/\(sliceBounds lo hi none n).2.1=((HT.sIx n n hi:Nat):Int)/\(sliceBounds lo hi none n).2.2=1:=by
 refine⟨?_,?_,rfl⟩
 ·cases lo with
  |none=>simp[sliceBounds,HT.sIx]
  |some i=>
   simp only[sliceBounds,HT.sIx,Option.getD_none,show (1:Int) > 0 by decide,UE];by_cases h:i<0
   ·simp only[h,UE]<;>lia
   ·simp only[h,Uf]<;>lia
 ·cases hi with
  |none=>simp[sliceBounds,HT.sIx]
  |some i=>
   simp only[sliceBounds,HT.sIx,Option.getD_none,show (1:Int) > 0 by decide,UE];by_cases h:i<0
   ·simp only[h,UE]<;>lia
   ·simp only[h,Uf]<;>lia
def vA (its:Xw)(lo hi:Option Int):slicePick its.toArray lo hi none=((its.drop (HT.sIx its.length 0 lo)).take (HT.sIx its.length its.length hi-HT.sIx its.length 0 lo)).toArray:=by obtain⟨h1,h2,h3⟩:=xZ lo hi its.toArray.size;unfold slicePick;rw[h1,h2,h3];simp only[sliceRange_one,pick_run,TZ]<;>rfl
noncomputable def Pc (K:Xy):V->Option Int->Option Int->Hp->VK->Prop:=fun x lo hi H Q=>∃a xs,x = .ref a/\SqL K H a xs/\∀p,H p=none->Q (.ref p) (upd H p (.lst (lK xs lo hi)))
def KG:SlR X (Pc X.K):=by intro pins s σ H x v vl vu lo hi sl Q I rx hs pl pu h;obtain⟨a,xs,rfl,hx,q⟩:=h;cases rx;obtain⟨its,r,ht,hz⟩:=I.list hx;have hlen:=r.length;refine⟨"list",_,slot_list_getitem.lookup,ht.isList.typeIs,?_⟩;refine wpAny_getItem_list_slice ht.isList hs pl pu .none (by simp) ?_ (by rw[TZ]<;>lia);rw[vA,<- hlen];refine⟨.ref s.heap.objs.size,_,I.laid (t':=s.toks) (o:=.lst (lK xs lo hi)) (fun b ob q=>TU _ q) (TB _) ?_,rfl,q _ (I.hok.fresh (TB _))⟩;exact⟨Ud (qF xs lo hi) hz,_,0,(r.drop (HT.sIx xs.length 0 lo)).take (HT.sIx xs.length xs.length hi-HT.sIx xs.length 0 lo),T8 _ rfl⟩
def CallR.or   (h:CallR X f r)(h':CallR X f r'):CallR X f (fun xs H Q=>r xs H Q\/r' xs H Q):=by
 intro pins s σ H xs us Q I rs q;rcases q with q|q
 ·exact h pins s σ H xs us Q I rs q
 ·exact h' pins s σ H xs us Q I rs q
def dP:CallR X (.type "tuple") (fun xs H Q=>∃p ys,xs=[.ref p]/\((SqL X.K H p ys/\∀l,H l=none->Q (.ref l) (upd H l (.tup ys)))\/(SqT X.K H p ys/\Q (.ref p) H))):=by
 intro pins s σ H xs us Q I r h;obtain⟨p,ys,rfl,h⟩:=h;obtain⟨u,rfl,rx⟩:=IQ r;cases rx;rcases h with ⟨hq,q⟩|⟨hq,q⟩
 ·obtain⟨its,r',pl,hz⟩:=I.list hq;have hlen:=r'.length;refine call_tuple_list pl.isList (fun h' kp=>?_) (by simp only[TZ]<;>lia);have I1:Inv X pins σ H { s with heap:=h' }:=I.kept (t':=s.toks) kp;have I2:Inv X pins σ (upd H h'.objs.size (.tup ys)) { s with heap:=h'.push { cls:=.type "tuple",data:=.seq its.toArray } }:=
   I1.laid (t':=s.toks) (fun b o e=>TU _ e) (TB _) (show ObjOk X.prog X.w _ _ _ (.tup ys) from ⟨hz,its,r',IsTup.new _ _⟩)
  exact⟨.ref h'.objs.size,_,I2,rfl,q _ (I1.hok.fresh (TB _))⟩
 ·obtain⟨its,r',pl,hz⟩:=I.tuple hq;exact call_tuple_same pl ⟨.ref p,H,I,rfl,q⟩
def tyV (K:Xy)(T:String)(x:V)(H:Hp):Prop:=match x with
 |.str _=>T = "str"
 |.int _=>T = "int"
 |.ref p=>(T = "list" /\ ∃xs,SqL K H p xs)\/(T = "tuple" /\ ∃o,K.lookup p=some o/\o.cls = .type "tuple" /\ o.dict=none) \/
   (T = "dict" /\ ((∃kvs,H p=some (.dK kvs))\/∃kvs,H p=some (.dT kvs)))\/(T = "set" /\ ∃S n,H p=some (.set S n))
 |_=>False
def IM {pins:Xu}       (I:Inv X pins σ H s)(r:RelV x v)(ty:tyV X.K T x H) :
  s.TypeIs v T/\∀a,v = .ref a->∃ob,s.heap.get? a=some ob/\ob.dict=none:=by
 cases x with
 |str z=>
  obtain⟨t,rfl⟩:=r;cases (show T = "str" from ty);exact⟨typeIs_str s z t,fun _ e=>nomatch e⟩
 |int i=>
  obtain⟨t,rfl⟩:=r;cases (show T = "int" from ty);exact⟨typeIs_int s i t,fun _ e=>nomatch e⟩
 |ref p=>
  cases r;rcases ty with ⟨rfl,xs,hq⟩|⟨rfl,o,hk,hc,hd⟩|⟨rfl,hk⟩|⟨rfl,S,n,hk⟩
  ·obtain⟨its,_,pl,_⟩:=I.list hq;refine⟨pl.isList.typeIs,fun a e=>?_⟩;cases e;obtain⟨o,n,e,c,hd,_⟩:=pl;exact⟨o,e,hd⟩
  ·refine⟨⟨o,I.kIn p o hk,hc⟩,fun a e=>?_⟩;cases e;exact⟨o,I.kIn _ o hk,hd⟩
  ·have z:∃o,s.heap.get? p=some o/\o.ExactDict:=by
    rcases hk with ⟨kvs,hk⟩|⟨kvs,hk⟩
    ·obtain⟨_,_,_,_,o,_,_,e,ex,_⟩:=I.hok p _ hk;exact⟨o,e,ex⟩
    ·obtain⟨_,_,_,_,o,_,_,e,ex,_⟩:=I.hok p _ hk;exact⟨o,e,ex⟩
   obtain⟨o,e,ex⟩:=z;refine⟨⟨o,e,ex.1⟩,fun a e2=>?_⟩;cases e2;exact⟨o,e,ex.2.1⟩
  ·obtain⟨o,_,_,_,e,ex,_⟩:=I.hok p _ hk;refine⟨⟨o,e,ex.1⟩,fun a e2=>?_⟩;cases e2;exact⟨o,e,ex.2.1⟩
 |_=>exact False.elim ty
noncomputable def NH (K:Xy)(T:String)(r:V->Xo->Hp->VK->Prop)(to:TE):TE:=fun σ H Q=>to σ H fun x H1=>tyV K T x H1/\r x [] H1 Q
noncomputable def tBM (K:Xy)(T:String)(r:V->Xo->Hp->VK->Prop)(to:TE)(t:TA):TE:=fun σ H Q=>to σ H fun x H1=>tyV K T x H1/\t σ H1 fun xs H2=>r x xs H2 Q
variable {o e:Expr}{es:List Expr}{to:TE}{t:TA}{name:Str}{apos cpos:Pos}{T id:String}{r:V->Xo->Hp->VK->Prop}
def MI (pa:PlainAttrs T)(slot:Slot T name id)(hty:typeOf (.builtin id)=pure (.type "method_descriptor")) (hm:MtR X id r) (ho:PE X o to)
  (hbase:attributeBase o name X.env (eval o X.env)=eval o X.env:=by rfl) (hline:(apos.endLine==cpos.line)=true:=by rfl):PE X (.Call (.Attribute o name apos) [] [] cpos) (NH X.K T r to):=by
 intro pins s σ H Q I h;refine wpAny_Call_method0_late hbase hline (thn (ho pins s σ H _ I h) fun v s1 hpt9=>?_);obtain⟨x,H1,I1,r1,ty,q1⟩:=hpt9;obtain⟨h1,h2⟩:=IM I1 r1 ty;exact⟨T,id,pa,slot,hty,h1,h2,Calls.callWith_builtin rfl (PySem.evalArgs_none (hm pins s1 σ H1 x [] v [] Q I1 r1 .nil q1))⟩
def Dr (pa:PlainAttrs T)(slot:Slot T name id)(hty:typeOf (.builtin id)=pure (.type "method_descriptor")) (hm:MtR X id r) (ho:PE X o to) (ha:PA X (e::es) t)
  (hbase:attributeBase o name X.env (eval o X.env)=eval o X.env:=by rfl)
  (hfew:((backTo cpos (starEach (e::es) X.env)).all (fun x=>!x.1)&&(backToKw cpos (keywordEach [] X.env)).all (fun x=>x.1.isSome)
   && decide ((e::es).length+([]:List Keyword).length+(if ([]:List Keyword).isEmpty then 0 else 1)<30))=true:=by rfl)
  (hline:(apos.endLine==cpos.line)=true:=by rfl) (hs:starEach (e::es) X.env=(false,eval e X.env)::starEach es X.env:=by rfl) (hplain:(backTo cpos (starEach es X.env)).any (·.1)=false:=by rfl) :
  PE X (.Call (.Attribute o name apos) (e::es) [] cpos) (tBM X.K T r to t):=by
 intro pins s σ H Q I h;refine wpAny_Call_method_late hbase hfew hline rfl (thn (ho pins s σ H _ I h) fun v s1 hpt9=>?_);obtain⟨x,H1,I1,r1,ty,q1⟩:=hpt9;obtain⟨h1,h2⟩:=IM I1 r1 ty;refine⟨T,id,pa,slot,hty,h1,h2,?_⟩;have hA:=ha cpos pins s1 σ H1 _ I1 q1;rw[hs] at hA ⊢;refine Calls.callWith_builtin (by show (false || (backTo cpos (starEach es X.env)).any (·.1))=false;rw[hplain]<;>rfl) (Calls.evalArgs_plain ?_);exact thn hA fun us s2 ⟨vs,H2,I2,r2,q2⟩=>hm pins s2 σ H2 x vs v us Q I2 r1 r2 q2
end
def MtM (X:Cx)(id:String)(r:V->Xo->Hp->VK->Prop):Prop:=
 ∀(pins:Xu) (s:Shared) (σ:St) (H:Hp) (x:V) (xs:Xo) (v:Value) (us:Xw) (Q:VK),Inv X pins σ H s->RelV x v->Vals xs us->r x xs H Q ->
  wpAny (model X.prog X.w) X.A (call (.builtin id) (v::us)) (EP X pins σ Q) X.xe s
def Vals.one {x:V}{us:Xw}(h:Vals [x] us):∃u,us=[u]/\RelV x u:=by
 cases h with
 |cons r t=>cases t;exact⟨_,rfl,r⟩
def Vals.two {x y:V}{us:Xw}(h:Vals [x,y] us):∃u v,us=[u,v]/\RelV x u/\RelV y v:=by
 cases h with
 |cons r t=>
  cases t with
  |cons q t=>cases t;exact⟨_,_,rfl,r,q⟩
def Vals.zero:∀ {us:Xw},Vals [] us->us=[]
 |_,.nil=>rfl
theorem Vals.reverse {xs:Xo}{us:Xw}(h:Vals xs us):Vals xs.reverse us.reverse:=by
 induction h with
 |nil=>exact .nil
 |cons r t ih=>rw[WF,WF];exact Vals.append ih (.cons r .nil)
section
variable {X:Cx}{pins:Xu}{σ:St}{H:Hp}{s:Shared}{l b:Addr}{xs ys zs:Xo}
def Inv.lset {its its':Xw}{n:Nat}{f:Array Value->Array Value}{t':Nat}(I:Inv X pins σ H s)(hH:H l=some (.lst xs))
  (e:s.heap.get? l=some { cls:=.type "list",data:=.seq its.toArray n }) (hf:f its.toArray=its'.toArray) (hv:Vals ys its') (hz:ys.length<=sizeLine) :
  Inv X pins σ (upd H l (.lst ys)) { s with heap:=s.heap.update l (Obj.mapSeq f),toks:=t' }:=by
 have q:=PySem.IsL.update e f;rw[hf] at q;refine I.write (x:=l) (e:=l) (by rw[hH];exact trivial) (.inl rfl) (fun b' u hb hu=>(Wg s.heap (Obj.mapSeq f) (T3 hb)).trans hu) ⟨_,q⟩ ?_;exact⟨hz,its',_,hv,q⟩
def Inv.lnew {its:Xw}{t':Nat}(I:Inv X pins σ H s)(hv:Vals ys its)(hz:ys.length<=sizeLine) :
  Inv X pins σ (upd H s.heap.objs.size (.lst ys)) { s with heap:=s.heap.push { cls:=.type "list",data:=.seq its.toArray },toks:=t' }:=
 I.laid (fun _ _ q=>TU _ q) (TB _) ⟨hz,its,0,hv,T8 _ rfl⟩
theorem Inv.fresh (I:Inv X pins σ H s):H s.heap.objs.size=none:=I.hok.fresh (TB _)
def Inv.lstM (I:Inv X pins σ H s)(hH:H l=some (.lst xs)):xs.length<=sizeLine/\∃(its:Xw) (n:Nat),Vals xs its/\xs.length=its.length/\s.heap.get? l=some { cls:=.type "list",data:=.seq its.toArray n }:=by obtain⟨z,its,n,r,e⟩:=I.hok l _ hH;exact⟨z,its,n,r,r.length,e⟩
def He {n:Nat}(h:n<=sizeLine):Builtin.List.listTooLong n=false:=by unfold Builtin.List.listTooLong;exact Uc ()
end
section
variable {X:Cx}
noncomputable def rAppend:V->Xo->Hp->VK->Prop:=fun x vs H Q=>∃l xs y,x = .ref l/\vs=[y]/\H l=some (.lst xs)/\xs.length<sizeLine/\Q .non (upd H l (.lst (xs++[y])))
def pO:MtM X "list.append" rAppend:=by intro pins s σ H x vs v us Q I rx rv h;obtain⟨l,xs,y,rfl,rfl,hH,hz,q⟩:=h;cases rx;obtain⟨u,rfl,ru⟩:=rv.one;obtain⟨z,its,n,r,hl,e⟩:=I.lstM hH;refine call_meets F.slot_list_append ⟨_,e,rfl⟩ F.entry_list_append (F.args_list_append_2 _ _) (PySem.list_append l its.toArray n u (by rw[TZ];lia)) ⟨e,?_⟩;refine⟨.non,_,I.lset (its':=its++[u]) hH e (by simp) (r.append (.cons ru .nil)) ?_,rfl,q⟩;rw[Tz,T4];lia
noncomputable def rReverse:V->Xo->Hp->VK->Prop:=fun x vs H Q=>∃l xs,x = .ref l/\vs=[]/\H l=some (.lst xs)/\Q .non (upd H l (.lst xs.reverse))
def BL:MtM X "list.reverse" rReverse:=by intro pins s σ H x vs v us Q I rx rv h;obtain⟨l,xs,rfl,rfl,hH,q⟩:=h;cases rx;have hus:=rv.zero;subst hus;obtain⟨z,its,n,r,hl,e⟩:=I.lstM hH;refine call_meets F.slot_list_reverse ⟨_,e,rfl⟩ F.entry_list_reverse (F.args_list_reverse_1 _) (AutoSeq1.list_reverse_list_0 l its.toArray n (by rw[TZ];lia)) ⟨e,?_⟩;refine⟨.non,_,I.lset (its':=its.reverse) hH e (by simp) r.reverse ?_,rfl,q⟩;rw[List.length_reverse];lia
end
section
variable {prog:Program}{w:World}{A:Around}{E:Xs}{s:Shared}
end
section
variable {X:Cx}
end
end L2
namespace Att
open PySem PySem.W PySem.Calls PyProof.Rows
def rc:∀(ns:XD) (vs:Xw),WellAll P h vs (ns.map WData.int)->IntsAre vs ns:=by
 intro ns;induction ns with
 |nil=>
  intro vs w;rw[VW] at w;cases w;exact .nil
 |cons n ns ih=>
  intro vs w;rw[TQ] at w;cases w with
  |cons a b=>cases a;exact .cons _ _ (ih _ b)
def Fh {l:OpenLaw}{n:Nat}(hn:l.most=some n)   {args:List WData} 
  (hpre:l.row.toRowW.claim.pre args=true) (hwl:WellAll P h vals args) :
  ∃a vs ns,vals=[Value.ref a]/\args=[WData.list (ns.map WData.int)]/\h.get? a=some { cls:=.type "list",data:=.seq vs.toArray }/\IntsAre vs ns/\ns.length<=n:=by
 have hsh:WShape.hasAll [] args [.list .int]=true:=(pre_splitW hpre).1;have hc:l.pre.holds [] { args:=args }=true:=(pre_splitW hpre).2;obtain⟨d,r,rfl,h1,h2⟩:=hasAllW_cons hsh;obtain rfl:=hasAllW_nil h2;obtain⟨xs,rfl,h3⟩:=hasW_list h1;obtain⟨ns,rfl⟩:=items_int h3;have hlen:ns.length<=n:=by
  unfold OpenLaw.pre at hc;have h4:(WTm.not (.lt (.lit (.int (n:Int))) (.len (.arg 0)))).holds [] { args:=[.list (ns.map .int)] }=true:=by have h4:=(holds_andW hc).1;rw[hn] at h4;exact h4
  have h5:=condW_of h4 (w_not (w_lt w_lit (w_len_list (w_arg rfl))));rw[Tw] at h5;refine Wh fun q=>?_;have q':(n:Int)<((ns.length:Nat):Int):=by omega
  first
   | (rw[Ux q'] at h5;exact absurd h5 (by decide))
   | (simp at h5;omega)
 cases hwl with
 |cons w1 w2=>
  cases w2;cases w1 with
  |list ho hall=>exact⟨_,_,ns,rfl,rfl,ho,rc ns _ hall,hlen⟩
def Fb (l:OpenLaw)(args:List WData):l.row.toRowW.claim.post args (.bool true) args=true:=
 postW_of (r:=l.row.toRowW) (X:=(true==true))
  (show WShape.has [] (.bool true) .bool=true by first|rfl|decide|simp[WShape.has,WShape.arms,WShape.armsAll])
  (show (WTm.eq .res (.lit (.bool true))).value [] { args:=args,res:=some (.bool true),after:=args }=some (.bool (true==true)) from w_eq_bool (w_res rfl) w_lit) rfl
def yI {l:OpenLaw}{n:Nat}    {YP:World->Heap->Prop}{d:DefRec}
  (hn:l.most=some n) (hdf:d.params.defaults=[])
  (call:∀(w:World) (s₀ s₁:Shared) (mg mb:Xv) (fa:Addr) (o:Obj) (pm cd doc:Value) (a:Addr) (vs:Xw) (ns:XD),
   Ground q loose [] XP w s₀ mg mb s₁.heap->YP w s₁.heap ->
   s₁.heap.get? fa=some o->o.data = .func (docDef d.name d.params d.body d.scope pm cd doc)->s₁.heap.CodeRec cd d.name->mg d.name=some (.ref fa) ->
   s₁.heap.get? a=some { cls:=.type "list",data:=.seq vs.toArray }->IntsAre vs ns->ns.length<=n->s₁.gens = #[] ->
   codeAny (model l.prog w) callerA (.call (.ref fa) ⟨[.ref a],[]⟩) (fun r s'=>r = .ok (.ret (.bool true))/\OldK s₁.heap s'.heap/\s'.os=s₁.os/\AllBare s'.gens) s₁) :
  WalkO q loose XP YP l.row.toRowW d [] (fun f vs=>PySem.call f vs):=by
 intro w s₀ s₁ mg mb G Y fa o pm cd doc dV kV ho hd hcd hD hmg hg args vals as hpre hlay hrd hwl hlo;obtain rfl:dV = .none:=Dflts.none hD hdf;obtain rfl:kV = .none:=Dflts.noKw hD;obtain⟨a,vs,ns,rfl,rfl,hobj,hints,hlen⟩:=Fh hn hpre hwl;refine enter_call (VT (call w s₀ s₁ mg mb fa o pm cd doc a vs ns G Y ho (fd_plain hd) hcd hmg hobj hints hlen hg) fun r s' hq=>?_);obtain⟨rfl,h2,h3,h4⟩:=hq;exact⟨.inl ⟨.bool true,.bool true,[],rfl,fun _=>rfl,.bool true,Fb l _,fun _=>⟨List.Pairwise.nil,fun _ hm=>(nomatch hm)⟩⟩,h2,h3,h4⟩
section
variable {prog:Program}{w:World}{A:Around}{E:Xs}{s:Shared}{K:Frag}
end
end Att
namespace L2
open PySem PySem.Spec PyProof.Rows
theorem wQ:∀ {vs:Xw} {ns:XD},IntsAre vs ns->Vals (ns.map V.int) vs
 |_,_,.nil=>.nil
 |_,_,.cons n t h=>.cons ⟨t,rfl⟩ (wQ h)
def LF (H:Hp):Prop:=∀b,H b=none\/∃o xs,H b=some (.frz o (.lst xs))
def GW   {K:Xy}{mg mb:Xv}{CX:CXT}{k:Nat}{a:Addr}{fd:FuncData}{x:Str}{sp:Sp}{s₁:Shared}{vs:Xw} 
  (KX:K.In s₁.heap) (hns:s₁.heap.Ns mainGlobals mg) (hb:s₁.heap.Ns builtinsNs mb) (hbb:∀x:Str,x ≠ "__name__" -> mb x=bootBuiltins x) (hlim:s₁.heap.NoLimit) (hg:s₁.gens = #[])
  (ha:s₁.heap.get? a=some { cls:=.type "list",data:=.seq vs.toArray }) (hi:IntsAre vs ns) (hl:ns.length<=sizeLine) (hr:Room k callerA)
  (F:∀base:Heap,K.In base->base.Ns mainGlobals mg->FnOk P w K mg base CX k fa fd [x] sp) (hbind:∀(s:Shared) (u:Value),BindsTo s fd ⟨[u],[]⟩ [(x,u)])
  (hsp:∀H:Hp,LF H->SqL K H a (ns.map V.int)->sp [.ref a] H (fun v _=>v = .bl true) fun _ _ _=>False)
  (hCX:∀H e s',CX [] H s₁ (fun _ _ _=>False) e s'->False) :
  codeAny (model P w) callerA (.call (.ref fa) ⟨[.ref a],[]⟩) (fun r s'=>r = .ok (.ret (.bool true))/\OldK s₁.heap s'.heap/\s'.os=s₁.os/\AllBare s'.gens) s₁:=by
 have rv:=wQ hi;have lenV:=hi.length
 -- from an abstract heap in which nothing but the script may be tracked
 have core:∀H:Hp,LF H->SqL K H a (ns.map V.int)->HOk P w H s₁.heap->(∀b,H b≠none->b=a)->(H a≠none->K.lookup a=none) ->
   codeAny (model P w) callerA (.call (.ref fa) ⟨[.ref a],[]⟩) (fun r s'=>r = .ok (.ret (.bool true))/\OldK s₁.heap s'.heap/\s'.os=s₁.os/\AllBare s'.gens) s₁:=by
  intro H hO hS hok hA hK;have base_of:∀ {b:Addr} {o:Obj},s₁.heap.get? b=some o->H b=none->(xu s₁.heap H).get? b=some o:=fun e n=>GK e n;have noA:∀ {b:Addr} {o:Obj} {es:Array DictEntry} {ep:Nat},s₁.heap.get? b=some o->o.data = .dict es ep->H b=none:=fun {b o es ep} e d=>by
   cases q:H b with
   |none=>rfl
   |some u=>have e':b=a:=hA b (by rw[q];simp);subst e';rw[ha] at e;cases e;have d':Data.seq vs.toArray _=Data.dict es ep:=d;cases d'
  have nsK:∀ {b:Addr} {m:Xv},s₁.heap.Ns b m->(xu s₁.heap H).Ns b m:=fun {b m} ⟨o,es,ep,e,d,r⟩=>⟨o,es,ep,base_of e (noA e d),d,r⟩
  have hKb:K.In (xu s₁.heap H):=fun b o e=>base_of (KX b o e) (by
   cases q:H b with
   |none=>rfl
   |some u=>
    have e':b=a:=hA b (by rw[q];simp);subst e'
    rw[hK (by rw[q];simp)] at e;cases e)
  have hM:Mod K mg (xu s₁.heap H):=⟨hKb,nsK hns,⟨mb,nsK hb,hbb⟩,let ⟨mc,h1,h2⟩:=hlim;⟨mc,nsK h1,h2⟩⟩
  have e0:Env0 P w K mg (xu s₁.heap H) callerA [] s₁ H:=⟨rfl,hM,fun b o e=>J7 e,UA (Eu _ _),trivial,fun b hb=>absurd (show b∈([]:Xz) from hb) (by simp),hok,.of_eq hg⟩
  refine VT ((F _ hKb (nsK hns)).run callerA [] s₁ H ⟨[.ref a],[]⟩ [.ref a] [.ref a] _ _ hr e0 (hbind s₁ (.ref a)) (.cons rfl .nil) (hsp H hO hS)) fun r s' h=>?_;cases r with
  |error e=>exact (hCX H e s' h).elim
  |ok fl=>
   cases fl with
   |next=>exact False.elim h
   |brk=>exact False.elim h
   |cont=>exact False.elim h
   |ret u=>
    obtain⟨v,H',os,bare,un,hok',r',q⟩:=h;have q':v = .bl true:=q;subst q';obtain rfl:u=Value.bool true:=r';refine⟨rfl,OldK.of_keep fun b o e=>?_,os,bare⟩;cases q:H b with
    |none=>exact un.keep b o e q (by intro z;exact absurd (show b∈([]:Xz) from z) (by simp)) (by simp)
    |some u=>
     rcases hO b with z|⟨ob,xs,z⟩
     ·rw[q] at z;cases z
     ·have z2:=un.frzs b ob _ z;obtain⟨e1,_⟩:=hok b _ z;obtain⟨e2,_⟩:=hok' b _ z2;rw[e] at e1;cases e1;exact e2
 cases hk:K.lookup a with
 |some o=>
  -- the script is one of the module's own objects
  have e:=KX a o hk;rw[ha] at e;cases e;refine core (fun _=>none) (fun _=>.inl rfl) (.inr ⟨_,vs.toArray,_,hk,rfl,rfl,rfl,by rw[TZ,lenV];exact hl,by simpa using rv⟩) (fun b u z=>by have z':(none:Option HO)=some u:=z;cases z') (fun b z=>absurd rfl z) fun z=>absurd rfl z
 |none=>
  refine core (fun b=>if b=a then some (.frz { cls:=.type "list",data:=.seq vs.toArray } (.lst (ns.map V.int))) else none) (fun b=>?_) (.inl (.inr ⟨{ cls:=.type "list",data:=.seq vs.toArray },Ts rfl⟩)) (fun b u z=>?_) (fun b z=>?_) fun _=>hk
  ·by_cases hb:b=a
   ·exact .inr ⟨_,_,Ts hb⟩
   ·exact .inl (Tr hb)
  ·by_cases hb:b=a
   ·have z':=(Ts hb).symm.trans z;cases z';subst hb;exact⟨ha,by rw[Tw];exact hl,vs,_,rv,ha⟩
   ·have z':=(Tr hb).symm.trans z;cases z'
  ·by_cases hb:b=a
   ·exact hb
   ·exact absurd (Tr hb) z
def K4 {l:W.OpenLaw}{n k:Nat}    {YP:World->Heap->Prop}{d:DefRec}{K:Params->Xy}{CX:World->CXT}{sp:World->Sp}{x:Str}
  (hn:l.most=some n) (hn2:n<=sizeLine) (hdf:d.params.defaults=[]) (hr:Room k callerA)
  (hY:∀(w:World) (h:Heap),YP w h->(K w.params).In h)
  (F:∀(w:World) (mg:Xv) (fa:Addr) (h:Heap),(K w.params).In h->h.Ns mainGlobals mg->mg d.name=some (.ref fa) ->
   ∃fd:FuncData,(∀(s:Shared) (u:Value),BindsTo s fd ⟨[u],[]⟩ [(x,u)]) /\
    ∀base:Heap,(K w.params).In base->base.Ns mainGlobals mg->FnOk l.prog w (K w.params) mg base (CX w) k fa fd [x] (sp w))
  (hsp:∀(w:World) (H:Hp) (a:Addr) (ns:XD),ns.length<=n->LF H->SqL (K w.params) H a (ns.map V.int)->sp w [.ref a] H (fun v _=>v = .bl true) fun _ _ _=>False)
  (hCX:∀(w:World) (H:Hp) (s:Shared) (e:Value) (s':Shared),CX w [] H s (fun _ _ _=>False) e s'->False) :
  W.WalkO q loose XP YP l.row.toRowW d [] (fun f vs=>PySem.call f vs):=by
 refine Att.yI hn hdf fun w s₀ s₁ mg mb fa o pm cd doc a vs ns G Y ho hd hcd hmg hobj hints hlen hg=>?_;have KX:=hY w _ Y;obtain⟨fd,hb,hF⟩:=F w mg fa _ KX G.T.g hmg;exact GW KX G.T.g G.T.b G.T.builtins G.T.nolimit hg hobj hints (Ud hlen hn2) hr hF hb (fun H hO hS=>hsp w H a ns hlen hO hS) fun H e s'=>hCX w H s₁ e s'
noncomputable def rK (s:Stmt)(j:Nat):Stmt:=match s with
 |.ClassDef _ _ _ body _ _ _ _ _ _ _=>body.getD j (.Pass ⟨0,0,0,0⟩)
 |_=>.Pass ⟨0,0,0,0⟩
noncomputable def nW (s:Stmt):Arguments:=match s with
 |.FunctionDef _ a _ _ _ _ _ _ _ _=>a
 |_=>{ posonlyargs:=[],args:=[],vararg:=none,kwonlyargs:=[],kw_defaults:=[],kwarg:=none,defaults:=[] }
noncomputable def iu (s:Stmt):List Stmt:=match s with
 |.FunctionDef _ _ b _ _ _ _ _ _ _=>b
 |_=>[]
noncomputable def aw (s:Stmt):Scope:=match s with
 |.FunctionDef _ _ _ _ _ _ sc _ _ _=>sc
 |_=>{ kind:=.function,names:=[],isGenerator:=false,isCoroutine:=false }
noncomputable abbrev CX0:CXT:=fun _ _ _ _ _ _=>False
noncomputable abbrev E0:XK:=fun _ _ _=>False
def Dp:kh CX0 X E0:=fun _ _ _ _ _ _ _ h=>h.elim
structure Fun (K:Xy) (x qual:Str) (st:Stmt) (f:Addr) (fd:FuncData):Prop where
 ex:∃(oc:Value) (od:Option Addr) (kV doc pm:Value) (an:Option Addr) (cdv ct:Value) (osl:Array (Xx)),
  fd=W.fnOf x qual (nW st) (iu st) (aw st) .none kV doc pm an cdv ct/\K.lookup f=some ⟨oc,od,.func fd,osl⟩/\W.codeIn K cdv qual=true
 kp:W.keepIn K (.ref f)=true
section
variable {P:Program}{w:World}{K:Xy}{mg:Xv}{base:Heap}
def Fun.ok {x qual:Str}{st:Stmt}{f:Addr}{fd:FuncData}{N ps:XB}{k:Nat}{sp:Sp}(F:Fun K x qual st f fd)(S:FnScope N ps (aw st))(len:∀vs H Q E,sp vs H Q E->vs.length=ps.length)
  (hbody:∀(cdv:Value) (A:Around) (outer:List Env) (s:Shared) (H:Hp) (vs:Xo) (Q:VK) (E:XK),Room k (A.deeper (envOfC qual (aw st) s.heap.objs.size f cdv))->sp vs H Q E ->
   ∃t,PSs (yU CX0 P w K mg base N qual (aw st) f cdv A outer s H E).nox (iu st) t/\t { nx:=fun _ H'=>Q .non H',rt:=Q } (fU N vs) H):FnOk P w K mg base CX0 (k+1) f fd ps sp:=by
 obtain⟨oc,od,kV,doc,pm,an,cdv,ct,osl,rfl,lk,hcd⟩:=F.ex;refine Ow lk hcd S len fun A outer s H vs Q E hr hsp=>?_;obtain⟨t,h,q⟩:=hbody cdv A outer s H vs Q E hr hsp;exact⟨t,h.nox,q⟩
def Fun.binds {qual:Str}{st:Stmt}  {fd:FuncData}{ps:XB}(F:Fun K x qual st f fd)
  (h:∀(kV doc pm:Value) (an:Option Addr) (cdv ct:Value) (us:Xw),us.length=ps.length->bindArgs (W.fnOf x qual (nW st) (iu st) (aw st) .none kV doc pm an cdv ct) ⟨us,[]⟩=pure (ps.zip us)):Binds K fd ps []:=by
 obtain⟨oc,od,kV,doc,pm,an,cdv,ct,osl,rfl,lk,hcd⟩:=F.ex;exact .all (h kV doc pm an cdv ct)
def GD {x qual:Str}{st:Stmt}{f:Addr}{oc:Value}{od an:Option Addr}{osl:Array (Xx)}{kV doc pm cdv ct:Value}(l:K.lookup f=some ⟨oc,od,.func (W.fnOf x qual (nW st) (iu st) (aw st) .none kV doc pm an cdv ct),osl⟩)
  (c:W.codeIn K cdv qual=true) (k:W.keepIn K (.ref f)=true):Fun K x qual st f (W.fnOf x qual (nW st) (iu st) (aw st) .none kV doc pm an cdv ct):=⟨⟨oc,od,kV,doc,pm,an,cdv,ct,osl,rfl,l,c⟩,k⟩
end
section
variable {X:Cx}
def pv (i:Nat){x:Str}{pos:Pos}(hN:X.N[i]?=some x:=by rfl)(hv:Vis X.env.scope x:=by first|exact Or.inl rfl|exact Or.inr (.inl rfl)|exact Or.inr (.inr rfl))(hd:(x==("__debug__" : Str))=false:=by decide)
  (hcd:(x==("__classdict__" : Str))=false:=by decide):PE X (.Name x pos) (jm i):=MP hN hv hd hcd
end
def BA {A B:Prop}(h:B):if false=true then A else B:=by rw[Tr U0];exact h
def BB {A B:Prop}(h:A):if true=true then A else B:=by rw[Ts rfl];exact h
def Same (H H':Hp):Prop:=∀b o,H b=some o->H' b=some o
def Same.refl (H:Hp):Same H H:=fun _ _ h=>h
def Same.trans {H1 H2:Hp}(a:Same H H1)(b:Same H1 H2):Same H H2:=fun c o h=>b c o (a c o h)
def Same.free {H':Hp}(e:Same H H'){l:Addr}(h:H' l=Option.none):H l=Option.none:=by
 cases q:H l with
 |none=>rfl
 |some o=>rw[e l o q] at h;cases h
end L2
set_option linter.all false
set_option maxHeartbeats 4000000
set_option maxRecDepth 100000
namespace L2
open PySem PySem.Spec PyProof.Rows
structure CmpOk (XN:XB) (sc scope:Scope) (N:XB) (js:List (Option Nat)):Prop where
 kind:scope.kind = .function
 cell:∀y∈scope.names,y.2 ≠ .cell
 free:∀y∈scope.names,y.2 = .free->sc.names.lookup y.1=some .cell\/sc.names.lookup y.1=some .free
 loc:∀y∈scope.names,y.2 = .local->scope.names.lookup y.1=some .local
 len:js.length=N.length
 ix:((N.zip js).all fun p=>match p.2 with|none=>true|some j=>decide (XN[j]?=some p.1)&&decide (scope.names.lookup p.1=some .free))=true
noncomputable def kn (env:Env):List (Str×NameKind)->List (Str×Addr)->List (Str×Addr)
 |[],cs=>cs
 | (n,k)::r,cs=>kn env r (if k = .free then (match env.cells.lookup n with|some c=>(n,c)::cs|none=>cs) else cs)
theorem yS {env:Env}:∀ {names:List (Str×NameKind)} {cs:List (Str×Addr)},(∀n c,cs.lookup n=some c->env.cells.lookup n=some c)->∀n c,(kn env names cs).lookup n=some c->env.cells.lookup n=some c
 |[],_,h=>h
 | (m,k)::r,cs,h=>by
  unfold kn;refine yS ?_;split
  ·cases e:env.cells.lookup m with
   |none=>exact h
   |some d=>
    intro n c hn;dsimp only at hn;rw[UQ] at hn;cases q:n==m with
    |true=>
     rw[q] at hn;have e1:n=m:=by simpa using q
     cases hn;rw[e1];exact e
    |false=>rw[q] at hn;exact h n c hn
  ·exact h
theorem yR {env:Env}:∀ {names:List (Str×NameKind)} {cs:List (Str×Addr)} {n:Str},((n,NameKind.free)∈names/\(∃c,env.cells.lookup n=some c))\/(∃c,cs.lookup n=some c)->∃c,(kn env names cs).lookup n=some c
 |[],_,_,h=>h.elim (fun z=>by cases z.1) id
 | (m,k)::r,cs,n,h=>by
  unfold kn;refine yR ?_;rcases h with ⟨hm,c,hc⟩|⟨c,hc⟩
  ·rcases TN.mp hm with e|hm
   ·cases e;right;rw[Ts rfl,hc];exact⟨c,by rw[UQ];simp⟩
   ·exact .inl ⟨hm,c,hc⟩
  ·right;split
   ·cases e:env.cells.lookup m with
    |none=>exact⟨c,hc⟩
    |some d=>
     dsimp only;rw[UQ];cases q:n==m with
     |true=>exact⟨d,rfl⟩
     |false=>exact⟨c,hc⟩
   ·exact⟨c,hc⟩
def sH {env:Env}{scope:Scope}(h:∀y∈scope.names,y.2 = .free->∃c,env.cells.lookup y.1=some c):closureFor scope env=pure (kn env scope.names []):=by
 have key:∀(names:List (Str×NameKind)) (cs:List (Str×Addr)),(∀y∈names,y.2 = .free->∃c,env.cells.lookup y.1=some c) ->
   (forIn names cs (fun (x:Str×NameKind) r=>if (x.2==NameKind.free)=true then (do let a ← cellOf env x.1;pure (ForInStep.yield ((x.1,a)::r))) else pure (ForInStep.yield r)):Sem (List (Str×Addr)))=pure (kn env names cs):=by
  intro names;induction names with
  |nil=>intro cs _;rfl
  |cons y r ih=>
   intro cs hy;obtain⟨n,k⟩:=y;rw[List.forIn_cons];unfold kn;by_cases hk:k = .free
   ·subst hk;obtain⟨c,hc⟩:=hy _ TD rfl;have e1:cellOf env n=pure c:=by unfold cellOf;rw[hc]
    rw[Ts (by rfl)];rw[Ts rfl,hc];show ((cellOf env n >>= fun a=>pure (ForInStep.yield ((n,a)::cs))) >>= _)=_;rw[e1];exact ih _ fun z hz=>hy z (TJ _ hz)
   ·have hb:(k==NameKind.free)=false:=by simpa using hk
    rw[Tr (by rw[hb];decide),Tr hk];exact ih _ fun z hz=>hy z (TJ _ hz)
 have k:=key scope.names [] h;unfold closureFor;show (forIn scope.names ([]:List (Str×Addr)) _ >>= fun cs=>pure cs)=_;refine Eq.trans (T7 (fun t=>t >>= fun cs=>pure cs) (Eq.trans ?_ k)) rfl;congr 1
theorem ut {env:Env}:∀ {names:List (Str×NameKind)} {x:Str},names.lookup x=some .free ->
  (names.map fun (n,k)=>if (k==NameKind.free&&env.scope.kind == .function&&env.kindOf n==some .cell) then (n,NameKind.cell) else (n,k)).lookup x=some .cell \/
  (names.map fun (n,k)=>if (k==NameKind.free&&env.scope.kind == .function&&env.kindOf n==some .cell) then (n,NameKind.cell) else (n,k)).lookup x=some .free
 |[],_,h=>by simp at h
 | (n,k)::r,x,h=>by
  have ih:=@ut env r x;rw[TQ];dsimp only;cases q:x==n with
  |true=>
   rw[UQ,q] at h;cases h;split
   ·left;rw[UQ,q]
   ·right;rw[UQ,q]
  |false=>
   rw[UQ,q] at h;split
   ·rw[UQ,q];exact ih h
   ·rw[UQ,q];exact ih h
theorem nq {env:Env}:∀ {names:List (Str×NameKind)} {x:Str} {j:NameKind},(∀y∈names,y.2 ≠ .cell)->(j = .cell\/j = .free) ->
  (names.map fun (n,k)=>if (k==NameKind.free&&env.scope.kind == .function&&env.kindOf n==some .cell) then (n,NameKind.cell) else (n,k)).lookup x=some j->(x,NameKind.free)∈names
 |[],_,_,_,_,h=>by simp at h
 | (n,k)::r,x,j,hc,hj,h=>by
  have ih:=@nq env r x j (fun y hy=>hc y (TJ _ hy)) hj;rw[TQ] at h;dsimp only at h;cases q:x==n with
  |true=>
   have e:x=n:=by simpa using q
   subst e;split at h
   ·rename_i g;have:k = .free:=by
     simp only[UM,UK] at g;exact g.1.1
    subst this;exact TD
   ·rw[UQ,q] at h;cases h;rcases hj with z|z
    ·exact absurd z (hc _ TD)
    ·rw[z];exact TD
  |false=>
   refine TJ _ (ih ?_);split at h
   ·rw[UQ,q] at h;exact h
   ·rw[UQ,q] at h;exact h
noncomputable def inn (js:List (Option Nat))(σ:St):St:=js.map fun o=>match o with|none=>none|some j=>(σ[j]?).join
structure CxZ where
 cl:List (Str×Addr)
 C:Addr
 s:Shared
 H:Hp
 fp:Xz
 pins:Xu
noncomputable def cxC (X:Cx)(N:XB)(scope:Scope)(z:CxZ):Cx where
 prog:=X.prog
 w:=X.w
 K:=X.K
 mg:=X.mg
 base:=X.base
 A:=X.A
 N:=N
 s₀:=z.s
 H₀:=z.H
 env:=compEnvC scope z.cl z.C X.env
 outer:=X.stack
 stack:=X.stack
 ex:=z.fp
 fn:=fun _=>false
 calm:=X.calm
 pn:=X.pn++z.pins
 xe:=fun _ _=>False
section
variable {X:Cx}{pins:Xu}{σ:St}{H:Hp}{s:Shared}{XN N:XB}{sc scope:Scope}{js:List (Option Nat)}
def GR {h1:Heap}{m:Xv}{tk:Nat}{fp:Xz}(ck:CmpOk XN sc scope N js)(hXN:X.N=XN)(hsc:X.env.scope=sc)(I:Inv X pins σ H s)(hf:∀b∈fp,u5 X pins H b)
  (hfo:∀b∈fp,b<s.heap.objs.size) (hn:h1.Ns s.heap.objs.size m) (hk:∀b o,s.heap.get? b=some o->h1.get? b=some o) :
  Inv (cxC X N scope ⟨kn X.env scope.names [],s.heap.objs.size,s,H,fp,pins⟩) [] (inn js σ) H { s with heap:=h1,toks:=tk }:=by
 subst hXN hsc;have sub:∀n c,(kn X.env scope.names []).lookup n=some c->X.env.cells.lookup n=some c:=yS fun n c h=>by simp at h
 have clt:∀n c,(kn X.env scope.names []).lookup n=some c->c<s.heap.objs.size:=fun n c h=>by obtain⟨v,q⟩:=I.cell n c (sub n c h);exact q.lt
 have has:∀x,(x,NameKind.free)∈scope.names->∃c,(kn X.env scope.names []).lookup x=some c:=fun x hx=>
  yR (.inl ⟨hx,I.ok.has x (ck.free _ hx rfl)⟩)
 refine⟨⟨I.ok.mod,ck.kind,I.ok.glob,I.ok.blt,TB _,fun x y c h1 h2=>I.ok.inj x y c (sub x c h1) (sub y c h2),fun x hx=>?has,fun x c hx=>?cab,I.ok.hd,I.ok.frames,.inl rfl,fun b hb=>?exf,I.bs,?bsz,fun b o e hb=>?noex,fun b hb=>?exfs,I.stack,I.stkFree⟩,
  rfl,I.bare,Un.kept hk,⟨m,hn,fun i x v h1 h2 h3=>?loc⟩,fun x c h=>?cell,I.hok.fresh (TB _),fun x c h=>I.freeC x c (sub x c h),fun p hp=>?pin,I.hok.kept hk,?len⟩
 case has=>
  rcases hx with hx|hx
  ·exact has x (nq ck.cell (.inl rfl) hx)
  ·exact has x (nq ck.cell (.inr rfl) hx)
 case cab=>cases hx
 case exf=>
  obtain⟨f0,f1,f2,f3,f4,f5⟩:=hf b hb;exact⟨T2 (hfo b hb),fun x c e=>f4 x c (sub x c e)⟩
 case bsz=>exact Ud I.ok.bsz I.sz
 case noex=>
  obtain⟨f0,f1,f2,f3,f4,f5⟩:=hf b hb;rcases f3 with f3|f3
  ·exact I.ok.noex b o e f3
  ·exact absurd (Ul (TW e) (Ud I.ok.bsz f3)) (VR _)
 case exfs=>
  obtain⟨f0,f1,f2,f3,f4,f5⟩:=hf b hb;intro z;rcases TN.mp (I.stkSub b z) with e|e
  ·exact f1 e
  ·exact f2 e
 case loc=>
  have hl:N.length=js.length:=ck.len.symm;have hi:i<js.length:=by have:=(TR.mp h1).1;have e:(cxC X N scope ⟨kn X.env scope.names [],s.heap.objs.size,s,H,fp,pins⟩).N=N:=rfl;rw[e] at this;lia
  have hN:N[i]?=some x:=h1;have hj:js[i]?=some js[i]:=Ua hi;unfold inn at h2;rw[TX,hj] at h2;cases q:js[i] with
  |none=>rw[q] at h2;cases h2
  |some j=>
   rw[q] at h2 hj;have h2':(σ[j]?).join=some v:=Uh h2;have hσ:σ[j]?=some (some v):=by
    cases e:σ[j]? with
    |none=>rw[e] at h2';cases h2'
    |some o=>rw[e] at h2';exact T7 some h2'
   have hm:(x,some j)∈N.zip js:=by refine Vi (i:=i) ?_;rw[List.getElem?_zip_eq_some];exact⟨hN,hj⟩
   have hc:=VX.mp ck.ix _ hm;simp only[UM,decide_eq_true_eq] at hc;obtain⟨c1,c2⟩:=hc;have hfr:(x,NameKind.free)∈scope.names:=VU c2;have hvis:X.env.scope.names.lookup x=some .cell\/X.env.scope.names.lookup x=some .free:=ck.free _ hfr rfl;obtain⟨m0,hn0,hl0⟩:=I.loc;obtain⟨u,r,l⟩:=hl0 j x v c1 hσ (hvis.elim (fun z=>.inr (.inl z)) fun z=>.inr (.inr z));refine⟨u,r,.inr ⟨?_,?_⟩⟩
   ·exact ut c2
   ·rcases l with ⟨k1,_⟩|⟨_,c,k1,k2⟩
    ·have k1':X.env.scope.names.lookup x=some .local:=k1;rcases hvis with z|z
     ·rw[z] at k1';cases k1'
     ·rw[z] at k1';cases k1'
    ·obtain⟨c',hc'⟩:=has x hfr;have e:=sub x c' hc';rw[k1] at e;cases e;obtain⟨oc,ho,hd⟩:=k2;exact⟨c,hc',oc,hk _ _ ho,hd⟩
 case cell=>
  obtain⟨v,oc,ho,hd⟩:=I.cell x c (sub x c h);exact⟨v,oc,hk _ _ ho,hd⟩
 case pin=>
  have hp':p∈X.pn++pins:=by simpa[cxC] using hp
  obtain⟨p1,p2,p3,p4,p5⟩:=I.pin p hp';refine⟨hk _ _ p1,p2,T2 (TW p1),fun z=>?_,p5⟩;rcases TN.mp (I.stkSub _ z) with e|e
  ·exact p3 e
  ·exact p4 e
 case len=>
  show (inn js σ).length=N.length;unfold inn;rw[Tw];exact ck.len
noncomputable abbrev TIf:=St->Hp->(Bool->Hp->Prop)->Prop
def PIf (X:Cx)(ifs:List Expr)(t:TIf):Prop:=
 ∀(pins:Xu) (s:Shared) (σ:St) (H:Hp) (Q:Bool->Hp->Prop),Inv X pins σ H s->t σ H Q ->
  wpAny (model X.prog X.w) X.A (forIn ifs true fun c r=>if r=true then do let ok ← isTrue c X.env (eval c X.env);pure (ForInStep.yield ok) else pure (ForInStep.yield r)) (TP X pins σ Q) X.xe s
noncomputable def K7:TIf:=fun _ H Q=>Q true H
def Dw:PIf X [] K7:=fun _ _ _ H _ I h=>wpAny_tests_nil ⟨H,I,h⟩
def Kj   (h:PT X c t):PIf X [c] t:=fun pins s σ H Q I q=>wpAny_tests_one (h pins s σ H Q I q)
def Lev (σ σ':St):Prop:=σ.length=σ'.length/\∀(i:Nat) (v:V),σ[i]?=some (some v)->σ'[i]?=some (some v)
def Lev.refl (σ:St):Lev σ σ:=⟨rfl,fun _ _ h=>h⟩
theorem Lev.trans  (h:Lev a b)(k:Lev b c):Lev a c:=⟨h.1.trans k.1,fun i v e=>k.2 i v (h.2 i v e)⟩
def wZ (js:List (Option Nat))(g:TG):Prop:=∀(σ0:St) (v:V) (σ:St) (H:Hp) (Q:St->Hp->Prop),Lev (inn js σ0) σ->g v σ H Q->g v σ H fun σ' H'=>Lev (inn js σ0) σ'/\Q σ' H'
def yD (js:List (Option Nat))(g:TGs):Prop:=∀(σ0:St) (vs:Xo) (σ:St) (H:Hp) (Q:St->Hp->Prop),Lev (inn js σ0) σ->g vs σ H Q->g vs σ H fun σ' H'=>Lev (inn js σ0) σ'/\Q σ' H'
def KN {i:Nat}(h:js[i]?=some none:=by rfl):wZ js (iw i):=fun σ0 v σ H Q l q=>by
 refine⟨⟨?_,fun j u e=>?_⟩,q⟩
 ·rw[UW];exact l.1
 ·by_cases hij:i=j
  ·subst hij;unfold inn at e;rw[TX,h] at e;cases e
  ·rw[UV hij];exact l.2 j u e
def KQ:yD js JI:=fun σ0 vs σ H Q l q=>⟨q.1,l,q.2⟩
def Iy   (h:wZ js t)(k:yD js u)(mono:∀v σ H (Q Q':St->Hp->Prop),(∀a b,Q a b->Q' a b)->t v σ H Q->t v σ H Q'):yD js (CU t u):=fun σ0 vs σ H Q l q=>by obtain⟨v,r,e,q⟩:=q;exact⟨v,r,e,mono _ _ _ _ _ (fun σ' H' z=>k σ0 r σ' H' Q z.1 z.2) (h σ0 v σ H _ l q)⟩
def Bv {i:Nat}:∀v σ H (Q Q':St->Hp->Prop),(∀a b,Q a b->Q' a b)->iw i v σ H Q->iw i v σ H Q':=fun _ _ _ _ _ h q=>h _ _ q
def ND {K:Xy}{n:Nat}{t:TGs}(h:yD js t):wZ js (GF K n t):=fun σ0 v σ H Q l q=>by obtain⟨a,xs,e,hq,hl,q⟩:=q;exact⟨a,xs,e,hq,hl,h σ0 xs σ H Q l q⟩
noncomputable def wM (js:List (Option Nat))(wi:TI)(g:TG)(tt:TIf)(te:TE):TE:=fun σ H Q=>wi σ H fun J H1=>∀D,H1 D=none->∃W:Nat->Nat->Hp->Prop,(∃m,W 0 m (upd H1 D (.lst [])))/\∀i m H,W i m H ->
 (J.stop i H/\Q (.ref D) H)\/(J.go i H/\∀x H',J.yld i H x H'->g x (inn js σ) H' fun σ2 H2=>tt σ2 H2 fun b H3=>
  if b=true then te σ2 H3 fun y H4=>∃ys,H4 D=some (.lst ys)/\ys.length<sizeLine/\∃m',m'<m/\W (i+1) m' (upd H4 D (.lst (ys++[y]))) else ∃m',m'<m/\W (i+1) m' H3)
variable {tg iter elt:Expr}{ifs:List Expr}{pos:Pos}{wi:TI}{g:TG}{tt:TIf}{te:TE}
def Ed {E:Xs}{R:Result->Shared->Prop}{it:Addr}{fp:Xz}    {W:Nat->Nat->Hp->Prop}{n:Nat}
  (hc:X.calm=true) (T:Turn X.prog X.w X.K tg J fp it tn) (hz:∀b∈fp,∀H',H' b=none->u5 (cxC X N scope z) [] H' b)
  (hg:PG (cxC X N scope z) tg g) (hs:wZ js g) (ht:PIf (cxC X N scope z) ifs tt) (he:PE (cxC X N scope z) elt te)
  (turn:∀i m H,W i m H->(J.stop i H/\∀s',Inv (cxC X N scope z) [] (inn js σ) H s'->R (.ok .next) s')\/(J.go i H/\∀x H',J.yld i H x H'->g x (inn js σ) H' fun σ2 H2=>tt σ2 H2 fun b H3=>
   if b=true then te σ2 H3 fun y H4=>∃ys,H4 D=some (.lst ys)/\ys.length<sizeLine/\∃m',m'<m/\W (i+1) m' (upd H4 D (.lst (ys++[y]))) else ∃m',m'<m/\W (i+1) m' H3))
   {H1:Hp} (I1:Inv (cxC X N scope z) [] (inn js σ) H1 s1) (t1:tn 0 s1.heap) (f1:∀b∈fp,H1 b=none) (w1:W 0 n H1) :
  codeAny (model X.prog X.w) X.A (.compLoop (.ListComp elt [⟨tg,iter,ifs,0⟩] scope pos) 0 (.ref it) (.ref D) (compEnvC scope z.cl z.C X.env)) R s1:=by
 refine codeAny_loop (c:=.compLoop (.ListComp elt [⟨tg,iter,ifs,0⟩] scope pos) 0 (.ref it) (.ref D) (compEnvC scope z.cl z.C X.env)) rfl
  (fun k s'=>∃i H',Inv (cxC X N scope z) [] (inn js σ) H' s'/\tn i s'.heap/\(∀b∈fp,H' b=none)/\W i k H') ?_ n ⟨0,H1,I1,t1,f1,w1⟩
 rintro k s2 ⟨i,H2,I2,t2,f2,w2⟩;show wpAny (model X.prog X.w) X.A ((compTurn (.ListComp elt [⟨tg,iter,ifs,0⟩] scope pos) 0 (.ref it) (.ref D) (compEnvC scope z.cl z.C X.env)).onRaise fun x=>do noteFrame x (compEnvC scope z.cl z.C X.env);theTreesLotGoes x) _ _ s2;refine wpAny_noted ?_;rw[compTurn_list];refine Tq (wpAny_standAt ?_);rcases turn i k H2 w2 with ⟨stop,fin⟩|⟨go,step⟩
 ·refine Tq (thn (T.done (cxC X N scope z) rfl rfl rfl hc i [] s2 (inn js σ) H2 _ I2 (fun b hb=>hz b hb H2 (f2 b hb)) t2 stop) fun r s3 h3=>?_);obtain⟨rfl,I3⟩:=h3;exact Tt (fin s3 I3)
 ·refine Tq (thn (T.item (cxC X N scope z) rfl rfl rfl hc i [] s2 (inn js σ) H2 _ I2 (fun b hb=>hz b hb H2 (f2 b hb)) t2 go) fun r s3 h3=>?_);obtain⟨u,rfl,h3⟩:=h3;refine Tq (thn h3 fun _ s4 h4=>?_);obtain⟨x,H4,I4,r4,y4,t4,f4⟩:=h4;have P4:=I4.pinned (fun b hb=>hz b hb H4 (f4 b hb)) (T.obj _ _ t4);have ff:∀ {e:Value} {s':Shared},(cxC X N scope z).xe e s'->False:=fun h=>h;refine Tq (Vh (hg _ s4 (inn js σ) H4 x u _ P4 r4 (hs σ x (inn js σ) H4 _ (Lev.refl _) (step x H4 y4))) (fun _ s5 h5=>?_) fun _ _ h=>(ff h).elim);obtain⟨σ5,H5,I5,lev,q5⟩:=h5;refine Tq (Vh (ht _ s5 σ5 H5 _ I5 q5) (fun ok s6 h6=>?_) fun _ _ h=>(ff h).elim);obtain⟨H6,I6,q6⟩:=h6;have again:∀ {s7:Shared} {H7:Hp},Inv (cxC X N scope z) ([]++uj fp s4.heap) σ5 H7 s7->(∃m',m'<k/\W (i+1) m' H7)->∃m,m<k/\∃i H',Inv (cxC X N scope z) [] (inn js σ) H' s7/\tn i s7.heap/\(∀b∈fp,H' b=none)/\W i m H':=fun {s7 H7} I7 h7=>by
   obtain⟨m',hm,w7⟩:=h7;refine⟨m',hm,i+1,H7,(I7.unpinned).weak lev.1 lev.2,T.keep _ _ _ t4 fun b hb o e=>(I7.pin (b,o) (TV _ (TV _ (jG hb e)))).1,fun b hb=>?_,w7⟩;obtain⟨o,e,d⟩:=T.obj _ _ t4 b hb;exact (I7.pin (b,o) (TV _ (TV _ (jG hb e)))).2.1
  cases ok with
  |false=>
   rw[Tr (by decide)] at q6;exact Tt ⟨rfl,again I6 q6⟩
  |true=>rw[Ts rfl] at q6;refine Tq (Tq (Vh (he _ s6 σ5 H6 _ I6 q6) (fun y s7 h7=>?_) fun _ _ h=>(ff h).elim));obtain⟨vy,H7,I7,r7,ys,hD,hl,q7⟩:=h7;refine Tq (Vh (pO (X:=cxC X N scope z) _ s7 σ5 H7 (.ref D) [vy] (.ref D) [y] (fun _ H'=>∃m',m'<k/\W (i+1) m' H') I7 rfl (.cons r7 .nil) ⟨D,ys,vy,rfl,rfl,hD,hl,q7⟩) (fun _ s8 h8=>?_) fun _ _ h=>(ff h).elim);obtain⟨_,H8,I8,_,q8⟩:=h8;exact Tt (Tt ⟨rfl,again I8 q8⟩)
def sK  {RR:Value->Addr->Result->Shared->Prop}{Q:VK}   (ck:CmpOk XN sc scope N js)(hXN:X.N=XN)(hsc:X.env.scope=sc)(hc:X.calm=true)
  (hg:∀z,PG (cxC X N scope z) tg g) (hs:wZ js g) (ht:∀z,PIf (cxC X N scope z) ifs tt) (he:∀z,PE (cxC X N scope z) elt te)
  (h2:PIE X pins σ tg (fun J H1=>∀D,H1 D=none->∃W:Nat->Nat->Hp->Prop,(∃m,W 0 m (upd H1 D (.lst [])))/\∀i m H,W i m H ->
   (J.stop i H/\Q (.ref D) H)\/(J.go i H/\∀x H',J.yld i H x H'->g x (inn js σ) H' fun σ2 H2=>tt σ2 H2 fun b H3=>
    if b=true then te σ2 H3 fun y H4=>∃ys,H4 D=some (.lst ys)/\ys.length<sizeLine/\∃m',m'<m/\W (i+1) m' (upd H4 D (.lst (ys++[y]))) else ∃m',m'<m/\W (i+1) m' H3)) itv s2)
  (hRR:∀D C s' H' m o,Inv X (pins++[(C,o)]) σ H' s'->s'.heap.Ns C m->(X.s₀.heap.objs.size<=C/\C≠X.env.locals/\(∀x c,X.env.cells.lookup x=some c->c≠C)/\∀p∈X.pn++pins,p.1≠C)->H' C=none->Q (.ref D) H'->RR (.ref D) C (.ok .next) s') :
  wpAny (model X.prog X.w) X.A (newList []) (fun acc s₃=>wpAny (model X.prog X.w) X.A (newFunctionEnv scope X.env.globals (kn X.env scope.names []) [] X.env.qual none .none (some X.env)) (fun cenv s₄=>
   codeAny (model X.prog X.w) X.A (.compStart (.ListComp elt [⟨tg,iter,ifs,0⟩] scope pos) 0 itv acc { cenv with scope:=relabel scope X.env }) (RR acc cenv.locals) s₄) E s₃) E s2:=by
 obtain⟨it,fp,tn,J,H2,rfl,I2,T,t2,f2,q2⟩:=h2;have fo:∀b∈fp,b<s2.heap.objs.size:=fun b hb=>by obtain⟨o,e,_⟩:=T.obj _ _ t2 b hb;exact TW e
 have hD:H2 s2.heap.objs.size=none:=I2.fresh;obtain⟨W,⟨n,w0⟩,turn⟩:=q2 _ hD;refine UB (wpAny_newFunctionEnv ck.cell (by intro y hy;simp at hy) (fun h1 hns hsb=>?_) ck.kind);have I3:Inv X pins σ (upd H2 s2.heap.objs.size (.lst [])) { s2 with heap:=s2.heap.push { cls:=.type "list",data:=.seq ([]:Xw).toArray },toks:=s2.toks }:=I2.lnew (its:=[]) .nil (T9 _);have f3:∀b∈fp,u5 X pins (upd H2 s2.heap.objs.size (.lst [])) b:=fun b hb=>by obtain⟨g0,g1⟩:=f2 b hb;exact⟨by rw[av (T2 (fo b hb))];exact g0,g1⟩
 have sz:(s2.heap.push { cls:=.type "list",data:=.seq ([]:Xw).toArray }).objs.size=s2.heap.objs.size+1:=VL _ _;have kept:∀b o,(s2.heap.push { cls:=.type "list",data:=.seq ([]:Xw).toArray }).get? b=some o->h1.get? b=some o:=fun b o e=>
  hsb.extBut b o (T2 (TW e)) (TU _ e)
 have I4:=GR (tk:=s2.toks+([]:List (Str×Value)).length) ck hXN hsc I3 f3 (fun b hb=>by show b<(s2.heap.push _).objs.size;rw[sz];exact VY (fo b hb)) hns kept;have t4:tn 0 h1:=T.keep _ _ _ t2 fun b hb o e=>kept b o (TU _ e);have fz:∀b∈fp,∀H',H' b=none->u5 (cxC X N scope ⟨kn X.env scope.names [],(s2.heap.push { cls:=.type "list",data:=.seq ([]:Xw).toArray }).objs.size,{ s2 with heap:=s2.heap.push { cls:=.type "list",data:=.seq ([]:Xw).toArray },toks:=s2.toks },upd H2 s2.heap.objs.size (.lst []),fp,pins⟩) [] H' b:=fun b hb H' hn=>by obtain⟨g0,g1,g2,g3,g4,g5⟩:=f3 b hb;refine⟨hn,(I4.ok.exf b hb).1,I4.ok.exfs b hb,.inl hb,(I4.ok.exf b hb).2,fun p hp=>?_⟩;exact g5 p (by simpa[cxC] using hp)
 have loop:=Ed (X:=X) (σ:=σ) (N:=N) (scope:=scope) (js:=js) (iter:=iter) (pos:=pos) (E:=E) (R:=RR (.ref s2.heap.objs.size) (s2.heap.push { cls:=.type "list",data:=.seq ([]:Xw).toArray }).objs.size) (D:=s2.heap.objs.size) (W:=W) (n:=n)
  hc T fz (hg _) hs (ht _) (he _) (fun i m H w=>(turn i m H w).imp (fun a=>⟨a.1,fun s' Y=>?_⟩) id) I4 t4 (fun b hb=>(f3 b hb).1) w0
 ·exact codeAny_compStart_list loop (T.self _ 0 _ _ _ t4 loop)
 ·have bb:=Y.base;have J0:Inv X pins σ H s':=I3.call' Y.os bb Y.hok Y.bare fun b hb=>by
   obtain⟨g0,g1,g2,g3,g4,g5⟩:=f3 b hb;exact⟨g3,g1,g4,g5⟩
  obtain⟨mC,nC,_⟩:=Y.loc;obtain⟨oC,eC,dC⟩:∃o,s'.heap.get? (s2.heap.push { cls:=.type "list",data:=.seq ([]:Xw).toArray }).objs.size=some o/\∀v,o.data ≠ .cell v:=by obtain⟨o,es,ep,ho,hd,_⟩:=nC;exact⟨o,ho,fun v z=>by rw[hd] at z;cases z⟩
  have lC:X.s₀.heap.objs.size<=(s2.heap.push { cls:=.type "list",data:=.seq ([]:Xw).toArray }).objs.size:=I3.sz;have cC:(s2.heap.push { cls:=.type "list",data:=.seq ([]:Xw).toArray }).objs.size≠X.env.locals:=Wd I3.lt;have kC:∀x c,X.env.cells.lookup x=some c->c≠(s2.heap.push { cls:=.type "list",data:=.seq ([]:Xw).toArray }).objs.size:=fun x c e=>by obtain⟨v,q⟩:=I3.cell x c e;exact T2 q.lt
  have pC:∀p∈X.pn++pins,p.1≠(s2.heap.push { cls:=.type "list",data:=.seq ([]:Xw).toArray }).objs.size:=fun p hp=>T2 (TW (I3.pin p hp).1);have J1:Inv X (pins++[((s2.heap.push { cls:=.type "list",data:=.seq ([]:Xw).toArray }).objs.size,oC)]) σ H s':=J0.pins_of fun p hp=>by
   rcases TH.mp hp with hp|hp
   ·exact J0.pin p (TV _ hp)
   ·rw[Tv.mp hp];exact⟨eC,Y.free,cC,I3.nofs (TB _),dC⟩
  exact hRR _ _ s' H mC oC J1 nC ⟨lC,cC,kC,pC⟩ Y.free a.2
def Kf (ck:CmpOk XN sc scope N js)(hi:PI X tg iter wi)(hg:∀z,PG (cxC X N scope z) tg g)(hs:wZ js g)(ht:∀z,PIf (cxC X N scope z) ifs tt)(he:∀z,PE (cxC X N scope z) elt te)
  (hXN:X.N=XN:=by rfl) (hsc:X.env.scope=sc:=by rfl) (hc:X.calm=true:=by rfl) (hf:∀x,foldedSetIterable iter X.env x=pure x:=by intro _;rfl) :
  PE X (.ListComp elt [⟨tg,iter,ifs,0⟩] scope pos) (wM js wi g tt te):=by
 intro pins s σ H Q I h;rw[eval_ListComp];have hcl:closureFor scope X.env=pure (kn X.env scope.names []):=sH fun y hy hk=>I.ok.has y.1 (by
  have:=ck.free y hy hk;rw[<- hsc] at this
  exact this)
 refine wpAny_comprehension_free (use:=none) rfl hf hcl ck.kind ck.loc (thn (hi pins s σ H _ I h) fun v s1 h1=>thn h1 fun itv s2 h2=>?_);refine sK (RR:=fun acc C=>compPost (model X.prog X.w) X.A X.xe none (EP X pins σ Q) acc C) ck hXN hsc hc hg hs ht he h2 ?_;intro D C s' H' m o J nC hC fC q;refine⟨m,nC,fun h' sb=>⟨.ref D,H',?_,rfl,q⟩⟩;have J0:Inv X pins σ H' s':=J.unpinned;exact J0.turned (t':=s'.toks) (it:=C) (fun b o hb e=>sb.extBut b o hb e) fC hC.2.1 (.inr hC.1) hC.2.2.1 hC.2.2.2
def Kq {i:Nat}{y:Str}{pos' spos:Pos}(ck:CmpOk XN sc scope N js)(hN:X.N.Nodup)(hi0:X.N[i]?=some y)(hx:Loc X.env.scope y)(hi:PI X tg iter wi)(hg:∀z,PG (cxC X N scope z) tg g)(hs:wZ js g)(ht:∀z,PIf (cxC X N scope z) ifs tt)(he:∀z,PE (cxC X N scope z) elt te)
  (hsw:swapsWith (.ListComp elt [⟨tg,iter,ifs,0⟩] scope pos) (some (.Name y pos')) spos.line X.env=pure true:=by rfl)
  (hXN:X.N=XN:=by rfl) (hsc:X.env.scope=sc:=by rfl) (hc:X.calm=true:=by rfl) (hf:∀x,foldedSetIterable iter X.env x=pure x:=by intro _;rfl)
  (hfn:X.fn y=true\/X.env.scope.names.lookup y=some .local:=by first|exact .inl rfl|exact .inr rfl|assumption) :
  PS X (.Assign [.Name y pos'] (.ListComp elt [⟨tg,iter,ifs,0⟩] scope pos) spos) (yg (wM js wi g tt te) (iw i)):=by
 intro pins s σ H D I h;rw[exec_Assign_Name_used _ _ _ _ hsw];have hcl:closureFor scope X.env=pure (kn X.env scope.names []):=sH fun y hy hk=>I.ok.has y.1 (by
  have:=ck.free y hy hk;rw[<- hsc] at this
  exact this)
 refine Tq (wpAny_standAt (Tq ?_));show wpAny (model X.prog X.w) X.A (comprehension (.ListComp elt [⟨tg,iter,ifs,0⟩] scope pos) scope X.env _ (newList []) false (eval iter X.env) (some (assign (.Name y pos') X.env)) >>= fun _=>pure Unit.unit) _ _ s;refine Tq (thn (wpAny_comprehension_free (use:=some (assign (.Name y pos') X.env)) (Q:=fun _ s'=>SP X pins D .next s') rfl hf hcl ck.kind ck.loc (thn (hi pins s σ H _ I h) fun v s1 h1=>thn h1 fun itv s2 h2=>?_)) fun _ s' q=>Tt (Tt q));refine sK (RR:=fun acc C=>compPost (model X.prog X.w) X.A X.xe (some (assign (.Name y pos') X.env)) (fun _ s'=>SP X pins D .next s') acc C) (Q:=fun x H1=>iw i x σ H1 D.nx) ck hXN hsc hc hg hs ht he h2 ?_;intro A C s' H' m o J nC hC fC q;refine thn (rR hN hi0 hx hfn _ s' σ H' (.ref A) (.ref A) _ J rfl q) fun _ s3 h3=>?_;obtain⟨σ3,H3,J3,q3⟩:=h3;have pc:=J3.pin (C,o) (TV _ (TV _ TD));have oC:s'.heap.get? C=some o:=(J.pin (C,o) (TV _ (TV _ TD))).1;refine⟨m,nC.at' fun o' e=>?_,fun h' sb=>⟨σ3,H3,?_,q3⟩⟩
 ·rw[oC] at e;cases e;exact pc.1
 ·have J0:Inv X pins σ3 H3 s3:=J3.unpinned;exact J0.turned (t':=s3.toks) (it:=C) (fun b o hb e=>sb.extBut b o hb e) pc.2.1 hC.2.1 (.inr hC.1) hC.2.2.1 hC.2.2.2
end
end L2
namespace Srt
open PySem PySem.W PyProof.Rows
section
variable {α β:Type}(lt:Nat->Nat->Bool)(n:Nat)
end
section
variable {lt:Nat->Nat->Bool}{le:Nat->Nat->Prop}{n:Nat}{p:Array Nat}
noncomputable abbrev at' (p:Array Nat)(i:Nat):Nat:=p.getD i 0
def yH {p q:Array Nat}{i j:Nat}(h:p[i]?=q[j]?):at' p i=at' q j:=by
 have e:∀(r:Array Nat) (k:Nat),at' r k=(r[k]?).getD 0:=fun r k=>by simp[at']
 rw[e,e,h]
def Asc (le:Nat->Nat->Prop)(p:Array Nat)(m:Nat):Prop:=∀i j,i<=j->j<m->le (at' p i) (at' p j)
def Bel (n:Nat)(p:Array Nat):Prop:=∀k,at' p k<n
structure Ord (lt:Nat->Nat->Bool) (le:Nat->Nat->Prop):Prop where
 tr:∀a b c,le a b->le b c->le a c
 rf:∀a,le a a
 yes:∀a b,lt a b=true->le a b
 no:∀a b,lt a b=false->le b a
def LX (hn:0<n)(hp:p.Perm (List.range n).toArray):Bel n p:=fun k=>by
 have e:at' p k=(p[k]?).getD 0:=by simp[at']
 rw[e];cases h:p[k]? with
 |none=>exact hn
 |some v=>have hm:v∈p:=Array.mem_of_getElem? h;have:=(VZ.mp hp).mem_iff.mp (Array.mem_toList_iff.mpr hm);simpa using this
def cZ {i j:Nat}(hj:j<=p.size)(k:Nat):at' (kas_rev p i j) k=if i<=k/\k<j then at' p (i+j-1-k) else at' p k:=by
 have e:=getElem?_mirror_all (i:=i) hj k;by_cases h:i<=k/\k<j
 ·rw[Ts h] at e ⊢;exact yH e
 ·rw[Tr h] at e ⊢;exact yH e
variable {z:Nat}
def o5 {src d:Nat}(hs:src<p.size)(hd:d<=src)(k:Nat):at' (bubble p src d) k=if k=src-d then at' p src else if src-d<k/\k<=src then at' p (k-1) else at' p k:=by
 have e:=getElem?_bubble hs d hd k;by_cases h1:k=src-d
 ·rw[Ts h1] at e ⊢;exact yH e
 ·rw[Tr h1] at e ⊢;by_cases h2:src-d<k/\k<=src
  ·rw[Ts h2] at e ⊢;exact yH e
  ·rw[Tr h2] at e ⊢;exact yH e
end
def xO {α:Type}{le:Nat->Nat->Prop}{p:Array Nat}{vs:List α}{d:α}(hp:p.Perm (List.range vs.length).toArray)(ha:Asc le p vs.length) :
  (p.toList.map fun i=>vs.getD i d).Perm vs/\∀R:α->α->Prop,(∀i j,i<vs.length->j<vs.length->le i j->R (vs.getD i d) (vs.getD j d))->(p.toList.map fun i=>vs.getD i d).Pairwise R:=by
 have hl:p.toList.Perm (List.range vs.length):=by simpa using VZ.mp hp
 constructor
 ·have h1:(p.toList.map fun i=>vs.getD i d).Perm ((List.range vs.length).map fun i=>vs.getD i d):=hl.map _;have h2:((List.range vs.length).map fun i=>vs.getD i d)=vs:=by
   apply List.ext_getElem
   ·simp
   ·intro i h1 h2;simp at h1;simp[h1]
  rw[h2] at h1;exact h1
 ·intro R hR;rw[Ur,U5];intro i j hi hj hij;have hs:p.toList.length=vs.length:=by rw[hl.length_eq];simp
  have m:∀k (hk:k<p.toList.length),p.toList[k]<vs.length:=fun k hk=>by simpa using hl.mem_iff.mp (V0 hk)
  have a:∀k (hk:k<p.toList.length),at' p k=p.toList[k]:=fun k hk=>by
   have:k<p.size:=by simpa using hk
   simp[at',Array.getD,this]
  refine hR _ _ (m i hi) (m j hj) ?_;rw[<- a i hi,<- a j hj];exact ha i j (Ut hij) ()
noncomputable def JJ:Bool->Keyed->Array Keyed->Nat->Nat->Nat->StateT SortSt Sem (Option Nat):=sortPriv% PySem.Builtin.gallop
noncomputable def G5:Array Keyed->Array Keyed->StateT SortSt Sem (Array Keyed):=sortPriv% PySem.Builtin.mergeLo
noncomputable def G4:Array Keyed->Array Keyed->StateT SortSt Sem (Array Keyed):=sortPriv% PySem.Builtin.mergeHi
section
variable {prog:Program}{w:World}{A:Around}{E:Xs}{s:Shared}{κ:SortKind}{it:Array Keyed}{n:Nat}{lt:Nat->Nat->Bool}{le:Nat->Nat->Prop}
def uX (prog:Program)(w:World)(A:Around)(s:Shared)(κ:SortKind)(it:Array Keyed)(n:Nat)(lt:Nat->Nat->Bool):Prop:=
 ∀i j (C:Bool->Shared->Prop),i<n->j<n->C (lt i j) s->kas_cmp prog w A κ it i j C s
def w_lt (hc:uX prog w A s κ it n lt){i j:Nat}{Q:Option Bool->SortSt->Prop}{st:SortSt}(hk:kindOf st=κ)(hi:i<n)(hj:j<n)(h:Q (some (lt i j)) st):wpS (model prog w) A E s (lt' (kas_item it i) (kas_item it j)) Q st:=by rw[lt'_eq];refine Tu (UN ?_);rw[hk];refine Tu (wpS_lift (Vu (Vh (hc i j (fun c s'=>s'=s/\c=lt i j) hi hj ⟨rfl,rfl⟩) (fun c s' h'=>?_) fun _ _ hF=>hF.elim)));obtain⟨rfl,rfl⟩:=h';exact⟨rfl,Tx h⟩
def bO {X:Array Nat}{k:Nat}{Q:Keyed->SortSt->Prop}{st:SortSt}(hk:k<X.size)(h:Q (kas_item it (at' X k)) st):wpS (model prog w) A E s (elem' (X.map (kas_item it)) k) Q st:=by
 rw[elem'_eq];have e:at' X k=X[k]:=by simp[at',hk]
 rw[e] at h;have e2:(X.map (kas_item it))[k]?=some (kas_item it X[k]):=by simp[hk]
 rw[e2];exact Tx h
def jr (o:Ord lt le)(hc:uX prog w A s κ it n lt){left:Bool}{key:Nat}{X:Array Nat}{base m hint:Nat}{Q:Option Nat->SortSt->Prop}{st:SortSt}(hk:kindOf st=κ)(hb:∀i,i<X.size->at' X i<n)(hkey:key<n)
  (hz:base+m<=X.size) (hh:hint<m) (hs:∀i j,i<=j->j<m->le (at' X (base+i)) (at' X (base+j)))
  (h:∀k,k<=m->(∀i,i<k->le (at' X (base+i)) key)->(∀i,k<=i->i<m->le key (at' X (base+i)))->Q (some k) st) :
  wpS (model prog w) A E s (JJ left (kas_item it key) (X.map (kas_item it)) base m hint) Q st:=by
 have bey:∀i,i<m->∀(R:Option Bool->SortSt->Prop),(∀c,(c=true->le (at' X (base+i)) key)->(c=false->le key (at' X (base+i)))->R (some c) st)->wpS (model prog w) A E s (do
   let x ← elem' (X.map (kas_item it)) (base+i)
   if left=true then lt' x (kas_item it key) else do
    let r ← lt' (kas_item it key) x
    pure (Option.map (fun x=>!x) r)) R st:=fun i hi R hR=>by
  refine Tu (bO () ?_);have hx:=hb (base+i) ();cases left with
  |true=>
   rw[Ts rfl];exact w_lt hc hk hx hkey (hR _ (o.yes _ _) (o.no _ _))
  |false=>rw[Tr (by decide)];refine Tu (w_lt hc hk hkey hx (Tx ?_));refine hR _ (fun e=>o.no _ _ (by simpa using e)) (fun e=>o.yes _ _ (by simpa using e))
 have lo':∀k,k<m->le (at' X (base+k)) key->∀i,i<=k->le (at' X (base+i)) key:=fun k hk hl i hi=>o.tr _ _ _ (hs i k hi hk) hl;have hi':∀k,k<m->le key (at' X (base+k))->∀i,k<=i->i<m->le key (at' X (base+i)):=fun k hk hl i hi him=>o.tr _ _ _ hl (hs k i hi him);refine Tu (bey hint hh _ fun c c1 c2=>?_);dsimp only;cases c with
 |true=>
  rw[Ts rfl]
  refine Tu (UG (UH (I:=fun x c st'=>st'=st/\∃l f,c=(none,l,f)/\x+1<=f/\hint+l<m/\le (at' X (base+(hint+l))) key)
   (Q:=fun c st'=>st'=st/\∃l f,c=(none,l,f)/\hint+l<m/\le (at' X (base+(hint+l))) key/\(f<m-hint->le key (at' X (base+(hint+f))))) ?s1 ?f1 ?i1) ?p1)
  case i1=>exact⟨rfl,0,1,rfl,(),(),c1 rfl⟩
  case f1=>
   rintro c st' ⟨rfl,l,f,rfl,h1,h2,h3⟩;exact⟨rfl,l,f,rfl,h2,h3,fun _=>()⟩
  case s1=>
   rintro x c st' _ hx ⟨rfl,l,f,rfl,h1,h2,h3⟩;dsimp only;by_cases hge:f ≥ m-hint
   ·rw[Ts hge];exact Tx ⟨rfl,l,f,rfl,h2,h3,fun _=>()⟩
   ·rw[Tr hge];refine Tu (bey (hint+f) () _ fun c d1 d2=>?_);dsimp only;cases c with
    |true=>exact Tx ⟨rfl,f,2 * f+1,rfl,(),(),d1 rfl⟩
    |false=>exact Tx ⟨rfl,l,f,rfl,h2,h3,fun _=>d2 rfl⟩
  case p1=>
   rintro c st' ⟨rfl,l,f,rfl,h2,h3,h4⟩;dsimp only;have g1:∀i,i<hint+l+1->i<m->le (at' X (base+i)) key:=fun i hi _=>lo' _ h2 h3 i ();have g2:∀i,hint+min f (m-hint)<=i->i<m->le key (at' X (base+i)):=fun i hi him=>hi' (hint+f) () (h4 ()) i () him;have g3:hint+min f (m-hint)<=m:=()
   generalize hint+l+1=L at g1 ⊢;generalize hint+min f (m-hint)=H at g2 g3 ⊢
   refine Tu (UG (UH (I:=fun x c st2=>st2=st'/\∃l h,c=(none,l,h)/\h<=m/\h-l<=m-x/\(∀i,i<l->i<m->le (at' X (base+i)) key)/\(∀i,h<=i->i<m->le key (at' X (base+i))))
    (Q:=fun c st2=>st2=st'/\∃l h,c=(none,l,h)/\h<=m/\h<=l/\(∀i,i<l->i<m->le (at' X (base+i)) key)/\(∀i,h<=i->i<m->le key (at' X (base+i)))) ?s2 ?f2 ?i2) ?p2)
   case i2=>exact⟨rfl,L,H,rfl,g3,(),g1,g2⟩
   case f2=>
    rintro c st2 ⟨rfl,l,h,rfl,k1,k2,k3,k4⟩;exact⟨rfl,l,h,rfl,k1,(),k3,k4⟩
   case s2=>
    rintro x c st2 _ hx ⟨rfl,l,h,rfl,k1,k2,k3,k4⟩;dsimp only;by_cases hge:l ≥ h
    ·rw[Ts hge];exact Tx ⟨rfl,l,h,rfl,k1,hge,k3,k4⟩
    ·rw[Tr hge];refine Tu (bey (l+(h-l) / 2) () _ fun c d1 d2=>?_);dsimp only;cases c with
     |true=>exact Tx ⟨rfl,_,_,rfl,k1,(),fun i hi him=>lo' _ () (d1 rfl) i (),k4⟩
     |false=>exact Tx ⟨rfl,_,_,rfl,(),(),k3,fun i hi him=>hi' _ () (d2 rfl) i hi him⟩
   case p2=>
    rintro c st2 ⟨rfl,l,h',rfl,k1,k2,k3,k4⟩;exact Tx (h h' k1 (fun i hi=>k3 i () ()) k4)
 |false=>
  rw[Tr (by decide)]
  refine Tu (UG (UH (I:=fun x c st'=>st'=st/\∃l f,c=(none,l,f)/\x+1<=f/\l<=hint/\le key (at' X (base+(hint-l))))
   (Q:=fun c st'=>st'=st/\∃l f,c=(none,l,f)/\l<=hint/\le key (at' X (base+(hint-l)))/\(f<hint+1->le (at' X (base+(hint-f))) key)) ?s1 ?f1 ?i1) ?p1)
  case i1=>exact⟨rfl,0,1,rfl,(),(),c2 rfl⟩
  case f1=>
   rintro c st' ⟨rfl,l,f,rfl,h1,h2,h3⟩;exact⟨rfl,l,f,rfl,h2,h3,fun _=>()⟩
  case s1=>
   rintro x c st' _ hx ⟨rfl,l,f,rfl,h1,h2,h3⟩;dsimp only;by_cases hge:f ≥ hint+1
   ·rw[Ts hge];exact Tx ⟨rfl,l,f,rfl,h2,h3,fun _=>()⟩
   ·rw[Tr hge];refine Tu (bey (hint-f) () _ fun c d1 d2=>?_);dsimp only;cases c with
    |true=>exact Tx ⟨rfl,l,f,rfl,h2,h3,fun _=>d1 rfl⟩
    |false=>exact Tx ⟨rfl,f,2 * f+1,rfl,(),(),d2 rfl⟩
  case p1=>
   rintro c st' ⟨rfl,l,f,rfl,h2,h3,h4⟩;dsimp only;have g1:∀i,i<hint+1-min f (hint+1)->i<m->le (at' X (base+i)) key:=fun i hi _=>lo' (hint-f) () (h4 ()) i ();have g2:∀i,hint-l<=i->i<m->le key (at' X (base+i)):=fun i hi him=>hi' (hint-l) () h3 i () him;have g3:hint-l<=m:=()
   generalize hint+1-min f (hint+1)=L at g1 ⊢;generalize hint-l=H at g2 g3 ⊢
   refine Tu (UG (UH (I:=fun x c st2=>st2=st'/\∃l h,c=(none,l,h)/\h<=m/\h-l<=m-x/\(∀i,i<l->i<m->le (at' X (base+i)) key)/\(∀i,h<=i->i<m->le key (at' X (base+i))))
    (Q:=fun c st2=>st2=st'/\∃l h,c=(none,l,h)/\h<=m/\h<=l/\(∀i,i<l->i<m->le (at' X (base+i)) key)/\(∀i,h<=i->i<m->le key (at' X (base+i)))) ?s2 ?f2 ?i2) ?p2)
   case i2=>exact⟨rfl,L,H,rfl,g3,(),g1,g2⟩
   case f2=>
    rintro c st2 ⟨rfl,l,h,rfl,k1,k2,k3,k4⟩;exact⟨rfl,l,h,rfl,k1,(),k3,k4⟩
   case s2=>
    rintro x c st2 _ hx ⟨rfl,l,h,rfl,k1,k2,k3,k4⟩;dsimp only;by_cases hge:l ≥ h
    ·rw[Ts hge];exact Tx ⟨rfl,l,h,rfl,k1,hge,k3,k4⟩
    ·rw[Tr hge];refine Tu (bey (l+(h-l) / 2) () _ fun c d1 d2=>?_);dsimp only;cases c with
     |true=>exact Tx ⟨rfl,_,_,rfl,k1,(),fun i hi him=>lo' _ () (d1 rfl) i (),k4⟩
     |false=>exact Tx ⟨rfl,_,_,rfl,(),(),k3,fun i hi him=>hi' _ () (d2 rfl) i hi him⟩
   case p2=>
    rintro c st2 ⟨rfl,l,h',rfl,k1,k2,k3,k4⟩;exact Tx (h h' k1 (fun i hi=>k3 i () ()) k4)
end
end Srt
namespace Srt
section
variable {le:Nat->Nat->Prop}{tot out ra rb xs:List Nat}
def Inv (le:Nat->Nat->Prop)(tot out ra rb:List Nat):Prop:=(out++ra).Pairwise le/\(out++rb).Pairwise le/\(out++(ra++rb)).Perm tot
def Inv.symm (h:Inv le tot out ra rb):Inv le tot out rb ra:=⟨h.2.1,h.1,(W2 _ List.perm_append_comm).trans h.2.2⟩
def Inv.block (h:Inv le tot out (xs++ra) rb)(k:∀x∈xs,∀y∈rb,le x y):Inv le tot (out++xs) ra rb:=by
 obtain⟨h1,h2,h3⟩:=h;refine⟨by rw[Ue];exact h1,?_,by rw[Ue,<- Ue xs];exact h3⟩;rw[Ug] at h1 h2;rw[Ue,Ug];obtain⟨a1,a2,a3⟩:=h1;obtain⟨b1,b2,b3⟩:=h2;rw[Ug] at a2;refine⟨a1,Ug.mpr ⟨a2.1,b2,k⟩,fun x hx y hy=>?_⟩;rcases TH.mp hy with hy|hy
 ·exact a3 x hx y (TK _ hy)
 ·exact b3 x hx y hy
def Inv.doneA (h:Inv le tot out ra []):(out++ra).Pairwise le/\(out++ra).Perm tot:=⟨h.1,by have:=h.2.2;rwa[Um] at this⟩
def Inv.lastA {x:Nat}(h:Inv le tot out [x] rb)(k:∀y∈rb,le y x):(out++(rb++[x])).Pairwise le/\(out++(rb++[x])).Perm tot:=by
 refine⟨?_,(W2 _ List.perm_append_comm).trans h.2.2⟩;obtain⟨h1,h2,_⟩:=h;rw[Ug] at h1 h2;rw[Ug];refine⟨h1.1,Ug.mpr ⟨h2.2.1,Vv _ _,fun y hy z hz=>?_⟩,fun a ha b hb=>?_⟩
 ·rw[Tv] at hz;subst hz;exact k y hy
 ·rcases TH.mp hb with hb|hb
  ·exact h2.2.2 a ha b hb
  ·exact h1.2.2 a ha b hb
end
section
variable {X Y O:Array Nat}{le:Nat->Nat->Prop}{tot:List Nat}
def LQ {i:Nat}(h:i<X.size):at' X i=X[i]:=by simp[at',h]
def jA {i:Nat}(h:i<X.size):X.toList[i]'(by simpa using h)=at' X i:=by rw[LQ h];simp
def xk {i:Nat}(h:i<X.size):X.toList.drop i=at' X i::X.toList.drop (i+1):=by rw[V1 (by simpa using h),jA h]
def n5 {i j:Nat}(h:i<=j):X.toList.drop i=(X.extract i j).toList++X.toList.drop j:=by
 rw[Wi,Wj];have e:X.toList.drop j=(X.toList.drop i).drop (j-i):=by rw[List.drop_drop];congr 1;lia
 rw[e,WG]
def tV {i x:Nat}(h:x∈X.toList.drop i):∃j,i<=j/\j<X.size/\at' X j=x:=by
 obtain⟨k,hk⟩:=UR h;rw[Wk] at hk;obtain⟨h1,h2⟩:=TR.mp hk;have h1':i+k<X.size:=by simpa using h1
 exact⟨i+k,(),h1',by rw[<- jA h1'];exact h2⟩
def rP {i j x:Nat}(h:x∈(X.extract i j).toList):∃k,i<=k/\k<j/\k<X.size/\at' X k=x:=by
 obtain⟨k,hk⟩:=UR h;rw[Wi,Wj,WH] at hk;split at hk
 ·rw[Wk] at hk;obtain⟨h1,h2⟩:=TR.mp hk;have h1':i+k<X.size:=by simpa using h1
  exact⟨i+k,(),(),h1',by rw[<- jA h1'];exact h2⟩
 ·cases hk
abbrev J (le:Nat->Nat->Prop)(tot:List Nat)(X Y O:Array Nat)(ia ib:Nat):Prop:=Inv le tot O.toList (X.toList.drop ia) (Y.toList.drop ib)
variable {ia ib:Nat}
def J.one (j:J le tot X Y O ia ib)(h:ia<X.size)(k:∀i,ib<=i->i<Y.size->le (at' X ia) (at' Y i)):J le tot X Y (O.push (at' X ia)) (ia+1) ib:=by
 unfold J at j ⊢;rw[xk h] at j;have:=Inv.block (xs:=[at' X ia]) j (fun x hx y hy=>by
  rw[Tv] at hx;subst hx;obtain⟨i,h1,h2,rfl⟩:=tV hy
  exact k i h1 h2)
 rwa[Vw]
def J.blk {m:Nat}(j:J le tot X Y O ia ib)(k:∀i l,ia<=i->i<ia+m->i<X.size->ib<=l->l<Y.size->le (at' X i) (at' Y l)):J le tot X Y (O++X.extract ia (ia+m)) (ia+m) ib:=by
 unfold J at j ⊢;rw[n5 (j:=ia+m) ()] at j;have:=Inv.block j (fun x hx y hy=>by
  obtain⟨i,h1,h2,h3,rfl⟩:=rP hx;obtain⟨l,h4,h5,rfl⟩:=tV hy
  exact k i l h1 h2 h3 h4 h5)
 rwa[Vk]
def J.sy (j:J le tot X Y O ia ib):J le tot Y X O ib ia:=Inv.symm j
abbrev kg (le:Nat->Nat->Prop)(tot:List Nat)(R:Array Nat):Prop:=R.toList.Pairwise le/\R.toList.Perm tot
def J.done1 (j:J le tot X Y O ia ib)(h:Y.size<=ib)(h2:ia<=X.size):kg le tot (O++X.extract ia X.size++Y.extract ib Y.size):=by
 unfold J at j;rw[U6 (l:=Y.toList) (by simpa using h)] at j;have e:(Y.extract ib Y.size) = #[]:=by simp;lia
 have e2:X.toList.drop ia=(X.extract ia X.size).toList:=by rw[n5 h2];simp
 rw[e,Array.append_empty];unfold kg;rw[Vk,<- e2];exact j.doneA
def J.done2 (j:J le tot X Y O ia ib)(h:X.size<=ia)(h2:ib<=Y.size):kg le tot (O++X.extract ia X.size++Y.extract ib Y.size):=by
 have e:(X.extract ia X.size) = #[]:=by simp;lia
 have:=j.sy.done1 h h2;rw[e,Array.append_empty] at this ⊢;exact this
def J.last (j:J le tot X Y O ia ib)(h:ia+1=X.size)(h2:ib<=Y.size)(k:∀i,i<Y.size->le (at' Y i) (at' X ia)):kg le tot (O++Y.extract ib Y.size++X.extract ia X.size):=by
 unfold J at j;rw[xk (),U6 (l:=X.toList) (i:=ia+1) (by simp;lia)] at j;have:=j.lastA fun y hy=>by obtain⟨i,h1,h2,rfl⟩:=tV hy;exact k i h2
 have e:(X.extract ia X.size).toList=[at' X ia]:=by
  have e2:X.toList.drop ia=(X.extract ia X.size).toList:=by rw[n5 (j:=X.size) ()];simp
  rw[<- e2,xk (),U6 (l:=X.toList) (i:=ia+1) (by simp;lia)]
 have e3:Y.toList.drop ib=(Y.extract ib Y.size).toList:=by rw[n5 h2];simp
 unfold kg;rw[Vk,Vk,e,<- e3,Ue];exact this
end
end Srt
namespace Srt
open PySem PySem.W PyProof.Rows
section
variable {prog:Program}{w:World}{A:Around}{E:Xs}{s:Shared}{κ:SortKind}{it:Array Keyed}{n:Nat}{lt:Nat->Nat->Bool}{le:Nat->Nat->Prop}
def Same (κ:SortKind)(st st':SortSt):Prop:=kindOf st'=κ/\arrOf st'=arrOf st/\pendingOf st'=pendingOf st/\failedOf st'=failedOf st
theorem Same.g {st st2:SortSt}(h:Same κ st st2)(g:Nat):Same κ st (SortSt.mk' (kindOf st2) (arrOf st2) (pendingOf st2) g (failedOf st2)):=h
def jP {σ α:Type}{M:Model}{c:Prop}[Decidable c]{a b:StateT σ Sem α}{Q:α->σ->Prop}{st:σ}(h1:wpS M A E s a Q st)(h2:wpS M A E s b Q st):wpS M A E s (if c then a else b) Q st:=by
 by_cases h:c
 ·rw[Ts h];exact h1
 ·rw[Tr h];exact h2
def exm (f:Nat->Keyed)(Z:Array Nat):(Z.map f).extract 0 Z.size=Z.map f:=by
 have:Z.size=(Z.map f).size:=by simp
 rw[this];simp
def Dy {X:Array Nat}(h:∀i j,i<=j->j<X.size->le (at' X i) (at' X j)):X.toList.Pairwise le:=by
 rw[U5];intro i j hi hj hij;have h2:j<X.size:=by simpa using hj
 rw[jA (),jA h2];exact h i j () h2
def bE {σ α:Type}{M:Model}{c:Prop}[Decidable c]{a b:StateT σ Sem α}{Q:α->σ->Prop}{st:σ}(h1:c->wpS M A E s a Q st)(h2:¬c->wpS M A E s b Q st):wpS M A E s (if c then a else b) Q st:=by
 by_cases h:c
 ·rw[Ts h];exact h1 h
 ·rw[Tr h];exact h2 h
def DN {σ α β:Type}{M:Model}{c:Prop}[Decidable c]{f:β->StateT σ Sem α}{a b:β}{Q:α->σ->Prop}{st:σ}(h:∀x,wpS M A E s (f x) Q st):wpS M A E s (if c then f a else f b) Q st:=jP (h a) (h b)
def ym {σ α β γ:Type}{M:Model}{jp:Unit->β->γ->StateT σ Sem α}{m:StateT σ Sem α}{Q:α->σ->Prop}{st:σ}(P:β->γ->Prop)(h:∀b c,P b c->wpS M A E s (jp Unit.unit b c) Q st)(k:(∀b c,P b c->wpS M A E s (jp Unit.unit b c) Q st)->wpS M A E s m Q st):wpS M A E s m Q st:=k h
def lJ {σ β:Type}{M:Model}{b:Nat}{f:Nat->β->StateT σ Sem (ForInStep β)}(I:Nat->β->σ->Prop)(Q:β->σ->Prop)
  {P:β->σ->Prop} {c:β} {st:σ} (h:I 0 c st)
  (hs:∀i c st (R:ForInStep β->σ->Prop),(∀c st,Q c st->R (.done c) st)->(∀c st,I (i+1) c st->R (.yield c) st)->i<b->I i c st->wpS M A E s (f i c) R st)
  (he:∀c st,I b c st->Q c st) (hp:∀c st,Q c st->P c st):wpS M A E s (forIn [0:b] c f) P st:=
 UG (UH I (fun i c st _ hb hi=>hs i c st _ (fun _ _ h=>h) (fun _ _ h=>h) hb hi) (fun c st h=>he c st (by rwa[Nat.zero_max] at h)) h) hp
def rel {p:Nat->Prop}{u a b:Nat}(h:∀i,a<=i->i<b->p (u+i))(i:Nat)(h1:u+a<=i)(h2:i<u+b):p i:=by have:=h (i-u) () ();rwa[show u+(i-u)=i by lia] at this
def LR (κ:SortKind)(it:Array Keyed)(st:SortSt)(le:Nat->Nat->Prop)(X Y:Array Nat)(r:Option (Array Keyed))(st2:SortSt):Prop:=∃R,r=some (R.map (kas_item it))/\kg le (X.toList++Y.toList) R/\Same κ st st2
def LI (κ:SortKind)(st:SortSt)(le:Nat->Nat->Prop)(X Y:Array Nat)(v:Nat)(st2:SortSt)(O:Array Nat)(ia ib:Nat):Prop:=Same κ st st2/\ia+1<X.size/\ib<Y.size/\v<=ia+ib/\J le (X.toList++Y.toList) X Y O ia ib
def FF (o:Ord lt le)(hc:uX prog w A s κ it n lt){X Y:Array Nat}{Q:Array Keyed->SortSt->Prop}{st:SortSt}(hk:kindOf st=κ)(hx:∀i,i<X.size->at' X i<n)(hy:∀i,i<Y.size->at' Y i<n)
  (x1:1<=X.size) (y1:1<=Y.size) (sx:∀i j,i<=j->j<X.size->le (at' X i) (at' X j)) (sy:∀i j,i<=j->j<Y.size->le (at' Y i) (at' Y j)) (hf:∀i,i<X.size->le (at' Y 0) (at' X i)) (hl:∀i,i<Y.size->le (at' Y i) (at' X (X.size-1)))
  (h:∀R st',Same κ st st'->kg le (X.toList++Y.toList) R->Q (R.map (kas_item it)) st') :
  wpS (model prog w) A E s (G5 (X.map (kas_item it)) (Y.map (kas_item it))) Q st:=by
 have sm0:Same κ st st:=⟨hk,rfl,rfl,rfl⟩
 have hl':∀ia,ia+1=X.size->∀i,i<Y.size->le (at' Y i) (at' X ia):=fun ia e i hi=>by have:=hl i hi;rwa[<- e] at this
 have fin:∀ {O:Array Keyed} {R},O=R.map (kas_item it)->∀ {st'},Same κ st st'->kg le (X.toList++Y.toList) R->Q O st':=fun e _ sm g=>e▸h _ _ sm g;have j0:J le (X.toList++Y.toList) X Y #[] 0 0:=⟨by simpa using Dy sx,by simpa using Dy sy,by simp⟩
 have j1:J le (X.toList++Y.toList) X Y #[at' Y 0] 0 1:=(j0.sy.one () fun i _ h2=>hf i h2).sy;refine Tu (wpS_lift (Vl ⟨rfl,?_⟩));refine Tu (bO () ?_);dsimp -zeta only;simp -zeta only[WI,UK];refine bE (fun e=>Tx (fin ?_ sm0 (j1.done1 () ()))) fun e1=>bE (fun e=>Tx (fin ?_ sm0 (j1.last () () (hl' 0 ())))) fun e2=>?_
 ·simp[exm]
 ·simp[exm]
 refine Tu (UN (Tu (lJ (fun x c st2=>∃O ia ib g,c=(none,O.map (kas_item it),ia,ib,g)/\LI κ st le X Y (x+1) st2 O ia ib) (fun c st2=>LR κ it st le X Y c.1 st2) ⟨#[at' Y 0],0,1,_,by simp;rfl,sm0,(),(),(),j1⟩ ?s1 ?f1 ?p1)))
 case f1=>
  rintro c st2 ⟨O,ia,ib,g,rfl,sm,la,lb,ls,j⟩;lia
 case p1=>
  rintro⟨c,c'⟩ st2 ⟨R,rfl,hR,sm⟩;exact Tx (h R st2 sm hR)
 rintro x c st2 QQ hD hY hx0 ⟨O,ia,ib,g,rfl,L⟩;refine Tu (lJ (fun y c st2=>∃O ia ib a b,c=(none,O.map (kas_item it),ia,ib,a,b)/\LI κ st le X Y (x+1+y) st2 O ia ib) (fun c st2=>LR κ it st le X Y c.1 st2\/∃O ia ib a b,c=(none,O.map (kas_item it),ia,ib,a,b)/\LI κ st le X Y (x+2) st2 O ia ib) ⟨O,ia,ib,0,0,rfl,L⟩ ?s2 ?f2 ?p2)
 case f2=>
  rintro c st2 ⟨O,ia,ib,a,b,rfl,sm,la,lb,ls,j⟩;lia
 case s2=>
  clear hD hY;rintro y c st2 QQ hD hY hy0 ⟨O,ia,ib,a,b,rfl,sm,la,lb,ls,j⟩;have la':ia<X.size:=()
  refine Tu (bO lb (Tu (bO la' (Tu (w_lt hc sm.1 (hy ib lb) (hx ia la') ?_)))));dsimp -zeta only;cases cw:lt (at' Y ib) (at' X ia) with
  |true=>
   have j2:J le (X.toList++Y.toList) X Y (O.push (at' Y ib)) ia (ib+1):=(j.sy.one lb fun i h1 h2=>o.tr _ _ _ (o.yes _ _ cw) (sx _ _ h1 h2)).sy;rw[Ts rfl];refine Tu (bO lb (bE (fun e=>Tx (hD _ _ (.inl ⟨_,?_,j2.done1 () (),sm⟩))) fun e=>jP (Tx (hD _ _ (.inr ⟨_,ia,ib+1,_,_,by rw[<- US],sm,la,(),(),j2⟩))) (Tx (hY _ _ ⟨_,ia,ib+1,_,_,by rw[<- US],sm,la,(),(),j2⟩))));simp
  |false=>have j2:=j.one la' fun i h1 h2=>o.tr _ _ _ (o.no _ _ cw) (sy _ _ h1 h2);rw[Tr (by decide)];refine Tu (bO la' (bE (fun e=>Tx (hD _ _ (.inl ⟨_,?_,j2.last e () (hl' _ e),sm⟩))) fun e=>jP (Tx (hD _ _ (.inr ⟨_,ia+1,ib,_,_,by rw[<- US],sm,(),lb,(),j2⟩))) (Tx (hY _ _ ⟨_,ia+1,ib,_,_,by rw[<- US],sm,(),lb,(),j2⟩))));simp
 case p2=>
  clear L;rintro⟨c,c'⟩ st2 (⟨R,rfl,hR,sm⟩|⟨O,ia,ib,a,b,hcc,L⟩)
  ·exact Tx (hD _ _ ⟨R,rfl,hR,sm⟩)
  cases hcc;refine Tu (wpS_lift (Vl ⟨rfl,Tu (lJ (fun y c st2=>∃O ia ib m a b,c=(none,O.map (kas_item it),ia,ib,m,a,b)/\LI κ st le X Y (x+2) st2 O ia ib) (fun c st2=>LR κ it st le X Y c.1 st2\/∃O ia ib m a b,c=(none,O.map (kas_item it),ia,ib,m,a,b)/\LI κ st le X Y (x+2) st2 O ia ib) ⟨O,ia,ib,_,_,_,rfl,L⟩ ?s3 (fun _ _ h=>.inr h) ?p3)⟩))
  case p3=>
   rintro⟨c,c'⟩ st2 (⟨R,rfl,hR,sm⟩|⟨O,ia,ib,m,a,b,hcc,sm,L⟩)
   ·exact Tx (hD _ _ ⟨R,rfl,hR,sm⟩)
   cases hcc;exact Tu (UI (Tx (hY _ _ ⟨O,ia,ib,_,rfl,sm.g _,L⟩)))
  clear hD hY L;rintro y c st2 QQ hD hY hy0 ⟨O,ia,ib,m,a,b,rfl,sm,la,lb,ls,j⟩;have dR:∀ {R' R t st2},R'=R.map (kas_item it)->Same κ st st2->kg le (X.toList++Y.toList) R->QQ (.done (some R',t)) st2:=fun e sm g=>hD _ _ (.inl ⟨_,T7 some e,g,sm⟩);dsimp -zeta only
  extract_lets -underBinder s1 out s2 ia2 s3 ib2 s4 mg s5 ac bc jp
  refine DN fun g=>?_;replace sm:=sm.g g;refine Tu (UI (Tu (bO lb (Tu (jr o hc sm.1 hx (hy ib lb) (show ia+(X.size-ia)<=X.size by lia) (show 0<X.size-ia by lia) (fun i k h1 h2=>sx (ia+i) (ia+k) () (show ia+k<X.size by change k<X.size-ia at h2;lia)) fun k k1 k2 k3=>?_)))));replace k2:=rel (p:=fun i=>le (at' X i) (at' Y ib)) (a:=0) fun i _ h=>k2 i h;replace k3:∀i,ia+k<=i->i<X.size->le (at' Y ib) (at' X i):=fun i h1 h2=>rel (p:=fun i=>le (at' Y ib) (at' X i)) k3 i h1 (show i<ia+(X.size-ia) by lia);dsimp -zeta only
  extract_lets -underBinder ac2 jp2
  refine ym (jp:=jp2) (fun O' i=>∃O,O'=O.map (kas_item it)/\i+1<X.size/\x+2<=i+ib/\J le (X.toList++Y.toList) X Y O i ib/\∀l,i<=l->l<X.size->le (at' Y ib) (at' X l)) ?_ fun hj=>?_
  ·rintro O' i ⟨O,rfl,la,ls,j,ky⟩;have j2:J le (X.toList++Y.toList) X Y (O.push (at' Y ib)) i (ib+1):=(j.sy.one lb ky).sy;have li:i<X.size:=()
   refine Tu (bO lb (bE (fun e=>Tx (dR ?_ sm (j2.done1 (UA e.symm) ()))) fun e=>Tu (bO li (Tu (jr o hc sm.1 hy (hx i li) (show ib+1+(Y.size-(ib+1))<=Y.size by lia) (show 0<Y.size-(ib+1) by change ¬ib+1=Y.size at e;lia) (fun i k h1 h2=>sy (ib+1+i) (ib+1+k) () (show ib+1+k<Y.size by change k<Y.size-(ib+1) at h2;lia)) fun k k1 k2 k3=>?_)))))
   ·simp +zetaDelta
   replace k2:=rel (p:=fun l=>le (at' Y l) (at' X i)) (u:=ib+1) (a:=0) fun i _ h=>k2 i h;replace k3:∀l,ib+1+k<=l->l<Y.size->le (at' X i) (at' Y l):=fun l h1 h2=>rel (p:=fun l=>le (at' X i) (at' Y l)) (u:=ib+1) k3 l h1 (show l<ib+1+(Y.size-(ib+1)) by lia);dsimp -zeta only
   extract_lets -underBinder bc2 jp3
   refine ym (jp:=jp3) (fun O' l=>∃O,O'=O.map (kas_item it)/\l<Y.size/\ib<l/\J le (X.toList++Y.toList) X Y O i l/\∀i',l<=i'->i'<Y.size->le (at' X i) (at' Y i')) ?_ fun hj=>?_
   ·rintro O' l ⟨O,rfl,lb,lc,j,ky⟩;have j2:=j.one li ky;refine Tu (bO li (bE (fun e=>Tx (dR ?_ sm (j2.last e () (hl' _ e)))) fun e=>jP (Tx (hD _ _ (.inr ⟨_,i+1,l,_,_,_,by rw[<- US],sm,(),lb,(),j2⟩))) (Tx (hY _ _ ⟨_,i+1,l,_,_,_,by rw[<- US],sm,(),lb,(),j2⟩))));simp
   have j3:J le (X.toList++Y.toList) X Y (O.push (at' Y ib)++Y.extract (ib+1) (ib+1+k)) i (ib+1+k):=(j2.sy.blk fun i' l h1 h2 h3 h4 h5=>o.tr _ _ _ (k2 i' h1 h2) (sx _ _ h4 h5)).sy;refine bE (fun k0=>bE (fun e=>Tx (dR ?_ sm (j3.done1 (UA e.symm) (Ut li)))) fun e=>hj _ _ ⟨_,?_,Nat.lt_of_le_of_ne (show ib+1+k<=Y.size by change k<=Y.size-(ib+1) at k1;lia) e,show ib<ib+1+k by lia,j3,k3⟩) fun k0=>hj _ _ ⟨O.push (at' Y ib),?_,Nat.lt_of_le_of_ne lb e,VM ib,j2,fun l h1 h2=>k3 l (show ib+1+k<=l by change ib+1<=l at h1;lia) h2⟩
   ·simp +zetaDelta
   ·simp +zetaDelta
   ·simp +zetaDelta
  have j3:=j.blk (m:=k) fun i l h1 h2 h3 h4 h5=>o.tr _ _ _ (k2 i h1 h2) (sy _ _ h4 h5);have kk:ia+k<=X.size:=by change k<=X.size-ia at k1;lia
  refine bE (fun k0=>bE (fun e=>Tx (dR ?_ sm (j3.last e () (hl' _ e)))) fun e=>bE (fun e2=>Tx (dR ?_ sm (j3.done2 (UA e2.symm) ()))) fun e2=>hj _ _ ⟨_,?_,show ia+k+1<X.size by change ¬ia+k+1=X.size at e;change ¬ia+k=X.size at e2;lia,show x+2<=ia+k+ib by lia,j3,k3⟩) fun k0=>hj _ _ ⟨O,rfl,la,ls,j,fun l h1 h2=>k3 l (show ia+k<=l by change ia<=l at h1;lia) h2⟩
  ·simp +zetaDelta
  ·simp +zetaDelta
  ·simp +zetaDelta
end
section
variable {X Y O:Array Nat}{le:Nat->Nat->Prop}{tot:List Nat}{na nb:Nat}
def DK {i:Nat}(h:i<X.size):X.toList.take (i+1)=X.toList.take i++[at' X i]:=by rw[List.take_succ_eq_append_getElem (by simpa using h),jA h]
def kY {i j:Nat}(h:i<=j):X.toList.take j=X.toList.take i++(X.extract i j).toList:=by
 rw[Wi,Wj];have e:j=i+(j-i):=()
 conv=>lhs;rw[e,List.take_add]
def tW {i x:Nat}(h:x∈X.toList.take i):∃j,j<i/\j<X.size/\at' X j=x:=by
 obtain⟨k,hk⟩:=UR h;rw[WH] at hk;split at hk
 ·obtain⟨h1,h2⟩:=TR.mp hk;have h1':k<X.size:=by simpa using h1
  exact⟨k,(),h1',by rw[<- jA h1'];exact h2⟩
 ·cases hk
abbrev JH (le:Nat->Nat->Prop)(tot:List Nat)(X Y O:Array Nat)(na nb:Nat):Prop:=Inv (fun a b=>le b a) tot O.toList (X.toList.take na).reverse (Y.toList.take nb).reverse
def JH.sy (j:JH le tot X Y O na nb):JH le tot Y X O nb na:=Inv.symm j
def JH.one (j:JH le tot X Y O na nb)(h:1<=na)(h2:na<=X.size)(k:∀i,i<nb->le (at' Y i) (at' X (na-1))):JH le tot X Y (O.push (at' X (na-1))) (na-1) nb:=by
 unfold JH at j ⊢;obtain⟨m,rfl⟩:∃m,na=m+1:=⟨na-1,()⟩
 rw[DK (),List.reverse_append] at j;rw[Nat.add_sub_cancel] at k ⊢;have:=Inv.block (xs:=[at' X m]) j (fun x hx y hy=>by
  rw[Tv] at hx;subst hx;obtain⟨i,h1,h2,rfl⟩:=tW (WJ.mp hy)
  exact k i h1)
 rwa[Vw]
def JH.blk {m:Nat}(j:JH le tot X Y O na nb)(h:m<=na)(h2:na<=X.size)(k:∀i l,m<=i->i<na->l<nb->le (at' Y l) (at' X i)):JH le tot X Y (O++(X.extract m na).reverse) m nb:=by
 unfold JH at j ⊢;rw[kY h,List.reverse_append] at j;have:=Inv.block j (fun x hx y hy=>by
  obtain⟨i,h1,h2,h3,rfl⟩:=rP (WJ.mp hx);obtain⟨l,h4,h5,rfl⟩:=tW (WJ.mp hy)
  exact k i l h1 h2 h4)
 rwa[Vk,Array.toList_reverse]
def Ai {l r:List Nat}(h:l.Pairwise (fun a b=>le b a)/\l.Perm tot)(e:l=r.reverse):r.Pairwise le/\r.Perm tot:=by subst e;exact⟨W3.mp h.1,(List.reverse_perm _).symm.trans h.2⟩
def L1 (m:Nat):(X.extract 0 m).toList=X.toList.take m:=by rw[Wi,Wj];simp
def JH.done1 (j:JH le tot X Y O na nb)(h:nb=0)(h2:na<=X.size):kg le tot (X.extract 0 na++Y.extract 0 nb++O.reverse):=by subst h;refine Ai (l:=O.toList++(X.toList.take na).reverse) (Inv.doneA (by unfold JH at j;simpa using j)) ?_;simp[L1]
def JH.done2 (j:JH le tot X Y O na nb)(h:na=0)(h2:nb<=Y.size):kg le tot (X.extract 0 na++Y.extract 0 nb++O.reverse):=by have:=j.sy.done1 h h2;subst h;simpa using this
def JH.first (j:JH le tot X Y O na nb)(h:nb=1)(y1:1<=Y.size)(h2:na<=X.size)(k:∀i,i<X.size->le (at' Y 0) (at' X i)):kg le tot (Y.extract 0 nb++X.extract 0 na++O.reverse):=by
 subst h;have e:Y.toList.take 1=[at' Y 0]:=by rw[DK (i:=0) ()];simp
 have j2:Inv (fun a b=>le b a) tot O.toList [at' Y 0] (X.toList.take na).reverse:=by have:=j.sy;unfold JH at this;rw[e] at this;exact this
 refine Ai (j2.lastA fun y hy=>?_) ?_
 ·obtain⟨i,h1,h2,rfl⟩:=tW (WJ.mp hy);exact k i h2
 ·rw[Vk,Vk,L1,L1,e];simp
end
section
variable {prog:Program}{w:World}{A:Around}{E:Xs}{s:Shared}{κ:SortKind}{it:Array Keyed}{n:Nat}{lt:Nat->Nat->Bool}{le:Nat->Nat->Prop}
def HI (κ:SortKind)(st:SortSt)(le:Nat->Nat->Prop)(X Y:Array Nat)(v:Nat)(st2:SortSt)(O:Array Nat)(na nb:Nat):Prop:=Same κ st st2/\1<=na/\1<nb/\na<X.size/\nb<=Y.size/\na+nb+v<=X.size+Y.size/\JH le (X.toList++Y.toList) X Y O na nb
def FE (o:Ord lt le)(hc:uX prog w A s κ it n lt){X Y:Array Nat}{Q:Array Keyed->SortSt->Prop}{st:SortSt}(hk:kindOf st=κ)(hx:∀i,i<X.size->at' X i<n)(hy:∀i,i<Y.size->at' Y i<n)
  (x1:1<=X.size) (y1:1<=Y.size) (sx:∀i j,i<=j->j<X.size->le (at' X i) (at' X j)) (sy:∀i j,i<=j->j<Y.size->le (at' Y i) (at' Y j)) (hf:∀i,i<X.size->le (at' Y 0) (at' X i)) (hl:∀i,i<Y.size->le (at' Y i) (at' X (X.size-1)))
  (h:∀R st',Same κ st st'->kg le (X.toList++Y.toList) R->Q (R.map (kas_item it)) st') :
  wpS (model prog w) A E s (G4 (X.map (kas_item it)) (Y.map (kas_item it))) Q st:=by
 have sm0:Same κ st st:=⟨hk,rfl,rfl,rfl⟩
 have fin:∀ {O:Array Keyed} {R},O=R.map (kas_item it)->∀ {st'},Same κ st st'->kg le (X.toList++Y.toList) R->Q O st':=fun e _ sm g=>e▸h _ _ sm g;have j0:JH le (X.toList++Y.toList) X Y #[] X.size Y.size:=by unfold JH;rw[Wl (by simp),Wl (by simp)];exact⟨by simpa using W3.mpr (Dy sx),by simpa using W3.mpr (Dy sy),by simpa using (List.reverse_perm X.toList).append (List.reverse_perm Y.toList)⟩
 have j1:JH le (X.toList++Y.toList) X Y #[at' X (X.size-1)] (X.size-1) Y.size:=j0.one x1 (TB _) fun i h2=>hl i h2;refine Tu (wpS_lift (Vl ⟨rfl,?_⟩));simp -zeta only[WI,UK];refine Tu (bO (X:=X) (k:=X.size-1) () (bE (fun e=>Tx (fin ?_ sm0 (j1.done2 e ()))) fun e1=>bE (fun e=>Tx (fin ?_ sm0 (j1.first e () () hf))) fun e2=>?_))
 ·simp[exm]
 ·simp[exm]
 refine Tu (UN (Tu (lJ (fun x c st2=>∃O na nb g,c=(none,na,nb,O.map (kas_item it),g)/\HI κ st le X Y (x+1) st2 O na nb) (fun c st2=>LR κ it st le X Y c.1 st2) ⟨#[at' X (X.size-1)],X.size-1,Y.size,_,by simp;rfl,sm0,(),(),(),(),(),j1⟩ ?s1 ?f1 ?p1)))
 case f1=>
  rintro c st2 ⟨O,na,nb,g,rfl,sm,la,lb,lx,ly,ls,j⟩;lia
 case p1=>
  rintro⟨c,c'⟩ st2 ⟨R,rfl,hR,sm⟩;exact Tx (h R st2 sm hR)
 rintro x c st2 QQ hD hY hx0 ⟨O,na,nb,g,rfl,L⟩;refine Tu (lJ (fun y c st2=>∃O na nb a b,c=(none,na,nb,O.map (kas_item it),a,b)/\HI κ st le X Y (x+1+y) st2 O na nb) (fun c st2=>LR κ it st le X Y c.1 st2\/∃O na nb a b,c=(none,na,nb,O.map (kas_item it),a,b)/\HI κ st le X Y (x+2) st2 O na nb) ⟨O,na,nb,0,0,rfl,L⟩ ?s2 ?f2 ?p2)
 case f2=>
  rintro c st2 ⟨O,na,nb,a,b,rfl,sm,la,lb,lx,ly,ls,j⟩;lia
 case s2=>
  clear hD hY;rintro y c st2 QQ hD hY hy0 ⟨O,na,nb,a,b,rfl,sm,la,lb,lx,ly,ls,j⟩;have la':na-1<X.size:=()
  have lb':nb-1<Y.size:=()
  refine Tu (bO lb' (Tu (bO la' (Tu (w_lt hc sm.1 (hy (nb-1) lb') (hx (na-1) la') ?_)))));dsimp -zeta only;cases cw:lt (at' Y (nb-1)) (at' X (na-1)) with
  |true=>
   have j2:=j.one la () fun i h1=>o.tr _ _ _ (sy i (nb-1) () lb') (o.yes _ _ cw);rw[Ts rfl];refine Tu (bO la' (bE (fun e=>Tx (hD _ _ (.inl ⟨_,?_,j2.done2 e ly,sm⟩))) fun e=>jP (Tx (hD _ _ (.inr ⟨_,na-1,nb,_,_,by rw[<- US],sm,(),lb,la',ly,(),j2⟩))) (Tx (hY _ _ ⟨_,na-1,nb,_,_,by rw[<- US],sm,(),lb,la',ly,(),j2⟩))));simp[Vm]
  |false=>have j2:JH le (X.toList++Y.toList) X Y (O.push (at' Y (nb-1))) na (nb-1):=(j.sy.one () () fun i h1=>o.tr _ _ _ (sx i (na-1) () la') (o.no _ _ cw)).sy;rw[Tr (by decide)];refine Tu (bO lb' (bE (fun e=>Tx (hD _ _ (.inl ⟨_,?_,j2.first e y1 () hf,sm⟩))) fun e=>jP (Tx (hD _ _ (.inr ⟨_,na,nb-1,_,_,by rw[<- US],sm,la,(),lx,(),(),j2⟩))) (Tx (hY _ _ ⟨_,na,nb-1,_,_,by rw[<- US],sm,la,(),lx,(),(),j2⟩))));simp[Vm]
 case p2=>
  clear L;rintro⟨c,c'⟩ st2 (⟨R,rfl,hR,sm⟩|⟨O,na,nb,a,b,hcc,L⟩)
  ·exact Tx (hD _ _ ⟨R,rfl,hR,sm⟩)
  cases hcc;refine Tu (wpS_lift (Vl ⟨rfl,Tu (lJ (fun y c st2=>∃O na nb m a b,c=(none,na,nb,O.map (kas_item it),m,a,b)/\HI κ st le X Y (x+2) st2 O na nb) (fun c st2=>LR κ it st le X Y c.1 st2\/∃O na nb m a b,c=(none,na,nb,O.map (kas_item it),m,a,b)/\HI κ st le X Y (x+2) st2 O na nb) ⟨O,na,nb,_,_,_,rfl,L⟩ ?s3 (fun _ _ h=>.inr h) ?p3)⟩))
  case p3=>
   rintro⟨c,c'⟩ st2 (⟨R,rfl,hR,sm⟩|⟨O,na,nb,m,a,b,hcc,sm,L⟩)
   ·exact Tx (hD _ _ ⟨R,rfl,hR,sm⟩)
   cases hcc;exact Tu (UI (Tx (hY _ _ ⟨O,na,nb,_,rfl,sm.g _,L⟩)))
  clear hD hY L;rintro y c st2 QQ hD hY hy0 ⟨O,na,nb,m,a,b,rfl,sm,la,lb,lx,ly,ls,j⟩;have dR:∀ {R' R t st2},R'=R.map (kas_item it)->Same κ st st2->kg le (X.toList++Y.toList) R->QQ (.done (some R',t)) st2:=fun e sm g=>hD _ _ (.inl ⟨_,T7 some e,g,sm⟩);have lb':nb-1<Y.size:=()
  dsimp -zeta only
  extract_lets -underBinder s1 na2 s2 nb2 s3 out s4 mg s5 ac bc jp
  refine DN fun g=>?_;replace sm:=sm.g g;refine Tu (UI (Tu (bO lb' (Tu (jr o hc sm.1 hx (hy (nb-1) lb') (show 0+na<=X.size by lia) (show na-1<na by lia) (fun i k h1 h2=>sx (0+i) (0+k) () (show 0+k<X.size by change k<na at h2;lia)) fun k k1 k2 k3=>?_)))));simp only[U7] at k2 k3;change k<=na at k1;dsimp -zeta only
  extract_lets -underBinder kk ac2 jp2
  refine ym (jp:=jp2) (fun i O'=>∃O,O'=O.map (kas_item it)/\1<=i/\i<X.size/\i+nb+(x+2)<=X.size+Y.size/\JH le (X.toList++Y.toList) X Y O i nb/\∀l,l<i->le (at' X l) (at' Y (nb-1))) ?_ fun hj=>?_
  ·rintro i O' ⟨O,rfl,la,lx,ls,j,ky⟩;have j2:JH le (X.toList++Y.toList) X Y (O.push (at' Y (nb-1))) i (nb-1):=(j.sy.one () () ky).sy;have li:i-1<X.size:=()
   refine Tu (bO lb' (bE (fun e=>Tx (dR ?_ sm (j2.first e y1 () hf))) fun e=>Tu (bO li (Tu (jr o hc sm.1 hy (hx (i-1) li) (show 0+(nb-1)<=Y.size by lia) (show nb-1-1<nb-1 by lia) (fun i k h1 h2=>sy (0+i) (0+k) () (show 0+k<Y.size by change k<nb-1 at h2;lia)) fun k k1 k2 k3=>?_)))))
   ·simp +zetaDelta [Vm]
   simp only[U7] at k2 k3;change k<=nb-1 at k1;dsimp -zeta only
   extract_lets -underBinder kk bc2 jp3
   refine ym (jp:=jp3) (fun l O'=>∃O,O'=O.map (kas_item it)/\1<l/\l<nb/\JH le (X.toList++Y.toList) X Y O i l/\∀i',i'<l->le (at' Y i') (at' X (i-1))) ?_ fun hj=>?_
   ·rintro l O' ⟨O,rfl,lb,lc,j,ky⟩;have j2:=j.one la () ky;refine Tu (bO li (bE (fun e=>Tx (dR ?_ sm (j2.done2 e ()))) fun e=>jP (Tx (hD _ _ (.inr ⟨_,i-1,l,_,_,_,by rw[<- US],sm,(),lb,li,(),(),j2⟩))) (Tx (hY _ _ ⟨_,i-1,l,_,_,_,by rw[<- US],sm,(),lb,li,(),(),j2⟩))));simp[Vm]
   have j3:JH le (X.toList++Y.toList) X Y (O.push (at' Y (nb-1))++(Y.extract k (nb-1)).reverse) i k:=(j2.sy.blk () () fun i' l h1 h2 h3=>o.tr _ _ _ (sx l (i-1) () li) (k3 i' h1 h2)).sy;refine bE (fun k0=>bE (fun e=>Tx (dR ?_ sm (j3.first e y1 () hf))) fun e=>bE (fun e2=>Tx (dR ?_ sm (j3.done1 e2 ()))) fun e2=>hj _ _ ⟨_,?_,show 1<k by change ¬k=1 at e;change ¬k=0 at e2;lia,(),j3,k2⟩) fun k0=>hj _ _ ⟨O.push (at' Y (nb-1)),?_,show 1<nb-1 by change ¬nb-1=1 at e;lia,show nb-1<nb by lia,j2,fun l h1=>k2 l (show l<k by change l<nb-1 at h1;change ¬nb-1-k > 0 at k0;lia)⟩
   ·simp +zetaDelta [Vm]
   ·simp +zetaDelta [Vm]
   ·simp +zetaDelta [Vm]
   ·simp +zetaDelta
  have j3:=j.blk (m:=k) k1 () fun i l h1 h2 h3=>o.tr _ _ _ (sy l (nb-1) () lb') (k3 i h1 h2);refine bE (fun k0=>bE (fun e=>Tx (dR ?_ sm (j3.done2 e ly))) fun e=>hj _ _ ⟨_,?_,Nat.pos_of_ne_zero e,show k<X.size by lia,show k+nb+(x+2)<=X.size+Y.size by lia,j3,k2⟩) fun k0=>hj _ _ ⟨O,rfl,la,lx,ls,j,fun l h1=>k2 l (show l<k by change l<na at h1;change ¬na-k > 0 at k0;lia)⟩
  ·simp +zetaDelta [Vm]
  ·simp +zetaDelta [Vm]
end
section
variable {α:Type}
theorem HB (lo:Nat):∀(R:List α) (p:Array α) (j:Nat),lo+j+R.length<=p.size->((R.zipIdx j).foldl (fun a x=>a.setIfInBounds (lo+x.2) x.1) p).toList=p.toList.take (lo+j)++R++p.toList.drop (lo+j+R.length)
 |[],p,j,_=>by simp
 |r::R,p,j,h=>by
  have hl:lo+j<p.toList.length:=by simp at h ⊢;lia
  rw[List.zipIdx_cons,Vx,HB lo R _ (j+1) (by simp at h ⊢;lia)];have e1:(p.setIfInBounds (lo+j) r).toList=p.toList.set (lo+j) r:=by simp
  have e2:(p.toList.set (lo+j) r).take (lo+(j+1))=p.toList.take (lo+j)++[r]:=by rw[<- Nat.add_assoc,List.take_succ_eq_append_getElem (by simpa using hl),List.take_set_of_le (TB _)];simp
  have e3:(p.toList.set (lo+j) r).drop (lo+(j+1)+R.length)=p.toList.drop (lo+j+(r::R).length):=by rw[List.drop_set_of_lt (),TF];congr 1;lia
  rw[e1,e2,e3];simp
end
section
variable {prog:Program}{w:World}{A:Around}{E:Xs}{s:Shared}{κ:SortKind}{it:Array Keyed}{n:Nat}{lt:Nat->Nat->Bool}{le:Nat->Nat->Prop}
def Stt (κ:SortKind)(it:Array Keyed)(st:SortSt)(p:Array Nat)(pend:Array (Nat×Nat×Nat)):Prop:=kindOf st=κ/\arrOf st=p.map (kas_item it)/\pendingOf st=pend/\failedOf st=none
structure Srtd (le:Nat->Nat->Prop) (p p':Array Nat) (lo hi:Nat):Prop where
 perm:p'.Perm p
 out:∀k,k<lo\/hi<=k->at' p' k=at' p k
 asc:∀i j,lo<=i->i<=j->j<hi->le (at' p' i) (at' p' j)
def K5 {σ:Type}  {x:σ}{Q:PUnit->σ->Prop}{st:σ}(h:Q ⟨⟩ x):wpS M A E s (set x:StateT σ Sem PUnit) Q st:=by unfold wpS;rw[StateT.run_set];exact Tt ⟨rfl,h⟩
def Qu (l:List Nat)(k:Nat):at' l.toArray k=(l[k]?).getD 0:=by simp[at']
def LP (p:Array Nat)(k:Nat):at' p k=(p.toList[k]?).getD 0:=by simp[at']
def B3 {p:Array Nat}{R:List Nat}{lo:Nat}(h:lo+R.length<=p.size)(k:Nat):at' (p.toList.take lo++R++p.toList.drop (lo+R.length)).toArray k=if lo<=k/\k<lo+R.length then (R[k-lo]?).getD 0 else at' p k:=by
 rw[Qu,LP];have hl:(p.toList.take lo).length=lo:=by rw[VN];simp;lia
 by_cases h1:k<lo
 ·rw[Tr (),Ue,VO (),WH,Ts h1]
 ·by_cases h2:k<lo+R.length
  ·rw[Ts ⟨(),h2⟩,Ue,Vs (),hl,VO ()]
  ·rw[Tr (),Vs (by rw[Tz,hl];lia),Tz,hl,Wk];congr 2;lia
def HD {p:Array Nat}{R:List Nat}{lo:Nat}(h:R.Perm (p.extract lo (lo+R.length)).toList):(p.toList.take lo++R++p.toList.drop (lo+R.length)).toArray.Perm p:=by rw[VZ];show (p.toList.take lo++R++p.toList.drop (lo+R.length)).Perm p.toList;refine ((h.append_left _).append_right _).trans ?_;rw[<- kY (),WG]
def F7 {p:Array Nat}{i j k:Nat}(h:i+k<j):at' (p.extract i j) k=at' p (i+k):=by rw[LP,LP,Wi,Wj,WH,Ts (),Wk]
def Au {p:Array Nat}{i j:Nat}(h:j<=p.size):(p.extract i j).size=j-i:=by simp;lia
def FD (o:Ord lt le)(hc:uX prog w A s κ it n lt){i sa na pw sb nb q:Nat}  {pend:Array (Nat×Nat×Nat)}{Q:Bool->SortSt->Prop}{st:SortSt}(S:Stt κ it st p pend)(h1:pend[i]?=some (sa,na,pw))(h2:pend[i+1]?=some (sb,nb,q))
  (hsb:sb=sa+na) (na1:1<=na) (nb1:1<=nb) (hz:sb+nb<=p.size) (hp:∀i,i<p.size->at' p i<n) (sA:∀i j,i<=j->j<na->le (at' p (sa+i)) (at' p (sa+j))) (sB:∀i j,i<=j->j<nb->le (at' p (sb+i)) (at' p (sb+j)))
  (h:∀p' st',Stt κ it st' p' ((pend.setIfInBounds i (sa,na+nb,pw)).eraseIdxIfInBounds (i+1))->Srtd le p p' sa (sa+(na+nb))->Q true st'):wpS (model prog w) A E s (mergeAt' i) Q st:=by
 obtain⟨S1,S2,S3,S4⟩:=S;refine Tu (UN ?_);have S3':(sortPriv% PySem.Builtin.SortState.pending) st=pend:=S3;have S2':(sortPriv% PySem.Builtin.SortState.a) st=p.map (kas_item it):=S2;rw[S3',h1,h2];refine Tu (K5 ?_);rw[S2'];generalize hst:(sortPriv% PySem.Builtin.SortState.mk) _ _ _ _ _=st2;have T:Stt κ it st2 p ((pend.setIfInBounds i (sa,na+nb,pw)).eraseIdxIfInBounds (i+1)):=by subst hst;exact⟨S1,rfl,rfl,S4⟩
 clear hst S1 S2 S3 S4 S2' S3' h1 h2;generalize ((pend.setIfInBounds i (sa,na+nb,pw)).eraseIdxIfInBounds (i+1))=pend2 at T h;have sA':∀i j,sa<=i->i<=j->j<sb->le (at' p i) (at' p j):=fun i j a1 a2 a3=>by have:=sA (i-sa) (j-sa) () ();rwa[show sa+(i-sa)=i by lia,show sa+(j-sa)=j by lia] at this
 have sB':∀i j,sb<=i->i<=j->j<sb+nb->le (at' p i) (at' p j):=fun i j a1 a2 a3=>by have:=sB (i-sb) (j-sb) () ();rwa[show sb+(i-sb)=i by lia,show sb+(j-sb)=j by lia] at this
 refine Tu (bO () ?_);refine Tu (jr o hc T.1 hp (hp sb ()) () () sA fun k k1 k2 k3=>?_);have k2':∀i,sa<=i->i<sa+k->le (at' p i) (at' p sb):=fun i a1 a2=>by have:=k2 (i-sa) ();rwa[show sa+(i-sa)=i by lia] at this
 have k3':∀i,sa+k<=i->i<sb->le (at' p sb) (at' p i):=fun i a1 a2=>by have:=k3 (i-sa) () ();rwa[show sa+(i-sa)=i by lia] at this
 clear k2 k3;dsimp only;simp only[UK];by_cases e1:na-k=0
 ·rw[Ts e1];refine Tx (h p st2 T ⟨.refl _,fun _ _=>rfl,fun i j a1 a2 a3=>?_⟩);by_cases b1:j<sb
  ·exact sA' i j a1 a2 b1
  ·by_cases b2:sb<=i
   ·exact sB' i j b2 a2 ()
   ·exact o.tr _ _ _ (k2' i a1 ()) (sB' sb j (TB _) () ())
 rw[Tr e1];refine Tu (bO () ?_);have e2:sa+k+(na-k)-1=sb-1:=()
 rw[e2];refine Tu (jr o hc T.1 hp (hp (sb-1) ()) () () sB fun m m1 k2 k3=>?_);have m2':∀i,sb<=i->i<sb+m->le (at' p i) (at' p (sb-1)):=fun i a1 a2=>by have:=k2 (i-sb) ();rwa[show sb+(i-sb)=i by lia] at this
 have m3':∀i,sb+m<=i->i<sb+nb->le (at' p (sb-1)) (at' p i):=fun i a1 a2=>by have:=k3 (i-sb) () ();rwa[show sb+(i-sb)=i by lia] at this
 clear k2 k3;dsimp only;by_cases e3:m=0
 ·rw[Ts e3];subst e3;refine Tx (h p st2 T ⟨.refl _,fun _ _=>rfl,fun i j a1 a2 a3=>?_⟩);by_cases b1:j<sb
  ·exact sA' i j a1 a2 b1
  ·by_cases b2:sb<=i
   ·exact sB' i j b2 a2 ()
   ·exact o.tr _ _ _ (sA' i (sb-1) a1 () ()) (m3' j () ())
 rw[Tr e3];generalize hr:na-k=r;have hr1:na=k+r:=()
 have hr0:0<r:=()
 clear hr e1 e2;have zx:(p.extract (sa+k) sb).size=r:=by rw[Au ()];lia
 have zy:(p.extract sb (sb+m)).size=m:=by rw[Au ()];lia
 have ax:∀i,i<r->at' (p.extract (sa+k) sb) i=at' p (sa+k+i):=fun i hi=>F7 ();have ay:∀i,i<m->at' (p.extract sb (sb+m)) i=at' p (sb+i):=fun i hi=>F7 ();have exy:(p.extract (sa+k) sb).toList++(p.extract sb (sb+m)).toList=(p.extract (sa+k) (sb+m)).toList:=by have a1:=kY (X:=p) (i:=sa+k) (j:=sb) ();have a2:=kY (X:=p) (i:=sb) (j:=sb+m) ();have a3:=kY (X:=p) (i:=sa+k) (j:=sb+m) ();rw[a1,a3,Ue] at a2;exact (List.append_cancel_left a2).symm
 have key:∀R:Array Nat,kg le ((p.extract (sa+k) sb).toList++(p.extract sb (sb+m)).toList) R->R.toList.length=r+m/\Srtd le p (p.toList.take (sa+k)++R.toList++p.toList.drop (sa+k+R.toList.length)).toArray sa (sa+(na+nb)):=fun R g=>by
  have hlen:R.toList.length=r+m:=by rw[g.2.length_eq,Tz,T6,T6,zx,zy]
  refine⟨hlen,?_,fun i hi=>?_,fun i j a1 a2 a3=>?_⟩
  ·refine HD ?_;rw[hlen,show sa+k+(r+m)=sb+m by lia,<- exy];exact g.2
  ·rw[B3 (),Tr ()]
  ·rw[B3 (),B3 (),hlen];have memR:∀i,i<r+m->∃c,(R.toList[i]?).getD 0=at' p c/\((sa+k<=c/\c<sb)\/(sb<=c/\c<sb+m)):=fun i hi=>by
    have hi':i<R.toList.length:=()
    have hm:R.toList[i]∈R.toList:=V0 hi';have e:(R.toList[i]?).getD 0=R.toList[i]:=by rw[Ua hi'];rfl
    rw[e];rcases TH.mp (g.2.mem_iff.mp hm) with hm|hm
    ·obtain⟨c,c1,c2,c3,c4⟩:=rP hm;exact⟨c,c4.symm,.inl ⟨c1,c2⟩⟩
    ·obtain⟨c,c1,c2,c3,c4⟩:=rP hm;exact⟨c,c4.symm,.inr ⟨c1,c2⟩⟩
   by_cases b1:sa+k<=i/\i<sa+k+(r+m)
   ·rw[Ts b1];by_cases b2:sa+k<=j/\j<sa+k+(r+m)
    ·rw[Ts b2];by_cases b3:i=j
     ·subst b3;exact o.rf _
     ·have:=U5.mp g.1 (i-(sa+k)) (j-(sa+k)) () () ();rw[Ua (),Ua ()];exact this
    ·rw[Tr b2];obtain⟨c,c1,c2⟩:=memR (i-(sa+k)) ();rw[c1];rcases c2 with c2|c2
     ·exact o.tr _ _ _ (sA' c (sb-1) () () ()) (m3' j () ())
     ·exact sB' c j () () ()
   ·rw[Tr b1];by_cases b2:sa+k<=j/\j<sa+k+(r+m)
    ·rw[Ts b2];obtain⟨c,c1,c2⟩:=memR (j-(sa+k)) ();rw[c1];rcases c2 with c2|c2
     ·exact sA' i c () () ()
     ·exact o.tr _ _ _ (k2' i () ()) (sB' sb c (TB _) () ())
    ·rw[Tr b2];by_cases b3:j<sb
     ·exact sA' i j a1 a2 b3
     ·by_cases b4:sb<=i
      ·exact sB' i j b4 a2 ()
      ·exact o.tr _ _ _ (k2' i a1 ()) (sB' sb j (TB _) () ())
 have fin:∀(R:Array Nat) (st3:SortSt),Same κ st2 st3->kg le ((p.extract (sa+k) sb).toList++(p.extract sb (sb+m)).toList) R ->
   Q (failedOf st3).isNone (setArr st3 ((R.map (kas_item it)).toList.zipIdx.foldl (fun a x=>a.setIfInBounds (sa+k+x.2) x.1) (arrOf st3))):=fun R st3 sm g=>by
  obtain⟨hlen,S⟩:=key R g;have ea:arrOf st3=p.map (kas_item it):=sm.2.1.trans T.2.1;have ef:failedOf st3=none:=sm.2.2.2.trans T.2.2.2;rw[ef];refine h _ _ ⟨sm.1,?_,sm.2.2.1.trans T.2.2.1,ef⟩ S;show (R.map (kas_item it)).toList.zipIdx.foldl (fun a x=>a.setIfInBounds (sa+k+x.2) x.1) (arrOf st3)=_;rw[ea];apply Array.toList_inj.mp;rw[HB (sa+k) _ _ 0 (by simp at hlen ⊢;lia)];simp
 have cx:(p.map (kas_item it)).extract (sa+k) sb=(p.extract (sa+k) sb).map (kas_item it):=by simp
 have cy:(p.map (kas_item it)).extract sb (sb+m)=(p.extract sb (sb+m)).map (kas_item it):=by simp
 rw[cx,cy];have hx:∀i,i<(p.extract (sa+k) sb).size->at' (p.extract (sa+k) sb) i<n:=fun i hi=>by rw[ax i ()];exact hp _ ()
 have hy:∀i,i<(p.extract sb (sb+m)).size->at' (p.extract sb (sb+m)) i<n:=fun i hi=>by rw[ay i ()];exact hp _ ()
 have sx:∀i j,i<=j->j<(p.extract (sa+k) sb).size->le (at' (p.extract (sa+k) sb) i) (at' (p.extract (sa+k) sb) j):=fun i j a1 a2=>by rw[ax i (),ax j ()];exact sA' _ _ () () ()
 have sy:∀i j,i<=j->j<(p.extract sb (sb+m)).size->le (at' (p.extract sb (sb+m)) i) (at' (p.extract sb (sb+m)) j):=fun i j a1 a2=>by rw[ay i (),ay j ()];exact sB' _ _ () () ()
 have hf:∀i,i<(p.extract (sa+k) sb).size->le (at' (p.extract sb (sb+m)) 0) (at' (p.extract (sa+k) sb) i):=fun i a1=>by rw[ay 0 (),ax i ()];exact k3' _ () ()
 have hl:∀i,i<(p.extract sb (sb+m)).size->le (at' (p.extract sb (sb+m)) i) (at' (p.extract (sa+k) sb) ((p.extract (sa+k) sb).size-1)):=fun i a1=>by rw[zx,ay i (),ax _ (),show sa+k+(r-1)=sb-1 by lia];exact m2' _ () ()
 by_cases e4:r<=m
 ·rw[Ts e4];refine Tu (FF o hc T.1 hx hy () () sx sy hf hl fun R st3 sm g=>?_);exact Tu (UI (Tu (UN (Tx (fin R st3 sm g)))))
 ·rw[Tr e4];refine Tu (FE o hc T.1 hx hy () () sx sy hf hl fun R st3 sm g=>?_);exact Tu (UI (Tu (UN (Tx (fin R st3 sm g)))))
end
section
variable {le:Nat->Nat->Prop}{lt:Nat->Nat->Bool}{p p' p2:Array Nat}{a b c:Nat}
def Up (le:Nat->Nat->Prop)(p:Array Nat)(a b:Nat):Prop:=∀i j,a<=i->i<=j->j<b->le (at' p i) (at' p j)
def Dn (le:Nat->Nat->Prop)(p:Array Nat)(a b:Nat):Prop:=∀i j,a<=i->i<=j->j<b->le (at' p j) (at' p i)
def Es (le:Nat->Nat->Prop)(p:Array Nat)(a b:Nat):Prop:=∀k,a<=k->k<b->le (at' p k) (at' p (b-1))/\le (at' p (b-1)) (at' p k)
def Near (p p':Array Nat)(lo hi:Nat):Prop:=p'.Perm p/\∀k,k<lo\/hi<=k->at' p' k=at' p k
def Near.rf:Near p p a b:=⟨.refl _,fun _ _=>rfl⟩
def Near.tr (h:Near p p' a b)(h2:Near p' p2 a b):Near p p2 a b:=⟨h2.1.trans h.1,fun k hk=>(h2.2 k hk).trans (h.2 k hk)⟩
def Near.wide {d e:Nat}(h:Near p p' a b)(h1:d<=a)(h2:b<=e):Near p p' d e:=⟨h.1,fun k hk=>h.2 k ()⟩
theorem Near.size (h:Near p p' a b):p'.size=p.size:=h.1.size_eq
def oy (h:b<=p.size):Near p (kas_rev p a b) a b:=⟨mirror_perm _ _ _ _,fun k hk=>by rw[cZ h,Tr ()]⟩
def zI {d:Nat}(h:b<p.size)(hd:d<=b):Near p (bubble p b d) (b-d) (b+1):=⟨bubble_perm _ _ _,fun k hk=>by rw[o5 h hd,Tr (),Tr ()]⟩
def Up.succ (o:Ord lt le)(h:Up le p a b)(hab:a<b)(hl:le (at' p (b-1)) (at' p b)):Up le p a (b+1):=fun i j h1 h2 h3=>by
 by_cases e:j=b
 ·subst e;by_cases e2:i=j
  ·subst e2;exact o.rf _
  ·exact o.tr _ _ _ (h i (j-1) h1 () ()) hl
 ·exact h i j h1 h2 ()
def Dn.succ (o:Ord lt le)(h:Dn le p a b)(hab:a<b)(hl:le (at' p b) (at' p (b-1))):Dn le p a (b+1):=fun i j h1 h2 h3=>by
 by_cases e:j=b
 ·subst e;by_cases e2:i=j
  ·subst e2;exact o.rf _
  ·exact o.tr _ _ _ hl (h i (j-1) h1 () ())
 ·exact h i j h1 h2 ()
def NO (o:Ord lt le):Up le p a (a+1):=fun i j h1 h2 h3=>by
 have:i=j:=()
 subst this;exact o.rf _
def Up.of (h:Up le p a b)(k:∀i,a<=i->i<b->at' p' i=at' p i):Up le p' a b:=fun i j h1 h2 h3=>by rw[k i h1 (),k j () h3];exact h i j h1 h2 h3
def Dn.rev (o:Ord lt le)(h:Dn le p a b)(hb:b<=p.size)(hc:a<=c)(he:Es le p c b):Dn le (kas_rev p c b) a b:=by
 have key:∀k,a<=k->k<b->∃k',a<=k'/\k'<b/\at' (kas_rev p c b) k=at' p k'/\le (at' p k') (at' p k)/\le (at' p k) (at' p k'):=fun k hk0 hk=>by
  rw[cZ hb];split
  ·rename_i h1;refine⟨c+b-1-k,(),(),rfl,?_⟩;obtain⟨a1,a2⟩:=he k h1.1 hk;obtain⟨b1,b2⟩:=he (c+b-1-k) () ();exact⟨o.tr _ _ _ b1 a2,o.tr _ _ _ a1 b2⟩
  ·exact⟨k,hk0,hk,rfl,o.rf _,o.rf _⟩
 intro i j h0 hij hj;obtain⟨i',_,_,e1,x1,x2⟩:=key i h0 ();obtain⟨j',_,_,e2,y1,y2⟩:=key j () hj;rw[e1,e2];exact o.tr _ _ _ y1 (o.tr _ _ _ (h i j h0 hij hj) x2)
def Dn.turn (h:Dn le p a b)(hb:b<=p.size):Up le (kas_rev p a b) a b:=by intro i j h0 hij hj;rw[cZ hb,cZ hb,Ts ⟨h0,()⟩,Ts ⟨(),hj⟩];exact h _ _ () () ()
def Bn (o:Ord lt le)(h:a+1=b):Es le p a b:=fun k h1 h2=>by
 have:k=b-1:=()
 subst this;exact⟨o.rf _,o.rf _⟩
end
section
variable {prog:Program}{w:World}{A:Around}{E:Xs}{s:Shared}{κ:SortKind}{it:Array Keyed}{n:Nat}{lt:Nat->Nat->Bool}{le:Nat->Nat->Prop}{p:Array Nat}{pend:Array (Nat×Nat×Nat)}{st:SortSt}
def qq (hc:uX prog w A s κ it n lt)(S:Stt κ it st p pend)(hp:∀i,i<p.size->at' p i<n){i j:Nat}{Q:Option Bool->SortSt->Prop}(hi:i<p.size)(hj:j<p.size)(h:Q (some (lt (at' p i) (at' p j))) st):wpS (model prog w) A E s (ltAt' i j) Q st:=by rw[ltAt'_eq];refine Tu (UN ?_);dsimp only;rw[S.2.1];exact Tu (bO hi (Tu (bO hj (w_lt hc S.1 (hp _ hi) (hp _ hj) h))))
def DM (S:Stt κ it st p pend){i j:Nat}{Q:Unit->SortSt->Prop}(h:∀st',Stt κ it st' (kas_rev p i j) pend->Q Unit.unit st'):wpS (model prog w) A E s (reverseSlice' i j) Q st:=by rw[reverseSlice'_eq];refine UI (h _ ⟨S.1,?_,S.2.2⟩);show mirror (arrOf st) i j ((j-i) / 2)=_;rw[S.2.1];exact kas_swaps_map (kas_item it) (fun k=>i+k) (fun k=>j-1-k) _ p
def NR (S:Stt κ it st p pend){i j:Nat}{Q:Unit->SortSt->Prop}(h:∀st',Stt κ it st' (bubble p i (i-j)) pend->Q Unit.unit st'):wpS (model prog w) A E s (moveDown' i j) Q st:=by rw[moveDown'_eq];refine UI (h _ ⟨S.1,?_,S.2.2⟩);show bubble (arrOf st) i (i-j)=_;rw[S.2.1];exact kas_swaps_map (kas_item it) (fun k=>i-k) (fun k=>i-k-1) _ p
def P6 (o:Ord lt le)(hc:uX prog w A s κ it n lt)(S:Stt κ it st p pend)(hp:∀p':Array Nat,p'.Perm p->∀i,i<p'.size->at' p' i<n){lo m ok:Nat}{Q:Bool->SortSt->Prop}(hz:lo+m<=p.size)(hok:ok<=m)(ok1:1<=ok)(hs:Up le p lo (lo+ok))
  (h:∀p' st',Stt κ it st' p' pend->Near p p' lo (lo+m)->Up le p' lo (lo+m)->Q true st'):wpS (model prog w) A E s (binarySort' lo m ok) Q st:=by
 refine Tu (UG (UH (I:=fun k c st'=>c=(none,Unit.unit)/\∃p',Stt κ it st' p' pend/\Near p p' lo (lo+m)/\Up le p' lo (lo+min k m))
  (Q:=fun c st'=>c=(none,Unit.unit)/\∃p',Stt κ it st' p' pend/\Near p p' lo (lo+m)/\Up le p' lo (lo+m)) ?step ?fin ?init) ?post)
 case post=>
  rintro c st' ⟨rfl,p',S',N,U⟩;exact Tx (h p' st' S' N U)
 case init=>exact⟨rfl,p,S,.rf,by rw[show min (max ok 1) m=ok by lia];exact hs⟩
 case fin=>
  rintro c st' ⟨hc',p',S',N,U⟩;exact⟨hc',p',S',N,by rwa[show min (max (max ok 1) m) m=m by lia] at U⟩
 case step=>
  rintro k c st' hak hkn ⟨rfl,p',S',N,U⟩;rw[show min k m=k by lia] at U;have hsz:=N.size;have hk1:1<=k:=()
  have hkm:k<m:=()
  clear hak hkn hok ok1 hs
  refine Tu (UG (UH (I:=fun x c st''=>st''=st'/\∃l r,c=(none,l,r)/\l<=r/\r<=k/\r-l<=k-x /\
    (∀i,i<l->le (at' p' (lo+i)) (at' p' (lo+k)))/\(∀i,r<=i->i<k->le (at' p' (lo+k)) (at' p' (lo+i))))
   (Q:=fun c st''=>st''=st'/\∃l r,c=(none,l,r)/\l<=k /\
    (∀i,i<l->le (at' p' (lo+i)) (at' p' (lo+k)))/\(∀i,l<=i->i<k->le (at' p' (lo+k)) (at' p' (lo+i)))) ?istep ?ifin ?iinit) ?ipost)
  case iinit=>exact⟨rfl,0,k,rfl,(),(),(),fun i hi=>(),fun i h1 h2=>()⟩
  case ifin=>
   rintro c st'' ⟨rfl,l,r,rfl,hlr,hrk,hm,hlo,hhi⟩;have:l=r:=()
   subst this;exact⟨rfl,l,l,rfl,hrk,hlo,hhi⟩
  case istep=>
   rintro x c st'' _ hxk ⟨rfl,l,r,rfl,hlr,hrk,hm,hlo,hhi⟩;dsimp only;by_cases hge:l ≥ r
   ·rw[Ts hge];have:l=r:=()
    subst this;exact Tx ⟨rfl,l,l,rfl,hrk,hlo,hhi⟩
   ·rw[Tr hge];refine Tu (qq hc S' (hp _ N.1) () () ?_);dsimp only;cases cw:lt (at' p' (lo+k)) (at' p' (lo+(l+r) / 2)) with
    |true=>
     rw[Ts rfl];exact Tx ⟨rfl,l,(l+r) / 2,rfl,(),(),(),hlo,fun i h1 h2=>o.tr _ _ _ (o.yes _ _ cw) (U _ _ () () ())⟩
    |false=>rw[Tr (by decide)];exact Tx ⟨rfl,(l+r) / 2+1,r,rfl,(),(),(),fun i h1=>o.tr _ _ _ (U _ _ () () ()) (o.no _ _ cw),hhi⟩
  case ipost=>
   rintro c st'' ⟨rfl,l,r,rfl,hlk,hlo,hhi⟩;dsimp only;refine Tu (NR S' fun st3 S3=>Tx ⟨rfl,_,S3,N.tr ((zI () ()).wide () ()),?_⟩);rw[show min (k+1) m=k+1 by lia,show lo+k-(lo+l)=k-l by lia];intro i j h1 h2 h3;rw[o5 () (),o5 () ()];rw[show lo+k-(k-l)=lo+l by lia];by_cases i1:i=lo+l
   ·rw[Ts i1];by_cases j1:j=lo+l
    ·rw[Ts j1];exact o.rf _
    ·rw[Tr j1];rw[Ts ()];have:=hhi (j-1-lo) () ();rwa[show lo+(j-1-lo)=j-1 by lia] at this
   ·rw[Tr i1];by_cases j1:j=lo+l
    ·rw[Ts j1,Tr ()];have:=hlo (i-lo) ();rwa[show lo+(i-lo)=i by lia] at this
    ·rw[Tr j1];by_cases i2:lo+l<i/\i<=lo+k
     ·rw[Ts i2,Ts ()];exact U _ _ () () ()
     ·rw[Tr i2];by_cases j2:lo+l<j/\j<=lo+k
      ·rw[Ts j2];exact U _ _ () () ()
      ·rw[Tr j2];exact U _ _ () () ()
end
section
variable {prog:Program}{w:World}{A:Around}{E:Xs}{s:Shared}{κ:SortKind}{it:Array Keyed}{n:Nat}{lt:Nat->Nat->Bool}{le:Nat->Nat->Prop}{p:Array Nat}{pend:Array (Nat×Nat×Nat)}{st:SortSt}
def IU {σ α:Type}{M:Model}{jp:Unit->StateT σ Sem α}{m:StateT σ Sem α}{Q:α->σ->Prop}{st:σ}(P:σ->Prop)(h:∀st,P st->wpS M A E s (jp Unit.unit) Q st)(k:(∀st,P st->wpS M A E s (jp Unit.unit) Q st)->wpS M A E s m Q st):wpS M A E s m Q st:=k h
def K2 (o:Ord lt le)(hc:uX prog w A s κ it n lt)(S:Stt κ it st p pend)(hp:∀p':Array Nat,p'.Perm p->∀i,i<p'.size->at' p' i<n){lo nrem:Nat}{Q:Option Nat->SortSt->Prop}(h1:1<=nrem)(hz:lo+nrem<=p.size)
  (h:∀m p' st',Stt κ it st' p' pend->1<=m->m<=nrem->Near p p' lo (lo+m)->Up le p' lo (lo+m)->Q (some m) st'):wpS (model prog w) A E s (countRun' lo nrem) Q st:=by
 refine Tu (UG (UH (I:=fun x c st'=>st'=st/\c=(none,x)/\x<=nrem/\Up le p lo (lo+x))
  (Q:=fun c st'=>st'=st/\∃m,c=(none,m)/\1<=m/\m<=nrem/\Up le p lo (lo+m)/\(m<nrem->le (at' p (lo+m)) (at' p (lo+m-1)))) ?s1 ?f1 ?i1) ?p1)
 case i1=>exact⟨rfl,rfl,h1,NO o⟩
 case f1=>
  rintro c st' ⟨rfl,rfl,k1,k2⟩;exact⟨rfl,_,rfl,(),k1,k2,fun _=>()⟩
 case s1=>
  rintro x c st' hx0 hx ⟨rfl,rfl,k1,k2⟩;dsimp only;refine Tu (qq hc S (hp p (.refl _)) () () ?_);dsimp only;cases cw:lt (at' p (lo+x)) (at' p (lo+x-1)) with
  |true=>
   rw[Ts rfl];exact Tx ⟨rfl,x,rfl,hx0,k1,k2,fun _=>o.yes _ _ cw⟩
  |false=>rw[Tr (by decide)];exact Tx ⟨rfl,rfl,(),Up.succ (b:=lo+x) o k2 () (o.no _ _ cw)⟩
 case p1=>
  rintro c st' ⟨rfl,m,rfl,m1,m2,U,hd⟩;dsimp -zeta only
  extract_lets -underBinder r n
  change wpS (model prog w) A E s (ite _ _ _) Q st';refine bE (fun e=>Tx (h m p st' S m1 m2 .rf U)) fun e=>?_;have e1':m<nrem:=by change ¬(m==nrem)=true at e;simp at e;lia
  clear e
  extract_lets -underBinder jp
  refine IU (jp:=jp) (fun st=>∃px,Stt κ it st px pend/\Dn le px lo (lo+(m+1))/\Near p px lo (lo+(m+1))) ?_ fun hj=>?_
  ·rintro stx ⟨px,Sx,Dx,Nx⟩;refine Tu (wpS_lift (Vl ⟨rfl,?_⟩))
   refine Tu (UG (UH (I:=fun x c st'=>∃q p',c=(none,x,q)/\Stt κ it st' p' pend/\Near p p' lo (lo+x)/\x<=nrem/\q+1<=x/\Dn le p' lo (lo+x)/\Es le p' (lo+x-(q+1)) (lo+x))
    (Q:=fun c st'=>∃x q p',c=(none,x,q)/\m+1<=x/\Stt κ it st' p' pend/\Near p p' lo (lo+x)/\x<=nrem/\q+1<=x/\Dn le p' lo (lo+x)/\Es le p' (lo+x-(q+1)) (lo+x)) ?s2 ?f2 ?i2) ?p2)
   case i2=>exact⟨0,px,rfl,Sx,Nx,by show m+1<=nrem;lia,by show 0+1<=m+1;lia,Dx,Bn o (by show lo+(m+1)-(0+1)+1=lo+(m+1);lia)⟩
   case f2=>
    rintro c st' ⟨q,p',rfl,S',N',k1,k2,D',E'⟩;exact⟨_,q,p',rfl,by show m+1<=max (m+1) nrem;lia,S',N',k1,k2,D',E'⟩
   case s2=>
    rintro x c st' hx0 hx ⟨q,p',rfl,S',N',k1,k2,D',E'⟩;dsimp only;have hs2:=N'.size;refine Tu (qq hc S' (hp _ N'.1) () () ?_);dsimp only;cases cw:lt (at' p' (lo+x)) (at' p' (lo+x-1)) with
    |true=>
     rw[Ts rfl];have hl:=o.yes _ _ cw;by_cases q0:q > 0
     ·rw[Ts q0];refine Tu (DM S' fun st4 S4=>Tx ?_);have d1:=D'.rev o () () E';have b1:at' (kas_rev p' (lo+x-(q+1)) (lo+x)) (lo+x)=at' p' (lo+x):=by rw[cZ (),Tr ()]
      have b2:at' (kas_rev p' (lo+x-(q+1)) (lo+x)) (lo+x-1)=at' p' (lo+x-(q+1)):=by rw[cZ (),Ts ()];congr 1;lia
      exact⟨0,_,rfl,S4,(N'.tr ((oy ()).wide () ())).wide () (),(),(),Dn.succ (b:=lo+x) o d1 () (by rw[b1,b2];exact o.tr _ _ _ hl (E' _ (TB _) ()).2),Bn o ()⟩
     ·rw[Tr q0];exact Tx ⟨0,p',rfl,S',N'.wide () (),(),(),Dn.succ (b:=lo+x) o D' () hl,Bn o ()⟩
    |false=>
     rw[Tr (by decide)];have g1:=o.no _ _ cw;refine Tu (qq hc S' (hp _ N'.1) () () ?_);dsimp only;cases cw2:lt (at' p' (lo+x-1)) (at' p' (lo+x)) with
     |true=>
      rw[Ts rfl];exact Tx ⟨x,q,p',rfl,hx0,S',N',k1,k2,D',E'⟩
     |false=>
      rw[Tr (by decide)];have g2:=o.no _ _ cw2;refine Tx ⟨q+1,p',rfl,S',N'.wide () (),(),(),Dn.succ (b:=lo+x) o D' () g2,fun k a1 a2=>?_⟩;rw[show lo+(x+1)-1=lo+x by lia];by_cases hk:k=lo+x
      ·subst hk;exact⟨o.rf _,o.rf _⟩
      ·obtain⟨x1,x2⟩:=E' k () ();exact⟨o.tr _ _ _ x1 g1,o.tr _ _ _ g2 x2⟩
   case p2=>
    rintro c st' ⟨x,q,p',rfl,x1,S',N',x2,x3,D',E'⟩;dsimp -zeta only
    extract_lets -underBinder s2 n2 q2
    dsimp -zeta only[r]
    extract_lets -underBinder jp2
    have hs2:=N'.size;have hx:s2.1=x:=rfl;have hq:s2.2=q:=rfl;refine IU (jp:=jp2) (fun st=>∃pX,Stt κ it st pX pend/\Dn le pX lo (lo+x)/\Near p pX lo (lo+x)) ?_ fun hj=>bE (fun q0=>Tu (DM S' fun stX SX=>hj _ ⟨_,SX,D'.rev o () () E',N'.tr ((oy ()).wide (a:=lo+x-(q+1)) (b:=lo+x) (d:=lo) (e:=lo+x) () ())⟩)) fun _=>hj _ ⟨p',S',D',N'⟩;rintro stX ⟨pX,SX,DX,NX⟩;refine Tu (DM SX fun st4 S4=>?_);replace S4:Stt κ it st4 (kas_rev pX lo (lo+x)) pend:=S4;have hs4:=NX.size;have N4:=NX.tr (oy (a:=lo) (b:=lo+x) ());have U4:=DX.turn ()
    refine Tu (UG (UH (I:=fun y c st'=>st'=st4/\c=(none,y)/\y<=nrem/\Up le (kas_rev pX lo (lo+x)) lo (lo+y))
     (Q:=fun c st'=>st'=st4/\∃y,c=(none,y)/\x<=y/\y<=nrem/\Up le (kas_rev pX lo (lo+x)) lo (lo+y)) ?s3 ?f3 ?i3) ?p3)
    case i3=>exact⟨rfl,rfl,x2,U4⟩
    case f3=>
     rintro c st' ⟨rfl,rfl,k1,k2⟩;exact⟨rfl,_,rfl,by show x<=max x nrem;lia,k1,k2⟩
    case s3=>
     rintro y c st' hy0 hy ⟨rfl,rfl,k1,k2⟩;change x<=y at hy0;dsimp only;have hs5:=N4.size;refine Tu (qq hc S4 (hp _ N4.1) () () ?_);dsimp only;cases cw:lt (at' (kas_rev pX lo (lo+x)) (lo+y)) (at' (kas_rev pX lo (lo+x)) (lo+y-1)) with
     |true=>
      rw[Ts rfl];exact Tx ⟨rfl,y,rfl,hy0,k1,k2⟩
     |false=>rw[Tr (by decide)];exact Tx ⟨rfl,rfl,(),Up.succ (b:=lo+y) o k2 () (o.no _ _ cw)⟩
    case p3=>
     rintro c st' ⟨rfl,y,rfl,y1,y2,U⟩;exact Tx (h y _ st' S4 () y2 (N4.wide (TB _) ()) U)
  ·refine bE (fun e2=>Tu (qq hc S (hp p (.refl _)) (by show lo<p.size;lia) (by show lo+m-1<p.size;lia) ?_)) fun e2=>hj _ ⟨p,S,Dn.succ (b:=lo+m) o (fun i j a1 a2 a3=>by
    have:i=j:=by change ¬m > 1 at e2;lia
    subst this;exact o.rf _) () (hd ()),.rf⟩
   dsimp -zeta only;cases cw:lt (at' p lo) (at' p (lo+m-1)) with
   |true=>
    rw[Ts rfl];exact Tx (h m p st' S m1 m2 .rf U)
   |false=>
    rw[Tr (by decide)];have g0:=o.no _ _ cw;have same:∀i j,lo<=i->i<lo+m->lo<=j->j<lo+m->le (at' p i) (at' p j):=fun i j a1 a2 a3 a4=>o.tr _ _ _ (U i (lo+m-1) a1 () ()) (o.tr _ _ _ g0 (U lo j (TB _) a3 a4));have d0:Dn le (kas_rev p lo (lo+m)) lo (lo+m):=fun i j a1 a2 a3=>by rw[cZ (),cZ (),Ts (),Ts ()];exact same _ _ () () () ()
    exact Tu (DM S fun stx Sx=>hj _ ⟨_,Sx,Dn.succ (b:=lo+m) o d0 () (by
     rw[cZ (),cZ (),Tr (),Ts ()]
     exact o.tr _ _ _ (hd ()) (same _ _ () () () ())),(oy ()).wide (TB _) ()⟩)
end
section
variable {le:Nat->Nat->Prop}{p p':Array Nat}{a b c:Nat}
noncomputable def Rn (le:Nat->Nat->Prop)(p:Array Nat):Nat->List (Nat×Nat×Nat)->Nat->Prop
 |a,[],b=>a=b
 |a,e::es,b=>e.1=a/\1<=e.2.1/\Up le p a (a+e.2.1)/\Rn le p (a+e.2.1) es b
theorem Rn.len_le:∀ {l:List (Nat×Nat×Nat)} {a:Nat},Rn le p a l b->a+l.length<=b
 |[],a,h=>by have:a=b:=h;simp[this]
 |e::es,a,h=>by have:=Rn.len_le h.2.2.2;have:=h.2.1;simp;lia
theorem Rn.of:∀ {l:List (Nat×Nat×Nat)} {a:Nat},Rn le p a l b->(∀k,a<=k->k<b->at' p' k=at' p k)->Rn le p' a l b
 |[],a,h,_=>h
 |e::es,a,h,k=>⟨h.1,h.2.1,h.2.2.1.of fun i h1 h2=>k i h1 (by have:=Rn.len_le h.2.2.2;lia),Rn.of h.2.2.2 fun i h1 h2=>k i () h2⟩
theorem Rn.app:∀ {l l':List (Nat×Nat×Nat)} {a:Nat},Rn le p a (l++l') b->∃c,Rn le p a l c/\Rn le p c l' b
 |[],l',a,h=>⟨a,rfl,h⟩
 |e::es,l',a,h=>by obtain⟨c,h1,h2⟩:=Rn.app h.2.2.2;exact⟨c,⟨h.1,h.2.1,h.2.2.1,h1⟩,h2⟩
theorem Rn.put:∀ {l l':List (Nat×Nat×Nat)} {a:Nat},Rn le p a l c->Rn le p c l' b->Rn le p a (l++l') b
 |[],l',a,h,h2=>by have:a=c:=h;subst this;exact h2
 |e::es,l',a,h,h2=>⟨h.1,h.2.1,h.2.2.1,Rn.put h.2.2.2 h2⟩
theorem Rn.same:∀ {l l':List (Nat×Nat×Nat)} {a:Nat},(l.map fun e=>(e.1,e.2.1))=(l'.map fun e=>(e.1,e.2.1))->Rn le p a l b->Rn le p a l' b
 |[],[],a,_,h=>h
 |[],_::_,a,h,_=>by simp at h
 |_::_,[],a,h,_=>by simp at h
 |e::es,e'::es',a,h,k=>by simp only[TQ,List.cons.injEq,Prod.mk.injEq] at h;obtain⟨⟨h1,h2⟩,h3⟩:=h;obtain⟨k1,k2,k3,k4⟩:=k;rw[h1] at k1;rw[h2] at k2 k3 k4;exact⟨k1,k2,k3,Rn.same h3 k4⟩
def JR {c:Prop}[Decidable c]{k m:Nat}(h:k+1<m):(if c then k-1 else k)+1<m:=by split<;>lia
def Nw {α:Type}(x z:α)(r:List α):∀pre:List α,(pre++x::r).set pre.length z=pre++z::r
 |[]=>rfl
 |y::pre=>by simp
theorem Gr {α:Type}(z y:α)(r:List α):∀pre:List α,(pre++z::y::r).eraseIdx (pre.length+1)=pre++z::r
 |[]=>rfl
 |x::pre=>by have:=Gr z y r pre;simp only[List.cons_append,TF,List.eraseIdx_cons_succ,this]
def NB {α:Type}{l:List α}{i:Nat}(h:i+1<l.length):∃pre x y post,l=pre++x::y::post/\pre.length=i:=by refine⟨l.take i,l[i],l[i+1],l.drop (i+2),?_,by rw[VN];lia⟩;rw[<- V1 h,<- V1 (),WG]
end
section
variable {prog:Program}{w:World}{A:Around}{E:Xs}{s:Shared}{κ:SortKind}{it:Array Keyed}{n:Nat}{lt:Nat->Nat->Bool}{le:Nat->Nat->Prop}{p:Array Nat}{pend:Array (Nat×Nat×Nat)}{st:SortSt}
def qu (o:Ord lt le)(hc:uX prog w A s κ it n lt)(S:Stt κ it st p pend)(hp:∀i,i<p.size->at' p i<n){i b:Nat}{Q:Bool->SortSt->Prop}(hi:i+1<pend.size)(R:Rn le p 0 pend.toList b)(hb:b<=p.size)
  (h:∀p' pend' st',Stt κ it st' p' pend'->Near p p' 0 b->Rn le p' 0 pend'.toList b->pend'.size+1=pend.size->Q true st'):wpS (model prog w) A E s (mergeAt' i) Q st:=by
 obtain⟨pre,⟨sa,na,pw⟩,⟨sb,nb,q⟩,post,e,hl⟩:=NB (l:=pend.toList) (i:=i) (by simpa using hi);rw[e] at R;obtain⟨c,R1,R2⟩:=R.app;obtain⟨r1,r2,r3,r4,r5,r6,r7⟩:=R2;dsimp only at r1 r2 r3 r4 r5 r6 r7;subst r1;have hle:=r7.len_le;have g1:pend[i]?=some (sa,na,pw):=by rw[<- Uy,e,Vs ()];simp[hl]
 have g2:pend[i+1]?=some (sb,nb,q):=by rw[<- Uy,e,Vs ()];simp[hl]
 refine FD o hc S g1 g2 r4 r2 r5 () hp (fun i j a1 a2=>r3 _ _ () () ()) (fun i j a1 a2=>r6 _ _ () () ()) fun p' st' S' so=>?_;have en:((pend.setIfInBounds i (sa,na+nb,pw)).eraseIdxIfInBounds (i+1)).toList=pre++(sa,na+nb,pw)::post:=by
  have h2:i+1<(pend.setIfInBounds i (sa,na+nb,pw)).size:=by simpa using hi
  rw[Array.eraseIdxIfInBounds,dif_pos h2,Array.toList_eraseIdx,Array.toList_setIfInBounds,e,<- hl];rw[Nw,Gr]
 have hle1:=R1.len_le;refine h p' _ st' S' ⟨so.perm,fun k hk=>so.out k ()⟩ ?_ ?_
 ·rw[en];refine Rn.put (R1.of fun k _ h2=>so.out k ()) ⟨rfl,by dsimp only;lia,fun i j a1 a2 a3=>so.asc i j a1 a2 a3,?_⟩;dsimp only;rw[show sa+(na+nb)=sa+na+nb by lia];exact r7.of fun k h1 h2=>so.out k ()
 ·have e4:=T7 List.length en;have e3:=T7 List.length e;rw[T6] at e4 e3;rw[e4,e3];simp only[Tz,TF];lia
def NT (o:Ord lt le)(hc:uX prog w A s κ it n lt)(S:Stt κ it st p #[])(hp:∀p':Array Nat,p'.Perm p->∀i,i<p'.size->at' p' i<n){Q:Unit->SortSt->Prop}
  (h:∀p' pend' st',Stt κ it st' p' pend'->p'.Perm p->Up le p' 0 p.size->Q Unit.unit st'):wpS (model prog w) A E s sortRuns' Q st:=by
 rw[sortRuns'_eq];refine Tu (UN ?_);dsimp only;rw[S.2.1,WI];generalize minRun' p.size p.size 0=minrun
 refine Tu (UG (UH (I:=fun x c st'=>∃lo p' pend',c=(none,lo)/\Stt κ it st' p' pend'/\p'.Perm p/\Rn le p' 0 pend'.toList lo/\lo<=p.size/\x<=lo)
  (Q:=fun c st'=>∃p' pend',c.1=none/\Stt κ it st' p' pend'/\p'.Perm p/\Rn le p' 0 pend'.toList p.size) ?s1 ?f1 ?i1) ?p1)
 case i1=>exact⟨0,p,#[],rfl,S,.refl _,rfl,(),()⟩
 case f1=>
  rintro c st' ⟨lo,p',pend',rfl,S',P',R',l1,l2⟩;have:lo=p.size:=()
  subst this;exact⟨p',pend',rfl,S',P',R'⟩
 case s1=>
  rintro x c st' _ hx ⟨lo,p',pend',rfl,S',P',R',l1,l2⟩;dsimp only;by_cases e1:lo ≥ p.size
  ·rw[Ts e1];have:lo=p.size:=()
   subst this;exact Tx ⟨p',pend',rfl,S',P',R'⟩
  rw[Tr e1];have hs':=P'.size_eq;refine Tu (K2 o hc S' (fun q hq=>hp q (hq.trans P')) () () fun m p2 st2 S2 m1 m2 N2 U2=>?_);have P2:=N2.1.trans P';have hs2:=P2.size_eq;have R2:Rn le p2 0 pend'.toList lo:=R'.of fun k _ h2=>N2.2 k (.inl h2);dsimp only;by_cases e2:m<minrun
  ·rw[Ts e2];refine Tu (wpS_lift (Vl ⟨rfl,?_⟩));refine Tu (P6 o hc S2 (fun q hq=>hp q (hq.trans P2)) (m:=min (p.size-lo) minrun) () () m1 U2 fun p3 st3 S3 N3 U3=>?_);replace R2:Rn le p3 0 pend'.toList lo:=R2.of fun k _ h2=>N3.2 k (.inl h2);replace P2:=N3.1.trans P2;replace S2:=S3;replace U2:=U3;have hnn:1<=min (p.size-lo) minrun:=()
   have hnn2:lo+min (p.size-lo) minrun<=p.size:=()
   clear S3 U3 N3 N2 hs2;generalize min (p.size-lo) minrun=nn at *;rw[Tr (by decide)];clear st2 p2;generalize p3=p2 at *;generalize st3=st2 at *;refine Tu (UN ?_);rw[S2.2.2.1];cases hbk:pend'.back? with
   |none=>
    dsimp only;refine Tu (UI (Tx ⟨lo+nn,p2,pend'.push (lo,nn,0),rfl,⟨S2.1,S2.2.1,?_,S2.2.2.2⟩,P2,?_,(),()⟩))
    ·show (pendingOf st2).push _=_;rw[S2.2.2.1]
    ·rw[Vw];exact R2.put ⟨rfl,hnn,U2,rfl⟩
   |some e=>
    obtain⟨s1,n1,z1⟩:=e;dsimp only;generalize power' _ _ _ _=pw
    refine Tu (UG (UH (I:=fun y c st3=>c=(none,Unit.unit)/\∃p3 pend3,Stt κ it st3 p3 pend3/\p3.Perm p/\Rn le p3 0 pend3.toList lo/\Up le p3 lo (lo+nn))
     (Q:=fun c st3=>c=(none,Unit.unit)/\∃p3 pend3,Stt κ it st3 p3 pend3/\p3.Perm p/\Rn le p3 0 pend3.toList lo/\Up le p3 lo (lo+nn)) ?s2 ?f2 ?i2) ?p2)
    case i2=>exact⟨rfl,p2,pend',S2,P2,R2,U2⟩
    case f2=>exact fun c st3 h=>h
    case s2=>
     rintro y c st3 _ hy ⟨rfl,p3,pend3,S3,P3,R3,U3⟩;refine Tu (UN ?_);rw[S3.2.2.1];by_cases c1:pend3.size > 1
     ·rw[Ts c1];cases hg:pend3[pend3.size-2]? with
      |none=>exact Tx ⟨rfl,p3,pend3,S3,P3,R3,U3⟩
      |some e=>
       obtain⟨z2,z3,older⟩:=e;dsimp only;by_cases c2:older<=pw
       ·rw[Ts c2];exact Tx ⟨rfl,p3,pend3,S3,P3,R3,U3⟩
       ·rw[Tr c2];have hs3:=P3.size_eq;refine Tu (qu o hc S3 (hp _ P3) (i:=pend3.size-2) () R3 () fun p4 pend4 st4 S4 N4 R4 _=>?_);exact Tx ⟨rfl,p4,pend4,S4,N4.1.trans P3,R4,U3.of fun i h1 h2=>N4.2 i (.inr h1)⟩
     ·rw[Tr c1];exact Tx ⟨rfl,p3,pend3,S3,P3,R3,U3⟩
    case p2=>
     rintro c st3 ⟨rfl,p3,pend3,S3,P3,R3,U3⟩;dsimp only;refine Tu (UI (Tu (UI (Tx ⟨lo+nn,p3,(pend3.modify (pend3.size-1) fun e=>(e.1,e.2.1,pw)).push (lo,nn,0),rfl,⟨S3.1,S3.2.1,?_,S3.2.2.2⟩,P3,?_,(),()⟩))))
     ·show ((pendingOf st3).modify ((pendingOf st3).size-1) _).push _=_;rw[S3.2.2.1]
     ·rw[Vw];refine Rn.put (R3.same ?_) ⟨rfl,hnn,U3,rfl⟩;apply V2;intro k;rw[TX,TX,Uy,Uy,Array.getElem?_modify];split
      ·cases pend3[k]?<;>rfl
      ·rfl
  ·rw[Tr e2];have hnn:=m1;have hnn2:lo+m<=p.size:=()
   refine Tu (UN ?_);rw[S2.2.2.1];cases hbk:pend'.back? with
   |none=>
    dsimp only;refine Tu (UI (Tx ⟨lo+m,p2,pend'.push (lo,m,0),rfl,⟨S2.1,S2.2.1,?_,S2.2.2.2⟩,P2,?_,(),()⟩))
    ·show (pendingOf st2).push _=_;rw[S2.2.2.1]
    ·rw[Vw];exact R2.put ⟨rfl,hnn,U2,rfl⟩
   |some e=>
    obtain⟨s1,n1,z1⟩:=e;dsimp only;generalize power' _ _ _ _=pw
    refine Tu (UG (UH (I:=fun y c st3=>c=(none,Unit.unit)/\∃p3 pend3,Stt κ it st3 p3 pend3/\p3.Perm p/\Rn le p3 0 pend3.toList lo/\Up le p3 lo (lo+m))
     (Q:=fun c st3=>c=(none,Unit.unit)/\∃p3 pend3,Stt κ it st3 p3 pend3/\p3.Perm p/\Rn le p3 0 pend3.toList lo/\Up le p3 lo (lo+m)) ?s2 ?f2 ?i2) ?p2)
    case i2=>exact⟨rfl,p2,pend',S2,P2,R2,U2⟩
    case f2=>exact fun c st3 h=>h
    case s2=>
     rintro y c st3 _ hy ⟨rfl,p3,pend3,S3,P3,R3,U3⟩;refine Tu (UN ?_);rw[S3.2.2.1];by_cases c1:pend3.size > 1
     ·rw[Ts c1];cases hg:pend3[pend3.size-2]? with
      |none=>exact Tx ⟨rfl,p3,pend3,S3,P3,R3,U3⟩
      |some e=>
       obtain⟨z2,z3,older⟩:=e;dsimp only;by_cases c2:older<=pw
       ·rw[Ts c2];exact Tx ⟨rfl,p3,pend3,S3,P3,R3,U3⟩
       ·rw[Tr c2];have hs3:=P3.size_eq;refine Tu (qu o hc S3 (hp _ P3) (i:=pend3.size-2) () R3 () fun p4 pend4 st4 S4 N4 R4 _=>?_);exact Tx ⟨rfl,p4,pend4,S4,N4.1.trans P3,R4,U3.of fun i h1 h2=>N4.2 i (.inr h1)⟩
     ·rw[Tr c1];exact Tx ⟨rfl,p3,pend3,S3,P3,R3,U3⟩
    case p2=>
     rintro c st3 ⟨rfl,p3,pend3,S3,P3,R3,U3⟩;dsimp only;refine Tu (UI (Tu (UI (Tx ⟨lo+m,p3,(pend3.modify (pend3.size-1) fun e=>(e.1,e.2.1,pw)).push (lo,m,0),rfl,⟨S3.1,S3.2.1,?_,S3.2.2.2⟩,P3,?_,(),()⟩))))
     ·show ((pendingOf st3).modify ((pendingOf st3).size-1) _).push _=_;rw[S3.2.2.1]
     ·rw[Vw];refine Rn.put (R3.same ?_) ⟨rfl,hnn,U3,rfl⟩;apply V2;intro k;rw[TX,TX,Uy,Uy,Array.getElem?_modify];split
      ·cases pend3[k]?<;>rfl
      ·rfl
 case p1=>
  rintro⟨c,c'⟩ st' ⟨p',pend',hc1,S',P',R'⟩;dsimp only at hc1;subst hc1;dsimp only
  refine Tu (UG (UH (I:=fun x c st'=>∃p' pend',c=(none,Unit.unit)/\Stt κ it st' p' pend'/\p'.Perm p/\Rn le p' 0 pend'.toList p.size/\pend'.size+x<=p.size)
   (Q:=fun c st'=>∃p' pend',c=(none,Unit.unit)/\Stt κ it st' p' pend'/\p'.Perm p/\Rn le p' 0 pend'.toList p.size/\pend'.size<=1) ?s5 ?f5 ?i5) ?p5)
  case i5=>exact⟨p',pend',rfl,S',P',R',by have:=R'.len_le;rw[T6] at this;lia⟩
  case f5=>
   rintro c st' ⟨p',pend',rfl,S',P',R',hl⟩;exact⟨p',pend',rfl,S',P',R',()⟩
  case s5=>
   rintro x c st' _ hx ⟨p',pend',rfl,S',P',R',hl⟩;refine Tu (UN ?_);rw[S'.2.2.1];by_cases e1:pend'.size<=1
   ·rw[Ts e1];exact Tx ⟨p',pend',rfl,S',P',R',e1⟩
   rw[Tr e1];have hs':=P'.size_eq;refine Tu (qu o hc S' (hp _ P') ?_ R' () fun p4 pend4 st4 S4 N4 R4 h4=>?_)
   ·exact JR ()
   ·exact Tx ⟨p4,pend4,rfl,S4,N4.1.trans P',R4,()⟩
  case p5=>
   rintro c st' ⟨p',pend',rfl,S',P',R',hl⟩;refine Tx (h p' pend' st' S' P' ?_);cases hq:pend'.toList with
   |nil=>
    rw[hq] at R';have:0=p.size:=R';intro i j _ _ h3;lia
   |cons e es=>
    cases es with
    |nil=>
     rw[hq] at R';obtain⟨r1,r2,r3,r4⟩:=R';have r4':0+e.2.1=p.size:=r4;rw[<- r4'];exact r3
    |cons e2 es=>have:=T7 List.length hq;rw[T6] at this;simp at this;lia
end
section
variable {prog:Program}{w:World}{A:Around}{E:Xs}{s:Shared}
structure Known (prog:Program) (w:World) (s:Shared) (vs:Xw) (κ:SortKind) (lt:Nat->Nat->Bool):Prop where
 kind:∀(A:Around) (E:Xs) (h':Heap) (Q:SortKind->Shared->Prop),(∀b o,s.heap.get? b=some o->h'.get? b=some o)->2<=vs.length->Q κ { s with heap:=h' }->wpAny (model prog w) A (keyKind' vs.toArray) Q E { s with heap:=h' }
 ask:∀(A:Around) (h':Heap) (i j:Nat) (C:Bool->Shared->Prop),(∀b o,s.heap.get? b=some o->h'.get? b=some o)->i<vs.length->j<vs.length->C (lt i j) { s with heap:=h' }->kas_ask prog w A κ vs i j C { s with heap:=h' }
def Known.on   {lt:Nat->Nat->Bool}{h:Heap}(k:Known prog w s vs κ lt)(hk:∀b o,s.heap.get? b=some o->h.get? b=some o):Known prog w { s with heap:=h } vs κ lt:=
 ⟨fun A E h' Q h2=>k.kind A E h' Q fun b o e=>h2 b o (hk b o e),fun A h' i j C h2=>k.ask A h' i j C fun b o e=>h2 b o (hk b o e)⟩
noncomputable def fT (vs:Xw)(p:Array Nat):Array Value:=(p.toList.map fun i=>vs.getD i Value.none).toArray
def uf {vs:Xw}{p:Array Nat}(h:p.size=vs.length):(fT vs p).size=vs.length:=by unfold fT;simp[h]
def zV:fT vs (List.range vs.length).toArray=vs.toArray:=by
 unfold fT;congr 1;apply List.ext_getElem
 ·simp
 ·intro i h1 h2;simp at h1;simp[h1]
def Jk {le:Nat->Nat->Prop}(rf:∀a,le a a){n:Nat}(h:n<2)(p:Array Nat):Asc le p n:=fun i j hij hj=>by
 have e:i=j:=()
 subst e;exact rf _
def zw  {vs:Xw}{n:Nat}  {lt:Nat->Nat->Bool}{le:Nat->Nat->Prop}{P:PySem.Fin->Shared->Prop}(o:Ord lt le)(ho:s.heap.get? a=some (seqObj "list" vs.toArray n)) (hN:vs.length<=sizeLine)
  (hk:∀h',(∀b o,b≠a->s.heap.get? b=some o->h'.get? b=some o)->Known prog w { s with heap:=h' } vs κ lt)
  (h:∀p:Array Nat,p.Perm (List.range vs.length).toArray->Asc le p vs.length->P (.done (.ret .none)) { s with heap:=sortedHeap s.heap a vs (fT vs p) }):wpAny (model prog w) A (Builtin.«list.sort» ⟨[.ref a],[]⟩) P E s:=by
 have ha:a<s.heap.objs.size:=TW ho;obtain⟨e1,ho1⟩:∃e1,(s.heap.update a (Obj.mapSeq fun _=>#[])).get? a=some (seqObj "list" #[] e1):=⟨_,get?_update_seq ho fun _=>#[]⟩
 have ne1:a≠((s.heap.update a (Obj.mapSeq fun _=>#[])).push (seqObj "tuple" vs.toArray 0)).objs.size:=by rw[size_push',Heap.size_update];exact T2 (VY ha)
 have ne2:a≠(s.heap.update a (Obj.mapSeq fun _=>#[])).objs.size:=by rw[Heap.size_update];exact T2 ha
 have ho6:(((s.heap.update a (Obj.mapSeq fun _=>#[])).push (seqObj "tuple" vs.toArray 0)).push (seqObj "list" #[] 0)).get? a=some (seqObj "list" #[] e1):=by rw[Heap.get?_push_ne _ _ _ ne1,Heap.get?_push_ne _ _ _ ne2,ho1]
 have keep:∀b q,b≠a->s.heap.get? b=some q->(((s.heap.update a (Obj.mapSeq fun _=>#[])).push (seqObj "tuple" vs.toArray 0)).push (seqObj "list" #[] 0)).get? b=some q:=fun b q hb hq=>
  TU _ (TU _ ((V3 _ _ _ _ hb).trans hq))
 have K:=hk _ keep;rw[list_sort_plain];refine Tq (listItems_at ho rfl (Tq (listUpdate_at ho rfl (Tq (seqEpoch_at ho1 rfl (Tq (wpAny_newTuple (Tq (wpAny_newList (Uw ?_))))))))));dsimp only;have hn:vs.toArray.size=vs.length:=by simp
 have fin:∀(p:Array Nat) (st:SortSt),p.Perm (List.range vs.length).toArray->Asc le p vs.length->(arrOf st).map (·.2)=fT vs p->failedOf st=none ->
   wpAny (model prog w) A (do
    let touched:=(← seqEpoch a) != e1
    Builtin.List.listUpdate (.ref a) fun _=>(arrOf st).map (·.2)
    if let some e:=failedOf st then rule "list.sort.comparison-raised"; throw e
    if touched then rule "list.sort.modified"; raiseError "ValueError" "list modified during sort"
    ret .none) P E { s with heap:=((s.heap.update a (Obj.mapSeq fun _=>#[])).push (seqObj "tuple" vs.toArray 0)).push (seqObj "list" #[] 0) }:=fun p st hp hs ho2 hf=>by
  have hz:(fT vs p).size<=sizeLine+1:=by rw[uf (by rw[hp.size_eq];simp)];lia
  rw[ho2,hf];refine Tq (seqEpoch_at ho6 rfl (Tq (listUpdate_at ho6 rfl ?_ (hsz2:=hz))));simp only[bne_self_eq_false,Uu,Uf];exact Tt (h p hp hs)
 by_cases h2:vs.toArray.size<2
 ·rw[Ts h2,Ts h2];refine Tq (Tt ?_);rw[StateT.run_pure];refine Tq (Tt (fin (List.range vs.length).toArray _ (Array.Perm.refl _) (Jk o.rf () _) ?_ rfl));rw[zV];show ((vs.toArray.zip vs.toArray).map (·.2))=vs.toArray;apply Array.ext
  ·simp
  ·intro i h1 h2;simp
 ·rw[Tr h2,Tr h2];refine Tq (K.kind _ _ _ _ (fun _ _ e=>e) () ?_);have pos:0<vs.length:=()
  have perm0:∀p':Array Nat,p'.Perm (List.range vs.length).toArray->∀i,i<p'.size->at' p' i<vs.length:=fun p' h' i _=>LX pos h' i;have esz:(vs.toArray.zip vs.toArray).size=vs.length:=by simp
  have er:=kas_range (vs.toArray.zip vs.toArray);rw[esz] at er
  have run:=NT (prog:=prog) (w:=w) (A:=A) (E:=E) (κ:=κ) (it:=vs.toArray.zip vs.toArray) (n:=vs.length) (lt:=lt) (le:=le) (p:=(List.range vs.length).toArray) (st:=SortSt.mk' κ (vs.toArray.zip vs.toArray) #[] 7 none)
   (s:={ s with heap:=((s.heap.update a (Obj.mapSeq fun _=>#[])).push (seqObj "tuple" vs.toArray 0)).push (seqObj "list" #[] 0) })
   (Q:=fun _ st=>∃p:Array Nat,(arrOf st).map (·.2)=fT vs p/\failedOf st=none/\p.Perm (List.range vs.length).toArray/\Asc le p vs.length) o
   (fun i j C hi hj hc=>by rw[<- kat_ask_eq (ks:=vs) (vs:=vs) rfl];exact K.ask _ _ i j C (fun _ _ e=>e) hi hj hc) ⟨rfl,er.symm,rfl,rfl⟩ perm0
   (fun p' pend' st' S' hp hu=>⟨p',kat_snds rfl S'.2.1,S'.2.2.2,hp,fun i j hij hj=>hu i j (T9 _) hij (by simpa using hj)⟩)
  refine Tq (Vh run (fun r s' hr=>?_) fun _ _ e=>e)
  ·obtain⟨rfl,p,e2,hf,hp,hs⟩:=hr;exact fin p r.2 hp hs e2 hf
def wL  {vs:Xw}  {lt:Nat->Nat->Bool}{le:Nat->Nat->Prop}{Q:Xs}(o:Ord lt le)(hl:s.heap.IsList l vs.toArray)(hN:vs.length<=sizeLine)(hk:Known prog w s vs κ lt)
  (h:∀p:Array Nat,p.Perm (List.range vs.length).toArray->Asc le p vs.length->Q (.ref (s.heap.objs.size+1)) { s with heap:=sortedAll s.heap vs (fT vs p) }):wpAny (model prog w) A (call (.builtin "sorted") [.ref l]) Q E s:=by
 have hz:vs.length<=sizeLine:=hN;have sz:((s.heap.push (seqObj "list" #[] 0)).update s.heap.objs.size (Obj.mapSeq (· ++ vs.toArray))).objs.size=s.heap.objs.size+1:=by rw[Heap.size_update,size_push']
 have at1:(((s.heap.push (seqObj "list" #[] 0)).update s.heap.objs.size (Obj.mapSeq (· ++ vs.toArray))).push (seqObj "list" vs.toArray 0)).get? (s.heap.objs.size+1)=some (seqObj "list" vs.toArray 0):=by rw[<- sz];exact T8 _ rfl
 have old:∀b q,s.heap.get? b=some q->b≠s.heap.objs.size+1/\(((s.heap.push (seqObj "list" #[] 0)).update s.heap.objs.size (Obj.mapSeq (· ++ vs.toArray))).push (seqObj "list" vs.toArray 0)).get? b=some q:=fun b q e=>by have hb:=TW e;refine⟨T2 (VY hb),TU _ ?_⟩;rw[V3 _ _ _ _ (T2 hb)];exact TU _ e
 refine W4 kind_sorted plain_sorted entry_sorted (args_sorted1 (.ref l)) ?_;unfold Builtin.«sorted»;refine Tq (m:=checkCount "sorted" 1 1 _) (Tt (Tq (collect_list hl (Tq (wpAny_newList ?_ hz)) hz)));show wpAny (model prog w) _ _ _ _ { s with heap:=((s.heap.push (seqObj "list" #[] 0)).update s.heap.objs.size (Obj.mapSeq (· ++ vs.toArray))).push (seqObj "list" vs.toArray 0) };rw[sz];refine Tq (Uw (UF slot_list_sort ⟨_,at1,rfl⟩ entry_list_sort (zw (κ:=κ) (le:=le) o at1 hN (fun h' kp=>?_) fun p hp hs=>⟨_,rfl,Tt ⟨_,rfl,h p hp hs⟩⟩) (args_list_sort _)));exact hk.on fun b q e=>kp b q (old b q e).1 (old b q e).2
end
section
variable {prog:Program}{w:World}{A:Around}{E:Xs}{s:Shared}
noncomputable def f7:XD->XD->Bool
 |[],[]=>false
 |[],_::_=>true
 |_::_,[]=>false
 |x::xs,y::ys=>if x=y then f7 xs ys else decide (x<y)
theorem qJ:∀a:XD,f7 a a=false
 |[]=>rfl
 |x::xs=>by unfold f7;rw[Ts rfl];exact qJ xs
theorem tJ:∀a b:XD,f7 a b=true->f7 b a=false
 |[],[],h=>by unfold f7 at h;cases h
 |[],_::_,_=>by unfold f7;rfl
 |_::_,[],h=>by unfold f7 at h;cases h
 |x::xs,y::ys,h=>by
  unfold f7 at h ⊢;by_cases e:x=y
  ·rw[Ts e] at h;rw[Ts e.symm];exact tJ xs ys h
  ·rw[Tr e] at h;rw[Tr (T3 e)];have:=UX h;exact Uc ()
theorem tK:∀a b c:XD,f7 b a=false->f7 c b=false->f7 c a=false
 |[],_,[],_,_=>rfl
 |[],[],_::_,_,h=>by unfold f7 at h;cases h<;>rfl
 |[],_::_,_::_,_,_=>by unfold f7;rfl
 |_::_,[],_,h,_=>by unfold f7 at h;cases h
 |x::xs,y::ys,[],_,h=>by unfold f7 at h;cases h
 |x::xs,y::ys,z::zs,h1,h2=>by
  unfold f7 at h1 h2 ⊢;by_cases e1:y=x
  ·rw[Ts e1] at h1;by_cases e2:z=y
   ·rw[Ts e2] at h2;rw[Ts (e2.trans e1)];exact tK xs ys zs h1 h2
   ·rw[Tr e2] at h2;rw[Tr ()];have:=UO h2;exact Uc ()
  ·rw[Tr e1] at h1;have g1:=UO h1;by_cases e2:z=y
   ·rw[Tr ()];exact Uc ()
   ·rw[Tr e2] at h2;have g2:=UO h2;rw[Tr ()];exact Uc ()
def zt (f:Nat->XD):Ord (fun i j=>f7 (f i) (f j)) (fun i j=>f7 (f j) (f i)=false):=
 ⟨fun a b c h1 h2=>tK _ _ _ h1 h2,fun a=>qJ _,fun a b h=>tJ _ _ h,fun a b h=>h⟩
def Oc (h:Heap)(v:Value)(ns:XD):Prop:=∃a o xs n,v = .ref a/\h.get? a=some o/\o.cls = .type "tuple" /\ o.data = .seq xs n/\IntsAre xs.toList ns
def JZ:∀(xs ys:Xw) (ns ms:XD) (i:Nat) (fin:Bool) (Q:Bool->Shared->Prop),IntsAre xs ns->IntsAre ys ms->(fin=decide (xs.length<ys.length))->Q (f7 ns ms) s ->
  KatLex prog w A true fin Q (xs.zip ys) i s:=by
 intro xs;induction xs with
 |nil=>
  intro ys ns ms i fin Q hx hy hf hq;cases hx;rw[List.zip_nil_left];show Q fin s;rw[hf];cases hy with
  |nil|cons _ _ _=>exact hq
 |cons x xs ih=>
  intro ys ns ms i fin Q hx hy hf hq;cases hx with
  |cons a t tx=>
   cases hy with
   |nil=>
    rw[List.zip_nil_right];show Q fin s;rw[hf];exact hq
   | @cons c u ys' ms' ty=>
    rw[Wm];refine kat_cons ((SeqAt.EqAt.int_int a t c u) prog w _ _ ?_);unfold f7 at hq;by_cases e:a=c
    ·rw[Ts e] at hq;have eb:(a==c)=true:=by simpa using e
     rw[eb];exact kat_yes (ih ys' _ ms' (i+1) fin Q tx ty (by rw[hf];simp) hq)
    ·rw[Tr e] at hq;have eb:(a==c)=false:=by simpa using e
     rw[eb];refine kat_no ?_;cases q:i==0 with
     |true=>exact oneLt_int hq
     |false=>exact kat_one _ _ (lt_int hq)
def tF {vs:Xw}{f:Nat->XD}(hv:∀i,i<vs.length->Oc s.heap (vs.getD i Value.none) (f i)/\f i≠[]):Known prog w s vs (tuples' true) fun i j=>f7 (f i) (f j):=by
 refine⟨fun A E h' Q hk h2 hq=>?_,fun A h' i j C hk hi hj hc=>?_⟩
 ·have hv':∀v∈vs,∃n t rest a o xs k,v = .ref a/\h'.get? a=some o/\o.cls = .type "tuple" /\ o.data = .seq xs k/\xs.toList=Value.int n t::rest:=fun v hm=>by
   obtain⟨i,hi,e⟩:=Vy hm;obtain⟨⟨a,o,xs,k,e1,e2,e3,e4,e5⟩,ne⟩:=hv i hi;have ev:vs.getD i Value.none=v:=by rw[Vz,Ua hi];exact e
   rw[ev] at e1;revert e5 ne;generalize f i=ns;generalize ex:xs.toList=L;intro ne e5;cases e5 with
   |nil=>exact absurd rfl ne
   | @cons n t vs' ns' tl=>exact⟨n,t,vs',a,o,xs,k,e1,hk _ _ e2,e3,e4,ex⟩
  have fs:∀L:Xw,(∀v∈L,∃n t rest a o xs k,v = .ref a/\h'.get? a=some o/\o.cls = .type "tuple" /\ o.data = .seq xs k/\xs.toList=Value.int n t::rest)->∃gs,KatTups h' L gs/\gs.length=L.length/\∀v∈gs,∃n t,v=Value.int n t:=by
   intro L;induction L with
   |nil=>exact fun _=>⟨[],.nil,rfl,fun _ h=>(by cases h)⟩
   |cons v L ih=>
    intro hL;obtain⟨gs,g1,g2,g3⟩:=ih fun u hu=>hL u (TJ _ hu);obtain⟨n,t,rest,a,o,xs,k,rfl,e2,e3,e4,e5⟩:=hL v TD;refine⟨.int n t::gs,.cons e2 e3 e4 (by rw[<- Uy,e5];rfl) g1,by rw[TF,TF,g2],fun u hu=>?_⟩;rcases TN.mp hu with rfl|hu
    ·exact⟨n,t,rfl⟩
    ·exact g3 u hu
  obtain⟨gs,g1,g2,g3⟩:=fs vs hv';refine kat_kind (s:={ s with heap:=h' }) (T:=.type "int") g1 () (fun v hm=>?_) (by decide) hq;obtain⟨n,t,rfl⟩:=g3 v hm;exact Looks.of_pure rfl
 ·obtain⟨⟨a,o,xs,k,e1,e2,e3,e4,e5⟩,_⟩:=hv i hi;obtain⟨⟨a',o',xs',k',e1',e2',e3',e4',e5'⟩,_⟩:=hv j hj;unfold kas_ask;rw[e1,e1'];refine kat_lt (s:={ s with heap:=h' }) (hk _ _ e2) e4 (hk _ _ e2') e4' ?_;refine JZ (s:={ s with heap:=h' }) _ _ _ _ _ _ _ e5 e5' ?_ hc;simp
theorem rM:∀ {vs:Xw} {ns:XD},IntsAre vs ns->∀i,i<vs.length->∃t,vs.getD i Value.none = .int (ns.getD i 0) t
 |_,_,.nil,i,h=>by simp at h
 |_,_,.cons n t _,0,_=>⟨t,rfl⟩
 |_,_,.cons n t tl,i+1,h=>by obtain⟨u,e⟩:=rM tl i (by simpa using h);exact⟨u,by simpa using e⟩
def BD   (hI:IntsAre vs ns):Known prog w s vs oneType' fun i j=>decide (ns.getD i 0<ns.getD j 0):=by
 refine⟨fun A E h' Q hk h2 hq=>?_,fun A h' i j C hk hi hj hc=>?_⟩
 ·rw[ksk_kind (keys:=vs.toArray) (kz:=ns) (by simpa using hI) (by simpa using h2)];exact Tt hq
 ·obtain⟨t,e1⟩:=rM hI i hi;obtain⟨u,e2⟩:=rM hI j hj;unfold kas_ask;rw[e1,e2,keyLt'_oneType];exact oneLt_int hc
def Hj (f:Nat->Int):Ord (fun i j=>decide (f i<f j)) (fun i j=>f i<=f j):=
 ⟨fun _ _ _ h k=>Int.le_trans h k,fun _=>T1 _,fun a b h=>Int.le_of_lt (UX h),fun a b h=>by have:=UO h;show f b<=f a;lia⟩
theorem gZ   (hI:IntsAre vs ns):∀L:List Nat,(∀i∈L,i<vs.length)->IntsAre (L.map fun i=>vs.getD i Value.none) (L.map fun i=>ns.getD i 0)
 |[],_=>.nil
 |i::L,h=>by obtain⟨t,e⟩:=rM hI i (h i TD);rw[TQ,TQ,e];exact .cons _ t (gZ hI L fun j hj=>h j (TJ _ hj))
theorem zn:∀ {vs:Xw} {ns:XD},IntsAre vs ns->vs.length=ns.length
 |_,_,.nil=>rfl
 |_,_,.cons n t tl=>by rw[TF,TF,zn tl]
def yb  {vs:Xw}  {Q:Xs}(hl:s.heap.IsList l vs.toArray)(hI:IntsAre vs ns)(hN:vs.length<=sizeLine)
  (h:∀(out:Array Value) ms,IntsAre out.toList ms->ms.Perm ns->ms.Pairwise (· <= ·)->Q (.ref (s.heap.objs.size+1)) { s with heap:=sortedAll s.heap vs out }):wpAny (model prog w) A (call (.builtin "sorted") [.ref l]) Q E s:=by
 refine wL (Hj fun i=>ns.getD i 0) hl hN (BD hI) fun p hp ha=>?_;have e:=zn hI;have hb:∀i∈p.toList,i<vs.length:=fun i hi=>by simpa using (VZ.mp hp).mem_iff.mp hi
 rw[e] at hp ha;obtain⟨p1,p2⟩:=xO (vs:=ns) (d:=0) hp ha;exact h (fT vs p) _ (by simpa[fT] using gZ hI p.toList hb) p1 (p2 _ fun i j _ _ h=>h)
end
end Srt
namespace L2
open PySem
noncomputable def M3 (K:Xy):Xo->Hp->VK->Prop:=fun xs H Q=>∃p ys,xs=[.ref p]/\((SqL K H p ys/\∀l,H l=none->Q (.ref l) (upd H l (.tup ys)))\/(SqT K H p ys/\Q (.ref p) H))
noncomputable def Pa:Xo->Hp->VK->Prop:=fun xs H Q=>∃i j,xs=[.int i,.int j]/\Q (.int (if j > i then j else i)) H
noncomputable def Pb:Xo->Hp->VK->Prop:=fun xs H Q=>∃i j,xs=[.int i,.int j]/\Q (.int (if j<i then j else i)) H
noncomputable def QW (K:Xy)(ta:TE):TT:=fun σ H Q=>ta σ H fun x H'=>∃k,Jh K x H' k/\Q k H'
noncomputable def Ae (K:Xy):Xo->Hp->VK->Prop:=fun xs H Q=>∃p,∃ns:XD,xs=[.ref p]/\SqL K H p (ns.map V.int)/\ns.length<30000 /\
 ∀(ms:XD) l,ms.Perm ns->ms.Pairwise (· <= ·)->H l=none->Q (.ref l) (upd H l (.lst (ms.map V.int)))
noncomputable def LB (n:Nat):It:=⟨fun i _=>i<n,fun i H x H'=>H'=H/\x = .int (2 * i),fun i _=>n<=i⟩
noncomputable def La (ta:TA):TI:=fun σ H R=>ta σ H fun vs H1=>∃j:Int,vs=[.int 0,.int j,.int 2]/\0<=j/\j<1000000/\R (LB ((j+1) / 2).toNat) H1
noncomputable def JN (K:Xy)(tl:TE):TI:=fun σ H R=>tl σ H fun x H1=>∃a,x = .ref a/\(((∃xs,SqL K H1 a xs)/\R (Itl K a) H1)\/((∃xs,SqT K H1 a xs)/\R (Itt K a) H1))
end L2
namespace M
open PySem L2
inductive D where
 |non|bl (b:Bool)|int (i:Int)|str (x:Str)|ty (n:String)|lst (l:List D)|tup (l:List D)|scr (l:List D)|ins (N:Str) (ns:XB) (l:List D)|dic (ks:XC)|dif (ks:XC)|mtp (l:List D)
 deriving Inhabited
abbrev Xr:=Option D
abbrev Xq:=List D
abbrev Xp:=Xq->Xr
def cR {S':Hp}(s:Same S S')   (h:Rd S a u):Rd S' a u:=h.elim (fun e=>.inl (s _ _ e)) fun⟨o,e⟩=>.inr ⟨o,s _ _ e⟩
def dX  {S':Hp}(s:Same S S')  {xs:Xo}(h:SqL K S a xs):SqL K S' a xs:=h.elim (fun e=>.inl (cR s e)) .inr
def aL  {S':Hp}(s:Same S S')  {xs:Xo}(h:SqT K S a xs):SqT K S' a xs:=h.elim (fun e=>.inl (cR s e)) .inr
def TpA (K:Xy)(S:Hp)(a:Addr)(xs:Xo):Prop:=S a=some (.tup xs)
def TpA.of  {S:Hp}{a:Addr}{xs:Xo}(h:S a=some (.tup xs)):TpA K S a xs:=h
def TpA.sq    {xs:Xo}(h:TpA K S a xs):SqT K S a xs:=SqT.of h
def TpA.mono  {S':Hp}(s:Same S S')  {xs:Xo}(h:TpA K S a xs):TpA K S' a xs:=s _ _ h
noncomputable def bW (ks:XC):List (List Key×V):=ks.map fun k=>(k.map Sum.inl,V.bl true)
mutual
noncomputable def Den (K:Xy)(S:Hp):D->V->Prop
 |.non,v=>v = .non
 |.bl b,v=>v = .bl b
 |.int i,v=>v = .int i
 |.str x,v=>v = .str x
 |.ty x,v=>v = .ty x
 |.lst l,v=>∃p xs,v = .ref p/\Rd S p (.lst xs)/\Dens K S l xs
 |.tup l,v=>∃p xs,v = .ref p/\TpA K S p xs/\Dens K S l xs
 |.scr l,v=>∃p xs,v = .ref p/\SqL K S p xs/\Dens K S l xs
 |.mtp l,v=>∃p xs,v = .ref p/\SqT K S p xs/\Dens K S l xs
 |.ins N ns l,v=>∃p C dx fs,v = .ref p/\W.nsIn K mainGlobals N=some (some (.ref C))/\S p=some (.ins C dx fs)/\fs.map (·.1)=ns/\Dens K S l (fs.map (·.2))
 |.dic ks,v=>∃p,v = .ref p/\Rd S p (.dT (bW ks))
 |.dif ks,v=>∃p o,v = .ref p/\S p=some (.frz o (.dT (bW ks)))
noncomputable def Dens (K:Xy)(S:Hp):Xq->Xo->Prop
 |[],xs=>xs=[]
 |d::ds,xs=>∃y ys,xs=y::ys/\Den K S d y/\Dens K S ds ys
end
section
variable {K:Xy}{S S' H H':Hp}
def Dens.nil:Dens K S [] []:=by unfold Dens;rfl
def Dens.cons  {ds:Xq}  {ys:Xo}(h:Den K S d y)(k:Dens K S ds ys):Dens K S (d::ds) (y::ys):=by unfold Dens;exact⟨y,ys,rfl,h,k⟩
def Dens.nil_of {xs:Xo}(h:Dens K S [] xs):xs=[]:=by unfold Dens at h;exact h
def Dens.cons_of {d:D}{ds:Xq}{xs:Xo}(h:Dens K S (d::ds) xs):∃y ys,xs=y::ys/\Den K S d y/\Dens K S ds ys:=by unfold Dens at h;exact h
theorem Dens.length:∀ {ds:Xq} {xs:Xo},Dens K S ds xs->ds.length=xs.length
 |[],_,h=>by rw[h.nil_of];rfl
 |_::_,_,h=>by obtain⟨y,ys,rfl,_,k⟩:=h.cons_of;rw[TF,TF,k.length]
theorem Dens.append:∀ {ds es:Xq} {xs ys:Xo},Dens K S ds xs->Dens K S es ys->Dens K S (ds++es) (xs++ys)
 |[],_,_,_,h,k=>by rw[h.nil_of];exact k
 |_::_,_,_,_,h,k=>by obtain⟨y,ys,rfl,a,b⟩:=h.cons_of;exact .cons a (b.append k)
theorem Dens.get:∀ {ds:Xq} {xs:Xo} {i:Nat} {d:D},Dens K S ds xs->ds[i]?=some d->∃x,xs[i]?=some x/\Den K S d x
 |[],_,_,_,_,e=>by simp at e
 |_::_,_,0,_,h,e=>by
  obtain⟨y,ys,rfl,a,b⟩:=h.cons_of;simp at e;subst e;exact⟨y,rfl,a⟩
 |_::_,_,i+1,_,h,e=>by obtain⟨y,ys,rfl,a,b⟩:=h.cons_of;obtain⟨x,e1,h1⟩:=b.get (i:=i) (by simpa using e);exact⟨x,by simpa using e1,h1⟩
def Dens.get' {ds:Xq}{xs:Xo}{i:Nat}{x:V}(h:Dens K S ds xs)(e:xs[i]?=some x):∃d,ds[i]?=some d/\Den K S d x:=by
 have hi:i<ds.length:=by rw[h.length];exact (TR.mp e).1
 obtain⟨y,e1,h1⟩:=h.get (Ua hi);rw[e] at e1;cases e1;exact⟨_,Ua hi,h1⟩
theorem Dens.set:∀ {ds:Xq} {xs:Xo} {d:D} {x:V} (i:Nat),Dens K S ds xs->Den K S d x->Dens K S (ds.set i d) (xs.set i x)
 |[],_,_,_,_,h,_=>by rw[h.nil_of];exact .nil
 |_::_,_,_,_,0,h,k=>by
  obtain⟨y,ys,rfl,a,b⟩:=h.cons_of;exact .cons k b
 |_::_,_,_,_,i+1,h,k=>by obtain⟨y,ys,rfl,a,b⟩:=h.cons_of;exact .cons a (b.set i k)
theorem Dens.take:∀ {ds:Xq} {xs:Xo} (i:Nat),Dens K S ds xs->Dens K S (ds.take i) (xs.take i)
 |[],_,_,h=>by rw[h.nil_of];simp;exact .nil
 |_::_,_,0,h=>by simp;exact .nil
 |_::_,_,i+1,h=>by obtain⟨y,ys,rfl,a,b⟩:=h.cons_of;exact .cons a (b.take i)
theorem Dens.drop:∀ {ds:Xq} {xs:Xo} (i:Nat),Dens K S ds xs->Dens K S (ds.drop i) (xs.drop i)
 |[],_,_,h=>by rw[h.nil_of];simp;exact .nil
 |_::_,_,0,h=>h
 |_::_,_,i+1,h=>by obtain⟨y,ys,rfl,a,b⟩:=h.cons_of;exact b.drop i
theorem Dens.reverse:∀ {ds:Xq} {xs:Xo},Dens K S ds xs->Dens K S ds.reverse xs.reverse
 |[],_,h=>by rw[h.nil_of];exact .nil
 |_::_,_,h=>by obtain⟨y,ys,rfl,a,b⟩:=h.cons_of;rw[WF,WF];exact b.reverse.append (.cons a .nil)
mutual
theorem Den.mono (s:Same S S'):∀ {d:D} {v:V},Den K S d v->Den K S' d v
 |.dic _,_,h=>by
  unfold Den at *;obtain⟨p,e,h1⟩:=h;exact⟨p,e,cR s h1⟩
 |.dif _,_,h=>by
  unfold Den at *;obtain⟨p,o,e,h1⟩:=h;exact⟨p,o,e,s _ _ h1⟩
 |.non,_,h=>by unfold Den at *;exact h
 |.bl _,_,h=>by unfold Den at *;exact h
 |.int _,_,h=>by unfold Den at *;exact h
 |.str _,_,h=>by unfold Den at *;exact h
 |.ty _,_,h=>by unfold Den at *;exact h
 |.lst _,_,h=>by
  unfold Den at *;obtain⟨p,xs,e,h1,h2⟩:=h;exact⟨p,xs,e,cR s h1,Dens.mono s h2⟩
 |.tup _,_,h=>by
  unfold Den at *;obtain⟨p,xs,e,h1,h2⟩:=h;exact⟨p,xs,e,TpA.mono s h1,Dens.mono s h2⟩
 |.scr _,_,h=>by
  unfold Den at *;obtain⟨p,xs,e,h1,h2⟩:=h;exact⟨p,xs,e,dX s h1,Dens.mono s h2⟩
 |.mtp _,_,h=>by
  unfold Den at *;obtain⟨p,xs,e,h1,h2⟩:=h;exact⟨p,xs,e,aL s h1,Dens.mono s h2⟩
 |.ins _ _ _,_,h=>by unfold Den at *;obtain⟨p,C,dx,fs,e,h0,h1,h2,h3⟩:=h;exact⟨p,C,dx,fs,e,h0,s _ _ h1,h2,Dens.mono s h3⟩
theorem Dens.mono (s:Same S S'):∀ {ds:Xq} {xs:Xo},Dens K S ds xs->Dens K S' ds xs
 |[],_,h=>by rw[h.nil_of];exact .nil
 |_::_,_,h=>by obtain⟨y,ys,rfl,a,b⟩:=h.cons_of;exact .cons (Den.mono s a) (Dens.mono s b)
end
def den_int {i:Int}  : Den K S (.int i) v↔v = .int i:=by unfold Den;exact UC
def den_bl {b:Bool}  : Den K S (.bl b) v↔v = .bl b:=by unfold Den;exact UC
def den_non:Den K S .non v↔v = .non:=by unfold Den;exact UC
def den_str {x:Str}  : Den K S (.str x) v↔v = .str x:=by unfold Den;exact UC
def den_ty {x:String}  : Den K S (.ty x) v↔v = .ty x:=by unfold Den;exact UC
def den_tup {l:Xq}  : Den K S (.tup l) v↔∃p xs,v = .ref p/\TpA K S p xs/\Dens K S l xs:=by
 constructor
 ·intro h;unfold Den at h;exact h
 ·intro h;unfold Den;exact h
def fP {l:Xq}  (h:Den K S (.tup l) v):∃p xs,v = .ref p/\SqT K S p xs/\Dens K S l xs:=by obtain⟨p,xs,e,h1,h2⟩:=den_tup.mp h;exact⟨p,xs,e,h1.sq,h2⟩
def den_lst {l:Xq}  : Den K S (.lst l) v↔∃p xs,v = .ref p/\Rd S p (.lst xs)/\Dens K S l xs:=by
 constructor
 ·intro h;unfold Den at h;exact h
 ·intro h;unfold Den;exact h
def den_scr {l:Xq}  : Den K S (.scr l) v↔∃p xs,v = .ref p/\SqL K S p xs/\Dens K S l xs:=by
 constructor
 ·intro h;unfold Den at h;exact h
 ·intro h;unfold Den;exact h
def den_mtp {l:Xq}  : Den K S (.mtp l) v↔∃p xs,v = .ref p/\SqT K S p xs/\Dens K S l xs:=by
 constructor
 ·intro h;unfold Den at h;exact h
 ·intro h;unfold Den;exact h
def den_ins {N:Str}{ns:XB}{l:Xq}  : Den K S (.ins N ns l) v↔∃p C dx fs,v = .ref p/\W.nsIn K mainGlobals N=some (some (.ref C))/\S p=some (.ins C dx fs)/\fs.map (·.1)=ns/\Dens K S l (fs.map (·.2)):=by
 constructor
 ·intro h;unfold Den at h;exact h
 ·intro h;unfold Den;exact h
def DenP (K:Xy)(S H:Hp)(d:D)(v:V):Prop:=Den K S d v\/∃l p xs,d = .lst l/\v = .ref p/\H p=some (.lst xs)/\Dens K S l xs
def Den.p {d:D}{v:V}(h:Den K S d v):DenP K S H d v:=.inl h
theorem DenP.lst {l:Xq}{v:V}(s:Same S H)(h:DenP K S H (.lst l) v):∃p xs,v = .ref p/\Rd H p (.lst xs)/\Dens K S l xs:=by
 rcases h with h|⟨l',p,xs,e,e1,e2,e3⟩
 ·obtain⟨p,xs,e,e1,e2⟩:=den_lst.mp h;exact⟨p,xs,e,cR s e1,e2⟩
 ·cases e;exact⟨p,xs,e1,.inl e2,e3⟩
theorem DenP.tup {l:Xq}{v:V}(s:Same S H)(h:DenP K S H (.tup l) v):∃p xs,v = .ref p/\SqT K H p xs/\Dens K S l xs:=by
 rcases h with h|⟨l',p,xs,e,e1,e2,e3⟩
 ·obtain⟨p,xs,e,e1,e2⟩:=fP h;exact⟨p,xs,e,aL s e1,e2⟩
 ·cases e
theorem DenP.scr {l:Xq}  (s:Same S H)(h:DenP K S H (.scr l) v):∃p xs,v = .ref p/\SqL K H p xs/\Dens K S l xs:=by
 rcases h with h|⟨l',p,xs,e,e1,e2,e3⟩
 ·obtain⟨p,xs,e,e1,e2⟩:=den_scr.mp h;exact⟨p,xs,e,dX s e1,e2⟩
 ·cases e
theorem DenP.mtp {l:Xq}  (s:Same S H)(h:DenP K S H (.mtp l) v):∃p xs,v = .ref p/\SqT K H p xs/\Dens K S l xs:=by
 rcases h with h|⟨l',p,xs,e,e1,e2,e3⟩
 ·obtain⟨p,xs,e,e1,e2⟩:=den_mtp.mp h;exact⟨p,xs,e,aL s e1,e2⟩
 ·cases e
theorem DenP.int {i:Int}{v:V}(h:DenP K S H (.int i) v):v = .int i:=by
 rcases h with h|⟨l',p,xs,e,_⟩
 ·exact den_int.mp h
 ·cases e
theorem DenP.bl {i:Bool}  (h:DenP K S H (.bl i) v):v = .bl i:=by
 rcases h with h|⟨l',p,xs,e,_⟩
 ·exact den_bl.mp h
 ·cases e
theorem DenP.str {i:Str}  (h:DenP K S H (.str i) v):v = .str i:=by
 rcases h with h|⟨l',p,xs,e,_⟩
 ·exact den_str.mp h
 ·cases e
theorem DenP.non  (h:DenP K S H .non v):v = .non:=by
 rcases h with h|⟨l',p,xs,e,_⟩
 ·exact den_non.mp h
 ·cases e
theorem DenP.ty {i:String}  (h:DenP K S H (.ty i) v):v = .ty i:=by
 rcases h with h|⟨l',p,xs,e,_⟩
 ·exact den_ty.mp h
 ·cases e
def IT (o:HO):Prop:=∃ks:XD,o = .tup (ks.map V.int)
structure Ext (S H S' H':Hp):Prop where
 sh:Same S S'
 sub:Same S' H'
 alw:∀b o,H b=some o->S b=none->H' b=some o/\(S' b=none\/IT o)
def Ext.al (z:Ext S H S' H')(b:Addr)(o:HO)(h:H b=some o)(n:S b=none)(hn:¬IT o:=by exact fun⟨_,z⟩=>nomatch z):H' b=some o/\S' b=none:=
 ⟨(z.alw b o h n).1,(z.alw b o h n).2.resolve_right hn⟩
theorem Ext.refl (h:Same S H):Ext S H S H:=⟨Same.refl _,h,fun _ _ h n=>⟨h,.inl n⟩⟩
theorem Ext.trans {H1 H2:Hp}(a:Ext S H S1 H1)(b:Ext S1 H1 S2 H2):Ext S H S2 H2:=⟨a.sh.trans b.sh,b.sub,fun c o h n=>by
 obtain⟨k1,k2⟩:=a.alw c o h n;rcases k2 with k2|k2
 ·exact b.alw c o k1 k2
 ·cases q:S1 c with
  |none=>exact⟨(b.alw c o k1 q).1,.inr k2⟩
  |some u=>
   have:=a.sub c u q;rw[k1] at this;cases this
   exact⟨b.sub c _ (b.sh c _ q),.inr k2⟩⟩
def Ext.same (a:Ext S H S' H')(s:Same S H):Same H H':=fun b o h=>by
 cases q:S b with
 |none=>exact (a.alw b o h q).1
 |some u=>have:=s b u q;rw[h] at this;cases this;exact a.sub b o (a.sh b o q)
def Ext.new (s:Same S H)   (h:H p=none):Ext S H (upd S p o) (upd H p o) where
 sh:=fun b u e=>by rw[av (aP e (s.free h))];exact e
 sub:=fun b u e=>by
  by_cases hb:b=p
  ·subst hb;rw[ar] at e ⊢;exact e
  ·rw[av hb] at e ⊢;exact s b u e
 alw:=fun b u e n=>by have hb:=aP e h;rw[av hb,av hb];exact⟨e,.inl n⟩
def Ext.own (s:Same S H)   (h:H p=none):Ext S H S (upd H p o) where
 sh:=Same.refl _
 sub:=fun b u e=>by rw[av (aP (s b u e) h)];exact s b u e
 alw:=fun b u e n=>by have hb:=aP e h;rw[av hb];exact⟨e,.inl n⟩
theorem DenP.mono   (e:Ext S H S' H')(s:Same S H)(h:DenP K S H d v):DenP K S' H' d v:=by
 rcases h with h|⟨l,p,xs,h1,h2,h3,h4⟩
 ·exact .inl (h.mono e.sh)
 ·exact .inr ⟨l,p,xs,h1,h2,e.same s _ _ h3,h4.mono e.sh⟩
inductive DensP (K:W.Frag) (S H:Hp):List D->List V->Prop where
 |nil:DensP K S H [] []
 |cons {d ds v vs}:DenP K S H d v->DensP K S H ds vs->DensP K S H (d::ds) (v::vs)
inductive O where
 |sh (d:D)|lst (l:List O)|tup (l:List O)|dic (ks:XC)|hd (p:Addr) (ks:XC) (os:List O)
 deriving Inhabited
mutual
noncomputable def O.d:O->D
 |.sh d=>d
 |.dic ks=>.dic ks
 |.hd _ ks os=>(O.ds os).headD (.dic ks)
 |.lst l=>.lst (O.ds l)
 |.tup l=>.tup (O.ds l)
noncomputable def O.ds:List O->Xq
 |[]=>[]
 |o::l=>o.d::O.ds l
end
mutual
noncomputable def Own (K:Xy)(S H:Hp):O->V->Xz->Prop
 |.sh d,v,fp=>fp=[]/\Den K S d v
 |.lst l,v,fp=>∃a xs f,v = .ref a/\fp=a::f/\H a=some (.lst xs)/\Owns K S H l xs f
 |.tup l,v,fp=>∃a xs f,v = .ref a/\fp=a::f/\(H a=some (.tup xs)/\¬IT (.tup xs))/\Owns K S H l xs f
 |.dic ks,v,fp=>∃a,v = .ref a/\fp=[a]/\H a=some (.dT (bW ks))
 |.hd p ks os,v,fp=>∃xs f,v=xs.headD (.ref p)/\fp=p::f/\H p=some (.dT (bW ks))/\Owns K S H os xs f
noncomputable def Owns (K:Xy)(S H:Hp):List O->Xo->Xz->Prop
 |[],xs,fp=>xs=[]/\fp=[]
 |o::l,xs,fp=>∃y ys f g,xs=y::ys/\fp=f++g/\Own K S H o y f/\Owns K S H l ys g
end
def den_dic {ks:XC}  : Den K S (.dic ks) v↔∃p,v = .ref p/\Rd S p (.dT (bW ks)):=by unfold Den;exact UC
def own_dic {ks:XC}  {fp:Xz}:Own K S H (.dic ks) v fp↔∃a,v = .ref a/\fp=[a]/\H a=some (.dT (bW ks)):=by unfold Own;exact UC
def den_dif {ks:XC}  : Den K S (.dif ks) v↔∃p o,v = .ref p/\S p=some (.frz o (.dT (bW ks))):=by unfold Den;exact UC
def own_hd {p:Addr}{ks:XC}{os:List O}  {fp:Xz}:Own K S H (.hd p ks os) v fp↔∃xs f,v=xs.headD (.ref p)/\fp=p::f/\H p=some (.dT (bW ks))/\Owns K S H os xs f:=by
 constructor
 ·intro h;unfold Own at h;exact h
 ·intro h;unfold Own;exact h
def own_sh {d:D}  {fp:Xz}:Own K S H (.sh d) v fp↔fp=[]/\Den K S d v:=by unfold Own;exact UC
def own_lst {l:List O}{v:V}{fp:Xz}:Own K S H (.lst l) v fp↔∃a xs f,v = .ref a/\fp=a::f/\H a=some (.lst xs)/\Owns K S H l xs f:=by
 constructor
 ·intro h;unfold Own at h;exact h
 ·intro h;unfold Own;exact h
def own_tup {l:List O}{v:V}{fp:Xz}:Own K S H (.tup l) v fp↔∃a xs f,v = .ref a/\fp=a::f/\(H a=some (.tup xs)/\¬IT (.tup xs))/\Owns K S H l xs f:=by
 constructor
 ·intro h;unfold Own at h;exact h
 ·intro h;unfold Own;exact h
def Owns.nil:Owns K S H [] [] []:=by unfold Owns;exact⟨rfl,rfl⟩
def Owns.cons    {ys:Xo}  (h:Own K S H o y f)(k:Owns K S H l ys g):Owns K S H (o::l) (y::ys) (f++g):=by unfold Owns;exact⟨y,ys,f,g,rfl,rfl,h,k⟩
def Owns.nil_of {xs:Xo}{fp:Xz}(h:Owns K S H [] xs fp):xs=[]/\fp=[]:=by unfold Owns at h;exact h
def Owns.cons_of {o:O}{l:List O}{xs:Xo}{fp:Xz}(h:Owns K S H (o::l) xs fp):∃y ys f g,xs=y::ys/\fp=f++g/\Own K S H o y f/\Owns K S H l ys g:=by unfold Owns at h;exact h
theorem Owns.length:∀ {l:List O} {xs:Xo} {fp:Xz},Owns K S H l xs fp->l.length=xs.length
 |[],_,_,h=>by rw[h.nil_of.1];rfl
 |_::_,_,_,h=>by obtain⟨y,ys,f,g,rfl,rfl,_,k⟩:=h.cons_of;rw[TF,TF,k.length]
theorem Owns.append:∀ {l m:List O} {xs ys:Xo} {f g:Xz},Owns K S H l xs f->Owns K S H m ys g->Owns K S H (l++m) (xs++ys) (f++g)
 |[],_,_,_,_,_,h,k=>by rw[h.nil_of.1,h.nil_of.2];exact k
 |_::_,_,_,_,_,_,h,k=>by obtain⟨y,ys,f,g,rfl,rfl,a,b⟩:=h.cons_of;rw[Ue];exact .cons a (b.append k)
theorem lB:∀ {ds:Xq} {xs:Xo},Dens K S ds xs->Owns K S H (ds.map .sh) xs []
 |[],_,h=>by rw[h.nil_of];exact .nil
 |_::_,_,h=>by obtain⟨y,ys,rfl,a,b⟩:=h.cons_of;exact .cons (f:=[]) (own_sh.mpr ⟨rfl,a⟩) (lB b)
theorem hV:∀ {ds:Xq} {xs:Xo} {fp:Xz},Owns K S H (ds.map .sh) xs fp->Dens K S ds xs/\fp=[]
 |[],_,_,h=>by rw[h.nil_of.1,h.nil_of.2];exact⟨.nil,rfl⟩
 |_::_,_,_,h=>by obtain⟨y,ys,f,g,rfl,rfl,a,b⟩:=h.cons_of;obtain⟨e,a⟩:=own_sh.mp a;obtain⟨b,e2⟩:=hV b;exact⟨.cons a b,by rw[e,e2];rfl⟩
mutual
theorem Own.mono (s:Same S S'):∀ {o:O} {v:V} {fp:Xz},(∀b∈fp,H' b=H b)->Own K S H o v fp->Own K S' H' o v fp
 |.dic _,_,_,k,h=>by
  obtain⟨a,e,rfl,h1⟩:=own_dic.mp h;exact own_dic.mpr ⟨a,e,rfl,by rw[k a TD];exact h1⟩
 |.hd _ _ _,_,_,k,h=>by
  obtain⟨xs,f,e,rfl,h1,h2⟩:=own_hd.mp h;exact own_hd.mpr ⟨xs,f,e,rfl,by rw[k _ TD];exact h1,Owns.mono s (fun b hb=>k b (TJ _ hb)) h2⟩
 |.sh _,_,_,k,h=>by
  obtain⟨e,d⟩:=own_sh.mp h;exact own_sh.mpr ⟨e,d.mono s⟩
 |.lst _,_,_,k,h=>by
  obtain⟨a,xs,f,e,rfl,h1,h2⟩:=own_lst.mp h;exact own_lst.mpr ⟨a,xs,f,e,rfl,by rw[k a TD];exact h1,Owns.mono s (fun b hb=>k b (TJ _ hb)) h2⟩
 |.tup _,_,_,k,h=>by obtain⟨a,xs,f,e,rfl,h1,h2⟩:=own_tup.mp h;exact own_tup.mpr ⟨a,xs,f,e,rfl,by rw[k a TD];exact h1,Owns.mono s (fun b hb=>k b (TJ _ hb)) h2⟩
theorem Owns.mono (s:Same S S'):∀ {l:List O} {xs:Xo} {fp:Xz},(∀b∈fp,H' b=H b)->Owns K S H l xs fp->Owns K S' H' l xs fp
 |[],_,_,k,h=>by rw[h.nil_of.1,h.nil_of.2];exact .nil
 |_::_,_,_,k,h=>by obtain⟨y,ys,f,g,rfl,rfl,a,b⟩:=h.cons_of;exact .cons (Own.mono s (fun b hb=>k b (TK _ hb)) a) (Owns.mono s (fun b hb=>k b (TV _ hb)) b)
end
mutual
theorem Own.there:∀ {o:O} {v:V} {fp:Xz},Own K S H o v fp->∀b∈fp,H b≠none
 |.dic _,_,_,h=>by
  obtain⟨a,e,rfl,h1⟩:=own_dic.mp h;intro b hb;rw[Tv] at hb;subst hb;rw[h1];exact fun z=>by cases z
 |.hd _ _ _,_,_,h=>by
  obtain⟨xs,f,e,rfl,h1,h2⟩:=own_hd.mp h;intro b hb;rcases TN.mp hb with rfl|hb
  ·rw[h1];exact fun z=>by cases z
  ·exact Owns.there h2 b hb
 |.sh _,_,_,h=>by
  obtain⟨e,d⟩:=own_sh.mp h;rw[e];intro b hb;cases hb
 |.lst _,_,_,h=>by
  obtain⟨a,xs,f,e,rfl,h1,h2⟩:=own_lst.mp h;intro b hb;rcases TN.mp hb with rfl|hb
  ·rw[h1];exact fun z=>by cases z
  ·exact Owns.there h2 b hb
 |.tup _,_,_,h=>by
  obtain⟨a,xs,f,e,rfl,⟨h1,_⟩,h2⟩:=own_tup.mp h;intro b hb;rcases TN.mp hb with rfl|hb
  ·rw[h1];exact fun z=>by cases z
  ·exact Owns.there h2 b hb
theorem Owns.there:∀ {l:List O} {xs:Xo} {fp:Xz},Owns K S H l xs fp->∀b∈fp,H b≠none
 |[],_,_,h=>by rw[h.nil_of.2];intro b hb;cases hb
 |_::_,_,_,h=>by
  obtain⟨y,ys,f,g,rfl,rfl,a,b⟩:=h.cons_of;intro c hc;rcases TH.mp hc with hc|hc
  ·exact Own.there a c hc
  ·exact Owns.there b c hc
end
mutual
theorem Own.nit:∀ {o:O} {v:V} {fp:Xz},Own K S H o v fp->∀b∈fp,∀u,H b=some u->¬IT u
 |.dic _,_,_,h=>by
  obtain⟨a,e,rfl,h1⟩:=own_dic.mp h;intro b hb u hu;rw[Tv.mp hb,h1] at hu;cases hu;exact fun⟨_,z⟩=>nomatch z
 |.hd _ _ _,_,_,h=>by
  obtain⟨xs,f,e,rfl,h1,h2⟩:=own_hd.mp h;intro b hb u hu;rcases TN.mp hb with rfl|hb
  ·rw[h1] at hu;cases hu;exact fun⟨_,z⟩=>nomatch z
  ·exact Owns.nit h2 b hb u hu
 |.sh _,_,_,h=>by
  obtain⟨e,d⟩:=own_sh.mp h;rw[e];intro b hb;cases hb
 |.lst _,_,_,h=>by
  obtain⟨a,xs,f,e,rfl,h1,h2⟩:=own_lst.mp h;intro b hb u hu;rcases TN.mp hb with rfl|hb
  ·rw[h1] at hu;cases hu;exact fun⟨_,z⟩=>nomatch z
  ·exact Owns.nit h2 b hb u hu
 |.tup _,_,_,h=>by
  obtain⟨a,xs,f,e,rfl,⟨h1,hn⟩,h2⟩:=own_tup.mp h;intro b hb u hu;rcases TN.mp hb with rfl|hb
  ·rw[h1] at hu;cases hu;exact hn
  ·exact Owns.nit h2 b hb u hu
theorem Owns.nit:∀ {l:List O} {xs:Xo} {fp:Xz},Owns K S H l xs fp->∀b∈fp,∀u,H b=some u->¬IT u
 |[],_,_,h=>by rw[h.nil_of.2];intro b hb;cases hb
 |_::_,_,_,h=>by
  obtain⟨y,ys,f,g,rfl,rfl,a,b⟩:=h.cons_of;intro c hc u hu;rcases TH.mp hc with hc|hc
  ·exact Own.nit a c hc u hu
  ·exact Owns.nit b c hc u hu
end
mutual
theorem Own.den  (s:Same S S2):∀ {o:O} {v:V} {fp:Xz},(∀b∈fp,S2 b=H b)->Own K S H o v fp->Den K S2 o.d v
 |.dic _,_,_,k,h=>by
  obtain⟨a,e,rfl,h1⟩:=own_dic.mp h;rw[O.d];exact den_dic.mpr ⟨a,e,.inl (by rw[k a TD];exact h1)⟩
 |.hd p ks os,_,_,k,h=>by
  obtain⟨xs,f,e,rfl,h1,h2⟩:=own_hd.mp h;have ds:=Owns.den s (fun b hb=>k b (TJ _ hb)) h2;rw[O.d,e];cases q:O.ds os with
  |nil=>
   rw[q] at ds;rw[ds.nil_of];exact den_dic.mpr ⟨p,rfl,.inl (by rw[k p TD];exact h1)⟩
  |cons d l=>
   rw[q] at ds;obtain⟨y,ys,rfl,a,_⟩:=ds.cons_of;exact a
 |.sh _,_,_,k,h=>by
  obtain⟨e,d⟩:=own_sh.mp h;exact d.mono s
 |.lst l,_,_,k,h=>by
  obtain⟨a,xs,f,e,rfl,h1,h2⟩:=own_lst.mp h;rw[O.d];exact den_lst.mpr ⟨a,xs,e,.inl (by rw[k a TD];exact h1),Owns.den s (fun b hb=>k b (TJ _ hb)) h2⟩
 |.tup l,_,_,k,h=>by obtain⟨a,xs,f,e,rfl,h1,h2⟩:=own_tup.mp h;rw[O.d];exact den_tup.mpr ⟨a,xs,e,TpA.of (by rw[k a TD];exact h1.1),Owns.den s (fun b hb=>k b (TJ _ hb)) h2⟩
theorem Owns.den  (s:Same S S2):∀ {l:List O} {xs:Xo} {fp:Xz},(∀b∈fp,S2 b=H b)->Owns K S H l xs fp->Dens K S2 (O.ds l) xs
 |[],_,_,k,h=>by rw[h.nil_of.1,O.ds];exact .nil
 |_::_,_,_,k,h=>by obtain⟨y,ys,f,g,rfl,rfl,a,b⟩:=h.cons_of;rw[O.ds];exact .cons (Own.den s (fun b hb=>k b (TK _ hb)) a) (Owns.den s (fun b hb=>k b (TV _ hb)) b)
end
def Own.denH   {fp:Xz}(s:Same S H)(h:Own K S H o v fp):Den K H o.d v:=h.den s fun _ _=>rfl
def Ext.keeps {fp:Xz}(e:Ext S H S' H')(h:∀b∈fp,S b=none)(t:∀b∈fp,H b≠none)(ni:∀b∈fp,∀u,H b=some u->¬IT u):(∀b∈fp,H' b=H b)/\∀b∈fp,S' b=none:=by
 have key:∀b∈fp,H' b=H b/\S' b=none:=fun b hb=>by
  cases q:H b with
  |none=>exact absurd q (t b hb)
  |some o=>exact e.al b o q (h b hb) (ni b hb o q)
 exact⟨fun b hb=>(key b hb).1,fun b hb=>(key b hb).2⟩
inductive Sl where
 |un|lo|sh (d:D)|ow (o:O)
 deriving Inhabited
noncomputable abbrev Env:=List Sl
structure RlF (K:Xy) (A:Hp) (Λ:Nat->Option Addr) (Φ:Nat->Xz) (ρ:Env) (σ:St) (S H:Hp):Prop where
 len:σ.length=ρ.length
 sub:Same S H
 sh:∀(i:Nat) d,ρ[i]?=some (.sh d)->∃v,σ[i]?=some (some v)/\Den K S d v
 ow:∀(i:Nat) o,ρ[i]?=some (.ow o)->∃v,σ[i]?=some (some v)/\Own K S H o v (Φ i)/\(Φ i).Nodup/\∀b∈Φ i,S b=none/\A b=none
 dj:∀(i j:Nat) o o',i≠j->ρ[i]?=some (.ow o)->ρ[j]?=some (.ow o')->∀b∈Φ i,b∉Φ j
 lo:∀(i:Nat),ρ[i]?=some .lo->∃a,Λ i=some a/\σ[i]?=some (some (.ref a))
 asub:Same A H
 adis:∀b,S b=none\/A b=none\/∃u,A b=some u/\IT u
def RlA (K:Xy)(A:Hp)(Λ:Nat->Option Addr)(ρ:Env)(σ:St)(S H:Hp):Prop:=∃Φ,RlF K A Λ Φ ρ σ S H
def Rl (K:Xy)(ρ:Env)(σ:St)(S H:Hp):Prop:=∃A Λ Φ,RlF K A Λ Φ ρ σ S H
def RlF.ext      (r:RlF K A Λ Φ ρ σ S H)(e:Ext S H S' H'):RlF K A Λ Φ ρ σ S' H' where
 len:=r.len
 sub:=e.sub
 sh:=fun i d h=>by obtain⟨v,h1,h2⟩:=r.sh i d h;exact⟨v,h1,h2.mono e.sh⟩
 ow:=fun i o h=>by obtain⟨v,h1,h2,h3,h4⟩:=r.ow i o h;obtain⟨k1,k2⟩:=e.keeps (fun b hb=>(h4 b hb).1) h2.there h2.nit;exact⟨v,h1,h2.mono e.sh k1,h3,fun b hb=>⟨k2 b hb,(h4 b hb).2⟩⟩
 dj:=r.dj
 lo:=r.lo
 asub:=fun b o h=>e.same r.sub b o (r.asub b o h)
 adis:=fun b=>by
  rcases r.adis b with h|h
  ·cases q:A b with
   |none=>exact .inr (.inl rfl)
   |some o=>
    rcases (e.alw b o (r.asub b o q) h).2 with k|k
    ·exact .inl k
    ·exact .inr (.inr ⟨o,rfl,k⟩)
  ·exact .inr h
theorem RlA.ext     (r:RlA K A Λ ρ σ S H)(e:Ext S H S' H'):RlA K A Λ ρ σ S' H':=let ⟨Φ,f⟩:=r;⟨Φ,f.ext e⟩
def RlA.toRl     (r:RlA K A Λ ρ σ S H):Rl K ρ σ S H:=let ⟨Φ,f⟩:=r;⟨A,Λ,Φ,f⟩
theorem RlA.sub     (r:RlA K A Λ ρ σ S H):Same S H:=let ⟨_,f⟩:=r;f.sub
theorem RlA.asub     (r:RlA K A Λ ρ σ S H):Same A H:=let ⟨_,f⟩:=r;f.asub
theorem RlA.adis     (r:RlA K A Λ ρ σ S H):∀b,S b=none\/A b=none\/∃u,A b=some u/\IT u:=let ⟨_,f⟩:=r;f.adis
theorem RlA.sh {A:Hp}{Λ:Nat->Option Addr}{ρ:Env}{σ:St}(r:RlA K A Λ ρ σ S H):∀(i:Nat) d,ρ[i]?=some (.sh d)->∃v,σ[i]?=some (some v)/\Den K S d v:=let ⟨_,f⟩:=r;f.sh
theorem Rl.ext   (r:Rl K ρ σ S H)(e:Ext S H S' H'):Rl K ρ σ S' H':=let ⟨A,Λ,Φ,f⟩:=r;⟨A,Λ,Φ,f.ext e⟩
theorem Rl.sub   (r:Rl K ρ σ S H):Same S H:=let ⟨_,_,_,f⟩:=r;f.sub
theorem Rl.sh {ρ:Env}{σ:St}(r:Rl K ρ σ S H):∀(i:Nat) d,ρ[i]?=some (.sh d)->∃v,σ[i]?=some (some v)/\Den K S d v:=let ⟨_,_,_,f⟩:=r;f.sh
theorem Rl.ow   (r:Rl K ρ σ S H):∀(i:Nat) o,ρ[i]?=some (.ow o)->∃v fp,σ[i]?=some (some v)/\Own K S H o v fp/\fp.Nodup/\∀b∈fp,S b=none:=fun i o h=>by obtain⟨A,Λ,Φ,f⟩:=r;obtain⟨v,h1,h2,h3,h4⟩:=f.ow i o h;exact⟨v,_,h1,h2,h3,fun b hb=>(h4 b hb).1⟩
noncomputable abbrev XE:=Env->Xr
noncomputable abbrev XT:=Env->Option Bool
noncomputable abbrev XA:=Env->Option (Xq)
def SE (K:Xy)(t:TE)(e:XE):Prop:=∀ρ σ S H (Q:VK) d,Rl K ρ σ S H->e ρ=some d->(∀v S' H',Ext S H S' H'->Den K S' d v->Q v H')->t σ H Q
def SPk (K:Xy)(t:TE)(e:XE):Prop:=∀ρ σ S H (Q:VK) d,Rl K ρ σ S H->e ρ=some d->(∀v S' H',Ext S H S' H'->DenP K S' H' d v->Q v H')->t σ H Q
def SF (K:Xy)(t:TE)(e:XA):Prop:=∀ρ σ S H (Q:VK) l,Rl K ρ σ S H->e ρ=some l->(∀a xs S' H',Ext S H S' H'->H a=none->S' a=none->H' a=some (.lst xs)->Dens K S' l xs->Q (.ref a) H')->t σ H Q
def ST (K:Xy)(t:TT)(c:XT):Prop:=∀ρ σ S H (Q:Bool->Hp->Prop) b,Rl K ρ σ S H->c ρ=some b->(∀S' H',Ext S H S' H'->Q b H')->t σ H Q
def SA (K:Xy)(t:TA)(e:XA):Prop:=∀ρ σ S H (Q:Xo->Hp->Prop) ds,Rl K ρ σ S H->e ρ=some ds->(∀vs S' H',Ext S H S' H'->Dens K S' ds vs->Q vs H')->t σ H Q
def SAP (K:Xy)(t:TA)(e:XA):Prop:=∀ρ σ S H (Q:Xo->Hp->Prop) ds,Rl K ρ σ S H->e ρ=some ds->(∀vs S' H',Ext S H S' H'->DensP K S' H' ds vs->Q vs H')->t σ H Q
def SE.p {t:TE}{e:XE}(h:SE K t e):SPk K t e:=fun ρ σ S H Q d r x k=>h ρ σ S H Q d r x fun v S' H' z dv=>k v S' H' z (.inl dv)
@[simp] noncomputable def xL (e:XA):XE:=fun ρ=>(e ρ).map D.lst
theorem SF.e {t:TE}{e:XA}(h:SF K t e):SE K t (xL e):=fun ρ σ S H Q d r x k=>by
 unfold xL at x;cases q:e ρ with
 |none=>rw[q] at x;cases x
 |some l=>
  rw[q] at x;cases x;refine h ρ σ S H Q l r q fun a xs S' H' z h1 h2 h3 h4=>?_;have s2:Same S' (upd S' a (.lst xs)):=fun b u e=>by rw[av (aP e h2)];exact e
  refine k _ (upd S' a (.lst xs)) H' ⟨z.sh.trans s2,fun b u e=>?_,fun b o e n=>?_⟩ (den_lst.mpr ⟨a,xs,rfl,.inl ar,h4.mono s2⟩)
  ·by_cases hb:b=a
   ·subst hb;rw[ar] at e;cases e;exact h3
   ·rw[av hb] at e;exact z.sub b u e
  ·obtain⟨y1,y2⟩:=z.alw b o e n;exact⟨y1,by rw[av (aP e h1)];exact y2⟩
@[simp] noncomputable def ak (i:Nat):XE:=fun ρ=>match ρ[i]? with|some (.sh d)=>some d|_=>none
noncomputable def shs:List O->Option (Xq)
 |[]=>some []
 |.sh d::l=>(shs l).map fun r=>d::r
 |_=>none
theorem lG:∀l:Xq,shs (l.map .sh)=some l
 |[]=>rfl
 |d::l=>by rw[TQ,shs,lG l];rfl
theorem t6:∀ {os:List O} {l:Xq},shs os=some l->os=l.map .sh
 |[],l,h=>by cases h;rfl
 |o::os,l,h=>by
  cases o with
  |sh d=>
   have h':(shs os).map (fun r=>d::r)=some l:=h;cases q:shs os with
   |none=>rw[q] at h';cases h'
   |some m=>rw[q] at h';cases h';rw[t6 q];rfl
  |lst _|tup _|dic _|hd _ _ _=>cases h
noncomputable def Hr:Sl->Xr
 |.sh d=>some d
 |.ow (.sh d)=>some d
 |.ow (.lst os)=>(shs os).map D.lst
 |_=>none
@[simp] theorem Qg (d:D):Hr (.ow (.sh d))=some d:=rfl
@[simp] theorem Qi (d:D):Hr (.sh d)=some d:=rfl
@[simp] theorem Qh (l:Xq):Hr (.ow (.lst (l.map .sh)))=some (.lst l):=by show (shs _).map D.lst=_;rw[lG];rfl
@[simp] noncomputable def af (i:Nat):XE:=fun ρ=>(ρ[i]?).bind Hr
def Ls (i:Nat):SE K (jm i) (ak i):=fun ρ σ S H Q d r x k=>by
 unfold ak at x;split at x
 ·rename_i d' e;cases x;obtain⟨v,h1,h2⟩:=r.sh i _ e;exact⟨v,h1,k v S H (Ext.refl r.sub) h2⟩
 ·cases x
def Ih (i:Nat):SPk K (jm i) (af i):=fun ρ σ S H Q d r x k=>by
 unfold af at x;cases q:ρ[i]? with
 |none=>rw[q] at x;cases x
 |some s=>
  rw[q] at x;cases s with
  |un|lo=>cases x
  |sh d'=>
   cases x;obtain⟨v,h1,h2⟩:=r.sh i _ q;exact⟨v,h1,k v S H (Ext.refl r.sub) (.inl h2)⟩
  |ow o=>
   cases o with
   |sh d'=>
    cases x;obtain⟨v,fp,h1,h2,h3,h4⟩:=r.ow i _ q;exact⟨v,h1,k v S H (Ext.refl r.sub) (.inl (own_sh.mp h2).2)⟩
   |tup l|dic _|hd _ _ _=>cases x
   |lst os=>
    have x':(shs os).map D.lst=some d:=x;cases qs:shs os with
    |none=>rw[qs] at x';cases x'
    |some l=>rw[qs] at x';cases x';have e:=t6 qs;subst e;obtain⟨v,fp,h1,h2,h3,h4⟩:=r.ow i _ q;obtain⟨a,xs,f,rfl,rfl,h5,h6⟩:=own_lst.mp h2;exact⟨_,h1,k _ S H (Ext.refl r.sub) (.inr ⟨l,a,xs,rfl,rfl,h5,(hV h6).1⟩)⟩
def SQ (K:Xy)(t:TE)(e:XE):Prop:=∀ρ σ S H (Q:VK) d,Rl K ρ σ S H->e ρ=some d->(∀v S' H',Ext S H S' H'->Den K H' d v->Q v H')->t σ H Q
def sO   (s:Same S H)(h:DenP K S H d v):Den K H d v:=by
 rcases h with h|⟨l,p,xs,rfl,rfl,h1,h2⟩
 ·exact h.mono s
 ·exact den_lst.mpr ⟨p,xs,rfl,.inl h1,h2.mono s⟩
def SPk.q {t:TE}{e:XE}(h:SPk K t e):SQ K t e:=fun ρ σ S H Q d r x k=>h ρ σ S H Q d r x fun v S' H' z dv=>k v S' H' z (sO z.sub dv)
noncomputable def Hs:Sl->Xr
 |.sh d=>some d
 |.ow o=>some o.d
 |_=>none
@[simp] theorem O0 (d:D):Hs (.sh d)=some d:=rfl
@[simp] theorem OZ (o:O):Hs (.ow o)=some o.d:=rfl
@[simp] noncomputable def DS (i:Nat):XE:=fun ρ=>(ρ[i]?).bind Hs
def Nv (i:Nat):SQ K (jm i) (DS i):=fun ρ σ S H Q d r x k=>by
 unfold DS at x;cases q:ρ[i]? with
 |none=>rw[q] at x;cases x
 |some s=>
  rw[q] at x;cases s with
  |un|lo=>cases x
  |sh d'=>
   cases x;obtain⟨v,h1,h2⟩:=r.sh i _ q;exact⟨v,h1,k v S H (Ext.refl r.sub) (h2.mono r.sub)⟩
  |ow o=>cases x;obtain⟨v,fp,h1,h2,h3,h4⟩:=r.ow i _ q;exact⟨_,h1,k _ S H (Ext.refl r.sub) (h2.denH r.sub)⟩
@[simp] noncomputable def xC (d:D):XE:=fun _=>some d
noncomputable def pe:D->Option V
 |.non=>some .non|.bl b=>some (.bl b)|.int i=>some (.int i)|.str x=>some (.str x)|.ty x=>some (.ty x)|_=>none
def nX  {v:V}(h:pe d=some v):Den K S d v:=by cases d<;>simp[pe] at h<;>subst h<;>unfold Den<;>rfl
def s_c {v:V}  (h:pe d=some v):SE K (tC v) (xC d):=fun ρ σ S H Q e r x k=>by cases x;exact k v S H (Ext.refl r.sub) (nX h)
@[simp] noncomputable def xFl (e:XE):XE:=fun ρ=>(e ρ).bind fun d=>if (pe d).isSome then some d else none
def JD  {w:V}(h:pe d=some w)(k:Den K S d v):v=w:=by cases d<;>simp[pe] at h<;>subst h<;>unfold Den at k<;>exact k
def SQ.fl   (h:SQ K t e):SE K t (xFl e):=fun ρ σ S H Q d r x k=>by
 unfold xFl at x;cases q:e ρ with
 |none=>rw[q] at x;cases x
 |some d'=>
  rw[q] at x;dsimp only[Option.bind] at x;split at x
  ·rename_i hf;cases x;obtain⟨w,hw⟩:=WE.mp hf;refine h ρ σ S H Q d r q fun v S' H' z dv=>k v S' H' z ?_;rw[JD hw dv];exact nX hw
  ·cases x
@[simp] noncomputable def xOp (f:D->D->Xr)(a b:XE):XE:=fun ρ=>(a ρ).bind fun x=>(b ρ).bind fun y=>f x y
def SR2 (K:Xy)(r:R2)(f:D->D->Xr):Prop:=∀S H x y d e g (Q:VK),Same S H->DenP K S H d x->DenP K S H e y->f d e=some g->(∀v S' H',Ext S H S' H'->Den K S' g v->Q v H')->r x y H Q
def PB   {ta tb:TE}  (hr:SR2 K r f)(ha:SPk K ta a)(hb:SPk K tb b):SE K (tOp r ta tb) (xOp f a b):=fun ρ σ S H Q d r x k=>by
 unfold xOp at x;cases qa:a ρ with
 |none=>rw[qa] at x;cases x
 |some da=>
  rw[qa] at x;dsimp only[Option.bind] at x;cases qb:b ρ with
  |none=>rw[qb] at x;cases x
  |some db=>rw[qb] at x;refine ha ρ σ S H _ da r qa fun v S1 H1 z1 d1=>?_;have r1:=r.ext z1;refine hb ρ σ S1 H1 _ db r1 qb fun w S2 H2 z2 d2=>?_;exact hr S2 H2 v w da db d Q z2.sub (d1.mono z2 r1.sub) d2 x fun u S3 H3 z3 d3=>k u S3 H3 ((z1.trans z2).trans z3) d3
def Jx {S2:Hp}(s:Same S H)(z:Ext H H S3 H3):Ext S H S H3:=⟨Same.refl _,fun b u e=>z.sub b u (z.sh b u (s b u e)),fun b o h n=>⟨z.sub b o (z.sh b o h),.inl n⟩⟩
def PD   {ta tb:TE}  (hr:SR2 K r f)(ha:SQ K ta a)(hb:SQ K tb b):SQ K (tOp r ta tb) (xOp f a b):=fun ρ σ S H Q d r x k=>by
 unfold xOp at x;cases qa:a ρ with
 |none=>rw[qa] at x;cases x
 |some da=>
  rw[qa] at x;dsimp only[Option.bind] at x;cases qb:b ρ with
  |none=>rw[qb] at x;cases x
  |some db=>rw[qb] at x;refine ha ρ σ S H _ da r qa fun v S1 H1 z1 d1=>?_;have r1:=r.ext z1;refine hb ρ σ S1 H1 _ db r1 qb fun w S2 H2 z2 d2=>?_;exact hr H2 H2 v w da db d Q (Same.refl _) (.inl (d1.mono (z2.same r1.sub))) (.inl d2) x fun u S3 H3 z3 d3=>k u S2 H3 ((z1.trans z2).trans (Jx (S2:=S2) z2.sub z3)) (d3.mono z3.sub)
@[simp] noncomputable def xUn (f:D->Xr)(a:XE):XE:=fun ρ=>(a ρ).bind f
def SR1 (K:Xy)(r:V->Hp->VK->Prop)(f:D->Xr):Prop:=∀S H x d g (Q:VK),Same S H->DenP K S H d x->f d=some g->(∀v S' H',Ext S H S' H'->Den K S' g v->Q v H')->r x H Q
def QT   {ta:TE}  (hr:SR1 K r f)(ha:SPk K ta a):SE K (tUn r ta) (xUn f a):=fun ρ σ S H Q d r x k=>by
 unfold xUn at x;cases qa:a ρ with
 |none=>rw[qa] at x;cases x
 |some da=>rw[qa] at x;refine ha ρ σ S H _ da r qa fun v S1 H1 z1 d1=>?_;exact hr S1 H1 v da d Q z1.sub d1 x fun u S3 H3 z3 d3=>k u S3 H3 (z1.trans z3) d3
@[simp] noncomputable def aj:XA:=fun _=>some []
@[simp] noncomputable def ab (a:XE)(b:XA):XA:=fun ρ=>(a ρ).bind fun x=>(b ρ).bind fun y=>some (x::y)
def xY:SA K p8 aj:=fun ρ σ S H Q ds r x k=>by cases x;exact k [] S H (Ext.refl r.sub) .nil
def NA:SAP K p8 aj:=fun ρ σ S H Q ds r x k=>by cases x;exact k [] S H (Ext.refl r.sub) .nil
def oV    {ds:Xq}(x:ab a b ρ=some ds):∃d r,a ρ=some d/\b ρ=some r/\ds=d::r:=by
 unfold ab at x;cases qa:a ρ with
 |none=>rw[qa] at x;cases x
 |some da=>
  rw[qa] at x;dsimp only[Option.bind] at x;cases qb:b ρ with
  |none=>rw[qb] at x;cases x
  |some db=>rw[qb] at x;cases x;exact⟨_,_,rfl,rfl,rfl⟩
def xX {ta:TE}    (ha:SE K ta a)(hb:SA K tr b):SA K (ie ta tr) (ab a b):=fun ρ σ S H Q ds r x k=>by obtain⟨da,db,qa,qb,rfl⟩:=oV x;refine ha ρ σ S H _ da r qa fun v S1 H1 z1 d1=>hb ρ σ S1 H1 _ db (r.ext z1) qb fun vs S2 H2 z2 d2=>k _ S2 H2 (z1.trans z2) (.cons (d1.mono z2.sh) d2)
def KI {ta:TE}    (ha:SPk K ta a)(hb:SAP K tr b):SAP K (ie ta tr) (ab a b):=fun ρ σ S H Q ds r x k=>by obtain⟨da,db,qa,qb,rfl⟩:=oV x;refine ha ρ σ S H _ da r qa fun v S1 H1 z1 d1=>hb ρ σ S1 H1 _ db (r.ext z1) qb fun vs S2 H2 z2 d2=>k _ S2 H2 (z1.trans z2) (.cons (d1.mono z2 (r.ext z1).sub) d2)
@[irreducible] noncomputable def LIM:Nat:=1000000
def g7:LIM<sizeLine:=by rw[Uj];unfold LIM;decide
@[simp] noncomputable def aM (a:XA):XE:=fun ρ=>(a ρ).bind fun l=>if l.length<=LIM then some (.tup l) else none
def Ig   (h:SA K t a):SE K (K0 t) (aM a):=fun ρ σ S H Q d r x k=>by
 unfold aM at x;cases q:a ρ with
 |none=>rw[q] at x;cases x
 |some l=>
  rw[q] at x;dsimp only[Option.bind] at x;split at x
  ·rename_i hl;cases x;refine h ρ σ S H _ l r q fun vs S1 H1 z1 d1=>⟨?_,fun p hp=>?_⟩
   ·rw[<- d1.length];exact Ut (UT hl g7)
   ·have z2:=Ext.new (o:=.tup vs) z1.sub hp;exact k _ _ _ (z1.trans z2) (den_tup.mpr ⟨p,vs,rfl,TpA.of ar,d1.mono z2.sh⟩)
  ·cases x
@[simp] noncomputable def lg (a:XA):XA:=fun ρ=>(a ρ).bind fun l=>if l.length<=LIM then some l else none
def Py   (h:SA K t a):SF K (KY t) (lg a):=fun ρ σ S H Q l r x k=>by
 unfold lg at x;cases q:a ρ with
 |none=>rw[q] at x;cases x
 |some l=>
  rw[q] at x;dsimp only[Option.bind] at x;split at x
  ·rename_i hl;cases x;refine h ρ σ S H _ l r q fun vs S1 H1 z1 d1=>⟨?_,fun p hp=>?_⟩
   ·rw[<- d1.length];exact Ut (UT hl g7)
   ·have hp0:H p=none:=(z1.same r.sub).free hp;exact k p vs S1 _ (z1.trans (Ext.own z1.sub hp)) hp0 (z1.sub.free hp) ar d1
  ·cases x
@[simp] noncomputable def xCB (f:Xp)(a:XA):XE:=fun ρ=>(a ρ).bind f
def SRB (K:Xy)(r:Xo->Hp->VK->Prop)(f:Xp):Prop:=∀S H vs ds g (Q:VK),Same S H->DensP K S H ds vs->f ds=some g->(∀v S' H',Ext S H S' H'->Den K S' g v->Q v H')->r vs H Q
def QO     (hr:SRB K r f)(h:SAP K t a):SE K (tCB r t) (xCB f a):=fun ρ σ S H Q d rl x k=>by
 unfold xCB at x;cases q:a ρ with
 |none=>rw[q] at x;cases x
 |some ds=>rw[q] at x;refine h ρ σ S H _ ds rl q fun vs S1 H1 z1 d1=>?_;exact hr S1 H1 vs ds d Q z1.sub d1 x fun v S2 H2 z2 d2=>k v S2 H2 (z1.trans z2) d2
@[simp] noncomputable def Cr (f:Xq->Option (Xq))(a:XA):XA:=fun ρ=>(a ρ).bind f
def SRF (K:Xy)(r:Xo->Hp->VK->Prop)(f:Xq->Option (Xq)):Prop:=∀S H vs ds g (Q:VK),Same S H->DensP K S H ds vs->f ds=some g->(∀a xs H',Ext S H S H'->H a=none->H' a=some (.lst xs)->Dens K S g xs->Q (.ref a) H')->r vs H Q
def Pu     (hr:SRF K r f)(h:SAP K t a):SF K (tCB r t) (Cr f a):=fun ρ σ S H Q d rl x k=>by
 unfold Cr at x;cases q:a ρ with
 |none=>rw[q] at x;cases x
 |some ds=>rw[q] at x;refine h ρ σ S H _ ds rl q fun vs S1 H1 z1 d1=>?_;exact hr S1 H1 vs ds d Q z1.sub d1 x fun b xs H2 z2 h1 h2 d2=>k b xs S1 H2 (z1.trans z2) ((z1.same rl.sub).free h1) (z1.sub.free h1) h2 d2
def STr (K:Xy)(t:TE)(e:Env->Option O):Prop:=∀ρ σ S H (Q:VK) o,Rl K ρ σ S H->e ρ=some o->(∀v fp S' H',Ext S H S' H'->Own K S' H' o v fp->fp.Nodup->(∀b∈fp,H b=none/\S' b=none)->Q v H')->t σ H Q
@[simp] noncomputable def xLT (e:XA):Env->Option O:=fun ρ=>(e ρ).map fun l=>.lst (l.map .sh)
theorem SF.t {t:TE}{e:XA}(h:SF K t e):STr K t (xLT e):=fun ρ σ S H Q o r x k=>by
 unfold xLT at x;cases q:e ρ with
 |none=>rw[q] at x;cases x
 |some l=>rw[q] at x;cases x;refine h ρ σ S H Q l r q fun a xs S' H' z h1 h2 h3 h4=>?_;refine k _ [a] S' H' z (own_lst.mpr ⟨a,xs,[],rfl,rfl,h3,lB h4⟩) (by simp) fun b hb=>?_;rw[Tv.mp hb];exact⟨h1,h2⟩
@[simp] noncomputable def xSh (e:XE):Env->Option O:=fun ρ=>(e ρ).map .sh
theorem SE.t {t:TE}{e:XE}(h:SE K t e):STr K t (xSh e):=fun ρ σ S H Q o r x k=>by
 unfold xSh at x;cases q:e ρ with
 |none=>rw[q] at x;cases x
 |some d=>rw[q] at x;cases x;exact h ρ σ S H Q d r q fun v S' H' z dv=>k v [] S' H' z (own_sh.mpr ⟨rfl,dv⟩) .nil fun b hb=>by cases hb
noncomputable def pf (S H:Hp)(fp:Xz):Hp:=fun b=>if b∈fp then H b else S b
def jC {fp:Xz}{b:Addr}(h:b∈fp):pf S H fp b=H b:=by unfold pf;rw[Ts h]
def fQ {fp:Xz}{b:Addr}(h:b∉fp):pf S H fp b=S b:=by unfold pf;rw[Tr h]
def lv {fp:Xz}(n:∀b∈fp,S b=none):Same S (pf S H fp):=fun b o e=>by rw[fQ fun hb=>by rw[n b hb] at e;cases e];exact e
def zk {fp:Xz}(s:Same S H):Same (pf S H fp) H:=fun b o e=>by
 by_cases hb:b∈fp
 ·rw[jC hb] at e;exact e
 ·rw[fQ hb] at e;exact s b o e
def zj {fp:Xz}(z:Ext S H S' H')(n:∀b∈fp,H b=none/\S' b=none):Ext S H (pf S' H' fp) H':=
 ⟨z.sh.trans (lv fun b hb=>(n b hb).2),zk z.sub,fun b o h hn=>⟨(z.alw b o h hn).1,by rw[fQ fun hb=>by rw[(n b hb).1] at h;cases h];exact (z.alw b o h hn).2⟩⟩
@[simp] noncomputable def xOD (e:Env->Option O):XE:=fun ρ=>(e ρ).map O.d
theorem STr.e {t:TE}{e:Env->Option O}(h:STr K t e):SE K t (xOD e):=fun ρ σ S H Q d r x k=>by
 unfold xOD at x;cases q:e ρ with
 |none=>rw[q] at x;cases x
 |some o=>rw[q] at x;cases x;exact h ρ σ S H Q o r q fun v fp S' H' z ow nd n=>k v _ H' (zj z n) (ow.den (lv fun b hb=>(n b hb).2) fun b hb=>jC hb)
noncomputable def bS (K:Xy)(n:Nat)(m:Xq->Option O):Sp:=fun vs H Q _=>vs.length=n/\∃S ds o,Same S H/\Dens K S ds vs/\m ds=some o/\∀v fp S' H',Ext S H S' H'->Own K S' H' o v fp->fp.Nodup->(∀b∈fp,H b=none/\S' b=none)->Q v H'
@[simp] noncomputable def qv (m:Xq->Option O)(a:XA):Env->Option O:=fun ρ=>(a ρ).bind m
def DC {n:Nat}     (h:SA K t a)(hn:∀ρ ds,a ρ=some ds->ds.length=n):STr K (qP (bS K n m) [] E t) (qv m a):=fun ρ σ S H Q o rl x k=>by
 unfold qv at x;cases q:a ρ with
 |none=>rw[q] at x;cases x
 |some ds=>rw[q] at x;refine h ρ σ S H _ ds rl q fun vs S1 H1 z1 d1=>?_;rw[Um];refine⟨by rw[<- d1.length];exact hn ρ ds q,S1,ds,o,z1.sub,d1,x,fun v fp S2 H2 z2 ow nd n=>k v fp S2 H2 (z1.trans z2) ow nd fun b hb=>⟨(z1.same rl.sub).free (n b hb).1,(n b hb).2⟩⟩
@[simp] noncomputable def az (m:Xp)(a:XA):XE:=fun ρ=>(a ρ).bind m
def Ia {n:Nat}     (h:SA K t a)(hn:∀ρ ds,a ρ=some ds->ds.length=n):SE K (qP (bS K n m) [] E t) (az (fun ds=>(m ds).map O.d) a):=by
 have:=(DC (m:=m) (E:=E) h hn).e;have e:xOD (qv m a)=az (fun ds=>(m ds).map O.d) a:=by
  funext ρ
  show ((a ρ).bind m).map O.d=(a ρ).bind fun ds=>(m ds).map O.d;cases a ρ<;>rfl
 rw[e] at this;exact this
@[simp] noncomputable def Rs (m:Xp)(a:XA):XE:=fun ρ=>((a ρ).bind m).bind fun d=>if (pe d).isSome then some d else none
def SAT (K:Xy)(t:TA)(e:Env->Option (List O)):Prop:=∀ρ σ S H (Q:Xo->Hp->Prop) os,Rl K ρ σ S H->e ρ=some os->(∀vs fp S' H',Ext S H S' H'->Owns K S' H' os vs fp->fp.Nodup->(∀b∈fp,H b=none/\S' b=none)->Q vs H')->t σ H Q
@[simp] noncomputable def IZ:Env->Option (List O):=fun _=>some []
@[simp] noncomputable def yn (a:Env->Option O)(b:Env->Option (List O)):Env->Option (List O):=fun ρ=>(a ρ).bind fun x=>(b ρ).bind fun y=>some (x::y)
def NC:SAT K p8 IZ:=fun ρ σ S H Q ds r x k=>by cases x;exact k [] [] S H (Ext.refl r.sub) .nil .nil fun _ hb=>by cases hb
def KM {ta:TE}    (ha:STr K ta a)(hb:SAT K tr b):SAT K (ie ta tr) (yn a b):=fun ρ σ S H Q os r x k=>by
 unfold yn at x;cases qa:a ρ with
 |none=>rw[qa] at x;cases x
 |some oa=>
  rw[qa] at x;dsimp only[Option.bind] at x;cases qb:b ρ with
  |none=>rw[qb] at x;cases x
  |some ob=>
   rw[qb] at x;cases x;refine ha ρ σ S H _ oa r qa fun v fp S1 H1 z1 o1 nd1 n1=>hb ρ σ S1 H1 _ ob (r.ext z1) qb fun vs fq S2 H2 z2 o2 nd2 n2=>?_;obtain⟨k1,k2⟩:=z2.keeps (fun b hb=>(n1 b hb).2) o1.there o1.nit;refine k _ _ S2 H2 (z1.trans z2) (.cons (o1.mono z2.sh k1) o2) ?_ fun c hc=>?_
   ·refine VA.mpr ⟨nd1,nd2,fun c hc d hd e=>?_⟩;subst e;exact o1.there c hc (n2 c hd).1
   ·rcases TH.mp hc with hc|hc
    ·exact⟨(n1 c hc).1,k2 c hc⟩
    ·exact⟨(z1.same r.sub).free (n2 c hc).1,(n2 c hc).2⟩
@[simp] noncomputable def je:List O->Bool
 |[]=>true
 |.sh (.int _)::l=>je l
 |.hd _ _ _::l=>je l
 |_::_=>false
@[simp] noncomputable def Jb (a:Env->Option (List O)):Env->Option O:=fun ρ=>(a ρ).bind fun l=>if l.length<=LIM/\je l=false then some (.tup l) else none
def Bf {d:D}{k:Int}(h:Den K S d (.int k)):d = .int k:=by cases d<;>unfold Den at h<;>first|(cases h;rfl)|(cases h;done)|(obtain⟨_,h,_⟩:=h;cases h;done)|(obtain⟨_,_,h,_⟩:=h;cases h;done)|(obtain⟨_,_,_,h,_⟩:=h;cases h;done)|(obtain⟨_,_,_,_,h,_⟩:=h;cases h;done)
theorem zW:∀ {l:List O} {xs:Xo} {fp:Xz} {ks:XD},Owns K S H l xs fp->xs=ks.map V.int->je l=true
 |[],_,_,_,_,_=>rfl
 |o::l,_,_,ks,h,e=>by
  obtain⟨y,ys,f,g,rfl,rfl,a,b⟩:=h.cons_of;cases ks with
  |nil=>cases e
  |cons k ks=>
   rw[TQ] at e;cases e;have ih:=zW b rfl;cases o with
   |sh d=>
    obtain⟨_,d1⟩:=own_sh.mp a;have:d = .int k:=Bf d1;subst this;unfold je;exact ih
   |lst _=>obtain⟨_,_,_,e,_⟩:=own_lst.mp a;cases e
   |tup _=>obtain⟨_,_,_,e,_⟩:=own_tup.mp a;cases e
   |dic _=>obtain⟨_,e,_⟩:=own_dic.mp a;cases e
   |hd p q os=>unfold je;exact ih
@[simp] noncomputable def IY (a:Env->Option (List O)):Env->Option O:=fun ρ=>(a ρ).bind fun l=>if l.length<=LIM then some (.lst l) else none
def wP {fp:Xz}   (h:H p=none)(t:∀b∈fp,H b≠none):(∀b∈fp,upd H p o b=H b)/\p∉fp:=by have np:p∉fp:=fun hp=>t p hp h;exact⟨fun b hb=>av fun e=>np (e▸hb),np⟩
def Nu   (h:SAT K t a):STr K (K0 t) (Jb a):=fun ρ σ S H Q o r x k=>by
 unfold Jb at x;cases q:a ρ with
 |none=>rw[q] at x;cases x
 |some l=>
  rw[q] at x;dsimp only[Option.bind] at x;split at x
  ·rename_i hlc;obtain⟨hl,hc⟩:=hlc;cases x;refine h ρ σ S H _ l r q fun vs fp S1 H1 z1 o1 nd1 n1=>⟨?_,fun p hp=>?_⟩
   ·rw[<- o1.length];exact Ut (UT hl g7)
   ·obtain⟨k1,k2⟩:=wP (o:=.tup vs) hp o1.there;have nit:¬IT (.tup vs):=fun hpt0=>by
     obtain⟨ks,e⟩:=hpt0;cases e;rw[zW o1 rfl] at hc;cases hc
    refine k _ (p::fp) S1 _ (z1.trans (Ext.own z1.sub hp)) (own_tup.mpr ⟨p,vs,fp,rfl,rfl,⟨ar,nit⟩,o1.mono (Same.refl _) k1⟩) (Uk.mpr ⟨k2,nd1⟩) fun b hb=>?_;rcases TN.mp hb with rfl|hb
    ·exact⟨(z1.same r.sub).free hp,z1.sub.free hp⟩
    ·exact n1 b hb
  ·cases x
def Ni   (h:SAT K t a):STr K (KY t) (IY a):=fun ρ σ S H Q o r x k=>by
 unfold IY at x;cases q:a ρ with
 |none=>rw[q] at x;cases x
 |some l=>
  rw[q] at x;dsimp only[Option.bind] at x;split at x
  ·rename_i hl;cases x;refine h ρ σ S H _ l r q fun vs fp S1 H1 z1 o1 nd1 n1=>⟨?_,fun p hp=>?_⟩
   ·rw[<- o1.length];exact Ut (UT hl g7)
   ·obtain⟨k1,k2⟩:=wP (o:=.lst vs) hp o1.there;refine k _ (p::fp) S1 _ (z1.trans (Ext.own z1.sub hp)) (own_lst.mpr ⟨p,vs,fp,rfl,rfl,ar,o1.mono (Same.refl _) k1⟩) (Uk.mpr ⟨k2,nd1⟩) fun b hb=>?_;rcases TN.mp hb with rfl|hb
    ·exact⟨(z1.same r.sub).free hp,z1.sub.free hp⟩
    ·exact n1 b hb
  ·cases x
def C6  {ds:Xq}(h:aj ρ=some ds):ds.length=0:=by cases h;rfl
def zr  {b:XA}{n:Nat}(h:∀ρ ds,b ρ=some ds->ds.length=n)(ρ:Env)(ds:Xq)(x:ab a b ρ=some ds):ds.length=n+1:=by obtain⟨da,db,qa,qb,rfl⟩:=oV x;rw[TF,h ρ db qb]
@[simp] noncomputable def IV (a b:XE):XE:=fun ρ=>(a ρ).bind fun x=>match x with|.bl true=>b ρ|.bl false=>some (.bl false)|_=>none
@[simp] noncomputable def Ti (a b:XE):XE:=fun ρ=>(a ρ).bind fun x=>match x with|.bl true=>some (.bl true)|.bl false=>b ρ|_=>none
@[simp] noncomputable def Si (a:XE):XE:=fun ρ=>(a ρ).bind fun x=>match x with|.bl c=>some (.bl (!c))|_=>none
def M7 {ta tb:TE}  (ha:SPk K ta a)(hb:SE K tb b):SE K (Iz ta tb) (IV a b):=fun ρ σ S H Q d r x k=>by
 unfold IV at x;cases qa:a ρ with
 |none=>rw[qa] at x;cases x
 |some da=>
  rw[qa] at x;dsimp only[Option.bind] at x;refine ha ρ σ S H _ da r qa fun v S1 H1 z1 d1=>?_;split at x
  ·exact⟨true,d1.bl,BB (hb ρ σ S1 H1 Q d (r.ext z1) x fun w S2 H2 z2 d2=>k w S2 H2 (z1.trans z2) d2)⟩
  ·cases x;exact⟨false,d1.bl,BA (k _ S1 H1 z1 (den_bl.mpr rfl))⟩
  ·cases x
@[simp] noncomputable def Td (c:XT)(a b:XE):XE:=fun ρ=>(c ρ).bind fun q=>if q=true then a ρ else b ρ
@[simp] noncomputable def xB (a:XE):XT:=fun ρ=>(a ρ).bind fun x=>match x with|.bl c=>some c|_=>none
def s_b {ta:TE}  (ha:SPk K ta a):ST K (tB ta) (xB a):=fun ρ σ S H Q b r x k=>by
 unfold xB at x;cases qa:a ρ with
 |none=>rw[qa] at x;cases x
 |some da=>
  rw[qa] at x;dsimp only[Option.bind] at x;refine ha ρ σ S H _ da r qa fun v S1 H1 z1 d1=>?_;split at x
  ·cases x;exact⟨_,d1.bl,k S1 H1 z1⟩
  ·cases x
def Ie {ta:TE}  (ha:SPk K ta a):ST K (DJ ta) (xB a):=s_b ha
noncomputable def AJ:D->Option Bool
 |.non=>some false
 |.bl b=>some b
 |.int i=>some (i != 0)
 |.str y=>if y.length<=LIM then some ((y.length:Int) != 0) else none
 |.lst l=>some (!l.isEmpty)
 |.tup l=>some (!l.isEmpty)
 |.scr l=>some (!l.isEmpty)
 |_=>none
def mH {ds:Xq}{xs:Xo}(h:Dens K S ds xs):(!ds.isEmpty) = !xs.isEmpty:=by have:=h.length;cases ds<;>cases xs<;>simp_all
@[simp] noncomputable def yq (a:XE):XT:=fun ρ=>(a ρ).bind AJ
def NJ   {b:Bool}(s:Same S H)(h:DenP K S H d v)(x:AJ d=some b):Jh K v H b:=by
 cases d with
 |non=>rw[h.non];cases x;rfl
 |bl c=>rw[h.bl];cases x;rfl
 |int i=>rw[h.int];cases x;rfl
 |str y=>
  rw[h.str];have x':(if y.length<=LIM then some ((y.length:Int) != 0) else none)=some b:=x;split at x'
  ·rename_i hl;cases x';exact⟨Ut (UT hl g7),rfl⟩
  ·cases x'
 |lst l=>
  obtain⟨p,xs,rfl,h1,h2⟩:=h.lst s;cases x;exact .inl ⟨xs,.inl h1,mH h2⟩
 |tup l=>
  obtain⟨p,xs,rfl,h1,h2⟩:=h.tup s;cases x;exact .inr (.inl ⟨xs,h1,mH h2⟩)
 |scr l=>
  obtain⟨p,xs,rfl,h1,h2⟩:=h.scr s;cases x;exact .inl ⟨xs,h1,mH h2⟩
 |_=>cases x
end
section
variable {K:Xy}{S S' H H':Hp}
@[simp] noncomputable def Cq (a b:XT):XT:=fun ρ=>(a ρ).bind fun x=>if x=true then b ρ else some false
@[simp] noncomputable def xOr (a b:XT):XT:=fun ρ=>(a ρ).bind fun x=>if x=true then some true else b ρ
@[simp] noncomputable def I0 (a:XT):XT:=fun ρ=>(a ρ).map fun x=>!x
def Pr {ta tb:TT}  (ha:ST K ta a)(hb:ST K tb b):ST K (NF ta tb) (Cq a b):=fun ρ σ S H Q d r x k=>by
 unfold Cq at x;cases qa:a ρ with
 |none=>rw[qa] at x;cases x
 |some q=>
  rw[qa] at x;dsimp only[Option.bind] at x;refine ha ρ σ S H _ q r qa fun S1 H1 z1=>?_;cases q with
  |true=>exact BB (hb ρ σ S1 H1 Q d (r.ext z1) (by simpa using x) fun S2 H2 z2=>k S2 H2 (z1.trans z2))
  |false=>
   have:d=false:=by simpa using x.symm
   subst this;exact BA (k S1 H1 z1)
def QR {ta tb:TT}  (ha:ST K ta a)(hb:ST K tb b):ST K (tOr ta tb) (xOr a b):=fun ρ σ S H Q d r x k=>by
 unfold xOr at x;cases qa:a ρ with
 |none=>rw[qa] at x;cases x
 |some q=>
  rw[qa] at x;dsimp only[Option.bind] at x;refine ha ρ σ S H _ q r qa fun S1 H1 z1=>?_;cases q with
  |false=>exact BA (hb ρ σ S1 H1 Q d (r.ext z1) (by simpa using x) fun S2 H2 z2=>k S2 H2 (z1.trans z2))
  |true=>
   have:d=true:=by simpa using x.symm
   subst this;exact BB (k S1 H1 z1)
def Pz {ta:TT}  (ha:ST K ta a):ST K (NI ta) (I0 a):=fun ρ σ S H Q d r x k=>by
 unfold I0 at x;cases qa:a ρ with
 |none=>rw[qa] at x;cases x
 |some q=>rw[qa] at x;cases x;exact ha ρ σ S H _ q r qa k
inductive Out where
 |nx (ρ:Env)|rt (d:D)|ro (o:O)|bk (ρ:Env)|ct (ρ:Env)
noncomputable abbrev XS:=Env->Option Out
noncomputable def Done (K:Xy)(A:Hp)(Λ:Nat->Option Addr)(S:Hp)(E:Ends):Out->Prop
 |.nx ρ=>∀σ' S' H',RlA K A Λ ρ σ' S' H'->Same S S'->E.nx σ' H'
 |.bk ρ=>∀σ' S' H',RlA K A Λ ρ σ' S' H'->Same S S'->E.bk σ' H'
 |.ct ρ=>∀σ' S' H',RlA K A Λ ρ σ' S' H'->Same S S'->E.ct σ' H'
 |.rt d=>∀v S' H',Same S S'->Same S' H'->Same A H'->(∀b,S' b=none\/A b=none\/∃u,A b=some u/\IT u)->Den K S' d v->E.rt v H'
 |.ro o=>∀v fp S' H',Same S S'->Same S' H'->Same A H'->(∀b,S' b=none\/A b=none\/∃u,A b=some u/\IT u)->Own K S' H' o v fp->fp.Nodup->(∀b∈fp,S' b=none/\A b=none)->E.rt v H'
def Done.mono     (s:Same S S')(h:Done K A Λ S E o):Done K A Λ S' E o:=by
 cases o with
 |nx ρ=>exact fun σ1 S1 H1 r z=>h σ1 S1 H1 r (s.trans z)
 |bk ρ=>exact fun σ1 S1 H1 r z=>h σ1 S1 H1 r (s.trans z)
 |ct ρ=>exact fun σ1 S1 H1 r z=>h σ1 S1 H1 r (s.trans z)
 |rt d=>exact fun v S1 H1 z=>h v S1 H1 (s.trans z)
 |ro d=>exact fun v fp S1 H1 z=>h v fp S1 H1 (s.trans z)
def SS (K:Xy)(t:TS)(m:XS):Prop:=∀A Λ ρ σ S H (E:Ends) o,RlA K A Λ ρ σ S H->m ρ=some o->Done K A Λ S E o->t E σ H
@[simp] noncomputable def fi:XS:=fun ρ=>some (.nx ρ)
def Nl:SS K DI fi:=fun A Λ ρ σ S H E o r x k=>by cases x;exact k σ S H r (Same.refl _)
@[simp] noncomputable def Rq:XS:=fun ρ=>some (.bk ρ)
@[simp] noncomputable def Sc:XS:=fun ρ=>some (.ct ρ)
@[simp] noncomputable def Cs:XS:=fun _=>none
def Kz:SS K t Cs:=fun A Λ ρ σ S H E o r x k=>by cases x
@[simp] noncomputable def aE (m n:XS):XS:=fun ρ=>match m ρ with|some (.nx ρ')=>n ρ' | o=>o
def PH   (ht:SS K t m)(hu:SS K u n):SS K (KZ t u) (aE m n):=fun A Λ ρ σ S H E o r x k=>by
 unfold aE at x;cases q:m ρ with
 |none=>rw[q] at x;cases x
 |some om=>
  rw[q] at x;refine ht A Λ ρ σ S H _ om r q ?_;cases om with
  |nx ρ'=>exact fun σ' S' H' r' z=>hu A Λ ρ' σ' S' H' E o r' x (k.mono z)
  |rt d=>cases x;exact k
  |ro d=>cases x;exact k
  |bk d=>cases x;exact k
  |ct d=>cases x;exact k
@[simp] noncomputable def b7 (e:XE):XS:=fun ρ=>(e ρ).map .rt
def PF {te:TE}  (h:SE K te e):SS K (IG te) (b7 e):=fun A Λ ρ σ S H E o r x k=>by
 unfold b7 at x;cases q:e ρ with
 |none=>rw[q] at x;cases x
 |some d=>rw[q] at x;cases x;refine h ρ σ S H _ d r.toRl q fun v S1 H1 z1 d1=>?_;have r1:=r.ext z1;exact k v S1 H1 z1.sh z1.sub r1.asub r1.adis d1
@[simp] noncomputable def AR (e:Env->Option O):XS:=fun ρ=>(e ρ).map .ro
def No {te:TE}  (h:STr K te e):SS K (IG te) (AR e):=fun A Λ ρ σ S H E o r x k=>by
 unfold AR at x;cases q:e ρ with
 |none=>rw[q] at x;cases x
 |some ot=>rw[q] at x;cases x;refine h ρ σ S H _ ot r.toRl q fun v fp S1 H1 z1 o1 nd n=>?_;have r1:=r.ext z1;exact k v fp S1 H1 z1.sh z1.sub r1.asub r1.adis o1 nd fun b hb=>⟨(n b hb).2,r.asub.free (n b hb).1⟩
@[simp] noncomputable def uW (i:Nat):XS:=fun ρ=>match ρ[i]? with|some (.sh d)=>some (.rt d)|some (.ow o)=>some (.ro o)|_=>none
def Np (i:Nat):SS K (IG (jm i)) (uW i):=fun A Λ ρ σ S H E o r x k=>by
 unfold uW at x;cases q:ρ[i]? with
 |none=>rw[q] at x;cases x
 |some s=>
  rw[q] at x;obtain⟨Φ,f⟩:=r;cases s with
  |un|lo=>cases x
  |sh d=>
   cases x;obtain⟨v,h1,h2⟩:=f.sh i d q;exact⟨v,h1,k v S H (Same.refl _) f.sub f.asub f.adis h2⟩
  |ow ot=>cases x;obtain⟨v,h1,h2,h3,h4⟩:=f.ow i ot q;exact⟨v,h1,k v _ S H (Same.refl _) f.sub f.asub f.adis h2 h3 h4⟩
@[simp] noncomputable def Sn:XS:=fun _=>some (.rt .non)
@[simp] noncomputable def xIf (c:XT)(m n:XS):XS:=fun ρ=>(c ρ).bind fun b=>if b=true then m ρ else n ρ
def QP {tc:TT}    (hc:ST K tc c)(ht:SS K t m)(hu:SS K u n):SS K (KW tc t u) (xIf c m n):=fun A Λ ρ σ S H E o r x k=>by
 unfold xIf at x;cases qc:c ρ with
 |none=>rw[qc] at x;cases x
 |some q=>
  rw[qc] at x;dsimp only[Option.bind] at x;refine hc ρ σ S H _ q r.toRl qc fun S1 H1 z1=>?_;cases q with
  |true=>exact BB (ht A Λ ρ σ S1 H1 E o (r.ext z1) (by simpa using x) (k.mono z1.sh))
  |false=>exact BA (hu A Λ ρ σ S1 H1 E o (r.ext z1) (by simpa using x) (k.mono z1.sh))
def aN {α:Type}{l:List α}{i j:Nat}{x y:α}(h:(l.set i x)[j]?=some y):(i=j/\y=x/\i<l.length)\/(i≠j/\l[j]?=some y):=by
 by_cases hij:i=j
 ·subst hij;have hl:=(TR.mp h).1;rw[UW] at hl;rw[VS hl] at h;exact .inl ⟨rfl,(Uh h).symm,hl⟩
 ·rw[UV hij] at h;exact .inr ⟨hij,h⟩
theorem RlF.set        (r:RlF K A Λ Φ ρ σ S H)(i:Nat)(h:Den K S d v):RlF K A Λ Φ (ρ.set i (.sh d)) (σ.set i (some v)) S H where
 len:=by rw[UW,UW];exact r.len
 sub:=r.sub
 sh:=fun j e hj=>by
  rcases aN hj with ⟨rfl,e,hl⟩|⟨hij,hj⟩
  ·cases e;exact⟨v,VS (by rw[r.len];exact hl),h⟩
  ·rw[UV hij];exact r.sh j e hj
 ow:=fun j o hj=>by
  rcases aN hj with ⟨rfl,e,hl⟩|⟨hij,hj⟩
  ·cases e
  ·rw[UV hij];exact r.ow j o hj
 dj:=fun j k o o' hjk h1 h2=>by
  rcases aN h1 with ⟨rfl,e,hl⟩|⟨hij,h1⟩
  ·cases e
  ·rcases aN h2 with ⟨rfl,e,hl⟩|⟨hik,h2⟩
   ·cases e
   ·exact r.dj j k o o' hjk h1 h2
 lo:=fun j hj=>by
  rcases aN hj with ⟨rfl,e,hl⟩|⟨hij,hj⟩
  ·cases e
  ·rw[UV hij];exact r.lo j hj
 asub:=r.asub
 adis:=r.adis
theorem RlA.set       (r:RlA K A Λ ρ σ S H)(i:Nat)(h:Den K S d v):RlA K A Λ (ρ.set i (.sh d)) (σ.set i (some v)) S H:=let ⟨Φ,f⟩:=r;⟨Φ,f.set i h⟩
def RlF.put        {fp:Xz}(r:RlF K A Λ Φ ρ σ S H)(i:Nat)(sub:Same S H')(asub:Same A H')(ow:Own K S H' o v fp)(nd:fp.Nodup)(n:∀b∈fp,S b=none/\A b=none)
  (keep:∀(j:Nat) o',j≠i->ρ[j]?=some (.ow o')->∀b∈Φ j,H' b=H b/\b∉fp):RlF K A Λ (fun j=>if j=i then fp else Φ j) (ρ.set i (.ow o)) (σ.set i (some v)) S H' where
 len:=by rw[UW,UW];exact r.len
 sub:=sub
 sh:=fun j e hj=>by
  rcases aN hj with ⟨rfl,e,hl⟩|⟨hij,hj⟩
  ·cases e
  ·rw[UV hij];exact r.sh j e hj
 ow:=fun j o' hj=>by
  rcases aN hj with ⟨rfl,e,hl⟩|⟨hij,hj⟩
  ·cases e;rw[Ts rfl];exact⟨v,VS (by rw[r.len];exact hl),ow,nd,n⟩
  ·rw[UV hij,Tr (T3 hij)];obtain⟨w,h1,h2,h3,h4⟩:=r.ow j o' hj;exact⟨w,h1,h2.mono (Same.refl _) fun b hb=>(keep j o' (T3 hij) hj b hb).1,h3,h4⟩
 dj:=fun j k o1 o2 hjk h1 h2 b hb hb2=>by
  rcases aN h1 with ⟨rfl,e,hl⟩|⟨hij,h1⟩
  ·rcases aN h2 with ⟨rfl,e,hl⟩|⟨hik,h2⟩
   ·exact hjk rfl
   ·rw[Ts rfl] at hb;rw[Tr (T3 hik)] at hb2;exact (keep k o2 (T3 hik) h2 b hb2).2 hb
  ·rcases aN h2 with ⟨rfl,e,hl⟩|⟨hik,h2⟩
   ·rw[Ts rfl] at hb2;rw[Tr (T3 hij)] at hb;exact (keep j o1 (T3 hij) h1 b hb).2 hb2
   ·rw[Tr (T3 hij)] at hb;rw[Tr (T3 hik)] at hb2;exact r.dj j k o1 o2 hjk h1 h2 b hb hb2
 lo:=fun j hj=>by
  rcases aN hj with ⟨rfl,e,hl⟩|⟨hij,hj⟩
  ·cases e
  ·rw[UV hij];exact r.lo j hj
 asub:=asub
 adis:=r.adis
def uA {α:Type}{l:List α}{i:Nat}{x:α}(h:l[i]?=some x):l.set i x=l:=by
 apply V2;intro j;by_cases e:i=j
 ·subst e;rw[VS (TR.mp h).1,h]
 ·rw[UV e]
noncomputable def frz (i:Nat)(ρ:Env):Env:=match ρ[i]? with|some (.ow o)=>ρ.set i (.sh o.d)|_=>ρ
theorem RlA.frz     (r:RlA K A Λ ρ σ S H)(i:Nat):∃S',Same S S'/\RlA K A Λ (frz i ρ) σ S' H:=by
 unfold M.frz;cases q:ρ[i]? with
 |none=>exact⟨S,Same.refl _,r⟩
 |some s=>
  cases s with
  |un=>exact⟨S,Same.refl _,r⟩
  |lo=>exact⟨S,Same.refl _,r⟩
  |sh d=>exact⟨S,Same.refl _,r⟩
  |ow o=>
   dsimp only;obtain⟨Φ,f⟩:=r;obtain⟨v,h1,h2,h3,h4⟩:=f.ow i o q;have s2:Same S (pf S H (Φ i)):=lv fun b hb=>(h4 b hb).1;have hd:Den K (pf S H (Φ i)) o.d v:=h2.den s2 fun b hb=>jC hb;refine⟨_,s2,Φ,?_⟩
   exact {
    len:=by rw[UW];exact f.len
    sub:=zk f.sub
    sh:=fun j d hj=>by
     rcases aN hj with ⟨rfl,e,hl⟩|⟨hij,hj⟩
     ·cases e;exact⟨v,h1,hd⟩
     ·obtain⟨w,k1,k2⟩:=f.sh j d hj;exact⟨w,k1,k2.mono s2⟩
    ow:=fun j o' hj=>by
     rcases aN hj with ⟨rfl,e,hl⟩|⟨hij,hj⟩
     ·cases e
     ·obtain⟨w,k1,k2,k3,k4⟩:=f.ow j o' hj;exact⟨w,k1,k2.mono s2 fun _ _=>rfl,k3,fun b hb=>⟨by rw[fQ fun hi=>f.dj i j o o' hij q hj b hi hb];exact (k4 b hb).1,(k4 b hb).2⟩⟩
    dj:=fun j k o1 o2 hjk g1 g2=>by
     rcases aN g1 with ⟨rfl,e,hl⟩|⟨hij,g1⟩
     ·cases e
     ·rcases aN g2 with ⟨rfl,e,hl⟩|⟨hik,g2⟩
      ·cases e
      ·exact f.dj j k o1 o2 hjk g1 g2
    lo:=fun j hj=>by
     rcases aN hj with ⟨rfl,e,hl⟩|⟨hij,hj⟩
     ·cases e
     ·exact f.lo j hj
    asub:=f.asub
    adis:=fun b=>by
     by_cases hb:b∈Φ i
     ·exact .inr (.inl (h4 b hb).2)
     ·rw[fQ hb];exact f.adis b }
@[simp] noncomputable def NU (i:Nat)(m:XS):XS:=fun ρ=>m (frz i ρ)
def Px   (i:Nat)(h:SS K t m):SS K t (NU i m):=fun A Λ ρ σ S H E o r x k=>by obtain⟨S',s,r'⟩:=r.frz i;exact h A Λ _ σ S' H E o r' x (k.mono s)
noncomputable abbrev XG:=D->Env->Option Env
noncomputable abbrev XGs:=Xq->Env->Option Env
def SG (K:Xy)(g:TG)(x:XG):Prop:=∀A Λ ρ σ S H v d (Q:St->Hp->Prop) ρ',RlA K A Λ ρ σ S H->Den K S d v->x d ρ=some ρ'->(∀σ',RlA K A Λ ρ' σ' S H->Q σ' H)->g v σ H Q
def SGs (K:Xy)(g:TGs)(x:XGs):Prop:=∀A Λ ρ σ S H vs ds (Q:St->Hp->Prop) ρ',RlA K A Λ ρ σ S H->Dens K S ds vs->x ds ρ=some ρ'->(∀σ',RlA K A Λ ρ' σ' S H->Q σ' H)->g vs σ H Q
@[simp] noncomputable def ag (i:Nat):XG:=fun d ρ=>some (ρ.set i (.sh d))
noncomputable def bf:XGs:=fun ds ρ=>match ds with|[]=>some ρ|_=>none
noncomputable def ao (x:XG)(y:XGs):XGs:=fun ds ρ=>match ds with|d::r=>(x d ρ).bind (y r)|[]=>none
noncomputable def aY (y:XGs):XG:=fun d ρ=>match d with|.tup l=>y l ρ|.mtp l=>y l ρ|_=>none
def GG (i:Nat):SG K (iw i) (ag i):=fun A Λ ρ σ S H v d Q ρ' r dv x k=>by cases x;exact k _ (r.set i dv)
def Oz:SGs K JI bf:=fun A Λ ρ σ S H vs ds Q ρ' r dv x k=>by
 cases ds with
 |nil=>cases x;exact⟨dv.nil_of,k σ r⟩
 |cons _ _=>cases x
def Mc     (h:SG K g x)(hs:SGs K gs y):SGs K (CU g gs) (ao x y):=fun A Λ ρ σ S H vs ds Q ρ' r dv e k=>by
 cases ds with
 |nil=>cases e
 |cons d ds=>
  obtain⟨v,vs,rfl,h1,h2⟩:=dv.cons_of;have e':(x d ρ).bind (y ds)=some ρ':=e;cases q:x d ρ with
  |none=>rw[q] at e';cases e'
  |some ρ1=>rw[q] at e';exact⟨v,vs,rfl,h A Λ ρ σ S H v d _ ρ1 r h1 q fun σ1 r1=>hs A Λ ρ1 σ1 S H vs ds Q ρ' r1 h2 e' k⟩
def zq (y:XGs)(n:Nat):Prop:=∀ds ρ ρ',y ds ρ=some ρ'->ds.length=n
def Mw:zq bf 0:=fun ds ρ ρ' e=>by cases ds with|nil=>rfl|cons _ _=>cases e
def J2   {n:Nat}(h:zq y n):zq (ao x y) (n+1):=fun ds ρ ρ' e=>by
 cases ds with
 |nil=>cases e
 |cons d ds=>
  have e':(x d ρ).bind (y ds)=some ρ':=e;cases q:x d ρ with
  |none=>rw[q] at e';cases e'
  |some ρ1=>rw[q] at e';rw[TF,h ds ρ1 ρ' e']
def OA   {n:Nat}(hs:SGs K gs y)(hl:zq y n):SG K (GF K n gs) (aY y):=fun A Λ ρ σ S H v d Q ρ' r dv e k=>by
 cases d with
 |tup l=>
  obtain⟨p,xs,rfl,h1,h2⟩:=fP dv;exact⟨p,xs,rfl,aL r.sub h1,by rw[<- h2.length];exact hl l ρ ρ' e,hs A Λ ρ σ S H xs l Q ρ' r h2 e k⟩
 |mtp l=>
  obtain⟨p,xs,rfl,h1,h2⟩:=den_mtp.mp dv;exact⟨p,xs,rfl,aL r.sub h1,by rw[<- h2.length];exact hl l ρ ρ' e,hs A Λ ρ σ S H xs l Q ρ' r h2 e k⟩
 |_=>cases e
@[simp] noncomputable def bw (e:XE)(g:XG):XS:=fun ρ=>(e ρ).bind fun d=>(g d ρ).map .nx
def Ps {te:TE}    (h:SE K te e)(hg:SG K g x):SS K (yg te g) (bw e x):=fun A Λ ρ σ S H E o r y k=>by
 unfold bw at y;cases q:e ρ with
 |none=>rw[q] at y;cases y
 |some d=>
  rw[q] at y;dsimp only[Option.bind] at y;cases q2:x d ρ with
  |none=>rw[q2] at y;cases y
  |some ρ'=>rw[q2] at y;cases y;exact h ρ σ S H _ d r.toRl q fun v S1 H1 z1 d1=>hg A Λ ρ σ S1 H1 v d _ ρ' (r.ext z1) d1 q2 fun σ' r'=>k σ' S1 H1 r' z1.sh
@[simp] noncomputable def oU (e:Env->Option O)(i:Nat):XS:=fun ρ=>(e ρ).map fun o=>.nx (ρ.set i (.ow o))
def H9 {te:TE}  {i:Nat}(h:STr K te e):SS K (yg te (iw i)) (oU e i):=fun A Λ ρ σ S H E o r y k=>by
 unfold oU at y;cases q:e ρ with
 |none=>rw[q] at y;cases y
 |some ot=>rw[q] at y;cases y;obtain⟨Φ,f⟩:=r;refine h ρ σ S H _ ot ⟨A,Λ,Φ,f⟩ q fun v fp S1 H1 z1 o1 nd n=>?_;have r1:=f.ext z1;refine k _ S1 H1 ⟨_,r1.put (H':=H1) i r1.sub r1.asub o1 nd (fun b hb=>⟨(n b hb).2,f.asub.free (n b hb).1⟩) fun j o' hj e1 b hb=>⟨rfl,fun hf=>?_⟩⟩ z1.sh;obtain⟨w,_,k2,_,_⟩:=f.ow j o' e1;exact k2.there b hb (n b hf).1
@[simp] noncomputable def kb (e:XA)(i:Nat):XS:=oU (xLT e) i
def M9 {te:TE}  {i:Nat}(h:SF K te e):SS K (yg te (iw i)) (kb e i):=H9 h.t
noncomputable def dH:O->XD->Option O
 |o,[]=>some o
 |.lst l,k::r=>(atI l k).bind fun o=>dH o r
 |.tup l,k::r=>(atI l k).bind fun o=>dH o r
 |.sh _,_::_=>none
 |.dic _,_::_=>none
 |.hd _ _ _,_::_=>none
noncomputable def uq (l:List O)(k:Int)(f:O->O):List O:=match ixN l.length k with
 |some j=>(match l[j]? with|some o=>l.set j (f o)|none=>l)
 |none=>l
noncomputable def jh:O->XD->O->O
 |_,[],q=>q
 |.lst l,k::r,q=>.lst (uq l k fun o=>jh o r q)
 |.tup l,k::r,q=>.tup (uq l k fun o=>jh o r q)
 |.sh d,_::_,_=>.sh d
 |.dic d,_::_,_=>.dic d
 |.hd p d l,_::_,_=>.hd p d l
noncomputable def WalkV (H:Hp):V->XD->V->Prop
 |v,[],w=>v=w
 |v,k::r,w=>∃a xs u,v = .ref a/\(H a=some (.lst xs)\/H a=some (.tup xs))/\atI xs k=some u/\WalkV H u r w
theorem WalkV.mono (s:Same H H'):∀ {p:XD} {v w:V},WalkV H v p w->WalkV H' v p w
 |[],_,_,h=>h
 |_::_,_,_,⟨a,xs,u,e,h,k,m⟩=>⟨a,xs,u,e,h.elim (fun z=>.inl (s _ _ z)) (fun z=>.inr (s _ _ z)),k,m.mono s⟩
theorem WalkV.uniq:∀ {p:XD} {v w w':V},WalkV H v p w->WalkV H v p w'->w=w'
 |[],_,_,_,h,k=>h.symm.trans k
 |_::_,_,_,_,hpt0,hpt1=>by
  obtain⟨a,xs,u,e,h,k,m⟩:=hpt0;obtain⟨a',xs',u',e',h',k',m'⟩:=hpt1;rw[e] at e';cases e';have:xs=xs':=by rcases h with h|h<;>rcases h' with h' | h'<;>rw[h] at h'<;>cases h'<;>rfl
  subst this;rw[k] at k';cases k';exact m.uniq m'
theorem WalkV.snoc:∀ {p:XD} {v w u:V} {k:Int} {a:Addr} {xs:Xo},WalkV H v p w->w = .ref a->(H a=some (.lst xs)\/H a=some (.tup xs))->atI xs k=some u->WalkV H v (p++[k]) u
 |[],_,_,u,k,a,xs,h,e,h1,h2=>⟨a,xs,u,h.trans e,h1,h2,rfl⟩
 |_::_,_,_,_,_,_,_,⟨b,ys,u',e,h,k,m⟩,e',h1,h2=>⟨b,ys,u',e,h,k,m.snoc e' h1 h2⟩
theorem p7:∀ {p:XD} {o q:O} {k:Int},dH o (p++[k])=some q->∃q0,dH o p=some q0/\dH q0 [k]=some q
 |[],o,q,k,h=>⟨o,by unfold dH;rfl,h⟩
 |j::p,o,q,k,h=>by
  cases o with
  |sh d|dic _|hd _ _ _=>cases h
  |lst l=>
   have h':(atI l j).bind (fun o=>dH o (p++[k]))=some q:=h;cases e:atI l j with
   |none=>rw[e] at h';cases h'
   |some o1=>
    rw[e] at h';obtain⟨q0,a,b⟩:=p7 (p:=p) h';exact⟨q0,by show (atI l j).bind (fun o=>dH o p)=some q0;rw[e];exact a,b⟩
  |tup l=>
   have h':(atI l j).bind (fun o=>dH o (p++[k]))=some q:=h;cases e:atI l j with
   |none=>rw[e] at h';cases h'
   |some o1=>rw[e] at h';obtain⟨q0,a,b⟩:=p7 (p:=p) h';exact⟨q0,by show (atI l j).bind (fun o=>dH o p)=some q0;rw[e];exact a,b⟩
theorem Owns.split:∀ {l:List O} {xs:Xo} {f:Xz} {j:Nat} {o:O},Owns K S H l xs f->l[j]?=some o->∃x f1 f2 f3,xs[j]?=some x/\f=f1++(f2++f3)/\Own K S H o x f2 /\
  ∀H' o' f2',Own K S H' o' x f2'->(∀b∈f1,H' b=H b)->(∀b∈f3,H' b=H b)->Owns K S H' (l.set j o') xs (f1++(f2'++f3))
 |[],_,_,_,_,_,e=>by simp at e
 |o0::l,_,_,0,o,h,e=>by
  obtain⟨y,ys,f,g,rfl,rfl,a,b⟩:=h.cons_of;simp at e;subst e;exact⟨y,[],f,g,rfl,rfl,a,fun H' o' f2' h1 _ h3=>Owns.cons (f:=f2') h1 (b.mono (Same.refl _) h3)⟩
 |o0::l,_,_,j+1,o,h,e=>by obtain⟨y,ys,f,g,rfl,rfl,a,b⟩:=h.cons_of;obtain⟨x,f1,f2,f3,e1,rfl,h1,h2⟩:=b.split (j:=j) (by simpa using e);refine⟨x,f++f1,f2,f3,by simpa using e1,by rw[Ue],h1,fun H' o' f2' k1 k2 k3=>?_⟩;rw[Ue];exact .cons (a.mono (Same.refl _) fun b hb=>k2 b (TK _ hb)) (h2 H' o' f2' k1 (fun b hb=>k2 b (TV _ hb)) k3)
def AZ {α:Type}{l:List α}{k:Int}{x:α}(h:atI l k=some x):∃j,ixN l.length k=some j/\l[j]?=some x:=by
 unfold atI at h;cases q:ixN l.length k with
 |none=>rw[q] at h;cases h
 |some j=>rw[q] at h;exact⟨j,rfl,h⟩
theorem GC:∀ {p:XD} {o q:O} {v:V} {fp:Xz},Own K S H o v fp->fp.Nodup->dH o p=some q->∃w fq,Own K S H q w fq/\WalkV H v p w/\(∀b∈fq,b∈fp)/\fq.Nodup /\
  ∀H' q' fq',Own K S H' q' w fq'->fq'.Nodup->(∀b∈fp,b∉fq->H' b=H b)->(∀b∈fq',b∈fp->b∈fq)->∃fp',Own K S H' (jh o p q') v fp'/\fp'.Nodup/\∀b∈fp',b∈fp\/b∈fq'
 |[],o,q,v,fp,h,nd,e=>by
  have e':some o=some q:=by unfold dH at e;exact e
  cases e';exact⟨v,fp,h,rfl,fun b hb=>hb,nd,fun H' q' fq' h1 n1 _ _=>⟨fq',by unfold jh;exact h1,n1,fun b hb=>.inr hb⟩⟩
 |k::r,o,q,v,fp,h,nd,e=>by
  have body:∀(l:List O) (a:Addr) (xs:Xo) (f:Xz),v = .ref a->fp=a::f->(H a=some (.lst xs)\/H a=some (.tup xs))->Owns K S H l xs f->((atI l k).bind fun o=>dH o r)=some q ->
    ∃w fq,Own K S H q w fq/\WalkV H v (k::r) w/\(∀b∈fq,b∈fp)/\fq.Nodup/\∀H' q' fq',Own K S H' q' w fq'->fq'.Nodup->(∀b∈fp,b∉fq->H' b=H b)->(∀b∈fq',b∈fp->b∈fq) ->
     ∃f',Owns K S H' (uq l k fun o=>jh o r q') xs f'/\H' a=H a/\(a::f').Nodup/\∀b∈a::f',b∈fp\/b∈fq':=by
   rintro l a xs f rfl rfl ha hl hs;obtain⟨na,nf⟩:=Uk.mp nd;cases qa:atI l k with
   |none=>rw[qa] at hs;cases hs
   |some o1=>
    rw[qa] at hs;obtain⟨j,ej,el⟩:=AZ qa;obtain⟨x,f1,f2,f3,ex,rfl,h1,h2⟩:=hl.split el;obtain⟨n1,n23,d1⟩:=VA.mp nf;obtain⟨n2,n3,d2⟩:=VA.mp n23;obtain⟨w,fq,k1,k2,k3,k4,k5⟩:=GC (p:=r) h1 n2 hs;have ax:atI xs k=some x:=by unfold atI;rw[<- hl.length,ej];exact ex
    refine⟨w,fq,k1,⟨a,xs,x,rfl,ha,ax,k2⟩,fun b hb=>TJ _ (TV _ (TK _ (k3 b hb))),k4,fun H' q' fq' g1 g2 g3 g4=>?_⟩;have in2:∀b∈fq,b∈f2:=k3;have a1:∀b∈f1,b∉fq:=fun b hb hq=>d1 b hb b (TK _ (in2 b hq)) rfl;have a3:∀b∈f3,b∉fq:=fun b hb hq=>d2 b (in2 b hq) b hb rfl;have aa:a∉fq:=fun hq=>na (TV _ (TK _ (in2 a hq)));obtain⟨f2',m1,m2,m3⟩:=k5 H' q' fq' g1 g2 (fun b hb hn=>g3 b (TJ _ (TV _ (TK _ hb))) hn) fun b hb hp=>g4 b hb (TJ _ (TV _ (TK _ hp)));have out:∀b∈f2',b∉f1/\b∉f3/\b≠a:=fun b hb=>by
     rcases m3 b hb with hb|hb
     ·exact⟨fun z=>d1 b z b (TK _ hb) rfl,fun z=>d2 b hb b z rfl,fun z=>na (z▸TV _ (TK _ hb))⟩
     ·refine⟨fun z=>a1 b z (g4 b hb (TJ _ (TK _ z))),fun z=>a3 b z (g4 b hb (TJ _ (TV _ (TV _ z)))),fun z=>?_⟩;subst z;exact aa (g4 b hb TD)
    refine⟨f1++(f2'++f3),?_,g3 a TD aa,?_,fun b hb=>?_⟩
    ·unfold uq;rw[ej];dsimp only;rw[el];exact h2 H' _ f2' m1 (fun b hb=>g3 b (TJ _ (TK _ hb)) (a1 b hb)) fun b hb=>g3 b (TJ _ (TV _ (TV _ hb))) (a3 b hb)
    ·refine Uk.mpr ⟨fun z=>?_,VA.mpr ⟨n1,VA.mpr ⟨m2,n3,fun b hb c hc e=>(out b hb).2.1 (e▸hc)⟩,fun b hb c hc e=>?_⟩⟩
     ·rcases TH.mp z with z|z
      ·exact na (TK _ z)
      ·rcases TH.mp z with z|z
       ·exact (out a z).2.2 rfl
       ·exact na (TV _ (TV _ z))
     ·subst e;rcases TH.mp hc with hc|hc
      ·exact (out b hc).1 hb
      ·exact d1 b hb b (TV _ hc) rfl
    ·rcases TN.mp hb with rfl|hb
     ·exact .inl TD
     ·rcases TH.mp hb with hb|hb
      ·exact .inl (TJ _ (TK _ hb))
      ·rcases TH.mp hb with hb|hb
       ·exact (m3 b hb).imp (fun z=>TJ _ (TV _ (TK _ z))) id
       ·exact .inl (TJ _ (TV _ (TV _ hb)))
  cases o with
  |sh d|dic _|hd _ _ _=>cases e
  |lst l=>
   obtain⟨a,xs,f,e1,e2,h1,h2⟩:=own_lst.mp h;obtain⟨w,fq,k1,k2,k3,k4,k5⟩:=body l a xs f e1 e2 (.inl h1) h2 e;refine⟨w,fq,k1,k2,k3,k4,fun H' q' fq' g1 g2 g3 g4=>?_⟩;obtain⟨f',m1,m2,m3,m4⟩:=k5 H' q' fq' g1 g2 g3 g4;exact⟨a::f',by unfold jh;exact own_lst.mpr ⟨a,xs,f',e1,rfl,by rw[m2];exact h1,m1⟩,m3,m4⟩
  |tup l=>obtain⟨a,xs,f,e1,e2,h1,h2⟩:=own_tup.mp h;obtain⟨w,fq,k1,k2,k3,k4,k5⟩:=body l a xs f e1 e2 (.inr h1.1) h2 e;refine⟨w,fq,k1,k2,k3,k4,fun H' q' fq' g1 g2 g3 g4=>?_⟩;obtain⟨f',m1,m2,m3,m4⟩:=k5 H' q' fq' g1 g2 g3 g4;exact⟨a::f',by unfold jh;exact own_tup.mpr ⟨a,xs,f',e1,rfl,⟨by rw[m2];exact h1.1,h1.2⟩,m1⟩,m3,m4⟩
noncomputable abbrev XP:=Env->Option (XD)
def AX (K:Xy)(to:TE)(i:Nat)(p:XP):Prop:=∀ρ σ S H (Q:VK) is o q,Rl K ρ σ S H->ρ[i]?=some (.ow o)->p ρ=some is->dH o is=some q->(∀v w S' H',σ[i]?=some (some v)->Ext S H S' H'->WalkV H' v is w->Q w H')->to σ H Q
@[simp] noncomputable def xPv:XP:=fun _=>some []
def OV (i:Nat):AX K (jm i) i xPv:=fun ρ σ S H Q is o q r h1 h2 h3 k=>by cases h2;obtain⟨v,fp,e,_⟩:=r.ow i o h1;exact⟨v,e,k v v S H e (Ext.refl r.sub) rfl⟩
@[simp] noncomputable def xPi (p:XP)(ix:XE):XP:=fun ρ=>(p ρ).bind fun is=>(ix ρ).bind fun d=>match d with|.int k=>some (is++[k])|_=>none
def QG {to ti:TE}{i:Nat}{p:XP}{ix:XE}(hp:AX K to i p)(hi:SPk K ti ix):AX K (tOp (rIx K) to ti) i (xPi p ix):=fun ρ σ S H Q is o q r h1 h2 h3 k=>by
 unfold xPi at h2;cases e1:p ρ with
 |none=>rw[e1] at h2;cases h2
 |some js=>
  rw[e1] at h2;dsimp only[Option.bind] at h2;cases e2:ix ρ with
  |none=>rw[e2] at h2;cases h2
  |some d=>
   rw[e2] at h2;cases d with
   |int kk=>
    cases h2;obtain⟨q0,s1,s2⟩:=p7 h3;refine hp ρ σ S H _ js o q0 r h1 e1 s1 fun v w S1 H1 ev z1 wk=>?_;have r1:=r.ext z1;refine hi ρ σ S1 H1 _ _ r1 e2 fun u S2 H2 z2 d2=>?_;have r2:=r1.ext z2;obtain⟨v',fp,ev',ow,nd,_⟩:=r2.ow i o h1;rw[ev] at ev';cases ev';obtain⟨w',fq,k1,k2,_⟩:=GC ow nd s1;have ew:=k2.uniq (wk.mono (z2.same r1.sub));subst ew;rw[d2.int];cases q0 with
    |sh _|dic _|hd _ _ _=>cases s2
    |lst l=>
     have s2':(atI l kk).bind (fun o=>dH o [])=some q:=s2;cases e3:atI l kk with
     |none=>rw[e3] at s2';cases s2'
     |some o1=>
      obtain⟨a,xs,f,rfl,rfl,hx,hl⟩:=own_lst.mp k1;obtain⟨j,ej,el⟩:=AZ e3;obtain⟨x,_,_,_,ex,_⟩:=hl.split el;have ax:atI xs kk=some x:=by unfold atI;rw[<- hl.length,ej];exact ex
      exact .inl ⟨a,xs,kk,x,rfl,rfl,SqL.of hx,ax,k v x S2 H2 ev (z1.trans z2) (k2.snoc rfl (.inl hx) ax)⟩
    |tup l=>
     have s2':(atI l kk).bind (fun o=>dH o [])=some q:=s2;cases e3:atI l kk with
     |none=>rw[e3] at s2';cases s2'
     |some o1=>
      obtain⟨a,xs,f,rfl,rfl,⟨hx,_⟩,hl⟩:=own_tup.mp k1;obtain⟨j,ej,el⟩:=AZ e3;obtain⟨x,_,_,_,ex,_⟩:=hl.split el;have ax:atI xs kk=some x:=by unfold atI;rw[<- hl.length,ej];exact ex
      exact .inr (.inl ⟨a,xs,kk,x,rfl,rfl,SqT.of hx,ax,k v x S2 H2 ev (z1.trans z2) (k2.snoc rfl (.inr hx) ax)⟩)
   |_=>cases h2
theorem RlF.at {A:Hp}{Λ:Nat->Option Addr}{Φ:Nat->Xz}{ρ:Env}{σ:St}{i:Nat}{o:O}{is:XD}{l:List O}{v w:V}(f:RlF K A Λ Φ ρ σ S H)(h1:ρ[i]?=some (.ow o))(h2:dH o is=some (.lst l))(ev:σ[i]?=some (some v))(wk:WalkV H v is w) :
  ∃a xs f0,w = .ref a/\H a=some (.lst xs)/\Owns K S H l xs f0/\(a::f0).Nodup/\(∀b∈a::f0,b∈Φ i)/\∀l' xs' f',(∀H',(∀b,b≠a->H' b=H b)->Owns K S H' l' xs' f')->(a::f').Nodup->(∀b∈f',b∈f0\/((∀(j:Nat) o',ρ[j]?=some (.ow o')->b∉Φ j)/\S b=none/\A b=none)) ->
   RlA K A Λ (ρ.set i (.ow (jh o is (.lst l')))) σ S (upd H a (.lst xs')):=by
 obtain⟨v',e',ow,nd,n⟩:=f.ow i o h1;rw[ev] at e';cases e';obtain⟨w',fq,k1,k2,k3,k4,k5⟩:=GC ow nd h2;have ew:=k2.uniq wk;subst ew;obtain⟨a,xs,g,rfl,rfl,hx,hl⟩:=own_lst.mp k1;have ain:=k3 a TD;refine⟨a,xs,g,rfl,hx,hl,k4,k3,fun l' xs' f' g1 g2 g3=>?_⟩;have ne:∀b,b≠a->upd H a (.lst xs') b=H b:=fun b hb=>av hb;obtain⟨fp',m1,m2,m3⟩:=k5 (upd H a (.lst xs')) (.lst l') (a::f') (own_lst.mpr ⟨a,xs',f',rfl,rfl,ar,g1 _ ne⟩) g2 (fun b hb hn=>ne b fun z=>hn (z▸TD)) fun b hb hp=>by
  rcases TN.mp hb with rfl|hb
  ·exact TD
  ·rcases g3 b hb with z|⟨z,_⟩
   ·exact TJ _ z
   ·exact absurd hp (z i o h1)
 have sub':Same S (upd H a (.lst xs')):=fun b u e=>by rw[ne b fun z=>by subst z;rw[(n b ain).1] at e;cases e];exact f.sub b u e
 have asub':Same A (upd H a (.lst xs')):=fun b u e=>by rw[ne b fun z=>by subst z;rw[(n b ain).2] at e;cases e];exact f.asub b u e
 have fin:=f.put (H':=upd H a (.lst xs')) i sub' asub' m1 m2 (fun b hb=>by
  rcases m3 b hb with z|z
  ·exact n b z
  ·rcases TN.mp z with rfl|z
   ·exact n b ain
   ·rcases g3 b z with z|⟨_,z⟩
    ·exact n b (k3 b (TJ _ z))
    ·exact z) fun j o' hj e1 b hb=>by
   have nb:b∉Φ i:=fun z=>f.dj j i o' o hj e1 h1 b hb z;refine⟨ne b fun z=>nb (z▸ain),fun z=>?_⟩;rcases m3 b z with z|z
   ·exact nb z
   ·rcases TN.mp z with rfl|z
    ·exact nb ain
    ·rcases g3 b z with z|⟨z,_⟩
     ·exact nb (k3 b (TJ _ z))
     ·exact z j o' e1 hb
 rw[uA ev] at fin;exact⟨_,fin⟩
def RlF.fresh       (f:RlF K A Λ Φ ρ σ S H)(h:H b=none):(∀(j:Nat) o',ρ[j]?=some (.ow o')->b∉Φ j)/\S b=none/\A b=none:=
 ⟨fun j o' e hb=>by obtain⟨_,_,ow,_⟩:=f.ow j o' e;exact ow.there b hb h,f.sub.free h,f.asub.free h⟩
@[simp] noncomputable def fW (i:Nat)(p:XP)(e:Env->Option O):XS:=fun ρ=>match ρ[i]? with
 |some (.ow o)=>(p ρ).bind fun is=>(e ρ).bind fun x=>match dH o is with
  |some (.lst l)=>if l.length<LIM then some (.nx (ρ.set i (.ow (jh o is (.lst (l++[x])))))) else none
  |_=>none
 |_=>none
def M8 {to te:TE}{i:Nat}   (hp:AX K to i p)(h:STr K te e):SS K (uN (tBM K "list" rAppend to (ie te p8))) (fW i p e):=fun A Λ ρ σ S H E out r y k=>by
 unfold fW at y;cases q0:ρ[i]? with
 |none=>rw[q0] at y;cases y
 |some s=>
  rw[q0] at y;cases s with
  |un|lo|sh _=>cases y
  |ow o=>
   dsimp only at y;cases q1:p ρ with
   |none=>rw[q1] at y;cases y
   |some is=>
    rw[q1] at y;dsimp only[Option.bind] at y;cases q2:e ρ with
    |none=>rw[q2] at y;cases y
    |some x=>
     rw[q2] at y;dsimp only at y;cases q3:dH o is with
     |none=>rw[q3] at y;cases y
     |some qo=>
      rw[q3] at y;cases qo with
      |sh _|dic _|hd _ _ _|tup _=>cases y
      |lst l=>
       dsimp only at y;split at y
       ·rename_i hl;cases y;obtain⟨Φ,f⟩:=r;refine hp ρ σ S H _ is o _ ⟨A,Λ,Φ,f⟩ q0 q1 q3 fun v w S1 H1 ev z1 wk=>?_;have f1:=f.ext z1;obtain⟨a,xs,g0,rfl,hx,hw,nd0,in0,_⟩:=f1.at q0 q3 ev wk;refine⟨.inl ⟨rfl,xs,SqL.of hx⟩,h ρ σ S1 H1 _ x ⟨A,Λ,Φ,f1⟩ q2 fun u fu S2 H2 z2 ou nd n=>?_⟩;have f2:=f1.ext z2;obtain⟨a',xs',g1,e1,hx',hw',nd1,in1,up⟩:=f2.at q0 q3 ev (wk.mono (z2.same f1.sub));cases e1;have fr:∀b∈fu,(∀(j:Nat) o',ρ[j]?=some (.ow o')->b∉Φ j)/\S2 b=none/\A b=none:=fun b hb=>⟨(f1.fresh (n b hb).1).1,(n b hb).2,(f1.fresh (n b hb).1).2.2⟩
        have fa:∀b∈fu,b∉a::g1:=fun b hb z=>(fr b hb).1 i o q0 (in1 b z);obtain⟨na,ng⟩:=Uk.mp nd1;refine⟨a,xs',u,rfl,rfl,hx',?_,?_⟩
        ·rw[<- hw'.length];exact Nat.lt_trans hl g7
        ·refine k σ S2 _ (up (l++[x]) (xs'++[u]) (g1++fu) (fun H' ne=>?_) ?_ fun b hb=>?_) (z1.sh.trans z2.sh)
         ·have:=(hw'.mono (H':=H') (Same.refl _) fun b hb=>ne b fun z=>na (z▸hb)).append (.cons (ou.mono (H':=H') (Same.refl _) fun b hb=>ne b fun z=>fa b hb (z▸TD)) .nil);rw[Um] at this;exact this
         ·refine Uk.mpr ⟨fun z=>?_,VA.mpr ⟨ng,nd,fun b hb c hc e=>fa c hc (e▸TJ _ hb)⟩⟩;rcases TH.mp z with z|z
          ·exact na z
          ·exact fa a z TD
         ·rcases TH.mp hb with hb|hb
          ·exact .inl hb
          ·exact .inr (fr b hb)
       ·cases y
@[simp] noncomputable def Sk (i:Nat)(p:XP)(j:Nat):XS:=fun ρ=>match ρ[i]? with
 |some (.ow o)=>(p ρ).bind fun is=>match dH o is with
  |some (.lst l)=>(match l.getLast? with
   |some (.sh d)=>some (.nx ((ρ.set i (.ow (jh o is (.lst l.dropLast)))).set j (.sh d)))
   |_=>none)
  |_=>none
 |_=>none
@[simp] noncomputable def I9 (i:Nat)(p:XP):XS:=fun ρ=>match ρ[i]? with
 |some (.ow o)=>(p ρ).bind fun is=>match dH o is with
  |some (.lst l)=>(match shs l with|some ds=>some (.nx (ρ.set i (.ow (jh o is (.lst (ds.reverse.map .sh))))))|none=>none)
  |_=>none
 |_=>none
def Nq {to:TE}{i:Nat}  (hp:AX K to i p):SS K (uN (NH K "list" rReverse to)) (I9 i p):=fun A Λ ρ σ S H E out r y k=>by
 unfold I9 at y;cases q0:ρ[i]? with
 |none=>rw[q0] at y;cases y
 |some s=>
  rw[q0] at y;cases s with
  |un|lo|sh _=>cases y
  |ow o=>
   dsimp only at y;cases q1:p ρ with
   |none=>rw[q1] at y;cases y
   |some is=>
    rw[q1] at y;dsimp only[Option.bind] at y;cases q3:dH o is with
    |none=>rw[q3] at y;cases y
    |some qo=>
     rw[q3] at y;cases qo with
     |sh _|dic _|hd _ _ _|tup _=>cases y
     |lst l=>
      dsimp only at y;cases q4:shs l with
      |none=>rw[q4] at y;cases y
      |some ds=>rw[q4] at y;cases y;have e:=t6 q4;subst e;obtain⟨Φ,f⟩:=r;refine hp ρ σ S H _ is o _ ⟨A,Λ,Φ,f⟩ q0 q1 q3 fun v w S1 H1 ev z1 wk=>?_;have f1:=f.ext z1;obtain⟨a,xs,g0,rfl,hx,hw,nd0,in0,up⟩:=f1.at q0 q3 ev wk;obtain⟨hd,rfl⟩:=hV hw;refine⟨.inl ⟨rfl,xs,SqL.of hx⟩,a,xs,rfl,rfl,hx,?_⟩;exact k _ S1 _ (up (ds.reverse.map .sh) xs.reverse [] (fun H' ne=>lB hd.reverse) nd0 fun b hb=>by cases hb) z1.sh
noncomputable def rExtM:V->Xo->Hp->VK->Prop:=fun x vs H Q=>∃l b xs zs,x = .ref l/\vs=[.ref b]/\H l=some (.lst xs)/\Rd H b (.lst zs)/\xs.length+zs.length<=sizeLine/\Q .non (upd H l (.lst (xs++zs)))
@[simp] noncomputable def DQ (i:Nat)(p:XP)(e:XE):XS:=fun ρ=>match ρ[i]? with
 |some (.ow o)=>(p ρ).bind fun is=>(e ρ).bind fun d=>match dH o is,d with
  |some (.lst l),.lst ds=>if l.length+ds.length<=LIM then some (.nx (ρ.set i (.ow (jh o is (.lst (l++ds.map .sh)))))) else none
  |_,_=>none
 |_=>none
def Nc {to te:TE}{i:Nat}   (hp:AX K to i p)(h:SE K te e):SS K (uN (tBM K "list" rExtM to (ie te p8))) (DQ i p e):=fun A Λ ρ σ S H E out r y k=>by
 unfold DQ at y;cases q0:ρ[i]? with
 |none=>rw[q0] at y;cases y
 |some s=>
  rw[q0] at y;cases s with
  |un|lo|sh _=>cases y
  |ow o=>
   dsimp only at y;cases q1:p ρ with
   |none=>rw[q1] at y;cases y
   |some is=>
    rw[q1] at y;dsimp only[Option.bind] at y;cases q2:e ρ with
    |none=>rw[q2] at y;cases y
    |some dd=>
     rw[q2] at y;dsimp only at y;cases q3:dH o is with
     |none=>rw[q3] at y;cases y
     |some qo=>
      rw[q3] at y;cases qo with
      |sh _|dic _|hd _ _ _|tup _=>cases y
      |lst l=>
       cases dd with
       |lst ds=>
        dsimp only at y;split at y
        ·rename_i hl;cases y;obtain⟨Φ,f⟩:=r;refine hp ρ σ S H _ is o _ ⟨A,Λ,Φ,f⟩ q0 q1 q3 fun v w S1 H1 ev z1 wk=>?_;have f1:=f.ext z1;obtain⟨a,xs,g0,rfl,hx,hw,nd0,in0,_⟩:=f1.at q0 q3 ev wk;refine⟨.inl ⟨rfl,xs,SqL.of hx⟩,h ρ σ S1 H1 _ _ ⟨A,Λ,Φ,f1⟩ q2 fun u S2 H2 z2 d2=>?_⟩;have f2:=f1.ext z2;obtain⟨a',xs',g1,e1,hx',hw',nd1,in1,up⟩:=f2.at q0 q3 ev (wk.mono (z2.same f1.sub));cases e1;obtain⟨b,zs,rfl,hb,dz⟩:=den_lst.mp d2;obtain⟨na,ng⟩:=Uk.mp nd1;refine⟨a,b,xs',zs,rfl,rfl,hx',cR z2.sub hb,?_,?_⟩
         ·rw[<- hw'.length,<- dz.length];exact Ut (UT hl g7)
         ·refine k σ S2 _ (up (l++ds.map .sh) (xs'++zs) g1 (fun H' ne=>?_) nd1 fun b hb=>.inl hb) (z1.sh.trans z2.sh);have:=(hw'.mono (H':=H') (Same.refl _) fun b hb=>ne b fun z=>na (z▸hb)).append (lB (H:=H') dz);rw[Um] at this;exact this
        ·cases y
       |_=>cases y
@[simp] noncomputable def qS (i:Nat)(p:XP)(ix e:XE):XS:=fun ρ=>(e ρ).bind fun d=>match ρ[i]? with
 |some (.ow o)=>(p ρ).bind fun is=>(ix ρ).bind fun k=>match dH o is,k with
  |some (.lst l),.int k=>(match shs l with|some ds=>(ixN ds.length k).map fun j=>.nx (ρ.set i (.ow (jh o is (.lst ((ds.set j d).map .sh)))))|none=>none)
  |_,_=>none
 |_=>none
def Nr {to te:TE}{i:Nat}   (h:SE K te e)(hp:AX K to i p)(hi:SPk K ti ix):SS K (yg te (Mb to ti HN)) (qS i p ix e):=fun A Λ ρ σ S H E out r y k=>by
 unfold qS at y;cases q:e ρ with
 |none=>rw[q] at y;cases y
 |some d=>
  rw[q] at y;dsimp only[Option.bind] at y;cases q0:ρ[i]? with
  |none=>rw[q0] at y;cases y
  |some s=>
   rw[q0] at y;cases s with
   |un|lo|sh _=>cases y
   |ow o=>
    dsimp only at y;cases q1:p ρ with
    |none=>rw[q1] at y;cases y
    |some is=>
     rw[q1] at y;dsimp only at y;cases q2:ix ρ with
     |none=>rw[q2] at y;cases y
     |some dk=>
      rw[q2] at y;dsimp only at y;cases q3:dH o is with
      |none=>rw[q3] at y;cases y
      |some qo=>
       rw[q3] at y;cases qo with
       |sh _|dic _|hd _ _ _|tup _=>cases y
       |lst l=>
        cases dk with
        |int kk=>
         dsimp only at y;cases q4:shs l with
         |none=>rw[q4] at y;cases y
         |some ds=>
          rw[q4] at y;dsimp only at y;cases q5:ixN ds.length kk with
          |none=>rw[q5] at y;cases y
          |some j=>
           rw[q5] at y;cases y;have ed:=t6 q4;subst ed;obtain⟨Φ,f⟩:=r;refine h ρ σ S H _ d ⟨A,Λ,Φ,f⟩ q fun u S0 H0 z0 d0=>?_;have f0:=f.ext z0;refine hp ρ σ S0 H0 _ is o _ ⟨A,Λ,Φ,f0⟩ q0 q1 q3 fun v w S1 H1 ev z1 wk=>?_;have f1:=f0.ext z1;refine hi ρ σ S1 H1 _ _ ⟨A,Λ,Φ,f1⟩ q2 fun w2 S2 H2 z2 d2=>?_;have f2:=f1.ext z2;obtain⟨a',xs',g1,rfl,hx',hw',nd1,in1,up⟩:=f2.at q0 q3 ev (wk.mono (z2.same f1.sub));obtain⟨hd,rfl⟩:=hV hw';refine⟨a',xs',kk,j,rfl,d2.int,hx',by rw[<- hd.length];exact q5,?_⟩;exact k σ S2 _ (up ((ds.set j d).map .sh) (xs'.set j u) [] (fun H' ne=>lB (hd.set j ((d0.mono z1.sh).mono z2.sh))) nd1 fun b hb=>by cases hb) ((z0.sh.trans z1.sh).trans z2.sh)
        |_=>cases y
@[simp] noncomputable def FH (i:Nat)(e:XE)(f:D->D->Xr):XS:=fun ρ=>match ρ[i]? with
 |some (.sh x)=>(e ρ).bind fun y=>(f x y).map fun z=>.nx (ρ.set i (.sh z))
 |_=>none
def Pt {te:TE}  {i:Nat}   (h:SPk K te e)(hr:SR2 K ti f):SS K (NG i te ti) (FH i e f):=fun A Λ ρ σ S H E o r y k=>by
 unfold FH at y;cases q0:ρ[i]? with
 |none=>rw[q0] at y;cases y
 |some s=>
  rw[q0] at y;cases s with
  |un|lo|ow _=>cases y
  |sh x=>
   dsimp only at y;cases q:e ρ with
   |none=>rw[q] at y;cases y
   |some d=>
    rw[q] at y;dsimp only[Option.bind] at y;cases q2:f x d with
    |none=>rw[q2] at y;cases y
    |some g=>rw[q2] at y;cases y;obtain⟨v,h1,h2⟩:=r.sh i x q0;refine⟨v,h1,h ρ σ S H _ d r.toRl q fun w S1 H1 z1 d1=>?_⟩;exact hr S1 H1 v w x d g _ z1.sub (.inl (h2.mono z1.sh)) d1 q2 fun u S2 H2 z2 d2=>k _ S2 H2 ((r.ext (z1.trans z2)).set i d2) (z1.sh.trans z2.sh)
@[simp] noncomputable def Se (e:XE):XS:=fun ρ=>(e ρ).map fun _=>.nx ρ
end
section
variable {K:Xy}{S S' H H':Hp}
def Walks (K:Xy)(J:It)(S:Hp)(l:Xq):Prop:=∀S' H',Same S S'->Same S' H' ->
 (∀i d,l[i]?=some d->J.go i H'/\∀x H'',J.yld i H' x H''->H''=H'/\Den K S' d x)/\J.stop l.length H'
def SI (K:Xy)(wi:TI)(e:XA):Prop:=∀ρ σ S H (R:It->Hp->Prop) l,Rl K ρ σ S H->e ρ=some l->(∀J S' H',Ext S H S' H'->Walks K J S' l->R J H')->wi σ H R
noncomputable def p0:D->Option (Xq)
 |.lst l=>some l|.tup l=>some l|.scr l=>some l|.mtp l=>some l|_=>none
def LJ (K:Xy)(J:It)(S H:Hp)(l:Xq):Prop:=∀S' H',Ext S H S' H' ->
 (∀i d,l[i]?=some d->J.go i H'/\∀x H'',J.yld i H' x H''->H''=H'/\Den K S' d x)/\J.stop l.length H'
def SIP (K:Xy)(wi:TI)(e:XA):Prop:=∀ρ σ S H (R:It->Hp->Prop) l,Rl K ρ σ S H->e ρ=some l->(∀J S' H',Ext S H S' H'->LJ K J S' H' l->R J H')->wi σ H R
def SI.p {wi:TI}{e:XA}(h:SI K wi e):SIP K wi e:=fun ρ σ S H R l r x k=>h ρ σ S H R l r x fun J S' H' z w=>k J S' H' z fun S2 H2 z2=>w S2 H2 z2.sh z2.sub
@[simp] noncomputable def xIt (e:XE):XA:=fun ρ=>(e ρ).bind p0
def OG {tl:TE}  (h:SE K tl e):SI K (JN K tl) (xIt e):=fun ρ σ S H R l r x k=>by
 unfold xIt at x;cases q:e ρ with
 |none=>rw[q] at x;cases x
 |some d=>
  rw[q] at x;dsimp only[Option.bind] at x;refine h ρ σ S H _ d r q fun v S1 H1 z1 d1=>?_;cases d with
  |lst l'=>
   cases x;obtain⟨p,xs,rfl,h1,h2⟩:=den_lst.mp d1;refine⟨p,rfl,.inl ⟨⟨xs,.inl (cR z1.sub h1)⟩,k _ S1 H1 z1 fun S' H' s1 s2=>⟨fun i d hd=>?_,xs,.inl (cR (s1.trans s2) h1),UA h2.length.symm⟩⟩⟩;obtain⟨y,e1,e2⟩:=h2.get hd;refine⟨⟨xs,y,.inl (cR (s1.trans s2) h1),e1⟩,fun x H'' hy=>⟨hy.1,?_⟩⟩;have:=hy.2 xs (.inl (cR (s1.trans s2) h1));rw[e1] at this;cases this;exact e2.mono s1
  |tup l'=>
   cases x;obtain⟨p,xs,rfl,h1,h2⟩:=fP d1;refine⟨p,rfl,.inr ⟨⟨xs,aL z1.sub h1⟩,k _ S1 H1 z1 fun S' H' s1 s2=>⟨fun i d hd=>?_,xs,aL (s1.trans s2) h1,UA h2.length.symm⟩⟩⟩;obtain⟨y,e1,e2⟩:=h2.get hd;refine⟨⟨xs,y,aL (s1.trans s2) h1,e1⟩,fun x H'' hy=>⟨hy.1,?_⟩⟩;have:=hy.2 xs (aL (s1.trans s2) h1);rw[e1] at this;cases this;exact e2.mono s1
  |mtp l'=>
   cases x;obtain⟨p,xs,rfl,h1,h2⟩:=den_mtp.mp d1;refine⟨p,rfl,.inr ⟨⟨xs,aL z1.sub h1⟩,k _ S1 H1 z1 fun S' H' s1 s2=>⟨fun i d hd=>?_,xs,aL (s1.trans s2) h1,UA h2.length.symm⟩⟩⟩;obtain⟨y,e1,e2⟩:=h2.get hd;refine⟨⟨xs,y,aL (s1.trans s2) h1,e1⟩,fun x H'' hy=>⟨hy.1,?_⟩⟩;have:=hy.2 xs (aL (s1.trans s2) h1);rw[e1] at this;cases this;exact e2.mono s1
  |scr l'=>
   cases x;obtain⟨p,xs,rfl,h1,h2⟩:=den_scr.mp d1;refine⟨p,rfl,.inl ⟨⟨xs,dX z1.sub h1⟩,k _ S1 H1 z1 fun S' H' s1 s2=>⟨fun i d hd=>?_,xs,dX (s1.trans s2) h1,UA h2.length.symm⟩⟩⟩;obtain⟨y,e1,e2⟩:=h2.get hd;refine⟨⟨xs,y,dX (s1.trans s2) h1,e1⟩,fun x H'' hy=>⟨hy.1,?_⟩⟩;have:=hy.2 xs (dX (s1.trans s2) h1);rw[e1] at this;cases this;exact e2.mono s1
  |_=>cases x
noncomputable def ifC {α:Type}(p:Prop)(a b:α):α:=@ite α p (Classical.propDecidable p) a b
def d7 {α:Type}{p:Prop}{a b:α}(h:p):ifC p a b=a:=by unfold ifC;exact Ts h
def gX {α:Type}{p:Prop}{a x:α}(h:ifC p (some a) none=some x):p/\a=x:=by
 unfold ifC at h;by_cases c:p
 ·rw[Ts c] at h;exact⟨c,Uh h⟩
 ·rw[Tr c] at h;cases h
def Mi {tl:TE}  (h:SPk K tl e):SIP K (JN K tl) (xIt e):=fun ρ σ S H R l r x k=>by
 unfold xIt at x;cases q:e ρ with
 |none=>rw[q] at x;cases x
 |some d=>
  rw[q] at x;dsimp only[Option.bind] at x;refine h ρ σ S H _ d r q fun v S1 H1 z1 d1=>?_;rcases d1 with d1|⟨l',p,xs,rfl,rfl,hx,dx⟩
  ·cases d with
   |lst l'=>
    cases x;obtain⟨p,xs,rfl,h1,h2⟩:=den_lst.mp d1;refine⟨p,rfl,.inl ⟨⟨xs,.inl (cR z1.sub h1)⟩,k _ S1 H1 z1 fun S' H' z2=>⟨fun i d hd=>?_,xs,.inl (cR (z2.sh.trans z2.sub) h1),UA h2.length.symm⟩⟩⟩;obtain⟨y,e1,e2⟩:=h2.get hd;refine⟨⟨xs,y,.inl (cR (z2.sh.trans z2.sub) h1),e1⟩,fun x H'' hy=>⟨hy.1,?_⟩⟩;have:=hy.2 xs (.inl (cR (z2.sh.trans z2.sub) h1));rw[e1] at this;cases this;exact e2.mono z2.sh
   |tup l'=>
    cases x;obtain⟨p,xs,rfl,h1,h2⟩:=fP d1;refine⟨p,rfl,.inr ⟨⟨xs,aL z1.sub h1⟩,k _ S1 H1 z1 fun S' H' z2=>⟨fun i d hd=>?_,xs,aL (z2.sh.trans z2.sub) h1,UA h2.length.symm⟩⟩⟩;obtain⟨y,e1,e2⟩:=h2.get hd;refine⟨⟨xs,y,aL (z2.sh.trans z2.sub) h1,e1⟩,fun x H'' hy=>⟨hy.1,?_⟩⟩;have:=hy.2 xs (aL (z2.sh.trans z2.sub) h1);rw[e1] at this;cases this;exact e2.mono z2.sh
   |mtp l'=>
    cases x;obtain⟨p,xs,rfl,h1,h2⟩:=den_mtp.mp d1;refine⟨p,rfl,.inr ⟨⟨xs,aL z1.sub h1⟩,k _ S1 H1 z1 fun S' H' z2=>⟨fun i d hd=>?_,xs,aL (z2.sh.trans z2.sub) h1,UA h2.length.symm⟩⟩⟩;obtain⟨y,e1,e2⟩:=h2.get hd;refine⟨⟨xs,y,aL (z2.sh.trans z2.sub) h1,e1⟩,fun x H'' hy=>⟨hy.1,?_⟩⟩;have:=hy.2 xs (aL (z2.sh.trans z2.sub) h1);rw[e1] at this;cases this;exact e2.mono z2.sh
   |scr l'=>
    cases x;obtain⟨p,xs,rfl,h1,h2⟩:=den_scr.mp d1;refine⟨p,rfl,.inl ⟨⟨xs,dX z1.sub h1⟩,k _ S1 H1 z1 fun S' H' z2=>⟨fun i d hd=>?_,xs,dX (z2.sh.trans z2.sub) h1,UA h2.length.symm⟩⟩⟩;obtain⟨y,e1,e2⟩:=h2.get hd;refine⟨⟨xs,y,dX (z2.sh.trans z2.sub) h1,e1⟩,fun x H'' hy=>⟨hy.1,?_⟩⟩;have:=hy.2 xs (dX (z2.sh.trans z2.sub) h1);rw[e1] at this;cases this;exact e2.mono z2.sh
   |_=>cases x
  ·cases x;refine⟨p,rfl,.inl ⟨⟨xs,SqL.of hx⟩,k _ S1 H1 z1 fun S' H' z2=>?_⟩⟩;have hx2:H' p=some (.lst xs):=z2.same z1.sub _ _ hx;refine⟨fun i d hd=>?_,xs,SqL.of hx2,UA dx.length.symm⟩;obtain⟨y,e1,e2⟩:=dx.get hd;refine⟨⟨xs,y,SqL.of hx2,e1⟩,fun x H'' hy=>⟨hy.1,?_⟩⟩;have:=hy.2 xs (SqL.of hx2);rw[e1] at this;cases this;exact e2.mono z2.sh
noncomputable def gY (lo:Int):Nat->Xq
 |0=>[]
 |n+1=>.int lo::gY (lo+1) n
theorem pj:∀(n:Nat) (lo:Int) (i:Nat) (d:D),(gY lo n)[i]?=some d->i<n/\d = .int (lo+i)
 |0,_,_,_,h=>by simp[gY] at h
 |n+1,lo,0,d,h=>by simp[gY] at h;exact⟨VB _,by rw[<- h];simp⟩
 |n+1,lo,i+1,d,h=>by obtain⟨h1,h2⟩:=pj n (lo+1) i d (by simpa[gY] using h);exact⟨Nat.succ_lt_succ h1,by rw[h2];congr 1;lia⟩
theorem pk:∀(n:Nat) (lo:Int),(gY lo n).length=n
 |0,_=>rfl
 |n+1,lo=>by rw[gY,TF,pk n]
def FG (lo:Int)(n:Nat):Walks K (Itr lo n) S (gY lo n):=fun S' H' _ _=>⟨fun i d h=>by
 obtain⟨h1,rfl⟩:=pj n lo i d h
 exact⟨h1,fun x H'' y=>⟨y.1,den_int.mpr y.2⟩⟩,by rw[pk];exact TB _⟩
noncomputable def Kx:Xq->Option (Xq)
 |[.int j]=>ifC (j<1000000 /\ -1000000<j) (some (gY 0 j.toNat)) none
 |[.int i,.int j]=>ifC (j<4000000000000000000 /\ -4000000000000000000<i/\i<4000000000000000000 /\ -4000000000000000000<j) (some (gY i (j-i).toNat)) none
 |_=>none
@[simp] noncomputable def yp (a:XA):XA:=fun ρ=>(a ρ).bind Kx
def Mf {ta:TE}  (h:SPk K ta a):SI K (K9 (ie ta p8)) (yp (ab a aj)):=fun ρ σ S H R l r x k=>by
 unfold yp at x;cases q:ab a aj ρ with
 |none=>rw[q] at x;cases x
 |some ds=>
  rw[q] at x;obtain⟨d,e,qa,qb,rfl⟩:=oV q;cases qb;cases d with
  |int j=>
   have x':ifC (j<1000000 /\ -1000000<j) (some (gY 0 j.toNat)) none=some l:=x;obtain⟨hj,rfl⟩:=gX x';refine h ρ σ S H _ _ r qa fun v S1 H1 z1 d1=>?_;refine⟨j,by rw[d1.int],?_,?_,k _ S1 H1 z1 (FG 0 _)⟩
   ·have:(2:Int) ^ 62=4611686018427387904:=by decide
    lia
   ·have:(2:Int) ^ 62=4611686018427387904:=by decide
    lia
  |_=>cases x
noncomputable def eU:Nat->Nat->Xq
 |_,0=>[]
 |k,n+1=>.int (2 * k)::eU (k+1) n
theorem sQ:∀(n k i:Nat) (d:D),(eU k n)[i]?=some d->i<n/\d = .int (2 * ((k+i:Nat):Int))
 |0,_,_,_,h=>by simp[eU] at h
 |n+1,k,0,d,h=>by simp[eU] at h;exact⟨VB _,by rw[<- h];simp⟩
 |n+1,k,i+1,d,h=>by obtain⟨h1,h2⟩:=sQ n (k+1) i d (by simpa[eU] using h);exact⟨Nat.succ_lt_succ h1,by rw[h2];congr 1;lia⟩
theorem mJ:∀(n k:Nat),(eU k n).length=n
 |0,_=>rfl
 |n+1,k=>by rw[eU,TF,mJ n]
noncomputable def DA:Xq->Option (Xq)
 |[.int a,.int j,.int b]=>ifC (a=0/\b=2/\0<=j/\j<1000000) (some (eU 0 ((j+1) / 2).toNat)) none
 |_=>none
@[simp] noncomputable def Ja (a:XA):XA:=fun ρ=>(a ρ).bind DA
def Mg   (h:SAP K t a):SI K (La t) (Ja a):=fun ρ σ S H R l r x k=>by
 unfold Ja at x;cases q:a ρ with
 |none=>rw[q] at x;cases x
 |some ds=>
  rw[q] at x;dsimp only[Option.bind] at x;unfold DA at x;split at x
  ·rename_i aa j bb;obtain⟨⟨rfl,rfl,hj1,hj2⟩,rfl⟩:=gX x;refine h ρ σ S H _ _ r q fun vs S1 H1 z1 d1=>?_;cases d1 with
   |cons a1 d1=>cases d1 with
    |cons a2 d1=>cases d1 with
     |cons a3 d1=>cases d1;refine⟨j,by rw[a1.int,a2.int,a3.int],hj1,hj2,k _ S1 H1 z1 fun S' H' _ _=>⟨fun i d h=>?_,by rw[mJ];exact TB _⟩⟩;obtain⟨h1,rfl⟩:=sQ _ 0 i d h;exact⟨h1,fun x H'' y=>⟨y.1,den_int.mpr (by rw[y.2,U7])⟩⟩
  ·cases x
noncomputable def cD (g:XG)(m:XS):Xq->Env->Option Out
 |[],ρ=>some (.nx ρ)
 |d::l,ρ=>(g d ρ).bind fun ρ1=>match m ρ1 with
  |some (.nx ρ2)=>cD g m l ρ2
  |some (.ct ρ2)=>cD g m l ρ2
  |some (.bk ρ2)=>some (.nx ρ2)
  |some (.rt d)=>some (.rt d)
  |some (.ro d)=>some (.ro d)
  |none=>none
@[simp] noncomputable def cX (e:XA)(g:XG)(m:XS):XS:=fun ρ=>(e ρ).bind fun l=>cD g m l ρ
def ko {l:Xq}{i:Nat}{d:D}(h:l[i]?=some d):l.drop i=d::l.drop (i+1):=by obtain⟨h1,rfl⟩:=TR.mp h;exact V1 h1
def Pw {wi:TI}  {tb:TS}    (hi:SI K wi e)(hg:SG K g x)(hb:SS K tb m):SS K (Fx wi g tb) (cX e x m):=fun A Λ ρ σ S H E o r y k=>by
 unfold cX at y;cases q:e ρ with
 |none=>rw[q] at y;cases y
 |some l=>
  rw[q] at y;dsimp only[Option.bind] at y;refine hi ρ σ S H _ l r.toRl q fun J S1 H1 z1 wk=>?_;have r1:=r.ext z1;refine⟨fun i n σ' H'=>n=l.length-i/\i<=l.length/\∃ρ' S',RlA K A Λ ρ' σ' S' H'/\Same S1 S'/\cD x m (l.drop i) ρ'=some o,⟨_,rfl,T9 _,ρ,S1,r1,Same.refl _,y⟩,?_⟩;rintro i n σ2 H2 ⟨rfl,hil,ρ2,S2,r2,s2,y2⟩;obtain⟨w1,w2⟩:=wk S2 H2 s2 r2.sub;cases qd:l[i]? with
  |none=>
   have:l.length=i:=by have:=Vn.mp qd;lia
   subst this;rw[U6 (TB _)] at y2;cases y2;exact .inl ⟨w2,k σ2 S2 H2 r2 (z1.sh.trans s2)⟩
  |some d=>
   obtain⟨g1,g2⟩:=w1 i d qd;have hlt:=(TR.mp qd).1;rw[ko qd] at y2;unfold cD at y2;cases qx:x d ρ2 with
   |none=>rw[qx] at y2;cases y2
   |some ρ3=>
    rw[qx] at y2;dsimp only[Option.bind] at y2;refine .inr ⟨g1,fun σ' H'=>∃ρ' S',RlA K A Λ ρ' σ' S' H'/\Same S1 S'/\cD x m (l.drop (i+1)) ρ'=some o,fun σ' H' ⟨ρ',S',a1,a2,a3⟩=>⟨_,(),rfl,hlt,ρ',S',a1,a2,a3⟩,fun xv H3 hy=>?_⟩;obtain⟨rfl,dx⟩:=g2 xv H3 hy;refine hg A Λ ρ2 σ2 S2 H3 xv d _ ρ3 r2 dx qx fun σ3 r3=>?_;cases qm:m ρ3 with
    |none=>rw[qm] at y2;cases y2
    |some om=>
     rw[qm] at y2;refine hb A Λ ρ3 σ3 S2 H3 _ om r3 qm ?_;cases om with
     |nx ρ4=>exact fun σ4 S4 H4 r4 s4=>⟨ρ4,S4,r4,s2.trans s4,y2⟩
     |ct ρ4=>exact fun σ4 S4 H4 r4 s4=>⟨ρ4,S4,r4,s2.trans s4,y2⟩
     |bk ρ4=>cases y2;exact fun σ4 S4 H4 r4 s4=>k σ4 S4 H4 r4 ((z1.sh.trans s2).trans s4)
     |rt d4=>cases y2;exact fun v S4 H4 s4=>k v S4 H4 ((z1.sh.trans s2).trans s4)
     |ro d4=>cases y2;exact fun v fp S4 H4 s4=>k v fp S4 H4 ((z1.sh.trans s2).trans s4)
noncomputable def cc (c:XT)(m:XS):Nat->Env->Option Out
 |0,_=>none
 |n+1,ρ=>(c ρ).bind fun b=>if b=true then (match m ρ with
  |some (.nx ρ2)=>cc c m n ρ2
  |some (.ct ρ2)=>cc c m n ρ2
  |some (.bk ρ2)=>some (.nx ρ2)
  |some (.rt d)=>some (.rt d)
  |some (.ro d)=>some (.ro d)
  |none=>none) else some (.nx ρ)
theorem lf (c:XT)(m:XS):∀(n:Nat) (ρ:Env) (o:Out),cc c m n ρ=some o->cc c m (n+1) ρ=some o
 |0,_,_,h=>by cases h
 |n+1,ρ,o,h=>by
  unfold cc at h ⊢;cases qc:c ρ with
  |none=>rw[qc] at h;cases h
  |some b=>
   rw[qc] at h;dsimp only[Option.bind] at h ⊢;cases b with
   |false=>exact h
   |true=>
    rw[Ts rfl] at h ⊢;cases qm:m ρ with
    |none=>rw[qm] at h;cases h
    |some om=>
     rw[qm] at h;cases om with
     |nx ρ2=>exact lf c m n ρ2 o h
     |ct ρ2=>exact lf c m n ρ2 o h
     |bk ρ2|rt _|ro _=>exact h
theorem nB (c:XT)(m:XS)(n:Nat)(ρ:Env)(o:Out)(h:cc c m n ρ=some o):∀k,cc c m (n+k) ρ=some o
 |0=>h
 |k+1=>lf c m (n+k) ρ o (nB c m n ρ o h k)
noncomputable def oX (c:XT)(m:XS):XS:=fun ρ=>by
 classical
 exact if h:∃o n,cc c m n ρ=some o then some h.choose else none
noncomputable def ci (c:XT)(m:XS):XS:=fun ρ=>(cc c m 64 ρ).or (oX c m ρ)
def uS    {o o':Out}{n k:Nat}(h:cc c m n ρ=some o)(h':cc c m k ρ=some o'):o'=o:=by have h3:=nB c m n ρ o h k;have h4:=nB c m k ρ _ h' n;rw[Nat.add_comm k n,h3] at h4;exact (Uh h4).symm
def wS   {n:Nat}  {o:Out}(h:cc c m n ρ=some o):ci c m ρ=some o:=by
 unfold ci;cases q:cc c m 64 ρ with
 |some o'=>exact T7 some (uS h q)
 |none=>
  have hx:∃o n,cc c m n ρ=some o:=⟨o,n,h⟩
  show oX c m ρ=some o;unfold oX;rw[dif_pos hx];obtain⟨n2,h2⟩:=hx.choose_spec;exact T7 some (uS h h2)
def wC    {o:Out}(h:ci c m ρ=some o):∃n,cc c m n ρ=some o:=by
 unfold ci at h;cases q:cc c m 64 ρ with
 |some o'=>rw[q] at h;exact⟨64,q.trans h⟩
 |none=>
  rw[q] at h;have h:oX c m ρ=some o:=h;unfold oX at h;split at h
  ·rename_i hx;cases h;exact hx.choose_spec
  ·cases h
def ii {c:XT}  {ρ:Env}(h:c ρ=some false):ci c m ρ=some (.nx ρ):=wS (n:=1) (by unfold cc;rw[h];rfl)
def fX {c:XT}{m:XS}{ρ ρ2:Env}{o:Out}(h:c ρ=some true)(hm:m ρ=some (.nx ρ2))(k:ci c m ρ2=some o):ci c m ρ=some o:=by obtain⟨n,hn⟩:=wC k;exact wS (n:=n+1) (by unfold cc;rw[h,hm];exact hn)
def KA {tc:TT}{tb:TS}   (hc:ST K tc c)(hb:SS K tb m):SS K (Ci tc tb) (ci c m):=fun A Λ ρ σ S H E o r y k=>by
 obtain⟨n,hn⟩:=wC y;refine⟨fun n σ' H'=>∃ρ' S',RlA K A Λ ρ' σ' S' H'/\Same S S'/\cc c m n ρ'=some o,⟨n,ρ,S,r,Same.refl _,hn⟩,?_⟩;rintro n σ1 H1 ⟨ρ1,S1,r1,s1,h1⟩;cases n with
 |zero=>cases h1
 |succ n=>
  unfold cc at h1;cases qc:c ρ1 with
  |none=>rw[qc] at h1;cases h1
  |some b=>
   rw[qc] at h1;dsimp only[Option.bind] at h1;refine hc ρ1 σ1 S1 H1 _ b r1.toRl qc fun S2 H2 z2=>?_;have r2:=r1.ext z2;cases b with
   |false=>
    rw[Tr (by decide)] at h1;cases h1;exact BA (k σ1 S2 H2 r2 (s1.trans z2.sh))
   |true=>
    rw[Ts rfl] at h1;refine BB ⟨fun σ' H'=>∃ρ' S',RlA K A Λ ρ' σ' S' H'/\Same S S'/\cc c m n ρ'=some o,fun σ' H' a=>⟨n,VM _,a⟩,?_⟩;cases qm:m ρ1 with
    |none=>rw[qm] at h1;cases h1
    |some om=>
     rw[qm] at h1;refine hb A Λ ρ1 σ1 S2 H2 _ om r2 qm ?_;cases om with
     |nx ρ4=>exact fun σ4 S4 H4 r4 s4=>⟨ρ4,S4,r4,(s1.trans z2.sh).trans s4,h1⟩
     |ct ρ4=>exact fun σ4 S4 H4 r4 s4=>⟨ρ4,S4,r4,(s1.trans z2.sh).trans s4,h1⟩
     |bk ρ4=>cases h1;exact fun σ4 S4 H4 r4 s4=>k σ4 S4 H4 r4 ((s1.trans z2.sh).trans s4)
     |rt d4=>cases h1;exact fun v S4 H4 s4=>k v S4 H4 ((s1.trans z2.sh).trans s4)
     |ro d4=>cases h1;exact fun v fp S4 H4 s4=>k v fp S4 H4 ((s1.trans z2.sh).trans s4)
@[simp] noncomputable def q9 (js:List (Option Nat))(ρ:Env):Env:=js.map fun o=>match o with|none=>.un|some j=>match ρ[j]? with|some (.sh d)=>.sh d|_=>.un
noncomputable def aZ (g:XG)(c:XT)(e:XE)(ρ0:Env):Xq->Option (Xq)
 |[]=>some []
 |d::l=>(g d ρ0).bind fun ρ1=>(c ρ1).bind fun b=>if b=true then (e ρ1).bind fun y=>(aZ g c e ρ0 l).map fun r=>y::r else aZ g c e ρ0 l
@[simp] noncomputable def bB (js:List (Option Nat))(w:XA)(g:XG)(c:XT)(e:XE):XA:=fun ρ=>(w ρ).bind fun l=>if l.length<=LIM then aZ g c e (q9 js ρ) l else none
@[simp] noncomputable def bP:XT:=fun _=>some true
def PM:ST K K7 bP:=fun ρ σ S H Q b r x k=>by cases x;exact k S H (Ext.refl r.sub)
def oi {js:List (Option Nat)}  {i:Nat}{s:Sl}(h:(q9 js ρ)[i]?=some s):s = .un\/∃d j,s = .sh d/\js[i]?=some (some j)/\ρ[j]?=some (.sh d):=by
 unfold q9 at h;rw[TX] at h;cases q:js[i]? with
 |none=>rw[q] at h;cases h
 |some o=>
  rw[q] at h;cases o with
  |none=>cases h;exact .inl rfl
  |some j=>
   simp only[Option.map_some] at h;cases q2:ρ[j]? with
   |none=>rw[q2] at h;cases h;exact .inl rfl
   |some s2=>
    rw[q2] at h;cases s2 with
    |un=>cases h;exact .inl rfl
    |lo=>cases h;exact .inl rfl
    |ow l=>cases h;exact .inl rfl
    |sh d=>cases h;exact .inr ⟨d,j,rfl,rfl,q2⟩
noncomputable def jT (S H:Hp):Hp:=fun b=>match S b with|none=>H b|some _=>none
def vM:Same (jT S H) H:=fun b o h=>by
 unfold jT at h;cases q:S b with
 |none=>rw[q] at h;exact h
 |some _=>rw[q] at h;cases h
def vL {S:Hp}(b:Addr):S b=none\/jT S H b=none\/∃u,jT S H b=some u/\IT u:=by
 unfold jT;cases q:S b with
 |none=>exact .inl rfl
 |some _=>exact .inr (.inl rfl)
def yG {S H:Hp}{b:Addr}{o:HO}(h:H b=some o)(n:S b=none):jT S H b=some o:=by unfold jT;rw[n];exact h
def HS   (r:Rl K ρ σ S H)(js:List (Option Nat)):RlA K (jT S H) (fun _=>none) (q9 js ρ) (inn js σ) S H:=by
 refine⟨fun _=>[],?_⟩
 exact {
  len:=by unfold q9 inn;rw[Tw,Tw]
  sub:=r.sub
  sh:=fun i d h=>by
   rcases oi h with e|⟨d',j,e,h1,h2⟩
   ·cases e
   ·cases e;obtain⟨v,k1,k2⟩:=r.sh j d h2;refine⟨v,?_,k2⟩;unfold inn;rw[TX,h1];show some ((σ[j]?).join)=some (some v);rw[k1];rfl
  ow:=fun i o h=>by
   rcases oi h with e|⟨d',j,e,h1,h2⟩
   ·cases e
   ·cases e
  dj:=fun i j o o' _ h=>by
   rcases oi h with e|⟨d',j,e,h1,h2⟩
   ·cases e
   ·cases e
  lo:=fun i h=>by
   rcases oi h with e|⟨d',j,e,h1,h2⟩
   ·cases e
   ·cases e
  asub:=vM
  adis:=vL }
def Na {js:List (Option Nat)}{wi:TI}  {tt:TIf}{te:TE}     (hi:SIP K wi w)(hg:SG K g x)(hc:ST K tt c)(he:SE K te e):SF K (wM js wi g tt te) (bB js w x c e):=fun ρ σ S H Q l r y k=>by
 unfold bB at y;cases q:w ρ with
 |none=>rw[q] at y;cases y
 |some ds=>
  rw[q] at y;dsimp only[Option.bind] at y;split at y
  ·rename_i hlim;refine hi ρ σ S H _ ds r q fun J S1 H1 z1 wk D hD=>?_;have r1:=r.ext z1;have hD0:H D=none:=(z1.same r.sub).free hD
   -- the word: what is told so far,what is still to be told
   refine⟨fun i n H'=>n=ds.length-i/\i<=ds.length/\∃S' done ys rest,Ext S1 H1 S' H'/\Same S1 S'/\H' D=some (.lst ys)/\S' D=none/\Dens K S' done ys/\done.length<=i/\aZ x c e (q9 js ρ) (ds.drop i)=some rest/\l=done++rest,
    ⟨_,rfl,T9 _,S1,[],[],l,Ext.own z1.sub hD,Same.refl _,ar,z1.sub.free hD,.nil,T9 _,y,rfl⟩,?_⟩
   rintro i n H2 ⟨rfl,hil,S2,done,ys,rest,z2,s2,hy,hSD,dy,hdl,y2,rfl⟩;obtain⟨w1,w2⟩:=wk S2 H2 z2;cases qd:ds[i]? with
   |none=>
    have:ds.length=i:=by have:=Vn.mp qd;lia
    subst this;rw[U6 (TB _)] at y2;cases y2;rw[Um] at k;exact .inl ⟨w2,k D ys S2 H2 (z1.trans z2) hD0 hSD hy dy⟩
   |some d=>
    obtain⟨g1,g2⟩:=w1 i d qd;have hlt:=(TR.mp qd).1;rw[ko qd] at y2;unfold aZ at y2;cases qx:x d (q9 js ρ) with
    |none=>rw[qx] at y2;cases y2
    |some ρ3=>
     rw[qx] at y2;dsimp only[Option.bind] at y2;refine .inr ⟨g1,fun xv H3 hyl=>?_⟩;obtain⟨rfl,dx⟩:=g2 xv H3 hyl;have ri:=HS (r1.ext z2) js;refine hg _ _ _ _ S2 H3 xv d _ ρ3 ri dx qx fun σ3 r3=>?_;cases qc:c ρ3 with
     |none=>rw[qc] at y2;cases y2
     |some b=>
      rw[qc] at y2;dsimp only at y2;refine hc ρ3 σ3 S2 H3 _ b r3.toRl qc fun S4 H4 z4=>?_;obtain⟨al1,al2⟩:=z4.al D _ hy hSD;cases b with
      |false=>
       rw[Tr (by decide)] at y2;exact BA ⟨_,(),rfl,hlt,S4,done,ys,rest,z2.trans z4,s2.trans z4.sh,al1,al2,dy.mono z4.sh,(),y2,rfl⟩
      |true=>
       rw[Ts rfl] at y2;cases qe:e ρ3 with
       |none=>rw[qe] at y2;cases y2
       |some dv=>
        rw[qe] at y2;dsimp only at y2;cases qr:aZ x c e (q9 js ρ) (ds.drop (i+1)) with
        |none=>rw[qr] at y2;cases y2
        |some rest2=>
         rw[qr] at y2;cases y2;refine BB (he ρ3 σ3 S4 H4 _ dv (r3.toRl.ext z4) qe fun v S5 H5 z5 d5=>?_);obtain⟨b1,b2⟩:=z5.al D _ al1 al2;refine⟨ys,b1,?_,_,(),rfl,hlt,S5,done++[dv],ys++[v],rest2,?_,(s2.trans z4.sh).trans z5.sh,ar,b2,((dy.mono z4.sh).mono z5.sh).append (.cons d5 .nil),by rw[Tz,T4];lia,qr,by rw[Ue];rfl⟩
         ·rw[<- dy.length];exact Ul (UT hdl hlt) (Ud hlim (Ut g7))
         ·have z6:=(z2.trans z4).trans z5;exact⟨z6.sh,fun b u hb=>by rw[av fun z=>by subst z;rw[b2] at hb;cases hb];exact z6.sub b u hb,fun b o hb hn=>by
           obtain⟨c1,c2⟩:=z6.alw b o hb hn
           exact⟨by rw[av fun z=>by subst z;rw[hD] at hb;cases hb];exact c1,c2⟩⟩
  ·cases y
@[simp] noncomputable def IW (i:Nat)(g:XG)(m:XS):XS:=fun ρ=>match ρ[i]? with
 |some (.ow (.lst os))=>(match shs os with
  |some l=>(match cD g m l (ρ.set i .lo) with
   |some (.nx ρ')=>(match ρ'[i]? with|some .lo=>some (.nx (ρ'.set i (.ow (.lst os))))|_=>none)
   |some (.rt d)=>some (.rt d)
   |_=>none)
  |none=>none)
 |_=>none
def Nf  {tb:TS}{i:Nat}   (hg:SG K g x)(hb:SS K tb m):SS K (Fx (JN K (jm i)) g tb) (IW i x m):=fun A Λ ρ σ S H E out r y k=>by
 unfold IW at y;cases q0:ρ[i]? with
 |none=>rw[q0] at y;cases y
 |some s=>
  rw[q0] at y;cases s with
  |un|lo|sh _=>cases y
  |ow o=>
   cases o with
   |sh _|dic _|hd _ _ _|tup _=>cases y
   |lst os=>
    dsimp only at y;cases q1:shs os with
    |none=>rw[q1] at y;cases y
    |some l=>
     rw[q1] at y;dsimp only at y;have eo:=t6 q1;subst eo;cases q2:cD x m l (ρ.set i .lo) with
     |none=>rw[q2] at y;cases y
     |some om=>
      rw[q2] at y;obtain⟨Φ,f⟩:=r;obtain⟨v,ev,ow,nd,n⟩:=f.ow i _ q0;obtain⟨a,xs,f0,rfl,efp,hx,hw⟩:=own_lst.mp ow;obtain⟨dx,rfl⟩:=hV hw;have ai:a∈Φ i:=by rw[efp];exact TD
      have hi:=(TR.mp q0).1;refine⟨_,ev,a,rfl,.inl ⟨⟨xs,SqL.of hx⟩,?_⟩⟩
      -- the list lies outside while the loop runs
      have A':RlA K (upd A a (.lst xs)) (fun j=>if j=i then some a else Λ j) (ρ.set i .lo) σ S H:=⟨Φ,{
       len:=by rw[UW];exact f.len
       sub:=f.sub
       sh:=fun j e hj=>by
        rcases aN hj with ⟨rfl,e,_⟩|⟨_,hj⟩
        ·cases e
        ·exact f.sh j e hj
       ow:=fun j o' hj=>by
        rcases aN hj with ⟨rfl,e,_⟩|⟨hij,hj⟩
        ·cases e
        ·obtain⟨w,k1,k2,k3,k4⟩:=f.ow j o' hj;exact⟨w,k1,k2,k3,fun b hb=>⟨(k4 b hb).1,by
          have ne:b≠a:=fun z=>f.dj j i o' _ (T3 hij) hj q0 b hb (by rw[z];exact ai)
          rw[av ne];exact (k4 b hb).2⟩⟩
       dj:=fun j k o1 o2 hjk g1 g2=>by
        rcases aN g1 with ⟨rfl,e,_⟩|⟨_,g1⟩
        ·cases e
        ·rcases aN g2 with ⟨rfl,e,_⟩|⟨_,g2⟩
         ·cases e
         ·exact f.dj j k o1 o2 hjk g1 g2
       lo:=fun j hj=>by
        rcases aN hj with ⟨rfl,e,_⟩|⟨hij,hj⟩
        ·exact⟨a,Ts rfl,ev⟩
        ·rw[Tr (T3 hij)];exact f.lo j hj
       asub:=fun b u e=>by
        by_cases hb:b=a
        ·subst hb;rw[ar] at e;cases e;exact hx
        ·rw[av hb] at e;exact f.asub b u e
       adis:=fun b=>by
        by_cases hb:b=a
        ·subst hb;exact .inl (n b ai).1
        ·rw[av hb];exact f.adis b }⟩
      refine⟨fun k0 n0 σ' H'=>n0=l.length-k0/\k0<=l.length/\∃ρ' S',RlA K (upd A a (.lst xs)) (fun j=>if j=i then some a else Λ j) ρ' σ' S' H'/\Same S S'/\cD x m (l.drop k0) ρ'=some om,⟨_,rfl,T9 _,_,S,A',Same.refl _,q2⟩,?_⟩;have hd:l.length=xs.length:=dx.length
      -- back to one's own
      have back:∀ρ' σ' S' H',RlA K (upd A a (.lst xs)) (fun j=>if j=i then some a else Λ j) ρ' σ' S' H'->Same S S'->ρ'[i]?=some .lo->RlA K A Λ (ρ'.set i (.ow (.lst (l.map .sh)))) σ' S' H':=fun ρ' σ' S' H' r' s' hlo=>by
       obtain⟨Φ',f'⟩:=r';obtain⟨a2,e2,e3⟩:=f'.lo i hlo;rw[Ts rfl] at e2;cases e2;have ha':H' a=some (.lst xs):=f'.asub a _ ar;have aS:S' a=none:=by
        rcases f'.adis a with z|z|⟨_,z,⟨_,rfl⟩⟩
        ·exact z
        ·rw[ar] at z;cases z
        ·rw[ar] at z;cases z
       have aA:A a=none:=(n a ai).2;have oth:∀(j:Nat) o',ρ'[j]?=some (.ow o')->a∉Φ' j:=fun j o' hj hb=>by obtain⟨_,_,_,_,k4⟩:=f'.ow j o' hj;have:=(k4 a hb).2;rw[ar] at this;cases this
       refine⟨fun j=>if j=i then [a] else Φ' j,?_⟩
       exact {
        len:=by rw[UW];exact f'.len
        sub:=f'.sub
        sh:=fun j e hj=>by
         rcases aN hj with ⟨rfl,e,_⟩|⟨_,hj⟩
         ·cases e
         ·exact f'.sh j e hj
        ow:=fun j o' hj=>by
         rcases aN hj with ⟨rfl,e,_⟩|⟨hij,hj⟩
         ·cases e;rw[Ts rfl];exact⟨_,e3,own_lst.mpr ⟨a,xs,[],rfl,rfl,ha',lB (dx.mono s')⟩,by simp,fun b hb=>by rw[Tv.mp hb];exact⟨aS,aA⟩⟩
         ·rw[Tr (T3 hij)];obtain⟨w,k1,k2,k3,k4⟩:=f'.ow j o' hj;exact⟨w,k1,k2,k3,fun b hb=>⟨(k4 b hb).1,by
           have ne:b≠a:=fun z=>oth j o' hj (by rw[<- z];exact hb)
           have:=(k4 b hb).2;rw[av ne] at this;exact this⟩⟩
        dj:=fun j k o1 o2 hjk g1 g2 b hb hb2=>by
         rcases aN g1 with ⟨rfl,e,_⟩|⟨hij,g1⟩
         ·rcases aN g2 with ⟨rfl,e,_⟩|⟨hik,g2⟩
          ·exact hjk rfl
          ·rw[Ts rfl] at hb;rw[Tr (T3 hik)] at hb2;rw[Tv.mp hb] at hb2;exact oth k o2 g2 hb2
         ·rcases aN g2 with ⟨rfl,e,_⟩|⟨hik,g2⟩
          ·rw[Tr (T3 hij)] at hb;rw[Ts rfl] at hb2;rw[Tv.mp hb2] at hb;exact oth j o1 g1 hb
          ·rw[Tr (T3 hij)] at hb;rw[Tr (T3 hik)] at hb2;exact f'.dj j k o1 o2 hjk g1 g2 b hb hb2
        lo:=fun j hj=>by
         rcases aN hj with ⟨rfl,e,_⟩|⟨hij,hj⟩
         ·cases e
         ·obtain⟨b,h1,h2⟩:=f'.lo j hj;rw[Tr (T3 hij)] at h1;exact⟨b,h1,h2⟩
        asub:=fun b u e=>f'.asub b u (by rw[av fun z=>by subst z;rw[aA] at e;cases e];exact e)
        adis:=fun b=>by
         by_cases hb:b=a
         ·subst hb;exact .inr (.inl aA)
         ·have:=f'.adis b;rw[av hb] at this;exact this }
      rintro k0 n0 σ2 H2 ⟨rfl,hil,ρ2,S2,r2,s2,y2⟩;have hx2:H2 a=some (.lst xs):=r2.asub a _ ar;cases qd:l[k0]? with
      |none=>
       have:l.length=k0:=by have:=Vn.mp qd;lia
       subst this;rw[U6 (TB _)] at y2;cases y2;dsimp only at y;cases q5:ρ2[i]? with
       |none=>rw[q5] at y;cases y
       |some s5=>
        rw[q5] at y;cases s5 with
        |lo=>
         cases y;exact .inl ⟨⟨xs,SqL.of hx2,UA hd.symm⟩,k σ2 S2 H2 (back _ _ _ _ r2 s2 q5) s2⟩
        |_=>cases y
      |some d=>
       obtain⟨xv0,e1,e2⟩:=dx.get qd;have hlt:=(TR.mp qd).1;rw[ko qd] at y2;unfold cD at y2;cases qx:x d ρ2 with
       |none=>rw[qx] at y2;cases y2
       |some ρ3=>
        rw[qx] at y2;dsimp only[Option.bind] at y2;refine .inr ⟨⟨xs,xv0,SqL.of hx2,e1⟩,fun σ' H'=>∃ρ' S',RlA K (upd A a (.lst xs)) (fun j=>if j=i then some a else Λ j) ρ' σ' S' H'/\Same S S'/\cD x m (l.drop (k0+1)) ρ'=some om,fun σ' H' ⟨ρ',S',a1,a2,a3⟩=>⟨_,(),rfl,hlt,ρ',S',a1,a2,a3⟩,fun xv H3 hy=>?_⟩;obtain⟨rfl,hy⟩:=hy;have:=hy xs (SqL.of hx2);rw[e1] at this;cases this;refine hg _ _ ρ2 σ2 S2 H3 xv0 d _ ρ3 r2 (e2.mono s2) qx fun σ3 r3=>?_;cases qm:m ρ3 with
        |none=>rw[qm] at y2;cases y2
        |some ob=>
         rw[qm] at y2;refine hb _ _ ρ3 σ3 S2 H3 _ ob r3 qm ?_;have rtq:∀d4,om = .rt d4->out = .rt d4:=fun d4 e=>by subst e;cases y;rfl
         cases ob with
         |nx ρ4=>exact fun σ4 S4 H4 r4 s4=>⟨ρ4,S4,r4,s2.trans s4,y2⟩
         |ct ρ4=>exact fun σ4 S4 H4 r4 s4=>⟨ρ4,S4,r4,s2.trans s4,y2⟩
         |bk ρ4=>
          cases y2;dsimp only at y;cases q5:ρ4[i]? with
          |none=>rw[q5] at y;cases y
          |some s5=>
           rw[q5] at y;cases s5 with
           |lo=>
            cases y;exact fun σ4 S4 H4 r4 s4=>k σ4 S4 H4 (back _ _ _ _ r4 (s2.trans s4) q5) (s2.trans s4)
           |_=>cases y
         |rt d4=>
          cases y2;cases rtq d4 rfl;refine fun v S4 H4 s4 s5 s6 s7 dv=>k v S4 H4 (s2.trans s4) s5 (fun b u e=>s6 b u (by rw[av fun z=>by subst z;rw[(n b ai).2] at e;cases e];exact e)) (fun b=>?_) dv;by_cases hb:b=a
          ·subst hb;exact .inr (.inl (n b ai).2)
          ·have:=s7 b;rw[av hb] at this;exact this
         |ro d4=>cases y2;cases y
noncomputable def fnO (n:Nat)(x:XS)(ds:Xq):Option O:=match x (ds.map .sh++List.replicate (n-ds.length) .un) with
 |some (.rt d)=>some (.sh d)
 |some (.ro o)=>some o
 |some (.nx _)=>some (.sh .non)
 |_=>none
def HU {N:XB}{ds:Xq}  (s:Same S H)(h:Dens K S ds vs):RlA K (jT S H) (fun _=>none) (ds.map .sh++List.replicate (N.length-ds.length) .un) (L2.fU N vs) S H:=by
 have hl:=h.length;have key:∀(i:Nat) t,(ds.map Sl.sh++List.replicate (N.length-ds.length) .un)[i]?=some t->t = .un\/∃d v,t = .sh d/\(L2.fU N vs)[i]?=some (some v)/\Den K S d v:=fun i t ht=>by
  by_cases hi:i<ds.length
  ·rw[VO (by rw[Tw];exact hi),TX] at ht;cases q:ds[i]? with
   |none=>rw[q] at ht;cases ht
   |some d=>rw[q] at ht;cases ht;obtain⟨v,e1,e2⟩:=h.get q;refine .inr ⟨d,v,rfl,?_,e2⟩;unfold L2.fU;rw[VO (by rw[Tw];lia),TX,e1];rfl
  ·rw[Vs (by rw[Tw];lia),List.getElem?_replicate] at ht;split at ht
   ·cases ht;exact .inl rfl
   ·cases ht
 refine⟨fun _=>[],?_⟩
 exact {
  len:=by unfold L2.fU;rw[Tz,Tz,Tw,Tw,WX,WX,hl]
  sub:=s
  sh:=fun i d hi=>by
   rcases key i _ hi with e|⟨d',v,e,h1,h2⟩
   ·cases e
   ·cases e;exact⟨v,h1,h2⟩
  ow:=fun i o hi=>by
   rcases key i _ hi with e|⟨d',v,e,h1,h2⟩
   ·cases e
   ·cases e
  dj:=fun i j o o' _ hi=>by
   rcases key i _ hi with e|⟨d',v,e,h1,h2⟩
   ·cases e
   ·cases e
  lo:=fun i hi=>by
   rcases key i _ hi with e|⟨d',v,e,h1,h2⟩
   ·cases e
   ·cases e
  asub:=vM
  adis:=vL }
def Ag   {N:XB}{n k:Nat}     (hs:SS K t x)(hN:N.length=n)(h:bS K k (fnO n x) vs H Q E) :
  t { nx:=fun _ H'=>Q .non H',rt:=Q } (L2.fU N vs) H:=by
 obtain⟨_,S,ds,d,s,dd,y,q⟩:=h;subst hN;unfold fnO at y;have r:=HU (N:=N) s dd;have ex:∀ {S' H':Hp},Same S S'->Same S' H'->Same (jT S H) H'->(∀b,S' b=none\/jT S H b=none\/∃u,jT S H b=some u/\IT u)->Ext S H S' H':=fun s1 s2 s3 s4=>⟨s1,s2,fun b o hb hn=>by
  have ha:=yG hb hn;refine⟨s3 b o ha,?_⟩;rcases s4 b with z|z|⟨u,z,hu⟩
  ·exact .inl z
  ·rw[ha] at z;cases z
  ·rw[ha] at z;cases z;exact .inr hu⟩
 cases qx:x (ds.map .sh++List.replicate (N.length-ds.length) .un) with
 |none=>rw[qx] at y;cases y
 |some o=>
  rw[qx] at y;refine hs _ _ _ _ S H _ o r qx ?_;cases o with
  |rt d'=>
   cases y;exact fun v S' H' s1 s2 s3 s4 dv=>q v [] S' H' (ex s1 s2 s3 s4) (own_sh.mpr ⟨rfl,dv⟩) .nil fun b hb=>by cases hb
  |ro o'=>
   cases y;refine fun v fp S' H' s1 s2 s3 s4 ow nd n=>q v fp S' H' (ex s1 s2 s3 s4) ow nd fun b hb=>⟨?_,(n b hb).1⟩
   cases qb:H b with
   |none=>rfl
   |some u=>
    have:=yG qb (s1.free (n b hb).1);rw[(n b hb).2] at this;cases this
  |nx ρ'=>
   cases y;exact fun σ' S' H' r' s1=>q .non [] S' H' (ex s1 r'.sub r'.asub r'.adis) (own_sh.mpr ⟨rfl,den_non.mpr rfl⟩) .nil fun b hb=>by cases hb
  |bk ρ'=>cases y
  |ct ρ'=>cases y
end
noncomputable def dI (f:Int->Int->Xr):D->D->Xr
 |.int i,.int j=>f i j
 |_,_=>none
noncomputable def sN:D->D->Xr:=dI fun i j=>ifC ((-18446744073709551616<i/\i<18446744073709551616)\/(-18446744073709551616<j/\j<18446744073709551616)) (some (.int (i * j))) none
noncomputable def mG:D->D->Xr:=dI fun i j=>ifC (0<j/\j<1073741824) (some (.int (i / j))) none
noncomputable def i7:D->D->Xr:=dI fun i j=>ifC (0<j) (some (.int (i % j))) none
noncomputable def Gn:D->D->Xr:=dI fun i j=>ifC (0<=j/\j<=1000000/\i.natAbs<18446744073709551616) (some (.int (i ^ j.toNat))) none
noncomputable def dJ:D->D->Xr:=dI fun i j=>some (.int (i-j))
noncomputable def dLt:D->D->Xr:=dI fun i j=>some (.bl (decide (i<j)))
noncomputable def dLe:D->D->Xr:=dI fun i j=>some (.bl (decide (i<=j)))
noncomputable def dGt:D->D->Xr:=dI fun i j=>some (.bl (decide (j<i)))
noncomputable def dGe:D->D->Xr:=dI fun i j=>some (.bl (decide (j<=i)))
noncomputable def dD:D->Xr
 |.int i=>some (.int (-i))
 |_=>none
section
variable {K:Xy}
def r_i {C:Int->Int->Prop}{g:Int->Int->V}{f:Int->Int->Xr}(h:∀i j d,f i j=some d->C i j/\pe d=some (g i j)):SR2 K (rI C g) (dI f):=fun S H x y d e z Q s dx dy q k=>by
 cases d<;>cases e<;>try cases q
 rename_i i j;obtain⟨h1,h2⟩:=h i j z q;exact⟨i,j,dx.int,dy.int,h1,k _ S H (Ext.refl s) (nX h2)⟩
def HQ {g:Int->Int->V}{f:Int->Int->Xr}(h:∀i j d,f i j=some d->pe d=some (g i j)):SR2 K (rI0 g) (dI f):=fun S H x y d e z Q s dx dy q k=>by
 cases d<;>cases e<;>try cases q
 rename_i i j;exact⟨i,j,dx.int,dy.int,k _ S H (Ext.refl s) (nX (h i j z q))⟩
def Pi:SR2 K (rI CMul fun i j=>.int (i * j)) sN:=r_i fun i j d h=>by
 obtain⟨c,rfl⟩:=gX h;refine⟨?_,rfl⟩;unfold CMul;have:(2:Int) ^ 64=18446744073709551616:=by decide
 rw[this];exact c
def Pf:SR2 K (rI N1 fun i j=>.int (i / j)) mG:=r_i fun i j d h=>by obtain⟨c,rfl⟩:=gX h;exact⟨c,rfl⟩
def Ph:SR2 K (rI (fun _ j=>0<j) fun i j=>.int (i % j)) i7:=r_i fun i j d h=>by obtain⟨c,rfl⟩:=gX h;exact⟨c,rfl⟩
def Pl:SR2 K (rI Ly fun i j=>.int (i ^ j.toNat)) Gn:=r_i fun i j d h=>by
 obtain⟨c,rfl⟩:=gX h;refine⟨?_,rfl⟩;unfold Ly;have:(2:Nat) ^ 64=18446744073709551616:=by decide
 rw[this];exact c
def Pm:SR2 K (rI0 fun i j=>.int (i-j)) dJ:=HQ fun i j d h=>by cases h;rfl
def QL:SR2 K (rI0 fun i j=>.bl (decide (i<j))) dLt:=HQ fun i j d h=>by cases h;rfl
def QK:SR2 K (rI0 fun i j=>.bl (decide (i<=j))) dLe:=HQ fun i j d h=>by cases h;rfl
def QI:SR2 K (rI0 fun i j=>.bl (decide (j<i))) dGt:=HQ fun i j d h=>by cases h;rfl
def Pj:SR1 K (rU fun i=>.int (-i)) dD:=fun S H x d g Q s dx q k=>by
 cases d<;>try cases q
 rename_i i;exact⟨i,dx.int,k _ S H (Ext.refl s) (den_int.mpr rfl)⟩
end
noncomputable def Ll:R2:=fun x y H Q=>∃l b xs zs,x = .ref l/\y = .ref b/\Rd H l (.lst xs)/\Rd H b (.lst zs)/\xs.length+zs.length<=sizeLine/\∀p,H p=none->Q (.ref p) (upd H p (.lst (xs++zs)))
noncomputable def Ln (K:Xy):R2:=fun x y H Q=>∃a b xs ys,x = .ref a/\y = .ref b/\SqT K H a xs/\SqT K H b ys/\xs.length+ys.length<=sizeLine /\
 (ys=[]->Q (.ref a) H)/\(xs=[]->Q (.ref b) H)/\∀p,H p=none->Q (.ref p) (upd H p (.tup (xs++ys)))
noncomputable def Lm:R2:=fun x y H Q=>∃i j,x = .str i/\y = .str j/\i.length+j.length<=sizeLine/\Q (.str (i++j)) H
noncomputable def HF (K:Xy):R2:=fun x y H Q=>(∃i j,x = .int i/\y = .int j/\Q (.int (i+j)) H)\/Ll x y H Q\/Ln K x y H Q\/Lm x y H Q
noncomputable def a6:D->D->Xr
 |.int i,.int j=>some (.int (i+j))
 |.lst a,.lst b=>if a.length+b.length<=LIM then some (.lst (a++b)) else none
 |.tup a,.tup b=>if a.length+b.length<=LIM then some (.tup (a++b)) else none
 |.str a,.str b=>if a.length+b.length<=LIM then some (.str (a++b)) else none
 |_,_=>none
section
variable {K:Xy}
def Dens.nil_iff  {ds:Xq}{xs:Xo}(h:Dens K S ds xs):xs=[]↔ds=[]:=by have:=h.length;cases ds<;>cases xs<;>simp_all
def tN {n:Nat}(h:n<=LIM):n<=sizeLine:=Ut (UT h g7)
def Pe:SR2 K (HF K) a6:=fun S H x y d e z Q s dx dy q k=>by
 cases d<;>cases e<;>try (cases q;done)
 ·rename_i i j;cases q;exact .inl ⟨i,j,dx.int,dy.int,k _ S H (Ext.refl s) (den_int.mpr rfl)⟩
 ·rename_i i j;have q':(if i.length+j.length<=LIM then some (D.str (i++j)) else none)=some z:=q;split at q'
  ·rename_i hl;cases q';exact .inr (.inr (.inr ⟨i,j,dx.str,dy.str,tN hl,k _ S H (Ext.refl s) (den_str.mpr rfl)⟩))
  ·cases q'
 ·rename_i a b;have q':(if a.length+b.length<=LIM then some (D.lst (a++b)) else none)=some z:=q;split at q'
  ·rename_i hl;cases q';obtain⟨p,xs,rfl,h1,h2⟩:=dx.lst s;obtain⟨p',ys,rfl,h3,h4⟩:=dy.lst s;refine .inr (.inl ⟨p,p',xs,ys,rfl,rfl,h1,h3,by rw[<- h2.length,<- h4.length];exact tN hl,fun q hq=>?_⟩);have z:=Ext.new (o:=.lst (xs++ys)) s hq;exact k _ _ _ z (den_lst.mpr ⟨q,_,rfl,.inl ar,(h2.append h4).mono z.sh⟩)
  ·cases q'
 ·rename_i a b;have q':(if a.length+b.length<=LIM then some (D.tup (a++b)) else none)=some z:=q;split at q'
  ·rename_i hl;cases q';obtain⟨p,xs,e1,h1,h2⟩:=dx.tup s;obtain⟨p',ys,e2,h3,h4⟩:=dy.tup s;have dx':Den K S (.tup a) x:=dx.elim id fun⟨_,_,_,e,_⟩=>by cases e
   have dy':Den K S (.tup b) y:=dy.elim id fun⟨_,_,_,e,_⟩=>by cases e
   subst e1 e2;refine .inr (.inr (.inl ⟨p,p',xs,ys,rfl,rfl,h1,h3,by rw[<- h2.length,<- h4.length];exact tN hl,fun e=>?_,fun e=>?_,fun q hq=>?_⟩))
   ·have:=h4.nil_iff.mp e;subst this;exact k _ S H (Ext.refl s) (by rw[Um];exact dx')
   ·have:=h2.nil_iff.mp e;subst this;exact k _ S H (Ext.refl s) (by rw[VC];exact dy')
   ·have z:=Ext.new (o:=.tup (xs++ys)) s hq;exact k _ _ _ z (den_tup.mpr ⟨q,_,rfl,TpA.of ar,(h2.append h4).mono z.sh⟩)
  ·cases q'
end
mutual
noncomputable def eqD:D->D->Bool
 |.non,.non=>true
 |.bl a,.bl b=>a==b
 |.bl a,.int j=>(if a then 1 else 0)==j
 |.int i,.bl b=>i==(if b then 1 else 0)
 |.int i,.int j=>i==j
 |.str x,.str y=>x==y
 |.lst a,.lst b=>eqDs a b
 |.tup a,.tup b=>eqDs a b
 |.tup a,.mtp b=>eqDs a b
 |.mtp a,.tup b=>eqDs a b
 |.mtp a,.mtp b=>eqDs a b
 |_,_=>false
noncomputable def eqDs:Xq->Xq->Bool
 |[],[]=>true
 |x::xs,y::ys=>eqD x y&&eqDs xs ys
 |_,_=>false
end
mutual
noncomputable def okD:Nat->D->Bool
 |_,.non=>true
 |_,.bl _=>true
 |_,.int _=>true
 |_,.str x=>PyData.strOk x
 |n+1,.lst l=>okDs n l
 |n+1,.tup l=>okDs n l
 |n+1,.mtp l=>okDs n l
 |_,_=>false
noncomputable def okDs:Nat->Xq->Bool
 |_,[]=>true
 |n,d::l=>okD n d&&okDs n l
end
noncomputable def Ku (K:Xy)(neg:Bool):R2:=fun x y H Q=>∃S d e,Same S H/\DenP K S H d x/\DenP K S H e y/\okD 50 d=true/\okD 50 e=true/\Q (.bl (if neg then !eqD d e else eqD d e)) H
noncomputable def dEq (neg:Bool)(d e:D):Xr:=if okD 50 d=true/\okD 50 e=true then some (.bl (if neg then !eqD d e else eqD d e)) else none
section
variable {K:Xy}
def Pg (neg:Bool):SR2 K (Ku K neg) (dEq neg):=fun S H x y d e z Q s dx dy q k=>by
 unfold dEq at q;split at q
 ·rename_i c;cases q;exact⟨S,d,e,s,dx,dy,c.1,c.2,k _ S H (Ext.refl s) (den_bl.mpr rfl)⟩
 ·cases q
end
noncomputable def tD:D->Bool
 |.non=>true|_=>false
noncomputable def Qw (neg:Bool)(d e:D):Xr:=match e with|.non=>some (.bl (if neg then !tD d else tD d))|_=>none
section
variable {K:Xy}
end
noncomputable def dIx:D->D->Xr
 |.lst l,.int i=>atI l i
 |.tup l,.int i=>atI l i
 |.scr l,.int i=>atI l i
 |.mtp l,.int i=>atI l i
 |.str x,.int i=>if x.length<=LIM then (atI x.cps.toList i).map fun c=>.str ⟨#[c]⟩ else none
 |_,_=>none
section
variable {K:Xy}
def nT  {ds:Xq}{xs:Xo}{i:Int}{d:D}(h:Dens K S ds xs)(e:atI ds i=some d):∃v,atI xs i=some v/\Den K S d v:=by
 unfold atI at e ⊢;rw[<- h.length];cases q:ixN ds.length i with
 |none=>rw[q] at e;cases e
 |some j=>rw[q] at e;exact h.get e
def QJ:SR2 K (rIx K) dIx:=fun S H x y d e z Q s dx dy q k=>by
 cases d<;>cases e<;>try (cases q;done)
 ·rename_i x' i;have q':(if x'.length<=LIM then (atI x'.cps.toList i).map fun c=>D.str ⟨#[c]⟩ else none)=some z:=q;split at q'
  ·rename_i hl;cases qc:atI x'.cps.toList i with
   |none=>rw[qc] at q';cases q'
   |some c=>rw[qc] at q';cases q';exact .inr (.inr ⟨x',i,c,dx.str,dy.int,tN hl,qc,k _ S H (Ext.refl s) (den_str.mpr rfl)⟩)
  ·cases q'
 ·rename_i l i;obtain⟨p,xs,rfl,h1,h2⟩:=dx.lst s;obtain⟨v,h3,h4⟩:=nT h2 q;exact .inl ⟨p,xs,i,v,rfl,dy.int,.inl h1,h3,k v S H (Ext.refl s) h4⟩
 ·rename_i l i;obtain⟨p,xs,rfl,h1,h2⟩:=dx.tup s;obtain⟨v,h3,h4⟩:=nT h2 q;exact .inr (.inl ⟨p,xs,i,v,rfl,dy.int,h1,h3,k v S H (Ext.refl s) h4⟩)
 ·rename_i l i;obtain⟨p,xs,rfl,h1,h2⟩:=dx.scr s;obtain⟨v,h3,h4⟩:=nT h2 q;exact .inl ⟨p,xs,i,v,rfl,dy.int,h1,h3,k v S H (Ext.refl s) h4⟩
 ·rename_i l i;obtain⟨p,xs,rfl,h1,h2⟩:=dx.mtp s;obtain⟨v,h3,h4⟩:=nT h2 q;exact .inr (.inl ⟨p,xs,i,v,rfl,dy.int,h1,h3,k v S H (Ext.refl s) h4⟩)
end
noncomputable def fw {α:Type}(xs:List α)(lo hi:Option Int):List α:=(xs.drop (HT.sIx xs.length 0 lo)).take (HT.sIx xs.length xs.length hi-HT.sIx xs.length 0 lo)
noncomputable def Kv (K:Xy):V->Option Int->Option Int->Hp->VK->Prop:=fun x lo hi H Q=>Pc K x lo hi H Q \/
 ∃a xs,x = .ref a/\SqT K H a xs/\(lK xs lo hi=xs->Q (.ref a) H)/\∀p,H p=none->Q (.ref p) (upd H p (.tup (lK xs lo hi)))
noncomputable abbrev XO:=Env->Option (Option Int)
def SO (K:Xy)(t:TO)(o:XO):Prop:=∀ρ σ S H (Q:Option Int->Hp->Prop) i,Rl K ρ σ S H->o ρ=some i->(∀S' H',Ext S H S' H'->Q i H')->t σ H Q
@[simp] noncomputable def oW:XO:=fun _=>some none
@[simp] noncomputable def qR (a:XE):XO:=fun ρ=>(a ρ).bind fun d=>match d with|.int i=>some (some i)|_=>none
section
variable {K:Xy}
def Ic:SO K yj oW:=fun ρ σ S H Q i r x k=>by cases x;exact k S H (Ext.refl r.sub)
def Nm {ta:TE}  (h:SPk K ta a):SO K (IE ta) (qR a):=fun ρ σ S H Q i r x k=>by
 unfold qR at x;cases q:a ρ with
 |none=>rw[q] at x;cases x
 |some d=>
  rw[q] at x;dsimp only[Option.bind] at x;cases d<;>try (cases x;done)
  rename_i j;cases x;exact h ρ σ S H _ _ r q fun v S1 H1 z1 d1=>⟨j,d1.int,k S1 H1 z1⟩
def gT  {ds:Xq}{xs:Xo}(h:Dens K S ds xs)(lo hi:Option Int):Dens K S (fw ds lo hi) (lK xs lo hi):=by unfold fw lK;rw[h.length];exact (h.drop _).take _
noncomputable def dSl (d:D)(lo hi:Option Int):Xr:=match d with
 |.lst l=>some (.lst (fw l lo hi))
 |.tup l=>some (.tup (fw l lo hi))
 |.scr l=>some (.lst (fw l lo hi))
 |.mtp l=>some (.mtp (fw l lo hi))
 |_=>none
@[simp] noncomputable def xSl (a:XE)(lo hi:XO):XE:=fun ρ=>(a ρ).bind fun d=>(lo ρ).bind fun l=>(hi ρ).bind fun h=>dSl d l h
def QS {te:TE}{tl th:TO}  {lo hi:XO}(ha:SPk K te a)(hl:SO K tl lo)(hh:SO K th hi):SE K (tSl (Kv K) te tl th) (xSl a lo hi):=fun ρ σ S H Q g r x k=>by
 unfold xSl at x;cases q:a ρ with
 |none=>rw[q] at x;cases x
 |some d=>
  rw[q] at x;dsimp only[Option.bind] at x;cases ql:lo ρ with
  |none=>rw[ql] at x;cases x
  |some l=>
   rw[ql] at x;dsimp only at x;cases qh:hi ρ with
   |none=>rw[qh] at x;cases x
   |some h=>
    rw[qh] at x;dsimp only at x;refine ha ρ σ S H _ d r q fun v S1 H1 z1 d1=>?_;have r1:=r.ext z1;refine hl ρ σ S1 H1 _ l r1 ql fun S2 H2 z2=>?_;have r2:=r1.ext z2;refine hh ρ σ S2 H2 _ h r2 qh fun S3 H3 z3=>?_;have z23:=z2.trans z3;have d3:=d1.mono z23 r1.sub;have s3:=(r2.ext z3).sub;have z:=z1.trans z23;cases d<;>try (cases x;done)
    ·cases x;obtain⟨p,xs,rfl,h1,h2⟩:=d3.lst s3;refine .inl ⟨p,xs,rfl,.inl h1,fun p' hp=>?_⟩;have z4:=Ext.new (o:=.lst (lK xs l h)) s3 hp;exact k _ _ _ (z.trans z4) (den_lst.mpr ⟨p',_,rfl,.inl ar,(gT h2 l h).mono z4.sh⟩)
    ·rename_i ds;cases x;have d3':Den K S3 (.tup ds) v:=d3.elim id fun⟨_,_,_,e,_⟩=>by cases e
     obtain⟨p,xs,e,h1,h2⟩:=d3.tup s3;subst e;refine .inr ⟨p,xs,rfl,h1,fun e=>k _ S3 H3 z ?_,fun p' hp=>?_⟩
     ·obtain⟨p2,xs2,e2,h3,h4⟩:=den_tup.mp d3';cases e2;have c:=gT h2 l h;rw[e] at c;refine den_tup.mpr ⟨p,xs2,rfl,h3,?_⟩;have hlen:=c.length;have:fw ds l h=ds:=by
       have hl2:(fw ds l h).length=ds.length:=by rw[c.length,h2.length]
       unfold fw at hl2 ⊢;rw[VN,List.length_drop] at hl2;have a0:HT.sIx ds.length 0 l=0\/ds.length=0:=()
       rcases a0 with a0|a0
       ·rw[a0,List.drop_zero] at *;exact Wl ()
       ·have:ds=[]:=U8.mp a0;subst this;simp
      rw[this];exact h4
     ·have z4:=Ext.new (o:=.tup (lK xs l h)) s3 hp;exact k _ _ _ (z.trans z4) (den_tup.mpr ⟨p',_,rfl,TpA.of ar,(gT h2 l h).mono z4.sh⟩)
    ·cases x;obtain⟨p,xs,rfl,h1,h2⟩:=d3.scr s3;refine .inl ⟨p,xs,rfl,h1,fun p' hp=>?_⟩;have z4:=Ext.new (o:=.lst (lK xs l h)) s3 hp;exact k _ _ _ (z.trans z4) (den_lst.mpr ⟨p',_,rfl,.inl ar,(gT h2 l h).mono z4.sh⟩)
    ·rename_i ds;cases x;have d3':Den K S3 (.mtp ds) v:=d3.elim id fun⟨_,_,_,e,_⟩=>by cases e
     obtain⟨p,xs,e,h3,h4⟩:=den_mtp.mp d3';subst e;refine .inr ⟨p,xs,rfl,aL s3 h3,fun e=>k _ S3 H3 z (den_mtp.mpr ⟨p,xs,rfl,h3,by have c:=gT h4 l h;rwa[e] at c⟩),fun p' hp=>?_⟩;have z4:=Ext.new (o:=.tup (lK xs l h)) s3 hp;exact k _ _ _ (z.trans z4) (den_mtp.mpr ⟨p',_,rfl,SqT.of ar,(gT h4 l h).mono z4.sh⟩)
noncomputable def HH (K:Xy):Xo->Hp->VK->Prop:=fun xs H Q=>∃x n,xs=[x]/\N8 K x H n/\Q (.int n) H
noncomputable def mF:Xp
 |[.lst l]=>some (.int l.length)
 |[.tup l]=>some (.int l.length)
 |[.scr l]=>some (.int l.length)
 |[.mtp l]=>some (.int l.length)
 |[.str x]=>if x.length<=LIM then some (.int x.length) else none
 |_=>none
def ga  {d:D}  (h:DensP K S H [d] vs):∃v,vs=[v]/\DenP K S H d v:=by
 cases h with
 |cons a b=>cases b;exact⟨_,rfl,a⟩
def Cn  {d e:D}  (h:DensP K S H [d,e] vs):∃v w,vs=[v,w]/\DenP K S H d v/\DenP K S H e w:=by
 cases h with
 |cons a b=>cases b with
  |cons c b=>cases b;exact⟨_,_,rfl,a,c⟩
def Oi:SRB K (HH K) mF:=fun S H vs ds g Q s d q k=>by
 unfold mF at q;split at q
 ·rename_i l;cases q;obtain⟨v,rfl,d1⟩:=ga d;obtain⟨p,xs,rfl,h1,h2⟩:=d1.lst s;exact⟨_,xs.length,rfl,.inl ⟨xs,.inl h1,rfl⟩,k _ S H (Ext.refl s) (den_int.mpr (by rw[h2.length]))⟩
 ·rename_i l;cases q;obtain⟨v,rfl,d1⟩:=ga d;obtain⟨p,xs,rfl,h1,h2⟩:=d1.tup s;exact⟨_,xs.length,rfl,.inr ⟨xs,h1,rfl⟩,k _ S H (Ext.refl s) (den_int.mpr (by rw[h2.length]))⟩
 ·rename_i l;cases q;obtain⟨v,rfl,d1⟩:=ga d;obtain⟨p,xs,rfl,h1,h2⟩:=d1.scr s;exact⟨_,xs.length,rfl,.inl ⟨xs,h1,rfl⟩,k _ S H (Ext.refl s) (den_int.mpr (by rw[h2.length]))⟩
 ·rename_i l;cases q;obtain⟨v,rfl,d1⟩:=ga d;obtain⟨p,xs,rfl,h1,h2⟩:=d1.mtp s;exact⟨_,xs.length,rfl,.inr ⟨xs,h1,rfl⟩,k _ S H (Ext.refl s) (den_int.mpr (by rw[h2.length]))⟩
 ·rename_i x;split at q
  ·rename_i hl;cases q;obtain⟨v,rfl,d1⟩:=ga d;exact⟨_,x.length,rfl,by rw[d1.str];exact⟨tN hl,rfl⟩,k _ S H (Ext.refl s) (den_int.mpr rfl)⟩
  ·cases q
 ·cases q
noncomputable def fZ:Xp
 |[.lst l]=>some (.tup l)
 |[.tup l]=>some (.tup l)
 |[.scr l]=>some (.tup l)
 |_=>none
def Jn:SRB K (M3 K) fZ:=fun S H vs ds g Q s d q k=>by
 unfold fZ at q;split at q
 ·rename_i l;cases q;obtain⟨v,rfl,d1⟩:=ga d;obtain⟨p,xs,rfl,h1,h2⟩:=d1.lst s;refine⟨p,xs,rfl,.inl ⟨.inl h1,fun q hq=>?_⟩⟩;have z:=Ext.new (o:=.tup xs) s hq;exact k _ _ _ z (den_tup.mpr ⟨q,_,rfl,TpA.of ar,h2.mono z.sh⟩)
 ·rename_i l;cases q;obtain⟨v,rfl,d1⟩:=ga d;have d':Den K S (.tup l) v:=d1.elim id fun⟨_,_,_,e,_⟩=>by cases e
  obtain⟨p,xs,rfl,h1,h2⟩:=d1.tup s;exact⟨p,xs,rfl,.inr ⟨h1,k _ S H (Ext.refl s) d'⟩⟩
 ·rename_i l;cases q;obtain⟨v,rfl,d1⟩:=ga d;obtain⟨p,xs,rfl,h1,h2⟩:=d1.scr s;refine⟨p,xs,rfl,.inl ⟨h1,fun q hq=>?_⟩⟩;have z:=Ext.new (o:=.tup xs) s hq;exact k _ _ _ z (den_tup.mpr ⟨q,_,rfl,TpA.of ar,h2.mono z.sh⟩)
 ·cases q
noncomputable def F9:Xq->Option (Xq)
 |[.lst l]=>some l
 |[.tup l]=>some l
 |[.scr l]=>some l
 |_=>none
noncomputable def sD:Xp
 |[.int i,.int j]=>some (.int (if j > i then j else i))
 |_=>none
noncomputable def qA:Xp
 |[.int i,.int j]=>some (.int (if j<i then j else i))
 |_=>none
def LS:SRB K Pa sD:=fun S H vs ds g Q s d q k=>by
 unfold sD at q;split at q
 ·rename_i i j;cases q;obtain⟨v,w,rfl,d1,d2⟩:=Cn d;exact⟨i,j,by rw[d1.int,d2.int],k _ S H (Ext.refl s) (den_int.mpr rfl)⟩
 ·cases q
def LV:SRB K Pb qA:=fun S H vs ds g Q s d q k=>by
 unfold qA at q;split at q
 ·rename_i i j;cases q;obtain⟨v,w,rfl,d1,d2⟩:=Cn d;exact⟨i,j,by rw[d1.int,d2.int],k _ S H (Ext.refl s) (den_int.mpr rfl)⟩
 ·cases q
noncomputable def aQ:Xq->Option (XD)
 |[]=>some []
 |.int i::l=>(aQ l).map fun r=>i::r
 |_=>none
theorem gC:∀ {ds:Xq} {xs:Xo} {ns:XD},Dens K S ds xs->aQ ds=some ns->xs=ns.map V.int/\ds=ns.map D.int
 |[],xs,ns,h,e=>by cases e;exact⟨h.nil_of,rfl⟩
 |d::ds,xs,ns,h,e=>by
  obtain⟨y,ys,rfl,h1,h2⟩:=h.cons_of;cases d<;>try (cases e;done)
  rename_i i;have e':(aQ ds).map (fun r=>i::r)=some ns:=e;cases q:aQ ds with
  |none=>rw[q] at e';cases e'
  |some ms=>rw[q] at e';cases e';obtain⟨k1,k2⟩:=gC h2 q;rw[den_int.mp h1,k1];exact⟨rfl,T7 (D.int i :: ·) k2⟩
theorem gZ:∀ns:XD,aQ (ns.map D.int)=some ns
 |[]=>rfl
 |n::ns=>by rw[TQ,aQ,gZ ns];rfl
noncomputable def SB:Xp
 |[.lst l]=>(aQ l).map fun ns=>.int ns.sum
 |_=>none
noncomputable def Oe:Xp
 |[.int i]=>some (.int i)
 |[.bl b]=>some (.int (if b then 1 else 0))
 |_=>none
@[simp] noncomputable def Sq (a:XE):XA:=fun ρ=>(a ρ).bind fun d=>match d with|.lst l=>some l.reverse|_=>none
noncomputable def tyD:D->Option String
 |.non=>some "NoneType" |.bl _=>some "bool" |.int _=>some "int" |.str _=>some "str" |.lst _=>some "list" |.tup _=>some "tuple" |_=>none
noncomputable def KR (t T:String):Bool:=t==T || (t == "bool" && T == "int")
def tyM (K:Xy)(H:Hp)(x:V)(t:String):Prop:=match x with
 |.non=>t = "NoneType" |.bl _=>t = "bool" |.int _=>t = "int" |.str _=>t = "str"
 |.ref p=>(t = "list" /\ ∃xs,Rd H p (.lst xs))\/(t = "tuple" /\ ∃xs,SqT K H p xs)
 |_=>False
noncomputable def OH:List String:=["bool", "int", "str", "list", "tuple"]
noncomputable def HG (K:Xy):Xo->Hp->VK->Prop:=fun xs H Q=>∃x T t,xs=[x,.ty T]/\tyM K H x t/\T∈OH/\Q (.bl (KR t T)) H
noncomputable def sC:Xp
 |[d,.ty T]=>if T∈OH then (tyD d).map fun t=>.bl (KR t T) else none
 |_=>none
def PX    {t:String}(s:Same S H)(h:DenP K S H d v)(e:tyD d=some t):tyM K H v t:=by
 cases d with
 |non=>rw[h.non];cases e;rfl
 |bl b=>rw[h.bl];cases e;rfl
 |int b=>rw[h.int];cases e;rfl
 |str b=>rw[h.str];cases e;rfl
 |lst l=>
  cases e;obtain⟨p,xs,rfl,h1,h2⟩:=h.lst s;exact .inl ⟨rfl,xs,h1⟩
 |tup l=>
  cases e;obtain⟨p,xs,rfl,h1,h2⟩:=h.tup s;exact .inr ⟨rfl,xs,h1⟩
 |_=>cases e
def Oh:SRB K (HG K) sC:=fun S H vs ds g Q s d q k=>by
 unfold sC at q;split at q
 ·rename_i d0 T;split at q
  ·rename_i hT;cases qt:tyD d0 with
   |none=>rw[qt] at q;cases q
   |some t=>rw[qt] at q;cases q;obtain⟨v,w,rfl,d1,d2⟩:=Cn d;exact⟨v,T,t,by rw[d2.ty],PX s d1 qt,hT,k _ S H (Ext.refl s) (den_bl.mpr rfl)⟩
  ·cases q
 ·cases q
end
noncomputable def oM (k:XD):D:=.tup (k.map D.int)
noncomputable def GT:D->Option (XD)
 |.tup l=>if l.isEmpty then none else aQ l
 |_=>none
noncomputable def keys:Xq->Option (XC)
 |[]=>some []
 |d::l=>(GT d).bind fun k=>(keys l).map fun r=>k::r
theorem zu:∀a b:XD,HT.bM a b=true->HT.bM b a=false
 |[],[],h=>by cases h
 |[],_::_,_=>rfl
 |_::_,[],h=>by cases h
 |x::a,y::b,h=>by
  have h':(if x=y then HT.bM a b else decide (x<y))=true:=h;show (if y=x then HT.bM b a else decide (y<x))=false;by_cases e:x=y
  ·rw[Ts e] at h';rw[Ts e.symm];exact zu a b h'
  ·rw[Tr e] at h';rw[Tr (fun z=>e z.symm)];have:=UX h';exact Uc ()
theorem wt:∀a b:XD,HT.bM a b=false->HT.bM b a=false->a=b
 |[],[],_,_=>rfl
 |[],_::_,h,_=>by cases h
 |_::_,[],_,h=>by cases h
 |x::a,y::b,h,k=>by
  have h':(if x=y then HT.bM a b else decide (x<y))=false:=h;have k':(if y=x then HT.bM b a else decide (y<x))=false:=k;by_cases e:x=y
  ·rw[Ts e] at h';rw[Ts e.symm] at k';rw[e,wt a b h' k']
  ·rw[Tr e] at h';rw[Tr (fun z=>e z.symm)] at k';have:=UO h';have:=UO k';lia
theorem wu:∀a b c:XD,HT.bM a b=false->HT.bM b c=false->HT.bM a c=false
 |[],[],_,_,k=>k
 |[],_::_,_,h,_=>by cases h
 |_::_,_,[],_,_=>rfl
 |_::_,[],_::_,_,k=>by cases k
 |x::a,y::b,z::c,h,k=>by
  have h':(if x=y then HT.bM a b else decide (x<y))=false:=h;have k':(if y=z then HT.bM b c else decide (y<z))=false:=k;show (if x=z then HT.bM a c else decide (x<z))=false;by_cases e1:x=y
  ·rw[Ts e1] at h';subst e1;by_cases e2:x=z
   ·rw[Ts e2] at k' ⊢;exact wu a b c h' k'
   ·rw[Tr e2] at k' ⊢;exact k'
  ·rw[Tr e1] at h';have g1:=UO h';by_cases e2:y=z
   ·subst e2;rw[Tr e1];exact h'
   ·rw[Tr e2] at k';have g2:=UO k';rw[Tr ()];exact Uc ()
noncomputable def Ev (x:XD):XC->XC
 |[]=>[x]
 |y::l=>if HT.bM y x=true then y::Ev x l else x::y::l
noncomputable def eJ (ks:XC):XC:=ks.foldr Ev []
def wj (x:XD)(l:XC):(Ev x l).Perm (x::l):=by
 induction l with
 |nil=>exact .refl _
 |cons y l ih=>
  unfold Ev;split
  ·exact (ih.cons y).trans (.swap x y l)
  ·exact .refl _
noncomputable def ic (ns:XD):XD:=ns.mergeSort fun a b=>decide (a<=b)
def fG (ks:XC):(eJ ks).Perm ks:=by
 induction ks with
 |nil=>exact .refl _
 |cons x l ih=>exact (wj x (eJ l)).trans (ih.cons x)
def fF (ns:XD):(ic ns).Perm ns:=List.mergeSort_perm _ _
def JQ (x:XD)(l:XC)(h:l.Pairwise fun a b=>HT.bM b a=false):(Ev x l).Pairwise fun a b=>HT.bM b a=false:=by
 induction l with
 |nil=>exact .cons (fun _ z=>by cases z) .nil
 |cons y l ih=>
  have hy:∀z,z∈l->HT.bM z y=false:=fun z hz=>List.rel_of_pairwise_cons h hz;unfold Ev;cases q:HT.bM y x with
  |true=>
   refine .cons (fun z hz=>?_) (ih (List.Pairwise.of_cons h));rcases TN.mp ((wj x l).mem_iff.mp hz) with rfl|hz
   ·exact zu y _ q
   ·exact hy z hz
  |false=>
   refine .cons (fun z hz=>?_) h;rcases TN.mp hz with rfl|hz
   ·exact q
   ·exact wu z y x (hy z hz) q
def oI (ks:XC):(eJ ks).Pairwise fun a b=>HT.bM b a=false:=by
 induction ks with
 |nil=>exact .nil
 |cons x l ih=>exact JQ x (eJ l) ih
def Av (ns:XD):(ic ns).Pairwise (· <= ·):=by
 have h:=List.pairwise_mergeSort (le:=fun a b:Int=>decide (a<=b)) (fun a b c h k=>by
  have:=UX h;have:=UX k;exact Ux ()) (fun a b=>by
  by_cases h:a<=b
  ·simp[h]
  ·simp[show b<=a by lia]) ns
 exact h.imp fun {a b} e=>UX e
def uC {ks js:XC}(hp:js.Perm ks)(hw:js.Pairwise fun a b=>HT.bM b a=false):js=eJ ks:=
 List.Perm.eq_of_pairwise (fun a b _ _ h k=>wt a b k h) hw (oI ks) (hp.trans (fG ks).symm)
def Cd {ns ms:XD}(hp:ms.Perm ns)(hw:ms.Pairwise (· <= ·)):ms=ic ns:=
 List.Perm.eq_of_pairwise (fun a b _ _ h k=>()) hw (Av ns) (hp.trans (fF ns).symm)
noncomputable def HP (K:Xy):Xo->Hp->VK->Prop:=fun xs H Q=>∃p,∃yks:List (V×XD),xs=[.ref p]/\SqL K H p (yks.map (·.1))/\yks.length<30000/\(∀yk∈yks,∃q,yk.1 = .ref q/\SqT K H q (yk.2.map V.int)/\yk.2≠[]) /\
 ∀(zks:List (V×XD)) l,zks.Perm yks->zks.Pairwise (fun a b=>HT.bM b.2 a.2=false)->H l=none->Q (.ref l) (upd H l (.lst (zks.map (·.1))))
noncomputable def Af (K:Xy):Xo->Hp->VK->Prop:=fun xs H Q=>Ae K xs H Q\/HP K xs H Q
noncomputable def eS:Xq->Option (Xq)
 |[.lst l]=>if l.length<30000 then (match aQ l with
  |some ns=>some ((ic ns).map D.int)
  |none=>(keys l).map fun ks=>(eJ ks).map oM) else none
 |_=>none
section
variable {K:Xy}
def JT  {k:XD}(h:GT d=some k):d=oM k/\k≠[]:=by
 cases d<;>try (cases h;done)
 rename_i l;have h':(if l.isEmpty then none else aQ l)=some k:=h;split at h'
 ·cases h'
 ·rename_i hne;have key:∀(l:Xq) (k:XD),aQ l=some k->l=k.map D.int:=by
   intro l;induction l with
   |nil=>intro k e;cases e;rfl
   |cons d l ih=>
    intro k e;cases d<;>try (cases e;done)
    rename_i i;have e':(aQ l).map (fun r=>i::r)=some k:=e;cases q:aQ l with
    |none=>rw[q] at e';cases e'
    |some m=>rw[q] at e';cases e';rw[ih m q];rfl
  have e:=key l k h';subst e;exact⟨rfl,fun z=>by subst z;exact hne rfl⟩
theorem xy:∀ {l:Xq} {ks:XC},keys l=some ks->l=ks.map oM/\∀k∈ks,k≠[]
 |[],ks,h=>by cases h;exact⟨rfl,fun _ h=>by cases h⟩
 |d::l,ks,h=>by
  have h':((GT d).bind fun k=>(keys l).map fun r=>k::r)=some ks:=h;cases q:GT d with
  |none=>rw[q] at h';cases h'
  |some k=>
   rw[q] at h';dsimp only[Option.bind] at h';cases q2:keys l with
   |none=>rw[q2] at h';cases h'
   |some r=>
    rw[q2] at h';cases h';obtain⟨a,b⟩:=xy q2;obtain⟨c,d⟩:=JT q;refine⟨by rw[TQ,<- a,<- c],fun k hk=>?_⟩;rcases TN.mp hk with rfl|hk
    ·exact d
    ·exact b k hk
theorem mR:∀ {S:Hp} {k:XD} {xs:Xo},Dens K S (k.map D.int) xs->xs=k.map V.int
 |S,[],xs,h=>h.nil_of
 |S,i::k,xs,h=>by obtain⟨y,ys,rfl,h1,h2⟩:=h.cons_of;rw[den_int.mp h1,mR h2];rfl
theorem sP:∀ {ks:XC} {xs:Xo},Dens K S (ks.map oM) xs->(xs.zip ks).map (·.1)=xs/\(xs.zip ks).map (·.2)=ks/\(xs.zip ks).length=ks.length/\∀yk∈xs.zip ks,Den K S (oM yk.2) yk.1
 |[],xs,h=>by rw[h.nil_of];exact⟨rfl,rfl,rfl,fun _ h=>by cases h⟩
 |k::ks,xs,h=>by
  obtain⟨y,ys,rfl,h1,h2⟩:=h.cons_of;obtain⟨a,b,c,d⟩:=sP h2;refine⟨by rw[Wm,TQ,a],by rw[Wm,TQ,b],by rw[Wm,TF,c,TF],fun yk hm=>?_⟩;rw[Wm] at hm;rcases TN.mp hm with rfl|hm
  ·exact h1
  ·exact d yk hm
theorem iH:∀ {zks:List (V×XD)},(∀yk∈zks,Den K S (oM yk.2) yk.1)->Dens K S ((zks.map (·.2)).map oM) (zks.map (·.1))
 |[],_=>.nil
 |yk::zks,h=>.cons (h yk TD) (iH fun z hz=>h z (TJ _ hz))
def Gb:SRF K (Af K) eS:=fun S H vs ds g Q s d q k=>by
 unfold eS at q;split at q
 ·rename_i l;split at q
  ·rename_i hl;obtain⟨v,rfl,d1⟩:=ga d;obtain⟨p,xs,rfl,h1,h2⟩:=d1.lst s;cases qi:aQ l with
   |some ns=>
    rw[qi] at q;cases q;obtain⟨e1,e2⟩:=gC h2 qi;subst e1 e2;refine .inl ⟨p,ns,rfl,.inl h1,by rw[Tw] at hl;exact hl,fun ms a pm pw ha=>?_⟩;rw[Cd pm pw];refine k a _ _ (Ext.own s ha) ha ar ?_;have key:∀ns:XD,Dens K S (ns.map D.int) (ns.map V.int):=by
     intro ns;induction ns with
     |nil=>exact .nil
     |cons n ns ih=>exact .cons (den_int.mpr rfl) ih
    exact key _
   |none=>
    rw[qi] at q;dsimp only at q;cases qk:keys l with
    |none=>rw[qk] at q;cases q
    |some ks=>
     rw[qk] at q;cases q;obtain⟨e1,e2⟩:=xy qk;subst e1;obtain⟨a,b,c,dd⟩:=sP h2;refine .inr ⟨p,xs.zip ks,rfl,by rw[a];exact .inl h1,by rw[c];rw[Tw] at hl;exact hl,fun yk hm=>?_,fun zks l pm pw hl=>?_⟩
     ·obtain⟨q,ys,e,g1,g2⟩:=fP (dd yk hm);have:=mR g2;subst this;refine⟨q,e,aL s g1,e2 _ ?_⟩;rw[<- b];exact TC.mpr ⟨yk,hm,rfl⟩
     ·have e:zks.map (·.2)=eJ ks:=by
       refine uC ?_ ?_
       ·rw[<- b];exact pm.map _
       ·rw[Ur];exact pw
      have dz:Dens K S ((zks.map (·.2)).map oM) (zks.map (·.1)):=iH fun yk hm=>dd yk (pm.mem_iff.mp hm);rw[e] at dz;exact k l _ _ (Ext.own s hl) hl ar dz
  ·cases q
 ·cases q
end
noncomputable def vY:D->D->Xr:=dI fun i j=>some (.int (i+j))
section
variable {K:Xy}
def Kw:SR2 K (ipI fun i j=>i+j) vY:=HQ (g:=fun i j=>.int (i+j)) fun i j d h=>by cases h;rfl
end
def Nt  {ta:TE}  (ha:SQ K ta a):ST K (QW K ta) (yq a):=fun ρ σ S H Q b r x k=>by
 unfold yq at x;cases qa:a ρ with
 |none=>rw[qa] at x;cases x
 |some da=>rw[qa] at x;exact ha ρ σ S H _ da r qa fun v S1 H1 z1 d1=>⟨b,NJ (Same.refl H1) (.inl d1) x,k S1 H1 z1⟩
def tO (g:XG)(m:XS)(d:D)(l:Xq)(ρ:Env):cD g m (d::l) ρ=(g d ρ).bind fun ρ1=>match m ρ1 with
  |some (.nx ρ2)=>cD g m l ρ2
  |some (.ct ρ2)=>cD g m l ρ2
  |some (.bk ρ2)=>some (.nx ρ2)
  |some (.rt d)=>some (.rt d)
  |some (.ro d)=>some (.ro d)
  |none=>none:=rfl
def pE {α:Type}{g:XG}{m:XS}(enc:α->D)(P:List α->Env->Prop)(R:D->Prop)(B:Env->Prop)(l:List α)(ρ0:Env)(h0:P [] ρ0)
  (step:∀pre a post ρ,l=pre++a::post->P pre ρ->∃ρ1 o,g (enc a) ρ=some ρ1/\m ρ1=some o/\(match o with|.nx ρ2=>P (pre++[a]) ρ2|.ct ρ2=>P (pre++[a]) ρ2|.bk ρ2=>B ρ2|.rt d=>R d|.ro _=>False)) :
  ∃o,cD g m (l.map enc) ρ0=some o/\(match o with|.nx ρ'=>P l ρ'\/B ρ' | .rt d=>R d|_=>False):=by
 have key:∀(post pre:List α) (ρ:Env),l=pre++post->P pre ρ->∃o,cD g m (post.map enc) ρ=some o/\(match o with|.nx ρ'=>P l ρ'\/B ρ' | .rt d=>R d|_=>False):=by
  intro post;induction post with
  |nil=>
   intro pre ρ e p;rw[Um] at e;subst e;exact⟨_,rfl,.inl p⟩
  |cons a post ih=>
   intro pre ρ e p;obtain⟨ρ1,o,h1,h2,h3⟩:=step pre a post ρ e p;rw[TQ,tO,h1];dsimp only[Option.bind];rw[h2];cases o with
   |nx ρ2=>exact ih (pre++[a]) ρ2 (by rw[e,Ue];rfl) h3
   |ct ρ2=>exact ih (pre++[a]) ρ2 (by rw[e,Ue];rfl) h3
   |bk ρ2=>exact⟨_,rfl,.inr h3⟩
   |rt d=>exact⟨_,rfl,h3⟩
   |ro d=>exact h3.elim
 exact key l [] ρ0 rfl h0
def a8 {α:Type}{g:XG}{m:XS}(enc:α->D)(P:List α->Env->Prop)(l:List α)(ρ0:Env)(h0:P [] ρ0)
  (step:∀pre a post ρ,l=pre++a::post->P pre ρ->∃ρ1 ρ2,g (enc a) ρ=some ρ1/\(m ρ1=some (.nx ρ2)\/m ρ1=some (.ct ρ2))/\P (pre++[a]) ρ2) :
  ∃ρ',cD g m (l.map enc) ρ0=some (.nx ρ')/\P l ρ':=by
 obtain⟨o,h1,h2⟩:=pE (g:=g) (m:=m) enc P (fun _=>False) (fun _=>False) l ρ0 h0 fun pre a post ρ e p=>by
  obtain⟨ρ1,ρ2,k1,k2,k3⟩:=step pre a post ρ e p;rcases k2 with k2|k2
  ·exact⟨ρ1,_,k1,k2,k3⟩
  ·exact⟨ρ1,_,k1,k2,k3⟩
 cases o with
 |nx ρ'=>exact⟨ρ',h1,h2.elim id False.elim⟩
 |rt d|ro _=>exact h2.elim
 |bk ρ'=>exact h2.elim
 |ct ρ'=>exact h2.elim
noncomputable def dW (g:XG)(c:XT)(e:XE)(ρ0:Env)(d:D):Option (Xr):=(g d ρ0).bind fun ρ1=>(c ρ1).bind fun b=>if b=true then (e ρ1).map some else some none
theorem i6 {α:Type}     (enc:α->D)(f:α->Xr):∀(l:List α),(∀a∈l,dW g c e ρ0 (enc a)=some (f a))->aZ g c e ρ0 (l.map enc)=some (l.filterMap f)
 |[],_=>rfl
 |a::l,h=>by
  have ih:=i6 (g:=g) (c:=c) (e:=e) (ρ0:=ρ0) enc f l fun b hb=>h b (TJ _ hb);have h1:=h a TD;unfold dW at h1;rw[TQ,aZ];cases q1:g (enc a) ρ0 with
  |none=>rw[q1] at h1;cases h1
  |some ρ1=>
   rw[q1] at h1;dsimp only[Option.bind] at h1 ⊢;cases q2:c ρ1 with
   |none=>rw[q2] at h1;cases h1
   |some b=>
    rw[q2] at h1;dsimp only at h1 ⊢;cases b with
    |false=>
     rw[Tr (by decide)] at h1 ⊢;rw[ih,Uq];have:f a=none:=(Uh h1).symm;rw[this]
    |true=>
     rw[Ts rfl] at h1 ⊢;cases q3:e ρ1 with
     |none=>rw[q3] at h1;cases h1
     |some y=>rw[q3] at h1;have:f a=some y:=(Uh h1).symm;rw[ih,Uq,this];rfl
def aR {α:Type}    (enc:α->D)(f:α->D)(l:List α)(h:∀a∈l,dW g bP e ρ0 (enc a)=some (some (f a))):aZ g bP e ρ0 (l.map enc)=some (l.map f):=by rw[i6 enc (fun a=>some (f a)) l h];exact T7 some (congrFun List.filterMap_eq_map' l)
def jQ {c:XT}{m:XS}(P:Env->Prop)(μ:Env->Nat)(E:Env->Prop)(step:∀ρ,P ρ->(c ρ=some false/\E ρ)\/(c ρ=some true/\∃ρ2,m ρ=some (.nx ρ2)/\P ρ2/\μ ρ2<μ ρ))(ρ0:Env)(h0:P ρ0):∃ρ',ci c m ρ0=some (.nx ρ')/\E ρ':=by
 have key:∀(n:Nat) (ρ:Env),μ ρ=n->P ρ->∃ρ',ci c m ρ=some (.nx ρ')/\E ρ':=by
  intro n;induction n using Nat.strongRecOn with
  |ind n ih=>
   intro ρ hn p;rcases step ρ p with ⟨h1,h2⟩|⟨h1,ρ2,h2,h3,h4⟩
   ·exact⟨ρ,ii h1,h2⟩
   ·obtain⟨ρ',k1,k2⟩:=ih (μ ρ2) () ρ2 rfl h3;exact⟨ρ',fX h1 h2 k1,k2⟩
 exact key _ ρ0 rfl h0
noncomputable abbrev prD (p:Int×Int):D:=.tup [.int p.1,.int p.2]
noncomputable abbrev bm (r:List (Int×Int)):D:=.tup (r.map prD)
noncomputable abbrev BF (r:List (Int×Int)):D:=.lst (r.map prD)
@[simp] theorem eR {α:Type}(l:List α)(x:α):atI (l++[x]) (-1)=some x:=by
 unfold atI ixN;rw[Tr (by decide),Tz,T4,Ts ()];have:((-1:Int)+((l.length+1:Nat):Int)).toNat=l.length:=()
 dsimp only[Option.bind];rw[this];simp
def ft {α:Type}{l:List α}{j:Nat}{x:α}(h:l[j]?=some x):atI l (j:Int)=some x:=by have:=(TR.mp h).1;unfold atI ixN;rw[Ts (),Ts ()];dsimp only[Option.bind];rw[UY];exact h
@[simp] theorem wG (l:List O)(x:O)(f:O->O):uq (l++[x]) (-1) f=l++[f x]:=by
 unfold uq ixN;rw[Tr (by decide),Tz,T4,Ts ()];have:((-1:Int)+((l.length+1:Nat):Int)).toNat=l.length:=()
 dsimp only;rw[this];simp
@[simp] theorem N0 {α:Type}(l:List α)(a b:α):atI (l++[a,b]) (-1)=some b:=by have:=eR (l++[a]) b;rw[Ue] at this;exact this
@[simp] theorem Qc {α:Type}(a:α):atI [a] (-1)=some a:=eR [] a
@[simp] theorem M1 (l:List O)(a b:O)(f:O->O):uq (l++[a,b]) (-1) f=l++[a,f b]:=by have:=wG (l++[a]) b f;rw[Ue,Ue] at this;exact this
@[simp] theorem O2 (a:O)(f:O->O):uq [a] (-1) f=[f a]:=wG [] a f
@[simp] theorem Ot (i:Int):pe (.int i)=some (.int i):=rfl
@[simp] theorem Qe (i:Bool):pe (.bl i)=some (.bl i):=rfl
@[simp] theorem Ov (i:Str):pe (.str i)=some (.str i):=rfl
@[simp] theorem Ou:pe .non=some .non:=rfl
@[simp] theorem Qj (a b:O)(f:O->O):uq [a,b] 1 f=[a,f b]:=rfl
def oj {n:Nat}:ixN (n+1) (-1)=some n:=by unfold ixN;rw[Tr (by decide),Ts ()];congr 1;lia
section
variable (i j:Int)(a b:Xq)(neg:Bool)(ρ:Env)
@[simp] theorem Sa:dJ (.int i) (.int j)=some (.int (i-j)):=rfl
@[simp] theorem RQ:a6 (.int i) (.int j)=some (.int (i+j)):=rfl
@[simp] theorem QX:vY (.int i) (.int j)=some (.int (i+j)):=rfl
@[simp] theorem Tb:dLt (.int i) (.int j)=some (.bl (decide (i<j))):=rfl
@[simp] theorem Ta:dLe (.int i) (.int j)=some (.bl (decide (i<=j))):=rfl
@[simp] theorem S9:dGt (.int i) (.int j)=some (.bl (decide (j<i))):=rfl
@[simp] theorem S8:dGe (.int i) (.int j)=some (.bl (decide (j<=i))):=rfl
@[simp] theorem R6:dD (.int i)=some (.int (-i)):=rfl
@[simp] theorem Ra {i j:Int}(h:-18446744073709551616<j/\j<18446744073709551616):sN (.int i) (.int j)=some (.int (i * j)):=d7 (.inr h)
@[simp] theorem Q9 {i j:Int}(h:-18446744073709551616<i/\i<18446744073709551616):sN (.int i) (.int j)=some (.int (i * j)):=d7 (.inl h)
@[simp] theorem RS {i j:Int}(h:0<j/\j<1073741824):mG (.int i) (.int j)=some (.int (i / j)):=d7 h
@[simp] theorem R5 {i j:Int}(h:0<j):i7 (.int i) (.int j)=some (.int (i % j)):=d7 h
@[simp] theorem P5 {i j:Int}(h:0<=j/\j<=1000000/\i.natAbs<18446744073709551616):Gn (.int i) (.int j)=some (.int (i ^ j.toNat)):=d7 h
def Cp:a6 (.lst a) (.lst b)=if a.length+b.length<=LIM then some (.lst (a++b)) else none:=rfl
def NP:a6 (.tup a) (.tup b)=if a.length+b.length<=LIM then some (.tup (a++b)) else none:=rfl
@[simp] theorem RU (d:D):Qw neg d .non=some (.bl (if neg then !tD d else tD d)):=rfl
@[simp] theorem PY:tD .non=true:=rfl
@[simp] theorem PZ:tD (.int i)=false:=rfl
@[simp] theorem P1:tD (.tup a)=false:=rfl
@[simp] theorem RV:dIx (.lst a) (.int i)=atI a i:=rfl
@[simp] theorem RY:dIx (.tup a) (.int i)=atI a i:=rfl
@[simp] theorem RX:dIx (.scr a) (.int i)=atI a i:=rfl
@[simp] theorem Rh:AJ (.lst a)=some (!a.isEmpty):=rfl
@[simp] theorem Rk:AJ (.tup a)=some (!a.isEmpty):=rfl
@[simp] theorem Rj:AJ (.scr a)=some (!a.isEmpty):=rfl
@[simp] theorem Rf (x:Bool):AJ (.bl x)=some x:=rfl
@[simp] theorem Rg:AJ (.int i)=some (i != 0):=rfl
@[simp] theorem Ri:AJ .non=some false:=rfl
@[simp] theorem Q3:mF [.lst a]=some (.int a.length):=rfl
@[simp] theorem Q5:mF [.tup a]=some (.int a.length):=rfl
@[simp] theorem Q4:mF [.scr a]=some (.int a.length):=rfl
@[simp] theorem Rm:fZ [.lst a]=some (.tup a):=rfl
@[simp] theorem Ro:fZ [.tup a]=some (.tup a):=rfl
@[simp] theorem Q6:F9 [.lst a]=some a:=rfl
@[simp] theorem Q8:F9 [.tup a]=some a:=rfl
@[simp] theorem Q7:F9 [.scr a]=some a:=rfl
@[simp] theorem RZ:sD [.int i,.int j]=some (.int (if j > i then j else i)):=rfl
@[simp] theorem R0:qA [.int i,.int j]=some (.int (if j<i then j else i)):=rfl
@[simp] theorem RT:Oe [.int i]=some (.int i):=rfl
@[simp] theorem QY (x:Bool):Oe [.bl x]=some (.int (if x then 1 else 0)):=rfl
@[simp] theorem Rb:p0 (.lst a)=some a:=rfl
@[simp] theorem Re:p0 (.tup a)=some a:=rfl
@[simp] theorem Rc:p0 (.scr a)=some a:=rfl
@[simp] theorem R7 (lo hi:Option Int):dSl (.lst a) lo hi=some (.lst (fw a lo hi)):=rfl
@[simp] theorem R9 (lo hi:Option Int):dSl (.tup a) lo hi=some (.tup (fw a lo hi)):=rfl
@[simp] theorem R8 (lo hi:Option Int):dSl (.scr a) lo hi=some (.lst (fw a lo hi)):=rfl
@[simp] theorem S7 (y:XGs):aY y (.tup a) ρ=y a ρ:=rfl
@[simp] theorem SZ (x:XG)(y:XGs)(d:D):ao x y (d::a) ρ=(x d ρ).bind (y a):=rfl
@[simp] theorem S6:bf [] ρ=some ρ:=rfl
@[simp] theorem Q0:sC [.int i,.ty "int"]=some (.bl true):=rfl
@[simp] theorem QZ:sC [.int i,.ty "bool"]=some (.bl false):=rfl
@[simp] theorem Q2:sC [.tup a,.ty "tuple"]=some (.bl true):=rfl
@[simp] theorem Q1:sC [.lst a,.ty "list"]=some (.bl true):=rfl
@[simp] theorem Qm (x:Bool):sC [.bl x,.ty "bool"]=some (.bl true):=rfl
def NQ {j:Int}(h:0<=j/\j<1000000):DA [.int 0,.int j,.int 2]=some (eU 0 ((j+1) / 2).toNat):=d7 ⟨rfl,rfl,h⟩
end
noncomputable abbrev owl (l:Xq):Sl:=.ow (.lst (l.map O.sh))
@[simp] theorem O1 (os:List O):Hr (.ow (.lst os))=(shs os).map D.lst:=rfl
@[simp] theorem Ql:shs []=some []:=rfl
@[simp] theorem As (d:D)(l:List O):shs (.sh d::l)=(shs l).map fun r=>d::r:=rfl
@[simp] theorem PN (l:Xq):shs (l.map O.sh)=some l:=lG l
@[simp] theorem Iq {α:Type}(f:α->D)(l:List α):shs (l.map (O.sh∘f))=some (l.map f):=by rw[<- T5];exact lG _
@[simp] theorem PP {α:Type}(f:α->D)(l:List α):shs (l.map fun a=>O.sh (f a))=some (l.map f):=Iq f l
@[simp] theorem KF:∀(a b:List O),shs (a++b)=(shs a).bind fun x=>(shs b).map fun y=>x++y
 |[],b=>by cases h:shs b<;>simp[h]
 |.sh d::a,b=>by
  rw[List.cons_append,As,As,KF a b];cases shs a with
  |none=>rfl
  |some x=>cases shs b<;>rfl
 |.dic _::_,_=>rfl
 |.hd _ _ _::_,_=>rfl
 |.lst _::a,b=>rfl
 |.tup _::a,b=>rfl
@[simp] theorem PR (o:O):dH o []=some o:=by unfold dH;rfl
@[simp] theorem PQ (l:List O)(k:Int)(r:XD):dH (.lst l) (k::r)=(atI l k).bind fun o=>dH o r:=rfl
@[simp] theorem PU (l:List O)(k:Int)(r:XD):dH (.tup l) (k::r)=(atI l k).bind fun o=>dH o r:=rfl
@[simp] theorem O4 (o q:O):jh o [] q=q:=by unfold jh;rfl
@[simp] theorem O3 (l:List O)(k:Int)(r:XD)(q:O):jh (.lst l) (k::r) q = .lst (uq l k fun o=>jh o r q):=rfl
@[simp] theorem O5 (l:List O)(k:Int)(r:XD)(q:O):jh (.tup l) (k::r) q = .tup (uq l k fun o=>jh o r q):=rfl
@[simp] theorem Qr (d:D):O.d (.sh d)=d:=by unfold O.d;rfl
@[simp] theorem Qa (l:List O):O.d (.lst l) = .lst (O.ds l):=by rw[O.d]
@[simp] theorem Qb (l:List O):O.d (.tup l) = .tup (O.ds l):=by rw[O.d]
@[simp] theorem N9:O.ds []=[]:=by rw[O.ds]
@[simp] theorem D0 (o:O)(l:List O):O.ds (o::l)=o.d::O.ds l:=by rw[O.ds]
@[simp] theorem FY:∀(a b:List O),O.ds (a++b)=O.ds a++O.ds b
 |[],b=>by simp
 |o::a,b=>by simp[FY a b]
@[simp] theorem yz:∀l:Xq,O.ds (l.map O.sh)=l
 |[]=>by simp
 |d::l=>by simp[yz l]
@[simp] theorem NZ {α:Type}(f:α->D)(l:List α):O.ds (l.map (O.sh∘f))=l.map f:=by rw[<- T5];exact yz _
@[simp] theorem RG {α:Type}(a b:α):atI [a,b] 0=some a:=rfl
@[simp] theorem RH {α:Type}(a b:α):atI [a,b] 1=some b:=rfl
@[simp] theorem RI {α:Type}(a b c:α):atI [a,b,c] 0=some a:=rfl
@[simp] theorem RJ {α:Type}(a b c:α):atI [a,b,c] 1=some b:=rfl
@[simp] theorem RK {α:Type}(a b c:α):atI [a,b,c] 2=some c:=rfl
def fy:LIM=1000000:=by unfold LIM;rfl
@[simp] theorem SD:(0:Nat)<=LIM:=T9 _
@[simp] theorem SH:(1:Nat)<=LIM:=by rw[fy];decide
@[simp] theorem SK:(2:Nat)<=LIM:=by rw[fy];decide
@[simp] theorem SM:(3:Nat)<=LIM:=by rw[fy];decide
@[simp] theorem SN:(4:Nat)<=LIM:=by rw[fy];decide
@[simp] theorem SR:(5:Nat)<=LIM:=by rw[fy];decide
@[simp] theorem SU:(6:Nat)<=LIM:=by rw[fy];decide
@[simp] theorem SV:(7:Nat)<=LIM:=by rw[fy];decide
@[simp] theorem SW:(8:Nat)<=LIM:=by rw[fy];decide
@[simp] theorem SY:(9:Nat)<=LIM:=by rw[fy];decide
@[simp] theorem RP:(10:Nat)<=LIM:=by rw[fy];decide
@[simp] theorem RN:(0:Nat)<LIM:=by rw[fy];decide
def L5 (p q:Int×Int):eqD (prD p) (prD q)=decide (p=q):=by obtain⟨a,b⟩:=p;obtain⟨c,d⟩:=q;simp[prD,eqD,eqDs,Prod.ext_iff];by_cases h1:a=c<;>by_cases h2:b=d<;>simp[h1,h2]
theorem y3:∀r t:List (Int×Int),eqDs (r.map prD) (t.map prD)=decide (r=t)
 |[],[]=>rfl
 |[],_::_=>by simp[eqDs]
 |_::_,[]=>by simp[eqDs]
 |p::r,q::t=>by rw[TQ,TQ,eqDs,L5,y3 r t];by_cases h1:p=q<;>by_cases h2:r=t<;>simp[h1,h2]
def Jw (r t:List (Int×Int)):eqD (bm r) (bm t)=decide (r=t):=by unfold bm;rw[eqD,y3]
theorem t7 (n:Nat):∀r:List (Int×Int),okDs (n+1) (r.map prD)=true
 |[]=>by simp[okDs]
 |p::r=>by rw[TQ,okDs,t7 n r];simp[prD,okD,okDs]
def Di (r:List (Int×Int)):okD 50 (bm r)=true:=by unfold bm;rw[okD];exact t7 48 r
def Jt (neg:Bool)(r t:List (Int×Int)):dEq neg (bm r) (bm t)=some (.bl (if neg then !decide (r=t) else decide (r=t))):=by unfold dEq;rw[Ts ⟨Di r,Di t⟩,Jw]
@[simp] theorem Qd (neg:Bool)(i j:Int):dEq neg (.int i) (.int j)=some (.bl (if neg then !decide (i=j) else decide (i=j))):=by
 unfold dEq;rw[Ts ⟨by simp[okD],by simp[okD]⟩];have:eqD (.int i) (.int j)=decide (i=j):=by simp[eqD];by_cases h:i=j<;>simp[h]
 rw[this]
@[simp] theorem Qv (neg:Bool)(i j:Bool):dEq neg (.bl i) (.bl j)=some (.bl (if neg then !decide (i=j) else decide (i=j))):=by
 unfold dEq;rw[Ts ⟨by simp[okD],by simp[okD]⟩];have:eqD (.bl i) (.bl j)=decide (i=j):=by simp[eqD];by_cases h:i=j<;>simp[h]
 rw[this]
theorem lr:∀ns:XD,Dens K S (ns.map D.int) (ns.map V.int)
 |[]=>.nil
 |n::ns=>.cons (den_int.mpr rfl) (lr ns)
def Fv    {ns:XD}{m:Xq->Option O}  (hS:SqL K H a (ns.map V.int))(h:(m [.scr (ns.map D.int)]).map O.d=some (.bl true)):bS K 1 m [.ref a] H (fun v _=>v = .bl true) E:=by
 cases q:m [.scr (ns.map D.int)] with
 |none=>rw[q] at h;cases h
 |some o=>
  rw[q] at h;have e:o.d = .bl true:=Uh h;exact⟨rfl,H,[.scr (ns.map D.int)],o,Same.refl _,.cons (den_scr.mpr ⟨a,_,rfl,hS,lr ns⟩) .nil,q,fun v fp S' H' z ow _ _=>by
   have dv:=ow.denH z.sub;rw[e] at dv
   exact den_bl.mp dv⟩
end M
namespace L2
open PySem PySem.Spec PyProof.Rows
def A2:bootBuiltins "len" = some (.builtin "len"):=by decide +kernel
def gy:bootBuiltins "sorted" = some (.builtin "sorted"):=by decide +kernel
def Gd:bootBuiltins "max" = some (.builtin "max"):=by decide +kernel
def Ge:bootBuiltins "min" = some (.builtin "min"):=by decide +kernel
def u6:bootBuiltins "isinstance" = some (.builtin "isinstance"):=by decide +kernel
def i4:bootBuiltins "tuple" = some (.type "tuple"):=by decide +kernel
def Jp:bootBuiltins "list" = some (.type "list"):=by decide +kernel
section
variable {X:Cx}
def lA {K:Xy}{t T:String}(ht:t∈["NoneType", "bool", "int", "str", "list", "tuple"]) (hT:T∈["bool", "int", "str", "list", "tuple"]):W.kitOne K (.type t) (.type T)=some (M.KR t T):=by simp only[TN,List.not_mem_nil,or_false] at ht hT;rcases ht with rfl|rfl|rfl|rfl|rfl|rfl<;>rcases hT with rfl|rfl|rfl|rfl|rfl<;>kernel_rfl
theorem tL:∀a b:XD,Srt.f7 a b=HT.bM a b
 |[],[]=>rfl
 |[],_::_=>rfl
 |_::_,[]=>rfl
 |x::xs,y::ys=>by rw[HT.BE,<- tL xs ys];rfl
end
end L2
namespace Rev
open PySem
section
variable {prog:Program}{w:World}{A:Around}{s:Shared}{R:Result->Shared->Prop}{I:Addr}{fp wr:Xz}{G:Array GenState->Array GenState->Prop}{n:Nat}{P:Nat->Value->Prop}{St:Nat->Shared->Prop}
end
section
variable {prog:Program}{w:World}{A:Around}{E:Xs}{s:Shared}{I:Addr}{fp wr:Xz}{G:Array GenState->Array GenState->Prop}{n:Nat}{P:Nat->Value->Prop}{St:Nat->Shared->Prop}
end
end Rev
namespace L2
open PySem PySem.Spec PyProof.Rows
def yO:bootBuiltins "reversed" = some (.type "reversed"):=by decide +kernel
section
variable {X:Cx}{tg:Expr}
def uh  {tl:TE}(hl:PE X l tl):PI X tg l (JN X.K tl):=by
 intro pins s σ H R I h;refine thn (hl pins s σ H _ I h) fun v s1 h1=>?_;obtain⟨x,H1,I1,r1,a,e,q⟩:=h1;subst e;cases r1;rcases q with ⟨⟨xs,hq⟩,q⟩|⟨⟨xs,hq⟩,q⟩
 ·obtain⟨its,rv,p,hz⟩:=I1.list hq;refine wpAny_pyIter_list p.isList ⟨s1.heap.objs.size,[s1.heap.objs.size],_,_,H1,rfl,I1.kept (t':=s1.toks) fun b o e=>TU _ e,Fz a _,⟨_,T8 _ rfl,rfl,rfl⟩,fun b hb=>?_,q⟩;rw[Tv.mp hb];exact I1.fpOk (TB _) I1.fresh
 ·obtain⟨its,rv,p,hz⟩:=I1.tuple hq;refine wpAny_pyIter_tuple (show s1.heap.IsTuple a its.toArray from p) ⟨s1.heap.objs.size,[s1.heap.objs.size],_,_,H1,rfl,I1.kept (t':=s1.toks) fun b o e=>TU _ e,Ck a _,⟨_,T8 _ rfl,rfl,rfl⟩,fun b hb=>?_,q⟩;rw[Tv.mp hb];exact I1.fpOk (TB _) I1.fresh
end
section
variable {X:Cx}{tg:Expr}
theorem wl:∀ {vs:Xw} {ns:XD},IntsAre vs ns->Vals (ns.map V.int) vs
 |_,_,.nil=>.nil
 |_,_,.cons n t h=>.cons ⟨t,rfl⟩ (wl h)
def call_sortedI:CallR X (.builtin "sorted") (Ae X.K):=by
 intro pins s σ H xs us Q I r h;obtain⟨p,ns,rfl,hS,h64,k⟩:=h;obtain⟨u,rfl,ru⟩:=r.one;cases ru;obtain⟨its,rv,pl,hz⟩:=I.list hS;have hI:IntsAre its ns:=jD rv;have hl:its.length=ns.length:=by have:=rv.length;rw[Tw] at this;exact this.symm
 refine Srt.yb pl.isList hI (by rw[Uj];lia) fun out ms ho perm pw=>?_;obtain⟨e,at1⟩:=sortedAll_at s.heap its out;have fresh:s.heap.objs.size<=s.heap.objs.size+1:=We _;refine⟨.ref (s.heap.objs.size+1),upd H (s.heap.objs.size+1) (.lst (ms.map V.int)),I.laid (t':=s.toks) (fun b o hb=>sortedAll_old hb) fresh ?_,rfl,k ms _ perm pw (I.hok.fresh fresh)⟩;exact⟨by rw[Tw,perm.length_eq,Uj];lia,out.toList,e,wl ho,by simpa using at1⟩
def Fm {j:Int}(h0:0<=j)(h1:j<1000000):Builtin.Range.small 0 j 2=true:=by
 unfold Builtin.Range.small;rw[rangeSize_pos (by decide) h0];simp only[Builtin.Range.rangeFitsLong,UM,Bool.or_eq_true,decide_eq_true_eq,UK,show (2:Int) > 0 by decide,UE];have e:(2:Int) ^ 63=9223372036854775808:=by decide
 lia
def IL {P:Program}{w:World}{K:Xy}(it:Addr)(n:Nat):Turn P w K tg (LB n) [it] it (fun i h=>IsRangeIter h it (0+(i:Nat) * 2) ((n:Int)-(i:Nat)) 2) where
 mem:=by simp
 obj:=fun i h st b hb=>by rw[Tv.mp hb];exact⟨_,st,fun v z=>by have z':Data.fields _=Data.cell v:=z;cases z'⟩
 keep:=fun i h h' st k=>k it (by simp) _ st
 item:=by intro X hP hw hK hc i pins s σ H E I hf st hg;subst hP hw hK;obtain⟨f0,f1,f2,f3,f4,f5⟩:=hf it (by simp);refine (Walks.range (prog:=X.prog) (w:=X.w) (I.ok.hd hc) it 0 2 n).item i s _ _ hg st fun v h' tk hv st' kk=>?_;obtain⟨t,rfl⟩:=hv;have I1:Inv X pins σ H { s with heap:=h',toks:=tk }:=I.turned (fun b o hb e=>kk b o (fun z=>hb (Tv.mp z)) e) f0 f1 f3 f4 f5;refine⟨_,rfl,s9 (s:={ s with heap:=h',toks:=tk }) (n := "range_iterator") st' rfl rfl (by decide) ⟨.int (2 * i),H,I1,⟨t,?_⟩,⟨rfl,rfl⟩,st',fun b hb=>(hf b hb).1⟩⟩;rw[Int.zero_add,Int.mul_comm]
 done:=by intro X hP hw hK hc i pins s σ H E I hf st hg;subst hP hw hK;obtain⟨f0,f1,f2,f3,f4,f5⟩:=hf it (by simp);exact WV (I.ok.hd hc) st (by have:n<=i:=hg;lia) fun h' eb=>⟨rfl,I.turned (t':=s.toks) (fun b o hb e=>eb b o hb e) f0 f1 f3 f4 f5⟩
 self:=fun _ _ _ _ _ st h=>WW st h
def NM {pins:Xu}    {R:It->Hp->Prop}  {j:Int}{t u v:Tok}{tk:Nat}(I:Inv X pins σ H s)(h1:0<=j)(h2:j<1000000)(q:R (LB ((j+1) / 2).toNat) H) :
  wpAny (model X.prog X.w) X.A (pyIter (.ref s.heap.objs.size)) (PIE X pins σ tg R) E { s with heap:=s.heap.push { cls:=.type "range",data:=.fields #[.int 0 t,.int j u,.int 2 v] },toks:=tk }:=by
 refine wpAny_pyIter_range (IsRange.new ..) (Fm h1 h2) ?_;have I1:Inv X pins σ H { s with heap:=s.heap.push { cls:=.type "range",data:=.fields #[.int 0 t,.int j u,.int 2 v] },toks:=tk }:=I.kept fun b o e=>TU _ e;refine⟨(s.heap.push { cls:=.type "range",data:=.fields #[.int 0 t,.int j u,.int 2 v] }).objs.size,[(s.heap.push { cls:=.type "range",data:=.fields #[.int 0 t,.int j u,.int 2 v] }).objs.size],_,_,H,rfl,I1.kept (t':=tk) fun b o e=>TU _ e,IL _ ((j+1) / 2).toNat,?_,fun b hb=>?_,q⟩
 ·have e1:(0:Int)+((0:Nat):Int) * 2=0:=by simp
  have e2:((((j+1) / 2).toNat:Nat):Int)-((0:Nat):Int)=Builtin.Range.rangeSize 0 j 2:=by rw[rangeSize_pos (by decide) h1];lia
  show IsRangeIter _ _ (0+((0:Nat):Int) * 2) (((((j+1) / 2).toNat:Nat):Int)-((0:Nat):Int)) 2;rw[e1,e2];exact T8 _ rfl
 ·rw[Tv.mp hb];exact I1.fpOk (TB _) I1.fresh
def E3 {a b c:Expr}{ta:TA}{p pos:Pos}(hg:Gl X "range") (hm:X.mg "range" = none) (ha:PA X [a,b,c] ta) (hs:starEach [a,b,c] X.env=(false,eval a X.env)::starEach [b,c] X.env:=by rfl)
  (hp:(backTo pos (starEach [b,c] X.env)).any (·.1)=false:=by rfl):PI X tg (.Call (.Name "range" p) [a,b,c] [] pos) (La ta):=by
 intro pins s σ H R I h;refine Call_ (g6 I hg hm boot_range (VI (thn (ha pos pins s σ H _ I h) fun us s1 h1=>?_) hs hp));obtain⟨vs,H1,I1,r1,j,rfl,q1,q2,q⟩:=h1;cases r1 with
 |cons r rr=>
  cases rr with
  |cons r' rr=>
   cases rr with
   |cons r'' rr=>cases rr;obtain⟨t,rfl⟩:=r;obtain⟨t',rfl⟩:=r';obtain⟨t'',rfl⟩:=r'';exact call_range_3 (by decide) (NM I1 q1 q2 q)
end
end L2
namespace HT
open PySem PySem.Spec PyProof.Rows
section
variable {prog:Program}{w:World}{A:Around}{E:Xs}{s:Shared}
def lN {t sl:Addr}{items:Array Value}{vl vu:Value}{lo hi:Option Int}{Q:Xs}(ht:IsTup s.heap t items)(hs:s.heap.IsSliceOf sl vl vu .none)(pl:IsPart vl lo)(pu:IsPart vu hi)
  (hw:sIx items.size 0 lo=0/\sIx items.size items.size hi=items.size) (h:Q (.ref t) s):wpAny (model prog w) A (getItem (.ref t) (.ref sl)) Q E s:=by
 obtain⟨os,hos,hcs,hds⟩:=id hs;have hTs:s.TypeIs (.ref sl) "slice" := ⟨os,hos,hcs⟩
 unfold getItem;try with_reducible refine Uw ?_
 first|refine Tq (Tt ?_)|skip
 refine Tq (wpAny_sequenceKey ht.typeIs (by decide) ?_)
 refine Tq (Vj (name:=Str.ofString "__getitem__") ht.typeIs VV
  (UF VV ht.typeIs entry_tuple_getitem ?_ (args_tuple_getitem _ _)))
 show wpAny _ _ (Builtin.Tuple.tupleItemsOf (.ref t) >>= _) _ _ s;refine Tq (tupleItemsOf_ ht ?_);refine Tq (Wf hTs ?_);rw[Ts (by decide)];refine Tq (jj hs pl pu ?_);have hyes:((((sIx items.size 0 lo:Nat):Int)==0&&(1:Int)==1&&(sIx items.size items.size hi-sIx items.size 0 lo)==items.size)=true):=by rw[hw.1,hw.2];simp
 show wpAny _ _ (if (((sIx items.size 0 lo:Nat):Int)==0&&(1:Int)==1&&(sIx items.size items.size hi-sIx items.size 0 lo)==items.size)=true then _ else _) _ _ s;rw[Ts hyes];refine Tq (m:=Builtin.Tuple.tupleIsExact _) (Tq (Wf ht.typeIs (Tt ?_)));rw[Ts (by decide)];exact Tq (Vl (Tt ⟨_,rfl,Tt h⟩))
end
end HT
namespace L2
open PySem PySem.Spec PyProof.Rows M
def Inv.rdl  {pins:Xu}     {xs:Xo}(I:Inv X pins σ H s)(h:Rd H l (.lst xs)):xs.length<=sizeLine/\∃(its:Xw) (n:Nat),Vals xs its/\xs.length=its.length/\s.heap.get? l=some { cls:=.type "list",data:=.seq its.toArray n }:=by
 obtain⟨h1,its,n,r,e⟩:=(show ObjOk X.prog X.w H s.heap l (.lst xs) from h.ok I.hok)
 exact⟨h1,its,n,r,r.length,e⟩
section
variable {X:Cx}
def op_catM:OpR X (binaryOp .Add) Ll:=by
 intro pins s σ H x y v u Q I rx ry h;obtain⟨l,b,xs,zs,rfl,rfl,hH,hB,hz,q⟩:=h;cases rx;cases ry;obtain⟨z,its,n,r,hl,e⟩:=I.rdl hH;obtain⟨z2,its2,n2,r2,hl2,e2⟩:=I.rdl hB;refine PySem.P.add_list e e2 ?_ (by rw[TZ,TZ];lia);have ea:its.toArray++its2.toArray=(its++its2).toArray:=by simp
 rw[ea];exact⟨.ref _,_,I.lnew (t':=s.toks) (r.append r2) (by rw[Tz];lia),rfl,q _ I.fresh⟩
def op_tupM:OpR X (binaryOp .Add) (Ln X.K):=by
 intro pins s σ H x y v u Q I rx ry h;obtain⟨a,b,xs,ys,rfl,rfl,ha,hb,hz,q1,q2,q⟩:=h;cases rx;cases ry;obtain⟨its,r1,p1,_⟩:=I.tuple ha;obtain⟨its2,r2,p2,_⟩:=I.tuple hb;have hz2:its.length+its2.length<=sizeLine:=by rw[<- r1.length,<- r2.length];exact hz
 by_cases hv:its=[]
 ·have hx:xs=[]:=r1.nil_iff.mp hv;obtain⟨⟨cls,dd,data,sl⟩,ho,hc,n,hd⟩:=id p1;obtain⟨⟨cls2,dd2,data2,sl2⟩,ho2,hc2,n2,hd2⟩:=id p2;simp only at hc hd hc2 hd2;subst hc hd hc2 hd2;exact concat_meets ⟨_,ho,rfl⟩ ⟨_,ho2,rfl⟩ noFill_tuple_add seq_tuple_add WZ W0 (W1 (.ref a) (.ref b)) (tuple_addW0 a b its.toArray its2.toArray n n2 dd dd2 sl sl2 (by simp[hv])) ⟨ho,ho2,⟨.ref b,H,I,rfl,q2 hx⟩⟩
 ·refine HT.Jr p1 p2 hv (fun z=>⟨.ref a,H,I,rfl,q1 (r2.nil_iff.mp z)⟩) (fun z=>?_) hz2;refine⟨.ref s.heap.objs.size,_,I.laid (t':=s.toks) (o:=.tup (xs++ys)) (fun b ob e=>TU _ e) (TB _) ?_,rfl,q _ (I.hok.fresh (TB _))⟩;exact⟨by rw[Tz];exact hz,_,r1.append r2,IsTup.new _ _⟩
def Kb:OpR X (binaryOp .Add) Lm:=BR
def Dk:OpR X (binaryOp .Add) (HF X.K):=op_add.or (op_catM.or (op_tupM.or Kb))
mutual
noncomputable def pyD:D->PyData
 |.non=>.none
 |.bl b=>.bool b
 |.int i=>.int i
 |.str x=>.str x
 |.lst l=>.list (pyDs l)
 |.tup l=>.tuple (pyDs l)
 |.mtp l=>.tuple (pyDs l)
 |_=>.none
noncomputable def pyDs:Xq->List PyData
 |[]=>[]
 |d::l=>pyD d::pyDs l
end
mutual
theorem t8:∀(n:Nat) (d:D),okD n d=true->(pyD d).canLay0=true/\(pyD d).depth<=n
 |_,.non,_=>by simp[pyD,PyData.canLay0,PyData.depth]
 |_,.bl _,_=>by simp[pyD,PyData.canLay0,PyData.depth]
 |_,.int _,_=>by simp[pyD,PyData.canLay0,PyData.depth]
 |n,.str x,h=>by
  have h':PyData.strOk x=true:=by cases n<;>simpa[okD] using h
  simp[pyD,PyData.canLay0,PyData.depth,h']
 |0,.lst l,h=>by simp[okD] at h
 |n+1,.lst l,h=>by
  obtain⟨a,b⟩:=rQ n l (by simpa[okD] using h);simp only[pyD,PyData.canLay0,PyData.depth];exact⟨a,()⟩
 |0,.tup l,h=>by simp[okD] at h
 |n+1,.tup l,h=>by
  obtain⟨a,b⟩:=rQ n l (by simpa[okD] using h);simp only[pyD,PyData.canLay0,PyData.depth];exact⟨a,()⟩
 |0,.mtp l,h=>by simp[okD] at h
 |n+1,.mtp l,h=>by
  obtain⟨a,b⟩:=rQ n l (by simpa[okD] using h);simp only[pyD,PyData.canLay0,PyData.depth];exact⟨a,()⟩
 |n,.ty _,h=>by cases n<;>simp[okD] at h
 |n,.scr _,h=>by cases n<;>simp[okD] at h
 |n,.ins _ _ _,h=>by cases n<;>simp[okD] at h
theorem rQ:∀(n:Nat) (l:Xq),okDs n l=true->PyData.canLayAll0 (pyDs l)=true/\PyData.depthAll (pyDs l)<=n
 |_,[],_=>by simp[pyDs,PyData.canLayAll0,PyData.depthAll]
 |n,d::l,h=>by rw[okDs,UM] at h;obtain⟨a,b⟩:=t8 n d h.1;obtain⟨c,e⟩:=rQ n l h.2;simp only[pyDs,PyData.canLayAll0,PyData.depthAll,a,c];exact⟨rfl,()⟩
end
mutual
theorem Bl:∀(n m:Nat) (d e:D),okD n d=true->okD m e=true->PyData.eqv (pyD d) (pyD e)=eqD d e
 |n,m,.non,e,_,he=>by cases e<;>first|(simp[pyD,PyData.eqv,eqD];done)|(cases m<;>simp[okD] at he)
 |n,m,.bl _,e,_,he=>by cases e<;>first|(simp[pyD,PyData.eqv,eqD];done)|(cases m<;>simp[okD] at he)
 |n,m,.int _,e,_,he=>by cases e<;>first|(simp[pyD,PyData.eqv,eqD];done)|(cases m<;>simp[okD] at he)
 |n,m,.str _,e,_,he=>by cases e<;>first|(simp[pyD,PyData.eqv,eqD];done)|(cases m<;>simp[okD] at he)
 |0,m,.lst _,e,hd,he=>by simp[okD] at hd
 |n+1,m,.lst l,e,hd,he=>by
  cases e with
  |lst l'=>
   cases m with
   |zero=>simp[okD] at he
   |succ m=>
    simp only[pyD,PyData.eqv,eqD];exact eqvs_is n m l l' (by simpa[okD] using hd) (by simpa[okD] using he)
  |_=>first|(simp[pyD,PyData.eqv,eqD];done)|(cases m<;>simp[okD] at he)
 |0,m,.tup _,e,hd,he=>by simp[okD] at hd
 |n+1,m,.tup l,e,hd,he=>by
  cases e with
  |tup l'=>
   cases m with
   |zero=>simp[okD] at he
   |succ m=>
    simp only[pyD,PyData.eqv,eqD];exact eqvs_is n m l l' (by simpa[okD] using hd) (by simpa[okD] using he)
  |mtp l'=>
   cases m with
   |zero=>simp[okD] at he
   |succ m=>
    simp only[pyD,PyData.eqv,eqD];exact eqvs_is n m l l' (by simpa[okD] using hd) (by simpa[okD] using he)
  |_=>first|(simp[pyD,PyData.eqv,eqD];done)|(cases m<;>simp[okD] at he)
 |0,m,.mtp _,e,hd,he=>by simp[okD] at hd
 |n+1,m,.mtp l,e,hd,he=>by
  cases e with
  |tup l'=>
   cases m with
   |zero=>simp[okD] at he
   |succ m=>
    simp only[pyD,PyData.eqv,eqD];exact eqvs_is n m l l' (by simpa[okD] using hd) (by simpa[okD] using he)
  |mtp l'=>
   cases m with
   |zero=>simp[okD] at he
   |succ m=>
    simp only[pyD,PyData.eqv,eqD];exact eqvs_is n m l l' (by simpa[okD] using hd) (by simpa[okD] using he)
  |_=>first|(simp[pyD,PyData.eqv,eqD];done)|(cases m<;>simp[okD] at he)
 |n,_,.ty _,_,h,_=>by cases n<;>simp[okD] at h
 |n,_,.scr _,_,h,_=>by cases n<;>simp[okD] at h
 |n,_,.ins _ _ _,_,h,_=>by cases n<;>simp[okD] at h
theorem eqvs_is:∀(n m:Nat) (l l':Xq),okDs n l=true->okDs m l'=true->PyData.eqvAll (pyDs l) (pyDs l')=eqDs l l'
 |_,_,[],[],_,_=>by simp[pyDs,PyData.eqvAll,eqDs]
 |_,_,[],_::_,_,_=>by simp[pyDs,PyData.eqvAll,eqDs]
 |_,_,_::_,[],_,_=>by simp[pyDs,PyData.eqvAll,eqDs]
 |n,m,d::l,e::l',hd,he=>by rw[okDs,UM] at hd he;rw[pyDs,pyDs,PyData.eqvAll,eqDs,Bl n m d e hd.1 he.1,eqvs_is n m l l' hd.2 he.2]
end
def xj {H:Hp}{s:Shared}{n:Nat}(ih:∀ {d:D} {x:V} {v:Value},okD n d=true->Den X.K H d x->RelV x v->∃as,Reads s.heap v (pyD d) as){ds:Xq}:∀ {xs:Xo} {vs:Xw},okDs n ds=true->Dens X.K H ds xs->Vals xs vs->∃as,ReadsAll s.heap vs (pyDs ds) as:=by
 induction ds with
 |nil=>
  intro xs vs _ d r;rw[d.nil_of] at r;cases r;exact⟨_,.nil⟩
 |cons d ds id=>
  intro xs vs h dd r;rw[okDs,UM] at h;obtain⟨y,ys,rfl,a,b⟩:=dd.cons_of;cases r with
  |cons r rr=>obtain⟨as,ra⟩:=ih h.1 a r;obtain⟨bs,rb⟩:=id h.2 b rr;exact⟨_,.cons ra rb⟩
def yV {pins:Xu}{σ:St}{H:Hp}{s:Shared}(I:Inv X pins σ H s)(n:Nat)(ih:∀m,n=m+1->∀ {d:D} {x:V} {v:Value},okD m d=true->Den X.K H d x->RelV x v->∃as,Reads s.heap v (pyD d) as){d:D}{x:V}{v:Value}(h:okD n d=true)(dx:Den X.K H d x)(r:RelV x v):∃as,Reads s.heap v (pyD d) as:=by
 cases d with
 |non=>rw[den_non.mp dx] at r;cases r;exact⟨_,.none⟩
 |bl b=>rw[den_bl.mp dx] at r;cases r;exact⟨_,.bool b⟩
 |int i=>rw[den_int.mp dx] at r;obtain⟨t,rfl⟩:=r;exact⟨_,.int i t⟩
 |str y=>rw[den_str.mp dx] at r;obtain⟨t,rfl⟩:=r;exact⟨_,.str y t⟩
 |lst l=>
  cases n with
  |zero=>simp[okD] at h
  |succ n=>
   obtain⟨p,xs,rfl,hp,ds⟩:=den_lst.mp dx;cases r;obtain⟨_,its,k,rv,_,e⟩:=I.rdl hp;obtain⟨as,ra⟩:=xj (ih n rfl) (by simpa[okD] using h) ds rv;exact⟨_,.list e rfl rfl (by simpa using ra)⟩
 |tup l=>
  cases n with
  |zero=>simp[okD] at h
  |succ n=>
   obtain⟨p,xs,rfl,hp,ds⟩:=fP dx;cases r;obtain⟨its,rv,⟨o,e,c,k,d⟩,_⟩:=I.tuple hp;obtain⟨as,ra⟩:=xj (ih n rfl) (by simpa[okD] using h) ds rv;exact⟨_,.tuple e c d (by simpa using ra)⟩
 |mtp l=>
  cases n with
  |zero=>simp[okD] at h
  |succ n=>
   obtain⟨p,xs,rfl,hp,ds⟩:=den_mtp.mp dx;cases r;obtain⟨its,rv,⟨o,e,c,k,d⟩,_⟩:=I.tuple hp;obtain⟨as,ra⟩:=xj (ih n rfl) (by simpa[okD] using h) ds rv;exact⟨_,.tuple e c d (by simpa using ra)⟩
 |_=>cases n<;>simp[okD] at h
def ln {pins:Xu}    (I:Inv X pins σ H s)(n:Nat):∀ {d:D} {x:V} {v:Value},okD n d=true->Den X.K H d x->RelV x v->∃as,Reads s.heap v (pyD d) as:=by
 induction n with
 |zero=>exact fun {d x v}=>yV I 0 (fun m e=>by cases e)
 |succ n ih=>exact fun {d x v}=>yV I (n+1) (fun m e=>by cases e;exact ih)
def Hi (hu:X.A.units+64<cLine):OpR X (compareOp .Eq) (Ku X.K false):=by intro pins s σ H x y v u Q I rx ry h;obtain⟨S,d,e,sm,dx,dy,cd,ce,q⟩:=h;obtain⟨as,ra⟩:=ln I 50 cd (sO sm dx) rx;obtain⟨bs,rb⟩:=ln I 50 ce (sO sm dy) ry;obtain⟨a1,a2⟩:=t8 50 d cd;obtain⟨b1,b2⟩:=t8 50 e ce;have hm:=Nat.min_le_left (pyD d).depth (pyD e).depth;refine SeqAt.compareEq_reads ra rb a1 b1 () ⟨.bl _,H,I,rfl,?_⟩;rw[Bl 50 50 d e cd ce];exact q
def MD (hu:X.A.units+64<cLine):OpR X (compareOp .NotEq) (Ku X.K true):=by intro pins s σ H x y v u Q I rx ry h;obtain⟨S,d,e,sm,dx,dy,cd,ce,q⟩:=h;obtain⟨as,ra⟩:=ln I 50 cd (sO sm dx) rx;obtain⟨bs,rb⟩:=ln I 50 ce (sO sm dy) ry;obtain⟨a1,a2⟩:=t8 50 d cd;obtain⟨b1,b2⟩:=t8 50 e ce;have hm:=Nat.min_le_left (pyD d).depth (pyD e).depth;refine SeqAt.compareNe_reads ra rb a1 b1 () ⟨.bl _,H,I,rfl,?_⟩;rw[Bl 50 50 d e cd ce];exact q
def D6:CallR X (.builtin "len") (HH X.K):=Gh
def D5:CallR X (.builtin "isinstance") (HG X.K):=by
 intro pins s σ H xs us Q I r h;obtain⟨x,T,t,rfl,ht,hm,q⟩:=h;obtain⟨u,w',rfl,ru,rw'⟩:=r.two;cases rw';have fin:∀tk:Nat,EP X pins σ Q (.bool (KR t T)) { s with toks:=tk }:=fun tk=>⟨.bl _,H,I.tok tk,rfl,q⟩
 cases x with
 |non=>cases ht;exact lz I ru .non (lA (by decide) hm) fin
 |bl b=>cases ht;exact lz I ru (.bl b) (lA (by decide) hm) fin
 |int i=>cases ht;exact lz I ru (.int i) (lA (by decide) hm) fin
 |str y=>cases ht;exact lz I ru (.str y) (lA (by decide) hm) fin
 |ref p=>
  cases ru;rcases ht with ⟨rfl,xs,h⟩|⟨rfl,xs,h⟩
  ·obtain⟨_,its,n,rv,_,e⟩:=I.rdl h;exact UL W.kitx_list I.kIn ⟨_,e,rfl⟩ (lA (by decide) hm) (fun z=>nomatch z) fin
  ·obtain⟨its,rv,⟨o,e,c,_⟩,_⟩:=I.tuple h;exact UL W.kitx_tuple I.kIn ⟨o,e,c⟩ (lA (by decide) hm) (fun z=>nomatch z) fin
 |_=>exact (show False from ht).elim
def Db:MtM X "list.extend" rExtM:=by
 intro pins s σ H x vs v us Q I rx rv h;obtain⟨l,b,xs,zs,rfl,rfl,hH,hB,hz,q⟩:=h;cases rx;obtain⟨u,rfl,ru⟩:=rv.one;cases ru;obtain⟨z,its,n,r,hl,e⟩:=I.lstM hH;obtain⟨z2,its2,n2,r2,hl2,e2⟩:=I.rdl hB;have hsz:its.toArray.size+its2.toArray.size<=sizeLine:=by rw[TZ,TZ];lia
 have hlong:¬(!its.toArray.isEmpty&&Builtin.List.listTooLong (its.toArray.size+its2.toArray.size))=true:=by rw[He hsz,Bool.and_false];exact U0
 refine call_meets F.slot_list_extend ⟨_,e,rfl⟩ F.entry_list_extend (F.args_list_extend_2 _ _)
  (AutoSeq1.list_extend_list_list_0 l its.toArray n b its2.toArray n2 hlong (by rw[TZ];lia) ()) ⟨e,e2,?_⟩
 refine⟨.non,_,I.lset (its':=its++its2) hH e (by simp) (r.append r2) ?_,rfl,q⟩;rw[Tz];lia
def QU:SlR X (Kv X.K):=by
 refine SlR.or KG ?_;intro pins s σ H x v vl vu lo hi sl Q I rx hs pl pu h;obtain⟨a,xs,rfl,hx,q1,q2⟩:=h;cases rx;by_cases hw:HT.sIx xs.length 0 lo=0/\HT.sIx xs.length xs.length hi=xs.length
 ·obtain⟨its,r,ht,hz⟩:=I.tuple hx;have hlen:its.toArray.size=xs.length:=by rw[TZ];exact r.length.symm
  have hcut:lK xs lo hi=xs:=by unfold lK;rw[hw.1,hw.2,List.drop_zero,Nat.sub_zero,Wl (TB _)]
  refine⟨"tuple",_,VV.lookup,ht.typeIs,?_⟩;exact HT.lN ht hs pl pu (by rw[hlen];exact hw) ⟨.ref a,H,I,rfl,q1 hcut⟩
 ·exact Nz pins s σ H (.ref a) (.ref a) vl vu lo hi sl Q I rfl hs pl pu ⟨a,xs,rfl,hx,hw,q2⟩
def A5:CallR X (.builtin "sorted") (HP X.K):=by
 intro pins s σ H xs us Q I r h;obtain⟨p,yks,rfl,hS,h64,hk,k⟩:=h;obtain⟨u,rfl,ru⟩:=r.one;cases ru;obtain⟨its,rv,pl,hz⟩:=I.list hS;have hl:yks.length=its.length:=by rw[<- rv.length,Tw]
 have atI:∀i,i<its.length->∃yk,yks[i]?=some yk/\yks.getD i (.non,[])=yk/\RelV yk.1 (its.getD i Value.none):=fun i hi=>by
  have ey:yks[i]?=some yks[i]:=Ua ();have ex:(yks.map (·.1))[i]?=some yks[i].1:=by rw[TX,ey];rfl
  obtain⟨v,ev,rl⟩:=rv.get ex;exact⟨_,ey,by rw[Vz,ey];rfl,by rw[Vz,ev];exact rl⟩
 have tup:∀i,i<its.length->Srt.Oc s.heap (its.getD i Value.none) (yks.getD i (.non,[])).2/\(yks.getD i (.non,[])).2≠[]:=fun i hi=>by obtain⟨yk,e1,e2,rl⟩:=atI i hi;obtain⟨q,e3,e4,e5⟩:=hk _ (Vi e1);rw[e2];refine⟨?_,e5⟩;rw[e3] at rl;have rl':its.getD i Value.none=Value.ref q:=rl;obtain⟨js,rj,⟨o,ho,hc,n,hd⟩,_⟩:=I.tuple e4;refine⟨q,o,js.toArray,n,rl',ho,hc,hd,?_⟩;simpa using jD rj
 refine Srt.wL (Srt.zt fun i=>(yks.getD i (.non,[])).2) pl.isList (by rw[Uj];lia) (Srt.tF tup) fun q hq ha=>?_;obtain⟨pv,pw⟩:=Srt.xO (vs:=its) (d:=Value.none) hq ha;rw[<- hl] at hq ha;obtain⟨py,wy⟩:=Srt.xO (vs:=yks) (d:=((V.non,[]):V×XD)) hq ha;obtain⟨e,at1⟩:=sortedAll_at s.heap its (Srt.fT its q);have hv:Vals ((q.toList.map fun i=>yks.getD i (.non,[])).map (·.1)) (q.toList.map fun i=>its.getD i Value.none):=by
  have hb:∀i∈q.toList,i<its.length:=fun i hi=>by
   have:i<yks.length:=by simpa using (VZ.mp hq).mem_iff.mp hi
   lia
  revert hb;generalize q.toList=L;induction L with
  |nil=>exact fun _=>.nil
  |cons i L ih=>intro hb;refine .cons ?_ (ih fun j hj=>hb j (TJ _ hj));obtain⟨yk,_,e2,rl⟩:=atI i (hb i TD);dsimp only;rw[e2];exact rl
 have fresh:s.heap.objs.size<=s.heap.objs.size+1:=We _;refine⟨.ref (s.heap.objs.size+1),upd H (s.heap.objs.size+1) (.lst ((q.toList.map fun i=>yks.getD i (.non,[])).map (·.1))),I.laid (t':=s.toks) (fun b o hb=>sortedAll_old hb) fresh ?_,rfl,?_⟩
 ·refine⟨by rw[Tw,py.length_eq,Uj];lia,_,e,hv,at1⟩
 ·refine k _ _ py (wy _ fun i j _ _ h=>?_) (I.hok.fresh fresh);rw[<- tL];exact h
def eT:CallR X (.builtin "sorted") (Af X.K):=call_sortedI.or A5
end
end L2
namespace M
noncomputable def Ol (a:XD)(k:Int):XD:=if a.any (· == k) then a else a++[k]
noncomputable def QA (ns:XD):XD:=ns.foldl Ol []
end M
namespace L2
open PySem
def Gg:bootBuiltins "set" = some (.type "set"):=by decide +kernel
theorem tw:∀ {ns:XD} {its:Xw},Vals (ns.map V.int) its->PyProof.Rows.IntsAre its ns
 |[],_,h=>by cases h;exact .nil
 |n::ns,_,h=>by
  cases h with
  |cons r t=>obtain⟨tk,rfl⟩:=r;exact .cons n tk (tw t)
section
variable {X:Cx}
end
end L2
namespace M
open PySem L2
section
variable {K:Xy}
noncomputable def tG (K:Xy)(d:D):TE:=fun _ H Q=>∀v,(∀S,Den K S d v)->Q v H
def s_g:SE K (tG K d) (xC d):=fun ρ σ S H Q e r x k v hv=>by cases x;exact k v S H (Ext.refl r.sub) (hv S)
end
end M
namespace L2
open PySem M
def Hm    {u:Value}{pos:Pos}   (hg:Gl X x)(hm:X.mg x=some u)(r:RelV v u)(hD:∀S,Den K S d v)(hd:(x==("__debug__" : Str))=false:=by decide):PE X (.Name x pos) (tG K d):=
 fun a b c H Q I h=>Ds hg hm r hd a b c H Q I (h v hD)
end L2
namespace M
open PySem L2
@[simp] noncomputable def Qo (a:XE):XE:=fun ρ=>(a ρ).bind fun d=>match d with|.lst l=>(aQ l).bind fun ns=>if ns.length<4000 then some (.int ((QA ns).length:Nat)) else none|_=>none
end M
namespace L2
open PySem
def uY (K:Xy)(Ns:XB)(P:Addr->Prop):Prop:=∀N∈Ns,∀C,W.nsIn K mainGlobals N=some (some (.ref C))->P C
def N7 (K:Xy)(Ns:XB)(H:Hp)(x:V)(a:Addr)(C dx:Addr)(fs:List (Str×V)):Prop:=x = .ref a/\(∃N∈Ns,W.nsIn K mainGlobals N=some (some (.ref C)))/\H a=some (.ins C dx fs)
noncomputable def IB (K:Xy)(Ns:XB)(ta:TE)(f:Str):TE:=fun σ H Q=>ta σ H fun x H1=>∃a C dx fs v,N7 K Ns H1 x a C dx fs/\fs.lookup f=some v/\Q v H1
noncomputable def yi (K:Xy)(Ns:XB)(m:Str)(sp:Sp)(ta:TE)(t:TA):TE:=fun σ H Q=>ta σ H fun x H1=>∃a C dx fs,N7 K Ns H1 x a C dx fs/\fs.lookup m=none/\t σ H1 fun vs H2=>sp (x::vs) H2 Q E0
noncomputable def yh (K:Xy)(N:Str)(sp:Sp)(t:TA):TE:=fun σ H Q=>∀C,W.nsIn K mainGlobals N=some (some (.ref C))->Lu C sp [] E0 t σ H Q
section
variable {X:Cx}{o e:Expr}{es:List Expr}{f m:Str}{pos apos p:Pos}{ta:TE}{t:TA}{Ns:XB}{k:Nat}{g C:Addr}{fd:FuncData}{ps:XB}{sp:Sp}
def Kg (hc:uY X.K Ns fun C=>Cls X.K C/\NoAttr X.K C f)(he:PE X e ta)(hb:attributeBase e f X.env (eval e X.env)=eval e X.env):PE X (.Attribute e f pos) (IB X.K Ns ta f):=by intro pins s σ H Q I h;refine Jl hb (thn (he pins s σ H _ I h) fun u s1 hpt9=>?_);obtain⟨x,H1,I1,rx,a,C,dx,fs,v,⟨ex,⟨N,hN,hC⟩,ea⟩,l,q⟩:=hpt9;subst ex;have eu:u=Value.ref a:=rx;subst eu;obtain⟨c,n⟩:=hc N hN C hC;exact Bw I1 ea c n l fun u' s2 I2 ru=>⟨v,H1,I2,ru,q⟩
def Ho  (hc:uY X.K Ns fun C=>Cls X.K C/\Meth X.K C m g)(F:FnOk X.prog X.w X.K X.mg X.base CX0 k g fd ps sp)(hr:Room k X.A)(hb:Binds X.K fd ps [])(hx:kh CX0 X E0)(he:PE X o ta)(ha:PA X (e::es) t)
  (hst:starEach (e::es) X.env=(false,eval e X.env)::starEach es X.env:=by rfl) (hpl:(backTo pos (starEach es X.env)).any (·.1)=false:=by rfl)
  (ht:eval (.Call (.Attribute o m apos) (e::es) [] pos) X.env=(do
   let ov ← eval o X.env
   standAt apos.atName
   let (f,first) ← holding [ov] (getMethod ov m pl)
   callWith pos f first (backTo pos (starEach (e::es) X.env)) (backToKw pos (keywordEach [] X.env))):=by rfl) :
  PE X (.Call (.Attribute o m apos) (e::es) [] pos) (yi X.K Ns m sp ta t):=by
 intro pins s σ H Q I h;refine W.methodCall_KW (pl:=pl) (thn (he pins s σ H _ I h) fun u s1 hpt9=>?_) ht;obtain⟨x,H1,I1,rx,a,C,dx,fs,⟨ex,⟨N,hN,hC⟩,ea⟩,l,q⟩:=hpt9;subst ex;have eu:u=Value.ref a:=rx;subst eu;obtain⟨c,hm⟩:=hc N hN C hC;refine Bx I1 ea c hm l ?_;refine W.callWith_K (first:=[.ref a]) (h₀:=X.base) I.ok.mod.kin hm.kp (thn (ha pos pins s1 σ H1 _ I1 q) fun us s2 ⟨vs,H2,I2,r,q2⟩=>⟨I2.kIn,?_⟩) hst hpl;exact B5 (us:=.ref a::us) (vs:=.ref a::vs) (dvs:=[]) F hr hb .nil hx I2 (.cons rfl r) (by rw[Um];exact q2)
structure ClsFn (K:Xy) (C:Addr) (m:Str) (f:Addr):Prop where
 sp:W.specialIn K (.ref C) "__getattribute__" = some (some (.builtin "type.__getattribute__"))
 rd:W.readsIn K C (.type "type")=true
 fn:W.findCls K (.ref C) (.type "type") m=some (.val (.ref f))
 kp:W.keepIn K (.ref f)=true
def BU   (cf:ClsFn X.K C m g)(gB:Gl X B)(hm:X.mg B=some (.ref C))(F:FnOk X.prog X.w X.K X.mg X.base CX0 k g fd ps sp)(hr:Room k X.A)(hb:Binds X.K fd ps [])(hx:kh CX0 X E0)(ha:PA X (e::es) t)(hdb:(B==("__debug__" : Str))=false:=by decide)
  (hst:starEach (e::es) X.env=(false,eval e X.env)::starEach es X.env:=by rfl) (hpl:(backTo pos (starEach es X.env)).any (·.1)=false:=by rfl)
  (ht:eval (.Call (.Attribute (.Name B p) m apos) (e::es) [] pos) X.env=(do
   let ov ← eval (.Name B p) X.env
   standAt apos.atName
   let (f,first) ← holding [ov] (getMethod ov m pl)
   callWith pos f first (backTo pos (starEach (e::es) X.env)) (backToKw pos (keywordEach [] X.env))):=by rfl) :
  PE X (.Call (.Attribute (.Name B p) m apos) (e::es) [] pos) (qP sp [] E0 t):=by
 intro pins s σ H Q I h;refine W.methodCall_KW (pl:=pl) (thn (Ds (v:=.ref C) gB hm rfl hdb pins s σ H (fun x H1=>x = .ref C/\H1=H) I ⟨rfl,rfl⟩) fun u s1 hpt9=>?_) ht;obtain⟨x,H1,I1,rx,ex,eH⟩:=hpt9;subst ex;subst eH;have eu:u=Value.ref C:=rx;subst eu;refine W.method_cls I1.kIn cf.sp (W.cls_value I1.kIn cf.rd cf.fn rfl ?_);refine W.callWith_K (first:=[]) (h₀:=X.base) I.ok.mod.kin cf.kp (thn (ha pos pins _ σ H1 _ (I1.tok _) h) fun us s2 ⟨vs,H2,I2,r,q2⟩=>⟨I2.kIn,?_⟩) hst hpl;exact B5 F hr hb .nil hx I2 r q2
def Hn  (hN:W.nsIn X.K mainGlobals N=some (some (.ref C)))(M:Mk X.K C g)(F:FnOk X.prog X.w X.K X.mg X.base CX0 k g fd ps sp)(hr:Room (k+1) X.A)(hg:Gl X N)(hm:X.mg N=some (.ref C))(hb:Binds X.K fd ps [])(hx:kh CX0 X E0)
  (ha:PA X (e::es) t) (hdb:(N==("__debug__" : Str))=false:=by decide) (he:starEach (e::es) X.env=(false,eval e X.env)::starEach es X.env:=by rfl) (hpl:(backTo pos (starEach es X.env)).any (·.1)=false:=by rfl) :
  PE X (.Call (.Name N p) (e::es) [] pos) (yh X.K N sp t):=fun a b c d q I h=>Kh M F hr hg hm hb .nil hx ha hdb he hpl a b c d q I (h C hN)
end
end L2
namespace M
open PySem L2
section
variable {K:Xy}{S S' H H':Hp}
noncomputable def zf:XB->Xq->Str->Xr
 |n::ns,d::l,f=>if f=n then some d else zf ns l f
 |_,_,_=>none
theorem GA:∀ {fs:List (Str×V)} {l:Xq} {f:Str} {d:D},Dens K S l (fs.map (·.2))->zf (fs.map (·.1)) l f=some d->∃v,fs.lookup f=some v/\Den K S d v
 |[],l,f,d,h,e=>by
  cases l<;>simp[zf] at e
 | (n,v)::fs,l,f,d,h,e=>by
  cases l with
  |nil=>simp[zf] at e
  |cons a l=>
   obtain⟨y,ys,e1,h1,h2⟩:=h.cons_of;rw[TQ] at e1;cases e1;rw[TQ,zf] at e;by_cases hf:f=n
   ·rw[Ts hf] at e;cases e;exact⟨v,by simp[List.lookup,hf],h1⟩
   ·rw[Tr hf] at e;obtain⟨w,q1,q2⟩:=GA h2 e;have hb:(f==n)=false:=by simpa using hf
    exact⟨w,by simp[List.lookup,hb,q1],q2⟩
theorem Gz:∀ {fs:List (Str×V)} {f:Str},(fs.map (·.1)).contains f=false->fs.lookup f=none
 |[],_,_=>rfl
 | (n,v)::fs,f,h=>by
  simp at h;have hb:(f==n)=false:=by simpa using h.1
  rw[List.lookup,hb];exact Gz (by simpa using h.2)
@[simp] noncomputable def rG (Ns:XB)(f:Str)(e:XE):XE:=fun ρ=>(e ρ).bind fun d=>match d with|.ins N ns l=>if Ns.contains N then zf ns l f else none|_=>none
def Pv {Ns:XB}  {ta:TE}  (h:SE K ta e):SE K (IB K Ns ta f) (rG Ns f e):=fun ρ σ S H Q d r x k=>by
 unfold rG at x;cases q:e ρ with
 |none=>rw[q] at x;cases x
 |some d0=>
  rw[q] at x;dsimp only[Option.bind] at x;cases d0<;>try (cases x;done)
  rename_i N ns l;dsimp only at x;split at x
  ·rename_i hc;refine h ρ σ S H _ _ r q fun v S1 H1 z1 d1=>?_;obtain⟨p,C,dx,fs,rfl,hC,h1,h2,h3⟩:=den_ins.mp d1;subst h2;obtain⟨w,w1,w2⟩:=GA h3 x;exact⟨p,C,dx,fs,w,⟨rfl,⟨N,by simpa using hc,hC⟩,z1.sub _ _ h1⟩,w1,k w S1 H1 z1 w2⟩
  ·cases x
@[simp] noncomputable def qQ (Ns:XB)(m:Str)(g:Xp)(e:XE)(a:XA):XE:=fun ρ=>(e ρ).bind fun d=>match d with|.ins N ns l=>if Ns.contains N && !ns.contains m then (a ρ).bind fun ds=>g (.ins N ns l::ds) else none|_=>none
def Nk {Ns:XB}  {n:Nat}  {ta:TE}    (h:SE K ta e)(ha:SA K t a)(hn:∀ρ ds,a ρ=some ds->ds.length=n):SE K (yi K Ns m (bS K (n+1) g) ta t) (qQ Ns m (fun ds=>(g ds).map O.d) e a):=fun ρ σ S H Q d r x k=>by
 unfold qQ at x;cases q:e ρ with
 |none=>rw[q] at x;cases x
 |some d0=>
  rw[q] at x;dsimp only[Option.bind] at x;cases d0<;>try (cases x;done)
  rename_i N ns l;dsimp only at x;split at x
  ·rename_i hc;rw[UM] at hc;cases qa:a ρ with
   |none=>rw[qa] at x;cases x
   |some ds=>
    rw[qa] at x;dsimp only at x;cases qg:g (.ins N ns l::ds) with
    |none=>rw[qg] at x;cases x
    |some o=>rw[qg] at x;cases x;refine h ρ σ S H _ _ r q fun v S1 H1 z1 d1=>?_;obtain⟨p,C,dx,fs,rfl,hC,h1,h2,h3⟩:=den_ins.mp d1;refine⟨p,C,dx,fs,⟨rfl,⟨N,by simpa using hc.1,hC⟩,z1.sub _ _ h1⟩,Gz (by rw[h2];simpa using hc.2),?_⟩;refine ha ρ σ S1 H1 _ ds (r.ext z1) qa fun vs S2 H2 z2 d2=>?_;have dd:Dens K S2 (.ins N ns l::ds) (.ref p::vs):=.cons (d1.mono z2.sh) d2;refine⟨by rw[TF,<- d2.length,hn ρ ds qa],S2,_,o,z2.sub,dd,qg,fun v fp S3 H3 z3 ow nd fr=>?_⟩;exact k v _ H3 ((z1.trans z2).trans (zj z3 fr)) (ow.den (lv fun b hb=>(fr b hb).2) fun b hb=>jC hb)
  ·cases x
noncomputable def uE (K:Xy)(Ns:XB)(f:Str)(n:Nat)(mi:Xp):Sp:=fun vs H Q _=>vs.length=n+1/\∃x rest C dx S ds d,vs = .ref x::rest/\H x=some (.ins C dx [])/\(∃N∈Ns,W.nsIn K mainGlobals N=some (some (.ref C)))/\S x=none/\Same S H/\Dens K S ds rest/\mi ds=some d /\
 ∀S' H' v,Ext S H S' H'->Den K S' d v->Q .non (upd H' x (.ins C dx [(f,v)]))
noncomputable def JO:Xp
 |[d]=>some d
 |_=>none
def GM {Ns:XB}{f:Str}     (hc:uY K Ns fun C=>Cls K C/\NoAttr K C f)  (h:uE K Ns f 1 JO vs H Q E):Pq K (jm 0) (jm 1) f { nx:=fun _ H'=>Q .non H',rt:=Q } (L2.fU N vs) H:=by
 obtain⟨_,x,rest,C,dx,S,ds,d,rfl,hx,⟨M,hM,hC⟩,nS,sub,dd,e,k⟩:=h
 match ds,e with
 |[d'],e=>cases e;obtain⟨v,ys,rfl,dv,dn⟩:=dd.cons_of;cases dn.nil_of;obtain⟨c,n⟩:=hc M hM C hC;exact⟨v,rfl,.ref x,rfl,x,C,dx,[],rfl,hx,c,n,by decide,k S H v (Ext.refl sub) dv⟩
def Dz {x:Addr}{ds:Xq}  (s:Same S H)(h:Dens K S ds vs):Rl K (.lo::ds.map .sh) (some (.ref x)::vs.map some) S H:=by
 have hl:=h.length;refine⟨fun _=>none,fun i=>if i=0 then some x else none,fun _=>[],?_⟩;have ge:∀(i:Nat) t,(Sl.lo::ds.map Sl.sh)[i]?=some t->(i=0/\t = .lo)\/∃d v,t = .sh d/\(some (V.ref x)::vs.map some)[i]?=some (some v)/\Den K S d v:=fun i t ht=>by
  cases i with
  |zero=>cases ht;exact .inl ⟨rfl,rfl⟩
  |succ i=>
   rw[Wn,TX] at ht;cases q:ds[i]? with
   |none=>rw[q] at ht;cases ht
   |some d=>rw[q] at ht;cases ht;obtain⟨v,e1,e2⟩:=h.get q;refine .inr ⟨d,v,rfl,?_,e2⟩;rw[Wn,TX,e1];rfl
 exact {
  len:=by rw[TF,TF,Tw,Tw,hl]
  sub:=s
  sh:=fun i d hi=>by
   rcases ge i _ hi with ⟨_,e⟩|⟨d',v,e,h1,h2⟩
   ·cases e
   ·cases e;exact⟨v,h1,h2⟩
  ow:=fun i o hi=>by
   rcases ge i _ hi with ⟨_,e⟩|⟨d',v,e,h1,h2⟩
   ·cases e
   ·cases e
  dj:=fun i j o o' _ hi _=>by
   rcases ge i _ hi with ⟨_,e⟩|⟨d',v,e,h1,h2⟩
   ·cases e
   ·cases e
  lo:=fun i hi=>by
   rcases ge i _ hi with ⟨rfl,e⟩|⟨d',v,e,h1,h2⟩
   ·exact⟨x,rfl,rfl⟩
   ·cases e
  asub:=fun b o e=>by cases e
  adis:=fun b=>.inr (.inl rfl) }
noncomputable def JP (xt:XT)(xe:XE)(ds:Xq):Xr:=if xt (.lo::ds.map .sh)=some false then xe (.lo::ds.map .sh) else none
def GN {Ns:XB}{f:Str}{te:TE}{xe:XE}{x:Addr}{rest:Xo}{C dx:Addr}{ds:Xq}{d:D}{S H:Hp}{Dd:_}{Q:VK}(he:SE K te xe)(sub:Same S H)(dd:Dens K S ds rest)(hx:H x=some (.ins C dx []))(hc:∃N∈Ns,W.nsIn K mainGlobals N=some (some (.ref C)))(nS:S x=none)
  (e:xe (.lo::ds.map .sh)=some d) (hD:Dd=({ nx:=fun _ H'=>Q .non H',rt:=Q }:_)) (k:∀S' H' v,Ext S H S' H'->Den K S' d v->Q .non (upd H' x (.ins C dx [(f,v)]))) :
  uN (qP (uE K Ns f 1 JO) [] E0 (ie (jm 0) (ie te p8))) Dd (some (.ref x)::rest.map some) H:=by
 subst hD;refine⟨.ref x,rfl,he _ _ S H _ d (Dz sub dd) e fun v S1 H1 z1 d1=>?_⟩;refine⟨rfl,x,[v],C,dx,S1,[d],d,rfl,(z1.al x _ hx nS).1,hc,(z1.al x _ hx nS).2,z1.sub,.cons d1 .nil,rfl,fun S2 H2 w z2 d2=>k S2 H2 w (z1.trans z2) d2⟩
def GO {Ns:XB}  {n:Nat}{tt:TT}  {te:TE}  {N:XB}     (ht:ST K tt xt)(he:SE K te xe)(hN:N.length=n+1)(h:uE K Ns f n (JP xt xe) vs H Q E) :
  KZ (KW tt uP DI) (uN (qP (uE K Ns f 1 JO) [] E0 (ie (jm 0) (ie te p8)))) { nx:=fun _ H'=>Q .non H',rt:=Q } (L2.fU N vs) H:=by
 obtain⟨hl,x,rest,C,dx,S,ds,d,rfl,hx,hc,nS,sub,dd,e,k⟩:=h;have es:L2.fU N (.ref x::rest)=some (.ref x)::rest.map some:=by unfold L2.fU;rw[hl,hN,Nat.sub_self];simp
 unfold JP at e;split at e
 ·rename_i q;rw[es];refine ht _ _ S H _ false (Dz sub dd) q fun S1 H1 z1=>?_;rw[Tr U0];exact GN he z1.sub (dd.mono z1.sh) (z1.al x _ hx nS).1 hc (z1.al x _ hx nS).2 e rfl fun S2 H2 w z2 d2=>k S2 H2 w (z1.trans z2) d2
 ·cases e
@[simp] noncomputable def AO (N f:Str)(mi:Xp)(a:XA):XE:=fun ρ=>((a ρ).bind mi).map fun d=>.ins N [f] [d]
def Nj {Ns:XB}{N:Str}{n:Nat}    (hN:N∈Ns)(h:SA K t a)(hn:∀ρ ds,a ρ=some ds->ds.length=n):SE K (yh K N (uE K Ns f n mi) t) (AO N f mi a):=fun ρ σ S H Q d r x k C hC=>by
 unfold AO at x;cases q:a ρ with
 |none=>rw[q] at x;cases x
 |some ds=>
  rw[q] at x;dsimp only[Option.bind] at x;cases q2:mi ds with
  |none=>rw[q2] at x;cases x
  |some d0=>
   rw[q2] at x;cases x;refine h ρ σ S H _ ds r q fun vs S1 H1 z1 d1=>?_;intro x dx nx ndx nex;have s0:Same S1 (upd (upd H1 dx (.own x)) x (.ins C dx [])):=fun b o e=>by have e':=z1.sub b o e;rw[av (aP e' nx),av (aP e' ndx)];exact e'
   have nS:S1 x=none:=z1.sub.free nx;refine⟨by rw[Um,TF,<- d1.length,hn ρ ds q],x,vs,C,dx,S1,ds,d0,by rw[Um],ar,⟨N,hN,hC⟩,nS,s0,d1,q2,fun S2 H2 v z2 d2=>⟨rfl,?_⟩⟩;have hx2:=z2.al x _ ar nS
   have z3:Ext S1 H1 (upd S2 x (.ins C dx [(f,v)])) (upd H2 x (.ins C dx [(f,v)])):={
    sh:=fun b o e=>by rw[av (aP (z1.sub b o e) nx)];exact z2.sh b o e
    sub:=fun b o e=>by
     by_cases hb:b=x
     ·subst hb;rw[ar] at e ⊢;exact e
     ·rw[av hb] at e ⊢;exact z2.sub b o e
    alw:=fun b o e ne=>by
     have hb:=aP e nx;rw[av hb,av hb]
     exact z2.alw b o (by rw[av hb,av (aP e ndx)];exact e) ne }
   refine k (.ref x) _ _ (z1.trans z3) (den_ins.mpr ⟨x,C,dx,[(f,v)],rfl,hC,ar,rfl,?_⟩);refine .cons (d2.mono fun b o e=>?_) .nil;rw[av (aP e hx2.2)];exact e
end
end M
namespace M
noncomputable def mW:XD->Int
 |[]=>0
 |[a]=>a
 |a::l=>min a (mW l)
noncomputable def kH:XD->Int
 |[]=>0
 |[a]=>a
 |a::l=>max a (kH l)
def ww (a b:Int)(l:XD):mW (a::b::l)=min a (mW (b::l)):=rfl
def EJ (a b:Int)(l:XD):kH (a::b::l)=max a (kH (b::l)):=rfl
theorem wx:∀(a:Int) (l:XD),mW (a::l)∈a::l/\∀b∈a::l,mW (a::l)<=b
 |a,[]=>⟨TD,fun b hb=>by rw[Tv] at hb;subst hb;exact T1 _⟩
 |a,c::l=>by
  obtain⟨h1,h2⟩:=wx c l;rw[ww];refine⟨?_,fun b hb=>?_⟩
  ·rcases Int.le_total a (mW (c::l)) with h|h
   ·rw[Int.min_eq_left h];exact TD
   ·rw[Int.min_eq_right h];exact TJ _ h1
  ·rcases TN.mp hb with rfl|hb
   ·exact Int.min_le_left _ _
   ·exact Int.le_trans (Int.min_le_right _ _) (h2 b hb)
theorem wv:∀(a:Int) (l:XD),kH (a::l)∈a::l/\∀b∈a::l,b<=kH (a::l)
 |a,[]=>⟨TD,fun b hb=>by rw[Tv] at hb;subst hb;exact T1 _⟩
 |a,c::l=>by
  obtain⟨h1,h2⟩:=wv c l;rw[EJ];refine⟨?_,fun b hb=>?_⟩
  ·rcases Int.le_total a (kH (c::l)) with h|h
   ·rw[Int.max_eq_right h];exact TJ _ h1
   ·rw[Int.max_eq_left h];exact TD
  ·rcases TN.mp hb with rfl|hb
   ·exact Int.le_max_left _ _
   ·exact Int.le_trans (h2 b hb) (Int.le_max_right _ _)
def ER {ns:XD}{m:Int}(h1:m∈ns)(h2:∀a,a∈ns->m<=a):mW ns=m:=by
 cases ns with
 |nil=>cases h1
 |cons a l=>obtain⟨k1,k2⟩:=wx a l;exact Int.le_antisymm (k2 m h1) (h2 _ k1)
def EK {ns:XD}{m:Int}(h1:m∈ns)(h2:∀a,a∈ns->a<=m):kH ns=m:=by
 cases ns with
 |nil=>cases h1
 |cons a l=>obtain⟨k1,k2⟩:=wv a l;exact Int.le_antisymm (h2 _ k1) (k2 m h1)
end M
namespace L2
open PySem PySem.Spec PyProof.Rows
section
variable {prog:Program}{w:World}{A:Around}{E:Xs}{s:Shared}
def zD  {vs:Xw}  {Q:Xs}(hh:A.handled=none)(hl:s.heap.IsList l vs.toArray)(hi:IntsAre vs ns)(hne:0<ns.length)
  (h:∀(h':Heap) (t:Tok) (tk:Nat),(∀b o,s.heap.get? b=some o->h'.get? b=some o)->Q (.int (M.mW ns) t) { s with heap:=h',toks:=tk }):wpAny (model prog w) A (call (.builtin "min") [.ref l]) Q E s:=by
 obtain⟨xs,e⟩:=hi.allInts.items;have hns:ns=xs.toList.map (·.1):=by rw[<- hi.numsOf,<- nums_intItems,<- e]
 have hsz:0<xs.size:=by have h3:=hne;rw[hns,Tw,T6] at h3;exact h3
 rw[e] at hl;refine min_intList hh hl hsz fun v h' tk hv hk=>?_;obtain⟨t,rfl⟩:=intItems_at hv;obtain⟨h1,h2⟩:=argBest_lt (numAt xs) (xs.size-1);have em:M.mW ns=numAt xs (argBest (fun i j=>decide (numAt xs i<numAt xs j)) (xs.size-1)):=by
  refine M.ER ?_ fun a ha=>?_
  ·rw[hns,numAt_eq];exact getD_mem (by rw[Tw,T6];lia)
  ·rw[hns] at ha;obtain⟨j,hj,rfl⟩:=mem_getD ha;rw[Tw,T6] at hj;rw[<- numAt_eq];exact h2 j ()
 rw[<- em];exact h h' t tk hk
def zB  {vs:Xw}  {Q:Xs}(hh:A.handled=none)(hl:s.heap.IsList l vs.toArray)(hi:IntsAre vs ns)(hne:0<ns.length)
  (h:∀(h':Heap) (t:Tok) (tk:Nat),(∀b o,s.heap.get? b=some o->h'.get? b=some o)->Q (.int (M.kH ns) t) { s with heap:=h',toks:=tk }):wpAny (model prog w) A (call (.builtin "max") [.ref l]) Q E s:=by
 obtain⟨xs,e⟩:=hi.allInts.items;have hns:ns=xs.toList.map (·.1):=by rw[<- hi.numsOf,<- nums_intItems,<- e]
 have hsz:0<xs.size:=by have h3:=hne;rw[hns,Tw,T6] at h3;exact h3
 rw[e] at hl;refine max_intList hh hl hsz fun v h' tk hv hk=>?_;obtain⟨t,rfl⟩:=intItems_at hv;obtain⟨h1,h2⟩:=argBest_gt (numAt xs) (xs.size-1);have em:M.kH ns=numAt xs (argBest (fun i j=>decide (numAt xs i > numAt xs j)) (xs.size-1)):=by
  refine M.EK ?_ fun a ha=>?_
  ·rw[hns,numAt_eq];exact getD_mem (by rw[Tw,T6];lia)
  ·rw[hns] at ha;obtain⟨j,hj,rfl⟩:=mem_getD ha;rw[Tw,T6] at hj;rw[<- numAt_eq];exact h2 j ()
 rw[<- em];exact h h' t tk hk
end
noncomputable def HL (K:Xy):Xo->Hp->VK->Prop:=fun xs H Q=>∃p,∃ns:XD,xs=[.ref p]/\SqL K H p (ns.map V.int)/\0<ns.length/\Q (.int (M.mW ns)) H
noncomputable def HK (K:Xy):Xo->Hp->VK->Prop:=fun xs H Q=>∃p,∃ns:XD,xs=[.ref p]/\SqL K H p (ns.map V.int)/\0<ns.length/\Q (.int (M.kH ns)) H
section
variable {X:Cx}
def A4 (hc:X.calm=true):CallR X (.builtin "min") (HL X.K):=by intro pins s σ H xs us Q I r h;obtain⟨p,ns,rfl,hS,hne,q⟩:=h;obtain⟨u,rfl,ru⟩:=r.one;cases ru;obtain⟨its,rv,pl,hz⟩:=I.list hS;exact zD (I.ok.hd hc) pl.isList (jD rv) hne fun h' t tk k=>⟨.int (M.mW ns),H,I.kept k,⟨t,rfl⟩,q⟩
def A3 (hc:X.calm=true):CallR X (.builtin "max") (HK X.K):=by intro pins s σ H xs us Q I r h;obtain⟨p,ns,rfl,hS,hne,q⟩:=h;obtain⟨u,rfl,ru⟩:=r.one;cases ru;obtain⟨its,rv,pl,hz⟩:=I.list hS;exact zB (I.ok.hd hc) pl.isList (jD rv) hne fun h' t tk k=>⟨.int (M.kH ns),H,I.kept k,⟨t,rfl⟩,q⟩
end
end L2
namespace M
open PySem L2
noncomputable def yK:Xp
 |[.lst l]=>(aQ l).bind fun ns=>if 0<ns.length then some (.int (mW ns)) else none
 |_=>none
noncomputable def yJ:Xp
 |[.lst l]=>(aQ l).bind fun ns=>if 0<ns.length then some (.int (kH ns)) else none
 |_=>none
section
variable {K:Xy}
def LW:SRB K (HL K) yK:=fun S H vs ds g Q s d q k=>by
 unfold yK at q;split at q
 ·rename_i l;cases qi:aQ l with
  |none=>rw[qi] at q;cases q
  |some ns=>
   rw[qi] at q;dsimp only[Option.bind] at q;split at q
   ·rename_i hne;cases q;obtain⟨v,rfl,d1⟩:=ga d;obtain⟨p,xs,rfl,h1,h2⟩:=d1.lst s;obtain⟨e,_⟩:=gC h2 qi;subst e;exact⟨p,ns,rfl,.inl h1,hne,k _ S H (Ext.refl s) (den_int.mpr rfl)⟩
   ·cases q
 ·cases q
def LU:SRB K (HK K) yJ:=fun S H vs ds g Q s d q k=>by
 unfold yJ at q;split at q
 ·rename_i l;cases qi:aQ l with
  |none=>rw[qi] at q;cases q
  |some ns=>
   rw[qi] at q;dsimp only[Option.bind] at q;split at q
   ·rename_i hne;cases q;obtain⟨v,rfl,d1⟩:=ga d;obtain⟨p,xs,rfl,h1,h2⟩:=d1.lst s;obtain⟨e,_⟩:=gC h2 qi;subst e;exact⟨p,ns,rfl,.inl h1,hne,k _ S H (Ext.refl s) (den_int.mpr rfl)⟩
   ·cases q
 ·cases q
end
end M
namespace L2
open PySem
def dq {XN:XB}{sc scope:Scope}{N:XB}{js:List (Option Nat)}(h1:scope.kind = .function:=by rfl)(h2:∀y∈scope.names,y.2 ≠ .cell:=by decide +kernel)(h3:∀y∈scope.names,y.2 = .free->sc.names.lookup y.1=some .cell\/sc.names.lookup y.1=some .free:=by decide +kernel)
  (h4:∀y∈scope.names,y.2 = .local->scope.names.lookup y.1=some .local:=by decide +kernel) (h5:js.length=N.length:=by rfl) (h6:((N.zip js).all fun p=>match p.2 with|none=>true|some j=>decide (XN[j]?=some p.1)&&decide (scope.names.lookup p.1=some .free))=true:=by decide +kernel):CmpOk XN sc scope N js:=⟨h1,h2,h3,h4,h5,h6⟩
end L2
namespace M
open PySem L2
@[simp] noncomputable def Rt (m:Xp)(e:D)(a:XA):XE:=fun ρ=>(a ρ).bind fun ds=>m (ds++[e])
section
variable {K:Xy}
end
end M
namespace L2
open PySem
section
variable {P:Program}{w:World}{K:Xy}{mg:Xv}{base:Heap}
end
end L2
namespace L2
open PySem PySem.Spec PyProof.Rows
section
variable {X:Cx}{pins:Xu}{σ:St}{H:Hp}{s:Shared}{XN N:XB}{sc scope:Scope}{js:List (Option Nat)}
variable {tg iter elt:Expr}{ifs:List Expr}{pos:Pos}{wi:TI}{g:TG}{tt:TIf}{te:TE}
end
end L2
namespace RevT
open PySem PySem.Calls PyProof.Rows
def slot_next:Slot "reversed" "__next__" "reversed.__next__" := .of (owner := "reversed") (n := "__next__") (by rw[U9,Va];kernel_rfl) (by decide +kernel) (by decide +kernel) (by decide +kernel) (by first|exact .inl (by decide +kernel)|exact .inr (by decide +kernel)) (by rw[Vb];kernel_rfl)
def gU:entryFor table "reversed.__next__" = some Builtin.«reversed.__next__»:=entryFor_of_tree (by kernel_rfl)
def i0 (a:Value):argsOk "reversed.__next__" ⟨[a],[]⟩:=by unfold argsOk;kernel_rfl
def jk:Slot "reversed" "__iter__" "reversed.__iter__" := .of (owner := "reversed") (n := "__iter__") (by rw[U9,Va];kernel_rfl) (by decide +kernel) (by decide +kernel) (by decide +kernel) (by first|exact .inl (by decide +kernel)|exact .inr (by decide +kernel)) (by rw[Vb];kernel_rfl)
def o4 (a:Value):argsOk "reversed.__iter__" ⟨[a],[]⟩:=by unfold argsOk;kernel_rfl
def mI:entryFor table "reversed.__iter__" = some Builtin.«dict_keyiterator.__iter__»:=entryFor_alias (id' := "dict_keyiterator.__iter__") (by kernel_rfl) (by first|rfl|decide +kernel|(unfold String.splitOn;simp +decide [String.splitOnAux])) (by decide +kernel) (by kernel_rfl)
def Mx:typeLookup (.type "tuple") "__reversed__" = pure none:=by rw[U9,Va];kernel_rfl
def CV:typeLookup (.type "tuple") "__getitem__" = pure (some (.builtin "tuple.__getitem__")):=by rw[U9,Va];kernel_rfl
def J6:isSubtype (.type "tuple") (.type "dict")=pure false:=by rw[Vb];kernel_rfl
def sub_self:isSubtype (.type "reversed") (.type "reversed")=pure true:=by rw[Vb];kernel_rfl
noncomputable def ur (t:Addr)(i:Int):Obj:={ cls:=.type "reversed",data:=.fields #[.ref t,rawInt i] }
def IsRev (h:Heap)(a t:Addr)(i:Int):Prop:=∃o,h.get? a=some o/\o.cls = .type "reversed" /\ o.data = .fields #[.ref t,rawInt i]
section
variable {prog:Program}{w:World}{A:Around}{E:Xs}{s:Shared}
def IsRev.typeIs  {i:Int}(x:IsRev s.heap a t i):s.TypeIs (.ref a) "reversed" := let ⟨o,ho,hc,_⟩:=x;⟨o,ho,hc⟩
def ET {it:Addr}{i:Nat}  {x:Value}{Q:Xx->Shared->Prop}(hit:IsRev s.heap it t (i:Int))(ht:IsTup s.heap t items)(hx:items[i]?=some x)(hi:(i:Int)<2 ^ 62)
  (hQ:∀h' tk,IsRev h' it t ((i:Int)-1)->Heap.SameBut it s.heap h'->Q (some x) { s with heap:=h',toks:=tk }):wpAny (model prog w) A (pyNext (.ref it)) Q E s:=by
 obtain⟨o,ho,hc,hd⟩:=id hit;unfold pyNext;refine Tq (Vu (Vj (name:=Str.ofString "__next__") hit.typeIs slot_next (UF slot_next hit.typeIs gU ?_ (i0 _))));unfold Builtin.«reversed.__next__»;refine Tq (UP (a:=(Value.ref it,[])) rfl ?_);try dsimp only
 refine Tq (Vt ho hd (x:=.ref t) rfl ?_);refine Tq (Vt ho hd (x:=rawInt (i:Int)) rfl ?_);show wpAny _ _ (if (i:Int)<0 then _ else _) _ _ s;rw[Tr ()];refine Tq (Wo ht.typeIs CV ?_);rw[Tr (show ¬((some (Value.builtin "tuple.__getitem__")).isNone=true) from U0)];refine Tq (wpAny_mkInt ?_);have p63:(2:Int) ^ 63=9223372036854775808:=by decide
 have p62:(2:Int) ^ 62=4611686018427387904:=by decide
 have hsz:=(Vc.mp hx).1;have hix:seqIndex? (i:Int) items.size=some i:=by unfold seqIndex?;simp;lia
 refine Tq (Vu (getItem_tuple (s:={ s with toks:=s.toks+1 }) (j:=i) ht () () hix hx ?_));dsimp only;refine Tq (Vt (s:={ s with toks:=s.toks+1 }) ho hd (x:=rawInt (i:Int)) rfl ?_);show wpAny _ _ (setField (.ref it) 1 (rawInt ((i:Int)-1)) >>= _) _ _ _;refine Tq (VD (s:={ s with toks:=s.toks+1 }) ho hd (by simp) ?_);refine Tt ⟨x,rfl,Tt (hQ _ _ ?_ (V4 ..))⟩;exact⟨_,U1 _ ho (Wp (Vd hd _)),(WK ..).trans hc,by rw[Vd hd];simp⟩
def t0 {it:Addr}{Q:Xx->Shared->Prop}(hh:A.handled=none)(hit:IsRev s.heap it t (-1))(hQ:∀h',Heap.ExtBut it s.heap h'->Q none { s with heap:=h' }):wpAny (model prog w) A (pyNext (.ref it)) Q E s:=by
 obtain⟨o,ho,hc,hd⟩:=id hit;unfold pyNext;refine Tq (Vu (Vj (name:=Str.ofString "__next__") hit.typeIs slot_next (UF slot_next hit.typeIs gU ?_ (i0 _))));unfold Builtin.«reversed.__next__»;refine Tq (UP (a:=(Value.ref it,[])) rfl ?_);try dsimp only
 refine Tq (Vt ho hd (x:=.ref t) rfl ?_);refine Tq (Vt ho hd (x:=rawInt (-1)) rfl ?_);show wpAny _ _ (if (-1:Int)<0 then _ else _) _ _ s;rw[Ts (by decide)];refine Tq (Vl ?_);refine Tq ?_;refine Tq (VD ho hd (by simp) ?_);have ho':=U1 (h:=s.heap) (Obj.mapFields (·.setIfInBounds 1 (rawInt (-1)))) ho (Wp (Vd hd _));have hd':=Vd hd (·.setIfInBounds 1 (rawInt (-1)));refine VD (s:={ s with heap:=s.heap.update it (Obj.mapFields (·.setIfInBounds 1 (rawInt (-1)))) }) ho' hd' (by simp) ?_;first
 |show wpAny _ _ (newExc (.type "StopIteration") [] >>= _) _ _ _
 | (refine Tq ?_;show wpAny _ _ (newExc (.type "StopIteration") [] >>= _) _ _ _)
 refine Tq ?_;simp only[newExc,newTuple];refine Tq (UB ?_ (by size_fits));refine Tq (m:=firstArgMember _ _) (UP (a:=Value.none) (by first|rfl|(simp only[firstArgMember];rfl)) ?_);refine UB ?_ (by size_fits);simp only[raiseNew];refine Tq (wpAny_handled ?_);first|rw[show A.in1.handled=none from hh]|rw[hh]
 refine Tq (Tt (wpAny_throw ?_));refine Tq (Wq (T := "StopIteration") (b:=true) ⟨_,T8 _ rfl,rfl⟩ isSubtype_stop ?_);exact Tt (hQ _ ((((V4 ..).trans (V4 ..)).extBut.push _).push _))
def wn {it:Addr}{i:Int}{Q:Xs}(hit:IsRev s.heap it t i)(h:Q (.ref it) s):wpAny (model prog w) A (pyIter (.ref it)) Q E s:=by refine WL hit.typeIs jk (UF jk hit.typeIs mI ?_ (o4 _));show wpAny _ _ (ret (.ref it)) _ _ s;exact Tt ⟨_,rfl, "reversed",_,hit.typeIs,slot_next.lookup,h⟩
end
def Da:mroOf (.type "reversed")=pure [.type "reversed",.type "object"]:=by rw[mroOf_type];kernel_rfl
def GX:typeLookup (.type "reversed") "__new__" = pure (some (.builtin "reversed.__new__")):=by rw[U9,Va];kernel_rfl
def Fk:Slot "reversed" "__init__" "object.__init__" := .of (owner := "object") (n := "__init__") (by rw[U9,Va];kernel_rfl) (by decide +kernel) (by decide +kernel) (by decide +kernel) (by first|exact .inl (by decide +kernel)|exact .inr (by decide +kernel)) (by rw[Vb];kernel_rfl)
def A6:TypeCalled "reversed" "reversed.__new__" "object.__init__" := ⟨by decide +kernel,by decide +kernel,⟨_,_,Da⟩,madeBy_type Da GX (by decide +kernel),by decide +kernel,by rw[Vb];kernel_rfl,Fk⟩
def yl (a:Value):checkTypeCall "reversed" ⟨[a],[]⟩=pure Unit.unit:=by kernel_rfl
def zJ (a:Value):checkBuiltinCall "reversed.__new__" ⟨[.type "reversed",a],[]⟩=pure Unit.unit:=by kernel_rfl
def Eg:entryFor table "reversed.__new__" = some Builtin.«reversed.__new__»:=entryFor_of_tree (by kernel_rfl)
def xJ (a:Value):Builtin.SmallTypes.newClass "reversed" ⟨[.type "reversed",a],[]⟩=pure (.type "reversed",[a]):=by unfold Builtin.SmallTypes.newClass;simp only[isType,sub_self,pure_bind,V5,Uu,Uf]
def EM (t:Addr)(items:Array Value)(hz:(items.size:Int)<2 ^ 63):Meets (Builtin.«reversed.__new__» ⟨[.type "reversed",.ref t],[]⟩) (fun _ R s=>IsTup s.heap t items/\R (.ok (.ret (.ref s.heap.objs.size))) { s with heap:=s.heap.push (ur t ((items.size:Int)-1)),toks:=s.toks+1+1 }):=
 .of_wp fun prog w A R s h=>by
  obtain⟨ht,h⟩:=h;unfold Builtin.«reversed.__new__»;refine Tq (UP (xJ _) ?_);try dsimp only
  refine Tq (UP (a:=Unit.unit) (by first|rfl|kernel_rfl) ?_);refine Tq (UP (a:=Unit.unit) (by first|rfl|kernel_rfl) ?_);try dsimp only
  refine Tq (Wo ht.typeIs Mx ?_);try dsimp only
  refine Tq (Tq (Wq (T := "tuple") (b:=false) ht.typeIs J6 ?_));rw[Tr U0];refine Tq (Wo ht.typeIs CV ?_);refine (show wpAny _ _ (pure true) _ _ _ from Tt ?_);show wpAny _ _ (if (!true)=true then _ else _) _ _ _;rw[Tr (by decide)];refine Tq (len_tuple ht hz ?_);show wpAny _ _ (Builtin.SmallTypes.newRecord (.type "reversed") [.ref t,rawInt ((items.size:Int)-1)] >>= _) _ _ _;refine Tq (UB (data:=.fields #[.ref t,rawInt ((items.size:Int)-1)]) ?_ (by size_fits));exact Tt ⟨_,rfl,h⟩
def Gi {prog:Program}    {s:Shared}   {Q:Xs}(ht:IsTup s.heap t items)(hz:(items.size:Int)<2 ^ 63)
  (h:Q (.ref s.heap.objs.size) { s with heap:=s.heap.push (ur t ((items.size:Int)-1)),toks:=s.toks+1+1 }):wpAny (model prog w) A (call (.type "reversed") [.ref t]) Q E s:=
 callType_new A6 (by decide) (yl _) (zJ _) (fun obj=>F.args_object_init_2 obj _) Eg (EM t items hz) ⟨ht,⟨_,T8 _ rfl,rfl⟩,h⟩
end RevT
namespace L2
open PySem PySem.Spec PyProof.Rows
noncomputable def Itv (K:Xy)(a:Addr)(xs:Xo):It:=
 ⟨fun i H=>SqT K H a xs/\∃x,xs.reverse[i]?=some x,fun i H x H'=>H'=H/\xs.reverse[i]?=some x,fun i H=>SqT K H a xs/\xs.length=i⟩
noncomputable def OD (K:Xy)(ta:TA):TI:=fun σ H R=>ta σ H fun vs H1=>∃a xs,vs=[.ref a]/\SqT K H1 a xs/\R (Itv K a xs) H1
section
variable {X:Cx}{tg:Expr}
def IK {P:Program}{w:World}{K:Xy}(a it:Addr)(xs:Xo):Turn P w K tg (Itv K a xs) [it] it (fun i h=>RevT.IsRev h it a ((xs.length:Int)-1-(i:Nat))) where
 mem:=by simp
 obj:=fun i h st b hb=>by rw[Tv.mp hb];obtain⟨o,e,c,d⟩:=st;exact⟨o,e,fun v z=>by rw[d] at z;cases z⟩
 keep:=fun i h h' st k=>by obtain⟨o,e,r⟩:=st;exact⟨o,k it (by simp) _ e,r⟩
 item:=by
  intro X hP hw hK hc i pins s σ H E I hf st hg;subst hP hw hK;obtain⟨hq,x,hx⟩:=hg;obtain⟨its,rv,p,hz⟩:=I.tuple hq;have hi:i<xs.length:=by have:=(TR.mp hx).1;simpa using this
  have hx':xs[xs.length-1-i]?=some x:=by rw[W5 hi] at hx;exact hx
  obtain⟨u,hu,ru⟩:=rv.get hx';obtain⟨f0,f1,f2,f3,f4,f5⟩:=hf it (by simp);have e:(xs.length:Int)-1-(i:Nat)=((xs.length-1-i:Nat):Int):=()
  have hn:(sizeLine:Nat)<2 ^ 60:=by rw[Uj];decide
  have p62:(2:Int) ^ 62=4611686018427387904:=by decide
  rw[e] at st;refine RevT.ET st p (x:=u) (by simpa using hu) () fun h' tk st' sb=>?_;have I1:Inv X pins σ H { s with heap:=h',toks:=tk }:=I.turned (fun b o hb e=>(sb.2 b hb).trans e) f0 f1 f3 f4 f5;have st2:RevT.IsRev h' it a ((xs.length:Int)-1-((i+1:Nat):Int)):=by
   have e2:(xs.length:Int)-1-((i+1:Nat):Int)=((xs.length-1-i:Nat):Int)-1:=()
   rw[e2];exact st'
  obtain⟨o,e,c,d⟩:=id st';exact⟨u,rfl,s9 (s:={ s with heap:=h',toks:=tk }) e c d (by decide) ⟨x,H,I1,ru,⟨rfl,hx⟩,st2,fun b hb=>(hf b hb).1⟩⟩
 done:=by
  intro X hP hw hK hc i pins s σ H E I hf st hg;subst hP hw hK;obtain⟨hq,hx⟩:=hg;obtain⟨f0,f1,f2,f3,f4,f5⟩:=hf it (by simp);have e:(xs.length:Int)-1-(i:Nat) = -1:=()
  rw[e] at st;exact RevT.t0 (I.ok.hd hc) st fun h' eb=>⟨rfl,I.turned (t':=s.toks) (fun b o hb e=>eb b o hb e) f0 f1 f3 f4 f5⟩
 self:=fun _ _ _ _ _ st h=>RevT.wn st h
def MU {a:Expr}{ta:TA}{p pos:Pos}(hg:Gl X "reversed") (hm:X.mg "reversed" = none) (ha:PA X [a] ta) (hs:starEach [a] X.env=[(false,eval a X.env)]:=by rfl):PI X tg (.Call (.Name "reversed" p) [a] [] pos) (OD X.K ta):=by
 intro pins s σ H R I h;refine Call_ (g6 I hg hm yO (VI (thn (ha pos pins s σ H _ I h) fun us s1 h1=>?_) hs rfl));obtain⟨vs,H1,I1,r1,t,xs,rfl,hq,q⟩:=h1;obtain⟨u,rfl,rx⟩:=IQ r1;cases rx;obtain⟨its,rv,p,hz⟩:=I1.tuple hq;have hlen:=rv.length;have hn:=mV;refine RevT.Gi p (by simp only[TZ]<;>lia) ?_;have I2:Inv X pins σ H1 { s1 with heap:=s1.heap.push (RevT.ur t ((its.toArray.size:Int)-1)),toks:=s1.toks+1+1 }:=I1.kept fun b o e=>TU _ e;have st:RevT.IsRev (s1.heap.push (RevT.ur t ((its.toArray.size:Int)-1))) s1.heap.objs.size t ((xs.length:Int)-1-((0:Nat):Int)):=by
  refine⟨_,T8 _ rfl,rfl,?_⟩;have e:(xs.length:Int)-1-((0:Nat):Int)=(its.toArray.size:Int)-1:=by simp[hlen]
  rw[e];rfl
 refine RevT.wn (s:={ s1 with heap:=s1.heap.push (RevT.ur t ((its.toArray.size:Int)-1)),toks:=s1.toks+1+1 }) st ?_;refine⟨s1.heap.objs.size,[s1.heap.objs.size],_,_,H1,rfl,I2,IK t _ xs,st,fun b hb=>?_,q⟩;rw[Tv.mp hb];exact I1.fpOk (TB _) I1.fresh
end
end L2
namespace M
open PySem L2
section
variable {K:Xy}{S S' H H':Hp}
noncomputable def Po:Xq->Option (Xq)
 |[.tup l]=>some l.reverse|_=>none
@[simp] noncomputable def wR (a:XA):XA:=fun ρ=>(a ρ).bind Po
def OE   (h:SAP K t a):SI K (OD K t) (wR a):=fun ρ σ S H R l r x k=>by
 unfold wR at x;cases q:a ρ with
 |none=>rw[q] at x;cases x
 |some ds=>
  rw[q] at x;dsimp only[Option.bind] at x;unfold Po at x;split at x
  ·rename_i l';cases x;refine h ρ σ S H _ _ r q fun vs S1 H1 z1 d1=>?_;cases d1 with
   |cons a1 d1=>
    cases d1;rcases a1 with a1|⟨l2,_,_,e,_⟩
    ·obtain⟨p,xs,rfl,h1,h2⟩:=fP a1;refine⟨p,xs,rfl,aL z1.sub h1,k _ S1 H1 z1 fun S' H' s1 s2=>⟨fun i d hd=>?_,aL (s1.trans s2) h1,by rw[List.length_reverse];exact h2.length.symm⟩⟩;have hi:i<l'.length:=by have:=(TR.mp hd).1;simpa using this
     rw[W5 hi] at hd;obtain⟨y,e1,e2⟩:=h2.get hd;have hl:=h2.length;have e3:xs.reverse[i]?=some y:=by rw[W5 ()];rw[<- e1];congr 2;lia
     refine⟨⟨aL (s1.trans s2) h1,y,e3⟩,fun x H'' hy=>⟨hy.1,?_⟩⟩;have:=hy.2;rw[e3] at this;cases this;exact e2.mono s1
    ·cases e
  ·cases x
end
end M
namespace L2
open PySem
section
variable {X:Cx}{e:Expr}{pos p p':Pos}{ta:TE}{T:Addr}{N:Str}{ans:List (Str×Bool)}
end
end L2
namespace M
open PySem L2
section
variable {K:Xy}{S S' H H':Hp}
@[simp] noncomputable def Sg (ans:List (Str×Bool))(e:XE):XE:=fun ρ=>(e ρ).bind fun d=>match d with|.ins N _ _=>(ans.lookup N).map .bl|_=>none
end
end M
namespace L2
open PySem PySem.Spec PyProof.Rows Builtin Builtin.ObjectAttr Builtin.Getset_descriptor
section
variable {prog:Program}{w:World}{A:Around}{E:Xs}{s:Shared}{K:Xy}{C a:Addr}
end
end L2
namespace L2
open PySem PySem.Spec PyProof.Rows
section
variable {H H':Hp}{B h0 h h':Heap}{fs:Xz}
end
section
variable {X:Cx}{pins:Xu}{σ:St}{H:Hp}{s:Shared}{E:XK}{B:Heap}{e:Addr}{cls a0:Value}
end
section
variable {P:Program}{w:World}{K:Xy}{mg:Xv}{base:Heap}{N:XB}{qual:Str}{scope:Scope}{f:Addr}{cdv:Value}{A:Around}{outer:List Env}{s:Shared}{H:Hp}{E:XK}
end
section
variable {X:Cx}{E:XK}{x:Str}{e:Expr}{te:TE}{np cpos pos:Pos}
end
section
variable {X:Cx}{pins:Xu}{σ:St}{H H':Hp}{s s':Shared}{e:Addr}
end
section
variable {X:Cx}{body suite:List Stmt}{b0:Stmt}{x n:Str}{i:Nat}{L:XB}{tb:XK->TS}{ts:TS}{np hp pos:Pos}
end
section
variable {X:Cx}{e:Expr}{pos p p':Pos}{i:Nat}{N:Str}{ans:List (Str×Bool)}{vv:V}{u:Value}
end
end L2
namespace M
open PySem L2
section
variable {K:Xy}{S S' H H':Hp}
inductive RO where
 |rz (N:Str)|nx (ρ:Env)
noncomputable abbrev XR:=Env->Option RO
variable {E:XK}
@[simp] noncomputable def RE:XR:=fun ρ=>some (.nx ρ)
@[simp] noncomputable def Qp (N:Str):XR:=fun _=>some (.rz N)
@[simp] noncomputable def Tn (c:XT)(m n:XR):XR:=fun ρ=>(c ρ).bind fun b=>if b=true then m ρ else n ρ
@[simp] noncomputable def Sz (m n:XR):XR:=fun ρ=>(m ρ).bind fun o=>match o with|.nx ρ'=>n ρ' | .rz N=>some (.rz N)
@[simp] noncomputable def RF (m:XR):XR:=fun ρ=>(m ρ).bind fun o=>match o with|.nx _=>none|.rz N=>some (.rz N)
@[simp] noncomputable def xrE (m:Env->Option Str):XR:=fun ρ=>(m ρ).map .rz
@[simp] noncomputable def RC (m:Xq->Option Str)(a:XA):Env->Option Str:=fun ρ=>(a ρ).bind m
noncomputable def Lg (N:Str):List (List (Str×Bool))->Option (List Bool)
 |[]=>some []
 |a::l=>(a.lookup N).bind fun b=>(Lg N l).map fun bs=>b::bs
noncomputable def GI (i:Nat)(N:Str):List (Nat×List (List (Str×Bool)))->Env->Option Env
 |[],ρ=>some ρ
 |p::l,ρ=>if p.1=i then none else (Lg N p.2).bind fun bs=>if bs.length<=1000 then GI i N l (ρ.set p.1 (.sh (.lst (bs.map .bl)))) else none
@[simp] noncomputable def Tk (L:XB)(i:Nat)(m:XR)(l:List (Nat×List (List (Str×Bool)))):XS:=fun ρ=>if i<ρ.length then (m ρ).bind fun o=>match o with
 |.rz N=>if L.contains N then (GI i N l (ρ.map fun _=>.un)).map fun ρ'=>.nx (ρ'.set i .un) else none
 |.nx ρ'=>some (.nx ρ') else none
end
end M
namespace L2
open PySem PySem.Spec PyProof.Rows
section
variable {X:Cx}{tg:Expr}
end
end L2
namespace M
open PySem L2
section
variable {K:Xy}{S S' H H':Hp}
noncomputable def QN:Xq->Option (Xq)
 |[.int i,.int j]=>some (gY i (j-i).toNat)
 |_=>none
@[simp] noncomputable def Ss (a:XA):XA:=fun ρ=>(a ρ).bind QN
end
end M
namespace L2
open PySem PySem.Spec PyProof.Rows
section
variable {X:Cx}{tg:Expr}
noncomputable def O6 (K:Xy):Xo->Hp->VK->Prop:=fun xs H Q=>∃p,∃bs:List Bool,xs=[.ref p]/\SqL K H p (bs.map V.bl)/\Q (.bl (bs.all id)) H
def xU (bs:List Bool):(List.range bs.length).all (fun i=>bs.getD i true)=bs.all id:=by
 rw[Bool.eq_iff_iff,VX,VX];constructor
 ·intro h b hb;obtain⟨i,hi,rfl⟩:=Vy hb;have:=h i (Us.mpr hi);simpa[hi] using this
 ·intro h i hi;have hi:=Us.mp hi;have:=h bs[i] (V0 hi);simpa[hi] using this
def D4 (hc:X.calm=true):CallR X (.builtin "all") (O6 X.K):=by
 intro pins s σ H xs us Q I r h;obtain⟨p,bs,rfl,hS,q⟩:=h;obtain⟨u,rfl,ru⟩:=r.one;cases ru;obtain⟨its,rv,pl,hz⟩:=I.list hS;have hl:=pl.isList;have hlen:bs.length=its.length:=by have:=rv.length;simpa using this
 refine call_all_walk (wpAny_pyIter_list hl ?_);have hne:p≠s.heap.objs.size:=T2 pl.lt;refine⟨_,_,_,_,_,_,fun i=>bs.getD i true,rfl,Walks.list (A:=X.A.in1) (I.ok.hd hc) _ p hne its.toArray,⟨⟨_,T8 _ rfl,rfl,rfl⟩,hl.push _⟩,?_,?_⟩
 ·intro i v s' Q' E' hv hQ;have hv:its[i]?=some v:=by simpa using hv
  have hi:i<bs.length:=by rw[hlen];exact (TR.mp hv).1
  obtain⟨u,hu,ru⟩:=rv.get (i:=i) (x:=.bl (bs[i])) (by simp[hi]);rw[hu] at hv;cases hv;cases ru;have e:bs.getD i true=bs[i]:=by simp[hi]
  dsimp only at hQ;rw[e] at hQ;exact Wc hQ
 ·intro h' tk hk;rw[TZ,<- hlen,xU];exact⟨.bl _,H,I.kept (old_kept hk),rfl,q⟩
end
end L2
namespace M
open PySem L2
section
variable {K:Xy}{S S' H H':Hp}
noncomputable def Ny (x:Str):Xq:=x.cps.toList.map fun c=>D.str ⟨#[c]⟩
noncomputable def sgD:D->Option (Xq)
 |.str x=>some (Ny x)
 |_=>none
@[simp] noncomputable def Tg (e:XE):XA:=fun ρ=>(e ρ).bind sgD
noncomputable def Qx (d:D)(lo hi:Option Int):Xr:=match d with
 |.str x=>if x.length<=LIM then some (.str (Txt.slice x lo hi)) else none
 |_=>none
@[simp] noncomputable def Tj (a:XE)(lo hi:XO):XE:=fun ρ=>(a ρ).bind fun d=>(lo ρ).bind fun l=>(hi ρ).bind fun h=>Qx d l h
noncomputable def RL:Xp
 |[.str x]=>if x.length<=640 then (PySem.intText? x).map D.int else none
 |_=>none
noncomputable def gu:Xq->Option (List Bool)
 |[]=>some []
 |.bl b::l=>(gu l).map fun r=>b::r
 |_::_=>none
theorem sG:∀ {l:Xq} {bs:List Bool},gu l=some bs->l=bs.map D.bl
 |[],bs,h=>by cases h;rfl
 |d::l,bs,h=>by
  cases d<;>try (cases h;done)
  rename_i b;have h:(gu l).map (fun r=>b::r)=some bs:=h;cases q:gu l with
  |none=>rw[q] at h;cases h
  |some r=>rw[q] at h;cases h;rw[sG q];rfl
theorem yW:∀ {bs:List Bool} {xs:Xo},Dens K S (bs.map D.bl) xs->xs=bs.map V.bl
 |[],xs,h=>h
 |b::bs,xs,h=>by obtain⟨y,ys,rfl,a,r⟩:=h;rw[den_bl.mp a,yW r];rfl
noncomputable def Jm:Xp
 |[.lst l]=>(gu l).map fun bs=>.bl (bs.all id)
 |_=>none
def Og:SRB K (O6 K) Jm:=fun S H vs ds g Q s h x k=>by
 unfold Jm at x;split at x
 ·rename_i l;obtain⟨v,rfl,d1⟩:=ga h;cases q:gu l with
  |none=>rw[q] at x;cases x
  |some bs=>rw[q] at x;cases x;obtain⟨p,xs,rfl,h1,h2⟩:=d1.lst s;have e:=sG q;subst e;have e:=yW h2;subst e;exact⟨p,bs,rfl,.inl h1,k _ S H (Ext.refl s) (den_bl.mpr rfl)⟩
 ·cases x
end
end M
namespace L2
open PySem
def L0:bootBuiltins "all" = some (.builtin "all"):=by decide +kernel
end L2
namespace L2
open PySem PySem.Spec PyProof.Rows
section
variable {X:Cx}
inductive PJ (X:Cx):List Expr->List TE->Prop
 |nil:PJ X [] []
 |cons {e:Expr} {t:TE} {es:List Expr} {ts:List TE}:PE X e t->PJ X es ts->PJ X (e::es) (t::ts)
end
end L2
namespace M
open PySem L2
section
variable {K:Xy}{S S' H H':Hp}
noncomputable def fvD:D->Xr
 |.int i=>if i.natAbs.log2<1920 then some (.str (toString i)) else none
 |.str y=>if y.length<=LIM then some (.str y) else none
 |_=>none
@[simp] noncomputable def xFv (e:XE):XE:=fun ρ=>(e ρ).bind fvD
inductive SJ (K:W.Frag):List TE->List XE->Prop
 |nil:SJ K [] []
 |cons {t:TE} {a:XE} {ts:List TE} {as:List XE}:SPk K t a->SJ K ts as->SJ K (t::ts) (a::as)
end
end M
namespace L2
open PySem PySem.Spec PyProof.Rows
section
variable {M:Model}{A:Around}{Ex:Xs}{s:Shared}
end
section
variable {P:Program}{w:World}{K:Xy}{mg:Xv}{base:Heap}{N:XB}{qual:Str}{scope:Scope}{f:Addr}{cdv:Value}{A:Around}{outer:List Env}{s:Shared}{H:Hp}{E:XK}
end
section
variable {X:Cx}{pins:Xu}{σ:St}{H:Hp}{s:Shared}{XN N:XB}{sc scope:Scope}{js:List (Option Nat)}
variable {tg iter elt:Expr}{ifs:List Expr}{pos:Pos}{wi:TI}{g:TG}{tt:TIf}{te:TE}{E:XK}
end
section
variable {X:Cx}
end
end L2
namespace M
open PySem L2
section
variable {K:Xy}{S S' H H':Hp}{E:XK}
@[simp] noncomputable def To (m:XS):XR:=fun ρ=>match m ρ with|some (.nx ρ')=>some (.nx ρ')|_=>none
@[simp] noncomputable def Tp (n:Env->Option Str)(m:XS):XR:=fun ρ=>match n ρ with|some N=>some (.rz N)|none=>(match m ρ with|some (.nx ρ')=>some (.nx ρ')|_=>none)
@[simp] noncomputable def RA (m:Env->Option Str):Env->Option Str:=m
@[simp] noncomputable def RB (e:XE)(m:Env->Option Str):Env->Option Str:=fun ρ=>(e ρ).bind fun _=>m ρ
@[simp] noncomputable def Tl (n:Env->Option Str)(e:XE)(m:Env->Option Str):Env->Option Str:=fun ρ=>match n ρ with|some N=>some N|none=>(e ρ).bind fun _=>m ρ
@[simp] noncomputable def Sw (i:Nat)(m:Env->Option Str):Env->Option Str:=fun ρ=>match ρ[i]? with|some (.ow (.lst _))=>m ρ|_=>none
noncomputable def Gm (g:XG)(c:XT)(e:XE)(n:Env->Option Str)(ρ0:Env):Xq->Option Str
 |[]=>none
 |d::l=>(g d ρ0).bind fun ρ1=>(c ρ1).bind fun b=>if b=true then (match n ρ1 with|some N=>some N|none=>(e ρ1).bind fun _=>Gm g c e n ρ0 l) else Gm g c e n ρ0 l
@[simp] noncomputable def RD (js:List (Option Nat))(w:XA)(g:XG)(c:XT)(e:XE)(n:Env->Option Str):Env->Option Str:=fun ρ=>(w ρ).bind fun l=>if l.length<=LIM then Gm g c e n (q9 js ρ) l else none
noncomputable def Lh (g:XG)(m:XR):Xq->Env->Option RO
 |[],ρ=>some (.nx ρ)
 |d::l,ρ=>(g d ρ).bind fun ρ1=>(m ρ1).bind fun o=>match o with|.nx ρ2=>Lh g m l ρ2|.rz N=>some (.rz N)
@[simp] noncomputable def Sy (e:XA)(g:XG)(m:XR):XR:=fun ρ=>(e ρ).bind fun l=>Lh g m l ρ
end
end M
namespace L2
open PySem
def usS {us:Xw}{n:Nat}(h:us.length=n+1):∃a v,us=a::v/\v.length=n:=by
 cases us with
 |nil=>cases h
 |cons a v=>exact⟨a,v,rfl,Nat.succ.inj h⟩
def us1 {us:Xw}(h:us.length=1):∃a0,us=[a0]:=by
 obtain⟨a0,v0,rfl,h0⟩:=usS h;cases v0 with
 |nil=>exact⟨a0,rfl⟩
 |cons a v=>cases h0
def us2 {us:Xw}(h:us.length=2):∃a0 a1,us=[a0,a1]:=by
 obtain⟨a0,v0,rfl,h0⟩:=usS h;obtain⟨a1,v1,rfl,h1⟩:=usS h0;cases v1 with
 |nil=>exact⟨a0,a1,rfl⟩
 |cons a v=>cases h1
def us3 {us:Xw}(h:us.length=3):∃a0 a1 a2,us=[a0,a1,a2]:=by
 obtain⟨a0,v0,rfl,h0⟩:=usS h;obtain⟨a1,v1,rfl,h1⟩:=usS h0;obtain⟨a2,v2,rfl,h2⟩:=usS h1;cases v2 with
 |nil=>exact⟨a0,a1,a2,rfl⟩
 |cons a v=>cases h2
def sI:uY K [] P:=fun _ h=>by cases h
def o7  {P:Addr->Prop}  {Ns:XB}{c:Addr}(h:W.nsIn K mainGlobals N=some (some (.ref c)))(p:P c)(r:uY K Ns P):uY K (N::Ns) P:=fun M hM C hC=>by
 rcases TN.mp hM with rfl|hM
 ·rw[h] at hC;cases hC;exact p
 ·exact r M hM C hC
end L2
namespace L2
open PySem PySem.Spec PyProof.Rows
section
variable {κ:Type}[DecidableEq κ]
noncomputable def lX (kvs:List (κ×V))(k:κ):Option V:=(kvs.find? fun kv=>decide (kv.1=k)).map (·.2)
noncomputable def oB (kvs:List (κ×V))(k:κ)(v:V):List (κ×V):=
 if (kvs.any fun kv=>decide (kv.1=k))=true then kvs.map (fun kv=>if kv.1=k then (kv.1,v) else kv) else kvs++[(k,v)]
def oQ {p:κ×V}{r:List (κ×V)}{k:κ}(e:p.1=k):lX (p::r) k=some p.2:=by simp[lX,VP,e]
def oP {p:κ×V}{r:List (κ×V)}{k:κ}(e:¬p.1=k):lX (p::r) k=lX r k:=by simp[lX,VP,e]
theorem oO (k:κ):∀kvs:List (κ×V),(kvs.any fun kv=>decide (kv.1=k))=(lX kvs k).isSome
 |[]=>rfl
 |p::r=>by
  rw[List.any_cons];by_cases e:p.1=k
  ·simp only[oQ e,Ux e,Bool.true_or,Option.isSome_some]
  ·rw[oP e,Uc e,Bool.false_or];exact oO k r
def qI (kvs:List (κ×V))(k:κ)(v:V):(oB kvs k v).length<=kvs.length+1:=by
 unfold oB;split
 ·rw[Tw];lia
 ·rw[Tz,TF,V6];lia
def HC {kvs:List (κ×V)}  (v:V)(h:lX kvs k=none):oB kvs k v=kvs++[(k,v)]:=by unfold oB;rw[oO,h];exact Tr (by decide)
def RelO.isSome_eq   (r:RelO o u):o.isSome=u.isSome:=by
 cases o with
 |none=>cases u with
  |none=>rfl
  |some _=>exact (show False from r).elim
 |some _=>cases u with
  |none=>exact (show False from r).elim
  |some _=>rfl
def KV.val {kvs:List (κ×V)}  (r:KV kvs vs)(k:κ):RelO (lX kvs k) (valueAt vs k):=by
 unfold KV at r;induction r with
 |nil=>exact True.intro
 | @cons p q ps qs h t ih=>
  obtain⟨h1,h2⟩:=h;by_cases e:p.1=k
  ·have e':q.1=k:=h1.symm.trans e;have b:valueAt (q::qs) k=some q.2:=by simp[valueAt,VP,e']
   rw[oQ e,b];exact h2
  ·have e':¬q.1=k:=fun z=>e (h1.trans z);have b:valueAt (q::qs) k=valueAt qs k:=by simp[valueAt,VP,e']
   rw[oP e,b];exact ih
theorem KV.any {kvs:List (κ×V)}  (r:KV kvs vs)(k:κ):(kvs.any fun kv=>decide (kv.1=k))=vs.any fun kv=>decide (kv.1=k):=by
 unfold KV at r;induction r with
 |nil=>rfl
 |cons h t ih=>rw[List.any_cons,List.any_cons,ih,h.1]
def KV.repl {kvs:List (κ×V)}  (r:KV kvs vs)(k:κ)   (ry:RelV y u) :
  KV (kvs.map fun kv=>if kv.1=k then (kv.1,y) else kv) (vs.map fun kv=>if kv.1=k then (kv.1,u) else kv):=by
 unfold KV at r ⊢;induction r with
 |nil=>exact .nil
 | @cons p q ps qs h t ih=>
  rw[TQ,TQ];refine .cons ?_ ih;obtain⟨h1,h2⟩:=h;by_cases e:p.1=k
  ·rw[Ts e,Ts (h1.symm.trans e)];exact⟨h1,ry⟩
  ·rw[Tr e,Tr (fun z=>e (h1.trans z))];exact⟨h1,h2⟩
def KV.put {kvs:List (κ×V)}  (r:KV kvs vs)(k:κ)   (ry:RelV y u):KV (oB kvs k y) (stored vs k u):=by
 unfold oB stored;rw[r.any k];by_cases e:(vs.any fun kv=>decide (kv.1=k))=true
 ·rw[Ts e,Ts e];exact r.repl k ry
 ·rw[Tr e,Tr e];exact Paired.snoc r ⟨rfl,ry⟩
theorem KV.length {kvs:List (κ×V)}  (r:KV kvs vs):kvs.length=vs.length:=VQ r
end
def CZ     (r:RelV (kV k) u):(cn P w).is k u=true:=by
 cases k with
 |inl i=>obtain⟨t,e⟩:=(show ∃t,u=Value.int i t from r);subst e;exact zE P w i t
 |inr x=>obtain⟨t,e⟩:=(show ∃t,u=Value.str x t from r);subst e;exact zF P w x t
theorem wm:∀ {ks:List Key} {us:Xw},Vals (ks.map kV) us->ItemsAre (cn P w) ks us
 |[],_,r=>by rw[VW] at r;cases r;exact .nil
 |k::ks,_,r=>by
  rw[TQ] at r;cases r with
  |cons h t=>exact .cons (CZ h) (wm t)
noncomputable abbrev KT (H:Hp):List (List Key×V)->List (List Key×Addr×Value)->Prop:=Paired fun p q=>p.1=q.1/\H q.2.1=some (.tup (p.1.map kV))/\RelV p.2 q.2.2
def KT.val  {kvs:List (List Key×V)}{xs:List (List Key×Addr×Value)}(r:KT H kvs xs)(k:List Key):RelO (lX kvs k) ((atKey xs k).map (·.2)):=by
 induction r with
 |nil=>exact True.intro
 | @cons p q ps qs h t ih=>
  obtain⟨h1,_,h2⟩:=h;by_cases e:p.1=k
  ·have e':q.1=k:=h1.symm.trans e;have b:atKey (q::qs) k=some q.2:=by simp[atKey,VP,e']
   rw[oQ e,b];exact h2
  ·have e':¬q.1=k:=fun z=>e (h1.trans z);have b:atKey (q::qs) k=atKey qs k:=by simp[atKey,VP,e']
   rw[oP e,b];exact ih
def KT.repl  {kvs:List (List Key×V)}{xs:List (List Key×Addr×Value)}(r:KT H kvs xs)(k:List Key)   (ry:RelV y u) :
  KT H (kvs.map fun kv=>if kv.1=k then (kv.1,y) else kv) (xs.map (putAt k u)):=by
 induction r with
 |nil=>exact .nil
 | @cons p q ps qs h t ih=>
  rw[TQ,TQ];refine .cons ?_ ih;obtain⟨h1,h2,h3⟩:=h;unfold putAt;by_cases e:p.1=k
  ·rw[Ts e,Ts (h1.symm.trans e)];exact⟨h1,h2,ry⟩
  ·rw[Tr e,Tr (fun z=>e (h1.trans z))];exact⟨h1,h2,h3⟩
def KT.put  {kvs:List (List Key×V)}{xs:List (List Key×Addr×Value)}(r:KT H kvs xs)(k:List Key){b:Addr}   (hb:H b=some (.tup (k.map kV)))(ry:RelV y u) :
  KT H (oB kvs k y) (storedH xs k b u):=by
 have e:(kvs.any fun kv=>decide (kv.1=k))=(atKey xs k).isSome:=by rw[oO,(r.val k).isSome_eq,Option.isSome_map]
 unfold oB storedH;rw[e];by_cases q:(atKey xs k).isSome=true
 ·rw[Ts q,Ts q];exact r.repl k ry
 ·rw[Tr q,Tr q];exact Paired.snoc r ⟨rfl,hb,ry⟩
def KT.keeps {H':Hp}{kvs:List (List Key×V)}{xs:List (List Key×Addr×Value)}(r:KT H kvs xs)(ht:∀b ys,H b=some (.tup ys)->H' b=some (.tup ys)):KT H' kvs xs:=
 Paired.mapP r fun _ _ z=>⟨z.1,ht _ _ z.2.1,z.2.2⟩
section
variable {P:Program}{w:World}{H:Hp}{h:Heap}{a:Addr}
def Ag  (ok:HOk P w H h)(e:Rd H a u):ObjOk P w H h a u:=e.ok ok
def Gp {kvs:List (Key×V)}(ok:HOk P w H h)(e:Rd H a (.dK kvs)):kvs.length<=sizeLine/\(a==sysModules)=false/\∃vs,KV kvs vs/\h.DictOf (cn P w) a vs:=
 show ObjOk P w H h a (.dK kvs) from Ag ok e
def Om {kvs:List (Key×V)}(ok:HOk P w H h)(e:H a=some (.dK kvs)):kvs.length<=sizeLine/\(a==sysModules)=false/\∃vs,KV kvs vs/\h.DictOf (cn P w) a vs:=Gp ok (.inl e)
def xx {ks:List Key}(ok:HOk P w H h)(e:H a=some (.tup (ks.map kV))):(tupleKind (cn P w)).is h ks a:=by
 obtain⟨_,its,r,o,h1,h2,n,h3⟩:=(show ObjOk P w H h a (.tup (ks.map kV)) from ok a _ e)
 exact⟨o,its.toArray,n,h1,h2,h3,by simpa using wm r⟩
def CQ {kvs:List (List Key×V)}(ok:HOk P w H h)(e:Rd H a (.dT kvs)):kvs.length<=sizeLine/\(a==sysModules)=false /\
  ∃xs,KT H kvs xs/\h.DictOfH (tupleKind (cn P w)) a xs:=by
 obtain⟨z,y,xs,r,o,es,ep,h1,h2,h3,h4,h5⟩:=(show ObjOk P w H h a (.dT kvs) from Ag ok e)
 refine⟨z,y,xs,r,o,es,ep,h1,h2,h3,h4,fun x hx=>?_,h5⟩;have all:∀ {l:List (List Key×V)} {m:List (List Key×Addr×Value)},KT H l m->∀x∈m,(tupleKind (cn P w)).is h x.1 x.2.1:=by
  intro l m q;induction q with
  |nil=>intro x hx;exact nomatch hx
  | @cons p q ps qs hq t ih=>
   intro x hx;rcases TN.mp hx with e|hx
   ·subst e;exact xx ok (by rw[<- hq.1];exact hq.2.1)
   ·exact ih x hx
 exact all r x hx
def Oo {kvs:List (List Key×V)}(ok:HOk P w H h)(e:H a=some (.dT kvs)):kvs.length<=sizeLine/\(a==sysModules)=false /\
  ∃xs,KT H kvs xs/\h.DictOfH (tupleKind (cn P w)) a xs:=CQ ok (.inl e)
end
def Jd (H:Hp)(a:Addr)(y:V)(r:Option V):Prop:=
 (∃kvs k,Rd H a (.dK kvs)/\y=kV k/\r=lX kvs k)\/∃kvs k b,Rd H a (.dT kvs)/\y = .ref b/\H b=some (.tup (k.map kV))/\r=lX kvs k
def N5 (H:Hp)(a:Addr)(y v:V)(H':Hp):Prop:=
 (∃kvs k,H a=some (.dK kvs)/\y=kV k/\kvs.length<sizeLine/\H'=upd H a (.dK (oB kvs k v))) \/
 ∃kvs k b,H a=some (.dT kvs)/\y = .ref b/\H b=some (.tup (k.map kV))/\kvs.length<sizeLine/\H'=upd H a (.dT (oB kvs k v))
section
variable {X:Cx}{pins:Xu}{σ:St}{H:Hp}{s:Shared}{a:Addr}{y v:V}{u r:Value}{o:Option V}{A:Around}{E:Xs}
def Inv.big (I:Inv X pins σ H s):sysModules<s.heap.objs.size:=by have h:mainGlobals<s.heap.objs.size:=(I.mod.glob.keeps I.bk).lt;exact Nat.lt_trans (by decide) h
def Qy {Q:Xs}(hu:A.units+1<cLine)(I:Inv X pins σ H s)(g:Jd H a y o)(ry:RelV y u)(h:∀s',Inv X pins σ H s'->Q (.bool o.isSome) s') :
  wpAny (model X.prog X.w) A (compareOp .In u (.ref a)) Q E s:=by
 rcases g with ⟨kvs,k,e,ey,l⟩|⟨kvs,k,b,e,ey,eb,l⟩
 ·subst ey;obtain⟨z,hd,vs,rel,dd⟩:=Gp I.hok e;refine wpAny_in_of (CZ ry) hd dd.mapOf ?_;rw[<- (rel.val k).isSome_eq,<- l];exact h _ (I.tok _)
 ·subst ey;cases (show u=Value.ref b from ry);obtain⟨z,hd,xs,rel,dd⟩:=CQ I.hok e;refine wpAny_in_heap (tupleKind_room_in1 hu) (xx I.hok eb) hd dd ?_;have q:=(rel.val k).isSome_eq;rw[Option.isSome_map] at q;rw[<- q,<- l];exact h _ (I.tok _)
def Ju {Q:Xs}(hu:A.units+1<cLine)(I:Inv X pins σ H s)(g:Jd H a y o)(ry:RelV y u)(h:∀s',Inv X pins σ H s'->Q (.bool (!o.isSome)) s') :
  wpAny (model X.prog X.w) A (compareOp .NotIn u (.ref a)) Q E s:=by
 rcases g with ⟨kvs,k,e,ey,l⟩|⟨kvs,k,b,e,ey,eb,l⟩
 ·subst ey;obtain⟨z,hd,vs,rel,dd⟩:=Gp I.hok e;refine wpAny_notIn_of (CZ ry) hd dd.mapOf ?_;rw[<- (rel.val k).isSome_eq,<- l];exact h _ (I.tok _)
 ·subst ey;cases (show u=Value.ref b from ry);obtain⟨z,hd,xs,rel,dd⟩:=CQ I.hok e;refine wpAny_notIn_heap (tupleKind_room_in1 hu) (xx I.hok eb) hd dd ?_;have q:=(rel.val k).isSome_eq;rw[Option.isSome_map] at q;rw[<- q,<- l];exact h _ (I.tok _)
def xi {h':Heap}{t':Nat}  (I:Inv X pins σ H s)(mu:Mut (H a))(hs:Heap.SameBut a s.heap h')(he:∃q,h'.get? a=some q)(new:ObjOk X.prog X.w (upd H a ob) h' a ob) :
  Inv X pins σ (upd H a ob) { s with heap:=h',toks:=t' }:=
 I.write (x:=a) (e:=a) mu (.inl rfl) (fun b q hb z=>(hs.2 b hb).trans z) he new
def L4   {H':Hp}{h':Heap}{kvs:List (Key×V)}  (z:kvs.length<=sizeLine)(hd:(a==sysModules)=false)(rel:KV kvs vs)(dd:h'.DictOf (cn P w) a vs) :
  ObjOk P w H' h' a (.dK kvs):=⟨z,hd,vs,rel,dd⟩
def Ef {H':Hp}{Q:Unit->Shared->Prop}(hu:A.units+1<cLine)(I:Inv X pins σ H s)(g:N5 H a y v H')(ry:RelV y u)(rv:RelV v r)(h:∀s',Inv X pins σ H' s'->Q Unit.unit s') :
  wpAny (model X.prog X.w) A (setItem (.ref a) u r) Q E s:=by
 rcases g with ⟨kvs,k,e,ey,l,eH⟩|⟨kvs,k,b,e,ey,eb,l,eH⟩
 ·subst ey eH;obtain⟨z,hd,vs,rel,dd⟩:=Om I.hok e;have hz:vs.length<=sizeLine:=by rw[<- rel.length];exact z
  have hl:(oB kvs k v).length<=sizeLine:=by have:=qI kvs k v;lia
  refine wpAny_setItem_pairs (hsz:=hz) (CZ ry) dd fun h' dd' hs=>h _ ?_;have he:∃q,h'.get? a=some q:=let ⟨q,_,_,hq,_⟩:=dd';⟨q,hq⟩
  exact xi I (by rw[e];exact True.intro) hs he (L4 hl hd (rel.put k rv) dd')
 ·subst ey eH;cases (show u=Value.ref b from ry);obtain⟨z,hd,xs,rel,dd⟩:=Oo I.hok e;have hz:xs.length<=sizeLine:=by rw[<- VQ rel];exact z
  have hl:(oB kvs k v).length<=sizeLine:=by have:=qI kvs k v;lia
  refine wpAny_setItem_heap (hsz:=hz) (tupleKind_room_in1 hu) (xx I.hok eb) dd fun h' dd' hs=>h _ ?_;obtain⟨q,es,ep,hq,h2,h3,h4,_,h5⟩:=dd';refine xi I (by rw[e];exact True.intro) hs ⟨q,hq⟩ ⟨hl,hd,_,(rel.put k eb rv).keeps fun c ys ec=>?_,q,es,ep,hq,h2,h3,h4,h5⟩;rw[av (Li ec e (fun z=>nomatch z))];exact ec
end
section
variable {X:Cx}{pins:Xu}{σ:St}{H:Hp}{s:Shared}{a:Addr}{kvs:List (Key×V)}{k:Key}{u:Value}{A:Around}{E:Xs}
end
noncomputable def PV (ty td:TE):TE:=fun σ H Q=>ty σ H fun y H1=>td σ H1 fun x H2=>∃a o,x = .ref a/\Jd H2 a y o/\Q (.bl o.isSome) H2
noncomputable def DH (ty td:TE):TE:=fun σ H Q=>ty σ H fun y H1=>td σ H1 fun x H2=>∃a o,x = .ref a/\Jd H2 a y o/\Q (.bl (!o.isSome)) H2
noncomputable def Lp (td ty tv:TE):TS:=fun D σ H=>tv σ H fun v H1=>td σ H1 fun x H2=>ty σ H2 fun y H3=>∃a H4,x = .ref a/\N5 H3 a y v H4/\D.nx σ H4
section
variable {X:Cx}{o i e value:Expr}{pos pos' tpos:Pos}{td ty tv:TE}
def Hk (hu:X.A.units+1<cLine)(hi:PE X i ty)(ho:PE X o td):PC X .In i o (PV ty td):=by intro pins s σ H Q I h;refine thn (hi pins s σ H _ I h) fun iv s1 ⟨y,H1,I1,ry,q1⟩=>thn (ho pins s1 σ H1 _ I1 q1) fun u s2 hpt9=>?_;obtain⟨x,H2,I2,rx,a,ov,ex,g,q2⟩:=hpt9;subst ex;obtain rfl:u=Value.ref a:=rx;exact Qy hu I2 g ry fun s3 I3=>⟨.bl ov.isSome,H2,I3,rfl,q2⟩
def wE (hu:X.A.units+1<cLine)(hi:PE X i ty)(ho:PE X o td):PC X .NotIn i o (DH ty td):=by intro pins s σ H Q I h;refine thn (hi pins s σ H _ I h) fun iv s1 ⟨y,H1,I1,ry,q1⟩=>thn (ho pins s1 σ H1 _ I1 q1) fun u s2 hpt9=>?_;obtain⟨x,H2,I2,rx,a,ov,ex,g,q2⟩:=hpt9;subst ex;obtain rfl:u=Value.ref a:=rx;exact Ju hu I2 g ry fun s3 I3=>⟨.bl (!ov.isSome),H2,I3,rfl,q2⟩
def Kp (hu:X.A.units+1<cLine)(ho:PE X o td)(hi:PE X i ty)(hv:PE X value tv)(hs:swapsWith value (some (.Subscript o i pos')) pos.line X.env=pure false) :
  PS X (.Assign [.Subscript o i pos'] value pos) (Lp td ty tv):=by
 intro pins s σ H D I h;refine wpAny_Assign_Subscript (thn (hv pins s σ H _ I h) fun r s1 ⟨v,H1,I1,rv,q1⟩=>thn (ho pins s1 σ H1 _ I1 q1) fun u s2 ⟨x,H2,I2,rx,q2⟩=>thn (hi pins s2 σ H2 _ I2 q2) fun iv s3 hpt9=>?_) hs;obtain⟨y,H3,I3,ry,a,H4,ex,g,q3⟩:=hpt9;subst ex;obtain rfl:u=Value.ref a:=rx;exact Ef hu I3 g ry rv fun s4 I4=>⟨σ,H4,I4,q3⟩
end
def Gq    (h:Heap)(hb:sysModules<h.objs.size):ObjOk P w H (h.push { cls:=.type "dict",data:=.dict #[] }) h.objs.size (.dT []):=
 ⟨T9 _,Wb.mpr (T3 (T2 hb)),[],.nil,_,#[],0,T8 _ rfl,⟨rfl,rfl,rfl⟩,rfl,rfl,List.nodup_nil⟩
noncomputable def IA:TE:=fun _ H Q=>∀p,H p=none->Q (.ref p) (upd H p (.dT []))
section
variable {X:Cx}{pos:Pos}
def Hl:PE X (.Dict [] [] pos) IA:=fun pins s σ H Q I h=>
 wpAny_Dict_empty ⟨.ref s.heap.objs.size,_,I.laid (a:=s.heap.objs.size) (o:=.dT []) (t':=s.toks) (fun _ _ q=>TU _ q) (TB _) (Gq s.heap I.big),rfl,h _ (I.hok.fresh (TB _))⟩
end
section
variable {X:Cx}{pins:Xu}{σ:St}{H:Hp}{s:Shared}{a:Addr}{y d:V}{u r:Value}{o:Option V}{A:Around}{E:Xs}
end
section
variable {X:Cx}{o e f:Expr}{apos cpos:Pos}{td ty tx:TE}
end
end L2
namespace PySem
namespace DX
section
variable {prog:Program}{w:World}{A:Around}{E:Xs}{s:Shared}{a:Addr}{its:Array Value}{n:Nat}{α:Type}
end
end DX
end PySem
namespace L2
open PySem PySem.Spec PyProof.Rows
section
variable {X:Cx}{pins:Xu}{σ:St}{H:Hp}{s:Shared}{a b:Addr}{kvs:List (List Key×V)}{k:List Key}{v:V}{r:Value}{A:Around}{E:Xs}
end
section
variable {X:Cx}{pins:Xu}{σ:St}{A:Around}{a l it:Addr}{xs:Xo}
end
def un1 {A:Around}(h:A.units+64<cLine):A.units+1<cLine:=UT (Nat.add_le_add_left (by decide) _) h
end L2
namespace M
open PySem L2
section
variable {K:Xy}{S S' H H':Hp}
def NL {l:Xq}  (h:Den K S (.tup l) v):∃p xs,v = .ref p/\S p=some (.tup xs)/\Dens K S l xs:=by obtain⟨p,xs,e,h1,h2⟩:=den_tup.mp h;exact⟨p,xs,e,h1,h2⟩
noncomputable def kyD:D->Option (XD)
 |.tup l=>aQ l
 |_=>none
noncomputable abbrev kI (k:XD):List Key:=k.map Sum.inl
def Mp (k:XD):(kI k).map kV=k.map V.int:=by rw[T5];rfl
def Mq  (h:kI a=kI b):a=b:=by
 induction a generalizing b with
 |nil=>cases b with
  |nil=>rfl
  |cons _ _=>cases h
 |cons x a ih=>cases b with
  |nil=>cases h
  |cons y b=>
   injection h with h1 h2
   injection h1 with h1
   rw[h1,ih h2]
def BC  {k:XD}  (h:Den K S d v)(e:kyD d=some k):∃p,v = .ref p/\S p=some (.tup ((kI k).map kV)):=by
 cases d<;>try (cases e;done)
 obtain⟨p,xs,rfl,h1,h2⟩:=NL h;obtain⟨rfl,_⟩:=gC h2 e;exact⟨p,rfl,by rw[Mp];exact h1⟩
theorem oT (q:XD):∀ks:XC,(lX (bW ks) (kI q)).isSome=ks.contains q
 |[]=>rfl
 |k::ks=>by
  have ih:=oT q ks;by_cases h:k=q
  ·subst h;show (lX ((kI k,V.bl true)::bW ks) (kI k)).isSome=_;rw[oQ rfl];simp
  ·show (lX ((kI k,V.bl true)::bW ks) (kI q)).isSome=_;rw[oP (fun z=>h (Mq z)),ih];rw[List.contains_cons];have:(q==k)=false:=by simpa using fun z=>h z.symm
   rw[this,Bool.false_or]
noncomputable def yF (ks:XC)(q:XD):XC:=if ks.contains q then ks else ks++[q]
def Go (a b:XC):bW (a++b)=bW a++bW b:=by unfold bW;rw[Ub]
def Ks (ks:XC)(q:XD):oB (bW ks) (kI q) (.bl true)=bW (yF ks q):=by
 unfold yF;cases h:ks.contains q with
 |false=>
  have hv:lX (bW ks) (kI q)=none:=by
   have:=oT q ks;rw[h] at this;cases z:lX (bW ks) (kI q) with
   |none=>rfl
   |some _=>rw[z] at this;cases this
  rw[HC _ hv,Tr (by decide),Go];rfl
 |true=>
  rw[Ts rfl];have ha:((bW ks).any fun kv=>decide (kv.1=kI q))=true:=by rw[oO,oT,h]
  unfold oB;rw[Ts ha];unfold bW;rw[T5];refine Wr fun k _=>?_;show (if kI k=kI q then (kI k,V.bl true) else (kI k,V.bl true))=_;split<;>rfl
def nZ (ks:XC):(bW ks).length=ks.length:=Tw _
@[simp] noncomputable def Sd (k:XE):Env->Option O:=fun ρ=>(k ρ).bind fun d=>(kyD d).map fun q=>.dic [q]
@[simp] noncomputable def DP:Env->Option O:=fun _=>some (.dic [])
def Nb:STr K IA DP:=fun ρ σ S H Q o r x c=>by cases x;intro p hp;exact c (.ref p) [p] S _ (Ext.own r.sub hp) (own_dic.mpr ⟨p,rfl,rfl,ar⟩) (Uk.mpr ⟨by simp,List.nodup_nil⟩) fun c' hc=>by rw[Tv.mp hc];exact⟨hp,r.sub.free hp⟩
noncomputable def jU (ρ:Env)(i:Nat):Option (XC):=match ρ[i]? with
 |some (.ow (.dic ks))=>some ks
 |some (.sh (.dic ks))=>some ks
 |some (.sh (.dif ks))=>some ks
 |some (.ow (.hd _ ks []))=>some ks
 |_=>none
def Bg   {i:Nat}{ks:XC}(r:Rl K ρ σ S H)(h:jU ρ i=some ks):∃a,σ[i]?=some (some (.ref a))/\Rd H a (.dT (bW ks)):=by
 unfold jU at h;split at h
 ·rename_i ks' q;cases h;obtain⟨v,fp,e,ow,_⟩:=r.ow i _ q;obtain⟨a,rfl,_,ha⟩:=own_dic.mp ow;exact⟨a,e,.inl ha⟩
 ·rename_i ks' q;cases h;obtain⟨v,e,dv⟩:=r.sh i _ q;obtain⟨a,rfl,ha⟩:=den_dic.mp dv;exact⟨a,e,cR r.sub ha⟩
 ·rename_i ks' q;cases h;obtain⟨v,e,dv⟩:=r.sh i _ q;obtain⟨a,o,rfl,ha⟩:=den_dif.mp dv;exact⟨a,e,.inr ⟨o,r.sub _ _ ha⟩⟩
 ·rename_i p ks' q;cases h;obtain⟨v,fp,e,ow,_⟩:=r.ow i _ q;obtain⟨xs,f,rfl,_,ha,ho⟩:=own_hd.mp ow;rw[ho.nil_of.1] at e;exact⟨p,e,.inl ha⟩
 ·cases h
@[simp] noncomputable def yo (neg:Bool)(k:XE)(i:Nat):XE:=fun ρ=>(k ρ).bind fun d=>(kyD d).bind fun q=>(jU ρ i).map fun ks=>.bl (if neg then !(ks.contains q) else ks.contains q)
def An {tk:TE}  {i:Nat}(h:SE K tk k):SE K (DH tk (jm i)) (yo true k i):=fun ρ σ S H Q g r x c=>by
 unfold yo at x;cases qk:k ρ with
 |none=>rw[qk] at x;cases x
 |some d=>
  rw[qk] at x;dsimp only[Option.bind] at x;cases qd:kyD d with
  |none=>rw[qd] at x;cases x
  |some q=>
   rw[qd] at x;dsimp only at x;cases qi:jU ρ i with
   |none=>rw[qi] at x;cases x
   |some ks=>rw[qi] at x;cases x;refine h ρ σ S H _ d r qk fun v S1 H1 z1 d1=>?_;obtain⟨b,rfl,hb⟩:=BC d1 qd;obtain⟨a,e1,ha⟩:=Bg (r.ext z1) qi;refine⟨.ref a,e1,a,_,rfl,.inr ⟨_,kI q,b,ha,rfl,z1.sub b _ hb,rfl⟩,c _ S1 H1 z1 ?_⟩;rw[oT];exact den_bl.mpr rfl
def Lq {tk:TE}  {i:Nat}(h:SE K tk k):SE K (PV tk (jm i)) (yo false k i):=fun ρ σ S H Q g r x c=>by
 unfold yo at x;cases qk:k ρ with
 |none=>rw[qk] at x;cases x
 |some d=>
  rw[qk] at x;dsimp only[Option.bind] at x;cases qd:kyD d with
  |none=>rw[qd] at x;cases x
  |some q=>
   rw[qd] at x;dsimp only at x;cases qi:jU ρ i with
   |none=>rw[qi] at x;cases x
   |some ks=>rw[qi] at x;cases x;refine h ρ σ S H _ d r qk fun v S1 H1 z1 d1=>?_;obtain⟨b,rfl,hb⟩:=BC d1 qd;obtain⟨a,e1,ha⟩:=Bg (r.ext z1) qi;refine⟨.ref a,e1,a,_,rfl,.inr ⟨_,kI q,b,ha,rfl,z1.sub b _ hb,rfl⟩,c _ S1 H1 z1 ?_⟩;rw[oT];exact den_bl.mpr rfl
theorem RlF.dic      {i:Nat}{ks:XC}(f:RlF K A Λ Φ ρ σ S H)(h:ρ[i]?=some (.ow (.dic ks))) :
  ∃a,σ[i]?=some (some (.ref a))/\H a=some (.dT (bW ks))/\∀ks',RlA K A Λ (ρ.set i (.ow (.dic ks'))) σ S (upd H a (.dT (bW ks'))):=by
 obtain⟨v,ev,ow,nd,n⟩:=f.ow i _ h;obtain⟨a,rfl,hfp,ha⟩:=own_dic.mp ow;have ain:a∈Φ i:=by rw[hfp];exact TD
 refine⟨a,ev,ha,fun ks'=>?_⟩;have ne:∀b,b≠a->upd H a (.dT (bW ks')) b=H b:=fun b hb=>av hb;have sub':Same S (upd H a (.dT (bW ks'))):=fun b u e=>by rw[ne b fun z=>by subst z;rw[(n b ain).1] at e;cases e];exact f.sub b u e
 have asub':Same A (upd H a (.dT (bW ks'))):=fun b u e=>by rw[ne b fun z=>by subst z;rw[(n b ain).2] at e;cases e];exact f.asub b u e
 have fin:=f.put (H':=upd H a (.dT (bW ks'))) i sub' asub' (own_dic.mpr ⟨a,rfl,rfl,ar⟩) (Uk.mpr ⟨by simp,List.nodup_nil⟩) (fun b hb=>by rw[Tv.mp hb];exact n a ain) fun j o' hj e1 b hb=>by have nb:b∉Φ i:=fun z=>f.dj j i o' _ hj e1 h b hb z;exact⟨ne b fun z=>nb (z▸ain),fun z=>nb (by rw[Tv.mp z];exact ain)⟩
 rw[uA ev] at fin;exact⟨_,fin⟩
@[simp] noncomputable def AQ (i:Nat)(k:XE):XS:=fun ρ=>match ρ[i]? with
 |some (.ow (.dic ks))=>(k ρ).bind fun d=>(kyD d).bind fun q=>if ks.length<LIM then some (.nx (ρ.set i (.ow (.dic (yF ks q))))) else none
 |_=>none
def Nn {tk:TE}  {i:Nat}(h:SE K tk k):SS K (Lp (jm i) tk (tC (.bl true))) (AQ i k):=fun A Λ ρ σ S H E o r x c=>by
 unfold AQ at x;split at x<;>try (cases x;done)
 rename_i ks q0;cases qk:k ρ with
 |none=>rw[qk] at x;cases x
 |some d=>
  rw[qk] at x;dsimp only[Option.bind] at x;cases qd:kyD d with
  |none=>rw[qd] at x;cases x
  |some q=>
   rw[qd] at x;dsimp only at x;split at x<;>try (cases x;done)
   rename_i hl;cases x;obtain⟨Φ,f⟩:=r;obtain⟨a,ev,_,_⟩:=f.dic q0;refine⟨.ref a,ev,h ρ σ S H _ d ⟨A,Λ,Φ,f⟩ qk fun v S1 H1 z1 d1=>?_⟩;obtain⟨b,rfl,hb⟩:=BC d1 qd;obtain⟨a',ev',ha,up⟩:=(f.ext z1).dic q0;rw[ev] at ev';cases ev';refine⟨a,_,rfl,.inr ⟨_,kI q,b,ha,rfl,z1.sub b _ hb,?_,rfl⟩,?_⟩
   ·rw[nZ];exact Nat.lt_trans hl g7
   ·rw[Ks];exact c σ S1 _ (up _) z1.sh
noncomputable def BS:Xq->Option (XC)
 |[]=>some []
 |.tup [d,.bl true]::l=>(kyD d).bind fun q=>(BS l).map fun qs=>q::qs
 |_=>none
@[simp] noncomputable def Sv (i:Nat)(e:XA):XS:=fun ρ=>match ρ[i]? with
 |some (.ow (.dic ks))=>(e ρ).bind fun l=>(BS l).bind fun qs=>if ks.length+l.length<LIM then some (.nx (ρ.set i (.ow (.dic (qs.foldl yF ks))))) else none
 |_=>none
def PL   (h:SE K t e):ST K (tB t) (xB e):=fun ρ σ S H Q b r x c=>by
 unfold xB at x;cases q:e ρ with
 |none=>rw[q] at x;cases x
 |some d=>
  rw[q] at x;cases d<;>try (cases x;done)
  cases x;refine h ρ σ S H _ _ r q fun v S1 H1 z1 d1=>?_;exact⟨_,den_bl.mp d1,c S1 H1 z1⟩
end
end M
namespace L2
open PySem PySem.Spec PyProof.Rows M
section
variable {X:Cx}
end
end L2
namespace M
open PySem L2
section
variable {K:Xy}
end
end M
namespace L2
open PySem PySem.Spec PyProof.Rows
noncomputable def LC (a c:Int)(n:Nat):It:=⟨fun i _=>i<n,fun i H x H'=>H'=H/\x = .int (a+i * c),fun i _=>n<=i⟩
noncomputable def Lb (ta:TA):TI:=fun σ H R=>ta σ H fun vs H1=>∃a j c:Int,vs=[.int a,.int j,.int c]/\c≠0/\(-1000000<c/\c<1000000)/\Builtin.Range.small a j c=true/\R (LC a c (Builtin.Range.rangeSize a j c).toNat) H1
section
variable {X:Cx}{tg:Expr}
def FA {P:Program}{w:World}{K:Xy}(it:Addr)(a c:Int)(n:Nat):Turn P w K tg (LC a c n) [it] it (fun i h=>IsRangeIter h it (a+(i:Nat) * c) ((n:Int)-(i:Nat)) c) where
 mem:=by simp
 obj:=fun i h st b hb=>by rw[Tv.mp hb];exact⟨_,st,fun v z=>by have z':Data.fields _=Data.cell v:=z;cases z'⟩
 keep:=fun i h h' st k=>k it (by simp) _ st
 item:=by intro X hP hw hK hc i pins s σ H E I hf st hg;subst hP hw hK;obtain⟨f0,f1,f2,f3,f4,f5⟩:=hf it (by simp);refine (Walks.range (prog:=X.prog) (w:=X.w) (I.ok.hd hc) it a c n).item i s _ _ hg st fun v h' tk hv st' kk=>?_;obtain⟨t,rfl⟩:=hv;have I1:Inv X pins σ H { s with heap:=h',toks:=tk }:=I.turned (fun b o hb e=>kk b o (fun z=>hb (Tv.mp z)) e) f0 f1 f3 f4 f5;exact⟨_,rfl,s9 (s:={ s with heap:=h',toks:=tk }) (n := "range_iterator") st' rfl rfl (by decide) ⟨.int (a+i * c),H,I1,⟨t,rfl⟩,⟨rfl,rfl⟩,st',fun b hb=>(hf b hb).1⟩⟩
 done:=by intro X hP hw hK hc i pins s σ H E I hf st hg;subst hP hw hK;obtain⟨f0,f1,f2,f3,f4,f5⟩:=hf it (by simp);exact WV (I.ok.hd hc) st (by have:n<=i:=hg;lia) fun h' eb=>⟨rfl,I.turned (t':=s.toks) (fun b o hb e=>eb b o hb e) f0 f1 f3 f4 f5⟩
 self:=fun _ _ _ _ _ st h=>WW st h
def KO {pins:Xu}    {R:It->Hp->Prop}  {a j c:Int}{t u v:Tok}{tk:Nat}(I:Inv X pins σ H s)(hs:Builtin.Range.small a j c=true)(q:R (LC a c (Builtin.Range.rangeSize a j c).toNat) H) :
  wpAny (model X.prog X.w) X.A (pyIter (.ref s.heap.objs.size)) (PIE X pins σ tg R) E { s with heap:=s.heap.push { cls:=.type "range",data:=.fields #[.int a t,.int j u,.int c v] },toks:=tk }:=by
 refine wpAny_pyIter_range (IsRange.new ..) hs ?_;have I1:Inv X pins σ H { s with heap:=s.heap.push { cls:=.type "range",data:=.fields #[.int a t,.int j u,.int c v] },toks:=tk }:=I.kept fun b o e=>TU _ e;refine⟨(s.heap.push { cls:=.type "range",data:=.fields #[.int a t,.int j u,.int c v] }).objs.size,[(s.heap.push { cls:=.type "range",data:=.fields #[.int a t,.int j u,.int c v] }).objs.size],_,_,H,rfl,I1.kept (t':=tk) fun b o e=>TU _ e,FA _ a c (Builtin.Range.rangeSize a j c).toNat,?_,fun b hb=>?_,q⟩
 ·have e1:a+((0:Nat):Int) * c=a:=by simp
  have e2:(((Builtin.Range.rangeSize a j c).toNat:Nat):Int)-((0:Nat):Int)=Builtin.Range.rangeSize a j c:=by rw[<- rangeSize_toNat];simp
  show IsRangeIter _ _ (a+((0:Nat):Int) * c) ((((Builtin.Range.rangeSize a j c).toNat:Nat):Int)-((0:Nat):Int)) c;rw[e1,e2];exact T8 _ rfl
 ·rw[Tv.mp hb];exact I1.fpOk (TB _) I1.fresh
def E4 {a b c:Expr}{ta:TA}{p pos:Pos}(hg:Gl X "range") (hm:X.mg "range" = none) (ha:PA X [a,b,c] ta) (hs:starEach [a,b,c] X.env=(false,eval a X.env)::starEach [b,c] X.env:=by rfl)
  (hp:(backTo pos (starEach [b,c] X.env)).any (·.1)=false:=by rfl):PI X tg (.Call (.Name "range" p) [a,b,c] [] pos) (Lb ta):=by
 intro pins s σ H R I h;refine Call_ (g6 I hg hm boot_range (VI (thn (ha pos pins s σ H _ I h) fun us s1 h1=>?_) hs hp));obtain⟨vs,H1,I1,r1,x,j,y,rfl,q1,⟨q3,q4⟩,q2,q⟩:=h1;cases r1 with
 |cons r rr=>
  cases rr with
  |cons r' rr=>
   cases rr with
   |cons r'' rr=>cases rr;obtain⟨t,rfl⟩:=r;obtain⟨t',rfl⟩:=r';obtain⟨t'',rfl⟩:=r'';exact call_range_3 q1 (KO I1 q2 q)
end
end L2
namespace M
open PySem L2
section
variable {K:Xy}{S H:Hp}
noncomputable def uL (a c:Int)(n:Nat):Xq:=(List.range n).map fun i:Nat=>D.int (a+(i:Int) * c)
noncomputable def HV:Xq->Option (Xq)
 |[.int a,.int j,.int c]=>ifC (c≠0/\(-1000000<c/\c<1000000)/\Builtin.Range.small a j c=true) (some (uL a c (Builtin.Range.rangeSize a j c).toNat)) none
 |_=>none
@[simp] noncomputable def DR (a:XA):XA:=fun ρ=>(a ρ).bind HV
def Mh   (h:SAP K t a):SI K (Lb t) (DR a):=fun ρ σ S H R l r x k=>by
 unfold DR at x;cases q:a ρ with
 |none=>rw[q] at x;cases x
 |some ds=>
  rw[q] at x;dsimp only[Option.bind] at x;unfold HV at x;split at x
  ·rename_i aa j bb;obtain⟨⟨h1,h3,h2⟩,rfl⟩:=gX x;refine h ρ σ S H _ _ r q fun vs S1 H1 z1 d1=>?_;cases d1 with
   |cons a1 d1=>cases d1 with
    |cons a2 d1=>cases d1 with
     |cons a3 d1=>
      cases d1;refine⟨aa,j,bb,by rw[a1.int,a2.int,a3.int],h1,h3,h2,k _ S1 H1 z1 fun S' H' _ _=>⟨fun i d h=>?_,by unfold uL;rw[Tw,VE];exact TB _⟩⟩;unfold uL at h;rw[TX] at h;cases qi:(List.range (Builtin.Range.rangeSize aa j bb).toNat)[i]? with
      |none=>rw[qi] at h;cases h
      |some i'=>rw[qi] at h;cases h;obtain⟨hi,e⟩:=TR.mp qi;rw[List.getElem_range] at e;subst e;rw[VE] at hi;exact⟨hi,fun x H'' y=>⟨y.1,den_int.mpr y.2⟩⟩
  ·cases x
end
end M
namespace L2
open PySem PySem.Spec PyProof.Rows
section
variable {X:Cx}
end
end L2
namespace M
open PySem L2
section
variable {K:Xy}
noncomputable def OL:D->Option (Xq)
 |.int j=>ifC (0<=j/\j<1000000) (some ((List.range j.toNat).map fun i:Nat=>D.int (i:Int))) none
 |_=>none
@[simp] noncomputable def Ry (a:XE):XA:=fun ρ=>(a ρ).bind OL
end
end M
namespace L2
open PySem PySem.Spec PyProof.Rows
section
variable {X:Cx}{pins:Xu}{σ:List (Option V)}{H H':Hp}{s:Shared}{h':Heap}
end
section
variable {X:Cx}
end
end L2
namespace M
open PySem L2
section
variable {K:Xy}{S S' H H':Hp}
noncomputable def enL (k:Nat):Xq->Xq
 |[]=>[]
 |d::l=>.tup [.int (k:Int),d]::enL (k+1) l
@[simp] noncomputable def Tc (a:XE):XA:=fun ρ=>(a ρ).bind fun d=>match d with|.lst l=>some (enL 0 l)|_=>none
end
end M
namespace L2
open PySem PySem.Spec PyProof.Rows M
section
variable {X:Cx}
end
end L2
namespace M
open PySem L2
section
variable {K:Xy}
end
section
variable {K:Xy}{S S' H H':Hp}
@[simp] noncomputable def Th (i:Nat)(p:XP):XA:=fun ρ=>match ρ[i]? with
 |some (.ow o)=>(p ρ).bind fun is=>match dH o is with|some (.lst l)=>shs l|_=>none
 |_=>none
end
end M
namespace TL
open PySem PyProof.Rows
section
variable {prog:Program}{w:World}{A:Around}{E:Xs}{s:Shared}
end
end TL
namespace L2
open PySem PySem.Spec PyProof.Rows
section
variable {X:Cx}
end
end L2
namespace M
open PySem L2
section
variable {K:Xy}
end
end M
namespace L2
open PySem PySem.Spec PyProof.Rows
section
variable {X:Cx}
end
end L2
namespace M
open PySem L2
section
variable {K:Xy}
end
end M
namespace TL
open PySem PyProof.Rows
section
variable {prog:Program}{w:World}{A:Around}{R:Result->Shared->Prop}{I:Addr}{fp wr:Xz}{n:Nat}{P:Nat->Value->Prop}{St:Nat->Heap->Prop}{h0:Heap}
end
section
variable {prog:Program}{w:World}{A:Around}{E:Xs}{s:Shared}
end
end TL
namespace L2
open PySem PySem.Spec PyProof.Rows
section
variable {X:Cx}
end
end L2
namespace M
open PySem L2
section
variable {K:Xy}
noncomputable def SC:D->D->Xr
 |.tup a,.tup b=>(aQ a).bind fun ns=>(aQ b).bind fun ms=>some (.bl (HT.bM ns ms))
 |_,_=>none
noncomputable def ig:Xq->Option (XC)
 |[]=>some []
 |.tup a::l=>(aQ a).bind fun n=>(ig l).map fun r=>n::r
 |_=>none
theorem wO:∀ {l:Xq} {ts:XC} {i:Nat} {d:D},ig l=some ts->l[i]?=some d->∃a,d = .tup a/\aQ a=some (ts.getD i [])
 |[],_,_,_,_,e=>by simp at e
 |x::l,ts,i,d,q,e=>by
  cases x<;>try (cases q;done)
  rename_i a;change ((aQ a).bind fun n=>(ig l).map fun r=>n::r)=some ts at q;cases q1:aQ a with
  |none=>rw[q1] at q;cases q
  |some n=>
   rw[q1] at q;dsimp only[Option.bind] at q;cases q2:ig l with
   |none=>rw[q2] at q;cases q
   |some r=>
    rw[q2] at q;cases q;cases i with
    |zero=>
     cases e;exact⟨a,rfl,by rw[q1];rfl⟩
    |succ i=>rw[Wn] at e;obtain⟨b,e1,e2⟩:=wO q2 e;exact⟨b,e1,by rw[e2];rfl⟩
end
section
variable {K:Xy}{S S' H H':Hp}
end
section
variable {K:Xy}
@[simp] noncomputable def Rv (f g:D->D->Xr)(a b c:XE):XE:=fun ρ=>(a ρ).bind fun x=>(b ρ).bind fun y=>(f x y).bind fun z=>match z with
 |.bl true=>(c ρ).bind fun w=>g y w
 |.bl false=>some (.bl false)
 |_=>none
end
end M
namespace ST
open PySem PySem.SetTable
noncomputable def it (m:Nat):Nat->Nat->Nat
 |0,i=>i
 |n+1,i=>it m n ((i * 5+1) % (m+1))
theorem xw (m:Nat):∀a b i,it m (a+b) i=it m b (it m a i)
 |0,b,i=>by rw[U7];rfl
 |a+1,b,i=>by rw[Nat.add_right_comm];exact xw m a b _
noncomputable def orb (m:Nat):Nat->Nat->List Nat
 |0,_=>[]
 |n+1,i=>i::orb m n ((i * 5+1) % (m+1))
theorem Dm {m:Nat}:∀ {n i j:Nat},j∈orb m n i->∃k,k<n/\it m k i=j
 |0,_,_,h=>by cases h
 |n+1,i,j,h=>by
  rcases TN.mp h with rfl|h
  ·exact⟨0,VB _,rfl⟩
  ·obtain⟨k,hk,e⟩:=Dm h;exact⟨k+1,Nat.succ_lt_succ hk,e⟩
def Full (m:Nat):Prop:=it m (m+1) 0=0/\((List.range (m+1)).all fun j=>(orb m (m+1) 0).contains j)=true
noncomputable instance (m:Nat):Decidable (Full m):=by unfold Full;infer_instance
def Oy:Full 7:=by decide +kernel
def Ma:Full 31:=by decide +kernel
def JF:Full 127:=by decide +kernel
def JG:Full 511:=by decide +kernel
def Full.reach {m:Nat}(f:Full m){i j:Nat}(hi:i<=m)(hj:j<=m):∃k,k<=m/\it m k i=j:=by
 have h:∀x,x<=m->∃k,k<=m/\it m k 0=x:=fun x hx=>by have:=VX.mp f.2 x (Us.mpr ());obtain⟨k,hk,e⟩:=Dm (W6.mp this);exact⟨k,(),e⟩
 obtain⟨a,ha,rfl⟩:=h i hi;obtain⟨b,hb,rfl⟩:=h j hj;by_cases hab:a<=b
 ·exact⟨b-a,(),by rw[<- xw];congr 1;lia⟩
 ·refine⟨m+1+b-a,(),?_⟩;rw[<- xw,show a+(m+1+b-a)=(m+1)+b by lia,xw,f.1]
noncomputable def blk (m:Nat):Nat->Nat×Nat->Nat×Nat
 |0,x=>x
 |n+1,x=>blk m n (leap m x.1 x.2)
theorem CF (m:Nat):∀a b x,blk m (a+b) x=blk m b (blk m a x)
 |0,b,x=>by rw[U7];rfl
 |a+1,b,x=>by rw[Nat.add_right_comm];exact CF m a b _
theorem yL (m:Nat):∀n i,blk m n (i,0)=(it m n i,0)
 |0,i=>rfl
 |n+1,i=>by show blk m n ((i * 5+1+0 / 32) % (m+1),0 / 32)=_;exact yL m n _
theorem CH (m:Nat):∀n x,(blk m n x).2=x.2 / 32 ^ n
 |0,x=>by rw[Nat.pow_zero,Nat.div_one];rfl
 |n+1,x=>by show (blk m n (leap m x.1 x.2)).2=_;rw[CH m n];show x.2 / 32 / 32 ^ n=_;rw[Nat.div_div_eq_div_mul,Nat.pow_succ,Nat.mul_comm]
theorem CG (m:Nat):∀n x,x.1<=m->(blk m n x).1<=m
 |0,x,h=>h
 |n+1,x,h=>CG m n _ (Ws (V7 _ (VB m)))
def vR {m:Nat}(f:Full m)(x:Nat×Nat)(h1:x.1<=m)(h2:x.2<2 ^ 64){j:Nat}(hj:j<=m):∃n,n<=m+13/\(blk m n x).1=j:=by
 have e:(blk m 13 x).2=0:=by rw[CH];exact Nat.div_eq_of_lt (Ul h2 (by decide))
 obtain⟨k,hk,ek⟩:=f.reach (CG m 13 x h1) hj;refine⟨13+k,(),?_⟩;have e2:blk m 13 x=((blk m 13 x).1,0):=UD rfl e;rw[CF,e2,yL];exact ek
noncomputable def adv (t:SetTable):Nat->Probe->Probe
 |0,p=>p
 |n+1,p=>adv t n (t.advance p)
theorem d6 (t:SetTable):∀a b p,adv t (a+b) p=adv t b (adv t a p)
 |0,b,p=>by rw[U7];rfl
 |a+1,b,p=>by rw[Nat.add_right_comm];exact d6 t a b _
noncomputable def stt (m:Nat)(x:Nat×Nat)(d:Option Nat):Probe:={ j:=x.1,more:=runEnd m x.1-x.1,i:=x.1,perturb:=x.2,dummy:=d }
theorem xc (t:SetTable):∀(r:Nat) (p:Probe),p.more=r->adv t (r+1) p=stt t.mask (leap t.mask p.i p.perturb) p.dummy
 |0,p,h=>by
  show t.advance p=_;unfold advance;rw[Tr ()];rfl
 |r+1,p,h=>by
  show adv t (r+1) (t.advance p)=_;have e:t.advance p={ p with j:=p.j+1,more:=p.more-1 }:=by unfold advance;rw[Ts ()]
  rw[e];exact xc t r _ (by show p.more-1=r;lia)
def AF (m:Nat)(x:Nat×Nat)(d:Option Nat):(stt m x d).more<=9:=by show runEnd m x.1-x.1<=9;unfold runEnd;split<;>lia
theorem CB (t:SetTable)(d:Option Nat):∀n x,∃k,k<=10 * n/\adv t k (stt t.mask x d)=stt t.mask (blk t.mask n x) d
 |0,x=>⟨0,TB _,rfl⟩
 |n+1,x=>by obtain⟨k,hk,e⟩:=CB t d n (leap t.mask x.1 x.2);have h:=AF t.mask x d;refine⟨(stt t.mask x d).more+1+k,(),?_⟩;rw[d6,xc t _ _ rfl];exact e
def Ah {t:SetTable}(f:Full t.mask)(h:Int){j:Nat}(hj:j<=t.mask):∃k,k<10 * turns t.mask/\(adv t k (t.probeStart h)).j=j:=by
 have hb:bits h<2 ^ 64:=by unfold bits;have h1:=Int.emod_nonneg h (b:=(2 ^ 64:Int)) (by decide);have h2:=Int.emod_lt_of_pos h (b:=(2 ^ 64:Int)) (by decide);lia
 obtain⟨n,hn,e⟩:=vR f (bits h % (t.mask+1),bits h) (Ws (V7 _ (VB _))) hb hj;obtain⟨k,hk,e2⟩:=CB t none n (bits h % (t.mask+1),bits h);refine⟨k,by unfold turns;lia,?_⟩;show (adv t k (stt t.mask (bits h % (t.mask+1),bits h) none)).j=j;rw[e2];exact e
def zL {t:SetTable}(hd:t.dummies = #[])(j:Nat):t.slot j ≠ .dummy:=by
 unfold slot;dsimp only;split
 ·exact fun z=>by cases z
 ·rw[Tr (by rw[hd];unfold has;simp)];exact fun z=>by cases z
theorem we {m:Nat}{owner:Array (Option Nat)}{j0:Nat}(h0:owner.getD j0 (some 0)=none):∀(fuel n:Nat) (x:Nat×Nat),n<fuel->(blk m n x).1=j0->∃j,layClean.free m owner fuel x.1 x.2=some j/\owner.getD j (some 0)=none
 |0,_,_,h,_=>()
 |fuel+1,n,x,h,e=>by
  unfold layClean.free;cases q:(List.range (runEnd m x.1+1-x.1)).find? fun k=>(owner.getD (x.1+k) (some 0)).isNone with
  |some k=>
   have:=List.find?_some q;exact⟨x.1+k,rfl,Option.isNone_iff_eq_none.mp this⟩
  |none=>
   cases n with
   |zero=>
    have hx:x.1=j0:=e;have hr:x.1<=runEnd m x.1:=by unfold runEnd;split<;>lia
    have:=WM.mp q 0 (Us.mpr ());rw[Nat.add_zero,hx,h0] at this;exact absurd rfl this
   |succ n=>exact we h0 fuel n (leap m x.1 x.2) () e
noncomputable def liv (m:Nat)(owner:Array (Option Nat)):List (Nat×Nat):=(List.range (m+1)).filterMap fun j=>(owner.getD j none).map (j,·)
def Jo (h:Int):bits h<2 ^ 64:=by unfold bits;have h1:=Int.emod_nonneg h (b:=(2 ^ 64:Int)) (by decide);have h2:=Int.emod_lt_of_pos h (b:=(2 ^ 64:Int)) (by decide);lia
theorem zg {α β:Type}{f g:α->Option β}:∀ {l:List α},(∀x∈l,f x=g x)->l.filterMap f=l.filterMap g
 |[],_=>rfl
 |a::l,h=>by rw[Uq,Uq,h a TD,zg fun x hx=>h x (TJ _ hx)]
theorem zN:∀ {l m:List Nat},l.Nodup->(∀a∈l,a∈m)->l.length<=m.length
 |[],m,_,_=>T9 _
 |a::l,m,h,k=>by obtain⟨h1,h2⟩:=Uk.mp h;have ha:=k a TD;have ih:=zN (m:=m.erase a) h2 fun b hb=>(W7 (fun e=>h1 (by rw[<- e];exact hb))).mpr (k b (TJ _ hb));rw[W8 ha] at ih;have:=List.length_pos_of_mem ha;rw[TF];lia
theorem GB {α β:Type}(f g:α->Option β):∀(l:List α) (j:α),l.Nodup->j∈l->f j=none->(g j).isSome=true->(∀i∈l,i≠j->g i=f i)->(l.filterMap g).length=(l.filterMap f).length+1
 |[],_,_,h,_,_,_=>by cases h
 |i::l,j,nd,h,hf,hg,hs=>by
  obtain⟨n1,n2⟩:=Uk.mp nd;by_cases e:i=j
  ·subst e;obtain⟨b,hb⟩:=WE.mp hg;have:l.filterMap g=l.filterMap f:=zg fun x hx=>hs x (TJ _ hx) fun z=>n1 (z▸hx);rw[Uq,Uq,hf,hb,this];rfl
  ·have hj:j∈l:=(TN.mp h).resolve_left (T3 e);have ih:=GB f g l j n2 hj hf hg fun x hx=>hs x (TJ _ hx);rw[Uq,Uq,hs i TD e];cases f i with
   |none=>exact ih
   |some b=>rw[TF,TF,ih]
structure LOk (m k:Nat) (owner:Array (Option Nat)):Prop where
 size:owner.size=m+1
 len:(liv m owner).length=k
 lt:∀(j v:Nat),owner.getD j none=some v->v<k
def LOk.empty {m k:Nat}  (o:LOk m k owner)(hk:k<=m):∃j,j<=m/\owner.getD j (some 0)=none:=by
 apply UJ;intro hn;have all:∀j∈List.range (m+1),((owner.getD j none).map (j,·)).isSome=true:=fun j hj=>by
  have hj':=Us.mp hj;cases q:owner.getD j none with
  |some v=>rfl
  |none=>have hs:=o.size;refine absurd ⟨j,(),?_⟩ hn;simp[Array.getD,hs,hj'] at q ⊢;exact q
 have:(liv m owner).length=m+1:=by
  unfold liv;have key:∀l:List Nat,(∀j∈l,((owner.getD j none).map (j,·)).isSome=true)->(l.filterMap fun j=>(owner.getD j none).map (j,·)).length=l.length:=by
   intro l;induction l with
   |nil=>intro _;rfl
   |cons a l ih=>intro h;obtain⟨b,hb⟩:=WE.mp (h a TD);rw[Uq,hb,TF,TF,ih fun j hj=>h j (TJ _ hj)]
  rw[key _ all,VE]
 have:=o.len;lia
def LOk.set {m k:Nat}  (o:LOk m k owner){j:Nat}(h:owner.getD j (some 0)=none):LOk m (k+1) (owner.setIfInBounds j (some k)):=by
 have hs:=o.size;have hj:j<m+1:=by apply UJ;intro hn;simp[Array.getD,hs,hn] at h
 have gd:∀i,(owner.setIfInBounds j (some k)).getD i none=if i=j then some k else owner.getD i none:=fun i=>by
  by_cases e:i=j
  ·subst e;simp[Array.getD,hs,hj]
  ·rw[Tr e];rw[WN,WN,Array.getElem?_setIfInBounds_ne (T3 e)]
 have hj0:owner.getD j none=none:=by simp[Array.getD,hs,hj] at h ⊢;exact h
 refine⟨by rw[Array.size_setIfInBounds];exact hs,?_,fun i v hv=>?_⟩
 ·unfold liv;rw[GB (fun i=>(owner.getD i none).map (i,·)) _ _ j WO (Us.mpr hj) (by rw[hj0];rfl) (by rw[gd,Ts rfl];rfl) fun i _ hi=>by rw[gd,Tr hi]];have:=o.len;unfold liv at this;lia
 ·rw[gd] at hv;split at hv
  ·cases hv;lia
  ·have:=o.lt i v hv;lia
def Cb {t:SetTable}(hd:t.dummies = #[])(h:t.place.size<=t.mask):∃j,j<=t.mask/\t.slot j = .empty:=by
 apply UJ;intro hn;have all:∀j,j<=t.mask->t.place[below t.place j]?=some j:=fun j hj=>by apply UJ;intro hx;refine hn ⟨j,hj,?_⟩;unfold slot;dsimp only;rw[Tr (by simpa using hx),Tr (by rw[hd];unfold has;simp)]
 have inj:∀l:List Nat,l.Nodup->(∀j∈l,j<=t.mask)->l.length<=t.place.size:=fun l nd hl=>by
  have h1:(l.map (below t.place)).Nodup:=by rw[Wt] at nd;rw[Wt,Ur];refine List.Pairwise.imp_of_mem ?_ nd;intro a b ha hb hab e;have e1:=all a (hl a ha);have e2:=all b (hl b hb);rw[e,e2] at e1;cases e1;exact hab rfl
  have h2:∀x∈l.map (below t.place),x∈List.range t.place.size:=fun x hx=>by obtain⟨j,hj,rfl⟩:=TC.mp hx;exact Us.mpr (Vc.mp (all j (hl j hj))).1
  have:=zN h1 h2;simpa using this
 have:=inj (List.range (t.mask+1)) WO fun j hj=>by have:=Us.mp hj;lia
 rw[VE] at this;lia
def md {α:Type}(xs:Array α)(p:Nat)(x:α):(insertAt xs p x).size=xs.size+1:=by unfold insertAt;rw[Array.size_append,Array.size_push,Wu,Wu];lia
theorem vK (t:SetTable):∀n p,(adv t n p).dummy=p.dummy
 |0,_=>rfl
 |n+1,p=>by show (adv t n (t.advance p)).dummy=_;rw[vK t n];unfold advance;split<;>rfl
def J4 {t:SetTable}{j i:Nat}(h:t.slot j = .live i):i<t.place.size:=by
 unfold slot at h;dsimp only at h;split at h
 ·rename_i q;cases h;have:=eq_of_beq q;exact (Vc.mp this).1
 ·split at h<;>cases h
def stored {es:Array (Int×Value)}{f:Int×Value->Bool}{y:Value}(h:y∈(es.filter f).toList.map (·.2)):∃(i:Nat) (h':Int),es[i]?=some (h',y):=by
 obtain⟨⟨h',y'⟩,he,rfl⟩:=TC.mp h;have he':((h',y'):Int×Value)∈es.filter f:=by simpa using he
 have:=(Array.mem_filter.mp he').1;obtain⟨i,hi,e⟩:=Array.mem_iff_getElem.mp this;exact⟨i,h',by rw[Uo hi,e]⟩
section
variable {prog:Program}{w:World}{A:Around}{E:Xs}{s:Shared}
end
def Msk (m:Nat):Prop:=m=7\/m=31\/m=127\/m=511
def Msk.full {m:Nat}(h:Msk m):Full m:=by
 rcases h with rfl|rfl|rfl|rfl
 ·exact Oy
 ·exact Ma
 ·exact JF
 ·exact JG
def Msk.le {m:Nat}(h:Msk m):m<=511:=by rcases h with rfl|rfl|rfl|rfl<;>decide
def Msk.odd {t:SetTable}(h:Msk t.mask):t.gaveWay=false:=by unfold SetTable.gaveWay;rcases h with h|h|h|h<;>rw[h]<;>rfl
structure TOk (n:Nat) (t:SetTable):Prop where
 msk:Msk t.mask
 pl:t.place.size=n
 dm:t.dummies = #[]
theorem TOk.fits {n:Nat}  (o:TOk n t)(h:n<=t.mask):t.fits n=true:=by unfold SetTable.fits SetTable.fill;rw[o.dm,o.pl];simp[h]
def QB {m n:Nat}(h:Msk m)(h1:n * 5<m * 3)(h2:m * 3<=(n+1) * 5)(hn:n<300):Msk (sizeAbove (grown (n+1))-1)/\(n+1) * 5<(sizeAbove (grown (n+1))-1) * 3/\sizeAbove (grown (n+1))<=512:=by
 rcases h with rfl|rfl|rfl|rfl
 ·have:n=4:=()
  subst this;exact⟨.inr (.inl (by decide +kernel)),by decide +kernel,by decide +kernel⟩
 ·have:n=18:=()
  subst this;exact⟨.inr (.inr (.inl (by decide +kernel))),by decide +kernel,by decide +kernel⟩
 ·have:n=76:=()
  subst this;exact⟨.inr (.inr (.inr (by decide +kernel))),by decide +kernel,by decide +kernel⟩
 ·lia
section
variable {prog:Program}{w:World}{A:Around}{E:Xs}{s:Shared}
end
end ST
namespace ST
open PySem PySem.SetTable PyProof.Rows
section
variable {prog:Program}{w:World}{A:Around}{E:Xs}{s:Shared}
def Et {a:Addr}{xs:Array Value}{ns:XD}{Q:Bool->Shared->Prop}(hx:IsTup s.heap a xs)(hi:IntsAre xs.toList ns)(h:Q true s):wpAny (model prog w) A (hashByValue 8 (.ref a)) Q E s:=by
 have hT:s.TypeIs (.ref a) "tuple" := hx.typeIs;obtain⟨o,ho,_,n,hd⟩:=hx;show wpAny _ _ (hashByValue (7+1) (.ref a)) _ _ _;unfold hashByValue;refine Tq (Wo hT PySem.F.slot_tuple_hash.lookup ?_);show wpAny _ _ (seqItems? (.ref a) >>= _) _ _ s;refine Tq (wpAny_seqItems ho hd ?_);refine Tq ?_;show wpAny _ _ (forIn xs _ _) _ _ s;rw[<- Array.forIn_toList];refine wpAny_forIn_list _ (fun rest r s'=>r.1=none/\s'=s/\∃ms,IntsAre rest ms) _ ?_ ?_ _ _ ⟨rfl,rfl,ns,hi⟩
 ·rintro v rest r s' ⟨hr,rfl,ms,hm⟩;cases hm with
  |cons k t hm'=>have e:hashByValue 7 (.int k t)=pure true:=rfl;rw[e];refine Tq (Tt ?_);simp only[V5,Uu,Uf];exact Tt ⟨rfl,rfl,_,hm'⟩
 ·rintro⟨r1,r2⟩ s' ⟨hr,rfl,_⟩;simp only at hr;subst hr;exact Tt h
def wB {a:Addr}{xs:Array Value}{ns:XD}{Q:Bool->Shared->Prop}(hx:IsTup s.heap a xs)(hi:IntsAre xs.toList ns)(h:Q false s):wpAny (model prog w) A (ofAClassStatement 8 (.ref a)) Q E s:=by
 obtain⟨o,ho,hc,n,hd⟩:=hx;show wpAny _ _ (ofAClassStatement (7+1) (.ref a)) _ _ _;unfold ofAClassStatement;refine Tq (wpAny_typeOf_ref ho ?_);rw[hc];simp only[beq_self_eq_true,UE,V5,Uu,Uf,pure_bind];refine Tq (wpAny_seqItems ho hd ?_);dsimp only;refine Tq ?_;show wpAny _ _ (forIn xs _ _) _ _ s;rw[<- Array.forIn_toList];refine wpAny_forIn_list _ (fun rest r s'=>r.1=none/\s'=s/\∃ms,IntsAre rest ms) _ ?_ ?_ _ _ ⟨rfl,rfl,ns,hi⟩
 ·rintro v rest r s' ⟨hr,rfl,ms,hm⟩;cases hm with
  |cons k t hm'=>have e:ofAClassStatement 7 (.int k t)=pure false:=rfl;rw[e];refine Tq (Tt ?_);simp only[Uu,Uf];exact Tt ⟨rfl,rfl,_,hm'⟩
 ·rintro⟨r1,r2⟩ s' ⟨hr,rfl,_⟩;simp only at hr;subst hr;exact Tt h
theorem qG:∀ {vs:Xw} {ns:XD},IntsAre vs ns->ItemsAre (intKind prog w) ns vs
 |_,_,.nil=>.nil
 |_,_,.cons n t h=>.cons (intKind_is _ _ _ _) (qG h)
def fV {a:Addr}{xs:Array Value}{ns:XD}(hx:IsTup s.heap a xs)(hi:IntsAre xs.toList ns):IsTupleKey (intKind prog w) s.heap ns a:=by obtain⟨o,ho,hc,n,hd⟩:=hx;exact⟨o,xs,n,ho,hc,hd,qG hi⟩
def B8 {r:Addr}{xs:Array Value}{ns:XD}{Q:Bool->Shared->Prop}(hx:IsTup s.heap r xs)(hi:IntsAre xs.toList ns)(l:Xw)(hl:∀y∈l,∃b ys ms,y = .ref b/\IsTup s.heap b ys/\IntsAre ys.toList ms)(h:Q false s):wpAny (model prog w) A (searchCouldBeSeen (.ref r) l) Q E s:=by
 unfold searchCouldBeSeen;refine Tq ?_;refine wpAny_forIn_list _ (fun rest r' s'=>r'.1=none/\s'=s/\∀y∈rest,∃b ys ms,y = .ref b/\IsTup s.heap b ys/\IntsAre ys.toList ms) _ ?_ ?_ _ _ ⟨rfl,rfl,hl⟩
 ·rintro y rest r' s' ⟨hr,rfl,hall⟩;obtain⟨b,ys,ms,rfl,hy,hj⟩:=hall y TD;have hrest:=fun u hu=>hall u (TJ _ hu);dsimp only;split
  ·exact Tt ⟨rfl,rfl,hrest⟩
  ·refine Tq (wpAny_eqIsQuiet_tuple (fV hx hi) ?_);simp only[V5,Uu,Uf];refine Tq (wpAny_eqIsQuiet_tuple (fV hy hj) ?_);simp only[V5,Uu,Uf];refine Tq (wB hx hi ?_);simp only[Uu,Uf];refine Tq (wB hy hj ?_);simp only[Uu,Uf];exact Tt ⟨rfl,rfl,hrest⟩
 ·rintro⟨r1,r2⟩ s' ⟨hr,rfl,_⟩;simp only at hr;subst hr;exact Tt h
end
section
variable {prog:Program}{w:World}{A:Around}{E:Xs}{s:Shared}
end
section
variable {prog:Program}{w:World}{A:Around}{R:Result->Shared->Prop}{I:Addr}{fp wr:Xz}{n:Nat}{P:Nat->Value->Prop}{St:Nat->Heap->Prop}{h0:Heap}
end
section
variable {prog:Program}{w:World}{A:Around}{E:Xs}{s:Shared}
end
end ST
namespace L2
open PySem
section
variable {X:Cx}
end
end L2
namespace M
open PySem L2
section
variable {K:Xy}
theorem uR:∀ {l:Xq} {ts:XC},ig l=some ts->ts.length=l.length
 |[],_,q=>by cases q;rfl
 |x::l,ts,q=>by
  cases x<;>try (cases q;done)
  rename_i a;change ((aQ a).bind fun n=>(ig l).map fun r=>n::r)=some ts at q;cases q1:aQ a with
  |none=>rw[q1] at q;cases q
  |some n=>
   rw[q1] at q;dsimp only[Option.bind] at q;cases q2:ig l with
   |none=>rw[q2] at q;cases q
   |some r=>rw[q2] at q;cases q;rw[TF,TF,uR q2]
end
end M
namespace DL
open PySem
section
variable {prog:Program}{w:World}{A:Around}{E:Xs}{s:Shared}
def EL {d:Addr}(hd:(d==sysModules)=false) :
  MeetsIn prog w (Builtin.«dict.__len__» ⟨[.ref d],[]⟩) (fun _ R s=>∃o es ep,s.heap.get? d=some o/\o.data = .dict es ep/\R (.ok (.ret (.int es.size s.toks))) { s with toks:=s.toks+1 }):=
 .of_wp fun A R s hpt0=>by obtain⟨o,es,ep,ho,hdat,h⟩:=hpt0;show wpAny _ _ (dictSize d >>= _) _ _ s;unfold dictSize;refine Tq (Tq (WP ho hdat (Tt ?_)));show wpAny _ _ (Builtin.Dict.pendingCount d >>= _) _ _ s;refine Tq (wpAny_pendingCount_other hd ?_);refine wpAny_ret_mkInt ?_;rw[Nat.add_zero];exact h
def yP {d:Addr}{o:Obj}{es:Array DictEntry}{ep:Nat}{Q:Xs}(hd:(d==sysModules)=false)(ho:s.heap.get? d=some o)(hx:o.ExactDict)(hdat:o.data = .dict es ep)(hfit:(es.size:Int)<2 ^ 63)
  (h:Q (.int es.size (s.toks+1)) { s with toks:=s.toks+1+1 }):wpAny (model prog w) A (call (.builtin "len") [.ref d]) Q E s:=by
 have hT:s.TypeIs (.ref d) "dict" := ⟨o,ho,hx.1⟩
 refine W4 kind_len plain_len entry_len (args_len1 _) ?_;unfold Builtin.«len»;refine Tq (m:=oneArg "len" _) (Tt ?_)
 refine Tq (m:=callSpecial? (.ref d) (Str.ofString "__len__")) (Vj (name:=Str.ofString "__len__") hT F.slot_dict_len
  (call_meetsIn F.slot_dict_len hT F.entry_dict_len (F.args_dict_len_1 _) (EL hd) ⟨o,es,ep,ho,hdat,?_⟩))
 show wpAny _ _ _ _ _ { s with toks:=s.toks+1 };refine Tq (Uw (Tt ?_));refine Tq (wpAny_letGo ?_);show wpAny _ _ (if ((es.size:Nat):Int)<0 then _ else _) _ _ _;rw[Tr ()];show wpAny _ _ (if ((es.size:Nat):Int) ≥ 2 ^ 63 then _ else _) _ _ _;rw[Tr ()];exact Tq (wpAny_mkInt (Tt ⟨_,rfl,h⟩))
end
end DL
namespace L2
open PySem
noncomputable def HJ:Xo->Hp->VK->Prop:=fun xs H Q=>∃a kvs,xs=[V.ref a]/\Rd H a (.dT kvs)/\Q (.int kvs.length) H
section
variable {X:Cx}
def D7:CallR X (.builtin "len") HJ:=by
 intro pins s σ H xs us Q I r h;obtain⟨a,kvs,rfl,ha,q⟩:=h;obtain⟨u,rfl,ru⟩:=r.one;cases ru;obtain⟨z,hd,vs,rel,o,es,ep,h1,h2,h3,h4,h5⟩:=CQ I.hok ha;have hl:es.size=kvs.length:=by have:=T7 List.length h4;rw[Tw,T6] at this;rw[this,VQ rel]
 refine DL.yP hd h1 h2 h3 (by rw[hl];rw[Uj] at z;lia) ?_;rw[hl];exact⟨.int kvs.length,H,I.tok _,⟨_,rfl⟩,q⟩
end
end L2
namespace M
open PySem L2
section
variable {K:Xy}
@[simp] noncomputable def IX (i:Nat):XE:=fun ρ=>(jU ρ i).map fun ks=>.int (ks.length:Nat)
def Nh (i:Nat):SE K (tCB HJ (ie (jm i) p8)) (IX i):=fun ρ σ S H Q g r x c=>by
 unfold IX at x;cases qi:jU ρ i with
 |none=>rw[qi] at x;cases x
 |some ks=>rw[qi] at x;cases x;obtain⟨a,e1,ha⟩:=Bg r qi;refine⟨.ref a,e1,a,_,rfl,ha,c _ S H (Ext.refl r.sub) ?_⟩;rw[nZ];exact den_int.mpr rfl
end
end M
namespace DY
open PySem
section
variable {prog:Program}{w:World}{K:Type}[DecidableEq K]{knd:HeapKind prog w K}{A:Around}{E:Xs}{s:Shared}
def DAt (s:Heap)(d:Addr)(es:Array DictEntry)(ep:Nat):Prop:=∃o,s.get? d=some o/\o.ExactDict/\o.data = .dict es ep
def Ez {d:Addr}{es:Array DictEntry}{ep:Nat}{Q:Xs}(hd:(d==sysModules)=false)(hm:DAt s.heap d es ep)
  (hQ:Q (.ref s.heap.objs.size) { s with heap:=s.heap.push { cls:=.type "dict_keyiterator",data:=.fields #[.ref d,.int 0 0,.int es.size 0,.int ep 0] } }):wpAny (model prog w) A (pyIter (.ref d)) Q E s:=by
 obtain⟨o,ho,hc,hdat⟩:=hm;have hT:s.TypeIs (.ref d) "dict" := ⟨o,ho,hc.1⟩
 refine WL hT F.slot_dict_iter (UF F.slot_dict_iter hT F.entry_dict_iter ?_ (F.args_dict_iter_1 _));unfold Builtin.«dict.__iter__»;refine Tq ?_;unfold Builtin.Dict.dictSlotNone;refine Tq (wpAny_notOrdered_dict hT ?_);show wpAny _ _ (pure (Value.ref d)) _ _ s;refine Tt ?_;show wpAny _ _ (Builtin.Dict.showsAll d >>= _) _ _ s;unfold Builtin.Dict.showsAll;rw[Tr (by rw[hd];exact U0)];refine Tq (Tt (Tq (WP ho hdat (Tq (wpAny_dictEpoch ho hdat (Tq (UB (Tt ⟨_,rfl, "dict_keyiterator",_,⟨_,T8 _ rfl,rfl⟩,Wv.lookup,?_⟩))))))));simpa[rawInt] using hQ
def Hb {it d:Addr}{i ep:Nat}{es:Array DictEntry}{Q:Xx->Shared->Prop}(hit:s.heap.IsKeyIter it d i es.size ep)(hm:DAt s.heap d es ep)(hlt:i<es.size)
  (hQ:∀h',h'.IsKeyIter it d (i+1) es.size ep->Heap.SameBut it s.heap h'->Q (some es[i].key) { s with heap:=h' }):wpAny (model prog w) A (pyNext (.ref it)) Q E s:=by
 obtain⟨o,ho,hc,hd⟩:=id hit;obtain⟨od,hod,hcd,hdd⟩:=hm;unfold pyNext;refine Tq (Vu (Vj (name:=Str.ofString "__next__") hit.typeIs Wv (UF Wv hit.typeIs F.entry_dict_keyiterator_next ?_ (F.args_dict_keyiterator_next_1 _))));refine Tq (Tt (Tq (Tq ?_)));first|refine Tq (WQ hit.typeIs (Tt (Tq (V8 ho hd ?_))))|refine Tq (WR hit.typeIs (Tt (Tq (V8 ho hd ?_))))
 simp only[show Builtin.Dict_items.ownsTuple "dict_keyiterator" = false from by decide,Uu,Uf];show wpAny _ _ (if (Value.ref d==Value.none)=true then _ else _) _ _ s;rw[Tr (show ¬((Value.ref d==Value.none)=true) from U0)];refine Tq (Tt (Tq (WP hod hdd ?_)));rw[Tr (by simp)];refine Tq (Tt (Tq (wpAny_dictEpoch hod hdd ?_)));rw[Tr (by simp)];refine Tt ?_;simp only[show ¬((i:Int)<0) from (),Uf,UY,Uo hlt];refine Tq ?_;first|refine Tq (WQ hit.typeIs (Tt (Tq (W9 hit.typeIs ?_))))|refine Tq (WR hit.typeIs (Tt (Tq (W9 hit.typeIs ?_))))
 show wpAny _ _ (setField (.ref it) 1 (rawInt ((i:Int)+1)) >>= _) _ _ s;refine Tq (VD ho hd (by simp) ?_);have hit':(s.heap.update it (Obj.mapFields (·.setIfInBounds 1 (rawInt ((i:Int)+1))))).IsKeyIter it d (i+1) es.size ep:=⟨_,U1 _ ho (Wp (Vd hd _)),(WK ..).trans hc,by rw[Vd hd];simp[rawInt]⟩
 refine Tq (Uw (Tq (W9 (s:={ s with heap:=s.heap.update it (Obj.mapFields (·.setIfInBounds 1 (rawInt ((i:Int)+1)))) }) hit'.typeIs ?_)));show wpAny _ _ (pure es[i].key) _ _ _;exact Tt (Tt ⟨_,rfl,Tt (hQ _ hit' (V4 ..))⟩)
def t0 {it:Addr}{i ep:Nat}{es:Array DictEntry}{Q:Xx->Shared->Prop}(hh:A.handled=none)(hit:s.heap.IsKeyIter it d i es.size ep)(hm:DAt s.heap d es ep)(hge:es.size<=i)
  (hQ:∀h',Heap.ExtBut it s.heap h'->Q none { s with heap:=h' }):wpAny (model prog w) A (pyNext (.ref it)) Q E s:=by
 obtain⟨o,ho,hc,hd⟩:=id hit;obtain⟨od,hod,hcd,hdd⟩:=hm;unfold pyNext;refine Tq (Vu (Vj (name:=Str.ofString "__next__") hit.typeIs Wv (UF Wv hit.typeIs F.entry_dict_keyiterator_next ?_ (F.args_dict_keyiterator_next_1 _))));refine Tq (Tt (Tq (Tq ?_)));first|refine Tq (WQ hit.typeIs (Tt (Tq (V8 ho hd ?_))))|refine Tq (WR hit.typeIs (Tt (Tq (V8 ho hd ?_))))
 simp only[show Builtin.Dict_items.ownsTuple "dict_keyiterator" = false from by decide,Uu,Uf];show wpAny _ _ (if (Value.ref d==Value.none)=true then _ else _) _ _ s;rw[Tr (show ¬((Value.ref d==Value.none)=true) from U0)];refine Tq (Tt (Tq (WP hod hdd ?_)));rw[Tr (by simp)];refine Tq (Tt (Tq (wpAny_dictEpoch hod hdd ?_)));rw[Tr (by simp)];refine Tt ?_;simp only[show ¬((i:Int)<0) from (),Uf,UY,Xa hge];refine Tq ?_;first|refine Tq (WQ hit.typeIs (Tt ?_))|refine Tq (WR hit.typeIs (Tt ?_)) ; skip
 show wpAny _ _ (setField (.ref it) 0 .none >>= _) _ _ s;refine Tq (VD ho hd (by simp) ?_);show wpAny _ _ (newExc (.type "StopIteration") [] >>= _) _ _ _;refine Tq ?_;simp only[newExc,newTuple];refine Tq (UB ?_ (by size_fits));refine Tq (m:=firstArgMember _ _) (UP (a:=Value.none) (by first|rfl|(simp only[firstArgMember];rfl)) (UB ?_ (by size_fits)));simp only[raiseNew];refine Tq (wpAny_handled ?_);rw[show A.in1.handled=none from hh];refine Tq (Tt (wpAny_throw ?_));refine Tq (Wq (T := "StopIteration") (b:=true) ⟨_,T8 _ rfl,rfl⟩ isSubtype_stop ?_);exact Tt (hQ _ (((V4 ..).extBut.push _).push _))
end
end DY
namespace L2
open PySem PySem.Spec PyProof.Rows
section
variable {X:Cx}{pins:Xu}{σ:St}{H:Hp}{s:Shared}{a b:Addr}{kvs:List (List Key×V)}{k:List Key}{v:V}{A:Around}{E:Xs}
end
section
variable {X:Cx}{pins:Xu}{σ:St}{H:Hp}{s:Shared}{a:Addr}{o:Obj}{kvs:List (List Key×V)}
def L9 (I:Inv X pins σ H s)(e:H a=some (.dT kvs)):∃o,s.heap.get? a=some o/\Inv X pins σ (upd H a (.frz o (.dT kvs))) s:=by
 obtain⟨z,hd,xs,rel,o,es,ep,ho,h2,h3,h4,h5⟩:=(show ObjOk X.prog X.w H s.heap a (.dT kvs) from I.hok a _ e)
 refine⟨o,ho,?_⟩;have:=xi (t':=s.toks) (h':=s.heap) (ob:=.frz o (.dT kvs)) I (by rw[e];exact True.intro) ⟨rfl,fun _ _=>rfl⟩ ⟨o,ho⟩ ⟨ho,z,hd,xs,Paired.mapP rel fun p q y=>⟨y.1,by rw[av (Li y.2.1 e (fun z=>nomatch z))];exact y.2.1,y.2.2⟩,o,es,ep,ho,h2,h3,h4,h5⟩;exact this
end
theorem wD {α β:Type}{F:α->β->Prop}:∀ {l:List α} {m:List β} {i:Nat} {y:β},Paired F l m->m[i]?=some y->∃p,l[i]?=some p/\F p y
 |_,_,_,_,.nil,h=>by simp at h
 |_,_,0,_,.cons r _,h=>by simp at h;subst h;exact⟨_,rfl,r⟩
 |_,_,i+1,_,.cons _ t,h=>by simpa using wD t (by simpa using h)
noncomputable def Itd (a:Addr)(o:Obj)(kvs:List (List Key×V)):It:=
 ⟨fun i H=>H a=some (.frz o (.dT kvs))/\i<kvs.length,fun i H x H'=>H'=H/\∃b k v,kvs[i]?=some (k,v)/\x = .ref b/\H b=some (.tup (k.map kV)),fun i H=>H a=some (.frz o (.dT kvs))/\kvs.length<=i⟩
noncomputable def JM (te:TE):TI:=fun σ H R=>te σ H fun x H1=>∃a o kvs,x = .ref a/\H1 a=some (.frz o (.dT kvs))/\R (Itd a o kvs) H1
def IJ {P:Program}{w:World}{K:Xy}{tg:Expr}{es:Array DictEntry}{ep:Nat}{o:Obj}{kvs:List (List Key×V)}(a it:Addr)(ho:o.data = .dict es ep)(hx:o.ExactDict)(hl:es.size=kvs.length):Turn P w K tg (Itd a o kvs) [it] it (fun i h=>h.IsKeyIter it a i es.size ep) where
 mem:=by simp
 obj:=fun i h st b hb=>by obtain⟨q,e,c,d⟩:=st;rw[Tv.mp hb];exact⟨q,e,fun v z=>by rw[d] at z;cases z⟩
 keep:=fun i h h' st k=>st.at fun o e=>k it (by simp) o e
 item:=by
  intro X hP hw hK hc i pins s σ H E I hf st hg;subst hP hw hK;obtain⟨ea,hi⟩:=hg;obtain⟨g1,z,hd,xs,rel,o',es',ep',h1,h2,h3,h4,h5⟩:=(show ObjOk X.prog X.w H s.heap a (.frz o (.dT kvs)) from I.hok a _ ea)
  rw[g1] at h1;cases h1;rw[ho] at h3;cases h3;obtain⟨f0,f1,f2,f3,f4,f5⟩:=hf it (by simp);have hlt:i<es.size:=by rw[hl];exact hi
  refine DY.Hb st ⟨o,g1,hx,ho⟩ hlt fun h' st' sb=>?_;have I1:Inv X pins σ H { s with heap:=h' }:=I.turned (t':=s.toks) (fun b o hb e=>(sb.2 b hb).trans e) f0 f1 f3 f4 f5;obtain⟨q,e,c,d⟩:=id st';have hxi:es[i]?=(xs[i]?).map (entryOfKey (tupleKind (cn X.prog X.w))):=entry_at h4 i;rw[Uo hlt] at hxi;cases qx:xs[i]? with
  |none=>rw[qx] at hxi;cases hxi
  |some y=>rw[qx] at hxi;have ek:es[i]=entryOfKey (tupleKind (cn X.prog X.w)) y:=Uh hxi;obtain⟨p,qp,r1,r2,r3⟩:=wD rel qx;refine⟨_,rfl,s9 (s:={ s with heap:=h' }) e c d (by decide) ⟨.ref y.2.1,H,I1,?_,⟨rfl,y.2.1,p.1,p.2,qp,rfl,r2⟩,st',fun b hb=>(hf b hb).1⟩⟩;rw[ek];rfl
 done:=by
  intro X hP hw hK hc i pins s σ H E I hf st hg;subst hP hw hK;obtain⟨ea,hi⟩:=hg;obtain⟨g1,_⟩:=(show ObjOk X.prog X.w H s.heap a (.frz o (.dT kvs)) from I.hok a _ ea)
  obtain⟨f0,f1,f2,f3,f4,f5⟩:=hf it (by simp);exact DY.t0 (I.ok.hd hc) st ⟨o,g1,hx,ho⟩ (by rw[hl];exact hi) fun h' eb=>⟨rfl,I.turned (t':=s.toks) (fun b o hb e=>eb b o hb e) f0 f1 f3 f4 f5⟩
 self:=fun _ _ _ _ _ st h=>wpAny_pyIter_keyiter st h
def MS {X:Cx}{tg l:Expr}{tl:TE}(hl:PE X l tl):PI X tg l (JM tl):=by
 intro pins s σ H R I h;refine thn (hl pins s σ H _ I h) fun v s1 h1=>?_;obtain⟨x,H1,I1,r1,a,o,kvs,e,ea,q⟩:=h1;subst e;cases r1;obtain⟨g1,z,hd,xs,rel,o',es,ep,h1,h2,h3,h4,h5⟩:=(show ObjOk X.prog X.w H1 s1.heap a (.frz o (.dT kvs)) from I1.hok a _ ea)
 rw[g1] at h1;cases h1;have hsz:es.size=kvs.length:=by rw[size_of_entries h4,VQ rel]
 refine DY.Ez hd ⟨o,g1,h2,h3⟩ ⟨s1.heap.objs.size,[s1.heap.objs.size],_,_,H1,rfl,I1.kept (t':=s1.toks) fun b o e=>TU _ e,IJ a _ h3 h2 hsz,⟨_,T8 _ rfl,rfl,rfl⟩,fun b hb=>?_,q⟩;rw[Tv.mp hb];exact I1.fpOk (TB _) I1.fresh
end L2
namespace M
open PySem L2
section
variable {K:Xy}{S S' H H':Hp}
mutual
noncomputable def mf:D->Bool
 |.dic _=>false
 |.dif _=>false
 |.lst l=>noDics l
 |.tup l=>noDics l
 |.scr l=>noDics l
 |.mtp l=>noDics l
 |.ins _ _ l=>noDics l
 |_=>true
noncomputable def noDics:Xq->Bool
 |[]=>true
 |d::l=>mf d&&noDics l
end
mutual
theorem Den.less {a:Addr}{o:Obj}{kvs:List (List Key×V)}(hs:∀b,b≠a->S' b=S b)(ha:S a=some (.frz o (.dT kvs))):∀ {d:D} {v:V},mf d=true->Den K S d v->Den K S' d v
 |.dic _,_,n,_=>by unfold mf at n;cases n
 |.dif _,_,n,_=>by unfold mf at n;cases n
 |.non,_,_,h=>by unfold Den at *;exact h
 |.bl _,_,_,h=>by unfold Den at *;exact h
 |.int _,_,_,h=>by unfold Den at *;exact h
 |.str _,_,_,h=>by unfold Den at *;exact h
 |.ty _,_,_,h=>by unfold Den at *;exact h
 |.lst l,_,n,h=>by
  unfold mf at n;obtain⟨p,xs,e,h1,h2⟩:=den_lst.mp h;refine den_lst.mpr ⟨p,xs,e,?_,Dens.less hs ha n h2⟩;rcases h1 with h1|⟨q,h1⟩
  ·exact .inl (by rw[hs p fun z=>by subst z;rw[ha] at h1;cases h1];exact h1)
  ·exact .inr ⟨q,by rw[hs p fun z=>by subst z;rw[ha] at h1;cases h1];exact h1⟩
 |.tup l,_,n,h=>by
  unfold mf at n;obtain⟨p,xs,e,h1,h2⟩:=den_tup.mp h;exact den_tup.mpr ⟨p,xs,e,(show S' p=some (.tup xs) by rw[hs p fun z=>by subst z;rw[show S p=some (.tup xs) from h1] at ha;cases ha];exact h1),Dens.less hs ha n h2⟩
 |.scr l,_,n,h=>by
  unfold mf at n;obtain⟨p,xs,e,h1,h2⟩:=den_scr.mp h;refine den_scr.mpr ⟨p,xs,e,?_,Dens.less hs ha n h2⟩;rcases h1 with (h1|⟨q,h1⟩)|h1
  ·exact .inl (.inl (by rw[hs p fun z=>by subst z;rw[ha] at h1;cases h1];exact h1))
  ·exact .inl (.inr ⟨q,by rw[hs p fun z=>by subst z;rw[ha] at h1;cases h1];exact h1⟩)
  ·exact .inr h1
 |.mtp l,_,n,h=>by
  unfold mf at n;obtain⟨p,xs,e,h1,h2⟩:=den_mtp.mp h;refine den_mtp.mpr ⟨p,xs,e,?_,Dens.less hs ha n h2⟩;rcases h1 with (h1|⟨q,h1⟩)|h1
  ·exact .inl (.inl (by rw[hs p fun z=>by subst z;rw[ha] at h1;cases h1];exact h1))
  ·exact .inl (.inr ⟨q,by rw[hs p fun z=>by subst z;rw[ha] at h1;cases h1];exact h1⟩)
  ·exact .inr h1
 |.ins _ _ l,_,n,h=>by unfold mf at n;obtain⟨p,C,dx,fs,e,h0,h1,h2,h3⟩:=den_ins.mp h;exact den_ins.mpr ⟨p,C,dx,fs,e,h0,by rw[hs p fun z=>by subst z;rw[ha] at h1;cases h1];exact h1,h2,Dens.less hs ha n h3⟩
theorem Dens.less {a:Addr}{o:Obj}{kvs:List (List Key×V)}(hs:∀b,b≠a->S' b=S b)(ha:S a=some (.frz o (.dT kvs))):∀ {ds:Xq} {xs:Xo},noDics ds=true->Dens K S ds xs->Dens K S' ds xs
 |[],_,_,h=>by rw[h.nil_of];exact .nil
 |_::_,_,n,h=>by unfold noDics at n;obtain⟨n1,n2⟩:=Xb.mp n;obtain⟨y,ys,rfl,a,b⟩:=h.cons_of;exact .cons (Den.less hs ha n1 a) (Dens.less hs ha n2 b)
end
noncomputable def ksO:Sl->Option (XC)
 |.ow (.dic ks)=>some ks
 |.ow (.hd _ ks [])=>some ks
 |_=>none
noncomputable def reD (ks:XC):Sl->Sl
 |.ow (.dic _)=>.ow (.dic ks)
 |.ow (.hd p _ [])=>.ow (.hd p ks [])
 |s=>s
@[simp] theorem Qf (ks:XC):ksO (.ow (.dic ks))=some ks:=rfl
@[simp] theorem QD (p:Addr)(ks:XC):ksO (.ow (.hd p ks []))=some ks:=rfl
@[simp] theorem Qk (ks ks':XC):reD ks (.ow (.dic ks')) = .ow (.dic ks):=rfl
@[simp] theorem QM (p:Addr)(ks ks':XC):reD ks (.ow (.hd p ks' [])) = .ow (.hd p ks []):=rfl
def Kc {s:Sl}{ks:XC}(h:ksO s=some ks):∃o,s = .ow o/\(∀S H v fp,Own K S H o v fp->∃a,v = .ref a/\fp=[a]/\H a=some (.dT (bW ks)))/\(∀S H v fp,Own K S H o v fp->∀a,v = .ref a->∀(S' H':Hp) ks',H' a=some (.dT (bW ks'))->∃o',reD ks' s = .ow o'/\Own K S' H' o' (.ref a) [a]):=by
 unfold ksO at h;split at h
 ·cases h;refine⟨_,rfl,fun S H v fp ow=>own_dic.mp ow,fun S H v fp ow a e S' H' ks' hh=>⟨_,rfl,own_dic.mpr ⟨a,rfl,rfl,hh⟩⟩⟩
 ·cases h;refine⟨_,rfl,fun S H v fp ow=>?_,fun S H v fp ow a e S' H' ks' hh=>⟨_,rfl,?_⟩⟩
  ·obtain⟨xs,f,e,e2,h1,h2⟩:=own_hd.mp ow;obtain⟨rfl,rfl⟩:=h2.nil_of;exact⟨_,e,e2,h1⟩
  ·obtain⟨xs,f,e1,e2,h1,h2⟩:=own_hd.mp ow;obtain⟨rfl,rfl⟩:=h2.nil_of;rw[e] at e1;cases e1;exact own_hd.mpr ⟨[],[],rfl,rfl,hh,.nil⟩
 ·cases h
section
variable {A:Hp}{Λ:Nat->Option Addr}{Φ:Nat->Xz}{ρ:Env}{σ:St}{i:Nat}{s:Sl}{ks:XC}
def RlF.dicO (f:RlF K A Λ Φ ρ σ S H)(h:ρ[i]?=some s)(hk:ksO s=some ks):∃a,σ[i]?=some (some (.ref a))/\H a=some (.dT (bW ks))/\S a=none/\A a=none/\(∀(j:Nat) o',j≠i->ρ[j]?=some (.ow o')->a∉Φ j) /\
  ∀ks',RlF K A Λ Φ (ρ.set i (reD ks' s)) σ S (upd H a (.dT (bW ks'))):=by
 obtain⟨o,rfl,w1,w2⟩:=Kc (K:=K) hk;obtain⟨v,ev,ow,nd,n⟩:=f.ow i _ h;obtain⟨a,rfl,hfp,ha⟩:=w1 _ _ _ _ ow;have ain:a∈Φ i:=by rw[hfp];exact TD
 have oth:∀(j:Nat) o',j≠i->ρ[j]?=some (.ow o')->a∉Φ j:=fun j o' hj e1 z=>f.dj j i o' _ hj e1 h a z ain;refine⟨a,ev,ha,(n a ain).1,(n a ain).2,oth,fun ks'=>?_⟩;obtain⟨o2,e2,ow2⟩:=w2 _ _ _ _ ow a rfl S (upd H a (.dT (bW ks'))) ks' ar;rw[e2];have ne:∀b,b≠a->upd H a (.dT (bW ks')) b=H b:=fun b hb=>av hb;have fin:=f.put (H':=upd H a (.dT (bW ks'))) i (fun b u e=>by rw[ne b fun z=>by subst z;rw[(n b ain).1] at e;cases e];exact f.sub b u e) (fun b u e=>by rw[ne b fun z=>by subst z;rw[(n b ain).2] at e;cases e];exact f.asub b u e) ow2 (by simp) (fun b hb=>by rw[Tv.mp hb];exact n a ain) fun j o' hj e1 b hb=>by have nb:b≠a:=fun z=>oth j o' hj e1 (by rw[<- z];exact hb);exact⟨ne b nb,fun z=>nb (Tv.mp z)⟩
 rw[uA ev] at fin;have hΦ:(fun j=>if j=i then [a] else Φ j)=Φ:=by
  funext j
  by_cases hj:j=i
  ·rw[Ts hj,hj,hfp]
  ·rw[Tr hj]
 rw[hΦ] at fin;exact fin
def RlF.melt (f:RlF K A Λ Φ ρ σ S H)(h:ρ[i]?=some s)(hk:ksO s=some ks):∃a,σ[i]?=some (some (.ref a))/\H a=some (.dT (bW ks))/\S a=none /\
  ∀o,RlF K A Λ Φ (ρ.set i (.sh (.dif ks))) σ (upd S a (.frz o (.dT (bW ks)))) (upd H a (.frz o (.dT (bW ks)))):=by
 obtain⟨a,ev,ha,sa,aa,oth,_⟩:=f.dicO h hk;refine⟨a,ev,ha,sa,fun o=>?_⟩;have s1:Same S (upd S a (.frz o (.dT (bW ks)))):=fun b u e=>by rw[av (aP e sa)];exact e
 exact {
  len:=by rw[UW];exact f.len
  sub:=fun b u e=>by
   by_cases hb:b=a
   ·subst hb;rw[ar] at e ⊢;exact e
   ·rw[av hb] at e ⊢;exact f.sub b u e
  sh:=fun j d hj=>by
   rcases aN hj with ⟨rfl,e,_⟩|⟨hij,hj⟩
   ·cases e;exact⟨_,ev,den_dif.mpr ⟨a,o,rfl,ar⟩⟩
   ·obtain⟨v,e1,e2⟩:=f.sh j d hj;exact⟨v,e1,e2.mono s1⟩
  ow:=fun j o' hj=>by
   rcases aN hj with ⟨rfl,e,_⟩|⟨hij,hj⟩
   ·cases e
   ·obtain⟨v,e1,e2,e3,e4⟩:=f.ow j o' hj;have nb:∀b∈Φ j,b≠a:=fun b hb z=>oth j o' (T3 hij) hj (by rw[<- z];exact hb);exact⟨v,e1,e2.mono s1 fun b hb=>av (nb b hb),e3,fun b hb=>⟨by rw[av (nb b hb)];exact (e4 b hb).1,(e4 b hb).2⟩⟩
  dj:=fun j k o1 o2 hjk g1 g2=>by
   rcases aN g1 with ⟨rfl,e,_⟩|⟨_,g1⟩
   ·cases e
   ·rcases aN g2 with ⟨rfl,e,_⟩|⟨_,g2⟩
    ·cases e
    ·exact f.dj j k o1 o2 hjk g1 g2
  lo:=fun j hj=>by
   rcases aN hj with ⟨rfl,e,_⟩|⟨_,hj⟩
   ·cases e
   ·exact f.lo j hj
  asub:=fun b u e=>by rw[av fun z=>by subst z;rw[aa] at e;cases e];exact f.asub b u e
  adis:=fun b=>by
   by_cases hb:b=a
   ·subst hb;exact .inr (.inl aa)
   ·rw[av hb];exact f.adis b }
end
@[simp] noncomputable def Sh (i:Nat)(e:XE):XE:=fun ρ=>((ρ[i]?).bind ksO).bind fun ks=>(e (ρ.set i (.sh (.dif ks)))).bind fun d=>if mf d=true then some d else none
def bind_some {α β:Type}{x:Option α}{f:α->Option β}{b:β}(h:x.bind f=some b):∃a,x=some a/\f a=some b:=Option.bind_eq_some_iff.mp h
@[simp] noncomputable def Rz (i:Nat)(e:XA):XA:=fun ρ=>((ρ[i]?).bind ksO).bind fun ks=>(e (ρ.set i (.sh (.dif ks)))).bind fun l=>if noDics l=true then some l else none
noncomputable def Qz (ks:XC)(q:XD):XC:=ks.filter fun k=>decide (k≠q)
@[simp] noncomputable def Sj (i:Nat)(k:XE):XS:=fun ρ=>(ρ[i]?).bind fun s=>(ksO s).bind fun ks=>(k ρ).bind fun d=>(kyD d).bind fun q=>if ks.contains q=true then some (.nx (ρ.set i (reD (Qz ks q) s))) else none
@[simp] noncomputable def Rx (e:XA):Env->Option O:=fun ρ=>(e ρ).bind fun l=>(BS l).bind fun qs=>if l.length<LIM then some (.dic (qs.foldl yF [])) else none
end
section
variable {K:Xy}{S S' H H':Hp}
def LL (J:It)(S H:Hp)(l:Xq):Prop:=∀S' H',Ext S H S' H' ->
 (∀i d,l[i]?=some d->J.go i H'/\∀x H'',J.yld i H' x H''->H''=H'/\∃b,∃k:XD,d = .tup (k.map .int)/\x = .ref b/\H' b=some (.tup (k.map V.int)))/\J.stop l.length H'
def SIT (K:Xy)(wi:TI)(e:XA):Prop:=∀ρ σ S H (R:It->Hp->Prop) l,Rl K ρ σ S H->e ρ=some l->(∀J S' H',Ext S H S' H'->LL J S' H' l->R J H')->wi σ H R
def SGT (K:Xy)(g:TG)(x:XG):Prop:=∀A Λ ρ σ S H b (k:XD) (Q:St->Hp->Prop) ρ',RlA K A Λ ρ σ S H->H b=some (.tup (k.map V.int))->x (.tup (k.map .int)) ρ=some ρ'->(∀σ',RlA K A Λ ρ' σ' S H->Q σ' H)->g (.ref b) σ H Q
def Md {gs:TGs}{y:XGs}{n:Nat}(hs:SGs K gs y)(hl:zq y n):SGT K (GF K n gs) (aY y):=fun A Λ ρ σ S H b k Q ρ' r hb e c=>
 ⟨b,k.map V.int,rfl,SqT.of hb,by rw[Tw,<- hl (k.map D.int) ρ ρ' e,Tw],hs A Λ ρ σ S H _ (k.map D.int) Q ρ' r (lr k) e c⟩
@[simp] noncomputable def vF (i:Nat):XA:=fun ρ=>match ρ[i]? with|some (.sh (.dif ks))=>some (ks.map fun k=>.tup (k.map .int))|_=>none
def Lc (i:Nat):SIT K (JM (jm i)) (vF i):=fun ρ σ S H R l r x c=>by
 unfold vF at x;split at x
 ·rename_i ks q;cases x;obtain⟨v,ev,dv⟩:=r.sh i _ q;obtain⟨a,o,rfl,ha⟩:=den_dif.mp dv;refine⟨.ref a,ev,a,o,_,rfl,r.sub _ _ ha,c _ S H (Ext.refl r.sub) fun S' H' z=>?_⟩;have ha':=z.sub a _ (z.sh a _ ha);have hl:(bW ks).length=ks.length:=nZ ks;refine⟨fun j d hd=>⟨⟨ha',?_⟩,fun x H'' hy=>?_⟩,ha',by rw[hl,Tw];exact TB _⟩
  ·have:=(TR.mp hd).1;rw[Tw] at this;rw[hl];exact this
  ·obtain⟨e,b,k,v,hk,rfl,hb⟩:=hy;refine⟨e,b,?_⟩;rw[TX] at hd;unfold bW at hk;rw[TX] at hk;cases qj:ks[j]? with
   |none=>rw[qj] at hd;cases hd
   |some k0=>rw[qj] at hd hk;cases hd;cases hk;exact⟨k0,rfl,rfl,by rw[Mp] at hb;exact hb⟩
 ·cases x
noncomputable abbrev HM:=Addr->XC->Xq->Option (O×XC)
@[simp] noncomputable def Sm (j:Nat):XS:=fun ρ=>match ρ[j]?,(ρ[0]?:Option Sl) with
 |some (.ow o),some (.ow (.hd p ks []))=>if j=0 then none else some (.ro (.hd p ks [o]))
 |_,_=>none
noncomputable def OC (m:HM)(ks:XC)(ds:Xq):Option (O×XC):=by
 classical exact if h:∃r,∀p,m p ks ds=some r then some h.choose else none
@[simp] noncomputable def Sf (j i:Nat)(m:HM)(a:XA):XS:=fun ρ=>match ρ[j]? with
 |some (.ow (.lst l))=>(ρ[i]?).bind fun s=>(ksO s).bind fun ks=>(a ρ).bind fun ds=>(OC m ks ds).bind fun r=>match r with
  | (.lst l',ks')=>(shs l').bind fun ds'=>if l.length+l'.length<=LIM then some (.nx ((ρ.set i (reD ks' s)).set j (.ow (.lst (l++ds'.map .sh))))) else none
  |_=>none
 |_=>none
end
end M
namespace L2
open PySem
end L2
namespace M
open PySem L2
def nY {K:Xy}{a:Addr}{o:Obj}{its:Array Value}{n:Nat}{xs:Xo}{l:Xq}(h:K.lookup a=some o)(hc:o.cls = .type "tuple") (hd:o.data = .seq its n) (hs:its.size<=sizeLine) (hv:Vals xs its.toList) (hD:∀S,Dens K S l xs) (S:Hp):Den K S (.mtp l) (.ref a):=
 den_mtp.mpr ⟨a,xs,rfl,(show SqT K S a xs from .inr ⟨o,its,n,h,hc,hd,hs,hv⟩),hD S⟩
end M
namespace L2
open PySem PySem.Spec PyProof.Rows
section
variable {X:Cx}{tg:Expr}
end
end L2
namespace M
open PySem L2
section
variable {K:Xy}{S S' H H':Hp}
noncomputable def Pp:Xq->Option (Xq)
 |[.lst l]=>some l.reverse|_=>none
@[simp] noncomputable def Sr (a:XA):XA:=fun ρ=>(a ρ).bind Pp
end
end M
namespace L2
open PySem PySem.Spec PyProof.Rows
section
variable {X:Cx}{CX:CXT}{k:Nat}{f:Addr}{fd:FuncData}{ps:XB}{sp:Sp}{E:XK}{x y:Str}{p cpos pos pos':Pos}{e:Expr}{es:List Expr}{t:TA}
end
section
variable {X:Cx}{body suite:List Stmt}{b0:Stmt}{x n:Str}{i:Nat}{L:XB}{tx:XK->St->Hp->Prop}{tu ts:TS}{np hp pos:Pos}
end
end L2
namespace M
open PySem L2
section
variable {K:Xy}{S S' H H':Hp}
@[simp] noncomputable def Su (L:XB)(i:Nat)(n:Xq->Option Str)(a:XA)(m:XS)(l:List (Nat×List (List (Str×Bool)))):XS:=fun ρ=>if i<ρ.length then (match (a ρ).bind n with
 |some N=>if L.contains N then (GI i N l (ρ.set i .un)).map fun ρ'=>.nx (ρ'.set i .un) else none
 |none=>(match m ρ with|some (.nx ρ')=>some (.nx ρ')|_=>none)) else none
end
end M
namespace L2
open PySem PySem.Spec PyProof.Rows
noncomputable def IC (i:Nat)(t:TS):TS:=fun D σ H=>t D σ H\/∃a kvs,σ[i]?=some (some (.ref a))/\H a=some (.dT kvs)/\∀o,t D σ (upd H a (.frz o (.dT kvs)))
def xS {X:Cx}{st:Stmt}{t:TS}(i:Nat)(h:PS X st t):PS X st (IC i t):=by
 intro pins s σ H D I q;rcases q with q|⟨a,kvs,_,ea,q⟩
 ·exact h pins s σ H D I q
 ·obtain⟨o,ho,I1⟩:=L9 I ea;exact h pins s σ _ D I1 (q o)
end L2
namespace M
open PySem L2
section
variable {K:Xy}{S S' H H':Hp}
@[simp] noncomputable def uV (i:Nat)(m:XS):XS:=fun ρ=>match (ρ[i]?).bind ksO with|some ks=>m (ρ.set i (.sh (.dif ks)))|none=>m ρ
def Ng {t:TS}{m:XS}(i:Nat)(h:SS K t m):SS K (IC i t) (uV i m):=fun A Λ ρ σ S H D o r x k=>by
 unfold uV at x;cases q:(ρ[i]?).bind ksO with
 |none=>rw[q] at x;exact .inl (h A Λ ρ σ S H D o r x k)
 |some ks=>rw[q] at x;obtain⟨s,qs,hk⟩:=bind_some q;obtain⟨Φ,f⟩:=r;obtain⟨a,ev,ha,sa,up⟩:=f.melt qs hk;refine .inr ⟨a,_,ev,ha,fun ob=>h A Λ _ σ _ _ D o ⟨Φ,up ob⟩ x (k.mono fun b u e=>?_)⟩;rw[av (aP e sa)];exact e
def LK (J:It)(S:Hp)(l:Xq):Prop:=∀S' H',Same S S'->Same S' H' ->
 (∀i d,l[i]?=some d->J.go i H'/\∀x H'',J.yld i H' x H''->H''=H'/\∃b,∃k:XD,d = .tup (k.map .int)/\x = .ref b/\H' b=some (.tup (k.map V.int)))/\J.stop l.length H'
def SIK (K:Xy)(wi:TI)(e:XA):Prop:=∀ρ σ S H (R:It->Hp->Prop) l,Rl K ρ σ S H->e ρ=some l->(∀J S' H',Ext S H S' H'->LK J S' l->R J H')->wi σ H R
def Me (i:Nat):SIK K (JM (jm i)) (vF i):=fun ρ σ S H R l r x c=>by
 unfold vF at x;split at x
 ·rename_i ks q;cases x;obtain⟨v,ev,dv⟩:=r.sh i _ q;obtain⟨a,o,rfl,ha⟩:=den_dif.mp dv;refine⟨.ref a,ev,a,o,_,rfl,r.sub _ _ ha,c _ S H (Ext.refl r.sub) fun S' H' s1 s2=>?_⟩;have ha':=s2 a _ (s1 a _ ha);have hl:(bW ks).length=ks.length:=nZ ks;refine⟨fun j d hd=>⟨⟨ha',?_⟩,fun x H'' hy=>?_⟩,ha',by rw[hl,Tw];exact TB _⟩
  ·have:=(TR.mp hd).1;rw[Tw] at this;rw[hl];exact this
  ·obtain⟨e,b,k,v,hk,rfl,hb⟩:=hy;refine⟨e,b,?_⟩;rw[TX] at hd;unfold bW at hk;rw[TX] at hk;cases qj:ks[j]? with
   |none=>rw[qj] at hd;cases hd
   |some k0=>rw[qj] at hd hk;cases hd;cases hk;exact⟨k0,rfl,rfl,by rw[Mp] at hb;exact hb⟩
 ·cases x
def Ox {wi:TI}{g:TG}{tb:TS}{e:XA}{x:XG}{m:XS}(hi:SIK K wi e)(hg:SGT K g x)(hb:SS K tb m):SS K (Fx wi g tb) (cX e x m):=fun A Λ ρ σ S H E o r y k=>by
 unfold cX at y;cases q:e ρ with
 |none=>rw[q] at y;cases y
 |some l=>
  rw[q] at y;dsimp only[Option.bind] at y;refine hi ρ σ S H _ l r.toRl q fun J S1 H1 z1 wk=>?_;have r1:=r.ext z1;refine⟨fun i n σ' H'=>n=l.length-i/\i<=l.length/\∃ρ' S',RlA K A Λ ρ' σ' S' H'/\Same S1 S'/\cD x m (l.drop i) ρ'=some o,⟨_,rfl,T9 _,ρ,S1,r1,Same.refl _,y⟩,?_⟩;rintro i n σ2 H2 ⟨rfl,hil,ρ2,S2,r2,s2,y2⟩;obtain⟨w1,w2⟩:=wk S2 H2 s2 r2.sub;cases qd:l[i]? with
  |none=>
   have:l.length=i:=by have:=Vn.mp qd;lia
   subst this;rw[U6 (TB _)] at y2;cases y2;exact .inl ⟨w2,k σ2 S2 H2 r2 (z1.sh.trans s2)⟩
  |some d=>
   obtain⟨g1,g2⟩:=w1 i d qd;have hlt:=(TR.mp qd).1;rw[ko qd] at y2;unfold cD at y2;cases qx:x d ρ2 with
   |none=>rw[qx] at y2;cases y2
   |some ρ3=>
    rw[qx] at y2;dsimp only[Option.bind] at y2;refine .inr ⟨g1,fun σ' H'=>∃ρ' S',RlA K A Λ ρ' σ' S' H'/\Same S1 S'/\cD x m (l.drop (i+1)) ρ'=some o,fun σ' H' ⟨ρ',S',a1,a2,a3⟩=>⟨_,(),rfl,hlt,ρ',S',a1,a2,a3⟩,fun xv H3 hy=>?_⟩;obtain⟨rfl,b0,k0,rfl,rfl,hb0⟩:=g2 xv H3 hy;refine hg A Λ ρ2 σ2 S2 H3 b0 k0 _ ρ3 r2 hb0 qx fun σ3 r3=>?_;cases qm:m ρ3 with
    |none=>rw[qm] at y2;cases y2
    |some om=>
     rw[qm] at y2;refine hb A Λ ρ3 σ3 S2 H3 _ om r3 qm ?_;cases om with
     |nx ρ4=>exact fun σ4 S4 H4 r4 s4=>⟨ρ4,S4,r4,s2.trans s4,y2⟩
     |ct ρ4=>exact fun σ4 S4 H4 r4 s4=>⟨ρ4,S4,r4,s2.trans s4,y2⟩
     |bk ρ4=>cases y2;exact fun σ4 S4 H4 r4 s4=>k σ4 S4 H4 r4 ((z1.sh.trans s2).trans s4)
     |rt d4=>cases y2;exact fun v S4 H4 s4=>k v S4 H4 ((z1.sh.trans s2).trans s4)
     |ro d4=>cases y2;exact fun v fp S4 H4 s4=>k v fp S4 H4 ((z1.sh.trans s2).trans s4)
@[simp] noncomputable def uU (i:Nat)(x:XG)(m:XS):XS:=cX (vF i) x m
def Nd {i:Nat}{g:TG}{tb:TS}{x:XG}{m:XS}(hg:SGT K g x)(hb:SS K tb m):SS K (Fx (JM (jm i)) g tb) (uU i x m):=Ox (Me i) hg hb
end
end M
namespace ST
open PySem PySem.SetTable
def Ris (xs:Array Nat):Prop:=∀(i j a b:Nat),i<j->xs[i]?=some a->xs[j]?=some b->a<b
theorem sZ {xs:Array Nat}{j:Nat}(r:Ris xs):∀(fuel lo hi:Nat),lo<=hi->hi<=xs.size->hi-lo<=fuel->(∀i a,i<lo->xs[i]?=some a->a<j)->(∀i a,hi<=i->xs[i]?=some a->j<=a) ->
  below.go xs j fuel lo hi<=xs.size/\(∀i a,i<below.go xs j fuel lo hi->xs[i]?=some a->a<j)/\(∀i a,below.go xs j fuel lo hi<=i->xs[i]?=some a->j<=a)
 |0,lo,hi,h1,h2,h3,h4,h5=>by
  have:hi=lo:=()
  subst this;exact⟨h2,h4,h5⟩
 |fuel+1,lo,hi,h1,h2,h3,h4,h5=>by
  unfold below.go;by_cases h:lo<hi
  ·rw[Ts h];dsimp only;have hm:(lo+hi) / 2<xs.size:=()
   have em:xs[(lo+hi) / 2]?=some xs[(lo+hi) / 2]:=Uo hm;have eg:xs.getD ((lo+hi) / 2) j=xs[(lo+hi) / 2]:=by simp[Array.getD,hm]
   rw[eg];by_cases hc:xs[(lo+hi) / 2]<j
   ·rw[Ts hc];refine sZ r fuel _ hi () h2 () (fun i a hi' e=>?_) h5;by_cases e2:i=(lo+hi) / 2
    ·subst e2;rw[em] at e;cases e;exact hc
    ·exact Nat.lt_trans (r i ((lo+hi) / 2) a _ () e em) hc
   ·rw[Tr hc];refine sZ r fuel lo _ () () () h4 fun i a hi' e=>?_;by_cases e2:i=(lo+hi) / 2
    ·subst e2;rw[em] at e;cases e;exact Wh hc
    ·exact Ut (UT (Wh hc) (r ((lo+hi) / 2) i _ a () em e))
  ·rw[Tr h];have:hi=lo:=()
   subst this;exact⟨h2,h4,h5⟩
def kl {xs:Array Nat}(r:Ris xs)(j:Nat):below xs j<=xs.size/\(∀i a,i<below xs j->xs[i]?=some a->a<j)/\(∀i a,below xs j<=i->xs[i]?=some a->j<=a):=
 sZ r xs.size 0 xs.size (T9 _) (TB _) () (fun i a h=>absurd h (V9 _)) fun i a h e=>absurd (Vc.mp e).1 (Nat.not_lt.mpr h)
def A0 {xs:Array Nat}(r:Ris xs){i a:Nat}(h:xs[i]?=some a):below xs (a+1)=i+1:=by
 obtain⟨h1,h2,h3⟩:=kl r (a+1);have hi:=(Vc.mp h).1;apply Nat.le_antisymm
 ·apply Wh;intro hn;have hs:i+1<xs.size:=()
  have:=h2 (i+1) _ hn (Uo hs);have:=r i (i+1) a _ (VM _) h (Uo hs);lia
 ·apply Wh;intro hn;have:=h3 i a () h;lia
def A1 {xs:Array Nat}(r:Ris xs):below xs 0=0:=by obtain⟨h1,h2,h3⟩:=kl r 0;apply Nat.eq_zero_of_not_pos;intro hp;have:=h2 0 _ hp (Uo (Ul hp h1));lia
def cM {α:Type}(xs:Array α)(p:Nat)(x:α)(hp:p<=xs.size)(i:Nat):(insertAt xs p x)[i]?=if i<p then xs[i]? else if i=p then some x else xs[i-1]?:=by
 unfold insertAt;have hs:((xs.extract 0 p).push x).size=p+1:=by rw[Array.size_push,Wu];lia
 rw[Array.getElem?_append,hs];by_cases h1:i<p
 ·rw[Ts (),Ts h1,Array.getElem?_push];have h3:(xs.extract 0 p).size=p:=by rw[Wu];lia
  rw[h3,Tr (),Array.getElem?_extract];rw[Ts (),U7]
 ·rw[Tr h1];by_cases h2:i=p
  ·subst h2;have h3:(xs.extract 0 i).size=i:=by rw[Wu];lia
   rw[Ts (),Ts rfl,Array.getElem?_push,h3,Ts rfl]
  ·rw[Tr (),Tr h2,Array.getElem?_extract];by_cases h4:i-(p+1)<xs.size-p
   ·rw[Ts ()];congr 1;lia
   ·rw[Tr (),Xa ()]
def vf {α:Type}(xs:Array α)(p:Nat)(x:α)(hp:p<=xs.size):(insertAt xs p x).toList.Perm (x::xs.toList):=by
 unfold insertAt;have e:xs.toList=(xs.extract 0 p).toList++(xs.extract p xs.size).toList:=by rw[<- Vk,Array.extract_append_extract];simp[hp]
 rw[Vk,Vw,e,Ue];exact List.perm_middle
def Ris.put {xs:Array Nat}(r:Ris xs){j:Nat}(h:xs[below xs j]?≠some j):Ris (insertAt xs (below xs j) j):=by
 obtain⟨h1,h2,h3⟩:=kl r j;have gt:∀i a,below xs j<=i->xs[i]?=some a->j<a:=fun i a hi e=>by
  have:=h3 i a hi e;by_cases q:a=j
  ·subst q;refine absurd ?_ h;by_cases e1:i=below xs a
   ·rw[<- e1];exact e
   ·have hb:below xs a<xs.size:=by have:=(Vc.mp e).1;lia
    have:=r _ _ _ _ (show below xs a<i by lia) (Uo hb) e;have:=h3 _ _ (TB _) (Uo hb);lia
  ·lia
 intro i k a b hik ha hb;rw[cM _ _ _ h1] at ha hb;split at ha
 ·rename_i i1;split at hb
  ·exact r i k a b hik ha hb
  ·split at hb
   ·cases hb;exact h2 i a i1 ha
   ·exact r i (k-1) a b () ha hb
 ·rename_i i1;split at ha
  ·cases ha;rw[Tr (),Tr ()] at hb;exact gt _ _ () hb
  ·rw[Tr (),Tr ()] at hb;exact r (i-1) (k-1) a b () ha hb
theorem Dt {α:Type}[BEq α][LawfulBEq α]:∀ {l m:List α},l.Nodup->(∀a∈l,a∈m)->l.length=m.length->m.Perm l
 |[],m,_,_,h=>by
  have:m=[]:=List.eq_nil_of_length_eq_zero h.symm;subst this;exact .refl _
 |a::l,m,nd,hs,h=>by
  have ha:=hs a TD;have nd':=Uk.mp nd;refine (List.perm_cons_erase ha).trans (.cons a (Dt nd'.2 (fun b hb=>?_) ?_))
  ·exact (W7 (fun z:b=a=>nd'.1 (z▸hb))).mpr (hs b (TJ _ hb))
  ·rw[W8 ha];rw[TF] at h;lia
theorem B4 {β:Type}(g:Nat->Option β):∀(l:List Nat),l.Pairwise (· < ·)->((l.filterMap fun j=>(g j).map (j,·)).map (·.1)).Pairwise (· < ·)
 |[],_=>.nil
 |a::l,h=>by
  have h':=Ve.mp h;rw[Uq];cases q:g a with
  |none=>exact B4 g l h'.2
  |some b=>
   refine Ve.mpr ⟨fun x hx=>?_,B4 g l h'.2⟩;obtain⟨⟨y,z⟩,hy,rfl⟩:=TC.mp hx;obtain⟨w,hw,e⟩:=VJ.mp hy;cases q2:g w with
   |none=>rw[q2] at e;cases e
   |some v=>rw[q2] at e;cases e;exact h'.1 _ hw
def M4 {l:List Nat}(h:l.Pairwise (· < ·)):Ris l.toArray:=fun i j a b hij ha hb=>by rw[Xd] at ha hb;obtain⟨h1,rfl⟩:=TR.mp ha;obtain⟨h2,rfl⟩:=TR.mp hb;exact U5.mp h i j h1 h2 hij
def En {α:Type}(es:Array α){order:List Nat}(h:order.Perm (List.range es.size)):(order.filterMap (es[·]?)).Perm es.toList:=by
 refine (h.filterMap _).trans (.of_eq ?_);have:∀l:List α,(List.range l.length).filterMap (l[·]?)=l:=by
  intro l;induction l with
  |nil=>rfl
  |cons a l ih=>rw[TF,List.range_succ_eq_map,Uq];show a::((List.range l.length).map Nat.succ).filterMap _=_;rw[List.filterMap_map];exact T7 (a :: ·) ih
 have:=this es.toList;rw[T6] at this;refine Eq.trans ?_ this;congr 1
 funext i
 exact (Uy ..).symm
end ST
namespace ST
open PySem PySem.SetTable PyProof.Rows
section
variable {prog:Program}{w:World}{A:Around}{E:Xs}{s:Shared}
end
section
variable {prog:Program}{w:World}{A:Around}{R:Result->Shared->Prop}{I:Addr}{fp wr:Xz}{n:Nat}{P:Nat->Value->Prop}{St:Nat->Heap->Prop}{led:Bool}
end
section
variable {prog:Program}{w:World}{A:Around}{E:Xs}{s:Shared}
def Il (a:Value){Q₁:Xs}
  (h:Q₁ (.ref s.heap.objs.size) { s with heap:=s.heap.push { cls:=.type "set",dict:=none,data:=.set #[] 0 (.fresh 0 0 (!w.params.followText "set-order")) } }) :
  codeAny (model prog w) A (.call (.builtin "set.__new__") ⟨[.type "set",a],[]⟩) (wants Q₁ E) s:=by
 refine codeAny_of_tree ?_;show wpAny _ A.in1 (do checkBuiltinCall "set.__new__" ⟨[.type "set",a],[]⟩;again (.builtin "set.__new__" ⟨[.type "set",a],[]⟩)) _ _ s;refine Tq (UP (F.newCall_set_1 a) (Tt ⟨plainId_quiet F.plain_set_new _,Wa F.entry_set_new ?_⟩));rw[Ww F.plain_set_new _];unfold Builtin.«set.__new__» Builtin.Frozenset.newClass;have hsub:=sub_set_self;obtain⟨hp,g,d,tk,os⟩:=s;dsimp only
 wp_walk
 refine Wx (Tt ?_);dsimp only;simp only[newObj];refine Tq (wpAny_alloc (Tt ?_));exact Tt h
end
theorem Du {α:Type}(next:Nat->Nat):∀(fuel k:Nat) (left:List α) (out:Array α),left.length=fuel->(pickOrder.go next fuel k left out).toList.Perm (out.toList++left)
 |0,k,left,out,h=>by
  have:left=[]:=List.eq_nil_of_length_eq_zero h;subst this;rw[Um];exact .refl _
 |fuel+1,k,left,out,h=>by
  unfold pickOrder.go;have hm:next k % left.length<left.length:=V7 _ ()
  rw[Ua hm];dsimp only;refine (Du next fuel (k+1) _ _ (by rw[List.length_eraseIdx,Ts hm];lia)).trans ?_;rw[Vw,Ue];refine W2 _ ?_;show (left[next k % left.length]::left.eraseIdx (next k % left.length)).Perm left;rw[List.eraseIdx_eq_take_drop_succ];refine List.perm_middle.symm.trans (.of_eq ?_);rw[<- V1 hm,WG]
def wF {α:Type}(next:Nat->Nat)(xs:Array α):(pickOrder next xs).toList.Perm xs.toList:=by
 have:=Du next xs.size 0 xs.toList #[] (T6 ..)
 exact this
def slot_next:Slot "set_iterator" "__next__" "set_iterator.__next__" := .of (owner := "set_iterator") (n := "__next__") (by rw[U9,Va];kernel_rfl) (by decide +kernel) (by decide +kernel) (by decide +kernel) (by first|exact .inl (by decide +kernel)|exact .inr (by decide +kernel)) (by rw[Vb];kernel_rfl)
def gU:entryFor table "set_iterator.__next__" = some Builtin.«set_iterator.__next__»:=entryFor_of_tree (by kernel_rfl)
def i0 (a:Value):argsOk "set_iterator.__next__" ⟨[a],[]⟩:=by unfold argsOk;kernel_rfl
def jk:Slot "set" "__iter__" "set.__iter__" := .of (owner := "set") (n := "__iter__") (by rw[U9,Va];kernel_rfl) (by decide +kernel) (by decide +kernel) (by decide +kernel) (by first|exact .inl (by decide +kernel)|exact .inr (by decide +kernel)) (by rw[Vb];kernel_rfl)
def mI:entryFor table "set.__iter__" = some Builtin.«frozenset.__iter__»:=entryFor_alias (id' := "frozenset.__iter__") (by kernel_rfl) (by first|rfl|decide +kernel|(unfold String.splitOn;simp +decide [String.splitOnAux])) (by decide +kernel) (by kernel_rfl)
def o4 (a:Value):argsOk "set.__iter__" ⟨[a],[]⟩:=by unfold argsOk;kernel_rfl
noncomputable def kP (w:World)(S:Addr)(ep:Nat)(es:Array (Int×Value)):Array (Int×Value):=if w.params.followText "set-order" = true then pickOrder (w.params.setOrder S ep) es else es
def IsSetIt (w:World)(h:Heap)(I S:Addr)(t:SetTable)(n ep i:Nat):Prop:=∃o slot,h.get? I=some o/\o.cls = .type "set_iterator" /\ o.data = .fields #[rawInt ((slot:Nat):Int),rawInt ((i:Nat):Int),.ref S,rawInt ((n:Nat):Int),rawInt ((ep:Nat):Int)]/\(w.params.followText "set-order" = false->below t.place slot=i)
section
variable {prog:Program}{w:World}{A:Around}{E:Xs}{s:Shared}{I S:Addr}{oS:Obj}{es:Array (Int×Value)}{ep:Nat}{t:SetTable}{i:Nat}
def IsSetIt.typeIs {n:Nat}(x:IsSetIt w s.heap I S t n ep i):s.TypeIs (.ref I) "set_iterator" := let ⟨o,_,ho,hc,_⟩:=x;⟨o,ho,hc⟩
def K3 {Q:Array (Int×Value)->Shared->Prop}(hb:w.params.followText "set-order" = true) (ho:s.heap.get? S=some oS) (hd:oS.data = .set es ep t) (hf:t.fits es.size=true) (h:Q (kP w S ep es) s):wpAny (model prog w) A (setWalk S) Q E s:=by unfold setWalk;refine Tq (Vo ho hd hf ?_);dsimp only;unfold setsByText;refine Tq (Tq (Wx (Tt ?_)));show wpAny _ _ (if w.params.followText "set-order" = true then _ else _) _ _ _;rw[Ts hb];refine Tq (Wx (Tt ?_));unfold kP at h;rw[Ts hb] at h;exact h
def De {slot:Nat}{Q:Option (Value×Nat)->Shared->Prop}(ho:s.heap.get? S=some oS)(hd:oS.data = .set es ep t)(hf:t.fits es.size=true)(hr:Ris t.place)(hl:t.led = !w.params.followText "set-order") (hp:t.plain=true) (hs:w.params.followText "set-order" = false->below t.place slot=i)
  (h1:∀e slot',(kP w S ep es)[i]?=some e->(w.params.followText "set-order" = false->below t.place slot'=i+1)->Q (some (e.2,slot')) s) (h2:(kP w S ep es)[i]?=none->Q none s):wpAny (model prog w) A (setNext S slot i ep) Q E s:=by
 unfold setNext;refine Tq (Vo ho hd hf ?_);dsimp only;unfold setsByText;refine Tq (Tq (Wx (Tt ?_)));show wpAny _ _ (if w.params.followText "set-order" = true then _ else _) _ _ _;by_cases hb:w.params.followText "set-order" = true
 ·rw[Ts hb,Tr (by simp)];refine Tq (K3 hb ho hd hf (Tt ?_));cases q:(kP w S ep es)[i]? with
  |none=>exact h2 q
  |some e=>exact h1 e slot q fun z=>by rw[hb] at z;cases z
 ·have hb':w.params.followText "set-order" = false:=by simpa using hb
  rw[Tr hb];have eo:kP w S ep es=es:=by unfold kP;rw[Tr hb]
  rw[eo] at h1 h2;rw[hb'] at hl;show wpAny _ _ (if (!t.plain&&decide (es.size > 1))=true then _ else _) _ _ _;rw[Tr (by rw[hp];simp)];show wpAny _ _ ((if (!t.led && !es.isEmpty)=true then _ else _) >>= _) _ _ _;rw[Tr (by rw[hl];simp)];refine Tq (Tt (Tt ?_));rw[hs hb'];have hz:t.place.size=es.size:=by unfold SetTable.fits at hf;simp only[UM,UK] at hf;exact hf.1
  cases q:es[i]? with
  |none=>exact h2 q
  |some e=>have hi:=(Vc.mp q).1;have q2:t.place[i]?=some (t.place[i]'()):=Uo ();rw[q2];exact h1 e _ q fun _=>A0 hr q2
end
def wK:Slot "set_iterator" "__iter__" "set_iterator.__iter__" := .of (owner := "set_iterator") (n := "__iter__") (by rw[U9,Va];kernel_rfl) (by decide +kernel) (by decide +kernel) (by decide +kernel) (by first|exact .inl (by decide +kernel)|exact .inr (by decide +kernel)) (by rw[Vb];kernel_rfl)
def D2 (a:Value):argsOk "set_iterator.__iter__" ⟨[a],[]⟩:=by unfold argsOk;kernel_rfl
def Bj:entryFor table "set_iterator.__iter__" = some Builtin.«dict_keyiterator.__iter__»:=entryFor_alias (id' := "dict_keyiterator.__iter__") (by kernel_rfl) (by first|rfl|decide +kernel|(unfold String.splitOn;simp +decide [String.splitOnAux])) (by decide +kernel) (by kernel_rfl)
def JX:typeLookup (.type "set") "__len__" = pure (some (.builtin "set.__len__")):=by rw[U9,Va];kernel_rfl
def KS:isSubtype (.type "set") (.type "set")=pure true:=by rw[Vb];kernel_rfl
structure WSet (w:World) (h:Heap) (S:Addr) (es:Array (Int×Value)) (ep:Nat) (t:SetTable):Prop where
 at':∃o,h.get? S=some o/\o.ExactSet/\o.data = .set es ep t
 fits:t.fits es.size=true
 ris:Ris t.place
 led:t.led = !w.params.followText "set-order"
 plain:t.plain=true
section
variable {prog:Program}{w:World}{A:Around}{E:Xs}{s:Shared}{I S:Addr}{es:Array (Int×Value)}{ep:Nat}{t:SetTable}{i:Nat}
def WSet.kept {h':Heap}(x:WSet w h S es ep t)(k:∀o,h.get? S=some o->h'.get? S=some o):WSet w h' S es ep t:=by obtain⟨⟨o,ho,r⟩,f,a,b,c⟩:=x;exact⟨⟨o,k o ho,r⟩,f,a,b,c⟩
def ue:(kP w S ep es).size=es.size:=by
 unfold kP;split
 ·rw[<- T6,(wF _ es).length_eq,T6]
 ·rfl
def Ij {Q:Xx->Shared->Prop}(hit:IsSetIt w s.heap I S t es.size ep i)(hS:WSet w s.heap S es ep t)(hi:i<es.size)
  (hQ:∀e h',(kP w S ep es)[i]?=some e->IsSetIt w h' I S t es.size ep (i+1)->(∀b,b≠I->h'.get? b=s.heap.get? b)->Q (some e.2) { s with heap:=h' }):wpAny (model prog w) A (pyNext (.ref I)) Q E s:=by
 obtain⟨o,slot,ho,hc,hd,hb⟩:=id hit;obtain⟨⟨oS,hoS,hex,hdS⟩,hf,hr,hl,hp⟩:=hS;unfold pyNext;refine Tq (Vu (Vj (name:=Str.ofString "__next__") hit.typeIs slot_next (UF slot_next hit.typeIs gU ?_ (i0 _))));unfold Builtin.«set_iterator.__next__»;refine Tq (UP (a:=(Value.ref I,[])) rfl ?_);refine Tq (V8 ho hd ?_);show wpAny _ _ (setEntries S >>= _) _ _ s;refine Tq (wpAny_setEntries_of hoS hdS hf ?_);rw[Tr (by simp[rawInt])];show wpAny _ _ (setNext S ((slot:Nat):Int).toNat ((i:Nat):Int).toNat ((ep:Nat):Int).toNat >>= _) _ _ s;rw[UY,UY,UY];refine Tq (De hoS hdS hf hr hl hp hb (fun e slot' q hb'=>?_) fun q=>?_)
 ·dsimp only;refine Tq (VD ho hd (by simp) ?_);have ho1:=U1 (h:=s.heap) (Obj.mapFields (·.setIfInBounds 0 (rawInt slot'))) ho (Wp (Vd hd _));have hd1:=Vd hd (·.setIfInBounds 0 (rawInt slot'));refine Tq (VD (s:={ s with heap:=s.heap.update I (Obj.mapFields (·.setIfInBounds 0 (rawInt slot'))) }) ho1 hd1 (by simp) ?_);refine Tt ⟨e.2,rfl,Tt (hQ e _ q ?_ fun b hb2=>?_)⟩
  ·exact⟨_,slot',U1 _ ho1 (Wp (Vd hd1 _)),(WK ..).trans ((WK ..).trans hc),by rw[Vd hd1];simp[rawInt],hb'⟩
  ·show ((s.heap.update I _).update I _).get? b=_;rw[V3 _ _ _ _ hb2,V3 _ _ _ _ hb2]
 ·rw[Array.getElem?_eq_none_iff,ue] at q;lia
def KC {Q:Xx->Shared->Prop}(hh:A.handled=none)(hit:IsSetIt w s.heap I S t es.size ep es.size)(hS:WSet w s.heap S es ep t)
  (hQ:∀h',Heap.ExtBut I s.heap h'->Q none { s with heap:=h' }):wpAny (model prog w) A (pyNext (.ref I)) Q E s:=by
 obtain⟨o,slot,ho,hc,hd,hb⟩:=id hit;obtain⟨⟨oS,hoS,hex,hdS⟩,hf,hr,hl,hp⟩:=hS;unfold pyNext;refine Tq (Vu (Vj (name:=Str.ofString "__next__") hit.typeIs slot_next (UF slot_next hit.typeIs gU ?_ (i0 _))));unfold Builtin.«set_iterator.__next__»;refine Tq (UP (a:=(Value.ref I,[])) rfl ?_);refine Tq (V8 ho hd ?_);show wpAny _ _ (setEntries S >>= _) _ _ s;refine Tq (wpAny_setEntries_of hoS hdS hf ?_);rw[Tr (by simp[rawInt])];show wpAny _ _ (setNext S ((slot:Nat):Int).toNat ((es.size:Nat):Int).toNat ((ep:Nat):Int).toNat >>= _) _ _ s;rw[UY,UY,UY];refine Tq (De hoS hdS hf hr hl hp hb (fun e slot' q hb'=>?_) fun q=>?_)
 ·have:=(Vc.mp q).1;rw[ue] at this;lia
 ·dsimp only;refine Tq (VD ho hd (by simp) ?_);show wpAny _ _ (newExc (.type "StopIteration") [] >>= _) _ _ _;refine Tq ?_;simp only[newExc,newTuple];refine Tq (UB ?_ (by size_fits));refine Tq (m:=firstArgMember _ _) (UP (a:=Value.none) (by first|rfl|(simp only[firstArgMember];rfl)) ?_);refine UB ?_ (by size_fits);simp only[raiseNew];refine Tq (wpAny_handled ?_);first|rw[show A.in1.handled=none from hh]|rw[hh]
  refine Tq (Tt (wpAny_throw ?_));refine Tq (Wq (T := "StopIteration") (b:=true) ⟨_,T8 _ rfl,rfl⟩ isSubtype_stop ?_);exact Tt (hQ _ (((V4 ..).extBut.push _).push _))
def IR (hh:A.handled=none)(hne:S≠I)(es:Array (Int×Value))(ep:Nat)(t:SetTable) :
  Walks prog w A I [I,S] [I] es.size (fun i v=>∃e,(kP w S ep es)[i]?=some e/\v=e.2) (fun i h=>IsSetIt w h I S t es.size ep i/\WSet w h S es ep t) where
 sub:=fun b hb=>by simp at hb;simp[hb]
 frame:=fun i h h' st hk=>by obtain⟨⟨o,slot,ho,r⟩,st2⟩:=st;exact⟨⟨o,slot,hk I (by simp) o ho,r⟩,st2.kept fun o e=>hk S (by simp) o e⟩
 item:=fun i s Q E hi st hQ=>Ij st.1 st.2 hi fun e h' q it' oth=>by have:=hQ e.2 h' s.toks ⟨e,q,rfl⟩ ⟨it',st.2.kept fun o z=>by rw[oth S hne];exact z⟩ (fun b o hb z=>by rw[oth b fun y=>hb (by simp[y])];exact z);exact this
 done:=fun s Q E st hQ=>KC hh st.1 st.2 fun h' x=>hQ h' s.toks fun b o hb z=>x b o (fun y=>hb (by simp[y])) z
 self:=fun i s Q E st h=>by refine WL st.1.typeIs wK (UF wK st.1.typeIs Bj ?_ (D2 _));show wpAny _ _ (ret (.ref I)) _ _ s;exact Tt ⟨_,rfl, "set_iterator",_,st.1.typeIs,slot_next.lookup,h⟩
def GS {Q:Xs}(hS:WSet w s.heap S es ep t)
  (hQ:Q (.ref s.heap.objs.size) { s with heap:=s.heap.push { cls:=.type "set_iterator",data:=.fields #[rawInt 0,rawInt 0,.ref S,rawInt es.size,rawInt ep] } }):wpAny (model prog w) A (pyIter (.ref S)) Q E s:=by
 obtain⟨⟨oS,hoS,hex,hdS⟩,hf,hr,hl,hp⟩:=hS;have hT:s.TypeIs (.ref S) "set" := ⟨oS,hoS,hex.1⟩
 refine WL hT jk (UF jk hT mI ?_ (o4 _));unfold Builtin.«frozenset.__iter__»;refine Tq (UP (a:=S) rfl ?_);refine Tq (m:=Builtin.Frozenset.sizeOf S) ?_;unfold Builtin.Frozenset.sizeOf;refine Tq (wpAny_setEntries_of hoS hdS hf (Tt ?_));refine Tq ?_;unfold setDrawn;refine Tq (Vo hoS hdS hf ?_);dsimp only;unfold setsByText;refine Tq (Tq (Wx (Tt (Tt ?_))));show wpAny _ _ (if (!w.params.followText "set-order" && (!t.plain&&decide (es.size > 1)))=true then _ else _) _ _ _;rw[Tr (by rw[hp];simp)];refine Tq (Tt ?_);refine Tq (wpAny_setEpoch_of hoS hdS hf ?_);refine Tq (UB (Tt ⟨_,rfl, "set_iterator",_,⟨_,T8 _ rfl,rfl⟩,slot_next.lookup,hQ⟩))
end
section
variable {prog:Program}{w:World}{A:Around}{E:Xs}{s:Shared}{S:Addr}{es:Array (Int×Value)}{ep:Nat}{t:SetTable}
def yT {Q:Xw->Shared->Prop}(hh:A.handled=none)(hS:WSet w s.heap S es ep t)(hn:es.size<=300)
  (hQ:∀h' tk (vs:Xw),vs.length=es.size->(∀(i:Nat) v,vs[i]?=some v->∃e,(kP w S ep es)[i]?=some e/\v=e.2)->(∀b o,s.heap.get? b=some o->h'.get? b=some o)->s.heap.objs.size<=h'.objs.size->Q vs { s with heap:=h',toks:=tk }):wpAny (model prog w) A (collect (.ref S)) Q E s:=by
 obtain⟨oS,hoS,hex,hdS⟩:=hS.at';have hSl:S<s.heap.objs.size:=TW hoS;unfold collect;refine Tq (wpAny_runValue (Wa PySem.F.entry_proto_collect ?_));rw[Ww PySem.F.plain_proto_collect _];show wpAny _ A.in1 (newList [] >>= fun l=>again (.builtin "list.__iadd__" ⟨[l,.ref S],[]⟩)) _ _ s;refine Tq (UB ?_);refine Tt ⟨plainId_quiet PySem.F.plain_list_iadd _,Wa PySem.F.entry_list_iadd ?_⟩;rw[Ww PySem.F.plain_list_iadd _];have hL:(s.heap.push { cls:=.type "list",data:=.seq ([]:Xw).toArray }).get? s.heap.objs.size=some { cls:=.type "list",data:=.seq ([]:Xw).toArray }:=T8 _ rfl;have hS1:WSet w (s.heap.push { cls:=.type "list",data:=.seq ([]:Xw).toArray }) S es ep t:=hS.kept fun o e=>TU _ e;have h1:Builtin.List.listSameRef (.ref s.heap.objs.size) (.ref S)=false:=by simp[Builtin.List.listSameRef];exact Wd hSl
 show wpAny _ A.in1 (Builtin.List.listExtendWith (.ref s.heap.objs.size) (.ref S) (.ref s.heap.objs.size)) _ _ _;unfold Builtin.List.listExtendWith;refine Tq (Wf (T := "set") ⟨oS,TU _ hoS,hex.1⟩ ?_);rw[Tr (by rw[h1];decide)];refine Tq (GS (s:={ s with heap:=s.heap.push { cls:=.type "list",data:=.seq ([]:Xw).toArray } }) hS1 ?_);refine Tq (Uw ?_);unfold Builtin.List.listLengthHint;have hT2:Shared.TypeIs { s with heap:=(s.heap.push { cls:=.type "list",data:=.seq ([]:Xw).toArray }).push { cls:=.type "set_iterator",data:=.fields #[rawInt 0,rawInt 0,.ref S,rawInt es.size,rawInt ep] } } (.ref S) "set" := ⟨oS,TU _ (TU _ hoS),hex.1⟩
 refine Tq (Wo hT2 JX ?_)
 (generalize hid:("set.__len__" : String)=id0;wp_delta;rw[show splitId id0=some ("set", "__len__") from by subst hid;decide +kernel];subst hid)
 refine Tq (Wq (b:=true) hT2 KS ?_);rw[Tr (by decide)];dsimp only;rw[Ts (by decide +kernel)];refine Tq (Wf hT2 ?_);dsimp only;refine Tt ?_;rw[Ts (by decide +kernel)];refine Tq (Vl ?_);have eI:(s.heap.push { cls:=.type "list",data:=.seq ([]:Xw).toArray }).objs.size=s.heap.objs.size+1:=VL ..;have hL2:((s.heap.push { cls:=.type "list",data:=.seq ([]:Xw).toArray }).push { cls:=.type "set_iterator",data:=.fields #[rawInt 0,rawInt 0,.ref S,rawInt es.size,rawInt ep] }).get? s.heap.objs.size=some { cls:=.type "list",data:=.seq ([]:Xw).toArray }:=TU _ hL;refine Tq (m:=Builtin.List.listTouch (.ref s.heap.objs.size)) ?_;show wpAny _ _ (updateSeq s.heap.objs.size (·.push .none) >>= fun _=>updateSeq s.heap.objs.size (·.pop)) _ _ _;refine Tq (wpAny_updateSeq hL2 rfl ?_);have hL3:=U1 (Obj.mapSeq (·.push Value.none)) hL2 rfl;refine wpAny_updateSeq hL3 rfl ?_;have hL4:=U1 (Obj.mapSeq (·.pop)) hL3 rfl
 have hoth:∀b o,b≠s.heap.objs.size->((s.heap.push { cls:=.type "list",data:=.seq ([]:Xw).toArray }).push { cls:=.type "set_iterator",data:=.fields #[rawInt 0,rawInt 0,.ref S,rawInt es.size,rawInt ep] }).get? b=some o ->
   ((((s.heap.push { cls:=.type "list",data:=.seq ([]:Xw).toArray }).push { cls:=.type "set_iterator",data:=.fields #[rawInt 0,rawInt 0,.ref S,rawInt es.size,rawInt ep] }).update s.heap.objs.size (Obj.mapSeq (·.push Value.none))).update s.heap.objs.size (Obj.mapSeq (·.pop))).get? b=some o:=fun b o hb e=>by
  rw[V3 _ _ _ _ hb,V3 _ _ _ _ hb];exact e
 have hI:s.heap.objs.size+1≠s.heap.objs.size:=Nat.succ_ne_self _;have hit:IsSetIt w ((((s.heap.push { cls:=.type "list",data:=.seq ([]:Xw).toArray }).push { cls:=.type "set_iterator",data:=.fields #[rawInt 0,rawInt 0,.ref S,rawInt es.size,rawInt ep] }).update s.heap.objs.size (Obj.mapSeq (·.push Value.none))).update s.heap.objs.size (Obj.mapSeq (·.pop))) (s.heap.objs.size+1) S t es.size ep 0:=
  ⟨_,0,hoth _ _ hI (by rw[<- eI];exact T8 _ rfl),rfl,rfl,fun _=>A1 hS.ris⟩
 have hS4:=hS1.kept (h':=((((s.heap.push { cls:=.type "list",data:=.seq ([]:Xw).toArray }).push { cls:=.type "set_iterator",data:=.fields #[rawInt 0,rawInt 0,.ref S,rawInt es.size,rawInt ep] }).update s.heap.objs.size (Obj.mapSeq (·.push Value.none))).update s.heap.objs.size (Obj.mapSeq (·.pop)))) fun o e=>hoth S o (T2 hSl) (TU _ e);rw[eI];have hne:S≠s.heap.objs.size+1:=T2 (VY hSl);have hSf:s.heap.objs.size∉[s.heap.objs.size+1,S]:=by simp only[TN,List.not_mem_nil,or_false,not_or];exact⟨T2 (VM _),Wd hSl⟩
 refine Tt ⟨plainId_quiet PySem.F.plain_extend_loop _,codeAny_extend_loopS (IR (A:=A.in1) (prog:=prog) (w:=w) hh hne es ep t).toS (by rw[Uj];lia) _ hSf _ es.size 0 _ _ _ (Nat.sub_zero _) (T9 _) ⟨hit,hS4⟩ hL4 (ItemsOf.nil _) fun s' acc c hm hL' hacc=>?_⟩;show wpAny _ A (load s.heap.objs.size >>= _) _ _ s';refine Tq (wpAny_load hL' ?_);have es':s'={ s with heap:=s'.heap,toks:=s'.toks }:=by obtain⟨h',g',d',tk',os'⟩:=s';have e1:=hm.gens;have e2:=hm.drawn;have e3:=hm.os;dsimp only at e1 e2 e3;rw[e1,e2,e3]
 rw[es'];refine Tt (hQ s'.heap s'.toks acc.toList (by rw[T6];exact hacc.1) (fun i v q=>hacc.2 i v (by rw[<- Uy];exact q)) (fun b o e=>?_) (Ut (TW hL')));have hb:=TW e;refine hm.heap b o (fun z=>?_) (hoth b o (T2 hb) (TU _ (TU _ e)));rcases TN.mp z with z|z
 ·exact absurd z (T2 hb)
 ·rw[Tv] at z;rw[z] at hb;exact absurd hb (Nat.not_lt.mpr (We _))
end
end ST
namespace L2
open PySem
section
variable {X:Cx}
end
end L2
namespace M
open PySem L2
section
variable {K:Xy}
end
end M
namespace DY
open PySem
section
variable {prog:Program}{w:World}{A:Around}{E:Xs}{s:Shared}{d I:Addr}{es:Array DictEntry}{ep:Nat}
end
section
variable {prog:Program}{w:World}{A:Around}{s:Shared}{R:Result->Shared->Prop}{d:Addr}{es:Array DictEntry}{ep:Nat}
end
section
variable {prog:Program}{w:World}{A:Around}{E:Xs}{s:Shared}{d:Addr}{es:Array DictEntry}{ep:Nat}
end
end DY
namespace L2
open PySem PySem.Spec PyProof.Rows
section
variable {X:Cx}
end
end L2
namespace M
open PySem L2
section
variable {K:Xy}{S H:Hp}
def Od {bs:Xz}{H':Hp}(s:Same S H)(z:Ext S H S H')(h:∀b∈bs,∃ks:XD,H b=some (.tup (ks.map V.int))):Ext S H (pf S H bs) H' where
 sh:=fun b o e=>by
  by_cases hb:b∈bs
  ·rw[jC hb];exact s b o e
  ·rw[fQ hb];exact e
 sub:=fun b o e=>by
  by_cases hb:b∈bs
  ·rw[jC hb] at e;exact z.same s b o e
  ·rw[fQ hb] at e;exact z.sub b o e
 alw:=fun b o e n=>by
  refine⟨(z.alw b o e n).1,?_⟩;by_cases hb:b∈bs
  ·obtain⟨ks,ek⟩:=h b hb;rw[e] at ek;cases ek;exact .inr ⟨ks,rfl⟩
  ·rw[fQ hb];exact .inl n
end
section
variable {K:Xy}{S S' H H':Hp}
def Ky {js:List (Option Nat)}{wi:TI}  {tt:TIf}{te:TE}     (hi:SIT K wi w)(hg:SG K g x)(hc:ST K tt c)(he:SE K te e):SF K (wM js wi g tt te) (bB js w x c e):=fun ρ σ S H Q l r y k=>by
 unfold bB at y;cases q:w ρ with
 |none=>rw[q] at y;cases y
 |some ds=>
  rw[q] at y;dsimp only[Option.bind] at y;split at y
  ·rename_i hlim;refine hi ρ σ S H _ ds r q fun J S1 H1 z1 wk D hD=>?_;have r1:=r.ext z1;have hD0:H D=none:=(z1.same r.sub).free hD;refine⟨fun i n H'=>n=ds.length-i/\i<=ds.length/\∃S' done ys rest,Ext S1 H1 S' H'/\Same S1 S'/\H' D=some (.lst ys)/\S' D=none/\Dens K S' done ys/\done.length<=i/\aZ x c e (q9 js ρ) (ds.drop i)=some rest/\l=done++rest,
    ⟨_,rfl,T9 _,S1,[],[],l,Ext.own z1.sub hD,Same.refl _,ar,z1.sub.free hD,.nil,T9 _,y,rfl⟩,?_⟩
   rintro i n H2 ⟨rfl,hil,S2,done,ys,rest,z2,s2,hy,hSD,dy,hdl,y2,rfl⟩;obtain⟨w1,w2⟩:=wk S2 H2 z2;cases qd:ds[i]? with
   |none=>
    have:ds.length=i:=by have:=Vn.mp qd;lia
    subst this;rw[U6 (TB _)] at y2;cases y2;rw[Um] at k;exact .inl ⟨w2,k D ys S2 H2 (z1.trans z2) hD0 hSD hy dy⟩
   |some d=>
    obtain⟨g1,g2⟩:=w1 i d qd;have hlt:=(TR.mp qd).1;rw[ko qd] at y2;unfold aZ at y2;cases qx:x d (q9 js ρ) with
    |none=>rw[qx] at y2;cases y2
    |some ρ3=>
     rw[qx] at y2;dsimp only[Option.bind] at y2;refine .inr ⟨g1,fun xv H3 hyl=>?_⟩;obtain⟨rfl,b0,k0,rfl,rfl,hb0⟩:=g2 xv H3 hyl;have hIT:∀b∈[b0],∃ks:XD,H3 b=some (.tup (ks.map V.int)):=fun b hb=>by rw[Tv.mp hb];exact⟨k0,hb0⟩
     have z2':Ext S2 H3 (pf S2 H3 [b0]) H3:=Od z2.sub (Ext.refl z2.sub) hIT;have hd0:Den K (pf S2 H3 [b0]) (.tup (k0.map .int)) (.ref b0):=den_tup.mpr ⟨b0,_,rfl,TpA.of (by rw[jC TD];exact hb0),lr k0⟩;obtain⟨hy',hSD'⟩:=z2'.al D _ hy hSD;have ri:=HS (r1.ext (z2.trans z2')) js;refine hg _ _ _ _ (pf S2 H3 [b0]) _ _ _ _ ρ3 ri hd0 qx fun σ3 r3=>?_;cases qc:c ρ3 with
     |none=>rw[qc] at y2;cases y2
     |some b=>
      rw[qc] at y2;dsimp only at y2;refine hc ρ3 σ3 _ _ _ b r3.toRl qc fun S4 H4 z4=>?_;obtain⟨al1,al2⟩:=z4.al D _ hy' hSD';cases b with
      |false=>
       rw[Tr (by decide)] at y2;exact BA ⟨_,(),rfl,hlt,S4,done,ys,rest,(z2.trans z2').trans z4,(s2.trans z2'.sh).trans z4.sh,al1,al2,(dy.mono z2'.sh).mono z4.sh,(),y2,rfl⟩
      |true=>
       rw[Ts rfl] at y2;cases qe:e ρ3 with
       |none=>rw[qe] at y2;cases y2
       |some dv=>
        rw[qe] at y2;dsimp only at y2;cases qr:aZ x c e (q9 js ρ) (ds.drop (i+1)) with
        |none=>rw[qr] at y2;cases y2
        |some rest2=>
         rw[qr] at y2;cases y2;refine BB (he ρ3 σ3 S4 H4 _ dv (r3.toRl.ext z4) qe fun v S5 H5 z5 d5=>?_);obtain⟨b1,b2⟩:=z5.al D _ al1 al2;refine⟨ys,b1,?_,_,(),rfl,hlt,S5,done++[dv],ys++[v],rest2,?_,((s2.trans z2'.sh).trans z4.sh).trans z5.sh,ar,b2,(((dy.mono z2'.sh).mono z4.sh).mono z5.sh).append (.cons d5 .nil),by rw[Tz,T4];lia,qr,by rw[Ue];rfl⟩
         ·rw[<- dy.length];exact Ul (UT hdl hlt) (Ud hlim (Ut g7))
         ·have z6:=((z2.trans z2').trans z4).trans z5;exact⟨z6.sh,fun b u hb=>by rw[av fun z=>by subst z;rw[b2] at hb;cases hb];exact z6.sub b u hb,fun b o hb hn=>by
           obtain⟨c1,c2⟩:=z6.alw b o hb hn
           exact⟨by rw[av fun z=>by subst z;rw[hD] at hb;cases hb];exact c1,c2⟩⟩
  ·cases y
end
section
variable {K:Xy}{S S' H H':Hp}
@[simp] noncomputable def So (e:XE)(j:Nat):XS:=fun ρ=>match ρ[j]? with
 |some (.ow (.lst l))=>(e ρ).bind fun d=>some (.ro (.tup [.sh d,.lst l]))
 |_=>none
@[simp] noncomputable def Qn (m:Xq->Option O)(e:D)(a:XA):Env->Option O:=fun ρ=>(a ρ).bind fun ds=>m (ds++[e])
end
section
variable {K:Xy}{S H:Hp}
@[simp] noncomputable def Tf (i:Nat)(k:Int):XE:=fun ρ=>match ρ[i]? with
 |some (.ow (.tup os))=>match atI os k with
  |some (.sh d)=>some d
  |some (.lst l)=>(shs l).map D.lst
  |_=>none
 |_=>none
@[simp] noncomputable def Te (i:Nat)(k:Int):XE:=fun ρ=>match ρ[i]? with
 |some (.ow (.tup os))=>match atI os k with
  |some (.sh d)=>some d
  |_=>none
 |_=>none
noncomputable def OI:Xq->Bool
 |[]=>true
 |.tup l::r=>(aQ l).isSome&&OI r
 |_::_=>false
@[simp] noncomputable def Ru (m:Xq->Option O)(a:XA):XE:=fun ρ=>((a ρ).bind m).bind fun o=>match o with
 |.lst os=>(shs os).bind fun l=>if OI l then some (.lst l) else none
 |_=>none
end
section
variable {K:Xy}{S H:Hp}
@[simp] noncomputable def Sb (j i:Nat)(m:HM)(a:XA):XS:=fun ρ=>match ρ[j]? with
 |some (.ow (.lst l))=>(shs l).bind fun ls=>(ρ[i]?).bind fun s=>(ksO s).bind fun ks=>(a ρ).bind fun ds=>(OC m ks ds).bind fun r=>match r with
  | (.lst l',ks')=>(shs l').bind fun ds'=>if ls.length+ds'.length<=LIM then some (.nx ((ρ.set i (reD ks' s)).set j (.ow (.lst ((ls++ds').map .sh))))) else none
  |_=>none
 |_=>none
end
end M
namespace ST
open PySem PySem.SetTable
theorem sw {t t':SetTable}(h:t.mask=t'.mask):∀n p,adv t n p=adv t' n p
 |0,_=>rfl
 |n+1,p=>by
  show adv t n (t.advance p)=adv t' n (t'.advance p);have:t.advance p=t'.advance p:=by unfold advance;rw[h]
  rw[this,sw h n]
def uJ {t t':SetTable}(h:t.mask=t'.mask)(x:Int):t.probeStart x=t'.probeStart x:=by unfold probeStart;rw[h]
def Lies (t:SetTable)(h:Int)(occ:Nat->Prop)(j:Nat):Prop:=∃k,k<10 * turns t.mask/\(adv t k (t.probeStart h)).j=j/\∀a,a<k->occ (adv t a (t.probeStart h)).j
def Lies.mono {t':SetTable}{h:Int}{Q:Nat->Prop}{j:Nat}(x:Lies t h P j)(e:t.mask=t'.mask)(k:∀i,P i->Q i):Lies t' h Q j:=by obtain⟨n,h1,h2,h3⟩:=x;refine⟨n,by rw[<- e];exact h1,by rw[<- uJ e,<- sw e];exact h2,fun a ha=>?_⟩;rw[<- uJ e,<- sw e];exact k _ (h3 a ha)
def lH {t:SetTable}(r:Ris t.place){i j:Nat}(h:t.place[i]?=some j):t.slot j = .live i:=by
 obtain⟨h1,h2,h3⟩:=kl r j;have e:below t.place j=i:=by
  have a1:¬i<below t.place j:=fun z=>by have:=h2 i j z h;lia
  apply UJ;intro hne;have hlt:below t.place j<i:=()
  have hs:i<t.place.size:=(Vc.mp h).1;obtain⟨b,hb⟩:∃b,t.place[below t.place j]?=some b:=⟨_,Uo ()⟩
  have:=h3 _ b (TB _) hb;have:=r _ _ b j hlt hb h;lia
 unfold slot;dsimp only;rw[e,Ts (by rw[h];exact beq_self_eq_true _)]
def KH {t:SetTable}{i j:Nat}(h:t.slot j = .live i):t.place[i]?=some j:=by
 unfold slot at h;dsimp only at h;split at h
 ·rename_i q;cases h;exact eq_of_beq q
 ·split at h<;>cases h
abbrev Occ (t:SetTable)(j:Nat):Prop:=∃i:Nat,t.place[i]?=some j
def My {t:SetTable}(hd:t.dummies = #[]){j:Nat}(h:t.slot j ≠ .empty):Occ t j:=by
 cases q:t.slot j with
 |empty=>exact absurd q h
 |dummy=>exact absurd q (zL hd j)
 |live i=>exact⟨i,KH q⟩
def Ways (t:SetTable)(es:Array (Int×Value)):Prop:=∀(i:Nat) e,es[i]?=some e->∃j,t.place[i]?=some j/\Lies t e.1 (Occ t) j
def Ways.put {t':SetTable}{es:Array (Int×Value)}(W:Ways t es)(hm:t.mask=t'.mask){p j:Nat}(hp:p<=es.size)(hz:t.place.size=es.size)(e:t'.place=insertAt t.place p j){h:Int}{x:Value}(l:Lies t h (Occ t) j):Ways t' (insertAt es p (h,x)):=by
 have up:∀i,Occ t i->Occ t' i:=fun b hpt0=>by
  obtain⟨i,hi⟩:=hpt0;by_cases hq:i<p
  ·exact⟨i,by rw[e,cM _ _ _ (),Ts hq];exact hi⟩
  ·exact⟨i+1,by rw[e,cM _ _ _ (),Tr (),Tr ()];exact hi⟩
 intro i u hu;rw[cM _ _ _ hp] at hu;by_cases h1:i<p
 ·rw[Ts h1] at hu;obtain⟨b,hb,lb⟩:=W i u hu;exact⟨b,by rw[e,cM _ _ _ (),Ts h1];exact hb,lb.mono hm up⟩
 ·rw[Tr h1] at hu;by_cases h2:i=p
  ·rw[Ts h2] at hu;cases hu;exact⟨j,by rw[e,cM _ _ _ (),Tr h1,Ts h2],l.mono hm up⟩
  ·rw[Tr h2] at hu;obtain⟨b,hb,lb⟩:=W (i-1) u hu;exact⟨b,by rw[e,cM _ _ _ (),Tr h1,Tr h2];exact hb,lb.mono hm up⟩
theorem F4 (t:SetTable):∀(r:Nat) (p:Probe),r<=p.more->(adv t r p).j=p.j+r
 |0,_,_=>rfl
 |r+1,p,h=>by
  show (adv t r (t.advance p)).j=_;have e:t.advance p={ p with j:=p.j+1,more:=p.more-1 }:=by unfold advance;rw[Ts ()]
  rw[e,F4 t r _ (by show r<=p.more-1;lia)];show p.j+1+r=p.j+(r+1)
  lia
theorem zi {t:SetTable}  {j:Nat}:∀(fuel:Nat) (x:Nat×Nat),layClean.free t.mask owner fuel x.1 x.2=some j->∃k,k<10 * fuel/\(adv t k (stt t.mask x none)).j=j/\∀a,a<k->owner.getD (adv t a (stt t.mask x none)).j (some 0)≠none
 |0,_,h=>by cases h
 |fuel+1,x,h=>by
  unfold layClean.free at h;have hm:=AF t.mask x none;have hmr:(stt t.mask x none).more=runEnd t.mask x.1-x.1:=rfl;have hre:x.1<=runEnd t.mask x.1:=by unfold runEnd;split<;>lia
  have inr:∀r,r<=runEnd t.mask x.1-x.1->(adv t r (stt t.mask x none)).j=x.1+r:=fun r hr=>F4 t r _ hr;cases q:(List.range (runEnd t.mask x.1+1-x.1)).find? fun k=>(owner.getD (x.1+k) (some 0)).isNone with
  |some k=>
   rw[q] at h;cases h;have hk:k∈List.range (runEnd t.mask x.1+1-x.1):=Xf q;have hk':=Us.mp hk;refine⟨k,(),inr k (),fun a ha=>?_⟩;rw[inr a ()];intro z;obtain⟨l1,l2,e1,e2⟩:=List.find?_eq_some_iff_append.mp q |>.2;have hlen:l1.length=k:=by
    have e3:(List.range (runEnd t.mask x.1+1-x.1))[l1.length]?=some k:=by rw[e1,Vs (TB _),Nat.sub_self];rfl
    have hl:l1.length<(List.range (runEnd t.mask x.1+1-x.1)).length:=by rw[e1,Tz,TF];lia
    rw[Ua hl,List.getElem_range] at e3;exact Uh e3
   have ha1:a∈l1:=by
    have e4:(List.range (runEnd t.mask x.1+1-x.1))[a]?=some a:=by rw[Ua (by rw[VE];lia),List.getElem_range]
    rw[e1,VO ()] at e4;exact Vi e4
   have:=e2 a ha1;rw[z] at this;simp at this
  |none=>
   rw[q] at h;dsimp only at h;obtain⟨k,h1,h2,h3⟩:=zi fuel (leap t.mask x.1 x.2) h;have er:adv t ((stt t.mask x none).more+1) (stt t.mask x none)=stt t.mask (leap t.mask x.1 x.2) none:=xc t _ _ rfl;refine⟨(stt t.mask x none).more+1+k,(),by rw[d6,er];exact h2,fun a ha=>?_⟩;by_cases hq:a<=runEnd t.mask x.1-x.1
   ·rw[inr a hq];intro z;have:=WM.mp q a (Us.mpr ());rw[z] at this;exact this rfl
   ·obtain⟨b,rfl⟩:∃b,a=(stt t.mask x none).more+1+b:=⟨a-((stt t.mask x none).more+1),()⟩
    rw[d6,er];exact h3 b ()
theorem F5 {t:SetTable}:∀(n:Nat) (p:Probe),p.j+p.more<=t.mask->(adv t n p).j<=t.mask
 |0,p,h=>by show p.j<=_;lia
 |n+1,p,h=>by
  show (adv t n (t.advance p)).j<=_;refine F5 n _ ?_;unfold advance;split
  ·show p.j+1+(p.more-1)<=_;lia
  ·show (leap t.mask p.i p.perturb).1+(runEnd t.mask (leap t.mask p.i p.perturb).1-(leap t.mask p.i p.perturb).1)<=_;have:(leap t.mask p.i p.perturb).1<=t.mask:=Ws (V7 _ (VB _));unfold runEnd;split<;>lia
def Ix (t:SetTable)(h:Int)(n:Nat):(adv t n (t.probeStart h)).j<=t.mask:=by refine F5 n _ ?_;show bits h % (t.mask+1)+(runEnd t.mask (bits h % (t.mask+1))-bits h % (t.mask+1))<=_;have:bits h % (t.mask+1)<=t.mask:=Ws (V7 _ (VB _));unfold runEnd;split<;>lia
abbrev D1 (owner:Array (Option Nat))(b:Nat):Prop:=owner.getD b none≠none
theorem C4 {t:SetTable}(f:Full t.mask):∀(hs done:XD) (owner:Array (Option Nat)),LOk t.mask done.length owner->done.length+hs.length<=t.mask->(∀(i:Nat) h,done[i]?=some h->∃j,j<=t.mask/\owner.getD j none=some i/\Lies t h (D1 owner) j) ->
  ∃owner',hs.foldl (fun (acc:Option (Array (Option Nat)×Nat)) h=>do
   let (owner,k) ← acc
   let j ← layClean.free t.mask owner (turns t.mask) (bits h % (t.mask+1)) (bits h)
   pure (owner.setIfInBounds j (some k),k+1)) (some (owner,done.length))=some (owner',done.length+hs.length)/\LOk t.mask (done.length+hs.length) owner'/\∀(i:Nat) h,(done++hs)[i]?=some h->∃j,j<=t.mask/\owner'.getD j none=some i/\Lies t h (D1 owner') j
 |[],done,owner,o,_,h=>⟨owner,rfl,o,by rw[Um];exact h⟩
 |h::hs,done,owner,o,hk,hown=>by
  rw[TF] at hk ⊢;obtain⟨j0,hj0,e0⟩:=o.empty ();obtain⟨n,hn,e⟩:=vR f (bits h % (t.mask+1),bits h) (Ws (V7 _ (VB _))) (Jo h) hj0;obtain⟨j,ej,hj⟩:=we e0 (turns t.mask) n (bits h % (t.mask+1),bits h) (by unfold turns;lia) e;obtain⟨k,k1,k2,k3⟩:=zi (t:=t) (turns t.mask) (bits h % (t.mask+1),bits h) ej;have hs':=o.size;have hjm:j<t.mask+1:=by apply UJ;intro hn;simp[Array.getD,hs',hn] at hj
  have hj0:owner.getD j none=none:=by simp[Array.getD,hs',hjm] at hj ⊢;exact hj
  have gd:∀i,(owner.setIfInBounds j (some done.length)).getD i none=if i=j then some done.length else owner.getD i none:=fun i=>by
   by_cases e:i=j
   ·subst e;simp[Array.getD,hs',hjm]
   ·rw[Tr e];rw[WN,WN,Array.getElem?_setIfInBounds_ne (T3 e)]
  have up:∀b,D1 owner b->D1 (owner.setIfInBounds j (some done.length)) b:=fun b hb=>by
   unfold D1 at hb ⊢;rw[gd];split
   ·exact fun z=>by cases z
   ·exact hb
  have ol:LOk t.mask (done++[h]).length (owner.setIfInBounds j (some done.length)):=by rw[Tz];exact o.set hj
  obtain⟨ow,h1,h2,h3⟩:=C4 f hs (done++[h]) _ ol (by rw[Tz,T4];lia) fun i h' hi=>by
   by_cases q:i=done.length
   ·subst q;rw[Vs (TB _),Nat.sub_self] at hi;cases hi;refine⟨j,(),by rw[gd,Ts rfl],k,k1,k2,fun a ha=>up _ ?_⟩;have hb:=Ix t h a;have:=k3 a ha;unfold D1;have e5:(adv t a (t.probeStart h)).j<owner.size:=by rw[hs'];lia
    have e6:adv t a (stt t.mask (bits h % (t.mask+1),bits h) none)=adv t a (t.probeStart h):=rfl;rw[e6] at this;simp[Array.getD,e5] at this ⊢;exact this
   ·have hl:i<done.length:=by
     have:=(TR.mp hi).1;rw[Tz,T4] at this;lia
    rw[VO hl] at hi;obtain⟨j',hj',e',l'⟩:=hown i h' hi;refine⟨j',hj',?_,l'.mono rfl up⟩;rw[gd,Tr (fun z=>by rw[z,hj0] at e';cases e')];exact e'
  rw[Tz,T4] at h1 h2;rw[Ue] at h3;refine⟨ow,?_,by rw[show done.length+(hs.length+1)=done.length+1+hs.length by lia];exact h2,h3⟩;rw[Vx,show done.length+(hs.length+1)=done.length+1+hs.length by lia,<- h1];congr 1;show ((layClean.free t.mask owner (turns t.mask) (bits h % (t.mask+1)) (bits h)).bind fun j=>some (owner.setIfInBounds j (some done.length),done.length+1))=_;rw[ej];rfl
theorem zh {α:Type}(es:Array α):∀(l:List Nat) (i:Nat),(∀v∈l,v<es.size)->(l.filterMap (es[·]?))[i]?=(l[i]?).bind (es[·]?)
 |[],_,_=>rfl
 |v::l,i,h=>by
  have hv:=h v TD;rw[Uq,Uo hv];cases i with
  |zero=>rw[List.getElem?_cons_zero,List.getElem?_cons_zero];show some _=es[v]?;rw[Uo hv]
  |succ i=>rw[Wn,Wn];exact zh es l i fun u hu=>h u (TJ _ hu)
def GV {m finger moves:Nat}{led plain:Bool}(f:Full m)(es:Array (Int×Value))(h:es.size<=m):∃t order,laid m finger moves led plain (es.map (·.1))=some (t,order)/\t.mask=m/\t.dummies = #[]/\t.place.size=es.size/\Ris t.place/\order.toList.Perm (List.range es.size)/\t.led=led/\t.plain=plain/\Ways t (order.filterMap (es[·]?)):=by
 have gd:∀i,(Array.replicate (m+1) (none:Option Nat)).getD i none=none:=fun i=>by simp[Array.getD]
 have o0:LOk m 0 (Array.replicate (m+1) none):=by refine⟨Array.size_replicate,?_,fun j v hv=>by rw[gd] at hv;cases hv⟩;unfold liv;rw[U8,List.filterMap_eq_nil_iff];intro a _;rw[gd];rfl
 have hlen:([]:XD).length+(es.map (·.1)).toList.length<=m:=by simp;exact h
 obtain⟨ow,h1,h2,h3⟩:=C4 (t:={ mask:=m,place:=#[],dummies:=#[],finger,led,moves,plain }) f (es.map (·.1)).toList [] _ o0 hlen fun i h hi=>by cases hi
 rw[VC] at h3;rw[V6,U7,T6,WI] at h2;have e:layClean m (es.map (·.1))=some ow:=by unfold layClean;rw[<- Array.foldl_toList];refine (T7 (Option.map (·.1)) h1).trans rfl
 have hpm:((liv m ow).map (·.2)).Perm (List.range es.size):=by refine Dt WO (fun i hi=>?_) (by rw[VE,Tw,h2.len]);have hi':=Us.mp hi;obtain⟨j,hj,e,_⟩:=h3 i (es[i]).1 (by rw[Uy,Array.getElem?_map,Uo hi'];rfl);exact TC.mpr ⟨(j,i),VJ.mpr ⟨j,Us.mpr (Nat.lt_succ_of_le hj),by rw[e];rfl⟩,rfl⟩
 refine⟨_,_,by unfold laid;rw[e];rfl,rfl,rfl,?_,?_,hpm,rfl,rfl,?_⟩
 ·show ((liv m ow).map (·.1)).toArray.size=_;rw[TZ,Tw,h2.len]
 ·exact M4 (B4 (fun j=>ow.getD j none) (List.range (m+1)) List.pairwise_lt_range)
 ·intro i u hu;have hu':(((liv m ow).map (·.2)).filterMap (es[·]?))[i]?=some u:=by
   rw[<- Uy,Array.toList_filterMap] at hu;exact hu
  rw[zh es _ i fun v hv=>Us.mp (hpm.mem_iff.mp hv),TX] at hu';cases ql:(liv m ow)[i]? with
  |none=>rw[ql] at hu';cases hu'
  |some jv=>
   rw[ql] at hu';obtain⟨j,v⟩:=jv;have hv:es[v]?=some u:=hu';have hm:(j,v)∈liv m ow:=Vi ql;obtain⟨j',hj',e'⟩:=VJ.mp hm;have hov:ow.getD j none=some v:=by
    cases qo:ow.getD j' none with
    |none=>rw[qo] at e';cases e'
    |some v'=>rw[qo] at e';cases e';exact qo
   obtain⟨b,hb,eb,lb⟩:=h3 v u.1 (by rw[Uy,Array.getElem?_map,hv];rfl);have ebj:b=j:=by
    apply UJ;intro hne;have n1:((liv m ow).map (·.2)).Nodup:=hpm.nodup_iff.mpr WO;have m1:(b,v)∈liv m ow:=VJ.mpr ⟨b,Us.mpr (Nat.lt_succ_of_le hb),by rw[eb];rfl⟩;have:=Ur.mp n1;obtain⟨i1,hi1,e1⟩:=Vy m1;obtain⟨i2,hi2,e2⟩:=Vy hm;have hii:i1≠i2:=fun z=>by subst z;rw[e1] at e2;cases e2;exact hne rfl
    have hpw:=U5.mp this;rcases Nat.lt_or_gt_of_ne hii with z|z
    ·exact hpw i1 i2 hi1 hi2 z (by rw[e1,e2])
    ·exact hpw i2 i1 hi2 hi1 z (by rw[e1,e2])
   subst ebj;refine⟨b,?_,lb.mono rfl fun c hc=>?_⟩
   ·show ((liv m ow).map (·.1)).toArray[i]?=some b;rw[Xd,TX,ql];rfl
   ·obtain⟨v',hv'⟩:=Option.ne_none_iff_exists'.mp hc;have hcm:c<=m:=by
     apply UJ;intro hn;have hs:=h2.size;have hs':ow.size=m+1:=hs;simp[Array.getD,hs',show ¬c<m+1 by lia] at hv'
    have m2:(c,v')∈liv m ow:=VJ.mpr ⟨c,Us.mpr (Nat.lt_succ_of_le hcm),by rw[hv'];rfl⟩;obtain⟨i',hi',e2⟩:=Vy m2;refine⟨i',?_⟩;show ((liv m ow).map (·.1)).toArray[i']?=some c;rw[Xd,TX,Ua hi',e2];rfl
theorem tf {t:SetTable}(hd:t.dummies = #[])(hashAt:Nat->Int)(h:Int):∀(fuel k:Nat) (p:Probe),k<fuel->t.slot (adv t k p).j = .empty ->
  ∃a,a<=k/\(∀b,b<a->t.slot (adv t b p).j ≠ .empty/\∀i,t.slot (adv t b p).j = .live i->hashAt i≠h) /\
   ((t.slot (adv t a p).j = .empty/\probe.go t hashAt h fuel p=some (.empty (adv t a p).j p.dummy)) \/
    (∃i,t.slot (adv t a p).j = .live i/\hashAt i=h/\probe.go t hashAt h fuel p=some (.candidate (adv t a p).j i (adv t (a+1) p))))
 |0,_,_,hk,_=>()
 |fuel+1,k,p,hk,he=>by
  unfold probe.go;cases q:t.slot p.j with
  |empty=>exact⟨0,T9 _,fun b hb=>absurd hb (V9 _),.inl ⟨q,rfl⟩⟩
  |dummy=>exact absurd q (zL hd _)
  |live i=>
   cases k with
   |zero=>
    have:t.slot p.j = .empty:=he;rw[q] at this;cases this
   |succ k=>
    by_cases hh:hashAt i=h
    ·refine⟨0,T9 _,fun b hb=>absurd hb (V9 _),.inr ⟨i,q,hh,?_⟩⟩;have:(hashAt i==h)=true:=by simpa using hh
     show (if (hashAt i==h)=true then _ else _)=_;rw[Ts this];rfl
    ·have:¬(hashAt i==h)=true:=by simpa using hh
     have e:(if (hashAt i==h)=true then some (Met.candidate p.j i (t.advance p)) else probe.go t hashAt h fuel (t.advance p))=probe.go t hashAt h fuel (t.advance p):=Tr this;have hdm:(t.advance p).dummy=p.dummy:=by unfold advance;split<;>rfl
     obtain⟨a,h1,h2,h3⟩:=tf hd hashAt h fuel k (t.advance p) () he;refine⟨a+1,(),fun b hb=>?_,?_⟩
     ·cases b with
      |zero=>exact⟨fun z=>(by have z':t.slot p.j = .empty:=z;rw[q] at z';cases z'),fun i' hi=>(by have hi':t.slot p.j = .live i':=hi;rw[q] at hi';cases hi';exact hh)⟩
      |succ b=>exact h2 b ()
     ·rcases h3 with ⟨h4,h5⟩|⟨i',h4,h5,h6⟩
      ·refine .inl ⟨h4,?_⟩;show (if (hashAt i==h)=true then _ else _)=_;rw[e,h5,hdm];rfl
      ·refine .inr ⟨i',h4,h5,?_⟩;show (if (hashAt i==h)=true then _ else _)=_;rw[e,h6];rfl
section
variable {prog:Program}{w:World}{A:Around}{E:Xs}{s:Shared}
theorem qO  {o:Obj}{es:Array (Int×Value)}{ep:Nat}{t:SetTable}  {h:Int}(ho:s.heap.get? a=some o)(hd:o.data = .set es ep t)(hf:t.fits es.size=true)(hdum:t.dummies = #[])(hg:t.gaveWay=false)
  (hes:∀(i:Nat) h' y,es[i]?=some (h',y)->∃b,y = .ref b) (eqv:Nat->Bool)
  (heq:∀(i:Nat) h' y,es[i]?=some (h',y)->∀Q:Bool->Shared->Prop,Q (eqv i) s->wpAny (model prog w) A (eqBool y x) Q E s)
  (hseen:∀l:Xw,(∀y∈l,∃(i:Nat) (h':Int),es[i]?=some (h',y))->∀Q:Bool->Shared->Prop,Q false s->wpAny (model prog w) A (searchCouldBeSeen x l) Q E s)
  {Q:SetFound->Shared->Prop} (hF:∀c,c<10 * turns t.mask->t.slot (adv t c (t.probeStart h)).j = .empty->(∀b,b<c->t.slot (adv t b (t.probeStart h)).j ≠ .empty/\∀i e,t.slot (adv t b (t.probeStart h)).j = .live i->es[i]?=some e->e.1=h->eqv i=false)->Q (.free (adv t c (t.probeStart h)).j false) s)
  (hT:∀i,i<es.size->eqv i=true->Q (.there none) s) :
  ∀(fuel k c:Nat) (stand:Option Probe),k<fuel->c+k<10 * turns t.mask->stand.getD (t.probeStart h)=adv t c (t.probeStart h)->t.slot (adv t (c+k) (t.probeStart h)).j = .empty->(∀b,b<c->t.slot (adv t b (t.probeStart h)).j ≠ .empty/\∀i e,t.slot (adv t b (t.probeStart h)).j = .live i->es[i]?=some e->e.1=h->eqv i=false)->wpAny (model prog w) A (setSearchFrom a x h true fuel stand) Q E s
 |0,_,_,_,hk,_,_,_,_=>()
 |fuel+1,k,c,stand,hk,hk2,hst,he,hb=>by
  unfold setSearchFrom;refine Tq (Vo ho hd hf ?_);dsimp only;rw[hg];simp only[Uu,Uf];rw[hst];have hdm:(adv t c (t.probeStart h)).dummy=none:=by rw[vK];rfl
  split
  ·rename_i met hq;have hq':t.probe _ h (adv t c (t.probeStart h))=some met:=hq;unfold SetTable.probe at hq';obtain⟨b,h1,h2,h3⟩:=tf hdum _ h (10 * turns t.mask) k (adv t c (t.probeStart h)) () (by rw[<- d6];exact he);have hpre:∀u,u<c+b->t.slot (adv t u (t.probeStart h)).j ≠ .empty/\∀i e,t.slot (adv t u (t.probeStart h)).j = .live i->es[i]?=some e->e.1=h->eqv i=false:=fun u hu=>by
    by_cases huc:u<c
    ·exact hb u huc
    ·obtain⟨v,rfl⟩:∃v,u=c+v:=⟨u-c,()⟩
     rw[d6];refine⟨(h2 v ()).1,fun i e e1 e2 e3=>absurd ?_ ((h2 v ()).2 i e1)⟩;show ((es[i]?).map (·.1)).getD 0=h;rw[e2];exact e3
   rcases h3 with ⟨h4,h5⟩|⟨i,h4,h5,h6⟩
   ·cases hq'.symm.trans h5;rw[hdm];have:=hF (c+b) () (by rw[d6];exact h4) hpre;rw[d6] at this;exact Tt this
   ·cases hq'.symm.trans h6;have hsz:i<es.size:=by
     have:=J4 h4;simp only[SetTable.fits,UM,UK] at hf;lia
    obtain⟨⟨h',y⟩,ey⟩:∃e,es[i]?=some e:=⟨_,Uo hsz⟩
    obtain⟨r,rfl⟩:=hes i h' y ey;have sm:t.sameMemory t.moves t.mask=some true:=by simp[SetTable.sameMemory]
    have hbk:b<k:=by
     apply UJ;intro hn;have:b=k:=()
     subst this;rw[d6,h4] at he;cases he
    have more:eqv i=false->wpAny (model prog w) A (setSearchFrom a x h true fuel (some (adv t (b+1) (adv t c (t.probeStart h))))) Q E s:=fun hne=>by
     refine qO ho hd hf hdum hg hes eqv heq hseen hF hT fuel (k-(b+1)) (c+(b+1)) _ () () ?_ ?_ fun u hu=>?_
     ·show adv t (b+1) (adv t c (t.probeStart h))=_;rw[<- d6]
     ·rw[show c+(b+1)+(k-(b+1))=c+k by lia];exact he
     ·by_cases hub:u<c+b
      ·exact hpre u hub
      ·have:u=c+b:=()
       subst this;rw[d6];refine⟨fun z=>(by rw[h4] at z;cases z),fun i' e e1 e2 e3=>?_⟩;rw[h4] at e1;cases e1;exact hne
    dsimp only;cases hled:t.led with
    |true=>
     simp only[V5,Uu,Uf];rw[ey];dsimp only;refine Tq (Uw (heq i h' _ ey _ ?_));refine Tq (Vo ho hd hf ?_);cases hv:eqv i with
     |true=>
      simp only[Bool.and_true,UE];exact Tt (hT i hsz hv)
     |false=>
      simp only[Bool.and_false,Uu,Uf,sm,UE,h4,ey];refine Tq (wpAny_isSame_ref_self ?_);exact Tq (Tt (more hv))
    |false=>
     simp only[Bool.not_false,UE];refine Tq (hseen _ (fun y hy=>stored hy) _ ?_);simp only[Uu,Uf];rw[ey];dsimp only;refine Tq (Uw (heq i h' _ ey _ ?_));refine Tq (Vo ho hd hf ?_);cases hv:eqv i with
     |true=>
      simp only[Bool.and_true,UE];exact Tt (hT i hsz hv)
     |false=>simp only[Bool.and_false,Uu,Uf,sm,UE,h4,ey];refine Tq (wpAny_isSame_ref_self ?_);exact Tq (Tt (more hv))
  ·rename_i hq;obtain⟨b,h1,h2,h3⟩:=tf hdum _ h (10 * turns t.mask) k (adv t c (t.probeStart h)) () (by rw[<- d6];exact he);rcases h3 with ⟨_,h5⟩|⟨_,_,_,h6⟩
   ·exact (hq _ h5).elim
   ·exact (hq _ h6).elim
end
end ST
namespace ST
open PySem PySem.SetTable PyProof.Rows
section
variable {prog:Program}{w:World}{A:Around}{E:Xs}{s:Shared}
def Ff  {o:Obj}{es:Array (Int×Value)}{ep:Nat}{t:SetTable}{wanted:Nat}{Q:Unit->Shared->Prop}(ho:s.heap.get? a=some o)(hd:o.data = .set es ep t)(hf:t.fits es.size=true)
  (hm:Msk (sizeAbove wanted-1)) (hs:sizeAbove wanted<=512) (hn:es.size<=sizeAbove wanted-1)
  (h:∀es' t',TOk es.size t'->t'.mask=sizeAbove wanted-1->es'.size=es.size->Ris t'.place->t'.led=t.led->t'.plain=t.plain->Ways t' es'->es'.toList.Perm es.toList->Q Unit.unit { s with heap:=s.heap.update a (Obj.putSet es' t') }):wpAny (model prog w) A (setRelay a wanted) Q E s:=by
 unfold setRelay;refine Tq (Vo ho hd hf ?_);dsimp only;have hsl:¬sizeAbove wanted > sizeLine:=by rw[Uj];lia
 rw[Tr hsl];obtain⟨t',order,e1,e2,e3,e4,e5,e6,e7,e8,e9⟩:=GV (finger:=t.finger) (moves:=t.movedTo (sizeAbove wanted-1)) (led:=t.led) (plain:=t.plain) hm.full es hn;have er:t.relaid (es.map (·.1)) wanted=some (t',order):=e1;rw[er];have hp:(order.filterMap (es[·]?)).toList.Perm es.toList:=by rw[Array.toList_filterMap];exact En es e6
 have hz:(order.filterMap (es[·]?)).size=es.size:=by rw[<- T6,hp.length_eq,T6]
 refine Tq (UP (show _=pure (order.filterMap (es[·]?),t') from ?_) ?_)
 ·show (if ((order.filterMap (es[·]?)).size != es.size)=true then _ else pure (order.filterMap (es[·]?),t'))=_;rw[Tr (by rw[hz];simp)]
 ·exact wpAny_storeSet_of ho hd (h _ _ ⟨e2▸hm,e4,e3⟩ e2 hz e5 e7 e8 e9 hp) (by rw[hz,Uj];lia)
def F3  {o:Obj}{es:Array (Int×Value)}{ep:Nat}{t:SetTable}{r:Addr}{h:Int}{Q:Bool->Shared->Prop}(ho:s.heap.get? a=some o)(hd:o.data = .set es ep t)(ok:TOk es.size t)(hroom:es.size * 5<t.mask * 3)(hn:es.size<300)(ris:Ris t.place)(pl:t.plain=true)(W:Ways t es)
  (hes:∀(i:Nat) h' y,es[i]?=some (h',y)->∃b,y = .ref b) (eqv:Nat->Bool)
  (heq:∀(i:Nat) h' y,es[i]?=some (h',y)->∀Q:Bool->Shared->Prop,Q (eqv i) s->wpAny (model prog w) A (eqBool y (.ref r)) Q E s)
  (hseen:∀l:Xw,(∀y∈l,∃(i:Nat) (h':Int),es[i]?=some (h',y))->∀Q:Bool->Shared->Prop,Q false s->wpAny (model prog w) A (searchCouldBeSeen (.ref r) l) Q E s)
  (hby:∀Q:Bool->Shared->Prop,Q true s->wpAny (model prog w) A (hashByValue 8 (.ref r)) Q E s)
  (hT:∀i,i<es.size->eqv i=true->Q false s)
  (hQ:(∀(i:Nat) e,es[i]?=some e->e.1=h->eqv i=false)->∀es' ep' t' h'',h''.get? a=some { o with data:=.set es' ep' t' }->(∀b,b≠a->h''.get? b=s.heap.get? b)->TOk es'.size t'->es'.size=es.size+1->es'.size * 5<t'.mask * 3->Ris t'.place->t'.led=t.led->t'.plain=true->Ways t' es'->es'.toList.Perm ((h,.ref r)::es.toList)->Q true { s with heap:=h'' }) :
  wpAny (model prog w) A (setAddHashedIn a (.ref r) h 100000) Q E s:=by
 have hle:es.size<=t.mask:=()
 have hf:=ok.fits hle;show wpAny _ _ (setAddHashedIn a (.ref r) h (99999+1)) _ _ _;unfold setAddHashedIn;refine Tq (Vo ho hd hf ?_);dsimp only;have hb:byScan (.ref r) es=false:=rfl;rw[hb];simp only[Uu,Uf];obtain⟨j0,hj0,e0⟩:=Cb ok.dm (by rw[ok.pl];exact hle);obtain⟨k,hk,ek⟩:=Ah ok.msk.full h hj0;have hml:=ok.msk.le;refine Tq (qO ho hd hf ok.dm ok.msk.odd hes eqv heq hseen (fun c hc hce hcb=>?_) (fun i hi hv=>Tt (hT i hi hv)) 100000 k 0 none (by unfold turns at hk;lia) () rfl (by rw[U7,ek];exact e0) fun b hb=>absurd hb (V9 _));have none_eq:∀(i:Nat) e,es[i]?=some e->e.1=h->eqv i=false:=fun i e hi hh=>by
  obtain⟨j,hj,k0,hk0,hkj,hocc⟩:=W i e hi;rw[hh] at hkj hocc;have hlt:k0<c:=by
   apply UJ;intro hnl;by_cases hkc:k0=c
   ·subst hkc;rw[hkj,lH ris hj] at hce;cases hce
   ·obtain⟨i',hi'⟩:=hocc c ();rw[lH ris hi'] at hce;cases hce
  exact (hcb k0 hlt).2 i e (by rw[hkj];exact lH ris hj) hi hh
 have lies:Lies t h (Occ t) (adv t c (t.probeStart h)).j:=⟨c,hc,rfl,fun b hb=>My ok.dm (hcb b hb).1⟩
 generalize (adv t c (t.probeStart h)).j=j at hce lies;have hne:t.place[below t.place j]?≠some j:=fun z=>by rw[lH ris z] at hce;cases hce
 have hpb:below t.place j<=es.size:=by rw[<- ok.pl];exact (kl ris j).1
 have hm7:7<=t.mask:=by rcases ok.msk with h|h|h|h<;>lia
 have hpl1:(t.put j).1.place=insertAt t.place (below t.place j) j:=rfl;have hput:TOk (es.size+1) (t.put j).1:=⟨ok.msk,by show (insertAt t.place _ j).size=_;rw[md,ok.pl],by show (if has t.dummies j=true then _ else t.dummies)=_;rw[Tr (by rw[ok.dm];unfold has;simp)];exact ok.dm⟩
 have hris:Ris (t.put j).1.place:=ris.put hne;have hW:Ways (t.put j).1 (insertAt es (below t.place j) (h,.ref r)):=W.put (t':=(t.put j).1) rfl hpb ok.pl hpl1 lies;have hsz:(insertAt es (below t.place j) (h,Value.ref r)).size=es.size+1:=md _ _ _;have hpm:(insertAt es (below t.place j) (h,Value.ref r)).toList.Perm ((h,.ref r)::es.toList):=vf _ _ _ hpb;dsimp only;refine Tq (Vo ho hd hf ?_);dsimp only;have hpl2:(t.put j).1.plain=true:=pl;have e2:(t.put j).2=below t.place j:=rfl;rw[hpl2,Ts rfl];refine Tq (hby _ ?_);rw[Ts rfl,e2];have hled:(t.put j).1.led=t.led:=rfl;have hmk:(t.put j).1.mask=t.mask:=rfl;generalize (t.put j).1=t1 at *;generalize insertAt es (below t.place j) (h,Value.ref r)=es1 at *;refine Tq (wpAny_storeSet_of ho hd ?_ (by rw[hsz,Uj];lia));have g1:(s.heap.update a (Obj.putSet es1 t1)).get? a=some { o with data:=.set es1 (ep+1) t1 }:=by rw[U1 _ ho (by rw[putSet_of _ _ hd];rfl),putSet_of _ _ hd]
 by_cases hfull:t1.tooFull=true
 ·have hc:(!false&&t1.tooFull)=true:=by rw[hfull];rfl
  rw[Ts hc];have h2:t.mask * 3<=(es.size+1) * 5:=by unfold SetTable.tooFull SetTable.fill at hfull;rw[hput.pl,hput.dm,hmk] at hfull;have:=UX hfull;simpa using this
  obtain⟨m1,m2,m3⟩:=QB ok.msk hroom h2 hn;refine Tq (Ff g1 rfl (by rw[hsz];exact hput.fits ()) m1 m3 (by rw[hsz];lia) fun es' t' k1 k2 k3 k4 k5 k6 k7 k8=>Tt ?_);rw[hsz] at k1 k3;refine hQ none_eq es' (ep+1+1) t' _ (by rw[U1 _ g1 rfl];rfl) (fun b hb=>?_) (by rw[k3];exact k1) k3 (by rw[k3,k2];exact m2) k4 (by rw[k5,hled]) (by rw[k6,hpl2]) k7 (k8.trans hpm);rw[Wg _ _ (T3 hb),Wg _ _ (T3 hb)]
 ·have hc:¬(!false&&t1.tooFull)=true:=by simpa using hfull
  rw[Tr hc];refine Tt (hQ none_eq _ (ep+1) t1 _ g1 (fun b hb=>Wg _ _ (T3 hb)) (by rw[hsz];exact hput) hsz ?_ hris hled hpl2 hW hpm);rw[hsz,hmk];apply UJ;intro hx;refine hfull ?_;unfold SetTable.tooFull SetTable.fill;rw[hput.pl,hput.dm,hmk];exact Ux (by simp;lia)
end
end ST
namespace M
noncomputable def dT (ts:XC)(ns:XD):XC:=if ns∈ts then ts else ts++[ns]
noncomputable def bL (l:XC):XC:=l.foldl dT []
end M
namespace ST
open PySem PySem.SetTable PyProof.Rows
section
variable (prog:Program)(w:World)(T:Addr->XD->Prop)
def El (e:Int×Value)(ms:XD):Prop:=∃b,e.2 = .ref b/\T b ms/\e.1=tupleKeyHash (intKind prog w) ms
noncomputable def Els:List (Int×Value)->XC->Prop
 |[],[]=>True
 |e::l,u::us=>El prog w T e u/\Els l us
 |_,_=>False
end
section
variable {prog:Program}{w:World}{T:Addr->XD->Prop}
def yY {l l':List (Int×Value)}(p:l'.Perm l):∀ {us:XC},Els prog w T l us->∃us',Els prog w T l' us'/\us'.Perm us:=by
 induction p with
 |nil=>exact fun {us} h=>⟨us,h,.refl _⟩
 |cons x p ih=>
  intro us h;cases us with
  |nil=>exact h.elim
  |cons u us=>
   obtain⟨us',k1,k2⟩:=ih h.2;exact⟨u::us',⟨h.1,k1⟩,k2.cons u⟩
 |swap x y l=>
  intro us h;cases us with
  |nil=>exact h.elim
  |cons u us=>
   cases us with
   |nil=>exact h.2.elim
   |cons v us=>exact⟨v::u::us,⟨h.2.1,h.1,h.2.2⟩,.swap u v us⟩
 |trans p q ih1 ih2=>intro us h;obtain⟨us',k1,k2⟩:=ih2 h;obtain⟨us2,k3,k4⟩:=ih1 k1;exact⟨us2,k3,k4.trans k2⟩
theorem Bi:∀ {l:List (Int×Value)} {us:XC} {i:Nat} {e:Int×Value},Els prog w T l us->l[i]?=some e->∃u,us[i]?=some u/\El prog w T e u
 |[],_,_,_,_,h=>by cases h
 |_::_,[],_,_,h,_=>h.elim
 |e::l,u::us,0,_,h,k=>by cases k;exact⟨u,rfl,h.1⟩
 |e::l,u::us,i+1,_,h,k=>by obtain⟨v,h1,h2⟩:=Bi h.2 (by simpa using k);exact⟨v,by simpa using h1,h2⟩
theorem lu:∀ {l:List (Int×Value)} {us:XC},Els prog w T l us->us.length=l.length
 |[],[],_=>rfl
 |[],_::_,h=>h.elim
 |_::_,[],h=>h.elim
 |_::l,_::us,h=>by rw[TF,TF,lu h.2]
end
def SetU (prog:Program)(w:World)(T:Addr->XD->Prop)(h:Heap)(a:Addr)(led:Bool)(ts:XC):Prop:=∃o es ep t,h.get? a=some o/\o.ExactSet/\o.data = .set es ep t/\TOk es.size t/\es.size * 5<t.mask * 3/\Ris t.place/\t.plain=true/\t.led=led/\Ways t es/\∃us,Els prog w T es.toList us/\us.Perm ts
section
variable {prog:Program}{w:World}{A:Around}{E:Xs}{s:Shared}
def Ap {h0:Heap}{T:Addr->XD->Prop}(hT0:∀b ms,T b ms->∃ys,IsTup h0 b ys/\IntsAre ys.toList ms){a r:Addr}{led:Bool}{ns:XD}{ts:XC}{Q:Bool->Shared->Prop}(hu:A.units<cLine)(hk0:∀b o,h0.get? b=some o->s.heap.get? b=some o)(ha0:h0.get? a=none)(hS:SetU prog w T s.heap a led ts)(hr0:T r ns)(hn:ts.length<300)
  (h:∀h' tk r,SetU prog w T h' a led (M.dT ts ns)->(∀b,b≠a->h'.get? b=s.heap.get? b)->(∀b o,h0.get? b=some o->h'.get? b=some o)->Q r { s with heap:=h',toks:=tk }):wpAny (model prog w) A (setAdd a (.ref r)) Q E s:=by
 obtain⟨o,es,ep,t,ho,hex,hd,ok,hroom,ris,pl,le,W,us,hel,hp⟩:=hS;have hsz:es.size=ts.length:=by rw[<- hp.length_eq,lu hel,T6]
 have up:∀ {b:Addr} {ys:Array Value},IsTup h0 b ys->IsTup s.heap b ys:=fun⟨o',e1,e2⟩=>⟨o',hk0 _ _ e1,e2⟩
 obtain⟨xs,hx0,hi⟩:=hT0 r ns hr0;have hx:=up hx0;have hat:∀(i:Nat) e,es[i]?=some e->∃u,us[i]?=some u/\El prog w T e u:=fun i e he=>Bi hel (by rw[Uy];exact he);unfold setAdd;refine Uw ?_;refine Tq (wpAny_pyHash_tuple hu (fV (prog:=prog) (w:=w) hx hi) ?_);unfold setAddHashed;refine Uw ?_;refine F3 ho hd ok hroom () ris pl W (fun i h' y e=>?_) (fun i=>decide (us[i]?=some ns)) (fun i h' y e Q' q=>?_) (fun l hl Q' q=>?_) (fun Q' q=>Et hx hi q) (fun i hi' hv=>?_) fun hne es' ep' t' h'' k1 k2 k3 k4 k5 k6 k7 k8 k9 k10=>?_
 ·obtain⟨u,_,b,e1,_⟩:=hat i _ e;exact⟨b,e1⟩
 ·obtain⟨u,hu',b,e1,hb,_⟩:=hat i _ e;obtain⟨ys,hy,hj⟩:=hT0 b u hb;dsimp only at e1;subst e1;refine wpAny_eqBool_tuple hu (fV (prog:=prog) (w:=w) (up hy) hj) (fV hx hi) ?_;have:decide (us[i]?=some ns)=decide (u=ns):=by rw[hu'];simp
  rw[this] at q;exact q
 ·refine B8 (Q:=Q') (s:={ s with toks:=s.toks+(ns.length+1) }) hx hi l (fun y hy=>?_) q;obtain⟨i,h',e⟩:=hl y hy;obtain⟨u,_,b,e1,hb,_⟩:=hat i _ e;obtain⟨ys,e2,e3⟩:=hT0 b u hb;exact⟨b,ys,u,e1,up e2,e3⟩
 ·have hm:ns∈ts:=hp.mem_iff.mp (Vi (UX hv));refine h s.heap _ _ ?_ (fun _ _=>rfl) hk0;unfold M.dT;rw[Ts hm];exact⟨o,es,ep,t,ho,hex,hd,ok,hroom,ris,pl,le,W,us,hel,hp⟩
 ·have hnm:ns∉ts:=fun z=>by
   obtain⟨i,hi',e⟩:=Vy (hp.mem_iff.mpr z);have hl:i<es.size:=by rw[lu hel,T6] at hi';exact hi'
   obtain⟨u,hu',b,_,_,e5⟩:=hat i _ (Uo hl);have hun:u=ns:=by rw[Ua hi',e] at hu';exact (Uh hu').symm
   subst hun;have:=hne i _ (Uo hl) e5;exact UO this hu'
  have hel1:Els prog w T ((tupleKeyHash (intKind prog w) ns,Value.ref r)::es.toList) (ns::us):=⟨⟨r,rfl,hr0,rfl⟩,hel⟩
  obtain⟨us1,l1,l2⟩:=yY k10 hel1;refine h h'' _ _ ?_ k2 fun b o e=>by rw[k2 b fun z=>by rw[z,ha0] at e;cases e];exact hk0 b o e
  unfold M.dT;rw[Tr hnm];exact⟨_,es',ep',t',k1,⟨hex.1,hex.2.1,hex.2.2⟩,rfl,k3,k5,k6,k8,by rw[k7,le],k9,us1,l1,l2.trans ((hp.cons ns).trans (List.perm_append_singleton _ _).symm)⟩
def Ii  {h:Heap}{led:Bool}:SetU prog w T (h.push { cls:=.type "set",dict:=none,data:=.set #[] 0 (.fresh 0 0 led) }) h.objs.size led []:=
 ⟨_,#[],0,.fresh 0 0 led,T8 _ rfl,⟨rfl,rfl,rfl⟩,rfl,⟨.inl rfl,rfl,rfl⟩,show 0 * 5<7 * 3 by decide,fun i j a b hij ha hb=>by simp[SetTable.fresh] at ha,rfl,rfl,fun i e he=>by simp at he,[],trivial,.refl _⟩
def SetU.kept  {h':Heap}  {led:Bool}{ts:XC}(x:SetU prog w T h a led ts)(k:∀o,h.get? a=some o->h'.get? a=some o):SetU prog w T h' a led ts:=by obtain⟨o,es,ep,t,ho,r⟩:=x;exact⟨o,es,ep,t,k o ho,r⟩
def n4 (l:XC):(M.bL l).length<=l.length:=by
 have:∀(l acc:XC),(l.foldl M.dT acc).length<=acc.length+l.length:=by
  intro l;induction l with
  |nil=>intro acc;simp
  |cons a l ih=>
   intro acc;rw[Vx];have:=ih (M.dT acc a);have h2:(M.dT acc a).length<=acc.length+1:=by unfold M.dT;split<;>simp
   rw[TF];lia
 have:=this l [];simpa[M.bL] using this
def Bh (ns:XC){i:Nat}(hi:i<ns.length):M.bL (ns.take (i+1))=M.dT (M.bL (ns.take i)) ns[i]:=by
 have:ns.take (i+1)=ns.take i++[ns[i]]:=by simp
 rw[this];unfold M.bL;rw[Wy];rfl
end
section
variable {prog:Program}{w:World}{A:Around}{R:Result->Shared->Prop}{I:Addr}{fp wr:Xz}{n:Nat}{P:Nat->Value->Prop}{St:Nat->Heap->Prop}{h0:Heap}{led:Bool}
def FC {T:Addr->XD->Prop}(hT0:∀b ms,T b ms->∃ys,IsTup h0 b ys/\IntsAre ys.toList ms)(W:Walks prog w A.in1 I fp wr n P St)(S:Addr)(hSf:S∉fp)(hS0:h0.get? S=none)(hw0:∀b∈wr,h0.get? b=none)(hu:A.in1.units<cLine)(ts:XC)(hts:ts.length=n)(hn:n<=300)
  (hP:∀i v,P i v->∃r,v = .ref r/\T r (ts.getD i [])) :
  ∀(k i:Nat) (s:Shared),n-i=k->i<=n->St i s.heap->(∀b o,h0.get? b=some o->s.heap.get? b=some o)->SetU prog w T s.heap S led (M.bL (ts.take i)) ->
   (∀h' tk,(∀b o,h0.get? b=some o->h'.get? b=some o)->SetU prog w T h' S led (M.bL ts)->R (.ok (.ret .none)) { s with heap:=h',toks:=tk }) ->
   codeAny (model prog w) A (.builtin "set.update.loop" ⟨[.ref S,.ref I],[]⟩) R s:=by
 have hSw:S∉wr:=fun h=>hSf (W.sub _ h);intro k;induction k with
 |zero=>
  intro i s hk hi hst hkp hS hR;have hin:i=n:=()
  subst hin;refine Wa PyProof.Rows.F.entry_set_update_loop ?_;rw[Ww Xg _];refine Tq (W.done s _ _ hst fun h' tk hk'=>?_);refine Tt (hR h' tk (fun b o e=>hk' b o (fun z=>by rw[hw0 b z] at e;cases e) (hkp b o e)) ?_);have:=hS.kept fun o e=>hk' S o hSw e;rw[Wl ()] at this;exact this
 |succ k ih=>
  intro i s hk hi hst hkp hS hR;have hlt:i<n:=()
  refine Wa PyProof.Rows.F.entry_set_update_loop ?_;rw[Ww Xg _];refine Tq (W.item i s _ _ hlt hst fun v h' tk hv hst' hk'=>?_);obtain⟨r,rfl,hxi⟩:=hP i v hv;have hkp':∀b o,h0.get? b=some o->h'.get? b=some o:=fun b o e=>hk' b o (fun z=>by rw[hw0 b z] at e;cases e) (hkp b o e);have hil:i<ts.length:=()
  have eg:ts.getD i []=ts[i]:=by simp[hil]
  rw[eg] at hxi;refine Tq (Uw (Ap hT0 hu hkp' hS0 (hS.kept fun o e=>hk' S o hSw e) hxi (by have:=n4 (ts.take i);rw[VN] at this;lia) fun h2 tk2 r' q1 q2 q3=>?_));rw[<- Bh ts hil] at q1;refine Tt ⟨plainId_quiet Xg _,ih (i+1) _ () hlt (W.frame _ _ _ hst' fun b hb o e=>?_) q3 q1 fun h3 tk3 z1 z2=>hR h3 tk3 z1 z2⟩;show h2.get? b=some o;rw[q2 b fun z=>hSf (z▸hb)];exact e
end
section
variable {prog:Program}{w:World}{A:Around}{E:Xs}{s:Shared}
def km   {ts:XC}{Q:Xs}
  (hh:A.handled=none) (hu:A.units+64<cLine) (hl:s.heap.IsList l items) (hts:ts.length=items.size) (hn:items.size<=300)
  (hP:∀(i:Nat) v,items[i]?=some v->∃r xs,v = .ref r/\IsTup s.heap r xs/\IntsAre xs.toList (ts.getD i []))
  (h:∀(h':Heap) (tk:Nat),SetU prog w (fun b ms=>∃i:Nat,items[i]?=some (.ref b)/\ts.getD i []=ms) h' s.heap.objs.size (!w.params.followText "set-order") (M.bL ts)->(∀b o,s.heap.get? b=some o->h'.get? b=some o)->Q (.ref s.heap.objs.size) { s with heap:=h',toks:=tk }) :
  wpAny (model prog w) A (call (.type "set") [.ref l]) Q E s:=by
 obtain⟨c,tl,hmro⟩:=VF.mro;have hmade:=VF.made;have hsub:=VF.sub;generalize eled:(!w.params.followText "set-order")=led at h;refine wpAny_call (codeAny_of_tree ?_);show wpAny _ _ (callAny (.type "set") _) _ _ _;refine Tt ⟨Code.quiet_builtin _ (by decide +kernel),Wa F.entry_type_call ?_⟩;rw[Around.under_plain (weight_type_call_type "set" [.ref l] []) rfl];have h1:=VF.notType;have h2:=VF.canCreate;have hct:=F.typeCall_set_1 (.ref l)
 repeat (any_goals (first|assumption|wp_step))
 refine VT (Il (.ref l) (E:=E) (Q₁:=fun obj s₁=>obj = .ref s.heap.objs.size/\s₁={ s with heap:=s.heap.push { cls:=.type "set",dict:=none,data:=.set #[] 0 (.fresh 0 0 led) } }) ⟨rfl,by rw[eled]⟩) fun r s₁ hr=>?_;cases r with
 |error e=>exact hr
 |ok fl=>
  cases fl with
  |ret obj=>
   obtain⟨rfl,rfl⟩:=hr;have hS:(s.heap.push { cls:=.type "set",dict:=none,data:=.set #[] 0 (.fresh 0 0 led) }).get? s.heap.objs.size=some { cls:=.type "set",dict:=none,data:=.set #[] 0 (.fresh 0 0 led) }:=T8 _ rfl;have hT:Shared.TypeIs { s with heap:=s.heap.push { cls:=.type "set",dict:=none,data:=.set #[] 0 (.fresh 0 0 led) } } (.ref s.heap.objs.size) "set" := ⟨_,hS,rfl⟩
   have hli:=VF.init.lookup;have hbi:=VF.init.bind (.ref s.heap.objs.size)
   repeat (any_goals (first|assumption|wp_step))
   refine VT (codeAny_call_builtin (R:=wants (fun r s₂=>r = .none/\∃h' tk,s₂={ s with heap:=h',toks:=tk }/\SetU prog w (fun b ms=>∃i:Nat,items[i]?=some (.ref b)/\ts.getD i []=ms) h' s.heap.objs.size led (M.bL ts)/\(∀b o,s.heap.get? b=some o->h'.get? b=some o)) E) VF.init.plain F.entry_set_init (check_set_init_1 hT ?_)) fun r₂ s₂ hr₂=>?_
   ·obtain⟨ol,hol,hcl,nl,hdl⟩:=hl;obtain⟨ocls,odict,odata,oslots⟩:=ol;simp only at hcl hdl;subst hcl;subst hdl;have hol':(s.heap.push { cls:=.type "set",dict:=none,data:=.set #[] 0 (.fresh 0 0 led) }).get? l=some { cls:=.type "list",dict:=odict,data:=.seq items nl,slots:=oslots }:=TU _ hol;have hsls:=F.sub_list_set;have hslf:=F.sub_list_frozenset;have hne:(Value.type "list" == Value.type "dict")=false:=by decide
    have hl1:(s.heap.push { cls:=.type "set",dict:=none,data:=.set #[] 0 (.fresh 0 0 led) }).IsList l items:=⟨_,hol',rfl,nl,rfl⟩
    unfold Builtin.«set.__init__» noKeywords Builtin.Frozenset.updateFrom;generalize hPI:pyIter=PI
    wp_walk
    subst hPI;refine wpAny_pyIter_list hl1 ?_;refine Tq (wpAny_runValue ?_);have hlS:l<s.heap.objs.size:=TW hol;have hh3:A.in1.in1.in1.handled=none:=by simp[hh]
    have hneI:l≠(s.heap.push { cls:=.type "set",dict:=none,data:=.set #[] 0 (.fresh 0 0 led) }).objs.size:=by rw[VL];exact T2 (VY hlS)
    have hSf:s.heap.objs.size∉[(s.heap.push { cls:=.type "set",dict:=none,data:=.set #[] 0 (.fresh 0 0 led) }).objs.size,l]:=by rw[VL];simp only[TN,Tv,List.not_mem_nil,or_false,not_or];exact⟨T2 (VM _),Wd hlS⟩
    have hno:∀b,s.heap.objs.size<=b->s.heap.get? b=none:=fun b hb=>by
     cases q:s.heap.get? b with
     |none=>rfl
     |some o=>exact absurd (TW q) (Nat.not_lt.mpr hb)
    have hold:∀b o,s.heap.get? b=some o->((s.heap.push { cls:=.type "set",dict:=none,data:=.set #[] 0 (.fresh 0 0 led) }).push { cls:=.type "list_iterator",data:=.fields #[.ref l,.int 0 0] }).get? b=some o:=fun b o e=>TU _ (TU _ e)
    refine FC (h0:=s.heap) (led:=led) (T:=fun b ms=>∃i:Nat,items[i]?=some (.ref b)/\ts.getD i []=ms) (fun b ms ⟨i,e1,e2⟩=>by obtain⟨r,xs,e3,e4,e5⟩:=hP i _ e1;cases e3;exact⟨xs,e4,by rw[<- e2];exact e5⟩) (Walks.list hh3 _ l hneI items) s.heap.objs.size hSf (hno _ (TB _)) (fun b hb=>?_) (by show A.units+1+1+1<cLine;lia) ts hts hn (fun i v hv=>by obtain⟨r,xs,e3,e4,e5⟩:=hP i v hv;subst e3;exact⟨r,rfl,i,hv,rfl⟩) (items.size-0) 0 _ () (T9 _)
     ⟨⟨_,T8 _ rfl,rfl,rfl⟩,(hl1.push _)⟩ hold ?hS0 ?hR
    ·rw[Tv.mp hb,VL];exact hno _ (We _)
    case hS0=>
     rw[List.take_zero];exact (Ii (h:=s.heap) (led:=led)).kept fun o e=>TU _ e
    case hR=>
     intro h' tk' hk' hS';show wpAny _ _ _ _ _ _;refine Tt ?_;show wpAny _ _ (ret Value.none) _ _ _;exact Tt ⟨rfl,h',tk',rfl,hS',hk'⟩
   ·cases r₂ with
    |error e=>exact hr₂
    |ok fl₂=>
     cases fl₂ with
     |ret r=>
      obtain⟨rfl,h',tk,rfl,hS',hk'⟩:=hr₂
      repeat (any_goals (first|assumption|wp_step))
      exact h _ _ hS' hk'
     |_=>exact hr₂.elim
  |_=>exact hr.elim
end
section
variable {prog:Program}{w:World}{A:Around}{E:Xs}{s:Shared}{S:Addr}
def Jv:∀ {l:List (Int×Value)} {us:XC} {i:Nat} {v:Value},Els prog w T l us->(l.map (·.2))[i]?=some v->∃b u,v = .ref b/\T b u/\us[i]?=some u:=fun {l us i v} h k=>by
 rw[TX] at k;cases q:l[i]? with
 |none=>rw[q] at k;cases k
 |some e=>rw[q] at k;cases k;obtain⟨u,h1,b,h2,h3,_⟩:=Bi h q;exact⟨b,u,h2,h3,h1⟩
def Ax {h0:Heap}{T:Addr->XD->Prop}(hT0:∀b ms,T b ms->∃ys,IsTup h0 b ys/\IntsAre ys.toList ms)(hk0:∀b o,h0.get? b=some o->s.heap.get? b=some o){ts:XC}{Q:Xs}(hh:A.handled=none)(hS:SetU prog w T s.heap S (!w.params.followText "set-order") ts) (hn:ts.length<=300) (hne:∀u∈ts,u≠[])
  (h:∀h' tk l c (out:Array Value) (us:XC),s.heap.objs.size<=l->h'.get? l=some (seqObj "list" out c)->us.Perm ts->us.Pairwise (fun a b=>Srt.f7 b a=false)->out.size=us.length->(∀(i:Nat) v,out[i]?=some v->∃b,v = .ref b/\T b (us.getD i []))->(∀b o,s.heap.get? b=some o->h'.get? b=some o)->Q (.ref l) { s with heap:=h',toks:=tk }) :
  wpAny (model prog w) A (call (.builtin "sorted") [.ref S]) Q E s:=by
 obtain⟨o,es,ep,t,ho,hex,hd,ok,room,ris,pl,le,_,us0,hel,hp⟩:=hS;have hsz:es.size=ts.length:=by rw[<- hp.length_eq,lu hel,T6]
 have hW:WSet w s.heap S es ep t:=⟨⟨o,ho,hex,hd⟩,ok.fits (),ris,le,pl⟩
 refine W4 kind_sorted plain_sorted entry_sorted (args_sorted1 (.ref S)) ?_;unfold Builtin.«sorted»;refine Tq (m:=checkCount "sorted" 1 1 _) (Tt (Tq (yT hh hW () fun h1 tk1 vs hl hv old1 hge=>?_)));have evs:vs=(kP w S ep es).toList.map (·.2):=by
  apply V2;intro i;rw[TX,Uy (xs:=kP w S ep es)];cases q:vs[i]? with
  |none=>
   rw[Vn,hl] at q;rw[Xa (by rw[ue];exact q)];rfl
  |some v=>obtain⟨e,e1,e2⟩:=hv i v q;rw[e1,e2];rfl
 have po:(kP w S ep es).toList.Perm es.toList:=by
  unfold kP;split
  ·exact wF _ es
  ·exact .refl _
 obtain⟨us1,he1,hp1⟩:=yY po hel;have hlu:us1.length=vs.length:=by rw[lu he1,evs,Tw]
 have hat:∀i,i<vs.length->∃b,vs.getD i Value.none = .ref b/\T b (us1.getD i []):=fun i hi=>by
  have hq:((kP w S ep es).toList.map (·.2))[i]?=some vs[i]:=by rw[<- evs];exact Ua hi
  obtain⟨b,u,e1,e2,e3⟩:=Jv he1 hq;refine⟨b,by rw[Vz,Ua hi];exact e1,?_⟩;rw[Vz,e3];exact e2
 have hz:vs.length<=sizeLine:=by rw[hl,Uj];lia
 refine Tq (wpAny_newList ?_ hz);have at1:(h1.push (seqObj "list" vs.toArray 0)).get? h1.objs.size=some (seqObj "list" vs.toArray 0):=T8 _ rfl;refine Tq (Uw (UF slot_list_sort ⟨_,at1,rfl⟩ entry_list_sort (Srt.zw (κ:=tuples' true) (le:=fun i j=>Srt.f7 (us1.getD j []) (us1.getD i [])=false) (Srt.zt fun i=>us1.getD i []) at1 hz (fun h' kp=>Srt.tF fun i hi=>?_) fun p hp2 ha=>⟨_,rfl,Tt ⟨_,rfl,?_⟩⟩) (args_list_sort _)))
 ·obtain⟨b,e1,e2⟩:=hat i hi;obtain⟨ys,⟨ob,f1,f2,n,f3⟩,f4⟩:=hT0 b _ e2;have hold:=old1 b ob (hk0 b ob f1);have hlt:=TW hold;refine⟨⟨b,ob,ys,n,e1,kp b ob (T2 hlt) (TU _ hold),f2,f3,f4⟩,?_⟩;have hm:us1.getD i []∈us1:=by
   rw[Vz,Ua ()];exact V0 _
  exact hne _ (hp.mem_iff.mp (hp1.mem_iff.mp hm))
 obtain⟨c,at2⟩:=sortedHeap_at (out:=Srt.fT vs p) at1;have hb:∀i∈p.toList,i<vs.length:=fun i hi=>by simpa using (VZ.mp hp2).mem_iff.mp hi
 have hp3:=hp2;rw[<- hlu] at hp2 ha;obtain⟨p1,p2⟩:=Srt.xO (vs:=us1) (d:=[]) hp2 ha;have hps:p.size=vs.length:=by rw[hp3.size_eq];simp
 have hos:(Srt.fT vs p).size=vs.length:=Srt.uf hps;refine h _ tk1 h1.objs.size c (Srt.fT vs p) _ hge at2 (p1.trans (hp1.trans hp)) (p2 _ fun i j _ _ h=>h) ?_ (fun i v hv=>?_) fun b o e=>?_
 ·rw[hos,Tw,<- hps];exact (T6 (xs:=p)).symm
 ·have hi:i<p.size:=by have:=(Vc.mp hv).1;lia
  have e1:v=vs.getD p[i] Value.none:=by
   have e2:(Srt.fT vs p)[i]?=some (vs.getD p[i] Value.none):=by simp[Srt.fT,hi]
   rw[e2] at hv;exact (Uh hv).symm
  obtain⟨b,e3,e4⟩:=hat p[i] (hb _ (by simp));refine⟨b,by rw[e1];exact e3,?_⟩;have e5:(p.toList.map fun i=>us1.getD i []).getD i []=us1.getD p[i] []:=by rw[Vz,TX,Uy,Uo hi];rfl
  rw[e5];exact e4
 ·have hlt:=TW (old1 b o e);rw[sortedHeap_old (T2 hlt) (by rw[size_push'];exact VY hlt)];exact TU _ (old1 b o e)
end
end ST
namespace L2
open PySem
noncomputable def uO (K:Xy)(ta:TE):TE:=fun σ H Q=>ta σ H fun x H1=>∃p vs,∃ts:XC,x = .ref p/\SqL K H1 p vs/\ts.length=vs.length/\ts.length<=300/\(∀(i:Nat) v,vs[i]?=some v->∃a,v = .ref a/\SqT K H1 a ((ts.getD i []).map V.int))/\∀l,H1 l=none->Q (.int ((M.bL ts).length:Nat)) (upd H1 l (.own l))
noncomputable def QE (K:Xy)(Q:VK):Xo->Hp->Prop:=fun ws H1=>match ws with|[x]=>∃p vs,∃ts:XC,x = .ref p/\SqL K H1 p vs/\ts.length=vs.length/\ts.length<=300/\(∀(i:Nat) v,vs[i]?=some v->∃a,v = .ref a/\SqT K H1 a ((ts.getD i []).map V.int))/\∀l,H1 l=none->Q (.int ((M.bL ts).length:Nat)) (upd H1 l (.own l))|_=>False
def stK (K:Xy)(Q:VK)(x:V)(H1:Hp):Prop:=∃p,∃yks:List (V×XD),x = .ref p/\SqL K H1 p (yks.map (·.1))/\yks.length<=300/\(∀yk∈yks,∃q,yk.1 = .ref q/\SqT K H1 q (yk.2.map V.int)/\yk.2≠[]) /\
 ∀(zks:List (V×XD)) l,(zks.map (·.2)).Perm (M.bL (yks.map (·.2)))->(∀z∈zks,z∈yks)->zks.Pairwise (fun a b=>HT.bM b.2 a.2=false)->H1 l=none->Q (.ref l) (upd H1 l (.lst (zks.map (·.1))))
noncomputable def p9 (K:Xy)(ta:TE):TE:=fun σ H Q=>ta σ H (stK K Q)
noncomputable def QV (K:Xy)(Q:VK):Xo->Hp->Prop:=fun vs H1=>match vs with|[x]=>stK K Q x H1|_=>False
noncomputable def toV:Value->V
 |.ref b=>.ref b
 |_=>.non
theorem AH:∀ {l:Xw},(∀v∈l,∃b,v=Value.ref b)->Vals (l.map toV) l
 |[],_=>.nil
 |v::l,h=>by obtain⟨b,rfl⟩:=h v TD;exact .cons rfl (AH fun v hv=>h v (TJ _ hv))
def EN  {u:XD}(h:u∈M.bL l):u∈l:=by
 have key:∀(l acc:XC),u∈l.foldl M.dT acc->u∈acc\/u∈l:=by
  intro l;induction l with
  |nil=>intro acc h;exact .inl h
  |cons a l ih=>
   intro acc h;rw[Vx] at h;rcases ih _ h with h|h
   ·unfold M.dT at h;split at h
    ·exact .inl h
    ·rcases TH.mp h with h|h
     ·exact .inl h
     ·exact .inr (TN.mpr (.inl (Tv.mp h)))
   ·exact .inr (TJ _ h)
 rcases key l [] h with h|h
 ·cases h
 ·exact h
section
variable {X:Cx}
def BV  {ta:TE}{pl pr pos pos':Pos}(hu:X.A.units+64<cLine)(hl:X.mg "len" = none) (hs:X.mg "set" = none) (ha:PE X a ta) (gl:Gl X "len" := by rfl) (gs:Gl X "set" := by rfl) (hc:X.calm=true:=by rfl)
  (he:starEach [.Call (.Name "set" pr) [a] [] pos'] X.env=(false,eval (.Call (.Name "set" pr) [a] [] pos') X.env)::starEach [] X.env:=by rfl) (he1:starEach [a] X.env=(false,eval a X.env)::starEach [] X.env:=by rfl)
  (hp0:(backTo pos (starEach [] X.env)).any (·.1)=false:=by rfl) (hp1:(backTo pos' (starEach [] X.env)).any (·.1)=false:=by rfl) :
  PE X (.Call (.Name "len" pl) [.Call (.Name "set" pr) [a] [] pos'] [] pos) (uO X.K ta):=by
 intro pins s σ H Q I h;have h':ie ta p8 σ H (QE X.K Q):=h;refine Vr (g6 I gl hl A2 (WY ?_ he hp0));rw[he];show wpAny (model X.prog X.w) X.A (spliced ((false,eval (.Call (.Name "set" pr) [a] [] pos') X.env)::backTo pos (starEach [] X.env))) _ _ s;refine Calls.spliced_cons (Vr (g6 I gs hs Gg (VI (thn (aW ha bn he1 pos' pins s σ H _ I h') fun us s1 h1=>?_) he1 hp1)));obtain⟨ws,H1,I1,r1,q⟩:=h1;cases r1 with
 |nil=>exact q.elim
 |cons rx r1=>
  cases r1 with
  |cons _ _=>exact q.elim
  |nil=>?_
  obtain⟨p,vs,ts,e,hS,hlen,h300,hT,q⟩:=q;subst e;cases rx;obtain⟨its,rv,lp,hz⟩:=I1.list hS;have hlv:=rv.length;refine ST.km (ts:=ts) (I.ok.hd hc) hu lp.isList (by rw[TZ];lia) (by rw[TZ];lia) (fun i v hv=>?_) fun h2 tk hS2 old=>Calls.spliced_nil ?_
  ·have hv':its[i]?=some v:=by simpa using hv
   have hi':i<vs.length:=by have:=(TR.mp hv').1;lia
   obtain⟨a,ea,ha'⟩:=hT i _ (Ua hi');obtain⟨w',hw,rw'⟩:=rv.get (Ua hi');rw[ea] at rw';cases rw';rw[hv'] at hw;cases hw;obtain⟨i1,r1,p1,_⟩:=I1.tuple ha';exact⟨a,i1.toArray,rfl,p1,by simpa using tw r1⟩
  ·obtain⟨o,es,ep,t,ho,hex,hd,ok,hroom,_,_,_,_,us,hel,hp⟩:=hS2;have hsz:es.size=(M.bL ts).length:=by rw[<- hp.length_eq,ST.lu hel,T6]
   have hd3:=ST.n4 ts;have hf:t.fits es.size=true:=ok.fits ();refine call_len_set ho hex hd hf () ?_;rw[hsz];exact⟨.int ((M.bL ts).length:Nat),_,I1.laid (a:=s1.heap.objs.size) (o:=.own s1.heap.objs.size) (h':=h2) (t':=_) (fun b o e=>old b o e) (TB _) ⟨_,ho⟩,⟨_,rfl⟩,q _ (I1.hok.fresh (TB _))⟩
def zX  {ta:TE}{pl pr pos pos':Pos}(hu:X.A.units+64<cLine)(hl:X.mg "sorted" = none) (hs:X.mg "set" = none) (ha:PE X a ta) (gl:Gl X "sorted" := by rfl) (gs:Gl X "set" := by rfl) (hc:X.calm=true:=by rfl)
  (he:starEach [.Call (.Name "set" pr) [a] [] pos'] X.env=(false,eval (.Call (.Name "set" pr) [a] [] pos') X.env)::starEach [] X.env:=by rfl) (he1:starEach [a] X.env=(false,eval a X.env)::starEach [] X.env:=by rfl)
  (hp0:(backTo pos (starEach [] X.env)).any (·.1)=false:=by rfl) (hp1:(backTo pos' (starEach [] X.env)).any (·.1)=false:=by rfl) :
  PE X (.Call (.Name "sorted" pl) [.Call (.Name "set" pr) [a] [] pos'] [] pos) (p9 X.K ta):=by
 intro pins s σ H Q I h;have h':ie ta p8 σ H (QV X.K Q):=h;refine Vr (g6 I gl hl gy (WY ?_ he hp0));rw[he];show wpAny (model X.prog X.w) X.A (spliced ((false,eval (.Call (.Name "set" pr) [a] [] pos') X.env)::backTo pos (starEach [] X.env))) _ _ s;refine Calls.spliced_cons (Vr (g6 I gs hs Gg (VI (thn (aW ha bn he1 pos' pins s σ H _ I h') fun us s1 h1=>?_) he1 hp1)));obtain⟨vs,H1,I1,r1,q⟩:=h1;cases r1 with
 |nil=>exact q.elim
 |cons rx r1=>
  cases r1 with
  |cons _ _=>exact q.elim
  |nil=>?_
  obtain⟨p,yks,e,hS,hlen,hY,q⟩:=q;subst e;cases rx;obtain⟨its,rv,lp,hz⟩:=I1.list hS;have hlv:=rv.length;rw[Tw] at hlv;have hat:∀(i:Nat) v,its.toArray[i]?=some v->∃r,∃hi:i<yks.length,v = .ref r/\yks[i].1=V.ref r/\SqT X.K H1 r (yks[i].2.map V.int)/\yks[i].2≠[]/\(yks.map (·.2)).getD i []=yks[i].2:=fun i v hv=>by
   have hv':its[i]?=some v:=by simpa using hv
   have hi':i<yks.length:=by have:=(TR.mp hv').1;lia
   obtain⟨r,e1,e2,e3⟩:=hY yks[i] (V0 hi');obtain⟨w',hw,rw'⟩:=rv.get (i:=i) (x:=yks[i].1) (by rw[TX,Ua hi'];rfl);rw[e1] at rw';cases rw';rw[hv'] at hw;cases hw;exact⟨r,hi',rfl,e1,e2,e3,by rw[Vz,TX,Ua hi'];rfl⟩
  have hP:∀(i:Nat) v,its.toArray[i]?=some v->∃r xs,v = .ref r/\PyProof.Rows.IsTup s1.heap r xs/\PyProof.Rows.IntsAre xs.toList ((yks.map (·.2)).getD i []):=fun i v hv=>by obtain⟨r,hi,e1,_,e2,_,e3⟩:=hat i v hv;obtain⟨i1,r1,p1,_⟩:=I1.tuple e2;exact⟨r,i1.toArray,e1,p1,by rw[e3];simpa using tw r1⟩
  refine ST.km (ts:=yks.map (·.2)) (I.ok.hd hc) hu lp.isList (by rw[TZ,Tw];lia) (by rw[TZ];lia) hP fun h2 tk hS2 old=>Calls.spliced_nil ?_;have hd3:=ST.n4 (yks.map (·.2));rw[Tw] at hd3;have hnl0:s1.heap.objs.size<=h2.objs.size:=by obtain⟨o2,_,_,_,ho2,_⟩:=hS2;exact Ut (TW ho2)
  refine ST.Ax (s:={ s1 with heap:=h2,toks:=tk }) (h0:=s1.heap) (T:=fun b ms=>∃i:Nat,its.toArray[i]?=some (.ref b)/\(yks.map (·.2)).getD i []=ms) (fun b ms ⟨i,e1,e2⟩=>?_) old (I.ok.hd hc) hS2 () (fun u hu'=>?_) fun h3 tk3 l c out us hl3 at3 pm pw hos hout old3=>?_
  ·obtain⟨r,xs,e3,e4,e5⟩:=hP i _ e1;cases e3;exact⟨xs,e4,by rw[<- e2];exact e5⟩
  ·obtain⟨yk,e1,e2⟩:=TC.mp (EN hu');obtain⟨_,_,_,e3⟩:=hY yk e1;rw[<- e2];exact e3
  have hnl:s1.heap.objs.size<=l:=Ud hnl0 hl3;have hvo:Vals (out.toList.map toV) out.toList:=AH fun v hv=>by obtain⟨i,hi,e⟩:=Vy hv;obtain⟨b,e1,_⟩:=hout i v (by rw[<- Uy,Ua hi,e]);exact⟨b,e1⟩
  have hle:(out.toList.map toV).length=us.length:=by rw[Tw,T6,hos]
  have z1:((out.toList.map toV).zip us).map (·.1)=out.toList.map toV:=List.map_fst_zip ();have z2:((out.toList.map toV).zip us).map (·.2)=us:=List.map_snd_zip ();have hq:=q ((out.toList.map toV).zip us) l (by rw[z2];exact pm) (fun z hz=>?_) ((Ur (f:=fun z:V×XD=>z.2) (R:=fun a b:XD=>HT.bM b a=false)).mp (by rw[z2];exact pw.imp fun {a b} e=>by rw[<- tL];exact e)) (I1.hok.fresh hnl)
  ·rw[z1] at hq;exact⟨.ref l,upd H1 l (.lst (out.toList.map toV)),I1.laid (a:=l) (o:=.lst (out.toList.map toV)) (h':=h3) (t':=tk3) (fun b o e=>old3 b o (old b o e)) hnl ⟨by rw[hle,pm.length_eq,Uj];lia,out.toList,c,hvo,by simpa using at3⟩,rfl,hq⟩
  ·obtain⟨i,hi,e⟩:=Vy hz;rw[List.getElem_zip] at e;rw[List.length_zip] at hi;have hi1:i<out.size:=by rw[hos];lia
   have hi2:i<us.length:=()
   obtain⟨b,e1,j,e2,e3⟩:=hout i out[i] (Uo hi1);obtain⟨r,hj,f1,f2,_,_,f3⟩:=hat j _ e2;cases f1;have e4:us.getD i []=us[i]:=by simp[hi2]
   have:z=yks[j]:=by
    rw[<- e];refine UD ?_ ?_
    ·show (out.toList.map toV)[i]=yks[j].1;rw[f2,List.getElem_map,Array.getElem_toList,e1];rfl
    ·show us[i]=yks[j].2;rw[<- e4,<- e3,f3]
   rw[this];exact V0 hj
end
end L2
namespace M
open PySem L2
section
variable {K:Xy}
noncomputable def jt (a:XE):XE:=fun ρ=>(a ρ).bind fun d=>match d with|.lst l=>(ig l).bind fun ts=>if ts.length<=300 then some (.int ((bL ts).length:Nat)) else none|_=>none
def Fg {ta:TE}  (h:SPk K ta a):SE K (uO K ta) (jt a):=fun ρ σ S H Q e r x k=>by
 unfold jt at x;cases q:a ρ with
 |none=>rw[q] at x;cases x
 |some d=>
  rw[q] at x;dsimp only[Option.bind] at x;cases d<;>try (cases x;done)
  rename_i l;dsimp only at x;cases qi:ig l with
  |none=>rw[qi] at x;cases x
  |some ts=>
   rw[qi] at x;dsimp only at x;split at x
   ·rename_i hc;cases x;refine h ρ σ S H _ _ r q fun v S1 H1 z1 d1=>?_;obtain⟨p,xs,rfl,h1,h2⟩:=d1.lst z1.sub;refine⟨p,xs,ts,rfl,.inl h1,by rw[uR qi,h2.length],hc,fun i v hv=>?_,fun q hq=>k _ S1 _ (z1.trans (Ext.own z1.sub hq)) (den_int.mpr rfl)⟩;obtain⟨d',f1,f2⟩:=h2.get' hv;obtain⟨a,rfl,f3⟩:=wO qi f1;obtain⟨b,ys,rfl,g1,g2⟩:=DenP.tup z1.sub (Den.p f2);obtain⟨rfl,_⟩:=gC g2 f3;exact⟨b,rfl,g1⟩
   ·cases x
noncomputable def gF (a:XE):XA:=fun ρ=>(a ρ).bind fun d=>match d with|.lst l=>(keys l).bind fun ks=>if ks.length<=300 then some ((eJ (bL ks)).map oM) else none|_=>none
def B7 {ta:TE}  (h:SPk K ta a):SF K (p9 K ta) (gF a):=fun ρ σ S H Q e r x k=>by
 unfold gF at x;cases q:a ρ with
 |none=>rw[q] at x;cases x
 |some d=>
  rw[q] at x;dsimp only[Option.bind] at x;cases d<;>try (cases x;done)
  rename_i l;dsimp only at x;cases qi:keys l with
  |none=>rw[qi] at x;cases x
  |some ks=>
   rw[qi] at x;dsimp only at x;split at x
   ·rename_i hc;cases x;refine h ρ σ S H _ _ r q fun v S1 H1 z1 d1=>?_;obtain⟨p,xs,rfl,h1,h2⟩:=d1.lst z1.sub;obtain⟨e1,e2⟩:=xy qi;subst e1;obtain⟨a',b',c',dd⟩:=sP h2;refine⟨p,xs.zip ks,rfl,by rw[a'];exact .inl h1,by rw[c'];exact hc,fun yk hm=>?_,fun zks b pm hsub pw hb=>?_⟩
    ·obtain⟨q,ys,e,g1,g2⟩:=fP (dd yk hm);have:=mR g2;subst this;refine⟨q,e,aL z1.sub g1,e2 _ ?_⟩;rw[<- b'];exact TC.mpr ⟨yk,hm,rfl⟩
    ·rw[b'] at pm;have e:zks.map (·.2)=eJ (bL ks):=uC pm (by rw[Ur];exact pw);have dz:Dens K S1 ((zks.map (·.2)).map oM) (zks.map (·.1)):=iH fun yk hm=>dd yk (hsub yk hm);rw[e] at dz;have hH:H b=none:=by
      cases qh:H b with
      |none=>rfl
      |some o=>have:=z1.same r.sub b o qh;rw[hb] at this;cases this
     have hS:S1 b=none:=by
      cases qh:S1 b with
      |none=>rfl
      |some o=>have:=z1.sub b o qh;rw[hb] at this;cases this
     have z2:=Ext.own z1.sub hb (S:=S1) (H:=H1) (o:=.lst (zks.map (·.1)));exact k b _ S1 _ (z1.trans z2) hH hS ar dz
   ·cases x
@[simp] noncomputable def NV (a:XE)(lo hi:XO):XA:=fun ρ=>(a ρ).bind fun d=>(lo ρ).bind fun l=>(hi ρ).bind fun h=>match d with|.lst x=>some (fw x l h)|_=>none
def PK {te:TE}{tl th:TO}  {lo hi:XO}(ha:SPk K te a)(hl:SO K tl lo)(hh:SO K th hi):SF K (tSl (Kv K) te tl th) (NV a lo hi):=fun ρ σ S H Q g r x k=>by
 unfold NV at x;cases q:a ρ with
 |none=>rw[q] at x;cases x
 |some d=>
  rw[q] at x;dsimp only[Option.bind] at x;cases ql:lo ρ with
  |none=>rw[ql] at x;cases x
  |some l=>
   rw[ql] at x;dsimp only at x;cases qh:hi ρ with
   |none=>rw[qh] at x;cases x
   |some h=>
    rw[qh] at x;dsimp only at x;refine ha ρ σ S H _ d r q fun v S1 H1 z1 d1=>?_;have r1:=r.ext z1;refine hl ρ σ S1 H1 _ l r1 ql fun S2 H2 z2=>?_;have r2:=r1.ext z2;refine hh ρ σ S2 H2 _ h r2 qh fun S3 H3 z3=>?_;have z23:=z2.trans z3;have d3:=d1.mono z23 r1.sub;have s3:=(r2.ext z3).sub;have z:=z1.trans z23;cases d<;>try (cases x;done)
    cases x;obtain⟨p,xs,rfl,h1,h2⟩:=d3.lst s3;refine .inl ⟨p,xs,rfl,.inl h1,fun p' hp=>?_⟩;exact k p' _ S3 _ (z.trans (Ext.own s3 hp)) ((z.same r.sub).free hp) (s3.free hp) ar (gT h2 l h)
end
end M
namespace Rw
noncomputable abbrev R:=List (Int×Int)
def Mem (r:R)(x:Int):Prop:=∃p∈r,p.1<=x/\x<=p.2
def Ok (r:R):Prop:=∀p∈r,p.1<=p.2
def aV (r:R):Prop:=Ok r/\r.Pairwise fun p q=>p.2+2<=q.1
def ba (x:Int):¬Mem [] x:=by rintro⟨p,h,_⟩;cases h
def mem_cons (p:Int×Int)(r:R)(x:Int):Mem (p::r) x↔(p.1<=x/\x<=p.2)\/Mem r x:=by
 constructor
 ·rintro⟨q,h,e⟩;rcases TN.mp h with rfl|h
  ·exact .inl e
  ·exact .inr ⟨q,h,e⟩
 ·rintro (e|⟨q,h,e⟩)
  ·exact⟨p,TD,e⟩
  ·exact⟨q,TJ _ h,e⟩
def mem_append (r t:R)(x:Int):Mem (r++t) x↔Mem r x\/Mem t x:=by
 constructor
 ·rintro⟨q,h,e⟩;rcases TH.mp h with h|h
  ·exact .inl ⟨q,h,e⟩
  ·exact .inr ⟨q,h,e⟩
 ·rintro (⟨q,h,e⟩|⟨q,h,e⟩)
  ·exact⟨q,TK _ h,e⟩
  ·exact⟨q,TV _ h,e⟩
def G3 {r t:R}(h:r.Perm t)(x:Int):Mem r x↔Mem t x:=
 ⟨fun⟨q,m,e⟩=>⟨q,h.mem_iff.mp m,e⟩,fun⟨q,m,e⟩=>⟨q,h.mem_iff.mpr m,e⟩⟩
def mem_filter (r:R)(x:Int):Mem (r.filter fun p=>decide (p.1<=p.2)) x↔Mem r x:=by
 constructor
 ·rintro⟨q,m,e⟩;exact⟨q,(Ui.mp m).1,e⟩
 ·rintro⟨q,m,e⟩;exact⟨q,Ui.mpr ⟨m,by simp;lia⟩,e⟩
def gz:aV []:=⟨fun _ h=>(by cases h),.nil⟩
def canon_cons {p:Int×Int}{r:R}:aV (p::r)↔p.1<=p.2/\(∀q∈r,p.2+2<=q.1)/\aV r:=by
 constructor
 ·rintro⟨h1,h2⟩;have h3:=Ve.mp h2;exact⟨h1 p TD,h3.1,fun q hq=>h1 q (TJ _ hq),h3.2⟩
 ·rintro⟨h1,h2,h3,h4⟩;refine⟨fun q hq=>?_,Ve.mpr ⟨h2,h4⟩⟩;rcases TN.mp hq with rfl|hq
  ·exact h1
  ·exact h3 q hq
def di {p:Int×Int}{r:R}(c:aV (p::r)){x:Int}(h:Mem r x):p.2+2<=x:=by obtain⟨q,m,e,_⟩:=h;have:=(canon_cons.mp c).2.1 q m;lia
def vV {p:Int×Int}{r:R}(c:aV (p::r)){x:Int}(h:Mem (p::r) x):p.1<=x:=by
 rcases (mem_cons p r x).mp h with h|h
 ·exact h.1
 ·have:=di c h;have:=(canon_cons.mp c).1;lia
theorem Co:∀ {r t:R},aV r->aV t->(∀x,Mem r x↔Mem t x)->r=t
 |[],[],_,_,_=>rfl
 |[],q::t,_,ct,h=>by
  have:=(h q.1).mpr ((mem_cons ..).mpr (.inl ⟨T1 _,(canon_cons.mp ct).1⟩));exact (ba _ this).elim
 |p::r,[],cr,_,h=>by
  have:=(h p.1).mp ((mem_cons ..).mpr (.inl ⟨T1 _,(canon_cons.mp cr).1⟩));exact (ba _ this).elim
 |p::r,q::t,cr,ct,h=>by
  have hp:=(canon_cons.mp cr).1;have hq:=(canon_cons.mp ct).1;have a1:q.1<=p.1:=vV ct ((h p.1).mp ((mem_cons ..).mpr (.inl ⟨T1 _,hp⟩)));have a2:p.1<=q.1:=vV cr ((h q.1).mpr ((mem_cons ..).mpr (.inl ⟨T1 _,hq⟩)));have e1:p.1=q.1:=()
  have n1:¬Mem (p::r) (p.2+1):=fun m=>by
   rcases (mem_cons ..).mp m with m|m
   ·lia
   ·have:=di cr m;lia
  have n2:¬Mem (q::t) (q.2+1):=fun m=>by
   rcases (mem_cons ..).mp m with m|m
   ·lia
   ·have:=di ct m;lia
  have e2:p.2=q.2:=by
   by_cases l1:p.2<q.2
   ·exact (n1 ((h _).mpr ((mem_cons ..).mpr (.inl ⟨(),()⟩)))).elim
   ·by_cases l2:q.2<p.2
    ·exact (n2 ((h _).mp ((mem_cons ..).mpr (.inl ⟨(),()⟩)))).elim
    ·lia
  have e:p=q:=by obtain⟨a,b⟩:=p;obtain⟨c,d⟩:=q;simp only at e1 e2;rw[e1,e2]
  subst e;have ih:r=t:=Co (canon_cons.mp cr).2.2 (canon_cons.mp ct).2.2 fun x=>by
   constructor
   ·intro m;rcases (mem_cons ..).mp ((h x).mp ((mem_cons ..).mpr (.inr m))) with k|k
    ·have:=di cr m;lia
    ·exact k
   ·intro m;rcases (mem_cons ..).mp ((h x).mpr ((mem_cons ..).mpr (.inr m))) with k|k
    ·have:=di ct m;lia
    ·exact k
  rw[ih]
noncomputable def step (acc:R)(p:Int×Int):R:=
 match acc.getLast? with
 |none=>[p]
 |some q=>if p.1<=q.2+1 then acc.dropLast++[(q.1,if p.2 > q.2 then p.2 else q.2)] else acc++[p]
noncomputable def me (l:R):R:=l.foldl step []
def uK (p:Int×Int):step [] p=[p]:=rfl
def gE (t:R)(q p:Int×Int):step (t++[q]) p=if p.1<=q.2+1 then t++[(q.1,if p.2 > q.2 then p.2 else q.2)] else t++[q]++[p]:=by unfold step;simp
def canon_snoc {t:R}{q:Int×Int}:aV (t++[q])↔aV t/\q.1<=q.2/\∀p∈t,p.2+2<=q.1:=by
 constructor
 ·rintro⟨h1,h2⟩;have h3:=Ug.mp h2;exact⟨⟨fun p hp=>h1 p (TK _ hp),h3.1⟩,h1 q (TV _ TD),fun p hp=>h3.2.2 p hp q TD⟩
 ·rintro⟨⟨h1,h2⟩,h3,h4⟩;refine⟨fun p hp=>?_,Ug.mpr ⟨h2,.cons (fun _ h=>(by cases h)) .nil,fun p hp x hx=>?_⟩⟩
  ·rcases TH.mp hp with hp|hp
   ·exact h1 p hp
   ·rw[Tv.mp hp];exact h3
  ·rw[Tv.mp hx];exact h4 p hp
def DG {acc:R}{p:Int×Int}(c:aV acc)(hp:p.1<=p.2)(lo:∀q∈acc,q.1<=p.1) :
  aV (step acc p)/\(∀x,Mem (step acc p) x↔Mem acc x\/(p.1<=x/\x<=p.2))/\(∀q∈step acc p,q.1<=p.1):=by
 rcases Uv acc with rfl|⟨t,q,rfl⟩
 ·rw[uK];refine⟨canon_cons.mpr ⟨hp,fun _ h=>(by cases h),gz⟩,fun x=>?_,fun q hq=>?_⟩
  ·rw[mem_cons];constructor
   ·rintro (h|h)
    ·exact .inr h
    ·exact .inl h
   ·rintro (h|h)
    ·exact .inr h
    ·exact .inl h
  ·rw[Tv.mp hq];exact T1 _
 ·rw[Uz] at *;obtain⟨ct,hq,ht⟩:=canon_snoc.mp c;have lq:q.1<=p.1:=lo q (TV _ TD);rw[gE];by_cases h:p.1<=q.2+1
  ·rw[Ts h];have m:∀z,(if p.2 > q.2 then p.2 else q.2)=z->q.2<=z/\p.2<=z/\(z=p.2\/z=q.2):=fun z e=>by
    split at e<;>lia
   obtain⟨m1,m2,m3⟩:=m _ rfl;generalize (if p.2 > q.2 then p.2 else q.2)=z at *;refine⟨canon_snoc.mpr ⟨ct,by dsimp only;lia,ht⟩,fun x=>?_,fun s hs=>?_⟩
   ·rw[mem_append,mem_append,mem_cons,mem_cons];dsimp only;constructor
    ·rintro (k|k|k)
     ·exact .inl (.inl k)
     ·by_cases hx:x<=q.2
      ·exact .inl (.inr (.inl ⟨k.1,hx⟩))
      ·right;lia
     ·exact (ba _ k).elim
    ·rintro ((k|k|k)|k)
     ·exact .inl k
     ·right;left;lia
     ·exact (ba _ k).elim
     ·right;left;lia
   ·rcases TH.mp hs with hs|hs
    ·exact lo s (TK _ hs)
    ·rw[Tv.mp hs];exact lq
  ·rw[Tr h];refine⟨canon_snoc.mpr ⟨c,hp,fun s hs=>?_⟩,fun x=>?_,fun s hs=>?_⟩
   ·rcases TH.mp hs with hs|hs
    ·have:=ht s hs;lia
    ·rw[Tv.mp hs];lia
   ·rw[mem_append,mem_cons];constructor
    ·rintro (k|k|k)
     ·exact .inl k
     ·exact .inr k
     ·exact (ba _ k).elim
    ·rintro (k|k)
     ·exact .inl k
     ·exact .inr (.inl k)
   ·rcases TH.mp hs with hs|hs
    ·exact lo s hs
    ·rw[Tv.mp hs];exact T1 _
theorem CT:∀(l:R) (acc:R),aV acc->Ok l->l.Pairwise (fun p q=>p.1<=q.1)->(∀q∈acc,∀p∈l,q.1<=p.1) ->
  aV (l.foldl step acc)/\∀x,Mem (l.foldl step acc) x↔Mem acc x\/Mem l x
 |[],acc,c,_,_,_=>⟨c,fun x=>⟨fun h=>.inl h,fun h=>h.elim id fun k=>(ba _ k).elim⟩⟩
 |p::l,acc,c,o,w,lo=>by
  obtain⟨w1,w2⟩:=Ve.mp w;obtain⟨c1,m1,l1⟩:=DG c (o p TD) fun q hq=>lo q hq p TD;obtain⟨c2,m2⟩:=CT l (step acc p) c1 (fun q hq=>o q (TJ _ hq)) w2 fun q hq s hs=>by have:=l1 q hq;have:=w1 s hs;lia
  refine⟨c2,fun x=>?_⟩;show Mem (l.foldl step (step acc p)) x↔_;rw[m2,m1,mem_cons,or_assoc]
def IsRow (ps r:R):Prop:=aV r/\∀x,Mem r x↔Mem ps x
def G7 {l ps:R}(o:Ok l)(w:l.Pairwise fun p q=>p.1<=q.1)(h:∀x,Mem l x↔Mem ps x):IsRow ps (me l):=by
 obtain⟨c,m⟩:=CT l [] gz o w fun _ h=>(by cases h)
 exact⟨c,fun x=>by
  show Mem (l.foldl step []) x↔_;rw[m x,<- h x]
  exact⟨fun k=>k.elim (fun z=>(ba _ z).elim) id,.inr⟩⟩
def IsRow.eq {ps qs r t:R}(h:IsRow ps r)(k:IsRow qs t)(e:∀x,Mem ps x↔Mem qs x):r=t:=
 Co h.1 k.1 fun x=>(h.2 x).trans ((e x).trans (k.2 x).symm)
noncomputable def my (r:R)(lo hi:Int):R:=r.map fun p=>(p.1+lo,p.2+hi)
def EO (r:R)(lo hi x:Int):Mem (my r lo hi) x↔∃p∈r,p.1+lo<=x/\x<=p.2+hi:=by
 constructor
 ·rintro⟨q,m,e⟩;obtain⟨p,hp,rfl⟩:=TC.mp m;exact⟨p,hp,e⟩
 ·rintro⟨p,hp,e⟩;exact⟨_,TC.mpr ⟨p,hp,rfl⟩,e⟩
def Im {r:R}(o:Ok r){lo hi:Int}(hl:lo<=hi):Ok (my r lo hi):=fun q m=>by obtain⟨p,hp,rfl⟩:=TC.mp m;have:=o p hp;dsimp only;lia
end Rw
namespace Rw
noncomputable def c8:R->R->R
 |[],_=>[]
 |_::_,[]=>[]
 |p::s,q::t=>(if max p.1 q.1<=min p.2 q.2 then [(max p.1 q.1,min p.2 q.2)] else [])++(if p.2<q.2 then c8 s (q::t) else c8 (p::s) t)
termination_by s t=>s.length+t.length
def dr (s:R):c8 s []=[]:=by cases s<;>simp[c8]
def dQ (t:R):c8 [] t=[]:=by simp[c8]
def CN:∀(n:Nat) (s t:R),s.length+t.length=n->∀r∈c8 s t,(∃p∈s,p.1<=r.1/\r.2<=p.2)/\(∃q∈t,q.1<=r.1/\r.2<=q.2)/\r.1<=r.2:=by
 intro n;induction n using Nat.strongRecOn with
 |ind n ih=>
  intro s t hn r hr
  match s,t with
  |[],t=>rw[dQ] at hr;cases hr
  |p::s,[]=>rw[dr] at hr;cases hr
  |p::s,q::t=>
   rw[c8] at hr;rcases TH.mp hr with hr|hr
   ·split at hr
    ·rename_i h;rw[Tv.mp hr];refine⟨⟨p,TD,?_,?_⟩,⟨q,TD,?_,?_⟩,h⟩<;>dsimp only<;>lia
    ·cases hr
   ·split at hr
    ·obtain⟨⟨p',h1,h2⟩,h3⟩:=ih (s.length+(q::t).length) (by simp at hn ⊢;lia) s (q::t) rfl r hr;exact⟨⟨p',TJ _ h1,h2⟩,h3⟩
    ·obtain⟨h1,⟨q',h2,h3⟩,h4⟩:=ih ((p::s).length+t.length) (by simp at hn ⊢;lia) (p::s) t rfl r hr;exact⟨h1,⟨q',TJ _ h2,h3⟩,h4⟩
def Gk:∀(n:Nat) (s t:R),s.length+t.length=n->aV s->aV t->∀x,Mem (c8 s t) x↔Mem s x/\Mem t x:=by
 intro n;induction n using Nat.strongRecOn with
 |ind n ih=>
  intro s t hn cs ct x
  match s,t with
  |[],t=>rw[dQ];exact⟨fun h=>(ba _ h).elim,fun h=>(ba _ h.1).elim⟩
  |p::s,[]=>rw[dr];exact⟨fun h=>(ba _ h).elim,fun h=>(ba _ h.2).elim⟩
  |p::s,q::t=>
   have hp:=(canon_cons.mp cs).1;have hq:=(canon_cons.mp ct).1;have cs':=(canon_cons.mp cs).2.2;have ct':=(canon_cons.mp ct).2.2;have first:Mem (if max p.1 q.1<=min p.2 q.2 then [(max p.1 q.1,min p.2 q.2)] else []) x↔(p.1<=x/\x<=p.2)/\(q.1<=x/\x<=q.2):=by
    split
    ·rw[mem_cons];constructor
     ·rintro (h|h)
      ·dsimp only at h;lia
      ·exact (ba _ h).elim
     ·intro h;left;dsimp only;lia
    ·constructor
     ·intro h;exact (ba _ h).elim
     ·intro h;lia
   rw[c8,mem_append,first];split
   ·rename_i hlt;rw[ih (s.length+(q::t).length) (by simp at hn ⊢;lia) s (q::t) rfl cs' ct x,mem_cons p s,mem_cons q t];constructor
    ·rintro (h|⟨h1,h2⟩)
     ·exact⟨.inl h.1,.inl h.2⟩
     ·exact⟨.inr h1,h2⟩
    ·rintro⟨h1|h1,h2|h2⟩
     ·exact .inl ⟨h1,h2⟩
     ·have:=di ct h2;lia
     ·exact .inr ⟨h1,.inl h2⟩
     ·exact .inr ⟨h1,.inr h2⟩
   ·rename_i hge;rw[ih ((p::s).length+t.length) (by simp at hn ⊢;lia) (p::s) t rfl cs ct' x,mem_cons p s,mem_cons q t];constructor
    ·rintro (h|⟨h1,h2⟩)
     ·exact⟨.inl h.1,.inl h.2⟩
     ·exact⟨h1,.inr h2⟩
    ·rintro⟨h1|h1,h2|h2⟩
     ·exact .inl ⟨h1,h2⟩
     ·exact .inr ⟨.inl h1,h2⟩
     ·have:=di cs h1;lia
     ·exact .inr ⟨.inr h1,h2⟩
def A9:∀(n:Nat) (s t:R),s.length+t.length=n->aV s->aV t->aV (c8 s t):=by
 intro n;induction n using Nat.strongRecOn with
 |ind n ih=>
  intro s t hn cs ct
  match s,t with
  |[],t=>rw[dQ];exact gz
  |p::s,[]=>rw[dr];exact gz
  |p::s,q::t=>
   have cs':=(canon_cons.mp cs).2.2;have ct':=(canon_cons.mp ct).2.2;rw[c8];have rest:aV (if p.2<q.2 then c8 s (q::t) else c8 (p::s) t)/\∀r∈(if p.2<q.2 then c8 s (q::t) else c8 (p::s) t),min p.2 q.2+2<=r.1:=by
    split
    ·rename_i hlt;refine⟨ih (s.length+(q::t).length) (by simp at hn ⊢;lia) s (q::t) rfl cs' ct,fun r hr=>?_⟩;obtain⟨⟨p',h1,h2,_⟩,_⟩:=CN _ s (q::t) rfl r hr;have:=(canon_cons.mp cs).2.1 p' h1;lia
    ·rename_i hge;refine⟨ih ((p::s).length+t.length) (by simp at hn ⊢;lia) (p::s) t rfl cs ct',fun r hr=>?_⟩;obtain⟨_,⟨q',h1,h2,_⟩,_⟩:=CN _ (p::s) t rfl r hr;have:=(canon_cons.mp ct).2.1 q' h1;lia
   split
   ·rename_i h;exact canon_cons.mpr ⟨h,rest.2,rest.1⟩
   ·rw[VC];exact rest.1
def sJ:∀(n:Nat) (s t:R),s.length+t.length=n->(c8 s t).length<=s.length+t.length:=by
 intro n;induction n using Nat.strongRecOn with
 |ind n ih=>
  intro s t hn
  match s,t with
  |[],t=>rw[dQ];simp
  |p::s,[]=>rw[dr];simp
  |p::s,q::t=>
   rw[c8,Tz];have h1:(if max p.1 q.1<=min p.2 q.2 then [(max p.1 q.1,min p.2 q.2)] else []).length<=1:=by split<;>simp
   have h2:(if p.2<q.2 then c8 s (q::t) else c8 (p::s) t).length+1<=(p::s).length+(q::t).length:=by
    split
    ·have:=ih (s.length+(q::t).length) (by simp at hn ⊢;lia) s (q::t) rfl;simp at this ⊢;lia
    ·have:=ih ((p::s).length+t.length) (by simp at hn ⊢;lia) (p::s) t rfl;simp at this ⊢;lia
   lia
noncomputable def gb:XD->R
 |a::b::t=>(a,b-1)::gb t
 |_=>[]
noncomputable def jO (x:Int)(l:XD):Nat:=l.countP fun c=>decide (c<=x)
def lI (x c:Int)(l:XD):jO x (c::l)=jO x l+if c<=x then 1 else 0:=by unfold jO;rw[List.countP_cons];by_cases h:c<=x<;>simp[h]
def qf {x:Int}{l:XD}(h:∀c∈l,x<c):jO x l=0:=by unfold jO;rw[List.countP_eq_zero];intro c hc;have:=h c hc;simp;lia
theorem ug:∀(n:Nat) (l:XD),l.length=2 * n->l.Pairwise (· <= ·)->∀x,Mem (gb l) x↔jO x l % 2=1
 |0,l,h,_,x=>by
  have:l=[]:=U8.mp ();subst this;exact⟨fun h=>(ba _ h).elim,fun h=>by simp[jO] at h⟩
 |n+1,l,h,w,x=>by
  match l,h with
  |a::b::t,h=>
   obtain⟨w1,w2⟩:=Ve.mp w;obtain⟨w3,w4⟩:=Ve.mp w2;have hab:=w1 b TD;have ih:=ug n t (by simp at h;lia) w4 x;rw[gb,mem_cons,ih,lI,lI];dsimp only;by_cases hb:b<=x
   ·rw[Ts hb,Ts ()];constructor
    ·rintro (k|k)<;>lia
    ·intro k;right;lia
   ·have z:jO x t=0:=qf fun c hc=>by have:=w3 c hc;lia
    rw[z,Tr hb];by_cases ha:a<=x
    ·rw[Ts ha];lia
    ·rw[Tr ha];lia
def FB {l m:XD}(h:l.Perm m)(x:Int):jO x l=jO x m:=h.countP_eq _
def kZ (x:Int)(l m:XD):jO x (l++m)=jO x l+jO x m:=List.countP_append
def AM {r:R}(c:aV r)(x:Int):(jO x (r.map (·.1))+jO x (r.map (·.2+1))) % 2=1↔Mem r x:=by
 induction r with
 |nil=>exact⟨fun h=>by simp[jO] at h,fun h=>(ba _ h).elim⟩
 |cons p r ih=>
  obtain⟨hp,h2,h3⟩:=canon_cons.mp c;rw[TQ,TQ,lI,lI,mem_cons,<- ih h3];by_cases h:p.1<=x/\x<=p.2
  ·have z1:jO x (r.map (·.1))=0:=qf fun c hc=>by
    obtain⟨q,hq,rfl⟩:=TC.mp hc;have:=h2 q hq;lia
   have z2:jO x (r.map (·.2+1))=0:=qf fun c hc=>by obtain⟨q,hq,rfl⟩:=TC.mp hc;have:=h2 q hq;have:=h3.1 q hq;lia
   rw[z1,z2,Ts h.1,Tr ()];simp[h]
  ·by_cases h1:p.1<=x
   ·rw[Ts h1,Ts ()];constructor
    ·intro k;right;lia
    ·rintro (k|k)
     ·exact absurd k h
     ·lia
   ·rw[Tr h1,Tr ()];constructor
    ·intro k;right;lia
    ·rintro (k|k)
     ·exact absurd k h
     ·lia
def IP {r t:R}(cr:aV r)(ct:aV t)(x:Int):jO x ((r++t).map (·.1)++(r++t).map (·.2+1)) % 2=1↔((Mem r x/\¬Mem t x)\/(Mem t x/\¬Mem r x)):=by rw[kZ,Ub,Ub,kZ,kZ,<- AM cr x,<- AM ct x];lia
def yy (r t u:R):Prop:=aV u/\∀x,Mem u x↔((Mem r x/\¬Mem t x)\/(Mem t x/\¬Mem r x))
def FX (r t u:R):Prop:=aV u/\∀x,Mem u x↔(Mem r x/\¬Mem t x)
def FW (r t u:R):Prop:=aV u/\∀x,Mem u x↔(Mem r x/\Mem t x)
def JY {r t u v:R}(h:FW r t u)(k:yy r u v):FX r t v:=⟨k.1,fun x=>by
 rw[k.2 x,h.2 x];constructor
 ·rintro (⟨h1,h2⟩|⟨h1,h2⟩)
  ·exact⟨h1,fun z=>h2 ⟨h1,z⟩⟩
  ·exact absurd h1.1 h2
 ·rintro⟨h1,h2⟩
  exact .inl ⟨h1,fun z=>h2 z.2⟩⟩
end Rw
namespace P
open PySem L2 M
noncomputable abbrev NS:XB:=["Shape"]
noncomputable def gQ:XS:=aE (xIf (xB (xOp dLt (af 1) (xCB mF (ab (af 0) aj)))) (b7 (xOp dIx (af 0) (af 1))) fi) (b7 (xC (.int 0)))
noncomputable def iz:Xq->Option O:=fnO 2 gQ
noncomputable def bi:Xp:=fun ds=>(iz ds).map O.d
noncomputable def eN:XS:=AQ 2 (aM (ab (xOp a6 (af 3) (af 5)) (ab (xOp a6 (af 4) (af 6)) aj)))
noncomputable def gh:XS:=cX (xIt (ak 1)) (aY (ao (ag 5) (ao (ag 6) bf))) (eN)
noncomputable def gR:XS:=aE (oU DP 2) (aE (uU 0 (aY (ao (ag 3) (ao (ag 4) bf))) (gh)) (uW 2))
noncomputable def fS:Xq->Option O:=fnO 7 gR
noncomputable def fO:XS:=xIf (xOr (xB (xOp (dEq false) (xCB mF (ab (af 1) aj)) (xC (.int 0)))) (xB (xOp (dEq true) (xOp dIx (xOp dIx (af 1) (xUn dD (xC (.int 1)))) (xC (.int 0))) (af 2)))) (fW 1 xPv (xSh (aM (ab (ak 2) (ab (aM (ab (aM (ab (ak 3) (ab (ak 3) aj))) aj)) aj))))) (xIf (xB (xOp dGt (af 3) (xOp a6 (xOp dIx (xOp dIx (xOp dIx (xOp dIx (af 1) (xUn dD (xC (.int 1)))) (xC (.int 1))) (xUn dD (xC (.int 1)))) (xC (.int 1))) (xC (.int 1))))) (qS 1 xPv (xUn dD (xC (.int 1))) (aM (ab (ak 2) (ab (xOp a6 (xOp dIx (xOp dIx (af 1) (xUn dD (xC (.int 1)))) (xC (.int 1))) (aM (ab (aM (ab (ak 3) (ab (ak 3) aj))) aj))) aj)))) (qS 1 xPv (xUn dD (xC (.int 1))) (aM (ab (ak 2) (ab (xOp a6 (xSl (xOp dIx (xOp dIx (af 1) (xUn dD (xC (.int 1)))) (xC (.int 1))) oW (qR (xUn dD (xC (.int 1))))) (aM (ab (aM (ab (xOp dIx (xOp dIx (xOp dIx (xOp dIx (af 1) (xUn dD (xC (.int 1)))) (xC (.int 1))) (xUn dD (xC (.int 1)))) (xC (.int 0))) (ab (ak 3) aj))) aj))) aj)))))
noncomputable def iX:XS:=aE (kb (lg aj) 1) (aE (cX (xIt (xL (Cr eS (ab (xL (bB [none,none] (xIt (af 0)) (aY (ao (ag 0) (ao (ag 1) bf))) bP (aM (ab (ak 1) (ab (ak 0) aj))))) aj)))) (aY (ao (ag 2) (ao (ag 3) bf))) (fO)) (b7 (xCB fZ (ab (af 1) aj))))
noncomputable def tX:Xq->Option O:=fnO 4 iX
noncomputable def gD:Xp:=fun ds=>(tX ds).map O.d
noncomputable def iY:XS:=aE (xIf (xB (xOp dLt (af 0) (xC (.int 0)))) (b7 (xOp dJ (xC (.int 0)) (xOp i7 (xOp dJ (xC (.int 0)) (af 0)) (af 1)))) fi) (b7 (xOp i7 (af 0) (af 1)))
noncomputable def jH:Xq->Option O:=fnO 2 iY
noncomputable def ja:Xp:=fun ds=>(jH ds).map O.d
noncomputable def cJ:XS:=xIf (yq (xCB Jm (ab (xL (bB [none,none,some 0,some 4,some 5,some 3] (xIt (af 1)) (aY (ao (ag 0) (ao (ag 1) bf))) bP (yo false (aM (ab (xOp a6 (xOp dJ (af 3) (xOp dIx (af 5) (xC (.int 0)))) (af 0)) (ab (xOp a6 (xOp dJ (af 4) (xOp dIx (af 5) (xC (.int 1)))) (af 1)) aj))) 2))) aj))) (AQ 2 (aM (ab (xOp dJ (af 4) (xOp dIx (af 3) (xC (.int 0)))) (ab (xOp dJ (af 5) (xOp dIx (af 3) (xC (.int 1)))) aj)))) fi
noncomputable def gS:XS:=aE (oU DP 2) (aE (bw (xOp dIx (af 1) (xC (.int 0))) (ag 3)) (aE (uU 0 (aY (ao (ag 4) (ao (ag 5) bf))) (cJ)) (uW 2)))
noncomputable def du:Xq->Option O:=fnO 6 gS
noncomputable def nO:XS:=aE (xIf (xB (xOp (dEq false) (af 0) (aM aj))) (b7 (xC .non)) fi) (aE (bw (xCB yK (ab (xL (bB [none,none] (xIt (af 0)) (aY (ao (ag 0) (ao (ag 1) bf))) bP (xOp dIx (xOp dIx (af 1) (xC (.int 0))) (xC (.int 0))))) aj)) (ag 1)) (aE (bw (xCB yJ (ab (xL (bB [none,none] (xIt (af 0)) (aY (ao (ag 0) (ao (ag 1) bf))) bP (xOp dIx (xOp dIx (af 1) (xUn dD (xC (.int 1)))) (xC (.int 1))))) aj)) (ag 2)) (b7 (aM (ab (ak 1) (ab (xOp dIx (xOp dIx (af 0) (xC (.int 0))) (xC (.int 0))) (ab (ak 2) (ab (xOp dIx (xOp dIx (af 0) (xUn dD (xC (.int 1)))) (xC (.int 0))) aj))))))))
noncomputable def pJ:Xq->Option O:=fnO 3 nO
noncomputable def tQ:Xp:=fun ds=>(pJ ds).map O.d
noncomputable def cT:XT:=xB (xOp dLt (af 2) (af 3))
noncomputable def bC:XS:=aE (bw (xOp mG (xOp a6 (af 2) (af 3)) (xC (.int 2))) (ag 4)) (xIf (xB (xOp dLe (xOp dIx (xOp dIx (af 0) (af 4)) (xC (.int 0))) (af 1))) (bw (xOp a6 (af 4) (xC (.int 1))) (ag 2)) (bw (ak 4) (ag 3)))
noncomputable def cY:XS:=aE (bw (xC (.int 0)) (ag 2)) (aE (bw (xCB mF (ab (af 0) aj)) (ag 3)) (aE (ci (cT) (bC)) (b7 (ak 2))))
noncomputable def g9:Xq->Option O:=fnO 5 cY
noncomputable def c6:Xp:=fun ds=>(g9 ds).map O.d
noncomputable def cB:XT:=Cq (xB (xOp dLt (af 3) (xCB mF (ab (af 0) aj)))) (xB (xOp dLt (af 4) (xCB mF (ab (af 1) aj))))
noncomputable def bI:XS:=aE (bw (xCB sD (ab (xOp dIx (xOp dIx (af 0) (af 3)) (xC (.int 0))) (ab (xOp dIx (xOp dIx (af 1) (af 4)) (xC (.int 0))) aj))) (ag 5)) (aE (bw (xCB qA (ab (xOp dIx (xOp dIx (af 0) (af 3)) (xC (.int 1))) (ab (xOp dIx (xOp dIx (af 1) (af 4)) (xC (.int 1))) aj))) (ag 6)) (aE (xIf (xB (xOp dLe (af 5) (af 6))) (fW 2 xPv (xSh (aM (ab (ak 5) (ab (ak 6) aj))))) fi) (xIf (xB (xOp dLt (xOp dIx (xOp dIx (af 0) (af 3)) (xC (.int 1))) (xOp dIx (xOp dIx (af 1) (af 4)) (xC (.int 1))))) (FH 3 (xC (.int 1)) vY) (FH 4 (xC (.int 1)) vY))))
noncomputable def gm:XS:=aE (kb (lg aj) 2) (aE (bw (xC (.int 0)) (ag 3)) (aE (bw (xC (.int 0)) (ag 4)) (aE (ci (cB) (bI)) (b7 (xCB fZ (ab (af 2) aj))))))
noncomputable def iL:Xq->Option O:=fnO 7 gm
noncomputable def eY:Xp:=fun ds=>(iL ds).map O.d
noncomputable def iq:XS:=b7 (xCB fZ (ab (xL (bB [none,none,some 1] (xIt (af 0)) (aY (ao (ag 0) (ao (ag 1) bf))) bP (aM (ab (xOp a6 (af 0) (af 2)) (ab (xOp a6 (af 1) (af 2)) aj))))) aj))
noncomputable def jJ:Xq->Option O:=fnO 2 iq
noncomputable def iy:Xp:=fun ds=>(jJ ds).map O.d
noncomputable def et:XS:=xIf (Cq (yq (af 1)) (xB (xOp dLe (af 2) (xOp a6 (xOp dIx (xOp dIx (af 1) (xUn dD (xC (.int 1)))) (xC (.int 1))) (xC (.int 1)))))) (qS 1 xPv (xUn dD (xC (.int 1))) (aM (ab (xOp dIx (xOp dIx (af 1) (xUn dD (xC (.int 1)))) (xC (.int 0))) (ab (xCB sD (ab (xOp dIx (xOp dIx (af 1) (xUn dD (xC (.int 1)))) (xC (.int 1))) (ab (af 3) aj))) aj)))) (fW 1 xPv (xSh (aM (ab (ak 2) (ab (ak 3) aj)))))
noncomputable def nR:XS:=aE (kb (lg aj) 1) (aE (cX (xIt (xL (Cr eS (ab (xL (bB [none,none] (xIt (af 0)) (aY (ao (ag 0) (ao (ag 1) bf))) (xB (xOp dLe (af 0) (af 1))) (aM (ab (ak 0) (ab (ak 1) aj))))) aj)))) (aY (ao (ag 2) (ao (ag 3) bf))) (et)) (b7 (xCB fZ (ab (af 1) aj))))
noncomputable def pM:Xq->Option O:=fnO 4 nR
noncomputable def jb:Xp:=fun ds=>(pM ds).map O.d
noncomputable def bg:XS:=b7 (xCB fZ (ab (xL (bB [none,none] (xIt (af 0)) (aY (ao (ag 0) (ao (ag 1) bf))) (xB (xOp (dEq true) (af 1) (aM aj))) (aM (ab (ak 0) (ab (ak 1) aj))))) aj))
noncomputable def bq:Xq->Option O:=fnO 1 bg
noncomputable def aq:Xp:=fun ds=>(bq ds).map O.d
noncomputable def dB:XS:=DQ 1 xPv (xL (bB [none,none,some 2] (xIt (af 3)) (aY (ao (ag 0) (ao (ag 1) bf))) bP (aM (ab (ak 2) (ab (ak 0) (ab (ak 1) aj))))))
noncomputable def eP:XS:=aE (kb (lg aj) 1) (aE (cX (xIt (ak 0)) (aY (ao (ag 2) (ao (ag 3) bf))) (dB)) (uW 1))
noncomputable def d8:Xq->Option O:=fnO 4 eP
noncomputable def bN:Xp:=fun ds=>(d8 ds).map O.d
noncomputable def gI:XS:=bw (xOp a6 (af 5) (xOp i7 (xOp sN (xC (.int 5)) (xOp dIx (af 0) (af 6))) (xC (.int 256)))) (ag 5)
noncomputable def d9:XS:=aE (xIf (xOr (xB (xOp (dEq false) (xOp i7 (af 5) (xC (.int 2))) (xC (.int 1)))) (xB (xOp (dEq false) (xOp i7 (xOp mG (af 5) (xC (.int 512))) (xC (.int 2))) (xC (.int 1))))) (fW 3 xPv (xSh (aM (ab (xOp a6 (af 1) (af 7)) (ab (xOp a6 (af 2) (af 4)) aj))))) fi) (bw (xOp mG (af 5) (xC (.int 2))) (ag 5))
noncomputable def gJ:XS:=aE (bw (xOp mG (xOp i7 (xOp sN (az bi (ab (ak 0) (ab (xOp a6 (xC (.int 1)) (af 4)) aj))) (xC (.int 48271))) (xC (.int 2147483647))) (xC (.int 37))) (ag 5)) (aE (cX (DR (ab (xOp a6 (xC (.int 14)) (af 4)) (ab (xCB qA (ab (xCB mF (ab (af 0) aj)) (ab (xC (.int 99)) aj))) (ab (xC (.int 7)) aj)))) (ag 6) (gI)) (cX (yp (ab (xC (.int 8)) aj)) (ag 7) (d9)))
noncomputable def iV:XS:=aE (kb (lg aj) 3) (aE (cX (yp (ab (xC (.int 7)) aj)) (ag 4) (gJ)) (uW 3))
noncomputable def wz:Xq->Option O:=fnO 8 iV
noncomputable def zz:Xp:=fun ds=>(wz ds).map O.d
noncomputable def ju:XS:=AQ 2 (ak 3)
noncomputable def fm:XT:=xB (xOp dGt (IX 2) (xC (.int 0)))
noncomputable def fk:XS:=aE (uV 2 (oU (qv du (ab (ak 2) (ab (ak 1) aj))) 5)) (aE (uV 5 (oU (qv fS (ab (ak 5) (ab (ak 1) aj))) 6)) (aE (uV 6 (uV 2 (fW 4 xPv (xSh (az gD (ab (xL (bB [none,some 6] (vF 2) (ag 0) (xB (yo true (ak 0) 1)) (ak 0))) aj)))))) (uV 5 (bw (ak 5) (ag 2)))))
noncomputable def iW:XS:=aE (oU DP 2) (aE (cX (xIt (ak 0)) (ag 3) (ju)) (aE (kb (lg aj) 4) (aE (ci (fm) (fk)) (uW 4))))
noncomputable def wA:Xq->Option O:=fnO 7 iW
noncomputable def zA:Xp:=fun ds=>(wA ds).map O.d
noncomputable def iT:XS:=aE (bw (xOp mG (xOp i7 (xOp sN (az bi (ab (ak 0) (ab (xOp a6 (xC (.int 8)) (af 2)) aj))) (xC (.int 39373))) (xC (.int 2147483629))) (xC (.int 37))) (ag 3)) (fW 1 xPv (xSh (aM (ab (xOp dJ (xOp i7 (af 3) (xC (.int 3))) (xC (.int 1))) (ab (xOp dJ (xOp i7 (xOp mG (af 3) (xC (.int 3))) (xC (.int 3))) (xC (.int 1))) aj)))))
noncomputable def lh:XS:=aE (kb (lg (ab (aM (ab (xC (.int 0)) (ab (xC (.int 0)) aj))) aj)) 1) (aE (cX (yp (ab (xOp a6 (xC (.int 1)) (xOp i7 (az bi (ab (ak 0) (ab (xC (.int 0)) aj))) (xC (.int 4)))) aj)) (ag 2) (iT)) (aE (xIf (xB (xOp (dEq false) (jt (af 1)) (xC (.int 1)))) (fW 1 xPv (xSh (aM (ab (xC (.int 1)) (ab (xC (.int 0)) aj))))) fi) (aE (bw (xOp mG (xOp i7 (xOp sN (az bi (ab (ak 0) (ab (xC (.int 13)) aj))) (xC (.int 69621))) (xC (.int 2147483629))) (xC (.int 37))) (ag 4)) (AR (xLT (bB [none,none,some 4] (xIt (xL (gF (af 1)))) (aY (ao (ag 0) (ao (ag 1) bf))) bP (aM (ab (xOp dJ (xOp a6 (af 0) (xOp i7 (af 2) (xC (.int 3)))) (xC (.int 1))) (ab (xOp dJ (xOp a6 (af 1) (xOp i7 (xOp mG (af 2) (xC (.int 3))) (xC (.int 3)))) (xC (.int 1))) aj)))))))))
noncomputable def zG:Xq->Option O:=fnO 5 lh
noncomputable def C7:Xp:=fun ds=>(zG ds).map O.d
noncomputable def bU:XS:=b7 (xSl (af 0) (qR (xCB sD (ab (xC (.int 0)) (ab (xOp dJ (az c6 (ab (ak 0) (ab (ak 1) aj))) (xC (.int 1))) aj)))) (qR (az c6 (ab (ak 0) (ab (ak 2) aj)))))
noncomputable def fD:Xq->Option O:=fnO 3 bU
noncomputable def aJ:Xp:=fun ds=>(fD ds).map O.d
noncomputable def bG:XS:=xIf (Cq (yq (af 1)) (xB (xOp (dEq false) (xOp dIx (af 1) (xUn dD (xC (.int 1)))) (aM (ab (ak 2) (ab (xOp dIx (xOp dIx (af 1) (xUn dD (xC (.int 1)))) (xC (.int 1))) (ab (ak 3) (ab (xOp dJ (af 4) (xC (.int 1))) aj)))))))) (qS 1 xPv (xUn dD (xC (.int 1))) (aM (ab (ak 2) (ab (xOp dIx (xOp dIx (af 1) (xUn dD (xC (.int 1)))) (xC (.int 1))) (ab (ak 3) (ab (ak 4) aj)))))) (fW 1 xPv (xSh (aM (ab (ak 2) (ab (ak 4) (ab (ak 3) (ab (ak 4) aj)))))))
noncomputable def ip:XS:=aE (kb (lg aj) 1) (aE (cX (xIt (xL (Cr eS (ab (xL (bB [none,none,none] (xIt (az bN (ab (ak 0) aj))) (aY (ao (ag 0) (ao (ag 1) (ao (ag 2) bf)))) bP (aM (ab (ak 1) (ab (ak 2) (ab (ak 0) aj)))))) aj)))) (aY (ao (ag 2) (ao (ag 3) (ao (ag 4) bf)))) (bG)) (b7 (xCB fZ (ab (af 1) aj))))
noncomputable def jI:Xq->Option O:=fnO 5 ip
noncomputable def kx:Xp:=fun ds=>(jI ds).map O.d
noncomputable def rJ:XS:=b7 (xCB fZ (ab (xL (bB [none,none,some 2,some 1] (xIt (af 0)) (aY (ao (ag 0) (ao (ag 1) bf))) bP (aM (ab (xOp a6 (af 0) (af 2)) (ab (az iy (ab (ak 1) (ab (ak 3) aj))) aj))))) aj))
noncomputable def tZ:Xq->Option O:=fnO 3 rJ
noncomputable def rO:Xp:=fun ds=>(tZ ds).map O.d
noncomputable def bH:XS:=aE (xIf (xOr (I0 (yq (DS 1))) (xB (xOp (dEq true) (xFl (xOp dIx (xOp dIx (DS 1) (xUn dD (xC (.int 1)))) (xC (.int 0)))) (af 2)))) (fW 1 xPv (Jb (yn (xSh (ak 2)) (yn (IY IZ) IZ)))) fi) (fW 1 (xPi (xPi xPv (xUn dD (xC (.int 1)))) (xC (.int 1))) (xSh (aM (ab (ak 3) (ab (ak 4) aj)))))
noncomputable def gj:XS:=aE (kb (lg aj) 1) (aE (cX (xIt (xL (Cr eS (ab (xL (bB [none,none,none] (xIt (af 0)) (aY (ao (ag 0) (ao (ag 1) (ao (ag 2) bf)))) (xB (xOp dLe (af 1) (af 2))) (aM (ab (ak 0) (ab (ak 1) (ab (ak 2) aj)))))) aj)))) (aY (ao (ag 2) (ao (ag 3) (ao (ag 4) bf)))) (bH)) (NU 1 (b7 (xCB fZ (ab (xL (bB [none,none] (xIt (ak 1)) (aY (ao (ag 0) (ao (ag 1) bf))) bP (aM (ab (ak 0) (ab (az jb (ab (ak 1) aj)) aj))))) aj)))))
noncomputable def iK:Xq->Option O:=fnO 5 gj
noncomputable def eX:Xp:=fun ds=>(iK ds).map O.d
noncomputable def iZ:XS:=aE (bw (az c6 (ab (ak 0) (ab (ak 1) aj))) (ag 2)) (aE (xIf (Cq (xB (xOp dGt (af 2) (xC (.int 0)))) (xB (xOp (dEq false) (xOp dIx (xOp dIx (af 0) (xOp dJ (af 2) (xC (.int 1)))) (xC (.int 0))) (af 1)))) (b7 (xOp dIx (xOp dIx (af 0) (xOp dJ (af 2) (xC (.int 1)))) (xC (.int 1)))) fi) (b7 (aM aj)))
noncomputable def jd:Xq->Option O:=fnO 3 iZ
noncomputable def g8:Xp:=fun ds=>(jd ds).map O.d
noncomputable def gn:XS:=aE (bw (xOp a6 (af 0) (af 1)) (ag 2)) (aE (bw (xL (Cr eS (ab (xOp a6 (xL (bB [none,none] (xIt (af 2)) (aY (ao (ag 0) (ao (ag 1) bf))) bP (ak 0))) (xL (bB [none,none] (xIt (af 2)) (aY (ao (ag 0) (ao (ag 1) bf))) bP (xOp a6 (af 1) (xC (.int 1)))))) aj))) (ag 3)) (b7 (az jb (ab (xL (bB [none,some 3] (Ja (ab (xC (.int 0)) (ab (xCB mF (ab (af 3) aj)) (ab (xC (.int 2)) aj)))) (ag 0) bP (aM (ab (xOp dIx (af 1) (af 0)) (ab (xOp dJ (xOp dIx (af 1) (xOp a6 (af 0) (xC (.int 1)))) (xC (.int 1))) aj))))) aj))))
noncomputable def iP:Xq->Option O:=fnO 4 gn
noncomputable def jE:Xp:=fun ds=>(iP ds).map O.d
noncomputable def gq:XS:=b7 (az jb (ab (xL (bB [none,none,some 1,some 2] (xIt (af 0)) (aY (ao (ag 0) (ao (ag 1) bf))) bP (aM (ab (xOp dJ (af 0) (af 2)) (ab (xOp dJ (af 1) (af 3)) aj))))) aj))
noncomputable def iQ:Xq->Option O:=fnO 3 gq
noncomputable def bZ:Xp:=fun ds=>(iQ ds).map O.d
noncomputable def kJ:Xp:=JP (xB (xOp (dEq false) (af 1) (aM aj))) (aM (ab (az kx (ab (ak 1) aj)) aj))
noncomputable def nP:XS:=b7 (az aq (ab (xL (bB [none,none,some 1] (xIt (af 0)) (aY (ao (ag 0) (ao (ag 1) bf))) bP (aM (ab (ak 0) (ab (az eY (ab (ak 1) (ab (az g8 (ab (ak 2) (ab (ak 0) aj))) aj))) aj))))) aj))
noncomputable def pK:Xq->Option O:=fnO 2 nP
noncomputable def oq:Xp:=fun ds=>(pK ds).map O.d
noncomputable def w8:XS:=b7 (az eX (ab (xOp a6 (az bN (ab (ak 0) aj)) (az bN (ab (ak 1) aj))) aj))
noncomputable def xH:Xq->Option O:=fnO 2 w8
noncomputable def BG:Xp:=fun ds=>(xH ds).map O.d
noncomputable def eF:XS:=aE (bw (az aJ (ab (ak 0) (ab (xOp a6 (xOp dIx (af 1) (xC (.int 1))) (xOp dIx (af 2) (xC (.int 1)))) (ab (xOp a6 (xOp dIx (af 1) (xC (.int 3))) (xOp dIx (af 2) (xC (.int 3)))) aj)))) (ag 3)) (b7 (az aq (ab (xL (bB [none,none,some 1,some 2] (xIt (af 3)) (aY (ao (ag 0) (ao (ag 1) bf))) bP (aM (ab (ak 0) (ab (az aJ (ab (ak 1) (ab (xOp a6 (xOp dIx (af 2) (xC (.int 0))) (xOp dIx (af 3) (xC (.int 0)))) (ab (xOp a6 (xOp dIx (af 2) (xC (.int 2))) (xOp dIx (af 3) (xC (.int 2)))) aj)))) aj))))) aj)))
noncomputable def mX:Xq->Option O:=fnO 4 eF
noncomputable def fB:Xp:=fun ds=>(mX ds).map O.d
noncomputable def jz:XS:=b7 (az jE (ab (ak 0) (ab (az eY (ab (ak 0) (ab (ak 1) aj))) aj)))
noncomputable def kL:Xq->Option O:=fnO 2 jz
noncomputable def jF:Xp:=fun ds=>(kL ds).map O.d
noncomputable def w9:XS:=b7 (az aq (ab (xL (bB [none,none,some 1] (xIt (af 0)) (aY (ao (ag 0) (ao (ag 1) bf))) bP (aM (ab (ak 0) (ab (az jF (ab (ak 1) (ab (az g8 (ab (ak 2) (ab (ak 0) aj))) aj))) aj))))) aj))
noncomputable def xI:Xq->Option O:=fnO 2 w9
noncomputable def xE:Xp:=fun ds=>(xI ds).map O.d
noncomputable def cU:XT:=xB (xOp dLt (af 2) (af 1))
noncomputable def dY:XS:=aE (bw (xCB qA (ab (xOp a6 (af 2) (xC (.int 1))) (ab (xOp dJ (af 1) (af 2)) aj))) (ag 3)) (aE (bw (az oq (ab (ak 0) (ab (az rO (ab (ak 0) (ab (xC (.int 0)) (ab (xUn dD (af 3)) aj)))) aj))) (ag 0)) (FH 2 (af 3) vY))
noncomputable def fJ:XS:=aE (bw (xC (.int 0)) (ag 2)) (aE (ci (cU) (dY)) (b7 (ak 0)))
noncomputable def hJ:Xq->Option O:=fnO 4 fJ
noncomputable def b9:Xp:=fun ds=>(hJ ds).map O.d
noncomputable def cV:XT:=xB (xOp dLt (af 2) (af 1))
noncomputable def dZ:XS:=aE (bw (xCB qA (ab (xOp a6 (af 2) (xC (.int 1))) (ab (xOp dJ (af 1) (af 2)) aj))) (ag 3)) (aE (bw (az BG (ab (ak 0) (ab (az rO (ab (ak 0) (ab (xC (.int 0)) (ab (ak 3) aj)))) aj))) (ag 0)) (FH 2 (af 3) vY))
noncomputable def fK:XS:=aE (bw (xC (.int 0)) (ag 2)) (aE (ci (cV) (dZ)) (b7 (ak 0)))
noncomputable def hU:Xq->Option O:=fnO 4 fK
noncomputable def fM:Xp:=fun ds=>(hU ds).map O.d
noncomputable def bK:XS:=aE (bw (xL (bB [none,none,none,some 1] (xIt (az bN (ab (ak 0) aj))) (aY (ao (ag 0) (ao (ag 1) (ao (ag 2) bf)))) bP (aM (ab (xOp a6 (af 0) (xOp dIx (af 3) (xC (.int 1)))) (ab (xOp a6 (af 1) (xOp dIx (af 3) (xC (.int 0)))) (ab (xOp a6 (af 2) (xOp dIx (af 3) (xC (.int 2)))) aj)))))) (ag 2)) (aE (xIf (xB (xOp (dEq false) (xOp dIx (af 1) (xC (.int 1))) (xOp dIx (af 1) (xC (.int 3))))) (b7 (ak 2)) fi) (b7 (az bN (ab (az fM (ab (az eX (ab (ak 2) aj)) (ab (xOp dJ (xOp dIx (af 1) (xC (.int 3))) (xOp dIx (af 1) (xC (.int 1)))) aj))) aj))))
noncomputable def cu:Xq->Option O:=fnO 3 bK
noncomputable def cP:Xp:=fun ds=>(cu ds).map O.d
noncomputable def a7:XS:=aE (bw (az aq (ab (xL (bB [none,none,some 1] (xIt (af 0)) (aY (ao (ag 0) (ao (ag 1) bf))) bP (aM (ab (xOp dJ (af 0) (xOp dIx (af 2) (xC (.int 1)))) (ab (az bZ (ab (ak 1) (ab (xOp dIx (af 2) (xC (.int 0))) (ab (xOp dIx (af 2) (xC (.int 2))) aj)))) aj))))) aj)) (ag 2)) (b7 (az b9 (ab (ak 2) (ab (xOp dJ (xOp dIx (af 1) (xC (.int 3))) (xOp dIx (af 1) (xC (.int 1)))) aj))))
noncomputable def dM:Xq->Option O:=fnO 3 a7
noncomputable def aX:Xp:=fun ds=>(dM ds).map O.d
noncomputable def cj:XS:=DQ 2 xPv (az cP (ab (ak 0) (ab (ak 3) aj)))
noncomputable def c9:XS:=aE (kb (lg aj) 2) (aE (cX (xIt (ak 1)) (ag 3) (cj)) (NU 2 (b7 (az eX (ab (ak 2) aj)))))
noncomputable def ez:Xq->Option O:=fnO 4 c9
noncomputable def eV:Xp:=fun ds=>(ez ds).map O.d
noncomputable def aI:XS:=aE (xIf (xB (xOp (dEq false) (af 2) (aM aj))) (b7 (aM aj)) fi) (bw (az oq (ab (ak 2) (ab (az aX (ab (az fB (ab (ak 0) (ab (az tQ (ab (ak 2) aj)) (ab (ak 3) aj)))) (ab (ak 3) aj))) aj))) (ag 2))
noncomputable def bh:XS:=aE (bw (az aX (ab (ak 0) (ab (xOp dIx (af 1) (xUn dD (xC (.int 1)))) aj))) (ag 2)) (aE (cX (xIt (xSl (af 1) oW (qR (xUn dD (xC (.int 1)))))) (ag 3) (aI)) (b7 (ak 2)))
noncomputable def br:Xq->Option O:=fnO 4 bh
noncomputable def bj:Xp:=fun ds=>(br ds).map O.d
noncomputable def cA:XS:=bw (az eV (ab (ak 1) (ab (ak 2) aj))) (ag 1)
noncomputable def df:XS:=aE (cX (wR (ab (rG NS "parts" (ak 0)) aj)) (ag 2) (cA)) (b7 (ak 1))
noncomputable def jZ:Xq->Option O:=fnO 3 df
noncomputable def cE:Xp:=fun ds=>(jZ ds).map O.d
noncomputable def bp:XS:=bw (az bj (ab (ak 1) (ab (ak 2) aj))) (ag 1)
noncomputable def bJ:XS:=aE (cX (xIt (rG NS "parts" (ak 0))) (ag 2) (bp)) (b7 (ak 1))
noncomputable def j4:Xq->Option O:=fnO 3 bJ
noncomputable def bz:Xp:=fun ds=>(j4 ds).map O.d
noncomputable def dg:XS:=b7 (xOp (dEq true) (qQ NS "smaller" bz (ak 0) (ab (xC (.mtp [.mtp [.int (0),.mtp [.mtp [.int (0),.int (0)]]]])) aj)) (aM aj))
noncomputable def j5:Xq->Option O:=fnO 1 dg
noncomputable def eW:Xp:=fun ds=>(j5 ds).map O.d
noncomputable def bD:XT:=Cq (xB (xOp (dEq true) (af 4) (aM aj))) (xB (xOp dLt (xCB mF (ab (af 3) aj)) (af 2)))
noncomputable def cS:XS:=aE (bw (qQ NS "smaller" bz (ak 1) (ab (ak 4) aj)) (ag 5)) (aE (fW 3 xPv (xSh (az xE (ab (ak 4) (ab (qQ NS "greater" cE (ak 1) (ab (ak 5) aj)) aj))))) (bw (ak 5) (ag 4)))
noncomputable def dN:XS:=aE (kb (lg aj) 3) (aE (bw (ak 0) (ag 4)) (aE (ci (bD) (cS)) (b7 (xOp a6 (af 3) (xL (lg (ab (ak 4) aj)))))))
noncomputable def kM:Xq->Option O:=fnO 6 dN
noncomputable def iJ:Xp:=fun ds=>(kM ds).map O.d
noncomputable def nQ:XS:=aE (xIf (yq (az eW (ab (ak 1) aj))) (Cs) fi) (aE (bw (az iJ (ab (ak 0) (ab (ak 1) (ab (ak 2) aj)))) (ag 3)) (aE (xIf (xB (xOp (dEq true) (xOp dIx (af 3) (xUn dD (xC (.int 1)))) (aM aj))) (Cs) fi) (AR (xLT (NV (af 3) oW (qR (xUn dD (xC (.int 1)))))))))
noncomputable def dU:Xq->Option O:=fnO 4 nQ
noncomputable def rN:Xp:=fun ds=>(dU ds).map O.d
noncomputable def jw:XS:=xIf (I0 (yq (xCB sC (ab (af 10) (ab (xC (.ty "tuple")) aj))))) (b7 (xC (.bl false))) fi
noncomputable def yE:XS:=aE (bw (az bi (ab (ak 0) (ab (xC (.int 0)) aj))) (ag 1)) (aE (bw (az ja (ab (xOp mG (af 1) (xC (.int 16))) (ab (xOp dIx (xL (lg (ab (xC (.int 9)) (ab (xOp Gn (xC (.int 10)) (xC (.int 58))) aj)))) (xOp i7 (xOp mG (af 1) (xC (.int 4))) (xC (.int 2)))) aj))) (ag 2)) (aE (bw (az ja (ab (xOp mG (af 1) (xC (.int 32))) (ab (xOp dIx (xL (lg (ab (xC (.int 9)) (ab (xOp Gn (xC (.int 10)) (xC (.int 58))) aj)))) (xOp i7 (xOp mG (af 1) (xC (.int 8))) (xC (.int 2)))) aj))) (ag 3)) (aE (bw (az zz (ab (ak 0) (ab (ak 2) (ab (ak 3) aj)))) (ag 4)) (aE (bw (az C7 (ab (ak 0) aj)) (ag 5)) (aE (bw (az gD (ab (ak 4) aj)) (ag 6)) (aE (bw (az zA (ab (ak 4) (ab (ak 5) aj))) (ag 7)) (aE (bw (AO "Shape" "parts" kJ (ab (az gD (ab (ak 5) aj)) aj)) (ag 8)) (aE (oU (qv dU (ab (ak 6) (ab (ak 8) (ab (xC (.int 60)) aj)))) 9) (aE (xIf (xOr (I0 (yq (xCB sC (ab (af 9) (ab (xC (.ty "list")) aj))))) (xB (xOp (dEq true) (af 9) (af 7)))) (b7 (xC (.bl false))) fi) (aE (IW 9 (ag 10) (jw)) (aE (fW 9 xPv (xSh (aM aj))) (aE (I9 9 xPv) (b7 (IV (xOp (dEq false) (az rN (ab (ak 6) (ab (ak 8) (ab (xC (.int 60)) aj)))) (af 7)) (xOp (dEq false) (az rN (ab (aM aj) (ab (ak 8) (ab (xC (.int 0)) aj)))) (xL (lg aj)))))))))))))))))
noncomputable def G8:Xq->Option O:=fnO 11 yE
noncomputable def OM:Xp:=fun ds=>(G8 ds).map O.d
local macro_rules | `(tactic| and_intros)=>`(tactic| repeat' first | (with_reducible first | refine' PL (An ?_) | refine' PL (Lq ?_) | refine' Ky (Lc _) (GG _) ?_ ?_ | exact Og | exact Oh | exact Oi | exact LS | exact LU | exact LV | exact LW | exact Gb | exact Jn | exact GG _ | exact Oz | exact Lc _ | exact Mw | exact OV _ | exact Pe | exact Pf | exact Pg _ | exact QI | exact Kw | exact QJ | exact QK | exact QL | exact Ph | exact Pi | exact Pj | exact Pl | exact Pm | exact Nb | exact Nh _ | exact Kz (t:=uP) | exact Nl | exact Ic | exact Np _ | exact Ls _ | exact Ih _ | exact Nv _ | exact PM | exact xY | exact NA | exact NC | apply SE.t | apply SF.e | apply SF.t | apply SQ.fl | apply STr.e | apply Mc | apply OA | apply Md | apply OE | apply Mf | apply Mg | apply Mh | apply OG | apply Mi | apply J2 | apply QG | apply Pr | apply M7 | apply M8 | apply Ps | apply M9 | apply H9 | apply Pt | apply QO | apply Pu | apply Na | apply Nc | apply Pv | apply Pw | apply Nd | apply Nf | apply Px | apply Ng | apply QP | apply Lq | apply Fg | apply Py | apply Ni | apply Pz | apply An | apply PB | apply PD | apply QR | apply Nm | apply Nn | apply PF | apply No | apply Nq | apply PH | apply Nr | apply QS | apply PK | apply B7 | apply Ie | apply Nt | apply Ig | apply Nu | apply QT | apply KA | apply xX | apply KI | apply KM | apply SE.p | apply SPk.q | apply SI.p) | exact s_c rfl | exact s_g | apply zr | exact fun _ _ h=>C6 h | refine' Ia (E:=E0) ?_ ?_ | refine' DC (E:=E0) ?_ ?_ | refine' Nk (Ns:=NS) ?_ ?_ ?_ | refine' Nj (Ns:=NS) ?_ ?_ ?_ | exact List.Mem.head _ | exact List.Mem.tail _ (List.Mem.head _) | decide +kernel)
noncomputable abbrev jl (K:Xy):Sp:=uE K NS "parts" 1 JO
noncomputable abbrev Ay (K:Xy):Sp:=bS K 2 iz
noncomputable abbrev zY (K:Xy):{ t:TS // SS K t gQ }:=⟨_,by delta gQ;and_intros⟩
noncomputable abbrev Az (K:Xy):Sp:=bS K 2 fS
noncomputable abbrev zZ (K:Xy):{ t:TS // SS K t gR }:=⟨_,by delta gR gh eN;and_intros⟩
noncomputable abbrev Cf (K:Xy):Sp:=bS K 1 tX
noncomputable abbrev BX (K:Xy):{ t:TS // SS K t iX }:=⟨_,by delta iX fO;and_intros⟩
noncomputable abbrev Cg (K:Xy):Sp:=bS K 2 jH
noncomputable abbrev BZ (K:Xy):{ t:TS // SS K t iY }:=⟨_,by delta iY;and_intros⟩
noncomputable abbrev AA (K:Xy):Sp:=bS K 2 du
noncomputable abbrev z8 (K:Xy):{ t:TS // SS K t gS }:=⟨_,by delta gS cJ;and_intros⟩
noncomputable abbrev Fq (K:Xy):Sp:=bS K 1 pJ
noncomputable abbrev E7 (K:Xy):{ t:TS // SS K t nO }:=⟨_,by delta nO;and_intros⟩
noncomputable abbrev uF (K:Xy):Sp:=bS K 2 g9
noncomputable abbrev uk (K:Xy):{ t:TS // SS K t cY }:=⟨_,by delta cY bC cT;and_intros⟩
noncomputable abbrev vC (K:Xy):Sp:=bS K 2 iL
noncomputable abbrev vw (K:Xy):{ t:TS // SS K t gm }:=⟨_,by delta gm bI cB;and_intros⟩
noncomputable abbrev ye (K:Xy):Sp:=bS K 2 jJ
noncomputable abbrev xR (K:Xy):{ t:TS // SS K t iq }:=⟨_,by delta iq;and_intros⟩
noncomputable abbrev Fu (K:Xy):Sp:=bS K 1 pM
noncomputable abbrev Fa (K:Xy):{ t:TS // SS K t nR }:=⟨_,by delta nR et;and_intros⟩
noncomputable abbrev ny (K:Xy):Sp:=bS K 1 bq
noncomputable abbrev nh (K:Xy):{ t:TS // SS K t bg }:=⟨_,by delta bg;and_intros⟩
noncomputable abbrev rE (K:Xy):Sp:=bS K 1 d8
noncomputable abbrev rC (K:Xy):{ t:TS // SS K t eP }:=⟨_,by delta eP dB;and_intros⟩
noncomputable abbrev Fo (K:Xy):Sp:=bS K 3 wz
noncomputable abbrev E5 (K:Xy):{ t:TS // SS K t iV }:=⟨_,by delta iV gJ d9 gI;and_intros⟩
noncomputable abbrev Fp (K:Xy):Sp:=bS K 2 wA
noncomputable abbrev E6 (K:Xy):{ t:TS // SS K t iW }:=⟨_,by delta iW fk fm ju;and_intros⟩
noncomputable abbrev Iu (K:Xy):Sp:=bS K 1 zG
noncomputable abbrev Hv (K:Xy):{ t:TS // SS K t lh }:=⟨_,by delta lh iT;and_intros⟩
noncomputable abbrev p6 (K:Xy):Sp:=bS K 3 fD
noncomputable abbrev pV (K:Xy):{ t:TS // SS K t bU }:=⟨_,by delta bU;and_intros⟩
noncomputable abbrev yc (K:Xy):Sp:=bS K 1 jI
noncomputable abbrev xQ (K:Xy):{ t:TS // SS K t ip }:=⟨_,by delta ip bG;and_intros⟩
noncomputable abbrev Iw (K:Xy):Sp:=bS K 3 tZ
noncomputable abbrev Hx (K:Xy):{ t:TS // SS K t rJ }:=⟨_,by delta rJ;and_intros⟩
noncomputable abbrev vB (K:Xy):Sp:=bS K 1 iK
noncomputable abbrev vt (K:Xy):{ t:TS // SS K t gj }:=⟨_,by delta gj bH;and_intros⟩
noncomputable abbrev Ft (K:Xy):Sp:=bS K 2 jd
noncomputable abbrev E9 (K:Xy):{ t:TS // SS K t iZ }:=⟨_,by delta iZ;and_intros⟩
noncomputable abbrev vD (K:Xy):Sp:=bS K 2 iP
noncomputable abbrev vx (K:Xy):{ t:TS // SS K t gn }:=⟨_,by delta gn;and_intros⟩
noncomputable abbrev vE (K:Xy):Sp:=bS K 3 iQ
noncomputable abbrev vz (K:Xy):{ t:TS // SS K t gq }:=⟨_,by delta gq;and_intros⟩
noncomputable abbrev iC (K:Xy):Sp:=uE K NS "parts" 1 kJ
noncomputable abbrev Fs (K:Xy):Sp:=bS K 2 pK
noncomputable abbrev E8 (K:Xy):{ t:TS // SS K t nP }:=⟨_,by delta nP;and_intros⟩
noncomputable abbrev KJ (K:Xy):Sp:=bS K 2 xH
noncomputable abbrev Kl (K:Xy):{ t:TS // SS K t w8 }:=⟨_,by delta w8;and_intros⟩
noncomputable abbrev Ch (K:Xy):Sp:=bS K 3 mX
noncomputable abbrev B0 (K:Xy):{ t:TS // SS K t eF }:=⟨_,by delta eF;and_intros⟩
noncomputable abbrev AB (K:Xy):Sp:=bS K 2 kL
noncomputable abbrev z9 (K:Xy):{ t:TS // SS K t jz }:=⟨_,by delta jz;and_intros⟩
noncomputable abbrev KL (K:Xy):Sp:=bS K 2 xI
noncomputable abbrev Km (K:Xy):{ t:TS // SS K t w9 }:=⟨_,by delta w9;and_intros⟩
noncomputable abbrev uG (K:Xy):Sp:=bS K 2 hJ
noncomputable abbrev ul (K:Xy):{ t:TS // SS K t fJ }:=⟨_,by delta fJ dY cU;and_intros⟩
noncomputable abbrev uH (K:Xy):Sp:=bS K 2 hU
noncomputable abbrev um (K:Xy):{ t:TS // SS K t fK }:=⟨_,by delta fK dZ cV;and_intros⟩
noncomputable abbrev lV (K:Xy):Sp:=bS K 2 cu
noncomputable abbrev lR (K:Xy):{ t:TS // SS K t bK }:=⟨_,by delta bK;and_intros⟩
noncomputable abbrev lW (K:Xy):Sp:=bS K 2 dM
noncomputable abbrev lS (K:Xy):{ t:TS // SS K t a7 }:=⟨_,by delta a7;and_intros⟩
noncomputable abbrev nv (K:Xy):Sp:=bS K 2 ez
noncomputable abbrev nc (K:Xy):{ t:TS // SS K t c9 }:=⟨_,by delta c9 cj;and_intros⟩
noncomputable abbrev nz (K:Xy):Sp:=bS K 2 br
noncomputable abbrev nj (K:Xy):{ t:TS // SS K t bh }:=⟨_,by delta bh aI;and_intros⟩
noncomputable abbrev j9 (K:Xy):Sp:=bS K 2 jZ
noncomputable abbrev rp (K:Xy):{ t:TS // SS K t df }:=⟨_,by delta df cA;and_intros⟩
noncomputable abbrev ka (K:Xy):Sp:=bS K 2 j4
noncomputable abbrev rA (K:Xy):{ t:TS // SS K t bJ }:=⟨_,by delta bJ bp;and_intros⟩
noncomputable abbrev rD (K:Xy):Sp:=bS K 1 j5
noncomputable abbrev rB (K:Xy):{ t:TS // SS K t dg }:=⟨_,by delta dg;and_intros⟩
noncomputable abbrev uI (K:Xy):Sp:=bS K 3 kM
noncomputable abbrev uo (K:Xy):{ t:TS // SS K t dN }:=⟨_,by delta dN cS bD;and_intros⟩
noncomputable abbrev Iv (K:Xy):Sp:=bS K 3 dU
noncomputable abbrev Hw (K:Xy):{ t:TS // SS K t nQ }:=⟨_,by delta nQ;and_intros⟩
noncomputable abbrev yd (K:Xy):Sp:=bS K 1 G8
noncomputable abbrev MV (K:Xy):{ t:TS // SS K t yE }:=⟨_,by delta yE jw;and_intros⟩
end P
namespace P
open PySem L2 M Rw
noncomputable def tE (p:Int×Int):XD:=[p.1,p.2]
theorem zp:∀r:R,keys (r.map prD)=some (r.map tE)
 |[]=>rfl
 |p::r=>by rw[TQ,keys,zp r];rfl
def GQ:∀ {r:R},r≠[]->aQ (r.map prD)=none
 |[],h=>absurd rfl h
 |p::r,_=>rfl
noncomputable def Df:XD->Int×Int
 |[a,b]=>(a,b)
 |_=>(0,0)
noncomputable def j8 (ps:R):R:=(eJ (ps.map tE)).map Df
def nu (ps:R):(j8 ps).map tE=eJ (ps.map tE):=by
 unfold j8;rw[T5];have h:∀k∈eJ (ps.map tE),(tE∘Df) k=k:=fun k hk=>by have:=(fG _).mem_iff.mp hk;obtain⟨p,_,rfl⟩:=TC.mp this;rfl
 rw[Wr h,List.map_id']
def fH (ps:R):(j8 ps).Perm ps:=by have h:=(fG (ps.map tE)).map Df;rw[T5] at h;have e:(Df∘tE)=id:=rfl;rw[e,List.map_id] at h;exact h
def Ir (ps:R):(j8 ps).Pairwise fun p q=>p.1<=q.1:=by
 have h:=oI (ps.map tE);rw[<- nu,Ur] at h;refine h.imp fun {p q} e=>?_;have e':(if q.1=p.1 then HT.bM [q.2] [p.2] else decide (q.1<p.1))=false:=e;by_cases hq:q.1=p.1
 ·lia
 ·rw[Tr hq] at e';have:=UO e';lia
def qB (ps:R)(h:ps.length<30000):eS [BF ps]=some ((j8 ps).map prD):=by
 show (if (ps.map prD).length<30000 then _ else _)=_;rw[Ts (by rw[Tw];exact h)];by_cases e:ps=[]
 ·subst e;have e0:j8 []=[]:=U8.mp (by rw[(fH []).length_eq];rfl);have e1:ic []=[]:=U8.mp (by rw[(fF []).length_eq];rfl);show some ((ic []).map D.int)=_;rw[e0,e1];rfl
 ·rw[GQ e];dsimp only;rw[zp];have:(j8 ps).map prD=(eJ (ps.map tE)).map oM:=by
   rw[<- nu,T5];rfl
  rw[this];rfl
noncomputable def ph (p:Int×Int):Bool:=decide (p.1<=p.2)
noncomputable def j6 (ps:R):R:=me (j8 (ps.filter ph))
def dt (ps:R):IsRow ps (j6 ps):=by
 refine G7 ?_ (Ir _) fun x=>?_
 ·intro p hp;have:=(fH _).mem_iff.mp hp;simpa[ph] using (Ui.mp this).2
 ·rw[G3 (fH _)];exact mem_filter ps x
def AE (acc:R)(p:Int×Int):(step acc p).length<=acc.length+1:=by
 rcases Uv acc with rfl|⟨t,q,rfl⟩
 ·simp[Rw.step]
 ·rw[Uz,gE];split<;>simp
theorem pI:∀(l acc:R),(l.foldl step acc).length<=acc.length+l.length
 |[],acc=>by simp
 |p::l,acc=>by have h1:=pI l (step acc p);have h2:=AE acc p;rw[Vx,TF];lia
def wH (ps:R):(j6 ps).length<=ps.length:=by have h1:=pI (j8 (ps.filter ph)) [];have h2:=(fH (ps.filter ph)).length_eq;have h3:=Vf ph ps;unfold j6 me;simp only[V6] at h1;lia
def aH {n:Nat}(h:n<=100000):n<=LIM:=Ud h (by rw[fy];decide)
def cO {n:Nat}(h:n<=100000):n<LIM:=UT h (by rw[fy];decide)
def II (a b:Int):D.tup [.int a,.int b]=prD (a,b):=rfl
theorem wc:∀ps:R,ps.filterMap (fun p=>if p.1<=p.2 then some (prD p) else none)=(ps.filter ph).map prD
 |[]=>rfl
 |p::t=>by
  rw[Uq,WS,wc t];by_cases h:p.1<=p.2
  ·simp[ph,h]
  ·simp[ph,h]
noncomputable abbrev gx:=aY (ao (ag 0) (ao (ag 1) bf))
def Ec (ps:R):aZ gx (xB (xOp dLe (af 0) (af 1))) (aM (ab (ak 0) (ab (ak 1) aj))) [.un,.un] (ps.map prD)=some ((ps.filter ph).map prD):=by rw[i6 prD (fun p=>if p.1<=p.2 then some (prD p) else none) ps,wc];intro p _;by_cases h:p.1<=p.2<;>simp[dW,h]
def BK (pre:R)(p:Int×Int):me (pre++[p])=step (me pre) p:=by unfold me;rw[Wy];rfl
def G6 (pre:R):(me pre).length<=pre.length:=by have:=pI pre [];unfold me;simpa using this
def gA {α:Type}{l:List α}{i:Nat}{x:α}(h:l[i]?=some x):l.drop i=x::l.drop (i+1):=by obtain⟨h1,rfl⟩:=TR.mp h;exact V1 h1
def K6 {r:R}{i:Nat}{p:Int×Int}(h:r[i]?=some p):atI (r.map prD) (i:Int)=some (prD p):=ft (by rw[TX,h];rfl)
def Eb (p q:Int×Int)(s t:R):c8 (p::s) (q::t)=(if max p.1 q.1<=min p.2 q.2 then [(max p.1 q.1,min p.2 q.2)] else [])++(if p.2<q.2 then c8 s (q::t) else c8 (p::s) t):=by rw[c8]
def mx (a b:Int):(if b > a then b else a)=max a b:=by split<;>lia
def mn (a b:Int):(if b<a then b else a)=min a b:=by split<;>lia
noncomputable def chg (r:R):XD:=r.map (·.1)++r.map (·.2+1)
def xg (ns:XD)(h:ns.length<30000):eS [.lst (ns.map D.int)]=some ((ic ns).map D.int):=by show (if (ns.map D.int).length<30000 then _ else _)=_;rw[Ts (by rw[Tw];exact h),gZ]
theorem v8:∀(n k:Nat),eU k n=(List.range' k n).map fun k:Nat=>D.int (2 * (k:Int))
 |0,_=>rfl
 |n+1,k=>by rw[eU,v8 n (k+1),List.range'_succ,TQ]
theorem m8:∀(n:Nat) (c:XD),c.length=2 * n->∀k,k<n->∃a b,c[2 * k]?=some a/\c[2 * k+1]?=some b/\(gb c)[k]?=some (a,b-1)
 |0,_,_,k,h=>()
 |n+1,c,h,k,hk=>by
  match c,h with
  |a::b::t,h=>
   cases k with
   |zero=>exact⟨a,b,rfl,rfl,rfl⟩
   |succ k=>
    obtain⟨x,y,h1,h2,h3⟩:=m8 n t (by simp at h;lia) k ();refine⟨x,y,?_,?_,?_⟩
    ·rw[show 2 * (k+1)=2 * k+1+1 by lia];exact h1
    ·rw[show 2 * (k+1)+1=2 * k+1+1+1 by lia];exact h2
    ·rw[gb];exact h3
theorem m9:∀(n:Nat) (c:XD),c.length=2 * n->(gb c).length=n
 |0,c,h=>by
  have:c=[]:=U8.mp ();subst this;rfl
 |n+1,c,h=>by
  match c,h with
  |a::b::t,h=>rw[gb,TF,m9 n t (by simp at h;lia)]
def Be (n:Nat)(c:XD)(h:c.length=2 * n):aZ (ag 0) bP (aM (ab (xOp dIx (af 1) (af 0)) (ab (xOp dJ (xOp dIx (af 1) (xOp a6 (af 0) (xC (.int 1)))) (xC (.int 1))) aj))) [.un,.sh (.lst (c.map D.int))] (eU 0 n)=some ((gb c).map prD):=by
 rw[v8,aR (fun k:Nat=>D.int (2 * (k:Int))) (fun k=>match (gb c)[k]? with|some p=>prD p|none=>.non) (List.range' 0 n)]
 ·congr 1;apply V2;intro k;rw[TX,TX];by_cases hk:k<n
  ·rw[Ua (by rw[VG];exact hk),List.getElem_range'];obtain⟨a,b,_,_,h3⟩:=m8 n c h k hk;simp[h3]
  ·rw[Xh (by rw[VG];lia),Xh (by rw[m9 n c h];lia)];rfl
 ·intro k hk;have hk':k<n:=by simpa using (List.mem_range'.mp hk)
  obtain⟨a,b,h1,h2,h3⟩:=m8 n c h k hk';have e1:atI (c.map D.int) (2 * (k:Int))=some (.int a):=by have:=ft (l:=c.map D.int) (j:=2 * k) (x:=.int a) (by rw[TX,h1];rfl);rw[<- this];congr 1
  have e2:atI (c.map D.int) (2 * (k:Int)+1)=some (.int b):=by have:=ft (l:=c.map D.int) (j:=2 * k+1) (x:=.int b) (by rw[TX,h2];rfl);rw[<- this];congr 1
  simp[dW,e1,e2,h3]
noncomputable def kq (r t:R):R:=j6 (gb (ic (chg (r++t))))
def CJ (r:R):(chg r).length=2 * r.length:=by unfold chg;simp;lia
def zo {r t:R}(cr:aV r)(ct:aV t):yy r t (kq r t):=by
 obtain⟨h1,h2⟩:=dt (gb (ic (chg (r++t))));refine⟨h1,fun x=>?_⟩;have hl:(ic (chg (r++t))).length=2 * (r++t).length:=by rw[(fF _).length_eq,CJ]
 unfold kq;rw[h2 x,ug _ _ hl (Av _) x,FB (fF _),<- IP cr ct x];rfl
noncomputable def mU (r t:R):R:=kq r (c8 r t)
def i9 {r t:R}(cr:aV r)(ct:aV t):FW r t (c8 r t):=⟨A9 _ r t rfl cr ct,fun x=>Gk _ r t rfl cr ct x⟩
def pq {r t:R}(cr:aV r)(ct:aV t):FX r t (mU r t):=JY (i9 cr ct) (zo cr (i9 cr ct).1)
def GP (n:Nat):gY 0 n=(List.range n).map fun k:Nat=>D.int (k:Int):=by
 apply V2;intro i;cases q:(gY 0 n)[i]? with
 |none=>
  have:=Vn.mp q;rw[pk] at this;rw[Xh (by rw[Tw,VE];exact this)]
 |some d=>obtain⟨h1,rfl⟩:=pj n 0 i d q;rw[TX,List.getElem?_range h1];simp
def CP {α β:Type}(f:α->β)(xs:List α)(lo hi:Option Int):fw (xs.map f) lo hi=(fw xs lo hi).map f:=by unfold fw;rw[Tw,<- List.map_drop,<- List.map_take]
def au {m n:XS}{ρ ρ':M.Env}(h:m ρ=some (.nx ρ')):aE m n ρ=n ρ':=by unfold aE;rw[h]
def ma {n:Nat}{x:XS}{ds:Xq}{d:D}(h:x (ds.map .sh++List.replicate (n-ds.length) .un)=some (.rt d)):(fnO n x ds).map O.d=some d:=by unfold fnO;rw[h];simp
def DB {n d:Nat}{v:Int}(h:0<=v):HT.sIx n d (some v)=min v.toNat n:=by show (if v<0 then _ else _)=_;rw[Tr ()]
def Aj (s0:Sl)(acc:R)(a b:Int)(h:acc.length<=30000):et [s0,owl (acc.map prD),.sh (.int a),.sh (.int b)]=some (.nx [s0,owl ((step acc (a,b)).map prD),.sh (.int a),.sh (.int b)]):=by
 rcases Uv acc with rfl|⟨t,q,rfl⟩
 ·simp[et,Rw.step,prD]
 ·rw[Uz] at *;rw[gE];have hl:t.length+1<=30000:=by simpa using h
  have hlim:t.length+1<LIM:=cO ();have at1:atI (t.map prD++[prD q]) (-1)=some (prD q):=eR _ _;by_cases hc:a<=q.2+1
  ·simp[et,at1,hc,oj,II]
  ·simp[et,at1,hc,hlim,II]
noncomputable abbrev NY:=ao (ag 2) (ao (ag 3) bf)
def kF (ps:R)(h:ps.length<30000):jb [BF ps]=some (bm (j6 ps)):=by
 have hf:=Vf ph ps;have hs:=(fH (ps.filter ph)).length_eq;have key:∃ρ',cD (aY NY) et ((j8 (ps.filter ph)).map prD) [.sh (BF ps),.ow (.lst []),.un,.un]=some (.nx ρ')/\∃va vb,ρ'=[.sh (BF ps),owl ((j6 ps).map prD),va,vb]:=by
  refine a8 prD (fun pre ρ=>∃va vb,ρ=[.sh (BF ps),owl ((me pre).map prD),va,vb]) _ _ ⟨_,_,rfl⟩ ?_;rintro pre p post _ e ⟨va,vb,rfl⟩;have hp:pre.length<=30000:=by have:=T7 List.length e;rw[Tz] at this;lia
  refine⟨_,_,rfl,.inl (Aj _ (me pre) p.1 p.2 (by have:=G6 pre;lia)),.sh (.int p.1),.sh (.int p.2),by rw[BK]⟩
 obtain⟨ρ',k1,va,vb,rfl⟩:=key;have hc:=Ec ps;have hb:=qB (ps.filter ph) ();have hl:ps.length<=LIM:=aH ();simp[jb,pM,fnO,nR,hl,hc,hb,k1]
noncomputable abbrev Tri:=Int×Int×Int
noncomputable abbrev cH (t:Tri):D:=.tup [.int t.1,.int t.2.1,.int t.2.2]
noncomputable abbrev Pic:=List (Int×R)
noncomputable abbrev pyD (q:Int×R):D:=.tup [.int q.1,bm q.2]
noncomputable abbrev ap (p:Pic):D:=.tup (p.map pyD)
def iG (ts:List Tri)(x y:Int):Prop:=∃t∈ts,t.1=y/\t.2.1<=x/\x<=t.2.2
def aC (p:Pic)(x y:Int):Prop:=∃q∈p,q.1=y/\Mem q.2 x
def am (p:Pic):Prop:=(∀q∈p,aV q.2/\q.2≠[])/\p.Pairwise fun a b=>a.1<b.1
def bA (x y:Int):¬aC [] x y:=by rintro⟨_,h,_⟩;cases h
def bu (q:Int×R)(p:Pic)(x y:Int):aC (q::p) x y↔(q.1=y/\Mem q.2 x)\/aC p x y:=by
 constructor
 ·rintro⟨s,h,e⟩;rcases TN.mp h with rfl|h
  ·exact .inl e
  ·exact .inr ⟨s,h,e⟩
 ·rintro (e|⟨s,h,e⟩)
  ·exact⟨q,TD,e⟩
  ·exact⟨s,TJ _ h,e⟩
def eG (p q:Pic)(x y:Int):aC (p++q) x y↔aC p x y\/aC q x y:=by
 constructor
 ·rintro⟨s,h,e⟩;rcases TH.mp h with h|h
  ·exact .inl ⟨s,h,e⟩
  ·exact .inr ⟨s,h,e⟩
 ·rintro (⟨s,h,e⟩|⟨s,h,e⟩)
  ·exact⟨s,TK _ h,e⟩
  ·exact⟨s,TV _ h,e⟩
def wN (t:Tri)(ts:List Tri)(x y:Int):iG (t::ts) x y↔(t.1=y/\t.2.1<=x/\x<=t.2.2)\/iG ts x y:=by
 constructor
 ·rintro⟨s,h,e⟩;rcases TN.mp h with rfl|h
  ·exact .inl e
  ·exact .inr ⟨s,h,e⟩
 ·rintro (e|⟨s,h,e⟩)
  ·exact⟨t,TD,e⟩
  ·exact⟨s,TJ _ h,e⟩
def eK (a b:List Tri)(x y:Int):iG (a++b) x y↔iG a x y\/iG b x y:=by
 constructor
 ·rintro⟨s,h,e⟩;rcases TH.mp h with h|h
  ·exact .inl ⟨s,h,e⟩
  ·exact .inr ⟨s,h,e⟩
 ·rintro (⟨s,h,e⟩|⟨s,h,e⟩)
  ·exact⟨s,TK _ h,e⟩
  ·exact⟨s,TV _ h,e⟩
def Fy {a b:List Tri}(h:a.Perm b)(x y:Int):iG a x y↔iG b x y:=
 ⟨fun⟨q,m,e⟩=>⟨q,h.mem_iff.mp m,e⟩,fun⟨q,m,e⟩=>⟨q,h.mem_iff.mpr m,e⟩⟩
def eA:am []:=⟨fun _ h=>(by cases h),.nil⟩
def pcanon_cons {q:Int×R}{p:Pic}:am (q::p)↔(aV q.2/\q.2≠[])/\(∀s∈p,q.1<s.1)/\am p:=by
 constructor
 ·rintro⟨h1,h2⟩;have h3:=Ve.mp h2;exact⟨h1 q TD,h3.1,fun s hs=>h1 s (TJ _ hs),h3.2⟩
 ·rintro⟨h1,h2,h3,h4⟩;refine⟨fun s hs=>?_,Ve.mpr ⟨h2,h4⟩⟩;rcases TN.mp hs with rfl|hs
  ·exact h1
  ·exact h3 s hs
def ir {r:R}(c:aV r)(h:r≠[]):∃x,Mem r x:=by
 cases r with
 |nil=>exact absurd rfl h
 |cons p r=>exact⟨p.1,(mem_cons ..).mpr (.inl ⟨T1 _,(canon_cons.mp c).1⟩)⟩
theorem rV:∀ {p q:Pic},am p->am q->(∀x y,aC p x y↔aC q x y)->p=q
 |[],[],_,_,_=>rfl
 |[],b::q,_,cq,h=>by
  obtain⟨⟨c1,c2⟩,_⟩:=pcanon_cons.mp cq;obtain⟨x,hx⟩:=ir c1 c2;exact (bA _ _ ((h x b.1).mpr ((bu ..).mpr (.inl ⟨rfl,hx⟩)))).elim
 |a::p,[],cp,_,h=>by
  obtain⟨⟨c1,c2⟩,_⟩:=pcanon_cons.mp cp;obtain⟨x,hx⟩:=ir c1 c2;exact (bA _ _ ((h x a.1).mp ((bu ..).mpr (.inl ⟨rfl,hx⟩)))).elim
 |a::p,b::q,cp,cq,h=>by
  obtain⟨⟨ca,na⟩,la,cp'⟩:=pcanon_cons.mp cp;obtain⟨⟨cb,nb⟩,lb,cq'⟩:=pcanon_cons.mp cq;obtain⟨xa,ha⟩:=ir ca na;obtain⟨xb,hb⟩:=ir cb nb;have ey:a.1=b.1:=by
   have h1:b.1<=a.1:=by
    rcases (bu ..).mp ((h xa a.1).mp ((bu ..).mpr (.inl ⟨rfl,ha⟩))) with ⟨e,_⟩|⟨s,hs,e,_⟩
    ·lia
    ·have:=lb s hs;lia
   have h2:a.1<=b.1:=by
    rcases (bu ..).mp ((h xb b.1).mpr ((bu ..).mpr (.inl ⟨rfl,hb⟩))) with ⟨e,_⟩|⟨s,hs,e,_⟩
    ·lia
    ·have:=la s hs;lia
   lia
  have er:a.2=b.2:=Co ca cb fun x=>by
   have hx:=h x a.1;rw[bu,bu] at hx;have n1:¬aC p x a.1:=by rintro⟨s,hs,e,_⟩;have:=la s hs;lia
   have n2:¬aC q x a.1:=by rintro⟨s,hs,e,_⟩;have:=lb s hs;lia
   constructor
   ·intro hm;rcases hx.mp (.inl ⟨rfl,hm⟩) with z|z
    ·exact z.2
    ·exact absurd z n2
   ·intro hm;rcases hx.mpr (.inl ⟨ey.symm,hm⟩) with z|z
    ·exact z.2
    ·exact absurd z n1
  have eab:a=b:=by obtain⟨a1,a2⟩:=a;obtain⟨b1,b2⟩:=b;simp only at ey er;rw[ey,er]
  subst eab;have ih:p=q:=rV cp' cq' fun x y=>by
   have hx:=h x y;rw[bu,bu] at hx;constructor
   ·intro hm;rcases hx.mp (.inr hm) with z|z
    ·obtain⟨s,hs,e,_⟩:=hm;have:=la s hs;lia
    ·exact z
   ·intro hm;rcases hx.mpr (.inr hm) with z|z
    ·obtain⟨s,hs,e,_⟩:=hm;have:=lb s hs;lia
    ·exact z
  rw[ih]
noncomputable def vg (t:Tri):XD:=[t.1,t.2.1,t.2.2]
noncomputable def xK:XD->Tri
 |[a,b,c]=>(a,b,c)
 |_=>(0,0,0)
theorem wp:∀r:List Tri,keys (r.map cH)=some (r.map vg)
 |[]=>rfl
 |p::r=>by rw[TQ,keys,wp r];rfl
def Ew:∀ {r:List Tri},r≠[]->aQ (r.map cH)=none
 |[],h=>absurd rfl h
 |_::_,_=>rfl
noncomputable def cW (ts:List Tri):List Tri:=(eJ (ts.map vg)).map xK
def uD (ts:List Tri):(cW ts).map vg=eJ (ts.map vg):=by
 unfold cW;rw[T5];have h:∀k∈eJ (ts.map vg),(vg∘xK) k=k:=fun k hk=>by have:=(fG _).mem_iff.mp hk;obtain⟨p,_,rfl⟩:=TC.mp this;rfl
 rw[Wr h,List.map_id']
def eE (ts:List Tri):(cW ts).Perm ts:=by have h:=(fG (ts.map vg)).map xK;rw[T5] at h;have e:(xK∘vg)=id:=rfl;rw[e,List.map_id] at h;exact h
def Aw (ts:List Tri):(cW ts).Pairwise fun p q=>p.1<=q.1:=by
 have h:=oI (ts.map vg);rw[<- uD,Ur] at h;refine h.imp fun {p q} e=>?_;have e':(if q.1=p.1 then HT.bM [q.2.1,q.2.2] [p.2.1,p.2.2] else decide (q.1<p.1))=false:=e;by_cases hq:q.1=p.1
 ·lia
 ·rw[Tr hq] at e';have:=UO e';lia
def nU (ts:List Tri)(h:ts.length<30000):eS [.lst (ts.map cH)]=some ((cW ts).map cH):=by
 show (if (ts.map cH).length<30000 then _ else _)=_;rw[Ts (by rw[Tw];exact h)];by_cases e:ts=[]
 ·subst e;have e0:cW []=[]:=U8.mp (by rw[(eE []).length_eq];rfl);have e1:ic []=[]:=U8.mp (by rw[(fF []).length_eq];rfl);show some ((ic []).map D.int)=_;rw[e0,e1];rfl
 ·rw[Ew e];dsimp only;rw[wp];have:(cW ts).map cH=(eJ (ts.map vg)).map oM:=by
   rw[<- uD,T5];rfl
  rw[this];rfl
noncomputable def cI (t:Tri):Bool:=decide (t.2.1<=t.2.2)
def AG (ts:List Tri)(x y:Int):iG (ts.filter cI) x y↔iG ts x y:=by
 constructor
 ·rintro⟨q,m,e⟩;exact⟨q,(Ui.mp m).1,e⟩
 ·rintro⟨q,m,e⟩;exact⟨q,Ui.mpr ⟨m,by simp[cI];lia⟩,e⟩
theorem sY:∀ps:List Tri,ps.filterMap (fun p=>if p.2.1<=p.2.2 then some (cH p) else none)=(ps.filter cI).map cH
 |[]=>rfl
 |p::t=>by
  rw[Uq,WS,sY t];by_cases h:p.2.1<=p.2.2
  ·simp[cI,h]
  ·simp[cI,h]
noncomputable abbrev NW:=aY (ao (ag 0) (ao (ag 1) (ao (ag 2) bf)))
def Ba (ps:List Tri):aZ NW (xB (xOp dLe (af 1) (af 2))) (aM (ab (ak 0) (ab (ak 1) (ab (ak 2) aj)))) [.un,.un,.un] (ps.map cH)=some ((ps.filter cI).map cH):=by rw[i6 cH (fun p=>if p.2.1<=p.2.2 then some (cH p) else none) ps,sY];intro p _;by_cases h:p.2.1<=p.2.2<;>simp[dW,h]
noncomputable def jW (gs:Pic)(t:Tri):Pic:=match gs.getLast? with
 |none=>[(t.1,[t.2])]
 |some g=>if g.1=t.1 then gs.dropLast++[(g.1,g.2++[t.2])] else gs++[(t.1,[t.2])]
def Ep (t:Tri):jW [] t=[(t.1,[t.2])]:=rfl
def mQ (gs:Pic)(g:Int×R)(t:Tri):jW (gs++[g]) t=if g.1=t.1 then gs++[(g.1,g.2++[t.2])] else gs++[g]++[(t.1,[t.2])]:=by unfold jW;simp
noncomputable def dS (ts:List Tri):Pic:=ts.foldl jW []
def tj (pre:List Tri)(t:Tri):dS (pre++[t])=jW (dS pre) t:=by unfold dS;rw[Wy];rfl
structure GOk (gs:Pic) (ts:List Tri):Prop where
 ne:∀g∈gs,g.2≠[]/\Ok g.2
 up:gs.Pairwise fun a b=>a.1<b.1
 mem:∀x y,aC gs x y↔iG ts x y
 le:∀g∈gs,∃t∈ts,g.1=t.1
 len:(gs.map fun g=>g.2.length).sum=ts.length
def GE {gs:Pic}{ts:List Tri}{t:Tri}(o:GOk gs ts)(ht:t.2.1<=t.2.2)(hb:∀s∈ts,s.1<=t.1):GOk (jW gs t) (ts++[t]):=by
 have tm:∀x y,iG (ts++[t]) x y↔iG ts x y\/(t.1=y/\t.2.1<=x/\x<=t.2.2):=fun x y=>by
  rw[eK,wN];constructor
  ·rintro (h|h|⟨_,h,_⟩)
   ·exact .inl h
   ·exact .inr h
   ·cases h
  ·rintro (h|h)
   ·exact .inl h
   ·exact .inr (.inl h)
 have okt:Ok [t.2]:=fun p hp=>by rw[Tv.mp hp];exact ht
 rcases Uv gs with rfl|⟨gs0,g,rfl⟩
 ·rw[Ep];have e0:ts=[]:=U8.mp (by have:=o.len;simpa using this.symm);subst e0;refine⟨fun g hg=>?_,Vv _ _,fun x y=>?_,fun g hg=>⟨t,by simp,by rw[Tv.mp hg]⟩,by simp⟩
  ·rw[Tv.mp hg];exact⟨by simp,okt⟩
  ·rw[tm,bu,mem_cons];constructor
   ·rintro (⟨h1,h2|h2⟩|h)
    ·exact .inr ⟨h1,h2⟩
    ·exact (ba _ h2).elim
    ·exact (bA _ _ h).elim
   ·rintro (⟨_,h,_⟩|h)
    ·cases h
    ·exact .inl ⟨h.1,.inl h.2⟩
 ·rw[Uz] at *;have up:=Ug.mp o.up;rw[mQ];have glast:g.1<=t.1:=by
   obtain⟨s,hs,e⟩:=o.le g (by simp);have:=hb s hs;lia
  by_cases h:g.1=t.1
  ·rw[Ts h];refine⟨fun q hq=>?_,?_,fun x y=>?_,fun q hq=>?_,?_⟩
   ·rcases TH.mp hq with hq|hq
    ·exact o.ne q (TK _ hq)
    ·rw[Tv.mp hq];refine⟨by simp,fun p hp=>?_⟩;rcases TH.mp hp with hp|hp
     ·exact (o.ne g (by simp)).2 p hp
     ·exact okt p hp
   ·refine Ug.mpr ⟨up.1,Vv _ _,fun a ha b hb=>?_⟩;rw[Tv.mp hb];exact up.2.2 a ha g (by simp)
   ·rw[tm,<- o.mem,eG,eG,bu,bu];dsimp only;rw[mem_append,mem_cons];have n0:=bA x y;have n1:=ba x;constructor
    ·rintro (k|⟨k1,k2|k2|k2⟩|k)
     ·exact .inl (.inl k)
     ·exact .inl (.inr (.inl ⟨k1,k2⟩))
     ·exact .inr ⟨(),k2⟩
     ·exact absurd k2 n1
     ·exact absurd k n0
    ·rintro ((k|⟨k1,k2⟩|k)|⟨k1,k2⟩)
     ·exact .inl k
     ·exact .inr (.inl ⟨k1,.inl k2⟩)
     ·exact absurd k n0
     ·exact .inr (.inl ⟨(),.inr (.inl k2)⟩)
   ·rcases TH.mp hq with hq|hq
    ·obtain⟨s,hs,e⟩:=o.le q (TK _ hq);exact⟨s,TK _ hs,e⟩
    ·rw[Tv.mp hq];exact⟨t,by simp,h⟩
   ·have:=o.len;simp only[Ub,List.sum_append,TQ,VW,Vg,List.sum_nil,Tz,TF,V6] at this ⊢;lia
  ·rw[Tr h];refine⟨fun q hq=>?_,?_,fun x y=>?_,fun q hq=>?_,?_⟩
   ·rcases TH.mp hq with hq|hq
    ·exact o.ne q hq
    ·rw[Tv.mp hq];exact⟨by simp,okt⟩
   ·refine Ug.mpr ⟨o.up,Vv _ _,fun a ha b hb'=>?_⟩;rw[Tv.mp hb'];rcases TH.mp ha with ha|ha
    ·have:=up.2.2 a ha g (by simp);dsimp only;lia
    ·rw[Tv.mp ha];dsimp only;lia
   ·rw[tm,<- o.mem,eG,bu];dsimp only;rw[mem_cons];have n0:=bA x y;have n1:=ba x;constructor
    ·rintro (k|⟨k1,k2|k2⟩|k)
     ·exact .inl k
     ·exact .inr ⟨k1,k2⟩
     ·exact absurd k2 n1
     ·exact absurd k n0
    ·rintro (k|⟨k1,k2⟩)
     ·exact .inl k
     ·exact .inr (.inl ⟨k1,.inl k2⟩)
   ·rcases TH.mp hq with hq|hq
    ·obtain⟨s,hs,e⟩:=o.le q hq;exact⟨s,TK _ hs,e⟩
    ·rw[Tv.mp hq];exact⟨t,by simp,rfl⟩
   ·have:=o.len;simp only[Ub,List.sum_append,TQ,VW,Vg,List.sum_nil,Tz,TF,V6] at this ⊢;lia
theorem zl:∀(post pre:List Tri),(∀t∈pre++post,t.2.1<=t.2.2)->(pre++post).Pairwise (fun p q=>p.1<=q.1)->GOk (dS pre) pre->GOk (dS (pre++post)) (pre++post)
 |[],pre,_,_,o=>by rw[Um];exact o
 |t::post,pre,h1,h2,o=>by
  have e:pre++t::post=(pre++[t])++post:=by simp
  rw[e] at h1 h2 ⊢;refine zl post (pre++[t]) h1 h2 ?_;rw[tj];have h3:=Ug.mp h2;have h4:=Ug.mp h3.1;exact GE o (h1 t (by simp)) fun s hs=>h4.2.2 s hs t (by simp)
def wg {ts:List Tri}(h1:∀t∈ts,t.2.1<=t.2.2)(h2:ts.Pairwise fun p q=>p.1<=q.1):GOk (dS ts) ts:=
 zl ts [] h1 h2 ⟨fun _ h=>(by cases h),.nil,fun x y=>⟨fun h=>(bA _ _ h).elim,fun⟨_,h,_⟩=>by cases h⟩,fun _ h=>(by cases h),rfl⟩
noncomputable def fh (ts:List Tri):Pic:=(dS (cW (ts.filter cI))).map fun g=>(g.1,j6 g.2)
def kX (ts:List Tri):GOk (dS (cW (ts.filter cI))) (cW (ts.filter cI)):=wg (fun t ht=>by
 have:=(eE _).mem_iff.mp ht
 simpa[cI] using (Ui.mp this).2) (Aw _)
def HW {ps:R}(h:ps≠[])(o:Ok ps):j6 ps≠[]:=fun e=>by
 cases ps with
 |nil=>exact h rfl
 |cons p ps=>have:=((dt (p::ps)).2 p.1).mpr ((mem_cons ..).mpr (.inl ⟨T1 _,o p TD⟩));rw[e] at this;exact ba _ this
def eZ (ts:List Tri):am (fh ts)/\∀x y,aC (fh ts) x y↔iG ts x y:=by
 have o:=kX ts;refine⟨⟨fun q hq=>?_,?_⟩,fun x y=>?_⟩
 ·obtain⟨g,hg,rfl⟩:=TC.mp hq;obtain⟨h1,h2⟩:=o.ne g hg;exact⟨(dt g.2).1,HW h1 h2⟩
 ·unfold fh;rw[Ur];exact o.up
 ·rw[<- AG ts,<- Fy (eE _),<- o.mem];constructor
  ·rintro⟨q,hq,e,hm⟩;obtain⟨g,hg,rfl⟩:=TC.mp hq;exact⟨g,hg,e,((dt g.2).2 x).mp hm⟩
  ·rintro⟨g,hg,e,hm⟩;exact⟨_,TC.mpr ⟨g,hg,rfl⟩,e,((dt g.2).2 x).mpr hm⟩
noncomputable def ah (p:Pic):List Tri:=p.flatMap fun q=>q.2.map fun s=>(q.1,s)
def bv (q:Int×R)(p:Pic):ah (q::p)=(q.2.map fun s=>(q.1,s))++ah p:=rfl
def jn (p:Pic)(x y:Int):iG (ah p) x y↔aC p x y:=by
 constructor
 ·rintro⟨t,ht,e,h⟩;obtain⟨q,hq,hs⟩:=List.mem_flatMap.mp ht;obtain⟨s,hs2,rfl⟩:=TC.mp hs;exact⟨q,hq,e,s,hs2,h⟩
 ·rintro⟨q,hq,e,s,hs,h⟩;exact⟨(q.1,s),List.mem_flatMap.mpr ⟨q,hq,TC.mpr ⟨s,hs,rfl⟩⟩,e,h⟩
def ui {ts:List Tri}{p:Pic}(c:am p)(h:∀x y,iG ts x y↔aC p x y):fh ts=p:=
 rV (eZ ts).1 c fun x y=>((eZ ts).2 x y).trans (h x y)
mutual
theorem yZ:∀(n:Nat) (d:D),okD n d=true->eqD d d=true
 |_,.non,_=>by simp[eqD]
 |_,.bl _,_=>by simp[eqD]
 |_,.int _,_=>by simp[eqD]
 |_,.str _,_=>by simp[eqD]
 |0,.lst _,h=>by simp[okD] at h
 |n+1,.lst l,h=>by rw[eqD];exact eqDs_refl n l (by simpa[okD] using h)
 |0,.tup _,h=>by simp[okD] at h
 |n+1,.tup l,h=>by rw[eqD];exact eqDs_refl n l (by simpa[okD] using h)
 |0,.mtp _,h=>by simp[okD] at h
 |n+1,.mtp l,h=>by rw[eqD];exact eqDs_refl n l (by simpa[okD] using h)
 |n,.ty _,h=>by cases n<;>simp[okD] at h
 |n,.scr _,h=>by cases n<;>simp[okD] at h
 |n,.ins _ _ _,h=>by cases n<;>simp[okD] at h
 |n,.dic _,h=>by cases n<;>simp[okD] at h
theorem eqDs_refl:∀(n:Nat) (l:Xq),okDs n l=true->eqDs l l=true
 |_,[],_=>by simp[eqDs]
 |n,d::l,h=>by rw[okDs,UM] at h;rw[eqDs,yZ n d h.1,eqDs_refl n l h.2];rfl
end
theorem kN {α:Type}{n:Nat}{f:α->D}:∀(l:List α),(∀a∈l,okD n (f a)=true)->okDs n (l.map f)=true
 |[],_=>by simp[okDs]
 |a::l,h=>by rw[TQ,okDs,h a TD,kN l fun b hb=>h b (TJ _ hb)];rfl
def nV {d:D}(neg:Bool)(h:okD 50 d=true):dEq neg d d=some (.bl (!neg)):=by unfold dEq;rw[Ts ⟨h,h⟩,yZ 50 d h];cases neg<;>rfl
def Dh (p:Pic):okD 50 (ap p)=true:=by rw[okD];refine kN p fun q _=>?_;simp only[okD,okDs];rw[t7 46 q.2];rfl
noncomputable def grO (g:Int×R):O:=.tup [.sh (.int g.1),.lst (g.2.map (O.sh∘prD))]
noncomputable def grD (g:Int×R):D:=.tup [.int g.1,BF g.2]
def OB (g:Int×R):(grO g).d=grD g:=by simp[grO,grD]
theorem K8:∀gs:Pic,O.ds (gs.map grO)=gs.map grD
 |[]=>by simp
 |g::gs=>by rw[TQ,D0,OB,K8 gs];rfl
def Eo (gs:Pic)(t:Tri):(jW gs t).length<=gs.length+1:=by
 rcases Uv gs with rfl|⟨gs0,g,rfl⟩
 ·simp[jW]
 ·rw[Uz,mQ];split<;>simp
def wf:∀ts:List Tri,(dS ts).length<=ts.length:=by
 intro ts;have key:∀(l:List Tri) (gs:Pic),(l.foldl jW gs).length<=gs.length+l.length:=by
  intro l;induction l with
  |nil=>intro gs;simp
  |cons t l ih=>intro gs;have h1:=ih (jW gs t);have h2:=Eo gs t;rw[Vx,TF];lia
 have:=key ts [];unfold dS;simpa using this
def xP (s0:Sl)(gs:Pic)(t:Tri)(h:gs.length<=30000)(hg:∀g∈gs,g.2.length<=30000):bH [s0,.ow (.lst (gs.map grO)),.sh (.int t.1),.sh (.int t.2.1),.sh (.int t.2.2)]=some (.nx [s0,.ow (.lst ((jW gs t).map grO)),.sh (.int t.1),.sh (.int t.2.1),.sh (.int t.2.2)]):=by
 rcases Uv gs with rfl|⟨gs0,g,rfl⟩
 ·simp[bH,jW,grO]
 ·rw[Uz] at *;rw[mQ];have hl:gs0.length+1<=30000:=by simpa using h
  have hlim:gs0.length+1<LIM:=cO ();have hg2:g.2.length<LIM:=cO (by have:=hg g (by simp);lia);by_cases hc:g.1=t.1
  ·simp[bH,hc,hg2,grO]
  ·simp[bH,hc,hlim,grO]
theorem mS:∀ {l:List Nat} {n:Nat},n∈l->n<=l.sum
 |[],_,h=>by cases h
 |m::l,n,h=>by
  rw[Vg];rcases TN.mp h with rfl|h
  ·lia
  ·have:=mS h;lia
noncomputable abbrev Jc:=ao (ag 3) (ao (ag 4) bf)
def f9 (ts:List Tri)(h:ts.length<30000):eX [.lst (ts.map cH)]=some (ap (fh ts)):=by
 have hf:=Vf cI ts;have hs:=(eE (ts.filter cI)).length_eq;have og:=kX ts;have key:∃ρ',cD (aY (ao (ag 2) Jc)) bH ((cW (ts.filter cI)).map cH) [.sh (.lst (ts.map cH)),.ow (.lst []),.un,.un,.un]=some (.nx ρ')/\∃va vb vc,ρ'=[.sh (.lst (ts.map cH)),.ow (.lst ((dS (cW (ts.filter cI))).map grO)),va,vb,vc]:=by
  refine a8 cH (fun pre ρ=>∃va vb vc,ρ=[.sh (.lst (ts.map cH)),.ow (.lst ((dS pre).map grO)),va,vb,vc]) _ _ ⟨_,_,_,rfl⟩ ?_;rintro pre t post _ e ⟨va,vb,vc,rfl⟩;have hp:pre.length<=30000:=by have:=T7 List.length e;rw[Tz] at this;lia
  have gl:=wf pre;have gp:GOk (dS pre) pre:=by
   refine wg (fun s hs=>?_) ?_
   ·have:=(eE _).mem_iff.mp (show s∈cW (ts.filter cI) by rw[e];simp[hs]);simpa[cI] using (Ui.mp this).2
   ·have:=Aw (ts.filter cI);rw[e] at this;exact (Ug.mp this).1
  have gg:∀g∈dS pre,g.2.length<=30000:=fun g hg=>by have h1:=gp.len;have h2:g.2.length<=((dS pre).map fun g=>g.2.length).sum:=mS (TC.mpr ⟨g,hg,rfl⟩);lia
  refine⟨_,_,rfl,.inl (xP _ (dS pre) t () gg),.sh (.int t.1),.sh (.int t.2.1),.sh (.int t.2.2),by rw[tj]⟩
 obtain⟨ρ',k1,va,vb,vc,rfl⟩:=key;have hc:=Ba ts;have hb:=nU (ts.filter cI) ();have hl:ts.length<=LIM:=aH ();have gl:=wf (cW (ts.filter cI));have hl2:(dS (cW (ts.filter cI))).length<=LIM:=aH ();have c2:aZ gx bP (aM (ab (ak 0) (ab (az jb (ab (ak 1) aj)) aj))) [.un,.un] ((dS (cW (ts.filter cI))).map grD)=some ((fh ts).map pyD):=by
  rw[aR grD (fun g=>pyD (g.1,j6 g.2))]
  ·unfold fh;rw[T5];rfl
  ·intro g hg;have h1:g.2.length<30000:=by
    have h2:g.2.length<=((dS (cW (ts.filter cI))).map fun g=>g.2.length).sum:=mS (TC.mpr ⟨g,hg,rfl⟩);have:=og.len;lia
   have h3:=kF g.2 h1;simp[dW,grD,h3]
 simp[eX,iK,fnO,gj,hl,hc,hb,k1,frz,K8,hl2,c2]
def oJ (p q:Pic):ah (p++q)=ah p++ah q:=by unfold ah;rw[List.flatMap_append]
def c7 {p:Pic}{q:Int×R}(h:q∈p):q.2.length<=(ah p).length:=by
 induction p with
 |nil=>cases h
 |cons s p ih=>
  rw[bv,Tz,Tw];rcases TN.mp h with rfl|h
  ·lia
  ·have:=ih h;lia
def mY (p:Pic)(h:(ah p).length<=100000):d8 [ap p]=some (.lst ((ah p).map (O.sh∘cH))):=by
 obtain⟨ρ',k1,v2,v3,rfl⟩:=a8 (g:=aY NY) (m:=dB) pyD (fun pre ρ=>∃v2 v3,ρ=[.sh (ap p),.ow (.lst ((ah pre).map (O.sh∘cH))),v2,v3]) p [.sh (ap p),.ow (.lst []),.un,.un] ⟨_,_,rfl⟩ (by
  rintro pre q post _ e ⟨v2,v3,rfl⟩;have hlen:(ah pre).length+q.2.length<=100000:=by rw[e,oJ,bv,Tz,Tz,Tw] at h;lia
  have hl:(ah pre).length+q.2.length<=LIM:=aH hlen;have hl2:q.2.length<=LIM:=aH ();have hc:aZ gx bP (aM (ab (ak 2) (ab (ak 0) (ab (ak 1) aj)))) [.un,.un,.sh (.int q.1)] (q.2.map prD)=some (q.2.map fun s=>cH (q.1,s)):=aR prD _ q.2 fun s _=>by simp[dW]
  refine⟨_,[.sh (ap p),.ow (.lst ((ah (pre++[q])).map (O.sh∘cH))),.sh (.int q.1),.sh (bm q.2)],rfl,.inl ?_,_,_,rfl⟩;have es:ah (pre++[q])=ah pre++q.2.map fun s=>(q.1,s):=by rw[oJ,bv];simp[ah]
  rw[es]
  simp[dB,hl,hl2,hc])
 simp[d8,fnO,eP,k1]
def b6 (p:Pic)(h:(ah p).length<=100000):bN [ap p]=some (.lst ((ah p).map cH)):=by unfold bN;rw[mY p h];simp
def fA {α:Type}(l:List α)(k:α->Int)(enc:α->D)(x:Int)(he:∀a,dIx (enc a) (.int 0)=some (.int (k a)))(hl:l.length<=100000)(pw:l.Pairwise fun a b=>k a<k b) :
  ∃n:Nat,n<=l.length/\c6 [.tup (l.map enc),.int x]=some (.int n)/\∀(i:Nat) a,l[i]?=some a->(k a<=x↔i<n):=by
 have lt:∀(i j:Nat) a b,l[i]?=some a->l[j]?=some b->i<j->k a<k b:=fun i j a b hi hj hij=>by obtain⟨h1,rfl⟩:=TR.mp hi;obtain⟨h2,rfl⟩:=TR.mp hj;exact U5.mp pw i j h1 h2 hij
 obtain⟨ρ',k1,n,v3,v4,rfl,h1,h2⟩:=jQ (c:=cT) (m:=bC)
  (fun ρ=>∃(lo hi:Nat) (v4:Sl),ρ=[.sh (.tup (l.map enc)),.sh (.int x),.sh (.int lo),.sh (.int hi),v4]/\lo<=hi/\hi<=l.length/\(∀(i:Nat) a,l[i]?=some a->i<lo->k a<=x)/\∀(i:Nat) a,l[i]?=some a->hi<=i->x<k a)
  (fun ρ=>match ρ with|[_,_,.sh (.int lo),.sh (.int hi),_]=>(hi-lo).toNat|_=>0)
  (fun ρ=>∃(n:Nat) (v3 v4:Sl),ρ=[.sh (.tup (l.map enc)),.sh (.int x),.sh (.int n),v3,v4]/\n<=l.length/\∀(i:Nat) a,l[i]?=some a->(k a<=x↔i<n))
  (by
   rintro _ ⟨lo,hi,v4,rfl,h1,h2,h3,h4⟩;by_cases hc:lo<hi
   ·right;have hc':(lo:Int)<hi:=()
    obtain⟨a,ha⟩:∃a,l[(lo+hi) / 2]?=some a:=⟨_,Ua ()⟩
    have em:((lo:Int)+hi) / 2=(((lo+hi) / 2:Nat):Int):=()
    have ea:atI (l.map enc) (((lo:Int)+hi) / 2)=some (enc a):=by rw[em];exact ft (by rw[TX,ha];rfl)
    refine⟨by simp[cT,hc'],?_⟩;by_cases ck:k a<=x
    ·refine⟨[.sh (.tup (l.map enc)),.sh (.int x),.sh (.int (((lo+hi) / 2+1:Nat):Int)),.sh (.int hi),.sh (.int (((lo:Int)+hi) / 2))],?_,⟨(lo+hi) / 2+1,hi,_,rfl,(),h2,fun i b hb hi'=>?_,h4⟩,by dsimp only;lia⟩
     ·simp[bC,ea,he,ck]
     ·by_cases z:i=(lo+hi) / 2
      ·subst z;rw[ha] at hb;cases hb;exact ck
      ·have:=lt i _ b a hb ha ();lia
    ·refine⟨[.sh (.tup (l.map enc)),.sh (.int x),.sh (.int lo),.sh (.int (((lo+hi) / 2:Nat):Int)),.sh (.int (((lo:Int)+hi) / 2))],?_,⟨lo,(lo+hi) / 2,_,rfl,(),(),h3,fun i b hb hi'=>?_⟩,by dsimp only;lia⟩
     ·simp[bC,ea,he,ck]
     ·by_cases z:i=(lo+hi) / 2
      ·subst z;rw[ha] at hb;cases hb;lia
      ·have:=lt _ i a b ha hb ();lia
   ·left;have hc':¬(lo:Int)<hi:=()
    have e:lo=hi:=()
    subst e;refine⟨by simp[cT],lo,_,_,rfl,h2,fun i a ha=>⟨fun hk=>?_,fun hi'=>h3 i a ha hi'⟩⟩;by_cases z:i<lo
    ·exact z
    ·have:=h4 i a ha ();lia)
  [.sh (.tup (l.map enc)),.sh (.int x),.sh (.int 0),.sh (.int l.length),.un]
  ⟨0,l.length,_,rfl,T9 _,TB _,fun i a _ h=>absurd h (V9 _),fun i a ha h=>by have:=(TR.mp ha).1;lia⟩
 refine⟨n,h1,?_,h2⟩;simp[c6,g9,fnO,cY,k1]
noncomputable def bo (p:Pic)(y:Int):R:=match p.find? fun q=>decide (q.1=y) with|some q=>q.2|none=>[]
def kQ {p:Pic}(c:am p){q:Int×R}(hq:q∈p):bo p q.1=q.2:=by
 unfold bo;cases e:p.find? fun s=>decide (s.1=q.1) with
 |none=>
  have:=WM.mp e q hq;simp at this
 |some s=>
  have h1:=List.find?_some e;have h2:=Xf e;have h3:s.1=q.1:=UX h1;have:s=q:=by
   obtain⟨i,hi⟩:=UR h2;obtain⟨j,hj⟩:=UR hq;obtain⟨li,ei⟩:=TR.mp hi;obtain⟨lj,ej⟩:=TR.mp hj;have pw:=U5.mp c.2;by_cases z:i<j
   ·have:=pw i j li lj z;rw[ei,ej] at this;lia
   ·by_cases z2:j<i
    ·have:=pw j i lj li z2;rw[ei,ej] at this;lia
    ·have:i=j:=()
     subst this;rw[hi] at hj;exact Uh hj
  rw[this]
def jL {p:Pic}{y:Int}(h:∀q∈p,q.1≠y):bo p y=[]:=by
 unfold bo;have:p.find? (fun q=>decide (q.1=y))=none:=WM.mpr fun q hq=>by simpa using h q hq
 rw[this]
def dw {p:Pic}(c:am p)(y:Int):aV (bo p y):=by
 by_cases h:∃q∈p,q.1=y
 ·obtain⟨q,hq,rfl⟩:=h;rw[kQ c hq];exact (c.1 q hq).1
 ·rw[jL fun q hq e=>h ⟨q,hq,e⟩];exact gz
def ji {p:Pic}(c:am p)(x y:Int):Mem (bo p y) x↔aC p x y:=by
 constructor
 ·intro h;by_cases k:∃q∈p,q.1=y
  ·obtain⟨q,hq,rfl⟩:=k;rw[kQ c hq] at h;exact⟨q,hq,rfl,h⟩
  ·rw[jL fun q hq e=>k ⟨q,hq,e⟩] at h;exact (ba _ h).elim
 ·rintro⟨q,hq,rfl,h⟩;rw[kQ c hq];exact h
def qN (p:Pic)(y:Int)(c:am p)(h:p.length<=100000):g8 [ap p,.int y]=some (bm (bo p y)):=by
 obtain⟨n,h1,h2,h3⟩:=fA p (·.1) pyD y (fun a=>by simp) h c.2;by_cases hn:n=0
 ·subst hn;have e:bo p y=[]:=jL fun q hq e=>by
   obtain⟨j,ej⟩:=UR hq;exact absurd ((h3 j q ej).mp ()) (V9 _)
  simp at h2;simp[g8,jd,fnO,iZ,h2,e]
 ·obtain⟨q,hq⟩:∃q,p[n-1]?=some q:=⟨_,Ua ()⟩
  have en:(n:Int)-1=((n-1:Nat):Int):=()
  have ea:atI (p.map pyD) ((n:Int)-1)=some (pyD q):=by rw[en];exact ft (by rw[TX,hq];rfl)
  have hn':(0:Int)<n:=()
  have hn2:0<n:=()
  by_cases hy:q.1=y
  ·have e:bo p y=q.2:=by rw[<- hy];exact kQ c (Vi hq)
   simp[g8,jd,fnO,iZ,h2,hn,hn',hn2,ea,hy,e]
  ·have e:bo p y=[]:=jL fun s hs e=>by
    obtain⟨j,ej⟩:=UR hs;have hj:=(h3 j s ej).mp ();by_cases z:j=n-1
    ·subst z;rw[hq] at ej;cases ej;exact hy e
    ·obtain⟨l1,e1⟩:=TR.mp ej;obtain⟨l2,e2⟩:=TR.mp hq;have:=U5.mp c.2 j (n-1) l1 l2 ();rw[e1,e2] at this;have:=(h3 _ _ hq).mpr ();lia
   simp[g8,jd,fnO,iZ,h2,hn,hn',hn2,ea,hy,e]
def jX (r t:R)(h:r.length+t.length<=30000):eY [bm r,bm t]=some (bm (c8 r t)):=by
 have hlen:=sJ _ r t rfl;have key:∃ρ',ci cB bI [.sh (bm r),.sh (bm t),.ow (.lst []),.sh (.int 0),.sh (.int 0),.un,.un]=some (.nx ρ')/\∃v3 v4 v5 v6,ρ'=[.sh (bm r),.sh (bm t),owl ((c8 r t).map prD),v3,v4,v5,v6]:=by
  refine jQ (fun ρ=>∃(acc:R) (i j:Nat) (v5 v6:Sl),ρ=[.sh (bm r),.sh (bm t),owl (acc.map prD),.sh (.int i),.sh (.int j),v5,v6]/\i<=r.length/\j<=t.length/\acc++c8 (r.drop i) (t.drop j)=c8 r t)
   (fun ρ=>match ρ with|[_,_,_,.sh (.int i),.sh (.int j),_,_]=>(r.length+t.length-i-j).toNat|_=>0) _ ?_ _ ⟨[],0,0,.un,.un,rfl,T9 _,T9 _,rfl⟩
  rintro _ ⟨acc,i,j,v5,v6,rfl,hi,hj,e⟩;have hacc:acc.length<=30000:=by have:=T7 List.length e;rw[Tz] at this;lia
  have hlim:acc.length<LIM:=cO ();cases qi:r[i]? with
  |none=>
   have hi':i=r.length:=by have:=Vn.mp qi;lia
   subst hi';rw[U6 (TB _),dQ,Um] at e;subst e;exact .inl ⟨by simp[cB],_,_,_,_,rfl⟩
  |some p=>
   have hi':=(TR.mp qi).1;have ei:(i:Int)<r.length:=()
   cases qj:t[j]? with
   |none=>
    have hj':j=t.length:=by have:=Vn.mp qj;lia
    subst hj';rw[U6 (TB _),dr,Um] at e;subst e;exact .inl ⟨by simp[cB,ei],_,_,_,_,rfl⟩
   |some q=>
    have hj':=(TR.mp qj).1;have ej:(j:Int)<t.length:=()
    have a1:=K6 qi;have a2:=K6 qj;rw[gA qi,gA qj,Eb] at e;refine .inr ⟨by simp[cB,ei,ej],?_⟩;by_cases c1:max p.1 q.1<=min p.2 q.2
    ·rw[Ts c1] at e;by_cases c2:p.2<q.2
     ·rw[Ts c2,<- gA qj] at e;exact⟨[.sh (bm r),.sh (bm t),owl ((acc++[(max p.1 q.1,min p.2 q.2)]).map prD),.sh (.int ((i+1:Nat):Int)),.sh (.int j),.sh (.int (max p.1 q.1)),.sh (.int (min p.2 q.2))],by simp[bI,a1,a2,mx,mn,c1,c2,hlim],⟨_,i+1,j,_,_,rfl,hi',hj,by rw[Ue];exact e⟩,by dsimp only;lia⟩
     ·rw[Tr c2,<- gA qi] at e;exact⟨[.sh (bm r),.sh (bm t),owl ((acc++[(max p.1 q.1,min p.2 q.2)]).map prD),.sh (.int i),.sh (.int ((j+1:Nat):Int)),.sh (.int (max p.1 q.1)),.sh (.int (min p.2 q.2))],by simp[bI,a1,a2,mx,mn,c1,c2,hlim],⟨_,i,j+1,_,_,rfl,hi,hj',by rw[Ue];exact e⟩,by dsimp only;lia⟩
    ·rw[Tr c1,VC] at e;by_cases c2:p.2<q.2
     ·rw[Ts c2,<- gA qj] at e;exact⟨[.sh (bm r),.sh (bm t),owl (acc.map prD),.sh (.int ((i+1:Nat):Int)),.sh (.int j),.sh (.int (max p.1 q.1)),.sh (.int (min p.2 q.2))],by simp[bI,a1,a2,mx,mn,c1,c2,hlim],⟨_,i+1,j,_,_,rfl,hi',hj,e⟩,by dsimp only;lia⟩
     ·rw[Tr c2,<- gA qi] at e;exact⟨[.sh (bm r),.sh (bm t),owl (acc.map prD),.sh (.int i),.sh (.int ((j+1:Nat):Int)),.sh (.int (max p.1 q.1)),.sh (.int (min p.2 q.2))],by simp[bI,a1,a2,mx,mn,c1,c2,hlim],⟨_,i,j+1,_,_,rfl,hi,hj',e⟩,by dsimp only;lia⟩
 obtain⟨ρ',k1,v3,v4,v5,v6,rfl⟩:=key;simp[eY,iL,fnO,gm,k1]
def re (r t:R)(h:r.length+t.length<10000):jE [bm r,bm t]=some (bm (kq r t)):=by
 have hl:r.length+t.length<=LIM:=aH ();have hl2:(r++t).length<=LIM:=by rw[Tz];exact hl
 have c1:aZ gx bP (ak 0) [.un,.un] ((r++t).map prD)=some ((r++t).map fun p=>.int p.1):=aR prD _ _ fun p _=>by simp[dW]
 have c2:aZ gx bP (xOp a6 (af 1) (xC (.int 1))) [.un,.un] ((r++t).map prD)=some ((r++t).map fun p=>.int (p.2+1)):=aR prD _ _ fun p _=>by simp[dW]
 have ec:((r++t).map fun p=>D.int p.1)++((r++t).map fun p=>D.int (p.2+1))=(chg (r++t)).map D.int:=by unfold chg;rw[Ub (f:=D.int),T5,T5];rfl
 have hcl:=CJ (r++t);rw[Tz] at hcl;have hsl:(ic (chg (r++t))).length=2 * (r.length+t.length):=by rw[(fF _).length_eq,hcl]
 have hb:=xg (chg (r++t)) ();have c3:=Be (r.length+t.length) (ic (chg (r++t))) hsl;have hro:=kF (gb (ic (chg (r++t)))) (by rw[m9 _ _ hsl];lia);have hsum:r.length+t.length+(r.length+t.length)<=LIM:=aH ();have hrng:DA [.int 0,.int ((2 * (r.length+t.length):Nat):Int),.int 2]=some (eU 0 (r.length+t.length)):=by rw[NQ ()];congr 2;lia
 have hel:(eU 0 (r.length+t.length)).length<=LIM:=by rw[mJ];exact hl
 rw[<- ec] at hb;rw[<- hsl] at hrng;simp only[Ub,Ue] at c1 c2 hb;simp[jE,iP,fnO,gn,NP,Cp,hl,c1,c2,hsum,hb,hrng,hel,c3,hro,kq]
def vi (r t:R)(h:2 * r.length+t.length<10000):jF [bm r,bm t]=some (bm (mU r t)):=by have h1:=jX r t ();have h2:=re r (c8 r t) (by have:=sJ _ r t rfl;lia);simp[jF,kL,fnO,jz,h1,h2,mU]
noncomputable def gv (q:Int×R):Bool:=!decide (q.2=[])
theorem xq:∀l:Pic,l.filterMap (fun q=>if q.2=[] then none else some (pyD q))=(l.filter gv).map pyD
 |[]=>rfl
 |q::l=>by
  by_cases h:q.2=[]
  ·simp[h,gv,<- xq l]
  ·simp[h,gv,<- xq l]
def b5 (l:Pic)(h:l.length<=30000):aq [.lst (l.map pyD)]=some (ap (l.filter gv)):=by
 have hl:l.length<=LIM:=aH ();have hf:=Vf gv l;have hl2:(l.filter gv).length<=LIM:=aH ();have hc:aZ gx (xB (xOp (dEq true) (af 1) (aM aj))) (aM (ab (ak 0) (ab (ak 1) aj))) [.un,.un] (l.map pyD)=some ((l.filter gv).map pyD):=by
  rw[i6 pyD (fun q=>if q.2=[] then none else some (pyD q)) l,xq];intro q _;have d:dEq true (bm q.2) (.tup [])=some (.bl (!decide (q.2=[]))):=Jt true q.2 [];by_cases hq:q.2=[]
  ·simp[hq] at d;simp[dW,hq,d]
  ·simp[hq] at d;simp[dW,hq,d]
 simp[aq,bq,fnO,bg,hl,hc,hl2]
noncomputable def qC (f:R->R->R)(p q:Pic):Pic:=(p.map fun s=>(s.1,f s.2 (bo q s.1))).filter gv
noncomputable def cmP (p q:Pic):Pic:=qC c8 p q
noncomputable def leP (p q:Pic):Pic:=qC mU p q
noncomputable def joP (p q:Pic):Pic:=fh (ah p++ah q)
def qD {f:R->R->R}{p q:Pic}(cp:am p)(h:∀s∈p,aV (f s.2 (bo q s.1))):am (qC f p q):=by
 refine⟨fun s hs=>?_,?_⟩
 ·obtain⟨h1,h2⟩:=Ui.mp hs;obtain⟨z,hz,rfl⟩:=TC.mp h1;exact⟨h z hz,by simpa[gv] using h2⟩
 ·refine Xi _ ?_;rw[Ur];exact cp.2
def vU {f:R->R->R}{p q:Pic}(x y:Int):aC (qC f p q) x y↔∃s∈p,s.1=y/\Mem (f s.2 (bo q s.1)) x:=by
 constructor
 ·rintro⟨s,hs,h1,h2⟩;obtain⟨z,hz,rfl⟩:=TC.mp (Ui.mp hs).1;exact⟨z,hz,h1,h2⟩
 ·rintro⟨z,hz,h1,h2⟩;refine⟨(z.1,f z.2 (bo q z.1)),Ui.mpr ⟨TC.mpr ⟨z,hz,rfl⟩,?_⟩,h1,h2⟩;unfold gv;rw[Bool.not_eq_true',Xj];intro e;dsimp only at e;rw[e] at h2;exact ba _ h2
def o8 {p q:Pic}(cp:am p)(cq:am q):am (cmP p q):=qD cp fun s hs=>(i9 (cp.1 s hs).1 (dw cq _)).1
def EF {p q:Pic}(cp:am p)(cq:am q):am (leP p q):=qD cp fun s hs=>(pq (cp.1 s hs).1 (dw cq _)).1
def EA (p q:Pic):am (joP p q):=(eZ _).1
def xh {p q:Pic}(cp:am p)(cq:am q)(x y:Int):aC (cmP p q) x y↔aC p x y/\aC q x y:=by
 unfold cmP;rw[vU];constructor
 ·rintro⟨s,hs,rfl,h2⟩;rw[(i9 (cp.1 s hs).1 (dw cq _)).2,ji cq] at h2;exact⟨⟨s,hs,rfl,h2.1⟩,h2.2⟩
 ·rintro⟨⟨s,hs,rfl,h1⟩,h2⟩;exact⟨s,hs,rfl,by rw[(i9 (cp.1 s hs).1 (dw cq _)).2,ji cq];exact⟨h1,h2⟩⟩
def JU {p q:Pic}(cp:am p)(cq:am q)(x y:Int):aC (leP p q) x y↔aC p x y/\¬aC q x y:=by
 unfold leP;rw[vU];constructor
 ·rintro⟨s,hs,rfl,h2⟩;rw[(pq (cp.1 s hs).1 (dw cq _)).2,ji cq] at h2;exact⟨⟨s,hs,rfl,h2.1⟩,h2.2⟩
 ·rintro⟨⟨s,hs,rfl,h1⟩,h2⟩;exact⟨s,hs,rfl,by rw[(pq (cp.1 s hs).1 (dw cq _)).2,ji cq];exact⟨h1,h2⟩⟩
def JS (p q:Pic)(x y:Int):aC (joP p q) x y↔aC p x y\/aC q x y:=by unfold joP;rw[(eZ _).2,eK,jn,jn]
def mj {p:Pic}(y:Int):(bo p y).length<=(ah p).length:=by
 unfold bo;cases h:p.find? fun q=>decide (q.1=y) with
 |none=>exact T9 _
 |some q=>exact c7 (Xf h)
def EH (p q:Pic)(h:(ah p).length+(ah q).length<30000):BG [ap p,ap q]=some (ap (joP p q)):=by have h1:=b6 p ();have h2:=b6 q ();have hl:(ah p).length+(ah q).length<=LIM:=aH ();have hm:=f9 (ah p++ah q) (by rw[Tz];exact h);rw[Ub] at hm;simp[BG,xH,fnO,w8,h1,h2,Cp,hl,hm,joP]
noncomputable abbrev P9:=ab (ak 1) (ab (az g8 (ab (ak 2) (ab (ak 0) aj))) aj)
def kB {p q:Pic}(cq:am q)(h1:p.length<=30000)(h2:q.length<=30000)(h:(ah p).length+(ah q).length<=30000):oq [ap p,ap q]=some (ap (cmP p q)):=by
 have hl:p.length<=LIM:=aH ();have hc:aZ gx bP (aM (ab (ak 0) (ab (az eY P9) aj))) [.un,.un,.sh (ap q)] (p.map pyD)=some ((p.map fun s=>(s.1,c8 s.2 (bo q s.1))).map pyD):=by
  rw[T5];exact aR pyD (fun s=>pyD (s.1,c8 s.2 (bo q s.1))) p fun s hs=>by have a1:=qN q s.1 cq ();have a2:=jX s.2 (bo q s.1) (by have:=c7 hs;have:=mj (p:=q) s.1;lia);simp[dW,a1,a2]
 have hm:=b5 (p.map fun s=>(s.1,c8 s.2 (bo q s.1))) (by rw[Tw];exact h1);rw[T5] at hm hc;simp[oq,pK,fnO,nP,hl,hc,hm,cmP,qC]
def EI {p q:Pic}(cq:am q)(h1:p.length<=30000)(h2:q.length<=30000)(h:2 * (ah p).length+(ah q).length<10000):xE [ap p,ap q]=some (ap (leP p q)):=by
 have hl:p.length<=LIM:=aH ();have hc:aZ gx bP (aM (ab (ak 0) (ab (az jF P9) aj))) [.un,.un,.sh (ap q)] (p.map pyD)=some ((p.map fun s=>(s.1,mU s.2 (bo q s.1))).map pyD):=by
  rw[T5];exact aR pyD (fun s=>pyD (s.1,mU s.2 (bo q s.1))) p fun s hs=>by have a1:=qN q s.1 cq ();have a2:=vi s.2 (bo q s.1) (by have:=c7 hs;have:=mj (p:=q) s.1;lia);simp[dW,a1,a2]
 have hm:=b5 (p.map fun s=>(s.1,mU s.2 (bo q s.1))) (by rw[Tw];exact h1);rw[T5] at hm hc;simp[xE,xI,fnO,w9,hl,hc,hm,leP,qC]
theorem fg:∀p:Pic,ah (p.filter gv)=ah p
 |[]=>rfl
 |q::p=>by
  rw[WS];by_cases h:q.2=[]
  ·have:gv q=false:=by simp[gv,h]
   rw[this,bv,h];exact fg p
  ·have:gv q=true:=by simp[gv,h]
   rw[this,Ts rfl,bv,bv,fg p]
def tT (r:R)(by':Int)(h:r.length<=30000):iy [bm r,.int by']=some (bm (my r by' by')):=by
 have hl:r.length<=LIM:=aH ();have hc:aZ gx bP (aM (ab (xOp a6 (af 0) (af 2)) (ab (xOp a6 (af 1) (af 2)) aj))) [.un,.un,.sh (.int by')] (r.map prD)=some (r.map fun p=>prD (p.1+by',p.2+by')):=aR prD _ r fun p _=>by simp[dW]
 simp[iy,jJ,fnO,iq,hl,hc,my]
noncomputable def mvP (p:Pic)(dx dy:Int):Pic:=p.map fun q=>(q.1+dy,my q.2 dx dx)
def tS (p:Pic)(dx dy:Int)(h:p.length<=30000)(hr:∀q∈p,q.2.length<=30000):rO [ap p,.int dx,.int dy]=some (ap (mvP p dx dy)):=by
 have hl:p.length<=LIM:=aH ();have hc:aZ gx bP (aM (ab (xOp a6 (af 0) (af 2)) (ab (az iy (ab (ak 1) (ab (ak 3) aj))) aj))) [.un,.un,.sh (.int dy),.sh (.int dx)] (p.map pyD)=some (p.map fun q=>pyD (q.1+dy,my q.2 dx dx)):=aR pyD _ p fun q hq=>by have:=tT q.2 dx (hr q hq);simp[dW,this]
 simp[rO,tZ,fnO,rJ,hl,hc,mvP]
def Ar {r:R}(c:aV r)(d:Int):aV (my r d d):=by refine⟨Im c.1 (T1 _),?_⟩;unfold my;rw[Ur];exact c.2.imp fun {p q} h=>by dsimp only;lia
def G1 (r:R)(d x:Int):Mem (my r d d) x↔Mem r (x-d):=by
 rw[EO];constructor
 ·rintro⟨p,hp,h1,h2⟩;exact⟨p,hp,(),()⟩
 ·rintro⟨p,hp,h1,h2⟩;exact⟨p,hp,(),()⟩
def ES {p:Pic}(c:am p)(dx dy:Int):am (mvP p dx dy):=by
 refine⟨fun q hq=>?_,?_⟩
 ·obtain⟨s,hs,rfl⟩:=TC.mp hq;obtain⟨h1,h2⟩:=c.1 s hs;refine⟨Ar h1 dx,fun e=>h2 ?_⟩;exact List.map_eq_nil_iff.mp e
 ·unfold mvP;rw[Ur];exact c.2.imp fun {a b} h=>by dsimp only;lia
def Dc (p:Pic)(dx dy x y:Int):aC (mvP p dx dy) x y↔aC p (x-dx) (y-dy):=by
 constructor
 ·rintro⟨q,hq,h1,h2⟩;obtain⟨s,hs,rfl⟩:=TC.mp hq;dsimp only at h1 h2;exact⟨s,hs,(),(G1 _ _ _).mp h2⟩
 ·rintro⟨s,hs,h1,h2⟩;exact⟨_,TC.mpr ⟨s,hs,rfl⟩,by dsimp only;lia,(G1 _ _ _).mpr h2⟩
noncomputable abbrev Blk:=Int×Int×Int×Int
noncomputable abbrev aO (b:Blk):D:=.tup [.int b.1,.int b.2.1,.int b.2.2.1,.int b.2.2.2]
def r9 (b:Blk)(dx dy:Int):Prop:=b.1<=dx/\dx<=b.2.2.1/\b.2.1<=dy/\dy<=b.2.2.2
def BOk (b:Blk):Prop:=b.1<=b.2.2.1/\b.2.1<=b.2.2.2
def G9 (p:Pic)(dx dy:Int):(ah (mvP p dx dy)).length=(ah p).length:=by unfold mvP ah;rw[WT,WT,T5];congr 1;apply Wr;intro q _;simp[my]
def jg (ts:List Tri):(ah (fh ts)).length<=ts.length:=by
 have o:=kX ts;have h1:∀gs:Pic,(ah (gs.map fun g=>(g.1,j6 g.2))).length<=(gs.map fun g=>g.2.length).sum:=by
  intro gs;induction gs with
  |nil=>simp[ah]
  |cons g gs ih=>have:=wH g.2;rw[TQ,bv,Tz,Tw,TQ,Vg];dsimp only;lia
 have h2:=h1 (dS (cW (ts.filter cI)));have h3:=o.len;have h4:=(eE (ts.filter cI)).length_eq;have h5:=Vf cI ts;have h6:ah (fh ts)=ah ((dS (cW (ts.filter cI))).map fun g=>(g.1,j6 g.2)):=rfl;rw[h6];lia
def lF {p:Pic}(c:am p):p.length<=(ah p).length:=by
 induction p with
 |nil=>exact TB _
 |cons q p ih=>obtain⟨⟨_,h1⟩,_,h2⟩:=pcanon_cons.mp c;have:=ih h2;have:=List.length_pos_iff.mpr h1;rw[bv,Tz,Tw,TF];lia
def yf {p:Pic}(c:am p):∀t∈ah p,t.2.1<=t.2.2:=by intro t ht;obtain⟨q,hq,h⟩:=List.mem_flatMap.mp ht;obtain⟨s,hs,rfl⟩:=TC.mp h;exact (c.1 q hq).1.1 s hs
def Mo (p q:Pic):(ah (joP p q)).length<=(ah p).length+(ah q).length:=by have:=jg (ah p++ah q);rwa[Tz] at this
def pH (p:Pic)(c:am p)(n:Nat)(hs:(2 * n+1) * (ah p).length<=10000):∃q:Pic,fM [ap p,.int (n:Int)]=some (ap q)/\am q/\(ah q).length<=(2 * n+1) * (ah p).length/\∀x y,aC q x y↔∃j:Int,0<=j/\j<=n/\aC p x (y-j):=by
 obtain⟨ρ',k1,q,v2,v3,rfl,a1,a3,a4⟩:=jQ (c:=cV) (m:=dZ)
  (fun ρ=>∃(q:Pic) (k:Nat) (v3:Sl),ρ=[.sh (ap q),.sh (.int (n:Int)),.sh (.int (k:Int)),v3]/\k<=n/\am q/\((ah q).length<=(k+1) * (ah p).length\/(k=n/\(ah q).length<=(2 * n+1) * (ah p).length))/\∀x y,aC q x y↔∃j:Int,0<=j/\j<=k/\aC p x (y-j))
  (fun ρ=>match ρ with|[_,.sh (.int n),.sh (.int k),_]=>(n-k).toNat|_=>0)
  (fun ρ=>∃(q:Pic) (v2 v3:Sl),ρ=[.sh (ap q),.sh (.int (n:Int)),v2,v3]/\am q/\(ah q).length<=(2 * n+1) * (ah p).length/\∀x y,aC q x y↔∃j:Int,0<=j/\j<=n/\aC p x (y-j))
  (by
   rintro _ ⟨q,k,v3,rfl,hk,c',hsz,hm⟩;by_cases hc:k<n
   ·right;have hc':(k:Int)<n:=()
    refine⟨by simp[cV,hc'],?_⟩;have hsz':(ah q).length<=(k+1) * (ah p).length:=hsz.elim id fun h=>()
    generalize hst:(if (n:Int)-k<(k:Int)+1 then (n:Int)-k else (k:Int)+1)=st;have hst1:1<=st/\st<=k+1/\st<=n-k/\(st=k+1\/st=n-k):=by rw[<- hst];split<;>lia
    have e1:(k+1) * (ah p).length<=(2 * n+1) * (ah p).length:=Vp _ ();have lq:(ah q).length<=10000:=()
    have rq:=lF c';have mv:=tS q 0 st () fun z hz=>by have:=c7 hz;lia
    have smv:=G9 q 0 st;have jo:=EH q (mvP q 0 st) ();have sjo:=Mo q (mvP q 0 st);have ek:(((k+st.toNat:Nat)):Int)=(k:Int)+st:=()
    refine⟨[.sh (ap (joP q (mvP q 0 st))),.sh (.int (n:Int)),.sh (.int ((k+st.toNat:Nat):Int)),.sh (.int st)],?_,⟨joP q (mvP q 0 st),k+st.toNat,_,rfl,(),EA _ _,?_,fun x y=>?_⟩,by dsimp only;lia⟩
    ·rw[ek];simp[dZ,hst,mv,jo]
    ·rcases hst1.2.2.2 with e|e
     ·left;have e2:(k+st.toNat+1) * (ah p).length=(k+1) * (ah p).length+(k+1) * (ah p).length:=by
       rw[<- UU];congr 1;lia
      lia
     ·right;have e2:(k+1) * (ah p).length+(k+1) * (ah p).length<=(2 * n+1) * (ah p).length:=by
       rw[<- UU];exact Vp _ ()
      exact⟨(),()⟩
    ·rw[JS,Dc,hm,hm,show x-0=x by lia];constructor
     ·rintro (⟨j,j0,j1,g⟩|⟨j,j0,j1,g⟩)
      ·exact⟨j,j0,(),g⟩
      ·exact⟨st+j,(),(),by rwa[show y-(st+j)=y-st-j by lia]⟩
     ·rintro⟨j,j0,j1,g⟩;by_cases hj:j<=k
      ·exact .inl ⟨j,j0,hj,g⟩
      ·exact .inr ⟨j-st,(),(),by rwa[show y-st-(j-st)=y-j by lia]⟩
   ·left;have ek:k=n:=()
    subst ek;refine⟨by simp[cV],q,_,_,rfl,c',?_,hm⟩;rcases hsz with h|h
    ·have:(k+1) * (ah p).length<=(2 * k+1) * (ah p).length:=Vp _ ();lia
    ·exact h.2)
  [.sh (ap p),.sh (.int (n:Int)),.sh (.int 0),.un] ⟨p,0,.un,rfl,(),c,.inl (),fun x y=>⟨fun h=>⟨0,(),(),by rwa[show y-0=y by lia]⟩,fun⟨j,j0,j1,h⟩=>by rwa[show y-j=y by lia] at h⟩⟩
 exact⟨q,by simp[fM,hU,fnO,fK,k1],a1,a3,a4⟩
noncomputable def eL (b:Blk)(t:Tri):Tri:=(t.1+b.2.1,t.2.1+b.1,t.2.2+b.2.2.1)
def uT {p:Pic}(c:am p){b:Blk}(hb:b.1<=b.2.2.1)(x y:Int):iG ((ah p).map (eL b)) x y↔∃dx,b.1<=dx/\dx<=b.2.2.1/\aC p (x-dx) (y-b.2.1):=by
 constructor
 ·rintro⟨_,ht0,h1,h2,h3⟩;obtain⟨t,ht,rfl⟩:=TC.mp ht0;have ok:=yf c t ht;simp only[eL] at h1 h2 h3;refine⟨max b.1 (x-t.2.2),(),(),?_⟩;exact (jn _ _ _).mp ⟨t,ht,(),(),()⟩
 ·rintro⟨dx,d1,d2,h⟩;obtain⟨t,ht,h1,h2,h3⟩:=(jn _ _ _).mpr h;exact⟨_,TC.mpr ⟨t,ht,rfl⟩,by simp only[eL];lia,by simp only[eL];lia,by simp only[eL];lia⟩
def GrB (p:Pic)(b:Blk)(x y:Int):Prop:=∃dx dy,r9 b dx dy/\aC p (x-dx) (y-dy)
def kc (p:Pic)(c:am p)(b:Blk)(hb:BOk b)(n:Nat)(hn:b.2.2.2-b.2.1=n)(hs:(2 * n+1) * (ah p).length<=10000):∃ts:List Tri,cP [ap p,aO b]=some (.lst (ts.map cH))/\(∀t∈ts,t.2.1<=t.2.2)/\ts.length<=(2 * n+1) * (ah p).length/\∀x y,iG ts x y↔GrB p b x y:=by
 have e1:(ah p).length<=(2 * n+1) * (ah p).length:=Nat.le_mul_of_pos_left _ ();have hl:(ah p).length<=LIM:=aH ();have h1:=b6 p ();have hc:aZ NW bP (aM (ab (xOp a6 (af 0) (xOp dIx (af 3) (xC (.int 1)))) (ab (xOp a6 (af 1) (xOp dIx (af 3) (xC (.int 0)))) (ab (xOp a6 (af 2) (xOp dIx (af 3) (xC (.int 2)))) aj)))) [.un,.un,.un,.sh (aO b)] ((ah p).map cH)=some (((ah p).map (eL b)).map cH):=by rw[T5];exact aR cH (cH∘eL b) (ah p) fun q hq=>by simp[dW,atI,ixN,eL]
 have hw:∀t∈(ah p).map (eL b),t.2.1<=t.2.2:=by intro t ht;obtain⟨s,hs,rfl⟩:=TC.mp ht;have:=yf c s hs;have:=hb.1;simp only[eL];lia
 by_cases h0:b.2.1=b.2.2.2
 ·refine⟨(ah p).map (eL b),?_,hw,by rw[Tw];exact e1,fun x y=>?_⟩
  ·generalize ((ah p).map (eL b)).map cH=zs at hc;simp[cP,cu,fnO,bK,h1,hl,hc,atI,ixN,h0]
  ·rw[uT c hb.1];constructor
   ·rintro⟨dx,d1,d2,h⟩;exact⟨dx,b.2.1,⟨d1,d2,(),()⟩,h⟩
   ·rintro⟨dx,dy,⟨d1,d2,d3,d4⟩,h⟩;refine⟨dx,d1,d2,?_⟩;rwa[show b.2.1=dy by lia]
 ·have lw:(ah (fh ((ah p).map (eL b)))).length<=(ah p).length:=by
   have:=jg ((ah p).map (eL b));rwa[Tw] at this
  have e2:(2 * n+1) * (ah (fh ((ah p).map (eL b)))).length<=(2 * n+1) * (ah p).length:=Wz _ lw;obtain⟨q,a1,a2,a3,a4⟩:=pH (fh ((ah p).map (eL b))) (eZ _).1 n ();have hp:=f9 ((ah p).map (eL b)) (by rw[Tw];lia);have h2:=b6 q ();have a1':fM [ap (fh ((ah p).map (eL b))),.int (b.2.2.2-b.2.1)]=some (ap q):=by rw[hn];exact a1
  refine⟨ah q,?_,yf a2,(),fun x y=>?_⟩
  ·generalize fh ((ah p).map (eL b))=w at hp a1';generalize ((ah p).map (eL b)).map cH=zs at hc hp;simp[cP,cu,fnO,bK,h1,hl,hc,atI,ixN,h0,hp,a1',h2]
  ·rw[jn,a4];constructor
   ·rintro⟨j,j0,j1,h⟩;rw[(eZ _).2,uT c hb.1] at h;obtain⟨dx,d1,d2,h⟩:=h;exact⟨dx,b.2.1+j,⟨d1,d2,(),()⟩,by rwa[show y-(b.2.1+j)=y-j-b.2.1 by lia]⟩
   ·rintro⟨dx,dy,⟨d1,d2,d3,d4⟩,h⟩;refine⟨dy-b.2.1,(),(),?_⟩;rw[(eZ _).2,uT c hb.1];exact⟨dx,d1,d2,by rwa[show y-(dy-b.2.1)-b.2.1=y-dy by lia]⟩
noncomputable def b8 (b:Blk):Nat:=2 * (b.2.2.2-b.2.1).toNat+1
noncomputable def aK (bs:List Blk):Nat:=(bs.map b8).sum
def GrP (p:Pic)(bs:List Blk)(x y:Int):Prop:=∃b∈bs,GrB p b x y
def bF (as bs:List Blk):aK (as++bs)=aK as+aK bs:=by unfold aK;rw[Ub,List.sum_append]
def kD (p:Pic)(c:am p)(bs:List Blk)(hb:∀b∈bs,BOk b)(hs:aK bs * (ah p).length<=10000):∃q:Pic,eV [ap p,.tup (bs.map aO)]=some (ap q)/\am q/\(ah q).length<=aK bs * (ah p).length/\∀x y,aC q x y↔GrP p bs x y:=by
 obtain⟨ρ',k1,ts,v3,rfl,b1,b2⟩:=a8 (g:=ag 3) (m:=cj) aO (fun pre ρ=>∃(ts:List Tri) (v3:Sl),ρ=[.sh (ap p),.sh (.tup (bs.map aO)),.ow (.lst (ts.map (O.sh∘cH))),v3]/\ts.length<=aK pre * (ah p).length/\∀x y,iG ts x y↔GrP p pre x y) bs [.sh (ap p),.sh (.tup (bs.map aO)),.ow (.lst []),.un] ⟨[],_,rfl,by simp[aK],fun x y=>⟨fun⟨_,h,_⟩=>(by cases h),fun⟨_,h,_⟩=>(by cases h)⟩⟩ (by
  rintro pre b post _ e ⟨ts,v3,rfl,l1,l2⟩;have hbb:=hb b (by rw[e];simp);have hh:aK pre+b8 b<=aK bs:=by rw[e,bF];have:aK (b::post)=b8 b+aK post:=rfl;lia
  have hh2:(aK pre+b8 b) * (ah p).length<=aK bs * (ah p).length:=Vp _ hh;rw[UU] at hh2;obtain⟨us,c1,c2,c3,c4⟩:=kc p c b hbb (b.2.2.2-b.2.1).toNat (by have:=hbb.2;lia) (by show b8 b * _<=_;lia);have c3':us.length<=b8 b * (ah p).length:=c3;have hl:ts.length+us.length<=LIM:=aH ();refine⟨_,[.sh (ap p),.sh (.tup (bs.map aO)),.ow (.lst ((ts++us).map (O.sh∘cH))),.sh (aO b)],rfl,.inl ?_,ts++us,_,rfl,?_,fun x y=>?_⟩
  ·simp[cj,c1,hl]
  ·rw[Tz,bF,UU];have:aK [b]=b8 b:=by simp[aK]
   rw[this];lia
  ·rw[eK,l2,c4];unfold GrP;simp only[TH,Tv];constructor
   ·rintro (⟨z,hz,h⟩|h)
    ·exact⟨z,.inl hz,h⟩
    ·exact⟨b,.inr rfl,h⟩
   ·rintro⟨z,hz|rfl,h⟩
    ·exact .inl ⟨z,hz,h⟩
    ·exact .inr h)
 have hp:=f9 ts ();have hl:=jg ts;refine⟨fh ts,?_,(eZ _).1,(),fun x y=>by rw[(eZ _).2,b2]⟩;simp[eV,ez,fnO,c9,k1,hp,frz]
noncomputable def sE (acc:List Blk)(t:Tri):List Blk:=match acc.getLast? with
 |some l=>if l.1=t.1/\l.2.2.1=t.2.1/\l.2.2.2=t.2.2-1 then acc.dropLast++[(t.1,l.2.1,t.2.1,t.2.2)] else acc++[(t.1,t.2.2,t.2.1,t.2.2)]
 |none=>[(t.1,t.2.2,t.2.1,t.2.2)]
def D3 (t:Tri):sE [] t=[(t.1,t.2.2,t.2.1,t.2.2)]:=rfl
def sF (acc:List Blk)(l:Blk)(t:Tri):sE (acc++[l]) t=if l.1=t.1/\l.2.2.1=t.2.1/\l.2.2.2=t.2.2-1 then acc++[(t.1,l.2.1,t.2.1,t.2.2)] else acc++[l]++[(t.1,t.2.2,t.2.1,t.2.2)]:=by unfold sE;rw[List.getLast?_append];simp
noncomputable def qU (ts:List Tri):List Blk:=ts.foldl sE []
def vS (pre:List Tri)(t:Tri):qU (pre++[t])=sE (qU pre) t:=by unfold qU;rw[Wy];rfl
def Js (b c:Blk):dEq false (aO b) (aO c)=some (.bl (decide (b=c))):=by
 have h:∀b:Blk,okD 50 (aO b)=true:=fun b=>by simp[okD,okDs]
 unfold dEq;rw[Ts ⟨h b,h c⟩];obtain⟨b1,b2,b3,b4⟩:=b;obtain⟨c1,c2,c3,c4⟩:=c;simp[eqD,eqDs,Prod.ext_iff];by_cases h1:b1=c1<;>by_cases h2:b2=c2<;>by_cases h3:b3=c3<;>by_cases h4:b4=c4<;>simp[h1,h2,h3,h4]
def LZ (l:Blk)(a b y:Int):l=(a,l.2.1,b,y)↔l.1=a/\l.2.2.1=b/\l.2.2.2=y:=by obtain⟨b1,b2,b3,b4⟩:=l;simp[Prod.ext_iff]
def yN (s0:Sl)(acc:List Blk)(t:Tri)(h:acc.length<=30000):bG [s0,owl (acc.map aO),.sh (.int t.1),.sh (.int t.2.1),.sh (.int t.2.2)]=some (.nx [s0,owl ((sE acc t).map aO),.sh (.int t.1),.sh (.int t.2.1),.sh (.int t.2.2)]):=by
 rcases Uv acc with rfl|⟨r,l,rfl⟩
 ·simp[bG,D3]
 ·rw[Uz] at *;rw[sF];have hl:r.length+1<=30000:=by simpa using h
  have hlim:r.length+1<LIM:=cO ();have at1:atI (r.map aO++[aO l]) (-1)=some (aO l):=eR _ _;have ix1:atI [D.int l.1,.int l.2.1,.int l.2.2.1,.int l.2.2.2] 1=some (.int l.2.1):=by simp[atI,ixN]
  have de:=Js l (t.1,l.2.1,t.2.1,t.2.2-1);have ee:=LZ l t.1 t.2.1 (t.2.2-1);by_cases hc:l.1=t.1/\l.2.2.1=t.2.1/\l.2.2.2=t.2.2-1
  ·rw[Ts hc];rw[Ux (ee.mpr hc)] at de;simp[bG,at1,ix1,de,oj]
  ·rw[Tr hc];rw[Uc fun z=>hc (ee.mp z)] at de;simp[bG,at1,ix1,de,hlim]
structure BsOk (bs:List Blk) (ts:List Tri):Prop where
 ok:∀b∈bs,BOk b
 mem:∀x y,(∃b∈bs,r9 b x y)↔∃t∈ts,t.1<=x/\x<=t.2.1/\y=t.2.2
 len:aK bs+bs.length=2 * ts.length
def o6 (bs:List Blk)(b:Blk)(x y:Int):(∃c∈bs++[b],r9 c x y)↔(∃c∈bs,r9 c x y)\/r9 b x y:=by
 constructor
 ·rintro⟨c,hc,h⟩;rcases TH.mp hc with hc|hc
  ·exact .inl ⟨c,hc,h⟩
  ·rw[Tv] at hc;subst hc;exact .inr h
 ·rintro (⟨c,hc,h⟩|h)
  ·exact⟨c,TK _ hc,h⟩
  ·exact⟨b,TV _ (Tv.mpr rfl),h⟩
def AI (ts:List Tri)(t:Tri)(x y:Int):(∃s∈ts++[t],s.1<=x/\x<=s.2.1/\y=s.2.2)↔(∃s∈ts,s.1<=x/\x<=s.2.1/\y=s.2.2)\/(t.1<=x/\x<=t.2.1/\y=t.2.2):=by
 constructor
 ·rintro⟨c,hc,h⟩;rcases TH.mp hc with hc|hc
  ·exact .inl ⟨c,hc,h⟩
  ·rw[Tv] at hc;subst hc;exact .inr h
 ·rintro (⟨c,hc,h⟩|h)
  ·exact⟨c,TK _ hc,h⟩
  ·exact⟨t,TV _ (Tv.mpr rfl),h⟩
def i8 (b:Blk):aK [b]=b8 b:=by simp[aK]
def Ga {bs:List Blk}{ts:List Tri}{t:Tri}(o:BsOk bs ts)(ht:t.1<=t.2.1):BsOk (sE bs t) (ts++[t]):=by
 have new:∀x y,r9 (t.1,t.2.2,t.2.1,t.2.2) x y↔t.1<=x/\x<=t.2.1/\y=t.2.2:=fun x y=>by
  unfold r9;dsimp only;constructor
  ·rintro⟨h1,h2,h3,h4⟩;exact⟨h1,h2,()⟩
  ·rintro⟨h1,h2,h3⟩;exact⟨h1,h2,(),()⟩
 have hn:b8 (t.1,t.2.2,t.2.1,t.2.2)=1:=by simp[b8]
 have app:BsOk (bs++[(t.1,t.2.2,t.2.1,t.2.2)]) (ts++[t]):=by
  refine⟨fun b hb=>?_,fun x y=>by rw[o6,AI,o.mem,new],?_⟩
  ·rcases TH.mp hb with hb|hb
   ·exact o.ok b hb
   ·rw[Tv] at hb;subst hb;exact⟨ht,T1 _⟩
  ·have:=o.len;rw[bF,i8,hn,Tz,Tz,T4,T4];lia
 rcases Uv bs with rfl|⟨r,l,rfl⟩
 ·exact app
 ·rw[Uz] at *;rw[sF];by_cases hc:l.1=t.1/\l.2.2.1=t.2.1/\l.2.2.2=t.2.2-1
  ·rw[Ts hc];have lo:=o.ok l (by simp);refine⟨fun b hb=>?_,fun x y=>?_,?_⟩
   ·rcases TH.mp hb with hb|hb
    ·exact o.ok b (TK _ hb)
    ·rw[Tv] at hb;subst hb;have:=lo.2;exact⟨ht,by dsimp only;lia⟩
   ·rw[AI,<- o.mem,o6,o6,or_assoc];refine or_congr UC ?_;have:=lo.2;unfold r9;dsimp only;constructor
    ·rintro⟨h1,h2,h3,h4⟩;by_cases e:y=t.2.2
     ·exact .inr ⟨h1,h2,e⟩
     ·exact .inl ⟨(),(),h3,()⟩
    ·rintro (⟨h1,h2,h3,h4⟩|⟨h1,h2,h3⟩)
     ·exact⟨(),(),h3,()⟩
     ·exact⟨h1,h2,(),()⟩
   ·have h1:=o.len;have h2:=lo.2;have h3:b8 (t.1,l.2.1,t.2.1,t.2.2)=b8 l+2:=by unfold b8;dsimp only;lia
    rw[bF,i8,Tz,T4] at h1;rw[bF,i8,h3,Tz,Tz,T4,T4];lia
  ·rw[Tr hc];exact app
theorem CI:∀(post pre:List Tri),(∀t∈pre++post,t.1<=t.2.1)->BsOk (qU pre) pre->BsOk (qU (pre++post)) (pre++post)
 |[],pre,_,o=>by rw[Um];exact o
 |t::post,pre,h,o=>by
  have e:pre++t::post=(pre++[t])++post:=by simp
  rw[e] at h ⊢;refine CI post (pre++[t]) h ?_;rw[vS];exact Ga o (h t (by simp))
def yM {ts:List Tri}(h:∀t∈ts,t.1<=t.2.1):BsOk (qU ts) ts:=by have:=CI ts [] (by simpa using h) ⟨fun _ h=>(by cases h),fun x y=>⟨fun⟨_,h,_⟩=>(by cases h),fun⟨_,h,_⟩=>(by cases h)⟩,rfl⟩;simpa using this
noncomputable def a9 (p:Pic):List Blk:=qU (cW ((ah p).map fun t=>(t.2.1,t.2.2,t.1)))
def kA (p:Pic)(c:am p)(h:(ah p).length<30000):kx [ap p]=some (.tup ((a9 p).map aO))/\(∀b∈a9 p,BOk b)/\aK (a9 p)<=2 * (ah p).length/\∀x y,(∃b∈a9 p,r9 b x y)↔aC p x y:=by
 have hperm:=eE ((ah p).map fun t=>(t.2.1,t.2.2,t.1));have hlen:(cW ((ah p).map fun t=>(t.2.1,t.2.2,t.1))).length=(ah p).length:=by rw[hperm.length_eq,Tw]
 have hok:∀t∈cW ((ah p).map fun t=>(t.2.1,t.2.2,t.1)),t.1<=t.2.1:=by intro t ht;obtain⟨s,hs,rfl⟩:=TC.mp (hperm.mem_iff.mp ht);exact yf c s hs
 have o:=yM hok;have ol:=o.len;refine⟨?_,o.ok,by have:=o.len;show aK (qU _)<=_;lia,fun x y=>?_⟩
 ·obtain⟨ρ',k1,v2,v3,v4,rfl⟩:=a8 (g:=aY (ao (ag 2) Jc)) (m:=bG) cH (fun pre ρ=>∃v2 v3 v4,ρ=[.sh (ap p),owl ((qU pre).map aO),v2,v3,v4]) (cW ((ah p).map fun t=>(t.2.1,t.2.2,t.1))) [.sh (ap p),.ow (.lst []),.un,.un,.un] ⟨_,_,_,rfl⟩ (by
   rintro pre t post _ e ⟨v2,v3,v4,rfl⟩;have hp:pre.length<=(ah p).length:=by rw[<- hlen,e,Tz];lia
   have opre:=yM (ts:=pre) fun t ht=>hok t (by rw[e];exact TK _ ht);have:=opre.len;have h1:(qU pre).length<=aK (qU pre):=by
    have:∀bs:List Blk,bs.length<=aK bs:=by
     intro bs;induction bs with
     |nil=>exact T9 _
     |cons b bs ih=>have e2:aK (b::bs)=b8 b+aK bs:=rfl;rw[e2,TF];unfold b8;lia
    exact this _
   refine⟨_,_,rfl,.inl (yN _ (qU pre) t ()),.sh (.int t.1),.sh (.int t.2.1),.sh (.int t.2.2),by rw[vS]⟩)
  have h1:=b6 p ();have hl:(ah p).length<=LIM:=aH ();have hc:aZ NW bP (aM (ab (ak 1) (ab (ak 2) (ab (ak 0) aj)))) [.un,.un,.un] ((ah p).map cH)=some (((ah p).map fun t=>(t.2.1,t.2.2,t.1)).map cH):=by rw[T5];exact aR cH (cH∘fun t=>(t.2.1,t.2.2,t.1)) (ah p) fun q hq=>by simp[dW]
  have hb:=nU ((ah p).map fun t=>(t.2.1,t.2.2,t.1)) (by rw[Tw];exact h);have k2:cD (aY (ao (ag 2) Jc)) bG ((cW ((ah p).map fun t=>(t.2.1,t.2.2,t.1))).map cH) [.sh (ap p),.ow (.lst []),.un,.un,.un]=some (.nx [.sh (ap p),owl ((a9 p).map aO),v2,v3,v4]):=k1;generalize a9 p=bs at k2;generalize (cW ((ah p).map fun t=>(t.2.1,t.2.2,t.1))).map cH=zs at k2 hb;generalize ((ah p).map fun t=>(t.2.1,t.2.2,t.1)).map cH=ws at hb hc;simp[kx,jI,fnO,ip,h1,hl,hc,hb,k2]
 ·unfold a9;rw[o.mem,<- jn];constructor
  ·rintro⟨t,ht,h1,h2,h3⟩;obtain⟨s,hs,rfl⟩:=TC.mp (hperm.mem_iff.mp ht);exact⟨s,hs,h3.symm,h1,h2⟩
  ·rintro⟨s,hs,h1,h2,h3⟩;exact⟨_,hperm.mem_iff.mpr (TC.mpr ⟨s,hs,rfl⟩),h2,h3,h1.symm⟩
noncomputable abbrev mh (bs:List Blk):D:=.tup (bs.map aO)
noncomputable abbrev jK (ps:List (List Blk)):D:=.tup (ps.map mh)
noncomputable abbrev aG (N:Str)(ps:List (List Blk)):D:=.ins N ["parts"] [jK ps]
def wX (bs:List Blk)(x y:Int):Prop:=∃b∈bs,r9 b x y
noncomputable def Off:List (List Blk)->Int->Int->Prop
 |[],x,y=>x=0/\y=0
 |bs::r,x,y=>∃u v,wX bs u v/\Off r (x-u) (y-v)
def FOk (ps:List (List Blk)):Prop:=∀bs∈ps,bs≠[]/\∀b∈bs,BOk b
def JL (p:Pic)(bs:List Blk)(x y:Int):GrP p bs x y↔∃u v,wX bs u v/\aC p (x-u) (y-v):=by
 constructor
 ·rintro⟨b,hb,dx,dy,h1,h2⟩;exact⟨dx,dy,⟨b,hb,h1⟩,h2⟩
 ·rintro⟨dx,dy,⟨b,hb,h1⟩,h2⟩;exact⟨b,hb,dx,dy,h1,h2⟩
noncomputable def pU:Pic:=[(0,[(0,0)])]
def ud (x y:Int):aC pU x y↔x=0/\y=0:=by
 constructor
 ·rintro⟨q,hq,h1,s,hs,h2,h3⟩;rw[pU,Tv] at hq;subst hq;rw[Tv] at hs;subst hs;dsimp only at h1 h2 h3;lia
 ·rintro⟨rfl,rfl⟩;exact⟨_,Tv.mpr rfl,rfl,_,Tv.mpr rfl,T1 _,T1 _⟩
def BQ:am pU:=by refine⟨fun q hq=>?_,Vv _ _⟩;rw[pU,Tv] at hq;subst hq;exact⟨⟨fun s hs=>by rw[Tv] at hs;subst hs;exact T1 _,Vv _ _⟩,by simp⟩
noncomputable def shr (r:R)(lo hi:Int):R:=j6 (r.map fun p=>(p.1-lo,p.2-hi))
def jY (r:R)(lo hi:Int)(h:r.length<=1000):bZ [bm r,.int lo,.int hi]=some (bm (shr r lo hi)):=by
 have hl:r.length<=LIM:=aH ();have hc:aZ gx bP (aM (ab (xOp dJ (af 0) (af 2)) (ab (xOp dJ (af 1) (af 3)) aj))) [.un,.un,.sh (.int lo),.sh (.int hi)] (r.map prD)=some (r.map fun p=>prD (p.1-lo,p.2-hi)):=aR prD _ r fun p _=>by simp[dW]
 have hm:=kF (r.map fun p=>(p.1-lo,p.2-hi)) (by rw[Tw];lia);rw[BF,T5] at hm;have e:(prD∘fun p:Int×Int=>(p.1-lo,p.2-hi))=fun p=>prD (p.1-lo,p.2-hi):=rfl;rw[e] at hm;try simp at hm
 try simp at hc
 simp[bZ,iQ,fnO,gq,hl,hc,hm,shr]
def DE (r:R)(lo hi x:Int):Mem (shr r lo hi) x↔∃p∈r,p.1<=x+lo/\x+hi<=p.2:=by
 unfold shr;rw[(dt _).2 x];constructor
 ·rintro⟨q,hq,h1,h2⟩;obtain⟨p,hp,rfl⟩:=TC.mp hq;dsimp only at h1 h2;exact⟨p,hp,(),()⟩
 ·rintro⟨p,hp,h1,h2⟩;exact⟨_,TC.mpr ⟨p,hp,rfl⟩,by dsimp only;lia,by dsimp only;lia⟩
def Fj (r:R)(lo hi:Int):aV (shr r lo hi):=(dt _).1
def KE (r:R)(lo hi:Int):(shr r lo hi).length<=r.length:=by have:=wH (r.map fun p=>(p.1-lo,p.2-hi));rw[Tw] at this;exact this
def DZ (P:Int->Int->Prop)(b:Blk)(x y:Int):Prop:=∀dx dy,r9 b dx dy->P (x+dx) (y+dy)
def ll {r:R}(c:aV r){i j:Nat}{p q:Int×Int}(hi:r[i]?=some p)(hj:r[j]?=some q)(hij:i<j):p.2+2<=q.1:=by obtain⟨h1,rfl⟩:=TR.mp hi;obtain⟨h2,rfl⟩:=TR.mp hj;exact U5.mp c.2 i j h1 h2 hij
def zU {r:R}(c:aV r){u v:Int}(h:u<=v)(hm:∀z,u<=z->z<=v->Mem r z):∃s∈r,s.1<=u/\v<=s.2:=by
 obtain⟨s,hs,h1,h2⟩:=hm u (T1 _) h;refine⟨s,hs,h1,?_⟩;by_cases hv:v<=s.2
 ·exact hv
 ·obtain⟨t,ht,k1,k2⟩:=hm (s.2+1) () ();obtain⟨i,hi⟩:=UR hs;obtain⟨j,hj⟩:=UR ht;rcases Nat.lt_trichotomy i j with hij|hij|hij
  ·have:=ll c hi hj hij;lia
  ·subst hij;rw[hi] at hj;cases hj;lia
  ·have:=ll c hj hi hij;have:=c.1 s hs;lia
def N6 (p:Pic)(u v y:Int):Prop:=∃q∈p,q.1=y/\∃s∈q.2,s.1<=u/\v<=s.2
def GJ {p:Pic}(c:am p){u v y:Int}(h:u<=v):N6 p u v y↔∀z,u<=z->z<=v->aC p z y:=by
 constructor
 ·rintro⟨q,hq,e,s,hs,h1,h2⟩ z k1 k2;exact⟨q,hq,e,s,hs,(),()⟩
 ·intro hm;have hr:=dw c y;obtain⟨s,hs,h1,h2⟩:=zU hr h fun z k1 k2=>(ji c z y).mpr (hm z k1 k2);obtain⟨q,hq,e,_⟩:=hm u (T1 _) h;refine⟨q,hq,e,s,?_,h1,h2⟩;rw[<- e,kQ c hq] at hs;exact hs
noncomputable def vm (p:Pic)(b:Blk):Pic:=(p.map fun q=>(q.1-b.2.1,shr q.2 b.1 b.2.2.1)).filter gv
def BM {p:Pic}(c:am p)(b:Blk):am (vm p b):=by
 refine⟨fun q hq=>?_,?_⟩
 ·obtain⟨h1,h2⟩:=Ui.mp hq;obtain⟨z,hz,rfl⟩:=TC.mp h1;exact⟨Fj _ _ _,by simpa[gv] using h2⟩
 ·refine Xi _ ?_;rw[Ur];exact c.2.imp fun {s t} h=>by dsimp only;lia
def zH {p:Pic}(c:am p){b:Blk}(hb:b.1<=b.2.2.1)(x y:Int):aC (vm p b) x y↔∀dx,b.1<=dx->dx<=b.2.2.1->aC p (x+dx) (y+b.2.1):=by
 have h1:aC (vm p b) x y↔N6 p (x+b.1) (x+b.2.2.1) (y+b.2.1):=by
  constructor
  ·rintro⟨q,hq,e,hm⟩;obtain⟨z,hz,rfl⟩:=TC.mp (Ui.mp hq).1;dsimp only at e hm;obtain⟨s,hs,k1,k2⟩:=(DE _ _ _ _).mp hm;exact⟨z,hz,(),s,hs,k1,k2⟩
  ·rintro⟨z,hz,e,s,hs,k1,k2⟩;have hm:Mem (shr z.2 b.1 b.2.2.1) x:=(DE _ _ _ _).mpr ⟨s,hs,k1,k2⟩;refine⟨(z.1-b.2.1,shr z.2 b.1 b.2.2.1),Ui.mpr ⟨TC.mpr ⟨z,hz,rfl⟩,?_⟩,by dsimp only;lia,hm⟩;unfold gv;rw[Bool.not_eq_true',Xj];intro e';dsimp only at e';rw[e'] at hm;exact ba _ hm
 rw[h1,GJ c ()];constructor
 ·intro h dx k1 k2;exact h (x+dx) () ()
 ·intro h z k1 k2;have:=h (z-x) () ();rwa[show x+(z-x)=z by lia] at this
theorem jN {f:Int×R->Int×R}:∀p:Pic,(∀q∈p,(f q).2.length<=q.2.length)->(ah (p.map f)).length<=(ah p).length
 |[],_=>TB _
 |q::p,h=>by have h1:=jN p fun s hs=>h s (TJ _ hs);have h2:=h q TD;rw[TQ,bv,bv,Tz,Tz,Tw,Tw];lia
def Ha (p:Pic)(b:Blk):(vm p b).length<=p.length/\(ah (vm p b)).length<=(ah p).length:=by unfold vm;rw[fg];refine⟨?_,jN p fun q _=>KE _ _ _⟩;have:=Vf gv (p.map fun q=>(q.1-b.2.1,shr q.2 b.1 b.2.2.1));rwa[Tw] at this
theorem Al:∀(q p:Pic),p.Pairwise (fun s t=>s.1<t.1)->(p.map fun s=>(bo q s.1).length).sum<=(ah q).length
 |[],p,_=>by
  have:∀p:Pic,(p.map fun s=>(bo [] s.1).length).sum=0:=by
   intro p;induction p with
   |nil=>rfl
   |cons s p ih=>rw[TQ,Vg,ih];rfl
  rw[this];exact T9 _
 |t::q,p,hp=>by
  have ih:=Al q p hp;have key:∀p:Pic,p.Pairwise (fun s t=>s.1<t.1)->(p.map fun s=>(bo (t::q) s.1).length).sum<=t.2.length+(p.map fun s=>(bo q s.1).length).sum/\((∀s∈p,t.1≠s.1)->(p.map fun s=>(bo (t::q) s.1).length).sum<=(p.map fun s=>(bo q s.1).length).sum):=by
   intro p;induction p with
   |nil=>intro _;simp
   |cons s p ihp=>
    intro hp;obtain⟨k1,k2⟩:=Ve.mp hp;obtain⟨i1,i2⟩:=ihp k2;have er:bo (t::q) s.1=if t.1=s.1 then t.2 else bo q s.1:=by unfold bo;rw[VP];by_cases h:t.1=s.1<;>simp[h]
    simp only[TQ,Vg,er];by_cases h:t.1=s.1
    ·rw[Ts h];refine⟨?_,fun hn=>absurd h (hn s TD)⟩;have:=i2 fun z hz e=>by have:=k1 z hz;lia
     lia
    ·rw[Tr h];refine⟨(),fun hn=>?_⟩;have:=i2 fun z hz=>hn z (TJ _ hz);lia
  have:=(key p hp).1;rw[bv,Tz,Tw];lia
def Gj {p q:Pic}(cp:am p):(ah (cmP p q)).length<=(ah p).length+(ah q).length:=by
 have h1:=Al q p cp.2;have key:∀p:Pic,(ah (p.map fun s=>(s.1,c8 s.2 (bo q s.1)))).length<=(ah p).length+(p.map fun s=>(bo q s.1).length).sum:=by
  intro p;induction p with
  |nil=>simp[ah]
  |cons s p ih=>have:=sJ _ s.2 (bo q s.1) rfl;rw[TQ,bv,bv,Tz,Tz,Tw,Tw,TQ,Vg];dsimp only;lia
 unfold cmP qC;rw[fg];have:=key p;lia
def CM (p q:Pic):(cmP p q).length<=p.length:=by unfold cmP qC;have:=Vf gv (p.map fun s=>(s.1,c8 s.2 (bo q s.1)));rwa[Tw] at this
def pG (p:Pic)(c:am p)(n:Nat)(hp:p.length<=10000)(hs:(2 * n+1) * (ah p).length<=10000):∃q:Pic,b9 [ap p,.int (n:Int)]=some (ap q)/\am q/\q.length<=p.length/\(ah q).length<=(2 * n+1) * (ah p).length/\∀x y,aC q x y↔∀j:Int,0<=j->j<=n->aC p x (y+j):=by
 obtain⟨ρ',k1,q,v2,v3,rfl,a1,a2,a3,a4⟩:=jQ (c:=cU) (m:=dY)
  (fun ρ=>∃(q:Pic) (k:Nat) (v3:Sl),ρ=[.sh (ap q),.sh (.int (n:Int)),.sh (.int (k:Int)),v3]/\k<=n/\am q/\q.length<=p.length/\((ah q).length<=(k+1) * (ah p).length\/(k=n/\(ah q).length<=(2 * n+1) * (ah p).length))/\(k=0->(ah q).length<=(ah p).length)/\∀x y,aC q x y↔∀j:Int,0<=j->j<=k->aC p x (y+j))
  (fun ρ=>match ρ with|[_,.sh (.int n),.sh (.int k),_]=>(n-k).toNat|_=>0)
  (fun ρ=>∃(q:Pic) (v2 v3:Sl),ρ=[.sh (ap q),.sh (.int (n:Int)),v2,v3]/\am q/\q.length<=p.length/\(ah q).length<=(2 * n+1) * (ah p).length/\∀x y,aC q x y↔∀j:Int,0<=j->j<=n->aC p x (y+j))
  (by
   rintro _ ⟨q,k,v3,rfl,hk,c',hl,hsz,h0,hm⟩;by_cases hc:k<n
   ·right;have hc':(k:Int)<n:=()
    refine⟨by simp[cU,hc'],?_⟩;have hsz':(ah q).length<=(k+1) * (ah p).length:=hsz.elim id fun h=>()
    generalize hst:(if (n:Int)-k<(k:Int)+1 then (n:Int)-k else (k:Int)+1)=st;have hst1:1<=st/\st<=k+1/\st<=n-k/\(st=k+1\/st=n-k):=by rw[<- hst];split<;>lia
    have e1:(k+1) * (ah p).length<=(2 * n+1) * (ah p).length:=Vp _ ();have lq:(ah q).length<=10000:=()
    have mv:=tS q 0 (-st) () fun z hz=>by have:=c7 hz;lia
    have cmv:=ES c' 0 (-st);have lmv:(mvP q 0 (-st)).length=q.length:=by unfold mvP;rw[Tw]
    have smv:=G9 q 0 (-st);have cm:=kB (p:=q) (q:=mvP q 0 (-st)) cmv () () ();have scm:=Gj (p:=q) (q:=mvP q 0 (-st)) c';have rcm:=CM q (mvP q 0 (-st));have ek:(((k+st.toNat:Nat)):Int)=(k:Int)+st:=()
    refine⟨[.sh (ap (cmP q (mvP q 0 (-st)))),.sh (.int (n:Int)),.sh (.int ((k+st.toNat:Nat):Int)),.sh (.int st)],?_,⟨cmP q (mvP q 0 (-st)),k+st.toNat,_,rfl,(),o8 c' cmv,(),?_,fun z=>(),fun x y=>?_⟩,by dsimp only;lia⟩
    ·rw[ek];simp[dY,hst,mv,cm]
    ·rcases hst1.2.2.2 with e|e
     ·left;have e2:(k+st.toNat+1) * (ah p).length=(k+1) * (ah p).length+(k+1) * (ah p).length:=by
       rw[<- UU];congr 1;lia
      lia
     ·right;have e2:(k+1) * (ah p).length+(k+1) * (ah p).length<=(2 * n+1) * (ah p).length:=by
       rw[<- UU];exact Vp _ ()
      exact⟨(),()⟩
    ·rw[xh c' cmv,Dc,hm,hm,show x-0=x by lia,show y - -st=y+st by lia];constructor
     ·rintro⟨g1,g2⟩ j j0 j1;by_cases hj:j<=k
      ·exact g1 j j0 hj
      ·have:=g2 (j-st) () ();rwa[show y+st+(j-st)=y+j by lia] at this
     ·intro g;refine⟨fun j j0 j1=>g j j0 (),fun j j0 j1=>?_⟩;have:=g (st+j) () ();rwa[show y+(st+j)=y+st+j by lia] at this
   ·left;have ek:k=n:=()
    subst ek;refine⟨by simp[cU],q,_,_,rfl,c',hl,?_,hm⟩;rcases hsz with h|h
    ·have:(k+1) * (ah p).length<=(2 * k+1) * (ah p).length:=Vp _ ();lia
    ·exact h.2)
  [.sh (ap p),.sh (.int (n:Int)),.sh (.int 0),.un] ⟨p,0,.un,rfl,(),c,TB _,.inl (),fun _=>TB _,fun x y=>⟨fun h j j0 j1=>by rwa[show y+j=y by lia],fun h=>by have:=h 0 () ();rwa[show y+0=y by lia] at this⟩⟩
 exact⟨q,by simp[b9,hJ,fnO,fJ,k1],a1,a2,a3,a4⟩
noncomputable abbrev FI:=aM (ab (xOp dJ (af 0) (xOp dIx (af 2) (xC (.int 1)))) (ab (az bZ (ab (ak 1) (ab (xOp dIx (af 2) (xC (.int 0))) (ab (xOp dIx (af 2) (xC (.int 2))) aj)))) aj))
def bR (p:Pic)(c:am p)(b:Blk)(hb:BOk b)(n:Nat)(hn:b.2.2.2-b.2.1=n)(hp:p.length<=1000)(hs:(2 * n+1) * (ah p).length<=10000)(hr:∀q∈p,q.2.length<=1000):∃q:Pic,aX [ap p,aO b]=some (ap q)/\am q/\q.length<=p.length/\(ah q).length<=(2 * n+1) * (ah p).length/\∀x y,aC q x y↔DZ (aC p) b x y:=by
 have hl:p.length<=LIM:=aH ();have hc:aZ gx bP FI [.un,.un,.sh (aO b)] (p.map pyD)=some ((p.map fun q=>(q.1-b.2.1,shr q.2 b.1 b.2.2.1)).map pyD):=by
  rw[T5];exact aR pyD (fun q=>pyD (q.1-b.2.1,shr q.2 b.1 b.2.2.1)) p fun q hq=>by have a:=jY q.2 b.1 b.2.2.1 (hr q hq);simp[dW,a,atI,ixN]
 have hm:=b5 (p.map fun q=>(q.1-b.2.1,shr q.2 b.1 b.2.2.1)) (by rw[Tw];lia);have hnl:=Ha p b;have e1:(2 * n+1) * (ah (vm p b)).length<=(2 * n+1) * (ah p).length:=Wz _ hnl.2;obtain⟨q,a1,a2,a3,a4,a5⟩:=pG (vm p b) (BM c b) n () ();refine⟨q,?_,a2,(),(),fun x y=>?_⟩
 ·have a1':b9 [ap (vm p b),.int (b.2.2.2-b.2.1)]=some (ap q):=by rw[hn];exact a1
  have hm':aq [.lst ((p.map fun q=>(q.1-b.2.1,shr q.2 b.1 b.2.2.1)).map pyD)]=some (ap (vm p b)):=hm;generalize (p.map fun q=>(q.1-b.2.1,shr q.2 b.1 b.2.2.1)).map pyD=zs at hc hm';simp[aX,dM,fnO,a7,hl,hc,hm',a1',atI,ixN]
 ·rw[a5];constructor
  ·intro h dx dy hd;have h1:=(zH c hb.1 x (y+(dy-b.2.1))).mp (h (dy-b.2.1) (by have:=hd.2.2.1;lia) (by have:=hd.2.2.2;lia)) dx hd.1 hd.2.1;rwa[show y+(dy-b.2.1)+b.2.1=y+dy by lia] at h1
  ·intro h j j0 j1;rw[zH c hb.1];intro dx d0 d1;have:=h dx (j+b.2.1) ⟨d0,d1,(),()⟩;rwa[show y+(j+b.2.1)=y+j+b.2.1 by lia] at this
def tP {α:Type}(l:List α)(k:α->Int)(enc:α->D)(f g:Int)(he:∀a,dIx (enc a) (.int 0)=some (.int (k a)))(hl:l.length<=100000)(pw:l.Pairwise fun a b=>k a<k b) :
  ∃l':List α,aJ [.tup (l.map enc),.int f,.int g]=some (.tup (l'.map enc))/\l'.Sublist l/\∀a∈l,k a<=g->(∀b∈l,k a<k b->f<k b)->a∈l':=by
 obtain⟨n1,a1,b1,c1⟩:=fA l k enc f he hl pw;obtain⟨n2,a2,b2,c2⟩:=fA l k enc g he hl pw;refine⟨fw l (some ((n1-1:Nat):Int)) (some (n2:Int)),?_,?_,fun a ha hg hb=>?_⟩
 ·have e1:(if ((n1:Int)-1) > 0 then (n1:Int)-1 else 0)=((n1-1:Nat):Int):=by split<;>lia
  have e1':(if 1<n1 then (n1:Int)-1 else 0)=((n1-1:Nat):Int):=by split<;>lia
  have e1'':(if (1:Int)<(n1:Int) then (n1:Int)-1 else 0)=((n1-1:Nat):Int):=by split<;>lia
  simp[aJ,fD,fnO,bU,b1,b2,CP,e1,e1',e1'',dSl]
 ·unfold fw;exact (List.take_sublist _ _).trans (List.drop_sublist _ _)
 ·obtain⟨i,hi⟩:=UR ha;have hil:=(TR.mp hi).1;have h2:=(c2 i a hi).mp hg;have h1:n1-1<=i:=by
   by_cases h:n1-1<=i
   ·exact h
   ·exfalso;obtain⟨b,hb'⟩:∃b,l[i+1]?=some b:=⟨_,Ua (show i+1<l.length by lia)⟩
    have h3:=(c1 (i+1) b hb').mpr ();obtain⟨l1,e1⟩:=TR.mp hi;obtain⟨l2,e2⟩:=TR.mp hb';have h4:=U5.mp pw i (i+1) l1 l2 ();rw[e1,e2] at h4;have:=hb b (Vi hb') h4;lia
  unfold fw;rw[DB (),DB (),UY,UY,Nat.min_eq_left (by lia:n1-1<=l.length),Nat.min_eq_left a2];refine Vi (i:=i-(n1-1)) ?_;rw[List.getElem?_take_of_lt (),Wk,show n1-1+(i-(n1-1))=i by lia];exact hi
def HX {r:R}(c:aV r)(h:r.length<=100000)(f g:Int):∃r':R,aJ [bm r,.int f,.int g]=some (bm r')/\r'.Sublist r/\∀x,f<=x->x<=g->Mem r x->Mem r' x:=by
 have pw:r.Pairwise fun a b=>a.1<b.1:=by refine List.Pairwise.imp_of_mem ?_ c.2;intro p q hp _ h;have:=c.1 p hp;lia
 obtain⟨r',h1,h2,h3⟩:=tP r (·.1) prD f g (fun a=>by simp) h pw;refine⟨r',h1,h2,fun x hf hg ⟨q,hq,k1,k2⟩=>⟨q,h3 q hq () fun b hb hlt=>?_,k1,k2⟩⟩;obtain⟨i,hi⟩:=UR hq;obtain⟨j,hj⟩:=UR hb;rcases Nat.lt_trichotomy i j with hij|hij|hij
 ·have:=ll c hi hj hij;lia
 ·subst hij;rw[hi] at hj;cases hj;lia
 ·have:=ll c hj hi hij;have:=c.1 b hb;have:=c.1 q hq;lia
def Ea {r r':R}(c:aV r)(s:r'.Sublist r):aV r':=⟨fun q hq=>c.1 q (s.subset hq),c.2.sublist s⟩
theorem C9:∀(l:XD),∀x∈l,mW l<=x
 |[],_,h=>by cases h
 |[a],x,h=>by rw[Tv.mp h];exact T1 _
 |a::b::l,x,h=>by
  rw[ww];rcases TN.mp h with rfl|h
  ·lia
  ·have:=C9 (b::l) x h;lia
theorem C5:∀(l:XD),∀x∈l,x<=kH l
 |[],_,h=>by cases h
 |[a],x,h=>by rw[Tv.mp h];exact T1 _
 |a::b::l,x,h=>by
  have e:kH (a::b::l)=max a (kH (b::l)):=rfl;rw[e];rcases TN.mp h with rfl|h
  ·lia
  ·have:=C5 (b::l) x h;lia
noncomputable def qL (p:Pic):XD:=p.map fun q=>(q.2.head?.getD (0,0)).1
noncomputable def ku (p:Pic):XD:=p.map fun q=>(q.2.getLast?.getD (0,0)).2
def Ee (p:Pic)(hn:∀q∈p,q.2≠[]):aZ gx bP (xOp dIx (xOp dIx (af 1) (xC (.int 0))) (xC (.int 0))) [.un,.un] (p.map pyD)=some ((qL p).map D.int):=by
 unfold qL;rw[T5];refine aR pyD _ p fun q hq=>?_;obtain⟨y,r⟩:=q;cases r with
 |nil=>exact absurd rfl (hn _ hq)
 |cons a r=>have f0:atI (prD a::r.map prD) 0=some (prD a):=ft (j:=0) rfl;have f1:atI [D.int a.1,D.int a.2] 0=some (.int a.1):=ft (j:=0) rfl;simp[dW,f0,f1]
def Bd (p:Pic)(hn:∀q∈p,q.2≠[]):aZ gx bP (xOp dIx (xOp dIx (af 1) (xUn dD (xC (.int 1)))) (xC (.int 1))) [.un,.un] (p.map pyD)=some ((ku p).map D.int):=by
 unfold ku;rw[T5];refine aR pyD _ p fun q hq=>?_;obtain⟨y,r⟩:=q;rcases Uv r with rfl|⟨r0,a,rfl⟩
 ·exact absurd rfl (hn _ hq)
 ·have f0:atI ((r0++[a]).map prD) (-1)=some (prD a):=by
   unfold atI;rw[Tw,Tz,T4,oj];simp
  have f1:atI [D.int a.1,D.int a.2] 1=some (.int a.2):=ft (j:=1) rfl;rw[Ub] at f0;simp at f0;simp[dW,f0,f1]
def A7 {r:R}(c:aV r){q:Int×Int}(hq:q∈r):(r.head?.getD (0,0)).1<=q.1:=by
 cases r with
 |nil=>cases hq
 |cons a r=>
  rcases TN.mp hq with rfl|hq
  ·exact T1 _
  ·have:=(canon_cons.mp c).2.1 q hq;have:=(canon_cons.mp c).1;show a.1<=q.1;lia
def A8 {r:R}(c:aV r){q:Int×Int}(hq:q∈r):q.2<=(r.getLast?.getD (0,0)).2:=by
 rcases Uv r with rfl|⟨r0,a,rfl⟩
 ·cases hq
 ·rw[Uz] at *;have e:((r0++[a]).getLast?.getD (0,0))=a:=by simp
  rw[e];rcases TH.mp hq with hq|hq
  ·obtain⟨_,h1,h2⟩:=canon_snoc.mp c;have:=h2 q hq;lia
  ·rw[Tv.mp hq];exact T1 _
def qM (p:Pic)(c:am p)(hne:p≠[])(h:p.length<=30000):∃l t r b:Int,tQ [ap p]=some (.tup [.int l,.int t,.int r,.int b])/\∀x y,aC p x y->l<=x/\x<=r/\t<=y/\y<=b:=by
 have hn:∀q∈p,q.2≠[]:=fun q hq=>(c.1 q hq).2;have c1:=Ee p hn;have c2:=Bd p hn;have hl:p.length<=LIM:=aH ();have hpos:0<p.length:=List.length_pos_iff.mpr hne;have l1:(qL p).length=p.length:=by unfold qL;rw[Tw]
 have l2:(ku p).length=p.length:=by unfold ku;rw[Tw]
 have hml:yK [.lst ((qL p).map D.int)]=some (.int (mW (qL p))):=by unfold yK;simp only[gZ,Option.bind_some];rw[Ts ()]
 have hmh:yJ [.lst ((ku p).map D.int)]=some (.int (kH (ku p))):=by unfold yJ;simp only[gZ,Option.bind_some];rw[Ts ()]
 obtain⟨q0,h0⟩:∃q,p[0]?=some q:=⟨_,Ua hpos⟩
 obtain⟨q1,h1⟩:∃q,p.getLast?=some q:=by
  cases e:p.getLast? with
  |none=>exact absurd (List.getLast?_eq_none_iff.mp e) hne
  |some q=>exact⟨q,rfl⟩
 have f0:atI (p.map pyD) 0=some (pyD q0):=ft (j:=0) (by rw[TX,h0];rfl);have f1:atI (p.map pyD) (-1)=some (pyD q1):=by obtain⟨Y,rfl⟩:=List.getLast?_eq_some_iff.mp h1;rw[Ub];exact eR _ _
 have g0:∀(y:Int) (d:D),atI [D.int y,d] 0=some (.int y):=fun y d=>ft (j:=0) rfl;have d0:dEq false (ap p) (.tup [])=some (.bl false):=by
  cases p with
  |nil=>exact absurd rfl hne
  |cons q p=>unfold dEq;rw[Ts ⟨Dh _,by simp[okD,okDs]⟩];simp[eqD,eqDs]
 refine⟨mW (qL p),q0.1,kH (ku p),q1.1,?_,fun x y hm=>?_⟩
 ·generalize hP:p.map pyD=Pd at *;have hPl:Pd.length<=LIM:=by rw[<- hP,Tw];exact hl
  simp[tQ,pJ,fnO,nO,hP,d0,c1,c2,hPl,hml,hmh,f0,f1,g0]
 ·obtain⟨q,hq,rfl,s,hs,k1,k2⟩:=hm;have cq:=(c.1 q hq).1;have e1:=C9 (qL p) _ (TC.mpr ⟨q,hq,rfl⟩);have e2:=C5 (ku p) _ (TC.mpr ⟨q,hq,rfl⟩);have e3:=A7 cq hs;have e4:=A8 cq hs;refine⟨(),(),?_,?_⟩
  ·cases p with
   |nil=>exact absurd rfl hne
   |cons a p=>
    cases h0;rcases TN.mp hq with rfl|hq
    ·exact T1 _
    ·have:=(pcanon_cons.mp c).2.1 q hq;lia
  ·obtain⟨Y,rfl⟩:=List.getLast?_eq_some_iff.mp h1;rcases TH.mp hq with hq|hq
   ·have:=(Ug.mp c.2).2.2 q hq q1 (by simp);lia
   ·rw[Tv.mp hq];exact T1 _
def KU {l m:List Nat}(h:l.Sublist m):l.sum<=m.sum:=by
 induction h with
 |slnil=>exact TB _
 |cons a _ ih=>rw[Vg];lia
 |cons_cons a _ ih=>rw[Vg,Vg];lia
def Ak (p:Pic)(c:am p)(hr:∀q∈p,q.2.length<=1000)(f g:Int):∃part:Int×R->R,∀q∈p,aJ [bm q.2,.int f,.int g]=some (bm (part q))/\(part q).Sublist q.2/\∀x,f<=x->x<=g->Mem q.2 x->Mem (part q) x:=by
 have h:∀q:Int×R,∃r:R,q∈p->aJ [bm q.2,.int f,.int g]=some (bm r)/\r.Sublist q.2/\∀x,f<=x->x<=g->Mem q.2 x->Mem r x:=fun q=>by
  by_cases hq:q∈p
  ·obtain⟨r,h1⟩:=HX (c.1 q hq).1 (by have:=hr q hq;lia) f g;exact⟨r,fun _=>h1⟩
  ·exact⟨[],fun z=>absurd z hq⟩
 exact⟨fun q=>(h q).choose,fun q hq=>(h q).choose_spec hq⟩
noncomputable abbrev P7:=aM (ab (ak 0) (ab (az aJ (ab (ak 1) (ab (xOp a6 (xOp dIx (af 2) (xC (.int 0))) (xOp dIx (af 3) (xC (.int 0)))) (ab (xOp a6 (xOp dIx (af 2) (xC (.int 2))) (xOp dIx (af 3) (xC (.int 2)))) aj)))) aj))
def xF (p:Pic)(c:am p)(hp:p.length<=1000)(hr:∀q∈p,q.2.length<=1000)(l t r b:Int)(k:Blk):∃q:Pic,fB [ap p,.tup [.int l,.int t,.int r,.int b],aO k]=some (ap q)/\am q/\q.length<=p.length/\(ah q).length<=(ah p).length/\(∀s∈q,s.2.length<=1000)/\(∀x y,aC q x y->aC p x y) /\
  ∀x y,l+k.1<=x->x<=r+k.2.2.1->t+k.2.1<=y->y<=b+k.2.2.2->aC p x y->aC q x y:=by
 obtain⟨p',h1,h2,h3⟩:=tP p (·.1) pyD (t+k.2.1) (b+k.2.2.2) (fun a=>by simp) () c.2;have c':am p':=⟨fun q hq=>c.1 q (h2.subset hq),c.2.sublist h2⟩
 obtain⟨part,hpart⟩:=Ak p c hr (l+k.1) (r+k.2.2.1);have hl':p'.length<=p.length:=h2.length_le;have hlim:p'.length<=LIM:=aH ();have hc:aZ gx bP P7 [.un,.un,.sh (.tup [.int l,.int t,.int r,.int b]),.sh (aO k)] (p'.map pyD)=some ((p'.map fun q=>(q.1,part q)).map pyD):=by
  rw[T5];exact aR pyD (fun q=>pyD (q.1,part q)) p' fun q hq=>by have a:=(hpart q (h2.subset hq)).1;simp[dW,a,atI,ixN]
 have hm:=b5 (p'.map fun q=>(q.1,part q)) (by rw[Tw];lia);have hsub:∀q∈p',(part q).Sublist q.2:=fun q hq=>(hpart q (h2.subset hq)).2.1;refine⟨(p'.map fun q=>(q.1,part q)).filter gv,?_,⟨fun q hq=>?_,?_⟩,?_,?_,fun s hs=>?_,fun x y h=>?_,fun x y x0 x1 y0 y1 h=>?_⟩
 ·have a1:atI [D.int l,.int t,.int r,.int b] 1=some (.int t):=rfl;have a3:atI [D.int l,.int t,.int r,.int b] 3=some (.int b):=rfl;have b1:atI [D.int k.1,.int k.2.1,.int k.2.2.1,.int k.2.2.2] 1=some (.int k.2.1):=rfl;have b3:atI [D.int k.1,.int k.2.1,.int k.2.2.1,.int k.2.2.2] 3=some (.int k.2.2.2):=rfl;generalize hz:(p'.map fun q=>(q.1,part q)).map pyD=zs at hc hm;generalize hz2:p'.map pyD=ps at h1 hc;have hps:ps.length<=LIM:=by rw[<- hz2,Tw];exact hlim
  simp[fB,mX,fnO,eF,a1,a3,b1,b3,h1,hps,hc,hm,p0]
 ·obtain⟨k1,k2⟩:=Ui.mp hq;obtain⟨z,hz,rfl⟩:=TC.mp k1;exact⟨Ea (c'.1 z hz).1 (hsub z hz),by simpa[gv] using k2⟩
 ·refine Xi _ ?_;rw[Ur];exact c'.2
 ·have:=Vf gv (p'.map fun q=>(q.1,part q));rw[Tw] at this;lia
 ·rw[fg];have e1:=jN (f:=fun q=>(q.1,part q)) p' fun q hq=>(hsub q hq).length_le;have e2:(ah p').length<=(ah p).length:=by
   unfold ah;rw[WT,WT];exact KU (h2.map _)
  lia
 ·obtain⟨z,hz,rfl⟩:=TC.mp (Ui.mp hs).1;have:=(hsub z hz).length_le;have:=hr z (h2.subset hz);dsimp only;lia
 ·obtain⟨q,hq,e,s,hs,k1,k2⟩:=h;obtain⟨z,hz,rfl⟩:=TC.mp (Ui.mp hq).1;exact⟨z,h2.subset hz,e,s,(hsub z hz).subset hs,k1,k2⟩
 ·obtain⟨q,hq,rfl,hmm⟩:=h;have hq':q∈p':=h3 q hq y1 fun b' hb hlt=>()
  have hmem:=(hpart q hq).2.2 x x0 x1 hmm;refine⟨(q.1,part q),Ui.mpr ⟨TC.mpr ⟨q,hq',rfl⟩,?_⟩,rfl,hmem⟩;unfold gv;rw[Bool.not_eq_true',Xj];intro e';dsimp only at e';rw[e'] at hmem;exact ba _ hmem
def yx (p:Pic)(bs:List Blk)(x y:Int):Prop:=∀b∈bs,DZ (aC p) b x y
def fx (p:Pic):dEq false (ap p) (.tup [])=some (.bl (decide (p=[]))):=by
 cases p with
 |nil=>rw[Ux rfl];exact nV false (d:=.tup []) (by simp[okD,okDs])
 |cons q p=>rw[Uc (by simp)];unfold dEq;rw[Ts ⟨Dh _,by simp[okD,okDs]⟩];simp[eqD,eqDs]
def Ca (p:Pic)(c:am p)(hp:p.length<=1000)(hr:∀q∈p,q.2.length<=1000)(s1 v3:Sl)(q:Pic)(cq:am q)(hq:q.length<=p.length)(b:Blk)(hb:BOk b)(hs:(ah q).length+b8 b * (ah p).length<=10000)(hne:q≠[]) :
  ∃q':Pic,aI [.sh (ap p),s1,.sh (ap q),.sh (aO b)]=some (.nx [.sh (ap p),s1,.sh (ap q'),.sh (aO b)])/\am q'/\q'.length<=p.length/\(ah q').length<=(ah q).length+b8 b * (ah p).length/\∀x y,aC q' x y↔aC q x y/\DZ (aC p) b x y:=by
 obtain⟨l,t,r,bt,h1,h2⟩:=qM q cq hne ();obtain⟨z,z1,z2,z3,z4,z5,z6,z7⟩:=xF p c hp hr l t r bt b;obtain⟨n,hn⟩:∃n:Nat,b.2.2.2-b.2.1=n:=⟨(b.2.2.2-b.2.1).toNat,by have:=hb.2;lia⟩
 have eh:b8 b=2 * n+1:=by unfold b8;rw[hn];simp
 have e1:(2 * n+1) * (ah z).length<=b8 b * (ah p).length:=by rw[eh];exact Wz _ z4
 obtain⟨w,w1,w2,w3,w4,w5⟩:=bR z z2 b hb n hn () () z5;have cm:=kB (p:=q) (q:=w) w2 () () ();have d0:=fx q;rw[Uc hne] at d0;refine⟨cmP q w,?_,o8 cq w2,?_,?_,fun x y=>?_⟩
 ·simp[aI,d0,h1,z1,w1,cm]
 ·have:=CM q w;lia
 ·have:=Gj (p:=q) (q:=w) cq;lia
 ·rw[xh cq w2,w5];constructor
  ·rintro⟨g1,g2⟩;exact⟨g1,fun dx dy hd=>z6 _ _ (g2 dx dy hd)⟩
  ·rintro⟨g1,g2⟩;obtain⟨x0,x1,y0,y1⟩:=h2 x y g1;refine⟨g1,fun dx dy hd=>z7 _ _ ?_ ?_ ?_ ?_ (g2 dx dy hd)⟩
   ·have:=hd.1;lia
   ·have:=hd.2.1;lia
   ·have:=hd.2.2.1;lia
   ·have:=hd.2.2.2;lia
def kG (p:Pic)(c:am p)(bs:List Blk)(hne:bs≠[])(hb:∀b∈bs,BOk b)(hp:p.length<=1000)(hr:∀q∈p,q.2.length<=1000)(hl:bs.length<=1000)(hs:aK bs * (ah p).length<=10000) :
  ∃q:Pic,bj [ap p,.tup (bs.map aO)]=some (ap q)/\am q/\q.length<=p.length/\(ah q).length<=aK bs * (ah p).length/\∀x y,aC q x y↔yx p bs x y:=by
 obtain⟨cs,b0,rfl⟩:∃cs b0,bs=cs++[b0]:=by
  rcases Uv bs with h|⟨cs,b0,h⟩
  ·exact absurd h hne
  ·exact⟨cs,b0,by rw[h,Uz]⟩
 have hh:aK (cs++[b0])=aK cs+b8 b0:=by rw[bF,i8]
 rw[hh,UU] at hs;obtain⟨n,hn⟩:∃n:Nat,b0.2.2.2-b0.2.1=n:=⟨(b0.2.2.2-b0.2.1).toNat,by have:=(hb b0 (by simp)).2;lia⟩
 have eh:b8 b0=2 * n+1:=by unfold b8;rw[hn];simp
 obtain⟨q0,w1,w2,w3,w4,w5⟩:=bR p c b0 (hb b0 (by simp)) n hn hp (by rw[<- eh];lia) hr;rw[<- eh] at w4;have ec:fw ((cs++[b0]).map aO) none (some (-1))=cs.map aO:=by
  rw[CP];congr 1;unfold fw;have e1:HT.sIx (cs++[b0]).length 0 none=0:=rfl;have e2:HT.sIx (cs++[b0]).length (cs++[b0]).length (some (-1))=cs.length:=by rw[Tz,T4];unfold HT.sIx;simp;lia
  rw[e1,e2];simp
 have at1:atI ((cs++[b0]).map aO) (-1)=some (aO b0):=by rw[Ub];exact eR _ _
 obtain⟨o,k1,k2⟩:=pE (g:=ag 3) (m:=aI) aO (fun pre ρ=>∃(q:Pic) (v3:Sl),ρ=[.sh (ap p),.sh (.tup ((cs++[b0]).map aO)),.sh (ap q),v3]/\am q/\q.length<=p.length/\(ah q).length<=(aK pre+b8 b0) * (ah p).length/\∀x y,aC q x y↔yx p (pre++[b0]) x y)
  (fun d=>d = .tup []/\∀x y,¬yx p (cs++[b0]) x y) (fun _=>False) cs [.sh (ap p),.sh (.tup ((cs++[b0]).map aO)),.sh (ap q0),.un]
  ⟨q0,_,rfl,w2,w3,by have:aK []=0:=rfl;rw[this,U7];exact w4,fun x y=>by rw[w5];unfold yx;simp⟩ (by
  rintro pre b post _ e ⟨q,v3,rfl,cq,lq,sq,mq⟩;have hbm:b∈cs:=by rw[e];simp
  have hpre:aK pre+b8 b<=aK cs:=by rw[e,bF];have:aK (b::post)=b8 b+aK post:=rfl;lia
  have hmul:(aK pre+b8 b0) * (ah p).length+b8 b * (ah p).length<=10000:=by
   have:(aK pre+b8 b0) * (ah p).length+b8 b * (ah p).length=(aK pre+b8 b) * (ah p).length+b8 b0 * (ah p).length:=by rw[UU,UU];lia
   rw[this];have:=Vp (ah p).length hpre;lia
  by_cases hq0:q=[]
  ·subst hq0;refine⟨_,.rt (.tup []),rfl,?_,rfl,fun x y h=>?_⟩
   ·have d0:=fx [];rw[Ux rfl] at d0;simp[aI,d0]
   ·refine bA x y ((mq x y).mpr fun b' hb'=>h b' ?_);rw[e];rcases TH.mp hb' with h' | h'
    ·simp[h']
    ·simp[Tv.mp h']
  ·obtain⟨q',t1,t2,t3,t4,t5⟩:=Ca p c hp hr (.sh (.tup ((cs++[b0]).map aO))) (.sh (aO b)) q cq lq b (hb b (TK _ hbm)) () hq0;refine⟨_,_,rfl,t1,q',_,rfl,t2,t3,?_,fun x y=>?_⟩
   ·rw[bF,i8];have:(aK pre+b8 b+b8 b0) * (ah p).length=(aK pre+b8 b0) * (ah p).length+b8 b * (ah p).length:=by
     rw[UU,UU,UU];lia
    lia
   ·rw[t5,mq];unfold yx;constructor
    ·rintro⟨g1,g2⟩ b' hb';rcases TH.mp hb' with h' | h'
     ·rcases TH.mp h' with h' | h'
      ·exact g1 b' (TK _ h')
      ·rw[Tv.mp h'];exact g2
     ·exact g1 b' (TV _ h')
    ·intro g;refine⟨fun b' hb'=>g b' ?_,g b (by simp)⟩;rcases TH.mp hb' with h' | h'
     ·simp[h']
     ·simp[Tv.mp h'])
 have hlim:(cs++[b0]).length<=LIM:=aH ();cases o with
 |nx ρ'=>
  rcases k2 with ⟨q,v3,rfl,cq,lq,sq,mq⟩|h
  ·refine⟨q,?_,cq,lq,by rw[hh];exact sq,mq⟩;generalize (cs++[b0]).map aO=Bs at *;simp[bj,br,fnO,bh,at1,w1,dSl,ec,p0,k1]
  ·exact h.elim
 |rt d=>
  obtain⟨rfl,hno⟩:=k2;refine⟨[],?_,eA,T9 _,T9 _,fun x y=>⟨fun h=>(bA _ _ h).elim,fun h=>(hno x y h).elim⟩⟩;generalize (cs++[b0]).map aO=Bs at *;simp[bj,br,fnO,bh,at1,w1,dSl,ec,p0,k1]
 |ct _|bk _|ro _=>exact k2.elim
def ze (p:Pic)(bs:List Blk)(x y:Int):yx p bs x y↔∀u v,wX bs u v->aC p (x+u) (y+v):=by
 constructor
 ·rintro h u v ⟨b,hb,hm⟩;exact h b hb u v hm
 ·intro h b hb u v hm;exact h u v ⟨b,hb,hm⟩
def DW (p:Pic)(ps:List (List Blk))(x y:Int):Prop:=∀u v,Off ps u v->aC p (x+u) (y+v)
def zO (ps:List (List Blk))(bs:List Blk)(x y:Int):Off (ps++[bs]) x y↔∃u v,Off ps u v/\wX bs (x-u) (y-v):=by
 induction ps generalizing x y with
 |nil=>
  constructor
  ·rintro⟨u,v,h1,h2,h3⟩;exact⟨0,0,⟨rfl,rfl⟩,by rwa[show x-0=u by lia,show y-0=v by lia]⟩
  ·rintro⟨u,v,⟨rfl,rfl⟩,h⟩;exact⟨x-0,y-0,h,(),()⟩
 |cons a ps ih=>
  constructor
  ·rintro⟨u,v,h1,h2⟩;obtain⟨u',v',h3,h4⟩:=(ih _ _).mp h2;exact⟨u+u',v+v',⟨u,v,h1,by rwa[show u+u'-u=u' by lia,show v+v'-v=v' by lia]⟩,by rwa[show x-(u+u')=x-u-u' by lia,show y-(v+v')=y-v-v' by lia]⟩
  ·rintro⟨u,v,⟨u',v',h1,h3⟩,h2⟩;exact⟨u',v',h1,(ih _ _).mpr ⟨u-u',v-v',h3,by rwa[show x-u'-(u-u')=x-u by lia,show y-v'-(v-v')=y-v by lia]⟩⟩
def Lf (ps:List (List Blk)):Prop:=∀bs∈ps,bs.length<=1000
def Cov (n:Nat)(P:Int->Int->Prop):Prop:=∃ts:List Tri,ts.length<=n/\∀x y,iG ts x y↔P x y
def lm {q:Pic}(c:am q){n:Nat}{P:Int->Int->Prop}(hP:∀x y,aC q x y↔P x y)(h:Cov n P):(ah q).length<=n:=by obtain⟨ts,hl,hm⟩:=h;have e:fh ts=q:=ui c fun x y=>(hm x y).trans (hP x y).symm;have:=jg ts;rw[e] at this;lia
def Cov.mono {n m:Nat}{P:Int->Int->Prop}(h:Cov n P)(hm:n<=m):Cov m P:=let ⟨ts,a,b⟩:=h;⟨ts,Ud a hm,b⟩
def Cov.congr {n:Nat}{P Q:Int->Int->Prop}(h:Cov n P)(e:∀x y,P x y↔Q x y):Cov n Q:=let ⟨ts,a,b⟩:=h;⟨ts,a,fun x y=>(b x y).trans (e x y)⟩
def GrF (p:Pic)(ps:List (List Blk))(x y:Int):Prop:=∃u v,Off ps u v/\aC p (x-u) (y-v)
def xr (N:Str)(hN:NS.contains N=true)(ps:List (List Blk))(hf:FOk ps)(p:Pic)(c:am p)(hs:∀post bs pre,ps=post++bs::pre->∃n,Cov n (GrF p pre)/\aK bs * n<=10000) :
  ∃q:Pic,cE [aG N ps,ap p]=some (ap q)/\am q/\∀x y,aC q x y↔GrF p ps x y:=by
 obtain⟨ρ',k1,q,v2,rfl,b1,b3⟩:=a8 (g:=ag 2) (m:=cA) mh (fun pre ρ=>∃(q:Pic) (v2:Sl),ρ=[.sh (aG N ps),.sh (ap q),v2]/\am q/\∀x y,aC q x y↔GrF p pre.reverse x y) ps.reverse [.sh (aG N ps),.sh (ap p),.un] ⟨p,_,rfl,c,fun x y=>⟨fun h=>⟨0,0,⟨rfl,rfl⟩,by simpa using h⟩,fun⟨u,v,⟨hu,hv⟩,h⟩=>by subst hu hv;simpa using h⟩⟩ (by
  rintro pre bs post _ e ⟨q,v2,rfl,cq,l2⟩;have e':ps=post.reverse++(bs::pre.reverse):=by have:=T7 List.reverse e;rw[List.reverse_reverse] at this;rw[this];simp
  have hbs:=hf bs (by rw[e'];simp);obtain⟨n,hcov,hn⟩:=hs _ _ _ e';have hl:=lm cq l2 hcov;have hp3:aK bs * (ah q).length<=aK bs * n:=Wz _ hl;obtain⟨q',c1,c2,c3,c4⟩:=kD q cq bs hbs.2 ();have er:(pre++[bs]).reverse=bs::pre.reverse:=by simp
  refine⟨_,[.sh (aG N ps),.sh (ap q'),.sh (mh bs)],rfl,.inl ?_,q',_,rfl,c2,fun x y=>?_⟩
  ·simp[cA,c1]
  ·rw[er,c4,JL];constructor
   ·rintro⟨u,v,h1,h2⟩;obtain⟨u',v',h3,h4⟩:=(l2 _ _).mp h2;exact⟨u+u',v+v',⟨u,v,h1,by rwa[show u+u'-u=u' by lia,show v+v'-v=v' by lia]⟩,by rwa[show x-(u+u')=x-u-u' by lia,show y-(v+v')=y-v-v' by lia]⟩
   ·rintro⟨u,v,⟨u',v',h1,h3⟩,h2⟩
    exact⟨u',v',h1,(l2 _ _).mpr ⟨u-u',v-v',h3,by rwa[show x-u'-(u-u')=x-u by lia,show y-v'-(v-v')=y-v by lia]⟩⟩)
 refine⟨q,?_,b1,fun x y=>by rw[b3,List.reverse_reverse]⟩;have ef:rG NS "parts" (ak 0) [.sh (aG N ps),.sh (ap p),.un]=some (jK ps):=by show (if NS.contains N then zf ["parts"] [jK ps] "parts" else none)=_;rw[Ts hN];rfl
 rw[List.map_reverse] at k1;have er:wR (ab (rG NS "parts" (ak 0)) aj) [.sh (aG N ps),.sh (ap p),.un]=some (ps.map mh).reverse:=by unfold wR ab aj;rw[ef];rfl
 have ex:df [.sh (aG N ps),.sh (ap p),.un]=some (.rt (ap q)):=by
  unfold df;have e1:cX (wR (ab (rG NS "parts" (ak 0)) aj)) (ag 2) cA [.sh (aG N ps),.sh (ap p),.un]=some (.nx [.sh (aG N ps),.sh (ap q),v2]):=by unfold cX;rw[er];exact k1
  rw[au e1];rfl
 exact ma (n:=3) (ds:=[aG N ps,ap p]) ex
def ya (N:Str)(hN:NS.contains N=true)(ps:List (List Blk))(hf:FOk ps)(hlo:Lf ps)(p:Pic)(c:am p)(hp:p.length<=1000)(hs:∀pre bs post,ps=pre++bs::post->∃n,Cov n (DW p pre)/\n<=1000/\aK bs * n<=10000) :
  ∃q:Pic,bz [aG N ps,ap p]=some (ap q)/\am q/\q.length<=p.length/\∀x y,aC q x y↔DW p ps x y:=by
 obtain⟨ρ',k1,q,v2,rfl,b1,b0,b3⟩:=a8 (g:=ag 2) (m:=bp) mh (fun pre ρ=>∃(q:Pic) (v2:Sl),ρ=[.sh (aG N ps),.sh (ap q),v2]/\am q/\q.length<=p.length/\∀x y,aC q x y↔DW p pre x y) ps [.sh (aG N ps),.sh (ap p),.un] ⟨p,_,rfl,c,TB _,fun x y=>⟨fun h u v ⟨hu,hv⟩=>by subst hu hv;simpa using h,fun h=>by simpa using h 0 0 ⟨rfl,rfl⟩⟩⟩ (by
  rintro pre bs post _ e ⟨q,v2,rfl,cq,lq,l2⟩;have hbs:=hf bs (by rw[e];simp);obtain⟨n,hcov,hn1,hn⟩:=hs _ _ _ e;have hl:=lm cq l2 hcov;have hp3:aK bs * (ah q).length<=aK bs * n:=Wz _ hl;obtain⟨q',c1,c2,c3,c4,c5⟩:=kG q cq bs hbs.1 hbs.2 () (fun z hz=>by have:=c7 hz;lia) (hlo bs (by rw[e];simp)) ();refine⟨_,[.sh (aG N ps),.sh (ap q'),.sh (mh bs)],rfl,.inl ?_,q',_,rfl,c2,(),fun x y=>?_⟩
  ·simp[bp,c1]
  ·rw[c5,ze];unfold DW;constructor
   ·intro h u v ho;obtain⟨u',v',h1,h2⟩:=(zO pre bs u v).mp ho;have:=(l2 _ _).mp (h _ _ h2) u' v' h1;rwa[show x+(u-u')+u'=x+u by lia,show y+(v-v')+v'=y+v by lia] at this
   ·intro h u v hu;rw[l2];intro u' v' h1;have:=h (u+u') (v+v') ((zO pre bs _ _).mpr ⟨u',v',h1,by rwa[show u+u'-u'=u by lia,show v+v'-v'=v by lia]⟩)
    rwa[show x+(u+u')=x+u+u' by lia,show y+(v+v')=y+v+v' by lia] at this)
 refine⟨q,?_,b1,b0,b3⟩;have ef:rG NS "parts" (ak 0) [.sh (aG N ps),.sh (ap p),.un]=some (jK ps):=by show (if NS.contains N then zf ["parts"] [jK ps] "parts" else none)=_;rw[Ts hN];rfl
 have ex:bJ [.sh (aG N ps),.sh (ap p),.un]=some (.rt (ap q)):=by
  unfold bJ;have e1:cX (xIt (rG NS "parts" (ak 0))) (ag 2) bp [.sh (aG N ps),.sh (ap p),.un]=some (.nx [.sh (aG N ps),.sh (ap q),v2]):=by unfold cX xIt;rw[ef];exact k1
  rw[au e1];rfl
 exact ma (n:=3) (ds:=[aG N ps,ap p]) ex
noncomputable def tH (gs:Pic)(t:Tri):Pic:=match gs.getLast? with
 |some g=>if g.1=t.1 then gs.dropLast++[(g.1,step g.2 t.2)] else gs++[(t.1,[t.2])]
 |none=>[(t.1,[t.2])]
def EE (t:Tri):tH [] t=[(t.1,[t.2])]:=rfl
def tI (gs:Pic)(g:Int×R)(t:Tri):tH (gs++[g]) t=if g.1=t.1 then gs++[(g.1,step g.2 t.2)] else gs++[g]++[(t.1,[t.2])]:=by unfold tH;simp
noncomputable def oo (ts:List Tri):Pic:=ts.foldl tH []
def wq (pre:List Tri)(t:Tri):oo (pre++[t])=tH (oo pre) t:=by unfold oo;rw[Wy];rfl
def KP (acc:R)(p:Int×Int):step acc p≠[]:=by
 rcases Uv acc with rfl|⟨t,q,rfl⟩
 ·rw[uK];simp
 ·rw[Uz,gE];split<;>simp
def AC {acc:R}{p q:Int×Int}(h:q∈step acc p):q.1=p.1\/∃q'∈acc,q'.1=q.1:=by
 rcases Uv acc with rfl|⟨t,z,rfl⟩
 ·rw[uK,Tv] at h;subst h;exact .inl rfl
 ·rw[Uz] at h ⊢;rw[gE] at h;split at h
  ·rcases TH.mp h with h|h
   ·exact .inr ⟨q,TK _ h,rfl⟩
   ·rw[Tv] at h;subst h;exact .inr ⟨z,by simp,rfl⟩
  ·rcases TH.mp h with h|h
   ·exact .inr ⟨q,h,rfl⟩
   ·rw[Tv] at h;subst h;exact .inl rfl
structure LOk (gs:Pic) (pre:List Tri):Prop where
 can:am gs
 mem:∀x y,aC gs x y↔iG pre x y
 fst:∀g∈gs,∀q∈g.2,∃t∈pre,t.1=g.1/\t.2.1=q.1
 row:∀g∈gs,∃t∈pre,t.1=g.1
 len:gs.length<=pre.length
 lens:∀g∈gs,g.2.length<=pre.length
def uQ (t:Tri)(x y:Int):iG [t] x y↔t.1=y/\t.2.1<=x/\x<=t.2.2:=by
 rw[wN];constructor
 ·rintro (h|⟨_,h,_⟩)
  ·exact h
  ·cases h
 ·exact .inl
def oA (q:Int×R)(x y:Int):aC [q] x y↔q.1=y/\Mem q.2 x:=by
 rw[bu];constructor
 ·rintro (h|h)
  ·exact h
  ·exact (bA _ _ h).elim
 ·exact .inl
def C8 (p:Int×Int)(x:Int):Mem [p] x↔p.1<=x/\x<=p.2:=by
 rw[mem_cons];constructor
 ·rintro (h|h)
  ·exact h
  ·exact (ba _ h).elim
 ·exact .inl
def vW {p:Int×Int}(h:p.1<=p.2):aV [p]:=canon_cons.mpr ⟨h,fun _ h=>(by cases h),gz⟩
def GU {gs:Pic}{pre:List Tri}{t:Tri}(o:LOk gs pre)(ht:t.2.1<=t.2.2)(hb:∀s∈pre,s.1<t.1\/(s.1=t.1/\s.2.1<=t.2.1)):LOk (tH gs t) (pre++[t]):=by
 have hle:∀g∈gs,g.1<=t.1:=fun g hg=>by obtain⟨s,hs,e⟩:=o.row g hg;have:=hb s hs;lia
 rcases Uv gs with rfl|⟨gs0,g,rfl⟩
 ·rw[EE];refine⟨pcanon_cons.mpr ⟨⟨vW ht,by simp⟩,fun _ h=>(by cases h),eA⟩,fun x y=>?_,fun g hg q hq=>?_,fun g hg=>?_,by simp,fun g hg=>?_⟩
  ·rw[oA,eK,<- o.mem,uQ,C8];exact⟨.inr,fun h=>h.elim (fun h=>(bA _ _ h).elim) id⟩
  ·rw[Tv] at hg;subst hg;rw[Tv] at hq;subst hq;exact⟨t,by simp,rfl,rfl⟩
  ·rw[Tv] at hg;subst hg;exact⟨t,by simp,rfl⟩
  ·rw[Tv] at hg;subst hg;simp
 ·rw[Uz] at o hle ⊢;rw[tI];have hg0:g∈gs0++[g]:=by simp
  have cg:=o.can.1 g hg0;have pw:=Ug.mp o.can.2;by_cases c:g.1=t.1
  ·rw[Ts c];have lo:∀q∈g.2,q.1<=t.2.1:=fun q hq=>by
    obtain⟨s,hs,e1,e2⟩:=o.fst g hg0 q hq;have:=hb s hs;lia
   obtain⟨s1,s2,s3⟩:=DG cg.1 (p:=t.2) ht lo;refine⟨⟨fun q hq=>?_,?_⟩,fun x y=>?_,fun g' hg q hq=>?_,fun g' hg=>?_,?_,fun g' hg=>?_⟩
   ·rcases TH.mp hq with hq|hq
    ·exact o.can.1 q (TK _ hq)
    ·rw[Tv] at hq;subst hq;exact⟨s1,KP _ _⟩
   ·refine Ug.mpr ⟨pw.1,Vv _ _,fun a ha b hb=>?_⟩;rw[Tv] at hb;subst hb;exact pw.2.2 a ha g (by simp)
   ·have:=o.mem x y;rw[eG,oA] at this;rw[eG,oA,eK,<- this,uQ];dsimp only;rw[s2 x];constructor
    ·rintro (h|⟨h1,h2|h2⟩)
     ·exact .inl (.inl h)
     ·exact .inl (.inr ⟨h1,h2⟩)
     ·exact .inr ⟨c.symm.trans h1,h2⟩
    ·rintro ((h|⟨h1,h2⟩)|⟨h1,h2⟩)
     ·exact .inl h
     ·exact .inr ⟨h1,.inl h2⟩
     ·exact .inr ⟨c.trans h1,.inr h2⟩
   ·rcases TH.mp hg with hg|hg
    ·obtain⟨s,hs,e⟩:=o.fst g' (TK _ hg) q hq;exact⟨s,TK _ hs,e⟩
    ·rw[Tv] at hg;subst hg;rcases AC hq with e|⟨q',hq',e⟩
     ·exact⟨t,by simp,c.symm,e.symm⟩
     ·obtain⟨s,hs,e1,e2⟩:=o.fst g hg0 q' hq';exact⟨s,TK _ hs,e1,e2.trans e⟩
   ·rcases TH.mp hg with hg|hg
    ·obtain⟨s,hs,e⟩:=o.row g' (TK _ hg);exact⟨s,TK _ hs,e⟩
    ·rw[Tv] at hg;subst hg;exact⟨t,by simp,c.symm⟩
   ·have:=o.len;rw[Tz] at this ⊢;rw[Tz];simp at this ⊢;lia
   ·rw[Tz,T4];rcases TH.mp hg with hg|hg
    ·have:=o.lens g' (TK _ hg);lia
    ·rw[Tv] at hg;subst hg;have:=o.lens g hg0;have:=AE g.2 t.2;dsimp only;lia
  ·rw[Tr c];have hlt:∀a∈gs0++[g],a.1<t.1:=fun a ha=>by
    have h1:=hle g hg0;rcases TH.mp ha with ha|ha
    ·have:=pw.2.2 a ha g (by simp);lia
    ·rw[Tv] at ha;subst ha;lia
   refine⟨⟨fun q hq=>?_,?_⟩,fun x y=>?_,fun g' hg q hq=>?_,fun g' hg=>?_,?_,fun g' hg=>?_⟩
   ·rcases TH.mp hq with hq|hq
    ·exact o.can.1 q hq
    ·rw[Tv] at hq;subst hq;exact⟨vW ht,by simp⟩
   ·refine Ug.mpr ⟨o.can.2,Vv _ _,fun a ha b hb=>?_⟩;rw[Tv] at hb;subst hb;exact hlt a ha
   ·rw[eG,o.mem,oA,eK,uQ,C8]
   ·rcases TH.mp hg with hg|hg
    ·obtain⟨s,hs,e⟩:=o.fst g' hg q hq;exact⟨s,TK _ hs,e⟩
    ·rw[Tv] at hg;subst hg;rw[Tv] at hq;subst hq;exact⟨t,by simp,rfl,rfl⟩
   ·rcases TH.mp hg with hg|hg
    ·obtain⟨s,hs,e⟩:=o.row g' hg;exact⟨s,TK _ hs,e⟩
    ·rw[Tv] at hg;subst hg;exact⟨t,by simp,rfl⟩
   ·have:=o.len;rw[Tz,Tz (bs:=[t])];simp at this ⊢;lia
   ·rw[Tz,T4];rcases TH.mp hg with hg|hg
    ·have:=o.lens g' hg;lia
    ·rw[Tv] at hg;subst hg;simp
theorem C3:∀(post pre:List Tri),(∀t∈pre++post,t.2.1<=t.2.2)->(pre++post).Pairwise (fun p q=>p.1<q.1\/(p.1=q.1/\p.2.1<=q.2.1))->LOk (oo pre) pre->LOk (oo (pre++post)) (pre++post)
 |[],pre,_,_,o=>by rw[Um];exact o
 |t::post,pre,h1,h2,o=>by
  have e:pre++t::post=(pre++[t])++post:=by simp
  rw[e] at h1 h2 ⊢;refine C3 post (pre++[t]) h1 h2 ?_;rw[wq];refine GU o (h1 t (by simp)) fun s hs=>?_;exact (Ug.mp (Ug.mp h2).1).2.2 s hs t (by simp)
def J5:LOk (oo []) []:=⟨eA,fun x y=>⟨fun h=>(bA _ _ h).elim,fun⟨_,h,_⟩=>(by cases h)⟩,fun _ h=>(by cases h),fun _ h=>(by cases h),TB _,fun _ h=>(by cases h)⟩
def Fn (ps:R):(j8 ps).Pairwise fun p q=>p.1<q.1\/(p.1=q.1/\p.2<=q.2):=by
 have h:=oI (ps.map tE);rw[<- nu,Ur] at h;refine h.imp fun {p q} e=>?_;have e':(if q.1=p.1 then (if q.2=p.2 then false else decide (q.2<p.2)) else decide (q.1<p.1))=false:=e;by_cases hq:q.1=p.1
 ·rw[Ts hq] at e';by_cases hr:q.2=p.2
  ·exact .inr ⟨hq.symm,()⟩
  ·rw[Tr hr] at e';have:=UO e';exact .inr ⟨hq.symm,()⟩
 ·rw[Tr hq] at e';have:=UO e';exact .inl ()
def sM (l:Xq)(z:D):fw (l++[z]) none (some (-1))=l:=by
 have h1:HT.sIx (l.length+1) (l.length+1) (some (-1))=l.length:=by unfold HT.sIx;simp;try lia
 have h0:HT.sIx (l.length+1) 0 none=0:=rfl;unfold fw;rw[Tz,T4,h0,h1];simp
def mE {e:XE}{d:D}{i:Nat}{ρ:M.Env}{gs:Xq}(h:e ρ=some d)(hi:ρ[i]?=some (owl gs))(hl:gs.length<LIM):fW i xPv (xSh e) ρ=some (.nx (ρ.set i (owl (gs++[d])))):=by
 have hl':(gs.map O.sh).length<LIM:=by rw[Tw];exact hl
 show _=some (Out.nx (ρ.set i (.ow (.lst ((gs++[d]).map O.sh)))));simp[fW,xPv,xSh,hi,h,dH,jh,hl]
def bQ {a:XE}{r:XA}{ρ:M.Env}{d:D}{ds:Xq}(h:a ρ=some d)(k:r ρ=some ds):ab a r ρ=some (d::ds):=by unfold ab;rw[h,k];rfl
def kO {f:D->D->Xr}{a b:XE}{ρ:M.Env}{x y z:D}(h:a ρ=some x)(k:b ρ=some y)(e:f x y=some z):xOp f a b ρ=some z:=by unfold xOp;rw[h,k];exact e
def Lx {a:XE}{ρ:M.Env}{b:Bool}(h:a ρ=some (.bl b)):xB a ρ=some b:=by unfold xB;rw[h];rfl
def nA {a:XA}{ρ:M.Env}{ds:Xq}(h:a ρ=some ds)(hl:ds.length<=LIM):aM a ρ=some (.tup ds):=by unfold aM;rw[h];simp[hl]
def Aq {e:XE}{ρ:M.Env}{i:Nat}{es:Xq}{x d:D}(h:e ρ=some d)(hi:ρ[i]?=some (owl (es++[x]))):qS i xPv (xUn dD (xC (.int 1))) e ρ=some (.nx (ρ.set i (owl (es++[d])))):=by show _=some (Out.nx (ρ.set i (.ow (.lst ((es++[d]).map O.sh)))));simp[qS,xPv,h,hi,oj]
def rT {c:XT}{m n:XS}{ρ:M.Env}(h:c ρ=some true):xIf c m n ρ=m ρ:=by unfold xIf;rw[h];rfl
def rF {c:XT}{m n:XS}{ρ:M.Env}(h:c ρ=some false):xIf c m n ρ=n ρ:=by unfold xIf;rw[h];rfl
noncomputable abbrev pL:XE:=xOp dIx (af 1) (xUn dD (xC (.int 1)))
noncomputable abbrev pR:XE:=xOp dIx pL (xC (.int 1))
noncomputable abbrev pQ:XE:=xOp dIx pR (xUn dD (xC (.int 1)))
noncomputable abbrev pA:XT:=xB (xOp (dEq false) (xCB mF (ab (af 1) aj)) (xC (.int 0)))
noncomputable abbrev pB:XT:=xB (xOp (dEq true) (xOp dIx pL (xC (.int 0))) (af 2))
noncomputable abbrev pN:XE:=aM (ab (aM (ab (ak 3) (ab (ak 3) aj))) aj)
noncomputable abbrev pF (s0:Sl)(c:Int×Int)(g:Pic)(y:Int)(r:R)(q:Int×Int):M.Env:=[s0,owl (g.map pyD++[pyD (y,r++[q])]),.sh (.int c.1),.sh (.int c.2)]
def Aa (s0:Sl)(gs:Pic)(c:Int×Int)(h:gs.length<=1000)(hg:∀g∈gs,g.2.length<=1000/\g.2≠[])(hm:∀g∈gs,g.1=c.1->∀q∈g.2,q.2<=c.2):fO [s0,owl (gs.map pyD),.sh (.int c.1),.sh (.int c.2)]=some (.nx [s0,owl ((tH gs (c.1,c.2,c.2)).map pyD),.sh (.int c.1),.sh (.int c.2)]):=by
 have l1:1<=LIM:=aH ();have l2:2<=LIM:=aH ();have nw:∀s:Sl,pN [s0,s,.sh (.int c.1),.sh (.int c.2)]=some (bm [(c.2,c.2)]):=fun s=>nA (bQ (nA (bQ rfl (bQ rfl rfl)) l2) rfl) l1;have nw2:∀s:Sl,aM (ab (ak 2) (ab pN aj)) [s0,s,.sh (.int c.1),.sh (.int c.2)]=some (pyD (c.1,[(c.2,c.2)])):=fun s=>nA (bQ rfl (bQ (nw s) rfl)) l2;have hlim:(gs.map pyD).length<LIM:=cO (by rw[Tw];lia);unfold fO;rcases Uv gs with rfl|⟨gs0,g,rfl⟩
 ·rw[rT (by simp),mE (nw2 _) rfl hlim];rfl
 ·rw[Uz] at *;rw[tI];rw[Ub,List.map_singleton] at *;obtain⟨hgl,hgn⟩:=hg g (by simp);have hmm:=hm g (by simp);have hne:¬(gs0.length:Int)+1=0:=()
  obtain⟨y,r⟩:=g;dsimp only at hgl hgn hmm ⊢;rcases Uv r with rfl|⟨r0,q,rfl⟩
  ·exact absurd rfl hgn
  rw[Uz] at *;rw[gE];have e0:pL (pF s0 c gs0 y r0 q)=some (pyD (y,r0++[q])):=kO (x:=.lst (gs0.map pyD++[pyD (y,r0++[q])])) (by simp) rfl (eR _ _);have er:(bm (r0++[q])) = .tup (r0.map prD++[prD q]):=by unfold bm;rw[Ub];rfl
  have e1:pR (pF s0 c gs0 y r0 q)=some (bm (r0++[q])):=kO e0 rfl rfl;have c0:pA (pF s0 c gs0 y r0 q)=some false:=by simp[hne]
  have c1:pB (pF s0 c gs0 y r0 q)=some (!decide (y=c.1)):=Lx (kO (kO (z:=.int y) e0 rfl rfl) rfl (by simp[dEq,eqD,okD];rfl));have c01:xOr pA pB (pF s0 c gs0 y r0 q)=some (!decide (y=c.1)):=by unfold xOr;rw[c0];exact c1
  by_cases hc:y=c.1
  ·rw[Ux hc] at c01;have hq:=hmm hc q (by simp);rw[Ts hc];subst hc;have e2:pQ (pF s0 c gs0 c.1 r0 q)=some (prD q):=kO (x:=.tup (r0.map prD++[prD q])) (by rw[e1,er]) rfl (eR _ _);have cg:xB (xOp dGt (af 3) (xOp a6 (xOp dIx pQ (xC (.int 1))) (xC (.int 1)))) (pF s0 c gs0 c.1 r0 q)=some (decide (c.2 > q.2+1)):=Lx (kO (y:=.int (q.2+1)) rfl (kO (x:=.int q.2) (kO e2 rfl rfl) rfl rfl) rfl);rw[rF c01];by_cases hx:c.2<=q.2+1
   ·rw[rF (by rw[cg,Uc ()]),Ts hx];have hr0:r0.length+1<=LIM:=aH (by rw[Tz] at hgl;simp at hgl;lia);have cl:=sM (r0.map prD) (prD q);have ea:xSl pR oW (qR (xUn dD (xC (.int 1)))) (pF s0 c gs0 c.1 r0 q)=some (.tup (r0.map prD)):=by
     unfold xSl;rw[e1,er];show some (D.tup (fw (r0.map prD++[prD q]) none (some (-1))))=_;rw[cl]
    have eb:aM (ab (aM (ab (xOp dIx pQ (xC (.int 0))) (ab (ak 3) aj))) aj) (pF s0 c gs0 c.1 r0 q)=some (.tup [prD (q.1,c.2)]):=nA (bQ (nA (bQ (kO e2 rfl rfl) (bQ rfl rfl)) l2) rfl) l1;have ec:a6 (.tup (r0.map prD)) (.tup [prD (q.1,c.2)])=some (bm (r0++[(q.1,c.2)])):=by unfold bm;simp[a6,hr0]
    rw[Aq (d:=pyD (c.1,r0++[(q.1,c.2)])) (nA (bQ rfl (bQ (kO ea eb ec) rfl)) l2) rfl];have e5:(if c.2 > q.2 then c.2 else q.2)=c.2:=by split<;>lia
    rw[e5,Ub];rfl
   ·rw[rT (by rw[cg,Ux ()]),Tr hx];have hr0:(r0++[q]).length+1<=LIM:=aH ();rw[Aq (d:=pyD (c.1,r0++[q]++[(c.2,c.2)])) (nA (bQ rfl (bQ (kO e1 (nw _) (by unfold bm;simp[a6] at hr0 ⊢;exact hr0)) rfl)) l2) rfl];rw[Ub];rfl
  ·rw[Uc hc] at c01;rw[Tr hc,rT c01,mE (nw2 _) rfl hlim,Ub (l₁:=gs0++_),Ub];rfl
def f8 (cs:R)(hl:cs.length<=1000):∃q:Pic,gD [.lst (cs.map prD)]=some (ap q)/\am q/\(∀x y,aC q x y↔(x,y)∈cs)/\(ah q).length<=cs.length:=by
 have l2:2<=LIM:=aH ();have hL:cs.length<=LIM:=aH ();have c1:aZ gx bP (aM (ab (ak 1) (ab (ak 0) aj))) [.un,.un] (cs.map prD)=some ((cs.map fun c=>(c.2,c.1)).map prD):=by rw[T5];exact aR prD _ cs fun c _=>by simp[dW,l2]
 have hb:=qB (cs.map fun c=>(c.2,c.1)) (by rw[Tw];lia);have hlex:=Fn (cs.map fun c=>(c.2,c.1));have hperm:=fH (cs.map fun c=>(c.2,c.1));generalize j8 (cs.map fun c=>(c.2,c.1))=sp at *;have hsl:sp.length=cs.length:=by have:=hperm.length_eq;rw[Tw] at this;lia
 have hok:∀pre post:R,sp=pre++post->LOk (oo (pre.map fun c=>(c.1,c.2,c.2))) (pre.map fun c=>(c.1,c.2,c.2)):=fun pre post e=>by
  have h2:(pre.map fun c:Int×Int=>((c.1,c.2,c.2):Tri)).Pairwise fun p q=>p.1<q.1\/(p.1=q.1/\p.2.1<=q.2.1):=by rw[Ur];rw[e] at hlex;exact (Ug.mp hlex).1
  have:=C3 (pre.map fun c:Int×Int=>((c.1,c.2,c.2):Tri)) [] (fun t ht=>by
   rw[VC] at ht;obtain⟨c,_,rfl⟩:=TC.mp ht
   exact T1 _) (by rw[VC];exact h2) J5
  rw[VC] at this;exact this
 obtain⟨ρ',k1,v2,v3,rfl⟩:=a8 (g:=aY NY) (m:=fO) prD (fun pre ρ=>∃v2 v3:Sl,ρ=[.sh (.lst (cs.map prD)),owl ((oo (pre.map fun c=>(c.1,c.2,c.2))).map pyD),v2,v3]) sp [.sh (.lst (cs.map prD)),.ow (.lst []),.un,.un] ⟨.un,.un,rfl⟩ fun pre c post ρ e hpt0=>by
  obtain⟨v2,v3,hρ⟩:=hpt0;subst hρ;have o:=hok pre (c::post) e;have hpl:pre.length<sp.length:=by rw[e,Tz,TF];lia
  have hlen:=o.len;rw[Tw] at hlen;have ht:=Aa (.sh (.lst (cs.map prD))) (oo (pre.map fun c=>(c.1,c.2,c.2))) c () (fun g hg=>⟨by have:=o.lens g hg;rw[Tw] at this;lia,(o.can.1 g hg).2⟩) fun g hg e1 q hq=>by obtain⟨t,ht,e2,e3,e4⟩:=(o.mem q.2 g.1).mp ⟨g,hg,rfl,q,hq,(o.can.1 g hg).1.1 q hq,T1 _⟩;obtain⟨d,hd,rfl⟩:=TC.mp ht;rw[e] at hlex;have:=(Ug.mp hlex).2.2 d hd c TD;dsimp only at e2 e3 e4;lia
  refine⟨_,_,rfl,.inl ht,.sh (.int c.1),.sh (.int c.2),?_⟩;rw[Ub,TQ,VW,wq]
 have o:=hok sp [] (by simp);have hm:∀x y,aC (oo (sp.map fun c=>(c.1,c.2,c.2))) x y↔(x,y)∈cs:=fun x y=>by
  rw[o.mem x y];constructor
  ·rintro⟨t,ht,e1,e2,e3⟩;obtain⟨c,hc,rfl⟩:=TC.mp ht;obtain⟨d,hd,e4⟩:=TC.mp (hperm.mem_iff.mp hc);subst e4;dsimp only at e1 e2 e3;have:d=(x,y):=by
    obtain⟨a,b⟩:=d;dsimp only at e1 e2 e3;rw[e1,show a=x by lia]
   rw[<- this];exact hd
  ·intro h;exact⟨(y,x,x),TC.mpr ⟨(y,x),hperm.mem_iff.mpr (TC.mpr ⟨(x,y),h,rfl⟩),rfl⟩,rfl,T1 _,T1 _⟩
 have hE:fh (sp.map fun c=>(c.1,c.2,c.2))=oo (sp.map fun c=>(c.1,c.2,c.2)):=ui o.can fun x y=>(o.mem x y).symm;refine⟨oo (sp.map fun c=>(c.1,c.2,c.2)),?_,o.can,hm,?_⟩
 ·show _=some (D.tup ((oo (sp.map fun c=>(c.1,c.2,c.2))).map pyD));clear hm hE o;generalize (oo (sp.map fun c=>(c.1,c.2,c.2))).map pyD=G at *;have hb':eS [.lst ((cs.map fun c=>(c.2,c.1)).map prD)]=some (sp.map prD):=hb;generalize (cs.map fun c=>(c.2,c.1)).map prD=CC at *;generalize sp.map prD=SP at *;have hrun:iX [.sh (.lst (cs.map prD)),.un,.un,.un]=some (.rt (.tup G)):=by
   simp[iX,hL,c1,hb',p0,k1]
  exact ma (n:=4) (ds:=[.lst (cs.map prD)]) hrun
 ·have:=jg (sp.map fun c=>(c.1,c.2,c.2));rw[hE,Tw] at this;lia
noncomputable abbrev kyC (c:Int×Int):XD:=[c.1,c.2]
def xz {c d:Int×Int}(h:kyC c=kyC d):c=d:=by
 injection h with a b
 injection b with b _
 exact UD a b
def CW (ks:R)(c:Int×Int):(ks.map kyC).contains (kyC c)=decide (c∈ks):=by
 by_cases h:c∈ks
 ·rw[Ux h];exact W6.mpr (TC.mpr ⟨c,h,rfl⟩)
 ·rw[Uc h];cases q:(ks.map kyC).contains (kyC c) with
  |false=>rfl
  |true=>obtain⟨u,hu,e⟩:=TC.mp (W6.mp q);rw[xz e] at hu;exact absurd hu h
def zm (ks:R)(x y:Int):(ks.map kyC).contains [x,y]=decide ((x,y)∈ks):=CW ks (x,y)
noncomputable def o3 (ks:R)(c:Int×Int):R:=if c∈ks then ks else ks++[c]
def Ji (ks:R)(c:Int×Int):yF (ks.map kyC) (kyC c)=(o3 ks c).map kyC:=by
 unfold yF o3;rw[CW];by_cases h:c∈ks
 ·rw[Ux h,Ts rfl,Ts h]
 ·rw[Uc h,Tr (by decide),Tr h,Ub];rfl
def su (ks:R)(x y:Int):yF (ks.map kyC) [x,y]=(o3 ks (x,y)).map kyC:=Ji ks (x,y)
def tU (ks:R)(c d:Int×Int):d∈o3 ks c↔d∈ks\/d=c:=by
 unfold o3;split
 ·constructor
  ·exact .inl
  ·rintro (h|rfl)
   ·exact h
   ·assumption
 ·rw[TH,Tv]
def mD {ks:R}(h:ks.Nodup)(c:Int×Int):(o3 ks c).Nodup:=by
 unfold o3;split
 ·exact h
 ·refine VA.mpr ⟨h,Uk.mpr ⟨(fun z=>by cases z),.nil⟩,fun a ha b hb e=>?_⟩;rw[Tv] at hb;subst hb e;contradiction
def sr (ks:R)(c:Int×Int):(o3 ks c).length<=ks.length+1:=by
 unfold o3;split
 ·lia
 ·rw[Tz];exact TB _
def wd {n:Nat}{x:XS}{ds:Xq}{o:O}(h:x (ds.map .sh++List.replicate (n-ds.length) .un)=some (.ro o)):fnO n x ds=some o:=by unfold fnO;rw[h]
def pz (cs:R):(cs.map kyC).map (fun k=>D.tup (k.map D.int))=cs.map prD:=by rw[T5];rfl
noncomputable def cG (c f:Int×Int):Int×Int:=(c.1+f.1,c.2+f.2)
def vj (cs fs:R)(hl:cs.length * fs.length<=50000)(hf:fs.length<=1000):∃gs:R,fS [.dif (cs.map kyC),.lst (fs.map prD)]=some (.dic (gs.map kyC))/\gs.Nodup/\gs.length<=cs.length * fs.length/\∀z,z∈gs↔∃c∈cs,∃f∈fs,z=cG c f:=by
 generalize hA:D.dif (cs.map kyC)=A;generalize hB:D.lst (fs.map prD)=B;have inner:∀(c:Int×Int) (g0:R) (v5 v6:Sl),g0.Nodup->g0.length+fs.length<=60000->∃(gs:R) (w5 w6:Sl),cX (xIt (ak 1)) (aY (ao (ag 5) (ao (ag 6) bf))) eN [.sh A,.sh B,.ow (.dic (g0.map kyC)),.sh (.int c.1),.sh (.int c.2),v5,v6]=some (.nx [.sh A,.sh B,.ow (.dic (gs.map kyC)),.sh (.int c.1),.sh (.int c.2),w5,w6])/\gs.Nodup/\gs.length<=g0.length+fs.length/\∀z,z∈gs↔z∈g0\/∃f∈fs,z=cG c f:=fun c g0 v5 v6 n0 l0=>by
  obtain⟨ρ',k1,gs,w5,w6,rfl,a1,a2,a3⟩:=a8 (g:=aY (ao (ag 5) (ao (ag 6) bf))) (m:=eN) prD (fun pre ρ=>∃(gs:R) (w5 w6:Sl),ρ=[.sh A,.sh B,.ow (.dic (gs.map kyC)),.sh (.int c.1),.sh (.int c.2),w5,w6]/\gs.Nodup/\gs.length<=g0.length+pre.length/\∀z,z∈gs↔z∈g0\/∃f∈pre,z=cG c f) fs [.sh A,.sh B,.ow (.dic (g0.map kyC)),.sh (.int c.1),.sh (.int c.2),v5,v6] ⟨g0,v5,v6,rfl,n0,by simp,fun z=>by simp⟩ (by
   rintro pre f post _ e ⟨gs,w5,w6,rfl,a1,a2,a3⟩;have hp:pre.length<fs.length:=by rw[e,Tz,TF];lia
   have hlim:(gs.map kyC).length<LIM:=cO (by rw[Tw];lia);have ha:=su gs (c.1+f.1) (c.2+f.2);have hal:=sr gs (c.1+f.1,c.2+f.2);have l2:2<=LIM:=aH ();refine⟨_,[.sh A,.sh B,.ow (.dic ((o3 gs (c.1+f.1,c.2+f.2)).map kyC)),.sh (.int c.1),.sh (.int c.2),.sh (.int f.1),.sh (.int f.2)],rfl,.inl ?_,_,_,_,rfl,mD a1 _,by rw[Tz,T4];lia,fun z=>?_⟩
   ·rw[<- ha];generalize gs.map kyC=ks at *;simp[eN,l2,kyD,aQ,hlim]
   ·rw[tU,a3];constructor
    ·rintro ((h|⟨g,hg,h⟩)|h)
     ·exact .inl h
     ·exact .inr ⟨g,TK _ hg,h⟩
     ·exact .inr ⟨f,by simp,h⟩
    ·rintro (h|⟨g,hg,h⟩)
     ·exact .inl (.inl h)
     ·rcases TH.mp hg with hg|hg
      ·exact .inl (.inr ⟨g,hg,h⟩)
      ·rw[Tv] at hg;subst hg
       exact .inr h)
  refine⟨gs,w5,w6,?_,a1,a2,a3⟩;unfold cX xIt ak;rw[<- hB] at k1 ⊢;exact k1
 obtain⟨ρ',k1,gs,w3,w4,w5,w6,rfl,a1,a2,a3⟩:=a8 (g:=aY Jc) (m:=gh) prD (fun pre ρ=>∃(gs:R) (w3 w4 w5 w6:Sl),ρ=[.sh A,.sh B,.ow (.dic (gs.map kyC)),w3,w4,w5,w6]/\gs.Nodup/\gs.length<=pre.length * fs.length/\∀z,z∈gs↔∃c∈pre,∃f∈fs,z=cG c f) cs [.sh A,.sh B,.ow (.dic []),.un,.un,.un,.un] ⟨[],.un,.un,.un,.un,rfl,.nil,by simp,fun z=>by simp⟩ (by
  rintro pre c post _ e ⟨gs,w3,w4,w5,w6,rfl,a1,a2,a3⟩;have hp:pre.length+1<=cs.length:=by rw[e,Tz,TF];lia
  have hm:=Vp fs.length hp;rw[Nat.succ_mul] at hm;obtain⟨g1,x5,x6,b1,b2,b3,b4⟩:=inner c gs w5 w6 a1 ();refine⟨_,[.sh A,.sh B,.ow (.dic (g1.map kyC)),.sh (.int c.1),.sh (.int c.2),x5,x6],rfl,.inl b1,g1,_,_,_,_,rfl,b2,by rw[Tz,T4,Nat.succ_mul];lia,fun z=>?_⟩;rw[b4,a3];constructor
  ·rintro (⟨d,hd,f,hf,h⟩|⟨f,hf,h⟩)
   ·exact⟨d,TK _ hd,f,hf,h⟩
   ·exact⟨c,by simp,f,hf,h⟩
  ·rintro⟨d,hd,f,hf,h⟩;rcases TH.mp hd with hd|hd
   ·exact .inl ⟨d,hd,f,hf,h⟩
   ·rw[Tv] at hd;subst hd
    exact .inr ⟨f,hf,h⟩)
 refine⟨gs,wd (n:=7) (ds:=[A,B]) ?_,a1,a2,a3⟩;show gR [.sh A,.sh B,.un,.un,.un,.un,.un]=_;unfold gR;rw[au (ρ':=[.sh A,.sh B,.ow (.dic []),.un,.un,.un,.un]) (by rfl)];have hw:uU 0 (aY Jc) gh [.sh A,.sh B,.ow (.dic []),.un,.un,.un,.un]=some (.nx [.sh A,.sh B,.ow (.dic (gs.map kyC)),w3,w4,w5,w6]):=by subst hA;unfold uU cX vF;show (some ((cs.map kyC).map fun k=>D.tup (k.map D.int))).bind _=_;rw[pz];exact k1
 rw[au hw];rfl
def dh {e:XE}{d:D}{i:Nat}{ρ:M.Env}(h:e ρ=some d):bw e (ag i) ρ=some (.nx (ρ.set i (.sh d))):=by unfold bw;rw[h];rfl
def fL {f:Xp}{a:XA}{ρ:M.Env}{ds:Xq}{d:D}(ha:a ρ=some ds)(h:f ds=some d):az f a ρ=some d:=by unfold az;rw[ha];exact h
def xG {N:Str}(hN:NS.contains N=true){ps:List (List Blk)}{m:Str}{f:Xp}{e:XE}{as:XA}{ρ:M.Env}{ds:Xq}{d:D}(hm:(["parts"]:XB).contains m=false) (h0:e ρ=some (aG N ps)) (ha:as ρ=some ds) (h:f (aG N ps::ds)=some d):qQ NS m f e as ρ=some d:=by unfold qQ;rw[h0,ha];show (if NS.contains N && !(["parts"]:XB).contains m then f (aG N ps::ds) else none)=_;rw[hN,hm];exact h
def zK {q:Pic}(c:am q)(h:∀x y,¬aC q x y):q=[]:=rV c eA fun x y=>⟨fun k=>(h x y k).elim,fun k=>(bA _ _ k).elim⟩
def mZ {p:Pic}:dEq true (ap p) (.tup [])=some (.bl (!decide (p=[]))):=by
 have:=fx p;unfold dEq at this ⊢;split at this
 ·rename_i h;rw[Ts h];have e:eqD (ap p) (.tup [])=decide (p=[]):=by simpa using this
  simp[e]
 ·cases this
structure LayM (N:Str) (ps:List (List Blk)) (X G C:Nat->Pic):Prop where
 hN:NS.contains N=true
 sm:∀k,bz [aG N ps,ap (X k)]=some (ap (X (k+1)))
 gr:∀k,cE [aG N ps,ap (X (k+1))]=some (ap (G k))
 ls:∀k,xE [ap (X k),ap (G k)]=some (ap (C k))
noncomputable def aU (C:Nat->Pic)(n:Nat):Xq:=(List.range n).map fun k=>ap (C k)
def qE (C:Nat->Pic)(n:Nat):aU C (n+1)=aU C n++[ap (C n)]:=by unfold aU;rw[List.range_succ,Ub];rfl
def fv (C:Nat->Pic)(n:Nat):(aU C n).length=n:=by unfold aU;simp
section
variable {N:Str}{ps:List (List Blk)}{X G C:Nat->Pic}
def jc (L:LayM N ps X G C){n m:Nat}(hn:n<=1000)(hm:n<=m)(e0:X n=[]\/n=m)(hne:∀k,k<n->X k≠[]):iJ [ap (X 0),aG N ps,.int (m:Int)]=some (.lst (aU C n++[ap (X n)])):=by
 have turn:∀j k,k+j=n->∀v5:Sl,∃v5',ci bD cS [.sh (ap (X 0)),.sh (aG N ps),.sh (.int (m:Int)),owl (aU C k),.sh (ap (X k)),v5]=some (.nx [.sh (ap (X 0)),.sh (aG N ps),.sh (.int (m:Int)),owl (aU C n),.sh (ap (X n)),v5']):=by
  intro j;induction j with
  |zero=>
   intro k hk v5;have:k=n:=()
   subst this;refine⟨v5,ii ?_⟩;have d:=mZ (p:=X k);have hl:=fv C k;generalize aU C k=cs at *;generalize aG N ps=F;generalize ap (X 0)=P0;rcases e0 with e0|e0
   ·rw[Ux e0] at d;generalize ap (X k)=Pk at *;simp[bD,d]
   ·have:¬((cs.length:Int)<m):=()
    generalize ap (X k)=Pk at *;cases hd:decide (X k=[])<;>rw[hd] at d<;>simp[bD,d,this]
  |succ j ih=>
   intro k hk v5;obtain⟨v',h⟩:=ih (k+1) () (.sh (ap (X (k+1))));refine⟨v',fX ?_ ?_ h⟩
   ·have:=mZ (p:=X k);rw[Uc (hne k ())] at this;have hl:=fv C k;have hkm:((aU C k).length:Int)<m:=()
    generalize aU C k=cs at *;generalize aG N ps=F;generalize ap (X 0)=P0;generalize ap (X k)=Pk at *;simp[bD,this,hkm]
   ·unfold cS;rw[au (dh (xG L.hN (ps:=ps) (ds:=[ap (X k)]) (by decide) rfl rfl (L.sm k)))];rw[au (mE (gs:=aU C k) (fL (bQ (d:=ap (X k)) rfl (bQ (xG L.hN (ps:=ps) (ds:=[ap (X (k+1))]) (by decide) rfl rfl (L.gr k)) rfl)) (L.ls k)) rfl (cO (by rw[fv];lia)))];rw[<- qE];rfl
 obtain⟨v',h⟩:=turn n 0 () .un;have ex:dN [.sh (ap (X 0)),.sh (aG N ps),.sh (.int (m:Int)),.un,.un,.un]=some (.rt (.lst (aU C n++[ap (X n)]))):=by
  unfold dN;rw[au (ρ':=[.sh (ap (X 0)),.sh (aG N ps),.sh (.int (m:Int)),owl [],.un,.un]) (by rfl)];rw[au (ρ':=[.sh (ap (X 0)),.sh (aG N ps),.sh (.int (m:Int)),owl [],.sh (ap (X 0)),.un]) (dh (d:=ap (X 0)) rfl)];have h':ci bD cS [.sh (ap (X 0)),.sh (aG N ps),.sh (.int (m:Int)),owl [],.sh (ap (X 0)),.un]=_:=h;rw[au h'];have hl:=fv C n;generalize aU C n=cs at *;have l1:1<=LIM:=aH ();have l2:cs.length+1<=LIM:=aH ();generalize aG N ps=F;generalize ap (X 0)=P0;generalize ap (X n)=Pn;have ha:a6 (.lst cs) (.lst [Pn])=some (.lst (cs++[Pn])):=by rw[Cp,Ts (by simpa using l2)]
  simp[l1,ha]
 exact ma (n:=6) (ds:=[ap (X 0),aG N ps,.int (m:Int)]) ex
end
def F6 (cs:Xq)(d:D):atI (cs++[d]) (-1)=some d:=by
 have q1:(1:Int)<=cs.length+1:=()
 have q2:(-1+((cs.length:Int)+1)).toNat=cs.length:=()
 simp[atI,ixN,q1,q2]
theorem vT:∀l:List Bool,gu (l.map D.bl)=some l
 |[]=>rfl
 |b::l=>by simp[gu,vT l]
def vk (cs fs:R)(hc:cs.length<=50000)(hf:fs.length<=1000)(hne:fs≠[]):∃gs:R,du [.dif (cs.map kyC),.lst (fs.map prD)]=some (.dic (gs.map kyC))/\gs.Nodup/\gs.length<=cs.length/\∀z,z∈gs↔∀f∈fs,cG z f∈cs:=by
 obtain⟨f0,fr,rfl⟩:=Xk hne;have l2:2<=LIM:=aH ();have hll:((f0::fr).map prD).length<=LIM:=aH (by rw[Tw];lia);have hat:atI ((f0::fr).map prD) 0=some (prD f0):=ft (j:=0) rfl;have hall:∀c:Int×Int,aZ gx bP (yo false (aM (ab (xOp a6 (xOp dJ (af 3) (xOp dIx (af 5) (xC (.int 0)))) (af 0)) (ab (xOp a6 (xOp dJ (af 4) (xOp dIx (af 5) (xC (.int 1)))) (af 1)) aj))) 2) [.un,.un,.sh (.dif (cs.map kyC)),.sh (.int c.1),.sh (.int c.2),.sh (prD f0)] ((f0::fr).map prD)=some ((((f0::fr).map fun f=>decide (cG (c.1-f0.1,c.2-f0.2) f∈cs))).map D.bl):=fun c=>by
  rw[T5];exact aR prD (D.bl∘fun f=>decide (cG (c.1-f0.1,c.2-f0.2) f∈cs)) (f0::fr) fun f _=>by have:=zm cs (c.1-f0.1+f.1) (c.2-f0.2+f.2);generalize cs.map kyC=ks at *;simp[-List.contains_eq_mem,dW,l2,kyD,aQ,jU,this,atI,ixN,cG];exact decide_eq_decide.mpr UC
 generalize hB:D.lst ((f0::fr).map prD)=B;obtain⟨ρ',k1,gs,w4,w5,rfl,a1,a2,a3⟩:=a8 (g:=aY (ao (ag 4) (ao (ag 5) bf))) (m:=cJ) prD (fun pre ρ=>∃(gs:R) (w4 w5:Sl),ρ=[.sh (.dif (cs.map kyC)),.sh B,.ow (.dic (gs.map kyC)),.sh (prD f0),w4,w5]/\gs.Nodup/\gs.length<=pre.length/\∀z,z∈gs↔cG z f0∈pre/\∀f∈f0::fr,cG z f∈cs) cs [.sh (.dif (cs.map kyC)),.sh B,.ow (.dic []),.sh (prD f0),.un,.un] ⟨[],.un,.un,rfl,.nil,by simp,fun z=>by simp⟩ (by
  rintro pre c post _ e ⟨gs,w4,w5,rfl,a1,a2,a3⟩;have hp:pre.length<cs.length:=by rw[e,Tz,TF];lia
  have hlim:(gs.map kyC).length<LIM:=cO (by rw[Tw];lia);have ha:=hall c;have hb:=vT ((f0::fr).map fun f=>decide (cG (c.1-f0.1,c.2-f0.2) f∈cs));have hpl:cG (c.1-f0.1,c.2-f0.2) f0=c:=by unfold cG;exact UD (by dsimp only;lia) (by dsimp only;lia)
  have key:∀z,cG z f0∈pre++[c]↔cG z f0∈pre\/z=(c.1-f0.1,c.2-f0.2):=fun z=>by
   rw[TH,Tv];constructor
   ·rintro (h|h)
    ·exact .inl h
    ·refine .inr (UD ?_ ?_)
     ·rw[<- h];unfold cG;dsimp only;lia
     ·rw[<- h];unfold cG;dsimp only;lia
   ·rintro (h|rfl)
    ·exact .inl h
    ·exact .inr hpl
  have hrun:∀(v:Bool),(((f0::fr).map fun f=>decide (cG (c.1-f0.1,c.2-f0.2) f∈cs)).all id)=v->cJ [.sh (.dif (cs.map kyC)),.sh B,.ow (.dic (gs.map kyC)),.sh (prD f0),.sh (.int c.1),.sh (.int c.2)]=some (.nx [.sh (.dif (cs.map kyC)),.sh B,.ow (.dic ((if v then o3 gs (c.1-f0.1,c.2-f0.2) else gs).map kyC)),.sh (prD f0),.sh (.int c.1),.sh (.int c.2)]):=fun v hv=>by
   have hak:=su gs (c.1-f0.1) (c.2-f0.2);have hbb:Jm [.lst ((((f0::fr).map fun f=>decide (cG (c.1-f0.1,c.2-f0.2) f∈cs))).map D.bl)]=some (.bl v):=by show (gu _).map _=_;rw[hb,<- hv];rfl
   subst hB;generalize (((f0::fr).map fun f=>decide (cG (c.1-f0.1,c.2-f0.2) f∈cs))).map D.bl=bl at *;generalize (f0::fr).map prD=fl at *;cases v
   ·rw[Tr (by decide)];generalize cs.map kyC=ck at *;generalize gs.map kyC=gk at *;simp[cJ,l2,hll,ha,hbb]
   ·rw[Ts rfl,<- hak];generalize cs.map kyC=ck at *;generalize gs.map kyC=gk at *;simp[cJ,l2,hll,ha,hbb,kyD,aQ,hlim,atI,ixN]
  by_cases hv:∀f∈f0::fr,cG (c.1-f0.1,c.2-f0.2) f∈cs
  ·have ht:(((f0::fr).map fun f=>decide (cG (c.1-f0.1,c.2-f0.2) f∈cs)).all id)=true:=by
    rw[VX];intro b hb;obtain⟨f,hf,rfl⟩:=TC.mp hb;exact Ux (hv f hf)
   have hal:=sr gs (c.1-f0.1,c.2-f0.2);refine⟨_,_,rfl,.inl (hrun true ht),o3 gs (c.1-f0.1,c.2-f0.2),_,_,rfl,mD a1 _,by rw[Tz,T4];lia,fun z=>?_⟩;rw[tU,a3,key];constructor
   ·rintro (⟨h1,h2⟩|rfl)
    ·exact⟨.inl h1,h2⟩
    ·exact⟨.inr rfl,hv⟩
   ·rintro⟨h1|h1,h2⟩
    ·exact .inl ⟨h1,h2⟩
    ·exact .inr h1
  ·have ht:(((f0::fr).map fun f=>decide (cG (c.1-f0.1,c.2-f0.2) f∈cs)).all id)=false:=by
    cases q:(((f0::fr).map fun f=>decide (cG (c.1-f0.1,c.2-f0.2) f∈cs)).all id) with
    |false=>rfl
    |true=>refine absurd (fun f hf=>?_) hv;have:=VX.mp q _ (TC.mpr ⟨f,hf,rfl⟩);exact UX this
   refine⟨_,_,rfl,.inl (hrun false ht),gs,_,_,rfl,a1,by rw[Tz,T4];lia,fun z=>?_⟩;rw[a3,key];constructor
   ·rintro⟨h1,h2⟩;exact⟨.inl h1,h2⟩
   ·rintro⟨h1|rfl,h2⟩
    ·exact⟨h1,h2⟩
    ·exact absurd h2 hv)
 refine⟨gs,wd (n:=6) (ds:=[.dif (cs.map kyC),B]) ?_,a1,a2,fun z=>by rw[a3];exact⟨fun h=>h.2,fun h=>⟨h f0 TD,h⟩⟩⟩;show gS [.sh (.dif (cs.map kyC)),.sh B,.un,.un,.un,.un]=_;unfold gS;rw[au (ρ':=[.sh (.dif (cs.map kyC)),.sh B,.ow (.dic []),.un,.un,.un]) (by rfl)];rw[au (ρ':=[.sh (.dif (cs.map kyC)),.sh B,.ow (.dic []),.sh (prD f0),.un,.un]) (dh (by
  subst hB;generalize (f0::fr).map prD=fl at *;generalize cs.map kyC=ck at *
  simp[hat]))]
 have hw:uU 0 (aY (ao (ag 4) (ao (ag 5) bf))) cJ [.sh (.dif (cs.map kyC)),.sh B,.ow (.dic []),.sh (prD f0),.un,.un]=some (.nx [.sh (.dif (cs.map kyC)),.sh B,.ow (.dic (gs.map kyC)),.sh (prD f0),w4,w5]):=by unfold uU cX vF;show (some ((cs.map kyC).map fun k=>D.tup (k.map D.int))).bind _=_;rw[pz];exact k1
 rw[au hw];rfl
theorem pP {α:Type}[DecidableEq α]:∀ {l m:List α},l.Nodup->(∀a∈l,a∈m)->l.length<=m.length
 |[],_,_,_=>T9 _
 |a::l,m,h,k=>by obtain⟨h1,h2⟩:=Uk.mp h;have hm:=k a TD;have ih:=pP (m:=m.erase a) h2 fun b hb=>(W7 (fun e=>h1 (by rw[<- e];exact hb))).mpr (k b (TJ _ hb));rw[W8 hm] at ih;have:=List.length_pos_of_mem hm;rw[TF];lia
def Hy {f a b:Int×Int}(h:cG a f=cG b f):a=b:=by unfold cG at h;obtain⟨h1,h2⟩:=WA h;exact UD () ()
def Fi {l:R}{d:Int×Int}(hd:d≠(0,0))(h:∀c∈l,cG c d∈l):l=[]:=by
 cases l with
 |nil=>rfl
 |cons c l=>
  exfalso;have it:∀n:Nat,(c.1+(n:Int) * d.1,c.2+(n:Int) * d.2)∈c::l:=fun n=>by
   induction n with
   |zero=>simp
   |succ n ih=>have:=h _ ih;unfold cG at this;dsimp only at this;rw[show c.1+((n+1:Nat):Int) * d.1=c.1+(n:Int) * d.1+d.1 by rw[WU,Int.add_mul];lia,show c.2+((n+1:Nat):Int) * d.2=c.2+(n:Int) * d.2+d.2 by rw[WU,Int.add_mul];lia];exact this
  have nd:((List.range ((c::l).length+1)).map fun n:Nat=>(c.1+(n:Int) * d.1,c.2+(n:Int) * d.2)).Nodup:=by
   rw[Wt,Ur];refine List.Pairwise.imp ?_ (List.pairwise_lt_range (n:=(c::l).length+1));intro a b hab e;obtain⟨e1,e2⟩:=WA e;have f1:((b:Int)-a) * d.1=0:=by rw[Int.sub_mul];lia
   have f2:((b:Int)-a) * d.2=0:=by rw[Int.sub_mul];lia
   rcases Int.mul_eq_zero.mp f1 with g|g
   ·lia
   rcases Int.mul_eq_zero.mp f2 with g' | g'
   ·lia
   exact hd (UD g g')
  have:=pP nd fun z hz=>by obtain⟨n,_,rfl⟩:=TC.mp hz;exact it n
  rw[Tw,VE] at this;lia
def Oq {s t fs:R}(ht:t.Nodup)(hm:∀z,z∈t↔∀f∈fs,cG z f∈s){f g:Int×Int}(hf:f∈fs)(hg:g∈fs)(hfg:f≠g)(hs:s≠[]):t.length<s.length:=by
 apply UJ;intro hn;refine hs (Fi (d:=(g.1-f.1,g.2-f.2)) (fun e=>hfg ?_) fun c hc=>?_)
 ·obtain⟨e1,e2⟩:=WA e;exact UD () ()
 ·have him:c∈t.map fun z=>cG z f:=by
   apply UJ;intro hno;have nd:(c::t.map fun z=>cG z f).Nodup:=Uk.mpr ⟨hno,by
    rw[Wt,Ur]
    exact (Wt.mp ht).imp fun h e=>h (Hy e)⟩
   have:=pP (m:=s) nd fun z hz=>by
    rcases TN.mp hz with rfl|hz
    ·exact hc
    ·obtain⟨y,hy,rfl⟩:=TC.mp hz;exact (hm y).mp hy f hf
   rw[TF,Tw] at this;lia
  obtain⟨z,hz,rfl⟩:=TC.mp him;have:=(hm z).mp hz g hg;have e:cG (cG z f) (g.1-f.1,g.2-f.2)=cG z g:=by unfold cG;exact UD (by dsimp only;lia) (by dsimp only;lia)
  rw[e];exact this
def sL {P:Int->Int->Prop}{l:R}(h:∀x y,P x y->(x,y)∈l){n:Nat}(hn:l.length<=n):Cov n P:=by
 classical
 refine⟨(l.filter fun c=>decide (P c.1 c.2)).map fun c=>(c.2,c.1,c.1),by rw[Tw];exact Ud (Vf _ _) hn,fun x y=>?_⟩;constructor
 ·rintro⟨t,ht,e,h1,h2⟩;obtain⟨c,hc,rfl⟩:=TC.mp ht;obtain⟨_,hp⟩:=Ui.mp hc;dsimp only at e h1 h2;have hp:=UX hp;rwa[show c.1=x by lia,e] at hp
 ·intro hp;exact⟨_,TC.mpr ⟨(x,y),Ui.mpr ⟨h x y hp,Ux hp⟩,rfl⟩,rfl,T1 _,T1 _⟩
structure FL (ps:List (List Blk)) (bs:List Blk) (fs:R):Prop where
 eq:ps=[bs]
 ok:FOk ps
 hi:bs.length<=12/\aK bs<=12
 mem:∀u v,Off ps u v↔(u,v)∈fs
 ne:fs≠[]
 le:fs.length<=6
structure SL (cs fs:R) (S O:Nat->R):Prop where
 s0:∀z,z∈S 0↔z∈cs
 sl:∀k,(S k).length<=56
 nd:∀k,(S k).Nodup
 ss:∀k z,z∈S (k+1)↔∀f∈fs,cG z f∈S k
 om:∀k z,z∈O k↔∃c∈S (k+1),∃f∈fs,z=cG c f
 ol:∀k,(O k).length<=336
section
variable {ps:List (List Blk)}{bs:List Blk}{fs cs:R}{N:Str}{S O:Nat->R}
def FL.one (f:FL ps bs fs){pre post:List (List Blk)}{c:List Blk}(e:ps=pre++c::post):pre=[]/\c=bs/\post=[]:=by
 rw[f.eq] at e;cases pre with
 |nil=>cases e;exact⟨rfl,rfl,rfl⟩
 |cons z pre=>have:=T7 List.length e;rw[TF,Tz,TF,TF,V6] at this;lia
def FL.lo (f:FL ps bs fs):Lf ps:=fun z hz=>by rw[f.eq,Tv] at hz;subst hz;have:=f.hi.1;lia
def FL.smaller (f:FL ps bs fs)(hN:NS.contains N=true){p:Pic}(c:am p)(h:Cov 56 (aC p)):∃q:Pic,bz [aG N ps,ap p]=some (ap q)/\am q/\∀x y,aC q x y↔DW p ps x y:=by
 have hl:=lm c (fun _ _=>UC) h;have hr:=lF c;obtain⟨q,a1,a2,a3,a4⟩:=ya N hN ps f.ok f.lo p c () fun pre c post e=>by obtain⟨rfl,rfl,rfl⟩:=f.one e;refine⟨56,h.congr fun u v=>⟨fun k u' v' ⟨e1,e2⟩=>by subst e1 e2;simpa using k,fun k=>by simpa using k 0 0 ⟨rfl,rfl⟩⟩,(),?_⟩;have:=f.hi.2;lia
 exact⟨q,a1,a2,a4⟩
def FL.greater (f:FL ps bs fs)(hN:NS.contains N=true){p:Pic}(c:am p)(h:Cov 56 (aC p)):∃q:Pic,cE [aG N ps,ap p]=some (ap q)/\am q/\∀x y,aC q x y↔GrF p ps x y:=
 xr N hN ps f.ok p c fun post c pre e=>by obtain⟨rfl,rfl,rfl⟩:=f.one e;refine⟨56,h.congr fun u v=>⟨fun k=>⟨0,0,⟨rfl,rfl⟩,by simpa using k⟩,fun⟨u',v',⟨e1,e2⟩,k⟩=>by subst e1 e2;simpa using k⟩,?_⟩;have:=f.hi.2;lia
def Dv (f:FL ps bs fs)(hN:NS.contains N=true)(sv:SL cs fs S O){p:Pic}(c:am p)(hp:∀x y,aC p x y↔(x,y)∈cs):∃X G C:Nat->Pic,X 0=p/\LayM N ps X G C/\(∀k,am (X k))/\(∀k x y,aC (X k) x y↔(x,y)∈S k)/\(∀k,am (C k))/\∀k x y,aC (C k) x y↔(x,y)∈S k/\(x,y)∉O k:=by
 have key:∀p:Pic,∃q:Pic,(am p/\Cov 56 (aC p))->bz [aG N ps,ap p]=some (ap q)/\am q/\∀x y,aC q x y↔DW p ps x y:=fun p=>by
  by_cases h:am p/\Cov 56 (aC p)
  ·obtain⟨q,a⟩:=f.smaller hN h.1 h.2;exact⟨q,fun _=>a⟩
  ·exact⟨[],fun k=>absurd k h⟩
 obtain⟨F,hF⟩:=WB.mp key;have key2:∀p:Pic,∃q:Pic,(am p/\Cov 56 (aC p))->cE [aG N ps,ap p]=some (ap q)/\am q/\∀x y,aC q x y↔GrF p ps x y:=fun p=>by
  by_cases h:am p/\Cov 56 (aC p)
  ·obtain⟨q,a⟩:=f.greater hN h.1 h.2;exact⟨q,fun _=>a⟩
  ·exact⟨[],fun k=>absurd k h⟩
 obtain⟨Gf,hG⟩:=WB.mp key2
 let X:Nat->Pic:=fun k=>Nat.rec p (fun _ q=>F q) k
 have cv:∀k,(∀x y,aC (X k) x y↔(x,y)∈S k)->Cov 56 (aC (X k)):=fun k h=>sL (fun x y=>(h x y).mp) (sv.sl k);have hX:∀k,am (X k)/\∀x y,aC (X k) x y↔(x,y)∈S k:=fun k=>by
  induction k with
  |zero=>exact⟨c,fun x y=>(hp x y).trans (sv.s0 (x,y)).symm⟩
  |succ k ih=>
   obtain⟨a1,a2,a3⟩:=hF (X k) ⟨ih.1,cv k ih.2⟩;refine⟨a2,fun x y=>?_⟩;rw[show X (k+1)=F (X k) from rfl,a3,sv.ss];constructor
   ·intro h g hg;exact (ih.2 _ _).mp (h g.1 g.2 ((f.mem _ _).mpr hg))
   ·intro h u v ho;exact (ih.2 _ _).mpr (h (u,v) ((f.mem _ _).mp ho))
 have hGk:∀k,cE [aG N ps,ap (X (k+1))]=some (ap (Gf (X (k+1))))/\am (Gf (X (k+1)))/\∀x y,aC (Gf (X (k+1))) x y↔(x,y)∈O k:=fun k=>by
  obtain⟨b1,b2,b3⟩:=hG (X (k+1)) ⟨(hX (k+1)).1,cv (k+1) (hX (k+1)).2⟩;refine⟨b1,b2,fun x y=>?_⟩;rw[b3,sv.om];constructor
  ·rintro⟨u,v,h1,h2⟩;exact⟨(x-u,y-v),((hX (k+1)).2 _ _).mp h2,(u,v),(f.mem _ _).mp h1,by unfold cG;exact UD (by dsimp only;lia) (by dsimp only;lia)⟩
  ·rintro⟨w,h1,g,h2,e⟩;obtain⟨e1,e2⟩:=WA e;refine⟨g.1,g.2,(f.mem _ _).mpr h2,((hX (k+1)).2 _ _).mpr ?_⟩;rwa[show x-g.1=w.1 by lia,show y-g.2=w.2 by lia]
 refine⟨X,fun k=>Gf (X (k+1)),fun k=>leP (X k) (Gf (X (k+1))),rfl,⟨hN,fun k=>(hF (X k) ⟨(hX k).1,cv k (hX k).2⟩).1,fun k=>(hGk k).1,fun k=>?_⟩,fun k=>(hX k).1,fun k=>(hX k).2,fun k=>EF (hX k).1 (hGk k).2.1,fun k x y=>by rw[JU (hX k).1 (hGk k).2.1,(hX k).2,(hGk k).2.2]⟩;have h1:=lm (hX k).1 (fun _ _=>UC) (cv k (hX k).2);have h2:=lF (hX k).1;have h3:=lm (hGk k).2.1 (fun _ _=>UC) (sL (fun x y=>((hGk k).2.2 x y).mp) (sv.ol k));have h4:=lF (hGk k).2.1;exact EI (hGk k).2.1 () () ()
end
noncomputable abbrev nr:D:=.mtp [.mtp [.int 0,.int 0]]
noncomputable abbrev dG:D:=.mtp [.mtp [.int 0,nr]]
noncomputable abbrev zT:D:=.tup [.tup [.int 0,nr]]
def Jq {f:Xp}{a:XA}{ρ:M.Env}{ds:Xq}(ha:a ρ=some ds)(h:f ds=none):az f a ρ=none:=by unfold az;rw[ha];exact h
def LN {e:XE}{g:XG}{ρ:M.Env}(h:e ρ=none):bw e g ρ=none:=by unfold bw;rw[h];rfl
def gM {y:XGs}{l:Xq}{ρ:M.Env}:aY y (.mtp l) ρ=y l ρ:=rfl
def iM {l:Xq}{i:Int}:dIx (.mtp l) (.int i)=atI l i:=rfl
def Ip (lo hi:Int):bZ [nr,.int lo,.int hi]=bZ [.tup [.tup [.int 0,.int 0]],.int lo,.int hi]:=rfl
def Gc {P:D}(hP:P=dG\/P=zT\/P=ap pU)(b:Blk):aX [P,aO b]=(aq [.lst [.tup [.int (0-b.2.1),bm (shr [(0,0)] b.1 b.2.2.1)]]]).bind fun q=>b9 [q,.int (b.2.2.2-b.2.1)]:=by
 have r2:bZ [.tup [.tup [.int 0,.int 0]],.int b.1,.int b.2.2.1]=some (bm (shr [(0,0)] b.1 b.2.2.1)):=jY [(0,0)] b.1 b.2.2.1 (by show 1<=1000;decide);have r1:bZ [nr,.int b.1,.int b.2.2.1]=some (bm (shr [(0,0)] b.1 b.2.2.1)):=by rw[Ip];exact r2
 have l1:1<=LIM:=aH ();have l2:2<=LIM:=aH ();have hc:xL (bB [none,none,some 1] (xIt (af 0)) gx bP FI) [.sh P,.sh (aO b),.un]=some (.lst [.tup [.int (0-b.2.1),bm (shr [(0,0)] b.1 b.2.2.1)]]):=by
  generalize bm (shr [(0,0)] b.1 b.2.2.1)=Rr at *;have go:∀z:D,(z = .mtp [.int 0,nr]\/z = .tup [.int 0,nr]\/z = .tup [.int 0,.tup [.tup [.int 0,.int 0]]])->aZ gx bP FI [.un,.un,.sh (aO b)] [z]=some [.tup [.int (0-b.2.1),Rr]]:=fun z hz=>by
   refine aR (fun _:Unit=>z) (fun _=>D.tup [.int (0-b.2.1),Rr]) [Unit.unit] fun _ _=>?_;rcases hz with rfl|rfl|rfl
   ·simp[dW,gM,r1,l2,atI,ixN]
   ·simp[dW,r1,l2,atI,ixN]
   ·simp[dW,r2,l2,atI,ixN]
  have fin:∀z,aZ gx bP FI [.un,.un,.sh (aO b)] [z]=some [.tup [.int (0-b.2.1),Rr]]->Option.map D.lst (if [z].length<=LIM then aZ gx bP FI [.un,.un,.sh (aO b)] [z] else none)=some (.lst [.tup [.int (0-b.2.1),Rr]]):=fun z h=>by rw[Ts (show [z].length<=LIM from l1),h];rfl
  rcases hP with rfl|rfl|rfl
  ·exact fin _ (go _ (.inl rfl))
  ·exact fin _ (go _ (.inr (.inl rfl)))
  ·exact fin _ (go _ (.inr (.inr rfl)))
 have hd:∀v,ab (ak 2) (ab (xOp dJ (xOp dIx (af 1) (xC (.int 3))) (xOp dIx (af 1) (xC (.int 1)))) aj) [.sh P,.sh (aO b),.sh v]=some [v,.int (b.2.2.2-b.2.1)]:=fun v=>by simp[atI,ixN]
 generalize bm (shr [(0,0)] b.1 b.2.2.1)=Rr at *;show (fnO 3 a7 [P,aO b]).map O.d=_;have e:a7 [.sh P,.sh (aO b),.un]=((aq [.lst [.tup [.int (0-b.2.1),Rr]]]).bind fun q=>b9 [q,.int (b.2.2.2-b.2.1)]).map .rt:=by
  unfold a7;cases q:aq [.lst [.tup [.int (0-b.2.1),Rr]]] with
  |none=>
   have hn:bw (az aq (ab (xL (bB [none,none,some 1] (xIt (af 0)) gx bP FI)) aj)) (ag 2) [.sh P,.sh (aO b),.un]=none:=by exact LN (Jq (bQ hc rfl) q)
   unfold aE;rw[hn];rfl
  |some v=>rw[au (ρ':=[.sh P,.sh (aO b),.sh v]) (dh (fL (bQ hc rfl) q))];unfold b7 az;rw[hd v];rfl
 unfold fnO;rw[show [P,aO b].map Sl.sh++List.replicate (3 - [P,aO b].length) Sl.un=[.sh P,.sh (aO b),.un] from rfl,e];cases (aq [.lst [.tup [.int (0-b.2.1),Rr]]]).bind fun q=>b9 [q,.int (b.2.2.2-b.2.1)] with
 |none=>rfl
 |some v=>simp
def Oj {P:D}(hP:P=dG\/P=zT)(b:Blk):aX [P,aO b]=aX [ap pU,aO b]:=by rw[Gc (P:=P) (by rcases hP with h|h<;>simp[h]),Gc (P:=ap pU) (.inr (.inr rfl))]
def CO {z:D}(hz:dIx z (.int 0)=some (.int 0))(x:Int):c6 [.mtp [z],.int x]=some (.int (if 0<=x then 1 else 0)):=by
 have at0:atI [z] 0=some z:=rfl;have ex:cY [.sh (.mtp [z]),.sh (.int x),.un,.un,.un]=some (.rt (.int (if 0<=x then 1 else 0))):=by
  unfold cY;rw[au (ρ':=[.sh (.mtp [z]),.sh (.int x),.sh (.int 0),.un,.un]) (by rfl),au (ρ':=[.sh (.mtp [z]),.sh (.int x),.sh (.int 0),.sh (.int 1),.un]) (by rfl)];by_cases h:0<=x
  ·rw[au (ρ':=[.sh (.mtp [z]),.sh (.int x),.sh (.int 1),.sh (.int 1),.sh (.int 0)]) (fX (by rfl) (ρ2:=[.sh (.mtp [z]),.sh (.int x),.sh (.int 1),.sh (.int 1),.sh (.int 0)]) (by simp[bC,iM,at0,hz,h]) (ii (by rfl)))];rw[Ts h];rfl
  ·rw[au (ρ':=[.sh (.mtp [z]),.sh (.int x),.sh (.int 0),.sh (.int 0),.sh (.int 0)]) (fX (by rfl) (ρ2:=[.sh (.mtp [z]),.sh (.int x),.sh (.int 0),.sh (.int 0),.sh (.int 0)]) (by simp[bC,iM,at0,hz,h]) (ii (by rfl)))];rw[Tr h];rfl
 exact ma (n:=5) (ds:=[.mtp [z],.int x]) ex
def CD {z:D}(hz:dIx z (.int 0)=some (.int 0))(f g:Int):aJ [.mtp [z],.int f,.int g]=some (.mtp (if 0<=g then [z] else [])):=by
 have c1:=CO hz f;have c2:=CO hz g;have ex:bU [.sh (.mtp [z]),.sh (.int f),.sh (.int g)]=some (.rt (.mtp (if 0<=g then [z] else []))):=by
  have k1:∀i:Int,fw [z] (some (if 0<i-1 then i-1 else 0)) (some 1)=[z]\/1<i:=fun i=>by
   by_cases h:1<i
   ·exact .inr h
   ·left;rw[Tr ()];rfl
  by_cases hf:0<=f<;>by_cases hg:0<=g<;>simp only[hf,hg,UE,Uf] at c1 c2 ⊢ <;> simp[bU,c1,c2,dSl,sD,fw,HT.sIx]
 exact ma (n:=3) (ds:=[.mtp [z],.int f,.int g]) ex
def Fe (x0 y0 x1 y1:Int)(b:Blk):fB [dG,.tup [.int x0,.int y0,.int x1,.int y1],aO b]=some (.tup [])\/fB [dG,.tup [.int x0,.int y0,.int x1,.int y1],aO b]=some zT:=by
 have b1:=CD (z:=.mtp [.int 0,nr]) rfl (y0+b.2.1) (y1+b.2.2.2);have b2:=CD (z:=.mtp [.int 0,.int 0]) rfl (x0+b.1) (x1+b.2.2.1);have l1:1<=LIM:=aH ();have l2:2<=LIM:=aH ();have r0:aq [.lst []]=some (.tup []):=by simp[aq,bq,fnO,bg,aZ]
 have r1:aq [.lst [.tup [.int 0,.mtp []]]]=some (.tup []):=by have d:dEq true (.mtp []) (.tup [])=some (.bl false):=rfl;simp[aq,bq,fnO,bg,aZ,d,l1,l2]
 have r2:aq [.lst [.tup [.int 0,nr]]]=some zT:=by have d:dEq true nr (.tup [])=some (.bl true):=rfl;simp[aq,bq,fnO,bg,aZ,d,l1,l2]
 have r2':aq [.lst [.tup [.int 0,.mtp [.mtp [.int 0,.int 0]]]]]=some zT:=r2;have go:∀l,aJ [nr,.int (x0+b.1),.int (x1+b.2.2.1)]=some (.mtp l)->aZ gx bP P7 [.un,.un,.sh (.tup [.int x0,.int y0,.int x1,.int y1]),.sh (aO b)] [.mtp [.int 0,nr]]=some [.tup [.int 0,.mtp l]]:=fun l hb=>by refine aR (fun _:Unit=>.mtp [.int 0,nr]) (fun _=>D.tup [.int 0,.mtp l]) [Unit.unit] fun _ _=>?_;generalize nr=rm at *;simp[dW,gM,hb,l2,atI,ixN]
 have st1:∀r n,aJ [dG,.int (y0+b.2.1),.int (y1+b.2.2.2)]=some r->aE (bw (az aJ (ab (ak 0) (ab (xOp a6 (xOp dIx (af 1) (xC (.int 1))) (xOp dIx (af 2) (xC (.int 1)))) (ab (xOp a6 (xOp dIx (af 1) (xC (.int 3))) (xOp dIx (af 2) (xC (.int 3)))) aj)))) (ag 3)) n [.sh dG,.sh (.tup [.int x0,.int y0,.int x1,.int y1]),.sh (aO b),.un]=n [.sh dG,.sh (.tup [.int x0,.int y0,.int x1,.int y1]),.sh (aO b),.sh r]:=fun r n h=>by generalize dG=om at *;rw[au (dh (d:=r) (by simp[atI,ixN,h]))];rfl
 have fin:∀r,eF [.sh dG,.sh (.tup [.int x0,.int y0,.int x1,.int y1]),.sh (aO b),.un]=some (.rt r)->fB [dG,.tup [.int x0,.int y0,.int x1,.int y1],aO b]=some r:=fun r h=>ma (n:=4) (ds:=[dG,.tup [.int x0,.int y0,.int x1,.int y1],aO b]) h;by_cases h1:0<=y1+b.2.2.2
 ·rw[Ts h1] at b1;by_cases h2:0<=x1+b.2.2.1
  ·rw[Ts h2] at b2;right;have g:=go _ b2;refine fin _ ?_;unfold eF;rw[st1 _ _ b1];generalize dG=om at *;generalize zT=ox at *;generalize nr=rm at *;generalize aO b=bd at *;generalize D.tup [.int x0,.int y0,.int x1,.int y1]=bx at *;simp[p0,l1,g,r2']
  ·rw[Tr h2] at b2;left;have g:=go _ b2;refine fin _ ?_;unfold eF;rw[st1 _ _ b1];generalize dG=om at *;generalize nr=rm at *;generalize aO b=bd at *;generalize D.tup [.int x0,.int y0,.int x1,.int y1]=bx at *;simp[p0,l1,g,r1]
 ·rw[Tr h1] at b1;left;refine fin _ ?_;unfold eF;rw[st1 _ _ b1];generalize dG=om at *;generalize aO b=bd at *;generalize D.tup [.int x0,.int y0,.int x1,.int y1]=bx at *;simp[p0,aZ,r0]
def JC {b:Blk}(hb:BOk b){x y:Int}(h:DZ (aC pU) b x y):x = -b.1/\y = -b.2.1:=by have:=(ud _ _).mp (h b.1 b.2.1 ⟨T1 _,hb.1,T1 _,hb.2⟩);lia
def DF {r:D}(hr:r = .tup []\/r=dG\/r=zT){b:Blk}(hb:BOk b)(hh:b8 b<=100):∃q:Pic,aX [r,aO b]=some (ap q)/\am q/\∀x y,aC q x y->DZ (aC pU) b x y:=by
 obtain⟨n,hn⟩:∃n:Nat,b.2.2.2-b.2.1=n:=⟨(b.2.2.2-b.2.1).toNat,by have:=hb.2;lia⟩
 have eh:b8 b=2 * n+1:=by unfold b8;rw[hn];simp
 rcases hr with rfl|hr
 ·obtain⟨q,w1,w2,_,_,w5⟩:=bR [] eA b hb n hn (by simp) (by simp[ah]) (fun _ h=>by cases h);exact⟨q,w1,w2,fun x y h=>(bA _ _ ((w5 x y).mp h b.1 b.2.1 ⟨T1 _,hb.1,T1 _,hb.2⟩)).elim⟩
 ·obtain⟨q,w1,w2,_,_,w5⟩:=bR pU BQ b hb n hn (by show 1<=1000;decide) (by show (2 * n+1) * 1<=10000;lia) (fun z h=>by rw[Tv.mp h];show 1<=1000;decide);exact⟨q,by rw[Oj hr];exact w1,w2,fun x y=>(w5 x y).mp⟩
def Dj {q:Pic}(c:am q){b:Blk}(hb:BOk b)(h:∀x y,aC q x y->DZ (aC pU) b x y):(ah q).length<=1:=
 lm c (fun _ _=>UC) (sL (l:=[(-b.1,-b.2.1)]) (fun x y k=>by obtain⟨e1,e2⟩:=JC hb (h x y k);rw[e1,e2];simp) (TB _))
def MG {bs:List Blk}(hne:bs≠[])(hb:∀b∈bs,BOk b)(hh:aK bs<=100)(hl:bs.length<=100):∃q:Pic,bj [dG,.tup (bs.map aO)]=some (ap q)/\am q/\∀x y,aC q x y->yx pU bs x y:=by
 obtain⟨cs,b0,rfl⟩:∃cs b0,bs=cs++[b0]:=by
  rcases Uv bs with h|⟨cs,b0,h⟩
  ·exact absurd h hne
  ·exact⟨cs,b0,by rw[h,Uz]⟩
 have hi:∀b∈cs++[b0],b8 b<=100:=fun b hb=>by obtain⟨u,v,e⟩:=List.append_of_mem hb;rw[e,bF] at hh;have:aK (b::v)=b8 b+aK v:=rfl;lia
 have ok0:BOk b0:=hb b0 (by simp);obtain⟨q0,w1,w2,w3⟩:=DF (r:=dG) (.inr (.inl rfl)) ok0 (hi b0 (by simp));have ec:fw ((cs++[b0]).map aO) none (some (-1))=cs.map aO:=by rw[Ub];exact sM _ _
 have at1:atI ((cs++[b0]).map aO) (-1)=some (aO b0):=by rw[Ub];exact eR _ _
 obtain⟨o,k1,k2⟩:=pE (g:=ag 3) (m:=aI) aO (fun pre ρ=>∃(q:Pic) (v3:Sl),ρ=[.sh dG,.sh (.tup ((cs++[b0]).map aO)),.sh (ap q),v3]/\am q/\∀x y,aC q x y->yx pU (pre++[b0]) x y)
  (fun d=>d = .tup []) (fun _=>False) cs [.sh dG,.sh (.tup ((cs++[b0]).map aO)),.sh (ap q0),.un]
  ⟨q0,_,rfl,w2,fun x y h b hb=>by rw[VC,Tv] at hb;subst hb;exact w3 x y h⟩ (by
  rintro pre b post _ e ⟨q,v3,rfl,cq,mq⟩;have hbm:b∈cs:=by rw[e];simp
  have okb:BOk b:=hb b (TK _ hbm);by_cases hq0:q=[]
  ·subst hq0;refine⟨_,.rt (.tup []),rfl,?_,rfl⟩;have d0:=fx [];rw[Ux rfl] at d0;generalize (cs++[b0]).map aO=bl;simp[aI,d0]
  ·have lq:=Dj cq ok0 fun x y h=>mq x y h b0 (by simp);have rq:=lF cq;obtain⟨x0,y0,x1,y1,hbox,_⟩:=qM q cq hq0 ();obtain⟨r,er,hr⟩:∃r,fB [dG,.tup [.int x0,.int y0,.int x1,.int y1],aO b]=some r/\(r = .tup []\/r=dG\/r=zT):=by
    rcases Fe x0 y0 x1 y1 b with h|h
    ·exact⟨_,h,.inl rfl⟩
    ·exact⟨_,h,.inr (.inr rfl)⟩
   obtain⟨q1,s1,s2,s3⟩:=DF hr okb (hi b (TK _ hbm));have l1:=Dj s2 okb s3;have r1:=lF s2;have hc:=kB (p:=q) (q:=q1) s2 () () ();have d0:=fx q;rw[Uc hq0] at d0;refine⟨_,.nx [.sh dG,.sh (.tup ((cs++[b0]).map aO)),.sh (ap (cmP q q1)),.sh (aO b)],rfl,?_,cmP q q1,_,rfl,o8 cq s2,fun x y h b' hb'=>?_⟩
   ·generalize (cs++[b0]).map aO=bl;generalize aO b=bd at *;generalize ap q=qd at *;generalize dG=om at *;simp[aI,d0,hbox,er,s1,hc]
   ·obtain⟨h1,h2⟩:=(xh cq s2 x y).mp h;rcases TH.mp hb' with h' | h'
    ·rcases TH.mp h' with h' | h'
     ·exact mq x y h1 b' (TK _ h')
     ·rw[Tv.mp h'];exact s3 x y h2
    ·exact mq x y h1 b' (TV _ h'))
 have hlim:(cs++[b0]).length<=LIM:=aH ();generalize hbl:(cs++[b0]).map aO=Bs at *;generalize hom:dG=om at *;cases o with
 |nx ρ'=>
  rcases k2 with ⟨q,v3,rfl,cq,mq⟩|h
  ·refine⟨q,?_,cq,mq⟩;simp[bj,br,fnO,bh,at1,w1,dSl,ec,p0,k1]
  ·exact h.elim
 |rt d=>
  have k2:d = .tup []:=k2;subst k2;refine⟨[],?_,eA,fun x y h=>(bA _ _ h).elim⟩;simp[bj,br,fnO,bh,at1,w1,dSl,ec,p0,k1]
 |ct _|bk _|ro _=>exact k2.elim
def GY {g:XG}{m:XS}{d:D}{ρ ρ1 ρ2:M.Env}(h1:g d ρ=some ρ1)(h2:m ρ1=some (.nx ρ2)):cD g m [d] ρ=some (.nx ρ2):=by rw[tO,h1];dsimp only[Option.bind];rw[h2];rfl
def no_one {bs:List Blk}{N:Str}(hN:NS.contains N=true)(hne:bs≠[])(hb:∀b∈bs,BOk b)(hh:aK bs<=100)(hl:bs.length<=100){u v u' v':Int}(h1:wX bs u v)(h2:wX bs u' v')(hn:(u,v)≠(u',v')):eW [aG N [bs]]=some (.bl false):=by
 obtain⟨q,a1,a2,a3⟩:=MG hne hb hh hl;have e:q=[]:=zK a2 fun x y h=>by have h':=(ze _ _ _ _).mp (a3 x y h);have e1:=(ud _ _).mp (h' u v h1);have e2:=(ud _ _).mp (h' u' v' h2);exact hn (UD (by dsimp only;lia) (by dsimp only;lia))
 subst e;have hs:bz [aG N [bs],dG]=some (.tup []):=by
  have ex:bJ [.sh (aG N [bs]),.sh dG,.un]=some (.rt (.tup [])):=by
   have ef:rG NS "parts" (ak 0) [.sh (aG N [bs]),.sh dG,.un]=some (jK [bs]):=by unfold rG;show (if NS.contains N=true then _ else _)=_;rw[Ts hN];rfl
   unfold bJ;have hf:cX (xIt (rG NS "parts" (ak 0))) (ag 2) bp [.sh (aG N [bs]),.sh dG,.un]=some (.nx [.sh (aG N [bs]),.sh (.tup []),.sh (mh bs)]):=by unfold cX xIt;rw[ef];refine GY (g:=ag 2) (m:=bp) (d:=mh bs) (ρ:=[.sh (aG N [bs]),.sh dG,.un]) (ρ1:=[.sh (aG N [bs]),.sh dG,.sh (mh bs)]) rfl ?_;exact dh (fL (ds:=[dG,mh bs]) rfl a1)
   rw[au hf];rfl
  exact ma (n:=3) (ds:=[aG N [bs],dG]) ex
 have em:qQ NS "smaller" bz (ak 0) (ab (xC dG) aj) [.sh (aG N [bs])]=some (.tup []):=xG hN (ps:=[bs]) (ds:=[dG]) (by decide) rfl rfl hs;have ex:dg [.sh (aG N [bs])]=some (.rt (.bl false)):=by have em':=em;unfold dg b7 xOp;rw[em];rfl
 exact ma (n:=1) (ds:=[aG N [bs]]) ex
section
variable {ps:List (List Blk)}{bs:List Blk}{fs cs:R}{N:Str}{S O:Nat->R}
theorem FL.no_one (f:FL ps bs fs)(hN:NS.contains N=true){a b:Int×Int}(ha:a∈fs)(hb:b∈fs)(hab:a≠b):eW [aG N ps]=some (.bl false):=by
 have ok:=f.ok bs (by rw[f.eq];simp);have h1:=(f.mem a.1 a.2).mpr ha;have h2:=(f.mem b.1 b.2).mpr hb;have e1:∀x y,Off [bs] x y->wX bs x y:=fun x y=>by show (∃u v,wX bs u v/\(x-u=0/\y-v=0))->_;rintro⟨u,v,h,e1,e2⟩;rwa[show x=u by lia,show y=v by lia]
 rw[f.eq] at h1 h2 ⊢;exact P.no_one hN ok.1 ok.2 (by have:=f.hi.2;lia) (by have:=f.hi.1;lia) (e1 _ _ h1) (e1 _ _ h2) hab
end
def OJ (Q:Nat->Prop):∀m,Q m->∃n,n<=m/\Q n/\∀k,k<n->¬Q k:=fun m=>by
 induction m using Nat.strongRecOn with
 |ind m ih=>
  intro h;by_cases e:∃k,k<m/\Q k
  ·obtain⟨k,h1,h2⟩:=e;obtain⟨n,a,b,c⟩:=ih k h1 h2;exact⟨n,(),b,c⟩
  ·exact⟨m,TB _,h,fun k hk q=>e ⟨k,hk,q⟩⟩
theorem C0 (ok:R):∀sk:R,sk.filterMap (fun c=>if c∈ok then none else some (prD c))=(sk.filter fun c=>!decide (c∈ok)).map prD
 |[]=>rfl
 |c::t=>by
  rw[Uq,WS,C0 ok t];by_cases h:c∈ok
  ·simp[h]
  ·simp[h]
def EB (A B:D)(sk ok:R)(w3 v4 v5:Sl)(hs:sk.length<=1000):bB [none,some 6] (vF 2) (ag 0) (xB (yo true (ak 0) 1)) (ak 0) [.sh A,.sh B,.sh (.dif (sk.map kyC)),w3,v4,v5,.sh (.dif (ok.map kyC))]=some ((sk.filter fun c=>!decide (c∈ok)).map prD):=by
 unfold bB;show (some ((sk.map kyC).map fun k=>D.tup (k.map D.int))).bind _=_;rw[pz];dsimp only[Option.bind];rw[Ts (aH (by rw[Tw];lia))];show aZ _ _ _ [.un,.sh (.dif (ok.map kyC))] (sk.map prD)=_;rw[i6 prD (fun c=>if c∈ok then none else some (prD c)) sk fun c _=>?_,C0];have:=zm ok c.1 c.2;generalize ok.map kyC=ks at *;by_cases h:c∈ok
 ·rw[Ux (show (c.1,c.2)∈ok from h)] at this;simp[-List.contains_eq_mem,dW,kyD,aQ,jU,this,h]
 ·rw[Uc (show ¬(c.1,c.2)∈ok from h)] at this;simp[-List.contains_eq_mem,dW,kyD,aQ,jU,this,h]
def kE (cs fs:R)(hc:cs.length<=56)(hf:fs.length<=6){f g:Int×Int}(hf1:f∈fs)(hg1:g∈fs)(hfg:f≠g):∃(S O:Nat->R) (n:Nat) (C:Nat->Pic),SL cs fs S O/\n<=56/\S n=[]/\(∀k,k<n->S k≠[])/\(∀k,am (C k))/\(∀k x y,aC (C k) x y↔(x,y)∈S k/\(x,y)∉O k)/\zA [.lst (cs.map prD),.lst (fs.map prD)]=some (.lst (aU C n)):=by
 have hne:fs≠[]:=fun e=>by rw[e] at hf1;cases hf1
 have hSm:∀l:R,∃g:R,l.length<=56->du [.dif (l.map kyC),.lst (fs.map prD)]=some (.dic (g.map kyC))/\g.Nodup/\g.length<=l.length/\∀z,z∈g↔∀f∈fs,cG z f∈l:=fun l=>by
  by_cases h:l.length<=56
  ·obtain⟨g,a⟩:=vk l fs () () hne;exact⟨g,fun _=>a⟩
  ·exact⟨[],fun k=>absurd k h⟩
 have hGr:∀l:R,∃g:R,l.length<=56->fS [.dif (l.map kyC),.lst (fs.map prD)]=some (.dic (g.map kyC))/\g.length<=336/\∀z,z∈g↔∃c∈l,∃f∈fs,z=cG c f:=fun l=>by
  by_cases h:l.length<=56
  ·have hml:=Nat.mul_le_mul h hf;obtain⟨g,a1,a2,a3,a4⟩:=vj l fs () ();exact⟨g,fun _=>⟨a1,(),a4⟩⟩
  ·exact⟨[],fun k=>absurd k h⟩
 obtain⟨sm,hsm⟩:=WB.mp hSm;obtain⟨gr,hgr⟩:=WB.mp hGr;generalize hA:D.lst (cs.map prD)=A;generalize hB:D.lst (fs.map prD)=B at *;obtain⟨ρ1,k1,s0,w3,rfl,a1,a2,a3⟩:=a8 (g:=ag 3) (m:=ju) prD (fun pre ρ=>∃(s0:R) (w3:Sl),ρ=[.sh A,.sh B,.ow (.dic (s0.map kyC)),w3,.un,.un,.un]/\s0.Nodup/\s0.length<=pre.length/\∀z,z∈s0↔z∈pre) cs [.sh A,.sh B,.ow (.dic []),.un,.un,.un,.un] ⟨[],.un,rfl,.nil,by simp,fun z=>by simp⟩ (by
  rintro pre c post _ e ⟨s0,w3,rfl,a1,a2,a3⟩;have hp:pre.length<cs.length:=by rw[e,Tz,TF];lia
  have hlim:(s0.map kyC).length<LIM:=cO (by rw[Tw];lia);have ha:=su s0 c.1 c.2;have hal:=sr s0 (c.1,c.2);refine⟨[.sh A,.sh B,.ow (.dic (s0.map kyC)),.sh (prD c),.un,.un,.un],[.sh A,.sh B,.ow (.dic ((o3 s0 (c.1,c.2)).map kyC)),.sh (prD c),.un,.un,.un],rfl,.inl ?_,_,_,rfl,mD a1 _,by rw[Tz,T4];lia,fun z=>?_⟩
  ·rw[<- ha];generalize s0.map kyC=ks at *;simp[ju,kyD,aQ,hlim]
  ·rw[tU,a3,TH,Tv])
 let S:Nat->R:=fun k=>Nat.rec s0 (fun _ l=>sm l) k
 have hS:∀k,(S k).length<=56/\(S k).Nodup:=fun k=>by
  induction k with
  |zero=>exact⟨Ud a2 hc,a1⟩
  |succ k ih=>obtain⟨_,b2,b3,_⟩:=hsm (S k) ih.1;exact⟨Ud b3 ih.1,b2⟩
 have sv:SL cs fs S fun k=>gr (S (k+1)):=⟨a3,fun k=>(hS k).1,fun k=>(hS k).2,fun k z=>(hsm (S k) (hS k).1).2.2.2 z,fun k z=>(hgr (S (k+1)) (hS (k+1)).1).2.2 z,fun k=>(hgr (S (k+1)) (hS (k+1)).1).2.1⟩
 have hP:∀k,∃q:Pic,gD [.lst (((S k).filter fun c=>!decide (c∈gr (S (k+1)))).map prD)]=some (ap q)/\am q/\∀x y,aC q x y↔(x,y)∈S k/\(x,y)∉gr (S (k+1)):=fun k=>by obtain⟨q,b1,b2,b3,_⟩:=f8 ((S k).filter fun c=>!decide (c∈gr (S (k+1)))) (by have:=Vf (fun c=>!decide (c∈gr (S (k+1)))) (S k);have:=(hS k).1;lia);refine⟨q,b1,b2,fun x y=>?_⟩;rw[b3,Ui];simp
 obtain⟨C,hC⟩:=WB.mp hP;have hdown:∀k,(∀j,j<k->S j≠[])->(S k).length+k<=56:=fun k=>by
  induction k with
  |zero=>intro _;have:=(hS 0).1;lia
  |succ k ih=>intro h;have h1:=ih fun j hj=>h j ();have h2:=Oq (hS (k+1)).2 (sv.ss k) hf1 hg1 hfg (h k ());lia
 obtain⟨m,hm,em⟩:∃m,m<=56/\S m=[]:=by apply UJ;intro hn;have hall:∀j,j<=56->S j≠[]:=fun j hj e=>hn ⟨j,hj,e⟩;have:=hdown 56 fun j hj=>hall j ();exact hall 56 (TB _) (U8.mp ())
 obtain⟨n,hn,en,hno⟩:=OJ (fun k=>S k=[]) m em;refine⟨S,_,n,C,sv,(),en,hno,fun k=>(hC k).2.1,fun k=>(hC k).2.2,?_⟩;have body:∀k v2,(v2 = .ow (.dic ((S k).map kyC))\/v2 = .sh (.dif ((S k).map kyC)))->k<n->∀w5 w6:Sl,fk [.sh A,.sh B,v2,w3,owl (aU C k),w5,w6]=some (.nx [.sh A,.sh B,.sh (.dif ((S (k+1)).map kyC)),w3,owl (aU C (k+1)),.sh (.dif ((S (k+1)).map kyC)),.sh (.dif ((gr (S (k+1))).map kyC))]):=fun k v2 hv hk w5 w6=>by
  have f1:=(hsm (S k) (hS k).1).1;have f2:=(hgr (S (k+1)) (hS (k+1)).1).1;have f3:=(hC k).1;have hcl:=fv C k;have c3:=EB A B (S k) (gr (S (k+1))) w3 (owl (aU C k)) (.sh (.dif ((S (k+1)).map kyC))) (by have:=(hS k).1;lia);have f1':du [.dif ((S k).map kyC),B]=some (.dic ((S (k+1)).map kyC)):=f1;rw[qE];generalize aU C k=gs at *;generalize (S (k+1)).map kyC=s1 at *;generalize (gr (S (k+1))).map kyC=g1 at *;generalize (((S k).filter fun c=>!decide (c∈gr (S (k+1)))).map prD)=fl at *;generalize (S k).map kyC=sk at *;generalize ap (C k)=Pk at *;unfold fk;rw[au (ρ':=[.sh A,.sh B,.sh (.dif sk),w3,owl gs,.ow (.dic s1),w6]) (by
   rcases hv with rfl|rfl
   ·show (du [.dif sk,B]).map _=_;rw[f1'];rfl
   ·show (du [.dif sk,B]).map _=_;rw[f1']
    rfl)]
  rw[au (ρ':=[.sh A,.sh B,.sh (.dif sk),w3,owl gs,.sh (.dif s1),.ow (.dic g1)]) (by
   show (fS [.dif s1,B]).map _=_;rw[f2]
   rfl)]
  rw[au (ρ':=[.sh A,.sh B,.sh (.dif sk),w3,owl (gs++[Pk]),.sh (.dif s1),.sh (.dif g1)]) (by
   have hx:az gD (ab (xL (bB [none,some 6] (vF 2) (ag 0) (xB (yo true (ak 0) 1)) (ak 0))) aj) [.sh A,.sh B,.sh (.dif sk),w3,owl gs,.sh (.dif s1),.sh (.dif g1)]=some Pk:=fL (ds:=[.lst fl]) (bQ (by unfold xL;rw[c3];rfl) rfl) f3
   exact mE (i:=4) (gs:=gs) hx rfl (cO ()))]
  rfl
 have turn:∀j k,k+j=n->∀v2,(v2 = .ow (.dic ((S k).map kyC))\/v2 = .sh (.dif ((S k).map kyC)))->∀w5 w6:Sl,∃v2' w5' w6',ci fm fk [.sh A,.sh B,v2,w3,owl (aU C k),w5,w6]=some (.nx [.sh A,.sh B,v2',w3,owl (aU C n),w5',w6']):=by
  intro j;induction j with
  |zero=>
   intro k hk v2 hv w5 w6;have:k=n:=()
   subst this;refine⟨v2,w5,w6,ii ?_⟩;have e0:S k=[]:=en;rw[e0] at hv;generalize aU C k=gs;rcases hv with rfl|rfl<;>simp[fm,jU]
  |succ j ih=>
   intro k hk v2 hv w5 w6;obtain⟨v2',w5',w6',h⟩:=ih (k+1) () _ (.inr rfl) (.sh (.dif ((S (k+1)).map kyC))) (.sh (.dif ((gr (S (k+1))).map kyC)));refine⟨v2',w5',w6',fX ?_ (body k v2 hv () w5 w6) h⟩;have hpos:0<((S k).map kyC).length:=by rw[Tw];exact List.length_pos_iff.mpr (hno k ())
   generalize aU C k=gs;generalize (S k).map kyC=sk at *;rcases hv with rfl|rfl<;>simp[fm,jU,hpos]
 obtain⟨v2',w5',w6',h⟩:=turn n 0 () _ (.inl rfl) .un .un;have ex:iW [.sh A,.sh B,.un,.un,.un,.un,.un]=some (.ro (.lst ((aU C n).map O.sh))):=by
  unfold iW;rw[au (ρ':=[.sh A,.sh B,.ow (.dic []),.un,.un,.un,.un]) (by rfl)];rw[au (ρ':=[.sh A,.sh B,.ow (.dic (s0.map kyC)),w3,.un,.un,.un]) (by
   subst hA;unfold cX xIt ak
   exact k1)]
  rw[au (ρ':=[.sh A,.sh B,.ow (.dic (s0.map kyC)),w3,owl [],.un,.un]) (by rfl)];have h':ci fm fk [.sh A,.sh B,.ow (.dic (s0.map kyC)),w3,owl [],.un,.un]=_:=h;rw[au h'];rfl
 have:=wd (n:=7) (ds:=[A,B]) ex;show (fnO 7 iW [A,B]).map O.d=_;rw[this];generalize aU C n=l;simp
def jq (ns:XD)(k:Nat):∃v:Int,bi [.scr (ns.map D.int),.int (k:Int)]=some (.int v):=by
 by_cases h:k<ns.length
 ·have h':(k:Int)<ns.length:=()
  have ac:atI (ns.map D.int) (k:Int)=some (.int ns[k]):=ft (by rw[TX,Ua h];rfl);exact⟨ns[k],by simp[bi,iz,fnO,gQ,h',ac]⟩
 ·have h':¬(k:Int)<ns.length:=()
  exact⟨0,by simp[bi,iz,fnO,gQ,h']⟩
def M5 (n:Nat)(hn:n<=1000):Kx [D.int (n:Int)]=some ((List.range' 0 n).map fun i:Nat=>D.int (i:Int)):=by show ifC _ _ _=_;rw[d7 ()];show some (gY 0 n)=_;rw[GP,List.range_eq_range']
def Fl {a j:Int}(h0:0<=a)(h1:a<1000000)(h2:0<=j)(h3:j<1000000):Builtin.Range.small a j 7=true:=by
 have e1:0<=Builtin.Range.rangeSize a j 7/\Builtin.Range.rangeSize a j 7<1000000:=by unfold Builtin.Range.rangeSize;rw[Ts (by decide)];split<;>lia
 unfold Builtin.Range.small;generalize Builtin.Range.rangeSize a j 7=n at e1;simp only[Builtin.Range.rangeFitsLong,UM,Bool.or_eq_true,decide_eq_true_eq,UK,show (7:Int) > 0 by decide,UE];have e:(2:Int) ^ 63=9223372036854775808:=by decide
 lia
def xA (ns:XD)(hn:ns.length<=63)(k:Nat)(hk:k<7)(s1 s2 s3 v6 v7:Sl)(bits:Int):∃bits' v6',cX (DR (ab (xOp a6 (xC (.int 14)) (af 4)) (ab (xCB qA (ab (xCB mF (ab (af 0) aj)) (ab (xC (.int 99)) aj))) (ab (xC (.int 7)) aj)))) (ag 6) (gI) [.sh (.scr (ns.map D.int)),s1,s2,s3,.sh (.int k),.sh (.int bits),v6,v7]=some (.nx [.sh (.scr (ns.map D.int)),s1,s2,s3,.sh (.int k),.sh (.int bits'),v6',v7]):=by
 have hr:HV [.int (14+(k:Int)),.int (ns.length:Int),.int 7]=some (uL (14+(k:Int)) 7 (Builtin.Range.rangeSize (14+(k:Int)) ns.length 7).toNat):=d7 ⟨by decide,by decide,Fl () () () ()⟩;have hmin:¬(99:Int)<ns.length:=()
 obtain⟨ρ',k1,b',v',rfl⟩:=a8 (g:=ag 6) (m:=gI) (fun i:Nat=>D.int (14+(k:Int)+(i:Int) * 7)) (fun pre ρ=>∃b' v',ρ=[.sh (.scr (ns.map D.int)),s1,s2,s3,.sh (.int k),.sh (.int b'),v',v7]) (List.range (Builtin.Range.rangeSize (14+(k:Int)) ns.length 7).toNat) [.sh (.scr (ns.map D.int)),s1,s2,s3,.sh (.int k),.sh (.int bits),v6,v7] ⟨_,_,rfl⟩ (by
  rintro pre i post _ e ⟨b',v',rfl⟩;have hi:i<(Builtin.Range.rangeSize (14+(k:Int)) ns.length 7).toNat:=Us.mp (by rw[e];simp);have hb:14+k+i * 7<ns.length:=by unfold Builtin.Range.rangeSize at hi;rw[Ts (by decide)] at hi;split at hi<;>lia
  have ea:atI (ns.map D.int) (14+(k:Int)+(i:Int) * 7)=some (.int ns[14+k+i * 7]):=by have:=ft (l:=ns.map D.int) (j:=14+k+i * 7) (x:=.int ns[14+k+i * 7]) (by rw[TX,Ua hb];rfl);rw[<- this];congr 1
  have hm:sN (.int 5) (.int ns[14+k+i * 7])=some (.int (5 * ns[14+k+i * 7])):=d7 (.inl (by decide))
  exact⟨[.sh (.scr (ns.map D.int)),s1,s2,s3,.sh (.int k),.sh (.int b'),.sh (.int (14+(k:Int)+(i:Int) * 7)),v7],[.sh (.scr (ns.map D.int)),s1,s2,s3,.sh (.int k),.sh (.int (b'+5 * ns[14+k+i * 7] % 256)),.sh (.int (14+(k:Int)+(i:Int) * 7)),v7],rfl,.inl (by simp[gI,ea,hm]),_,_,rfl⟩)
 refine⟨b',v',?_⟩;unfold uL at hr;simp[hmin,hr,k1]
def tR (ns:XD)(hn:ns.length<=63)(x y:Int):∃cs:R,zz [.scr (ns.map D.int),.int x,.int y]=some (.lst (cs.map prD))/\cs.length<=56:=by
 have l2:2<=LIM:=aH ();have hr7:=M5 7 ();have hr8:=M5 8 ();have row:∀(k:Nat) (c0:R) (bits:Int) (v6 v7:Sl),c0.length<=1000->∃(c1:R) (b':Int) (w7:Sl),cX (yp (ab (xC (.int 8)) aj)) (ag 7) d9 [.sh (.scr (ns.map D.int)),.sh (.int x),.sh (.int y),owl (c0.map prD),.sh (.int (k:Int)),.sh (.int bits),v6,v7]=some (.nx [.sh (.scr (ns.map D.int)),.sh (.int x),.sh (.int y),owl (c1.map prD),.sh (.int (k:Int)),.sh (.int b'),v6,w7])/\c1.length<=c0.length+8:=fun k c0 bits v6 v7 h0=>by
  obtain⟨ρ',k1,c1,b',w7,rfl,a1⟩:=a8 (g:=ag 7) (m:=d9) (fun i:Nat=>D.int (i:Int)) (fun pre ρ=>∃(c1:R) (b':Int) (w7:Sl),ρ=[.sh (.scr (ns.map D.int)),.sh (.int x),.sh (.int y),owl (c1.map prD),.sh (.int (k:Int)),.sh (.int b'),v6,w7]/\c1.length<=c0.length+pre.length) (List.range' 0 8) [.sh (.scr (ns.map D.int)),.sh (.int x),.sh (.int y),owl (c0.map prD),.sh (.int (k:Int)),.sh (.int bits),v6,v7] ⟨c0,bits,v7,rfl,by simp⟩ (by
   rintro pre i post _ e ⟨c1,b',w7,rfl,a1⟩;have hp:pre.length<8:=by have:=T7 List.length e;rw[VG,Tz,TF] at this;lia
   have hlim:c1.length<LIM:=cO ();by_cases hb:b' % 2=1\/b' / 512 % 2=1
   ·refine⟨[.sh (.scr (ns.map D.int)),.sh (.int x),.sh (.int y),owl (c1.map prD),.sh (.int (k:Int)),.sh (.int b'),v6,.sh (.int (i:Int))],[.sh (.scr (ns.map D.int)),.sh (.int x),.sh (.int y),owl ((c1++[(x+(i:Int),y+(k:Int))]).map prD),.sh (.int (k:Int)),.sh (.int (b' / 2)),v6,.sh (.int (i:Int))],rfl,.inl ?_,_,_,_,rfl,by rw[Tz,Tz,T4,T4];lia⟩;by_cases h1:b' % 2=1
    ·simp[d9,h1,l2,hlim]
    ·have h2:=hb.resolve_left h1;simp[d9,h1,h2,l2,hlim]
   ·have h1:¬b' % 2=1:=fun h=>hb (.inl h);have h2:¬b' / 512 % 2=1:=fun h=>hb (.inr h)
    exact⟨[.sh (.scr (ns.map D.int)),.sh (.int x),.sh (.int y),owl (c1.map prD),.sh (.int (k:Int)),.sh (.int b'),v6,.sh (.int (i:Int))],[.sh (.scr (ns.map D.int)),.sh (.int x),.sh (.int y),owl (c1.map prD),.sh (.int (k:Int)),.sh (.int (b' / 2)),v6,.sh (.int (i:Int))],rfl,.inl (by simp[d9,h1,h2]),_,_,_,rfl,by rw[Tz,T4];lia⟩)
  rw[VG] at a1;refine⟨c1,b',w7,?_,a1⟩;unfold cX;show (Kx [.int ((8:Nat):Int)]).bind _=_;rw[hr8];exact k1
 obtain⟨ρ',k1,cs,w4,w5,w6,w7,rfl,a1⟩:=a8 (g:=ag 4) (m:=gJ) (fun i:Nat=>D.int (i:Int)) (fun pre ρ=>∃(cs:R) (w4 w5 w6 w7:Sl),ρ=[.sh (.scr (ns.map D.int)),.sh (.int x),.sh (.int y),owl (cs.map prD),w4,w5,w6,w7]/\cs.length<=8 * pre.length) (List.range' 0 7) [.sh (.scr (ns.map D.int)),.sh (.int x),.sh (.int y),owl [],.un,.un,.un,.un] ⟨[],.un,.un,.un,.un,rfl,by simp⟩ (by
  rintro pre k post _ e ⟨cs,w4,w5,w6,w7,rfl,a1⟩;have hp:pre.length<7:=by have:=T7 List.length e;rw[VG,Tz,TF] at this;lia
  have hk:k<7:=by
   have:k∈List.range' 0 7:=by rw[e];simp
   rw[List.mem_range'] at this;obtain⟨i,hi,rfl⟩:=this;lia
  obtain⟨v,hv⟩:∃v:Int,bi [.scr (ns.map D.int),.int (1+(k:Int))]=some (.int v):=by have:=jq ns (1+k);rwa[WU] at this
  have hm:sN (.int v) (.int 48271)=some (.int (v * 48271)):=d7 (.inr (by decide));obtain⟨b1,x6,h1⟩:=xA ns hn k hk (.sh (.int x)) (.sh (.int y)) (owl (cs.map prD)) w6 w7 (v * 48271 % 2147483647 / 37);obtain⟨c1,b2,x7,h2,h3⟩:=row k cs b1 x6 w7 ();refine⟨[.sh (.scr (ns.map D.int)),.sh (.int x),.sh (.int y),owl (cs.map prD),.sh (.int (k:Int)),w5,w6,w7],[.sh (.scr (ns.map D.int)),.sh (.int x),.sh (.int y),owl (c1.map prD),.sh (.int (k:Int)),.sh (.int b2),x6,x7],rfl,.inl ?_,c1,_,_,_,_,rfl,by rw[Tz,T4];lia⟩;unfold gJ;rw[au (ρ':=[.sh (.scr (ns.map D.int)),.sh (.int x),.sh (.int y),owl (cs.map prD),.sh (.int (k:Int)),.sh (.int (v * 48271 % 2147483647 / 37)),w6,w7]) (dh (by simp[hv,hm])),au h1]
  exact h2)
 rw[VG] at a1;refine⟨cs,?_,()⟩;have hx:iV [.sh (.scr (ns.map D.int)),.sh (.int x),.sh (.int y),.un,.un,.un,.un,.un]=some (.ro (.lst ((cs.map prD).map O.sh))):=by
  unfold iV;rw[au (ρ':=[.sh (.scr (ns.map D.int)),.sh (.int x),.sh (.int y),owl [],.un,.un,.un,.un]) (by rfl)];have hfor:cX (yp (ab (xC (.int 7)) aj)) (ag 4) gJ [.sh (.scr (ns.map D.int)),.sh (.int x),.sh (.int y),owl [],.un,.un,.un,.un]=some (.nx [.sh (.scr (ns.map D.int)),.sh (.int x),.sh (.int y),owl (cs.map prD),w4,w5,w6,w7]):=by unfold cX;show (Kx [.int ((7:Nat):Int)]).bind _=_;rw[hr7];exact k1
  rw[au hfor];rfl
 have:=wd (n:=8) (ds:=[.scr (ns.map D.int),.int x,.int y]) hx;show (fnO 8 iV [.scr (ns.map D.int),.int x,.int y]).map O.d=_;rw[this];generalize cs.map prD=l;simp
def GL {c:XT}{a:XS}{ρ:M.Env}(h:c ρ=some false):xIf c a fi ρ=some (.nx ρ):=by unfold xIf;rw[h];rfl
def Mj {c:XT}{a b:XS}{ρ:M.Env}{o:Out}(h:c ρ=some true)(k:a ρ=some o):xIf c a b ρ=some o:=by unfold xIf;rw[h];exact k
def L3 (ts:XC)(n u:XD):u∈dT ts n↔u∈ts\/u=n:=by
 unfold dT;split
 ·rename_i h;exact⟨.inl,fun k=>k.elim id fun e=>by rw[e];exact h⟩
 ·rw[TH,Tv]
def vZ (l:XC)(u:XD):u∈bL l↔u∈l:=by
 have key:∀(l acc:XC),u∈l.foldl dT acc↔u∈acc\/u∈l:=by
  intro l;induction l with
  |nil=>intro acc;simp
  |cons a l ih=>intro acc;rw[Vx,ih,L3,TN,or_assoc]
 rw[bL,key];simp
def yX (l:XC):(bL l).Nodup:=by
 have key:∀(l acc:XC),acc.Nodup->(l.foldl dT acc).Nodup:=by
  intro l;induction l with
  |nil=>intro acc h;exact h
  |cons a l ih=>
   intro acc h;rw[Vx];refine ih _ ?_;unfold dT;split
   ·exact h
   ·refine VA.mpr ⟨h,Uk.mpr ⟨(fun z=>by cases z),.nil⟩,fun a' ha b hb e=>?_⟩;rw[Tv] at hb;subst hb e;contradiction
 exact key l [] .nil
theorem C1:∀cs:R,keys (cs.map prD)=some (cs.map kyC)
 |[]=>rfl
 |c::cs=>by have:=C1 cs;rw[TQ,TQ];show ((GT (prD c)).bind fun k=>(keys (cs.map prD)).map fun r=>k::r)=_;rw[this];rfl
theorem AK:∀cs:R,ig (cs.map prD)=some (cs.map kyC)
 |[]=>rfl
 |c::cs=>by have:=AK cs;rw[TQ,TQ];show ((aQ [.int c.1,.int c.2]).bind fun n=>(ig (cs.map prD)).map fun r=>n::r)=_;rw[this];rfl
theorem Dg:∀ {ks:XC},(∀k∈ks,∃c,k=kyC c)->∃us:R,ks=us.map kyC
 |[],_=>⟨[],rfl⟩
 |k::ks,h=>by obtain⟨c,rfl⟩:=h k TD;obtain⟨us,rfl⟩:=Dg fun k hk=>h k (TJ _ hk);exact⟨c::us,rfl⟩
def K1 (us:R):(us.map kyC).map oM=us.map prD:=by rw[T5];rfl
def Ce (cs:R)(hl:cs.length<=300):∃us:R,(eJ (bL (cs.map kyC))).map oM=us.map prD/\us.length<=cs.length/\∀c,c∈us↔c∈cs:=by
 have hp:=fG (bL (cs.map kyC));have hm:∀k,k∈eJ (bL (cs.map kyC))↔k∈cs.map kyC:=fun k=>by rw[hp.mem_iff,vZ]
 obtain⟨us,e⟩:=Dg (ks:=eJ (bL (cs.map kyC))) fun k hk=>by obtain⟨c,_,rfl⟩:=TC.mp ((hm k).mp hk);exact⟨c,rfl⟩
 refine⟨us,by rw[e,K1],?_,fun c=>?_⟩
 ·have h1:=hp.length_eq;have h2:=ST.n4 (cs.map kyC);rw[e,Tw] at h1;rw[Tw] at h2;lia
 ·have h3:=hm (kyC c);rw[e] at h3;constructor
  ·intro h;obtain⟨d,hd,e2⟩:=TC.mp (h3.mp (TC.mpr ⟨c,h,rfl⟩));rw[<- xz e2];exact hd
  ·intro h;obtain⟨d,hd,e2⟩:=TC.mp (h3.mpr (TC.mpr ⟨c,h,rfl⟩));rw[<- xz e2];exact hd
def AL {cs:R}(h0:cs≠[])(h:(bL (cs.map kyC)).length≠1):∃a∈cs,∃b∈cs,a≠b:=by
 have hm:=vZ (cs.map kyC);have hnd:=yX (cs.map kyC);generalize bL (cs.map kyC)=ds at *
 match ds,h,hnd,hm with
 |[],_,_,hm=>
  obtain⟨c,r,rfl⟩:=Xk h0;have:=(hm (kyC c)).mpr (by simp);cases this
 |[_],h,_,_=>exact absurd rfl h
 |u::v::ds,_,hnd,hm=>obtain⟨a,ha,ea⟩:=TC.mp ((hm u).mp (by simp));obtain⟨b,hb,eb⟩:=TC.mp ((hm v).mp (by simp));refine⟨a,ha,b,hb,fun e=>?_⟩;subst e;rw[<- ea,<- eb] at hnd;exact (Uk.mp hnd).1 (by simp)
noncomputable abbrev P8:=ab (xOp a6 (xC (.int 1)) (xOp i7 (az bi (ab (ak 0) (ab (xC (.int 0)) aj))) (xC (.int 4)))) aj
def vh (ns:XD):∃fs:R,C7 [.scr (ns.map D.int)]=some (.lst (fs.map prD))/\fs.length<=6/\∃a∈fs,∃b∈fs,a≠b:=by
 have l1:1<=LIM:=aH ();have l2:2<=LIM:=aH ();obtain⟨c0,hc0⟩:∃v:Int,bi [.scr (ns.map D.int),.int 0]=some (.int v):=jq ns 0;obtain⟨c13,hc13⟩:∃v:Int,bi [.scr (ns.map D.int),.int 13]=some (.int v):=jq ns 13;obtain⟨n,hn,hn1,hn4⟩:∃n:Nat,1+c0 % 4=(n:Int)/\1<=n/\n<=4:=⟨(1+c0 % 4).toNat,(),(),()⟩
 have hr:=M5 n ();obtain⟨ρ',k1,fs,w2,w3,rfl,a1,a2⟩:=a8 (g:=ag 2) (m:=iT) (fun i:Nat=>D.int (i:Int)) (fun pre ρ=>∃(fs:R) (w2 w3:Sl),ρ=[.sh (.scr (ns.map D.int)),owl (fs.map prD),w2,w3,.un]/\(0,0)∈fs/\fs.length<=pre.length+1) (List.range' 0 n) [.sh (.scr (ns.map D.int)),owl ([((0:Int),(0:Int))].map prD),.un,.un,.un] ⟨[(0,0)],.un,.un,rfl,by simp,by simp⟩ (by
  rintro pre k post _ e ⟨fs,w2,w3,rfl,a1,a2⟩;have hp:pre.length<n:=by have:=T7 List.length e;rw[VG,Tz,TF] at this;lia
  obtain⟨v,hv⟩:∃v:Int,bi [.scr (ns.map D.int),.int (8+(k:Int))]=some (.int v):=by have:=jq ns (8+k);rwa[WU] at this
  have hm:sN (.int v) (.int 39373)=some (.int (v * 39373)):=d7 (.inr (by decide));obtain⟨z,hz⟩:∃z:Int,v * 39373 % 2147483629 / 37=z:=⟨_,rfl⟩
  have hlim:(fs.map prD).length<LIM:=cO (by rw[Tw];lia);refine⟨[.sh (.scr (ns.map D.int)),owl (fs.map prD),.sh (.int (k:Int)),w3,.un],[.sh (.scr (ns.map D.int)),owl ((fs++[(z % 3-1,z / 3 % 3-1)]).map prD),.sh (.int (k:Int)),.sh (.int z),.un],rfl,.inl ?_,_,_,_,rfl,TK _ a1,by rw[Tz,Tz,T4,T4];lia⟩;unfold iT;rw[au (ρ':=[.sh (.scr (ns.map D.int)),owl (fs.map prD),.sh (.int (k:Int)),.sh (.int z),.un]) (dh (d:=.int z) (by simp[hv,hm,hz]))];rw[Ub]
  exact mE (i:=1) (d:=prD (z % 3-1,z / 3 % 3-1)) (by simp[l2]) rfl hlim)
 rw[VG] at a2;have hs1:jt (af 1) [.sh (.scr (ns.map D.int)),owl (fs.map prD),w2,w3,.un]=some (.int ((bL (fs.map kyC)).length:Nat)):=by
  have ep:af 1 [.sh (.scr (ns.map D.int)),owl (fs.map prD),w2,w3,.un]=some (.lst (fs.map prD)):=by generalize fs.map prD=fl;simp
  unfold jt;rw[ep];dsimp only[Option.bind];rw[AK];dsimp only;rw[Ts (by rw[Tw];lia)]
 obtain⟨cs,ecs,h6,ht⟩:∃cs:R,xIf (xB (xOp (dEq false) (jt (af 1)) (xC (.int 1)))) (fW 1 xPv (xSh (aM (ab (xC (.int 1)) (ab (xC (.int 0)) aj))))) fi [.sh (.scr (ns.map D.int)),owl (fs.map prD),w2,w3,.un]=some (.nx [.sh (.scr (ns.map D.int)),owl (cs.map prD),w2,w3,.un])/\cs.length<=6/\∃a∈cs,∃b∈cs,a≠b:=by
  have hlim:(fs.map prD).length<LIM:=cO (by rw[Tw];lia);by_cases h1:(bL (fs.map kyC)).length=1
  ·refine⟨fs++[(1,0)],?_,by rw[Tz,T4];lia,(0,0),TK _ a1,(1,0),by simp,by decide⟩;refine Mj (by
    unfold xB xOp;rw[hs1,h1]
    rfl) ?_
   rw[Ub];exact mE (i:=1) (d:=prD (1,0)) (by simp[l2]) rfl hlim
  ·refine⟨fs,?_,(),AL (fun e=>by rw[e] at a1;cases a1) h1⟩;refine GL ?_;unfold xB xOp;rw[hs1];have:¬(((bL (fs.map kyC)).length:Nat):Int)=1:=()
   generalize (((bL (fs.map kyC)).length:Nat):Int)=m at *;simp[this]
 have hm13:sN (.int c13) (.int 69621)=some (.int (c13 * 69621)):=d7 (.inr (by decide));obtain⟨z,hz⟩:∃z:Int,c13 * 69621 % 2147483629 / 37=z:=⟨_,rfl⟩
 obtain⟨us,eu,hul,hum⟩:=Ce cs ();have hul':us.length<=LIM:=aH ();have hcomp:bB [none,none,some 4] (xIt (xL (gF (af 1)))) gx bP (aM (ab (xOp dJ (xOp a6 (af 0) (xOp i7 (af 2) (xC (.int 3)))) (xC (.int 1))) (ab (xOp dJ (xOp a6 (af 1) (xOp i7 (xOp mG (af 2) (xC (.int 3))) (xC (.int 3)))) (xC (.int 1))) aj))) [.sh (.scr (ns.map D.int)),owl (cs.map prD),w2,w3,.sh (.int z)]=some ((us.map fun c=>(c.1+z % 3-1,c.2+z / 3 % 3-1)).map prD):=by
  have ei:xIt (xL (gF (af 1))) [.sh (.scr (ns.map D.int)),owl (cs.map prD),w2,w3,.sh (.int z)]=some (us.map prD):=by
   have ep:af 1 [.sh (.scr (ns.map D.int)),owl (cs.map prD),w2,w3,.sh (.int z)]=some (.lst (cs.map prD)):=by generalize cs.map prD=fl;simp
   unfold xIt xL gF;rw[ep];dsimp only[Option.bind];rw[C1];dsimp only;rw[Ts (by rw[Tw];lia),eu];rfl
  unfold bB;rw[ei];dsimp only[Option.bind];rw[Ts (by rw[Tw];exact hul')];show aZ _ _ _ [.un,.un,.sh (.int z)] (us.map prD)=_;rw[T5];exact aR prD (prD∘fun c=>(c.1+z % 3-1,c.2+z / 3 % 3-1)) us fun c _=>by simp[dW,l2]
 refine⟨us.map fun c=>(c.1+z % 3-1,c.2+z / 3 % 3-1),?_,by rw[Tw];lia,?_⟩
 ·have hx:lh [.sh (.scr (ns.map D.int)),.un,.un,.un,.un]=some (.ro (.lst (((us.map fun c=>(c.1+z % 3-1,c.2+z / 3 % 3-1)).map prD).map O.sh))):=by
   unfold lh;rw[au (ρ':=[.sh (.scr (ns.map D.int)),owl ([((0:Int),(0:Int))].map prD),.un,.un,.un]) (by
    generalize D.scr (ns.map D.int)=sc
    simp[l1,l2])]
   have hfor:cX (yp P8) (ag 2) iT [.sh (.scr (ns.map D.int)),owl ([((0:Int),(0:Int))].map prD),.un,.un,.un]=some (.nx [.sh (.scr (ns.map D.int)),owl (fs.map prD),w2,w3,.un]):=by
    have hi:yp P8 [.sh (.scr (ns.map D.int)),owl ([((0:Int),(0:Int))].map prD),.un,.un,.un]=some ((List.range' 0 n).map fun i:Nat=>D.int (i:Int)):=by rw[<- hr,<- hn];generalize D.scr (ns.map D.int)=sc at *;simp[hc0]
    unfold cX;rw[hi];exact k1
   rw[au hfor,au ecs];rw[au (ρ':=[.sh (.scr (ns.map D.int)),owl (cs.map prD),w2,w3,.sh (.int z)]) (dh (d:=.int z) (by
    generalize D.scr (ns.map D.int)=sc at *;generalize cs.map prD=fl at *
    simp[hc13,hm13,hz]))]
   unfold AR xLT;rw[hcomp];rfl
  have:=wd (n:=5) (ds:=[.scr (ns.map D.int)]) hx;show (fnO 5 lh [.scr (ns.map D.int)]).map O.d=_;rw[this];generalize (us.map fun c=>(c.1+z % 3-1,c.2+z / 3 % 3-1)).map prD=l;simp
 ·obtain⟨a,ha,b,hb,hab⟩:=ht;refine⟨_,TC.mpr ⟨a,(hum a).mpr ha,rfl⟩,_,TC.mpr ⟨b,(hum b).mpr hb,rfl⟩,fun e=>hab ?_⟩;obtain⟨e1,e2⟩:=WA e;exact UD () ()
def F8 (a b x:Int)(ha:0<a)(hb:0<b):∃u:Int,0<u/\atI [D.int a,.int b] (x % 2)=some (.int u):=by
 have:x % 2=0\/x % 2=1:=()
 rcases this with e|e<;>rw[e]
 ·exact⟨a,ha,rfl⟩
 ·exact⟨b,hb,rfl⟩
def AN (c m:Int)(h:0<m):∃v:Int,ja [.int c,.int m]=some (.int v):=by
 by_cases h0:c<0
 ·exact⟨_,by simp[ja,jH,fnO,iY,h0,h];rfl⟩
 ·exact⟨_,by simp[ja,jH,fnO,iY,h0,h];rfl⟩
def OO {N:Str}{ps:List (List Blk)}{mi:Xp}{a:XA}{ρ:M.Env}{ds:Xq}(ha:a ρ=some ds)(hi:mi ds=some (jK ps)):AO N "parts" mi a ρ=some (aG N ps):=by unfold AO;rw[ha];dsimp only[Option.bind];rw[hi];rfl
def zC (p:Pic)(c:am p)(hp:p≠[])(h:(ah p).length<30000):kJ [ap p]=some (jK [a9 p]):=by obtain⟨h1,_⟩:=kA p c h;have d0:=fx p;rw[Uc hp] at d0;have l1:1<=LIM:=aH ();generalize ap p=z at *;generalize hb:(a9 p).map aO=bl at *;simp[kJ,JP,d0,h1,l1];exact hb.symm
def JE {bs:List Blk}(h:bs≠[])(hb:∀b∈bs,BOk b):FOk [bs]:=fun z hz=>by rw[Tv] at hz;subst hz;exact⟨h,hb⟩
def Gy {fs:R}(hne:fs≠[])(hl:fs.length<=6){q:Pic}(c:am q)(hm:∀x y,aC q x y↔(x,y)∈fs)(hs:(ah q).length<=fs.length):kJ [ap q]=some (jK [a9 q])/\FL [a9 q] (a9 q) fs:=by
 obtain⟨g,r,e⟩:=Xk hne;have hg:aC q g.1 g.2:=(hm _ _).mpr (by rw[e];exact TD);have qne:q≠[]:=fun z=>by rw[z] at hg;exact bA _ _ hg
 obtain⟨_,b1,b2,b3⟩:=kA q c ();have hp:(a9 q).length<=aK (a9 q):=by
  have:∀bs:List Blk,bs.length<=aK bs:=fun bs=>by
   induction bs with
   |nil=>exact T9 _
   |cons b bs ih=>have e:aK (b::bs)=b8 b+aK bs:=rfl;rw[e,TF];unfold b8;lia
  exact this _
 refine⟨zC q c qne (),rfl,JE (fun z=>?_) b1,⟨(),()⟩,fun u v=>?_,hne,hl⟩
 ·obtain⟨b,hb,_⟩:=(b3 _ _).mpr hg;rw[z] at hb;cases hb
 ·rw[<- hm,<- b3];show (∃u' v',wX (a9 q) u' v'/\(u-u'=0/\v-v'=0))↔_;constructor
  ·rintro⟨u',v',h,e1,e2⟩;rwa[show u=u' by lia,show v=v' by lia]
  ·intro h;exact⟨u,v,h,(),()⟩
def vX {P0 F:D}{m:Int}{cs:Xq}(h1:eW [F]=some (.bl false))(h2:iJ [P0,F,.int m]=some (.lst (cs++[.tup []]))):dU [P0,F,.int m]=some (.lst (cs.map O.sh)):=by
 have d:dEq true (D.tup []) (.tup [])=some (.bl false):=mZ (p:=[]);have a:=F6 cs (.tup []);have c:=sM cs (.tup []);have ex:nQ [.sh P0,.sh F,.sh (.int m),.un]=some (.ro (.lst (cs.map O.sh))):=by simp[nQ,h1,h2,a,d,c]
 exact wd (n:=4) (ds:=[P0,F,.int m]) ex
def QF (p:Pic):okD 49 (ap p)=true:=by show okDs 48 (p.map pyD)=true;refine kN p fun q _=>?_;show okDs 47 [.int q.1,bm q.2]=true;simp only[okDs,okD,Bool.true_and,Bool.and_true];exact kN q.2 fun s _=>by simp[okD,okDs]
def GZ (ns:XD)(hns:ns.length<=63):OM [.scr (ns.map D.int)]=some (.bl true):=by
 have l1:1<=LIM:=aH ();have l2:2<=LIM:=aH ();obtain⟨P58,hP58⟩:∃P:Int,(10:Int) ^ (58:Int).toNat=P:=⟨_,rfl⟩
 have p58:Gn (.int 10) (.int 58)=some (.int P58):=by rw[<- hP58];exact P5 (by decide)
 have h58:0<P58:=by rw[<- hP58];decide
 clear hP58;obtain⟨c0,hc0⟩:∃v:Int,bi [.scr (ns.map D.int),.int 0]=some (.int v):=jq ns 0;obtain⟨u1,hu1,e1⟩:=F8 9 P58 (c0 / 4) () h58;obtain⟨u2,hu2,e2⟩:=F8 9 P58 (c0 / 8) () h58;obtain⟨x,hx⟩:=AN (c0 / 16) u1 hu1;obtain⟨y,hy⟩:=AN (c0 / 32) u2 hu2;obtain⟨cs,hcs,hcl⟩:=tR ns hns x y;obtain⟨fs,hfs,hf6,fa,hfa,fb,hfb,hfab⟩:=vh ns;have fne:fs≠[]:=fun e=>by rw[e] at hfa;cases hfa
 obtain⟨p,pp,pc,pm,_⟩:=f8 cs ();obtain⟨q,qp,qc,qm,ql⟩:=f8 fs ();obtain⟨iS,fl⟩:=Gy fne hf6 qc qm ql;have hN:NS.contains "Shape" = true:=by decide
 have no1:=fl.no_one hN hfa hfb hfab;obtain⟨S,Op,n,C,sv,hn,en,hno,Cc,Cm,hdue⟩:=kE cs fs hcl hf6 hfa hfb hfab;obtain⟨X,G,C',X0,L,Xc,Xm,Cc',Cm'⟩:=Dv fl hN sv pc pm;have eC:aU C' n=aU C n:=by unfold aU;refine Wr fun k _=>?_;rw[rV (Cc' k) (Cc k) fun x y=>(Cm' k x y).trans (Cm k x y).symm]
 have Xe:∀k,X k=[]↔S k=[]:=fun k=>by
  constructor
  ·intro e;refine List.eq_nil_iff_forall_not_mem.mpr fun z hz=>?_;have:=(Xm k z.1 z.2).mpr hz;rw[e] at this;exact bA _ _ this
  ·intro e;refine zK (Xc k) fun x y h=>?_;have:=(Xm k x y).mp h;rw[e] at this;cases this
 have ta:=jc L (n:=n) (m:=60) () () (.inl ((Xe n).mpr en)) fun k hk e=>hno k hk ((Xe k).mp e);rw[(Xe n).mpr en,X0,eC] at ta;have mc:=vX no1 ta;obtain⟨S2,Op2,n2,C2,sv2,_⟩:=kE [] fs (by show 0<=56;lia) hf6 hfa hfb hfab;obtain⟨X2,G2,C2',X20,L2',_⟩:=Dv fl hN sv2 eA (fun x y=>⟨fun h=>(bA _ _ h).elim,fun h=>by cases h⟩);have ta2:=jc L2' (n:=0) (m:=0) () () (.inl X20) fun k hk=>()
 rw[X20] at ta2;have mc2:rN [.tup [],aG "Shape" [a9 q],.int 0]=some (.lst []):=by show (dU [.tup [],aG "Shape" [a9 q],.int 0]).map O.d=_;rw[show dU [.tup [],aG "Shape" [a9 q],.int 0]=_ from vX (cs:=[]) no1 ta2];rfl
 have hlen:=fv C n;have okd:okD 50 (.lst (aU C n))=true:=kN (List.range n) fun k _=>QF (C k);have dT:=nV true okd;have dF:=nV false okd;have d0:dEq false (D.lst []) (.lst [])=some (.bl true):=nV false rfl;have hlim:(aU C n).length<LIM:=cO ();have hloop:∀(r:List Sl),r.length=9->∃v,cD (ag 10) jw (aU C n) (r++[.lo,.un])=some (.nx (r++[.lo,v])):=fun r hr=>by
  obtain⟨ρ',k1,v,rfl⟩:=a8 (g:=ag 10) (m:=jw) (fun k:Nat=>ap (C k)) (fun pre ρ=>∃v:Sl,ρ=r++[.lo,v]) (List.range n) (r++[.lo,.un]) ⟨.un,rfl⟩ (by
   rintro pre k post _ e ⟨v,rfl⟩;have i1:sC [ap (C k),.ty "tuple"]=some (.bl true):=by rfl
   match r,hr with
   |[r0,r1,r2,r3,r4,r5,r6,r7,r8],_=>
    refine⟨[r0,r1,r2,r3,r4,r5,r6,r7,r8,.lo,.sh (ap (C k))],[r0,r1,r2,r3,r4,r5,r6,r7,r8,.lo,.sh (ap (C k))],rfl,.inl ?_,_,rfl⟩;generalize ap (C k)=Pk at *
    simp[jw,i1])
  exact⟨v,k1⟩
 have isl:sC [D.lst (aU C n),.ty "list"]=some (.bl true):=by rfl
 have mcd:rN [ap p,aG "Shape" [a9 q],.int 60]=some (.lst (aU C n)):=by show (dU [ap p,aG "Shape" [a9 q],.int 60]).map O.d=_;rw[show dU [ap p,aG "Shape" [a9 q],.int 60]=_ from mc];generalize aU C n=l;simp
 have mcT:dU [ap p,aG "Shape" [a9 q],.int 60]=some (.lst ((aU C n).map O.sh)):=mc;generalize aU C n=dl at *;generalize D.scr (ns.map D.int)=sc at *;have ex:yE [.sh sc,.un,.un,.un,.un,.un,.un,.un,.un,.un,.un]=some (.rt (.bl true)):=by
  unfold yE;rw[au (ρ':=[.sh sc,.sh (.int c0),.un,.un,.un,.un,.un,.un,.un,.un,.un]) (dh (fL (ds:=[sc,.int 0]) rfl hc0))];rw[au (ρ':=[.sh sc,.sh (.int c0),.sh (.int x),.un,.un,.un,.un,.un,.un,.un,.un]) (dh (by simp[p58,l2,e1,hx]))];rw[au (ρ':=[.sh sc,.sh (.int c0),.sh (.int x),.sh (.int y),.un,.un,.un,.un,.un,.un,.un]) (dh (by simp[p58,l2,e2,hy]))];rw[au (ρ':=[.sh sc,.sh (.int c0),.sh (.int x),.sh (.int y),.sh (.lst (cs.map prD)),.un,.un,.un,.un,.un,.un]) (dh (fL (ds:=[sc,.int x,.int y]) rfl hcs))];rw[au (ρ':=[.sh sc,.sh (.int c0),.sh (.int x),.sh (.int y),.sh (.lst (cs.map prD)),.sh (.lst (fs.map prD)),.un,.un,.un,.un,.un]) (dh (fL (ds:=[sc]) rfl hfs))];rw[au (ρ':=[.sh sc,.sh (.int c0),.sh (.int x),.sh (.int y),.sh (.lst (cs.map prD)),.sh (.lst (fs.map prD)),.sh (ap p),.un,.un,.un,.un]) (dh (fL (ds:=[.lst (cs.map prD)]) rfl pp))];rw[au (ρ':=[.sh sc,.sh (.int c0),.sh (.int x),.sh (.int y),.sh (.lst (cs.map prD)),.sh (.lst (fs.map prD)),.sh (ap p),.sh (.lst dl),.un,.un,.un]) (dh (fL (ds:=[.lst (cs.map prD),.lst (fs.map prD)]) rfl hdue))];rw[au (ρ':=[.sh sc,.sh (.int c0),.sh (.int x),.sh (.int y),.sh (.lst (cs.map prD)),.sh (.lst (fs.map prD)),.sh (ap p),.sh (.lst dl),.sh (aG "Shape" [a9 q]),.un,.un]) (dh (OO (ds:=[ap q]) (bQ (fL (ds:=[.lst (fs.map prD)]) rfl qp) rfl) iS))];generalize D.lst (fs.map prD)=FLd at *;generalize D.lst (cs.map prD)=CLd at *;generalize aG "Shape" [a9 q]=F at *;generalize ap p=P0 at *;rw[au (ρ':=[.sh sc,.sh (.int c0),.sh (.int x),.sh (.int y),.sh CLd,.sh FLd,.sh P0,.sh (.lst dl),.sh F,owl dl,.un]) (by
   show (dU [P0,F,.int 60]).map _=_;rw[mcT]
   rfl)]
  rw[au (GL (by simp[isl,dT]))];obtain⟨v,hv⟩:=hloop [.sh sc,.sh (.int c0),.sh (.int x),.sh (.int y),.sh CLd,.sh FLd,.sh P0,.sh (.lst dl),.sh F] rfl;rw[au (ρ':=[.sh sc,.sh (.int c0),.sh (.int x),.sh (.int y),.sh CLd,.sh FLd,.sh P0,.sh (.lst dl),.sh F,owl dl,v]) (by
   show (match shs (dl.map O.sh) with|some l=>_|none=>_)=_;rw[lG];show (match cD (ag 10) jw dl [.sh sc,.sh (.int c0),.sh (.int x),.sh (.int y),.sh CLd,.sh FLd,.sh P0,.sh (.lst dl),.sh F,.lo,.un] with|some (.nx ρ')=>_|some (.rt d)=>_|_=>_)=_;rw[show cD (ag 10) jw dl [.sh sc,.sh (.int c0),.sh (.int x),.sh (.int y),.sh CLd,.sh FLd,.sh P0,.sh (.lst dl),.sh F,.lo,.un]=_ from hv]
   rfl)]
  rw[au (ρ':=[.sh sc,.sh (.int c0),.sh (.int x),.sh (.int y),.sh CLd,.sh FLd,.sh P0,.sh (.lst dl),.sh F,owl (dl++[D.tup []]),v]) (mE (gs:=dl) rfl rfl hlim)];rw[au (ρ':=[.sh sc,.sh (.int c0),.sh (.int x),.sh (.int y),.sh CLd,.sh FLd,.sh P0,.sh (.lst dl),.sh F,owl (dl++[D.tup []]).reverse,v]) (by
   have:=lG (dl++[D.tup []]);simp[-List.map_append,this]
   exact Ub)]
  generalize owl (dl++[D.tup []]).reverse=w;simp[mcd,dF,mc2,d0]
 exact ma (n:=11) (ds:=[sc]) ex
end P
namespace L2
open PySem PySem.Spec PyProof.Rows M
structure Fd (K:Xy) (x:Str) (st:Stmt) (f:Addr) (fd:FuncData):Prop where
 a:W.nsIn K mainGlobals x=some (some (.ref f))
 F:Fun K x x st f fd
structure Bk (P:Program) (w:World) (K:Xy) (mg:Xv) (base:Heap) (n:Nat) (x:Str) (ps:XB) (sp:Sp) (f:Addr) (fd:FuncData):Prop where
 G:FnOk P w K mg base CX0 n f fd ps sp
 m:mg x=some (.ref f)
 k:W.keepIn K (.ref f)=true
 b:Binds K fd ps []
structure Bm (P:Program) (w:World) (K:Xy) (mg:Xv) (base:Heap) (n:Nat) (x:Str) (Ns ps:XB) (sp:Sp) (f:Addr) (fd:FuncData):Prop where
 G:FnOk P w K mg base CX0 n f fd ps sp
 b:Binds K fd ps []
 cm:uY K Ns fun C=>Cls K C/\Meth K C x f
structure Bc (P:Program) (w:World) (K:Xy) (mg:Xv) (base:Heap) (n:Nat) (x:Str) (ps:XB) (sp:Sp) (c f:Addr) (fd:FuncData):Prop where
 G:FnOk P w K mg base CX0 n f fd ps sp
 b:Binds K fd ps []
 n:W.nsIn K mainGlobals x=some (some (.ref c))
 M:Mk K c f
 g:mg x=some (.ref c)
structure Bb (P:Program) (w:World) (K:Xy) (mg:Xv) (base:Heap) (n:Nat) (x:Str) (ps:XB) (sp:Sp) (c f:Addr) (fd:FuncData):Prop where
 G:FnOk P w K mg base CX0 n f fd ps sp
 b:Binds K fd ps []
 cf:ClsFn K c "__init__" f
 g:mg x=some (.ref c)
section
variable {X:Cx}{a b e o:Expr}{es:List Expr}{ta tb te:TE}{t:TA}{p pos pos' apos:Pos}{x:Str}{n k:Nat}{ps:XB}{sp:Sp}{c f:Addr}{fd:FuncData}
def pgn (i:Nat)(hN:X.N.Nodup)(hi:X.N[i]?=some x:=by rfl)(hx:Loc X.env.scope x:=by exact .inl rfl)(hf:X.fn x=true\/X.env.scope.names.lookup x=some .local:=by first|exact .inl rfl|exact .inr rfl|assumption):PG X (.Name x pos) (iw i):=rR hN hi hx hf
def pgc {N:XB}{scope:Scope}{z:CxZ}(i:Nat)(hN:N.Nodup:=by decide +kernel)(hi:(cxC X N scope z).N[i]?=some x:=by rfl)(hx:Loc (cxC X N scope z).env.scope x:=by exact .inl rfl)(hf:(cxC X N scope z).fn x=true\/(cxC X N scope z).env.scope.names.lookup x=some .local:=by first|exact .inl rfl|exact .inr rfl|assumption):PG (cxC X N scope z) (.Name x pos) (iw i):=rR hN hi hx hf
def pst (i:Nat)(hN:X.N.Nodup)(he:PE X e te)(hi:X.N[i]?=some x:=by rfl)(hx:Loc X.env.scope x:=by exact .inl rfl)(hs:swapsWith e (some (.Name x pos')) pos.line X.env=pure false:=by rfl)(hf:X.fn x=true\/X.env.scope.names.lookup x=some .local:=by first|exact .inl rfl|exact .inr rfl|assumption) :
  PS X (.Assign [.Name x pos'] e pos) (yg te (iw i)):=B2 hN hi hx he hs hf
def pix (ha:PE X a ta)(hb:PE X b tb)(hs:Cv b:=by exact fun _ _=>rfl):PE X (.Subscript a b pos) (tOp (rIx X.K) ta tb):=OX Mm ha hb hs
def ptc {op:CmpOp}{r:R2}(ho:OpR X (compareOp op) r)(ha:PE X a ta)(hb:PE X b tb)(hm:behindInMarks op b=false:=by exact Hc _):PT X (.Compare a [op] [b] pos) (DJ (tOp r ta tb)):=Kr ho ha hb hm
def pcl (F:Bk X.prog X.w X.K X.mg X.base n x ps sp f fd)(hr:Room k X.A)(ha:PA X (e::es) t)(hn:n<=k:=by decide)(hg:Gl X x:=by rfl)(hdb:(x==("__debug__" : Str))=false:=by decide)
  (he:starEach (e::es) X.env=(false,eval e X.env)::starEach es X.env:=by rfl) (hpl:(backTo pos (starEach es X.env)).any (·.1)=false:=by rfl):PE X (.Call (.Name x p) (e::es) [] pos) (qP sp [] E0 t):=Kd F.G (hr.mono hn) hg F.m F.k F.b .nil Dp ha hdb he hpl
def pmk (F:Bc X.prog X.w X.K X.mg X.base n x ps sp c f fd)(hr:Room k X.A)(ha:PA X (e::es) t)(hn:n+1<=k:=by decide)(hg:Gl X x:=by rfl)(hdb:(x==("__debug__" : Str))=false:=by decide)
  (he:starEach (e::es) X.env=(false,eval e X.env)::starEach es X.env:=by rfl) (hpl:(backTo pos (starEach es X.env)).any (·.1)=false:=by rfl):PE X (.Call (.Name x p) (e::es) [] pos) (yh X.K x sp t):=Hn F.n F.M F.G (hr.mono hn) hg F.g F.b Dp ha hdb he hpl
def pmt {pl:Sem Bool}{Ns:XB}(F:Bm X.prog X.w X.K X.mg X.base n x Ns ps sp f fd)(hr:Room k X.A)(he:PE X o ta)(ha:PA X (e::es) t)(hn:n<=k:=by decide)
  (hst:starEach (e::es) X.env=(false,eval e X.env)::starEach es X.env:=by rfl) (hpl:(backTo pos (starEach es X.env)).any (·.1)=false:=by rfl)
  (ht:eval (.Call (.Attribute o x apos) (e::es) [] pos) X.env=(do
   let ov ← eval o X.env
   standAt apos.atName
   let (f,first) ← holding [ov] (getMethod ov x pl)
   callWith pos f first (backTo pos (starEach (e::es) X.env)) (backToKw pos (keywordEach [] X.env))):=by rfl) :
  PE X (.Call (.Attribute o x apos) (e::es) [] pos) (yi X.K Ns x sp ta t):=Ho F.cm F.G (hr.mono hn) F.b Dp he ha hst hpl ht
def pec {XN N:XB}{sc scope:Scope}{js:List (Option Nat)}{tg iter elt:Expr}{ifs:List Expr}{wi:TI}{g:TG}{tt:TIf}(ck:CmpOk XN sc scope N js)(hi:PI X tg iter wi:=by and_intros)(hg:∀z,PG (cxC X N scope z) tg g:=by intro _;and_intros)(hs:wZ js g:=by and_intros)(ht:∀z,PIf (cxC X N scope z) ifs tt:=by intro _;and_intros)(he:∀z,PE (cxC X N scope z) elt te:=by intro _;and_intros)
  (hXN:X.N=XN:=by rfl) (hsc:X.env.scope=sc:=by rfl) (hc:X.calm=true:=by rfl) (hf:∀x,foldedSetIterable iter X.env x=pure x:=by intro _;rfl) :
  PE X (.ListComp elt [⟨tg,iter,ifs,0⟩] scope pos) (wM js wi g tt te):=Kf ck hi hg hs ht he hXN hsc hc hf
end
theorem Fd.ok {P:Program}{w:World}{K:Xy}{mg:Xv}{base:Heap}{x:Str}{st:Stmt}{f:Addr}{fd:FuncData}{N ps:XB}{k n j:Nat}{y:XS}(F:Fd K x st f fd)(T:∀y v,W.nsIn K mainGlobals y=some (some v)->mg y=some v)(p:{ t:TS // SS K t y })
  (hb:N.Nodup->∀(cdv:Value) (A:Around) (outer:List PySem.Env) (s:Shared) (H:Hp) (E:XK),Room k (A.deeper (envOfC x (aw st) s.heap.objs.size f cdv)) ->
   PSs (yU CX0 P w K mg base N x (aw st) f cdv A outer s H E).nox (iu st) p.1:=by
   bv_omega
   and_intros)
  (hN:N.length=n:=by rfl) (hj:ps.length=j:=by rfl) (S:FnScope N ps (aw st):=by ac_rfl)
  (hB:∀(kV doc pm:Value) (an:Option Addr) (cdv ct:Value) (us:Xw),us.length=ps.length->bindArgs (W.fnOf x x (nW st) (iu st) (aw st) .none kV doc pm an cdv ct) ⟨us,[]⟩=pure (ps.zip us):=by
   intro _ _ _ _ _ _ us hl
   first
    | (cases us0 hl;rfl)
    | (obtain⟨_,rfl⟩:=us1 hl;rfl)
    | (obtain⟨_,_,rfl⟩:=us2 hl;rfl)
    | (obtain⟨_,_,_,rfl⟩:=us3 hl;rfl)
    | (obtain⟨_,_,_,_,rfl⟩:=us4 hl;rfl)
    | (obtain⟨_,_,_,_,_,rfl⟩:=us5 hl;rfl)) :
  Bk P w K mg base (k+1) x ps (bS K j (fnO n y)) f fd:=by
 refine⟨F.F.ok S (fun vs H Q E h=>h.1.trans hj.symm) fun cdv A outer s H vs Q E hr h=>?_,T x _ F.a,F.F.kp,F.F.binds hB⟩;exact⟨_,hb S.nd cdv A outer s H E hr,M.Ag p.2 hN h⟩
def Fun.okm {P:Program}{w:World}{K:Xy}{mg:Xv}{base:Heap}{x qual:Str}{st:Stmt}{f:Addr}{fd:FuncData}{N ps:XB}{k n j:Nat}{y:XS}(F:Fun K x qual st f fd)(p:{ t:TS // SS K t y })
  (hb:N.Nodup->∀(cdv:Value) (A:Around) (outer:List PySem.Env) (s:Shared) (H:Hp) (E:XK),Room k (A.deeper (envOfC qual (aw st) s.heap.objs.size f cdv)) ->
   PSs (yU CX0 P w K mg base N qual (aw st) f cdv A outer s H E).nox (iu st) p.1:=by
   bv_omega
   and_intros)
  (hN:N.length=n:=by rfl) (hj:ps.length=j:=by rfl) (S:FnScope N ps (aw st):=by ac_rfl) :
  FnOk P w K mg base CX0 (k+1) f fd ps (bS K j (fnO n y)):=
 F.ok S (fun vs H Q E h=>h.1.trans hj.symm) fun cdv A outer s H vs Q E hr h=>⟨_,hb S.nd cdv A outer s H E hr,M.Ag p.2 hN h⟩
end L2
namespace Lw
open PySem PySem.W L2 M P
set_option autoImplicit true
noncomputable def top (i : Nat) : Stmt := PySem.Challenge.pw_shapethin_k63_cores_layer_by_layer.main.body.getD i (.Pass ⟨0, 0, 0, 0⟩)
noncomputable abbrev uz:Stmt:=top 6
noncomputable abbrev ml:Stmt:=top 7
noncomputable abbrev oG:Stmt:=top 8
noncomputable abbrev uy:Stmt:=top 9
noncomputable abbrev fc:Stmt:=top 10
noncomputable abbrev kW:Stmt:=top 11
noncomputable abbrev jM:Stmt:=top 12
noncomputable abbrev gw:Stmt:=top 14
noncomputable abbrev h9:Stmt:=top 15
noncomputable abbrev Ao:Stmt:=top 16
noncomputable abbrev fe:Stmt:=top 17
noncomputable abbrev Ib:Stmt:=top 18
noncomputable abbrev ux:Stmt:=top 19
noncomputable abbrev B6:Stmt:=top 20
noncomputable abbrev oE:Stmt:=top 21
noncomputable abbrev xW:Stmt:=top 22
noncomputable abbrev kT:Stmt:=top 25
noncomputable abbrev mr:Stmt:=top 26
noncomputable abbrev mm:Stmt:=top 27
noncomputable abbrev eB:Stmt:=top 28
noncomputable abbrev iA:Stmt:=top 29
noncomputable abbrev eD:Stmt:=top 30
noncomputable abbrev iB:Stmt:=top 31
noncomputable abbrev pY:Stmt:=top 32
noncomputable abbrev j7:Stmt:=top 33
noncomputable abbrev mw:Stmt:=top 37
noncomputable abbrev kU:Stmt:=top 38
noncomputable abbrev DD:Stmt:=top 39
noncomputable abbrev uu:Stmt:=top 41
noncomputable abbrev wJ:Stmt:=top 42
noncomputable abbrev Am:Stmt:=top 43
noncomputable abbrev xV:Stmt:=top 44
noncomputable abbrev pW:Stmt:=top 45
noncomputable abbrev nt:Stmt:=top 46
noncomputable abbrev uw:Stmt:=top 47
noncomputable abbrev uv:Stmt:=top 48
noncomputable abbrev Lr:Stmt:=top 49
noncomputable abbrev gc:Stmt:=rK (top 34) 0
noncomputable abbrev kR:Stmt:=rK (top 34) 2
noncomputable abbrev kS:Stmt:=rK (top 34) 3
noncomputable abbrev fE:Stmt:=rK (top 35) 0
structure Txt (P:Program) (w:World) (K:Frag) (mg:Xv) (base:Heap):Prop where
 mo:∀x v,nsIn K mainGlobals x=some (some v)->mg x=some v
 all:mg "all" = none
 isinstance:mg "isinstance" = none
 len:mg "len" = none
 list:mg "list" = none
 max:mg "max" = none
 min:mg "min" = none
 range:mg "range" = none
 reversed:mg "reversed" = none
 set:mg "set" = none
 sorted:mg "sorted" = none
 tuple:mg "tuple" = none
 ONE_CELL:∃(u:Value) (v:V),mg "ONE_CELL" = some u/\RelV v u/\∀S,Den K S (.mtp [.mtp [.int (0),.mtp [.mtp [.int (0),.int (0)]]]]) v
 cN:uY K NS fun C=>Cls K C/\NoAttr K C "parts"
section
variable (P:Program)(w:World)(K:Frag)(mg:Xv)(base:Heap)
noncomputable abbrev nM:=Bk P w K mg base 1 "row_of" ["pairs"] (Fu K)
noncomputable abbrev iE:=Bk P w K mg base 1 "count_up_to" ["pairs", "number"] (uF K)
noncomputable abbrev jy:=Bk P w K mg base 1 "row_common" ["one", "other"] (vC K)
noncomputable abbrev qz:=Bk P w K mg base 1 "row_moved" ["row", "by"] (ye K)
noncomputable abbrev eO:=Bk P w K mg base 1 "stretches_of" ["picture"] (rE K)
noncomputable abbrev bV:=Bk P w K mg base 1 "rows_with_cells" ["rows"] (ny K)
noncomputable abbrev yC:=Bk P w K mg base 1 "box_of" ["picture"] (Fq K)
noncomputable abbrev jx:=Bk P w K mg base 1 "_law_cell_at" ["_law_script", "_law_k"] (Ay K)
noncomputable abbrev vI:=Bk P w K mg base 1 "_law_signed" ["_law_cell", "_law_most"] (Cg K)
noncomputable abbrev oY:=Bk P w K mg base 1 "_law_points" ["_law_cells_here"] (Cf K)
noncomputable abbrev sg:=Bk P w K mg base 1 "_law_smaller" ["_law_there", "_law_form_here"] (AA K)
noncomputable abbrev sf:=Bk P w K mg base 1 "_law_greater" ["_law_there", "_law_form_here"] (Az K)
noncomputable abbrev Cw:=Bb P w K mg base 1 "Form" ["self", "parts"] (jl K)
noncomputable abbrev nL:=Bk P w K mg base 2 "row_either" ["one", "other"] (vD K)
noncomputable abbrev nN:=Bk P w K mg base 2 "row_shrunk" ["row", "low", "high"] (vE K)
noncomputable abbrev gi:=Bk P w K mg base 2 "picture_of" ["stretches"] (vB K)
noncomputable abbrev sj:=Bk P w K mg base 2 "row_at" ["picture", "y"] (Ft K)
noncomputable abbrev wY:=Bk P w K mg base 2 "moved" ["picture", "dx", "dy"] (Iw K)
noncomputable abbrev qy:=Bk P w K mg base 2 "blocks_of" ["picture"] (yc K)
noncomputable abbrev jS:=Bk P w K mg base 2 "begun_between" ["pairs", "first", "last"] (p6 K)
noncomputable abbrev yA:=Bk P w K mg base 2 "_law_cells" ["_law_script", "_law_x", "_law_y"] (Fo K)
noncomputable abbrev Cy:=Bk P w K mg base 2 "_law_form" ["_law_script"] (Iu K)
noncomputable abbrev yB:=Bk P w K mg base 2 "_law_cores" ["_law_cells_here", "_law_form_here"] (Fp K)
noncomputable abbrev sn:=Bk P w K mg base 3 "row_less" ["one", "other"] (AB K)
noncomputable abbrev FZ:=Bk P w K mg base 3 "join" ["one", "other"] (KJ K)
noncomputable abbrev si:=Bk P w K mg base 3 "common" ["one", "other"] (Fs K)
noncomputable abbrev vJ:=Bk P w K mg base 3 "reached" ["picture", "box", "block"] (Ch K)
noncomputable abbrev Cz:=Bc P w K mg base 3 "Shape" ["self", "picture"] (iC K)
noncomputable abbrev F0:=Bk P w K mg base 4 "less" ["one", "other"] (KL K)
noncomputable abbrev l6:=Bk P w K mg base 4 "spread_down" ["picture", "by"] (uH K)
noncomputable abbrev l5:=Bk P w K mg base 4 "shrunk_down" ["picture", "by"] (uG K)
noncomputable abbrev gO:=Bk P w K mg base 5 "greater_by_block" ["picture", "block"] (lV K)
noncomputable abbrev gP:=Bk P w K mg base 5 "smaller_by_block" ["picture", "block"] (lW K)
noncomputable abbrev il:=Bk P w K mg base 6 "greater_by_part" ["picture", "blocks"] (nv K)
noncomputable abbrev im:=Bk P w K mg base 6 "smaller_by_part" ["picture", "blocks"] (nz K)
noncomputable abbrev ki:=Bm P w K mg base 7 "greater" NS ["self", "picture"] (j9 K)
noncomputable abbrev gN:=Bm P w K mg base 7 "smaller" NS ["self", "picture"] (ka K)
noncomputable abbrev l7:=Bk P w K mg base 8 "taken_apart" ["picture", "form", "most"] (uI K)
noncomputable abbrev kj:=Bk P w K mg base 8 "has_one_cell" ["form"] (rD K)
noncomputable abbrev CA:=Bk P w K mg base 9 "cores" ["picture", "form", "most"] (Iv K)
noncomputable abbrev Oa:=Bk P w K mg base 10 "law" ["_law_script"] (yd K)
end
section
variable {P:Program}{w:World}{K:Frag}{mg:Xv}{base:Heap}
local macro_rules | `(tactic| ac_rfl)=>`(tactic| exact ⟨rfl,rfl,rfl,by decide +kernel,rfl,by decide +kernel,by decide +kernel⟩)
seal CallR OpR PA PC PE PG PGs PI PIf PIp PO PS LG PSs PT PW wZ yD UnR binaryOp compareOp CU iw JI Mb GF HF rAppend Ku rExtM rI rI0 HG rIx HH HJ rReverse HN Kv rU NF Iz yg NG tB tBM NH tC tCB qP wM ie uN IB Fx IC tG KW uO KY yh yi uP DI p8 yj NI tOp tOr IE IG KZ tSl p9 DJ K0 tUn jm Ci unaryOp
set_option hygiene false in
local macro_rules | `(tactic| and_intros)=>`(tactic| repeat' first | exact pv _ | refine aW ?_ ?_ | exact bn | exact ML | refine cQ ?_ | refine aB ?_ ?_ | refine pix ?_ ?_ | refine BW ?_ | refine pcl (by assumption) hr ?_ | refine hZ ?_ | refine pst _ nd ?_ | refine uh ?_ | refine Lj ?_ ?_ ?_ | refine OY ?_ ?_ | refine Ht ?_ ?_ | exact KN | refine Iy ?_ ?_ Bv | exact Dk | refine ptc ?_ ?_ ?_ | refine MR rfl ?_ | exact Ki | exact NN | exact pgn _ nd | exact MF | refine ND ?_ | exact KQ | refine Hz ?_ ?_ ?_ | exact Dw | refine MM ?_ | exact MB | exact xT | exact Ka | refine nk Vq rfl ?_ ?_ ?_ | exact Hi hr.units | refine Dr WC PySem.F.slot_list_append PySem.F.type_list_append pO ?_ ?_ | exact OU | refine cF D6 (by rfl) T.len A2 ?_ | exact MD hr.units | refine PW.pt (HE ?_ ?_) | exact OT | exact OW | refine Ko ?_ | refine Ab Vq ?_ ?_ | refine HE ?_ ?_ | refine Kt ?_ | refine PW.pt (Lk ?_ ?_) | exact MC | refine cF (D9 rfl) (by rfl) T.min Ge ?_ | refine jf dP (by rfl) T.tuple i4 ?_ | refine Hq QU ?_ ?_ ?_ | refine MQ ?_ ?_ Ik | refine Kj ?_ | refine MW ?_ ?_ | refine MX nd rfl (.inl rfl) ?_ Ml | refine Lk ?_ ?_ | refine M2 ?_ | exact OQ | refine cF (D8 rfl) (by rfl) T.max Gd ?_ | refine Ke ?_ ?_ ?_ (Hc _) | exact Hl | exact rR nd rfl (.inr rfl) | refine MS ?_ | refine E2 (by rfl) T.range ?_ | refine pmt (by assumption) hr ?_ ?_ | exact Kn | refine Kp (un1 hr.units) ?_ ?_ ?_ (by rfl) | refine xS _ ?_ | refine M0 ?_ | exact ME | refine cF D5 (by rfl) T.isinstance u6 ?_ | refine Kg T.cN ?_ rfl | exact HA | refine Hk (un1 hr.units) ?_ ?_ | refine wE (un1 hr.units) ?_ ?_ | refine MH ?_ ?_ | exact Dq (v:=.ty "list") (by rfl) T.list Jp rfl | exact Dq (v:=.ty "tuple") (by rfl) T.tuple i4 rfl | refine Dr WC PySem.F.slot_list_extend PySem.F.type_list_extend Db ?_ ?_ | refine MI WC PySem.F.slot_list_reverse PySem.F.type_list_reverse BL ?_ | refine cF D7 (by rfl) T.len A2 ?_ | refine MJ (Hk (un1 hr.units) ?_ ?_) | exact Hm (by rfl) T.ONE_CELL.choose_spec.choose_spec.1 T.ONE_CELL.choose_spec.choose_spec.2.1 T.ONE_CELL.choose_spec.choose_spec.2.2 | refine BV hr.units T.len T.set ?_ | exact MN | refine zX hr.units T.sorted T.set ?_ | refine E3 (by rfl) T.range ?_ | refine E4 (by rfl) T.range ?_ | refine MU (by rfl) T.reversed ?_ | refine pmk (by assumption) hr ?_ | refine MZ (wE (un1 hr.units) ?_ ?_) | exact pgc _ | refine rS ?_ | refine Ac ?_ (fun _=>rfl) | refine B2 nd rfl (.inr rfl) ?_ | refine MO ?_)
set_option hygiene false in
local macro_rules | `(tactic| bv_omega)=>`(tactic| (intro nd _ _ _ _ _ _ hr;(conv=>arg 2;whnf);(with_reducible conv=>arg 3;whnf)))
def pZ:FnScope ["self", "parts"] ["self", "parts"] (aw gc):=by ac_rfl
def oH:FnScope ["self", "picture"] ["self", "picture"] (aw fE):=by ac_rfl
def pS (F:Fun K "__init__" "Form.__init__" gc f fd) (T:Txt P w K mg base):FnOk P w K mg base CX0 1 f fd ["self", "parts"] (jl K):=by refine F.ok pZ (fun vs H Q E h=>h.1) (fun cdv A outer s H vs Q E hr h=>?_);exact⟨_,cQ (MY (pv 0) (pv 1) rfl),GM T.cN h⟩
def zP (F:Fd K "_law_cell_at" uu f fd) (T:Txt P w K mg base):jx P w K mg base f fd:=F.ok (N:=["_law_script", "_law_k"]) T.mo (zY K)
def zQ (F:Fd K "_law_greater" uw f fd) (T:Txt P w K mg base):sf P w K mg base f fd:=F.ok (N:=["_law_there", "_law_form_here", "_law_more", "_law_x", "_law_y", "_law_dx", "_law_dy"]) T.mo (zZ K)
def BN (F:Fd K "_law_points" pW f fd) (T:Txt P w K mg base):oY P w K mg base f fd:=F.ok (N:=["_law_cells_here", "_law_rows", "_law_y", "_law_x"]) T.mo (BX K) (by bv_omega;exact aB (by and_intros) (aB (nk Vq rfl (uh (cF eT (by rfl) T.sorted gy (aW (pec (show CmpOk ["_law_cells_here", "_law_rows", "_law_y", "_law_x"] (aw pW) _ ["_law_x", "_law_y"] [none,none] from dq)) bn))) (by and_intros) (by and_intros)) (by and_intros)))
def BO (F:Fd K "_law_signed" wJ f fd) (T:Txt P w K mg base):vI P w K mg base f fd:=F.ok (N:=["_law_cell", "_law_most"]) T.mo (BZ K)
def zR (F:Fd K "_law_smaller" nt f fd) (T:Txt P w K mg base):sg P w K mg base f fd:=F.ok (N:=["_law_there", "_law_form_here", "_law_left", "_law_first", "_law_x", "_law_y"]) T.mo (z8 K) (by bv_omega;exact aB (by and_intros) (aB (by and_intros) (aB (nk Vq rfl (by and_intros) (by and_intros) (cQ (Hz (Ac (cF (D4 rfl) (by rfl) T.all L0 (aW (pec (show CmpOk ["_law_there", "_law_form_here", "_law_left", "_law_first", "_law_x", "_law_y"] (aw nt) _ ["_law_dx", "_law_dy", "_law_there", "_law_x", "_law_y", "_law_first"] [none,none,some 0,some 4,some 5,some 3] from dq)) bn)) (fun _=>rfl)) (by and_intros) xT))) (by and_intros))))
def EX (F:Fd K "box_of" oE f fd) (T:Txt P w K mg base):yC P w K mg base f fd:=F.ok (N:=["picture", "left", "right"]) T.mo (E7 K) (by bv_omega;exact aB (by and_intros) (aB (pst 1 nd (cF (A4 rfl) (by rfl) T.min Ge (aW (pec (show CmpOk ["picture", "left", "right"] (aw oE) _ ["y", "row"] [none,none] from dq)) bn))) (aB (pst 2 nd (cF (A3 rfl) (by rfl) T.max Gd (aW (pec (show CmpOk ["picture", "left", "right"] (aw oE) _ ["y", "row"] [none,none] from dq)) bn))) (by and_intros))))
def t9 (F:Fd K "count_up_to" ml f fd) (T:Txt P w K mg base):iE P w K mg base f fd:=F.ok (N:=["pairs", "number", "low", "high", "middle"]) T.mo (uk K)
def vo (F:Fd K "row_common" oG f fd) (T:Txt P w K mg base):jy P w K mg base f fd:=F.ok (N:=["one", "other", "shared", "here", "there", "a", "b"]) T.mo (vw K)
def xN (F:Fd K "row_moved" kW f fd) (T:Txt P w K mg base):qz P w K mg base f fd:=F.ok (N:=["row", "by"]) T.mo (xR K) (by bv_omega;exact cQ (hZ (jf dP (by rfl) T.tuple i4 (aW (pec (show CmpOk ["row", "by"] (aw kW) _ ["a", "b", "by"] [none,none,some 1] from dq)) bn))))
def E1 (F:Fd K "row_of" uz f fd) (T:Txt P w K mg base):nM P w K mg base f fd:=F.ok (N:=["pairs", "stretches", "a", "b"]) T.mo (Fa K) (by bv_omega;exact aB (by and_intros) (aB (nk Vq rfl (uh (cF eT (by rfl) T.sorted gy (aW (pec (show CmpOk ["pairs", "stretches", "a", "b"] (aw uz) _ ["a", "b"] [none,none] from dq)) bn))) (by and_intros) (by and_intros)) (by and_intros)))
def m6 (F:Fd K "rows_with_cells" fe f fd) (T:Txt P w K mg base):bV P w K mg base f fd:=F.ok (N:=["rows"]) T.mo (nh K) (by bv_omega;exact cQ (hZ (jf dP (by rfl) T.tuple i4 (aW (pec (show CmpOk ["rows"] (aw fe) _ ["y", "row"] [none,none] from dq)) bn))))
def rn (F:Fd K "stretches_of" h9 f fd) (T:Txt P w K mg base):eO P w K mg base f fd:=F.ok (N:=["picture", "stretches", "y", "row"]) T.mo (rC K) (by bv_omega;exact aB (by and_intros) (aB (nk Vq rfl (by and_intros) (by and_intros) (cQ (rS (Dr WC PySem.F.slot_list_extend PySem.F.type_list_extend Db (pv 1) (aW (pec (show CmpOk ["picture", "stretches", "y", "row"] (aw h9) _ ["a", "b", "y"] [none,none,some 2] from dq)) bn))))) (by and_intros)))
def EV (F:Fd K "_law_cells" Am f fd) (T:Txt P w K mg base) (fj:jx P w K mg base mL kr):yA P w K mg base f fd:=F.ok (N:=["_law_script", "_law_x", "_law_y", "_law_cells_here", "_law_k", "_law_bits", "_law_j", "_law_right"]) T.mo (E5 K)
def EW (F:Fd K "_law_cores" uv f fd) (T:Txt P w K mg base) (rY:sg P w K mg base Bp zb) (rX:sf P w K mg base Bo za) (iR:oY P w K mg base v9 sU):yB P w K mg base f fd:=F.ok (N:=["_law_cells_here", "_law_form_here", "_law_there", "_law_cell", "_law_found", "_law_small", "_law_opened"]) T.mo (E6 K) (by bv_omega;exact aB (by and_intros) (aB (by and_intros) (aB (by and_intros) (aB (Ab Vq (by and_intros) (aB (by and_intros) (aB (by and_intros) (aB (xS 6 (xS 2 (rS (Dr WC PySem.F.slot_list_append PySem.F.type_list_append pO (pv 4) (aW (pcl iR hr (aW (pec (show CmpOk ["_law_cells_here", "_law_form_here", "_law_there", "_law_cell", "_law_found", "_law_small", "_law_opened"] (aw uv) _ ["_law_cell", "_law_opened"] [none,some 6] from dq)) bn)) bn))))) (by and_intros))))) (by and_intros)))))
def Hf (F:Fd K "_law_form" xV f fd) (T:Txt P w K mg base) (fj:jx P w K mg base mL kr):Cy P w K mg base f fd:=F.ok (N:=["_law_script", "_law_cells_here", "_law_k", "_law_cell", "_law_by"]) T.mo (Hv K) (by bv_omega;exact aB (by and_intros) (aB (by and_intros) (aB (by and_intros) (aB (by and_intros) (cQ (hZ (pec (show CmpOk ["_law_script", "_law_cells_here", "_law_k", "_law_cell", "_law_by"] (aw xV) _ ["_law_x", "_law_y", "_law_by"] [none,none,some 4] from dq))))))))
def pT (F:Fd K "begun_between" j7 f fd) (T:Txt P w K mg base) (fI:iE P w K mg base l8 kt):jS P w K mg base f fd:=F.ok (N:=["pairs", "first", "last"]) T.mo (pV K)
def xM (F:Fd K "blocks_of" kT f fd) (T:Txt P w K mg base) (cz:eO P w K mg base gW f6):qy P w K mg base f fd:=F.ok (N:=["picture", "blocks", "a", "b", "y"]) T.mo (xQ K) (by bv_omega;exact aB (by and_intros) (aB (nk Vq rfl (uh (cF eT (by rfl) T.sorted gy (aW (pec (show CmpOk ["picture", "blocks", "a", "b", "y"] (aw kT) _ ["y", "a", "b"] [none,none,none] from dq)) bn))) (by and_intros) (by and_intros)) (by and_intros)))
def Hh (F:Fd K "moved" xW f fd) (T:Txt P w K mg base) (qw:qz P w K mg base y9 xp):wY P w K mg base f fd:=F.ok (N:=["picture", "dx", "dy"]) T.mo (Hx K) (by bv_omega;exact cQ (hZ (jf dP (by rfl) T.tuple i4 (aW (pec (show CmpOk ["picture", "dx", "dy"] (aw xW) _ ["y", "row", "dy", "dx"] [none,none,some 2,some 1] from dq)) bn))))
def vn (F:Fd K "picture_of" gw f fd) (T:Txt P w K mg base) (fN:nM P w K mg base sS pd):gi P w K mg base f fd:=F.ok (N:=["stretches", "pairs_by_row", "y", "a", "b"]) T.mo (vt K) (by bv_omega;exact aB (by and_intros) (aB (nk Vq rfl (uh (cF eT (by rfl) T.sorted gy (aW (pec (show CmpOk ["stretches", "pairs_by_row", "y", "a", "b"] (aw gw) _ ["y", "a", "b"] [none,none,none] from dq)) bn))) (by and_intros) (by and_intros)) (cQ (hZ (jf dP (by rfl) T.tuple i4 (aW (pec (show CmpOk ["stretches", "pairs_by_row", "y", "a", "b"] (aw gw) _ ["y", "pairs"] [none,none] from dq)) bn))))))
def EZ (F:Fd K "row_at" Ao f fd) (T:Txt P w K mg base) (fI:iE P w K mg base l8 kt):sj P w K mg base f fd:=F.ok (N:=["picture", "y", "begun"]) T.mo (E9 K)
def vp (F:Fd K "row_either" fc f fd) (T:Txt P w K mg base) (fN:nM P w K mg base sS pd):nL P w K mg base f fd:=F.ok (N:=["one", "other", "stretches", "changes"]) T.mo (vx K) (by bv_omega;exact aB (by and_intros) (aB (B2 (i:=3) nd rfl (.inr rfl) (cF eT (by rfl) T.sorted gy (aW (Lj Dk (pec (show CmpOk ["one", "other", "stretches", "changes"] (aw fc) _ ["a", "b"] [none,none] from dq)) (pec (show CmpOk ["one", "other", "stretches", "changes"] (aw fc) _ ["a", "b"] [none,none] from dq))) bn))) (cQ (hZ (pcl fN hr (aW (pec (show CmpOk ["one", "other", "stretches", "changes"] (aw fc) _ ["k", "changes"] [none,some 3] from dq)) bn))))))
def vq (F:Fd K "row_shrunk" jM f fd) (T:Txt P w K mg base) (fN:nM P w K mg base sS pd):nN P w K mg base f fd:=F.ok (N:=["row", "low", "high"]) T.mo (vz K) (by bv_omega;exact cQ (hZ (pcl fN hr (aW (pec (show CmpOk ["row", "low", "high"] (aw jM) _ ["a", "b", "low", "high"] [none,none,some 1,some 2] from dq)) bn))))
def oz (F:Fun K "__init__" "Shape.__init__" fE f fd) (T:Txt P w K mg base) (ke:qy P w K mg base y6 xo) (AB_Form:Cw P w K mg base c_Form f_Form___init__ o9):FnOk P w K mg base CX0 3 f fd ["self", "picture"] (iC K):=by refine F.ok oH (fun vs H Q E h=>h.1) (fun cdv A outer s H vs Q E hr h=>?_);exact⟨_,aB (Hz (ptc (Hi hr.units) (pv 1) (BW bn)) Fc xT) (cQ (rS (BU AB_Form.cf (by rfl) AB_Form.g AB_Form.G (hr.mono (by decide)) AB_Form.b Dp (aW (pv 0) (aW (BW (aW (pcl ke hr (aW (pv 1) bn)) bn)) bn))))),GO (Ie (SE.p (PB (Pg false) (Ih 1) ((Ig xY).p)))) (Ig (xX (Ia (E:=E0) (xX (Ls 1) xY) (zr (fun _ _ h=>C6 h))) xY)) rfl h⟩
def EY (F:Fd K "common" ux f fd) (T:Txt P w K mg base) (aF:bV P w K mg base dc cK) (gf:jy P w K mg base n8 l9) (nF:sj P w K mg base y8 wb):si P w K mg base f fd:=F.ok (N:=["one", "other"]) T.mo (E8 K) (by bv_omega;exact cQ (hZ (pcl aF hr (aW (pec (show CmpOk ["one", "other"] (aw ux) _ ["y", "row", "other"] [none,none,some 1] from dq)) bn))))
def J8 (F:Fd K "join" Ib f fd) (T:Txt P w K mg base) (dA:gi P w K mg base jB iI) (cz:eO P w K mg base gW f6):FZ P w K mg base f fd:=F.ok (N:=["one", "other"]) T.mo (Kl K)
def BP (F:Fd K "reached" pY f fd) (T:Txt P w K mg base) (jR:jS P w K mg base qX pb) (aF:bV P w K mg base dc cK):vJ P w K mg base f fd:=F.ok (N:=["picture", "box", "block", "rows"]) T.mo (B0 K) (by bv_omega;exact aB (by and_intros) (cQ (hZ (pcl aF hr (aW (pec (show CmpOk ["picture", "box", "block", "rows"] (aw pY) _ ["y", "row", "box", "block"] [none,none,some 1,some 2] from dq)) bn)))))
def zS (F:Fd K "row_less" uy f fd) (T:Txt P w K mg base) (nG:nL P w K mg base xm vd) (gf:jy P w K mg base n8 l9):sn P w K mg base f fd:=F.ok (N:=["one", "other"]) T.mo (z9 K)
def J9 (F:Fd K "less" B6 f fd) (T:Txt P w K mg base) (aF:bV P w K mg base dc cK) (rZ:sn P w K mg base Bq zd) (nF:sj P w K mg base y8 wb):F0 P w K mg base f fd:=F.ok (N:=["one", "other"]) T.mo (Km K) (by bv_omega;exact cQ (hZ (pcl aF hr (aW (pec (show CmpOk ["one", "other"] (aw B6) _ ["y", "row", "other"] [none,none,some 1] from dq)) bn))))
def ua (F:Fd K "shrunk_down" mm f fd) (T:Txt P w K mg base) (nD:si P w K mg base y7 wa) (rH:wY P w K mg base CS zc):l5 P w K mg base f fd:=F.ok (N:=["picture", "by", "done", "step"]) T.mo (ul K)
def ub (F:Fd K "spread_down" mr f fd) (T:Txt P w K mg base) (FM:FZ P w K mg base L6 JA) (rH:wY P w K mg base CS zc):l6 P w K mg base f fd:=F.ok (N:=["picture", "by", "done", "step"]) T.mo (um K)
def lP (F:Fd K "greater_by_block" eB f fd) (T:Txt P w K mg base) (cz:eO P w K mg base gW f6) (lZ:l6 P w K mg base u8 sW) (dA:gi P w K mg base jB iI):gO P w K mg base f fd:=F.ok (N:=["picture", "block", "wide"]) T.mo (lR K) (by bv_omega;exact aB (Kq (i:=2) (hN:=nd) (hi0:=rfl) (hx:=Or.inl rfl) (ck:=(show CmpOk ["picture", "block", "wide"] (aw eB) _ ["y", "a", "b", "block"] [none,none,none,some 1] from dq)) (hi:=(by and_intros)) (hg:=fun _=>(by and_intros)) (hs:=(by and_intros)) (ht:=fun _=>Dw) (he:=fun _=>(by and_intros))) (by and_intros))
def lQ (F:Fd K "smaller_by_block" eD f fd) (T:Txt P w K mg base) (aF:bV P w K mg base dc cK) (nH:nN P w K mg base xn ve) (lY:l5 P w K mg base u7 sV):gP P w K mg base f fd:=F.ok (N:=["picture", "block", "narrow"]) T.mo (lS K) (by bv_omega;exact aB (pst 2 nd (pcl aF hr (aW (pec (show CmpOk ["picture", "block", "narrow"] (aw eD) _ ["y", "row", "block"] [none,none,some 1] from dq)) bn))) (by and_intros))
def m5 (F:Fd K "greater_by_part" iA f fd) (T:Txt P w K mg base) (gG:gO P w K mg base mM lL) (dA:gi P w K mg base jB iI):il P w K mg base f fd:=F.ok (N:=["picture", "blocks", "stretches", "block"]) T.mo (nc K)
def m7 (F:Fd K "smaller_by_part" iB f fd) (T:Txt P w K mg base) (gH:gP P w K mg base mN lM) (nD:si P w K mg base y7 wa) (vH:vJ P w K mg base Ei Bu) (yu:yC P w K mg base Gv Em):im P w K mg base f fd:=F.ok (N:=["picture", "blocks", "kept", "block"]) T.mo (nj K)
def rg (F:Fun K "greater" "Form.greater" kR f fd) (T:Txt P w K mg base) (ij:il P w K mg base n6 mO):FnOk P w K mg base CX0 7 f fd ["self", "picture"] (j9 K):=F.okm (N:=["self", "picture", "blocks"]) (rp K)
def rh (F:Fun K "smaller" "Form.smaller" kS f fd) (T:Txt P w K mg base) (ik:im P w K mg base n9 mP):FnOk P w K mg base CX0 7 f fd ["self", "picture"] (ka K):=F.okm (N:=["self", "picture", "blocks"]) (rA K)
def rk (F:Fd K "has_one_cell" kU f fd) (T:Txt P w K mg base) (eM:gN P w K mg base f_Form_smaller jV):kj P w K mg base f fd:=F.ok (N:=["form"]) T.mo (rB K)
def uc (F:Fd K "taken_apart" mw f fd) (T:Txt P w K mg base) (FN:F0 P w K mg base L7 JB) (eM:gN P w K mg base f_Form_smaller jV) (kd:ki P w K mg base f_Form_greater qY):l7 P w K mg base f fd:=F.ok (N:=["picture", "form", "most", "layers", "left", "smaller"]) T.mo (uo K)
def Hg (F:Fd K "cores" DD f fd) (T:Txt P w K mg base) (kf:kj P w K mg base sR qZ) (l4:l7 P w K mg base u9 sX):CA P w K mg base f fd:=F.ok (N:=["picture", "form", "most", "layers"]) T.mo (Hw K)
def Mz (F:Fd K "law" Lr f fd) (T:Txt P w K mg base) (fj:jx P w K mg base mL kr) (vG:vI P w K mg base Eh Br) (yr:yA P w K mg base Gs Ej) (Ct:Cy P w K mg base Jy Gw) (iR:oY P w K mg base v9 sU) (yt:yB P w K mg base Gu Ek) (Cu:CA P w K mg base Jz Gx) (A_Shape:Cz P w K mg base c_Shape dE oe):Oa P w K mg base f fd:=F.ok (N:=["_law_script", "_law_first", "_law_x", "_law_y", "_law_cells_here", "_law_form_here", "_law_picture", "_law_due", "_law_shape", "_law_found", "_law_core"]) T.mo (MV K)
end
def LM {l:OpenLaw}{w:World}{K:Frag}{h:Heap}{mg:Xv}{fa:Addr}(X:K.In h)(G:h.Ns mainGlobals mg)(hfa:mg "law" = some (.ref fa))
  {g_ONE_CELL_0:Addr} {od_ONE_CELL_0:Option Addr} {n_ONE_CELL_0:Nat} {sl_ONE_CELL_0:Array (Xx)}
  {g_ONE_CELL_1:Addr} {od_ONE_CELL_1:Option Addr} {n_ONE_CELL_1:Nat} {sl_ONE_CELL_1:Array (Xx)}
  {t_ONE_CELL_1_0:Tok}
  {g_ONE_CELL_2:Addr} {od_ONE_CELL_2:Option Addr} {n_ONE_CELL_2:Nat} {sl_ONE_CELL_2:Array (Xx)}
  {g_ONE_CELL_3:Addr} {od_ONE_CELL_3:Option Addr} {n_ONE_CELL_3:Nat} {sl_ONE_CELL_3:Array (Xx)}
  {t_ONE_CELL_3_0:Tok}
  {t_ONE_CELL_3_1:Tok}
  (n_Shape:nsIn K mainGlobals "Shape" = some (some (.ref c_Shape)))
  (n_Form:nsIn K mainGlobals "Form" = some (some (.ref c_Form)))
  (FJ:findIn K (.ref c_Form) "__init__" = some (some (.ref f_Form___init__)))
  (FK:isFn K (.ref f_Form___init__)=true)
  (F1:findIn K (.ref c_Shape) "greater" = some (some (.ref f_Form_greater)))
  (tp:isFn K (.ref f_Form_greater)=true)
  (F2:findIn K (.ref c_Shape) "smaller" = some (some (.ref f_Form_smaller)))
  (tq:isFn K (.ref f_Form_smaller)=true)
  (oZ:findIn K (.ref c_Shape) "__init__" = some (some (.ref dE)))
  (pi:isFn K (.ref dE)=true)
  (fY:Fun K "__init__" "Form.__init__" gc f_Form___init__ o9)
  (gK:Fun K "greater" "Form.greater" kR f_Form_greater qY)
  (gL:Fun K "smaller" "Form.smaller" kS f_Form_smaller jV)
  (iU:Fun K "__init__" "Shape.__init__" fE dE oe)
  (FV:Fd K "row_of" uz sS pd)
  (uZ:Fd K "count_up_to" ml l8 kt)
  (wU:Fd K "row_common" oG n8 l9)
  (AW:Fd K "row_less" uy Bq zd)
  (wV:Fd K "row_either" fc xm vd)
  (yw:Fd K "row_moved" kW y9 xp)
  (wW:Fd K "row_shrunk" jM xn ve)
  (wT:Fd K "picture_of" gw jB iI)
  (se:Fd K "stretches_of" h9 gW f6)
  (FU:Fd K "row_at" Ao y8 wb)
  (nJ:Fd K "rows_with_cells" fe dc cK)
  (Lz:Fd K "join" Ib L6 JA)
  (FS:Fd K "common" ux y7 wa)
  (LA:Fd K "less" B6 L7 JB)
  (FQ:Fd K "box_of" oE Gv Em)
  (Jg:Fd K "moved" xW CS zc)
  (yv:Fd K "blocks_of" kT y6 xo)
  (u3:Fd K "spread_down" mr u8 sW)
  (u0:Fd K "shrunk_down" mm u7 sV)
  (mz:Fd K "greater_by_block" eB mM lL)
  (nI:Fd K "greater_by_part" iA n6 mO)
  (mB:Fd K "smaller_by_block" eD mN lM)
  (nK:Fd K "smaller_by_part" iB n9 mP)
  (DV:Fd K "reached" pY Ei Bu)
  (qT:Fd K "begun_between" j7 qX pb)
  (u4:Fd K "taken_apart" mw u9 sX)
  (sd:Fd K "has_one_cell" kU sR qZ)
  (Jf:Fd K "cores" DD Jz Gx)
  (AS:Fd K "_law_cell_at" uu mL kr)
  (DU:Fd K "_law_signed" wJ Eh Br)
  (FO:Fd K "_law_cells" Am Gs Ej)
  (Je:Fd K "_law_form" xV Jy Gw)
  (DT:Fd K "_law_points" pW v9 sU)
  (AV:Fd K "_law_smaller" nt Bp zb)
  (AU:Fd K "_law_greater" uw Bo za)
  (FP:Fd K "_law_cores" uv Gu Ek)
  (FT:Fd K "law" Lr RM L8)
  (pg_Shape:plainGet K c_Shape Str.empty=true)
  (hd_Shape:hasDictIn K c_Shape=true)
  (po_Shape:plainOver K c_Shape=true)
  (sa_Shape:findIn K (.ref c_Shape) "__setattr__" = some (some (.builtin "object.__setattr__")))
  (mk_Shape:makesIn K c_Shape=true)
  (kc_Shape:keepIn K (.ref c_Shape)=true)
  (np_Shape:findIn K (.ref c_Shape) "parts" = some none)
  (mm_Shape_greater:findIn K (.ref c_Shape) "greater" = some (some (.ref f_Form_greater)))
  (mm_Shape_smaller:findIn K (.ref c_Shape) "smaller" = some (some (.ref f_Form_smaller)))
  (bs_Form:specialIn K (.ref c_Form) "__getattribute__" = some (some (.builtin "type.__getattribute__")))
  (br_Form:readsIn K c_Form (.type "type")=true)
  (bf_Form:findCls K (.ref c_Form) (.type "type") "__init__" = some (.val (.ref f_Form___init__)))
  (z_all:nsIn K mainGlobals "all" = some none)
  (z_isinstance:nsIn K mainGlobals "isinstance" = some none)
  (z_len:nsIn K mainGlobals "len" = some none)
  (z_list:nsIn K mainGlobals "list" = some none)
  (z_max:nsIn K mainGlobals "max" = some none)
  (z_min:nsIn K mainGlobals "min" = some none)
  (z_range:nsIn K mainGlobals "range" = some none)
  (z_reversed:nsIn K mainGlobals "reversed" = some none)
  (z_set:nsIn K mainGlobals "set" = some none)
  (z_sorted:nsIn K mainGlobals "sorted" = some none)
  (z_tuple:nsIn K mainGlobals "tuple" = some none)
  (y_ONE_CELL:nsIn K mainGlobals "ONE_CELL" = some (some (.ref g_ONE_CELL_0)))
  (v_ONE_CELL_0:K.lookup g_ONE_CELL_0=some ⟨.type "tuple",od_ONE_CELL_0,.seq #[.ref g_ONE_CELL_1] n_ONE_CELL_0,sl_ONE_CELL_0⟩)
  (v_ONE_CELL_1:K.lookup g_ONE_CELL_1=some ⟨.type "tuple",od_ONE_CELL_1,.seq #[.int (0) t_ONE_CELL_1_0,.ref g_ONE_CELL_2] n_ONE_CELL_1,sl_ONE_CELL_1⟩)
  (v_ONE_CELL_2:K.lookup g_ONE_CELL_2=some ⟨.type "tuple",od_ONE_CELL_2,.seq #[.ref g_ONE_CELL_3] n_ONE_CELL_2,sl_ONE_CELL_2⟩)
  (v_ONE_CELL_3:K.lookup g_ONE_CELL_3=some ⟨.type "tuple",od_ONE_CELL_3,.seq #[.int (0) t_ONE_CELL_3_0,.int (0) t_ONE_CELL_3_1] n_ONE_CELL_3,sl_ONE_CELL_3⟩)
  : ∃fd:FuncData,(∀(s:Shared) (v:Value),BindsTo s fd ⟨[v],[]⟩ [("_law_script",v)])/\∀base:Heap,K.In base->base.Ns mainGlobals mg->FnOk l.prog w K mg base CX0 10 fa fd ["_law_script"] (yd K):=by
 have e:=hfa.symm.trans (mg_of X G FT.a);cases e;have qV:uY K NS fun C=>Cls K C/\Meth K C "greater" f_Form_greater:=o7 n_Shape ⟨⟨pg_Shape,hd_Shape,po_Shape,sa_Shape⟩,⟨mm_Shape_greater,tp,gK.kp⟩⟩ (sI);have qW:uY K NS fun C=>Cls K C/\Meth K C "smaller" f_Form_smaller:=o7 n_Shape ⟨⟨pg_Shape,hd_Shape,po_Shape,sa_Shape⟩,⟨mm_Shape_smaller,tq,gL.kp⟩⟩ (sI);have M_Shape:Mk K c_Shape dE:=⟨mk_Shape,oZ,pi,kc_Shape⟩
 have cf_Form:ClsFn K c_Form "__init__" f_Form___init__:=⟨bs_Form,br_Form,bf_Form,fY.kp⟩
 obtain⟨_,_,_,_,_,_,_,_,_,hfd,_⟩:=FT.F.ex;refine⟨L8,fun s v=>.of_eq (by rw[hfd];rfl),fun base _ _=>?_⟩;have T:Txt l.prog w K mg base:=⟨fun _ _=>mg_of X G,UZ X G z_all,UZ X G z_isinstance,UZ X G z_len,UZ X G z_list,UZ X G z_max,UZ X G z_min,UZ X G z_range,UZ X G z_reversed,UZ X G z_set,UZ X G z_sorted,UZ X G z_tuple,⟨_,.ref _,mg_of X G y_ONE_CELL,rfl,fun S=>nY (xs:=[.ref g_ONE_CELL_1]) v_ONE_CELL_0 rfl rfl (Ud (show 1<=1000 by decide) (by rw[Uj];decide)) (.cons rfl (.nil)) (fun S=>Dens.cons (nY (xs:=[.int (0),.ref g_ONE_CELL_2]) v_ONE_CELL_1 rfl rfl (Ud (show 2<=1000 by decide) (by rw[Uj];decide)) (.cons ⟨_,rfl⟩ (.cons rfl (.nil))) (fun S=>Dens.cons (den_int.mpr rfl) (Dens.cons (nY (xs:=[.ref g_ONE_CELL_3]) v_ONE_CELL_2 rfl rfl (Ud (show 1<=1000 by decide) (by rw[Uj];decide)) (.cons rfl (.nil)) (fun S=>Dens.cons (nY (xs:=[.int (0),.int (0)]) v_ONE_CELL_3 rfl rfl (Ud (show 2<=1000 by decide) (by rw[Uj];decide)) (.cons ⟨_,rfl⟩ (.cons ⟨_,rfl⟩ (.nil))) (fun S=>Dens.cons (den_int.mpr rfl) (Dens.cons (den_int.mpr rfl) (Dens.nil))) S) (Dens.nil)) S) (Dens.nil))) S) (Dens.nil)) S⟩,o7 n_Shape ⟨⟨pg_Shape,hd_Shape,po_Shape,sa_Shape⟩,np_Shape⟩ (sI)⟩
 have AB_Form:Cw l.prog w K mg base _ _ _:=⟨pS fY T,fY.binds fun _ _ _ _ _ _ us hl=>by obtain⟨_,_,rfl⟩:=us2 hl;rfl,cf_Form,mg_of X G n_Form⟩
 have fj:=zP AS T;have rX:=zQ AU T;have iR:=BN DT T;have vG:=BO DU T;have rY:=zR AV T;have yu:=EX FQ T;have fI:=t9 uZ T;have gf:=vo wU T;have qw:=xN yw T;have fN:=E1 FV T;have aF:=m6 nJ T;have cz:=rn se T;have yr:=EV FO T fj;have yt:=EW FP T rY rX iR;have Ct:=Hf Je T fj;have jR:=pT qT T fI;have ke:=xM yv T cz;have rH:=Hh Jg T qw;have dA:=vn wT T fN;have nF:=EZ FU T fI;have nG:=vp wV T fN;have nH:=vq wW T fN;have A_Shape:Cz l.prog w K mg base _ _ _:=⟨oz iU T ke AB_Form,iU.binds fun _ _ _ _ _ _ us hl=>by obtain⟨_,_,rfl⟩:=us2 hl;rfl,n_Shape,M_Shape,mg_of X G n_Shape⟩
 have nD:=EY FS T aF gf nF;have FM:=J8 Lz T dA cz;have vH:=BP DV T jR aF;have rZ:=zS AW T nG gf;have FN:=J9 LA T aF rZ nF;have lY:=ua u0 T nD rH;have lZ:=ub u3 T FM rH;have gG:=lP mz T cz lZ dA;have gH:=lQ mB T aF nH lY;have ij:=m5 nI T gG dA;have ik:=m7 nK T gH nD vH yu;have kd:ki l.prog w K mg base _ _:=⟨rg gK T ij,gK.binds fun _ _ _ _ _ _ us hl=>by obtain⟨_,_,rfl⟩:=us2 hl;rfl,qV⟩
 have eM:gN l.prog w K mg base _ _:=⟨rh gL T ik,gL.binds fun _ _ _ _ _ _ us hl=>by obtain⟨_,_,rfl⟩:=us2 hl;rfl,qW⟩
 have kf:=rk sd T eM;have l4:=uc u4 T FN eM kd;have Cu:=Hg Jf T kf l4;exact (Mz FT T fj vG yr Ct iR yt Cu A_Shape).G
def Rp {l:OpenLaw}{q:Program}{loose:XB}{XP:(Xv)->Heap->Prop}{YP:World->Heap->Prop}{d:DefRec}{K:Params->Frag}(hn:l.most=some 63)(hdf:d.params.defaults=[])
  (hY:∀(w:World) (h:Heap),YP w h->(K w.params).In h)
  (F:∀(w:World) (mg:Xv) (fa:Addr) (h:Heap),(K w.params).In h->h.Ns mainGlobals mg->mg d.name=some (.ref fa) ->
   ∃fd:FuncData,(∀(s:Shared) (u:Value),BindsTo s fd ⟨[u],[]⟩ [("_law_script",u)])/\∀base:Heap,(K w.params).In base->base.Ns mainGlobals mg->FnOk l.prog w (K w.params) mg base CX0 10 fa fd ["_law_script"] (yd (K w.params))) :
  WalkO q loose XP YP l.row.toRowW d [] (fun f vs=>PySem.call f vs):=
 L2.K4 (n:=63) (k:=10) (x := "_law_script") (CX:=fun _=>CX0) (sp:=fun w=>yd (K w.params)) hn (by decide) hdf ⟨rfl,by decide,by decide⟩ hY F (fun _ H a ns hl _ hS=>M.Fv hS (GZ ns hl)) fun _ _ _ _ _ z=>z
end Lw
open PySem PySem.W PyProof.Rows
set_option maxRecDepth 100000 in
set_option maxHeartbeats 0 in
theorem PySem.Challenge.cw_shapethin_k63_cores_layer_by_layer_holds : PySem.Challenge.rw_shapethin_k63_cores_layer_by_layer.Holds := by
 w_on;refine holds_law Hd.e2 fun said=>?_
 refine holds_open (q:=Hd.q) (XP:=XL Hd.q []) (YP:=Hook.says Hd.H) (N:=100000) Hd.e1 (Hook.of Hd.H) (Hook.keeps Hd.H) (fun s e=>xl_of s (Xb.mp e).1) XL.keeps (by rfl) (by rfl) (by rfl) (fun s e=>recFacts_of (Xb.mp e).2) (by rfl) (by assumption) (by decide +kernel) ⟨rfl,rfl,rfl,rfl,rfl,by decide +kernel⟩ ?hw ?hc
 case hw=>w_witness2
 refine Lw.Rp (l := PySem.Challenge.rw_shapethin_k63_cores_layer_by_layer) rfl rfl (fun w h Y => kIn_of Y) ?F
 case F=>
  intro w mg fa h KX G hmg;refine' Lw.LM KX G hmg ?x0 ?x1 ?x2 ?x3 ?x4 ?x5 ?x6 ?x7 ?x8 ?x9 ?x10 ?x11 ?x12 ?x13 ?x14 ?x15 ?x16 ?x17 ?x18 ?x19 ?x20 ?x21 ?x22 ?x23 ?x24 ?x25 ?x26 ?x27 ?x28 ?x29 ?x30 ?x31 ?x32 ?x33 ?x34 ?x35 ?x36 ?x37 ?x38 ?x39 ?x40 ?x41 ?x42 ?x43 ?x44 ?x45 ?x46 ?x47 ?x48 ?x49 ?x50 ?x51 ?x52 ?x53 ?x54 ?x55 ?x56 ?x57 ?x58 ?x59 ?x60 ?x61 ?x62 ?x63 ?x64 ?x65 ?x66 ?x67 ?x68 ?x69 ?x70 ?x71 ?x72 ?x73 ?x74 ?x75 ?x76 ?x77 ?x78
  case x0|x1|x2|x3|x4|x5|x6|x7|x8|x9=>k_is
  case x10|x11|x12|x13=>exact L2.GD (by k_is) (by k_is) (by k_is)
  case x14|x15|x16|x17|x18|x19|x20|x21|x22|x23|x24|x25|x26|x27|x28|x29|x30|x31|x32|x33|x34|x35|x36|x37|x38|x39|x40|x41|x42|x43|x44|x45|x46|x47|x48|x49|x50=>exact⟨by k_is,L2.GD (by k_is) (by k_is) (by k_is)⟩
  case x51|x52|x53|x54|x55|x56|x57|x58|x59|x60|x61|x62|x63|x64|x65|x66|x67|x68|x69|x70|x71|x72|x73|x74|x75|x76|x77|x78=>k_is

import PyProof.Rows.All
import Wide.All
import OpenK.AllK
import Wide.FinOn
import Lean
import PyProof.EqAt
import PyProof.EqKinds
import PyProof.TupleCall
import PySem.Challenge.RW_shapethin_k62_sieves
set_option genSizeOf false
set_option bootstrap.genMatcherCode false
set_option compiler.extract_closed false
set_option linter.all false
set_option maxHeartbeats 4000000
set_option maxRecDepth 100000
def Tn:=@if_pos
def To:=@if_neg
def Tp:=@PySem.wpAny_bind
def Tq:=@PyProof.Rows.wpS_bind
def Tr:=@PyProof.Rows.wpS_pure
def Ts:=@List.mem_singleton
def Tt:=@List.length_map
def Tu:=@List.length_append
def Tv:=@PySem.wpAny_pure
def Tw:=@Nat.le_refl
def Tx:=@List.mem_cons_self
def Ty:=@List.mem_map
def Tz:=@List.length_cons
def TB:=@List.mem_append
def TC:=@List.mem_cons_of_mem
def TD:=@List.mem_cons
def TF:=@List.map_cons
def TH:=@List.mem_append_right
def TJ:=@List.mem_append_left
def TK:=@PySem.Heap.get?_push_of_some
def TM:=@PySem.Heap.lt_size
def TN:=@Int.le_refl
def TQ:=@congrArg
def TR:=@List.getElem?_eq_some_iff
def TU:=@List.map_map
def TV:=@List.size_toArray
def TW:=@List.getElem?_map
def TX:=@Nat.ne_of_lt
def TY:=@List.length_singleton
def TZ:=@PySem.Heap.get?_push_size
def T1:=@Nat.le_trans
def T2:=@Nat.zero_le
def T3:=@List.pairwise_append
def T4:=@List.mem_filter
def T5:=@decide_eq_false
def T6:=@Option.some.inj
def T7:=@List.map_append
def T8:=@List.append_assoc
def T9:=@Ne.symm
def Ua:=@List.lookup_cons
def Ub:=@PyProof.Rows.wpS_mono
def Uc:=@PyProof.Rows.wpS_forRange
def Ud:=@Nat.lt_of_lt_of_le
def Ue:=@List.append_nil
def Uf:=@List.getElem?_eq_getElem
def Ug:=@Iff.rfl
def Uh:=@List.eq_nil_or_concat
def Ui:=@Array.length_toList
def Uj:=@PySem.sizeLine_eq
def Uk:=@List.nodup_cons
def Ul:=@Bool.and_eq_true
def Um:=@List.pairwise_map
def Uo:=@List.concat_eq_append
def Uq:=@PySem.wpAny_mono
def Ur:=@beq_iff_eq
def Us:=@Nat.le_of_eq
def Ut:=@PySem.wpAny_newObj_type
def Uu:=@PyProof.Rows.wpS_modify
def Uv:=@Nat.le_of_lt
def Uw:=@PySem.W.kia_one
def Ux:=@PyProof.Rows.wpS_get
def Uy:=@List.length_range
def Uz:=@PySem.W.mg_none_of
def UA:=@decide_eq_true
def UB:=@List.getElem?_of_mem
def UC:=@Array.map_push
def UD:=@of_decide_eq_false
def UE:=@List.length_range'
def UF:=@List.sum_cons
def UG:=@Nat.add_mul
def UH:=@Nat.lt_irrefl
def UI:=@List.getElem?_set_ne
def UJ:=@List.length_filter_le
def UK:=@List.mem_range
def UL:=@PySem.wpAny_holding
def UM:=@Bool.false_ne_true
def UN:=@PySem.Heap.size_push
def UO:=@Nat.le_succ
def UP:=@of_decide_eq_true
def UQ:=@Nat.lt_of_le_of_lt
def UR:=@Int.natCast_add
def US:=@Prod.ext
def UT:=@if_false
def UU:=@PySem.wpAny_call_entry
def UV:=@List.length_set
def UW:=@List.pairwise_iff_getElem
def UX:=@PySem.wpAny_rule
def UY:=@Array.map_reverse
def UZ:=@List.length_eq_zero_iff
def U0:=@List.pairwise_cons
def U1:=@Nat.mul_le_mul_right
def U5:=@PySem.PassesOwn.never
def U6:=@List.filterMap_cons
def U7:=@Nat.lt_succ_self
def U8:=@if_true
def U9:=@PySem.wpAny_field
def Va:=@PyProof.Rows.wpS_lift
def Vb:=@List.drop_of_length_le
def Vc:=@List.nodup_append
def Vd:=@PySem.typeLookup_type
def Ve:=@PySem.builtinLookup_eq_fast
def Vf:=@PySem.wpAny_of_eq
def Vg:=@List.length_nil
def Vh:=@PySem.wpAny_passesOwn
def Vi:=@PyProof.Rows.callWith_type1
def Vj:=@PySem.mem_of_lookup
def Vk:=@List.getElem?_append_right
def Vl:=@List.mem_of_getElem?
def Vm:=@PySem.wpAny_callSpecial?_slot
def Vn:=@Array.toList_append
def Vo:=@Array.getElem?_toList
def Vp:=@PySem.isSubtype_type
def Vq:=@List.find?_cons
def Vr:=@List.mem_flatMap
def Vs:=@Nat.succ_mul
def Vt:=@Prod.mk.injEq
def Vu:=@PySem.Paired.length
def Vv:=@List.getElem?_set_self
def Vw:=@PySem.wpAny_Call_Name_kw
def Vx:=@List.length_take
def Vy:=@List.getElem?_append_left
def Vz:=@PyProof.Rows.slot_tuple_getitem
def VA:=@List.map_nil
def VB:=@List.all_eq_true
def VC:=@Nat.lt_succ_of_lt
def VD:=@PySem.wpAny_attempt
def VE:=@List.pairwise_singleton
def VF:=@Array.toList_push
def VG:=@List.getElem?_eq_none_iff
def VH:=@List.nil_append
def VI:=@List.not_mem_nil
def VJ:=@PySem.Obj.data_mapFields
def VL:=@List.map_congr_left
def VM:=@Nat.mul_le_mul_left
def VN:=@beq_eq_false_iff_ne
def VO:=@PySem.Heap.get?_update_self
def VP:=@decide_eq_true_eq
def VQ:=@Array.perm_iff_toList_perm
def VR:=@List.drop_eq_getElem_cons
def VS:=@Array.toList_extract
def VT:=@List.extract_eq_take_drop
def VU:=@List.getElem?_drop
def VV:=@List.take_of_length_le
def VW:=@List.ext_getElem?
def VX:=@List.zip_cons_cons
def VY:=@Int.toNat_natCast
def VZ:=@PySem.wpAny_specialOf
def V0:=@List.length_reverse
def V1:=@PySem.wpAny_setField
def V2:=@PySem.Heap.SameBut.update
def V3:=@PySem.F.slot_dict_keyiterator_next
def V4:=@List.range'_succ
def V5:=@List.sum_append
def V6:=@List.range_succ
def V7:=@Classical.skolem
def V8:=@Int.add_mul
def V9:=@PySem.wpAny_truthy_bool
def Wa:=@PySem.wpAny_execs_nil
def Wb:=@List.length_replicate
def Wc:=@List.reverse_cons
def Wd:=@List.ext_getElem
def We:=@List.getElem?_take
def Wf:=@List.mem_reverse
def Wg:=@Bool.false_eq_true
def Wh:=@PySem.wpAny_isInstance
def Wi:=@PySem.wpAny_dictEntries
def Wj:=@PySem.wpAny_typeNameOfWhole_keyiter
def Wk:=@PySem.wpAny_fieldsOf
def Wl:=@PySem.wpAny_typeNameOf_keyiter
def Wm:=@List.foldl_append
def Wn:=@List.length_flatMap
def Wo:=@PySem.wpAny_pyNext_range_end
def Wp:=@PySem.wpAny_pyIter_rangeiter
def Wq:=@PySem.F.slot_tuple_add
def Wr:=@PySem.F.entry_tuple_add
def Ws:=@PySem.F.args_tuple_add_2
def Wt:=@PySem.Heap.get?_update_other
def Wu:=@PySem.wpAny_comprehension_free
def Wv:=@List.take_append_drop
def Ww:=@List.pairwise_reverse
def Wx:=@List.getD_eq_getElem?_getD
def Wy:=@Array.getElem?_eq_getElem
def Wz:=@PySem.Obj.isFreed_of_fields
def WA:=@List.getElem?_reverse
def WB:=@PySem.wpAny_isOneOf_keyiter
def WC:=@Bool.and_eq_true_iff
def WD:=@List.filter_cons
def WE:=@List.getElem?_eq_none
def WF:=@List.Pairwise.filter
def WG:=@decide_eq_false_iff_not
def WH:=@List.length_eq_one_iff
def WI:=@List.exists_cons_of_ne_nil
def WJ:=@List.range_eq_range'
def WK:=@PySem.F.plainAttrs_list
namespace Hd
open PySem PySem.W PySem.Calls PyProof.Rows
noncomputable def Jh (stp:SharedT->Thread->Option (SharedT×Thread))(ok:Thread->Bool):Nat->SharedT->Thread->Option SharedT
 |0,_,_=>none
 |n+1,s,t=>match through t with
  |true=>some s
  |false=>match ok t with
   |false=>none
   |true=>match stp s t with
    |some (s',t')=>Jh stp ok n s' t'
    |none=>none
theorem ym {tb:String->Option Builtin}   {n₀:Nat}  : ∀(n:Nat) (s:SharedT) (t:Thread) (r:SharedT),Jh (stepT (denote tb) p w) (stepOk n₀ ann) n s t=some r->topRun tb p w n₀ ann n s.abs t=some r.abs
 |0,_,_,_,h=>by cases h
 |n+1,s,t,r,h=>by
  unfold Jh at h;unfold topRun;cases ht:through t with
  |true=>rw[ht] at h;cases h;rfl
  |false=>
   rw[ht] at h;cases hk:stepOk n₀ ann t with
   |false=>rw[hk] at h;cases h
   |true=>
    rw[hk] at h;cases hs:stepT (denote tb) p w s t with
    |none=>rw[hs] at h;cases h
    |some x=>obtain⟨s',t'⟩:=x;rw[hs] at h;rw[stepT_spec hs];exact ym n s' t' r h
noncomputable def JL:List Obj->Nat->BT->BT
 |[],_,t=>t
 |o::l,n,t=>JL l (n+1) (t.ins n o)
noncomputable def T0 (P:Params):BT:=JL (boot_heap P).objs.toList 0 .nil
theorem OH (P:Params):absHeap (T0 P) 11 (boot_heap P).life=boot_heap P:=by kernel_rfl
theorem sz (P:Params):((boot_heap P).isNs mainGlobals,(boot_heap P).objs.size,(boot_heap P).nsMap mainGlobals "__annotations__")=(true,11,some (.ref 6)):=by kernel_rfl
noncomputable def S0 (w:World)(os:OsState):SharedT:=⟨T0 w.params,11,(boot_heap w.params).life,Array.mk [],boot_drawn,boot_toks,os⟩
theorem KB    {α:Type}{Yf:Shared->α}{Ya:World->α}{N M:Nat}{g0:Bool}
  (open_:∀w:World,(fencedOpening treeTable p w N).map (fun s=>(s.heap,s.gens,s.drawn,s.toks))=some (boot_heap w.params,Array.mk [],boot_drawn,boot_toks)) (le:Nat.ble M N=true)
  (big:∀w:World,(fun os=>(Jh (stepT (denote treeTable) p w) (stepOk 11 (some (.ref 6))) M (S0 w os) (topStub p)).map fun r=>((staticsOk (importedModules p.main.body) (boot_heap w.params) r.abs.heap&&namesBound p r.abs.heap&&gensDone r.abs&&laidKept (boot_heap w.params) r.abs.heap),
    openSeen q loose (importedModules p.main.body) Xt g0 r.abs,Yf r.abs))=fun _=>some (true,openGood q loose,Ya w)):LeftO p q loose Xt Yf Ya N g0:=fun w=>by
 obtain⟨⟨h,gs,d,k,os⟩,e,e'⟩:=Option.map_eq_some_iff.mp (open_ w);obtain⟨rfl,rfl,rfl,rfl⟩:h=boot_heap w.params/\gs=Array.mk []/\d=boot_drawn/\k=boot_toks:=by simpa using e'
 obtain⟨z1,z2,z3⟩:_/\_/\_:=by simpa only[Vt] using sz w.params
 obtain⟨r,hr,hb⟩:=Option.map_eq_some_iff.mp (congrFun (big w) os);obtain⟨l1,l2,l3⟩:_/\_/\_:=by simpa only[Vt] using hb
 have ha:(S0 w os).abs=⟨boot_heap w.params,Array.mk [],boot_drawn,boot_toks,os⟩:=by unfold S0 SharedT.abs;dsimp only;rw[OH]
 have t:=topRun_mono (N-M) _ _ _ _ (ym _ _ _ _ hr);rw[show M+(N-M)=N by have:=Nat.le_of_ble_eq_true le;lia,ha] at t;have t2:topFrom treeTable p w N ⟨boot_heap w.params,Array.mk [],boot_drawn,boot_toks,os⟩=some r.abs:=by unfold topFrom;dsimp only;rw[z1,z2,z3,t];show (match staticsOk (importedModules p.main.body) (boot_heap w.params) r.abs.heap&&namesBound p r.abs.heap&&gensDone r.abs&&laidKept (boot_heap w.params) r.abs.heap with|true=>_|false=>_)=_;rw[l1]
 unfold openEnds;rw[e];show (topFrom treeTable p w N _).map _=_;rw[t2];exact TQ some (US l2 l3)
theorem KC    {α:Type}{Yf:Shared->α}{Ya:World->α}{g0:Bool}
  (open_:∀w:World,(fencedOpening treeTable p w 100000).map (fun s=>(s.heap,s.gens,s.drawn,s.toks))=some (boot_heap w.params,Array.mk [],boot_drawn,boot_toks))
  (big:∀w:World,(fun os=>(Jh (Fast.tw10156331382660048174 (Fast.tw11892475500146522536 Fast.tw14364793385576792824) p w) (Fast.tw6613529449190102663 11 (some (.ref 6))) 100000 (S0 w os) (topStub p)).map fun r=>((staticsOk (Fast.tw5923862056798008813 p.main.body) (boot_heap w.params) r.abs.heap&&namesBound p r.abs.heap&&gensDone r.abs&&laidKept (boot_heap w.params) r.abs.heap),
    Fast.tw4187177175401517315 q loose (Fast.tw5923862056798008813 p.main.body) Xt g0 r.abs,Yf r.abs))=fun _=>some (true,openGood q loose,Ya w)):LeftO p q loose Xt Yf Ya 100000 g0:=by
 rw[<- Fast.te10156331382660048174,<- Fast.te11892475500146522536,<- Fast.te14364793385576792824,<- Fast.te6613529449190102663,<- Fast.te5923862056798008813,<- Fast.te4187177175401517315] at big;exact KB open_ rfl big
theorem Lj  (h:Fast.tw9446332074065402090 l=true):l.wellSaid=true:=by rw[Fast.te9446332074065402090];exact h
end Hd
set_option Elab.async false
section
open PySem PySem.W PyProof.Rows
noncomputable def Hd.q : Program := view PySem.Challenge.pw_shapethin_k62_sieves [0, 2, 3, 5, 6, 7, 8, 9, 10, 11, 12, 14, 15, 16, 17, 18, 19, 20, 21, 22, 23, 25, 26, 27, 28, 29, 30, 31, 32, 33, 34, 35, 36, 37, 38, 39, 40, 42, 43, 44, 46, 47, 48, 49, 50, 51, 52, 53, 54]
local macro_rules | `(tactic| o_head $_)=>`(tactic| assumption)
set_option maxHeartbeats 0 in
theorem Hd.e0 : PySem.Challenge.rw_shapethin_k62_sieves.row.Holds -> PySem.Challenge.rw_shapethin_k62_sieves.row.Holds := by intro h; w_on; k_head
noncomputable def Hd.as:List Addr:=(Hd.e0.heap_1 { strHash:=fun _=>0,shareClass:=fun _=>0,mergeTok:=id,idOf:=fun _=>0,idOfShared:=fun _ _=>0,followText:=fun _=>true,idOfImm:=fun _=>0 }).map (·.1)
theorem Hd.ae (P:Params):Hd.as=(Hd.e0.heap_1 P).map (·.1):=by kernel_rfl
noncomputable abbrev Hd.H:Hook:=kHook Hd.e0.heap_1 Hd.as Hd.ae
set_option maxHeartbeats 0 in
theorem Hd.e1 : LeftO PySem.Challenge.rw_shapethin_k62_sieves.row.prog Hd.q [] (fun s => xlAt Hd.q [] s && recOk (RowW.records (OpenRow.toRowW (OpenLaw.row PySem.Challenge.rw_shapethin_k62_sieves))) s) (Hook.obs Hd.H) (Hook.val Hd.H) 100000 := Hd.KC (boot_open (by rfl) rfl (fun s => rfl)) (by intro w; kernel_rfl)
set_option maxHeartbeats 0 in
theorem Hd.e2 : PySem.Challenge.rw_shapethin_k62_sieves.wellSaid = true := Hd.Lj (by kernel_rfl)
end
set_option Elab.async false
set_option linter.all false
set_option maxRecDepth 100000
namespace L2
open PySem PySem.Spec PyProof.Rows
noncomputable abbrev Key:=Sum Int Str
noncomputable def xQ:Key->Value->Bool
 |.inl k,v=>Value.isInt k v
 |.inr x,v=>Value.isStrOf x v
noncomputable def QO (w:World):Key->Int
 |.inl k=>hashInt k
 |.inr x=>hashStr w x
theorem bT:∀ {k:Key} {v:Value},xQ k v=true->(∃i t,k=Sum.inl i/\v=Value.int i t)\/(∃x t,k=Sum.inr x/\v=Value.str x t)
 |.inl i,v,h=>by
  obtain⟨t,e⟩:=Value.isInt_shape (k:=i) (v:=v) h;exact .inl ⟨i,t,rfl,e⟩
 |.inr x,v,h=>by obtain⟨t,e⟩:=Value.isStrOf_shape (x:=x) (v:=v) h;exact .inr ⟨x,t,rfl,e⟩
theorem Fn (i:Int)(t:Tok):xQ (.inl i) (.int i t)=true:=by simp[xQ,Value.isInt]
theorem Fo (x:Str)(t:Tok):xQ (.inr x) (.str x t)=true:=by simp[xQ,Value.isStrOf]
theorem M0 (a b:Int):decide ((Sum.inl a:Key)=Sum.inl b)=(a==b):=by
 by_cases e:a=b
 ·subst e;simp
 ·have h:¬(Sum.inl a:Key)=Sum.inl b:=fun q=>e (Sum.inl.inj q);rw[T5 h];exact (VN.mpr e).symm
theorem M3 (a b:Str):decide ((Sum.inr a:Key)=Sum.inr b)=decide (a=b):=by
 by_cases e:a=b
 ·subst e;simp
 ·have h:¬(Sum.inr a:Key)=Sum.inr b:=fun q=>e (Sum.inr.inj q);rw[T5 h,T5 e]
theorem M1 (a:Int)(b:Str):decide ((Sum.inl a:Key)=Sum.inr b)=false:=T5 (fun q=>nomatch q)
theorem M2 (a:Str)(b:Int):decide ((Sum.inr a:Key)=Sum.inl b)=false:=T5 (fun q=>nomatch q)
noncomputable def cj (prog:Program)(w:World):PySem.KeyKind prog w Key where
 is:=xQ
 hash:=QO w
 inj:=fun v a b ha hb=>by
  rcases bT ha with ⟨i,t,rfl,rfl⟩|⟨x,t,rfl,rfl⟩
  ·rcases bT hb with ⟨j,u,rfl,e⟩|⟨y,u,rfl,e⟩
   ·injection e with e1 _;rw[e1]
   ·exact nomatch e
  ·rcases bT hb with ⟨j,u,rfl,e⟩|⟨y,u,rfl,e⟩
   ·exact nomatch e
   ·injection e with e1 _;rw[e1]
 byValue:=fun k v h=>by rcases bT h with ⟨i,t,rfl,rfl⟩|⟨x,t,rfl,rfl⟩<;>rfl
 pyHash:=fun hv h=>by
  rcases bT hv with ⟨i,t,rfl,rfl⟩|⟨x,t,rfl,rfl⟩
  ·exact wpAny_pyHash_int h
  ·exact wpAny_pyHash_str h
 eqBool:=fun hu hv h=>by
  rcases bT hu with ⟨i,t,rfl,rfl⟩|⟨x,t,rfl,rfl⟩
  ·rcases bT hv with ⟨j,u,rfl,rfl⟩|⟨y,u,rfl,rfl⟩
   ·rw[M0] at h;exact wpAny_eqBool_int h
   ·rw[M1] at h;exact SeqAt.EqAt.int_str i t y u _ _ _ _ h
  ·rcases bT hv with ⟨j,u,rfl,rfl⟩|⟨y,u,rfl,rfl⟩
   ·rw[M2] at h;exact SeqAt.EqAt.str_int x t j u _ _ _ _ h
   ·rw[M3] at h;exact wpAny_eqBool_str h
 «strs»:=fun k x t v h=>by
  rcases bT h with ⟨i,u,rfl,e⟩|⟨y,u,rfl,e⟩
  ·exact nomatch e
  ·injection e with e1 _
   subst e1;cases v<;>rfl
theorem A2 (prog:Program)(w:World)(i:Int)(t:Tok):(cj prog w).is (.inl i) (.int i t)=true:=Fn i t
theorem A3 (prog:Program)(w:World)(x:Str)(t:Tok):(cj prog w).is (.inr x) (.str x t)=true:=Fo x t
inductive V where
 |non|bl (b:Bool)|int (i:Int)|str (x:Str)|byt (b:Array UInt8)|flt (b:UInt64)|ref (a:Addr)|ty (n:String)
 deriving DecidableEq
noncomputable def RelV:V->Value->Prop
 |.non,u=>u=Value.none
 |.bl b,u=>u=Value.bool b
 |.int i,u=>∃t,u=Value.int i t
 |.str x,u=>∃t,u=Value.str x t
 |.byt b,u=>∃t,u=Value.bytes b t
 |.flt b,u=>∃t,u=Value.float b t
 |.ref a,u=>u=Value.ref a
 |.ty n,u=>u=Value.type n
noncomputable abbrev Vals:List V->List Value->Prop:=Paired RelV
theorem Vals.length {xs:List V}{us:List Value}(r:Vals xs us):xs.length=us.length:=Vu r
theorem Vals.get:∀ {xs:List V} {us:List Value} {i:Nat} {x:V},Vals xs us->xs[i]?=some x->∃u,us[i]?=some u/\RelV x u
 |_,_,_,_,.nil,e=>by simp at e
 |_,_,0,_,.cons r _,e=>by simp at e;subst e;exact⟨_,rfl,r⟩
 |_,_,i+1,x,.cons _ t,e=>by obtain⟨u,h1,h2⟩:=Vals.get (i:=i) (x:=x) t (by simpa using e);exact⟨u,by simpa using h1,h2⟩
theorem Vals.set {x:V}{u:Value}(r:RelV x u):∀ {xs:List V} {us:List Value} (i:Nat),Vals xs us->Vals (xs.set i x) (us.set i u)
 |_,_,_,.nil=>.nil
 |_,_,0,.cons _ t=>.cons r t
 |_,_,i+1,.cons q t=>.cons q (Vals.set r i t)
theorem Vals.append:∀ {xs ys:List V} {us ws:List Value},Vals xs us->Vals ys ws->Vals (xs++ys) (us++ws)
 |_,_,_,_,.nil,s=>s
 |_,_,_,_,.cons r t,s=>.cons r (Vals.append t s)
theorem Vals.take:∀ {xs:List V} {us:List Value} (n:Nat),Vals xs us->Vals (xs.take n) (us.take n)
 |_,_,0,_=>.nil
 |_,_,_+1,.nil=>.nil
 |_,_,n+1,.cons r t=>.cons r (Vals.take n t)
theorem Vals.drop:∀ {xs:List V} {us:List Value} (n:Nat),Vals xs us->Vals (xs.drop n) (us.drop n)
 |_,_,0,r=>r
 |_,_,_+1,.nil=>.nil
 |_,_,n+1,.cons _ t=>Vals.drop n t
noncomputable def RelO:Option V->Option Value->Prop
 |some v,some u=>RelV v u
 |none,none=>True
 |_,_=>False
noncomputable def KV {κ:Type}:List (κ×V)->List (κ×Value)->Prop:=Paired fun (p:κ×V) (q:κ×Value)=>p.1=q.1/\RelV p.2 q.2
noncomputable def kV:Key->V
 |.inl i=>.int i
 |.inr x=>.str x
inductive HO where
  |lst (xs:List V)
  |tup (xs:List V)
  |dK (kvs:List (Key×V))|dT (kvs:List (List Key×V))
  |set (S:Int->Bool) (n:Nat)
  |ins (C dx:Addr) (fs:List (Str×V))
  |own (x:Addr)
  |xd (fs:List (Str×V))
  |met (f x:Addr)
  |rng (lo hi:Int)
  |frz (o:Obj) (u:HO)
  |tbl (ps:Array Value)
  |ext (φ:Heap->Prop)
noncomputable abbrev Hp:=Addr->Option HO
noncomputable def upd (H:Hp)(a:Addr)(o:HO):Hp:=fun b=>if b=a then some o else H b
theorem aH:upd H a o a=some o:=by unfold upd;rw[Tn rfl]
theorem aG  {a b:Addr}  (h:b≠a):upd H a o b=H b:=by unfold upd;rw[To h]
theorem LZ {H:Hp}{a b:Addr}{o u:HO}(h:H a=some o)(h':H b=some u)(d:o≠u):a≠b:=by intro e;subst e;rw[h] at h';exact d (T6 h')
theorem aO {H:Hp}{a b:Addr}{o:HO}(h:H a=some o)(h':H b=none):a≠b:=by intro e;subst e;rw[h] at h';cases h'
section
variable (P:Program)(w:World)
noncomputable def ObjOk (H:Hp)(h:Heap)(a:Addr):HO->Prop
 |.lst xs=>xs.length<=sizeLine/\∃(its:List Value) (n:Nat),Vals xs its/\h.get? a=some { cls:=.type "list",data:=.seq its.toArray n }
 |.tup xs=>xs.length<=sizeLine/\∃its:List Value,Vals xs its/\IsTup h a its.toArray
 |.dK kvs=>kvs.length<=sizeLine/\(a==sysModules)=false/\∃vs,KV kvs vs/\h.DictOf (cj P w) a vs
 |.dT kvs=>kvs.length<=sizeLine/\(a==sysModules)=false/\∃xs:List (List Key×Addr×Value),
   Paired (fun (p:List Key×V) (q:List Key×Addr×Value)=>p.1=q.1/\H q.2.1=some (.tup (p.1.map kV))/\RelV p.2 q.2.2) kvs xs /\
   ∃o es ep,h.get? a=some o/\o.ExactDict/\o.data = .dict es ep/\es.toList=xs.map (entryOfKey (tupleKind (cj P w)))/\(xs.map (·.1)).Nodup
 |.set S n=>h.SetOf (intKind P w) a S n
 |.ins C dx fs=>H dx=some (.own a)/\fs.length<=1000/\dx≠a/\h.get? a=some (W.instObj C dx) /\
   ∃mA,h.Ns1 dx mA/\(∀f,RelO (fs.lookup f) (mA f))/\PySem.Within mA (fs.map (·.1))
 |.own _=>∃o,h.get? a=some o
 |.xd fs=>∃mA,h.Ns1 a mA/\∀f,RelO (fs.lookup f) (mA f)
 |.rng lo hi=>∃t u v,h.get? a=some { cls:=.type "range",data:=.fields #[.int lo t,.int hi u,.int 1 v] }
 |.frz o u=>h.get? a=some o/\ObjOk H h a u
 |.tbl ps=>h.get? a=some { cls:=.none,data:=.fields ps }
 |.met f x=>h.get? a=some (W.methodObj (.ref f) (.ref x))
 |.ext φ=>φ h/\(∃o,h.get? a=some o)/\∀h1 h2:Heap,φ h1->(∀o,h1.get? a=some o->h2.get? a=some o)->φ h2
def HOk (H:Hp)(h:Heap):Prop:=∀a o,H a=some o->ObjOk P w H h a o
end
section
variable {P:Program}{w:World}{H H':Hp}{h h':Heap}{a:Addr}{o:HO}
theorem ObjOk.lt (x:ObjOk P w H h a o):a<h.objs.size:=by
 cases o with
 |lst xs=>obtain⟨_,_,_,_,e⟩:=x;exact TM e
 |tup xs=>obtain⟨_,_,_,p⟩:=x;exact p.lt
 |dK kvs=>obtain⟨_,_,_,_,o,_,_,e,_⟩:=x;exact TM e
 |dT kvs=>obtain⟨_,_,_,_,o,_,_,e,_⟩:=x;exact TM e
 |set S n=>obtain⟨o,_,_,_,e,_⟩:=x;exact TM e
 |ins C dx fs=>obtain⟨_,_,_,e,_⟩:=x;exact TM e
 |own y=>obtain⟨_,e⟩:=x;exact TM e
 |xd fs=>obtain⟨_,⟨_,_,_,e,_⟩,_⟩:=x;exact TM e
 |rng lo hi=>obtain⟨_,_,_,e⟩:=x;exact TM e
 |frz ob u=>obtain⟨e,_⟩:=x;exact TM e
 |tbl ps=>exact TM (show h.get? a=some _ from x)
 |met f y=>exact TM (show h.get? a=some _ from x)
 |ext φ=>obtain⟨_,⟨_,e⟩,_⟩:=x;exact TM e
theorem Paired.mapP {α β:Type}{F G:α->β->Prop}:∀ {l₁:List α} {l₂:List β},Paired F l₁ l₂->(∀a b,F a b->G a b)->Paired G l₁ l₂
 |_,_,.nil,_=>.nil
 |_,_,.cons r t,f=>.cons (f _ _ r) (Paired.mapP t f)
theorem ObjOk.stay (x:ObjOk P w H h a o)(k:∀b u,(b=a\/H b=some (.own a))->h.get? b=some u->h'.get? b=some u)
  (ho:∀b,H b=some (.own a)->H' b=some (.own a)) (ht:∀b xs,H b=some (.tup xs)->H' b=some (.tup xs)):ObjOk P w H' h' a o:=by
 induction o with
 |lst xs=>obtain⟨z,its,n,r,e⟩:=x;exact⟨z,its,n,r,k _ _ (.inl rfl) e⟩
 |tup xs=>obtain⟨z,its,r,ob,e,c⟩:=x;exact⟨z,its,r,ob,k _ _ (.inl rfl) e,c⟩
 |dK kvs=>obtain⟨z,y,vs,r,ob,es,ep,e,c⟩:=x;exact⟨z,y,vs,r,ob,es,ep,k _ _ (.inl rfl) e,c⟩
 |dT kvs=>
  obtain⟨z,y,xs,r,ob,es,ep,e,c⟩:=x;exact⟨z,y,xs,Paired.mapP r fun p q z=>⟨z.1,ht _ _ z.2.1,z.2.2⟩,ob,es,ep,k _ _ (.inl rfl) e,c⟩
 |set S n=>obtain⟨ob,es,ep,t,e,c⟩:=x;exact⟨ob,es,ep,t,k _ _ (.inl rfl) e,c⟩
 |ins C dx fs=>
  obtain⟨d,z,ne,e,mA,⟨od,es,ep,e2,c⟩,r⟩:=x;exact⟨ho _ d,z,ne,k _ _ (.inl rfl) e,mA,⟨od,es,ep,k _ _ (.inr d) e2,c⟩,r⟩
 |own y=>obtain⟨ob,e⟩:=x;exact⟨ob,k _ _ (.inl rfl) e⟩
 |xd fs=>obtain⟨mA,⟨od,es,ep,e,c⟩,r⟩:=x;exact⟨mA,⟨od,es,ep,k _ _ (.inl rfl) e,c⟩,r⟩
 |rng lo hi=>obtain⟨t,u,v,e⟩:=x;exact⟨t,u,v,k _ _ (.inl rfl) e⟩
 |frz ob u ih=>obtain⟨e,q⟩:=x;exact⟨k _ _ (.inl rfl) e,ih q⟩
 |tbl ps=>
  have e:h.get? a=some { cls:=.none,data:=.fields ps }:=x;show h'.get? a=some { cls:=.none,data:=.fields ps };exact k a _ (.inl rfl) e
 |met f y=>
  have e:h.get? a=some (W.methodObj (.ref f) (.ref y)):=x;show h'.get? a=some (W.methodObj (.ref f) (.ref y));exact k a _ (.inl rfl) e
 |ext φ=>obtain⟨p,⟨o,e⟩,st⟩:=x;exact⟨st _ _ p fun o q=>k _ _ (.inl rfl) q,⟨o,k _ _ (.inl rfl) e⟩,st⟩
theorem HOk.lt (x:HOk P w H h)(e:H a=some o):a<h.objs.size:=(x a o e).lt
theorem HOk.fresh (x:HOk P w H h)(e:h.objs.size<=a):H a=none:=by
 cases q:H a with
 |none=>rfl
 |some u=>exact absurd (Ud (x.lt q) e) (UH _)
theorem HOk.kept (x:HOk P w H h)(k:∀b u,h.get? b=some u->h'.get? b=some u):HOk P w H h':=fun a o e=>
 (x a o e).stay (fun b u _ q=>k b u q) (fun _ q=>q) fun _ _ q=>q
theorem HOk.laid (x:HOk P w H h)(k:∀b u,h.get? b=some u->h'.get? b=some u)(hp:h.objs.size<=a)(new:ObjOk P w (upd H a o) h' a o):HOk P w (upd H a o) h':=fun b u e=>by
 have hn:=x.fresh hp;by_cases hb:b=a
 ·subst hb;rw[aH] at e;cases e;exact new
 ·rw[aG hb] at e;exact (x b u e).stay (fun c v _ q=>k c v q) (fun c q=>by rw[aG (aO q hn)];exact q) fun c xs q=>by rw[aG (aO q hn)];exact q
end
def Rd (H:Hp)(a:Addr)(u:HO):Prop:=H a=some u\/∃o,H a=some (.frz o u)
theorem Rd.ok {P:Program}{w:World}{H:Hp}{h:Heap}{a:Addr}{u:HO}(r:Rd H a u)(x:HOk P w H h):ObjOk P w H h a u:=by
 rcases r with r|⟨o,r⟩
 ·exact x a u r
 ·obtain⟨_,q⟩:=x a _ r;exact q
noncomputable def Mut:Option HO->Prop
 |some (.lst _)=>True
 |some (.dK _)=>True
 |some (.dT _)=>True
 |some (.set _ _)=>True
 |some (.ins _ _ _)=>True
 |some (.ext _)=>True
 |_=>False
section
variable {P:Program}{w:World}{H:Hp}{h h':Heap}{x e:Addr}{o':HO}
theorem HOk.write (ok:HOk P w H h)(mu:Mut (H x))(he:e=x\/H e=some (.own x))(k:∀b u,b≠e->h.get? b=some u->h'.get? b=some u)(heo:∃u,h'.get? e=some u)
  (new:ObjOk P w (upd H x o') h' x o'):HOk P w (upd H x o') h':=fun b u q=>by
 have nown:∀c y,H c=some (.own y)->c≠x:=fun c y r z=>by subst z;rw[r] at mu;exact mu
 have ntup:∀c xs,H c=some (.tup xs)->c≠x:=fun c xs r z=>by subst z;rw[r] at mu;exact mu
 by_cases hb:b=x
 ·subst hb;rw[aH] at q;cases q;exact new
 ·rw[aG hb] at q;by_cases hbe:b=e
  ·have q':H b=some (.own x):=by
    rcases he with z|z
    ·exact absurd (hbe.trans z) hb
    ·rw[hbe];exact z
   rw[q] at q';cases q';obtain⟨v,hv⟩:=heo;exact⟨v,by rw[hbe];exact hv⟩
  ·refine (ok b u q).stay (fun c v hc r=>k c v ?_ r) (fun c r=>by rw[aG (nown c b r)];exact r) fun c xs r=>by rw[aG (ntup c xs r)];exact r
   rcases hc with rfl|hc
   ·exact hbe
   ·rintro rfl;rcases he with z|z
    ·exact nown c b hc z
    ·rw[hc] at z;cases z;exact hb rfl
end
structure Un (fs ex:List Addr) (H H':Hp) (h h':Heap):Prop where
 keep:∀b o,h.get? b=some o->H b=none->b∉fs->b∉ex->h'.get? b=some o
 slot:∀b o,h.get? b=some o->H b=none->b∈fs->b∉ex->∃sl,h'.get? b=some { o with slots:=sl }
 free:∀b o,h.get? b=some o->H b=none->b∉ex->H' b=none
 there:∀b o,h.get? b=some o->b∉ex->∃o',h'.get? b=some o'
 tups:∀b xs,H b=some (.tup xs)->H' b=some (.tup xs)
 frzs:∀b o u,H b=some (.frz o u)->H' b=some (.frz o u)
 tbls:∀b ps,H b=some (.tbl ps)->∃more,H' b=some (.tbl (ps++more))
section
variable {fs fs' ex ex':List Addr}{H H1 H2:Hp}{h h1 h2 h':Heap}{a x e:Addr}{o:HO}
theorem Un.any (u:Un fs ex H H1 h h1)  {ob:Obj}(q:h.get? b=some ob)(n:H b=none)(hx:b∉ex):∃sl,h1.get? b=some { ob with slots:=sl }:=by
 by_cases hb:b∈fs
 ·exact u.slot b ob q n hb hx
 ·exact⟨ob.slots,u.keep b ob q n hb hx⟩
theorem Un.trans (a:Un fs ex H H1 h h1)(b:Un fs ex H1 H2 h1 h2):Un fs ex H H2 h h2 where
 keep:=fun c ob q n hc hx=>b.keep c ob (a.keep c ob q n hc hx) (a.free c ob q n hx) hc hx
 slot:=fun c ob q n hc hx=>by obtain⟨sl,e1⟩:=a.slot c ob q n hc hx;obtain⟨sl',e2⟩:=b.slot c _ e1 (a.free c ob q n hx) hc hx;exact⟨sl',e2⟩
 free:=fun c ob q n hx=>by obtain⟨o',e1⟩:=a.there c ob q hx;exact b.free c o' e1 (a.free c ob q n hx) hx
 there:=fun c ob q hx=>by obtain⟨o',e1⟩:=a.there c ob q hx;exact b.there c o' e1 hx
 tups:=fun c xs q=>b.tups c xs (a.tups c xs q)
 frzs:=fun c ob xs q=>b.frzs c ob xs (a.frzs c ob xs q)
 tbls:=fun c ps q=>by obtain⟨m1,e1⟩:=a.tbls c ps q;obtain⟨m2,e2⟩:=b.tbls c _ e1;exact⟨m1++m2,by rw[e2,Array.append_assoc]⟩
theorem Un.kept (k:∀b u,h.get? b=some u->h'.get? b=some u):Un fs ex H H h h':=
 ⟨fun b ob q _ _ _=>k b ob q,fun b ob q _ _ _=>⟨ob.slots,k b ob q⟩,fun _ _ _ n _=>n,fun b ob q _=>⟨ob,k b ob q⟩,fun _ _ q=>q,fun _ _ _ q=>q,fun _ ps q=>⟨#[],by rw[q];simp⟩⟩
theorem Un.refl:Un fs ex H H h h:=Un.kept fun _ _ q=>q
theorem Un.laid (k:∀b u,h.get? b=some u->h'.get? b=some u)(hp:h.objs.size<=a)(hn:H a=none):Un fs ex H (upd H a o) h h' where
 keep:=fun b u q _ _ _=>k b u q
 slot:=fun b u q _ _ _=>⟨u.slots,k b u q⟩
 free:=fun b u q n _=>by rw[aG (TX (Ud (TM q) hp))];exact n
 there:=fun b u q _=>⟨u,k b u q⟩
 tups:=fun b xs q=>by rw[aG (aO q hn)];exact q
 frzs:=fun b u xs q=>by rw[aG (aO q hn)];exact q
 tbls:=fun b ps q=>⟨#[],by rw[aG (aO q hn),q];simp⟩
theorem Un.write (mu:Mut (H x))(he:e=x\/H e=some (.own x))(k:∀b u,b≠e->h.get? b=some u->h'.get? b=some u)(heo:∃u,h'.get? e=some u):Un fs ex H (upd H x o) h h':=by
 have hx:∀b,H b=none->b≠x:=fun b n z=>by subst z;rw[n] at mu;exact mu
 have hb:∀b,H b=none->b≠e:=fun b n z=>by
  subst z;rcases he with r|r
  ·exact hx b n r
  ·rw[n] at r;cases r
 have hm:∀b u,H b=some u->¬Mut (some u)->b≠x:=fun b u q nm z=>by subst z;rw[q] at mu;exact nm mu
 refine⟨fun b u q n _ _=>k b u (hb b n) q,fun b u q n _ _=>⟨u.slots,k b u (hb b n) q⟩,fun b u q n _=>by rw[aG (hx b n)];exact n,fun b u q _=>?_,
  fun b xs q=>by rw[aG (hm b _ q fun z=>z)];exact q,fun b u xs q=>by rw[aG (hm b _ q fun z=>z)];exact q,fun b ps q=>⟨#[],by rw[aG (hm b _ q fun z=>z),q];simp⟩⟩
 by_cases hbe:b=e
 ·subst hbe;exact heo
 ·exact⟨u,k b u hbe q⟩
end
noncomputable def trk (h:Heap)(H:Hp):List Addr:=(List.range h.objs.size).filter fun a=>(H a).isSome
noncomputable def y3 (h:Heap)(H:Hp):Heap:=W.hideAll h (trk h H)
theorem Fe (h:Heap)(H:Hp):(y3 h H).objs.size=h.objs.size:=W.hideAll_size _ _
theorem Hx {h:Heap}{H:Hp}{b:Addr}{o:Obj}(e:h.get? b=some o)(n:H b=none):(y3 h H).get? b=some o:=
 W.hideAll_get _ e fun hm=>by have q:(H b).isSome=true:=(T4.mp hm).2;rw[n] at q;simp at q
theorem KN   {b:Addr}{o:Obj}(e:(y3 h H).get? b=some o):h.get? b=some o/\H b=none:=by
 have e':h.get? b=some o:=W.of_hideAll (trk h H) e;refine⟨e',?_⟩;cases q:H b with
 |none=>rfl
 |some x=>have hm:b∈trk h H:=T4.mpr ⟨UK.mpr (TM e'),by simp[q]⟩;have z:(y3 h H).get? b=none:=W.hideAll_none (trk h H) hm;rw[z] at e;cases e
noncomputable def J9 (g h:Heap)(L:Addr):List (Addr×Obj):=(List.range h.objs.size).filterMap fun a=>if a=L\/(g.get? a).isSome=true then none else (h.get? a).map fun o=>(a,o)
noncomputable def rest (g h:Heap)(L d:Addr):List (Addr×Obj):=(J9 g h L).filter fun p=>decide (p.1≠d)
structure Mod (K:W.Frag) (mg:Str->Option Value) (base:Heap):Prop where
 kin:K.In base
 glob:base.Ns mainGlobals mg
 blt:∃mb,base.Ns builtinsNs mb/\∀x:Str,x ≠ "__name__" -> mb x=bootBuiltins x
 nolimit:base.NoLimit
structure Cx where
 prog:Program
 w:World
 K:W.Frag
 mg:Str->Option Value
 base:Heap
 A:Around
 N:List Str
 s₀:Shared
 H₀:Hp
 env:Env
 outer:List Env
 stack:List Env
 ex:List Addr
 fn:Str->Bool
 calm:Bool
 pn:List (Addr×Obj)
 xe:Value->Shared->Prop
noncomputable def frs (l:List Env):List Addr:=l.filterMap (·.frame)
noncomputable abbrev Cx.fs (X:Cx):List Addr:=frs X.outer
def Vis (sc:Scope)(x:Str):Prop:=sc.names.lookup x=some .local\/sc.names.lookup x=some .cell\/sc.names.lookup x=some .free
def Loc (sc:Scope)(x:Str):Prop:=sc.names.lookup x=some .local\/sc.names.lookup x=some .cell
def QC (env:Env)(h:Heap)(m:Str->Option Value)(x:Str)(u:Value):Prop:=
 (env.kindOf x=some .local/\m x=some u)\/((env.kindOf x=some .cell\/env.kindOf x=some .free)/\∃c,env.cells.lookup x=some c/\h.IsCell c (some u))
structure Cx.Ok (X:Cx):Prop where
 mod:Mod X.K X.mg X.base
 kind:X.env.scope.kind = .function
 glob:X.env.globals=mainGlobals
 blt:X.env.builtins=builtinsNs
 above:X.s₀.heap.objs.size<=X.env.locals
 inj:∀x y c,X.env.cells.lookup x=some c->X.env.cells.lookup y=some c->x=y
 has:∀x,(X.env.kindOf x=some .cell\/X.env.kindOf x=some .free)->∃c,X.env.cells.lookup x=some c
 cab:∀x c,X.fn x=true->X.env.cells.lookup x=some c->X.s₀.heap.objs.size<=c
 hd:X.calm=true->X.A.handled=none
 frames:X.A.frames=some X.stack
 stk:X.stack=X.outer\/(X.stack=X.env::X.outer/\X.env.frame=some X.env.locals)
 exf:∀b∈X.ex,b≠X.env.locals/\∀x c,X.env.cells.lookup x=some c->c≠b
 bs:∀b o,X.base.get? b=some o->X.s₀.heap.get? b=some o/\X.H₀ b=none
 bsz:X.base.objs.size<=X.s₀.heap.objs.size
 noex:∀b o,X.base.get? b=some o->b∉X.ex
 exfs:∀b∈X.ex,b∉X.fs
 funs:X.s₀.heap.FunFrames X.base X.outer
 frf:∀b∈X.fs,X.H₀ b=none
structure Inv (X:Cx) (pins:List (Addr×Obj)) (σ:List (Option V)) (H:Hp) (s:Shared):Prop where
 ok:X.Ok
 os:s.os=X.s₀.os
 bare:AllBare s.gens
 base:Un X.fs X.ex X.H₀ H X.s₀.heap s.heap
 loc:∃m,s.heap.Ns X.env.locals m/\∀(i:Nat) (x:Str) (v:V),X.N[i]?=some x->σ[i]?=some (some v)->Vis X.env.scope x->∃u,RelV v u/\QC X.env s.heap m x u
 cell:∀x c,X.env.cells.lookup x=some c->∃v,s.heap.IsCell c v
 free:H X.env.locals=none
 freeC:∀x c,X.env.cells.lookup x=some c->H c=none
 pin:∀p∈X.pn++pins,s.heap.get? p.1=some p.2/\H p.1=none/\p.1≠X.env.locals/\p.1∉X.fs/\∀v,p.2.data ≠ .cell v
 hok:HOk X.prog X.w H s.heap
 len:σ.length=X.N.length
section
variable {X:Cx}{pins:List (Addr×Obj)}{σ:List (Option V)}{H H':Hp}{s:Shared}{h':Heap}
theorem Cx.Ok.nofr (ok:X.Ok)  {o:Obj}(e:X.base.get? b=some o):b∉X.fs:=fun hb=>by have:=(ok.funs.mem hb).1;rw[e] at this;cases this
theorem Inv.bs (I:Inv X pins σ H s):∀b o,X.base.get? b=some o->s.heap.get? b=some o/\H b=none:=fun b o e=>
 ⟨I.base.keep b o (I.ok.bs b o e).1 (I.ok.bs b o e).2 (I.ok.nofr e) (I.ok.noex b o e),I.base.free b o (I.ok.bs b o e).1 (I.ok.bs b o e).2 (I.ok.noex b o e)⟩
theorem Inv.bk (I:Inv X pins σ H s):∀b o,X.base.get? b=some o->s.heap.get? b=some o:=fun b o e=>(I.bs b o e).1
theorem Inv.mod (I:Inv X pins σ H s):Mod X.K X.mg X.base:=I.ok.mod
theorem Inv.kIn (I:Inv X pins σ H s):X.K.In s.heap:=I.ok.mod.kin.keeps I.bk
theorem Inv.fr (I:Inv X pins σ H s):∃m,Fr X.base X.env.locals s.heap m:=
 let ⟨m,hn,_⟩:=I.loc
 ⟨m,hn,I.bk,T1 I.ok.bsz I.ok.above⟩
theorem Inv.lt (I:Inv X pins σ H s):X.env.locals<s.heap.objs.size:=let ⟨_,hn,_⟩:=I.loc;hn.lt
theorem Inv.sz (I:Inv X pins σ H s):X.s₀.heap.objs.size<=s.heap.objs.size:=T1 I.ok.above (Uv I.lt)
theorem Inv.nofs (I:Inv X pins σ H s){a:Addr}(h:s.heap.objs.size<=a):a∉X.fs:=fun hb=>by obtain⟨_,o,ho,_⟩:=I.ok.funs.mem hb;exact absurd (Ud (TM ho) (T1 I.sz h)) (UH _)
theorem Inv.cne (I:Inv X pins σ H s):∀x c,X.env.cells.lookup x=some c->c≠X.env.locals:=fun x c e z=>by obtain⟨v,o,ho,hd⟩:=I.cell x c e;obtain⟨m,⟨o',es,ep,ho',hd',_⟩,_⟩:=I.loc;rw[z,ho'] at ho;cases ho;rw[hd'] at hd;cases hd
theorem Inv.funs (I:Inv X pins σ H s):s.heap.FunFrames X.base X.outer:=by
 have all:∀(l:List Env),(∀b∈frs l,b∈X.fs)->X.s₀.heap.FunFrames X.base l->s.heap.FunFrames X.base l:=by
  intro l;induction l with
  |nil=>intro _ _;trivial
  |cons env r ih=>intro hs hl;obtain⟨hk,⟨L,o,hf,hn,ho,hd⟩,hr⟩:=hl;have hL:L∈X.fs:=hs L (by unfold frs;rw[U6,hf];exact Tx);obtain⟨sl,e⟩:=I.base.slot L o ho (I.ok.frf L hL) hL fun z=>I.ok.exfs L z hL;exact⟨hk,⟨L,_,hf,hn,e,hd⟩,ih (fun b hb=>hs b (by unfold frs;rw[U6,hf];exact TC _ hb)) hr⟩
 exact all X.outer (fun _ hb=>hb) I.ok.funs
theorem Inv.stack (I:Inv X pins σ H s):s.heap.FunFrames X.base X.stack:=by
 rcases I.ok.stk with e|⟨e,hf⟩
 ·rw[e];exact I.funs
 ·rw[e];obtain⟨m,hn,_⟩:=I.loc;refine .cons (by rw[I.ok.kind];decide) hf hn ?_ I.funs;exact Heap.get?_none_of_le (T1 I.ok.bsz I.ok.above)
theorem Inv.stkSub (I:Inv X pins σ H s):∀b∈frs X.stack,b∈X.env.locals::X.fs:=fun b hb=>by
 rcases I.ok.stk with e|⟨e,hf⟩
 ·rw[e] at hb;exact TC _ hb
 ·rw[e] at hb;unfold frs at hb;rw[U6,hf] at hb;exact hb
theorem Inv.stkFree (I:Inv X pins σ H s):∀b∈frs X.stack,H b=none:=fun b hb=>by
 rcases TD.mp (I.stkSub b hb) with e|hb
 ·rw[e];exact I.free
 ·obtain⟨_,o,ho,_⟩:=I.ok.funs.mem hb;exact I.base.free b o ho (I.ok.frf b hb) fun z=>I.ok.exfs b z hb
theorem Inv.step  {t':Nat}{d':Drawn}{ch:List Addr}(I:Inv X pins σ H s)
  (hch:∀b∈ch,(b∈X.ex\/X.s₀.heap.objs.size<=b)/\b≠X.env.locals/\(∀x c,X.env.cells.lookup x=some c->c≠b)/\∀p∈X.pn++pins,p.1≠b)
  (keep:∀b o,b≠X.env.locals->b∉X.fs->b∉ch->s.heap.get? b=some o->H b=none->h'.get? b=some o)
  (slot:∀b o,b≠X.env.locals->b∈X.fs->b∉ch->s.heap.get? b=some o->H b=none->∃sl,h'.get? b=some { o with slots:=sl }) (free:∀b o,b∉ch->s.heap.get? b=some o->H b=none->H' b=none)
  (there:∀b o,b∉ch->s.heap.get? b=some o->∃o',h'.get? b=some o')
  (tups:∀b xs,H b=some (.tup xs)->H' b=some (.tup xs)) (frzs:∀b o u,H b=some (.frz o u)->H' b=some (.frz o u)) (tbls:∀b ps,H b=some (.tbl ps)->∃more,H' b=some (.tbl (ps++more)))
  (ns:∀m,s.heap.Ns X.env.locals m->h'.Ns X.env.locals m) (hok:HOk X.prog X.w H' h') (hg:AllBare g') :
  Inv X pins σ H' { s with heap:=h',gens:=g',drawn:=d',toks:=t' }:=by
 have neL:∀b o,X.s₀.heap.get? b=some o->b≠X.env.locals:=fun b o e=>TX (Ud (TM e) I.ok.above);have neC:∀b o,X.s₀.heap.get? b=some o->b∉X.ex->b∉ch:=fun b o e hx hb=>by
  rcases (hch b hb).1 with z|z
  ·exact hx z
  ·exact absurd (Ud (TM e) z) (UH _)
 have cellK:∀x c,X.env.cells.lookup x=some c->∀v,s.heap.IsCell c v->h'.IsCell c v:=fun x c e v hpt0=>by
  obtain⟨o,ho,hd⟩:=hpt0;have nch:c∉ch:=fun z=>(hch c z).2.2.1 x c e rfl;by_cases hc:c∈X.fs
  ·obtain⟨sl,q⟩:=slot c o (I.cne x c e) hc nch ho (I.freeC x c e);exact⟨_,q,hd⟩
  ·exact⟨o,keep c o (I.cne x c e) hc nch ho (I.freeC x c e),hd⟩
 refine⟨I.ok,I.os,hg,⟨fun b o e n hb hx=>?_,fun b o e n hb hx=>?_,fun b o e n hx=>?_,fun b o e hx=>?_,fun b xs e=>tups b xs (I.base.tups b xs e),fun b o xs e=>frzs b o xs (I.base.frzs b o xs e),fun b ps e=>?_⟩,?_,fun x c e=>?_,?_,fun x c e=>?_,fun p hp=>?_,hok,I.len⟩
 ·exact keep b o (neL b o e) hb (neC b o e hx) (I.base.keep b o e n hb hx) (I.base.free b o e n hx)
 ·obtain⟨sl,e1⟩:=I.base.slot b o e n hb hx;obtain⟨sl',e2⟩:=slot b _ (neL b o e) hb (neC b o e hx) e1 (I.base.free b o e n hx);exact⟨sl',e2⟩
 ·obtain⟨o',e1⟩:=I.base.there b o e hx;exact free b o' (neC b o e hx) e1 (I.base.free b o e n hx)
 ·obtain⟨o',e1⟩:=I.base.there b o e hx;exact there b o' (neC b o e hx) e1
 ·obtain⟨m1,e1⟩:=I.base.tbls b ps e;obtain⟨m2,e2⟩:=tbls b _ e1;exact⟨m1++m2,by rw[e2,Array.append_assoc]⟩
 ·obtain⟨m,hn,hl⟩:=I.loc;refine⟨m,ns m hn,fun i x v e1 e2 e3=>?_⟩;obtain⟨u,r,l⟩:=hl i x v e1 e2 e3;refine⟨u,r,?_⟩;rcases l with l|⟨k,c,e,z⟩
  ·exact .inl l
  ·exact .inr ⟨k,c,e,cellK x c e _ z⟩
 ·obtain⟨v,z⟩:=I.cell x c e;exact⟨v,cellK x c e v z⟩
 ·obtain⟨m,⟨o,_,_,ho,_⟩,_⟩:=I.loc;exact free _ o (fun z=>(hch _ z).2.1 rfl) ho I.free
 ·obtain⟨v,o,ho,hd⟩:=I.cell x c e;exact free c o (fun z=>(hch c z).2.2.1 x c e rfl) ho (I.freeC x c e)
 ·obtain⟨e,n,ne,nf,d⟩:=I.pin p hp;have nch:p.1∉ch:=fun z=>(hch p.1 z).2.2.2 p hp rfl;exact⟨keep p.1 p.2 ne nf nch e n,free p.1 p.2 nch e n,ne,nf,d⟩
theorem Inv.un {t':Nat}(I:Inv X pins σ H s)(u:Un X.fs [] H H' s.heap h')(hok:HOk X.prog X.w H' h'):Inv X pins σ H' { s with heap:=h',toks:=t' }:=by
 obtain⟨m,⟨o,es,ep,ho,r⟩,_⟩:=id I.loc;obtain⟨sl,hL⟩:=u.any ho I.free (by simp);exact I.step (g':=s.gens) (d':=s.drawn) (ch:=[]) (fun _ z=>nomatch z) (fun b o _ hb _ e n=>u.keep b o e n hb (by simp)) (fun b o _ hb _ e n=>u.slot b o e n hb (by simp)) (fun b o _ e n=>u.free b o e n (by simp)) (fun b o _ e=>u.there b o e (by simp)) u.tups u.frzs u.tbls (fun m' hm=>by
  obtain⟨o',es',ep',ho',r'⟩:=hm;rw[ho] at ho';cases ho'
  exact⟨_,es',ep',hL,r'⟩) hok I.bare
theorem Inv.call  {t':Nat}{d':Drawn}  (I:Inv X pins σ H s)(u:Un (frs X.stack) ch H H' s.heap h')(hok:HOk X.prog X.w H' h')(hg:AllBare g')
  (hch:∀b∈ch,(b∈X.ex\/X.s₀.heap.objs.size<=b)/\b≠X.env.locals/\(∀x c,X.env.cells.lookup x=some c->c≠b)/\∀p∈X.pn++pins,p.1≠b) :
  Inv X pins σ H' { s with heap:=h',gens:=g',drawn:=d',toks:=t' }:=by
 obtain⟨m,⟨o,es,ep,ho,r⟩,_⟩:=id I.loc;obtain⟨sl,hL⟩:=u.any ho I.free fun z=>(hch _ z).2.1 rfl;exact I.step (ch:=ch) hch (fun b o hL hb hc e n=>u.keep b o e n (fun z=>(TD.mp (I.stkSub b z)).elim hL hb) hc) (fun b o _ _ hc e n=>u.any e n hc) (fun b o hc e n=>u.free b o e n hc) (fun b o hc e=>u.there b o e hc) u.tups u.frzs u.tbls (fun m' hm=>by
  obtain⟨o',es',ep',ho',r'⟩:=hm;rw[ho] at ho';cases ho'
  exact⟨_,es',ep',hL,r'⟩) hok hg
theorem Inv.turned {t':Nat}{it:Addr}(I:Inv X pins σ H s)(k:∀b o,b≠it->s.heap.get? b=some o->h'.get? b=some o)(hn:H it=none)(hL:it≠X.env.locals)
  (h1:it∈X.ex\/X.s₀.heap.objs.size<=it) (h2:∀x c,X.env.cells.lookup x=some c->c≠it) (h3:∀p∈X.pn++pins,p.1≠it):Inv X pins σ H { s with heap:=h',toks:=t' }:=by
 have nit:∀b u,H b=some u->b≠it:=fun b u e z=>by rw[z,hn] at e;cases e
 refine I.step (g':=s.gens) (d':=s.drawn) (ch:=[it]) (fun b hb=>?_) (fun b o _ _ hc e _=>k b o (fun z=>hc (by simp[z])) e) (fun b o _ _ hc e _=>⟨o.slots,k b o (fun z=>hc (by simp[z])) e⟩) (fun _ _ _ _ n=>n)
  (fun b o hc e=>⟨o,k b o (fun z=>hc (by simp[z])) e⟩) (fun _ _ e=>e) (fun _ _ _ e=>e) (fun b ps e=>⟨#[],by rw[e];simp⟩) (fun m hm=>?_) (fun b u e=>?_) I.bare
 ·have e:b=it:=by simpa using hb
  subst e;exact⟨h1,hL,h2,h3⟩
 ·obtain⟨o,es,ep,ho,r⟩:=hm;exact⟨o,es,ep,k _ o (T9 hL) ho,r⟩
 ·refine (I.hok b u e).stay (fun c v hc q=>k c v ?_ q) (fun _ q=>q) fun _ _ q=>q;rcases hc with z|z
  ·rw[z];exact nit b u e
  ·exact nit c _ z
theorem Inv.tok (I:Inv X pins σ H s)(t:Nat):Inv X pins σ H { s with toks:=t }:=I.un (h':=s.heap) (t':=t) Un.refl I.hok
theorem Inv.kept {t':Nat}(I:Inv X pins σ H s)(k:∀b u,s.heap.get? b=some u->h'.get? b=some u):Inv X pins σ H { s with heap:=h',toks:=t' }:=I.un (Un.kept k) (I.hok.kept k)
theorem Inv.laid {a:Addr}  {t':Nat}(I:Inv X pins σ H s)(k:∀b u,s.heap.get? b=some u->h'.get? b=some u)(hp:s.heap.objs.size<=a)(new:ObjOk X.prog X.w (upd H a o) h' a o) :
  Inv X pins σ (upd H a o) { s with heap:=h',toks:=t' }:=I.un (Un.laid k hp (I.hok.fresh hp)) (I.hok.laid k hp new)
theorem Inv.write {e:Addr}  {t':Nat}(I:Inv X pins σ H s)(mu:Mut (H x))(he:e=x\/H e=some (.own x))(k:∀b u,b≠e->s.heap.get? b=some u->h'.get? b=some u)(heo:∃u,h'.get? e=some u)
  (new:ObjOk X.prog X.w (upd H x o) h' x o):Inv X pins σ (upd H x o) { s with heap:=h',toks:=t' }:=I.un (Un.write mu he k heo) (I.hok.write mu he k heo new)
theorem Inv.weak {σ':List (Option V)}(I:Inv X pins σ H s)(hl:σ'.length=σ.length)(w:∀(i:Nat) v,σ'[i]?=some (some v)->σ[i]?=some (some v)):Inv X pins σ' H s:=
 ⟨I.ok,I.os,I.bare,I.base,let ⟨m,hn,hl'⟩:=I.loc;⟨m,hn,fun i x v e1 e2 e3=>hl' i x v e1 (w i v e2) e3⟩,I.cell,I.free,I.freeC,I.pin,I.hok,hl.trans I.len⟩
theorem Inv.pins_of {pins':List (Addr×Obj)}(I:Inv X pins σ H s)(h:∀p∈pins',s.heap.get? p.1=some p.2/\H p.1=none/\p.1≠X.env.locals/\p.1∉X.fs/\∀v,p.2.data ≠ .cell v):Inv X pins' σ H s:=
 ⟨I.ok,I.os,I.bare,I.base,I.loc,I.cell,I.free,I.freeC,fun p hp=>(TB.mp hp).elim (fun z=>I.pin p (TJ _ z)) (h p),I.hok,I.len⟩
theorem A8 {N:List Str}(hN:N.Nodup){i j:Nat}{x:Str}(a:N[i]?=some x)(b:N[j]?=some x):i=j:=by obtain⟨h1,e1⟩:=TR.mp a;obtain⟨h2,e2⟩:=TR.mp b;exact (List.getElem_inj hN).mp (e1.trans e2.symm)
theorem Gg    {i:Nat}{x:Str}   {Q:Unit->Shared->Prop}(I:Inv X pins σ H s)(hN:X.N.Nodup)(hi:X.N[i]?=some x)(hx:Loc X.env.scope x)(r:RelV v u)
  (h:∀s',Inv X pins (σ.set i (some v)) H s'->(∃a,Heap.SameBut a s.heap s'.heap/\(a=X.env.locals\/X.env.cells.lookup x=some a))->Q () s') (hf:X.fn x=true\/X.env.scope.names.lookup x=some .local:=by first|exact .inl rfl|exact .inr rfl|assumption):wpAny M A (storeName X.env x u) Q E s:=by
 obtain⟨m,hn,hl⟩:=id I.loc;have hcls:(X.env.scope.kind == .class || (X.env.scope.kind == .module&&X.env.locals != X.env.globals))=false:=by rw[I.ok.kind];rfl
 have hiσ:i<σ.length:=by rw[I.len];exact (TR.mp hi).1
 have cne:=I.cne;have tracked:∀ {a:Addr} {h':Heap},(∃o,s.heap.get? a=some o/\H a=none)->Heap.SameBut a s.heap h'->HOk X.prog X.w H h':=fun {a h'} ha hs b ob e=>by
  obtain⟨_,_,hfree⟩:=ha;refine (I.hok b ob e).stay (fun c w' hc q=>(hs.2 c ?_).trans q) (fun _ q=>q) fun _ _ q=>q;rintro rfl;rcases hc with rfl|hc
  ·rw[hfree] at e;cases e
  ·rw[hfree] at hc;cases hc
 rcases hx with hk|hk
 ·refine wpAny_storeName_local hk hn (fun h' hn' hs=>?_) hcls;obtain⟨oL,_,_,hoL,_⟩:=id hn;refine h _ ⟨I.ok,I.os,I.bare,⟨fun b o e n hb hx=>?_,fun b o e n hb hx=>?_,I.base.free,fun b o e hx=>?_,I.base.tups,I.base.frzs,I.base.tbls⟩,⟨_,hn',fun j y v' e1 e2 e3=>?_⟩,fun y c e=>?_,I.free,I.freeC,fun p hp=>?_,tracked ⟨oL,hoL,I.free⟩ hs,by simpa using I.len⟩ ⟨_,hs,.inl rfl⟩
  ·exact (hs.2 b (TX (Ud (TM e) I.ok.above))).trans (I.base.keep b o e n hb hx)
  ·obtain⟨sl,e1⟩:=I.base.slot b o e n hb hx;exact⟨sl,(hs.2 b (TX (Ud (TM e) I.ok.above))).trans e1⟩
  ·obtain⟨o',e1⟩:=I.base.there b o e hx;exact⟨o',(hs.2 b (TX (Ud (TM e) I.ok.above))).trans e1⟩
  ·by_cases hj:j=i
   ·subst hj;rw[hi] at e1;cases e1;rw[Vv hiσ] at e2;cases e2;exact⟨u,r,.inl ⟨hk,by simp⟩⟩
   ·rw[UI (T9 hj)] at e2;obtain⟨u',r',q⟩:=hl j y v' e1 e2 e3;refine⟨u',r',?_⟩;rcases q with ⟨k,e⟩|⟨k,c,e,z⟩
    ·refine .inl ⟨k,?_⟩;have:y≠x:=fun e=>hj (A8 hN e1 (e▸hi));simp[this,e]
    ·exact .inr ⟨k,c,e,z.sameBut hs (cne y c e)⟩
  ·obtain⟨w',z⟩:=I.cell y c e;exact⟨w',z.sameBut hs (cne y c e)⟩
  ·obtain⟨e,n,ne,nf,d⟩:=I.pin p hp;exact⟨(hs.2 p.1 ne).trans e,n,ne,nf,d⟩
 ·have hfn:X.fn x=true:=by
   rcases hf with z|z
   ·exact z
   ·rw[z] at hk;cases hk
  obtain⟨c,hc⟩:=I.ok.has x (.inl hk);obtain⟨w',z⟩:=I.cell x c hc;refine wpAny_storeName_cell I.ok.kind hk hc z (fun h' hc' hs=>?_);obtain⟨oc,hoc,hocd⟩:=id z;refine h { s with heap:=h' } ⟨I.ok,I.os,I.bare,⟨fun b o e n hb hx=>?_,fun b o e n hb hx=>?_,I.base.free,fun b o e hx=>?_,I.base.tups,I.base.frzs,I.base.tbls⟩,⟨m,hn.sameBut hs (T9 (cne x c hc)),fun j y v' e1 e2 e3=>?_⟩,fun y c' e=>?_,I.free,I.freeC,fun p hp=>?_,tracked ⟨oc,hoc,I.freeC x c hc⟩ hs,by simpa using I.len⟩ ⟨c,hs,.inr hc⟩
  ·exact (hs.2 b (TX (Ud (TM e) (I.ok.cab x c hfn hc)))).trans (I.base.keep b o e n hb hx)
  ·obtain⟨sl,e1⟩:=I.base.slot b o e n hb hx;exact⟨sl,(hs.2 b (TX (Ud (TM e) (I.ok.cab x c hfn hc)))).trans e1⟩
  ·obtain⟨o',e1⟩:=I.base.there b o e hx;exact⟨o',(hs.2 b (TX (Ud (TM e) (I.ok.cab x c hfn hc)))).trans e1⟩
  ·by_cases hj:j=i
   ·subst hj;rw[hi] at e1;cases e1;rw[Vv hiσ] at e2;cases e2;exact⟨u,r,.inr ⟨.inl hk,c,hc,hc'⟩⟩
   ·rw[UI (T9 hj)] at e2;obtain⟨u',r',q⟩:=hl j y v' e1 e2 e3;refine⟨u',r',?_⟩;rcases q with q|⟨k,c',e,z'⟩
    ·exact .inl q
    ·refine .inr ⟨k,c',e,z'.sameBut hs ?_⟩;rintro rfl;exact hj (A8 hN e1 (I.ok.inj _ _ _ e hc▸hi))
  ·by_cases hcc:c'=c
   ·subst hcc;exact⟨_,hc'⟩
   ·obtain⟨w2,z2⟩:=I.cell y c' e;exact⟨w2,z2.sameBut hs hcc⟩
  ·obtain⟨e,n,ne,nf,d⟩:=I.pin p hp;refine⟨(hs.2 p.1 ?_).trans e,n,ne,nf,d⟩;intro q;rw[q,hoc] at e;have q':oc=p.2:=T6 e;exact d w' (by rw[<- q'];exact hocd)
theorem vM {M:Model}{A:Around}{E:Value->Shared->Prop}{i:Nat}{x:Str}{v:V}{u:Value}{Q:Unit->Shared->Prop}(I:Inv X pins σ H s)(hN:X.N.Nodup)(hi:X.N[i]?=some x)(hx:Loc X.env.scope x)(r:RelV v u)
  (h:∀s',Inv X pins (σ.set i (some v)) H s'->Q () s') (hf:X.fn x=true\/X.env.scope.names.lookup x=some .local:=by first|exact .inl rfl|exact .inr rfl|assumption):wpAny M A (storeName X.env x u) Q E s:=
 Gg I hN hi hx r (fun s' I' _=>h s' I') hf
theorem Inv.call' {s':Shared}  (I:Inv X pins σ H s)(ho:s'.os=s.os)(u:Un (frs X.stack) ch H H' s.heap s'.heap)(hok:HOk X.prog X.w H' s'.heap)(hg:AllBare s'.gens)
  (hch:∀b∈ch,(b∈X.ex\/X.s₀.heap.objs.size<=b)/\b≠X.env.locals/\(∀x c,X.env.cells.lookup x=some c->c≠b)/\∀p∈X.pn++pins,p.1≠b):Inv X pins σ H' s':=by
 obtain⟨h',g',d',t',o'⟩:=s';have e:o'=s.os:=ho;subst e;exact I.call (g':=g') (t':=t') (d':=d') u hok hg hch
end
noncomputable abbrev XK:=Value->Option Addr->Hp->Prop
noncomputable abbrev St:=List (Option V)
noncomputable abbrev VK:=V->Hp->Prop
noncomputable abbrev TE:=St->Hp->VK->Prop
noncomputable abbrev TT:=St->Hp->(Bool->Hp->Prop)->Prop
noncomputable abbrev TA:=St->Hp->(List V->Hp->Prop)->Prop
structure Ends where
 nx:St->Hp->Prop
 rt:VK
 bk:St->Hp->Prop:=fun _ _=>False
 ct:St->Hp->Prop:=fun _ _=>False
noncomputable abbrev TS:=Ends->St->Hp->Prop
def EP (X:Cx)(pins:List (Addr×Obj))(σ:St)(Q:VK)(u:Value)(s':Shared):Prop:=∃v H',Inv X pins σ H' s'/\RelV v u/\Q v H'
def TP (X:Cx)(pins:List (Addr×Obj))(σ:St)(Q:Bool->Hp->Prop)(b:Bool)(s':Shared):Prop:=∃H',Inv X pins σ H' s'/\Q b H'
def AP (X:Cx)(pins:List (Addr×Obj))(σ:St)(Q:List V->Hp->Prop)(us:List Value)(s':Shared):Prop:=∃vs H',Inv X pins σ H' s'/\Vals vs us/\Q vs H'
def SP (X:Cx)(pins:List (Addr×Obj))(D:Ends)(f:Flow)(s':Shared):Prop:=
 match f with
 |.next=>∃σ' H',Inv X pins σ' H' s'/\D.nx σ' H'
 |.brk=>∃σ' H',Inv X pins σ' H' s'/\D.bk σ' H'
 |.cont=>∃σ' H',Inv X pins σ' H' s'/\D.ct σ' H'
 |.ret u=>∃v σ' H',Inv X pins σ' H' s'/\RelV v u/\D.rt v H'
def PE (X:Cx)(e:Expr)(t:TE):Prop:=
 ∀(pins:List (Addr×Obj)) (s:Shared) (σ:St) (H:Hp) (Q:VK),Inv X pins σ H s->t σ H Q->wpAny (model X.prog X.w) X.A (eval e X.env) (EP X pins σ Q) X.xe s
def PT (X:Cx)(e:Expr)(t:TT):Prop:=
 ∀(pins:List (Addr×Obj)) (s:Shared) (σ:St) (H:Hp) (Q:Bool->Hp->Prop),Inv X pins σ H s->t σ H Q->wpAny (model X.prog X.w) X.A (isTrue e X.env (eval e X.env)) (TP X pins σ Q) X.xe s
def PW (X:Cx)(e:Expr)(t:TT):Prop:=
 ∀(whole:Sem Value) (pins:List (Addr×Obj)) (s:Shared) (σ:St) (H:Hp) (Q:Bool->Hp->Prop),Inv X pins σ H s->t σ H Q->wpAny (model X.prog X.w) X.A (isTrue e X.env whole) (TP X pins σ Q) X.xe s
theorem PW.pt {X:Cx}{e:Expr}{t:TT}(h:PW X e t):PT X e t:=h _
def PA (X:Cx)(es:List Expr)(t:TA):Prop:=
 ∀(pos:Pos) (pins:List (Addr×Obj)) (s:Shared) (σ:St) (H:Hp) (Q:List V->Hp->Prop),Inv X pins σ H s->t σ H Q->wpAny (model X.prog X.w) X.A (spliced (backTo pos (starEach es X.env))) (AP X pins σ Q) X.xe s
def PS (X:Cx)(st:Stmt)(t:TS):Prop:=
 ∀(pins:List (Addr×Obj)) (s:Shared) (σ:St) (H:Hp) (D:Ends),Inv X pins σ H s->t D σ H->wpAny (model X.prog X.w) X.A (exec st X.env) (SP X pins D) X.xe s
def PSs (X:Cx)(st:List Stmt)(t:TS):Prop:=
 ∀(pins:List (Addr×Obj)) (s:Shared) (σ:St) (H:Hp) (D:Ends),Inv X pins σ H s->t D σ H->wpAny (model X.prog X.w) X.A (execs st X.env) (SP X pins D) X.xe s
theorem thn {α:Type}{t:Sem α}{Q Q':α->Shared->Prop}{M:Model}{A:Around}{E:Value->Shared->Prop}{s:Shared}(h:wpAny M A t Q E s)(hQ:∀a s,Q a s->Q' a s):wpAny M A t Q' E s:=Uq h hQ fun _ _ x=>x
section
variable {X:Cx}
noncomputable def kQ (i:Nat):TE:=fun σ H Q=>∃v,σ[i]?=some (some v)/\Q v H
noncomputable def tC (v:V):TE:=fun _ H Q=>Q v H
theorem Nm {i:Nat}{x:Str}{pos:Pos}(hN:X.N[i]?=some x)(hv:Vis X.env.scope x)(hd:(x==("__debug__" : Str))=false:=by decide) (hcd:(x==("__classdict__" : Str))=false:=by decide):PE X (.Name x pos) (kQ i):=by
 intro pins s σ H Q I h;obtain⟨v,e,h⟩:=h;obtain⟨m,hn,hl⟩:=I.loc;obtain⟨u,r,l⟩:=hl i x v hN e hv;have fin:EP X pins σ Q u s:=⟨v,H,I,r,h⟩
 rcases l with ⟨hk,hm⟩|⟨hk,c,hc,hcell⟩
 ·exact wpAny_Name (wpAny_loadName_local I.ok.kind hk hn hm fin) hd
 ·rcases hk with hk|hk
  ·exact wpAny_Name (wpAny_loadName_cell I.ok.kind hk hc hcell fin) hd
  ·exact wpAny_Name (wpAny_loadName_free I.ok.kind hk hc hcell fin hcd) hd
theorem n5 {i j pos}:PE X (.Constant (.int i) j pos) (tC (.int i)):=fun _ _ _ H _ I h=>wpAny_Constant_int ⟨.int i,H,I.tok _,⟨_,rfl⟩,h⟩
theorem Pf {b j pos}:PE X (.Constant (.bool b) j pos) (tC (.bl b)):=fun _ _ _ H _ I h=>Constant_bool ⟨.bl b,H,I,rfl,h⟩
theorem Nk {j pos}:PE X (.Constant .none j pos) (tC .non):=fun _ _ _ H _ I h=>Constant_none ⟨.non,H,I,rfl,h⟩
def Gl (X:Cx)(x:Str):Prop:=X.env.kindOf x=some .globalImplicit
theorem za  {pins:List (Addr×Obj)}     {u:Value}{pos:Pos}{Q:Value->Shared->Prop}(I:Inv X pins σ H s)(hg:Gl X x)(hm:X.mg x=some u)(h:Q u s)
  (hd:(x==("__debug__" : Str))=false:=by decide):wpAny (model X.prog X.w) X.A (eval (.Name x pos) X.env) Q E s:=
 Calls.Name_function_global I.ok.kind hg (Calls.loadGlobal_global (by rw[I.ok.glob];exact I.mod.glob.keeps I.bk) hm h) hd
theorem j7 {E:Value->Shared->Prop}{pins:List (Addr×Obj)}{s:Shared}{σ:St}{H:Hp}{x:Str}{u:Value}{pos:Pos}{Q:Value->Shared->Prop}(I:Inv X pins σ H s)(hg:Gl X x)(hm:X.mg x=none)(hv:bootBuiltins x=some u)(h:Q u s)
  (hn:x ≠ "__name__" := by decide) (hd:(x==("__debug__" : Str))=false:=by decide):wpAny (model X.prog X.w) X.A (eval (.Name x pos) X.env) Q E s:=by
 obtain⟨mb,h1,h2⟩:=I.mod.blt;exact Calls.Name_function_global I.ok.kind hg (Calls.loadGlobal_builtin (by rw[I.ok.glob];exact I.mod.glob.keeps I.bk) hm (by rw[I.ok.blt];exact h1.keeps I.bk) ((h2 x hn).trans hv) h) hd
theorem Eb   {u:Value}{pos:Pos}(hg:Gl X x)(hm:X.mg x=some u)(r:RelV v u)(hd:(x==("__debug__" : Str))=false:=by decide):PE X (.Name x pos) (tC v):=
 fun _ _ _ H _ I h=>za I hg hm ⟨v,H,I,r,h⟩ hd
theorem zp   {u:Value}{pos:Pos}(hg:Gl X x)(hm:X.mg x=none)(hv:bootBuiltins x=some u)(r:RelV v u)(hn:x ≠ "__name__" := by decide) (hd:(x==("__debug__" : Str))=false:=by decide):PE X (.Name x pos) (tC v):=
 fun _ _ _ H _ I h=>j7 I hg hm hv ⟨v,H,I,r,h⟩ hn hd
variable {a b:Expr}{ta tb:TE}{pos:Pos}
def PC (X:Cx)(op:CmpOp)(a b:Expr)(t:TE):Prop:=
 ∀(pins:List (Addr×Obj)) (s:Shared) (σ:St) (H:Hp) (Q:VK),Inv X pins σ H s->t σ H Q ->
  wpAny (model X.prog X.w) X.A (eval a X.env) (fun v s₁=>wpAny (model X.prog X.w) X.A (eval b X.env) (fun u s₂=>wpAny (model X.prog X.w) X.A (compareOp op v u) (EP X pins σ Q) X.xe s₂) X.xe s₁) X.xe s
noncomputable def tB (t:TE):TT:=fun σ H Q=>t σ H fun x H1=>∃c,x = .bl c/\Q c H1
theorem Ni   (h:PC X op a b t)(h1:behindInMarks op b=false:=by first|exact nobehind _ (by decide) (by decide)|rfl):PE X (.Compare a [op] [b] pos) t:=fun pins s σ H Q I hw=>wpAny_Compare1 (h pins s σ H Q I hw) h1
variable {tA tB':TT}{rest:List Expr}
noncomputable def Oe (t u:TT):TT:=fun σ H Q=>t σ H fun c H1=>if c=true then u σ H1 Q else Q false H1
noncomputable def tOr (t u:TT):TT:=fun σ H Q=>t σ H fun c H1=>if c=true then Q true H1 else u σ H1 Q
noncomputable def Oh (t:TT):TT:=fun σ H Q=>t σ H fun c H1=>Q (!c) H1
theorem Ld (ha:PT X a tA):PW X (.BoolOp .And [a] pos) tA:=by
 intro wh pins s σ H Q I h;refine isTrue_and (thn (ha pins s σ H Q I h) fun c s1 e=>?_);cases c with
 |true=>exact isTrue_and_nil e
 |false=>exact e
theorem Nz (ha:PT X a tA):PW X (.BoolOp .Or [a] pos) tA:=by
 intro wh pins s σ H Q I h;refine isTrue_or (thn (ha pins s σ H Q I h) fun c s1 e=>?_);cases c with
 |false=>exact isTrue_or_nil e
 |true=>exact e
theorem IT (ha:PT X a tA)(hb:PW X (.BoolOp .And (b::rest) pos) tB'):PW X (.BoolOp .And (a::b::rest) pos) (Oe tA tB'):=by
 intro wh pins s σ H Q I h;refine isTrue_and (thn (ha pins s σ H _ I h) fun c s1 hpt9=>?_);obtain⟨H1,I1,q1⟩:=hpt9;cases c with
 |true=>exact hb wh pins s1 σ H1 Q I1 q1
 |false=>exact⟨H1,I1,q1⟩
theorem L0 (ha:PT X a tA)(hb:PW X (.BoolOp .Or (b::rest) pos) tB'):PW X (.BoolOp .Or (a::b::rest) pos) (tOr tA tB'):=by
 intro wh pins s σ H Q I h;refine isTrue_or (thn (ha pins s σ H _ I h) fun c s1 hpt9=>?_);obtain⟨H1,I1,q1⟩:=hpt9;cases c with
 |true=>exact⟨H1,I1,q1⟩
 |false=>exact hb wh pins s1 σ H1 Q I1 q1
theorem Nw (ha:PT X a tA):PT X (.UnaryOp .Not a pos) (Oh tA):=by intro pins s σ H Q I h;exact isTrue_not (ha pins s σ H (fun c H1=>Q (!c) H1) I h)
noncomputable def JB (ta tb:TE):TE:=fun σ H Q=>ta σ H fun x H1=>∃c,x = .bl c/\if c=true then tb σ H1 Q else Q (.bl false) H1
theorem Nl {op}  (h:PE X a t):PE X (.BoolOp op [a] pos) t:=fun pins s σ H Q I hw=>BoolOp_one (h pins s σ H Q I hw)
theorem Nh (ha:PE X a ta)(hb:PE X (.BoolOp .And (b::rest) pos) tb):PE X (.BoolOp .And (a::b::rest) pos) (JB ta tb):=by
 intro pins s σ H Q I h;refine BoolOp_and (thn (ha pins s σ H _ I h) fun v s1 hpt9=>?_);obtain⟨x,H1,I1,r1,q1⟩:=hpt9;obtain⟨c,rfl,q1⟩:=q1;cases r1;refine V9 ?_;cases c with
 |true=>exact hb pins s1 σ H1 Q I1 q1
 |false=>exact⟨.bl false,H1,I1,rfl,q1⟩
end
def SqL (K:W.Frag)(H:Hp)(a:Addr)(xs:List V):Prop:=
 Rd H a (.lst xs) \/
  ∃(o:Obj) (its:Array Value) (n:Nat),K.lookup a=some o/\o.cls = .type "list" /\ o.dict=none/\o.data = .seq its n/\its.size<=sizeLine/\Vals xs its.toList
def SqT (K:W.Frag)(H:Hp)(a:Addr)(xs:List V):Prop:=
 Rd H a (.tup xs) \/
  ∃(o:Obj) (its:Array Value) (n:Nat),K.lookup a=some o/\o.cls = .type "tuple" /\ o.data = .seq its n/\its.size<=sizeLine/\Vals xs its.toList
noncomputable def QF:Value->Option V
 |.none=>some .non
 |.bool b=>some (.bl b)
 |.int i _=>some (.int i)
 |.str x _=>some (.str x)
 |.bytes b _=>some (.byt b)
 |.float b _=>some (.flt b)
 |.ref a=>some (.ref a)
 |.type n=>some (.ty n)
 |_=>none
theorem RelV.abs   (r:RelV x u):QF u=some x:=by
 cases x with
 |non=>cases r;rfl
 |bl _=>cases r;rfl
 |int _=>obtain⟨t,rfl⟩:=r;rfl
 |str _=>obtain⟨t,rfl⟩:=r;rfl
 |byt _=>obtain⟨t,rfl⟩:=r;rfl
 |flt _=>obtain⟨t,rfl⟩:=r;rfl
 |ref _=>cases r;rfl
 |ty _=>cases r;rfl
theorem RelV.inj   (r:RelV x u)(q:RelV y u):x=y:=T6 (r.abs.symm.trans q.abs)
theorem Vals.inj {xs ys:List V}{us:List Value}(h:Vals xs us)(k:Vals ys us):xs=ys:=by
 induction h generalizing ys with
 |nil=>cases k;rfl
 |cons r t ih=>
  cases k with
  |cons r' t'=>rw[r.inj r',ih t']
section
variable {X:Cx}{pins:List (Addr×Obj)}{σ:St}{H:Hp}{s:Shared}{a:Addr}{xs ys:List V}
theorem SqL.of {K:W.Frag}(h:H a=some (.lst xs)):SqL K H a xs:=.inl (.inl h)
theorem SqT.of {K:W.Frag}(h:H a=some (.tup xs)):SqT K H a xs:=.inl (.inl h)
theorem Inv.list (I:Inv X pins σ H s)(h:SqL X.K H a xs):∃its:List Value,Vals xs its/\PlainL s.heap a its.toArray/\xs.length<=sizeLine:=by
 rcases h with h|⟨o,its,n,hk,hc,hd,hs,hz,r⟩
 ·obtain⟨z,its,n,r,e⟩:=h.ok I.hok;exact⟨its,r,⟨_,n,e,rfl,rfl,rfl⟩,z⟩
 ·refine⟨its.toList,r,⟨o,n,I.kIn a o hk,hc,hd,by simpa using hs⟩,?_⟩;have e:=r.length;simp only[Ui] at e;lia
theorem Inv.tuple (I:Inv X pins σ H s)(h:SqT X.K H a xs):∃its:List Value,Vals xs its/\IsTup s.heap a its.toArray/\xs.length<=sizeLine:=by
 rcases h with h|⟨o,its,n,hk,hc,hs,hz,r⟩
 ·obtain⟨z,its,r,p⟩:=h.ok I.hok;exact⟨its,r,p,z⟩
 ·refine⟨its.toList,r,⟨o,I.kIn a o hk,hc,n,by simpa using hs⟩,?_⟩;have e:=r.length;simp only[Ui] at e;lia
theorem Inv.list_inj (I:Inv X pins σ H s)(h:SqL X.K H a xs)(h':SqL X.K H a ys):xs=ys:=by
 obtain⟨its,r,⟨o,n,e,_,_,d⟩,_⟩:=I.list h;obtain⟨its',r',⟨o',n',e',_,_,d'⟩,_⟩:=I.list h';rw[e] at e';cases e';rw[d] at d';injection d' with d1 _
 have:its=its':=by simpa using TQ Array.toList d1
 subst this;exact r.inj r'
theorem Inv.tuple_inj (I:Inv X pins σ H s)(h:SqT X.K H a xs)(h':SqT X.K H a ys):xs=ys:=by
 obtain⟨its,r,⟨o,e,_,n,d⟩,_⟩:=I.tuple h;obtain⟨its',r',⟨o',e',_,n',d'⟩,_⟩:=I.tuple h';rw[e] at e';cases e';rw[d] at d';injection d' with d1 _
 have:its=its':=by simpa using TQ Array.toList d1
 subst this;exact r.inj r'
end
noncomputable abbrev Cx.wish (X:Cx)(E:Value->Shared->Prop):Cx:={ X with xe:=E }
noncomputable abbrev Cx.nox (X:Cx):Cx:=X.wish fun _ _=>False
theorem Cx.Ok.wish {X:Cx}(ok:X.Ok)(E:Value->Shared->Prop):(X.wish E).Ok:=
 ⟨ok.mod,ok.kind,ok.glob,ok.blt,ok.above,ok.inj,ok.has,ok.cab,ok.hd,ok.frames,ok.stk,ok.exf,ok.bs,ok.bsz,ok.noex,ok.exfs,ok.funs,ok.frf⟩
theorem Cx.Ok.unwish {X:Cx}{E:Value->Shared->Prop}(ok:(X.wish E).Ok):X.Ok:=
 ⟨ok.mod,ok.kind,ok.glob,ok.blt,ok.above,ok.inj,ok.has,ok.cab,ok.hd,ok.frames,ok.stk,ok.exf,ok.bs,ok.bsz,ok.noex,ok.exfs,ok.funs,ok.frf⟩
section
variable {X:Cx}{pins:List (Addr×Obj)}{σ:St}{H:Hp}{s:Shared}{E:Value->Shared->Prop}
theorem Inv.wish (I:Inv X pins σ H s)(E:Value->Shared->Prop):Inv (X.wish E) pins σ H s:=⟨I.ok.wish E,I.os,I.bare,I.base,I.loc,I.cell,I.free,I.freeC,I.pin,I.hok,I.len⟩
theorem Inv.unwish (I:Inv (X.wish E) pins σ H s):Inv X pins σ H s:=⟨I.ok.unwish,I.os,I.bare,I.base,I.loc,I.cell,I.free,I.freeC,I.pin,I.hok,I.len⟩
theorem SP.unwish   {s':Shared}(h:SP (X.wish E) pins D f s'):SP X pins D f s':=by
 cases f with
 |next=>obtain⟨σ',H',I,q⟩:=h;exact⟨σ',H',I.unwish,q⟩
 |brk=>obtain⟨σ',H',I,q⟩:=h;exact⟨σ',H',I.unwish,q⟩
 |cont=>obtain⟨σ',H',I,q⟩:=h;exact⟨σ',H',I.unwish,q⟩
 |ret u=>obtain⟨v,σ',H',I,r,q⟩:=h;exact⟨v,σ',H',I.unwish,r,q⟩
theorem PSs.nox {st:List Stmt}  (h:PSs X.nox st t):PSs X st t:=fun pins s σ H D I hw=>
 Uq (h pins s σ H D (I.wish _) hw) (fun _ _ q=>q.unwish) fun _ _ z=>False.elim z
end
section
variable {X:Cx}{st:Stmt}{rest:List Stmt}{t u:TS}{e:Expr}{te:TE}{pos:Pos}
noncomputable def Er:TS:=fun D σ H=>D.nx σ H
noncomputable def LD (t u:TS):TS:=fun D σ H=>t { D with nx:=u D } σ H
theorem pH:PSs X [] Er:=fun _ _ σ H _ I h=>Wa ⟨σ,H,I,h⟩
theorem aD (h1:PS X st t)(h2:PSs X rest u):PSs X (st::rest) (LD t u):=by
 intro pins s σ H D I h;refine wpAny_execs_cons (thn (h1 pins s σ H { D with nx:=u D } I h) fun f s1 q=>?_);cases f with
 |next=>
  obtain⟨σ',H',I',q⟩:=q;exact h2 pins s1 σ' H' D I' q
 |ret v=>exact q
 |brk=>exact q
 |cont=>exact q
theorem bm (h1:PS X st t):PSs X [st] t:=by
 intro pins s σ H D I h;refine wpAny_execs_cons (thn (h1 pins s σ H D I h) fun f s1 q=>?_);cases f with
 |next=>exact Wa q
 |ret v=>exact q
 |brk=>exact q
 |cont=>exact q
noncomputable def Dh:TS:=fun D σ H=>D.bk σ H
theorem IL:PS X (.Break pos) Dh:=fun _ _ σ H _ I h=>wpAny_Break ⟨σ,H,I,h⟩
theorem Inv.quiet {pins:List (Addr×Obj)}{σ:St}{H:Hp}{s:Shared}(I:Inv X pins σ H s):interactive X.env=false:=by simp[interactive,I.ok.kind]
noncomputable def vO (te:TE):TS:=fun D σ H=>te σ H fun _ H1=>D.nx σ H1
theorem mw (he:PE X e te)(hs:swapsWith e none pos.line X.env=pure false:=by rfl):PS X (.Expr e pos) (vO te):=by intro pins s σ H D I h;exact wpAny_Expr_any (thn (he pins s σ H _ I h) fun v s1 ⟨x,H1,I1,r1,q1⟩=>⟨σ,H1,I1,q1⟩) I.quiet hs
noncomputable def JJ (te:TE):TS:=fun D σ H=>te σ H D.rt
theorem fX (he:PE X e te):PS X (.Return (some e) pos) (JJ te):=by intro pins s σ H D I h;exact wpAny_Return_some (thn (he pins s σ H _ I h) fun v s1 ⟨x,H1,I1,r1,q1⟩=>⟨x,σ,H1,I1,r1,q1⟩)
noncomputable def LB (c:TT)(t u:TS):TS:=fun D σ H=>c σ H fun b H1=>if b=true then t D σ H1 else u D σ H1
theorem Bq {c:Expr}{a b:List Stmt}{tc:TT}(hc:PT X c tc)(ha:PSs X a t)(hb:PSs X b u):PS X (.If c a b pos) (LB tc t u):=by
 intro pins s σ H D I h;refine wpAny_If (thn (hc pins s σ H _ I h) fun d s1 hpt9=>?_);obtain⟨H1,I1,q1⟩:=hpt9;cases d with
 |true=>exact ha pins s1 σ H1 D I1 q1
 |false=>exact hb pins s1 σ H1 D I1 q1
noncomputable def JG:TS:=fun _ _ _=>False
theorem re:PSs X sts JG:=fun _ _ _ _ _ _ h=>h.elim
end
noncomputable abbrev TG:=V->St->Hp->(St->Hp->Prop)->Prop
noncomputable abbrev TGs:=List V->St->Hp->(St->Hp->Prop)->Prop
def PG (X:Cx)(target:Expr)(t:TG):Prop:=
 ∀(pins:List (Addr×Obj)) (s:Shared) (σ:St) (H:Hp) (v:V) (u:Value) (Q:St->Hp->Prop),Inv X pins σ H s->RelV v u->t v σ H Q ->
  wpAny (model X.prog X.w) X.A (assign target X.env u) (fun _ s'=>∃σ' H',Inv X pins σ' H' s'/\Q σ' H') X.xe s
def PGs (X:Cx)(ts:List Expr)(t:TGs):Prop:=
 ∀(pins:List (Addr×Obj)) (s:Shared) (σ:St) (H:Hp) (vs:List V) (us:List Value) (Q:St->Hp->Prop),Inv X pins σ H s->Vals vs us->t vs σ H Q ->
  wpAny (model X.prog X.w) X.A (assignInOrder ((assignEach ts X.env).map (·.2)) us) (fun _ s'=>∃σ' H',Inv X pins σ' H' s'/\Q σ' H') X.xe s
noncomputable abbrev Mn:=V->V->V->Hp->(Hp->Prop)->Prop
def Mm (X:Cx)(t:Mn):Prop:=
 ∀(pins:List (Addr×Obj)) (s:Shared) (σ:St) (H:Hp) (o i v:V) (ov iv u:Value) (Q:Hp->Prop),Inv X pins σ H s->RelV o ov->RelV i iv->RelV v u->t o i v H Q ->
  wpAny (model X.prog X.w) X.A (setItem ov iv u) (fun _ s'=>∃H',Inv X pins σ H' s'/\Q H') X.xe s
noncomputable abbrev TIp:=V->V->Hp->VK->Prop
def PIp (X:Cx)(op:Operator)(t:TIp):Prop:=
 ∀(pins:List (Addr×Obj)) (s:Shared) (σ:St) (H:Hp) (x y:V) (v u:Value) (Q:VK),Inv X pins σ H s->RelV x v->RelV y u->t x y H Q ->
  wpAny (model X.prog X.w) X.A (inplaceOp op v u) (EP X pins σ Q) X.xe s
section
variable {X:Cx}{pos:Pos}
noncomputable def je (i:Nat):TG:=fun v σ H Q=>Q (σ.set i (some v)) H
theorem pF {i:Nat}{x:Str}(hN:X.N.Nodup)(hi:X.N[i]?=some x)(hx:Loc X.env.scope x)(hf:X.fn x=true\/X.env.scope.names.lookup x=some .local:=by first|exact .inl rfl|exact .inr rfl|assumption):PG X (.Name x pos) (je i):=by intro pins s σ H v u Q I r h;exact wpAny_assign_Name (vM I hN hi hx r (fun s' I'=>⟨_,H,I',h⟩) hf)
noncomputable def Ks:TGs:=fun vs σ H Q=>vs=[]/\Q σ H
noncomputable def DP (t:TG)(u:TGs):TGs:=fun vs σ H Q=>∃v r,vs=v::r/\t v σ H fun σ' H'=>u r σ' H' Q
theorem K1:PGs X [] Ks:=by intro pins s σ H vs us Q I r h;obtain⟨e,h⟩:=h;subst e;cases r;exact assignInOrder_nil ⟨σ,H,I,h⟩
theorem IG {e:Expr}{es:List Expr}{t:TG}{u:TGs}(h1:PG X e t)(h2:PGs X es u)
  (hs:(assignEach (e::es) X.env).map (·.2)=assign e X.env::(assignEach es X.env).map (·.2):=by rfl):PGs X (e::es) (DP t u):=by
 intro pins s σ H vs us Q I r h;obtain⟨v,vr,e1,h⟩:=h;subst e1;cases r with
 |cons r rr=>rw[hs];refine assignInOrder_cons (thn (h1 pins s σ H _ _ _ I r h) fun _ s1 hpt9=>?_);obtain⟨σ1,H1,I1,q1⟩:=hpt9;exact h2 pins s1 σ1 H1 _ _ Q I1 rr q1
noncomputable def Hr (K:W.Frag)(n:Nat)(t:TGs):TG:=fun v σ H Q=>∃a xs,v = .ref a/\SqT K H a xs/\xs.length=n/\t xs σ H Q
theorem No {es:List Expr}{k:Nat}  {n:Nat}(hc:X.calm=true)(h:PGs X es t)
  (hn:(assignEach es X.env).length=n:=by rfl) (hst:(assignEach es X.env).findIdx? (·.1)=none:=by rfl):PG X (.Tuple es k pos) (Hr X.K n t):=by
 intro pins s σ H v u Q I r hw;obtain⟨a,xs,e1,hq,hl,hw⟩:=hw;subst e1;cases r;obtain⟨its,rv,ht,hz⟩:=I.tuple hq;refine assign_Tuple_tuple (I.ok.hd hc) ht (by simp[hn,<- hl,rv.length]) hst fun h' hx=>?_;have I1:Inv X pins σ H { s with heap:=h' }:=I.kept (t':=s.toks) fun b o e=>hx b o (TX (TM e)) e;exact h pins _ σ H xs _ Q I1 (by simpa using rv) hw
noncomputable def MK (to ti:TE)(t:Mn):TG:=fun v σ H Q=>to σ H fun o H1=>ti σ H1 fun i H2=>t o i v H2 fun H3=>Q σ H3
theorem Nn {o i:Expr}{to ti:TE}{t:Mn}(ho:PE X o to)(hi:PE X i ti)(hs:Mm X t)
  (ha:∀v,assign (.Subscript o i pos) X.env v=(do
   let ov ← holding [v] (eval o X.env)
   let iv ← holding [v,ov] (eval i X.env)
   standAt pos
   holding [v,ov,iv] (setItem ov iv v)
   release [v,ov,iv] []):=by intro _;rfl):PG X (.Subscript o i pos) (MK to ti t):=by
 intro pins s σ H v u Q I r h;rw[ha];refine Tp (UL (thn (ho pins s σ H _ I h) fun ov s1 hpt9=>?_));obtain⟨x,H1,I1,r1,q1⟩:=hpt9;refine Tp (UL (thn (hi pins s1 σ H1 _ I1 q1) fun iv s2 hpt9=>?_));obtain⟨y,H2,I2,r2,q2⟩:=hpt9;refine Tp (wpAny_standAt (Tp (UL (thn (hs pins s2 σ H2 x y v ov iv u _ I2 r1 r2 r q2) fun _ s3 hpt9=>?_))));obtain⟨H3,I3,q3⟩:=hpt9;exact wpAny_release ⟨σ,H3,I3,q3⟩
noncomputable def zL (te:TE)(g:TG):TS:=fun D σ H=>te σ H fun x H1=>g x σ H1 D.nx
theorem Nt {tg e:Expr}{te:TE}{g:TG}(he:PE X e te)(hg:PG X tg g)(hs:swapsWithSole [tg] e pos.line X.env=pure false:=by rfl)(hw:swappedStores [tg] e X.env=pure none:=by rfl)
  (h1:(assignEach [tg] X.env).map (·.2)=[assign tg X.env]:=by rfl):PS X (.Assign [tg] e pos) (zL te g):=by
 intro pins s σ H D I h;refine wpAny_Assign_stores (thn (he pins s σ H _ I h) fun v s1 hpt9=>?_) hs hw;obtain⟨x,H1,I1,r1,q1⟩:=hpt9;rw[h1];exact thn (hg pins s1 σ H1 x v _ I1 r1 q1) fun _ s2 q=>q
theorem zA {i:Nat}{x:Str}{e:Expr}{te:TE}{pos':Pos}(hN:X.N.Nodup)(hi:X.N[i]?=some x)(hx:Loc X.env.scope x)(he:PE X e te)(hs:swapsWith e (some (.Name x pos')) pos.line X.env=pure false:=by rfl)(hf:X.fn x=true\/X.env.scope.names.lookup x=some .local:=by first|exact .inl rfl|exact .inr rfl|assumption) :
  PS X (.Assign [.Name x pos'] e pos) (zL te (je i)):=by
 intro pins s σ H D I h;refine wpAny_Assign_Name (thn (he pins s σ H _ I h) fun v s1 hpt9=>?_) hs;obtain⟨y,H1,I1,r1,q1⟩:=hpt9;exact vM I1 hN hi hx r1 (fun s2 I2=>⟨_,H1,I2,q1⟩) hf
noncomputable def Og (i:Nat)(te:TE)(ti:TIp):TS:=fun D σ H=>∃x,σ[i]?=some (some x)/\te σ H fun y H1=>ti x y H1 fun z H2=>D.nx (σ.set i (some z)) H2
theorem Nu {i:Nat}{x:Str}{e:Expr}{te:TE}{op:Operator}{ti:TIp}{pos':Pos}(hN:X.N.Nodup)(hi:X.N[i]?=some x)(hx:Loc X.env.scope x)(he:PE X e te)(ho:PIp X op ti)(hf:X.fn x=true\/X.env.scope.names.lookup x=some .local:=by first|exact .inl rfl|exact .inr rfl|assumption) :
  PS X (.AugAssign (.Name x pos') op e pos) (Og i te ti):=by
 intro pins s σ H D I h;obtain⟨v,e1,h⟩:=h;obtain⟨m,hn,hl⟩:=I.loc;have vis:Vis X.env.scope x:=by rcases hx with k|k;exact .inl k;exact .inr (.inl k)
 obtain⟨u,r,l⟩:=hl i x v hi e1 vis;refine wpAny_AugAssign_Name ?_;have go:wpAny (model X.prog X.w) X.A (eval e X.env) (fun w s₂=>wpAny (model X.prog X.w) X.A (inplaceOp op u w) (fun r s₃=>wpAny (model X.prog X.w) X.A (storeName X.env x r) (fun _=>SP X pins D .next) X.xe s₃) X.xe s₂) X.xe s:=by refine thn (he pins s σ H _ I h) fun w s1 hpt9=>?_;obtain⟨y,H1,I1,r1,q1⟩:=hpt9;refine thn (ho pins s1 σ H1 v y u w _ I1 r r1 q1) fun z s2 hpt9=>?_;obtain⟨zv,H2,I2,r2,q2⟩:=hpt9;exact vM I2 hN hi hx r2 (fun s3 I3=>⟨_,H2,I3,q2⟩) hf
 rcases l with ⟨hk,hm⟩|⟨hk,c,hc,hcell⟩
 ·exact wpAny_loadName_local I.ok.kind hk hn hm go
 ·rcases hk with hk|hk
  ·exact wpAny_loadName_cell I.ok.kind hk hc hcell go
  ·rcases hx with k|k
   ·have:X.env.scope.names.lookup x=some .free:=hk;rw[k] at this;cases this
   ·have:X.env.scope.names.lookup x=some .free:=hk;rw[k] at this;cases this
noncomputable def ipI (f:Int->Int->Int):TIp:=fun x y H Q=>∃i j,x = .int i/\y = .int j/\Q (.int (f i j)) H
theorem MV:PIp X .Add (ipI fun i j=>i+j):=by intro pins s σ H x y v u Q I r1 r2 h;obtain⟨i,j,e1,e2,q⟩:=h;subst e1;subst e2;obtain⟨t,rfl⟩:=r1;obtain⟨t',rfl⟩:=r2;exact iadd_int ⟨.int _,H,I.tok _,⟨_,rfl⟩,q⟩
end
section
variable {X:Cx}{pos:Pos}
noncomputable def Di (c:TT)(tb:TS):TS:=fun D σ H=>∃W:Nat->St->Hp->Prop,(∃m,W m σ H)/\∀m σ H,W m σ H ->
 c σ H fun b H1=>if b=true then ∃N:St->Hp->Prop,(∀σ' H',N σ' H'->∃m',m'<m/\W m' σ' H')/\tb { D with nx:=N,ct:=N,bk:=D.nx } σ H1 else D.nx σ H1
theorem IM {c:Expr}{body:List Stmt}{tc:TT}{tb:TS}(hp:PassesOwn (model X.prog X.w) X.A X.env X.xe)(hc:PT X c tc)(hb:PSs X body tb):PS X (.While c body [] pos) (Di tc tb):=by
 intro pins s σ H D I h;obtain⟨W,⟨m0,w0⟩,turn⟩:=h;refine wpAny_While (codeAny_whileLoop (fun n s'=>∃σ' H',Inv X pins σ' H' s'/\W n σ' H') ?_ m0 ⟨σ,H,I,w0⟩);rintro n s1 ⟨σ1,H1,I1,w1⟩;refine Vh hp (thn (hc pins s1 σ1 H1 _ I1 (turn n σ1 H1 w1)) fun b s2 hpt9=>?_);obtain⟨H2,I2,q2⟩:=hpt9;cases b with
 |true=>
  obtain⟨N,hN,q2⟩:=q2;rw[Tn rfl];refine Vh hp (thn (hb pins s2 σ1 H2 _ I2 q2) fun f s3 q3=>?_);cases f with
  |next=>
   obtain⟨σ3,H3,I3,n3⟩:=q3;obtain⟨m',hm,w3⟩:=hN σ3 H3 n3;exact⟨m',hm,σ3,H3,I3,w3⟩
  |cont=>
   obtain⟨σ3,H3,I3,n3⟩:=q3;obtain⟨m',hm,w3⟩:=hN σ3 H3 n3;exact⟨m',hm,σ3,H3,I3,w3⟩
  |brk=>exact q3
  |ret v=>exact q3
 |false=>rw[To UM];exact Wa ⟨σ1,H2,I2,q2⟩
end
structure It where
 go:Nat->Hp->Prop
 yld:Nat->Hp->V->Hp->Prop
 stop:Nat->Hp->Prop
def oK (X:Cx)(pins:List (Addr×Obj))(H:Hp)(b:Addr):Prop:=
 H b=none/\b≠X.env.locals/\b∉X.fs/\(b∈X.ex\/X.s₀.heap.objs.size<=b)/\(∀x c,X.env.cells.lookup x=some c->c≠b)/\∀p∈X.pn++pins,p.1≠b
theorem Inv.fpOk  {pins:List (Addr×Obj)}  {H':Hp}  {b:Addr}(I:Inv X pins σ H s)(hb:s.heap.objs.size<=b)(hn:H' b=none):oK X pins H' b:=by
 refine⟨hn,Nat.ne_of_gt (Ud I.lt hb),I.nofs hb,.inr (T1 I.sz hb),fun x c e z=>?_,fun p hp z=>?_⟩
 ·obtain⟨v,q⟩:=I.cell x c e;exact absurd (Ud q.lt (by rw[z];exact hb)) (UH _)
 ·exact absurd (Ud (TM (I.pin p hp).1) (by rw[z];exact hb)) (UH _)
structure Turn (P:Program) (w:World) (K:W.Frag) (tg:Expr) (J:It) (fp:List Addr) (it:Addr) (tn:Nat->Heap->Prop):Prop where
 mem:it∈fp
 obj:∀i h,tn i h->∀b∈fp,∃o,h.get? b=some o/\∀v,o.data ≠ .cell v
 keep:∀i h h',tn i h->(∀b∈fp,∀o,h.get? b=some o->h'.get? b=some o)->tn i h'
 item:∀(X:Cx),X.prog=P->X.w=w->X.K=K->X.calm=true->∀(i:Nat) (pins:List (Addr×Obj)) (s:Shared) (σ:St) (H:Hp) (E:Value->Shared->Prop),Inv X pins σ H s->(∀b∈fp,oK X pins H b)->tn i s.heap->J.go i H ->
  wpAny (model P w) X.A (pyNext (.ref it)) (fun r s1=>∃u,r=some u /\
   wpAny (model P w) X.A (letOwnedTupleGo tg (.ref it) u) (fun _ s2=>∃x H',Inv X pins σ H' s2/\RelV x u/\J.yld i H x H'/\tn (i+1) s2.heap/\∀b∈fp,H' b=none) E s1) E s
 done:∀(X:Cx),X.prog=P->X.w=w->X.K=K->X.calm=true->∀(i:Nat) (pins:List (Addr×Obj)) (s:Shared) (σ:St) (H:Hp) (E:Value->Shared->Prop),Inv X pins σ H s->(∀b∈fp,oK X pins H b)->tn i s.heap->J.stop i H ->
  wpAny (model P w) X.A (pyNext (.ref it)) (fun r s1=>r=none/\Inv X pins σ H s1) E s
 self:∀(A:Around) (i:Nat) (s:Shared) (Q:Value->Shared->Prop) (E:Value->Shared->Prop),tn i s.heap->Q (.ref it) s->wpAny (model P w) A (pyIter (.ref it)) Q E s
noncomputable abbrev TI:=St->Hp->(It->Hp->Prop)->Prop
def PIE (X:Cx)(pins:List (Addr×Obj))(σ:St)(tg:Expr)(R:It->Hp->Prop)(itv:Value)(s2:Shared):Prop:=
 ∃(it:Addr) (fp:List Addr) (tn:Nat->Heap->Prop) (J:It) (H':Hp),itv = .ref it/\Inv X pins σ H' s2/\Turn X.prog X.w X.K tg J fp it tn/\tn 0 s2.heap/\(∀b∈fp,oK X pins H' b)/\R J H'
def PI (X:Cx)(tg iter:Expr)(wi:TI):Prop:=
 ∀(pins:List (Addr×Obj)) (s:Shared) (σ:St) (H:Hp) (R:It->Hp->Prop),Inv X pins σ H s->wi σ H R ->
  wpAny (model X.prog X.w) X.A (eval iter X.env) (fun v s1=>wpAny (model X.prog X.w) X.A (pyIter v) (PIE X pins σ tg R) X.xe s1) X.xe s
theorem uy    {s:Shared}{tg:Expr}{it:Addr}  {o:Obj}{n:String}{vs:Array Value}{Q:Unit->Shared->Prop}(ho:s.heap.get? it=some o)(hc:o.cls = .type n)(hd:o.data = .fields vs)
  (hn:["enumerate", "zip", "dict_itemiterator", "dict_reverseitemiterator", "odict_iterator", "itertools.zip_longest", "itertools.pairwise"].contains n=false) (hQ:Q () s):wpAny M A (letOwnedTupleGo tg (.ref it) u) Q E s:=by
 unfold letOwnedTupleGo
 cases tg<;>first
  |exact Tv hQ
  | (cases u<;>first
    |exact Tv hQ
    | (refine Tp (wpAny_load ho ?_)
       rw[hc,hd];show wpAny M A (if (["enumerate", "zip", "dict_itemiterator", "dict_reverseitemiterator", "odict_iterator", "itertools.zip_longest", "itertools.pairwise"].contains n&&vs[0]?==some (rawInt _))=true then _ else _) Q E s;rw[To (by intro h;rw[hn,Bool.false_and] at h;cases h)]
       exact Tv hQ))
noncomputable def Itl (K:W.Frag)(a:Addr):It:=
 ⟨fun i H=>∃xs x,SqL K H a xs/\xs[i]?=some x,fun i H x H'=>H'=H/\∀xs,SqL K H a xs->xs[i]?=some x,fun i H=>∃xs,SqL K H a xs/\xs.length<=i⟩
noncomputable def Itt (K:W.Frag)(a:Addr):It:=
 ⟨fun i H=>∃xs x,SqT K H a xs/\xs[i]?=some x,fun i H x H'=>H'=H/\∀xs,SqT K H a xs->xs[i]?=some x,fun i H=>∃xs,SqT K H a xs/\xs.length<=i⟩
noncomputable def Itr (lo:Int)(n:Nat):It:=⟨fun i _=>i<n,fun i H x H'=>H'=H/\x = .int (lo+i),fun i _=>n<=i⟩
theorem Gk {P:Program}{w:World}{K:W.Frag}{tg:Expr}(a it:Addr):Turn P w K tg (Itl K a) [it] it (fun i h=>h.IsListIter it a i) where
 mem:=by simp
 obj:=fun i h st b hb=>by
  have e:b=it:=by simpa using hb
  subst e;obtain⟨o,e,c,d⟩:=st;exact⟨o,e,fun v z=>by rw[d] at z;cases z⟩
 keep:=fun i h h' st k=>st.at fun o e=>k it (by simp) o e
 item:=by intro X hP hw hK hc i pins s σ H E I hf st hg;subst hP hw hK;obtain⟨xs,x,hq,hx⟩:=hg;obtain⟨its,rv,p,hz⟩:=I.list hq;obtain⟨u,hu,ru⟩:=rv.get hx;obtain⟨f0,f1,f2,f3,f4,f5⟩:=hf it (by simp);refine wpAny_pyNext_list_item st p.isList (x:=u) (by simpa using hu) fun h' st' sb=>?_;have I1:Inv X pins σ H { s with heap:=h' }:=I.turned (t':=s.toks) (fun b o hb e=>(sb.2 b hb).trans e) f0 f1 f3 f4 f5;obtain⟨o,e,c,d⟩:=id st';exact⟨u,rfl,uy (s:={ s with heap:=h' }) e c d (by decide) ⟨x,H,I1,ru,⟨rfl,fun ys hy=>by rw[I.list_inj hy hq];exact hx⟩,st',fun b hb=>(hf b hb).1⟩⟩
 done:=by intro X hP hw hK hc i pins s σ H E I hf st hg;subst hP hw hK;obtain⟨xs,hq,hx⟩:=hg;obtain⟨its,rv,p,hz⟩:=I.list hq;obtain⟨f0,f1,f2,f3,f4,f5⟩:=hf it (by simp);have hl:=rv.length;exact wpAny_pyNext_list_end (I.ok.hd hc) st p.isList (by simp;lia) fun h' eb=>⟨rfl,I.turned (t':=s.toks) (fun b o hb e=>eb b o hb e) f0 f1 f3 f4 f5⟩
 self:=fun _ _ _ _ _ st h=>wpAny_pyIter_listiter st h
theorem Dk {P:Program}{w:World}{K:W.Frag}{tg:Expr}(a it:Addr):Turn P w K tg (Itt K a) [it] it (fun i h=>h.IsTupleIter it a i) where
 mem:=by simp
 obj:=fun i h st b hb=>by
  have e:b=it:=by simpa using hb
  subst e;obtain⟨o,e,c,d⟩:=st;exact⟨o,e,fun v z=>by rw[d] at z;cases z⟩
 keep:=fun i h h' st k=>st.at fun o e=>k it (by simp) o e
 item:=by intro X hP hw hK hc i pins s σ H E I hf st hg;subst hP hw hK;obtain⟨xs,x,hq,hx⟩:=hg;obtain⟨its,rv,p,hz⟩:=I.tuple hq;obtain⟨u,hu,ru⟩:=rv.get hx;obtain⟨f0,f1,f2,f3,f4,f5⟩:=hf it (by simp);refine wpAny_pyNext_tuple_item st (show s.heap.IsTuple a its.toArray from p) (x:=u) (by simpa using hu) fun h' st' sb=>?_;have I1:Inv X pins σ H { s with heap:=h' }:=I.turned (t':=s.toks) (fun b o hb e=>(sb.2 b hb).trans e) f0 f1 f3 f4 f5;obtain⟨o,e,c,d⟩:=id st';exact⟨u,rfl,uy (s:={ s with heap:=h' }) e c d (by decide) ⟨x,H,I1,ru,⟨rfl,fun ys hy=>by rw[I.tuple_inj hy hq];exact hx⟩,st',fun b hb=>(hf b hb).1⟩⟩
 done:=by intro X hP hw hK hc i pins s σ H E I hf st hg;subst hP hw hK;obtain⟨xs,hq,hx⟩:=hg;obtain⟨its,rv,p,hz⟩:=I.tuple hq;obtain⟨f0,f1,f2,f3,f4,f5⟩:=hf it (by simp);have hl:=rv.length;exact wpAny_pyNext_tuple_end (I.ok.hd hc) st (show s.heap.IsTuple a its.toArray from p) (by simp;lia) fun h' eb=>⟨rfl,I.turned (t':=s.toks) (fun b o hb e=>eb b o hb e) f0 f1 f3 f4 f5⟩
 self:=fun _ _ _ _ _ st h=>wpAny_pyIter_tupleiter st h
theorem Dj {P:Program}{w:World}{K:PySem.W.Frag}{tg:Expr}(it:Addr)(lo:Int)(n:Nat):Turn P w K tg (Itr lo n) [it] it (fun i h=>IsRangeIter h it (lo+(i:Nat) * 1) ((n:Int)-(i:Nat)) 1) where
 mem:=by simp
 obj:=fun i h st b hb=>by
  have e:b=it:=by simpa using hb
  subst e;exact⟨_,st,fun v z=>by
   have z':Data.fields _=Data.cell v:=z
   cases z'⟩
 keep:=fun i h h' st k=>k it (by simp) _ st
 item:=by intro X hP hw hK hc i pins s σ H E I hf st hg;subst hP hw hK;obtain⟨f0,f1,f2,f3,f4,f5⟩:=hf it (by simp);have W:=Walks.range (prog:=X.prog) (w:=X.w) (I.ok.hd hc) it lo 1 n;refine W.item i s _ _ hg st fun v h' tk hv st' kk=>?_;obtain⟨t,rfl⟩:=hv;have I1:Inv X pins σ H { s with heap:=h',toks:=tk }:=I.turned (fun b o hb e=>kk b o (by simpa using hb) e) f0 f1 f3 f4 f5;refine⟨_,rfl,uy (s:={ s with heap:=h',toks:=tk }) (n := "range_iterator") st' rfl rfl (by decide) ⟨.int (lo+i),H,I1,⟨t,?_⟩,⟨rfl,rfl⟩,st',fun b hb=>(hf b hb).1⟩⟩;rw[Int.mul_one]
 done:=by intro X hP hw hK hc i pins s σ H E I hf st hg;subst hP hw hK;obtain⟨f0,f1,f2,f3,f4,f5⟩:=hf it (by simp);exact Wo (I.ok.hd hc) st (by have:n<=i:=hg;lia) fun h' eb=>⟨rfl,I.turned (t':=s.toks) (fun b o hb e=>eb b o hb e) f0 f1 f3 f4 f5⟩
 self:=fun _ _ _ _ _ st h=>Wp st h
section
variable {X:Cx}{tg:Expr}
theorem Jb {pins:List (Addr×Obj)}{σ:St}{H:Hp}{s:Shared}{R:It->Hp->Prop}{E:Value->Shared->Prop}{lo hi:Int}{t u v:Tok}{tk:Nat}(I:Inv X pins σ H s)(h1:-(2 ^ 62)<=lo)(h2:lo<2 ^ 62)(h3:-(2 ^ 62)<=hi)(h4:hi<2 ^ 62)
  (q:R (Itr lo (hi-lo).toNat) H):wpAny (model X.prog X.w) X.A (pyIter (.ref s.heap.objs.size)) (PIE X pins σ tg R) E { s with heap:=s.heap.push { cls:=.type "range",data:=.fields #[.int lo t,.int hi u,.int 1 v] },toks:=tk }:=by
 refine wpAny_pyIter_range (IsRange.new ..) (small_one h1 h2 h3 h4) ?_;have I1:Inv X pins σ H { s with heap:=s.heap.push { cls:=.type "range",data:=.fields #[.int lo t,.int hi u,.int 1 v] },toks:=tk }:=I.kept fun b o e=>TK _ e;refine⟨(s.heap.push { cls:=.type "range",data:=.fields #[.int lo t,.int hi u,.int 1 v] }).objs.size,[(s.heap.push { cls:=.type "range",data:=.fields #[.int lo t,.int hi u,.int 1 v] }).objs.size],_,_,H,rfl,
  I1.kept (t':=tk) fun b o e=>TK _ e,Dj _ lo (hi-lo).toNat,?_,fun b hb=>?_,q⟩
 ·have e1:lo+((0:Nat):Int) * 1=lo:=by simp
  have e2:(((hi-lo).toNat:Nat):Int)-((0:Nat):Int)=Builtin.Range.rangeSize lo hi 1:=by rw[rangeSize_one];split<;>lia
  show IsRangeIter _ _ (lo+((0:Nat):Int) * 1) ((((hi-lo).toNat:Nat):Int)-((0:Nat):Int)) 1;rw[e1,e2];exact TZ _ rfl
 ·have e:b=(s.heap.push { cls:=.type "range",data:=.fields #[.int lo t,.int hi u,.int 1 v] }).objs.size:=by simpa using hb
  subst e;exact I1.fpOk (Tw _) (I1.hok.fresh (Tw _))
noncomputable def LU (ta:TA):TI:=fun σ H R=>ta σ H fun vs H1=>∃j:Int,vs=[.int j] /\ -(2 ^ 62)<=j/\j<2 ^ 62/\R (Itr 0 j.toNat) H1
theorem FQ {a:Expr}{ta:TA}{p pos:Pos}(hg:Gl X "range") (hm:X.mg "range" = none) (ha:PA X [a] ta) (hs:starEach [a] X.env=[(false,eval a X.env)]:=by rfl):PI X tg (.Call (.Name "range" p) [a] [] pos) (LU ta):=by
 intro pins s σ H R I h;refine Call_ (j7 I hg hm boot_range (Vi (thn (ha pos pins s σ H _ I h) fun us s1 hpt9=>?_) hs rfl));obtain⟨vs,H1,I1,r1,q1⟩:=hpt9;obtain⟨j,e,q1,q2,q⟩:=q1;subst e;cases r1 with
 |cons r rr=>cases rr;obtain⟨t,rfl⟩:=r;exact call_range_1 (Jb I1 (by lia) (by lia) q1 q2 (by simpa using q))
noncomputable def JE (wi:TI)(g:TG)(tb:TS):TS:=fun D σ H=>wi σ H fun J H1=>∃W:Nat->Nat->St->Hp->Prop,(∃m,W 0 m σ H1)/\∀i m σ H,W i m σ H ->
 (J.stop i H/\D.nx σ H)\/(J.go i H/\∃N:St->Hp->Prop,(∀σ' H',N σ' H'->∃m',m'<m/\W (i+1) m' σ' H')/\∀x H',J.yld i H x H'->g x σ H' fun σ2 H2=>tb { D with nx:=N,ct:=N,bk:=D.nx } σ2 H2)
noncomputable def q9 (fp:List Addr)(h:Heap):List (Addr×Obj):=fp.filterMap fun b=>(h.get? b).map fun o=>(b,o)
theorem fV {fp:List Addr}{h:Heap}{b:Addr}{o:Obj}(hb:b∈fp)(e:h.get? b=some o):(b,o)∈q9 fp h:=List.mem_filterMap.mpr ⟨b,hb,by rw[e];rfl⟩
theorem FH {fp:List Addr}  {p:Addr×Obj}(hp:p∈q9 fp h):p.1∈fp/\h.get? p.1=some p.2:=by
 obtain⟨b,hb,e⟩:=List.mem_filterMap.mp hp;cases q:h.get? b with
 |none=>rw[q] at e;cases e
 |some o=>rw[q] at e;have e':(b,o)=p:=T6 e;subst e';exact⟨hb,q⟩
theorem Inv.pinned {pins:List (Addr×Obj)}    {fp:List Addr}(I:Inv X pins σ H s)(hf:∀b∈fp,oK X pins H b)(ho:∀b∈fp,∃o,s.heap.get? b=some o/\∀v,o.data ≠ .cell v):Inv X (pins++q9 fp s.heap) σ H s:=
 I.pins_of fun p hp=>(TB.mp hp).elim (fun z=>I.pin p (TH _ z)) fun z=>by obtain⟨hb,e⟩:=FH z;obtain⟨f0,f1,f2,_⟩:=hf p.1 hb;obtain⟨o,e',d⟩:=ho p.1 hb;rw[e] at e';cases e';exact⟨e,f0,f1,f2,d⟩
theorem Inv.unpinned {pins pl:List (Addr×Obj)}    (I:Inv X (pins++pl) σ H s):Inv X pins σ H s:=I.pins_of fun p hp=>I.pin p (TH _ (TJ _ hp))
theorem lO {iter:Expr}{body:List Stmt}{wi:TI}{g:TG}{tb:TS}{pos:Pos}(hp:PassesOwn (model X.prog X.w) X.A X.env X.xe)(hc:X.calm=true)(hi:PI X tg iter wi)(hg:PG X tg g)(hb:PSs X body tb)
  (hs:∀x,foldedSetIterable iter X.env x=pure x:=by intro _;rfl):PS X (.For tg iter body [] pos) (JE wi g tb):=by
 intro pins s σ H D I h;refine wpAny_For (thn (hi pins s σ H _ I h) fun v s1 h1=>thn h1 fun itv s2 h2=>?_) hs;obtain⟨it,fp,tn,J,H2,e,I2,T,st2,f2,W,⟨m0,w0⟩,turn⟩:=h2;subst e
 -- what stays true of the iterator's objects through the loop
 have stat:∀ {H':Hp},(∀b∈fp,H' b=none)->∀b∈fp,oK X pins H' b:=fun hn b hb=>⟨hn b hb,(f2 b hb).2⟩
 refine codeAny_forLoop_any (fun n s'=>∃i σ' H',Inv X pins σ' H' s'/\tn i s'.heap/\(∀b∈fp,H' b=none)/\W i n σ' H') ?_ m0 ⟨0,σ,H2,I2,st2,fun b hb=>(f2 b hb).1,w0⟩;rintro n s3 ⟨i,σ3,H3,I3,st3,fr3,w3⟩;rcases turn i n σ3 H3 w3 with ⟨stop,qn⟩|⟨go,N,hN,step⟩
 ·refine Vh hp (thn (T.done X rfl rfl rfl hc i pins s3 σ3 H3 X.xe I3 (stat fr3) st3 stop) fun r s4 ⟨hr,I4⟩=>?_);subst hr;exact Wa ⟨σ3,H3,I4,qn⟩
 ·refine Vh hp (thn (T.item X rfl rfl rfl hc i pins s3 σ3 H3 X.xe I3 (stat fr3) st3 go) fun r s4 ⟨u,hr,h4⟩=>?_);subst hr;refine Vh hp (thn h4 fun _ s5 hpt9=>?_);obtain⟨x,H5,I5,r5,y5,st5,fr5⟩:=hpt9;have I5':=I5.pinned (stat fr5) (T.obj _ _ st5);refine Vh hp (thn (hg _ s5 σ3 H5 x u _ I5' r5 (step x H5 y5)) fun _ s6 hpt9=>?_);obtain⟨σ6,H6,I6,q6⟩:=hpt9;refine Vh hp (thn (hb _ s6 σ6 H6 _ I6 q6) fun f s7 q7=>?_);have again:∀ {σ7:St} {H7:Hp},Inv X (pins++q9 fp s5.heap) σ7 H7 s7->N σ7 H7->∃m,m<n/\∃i σ' H',Inv X pins σ' H' s7/\tn i s7.heap/\(∀b∈fp,H' b=none)/\W i m σ' H':=fun {σ7 H7} I7 n7=>by
   obtain⟨m',hm,w7⟩:=hN σ7 H7 n7;refine⟨m',hm,i+1,σ7,H7,I7.unpinned,T.keep _ _ _ st5 fun b hb o e=>(I7.pin (b,o) (TH _ (TH _ (fV hb e)))).1,fun b hb=>?_,w7⟩;obtain⟨o,e,d⟩:=T.obj _ _ st5 b hb;exact (I7.pin (b,o) (TH _ (TH _ (fV hb e)))).2.1
  cases f with
  |next=>obtain⟨σ7,H7,I7,n7⟩:=q7;exact again I7 n7
  |cont=>obtain⟨σ7,H7,I7,n7⟩:=q7;exact again I7 n7
  |brk=>obtain⟨σ7,H7,I7,q7⟩:=q7;exact⟨σ7,H7,I7.unpinned,q7⟩
  |ret v=>obtain⟨x7,σ7,H7,I7,r7,q7⟩:=q7;exact⟨x7,σ7,H7,I7.unpinned,r7,q7⟩
end
noncomputable abbrev R2:=V->V->Hp->VK->Prop
def OpR (X:Cx)(f:Value->Value->Sem Value)(r:R2):Prop:=
 ∀(pins:List (Addr×Obj)) (s:Shared) (σ:St) (H:Hp) (x y:V) (v u:Value) (Q:VK),Inv X pins σ H s->RelV x v->RelV y u->r x y H Q ->
  wpAny (model X.prog X.w) X.A (f v u) (EP X pins σ Q) X.xe s
def UnR (X:Cx)(f:Value->Sem Value)(r:V->Hp->VK->Prop):Prop:=
 ∀(pins:List (Addr×Obj)) (s:Shared) (σ:St) (H:Hp) (x:V) (v:Value) (Q:VK),Inv X pins σ H s->RelV x v->r x H Q ->
  wpAny (model X.prog X.w) X.A (f v) (EP X pins σ Q) X.xe s
def CallR (X:Cx)(f:Value)(r:List V->Hp->VK->Prop):Prop:=
 ∀(pins:List (Addr×Obj)) (s:Shared) (σ:St) (H:Hp) (xs:List V) (us:List Value) (Q:VK),Inv X pins σ H s->Vals xs us->r xs H Q ->
  wpAny (model X.prog X.w) X.A (call f us) (EP X pins σ Q) X.xe s
def QE (X:Cx)(r:V->Hp->(Bool->Hp->Prop)->Prop):Prop:=
 ∀(pins:List (Addr×Obj)) (s:Shared) (σ:St) (H:Hp) (x:V) (v:Value) (Q:Bool->Hp->Prop),Inv X pins σ H s->RelV x v->r x H Q ->
  wpAny (model X.prog X.w) X.A (truthy v) (TP X pins σ Q) X.xe s
noncomputable def tOp (r:R2)(ta tb:TE):TE:=fun σ H Q=>ta σ H fun x H1=>tb σ H1 fun y H2=>r x y H2 Q
noncomputable def tUn (r:V->Hp->VK->Prop)(ta:TE):TE:=fun σ H Q=>ta σ H fun x H1=>r x H1 Q
noncomputable def rI (C:Int->Int->Prop)(g:Int->Int->V):R2:=fun x y H Q=>∃i j,x = .int i/\y = .int j/\C i j/\Q (g i j) H
noncomputable def rI0 (g:Int->Int->V):R2:=fun x y H Q=>∃i j,x = .int i/\y = .int j/\Q (g i j) H
noncomputable def rU (g:Int->V):V->Hp->VK->Prop:=fun x H Q=>∃i,x = .int i/\Q (g i) H
section
variable {X:Cx}{a b c:Expr}{ta tb tc:TE}{pos:Pos}
theorem Mz (ha:PE X a ta)(hb:PE X b tb){pins:List (Addr×Obj)}{s:Shared}{σ:St}{H:Hp}{R:V->V->Hp->Prop}(I:Inv X pins σ H s)
  (h:ta σ H fun x H1=>tb σ H1 fun y H2=>R x y H2) {Q:Value->Shared->Prop} {f:Value->Value->Sem Value}
  (hf:∀v u s2 x y H2,Inv X pins σ H2 s2->RelV x v->RelV y u->R x y H2->wpAny (model X.prog X.w) X.A (f v u) Q X.xe s2) :
  wpAny (model X.prog X.w) X.A (eval a X.env) (fun v s₁=>wpAny (model X.prog X.w) X.A (eval b X.env) (fun u s₂=>wpAny (model X.prog X.w) X.A (f v u) Q X.xe s₂) X.xe s₁) X.xe s:=by
 refine thn (ha pins s σ H _ I h) fun v s1 hpt9=>?_;obtain⟨x,H1,I1,r1,q1⟩:=hpt9;refine thn (hb pins s1 σ H1 _ I1 q1) fun u s2 hpt9=>?_;obtain⟨y,H2,I2,r2,q2⟩:=hpt9;exact hf v u s2 x y H2 I2 r1 r2 q2
theorem Ec   (ho:OpR X (binaryOp op) r)(ha:PE X a ta)(hb:PE X b tb):PE X (.BinOp a op b pos) (tOp r ta tb):=by intro pins s σ H Q I h;exact wpAny_BinOp (Mz ha hb I h fun v u s2 x y H2 I2 rx ry q=>ho pins s2 σ H2 x y v u Q I2 rx ry q)
theorem Bi {op:UnaryOp}{r:V->Hp->VK->Prop}(ho:UnR X (unaryOp op) r)(ha:PE X a ta):PE X (.UnaryOp op a pos) (tUn r ta):=by intro pins s σ H Q I h;exact UnaryOp_ (thn (ha pins s σ H _ I h) fun v s1 ⟨x,H1,I1,r1,q1⟩=>ho pins s1 σ H1 x v Q I1 r1 q1)
theorem opI {f:Value->Value->Sem Value}{C:Int->Int->Prop}{g:Int->Int->Int}
  (rule:∀(i j:Int) (t u:Tok) (s:Shared) (Q:Value->Shared->Prop) (E:Value->Shared->Prop),C i j->Q (.int (g i j) s.toks) { s with toks:=s.toks+1 }->wpAny (model X.prog X.w) X.A (f (.int i t) (.int j u)) Q E s) :
  OpR X f (rI C fun i j=>.int (g i j)):=by
 intro pins s σ H x y v u Q I rx ry h;obtain⟨i,j,rfl,rfl,hc,q⟩:=h;obtain⟨t,rfl⟩:=rx;obtain⟨t',rfl⟩:=ry;exact rule i j t t' s _ _ hc ⟨.int (g i j),H,I.tok _,⟨_,rfl⟩,q⟩
theorem Pa {f:Value->Value->Sem Value}{g:Int->Int->Int}
  (rule:∀(i j:Int) (t u:Tok) (s:Shared) (Q:Value->Shared->Prop) (E:Value->Shared->Prop),Q (.int (g i j) s.toks) { s with toks:=s.toks+1 }->wpAny (model X.prog X.w) X.A (f (.int i t) (.int j u)) Q E s) :
  OpR X f (rI0 fun i j=>.int (g i j)):=by
 intro pins s σ H x y v u Q I rx ry h;obtain⟨i,j,rfl,rfl,q⟩:=h;obtain⟨t,rfl⟩:=rx;obtain⟨t',rfl⟩:=ry;exact rule i j t t' s _ _ ⟨.int (g i j),H,I.tok _,⟨_,rfl⟩,q⟩
theorem M9 {f:Value->Value->Sem Value}{g:Int->Int->Bool}
  (rule:∀(i j:Int) (t u:Tok) (s:Shared) (Q:Value->Shared->Prop) (E:Value->Shared->Prop),Q (.bool (g i j)) s->wpAny (model X.prog X.w) X.A (f (.int i t) (.int j u)) Q E s) :
  OpR X f (rI0 fun i j=>.bl (g i j)):=by
 intro pins s σ H x y v u Q I rx ry h;obtain⟨i,j,rfl,rfl,q⟩:=h;obtain⟨t,rfl⟩:=rx;obtain⟨t',rfl⟩:=ry;exact rule i j t t' s _ _ ⟨.bl (g i j),H,I,rfl,q⟩
def Oy (i j:Int):Prop:=0<j/\j<1073741824
def Md (i j:Int):Prop:=0<=j/\j<=1000000/\i.natAbs<2 ^ 64
def CMul (i j:Int):Prop:=(-(2 ^ 64)<i/\i<2 ^ 64)\/(-(2 ^ 64)<j/\j<2 ^ 64)
theorem CMul.ok {i j:Int}(h:CMul i j):IntMulOk i j:=by
 rcases h with ⟨h1,h2⟩|⟨h1,h2⟩
 ·exact .of_left (intBits_le_64 h1 h2)
 ·exact .of_right (intBits_le_64 h1 h2)
theorem op_add:OpR X (binaryOp .Add) (rI0 fun i j=>.int (i+j)):=Pa fun _ _ _ _ _ _ _ q=>add_int q
theorem Nf:OpR X (binaryOp .Sub) (rI0 fun i j=>.int (i-j)):=Pa fun _ _ _ _ _ _ _ q=>sub_int q
theorem Nb:OpR X (binaryOp .Mult) (rI CMul fun i j=>.int (i * j)):=opI fun _ _ _ _ _ _ _ hc q=>mul_int q hc.ok
theorem KR:OpR X (binaryOp .FloorDiv) (rI Oy fun i j=>.int (i / j)):=opI fun i j _ _ _ _ _ hc q=>by have h1:(0:Int)<j:=hc.1;have h2:j<1073741824:=hc.2;exact floordiv_int (by lia) (by rw[Int.fdiv_eq_ediv_of_nonneg i (by lia)];exact q) (.inl (PyProof.noPylong_small (by lia)))
theorem Na:OpR X (binaryOp .Mod) (rI (fun _ j=>0<j) fun i j=>.int (i % j)):=opI fun i j _ _ _ _ _ hc q=>by have h1:(0:Int)<j:=hc;exact mod_int' (by lia) (by rw[Int.fmod_eq_emod_of_nonneg i (by lia)];exact q)
theorem Nd:OpR X (binaryOp .Pow) (rI Md fun i j=>.int (i ^ j.toNat)):=opI fun _ _ _ _ _ _ _ hc q=>pow_int_small hc.1 hc.2.1 hc.2.2 q
theorem unI {f:Value->Sem Value}{g:Int->Int}
  (rule:∀(i:Int) (t:Tok) (s:Shared) (Q:Value->Shared->Prop) (E:Value->Shared->Prop),Q (.int (g i) s.toks) { s with toks:=s.toks+1 }->wpAny (model X.prog X.w) X.A (f (.int i t)) Q E s) :
  UnR X f (rU fun i=>.int (g i)):=by
 intro pins s σ H x v Q I rx h;obtain⟨i,rfl,q⟩:=h;obtain⟨t,rfl⟩:=rx;exact rule i t s _ _ ⟨.int (g i),H,I.tok _,⟨_,rfl⟩,q⟩
theorem vQ:UnR X (unaryOp .USub) (rU fun i=>.int (-i)):=unI fun _ _ _ _ _ q=>neg_int q
end
section
variable {X:Cx}{a b c:Expr}{ta tb tc:TE}{pos:Pos}
theorem Ir:OpR X (compareOp .Lt) (rI0 fun i j=>.bl (decide (i<j))):=M9 fun _ _ _ _ _ _ _ q=>lt_int q
theorem Pc:OpR X (compareOp .LtE) (rI0 fun i j=>.bl (decide (i<=j))):=M9 fun _ _ _ _ _ _ _ q=>le_int q
theorem Pb:OpR X (compareOp .Gt) (rI0 fun i j=>.bl (decide (j<i))):=M9 fun _ _ _ _ _ _ _ q=>gt_int q
theorem OpR.or   (h:OpR X f r)(h':OpR X f r'):OpR X f (fun x y H Q=>r x y H Q\/r' x y H Q):=by
 intro pins s σ H x y v u Q I rx ry q;rcases q with q|q
 ·exact h pins s σ H x y v u Q I rx ry q
 ·exact h' pins s σ H x y v u Q I rx ry q
theorem Ig (b:Expr){op:CmpOp}(h:op ≠ .In:=by decide)(h2:op ≠ .NotIn:=by decide):behindInMarks op b=false:=by
 have e1:(op==CmpOp.In)=false:=by cases op<;>first|rfl|exact absurd rfl h
 have e2:(op==CmpOp.NotIn)=false:=by cases op<;>first|rfl|exact absurd rfl h2
 cases b<;>simp[behindInMarks,e1,e2]
theorem KY   (ho:OpR X (compareOp op) r)(ha:PE X a ta)(hb:PE X b tb)(hm:behindInMarks op b=false):PE X (.Compare a [op] [b] pos) (tOp r ta tb):=by intro pins s σ H Q I h;exact wpAny_Compare1 (Mz ha hb I h fun v u s2 x y H2 I2 rx ry q=>ho pins s2 σ H2 x y v u Q I2 rx ry q) hm
noncomputable def Et (t:TE):TT:=fun σ H Q=>t σ H fun x H'=>∃k,x = .bl k/\Q k H'
theorem Ed {op:CmpOp}{r:R2}(ho:OpR X (compareOp op) r)(ha:PE X a ta)(hb:PE X b tb)(hm:behindInMarks op b=false):PT X (.Compare a [op] [b] pos) (Et (tOp r ta tb)):=by
 intro pins s σ H Q I h;refine wpAny_isTrue_Compare1 (thn (ha pins s σ H _ I h) fun v s1 ⟨x,H1,I1,r1,q1⟩=>thn (hb pins s1 σ H1 _ I1 q1) fun u s2 ⟨y,H2,I2,r2,q2⟩=>
  thn (ho pins s2 σ H2 x y v u _ I2 r1 r2 q2) fun c s3 ⟨z,H3,I3,r3,k,e,q3⟩=>?_) hm
 subst e;cases r3;exact V9 ⟨H3,I3,q3⟩
def J7 (K:W.Frag)(x:V)(H:Hp)(k:Bool):Prop:=
 match x with
 |.non=>k=false
 |.bl b=>k=b
 |.int i=>k=(i != 0)
 |.str y=>y.length<=sizeLine/\k=((y.length:Int) != 0)
 |.byt y=>y.size<=sizeLine/\k=((y.size:Int) != 0)
 |.ref p=>(∃xs,SqL K H p xs/\k = !xs.isEmpty)\/(∃xs,SqT K H p xs/\k = !xs.isEmpty)\/∃kvs,H p=some (.dK kvs)/\k = !kvs.isEmpty
 |_=>False
theorem CD {κ:Type}{kvs:List (κ×V)}{vs:List (κ×Value)}(r:KV kvs vs):(!vs.isEmpty) = !kvs.isEmpty:=by cases r<;>rfl
theorem uE {xs:List V}{its:List Value}(r:Vals xs its):(!its.toArray.isEmpty) = !xs.isEmpty:=by cases r<;>simp
theorem nN:(sizeLine:Nat)<2 ^ 63:=by rw[Uj];decide
theorem Oj:QE X (fun x H Q=>∃k,J7 X.K x H k/\Q k H):=by
 intro pins s σ H x v Q I rx h;obtain⟨k,e,q⟩:=h;have hl:=nN;have hs:sizeLine=16777216:=Uj;cases x with
 |non=>
  cases rx;have e':k=false:=e;subst e';exact truthy_none ⟨H,I,q⟩
 |bl b=>
  cases rx;have e':k=b:=e;subst e';exact V9 ⟨H,I,q⟩
 |int i=>
  obtain⟨t,rfl⟩:=rx;have e':k=(i != 0):=e;subst e';exact PySem.P.truthy_int ⟨H,I,q⟩
 |str y=>
  obtain⟨t,rfl⟩:=rx;obtain⟨hy,e'⟩:y.length<=sizeLine/\k=((y.length:Int) != 0):=e;subst e';exact PySem.P.truthy_str (by lia) ⟨H,I.tok _,q⟩
 |byt y=>
  obtain⟨t,rfl⟩:=rx;obtain⟨hy,e'⟩:y.size<=sizeLine/\k=((y.size:Int) != 0):=e;subst e';exact W.truthy_bytes (by lia) ⟨H,I.tok _,q⟩
 |ref p=>
  cases rx;have e':(∃xs,SqL X.K H p xs/\k = !xs.isEmpty)\/(∃xs,SqT X.K H p xs/\k = !xs.isEmpty)\/∃kvs,H p=some (.dK kvs)/\k = !kvs.isEmpty:=e;rcases e' with ⟨xs,hx,e'⟩|⟨xs,hx,e'⟩|⟨kvs,hx,e'⟩
  ·subst e';obtain⟨its,r,pl,hz⟩:=I.list hx;have hlen:=r.length;exact wpAny_truthy_list pl.isList (by simp only[TV];lia) ⟨H,I.tok _,by rw[uE r];exact q⟩
  ·subst e';obtain⟨its,r,pl,hz⟩:=I.tuple hx;have hlen:=r.length;exact truthy_tuple pl (by simp only[TV];lia) ⟨H,I.tok _,by rw[uE r];exact q⟩
  ·subst e';obtain⟨hz,hS,vs,r,m⟩:kvs.length<=sizeLine/\(p==sysModules)=false/\∃vs,KV kvs vs/\s.heap.DictOf (cj X.prog X.w) p vs:=I.hok p _ hx;have hlen:kvs.length=vs.length:=Vu r;exact wpAny_truthy_dict hS m (by lia) ⟨H,I.tok _,by rw[CD r];exact q⟩
 |_=>exact (show False from e).elim
theorem Br (ha:PE X a ta)(he:∀whole,isTrue a X.env whole=(do let v ← whole;standAt a.pos;holding [v] (truthy v))) :
  PT X a (fun σ H Q=>ta σ H fun x H'=>∃k,J7 X.K x H' k/\Q k H'):=by
 intro pins s σ H Q I h;exact isTrue_plain (thn (ha pins s σ H _ I h) fun v s1 ⟨x,H1,I1,r1,q1⟩=>Oj pins s1 σ H1 x v Q I1 r1 q1) (he _)
theorem CV:OpR X (binaryOp .Add) (fun x y H Q=>∃i j,x = .str i/\y = .str j/\i.length+j.length<=sizeLine/\Q (.str (i++j)) H):=by intro pins s σ H x y v u Q I rx ry h;obtain⟨i,j,rfl,rfl,hz,q⟩:=h;obtain⟨t,rfl⟩:=rx;obtain⟨t',rfl⟩:=ry;exact add_str (fun t' tk=>⟨.str (i++j),H,I.tok _,⟨_,rfl⟩,q⟩) hz
theorem BZ {x:V}  (r:Vals [x] us):∃u,us=[u]/\RelV x u:=by
 cases r with
 |cons r1 r2=>cases r2;exact⟨_,rfl,r1⟩
theorem Mc {x y:V}  (r:Vals [x,y] us):∃u w',us=[u,w']/\RelV x u/\RelV y w':=by
 cases r with
 |cons r1 r2=>
  cases r2 with
  |cons r3 r4=>cases r4;exact⟨_,_,rfl,r1,r3⟩
theorem ER (hc:X.calm=true):CallR X (.builtin "max") (fun xs H Q=>∃i j,xs=[.int i,.int j]/\Q (.int (if j > i then j else i)) H):=by
 intro pins s σ H xs us Q I r h;obtain⟨i,j,rfl,q⟩:=h;obtain⟨u,w',rfl,⟨t,rfl⟩,⟨t',rfl⟩⟩:=Mc r;refine max_two_ints (I.ok.hd hc) fun h' tk k=>⟨_,H,I.kept k,?_,q⟩
 by_cases hj:j > i
 ·rw[Tn hj,Tn hj];exact⟨_,rfl⟩
 ·rw[To hj,To hj];exact⟨_,rfl⟩
theorem ES (hc:X.calm=true):CallR X (.builtin "min") (fun xs H Q=>∃i j,xs=[.int i,.int j]/\Q (.int (if j<i then j else i)) H):=by
 intro pins s σ H xs us Q I r h;obtain⟨i,j,rfl,q⟩:=h;obtain⟨u,w',rfl,⟨t,rfl⟩,⟨t',rfl⟩⟩:=Mc r;refine min_two_ints (I.ok.hd hc) fun h' tk k=>⟨_,H,I.kept k,?_,q⟩
 by_cases hj:j<i
 ·rw[Tn hj,Tn hj];exact⟨_,rfl⟩
 ·rw[To hj,To hj];exact⟨_,rfl⟩
theorem EL:CallR X (.type "int") (fun xs H Q=>(∃i,xs=[.int i]/\Q (.int i) H)\/∃k,xs=[.bl k]/\Q (.int (if k then 1 else 0)) H):=by
 intro pins s σ H xs us Q I r h;rcases h with ⟨i,rfl,q⟩|⟨k,rfl,q⟩
 ·obtain⟨u,rfl,t,rfl⟩:=BZ r;exact call_int_int ⟨.int i,H,I,⟨_,rfl⟩,q⟩
 ·obtain⟨u,rfl,r1⟩:=BZ r;cases r1;exact call_int_bool ⟨.int (if k then 1 else 0),H,I.tok _,⟨_,rfl⟩,q⟩
def OD (K:W.Frag)(x:V)(H:Hp)(n:Nat):Prop:=
 match x with
 |.str y=>y.length<=sizeLine/\n=y.length
 |.byt y=>y.size<=sizeLine/\n=y.size
 |.ref p=>(∃xs,SqL K H p xs/\n=xs.length)\/∃xs,SqT K H p xs/\n=xs.length
 |_=>False
theorem GX:CallR X (.builtin "len") (fun xs H Q=>∃x n,xs=[x]/\OD X.K x H n/\Q (.int n) H):=by
 intro pins s σ H xs us Q I r h;obtain⟨x,n,rfl,e,q⟩:=h;obtain⟨u,rfl,rx⟩:=BZ r;have hl:=nN;have hs:sizeLine=16777216:=Uj;cases x with
 |str y=>
  obtain⟨t,rfl⟩:=rx;obtain⟨hy,e'⟩:y.length<=sizeLine/\n=y.length:=e;subst e';exact len_str (by lia) ⟨.int _,H,I.tok _,⟨_,rfl⟩,q⟩
 |byt y=>
  obtain⟨t,rfl⟩:=rx;obtain⟨hy,e'⟩:y.size<=sizeLine/\n=y.size:=e;subst e';exact W.len_bytes (by lia) ⟨.int _,H,I.tok _,⟨_,rfl⟩,q⟩
 |ref p=>
  cases rx;have e':(∃xs,SqL X.K H p xs/\n=xs.length)\/∃xs,SqT X.K H p xs/\n=xs.length:=e;rcases e' with ⟨xs,hx,e'⟩|⟨xs,hx,e'⟩
  ·subst e';obtain⟨its,r',pl,hz⟩:=I.list hx;have hlen:=r'.length;exact Calls.call_len_list pl.isList (by simp only[TV];lia) ⟨.int xs.length,H,I.tok _,⟨_,by simp only[TV];rw[hlen]⟩,q⟩
  ·subst e';obtain⟨its,r',pl,hz⟩:=I.tuple hx;have hlen:=r'.length;exact len_tuple pl (by simp only[TV];lia) ⟨.int xs.length,H,I.tok _,⟨_,by simp only[TV];rw[hlen]⟩,q⟩
 |_=>exact (show False from e).elim
end
structure ObjM (h:Heap) (x dx C:Addr) (mA:Str->Option Value):Prop where
 obj:h.get? x=some (W.instObj C dx)
 ns:h.Ns1 dx mA
 ne:dx≠x
theorem Fq {h:Heap}{dx:Addr}{mA:Str->Option Value}(n:h.Ns1 dx mA):∃od,h.get? dx=some od/\∀name,W.lookIn name od=some (mA name):=by
 obtain⟨o,es,ep,ho,hd,hk,_,hm⟩:=n;refine⟨o,ho,fun name=>?_⟩;have e:=hm name;unfold nsFind findBy at e;rw[<- Array.find?_toList] at e;unfold W.lookIn;rw[hd];dsimp only;split
 ·rename_i y q;rw[q] at e;exact TQ some e
 ·rename_i q;rw[q] at e;have a:es.toList.any (·.refKey)=false:=by
   rw[List.any_eq_false];intro y hy;obtain⟨z,t,hkey⟩:=hk y (Array.mem_toList_iff.mp hy);simp[DictEntry.refKey,hkey]
  have a':¬es.toList.any (·.refKey)=true:=by rw[a];exact UM
  rw[To a'];exact TQ some e
theorem ObjM.look  {dx:Addr}{mA:Str->Option Value}(I:ObjM h x dx C mA):∃od,W.InstAt h x (W.instObj C dx) C (some od)/\∀name,W.lookIn name od=some (mA name):=
 let ⟨od,ho,hl⟩:=Fq I.ns
 ⟨od,⟨I.obj,rfl,rfl,ho⟩,hl⟩
section
variable {prog:Program}{w:World}{A:Around}{E:Value->Shared->Prop}{s:Shared}{K:W.Frag}{x dx C f:Addr}{mA:Str->Option Value}{name:Str}{v:Value}
theorem Ku {expr:Bool}{Q:Value->Shared->Prop}(X:K.In s.heap)(I:ObjM s.heap x dx C mA)(hg:W.plainGet K C name=true)(hh:W.hasDictIn K C=true)
  (ha:W.findIn K (.ref C) name=some none) (hv:mA name=some v) (hv':W.handedIn v=true) (h:Q v { s with toks:=s.toks+1 }) :
  wpAny (model prog w) A (getAttr (.ref x) name expr) Q E s:=by
 obtain⟨od,J,hl⟩:=I.look;exact W.get_value X J (W.plainGet_of hg).1 (W.findObj_own hh ha rfl (by rw[hl,hv])) hv' h
theorem Hs  {Q:Value×List Value->Shared->Prop}(X:K.In s.heap)(I:ObjM s.heap x dx C mA)(hg:W.plainGet K C name=true)
  (hf:W.findIn K (.ref C) name=some (some (.ref f))) (ht:W.isFn K (.ref f)=true) (hv:mA name=none) (h:Q (.ref f,[.ref x]) s) :
  wpAny (model prog w) A (getMethod (.ref x) name pl) Q E s:=by
 obtain⟨od,J,hl⟩:=I.look;exact W.method_fn X J (W.plainGet_of hg).1 (W.plainGet_of hg).2 hf (Ur.mp ht) (by show (W.lookIn name od).map (·.isSome)=some false;rw[hl,hv];rfl) h
theorem Lk  {Q:Unit->Shared->Prop}(X:K.In s.heap)(I:ObjM s.heap x dx C mA)
  (hs:W.findIn K (.ref C) "__setattr__" = some (some (.builtin "object.__setattr__"))) (hp:W.plainOver K C=true) (ht:W.takerIn K C name=some none) (hh:W.hasDictIn K C=true)
  (hw:PySem.Within mA ns) (hsz:ns.length<=sizeLine)
  (h:∀h',ObjM h' x dx C (fun y=>if y=name then some v else mA y)->Heap.SameBut dx s.heap h'->Q () { s with heap:=h',toks:=s.toks+2 }) :
  wpAny (model prog w) A (setAttr (.ref x) name v) Q E s:=by
 obtain⟨od,J,hl⟩:=I.look;refine W.set_plain X J hs (W.osa_open (s:={ s with toks:=s.toks+1 }) (r:=none) X J hp ht fun b=>?_);obtain⟨cd,hc,hd'⟩:=W.any_some hh;have hx:s.heap.get? x=some ⟨.ref C,some dx,.plain,#[]⟩:=I.obj;refine Tp (Tv (Tp (Tp (wpAny_loadPart hx (Tp (W.Looks.here (s:={ s with toks:=s.toks+1 }) (W.looks_clsIn X hc) ?_))))));rw[hd'];refine Tv (a:=some dx) (Tp (Tv (Tp ?_)));refine wpAny_nsSet1 (s:={ s with toks:=s.toks+1 }) I.ns fun h' hn2 hs2=>?_;obtain⟨oD,esD,epD,hoD,hdD,hcD⟩:=hn2.count (PySem.Within.cons name v hw);refine Tp (wpAny_lookBehind hoD (by rw[hdD];exact pastItsLine_dict (T1 hcD (by rw[Tz];lia))) ?_);exact Tv (h _ ⟨(hs2.2 _ (T9 I.ne)).trans I.obj,hn2,I.ne⟩ hs2)
theorem HS  {vs:List Value}{kw:List (Str×Value)}(X:K.In s.heap)(hm:W.makesIn K C=true)
  (hi:W.findIn K (.ref C) "__init__" = some (some (.ref f))) (hf:W.typeIn K (.ref f)=some (.type "function"))
  (h:codeAny (model prog w) (A.under (.builtin "type.__call__" ⟨.ref C::vs,kw⟩)) (.call (.ref f) ⟨.ref (s.heap.objs.size+1)::vs,kw⟩) (W.InitBack (s.heap.objs.size+1) R)
   { s with heap:=(s.heap.push W.emptyDict).push (W.instObj C s.heap.objs.size) }) :
  codeAny (model prog w) A (.call (.ref C) ⟨vs,kw⟩) R s:=by
 obtain⟨hh,g,d,t,os⟩:=s;exact W.make_core (W.makes_of X hm) (W.looks_findIn X hi) (fun self=>W.bind_fn X self hf) (.inl rfl) h
end
noncomputable def mJ (f:Str)(v:V):List (Str×V)->List (Str×V)
 |[]=>[(f,v)]
 | (g,x)::r=>if g=f then (g,v)::r else (g,x)::mJ f v r
theorem r9 (f g:Str)(v:V):∀fs:List (Str×V),(mJ f v fs).lookup g=if g=f then some v else fs.lookup g
 |[]=>by
  show List.lookup g [(f,v)]=_;by_cases h:g=f
  ·have hb:(g==f)=true:=Ur.mpr h;simp only[List.lookup,hb,Tn h]
  ·have hb:(g==f)=false:=VN.mpr h;simp only[List.lookup,hb,To h]
 | (k,x)::r=>by
  have ih:=r9 f g v r;rw[show mJ f v ((k,x)::r)=(if k=f then (k,v)::r else (k,x)::mJ f v r) from rfl];by_cases hk:k=f
  ·rw[Tn hk];by_cases h:g=k
   ·have hb:(g==k)=true:=Ur.mpr h;simp only[List.lookup,hb,Tn (h.trans hk)]
   ·have hb:(g==k)=false:=VN.mpr h;simp only[List.lookup,hb,To (fun e:g=f=>h (e.trans hk.symm))]
  ·rw[To hk];by_cases h:g=k
   ·have hb:(g==k)=true:=Ur.mpr h;simp only[List.lookup,hb,To (fun e:g=f=>hk (h.symm.trans e))]
   ·have hb:(g==k)=false:=VN.mpr h;simp only[List.lookup,hb];exact ih
theorem qJ (f:Str)(v:V):∀fs:List (Str×V),f∈(mJ f v fs).map (·.1)/\∀g,g∈fs.map (·.1)->g∈(mJ f v fs).map (·.1)
 |[]=>⟨by simp[mJ],fun g h=>by simp at h⟩
 | (k,x)::r=>by
  obtain⟨i1,i2⟩:=qJ f v r;rw[show mJ f v ((k,x)::r)=(if k=f then (k,v)::r else (k,x)::mJ f v r) from rfl];by_cases hk:k=f
  ·rw[Tn hk];subst hk;exact⟨by simp,fun g h=>by simpa using h⟩
  ·rw[To hk];refine⟨?_,fun g h=>?_⟩
   ·rw[TF];exact TC _ i1
   ·rw[TF] at h ⊢;rcases TD.mp h with e|e
    ·exact TD.mpr (.inl e)
    ·exact TC _ (i2 g e)
theorem rY (f:Str)(v:V):∀fs:List (Str×V),(mJ f v fs).length<=fs.length+1
 |[]=>by simp[mJ]
 | (k,x)::r=>by
  have ih:=rY f v r;rw[show mJ f v ((k,x)::r)=(if k=f then (k,v)::r else (k,x)::mJ f v r) from rfl];by_cases hk:k=f
  ·rw[Tn hk,Tz,Tz];lia
  ·rw[To hk,Tz,Tz];lia
theorem RelO.some_of {v:V}  (r:RelO (some v) o):∃u,o=some u/\RelV v u:=by
 cases o with
 |none=>exact (show False from r).elim
 |some u=>exact⟨u,rfl,r⟩
theorem RelO.none_of  (r:RelO none o):o=none:=by
 cases o with
 |none=>rfl
 |some u=>exact (show False from r).elim
theorem Fc   (r:RelV v u):W.handedIn u=true:=by
 cases v with
 |non=>cases (show u=Value.none from r);rfl
 |bl b=>cases (show u=Value.bool b from r);rfl
 |int i=>obtain⟨t,e⟩:=(show ∃t,u=Value.int i t from r);cases e;rfl
 |str x=>obtain⟨t,e⟩:=(show ∃t,u=Value.str x t from r);cases e;rfl
 |byt b=>obtain⟨t,e⟩:=(show ∃t,u=Value.bytes b t from r);cases e;rfl
 |flt b=>obtain⟨t,e⟩:=(show ∃t,u=Value.float b t from r);cases e;rfl
 |ref a=>cases (show u=Value.ref a from r);rfl
 |ty n=>cases (show u=Value.type n from r);rfl
section
variable {P:Program}{w:World}{H H':Hp}{h h':Heap}{a C dx:Addr}{fs fs':List (Str×V)}
theorem tq (hok:HOk P w H h)(e:H a=some (.ins C dx fs)):∃mA,ObjM h a dx C mA/\(∀f,RelO (fs.lookup f) (mA f))/\PySem.Within mA (fs.map (·.1))/\fs.length<=1000/\H dx=some (.own a):=by
 obtain⟨d,z,ne,ob,mA,n,r,q⟩:=(show ObjOk P w H h a (.ins C dx fs) from hok a _ e)
 exact⟨mA,⟨ob,n,ne⟩,r,q,z,d⟩
end
structure Cls (K:W.Frag) (C:Addr):Prop where
 pg:W.plainGet K C Str.empty=true
 hd:W.hasDictIn K C=true
 po:W.plainOver K C=true
 sa:W.findIn K (.ref C) "__setattr__" = some (some (.builtin "object.__setattr__"))
theorem Cls.get {K:W.Frag}{C:Addr}(c:Cls K C)(f:Str):W.plainGet K C f=true:=c.pg
def NoAttr (K:W.Frag)(C:Addr)(f:Str):Prop:=W.findIn K (.ref C) f=some none
theorem NoAttr.taker {K:W.Frag}{C:Addr}{f:Str}(n:NoAttr K C f):W.takerIn K C f=some none:=by unfold W.takerIn;rw[show W.findIn K (.ref C) f=some none from n];rfl
structure Meth (K:W.Frag) (C:Addr) (m:Str) (f:Addr):Prop where
 at_:W.findIn K (.ref C) m=some (some (.ref f))
 fn:W.isFn K (.ref f)=true
 kp:W.keepIn K (.ref f)=true
section
variable {X:Cx}{pins:List (Addr×Obj)}{σ:St}{H:Hp}{s:Shared}{a C dx:Addr}{fs:List (Str×V)}{f:Str}{v:V}{A:Around}{E:Value->Shared->Prop}
theorem Cz {b:Bool}{Q:Value->Shared->Prop}(I:Inv X pins σ H s)(e:H a=some (.ins C dx fs))(c:Cls X.K C)(n:NoAttr X.K C f)(l:fs.lookup f=some v)
  (h:∀u s',Inv X pins σ H s'->RelV v u->Q u s'):wpAny (model X.prog X.w) A (getAttr (.ref a) f b) Q E s:=by
 obtain⟨mA,O,r,_,_,_⟩:=tq I.hok e;obtain⟨u,hu,ru⟩:=RelO.some_of (v:=v) (o:=mA f) (by rw[<- l];exact r f);exact Ku I.kIn O (c.get f) c.hd n hu (Fc ru) (h u _ (I.tok _) ru)
theorem CA    {Q:Value×List Value->Shared->Prop}(I:Inv X pins σ H s)(e:H a=some (.ins C dx fs))(c:Cls X.K C)(k:Meth X.K C m g)(l:fs.lookup m=none)
  (h:Q (.ref g,[.ref a]) s):wpAny (model X.prog X.w) A (getMethod (.ref a) m pl) Q E s:=by
 obtain⟨mA,O,r,_,_,_⟩:=tq I.hok e;have hn:mA m=none:=RelO.none_of (by rw[<- l];exact r m);exact Hs I.kIn O (c.get m) k.at_ k.fn hn h
theorem C9   {Q:Unit->Shared->Prop}(I:Inv X pins σ H s)(e:H a=some (.ins C dx fs))(c:Cls X.K C)(n:NoAttr X.K C f)(hl:fs.length<1000)(ry:RelV y u)
  (h:∀s',Inv X pins σ (upd H a (.ins C dx (mJ f y fs))) s'->Q () s'):wpAny (model X.prog X.w) A (setAttr (.ref a) f u) Q E s:=by
 obtain⟨mA,O,r,wi,_,ho⟩:=tq I.hok e;have hz:(fs.map (·.1)).length<=sizeLine:=by rw[Tt,Uj];lia
 refine Lk I.kIn O c.sa c.po n.taker c.hd wi hz fun h' O' sb=>h _ ?_;have hd:∃o,h'.get? dx=some o:=let ⟨o,_,_,e',_⟩:=O'.ns;⟨o,e'⟩
 refine I.write (x:=a) (e:=dx) (by rw[e];exact True.intro) (.inr ho) (fun b q hb z=>(sb.2 b hb).trans z) hd ?_;refine⟨by rw[aG O.ne];exact ho,?_,O.ne,O'.obj,_,O'.ns,fun g=>?_,fun g hg=>?_⟩
 ·have:=rY f y fs;lia
 ·show RelO ((mJ f y fs).lookup g) (if g=f then some u else mA g);rw[r9];by_cases q:g=f
  ·rw[Tn q,Tn q];exact ry
  ·rw[To q,To q];exact r g
 ·by_cases q:g=f
  ·rw[q];exact (qJ f y fs).1
  ·refine (qJ f y fs).2 g (wi g fun z=>hg ?_);show (if g=f then some u else mA g)=none;rw[To q];exact z
theorem Inv.made (I:Inv X pins σ H s):Inv X pins σ (upd (upd H s.heap.objs.size (.own (s.heap.objs.size+1))) (s.heap.objs.size+1) (.ins C s.heap.objs.size []))
  { s with heap:=(s.heap.push W.emptyDict).push (W.instObj C s.heap.objs.size) }:=by
 have e1:(s.heap.push W.emptyDict).get? s.heap.objs.size=some W.emptyDict:=TZ s.heap rfl;have e2:((s.heap.push W.emptyDict).push (W.instObj C s.heap.objs.size)).get? (s.heap.objs.size+1)=some (W.instObj C s.heap.objs.size):=by have:=TZ (s.heap.push W.emptyDict) (o:=W.instObj C s.heap.objs.size) rfl;rwa[UN] at this
 have e3:(s.heap.push W.emptyDict).Ns s.heap.objs.size (fun _=>none):=⟨W.emptyDict,#[],_,e1,rfl,(fun e he=>absurd he (by simp)),fun _=>rfl⟩
 have I1:=I.laid (a:=s.heap.objs.size) (o:=.own (s.heap.objs.size+1)) (h':=s.heap.push W.emptyDict) (t':=s.toks) (fun b u q=>TK _ q) (Tw _) ⟨_,e1⟩;refine I1.laid (a:=s.heap.objs.size+1) (o:=.ins C s.heap.objs.size []) (t':=s.toks) (fun b u q=>TK _ q) (Us (UN _ _)) ?_;have ne:s.heap.objs.size≠s.heap.objs.size+1:=TX (U7 _);refine⟨by rw[aG ne,aH],T2 _,ne,e2,fun _=>none,(Heap.Ns1.of_empty e3).at fun o q=>TK _ q,fun _=>True.intro,fun y hy=>absurd rfl hy⟩
theorem Kb {prog:Program}     {pos:Pos}   (hb:attributeBase e f env (eval e env)=eval e env)
  (h:wpAny (model prog w) A (eval e env) (fun o s₁=>wpAny (model prog w) A (getAttr o f true) Q E s₁) E s):wpAny (model prog w) A (eval (.Attribute e f pos) env) Q E s:=
 Attribute_any_ h (by rw[arm_eval_Attribute,hb])
end
noncomputable def PN (K:W.Frag)(ta tv:TE)(f:Str):TS:=fun D σ H=>tv σ H fun y H1=>ta σ H1 fun x H2=>∃a C dx fs,x = .ref a/\H2 a=some (.ins C dx fs)/\Cls K C/\NoAttr K C f/\fs.length<1000 /\
 D.nx σ (upd H2 a (.ins C dx (mJ f y fs)))
section
variable {X:Cx}{o e value:Expr}{f:Str}{pos pos' tpos:Pos}{ta tv:TE}
theorem Nv (ha:PE X o ta)(hv:PE X value tv)(hs:swapsWith value (some (.Attribute o f pos')) pos.line X.env=pure false):PS X (.Assign [.Attribute o f pos'] value pos) (PN X.K ta tv f):=by intro pins s σ H D I h;refine plainObj_wpAny_Assign_Attribute (thn (hv pins s σ H _ I h) fun u s1 ⟨y,H1,I1,ry,q⟩=>thn (ha pins s1 σ H1 _ I1 q) fun ov s2 hpt9=>?_) hs;obtain⟨x,H2,I2,rx,a,C,dx,fs,ex,ea,c,n,l,q2⟩:=hpt9;subst ex;obtain rfl:ov=Value.ref a:=rx;exact C9 I2 ea c n l ry fun s3 I3=>⟨σ,_,I3,q2⟩
end
section
variable {X:Cx}{pins:List (Addr×Obj)}{σ:St}{H:Hp}{s:Shared}{A:Around}{E:Value->Shared->Prop}{Q:Value->Shared->Prop}{c:Value}{b:Bool}
inductive TyOf (K:W.Frag) (H:Hp):V->Value->Prop where
 |non:TyOf K H .non (.type "NoneType")
 |bl (x:Bool):TyOf K H (.bl x) (.type "bool")
 |int (i:Int):TyOf K H (.int i) (.type "int")
 |str (x:Str):TyOf K H (.str x) (.type "str")
 |flt (x:UInt64):TyOf K H (.flt x) (.type "float")
 |lst {a:Addr} {xs:List V} (e:H a=some (.lst xs)):TyOf K H (.ref a) (.type "list")
 |frz {a:Addr} {o:Obj} {xs:List V} (e:H a=some (.frz o (.lst xs))):TyOf K H (.ref a) (.type "list")
 |tup {a:Addr} {xs:List V} (e:H a=some (.tup xs)):TyOf K H (.ref a) (.type "tuple")
 |dK {a:Addr} {kvs:List (Key×V)} (e:H a=some (.dK kvs)):TyOf K H (.ref a) (.type "dict")
 |dT {a:Addr} {kvs:List (List Key×V)} (e:H a=some (.dT kvs)):TyOf K H (.ref a) (.type "dict")
 |ins {a C dx:Addr} {fs:List (Str×V)} (e:H a=some (.ins C dx fs)) (cl:Cls K C) (ha:W.findIn K (.ref C) "__class__" = some (some (.builtin "object.__class__")))
   (hn:W.specialIn K (.builtin "object.__class__") "__get__" = some (some (.builtin "getset_descriptor.__get__"))) (htk:W.takesIn K (.builtin "object.__class__")=some true)
   (hm:W.mroIn K C (.type "object")=some true):TyOf K H (.ref a) (.ref C)
theorem mr   (I:Inv X pins σ H s)(rx:RelV x u)(ty:TyOf X.K H x t)(e:W.kitOne X.K t c=some b)(h:∀tk,Q (.bool b) { s with toks:=tk }) :
  wpAny (model X.prog X.w) A (call (.builtin "isinstance") [u,c]) Q E s:=by
 cases ty with
 |non=>cases (show u=Value.none from rx);exact Uw W.kitx_none I.kIn True.intro e (fun z=>nomatch z) h
 |bl y=>cases (show u=Value.bool y from rx);exact Uw W.kitx_bool I.kIn True.intro e (fun z=>nomatch z) h
 |int i=>obtain⟨t,q⟩:=(show ∃t,u=Value.int i t from rx);cases q;exact Uw W.kitx_int I.kIn True.intro e (fun z=>nomatch z) h
 |str y=>obtain⟨t,q⟩:=(show ∃t,u=Value.str y t from rx);cases q;exact Uw W.kitx_str I.kIn True.intro e (fun z=>nomatch z) h
 |flt y=>obtain⟨t,q⟩:=(show ∃t,u=Value.float y t from rx);cases q;exact Uw W.kitx_float I.kIn True.intro e (fun z=>nomatch z) h
 | @lst a xs ea=>
  cases (show u=Value.ref a from rx);obtain⟨_,_,n,_,h1⟩:=(show ObjOk X.prog X.w H s.heap a (.lst xs) from I.hok a _ ea)
  exact Uw W.kitx_list I.kIn ⟨_,h1,rfl⟩ e (fun z=>nomatch z) h
 | @frz a ob xs ea=>
  cases (show u=Value.ref a from rx);obtain⟨_,_,_,n,_,h1⟩:=(show ObjOk X.prog X.w H s.heap a (.frz ob (.lst xs)) from I.hok a _ ea)
  exact Uw W.kitx_list I.kIn ⟨_,h1,rfl⟩ e (fun z=>nomatch z) h
 | @tup a xs ea=>
  cases (show u=Value.ref a from rx);obtain⟨_,_,_,p⟩:=(show ObjOk X.prog X.w H s.heap a (.tup xs) from I.hok a _ ea)
  obtain⟨o,h1,h2,_⟩:=p;exact Uw W.kitx_tuple I.kIn ⟨o,h1,h2⟩ e (fun z=>nomatch z) h
 | @dK a kvs ea=>
  cases (show u=Value.ref a from rx);obtain⟨_,_,vs,_,p⟩:=(show ObjOk X.prog X.w H s.heap a (.dK kvs) from I.hok a _ ea)
  obtain⟨o,es,ep,h1,h2,_⟩:=p;exact Uw W.kitx_dict I.kIn ⟨o,h1,h2.1⟩ e (fun z=>nomatch z) h
 | @dT a kvs ea=>
  cases (show u=Value.ref a from rx);obtain⟨_,_,xs,_,o,es,ep,h1,h2,_⟩:=(show ObjOk X.prog X.w H s.heap a (.dT kvs) from I.hok a _ ea)
  exact Uw W.kitx_dict I.kIn ⟨o,h1,h2.1⟩ e (fun z=>nomatch z) h
 | @ins a C dx fs ea cl ha hn htk hm=>cases (show u=Value.ref a from rx);obtain⟨mA,O,_⟩:=tq I.hok ea;obtain⟨od,J,_⟩:=O.look;exact Uw (W.kitx_own (cl.get _) cl.hd ha hn htk hm) I.kIn J e (fun z=>nomatch z) h
end
structure Room (k:Nat) (A:Around):Prop where
 hd:A.handled=none
 dp:A.depth+3 * k+5<recursionLimit
 un:A.units+16 * k+200<cLine
theorem Room.mono {j k:Nat}  (r:Room k A)(h:j<=k):Room j A:=⟨r.hd,by have:=r.dp;lia,by have:=r.un;lia⟩
theorem Room.deeper {k:Nat}  (r:Room (k+1) A)(env:Env):Room k (A.deeper env):=
 ⟨r.hd,by have:=r.dp;show A.depth+1+3 * k+5<_;lia,by have:=r.un;show A.units+3+16 * k+200<_;lia⟩
theorem CL {A:Around}{C:Addr}{us:List Value}{kw:List (Str×Value)}:(A.under (.builtin "type.__call__" ⟨.ref C::us,kw⟩)).depth=A.depth+1:=by
 first|rfl|simp[Around.under,Code.weight,Code.isCreation,Code.isGuard,Code.isCaller,Code.frames,Code.isFrame,guardIds]
theorem CM {A:Around}{C:Addr}{us:List Value}{kw:List (Str×Value)}:(A.under (.builtin "type.__call__" ⟨.ref C::us,kw⟩)).units=A.units+1:=by
 first|rfl|simp[Around.under,Code.cUnits,Code.frames,Code.isFrame]
theorem Room.make {k:Nat}  (r:Room (k+1) A)(C:Addr)(us:List Value)(kw:List (Str×Value)):Room k (A.under (.builtin "type.__call__" ⟨.ref C::us,kw⟩)):=
 ⟨r.hd,by have:=r.dp;rw[CL];lia,by have:=r.un;rw[CM];lia⟩
theorem Room.depth {k:Nat}  (r:Room k A):A.depth<recursionLimit:=by have:=r.dp;lia
theorem Room.units {k:Nat}  (r:Room k A):A.units+64<cLine:=by have:=r.un;lia
noncomputable def rD:TA:=fun _ H Q=>Q [] H
noncomputable def gJ (ta:TE)(tr:TA):TA:=fun σ H Q=>ta σ H fun x H1=>tr σ H1 fun xs H2=>Q (x::xs) H2
section
variable {X:Cx}{e:Expr}{es:List Expr}{te:TE}{t:TA}{pos:Pos}
theorem aL:PA X [] rD:=fun _ _ _ _ H Q I h=>Calls.spliced_nil ⟨[],H,I,.nil,h⟩
theorem au (ha:PE X e te)(hr:PA X es t)(hs:starEach (e::es) X.env=(false,eval e X.env)::starEach es X.env:=by rfl):PA X (e::es) (gJ te t):=by intro pos pins s σ H Q I h;rw[hs];show wpAny _ _ (spliced ((false,eval e X.env)::backTo pos (starEach es X.env))) _ _ s;refine Calls.spliced_cons (thn (ha pins s σ H _ I h) fun u s1 hpt9=>?_);obtain⟨x,H1,I1,r1,q1⟩:=hpt9;exact thn (hr pos pins s1 σ H1 _ I1 q1) fun us s2 ⟨xs,H2,I2,r2,q2⟩=>⟨x::xs,H2,I2,.cons r1 r2,q2⟩
noncomputable def LF (t:TA):TE:=fun σ H Q=>t σ H fun xs H1=>xs.length<=sizeLine/\∀p,H1 p=none->Q (.ref p) (upd H1 p (.tup xs))
noncomputable def LC (t:TA):TE:=fun σ H Q=>t σ H fun xs H1=>xs.length<=sizeLine/\∀p,H1 p=none->Q (.ref p) (upd H1 p (.lst xs))
theorem jB {x1}(h:PA X es t):PE X (.Tuple es x1 pos) (LF t):=by intro pins s σ H Q I hq;refine wpAny_Tuple_spliced (thn (h pos pins s σ H _ I hq) fun us s1 ⟨xs,H1,I1,r,z,q⟩=>⟨by rw[<- r.length];exact z,?_⟩);have hf:H1 s1.heap.objs.size=none:=I1.hok.fresh (Tw _);refine⟨.ref s1.heap.objs.size,upd H1 s1.heap.objs.size (.tup xs),I1.laid (t':=s1.toks) (fun b u e=>TK _ e) (Tw _) ?_,rfl,q _ hf⟩;exact⟨z,us,r,⟨_,TZ _ rfl,rfl,_,rfl⟩⟩
theorem Nj (h:PA X es t):PE X (.List es pos) (LC t):=by intro pins s σ H Q I hq;refine wpAny_List_spliced (thn (h pos pins s σ H _ I hq) fun us s1 ⟨xs,H1,I1,r,z,q⟩=>⟨by rw[<- r.length];exact z,?_⟩);have hf:H1 s1.heap.objs.size=none:=I1.hok.fresh (Tw _);refine⟨.ref s1.heap.objs.size,upd H1 s1.heap.objs.size (.lst xs),I1.laid (t':=s1.toks) (fun b u e=>TK _ e) (Tw _) ?_,rfl,q _ hf⟩;exact⟨z,us,0,r,TZ _ rfl⟩
end
noncomputable abbrev Sp:=List V->Hp->VK->XK->Prop
noncomputable abbrev CXT:=List Env->Hp->Shared->XK->Value->Shared->Prop
structure Env0 (P:Program) (w:World) (K:W.Frag) (mg:Str->Option Value) (base:Heap) (A:Around) (outer:List Env) (s:Shared) (H:Hp):Prop where
 frames:A.frames=some outer
 mod:Mod K mg base
 bs:∀b o,base.get? b=some o->s.heap.get? b=some o/\H b=none
 bsz:base.objs.size<=s.heap.objs.size
 funs:s.heap.FunFrames base outer
 frf:∀b∈frs outer,H b=none
 hok:HOk P w H s.heap
 bare:AllBare s.gens
def CE (outer:List Env)(P:Program)(w:World)(H:Hp)(s:Shared)(Q:VK)(u:Value)(s':Shared):Prop:=
 ∃v H',s'.os=s.os/\AllBare s'.gens/\Un (frs outer) [] H H' s.heap s'.heap/\HOk P w H' s'.heap/\RelV v u/\Q v H'
def CR (CX:CXT)(outer:List Env)(P:Program)(w:World)(H:Hp)(s:Shared)(Q:VK)(E:XK)(r:Result)(s':Shared):Prop:=
 match r with
 |.ok (.ret u)=>CE outer P w H s Q u s'
 |.ok _=>False
 |.error e=>CX outer H s E e s'
structure FnOk (P:Program) (w:World) (K:W.Frag) (mg:Str->Option Value) (base:Heap) (CX:CXT) (k:Nat) (f:Addr) (fd:FuncData) (ps:List Str) (sp:Sp):Prop where
 len:∀vs H Q E,sp vs H Q E->vs.length=ps.length
 run:∀(A:Around) (outer:List Env) (s:Shared) (H:Hp) (args:Args) (us:List Value) (vs:List V) (Q:VK) (E:XK),Room k A->Env0 P w K mg base A outer s H->BindsTo s fd args (ps.zip us)->Vals vs us->sp vs H Q E ->
  codeAny (model P w) A (.call (.ref f) args) (CR CX outer P w H s Q E) s
theorem Env0.make {P:Program}{w:World}{K:W.Frag}{mg:Str->Option Value}{base:Heap}{A:Around}{outer:List Env}{s:Shared}{H:Hp}(e:Env0 P w K mg base A outer s H)(C:Addr)(us:List Value)(kw:List (Str×Value)) :
  Env0 P w K mg base (A.under (.builtin "type.__call__" ⟨.ref C::us,kw⟩)) outer s H:=⟨by first|exact e.frames|(simpa[Around.under,Code.envs,Code.isFrame,pushEnvs] using e.frames),e.mod,e.bs,e.bsz,e.funs,e.frf,e.hok,e.bare⟩
section
variable {X:Cx}{pins:List (Addr×Obj)}{σ:St}{H:Hp}{s s':Shared}
theorem Inv.env0 (I:Inv X pins σ H s):Env0 X.prog X.w X.K X.mg X.base X.A X.stack s H:=
 ⟨I.ok.frames,I.ok.mod,I.bs,T1 I.ok.bsz I.sz,I.stack,I.stkFree,I.hok,I.bare⟩
theorem Inv.after   (I:Inv X pins σ H s)(h:CE X.stack X.prog X.w H s Q u s'):EP X pins σ Q u s':=by obtain⟨v,H',os,bare,un,hok,r,q⟩:=h;obtain⟨hh,g,d,t,os'⟩:=s';obtain rfl:os'=s.os:=os;exact⟨v,H',I.call (h':=hh) (g':=g) (d':=d) (t':=t) (ch:=[]) un hok bare (fun b z=>absurd z (by simp)),r,q⟩
end
noncomputable def pT (sp:Sp)(dvs:List V)(E:XK)(t:TA):TE:=fun σ H Q=>t σ H fun vs H1=>sp (vs++dvs) H1 Q E
noncomputable def Ma (C:Addr)(sp:Sp)(dvs:List V)(E:XK)(t:TA):TE:=fun σ H Q=>t σ H fun vs H1=>∀x dx,H1 x=none->H1 dx=none->dx≠x ->
 sp (.ref x::(vs++dvs)) (upd (upd H1 dx (.own x)) x (.ins C dx [])) (fun v H2=>v = .non/\Q (.ref x) H2) E
def Binds (K:W.Frag)(fd:FuncData)(ps:List Str)(ds:List Value):Prop:=
 ∀(s:Shared) (us:List Value),K.In s.heap->(us++ds).length=ps.length->BindsTo s fd ⟨us,[]⟩ (ps.zip (us++ds))
theorem Binds.all {K:W.Frag}{fd:FuncData}{ps:List Str}(h:∀us:List Value,us.length=ps.length->bindArgs fd ⟨us,[]⟩=pure (ps.zip us)):Binds K fd ps []:=fun s us _ hl=>by rw[Ue] at hl ⊢;exact .of_eq (h us hl)
def kY (CX:CXT)(X:Cx)(E:XK):Prop:=∀(pins:List (Addr×Obj)) (σ:St) (H:Hp) (s:Shared) (e:Value) (s':Shared),Inv X pins σ H s->CX X.stack H s E e s'->X.xe e s'
section
variable {X:Cx}{CX:CXT}{k:Nat}{f C:Addr}{fd:FuncData}{ps:List Str}{sp:Sp}{dvs:List V}{ds:List Value}{E:XK}{x m:Str}{p pos apos:Pos}{e o:Expr}{es:List Expr}{ta:TE}{t:TA}
theorem C6 {pins:List (Addr×Obj)}       (F:FnOk X.prog X.w X.K X.mg X.base CX k f fd ps sp)(hr:Room k X.A)(hb:Binds X.K fd ps ds)(hd:Vals dvs ds)(hx:kY CX X E)
  (I:Inv X pins σ H s) (r:Vals vs us) (h:sp (vs++dvs) H Q E):wpAny (model X.prog X.w) X.A (call (.ref f) us) (EP X pins σ Q) X.xe s:=by
 have r2:Vals (vs++dvs) (us++ds):=r.append hd;have hl:(us++ds).length=ps.length:=by rw[<- r2.length];exact F.len _ _ _ _ h
 refine wpAny_call (codeAny_mono (F.run X.A X.stack s H ⟨us,[]⟩ (us++ds) (vs++dvs) Q E hr I.env0 (hb s us I.kIn hl) r2 h) fun r s' hq=>?_);cases r with
 |error e=>exact hx pins σ H s e s' I hq
 |ok fl=>
  cases fl with
  |ret u=>exact I.after hq
  |next=>exact False.elim hq
  |brk=>exact False.elim hq
  |cont=>exact False.elim hq
theorem KW (F:FnOk X.prog X.w X.K X.mg X.base CX k f fd ps sp)(hr:Room k X.A)(hg:Gl X x)(hm:X.mg x=some (.ref f))(hk:W.keepIn X.K (.ref f)=true)(hb:Binds X.K fd ps ds)(hd:Vals dvs ds)(hx:kY CX X E)
  (ha:PA X (e::es) t) (hdb:(x==("__debug__" : Str))=false:=by decide) (he:starEach (e::es) X.env=(false,eval e X.env)::starEach es X.env:=by rfl) (hpl:(backTo pos (starEach es X.env)).any (·.1)=false:=by rfl) :
  PE X (.Call (.Name x p) (e::es) [] pos) (pT sp dvs E t):=by
 intro pins s σ H Q I h;refine Vw (za I hg hm ?_ hdb);refine W.callWith_K (h₀:=X.base) I.ok.mod.kin hk (thn (ha pos pins s σ H _ I h) fun us s1 ⟨vs,H1,I1,r,q⟩=>⟨I1.kIn,?_⟩) he hpl;exact C6 F hr hb hd hx I1 r q
structure Mk (K:W.Frag) (C f:Addr):Prop where
 makes:W.makesIn K C=true
 init:W.findIn K (.ref C) "__init__" = some (some (.ref f))
 fn:W.isFn K (.ref f)=true
 kp:W.keepIn K (.ref C)=true
theorem Ji {pins:List (Addr×Obj)}    {Q:VK}   (M:Mk X.K C f)(F:FnOk X.prog X.w X.K X.mg X.base CX k f fd ps sp)(hr:Room (k+1) X.A)(hb:Binds X.K fd ps ds)(hd:Vals dvs ds)
  (hx:kY CX X E) (I:Inv X pins σ H s) (r:Vals vs us)
  (h:∀x dx,H x=none->H dx=none->dx≠x->sp (.ref x::(vs++dvs)) (upd (upd H dx (.own x)) x (.ins C dx [])) (fun v H2=>v = .non/\Q (.ref x) H2) E) :
  wpAny (model X.prog X.w) X.A (call (.ref C) us) (EP X pins σ Q) X.xe s:=by
 have hq:=h (s.heap.objs.size+1) s.heap.objs.size (I.hok.fresh (UO _)) (I.hok.fresh (Tw _)) (TX (U7 _));have I2:=Inv.made (C:=C) I;have r2:Vals (V.ref (s.heap.objs.size+1)::(vs++dvs)) (Value.ref (s.heap.objs.size+1)::(us++ds)):=.cons rfl (r.append hd);have hl:(Value.ref (s.heap.objs.size+1)::us++ds).length=ps.length:=by have e:=r2.length;rw[F.len _ _ _ _ hq] at e;exact e.symm
 refine wpAny_call (HS (f:=f) I.kIn M.makes M.init (Ur.mp M.fn) (codeAny_mono (F.run _ X.stack _ _ ⟨Value.ref (s.heap.objs.size+1)::us,[]⟩ (Value.ref (s.heap.objs.size+1)::(us++ds)) _ _ E (hr.make C us [])
  (I2.env0.make C us []) (hb _ (Value.ref (s.heap.objs.size+1)::us) I2.kIn hl) r2 hq) fun r s' hq'=>?_))
 cases r with
 |error e=>exact hx pins σ _ _ e s' I2 hq'
 |ok fl=>
  cases fl with
  |ret u=>
   obtain⟨v,H',I3,rv,ev,q3⟩:=I2.after hq';subst ev;exact⟨rv,⟨V.ref (s.heap.objs.size+1),H',I3,rfl,q3⟩⟩
  |next=>exact False.elim hq'
  |brk=>exact False.elim hq'
  |cont=>exact False.elim hq'
theorem K0 (M:Mk X.K C f)(F:FnOk X.prog X.w X.K X.mg X.base CX k f fd ps sp)(hr:Room (k+1) X.A)(hg:Gl X x)(hm:X.mg x=some (.ref C))(hb:Binds X.K fd ps ds)(hd:Vals dvs ds)(hx:kY CX X E)
  (ha:PA X (e::es) t) (hdb:(x==("__debug__" : Str))=false:=by decide) (he:starEach (e::es) X.env=(false,eval e X.env)::starEach es X.env:=by rfl) (hpl:(backTo pos (starEach es X.env)).any (·.1)=false:=by rfl) :
  PE X (.Call (.Name x p) (e::es) [] pos) (Ma C sp dvs E t):=by
 intro pins s σ H Q I h;refine Vw (za I hg hm ?_ hdb);refine W.callWith_K (h₀:=X.base) I.ok.mod.kin M.kp (thn (ha pos pins s σ H _ I h) fun us s1 ⟨vs,H1,I1,r,q⟩=>⟨I1.kIn,?_⟩) he hpl;exact Ji M F hr hb hd hx I1 r q
end
section
variable {X:Cx}{CX:CXT}{k:Nat}{f C:Addr}{fd:FuncData}{ps ks:List Str}{sp:Sp}{E:XK}{x m:Str}{p pos apos kpos:Pos}{e o:Expr}{es:List Expr}{kws:List Keyword}{te ta:TE}{t tk:TA}{nm:Option Str}
variable {g:List Value->List Value->List Value}{gV:List V->List V->List V}
end
structure FnScope (N P:List Str) (sc:Scope):Prop where
 kind:sc.kind = .function
 co:sc.isCoroutine=false
 gen:sc.isGenerator=false
 nd:N.Nodup
 pre:N.take P.length=P
 par:∀x∈P,sc.names.lookup x=some .local\/sc.names.lookup x=some .cell
 nofree:∀y∈sc.names,y.2 ≠ .free
theorem xo {kindOf:Str->Option NameKind}{x:Str}:∀ {binds:List (Str×Value)} {m:Str->Option Value},(∀v,(x,v)∉binds)->bindL kindOf binds m x=m x
 |[],_,_=>rfl
 | (n,v)::r,m,h=>by
  unfold bindL;rw[xo fun w hw=>h w (TC _ hw)];split
  ·have:x≠n:=by rintro rfl;exact h v Tx
   simp[this]
  ·rfl
theorem xk {kindOf:Str->Option NameKind}{x:Str}:∀ {binds:List (Str×Value)} {m:Str->Option Value},(∀v,(x,v)∉binds)->bindC kindOf binds m x=m x
 |[],_,_=>rfl
 | (n,v)::r,m,h=>by
  unfold bindC;rw[xk fun w hw=>h w (TC _ hw)];split
  ·rfl
  ·have:x≠n:=by rintro rfl;exact h v Tx
   simp[this]
theorem xn {kindOf:Str->Option NameKind}{x:Str}{v:Value}:∀ {P:List Str} {vs:List Value} {i:Nat} {m:Str->Option Value},P.Nodup->P[i]?=some x->vs[i]?=some v->kindOf x=some .local ->
  bindL kindOf (P.zip vs) m x=some v
 |[],_,_,_,_,h,_,_=>by simp at h
 |_::_,[],_,_,_,_,h,_=>by simp at h
 |p::P,w::vs,0,m,nd,h1,h2,hk=>by
  simp at h1 h2;subst h1;subst h2;show bindL kindOf ((p,w)::P.zip vs) m p=_;unfold bindL;rw[xo fun v hv=>(Uk.mp nd).1 (List.of_mem_zip hv).1,Tn hk];simp
 |p::P,w::vs,i+1,m,nd,h1,h2,hk=>by show bindL kindOf ((p,w)::P.zip vs) m x=_;unfold bindL;exact xn (i:=i) (Uk.mp nd).2 (by simpa using h1) (by simpa using h2) hk
theorem xj {kindOf:Str->Option NameKind}{x:Str}{v:Value}:∀ {P:List Str} {vs:List Value} {i:Nat} {m:Str->Option Value},P.Nodup->P[i]?=some x->vs[i]?=some v->kindOf x≠some .local ->
  bindC kindOf (P.zip vs) m x=some v
 |[],_,_,_,_,h,_,_=>by simp at h
 |_::_,[],_,_,_,_,h,_=>by simp at h
 |p::P,w::vs,0,m,nd,h1,h2,hk=>by
  simp at h1 h2;subst h1;subst h2;show bindC kindOf ((p,w)::P.zip vs) m p=_;unfold bindC;rw[xk fun v hv=>(Uk.mp nd).1 (List.of_mem_zip hv).1,To hk];simp
 |p::P,w::vs,i+1,m,nd,h1,h2,hk=>by show bindC kindOf ((p,w)::P.zip vs) m x=_;unfold bindC;exact xj (i:=i) (Uk.mp nd).2 (by simpa using h1) (by simpa using h2) hk
noncomputable def eB (N:List Str)(vs:List V):St:=vs.map some++List.replicate (N.length-vs.length) none
noncomputable def yN (CX:CXT)(P:Program)(w:World)(K:W.Frag)(mg:Str->Option Value)(base:Heap)(N:List Str)(qual:Str)(scope:Scope)(f:Addr)(cd:Value)(A:Around)(outer:List Env)(s:Shared)(H:Hp)(E:XK):Cx where
 prog:=P
 w:=w
 K:=K
 mg:=mg
 base:=base
 A:=A.deeper (envOfC qual scope s.heap.objs.size f cd)
 N:=N
 s₀:=s
 H₀:=H
 env:=envOfC qual scope s.heap.objs.size f cd
 outer:=outer
 stack:=envOfC qual scope s.heap.objs.size f cd::outer
 ex:=[]
 calm:=true
 fn:=fun _=>true
 pn:=[]
 xe:=fun e s'=>wpAny (model P w) (A.deeper (envOfC qual scope s.heap.objs.size f cd)) (leaving (envOfC qual scope s.heap.objs.size f cd) e) (fun _ s''=>CX outer H s E e s'') (fun e' s''=>CX outer H s E e' s'') s'
theorem Ap {sc:Scope}{n:Nat}{x:Str}(h:sc.names.lookup x=some .cell):∃c,(cellsFrom n sc.names []).lookup x=some c:=by have q:=W.cellsFrom_some sc.names n [] (.inl h);exact Option.isSome_iff_exists.mp q
theorem Fj {CX:CXT}{P:Program}{w:World}{K:W.Frag}{mg:Str->Option Value}{base:Heap}{N ps:List Str}{qual:Str}{scope:Scope}{f:Addr}{cd:Value}{A:Around}{outer:List Env}{s s1:Shared}{H:Hp}{E:XK}{us:List Value}{vs:List V}
  (S:FnScope N ps scope) (hd:A.handled=none) (e0:Env0 P w K mg base A outer s H) (hl:vs.length=ps.length) (r:Vals vs us)
  (x:InCallC s s.heap.objs.size (bindL (envOfC qual scope s.heap.objs.size f cd).kindOf (ps.zip us) fun _=>none) (cellsFrom (s.heap.objs.size+1) scope.names []) (bindC (envOfC qual scope s.heap.objs.size f cd).kindOf (ps.zip us) fun _=>none) s1) :
  Inv (yN CX P w K mg base N qual scope f cd A outer s H E) [] (eB N vs) H s1:=by
 have hpl:ps.length<=N.length:=by have:=TQ List.length S.pre;rw[Vx] at this;lia
 obtain⟨h1,tk,rfl,hk⟩:=x.done;have noA:∀b:Addr,b∉(yN CX P w K mg base N qual scope f cd A outer s H E).ex:=fun b z=>absurd (show b∈([]:List Addr) from z) (by simp);refine⟨⟨e0.mod,S.kind,rfl,rfl,Tw _,fun y z c h1 h2=>?_,fun y hy=>?_,fun y c _ h=>?_,fun _=>hd,Around.frames_deeper e0.frames,.inr ⟨rfl,rfl⟩,fun b z=>absurd z (noA b),e0.bs,e0.bsz,fun b _ _=>noA b,fun b z=>absurd z (noA b),e0.funs,e0.frf⟩,
  rfl,e0.bare,Un.kept hk,⟨_,x.toInCall.ns,fun i y v h1 h2 h3=>?_⟩,fun y c h=>⟨_,x.cell y c h⟩,e0.hok.fresh (Tw _),fun y c h=>?_,fun p hp=>absurd (show p∈([]:List (Addr×Obj)) from hp) (by simp),e0.hok.kept hk,?_⟩
 ·exact name_of_addr x.apart (Vj h1) (Vj h2)
 ·have hy:scope.names.lookup y=some .cell\/scope.names.lookup y=some .free:=hy;rcases hy with hy|hy
  ·exact Ap hy
  ·exact absurd rfl (S.nofree _ (Vj hy))
 ·exact Uv (x.above y c (Vj h))
 ·have hi:i<vs.length:=by
   unfold eB at h2;by_cases hi:i<vs.length
   ·exact hi
   ·rw[Vk (by simpa using hi)] at h2;rw[List.getElem?_replicate] at h2;split at h2<;>cases h2
  have ha:vs[i]?=some v:=by
   unfold eB at h2;rw[Vy (by simpa using hi),TW] at h2;cases e:vs[i]? with
   |none=>rw[e] at h2;cases h2
   |some a=>rw[e] at h2;cases h2;rfl
  obtain⟨u,hu,rv⟩:=r.get ha;have hp:ps[i]?=some y:=by rw[<- S.pre,List.getElem?_take_of_lt (by lia)];exact h1
  have ndP:ps.Nodup:=by rw[<- S.pre];exact S.nd.sublist (List.take_sublist _ _)
  refine⟨u,rv,?_⟩;rcases S.par y (Vl hp) with k|k
  ·exact .inl ⟨k,xn ndP hp hu k⟩
  ·obtain⟨c,e⟩:=Ap (n:=s.heap.objs.size+1) k;refine .inr ⟨.inl k,c,e,?_⟩;have q:=x.cell y c e;rw[xj ndP hp hu (by show scope.names.lookup y≠_;rw[k];decide)] at q;exact q
 ·exact e0.hok.fresh (Uv (x.above y c (Vj h)))
 ·unfold eB;show _=N.length;rw[Tu,Tt,Wb];lia
theorem LQ {CX:CXT}{P:Program}{w:World}{K:W.Frag}{mg:Str->Option Value}{base:Heap}{k:Nat}{f:Addr}{name qual:Str}{params:Arguments}{body:List Stmt}{scope:Scope}{dV kV doc pm cdv ct oc:Value}{an od:Option Addr}
  {osl:Array (Option Value)} {N ps:List Str} {sp:Sp} (lk:K.lookup f=some ⟨oc,od,.func (W.fnOf name qual params body scope dV kV doc pm an cdv ct),osl⟩) (hcd:W.codeIn K cdv qual=true) (S:FnScope N ps scope)
  (len:∀vs H Q E,sp vs H Q E->vs.length=ps.length)
  (hbody:∀(A:Around) (outer:List Env) (s:Shared) (H:Hp) (vs:List V) (Q:VK) (E:XK),Room k (A.deeper (envOfC qual scope s.heap.objs.size f cdv))->sp vs H Q E ->
   ∃t,PSs (yN CX P w K mg base N qual scope f cdv A outer s H E) body t/\t { nx:=fun _ H'=>Q .non H',rt:=Q } (eB N vs) H) :
  FnOk P w K mg base CX (k+1) f (W.fnOf name qual params body scope dV kV doc pm an cdv ct) ps sp:=by
 refine⟨len,fun A outer s H args us vs Q E hr e0 hb r hsp=>?_⟩;have hl:=len _ _ _ _ hsp;have KX:K.In s.heap:=e0.mod.kin.keeps fun b o e=>(e0.bs b o e).1;have lim:s.heap.NoLimit:=e0.mod.nolimit.keeps fun b o e=>(e0.bs b o e).1;have hkind:∀y∈ps.zip us,scope.names.lookup y.1=some .local\/(scope.names.lookup y.1=some .cell/\((cellsFrom (s.heap.objs.size+1) scope.names []).lookup y.1).isSome=true):=fun hpt0 hy=>by
  obtain⟨n,v⟩:=hpt0;rcases S.par n (List.of_mem_zip hy).1 with q|q
  ·exact .inl q
  ·exact .inr ⟨q,W.cellsFrom_some _ _ _ (.inl q)⟩
 refine codeAny_call_function hr.depth (KX _ _ lk) rfl S.co S.gen rfl (W.codeRec_of KX hcd) (hb _ _ _ _ ?_);refine wpAny_newFunctionEnv_cells S.kind hkind fun env he s1 x=>?_;subst he;refine⟨lim.keeps x.toInCall.keep,codeAny_func ?_⟩;obtain⟨t,ht,hq⟩:=hbody A outer s H vs Q E (hr.deeper _) hsp;have I:Inv (yN CX P w K mg base N qual scope f cdv A outer s H E) [] (eB N vs) H s1:=Fj S hr.hd e0 hl r x;refine Uq (ht [] s1 (eB N vs) H _ I hq) (fun fl s' hs=>?_) fun e s' hs=>hs;have fin:∀ {σ':St} {H':Hp} {v:V} {u:Value},Inv (yN CX P w K mg base N qual scope f cdv A outer s H E) [] σ' H' s'->RelV v u->Q v H'->CE outer P w H s Q u s':=
  fun {σ' H' v u} J rv q=>⟨v,H',J.os,J.bare,J.base,J.hok,rv,q⟩
 cases fl with
 |ret u=>
  obtain⟨v,σ',H',J,rv,q⟩:=hs;exact fin J rv q
 |next=>
  obtain⟨σ',H',J,q⟩:=hs;exact fin (v:=V.non) (u:=Value.none) J rfl q
 |brk=>
  obtain⟨_,_,_,q⟩:=hs;exact False.elim q
 |cont=>obtain⟨_,_,_,q⟩:=hs;exact False.elim q
section
variable {X:Cx}{x:Str}{p pos:Pos}{e:Expr}{es:List Expr}{t:TA}{id T:String}{r:List V->Hp->VK->Prop}
noncomputable def tCB (r:List V->Hp->VK->Prop)(t:TA):TE:=fun σ H Q=>t σ H fun vs H1=>r vs H1 Q
theorem bq (hc:CallR X (.builtin id) r)(hg:Gl X x)(hm:X.mg x=none)(hv:bootBuiltins x=some (.builtin id))(ha:PA X (e::es) t)(hn:x ≠ "__name__" := by decide) (hdb:(x==("__debug__" : Str))=false:=by decide)
  (he:starEach (e::es) X.env=(false,eval e X.env)::starEach es X.env:=by rfl) (hpl:(backTo pos (starEach es X.env)).any (·.1)=false:=by rfl):PE X (.Call (.Name x p) (e::es) [] pos) (tCB r t):=by
 intro pins s σ H Q I h;refine Vw (j7 I hg hm hv ?_ hn hdb);exact PyProof.Rows.callWith_builtin1 (thn (ha pos pins s σ H _ I h) fun us s1 ⟨vs,H1,I1,r1,q1⟩=>hc pins s1 σ H1 vs us Q I1 r1 q1) he hpl
theorem dZ (hc:CallR X (.type T) r)(hg:Gl X x)(hm:X.mg x=none)(hv:bootBuiltins x=some (.type T))(ha:PA X (e::es) t)(hn:x ≠ "__name__" := by decide) (hdb:(x==("__debug__" : Str))=false:=by decide)
  (he:starEach (e::es) X.env=(false,eval e X.env)::starEach es X.env:=by rfl) (hpl:(backTo pos (starEach es X.env)).any (·.1)=false:=by rfl):PE X (.Call (.Name x p) (e::es) [] pos) (tCB r t):=by
 intro pins s σ H Q I h;refine Vw (j7 I hg hm hv ?_ hn hdb);exact Vi (thn (ha pos pins s σ H _ I h) fun us s1 ⟨vs,H1,I1,r1,q1⟩=>hc pins s1 σ H1 vs us Q I1 r1 q1) he hpl
end
end L2
namespace HT
open PySem PyProof.Rows
noncomputable def b7:List Int->List Int->Bool
 |[],[]=>false
 |[],_::_=>true
 |_::_,[]=>false
 |x::xs,y::ys=>if x=y then b7 xs ys else decide (x<y)
theorem CJ (x y:Int)(xs ys:List Int):b7 (x::xs) (y::ys)=if x=y then b7 xs ys else decide (x<y):=rfl
section
open PySem.SeqAt
open PySem.AutoSeq1 (wpAny_loadPart')
open PySem.MeetsSeq PySem.MeetsSeq2 PySem.MeetsSeq3
end
section
variable {prog:Program}{w:World}{A:Around}{E:Value->Shared->Prop}{s:Shared}
theorem Kg  {vs ws:List Value}{Q:Value->Shared->Prop}(ht:IsTup s.heap t vs.toArray)(hb:IsTup s.heap b ws.toArray)(hv:vs≠[])
  (h1:ws=[]->Q (.ref t) s) (h2:ws≠[]->Q (.ref s.heap.objs.size) { s with heap:=s.heap.push { cls:=.type "tuple",data:=.seq (vs++ws).toArray } })
  (hsz:vs.length+ws.length<=sizeLine):wpAny (model prog w) A (binaryOp .Add (.ref t) (.ref b)) Q E s:=by
 obtain⟨⟨cls,dd,data,sl⟩,ho,hc,n,hd⟩:=id ht;obtain⟨⟨cls2,dd2,data2,sl2⟩,ho2,hc2,n2,hd2⟩:=id hb;simp only at hc hd hc2 hd2;subst hc hd hc2 hd2;have e:vs.toArray++ws.toArray=(vs++ws).toArray:=by simp
 by_cases hw:ws=[]
 ·exact concat_meets ⟨_,ho,rfl⟩ ⟨_,ho2,rfl⟩ noFill_tuple_add seq_tuple_add Wq Wr (Ws _ _)
   (tuple_addW1 t b vs.toArray ws.toArray n n2 dd dd2 sl sl2 (by simpa using hv) (by simp[hw])) ⟨ho,ho2,h1 hw⟩
 ·refine concat_meets ⟨_,ho,rfl⟩ ⟨_,ho2,rfl⟩ noFill_tuple_add seq_tuple_add Wq Wr (Ws _ _)
   (tuple_addW2 t b vs.toArray ws.toArray n n2 dd dd2 sl sl2 (by simpa using hv) (by simpa using hw) (by rw[TV,TV];exact hsz)) ⟨ho,ho2,?_⟩
  rw[e];exact h2 hw
noncomputable def sIx (n d:Nat):Option Int->Nat
 |none=>d
 |some v=>if v<0 then (v+(n:Int)).toNat else min v.toNat n
theorem NG (n d:Nat)(hd:d<=n)(o:Option Int):sIx n d o<=n:=by
 cases o with
 |none=>exact hd
 |some v=>
  show (if v<0 then (v+(n:Int)).toNat else min v.toNat n)<=n;by_cases hv:v<0
  ·rw[Tn hv];lia
  ·rw[To hv];exact Nat.min_le_right _ _
theorem DB (v:Int)(n d:Nat):(if v<0 then max (v+(n:Int)) 0 else min v (n:Int))=((sIx n d (some v):Nat):Int):=by
 show (if v<0 then max (v+(n:Int)) 0 else min v (n:Int))=(((if v<0 then (v+(n:Int)).toNat else min v.toNat n):Nat):Int)
 by_cases hv:v<0
 ·simp only[Tn hv];lia
 ·simp only[To hv];lia
theorem B8 (lo hi:Option Int)(n:Nat):Builtin.Slice.sliceAdjust lo hi 1 (n:Int)=(((sIx n 0 lo:Nat):Int),((sIx n n hi:Nat):Int)):=by
 have h1:¬((1:Int)<0):=by lia
 unfold Builtin.Slice.sliceAdjust;simp only[h1,UT];refine US ?_ ?_
 ·cases lo with
  |none=>rfl
  |some v=>exact DB v n 0
 ·cases hi with
  |none=>rfl
  |some v=>exact DB v n n
theorem C3 (i j:Nat):Builtin.Slice.slicePlaces (i:Int) (j:Int) 1=j-i:=by
 unfold Builtin.Slice.slicePlaces;have h1:(1:Int) > 0:=by lia
 simp only[h1,U8,Int.ediv_one];split<;>lia
theorem vE   {Q:Option Int->Shared->Prop}(p:IsPart v o)(h:Q o s):wpAny (model prog w) A (Builtin.Slice.slicePartIndex v) Q E s:=by
 cases p with
 |none=>exact slicePart_none h
 |int i t=>exact slicePart_int h
theorem jS   {lo hi:Option Int}{n:Nat}{Q:Int×Int×Nat->Shared->Prop}(hs:s.heap.IsSliceOf sl vl vu .none)(pl:IsPart vl lo)(pu:IsPart vu hi)
  (h:Q (((sIx n 0 lo:Nat):Int),1,sIx n n hi-sIx n 0 lo) s):wpAny (model prog w) A (Builtin.Slice.sliceApplied (.ref sl) (pure (n:Int))) Q E s:=by
 obtain⟨os,hos,hcs,hds⟩:=id hs;unfold Builtin.Slice.sliceApplied Builtin.Slice.sliceFields;refine Tp (Tp (U9 hos hds (x:=vl) rfl (Tp (U9 hos hds (x:=vu) rfl (Tp (U9 hos hds (x:=.none) rfl (Tv ?_)))))));refine Tp (slicePart_none ?_);show wpAny _ _ (if ((1:Int)==0)=true then _ else _) _ _ s;rw[To (by decide)];refine Tp (vE pl (Tp (vE pu (Tp (Tv ?_)))));show wpAny _ _ (match Builtin.Slice.sliceAdjust lo hi 1 (n:Int) with|(lo,hi)=>pure (lo,(1:Int),Builtin.Slice.slicePlaces lo hi 1)) _ _ s;rw[B8 lo hi n];show wpAny _ _ (pure (((sIx n 0 lo:Nat):Int),(1:Int),Builtin.Slice.slicePlaces ((sIx n 0 lo:Nat):Int) ((sIx n n hi:Nat):Int) 1)) _ _ s;rw[C3];exact Tv h
theorem IH (xs:Array Value)(i k:Nat):((List.range k).filterMap fun (m:Nat)=>xs[((i:Int)+(m:Int) * 1).toNat]?).toArray=((xs.toList.drop i).take k).toArray:=by
 have e:(fun (m:Nat)=>xs[((i:Int)+(m:Int) * 1).toNat]?)=fun m=>xs[i+m]?:=by
  funext m
  have:((i:Int)+(m:Int) * 1).toNat=i+m:=by lia
  rw[this]
 rw[e];have:=pick_run xs i k;rw[List.filterMap_map] at this;have e2:((fun x=>xs[x]?)∘fun x=>i+x)=fun m=>xs[i+m]?:=rfl;rw[e2] at this;rw[this]
theorem pd    {lo hi:Option Int}{Q:Value->Shared->Prop}(ht:IsTup s.heap t items)(hs:s.heap.IsSliceOf sl vl vu .none)(pl:IsPart vl lo)(pu:IsPart vu hi)
  (hw:¬(sIx items.size 0 lo=0/\sIx items.size items.size hi=items.size))
  (h:Q (.ref s.heap.objs.size) { s with heap:=s.heap.push { cls:=.type "tuple",data:=.seq ((items.toList.drop (sIx items.size 0 lo)).take (sIx items.size items.size hi-sIx items.size 0 lo)).toArray } })
  (hsz:items.size<=sizeLine):wpAny (model prog w) A (getItem (.ref t) (.ref sl)) Q E s:=by
 have htake:sizeOk (.seq ((items.toList.drop (sIx items.size 0 lo)).take (sIx items.size items.size hi-sIx items.size 0 lo)).toArray):=by show ((items.toList.drop (sIx items.size 0 lo)).take (sIx items.size items.size hi-sIx items.size 0 lo)).toArray.size<=sizeLine;rw[TV,Vx,List.length_drop,Ui];omega
 have hj:sIx items.size items.size hi<=items.size:=NG _ _ (Tw _) hi;obtain⟨os,hos,hcs,hds⟩:=id hs;have hTs:s.TypeIs (.ref sl) "slice" := ⟨os,hos,hcs⟩
 unfold getItem;try with_reducible refine UL ?_
 first|refine Tp (Tv ?_)|skip
 refine Tp (wpAny_sequenceKey ht.typeIs (by decide) ?_)
 refine Tp (Vm (name:=Str.ofString "__getitem__") ht.typeIs Vz
  (UU Vz ht.typeIs entry_tuple_getitem ?_ (args_tuple_getitem _ _)))
 show wpAny _ _ (Builtin.Tuple.tupleItemsOf (.ref t) >>= _) _ _ s;refine Tp (tupleItemsOf_ ht ?_);refine Tp (wpAny_typeOf hTs ?_);rw[Tn (by decide)];refine Tp (jS hs pl pu ?_);have hno:¬((((sIx items.size 0 lo:Nat):Int)==0&&(1:Int)==1&&(sIx items.size items.size hi-sIx items.size 0 lo)==items.size)=true):=by intro q;rw[Ul,Ul] at q;have q1:((sIx items.size 0 lo:Nat):Int)=0:=eq_of_beq q.1.1;have q2:sIx items.size items.size hi-sIx items.size 0 lo=items.size:=eq_of_beq q.2;exact hw ⟨by omega,by omega⟩
 show wpAny _ _ (if (((sIx items.size 0 lo:Nat):Int)==0&&(1:Int)==1&&(sIx items.size items.size hi-sIx items.size 0 lo)==items.size)=true then _ else _) _ _ s;rw[To hno,IH]
 first
  |exact Tp (m:=Builtin.Tuple.tupleExact _) (Ut (Tv ⟨_,rfl,Tv h⟩) htake)
  |exact Tp (m:=Builtin.Tuple.tupleExact _) (Ut (Tp (Tv (Tv ⟨_,rfl,Tv h⟩))) htake)
  |exact Tp (Tp (m:=Builtin.Tuple.tupleExact _) (Ut (Tv (Tv ⟨_,rfl,Tv h⟩)) htake))
  |exact Tp (Tp (m:=Builtin.Tuple.tupleExact _) (Ut (Tv ⟨_,rfl,Tv h⟩) htake))
end
end HT
namespace L2
open PySem PySem.Spec PyProof.Rows
noncomputable abbrev TO:=St->Hp->(Option Int->Hp->Prop)->Prop
def PO (X:Cx)(e:Option Expr)(t:TO):Prop:=
 ∀(pins:List (Addr×Obj)) (s:Shared) (σ:St) (H:Hp) (Q:Option Int->Hp->Prop),Inv X pins σ H s->t σ H Q ->
  wpAny (model X.prog X.w) X.A (evalPart e X.env) (fun u s'=>∃o H',Inv X pins σ H' s'/\IsPart u o/\Q o H') X.xe s
noncomputable def zO:TO:=fun _ H Q=>Q none H
noncomputable def JI (t:TE):TO:=fun σ H Q=>t σ H fun x H1=>∃i,x = .int i/\Q (some i) H1
theorem iE {ns:List Int}:∀ {us:List Value},Vals (ns.map V.int) us->IntsAre us ns:=by
 induction ns with
 |nil=>intro us r;rw[VA] at r;cases r;exact .nil
 |cons n ns ih=>
  intro us r;rw[TF] at r;cases r with
  |cons r1 r2=>obtain⟨t,e⟩:=r1;subst e;exact .cons n t (ih r2)
section
variable {X:Cx}{e:Expr}{te:TE}{lo hi:Option Expr}{tl th:TO}{pos p2:Pos}
theorem K7:PO X none zO:=by intro pins s σ H Q I h;rw[evalPart_none];exact Tv ⟨none,H,I,.none,h⟩
theorem K8 (h:PE X e te):PO X (some e) (JI te):=by intro pins s σ H Q I hw;rw[evalPart_some];refine thn (h pins s σ H _ I hw) fun u s1 hpt9=>?_;obtain⟨x,H1,I1,r1,q1⟩:=hpt9;obtain⟨i,rfl,q⟩:=q1;obtain⟨t,rfl⟩:=r1;exact⟨some i,H1,I1,.int i t,q⟩
def SlR (X:Cx)(r:V->Option Int->Option Int->Hp->VK->Prop):Prop:=
 ∀(pins:List (Addr×Obj)) (s:Shared) (σ:St) (H:Hp) (x:V) (v vl vu:Value) (lo hi:Option Int) (sl:Addr) (Q:VK),Inv X pins σ H s->RelV x v->s.heap.IsSliceOf sl vl vu .none->IsPart vl lo->IsPart vu hi->r x lo hi H Q ->
  ∃T id,typeLookup (.type T) "__getitem__" = pure (some (.builtin id))/\s.TypeIs v T/\wpAny (model X.prog X.w) X.A (getItem v (.ref sl)) (EP X pins σ Q) X.xe s
theorem SlR.or  (h:SlR X r)(h':SlR X r'):SlR X (fun x lo hi H Q=>r x lo hi H Q\/r' x lo hi H Q):=by
 intro pins s σ H x v vl vu lo hi sl Q I rx hs pl pu q;rcases q with q|q
 ·exact h pins s σ H x v vl vu lo hi sl Q I rx hs pl pu q
 ·exact h' pins s σ H x v vl vu lo hi sl Q I rx hs pl pu q
noncomputable def tSl (r:V->Option Int->Option Int->Hp->VK->Prop)(te:TE)(tl th:TO):TE:=fun σ H Q=>te σ H fun x H1=>tl σ H1 fun l H2=>th σ H2 fun u H3=>r x l u H3 Q
theorem IB  (hr:SlR X r)(he:PE X e te)(hl:PO X lo tl)(hu:PO X hi th):PE X (.Subscript e (.Slice lo hi none p2) pos) (tSl r te tl th):=by intro pins s σ H Q I h;refine Subscript_ (thn (he pins s σ H _ I h) fun v s1 hpt9=>?_);obtain⟨x,H1,I1,r1,q1⟩:=hpt9;refine wpAny_Slice (thn (hl pins s1 σ H1 _ I1 q1) fun vl s2 ⟨l,H2,I2,pl,q2⟩=>thn (hu pins s2 σ H2 _ I2 q2) fun vu s3 hpt9=>?_);obtain⟨u,H3,I3,pu,q3⟩:=hpt9;rw[evalPart_none];refine Tv ?_;have I4:Inv X pins σ H3 { s3 with heap:=s3.heap.push { cls:=.type "slice",data:=.fields #[vl,vu,.none] } }:=I3.kept (t':=s3.toks) fun b ob q=>TK _ q;obtain⟨T,id,hT,ht,hg⟩:=hr pins { s3 with heap:=s3.heap.push { cls:=.type "slice",data:=.fields #[vl,vu,.none] } } σ H3 x v vl vu l u s3.heap.objs.size Q I4 r1 (Heap.IsSliceOf.new ..) pl pu q3;show wpAny (model X.prog X.w) X.A (subscriptTail e (.Slice lo hi none p2) v (.ref s3.heap.objs.size)) (EP X pins σ Q) X.xe { s3 with heap:=s3.heap.push { cls:=.type "slice",data:=.fields #[vl,vu,.none] } };exact tail_any (ops:=[.ref s3.heap.objs.size,v]) ht hT hg (by with_unfolding_all rfl)
noncomputable def nw (xs:List V)(lo hi:Option Int):List V:=(xs.drop (HT.sIx xs.length 0 lo)).take (HT.sIx xs.length xs.length hi-HT.sIx xs.length 0 lo)
theorem rT (xs:List V)(lo hi:Option Int):(nw xs lo hi).length<=xs.length:=by unfold nw;rw[Vx,List.length_drop];lia
noncomputable def QT (K:W.Frag):V->Option Int->Option Int->Hp->VK->Prop:=fun x lo hi H Q=>∃a xs,x = .ref a/\SqT K H a xs /\
 ¬(HT.sIx xs.length 0 lo=0/\HT.sIx xs.length xs.length hi=xs.length)/\∀p,H p=none->Q (.ref p) (upd H p (.tup (nw xs lo hi)))
theorem Oa:SlR X (QT X.K):=by
 intro pins s σ H x v vl vu lo hi sl Q I rx hs pl pu h;obtain⟨a,xs,rfl,hx,hw,q⟩:=h;cases rx;obtain⟨its,r,ht,hz⟩:=I.tuple hx;have hlen:its.toArray.size=xs.length:=by rw[TV];exact r.length.symm
 refine⟨"tuple",_,Vz.lookup,ht.typeIs,?_⟩;refine HT.pd ht hs pl pu (by rw[hlen];exact hw) ?_ (by rw[hlen];exact hz);rw[hlen];refine⟨.ref s.heap.objs.size,_,I.laid (t':=s.toks) (o:=.tup (nw xs lo hi)) (fun b ob q=>TK _ q) (Tw _) ?_,rfl,q _ (I.hok.fresh (Tw _))⟩;exact⟨T1 (rT xs lo hi) hz,_,(r.drop (HT.sIx xs.length 0 lo)).take (HT.sIx xs.length xs.length hi-HT.sIx xs.length 0 lo),IsTup.new _ _⟩
theorem Vals.nil_iff {xs:List V}  (r:Vals xs us):us=[]↔xs=[]:=by
 cases r with
 |nil=>simp
 |cons _ _=>simp
end
noncomputable def ixN (n:Nat)(i:Int):Option Nat:=if 0<=i then (if i<n then some i.toNat else none) else if -(n:Int)<=i then some (i+n).toNat else none
noncomputable def atI {α:Type}(xs:List α)(i:Int):Option α:=(ixN xs.length i).bind fun j=>xs[j]?
theorem DS {n:Nat}{i:Int}{j:Nat}(h:ixN n i=some j):seqIndex? i n=some j/\j<n /\ -(n:Int)<=i/\i<n:=by
 unfold ixN at h;by_cases h0:0<=i
 ·rw[Tn h0] at h;by_cases h1:i<n
  ·rw[Tn h1] at h;have e:i.toNat=j:=T6 h;exact⟨by rw[seqIndex_of h0 h1,e],by lia,by lia,h1⟩
  ·rw[To h1] at h;cases h
 ·rw[To h0] at h;by_cases h1:-(n:Int)<=i
  ·rw[Tn h1] at h;have e:(i+n).toNat=j:=T6 h;exact⟨by rw[seqIndex_neg (by lia) h1,e],by lia,h1,by lia⟩
  ·rw[To h1] at h;cases h
theorem yK {α:Type}{xs:List α}{i:Int}{v:α}(h:atI xs i=some v):∃j,seqIndex? i xs.length=some j/\xs[j]?=some v/\j<xs.length /\ -(xs.length:Int)<=i/\i<xs.length:=by
 unfold atI at h;cases e:ixN xs.length i with
 |none=>rw[e] at h;cases h
 |some j=>rw[e] at h;obtain⟨h1,h2,h3,h4⟩:=DS e;exact⟨j,h1,h,h2,h3,h4⟩
def Dt (b:Expr):Prop:=∀o i,subscripted b false o i=operate [o,i] (getItem o i)
def IxR (X:Cx)(r:R2):Prop:=
 ∀(value slice:Expr) (pins:List (Addr×Obj)) (s:Shared) (σ:St) (H:Hp) (x y:V) (v u:Value) (Q:VK),Inv X pins σ H s->RelV x v->RelV y u->r x y H Q ->
  subscripted slice false v u=operate [v,u] (getItem v u)->wpAny (model X.prog X.w) X.A (subscriptTail value slice v u) (EP X pins σ Q) X.xe s
def MtR (X:Cx)(id:String)(r:V->List V->Hp->VK->Prop):Prop:=
 ∀(pins:List (Addr×Obj)) (s:Shared) (σ:St) (H:Hp) (x:V) (xs:List V) (v:Value) (us:List Value) (Q:VK),Inv X pins σ H s->RelV x v->Vals xs us->r x xs H Q ->
  wpAny (model X.prog X.w) X.A (call (.builtin id) (v::us)) (EP X pins σ Q) X.xe s
section
variable {X:Cx}{a b:Expr}{ta tb:TE}{pos:Pos}
theorem IxR.or  (h:IxR X r)(h':IxR X r'):IxR X (fun x y H Q=>r x y H Q\/r' x y H Q):=by
 intro value slice pins s σ H x y v u Q I rx ry q hs;rcases q with q|q
 ·exact h value slice pins s σ H x y v u Q I rx ry q hs
 ·exact h' value slice pins s σ H x y v u Q I rx ry q hs
theorem Pg  (hr:IxR X r)(ha:PE X a ta)(hb:PE X b tb)(hs:Dt b):PE X (.Subscript a b pos) (tOp r ta tb):=by intro pins s σ H Q I h;exact Subscript_ (Mz ha hb I h fun v u s2 x y H2 I2 rx ry q=>hr a b pins s2 σ H2 x y v u Q I2 rx ry q (hs _ _))
noncomputable def Ps (K:W.Frag):R2:=fun x y H Q=>∃p xs i v,x = .ref p/\y = .int i/\SqL K H p xs/\atI xs i=some v/\Q v H
noncomputable def Pu (K:W.Frag):R2:=fun x y H Q=>∃p xs i v,x = .ref p/\y = .int i/\SqT K H p xs/\atI xs i=some v/\Q v H
noncomputable def Pt:R2:=fun x y H Q=>∃z i c,x = .str z/\y = .int i/\z.length<=sizeLine/\atI z.cps.toList i=some c/\Q (.str ⟨#[c]⟩) H
theorem ix_list:IxR X (Ps X.K):=by
 intro value slice pins s σ H x y v u Q I rx ry h hs;obtain⟨p,xs,i,z,rfl,rfl,hq,he,q⟩:=h;cases rx;obtain⟨t,rfl⟩:=ry;obtain⟨its,r,pl,hz⟩:=I.list hq;obtain⟨j,h1,h2,h3,h4,h5⟩:=yK he;obtain⟨w,ew,rw'⟩:=r.get h2;have hl:=r.length;have hn:=nN;have fin:EP X pins σ Q w s:=⟨z,H,I,rw',q⟩
 by_cases h0:0<=i
 ·have hj:i.toNat=j:=by
   rw[seqIndex_of h0 h5] at h1;exact T6 h1
  exact item_listR pl.isList h0 (by lia) (by rw[hj];simpa using ew) fin hs
 ·have hj:(i+(its.toArray.size:Int)).toNat=j:=by
   rw[seqIndex_neg (by lia) h4] at h1;rw[TV,<- hl];exact T6 h1
  exact subscriptTail_builtinR (x:=w) pl.isList.typeIs slot_list_getitem.lookup
   (wpAny_getItem_list_neg (Q:=fun r s'=>r=w/\EP X pins σ Q r s') pl.isList (by lia) (by rw[TV]<;>lia) (by lia) (by rw[hj];simpa using ew) ⟨rfl,fin⟩) hs
theorem ix_tup:IxR X (Pu X.K):=by
 intro value slice pins s σ H x y v u Q I rx ry h hs;obtain⟨p,xs,i,z,rfl,rfl,hq,he,q⟩:=h;cases rx;obtain⟨t,rfl⟩:=ry;obtain⟨its,r,pl,hz⟩:=I.tuple hq;obtain⟨j,h1,h2,h3,h4,h5⟩:=yK he;obtain⟨w,ew,rw'⟩:=r.get h2;have hl:=r.length;have hn:=nN;have fin:EP X pins σ Q w s:=⟨z,H,I,rw',q⟩
 exact subscriptTail_builtinR (x:=w) pl.typeIs slot_tuple_getitem.lookup
  (getItem_tuple (j:=j) (Q:=fun r s'=>r=w/\EP X pins σ Q r s') pl (by lia) (by lia) (by rw[TV,<- hl];exact h1) (by simpa using ew) ⟨rfl,fin⟩) hs
theorem MX:IxR X Pt:=by
 intro value slice pins s σ H x y v u Q I rx ry h hs;obtain⟨z,i,c,rfl,rfl,hz,he,q⟩:=h;obtain⟨t,rfl⟩:=rx;obtain⟨t',rfl⟩:=ry;obtain⟨j,h1,h2,h3,h4,h5⟩:=yK he;have hl:z.cps.toList.length=z.length:=by simp[Str.length]
 rw[hl] at h1 h4 h5;have hn:=nN;exact tail_any (typeIs_str s z t) slot_str_getitem.lookup (getItem_str (c:=c) (by
  have e1:decide (i < -(2 ^ 63:Int))=false:=T5 (by lia);have e2:decide (i ≥ 2 ^ 63)=false:=T5 (by lia)
  rw[e1,e2,Bool.or_false]) (by rw[h1];simpa using h2) ⟨.str ⟨#[c]⟩,H,I.tok _,⟨_,rfl⟩,q⟩) hs
noncomputable def rIx (K:W.Frag):R2:=fun x y H Q=>Ps K x y H Q\/Pu K x y H Q\/Pt x y H Q
theorem MW:IxR X (rIx X.K):=ix_list.or (ix_tup.or MX)
theorem CN (its:List Value)(n j:Nat)(u:Value):Obj.mapSeq (·.setIfInBounds j u) { cls:=.type "list",data:=.seq its.toArray n }={ cls:=.type "list",data:=.seq (its.set j u).toArray n }:=by simp[Obj.mapSeq]
theorem Inv.lst {pins:List (Addr×Obj)}{σ:St}{H:Hp}{s:Shared}{p:Addr}{xs:List V}(I:Inv X pins σ H s)(h:H p=some (.lst xs)) :
  ∃(its:List Value) (n:Nat),Vals xs its/\s.heap.get? p=some { cls:=.type "list",data:=.seq its.toArray n }/\xs.length<=sizeLine:=by
 obtain⟨z,its,n,r,e⟩:=I.hok p _ h;exact⟨its,n,r,e,z⟩
theorem Inv.lstUpd {pins:List (Addr×Obj)}    {p:Addr}{xs ys:List V}{its its':List Value}{n n':Nat}{f:Obj->Obj}(I:Inv X pins σ H s)(h:H p=some (.lst xs))
  (ho:s.heap.get? p=some { cls:=.type "list",data:=.seq its.toArray n }) (hf:f { cls:=.type "list",data:=.seq its.toArray n }={ cls:=.type "list",data:=.seq its'.toArray n' }) (r:Vals ys its') (hz:ys.length<=sizeLine) (t:Nat) :
  Inv X pins σ (upd H p (.lst ys)) { s with heap:=s.heap.update p f,toks:=t }:=by
 have e:(s.heap.update p f).get? p=some { cls:=.type "list",data:=.seq its'.toArray n' }:=by rw[VO f ho (by rw[hf]<;>rfl),hf]
 refine I.write (x:=p) (e:=p) (by rw[h];trivial) (.inl rfl) (fun b u hb q=>(Wt _ _ (T9 hb)).trans q) ⟨_,e⟩ ?_;exact⟨hz,its',n',r,e⟩
noncomputable def I0:V->V->V->Hp->(Hp->Prop)->Prop:=fun o i v H Q=>∃p xs k j,o = .ref p/\i = .int k/\H p=some (.lst xs)/\ixN xs.length k=some j/\Q (upd H p (.lst (xs.set j v)))
theorem Jq:Mm X I0:=by
 intro pins s σ H o i v ov iv u Q I ro ri rv h;obtain⟨p,xs,k,j,rfl,rfl,hp,hj,q⟩:=h;cases ro;obtain⟨t,rfl⟩:=ri;obtain⟨its,n,r,ho,hz⟩:=I.lst hp;obtain⟨h1,h2,h3,h4⟩:=DS hj;have hl:=r.length;have hn:=nN;have I':Inv X pins σ (upd H p (.lst (xs.set j v))) { s with heap:=s.heap.update p (Obj.mapSeq (·.setIfInBounds j u)) }:=
  I.lstUpd hp ho (CN its n j u) (r.set rv j) (by rw[UV];exact hz) s.toks
 by_cases h0:0<=k
 ·have hk:k.toNat=j:=by
   rw[seqIndex_of h0 h4] at h1;exact T6 h1
  exact W.ki_setAt ho h0 (by lia) (by rw[TV,<- hl];exact h4) (by rw[hk];exact⟨_,I',q⟩)
 ·have hk:(k+(its.toArray.size:Int)).toNat=j:=by
   rw[seqIndex_neg (by lia) h3] at h1;rw[TV,<- hl];exact T6 h1
  exact W.ki_setBack ho (by lia) (by rw[TV,<- hl];exact h3) (by lia) (by rw[hk];exact⟨_,I',q⟩)
theorem zE (lo hi:Option Int)(n:Nat):(sliceBounds lo hi none n).1=((HT.sIx n 0 lo:Nat):Int)/\(sliceBounds lo hi none n).2.1=((HT.sIx n n hi:Nat):Int)/\(sliceBounds lo hi none n).2.2=1:=by
 refine⟨?_,?_,rfl⟩
 ·cases lo with
  |none=>simp[sliceBounds,HT.sIx]
  |some i=>
   simp only[sliceBounds,HT.sIx,Option.getD_none,show (1:Int) > 0 by decide,U8];by_cases h:i<0
   ·simp only[h,U8]<;>lia
   ·simp only[h,UT]<;>lia
 ·cases hi with
  |none=>simp[sliceBounds,HT.sIx]
  |some i=>
   simp only[sliceBounds,HT.sIx,Option.getD_none,show (1:Int) > 0 by decide,U8];by_cases h:i<0
   ·simp only[h,U8]<;>lia
   ·simp only[h,UT]<;>lia
theorem wO (its:List Value)(lo hi:Option Int):slicePick its.toArray lo hi none=((its.drop (HT.sIx its.length 0 lo)).take (HT.sIx its.length its.length hi-HT.sIx its.length 0 lo)).toArray:=by obtain⟨h1,h2,h3⟩:=zE lo hi its.toArray.size;unfold slicePick;rw[h1,h2,h3];simp only[sliceRange_one,pick_run,TV]<;>rfl
noncomputable def Px (K:W.Frag):V->Option Int->Option Int->Hp->VK->Prop:=fun x lo hi H Q=>∃a xs,x = .ref a/\SqL K H a xs/\∀p,H p=none->Q (.ref p) (upd H p (.lst (nw xs lo hi)))
theorem Ln:SlR X (Px X.K):=by intro pins s σ H x v vl vu lo hi sl Q I rx hs pl pu h;obtain⟨a,xs,rfl,hx,q⟩:=h;cases rx;obtain⟨its,r,ht,hz⟩:=I.list hx;have hlen:=r.length;refine⟨"list",_,slot_list_getitem.lookup,ht.isList.typeIs,?_⟩;refine wpAny_getItem_list_slice ht.isList hs pl pu .none (by simp) ?_ (by rw[TV]<;>lia);rw[wO,<- hlen];refine⟨.ref s.heap.objs.size,_,I.laid (t':=s.toks) (o:=.lst (nw xs lo hi)) (fun b ob q=>TK _ q) (Tw _) ?_,rfl,q _ (I.hok.fresh (Tw _))⟩;exact⟨T1 (rT xs lo hi) hz,_,0,(r.drop (HT.sIx xs.length 0 lo)).take (HT.sIx xs.length xs.length hi-HT.sIx xs.length 0 lo),TZ _ rfl⟩
theorem CallR.or   (h:CallR X f r)(h':CallR X f r'):CallR X f (fun xs H Q=>r xs H Q\/r' xs H Q):=by
 intro pins s σ H xs us Q I rs q;rcases q with q|q
 ·exact h pins s σ H xs us Q I rs q
 ·exact h' pins s σ H xs us Q I rs q
theorem bA:CallR X (.type "tuple") (fun xs H Q=>∃p ys,xs=[.ref p]/\((SqL X.K H p ys/\∀l,H l=none->Q (.ref l) (upd H l (.tup ys)))\/(SqT X.K H p ys/\Q (.ref p) H))):=by
 intro pins s σ H xs us Q I r h;obtain⟨p,ys,rfl,h⟩:=h;obtain⟨u,rfl,rx⟩:=BZ r;cases rx;rcases h with ⟨hq,q⟩|⟨hq,q⟩
 ·obtain⟨its,r',pl,hz⟩:=I.list hq;have hlen:=r'.length;refine call_tuple_list pl.isList (fun h' kp=>?_) (by simp only[TV]<;>lia);have I1:Inv X pins σ H { s with heap:=h' }:=I.kept (t':=s.toks) kp;have I2:Inv X pins σ (upd H h'.objs.size (.tup ys)) { s with heap:=h'.push { cls:=.type "tuple",data:=.seq its.toArray } }:=
   I1.laid (t':=s.toks) (fun b o e=>TK _ e) (Tw _) (show ObjOk X.prog X.w _ _ _ (.tup ys) from ⟨hz,its,r',IsTup.new _ _⟩)
  exact⟨.ref h'.objs.size,_,I2,rfl,q _ (I1.hok.fresh (Tw _))⟩
 ·obtain⟨its,r',pl,hz⟩:=I.tuple hq;exact call_tuple_same pl ⟨.ref p,H,I,rfl,q⟩
def tyV (K:W.Frag)(T:String)(x:V)(H:Hp):Prop:=match x with
 |.str _=>T = "str"
 |.int _=>T = "int"
 |.ref p=>(T = "list" /\ ∃xs,SqL K H p xs)\/(T = "tuple" /\ ∃o,K.lookup p=some o/\o.cls = .type "tuple" /\ o.dict=none) \/
   (T = "dict" /\ ((∃kvs,H p=some (.dK kvs))\/∃kvs,H p=some (.dT kvs)))\/(T = "set" /\ ∃S n,H p=some (.set S n))
 |_=>False
theorem Oo {pins:List (Addr×Obj)}       (I:Inv X pins σ H s)(r:RelV x v)(ty:tyV X.K T x H) :
  s.TypeIs v T/\∀a,v = .ref a->∃ob,s.heap.get? a=some ob/\ob.dict=none:=by
 cases x with
 |str z=>
  obtain⟨t,rfl⟩:=r;cases (show T = "str" from ty);exact⟨typeIs_str s z t,fun _ e=>nomatch e⟩
 |int i=>
  obtain⟨t,rfl⟩:=r;cases (show T = "int" from ty);exact⟨typeIs_int s i t,fun _ e=>nomatch e⟩
 |ref p=>
  cases r;rcases ty with ⟨rfl,xs,hq⟩|⟨rfl,o,hk,hc,hd⟩|⟨rfl,hk⟩|⟨rfl,S,n,hk⟩
  ·obtain⟨its,_,pl,_⟩:=I.list hq;refine⟨pl.isList.typeIs,fun a e=>?_⟩;cases e;obtain⟨o,n,e,c,hd,_⟩:=pl;exact⟨o,e,hd⟩
  ·refine⟨⟨o,I.kIn p o hk,hc⟩,fun a e=>?_⟩;cases e;exact⟨o,I.kIn _ o hk,hd⟩
  ·have z:∃o,s.heap.get? p=some o/\o.ExactDict:=by
    rcases hk with ⟨kvs,hk⟩|⟨kvs,hk⟩
    ·obtain⟨_,_,_,_,o,_,_,e,ex,_⟩:=I.hok p _ hk;exact⟨o,e,ex⟩
    ·obtain⟨_,_,_,_,o,_,_,e,ex,_⟩:=I.hok p _ hk;exact⟨o,e,ex⟩
   obtain⟨o,e,ex⟩:=z;refine⟨⟨o,e,ex.1⟩,fun a e2=>?_⟩;cases e2;exact⟨o,e,ex.2.1⟩
  ·obtain⟨o,_,_,_,e,ex,_⟩:=I.hok p _ hk;refine⟨⟨o,e,ex.1⟩,fun a e2=>?_⟩;cases e2;exact⟨o,e,ex.2.1⟩
 |_=>exact False.elim ty
noncomputable def tBM (K:W.Frag)(T:String)(r:V->List V->Hp->VK->Prop)(to:TE)(t:TA):TE:=fun σ H Q=>to σ H fun x H1=>tyV K T x H1/\t σ H1 fun xs H2=>r x xs H2 Q
variable {o e:Expr}{es:List Expr}{to:TE}{t:TA}{name:Str}{apos cpos:Pos}{T id:String}{r:V->List V->Hp->VK->Prop}
theorem Iv (pa:PlainAttrs T)(slot:Slot T name id)(hty:typeOf (.builtin id)=pure (.type "method_descriptor")) (hm:MtR X id r) (ho:PE X o to) (ha:PA X (e::es) t)
  (hbase:attributeBase o name X.env (eval o X.env)=eval o X.env:=by rfl)
  (hfew:((backTo cpos (starEach (e::es) X.env)).all (fun x=>!x.1)&&(backToKw cpos (keywordEach [] X.env)).all (fun x=>x.1.isSome)
   && decide ((e::es).length+([]:List Keyword).length+(if ([]:List Keyword).isEmpty then 0 else 1)<30))=true:=by rfl)
  (hline:(apos.endLine==cpos.line)=true:=by rfl) (hs:starEach (e::es) X.env=(false,eval e X.env)::starEach es X.env:=by rfl) (hplain:(backTo cpos (starEach es X.env)).any (·.1)=false:=by rfl) :
  PE X (.Call (.Attribute o name apos) (e::es) [] cpos) (tBM X.K T r to t):=by
 intro pins s σ H Q I h;refine wpAny_Call_method_late hbase hfew hline rfl (thn (ho pins s σ H _ I h) fun v s1 hpt9=>?_);obtain⟨x,H1,I1,r1,ty,q1⟩:=hpt9;obtain⟨h1,h2⟩:=Oo I1 r1 ty;refine⟨T,id,pa,slot,hty,h1,h2,?_⟩;have hA:=ha cpos pins s1 σ H1 _ I1 q1;rw[hs] at hA ⊢;refine Calls.callWith_builtin (by show (false || (backTo cpos (starEach es X.env)).any (·.1))=false;rw[hplain]<;>rfl) (Calls.evalArgs_plain ?_);exact thn hA fun us s2 ⟨vs,H2,I2,r2,q2⟩=>hm pins s2 σ H2 x vs v us Q I2 r1 r2 q2
end
def MtM (X:Cx)(id:String)(r:V->List V->Hp->VK->Prop):Prop:=
 ∀(pins:List (Addr×Obj)) (s:Shared) (σ:St) (H:Hp) (x:V) (xs:List V) (v:Value) (us:List Value) (Q:VK),Inv X pins σ H s->RelV x v->Vals xs us->r x xs H Q ->
  wpAny (model X.prog X.w) X.A (call (.builtin id) (v::us)) (EP X pins σ Q) X.xe s
theorem Vals.one {x:V}{us:List Value}(h:Vals [x] us):∃u,us=[u]/\RelV x u:=by
 cases h with
 |cons r t=>cases t;exact⟨_,rfl,r⟩
theorem Vals.two {x y:V}{us:List Value}(h:Vals [x,y] us):∃u v,us=[u,v]/\RelV x u/\RelV y v:=by
 cases h with
 |cons r t=>
  cases t with
  |cons q t=>cases t;exact⟨_,_,rfl,r,q⟩
theorem Vals.reverse {xs:List V}{us:List Value}(h:Vals xs us):Vals xs.reverse us.reverse:=by
 induction h with
 |nil=>exact .nil
 |cons r t ih=>rw[Wc,Wc];exact Vals.append ih (.cons r .nil)
section
variable {X:Cx}{pins:List (Addr×Obj)}{σ:St}{H:Hp}{s:Shared}{l b:Addr}{xs ys zs:List V}
theorem Inv.lset {its its':List Value}{n:Nat}{f:Array Value->Array Value}{t':Nat}(I:Inv X pins σ H s)(hH:H l=some (.lst xs))
  (e:s.heap.get? l=some { cls:=.type "list",data:=.seq its.toArray n }) (hf:f its.toArray=its'.toArray) (hv:Vals ys its') (hz:ys.length<=sizeLine) :
  Inv X pins σ (upd H l (.lst ys)) { s with heap:=s.heap.update l (Obj.mapSeq f),toks:=t' }:=by
 have q:=PySem.IsL.update e f;rw[hf] at q;refine I.write (x:=l) (e:=l) (by rw[hH];exact trivial) (.inl rfl) (fun b' u hb hu=>(Wt s.heap (Obj.mapSeq f) (T9 hb)).trans hu) ⟨_,q⟩ ?_;exact⟨hz,its',_,hv,q⟩
theorem Inv.lnew {its:List Value}{t':Nat}(I:Inv X pins σ H s)(hv:Vals ys its)(hz:ys.length<=sizeLine) :
  Inv X pins σ (upd H s.heap.objs.size (.lst ys)) { s with heap:=s.heap.push { cls:=.type "list",data:=.seq its.toArray },toks:=t' }:=
 I.laid (fun _ _ q=>TK _ q) (Tw _) ⟨hz,its,0,hv,TZ _ rfl⟩
theorem Inv.fresh (I:Inv X pins σ H s):H s.heap.objs.size=none:=I.hok.fresh (Tw _)
theorem Inv.lstM (I:Inv X pins σ H s)(hH:H l=some (.lst xs)):xs.length<=sizeLine/\∃(its:List Value) (n:Nat),Vals xs its/\xs.length=its.length/\s.heap.get? l=some { cls:=.type "list",data:=.seq its.toArray n }:=by obtain⟨z,its,n,r,e⟩:=I.hok l _ hH;exact⟨z,its,n,r,r.length,e⟩
theorem Ih {n:Nat}(h:n<=sizeLine):Builtin.List.listTooLong n=false:=by unfold Builtin.List.listTooLong;exact T5 (by lia)
end
section
variable {X:Cx}
noncomputable def rAppend:V->List V->Hp->VK->Prop:=fun x vs H Q=>∃l xs y,x = .ref l/\vs=[y]/\H l=some (.lst xs)/\xs.length<sizeLine/\Q .non (upd H l (.lst (xs++[y])))
theorem qX:MtM X "list.append" rAppend:=by intro pins s σ H x vs v us Q I rx rv h;obtain⟨l,xs,y,rfl,rfl,hH,hz,q⟩:=h;cases rx;obtain⟨u,rfl,ru⟩:=rv.one;obtain⟨z,its,n,r,hl,e⟩:=I.lstM hH;refine call_meets F.slot_list_append ⟨_,e,rfl⟩ F.entry_list_append (F.args_list_append_2 _ _) (PySem.list_append l its.toArray n u (by rw[TV];lia)) ⟨e,?_⟩;refine⟨.non,_,I.lset (its':=its++[u]) hH e (by simp) (r.append (.cons ru .nil)) ?_,rfl,q⟩;rw[Tu,TY];lia
end
section
variable {prog:Program}{w:World}{A:Around}{E:Value->Shared->Prop}{s:Shared}
end
section
variable {X:Cx}
end
end L2
namespace Att
open PySem PySem.W PySem.Calls PyProof.Rows
theorem sJ:∀(ns:List Int) (vs:List Value),WellAll P h vs (ns.map WData.int)->IntsAre vs ns:=by
 intro ns;induction ns with
 |nil=>
  intro vs w;rw[VA] at w;cases w;exact .nil
 |cons n ns ih=>
  intro vs w;rw[TF] at w;cases w with
  |cons a b=>cases a;exact .cons _ _ (ih _ b)
theorem F2 {l:OpenLaw}{n:Nat}(hn:l.most=some n)   {args:List WData}
  (hpre:l.row.toRowW.claim.pre args=true) (hwl:WellAll P h vals args) :
  ∃a vs ns,vals=[Value.ref a]/\args=[WData.list (ns.map WData.int)]/\h.get? a=some { cls:=.type "list",data:=.seq vs.toArray }/\IntsAre vs ns/\ns.length<=n:=by
 have hsh:WShape.hasAll [] args [.list .int]=true:=(pre_splitW hpre).1;have hc:l.pre.holds [] { args:=args }=true:=(pre_splitW hpre).2;obtain⟨d,r,rfl,h1,h2⟩:=hasAllW_cons hsh;obtain rfl:=hasAllW_nil h2;obtain⟨xs,rfl,h3⟩:=hasW_list h1;obtain⟨ns,rfl⟩:=items_int h3;have hlen:ns.length<=n:=by
  unfold OpenLaw.pre at hc;have h4:(WTm.not (.lt (.lit (.int (n:Int))) (.len (.arg 0)))).holds [] { args:=[.list (ns.map .int)] }=true:=by have h4:=(holds_andW hc).1;rw[hn] at h4;exact h4
  have h5:=condW_of h4 (w_not (w_lt w_lit (w_len_list (w_arg rfl))));rw[Tt] at h5;refine Nat.le_of_not_lt fun q=>?_;have q':(n:Int)<((ns.length:Nat):Int):=by omega
  first
   | (rw[UA q'] at h5;exact absurd h5 (by decide))
   | (simp at h5;omega)
 cases hwl with
 |cons w1 w2=>
  cases w2;cases w1 with
  |list ho hall=>exact⟨_,_,ns,rfl,rfl,ho,sJ ns _ hall,hlen⟩
theorem FZ (l:OpenLaw)(args:List WData):l.row.toRowW.claim.post args (.bool true) args=true:=
 postW_of (r:=l.row.toRowW) (X:=(true==true))
  (show WShape.has [] (.bool true) .bool=true by first|rfl|decide|simp[WShape.has,WShape.arms,WShape.armsAll])
  (show (WTm.eq .res (.lit (.bool true))).value [] { args:=args,res:=some (.bool true),after:=args }=some (.bool (true==true)) from w_eq_bool (w_res rfl) w_lit) rfl
theorem Ai {l:OpenLaw}{n:Nat}    {YP:World->Heap->Prop}{d:DefRec}
  (hn:l.most=some n) (hdf:d.params.defaults=[])
  (call:∀(w:World) (s₀ s₁:Shared) (mg mb:Str->Option Value) (fa:Addr) (o:Obj) (pm cd doc:Value) (a:Addr) (vs:List Value) (ns:List Int),
   Ground q loose [] XP w s₀ mg mb s₁.heap->YP w s₁.heap ->
   s₁.heap.get? fa=some o->o.data = .func (docDef d.name d.params d.body d.scope pm cd doc)->s₁.heap.CodeRec cd d.name->mg d.name=some (.ref fa) ->
   s₁.heap.get? a=some { cls:=.type "list",data:=.seq vs.toArray }->IntsAre vs ns->ns.length<=n->s₁.gens = #[] ->
   codeAny (model l.prog w) callerA (.call (.ref fa) ⟨[.ref a],[]⟩) (fun r s'=>r = .ok (.ret (.bool true))/\OldK s₁.heap s'.heap/\s'.os=s₁.os/\AllBare s'.gens) s₁) :
  WalkO q loose XP YP l.row.toRowW d [] (fun f vs=>PySem.call f vs):=by
 intro w s₀ s₁ mg mb G Y fa o pm cd doc dV kV ho hd hcd hD hmg hg args vals as hpre hlay hrd hwl hlo;obtain rfl:dV = .none:=Dflts.none hD hdf;obtain rfl:kV = .none:=Dflts.noKw hD;obtain⟨a,vs,ns,rfl,rfl,hobj,hints,hlen⟩:=F2 hn hpre hwl;refine enter_call (codeAny_mono (call w s₀ s₁ mg mb fa o pm cd doc a vs ns G Y ho (fd_plain hd) hcd hmg hobj hints hlen hg) fun r s' hq=>?_);obtain⟨rfl,h2,h3,h4⟩:=hq;exact⟨.inl ⟨.bool true,.bool true,[],rfl,fun _=>rfl,.bool true,FZ l _,fun _=>⟨List.Pairwise.nil,fun _ hm=>(nomatch hm)⟩⟩,h2,h3,h4⟩
section
variable {prog:Program}{w:World}{A:Around}{E:Value->Shared->Prop}{s:Shared}{K:Frag}
end
end Att
namespace L2
open PySem PySem.Spec PyProof.Rows
theorem yt:∀ {vs:List Value} {ns:List Int},IntsAre vs ns->Vals (ns.map V.int) vs
 |_,_,.nil=>.nil
 |_,_,.cons n t h=>.cons ⟨t,rfl⟩ (yt h)
def Ml (H:Hp):Prop:=∀b,H b=none\/∃o xs,H b=some (.frz o (.lst xs))
theorem HJ   {K:W.Frag}{mg mb:Str->Option Value}{CX:CXT}{k:Nat}{a:Addr}{fd:FuncData}{x:Str}{sp:Sp}{s₁:Shared}{vs:List Value}
  (KX:K.In s₁.heap) (hns:s₁.heap.Ns mainGlobals mg) (hb:s₁.heap.Ns builtinsNs mb) (hbb:∀x:Str,x ≠ "__name__" -> mb x=bootBuiltins x) (hlim:s₁.heap.NoLimit) (hg:s₁.gens = #[])
  (ha:s₁.heap.get? a=some { cls:=.type "list",data:=.seq vs.toArray }) (hi:IntsAre vs ns) (hl:ns.length<=sizeLine) (hr:Room k callerA)
  (F:∀base:Heap,K.In base->base.Ns mainGlobals mg->FnOk P w K mg base CX k fa fd [x] sp) (hbind:∀(s:Shared) (u:Value),BindsTo s fd ⟨[u],[]⟩ [(x,u)])
  (hsp:∀H:Hp,Ml H->SqL K H a (ns.map V.int)->sp [.ref a] H (fun v _=>v = .bl true) fun _ _ _=>False)
  (hCX:∀H e s',CX [] H s₁ (fun _ _ _=>False) e s'->False) :
  codeAny (model P w) callerA (.call (.ref fa) ⟨[.ref a],[]⟩) (fun r s'=>r = .ok (.ret (.bool true))/\OldK s₁.heap s'.heap/\s'.os=s₁.os/\AllBare s'.gens) s₁:=by
 have rv:=yt hi;have lenV:=hi.length
 -- from an abstract heap in which nothing but the script may be tracked
 have core:∀H:Hp,Ml H->SqL K H a (ns.map V.int)->HOk P w H s₁.heap->(∀b,H b≠none->b=a)->(H a≠none->K.lookup a=none) ->
   codeAny (model P w) callerA (.call (.ref fa) ⟨[.ref a],[]⟩) (fun r s'=>r = .ok (.ret (.bool true))/\OldK s₁.heap s'.heap/\s'.os=s₁.os/\AllBare s'.gens) s₁:=by
  intro H hO hS hok hA hK;have base_of:∀ {b:Addr} {o:Obj},s₁.heap.get? b=some o->H b=none->(y3 s₁.heap H).get? b=some o:=fun e n=>Hx e n;have noA:∀ {b:Addr} {o:Obj} {es:Array DictEntry} {ep:Nat},s₁.heap.get? b=some o->o.data = .dict es ep->H b=none:=fun {b o es ep} e d=>by
   cases q:H b with
   |none=>rfl
   |some u=>have e':b=a:=hA b (by rw[q];simp);subst e';rw[ha] at e;cases e;have d':Data.seq vs.toArray _=Data.dict es ep:=d;cases d'
  have nsK:∀ {b:Addr} {m:Str->Option Value},s₁.heap.Ns b m->(y3 s₁.heap H).Ns b m:=fun {b m} ⟨o,es,ep,e,d,r⟩=>⟨o,es,ep,base_of e (noA e d),d,r⟩
  have hKb:K.In (y3 s₁.heap H):=fun b o e=>base_of (KX b o e) (by
   cases q:H b with
   |none=>rfl
   |some u=>
    have e':b=a:=hA b (by rw[q];simp);subst e'
    rw[hK (by rw[q];simp)] at e;cases e)
  have hM:Mod K mg (y3 s₁.heap H):=⟨hKb,nsK hns,⟨mb,nsK hb,hbb⟩,let ⟨mc,h1,h2⟩:=hlim;⟨mc,nsK h1,h2⟩⟩
  have e0:Env0 P w K mg (y3 s₁.heap H) callerA [] s₁ H:=⟨rfl,hM,fun b o e=>KN e,Us (Fe _ _),trivial,fun b hb=>absurd (show b∈([]:List Addr) from hb) (by simp),hok,.of_eq hg⟩
  refine codeAny_mono ((F _ hKb (nsK hns)).run callerA [] s₁ H ⟨[.ref a],[]⟩ [.ref a] [.ref a] _ _ hr e0 (hbind s₁ (.ref a)) (.cons rfl .nil) (hsp H hO hS)) fun r s' h=>?_;cases r with
  |error e=>exact (hCX H e s' h).elim
  |ok fl=>
   cases fl with
   |next=>exact False.elim h
   |brk=>exact False.elim h
   |cont=>exact False.elim h
   |ret u=>
    obtain⟨v,H',os,bare,un,hok',r',q⟩:=h;have q':v = .bl true:=q;subst q';obtain rfl:u=Value.bool true:=r';refine⟨rfl,OldK.of_keep fun b o e=>?_,os,bare⟩;cases q:H b with
    |none=>exact un.keep b o e q (by intro z;exact absurd (show b∈([]:List Addr) from z) (by simp)) (by simp)
    |some u=>
     rcases hO b with z|⟨ob,xs,z⟩
     ·rw[q] at z;cases z
     ·have z2:=un.frzs b ob _ z;obtain⟨e1,_⟩:=hok b _ z;obtain⟨e2,_⟩:=hok' b _ z2;rw[e] at e1;cases e1;exact e2
 cases hk:K.lookup a with
 |some o=>
  -- the script is one of the module's own objects
  have e:=KX a o hk;rw[ha] at e;cases e;refine core (fun _=>none) (fun _=>.inl rfl) (.inr ⟨_,vs.toArray,_,hk,rfl,rfl,rfl,by rw[TV,lenV];exact hl,by simpa using rv⟩) (fun b u z=>by have z':(none:Option HO)=some u:=z;cases z') (fun b z=>absurd rfl z) fun z=>absurd rfl z
 |none=>
  refine core (fun b=>if b=a then some (.frz { cls:=.type "list",data:=.seq vs.toArray } (.lst (ns.map V.int))) else none) (fun b=>?_) (.inl (.inr ⟨{ cls:=.type "list",data:=.seq vs.toArray },Tn rfl⟩)) (fun b u z=>?_) (fun b z=>?_) fun _=>hk
  ·by_cases hb:b=a
   ·exact .inr ⟨_,_,Tn hb⟩
   ·exact .inl (To hb)
  ·by_cases hb:b=a
   ·have z':=(Tn hb).symm.trans z;cases z';subst hb;exact⟨ha,by rw[Tt];exact hl,vs,_,rv,ha⟩
   ·have z':=(To hb).symm.trans z;cases z'
  ·by_cases hb:b=a
   ·exact hb
   ·exact absurd (To hb) z
theorem LH {l:W.OpenLaw}{n k:Nat}    {YP:World->Heap->Prop}{d:DefRec}{K:Params->W.Frag}{CX:World->CXT}{sp:World->Sp}{x:Str}
  (hn:l.most=some n) (hn2:n<=sizeLine) (hdf:d.params.defaults=[]) (hr:Room k callerA)
  (hY:∀(w:World) (h:Heap),YP w h->(K w.params).In h)
  (F:∀(w:World) (mg:Str->Option Value) (fa:Addr) (h:Heap),(K w.params).In h->h.Ns mainGlobals mg->mg d.name=some (.ref fa) ->
   ∃fd:FuncData,(∀(s:Shared) (u:Value),BindsTo s fd ⟨[u],[]⟩ [(x,u)]) /\
    ∀base:Heap,(K w.params).In base->base.Ns mainGlobals mg->FnOk l.prog w (K w.params) mg base (CX w) k fa fd [x] (sp w))
  (hsp:∀(w:World) (H:Hp) (a:Addr) (ns:List Int),ns.length<=n->Ml H->SqL (K w.params) H a (ns.map V.int)->sp w [.ref a] H (fun v _=>v = .bl true) fun _ _ _=>False)
  (hCX:∀(w:World) (H:Hp) (s:Shared) (e:Value) (s':Shared),CX w [] H s (fun _ _ _=>False) e s'->False) :
  W.WalkO q loose XP YP l.row.toRowW d [] (fun f vs=>PySem.call f vs):=by
 refine Att.Ai hn hdf fun w s₀ s₁ mg mb fa o pm cd doc a vs ns G Y ho hd hcd hmg hobj hints hlen hg=>?_;have KX:=hY w _ Y;obtain⟨fd,hb,hF⟩:=F w mg fa _ KX G.T.g hmg;exact HJ KX G.T.g G.T.b G.T.builtins G.T.nolimit hg hobj hints (T1 hlen hn2) hr hF hb (fun H hO hS=>hsp w H a ns hlen hO hS) fun H e s'=>hCX w H s₁ e s'
noncomputable def jf (s:Stmt)(j:Nat):Stmt:=match s with
 |.ClassDef _ _ _ body _ _ _ _ _ _ _=>body.getD j (.Pass ⟨0,0,0,0⟩)
 |_=>.Pass ⟨0,0,0,0⟩
noncomputable def ml (s:Stmt):Arguments:=match s with
 |.FunctionDef _ a _ _ _ _ _ _ _ _=>a
 |_=>{ posonlyargs:=[],args:=[],vararg:=none,kwonlyargs:=[],kw_defaults:=[],kwarg:=none,defaults:=[] }
noncomputable def gf (s:Stmt):List Stmt:=match s with
 |.FunctionDef _ _ b _ _ _ _ _ _ _=>b
 |_=>[]
noncomputable def ar (s:Stmt):Scope:=match s with
 |.FunctionDef _ _ _ _ _ _ sc _ _ _=>sc
 |_=>{ kind:=.function,names:=[],isGenerator:=false,isCoroutine:=false }
noncomputable abbrev CX0:CXT:=fun _ _ _ _ _ _=>False
noncomputable abbrev E0:XK:=fun _ _ _=>False
theorem vf:kY CX0 X E0:=fun _ _ _ _ _ _ _ h=>h.elim
structure Fun (K:W.Frag) (x qual:Str) (st:Stmt) (f:Addr) (fd:FuncData):Prop where
 ex:∃(oc:Value) (od:Option Addr) (kV doc pm:Value) (an:Option Addr) (cdv ct:Value) (osl:Array (Option Value)),
  fd=W.fnOf x qual (ml st) (gf st) (ar st) .none kV doc pm an cdv ct/\K.lookup f=some ⟨oc,od,.func fd,osl⟩/\W.codeIn K cdv qual=true
 kp:W.keepIn K (.ref f)=true
section
variable {P:Program}{w:World}{K:W.Frag}{mg:Str->Option Value}{base:Heap}
theorem Fun.ok {x qual:Str}{st:Stmt}{f:Addr}{fd:FuncData}{N ps:List Str}{k:Nat}{sp:Sp}(F:Fun K x qual st f fd)(S:FnScope N ps (ar st))(len:∀vs H Q E,sp vs H Q E->vs.length=ps.length)
  (hbody:∀(cdv:Value) (A:Around) (outer:List Env) (s:Shared) (H:Hp) (vs:List V) (Q:VK) (E:XK),Room k (A.deeper (envOfC qual (ar st) s.heap.objs.size f cdv))->sp vs H Q E ->
   ∃t,PSs (yN CX0 P w K mg base N qual (ar st) f cdv A outer s H E).nox (gf st) t/\t { nx:=fun _ H'=>Q .non H',rt:=Q } (eB N vs) H):FnOk P w K mg base CX0 (k+1) f fd ps sp:=by
 obtain⟨oc,od,kV,doc,pm,an,cdv,ct,osl,rfl,lk,hcd⟩:=F.ex;refine LQ lk hcd S len fun A outer s H vs Q E hr hsp=>?_;obtain⟨t,h,q⟩:=hbody cdv A outer s H vs Q E hr hsp;exact⟨t,h.nox,q⟩
theorem Fun.binds {qual:Str}{st:Stmt}  {fd:FuncData}{ps:List Str}(F:Fun K x qual st f fd)
  (h:∀(kV doc pm:Value) (an:Option Addr) (cdv ct:Value) (us:List Value),us.length=ps.length->bindArgs (W.fnOf x qual (ml st) (gf st) (ar st) .none kV doc pm an cdv ct) ⟨us,[]⟩=pure (ps.zip us)):Binds K fd ps []:=by
 obtain⟨oc,od,kV,doc,pm,an,cdv,ct,osl,rfl,lk,hcd⟩:=F.ex;exact .all (h kV doc pm an cdv ct)
theorem Ho {x qual:Str}{st:Stmt}{f:Addr}{oc:Value}{od an:Option Addr}{osl:Array (Option Value)}{kV doc pm cdv ct:Value}(l:K.lookup f=some ⟨oc,od,.func (W.fnOf x qual (ml st) (gf st) (ar st) .none kV doc pm an cdv ct),osl⟩)
  (c:W.codeIn K cdv qual=true) (k:W.keepIn K (.ref f)=true):Fun K x qual st f (W.fnOf x qual (ml st) (gf st) (ar st) .none kV doc pm an cdv ct):=⟨⟨oc,od,kV,doc,pm,an,cdv,ct,osl,rfl,l,c⟩,k⟩
end
section
variable {X:Cx}
theorem pv (i:Nat){x:Str}{pos:Pos}(hN:X.N[i]?=some x:=by rfl)(hv:Vis X.env.scope x:=by first|exact Or.inl rfl|exact Or.inr (.inl rfl)|exact Or.inr (.inr rfl))(hd:(x==("__debug__" : Str))=false:=by decide)
  (hcd:(x==("__classdict__" : Str))=false:=by decide):PE X (.Name x pos) (kQ i):=Nm hN hv hd hcd
end
theorem Fk {A B:Prop}(h:B):if false=true then A else B:=by rw[To UM];exact h
theorem Fl {A B:Prop}(h:A):if true=true then A else B:=by rw[Tn rfl];exact h
def Same (H H':Hp):Prop:=∀b o,H b=some o->H' b=some o
theorem Same.refl (H:Hp):Same H H:=fun _ _ h=>h
theorem Same.trans {H1 H2:Hp}(a:Same H H1)(b:Same H1 H2):Same H H2:=fun c o h=>b c o (a c o h)
theorem Same.free {H':Hp}(e:Same H H'){l:Addr}(h:H' l=Option.none):H l=Option.none:=by
 cases q:H l with
 |none=>rfl
 |some o=>rw[e l o q] at h;cases h
end L2
set_option linter.all false
set_option maxHeartbeats 4000000
set_option maxRecDepth 100000
namespace L2
open PySem PySem.Spec PyProof.Rows
structure CmpOk (XN:List Str) (sc scope:Scope) (N:List Str) (js:List (Option Nat)):Prop where
 kind:scope.kind = .function
 cell:∀y∈scope.names,y.2 ≠ .cell
 free:∀y∈scope.names,y.2 = .free->sc.names.lookup y.1=some .cell\/sc.names.lookup y.1=some .free
 loc:∀y∈scope.names,y.2 = .local->scope.names.lookup y.1=some .local
 len:js.length=N.length
 ix:((N.zip js).all fun p=>match p.2 with|none=>true|some j=>decide (XN[j]?=some p.1)&&decide (scope.names.lookup p.1=some .free))=true
noncomputable def fP (env:Env):List (Str×NameKind)->List (Str×Addr)->List (Str×Addr)
 |[],cs=>cs
 | (n,k)::r,cs=>fP env r (if k = .free then (match env.cells.lookup n with|some c=>(n,c)::cs|none=>cs) else cs)
theorem ud {env:Env}:∀ {names:List (Str×NameKind)} {cs:List (Str×Addr)},(∀n c,cs.lookup n=some c->env.cells.lookup n=some c)->∀n c,(fP env names cs).lookup n=some c->env.cells.lookup n=some c
 |[],_,h=>h
 | (m,k)::r,cs,h=>by
  unfold fP;refine ud ?_;split
  ·cases e:env.cells.lookup m with
   |none=>exact h
   |some d=>
    intro n c hn;dsimp only at hn;rw[Ua] at hn;cases q:n==m with
    |true=>
     rw[q] at hn;have e1:n=m:=by simpa using q
     cases hn;rw[e1];exact e
    |false=>rw[q] at hn;exact h n c hn
  ·exact h
theorem uc {env:Env}:∀ {names:List (Str×NameKind)} {cs:List (Str×Addr)} {n:Str},((n,NameKind.free)∈names/\(∃c,env.cells.lookup n=some c))\/(∃c,cs.lookup n=some c)->∃c,(fP env names cs).lookup n=some c
 |[],_,_,h=>h.elim (fun z=>by cases z.1) id
 | (m,k)::r,cs,n,h=>by
  unfold fP;refine uc ?_;rcases h with ⟨hm,c,hc⟩|⟨c,hc⟩
  ·rcases TD.mp hm with e|hm
   ·cases e;right;rw[Tn rfl,hc];exact⟨c,by rw[Ua];simp⟩
   ·exact .inl ⟨hm,c,hc⟩
  ·right;split
   ·cases e:env.cells.lookup m with
    |none=>exact⟨c,hc⟩
    |some d=>
     dsimp only;rw[Ua];cases q:n==m with
     |true=>exact⟨d,rfl⟩
     |false=>exact⟨c,hc⟩
   ·exact⟨c,hc⟩
theorem nv {env:Env}{scope:Scope}(h:∀y∈scope.names,y.2 = .free->∃c,env.cells.lookup y.1=some c):closureFor scope env=pure (fP env scope.names []):=by
 have key:∀(names:List (Str×NameKind)) (cs:List (Str×Addr)),(∀y∈names,y.2 = .free->∃c,env.cells.lookup y.1=some c) ->
   (forIn names cs (fun (x:Str×NameKind) r=>if (x.2==NameKind.free)=true then (do let a ← cellOf env x.1;pure (ForInStep.yield ((x.1,a)::r))) else pure (ForInStep.yield r)):Sem (List (Str×Addr)))=pure (fP env names cs):=by
  intro names;induction names with
  |nil=>intro cs _;rfl
  |cons y r ih=>
   intro cs hy;obtain⟨n,k⟩:=y;rw[List.forIn_cons];unfold fP;by_cases hk:k = .free
   ·subst hk;obtain⟨c,hc⟩:=hy _ Tx rfl;have e1:cellOf env n=pure c:=by unfold cellOf;rw[hc]
    rw[Tn (by rfl)];rw[Tn rfl,hc];show ((cellOf env n >>= fun a=>pure (ForInStep.yield ((n,a)::cs))) >>= _)=_;rw[e1];exact ih _ fun z hz=>hy z (TC _ hz)
   ·have hb:(k==NameKind.free)=false:=by simpa using hk
    rw[To (by rw[hb];decide),To hk];exact ih _ fun z hz=>hy z (TC _ hz)
 have k:=key scope.names [] h;unfold closureFor;show (forIn scope.names ([]:List (Str×Addr)) _ >>= fun cs=>pure cs)=_;refine Eq.trans (TQ (fun t=>t >>= fun cs=>pure cs) (Eq.trans ?_ k)) rfl;congr 1
theorem oh {env:Env}:∀ {names:List (Str×NameKind)} {x:Str},names.lookup x=some .free ->
  (names.map fun (n,k)=>if (k==NameKind.free&&env.scope.kind == .function&&env.kindOf n==some .cell) then (n,NameKind.cell) else (n,k)).lookup x=some .cell \/
  (names.map fun (n,k)=>if (k==NameKind.free&&env.scope.kind == .function&&env.kindOf n==some .cell) then (n,NameKind.cell) else (n,k)).lookup x=some .free
 |[],_,h=>by simp at h
 | (n,k)::r,x,h=>by
  have ih:=@oh env r x;rw[TF];dsimp only;cases q:x==n with
  |true=>
   rw[Ua,q] at h;cases h;split
   ·left;rw[Ua,q]
   ·right;rw[Ua,q]
  |false=>
   rw[Ua,q] at h;split
   ·rw[Ua,q];exact ih h
   ·rw[Ua,q];exact ih h
theorem oe {env:Env}:∀ {names:List (Str×NameKind)} {x:Str} {j:NameKind},(∀y∈names,y.2 ≠ .cell)->(j = .cell\/j = .free) ->
  (names.map fun (n,k)=>if (k==NameKind.free&&env.scope.kind == .function&&env.kindOf n==some .cell) then (n,NameKind.cell) else (n,k)).lookup x=some j->(x,NameKind.free)∈names
 |[],_,_,_,_,h=>by simp at h
 | (n,k)::r,x,j,hc,hj,h=>by
  have ih:=@oe env r x j (fun y hy=>hc y (TC _ hy)) hj;rw[TF] at h;dsimp only at h;cases q:x==n with
  |true=>
   have e:x=n:=by simpa using q
   subst e;split at h
   ·rename_i g;have:k = .free:=by
     simp only[Ul,Ur] at g;exact g.1.1
    subst this;exact Tx
   ·rw[Ua,q] at h;cases h;rcases hj with z|z
    ·exact absurd z (hc _ Tx)
    ·rw[z];exact Tx
  |false=>
   refine TC _ (ih ?_);split at h
   ·rw[Ua,q] at h;exact h
   ·rw[Ua,q] at h;exact h
noncomputable def inn (js:List (Option Nat))(σ:St):St:=js.map fun o=>match o with|none=>none|some j=>(σ[j]?).join
structure CxZ where
 cl:List (Str×Addr)
 C:Addr
 s:Shared
 H:Hp
 fp:List Addr
 pins:List (Addr×Obj)
noncomputable def cxC (X:Cx)(N:List Str)(scope:Scope)(z:CxZ):Cx where
 prog:=X.prog
 w:=X.w
 K:=X.K
 mg:=X.mg
 base:=X.base
 A:=X.A
 N:=N
 s₀:=z.s
 H₀:=z.H
 env:=compEnvC scope z.cl z.C X.env
 outer:=X.stack
 stack:=X.stack
 ex:=z.fp
 fn:=fun _=>false
 calm:=X.calm
 pn:=X.pn++z.pins
 xe:=fun _ _=>False
section
variable {X:Cx}{pins:List (Addr×Obj)}{σ:St}{H:Hp}{s:Shared}{XN N:List Str}{sc scope:Scope}{js:List (Option Nat)}
theorem HE {h1:Heap}{m:Str->Option Value}{tk:Nat}{fp:List Addr}(ck:CmpOk XN sc scope N js)(hXN:X.N=XN)(hsc:X.env.scope=sc)(I:Inv X pins σ H s)(hf:∀b∈fp,oK X pins H b)
  (hfo:∀b∈fp,b<s.heap.objs.size) (hn:h1.Ns s.heap.objs.size m) (hk:∀b o,s.heap.get? b=some o->h1.get? b=some o) :
  Inv (cxC X N scope ⟨fP X.env scope.names [],s.heap.objs.size,s,H,fp,pins⟩) [] (inn js σ) H { s with heap:=h1,toks:=tk }:=by
 subst hXN hsc;have sub:∀n c,(fP X.env scope.names []).lookup n=some c->X.env.cells.lookup n=some c:=ud fun n c h=>by simp at h
 have clt:∀n c,(fP X.env scope.names []).lookup n=some c->c<s.heap.objs.size:=fun n c h=>by obtain⟨v,q⟩:=I.cell n c (sub n c h);exact q.lt
 have has:∀x,(x,NameKind.free)∈scope.names->∃c,(fP X.env scope.names []).lookup x=some c:=fun x hx=>
  uc (.inl ⟨hx,I.ok.has x (ck.free _ hx rfl)⟩)
 refine⟨⟨I.ok.mod,ck.kind,I.ok.glob,I.ok.blt,Tw _,fun x y c h1 h2=>I.ok.inj x y c (sub x c h1) (sub y c h2),fun x hx=>?has,fun x c hx=>?cab,I.ok.hd,I.ok.frames,.inl rfl,fun b hb=>?exf,I.bs,?bsz,fun b o e hb=>?noex,fun b hb=>?exfs,I.stack,I.stkFree⟩,
  rfl,I.bare,Un.kept hk,⟨m,hn,fun i x v h1 h2 h3=>?loc⟩,fun x c h=>?cell,I.hok.fresh (Tw _),fun x c h=>I.freeC x c (sub x c h),fun p hp=>?pin,I.hok.kept hk,?len⟩
 case has=>
  rcases hx with hx|hx
  ·exact has x (oe ck.cell (.inl rfl) hx)
  ·exact has x (oe ck.cell (.inr rfl) hx)
 case cab=>cases hx
 case exf=>
  obtain⟨f0,f1,f2,f3,f4,f5⟩:=hf b hb;exact⟨TX (hfo b hb),fun x c e=>f4 x c (sub x c e)⟩
 case bsz=>exact T1 I.ok.bsz I.sz
 case noex=>
  obtain⟨f0,f1,f2,f3,f4,f5⟩:=hf b hb;rcases f3 with f3|f3
  ·exact I.ok.noex b o e f3
  ·exact absurd (Ud (TM e) (T1 I.ok.bsz f3)) (UH _)
 case exfs=>
  obtain⟨f0,f1,f2,f3,f4,f5⟩:=hf b hb;intro z;rcases TD.mp (I.stkSub b z) with e|e
  ·exact f1 e
  ·exact f2 e
 case loc=>
  have hl:N.length=js.length:=ck.len.symm;have hi:i<js.length:=by have:=(TR.mp h1).1;have e:(cxC X N scope ⟨fP X.env scope.names [],s.heap.objs.size,s,H,fp,pins⟩).N=N:=rfl;rw[e] at this;lia
  have hN:N[i]?=some x:=h1;have hj:js[i]?=some js[i]:=Uf hi;unfold inn at h2;rw[TW,hj] at h2;cases q:js[i] with
  |none=>rw[q] at h2;cases h2
  |some j=>
   rw[q] at h2 hj;have h2':(σ[j]?).join=some v:=T6 h2;have hσ:σ[j]?=some (some v):=by
    cases e:σ[j]? with
    |none=>rw[e] at h2';cases h2'
    |some o=>rw[e] at h2';exact TQ some h2'
   have hm:(x,some j)∈N.zip js:=by refine Vl (i:=i) ?_;rw[List.getElem?_zip_eq_some];exact⟨hN,hj⟩
   have hc:=VB.mp ck.ix _ hm;simp only[Ul,VP] at hc;obtain⟨c1,c2⟩:=hc;have hfr:(x,NameKind.free)∈scope.names:=Vj c2;have hvis:X.env.scope.names.lookup x=some .cell\/X.env.scope.names.lookup x=some .free:=ck.free _ hfr rfl;obtain⟨m0,hn0,hl0⟩:=I.loc;obtain⟨u,r,l⟩:=hl0 j x v c1 hσ (hvis.elim (fun z=>.inr (.inl z)) fun z=>.inr (.inr z));refine⟨u,r,.inr ⟨?_,?_⟩⟩
   ·exact oh c2
   ·rcases l with ⟨k1,_⟩|⟨_,c,k1,k2⟩
    ·have k1':X.env.scope.names.lookup x=some .local:=k1;rcases hvis with z|z
     ·rw[z] at k1';cases k1'
     ·rw[z] at k1';cases k1'
    ·obtain⟨c',hc'⟩:=has x hfr;have e:=sub x c' hc';rw[k1] at e;cases e;obtain⟨oc,ho,hd⟩:=k2;exact⟨c,hc',oc,hk _ _ ho,hd⟩
 case cell=>
  obtain⟨v,oc,ho,hd⟩:=I.cell x c (sub x c h);exact⟨v,oc,hk _ _ ho,hd⟩
 case pin=>
  have hp':p∈X.pn++pins:=by simpa[cxC] using hp
  obtain⟨p1,p2,p3,p4,p5⟩:=I.pin p hp';refine⟨hk _ _ p1,p2,TX (TM p1),fun z=>?_,p5⟩;rcases TD.mp (I.stkSub _ z) with e|e
  ·exact p3 e
  ·exact p4 e
 case len=>
  show (inn js σ).length=N.length;unfold inn;rw[Tt];exact ck.len
noncomputable abbrev TIf:=St->Hp->(Bool->Hp->Prop)->Prop
def PIf (X:Cx)(ifs:List Expr)(t:TIf):Prop:=
 ∀(pins:List (Addr×Obj)) (s:Shared) (σ:St) (H:Hp) (Q:Bool->Hp->Prop),Inv X pins σ H s->t σ H Q ->
  wpAny (model X.prog X.w) X.A (forIn ifs true fun c r=>if r=true then do let ok ← isTrue c X.env (eval c X.env);pure (ForInStep.yield ok) else pure (ForInStep.yield r)) (TP X pins σ Q) X.xe s
noncomputable def LP:TIf:=fun _ H Q=>Q true H
theorem zt:PIf X [] LP:=fun _ _ _ H _ I h=>wpAny_tests_nil ⟨H,I,h⟩
theorem K3   (h:PT X c t):PIf X [c] t:=fun pins s σ H Q I q=>wpAny_tests_one (h pins s σ H Q I q)
def Lev (σ σ':St):Prop:=σ.length=σ'.length/\∀(i:Nat) (v:V),σ[i]?=some (some v)->σ'[i]?=some (some v)
theorem Lev.refl (σ:St):Lev σ σ:=⟨rfl,fun _ _ h=>h⟩
theorem Lev.trans  (h:Lev a b)(k:Lev b c):Lev a c:=⟨h.1.trans k.1,fun i v e=>k.2 i v (h.2 i v e)⟩
def su (js:List (Option Nat))(g:TG):Prop:=∀(σ0:St) (v:V) (σ:St) (H:Hp) (Q:St->Hp->Prop),Lev (inn js σ0) σ->g v σ H Q->g v σ H fun σ' H'=>Lev (inn js σ0) σ'/\Q σ' H'
def Ad (js:List (Option Nat))(g:TGs):Prop:=∀(σ0:St) (vs:List V) (σ:St) (H:Hp) (Q:St->Hp->Prop),Lev (inn js σ0) σ->g vs σ H Q->g vs σ H fun σ' H'=>Lev (inn js σ0) σ'/\Q σ' H'
theorem Eo {i:Nat}(h:js[i]?=some none:=by rfl):su js (je i):=fun σ0 v σ H Q l q=>by
 refine⟨⟨?_,fun j u e=>?_⟩,q⟩
 ·rw[UV];exact l.1
 ·by_cases hij:i=j
  ·subst hij;unfold inn at e;rw[TW,h] at e;cases e
  ·rw[UI hij];exact l.2 j u e
theorem Lv:Ad js Ks:=fun σ0 vs σ H Q l q=>⟨q.1,l,q.2⟩
theorem JA   (h:su js t)(k:Ad js u)(mono:∀v σ H (Q Q':St->Hp->Prop),(∀a b,Q a b->Q' a b)->t v σ H Q->t v σ H Q'):Ad js (DP t u):=fun σ0 vs σ H Q l q=>by obtain⟨v,r,e,q⟩:=q;exact⟨v,r,e,mono _ _ _ _ _ (fun σ' H' z=>k σ0 r σ' H' Q z.1 z.2) (h σ0 v σ H _ l q)⟩
theorem Cy {i:Nat}:∀v σ H (Q Q':St->Hp->Prop),(∀a b,Q a b->Q' a b)->je i v σ H Q->je i v σ H Q':=fun _ _ _ _ _ h q=>h _ _ q
theorem Od {K:W.Frag}{n:Nat}{t:TGs}(h:Ad js t):su js (Hr K n t):=fun σ0 v σ H Q l q=>by obtain⟨a,xs,e,hq,hl,q⟩:=q;exact⟨a,xs,e,hq,hl,h σ0 xs σ H Q l q⟩
noncomputable def yp (js:List (Option Nat))(wi:TI)(g:TG)(tt:TIf)(te:TE):TE:=fun σ H Q=>wi σ H fun J H1=>∀D,H1 D=none->∃W:Nat->Nat->Hp->Prop,(∃m,W 0 m (upd H1 D (.lst [])))/\∀i m H,W i m H ->
 (J.stop i H/\Q (.ref D) H)\/(J.go i H/\∀x H',J.yld i H x H'->g x (inn js σ) H' fun σ2 H2=>tt σ2 H2 fun b H3=>
  if b=true then te σ2 H3 fun y H4=>∃ys,H4 D=some (.lst ys)/\ys.length<sizeLine/\∃m',m'<m/\W (i+1) m' (upd H4 D (.lst (ys++[y]))) else ∃m',m'<m/\W (i+1) m' H3)
variable {tg iter elt:Expr}{ifs:List Expr}{pos:Pos}{wi:TI}{g:TG}{tt:TIf}{te:TE}
theorem EY {E:Value->Shared->Prop}{R:Result->Shared->Prop}{it:Addr}{fp:List Addr}    {W:Nat->Nat->Hp->Prop}{n:Nat}
  (hc:X.calm=true) (T:Turn X.prog X.w X.K tg J fp it tn) (hz:∀b∈fp,∀H',H' b=none->oK (cxC X N scope z) [] H' b)
  (hg:PG (cxC X N scope z) tg g) (hs:su js g) (ht:PIf (cxC X N scope z) ifs tt) (he:PE (cxC X N scope z) elt te)
  (turn:∀i m H,W i m H->(J.stop i H/\∀s',Inv (cxC X N scope z) [] (inn js σ) H s'->R (.ok .next) s')\/(J.go i H/\∀x H',J.yld i H x H'->g x (inn js σ) H' fun σ2 H2=>tt σ2 H2 fun b H3=>
   if b=true then te σ2 H3 fun y H4=>∃ys,H4 D=some (.lst ys)/\ys.length<sizeLine/\∃m',m'<m/\W (i+1) m' (upd H4 D (.lst (ys++[y]))) else ∃m',m'<m/\W (i+1) m' H3))
  {H1:Hp} (I1:Inv (cxC X N scope z) [] (inn js σ) H1 s1) (t1:tn 0 s1.heap) (f1:∀b∈fp,H1 b=none) (w1:W 0 n H1) :
  codeAny (model X.prog X.w) X.A (.compLoop (.ListComp elt [⟨tg,iter,ifs,0⟩] scope pos) 0 (.ref it) (.ref D) (compEnvC scope z.cl z.C X.env)) R s1:=by
 refine codeAny_loop (c:=.compLoop (.ListComp elt [⟨tg,iter,ifs,0⟩] scope pos) 0 (.ref it) (.ref D) (compEnvC scope z.cl z.C X.env)) rfl
  (fun k s'=>∃i H',Inv (cxC X N scope z) [] (inn js σ) H' s'/\tn i s'.heap/\(∀b∈fp,H' b=none)/\W i k H') ?_ n ⟨0,H1,I1,t1,f1,w1⟩
 rintro k s2 ⟨i,H2,I2,t2,f2,w2⟩;show wpAny (model X.prog X.w) X.A ((compTurn (.ListComp elt [⟨tg,iter,ifs,0⟩] scope pos) 0 (.ref it) (.ref D) (compEnvC scope z.cl z.C X.env)).onRaise fun x=>do noteFrame x (compEnvC scope z.cl z.C X.env);theTreesLotGoes x) _ _ s2;refine wpAny_noted ?_;rw[compTurn_list];refine Tp (wpAny_standAt ?_);rcases turn i k H2 w2 with ⟨stop,fin⟩|⟨go,step⟩
 ·refine Tp (thn (T.done (cxC X N scope z) rfl rfl rfl hc i [] s2 (inn js σ) H2 _ I2 (fun b hb=>hz b hb H2 (f2 b hb)) t2 stop) fun r s3 h3=>?_);obtain⟨rfl,I3⟩:=h3;exact Tv (fin s3 I3)
 ·refine Tp (thn (T.item (cxC X N scope z) rfl rfl rfl hc i [] s2 (inn js σ) H2 _ I2 (fun b hb=>hz b hb H2 (f2 b hb)) t2 go) fun r s3 h3=>?_);obtain⟨u,rfl,h3⟩:=h3;refine Tp (thn h3 fun _ s4 h4=>?_);obtain⟨x,H4,I4,r4,y4,t4,f4⟩:=h4;have P4:=I4.pinned (fun b hb=>hz b hb H4 (f4 b hb)) (T.obj _ _ t4);have ff:∀ {e:Value} {s':Shared},(cxC X N scope z).xe e s'->False:=fun h=>h;refine Tp (Uq (hg _ s4 (inn js σ) H4 x u _ P4 r4 (hs σ x (inn js σ) H4 _ (Lev.refl _) (step x H4 y4))) (fun _ s5 h5=>?_) fun _ _ h=>(ff h).elim);obtain⟨σ5,H5,I5,lev,q5⟩:=h5;refine Tp (Uq (ht _ s5 σ5 H5 _ I5 q5) (fun ok s6 h6=>?_) fun _ _ h=>(ff h).elim);obtain⟨H6,I6,q6⟩:=h6;have again:∀ {s7:Shared} {H7:Hp},Inv (cxC X N scope z) ([]++q9 fp s4.heap) σ5 H7 s7->(∃m',m'<k/\W (i+1) m' H7)->∃m,m<k/\∃i H',Inv (cxC X N scope z) [] (inn js σ) H' s7/\tn i s7.heap/\(∀b∈fp,H' b=none)/\W i m H':=fun {s7 H7} I7 h7=>by
   obtain⟨m',hm,w7⟩:=h7;refine⟨m',hm,i+1,H7,(I7.unpinned).weak lev.1 lev.2,T.keep _ _ _ t4 fun b hb o e=>(I7.pin (b,o) (TH _ (TH _ (fV hb e)))).1,fun b hb=>?_,w7⟩;obtain⟨o,e,d⟩:=T.obj _ _ t4 b hb;exact (I7.pin (b,o) (TH _ (TH _ (fV hb e)))).2.1
  cases ok with
  |false=>
   rw[To (by decide)] at q6;exact Tv ⟨rfl,again I6 q6⟩
  |true=>rw[Tn rfl] at q6;refine Tp (Tp (Uq (he _ s6 σ5 H6 _ I6 q6) (fun y s7 h7=>?_) fun _ _ h=>(ff h).elim));obtain⟨vy,H7,I7,r7,ys,hD,hl,q7⟩:=h7;refine Tp (Uq (qX (X:=cxC X N scope z) _ s7 σ5 H7 (.ref D) [vy] (.ref D) [y] (fun _ H'=>∃m',m'<k/\W (i+1) m' H') I7 rfl (.cons r7 .nil) ⟨D,ys,vy,rfl,rfl,hD,hl,q7⟩) (fun _ s8 h8=>?_) fun _ _ h=>(ff h).elim);obtain⟨_,H8,I8,_,q8⟩:=h8;exact Tv (Tv ⟨rfl,again I8 q8⟩)
theorem uf  {RR:Value->Addr->Result->Shared->Prop}{Q:VK}   (ck:CmpOk XN sc scope N js)(hXN:X.N=XN)(hsc:X.env.scope=sc)(hc:X.calm=true)
  (hg:∀z,PG (cxC X N scope z) tg g) (hs:su js g) (ht:∀z,PIf (cxC X N scope z) ifs tt) (he:∀z,PE (cxC X N scope z) elt te)
  (h2:PIE X pins σ tg (fun J H1=>∀D,H1 D=none->∃W:Nat->Nat->Hp->Prop,(∃m,W 0 m (upd H1 D (.lst [])))/\∀i m H,W i m H ->
   (J.stop i H/\Q (.ref D) H)\/(J.go i H/\∀x H',J.yld i H x H'->g x (inn js σ) H' fun σ2 H2=>tt σ2 H2 fun b H3=>
    if b=true then te σ2 H3 fun y H4=>∃ys,H4 D=some (.lst ys)/\ys.length<sizeLine/\∃m',m'<m/\W (i+1) m' (upd H4 D (.lst (ys++[y]))) else ∃m',m'<m/\W (i+1) m' H3)) itv s2)
  (hRR:∀D C s' H' m o,Inv X (pins++[(C,o)]) σ H' s'->s'.heap.Ns C m->(X.s₀.heap.objs.size<=C/\C≠X.env.locals/\(∀x c,X.env.cells.lookup x=some c->c≠C)/\∀p∈X.pn++pins,p.1≠C)->H' C=none->Q (.ref D) H'->RR (.ref D) C (.ok .next) s') :
  wpAny (model X.prog X.w) X.A (newList []) (fun acc s₃=>wpAny (model X.prog X.w) X.A (newFunctionEnv scope X.env.globals (fP X.env scope.names []) [] X.env.qual none .none (some X.env)) (fun cenv s₄=>
   codeAny (model X.prog X.w) X.A (.compStart (.ListComp elt [⟨tg,iter,ifs,0⟩] scope pos) 0 itv acc { cenv with scope:=relabel scope X.env }) (RR acc cenv.locals) s₄) E s₃) E s2:=by
 obtain⟨it,fp,tn,J,H2,rfl,I2,T,t2,f2,q2⟩:=h2;have fo:∀b∈fp,b<s2.heap.objs.size:=fun b hb=>by obtain⟨o,e,_⟩:=T.obj _ _ t2 b hb;exact TM e
 have hD:H2 s2.heap.objs.size=none:=I2.fresh;obtain⟨W,⟨n,w0⟩,turn⟩:=q2 _ hD;refine Ut (wpAny_newFunctionEnv ck.cell (by intro y hy;simp at hy) (fun h1 hns hsb=>?_) ck.kind);have I3:Inv X pins σ (upd H2 s2.heap.objs.size (.lst [])) { s2 with heap:=s2.heap.push { cls:=.type "list",data:=.seq ([]:List Value).toArray },toks:=s2.toks }:=I2.lnew (its:=[]) .nil (T2 _);have f3:∀b∈fp,oK X pins (upd H2 s2.heap.objs.size (.lst [])) b:=fun b hb=>by obtain⟨g0,g1⟩:=f2 b hb;exact⟨by rw[aG (TX (fo b hb))];exact g0,g1⟩
 have sz:(s2.heap.push { cls:=.type "list",data:=.seq ([]:List Value).toArray }).objs.size=s2.heap.objs.size+1:=UN _ _;have kept:∀b o,(s2.heap.push { cls:=.type "list",data:=.seq ([]:List Value).toArray }).get? b=some o->h1.get? b=some o:=fun b o e=>
  hsb.extBut b o (TX (TM e)) (TK _ e)
 have I4:=HE (tk:=s2.toks+([]:List (Str×Value)).length) ck hXN hsc I3 f3 (fun b hb=>by show b<(s2.heap.push _).objs.size;rw[sz];exact VC (fo b hb)) hns kept;have t4:tn 0 h1:=T.keep _ _ _ t2 fun b hb o e=>kept b o (TK _ e);have fz:∀b∈fp,∀H',H' b=none->oK (cxC X N scope ⟨fP X.env scope.names [],(s2.heap.push { cls:=.type "list",data:=.seq ([]:List Value).toArray }).objs.size,{ s2 with heap:=s2.heap.push { cls:=.type "list",data:=.seq ([]:List Value).toArray },toks:=s2.toks },upd H2 s2.heap.objs.size (.lst []),fp,pins⟩) [] H' b:=fun b hb H' hn=>by obtain⟨g0,g1,g2,g3,g4,g5⟩:=f3 b hb;refine⟨hn,(I4.ok.exf b hb).1,I4.ok.exfs b hb,.inl hb,(I4.ok.exf b hb).2,fun p hp=>?_⟩;exact g5 p (by simpa[cxC] using hp)
 have loop:=EY (X:=X) (σ:=σ) (N:=N) (scope:=scope) (js:=js) (iter:=iter) (pos:=pos) (E:=E) (R:=RR (.ref s2.heap.objs.size) (s2.heap.push { cls:=.type "list",data:=.seq ([]:List Value).toArray }).objs.size) (D:=s2.heap.objs.size) (W:=W) (n:=n)
  hc T fz (hg _) hs (ht _) (he _) (fun i m H w=>(turn i m H w).imp (fun a=>⟨a.1,fun s' Y=>?_⟩) id) I4 t4 (fun b hb=>(f3 b hb).1) w0
 ·exact codeAny_compStart_list loop (T.self _ 0 _ _ _ t4 loop)
 ·have bb:=Y.base;have J0:Inv X pins σ H s':=I3.call' Y.os bb Y.hok Y.bare fun b hb=>by
   obtain⟨g0,g1,g2,g3,g4,g5⟩:=f3 b hb;exact⟨g3,g1,g4,g5⟩
  obtain⟨mC,nC,_⟩:=Y.loc;obtain⟨oC,eC,dC⟩:∃o,s'.heap.get? (s2.heap.push { cls:=.type "list",data:=.seq ([]:List Value).toArray }).objs.size=some o/\∀v,o.data ≠ .cell v:=by obtain⟨o,es,ep,ho,hd,_⟩:=nC;exact⟨o,ho,fun v z=>by rw[hd] at z;cases z⟩
  have lC:X.s₀.heap.objs.size<=(s2.heap.push { cls:=.type "list",data:=.seq ([]:List Value).toArray }).objs.size:=I3.sz;have cC:(s2.heap.push { cls:=.type "list",data:=.seq ([]:List Value).toArray }).objs.size≠X.env.locals:=Nat.ne_of_gt I3.lt;have kC:∀x c,X.env.cells.lookup x=some c->c≠(s2.heap.push { cls:=.type "list",data:=.seq ([]:List Value).toArray }).objs.size:=fun x c e=>by obtain⟨v,q⟩:=I3.cell x c e;exact TX q.lt
  have pC:∀p∈X.pn++pins,p.1≠(s2.heap.push { cls:=.type "list",data:=.seq ([]:List Value).toArray }).objs.size:=fun p hp=>TX (TM (I3.pin p hp).1);have J1:Inv X (pins++[((s2.heap.push { cls:=.type "list",data:=.seq ([]:List Value).toArray }).objs.size,oC)]) σ H s':=J0.pins_of fun p hp=>by
   rcases TB.mp hp with hp|hp
   ·exact J0.pin p (TH _ hp)
   ·rw[Ts.mp hp];exact⟨eC,Y.free,cC,I3.nofs (Tw _),dC⟩
  exact hRR _ _ s' H mC oC J1 nC ⟨lC,cC,kC,pC⟩ Y.free a.2
theorem KZ (ck:CmpOk XN sc scope N js)(hi:PI X tg iter wi)(hg:∀z,PG (cxC X N scope z) tg g)(hs:su js g)(ht:∀z,PIf (cxC X N scope z) ifs tt)(he:∀z,PE (cxC X N scope z) elt te)
  (hXN:X.N=XN:=by rfl) (hsc:X.env.scope=sc:=by rfl) (hc:X.calm=true:=by rfl) (hf:∀x,foldedSetIterable iter X.env x=pure x:=by intro _;rfl) :
  PE X (.ListComp elt [⟨tg,iter,ifs,0⟩] scope pos) (yp js wi g tt te):=by
 intro pins s σ H Q I h;rw[eval_ListComp];have hcl:closureFor scope X.env=pure (fP X.env scope.names []):=nv fun y hy hk=>I.ok.has y.1 (by
  have:=ck.free y hy hk;rw[<- hsc] at this
  exact this)
 refine Wu (use:=none) rfl hf hcl ck.kind ck.loc (thn (hi pins s σ H _ I h) fun v s1 h1=>thn h1 fun itv s2 h2=>?_);refine uf (RR:=fun acc C=>compPost (model X.prog X.w) X.A X.xe none (EP X pins σ Q) acc C) ck hXN hsc hc hg hs ht he h2 ?_;intro D C s' H' m o J nC hC fC q;refine⟨m,nC,fun h' sb=>⟨.ref D,H',?_,rfl,q⟩⟩;have J0:Inv X pins σ H' s':=J.unpinned;exact J0.turned (t':=s'.toks) (it:=C) (fun b o hb e=>sb.extBut b o hb e) fC hC.2.1 (.inr hC.1) hC.2.2.1 hC.2.2.2
theorem Lb {i:Nat}{y:Str}{pos' spos:Pos}(ck:CmpOk XN sc scope N js)(hN:X.N.Nodup)(hi0:X.N[i]?=some y)(hx:Loc X.env.scope y)(hi:PI X tg iter wi)(hg:∀z,PG (cxC X N scope z) tg g)(hs:su js g)(ht:∀z,PIf (cxC X N scope z) ifs tt)(he:∀z,PE (cxC X N scope z) elt te)
  (hsw:swapsWith (.ListComp elt [⟨tg,iter,ifs,0⟩] scope pos) (some (.Name y pos')) spos.line X.env=pure true:=by rfl)
  (hXN:X.N=XN:=by rfl) (hsc:X.env.scope=sc:=by rfl) (hc:X.calm=true:=by rfl) (hf:∀x,foldedSetIterable iter X.env x=pure x:=by intro _;rfl)
  (hfn:X.fn y=true\/X.env.scope.names.lookup y=some .local:=by first|exact .inl rfl|exact .inr rfl|assumption) :
  PS X (.Assign [.Name y pos'] (.ListComp elt [⟨tg,iter,ifs,0⟩] scope pos) spos) (zL (yp js wi g tt te) (je i)):=by
 intro pins s σ H D I h;rw[exec_Assign_Name_used _ _ _ _ hsw];have hcl:closureFor scope X.env=pure (fP X.env scope.names []):=nv fun y hy hk=>I.ok.has y.1 (by
  have:=ck.free y hy hk;rw[<- hsc] at this
  exact this)
 refine Tp (wpAny_standAt (Tp ?_));show wpAny (model X.prog X.w) X.A (comprehension (.ListComp elt [⟨tg,iter,ifs,0⟩] scope pos) scope X.env _ (newList []) false (eval iter X.env) (some (assign (.Name y pos') X.env)) >>= fun _=>pure ()) _ _ s;refine Tp (thn (Wu (use:=some (assign (.Name y pos') X.env)) (Q:=fun _ s'=>SP X pins D .next s') rfl hf hcl ck.kind ck.loc (thn (hi pins s σ H _ I h) fun v s1 h1=>thn h1 fun itv s2 h2=>?_)) fun _ s' q=>Tv (Tv q));refine uf (RR:=fun acc C=>compPost (model X.prog X.w) X.A X.xe (some (assign (.Name y pos') X.env)) (fun _ s'=>SP X pins D .next s') acc C) (Q:=fun x H1=>je i x σ H1 D.nx) ck hXN hsc hc hg hs ht he h2 ?_;intro A C s' H' m o J nC hC fC q;refine thn (pF hN hi0 hx hfn _ s' σ H' (.ref A) (.ref A) _ J rfl q) fun _ s3 h3=>?_;obtain⟨σ3,H3,J3,q3⟩:=h3;have pc:=J3.pin (C,o) (TH _ (TH _ Tx));have oC:s'.heap.get? C=some o:=(J.pin (C,o) (TH _ (TH _ Tx))).1;refine⟨m,nC.at' fun o' e=>?_,fun h' sb=>⟨σ3,H3,?_,q3⟩⟩
 ·rw[oC] at e;cases e;exact pc.1
 ·have J0:Inv X pins σ3 H3 s3:=J3.unpinned;exact J0.turned (t':=s3.toks) (it:=C) (fun b o hb e=>sb.extBut b o hb e) pc.2.1 hC.2.1 (.inr hC.1) hC.2.2.1 hC.2.2.2
end
end L2
namespace Srt
open PySem PySem.W PyProof.Rows
section
variable {α β:Type}(lt:Nat->Nat->Bool)(n:Nat)
end
section
variable {lt:Nat->Nat->Bool}{le:Nat->Nat->Prop}{n:Nat}{p:Array Nat}
noncomputable abbrev at' (p:Array Nat)(i:Nat):Nat:=p.getD i 0
theorem Ah {p q:Array Nat}{i j:Nat}(h:p[i]?=q[j]?):at' p i=at' q j:=by
 have e:∀(r:Array Nat) (k:Nat),at' r k=(r[k]?).getD 0:=fun r k=>by simp[at']
 rw[e,e,h]
def Asc (le:Nat->Nat->Prop)(p:Array Nat)(m:Nat):Prop:=∀i j,i<=j->j<m->le (at' p i) (at' p j)
def Bel (n:Nat)(p:Array Nat):Prop:=∀k,at' p k<n
structure Ord (lt:Nat->Nat->Bool) (le:Nat->Nat->Prop):Prop where
 tr:∀a b c,le a b->le b c->le a c
 rf:∀a,le a a
 yes:∀a b,lt a b=true->le a b
 no:∀a b,lt a b=false->le b a
theorem My (hn:0<n)(hp:p.Perm (List.range n).toArray):Bel n p:=fun k=>by
 have e:at' p k=(p[k]?).getD 0:=by simp[at']
 rw[e];cases h:p[k]? with
 |none=>exact hn
 |some v=>have hm:v∈p:=Array.mem_of_getElem? h;have:=(VQ.mp hp).mem_iff.mp (Array.mem_toList_iff.mpr hm);simpa using this
theorem bP {i j:Nat}(hj:j<=p.size)(k:Nat):at' (kas_rev p i j) k=if i<=k/\k<j then at' p (i+j-1-k) else at' p k:=by
 have e:=getElem?_mirror_all (i:=i) hj k;by_cases h:i<=k/\k<j
 ·rw[Tn h] at e ⊢;exact Ah e
 ·rw[To h] at e ⊢;exact Ah e
variable {z:Nat}
theorem p9 {src d:Nat}(hs:src<p.size)(hd:d<=src)(k:Nat):at' (bubble p src d) k=if k=src-d then at' p src else if src-d<k/\k<=src then at' p (k-1) else at' p k:=by
 have e:=getElem?_bubble hs d hd k;by_cases h1:k=src-d
 ·rw[Tn h1] at e ⊢;exact Ah e
 ·rw[To h1] at e ⊢;by_cases h2:src-d<k/\k<=src
  ·rw[Tn h2] at e ⊢;exact Ah e
  ·rw[To h2] at e ⊢;exact Ah e
end
theorem CY {α:Type}{le:Nat->Nat->Prop}{p:Array Nat}{vs:List α}{d:α}(hp:p.Perm (List.range vs.length).toArray)(ha:Asc le p vs.length) :
  (p.toList.map fun i=>vs.getD i d).Perm vs/\∀R:α->α->Prop,(∀i j,i<vs.length->j<vs.length->le i j->R (vs.getD i d) (vs.getD j d))->(p.toList.map fun i=>vs.getD i d).Pairwise R:=by
 have hl:p.toList.Perm (List.range vs.length):=by simpa using VQ.mp hp
 constructor
 ·have h1:(p.toList.map fun i=>vs.getD i d).Perm ((List.range vs.length).map fun i=>vs.getD i d):=hl.map _;have h2:((List.range vs.length).map fun i=>vs.getD i d)=vs:=by
   apply Wd
   ·simp
   ·intro i h1 h2;simp at h1;simp[h1]
  rw[h2] at h1;exact h1
 ·intro R hR;rw[Um,UW];intro i j hi hj hij;have hs:p.toList.length=vs.length:=by rw[hl.length_eq];simp
  have m:∀k (hk:k<p.toList.length),p.toList[k]<vs.length:=fun k hk=>by simpa using hl.mem_iff.mp (List.getElem_mem hk)
  have a:∀k (hk:k<p.toList.length),at' p k=p.toList[k]:=fun k hk=>by
   have:k<p.size:=by simpa using hk
   simp[at',Array.getD,this]
  refine hR _ _ (m i hi) (m j hj) ?_;rw[<- a i hi,<- a j hj];exact ha i j (Uv hij) (by lia)
noncomputable def Kt:Bool->Keyed->Array Keyed->Nat->Nat->Nat->StateT SortSt Sem (Option Nat):=sortPriv% PySem.Builtin.gallop
noncomputable def HX:Array Keyed->Array Keyed->StateT SortSt Sem (Array Keyed):=sortPriv% PySem.Builtin.mergeLo
noncomputable def HW:Array Keyed->Array Keyed->StateT SortSt Sem (Array Keyed):=sortPriv% PySem.Builtin.mergeHi
section
variable {prog:Program}{w:World}{A:Around}{E:Value->Shared->Prop}{s:Shared}{κ:SortKind}{it:Array Keyed}{n:Nat}{lt:Nat->Nat->Bool}{le:Nat->Nat->Prop}
def vZ (prog:Program)(w:World)(A:Around)(s:Shared)(κ:SortKind)(it:Array Keyed)(n:Nat)(lt:Nat->Nat->Bool):Prop:=
 ∀i j (C:Bool->Shared->Prop),i<n->j<n->C (lt i j) s->kas_cmp prog w A κ it i j C s
theorem w_lt (hc:vZ prog w A s κ it n lt){i j:Nat}{Q:Option Bool->SortSt->Prop}{st:SortSt}(hk:kindOf st=κ)(hi:i<n)(hj:j<n)(h:Q (some (lt i j)) st):wpS (model prog w) A E s (lt' (kas_item it i) (kas_item it j)) Q st:=by rw[lt'_eq];refine Tq (Ux ?_);rw[hk];refine Tq (Va (VD (Uq (hc i j (fun c s'=>s'=s/\c=lt i j) hi hj ⟨rfl,rfl⟩) (fun c s' h'=>?_) fun _ _ hF=>hF.elim)));obtain⟨rfl,rfl⟩:=h';exact⟨rfl,Tr h⟩
theorem bG {X:Array Nat}{k:Nat}{Q:Keyed->SortSt->Prop}{st:SortSt}(hk:k<X.size)(h:Q (kas_item it (at' X k)) st):wpS (model prog w) A E s (elem' (X.map (kas_item it)) k) Q st:=by
 rw[elem'_eq];have e:at' X k=X[k]:=by simp[at',hk]
 rw[e] at h;have e2:(X.map (kas_item it))[k]?=some (kas_item it X[k]):=by simp[hk]
 rw[e2];exact Tr h
theorem jU (o:Ord lt le)(hc:vZ prog w A s κ it n lt){left:Bool}{key:Nat}{X:Array Nat}{base m hint:Nat}{Q:Option Nat->SortSt->Prop}{st:SortSt}(hk:kindOf st=κ)(hb:∀i,i<X.size->at' X i<n)(hkey:key<n)
  (hz:base+m<=X.size) (hh:hint<m) (hs:∀i j,i<=j->j<m->le (at' X (base+i)) (at' X (base+j)))
  (h:∀k,k<=m->(∀i,i<k->le (at' X (base+i)) key)->(∀i,k<=i->i<m->le key (at' X (base+i)))->Q (some k) st) :
  wpS (model prog w) A E s (Kt left (kas_item it key) (X.map (kas_item it)) base m hint) Q st:=by
 have bey:∀i,i<m->∀(R:Option Bool->SortSt->Prop),(∀c,(c=true->le (at' X (base+i)) key)->(c=false->le key (at' X (base+i)))->R (some c) st)->wpS (model prog w) A E s (do
   let x ← elem' (X.map (kas_item it)) (base+i)
   if left=true then lt' x (kas_item it key) else do
    let r ← lt' (kas_item it key) x
    pure (Option.map (fun x=>!x) r)) R st:=fun i hi R hR=>by
  refine Tq (bG (by lia) ?_);have hx:=hb (base+i) (by lia);cases left with
  |true=>
   rw[Tn rfl];exact w_lt hc hk hx hkey (hR _ (o.yes _ _) (o.no _ _))
  |false=>rw[To (by decide)];refine Tq (w_lt hc hk hkey hx (Tr ?_));refine hR _ (fun e=>o.no _ _ (by simpa using e)) (fun e=>o.yes _ _ (by simpa using e))
 have lo':∀k,k<m->le (at' X (base+k)) key->∀i,i<=k->le (at' X (base+i)) key:=fun k hk hl i hi=>o.tr _ _ _ (hs i k hi hk) hl;have hi':∀k,k<m->le key (at' X (base+k))->∀i,k<=i->i<m->le key (at' X (base+i)):=fun k hk hl i hi him=>o.tr _ _ _ hl (hs k i hi him);refine Tq (bey hint hh _ fun c c1 c2=>?_);dsimp only;cases c with
 |true=>
  rw[Tn rfl]
  refine Tq (Ub (Uc (I:=fun x c st'=>st'=st/\∃l f,c=(none,l,f)/\x+1<=f/\hint+l<m/\le (at' X (base+(hint+l))) key)
   (Q:=fun c st'=>st'=st/\∃l f,c=(none,l,f)/\hint+l<m/\le (at' X (base+(hint+l))) key/\(f<m-hint->le key (at' X (base+(hint+f))))) ?s1 ?f1 ?i1) ?p1)
  case i1=>exact⟨rfl,0,1,rfl,by lia,by lia,c1 rfl⟩
  case f1=>
   rintro c st' ⟨rfl,l,f,rfl,h1,h2,h3⟩;exact⟨rfl,l,f,rfl,h2,h3,fun _=>by lia⟩
  case s1=>
   rintro x c st' _ hx ⟨rfl,l,f,rfl,h1,h2,h3⟩;dsimp only;by_cases hge:f ≥ m-hint
   ·rw[Tn hge];exact Tr ⟨rfl,l,f,rfl,h2,h3,fun _=>by lia⟩
   ·rw[To hge];refine Tq (bey (hint+f) (by lia) _ fun c d1 d2=>?_);dsimp only;cases c with
    |true=>exact Tr ⟨rfl,f,2 * f+1,rfl,by lia,by lia,d1 rfl⟩
    |false=>exact Tr ⟨rfl,l,f,rfl,h2,h3,fun _=>d2 rfl⟩
  case p1=>
   rintro c st' ⟨rfl,l,f,rfl,h2,h3,h4⟩;dsimp only;have g1:∀i,i<hint+l+1->i<m->le (at' X (base+i)) key:=fun i hi _=>lo' _ h2 h3 i (by lia);have g2:∀i,hint+min f (m-hint)<=i->i<m->le key (at' X (base+i)):=fun i hi him=>hi' (hint+f) (by lia) (h4 (by lia)) i (by lia) him;have g3:hint+min f (m-hint)<=m:=by lia
   generalize hint+l+1=L at g1 ⊢;generalize hint+min f (m-hint)=H at g2 g3 ⊢
   refine Tq (Ub (Uc (I:=fun x c st2=>st2=st'/\∃l h,c=(none,l,h)/\h<=m/\h-l<=m-x/\(∀i,i<l->i<m->le (at' X (base+i)) key)/\(∀i,h<=i->i<m->le key (at' X (base+i))))
    (Q:=fun c st2=>st2=st'/\∃l h,c=(none,l,h)/\h<=m/\h<=l/\(∀i,i<l->i<m->le (at' X (base+i)) key)/\(∀i,h<=i->i<m->le key (at' X (base+i)))) ?s2 ?f2 ?i2) ?p2)
   case i2=>exact⟨rfl,L,H,rfl,g3,by lia,g1,g2⟩
   case f2=>
    rintro c st2 ⟨rfl,l,h,rfl,k1,k2,k3,k4⟩;exact⟨rfl,l,h,rfl,k1,by lia,k3,k4⟩
   case s2=>
    rintro x c st2 _ hx ⟨rfl,l,h,rfl,k1,k2,k3,k4⟩;dsimp only;by_cases hge:l ≥ h
    ·rw[Tn hge];exact Tr ⟨rfl,l,h,rfl,k1,hge,k3,k4⟩
    ·rw[To hge];refine Tq (bey (l+(h-l) / 2) (by lia) _ fun c d1 d2=>?_);dsimp only;cases c with
     |true=>exact Tr ⟨rfl,_,_,rfl,k1,by lia,fun i hi him=>lo' _ (by lia) (d1 rfl) i (by lia),k4⟩
     |false=>exact Tr ⟨rfl,_,_,rfl,by lia,by lia,k3,fun i hi him=>hi' _ (by lia) (d2 rfl) i hi him⟩
   case p2=>
    rintro c st2 ⟨rfl,l,h',rfl,k1,k2,k3,k4⟩;exact Tr (h h' k1 (fun i hi=>k3 i (by lia) (by lia)) k4)
 |false=>
  rw[To (by decide)]
  refine Tq (Ub (Uc (I:=fun x c st'=>st'=st/\∃l f,c=(none,l,f)/\x+1<=f/\l<=hint/\le key (at' X (base+(hint-l))))
   (Q:=fun c st'=>st'=st/\∃l f,c=(none,l,f)/\l<=hint/\le key (at' X (base+(hint-l)))/\(f<hint+1->le (at' X (base+(hint-f))) key)) ?s1 ?f1 ?i1) ?p1)
  case i1=>exact⟨rfl,0,1,rfl,by lia,by lia,c2 rfl⟩
  case f1=>
   rintro c st' ⟨rfl,l,f,rfl,h1,h2,h3⟩;exact⟨rfl,l,f,rfl,h2,h3,fun _=>by lia⟩
  case s1=>
   rintro x c st' _ hx ⟨rfl,l,f,rfl,h1,h2,h3⟩;dsimp only;by_cases hge:f ≥ hint+1
   ·rw[Tn hge];exact Tr ⟨rfl,l,f,rfl,h2,h3,fun _=>by lia⟩
   ·rw[To hge];refine Tq (bey (hint-f) (by lia) _ fun c d1 d2=>?_);dsimp only;cases c with
    |true=>exact Tr ⟨rfl,l,f,rfl,h2,h3,fun _=>d1 rfl⟩
    |false=>exact Tr ⟨rfl,f,2 * f+1,rfl,by lia,by lia,d2 rfl⟩
  case p1=>
   rintro c st' ⟨rfl,l,f,rfl,h2,h3,h4⟩;dsimp only;have g1:∀i,i<hint+1-min f (hint+1)->i<m->le (at' X (base+i)) key:=fun i hi _=>lo' (hint-f) (by lia) (h4 (by lia)) i (by lia);have g2:∀i,hint-l<=i->i<m->le key (at' X (base+i)):=fun i hi him=>hi' (hint-l) (by lia) h3 i (by lia) him;have g3:hint-l<=m:=by lia
   generalize hint+1-min f (hint+1)=L at g1 ⊢;generalize hint-l=H at g2 g3 ⊢
   refine Tq (Ub (Uc (I:=fun x c st2=>st2=st'/\∃l h,c=(none,l,h)/\h<=m/\h-l<=m-x/\(∀i,i<l->i<m->le (at' X (base+i)) key)/\(∀i,h<=i->i<m->le key (at' X (base+i))))
    (Q:=fun c st2=>st2=st'/\∃l h,c=(none,l,h)/\h<=m/\h<=l/\(∀i,i<l->i<m->le (at' X (base+i)) key)/\(∀i,h<=i->i<m->le key (at' X (base+i)))) ?s2 ?f2 ?i2) ?p2)
   case i2=>exact⟨rfl,L,H,rfl,g3,by lia,g1,g2⟩
   case f2=>
    rintro c st2 ⟨rfl,l,h,rfl,k1,k2,k3,k4⟩;exact⟨rfl,l,h,rfl,k1,by lia,k3,k4⟩
   case s2=>
    rintro x c st2 _ hx ⟨rfl,l,h,rfl,k1,k2,k3,k4⟩;dsimp only;by_cases hge:l ≥ h
    ·rw[Tn hge];exact Tr ⟨rfl,l,h,rfl,k1,hge,k3,k4⟩
    ·rw[To hge];refine Tq (bey (l+(h-l) / 2) (by lia) _ fun c d1 d2=>?_);dsimp only;cases c with
     |true=>exact Tr ⟨rfl,_,_,rfl,k1,by lia,fun i hi him=>lo' _ (by lia) (d1 rfl) i (by lia),k4⟩
     |false=>exact Tr ⟨rfl,_,_,rfl,by lia,by lia,k3,fun i hi him=>hi' _ (by lia) (d2 rfl) i hi him⟩
   case p2=>
    rintro c st2 ⟨rfl,l,h',rfl,k1,k2,k3,k4⟩;exact Tr (h h' k1 (fun i hi=>k3 i (by lia) (by lia)) k4)
end
end Srt
namespace Srt
section
variable {le:Nat->Nat->Prop}{tot out ra rb xs:List Nat}
def Inv (le:Nat->Nat->Prop)(tot out ra rb:List Nat):Prop:=(out++ra).Pairwise le/\(out++rb).Pairwise le/\(out++(ra++rb)).Perm tot
theorem Inv.symm (h:Inv le tot out ra rb):Inv le tot out rb ra:=⟨h.2.1,h.1,(List.Perm.append_left _ List.perm_append_comm).trans h.2.2⟩
theorem Inv.block (h:Inv le tot out (xs++ra) rb)(k:∀x∈xs,∀y∈rb,le x y):Inv le tot (out++xs) ra rb:=by
 obtain⟨h1,h2,h3⟩:=h;refine⟨by rw[T8];exact h1,?_,by rw[T8,<- T8 xs];exact h3⟩;rw[T3] at h1 h2;rw[T8,T3];obtain⟨a1,a2,a3⟩:=h1;obtain⟨b1,b2,b3⟩:=h2;rw[T3] at a2;refine⟨a1,T3.mpr ⟨a2.1,b2,k⟩,fun x hx y hy=>?_⟩;rcases TB.mp hy with hy|hy
 ·exact a3 x hx y (TJ _ hy)
 ·exact b3 x hx y hy
theorem Inv.doneA (h:Inv le tot out ra []):(out++ra).Pairwise le/\(out++ra).Perm tot:=⟨h.1,by have:=h.2.2;rwa[Ue] at this⟩
theorem Inv.lastA {x:Nat}(h:Inv le tot out [x] rb)(k:∀y∈rb,le y x):(out++(rb++[x])).Pairwise le/\(out++(rb++[x])).Perm tot:=by
 refine⟨?_,(List.Perm.append_left _ List.perm_append_comm).trans h.2.2⟩;obtain⟨h1,h2,_⟩:=h;rw[T3] at h1 h2;rw[T3];refine⟨h1.1,T3.mpr ⟨h2.2.1,VE _ _,fun y hy z hz=>?_⟩,fun a ha b hb=>?_⟩
 ·rw[Ts] at hz;subst hz;exact k y hy
 ·rcases TB.mp hb with hb|hb
  ·exact h2.2.2 a ha b hb
  ·exact h1.2.2 a ha b hb
end
section
variable {X Y O:Array Nat}{le:Nat->Nat->Prop}{tot:List Nat}
theorem Ms {i:Nat}(h:i<X.size):at' X i=X[i]:=by simp[at',h]
theorem jY {i:Nat}(h:i<X.size):X.toList[i]'(by simpa using h)=at' X i:=by rw[Ms h];simp
theorem yP {i:Nat}(h:i<X.size):X.toList.drop i=at' X i::X.toList.drop (i+1):=by rw[VR (by simpa using h),jY h]
theorem o6 {i j:Nat}(h:i<=j):X.toList.drop i=(X.extract i j).toList++X.toList.drop j:=by
 rw[VS,VT];have e:X.toList.drop j=(X.toList.drop i).drop (j-i):=by rw[List.drop_drop];congr 1;lia
 rw[e,Wv]
theorem uX {i x:Nat}(h:x∈X.toList.drop i):∃j,i<=j/\j<X.size/\at' X j=x:=by
 obtain⟨k,hk⟩:=UB h;rw[VU] at hk;obtain⟨h1,h2⟩:=TR.mp hk;have h1':i+k<X.size:=by simpa using h1
 exact⟨i+k,by lia,h1',by rw[<- jY h1'];exact h2⟩
theorem tE {i j x:Nat}(h:x∈(X.extract i j).toList):∃k,i<=k/\k<j/\k<X.size/\at' X k=x:=by
 obtain⟨k,hk⟩:=UB h;rw[VS,VT,We] at hk;split at hk
 ·rw[VU] at hk;obtain⟨h1,h2⟩:=TR.mp hk;have h1':i+k<X.size:=by simpa using h1
  exact⟨i+k,by lia,by lia,h1',by rw[<- jY h1'];exact h2⟩
 ·cases hk
abbrev J (le:Nat->Nat->Prop)(tot:List Nat)(X Y O:Array Nat)(ia ib:Nat):Prop:=Inv le tot O.toList (X.toList.drop ia) (Y.toList.drop ib)
variable {ia ib:Nat}
theorem J.one (j:J le tot X Y O ia ib)(h:ia<X.size)(k:∀i,ib<=i->i<Y.size->le (at' X ia) (at' Y i)):J le tot X Y (O.push (at' X ia)) (ia+1) ib:=by
 unfold J at j ⊢;rw[yP h] at j;have:=Inv.block (xs:=[at' X ia]) j (fun x hx y hy=>by
  rw[Ts] at hx;subst hx;obtain⟨i,h1,h2,rfl⟩:=uX hy
  exact k i h1 h2)
 rwa[VF]
theorem J.blk {m:Nat}(j:J le tot X Y O ia ib)(k:∀i l,ia<=i->i<ia+m->i<X.size->ib<=l->l<Y.size->le (at' X i) (at' Y l)):J le tot X Y (O++X.extract ia (ia+m)) (ia+m) ib:=by
 unfold J at j ⊢;rw[o6 (j:=ia+m) (by lia)] at j;have:=Inv.block j (fun x hx y hy=>by
  obtain⟨i,h1,h2,h3,rfl⟩:=tE hx;obtain⟨l,h4,h5,rfl⟩:=uX hy
  exact k i l h1 h2 h3 h4 h5)
 rwa[Vn]
theorem J.sy (j:J le tot X Y O ia ib):J le tot Y X O ib ia:=Inv.symm j
abbrev kX (le:Nat->Nat->Prop)(tot:List Nat)(R:Array Nat):Prop:=R.toList.Pairwise le/\R.toList.Perm tot
theorem J.done1 (j:J le tot X Y O ia ib)(h:Y.size<=ib)(h2:ia<=X.size):kX le tot (O++X.extract ia X.size++Y.extract ib Y.size):=by
 unfold J at j;rw[Vb (l:=Y.toList) (by simpa using h)] at j;have e:(Y.extract ib Y.size) = #[]:=by simp;lia
 have e2:X.toList.drop ia=(X.extract ia X.size).toList:=by rw[o6 h2];simp
 rw[e,Array.append_empty];unfold kX;rw[Vn,<- e2];exact j.doneA
theorem J.done2 (j:J le tot X Y O ia ib)(h:X.size<=ia)(h2:ib<=Y.size):kX le tot (O++X.extract ia X.size++Y.extract ib Y.size):=by
 have e:(X.extract ia X.size) = #[]:=by simp;lia
 have:=j.sy.done1 h h2;rw[e,Array.append_empty] at this ⊢;exact this
theorem J.last (j:J le tot X Y O ia ib)(h:ia+1=X.size)(h2:ib<=Y.size)(k:∀i,i<Y.size->le (at' Y i) (at' X ia)):kX le tot (O++Y.extract ib Y.size++X.extract ia X.size):=by
 unfold J at j;rw[yP (by lia),Vb (l:=X.toList) (i:=ia+1) (by simp;lia)] at j;have:=j.lastA fun y hy=>by obtain⟨i,h1,h2,rfl⟩:=uX hy;exact k i h2
 have e:(X.extract ia X.size).toList=[at' X ia]:=by
  have e2:X.toList.drop ia=(X.extract ia X.size).toList:=by rw[o6 (j:=X.size) (by lia)];simp
  rw[<- e2,yP (by lia),Vb (l:=X.toList) (i:=ia+1) (by simp;lia)]
 have e3:Y.toList.drop ib=(Y.extract ib Y.size).toList:=by rw[o6 h2];simp
 unfold kX;rw[Vn,Vn,e,<- e3,T8];exact this
end
end Srt
namespace Srt
open PySem PySem.W PyProof.Rows
section
variable {prog:Program}{w:World}{A:Around}{E:Value->Shared->Prop}{s:Shared}{κ:SortKind}{it:Array Keyed}{n:Nat}{lt:Nat->Nat->Bool}{le:Nat->Nat->Prop}
def Same (κ:SortKind)(st st':SortSt):Prop:=kindOf st'=κ/\arrOf st'=arrOf st/\pendingOf st'=pendingOf st/\failedOf st'=failedOf st
theorem Same.g {st st2:SortSt}(h:Same κ st st2)(g:Nat):Same κ st (SortSt.mk' (kindOf st2) (arrOf st2) (pendingOf st2) g (failedOf st2)):=h
theorem km {σ α:Type}{M:Model}{c:Prop}[Decidable c]{a b:StateT σ Sem α}{Q:α->σ->Prop}{st:σ}(h1:wpS M A E s a Q st)(h2:wpS M A E s b Q st):wpS M A E s (if c then a else b) Q st:=by
 by_cases h:c
 ·rw[Tn h];exact h1
 ·rw[To h];exact h2
theorem exm (f:Nat->Keyed)(Z:Array Nat):(Z.map f).extract 0 Z.size=Z.map f:=by
 have:Z.size=(Z.map f).size:=by simp
 rw[this];simp
theorem Ee {X:Array Nat}(h:∀i j,i<=j->j<X.size->le (at' X i) (at' X j)):X.toList.Pairwise le:=by
 rw[UW];intro i j hi hj hij;have h2:j<X.size:=by simpa using hj
 rw[jY (by lia),jY h2];exact h i j (by lia) h2
theorem bN {σ α:Type}{M:Model}{c:Prop}[Decidable c]{a b:StateT σ Sem α}{Q:α->σ->Prop}{st:σ}(h1:c->wpS M A E s a Q st)(h2:¬c->wpS M A E s b Q st):wpS M A E s (if c then a else b) Q st:=by
 by_cases h:c
 ·rw[Tn h];exact h1 h
 ·rw[To h];exact h2 h
theorem Ew {σ α β:Type}{M:Model}{c:Prop}[Decidable c]{f:β->StateT σ Sem α}{a b:β}{Q:α->σ->Prop}{st:σ}(h:∀x,wpS M A E s (f x) Q st):wpS M A E s (if c then f a else f b) Q st:=km (h a) (h b)
theorem zR {σ α β γ:Type}{M:Model}{jp:Unit->β->γ->StateT σ Sem α}{m:StateT σ Sem α}{Q:α->σ->Prop}{st:σ}(P:β->γ->Prop)(h:∀b c,P b c->wpS M A E s (jp () b c) Q st)(k:(∀b c,P b c->wpS M A E s (jp () b c) Q st)->wpS M A E s m Q st):wpS M A E s m Q st:=k h
theorem mz {σ β:Type}{M:Model}{b:Nat}{f:Nat->β->StateT σ Sem (ForInStep β)}(I:Nat->β->σ->Prop)(Q:β->σ->Prop)
  {P:β->σ->Prop} {c:β} {st:σ} (h:I 0 c st)
  (hs:∀i c st (R:ForInStep β->σ->Prop),(∀c st,Q c st->R (.done c) st)->(∀c st,I (i+1) c st->R (.yield c) st)->i<b->I i c st->wpS M A E s (f i c) R st)
  (he:∀c st,I b c st->Q c st) (hp:∀c st,Q c st->P c st):wpS M A E s (forIn [0:b] c f) P st:=
 Ub (Uc I (fun i c st _ hb hi=>hs i c st _ (fun _ _ h=>h) (fun _ _ h=>h) hb hi) (fun c st h=>he c st (by rwa[Nat.zero_max] at h)) h) hp
theorem rel {p:Nat->Prop}{u a b:Nat}(h:∀i,a<=i->i<b->p (u+i))(i:Nat)(h1:u+a<=i)(h2:i<u+b):p i:=by have:=h (i-u) (by lia) (by lia);rwa[show u+(i-u)=i by lia] at this
def LR (κ:SortKind)(it:Array Keyed)(st:SortSt)(le:Nat->Nat->Prop)(X Y:Array Nat)(r:Option (Array Keyed))(st2:SortSt):Prop:=∃R,r=some (R.map (kas_item it))/\kX le (X.toList++Y.toList) R/\Same κ st st2
def LI (κ:SortKind)(st:SortSt)(le:Nat->Nat->Prop)(X Y:Array Nat)(v:Nat)(st2:SortSt)(O:Array Nat)(ia ib:Nat):Prop:=Same κ st st2/\ia+1<X.size/\ib<Y.size/\v<=ia+ib/\J le (X.toList++Y.toList) X Y O ia ib
theorem Gr (o:Ord lt le)(hc:vZ prog w A s κ it n lt){X Y:Array Nat}{Q:Array Keyed->SortSt->Prop}{st:SortSt}(hk:kindOf st=κ)(hx:∀i,i<X.size->at' X i<n)(hy:∀i,i<Y.size->at' Y i<n)
  (x1:1<=X.size) (y1:1<=Y.size) (sx:∀i j,i<=j->j<X.size->le (at' X i) (at' X j)) (sy:∀i j,i<=j->j<Y.size->le (at' Y i) (at' Y j)) (hf:∀i,i<X.size->le (at' Y 0) (at' X i)) (hl:∀i,i<Y.size->le (at' Y i) (at' X (X.size-1)))
  (h:∀R st',Same κ st st'->kX le (X.toList++Y.toList) R->Q (R.map (kas_item it)) st') :
  wpS (model prog w) A E s (HX (X.map (kas_item it)) (Y.map (kas_item it))) Q st:=by
 have sm0:Same κ st st:=⟨hk,rfl,rfl,rfl⟩
 have hl':∀ia,ia+1=X.size->∀i,i<Y.size->le (at' Y i) (at' X ia):=fun ia e i hi=>by have:=hl i hi;rwa[<- e] at this
 have fin:∀ {O:Array Keyed} {R},O=R.map (kas_item it)->∀ {st'},Same κ st st'->kX le (X.toList++Y.toList) R->Q O st':=fun e _ sm g=>e▸h _ _ sm g;have j0:J le (X.toList++Y.toList) X Y #[] 0 0:=⟨by simpa using Ee sx,by simpa using Ee sy,by simp⟩
 have j1:J le (X.toList++Y.toList) X Y #[at' Y 0] 0 1:=(j0.sy.one (by lia) fun i _ h2=>hf i h2).sy;refine Tq (Va (UX ⟨rfl,?_⟩));refine Tq (bG (by lia) ?_);dsimp -zeta only;simp -zeta only[Array.size_map,Ur];refine bN (fun e=>Tr (fin ?_ sm0 (j1.done1 (by lia) (by lia)))) fun e1=>bN (fun e=>Tr (fin ?_ sm0 (j1.last (by lia) (by lia) (hl' 0 (by lia))))) fun e2=>?_
 ·simp[exm]
 ·simp[exm]
 refine Tq (Ux (Tq (mz (fun x c st2=>∃O ia ib g,c=(none,O.map (kas_item it),ia,ib,g)/\LI κ st le X Y (x+1) st2 O ia ib) (fun c st2=>LR κ it st le X Y c.1 st2) ⟨#[at' Y 0],0,1,_,by simp;rfl,sm0,by lia,by lia,by lia,j1⟩ ?s1 ?f1 ?p1)))
 case f1=>
  rintro c st2 ⟨O,ia,ib,g,rfl,sm,la,lb,ls,j⟩;lia
 case p1=>
  rintro⟨c,c'⟩ st2 ⟨R,rfl,hR,sm⟩;exact Tr (h R st2 sm hR)
 rintro x c st2 QQ hD hY hx0 ⟨O,ia,ib,g,rfl,L⟩;refine Tq (mz (fun y c st2=>∃O ia ib a b,c=(none,O.map (kas_item it),ia,ib,a,b)/\LI κ st le X Y (x+1+y) st2 O ia ib) (fun c st2=>LR κ it st le X Y c.1 st2\/∃O ia ib a b,c=(none,O.map (kas_item it),ia,ib,a,b)/\LI κ st le X Y (x+2) st2 O ia ib) ⟨O,ia,ib,0,0,rfl,L⟩ ?s2 ?f2 ?p2)
 case f2=>
  rintro c st2 ⟨O,ia,ib,a,b,rfl,sm,la,lb,ls,j⟩;lia
 case s2=>
  clear hD hY;rintro y c st2 QQ hD hY hy0 ⟨O,ia,ib,a,b,rfl,sm,la,lb,ls,j⟩;have la':ia<X.size:=by lia
  refine Tq (bG lb (Tq (bG la' (Tq (w_lt hc sm.1 (hy ib lb) (hx ia la') ?_)))));dsimp -zeta only;cases cw:lt (at' Y ib) (at' X ia) with
  |true=>
   have j2:J le (X.toList++Y.toList) X Y (O.push (at' Y ib)) ia (ib+1):=(j.sy.one lb fun i h1 h2=>o.tr _ _ _ (o.yes _ _ cw) (sx _ _ h1 h2)).sy;rw[Tn rfl];refine Tq (bG lb (bN (fun e=>Tr (hD _ _ (.inl ⟨_,?_,j2.done1 (by lia) (by lia),sm⟩))) fun e=>km (Tr (hD _ _ (.inr ⟨_,ia,ib+1,_,_,by rw[<- UC],sm,la,by lia,by lia,j2⟩))) (Tr (hY _ _ ⟨_,ia,ib+1,_,_,by rw[<- UC],sm,la,by lia,by lia,j2⟩))));simp
  |false=>have j2:=j.one la' fun i h1 h2=>o.tr _ _ _ (o.no _ _ cw) (sy _ _ h1 h2);rw[To (by decide)];refine Tq (bG la' (bN (fun e=>Tr (hD _ _ (.inl ⟨_,?_,j2.last e (by lia) (hl' _ e),sm⟩))) fun e=>km (Tr (hD _ _ (.inr ⟨_,ia+1,ib,_,_,by rw[<- UC],sm,by lia,lb,by lia,j2⟩))) (Tr (hY _ _ ⟨_,ia+1,ib,_,_,by rw[<- UC],sm,by lia,lb,by lia,j2⟩))));simp
 case p2=>
  clear L;rintro⟨c,c'⟩ st2 (⟨R,rfl,hR,sm⟩|⟨O,ia,ib,a,b,hcc,L⟩)
  ·exact Tr (hD _ _ ⟨R,rfl,hR,sm⟩)
  cases hcc;refine Tq (Va (UX ⟨rfl,Tq (mz (fun y c st2=>∃O ia ib m a b,c=(none,O.map (kas_item it),ia,ib,m,a,b)/\LI κ st le X Y (x+2) st2 O ia ib) (fun c st2=>LR κ it st le X Y c.1 st2\/∃O ia ib m a b,c=(none,O.map (kas_item it),ia,ib,m,a,b)/\LI κ st le X Y (x+2) st2 O ia ib) ⟨O,ia,ib,_,_,_,rfl,L⟩ ?s3 (fun _ _ h=>.inr h) ?p3)⟩))
  case p3=>
   rintro⟨c,c'⟩ st2 (⟨R,rfl,hR,sm⟩|⟨O,ia,ib,m,a,b,hcc,sm,L⟩)
   ·exact Tr (hD _ _ ⟨R,rfl,hR,sm⟩)
   cases hcc;exact Tq (Uu (Tr (hY _ _ ⟨O,ia,ib,_,rfl,sm.g _,L⟩)))
  clear hD hY L;rintro y c st2 QQ hD hY hy0 ⟨O,ia,ib,m,a,b,rfl,sm,la,lb,ls,j⟩;have dR:∀ {R' R t st2},R'=R.map (kas_item it)->Same κ st st2->kX le (X.toList++Y.toList) R->QQ (.done (some R',t)) st2:=fun e sm g=>hD _ _ (.inl ⟨_,TQ some e,g,sm⟩);dsimp -zeta only
  extract_lets -underBinder s1 out s2 ia2 s3 ib2 s4 mg s5 ac bc jp
  refine Ew fun g=>?_;replace sm:=sm.g g;refine Tq (Uu (Tq (bG lb (Tq (jU o hc sm.1 hx (hy ib lb) (show ia+(X.size-ia)<=X.size by lia) (show 0<X.size-ia by lia) (fun i k h1 h2=>sx (ia+i) (ia+k) (by lia) (show ia+k<X.size by change k<X.size-ia at h2;lia)) fun k k1 k2 k3=>?_)))));replace k2:=rel (p:=fun i=>le (at' X i) (at' Y ib)) (a:=0) fun i _ h=>k2 i h;replace k3:∀i,ia+k<=i->i<X.size->le (at' Y ib) (at' X i):=fun i h1 h2=>rel (p:=fun i=>le (at' Y ib) (at' X i)) k3 i h1 (show i<ia+(X.size-ia) by lia);dsimp -zeta only
  extract_lets -underBinder ac2 jp2
  refine zR (jp:=jp2) (fun O' i=>∃O,O'=O.map (kas_item it)/\i+1<X.size/\x+2<=i+ib/\J le (X.toList++Y.toList) X Y O i ib/\∀l,i<=l->l<X.size->le (at' Y ib) (at' X l)) ?_ fun hj=>?_
  ·rintro O' i ⟨O,rfl,la,ls,j,ky⟩;have j2:J le (X.toList++Y.toList) X Y (O.push (at' Y ib)) i (ib+1):=(j.sy.one lb ky).sy;have li:i<X.size:=by lia
   refine Tq (bG lb (bN (fun e=>Tr (dR ?_ sm (j2.done1 (Us e.symm) (by lia)))) fun e=>Tq (bG li (Tq (jU o hc sm.1 hy (hx i li) (show ib+1+(Y.size-(ib+1))<=Y.size by lia) (show 0<Y.size-(ib+1) by change ¬ib+1=Y.size at e;lia) (fun i k h1 h2=>sy (ib+1+i) (ib+1+k) (by lia) (show ib+1+k<Y.size by change k<Y.size-(ib+1) at h2;lia)) fun k k1 k2 k3=>?_)))))
   ·simp +zetaDelta
   replace k2:=rel (p:=fun l=>le (at' Y l) (at' X i)) (u:=ib+1) (a:=0) fun i _ h=>k2 i h;replace k3:∀l,ib+1+k<=l->l<Y.size->le (at' X i) (at' Y l):=fun l h1 h2=>rel (p:=fun l=>le (at' X i) (at' Y l)) (u:=ib+1) k3 l h1 (show l<ib+1+(Y.size-(ib+1)) by lia);dsimp -zeta only
   extract_lets -underBinder bc2 jp3
   refine zR (jp:=jp3) (fun O' l=>∃O,O'=O.map (kas_item it)/\l<Y.size/\ib<l/\J le (X.toList++Y.toList) X Y O i l/\∀i',l<=i'->i'<Y.size->le (at' X i) (at' Y i')) ?_ fun hj=>?_
   ·rintro O' l ⟨O,rfl,lb,lc,j,ky⟩;have j2:=j.one li ky;refine Tq (bG li (bN (fun e=>Tr (dR ?_ sm (j2.last e (by lia) (hl' _ e)))) fun e=>km (Tr (hD _ _ (.inr ⟨_,i+1,l,_,_,_,by rw[<- UC],sm,by lia,lb,by lia,j2⟩))) (Tr (hY _ _ ⟨_,i+1,l,_,_,_,by rw[<- UC],sm,by lia,lb,by lia,j2⟩))));simp
   have j3:J le (X.toList++Y.toList) X Y (O.push (at' Y ib)++Y.extract (ib+1) (ib+1+k)) i (ib+1+k):=(j2.sy.blk fun i' l h1 h2 h3 h4 h5=>o.tr _ _ _ (k2 i' h1 h2) (sx _ _ h4 h5)).sy;refine bN (fun k0=>bN (fun e=>Tr (dR ?_ sm (j3.done1 (Us e.symm) (Uv li)))) fun e=>hj _ _ ⟨_,?_,Nat.lt_of_le_of_ne (show ib+1+k<=Y.size by change k<=Y.size-(ib+1) at k1;lia) e,show ib<ib+1+k by lia,j3,k3⟩) fun k0=>hj _ _ ⟨O.push (at' Y ib),?_,Nat.lt_of_le_of_ne lb e,U7 ib,j2,fun l h1 h2=>k3 l (show ib+1+k<=l by change ib+1<=l at h1;lia) h2⟩
   ·simp +zetaDelta
   ·simp +zetaDelta
   ·simp +zetaDelta
  have j3:=j.blk (m:=k) fun i l h1 h2 h3 h4 h5=>o.tr _ _ _ (k2 i h1 h2) (sy _ _ h4 h5);have kk:ia+k<=X.size:=by change k<=X.size-ia at k1;lia
  refine bN (fun k0=>bN (fun e=>Tr (dR ?_ sm (j3.last e (by lia) (hl' _ e)))) fun e=>bN (fun e2=>Tr (dR ?_ sm (j3.done2 (Us e2.symm) (by lia)))) fun e2=>hj _ _ ⟨_,?_,show ia+k+1<X.size by change ¬ia+k+1=X.size at e;change ¬ia+k=X.size at e2;lia,show x+2<=ia+k+ib by lia,j3,k3⟩) fun k0=>hj _ _ ⟨O,rfl,la,ls,j,fun l h1 h2=>k3 l (show ia+k<=l by change ia<=l at h1;lia) h2⟩
  ·simp +zetaDelta
  ·simp +zetaDelta
  ·simp +zetaDelta
end
section
variable {X Y O:Array Nat}{le:Nat->Nat->Prop}{tot:List Nat}{na nb:Nat}
theorem Eu {i:Nat}(h:i<X.size):X.toList.take (i+1)=X.toList.take i++[at' X i]:=by rw[List.take_succ_eq_append_getElem (by simpa using h),jY h]
theorem lZ {i j:Nat}(h:i<=j):X.toList.take j=X.toList.take i++(X.extract i j).toList:=by
 rw[VS,VT];have e:j=i+(j-i):=by lia
 conv=>lhs;rw[e,List.take_add]
theorem uY {i x:Nat}(h:x∈X.toList.take i):∃j,j<i/\j<X.size/\at' X j=x:=by
 obtain⟨k,hk⟩:=UB h;rw[We] at hk;split at hk
 ·obtain⟨h1,h2⟩:=TR.mp hk;have h1':k<X.size:=by simpa using h1
  exact⟨k,by lia,h1',by rw[<- jY h1'];exact h2⟩
 ·cases hk
abbrev JH (le:Nat->Nat->Prop)(tot:List Nat)(X Y O:Array Nat)(na nb:Nat):Prop:=Inv (fun a b=>le b a) tot O.toList (X.toList.take na).reverse (Y.toList.take nb).reverse
theorem JH.sy (j:JH le tot X Y O na nb):JH le tot Y X O nb na:=Inv.symm j
theorem JH.one (j:JH le tot X Y O na nb)(h:1<=na)(h2:na<=X.size)(k:∀i,i<nb->le (at' Y i) (at' X (na-1))):JH le tot X Y (O.push (at' X (na-1))) (na-1) nb:=by
 unfold JH at j ⊢;obtain⟨m,rfl⟩:∃m,na=m+1:=⟨na-1,by lia⟩
 rw[Eu (by lia),List.reverse_append] at j;rw[Nat.add_sub_cancel] at k ⊢;have:=Inv.block (xs:=[at' X m]) j (fun x hx y hy=>by
  rw[Ts] at hx;subst hx;obtain⟨i,h1,h2,rfl⟩:=uY (Wf.mp hy)
  exact k i h1)
 rwa[VF]
theorem JH.blk {m:Nat}(j:JH le tot X Y O na nb)(h:m<=na)(h2:na<=X.size)(k:∀i l,m<=i->i<na->l<nb->le (at' Y l) (at' X i)):JH le tot X Y (O++(X.extract m na).reverse) m nb:=by
 unfold JH at j ⊢;rw[lZ h,List.reverse_append] at j;have:=Inv.block j (fun x hx y hy=>by
  obtain⟨i,h1,h2,h3,rfl⟩:=tE (Wf.mp hx);obtain⟨l,h4,h5,rfl⟩:=uY (Wf.mp hy)
  exact k i l h1 h2 h4)
 rwa[Vn,Array.toList_reverse]
theorem Bx {l r:List Nat}(h:l.Pairwise (fun a b=>le b a)/\l.Perm tot)(e:l=r.reverse):r.Pairwise le/\r.Perm tot:=by subst e;exact⟨Ww.mp h.1,(List.reverse_perm _).symm.trans h.2⟩
theorem MD (m:Nat):(X.extract 0 m).toList=X.toList.take m:=by rw[VS,VT];simp
theorem JH.done1 (j:JH le tot X Y O na nb)(h:nb=0)(h2:na<=X.size):kX le tot (X.extract 0 na++Y.extract 0 nb++O.reverse):=by subst h;refine Bx (l:=O.toList++(X.toList.take na).reverse) (Inv.doneA (by unfold JH at j;simpa using j)) ?_;simp[MD]
theorem JH.done2 (j:JH le tot X Y O na nb)(h:na=0)(h2:nb<=Y.size):kX le tot (X.extract 0 na++Y.extract 0 nb++O.reverse):=by have:=j.sy.done1 h h2;subst h;simpa using this
theorem JH.first (j:JH le tot X Y O na nb)(h:nb=1)(y1:1<=Y.size)(h2:na<=X.size)(k:∀i,i<X.size->le (at' Y 0) (at' X i)):kX le tot (Y.extract 0 nb++X.extract 0 na++O.reverse):=by
 subst h;have e:Y.toList.take 1=[at' Y 0]:=by rw[Eu (i:=0) (by lia)];simp
 have j2:Inv (fun a b=>le b a) tot O.toList [at' Y 0] (X.toList.take na).reverse:=by have:=j.sy;unfold JH at this;rw[e] at this;exact this
 refine Bx (j2.lastA fun y hy=>?_) ?_
 ·obtain⟨i,h1,h2,rfl⟩:=uY (Wf.mp hy);exact k i h2
 ·rw[Vn,Vn,MD,MD,e];simp
end
section
variable {prog:Program}{w:World}{A:Around}{E:Value->Shared->Prop}{s:Shared}{κ:SortKind}{it:Array Keyed}{n:Nat}{lt:Nat->Nat->Bool}{le:Nat->Nat->Prop}
def HI (κ:SortKind)(st:SortSt)(le:Nat->Nat->Prop)(X Y:Array Nat)(v:Nat)(st2:SortSt)(O:Array Nat)(na nb:Nat):Prop:=Same κ st st2/\1<=na/\1<nb/\na<X.size/\nb<=Y.size/\na+nb+v<=X.size+Y.size/\JH le (X.toList++Y.toList) X Y O na nb
theorem Gq (o:Ord lt le)(hc:vZ prog w A s κ it n lt){X Y:Array Nat}{Q:Array Keyed->SortSt->Prop}{st:SortSt}(hk:kindOf st=κ)(hx:∀i,i<X.size->at' X i<n)(hy:∀i,i<Y.size->at' Y i<n)
  (x1:1<=X.size) (y1:1<=Y.size) (sx:∀i j,i<=j->j<X.size->le (at' X i) (at' X j)) (sy:∀i j,i<=j->j<Y.size->le (at' Y i) (at' Y j)) (hf:∀i,i<X.size->le (at' Y 0) (at' X i)) (hl:∀i,i<Y.size->le (at' Y i) (at' X (X.size-1)))
  (h:∀R st',Same κ st st'->kX le (X.toList++Y.toList) R->Q (R.map (kas_item it)) st') :
  wpS (model prog w) A E s (HW (X.map (kas_item it)) (Y.map (kas_item it))) Q st:=by
 have sm0:Same κ st st:=⟨hk,rfl,rfl,rfl⟩
 have fin:∀ {O:Array Keyed} {R},O=R.map (kas_item it)->∀ {st'},Same κ st st'->kX le (X.toList++Y.toList) R->Q O st':=fun e _ sm g=>e▸h _ _ sm g;have j0:JH le (X.toList++Y.toList) X Y #[] X.size Y.size:=by unfold JH;rw[VV (by simp),VV (by simp)];exact⟨by simpa using Ww.mpr (Ee sx),by simpa using Ww.mpr (Ee sy),by simpa using (List.reverse_perm X.toList).append (List.reverse_perm Y.toList)⟩
 have j1:JH le (X.toList++Y.toList) X Y #[at' X (X.size-1)] (X.size-1) Y.size:=j0.one x1 (Tw _) fun i h2=>hl i h2;refine Tq (Va (UX ⟨rfl,?_⟩));simp -zeta only[Array.size_map,Ur];refine Tq (bG (X:=X) (k:=X.size-1) (by lia) (bN (fun e=>Tr (fin ?_ sm0 (j1.done2 e (by lia)))) fun e1=>bN (fun e=>Tr (fin ?_ sm0 (j1.first e (by lia) (by lia) hf))) fun e2=>?_))
 ·simp[exm]
 ·simp[exm]
 refine Tq (Ux (Tq (mz (fun x c st2=>∃O na nb g,c=(none,na,nb,O.map (kas_item it),g)/\HI κ st le X Y (x+1) st2 O na nb) (fun c st2=>LR κ it st le X Y c.1 st2) ⟨#[at' X (X.size-1)],X.size-1,Y.size,_,by simp;rfl,sm0,by lia,by lia,by lia,by lia,by lia,j1⟩ ?s1 ?f1 ?p1)))
 case f1=>
  rintro c st2 ⟨O,na,nb,g,rfl,sm,la,lb,lx,ly,ls,j⟩;lia
 case p1=>
  rintro⟨c,c'⟩ st2 ⟨R,rfl,hR,sm⟩;exact Tr (h R st2 sm hR)
 rintro x c st2 QQ hD hY hx0 ⟨O,na,nb,g,rfl,L⟩;refine Tq (mz (fun y c st2=>∃O na nb a b,c=(none,na,nb,O.map (kas_item it),a,b)/\HI κ st le X Y (x+1+y) st2 O na nb) (fun c st2=>LR κ it st le X Y c.1 st2\/∃O na nb a b,c=(none,na,nb,O.map (kas_item it),a,b)/\HI κ st le X Y (x+2) st2 O na nb) ⟨O,na,nb,0,0,rfl,L⟩ ?s2 ?f2 ?p2)
 case f2=>
  rintro c st2 ⟨O,na,nb,a,b,rfl,sm,la,lb,lx,ly,ls,j⟩;lia
 case s2=>
  clear hD hY;rintro y c st2 QQ hD hY hy0 ⟨O,na,nb,a,b,rfl,sm,la,lb,lx,ly,ls,j⟩;have la':na-1<X.size:=by lia
  have lb':nb-1<Y.size:=by lia
  refine Tq (bG lb' (Tq (bG la' (Tq (w_lt hc sm.1 (hy (nb-1) lb') (hx (na-1) la') ?_)))));dsimp -zeta only;cases cw:lt (at' Y (nb-1)) (at' X (na-1)) with
  |true=>
   have j2:=j.one la (by lia) fun i h1=>o.tr _ _ _ (sy i (nb-1) (by lia) lb') (o.yes _ _ cw);rw[Tn rfl];refine Tq (bG la' (bN (fun e=>Tr (hD _ _ (.inl ⟨_,?_,j2.done2 e ly,sm⟩))) fun e=>km (Tr (hD _ _ (.inr ⟨_,na-1,nb,_,_,by rw[<- UC],sm,by lia,lb,la',ly,by lia,j2⟩))) (Tr (hY _ _ ⟨_,na-1,nb,_,_,by rw[<- UC],sm,by lia,lb,la',ly,by lia,j2⟩))));simp[UY]
  |false=>have j2:JH le (X.toList++Y.toList) X Y (O.push (at' Y (nb-1))) na (nb-1):=(j.sy.one (by lia) (by lia) fun i h1=>o.tr _ _ _ (sx i (na-1) (by lia) la') (o.no _ _ cw)).sy;rw[To (by decide)];refine Tq (bG lb' (bN (fun e=>Tr (hD _ _ (.inl ⟨_,?_,j2.first e y1 (by lia) hf,sm⟩))) fun e=>km (Tr (hD _ _ (.inr ⟨_,na,nb-1,_,_,by rw[<- UC],sm,la,by lia,lx,by lia,by lia,j2⟩))) (Tr (hY _ _ ⟨_,na,nb-1,_,_,by rw[<- UC],sm,la,by lia,lx,by lia,by lia,j2⟩))));simp[UY]
 case p2=>
  clear L;rintro⟨c,c'⟩ st2 (⟨R,rfl,hR,sm⟩|⟨O,na,nb,a,b,hcc,L⟩)
  ·exact Tr (hD _ _ ⟨R,rfl,hR,sm⟩)
  cases hcc;refine Tq (Va (UX ⟨rfl,Tq (mz (fun y c st2=>∃O na nb m a b,c=(none,na,nb,O.map (kas_item it),m,a,b)/\HI κ st le X Y (x+2) st2 O na nb) (fun c st2=>LR κ it st le X Y c.1 st2\/∃O na nb m a b,c=(none,na,nb,O.map (kas_item it),m,a,b)/\HI κ st le X Y (x+2) st2 O na nb) ⟨O,na,nb,_,_,_,rfl,L⟩ ?s3 (fun _ _ h=>.inr h) ?p3)⟩))
  case p3=>
   rintro⟨c,c'⟩ st2 (⟨R,rfl,hR,sm⟩|⟨O,na,nb,m,a,b,hcc,sm,L⟩)
   ·exact Tr (hD _ _ ⟨R,rfl,hR,sm⟩)
   cases hcc;exact Tq (Uu (Tr (hY _ _ ⟨O,na,nb,_,rfl,sm.g _,L⟩)))
  clear hD hY L;rintro y c st2 QQ hD hY hy0 ⟨O,na,nb,m,a,b,rfl,sm,la,lb,lx,ly,ls,j⟩;have dR:∀ {R' R t st2},R'=R.map (kas_item it)->Same κ st st2->kX le (X.toList++Y.toList) R->QQ (.done (some R',t)) st2:=fun e sm g=>hD _ _ (.inl ⟨_,TQ some e,g,sm⟩);have lb':nb-1<Y.size:=by lia
  dsimp -zeta only
  extract_lets -underBinder s1 na2 s2 nb2 s3 out s4 mg s5 ac bc jp
  refine Ew fun g=>?_;replace sm:=sm.g g;refine Tq (Uu (Tq (bG lb' (Tq (jU o hc sm.1 hx (hy (nb-1) lb') (show 0+na<=X.size by lia) (show na-1<na by lia) (fun i k h1 h2=>sx (0+i) (0+k) (by lia) (show 0+k<X.size by change k<na at h2;lia)) fun k k1 k2 k3=>?_)))));simp only[Nat.zero_add] at k2 k3;change k<=na at k1;dsimp -zeta only
  extract_lets -underBinder kk ac2 jp2
  refine zR (jp:=jp2) (fun i O'=>∃O,O'=O.map (kas_item it)/\1<=i/\i<X.size/\i+nb+(x+2)<=X.size+Y.size/\JH le (X.toList++Y.toList) X Y O i nb/\∀l,l<i->le (at' X l) (at' Y (nb-1))) ?_ fun hj=>?_
  ·rintro i O' ⟨O,rfl,la,lx,ls,j,ky⟩;have j2:JH le (X.toList++Y.toList) X Y (O.push (at' Y (nb-1))) i (nb-1):=(j.sy.one (by lia) (by lia) ky).sy;have li:i-1<X.size:=by lia
   refine Tq (bG lb' (bN (fun e=>Tr (dR ?_ sm (j2.first e y1 (by lia) hf))) fun e=>Tq (bG li (Tq (jU o hc sm.1 hy (hx (i-1) li) (show 0+(nb-1)<=Y.size by lia) (show nb-1-1<nb-1 by lia) (fun i k h1 h2=>sy (0+i) (0+k) (by lia) (show 0+k<Y.size by change k<nb-1 at h2;lia)) fun k k1 k2 k3=>?_)))))
   ·simp +zetaDelta [UY]
   simp only[Nat.zero_add] at k2 k3;change k<=nb-1 at k1;dsimp -zeta only
   extract_lets -underBinder kk bc2 jp3
   refine zR (jp:=jp3) (fun l O'=>∃O,O'=O.map (kas_item it)/\1<l/\l<nb/\JH le (X.toList++Y.toList) X Y O i l/\∀i',i'<l->le (at' Y i') (at' X (i-1))) ?_ fun hj=>?_
   ·rintro l O' ⟨O,rfl,lb,lc,j,ky⟩;have j2:=j.one la (by lia) ky;refine Tq (bG li (bN (fun e=>Tr (dR ?_ sm (j2.done2 e (by lia)))) fun e=>km (Tr (hD _ _ (.inr ⟨_,i-1,l,_,_,_,by rw[<- UC],sm,by lia,lb,li,by lia,by lia,j2⟩))) (Tr (hY _ _ ⟨_,i-1,l,_,_,_,by rw[<- UC],sm,by lia,lb,li,by lia,by lia,j2⟩))));simp[UY]
   have j3:JH le (X.toList++Y.toList) X Y (O.push (at' Y (nb-1))++(Y.extract k (nb-1)).reverse) i k:=(j2.sy.blk (by lia) (by lia) fun i' l h1 h2 h3=>o.tr _ _ _ (sx l (i-1) (by lia) li) (k3 i' h1 h2)).sy;refine bN (fun k0=>bN (fun e=>Tr (dR ?_ sm (j3.first e y1 (by lia) hf))) fun e=>bN (fun e2=>Tr (dR ?_ sm (j3.done1 e2 (by lia)))) fun e2=>hj _ _ ⟨_,?_,show 1<k by change ¬k=1 at e;change ¬k=0 at e2;lia,by lia,j3,k2⟩) fun k0=>hj _ _ ⟨O.push (at' Y (nb-1)),?_,show 1<nb-1 by change ¬nb-1=1 at e;lia,show nb-1<nb by lia,j2,fun l h1=>k2 l (show l<k by change l<nb-1 at h1;change ¬nb-1-k > 0 at k0;lia)⟩
   ·simp +zetaDelta [UY]
   ·simp +zetaDelta [UY]
   ·simp +zetaDelta [UY]
   ·simp +zetaDelta
  have j3:=j.blk (m:=k) k1 (by lia) fun i l h1 h2 h3=>o.tr _ _ _ (sy l (nb-1) (by lia) lb') (k3 i h1 h2);refine bN (fun k0=>bN (fun e=>Tr (dR ?_ sm (j3.done2 e ly))) fun e=>hj _ _ ⟨_,?_,Nat.pos_of_ne_zero e,show k<X.size by lia,show k+nb+(x+2)<=X.size+Y.size by lia,j3,k2⟩) fun k0=>hj _ _ ⟨O,rfl,la,lx,ls,j,fun l h1=>k2 l (show l<k by change l<na at h1;change ¬na-k > 0 at k0;lia)⟩
  ·simp +zetaDelta [UY]
  ·simp +zetaDelta [UY]
end
section
variable {α:Type}
theorem IP (lo:Nat):∀(R:List α) (p:Array α) (j:Nat),lo+j+R.length<=p.size->((R.zipIdx j).foldl (fun a x=>a.setIfInBounds (lo+x.2) x.1) p).toList=p.toList.take (lo+j)++R++p.toList.drop (lo+j+R.length)
 |[],p,j,_=>by simp
 |r::R,p,j,h=>by
  have hl:lo+j<p.toList.length:=by simp at h ⊢;lia
  rw[List.zipIdx_cons,List.foldl_cons,IP lo R _ (j+1) (by simp at h ⊢;lia)];have e1:(p.setIfInBounds (lo+j) r).toList=p.toList.set (lo+j) r:=by simp
  have e2:(p.toList.set (lo+j) r).take (lo+(j+1))=p.toList.take (lo+j)++[r]:=by rw[<- Nat.add_assoc,List.take_succ_eq_append_getElem (by simpa using hl),List.take_set_of_le (Tw _)];simp
  have e3:(p.toList.set (lo+j) r).drop (lo+(j+1)+R.length)=p.toList.drop (lo+j+(r::R).length):=by rw[List.drop_set_of_lt (by lia),Tz];congr 1;lia
  rw[e1,e2,e3];simp
end
section
variable {prog:Program}{w:World}{A:Around}{E:Value->Shared->Prop}{s:Shared}{κ:SortKind}{it:Array Keyed}{n:Nat}{lt:Nat->Nat->Bool}{le:Nat->Nat->Prop}
def Stt (κ:SortKind)(it:Array Keyed)(st:SortSt)(p:Array Nat)(pend:Array (Nat×Nat×Nat)):Prop:=kindOf st=κ/\arrOf st=p.map (kas_item it)/\pendingOf st=pend/\failedOf st=none
structure Srtd (le:Nat->Nat->Prop) (p p':Array Nat) (lo hi:Nat):Prop where
 perm:p'.Perm p
 out:∀k,k<lo\/hi<=k->at' p' k=at' p k
 asc:∀i j,lo<=i->i<=j->j<hi->le (at' p' i) (at' p' j)
theorem LJ {σ:Type}  {x:σ}{Q:PUnit->σ->Prop}{st:σ}(h:Q ⟨⟩ x):wpS M A E s (set x:StateT σ Sem PUnit) Q st:=by unfold wpS;rw[StateT.run_set];exact Tv ⟨rfl,h⟩
theorem QG (l:List Nat)(k:Nat):at' l.toArray k=(l[k]?).getD 0:=by simp[at']
theorem Mr (p:Array Nat)(k:Nat):at' p k=(p.toList[k]?).getD 0:=by simp[at']
theorem C4 {p:Array Nat}{R:List Nat}{lo:Nat}(h:lo+R.length<=p.size)(k:Nat):at' (p.toList.take lo++R++p.toList.drop (lo+R.length)).toArray k=if lo<=k/\k<lo+R.length then (R[k-lo]?).getD 0 else at' p k:=by
 rw[QG,Mr];have hl:(p.toList.take lo).length=lo:=by rw[Vx];simp;lia
 by_cases h1:k<lo
 ·rw[To (by lia),T8,Vy (by lia),We,Tn h1]
 ·by_cases h2:k<lo+R.length
  ·rw[Tn ⟨by lia,h2⟩,T8,Vk (by lia),hl,Vy (by lia)]
  ·rw[To (by lia),Vk (by rw[Tu,hl];lia),Tu,hl,VU];congr 2;lia
theorem IR {p:Array Nat}{R:List Nat}{lo:Nat}(h:R.Perm (p.extract lo (lo+R.length)).toList):(p.toList.take lo++R++p.toList.drop (lo+R.length)).toArray.Perm p:=by rw[VQ];show (p.toList.take lo++R++p.toList.drop (lo+R.length)).Perm p.toList;refine ((h.append_left _).append_right _).trans ?_;rw[<- lZ (by lia),Wv]
theorem GQ {p:Array Nat}{i j k:Nat}(h:i+k<j):at' (p.extract i j) k=at' p (i+k):=by rw[Mr,Mr,VS,VT,We,Tn (by lia),VU]
theorem BI {p:Array Nat}{i j:Nat}(h:j<=p.size):(p.extract i j).size=j-i:=by simp;lia
theorem Go (o:Ord lt le)(hc:vZ prog w A s κ it n lt){i sa na pw sb nb q:Nat}  {pend:Array (Nat×Nat×Nat)}{Q:Bool->SortSt->Prop}{st:SortSt}(S:Stt κ it st p pend)(h1:pend[i]?=some (sa,na,pw))(h2:pend[i+1]?=some (sb,nb,q))
  (hsb:sb=sa+na) (na1:1<=na) (nb1:1<=nb) (hz:sb+nb<=p.size) (hp:∀i,i<p.size->at' p i<n) (sA:∀i j,i<=j->j<na->le (at' p (sa+i)) (at' p (sa+j))) (sB:∀i j,i<=j->j<nb->le (at' p (sb+i)) (at' p (sb+j)))
  (h:∀p' st',Stt κ it st' p' ((pend.setIfInBounds i (sa,na+nb,pw)).eraseIdxIfInBounds (i+1))->Srtd le p p' sa (sa+(na+nb))->Q true st'):wpS (model prog w) A E s (mergeAt' i) Q st:=by
 obtain⟨S1,S2,S3,S4⟩:=S;refine Tq (Ux ?_);have S3':(sortPriv% PySem.Builtin.SortState.pending) st=pend:=S3;have S2':(sortPriv% PySem.Builtin.SortState.a) st=p.map (kas_item it):=S2;rw[S3',h1,h2];refine Tq (LJ ?_);rw[S2'];generalize hst:(sortPriv% PySem.Builtin.SortState.mk) _ _ _ _ _=st2;have T:Stt κ it st2 p ((pend.setIfInBounds i (sa,na+nb,pw)).eraseIdxIfInBounds (i+1)):=by subst hst;exact⟨S1,rfl,rfl,S4⟩
 clear hst S1 S2 S3 S4 S2' S3' h1 h2;generalize ((pend.setIfInBounds i (sa,na+nb,pw)).eraseIdxIfInBounds (i+1))=pend2 at T h;have sA':∀i j,sa<=i->i<=j->j<sb->le (at' p i) (at' p j):=fun i j a1 a2 a3=>by have:=sA (i-sa) (j-sa) (by lia) (by lia);rwa[show sa+(i-sa)=i by lia,show sa+(j-sa)=j by lia] at this
 have sB':∀i j,sb<=i->i<=j->j<sb+nb->le (at' p i) (at' p j):=fun i j a1 a2 a3=>by have:=sB (i-sb) (j-sb) (by lia) (by lia);rwa[show sb+(i-sb)=i by lia,show sb+(j-sb)=j by lia] at this
 refine Tq (bG (by lia) ?_);refine Tq (jU o hc T.1 hp (hp sb (by lia)) (by lia) (by lia) sA fun k k1 k2 k3=>?_);have k2':∀i,sa<=i->i<sa+k->le (at' p i) (at' p sb):=fun i a1 a2=>by have:=k2 (i-sa) (by lia);rwa[show sa+(i-sa)=i by lia] at this
 have k3':∀i,sa+k<=i->i<sb->le (at' p sb) (at' p i):=fun i a1 a2=>by have:=k3 (i-sa) (by lia) (by lia);rwa[show sa+(i-sa)=i by lia] at this
 clear k2 k3;dsimp only;simp only[Ur];by_cases e1:na-k=0
 ·rw[Tn e1];refine Tr (h p st2 T ⟨.refl _,fun _ _=>rfl,fun i j a1 a2 a3=>?_⟩);by_cases b1:j<sb
  ·exact sA' i j a1 a2 b1
  ·by_cases b2:sb<=i
   ·exact sB' i j b2 a2 (by lia)
   ·exact o.tr _ _ _ (k2' i a1 (by lia)) (sB' sb j (Tw _) (by lia) (by lia))
 rw[To e1];refine Tq (bG (by lia) ?_);have e2:sa+k+(na-k)-1=sb-1:=by lia
 rw[e2];refine Tq (jU o hc T.1 hp (hp (sb-1) (by lia)) (by lia) (by lia) sB fun m m1 k2 k3=>?_);have m2':∀i,sb<=i->i<sb+m->le (at' p i) (at' p (sb-1)):=fun i a1 a2=>by have:=k2 (i-sb) (by lia);rwa[show sb+(i-sb)=i by lia] at this
 have m3':∀i,sb+m<=i->i<sb+nb->le (at' p (sb-1)) (at' p i):=fun i a1 a2=>by have:=k3 (i-sb) (by lia) (by lia);rwa[show sb+(i-sb)=i by lia] at this
 clear k2 k3;dsimp only;by_cases e3:m=0
 ·rw[Tn e3];subst e3;refine Tr (h p st2 T ⟨.refl _,fun _ _=>rfl,fun i j a1 a2 a3=>?_⟩);by_cases b1:j<sb
  ·exact sA' i j a1 a2 b1
  ·by_cases b2:sb<=i
   ·exact sB' i j b2 a2 (by lia)
   ·exact o.tr _ _ _ (sA' i (sb-1) a1 (by lia) (by lia)) (m3' j (by lia) (by lia))
 rw[To e3];generalize hr:na-k=r;have hr1:na=k+r:=by lia
 have hr0:0<r:=by lia
 clear hr e1 e2;have zx:(p.extract (sa+k) sb).size=r:=by rw[BI (by lia)];lia
 have zy:(p.extract sb (sb+m)).size=m:=by rw[BI (by lia)];lia
 have ax:∀i,i<r->at' (p.extract (sa+k) sb) i=at' p (sa+k+i):=fun i hi=>GQ (by lia);have ay:∀i,i<m->at' (p.extract sb (sb+m)) i=at' p (sb+i):=fun i hi=>GQ (by lia);have exy:(p.extract (sa+k) sb).toList++(p.extract sb (sb+m)).toList=(p.extract (sa+k) (sb+m)).toList:=by have a1:=lZ (X:=p) (i:=sa+k) (j:=sb) (by lia);have a2:=lZ (X:=p) (i:=sb) (j:=sb+m) (by lia);have a3:=lZ (X:=p) (i:=sa+k) (j:=sb+m) (by lia);rw[a1,a3,T8] at a2;exact (List.append_cancel_left a2).symm
 have key:∀R:Array Nat,kX le ((p.extract (sa+k) sb).toList++(p.extract sb (sb+m)).toList) R->R.toList.length=r+m/\Srtd le p (p.toList.take (sa+k)++R.toList++p.toList.drop (sa+k+R.toList.length)).toArray sa (sa+(na+nb)):=fun R g=>by
  have hlen:R.toList.length=r+m:=by rw[g.2.length_eq,Tu,Ui,Ui,zx,zy]
  refine⟨hlen,?_,fun i hi=>?_,fun i j a1 a2 a3=>?_⟩
  ·refine IR ?_;rw[hlen,show sa+k+(r+m)=sb+m by lia,<- exy];exact g.2
  ·rw[C4 (by lia),To (by lia)]
  ·rw[C4 (by lia),C4 (by lia),hlen];have memR:∀i,i<r+m->∃c,(R.toList[i]?).getD 0=at' p c/\((sa+k<=c/\c<sb)\/(sb<=c/\c<sb+m)):=fun i hi=>by
    have hi':i<R.toList.length:=by lia
    have hm:R.toList[i]∈R.toList:=List.getElem_mem hi';have e:(R.toList[i]?).getD 0=R.toList[i]:=by rw[Uf hi'];rfl
    rw[e];rcases TB.mp (g.2.mem_iff.mp hm) with hm|hm
    ·obtain⟨c,c1,c2,c3,c4⟩:=tE hm;exact⟨c,c4.symm,.inl ⟨c1,c2⟩⟩
    ·obtain⟨c,c1,c2,c3,c4⟩:=tE hm;exact⟨c,c4.symm,.inr ⟨c1,c2⟩⟩
   by_cases b1:sa+k<=i/\i<sa+k+(r+m)
   ·rw[Tn b1];by_cases b2:sa+k<=j/\j<sa+k+(r+m)
    ·rw[Tn b2];by_cases b3:i=j
     ·subst b3;exact o.rf _
     ·have:=UW.mp g.1 (i-(sa+k)) (j-(sa+k)) (by lia) (by lia) (by lia);rw[Uf (by lia),Uf (by lia)];exact this
    ·rw[To b2];obtain⟨c,c1,c2⟩:=memR (i-(sa+k)) (by lia);rw[c1];rcases c2 with c2|c2
     ·exact o.tr _ _ _ (sA' c (sb-1) (by lia) (by lia) (by lia)) (m3' j (by lia) (by lia))
     ·exact sB' c j (by lia) (by lia) (by lia)
   ·rw[To b1];by_cases b2:sa+k<=j/\j<sa+k+(r+m)
    ·rw[Tn b2];obtain⟨c,c1,c2⟩:=memR (j-(sa+k)) (by lia);rw[c1];rcases c2 with c2|c2
     ·exact sA' i c (by lia) (by lia) (by lia)
     ·exact o.tr _ _ _ (k2' i (by lia) (by lia)) (sB' sb c (Tw _) (by lia) (by lia))
    ·rw[To b2];by_cases b3:j<sb
     ·exact sA' i j a1 a2 b3
     ·by_cases b4:sb<=i
      ·exact sB' i j b4 a2 (by lia)
      ·exact o.tr _ _ _ (k2' i a1 (by lia)) (sB' sb j (Tw _) (by lia) (by lia))
 have fin:∀(R:Array Nat) (st3:SortSt),Same κ st2 st3->kX le ((p.extract (sa+k) sb).toList++(p.extract sb (sb+m)).toList) R ->
   Q (failedOf st3).isNone (setArr st3 ((R.map (kas_item it)).toList.zipIdx.foldl (fun a x=>a.setIfInBounds (sa+k+x.2) x.1) (arrOf st3))):=fun R st3 sm g=>by
  obtain⟨hlen,S⟩:=key R g;have ea:arrOf st3=p.map (kas_item it):=sm.2.1.trans T.2.1;have ef:failedOf st3=none:=sm.2.2.2.trans T.2.2.2;rw[ef];refine h _ _ ⟨sm.1,?_,sm.2.2.1.trans T.2.2.1,ef⟩ S;show (R.map (kas_item it)).toList.zipIdx.foldl (fun a x=>a.setIfInBounds (sa+k+x.2) x.1) (arrOf st3)=_;rw[ea];apply Array.toList_inj.mp;rw[IP (sa+k) _ _ 0 (by simp at hlen ⊢;lia)];simp
 have cx:(p.map (kas_item it)).extract (sa+k) sb=(p.extract (sa+k) sb).map (kas_item it):=by simp
 have cy:(p.map (kas_item it)).extract sb (sb+m)=(p.extract sb (sb+m)).map (kas_item it):=by simp
 rw[cx,cy];have hx:∀i,i<(p.extract (sa+k) sb).size->at' (p.extract (sa+k) sb) i<n:=fun i hi=>by rw[ax i (by lia)];exact hp _ (by lia)
 have hy:∀i,i<(p.extract sb (sb+m)).size->at' (p.extract sb (sb+m)) i<n:=fun i hi=>by rw[ay i (by lia)];exact hp _ (by lia)
 have sx:∀i j,i<=j->j<(p.extract (sa+k) sb).size->le (at' (p.extract (sa+k) sb) i) (at' (p.extract (sa+k) sb) j):=fun i j a1 a2=>by rw[ax i (by lia),ax j (by lia)];exact sA' _ _ (by lia) (by lia) (by lia)
 have sy:∀i j,i<=j->j<(p.extract sb (sb+m)).size->le (at' (p.extract sb (sb+m)) i) (at' (p.extract sb (sb+m)) j):=fun i j a1 a2=>by rw[ay i (by lia),ay j (by lia)];exact sB' _ _ (by lia) (by lia) (by lia)
 have hf:∀i,i<(p.extract (sa+k) sb).size->le (at' (p.extract sb (sb+m)) 0) (at' (p.extract (sa+k) sb) i):=fun i a1=>by rw[ay 0 (by lia),ax i (by lia)];exact k3' _ (by lia) (by lia)
 have hl:∀i,i<(p.extract sb (sb+m)).size->le (at' (p.extract sb (sb+m)) i) (at' (p.extract (sa+k) sb) ((p.extract (sa+k) sb).size-1)):=fun i a1=>by rw[zx,ay i (by lia),ax _ (by lia),show sa+k+(r-1)=sb-1 by lia];exact m2' _ (by lia) (by lia)
 by_cases e4:r<=m
 ·rw[Tn e4];refine Tq (Gr o hc T.1 hx hy (by lia) (by lia) sx sy hf hl fun R st3 sm g=>?_);exact Tq (Uu (Tq (Ux (Tr (fin R st3 sm g)))))
 ·rw[To e4];refine Tq (Gq o hc T.1 hx hy (by lia) (by lia) sx sy hf hl fun R st3 sm g=>?_);exact Tq (Uu (Tq (Ux (Tr (fin R st3 sm g)))))
end
section
variable {le:Nat->Nat->Prop}{lt:Nat->Nat->Bool}{p p' p2:Array Nat}{a b c:Nat}
def Up (le:Nat->Nat->Prop)(p:Array Nat)(a b:Nat):Prop:=∀i j,a<=i->i<=j->j<b->le (at' p i) (at' p j)
def Dn (le:Nat->Nat->Prop)(p:Array Nat)(a b:Nat):Prop:=∀i j,a<=i->i<=j->j<b->le (at' p j) (at' p i)
def Es (le:Nat->Nat->Prop)(p:Array Nat)(a b:Nat):Prop:=∀k,a<=k->k<b->le (at' p k) (at' p (b-1))/\le (at' p (b-1)) (at' p k)
def Near (p p':Array Nat)(lo hi:Nat):Prop:=p'.Perm p/\∀k,k<lo\/hi<=k->at' p' k=at' p k
theorem Near.rf:Near p p a b:=⟨.refl _,fun _ _=>rfl⟩
theorem Near.tr (h:Near p p' a b)(h2:Near p' p2 a b):Near p p2 a b:=⟨h2.1.trans h.1,fun k hk=>(h2.2 k hk).trans (h.2 k hk)⟩
theorem Near.wide {d e:Nat}(h:Near p p' a b)(h1:d<=a)(h2:b<=e):Near p p' d e:=⟨h.1,fun k hk=>h.2 k (by lia)⟩
theorem Near.size (h:Near p p' a b):p'.size=p.size:=h.1.size_eq
theorem fB (h:b<=p.size):Near p (kas_rev p a b) a b:=⟨mirror_perm _ _ _ _,fun k hk=>by rw[bP h,To (by lia)]⟩
theorem A6 {d:Nat}(h:b<p.size)(hd:d<=b):Near p (bubble p b d) (b-d) (b+1):=⟨bubble_perm _ _ _,fun k hk=>by rw[p9 h hd,To (by lia),To (by lia)]⟩
theorem Up.succ (o:Ord lt le)(h:Up le p a b)(hab:a<b)(hl:le (at' p (b-1)) (at' p b)):Up le p a (b+1):=fun i j h1 h2 h3=>by
 by_cases e:j=b
 ·subst e;by_cases e2:i=j
  ·subst e2;exact o.rf _
  ·exact o.tr _ _ _ (h i (j-1) h1 (by lia) (by lia)) hl
 ·exact h i j h1 h2 (by lia)
theorem Dn.succ (o:Ord lt le)(h:Dn le p a b)(hab:a<b)(hl:le (at' p b) (at' p (b-1))):Dn le p a (b+1):=fun i j h1 h2 h3=>by
 by_cases e:j=b
 ·subst e;by_cases e2:i=j
  ·subst e2;exact o.rf _
  ·exact o.tr _ _ _ hl (h i (j-1) h1 (by lia) (by lia))
 ·exact h i j h1 h2 (by lia)
theorem Op (o:Ord lt le):Up le p a (a+1):=fun i j h1 h2 h3=>by
 have:i=j:=by lia
 subst this;exact o.rf _
theorem Up.of (h:Up le p a b)(k:∀i,a<=i->i<b->at' p' i=at' p i):Up le p' a b:=fun i j h1 h2 h3=>by rw[k i h1 (by lia),k j (by lia) h3];exact h i j h1 h2 h3
theorem Dn.rev (o:Ord lt le)(h:Dn le p a b)(hb:b<=p.size)(hc:a<=c)(he:Es le p c b):Dn le (kas_rev p c b) a b:=by
 have key:∀k,a<=k->k<b->∃k',a<=k'/\k'<b/\at' (kas_rev p c b) k=at' p k'/\le (at' p k') (at' p k)/\le (at' p k) (at' p k'):=fun k hk0 hk=>by
  rw[bP hb];split
  ·rename_i h1;refine⟨c+b-1-k,by lia,by lia,rfl,?_⟩;obtain⟨a1,a2⟩:=he k h1.1 hk;obtain⟨b1,b2⟩:=he (c+b-1-k) (by lia) (by lia);exact⟨o.tr _ _ _ b1 a2,o.tr _ _ _ a1 b2⟩
  ·exact⟨k,hk0,hk,rfl,o.rf _,o.rf _⟩
 intro i j h0 hij hj;obtain⟨i',_,_,e1,x1,x2⟩:=key i h0 (by lia);obtain⟨j',_,_,e2,y1,y2⟩:=key j (by lia) hj;rw[e1,e2];exact o.tr _ _ _ y1 (o.tr _ _ _ (h i j h0 hij hj) x2)
theorem Dn.turn (h:Dn le p a b)(hb:b<=p.size):Up le (kas_rev p a b) a b:=by intro i j h0 hij hj;rw[bP hb,bP hb,Tn ⟨h0,by lia⟩,Tn ⟨by lia,hj⟩];exact h _ _ (by lia) (by lia) (by lia)
theorem qy (o:Ord lt le)(h:a+1=b):Es le p a b:=fun k h1 h2=>by
 have:k=b-1:=by lia
 subst this;exact⟨o.rf _,o.rf _⟩
end
section
variable {prog:Program}{w:World}{A:Around}{E:Value->Shared->Prop}{s:Shared}{κ:SortKind}{it:Array Keyed}{n:Nat}{lt:Nat->Nat->Bool}{le:Nat->Nat->Prop}{p:Array Nat}{pend:Array (Nat×Nat×Nat)}{st:SortSt}
theorem iX (hc:vZ prog w A s κ it n lt)(S:Stt κ it st p pend)(hp:∀i,i<p.size->at' p i<n){i j:Nat}{Q:Option Bool->SortSt->Prop}(hi:i<p.size)(hj:j<p.size)(h:Q (some (lt (at' p i) (at' p j))) st):wpS (model prog w) A E s (ltAt' i j) Q st:=by rw[ltAt'_eq];refine Tq (Ux ?_);dsimp only;rw[S.2.1];exact Tq (bG hi (Tq (bG hj (w_lt hc S.1 (hp _ hi) (hp _ hj) h))))
theorem pY (S:Stt κ it st p pend){i j:Nat}{Q:Unit->SortSt->Prop}(h:∀st',Stt κ it st' (kas_rev p i j) pend->Q () st'):wpS (model prog w) A E s (reverseSlice' i j) Q st:=by rw[reverseSlice'_eq];refine Uu (h _ ⟨S.1,?_,S.2.2⟩);show mirror (arrOf st) i j ((j-i) / 2)=_;rw[S.2.1];exact kas_swaps_map (kas_item it) (fun k=>i+k) (fun k=>j-1-k) _ p
theorem Ot (S:Stt κ it st p pend){i j:Nat}{Q:Unit->SortSt->Prop}(h:∀st',Stt κ it st' (bubble p i (i-j)) pend->Q () st'):wpS (model prog w) A E s (moveDown' i j) Q st:=by rw[moveDown'_eq];refine Uu (h _ ⟨S.1,?_,S.2.2⟩);show bubble (arrOf st) i (i-j)=_;rw[S.2.1];exact kas_swaps_map (kas_item it) (fun k=>i-k) (fun k=>i-k-1) _ p
theorem Ql (o:Ord lt le)(hc:vZ prog w A s κ it n lt)(S:Stt κ it st p pend)(hp:∀p':Array Nat,p'.Perm p->∀i,i<p'.size->at' p' i<n){lo m ok:Nat}{Q:Bool->SortSt->Prop}(hz:lo+m<=p.size)(hok:ok<=m)(ok1:1<=ok)(hs:Up le p lo (lo+ok))
  (h:∀p' st',Stt κ it st' p' pend->Near p p' lo (lo+m)->Up le p' lo (lo+m)->Q true st'):wpS (model prog w) A E s (binarySort' lo m ok) Q st:=by
 refine Tq (Ub (Uc (I:=fun k c st'=>c=(none,())/\∃p',Stt κ it st' p' pend/\Near p p' lo (lo+m)/\Up le p' lo (lo+min k m))
  (Q:=fun c st'=>c=(none,())/\∃p',Stt κ it st' p' pend/\Near p p' lo (lo+m)/\Up le p' lo (lo+m)) ?step ?fin ?init) ?post)
 case post=>
  rintro c st' ⟨rfl,p',S',N,U⟩;exact Tr (h p' st' S' N U)
 case init=>exact⟨rfl,p,S,.rf,by rw[show min (max ok 1) m=ok by lia];exact hs⟩
 case fin=>
  rintro c st' ⟨hc',p',S',N,U⟩;exact⟨hc',p',S',N,by rwa[show min (max (max ok 1) m) m=m by lia] at U⟩
 case step=>
  rintro k c st' hak hkn ⟨rfl,p',S',N,U⟩;rw[show min k m=k by lia] at U;have hsz:=N.size;have hk1:1<=k:=by lia
  have hkm:k<m:=by lia
  clear hak hkn hok ok1 hs
  refine Tq (Ub (Uc (I:=fun x c st''=>st''=st'/\∃l r,c=(none,l,r)/\l<=r/\r<=k/\r-l<=k-x /\
    (∀i,i<l->le (at' p' (lo+i)) (at' p' (lo+k)))/\(∀i,r<=i->i<k->le (at' p' (lo+k)) (at' p' (lo+i))))
   (Q:=fun c st''=>st''=st'/\∃l r,c=(none,l,r)/\l<=k /\
    (∀i,i<l->le (at' p' (lo+i)) (at' p' (lo+k)))/\(∀i,l<=i->i<k->le (at' p' (lo+k)) (at' p' (lo+i)))) ?istep ?ifin ?iinit) ?ipost)
  case iinit=>exact⟨rfl,0,k,rfl,by lia,by lia,by lia,fun i hi=>by lia,fun i h1 h2=>by lia⟩
  case ifin=>
   rintro c st'' ⟨rfl,l,r,rfl,hlr,hrk,hm,hlo,hhi⟩;have:l=r:=by lia
   subst this;exact⟨rfl,l,l,rfl,hrk,hlo,hhi⟩
  case istep=>
   rintro x c st'' _ hxk ⟨rfl,l,r,rfl,hlr,hrk,hm,hlo,hhi⟩;dsimp only;by_cases hge:l ≥ r
   ·rw[Tn hge];have:l=r:=by lia
    subst this;exact Tr ⟨rfl,l,l,rfl,hrk,hlo,hhi⟩
   ·rw[To hge];refine Tq (iX hc S' (hp _ N.1) (by lia) (by lia) ?_);dsimp only;cases cw:lt (at' p' (lo+k)) (at' p' (lo+(l+r) / 2)) with
    |true=>
     rw[Tn rfl];exact Tr ⟨rfl,l,(l+r) / 2,rfl,by lia,by lia,by lia,hlo,fun i h1 h2=>o.tr _ _ _ (o.yes _ _ cw) (U _ _ (by lia) (by lia) (by lia))⟩
    |false=>rw[To (by decide)];exact Tr ⟨rfl,(l+r) / 2+1,r,rfl,by lia,by lia,by lia,fun i h1=>o.tr _ _ _ (U _ _ (by lia) (by lia) (by lia)) (o.no _ _ cw),hhi⟩
  case ipost=>
   rintro c st'' ⟨rfl,l,r,rfl,hlk,hlo,hhi⟩;dsimp only;refine Tq (Ot S' fun st3 S3=>Tr ⟨rfl,_,S3,N.tr ((A6 (by lia) (by lia)).wide (by lia) (by lia)),?_⟩);rw[show min (k+1) m=k+1 by lia,show lo+k-(lo+l)=k-l by lia];intro i j h1 h2 h3;rw[p9 (by lia) (by lia),p9 (by lia) (by lia)];rw[show lo+k-(k-l)=lo+l by lia];by_cases i1:i=lo+l
   ·rw[Tn i1];by_cases j1:j=lo+l
    ·rw[Tn j1];exact o.rf _
    ·rw[To j1];rw[Tn (by lia)];have:=hhi (j-1-lo) (by lia) (by lia);rwa[show lo+(j-1-lo)=j-1 by lia] at this
   ·rw[To i1];by_cases j1:j=lo+l
    ·rw[Tn j1,To (by lia)];have:=hlo (i-lo) (by lia);rwa[show lo+(i-lo)=i by lia] at this
    ·rw[To j1];by_cases i2:lo+l<i/\i<=lo+k
     ·rw[Tn i2,Tn (by lia)];exact U _ _ (by lia) (by lia) (by lia)
     ·rw[To i2];by_cases j2:lo+l<j/\j<=lo+k
      ·rw[Tn j2];exact U _ _ (by lia) (by lia) (by lia)
      ·rw[To j2];exact U _ _ (by lia) (by lia) (by lia)
end
section
variable {prog:Program}{w:World}{A:Around}{E:Value->Shared->Prop}{s:Shared}{κ:SortKind}{it:Array Keyed}{n:Nat}{lt:Nat->Nat->Bool}{le:Nat->Nat->Prop}{p:Array Nat}{pend:Array (Nat×Nat×Nat)}{st:SortSt}
theorem LG (o:Ord lt le)(hc:vZ prog w A s κ it n lt)(S:Stt κ it st p pend)(hp:∀p':Array Nat,p'.Perm p->∀i,i<p'.size->at' p' i<n){lo nrem:Nat}{Q:Option Nat->SortSt->Prop}(h1:1<=nrem)(hz:lo+nrem<=p.size)
  (h:∀m p' st',Stt κ it st' p' pend->1<=m->m<=nrem->Near p p' lo (lo+m)->Up le p' lo (lo+m)->Q (some m) st'):wpS (model prog w) A E s (countRun' lo nrem) Q st:=by
 refine Tq (Ub (Uc (I:=fun x c st'=>st'=st/\c=(none,x)/\x<=nrem/\Up le p lo (lo+x))
  (Q:=fun c st'=>st'=st/\∃m,c=(none,m)/\1<=m/\m<=nrem/\Up le p lo (lo+m)/\(m<nrem->le (at' p (lo+m)) (at' p (lo+m-1)))) ?s1 ?f1 ?i1) ?p1)
 case i1=>exact⟨rfl,rfl,h1,Op o⟩
 case f1=>
  rintro c st' ⟨rfl,rfl,k1,k2⟩;exact⟨rfl,_,rfl,by lia,k1,k2,fun _=>by lia⟩
 case s1=>
  rintro x c st' hx0 hx ⟨rfl,rfl,k1,k2⟩;dsimp only;refine Tq (iX hc S (hp p (.refl _)) (by lia) (by lia) ?_);dsimp only;cases cw:lt (at' p (lo+x)) (at' p (lo+x-1)) with
  |true=>
   rw[Tn rfl];exact Tr ⟨rfl,x,rfl,hx0,k1,k2,fun _=>o.yes _ _ cw⟩
  |false=>rw[To (by decide)];exact Tr ⟨rfl,rfl,by lia,Up.succ (b:=lo+x) o k2 (by lia) (o.no _ _ cw)⟩
 case p1=>
  rintro c st' ⟨rfl,m,rfl,m1,m2,U,hd⟩;dsimp only;simp only[Ur];by_cases e1:m=nrem
  ·rw[Tn e1];exact Tr (h m p st' S m1 m2 .rf U)
  rw[To e1];have e1':m<nrem:=by lia
  clear e1;by_cases e2:m > 1
  ·rw[Tn e2];refine Tq (iX hc S (hp p (.refl _)) (by lia) (by lia) ?_);dsimp only;cases cw:lt (at' p lo) (at' p (lo+m-1)) with
   |true=>
    rw[Tn rfl];exact Tr (h m p st' S m1 m2 .rf U)
   |false=>
    rw[To (by decide)];have g0:=o.no _ _ cw;refine Tq (pY S fun stx Sx=>?_);have same:∀i j,lo<=i->i<lo+m->lo<=j->j<lo+m->le (at' p i) (at' p j):=fun i j a1 a2 a3 a4=>o.tr _ _ _ (U i (lo+m-1) a1 (by lia) (by lia)) (o.tr _ _ _ g0 (U lo j (Tw _) a3 a4));have d0:Dn le (kas_rev p lo (lo+m)) lo (lo+m):=fun i j a1 a2 a3=>by rw[bP (by lia),bP (by lia),Tn (by lia),Tn (by lia)];exact same _ _ (by lia) (by lia) (by lia) (by lia)
    have Dx:Dn le (kas_rev p lo (lo+m)) lo (lo+(m+1)):=Dn.succ (b:=lo+m) o d0 (by lia) (by
     rw[bP (by lia),bP (by lia),To (by lia),Tn (by lia)]
     exact o.tr _ _ _ (hd (by lia)) (same _ _ (by lia) (by lia) (by lia) (by lia)))
    have Nx:Near p (kas_rev p lo (lo+m)) lo (lo+(m+1)):=(fB (by lia)).wide (Tw _) (by lia);generalize kas_rev p lo (lo+m)=px at Sx Dx Nx;refine Tq (Va (UX ⟨rfl,?_⟩))
    refine Tq (Ub (Uc (I:=fun x c st'=>∃q p',c=(none,x,q)/\Stt κ it st' p' pend/\Near p p' lo (lo+x)/\x<=nrem/\q+1<=x/\Dn le p' lo (lo+x)/\Es le p' (lo+x-(q+1)) (lo+x))
     (Q:=fun c st'=>∃x q p',c=(none,x,q)/\m+1<=x/\Stt κ it st' p' pend/\Near p p' lo (lo+x)/\x<=nrem/\q+1<=x/\Dn le p' lo (lo+x)/\Es le p' (lo+x-(q+1)) (lo+x)) ?s2 ?f2 ?i2) ?p2)
    case i2=>exact⟨0,px,rfl,Sx,Nx,by lia,by lia,Dx,qy o (by lia)⟩
    case f2=>
     rintro c st' ⟨q,p',rfl,S',N',k1,k2,D',E'⟩;exact⟨_,q,p',rfl,by lia,S',N',k1,k2,D',E'⟩
    case s2=>
     rintro x c st' hx0 hx ⟨q,p',rfl,S',N',k1,k2,D',E'⟩;dsimp only;have hs2:=N'.size;refine Tq (iX hc S' (hp _ N'.1) (by lia) (by lia) ?_);dsimp only;cases cw:lt (at' p' (lo+x)) (at' p' (lo+x-1)) with
     |true=>
      rw[Tn rfl];have hl:=o.yes _ _ cw;by_cases q0:q > 0
      ·rw[Tn q0];refine Tq (pY S' fun st4 S4=>Tr ?_);have d1:=D'.rev o (by lia) (by lia) E';have b1:at' (kas_rev p' (lo+x-(q+1)) (lo+x)) (lo+x)=at' p' (lo+x):=by rw[bP (by lia),To (by lia)]
       have b2:at' (kas_rev p' (lo+x-(q+1)) (lo+x)) (lo+x-1)=at' p' (lo+x-(q+1)):=by rw[bP (by lia),Tn (by lia)];congr 1;lia
       exact⟨0,_,rfl,S4,(N'.tr ((fB (by lia)).wide (by lia) (by lia))).wide (by lia) (by lia),by lia,by lia,Dn.succ (b:=lo+x) o d1 (by lia) (by rw[b1,b2];exact o.tr _ _ _ hl (E' _ (Tw _) (by lia)).2),qy o (by lia)⟩
      ·rw[To q0];exact Tr ⟨0,p',rfl,S',N'.wide (by lia) (by lia),by lia,by lia,Dn.succ (b:=lo+x) o D' (by lia) hl,qy o (by lia)⟩
     |false=>
      rw[To (by decide)];have g1:=o.no _ _ cw;refine Tq (iX hc S' (hp _ N'.1) (by lia) (by lia) ?_);dsimp only;cases cw2:lt (at' p' (lo+x-1)) (at' p' (lo+x)) with
      |true=>
       rw[Tn rfl];exact Tr ⟨x,q,p',rfl,hx0,S',N',k1,k2,D',E'⟩
      |false=>
       rw[To (by decide)];have g2:=o.no _ _ cw2;refine Tr ⟨q+1,p',rfl,S',N'.wide (by lia) (by lia),by lia,by lia,Dn.succ (b:=lo+x) o D' (by lia) g2,fun k a1 a2=>?_⟩;rw[show lo+(x+1)-1=lo+x by lia];by_cases hk:k=lo+x
       ·subst hk;exact⟨o.rf _,o.rf _⟩
       ·obtain⟨x1,x2⟩:=E' k (by lia) (by lia);exact⟨o.tr _ _ _ x1 g1,o.tr _ _ _ g2 x2⟩
    case p2=>
     rintro c st' ⟨x,q,p',rfl,x1,S',N',x2,x3,D',E'⟩;dsimp only;have hs2:=N'.size;by_cases q0:q > 0
     ·rw[Tn q0];refine Tq (pY S' fun stX SX=>?_);have DX:=D'.rev o (by lia) (by lia) E';have NX:=N'.tr ((fB (by lia)).wide (a:=lo+x-(q+1)) (b:=lo+x) (d:=lo) (e:=lo+x) (by lia) (by lia));generalize kas_rev p' (lo+x-(q+1)) (lo+x)=pX at SX DX NX;refine Tq (pY SX fun st4 S4=>?_);have hs4:=NX.size;have N4:=NX.tr (fB (a:=lo) (b:=lo+x) (by lia));have U4:=DX.turn (by lia)
      refine Tq (Ub (Uc (I:=fun y c st'=>st'=st4/\c=(none,y)/\y<=nrem/\Up le (kas_rev pX lo (lo+x)) lo (lo+y))
       (Q:=fun c st'=>st'=st4/\∃y,c=(none,y)/\x<=y/\y<=nrem/\Up le (kas_rev pX lo (lo+x)) lo (lo+y)) ?s3 ?f3 ?i3) ?p3)
      case i3=>exact⟨rfl,rfl,x2,U4⟩
      case f3=>
       rintro c st' ⟨rfl,rfl,k1,k2⟩;exact⟨rfl,_,rfl,by lia,k1,k2⟩
      case s3=>
       rintro y c st' hy0 hy ⟨rfl,rfl,k1,k2⟩;dsimp only;have hs5:=N4.size;refine Tq (iX hc S4 (hp _ N4.1) (by lia) (by lia) ?_);dsimp only;cases cw:lt (at' (kas_rev pX lo (lo+x)) (lo+y)) (at' (kas_rev pX lo (lo+x)) (lo+y-1)) with
       |true=>
        rw[Tn rfl];exact Tr ⟨rfl,y,rfl,hy0,k1,k2⟩
       |false=>rw[To (by decide)];exact Tr ⟨rfl,rfl,by lia,Up.succ (b:=lo+y) o k2 (by lia) (o.no _ _ cw)⟩
      case p3=>
       rintro c st' ⟨rfl,y,rfl,y1,y2,U⟩;exact Tr (h y _ st' S4 (by lia) y2 (N4.wide (Tw _) (by lia)) U)
     ·rw[To q0];have DX:=D';have NX:=N';have SX:=S';generalize p'=pX at SX DX NX;refine Tq (pY SX fun st4 S4=>?_);have hs4:=NX.size;have N4:=NX.tr (fB (a:=lo) (b:=lo+x) (by lia));have U4:=DX.turn (by lia)
      refine Tq (Ub (Uc (I:=fun y c st'=>st'=st4/\c=(none,y)/\y<=nrem/\Up le (kas_rev pX lo (lo+x)) lo (lo+y))
       (Q:=fun c st'=>st'=st4/\∃y,c=(none,y)/\x<=y/\y<=nrem/\Up le (kas_rev pX lo (lo+x)) lo (lo+y)) ?s3 ?f3 ?i3) ?p3)
      case i3=>exact⟨rfl,rfl,x2,U4⟩
      case f3=>
       rintro c st' ⟨rfl,rfl,k1,k2⟩;exact⟨rfl,_,rfl,by lia,k1,k2⟩
      case s3=>
       rintro y c st' hy0 hy ⟨rfl,rfl,k1,k2⟩;dsimp only;have hs5:=N4.size;refine Tq (iX hc S4 (hp _ N4.1) (by lia) (by lia) ?_);dsimp only;cases cw:lt (at' (kas_rev pX lo (lo+x)) (lo+y)) (at' (kas_rev pX lo (lo+x)) (lo+y-1)) with
       |true=>
        rw[Tn rfl];exact Tr ⟨rfl,y,rfl,hy0,k1,k2⟩
       |false=>rw[To (by decide)];exact Tr ⟨rfl,rfl,by lia,Up.succ (b:=lo+y) o k2 (by lia) (o.no _ _ cw)⟩
      case p3=>
       rintro c st' ⟨rfl,y,rfl,y1,y2,U⟩;exact Tr (h y _ st' S4 (by lia) y2 (N4.wide (Tw _) (by lia)) U)
  ·rw[To e2];have m11:m=1:=by lia
   have Sx:=S;have Dx:Dn le p lo (lo+(m+1)):=Dn.succ (b:=lo+m) o (fun i j a1 a2 a3=>by
    have:i=j:=by lia
    subst this;exact o.rf _) (by lia) (hd (by lia))
   have Nx:Near p p lo (lo+(m+1)):=.rf;obtain⟨px,hpx⟩:∃px,px=p:=⟨p,rfl⟩
   rw[<- hpx] at Sx Dx;replace Nx:Near p px lo (lo+(m+1)):=by rw[hpx];exact .rf
   refine Tq (Va (UX ⟨rfl,?_⟩))
   refine Tq (Ub (Uc (I:=fun x c st'=>∃q p',c=(none,x,q)/\Stt κ it st' p' pend/\Near p p' lo (lo+x)/\x<=nrem/\q+1<=x/\Dn le p' lo (lo+x)/\Es le p' (lo+x-(q+1)) (lo+x))
    (Q:=fun c st'=>∃x q p',c=(none,x,q)/\m+1<=x/\Stt κ it st' p' pend/\Near p p' lo (lo+x)/\x<=nrem/\q+1<=x/\Dn le p' lo (lo+x)/\Es le p' (lo+x-(q+1)) (lo+x)) ?s2 ?f2 ?i2) ?p2)
   case i2=>exact⟨0,px,rfl,Sx,Nx,by lia,by lia,Dx,qy o (by lia)⟩
   case f2=>
    rintro c st' ⟨q,p',rfl,S',N',k1,k2,D',E'⟩;exact⟨_,q,p',rfl,by lia,S',N',k1,k2,D',E'⟩
   case s2=>
    rintro x c st' hx0 hx ⟨q,p',rfl,S',N',k1,k2,D',E'⟩;dsimp only;have hs2:=N'.size;refine Tq (iX hc S' (hp _ N'.1) (by lia) (by lia) ?_);dsimp only;cases cw:lt (at' p' (lo+x)) (at' p' (lo+x-1)) with
    |true=>
     rw[Tn rfl];have hl:=o.yes _ _ cw;by_cases q0:q > 0
     ·rw[Tn q0];refine Tq (pY S' fun st4 S4=>Tr ?_);have d1:=D'.rev o (by lia) (by lia) E';have b1:at' (kas_rev p' (lo+x-(q+1)) (lo+x)) (lo+x)=at' p' (lo+x):=by rw[bP (by lia),To (by lia)]
      have b2:at' (kas_rev p' (lo+x-(q+1)) (lo+x)) (lo+x-1)=at' p' (lo+x-(q+1)):=by rw[bP (by lia),Tn (by lia)];congr 1;lia
      exact⟨0,_,rfl,S4,(N'.tr ((fB (by lia)).wide (by lia) (by lia))).wide (by lia) (by lia),by lia,by lia,Dn.succ (b:=lo+x) o d1 (by lia) (by rw[b1,b2];exact o.tr _ _ _ hl (E' _ (Tw _) (by lia)).2),qy o (by lia)⟩
     ·rw[To q0];exact Tr ⟨0,p',rfl,S',N'.wide (by lia) (by lia),by lia,by lia,Dn.succ (b:=lo+x) o D' (by lia) hl,qy o (by lia)⟩
    |false=>
     rw[To (by decide)];have g1:=o.no _ _ cw;refine Tq (iX hc S' (hp _ N'.1) (by lia) (by lia) ?_);dsimp only;cases cw2:lt (at' p' (lo+x-1)) (at' p' (lo+x)) with
     |true=>
      rw[Tn rfl];exact Tr ⟨x,q,p',rfl,hx0,S',N',k1,k2,D',E'⟩
     |false=>
      rw[To (by decide)];have g2:=o.no _ _ cw2;refine Tr ⟨q+1,p',rfl,S',N'.wide (by lia) (by lia),by lia,by lia,Dn.succ (b:=lo+x) o D' (by lia) g2,fun k a1 a2=>?_⟩;rw[show lo+(x+1)-1=lo+x by lia];by_cases hk:k=lo+x
      ·subst hk;exact⟨o.rf _,o.rf _⟩
      ·obtain⟨x1,x2⟩:=E' k (by lia) (by lia);exact⟨o.tr _ _ _ x1 g1,o.tr _ _ _ g2 x2⟩
   case p2=>
    rintro c st' ⟨x,q,p',rfl,x1,S',N',x2,x3,D',E'⟩;dsimp only;have hs2:=N'.size;by_cases q0:q > 0
    ·rw[Tn q0];refine Tq (pY S' fun stX SX=>?_);have DX:=D'.rev o (by lia) (by lia) E';have NX:=N'.tr ((fB (by lia)).wide (a:=lo+x-(q+1)) (b:=lo+x) (d:=lo) (e:=lo+x) (by lia) (by lia));generalize kas_rev p' (lo+x-(q+1)) (lo+x)=pX at SX DX NX;refine Tq (pY SX fun st4 S4=>?_);have hs4:=NX.size;have N4:=NX.tr (fB (a:=lo) (b:=lo+x) (by lia));have U4:=DX.turn (by lia)
     refine Tq (Ub (Uc (I:=fun y c st'=>st'=st4/\c=(none,y)/\y<=nrem/\Up le (kas_rev pX lo (lo+x)) lo (lo+y))
      (Q:=fun c st'=>st'=st4/\∃y,c=(none,y)/\x<=y/\y<=nrem/\Up le (kas_rev pX lo (lo+x)) lo (lo+y)) ?s3 ?f3 ?i3) ?p3)
     case i3=>exact⟨rfl,rfl,x2,U4⟩
     case f3=>
      rintro c st' ⟨rfl,rfl,k1,k2⟩;exact⟨rfl,_,rfl,by lia,k1,k2⟩
     case s3=>
      rintro y c st' hy0 hy ⟨rfl,rfl,k1,k2⟩;dsimp only;have hs5:=N4.size;refine Tq (iX hc S4 (hp _ N4.1) (by lia) (by lia) ?_);dsimp only;cases cw:lt (at' (kas_rev pX lo (lo+x)) (lo+y)) (at' (kas_rev pX lo (lo+x)) (lo+y-1)) with
      |true=>
       rw[Tn rfl];exact Tr ⟨rfl,y,rfl,hy0,k1,k2⟩
      |false=>rw[To (by decide)];exact Tr ⟨rfl,rfl,by lia,Up.succ (b:=lo+y) o k2 (by lia) (o.no _ _ cw)⟩
     case p3=>
      rintro c st' ⟨rfl,y,rfl,y1,y2,U⟩;exact Tr (h y _ st' S4 (by lia) y2 (N4.wide (Tw _) (by lia)) U)
    ·rw[To q0];have DX:=D';have NX:=N';have SX:=S';generalize p'=pX at SX DX NX;refine Tq (pY SX fun st4 S4=>?_);have hs4:=NX.size;have N4:=NX.tr (fB (a:=lo) (b:=lo+x) (by lia));have U4:=DX.turn (by lia)
     refine Tq (Ub (Uc (I:=fun y c st'=>st'=st4/\c=(none,y)/\y<=nrem/\Up le (kas_rev pX lo (lo+x)) lo (lo+y))
      (Q:=fun c st'=>st'=st4/\∃y,c=(none,y)/\x<=y/\y<=nrem/\Up le (kas_rev pX lo (lo+x)) lo (lo+y)) ?s3 ?f3 ?i3) ?p3)
     case i3=>exact⟨rfl,rfl,x2,U4⟩
     case f3=>
      rintro c st' ⟨rfl,rfl,k1,k2⟩;exact⟨rfl,_,rfl,by lia,k1,k2⟩
     case s3=>
      rintro y c st' hy0 hy ⟨rfl,rfl,k1,k2⟩;dsimp only;have hs5:=N4.size;refine Tq (iX hc S4 (hp _ N4.1) (by lia) (by lia) ?_);dsimp only;cases cw:lt (at' (kas_rev pX lo (lo+x)) (lo+y)) (at' (kas_rev pX lo (lo+x)) (lo+y-1)) with
      |true=>
       rw[Tn rfl];exact Tr ⟨rfl,y,rfl,hy0,k1,k2⟩
      |false=>rw[To (by decide)];exact Tr ⟨rfl,rfl,by lia,Up.succ (b:=lo+y) o k2 (by lia) (o.no _ _ cw)⟩
     case p3=>
      rintro c st' ⟨rfl,y,rfl,y1,y2,U⟩;exact Tr (h y _ st' S4 (by lia) y2 (N4.wide (Tw _) (by lia)) U)
end
section
variable {le:Nat->Nat->Prop}{p p':Array Nat}{a b c:Nat}
noncomputable def Rn (le:Nat->Nat->Prop)(p:Array Nat):Nat->List (Nat×Nat×Nat)->Nat->Prop
 |a,[],b=>a=b
 |a,e::es,b=>e.1=a/\1<=e.2.1/\Up le p a (a+e.2.1)/\Rn le p (a+e.2.1) es b
theorem Rn.len_le:∀ {l:List (Nat×Nat×Nat)} {a:Nat},Rn le p a l b->a+l.length<=b
 |[],a,h=>by have:a=b:=h;simp[this]
 |e::es,a,h=>by have:=Rn.len_le h.2.2.2;have:=h.2.1;simp;lia
theorem Rn.of:∀ {l:List (Nat×Nat×Nat)} {a:Nat},Rn le p a l b->(∀k,a<=k->k<b->at' p' k=at' p k)->Rn le p' a l b
 |[],a,h,_=>h
 |e::es,a,h,k=>⟨h.1,h.2.1,h.2.2.1.of fun i h1 h2=>k i h1 (by have:=Rn.len_le h.2.2.2;lia),Rn.of h.2.2.2 fun i h1 h2=>k i (by lia) h2⟩
theorem Rn.app:∀ {l l':List (Nat×Nat×Nat)} {a:Nat},Rn le p a (l++l') b->∃c,Rn le p a l c/\Rn le p c l' b
 |[],l',a,h=>⟨a,rfl,h⟩
 |e::es,l',a,h=>by obtain⟨c,h1,h2⟩:=Rn.app h.2.2.2;exact⟨c,⟨h.1,h.2.1,h.2.2.1,h1⟩,h2⟩
theorem Rn.put:∀ {l l':List (Nat×Nat×Nat)} {a:Nat},Rn le p a l c->Rn le p c l' b->Rn le p a (l++l') b
 |[],l',a,h,h2=>by have:a=c:=h;subst this;exact h2
 |e::es,l',a,h,h2=>⟨h.1,h.2.1,h.2.2.1,Rn.put h.2.2.2 h2⟩
theorem Rn.same:∀ {l l':List (Nat×Nat×Nat)} {a:Nat},(l.map fun e=>(e.1,e.2.1))=(l'.map fun e=>(e.1,e.2.1))->Rn le p a l b->Rn le p a l' b
 |[],[],a,_,h=>h
 |[],_::_,a,h,_=>by simp at h
 |_::_,[],a,h,_=>by simp at h
 |e::es,e'::es',a,h,k=>by simp only[TF,List.cons.injEq,Vt] at h;obtain⟨⟨h1,h2⟩,h3⟩:=h;obtain⟨k1,k2,k3,k4⟩:=k;rw[h1] at k1;rw[h2] at k2 k3 k4;exact⟨k1,k2,k3,Rn.same h3 k4⟩
theorem Kx {c:Prop}[Decidable c]{k m:Nat}(h:k+1<m):(if c then k-1 else k)+1<m:=by split<;>lia
theorem N8 {α:Type}(x z:α)(r:List α):∀pre:List α,(pre++x::r).set pre.length z=pre++z::r
 |[]=>rfl
 |y::pre=>by simp
theorem Hb {α:Type}(z y:α)(r:List α):∀pre:List α,(pre++z::y::r).eraseIdx (pre.length+1)=pre++z::r
 |[]=>rfl
 |x::pre=>by have:=Hb z y r pre;simp only[List.cons_append,Tz,List.eraseIdx_cons_succ,this]
theorem Ob {α:Type}{l:List α}{i:Nat}(h:i+1<l.length):∃pre x y post,l=pre++x::y::post/\pre.length=i:=by refine⟨l.take i,l[i],l[i+1],l.drop (i+2),?_,by rw[Vx];lia⟩;rw[<- VR h,<- VR (by lia),Wv]
end
section
variable {prog:Program}{w:World}{A:Around}{E:Value->Shared->Prop}{s:Shared}{κ:SortKind}{it:Array Keyed}{n:Nat}{lt:Nat->Nat->Bool}{le:Nat->Nat->Prop}{p:Array Nat}{pend:Array (Nat×Nat×Nat)}{st:SortSt}
theorem rF (o:Ord lt le)(hc:vZ prog w A s κ it n lt)(S:Stt κ it st p pend)(hp:∀i,i<p.size->at' p i<n){i b:Nat}{Q:Bool->SortSt->Prop}(hi:i+1<pend.size)(R:Rn le p 0 pend.toList b)(hb:b<=p.size)
  (h:∀p' pend' st',Stt κ it st' p' pend'->Near p p' 0 b->Rn le p' 0 pend'.toList b->pend'.size+1=pend.size->Q true st'):wpS (model prog w) A E s (mergeAt' i) Q st:=by
 obtain⟨pre,⟨sa,na,pw⟩,⟨sb,nb,q⟩,post,e,hl⟩:=Ob (l:=pend.toList) (i:=i) (by simpa using hi);rw[e] at R;obtain⟨c,R1,R2⟩:=R.app;obtain⟨r1,r2,r3,r4,r5,r6,r7⟩:=R2;dsimp only at r1 r2 r3 r4 r5 r6 r7;subst r1;have hle:=r7.len_le;have g1:pend[i]?=some (sa,na,pw):=by rw[<- Vo,e,Vk (by lia)];simp[hl]
 have g2:pend[i+1]?=some (sb,nb,q):=by rw[<- Vo,e,Vk (by lia)];simp[hl]
 refine Go o hc S g1 g2 r4 r2 r5 (by lia) hp (fun i j a1 a2=>r3 _ _ (by lia) (by lia) (by lia)) (fun i j a1 a2=>r6 _ _ (by lia) (by lia) (by lia)) fun p' st' S' so=>?_;have en:((pend.setIfInBounds i (sa,na+nb,pw)).eraseIdxIfInBounds (i+1)).toList=pre++(sa,na+nb,pw)::post:=by
  have h2:i+1<(pend.setIfInBounds i (sa,na+nb,pw)).size:=by simpa using hi
  rw[Array.eraseIdxIfInBounds,dif_pos h2,Array.toList_eraseIdx,Array.toList_setIfInBounds,e,<- hl];rw[N8,Hb]
 have hle1:=R1.len_le;refine h p' _ st' S' ⟨so.perm,fun k hk=>so.out k (by lia)⟩ ?_ ?_
 ·rw[en];refine Rn.put (R1.of fun k _ h2=>so.out k (by lia)) ⟨rfl,by dsimp only;lia,fun i j a1 a2 a3=>so.asc i j a1 a2 a3,?_⟩;dsimp only;rw[show sa+(na+nb)=sa+na+nb by lia];exact r7.of fun k h1 h2=>so.out k (by lia)
 ·have e4:=TQ List.length en;have e3:=TQ List.length e;rw[Ui] at e4 e3;rw[e4,e3];simp only[Tu,Tz];lia
theorem Ou (o:Ord lt le)(hc:vZ prog w A s κ it n lt)(S:Stt κ it st p #[])(hp:∀p':Array Nat,p'.Perm p->∀i,i<p'.size->at' p' i<n){Q:Unit->SortSt->Prop}
  (h:∀p' pend' st',Stt κ it st' p' pend'->p'.Perm p->Up le p' 0 p.size->Q () st'):wpS (model prog w) A E s sortRuns' Q st:=by
 rw[sortRuns'_eq];refine Tq (Ux ?_);dsimp only;rw[S.2.1,Array.size_map];generalize minRun' p.size p.size 0=minrun
 refine Tq (Ub (Uc (I:=fun x c st'=>∃lo p' pend',c=(none,lo)/\Stt κ it st' p' pend'/\p'.Perm p/\Rn le p' 0 pend'.toList lo/\lo<=p.size/\x<=lo)
  (Q:=fun c st'=>∃p' pend',c.1=none/\Stt κ it st' p' pend'/\p'.Perm p/\Rn le p' 0 pend'.toList p.size) ?s1 ?f1 ?i1) ?p1)
 case i1=>exact⟨0,p,#[],rfl,S,.refl _,rfl,by lia,by lia⟩
 case f1=>
  rintro c st' ⟨lo,p',pend',rfl,S',P',R',l1,l2⟩;have:lo=p.size:=by lia
  subst this;exact⟨p',pend',rfl,S',P',R'⟩
 case s1=>
  rintro x c st' _ hx ⟨lo,p',pend',rfl,S',P',R',l1,l2⟩;dsimp only;by_cases e1:lo ≥ p.size
  ·rw[Tn e1];have:lo=p.size:=by lia
   subst this;exact Tr ⟨p',pend',rfl,S',P',R'⟩
  rw[To e1];have hs':=P'.size_eq;refine Tq (LG o hc S' (fun q hq=>hp q (hq.trans P')) (by lia) (by lia) fun m p2 st2 S2 m1 m2 N2 U2=>?_);have P2:=N2.1.trans P';have hs2:=P2.size_eq;have R2:Rn le p2 0 pend'.toList lo:=R'.of fun k _ h2=>N2.2 k (.inl h2);dsimp only;by_cases e2:m<minrun
  ·rw[Tn e2];refine Tq (Va (UX ⟨rfl,?_⟩));refine Tq (Ql o hc S2 (fun q hq=>hp q (hq.trans P2)) (m:=min (p.size-lo) minrun) (by lia) (by lia) m1 U2 fun p3 st3 S3 N3 U3=>?_);replace R2:Rn le p3 0 pend'.toList lo:=R2.of fun k _ h2=>N3.2 k (.inl h2);replace P2:=N3.1.trans P2;replace S2:=S3;replace U2:=U3;have hnn:1<=min (p.size-lo) minrun:=by lia
   have hnn2:lo+min (p.size-lo) minrun<=p.size:=by lia
   clear S3 U3 N3 N2 hs2;generalize min (p.size-lo) minrun=nn at *;rw[To (by decide)];clear st2 p2;generalize p3=p2 at *;generalize st3=st2 at *;refine Tq (Ux ?_);rw[S2.2.2.1];cases hbk:pend'.back? with
   |none=>
    dsimp only;refine Tq (Uu (Tr ⟨lo+nn,p2,pend'.push (lo,nn,0),rfl,⟨S2.1,S2.2.1,?_,S2.2.2.2⟩,P2,?_,by lia,by lia⟩))
    ·show (pendingOf st2).push _=_;rw[S2.2.2.1]
    ·rw[VF];exact R2.put ⟨rfl,hnn,U2,rfl⟩
   |some e=>
    obtain⟨s1,n1,z1⟩:=e;dsimp only;generalize power' _ _ _ _=pw
    refine Tq (Ub (Uc (I:=fun y c st3=>c=(none,())/\∃p3 pend3,Stt κ it st3 p3 pend3/\p3.Perm p/\Rn le p3 0 pend3.toList lo/\Up le p3 lo (lo+nn))
     (Q:=fun c st3=>c=(none,())/\∃p3 pend3,Stt κ it st3 p3 pend3/\p3.Perm p/\Rn le p3 0 pend3.toList lo/\Up le p3 lo (lo+nn)) ?s2 ?f2 ?i2) ?p2)
    case i2=>exact⟨rfl,p2,pend',S2,P2,R2,U2⟩
    case f2=>exact fun c st3 h=>h
    case s2=>
     rintro y c st3 _ hy ⟨rfl,p3,pend3,S3,P3,R3,U3⟩;refine Tq (Ux ?_);rw[S3.2.2.1];by_cases c1:pend3.size > 1
     ·rw[Tn c1];cases hg:pend3[pend3.size-2]? with
      |none=>exact Tr ⟨rfl,p3,pend3,S3,P3,R3,U3⟩
      |some e=>
       obtain⟨z2,z3,older⟩:=e;dsimp only;by_cases c2:older<=pw
       ·rw[Tn c2];exact Tr ⟨rfl,p3,pend3,S3,P3,R3,U3⟩
       ·rw[To c2];have hs3:=P3.size_eq;refine Tq (rF o hc S3 (hp _ P3) (i:=pend3.size-2) (by lia) R3 (by lia) fun p4 pend4 st4 S4 N4 R4 _=>?_);exact Tr ⟨rfl,p4,pend4,S4,N4.1.trans P3,R4,U3.of fun i h1 h2=>N4.2 i (.inr h1)⟩
     ·rw[To c1];exact Tr ⟨rfl,p3,pend3,S3,P3,R3,U3⟩
    case p2=>
     rintro c st3 ⟨rfl,p3,pend3,S3,P3,R3,U3⟩;dsimp only;refine Tq (Uu (Tq (Uu (Tr ⟨lo+nn,p3,(pend3.modify (pend3.size-1) fun e=>(e.1,e.2.1,pw)).push (lo,nn,0),rfl,⟨S3.1,S3.2.1,?_,S3.2.2.2⟩,P3,?_,by lia,by lia⟩))))
     ·show ((pendingOf st3).modify ((pendingOf st3).size-1) _).push _=_;rw[S3.2.2.1]
     ·rw[VF];refine Rn.put (R3.same ?_) ⟨rfl,hnn,U3,rfl⟩;apply VW;intro k;rw[TW,TW,Vo,Vo,Array.getElem?_modify];split
      ·cases pend3[k]?<;>rfl
      ·rfl
  ·rw[To e2];have hnn:=m1;have hnn2:lo+m<=p.size:=by lia
   refine Tq (Ux ?_);rw[S2.2.2.1];cases hbk:pend'.back? with
   |none=>
    dsimp only;refine Tq (Uu (Tr ⟨lo+m,p2,pend'.push (lo,m,0),rfl,⟨S2.1,S2.2.1,?_,S2.2.2.2⟩,P2,?_,by lia,by lia⟩))
    ·show (pendingOf st2).push _=_;rw[S2.2.2.1]
    ·rw[VF];exact R2.put ⟨rfl,hnn,U2,rfl⟩
   |some e=>
    obtain⟨s1,n1,z1⟩:=e;dsimp only;generalize power' _ _ _ _=pw
    refine Tq (Ub (Uc (I:=fun y c st3=>c=(none,())/\∃p3 pend3,Stt κ it st3 p3 pend3/\p3.Perm p/\Rn le p3 0 pend3.toList lo/\Up le p3 lo (lo+m))
     (Q:=fun c st3=>c=(none,())/\∃p3 pend3,Stt κ it st3 p3 pend3/\p3.Perm p/\Rn le p3 0 pend3.toList lo/\Up le p3 lo (lo+m)) ?s2 ?f2 ?i2) ?p2)
    case i2=>exact⟨rfl,p2,pend',S2,P2,R2,U2⟩
    case f2=>exact fun c st3 h=>h
    case s2=>
     rintro y c st3 _ hy ⟨rfl,p3,pend3,S3,P3,R3,U3⟩;refine Tq (Ux ?_);rw[S3.2.2.1];by_cases c1:pend3.size > 1
     ·rw[Tn c1];cases hg:pend3[pend3.size-2]? with
      |none=>exact Tr ⟨rfl,p3,pend3,S3,P3,R3,U3⟩
      |some e=>
       obtain⟨z2,z3,older⟩:=e;dsimp only;by_cases c2:older<=pw
       ·rw[Tn c2];exact Tr ⟨rfl,p3,pend3,S3,P3,R3,U3⟩
       ·rw[To c2];have hs3:=P3.size_eq;refine Tq (rF o hc S3 (hp _ P3) (i:=pend3.size-2) (by lia) R3 (by lia) fun p4 pend4 st4 S4 N4 R4 _=>?_);exact Tr ⟨rfl,p4,pend4,S4,N4.1.trans P3,R4,U3.of fun i h1 h2=>N4.2 i (.inr h1)⟩
     ·rw[To c1];exact Tr ⟨rfl,p3,pend3,S3,P3,R3,U3⟩
    case p2=>
     rintro c st3 ⟨rfl,p3,pend3,S3,P3,R3,U3⟩;dsimp only;refine Tq (Uu (Tq (Uu (Tr ⟨lo+m,p3,(pend3.modify (pend3.size-1) fun e=>(e.1,e.2.1,pw)).push (lo,m,0),rfl,⟨S3.1,S3.2.1,?_,S3.2.2.2⟩,P3,?_,by lia,by lia⟩))))
     ·show ((pendingOf st3).modify ((pendingOf st3).size-1) _).push _=_;rw[S3.2.2.1]
     ·rw[VF];refine Rn.put (R3.same ?_) ⟨rfl,hnn,U3,rfl⟩;apply VW;intro k;rw[TW,TW,Vo,Vo,Array.getElem?_modify];split
      ·cases pend3[k]?<;>rfl
      ·rfl
 case p1=>
  rintro⟨c,c'⟩ st' ⟨p',pend',hc1,S',P',R'⟩;dsimp only at hc1;subst hc1;dsimp only
  refine Tq (Ub (Uc (I:=fun x c st'=>∃p' pend',c=(none,())/\Stt κ it st' p' pend'/\p'.Perm p/\Rn le p' 0 pend'.toList p.size/\pend'.size+x<=p.size)
   (Q:=fun c st'=>∃p' pend',c=(none,())/\Stt κ it st' p' pend'/\p'.Perm p/\Rn le p' 0 pend'.toList p.size/\pend'.size<=1) ?s5 ?f5 ?i5) ?p5)
  case i5=>exact⟨p',pend',rfl,S',P',R',by have:=R'.len_le;rw[Ui] at this;lia⟩
  case f5=>
   rintro c st' ⟨p',pend',rfl,S',P',R',hl⟩;exact⟨p',pend',rfl,S',P',R',by lia⟩
  case s5=>
   rintro x c st' _ hx ⟨p',pend',rfl,S',P',R',hl⟩;refine Tq (Ux ?_);rw[S'.2.2.1];by_cases e1:pend'.size<=1
   ·rw[Tn e1];exact Tr ⟨p',pend',rfl,S',P',R',e1⟩
   rw[To e1];have hs':=P'.size_eq;refine Tq (rF o hc S' (hp _ P') ?_ R' (by lia) fun p4 pend4 st4 S4 N4 R4 h4=>?_)
   ·exact Kx (by lia)
   ·exact Tr ⟨p4,pend4,rfl,S4,N4.1.trans P',R4,by lia⟩
  case p5=>
   rintro c st' ⟨p',pend',rfl,S',P',R',hl⟩;refine Tr (h p' pend' st' S' P' ?_);cases hq:pend'.toList with
   |nil=>
    rw[hq] at R';have:0=p.size:=R';intro i j _ _ h3;lia
   |cons e es=>
    cases es with
    |nil=>
     rw[hq] at R';obtain⟨r1,r2,r3,r4⟩:=R';have r4':0+e.2.1=p.size:=r4;rw[<- r4'];exact r3
    |cons e2 es=>have:=TQ List.length hq;rw[Ui] at this;simp at this;lia
end
section
variable {prog:Program}{w:World}{A:Around}{E:Value->Shared->Prop}{s:Shared}
structure Known (prog:Program) (w:World) (s:Shared) (vs:List Value) (κ:SortKind) (lt:Nat->Nat->Bool):Prop where
 kind:∀(A:Around) (E:Value->Shared->Prop) (h':Heap) (Q:SortKind->Shared->Prop),(∀b o,s.heap.get? b=some o->h'.get? b=some o)->2<=vs.length->Q κ { s with heap:=h' }->wpAny (model prog w) A (keyKind' vs.toArray) Q E { s with heap:=h' }
 ask:∀(A:Around) (h':Heap) (i j:Nat) (C:Bool->Shared->Prop),(∀b o,s.heap.get? b=some o->h'.get? b=some o)->i<vs.length->j<vs.length->C (lt i j) { s with heap:=h' }->kas_ask prog w A κ vs i j C { s with heap:=h' }
theorem Known.on   {lt:Nat->Nat->Bool}{h:Heap}(k:Known prog w s vs κ lt)(hk:∀b o,s.heap.get? b=some o->h.get? b=some o):Known prog w { s with heap:=h } vs κ lt:=
 ⟨fun A E h' Q h2=>k.kind A E h' Q fun b o e=>h2 b o (hk b o e),fun A h' i j C h2=>k.ask A h' i j C fun b o e=>h2 b o (hk b o e)⟩
noncomputable def kE (vs:List Value)(p:Array Nat):Array Value:=(p.toList.map fun i=>vs.getD i Value.none).toArray
theorem CW {vs:List Value}{p:Array Nat}(h:p.size=vs.length):(kE vs p).size=vs.length:=by unfold kE;simp[h]
theorem Bh:kE vs (List.range vs.length).toArray=vs.toArray:=by
 unfold kE;congr 1;apply Wd
 ·simp
 ·intro i h1 h2;simp at h1;simp[h1]
theorem Ka {le:Nat->Nat->Prop}(rf:∀a,le a a){n:Nat}(h:n<2)(p:Array Nat):Asc le p n:=fun i j hij hj=>by
 have e:i=j:=by lia
 subst e;exact rf _
theorem HP  {vs:List Value}{n:Nat}  {lt:Nat->Nat->Bool}{le:Nat->Nat->Prop}{P:PySem.Fin->Shared->Prop}(o:Ord lt le)(ho:s.heap.get? a=some (seqObj "list" vs.toArray n)) (hN:vs.length<=sizeLine)
  (hk:∀h',(∀b o,b≠a->s.heap.get? b=some o->h'.get? b=some o)->Known prog w { s with heap:=h' } vs κ lt)
  (h:∀p:Array Nat,p.Perm (List.range vs.length).toArray->Asc le p vs.length->P (.done (.ret .none)) { s with heap:=sortedHeap s.heap a vs (kE vs p) }):wpAny (model prog w) A (Builtin.«list.sort» ⟨[.ref a],[]⟩) P E s:=by
 have ha:a<s.heap.objs.size:=TM ho;obtain⟨e1,ho1⟩:∃e1,(s.heap.update a (Obj.mapSeq fun _=>#[])).get? a=some (seqObj "list" #[] e1):=⟨_,get?_update_seq ho fun _=>#[]⟩
 have ne1:a≠((s.heap.update a (Obj.mapSeq fun _=>#[])).push (seqObj "tuple" vs.toArray 0)).objs.size:=by rw[size_push',Heap.size_update];exact TX (VC ha)
 have ne2:a≠(s.heap.update a (Obj.mapSeq fun _=>#[])).objs.size:=by rw[Heap.size_update];exact TX ha
 have ho6:(((s.heap.update a (Obj.mapSeq fun _=>#[])).push (seqObj "tuple" vs.toArray 0)).push (seqObj "list" #[] 0)).get? a=some (seqObj "list" #[] e1):=by rw[Heap.get?_push_ne _ _ _ ne1,Heap.get?_push_ne _ _ _ ne2,ho1]
 have keep:∀b q,b≠a->s.heap.get? b=some q->(((s.heap.update a (Obj.mapSeq fun _=>#[])).push (seqObj "tuple" vs.toArray 0)).push (seqObj "list" #[] 0)).get? b=some q:=fun b q hb hq=>
  TK _ (TK _ ((Heap.get?_update_ne _ _ _ _ hb).trans hq))
 have K:=hk _ keep;rw[list_sort_plain];refine Tp (listItems_at ho rfl (Tp (listUpdate_at ho rfl (Tp (seqEpoch_at ho1 rfl (Tp (wpAny_newTuple (Tp (wpAny_newList (UL ?_))))))))));dsimp only;have hn:vs.toArray.size=vs.length:=by simp
 have fin:∀(p:Array Nat) (st:SortSt),p.Perm (List.range vs.length).toArray->Asc le p vs.length->(arrOf st).map (·.2)=kE vs p->failedOf st=none ->
   wpAny (model prog w) A (do
    let touched:=(← seqEpoch a) != e1
    Builtin.List.listUpdate (.ref a) fun _=>(arrOf st).map (·.2)
    if let some e:=failedOf st then rule "list.sort.comparison-raised"; throw e
    if touched then rule "list.sort.modified"; raiseError "ValueError" "list modified during sort"
    ret .none) P E { s with heap:=((s.heap.update a (Obj.mapSeq fun _=>#[])).push (seqObj "tuple" vs.toArray 0)).push (seqObj "list" #[] 0) }:=fun p st hp hs ho2 hf=>by
  have hz:(kE vs p).size<=sizeLine+1:=by rw[CW (by rw[hp.size_eq];simp)];lia
  rw[ho2,hf];refine Tp (seqEpoch_at ho6 rfl (Tp (listUpdate_at ho6 rfl ?_ (hsz2:=hz))));simp only[bne_self_eq_false,Wg,UT];exact Tv (h p hp hs)
 by_cases h2:vs.toArray.size<2
 ·rw[Tn h2,Tn h2];refine Tp (Tv ?_);rw[StateT.run_pure];refine Tp (Tv (fin (List.range vs.length).toArray _ (Array.Perm.refl _) (Ka o.rf (by lia) _) ?_ rfl));rw[Bh];show ((vs.toArray.zip vs.toArray).map (·.2))=vs.toArray;apply Array.ext
  ·simp
  ·intro i h1 h2;simp
 ·rw[To h2,To h2];refine Tp (K.kind _ _ _ _ (fun _ _ e=>e) (by lia) ?_);have pos:0<vs.length:=by lia
  have perm0:∀p':Array Nat,p'.Perm (List.range vs.length).toArray->∀i,i<p'.size->at' p' i<vs.length:=fun p' h' i _=>My pos h' i;have esz:(vs.toArray.zip vs.toArray).size=vs.length:=by simp
  have er:=kas_range (vs.toArray.zip vs.toArray);rw[esz] at er
  have run:=Ou (prog:=prog) (w:=w) (A:=A) (E:=E) (κ:=κ) (it:=vs.toArray.zip vs.toArray) (n:=vs.length) (lt:=lt) (le:=le) (p:=(List.range vs.length).toArray) (st:=SortSt.mk' κ (vs.toArray.zip vs.toArray) #[] 7 none)
   (s:={ s with heap:=((s.heap.update a (Obj.mapSeq fun _=>#[])).push (seqObj "tuple" vs.toArray 0)).push (seqObj "list" #[] 0) })
   (Q:=fun _ st=>∃p:Array Nat,(arrOf st).map (·.2)=kE vs p/\failedOf st=none/\p.Perm (List.range vs.length).toArray/\Asc le p vs.length) o
   (fun i j C hi hj hc=>by rw[<- kat_ask_eq (ks:=vs) (vs:=vs) rfl];exact K.ask _ _ i j C (fun _ _ e=>e) hi hj hc) ⟨rfl,er.symm,rfl,rfl⟩ perm0
   (fun p' pend' st' S' hp hu=>⟨p',kat_snds rfl S'.2.1,S'.2.2.2,hp,fun i j hij hj=>hu i j (T2 _) hij (by simpa using hj)⟩)
  refine Tp (Uq run (fun r s' hr=>?_) fun _ _ e=>e)
  ·obtain⟨rfl,p,e2,hf,hp,hs⟩:=hr;exact fin p r.2 hp hs e2 hf
theorem yo  {vs:List Value}  {lt:Nat->Nat->Bool}{le:Nat->Nat->Prop}{Q:Value->Shared->Prop}(o:Ord lt le)(hl:s.heap.IsList l vs.toArray)(hN:vs.length<=sizeLine)(hk:Known prog w s vs κ lt)
  (h:∀p:Array Nat,p.Perm (List.range vs.length).toArray->Asc le p vs.length->Q (.ref (s.heap.objs.size+1)) { s with heap:=sortedAll s.heap vs (kE vs p) }):wpAny (model prog w) A (call (.builtin "sorted") [.ref l]) Q E s:=by
 have hz:vs.length<=sizeLine:=hN;have sz:((s.heap.push (seqObj "list" #[] 0)).update s.heap.objs.size (Obj.mapSeq (· ++ vs.toArray))).objs.size=s.heap.objs.size+1:=by rw[Heap.size_update,size_push']
 have at1:(((s.heap.push (seqObj "list" #[] 0)).update s.heap.objs.size (Obj.mapSeq (· ++ vs.toArray))).push (seqObj "list" vs.toArray 0)).get? (s.heap.objs.size+1)=some (seqObj "list" vs.toArray 0):=by rw[<- sz];exact TZ _ rfl
 have old:∀b q,s.heap.get? b=some q->b≠s.heap.objs.size+1/\(((s.heap.push (seqObj "list" #[] 0)).update s.heap.objs.size (Obj.mapSeq (· ++ vs.toArray))).push (seqObj "list" vs.toArray 0)).get? b=some q:=fun b q e=>by have hb:=TM e;refine⟨TX (VC hb),TK _ ?_⟩;rw[Heap.get?_update_ne _ _ _ _ (TX hb)];exact TK _ e
 refine Calls.call_function_entry kind_sorted plain_sorted entry_sorted (args_sorted1 (.ref l)) ?_;unfold Builtin.«sorted»;refine Tp (m:=checkCount "sorted" 1 1 _) (Tv (Tp (collect_list hl (Tp (wpAny_newList ?_ hz)) hz)));show wpAny (model prog w) _ _ _ _ { s with heap:=((s.heap.push (seqObj "list" #[] 0)).update s.heap.objs.size (Obj.mapSeq (· ++ vs.toArray))).push (seqObj "list" vs.toArray 0) };rw[sz];refine Tp (UL (UU slot_list_sort ⟨_,at1,rfl⟩ entry_list_sort (HP (κ:=κ) (le:=le) o at1 hN (fun h' kp=>?_) fun p hp hs=>⟨_,rfl,Tv ⟨_,rfl,h p hp hs⟩⟩) (args_list_sort _)));exact hk.on fun b q e=>kp b q (old b q e).1 (old b q e).2
end
section
variable {prog:Program}{w:World}{A:Around}{E:Value->Shared->Prop}{s:Shared}
noncomputable def iG:List Int->List Int->Bool
 |[],[]=>false
 |[],_::_=>true
 |_::_,[]=>false
 |x::xs,y::ys=>if x=y then iG xs ys else decide (x<y)
theorem r8:∀a:List Int,iG a a=false
 |[]=>rfl
 |x::xs=>by unfold iG;rw[Tn rfl];exact r8 xs
theorem uJ:∀a b:List Int,iG a b=true->iG b a=false
 |[],[],h=>by unfold iG at h;cases h
 |[],_::_,_=>by unfold iG;rfl
 |_::_,[],h=>by unfold iG at h;cases h
 |x::xs,y::ys,h=>by
  unfold iG at h ⊢;by_cases e:x=y
  ·rw[Tn e] at h;rw[Tn e.symm];exact uJ xs ys h
  ·rw[To e] at h;rw[To (T9 e)];have:=UP h;exact T5 (by lia)
theorem uK:∀a b c:List Int,iG b a=false->iG c b=false->iG c a=false
 |[],_,[],_,_=>rfl
 |[],[],_::_,_,h=>by unfold iG at h;cases h<;>rfl
 |[],_::_,_::_,_,_=>by unfold iG;rfl
 |_::_,[],_,h,_=>by unfold iG at h;cases h
 |x::xs,y::ys,[],_,h=>by unfold iG at h;cases h
 |x::xs,y::ys,z::zs,h1,h2=>by
  unfold iG at h1 h2 ⊢;by_cases e1:y=x
  ·rw[Tn e1] at h1;by_cases e2:z=y
   ·rw[Tn e2] at h2;rw[Tn (e2.trans e1)];exact uK xs ys zs h1 h2
   ·rw[To e2] at h2;rw[To (by lia)];have:=UD h2;exact T5 (by lia)
  ·rw[To e1] at h1;have g1:=UD h1;by_cases e2:z=y
   ·rw[To (by lia)];exact T5 (by lia)
   ·rw[To e2] at h2;have g2:=UD h2;rw[To (by lia)];exact T5 (by lia)
theorem HL (f:Nat->List Int):Ord (fun i j=>iG (f i) (f j)) (fun i j=>iG (f j) (f i)=false):=
 ⟨fun a b c h1 h2=>uK _ _ _ h1 h2,fun a=>r8 _,fun a b h=>uJ _ _ h,fun a b h=>h⟩
def OI (h:Heap)(v:Value)(ns:List Int):Prop:=∃a o xs n,v = .ref a/\h.get? a=some o/\o.cls = .type "tuple" /\ o.data = .seq xs n/\IntsAre xs.toList ns
theorem KE:∀(xs ys:List Value) (ns ms:List Int) (i:Nat) (fin:Bool) (Q:Bool->Shared->Prop),IntsAre xs ns->IntsAre ys ms->(fin=decide (xs.length<ys.length))->Q (iG ns ms) s ->
  KatLex prog w A true fin Q (xs.zip ys) i s:=by
 intro xs;induction xs with
 |nil=>
  intro ys ns ms i fin Q hx hy hf hq;cases hx;rw[List.zip_nil_left];show Q fin s;rw[hf];cases hy with
  |nil=>exact hq
  |cons b u ty=>exact hq
 |cons x xs ih=>
  intro ys ns ms i fin Q hx hy hf hq;cases hx with
  |cons a t tx=>
   cases hy with
   |nil=>
    rw[List.zip_nil_right];show Q fin s;rw[hf];exact hq
   | @cons c u ys' ms' ty=>
    rw[VX];refine kat_cons ((SeqAt.EqAt.int_int a t c u) prog w _ _ ?_);unfold iG at hq;by_cases e:a=c
    ·rw[Tn e] at hq;have eb:(a==c)=true:=by simpa using e
     rw[eb];exact kat_yes (ih ys' _ ms' (i+1) fin Q tx ty (by rw[hf];simp) hq)
    ·rw[To e] at hq;have eb:(a==c)=false:=by simpa using e
     rw[eb];refine kat_no ?_;cases q:i==0 with
     |true=>exact oneLt_int hq
     |false=>exact kat_one _ _ (lt_int hq)
theorem CH {vs:List Value}{f:Nat->List Int}(hv:∀i,i<vs.length->OI s.heap (vs.getD i Value.none) (f i)/\f i≠[]):Known prog w s vs (tuples' true) fun i j=>iG (f i) (f j):=by
 refine⟨fun A E h' Q hk h2 hq=>?_,fun A h' i j C hk hi hj hc=>?_⟩
 ·have hv':∀v∈vs,∃n t rest a o xs k,v = .ref a/\h'.get? a=some o/\o.cls = .type "tuple" /\ o.data = .seq xs k/\xs.toList=Value.int n t::rest:=fun v hm=>by
   obtain⟨i,hi,e⟩:=List.getElem_of_mem hm;obtain⟨⟨a,o,xs,k,e1,e2,e3,e4,e5⟩,ne⟩:=hv i hi;have ev:vs.getD i Value.none=v:=by rw[Wx,Uf hi];exact e
   rw[ev] at e1;revert e5 ne;generalize f i=ns;generalize ex:xs.toList=L;intro ne e5;cases e5 with
   |nil=>exact absurd rfl ne
   | @cons n t vs' ns' tl=>exact⟨n,t,vs',a,o,xs,k,e1,hk _ _ e2,e3,e4,ex⟩
  have fs:∀L:List Value,(∀v∈L,∃n t rest a o xs k,v = .ref a/\h'.get? a=some o/\o.cls = .type "tuple" /\ o.data = .seq xs k/\xs.toList=Value.int n t::rest)->∃gs,KatTups h' L gs/\gs.length=L.length/\∀v∈gs,∃n t,v=Value.int n t:=by
   intro L;induction L with
   |nil=>exact fun _=>⟨[],.nil,rfl,fun _ h=>(by cases h)⟩
   |cons v L ih=>
    intro hL;obtain⟨gs,g1,g2,g3⟩:=ih fun u hu=>hL u (TC _ hu);obtain⟨n,t,rest,a,o,xs,k,rfl,e2,e3,e4,e5⟩:=hL v Tx;refine⟨.int n t::gs,.cons e2 e3 e4 (by rw[<- Vo,e5];rfl) g1,by rw[Tz,Tz,g2],fun u hu=>?_⟩;rcases TD.mp hu with rfl|hu
    ·exact⟨n,t,rfl⟩
    ·exact g3 u hu
  obtain⟨gs,g1,g2,g3⟩:=fs vs hv';refine kat_kind (s:={ s with heap:=h' }) (T:=.type "int") g1 (by lia) (fun v hm=>?_) (by decide) hq;obtain⟨n,t,rfl⟩:=g3 v hm;exact Looks.of_pure rfl
 ·obtain⟨⟨a,o,xs,k,e1,e2,e3,e4,e5⟩,_⟩:=hv i hi;obtain⟨⟨a',o',xs',k',e1',e2',e3',e4',e5'⟩,_⟩:=hv j hj;unfold kas_ask;rw[e1,e1'];refine kat_lt (s:={ s with heap:=h' }) (hk _ _ e2) e4 (hk _ _ e2') e4' ?_;refine KE (s:={ s with heap:=h' }) _ _ _ _ _ _ _ e5 e5' ?_ hc;simp
theorem tw:∀ {vs:List Value} {ns:List Int},IntsAre vs ns->∀i,i<vs.length->∃t,vs.getD i Value.none = .int (ns.getD i 0) t
 |_,_,.nil,i,h=>by simp at h
 |_,_,.cons n t _,0,_=>⟨t,rfl⟩
 |_,_,.cons n t tl,i+1,h=>by obtain⟨u,e⟩:=tw tl i (by simpa using h);exact⟨u,by simpa using e⟩
theorem CG   (hI:IntsAre vs ns):Known prog w s vs oneType' fun i j=>decide (ns.getD i 0<ns.getD j 0):=by
 refine⟨fun A E h' Q hk h2 hq=>?_,fun A h' i j C hk hi hj hc=>?_⟩
 ·rw[ksk_kind (keys:=vs.toArray) (kz:=ns) (by simpa using hI) (by simpa using h2)];exact Tv hq
 ·obtain⟨t,e1⟩:=tw hI i hi;obtain⟨u,e2⟩:=tw hI j hj;unfold kas_ask;rw[e1,e2,keyLt'_oneType];exact oneLt_int hc
theorem Iu (f:Nat->Int):Ord (fun i j=>decide (f i<f j)) (fun i j=>f i<=f j):=
 ⟨fun _ _ _ h k=>Int.le_trans h k,fun _=>TN _,fun a b h=>Int.le_of_lt (UP h),fun a b h=>by have:=UD h;show f b<=f a;lia⟩
theorem fm   (hI:IntsAre vs ns):∀L:List Nat,(∀i∈L,i<vs.length)->IntsAre (L.map fun i=>vs.getD i Value.none) (L.map fun i=>ns.getD i 0)
 |[],_=>.nil
 |i::L,h=>by obtain⟨t,e⟩:=tw hI i (h i Tx);rw[TF,TF,e];exact .cons _ t (fm hI L fun j hj=>h j (TC _ hj))
theorem AN:∀ {vs:List Value} {ns:List Int},IntsAre vs ns->vs.length=ns.length
 |_,_,.nil=>rfl
 |_,_,.cons n t tl=>by rw[Tz,Tz,AN tl]
theorem zF  {vs:List Value}  {Q:Value->Shared->Prop}(hl:s.heap.IsList l vs.toArray)(hI:IntsAre vs ns)(hN:vs.length<=sizeLine)
  (h:∀(out:Array Value) ms,IntsAre out.toList ms->ms.Perm ns->ms.Pairwise (· <= ·)->Q (.ref (s.heap.objs.size+1)) { s with heap:=sortedAll s.heap vs out }):wpAny (model prog w) A (call (.builtin "sorted") [.ref l]) Q E s:=by
 refine yo (Iu fun i=>ns.getD i 0) hl hN (CG hI) fun p hp ha=>?_;have e:=AN hI;have hb:∀i∈p.toList,i<vs.length:=fun i hi=>by simpa using (VQ.mp hp).mem_iff.mp hi
 rw[e] at hp ha;obtain⟨p1,p2⟩:=CY (vs:=ns) (d:=0) hp ha;exact h (kE vs p) _ (by simpa[kE] using fm hI p.toList hb) p1 (p2 _ fun i j _ _ h=>h)
end
end Srt
namespace L2
open PySem
noncomputable def NC (K:W.Frag):List V->Hp->VK->Prop:=fun xs H Q=>∃p ys,xs=[.ref p]/\((SqL K H p ys/\∀l,H l=none->Q (.ref l) (upd H l (.tup ys)))\/(SqT K H p ys/\Q (.ref p) H))
noncomputable def Pv:List V->Hp->VK->Prop:=fun xs H Q=>∃i j,xs=[.int i,.int j]/\Q (.int (if j > i then j else i)) H
noncomputable def Pw:List V->Hp->VK->Prop:=fun xs H Q=>∃i j,xs=[.int i,.int j]/\Q (.int (if j<i then j else i)) H
noncomputable def Pr:List V->Hp->VK->Prop:=fun xs H Q=>(∃i,xs=[.int i]/\Q (.int i) H)\/∃k,xs=[.bl k]/\Q (.int (if k then 1 else 0)) H
noncomputable def Q4 (K:W.Frag)(ta:TE):TT:=fun σ H Q=>ta σ H fun x H'=>∃k,J7 K x H' k/\Q k H'
noncomputable def Bt (K:W.Frag):List V->Hp->VK->Prop:=fun xs H Q=>∃p,∃ns:List Int,xs=[.ref p]/\SqL K H p (ns.map V.int)/\ns.length<30000 /\
 ∀(ms:List Int) l,ms.Perm ns->ms.Pairwise (· <= ·)->H l=none->Q (.ref l) (upd H l (.lst (ms.map V.int)))
noncomputable def L5 (K:W.Frag):List V->Hp->VK->Prop:=fun xs H Q=>∃p,∃ns:List Int,xs=[.ref p]/\SqL K H p (ns.map V.int)/\Q (.int ns.sum) H
noncomputable def Mi (n:Nat):It:=⟨fun i _=>i<n,fun i H x H'=>H'=H/\x = .int (2 * i),fun i _=>n<=i⟩
noncomputable def LV (ta:TA):TI:=fun σ H R=>ta σ H fun vs H1=>∃j:Int,vs=[.int 0,.int j,.int 2]/\0<=j/\j<1000000/\R (Mi ((j+1) / 2).toNat) H1
noncomputable def MP (K:W.Frag)(tl:TE):TI:=fun σ H R=>tl σ H fun x H1=>∃a,x = .ref a/\(((∃xs,SqL K H1 a xs)/\R (Itl K a) H1)\/((∃xs,SqT K H1 a xs)/\R (Itt K a) H1))
noncomputable def JK (K:W.Frag)(ta:TE):TE:=fun σ H Q=>ta σ H fun x H1=>∃p ys,x = .ref p/\SqL K H1 p ys/\∀l,H1 l=none->Q (.ref l) (upd H1 l (.lst ys.reverse))
end L2
namespace M
open PySem L2
inductive D where
 |non|bl (b:Bool)|int (i:Int)|str (x:Str)|ty (n:String)|lst (l:List D)|tup (l:List D)|scr (l:List D)|ins (N:Str) (ns:List Str) (l:List D)|dic (ks:List (List Int))|dif (ks:List (List Int))|mtp (l:List D)
 deriving Inhabited
theorem cV {S':Hp}(s:Same S S')   (h:Rd S a u):Rd S' a u:=h.elim (fun e=>.inl (s _ _ e)) fun⟨o,e⟩=>.inr ⟨o,s _ _ e⟩
theorem eA  {S':Hp}(s:Same S S')  {xs:List V}(h:SqL K S a xs):SqL K S' a xs:=h.elim (fun e=>.inl (cV s e)) .inr
theorem aQ  {S':Hp}(s:Same S S')  {xs:List V}(h:SqT K S a xs):SqT K S' a xs:=h.elim (fun e=>.inl (cV s e)) .inr
def TpA (K:W.Frag)(S:Hp)(a:Addr)(xs:List V):Prop:=S a=some (.tup xs)
theorem TpA.of  {S:Hp}{a:Addr}{xs:List V}(h:S a=some (.tup xs)):TpA K S a xs:=h
theorem TpA.sq    {xs:List V}(h:TpA K S a xs):SqT K S a xs:=SqT.of h
theorem TpA.mono  {S':Hp}(s:Same S S')  {xs:List V}(h:TpA K S a xs):TpA K S' a xs:=s _ _ h
noncomputable def b8 (ks:List (List Int)):List (List Key×V):=ks.map fun k=>(k.map Sum.inl,V.bl true)
mutual
noncomputable def Den (K:W.Frag)(S:Hp):D->V->Prop
 |.non,v=>v = .non
 |.bl b,v=>v = .bl b
 |.int i,v=>v = .int i
 |.str x,v=>v = .str x
 |.ty x,v=>v = .ty x
 |.lst l,v=>∃p xs,v = .ref p/\Rd S p (.lst xs)/\Dens K S l xs
 |.tup l,v=>∃p xs,v = .ref p/\TpA K S p xs/\Dens K S l xs
 |.scr l,v=>∃p xs,v = .ref p/\SqL K S p xs/\Dens K S l xs
 |.mtp l,v=>∃p xs,v = .ref p/\SqT K S p xs/\Dens K S l xs
 |.ins N ns l,v=>∃p C dx fs,v = .ref p/\W.nsIn K mainGlobals N=some (some (.ref C))/\S p=some (.ins C dx fs)/\fs.map (·.1)=ns/\Dens K S l (fs.map (·.2))
 |.dic ks,v=>∃p,v = .ref p/\Rd S p (.dT (b8 ks))
 |.dif ks,v=>∃p o,v = .ref p/\S p=some (.frz o (.dT (b8 ks)))
noncomputable def Dens (K:W.Frag)(S:Hp):List D->List V->Prop
 |[],xs=>xs=[]
 |d::ds,xs=>∃y ys,xs=y::ys/\Den K S d y/\Dens K S ds ys
end
section
variable {K:W.Frag}{S S' H H':Hp}
theorem Dens.nil:Dens K S [] []:=by unfold Dens;rfl
theorem Dens.cons  {ds:List D}  {ys:List V}(h:Den K S d y)(k:Dens K S ds ys):Dens K S (d::ds) (y::ys):=by unfold Dens;exact⟨y,ys,rfl,h,k⟩
theorem Dens.nil_of {xs:List V}(h:Dens K S [] xs):xs=[]:=by unfold Dens at h;exact h
theorem Dens.cons_of {d:D}{ds:List D}{xs:List V}(h:Dens K S (d::ds) xs):∃y ys,xs=y::ys/\Den K S d y/\Dens K S ds ys:=by unfold Dens at h;exact h
theorem Dens.length:∀ {ds:List D} {xs:List V},Dens K S ds xs->ds.length=xs.length
 |[],_,h=>by rw[h.nil_of];rfl
 |_::_,_,h=>by obtain⟨y,ys,rfl,_,k⟩:=h.cons_of;rw[Tz,Tz,k.length]
theorem Dens.append:∀ {ds es:List D} {xs ys:List V},Dens K S ds xs->Dens K S es ys->Dens K S (ds++es) (xs++ys)
 |[],_,_,_,h,k=>by rw[h.nil_of];exact k
 |_::_,_,_,_,h,k=>by obtain⟨y,ys,rfl,a,b⟩:=h.cons_of;exact .cons a (b.append k)
theorem Dens.get:∀ {ds:List D} {xs:List V} {i:Nat} {d:D},Dens K S ds xs->ds[i]?=some d->∃x,xs[i]?=some x/\Den K S d x
 |[],_,_,_,_,e=>by simp at e
 |_::_,_,0,_,h,e=>by
  obtain⟨y,ys,rfl,a,b⟩:=h.cons_of;simp at e;subst e;exact⟨y,rfl,a⟩
 |_::_,_,i+1,_,h,e=>by obtain⟨y,ys,rfl,a,b⟩:=h.cons_of;obtain⟨x,e1,h1⟩:=b.get (i:=i) (by simpa using e);exact⟨x,by simpa using e1,h1⟩
theorem Dens.set:∀ {ds:List D} {xs:List V} {d:D} {x:V} (i:Nat),Dens K S ds xs->Den K S d x->Dens K S (ds.set i d) (xs.set i x)
 |[],_,_,_,_,h,_=>by rw[h.nil_of];exact .nil
 |_::_,_,_,_,0,h,k=>by
  obtain⟨y,ys,rfl,a,b⟩:=h.cons_of;exact .cons k b
 |_::_,_,_,_,i+1,h,k=>by obtain⟨y,ys,rfl,a,b⟩:=h.cons_of;exact .cons a (b.set i k)
theorem Dens.take:∀ {ds:List D} {xs:List V} (i:Nat),Dens K S ds xs->Dens K S (ds.take i) (xs.take i)
 |[],_,_,h=>by rw[h.nil_of];simp;exact .nil
 |_::_,_,0,h=>by simp;exact .nil
 |_::_,_,i+1,h=>by obtain⟨y,ys,rfl,a,b⟩:=h.cons_of;exact .cons a (b.take i)
theorem Dens.drop:∀ {ds:List D} {xs:List V} (i:Nat),Dens K S ds xs->Dens K S (ds.drop i) (xs.drop i)
 |[],_,_,h=>by rw[h.nil_of];simp;exact .nil
 |_::_,_,0,h=>h
 |_::_,_,i+1,h=>by obtain⟨y,ys,rfl,a,b⟩:=h.cons_of;exact b.drop i
theorem Dens.reverse:∀ {ds:List D} {xs:List V},Dens K S ds xs->Dens K S ds.reverse xs.reverse
 |[],_,h=>by rw[h.nil_of];exact .nil
 |_::_,_,h=>by obtain⟨y,ys,rfl,a,b⟩:=h.cons_of;rw[Wc,Wc];exact b.reverse.append (.cons a .nil)
mutual
theorem Den.mono (s:Same S S'):∀ {d:D} {v:V},Den K S d v->Den K S' d v
 |.dic _,_,h=>by
  unfold Den at *;obtain⟨p,e,h1⟩:=h;exact⟨p,e,cV s h1⟩
 |.dif _,_,h=>by
  unfold Den at *;obtain⟨p,o,e,h1⟩:=h;exact⟨p,o,e,s _ _ h1⟩
 |.non,_,h=>by unfold Den at *;exact h
 |.bl _,_,h=>by unfold Den at *;exact h
 |.int _,_,h=>by unfold Den at *;exact h
 |.str _,_,h=>by unfold Den at *;exact h
 |.ty _,_,h=>by unfold Den at *;exact h
 |.lst _,_,h=>by
  unfold Den at *;obtain⟨p,xs,e,h1,h2⟩:=h;exact⟨p,xs,e,cV s h1,Dens.mono s h2⟩
 |.tup _,_,h=>by
  unfold Den at *;obtain⟨p,xs,e,h1,h2⟩:=h;exact⟨p,xs,e,TpA.mono s h1,Dens.mono s h2⟩
 |.scr _,_,h=>by
  unfold Den at *;obtain⟨p,xs,e,h1,h2⟩:=h;exact⟨p,xs,e,eA s h1,Dens.mono s h2⟩
 |.mtp _,_,h=>by
  unfold Den at *;obtain⟨p,xs,e,h1,h2⟩:=h;exact⟨p,xs,e,aQ s h1,Dens.mono s h2⟩
 |.ins _ _ _,_,h=>by unfold Den at *;obtain⟨p,C,dx,fs,e,h0,h1,h2,h3⟩:=h;exact⟨p,C,dx,fs,e,h0,s _ _ h1,h2,Dens.mono s h3⟩
theorem Dens.mono (s:Same S S'):∀ {ds:List D} {xs:List V},Dens K S ds xs->Dens K S' ds xs
 |[],_,h=>by rw[h.nil_of];exact .nil
 |_::_,_,h=>by obtain⟨y,ys,rfl,a,b⟩:=h.cons_of;exact .cons (Den.mono s a) (Dens.mono s b)
end
theorem den_int {i:Int}  : Den K S (.int i) v↔v = .int i:=by unfold Den;exact Ug
theorem den_bl {b:Bool}  : Den K S (.bl b) v↔v = .bl b:=by unfold Den;exact Ug
theorem den_non:Den K S .non v↔v = .non:=by unfold Den;exact Ug
theorem den_str {x:Str}  : Den K S (.str x) v↔v = .str x:=by unfold Den;exact Ug
theorem den_ty {x:String}  : Den K S (.ty x) v↔v = .ty x:=by unfold Den;exact Ug
theorem den_tup {l:List D}  : Den K S (.tup l) v↔∃p xs,v = .ref p/\TpA K S p xs/\Dens K S l xs:=by
 constructor
 ·intro h;unfold Den at h;exact h
 ·intro h;unfold Den;exact h
theorem iy {l:List D}  (h:Den K S (.tup l) v):∃p xs,v = .ref p/\SqT K S p xs/\Dens K S l xs:=by obtain⟨p,xs,e,h1,h2⟩:=den_tup.mp h;exact⟨p,xs,e,h1.sq,h2⟩
theorem den_lst {l:List D}  : Den K S (.lst l) v↔∃p xs,v = .ref p/\Rd S p (.lst xs)/\Dens K S l xs:=by
 constructor
 ·intro h;unfold Den at h;exact h
 ·intro h;unfold Den;exact h
theorem den_scr {l:List D}  : Den K S (.scr l) v↔∃p xs,v = .ref p/\SqL K S p xs/\Dens K S l xs:=by
 constructor
 ·intro h;unfold Den at h;exact h
 ·intro h;unfold Den;exact h
theorem den_mtp {l:List D}  : Den K S (.mtp l) v↔∃p xs,v = .ref p/\SqT K S p xs/\Dens K S l xs:=by
 constructor
 ·intro h;unfold Den at h;exact h
 ·intro h;unfold Den;exact h
theorem den_ins {N:Str}{ns:List Str}{l:List D}  : Den K S (.ins N ns l) v↔∃p C dx fs,v = .ref p/\W.nsIn K mainGlobals N=some (some (.ref C))/\S p=some (.ins C dx fs)/\fs.map (·.1)=ns/\Dens K S l (fs.map (·.2)):=by
 constructor
 ·intro h;unfold Den at h;exact h
 ·intro h;unfold Den;exact h
def DenP (K:W.Frag)(S H:Hp)(d:D)(v:V):Prop:=Den K S d v\/∃l p xs,d = .lst l/\v = .ref p/\H p=some (.lst xs)/\Dens K S l xs
theorem DenP.lst {l:List D}{v:V}(s:Same S H)(h:DenP K S H (.lst l) v):∃p xs,v = .ref p/\Rd H p (.lst xs)/\Dens K S l xs:=by
 rcases h with h|⟨l',p,xs,e,e1,e2,e3⟩
 ·obtain⟨p,xs,e,e1,e2⟩:=den_lst.mp h;exact⟨p,xs,e,cV s e1,e2⟩
 ·cases e;exact⟨p,xs,e1,.inl e2,e3⟩
theorem DenP.tup {l:List D}{v:V}(s:Same S H)(h:DenP K S H (.tup l) v):∃p xs,v = .ref p/\SqT K H p xs/\Dens K S l xs:=by
 rcases h with h|⟨l',p,xs,e,e1,e2,e3⟩
 ·obtain⟨p,xs,e,e1,e2⟩:=iy h;exact⟨p,xs,e,aQ s e1,e2⟩
 ·cases e
theorem DenP.scr {l:List D}  (s:Same S H)(h:DenP K S H (.scr l) v):∃p xs,v = .ref p/\SqL K H p xs/\Dens K S l xs:=by
 rcases h with h|⟨l',p,xs,e,e1,e2,e3⟩
 ·obtain⟨p,xs,e,e1,e2⟩:=den_scr.mp h;exact⟨p,xs,e,eA s e1,e2⟩
 ·cases e
theorem DenP.int {i:Int}{v:V}(h:DenP K S H (.int i) v):v = .int i:=by
 rcases h with h|⟨l',p,xs,e,_⟩
 ·exact den_int.mp h
 ·cases e
theorem DenP.bl {i:Bool}  (h:DenP K S H (.bl i) v):v = .bl i:=by
 rcases h with h|⟨l',p,xs,e,_⟩
 ·exact den_bl.mp h
 ·cases e
theorem DenP.str {i:Str}  (h:DenP K S H (.str i) v):v = .str i:=by
 rcases h with h|⟨l',p,xs,e,_⟩
 ·exact den_str.mp h
 ·cases e
theorem DenP.non  (h:DenP K S H .non v):v = .non:=by
 rcases h with h|⟨l',p,xs,e,_⟩
 ·exact den_non.mp h
 ·cases e
theorem DenP.ty {i:String}  (h:DenP K S H (.ty i) v):v = .ty i:=by
 rcases h with h|⟨l',p,xs,e,_⟩
 ·exact den_ty.mp h
 ·cases e
structure Ext (S H S' H':Hp):Prop where
 sh:Same S S'
 sub:Same S' H'
 al:∀b o,H b=some o->S b=none->H' b=some o/\S' b=none
theorem Ext.refl (h:Same S H):Ext S H S H:=⟨Same.refl _,h,fun _ _ h n=>⟨h,n⟩⟩
theorem Ext.trans {H1 H2:Hp}(a:Ext S H S1 H1)(b:Ext S1 H1 S2 H2):Ext S H S2 H2:=⟨a.sh.trans b.sh,b.sub,fun c o h n=>b.al c o (a.al c o h n).1 (a.al c o h n).2⟩
theorem Ext.same (a:Ext S H S' H')(s:Same S H):Same H H':=fun b o h=>by
 cases q:S b with
 |none=>exact (a.al b o h q).1
 |some u=>have:=s b u q;rw[h] at this;cases this;exact a.sub b o (a.sh b o q)
theorem Ext.new (s:Same S H)   (h:H p=none):Ext S H (upd S p o) (upd H p o) where
 sh:=fun b u e=>by rw[aG (aO e (s.free h))];exact e
 sub:=fun b u e=>by
  by_cases hb:b=p
  ·subst hb;rw[aH] at e ⊢;exact e
  ·rw[aG hb] at e ⊢;exact s b u e
 al:=fun b u e n=>by have hb:=aO e h;rw[aG hb,aG hb];exact⟨e,n⟩
theorem Ext.own (s:Same S H)   (h:H p=none):Ext S H S (upd H p o) where
 sh:=Same.refl _
 sub:=fun b u e=>by rw[aG (aO (s b u e) h)];exact s b u e
 al:=fun b u e n=>by have hb:=aO e h;rw[aG hb];exact⟨e,n⟩
theorem DenP.mono   (e:Ext S H S' H')(s:Same S H)(h:DenP K S H d v):DenP K S' H' d v:=by
 rcases h with h|⟨l,p,xs,h1,h2,h3,h4⟩
 ·exact .inl (h.mono e.sh)
 ·exact .inr ⟨l,p,xs,h1,h2,e.same s _ _ h3,h4.mono e.sh⟩
inductive DensP (K:W.Frag) (S H:Hp):List D->List V->Prop where
 |nil:DensP K S H [] []
 |cons {d ds v vs}:DenP K S H d v->DensP K S H ds vs->DensP K S H (d::ds) (v::vs)
inductive O where
 |sh (d:D)|lst (l:List O)|tup (l:List O)|dic (ks:List (List Int))|hd (p:Addr) (ks:List (List Int)) (os:List O)
 deriving Inhabited
mutual
noncomputable def O.d:O->D
 |.sh d=>d
 |.dic ks=>.dic ks
 |.hd _ ks os=>(O.ds os).headD (.dic ks)
 |.lst l=>.lst (O.ds l)
 |.tup l=>.tup (O.ds l)
noncomputable def O.ds:List O->List D
 |[]=>[]
 |o::l=>o.d::O.ds l
end
mutual
noncomputable def Own (K:W.Frag)(S H:Hp):O->V->List Addr->Prop
 |.sh d,v,fp=>fp=[]/\Den K S d v
 |.lst l,v,fp=>∃a xs f,v = .ref a/\fp=a::f/\H a=some (.lst xs)/\Owns K S H l xs f
 |.tup l,v,fp=>∃a xs f,v = .ref a/\fp=a::f/\H a=some (.tup xs)/\Owns K S H l xs f
 |.dic ks,v,fp=>∃a,v = .ref a/\fp=[a]/\H a=some (.dT (b8 ks))
 |.hd p ks os,v,fp=>∃xs f,v=xs.headD (.ref p)/\fp=p::f/\H p=some (.dT (b8 ks))/\Owns K S H os xs f
noncomputable def Owns (K:W.Frag)(S H:Hp):List O->List V->List Addr->Prop
 |[],xs,fp=>xs=[]/\fp=[]
 |o::l,xs,fp=>∃y ys f g,xs=y::ys/\fp=f++g/\Own K S H o y f/\Owns K S H l ys g
end
theorem den_dic {ks:List (List Int)}  : Den K S (.dic ks) v↔∃p,v = .ref p/\Rd S p (.dT (b8 ks)):=by unfold Den;exact Ug
theorem own_dic {ks:List (List Int)}  {fp:List Addr}:Own K S H (.dic ks) v fp↔∃a,v = .ref a/\fp=[a]/\H a=some (.dT (b8 ks)):=by unfold Own;exact Ug
theorem den_dif {ks:List (List Int)}  : Den K S (.dif ks) v↔∃p o,v = .ref p/\S p=some (.frz o (.dT (b8 ks))):=by unfold Den;exact Ug
theorem own_hd {p:Addr}{ks:List (List Int)}{os:List O}  {fp:List Addr}:Own K S H (.hd p ks os) v fp↔∃xs f,v=xs.headD (.ref p)/\fp=p::f/\H p=some (.dT (b8 ks))/\Owns K S H os xs f:=by
 constructor
 ·intro h;unfold Own at h;exact h
 ·intro h;unfold Own;exact h
theorem own_sh {d:D}  {fp:List Addr}:Own K S H (.sh d) v fp↔fp=[]/\Den K S d v:=by unfold Own;exact Ug
theorem own_lst {l:List O}{v:V}{fp:List Addr}:Own K S H (.lst l) v fp↔∃a xs f,v = .ref a/\fp=a::f/\H a=some (.lst xs)/\Owns K S H l xs f:=by
 constructor
 ·intro h;unfold Own at h;exact h
 ·intro h;unfold Own;exact h
theorem own_tup {l:List O}{v:V}{fp:List Addr}:Own K S H (.tup l) v fp↔∃a xs f,v = .ref a/\fp=a::f/\H a=some (.tup xs)/\Owns K S H l xs f:=by
 constructor
 ·intro h;unfold Own at h;exact h
 ·intro h;unfold Own;exact h
theorem Owns.nil:Owns K S H [] [] []:=by unfold Owns;exact⟨rfl,rfl⟩
theorem Owns.cons    {ys:List V}  (h:Own K S H o y f)(k:Owns K S H l ys g):Owns K S H (o::l) (y::ys) (f++g):=by unfold Owns;exact⟨y,ys,f,g,rfl,rfl,h,k⟩
theorem Owns.nil_of {xs:List V}{fp:List Addr}(h:Owns K S H [] xs fp):xs=[]/\fp=[]:=by unfold Owns at h;exact h
theorem Owns.cons_of {o:O}{l:List O}{xs:List V}{fp:List Addr}(h:Owns K S H (o::l) xs fp):∃y ys f g,xs=y::ys/\fp=f++g/\Own K S H o y f/\Owns K S H l ys g:=by unfold Owns at h;exact h
theorem Owns.length:∀ {l:List O} {xs:List V} {fp:List Addr},Owns K S H l xs fp->l.length=xs.length
 |[],_,_,h=>by rw[h.nil_of.1];rfl
 |_::_,_,_,h=>by obtain⟨y,ys,f,g,rfl,rfl,_,k⟩:=h.cons_of;rw[Tz,Tz,k.length]
theorem Owns.append:∀ {l m:List O} {xs ys:List V} {f g:List Addr},Owns K S H l xs f->Owns K S H m ys g->Owns K S H (l++m) (xs++ys) (f++g)
 |[],_,_,_,_,_,h,k=>by rw[h.nil_of.1,h.nil_of.2];exact k
 |_::_,_,_,_,_,_,h,k=>by obtain⟨y,ys,f,g,rfl,rfl,a,b⟩:=h.cons_of;rw[T8];exact .cons a (b.append k)
theorem tI:∀ {ds:List D} {xs:List V},Dens K S ds xs->Owns K S H (ds.map .sh) xs []
 |[],_,h=>by rw[h.nil_of];exact .nil
 |_::_,_,h=>by obtain⟨y,ys,rfl,a,b⟩:=h.cons_of;exact .cons (f:=[]) (own_sh.mpr ⟨rfl,a⟩) (tI b)
theorem nT:∀ {ds:List D} {xs:List V} {fp:List Addr},Owns K S H (ds.map .sh) xs fp->Dens K S ds xs/\fp=[]
 |[],_,_,h=>by rw[h.nil_of.1,h.nil_of.2];exact⟨.nil,rfl⟩
 |_::_,_,_,h=>by obtain⟨y,ys,f,g,rfl,rfl,a,b⟩:=h.cons_of;obtain⟨e,a⟩:=own_sh.mp a;obtain⟨b,e2⟩:=nT b;exact⟨.cons a b,by rw[e,e2];rfl⟩
mutual
theorem Own.mono (s:Same S S'):∀ {o:O} {v:V} {fp:List Addr},(∀b∈fp,H' b=H b)->Own K S H o v fp->Own K S' H' o v fp
 |.dic _,_,_,k,h=>by
  obtain⟨a,e,rfl,h1⟩:=own_dic.mp h;exact own_dic.mpr ⟨a,e,rfl,by rw[k a Tx];exact h1⟩
 |.hd _ _ _,_,_,k,h=>by
  obtain⟨xs,f,e,rfl,h1,h2⟩:=own_hd.mp h;exact own_hd.mpr ⟨xs,f,e,rfl,by rw[k _ Tx];exact h1,Owns.mono s (fun b hb=>k b (TC _ hb)) h2⟩
 |.sh _,_,_,k,h=>by
  obtain⟨e,d⟩:=own_sh.mp h;exact own_sh.mpr ⟨e,d.mono s⟩
 |.lst _,_,_,k,h=>by
  obtain⟨a,xs,f,e,rfl,h1,h2⟩:=own_lst.mp h;exact own_lst.mpr ⟨a,xs,f,e,rfl,by rw[k a Tx];exact h1,Owns.mono s (fun b hb=>k b (TC _ hb)) h2⟩
 |.tup _,_,_,k,h=>by obtain⟨a,xs,f,e,rfl,h1,h2⟩:=own_tup.mp h;exact own_tup.mpr ⟨a,xs,f,e,rfl,by rw[k a Tx];exact h1,Owns.mono s (fun b hb=>k b (TC _ hb)) h2⟩
theorem Owns.mono (s:Same S S'):∀ {l:List O} {xs:List V} {fp:List Addr},(∀b∈fp,H' b=H b)->Owns K S H l xs fp->Owns K S' H' l xs fp
 |[],_,_,k,h=>by rw[h.nil_of.1,h.nil_of.2];exact .nil
 |_::_,_,_,k,h=>by obtain⟨y,ys,f,g,rfl,rfl,a,b⟩:=h.cons_of;exact .cons (Own.mono s (fun b hb=>k b (TJ _ hb)) a) (Owns.mono s (fun b hb=>k b (TH _ hb)) b)
end
mutual
theorem Own.there:∀ {o:O} {v:V} {fp:List Addr},Own K S H o v fp->∀b∈fp,H b≠none
 |.dic _,_,_,h=>by
  obtain⟨a,e,rfl,h1⟩:=own_dic.mp h;intro b hb;rw[Ts] at hb;subst hb;rw[h1];exact fun z=>by cases z
 |.hd _ _ _,_,_,h=>by
  obtain⟨xs,f,e,rfl,h1,h2⟩:=own_hd.mp h;intro b hb;rcases TD.mp hb with rfl|hb
  ·rw[h1];exact fun z=>by cases z
  ·exact Owns.there h2 b hb
 |.sh _,_,_,h=>by
  obtain⟨e,d⟩:=own_sh.mp h;rw[e];intro b hb;cases hb
 |.lst _,_,_,h=>by
  obtain⟨a,xs,f,e,rfl,h1,h2⟩:=own_lst.mp h;intro b hb;rcases TD.mp hb with rfl|hb
  ·rw[h1];exact fun z=>by cases z
  ·exact Owns.there h2 b hb
 |.tup _,_,_,h=>by
  obtain⟨a,xs,f,e,rfl,h1,h2⟩:=own_tup.mp h;intro b hb;rcases TD.mp hb with rfl|hb
  ·rw[h1];exact fun z=>by cases z
  ·exact Owns.there h2 b hb
theorem Owns.there:∀ {l:List O} {xs:List V} {fp:List Addr},Owns K S H l xs fp->∀b∈fp,H b≠none
 |[],_,_,h=>by rw[h.nil_of.2];intro b hb;cases hb
 |_::_,_,_,h=>by
  obtain⟨y,ys,f,g,rfl,rfl,a,b⟩:=h.cons_of;intro c hc;rcases TB.mp hc with hc|hc
  ·exact Own.there a c hc
  ·exact Owns.there b c hc
end
mutual
theorem Own.den  (s:Same S S2):∀ {o:O} {v:V} {fp:List Addr},(∀b∈fp,S2 b=H b)->Own K S H o v fp->Den K S2 o.d v
 |.dic _,_,_,k,h=>by
  obtain⟨a,e,rfl,h1⟩:=own_dic.mp h;rw[O.d];exact den_dic.mpr ⟨a,e,.inl (by rw[k a Tx];exact h1)⟩
 |.hd p ks os,_,_,k,h=>by
  obtain⟨xs,f,e,rfl,h1,h2⟩:=own_hd.mp h;have ds:=Owns.den s (fun b hb=>k b (TC _ hb)) h2;rw[O.d,e];cases q:O.ds os with
  |nil=>
   rw[q] at ds;rw[ds.nil_of];exact den_dic.mpr ⟨p,rfl,.inl (by rw[k p Tx];exact h1)⟩
  |cons d l=>
   rw[q] at ds;obtain⟨y,ys,rfl,a,_⟩:=ds.cons_of;exact a
 |.sh _,_,_,k,h=>by
  obtain⟨e,d⟩:=own_sh.mp h;exact d.mono s
 |.lst l,_,_,k,h=>by
  obtain⟨a,xs,f,e,rfl,h1,h2⟩:=own_lst.mp h;rw[O.d];exact den_lst.mpr ⟨a,xs,e,.inl (by rw[k a Tx];exact h1),Owns.den s (fun b hb=>k b (TC _ hb)) h2⟩
 |.tup l,_,_,k,h=>by obtain⟨a,xs,f,e,rfl,h1,h2⟩:=own_tup.mp h;rw[O.d];exact den_tup.mpr ⟨a,xs,e,TpA.of (by rw[k a Tx];exact h1),Owns.den s (fun b hb=>k b (TC _ hb)) h2⟩
theorem Owns.den  (s:Same S S2):∀ {l:List O} {xs:List V} {fp:List Addr},(∀b∈fp,S2 b=H b)->Owns K S H l xs fp->Dens K S2 (O.ds l) xs
 |[],_,_,k,h=>by rw[h.nil_of.1,O.ds];exact .nil
 |_::_,_,_,k,h=>by obtain⟨y,ys,f,g,rfl,rfl,a,b⟩:=h.cons_of;rw[O.ds];exact .cons (Own.den s (fun b hb=>k b (TJ _ hb)) a) (Owns.den s (fun b hb=>k b (TH _ hb)) b)
end
theorem Own.denH   {fp:List Addr}(s:Same S H)(h:Own K S H o v fp):Den K H o.d v:=h.den s fun _ _=>rfl
theorem Ext.keeps {fp:List Addr}(e:Ext S H S' H')(h:∀b∈fp,S b=none)(t:∀b∈fp,H b≠none):(∀b∈fp,H' b=H b)/\∀b∈fp,S' b=none:=by
 have key:∀b∈fp,H' b=H b/\S' b=none:=fun b hb=>by
  cases q:H b with
  |none=>exact absurd q (t b hb)
  |some o=>exact e.al b o q (h b hb)
 exact⟨fun b hb=>(key b hb).1,fun b hb=>(key b hb).2⟩
inductive Sl where
 |un|lo|sh (d:D)|ow (o:O)
 deriving Inhabited
noncomputable abbrev Env:=List Sl
structure RlF (K:W.Frag) (A:Hp) (Λ:Nat->Option Addr) (Φ:Nat->List Addr) (ρ:Env) (σ:St) (S H:Hp):Prop where
 len:σ.length=ρ.length
 sub:Same S H
 sh:∀(i:Nat) d,ρ[i]?=some (.sh d)->∃v,σ[i]?=some (some v)/\Den K S d v
 ow:∀(i:Nat) o,ρ[i]?=some (.ow o)->∃v,σ[i]?=some (some v)/\Own K S H o v (Φ i)/\(Φ i).Nodup/\∀b∈Φ i,S b=none/\A b=none
 dj:∀(i j:Nat) o o',i≠j->ρ[i]?=some (.ow o)->ρ[j]?=some (.ow o')->∀b∈Φ i,b∉Φ j
 lo:∀(i:Nat),ρ[i]?=some .lo->∃a,Λ i=some a/\σ[i]?=some (some (.ref a))
 asub:Same A H
 adis:∀b,S b=none\/A b=none
def RlA (K:W.Frag)(A:Hp)(Λ:Nat->Option Addr)(ρ:Env)(σ:St)(S H:Hp):Prop:=∃Φ,RlF K A Λ Φ ρ σ S H
def Rl (K:W.Frag)(ρ:Env)(σ:St)(S H:Hp):Prop:=∃A Λ Φ,RlF K A Λ Φ ρ σ S H
theorem RlF.ext      (r:RlF K A Λ Φ ρ σ S H)(e:Ext S H S' H'):RlF K A Λ Φ ρ σ S' H' where
 len:=r.len
 sub:=e.sub
 sh:=fun i d h=>by obtain⟨v,h1,h2⟩:=r.sh i d h;exact⟨v,h1,h2.mono e.sh⟩
 ow:=fun i o h=>by obtain⟨v,h1,h2,h3,h4⟩:=r.ow i o h;obtain⟨k1,k2⟩:=e.keeps (fun b hb=>(h4 b hb).1) h2.there;exact⟨v,h1,h2.mono e.sh k1,h3,fun b hb=>⟨k2 b hb,(h4 b hb).2⟩⟩
 dj:=r.dj
 lo:=r.lo
 asub:=fun b o h=>e.same r.sub b o (r.asub b o h)
 adis:=fun b=>by
  rcases r.adis b with h|h
  ·cases q:A b with
   |none=>exact .inr rfl
   |some o=>exact .inl (e.al b o (r.asub b o q) h).2
  ·exact .inr h
theorem RlA.ext     (r:RlA K A Λ ρ σ S H)(e:Ext S H S' H'):RlA K A Λ ρ σ S' H':=let ⟨Φ,f⟩:=r;⟨Φ,f.ext e⟩
theorem RlA.toRl     (r:RlA K A Λ ρ σ S H):Rl K ρ σ S H:=let ⟨Φ,f⟩:=r;⟨A,Λ,Φ,f⟩
theorem RlA.sub     (r:RlA K A Λ ρ σ S H):Same S H:=let ⟨_,f⟩:=r;f.sub
theorem RlA.asub     (r:RlA K A Λ ρ σ S H):Same A H:=let ⟨_,f⟩:=r;f.asub
theorem RlA.adis     (r:RlA K A Λ ρ σ S H):∀b,S b=none\/A b=none:=let ⟨_,f⟩:=r;f.adis
theorem RlA.sh {A:Hp}{Λ:Nat->Option Addr}{ρ:Env}{σ:St}(r:RlA K A Λ ρ σ S H):∀(i:Nat) d,ρ[i]?=some (.sh d)->∃v,σ[i]?=some (some v)/\Den K S d v:=let ⟨_,f⟩:=r;f.sh
theorem Rl.ext   (r:Rl K ρ σ S H)(e:Ext S H S' H'):Rl K ρ σ S' H':=let ⟨A,Λ,Φ,f⟩:=r;⟨A,Λ,Φ,f.ext e⟩
theorem Rl.sub   (r:Rl K ρ σ S H):Same S H:=let ⟨_,_,_,f⟩:=r;f.sub
theorem Rl.sh {ρ:Env}{σ:St}(r:Rl K ρ σ S H):∀(i:Nat) d,ρ[i]?=some (.sh d)->∃v,σ[i]?=some (some v)/\Den K S d v:=let ⟨_,_,_,f⟩:=r;f.sh
theorem Rl.ow   (r:Rl K ρ σ S H):∀(i:Nat) o,ρ[i]?=some (.ow o)->∃v fp,σ[i]?=some (some v)/\Own K S H o v fp/\fp.Nodup/\∀b∈fp,S b=none:=fun i o h=>by obtain⟨A,Λ,Φ,f⟩:=r;obtain⟨v,h1,h2,h3,h4⟩:=f.ow i o h;exact⟨v,_,h1,h2,h3,fun b hb=>(h4 b hb).1⟩
noncomputable abbrev XE:=Env->Option D
noncomputable abbrev XT:=Env->Option Bool
noncomputable abbrev XA:=Env->Option (List D)
def SE (K:W.Frag)(t:TE)(e:XE):Prop:=∀ρ σ S H (Q:VK) d,Rl K ρ σ S H->e ρ=some d->(∀v S' H',Ext S H S' H'->Den K S' d v->Q v H')->t σ H Q
def SPk (K:W.Frag)(t:TE)(e:XE):Prop:=∀ρ σ S H (Q:VK) d,Rl K ρ σ S H->e ρ=some d->(∀v S' H',Ext S H S' H'->DenP K S' H' d v->Q v H')->t σ H Q
def SF (K:W.Frag)(t:TE)(e:XA):Prop:=∀ρ σ S H (Q:VK) l,Rl K ρ σ S H->e ρ=some l->(∀a xs S' H',Ext S H S' H'->H a=none->S' a=none->H' a=some (.lst xs)->Dens K S' l xs->Q (.ref a) H')->t σ H Q
def ST (K:W.Frag)(t:TT)(c:XT):Prop:=∀ρ σ S H (Q:Bool->Hp->Prop) b,Rl K ρ σ S H->c ρ=some b->(∀S' H',Ext S H S' H'->Q b H')->t σ H Q
def SA (K:W.Frag)(t:TA)(e:XA):Prop:=∀ρ σ S H (Q:List V->Hp->Prop) ds,Rl K ρ σ S H->e ρ=some ds->(∀vs S' H',Ext S H S' H'->Dens K S' ds vs->Q vs H')->t σ H Q
def SAP (K:W.Frag)(t:TA)(e:XA):Prop:=∀ρ σ S H (Q:List V->Hp->Prop) ds,Rl K ρ σ S H->e ρ=some ds->(∀vs S' H',Ext S H S' H'->DensP K S' H' ds vs->Q vs H')->t σ H Q
theorem SE.p {t:TE}{e:XE}(h:SE K t e):SPk K t e:=fun ρ σ S H Q d r x k=>h ρ σ S H Q d r x fun v S' H' z dv=>k v S' H' z (.inl dv)
@[simp] noncomputable def xL (e:XA):XE:=fun ρ=>(e ρ).map D.lst
theorem SF.e {t:TE}{e:XA}(h:SF K t e):SE K t (xL e):=fun ρ σ S H Q d r x k=>by
 unfold xL at x;cases q:e ρ with
 |none=>rw[q] at x;cases x
 |some l=>
  rw[q] at x;cases x;refine h ρ σ S H Q l r q fun a xs S' H' z h1 h2 h3 h4=>?_;have s2:Same S' (upd S' a (.lst xs)):=fun b u e=>by rw[aG (aO e h2)];exact e
  refine k _ (upd S' a (.lst xs)) H' ⟨z.sh.trans s2,fun b u e=>?_,fun b o e n=>?_⟩ (den_lst.mpr ⟨a,xs,rfl,.inl aH,h4.mono s2⟩)
  ·by_cases hb:b=a
   ·subst hb;rw[aH] at e;cases e;exact h3
   ·rw[aG hb] at e;exact z.sub b u e
  ·obtain⟨y1,y2⟩:=z.al b o e n;exact⟨y1,by rw[aG (aO e h1)];exact y2⟩
@[simp] noncomputable def ak (i:Nat):XE:=fun ρ=>match ρ[i]? with|some (.sh d)=>some d|_=>none
noncomputable def shs:List O->Option (List D)
 |[]=>some []
 |.sh d::l=>(shs l).map fun r=>d::r
 |_=>none
theorem tJ:∀l:List D,shs (l.map .sh)=some l
 |[]=>rfl
 |d::l=>by rw[TF,shs,tJ l];rfl
theorem CS:∀ {os:List O} {l:List D},shs os=some l->os=l.map .sh
 |[],l,h=>by cases h;rfl
 |o::os,l,h=>by
  cases o with
  |sh d=>
   have h':(shs os).map (fun r=>d::r)=some l:=h;cases q:shs os with
   |none=>rw[q] at h';cases h'
   |some m=>rw[q] at h';cases h';rw[CS q];rfl
  |lst _=>cases h
  |tup _=>cases h
  |dic _=>cases h
  |hd _ _ _=>cases h
noncomputable def IC:Sl->Option D
 |.sh d=>some d
 |.ow (.sh d)=>some d
 |.ow (.lst os)=>(shs os).map D.lst
 |_=>none
@[simp] theorem Qt (d:D):IC (.ow (.sh d))=some d:=rfl
@[simp] theorem Qv (d:D):IC (.sh d)=some d:=rfl
@[simp] theorem Qu (l:List D):IC (.ow (.lst (l.map .sh)))=some (.lst l):=by show (shs _).map D.lst=_;rw[tJ];rfl
@[simp] noncomputable def ag (i:Nat):XE:=fun ρ=>(ρ[i]?).bind IC
theorem si (i:Nat):SE K (kQ i) (ak i):=fun ρ σ S H Q d r x k=>by
 unfold ak at x;split at x
 ·rename_i d' e;cases x;obtain⟨v,h1,h2⟩:=r.sh i _ e;exact⟨v,h1,k v S H (Ext.refl r.sub) h2⟩
 ·cases x
theorem iQ (i:Nat):SPk K (kQ i) (ag i):=fun ρ σ S H Q d r x k=>by
 unfold ag at x;cases q:ρ[i]? with
 |none=>rw[q] at x;cases x
 |some s=>
  rw[q] at x;cases s with
  |un=>cases x
  |lo=>cases x
  |sh d'=>
   cases x;obtain⟨v,h1,h2⟩:=r.sh i _ q;exact⟨v,h1,k v S H (Ext.refl r.sub) (.inl h2)⟩
  |ow o=>
   cases o with
   |sh d'=>
    cases x;obtain⟨v,fp,h1,h2,h3,h4⟩:=r.ow i _ q;exact⟨v,h1,k v S H (Ext.refl r.sub) (.inl (own_sh.mp h2).2)⟩
   |tup l=>cases x
   |dic ks=>cases x
   |hd _ _ _=>cases x
   |lst os=>
    have x':(shs os).map D.lst=some d:=x;cases qs:shs os with
    |none=>rw[qs] at x';cases x'
    |some l=>rw[qs] at x';cases x';have e:=CS qs;subst e;obtain⟨v,fp,h1,h2,h3,h4⟩:=r.ow i _ q;obtain⟨a,xs,f,rfl,rfl,h5,h6⟩:=own_lst.mp h2;exact⟨_,h1,k _ S H (Ext.refl r.sub) (.inr ⟨l,a,xs,rfl,rfl,h5,(nT h6).1⟩)⟩
def SQ (K:W.Frag)(t:TE)(e:XE):Prop:=∀ρ σ S H (Q:VK) d,Rl K ρ σ S H->e ρ=some d->(∀v S' H',Ext S H S' H'->Den K H' d v->Q v H')->t σ H Q
theorem ny   (s:Same S H)(h:DenP K S H d v):Den K H d v:=by
 rcases h with h|⟨l,p,xs,rfl,rfl,h1,h2⟩
 ·exact h.mono s
 ·exact den_lst.mpr ⟨p,xs,rfl,.inl h1,h2.mono s⟩
theorem SPk.q {t:TE}{e:XE}(h:SPk K t e):SQ K t e:=fun ρ σ S H Q d r x k=>h ρ σ S H Q d r x fun v S' H' z dv=>k v S' H' z (ny z.sub dv)
noncomputable def IE:Sl->Option D
 |.sh d=>some d
 |.ow o=>some o.d
 |_=>none
@[simp] theorem Pi (d:D):IE (.sh d)=some d:=rfl
@[simp] theorem Ph (o:O):IE (.ow o)=some o.d:=rfl
@[simp] noncomputable def EB (i:Nat):XE:=fun ρ=>(ρ[i]?).bind IE
theorem N7 (i:Nat):SQ K (kQ i) (EB i):=fun ρ σ S H Q d r x k=>by
 unfold EB at x;cases q:ρ[i]? with
 |none=>rw[q] at x;cases x
 |some s=>
  rw[q] at x;cases s with
  |un=>cases x
  |lo=>cases x
  |sh d'=>
   cases x;obtain⟨v,h1,h2⟩:=r.sh i _ q;exact⟨v,h1,k v S H (Ext.refl r.sub) (h2.mono r.sub)⟩
  |ow o=>cases x;obtain⟨v,fp,h1,h2,h3,h4⟩:=r.ow i _ q;exact⟨_,h1,k _ S H (Ext.refl r.sub) (h2.denH r.sub)⟩
@[simp] noncomputable def xC (d:D):XE:=fun _=>some d
noncomputable def qB:D->Option V
 |.non=>some .non|.bl b=>some (.bl b)|.int i=>some (.int i)|.str x=>some (.str x)|.ty x=>some (.ty x)|_=>none
theorem o4  {v:V}(h:qB d=some v):Den K S d v:=by cases d<;>simp[qB] at h<;>subst h<;>unfold Den<;>rfl
theorem s_c {v:V}  (h:qB d=some v):SE K (tC v) (xC d):=fun ρ σ S H Q e r x k=>by cases x;exact k v S H (Ext.refl r.sub) (o4 h)
@[simp] noncomputable def xFl (e:XE):XE:=fun ρ=>(e ρ).bind fun d=>if (qB d).isSome then some d else none
theorem Kq  {w:V}(h:qB d=some w)(k:Den K S d v):v=w:=by cases d<;>simp[qB] at h<;>subst h<;>unfold Den at k<;>exact k
theorem SQ.fl   (h:SQ K t e):SE K t (xFl e):=fun ρ σ S H Q d r x k=>by
 unfold xFl at x;cases q:e ρ with
 |none=>rw[q] at x;cases x
 |some d'=>
  rw[q] at x;dsimp only[Option.bind] at x;split at x
  ·rename_i hf;cases x;obtain⟨w,hw⟩:=Option.isSome_iff_exists.mp hf;refine h ρ σ S H Q d r q fun v S' H' z dv=>k v S' H' z ?_;rw[Kq hw dv];exact o4 hw
  ·cases x
@[simp] noncomputable def xOp (f:D->D->Option D)(a b:XE):XE:=fun ρ=>(a ρ).bind fun x=>(b ρ).bind fun y=>f x y
def SR2 (K:W.Frag)(r:R2)(f:D->D->Option D):Prop:=∀S H x y d e g (Q:VK),Same S H->DenP K S H d x->DenP K S H e y->f d e=some g->(∀v S' H',Ext S H S' H'->Den K S' g v->Q v H')->r x y H Q
theorem Jo   {ta tb:TE}  (hr:SR2 K r f)(ha:SPk K ta a)(hb:SPk K tb b):SE K (tOp r ta tb) (xOp f a b):=fun ρ σ S H Q d r x k=>by
 unfold xOp at x;cases qa:a ρ with
 |none=>rw[qa] at x;cases x
 |some da=>
  rw[qa] at x;dsimp only[Option.bind] at x;cases qb:b ρ with
  |none=>rw[qb] at x;cases x
  |some db=>rw[qb] at x;refine ha ρ σ S H _ da r qa fun v S1 H1 z1 d1=>?_;have r1:=r.ext z1;refine hb ρ σ S1 H1 _ db r1 qb fun w S2 H2 z2 d2=>?_;exact hr S2 H2 v w da db d Q z2.sub (d1.mono z2 r1.sub) d2 x fun u S3 H3 z3 d3=>k u S3 H3 ((z1.trans z2).trans z3) d3
theorem Kl {S2:Hp}(s:Same S H)(z:Ext H H S3 H3):Ext S H S H3:=⟨Same.refl _,fun b u e=>z.sub b u (z.sh b u (s b u e)),fun b o h n=>⟨z.sub b o (z.sh b o h),n⟩⟩
theorem P6   {ta tb:TE}  (hr:SR2 K r f)(ha:SQ K ta a)(hb:SQ K tb b):SQ K (tOp r ta tb) (xOp f a b):=fun ρ σ S H Q d r x k=>by
 unfold xOp at x;cases qa:a ρ with
 |none=>rw[qa] at x;cases x
 |some da=>
  rw[qa] at x;dsimp only[Option.bind] at x;cases qb:b ρ with
  |none=>rw[qb] at x;cases x
  |some db=>rw[qb] at x;refine ha ρ σ S H _ da r qa fun v S1 H1 z1 d1=>?_;have r1:=r.ext z1;refine hb ρ σ S1 H1 _ db r1 qb fun w S2 H2 z2 d2=>?_;exact hr H2 H2 v w da db d Q (Same.refl _) (.inl (d1.mono (z2.same r1.sub))) (.inl d2) x fun u S3 H3 z3 d3=>k u S2 H3 ((z1.trans z2).trans (Kl (S2:=S2) z2.sub z3)) (d3.mono z3.sub)
@[simp] noncomputable def xUn (f:D->Option D)(a:XE):XE:=fun ρ=>(a ρ).bind f
def SR1 (K:W.Frag)(r:V->Hp->VK->Prop)(f:D->Option D):Prop:=∀S H x d g (Q:VK),Same S H->DenP K S H d x->f d=some g->(∀v S' H',Ext S H S' H'->Den K S' g v->Q v H')->r x H Q
theorem Jp   {ta:TE}  (hr:SR1 K r f)(ha:SPk K ta a):SE K (tUn r ta) (xUn f a):=fun ρ σ S H Q d r x k=>by
 unfold xUn at x;cases qa:a ρ with
 |none=>rw[qa] at x;cases x
 |some da=>rw[qa] at x;refine ha ρ σ S H _ da r qa fun v S1 H1 z1 d1=>?_;exact hr S1 H1 v da d Q z1.sub d1 x fun u S3 H3 z3 d3=>k u S3 H3 (z1.trans z3) d3
@[simp] noncomputable def ai:XA:=fun _=>some []
@[simp] noncomputable def ad (a:XE)(b:XA):XA:=fun ρ=>(a ρ).bind fun x=>(b ρ).bind fun y=>some (x::y)
theorem gG:SA K rD ai:=fun ρ σ S H Q ds r x k=>by cases x;exact k [] S H (Ext.refl r.sub) .nil
theorem Jw:SAP K rD ai:=fun ρ σ S H Q ds r x k=>by cases x;exact k [] S H (Ext.refl r.sub) .nil
theorem pZ    {ds:List D}(x:ad a b ρ=some ds):∃d r,a ρ=some d/\b ρ=some r/\ds=d::r:=by
 unfold ad at x;cases qa:a ρ with
 |none=>rw[qa] at x;cases x
 |some da=>
  rw[qa] at x;dsimp only[Option.bind] at x;cases qb:b ρ with
  |none=>rw[qb] at x;cases x
  |some db=>rw[qb] at x;cases x;exact⟨_,_,rfl,rfl,rfl⟩
theorem bn {ta:TE}    (ha:SE K ta a)(hb:SA K tr b):SA K (gJ ta tr) (ad a b):=fun ρ σ S H Q ds r x k=>by obtain⟨da,db,qa,qb,rfl⟩:=pZ x;refine ha ρ σ S H _ da r qa fun v S1 H1 z1 d1=>hb ρ σ S1 H1 _ db (r.ext z1) qb fun vs S2 H2 z2 d2=>k _ S2 H2 (z1.trans z2) (.cons (d1.mono z2.sh) d2)
theorem pQ {ta:TE}    (ha:SPk K ta a)(hb:SAP K tr b):SAP K (gJ ta tr) (ad a b):=fun ρ σ S H Q ds r x k=>by obtain⟨da,db,qa,qb,rfl⟩:=pZ x;refine ha ρ σ S H _ da r qa fun v S1 H1 z1 d1=>hb ρ σ S1 H1 _ db (r.ext z1) qb fun vs S2 H2 z2 d2=>k _ S2 H2 (z1.trans z2) (.cons (d1.mono z2 (r.ext z1).sub) d2)
@[irreducible] noncomputable def LIM:Nat:=1000000
theorem jw:LIM<sizeLine:=by rw[Uj];unfold LIM;decide
@[simp] noncomputable def aJ (a:XA):XE:=fun ρ=>(a ρ).bind fun l=>if l.length<=LIM then some (.tup l) else none
theorem nk   (h:SA K t a):SE K (LF t) (aJ a):=fun ρ σ S H Q d r x k=>by
 unfold aJ at x;cases q:a ρ with
 |none=>rw[q] at x;cases x
 |some l=>
  rw[q] at x;dsimp only[Option.bind] at x;split at x
  ·rename_i hl;cases x;refine h ρ σ S H _ l r q fun vs S1 H1 z1 d1=>⟨?_,fun p hp=>?_⟩
   ·rw[<- d1.length];exact Uv (UQ hl jw)
   ·have z2:=Ext.new (o:=.tup vs) z1.sub hp;exact k _ _ _ (z1.trans z2) (den_tup.mpr ⟨p,vs,rfl,TpA.of aH,d1.mono z2.sh⟩)
  ·cases x
@[simp] noncomputable def jD (a:XA):XA:=fun ρ=>(a ρ).bind fun l=>if l.length<=LIM then some l else none
theorem P1   (h:SA K t a):SF K (LC t) (jD a):=fun ρ σ S H Q l r x k=>by
 unfold jD at x;cases q:a ρ with
 |none=>rw[q] at x;cases x
 |some l=>
  rw[q] at x;dsimp only[Option.bind] at x;split at x
  ·rename_i hl;cases x;refine h ρ σ S H _ l r q fun vs S1 H1 z1 d1=>⟨?_,fun p hp=>?_⟩
   ·rw[<- d1.length];exact Uv (UQ hl jw)
   ·have hp0:H p=none:=(z1.same r.sub).free hp;exact k p vs S1 _ (z1.trans (Ext.own z1.sub hp)) hp0 (z1.sub.free hp) aH d1
  ·cases x
@[simp] noncomputable def xCB (f:List D->Option D)(a:XA):XE:=fun ρ=>(a ρ).bind f
def SRB (K:W.Frag)(r:List V->Hp->VK->Prop)(f:List D->Option D):Prop:=∀S H vs ds g (Q:VK),Same S H->DensP K S H ds vs->f ds=some g->(∀v S' H',Ext S H S' H'->Den K S' g v->Q v H')->r vs H Q
theorem PU     (hr:SRB K r f)(h:SAP K t a):SE K (tCB r t) (xCB f a):=fun ρ σ S H Q d rl x k=>by
 unfold xCB at x;cases q:a ρ with
 |none=>rw[q] at x;cases x
 |some ds=>rw[q] at x;refine h ρ σ S H _ ds rl q fun vs S1 H1 z1 d1=>?_;exact hr S1 H1 vs ds d Q z1.sub d1 x fun v S2 H2 z2 d2=>k v S2 H2 (z1.trans z2) d2
@[simp] noncomputable def Dr (f:List D->Option (List D))(a:XA):XA:=fun ρ=>(a ρ).bind f
def SRF (K:W.Frag)(r:List V->Hp->VK->Prop)(f:List D->Option (List D)):Prop:=∀S H vs ds g (Q:VK),Same S H->DensP K S H ds vs->f ds=some g->(∀a xs H',Ext S H S H'->H a=none->H' a=some (.lst xs)->Dens K S g xs->Q (.ref a) H')->r vs H Q
theorem PV     (hr:SRF K r f)(h:SAP K t a):SF K (tCB r t) (Dr f a):=fun ρ σ S H Q d rl x k=>by
 unfold Dr at x;cases q:a ρ with
 |none=>rw[q] at x;cases x
 |some ds=>rw[q] at x;refine h ρ σ S H _ ds rl q fun vs S1 H1 z1 d1=>?_;exact hr S1 H1 vs ds d Q z1.sub d1 x fun b xs H2 z2 h1 h2 d2=>k b xs S1 H2 (z1.trans z2) ((z1.same rl.sub).free h1) (z1.sub.free h1) h2 d2
def STr (K:W.Frag)(t:TE)(e:Env->Option O):Prop:=∀ρ σ S H (Q:VK) o,Rl K ρ σ S H->e ρ=some o->(∀v fp S' H',Ext S H S' H'->Own K S' H' o v fp->fp.Nodup->(∀b∈fp,H b=none/\S' b=none)->Q v H')->t σ H Q
@[simp] noncomputable def xLT (e:XA):Env->Option O:=fun ρ=>(e ρ).map fun l=>.lst (l.map .sh)
theorem SF.t {t:TE}{e:XA}(h:SF K t e):STr K t (xLT e):=fun ρ σ S H Q o r x k=>by
 unfold xLT at x;cases q:e ρ with
 |none=>rw[q] at x;cases x
 |some l=>rw[q] at x;cases x;refine h ρ σ S H Q l r q fun a xs S' H' z h1 h2 h3 h4=>?_;refine k _ [a] S' H' z (own_lst.mpr ⟨a,xs,[],rfl,rfl,h3,tI h4⟩) (by simp) fun b hb=>?_;rw[Ts.mp hb];exact⟨h1,h2⟩
@[simp] noncomputable def xSh (e:XE):Env->Option O:=fun ρ=>(e ρ).map .sh
theorem SE.t {t:TE}{e:XE}(h:SE K t e):STr K t (xSh e):=fun ρ σ S H Q o r x k=>by
 unfold xSh at x;cases q:e ρ with
 |none=>rw[q] at x;cases x
 |some d=>rw[q] at x;cases x;exact h ρ σ S H Q d r q fun v S' H' z dv=>k v [] S' H' z (own_sh.mpr ⟨rfl,dv⟩) .nil fun b hb=>by cases hb
noncomputable def yZ (S H:Hp)(fp:List Addr):Hp:=fun b=>if b∈fp then H b else S b
theorem tp {fp:List Addr}{b:Addr}(h:b∈fp):yZ S H fp b=H b:=by unfold yZ;rw[Tn h]
theorem lr {fp:List Addr}{b:Addr}(h:b∉fp):yZ S H fp b=S b:=by unfold yZ;rw[To h]
theorem mm {fp:List Addr}(n:∀b∈fp,S b=none):Same S (yZ S H fp):=fun b o e=>by rw[lr fun hb=>by rw[n b hb] at e;cases e];exact e
theorem AK {fp:List Addr}(s:Same S H):Same (yZ S H fp) H:=fun b o e=>by
 by_cases hb:b∈fp
 ·rw[tp hb] at e;exact e
 ·rw[lr hb] at e;exact s b o e
theorem AJ {fp:List Addr}(z:Ext S H S' H')(n:∀b∈fp,H b=none/\S' b=none):Ext S H (yZ S' H' fp) H':=
 ⟨z.sh.trans (mm fun b hb=>(n b hb).2),AK z.sub,fun b o h hn=>⟨(z.al b o h hn).1,by rw[lr fun hb=>by rw[(n b hb).1] at h;cases h];exact (z.al b o h hn).2⟩⟩
@[simp] noncomputable def xOD (e:Env->Option O):XE:=fun ρ=>(e ρ).map O.d
theorem STr.e {t:TE}{e:Env->Option O}(h:STr K t e):SE K t (xOD e):=fun ρ σ S H Q d r x k=>by
 unfold xOD at x;cases q:e ρ with
 |none=>rw[q] at x;cases x
 |some o=>rw[q] at x;cases x;exact h ρ σ S H Q o r q fun v fp S' H' z ow nd n=>k v _ H' (AJ z n) (ow.den (mm fun b hb=>(n b hb).2) fun b hb=>tp hb)
noncomputable def bz (K:W.Frag)(n:Nat)(m:List D->Option O):Sp:=fun vs H Q _=>vs.length=n/\∃S ds o,Same S H/\Dens K S ds vs/\m ds=some o/\∀v fp S' H',Ext S H S' H'->Own K S' H' o v fp->fp.Nodup->(∀b∈fp,H b=none/\S' b=none)->Q v H'
@[simp] noncomputable def kn (m:List D->Option O)(a:XA):Env->Option O:=fun ρ=>(a ρ).bind m
theorem El {n:Nat}     (h:SA K t a)(hn:∀ρ ds,a ρ=some ds->ds.length=n):STr K (pT (bz K n m) [] E t) (kn m a):=fun ρ σ S H Q o rl x k=>by
 unfold kn at x;cases q:a ρ with
 |none=>rw[q] at x;cases x
 |some ds=>rw[q] at x;refine h ρ σ S H _ ds rl q fun vs S1 H1 z1 d1=>?_;rw[Ue];refine⟨by rw[<- d1.length];exact hn ρ ds q,S1,ds,o,z1.sub,d1,x,fun v fp S2 H2 z2 ow nd n=>k v fp S2 H2 (z1.trans z2) ow nd fun b hb=>⟨(z1.same rl.sub).free (n b hb).1,(n b hb).2⟩⟩
@[simp] noncomputable def av (m:List D->Option D)(a:XA):XE:=fun ρ=>(a ρ).bind m
theorem C7 {n:Nat}     (h:SA K t a)(hn:∀ρ ds,a ρ=some ds->ds.length=n):SE K (pT (bz K n m) [] E t) (av (fun ds=>(m ds).map O.d) a):=by
 have:=(El (m:=m) (E:=E) h hn).e;have e:xOD (kn m a)=av (fun ds=>(m ds).map O.d) a:=by
  funext ρ
  show ((a ρ).bind m).map O.d=(a ρ).bind fun ds=>(m ds).map O.d;cases a ρ<;>rfl
 rw[e] at this;exact this
@[simp] noncomputable def Rx (m:List D->Option D)(a:XA):XE:=fun ρ=>((a ρ).bind m).bind fun d=>if (qB d).isSome then some d else none
def SAT (K:W.Frag)(t:TA)(e:Env->Option (List O)):Prop:=∀ρ σ S H (Q:List V->Hp->Prop) os,Rl K ρ σ S H->e ρ=some os->(∀vs fp S' H',Ext S H S' H'->Owns K S' H' os vs fp->fp.Nodup->(∀b∈fp,H b=none/\S' b=none)->Q vs H')->t σ H Q
@[simp] noncomputable def JV:Env->Option (List O):=fun _=>some []
@[simp] noncomputable def zT (a:Env->Option O)(b:Env->Option (List O)):Env->Option (List O):=fun ρ=>(a ρ).bind fun x=>(b ρ).bind fun y=>some (x::y)
theorem Oc:SAT K rD JV:=fun ρ σ S H Q ds r x k=>by cases x;exact k [] [] S H (Ext.refl r.sub) .nil .nil fun _ hb=>by cases hb
theorem Lr {ta:TE}    (ha:STr K ta a)(hb:SAT K tr b):SAT K (gJ ta tr) (zT a b):=fun ρ σ S H Q os r x k=>by
 unfold zT at x;cases qa:a ρ with
 |none=>rw[qa] at x;cases x
 |some oa=>
  rw[qa] at x;dsimp only[Option.bind] at x;cases qb:b ρ with
  |none=>rw[qb] at x;cases x
  |some ob=>
   rw[qb] at x;cases x;refine ha ρ σ S H _ oa r qa fun v fp S1 H1 z1 o1 nd1 n1=>hb ρ σ S1 H1 _ ob (r.ext z1) qb fun vs fq S2 H2 z2 o2 nd2 n2=>?_;obtain⟨k1,k2⟩:=z2.keeps (fun b hb=>(n1 b hb).2) o1.there;refine k _ _ S2 H2 (z1.trans z2) (.cons (o1.mono z2.sh k1) o2) ?_ fun c hc=>?_
   ·refine Vc.mpr ⟨nd1,nd2,fun c hc d hd e=>?_⟩;subst e;exact o1.there c hc (n2 c hd).1
   ·rcases TB.mp hc with hc|hc
    ·exact⟨(n1 c hc).1,k2 c hc⟩
    ·exact⟨(z1.same r.sub).free (n2 c hc).1,(n2 c hc).2⟩
@[simp] noncomputable def JZ (a:Env->Option (List O)):Env->Option O:=fun ρ=>(a ρ).bind fun l=>if l.length<=LIM then some (.tup l) else none
@[simp] noncomputable def JU (a:Env->Option (List O)):Env->Option O:=fun ρ=>(a ρ).bind fun l=>if l.length<=LIM then some (.lst l) else none
theorem yr {fp:List Addr}   (h:H p=none)(t:∀b∈fp,H b≠none):(∀b∈fp,upd H p o b=H b)/\p∉fp:=by have np:p∉fp:=fun hp=>t p hp h;exact⟨fun b hb=>aG fun e=>np (e▸hb),np⟩
theorem N6   (h:SAT K t a):STr K (LF t) (JZ a):=fun ρ σ S H Q o r x k=>by
 unfold JZ at x;cases q:a ρ with
 |none=>rw[q] at x;cases x
 |some l=>
  rw[q] at x;dsimp only[Option.bind] at x;split at x
  ·rename_i hl;cases x;refine h ρ σ S H _ l r q fun vs fp S1 H1 z1 o1 nd1 n1=>⟨?_,fun p hp=>?_⟩
   ·rw[<- o1.length];exact Uv (UQ hl jw)
   ·obtain⟨k1,k2⟩:=yr (o:=.tup vs) hp o1.there;refine k _ (p::fp) S1 _ (z1.trans (Ext.own z1.sub hp)) (own_tup.mpr ⟨p,vs,fp,rfl,rfl,aH,o1.mono (Same.refl _) k1⟩) (Uk.mpr ⟨k2,nd1⟩) fun b hb=>?_;rcases TD.mp hb with rfl|hb
    ·exact⟨(z1.same r.sub).free hp,z1.sub.free hp⟩
    ·exact n1 b hb
  ·cases x
theorem NQ   (h:SAT K t a):STr K (LC t) (JU a):=fun ρ σ S H Q o r x k=>by
 unfold JU at x;cases q:a ρ with
 |none=>rw[q] at x;cases x
 |some l=>
  rw[q] at x;dsimp only[Option.bind] at x;split at x
  ·rename_i hl;cases x;refine h ρ σ S H _ l r q fun vs fp S1 H1 z1 o1 nd1 n1=>⟨?_,fun p hp=>?_⟩
   ·rw[<- o1.length];exact Uv (UQ hl jw)
   ·obtain⟨k1,k2⟩:=yr (o:=.lst vs) hp o1.there;refine k _ (p::fp) S1 _ (z1.trans (Ext.own z1.sub hp)) (own_lst.mpr ⟨p,vs,fp,rfl,rfl,aH,o1.mono (Same.refl _) k1⟩) (Uk.mpr ⟨k2,nd1⟩) fun b hb=>?_;rcases TD.mp hb with rfl|hb
    ·exact⟨(z1.same r.sub).free hp,z1.sub.free hp⟩
    ·exact n1 b hb
  ·cases x
theorem zc  {ds:List D}(h:ai ρ=some ds):ds.length=0:=by cases h;rfl
theorem uI  {b:XA}{n:Nat}(h:∀ρ ds,b ρ=some ds->ds.length=n)(ρ:Env)(ds:List D)(x:ad a b ρ=some ds):ds.length=n+1:=by obtain⟨da,db,qa,qb,rfl⟩:=pZ x;rw[Tz,h ρ db qb]
@[simp] noncomputable def Ey (a b:XE):XE:=fun ρ=>(a ρ).bind fun x=>match x with|.bl true=>b ρ|.bl false=>some (.bl false)|_=>none
@[simp] noncomputable def Tg (a b:XE):XE:=fun ρ=>(a ρ).bind fun x=>match x with|.bl true=>some (.bl true)|.bl false=>b ρ|_=>none
@[simp] noncomputable def Sn (a:XE):XE:=fun ρ=>(a ρ).bind fun x=>match x with|.bl c=>some (.bl (!c))|_=>none
theorem NH {ta tb:TE}  (ha:SPk K ta a)(hb:SE K tb b):SE K (JB ta tb) (Ey a b):=fun ρ σ S H Q d r x k=>by
 unfold Ey at x;cases qa:a ρ with
 |none=>rw[qa] at x;cases x
 |some da=>
  rw[qa] at x;dsimp only[Option.bind] at x;refine ha ρ σ S H _ da r qa fun v S1 H1 z1 d1=>?_;split at x
  ·exact⟨true,d1.bl,Fl (hb ρ σ S1 H1 Q d (r.ext z1) x fun w S2 H2 z2 d2=>k w S2 H2 (z1.trans z2) d2)⟩
  ·cases x;exact⟨false,d1.bl,Fk (k _ S1 H1 z1 (den_bl.mpr rfl))⟩
  ·cases x
@[simp] noncomputable def Td (c:XT)(a b:XE):XE:=fun ρ=>(c ρ).bind fun q=>if q=true then a ρ else b ρ
@[simp] noncomputable def xB (a:XE):XT:=fun ρ=>(a ρ).bind fun x=>match x with|.bl c=>some c|_=>none
theorem s_b {ta:TE}  (ha:SPk K ta a):ST K (tB ta) (xB a):=fun ρ σ S H Q b r x k=>by
 unfold xB at x;cases qa:a ρ with
 |none=>rw[qa] at x;cases x
 |some da=>
  rw[qa] at x;dsimp only[Option.bind] at x;refine ha ρ σ S H _ da r qa fun v S1 H1 z1 d1=>?_;split at x
  ·cases x;exact⟨_,d1.bl,k S1 H1 z1⟩
  ·cases x
theorem zD {ta:TE}  (ha:SPk K ta a):ST K (Et ta) (xB a):=s_b ha
noncomputable def BW:D->Option Bool
 |.non=>some false
 |.bl b=>some b
 |.int i=>some (i != 0)
 |.str y=>if y.length<=LIM then some ((y.length:Int) != 0) else none
 |.lst l=>some (!l.isEmpty)
 |.tup l=>some (!l.isEmpty)
 |.scr l=>some (!l.isEmpty)
 |_=>none
theorem nz {ds:List D}{xs:List V}(h:Dens K S ds xs):(!ds.isEmpty) = !xs.isEmpty:=by have:=h.length;cases ds<;>cases xs<;>simp_all
@[simp] noncomputable def wW (a:XE):XT:=fun ρ=>(a ρ).bind BW
theorem Oi   {b:Bool}(s:Same S H)(h:DenP K S H d v)(x:BW d=some b):J7 K v H b:=by
 cases d with
 |non=>rw[h.non];cases x;rfl
 |bl c=>rw[h.bl];cases x;rfl
 |int i=>rw[h.int];cases x;rfl
 |str y=>
  rw[h.str];have x':(if y.length<=LIM then some ((y.length:Int) != 0) else none)=some b:=x;split at x'
  ·rename_i hl;cases x';exact⟨Uv (UQ hl jw),rfl⟩
  ·cases x'
 |lst l=>
  obtain⟨p,xs,rfl,h1,h2⟩:=h.lst s;cases x;exact .inl ⟨xs,.inl h1,nz h2⟩
 |tup l=>
  obtain⟨p,xs,rfl,h1,h2⟩:=h.tup s;cases x;exact .inr (.inl ⟨xs,h1,nz h2⟩)
 |scr l=>
  obtain⟨p,xs,rfl,h1,h2⟩:=h.scr s;cases x;exact .inl ⟨xs,h1,nz h2⟩
 |_=>cases x
end
section
variable {K:W.Frag}{S S' H H':Hp}
@[simp] noncomputable def zS (a b:XT):XT:=fun ρ=>(a ρ).bind fun x=>if x=true then b ρ else some false
@[simp] noncomputable def xOr (a b:XT):XT:=fun ρ=>(a ρ).bind fun x=>if x=true then some true else b ρ
@[simp] noncomputable def Gv (a:XT):XT:=fun ρ=>(a ρ).map fun x=>!x
theorem PP {ta tb:TT}  (ha:ST K ta a)(hb:ST K tb b):ST K (Oe ta tb) (zS a b):=fun ρ σ S H Q d r x k=>by
 unfold zS at x;cases qa:a ρ with
 |none=>rw[qa] at x;cases x
 |some q=>
  rw[qa] at x;dsimp only[Option.bind] at x;refine ha ρ σ S H _ q r qa fun S1 H1 z1=>?_;cases q with
  |true=>exact Fl (hb ρ σ S1 H1 Q d (r.ext z1) (by simpa using x) fun S2 H2 z2=>k S2 H2 (z1.trans z2))
  |false=>
   have:d=false:=by simpa using x.symm
   subst this;exact Fk (k S1 H1 z1)
theorem Q1 {ta tb:TT}  (ha:ST K ta a)(hb:ST K tb b):ST K (tOr ta tb) (xOr a b):=fun ρ σ S H Q d r x k=>by
 unfold xOr at x;cases qa:a ρ with
 |none=>rw[qa] at x;cases x
 |some q=>
  rw[qa] at x;dsimp only[Option.bind] at x;refine ha ρ σ S H _ q r qa fun S1 H1 z1=>?_;cases q with
  |false=>exact Fk (hb ρ σ S1 H1 Q d (r.ext z1) (by simpa using x) fun S2 H2 z2=>k S2 H2 (z1.trans z2))
  |true=>
   have:d=true:=by simpa using x.symm
   subst this;exact Fl (k S1 H1 z1)
theorem P5 {ta:TT}  (ha:ST K ta a):ST K (Oh ta) (Gv a):=fun ρ σ S H Q d r x k=>by
 unfold Gv at x;cases qa:a ρ with
 |none=>rw[qa] at x;cases x
 |some q=>rw[qa] at x;cases x;exact ha ρ σ S H _ q r qa k
inductive Out where
 |nx (ρ:Env)|rt (d:D)|ro (o:O)|bk (ρ:Env)|ct (ρ:Env)
noncomputable abbrev XS:=Env->Option Out
noncomputable def Done (K:W.Frag)(A:Hp)(Λ:Nat->Option Addr)(S:Hp)(E:Ends):Out->Prop
 |.nx ρ=>∀σ' S' H',RlA K A Λ ρ σ' S' H'->Same S S'->E.nx σ' H'
 |.bk ρ=>∀σ' S' H',RlA K A Λ ρ σ' S' H'->Same S S'->E.bk σ' H'
 |.ct ρ=>∀σ' S' H',RlA K A Λ ρ σ' S' H'->Same S S'->E.ct σ' H'
 |.rt d=>∀v S' H',Same S S'->Same S' H'->Same A H'->(∀b,S' b=none\/A b=none)->Den K S' d v->E.rt v H'
 |.ro o=>∀v fp S' H',Same S S'->Same S' H'->Same A H'->(∀b,S' b=none\/A b=none)->Own K S' H' o v fp->fp.Nodup->(∀b∈fp,S' b=none/\A b=none)->E.rt v H'
theorem Done.mono     (s:Same S S')(h:Done K A Λ S E o):Done K A Λ S' E o:=by
 cases o with
 |nx ρ=>exact fun σ1 S1 H1 r z=>h σ1 S1 H1 r (s.trans z)
 |bk ρ=>exact fun σ1 S1 H1 r z=>h σ1 S1 H1 r (s.trans z)
 |ct ρ=>exact fun σ1 S1 H1 r z=>h σ1 S1 H1 r (s.trans z)
 |rt d=>exact fun v S1 H1 z=>h v S1 H1 (s.trans z)
 |ro d=>exact fun v fp S1 H1 z=>h v fp S1 H1 (s.trans z)
def SS (K:W.Frag)(t:TS)(m:XS):Prop:=∀A Λ ρ σ S H (E:Ends) o,RlA K A Λ ρ σ S H->m ρ=some o->Done K A Λ S E o->t E σ H
@[simp] noncomputable def eX:XS:=fun ρ=>some (.nx ρ)
theorem NU:SS K Er eX:=fun A Λ ρ σ S H E o r x k=>by cases x;exact k σ S H r (Same.refl _)
@[simp] noncomputable def JS:XS:=fun ρ=>some (.bk ρ)
@[simp] noncomputable def Sf:XS:=fun ρ=>some (.ct ρ)
theorem Lh:SS K Dh JS:=fun A Λ ρ σ S H E o r x k=>by cases x;exact k σ S H r (Same.refl _)
@[simp] noncomputable def RD:XS:=fun _=>none
@[simp] noncomputable def aB (m n:XS):XS:=fun ρ=>match m ρ with|some (.nx ρ')=>n ρ' | o=>o
theorem P8   (ht:SS K t m)(hu:SS K u n):SS K (LD t u) (aB m n):=fun A Λ ρ σ S H E o r x k=>by
 unfold aB at x;cases q:m ρ with
 |none=>rw[q] at x;cases x
 |some om=>
  rw[q] at x;refine ht A Λ ρ σ S H _ om r q ?_;cases om with
  |nx ρ'=>exact fun σ' S' H' r' z=>hu A Λ ρ' σ' S' H' E o r' x (k.mono z)
  |rt d=>cases x;exact k
  |ro d=>cases x;exact k
  |bk d=>cases x;exact k
  |ct d=>cases x;exact k
@[simp] noncomputable def bO (e:XE):XS:=fun ρ=>(e ρ).map .rt
theorem P7 {te:TE}  (h:SE K te e):SS K (JJ te) (bO e):=fun A Λ ρ σ S H E o r x k=>by
 unfold bO at x;cases q:e ρ with
 |none=>rw[q] at x;cases x
 |some d=>rw[q] at x;cases x;refine h ρ σ S H _ d r.toRl q fun v S1 H1 z1 d1=>?_;have r1:=r.ext z1;exact k v S1 H1 z1.sh z1.sub r1.asub r1.adis d1
@[simp] noncomputable def JW (e:Env->Option O):XS:=fun ρ=>(e ρ).map .ro
theorem NY {te:TE}  (h:STr K te e):SS K (JJ te) (JW e):=fun A Λ ρ σ S H E o r x k=>by
 unfold JW at x;cases q:e ρ with
 |none=>rw[q] at x;cases x
 |some ot=>rw[q] at x;cases x;refine h ρ σ S H _ ot r.toRl q fun v fp S1 H1 z1 o1 nd n=>?_;have r1:=r.ext z1;exact k v fp S1 H1 z1.sh z1.sub r1.asub r1.adis o1 nd fun b hb=>⟨(n b hb).2,r.asub.free (n b hb).1⟩
@[simp] noncomputable def md (i:Nat):XS:=fun ρ=>match ρ[i]? with|some (.sh d)=>some (.rt d)|some (.ow o)=>some (.ro o)|_=>none
theorem NZ (i:Nat):SS K (JJ (kQ i)) (md i):=fun A Λ ρ σ S H E o r x k=>by
 unfold md at x;cases q:ρ[i]? with
 |none=>rw[q] at x;cases x
 |some s=>
  rw[q] at x;obtain⟨Φ,f⟩:=r;cases s with
  |un=>cases x
  |lo=>cases x
  |sh d=>
   cases x;obtain⟨v,h1,h2⟩:=f.sh i d q;exact⟨v,h1,k v S H (Same.refl _) f.sub f.asub f.adis h2⟩
  |ow ot=>cases x;obtain⟨v,h1,h2,h3,h4⟩:=f.ow i ot q;exact⟨v,h1,k v _ S H (Same.refl _) f.sub f.asub f.adis h2 h3 h4⟩
@[simp] noncomputable def Ss:XS:=fun _=>some (.rt .non)
@[simp] noncomputable def xIf (c:XT)(m n:XS):XS:=fun ρ=>(c ρ).bind fun b=>if b=true then m ρ else n ρ
theorem Q0 {tc:TT}    (hc:ST K tc c)(ht:SS K t m)(hu:SS K u n):SS K (LB tc t u) (xIf c m n):=fun A Λ ρ σ S H E o r x k=>by
 unfold xIf at x;cases qc:c ρ with
 |none=>rw[qc] at x;cases x
 |some q=>
  rw[qc] at x;dsimp only[Option.bind] at x;refine hc ρ σ S H _ q r.toRl qc fun S1 H1 z1=>?_;cases q with
  |true=>exact Fl (ht A Λ ρ σ S1 H1 E o (r.ext z1) (by simpa using x) (k.mono z1.sh))
  |false=>exact Fk (hu A Λ ρ σ S1 H1 E o (r.ext z1) (by simpa using x) (k.mono z1.sh))
theorem bo {α:Type}{l:List α}{i j:Nat}{x y:α}(h:(l.set i x)[j]?=some y):(i=j/\y=x/\i<l.length)\/(i≠j/\l[j]?=some y):=by
 by_cases hij:i=j
 ·subst hij;have hl:=(TR.mp h).1;rw[UV] at hl;rw[Vv hl] at h;exact .inl ⟨rfl,(T6 h).symm,hl⟩
 ·rw[UI hij] at h;exact .inr ⟨hij,h⟩
theorem RlF.set        (r:RlF K A Λ Φ ρ σ S H)(i:Nat)(h:Den K S d v):RlF K A Λ Φ (ρ.set i (.sh d)) (σ.set i (some v)) S H where
 len:=by rw[UV,UV];exact r.len
 sub:=r.sub
 sh:=fun j e hj=>by
  rcases bo hj with ⟨rfl,e,hl⟩|⟨hij,hj⟩
  ·cases e;exact⟨v,Vv (by rw[r.len];exact hl),h⟩
  ·rw[UI hij];exact r.sh j e hj
 ow:=fun j o hj=>by
  rcases bo hj with ⟨rfl,e,hl⟩|⟨hij,hj⟩
  ·cases e
  ·rw[UI hij];exact r.ow j o hj
 dj:=fun j k o o' hjk h1 h2=>by
  rcases bo h1 with ⟨rfl,e,hl⟩|⟨hij,h1⟩
  ·cases e
  ·rcases bo h2 with ⟨rfl,e,hl⟩|⟨hik,h2⟩
   ·cases e
   ·exact r.dj j k o o' hjk h1 h2
 lo:=fun j hj=>by
  rcases bo hj with ⟨rfl,e,hl⟩|⟨hij,hj⟩
  ·cases e
  ·rw[UI hij];exact r.lo j hj
 asub:=r.asub
 adis:=r.adis
theorem RlA.set       (r:RlA K A Λ ρ σ S H)(i:Nat)(h:Den K S d v):RlA K A Λ (ρ.set i (.sh d)) (σ.set i (some v)) S H:=let ⟨Φ,f⟩:=r;⟨Φ,f.set i h⟩
theorem RlF.put        {fp:List Addr}(r:RlF K A Λ Φ ρ σ S H)(i:Nat)(sub:Same S H')(asub:Same A H')(ow:Own K S H' o v fp)(nd:fp.Nodup)(n:∀b∈fp,S b=none/\A b=none)
  (keep:∀(j:Nat) o',j≠i->ρ[j]?=some (.ow o')->∀b∈Φ j,H' b=H b/\b∉fp):RlF K A Λ (fun j=>if j=i then fp else Φ j) (ρ.set i (.ow o)) (σ.set i (some v)) S H' where
 len:=by rw[UV,UV];exact r.len
 sub:=sub
 sh:=fun j e hj=>by
  rcases bo hj with ⟨rfl,e,hl⟩|⟨hij,hj⟩
  ·cases e
  ·rw[UI hij];exact r.sh j e hj
 ow:=fun j o' hj=>by
  rcases bo hj with ⟨rfl,e,hl⟩|⟨hij,hj⟩
  ·cases e;rw[Tn rfl];exact⟨v,Vv (by rw[r.len];exact hl),ow,nd,n⟩
  ·rw[UI hij,To (T9 hij)];obtain⟨w,h1,h2,h3,h4⟩:=r.ow j o' hj;exact⟨w,h1,h2.mono (Same.refl _) fun b hb=>(keep j o' (T9 hij) hj b hb).1,h3,h4⟩
 dj:=fun j k o1 o2 hjk h1 h2 b hb hb2=>by
  rcases bo h1 with ⟨rfl,e,hl⟩|⟨hij,h1⟩
  ·rcases bo h2 with ⟨rfl,e,hl⟩|⟨hik,h2⟩
   ·exact hjk rfl
   ·rw[Tn rfl] at hb;rw[To (T9 hik)] at hb2;exact (keep k o2 (T9 hik) h2 b hb2).2 hb
  ·rcases bo h2 with ⟨rfl,e,hl⟩|⟨hik,h2⟩
   ·rw[Tn rfl] at hb2;rw[To (T9 hij)] at hb;exact (keep j o1 (T9 hij) h1 b hb).2 hb2
   ·rw[To (T9 hij)] at hb;rw[To (T9 hik)] at hb2;exact r.dj j k o1 o2 hjk h1 h2 b hb hb2
 lo:=fun j hj=>by
  rcases bo hj with ⟨rfl,e,hl⟩|⟨hij,hj⟩
  ·cases e
  ·rw[UI hij];exact r.lo j hj
 asub:=asub
 adis:=r.adis
theorem vB {α:Type}{l:List α}{i:Nat}{x:α}(h:l[i]?=some x):l.set i x=l:=by
 apply VW;intro j;by_cases e:i=j
 ·subst e;rw[Vv (TR.mp h).1,h]
 ·rw[UI e]
noncomputable def frz (i:Nat)(ρ:Env):Env:=match ρ[i]? with|some (.ow o)=>ρ.set i (.sh o.d)|_=>ρ
theorem RlA.frz     (r:RlA K A Λ ρ σ S H)(i:Nat):∃S',Same S S'/\RlA K A Λ (frz i ρ) σ S' H:=by
 unfold M.frz;cases q:ρ[i]? with
 |none=>exact⟨S,Same.refl _,r⟩
 |some s=>
  cases s with
  |un=>exact⟨S,Same.refl _,r⟩
  |lo=>exact⟨S,Same.refl _,r⟩
  |sh d=>exact⟨S,Same.refl _,r⟩
  |ow o=>
   dsimp only;obtain⟨Φ,f⟩:=r;obtain⟨v,h1,h2,h3,h4⟩:=f.ow i o q;have s2:Same S (yZ S H (Φ i)):=mm fun b hb=>(h4 b hb).1;have hd:Den K (yZ S H (Φ i)) o.d v:=h2.den s2 fun b hb=>tp hb;refine⟨_,s2,Φ,?_⟩
   exact {
    len:=by rw[UV];exact f.len
    sub:=AK f.sub
    sh:=fun j d hj=>by
     rcases bo hj with ⟨rfl,e,hl⟩|⟨hij,hj⟩
     ·cases e;exact⟨v,h1,hd⟩
     ·obtain⟨w,k1,k2⟩:=f.sh j d hj;exact⟨w,k1,k2.mono s2⟩
    ow:=fun j o' hj=>by
     rcases bo hj with ⟨rfl,e,hl⟩|⟨hij,hj⟩
     ·cases e
     ·obtain⟨w,k1,k2,k3,k4⟩:=f.ow j o' hj;exact⟨w,k1,k2.mono s2 fun _ _=>rfl,k3,fun b hb=>⟨by rw[lr fun hi=>f.dj i j o o' hij q hj b hi hb];exact (k4 b hb).1,(k4 b hb).2⟩⟩
    dj:=fun j k o1 o2 hjk g1 g2=>by
     rcases bo g1 with ⟨rfl,e,hl⟩|⟨hij,g1⟩
     ·cases e
     ·rcases bo g2 with ⟨rfl,e,hl⟩|⟨hik,g2⟩
      ·cases e
      ·exact f.dj j k o1 o2 hjk g1 g2
    lo:=fun j hj=>by
     rcases bo hj with ⟨rfl,e,hl⟩|⟨hij,hj⟩
     ·cases e
     ·exact f.lo j hj
    asub:=f.asub
    adis:=fun b=>by
     by_cases hb:b∈Φ i
     ·exact .inr (h4 b hb).2
     ·rw[lr hb];exact f.adis b }
@[simp] noncomputable def Ov (i:Nat)(m:XS):XS:=fun ρ=>m (frz i ρ)
theorem PY   (i:Nat)(h:SS K t m):SS K t (Ov i m):=fun A Λ ρ σ S H E o r x k=>by obtain⟨S',s,r'⟩:=r.frz i;exact h A Λ _ σ S' H E o r' x (k.mono s)
noncomputable abbrev XG:=D->Env->Option Env
noncomputable abbrev XGs:=List D->Env->Option Env
def SG (K:W.Frag)(g:TG)(x:XG):Prop:=∀A Λ ρ σ S H v d (Q:St->Hp->Prop) ρ',RlA K A Λ ρ σ S H->Den K S d v->x d ρ=some ρ'->(∀σ',RlA K A Λ ρ' σ' S H->Q σ' H)->g v σ H Q
def SGs (K:W.Frag)(g:TGs)(x:XGs):Prop:=∀A Λ ρ σ S H vs ds (Q:St->Hp->Prop) ρ',RlA K A Λ ρ σ S H->Dens K S ds vs->x ds ρ=some ρ'->(∀σ',RlA K A Λ ρ' σ' S H->Q σ' H)->g vs σ H Q
@[simp] noncomputable def af (i:Nat):XG:=fun d ρ=>some (ρ.set i (.sh d))
noncomputable def aE:XGs:=fun ds ρ=>match ds with|[]=>some ρ|_=>none
noncomputable def aj (x:XG)(y:XGs):XGs:=fun ds ρ=>match ds with|d::r=>(x d ρ).bind (y r)|[]=>none
noncomputable def aF (y:XGs):XG:=fun d ρ=>match d with|.tup l=>y l ρ|.mtp l=>y l ρ|_=>none
theorem MM (i:Nat):SG K (je i) (af i):=fun A Λ ρ σ S H v d Q ρ' r dv x k=>by cases x;exact k _ (r.set i dv)
theorem OX:SGs K Ks aE:=fun A Λ ρ σ S H vs ds Q ρ' r dv x k=>by
 cases ds with
 |nil=>cases x;exact⟨dv.nil_of,k σ r⟩
 |cons _ _=>cases x
theorem ML     (h:SG K g x)(hs:SGs K gs y):SGs K (DP g gs) (aj x y):=fun A Λ ρ σ S H vs ds Q ρ' r dv e k=>by
 cases ds with
 |nil=>cases e
 |cons d ds=>
  obtain⟨v,vs,rfl,h1,h2⟩:=dv.cons_of;have e':(x d ρ).bind (y ds)=some ρ':=e;cases q:x d ρ with
  |none=>rw[q] at e';cases e'
  |some ρ1=>rw[q] at e';exact⟨v,vs,rfl,h A Λ ρ σ S H v d _ ρ1 r h1 q fun σ1 r1=>hs A Λ ρ1 σ1 S H vs ds Q ρ' r1 h2 e' k⟩
def AR (y:XGs)(n:Nat):Prop:=∀ds ρ ρ',y ds ρ=some ρ'->ds.length=n
theorem M4:AR aE 0:=fun ds ρ ρ' e=>by cases ds with|nil=>rfl|cons _ _=>cases e
theorem KF   {n:Nat}(h:AR y n):AR (aj x y) (n+1):=fun ds ρ ρ' e=>by
 cases ds with
 |nil=>cases e
 |cons d ds=>
  have e':(x d ρ).bind (y ds)=some ρ':=e;cases q:x d ρ with
  |none=>rw[q] at e';cases e'
  |some ρ1=>rw[q] at e';rw[Tz,h ds ρ1 ρ' e']
theorem OY   {n:Nat}(hs:SGs K gs y)(hl:AR y n):SG K (Hr K n gs) (aF y):=fun A Λ ρ σ S H v d Q ρ' r dv e k=>by
 cases d with
 |tup l=>
  obtain⟨p,xs,rfl,h1,h2⟩:=iy dv;exact⟨p,xs,rfl,aQ r.sub h1,by rw[<- h2.length];exact hl l ρ ρ' e,hs A Λ ρ σ S H xs l Q ρ' r h2 e k⟩
 |mtp l=>
  obtain⟨p,xs,rfl,h1,h2⟩:=den_mtp.mp dv;exact⟨p,xs,rfl,aQ r.sub h1,by rw[<- h2.length];exact hl l ρ ρ' e,hs A Λ ρ σ S H xs l Q ρ' r h2 e k⟩
 |_=>cases e
@[simp] noncomputable def aV (e:XE)(g:XG):XS:=fun ρ=>(e ρ).bind fun d=>(g d ρ).map .nx
theorem PQ {te:TE}    (h:SE K te e)(hg:SG K g x):SS K (zL te g) (aV e x):=fun A Λ ρ σ S H E o r y k=>by
 unfold aV at y;cases q:e ρ with
 |none=>rw[q] at y;cases y
 |some d=>
  rw[q] at y;dsimp only[Option.bind] at y;cases q2:x d ρ with
  |none=>rw[q2] at y;cases y
  |some ρ'=>rw[q2] at y;cases y;exact h ρ σ S H _ d r.toRl q fun v S1 H1 z1 d1=>hg A Λ ρ σ S1 H1 v d _ ρ' (r.ext z1) d1 q2 fun σ' r'=>k σ' S1 H1 r' z1.sh
@[simp] noncomputable def nq (e:Env->Option O)(i:Nat):XS:=fun ρ=>(e ρ).map fun o=>.nx (ρ.set i (.ow o))
theorem Jj {te:TE}  {i:Nat}(h:STr K te e):SS K (zL te (je i)) (nq e i):=fun A Λ ρ σ S H E o r y k=>by
 unfold nq at y;cases q:e ρ with
 |none=>rw[q] at y;cases y
 |some ot=>rw[q] at y;cases y;obtain⟨Φ,f⟩:=r;refine h ρ σ S H _ ot ⟨A,Λ,Φ,f⟩ q fun v fp S1 H1 z1 o1 nd n=>?_;have r1:=f.ext z1;refine k _ S1 H1 ⟨_,r1.put (H':=H1) i r1.sub r1.asub o1 nd (fun b hb=>⟨(n b hb).2,f.asub.free (n b hb).1⟩) fun j o' hj e1 b hb=>⟨rfl,fun hf=>?_⟩⟩ z1.sh;obtain⟨w,_,k2,_,_⟩:=f.ow j o' e1;exact k2.there b hb (n b hf).1
@[simp] noncomputable def jt (e:XA)(i:Nat):XS:=nq (xLT e) i
theorem NJ {te:TE}  {i:Nat}(h:SF K te e):SS K (zL te (je i)) (jt e i):=Jj h.t
noncomputable def d7:O->List Int->Option O
 |o,[]=>some o
 |.lst l,k::r=>(atI l k).bind fun o=>d7 o r
 |.tup l,k::r=>(atI l k).bind fun o=>d7 o r
 |.sh _,_::_=>none
 |.dic _,_::_=>none
 |.hd _ _ _,_::_=>none
noncomputable def vp (l:List O)(k:Int)(f:O->O):List O:=match ixN l.length k with
 |some j=>(match l[j]? with|some o=>l.set j (f o)|none=>l)
 |none=>l
noncomputable def jQ:O->List Int->O->O
 |_,[],q=>q
 |.lst l,k::r,q=>.lst (vp l k fun o=>jQ o r q)
 |.tup l,k::r,q=>.tup (vp l k fun o=>jQ o r q)
 |.sh d,_::_,_=>.sh d
 |.dic d,_::_,_=>.dic d
 |.hd p d l,_::_,_=>.hd p d l
noncomputable def WalkV (H:Hp):V->List Int->V->Prop
 |v,[],w=>v=w
 |v,k::r,w=>∃a xs u,v = .ref a/\(H a=some (.lst xs)\/H a=some (.tup xs))/\atI xs k=some u/\WalkV H u r w
theorem WalkV.mono (s:Same H H'):∀ {p:List Int} {v w:V},WalkV H v p w->WalkV H' v p w
 |[],_,_,h=>h
 |_::_,_,_,⟨a,xs,u,e,h,k,m⟩=>⟨a,xs,u,e,h.elim (fun z=>.inl (s _ _ z)) (fun z=>.inr (s _ _ z)),k,m.mono s⟩
theorem WalkV.uniq:∀ {p:List Int} {v w w':V},WalkV H v p w->WalkV H v p w'->w=w'
 |[],_,_,_,h,k=>h.symm.trans k
 |_::_,_,_,_,hpt0,hpt1=>by
  obtain⟨a,xs,u,e,h,k,m⟩:=hpt0;obtain⟨a',xs',u',e',h',k',m'⟩:=hpt1;rw[e] at e';cases e';have:xs=xs':=by rcases h with h|h<;>rcases h' with h' | h'<;>rw[h] at h'<;>cases h'<;>rfl
  subst this;rw[k] at k';cases k';exact m.uniq m'
theorem WalkV.snoc:∀ {p:List Int} {v w u:V} {k:Int} {a:Addr} {xs:List V},WalkV H v p w->w = .ref a->(H a=some (.lst xs)\/H a=some (.tup xs))->atI xs k=some u->WalkV H v (p++[k]) u
 |[],_,_,u,k,a,xs,h,e,h1,h2=>⟨a,xs,u,h.trans e,h1,h2,rfl⟩
 |_::_,_,_,_,_,_,_,⟨b,ys,u',e,h,k,m⟩,e',h1,h2=>⟨b,ys,u',e,h,k,m.snoc e' h1 h2⟩
theorem rC:∀ {p:List Int} {o q:O} {k:Int},d7 o (p++[k])=some q->∃q0,d7 o p=some q0/\d7 q0 [k]=some q
 |[],o,q,k,h=>⟨o,by unfold d7;rfl,h⟩
 |j::p,o,q,k,h=>by
  cases o with
  |sh d=>cases h
  |dic _=>cases h
  |hd _ _ _=>cases h
  |lst l=>
   have h':(atI l j).bind (fun o=>d7 o (p++[k]))=some q:=h;cases e:atI l j with
   |none=>rw[e] at h';cases h'
   |some o1=>
    rw[e] at h';obtain⟨q0,a,b⟩:=rC (p:=p) h';exact⟨q0,by show (atI l j).bind (fun o=>d7 o p)=some q0;rw[e];exact a,b⟩
  |tup l=>
   have h':(atI l j).bind (fun o=>d7 o (p++[k]))=some q:=h;cases e:atI l j with
   |none=>rw[e] at h';cases h'
   |some o1=>rw[e] at h';obtain⟨q0,a,b⟩:=rC (p:=p) h';exact⟨q0,by show (atI l j).bind (fun o=>d7 o p)=some q0;rw[e];exact a,b⟩
theorem Owns.split:∀ {l:List O} {xs:List V} {f:List Addr} {j:Nat} {o:O},Owns K S H l xs f->l[j]?=some o->∃x f1 f2 f3,xs[j]?=some x/\f=f1++(f2++f3)/\Own K S H o x f2 /\
  ∀H' o' f2',Own K S H' o' x f2'->(∀b∈f1,H' b=H b)->(∀b∈f3,H' b=H b)->Owns K S H' (l.set j o') xs (f1++(f2'++f3))
 |[],_,_,_,_,_,e=>by simp at e
 |o0::l,_,_,0,o,h,e=>by
  obtain⟨y,ys,f,g,rfl,rfl,a,b⟩:=h.cons_of;simp at e;subst e;exact⟨y,[],f,g,rfl,rfl,a,fun H' o' f2' h1 _ h3=>Owns.cons (f:=f2') h1 (b.mono (Same.refl _) h3)⟩
 |o0::l,_,_,j+1,o,h,e=>by obtain⟨y,ys,f,g,rfl,rfl,a,b⟩:=h.cons_of;obtain⟨x,f1,f2,f3,e1,rfl,h1,h2⟩:=b.split (j:=j) (by simpa using e);refine⟨x,f++f1,f2,f3,by simpa using e1,by rw[T8],h1,fun H' o' f2' k1 k2 k3=>?_⟩;rw[T8];exact .cons (a.mono (Same.refl _) fun b hb=>k2 b (TJ _ hb)) (h2 H' o' f2' k1 (fun b hb=>k2 b (TH _ hb)) k3)
theorem B9 {α:Type}{l:List α}{k:Int}{x:α}(h:atI l k=some x):∃j,ixN l.length k=some j/\l[j]?=some x:=by
 unfold atI at h;cases q:ixN l.length k with
 |none=>rw[q] at h;cases h
 |some j=>rw[q] at h;exact⟨j,rfl,h⟩
theorem Hn:∀ {p:List Int} {o q:O} {v:V} {fp:List Addr},Own K S H o v fp->fp.Nodup->d7 o p=some q->∃w fq,Own K S H q w fq/\WalkV H v p w/\(∀b∈fq,b∈fp)/\fq.Nodup /\
  ∀H' q' fq',Own K S H' q' w fq'->fq'.Nodup->(∀b∈fp,b∉fq->H' b=H b)->(∀b∈fq',b∈fp->b∈fq)->∃fp',Own K S H' (jQ o p q') v fp'/\fp'.Nodup/\∀b∈fp',b∈fp\/b∈fq'
 |[],o,q,v,fp,h,nd,e=>by
  have e':some o=some q:=by unfold d7 at e;exact e
  cases e';exact⟨v,fp,h,rfl,fun b hb=>hb,nd,fun H' q' fq' h1 n1 _ _=>⟨fq',by unfold jQ;exact h1,n1,fun b hb=>.inr hb⟩⟩
 |k::r,o,q,v,fp,h,nd,e=>by
  have body:∀(l:List O) (a:Addr) (xs:List V) (f:List Addr),v = .ref a->fp=a::f->(H a=some (.lst xs)\/H a=some (.tup xs))->Owns K S H l xs f->((atI l k).bind fun o=>d7 o r)=some q ->
    ∃w fq,Own K S H q w fq/\WalkV H v (k::r) w/\(∀b∈fq,b∈fp)/\fq.Nodup/\∀H' q' fq',Own K S H' q' w fq'->fq'.Nodup->(∀b∈fp,b∉fq->H' b=H b)->(∀b∈fq',b∈fp->b∈fq) ->
     ∃f',Owns K S H' (vp l k fun o=>jQ o r q') xs f'/\H' a=H a/\(a::f').Nodup/\∀b∈a::f',b∈fp\/b∈fq':=by
   rintro l a xs f rfl rfl ha hl hs;obtain⟨na,nf⟩:=Uk.mp nd;cases qa:atI l k with
   |none=>rw[qa] at hs;cases hs
   |some o1=>
    rw[qa] at hs;obtain⟨j,ej,el⟩:=B9 qa;obtain⟨x,f1,f2,f3,ex,rfl,h1,h2⟩:=hl.split el;obtain⟨n1,n23,d1⟩:=Vc.mp nf;obtain⟨n2,n3,d2⟩:=Vc.mp n23;obtain⟨w,fq,k1,k2,k3,k4,k5⟩:=Hn (p:=r) h1 n2 hs;have ax:atI xs k=some x:=by unfold atI;rw[<- hl.length,ej];exact ex
    refine⟨w,fq,k1,⟨a,xs,x,rfl,ha,ax,k2⟩,fun b hb=>TC _ (TH _ (TJ _ (k3 b hb))),k4,fun H' q' fq' g1 g2 g3 g4=>?_⟩;have in2:∀b∈fq,b∈f2:=k3;have a1:∀b∈f1,b∉fq:=fun b hb hq=>d1 b hb b (TJ _ (in2 b hq)) rfl;have a3:∀b∈f3,b∉fq:=fun b hb hq=>d2 b (in2 b hq) b hb rfl;have aa:a∉fq:=fun hq=>na (TH _ (TJ _ (in2 a hq)));obtain⟨f2',m1,m2,m3⟩:=k5 H' q' fq' g1 g2 (fun b hb hn=>g3 b (TC _ (TH _ (TJ _ hb))) hn) fun b hb hp=>g4 b hb (TC _ (TH _ (TJ _ hp)));have out:∀b∈f2',b∉f1/\b∉f3/\b≠a:=fun b hb=>by
     rcases m3 b hb with hb|hb
     ·exact⟨fun z=>d1 b z b (TJ _ hb) rfl,fun z=>d2 b hb b z rfl,fun z=>na (z▸TH _ (TJ _ hb))⟩
     ·refine⟨fun z=>a1 b z (g4 b hb (TC _ (TJ _ z))),fun z=>a3 b z (g4 b hb (TC _ (TH _ (TH _ z)))),fun z=>?_⟩;subst z;exact aa (g4 b hb Tx)
    refine⟨f1++(f2'++f3),?_,g3 a Tx aa,?_,fun b hb=>?_⟩
    ·unfold vp;rw[ej];dsimp only;rw[el];exact h2 H' _ f2' m1 (fun b hb=>g3 b (TC _ (TJ _ hb)) (a1 b hb)) fun b hb=>g3 b (TC _ (TH _ (TH _ hb))) (a3 b hb)
    ·refine Uk.mpr ⟨fun z=>?_,Vc.mpr ⟨n1,Vc.mpr ⟨m2,n3,fun b hb c hc e=>(out b hb).2.1 (e▸hc)⟩,fun b hb c hc e=>?_⟩⟩
     ·rcases TB.mp z with z|z
      ·exact na (TJ _ z)
      ·rcases TB.mp z with z|z
       ·exact (out a z).2.2 rfl
       ·exact na (TH _ (TH _ z))
     ·subst e;rcases TB.mp hc with hc|hc
      ·exact (out b hc).1 hb
      ·exact d1 b hb b (TH _ hc) rfl
    ·rcases TD.mp hb with rfl|hb
     ·exact .inl Tx
     ·rcases TB.mp hb with hb|hb
      ·exact .inl (TC _ (TJ _ hb))
      ·rcases TB.mp hb with hb|hb
       ·exact (m3 b hb).imp (fun z=>TC _ (TH _ (TJ _ z))) id
       ·exact .inl (TC _ (TH _ (TH _ hb)))
  cases o with
  |sh d=>cases e
  |dic _=>cases e
  |hd _ _ _=>cases e
  |lst l=>
   obtain⟨a,xs,f,e1,e2,h1,h2⟩:=own_lst.mp h;obtain⟨w,fq,k1,k2,k3,k4,k5⟩:=body l a xs f e1 e2 (.inl h1) h2 e;refine⟨w,fq,k1,k2,k3,k4,fun H' q' fq' g1 g2 g3 g4=>?_⟩;obtain⟨f',m1,m2,m3,m4⟩:=k5 H' q' fq' g1 g2 g3 g4;exact⟨a::f',by unfold jQ;exact own_lst.mpr ⟨a,xs,f',e1,rfl,by rw[m2];exact h1,m1⟩,m3,m4⟩
  |tup l=>obtain⟨a,xs,f,e1,e2,h1,h2⟩:=own_tup.mp h;obtain⟨w,fq,k1,k2,k3,k4,k5⟩:=body l a xs f e1 e2 (.inr h1) h2 e;refine⟨w,fq,k1,k2,k3,k4,fun H' q' fq' g1 g2 g3 g4=>?_⟩;obtain⟨f',m1,m2,m3,m4⟩:=k5 H' q' fq' g1 g2 g3 g4;exact⟨a::f',by unfold jQ;exact own_tup.mpr ⟨a,xs,f',e1,rfl,by rw[m2];exact h1,m1⟩,m3,m4⟩
noncomputable abbrev XP:=Env->Option (List Int)
def EG (K:W.Frag)(to:TE)(i:Nat)(p:XP):Prop:=∀ρ σ S H (Q:VK) is o q,Rl K ρ σ S H->ρ[i]?=some (.ow o)->p ρ=some is->d7 o is=some q->(∀v w S' H',σ[i]?=some (some v)->Ext S H S' H'->WalkV H' v is w->Q w H')->to σ H Q
@[simp] noncomputable def xPv:XP:=fun _=>some []
theorem Pe (i:Nat):EG K (kQ i) i xPv:=fun ρ σ S H Q is o q r h1 h2 h3 k=>by cases h2;obtain⟨v,fp,e,_⟩:=r.ow i o h1;exact⟨v,e,k v v S H e (Ext.refl r.sub) rfl⟩
@[simp] noncomputable def xPi (p:XP)(ix:XE):XP:=fun ρ=>(p ρ).bind fun is=>(ix ρ).bind fun d=>match d with|.int k=>some (is++[k])|_=>none
theorem QS {to ti:TE}{i:Nat}{p:XP}{ix:XE}(hp:EG K to i p)(hi:SPk K ti ix):EG K (tOp (rIx K) to ti) i (xPi p ix):=fun ρ σ S H Q is o q r h1 h2 h3 k=>by
 unfold xPi at h2;cases e1:p ρ with
 |none=>rw[e1] at h2;cases h2
 |some js=>
  rw[e1] at h2;dsimp only[Option.bind] at h2;cases e2:ix ρ with
  |none=>rw[e2] at h2;cases h2
  |some d=>
   rw[e2] at h2;cases d with
   |int kk=>
    cases h2;obtain⟨q0,s1,s2⟩:=rC h3;refine hp ρ σ S H _ js o q0 r h1 e1 s1 fun v w S1 H1 ev z1 wk=>?_;have r1:=r.ext z1;refine hi ρ σ S1 H1 _ _ r1 e2 fun u S2 H2 z2 d2=>?_;have r2:=r1.ext z2;obtain⟨v',fp,ev',ow,nd,_⟩:=r2.ow i o h1;rw[ev] at ev';cases ev';obtain⟨w',fq,k1,k2,_⟩:=Hn ow nd s1;have ew:=k2.uniq (wk.mono (z2.same r1.sub));subst ew;rw[d2.int];cases q0 with
    |sh _=>cases s2
    |dic _=>cases s2
    |hd _ _ _=>cases s2
    |lst l=>
     have s2':(atI l kk).bind (fun o=>d7 o [])=some q:=s2;cases e3:atI l kk with
     |none=>rw[e3] at s2';cases s2'
     |some o1=>
      obtain⟨a,xs,f,rfl,rfl,hx,hl⟩:=own_lst.mp k1;obtain⟨j,ej,el⟩:=B9 e3;obtain⟨x,_,_,_,ex,_⟩:=hl.split el;have ax:atI xs kk=some x:=by unfold atI;rw[<- hl.length,ej];exact ex
      exact .inl ⟨a,xs,kk,x,rfl,rfl,SqL.of hx,ax,k v x S2 H2 ev (z1.trans z2) (k2.snoc rfl (.inl hx) ax)⟩
    |tup l=>
     have s2':(atI l kk).bind (fun o=>d7 o [])=some q:=s2;cases e3:atI l kk with
     |none=>rw[e3] at s2';cases s2'
     |some o1=>
      obtain⟨a,xs,f,rfl,rfl,hx,hl⟩:=own_tup.mp k1;obtain⟨j,ej,el⟩:=B9 e3;obtain⟨x,_,_,_,ex,_⟩:=hl.split el;have ax:atI xs kk=some x:=by unfold atI;rw[<- hl.length,ej];exact ex
      exact .inr (.inl ⟨a,xs,kk,x,rfl,rfl,SqT.of hx,ax,k v x S2 H2 ev (z1.trans z2) (k2.snoc rfl (.inr hx) ax)⟩)
   |_=>cases h2
theorem RlF.at {A:Hp}{Λ:Nat->Option Addr}{Φ:Nat->List Addr}{ρ:Env}{σ:St}{i:Nat}{o:O}{is:List Int}{l:List O}{v w:V}(f:RlF K A Λ Φ ρ σ S H)(h1:ρ[i]?=some (.ow o))(h2:d7 o is=some (.lst l))(ev:σ[i]?=some (some v))(wk:WalkV H v is w) :
  ∃a xs f0,w = .ref a/\H a=some (.lst xs)/\Owns K S H l xs f0/\(a::f0).Nodup/\(∀b∈a::f0,b∈Φ i)/\∀l' xs' f',(∀H',(∀b,b≠a->H' b=H b)->Owns K S H' l' xs' f')->(a::f').Nodup->(∀b∈f',b∈f0\/((∀(j:Nat) o',ρ[j]?=some (.ow o')->b∉Φ j)/\S b=none/\A b=none)) ->
   RlA K A Λ (ρ.set i (.ow (jQ o is (.lst l')))) σ S (upd H a (.lst xs')):=by
 obtain⟨v',e',ow,nd,n⟩:=f.ow i o h1;rw[ev] at e';cases e';obtain⟨w',fq,k1,k2,k3,k4,k5⟩:=Hn ow nd h2;have ew:=k2.uniq wk;subst ew;obtain⟨a,xs,g,rfl,rfl,hx,hl⟩:=own_lst.mp k1;have ain:=k3 a Tx;refine⟨a,xs,g,rfl,hx,hl,k4,k3,fun l' xs' f' g1 g2 g3=>?_⟩;have ne:∀b,b≠a->upd H a (.lst xs') b=H b:=fun b hb=>aG hb;obtain⟨fp',m1,m2,m3⟩:=k5 (upd H a (.lst xs')) (.lst l') (a::f') (own_lst.mpr ⟨a,xs',f',rfl,rfl,aH,g1 _ ne⟩) g2 (fun b hb hn=>ne b fun z=>hn (z▸Tx)) fun b hb hp=>by
  rcases TD.mp hb with rfl|hb
  ·exact Tx
  ·rcases g3 b hb with z|⟨z,_⟩
   ·exact TC _ z
   ·exact absurd hp (z i o h1)
 have sub':Same S (upd H a (.lst xs')):=fun b u e=>by rw[ne b fun z=>by subst z;rw[(n b ain).1] at e;cases e];exact f.sub b u e
 have asub':Same A (upd H a (.lst xs')):=fun b u e=>by rw[ne b fun z=>by subst z;rw[(n b ain).2] at e;cases e];exact f.asub b u e
 have fin:=f.put (H':=upd H a (.lst xs')) i sub' asub' m1 m2 (fun b hb=>by
  rcases m3 b hb with z|z
  ·exact n b z
  ·rcases TD.mp z with rfl|z
   ·exact n b ain
   ·rcases g3 b z with z|⟨_,z⟩
    ·exact n b (k3 b (TC _ z))
    ·exact z) fun j o' hj e1 b hb=>by
   have nb:b∉Φ i:=fun z=>f.dj j i o' o hj e1 h1 b hb z;refine⟨ne b fun z=>nb (z▸ain),fun z=>?_⟩;rcases m3 b z with z|z
   ·exact nb z
   ·rcases TD.mp z with rfl|z
    ·exact nb ain
    ·rcases g3 b z with z|⟨z,_⟩
     ·exact nb (k3 b (TC _ z))
     ·exact z j o' e1 hb
 rw[vB ev] at fin;exact⟨_,fin⟩
theorem RlF.fresh       (f:RlF K A Λ Φ ρ σ S H)(h:H b=none):(∀(j:Nat) o',ρ[j]?=some (.ow o')->b∉Φ j)/\S b=none/\A b=none:=
 ⟨fun j o' e hb=>by obtain⟨_,_,ow,_⟩:=f.ow j o' e;exact ow.there b hb h,f.sub.free h,f.asub.free h⟩
@[simp] noncomputable def fM (i:Nat)(p:XP)(e:Env->Option O):XS:=fun ρ=>match ρ[i]? with
 |some (.ow o)=>(p ρ).bind fun is=>(e ρ).bind fun x=>match d7 o is with
  |some (.lst l)=>if l.length<LIM then some (.nx (ρ.set i (.ow (jQ o is (.lst (l++[x])))))) else none
  |_=>none
 |_=>none
theorem NI {to te:TE}{i:Nat}   (hp:EG K to i p)(h:STr K te e):SS K (vO (tBM K "list" rAppend to (gJ te rD))) (fM i p e):=fun A Λ ρ σ S H E out r y k=>by
 unfold fM at y;cases q0:ρ[i]? with
 |none=>rw[q0] at y;cases y
 |some s=>
  rw[q0] at y;cases s with
  |un=>cases y
  |lo=>cases y
  |sh d=>cases y
  |ow o=>
   dsimp only at y;cases q1:p ρ with
   |none=>rw[q1] at y;cases y
   |some is=>
    rw[q1] at y;dsimp only[Option.bind] at y;cases q2:e ρ with
    |none=>rw[q2] at y;cases y
    |some x=>
     rw[q2] at y;dsimp only at y;cases q3:d7 o is with
     |none=>rw[q3] at y;cases y
     |some qo=>
      rw[q3] at y;cases qo with
      |sh _=>cases y
      |dic _=>cases y
      |hd _ _ _=>cases y
      |tup _=>cases y
      |lst l=>
       dsimp only at y;split at y
       ·rename_i hl;cases y;obtain⟨Φ,f⟩:=r;refine hp ρ σ S H _ is o _ ⟨A,Λ,Φ,f⟩ q0 q1 q3 fun v w S1 H1 ev z1 wk=>?_;have f1:=f.ext z1;obtain⟨a,xs,g0,rfl,hx,hw,nd0,in0,_⟩:=f1.at q0 q3 ev wk;refine⟨.inl ⟨rfl,xs,SqL.of hx⟩,h ρ σ S1 H1 _ x ⟨A,Λ,Φ,f1⟩ q2 fun u fu S2 H2 z2 ou nd n=>?_⟩;have f2:=f1.ext z2;obtain⟨a',xs',g1,e1,hx',hw',nd1,in1,up⟩:=f2.at q0 q3 ev (wk.mono (z2.same f1.sub));cases e1;have fr:∀b∈fu,(∀(j:Nat) o',ρ[j]?=some (.ow o')->b∉Φ j)/\S2 b=none/\A b=none:=fun b hb=>⟨(f1.fresh (n b hb).1).1,(n b hb).2,(f1.fresh (n b hb).1).2.2⟩
        have fa:∀b∈fu,b∉a::g1:=fun b hb z=>(fr b hb).1 i o q0 (in1 b z);obtain⟨na,ng⟩:=Uk.mp nd1;refine⟨a,xs',u,rfl,rfl,hx',?_,?_⟩
        ·rw[<- hw'.length];exact Nat.lt_trans hl jw
        ·refine k σ S2 _ (up (l++[x]) (xs'++[u]) (g1++fu) (fun H' ne=>?_) ?_ fun b hb=>?_) (z1.sh.trans z2.sh)
         ·have:=(hw'.mono (H':=H') (Same.refl _) fun b hb=>ne b fun z=>na (z▸hb)).append (.cons (ou.mono (H':=H') (Same.refl _) fun b hb=>ne b fun z=>fa b hb (z▸Tx)) .nil);rw[Ue] at this;exact this
         ·refine Uk.mpr ⟨fun z=>?_,Vc.mpr ⟨ng,nd,fun b hb c hc e=>fa c hc (e▸TC _ hb)⟩⟩;rcases TB.mp z with z|z
          ·exact na z
          ·exact fa a z Tx
         ·rcases TB.mp hb with hb|hb
          ·exact .inl hb
          ·exact .inr (fr b hb)
       ·cases y
@[simp] noncomputable def Sq (i:Nat)(p:XP)(j:Nat):XS:=fun ρ=>match ρ[i]? with
 |some (.ow o)=>(p ρ).bind fun is=>match d7 o is with
  |some (.lst l)=>(match l.getLast? with
   |some (.sh d)=>some (.nx ((ρ.set i (.ow (jQ o is (.lst l.dropLast)))).set j (.sh d)))
   |_=>none)
  |_=>none
 |_=>none
@[simp] noncomputable def Su (i:Nat)(p:XP):XS:=fun ρ=>match ρ[i]? with
 |some (.ow o)=>(p ρ).bind fun is=>match d7 o is with
  |some (.lst l)=>(match shs l with|some ds=>some (.nx (ρ.set i (.ow (jQ o is (.lst (ds.reverse.map .sh))))))|none=>none)
  |_=>none
 |_=>none
noncomputable def rExtM:V->List V->Hp->VK->Prop:=fun x vs H Q=>∃l b xs zs,x = .ref l/\vs=[.ref b]/\H l=some (.lst xs)/\Rd H b (.lst zs)/\xs.length+zs.length<=sizeLine/\Q .non (upd H l (.lst (xs++zs)))
@[simp] noncomputable def EA (i:Nat)(p:XP)(e:XE):XS:=fun ρ=>match ρ[i]? with
 |some (.ow o)=>(p ρ).bind fun is=>(e ρ).bind fun d=>match d7 o is,d with
  |some (.lst l),.lst ds=>if l.length+ds.length<=LIM then some (.nx (ρ.set i (.ow (jQ o is (.lst (l++ds.map .sh)))))) else none
  |_,_=>none
 |_=>none
theorem NM {to te:TE}{i:Nat}   (hp:EG K to i p)(h:SE K te e):SS K (vO (tBM K "list" rExtM to (gJ te rD))) (EA i p e):=fun A Λ ρ σ S H E out r y k=>by
 unfold EA at y;cases q0:ρ[i]? with
 |none=>rw[q0] at y;cases y
 |some s=>
  rw[q0] at y;cases s with
  |un=>cases y
  |lo=>cases y
  |sh d=>cases y
  |ow o=>
   dsimp only at y;cases q1:p ρ with
   |none=>rw[q1] at y;cases y
   |some is=>
    rw[q1] at y;dsimp only[Option.bind] at y;cases q2:e ρ with
    |none=>rw[q2] at y;cases y
    |some dd=>
     rw[q2] at y;dsimp only at y;cases q3:d7 o is with
     |none=>rw[q3] at y;cases y
     |some qo=>
      rw[q3] at y;cases qo with
      |sh _=>cases y
      |dic _=>cases y
      |hd _ _ _=>cases y
      |tup _=>cases y
      |lst l=>
       cases dd with
       |lst ds=>
        dsimp only at y;split at y
        ·rename_i hl;cases y;obtain⟨Φ,f⟩:=r;refine hp ρ σ S H _ is o _ ⟨A,Λ,Φ,f⟩ q0 q1 q3 fun v w S1 H1 ev z1 wk=>?_;have f1:=f.ext z1;obtain⟨a,xs,g0,rfl,hx,hw,nd0,in0,_⟩:=f1.at q0 q3 ev wk;refine⟨.inl ⟨rfl,xs,SqL.of hx⟩,h ρ σ S1 H1 _ _ ⟨A,Λ,Φ,f1⟩ q2 fun u S2 H2 z2 d2=>?_⟩;have f2:=f1.ext z2;obtain⟨a',xs',g1,e1,hx',hw',nd1,in1,up⟩:=f2.at q0 q3 ev (wk.mono (z2.same f1.sub));cases e1;obtain⟨b,zs,rfl,hb,dz⟩:=den_lst.mp d2;obtain⟨na,ng⟩:=Uk.mp nd1;refine⟨a,b,xs',zs,rfl,rfl,hx',cV z2.sub hb,?_,?_⟩
         ·rw[<- hw'.length,<- dz.length];exact Uv (UQ hl jw)
         ·refine k σ S2 _ (up (l++ds.map .sh) (xs'++zs) g1 (fun H' ne=>?_) nd1 fun b hb=>.inl hb) (z1.sh.trans z2.sh);have:=(hw'.mono (H':=H') (Same.refl _) fun b hb=>ne b fun z=>na (z▸hb)).append (tI (H:=H') dz);rw[Ue] at this;exact this
        ·cases y
       |_=>cases y
@[simp] noncomputable def yv (i:Nat)(p:XP)(ix e:XE):XS:=fun ρ=>(e ρ).bind fun d=>match ρ[i]? with
 |some (.ow o)=>(p ρ).bind fun is=>(ix ρ).bind fun k=>match d7 o is,k with
  |some (.lst l),.int k=>(match shs l with|some ds=>(ixN ds.length k).map fun j=>.nx (ρ.set i (.ow (jQ o is (.lst ((ds.set j d).map .sh)))))|none=>none)
  |_,_=>none
 |_=>none
theorem N1 {to te:TE}{i:Nat}   (h:SE K te e)(hp:EG K to i p)(hi:SPk K ti ix):SS K (zL te (MK to ti I0)) (yv i p ix e):=fun A Λ ρ σ S H E out r y k=>by
 unfold yv at y;cases q:e ρ with
 |none=>rw[q] at y;cases y
 |some d=>
  rw[q] at y;dsimp only[Option.bind] at y;cases q0:ρ[i]? with
  |none=>rw[q0] at y;cases y
  |some s=>
   rw[q0] at y;cases s with
   |un=>cases y
   |lo=>cases y
   |sh d=>cases y
   |ow o=>
    dsimp only at y;cases q1:p ρ with
    |none=>rw[q1] at y;cases y
    |some is=>
     rw[q1] at y;dsimp only at y;cases q2:ix ρ with
     |none=>rw[q2] at y;cases y
     |some dk=>
      rw[q2] at y;dsimp only at y;cases q3:d7 o is with
      |none=>rw[q3] at y;cases y
      |some qo=>
       rw[q3] at y;cases qo with
       |sh _=>cases y
       |dic _=>cases y
       |hd _ _ _=>cases y
       |tup _=>cases y
       |lst l=>
        cases dk with
        |int kk=>
         dsimp only at y;cases q4:shs l with
         |none=>rw[q4] at y;cases y
         |some ds=>
          rw[q4] at y;dsimp only at y;cases q5:ixN ds.length kk with
          |none=>rw[q5] at y;cases y
          |some j=>
           rw[q5] at y;cases y;have ed:=CS q4;subst ed;obtain⟨Φ,f⟩:=r;refine h ρ σ S H _ d ⟨A,Λ,Φ,f⟩ q fun u S0 H0 z0 d0=>?_;have f0:=f.ext z0;refine hp ρ σ S0 H0 _ is o _ ⟨A,Λ,Φ,f0⟩ q0 q1 q3 fun v w S1 H1 ev z1 wk=>?_;have f1:=f0.ext z1;refine hi ρ σ S1 H1 _ _ ⟨A,Λ,Φ,f1⟩ q2 fun w2 S2 H2 z2 d2=>?_;have f2:=f1.ext z2;obtain⟨a',xs',g1,rfl,hx',hw',nd1,in1,up⟩:=f2.at q0 q3 ev (wk.mono (z2.same f1.sub));obtain⟨hd,rfl⟩:=nT hw';refine⟨a',xs',kk,j,rfl,d2.int,hx',by rw[<- hd.length];exact q5,?_⟩;exact k σ S2 _ (up ((ds.set j d).map .sh) (xs'.set j u) [] (fun H' ne=>tI (hd.set j ((d0.mono z1.sh).mono z2.sh))) nd1 fun b hb=>by cases hb) ((z0.sh.trans z1.sh).trans z2.sh)
        |_=>cases y
@[simp] noncomputable def Gu (i:Nat)(e:XE)(f:D->D->Option D):XS:=fun ρ=>match ρ[i]? with
 |some (.sh x)=>(e ρ).bind fun y=>(f x y).map fun z=>.nx (ρ.set i (.sh z))
 |_=>none
theorem PR {te:TE}  {i:Nat}   (h:SPk K te e)(hr:SR2 K ti f):SS K (Og i te ti) (Gu i e f):=fun A Λ ρ σ S H E o r y k=>by
 unfold Gu at y;cases q0:ρ[i]? with
 |none=>rw[q0] at y;cases y
 |some s=>
  rw[q0] at y;cases s with
  |un=>cases y
  |lo=>cases y
  |ow d=>cases y
  |sh x=>
   dsimp only at y;cases q:e ρ with
   |none=>rw[q] at y;cases y
   |some d=>
    rw[q] at y;dsimp only[Option.bind] at y;cases q2:f x d with
    |none=>rw[q2] at y;cases y
    |some g=>rw[q2] at y;cases y;obtain⟨v,h1,h2⟩:=r.sh i x q0;refine⟨v,h1,h ρ σ S H _ d r.toRl q fun w S1 H1 z1 d1=>?_⟩;exact hr S1 H1 v w x d g _ z1.sub (.inl (h2.mono z1.sh)) d1 q2 fun u S2 H2 z2 d2=>k _ S2 H2 ((r.ext (z1.trans z2)).set i d2) (z1.sh.trans z2.sh)
@[simp] noncomputable def Sh (e:XE):XS:=fun ρ=>(e ρ).map fun _=>.nx ρ
end
section
variable {K:W.Frag}{S S' H H':Hp}
def Walks (K:W.Frag)(J:It)(S:Hp)(l:List D):Prop:=∀S' H',Same S S'->Same S' H' ->
 (∀i d,l[i]?=some d->J.go i H'/\∀x H'',J.yld i H' x H''->H''=H'/\Den K S' d x)/\J.stop l.length H'
def SI (K:W.Frag)(wi:TI)(e:XA):Prop:=∀ρ σ S H (R:It->Hp->Prop) l,Rl K ρ σ S H->e ρ=some l->(∀J S' H',Ext S H S' H'->Walks K J S' l->R J H')->wi σ H R
noncomputable def wN:D->Option (List D)
 |.lst l=>some l|.tup l=>some l|.scr l=>some l|.mtp l=>some l|_=>none
def Mo (K:W.Frag)(J:It)(S H:Hp)(l:List D):Prop:=∀S' H',Ext S H S' H' ->
 (∀i d,l[i]?=some d->J.go i H'/\∀x H'',J.yld i H' x H''->H''=H'/\Den K S' d x)/\J.stop l.length H'
def SIP (K:W.Frag)(wi:TI)(e:XA):Prop:=∀ρ σ S H (R:It->Hp->Prop) l,Rl K ρ σ S H->e ρ=some l->(∀J S' H',Ext S H S' H'->Mo K J S' H' l->R J H')->wi σ H R
theorem SI.p {wi:TI}{e:XA}(h:SI K wi e):SIP K wi e:=fun ρ σ S H R l r x k=>h ρ σ S H R l r x fun J S' H' z w=>k J S' H' z fun S2 H2 z2=>w S2 H2 z2.sh z2.sub
@[simp] noncomputable def xIt (e:XE):XA:=fun ρ=>(e ρ).bind wN
theorem O2 {tl:TE}  (h:SE K tl e):SI K (MP K tl) (xIt e):=fun ρ σ S H R l r x k=>by
 unfold xIt at x;cases q:e ρ with
 |none=>rw[q] at x;cases x
 |some d=>
  rw[q] at x;dsimp only[Option.bind] at x;refine h ρ σ S H _ d r q fun v S1 H1 z1 d1=>?_;cases d with
  |lst l'=>
   cases x;obtain⟨p,xs,rfl,h1,h2⟩:=den_lst.mp d1;refine⟨p,rfl,.inl ⟨⟨xs,.inl (cV z1.sub h1)⟩,k _ S1 H1 z1 fun S' H' s1 s2=>⟨fun i d hd=>?_,xs,.inl (cV (s1.trans s2) h1),Us h2.length.symm⟩⟩⟩;obtain⟨y,e1,e2⟩:=h2.get hd;refine⟨⟨xs,y,.inl (cV (s1.trans s2) h1),e1⟩,fun x H'' hy=>⟨hy.1,?_⟩⟩;have:=hy.2 xs (.inl (cV (s1.trans s2) h1));rw[e1] at this;cases this;exact e2.mono s1
  |tup l'=>
   cases x;obtain⟨p,xs,rfl,h1,h2⟩:=iy d1;refine⟨p,rfl,.inr ⟨⟨xs,aQ z1.sub h1⟩,k _ S1 H1 z1 fun S' H' s1 s2=>⟨fun i d hd=>?_,xs,aQ (s1.trans s2) h1,Us h2.length.symm⟩⟩⟩;obtain⟨y,e1,e2⟩:=h2.get hd;refine⟨⟨xs,y,aQ (s1.trans s2) h1,e1⟩,fun x H'' hy=>⟨hy.1,?_⟩⟩;have:=hy.2 xs (aQ (s1.trans s2) h1);rw[e1] at this;cases this;exact e2.mono s1
  |mtp l'=>
   cases x;obtain⟨p,xs,rfl,h1,h2⟩:=den_mtp.mp d1;refine⟨p,rfl,.inr ⟨⟨xs,aQ z1.sub h1⟩,k _ S1 H1 z1 fun S' H' s1 s2=>⟨fun i d hd=>?_,xs,aQ (s1.trans s2) h1,Us h2.length.symm⟩⟩⟩;obtain⟨y,e1,e2⟩:=h2.get hd;refine⟨⟨xs,y,aQ (s1.trans s2) h1,e1⟩,fun x H'' hy=>⟨hy.1,?_⟩⟩;have:=hy.2 xs (aQ (s1.trans s2) h1);rw[e1] at this;cases this;exact e2.mono s1
  |scr l'=>
   cases x;obtain⟨p,xs,rfl,h1,h2⟩:=den_scr.mp d1;refine⟨p,rfl,.inl ⟨⟨xs,eA z1.sub h1⟩,k _ S1 H1 z1 fun S' H' s1 s2=>⟨fun i d hd=>?_,xs,eA (s1.trans s2) h1,Us h2.length.symm⟩⟩⟩;obtain⟨y,e1,e2⟩:=h2.get hd;refine⟨⟨xs,y,eA (s1.trans s2) h1,e1⟩,fun x H'' hy=>⟨hy.1,?_⟩⟩;have:=hy.2 xs (eA (s1.trans s2) h1);rw[e1] at this;cases this;exact e2.mono s1
  |_=>cases x
noncomputable def ifC {α:Type}(p:Prop)(a b:α):α:=@ite α p (Classical.propDecidable p) a b
theorem dq {α:Type}{p:Prop}{a b:α}(h:p):ifC p a b=a:=by unfold ifC;exact Tn h
theorem iA {α:Type}{p:Prop}{a x:α}(h:ifC p (some a) none=some x):p/\a=x:=by
 unfold ifC at h;by_cases c:p
 ·rw[Tn c] at h;exact⟨c,T6 h⟩
 ·rw[To c] at h;cases h
theorem MU {tl:TE}  (h:SPk K tl e):SIP K (MP K tl) (xIt e):=fun ρ σ S H R l r x k=>by
 unfold xIt at x;cases q:e ρ with
 |none=>rw[q] at x;cases x
 |some d=>
  rw[q] at x;dsimp only[Option.bind] at x;refine h ρ σ S H _ d r q fun v S1 H1 z1 d1=>?_;rcases d1 with d1|⟨l',p,xs,rfl,rfl,hx,dx⟩
  ·cases d with
   |lst l'=>
    cases x;obtain⟨p,xs,rfl,h1,h2⟩:=den_lst.mp d1;refine⟨p,rfl,.inl ⟨⟨xs,.inl (cV z1.sub h1)⟩,k _ S1 H1 z1 fun S' H' z2=>⟨fun i d hd=>?_,xs,.inl (cV (z2.sh.trans z2.sub) h1),Us h2.length.symm⟩⟩⟩;obtain⟨y,e1,e2⟩:=h2.get hd;refine⟨⟨xs,y,.inl (cV (z2.sh.trans z2.sub) h1),e1⟩,fun x H'' hy=>⟨hy.1,?_⟩⟩;have:=hy.2 xs (.inl (cV (z2.sh.trans z2.sub) h1));rw[e1] at this;cases this;exact e2.mono z2.sh
   |tup l'=>
    cases x;obtain⟨p,xs,rfl,h1,h2⟩:=iy d1;refine⟨p,rfl,.inr ⟨⟨xs,aQ z1.sub h1⟩,k _ S1 H1 z1 fun S' H' z2=>⟨fun i d hd=>?_,xs,aQ (z2.sh.trans z2.sub) h1,Us h2.length.symm⟩⟩⟩;obtain⟨y,e1,e2⟩:=h2.get hd;refine⟨⟨xs,y,aQ (z2.sh.trans z2.sub) h1,e1⟩,fun x H'' hy=>⟨hy.1,?_⟩⟩;have:=hy.2 xs (aQ (z2.sh.trans z2.sub) h1);rw[e1] at this;cases this;exact e2.mono z2.sh
   |mtp l'=>
    cases x;obtain⟨p,xs,rfl,h1,h2⟩:=den_mtp.mp d1;refine⟨p,rfl,.inr ⟨⟨xs,aQ z1.sub h1⟩,k _ S1 H1 z1 fun S' H' z2=>⟨fun i d hd=>?_,xs,aQ (z2.sh.trans z2.sub) h1,Us h2.length.symm⟩⟩⟩;obtain⟨y,e1,e2⟩:=h2.get hd;refine⟨⟨xs,y,aQ (z2.sh.trans z2.sub) h1,e1⟩,fun x H'' hy=>⟨hy.1,?_⟩⟩;have:=hy.2 xs (aQ (z2.sh.trans z2.sub) h1);rw[e1] at this;cases this;exact e2.mono z2.sh
   |scr l'=>
    cases x;obtain⟨p,xs,rfl,h1,h2⟩:=den_scr.mp d1;refine⟨p,rfl,.inl ⟨⟨xs,eA z1.sub h1⟩,k _ S1 H1 z1 fun S' H' z2=>⟨fun i d hd=>?_,xs,eA (z2.sh.trans z2.sub) h1,Us h2.length.symm⟩⟩⟩;obtain⟨y,e1,e2⟩:=h2.get hd;refine⟨⟨xs,y,eA (z2.sh.trans z2.sub) h1,e1⟩,fun x H'' hy=>⟨hy.1,?_⟩⟩;have:=hy.2 xs (eA (z2.sh.trans z2.sub) h1);rw[e1] at this;cases this;exact e2.mono z2.sh
   |_=>cases x
  ·cases x;refine⟨p,rfl,.inl ⟨⟨xs,SqL.of hx⟩,k _ S1 H1 z1 fun S' H' z2=>?_⟩⟩;have hx2:H' p=some (.lst xs):=z2.same z1.sub _ _ hx;refine⟨fun i d hd=>?_,xs,SqL.of hx2,Us dx.length.symm⟩;obtain⟨y,e1,e2⟩:=dx.get hd;refine⟨⟨xs,y,SqL.of hx2,e1⟩,fun x H'' hy=>⟨hy.1,?_⟩⟩;have:=hy.2 xs (SqL.of hx2);rw[e1] at this;cases this;exact e2.mono z2.sh
noncomputable def dr (lo:Int):Nat->List D
 |0=>[]
 |n+1=>.int lo::dr (lo+1) n
theorem qG:∀(n:Nat) (lo:Int) (i:Nat) (d:D),(dr lo n)[i]?=some d->i<n/\d = .int (lo+i)
 |0,_,_,_,h=>by simp[dr] at h
 |n+1,lo,0,d,h=>by simp[dr] at h;exact⟨Nat.succ_pos _,by rw[<- h];simp⟩
 |n+1,lo,i+1,d,h=>by obtain⟨h1,h2⟩:=qG n (lo+1) i d (by simpa[dr] using h);exact⟨Nat.succ_lt_succ h1,by rw[h2];congr 1;lia⟩
theorem qH:∀(n:Nat) (lo:Int),(dr lo n).length=n
 |0,_=>rfl
 |n+1,lo=>by rw[dr,Tz,qH n]
theorem Gs (lo:Int)(n:Nat):Walks K (Itr lo n) S (dr lo n):=fun S' H' _ _=>⟨fun i d h=>by
 obtain⟨h1,rfl⟩:=qG n lo i d h
 exact⟨h1,fun x H'' y=>⟨y.1,den_int.mpr y.2⟩⟩,by rw[qH];exact Tw _⟩
noncomputable def rg:List D->Option (List D)
 |[.int j]=>ifC (j<1000000 /\ -1000000<j) (some (dr 0 j.toNat)) none
 |[.int i,.int j]=>ifC (j<4000000000000000000 /\ -4000000000000000000<i/\i<4000000000000000000 /\ -4000000000000000000<j) (some (dr i (j-i).toNat)) none
 |_=>none
@[simp] noncomputable def gH (a:XA):XA:=fun ρ=>(a ρ).bind rg
theorem MR {ta:TE}  (h:SPk K ta a):SI K (LU (gJ ta rD)) (gH (ad a ai)):=fun ρ σ S H R l r x k=>by
 unfold gH at x;cases q:ad a ai ρ with
 |none=>rw[q] at x;cases x
 |some ds=>
  rw[q] at x;obtain⟨d,e,qa,qb,rfl⟩:=pZ q;cases qb;cases d with
  |int j=>
   have x':ifC (j<1000000 /\ -1000000<j) (some (dr 0 j.toNat)) none=some l:=x;obtain⟨hj,rfl⟩:=iA x';refine h ρ σ S H _ _ r qa fun v S1 H1 z1 d1=>?_;refine⟨j,by rw[d1.int],?_,?_,k _ S1 H1 z1 (Gs 0 _)⟩
   ·have:(2:Int) ^ 62=4611686018427387904:=by decide
    lia
   ·have:(2:Int) ^ 62=4611686018427387904:=by decide
    lia
  |_=>cases x
noncomputable def fg:Nat->Nat->List D
 |_,0=>[]
 |k,n+1=>.int (2 * k)::fg (k+1) n
theorem uj:∀(n k i:Nat) (d:D),(fg k n)[i]?=some d->i<n/\d = .int (2 * ((k+i:Nat):Int))
 |0,_,_,_,h=>by simp[fg] at h
 |n+1,k,0,d,h=>by simp[fg] at h;exact⟨Nat.succ_pos _,by rw[<- h];simp⟩
 |n+1,k,i+1,d,h=>by obtain⟨h1,h2⟩:=uj n (k+1) i d (by simpa[fg] using h);exact⟨Nat.succ_lt_succ h1,by rw[h2];congr 1;lia⟩
theorem nD:∀(n k:Nat),(fg k n).length=n
 |0,_=>rfl
 |n+1,k=>by rw[fg,Tz,nD n]
noncomputable def Eh:List D->Option (List D)
 |[.int a,.int j,.int b]=>ifC (a=0/\b=2/\0<=j/\j<1000000) (some (fg 0 ((j+1) / 2).toNat)) none
 |_=>none
@[simp] noncomputable def JY (a:XA):XA:=fun ρ=>(a ρ).bind Eh
theorem MS   (h:SAP K t a):SI K (LV t) (JY a):=fun ρ σ S H R l r x k=>by
 unfold JY at x;cases q:a ρ with
 |none=>rw[q] at x;cases x
 |some ds=>
  rw[q] at x;dsimp only[Option.bind] at x;unfold Eh at x;split at x
  ·rename_i aa j bb;obtain⟨⟨rfl,rfl,hj1,hj2⟩,rfl⟩:=iA x;refine h ρ σ S H _ _ r q fun vs S1 H1 z1 d1=>?_;cases d1 with
   |cons a1 d1=>cases d1 with
    |cons a2 d1=>cases d1 with
     |cons a3 d1=>cases d1;refine⟨j,by rw[a1.int,a2.int,a3.int],hj1,hj2,k _ S1 H1 z1 fun S' H' _ _=>⟨fun i d h=>?_,by rw[nD];exact Tw _⟩⟩;obtain⟨h1,rfl⟩:=uj _ 0 i d h;exact⟨h1,fun x H'' y=>⟨y.1,den_int.mpr (by rw[y.2,Nat.zero_add])⟩⟩
  ·cases x
noncomputable def bE (g:XG)(m:XS):List D->Env->Option Out
 |[],ρ=>some (.nx ρ)
 |d::l,ρ=>(g d ρ).bind fun ρ1=>match m ρ1 with
  |some (.nx ρ2)=>bE g m l ρ2
  |some (.ct ρ2)=>bE g m l ρ2
  |some (.bk ρ2)=>some (.nx ρ2)
  |some (.rt d)=>some (.rt d)
  |some (.ro d)=>some (.ro d)
  |none=>none
@[simp] noncomputable def bg (e:XA)(g:XG)(m:XS):XS:=fun ρ=>(e ρ).bind fun l=>bE g m l ρ
theorem uh {l:List D}{i:Nat}{d:D}(h:l[i]?=some d):l.drop i=d::l.drop (i+1):=by obtain⟨h1,rfl⟩:=TR.mp h;exact VR h1
theorem PX {wi:TI}  {tb:TS}    (hi:SI K wi e)(hg:SG K g x)(hb:SS K tb m):SS K (JE wi g tb) (bg e x m):=fun A Λ ρ σ S H E o r y k=>by
 unfold bg at y;cases q:e ρ with
 |none=>rw[q] at y;cases y
 |some l=>
  rw[q] at y;dsimp only[Option.bind] at y;refine hi ρ σ S H _ l r.toRl q fun J S1 H1 z1 wk=>?_;have r1:=r.ext z1;refine⟨fun i n σ' H'=>n=l.length-i/\i<=l.length/\∃ρ' S',RlA K A Λ ρ' σ' S' H'/\Same S1 S'/\bE x m (l.drop i) ρ'=some o,⟨_,rfl,T2 _,ρ,S1,r1,Same.refl _,y⟩,?_⟩;rintro i n σ2 H2 ⟨rfl,hil,ρ2,S2,r2,s2,y2⟩;obtain⟨w1,w2⟩:=wk S2 H2 s2 r2.sub;cases qd:l[i]? with
  |none=>
   have:l.length=i:=by have:=VG.mp qd;lia
   subst this;rw[Vb (Tw _)] at y2;cases y2;exact .inl ⟨w2,k σ2 S2 H2 r2 (z1.sh.trans s2)⟩
  |some d=>
   obtain⟨g1,g2⟩:=w1 i d qd;have hlt:=(TR.mp qd).1;rw[uh qd] at y2;unfold bE at y2;cases qx:x d ρ2 with
   |none=>rw[qx] at y2;cases y2
   |some ρ3=>
    rw[qx] at y2;dsimp only[Option.bind] at y2;refine .inr ⟨g1,fun σ' H'=>∃ρ' S',RlA K A Λ ρ' σ' S' H'/\Same S1 S'/\bE x m (l.drop (i+1)) ρ'=some o,fun σ' H' ⟨ρ',S',a1,a2,a3⟩=>⟨_,by lia,rfl,hlt,ρ',S',a1,a2,a3⟩,fun xv H3 hy=>?_⟩;obtain⟨rfl,dx⟩:=g2 xv H3 hy;refine hg A Λ ρ2 σ2 S2 H3 xv d _ ρ3 r2 dx qx fun σ3 r3=>?_;cases qm:m ρ3 with
    |none=>rw[qm] at y2;cases y2
    |some om=>
     rw[qm] at y2;refine hb A Λ ρ3 σ3 S2 H3 _ om r3 qm ?_;cases om with
     |nx ρ4=>exact fun σ4 S4 H4 r4 s4=>⟨ρ4,S4,r4,s2.trans s4,y2⟩
     |ct ρ4=>exact fun σ4 S4 H4 r4 s4=>⟨ρ4,S4,r4,s2.trans s4,y2⟩
     |bk ρ4=>cases y2;exact fun σ4 S4 H4 r4 s4=>k σ4 S4 H4 r4 ((z1.sh.trans s2).trans s4)
     |rt d4=>cases y2;exact fun v S4 H4 s4=>k v S4 H4 ((z1.sh.trans s2).trans s4)
     |ro d4=>cases y2;exact fun v fp S4 H4 s4=>k v fp S4 H4 ((z1.sh.trans s2).trans s4)
noncomputable def b6 (c:XT)(m:XS):Nat->Env->Option Out
 |0,_=>none
 |n+1,ρ=>(c ρ).bind fun b=>if b=true then (match m ρ with
  |some (.nx ρ2)=>b6 c m n ρ2
  |some (.ct ρ2)=>b6 c m n ρ2
  |some (.bk ρ2)=>some (.nx ρ2)
  |some (.rt d)=>some (.rt d)
  |some (.ro d)=>some (.ro d)
  |none=>none) else some (.nx ρ)
theorem l8 (c:XT)(m:XS):∀(n:Nat) (ρ:Env) (o:Out),b6 c m n ρ=some o->b6 c m (n+1) ρ=some o
 |0,_,_,h=>by cases h
 |n+1,ρ,o,h=>by
  unfold b6 at h ⊢;cases qc:c ρ with
  |none=>rw[qc] at h;cases h
  |some b=>
   rw[qc] at h;dsimp only[Option.bind] at h ⊢;cases b with
   |false=>exact h
   |true=>
    rw[Tn rfl] at h ⊢;cases qm:m ρ with
    |none=>rw[qm] at h;cases h
    |some om=>
     rw[qm] at h;cases om with
     |nx ρ2=>exact l8 c m n ρ2 o h
     |ct ρ2=>exact l8 c m n ρ2 o h
     |bk ρ2=>exact h
     |rt d=>exact h
     |ro d=>exact h
theorem oy (c:XT)(m:XS)(n:Nat)(ρ:Env)(o:Out)(h:b6 c m n ρ=some o):∀k,b6 c m (n+k) ρ=some o
 |0=>h
 |k+1=>l8 c m (n+k) ρ o (oy c m n ρ o h k)
noncomputable def p0 (c:XT)(m:XS):XS:=fun ρ=>by
 classical
 exact if h:∃o n,b6 c m n ρ=some o then some h.choose else none
noncomputable def dg (c:XT)(m:XS):XS:=fun ρ=>(b6 c m 64 ρ).or (p0 c m ρ)
theorem vR    {o o':Out}{n k:Nat}(h:b6 c m n ρ=some o)(h':b6 c m k ρ=some o'):o'=o:=by have h3:=oy c m n ρ o h k;have h4:=oy c m k ρ _ h' n;rw[Nat.add_comm k n,h3] at h4;exact (T6 h4).symm
theorem yw   {n:Nat}  {o:Out}(h:b6 c m n ρ=some o):dg c m ρ=some o:=by
 unfold dg;cases q:b6 c m 64 ρ with
 |some o'=>exact TQ some (vR h q)
 |none=>
  have hx:∃o n,b6 c m n ρ=some o:=⟨o,n,h⟩
  show p0 c m ρ=some o;unfold p0;rw[dif_pos hx];obtain⟨n2,h2⟩:=hx.choose_spec;exact TQ some (vR h h2)
theorem ye    {o:Out}(h:dg c m ρ=some o):∃n,b6 c m n ρ=some o:=by
 unfold dg at h;cases q:b6 c m 64 ρ with
 |some o'=>rw[q] at h;exact⟨64,q.trans h⟩
 |none=>
  rw[q] at h;have h:p0 c m ρ=some o:=h;unfold p0 at h;split at h
  ·rename_i hx;cases h;exact hx.choose_spec
  ·cases h
theorem vY {c:XT}  {ρ:Env}(h:c ρ=some false):dg c m ρ=some (.nx ρ):=yw (n:=1) (by unfold b6;rw[h];rfl)
theorem sn {c:XT}{m:XS}{ρ ρ2:Env}{o:Out}(h:c ρ=some true)(hm:m ρ=some (.nx ρ2))(k:dg c m ρ2=some o):dg c m ρ=some o:=by obtain⟨n,hn⟩:=ye k;exact yw (n:=n+1) (by unfold b6;rw[h,hm];exact hn)
theorem Li {tc:TT}{tb:TS}   (hc:ST K tc c)(hb:SS K tb m):SS K (Di tc tb) (dg c m):=fun A Λ ρ σ S H E o r y k=>by
 obtain⟨n,hn⟩:=ye y;refine⟨fun n σ' H'=>∃ρ' S',RlA K A Λ ρ' σ' S' H'/\Same S S'/\b6 c m n ρ'=some o,⟨n,ρ,S,r,Same.refl _,hn⟩,?_⟩;rintro n σ1 H1 ⟨ρ1,S1,r1,s1,h1⟩;cases n with
 |zero=>cases h1
 |succ n=>
  unfold b6 at h1;cases qc:c ρ1 with
  |none=>rw[qc] at h1;cases h1
  |some b=>
   rw[qc] at h1;dsimp only[Option.bind] at h1;refine hc ρ1 σ1 S1 H1 _ b r1.toRl qc fun S2 H2 z2=>?_;have r2:=r1.ext z2;cases b with
   |false=>
    rw[To (by decide)] at h1;cases h1;exact Fk (k σ1 S2 H2 r2 (s1.trans z2.sh))
   |true=>
    rw[Tn rfl] at h1;refine Fl ⟨fun σ' H'=>∃ρ' S',RlA K A Λ ρ' σ' S' H'/\Same S S'/\b6 c m n ρ'=some o,fun σ' H' a=>⟨n,U7 _,a⟩,?_⟩;cases qm:m ρ1 with
    |none=>rw[qm] at h1;cases h1
    |some om=>
     rw[qm] at h1;refine hb A Λ ρ1 σ1 S2 H2 _ om r2 qm ?_;cases om with
     |nx ρ4=>exact fun σ4 S4 H4 r4 s4=>⟨ρ4,S4,r4,(s1.trans z2.sh).trans s4,h1⟩
     |ct ρ4=>exact fun σ4 S4 H4 r4 s4=>⟨ρ4,S4,r4,(s1.trans z2.sh).trans s4,h1⟩
     |bk ρ4=>cases h1;exact fun σ4 S4 H4 r4 s4=>k σ4 S4 H4 r4 ((s1.trans z2.sh).trans s4)
     |rt d4=>cases h1;exact fun v S4 H4 s4=>k v S4 H4 ((s1.trans z2.sh).trans s4)
     |ro d4=>cases h1;exact fun v fp S4 H4 s4=>k v fp S4 H4 ((s1.trans z2.sh).trans s4)
@[simp] noncomputable def y7 (js:List (Option Nat))(ρ:Env):Env:=js.map fun o=>match o with|none=>.un|some j=>match ρ[j]? with|some (.sh d)=>.sh d|_=>.un
noncomputable def a6 (g:XG)(c:XT)(e:XE)(ρ0:Env):List D->Option (List D)
 |[]=>some []
 |d::l=>(g d ρ0).bind fun ρ1=>(c ρ1).bind fun b=>if b=true then (e ρ1).bind fun y=>(a6 g c e ρ0 l).map fun r=>y::r else a6 g c e ρ0 l
@[simp] noncomputable def bH (js:List (Option Nat))(w:XA)(g:XG)(c:XT)(e:XE):XA:=fun ρ=>(w ρ).bind fun l=>if l.length<=LIM then a6 g c e (y7 js ρ) l else none
@[simp] noncomputable def bw:XT:=fun _=>some true
theorem P9:ST K LP bw:=fun ρ σ S H Q b r x k=>by cases x;exact k S H (Ext.refl r.sub)
theorem pe {js:List (Option Nat)}  {i:Nat}{s:Sl}(h:(y7 js ρ)[i]?=some s):s = .un\/∃d j,s = .sh d/\js[i]?=some (some j)/\ρ[j]?=some (.sh d):=by
 unfold y7 at h;rw[TW] at h;cases q:js[i]? with
 |none=>rw[q] at h;cases h
 |some o=>
  rw[q] at h;cases o with
  |none=>cases h;exact .inl rfl
  |some j=>
   simp only[Option.map_some] at h;cases q2:ρ[j]? with
   |none=>rw[q2] at h;cases h;exact .inl rfl
   |some s2=>
    rw[q2] at h;cases s2 with
    |un=>cases h;exact .inl rfl
    |lo=>cases h;exact .inl rfl
    |ow l=>cases h;exact .inl rfl
    |sh d=>cases h;exact .inr ⟨d,j,rfl,rfl,q2⟩
noncomputable def mV (S H:Hp):Hp:=fun b=>match S b with|none=>H b|some _=>none
theorem xg:Same (mV S H) H:=fun b o h=>by
 unfold mV at h;cases q:S b with
 |none=>rw[q] at h;exact h
 |some _=>rw[q] at h;cases h
theorem xf {S:Hp}(b:Addr):S b=none\/mV S H b=none:=by
 unfold mV;cases q:S b with
 |none=>exact .inl rfl
 |some _=>exact .inr rfl
theorem Ag {S H:Hp}{b:Addr}{o:HO}(h:H b=some o)(n:S b=none):mV S H b=some o:=by unfold mV;rw[n];exact h
theorem NF   (r:Rl K ρ σ S H)(js:List (Option Nat)):RlA K (mV S H) (fun _=>none) (y7 js ρ) (inn js σ) S H:=by
 refine⟨fun _=>[],?_⟩
 exact {
  len:=by unfold y7 inn;rw[Tt,Tt]
  sub:=r.sub
  sh:=fun i d h=>by
   rcases pe h with e|⟨d',j,e,h1,h2⟩
   ·cases e
   ·cases e;obtain⟨v,k1,k2⟩:=r.sh j d h2;refine⟨v,?_,k2⟩;unfold inn;rw[TW,h1];show some ((σ[j]?).join)=some (some v);rw[k1];rfl
  ow:=fun i o h=>by
   rcases pe h with e|⟨d',j,e,h1,h2⟩
   ·cases e
   ·cases e
  dj:=fun i j o o' _ h=>by
   rcases pe h with e|⟨d',j,e,h1,h2⟩
   ·cases e
   ·cases e
  lo:=fun i h=>by
   rcases pe h with e|⟨d',j,e,h1,h2⟩
   ·cases e
   ·cases e
  asub:=xg
  adis:=xf }
theorem NK {js:List (Option Nat)}{wi:TI}  {tt:TIf}{te:TE}     (hi:SIP K wi w)(hg:SG K g x)(hc:ST K tt c)(he:SE K te e):SF K (yp js wi g tt te) (bH js w x c e):=fun ρ σ S H Q l r y k=>by
 unfold bH at y;cases q:w ρ with
 |none=>rw[q] at y;cases y
 |some ds=>
  rw[q] at y;dsimp only[Option.bind] at y;split at y
  ·rename_i hlim;refine hi ρ σ S H _ ds r q fun J S1 H1 z1 wk D hD=>?_;have r1:=r.ext z1;have hD0:H D=none:=(z1.same r.sub).free hD
   -- the word: what is told so far,what is still to be told
   refine⟨fun i n H'=>n=ds.length-i/\i<=ds.length/\∃S' done ys rest,Ext S1 H1 S' H'/\Same S1 S'/\H' D=some (.lst ys)/\S' D=none/\Dens K S' done ys/\done.length<=i/\a6 x c e (y7 js ρ) (ds.drop i)=some rest/\l=done++rest,
    ⟨_,rfl,T2 _,S1,[],[],l,Ext.own z1.sub hD,Same.refl _,aH,z1.sub.free hD,.nil,T2 _,y,rfl⟩,?_⟩
   rintro i n H2 ⟨rfl,hil,S2,done,ys,rest,z2,s2,hy,hSD,dy,hdl,y2,rfl⟩;obtain⟨w1,w2⟩:=wk S2 H2 z2;cases qd:ds[i]? with
   |none=>
    have:ds.length=i:=by have:=VG.mp qd;lia
    subst this;rw[Vb (Tw _)] at y2;cases y2;rw[Ue] at k;exact .inl ⟨w2,k D ys S2 H2 (z1.trans z2) hD0 hSD hy dy⟩
   |some d=>
    obtain⟨g1,g2⟩:=w1 i d qd;have hlt:=(TR.mp qd).1;rw[uh qd] at y2;unfold a6 at y2;cases qx:x d (y7 js ρ) with
    |none=>rw[qx] at y2;cases y2
    |some ρ3=>
     rw[qx] at y2;dsimp only[Option.bind] at y2;refine .inr ⟨g1,fun xv H3 hyl=>?_⟩;obtain⟨rfl,dx⟩:=g2 xv H3 hyl;have ri:=NF (r1.ext z2) js;refine hg _ _ _ _ S2 H3 xv d _ ρ3 ri dx qx fun σ3 r3=>?_;cases qc:c ρ3 with
     |none=>rw[qc] at y2;cases y2
     |some b=>
      rw[qc] at y2;dsimp only at y2;refine hc ρ3 σ3 S2 H3 _ b r3.toRl qc fun S4 H4 z4=>?_;obtain⟨al1,al2⟩:=z4.al D _ hy hSD;cases b with
      |false=>
       rw[To (by decide)] at y2;exact Fk ⟨_,by lia,rfl,hlt,S4,done,ys,rest,z2.trans z4,s2.trans z4.sh,al1,al2,dy.mono z4.sh,by lia,y2,rfl⟩
      |true=>
       rw[Tn rfl] at y2;cases qe:e ρ3 with
       |none=>rw[qe] at y2;cases y2
       |some dv=>
        rw[qe] at y2;dsimp only at y2;cases qr:a6 x c e (y7 js ρ) (ds.drop (i+1)) with
        |none=>rw[qr] at y2;cases y2
        |some rest2=>
         rw[qr] at y2;cases y2;refine Fl (he ρ3 σ3 S4 H4 _ dv (r3.toRl.ext z4) qe fun v S5 H5 z5 d5=>?_);obtain⟨b1,b2⟩:=z5.al D _ al1 al2;refine⟨ys,b1,?_,_,by lia,rfl,hlt,S5,done++[dv],ys++[v],rest2,?_,(s2.trans z4.sh).trans z5.sh,aH,b2,((dy.mono z4.sh).mono z5.sh).append (.cons d5 .nil),by rw[Tu,TY];lia,qr,by rw[T8];rfl⟩
         ·rw[<- dy.length];exact Ud (UQ hdl hlt) (T1 hlim (Uv jw))
         ·have z6:=(z2.trans z4).trans z5;exact⟨z6.sh,fun b u hb=>by rw[aG fun z=>by subst z;rw[b2] at hb;cases hb];exact z6.sub b u hb,fun b o hb hn=>by
           obtain⟨c1,c2⟩:=z6.al b o hb hn
           exact⟨by rw[aG fun z=>by subst z;rw[hD] at hb;cases hb];exact c1,c2⟩⟩
  ·cases y
@[simp] noncomputable def Sj (i:Nat)(g:XG)(m:XS):XS:=fun ρ=>match ρ[i]? with
 |some (.ow (.lst os))=>(match shs os with
  |some l=>(match bE g m l (ρ.set i .lo) with
   |some (.nx ρ')=>(match ρ'[i]? with|some .lo=>some (.nx (ρ'.set i (.ow (.lst os))))|_=>none)
   |some (.rt d)=>some (.rt d)
   |_=>none)
  |none=>none)
 |_=>none
noncomputable def fnO (n:Nat)(x:XS)(ds:List D):Option O:=match x (ds.map .sh++List.replicate (n-ds.length) .un) with
 |some (.rt d)=>some (.sh d)
 |some (.ro o)=>some o
 |some (.nx _)=>some (.sh .non)
 |_=>none
theorem Je {N:List Str}{ds:List D}  (s:Same S H)(h:Dens K S ds vs):RlA K (mV S H) (fun _=>none) (ds.map .sh++List.replicate (N.length-ds.length) .un) (L2.eB N vs) S H:=by
 have hl:=h.length;have key:∀(i:Nat) t,(ds.map Sl.sh++List.replicate (N.length-ds.length) .un)[i]?=some t->t = .un\/∃d v,t = .sh d/\(L2.eB N vs)[i]?=some (some v)/\Den K S d v:=fun i t ht=>by
  by_cases hi:i<ds.length
  ·rw[Vy (by rw[Tt];exact hi),TW] at ht;cases q:ds[i]? with
   |none=>rw[q] at ht;cases ht
   |some d=>rw[q] at ht;cases ht;obtain⟨v,e1,e2⟩:=h.get q;refine .inr ⟨d,v,rfl,?_,e2⟩;unfold L2.eB;rw[Vy (by rw[Tt];lia),TW,e1];rfl
  ·rw[Vk (by rw[Tt];lia),List.getElem?_replicate] at ht;split at ht
   ·cases ht;exact .inl rfl
   ·cases ht
 refine⟨fun _=>[],?_⟩
 exact {
  len:=by unfold L2.eB;rw[Tu,Tu,Tt,Tt,Wb,Wb,hl]
  sub:=s
  sh:=fun i d hi=>by
   rcases key i _ hi with e|⟨d',v,e,h1,h2⟩
   ·cases e
   ·cases e;exact⟨v,h1,h2⟩
  ow:=fun i o hi=>by
   rcases key i _ hi with e|⟨d',v,e,h1,h2⟩
   ·cases e
   ·cases e
  dj:=fun i j o o' _ hi=>by
   rcases key i _ hi with e|⟨d',v,e,h1,h2⟩
   ·cases e
   ·cases e
  lo:=fun i hi=>by
   rcases key i _ hi with e|⟨d',v,e,h1,h2⟩
   ·cases e
   ·cases e
  asub:=xg
  adis:=xf }
theorem Bw   {N:List Str}{n k:Nat}     (hs:SS K t x)(hN:N.length=n)(h:bz K k (fnO n x) vs H Q E) :
  t { nx:=fun _ H'=>Q .non H',rt:=Q } (L2.eB N vs) H:=by
 obtain⟨_,S,ds,d,s,dd,y,q⟩:=h;subst hN;unfold fnO at y;have r:=Je (N:=N) s dd;have ex:∀ {S' H':Hp},Same S S'->Same S' H'->Same (mV S H) H'->(∀b,S' b=none\/mV S H b=none)->Ext S H S' H':=fun s1 s2 s3 s4=>⟨s1,s2,fun b o hb hn=>by
  have ha:=Ag hb hn;refine⟨s3 b o ha,?_⟩;rcases s4 b with z|z
  ·exact z
  ·rw[ha] at z;cases z⟩
 cases qx:x (ds.map .sh++List.replicate (N.length-ds.length) .un) with
 |none=>rw[qx] at y;cases y
 |some o=>
  rw[qx] at y;refine hs _ _ _ _ S H _ o r qx ?_;cases o with
  |rt d'=>
   cases y;exact fun v S' H' s1 s2 s3 s4 dv=>q v [] S' H' (ex s1 s2 s3 s4) (own_sh.mpr ⟨rfl,dv⟩) .nil fun b hb=>by cases hb
  |ro o'=>
   cases y;refine fun v fp S' H' s1 s2 s3 s4 ow nd n=>q v fp S' H' (ex s1 s2 s3 s4) ow nd fun b hb=>⟨?_,(n b hb).1⟩
   cases qb:H b with
   |none=>rfl
   |some u=>
    have:=Ag qb (s1.free (n b hb).1);rw[(n b hb).2] at this;cases this
  |nx ρ'=>
   cases y;exact fun σ' S' H' r' s1=>q .non [] S' H' (ex s1 r'.sub r'.asub r'.adis) (own_sh.mpr ⟨rfl,den_non.mpr rfl⟩) .nil fun b hb=>by cases hb
  |bk ρ'=>cases y
  |ct ρ'=>cases y
end
noncomputable def dI (f:Int->Int->Option D):D->D->Option D
 |.int i,.int j=>f i j
 |_,_=>none
noncomputable def qv:D->D->Option D:=dI fun i j=>ifC ((-18446744073709551616<i/\i<18446744073709551616)\/(-18446744073709551616<j/\j<18446744073709551616)) (some (.int (i * j))) none
noncomputable def o3:D->D->Option D:=dI fun i j=>ifC (0<j/\j<1073741824) (some (.int (i / j))) none
noncomputable def fQ:D->D->Option D:=dI fun i j=>ifC (0<j) (some (.int (i % j))) none
noncomputable def E1:D->D->Option D:=dI fun i j=>ifC (0<=j/\j<=1000000/\i.natAbs<18446744073709551616) (some (.int (i ^ j.toNat))) none
noncomputable def eY:D->D->Option D:=dI fun i j=>some (.int (i-j))
noncomputable def dLt:D->D->Option D:=dI fun i j=>some (.bl (decide (i<j)))
noncomputable def dLe:D->D->Option D:=dI fun i j=>some (.bl (decide (i<=j)))
noncomputable def dGt:D->D->Option D:=dI fun i j=>some (.bl (decide (j<i)))
noncomputable def dGe:D->D->Option D:=dI fun i j=>some (.bl (decide (j<=i)))
noncomputable def cJ:D->Option D
 |.int i=>some (.int (-i))
 |_=>none
section
variable {K:W.Frag}
theorem r_i {C:Int->Int->Prop}{g:Int->Int->V}{f:Int->Int->Option D}(h:∀i j d,f i j=some d->C i j/\qB d=some (g i j)):SR2 K (rI C g) (dI f):=fun S H x y d e z Q s dx dy q k=>by
 cases d<;>cases e<;>try cases q
 rename_i i j;obtain⟨h1,h2⟩:=h i j z q;exact⟨i,j,dx.int,dy.int,h1,k _ S H (Ext.refl s) (o4 h2)⟩
theorem Ja {g:Int->Int->V}{f:Int->Int->Option D}(h:∀i j d,f i j=some d->qB d=some (g i j)):SR2 K (rI0 g) (dI f):=fun S H x y d e z Q s dx dy q k=>by
 cases d<;>cases e<;>try cases q
 rename_i i j;exact⟨i,j,dx.int,dy.int,k _ S H (Ext.refl s) (o4 (h i j z q))⟩
theorem PF:SR2 K (rI CMul fun i j=>.int (i * j)) qv:=r_i fun i j d h=>by
 obtain⟨c,rfl⟩:=iA h;refine⟨?_,rfl⟩;unfold CMul;have:(2:Int) ^ 64=18446744073709551616:=by decide
 rw[this];exact c
theorem Py:SR2 K (rI Oy fun i j=>.int (i / j)) o3:=r_i fun i j d h=>by obtain⟨c,rfl⟩:=iA h;exact⟨c,rfl⟩
theorem PD:SR2 K (rI (fun _ j=>0<j) fun i j=>.int (i % j)) fQ:=r_i fun i j d h=>by obtain⟨c,rfl⟩:=iA h;exact⟨c,rfl⟩
theorem PH:SR2 K (rI Md fun i j=>.int (i ^ j.toNat)) E1:=r_i fun i j d h=>by
 obtain⟨c,rfl⟩:=iA h;refine⟨?_,rfl⟩;unfold Md;have:(2:Nat) ^ 64=18446744073709551616:=by decide
 rw[this];exact c
theorem PK:SR2 K (rI0 fun i j=>.int (i-j)) eY:=Ja fun i j d h=>by cases h;rfl
theorem ND:SR2 K (rI0 fun i j=>.bl (decide (i<j))) dLt:=Ja fun i j d h=>by cases h;rfl
theorem QW:SR2 K (rI0 fun i j=>.bl (decide (i<=j))) dLe:=Ja fun i j d h=>by cases h;rfl
theorem QU:SR2 K (rI0 fun i j=>.bl (decide (j<i))) dGt:=Ja fun i j d h=>by cases h;rfl
theorem Bv:SR1 K (rU fun i=>.int (-i)) cJ:=fun S H x d g Q s dx q k=>by
 cases d<;>try cases q
 rename_i i;exact⟨i,dx.int,k _ S H (Ext.refl s) (den_int.mpr rfl)⟩
end
noncomputable def L1:R2:=fun x y H Q=>∃l b xs zs,x = .ref l/\y = .ref b/\Rd H l (.lst xs)/\Rd H b (.lst zs)/\xs.length+zs.length<=sizeLine/\∀p,H p=none->Q (.ref p) (upd H p (.lst (xs++zs)))
noncomputable def L6 (K:W.Frag):R2:=fun x y H Q=>∃a b xs ys,x = .ref a/\y = .ref b/\SqT K H a xs/\SqT K H b ys/\xs.length+ys.length<=sizeLine /\
 (ys=[]->Q (.ref a) H)/\(xs=[]->Q (.ref b) H)/\∀p,H p=none->Q (.ref p) (upd H p (.tup (xs++ys)))
noncomputable def L4:R2:=fun x y H Q=>∃i j,x = .str i/\y = .str j/\i.length+j.length<=sizeLine/\Q (.str (i++j)) H
noncomputable def IU (K:W.Frag):R2:=fun x y H Q=>(∃i j,x = .int i/\y = .int j/\Q (.int (i+j)) H)\/L1 x y H Q\/L6 K x y H Q\/L4 x y H Q
noncomputable def aP:D->D->Option D
 |.int i,.int j=>some (.int (i+j))
 |.lst a,.lst b=>if a.length+b.length<=LIM then some (.lst (a++b)) else none
 |.tup a,.tup b=>if a.length+b.length<=LIM then some (.tup (a++b)) else none
 |.str a,.str b=>if a.length+b.length<=LIM then some (.str (a++b)) else none
 |_,_=>none
section
variable {K:W.Frag}
theorem Dens.nil_iff  {ds:List D}{xs:List V}(h:Dens K S ds xs):xs=[]↔ds=[]:=by have:=h.length;cases ds<;>cases xs<;>simp_all
theorem uL {n:Nat}(h:n<=LIM):n<=sizeLine:=Uv (UQ h jw)
theorem L7:SR2 K (IU K) aP:=fun S H x y d e z Q s dx dy q k=>by
 cases d<;>cases e<;>try (cases q;done)
 ·rename_i i j;cases q;exact .inl ⟨i,j,dx.int,dy.int,k _ S H (Ext.refl s) (den_int.mpr rfl)⟩
 ·rename_i i j;have q':(if i.length+j.length<=LIM then some (D.str (i++j)) else none)=some z:=q;split at q'
  ·rename_i hl;cases q';exact .inr (.inr (.inr ⟨i,j,dx.str,dy.str,uL hl,k _ S H (Ext.refl s) (den_str.mpr rfl)⟩))
  ·cases q'
 ·rename_i a b;have q':(if a.length+b.length<=LIM then some (D.lst (a++b)) else none)=some z:=q;split at q'
  ·rename_i hl;cases q';obtain⟨p,xs,rfl,h1,h2⟩:=dx.lst s;obtain⟨p',ys,rfl,h3,h4⟩:=dy.lst s;refine .inr (.inl ⟨p,p',xs,ys,rfl,rfl,h1,h3,by rw[<- h2.length,<- h4.length];exact uL hl,fun q hq=>?_⟩);have z:=Ext.new (o:=.lst (xs++ys)) s hq;exact k _ _ _ z (den_lst.mpr ⟨q,_,rfl,.inl aH,(h2.append h4).mono z.sh⟩)
  ·cases q'
 ·rename_i a b;have q':(if a.length+b.length<=LIM then some (D.tup (a++b)) else none)=some z:=q;split at q'
  ·rename_i hl;cases q';obtain⟨p,xs,e1,h1,h2⟩:=dx.tup s;obtain⟨p',ys,e2,h3,h4⟩:=dy.tup s;have dx':Den K S (.tup a) x:=dx.elim id fun⟨_,_,_,e,_⟩=>by cases e
   have dy':Den K S (.tup b) y:=dy.elim id fun⟨_,_,_,e,_⟩=>by cases e
   subst e1 e2;refine .inr (.inr (.inl ⟨p,p',xs,ys,rfl,rfl,h1,h3,by rw[<- h2.length,<- h4.length];exact uL hl,fun e=>?_,fun e=>?_,fun q hq=>?_⟩))
   ·have:=h4.nil_iff.mp e;subst this;exact k _ S H (Ext.refl s) (by rw[Ue];exact dx')
   ·have:=h2.nil_iff.mp e;subst this;exact k _ S H (Ext.refl s) (by rw[VH];exact dy')
   ·have z:=Ext.new (o:=.tup (xs++ys)) s hq;exact k _ _ _ z (den_tup.mpr ⟨q,_,rfl,TpA.of aH,(h2.append h4).mono z.sh⟩)
  ·cases q'
end
mutual
noncomputable def eqD:D->D->Bool
 |.non,.non=>true
 |.bl a,.bl b=>a==b
 |.bl a,.int j=>(if a then 1 else 0)==j
 |.int i,.bl b=>i==(if b then 1 else 0)
 |.int i,.int j=>i==j
 |.str x,.str y=>x==y
 |.lst a,.lst b=>eqDs a b
 |.tup a,.tup b=>eqDs a b
 |.tup a,.mtp b=>eqDs a b
 |.mtp a,.tup b=>eqDs a b
 |.mtp a,.mtp b=>eqDs a b
 |_,_=>false
noncomputable def eqDs:List D->List D->Bool
 |[],[]=>true
 |x::xs,y::ys=>eqD x y&&eqDs xs ys
 |_,_=>false
end
mutual
noncomputable def okD:Nat->D->Bool
 |_,.non=>true
 |_,.bl _=>true
 |_,.int _=>true
 |_,.str x=>PyData.strOk x
 |n+1,.lst l=>okDs n l
 |n+1,.tup l=>okDs n l
 |n+1,.mtp l=>okDs n l
 |_,_=>false
noncomputable def okDs:Nat->List D->Bool
 |_,[]=>true
 |n,d::l=>okD n d&&okDs n l
end
noncomputable def Lf (K:W.Frag)(neg:Bool):R2:=fun x y H Q=>∃S d e,Same S H/\DenP K S H d x/\DenP K S H e y/\okD 50 d=true/\okD 50 e=true/\Q (.bl (if neg then !eqD d e else eqD d e)) H
noncomputable def dEq (neg:Bool)(d e:D):Option D:=if okD 50 d=true/\okD 50 e=true then some (.bl (if neg then !eqD d e else eqD d e)) else none
section
variable {K:W.Frag}
theorem Pz (neg:Bool):SR2 K (Lf K neg) (dEq neg):=fun S H x y d e z Q s dx dy q k=>by
 unfold dEq at q;split at q
 ·rename_i c;cases q;exact⟨S,d,e,s,dx,dy,c.1,c.2,k _ S H (Ext.refl s) (den_bl.mpr rfl)⟩
 ·cases q
end
noncomputable def uF:D->Bool
 |.non=>true|_=>false
noncomputable def QI (neg:Bool)(d e:D):Option D:=match e with|.non=>some (.bl (if neg then !uF d else uF d))|_=>none
section
variable {K:W.Frag}
end
noncomputable def dIx:D->D->Option D
 |.lst l,.int i=>atI l i
 |.tup l,.int i=>atI l i
 |.scr l,.int i=>atI l i
 |.str x,.int i=>if x.length<=LIM then (atI x.cps.toList i).map fun c=>.str ⟨#[c]⟩ else none
 |_,_=>none
section
variable {K:W.Frag}
theorem t7  {ds:List D}{xs:List V}{i:Int}{d:D}(h:Dens K S ds xs)(e:atI ds i=some d):∃v,atI xs i=some v/\Den K S d v:=by
 unfold atI at e ⊢;rw[<- h.length];cases q:ixN ds.length i with
 |none=>rw[q] at e;cases e
 |some j=>rw[q] at e;exact h.get e
theorem QV:SR2 K (rIx K) dIx:=fun S H x y d e z Q s dx dy q k=>by
 cases d<;>cases e<;>try (cases q;done)
 ·rename_i x' i;have q':(if x'.length<=LIM then (atI x'.cps.toList i).map fun c=>D.str ⟨#[c]⟩ else none)=some z:=q;split at q'
  ·rename_i hl;cases qc:atI x'.cps.toList i with
   |none=>rw[qc] at q';cases q'
   |some c=>rw[qc] at q';cases q';exact .inr (.inr ⟨x',i,c,dx.str,dy.int,uL hl,qc,k _ S H (Ext.refl s) (den_str.mpr rfl)⟩)
  ·cases q'
 ·rename_i l i;obtain⟨p,xs,rfl,h1,h2⟩:=dx.lst s;obtain⟨v,h3,h4⟩:=t7 h2 q;exact .inl ⟨p,xs,i,v,rfl,dy.int,.inl h1,h3,k v S H (Ext.refl s) h4⟩
 ·rename_i l i;obtain⟨p,xs,rfl,h1,h2⟩:=dx.tup s;obtain⟨v,h3,h4⟩:=t7 h2 q;exact .inr (.inl ⟨p,xs,i,v,rfl,dy.int,h1,h3,k v S H (Ext.refl s) h4⟩)
 ·rename_i l i;obtain⟨p,xs,rfl,h1,h2⟩:=dx.scr s;obtain⟨v,h3,h4⟩:=t7 h2 q;exact .inl ⟨p,xs,i,v,rfl,dy.int,h1,h3,k v S H (Ext.refl s) h4⟩
end
noncomputable def iw {α:Type}(xs:List α)(lo hi:Option Int):List α:=(xs.drop (HT.sIx xs.length 0 lo)).take (HT.sIx xs.length xs.length hi-HT.sIx xs.length 0 lo)
noncomputable def NB (K:W.Frag):V->Option Int->Option Int->Hp->VK->Prop:=fun x lo hi H Q=>Px K x lo hi H Q \/
 ∃a xs,x = .ref a/\SqT K H a xs/\(nw xs lo hi=xs->Q (.ref a) H)/\∀p,H p=none->Q (.ref p) (upd H p (.tup (nw xs lo hi)))
noncomputable abbrev XO:=Env->Option (Option Int)
def SO (K:W.Frag)(t:TO)(o:XO):Prop:=∀ρ σ S H (Q:Option Int->Hp->Prop) i,Rl K ρ σ S H->o ρ=some i->(∀S' H',Ext S H S' H'->Q i H')->t σ H Q
@[simp] noncomputable def tL:XO:=fun _=>some none
@[simp] noncomputable def vW (a:XE):XO:=fun ρ=>(a ρ).bind fun d=>match d with|.int i=>some (some i)|_=>none
section
variable {K:W.Frag}
theorem Jn:SO K zO tL:=fun ρ σ S H Q i r x k=>by cases x;exact k S H (Ext.refl r.sub)
theorem NV {ta:TE}  (h:SPk K ta a):SO K (JI ta) (vW a):=fun ρ σ S H Q i r x k=>by
 unfold vW at x;cases q:a ρ with
 |none=>rw[q] at x;cases x
 |some d=>
  rw[q] at x;dsimp only[Option.bind] at x;cases d<;>try (cases x;done)
  rename_i j;cases x;exact h ρ σ S H _ _ r q fun v S1 H1 z1 d1=>⟨j,d1.int,k S1 H1 z1⟩
theorem oZ  {ds:List D}{xs:List V}(h:Dens K S ds xs)(lo hi:Option Int):Dens K S (iw ds lo hi) (nw xs lo hi):=by unfold iw nw;rw[h.length];exact (h.drop _).take _
noncomputable def dSl (d:D)(lo hi:Option Int):Option D:=match d with
 |.lst l=>some (.lst (iw l lo hi))
 |.tup l=>some (.tup (iw l lo hi))
 |.scr l=>some (.lst (iw l lo hi))
 |_=>none
@[simp] noncomputable def xSl (a:XE)(lo hi:XO):XE:=fun ρ=>(a ρ).bind fun d=>(lo ρ).bind fun l=>(hi ρ).bind fun h=>dSl d l h
theorem Q2 {te:TE}{tl th:TO}  {lo hi:XO}(ha:SPk K te a)(hl:SO K tl lo)(hh:SO K th hi):SE K (tSl (NB K) te tl th) (xSl a lo hi):=fun ρ σ S H Q g r x k=>by
 unfold xSl at x;cases q:a ρ with
 |none=>rw[q] at x;cases x
 |some d=>
  rw[q] at x;dsimp only[Option.bind] at x;cases ql:lo ρ with
  |none=>rw[ql] at x;cases x
  |some l=>
   rw[ql] at x;dsimp only at x;cases qh:hi ρ with
   |none=>rw[qh] at x;cases x
   |some h=>
    rw[qh] at x;dsimp only at x;refine ha ρ σ S H _ d r q fun v S1 H1 z1 d1=>?_;have r1:=r.ext z1;refine hl ρ σ S1 H1 _ l r1 ql fun S2 H2 z2=>?_;have r2:=r1.ext z2;refine hh ρ σ S2 H2 _ h r2 qh fun S3 H3 z3=>?_;have z23:=z2.trans z3;have d3:=d1.mono z23 r1.sub;have s3:=(r2.ext z3).sub;have z:=z1.trans z23;cases d<;>try (cases x;done)
    ·cases x;obtain⟨p,xs,rfl,h1,h2⟩:=d3.lst s3;refine .inl ⟨p,xs,rfl,.inl h1,fun p' hp=>?_⟩;have z4:=Ext.new (o:=.lst (nw xs l h)) s3 hp;exact k _ _ _ (z.trans z4) (den_lst.mpr ⟨p',_,rfl,.inl aH,(oZ h2 l h).mono z4.sh⟩)
    ·rename_i ds;cases x;have d3':Den K S3 (.tup ds) v:=d3.elim id fun⟨_,_,_,e,_⟩=>by cases e
     obtain⟨p,xs,e,h1,h2⟩:=d3.tup s3;subst e;refine .inr ⟨p,xs,rfl,h1,fun e=>k _ S3 H3 z ?_,fun p' hp=>?_⟩
     ·obtain⟨p2,xs2,e2,h3,h4⟩:=den_tup.mp d3';cases e2;have c:=oZ h2 l h;rw[e] at c;refine den_tup.mpr ⟨p,xs2,rfl,h3,?_⟩;have hlen:=c.length;have:iw ds l h=ds:=by
       have hl2:(iw ds l h).length=ds.length:=by rw[c.length,h2.length]
       unfold iw at hl2 ⊢;rw[Vx,List.length_drop] at hl2;have a0:HT.sIx ds.length 0 l=0\/ds.length=0:=by lia
       rcases a0 with a0|a0
       ·rw[a0,List.drop_zero] at *;exact VV (by lia)
       ·have:ds=[]:=UZ.mp a0;subst this;simp
      rw[this];exact h4
     ·have z4:=Ext.new (o:=.tup (nw xs l h)) s3 hp;exact k _ _ _ (z.trans z4) (den_tup.mpr ⟨p',_,rfl,TpA.of aH,(oZ h2 l h).mono z4.sh⟩)
    ·cases x;obtain⟨p,xs,rfl,h1,h2⟩:=d3.scr s3;refine .inl ⟨p,xs,rfl,h1,fun p' hp=>?_⟩;have z4:=Ext.new (o:=.lst (nw xs l h)) s3 hp;exact k _ _ _ (z.trans z4) (den_lst.mpr ⟨p',_,rfl,.inl aH,(oZ h2 l h).mono z4.sh⟩)
noncomputable def IW (K:W.Frag):List V->Hp->VK->Prop:=fun xs H Q=>∃x n,xs=[x]/\OD K x H n/\Q (.int n) H
noncomputable def gS:List D->Option D
 |[.lst l]=>some (.int l.length)
 |[.tup l]=>some (.int l.length)
 |[.scr l]=>some (.int l.length)
 |[.str x]=>if x.length<=LIM then some (.int x.length) else none
 |_=>none
theorem fD  {d:D}  (h:DensP K S H [d] vs):∃v,vs=[v]/\DenP K S H d v:=by
 cases h with
 |cons a b=>cases b;exact⟨_,rfl,a⟩
theorem Dl  {d e:D}  (h:DensP K S H [d,e] vs):∃v w,vs=[v,w]/\DenP K S H d v/\DenP K S H e w:=by
 cases h with
 |cons a b=>cases b with
  |cons c b=>cases b;exact⟨_,_,rfl,a,c⟩
theorem OM:SRB K (IW K) gS:=fun S H vs ds g Q s d q k=>by
 unfold gS at q;split at q
 ·rename_i l;cases q;obtain⟨v,rfl,d1⟩:=fD d;obtain⟨p,xs,rfl,h1,h2⟩:=d1.lst s;exact⟨_,xs.length,rfl,.inl ⟨xs,.inl h1,rfl⟩,k _ S H (Ext.refl s) (den_int.mpr (by rw[h2.length]))⟩
 ·rename_i l;cases q;obtain⟨v,rfl,d1⟩:=fD d;obtain⟨p,xs,rfl,h1,h2⟩:=d1.tup s;exact⟨_,xs.length,rfl,.inr ⟨xs,h1,rfl⟩,k _ S H (Ext.refl s) (den_int.mpr (by rw[h2.length]))⟩
 ·rename_i l;cases q;obtain⟨v,rfl,d1⟩:=fD d;obtain⟨p,xs,rfl,h1,h2⟩:=d1.scr s;exact⟨_,xs.length,rfl,.inl ⟨xs,h1,rfl⟩,k _ S H (Ext.refl s) (den_int.mpr (by rw[h2.length]))⟩
 ·rename_i x;split at q
  ·rename_i hl;cases q;obtain⟨v,rfl,d1⟩:=fD d;exact⟨_,x.length,rfl,by rw[d1.str];exact⟨uL hl,rfl⟩,k _ S H (Ext.refl s) (den_int.mpr rfl)⟩
  ·cases q
 ·cases q
noncomputable def eN:List D->Option D
 |[.lst l]=>some (.tup l)
 |[.tup l]=>some (.tup l)
 |[.scr l]=>some (.tup l)
 |_=>none
theorem Ke:SRB K (NC K) eN:=fun S H vs ds g Q s d q k=>by
 unfold eN at q;split at q
 ·rename_i l;cases q;obtain⟨v,rfl,d1⟩:=fD d;obtain⟨p,xs,rfl,h1,h2⟩:=d1.lst s;refine⟨p,xs,rfl,.inl ⟨.inl h1,fun q hq=>?_⟩⟩;have z:=Ext.new (o:=.tup xs) s hq;exact k _ _ _ z (den_tup.mpr ⟨q,_,rfl,TpA.of aH,h2.mono z.sh⟩)
 ·rename_i l;cases q;obtain⟨v,rfl,d1⟩:=fD d;have d':Den K S (.tup l) v:=d1.elim id fun⟨_,_,_,e,_⟩=>by cases e
  obtain⟨p,xs,rfl,h1,h2⟩:=d1.tup s;exact⟨p,xs,rfl,.inr ⟨h1,k _ S H (Ext.refl s) d'⟩⟩
 ·rename_i l;cases q;obtain⟨v,rfl,d1⟩:=fD d;obtain⟨p,xs,rfl,h1,h2⟩:=d1.scr s;refine⟨p,xs,rfl,.inl ⟨h1,fun q hq=>?_⟩⟩;have z:=Ext.new (o:=.tup xs) s hq;exact k _ _ _ z (den_tup.mpr ⟨q,_,rfl,TpA.of aH,h2.mono z.sh⟩)
 ·cases q
noncomputable def GR:List D->Option (List D)
 |[.lst l]=>some l
 |[.tup l]=>some l
 |[.scr l]=>some l
 |_=>none
noncomputable def xi:List D->Option D
 |[.int i,.int j]=>some (.int (if j > i then j else i))
 |_=>none
noncomputable def rM:List D->Option D
 |[.int i,.int j]=>some (.int (if j<i then j else i))
 |_=>none
theorem Mt:SRB K Pv xi:=fun S H vs ds g Q s d q k=>by
 unfold xi at q;split at q
 ·rename_i i j;cases q;obtain⟨v,w,rfl,d1,d2⟩:=Dl d;exact⟨i,j,by rw[d1.int,d2.int],k _ S H (Ext.refl s) (den_int.mpr rfl)⟩
 ·cases q
theorem Mv:SRB K Pw rM:=fun S H vs ds g Q s d q k=>by
 unfold rM at q;split at q
 ·rename_i i j;cases q;obtain⟨v,w,rfl,d1,d2⟩:=Dl d;exact⟨i,j,by rw[d1.int,d2.int],k _ S H (Ext.refl s) (den_int.mpr rfl)⟩
 ·cases q
noncomputable def aY:List D->Option (List Int)
 |[]=>some []
 |.int i::l=>(aY l).map fun r=>i::r
 |_=>none
theorem g9:∀ {ds:List D} {xs:List V} {ns:List Int},Dens K S ds xs->aY ds=some ns->xs=ns.map V.int/\ds=ns.map D.int
 |[],xs,ns,h,e=>by cases e;exact⟨h.nil_of,rfl⟩
 |d::ds,xs,ns,h,e=>by
  obtain⟨y,ys,rfl,h1,h2⟩:=h.cons_of;cases d<;>try (cases e;done)
  rename_i i;have e':(aY ds).map (fun r=>i::r)=some ns:=e;cases q:aY ds with
  |none=>rw[q] at e';cases e'
  |some ms=>rw[q] at e';cases e';obtain⟨k1,k2⟩:=g9 h2 q;rw[den_int.mp h1,k1];exact⟨rfl,TQ (D.int i :: ·) k2⟩
theorem fm:∀ns:List Int,aY (ns.map D.int)=some ns
 |[]=>rfl
 |n::ns=>by rw[TF,aY,fm ns];rfl
noncomputable def wf:List D->Option D
 |[.lst l]=>(aY l).map fun ns=>.int ns.sum
 |_=>none
theorem OO:SRB K (L5 K) wf:=fun S H vs ds g Q s d q k=>by
 unfold wf at q;split at q
 ·rename_i l;cases qi:aY l with
  |none=>rw[qi] at q;cases q
  |some ns=>rw[qi] at q;cases q;obtain⟨v,rfl,d1⟩:=fD d;obtain⟨p,xs,rfl,h1,h2⟩:=d1.lst s;obtain⟨e,_⟩:=g9 h2 qi;subst e;exact⟨p,ns,rfl,.inl h1,k _ S H (Ext.refl s) (den_int.mpr rfl)⟩
 ·cases q
noncomputable def Ca:List D->Option D
 |[.int i]=>some (.int i)
 |[.bl b]=>some (.int (if b then 1 else 0))
 |_=>none
theorem OK:SRB K Pr Ca:=fun S H vs ds g Q s d q k=>by
 unfold Ca at q;split at q
 ·rename_i i;cases q;obtain⟨v,rfl,d1⟩:=fD d;exact .inl ⟨i,by rw[d1.int],k _ S H (Ext.refl s) (den_int.mpr rfl)⟩
 ·rename_i i;cases q;obtain⟨v,rfl,d1⟩:=fD d;exact .inr ⟨i,by rw[d1.bl],k _ S H (Ext.refl s) (den_int.mpr rfl)⟩
 ·cases q
@[simp] noncomputable def JX (a:XE):XA:=fun ρ=>(a ρ).bind fun d=>match d with|.lst l=>some l.reverse|_=>none
theorem N0 {ta:TE}  (h:SPk K ta a):SF K (JK K ta) (JX a):=fun ρ σ S H Q l r x k=>by
 unfold JX at x;cases q:a ρ with
 |none=>rw[q] at x;cases x
 |some d=>
  rw[q] at x;dsimp only[Option.bind] at x;cases d<;>try (cases x;done)
  cases x;refine h ρ σ S H _ _ r q fun v S1 H1 z1 d1=>?_;obtain⟨p,xs,rfl,h1,h2⟩:=d1.lst z1.sub;exact⟨p,xs,rfl,.inl h1,fun q hq=>k q _ S1 _ (z1.trans (Ext.own z1.sub hq)) ((z1.same r.sub).free hq) (z1.sub.free hq) aH h2.reverse⟩
noncomputable def tyD:D->Option String
 |.non=>some "NoneType" |.bl _=>some "bool" |.int _=>some "int" |.str _=>some "str" |.lst _=>some "list" |.tup _=>some "tuple" |_=>none
noncomputable def Lx (t T:String):Bool:=t==T || (t == "bool" && T == "int")
def tyM (K:W.Frag)(H:Hp)(x:V)(t:String):Prop:=match x with
 |.non=>t = "NoneType" |.bl _=>t = "bool" |.int _=>t = "int" |.str _=>t = "str"
 |.ref p=>(t = "list" /\ ∃xs,Rd H p (.lst xs))\/(t = "tuple" /\ ∃xs,SqT K H p xs)
 |_=>False
noncomputable def O4:List String:=["bool", "int", "str", "list", "tuple"]
noncomputable def IV (K:W.Frag):List V->Hp->VK->Prop:=fun xs H Q=>∃x T t,xs=[x,.ty T]/\tyM K H x t/\T∈O4/\Q (.bl (Lx t T)) H
noncomputable def qf:List D->Option D
 |[d,.ty T]=>if T∈O4 then (tyD d).map fun t=>.bl (Lx t T) else none
 |_=>none
theorem Qg    {t:String}(s:Same S H)(h:DenP K S H d v)(e:tyD d=some t):tyM K H v t:=by
 cases d with
 |non=>rw[h.non];cases e;rfl
 |bl b=>rw[h.bl];cases e;rfl
 |int b=>rw[h.int];cases e;rfl
 |str b=>rw[h.str];cases e;rfl
 |lst l=>
  cases e;obtain⟨p,xs,rfl,h1,h2⟩:=h.lst s;exact .inl ⟨rfl,xs,h1⟩
 |tup l=>
  cases e;obtain⟨p,xs,rfl,h1,h2⟩:=h.tup s;exact .inr ⟨rfl,xs,h1⟩
 |_=>cases e
theorem OL:SRB K (IV K) qf:=fun S H vs ds g Q s d q k=>by
 unfold qf at q;split at q
 ·rename_i d0 T;split at q
  ·rename_i hT;cases qt:tyD d0 with
   |none=>rw[qt] at q;cases q
   |some t=>rw[qt] at q;cases q;obtain⟨v,w,rfl,d1,d2⟩:=Dl d;exact⟨v,T,t,by rw[d2.ty],Qg s d1 qt,hT,k _ S H (Ext.refl s) (den_bl.mpr rfl)⟩
  ·cases q
 ·cases q
end
noncomputable def wV (k:List Int):D:=.tup (k.map D.int)
noncomputable def Ky:D->Option (List Int)
 |.tup l=>if l.isEmpty then none else aY l
 |_=>none
noncomputable def keys:List D->Option (List (List Int))
 |[]=>some []
 |d::l=>(Ky d).bind fun k=>(keys l).map fun r=>k::r
theorem AS:∀a b:List Int,HT.b7 a b=true->HT.b7 b a=false
 |[],[],h=>by cases h
 |[],_::_,_=>rfl
 |_::_,[],h=>by cases h
 |x::a,y::b,h=>by
  have h':(if x=y then HT.b7 a b else decide (x<y))=true:=h;show (if y=x then HT.b7 b a else decide (y<x))=false;by_cases e:x=y
  ·rw[Tn e] at h';rw[Tn e.symm];exact AS a b h'
  ·rw[To e] at h';rw[To (fun z=>e z.symm)];have:=UP h';exact T5 (by lia)
theorem xT:∀a b:List Int,HT.b7 a b=false->HT.b7 b a=false->a=b
 |[],[],_,_=>rfl
 |[],_::_,h,_=>by cases h
 |_::_,[],_,h=>by cases h
 |x::a,y::b,h,k=>by
  have h':(if x=y then HT.b7 a b else decide (x<y))=false:=h;have k':(if y=x then HT.b7 b a else decide (y<x))=false:=k;by_cases e:x=y
  ·rw[Tn e] at h';rw[Tn e.symm] at k';rw[e,xT a b h' k']
  ·rw[To e] at h';rw[To (fun z=>e z.symm)] at k';have:=UD h';have:=UD k';lia
theorem xU:∀a b c:List Int,HT.b7 a b=false->HT.b7 b c=false->HT.b7 a c=false
 |[],[],_,_,k=>k
 |[],_::_,_,h,_=>by cases h
 |_::_,_,[],_,_=>rfl
 |_::_,[],_::_,_,k=>by cases k
 |x::a,y::b,z::c,h,k=>by
  have h':(if x=y then HT.b7 a b else decide (x<y))=false:=h;have k':(if y=z then HT.b7 b c else decide (y<z))=false:=k;show (if x=z then HT.b7 a c else decide (x<z))=false;by_cases e1:x=y
  ·rw[Tn e1] at h';subst e1;by_cases e2:x=z
   ·rw[Tn e2] at k' ⊢;exact xU a b c h' k'
   ·rw[To e2] at k' ⊢;exact k'
  ·rw[To e1] at h';have g1:=UD h';by_cases e2:y=z
   ·subst e2;rw[To e1];exact h'
   ·rw[To e2] at k';have g2:=UD k';rw[To (by lia)];exact T5 (by lia)
noncomputable def Fg (x:List Int):List (List Int)->List (List Int)
 |[]=>[x]
 |y::l=>if HT.b7 y x=true then y::Fg x l else x::y::l
noncomputable def iU (ks:List (List Int)):List (List Int):=ks.foldr Fg []
theorem xJ (x:List Int)(l:List (List Int)):(Fg x l).Perm (x::l):=by
 induction l with
 |nil=>exact .refl _
 |cons y l ih=>
  unfold Fg;split
  ·exact (ih.cons y).trans (.swap x y l)
  ·exact .refl _
noncomputable def iR (ns:List Int):List Int:=ns.mergeSort fun a b=>decide (a<=b)
theorem iV (ks:List (List Int)):(iU ks).Perm ks:=by
 induction ks with
 |nil=>exact .refl _
 |cons x l ih=>exact (xJ x (iU l)).trans (ih.cons x)
theorem f6 (ns:List Int):(iR ns).Perm ns:=List.mergeSort_perm _ _
theorem Kw (x:List Int)(l:List (List Int))(h:l.Pairwise fun a b=>HT.b7 b a=false):(Fg x l).Pairwise fun a b=>HT.b7 b a=false:=by
 induction l with
 |nil=>exact .cons (fun _ z=>by cases z) .nil
 |cons y l ih=>
  have hy:∀z,z∈l->HT.b7 z y=false:=fun z hz=>List.rel_of_pairwise_cons h hz;unfold Fg;cases q:HT.b7 y x with
  |true=>
   refine .cons (fun z hz=>?_) (ih (List.Pairwise.of_cons h));rcases TD.mp ((xJ x l).mem_iff.mp hz) with rfl|hz
   ·exact AS y _ q
   ·exact hy z hz
  |false=>
   refine .cons (fun z hz=>?_) h;rcases TD.mp hz with rfl|hz
   ·exact q
   ·exact xU z y x (hy z hz) q
theorem pP (ks:List (List Int)):(iU ks).Pairwise fun a b=>HT.b7 b a=false:=by
 induction ks with
 |nil=>exact .nil
 |cons x l ih=>exact Kw x (iU l) ih
theorem BJ (ns:List Int):(iR ns).Pairwise (· <= ·):=by
 have h:=List.pairwise_mergeSort (le:=fun a b:Int=>decide (a<=b)) (fun a b c h k=>by
  have:=UP h;have:=UP k;exact UA (by lia)) (fun a b=>by
  by_cases h:a<=b
  ·simp[h]
  ·simp[show b<=a by lia]) ns
 exact h.imp fun {a b} e=>UP e
theorem De {ks js:List (List Int)}(hp:js.Perm ks)(hw:js.Pairwise fun a b=>HT.b7 b a=false):js=iU ks:=
 List.Perm.eq_of_pairwise (fun a b _ _ h k=>xT a b k h) hw (pP ks) (hp.trans (iV ks).symm)
theorem Dc {ns ms:List Int}(hp:ms.Perm ns)(hw:ms.Pairwise (· <= ·)):ms=iR ns:=
 List.Perm.eq_of_pairwise (fun a b _ _ h k=>by lia) hw (BJ ns) (hp.trans (f6 ns).symm)
noncomputable def I9 (K:W.Frag):List V->Hp->VK->Prop:=fun xs H Q=>∃p,∃yks:List (V×List Int),xs=[.ref p]/\SqL K H p (yks.map (·.1))/\yks.length<30000/\(∀yk∈yks,∃q,yk.1 = .ref q/\SqT K H q (yk.2.map V.int)/\yk.2≠[]) /\
 ∀(zks:List (V×List Int)) l,zks.Perm yks->zks.Pairwise (fun a b=>HT.b7 b.2 a.2=false)->H l=none->Q (.ref l) (upd H l (.lst (zks.map (·.1))))
noncomputable def Bu (K:W.Frag):List V->Hp->VK->Prop:=fun xs H Q=>Bt K xs H Q\/I9 K xs H Q
noncomputable def eI:List D->Option (List D)
 |[.lst l]=>if l.length<30000 then (match aY l with
  |some ns=>some ((iR ns).map D.int)
  |none=>(keys l).map fun ks=>(iU ks).map wV) else none
 |_=>none
section
variable {K:W.Frag}
theorem Kz  {k:List Int}(h:Ky d=some k):d=wV k/\k≠[]:=by
 cases d<;>try (cases h;done)
 rename_i l;have h':(if l.isEmpty then none else aY l)=some k:=h;split at h'
 ·cases h'
 ·rename_i hne;have key:∀(l:List D) (k:List Int),aY l=some k->l=k.map D.int:=by
   intro l;induction l with
   |nil=>intro k e;cases e;rfl
   |cons d l ih=>
    intro k e;cases d<;>try (cases e;done)
    rename_i i;have e':(aY l).map (fun r=>i::r)=some k:=e;cases q:aY l with
    |none=>rw[q] at e';cases e'
    |some m=>rw[q] at e';cases e';rw[ih m q];rfl
  have e:=key l k h';subst e;exact⟨rfl,fun z=>by subst z;exact hne rfl⟩
theorem DU:∀ {l:List D} {ks:List (List Int)},keys l=some ks->l=ks.map wV/\∀k∈ks,k≠[]
 |[],ks,h=>by cases h;exact⟨rfl,fun _ h=>by cases h⟩
 |d::l,ks,h=>by
  have h':((Ky d).bind fun k=>(keys l).map fun r=>k::r)=some ks:=h;cases q:Ky d with
  |none=>rw[q] at h';cases h'
  |some k=>
   rw[q] at h';dsimp only[Option.bind] at h';cases q2:keys l with
   |none=>rw[q2] at h';cases h'
   |some r=>
    rw[q2] at h';cases h';obtain⟨a,b⟩:=DU q2;obtain⟨c,d⟩:=Kz q;refine⟨by rw[TF,<- a,<- c],fun k hk=>?_⟩;rcases TD.mp hk with rfl|hk
    ·exact d
    ·exact b k hk
theorem uD:∀ {S:Hp} {k:List Int} {xs:List V},Dens K S (k.map D.int) xs->xs=k.map V.int
 |S,[],xs,h=>h.nil_of
 |S,i::k,xs,h=>by obtain⟨y,ys,rfl,h1,h2⟩:=h.cons_of;rw[den_int.mp h1,uD h2];rfl
theorem Au:∀ {ks:List (List Int)} {xs:List V},Dens K S (ks.map wV) xs->(xs.zip ks).map (·.1)=xs/\(xs.zip ks).map (·.2)=ks/\(xs.zip ks).length=ks.length/\∀yk∈xs.zip ks,Den K S (wV yk.2) yk.1
 |[],xs,h=>by rw[h.nil_of];exact⟨rfl,rfl,rfl,fun _ h=>by cases h⟩
 |k::ks,xs,h=>by
  obtain⟨y,ys,rfl,h1,h2⟩:=h.cons_of;obtain⟨a,b,c,d⟩:=Au h2;refine⟨by rw[VX,TF,a],by rw[VX,TF,b],by rw[VX,Tz,c,Tz],fun yk hm=>?_⟩;rw[VX] at hm;rcases TD.mp hm with rfl|hm
  ·exact h1
  ·exact d yk hm
theorem mW:∀ {zks:List (V×List Int)},(∀yk∈zks,Den K S (wV yk.2) yk.1)->Dens K S ((zks.map (·.2)).map wV) (zks.map (·.1))
 |[],_=>.nil
 |yk::zks,h=>.cons (h yk Tx) (mW fun z hz=>h z (TC _ hz))
theorem GT:SRF K (Bu K) eI:=fun S H vs ds g Q s d q k=>by
 unfold eI at q;split at q
 ·rename_i l;split at q
  ·rename_i hl;obtain⟨v,rfl,d1⟩:=fD d;obtain⟨p,xs,rfl,h1,h2⟩:=d1.lst s;cases qi:aY l with
   |some ns=>
    rw[qi] at q;cases q;obtain⟨e1,e2⟩:=g9 h2 qi;subst e1 e2;refine .inl ⟨p,ns,rfl,.inl h1,by rw[Tt] at hl;exact hl,fun ms a pm pw ha=>?_⟩;rw[Dc pm pw];refine k a _ _ (Ext.own s ha) ha aH ?_;have key:∀ns:List Int,Dens K S (ns.map D.int) (ns.map V.int):=by
     intro ns;induction ns with
     |nil=>exact .nil
     |cons n ns ih=>exact .cons (den_int.mpr rfl) ih
    exact key _
   |none=>
    rw[qi] at q;dsimp only at q;cases qk:keys l with
    |none=>rw[qk] at q;cases q
    |some ks=>
     rw[qk] at q;cases q;obtain⟨e1,e2⟩:=DU qk;subst e1;obtain⟨a,b,c,dd⟩:=Au h2;refine .inr ⟨p,xs.zip ks,rfl,by rw[a];exact .inl h1,by rw[c];rw[Tt] at hl;exact hl,fun yk hm=>?_,fun zks l pm pw hl=>?_⟩
     ·obtain⟨q,ys,e,g1,g2⟩:=iy (dd yk hm);have:=uD g2;subst this;refine⟨q,e,aQ s g1,e2 _ ?_⟩;rw[<- b];exact Ty.mpr ⟨yk,hm,rfl⟩
     ·have e:zks.map (·.2)=iU ks:=by
       refine De ?_ ?_
       ·rw[<- b];exact pm.map _
       ·rw[Um];exact pw
      have dz:Dens K S ((zks.map (·.2)).map wV) (zks.map (·.1)):=mW fun yk hm=>dd yk (pm.mem_iff.mp hm);rw[e] at dz;exact k l _ _ (Ext.own s hl) hl aH dz
  ·cases q
 ·cases q
end
noncomputable def xy:D->D->Option D:=dI fun i j=>some (.int (i+j))
section
variable {K:W.Frag}
theorem Lg:SR2 K (ipI fun i j=>i+j) xy:=Ja (g:=fun i j=>.int (i+j)) fun i j d h=>by cases h;rfl
end
theorem N5  {ta:TE}  (ha:SQ K ta a):ST K (Q4 K ta) (wW a):=fun ρ σ S H Q b r x k=>by
 unfold wW at x;cases qa:a ρ with
 |none=>rw[qa] at x;cases x
 |some da=>rw[qa] at x;exact ha ρ σ S H _ da r qa fun v S1 H1 z1 d1=>⟨b,Oi (Same.refl H1) (.inl d1) x,k S1 H1 z1⟩
theorem j8 (g:XG)(m:XS)(d:D)(l:List D)(ρ:Env):bE g m (d::l) ρ=(g d ρ).bind fun ρ1=>match m ρ1 with
  |some (.nx ρ2)=>bE g m l ρ2
  |some (.ct ρ2)=>bE g m l ρ2
  |some (.bk ρ2)=>some (.nx ρ2)
  |some (.rt d)=>some (.rt d)
  |some (.ro d)=>some (.ro d)
  |none=>none:=rfl
theorem xV {α:Type}{g:XG}{m:XS}(enc:α->D)(P:List α->Env->Prop)(R:D->Prop)(B:Env->Prop)(l:List α)(ρ0:Env)(h0:P [] ρ0)
  (step:∀pre a post ρ,l=pre++a::post->P pre ρ->∃ρ1 o,g (enc a) ρ=some ρ1/\m ρ1=some o/\(match o with|.nx ρ2=>P (pre++[a]) ρ2|.ct ρ2=>P (pre++[a]) ρ2|.bk ρ2=>B ρ2|.rt d=>R d|.ro _=>False)) :
  ∃o,bE g m (l.map enc) ρ0=some o/\(match o with|.nx ρ'=>P l ρ'\/B ρ' | .rt d=>R d|_=>False):=by
 have key:∀(post pre:List α) (ρ:Env),l=pre++post->P pre ρ->∃o,bE g m (post.map enc) ρ=some o/\(match o with|.nx ρ'=>P l ρ'\/B ρ' | .rt d=>R d|_=>False):=by
  intro post;induction post with
  |nil=>
   intro pre ρ e p;rw[Ue] at e;subst e;exact⟨_,rfl,.inl p⟩
  |cons a post ih=>
   intro pre ρ e p;obtain⟨ρ1,o,h1,h2,h3⟩:=step pre a post ρ e p;rw[TF,j8,h1];dsimp only[Option.bind];rw[h2];cases o with
   |nx ρ2=>exact ih (pre++[a]) ρ2 (by rw[e,T8];rfl) h3
   |ct ρ2=>exact ih (pre++[a]) ρ2 (by rw[e,T8];rfl) h3
   |bk ρ2=>exact⟨_,rfl,.inr h3⟩
   |rt d=>exact⟨_,rfl,h3⟩
   |ro d=>exact h3.elim
 exact key l [] ρ0 rfl h0
theorem aS {α:Type}{g:XG}{m:XS}(enc:α->D)(P:List α->Env->Prop)(l:List α)(ρ0:Env)(h0:P [] ρ0)
  (step:∀pre a post ρ,l=pre++a::post->P pre ρ->∃ρ1 ρ2,g (enc a) ρ=some ρ1/\(m ρ1=some (.nx ρ2)\/m ρ1=some (.ct ρ2))/\P (pre++[a]) ρ2) :
  ∃ρ',bE g m (l.map enc) ρ0=some (.nx ρ')/\P l ρ':=by
 obtain⟨o,h1,h2⟩:=xV (g:=g) (m:=m) enc P (fun _=>False) (fun _=>False) l ρ0 h0 fun pre a post ρ e p=>by
  obtain⟨ρ1,ρ2,k1,k2,k3⟩:=step pre a post ρ e p;rcases k2 with k2|k2
  ·exact⟨ρ1,_,k1,k2,k3⟩
  ·exact⟨ρ1,_,k1,k2,k3⟩
 cases o with
 |nx ρ'=>exact⟨ρ',h1,h2.elim id False.elim⟩
 |rt d=>exact h2.elim
 |ro d=>exact h2.elim
 |bk ρ'=>exact h2.elim
 |ct ρ'=>exact h2.elim
noncomputable def cU (g:XG)(c:XT)(e:XE)(ρ0:Env)(d:D):Option (Option D):=(g d ρ0).bind fun ρ1=>(c ρ1).bind fun b=>if b=true then (e ρ1).map some else some none
theorem iu {α:Type}     (enc:α->D)(f:α->Option D):∀(l:List α),(∀a∈l,cU g c e ρ0 (enc a)=some (f a))->a6 g c e ρ0 (l.map enc)=some (l.filterMap f)
 |[],_=>rfl
 |a::l,h=>by
  have ih:=iu (g:=g) (c:=c) (e:=e) (ρ0:=ρ0) enc f l fun b hb=>h b (TC _ hb);have h1:=h a Tx;unfold cU at h1;rw[TF,a6];cases q1:g (enc a) ρ0 with
  |none=>rw[q1] at h1;cases h1
  |some ρ1=>
   rw[q1] at h1;dsimp only[Option.bind] at h1 ⊢;cases q2:c ρ1 with
   |none=>rw[q2] at h1;cases h1
   |some b=>
    rw[q2] at h1;dsimp only at h1 ⊢;cases b with
    |false=>
     rw[To (by decide)] at h1 ⊢;rw[ih,U6];have:f a=none:=(T6 h1).symm;rw[this]
    |true=>
     rw[Tn rfl] at h1 ⊢;cases q3:e ρ1 with
     |none=>rw[q3] at h1;cases h1
     |some y=>rw[q3] at h1;have:f a=some y:=(T6 h1).symm;rw[ih,U6,this];rfl
theorem aN {α:Type}    (enc:α->D)(f:α->D)(l:List α)(h:∀a∈l,cU g bw e ρ0 (enc a)=some (some (f a))):a6 g bw e ρ0 (l.map enc)=some (l.map f):=by rw[iu enc (fun a=>some (f a)) l h];exact TQ some (congrFun List.filterMap_eq_map' l)
theorem ko {c:XT}{m:XS}(P:Env->Prop)(μ:Env->Nat)(E:Env->Prop)(step:∀ρ,P ρ->(c ρ=some false/\E ρ)\/(c ρ=some true/\∃ρ2,m ρ=some (.nx ρ2)/\P ρ2/\μ ρ2<μ ρ))(ρ0:Env)(h0:P ρ0):∃ρ',dg c m ρ0=some (.nx ρ')/\E ρ':=by
 have key:∀(n:Nat) (ρ:Env),μ ρ=n->P ρ->∃ρ',dg c m ρ=some (.nx ρ')/\E ρ':=by
  intro n;induction n using Nat.strongRecOn with
  |ind n ih=>
   intro ρ hn p;rcases step ρ p with ⟨h1,h2⟩|⟨h1,ρ2,h2,h3,h4⟩
   ·exact⟨ρ,vY h1,h2⟩
   ·obtain⟨ρ',k1,k2⟩:=ih (μ ρ2) (by lia) ρ2 rfl h3;exact⟨ρ',sn h1 h2 k1,k2⟩
 exact key _ ρ0 rfl h0
noncomputable abbrev prD (p:Int×Int):D:=.tup [.int p.1,.int p.2]
noncomputable abbrev bI (r:List (Int×Int)):D:=.tup (r.map prD)
noncomputable abbrev CK (r:List (Int×Int)):D:=.lst (r.map prD)
@[simp] theorem gu {α:Type}(l:List α)(x:α):atI (l++[x]) (-1)=some x:=by
 unfold atI ixN;rw[To (by decide),Tu,TY,Tn (by lia)];have:((-1:Int)+((l.length+1:Nat):Int)).toNat=l.length:=by lia
 dsimp only[Option.bind];rw[this];simp
theorem eM {α:Type}{l:List α}{j:Nat}{x:α}(h:l[j]?=some x):atI l (j:Int)=some x:=by have:=(TR.mp h).1;unfold atI ixN;rw[Tn (by lia),Tn (by lia)];dsimp only[Option.bind];rw[VY];exact h
@[simp] theorem yi (l:List O)(x:O)(f:O->O):vp (l++[x]) (-1) f=l++[f x]:=by
 unfold vp ixN;rw[To (by decide),Tu,TY,Tn (by lia)];have:((-1:Int)+((l.length+1:Nat):Int)).toNat=l.length:=by lia
 dsimp only;rw[this];simp
@[simp] theorem Ox {α:Type}(l:List α)(a b:α):atI (l++[a,b]) (-1)=some b:=by have:=gu (l++[a]) b;rw[T8] at this;exact this
@[simp] theorem Qp {α:Type}(a:α):atI [a] (-1)=some a:=gu [] a
@[simp] theorem Ny (l:List O)(a b:O)(f:O->O):vp (l++[a,b]) (-1) f=l++[a,f b]:=by have:=yi (l++[a]) b f;rw[T8,T8] at this;exact this
@[simp] theorem Pl (a:O)(f:O->O):vp [a] (-1) f=[f a]:=yi [] a f
@[simp] theorem OT (i:Int):qB (.int i)=some (.int i):=rfl
@[simp] theorem Qr (i:Bool):qB (.bl i)=some (.bl i):=rfl
@[simp] theorem OV (i:Str):qB (.str i)=some (.str i):=rfl
@[simp] theorem OU:qB .non=some .non:=rfl
@[simp] theorem Qw (a b:O)(f:O->O):vp [a,b] 1 f=[a,f b]:=rfl
theorem lB {n:Nat}:ixN (n+1) (-1)=some n:=by unfold ixN;rw[To (by decide),Tn (by lia)];congr 1;lia
section
variable (i j:Int)(a b:List D)(neg:Bool)(ρ:Env)
@[simp] theorem Se:eY (.int i) (.int j)=some (.int (i-j)):=rfl
@[simp] theorem RX:aP (.int i) (.int j)=some (.int (i+j)):=rfl
@[simp] theorem Q5:xy (.int i) (.int j)=some (.int (i+j)):=rfl
@[simp] theorem Tb:dLt (.int i) (.int j)=some (.bl (decide (i<j))):=rfl
@[simp] theorem Ta:dLe (.int i) (.int j)=some (.bl (decide (i<=j))):=rfl
@[simp] theorem S9:dGt (.int i) (.int j)=some (.bl (decide (j<i))):=rfl
@[simp] theorem S8:dGe (.int i) (.int j)=some (.bl (decide (j<=i))):=rfl
@[simp] theorem Sa:cJ (.int i)=some (.int (-i)):=rfl
@[simp] theorem Oq {i j:Int}(h:-18446744073709551616<j/\j<18446744073709551616):qv (.int i) (.int j)=some (.int (i * j)):=dq (.inr h)
@[simp] theorem JR {i j:Int}(h:-18446744073709551616<i/\i<18446744073709551616):qv (.int i) (.int j)=some (.int (i * j)):=dq (.inl h)
@[simp] theorem RY {i j:Int}(h:0<j/\j<1073741824):o3 (.int i) (.int j)=some (.int (i / j)):=dq h
@[simp] theorem Mb {i j:Int}(h:0<j):fQ (.int i) (.int j)=some (.int (i % j)):=dq h
@[simp] theorem Ev {i j:Int}(h:0<=j/\j<=1000000/\i.natAbs<18446744073709551616):E1 (.int i) (.int j)=some (.int (i ^ j.toNat)):=dq h
theorem Dp:aP (.lst a) (.lst b)=if a.length+b.length<=LIM then some (.lst (a++b)) else none:=rfl
theorem Dq:aP (.tup a) (.tup b)=if a.length+b.length<=LIM then some (.tup (a++b)) else none:=rfl
@[simp] theorem R0 (d:D):QI neg d .non=some (.bl (if neg then !uF d else uF d)):=rfl
@[simp] theorem Qh:uF .non=true:=rfl
@[simp] theorem Qi:uF (.int i)=false:=rfl
@[simp] theorem Qj:uF (.tup a)=false:=rfl
@[simp] theorem R5:dIx (.lst a) (.int i)=atI a i:=rfl
@[simp] theorem R7:dIx (.tup a) (.int i)=atI a i:=rfl
@[simp] theorem R6:dIx (.scr a) (.int i)=atI a i:=rfl
@[simp] theorem Rp:BW (.lst a)=some (!a.isEmpty):=rfl
@[simp] theorem Rs:BW (.tup a)=some (!a.isEmpty):=rfl
@[simp] theorem Rr:BW (.scr a)=some (!a.isEmpty):=rfl
@[simp] theorem Rm (x:Bool):BW (.bl x)=some x:=rfl
@[simp] theorem Ro:BW (.int i)=some (i != 0):=rfl
@[simp] theorem Rq:BW .non=some false:=rfl
@[simp] theorem Rb:gS [.lst a]=some (.int a.length):=rfl
@[simp] theorem Re:gS [.tup a]=some (.int a.length):=rfl
@[simp] theorem Rc:gS [.scr a]=some (.int a.length):=rfl
@[simp] theorem Rt:eN [.lst a]=some (.tup a):=rfl
@[simp] theorem Ru:eN [.tup a]=some (.tup a):=rfl
@[simp] theorem Rf:GR [.lst a]=some a:=rfl
@[simp] theorem Rh:GR [.tup a]=some a:=rfl
@[simp] theorem Rg:GR [.scr a]=some a:=rfl
@[simp] theorem R8:xi [.int i,.int j]=some (.int (if j > i then j else i)):=rfl
@[simp] theorem R9:rM [.int i,.int j]=some (.int (if j<i then j else i)):=rfl
@[simp] theorem RZ:Ca [.int i]=some (.int i):=rfl
@[simp] theorem Q6 (x:Bool):Ca [.bl x]=some (.int (if x then 1 else 0)):=rfl
@[simp] theorem Ri:wN (.lst a)=some a:=rfl
@[simp] theorem Rk:wN (.tup a)=some a:=rfl
@[simp] theorem Rj:wN (.scr a)=some a:=rfl
@[simp] theorem Sb (lo hi:Option Int):dSl (.lst a) lo hi=some (.lst (iw a lo hi)):=rfl
@[simp] theorem Sd (lo hi:Option Int):dSl (.tup a) lo hi=some (.tup (iw a lo hi)):=rfl
@[simp] theorem Sc (lo hi:Option Int):dSl (.scr a) lo hi=some (.lst (iw a lo hi)):=rfl
@[simp] theorem S7 (y:XGs):aF y (.tup a) ρ=y a ρ:=rfl
@[simp] theorem SZ (x:XG)(y:XGs)(d:D):aj x y (d::a) ρ=(x d ρ).bind (y a):=rfl
@[simp] theorem S6:aE [] ρ=some ρ:=rfl
@[simp] theorem Q8:qf [.int i,.ty "int"]=some (.bl true):=rfl
@[simp] theorem Q7:qf [.int i,.ty "bool"]=some (.bl false):=rfl
@[simp] theorem Ra:qf [.tup a,.ty "tuple"]=some (.bl true):=rfl
@[simp] theorem Q9:qf [.lst a,.ty "list"]=some (.bl true):=rfl
@[simp] theorem Qz (x:Bool):qf [.bl x,.ty "bool"]=some (.bl true):=rfl
theorem Os {j:Int}(h:0<=j/\j<1000000):Eh [.int 0,.int j,.int 2]=some (fg 0 ((j+1) / 2).toNat):=dq ⟨rfl,rfl,h⟩
theorem Qk {j:Int}(h:j<1000000 /\ -1000000<j):rg [.int j]=some (dr 0 j.toNat):=dq h
end
noncomputable abbrev owl (l:List D):Sl:=.ow (.lst (l.map O.sh))
@[simp] theorem Pj (os:List O):IC (.ow (.lst os))=(shs os).map D.lst:=rfl
@[simp] theorem Qy:shs []=some []:=rfl
@[simp] theorem BH (d:D)(l:List O):shs (.sh d::l)=(shs l).map fun r=>d::r:=rfl
@[simp] theorem Qa (l:List D):shs (l.map O.sh)=some l:=tJ l
@[simp] theorem Js {α:Type}(f:α->D)(l:List α):shs (l.map (O.sh∘f))=some (l.map f):=by rw[<- TU];exact tJ _
@[simp] theorem Qb {α:Type}(f:α->D)(l:List α):shs (l.map fun a=>O.sh (f a))=some (l.map f):=Js f l
@[simp] theorem Lm:∀(a b:List O),shs (a++b)=(shs a).bind fun x=>(shs b).map fun y=>x++y
 |[],b=>by cases h:shs b<;>simp[h]
 |.sh d::a,b=>by
  rw[List.cons_append,BH,BH,Lm a b];cases shs a with
  |none=>rfl
  |some x=>cases shs b<;>rfl
 |.dic _::_,_=>rfl
 |.hd _ _ _::_,_=>rfl
 |.lst _::a,b=>rfl
 |.tup _::a,b=>rfl
@[simp] theorem Qd (o:O):d7 o []=some o:=by unfold d7;rfl
@[simp] theorem Qc (l:List O)(k:Int)(r:List Int):d7 (.lst l) (k::r)=(atI l k).bind fun o=>d7 o r:=rfl
@[simp] theorem Qe (l:List O)(k:Int)(r:List Int):d7 (.tup l) (k::r)=(atI l k).bind fun o=>d7 o r:=rfl
@[simp] theorem Po (o q:O):jQ o [] q=q:=by unfold jQ;rfl
@[simp] theorem Pm (l:List O)(k:Int)(r:List Int)(q:O):jQ (.lst l) (k::r) q = .lst (vp l k fun o=>jQ o r q):=rfl
@[simp] theorem Pp (l:List O)(k:Int)(r:List Int)(q:O):jQ (.tup l) (k::r) q = .tup (vp l k fun o=>jQ o r q):=rfl
@[simp] theorem QD (d:D):O.d (.sh d)=d:=by unfold O.d;rfl
@[simp] theorem Qn (l:List O):O.d (.lst l) = .lst (O.ds l):=by rw[O.d]
@[simp] theorem Qo (l:List O):O.d (.tup l) = .tup (O.ds l):=by rw[O.d]
@[simp] theorem OE:O.ds []=[]:=by rw[O.ds]
@[simp] theorem EF (o:O)(l:List O):O.ds (o::l)=o.d::O.ds l:=by rw[O.ds]
@[simp] theorem GJ:∀(a b:List O),O.ds (a++b)=O.ds a++O.ds b
 |[],b=>by simp
 |o::a,b=>by simp[GJ a b]
@[simp] theorem z9:∀l:List D,O.ds (l.map O.sh)=l
 |[]=>by simp
 |d::l=>by simp[z9 l]
@[simp] theorem Ow {α:Type}(f:α->D)(l:List α):O.ds (l.map (O.sh∘f))=l.map f:=by rw[<- TU];exact z9 _
@[simp] theorem RL {α:Type}(a b:α):atI [a,b] 0=some a:=rfl
@[simp] theorem RM {α:Type}(a b:α):atI [a,b] 1=some b:=rfl
@[simp] theorem RN {α:Type}(a b c:α):atI [a,b,c] 0=some a:=rfl
@[simp] theorem RP {α:Type}(a b c:α):atI [a,b,c] 1=some b:=rfl
@[simp] theorem RQ {α:Type}(a b c:α):atI [a,b,c] 2=some c:=rfl
theorem fT:LIM=1000000:=by unfold LIM;rfl
@[simp] theorem SH:(0:Nat)<=LIM:=T2 _
@[simp] theorem SK:(1:Nat)<=LIM:=by rw[fT];decide
@[simp] theorem SL:(2:Nat)<=LIM:=by rw[fT];decide
@[simp] theorem SM:(3:Nat)<=LIM:=by rw[fT];decide
@[simp] theorem SN:(4:Nat)<=LIM:=by rw[fT];decide
@[simp] theorem SR:(5:Nat)<=LIM:=by rw[fT];decide
@[simp] theorem SU:(6:Nat)<=LIM:=by rw[fT];decide
@[simp] theorem SV:(7:Nat)<=LIM:=by rw[fT];decide
@[simp] theorem SW:(8:Nat)<=LIM:=by rw[fT];decide
@[simp] theorem SY:(9:Nat)<=LIM:=by rw[fT];decide
@[simp] theorem RV:(10:Nat)<=LIM:=by rw[fT];decide
@[simp] theorem RU:(0:Nat)<LIM:=by rw[fT];decide
theorem MF (p q:Int×Int):eqD (prD p) (prD q)=decide (p=q):=by obtain⟨a,b⟩:=p;obtain⟨c,d⟩:=q;simp[prD,eqD,eqDs,Prod.ext_iff];by_cases h1:a=c<;>by_cases h2:b=d<;>simp[h1,h2]
theorem Ax:∀r t:List (Int×Int),eqDs (r.map prD) (t.map prD)=decide (r=t)
 |[],[]=>rfl
 |[],_::_=>by simp[eqDs]
 |_::_,[]=>by simp[eqDs]
 |p::r,q::t=>by rw[TF,TF,eqDs,MF,Ax r t];by_cases h1:p=q<;>by_cases h2:r=t<;>simp[h1,h2]
theorem Kk (r t:List (Int×Int)):eqD (bI r) (bI t)=decide (r=t):=by unfold bI;rw[eqD,Ax]
theorem u5 (n:Nat):∀r:List (Int×Int),okDs (n+1) (r.map prD)=true
 |[]=>by simp[okDs]
 |p::r=>by rw[TF,okDs,u5 n r];simp[prD,okD,okDs]
theorem Ea (r:List (Int×Int)):okD 50 (bI r)=true:=by unfold bI;rw[okD];exact u5 48 r
theorem Ki (neg:Bool)(r t:List (Int×Int)):dEq neg (bI r) (bI t)=some (.bl (if neg then !decide (r=t) else decide (r=t))):=by unfold dEq;rw[Tn ⟨Ea r,Ea t⟩,Kk]
@[simp] theorem Qq (neg:Bool)(i j:Int):dEq neg (.int i) (.int j)=some (.bl (if neg then !decide (i=j) else decide (i=j))):=by
 unfold dEq;rw[Tn ⟨by simp[okD],by simp[okD]⟩];have:eqD (.int i) (.int j)=decide (i=j):=by simp[eqD];by_cases h:i=j<;>simp[h]
 rw[this]
@[simp] theorem QH (neg:Bool)(i j:Bool):dEq neg (.bl i) (.bl j)=some (.bl (if neg then !decide (i=j) else decide (i=j))):=by
 unfold dEq;rw[Tn ⟨by simp[okD],by simp[okD]⟩];have:eqD (.bl i) (.bl j)=decide (i=j):=by simp[eqD];by_cases h:i=j<;>simp[h]
 rw[this]
theorem qw:∀ns:List Int,Dens K S (ns.map D.int) (ns.map V.int)
 |[]=>.nil
 |n::ns=>.cons (den_int.mpr rfl) (qw ns)
theorem Gf    {ns:List Int}{m:List D->Option O}  (hS:SqL K H a (ns.map V.int))(h:(m [.scr (ns.map D.int)]).map O.d=some (.bl true)):bz K 1 m [.ref a] H (fun v _=>v = .bl true) E:=by
 cases q:m [.scr (ns.map D.int)] with
 |none=>rw[q] at h;cases h
 |some o=>
  rw[q] at h;have e:o.d = .bl true:=T6 h;exact⟨rfl,H,[.scr (ns.map D.int)],o,Same.refl _,.cons (den_scr.mpr ⟨a,_,rfl,hS,qw ns⟩) .nil,q,fun v fp S' H' z ow _ _=>by
   have dv:=ow.denH z.sub;rw[e] at dv
   exact den_bl.mp dv⟩
end M
namespace L2
open PySem PySem.Spec PyProof.Rows
theorem GV:bootBuiltins "len" = some (.builtin "len"):=by decide +kernel
theorem jJ:bootBuiltins "sorted" = some (.builtin "sorted"):=by decide +kernel
theorem GW:bootBuiltins "max" = some (.builtin "max"):=by decide +kernel
theorem Cb:bootBuiltins "min" = some (.builtin "min"):=by decide +kernel
theorem Cc:bootBuiltins "sum" = some (.builtin "sum"):=by decide +kernel
theorem wg:bootBuiltins "isinstance" = some (.builtin "isinstance"):=by decide +kernel
theorem gv:bootBuiltins "tuple" = some (.type "tuple"):=by decide +kernel
theorem Dz:bootBuiltins "list" = some (.type "list"):=by decide +kernel
theorem GU:bootBuiltins "int" = some (.type "int"):=by decide +kernel
theorem Kf:bootBuiltins "bool" = some (.type "bool"):=by decide +kernel
section
variable {X:Cx}
theorem mt {K:W.Frag}{t T:String}(ht:t∈["NoneType", "bool", "int", "str", "list", "tuple"]) (hT:T∈["bool", "int", "str", "list", "tuple"]):W.kitOne K (.type t) (.type T)=some (M.Lx t T):=by simp only[TD,VI,or_false] at ht hT;rcases ht with rfl|rfl|rfl|rfl|rfl|rfl<;>rcases hT with rfl|rfl|rfl|rfl|rfl<;>kernel_rfl
theorem AU:∀a b:List Int,Srt.iG a b=HT.b7 a b
 |[],[]=>rfl
 |[],_::_=>rfl
 |_::_,[]=>rfl
 |x::xs,y::ys=>by rw[HT.CJ,<- AU xs ys];rfl
end
end L2
namespace Rev
open PySem
theorem M5:typeLookup (.type "list_reverseiterator") "__len__" = pure none:=by rw[Vd,Ve];kernel_rfl
theorem Hv:typeLookup (.type "list_reverseiterator") "__length_hint__" = pure (some (.builtin "list_reverseiterator.__length_hint__")):=by rw[Vd,Ve];kernel_rfl
section
variable {prog:Program}{w:World}{A:Around}{s:Shared}{R:Result->Shared->Prop}{I:Addr}{fp wr:List Addr}{G:Array GenState->Array GenState->Prop}{n:Nat}{P:Nat->Value->Prop}{St:Nat->Shared->Prop}
theorem Km (W:WalksS prog w A.in1 I fp wr G n P St)(hT:∀i s,St i s->s.TypeIs (.ref I) "list_reverseiterator") (S:Addr) (res:Value) (c₀:Nat) (hst:St 0 s) (hSf:S∉fp) (hI:I∈fp) (hS:s.heap.get? S=some { cls:=.type "list",data:=.seq #[] c₀ })
  (hR:∀s' acc' c',Moved (S::wr) G s s'->s'.heap.get? S=some { cls:=.type "list",dict:=none,data:=.seq acc' c',slots:=#[] }->ItemsOf P acc' n->R (.ok (.ret res)) s') (hn:n<=sizeLine) :
  wpAny (model prog w) A.in1 (Builtin.List.listExtendWith (.ref S) (.ref I) res) (fun fin s'=>match fin with|.done f=>R (.ok f) s' | .again c'=>c'.quiet=true/\codeAny (model prog w) A c' R s') (fun e s'=>R (.error e) s') s:=by
 have h1:Builtin.List.listSameRef (.ref S) (.ref I)=false:=by have:S≠I:=fun e=>hSf (e▸hI);simp[Builtin.List.listSameRef,this]
 unfold Builtin.List.listExtendWith;refine Tp (wpAny_typeOf (hT 0 _ hst) ?_);rw[To (by rw[h1];decide)];refine Tp (W.self 0 _ _ _ hst (Tp (UL ?_)));unfold Builtin.List.listLengthHint;refine Tp (VZ (hT 0 _ hst) M5 ?_);show wpAny (model prog w) A.in1 (specialOf (.ref I) (Str.ofString "__length_hint__") >>= _) _ _ s;refine Tp (VZ (hT 0 _ hst) Hv ?_);generalize hid:("list_reverseiterator.__length_hint__" : String)=id0;(fail_if_success (clear hid id0));wp_delta;rw[show splitId id0=some ("list_reverseiterator", "__length_hint__") from by subst hid;decide +kernel];subst hid;refine Tp (Wh (T := "list_reverseiterator") (b:=true) (hT 0 _ hst) (by rw[Vp];kernel_rfl) (Tv ?_));rw[To (by decide)];refine Tv ⟨plainId_quiet F.plain_extend_loop _,codeAny_extend_loopS W hn _ hSf _ n 0 _ _ _ rfl (T2 _) hst hS (ItemsOf.nil P) fun s' acc' c' hm hS' hacc=>hR s' acc' c' hm hS' hacc⟩
theorem HB (W:WalksS prog w A.in1 I fp wr G n P St)(hT:∀i s,St i s->s.TypeIs (.ref I) "list_reverseiterator") (S:Addr) (hst:St 0 s) (hSf:S∉fp) (hI:I∈fp) (hS:s.heap.get? S=some { cls:=.type "list",data:=.seq #[] })
  (hR:∀s' acc' c',Moved (S::wr) G s s'->s'.heap.get? S=some { cls:=.type "list",dict:=none,data:=.seq acc' c',slots:=#[] }->ItemsOf P acc' n->R (.ok (.ret .none)) s') (hn:n<=sizeLine) :
  wpAny (model prog w) A.in1 (Builtin.«list.__init__» ⟨[.ref S,.ref I],[]⟩) (fun fin s'=>match fin with|.done f=>R (.ok f) s' | .again c'=>c'.quiet=true/\codeAny (model prog w) A c' R s') (fun e s'=>R (.error e) s') s:=by
 have oth:∀b o,b≠S->s.heap.get? b=some o->(s.heap.update S (Obj.mapSeq (fun _=>(#[]:Array Value)))).get? b=some o:=fun b o hb e=>by rw[Wt _ _ (T9 hb),e]
 have at2:=VO (Obj.mapSeq (fun _=>(#[]:Array Value))) hS rfl;show wpAny (model prog w) A.in1 (do let old ← Builtin.List.listItems (.ref S);Builtin.List.listUpdate (.ref S) (fun _=>#[]);letGo old.toList.reverse;Builtin.List.listExtendWith (.ref S) (.ref I) .none) _ _ s;refine Tp ?_;unfold Builtin.List.listItems;refine Tp (wpAny_seqItems hS rfl (Tv ?_));show wpAny (model prog w) A.in1 (updateSeq S (fun _=>#[]) >>= fun _=>letGo (#[]:Array Value).toList.reverse >>= fun _=>Builtin.List.listExtendWith (.ref S) (.ref I) .none) _ _ s;refine Tp (wpAny_updateSeq hS rfl (Tp (wpAny_letGo ?_)));refine Km W hT S .none _ (W.frame 0 s _ s.toks hst (Tw _) fun b hb o e=>oth b o (fun h=>hSf (h▸hb)) e) hSf hI at2 (fun s' acc' c' hm hS' hacc=>?_) hn;exact hR s' acc' c' (Moved.trans W.gtrans ((Moved.refl W.grefl).then_heap (Tw _) fun b o hb e=>oth b o (fun h=>hb (by rw[h];exact Tx)) e) hm) hS' hacc
end
section
variable {prog:Program}{w:World}{A:Around}{E:Value->Shared->Prop}{s:Shared}{I:Addr}{fp wr:List Addr}{G:Array GenState->Array GenState->Prop}{n:Nat}{P:Nat->Value->Prop}{St:Nat->Shared->Prop}
theorem wj {Q:Value->Shared->Prop}(W:WalksS prog w A.in1.in1 I fp wr G n P St)(hT:∀i s,St i s->s.TypeIs (.ref I) "list_reverseiterator") (hst:St 0 s) (hfp:∀b∈fp,b<s.heap.objs.size) (hI:I∈fp)
  (hQ:∀s' acc' c',Moved (s.heap.objs.size::wr) G { s with heap:=s.heap.push { cls:=.type "list",data:=.seq #[] } } s'->s'.heap.get? s.heap.objs.size=some { cls:=.type "list",dict:=none,data:=.seq acc' c',slots:=#[] }->ItemsOf P acc' n->Q (.ref s.heap.objs.size) s') (hn:n<=sizeLine) :
  wpAny (model prog w) A (call (.type "list") [.ref I]) Q E s:=by
 have nf:s.heap.objs.size∉fp:=fun hm=>absurd (hfp _ hm) (UH _);refine callType_codes (Q₁:=fun obj s₁=>obj = .ref s.heap.objs.size/\s₁={ s with heap:=s.heap.push { cls:=.type "list",data:=.seq #[] } }) F.called_list (F.typeCall_list_1 (.ref I)) F.entry_list_init (code_list_new _ ⟨rfl,rfl⟩) (fun obj s₁ h₁=>?_);obtain⟨rfl,rfl⟩:=h₁;have at1:(s.heap.push { cls:=.type "list",data:=.seq #[] }).get? s.heap.objs.size=some { cls:=.type "list",data:=.seq #[] }:=TZ _ rfl;refine⟨⟨_,at1,rfl⟩,F.args_list_init_2 _ _,HB W hT _ (W.frame 0 s _ s.toks hst (Tw _) fun b _ o e=>TK _ e) nf hI at1 (fun s' acc' c' hm hS' hacc=>⟨rfl,hQ s' acc' c' hm hS' hacc⟩) hn⟩
end
end Rev
namespace L2
open PySem PySem.Spec PyProof.Rows
theorem rO:bootBuiltins "reversed" = some (.type "reversed"):=by decide +kernel
section
variable {X:Cx}{tg:Expr}
theorem vg  {tl:TE}(hl:PE X l tl):PI X tg l (MP X.K tl):=by
 intro pins s σ H R I h;refine thn (hl pins s σ H _ I h) fun v s1 h1=>?_;obtain⟨x,H1,I1,r1,a,e,q⟩:=h1;subst e;cases r1;rcases q with ⟨⟨xs,hq⟩,q⟩|⟨⟨xs,hq⟩,q⟩
 ·obtain⟨its,rv,p,hz⟩:=I1.list hq;refine wpAny_pyIter_list p.isList ⟨s1.heap.objs.size,[s1.heap.objs.size],_,_,H1,rfl,I1.kept (t':=s1.toks) fun b o e=>TK _ e,Gk a _,⟨_,TZ _ rfl,rfl,rfl⟩,fun b hb=>?_,q⟩;rw[Ts.mp hb];exact I1.fpOk (Tw _) I1.fresh
 ·obtain⟨its,rv,p,hz⟩:=I1.tuple hq;refine wpAny_pyIter_tuple (show s1.heap.IsTuple a its.toArray from p) ⟨s1.heap.objs.size,[s1.heap.objs.size],_,_,H1,rfl,I1.kept (t':=s1.toks) fun b o e=>TK _ e,Dk a _,⟨_,TZ _ rfl,rfl,rfl⟩,fun b hb=>?_,q⟩;rw[Ts.mp hb];exact I1.fpOk (Tw _) I1.fresh
noncomputable def QY (K:W.Frag)(Q:VK):List V->Hp->Prop:=fun vs H1=>match vs with
 |[x]=>∃p ys,x = .ref p/\SqL K H1 p ys/\∀l,H1 l=none->Q (.ref l) (upd H1 l (.lst ys.reverse))
 |_=>False
theorem F1 {its:List Value}  (h:ItemsOf (fun i v=>its.toArray[its.toArray.size-1-i]?=some v) acc its.toArray.size):acc.toList=its.reverse:=by
 obtain⟨h1,h2⟩:=h;rw[TV] at h1;apply Wd
 ·rw[V0];simpa using h1
 ·intro i hi hj;have ha:acc[i]?=some acc[i]:=Wy (by simpa using hi);have:=h2 i _ ha;rw[TV] at this;have hl:its.length-1-i<its.length:=by rw[V0] at hj;lia
  have e:its[its.length-1-i]?=some acc[i]:=by simpa using this
  rw[Uf hl] at e;rw[List.getElem_reverse];simpa using (T6 e).symm
theorem C0  {ta:TE}{pl pr pos pos':Pos}(hl:X.mg "list" = none) (hrv:X.mg "reversed" = none) (ha:PE X a ta) (gl:Gl X "list" := by rfl) (gr:Gl X "reversed" := by rfl) (hc:X.calm=true:=by rfl)
  (he:starEach [.Call (.Name "reversed" pr) [a] [] pos'] X.env=(false,eval (.Call (.Name "reversed" pr) [a] [] pos') X.env)::starEach [] X.env:=by rfl) (he1:starEach [a] X.env=(false,eval a X.env)::starEach [] X.env:=by rfl)
  (hp0:(backTo pos (starEach [] X.env)).any (·.1)=false:=by rfl) (hp1:(backTo pos' (starEach [] X.env)).any (·.1)=false:=by rfl) :
  PE X (.Call (.Name "list" pl) [.Call (.Name "reversed" pr) [a] [] pos'] [] pos) (JK X.K ta):=by
 intro pins s σ H Q I h;have h':gJ ta rD σ H (QY X.K Q):=h;refine Vw (j7 I gl hl Dz (Vi ?_ he hp0));rw[he];show wpAny (model X.prog X.w) X.A (spliced ((false,eval (.Call (.Name "reversed" pr) [a] [] pos') X.env)::backTo pos (starEach [] X.env))) _ _ s;refine Calls.spliced_cons (Vw (j7 I gr hrv rO (Vi (thn (au ha aL he1 pos' pins s σ H _ I h') fun us s1 h1=>?_) he1 hp1)));obtain⟨vs,H1,I1,r1,q⟩:=h1
 match vs,r1,q with
 |[x],.cons rx .nil,⟨p,ys,e,hS,q⟩=>
  subst e;cases rx;obtain⟨its,rv,lp,hz⟩:=I1.list hS;refine call_reversed_list lp.isList (Calls.spliced_nil ?_);have pl1:p<s1.heap.objs.size:=by obtain⟨o,eo,_⟩:=lp.isList;exact TM eo
  have hd:X.A.in1.in1.handled=none:=I.ok.hd hc;have kp:∀b o,s1.heap.get? b=some o->(s1.heap.push (revObj p ((its.toArray.size:Int)-1))).get? b=some o:=fun b o e=>TK _ e;have lz:its.toArray.size<=sizeLine:=by rw[TV,<- rv.length];exact hz
  refine Rev.wj (s:={ s1 with heap:=s1.heap.push (revObj p ((its.toArray.size:Int)-1)) }) (Walks.listRev hd s1.heap.objs.size p (TX pl1) its.toArray).toS (fun i st hs=>hs.2.1.typeIs) ⟨T2 _,?_,?_⟩ (fun b hb=>?_) Tx (fun s' acc' c' mv at1 ho=>?_) lz
  ·refine⟨_,TZ _ rfl,rfl,?_⟩;show Data.fields _=_;rw[show (its.toArray.size:Int)-1-((0:Nat):Int)=(its.toArray.size:Int)-1 by simp]
  ·exact lp.isList.at fun o e=>kp _ _ e
  ·show b<(s1.heap.push _).objs.size;rw[UN];rcases TD.mp hb with rfl|hb
   ·exact U7 _
   ·rw[Ts.mp hb];exact VC pl1
  ·have ei:=F1 ho;have sz:(s1.heap.push (revObj p ((its.toArray.size:Int)-1))).objs.size=s1.heap.objs.size+1:=UN _ _;have old:∀b o,s1.heap.get? b=some o->s'.heap.get? b=some o:=fun b o e=>by
    have hb:=TM e;refine mv.heap b o (fun hm=>?_) (TK _ (kp b o e));rcases TD.mp hm with z|z
    ·rw[z] at hb;have hb':(s1.heap.push (revObj p ((its.toArray.size:Int)-1))).objs.size<s1.heap.objs.size:=hb;rw[sz] at hb';exact absurd hb' (Nat.not_lt.mpr (UO _))
    ·rw[Ts.mp z] at hb;exact absurd hb (UH _)
   obtain⟨h',g',d',t',o'⟩:=s';have e1:g'=s1.gens:=mv.gens;have e2:d'=s1.drawn:=mv.drawn;have e3:o'=s1.os:=mv.os;subst e1 e2 e3;have fr:s1.heap.objs.size<=(s1.heap.push (revObj p ((its.toArray.size:Int)-1))).objs.size:=by rw[sz];exact UO _
   have at2:h'.get? (s1.heap.push (revObj p ((its.toArray.size:Int)-1))).objs.size=some { cls:=.type "list",data:=.seq its.reverse.toArray c' }:=by
    have ea:acc'=its.reverse.toArray:=by rw[<- ei]
    rw[<- ea];exact at1
   refine⟨.ref (s1.heap.push (revObj p ((its.toArray.size:Int)-1))).objs.size,_,I1.laid (t':=t') old fr (o:=.lst ys.reverse) ⟨by rw[V0];exact hz,its.reverse,c',rv.reverse,at2⟩,rfl,q _ (I1.hok.fresh fr)⟩
end
section
variable {X:Cx}{tg:Expr}
theorem xK:∀ {vs:List Value} {ns:List Int},IntsAre vs ns->Vals (ns.map V.int) vs
 |_,_,.nil=>.nil
 |_,_,.cons n t h=>.cons ⟨t,rfl⟩ (xK h)
theorem call_sortedI:CallR X (.builtin "sorted") (Bt X.K):=by
 intro pins s σ H xs us Q I r h;obtain⟨p,ns,rfl,hS,h64,k⟩:=h;obtain⟨u,rfl,ru⟩:=r.one;cases ru;obtain⟨its,rv,pl,hz⟩:=I.list hS;have hI:IntsAre its ns:=iE rv;have hl:its.length=ns.length:=by have:=rv.length;rw[Tt] at this;exact this.symm
 refine Srt.zF pl.isList hI (by rw[Uj];lia) fun out ms ho perm pw=>?_;obtain⟨e,at1⟩:=sortedAll_at s.heap its out;have fresh:s.heap.objs.size<=s.heap.objs.size+1:=UO _;refine⟨.ref (s.heap.objs.size+1),upd H (s.heap.objs.size+1) (.lst (ms.map V.int)),I.laid (t':=s.toks) (fun b o hb=>sortedAll_old hb) fresh ?_,rfl,k ms _ perm pw (I.hok.fresh fresh)⟩;exact⟨by rw[Tt,perm.length_eq,Uj];lia,out.toList,e,xK ho,by simpa using at1⟩
theorem qu (hc:X.calm=true):CallR X (.builtin "sum") (L5 X.K):=by
 intro pins s σ H xs us Q I r h;obtain⟨p,ns,rfl,hS,q⟩:=h;obtain⟨u,rfl,ru⟩:=r.one;cases ru;obtain⟨its,rv,pl,hz⟩:=I.list hS;have hI:IntsAre its ns:=iE rv;obtain⟨ys,e⟩:=hI.allInts.items;have hl:=pl.isList;have en:ns=ys.toList.map (·.1):=by rw[<- nums_intItems,<- e];simpa using hI.numsOf.symm
 rw[e] at hl;refine sum_intListG (I.ok.hd hc) hl fun h' tk t' hk=>⟨.int ns.sum,H,I.kept hk,⟨t',?_⟩,q⟩
 rw[preSum_eq,VV (by simp),en]
theorem F7 {j:Int}(h0:0<=j)(h1:j<1000000):Builtin.Range.small 0 j 2=true:=by
 unfold Builtin.Range.small;rw[rangeSize_pos (by decide) h0];simp only[Builtin.Range.rangeFitsLong,Ul,Bool.or_eq_true,VP,Ur,show (2:Int) > 0 by decide,U8];have e:(2:Int) ^ 63=9223372036854775808:=by decide
 lia
theorem JP {P:Program}{w:World}{K:W.Frag}(it:Addr)(n:Nat):Turn P w K tg (Mi n) [it] it (fun i h=>IsRangeIter h it (0+(i:Nat) * 2) ((n:Int)-(i:Nat)) 2) where
 mem:=by simp
 obj:=fun i h st b hb=>by rw[Ts.mp hb];exact⟨_,st,fun v z=>by have z':Data.fields _=Data.cell v:=z;cases z'⟩
 keep:=fun i h h' st k=>k it (by simp) _ st
 item:=by intro X hP hw hK hc i pins s σ H E I hf st hg;subst hP hw hK;obtain⟨f0,f1,f2,f3,f4,f5⟩:=hf it (by simp);refine (Walks.range (prog:=X.prog) (w:=X.w) (I.ok.hd hc) it 0 2 n).item i s _ _ hg st fun v h' tk hv st' kk=>?_;obtain⟨t,rfl⟩:=hv;have I1:Inv X pins σ H { s with heap:=h',toks:=tk }:=I.turned (fun b o hb e=>kk b o (fun z=>hb (Ts.mp z)) e) f0 f1 f3 f4 f5;refine⟨_,rfl,uy (s:={ s with heap:=h',toks:=tk }) (n := "range_iterator") st' rfl rfl (by decide) ⟨.int (2 * i),H,I1,⟨t,?_⟩,⟨rfl,rfl⟩,st',fun b hb=>(hf b hb).1⟩⟩;rw[Int.zero_add,Int.mul_comm]
 done:=by intro X hP hw hK hc i pins s σ H E I hf st hg;subst hP hw hK;obtain⟨f0,f1,f2,f3,f4,f5⟩:=hf it (by simp);exact Wo (I.ok.hd hc) st (by have:n<=i:=hg;lia) fun h' eb=>⟨rfl,I.turned (t':=s.toks) (fun b o hb e=>eb b o hb e) f0 f1 f3 f4 f5⟩
 self:=fun _ _ _ _ _ st h=>Wp st h
theorem Om {pins:List (Addr×Obj)}    {R:It->Hp->Prop}  {j:Int}{t u v:Tok}{tk:Nat}(I:Inv X pins σ H s)(h1:0<=j)(h2:j<1000000)(q:R (Mi ((j+1) / 2).toNat) H) :
  wpAny (model X.prog X.w) X.A (pyIter (.ref s.heap.objs.size)) (PIE X pins σ tg R) E { s with heap:=s.heap.push { cls:=.type "range",data:=.fields #[.int 0 t,.int j u,.int 2 v] },toks:=tk }:=by
 refine wpAny_pyIter_range (IsRange.new ..) (F7 h1 h2) ?_;have I1:Inv X pins σ H { s with heap:=s.heap.push { cls:=.type "range",data:=.fields #[.int 0 t,.int j u,.int 2 v] },toks:=tk }:=I.kept fun b o e=>TK _ e;refine⟨(s.heap.push { cls:=.type "range",data:=.fields #[.int 0 t,.int j u,.int 2 v] }).objs.size,[(s.heap.push { cls:=.type "range",data:=.fields #[.int 0 t,.int j u,.int 2 v] }).objs.size],_,_,H,rfl,I1.kept (t':=tk) fun b o e=>TK _ e,JP _ ((j+1) / 2).toNat,?_,fun b hb=>?_,q⟩
 ·have e1:(0:Int)+((0:Nat):Int) * 2=0:=by simp
  have e2:((((j+1) / 2).toNat:Nat):Int)-((0:Nat):Int)=Builtin.Range.rangeSize 0 j 2:=by rw[rangeSize_pos (by decide) h1];lia
  show IsRangeIter _ _ (0+((0:Nat):Int) * 2) (((((j+1) / 2).toNat:Nat):Int)-((0:Nat):Int)) 2;rw[e1,e2];exact TZ _ rfl
 ·rw[Ts.mp hb];exact I1.fpOk (Tw _) I1.fresh
theorem FR {a b c:Expr}{ta:TA}{p pos:Pos}(hg:Gl X "range") (hm:X.mg "range" = none) (ha:PA X [a,b,c] ta) (hs:starEach [a,b,c] X.env=(false,eval a X.env)::starEach [b,c] X.env:=by rfl)
  (hp:(backTo pos (starEach [b,c] X.env)).any (·.1)=false:=by rfl):PI X tg (.Call (.Name "range" p) [a,b,c] [] pos) (LV ta):=by
 intro pins s σ H R I h;refine Call_ (j7 I hg hm boot_range (Vi (thn (ha pos pins s σ H _ I h) fun us s1 h1=>?_) hs hp));obtain⟨vs,H1,I1,r1,j,rfl,q1,q2,q⟩:=h1;cases r1 with
 |cons r rr=>
  cases rr with
  |cons r' rr=>
   cases rr with
   |cons r'' rr=>cases rr;obtain⟨t,rfl⟩:=r;obtain⟨t',rfl⟩:=r';obtain⟨t'',rfl⟩:=r'';exact call_range_3 (by decide) (Om I1 q1 q2 q)
end
end L2
namespace HT
open PySem PySem.Spec PyProof.Rows
section
variable {prog:Program}{w:World}{A:Around}{E:Value->Shared->Prop}{s:Shared}
theorem mE {t sl:Addr}{items:Array Value}{vl vu:Value}{lo hi:Option Int}{Q:Value->Shared->Prop}(ht:IsTup s.heap t items)(hs:s.heap.IsSliceOf sl vl vu .none)(pl:IsPart vl lo)(pu:IsPart vu hi)
  (hw:sIx items.size 0 lo=0/\sIx items.size items.size hi=items.size) (h:Q (.ref t) s):wpAny (model prog w) A (getItem (.ref t) (.ref sl)) Q E s:=by
 obtain⟨os,hos,hcs,hds⟩:=id hs;have hTs:s.TypeIs (.ref sl) "slice" := ⟨os,hos,hcs⟩
 unfold getItem;try with_reducible refine UL ?_
 first|refine Tp (Tv ?_)|skip
 refine Tp (wpAny_sequenceKey ht.typeIs (by decide) ?_)
 refine Tp (Vm (name:=Str.ofString "__getitem__") ht.typeIs Vz
  (UU Vz ht.typeIs entry_tuple_getitem ?_ (args_tuple_getitem _ _)))
 show wpAny _ _ (Builtin.Tuple.tupleItemsOf (.ref t) >>= _) _ _ s;refine Tp (tupleItemsOf_ ht ?_);refine Tp (wpAny_typeOf hTs ?_);rw[Tn (by decide)];refine Tp (jS hs pl pu ?_);have hyes:((((sIx items.size 0 lo:Nat):Int)==0&&(1:Int)==1&&(sIx items.size items.size hi-sIx items.size 0 lo)==items.size)=true):=by rw[hw.1,hw.2];simp
 show wpAny _ _ (if (((sIx items.size 0 lo:Nat):Int)==0&&(1:Int)==1&&(sIx items.size items.size hi-sIx items.size 0 lo)==items.size)=true then _ else _) _ _ s;rw[Tn hyes];refine Tp (m:=Builtin.Tuple.tupleIsExact _) (Tp (wpAny_typeOf ht.typeIs (Tv ?_)));rw[Tn (by decide)];exact Tp (UX (Tv ⟨_,rfl,Tv h⟩))
end
end HT
namespace L2
open PySem PySem.Spec PyProof.Rows M
theorem Inv.rdl  {pins:List (Addr×Obj)}     {xs:List V}(I:Inv X pins σ H s)(h:Rd H l (.lst xs)):xs.length<=sizeLine/\∃(its:List Value) (n:Nat),Vals xs its/\xs.length=its.length/\s.heap.get? l=some { cls:=.type "list",data:=.seq its.toArray n }:=by
 obtain⟨h1,its,n,r,e⟩:=(show ObjOk X.prog X.w H s.heap l (.lst xs) from h.ok I.hok)
 exact⟨h1,its,n,r,r.length,e⟩
section
variable {X:Cx}
theorem op_catM:OpR X (binaryOp .Add) L1:=by
 intro pins s σ H x y v u Q I rx ry h;obtain⟨l,b,xs,zs,rfl,rfl,hH,hB,hz,q⟩:=h;cases rx;cases ry;obtain⟨z,its,n,r,hl,e⟩:=I.rdl hH;obtain⟨z2,its2,n2,r2,hl2,e2⟩:=I.rdl hB;refine PySem.P.add_list e e2 ?_ (by rw[TV,TV];lia);have ea:its.toArray++its2.toArray=(its++its2).toArray:=by simp
 rw[ea];exact⟨.ref _,_,I.lnew (t':=s.toks) (r.append r2) (by rw[Tu];lia),rfl,q _ I.fresh⟩
theorem op_tupM:OpR X (binaryOp .Add) (L6 X.K):=by
 intro pins s σ H x y v u Q I rx ry h;obtain⟨a,b,xs,ys,rfl,rfl,ha,hb,hz,q1,q2,q⟩:=h;cases rx;cases ry;obtain⟨its,r1,p1,_⟩:=I.tuple ha;obtain⟨its2,r2,p2,_⟩:=I.tuple hb;have hz2:its.length+its2.length<=sizeLine:=by rw[<- r1.length,<- r2.length];exact hz
 by_cases hv:its=[]
 ·have hx:xs=[]:=r1.nil_iff.mp hv;obtain⟨⟨cls,dd,data,sl⟩,ho,hc,n,hd⟩:=id p1;obtain⟨⟨cls2,dd2,data2,sl2⟩,ho2,hc2,n2,hd2⟩:=id p2;simp only at hc hd hc2 hd2;subst hc hd hc2 hd2;exact concat_meets ⟨_,ho,rfl⟩ ⟨_,ho2,rfl⟩ noFill_tuple_add seq_tuple_add Wq Wr (Ws (.ref a) (.ref b)) (tuple_addW0 a b its.toArray its2.toArray n n2 dd dd2 sl sl2 (by simp[hv])) ⟨ho,ho2,⟨.ref b,H,I,rfl,q2 hx⟩⟩
 ·refine HT.Kg p1 p2 hv (fun z=>⟨.ref a,H,I,rfl,q1 (r2.nil_iff.mp z)⟩) (fun z=>?_) hz2;refine⟨.ref s.heap.objs.size,_,I.laid (t':=s.toks) (o:=.tup (xs++ys)) (fun b ob e=>TK _ e) (Tw _) ?_,rfl,q _ (I.hok.fresh (Tw _))⟩;exact⟨by rw[Tu];exact hz,_,r1.append r2,IsTup.new _ _⟩
theorem KS:OpR X (binaryOp .Add) L4:=CV
theorem tH:OpR X (binaryOp .Add) (IU X.K):=op_add.or (op_catM.or (op_tupM.or KS))
mutual
noncomputable def pyD:D->PyData
 |.non=>.none
 |.bl b=>.bool b
 |.int i=>.int i
 |.str x=>.str x
 |.lst l=>.list (pyDs l)
 |.tup l=>.tuple (pyDs l)
 |.mtp l=>.tuple (pyDs l)
 |_=>.none
noncomputable def pyDs:List D->List PyData
 |[]=>[]
 |d::l=>pyD d::pyDs l
end
mutual
theorem nV:∀(n:Nat) (d:D),okD n d=true->(pyD d).canLay0=true/\(pyD d).depth<=n
 |_,.non,_=>by simp[pyD,PyData.canLay0,PyData.depth]
 |_,.bl _,_=>by simp[pyD,PyData.canLay0,PyData.depth]
 |_,.int _,_=>by simp[pyD,PyData.canLay0,PyData.depth]
 |n,.str x,h=>by
  have h':PyData.strOk x=true:=by cases n<;>simpa[okD] using h
  simp[pyD,PyData.canLay0,PyData.depth,h']
 |0,.lst l,h=>by simp[okD] at h
 |n+1,.lst l,h=>by
  obtain⟨a,b⟩:=tF n l (by simpa[okD] using h);simp only[pyD,PyData.canLay0,PyData.depth];exact⟨a,by lia⟩
 |0,.tup l,h=>by simp[okD] at h
 |n+1,.tup l,h=>by
  obtain⟨a,b⟩:=tF n l (by simpa[okD] using h);simp only[pyD,PyData.canLay0,PyData.depth];exact⟨a,by lia⟩
 |0,.mtp l,h=>by simp[okD] at h
 |n+1,.mtp l,h=>by
  obtain⟨a,b⟩:=tF n l (by simpa[okD] using h);simp only[pyD,PyData.canLay0,PyData.depth];exact⟨a,by lia⟩
 |n,.ty _,h=>by cases n<;>simp[okD] at h
 |n,.scr _,h=>by cases n<;>simp[okD] at h
 |n,.ins _ _ _,h=>by cases n<;>simp[okD] at h
theorem tF:∀(n:Nat) (l:List D),okDs n l=true->PyData.canLayAll0 (pyDs l)=true/\PyData.depthAll (pyDs l)<=n
 |_,[],_=>by simp[pyDs,PyData.canLayAll0,PyData.depthAll]
 |n,d::l,h=>by rw[okDs,Ul] at h;obtain⟨a,b⟩:=nV n d h.1;obtain⟨c,e⟩:=tF n l h.2;simp only[pyDs,PyData.canLayAll0,PyData.depthAll,a,c];exact⟨rfl,by lia⟩
end
mutual
theorem yQ:∀(n m:Nat) (d e:D),okD n d=true->okD m e=true->PyData.eqv (pyD d) (pyD e)=eqD d e
 |n,m,.non,e,_,he=>by cases e<;>first|(simp[pyD,PyData.eqv,eqD];done)|(cases m<;>simp[okD] at he)
 |n,m,.bl _,e,_,he=>by cases e<;>first|(simp[pyD,PyData.eqv,eqD];done)|(cases m<;>simp[okD] at he)
 |n,m,.int _,e,_,he=>by cases e<;>first|(simp[pyD,PyData.eqv,eqD];done)|(cases m<;>simp[okD] at he)
 |n,m,.str _,e,_,he=>by cases e<;>first|(simp[pyD,PyData.eqv,eqD];done)|(cases m<;>simp[okD] at he)
 |0,m,.lst _,e,hd,he=>by simp[okD] at hd
 |n+1,m,.lst l,e,hd,he=>by
  cases e with
  |lst l'=>
   cases m with
   |zero=>simp[okD] at he
   |succ m=>
    simp only[pyD,PyData.eqv,eqD];exact eqvs_is n m l l' (by simpa[okD] using hd) (by simpa[okD] using he)
  |_=>first|(simp[pyD,PyData.eqv,eqD];done)|(cases m<;>simp[okD] at he)
 |0,m,.tup _,e,hd,he=>by simp[okD] at hd
 |n+1,m,.tup l,e,hd,he=>by
  cases e with
  |tup l'=>
   cases m with
   |zero=>simp[okD] at he
   |succ m=>
    simp only[pyD,PyData.eqv,eqD];exact eqvs_is n m l l' (by simpa[okD] using hd) (by simpa[okD] using he)
  |mtp l'=>
   cases m with
   |zero=>simp[okD] at he
   |succ m=>
    simp only[pyD,PyData.eqv,eqD];exact eqvs_is n m l l' (by simpa[okD] using hd) (by simpa[okD] using he)
  |_=>first|(simp[pyD,PyData.eqv,eqD];done)|(cases m<;>simp[okD] at he)
 |0,m,.mtp _,e,hd,he=>by simp[okD] at hd
 |n+1,m,.mtp l,e,hd,he=>by
  cases e with
  |tup l'=>
   cases m with
   |zero=>simp[okD] at he
   |succ m=>
    simp only[pyD,PyData.eqv,eqD];exact eqvs_is n m l l' (by simpa[okD] using hd) (by simpa[okD] using he)
  |mtp l'=>
   cases m with
   |zero=>simp[okD] at he
   |succ m=>
    simp only[pyD,PyData.eqv,eqD];exact eqvs_is n m l l' (by simpa[okD] using hd) (by simpa[okD] using he)
  |_=>first|(simp[pyD,PyData.eqv,eqD];done)|(cases m<;>simp[okD] at he)
 |n,_,.ty _,_,h,_=>by cases n<;>simp[okD] at h
 |n,_,.scr _,_,h,_=>by cases n<;>simp[okD] at h
 |n,_,.ins _ _ _,_,h,_=>by cases n<;>simp[okD] at h
theorem eqvs_is:∀(n m:Nat) (l l':List D),okDs n l=true->okDs m l'=true->PyData.eqvAll (pyDs l) (pyDs l')=eqDs l l'
 |_,_,[],[],_,_=>by simp[pyDs,PyData.eqvAll,eqDs]
 |_,_,[],_::_,_,_=>by simp[pyDs,PyData.eqvAll,eqDs]
 |_,_,_::_,[],_,_=>by simp[pyDs,PyData.eqvAll,eqDs]
 |n,m,d::l,e::l',hd,he=>by rw[okDs,Ul] at hd he;rw[pyDs,pyDs,PyData.eqvAll,eqDs,yQ n m d e hd.1 he.1,eqvs_is n m l l' hd.2 he.2]
end
mutual
theorem fR {pins:List (Addr×Obj)}    (I:Inv X pins σ H s):∀(n:Nat) {d:D} {x:V} {v:Value},okD n d=true->Den X.K H d x->RelV x v->∃as,Reads s.heap v (pyD d) as
 |_,.non,x,v,_,dx,r=>by rw[den_non.mp dx] at r;cases r;exact⟨_,.none⟩
 |_,.bl b,x,v,_,dx,r=>by rw[den_bl.mp dx] at r;cases r;exact⟨_,.bool b⟩
 |_,.int i,x,v,_,dx,r=>by rw[den_int.mp dx] at r;obtain⟨t,rfl⟩:=r;exact⟨_,.int i t⟩
 |_,.str y,x,v,_,dx,r=>by rw[den_str.mp dx] at r;obtain⟨t,rfl⟩:=r;exact⟨_,.str y t⟩
 |0,.lst _,x,v,h,dx,r=>by simp[okD] at h
 |n+1,.lst l,x,v,h,dx,r=>by
  obtain⟨p,xs,rfl,hp,ds⟩:=den_lst.mp dx;cases r;obtain⟨_,its,k,rv,_,e⟩:=I.rdl hp;obtain⟨as,ra⟩:=dens_reads I n (by simpa[okD] using h) ds rv;exact⟨_,.list e rfl rfl (by simpa using ra)⟩
 |0,.tup _,x,v,h,dx,r=>by simp[okD] at h
 |n+1,.tup l,x,v,h,dx,r=>by
  obtain⟨p,xs,rfl,hp,ds⟩:=iy dx;cases r;obtain⟨its,rv,⟨o,e,c,k,d⟩,_⟩:=I.tuple hp;obtain⟨as,ra⟩:=dens_reads I n (by simpa[okD] using h) ds rv;exact⟨_,.tuple e c d (by simpa using ra)⟩
 |0,.mtp _,x,v,h,dx,r=>by simp[okD] at h
 |n+1,.mtp l,x,v,h,dx,r=>by
  obtain⟨p,xs,rfl,hp,ds⟩:=den_mtp.mp dx;cases r;obtain⟨its,rv,⟨o,e,c,k,d⟩,_⟩:=I.tuple hp;obtain⟨as,ra⟩:=dens_reads I n (by simpa[okD] using h) ds rv;exact⟨_,.tuple e c d (by simpa using ra)⟩
 |n,.ty _,_,_,h,_,_=>by cases n<;>simp[okD] at h
 |n,.scr _,_,_,h,_,_=>by cases n<;>simp[okD] at h
 |n,.ins _ _ _,_,_,h,_,_=>by cases n<;>simp[okD] at h
theorem dens_reads {pins:List (Addr×Obj)}    (I:Inv X pins σ H s):∀(n:Nat) {ds:List D} {xs:List V} {vs:List Value},okDs n ds=true->Dens X.K H ds xs->Vals xs vs->∃as,ReadsAll s.heap vs (pyDs ds) as
 |_,[],xs,vs,_,d,r=>by
  rw[d.nil_of] at r;cases r;exact⟨_,.nil⟩
 |n,d::ds,xs,vs,h,dd,r=>by
  rw[okDs,Ul] at h;obtain⟨y,ys,rfl,a,b⟩:=dd.cons_of;cases r with
  |cons r rr=>obtain⟨as,ra⟩:=fR I n h.1 a r;obtain⟨bs,rb⟩:=dens_reads I n h.2 b rr;exact⟨_,.cons ra rb⟩
end
theorem Ip (hu:X.A.units+64<cLine):OpR X (compareOp .Eq) (Lf X.K false):=by intro pins s σ H x y v u Q I rx ry h;obtain⟨S,d,e,sm,dx,dy,cd,ce,q⟩:=h;obtain⟨as,ra⟩:=fR I 50 cd (ny sm dx) rx;obtain⟨bs,rb⟩:=fR I 50 ce (ny sm dy) ry;obtain⟨a1,a2⟩:=nV 50 d cd;obtain⟨b1,b2⟩:=nV 50 e ce;have hm:=Nat.min_le_left (pyD d).depth (pyD e).depth;refine SeqAt.compareEq_reads ra rb a1 b1 (by lia) ⟨.bl _,H,I,rfl,?_⟩;rw[yQ 50 50 d e cd ce];exact q
theorem Nc (hu:X.A.units+64<cLine):OpR X (compareOp .NotEq) (Lf X.K true):=by intro pins s σ H x y v u Q I rx ry h;obtain⟨S,d,e,sm,dx,dy,cd,ce,q⟩:=h;obtain⟨as,ra⟩:=fR I 50 cd (ny sm dx) rx;obtain⟨bs,rb⟩:=fR I 50 ce (ny sm dy) ry;obtain⟨a1,a2⟩:=nV 50 d cd;obtain⟨b1,b2⟩:=nV 50 e ce;have hm:=Nat.min_le_left (pyD d).depth (pyD e).depth;refine SeqAt.compareNe_reads ra rb a1 b1 (by lia) ⟨.bl _,H,I,rfl,?_⟩;rw[yQ 50 50 d e cd ce];exact q
theorem EN:CallR X (.builtin "len") (IW X.K):=GX
theorem EM:CallR X (.builtin "isinstance") (IV X.K):=by
 intro pins s σ H xs us Q I r h;obtain⟨x,T,t,rfl,ht,hm,q⟩:=h;obtain⟨u,w',rfl,ru,rw'⟩:=r.two;cases rw';have fin:∀tk:Nat,EP X pins σ Q (.bool (Lx t T)) { s with toks:=tk }:=fun tk=>⟨.bl _,H,I.tok tk,rfl,q⟩
 cases x with
 |non=>cases ht;exact mr I ru .non (mt (by decide) hm) fin
 |bl b=>cases ht;exact mr I ru (.bl b) (mt (by decide) hm) fin
 |int i=>cases ht;exact mr I ru (.int i) (mt (by decide) hm) fin
 |str y=>cases ht;exact mr I ru (.str y) (mt (by decide) hm) fin
 |ref p=>
  cases ru;rcases ht with ⟨rfl,xs,h⟩|⟨rfl,xs,h⟩
  ·obtain⟨_,its,n,rv,_,e⟩:=I.rdl h;exact Uw W.kitx_list I.kIn ⟨_,e,rfl⟩ (mt (by decide) hm) (fun z=>nomatch z) fin
  ·obtain⟨its,rv,⟨o,e,c,_⟩,_⟩:=I.tuple h;exact Uw W.kitx_tuple I.kIn ⟨o,e,c⟩ (mt (by decide) hm) (fun z=>nomatch z) fin
 |_=>exact (show False from ht).elim
theorem D6:MtM X "list.extend" rExtM:=by
 intro pins s σ H x vs v us Q I rx rv h;obtain⟨l,b,xs,zs,rfl,rfl,hH,hB,hz,q⟩:=h;cases rx;obtain⟨u,rfl,ru⟩:=rv.one;cases ru;obtain⟨z,its,n,r,hl,e⟩:=I.lstM hH;obtain⟨z2,its2,n2,r2,hl2,e2⟩:=I.rdl hB;have hsz:its.toArray.size+its2.toArray.size<=sizeLine:=by rw[TV,TV];lia
 have hlong:¬(!its.toArray.isEmpty&&Builtin.List.listTooLong (its.toArray.size+its2.toArray.size))=true:=by rw[Ih hsz,Bool.and_false];exact UM
 refine call_meets F.slot_list_extend ⟨_,e,rfl⟩ F.entry_list_extend (F.args_list_extend_2 _ _)
  (AutoSeq1.list_extend_list_list_0 l its.toArray n b its2.toArray n2 hlong (by rw[TV];lia) (by lia)) ⟨e,e2,?_⟩
 refine⟨.non,_,I.lset (its':=its++its2) hH e (by simp) (r.append r2) ?_,rfl,q⟩;rw[Tu];lia
theorem Q3:SlR X (NB X.K):=by
 refine SlR.or Ln ?_;intro pins s σ H x v vl vu lo hi sl Q I rx hs pl pu h;obtain⟨a,xs,rfl,hx,q1,q2⟩:=h;cases rx;by_cases hw:HT.sIx xs.length 0 lo=0/\HT.sIx xs.length xs.length hi=xs.length
 ·obtain⟨its,r,ht,hz⟩:=I.tuple hx;have hlen:its.toArray.size=xs.length:=by rw[TV];exact r.length.symm
  have hcut:nw xs lo hi=xs:=by unfold nw;rw[hw.1,hw.2,List.drop_zero,Nat.sub_zero,VV (Tw _)]
  refine⟨"tuple",_,Vz.lookup,ht.typeIs,?_⟩;exact HT.mE ht hs pl pu (by rw[hlen];exact hw) ⟨.ref a,H,I,rfl,q1 hcut⟩
 ·exact Oa pins s σ H (.ref a) (.ref a) vl vu lo hi sl Q I rfl hs pl pu ⟨a,xs,rfl,hx,hw,q2⟩
theorem Cf:CallR X (.builtin "sorted") (I9 X.K):=by
 intro pins s σ H xs us Q I r h;obtain⟨p,yks,rfl,hS,h64,hk,k⟩:=h;obtain⟨u,rfl,ru⟩:=r.one;cases ru;obtain⟨its,rv,pl,hz⟩:=I.list hS;have hl:yks.length=its.length:=by rw[<- rv.length,Tt]
 have atI:∀i,i<its.length->∃yk,yks[i]?=some yk/\yks.getD i (.non,[])=yk/\RelV yk.1 (its.getD i Value.none):=fun i hi=>by
  have ey:yks[i]?=some yks[i]:=Uf (by lia);have ex:(yks.map (·.1))[i]?=some yks[i].1:=by rw[TW,ey];rfl
  obtain⟨v,ev,rl⟩:=rv.get ex;exact⟨_,ey,by rw[Wx,ey];rfl,by rw[Wx,ev];exact rl⟩
 have tup:∀i,i<its.length->Srt.OI s.heap (its.getD i Value.none) (yks.getD i (.non,[])).2/\(yks.getD i (.non,[])).2≠[]:=fun i hi=>by obtain⟨yk,e1,e2,rl⟩:=atI i hi;obtain⟨q,e3,e4,e5⟩:=hk _ (Vl e1);rw[e2];refine⟨?_,e5⟩;rw[e3] at rl;have rl':its.getD i Value.none=Value.ref q:=rl;obtain⟨js,rj,⟨o,ho,hc,n,hd⟩,_⟩:=I.tuple e4;refine⟨q,o,js.toArray,n,rl',ho,hc,hd,?_⟩;simpa using iE rj
 refine Srt.yo (Srt.HL fun i=>(yks.getD i (.non,[])).2) pl.isList (by rw[Uj];lia) (Srt.CH tup) fun q hq ha=>?_;obtain⟨pv,pw⟩:=Srt.CY (vs:=its) (d:=Value.none) hq ha;rw[<- hl] at hq ha;obtain⟨py,wy⟩:=Srt.CY (vs:=yks) (d:=((V.non,[]):V×List Int)) hq ha;obtain⟨e,at1⟩:=sortedAll_at s.heap its (Srt.kE its q);have hv:Vals ((q.toList.map fun i=>yks.getD i (.non,[])).map (·.1)) (q.toList.map fun i=>its.getD i Value.none):=by
  have hb:∀i∈q.toList,i<its.length:=fun i hi=>by
   have:i<yks.length:=by simpa using (VQ.mp hq).mem_iff.mp hi
   lia
  revert hb;generalize q.toList=L;induction L with
  |nil=>exact fun _=>.nil
  |cons i L ih=>intro hb;refine .cons ?_ (ih fun j hj=>hb j (TC _ hj));obtain⟨yk,_,e2,rl⟩:=atI i (hb i Tx);dsimp only;rw[e2];exact rl
 have fresh:s.heap.objs.size<=s.heap.objs.size+1:=UO _;refine⟨.ref (s.heap.objs.size+1),upd H (s.heap.objs.size+1) (.lst ((q.toList.map fun i=>yks.getD i (.non,[])).map (·.1))),I.laid (t':=s.toks) (fun b o hb=>sortedAll_old hb) fresh ?_,rfl,?_⟩
 ·refine⟨by rw[Tt,py.length_eq,Uj];lia,_,e,hv,at1⟩
 ·refine k _ _ py (wy _ fun i j _ _ h=>?_) (I.hok.fresh fresh);rw[<- AU];exact h
theorem fe:CallR X (.builtin "sorted") (Bu X.K):=call_sortedI.or Cf
end
end L2
namespace M
noncomputable def OP (a:List Int)(k:Int):List Int:=if a.any (· == k) then a else a++[k]
noncomputable def QM (ns:List Int):List Int:=ns.foldl OP []
end M
namespace L2
open PySem
section
variable {X:Cx}
end
end L2
namespace M
open PySem L2
section
variable {K:W.Frag}
noncomputable def tG (K:W.Frag)(d:D):TE:=fun _ H Q=>∀v,(∀S,Den K S d v)->Q v H
theorem s_g:SE K (tG K d) (xC d):=fun ρ σ S H Q e r x k v hv=>by cases x;exact k v S H (Ext.refl r.sub) (hv S)
end
end M
namespace L2
open PySem M
theorem Iy    {u:Value}{pos:Pos}   (hg:Gl X x)(hm:X.mg x=some u)(r:RelV v u)(hD:∀S,Den K S d v)(hd:(x==("__debug__" : Str))=false:=by decide):PE X (.Name x pos) (tG K d):=
 fun a b c H Q I h=>Eb hg hm r hd a b c H Q I (h v hD)
end L2
namespace M
open PySem L2
@[simp] noncomputable def QA (a:XE):XE:=fun ρ=>(a ρ).bind fun d=>match d with|.lst l=>(aY l).bind fun ns=>if ns.length<4000 then some (.int ((QM ns).length:Nat)) else none|_=>none
end M
namespace L2
open PySem
def tP (K:W.Frag)(Ns:List Str)(P:Addr->Prop):Prop:=∀N∈Ns,∀C,W.nsIn K mainGlobals N=some (some (.ref C))->P C
def OC (K:W.Frag)(Ns:List Str)(H:Hp)(x:V)(a:Addr)(C dx:Addr)(fs:List (Str×V)):Prop:=x = .ref a/\(∃N∈Ns,W.nsIn K mainGlobals N=some (some (.ref C)))/\H a=some (.ins C dx fs)
noncomputable def JD (K:W.Frag)(Ns:List Str)(ta:TE)(f:Str):TE:=fun σ H Q=>ta σ H fun x H1=>∃a C dx fs v,OC K Ns H1 x a C dx fs/\fs.lookup f=some v/\Q v H1
noncomputable def zN (K:W.Frag)(Ns:List Str)(m:Str)(sp:Sp)(ta:TE)(t:TA):TE:=fun σ H Q=>ta σ H fun x H1=>∃a C dx fs,OC K Ns H1 x a C dx fs/\fs.lookup m=none/\t σ H1 fun vs H2=>sp (x::vs) H2 Q E0
noncomputable def zM (K:W.Frag)(N:Str)(sp:Sp)(t:TA):TE:=fun σ H Q=>∀C,W.nsIn K mainGlobals N=some (some (.ref C))->Ma C sp [] E0 t σ H Q
section
variable {X:Cx}{o e:Expr}{es:List Expr}{f m:Str}{pos apos p:Pos}{ta:TE}{t:TA}{Ns:List Str}{k:Nat}{g C:Addr}{fd:FuncData}{ps:List Str}{sp:Sp}
theorem zq (hc:tP X.K Ns fun C=>Cls X.K C/\NoAttr X.K C f)(he:PE X e ta)(hb:attributeBase e f X.env (eval e X.env)=eval e X.env):PE X (.Attribute e f pos) (JD X.K Ns ta f):=by intro pins s σ H Q I h;refine Kb hb (thn (he pins s σ H _ I h) fun u s1 hpt9=>?_);obtain⟨x,H1,I1,rx,a,C,dx,fs,v,⟨ex,⟨N,hN,hC⟩,ea⟩,l,q⟩:=hpt9;subst ex;have eu:u=Value.ref a:=rx;subst eu;obtain⟨c,n⟩:=hc N hN C hC;exact Cz I1 ea c n l fun u' s2 I2 ru=>⟨v,H1,I2,ru,q⟩
theorem IA  (hc:tP X.K Ns fun C=>Cls X.K C/\Meth X.K C m g)(F:FnOk X.prog X.w X.K X.mg X.base CX0 k g fd ps sp)(hr:Room k X.A)(hb:Binds X.K fd ps [])(hx:kY CX0 X E0)(he:PE X o ta)(ha:PA X (e::es) t)
  (hst:starEach (e::es) X.env=(false,eval e X.env)::starEach es X.env:=by rfl) (hpl:(backTo pos (starEach es X.env)).any (·.1)=false:=by rfl)
  (ht:eval (.Call (.Attribute o m apos) (e::es) [] pos) X.env=(do
   let ov ← eval o X.env
   standAt apos.atName
   let (f,first) ← holding [ov] (getMethod ov m pl)
   callWith pos f first (backTo pos (starEach (e::es) X.env)) (backToKw pos (keywordEach [] X.env))):=by rfl) :
  PE X (.Call (.Attribute o m apos) (e::es) [] pos) (zN X.K Ns m sp ta t):=by
 intro pins s σ H Q I h;refine W.methodCall_KW (pl:=pl) (thn (he pins s σ H _ I h) fun u s1 hpt9=>?_) ht;obtain⟨x,H1,I1,rx,a,C,dx,fs,⟨ex,⟨N,hN,hC⟩,ea⟩,l,q⟩:=hpt9;subst ex;have eu:u=Value.ref a:=rx;subst eu;obtain⟨c,hm⟩:=hc N hN C hC;refine CA I1 ea c hm l ?_;refine W.callWith_K (first:=[.ref a]) (h₀:=X.base) I.ok.mod.kin hm.kp (thn (ha pos pins s1 σ H1 _ I1 q) fun us s2 ⟨vs,H2,I2,r,q2⟩=>⟨I2.kIn,?_⟩) hst hpl;exact C6 (us:=.ref a::us) (vs:=.ref a::vs) (dvs:=[]) F hr hb .nil hx I2 (.cons rfl r) (by rw[Ue];exact q2)
structure ClsFn (K:W.Frag) (C:Addr) (m:Str) (f:Addr):Prop where
 sp:W.specialIn K (.ref C) "__getattribute__" = some (some (.builtin "type.__getattribute__"))
 rd:W.readsIn K C (.type "type")=true
 fn:W.findCls K (.ref C) (.type "type") m=some (.val (.ref f))
 kp:W.keepIn K (.ref f)=true
theorem ke   (cf:ClsFn X.K C m g)(gB:Gl X B)(hm:X.mg B=some (.ref C))(F:FnOk X.prog X.w X.K X.mg X.base CX0 k g fd ps sp)(hr:Room k X.A)(hb:Binds X.K fd ps [])(hx:kY CX0 X E0)(ha:PA X (e::es) t)(hdb:(B==("__debug__" : Str))=false:=by decide)
  (hst:starEach (e::es) X.env=(false,eval e X.env)::starEach es X.env:=by rfl) (hpl:(backTo pos (starEach es X.env)).any (·.1)=false:=by rfl)
  (ht:eval (.Call (.Attribute (.Name B p) m apos) (e::es) [] pos) X.env=(do
   let ov ← eval (.Name B p) X.env
   standAt apos.atName
   let (f,first) ← holding [ov] (getMethod ov m pl)
   callWith pos f first (backTo pos (starEach (e::es) X.env)) (backToKw pos (keywordEach [] X.env))):=by rfl) :
  PE X (.Call (.Attribute (.Name B p) m apos) (e::es) [] pos) (pT sp [] E0 t):=by
 intro pins s σ H Q I h;refine W.methodCall_KW (pl:=pl) (thn (Eb (v:=.ref C) gB hm rfl hdb pins s σ H (fun x H1=>x = .ref C/\H1=H) I ⟨rfl,rfl⟩) fun u s1 hpt9=>?_) ht;obtain⟨x,H1,I1,rx,ex,eH⟩:=hpt9;subst ex;subst eH;have eu:u=Value.ref C:=rx;subst eu;refine W.method_cls I1.kIn cf.sp (W.cls_value I1.kIn cf.rd cf.fn rfl ?_);refine W.callWith_K (first:=[]) (h₀:=X.base) I.ok.mod.kin cf.kp (thn (ha pos pins _ σ H1 _ (I1.tok _) h) fun us s2 ⟨vs,H2,I2,r,q2⟩=>⟨I2.kIn,?_⟩) hst hpl;exact C6 F hr hb .nil hx I2 r q2
theorem Iz  (hN:W.nsIn X.K mainGlobals N=some (some (.ref C)))(M:Mk X.K C g)(F:FnOk X.prog X.w X.K X.mg X.base CX0 k g fd ps sp)(hr:Room (k+1) X.A)(hg:Gl X N)(hm:X.mg N=some (.ref C))(hb:Binds X.K fd ps [])(hx:kY CX0 X E0)
  (ha:PA X (e::es) t) (hdb:(N==("__debug__" : Str))=false:=by decide) (he:starEach (e::es) X.env=(false,eval e X.env)::starEach es X.env:=by rfl) (hpl:(backTo pos (starEach es X.env)).any (·.1)=false:=by rfl) :
  PE X (.Call (.Name N p) (e::es) [] pos) (zM X.K N sp t):=fun a b c d q I h=>K0 M F hr hg hm hb .nil hx ha hdb he hpl a b c d q I (h C hN)
end
end L2
namespace M
open PySem L2
section
variable {K:W.Frag}{S S' H H':Hp}
noncomputable def wu:List Str->List D->Str->Option D
 |n::ns,d::l,f=>if f=n then some d else wu ns l f
 |_,_,_=>none
theorem Hm:∀ {fs:List (Str×V)} {l:List D} {f:Str} {d:D},Dens K S l (fs.map (·.2))->wu (fs.map (·.1)) l f=some d->∃v,fs.lookup f=some v/\Den K S d v
 |[],l,f,d,h,e=>by
  cases l<;>simp[wu] at e
 | (n,v)::fs,l,f,d,h,e=>by
  cases l with
  |nil=>simp[wu] at e
  |cons a l=>
   obtain⟨y,ys,e1,h1,h2⟩:=h.cons_of;rw[TF] at e1;cases e1;rw[TF,wu] at e;by_cases hf:f=n
   ·rw[Tn hf] at e;cases e;exact⟨v,by simp[List.lookup,hf],h1⟩
   ·rw[To hf] at e;obtain⟨w,q1,q2⟩:=Hm h2 e;have hb:(f==n)=false:=by simpa using hf
    exact⟨w,by simp[List.lookup,hb,q1],q2⟩
theorem Hl:∀ {fs:List (Str×V)} {f:Str},(fs.map (·.1)).contains f=false->fs.lookup f=none
 |[],_,_=>rfl
 | (n,v)::fs,f,h=>by
  simp at h;have hb:(f==n)=false:=by simpa using h.1
  rw[List.lookup,hb];exact Hl (by simpa using h.2)
@[simp] noncomputable def l9 (Ns:List Str)(f:Str)(e:XE):XE:=fun ρ=>(e ρ).bind fun d=>match d with|.ins N ns l=>if Ns.contains N then wu ns l f else none|_=>none
theorem Jk {Ns:List Str}  {ta:TE}  (h:SE K ta e):SE K (JD K Ns ta f) (l9 Ns f e):=fun ρ σ S H Q d r x k=>by
 unfold l9 at x;cases q:e ρ with
 |none=>rw[q] at x;cases x
 |some d0=>
  rw[q] at x;dsimp only[Option.bind] at x;cases d0<;>try (cases x;done)
  rename_i N ns l;dsimp only at x;split at x
  ·rename_i hc;refine h ρ σ S H _ _ r q fun v S1 H1 z1 d1=>?_;obtain⟨p,C,dx,fs,rfl,hC,h1,h2,h3⟩:=den_ins.mp d1;subst h2;obtain⟨w,w1,w2⟩:=Hm h3 x;exact⟨p,C,dx,fs,w,⟨rfl,⟨N,by simpa using hc,hC⟩,z1.sub _ _ h1⟩,w1,k w S1 H1 z1 w2⟩
  ·cases x
@[simp] noncomputable def vV (Ns:List Str)(m:Str)(g:List D->Option D)(e:XE)(a:XA):XE:=fun ρ=>(e ρ).bind fun d=>match d with|.ins N ns l=>if Ns.contains N && !ns.contains m then (a ρ).bind fun ds=>g (.ins N ns l::ds) else none|_=>none
theorem NT {Ns:List Str}  {n:Nat}  {ta:TE}    (h:SE K ta e)(ha:SA K t a)(hn:∀ρ ds,a ρ=some ds->ds.length=n):SE K (zN K Ns m (bz K (n+1) g) ta t) (vV Ns m (fun ds=>(g ds).map O.d) e a):=fun ρ σ S H Q d r x k=>by
 unfold vV at x;cases q:e ρ with
 |none=>rw[q] at x;cases x
 |some d0=>
  rw[q] at x;dsimp only[Option.bind] at x;cases d0<;>try (cases x;done)
  rename_i N ns l;dsimp only at x;split at x
  ·rename_i hc;rw[Ul] at hc;cases qa:a ρ with
   |none=>rw[qa] at x;cases x
   |some ds=>
    rw[qa] at x;dsimp only at x;cases qg:g (.ins N ns l::ds) with
    |none=>rw[qg] at x;cases x
    |some o=>rw[qg] at x;cases x;refine h ρ σ S H _ _ r q fun v S1 H1 z1 d1=>?_;obtain⟨p,C,dx,fs,rfl,hC,h1,h2,h3⟩:=den_ins.mp d1;refine⟨p,C,dx,fs,⟨rfl,⟨N,by simpa using hc.1,hC⟩,z1.sub _ _ h1⟩,Hl (by rw[h2];simpa using hc.2),?_⟩;refine ha ρ σ S1 H1 _ ds (r.ext z1) qa fun vs S2 H2 z2 d2=>?_;have dd:Dens K S2 (.ins N ns l::ds) (.ref p::vs):=.cons (d1.mono z2.sh) d2;refine⟨by rw[Tz,<- d2.length,hn ρ ds qa],S2,_,o,z2.sub,dd,qg,fun v fp S3 H3 z3 ow nd fr=>?_⟩;exact k v _ H3 ((z1.trans z2).trans (AJ z3 fr)) (ow.den (mm fun b hb=>(fr b hb).2) fun b hb=>tp hb)
  ·cases x
noncomputable def kJ (K:W.Frag)(Ns:List Str)(f:Str)(n:Nat)(mi:List D->Option D):Sp:=fun vs H Q _=>vs.length=n+1/\∃x rest C dx S ds d,vs = .ref x::rest/\H x=some (.ins C dx [])/\(∃N∈Ns,W.nsIn K mainGlobals N=some (some (.ref C)))/\S x=none/\Same S H/\Dens K S ds rest/\mi ds=some d /\
 ∀S' H' v,Ext S H S' H'->Den K S' d v->Q .non (upd H' x (.ins C dx [(f,v)]))
noncomputable def Hz:List D->Option D
 |[d]=>some d
 |_=>none
theorem HA {Ns:List Str}      (hc:tP K Ns fun C=>Cls K C/\NoAttr K C f)  (h:kJ K Ns f 1 Hz vs H Q E):PN K (kQ 0) (kQ 1) f { nx:=fun _ H'=>Q .non H',rt:=Q } (L2.eB N vs) H:=by
 obtain⟨_,x,rest,C,dx,S,ds,d,rfl,hx,⟨M,hM,hC⟩,nS,sub,dd,e,k⟩:=h
 match ds,e with
 |[d'],e=>cases e;obtain⟨v,ys,rfl,dv,dn⟩:=dd.cons_of;cases dn.nil_of;obtain⟨c,n⟩:=hc M hM C hC;exact⟨v,rfl,.ref x,rfl,x,C,dx,[],rfl,hx,c,n,by decide,k S H v (Ext.refl sub) dv⟩
theorem Eg {x:Addr}{ds:List D}  (s:Same S H)(h:Dens K S ds vs):Rl K (.lo::ds.map .sh) (some (.ref x)::vs.map some) S H:=by
 have hl:=h.length;refine⟨fun _=>none,fun i=>if i=0 then some x else none,fun _=>[],?_⟩;have ge:∀(i:Nat) t,(Sl.lo::ds.map Sl.sh)[i]?=some t->(i=0/\t = .lo)\/∃d v,t = .sh d/\(some (V.ref x)::vs.map some)[i]?=some (some v)/\Den K S d v:=fun i t ht=>by
  cases i with
  |zero=>cases ht;exact .inl ⟨rfl,rfl⟩
  |succ i=>
   rw[List.getElem?_cons_succ,TW] at ht;cases q:ds[i]? with
   |none=>rw[q] at ht;cases ht
   |some d=>rw[q] at ht;cases ht;obtain⟨v,e1,e2⟩:=h.get q;refine .inr ⟨d,v,rfl,?_,e2⟩;rw[List.getElem?_cons_succ,TW,e1];rfl
 exact {
  len:=by rw[Tz,Tz,Tt,Tt,hl]
  sub:=s
  sh:=fun i d hi=>by
   rcases ge i _ hi with ⟨_,e⟩|⟨d',v,e,h1,h2⟩
   ·cases e
   ·cases e;exact⟨v,h1,h2⟩
  ow:=fun i o hi=>by
   rcases ge i _ hi with ⟨_,e⟩|⟨d',v,e,h1,h2⟩
   ·cases e
   ·cases e
  dj:=fun i j o o' _ hi _=>by
   rcases ge i _ hi with ⟨_,e⟩|⟨d',v,e,h1,h2⟩
   ·cases e
   ·cases e
  lo:=fun i hi=>by
   rcases ge i _ hi with ⟨rfl,e⟩|⟨d',v,e,h1,h2⟩
   ·exact⟨x,rfl,rfl⟩
   ·cases e
  asub:=fun b o e=>by cases e
  adis:=fun b=>.inr rfl }
noncomputable def y6 (xt:XT)(xe:XE)(ds:List D):Option D:=if xt (.lo::ds.map .sh)=some false then xe (.lo::ds.map .sh) else none
noncomputable def O3 (xe:XE)(ds:List D):Option D:=xe (.lo::ds.map .sh)
theorem AM {Ns:List Str}{f:Str}{te:TE}{xe:XE}{x:Addr}{rest:List V}{C dx:Addr}{ds:List D}{d:D}{S H:Hp}{Dd:_}{Q:VK}(he:SE K te xe)(sub:Same S H)(dd:Dens K S ds rest)(hx:H x=some (.ins C dx []))(hc:∃N∈Ns,W.nsIn K mainGlobals N=some (some (.ref C)))(nS:S x=none)
  (e:xe (.lo::ds.map .sh)=some d) (hD:Dd=({ nx:=fun _ H'=>Q .non H',rt:=Q }:_)) (k:∀S' H' v,Ext S H S' H'->Den K S' d v->Q .non (upd H' x (.ins C dx [(f,v)]))) :
  vO (pT (kJ K Ns f 1 Hz) [] E0 (gJ (kQ 0) (gJ te rD))) Dd (some (.ref x)::rest.map some) H:=by
 subst hD;refine⟨.ref x,rfl,he _ _ S H _ d (Eg sub dd) e fun v S1 H1 z1 d1=>?_⟩;refine⟨rfl,x,[v],C,dx,S1,[d],d,rfl,(z1.al x _ hx nS).1,hc,(z1.al x _ hx nS).2,z1.sub,.cons d1 .nil,rfl,fun S2 H2 w z2 d2=>k S2 H2 w (z1.trans z2) d2⟩
theorem uC {Ns:List Str}  {n:Nat}{tt:TT}  {te:TE}  {N:List Str}     (ht:ST K tt xt)(he:SE K te xe)(hN:N.length=n+1)(h:kJ K Ns f n (y6 xt xe) vs H Q E) :
  LD (LB tt JG Er) (vO (pT (kJ K Ns f 1 Hz) [] E0 (gJ (kQ 0) (gJ te rD)))) { nx:=fun _ H'=>Q .non H',rt:=Q } (L2.eB N vs) H:=by
 obtain⟨hl,x,rest,C,dx,S,ds,d,rfl,hx,hc,nS,sub,dd,e,k⟩:=h;have es:L2.eB N (.ref x::rest)=some (.ref x)::rest.map some:=by unfold L2.eB;rw[hl,hN,Nat.sub_self];simp
 unfold y6 at e;split at e
 ·rename_i q;rw[es];refine ht _ _ S H _ false (Eg sub dd) q fun S1 H1 z1=>?_;rw[To UM];exact AM he z1.sub (dd.mono z1.sh) (z1.al x _ hx nS).1 hc (z1.al x _ hx nS).2 e rfl fun S2 H2 w z2 d2=>k S2 H2 w (z1.trans z2) d2
 ·cases e
theorem Ff {Ns:List Str}  {n:Nat}{te:TE}  {N:List Str}     (he:SE K te xe)(hN:N.length=n+1)(h:kJ K Ns f n (O3 xe) vs H Q E) :
  vO (pT (kJ K Ns f 1 Hz) [] E0 (gJ (kQ 0) (gJ te rD))) { nx:=fun _ H'=>Q .non H',rt:=Q } (L2.eB N vs) H:=by
 obtain⟨hl,x,rest,C,dx,S,ds,d,rfl,hx,hc,nS,sub,dd,e,k⟩:=h;have es:L2.eB N (.ref x::rest)=some (.ref x)::rest.map some:=by unfold L2.eB;rw[hl,hN,Nat.sub_self];simp
 rw[es];exact AM he sub dd hx hc nS e rfl k
@[simp] noncomputable def kO (N f:Str)(mi:List D->Option D)(a:XA):XE:=fun ρ=>((a ρ).bind mi).map fun d=>.ins N [f] [d]
theorem NR {Ns:List Str}{N:Str}{n:Nat}    (hN:N∈Ns)(h:SA K t a)(hn:∀ρ ds,a ρ=some ds->ds.length=n):SE K (zM K N (kJ K Ns f n mi) t) (kO N f mi a):=fun ρ σ S H Q d r x k C hC=>by
 unfold kO at x;cases q:a ρ with
 |none=>rw[q] at x;cases x
 |some ds=>
  rw[q] at x;dsimp only[Option.bind] at x;cases q2:mi ds with
  |none=>rw[q2] at x;cases x
  |some d0=>
   rw[q2] at x;cases x;refine h ρ σ S H _ ds r q fun vs S1 H1 z1 d1=>?_;intro x dx nx ndx nex;have s0:Same S1 (upd (upd H1 dx (.own x)) x (.ins C dx [])):=fun b o e=>by have e':=z1.sub b o e;rw[aG (aO e' nx),aG (aO e' ndx)];exact e'
   have nS:S1 x=none:=z1.sub.free nx;refine⟨by rw[Ue,Tz,<- d1.length,hn ρ ds q],x,vs,C,dx,S1,ds,d0,by rw[Ue],aH,⟨N,hN,hC⟩,nS,s0,d1,q2,fun S2 H2 v z2 d2=>⟨rfl,?_⟩⟩;have hx2:=z2.al x _ aH nS
   have z3:Ext S1 H1 (upd S2 x (.ins C dx [(f,v)])) (upd H2 x (.ins C dx [(f,v)])):={
    sh:=fun b o e=>by rw[aG (aO (z1.sub b o e) nx)];exact z2.sh b o e
    sub:=fun b o e=>by
     by_cases hb:b=x
     ·subst hb;rw[aH] at e ⊢;exact e
     ·rw[aG hb] at e ⊢;exact z2.sub b o e
    al:=fun b o e ne=>by
     have hb:=aO e nx;rw[aG hb,aG hb]
     exact z2.al b o (by rw[aG hb,aG (aO e ndx)];exact e) ne }
   refine k (.ref x) _ _ (z1.trans z3) (den_ins.mpr ⟨x,C,dx,[(f,v)],rfl,hC,aH,rfl,?_⟩);refine .cons (d2.mono fun b o e=>?_) .nil;rw[aG (aO e hx2.2)];exact e
end
end M
namespace M
noncomputable def jN:List Int->Int
 |[]=>0
 |[a]=>a
 |a::l=>min a (jN l)
noncomputable def lK:List Int->Int
 |[]=>0
 |[a]=>a
 |a::l=>max a (lK l)
theorem xZ (a b:Int)(l:List Int):jN (a::b::l)=min a (jN (b::l)):=rfl
theorem Fu (a b:Int)(l:List Int):lK (a::b::l)=max a (lK (b::l)):=rfl
theorem ya:∀(a:Int) (l:List Int),jN (a::l)∈a::l/\∀b∈a::l,jN (a::l)<=b
 |a,[]=>⟨Tx,fun b hb=>by rw[Ts] at hb;subst hb;exact TN _⟩
 |a,c::l=>by
  obtain⟨h1,h2⟩:=ya c l;rw[xZ];refine⟨?_,fun b hb=>?_⟩
  ·rcases Int.le_total a (jN (c::l)) with h|h
   ·rw[Int.min_eq_left h];exact Tx
   ·rw[Int.min_eq_right h];exact TC _ h1
  ·rcases TD.mp hb with rfl|hb
   ·exact Int.min_le_left _ _
   ·exact Int.le_trans (Int.min_le_right _ _) (h2 b hb)
theorem xY:∀(a:Int) (l:List Int),lK (a::l)∈a::l/\∀b∈a::l,b<=lK (a::l)
 |a,[]=>⟨Tx,fun b hb=>by rw[Ts] at hb;subst hb;exact TN _⟩
 |a,c::l=>by
  obtain⟨h1,h2⟩:=xY c l;rw[Fu];refine⟨?_,fun b hb=>?_⟩
  ·rcases Int.le_total a (lK (c::l)) with h|h
   ·rw[Int.max_eq_right h];exact TC _ h1
   ·rw[Int.max_eq_left h];exact Tx
  ·rcases TD.mp hb with rfl|hb
   ·exact Int.le_max_left _ _
   ·exact Int.le_trans (h2 b hb) (Int.le_max_right _ _)
theorem yb {ns:List Int}{m:Int}(h1:m∈ns)(h2:∀a,a∈ns->m<=a):jN ns=m:=by
 cases ns with
 |nil=>cases h1
 |cons a l=>obtain⟨k1,k2⟩:=ya a l;exact Int.le_antisymm (k2 m h1) (h2 _ k1)
theorem Fv {ns:List Int}{m:Int}(h1:m∈ns)(h2:∀a,a∈ns->a<=m):lK ns=m:=by
 cases ns with
 |nil=>cases h1
 |cons a l=>obtain⟨k1,k2⟩:=xY a l;exact Int.le_antisymm (h2 _ k1) (k2 m h1)
end M
namespace L2
open PySem PySem.Spec PyProof.Rows
section
variable {prog:Program}{w:World}{A:Around}{E:Value->Shared->Prop}{s:Shared}
theorem A1  {vs:List Value}  {Q:Value->Shared->Prop}(hh:A.handled=none)(hl:s.heap.IsList l vs.toArray)(hi:IntsAre vs ns)(hne:0<ns.length)
  (h:∀(h':Heap) (t:Tok) (tk:Nat),(∀b o,s.heap.get? b=some o->h'.get? b=some o)->Q (.int (M.jN ns) t) { s with heap:=h',toks:=tk }):wpAny (model prog w) A (call (.builtin "min") [.ref l]) Q E s:=by
 obtain⟨xs,e⟩:=hi.allInts.items;have hns:ns=xs.toList.map (·.1):=by rw[<- hi.numsOf,<- nums_intItems,<- e]
 have hsz:0<xs.size:=by have h3:=hne;rw[hns,Tt,Ui] at h3;exact h3
 rw[e] at hl;refine min_intList hh hl hsz fun v h' tk hv hk=>?_;obtain⟨t,rfl⟩:=intItems_at hv;obtain⟨h1,h2⟩:=argBest_lt (numAt xs) (xs.size-1);have em:M.jN ns=numAt xs (argBest (fun i j=>decide (numAt xs i<numAt xs j)) (xs.size-1)):=by
  refine M.yb ?_ fun a ha=>?_
  ·rw[hns,numAt_eq];exact getD_mem (by rw[Tt,Ui];lia)
  ·rw[hns] at ha;obtain⟨j,hj,rfl⟩:=mem_getD ha;rw[Tt,Ui] at hj;rw[<- numAt_eq];exact h2 j (by lia)
 rw[<- em];exact h h' t tk hk
theorem AX  {vs:List Value}  {Q:Value->Shared->Prop}(hh:A.handled=none)(hl:s.heap.IsList l vs.toArray)(hi:IntsAre vs ns)(hne:0<ns.length)
  (h:∀(h':Heap) (t:Tok) (tk:Nat),(∀b o,s.heap.get? b=some o->h'.get? b=some o)->Q (.int (M.lK ns) t) { s with heap:=h',toks:=tk }):wpAny (model prog w) A (call (.builtin "max") [.ref l]) Q E s:=by
 obtain⟨xs,e⟩:=hi.allInts.items;have hns:ns=xs.toList.map (·.1):=by rw[<- hi.numsOf,<- nums_intItems,<- e]
 have hsz:0<xs.size:=by have h3:=hne;rw[hns,Tt,Ui] at h3;exact h3
 rw[e] at hl;refine max_intList hh hl hsz fun v h' tk hv hk=>?_;obtain⟨t,rfl⟩:=intItems_at hv;obtain⟨h1,h2⟩:=argBest_gt (numAt xs) (xs.size-1);have em:M.lK ns=numAt xs (argBest (fun i j=>decide (numAt xs i > numAt xs j)) (xs.size-1)):=by
  refine M.Fv ?_ fun a ha=>?_
  ·rw[hns,numAt_eq];exact getD_mem (by rw[Tt,Ui];lia)
  ·rw[hns] at ha;obtain⟨j,hj,rfl⟩:=mem_getD ha;rw[Tt,Ui] at hj;rw[<- numAt_eq];exact h2 j (by lia)
 rw[<- em];exact h h' t tk hk
theorem EI (a b c d:Value):argsOk "min" ⟨[a,b,c,d],[]⟩:=by unfold argsOk;kernel_rfl
theorem FE {a b c d:Value}{Q:Value->Shared->Prop}
  (h:wpAny (model prog w) A.in1 (pyIter (.ref s.heap.objs.size)) (fun it s₂=>∃I fp wr n P St bt,it = .ref I/\Walks prog w A.in1 I fp wr n P St/\St 0 s₂.heap/\(∀b∈fp,b<s₂.heap.objs.size)/\0<n/\CmpOf prog w A.in1 .Lt P bt/\∀v h' tk,P (argBest bt (n-1)) v->(∀b o,b∉wr->s₂.heap.get? b=some o->h'.get? b=some o)->Q v { s₂ with heap:=h',toks:=tk }) E { s with heap:=s.heap.push { cls:=.type "tuple",data:=.seq #[a,b,c,d] } }) :
  wpAny (model prog w) A (call (.builtin "min") [a,b,c,d]) Q E s:=by
 have hname:(toString "min" ++ toString ".loop" : String) = "min.loop" := by decide
 refine call_function_tree F.kind_min F.plain_min F.entry_min (EI _ _ _ _) ?_;show wpAny _ A.in1 (Builtin.Builtins.bindParams "min" ["key", "default"] 0 ⟨[],[]⟩ >>= _) _ _ s;refine Tp (Vf (show Builtin.Builtins.bindParams "min" ["key", "default"] 0 ⟨[],[]⟩=pure [none,none] from rfl) ?_);show wpAny _ A.in1 (newTuple [a,b,c,d] >>= _) _ _ s;refine Tp (Ut ?_);refine Tp (Uq h (fun it s₂ h₂=>?_) fun _ _ e=>e);obtain⟨I,fp,wr,n,P,St,bt,rfl,W,hst,hfp,hn,hcmp,hQ⟩:=h₂;refine Tp (Ut ?_);have hSf:s₂.heap.objs.size∉fp:=fun hm=>UH _ (hfp _ hm);rw[hname];refine Tv ⟨plainId_quiet F.plain_min_loop _,codeAny_min_loop_first W bt hcmp s₂.heap.objs.size hSf hn (W.frame _ _ _ hst fun b _ o e=>TK _ e) (TZ _ rfl) fun v h' tk hP hk=>?_⟩;exact hQ v h' tk hP fun b o hbw e=>hk b o hbw (TX (TM e)) (TK _ e)
theorem A0 {a b c d:Int}{t u x y:Tok}{Q:Value->Shared->Prop}(hh:A.handled=none)(h:∀(h':Heap) (z:Tok) (tk:Nat),(∀b o,s.heap.get? b=some o->h'.get? b=some o)->Q (.int (M.jN [a,b,c,d]) z) { s with heap:=h',toks:=tk }) :
  wpAny (model prog w) A (call (.builtin "min") [.int a t,.int b u,.int c x,.int d y]) Q E s:=by
 have hT:(s.heap.push { cls:=.type "tuple",data:=.seq #[.int a t,.int b u,.int c x,.int d y] }).IsTuple s.heap.objs.size (intItems #[(a,t),(b,u),(c,x),(d,y)]):=⟨_,TZ _ rfl,rfl,0,by simp[intItems]⟩
 refine FE (wpAny_pyIter_tuple hT ?_);have hsz:(s.heap.push { cls:=.type "tuple",data:=.seq #[.int a t,.int b u,.int c x,.int d y] }).objs.size=s.heap.objs.size+1:=UN ..;refine⟨_,[_,s.heap.objs.size],[_],_,_,_,_,rfl,Walks.tuple (A:=A.in1) hh _ s.heap.objs.size (by rw[hsz];exact TX (U7 _)) (intItems #[(a,t),(b,u),(c,x),(d,y)]),⟨⟨_,TZ _ rfl,rfl,rfl⟩,hT.push _⟩,fun e hd=>?_,by simp[intItems],CmpOf.ints_lt (numAt #[(a,t),(b,u),(c,x),(d,y)]) (fun _ _=>intItems_at),fun v h' tk hP hk=>?_⟩
 ·show e<((s.heap.push _).push _).objs.size;rw[UN,hsz];rcases TD.mp hd with rfl|hd
  ·rw[hsz];exact U7 _
  ·rcases TD.mp hd with rfl|hd
   ·exact VC (U7 _)
   ·cases hd
 ·have hold:∀z o,s.heap.get? z=some o->h'.get? z=some o:=fun z o e=>by
   refine hk z o (fun hm=>?_) (TK _ (TK _ e));rcases TD.mp hm with e1|hm
   ·have:=TM e;rw[e1,hsz] at this;exact UH _ (Nat.lt_of_succ_lt this)
   ·cases hm
  have hP':(intItems #[(a,t),(b,u),(c,x),(d,y)])[argBest (fun i j=>decide (numAt #[(a,t),(b,u),(c,x),(d,y)] i<numAt #[(a,t),(b,u),(c,x),(d,y)] j)) 3]?=some v:=by
   have hsz2:(intItems #[(a,t),(b,u),(c,x),(d,y)]).size-1=3:=by simp[intItems]
   rw[<- hsz2];exact hP
  obtain⟨z,rfl⟩:=intItems_at hP';obtain⟨h1,h2⟩:=argBest_lt (numAt #[(a,t),(b,u),(c,x),(d,y)]) 3;have em:M.jN [a,b,c,d]=numAt #[(a,t),(b,u),(c,x),(d,y)] (argBest (fun i j=>decide (numAt #[(a,t),(b,u),(c,x),(d,y)] i<numAt #[(a,t),(b,u),(c,x),(d,y)] j)) 3):=by
   have k0:=h2 0 (by lia);have k1:=h2 1 (by lia);have k2:=h2 2 (by lia);have k3:=h2 3 (by lia);generalize hg:argBest (fun i j=>decide (numAt #[(a,t),(b,u),(c,x),(d,y)] i<numAt #[(a,t),(b,u),(c,x),(d,y)] j)) 3=g at h1 k0 k1 k2 k3 ⊢;refine M.yb ?_ fun e he=>?_
   ·rcases (show g=0\/g=1\/g=2\/g=3 by lia) with rfl|rfl|rfl|rfl<;>simp[numAt]
   ·simp only[TD,VI,or_false] at he;rcases he with rfl|rfl|rfl|rfl
    ·exact k0
    ·exact k1
    ·exact k2
    ·exact k3
  rw[<- em];exact h h' z tk hold
end
noncomputable def IZ (K:W.Frag):List V->Hp->VK->Prop:=fun xs H Q=>∃p,∃ns:List Int,xs=[.ref p]/\SqL K H p (ns.map V.int)/\0<ns.length/\Q (.int (M.jN ns)) H
noncomputable def IY (K:W.Frag):List V->Hp->VK->Prop:=fun xs H Q=>∃p,∃ns:List Int,xs=[.ref p]/\SqL K H p (ns.map V.int)/\0<ns.length/\Q (.int (M.lK ns)) H
noncomputable def L3:List V->Hp->VK->Prop:=fun xs H Q=>∃a b c d,xs=[.int a,.int b,.int c,.int d]/\Q (.int (M.jN [a,b,c,d])) H
section
variable {X:Cx}
theorem Ce (hc:X.calm=true):CallR X (.builtin "min") (IZ X.K):=by intro pins s σ H xs us Q I r h;obtain⟨p,ns,rfl,hS,hne,q⟩:=h;obtain⟨u,rfl,ru⟩:=r.one;cases ru;obtain⟨its,rv,pl,hz⟩:=I.list hS;exact A1 (I.ok.hd hc) pl.isList (iE rv) hne fun h' t tk k=>⟨.int (M.jN ns),H,I.kept k,⟨t,rfl⟩,q⟩
theorem Cd (hc:X.calm=true):CallR X (.builtin "max") (IY X.K):=by intro pins s σ H xs us Q I r h;obtain⟨p,ns,rfl,hS,hne,q⟩:=h;obtain⟨u,rfl,ru⟩:=r.one;cases ru;obtain⟨its,rv,pl,hz⟩:=I.list hS;exact AX (I.ok.hd hc) pl.isList (iE rv) hne fun h' t tk k=>⟨.int (M.lK ns),H,I.kept k,⟨t,rfl⟩,q⟩
theorem ET (hc:X.calm=true):CallR X (.builtin "min") L3:=by
 intro pins s σ H xs us Q I r h;obtain⟨a,b,c,d,rfl,q⟩:=h;cases r with
 |cons r1 r=>cases r with
  |cons r2 r=>cases r with
   |cons r3 r=>cases r with
    |cons r4 r=>cases r;obtain⟨t,rfl⟩:=r1;obtain⟨t2,rfl⟩:=r2;obtain⟨t3,rfl⟩:=r3;obtain⟨t4,rfl⟩:=r4;exact A0 (I.ok.hd hc) fun h' t tk k=>⟨.int (M.jN [a,b,c,d]),H,I.kept k,⟨t,rfl⟩,q⟩
end
end L2
namespace M
open PySem L2
noncomputable def Al:List D->Option D
 |[.lst l]=>(aY l).bind fun ns=>if 0<ns.length then some (.int (jN ns)) else none
 |_=>none
noncomputable def Ak:List D->Option D
 |[.lst l]=>(aY l).bind fun ns=>if 0<ns.length then some (.int (lK ns)) else none
 |_=>none
noncomputable def Dw:List D->Option D
 |[.int a,.int b,.int c,.int d]=>some (.int (jN [a,b,c,d]))
 |_=>none
section
variable {K:W.Frag}
theorem Mx:SRB K (IZ K) Al:=fun S H vs ds g Q s d q k=>by
 unfold Al at q;split at q
 ·rename_i l;cases qi:aY l with
  |none=>rw[qi] at q;cases q
  |some ns=>
   rw[qi] at q;dsimp only[Option.bind] at q;split at q
   ·rename_i hne;cases q;obtain⟨v,rfl,d1⟩:=fD d;obtain⟨p,xs,rfl,h1,h2⟩:=d1.lst s;obtain⟨e,_⟩:=g9 h2 qi;subst e;exact⟨p,ns,rfl,.inl h1,hne,k _ S H (Ext.refl s) (den_int.mpr rfl)⟩
   ·cases q
 ·cases q
theorem Mu:SRB K (IY K) Ak:=fun S H vs ds g Q s d q k=>by
 unfold Ak at q;split at q
 ·rename_i l;cases qi:aY l with
  |none=>rw[qi] at q;cases q
  |some ns=>
   rw[qi] at q;dsimp only[Option.bind] at q;split at q
   ·rename_i hne;cases q;obtain⟨v,rfl,d1⟩:=fD d;obtain⟨p,xs,rfl,h1,h2⟩:=d1.lst s;obtain⟨e,_⟩:=g9 h2 qi;subst e;exact⟨p,ns,rfl,.inl h1,hne,k _ S H (Ext.refl s) (den_int.mpr rfl)⟩
   ·cases q
 ·cases q
theorem Kr  {a b c d:D}  (h:DensP K S H [a,b,c,d] vs):∃v w x y,vs=[v,w,x,y]/\DenP K S H a v/\DenP K S H b w/\DenP K S H c x/\DenP K S H d y:=by
 cases h with
 |cons h1 h=>cases h with
  |cons h2 h=>cases h with
   |cons h3 h=>cases h with
    |cons h4 h=>cases h;exact⟨_,_,_,_,rfl,h1,h2,h3,h4⟩
theorem Mw:SRB K L3 Dw:=fun S H vs ds g Q s d q k=>by
 unfold Dw at q;split at q
 ·rename_i a b c e;cases q;obtain⟨v,w,x,y,rfl,d1,d2,d3,d4⟩:=Kr d;exact⟨a,b,c,e,by rw[d1.int,d2.int,d3.int,d4.int],k _ S H (Ext.refl s) (den_int.mpr rfl)⟩
 ·cases q
end
end M
namespace L2
open PySem
theorem cH {XN:List Str}{sc scope:Scope}{N:List Str}{js:List (Option Nat)}(h1:scope.kind = .function:=by rfl)(h2:∀y∈scope.names,y.2 ≠ .cell:=by decide +kernel)(h3:∀y∈scope.names,y.2 = .free->sc.names.lookup y.1=some .cell\/sc.names.lookup y.1=some .free:=by decide +kernel)
  (h4:∀y∈scope.names,y.2 = .local->scope.names.lookup y.1=some .local:=by decide +kernel) (h5:js.length=N.length:=by rfl) (h6:((N.zip js).all fun p=>match p.2 with|none=>true|some j=>decide (XN[j]?=some p.1)&&decide (scope.names.lookup p.1=some .free))=true:=by decide +kernel):CmpOk XN sc scope N js:=⟨h1,h2,h3,h4,h5,h6⟩
end L2
namespace M
open PySem L2
@[simp] noncomputable def Ry (m:List D->Option D)(e:D)(a:XA):XE:=fun ρ=>(a ρ).bind fun ds=>m (ds++[e])
section
variable {K:W.Frag}
end
end M
namespace L2
open PySem
structure FunD (K:W.Frag) (x qual:Str) (st:Stmt) (T:Addr) (f:Addr) (fd:FuncData):Prop where
 ex:∃(oc:Value) (od:Option Addr) (kV doc pm:Value) (an:Option Addr) (cdv ct:Value) (osl:Array (Option Value)),fd=W.fnOf x qual (ml st) (gf st) (ar st) (.ref T) kV doc pm an cdv ct/\K.lookup f=some ⟨oc,od,.func fd,osl⟩/\W.codeIn K cdv qual=true
section
variable {P:Program}{w:World}{K:W.Frag}{mg:Str->Option Value}{base:Heap}
theorem FunD.ok {qual:Str}{st:Stmt}  {fd:FuncData}{ps:List Str}{k:Nat}{sp:Sp}(F:FunD K x qual st T f fd)(S:FnScope N ps (ar st))(len:∀vs H Q E,sp vs H Q E->vs.length=ps.length)
  (hb:∀(cdv:Value) (A:Around) (outer:List Env) (s:Shared) (H:Hp) (vs:List V) (Q:VK) (E:XK),Room k (A.deeper (PyProof.Rows.envOfC qual (ar st) s.heap.objs.size f cdv))->sp vs H Q E->∃t,PSs (yN CX0 P w K mg base N qual (ar st) f cdv A outer s H E).nox (gf st) t/\t { nx:=fun _ H'=>Q .non H',rt:=Q } (eB N vs) H):FnOk P w K mg base CX0 (k+1) f fd ps sp:=by
 obtain⟨oc,od,kV,doc,pm,an,cdv,ct,osl,rfl,lk,hcd⟩:=F.ex;exact LQ lk hcd S len fun A outer s H vs Q E hr hsp=>by obtain⟨t,h,q⟩:=hb cdv A outer s H vs Q E hr hsp;exact⟨t,h.nox,q⟩
end
end L2
namespace L2
open PySem PySem.Spec PyProof.Rows
structure CmpOkC (XN:List Str) (sc scope:Scope) (N:List Str) (js:List (Option Nat)) (t:Str):Prop where
 kind:scope.kind = .function
 free:∀y∈scope.names,y.2 = .free->sc.names.lookup y.1=some .cell\/sc.names.lookup y.1=some .free
 loc:∀y∈scope.names,y.2 = .local->scope.names.lookup y.1=some .local
 len:js.length=N.length
 ix:((N.zip js).all fun p=>match p.2 with|none=>true|some j=>decide (XN[j]?=some p.1)&&decide (scope.names.lookup p.1=some .free))=true
 cell1:∀y∈scope.names,y.2 = .cell->y.1=t
 tl:scope.names.lookup t=some .cell
 laid:∀n acc,cellsFrom n scope.names acc=(t,n)::acc
 pushed:∀h,pushCells h scope.names=h.push { cls:=.type "cell",data:=.cell none }
theorem MC {XN:List Str}{sc scope:Scope}{N:List Str}{js:List (Option Nat)}{t:Str}(h1:scope.kind = .function:=by rfl)(h3:∀y∈scope.names,y.2 = .free->sc.names.lookup y.1=some .cell\/sc.names.lookup y.1=some .free:=by decide +kernel)
  (h4:∀y∈scope.names,y.2 = .local->scope.names.lookup y.1=some .local:=by decide +kernel) (h5:js.length=N.length:=by rfl) (h6:((N.zip js).all fun p=>match p.2 with|none=>true|some j=>decide (XN[j]?=some p.1)&&decide (scope.names.lookup p.1=some .free))=true:=by decide +kernel)
  (h7:∀y∈scope.names,y.2 = .cell->y.1=t:=by decide +kernel) (h8:scope.names.lookup t=some .cell:=by decide +kernel) (h9:∀n acc,cellsFrom n scope.names acc=(t,n)::acc:=by intro n acc;rfl) (h10:∀h,pushCells h scope.names=h.push { cls:=.type "cell",data:=.cell none }:=by intro h;rfl):CmpOkC XN sc scope N js t:=⟨h1,h3,h4,h5,h6,h7,h8,h9,h10⟩
noncomputable def cxD (t:Str)(X:Cx)(N:List Str)(scope:Scope)(z:CxZ):Cx:={ cxC X N scope z with fn:=fun y=>y==t }
theorem lP {env:Env}:∀ {names:List (Str×NameKind)} {x:Str} {j:NameKind},(j = .cell\/j = .free) ->
  (names.map fun (n,k)=>if (k==NameKind.free&&env.scope.kind == .function&&env.kindOf n==some .cell) then (n,NameKind.cell) else (n,k)).lookup x=some j->(x,NameKind.free)∈names\/(x,NameKind.cell)∈names
 |[],_,_,_,h=>by simp at h
 | (n,k)::r,x,j,hj,h=>by
  have ih:=@lP env r x j hj;rw[TF] at h;dsimp only at h;cases q:x==n with
  |true=>
   have e:x=n:=by simpa using q
   subst e;split at h
   ·rename_i g;have:k = .free:=by simp only[Ul,Ur] at g;exact g.1.1
    subst this;exact .inl Tx
   ·rw[Ua,q] at h;cases h;rcases hj with z|z
    ·rw[z];exact .inr Tx
    ·rw[z];exact .inl Tx
  |false=>
   have h':(r.map fun (n,k)=>if (k==NameKind.free&&env.scope.kind == .function&&env.kindOf n==some .cell) then (n,NameKind.cell) else (n,k)).lookup x=some j:=by
    split at h
    ·rw[Ua,q] at h;exact h
    ·rw[Ua,q] at h;exact h
   exact (ih h').imp (TC _) (TC _)
section
variable {X:Cx}{pins:List (Addr×Obj)}{σ:St}{H:Hp}{s:Shared}{XN N:List Str}{sc scope:Scope}{js:List (Option Nat)}
theorem KL     {cl:List (Str×Addr)}{globals:Addr}{qual:Str}{env:Env}{Q:Env->Shared->Prop}(ck:CmpOkC XN sc scope N js t)
  (h:Q { scope:=scope,locals:=s.heap.objs.size,globals:=globals,cells:=(t,s.heap.objs.size+1)::cl,qual:=qual,func:=none,code:=env.code,frame:=env.frame,builtins:=env.builtins } { s with heap:=(s.heap.push { cls:=.type "dict",data:=.dict #[] }).push { cls:=.type "cell",data:=.cell none } }):wpAny M A (newFunctionEnv scope globals cl [] qual none .none (some env)) Q E s:=by
 simp only[newFunctionEnv,Option.isSome_some,U8];refine Tp (wpAny_alloc ?_);refine Tp (wpAny_layCells _ (fun name kind cells=>by cases hkc:kind==NameKind.cell<;>simp[hkc]) _ _ _ _ ?_);rw[ck.pushed,ck.laid,show ({ s with heap:=s.heap.push { cls:=.type "dict",data:=.dict #[] } }:Shared).heap.objs.size=s.heap.objs.size+1 from UN ..];exact Tv h
theorem Fi  {h1:Heap}{tk:Nat}{fp:List Addr}(ck:CmpOkC XN sc scope N js t)(hXN:X.N=XN)(hsc:X.env.scope=sc)(I:Inv X pins σ H s)(hf:∀b∈fp,oK X pins H b)
  (hfo:∀b∈fp,b<s.heap.objs.size) (hh:h1=(s.heap.push { cls:=.type "dict",data:=.dict #[] }).push { cls:=.type "cell",data:=.cell none }) :
  Inv (cxD t X N scope ⟨(t,s.heap.objs.size+1)::fP X.env scope.names [],s.heap.objs.size,s,H,fp,pins⟩) [] (inn js σ) H { s with heap:=h1,toks:=tk }:=by
 subst hXN hsc;have hk:∀b o,s.heap.get? b=some o->h1.get? b=some o:=fun b o e=>by rw[hh];exact TK _ (TK _ e)
 have hn:h1.Ns s.heap.objs.size (fun _=>none):=by rw[hh];exact (Heap.Ns.new s.heap (.type "dict")).keeps fun b o e=>TK _ e
 have hcell:h1.get? (s.heap.objs.size+1)=some { cls:=.type "cell",data:=.cell none }:=by rw[hh,<- UN s.heap { cls:=.type "dict",data:=.dict #[] }];exact TZ _ rfl
 have look:∀n c,((t,s.heap.objs.size+1)::fP X.env scope.names []).lookup n=some c->(n=t/\c=s.heap.objs.size+1)\/(n≠t/\(fP X.env scope.names []).lookup n=some c):=fun n c h=>by
  rw[Ua] at h;cases q:n==t with
  |true=>rw[q] at h;cases h;exact .inl ⟨by simpa using q,rfl⟩
  |false=>rw[q] at h;exact .inr ⟨fun e=>by rw[e] at q;simp at q,h⟩
 have sub:∀n c,(fP X.env scope.names []).lookup n=some c->X.env.cells.lookup n=some c:=ud fun n c h=>by simp at h
 have clt:∀n c,(fP X.env scope.names []).lookup n=some c->c<s.heap.objs.size:=fun n c h=>by obtain⟨v,q⟩:=I.cell n c (sub n c h);exact q.lt
 have has:∀x,(x,NameKind.free)∈scope.names->∃c,(fP X.env scope.names []).lookup x=some c:=fun x hx=>
  uc (.inl ⟨hx,I.ok.has x (ck.free _ hx rfl)⟩)
 refine⟨⟨I.ok.mod,ck.kind,I.ok.glob,I.ok.blt,Tw _,fun x y c h1 h2=>?inj,fun x hx=>?has,fun x c hx hl=>?cab,I.ok.hd,I.ok.frames,.inl rfl,fun b hb=>?exf,I.bs,?bsz,fun b o e hb=>?noex,fun b hb=>?exfs,I.stack,I.stkFree⟩,
  rfl,I.bare,Un.kept hk,⟨_,hn,fun i x v h1 h2 h3=>?loc⟩,fun x c h=>?cell,I.hok.fresh (Tw _),fun x c h=>?freeC,fun p hp=>?pin,I.hok.kept hk,?len⟩
 case inj=>
  rcases look x c h1 with ⟨e1,e2⟩|⟨e1,e2⟩<;>rcases look y c h2 with ⟨e3,e4⟩|⟨e3,e4⟩
  ·rw[e1,e3]
  ·have z:c<s.heap.objs.size:=clt y c e4;rw[e2] at z;exact absurd z (Nat.not_lt.mpr (UO _))
  ·have z:c<s.heap.objs.size:=clt x c e2;rw[e4] at z;exact absurd z (Nat.not_lt.mpr (UO _))
  ·exact I.ok.inj x y c (sub x c e2) (sub y c e4)
 case freeC=>
  rcases look x c h with ⟨e1,e2⟩|⟨e1,e2⟩
  ·rw[e2];exact I.hok.fresh (UO _)
  ·exact I.freeC x c (sub x c e2)
 case has=>
  have hb:(x,NameKind.free)∈scope.names\/(x,NameKind.cell)∈scope.names:=by
   rcases hx with hx|hx
   ·exact lP (.inl rfl) hx
   ·exact lP (.inr rfl) hx
  by_cases e:x=t
  ·exact⟨s.heap.objs.size+1,by subst e;show List.lookup x ((x,_)::_)=_;rw[Ua,beq_self_eq_true]⟩
  ·rcases hb with hb|hb
   ·obtain⟨c,hc⟩:=has x hb;refine⟨c,?_⟩;show List.lookup x ((t,_)::_)=_;rw[Ua,show (x==t)=false by simpa using e];exact hc
   ·exact absurd (ck.cell1 _ hb rfl) e
 case cab=>
  have e:x=t:=by have hx':(x==t)=true:=hx;simpa using hx'
  rcases look x c hl with ⟨_,e2⟩|⟨e1,_⟩
  ·rw[e2];exact UO _
  ·exact absurd e e1
 case exf=>
  obtain⟨f0,f1,f2,f3,f4,f5⟩:=hf b hb;refine⟨TX (hfo b hb),fun x c e=>?_⟩;rcases look x c e with ⟨_,e2⟩|⟨_,e2⟩
  ·intro z;have w:=hfo b hb;rw[<- z,e2] at w;exact absurd w (Nat.not_lt.mpr (UO _))
  ·exact f4 x c (sub x c e2)
 case bsz=>exact T1 I.ok.bsz I.sz
 case noex=>
  obtain⟨f0,f1,f2,f3,f4,f5⟩:=hf b hb;rcases f3 with f3|f3
  ·exact I.ok.noex b o e f3
  ·exact absurd (Ud (TM e) (T1 I.ok.bsz f3)) (UH _)
 case exfs=>
  obtain⟨f0,f1,f2,f3,f4,f5⟩:=hf b hb;intro z;rcases TD.mp (I.stkSub b z) with e|e
  ·exact f1 e
  ·exact f2 e
 case loc=>
  have hl:N.length=js.length:=ck.len.symm;have hi:i<js.length:=by have:=(TR.mp h1).1;have e:(cxD t X N scope ⟨(t,s.heap.objs.size+1)::fP X.env scope.names [],s.heap.objs.size,s,H,fp,pins⟩).N=N:=rfl;rw[e] at this;lia
  have hN:N[i]?=some x:=h1;have hj:js[i]?=some js[i]:=Uf hi;unfold inn at h2;rw[TW,hj] at h2;cases q:js[i] with
  |none=>rw[q] at h2;cases h2
  |some j=>
   rw[q] at h2 hj;have h2':(σ[j]?).join=some v:=T6 h2;have hσ:σ[j]?=some (some v):=by
    cases e:σ[j]? with
    |none=>rw[e] at h2';cases h2'
    |some o=>rw[e] at h2';exact TQ some h2'
   have hm:(x,some j)∈N.zip js:=by refine Vl (i:=i) ?_;rw[List.getElem?_zip_eq_some];exact⟨hN,hj⟩
   have hc:=VB.mp ck.ix _ hm;simp only[Ul,VP] at hc;obtain⟨c1,c2⟩:=hc;have hfr:(x,NameKind.free)∈scope.names:=Vj c2;have hvis:X.env.scope.names.lookup x=some .cell\/X.env.scope.names.lookup x=some .free:=ck.free _ hfr rfl;obtain⟨m0,hn0,hl0⟩:=I.loc;obtain⟨u,r,l⟩:=hl0 j x v c1 hσ (hvis.elim (fun z=>.inr (.inl z)) fun z=>.inr (.inr z));refine⟨u,r,.inr ⟨?_,?_⟩⟩
   ·exact oh c2
   ·rcases l with ⟨k1,_⟩|⟨_,c,k1,k2⟩
    ·have k1':X.env.scope.names.lookup x=some .local:=k1;rcases hvis with z|z
     ·rw[z] at k1';cases k1'
     ·rw[z] at k1';cases k1'
    ·obtain⟨c',hc'⟩:=has x hfr;have e:=sub x c' hc';rw[k1] at e;cases e;obtain⟨oc,ho,hd⟩:=k2;refine⟨c,?_,oc,hk _ _ ho,hd⟩;have ne:x≠t:=fun e=>by rw[e,ck.tl] at c2;cases c2
     show List.lookup x ((t,_)::_)=_;rw[Ua,show (x==t)=false by simpa using ne];exact hc'
 case cell=>
  rcases look x c h with ⟨e1,e2⟩|⟨e1,e2⟩
  ·exact⟨none,_,by rw[e2];exact hcell,rfl⟩
  ·obtain⟨v,oc,ho,hd⟩:=I.cell x c (sub x c e2);exact⟨v,oc,hk _ _ ho,hd⟩
 case pin=>
  have hp':p∈X.pn++pins:=by simpa[cxD,cxC] using hp
  obtain⟨p1,p2,p3,p4,p5⟩:=I.pin p hp';refine⟨hk _ _ p1,p2,TX (TM p1),fun z=>?_,p5⟩;rcases TD.mp (I.stkSub _ z) with e|e
  ·exact p3 e
  ·exact p4 e
 case len=>
  show (inn js σ).length=N.length;unfold inn;rw[Tt];exact ck.len
variable {tg iter elt:Expr}{ifs:List Expr}{pos:Pos}{wi:TI}{g:TG}{tt:TIf}{te:TE}
theorem Cp  {E:Value->Shared->Prop}{R:Result->Shared->Prop}{it:Addr}{fp:List Addr}    {W:Nat->Nat->Hp->Prop}{n:Nat}
  (hc:X.calm=true) (T:Turn X.prog X.w X.K tg J fp it tn) (hz:∀b∈fp,∀H',H' b=none->oK (cxD t X N scope z) [] H' b)
  (hg:PG (cxD t X N scope z) tg g) (hs:su js g) (ht:PIf (cxD t X N scope z) ifs tt) (he:PE (cxD t X N scope z) elt te)
  (turn:∀i m H,W i m H->(J.stop i H/\∀s',Inv (cxD t X N scope z) [] (inn js σ) H s'->R (.ok .next) s')\/(J.go i H/\∀x H',J.yld i H x H'->g x (inn js σ) H' fun σ2 H2=>tt σ2 H2 fun b H3=>
   if b=true then te σ2 H3 fun y H4=>∃ys,H4 D=some (.lst ys)/\ys.length<sizeLine/\∃m',m'<m/\W (i+1) m' (upd H4 D (.lst (ys++[y]))) else ∃m',m'<m/\W (i+1) m' H3))
  {H1:Hp} (I1:Inv (cxD t X N scope z) [] (inn js σ) H1 s1) (t1:tn 0 s1.heap) (f1:∀b∈fp,H1 b=none) (w1:W 0 n H1) :
  codeAny (model X.prog X.w) X.A (.compLoop (.ListComp elt [⟨tg,iter,ifs,0⟩] scope pos) 0 (.ref it) (.ref D) (compEnvC scope z.cl z.C X.env)) R s1:=by
 refine codeAny_loop (c:=.compLoop (.ListComp elt [⟨tg,iter,ifs,0⟩] scope pos) 0 (.ref it) (.ref D) (compEnvC scope z.cl z.C X.env)) rfl
  (fun k s'=>∃i H',Inv (cxD t X N scope z) [] (inn js σ) H' s'/\tn i s'.heap/\(∀b∈fp,H' b=none)/\W i k H') ?_ n ⟨0,H1,I1,t1,f1,w1⟩
 rintro k s2 ⟨i,H2,I2,t2,f2,w2⟩;show wpAny (model X.prog X.w) X.A ((compTurn (.ListComp elt [⟨tg,iter,ifs,0⟩] scope pos) 0 (.ref it) (.ref D) (compEnvC scope z.cl z.C X.env)).onRaise fun x=>do noteFrame x (compEnvC scope z.cl z.C X.env);theTreesLotGoes x) _ _ s2;refine wpAny_noted ?_;rw[compTurn_list];refine Tp (wpAny_standAt ?_);rcases turn i k H2 w2 with ⟨stop,fin⟩|⟨go,step⟩
 ·refine Tp (thn (T.done (cxD t X N scope z) rfl rfl rfl hc i [] s2 (inn js σ) H2 _ I2 (fun b hb=>hz b hb H2 (f2 b hb)) t2 stop) fun r s3 h3=>?_);obtain⟨rfl,I3⟩:=h3;exact Tv (fin s3 I3)
 ·refine Tp (thn (T.item (cxD t X N scope z) rfl rfl rfl hc i [] s2 (inn js σ) H2 _ I2 (fun b hb=>hz b hb H2 (f2 b hb)) t2 go) fun r s3 h3=>?_);obtain⟨u,rfl,h3⟩:=h3;refine Tp (thn h3 fun _ s4 h4=>?_);obtain⟨x,H4,I4,r4,y4,t4,f4⟩:=h4;have P4:=I4.pinned (fun b hb=>hz b hb H4 (f4 b hb)) (T.obj _ _ t4);have ff:∀ {e:Value} {s':Shared},(cxD t X N scope z).xe e s'->False:=fun h=>h;refine Tp (Uq (hg _ s4 (inn js σ) H4 x u _ P4 r4 (hs σ x (inn js σ) H4 _ (Lev.refl _) (step x H4 y4))) (fun _ s5 h5=>?_) fun _ _ h=>(ff h).elim);obtain⟨σ5,H5,I5,lev,q5⟩:=h5;refine Tp (Uq (ht _ s5 σ5 H5 _ I5 q5) (fun ok s6 h6=>?_) fun _ _ h=>(ff h).elim);obtain⟨H6,I6,q6⟩:=h6;have again:∀ {s7:Shared} {H7:Hp},Inv (cxD t X N scope z) ([]++q9 fp s4.heap) σ5 H7 s7->(∃m',m'<k/\W (i+1) m' H7)->∃m,m<k/\∃i H',Inv (cxD t X N scope z) [] (inn js σ) H' s7/\tn i s7.heap/\(∀b∈fp,H' b=none)/\W i m H':=fun {s7 H7} I7 h7=>by
   obtain⟨m',hm,w7⟩:=h7;refine⟨m',hm,i+1,H7,(I7.unpinned).weak lev.1 lev.2,T.keep _ _ _ t4 fun b hb o e=>(I7.pin (b,o) (TH _ (TH _ (fV hb e)))).1,fun b hb=>?_,w7⟩;obtain⟨o,e,d⟩:=T.obj _ _ t4 b hb;exact (I7.pin (b,o) (TH _ (TH _ (fV hb e)))).2.1
  cases ok with
  |false=>
   rw[To (by decide)] at q6;exact Tv ⟨rfl,again I6 q6⟩
  |true=>rw[Tn rfl] at q6;refine Tp (Tp (Uq (he _ s6 σ5 H6 _ I6 q6) (fun y s7 h7=>?_) fun _ _ h=>(ff h).elim));obtain⟨vy,H7,I7,r7,ys,hD,hl,q7⟩:=h7;refine Tp (Uq (qX (X:=cxD t X N scope z) _ s7 σ5 H7 (.ref D) [vy] (.ref D) [y] (fun _ H'=>∃m',m'<k/\W (i+1) m' H') I7 rfl (.cons r7 .nil) ⟨D,ys,vy,rfl,rfl,hD,hl,q7⟩) (fun _ s8 h8=>?_) fun _ _ h=>(ff h).elim);obtain⟨_,H8,I8,_,q8⟩:=h8;exact Tv (Tv ⟨rfl,again I8 q8⟩)
theorem Aq   {RR:Value->Addr->Result->Shared->Prop}{Q:VK}   (ck:CmpOkC XN sc scope N js t)(hXN:X.N=XN)(hsc:X.env.scope=sc)(hc:X.calm=true)
  (hg:∀z,PG (cxD t X N scope z) tg g) (hs:su js g) (ht:∀z,PIf (cxD t X N scope z) ifs tt) (he:∀z,PE (cxD t X N scope z) elt te)
  (h2:PIE X pins σ tg (fun J H1=>∀D,H1 D=none->∃W:Nat->Nat->Hp->Prop,(∃m,W 0 m (upd H1 D (.lst [])))/\∀i m H,W i m H ->
   (J.stop i H/\Q (.ref D) H)\/(J.go i H/\∀x H',J.yld i H x H'->g x (inn js σ) H' fun σ2 H2=>tt σ2 H2 fun b H3=>
    if b=true then te σ2 H3 fun y H4=>∃ys,H4 D=some (.lst ys)/\ys.length<sizeLine/\∃m',m'<m/\W (i+1) m' (upd H4 D (.lst (ys++[y]))) else ∃m',m'<m/\W (i+1) m' H3)) itv s2)
  (hRR:∀D C s' H' m o,Inv X (pins++[(C,o)]) σ H' s'->s'.heap.Ns C m->(X.s₀.heap.objs.size<=C/\C≠X.env.locals/\(∀x c,X.env.cells.lookup x=some c->c≠C)/\∀p∈X.pn++pins,p.1≠C)->H' C=none->Q (.ref D) H'->RR (.ref D) C (.ok .next) s') :
  wpAny (model X.prog X.w) X.A (newList []) (fun acc s₃=>wpAny (model X.prog X.w) X.A (newFunctionEnv scope X.env.globals (fP X.env scope.names []) [] X.env.qual none .none (some X.env)) (fun cenv s₄=>
   codeAny (model X.prog X.w) X.A (.compStart (.ListComp elt [⟨tg,iter,ifs,0⟩] scope pos) 0 itv acc { cenv with scope:=relabel scope X.env }) (RR acc cenv.locals) s₄) E s₃) E s2:=by
 obtain⟨it,fp,tn,J,H2,rfl,I2,T,t2,f2,q2⟩:=h2;have fo:∀b∈fp,b<s2.heap.objs.size:=fun b hb=>by obtain⟨o,e,_⟩:=T.obj _ _ t2 b hb;exact TM e
 have hD:H2 s2.heap.objs.size=none:=I2.fresh;obtain⟨W,⟨n,w0⟩,turn⟩:=q2 _ hD;refine Ut (KL ck ?_);generalize hh1:((s2.heap.push { cls:=.type "list",data:=.seq ([]:List Value).toArray }).push { cls:=.type "dict",data:=.dict #[] }).push { cls:=.type "cell",data:=.cell none }=h1;have I3:Inv X pins σ (upd H2 s2.heap.objs.size (.lst [])) { s2 with heap:=s2.heap.push { cls:=.type "list",data:=.seq ([]:List Value).toArray },toks:=s2.toks }:=I2.lnew (its:=[]) .nil (T2 _);have f3:∀b∈fp,oK X pins (upd H2 s2.heap.objs.size (.lst [])) b:=fun b hb=>by obtain⟨g0,g1⟩:=f2 b hb;exact⟨by rw[aG (TX (fo b hb))];exact g0,g1⟩
 have sz:(s2.heap.push { cls:=.type "list",data:=.seq ([]:List Value).toArray }).objs.size=s2.heap.objs.size+1:=UN _ _;have kept:∀b o,(s2.heap.push { cls:=.type "list",data:=.seq ([]:List Value).toArray }).get? b=some o->h1.get? b=some o:=fun b o e=>by rw[<- hh1];exact TK _ (TK _ e)
 have I4:=Fi (tk:=s2.toks) ck hXN hsc I3 f3 (fun b hb=>by show b<(s2.heap.push _).objs.size;rw[sz];exact VC (fo b hb)) hh1.symm;have t4:tn 0 h1:=T.keep _ _ _ t2 fun b hb o e=>kept b o (TK _ e);have fz:∀b∈fp,∀H',H' b=none->oK (cxD t X N scope ⟨(t,(s2.heap.push { cls:=.type "list",data:=.seq ([]:List Value).toArray }).objs.size+1)::fP X.env scope.names [],(s2.heap.push { cls:=.type "list",data:=.seq ([]:List Value).toArray }).objs.size,{ s2 with heap:=s2.heap.push { cls:=.type "list",data:=.seq ([]:List Value).toArray },toks:=s2.toks },upd H2 s2.heap.objs.size (.lst []),fp,pins⟩) [] H' b:=fun b hb H' hn=>by obtain⟨g0,g1,g2,g3,g4,g5⟩:=f3 b hb;refine⟨hn,(I4.ok.exf b hb).1,I4.ok.exfs b hb,.inl hb,(I4.ok.exf b hb).2,fun p hp=>?_⟩;exact g5 p (by simpa[cxD,cxC] using hp)
 have loop:=Cp (X:=X) (t:=t) (σ:=σ) (N:=N) (scope:=scope) (js:=js) (iter:=iter) (pos:=pos) (E:=E) (R:=RR (.ref s2.heap.objs.size) (s2.heap.push { cls:=.type "list",data:=.seq ([]:List Value).toArray }).objs.size) (D:=s2.heap.objs.size) (W:=W) (n:=n)
  hc T fz (hg _) hs (ht _) (he _) (fun i m H w=>(turn i m H w).imp (fun a=>⟨a.1,fun s' Y=>?_⟩) id) I4 t4 (fun b hb=>(f3 b hb).1) w0
 ·exact codeAny_compStart_list loop (T.self _ 0 _ _ _ t4 loop)
 ·have bb:=Y.base;have J0:Inv X pins σ H s':=I3.call' Y.os bb Y.hok Y.bare fun b hb=>by
   obtain⟨g0,g1,g2,g3,g4,g5⟩:=f3 b hb;exact⟨g3,g1,g4,g5⟩
  obtain⟨mC,nC,_⟩:=Y.loc;obtain⟨oC,eC,dC⟩:∃o,s'.heap.get? (s2.heap.push { cls:=.type "list",data:=.seq ([]:List Value).toArray }).objs.size=some o/\∀v,o.data ≠ .cell v:=by obtain⟨o,es,ep,ho,hd,_⟩:=nC;exact⟨o,ho,fun v z=>by rw[hd] at z;cases z⟩
  have lC:X.s₀.heap.objs.size<=(s2.heap.push { cls:=.type "list",data:=.seq ([]:List Value).toArray }).objs.size:=I3.sz;have cC:(s2.heap.push { cls:=.type "list",data:=.seq ([]:List Value).toArray }).objs.size≠X.env.locals:=Nat.ne_of_gt I3.lt;have kC:∀x c,X.env.cells.lookup x=some c->c≠(s2.heap.push { cls:=.type "list",data:=.seq ([]:List Value).toArray }).objs.size:=fun x c e=>by obtain⟨v,q⟩:=I3.cell x c e;exact TX q.lt
  have pC:∀p∈X.pn++pins,p.1≠(s2.heap.push { cls:=.type "list",data:=.seq ([]:List Value).toArray }).objs.size:=fun p hp=>TX (TM (I3.pin p hp).1);have J1:Inv X (pins++[((s2.heap.push { cls:=.type "list",data:=.seq ([]:List Value).toArray }).objs.size,oC)]) σ H s':=J0.pins_of fun p hp=>by
   rcases TB.mp hp with hp|hp
   ·exact J0.pin p (TH _ hp)
   ·rw[Ts.mp hp];exact⟨eC,Y.free,cC,I3.nofs (Tw _),dC⟩
  exact hRR _ _ s' H mC oC J1 nC ⟨lC,cC,kC,pC⟩ Y.free a.2
theorem Iw  (ck:CmpOkC XN sc scope N js t)(hi:PI X tg iter wi)(hg:∀z,PG (cxD t X N scope z) tg g)(hs:su js g)(ht:∀z,PIf (cxD t X N scope z) ifs tt)(he:∀z,PE (cxD t X N scope z) elt te)
  (hXN:X.N=XN:=by rfl) (hsc:X.env.scope=sc:=by rfl) (hc:X.calm=true:=by rfl) (hf:∀x,foldedSetIterable iter X.env x=pure x:=by intro _;rfl) :
  PE X (.ListComp elt [⟨tg,iter,ifs,0⟩] scope pos) (yp js wi g tt te):=by
 intro pins s σ H Q I h;rw[eval_ListComp];have hcl:closureFor scope X.env=pure (fP X.env scope.names []):=nv fun y hy hk=>I.ok.has y.1 (by
  have:=ck.free y hy hk;rw[<- hsc] at this
  exact this)
 refine Wu (use:=none) rfl hf hcl ck.kind ck.loc (thn (hi pins s σ H _ I h) fun v s1 h1=>thn h1 fun itv s2 h2=>?_);refine Aq (RR:=fun acc C=>compPost (model X.prog X.w) X.A X.xe none (EP X pins σ Q) acc C) ck hXN hsc hc hg hs ht he h2 ?_;intro D C s' H' m o J nC hC fC q;refine⟨m,nC,fun h' sb=>⟨.ref D,H',?_,rfl,q⟩⟩;have J0:Inv X pins σ H' s':=J.unpinned;exact J0.turned (t':=s'.toks) (it:=C) (fun b o hb e=>sb.extBut b o hb e) fC hC.2.1 (.inr hC.1) hC.2.2.1 hC.2.2.2
end
end L2
namespace RevT
open PySem PySem.Calls PyProof.Rows
theorem slot_next:Slot "reversed" "__next__" "reversed.__next__" := .of (owner := "reversed") (n := "__next__") (by rw[Vd,Ve];kernel_rfl) (by decide +kernel) (by decide +kernel) (by decide +kernel) (by first|exact .inl (by decide +kernel)|exact .inr (by decide +kernel)) (by rw[Vp];kernel_rfl)
theorem ui:entryFor table "reversed.__next__" = some Builtin.«reversed.__next__»:=entryFor_of_tree (by kernel_rfl)
theorem xh (a:Value):argsOk "reversed.__next__" ⟨[a],[]⟩:=by unfold argsOk;kernel_rfl
theorem yn:Slot "reversed" "__iter__" "reversed.__iter__" := .of (owner := "reversed") (n := "__iter__") (by rw[Vd,Ve];kernel_rfl) (by decide +kernel) (by decide +kernel) (by decide +kernel) (by first|exact .inl (by decide +kernel)|exact .inr (by decide +kernel)) (by rw[Vp];kernel_rfl)
theorem EH (a:Value):argsOk "reversed.__iter__" ⟨[a],[]⟩:=by unfold argsOk;kernel_rfl
theorem Cr:entryFor table "reversed.__iter__" = some Builtin.«dict_keyiterator.__iter__»:=entryFor_alias (id' := "dict_keyiterator.__iter__") (by kernel_rfl) (by first|rfl|decide +kernel|(unfold String.splitOn;simp +decide [String.splitOnAux])) (by decide +kernel) (by kernel_rfl)
theorem M6:typeLookup (.type "tuple") "__reversed__" = pure none:=by rw[Vd,Ve];kernel_rfl
theorem DQ:typeLookup (.type "tuple") "__getitem__" = pure (some (.builtin "tuple.__getitem__")):=by rw[Vd,Ve];kernel_rfl
theorem KM:isSubtype (.type "tuple") (.type "dict")=pure false:=by rw[Vp];kernel_rfl
theorem sub_self:isSubtype (.type "reversed") (.type "reversed")=pure true:=by rw[Vp];kernel_rfl
noncomputable def vq (t:Addr)(i:Int):Obj:={ cls:=.type "reversed",data:=.fields #[.ref t,rawInt i] }
def IsRev (h:Heap)(a t:Addr)(i:Int):Prop:=∃o,h.get? a=some o/\o.cls = .type "reversed" /\ o.data = .fields #[.ref t,rawInt i]
section
variable {prog:Program}{w:World}{A:Around}{E:Value->Shared->Prop}{s:Shared}
theorem IsRev.typeIs  {i:Int}(x:IsRev s.heap a t i):s.TypeIs (.ref a) "reversed" := let ⟨o,ho,hc,_⟩:=x;⟨o,ho,hc⟩
theorem FG {it:Addr}{i:Nat}  {x:Value}{Q:Option Value->Shared->Prop}(hit:IsRev s.heap it t (i:Int))(ht:IsTup s.heap t items)(hx:items[i]?=some x)(hi:(i:Int)<2 ^ 62)
  (hQ:∀h' tk,IsRev h' it t ((i:Int)-1)->Heap.SameBut it s.heap h'->Q (some x) { s with heap:=h',toks:=tk }):wpAny (model prog w) A (pyNext (.ref it)) Q E s:=by
 obtain⟨o,ho,hc,hd⟩:=id hit;unfold pyNext;refine Tp (VD (Vm (name:=Str.ofString "__next__") hit.typeIs slot_next (UU slot_next hit.typeIs ui ?_ (xh _))));unfold Builtin.«reversed.__next__»;refine Tp (Vf (a:=(Value.ref it,[])) rfl ?_);try dsimp only
 refine Tp (U9 ho hd (x:=.ref t) rfl ?_);refine Tp (U9 ho hd (x:=rawInt (i:Int)) rfl ?_);show wpAny _ _ (if (i:Int)<0 then _ else _) _ _ s;rw[To (by lia)];refine Tp (VZ ht.typeIs DQ ?_);rw[To (show ¬((some (Value.builtin "tuple.__getitem__")).isNone=true) from UM)];refine Tp (wpAny_mkInt ?_);have p63:(2:Int) ^ 63=9223372036854775808:=by decide
 have p62:(2:Int) ^ 62=4611686018427387904:=by decide
 have hsz:=(Array.getElem?_eq_some_iff.mp hx).1;have hix:seqIndex? (i:Int) items.size=some i:=by unfold seqIndex?;simp;lia
 refine Tp (VD (getItem_tuple (s:={ s with toks:=s.toks+1 }) (j:=i) ht (by lia) (by lia) hix hx ?_));dsimp only;refine Tp (U9 (s:={ s with toks:=s.toks+1 }) ho hd (x:=rawInt (i:Int)) rfl ?_);show wpAny _ _ (setField (.ref it) 1 (rawInt ((i:Int)-1)) >>= _) _ _ _;refine Tp (V1 (s:={ s with toks:=s.toks+1 }) ho hd (by simp) ?_);refine Tv ⟨x,rfl,Tv (hQ _ _ ?_ (V2 ..))⟩;exact⟨_,VO _ ho (Wz (VJ hd _)),(Obj.cls_mapFields ..).trans hc,by rw[VJ hd];simp⟩
theorem u2 {it:Addr}{Q:Option Value->Shared->Prop}(hh:A.handled=none)(hit:IsRev s.heap it t (-1))(hQ:∀h',Heap.ExtBut it s.heap h'->Q none { s with heap:=h' }):wpAny (model prog w) A (pyNext (.ref it)) Q E s:=by
 obtain⟨o,ho,hc,hd⟩:=id hit;unfold pyNext;refine Tp (VD (Vm (name:=Str.ofString "__next__") hit.typeIs slot_next (UU slot_next hit.typeIs ui ?_ (xh _))));unfold Builtin.«reversed.__next__»;refine Tp (Vf (a:=(Value.ref it,[])) rfl ?_);try dsimp only
 refine Tp (U9 ho hd (x:=.ref t) rfl ?_);refine Tp (U9 ho hd (x:=rawInt (-1)) rfl ?_);show wpAny _ _ (if (-1:Int)<0 then _ else _) _ _ s;rw[Tn (by decide)];refine Tp (UX ?_);refine Tp ?_;refine Tp (V1 ho hd (by simp) ?_);have ho':=VO (h:=s.heap) (Obj.mapFields (·.setIfInBounds 1 (rawInt (-1)))) ho (Wz (VJ hd _));have hd':=VJ hd (·.setIfInBounds 1 (rawInt (-1)));refine V1 (s:={ s with heap:=s.heap.update it (Obj.mapFields (·.setIfInBounds 1 (rawInt (-1)))) }) ho' hd' (by simp) ?_;first
 |show wpAny _ _ (newExc (.type "StopIteration") [] >>= _) _ _ _
 | (refine Tp ?_;show wpAny _ _ (newExc (.type "StopIteration") [] >>= _) _ _ _)
 refine Tp ?_;simp only[newExc,newTuple];refine Tp (Ut ?_ (by size_fits));refine Tp (m:=firstArgMember _ _) (Vf (a:=Value.none) (by first|rfl|(simp only[firstArgMember];rfl)) ?_);refine Ut ?_ (by size_fits);simp only[raiseNew];refine Tp (wpAny_handled ?_);first|rw[show A.in1.handled=none from hh]|rw[hh]
 refine Tp (Tv (wpAny_throw ?_));refine Tp (Wh (T := "StopIteration") (b:=true) ⟨_,TZ _ rfl,rfl⟩ isSubtype_stop ?_);exact Tv (hQ _ ((((V2 ..).trans (V2 ..)).extBut.push _).push _))
theorem xO {it:Addr}{i:Int}{Q:Value->Shared->Prop}(hit:IsRev s.heap it t i)(h:Q (.ref it) s):wpAny (model prog w) A (pyIter (.ref it)) Q E s:=by refine wpAny_pyIter_slot hit.typeIs yn (UU yn hit.typeIs Cr ?_ (EH _));show wpAny _ _ (ret (.ref it)) _ _ s;exact Tv ⟨_,rfl, "reversed",_,hit.typeIs,slot_next.lookup,h⟩
end
theorem D5:mroOf (.type "reversed")=pure [.type "reversed",.type "object"]:=by rw[mroOf_type];kernel_rfl
theorem HN:typeLookup (.type "reversed") "__new__" = pure (some (.builtin "reversed.__new__")):=by rw[Vd,Ve];kernel_rfl
theorem F5:Slot "reversed" "__init__" "object.__init__" := .of (owner := "object") (n := "__init__") (by rw[Vd,Ve];kernel_rfl) (by decide +kernel) (by decide +kernel) (by decide +kernel) (by first|exact .inl (by decide +kernel)|exact .inr (by decide +kernel)) (by rw[Vp];kernel_rfl)
theorem Cg:TypeCalled "reversed" "reversed.__new__" "object.__init__" := ⟨by decide +kernel,by decide +kernel,⟨_,_,D5⟩,madeBy_type D5 HN (by decide +kernel),by decide +kernel,by rw[Vp];kernel_rfl,F5⟩
theorem zQ (a:Value):checkTypeCall "reversed" ⟨[a],[]⟩=pure ():=by kernel_rfl
theorem A7 (a:Value):checkBuiltinCall "reversed.__new__" ⟨[.type "reversed",a],[]⟩=pure ():=by kernel_rfl
theorem E3:entryFor table "reversed.__new__" = some Builtin.«reversed.__new__»:=entryFor_of_tree (by kernel_rfl)
theorem zi (a:Value):Builtin.SmallTypes.newClass "reversed" ⟨[.type "reversed",a],[]⟩=pure (.type "reversed",[a]):=by unfold Builtin.SmallTypes.newClass;simp only[isType,sub_self,pure_bind,Bool.not_true,Wg,UT]
theorem Fx (t:Addr)(items:Array Value)(hz:(items.size:Int)<2 ^ 63):Meets (Builtin.«reversed.__new__» ⟨[.type "reversed",.ref t],[]⟩) (fun _ R s=>IsTup s.heap t items/\R (.ok (.ret (.ref s.heap.objs.size))) { s with heap:=s.heap.push (vq t ((items.size:Int)-1)),toks:=s.toks+1+1 }):=
 .of_wp fun prog w A R s h=>by
  obtain⟨ht,h⟩:=h;unfold Builtin.«reversed.__new__»;refine Tp (Vf (zi _) ?_);try dsimp only
  refine Tp (Vf (a:=()) (by first|rfl|kernel_rfl) ?_);refine Tp (Vf (a:=()) (by first|rfl|kernel_rfl) ?_);try dsimp only
  refine Tp (VZ ht.typeIs M6 ?_);try dsimp only
  refine Tp (Tp (Wh (T := "tuple") (b:=false) ht.typeIs KM ?_));rw[To UM];refine Tp (VZ ht.typeIs DQ ?_);refine (show wpAny _ _ (pure true) _ _ _ from Tv ?_);show wpAny _ _ (if (!true)=true then _ else _) _ _ _;rw[To (by decide)];refine Tp (len_tuple ht hz ?_);show wpAny _ _ (Builtin.SmallTypes.newRecord (.type "reversed") [.ref t,rawInt ((items.size:Int)-1)] >>= _) _ _ _;refine Tp (Ut (data:=.fields #[.ref t,rawInt ((items.size:Int)-1)]) ?_ (by size_fits));exact Tv ⟨_,rfl,h⟩
theorem GY {prog:Program}    {s:Shared}   {Q:Value->Shared->Prop}(ht:IsTup s.heap t items)(hz:(items.size:Int)<2 ^ 63)
  (h:Q (.ref s.heap.objs.size) { s with heap:=s.heap.push (vq t ((items.size:Int)-1)),toks:=s.toks+1+1 }):wpAny (model prog w) A (call (.type "reversed") [.ref t]) Q E s:=
 callType_new Cg (by decide) (zQ _) (A7 _) (fun obj=>F.args_object_init_2 obj _) E3 (Fx t items hz) ⟨ht,⟨_,TZ _ rfl,rfl⟩,h⟩
end RevT
namespace L2
open PySem PySem.Spec PyProof.Rows
noncomputable def Itv (K:W.Frag)(a:Addr)(xs:List V):It:=
 ⟨fun i H=>SqT K H a xs/\∃x,xs.reverse[i]?=some x,fun i H x H'=>H'=H/\xs.reverse[i]?=some x,fun i H=>SqT K H a xs/\xs.length=i⟩
noncomputable def O0 (K:W.Frag)(ta:TA):TI:=fun σ H R=>ta σ H fun vs H1=>∃a xs,vs=[.ref a]/\SqT K H1 a xs/\R (Itv K a xs) H1
section
variable {X:Cx}{tg:Expr}
theorem JO {P:Program}{w:World}{K:W.Frag}(a it:Addr)(xs:List V):Turn P w K tg (Itv K a xs) [it] it (fun i h=>RevT.IsRev h it a ((xs.length:Int)-1-(i:Nat))) where
 mem:=by simp
 obj:=fun i h st b hb=>by rw[Ts.mp hb];obtain⟨o,e,c,d⟩:=st;exact⟨o,e,fun v z=>by rw[d] at z;cases z⟩
 keep:=fun i h h' st k=>by obtain⟨o,e,r⟩:=st;exact⟨o,k it (by simp) _ e,r⟩
 item:=by
  intro X hP hw hK hc i pins s σ H E I hf st hg;subst hP hw hK;obtain⟨hq,x,hx⟩:=hg;obtain⟨its,rv,p,hz⟩:=I.tuple hq;have hi:i<xs.length:=by have:=(TR.mp hx).1;simpa using this
  have hx':xs[xs.length-1-i]?=some x:=by rw[WA hi] at hx;exact hx
  obtain⟨u,hu,ru⟩:=rv.get hx';obtain⟨f0,f1,f2,f3,f4,f5⟩:=hf it (by simp);have e:(xs.length:Int)-1-(i:Nat)=((xs.length-1-i:Nat):Int):=by lia
  have hn:(sizeLine:Nat)<2 ^ 60:=by rw[Uj];decide
  have p62:(2:Int) ^ 62=4611686018427387904:=by decide
  rw[e] at st;refine RevT.FG st p (x:=u) (by simpa using hu) (by lia) fun h' tk st' sb=>?_;have I1:Inv X pins σ H { s with heap:=h',toks:=tk }:=I.turned (fun b o hb e=>(sb.2 b hb).trans e) f0 f1 f3 f4 f5;have st2:RevT.IsRev h' it a ((xs.length:Int)-1-((i+1:Nat):Int)):=by
   have e2:(xs.length:Int)-1-((i+1:Nat):Int)=((xs.length-1-i:Nat):Int)-1:=by lia
   rw[e2];exact st'
  obtain⟨o,e,c,d⟩:=id st';exact⟨u,rfl,uy (s:={ s with heap:=h',toks:=tk }) e c d (by decide) ⟨x,H,I1,ru,⟨rfl,hx⟩,st2,fun b hb=>(hf b hb).1⟩⟩
 done:=by
  intro X hP hw hK hc i pins s σ H E I hf st hg;subst hP hw hK;obtain⟨hq,hx⟩:=hg;obtain⟨f0,f1,f2,f3,f4,f5⟩:=hf it (by simp);have e:(xs.length:Int)-1-(i:Nat) = -1:=by lia
  rw[e] at st;exact RevT.u2 (I.ok.hd hc) st fun h' eb=>⟨rfl,I.turned (t':=s.toks) (fun b o hb e=>eb b o hb e) f0 f1 f3 f4 f5⟩
 self:=fun _ _ _ _ _ st h=>RevT.xO st h
theorem Nq {a:Expr}{ta:TA}{p pos:Pos}(hg:Gl X "reversed") (hm:X.mg "reversed" = none) (ha:PA X [a] ta) (hs:starEach [a] X.env=[(false,eval a X.env)]:=by rfl):PI X tg (.Call (.Name "reversed" p) [a] [] pos) (O0 X.K ta):=by
 intro pins s σ H R I h;refine Call_ (j7 I hg hm rO (Vi (thn (ha pos pins s σ H _ I h) fun us s1 h1=>?_) hs rfl));obtain⟨vs,H1,I1,r1,t,xs,rfl,hq,q⟩:=h1;obtain⟨u,rfl,rx⟩:=BZ r1;cases rx;obtain⟨its,rv,p,hz⟩:=I1.tuple hq;have hlen:=rv.length;have hn:=nN;refine RevT.GY p (by simp only[TV]<;>lia) ?_;have I2:Inv X pins σ H1 { s1 with heap:=s1.heap.push (RevT.vq t ((its.toArray.size:Int)-1)),toks:=s1.toks+1+1 }:=I1.kept fun b o e=>TK _ e;have st:RevT.IsRev (s1.heap.push (RevT.vq t ((its.toArray.size:Int)-1))) s1.heap.objs.size t ((xs.length:Int)-1-((0:Nat):Int)):=by
  refine⟨_,TZ _ rfl,rfl,?_⟩;have e:(xs.length:Int)-1-((0:Nat):Int)=(its.toArray.size:Int)-1:=by simp[hlen]
  rw[e];rfl
 refine RevT.xO (s:={ s1 with heap:=s1.heap.push (RevT.vq t ((its.toArray.size:Int)-1)),toks:=s1.toks+1+1 }) st ?_;refine⟨s1.heap.objs.size,[s1.heap.objs.size],_,_,H1,rfl,I2,JO t _ xs,st,fun b hb=>?_,q⟩;rw[Ts.mp hb];exact I1.fpOk (Tw _) I1.fresh
end
end L2
namespace M
open PySem L2
section
variable {K:W.Frag}{S S' H H':Hp}
noncomputable def PL:List D->Option (List D)
 |[.tup l]=>some l.reverse|_=>none
@[simp] noncomputable def yu (a:XA):XA:=fun ρ=>(a ρ).bind PL
theorem O1   (h:SAP K t a):SI K (O0 K t) (yu a):=fun ρ σ S H R l r x k=>by
 unfold yu at x;cases q:a ρ with
 |none=>rw[q] at x;cases x
 |some ds=>
  rw[q] at x;dsimp only[Option.bind] at x;unfold PL at x;split at x
  ·rename_i l';cases x;refine h ρ σ S H _ _ r q fun vs S1 H1 z1 d1=>?_;cases d1 with
   |cons a1 d1=>
    cases d1;rcases a1 with a1|⟨l2,_,_,e,_⟩
    ·obtain⟨p,xs,rfl,h1,h2⟩:=iy a1;refine⟨p,xs,rfl,aQ z1.sub h1,k _ S1 H1 z1 fun S' H' s1 s2=>⟨fun i d hd=>?_,aQ (s1.trans s2) h1,by rw[V0];exact h2.length.symm⟩⟩;have hi:i<l'.length:=by have:=(TR.mp hd).1;simpa using this
     rw[WA hi] at hd;obtain⟨y,e1,e2⟩:=h2.get hd;have hl:=h2.length;have e3:xs.reverse[i]?=some y:=by rw[WA (by lia)];rw[<- e1];congr 2;lia
     refine⟨⟨aQ (s1.trans s2) h1,y,e3⟩,fun x H'' hy=>⟨hy.1,?_⟩⟩;have:=hy.2;rw[e3] at this;cases this;exact e2.mono s1
    ·cases e
  ·cases x
end
end M
namespace L2
open PySem
section
variable {X:Cx}{e:Expr}{pos p p':Pos}{ta:TE}{T:Addr}{N:Str}{ans:List (Str×Bool)}
end
end L2
namespace M
open PySem L2
section
variable {K:W.Frag}{S S' H H':Hp}
@[simp] noncomputable def Sk (ans:List (Str×Bool))(e:XE):XE:=fun ρ=>(e ρ).bind fun d=>match d with|.ins N _ _=>(ans.lookup N).map .bl|_=>none
end
end M
namespace L2
open PySem PySem.Spec PyProof.Rows Builtin Builtin.ObjectAttr Builtin.Getset_descriptor
section
variable {prog:Program}{w:World}{A:Around}{E:Value->Shared->Prop}{s:Shared}{K:W.Frag}{C a:Addr}
end
end L2
namespace L2
open PySem PySem.Spec PyProof.Rows
section
variable {H H':Hp}{B h0 h h':Heap}{fs:List Addr}
end
section
variable {X:Cx}{pins:List (Addr×Obj)}{σ:St}{H:Hp}{s:Shared}{E:XK}{B:Heap}{e:Addr}{cls a0:Value}
end
section
variable {P:Program}{w:World}{K:W.Frag}{mg:Str->Option Value}{base:Heap}{N:List Str}{qual:Str}{scope:Scope}{f:Addr}{cdv:Value}{A:Around}{outer:List Env}{s:Shared}{H:Hp}{E:XK}
end
section
variable {X:Cx}{E:XK}{x:Str}{e:Expr}{te:TE}{np cpos pos:Pos}
end
section
variable {X:Cx}{pins:List (Addr×Obj)}{σ:St}{H H':Hp}{s s':Shared}{e:Addr}
end
section
variable {X:Cx}{body suite:List Stmt}{b0:Stmt}{x n:Str}{i:Nat}{L:List Str}{tb:XK->TS}{ts:TS}{np hp pos:Pos}
end
section
variable {X:Cx}{e:Expr}{pos p p':Pos}{i:Nat}{N:Str}{ans:List (Str×Bool)}{vv:V}{u:Value}
end
end L2
namespace M
open PySem L2
section
variable {K:W.Frag}{S S' H H':Hp}
inductive RO where
 |rz (N:Str)|nx (ρ:Env)
noncomputable abbrev XR:=Env->Option RO
variable {E:XK}
@[simp] noncomputable def RJ:XR:=fun ρ=>some (.nx ρ)
@[simp] noncomputable def QB (N:Str):XR:=fun _=>some (.rz N)
@[simp] noncomputable def Tk (c:XT)(m n:XR):XR:=fun ρ=>(c ρ).bind fun b=>if b=true then m ρ else n ρ
@[simp] noncomputable def SD (m n:XR):XR:=fun ρ=>(m ρ).bind fun o=>match o with|.nx ρ'=>n ρ' | .rz N=>some (.rz N)
@[simp] noncomputable def RK (m:XR):XR:=fun ρ=>(m ρ).bind fun o=>match o with|.nx _=>none|.rz N=>some (.rz N)
@[simp] noncomputable def xrE (m:Env->Option Str):XR:=fun ρ=>(m ρ).map .rz
@[simp] noncomputable def RH (m:List D->Option Str)(a:XA):Env->Option Str:=fun ρ=>(a ρ).bind m
noncomputable def LX (N:Str):List (List (Str×Bool))->Option (List Bool)
 |[]=>some []
 |a::l=>(a.lookup N).bind fun b=>(LX N l).map fun bs=>b::bs
noncomputable def Ht (i:Nat)(N:Str):List (Nat×List (List (Str×Bool)))->Env->Option Env
 |[],ρ=>some ρ
 |p::l,ρ=>if p.1=i then none else (LX N p.2).bind fun bs=>if bs.length<=1000 then Ht i N l (ρ.set p.1 (.sh (.lst (bs.map .bl)))) else none
@[simp] noncomputable def Ti (L:List Str)(i:Nat)(m:XR)(l:List (Nat×List (List (Str×Bool)))):XS:=fun ρ=>if i<ρ.length then (m ρ).bind fun o=>match o with
 |.rz N=>if L.contains N then (Ht i N l (ρ.map fun _=>.un)).map fun ρ'=>.nx (ρ'.set i .un) else none
 |.nx ρ'=>some (.nx ρ') else none
end
end M
namespace L2
open PySem PySem.Spec PyProof.Rows
section
variable {X:Cx}{tg:Expr}
end
end L2
namespace M
open PySem L2
section
variable {K:W.Frag}{S S' H H':Hp}
noncomputable def QZ:List D->Option (List D)
 |[.int i,.int j]=>some (dr i (j-i).toNat)
 |_=>none
@[simp] noncomputable def Sw (a:XA):XA:=fun ρ=>(a ρ).bind QZ
end
end M
namespace L2
open PySem PySem.Spec PyProof.Rows
section
variable {X:Cx}{tg:Expr}
noncomputable def Pq (K:W.Frag):List V->Hp->VK->Prop:=fun xs H Q=>∃p,∃bs:List Bool,xs=[.ref p]/\SqL K H p (bs.map V.bl)/\Q (.bl (bs.all id)) H
theorem zB (bs:List Bool):(List.range bs.length).all (fun i=>bs.getD i true)=bs.all id:=by
 rw[Bool.eq_iff_iff,VB,VB];constructor
 ·intro h b hb;obtain⟨i,hi,rfl⟩:=List.getElem_of_mem hb;have:=h i (UK.mpr hi);simpa[hi] using this
 ·intro h i hi;have hi:=UK.mp hi;have:=h bs[i] (List.getElem_mem hi);simpa[hi] using this
theorem EK (hc:X.calm=true):CallR X (.builtin "all") (Pq X.K):=by
 intro pins s σ H xs us Q I r h;obtain⟨p,bs,rfl,hS,q⟩:=h;obtain⟨u,rfl,ru⟩:=r.one;cases ru;obtain⟨its,rv,pl,hz⟩:=I.list hS;have hl:=pl.isList;have hlen:bs.length=its.length:=by have:=rv.length;simpa using this
 refine call_all_walk (wpAny_pyIter_list hl ?_);have hne:p≠s.heap.objs.size:=TX pl.lt;refine⟨_,_,_,_,_,_,fun i=>bs.getD i true,rfl,Walks.list (A:=X.A.in1) (I.ok.hd hc) _ p hne its.toArray,⟨⟨_,TZ _ rfl,rfl,rfl⟩,hl.push _⟩,?_,?_⟩
 ·intro i v s' Q' E' hv hQ;have hv:its[i]?=some v:=by simpa using hv
  have hi:i<bs.length:=by rw[hlen];exact (TR.mp hv).1
  obtain⟨u,hu,ru⟩:=rv.get (i:=i) (x:=.bl (bs[i])) (by simp[hi]);rw[hu] at hv;cases hv;cases ru;have e:bs.getD i true=bs[i]:=by simp[hi]
  dsimp only at hQ;rw[e] at hQ;exact V9 hQ
 ·intro h' tk hk;rw[TV,<- hlen,zB];exact⟨.bl _,H,I.kept (old_kept hk),rfl,q⟩
end
end L2
namespace M
open PySem L2
section
variable {K:W.Frag}{S S' H H':Hp}
noncomputable def N9 (x:Str):List D:=x.cps.toList.map fun c=>D.str ⟨#[c]⟩
noncomputable def sgD:D->Option (List D)
 |.str x=>some (N9 x)
 |_=>none
@[simp] noncomputable def Te (e:XE):XA:=fun ρ=>(e ρ).bind sgD
noncomputable def QJ (d:D)(lo hi:Option Int):Option D:=match d with
 |.str x=>if x.length<=LIM then some (.str (Txt.slice x lo hi)) else none
 |_=>none
@[simp] noncomputable def Th (a:XE)(lo hi:XO):XE:=fun ρ=>(a ρ).bind fun d=>(lo ρ).bind fun l=>(hi ρ).bind fun h=>QJ d l h
noncomputable def RS:List D->Option D
 |[.str x]=>if x.length<=640 then (PySem.intText? x).map D.int else none
 |_=>none
noncomputable def gT:List D->Option (List Bool)
 |[]=>some []
 |.bl b::l=>(gT l).map fun r=>b::r
 |_::_=>none
theorem ua:∀ {l:List D} {bs:List Bool},gT l=some bs->l=bs.map D.bl
 |[],bs,h=>by cases h;rfl
 |d::l,bs,h=>by
  cases d<;>try (cases h;done)
  rename_i b;have h:(gT l).map (fun r=>b::r)=some bs:=h;cases q:gT l with
  |none=>rw[q] at h;cases h
  |some r=>rw[q] at h;cases h;rw[ua q];rfl
theorem As:∀ {bs:List Bool} {xs:List V},Dens K S (bs.map D.bl) xs->xs=bs.map V.bl
 |[],xs,h=>h
 |b::bs,xs,h=>by obtain⟨y,ys,rfl,a,r⟩:=h;rw[den_bl.mp a,As r];rfl
noncomputable def Kd:List D->Option D
 |[.lst l]=>(gT l).map fun bs=>.bl (bs.all id)
 |_=>none
theorem OJ:SRB K (Pq K) Kd:=fun S H vs ds g Q s h x k=>by
 unfold Kd at x;split at x
 ·rename_i l;obtain⟨v,rfl,d1⟩:=fD h;cases q:gT l with
  |none=>rw[q] at x;cases x
  |some bs=>rw[q] at x;cases x;obtain⟨p,xs,rfl,h1,h2⟩:=d1.lst s;have e:=ua q;subst e;have e:=As h2;subst e;exact⟨p,bs,rfl,.inl h1,k _ S H (Ext.refl s) (den_bl.mpr rfl)⟩
 ·cases x
end
end M
namespace L2
open PySem
theorem MB:bootBuiltins "all" = some (.builtin "all"):=by decide +kernel
end L2
namespace L2
open PySem PySem.Spec PyProof.Rows
section
variable {X:Cx}
inductive PJ (X:Cx):List Expr->List TE->Prop
 |nil:PJ X [] []
 |cons {e:Expr} {t:TE} {es:List Expr} {ts:List TE}:PE X e t->PJ X es ts->PJ X (e::es) (t::ts)
end
end L2
namespace M
open PySem L2
section
variable {K:W.Frag}{S S' H H':Hp}
noncomputable def fvD:D->Option D
 |.int i=>if i.natAbs.log2<1920 then some (.str (toString i)) else none
 |.str y=>if y.length<=LIM then some (.str y) else none
 |_=>none
@[simp] noncomputable def xFv (e:XE):XE:=fun ρ=>(e ρ).bind fvD
inductive SJ (K:W.Frag):List TE->List XE->Prop
 |nil:SJ K [] []
 |cons {t:TE} {a:XE} {ts:List TE} {as:List XE}:SPk K t a->SJ K ts as->SJ K (t::ts) (a::as)
end
end M
namespace L2
open PySem PySem.Spec PyProof.Rows
section
variable {M:Model}{A:Around}{Ex:Value->Shared->Prop}{s:Shared}
end
section
variable {P:Program}{w:World}{K:W.Frag}{mg:Str->Option Value}{base:Heap}{N:List Str}{qual:Str}{scope:Scope}{f:Addr}{cdv:Value}{A:Around}{outer:List Env}{s:Shared}{H:Hp}{E:XK}
end
section
variable {X:Cx}{pins:List (Addr×Obj)}{σ:St}{H:Hp}{s:Shared}{XN N:List Str}{sc scope:Scope}{js:List (Option Nat)}
variable {tg iter elt:Expr}{ifs:List Expr}{pos:Pos}{wi:TI}{g:TG}{tt:TIf}{te:TE}{E:XK}
end
section
variable {X:Cx}
end
end L2
namespace M
open PySem L2
section
variable {K:W.Frag}{S S' H H':Hp}{E:XK}
@[simp] noncomputable def Tl (m:XS):XR:=fun ρ=>match m ρ with|some (.nx ρ')=>some (.nx ρ')|_=>none
@[simp] noncomputable def Tm (n:Env->Option Str)(m:XS):XR:=fun ρ=>match n ρ with|some N=>some (.rz N)|none=>(match m ρ with|some (.nx ρ')=>some (.nx ρ')|_=>none)
@[simp] noncomputable def RE (m:Env->Option Str):Env->Option Str:=m
@[simp] noncomputable def RG (e:XE)(m:Env->Option Str):Env->Option Str:=fun ρ=>(e ρ).bind fun _=>m ρ
@[simp] noncomputable def Tj (n:Env->Option Str)(e:XE)(m:Env->Option Str):Env->Option Str:=fun ρ=>match n ρ with|some N=>some N|none=>(e ρ).bind fun _=>m ρ
@[simp] noncomputable def SB (i:Nat)(m:Env->Option Str):Env->Option Str:=fun ρ=>match ρ[i]? with|some (.ow (.lst _))=>m ρ|_=>none
noncomputable def G3 (g:XG)(c:XT)(e:XE)(n:Env->Option Str)(ρ0:Env):List D->Option Str
 |[]=>none
 |d::l=>(g d ρ0).bind fun ρ1=>(c ρ1).bind fun b=>if b=true then (match n ρ1 with|some N=>some N|none=>(e ρ1).bind fun _=>G3 g c e n ρ0 l) else G3 g c e n ρ0 l
@[simp] noncomputable def RI (js:List (Option Nat))(w:XA)(g:XG)(c:XT)(e:XE)(n:Env->Option Str):Env->Option Str:=fun ρ=>(w ρ).bind fun l=>if l.length<=LIM then G3 g c e n (y7 js ρ) l else none
noncomputable def LY (g:XG)(m:XR):List D->Env->Option RO
 |[],ρ=>some (.nx ρ)
 |d::l,ρ=>(g d ρ).bind fun ρ1=>(m ρ1).bind fun o=>match o with|.nx ρ2=>LY g m l ρ2|.rz N=>some (.rz N)
@[simp] noncomputable def SC (e:XA)(g:XG)(m:XR):XR:=fun ρ=>(e ρ).bind fun l=>LY g m l ρ
end
end M
namespace L2
open PySem
theorem usS {us:List Value}{n:Nat}(h:us.length=n+1):∃a v,us=a::v/\v.length=n:=by
 cases us with
 |nil=>cases h
 |cons a v=>exact⟨a,v,rfl,Nat.succ.inj h⟩
theorem us1 {us:List Value}(h:us.length=1):∃a0,us=[a0]:=by
 obtain⟨a0,v0,rfl,h0⟩:=usS h;cases v0 with
 |nil=>exact⟨a0,rfl⟩
 |cons a v=>cases h0
theorem us2 {us:List Value}(h:us.length=2):∃a0 a1,us=[a0,a1]:=by
 obtain⟨a0,v0,rfl,h0⟩:=usS h;obtain⟨a1,v1,rfl,h1⟩:=usS h0;cases v1 with
 |nil=>exact⟨a0,a1,rfl⟩
 |cons a v=>cases h1
theorem us3 {us:List Value}(h:us.length=3):∃a0 a1 a2,us=[a0,a1,a2]:=by
 obtain⟨a0,v0,rfl,h0⟩:=usS h;obtain⟨a1,v1,rfl,h1⟩:=usS h0;obtain⟨a2,v2,rfl,h2⟩:=usS h1;cases v2 with
 |nil=>exact⟨a0,a1,a2,rfl⟩
 |cons a v=>cases h2
theorem us5 {us:List Value}(h:us.length=5):∃a0 a1 a2 a3 a4,us=[a0,a1,a2,a3,a4]:=by
 obtain⟨a0,v0,rfl,h0⟩:=usS h;obtain⟨a1,v1,rfl,h1⟩:=usS h0;obtain⟨a2,v2,rfl,h2⟩:=usS h1;obtain⟨a3,v3,rfl,h3⟩:=usS h2;obtain⟨a4,v4,rfl,h4⟩:=usS h3;cases v4 with
 |nil=>exact⟨a0,a1,a2,a3,a4,rfl⟩
 |cons a v=>cases h4
theorem oY:tP K [] P:=fun _ h=>by cases h
theorem ba  {P:Addr->Prop}  {Ns:List Str}{c:Addr}(h:W.nsIn K mainGlobals N=some (some (.ref c)))(p:P c)(r:tP K Ns P):tP K (N::Ns) P:=fun M hM C hC=>by
 rcases TD.mp hM with rfl|hM
 ·rw[h] at hC;cases hC;exact p
 ·exact r M hM C hC
end L2
namespace L2
open PySem PySem.Spec PyProof.Rows
section
variable {κ:Type}[DecidableEq κ]
noncomputable def mM (kvs:List (κ×V))(k:κ):Option V:=(kvs.find? fun kv=>decide (kv.1=k)).map (·.2)
noncomputable def pI (kvs:List (κ×V))(k:κ)(v:V):List (κ×V):=
 if (kvs.any fun kv=>decide (kv.1=k))=true then kvs.map (fun kv=>if kv.1=k then (kv.1,v) else kv) else kvs++[(k,v)]
theorem pW {p:κ×V}{r:List (κ×V)}{k:κ}(e:p.1=k):mM (p::r) k=some p.2:=by simp[mM,Vq,e]
theorem pV {p:κ×V}{r:List (κ×V)}{k:κ}(e:¬p.1=k):mM (p::r) k=mM r k:=by simp[mM,Vq,e]
theorem pU (k:κ):∀kvs:List (κ×V),(kvs.any fun kv=>decide (kv.1=k))=(mM kvs k).isSome
 |[]=>rfl
 |p::r=>by
  rw[List.any_cons];by_cases e:p.1=k
  ·simp only[pW e,UA e,Bool.true_or,Option.isSome_some]
  ·rw[pV e,T5 e,Bool.false_or];exact pU k r
theorem rZ (kvs:List (κ×V))(k:κ)(v:V):(pI kvs k v).length<=kvs.length+1:=by
 unfold pI;split
 ·rw[Tt];lia
 ·rw[Tu,Tz,Vg];lia
theorem IQ {kvs:List (κ×V)}  (v:V)(h:mM kvs k=none):pI kvs k v=kvs++[(k,v)]:=by unfold pI;rw[pU,h];exact To (by decide)
theorem RelO.isSome_eq   (r:RelO o u):o.isSome=u.isSome:=by
 cases o with
 |none=>cases u with
  |none=>rfl
  |some _=>exact (show False from r).elim
 |some _=>cases u with
  |none=>exact (show False from r).elim
  |some _=>rfl
theorem KV.val {kvs:List (κ×V)}  (r:KV kvs vs)(k:κ):RelO (mM kvs k) (valueAt vs k):=by
 unfold KV at r;induction r with
 |nil=>exact True.intro
 | @cons p q ps qs h t ih=>
  obtain⟨h1,h2⟩:=h;by_cases e:p.1=k
  ·have e':q.1=k:=h1.symm.trans e;have b:valueAt (q::qs) k=some q.2:=by simp[valueAt,Vq,e']
   rw[pW e,b];exact h2
  ·have e':¬q.1=k:=fun z=>e (h1.trans z);have b:valueAt (q::qs) k=valueAt qs k:=by simp[valueAt,Vq,e']
   rw[pV e,b];exact ih
theorem KV.any {kvs:List (κ×V)}  (r:KV kvs vs)(k:κ):(kvs.any fun kv=>decide (kv.1=k))=vs.any fun kv=>decide (kv.1=k):=by
 unfold KV at r;induction r with
 |nil=>rfl
 |cons h t ih=>rw[List.any_cons,List.any_cons,ih,h.1]
theorem KV.repl {kvs:List (κ×V)}  (r:KV kvs vs)(k:κ)   (ry:RelV y u) :
  KV (kvs.map fun kv=>if kv.1=k then (kv.1,y) else kv) (vs.map fun kv=>if kv.1=k then (kv.1,u) else kv):=by
 unfold KV at r ⊢;induction r with
 |nil=>exact .nil
 | @cons p q ps qs h t ih=>
  rw[TF,TF];refine .cons ?_ ih;obtain⟨h1,h2⟩:=h;by_cases e:p.1=k
  ·rw[Tn e,Tn (h1.symm.trans e)];exact⟨h1,ry⟩
  ·rw[To e,To (fun z=>e (h1.trans z))];exact⟨h1,h2⟩
theorem KV.put {kvs:List (κ×V)}  (r:KV kvs vs)(k:κ)   (ry:RelV y u):KV (pI kvs k y) (stored vs k u):=by
 unfold pI stored;rw[r.any k];by_cases e:(vs.any fun kv=>decide (kv.1=k))=true
 ·rw[Tn e,Tn e];exact r.repl k ry
 ·rw[To e,To e];exact Paired.snoc r ⟨rfl,ry⟩
theorem KV.length {kvs:List (κ×V)}  (r:KV kvs vs):kvs.length=vs.length:=Vu r
end
theorem HF     (r:RelV (kV k) u):(cj P w).is k u=true:=by
 cases k with
 |inl i=>obtain⟨t,e⟩:=(show ∃t,u=Value.int i t from r);subst e;exact A2 P w i t
 |inr x=>obtain⟨t,e⟩:=(show ∃t,u=Value.str x t from r);subst e;exact A3 P w x t
theorem xN:∀ {ks:List Key} {us:List Value},Vals (ks.map kV) us->ItemsAre (cj P w) ks us
 |[],_,r=>by rw[VA] at r;cases r;exact .nil
 |k::ks,_,r=>by
  rw[TF] at r;cases r with
  |cons h t=>exact .cons (HF h) (xN t)
noncomputable abbrev KT (H:Hp):List (List Key×V)->List (List Key×Addr×Value)->Prop:=Paired fun p q=>p.1=q.1/\H q.2.1=some (.tup (p.1.map kV))/\RelV p.2 q.2.2
theorem KT.val  {kvs:List (List Key×V)}{xs:List (List Key×Addr×Value)}(r:KT H kvs xs)(k:List Key):RelO (mM kvs k) ((atKey xs k).map (·.2)):=by
 induction r with
 |nil=>exact True.intro
 | @cons p q ps qs h t ih=>
  obtain⟨h1,_,h2⟩:=h;by_cases e:p.1=k
  ·have e':q.1=k:=h1.symm.trans e;have b:atKey (q::qs) k=some q.2:=by simp[atKey,Vq,e']
   rw[pW e,b];exact h2
  ·have e':¬q.1=k:=fun z=>e (h1.trans z);have b:atKey (q::qs) k=atKey qs k:=by simp[atKey,Vq,e']
   rw[pV e,b];exact ih
theorem KT.repl  {kvs:List (List Key×V)}{xs:List (List Key×Addr×Value)}(r:KT H kvs xs)(k:List Key)   (ry:RelV y u) :
  KT H (kvs.map fun kv=>if kv.1=k then (kv.1,y) else kv) (xs.map (putAt k u)):=by
 induction r with
 |nil=>exact .nil
 | @cons p q ps qs h t ih=>
  rw[TF,TF];refine .cons ?_ ih;obtain⟨h1,h2,h3⟩:=h;unfold putAt;by_cases e:p.1=k
  ·rw[Tn e,Tn (h1.symm.trans e)];exact⟨h1,h2,ry⟩
  ·rw[To e,To (fun z=>e (h1.trans z))];exact⟨h1,h2,h3⟩
theorem KT.put  {kvs:List (List Key×V)}{xs:List (List Key×Addr×Value)}(r:KT H kvs xs)(k:List Key){b:Addr}   (hb:H b=some (.tup (k.map kV)))(ry:RelV y u) :
  KT H (pI kvs k y) (storedH xs k b u):=by
 have e:(kvs.any fun kv=>decide (kv.1=k))=(atKey xs k).isSome:=by rw[pU,(r.val k).isSome_eq,Option.isSome_map]
 unfold pI storedH;rw[e];by_cases q:(atKey xs k).isSome=true
 ·rw[Tn q,Tn q];exact r.repl k ry
 ·rw[To q,To q];exact Paired.snoc r ⟨rfl,hb,ry⟩
theorem KT.keeps {H':Hp}{kvs:List (List Key×V)}{xs:List (List Key×Addr×Value)}(r:KT H kvs xs)(ht:∀b ys,H b=some (.tup ys)->H' b=some (.tup ys)):KT H' kvs xs:=
 Paired.mapP r fun _ _ z=>⟨z.1,ht _ _ z.2.1,z.2.2⟩
section
variable {P:Program}{w:World}{H:Hp}{h:Heap}{a:Addr}
theorem Bw  (ok:HOk P w H h)(e:Rd H a u):ObjOk P w H h a u:=e.ok ok
theorem LO {kvs:List (Key×V)}(ok:HOk P w H h)(e:Rd H a (.dK kvs)):kvs.length<=sizeLine/\(a==sysModules)=false/\∃vs,KV kvs vs/\h.DictOf (cj P w) a vs:=
 show ObjOk P w H h a (.dK kvs) from Bw ok e
theorem OQ {kvs:List (Key×V)}(ok:HOk P w H h)(e:H a=some (.dK kvs)):kvs.length<=sizeLine/\(a==sysModules)=false/\∃vs,KV kvs vs/\h.DictOf (cj P w) a vs:=LO ok (.inl e)
theorem CF {ks:List Key}(ok:HOk P w H h)(e:H a=some (.tup (ks.map kV))):(tupleKind (cj P w)).is h ks a:=by
 obtain⟨_,its,r,o,h1,h2,n,h3⟩:=(show ObjOk P w H h a (.tup (ks.map kV)) from ok a _ e)
 exact⟨o,its.toArray,n,h1,h2,h3,by simpa using xN r⟩
theorem G9 {kvs:List (List Key×V)}(ok:HOk P w H h)(e:Rd H a (.dT kvs)):kvs.length<=sizeLine/\(a==sysModules)=false /\
  ∃xs,KT H kvs xs/\h.DictOfH (tupleKind (cj P w)) a xs:=by
 obtain⟨z,y,xs,r,o,es,ep,h1,h2,h3,h4,h5⟩:=(show ObjOk P w H h a (.dT kvs) from Bw ok e)
 refine⟨z,y,xs,r,o,es,ep,h1,h2,h3,h4,fun x hx=>?_,h5⟩;have all:∀ {l:List (List Key×V)} {m:List (List Key×Addr×Value)},KT H l m->∀x∈m,(tupleKind (cj P w)).is h x.1 x.2.1:=by
  intro l m q;induction q with
  |nil=>intro x hx;exact nomatch hx
  | @cons p q ps qs hq t ih=>
   intro x hx;rcases TD.mp hx with e|hx
   ·subst e;exact CF ok (by rw[<- hq.1];exact hq.2.1)
   ·exact ih x hx
 exact all r x hx
theorem OS {kvs:List (List Key×V)}(ok:HOk P w H h)(e:H a=some (.dT kvs)):kvs.length<=sizeLine/\(a==sysModules)=false /\
  ∃xs,KT H kvs xs/\h.DictOfH (tupleKind (cj P w)) a xs:=G9 ok (.inl e)
end
def Oz (H:Hp)(a:Addr)(y:V)(r:Option V):Prop:=
 (∃kvs k,Rd H a (.dK kvs)/\y=kV k/\r=mM kvs k)\/∃kvs k b,Rd H a (.dT kvs)/\y = .ref b/\H b=some (.tup (k.map kV))/\r=mM kvs k
def OA (H:Hp)(a:Addr)(y v:V)(H':Hp):Prop:=
 (∃kvs k,H a=some (.dK kvs)/\y=kV k/\kvs.length<sizeLine/\H'=upd H a (.dK (pI kvs k v))) \/
 ∃kvs k b,H a=some (.dT kvs)/\y = .ref b/\H b=some (.tup (k.map kV))/\kvs.length<sizeLine/\H'=upd H a (.dT (pI kvs k v))
section
variable {X:Cx}{pins:List (Addr×Obj)}{σ:St}{H:Hp}{s:Shared}{a:Addr}{y v:V}{u r:Value}{o:Option V}{A:Around}{E:Value->Shared->Prop}
theorem Inv.big (I:Inv X pins σ H s):sysModules<s.heap.objs.size:=by have h:mainGlobals<s.heap.objs.size:=(I.mod.glob.keeps I.bk).lt;exact Nat.lt_trans (by decide) h
theorem QK {Q:Value->Shared->Prop}(hu:A.units+1<cLine)(I:Inv X pins σ H s)(g:Oz H a y o)(ry:RelV y u)(h:∀s',Inv X pins σ H s'->Q (.bool o.isSome) s') :
  wpAny (model X.prog X.w) A (compareOp .In u (.ref a)) Q E s:=by
 rcases g with ⟨kvs,k,e,ey,l⟩|⟨kvs,k,b,e,ey,eb,l⟩
 ·subst ey;obtain⟨z,hd,vs,rel,dd⟩:=LO I.hok e;refine wpAny_in_of (HF ry) hd dd.mapOf ?_;rw[<- (rel.val k).isSome_eq,<- l];exact h _ (I.tok _)
 ·subst ey;cases (show u=Value.ref b from ry);obtain⟨z,hd,xs,rel,dd⟩:=G9 I.hok e;refine wpAny_in_heap (tupleKind_room_in1 hu) (CF I.hok eb) hd dd ?_;have q:=(rel.val k).isSome_eq;rw[Option.isSome_map] at q;rw[<- q,<- l];exact h _ (I.tok _)
theorem yO {h':Heap}{t':Nat}  (I:Inv X pins σ H s)(mu:Mut (H a))(hs:Heap.SameBut a s.heap h')(he:∃q,h'.get? a=some q)(new:ObjOk X.prog X.w (upd H a ob) h' a ob) :
  Inv X pins σ (upd H a ob) { s with heap:=h',toks:=t' }:=
 I.write (x:=a) (e:=a) mu (.inl rfl) (fun b q hb z=>(hs.2 b hb).trans z) he new
theorem ME   {H':Hp}{h':Heap}{kvs:List (Key×V)}  (z:kvs.length<=sizeLine)(hd:(a==sysModules)=false)(rel:KV kvs vs)(dd:h'.DictOf (cj P w) a vs) :
  ObjOk P w H' h' a (.dK kvs):=⟨z,hd,vs,rel,dd⟩
theorem E2 {H':Hp}{Q:Unit->Shared->Prop}(hu:A.units+1<cLine)(I:Inv X pins σ H s)(g:OA H a y v H')(ry:RelV y u)(rv:RelV v r)(h:∀s',Inv X pins σ H' s'->Q () s') :
  wpAny (model X.prog X.w) A (setItem (.ref a) u r) Q E s:=by
 rcases g with ⟨kvs,k,e,ey,l,eH⟩|⟨kvs,k,b,e,ey,eb,l,eH⟩
 ·subst ey eH;obtain⟨z,hd,vs,rel,dd⟩:=OQ I.hok e;have hz:vs.length<=sizeLine:=by rw[<- rel.length];exact z
  have hl:(pI kvs k v).length<=sizeLine:=by have:=rZ kvs k v;lia
  refine wpAny_setItem_pairs (hsz:=hz) (HF ry) dd fun h' dd' hs=>h _ ?_;have he:∃q,h'.get? a=some q:=let ⟨q,_,_,hq,_⟩:=dd';⟨q,hq⟩
  exact yO I (by rw[e];exact True.intro) hs he (ME hl hd (rel.put k rv) dd')
 ·subst ey eH;cases (show u=Value.ref b from ry);obtain⟨z,hd,xs,rel,dd⟩:=OS I.hok e;have hz:xs.length<=sizeLine:=by rw[<- Vu rel];exact z
  have hl:(pI kvs k v).length<=sizeLine:=by have:=rZ kvs k v;lia
  refine wpAny_setItem_heap (hsz:=hz) (tupleKind_room_in1 hu) (CF I.hok eb) dd fun h' dd' hs=>h _ ?_;obtain⟨q,es,ep,hq,h2,h3,h4,_,h5⟩:=dd';refine yO I (by rw[e];exact True.intro) hs ⟨q,hq⟩ ⟨hl,hd,_,(rel.put k eb rv).keeps fun c ys ec=>?_,q,es,ep,hq,h2,h3,h4,h5⟩;rw[aG (LZ ec e (fun z=>nomatch z))];exact ec
end
section
variable {X:Cx}{pins:List (Addr×Obj)}{σ:St}{H:Hp}{s:Shared}{a:Addr}{kvs:List (Key×V)}{k:Key}{u:Value}{A:Around}{E:Value->Shared->Prop}
end
noncomputable def Qf (ty td:TE):TE:=fun σ H Q=>ty σ H fun y H1=>td σ H1 fun x H2=>∃a o,x = .ref a/\Oz H2 a y o/\Q (.bl o.isSome) H2
noncomputable def L8 (td ty tv:TE):TS:=fun D σ H=>tv σ H fun v H1=>td σ H1 fun x H2=>ty σ H2 fun y H3=>∃a H4,x = .ref a/\OA H3 a y v H4/\D.nx σ H4
section
variable {X:Cx}{o i e value:Expr}{pos pos' tpos:Pos}{td ty tv:TE}
theorem Ng (hu:X.A.units+1<cLine)(hi:PE X i ty)(ho:PE X o td):PC X .In i o (Qf ty td):=by intro pins s σ H Q I h;refine thn (hi pins s σ H _ I h) fun iv s1 ⟨y,H1,I1,ry,q1⟩=>thn (ho pins s1 σ H1 _ I1 q1) fun u s2 hpt9=>?_;obtain⟨x,H2,I2,rx,a,ov,ex,g,q2⟩:=hpt9;subst ex;obtain rfl:u=Value.ref a:=rx;exact QK hu I2 g ry fun s3 I3=>⟨.bl ov.isSome,H2,I3,rfl,q2⟩
theorem K9 (hu:X.A.units+1<cLine)(ho:PE X o td)(hi:PE X i ty)(hv:PE X value tv)(hs:swapsWith value (some (.Subscript o i pos')) pos.line X.env=pure false) :
  PS X (.Assign [.Subscript o i pos'] value pos) (L8 td ty tv):=by
 intro pins s σ H D I h;refine wpAny_Assign_Subscript (thn (hv pins s σ H _ I h) fun r s1 ⟨v,H1,I1,rv,q1⟩=>thn (ho pins s1 σ H1 _ I1 q1) fun u s2 ⟨x,H2,I2,rx,q2⟩=>thn (hi pins s2 σ H2 _ I2 q2) fun iv s3 hpt9=>?_) hs;obtain⟨y,H3,I3,ry,a,H4,ex,g,q3⟩:=hpt9;subst ex;obtain rfl:u=Value.ref a:=rx;exact E2 hu I3 g ry rv fun s4 I4=>⟨σ,H4,I4,q3⟩
end
theorem G8    (h:Heap)(hb:sysModules<h.objs.size):ObjOk P w H (h.push { cls:=.type "dict",data:=.dict #[] }) h.objs.size (.dT []):=
 ⟨T2 _,VN.mpr (T9 (TX hb)),[],.nil,_,#[],0,TZ _ rfl,⟨rfl,rfl,rfl⟩,rfl,rfl,List.nodup_nil⟩
noncomputable def JC:TE:=fun _ H Q=>∀p,H p=none->Q (.ref p) (upd H p (.dT []))
section
variable {X:Cx}{pos:Pos}
theorem Ix:PE X (.Dict [] [] pos) JC:=fun pins s σ H Q I h=>
 wpAny_Dict_empty ⟨.ref s.heap.objs.size,_,I.laid (a:=s.heap.objs.size) (o:=.dT []) (t':=s.toks) (fun _ _ q=>TK _ q) (Tw _) (G8 s.heap I.big),rfl,h _ (I.hok.fresh (Tw _))⟩
end
section
variable {X:Cx}{pins:List (Addr×Obj)}{σ:St}{H:Hp}{s:Shared}{a:Addr}{y d:V}{u r:Value}{o:Option V}{A:Around}{E:Value->Shared->Prop}
end
section
variable {X:Cx}{o e f:Expr}{apos cpos:Pos}{td ty tx:TE}
end
end L2
namespace PySem
namespace DX
section
variable {prog:Program}{w:World}{A:Around}{E:Value->Shared->Prop}{s:Shared}{a:Addr}{its:Array Value}{n:Nat}{α:Type}
end
end DX
end PySem
namespace L2
open PySem PySem.Spec PyProof.Rows
section
variable {X:Cx}{pins:List (Addr×Obj)}{σ:St}{H:Hp}{s:Shared}{a b:Addr}{kvs:List (List Key×V)}{k:List Key}{v:V}{r:Value}{A:Around}{E:Value->Shared->Prop}
end
section
variable {X:Cx}{pins:List (Addr×Obj)}{σ:St}{A:Around}{a l it:Addr}{xs:List V}
end
theorem un1 {A:Around}(h:A.units+64<cLine):A.units+1<cLine:=UQ (Nat.add_le_add_left (by decide) _) h
end L2
namespace M
open PySem L2
section
variable {K:W.Frag}{S S' H H':Hp}
theorem Ol {l:List D}  (h:Den K S (.tup l) v):∃p xs,v = .ref p/\S p=some (.tup xs)/\Dens K S l xs:=by obtain⟨p,xs,e,h1,h2⟩:=den_tup.mp h;exact⟨p,xs,e,h1,h2⟩
noncomputable def kyD:D->Option (List Int)
 |.tup l=>aY l
 |_=>none
noncomputable abbrev kI (k:List Int):List Key:=k.map Sum.inl
theorem O5 (k:List Int):(kI k).map kV=k.map V.int:=by rw[TU];rfl
theorem MZ  (h:kI a=kI b):a=b:=by
 induction a generalizing b with
 |nil=>cases b with
  |nil=>rfl
  |cons _ _=>cases h
 |cons x a ih=>cases b with
  |nil=>cases h
  |cons y b=>
   injection h with h1 h2
   injection h1 with h1
   rw[h1,ih h2]
theorem HG  {k:List Int}  (h:Den K S d v)(e:kyD d=some k):∃p,v = .ref p/\S p=some (.tup ((kI k).map kV)):=by
 cases d<;>try (cases e;done)
 obtain⟨p,xs,rfl,h1,h2⟩:=Ol h;obtain⟨rfl,_⟩:=g9 h2 e;exact⟨p,rfl,by rw[O5];exact h1⟩
theorem tK (q:List Int):∀ks:List (List Int),(mM (b8 ks) (kI q)).isSome=ks.contains q
 |[]=>rfl
 |k::ks=>by
  have ih:=tK q ks;by_cases h:k=q
  ·subst h;show (mM ((kI k,V.bl true)::b8 ks) (kI k)).isSome=_;rw[pW rfl];simp
  ·show (mM ((kI k,V.bl true)::b8 ks) (kI q)).isSome=_;rw[pV (fun z=>h (MZ z)),ih];rw[List.contains_cons];have:(q==k)=false:=by simpa using fun z=>h z.symm
   rw[this,Bool.false_or]
noncomputable def Af (ks:List (List Int))(q:List Int):List (List Int):=if ks.contains q then ks else ks++[q]
theorem G6 (a b:List (List Int)):b8 (a++b)=b8 a++b8 b:=by unfold b8;rw[T7]
theorem Lc (ks:List (List Int))(q:List Int):pI (b8 ks) (kI q) (.bl true)=b8 (Af ks q):=by
 unfold Af;cases h:ks.contains q with
 |false=>
  have hv:mM (b8 ks) (kI q)=none:=by
   have:=tK q ks;rw[h] at this;cases z:mM (b8 ks) (kI q) with
   |none=>rfl
   |some _=>rw[z] at this;cases this
  rw[IQ _ hv,To (by decide),G6];rfl
 |true=>
  rw[Tn rfl];have ha:((b8 ks).any fun kv=>decide (kv.1=kI q))=true:=by rw[pU,tK,h]
  unfold pI;rw[Tn ha];unfold b8;rw[TU];refine VL fun k _=>?_;show (if kI k=kI q then (kI k,V.bl true) else (kI k,V.bl true))=_;split<;>rfl
theorem ug (ks:List (List Int)):(b8 ks).length=ks.length:=Tt _
@[simp] noncomputable def Sg (k:XE):Env->Option O:=fun ρ=>(k ρ).bind fun d=>(kyD d).map fun q=>.dic [q]
@[simp] noncomputable def Ez:Env->Option O:=fun _=>some (.dic [])
theorem NL:STr K JC Ez:=fun ρ σ S H Q o r x c=>by cases x;intro p hp;exact c (.ref p) [p] S _ (Ext.own r.sub hp) (own_dic.mpr ⟨p,rfl,rfl,aH⟩) (Uk.mpr ⟨by simp,List.nodup_nil⟩) fun c' hc=>by rw[Ts.mp hc];exact⟨hp,r.sub.free hp⟩
noncomputable def rV (ρ:Env)(i:Nat):Option (List (List Int)):=match ρ[i]? with
 |some (.ow (.dic ks))=>some ks
 |some (.sh (.dic ks))=>some ks
 |some (.sh (.dif ks))=>some ks
 |some (.ow (.hd _ ks []))=>some ks
 |_=>none
theorem G7   {i:Nat}{ks:List (List Int)}(r:Rl K ρ σ S H)(h:rV ρ i=some ks):∃a,σ[i]?=some (some (.ref a))/\Rd H a (.dT (b8 ks)):=by
 unfold rV at h;split at h
 ·rename_i ks' q;cases h;obtain⟨v,fp,e,ow,_⟩:=r.ow i _ q;obtain⟨a,rfl,_,ha⟩:=own_dic.mp ow;exact⟨a,e,.inl ha⟩
 ·rename_i ks' q;cases h;obtain⟨v,e,dv⟩:=r.sh i _ q;obtain⟨a,rfl,ha⟩:=den_dic.mp dv;exact⟨a,e,cV r.sub ha⟩
 ·rename_i ks' q;cases h;obtain⟨v,e,dv⟩:=r.sh i _ q;obtain⟨a,o,rfl,ha⟩:=den_dif.mp dv;exact⟨a,e,.inr ⟨o,r.sub _ _ ha⟩⟩
 ·rename_i p ks' q;cases h;obtain⟨v,fp,e,ow,_⟩:=r.ow i _ q;obtain⟨xs,f,rfl,_,ha,ho⟩:=own_hd.mp ow;rw[ho.nil_of.1] at e;exact⟨p,e,.inl ha⟩
 ·cases h
@[simp] noncomputable def LK (neg:Bool)(k:XE)(i:Nat):XE:=fun ρ=>(k ρ).bind fun d=>(kyD d).bind fun q=>(rV ρ i).map fun ks=>.bl (if neg then !(ks.contains q) else ks.contains q)
theorem PZ {tk:TE}  {i:Nat}(h:SE K tk k):SE K (Qf tk (kQ i)) (LK false k i):=fun ρ σ S H Q g r x c=>by
 unfold LK at x;cases qk:k ρ with
 |none=>rw[qk] at x;cases x
 |some d=>
  rw[qk] at x;dsimp only[Option.bind] at x;cases qd:kyD d with
  |none=>rw[qd] at x;cases x
  |some q=>
   rw[qd] at x;dsimp only at x;cases qi:rV ρ i with
   |none=>rw[qi] at x;cases x
   |some ks=>rw[qi] at x;cases x;refine h ρ σ S H _ d r qk fun v S1 H1 z1 d1=>?_;obtain⟨b,rfl,hb⟩:=HG d1 qd;obtain⟨a,e1,ha⟩:=G7 (r.ext z1) qi;refine⟨.ref a,e1,a,_,rfl,.inr ⟨_,kI q,b,ha,rfl,z1.sub b _ hb,rfl⟩,c _ S1 H1 z1 ?_⟩;rw[tK];exact den_bl.mpr rfl
theorem RlF.dic      {i:Nat}{ks:List (List Int)}(f:RlF K A Λ Φ ρ σ S H)(h:ρ[i]?=some (.ow (.dic ks))) :
  ∃a,σ[i]?=some (some (.ref a))/\H a=some (.dT (b8 ks))/\∀ks',RlA K A Λ (ρ.set i (.ow (.dic ks'))) σ S (upd H a (.dT (b8 ks'))):=by
 obtain⟨v,ev,ow,nd,n⟩:=f.ow i _ h;obtain⟨a,rfl,hfp,ha⟩:=own_dic.mp ow;have ain:a∈Φ i:=by rw[hfp];exact Tx
 refine⟨a,ev,ha,fun ks'=>?_⟩;have ne:∀b,b≠a->upd H a (.dT (b8 ks')) b=H b:=fun b hb=>aG hb;have sub':Same S (upd H a (.dT (b8 ks'))):=fun b u e=>by rw[ne b fun z=>by subst z;rw[(n b ain).1] at e;cases e];exact f.sub b u e
 have asub':Same A (upd H a (.dT (b8 ks'))):=fun b u e=>by rw[ne b fun z=>by subst z;rw[(n b ain).2] at e;cases e];exact f.asub b u e
 have fin:=f.put (H':=upd H a (.dT (b8 ks'))) i sub' asub' (own_dic.mpr ⟨a,rfl,rfl,aH⟩) (Uk.mpr ⟨by simp,List.nodup_nil⟩) (fun b hb=>by rw[Ts.mp hb];exact n a ain) fun j o' hj e1 b hb=>by have nb:b∉Φ i:=fun z=>f.dj j i o' _ hj e1 h b hb z;exact⟨ne b fun z=>nb (z▸ain),fun z=>nb (by rw[Ts.mp z];exact ain)⟩
 rw[vB ev] at fin;exact⟨_,fin⟩
@[simp] noncomputable def B0 (i:Nat)(k:XE):XS:=fun ρ=>match ρ[i]? with
 |some (.ow (.dic ks))=>(k ρ).bind fun d=>(kyD d).bind fun q=>if ks.length<LIM then some (.nx (ρ.set i (.ow (.dic (Af ks q))))) else none
 |_=>none
theorem NW {tk:TE}  {i:Nat}(h:SE K tk k):SS K (L8 (kQ i) tk (tC (.bl true))) (B0 i k):=fun A Λ ρ σ S H E o r x c=>by
 unfold B0 at x;split at x<;>try (cases x;done)
 rename_i ks q0;cases qk:k ρ with
 |none=>rw[qk] at x;cases x
 |some d=>
  rw[qk] at x;dsimp only[Option.bind] at x;cases qd:kyD d with
  |none=>rw[qd] at x;cases x
  |some q=>
   rw[qd] at x;dsimp only at x;split at x<;>try (cases x;done)
   rename_i hl;cases x;obtain⟨Φ,f⟩:=r;obtain⟨a,ev,_,_⟩:=f.dic q0;refine⟨.ref a,ev,h ρ σ S H _ d ⟨A,Λ,Φ,f⟩ qk fun v S1 H1 z1 d1=>?_⟩;obtain⟨b,rfl,hb⟩:=HG d1 qd;obtain⟨a',ev',ha,up⟩:=(f.ext z1).dic q0;rw[ev] at ev';cases ev';refine⟨a,_,rfl,.inr ⟨_,kI q,b,ha,rfl,z1.sub b _ hb,?_,rfl⟩,?_⟩
   ·rw[ug];exact Nat.lt_trans hl jw
   ·rw[Lc];exact c σ S1 _ (up _) z1.sh
noncomputable def CZ:List D->Option (List (List Int))
 |[]=>some []
 |.tup [d,.bl true]::l=>(kyD d).bind fun q=>(CZ l).map fun qs=>q::qs
 |_=>none
@[simp] noncomputable def Sz (i:Nat)(e:XA):XS:=fun ρ=>match ρ[i]? with
 |some (.ow (.dic ks))=>(e ρ).bind fun l=>(CZ l).bind fun qs=>if ks.length+l.length<LIM then some (.nx (ρ.set i (.ow (.dic (qs.foldl Af ks))))) else none
 |_=>none
end
end M
namespace L2
open PySem PySem.Spec PyProof.Rows M
noncomputable def inL (d:D)(l:List D):Bool:=l.any fun e=>eqD e d
noncomputable def NA (K:W.Frag)(neg:Bool):R2:=fun x y H Q=>∃S d l,Same S H/\DenP K S H d x/\DenP K S H (.lst l) y/\okD 30 d=true/\okD 30 (.lst l)=true/\Q (.bl (if neg then !inL d l else inL d l)) H
section
variable {X:Cx}
theorem GP (d:D)(n:Nat)(hd:okD n d=true):∀(m:Nat) (l:List D),okDs m l=true->((pyDs l).any fun y=>PyData.eqv y (pyD d))=inL d l
 |_,[],_=>by simp[pyDs,inL]
 |m,e::l,h=>by rw[okDs,Ul] at h;have ih:=GP d n hd m l h.2;rw[pyDs,List.any_cons,ih,yQ m n e d h.1 hd];rfl
theorem FP (hu:X.A.units+64<cLine):OpR X (compareOp .NotIn) (NA X.K true):=by intro pins s σ H x y v u Q I rx ry h;obtain⟨S,d,l,sm,dx,dy,cd,ce,q⟩:=h;obtain⟨as,ra⟩:=fR I 30 cd (ny sm dx) rx;obtain⟨bs,rb⟩:=fR I 30 ce (ny sm dy) ry;obtain⟨a1,a2⟩:=nV 30 d cd;obtain⟨b1,b2⟩:=nV 30 (.lst l) ce;have hm:=Nat.min_le_right (PyData.depthAll (pyDs l)) (pyD d).depth;refine SeqAt.notIn_list_reads (xs:=pyDs l) rb ra (by simpa[pyD,PyData.canLay0] using b1) a1 (by lia) ⟨.bl _,H,I,rfl,?_⟩;rw[GP d 30 cd 29 l (by simpa[okD] using ce)];exact q
end
end L2
namespace M
open PySem L2
section
variable {K:W.Frag}
noncomputable def G5 (neg:Bool)(d e:D):Option D:=match e with
 |.lst l=>if okD 30 d=true/\okD 30 (.lst l)=true then some (.bl (if neg then !inL d l else inL d l)) else none
 |_=>none
theorem PB (neg:Bool):SR2 K (NA K neg) (G5 neg):=fun S H x y d e z Q s dx dy q k=>by
 unfold G5 at q;split at q<;>try (cases q;done)
 rename_i l;split at q
 ·rename_i c;cases q;exact⟨S,d,l,s,dx,dy,c.1,c.2,k _ S H (Ext.refl s) (den_bl.mpr rfl)⟩
 ·cases q
end
end M
namespace L2
open PySem PySem.Spec PyProof.Rows
noncomputable def Mj (a c:Int)(n:Nat):It:=⟨fun i _=>i<n,fun i H x H'=>H'=H/\x = .int (a+i * c),fun i _=>n<=i⟩
noncomputable def LW (ta:TA):TI:=fun σ H R=>ta σ H fun vs H1=>∃a j c:Int,vs=[.int a,.int j,.int c]/\c≠0/\(-1000000<c/\c<1000000)/\Builtin.Range.small a j c=true/\R (Mj a c (Builtin.Range.rangeSize a j c).toNat) H1
section
variable {X:Cx}{tg:Expr}
theorem Gm {P:Program}{w:World}{K:W.Frag}(it:Addr)(a c:Int)(n:Nat):Turn P w K tg (Mj a c n) [it] it (fun i h=>IsRangeIter h it (a+(i:Nat) * c) ((n:Int)-(i:Nat)) c) where
 mem:=by simp
 obj:=fun i h st b hb=>by rw[Ts.mp hb];exact⟨_,st,fun v z=>by have z':Data.fields _=Data.cell v:=z;cases z'⟩
 keep:=fun i h h' st k=>k it (by simp) _ st
 item:=by intro X hP hw hK hc i pins s σ H E I hf st hg;subst hP hw hK;obtain⟨f0,f1,f2,f3,f4,f5⟩:=hf it (by simp);refine (Walks.range (prog:=X.prog) (w:=X.w) (I.ok.hd hc) it a c n).item i s _ _ hg st fun v h' tk hv st' kk=>?_;obtain⟨t,rfl⟩:=hv;have I1:Inv X pins σ H { s with heap:=h',toks:=tk }:=I.turned (fun b o hb e=>kk b o (fun z=>hb (Ts.mp z)) e) f0 f1 f3 f4 f5;exact⟨_,rfl,uy (s:={ s with heap:=h',toks:=tk }) (n := "range_iterator") st' rfl rfl (by decide) ⟨.int (a+i * c),H,I1,⟨t,rfl⟩,⟨rfl,rfl⟩,st',fun b hb=>(hf b hb).1⟩⟩
 done:=by intro X hP hw hK hc i pins s σ H E I hf st hg;subst hP hw hK;obtain⟨f0,f1,f2,f3,f4,f5⟩:=hf it (by simp);exact Wo (I.ok.hd hc) st (by have:n<=i:=hg;lia) fun h' eb=>⟨rfl,I.turned (t':=s.toks) (fun b o hb e=>eb b o hb e) f0 f1 f3 f4 f5⟩
 self:=fun _ _ _ _ _ st h=>Wp st h
theorem Ls {pins:List (Addr×Obj)}    {R:It->Hp->Prop}  {a j c:Int}{t u v:Tok}{tk:Nat}(I:Inv X pins σ H s)(hs:Builtin.Range.small a j c=true)(q:R (Mj a c (Builtin.Range.rangeSize a j c).toNat) H) :
  wpAny (model X.prog X.w) X.A (pyIter (.ref s.heap.objs.size)) (PIE X pins σ tg R) E { s with heap:=s.heap.push { cls:=.type "range",data:=.fields #[.int a t,.int j u,.int c v] },toks:=tk }:=by
 refine wpAny_pyIter_range (IsRange.new ..) hs ?_;have I1:Inv X pins σ H { s with heap:=s.heap.push { cls:=.type "range",data:=.fields #[.int a t,.int j u,.int c v] },toks:=tk }:=I.kept fun b o e=>TK _ e;refine⟨(s.heap.push { cls:=.type "range",data:=.fields #[.int a t,.int j u,.int c v] }).objs.size,[(s.heap.push { cls:=.type "range",data:=.fields #[.int a t,.int j u,.int c v] }).objs.size],_,_,H,rfl,I1.kept (t':=tk) fun b o e=>TK _ e,Gm _ a c (Builtin.Range.rangeSize a j c).toNat,?_,fun b hb=>?_,q⟩
 ·have e1:a+((0:Nat):Int) * c=a:=by simp
  have e2:(((Builtin.Range.rangeSize a j c).toNat:Nat):Int)-((0:Nat):Int)=Builtin.Range.rangeSize a j c:=by rw[<- rangeSize_toNat];simp
  show IsRangeIter _ _ (a+((0:Nat):Int) * c) ((((Builtin.Range.rangeSize a j c).toNat:Nat):Int)-((0:Nat):Int)) c;rw[e1,e2];exact TZ _ rfl
 ·rw[Ts.mp hb];exact I1.fpOk (Tw _) I1.fresh
theorem FS {a b c:Expr}{ta:TA}{p pos:Pos}(hg:Gl X "range") (hm:X.mg "range" = none) (ha:PA X [a,b,c] ta) (hs:starEach [a,b,c] X.env=(false,eval a X.env)::starEach [b,c] X.env:=by rfl)
  (hp:(backTo pos (starEach [b,c] X.env)).any (·.1)=false:=by rfl):PI X tg (.Call (.Name "range" p) [a,b,c] [] pos) (LW ta):=by
 intro pins s σ H R I h;refine Call_ (j7 I hg hm boot_range (Vi (thn (ha pos pins s σ H _ I h) fun us s1 h1=>?_) hs hp));obtain⟨vs,H1,I1,r1,x,j,y,rfl,q1,⟨q3,q4⟩,q2,q⟩:=h1;cases r1 with
 |cons r rr=>
  cases rr with
  |cons r' rr=>
   cases rr with
   |cons r'' rr=>cases rr;obtain⟨t,rfl⟩:=r;obtain⟨t',rfl⟩:=r';obtain⟨t'',rfl⟩:=r'';exact call_range_3 q1 (Ls I1 q2 q)
end
end L2
namespace M
open PySem L2
section
variable {K:W.Frag}{S H:Hp}
noncomputable def rB (a c:Int)(n:Nat):List D:=(List.range n).map fun i:Nat=>D.int (a+(i:Int) * c)
noncomputable def Ei:List D->Option (List D)
 |[.int a,.int j,.int c]=>ifC (c≠0/\(-1000000<c/\c<1000000)/\Builtin.Range.small a j c=true) (some (rB a c (Builtin.Range.rangeSize a j c).toNat)) none
 |_=>none
@[simp] noncomputable def vX (a:XA):XA:=fun ρ=>(a ρ).bind Ei
theorem MT   (h:SAP K t a):SI K (LW t) (vX a):=fun ρ σ S H R l r x k=>by
 unfold vX at x;cases q:a ρ with
 |none=>rw[q] at x;cases x
 |some ds=>
  rw[q] at x;dsimp only[Option.bind] at x;unfold Ei at x;split at x
  ·rename_i aa j bb;obtain⟨⟨h1,h3,h2⟩,rfl⟩:=iA x;refine h ρ σ S H _ _ r q fun vs S1 H1 z1 d1=>?_;cases d1 with
   |cons a1 d1=>cases d1 with
    |cons a2 d1=>cases d1 with
     |cons a3 d1=>
      cases d1;refine⟨aa,j,bb,by rw[a1.int,a2.int,a3.int],h1,h3,h2,k _ S1 H1 z1 fun S' H' _ _=>⟨fun i d h=>?_,by unfold rB;rw[Tt,Uy];exact Tw _⟩⟩;unfold rB at h;rw[TW] at h;cases qi:(List.range (Builtin.Range.rangeSize aa j bb).toNat)[i]? with
      |none=>rw[qi] at h;cases h
      |some i'=>rw[qi] at h;cases h;obtain⟨hi,e⟩:=TR.mp qi;rw[List.getElem_range] at e;subst e;rw[Uy] at hi;exact⟨hi,fun x H'' y=>⟨y.1,den_int.mpr y.2⟩⟩
  ·cases x
end
end M
namespace L2
open PySem PySem.Spec PyProof.Rows
section
variable {X:Cx}
end
end L2
namespace M
open PySem L2
section
variable {K:W.Frag}
noncomputable def O8:D->Option (List D)
 |.int j=>ifC (0<=j/\j<1000000) (some ((List.range j.toNat).map fun i:Nat=>D.int (i:Int))) none
 |_=>none
@[simp] noncomputable def RB (a:XE):XA:=fun ρ=>(a ρ).bind O8
end
end M
namespace L2
open PySem PySem.Spec PyProof.Rows
section
variable {X:Cx}{pins:List (Addr×Obj)}{σ:List (Option V)}{H H':Hp}{s:Shared}{h':Heap}
end
section
variable {X:Cx}
end
end L2
namespace M
open PySem L2
section
variable {K:W.Frag}{S S' H H':Hp}
noncomputable def enL (k:Nat):List D->List D
 |[]=>[]
 |d::l=>.tup [.int (k:Int),d]::enL (k+1) l
@[simp] noncomputable def Tc (a:XE):XA:=fun ρ=>(a ρ).bind fun d=>match d with|.lst l=>some (enL 0 l)|_=>none
end
end M
namespace L2
open PySem PySem.Spec PyProof.Rows M
section
variable {X:Cx}
end
end L2
namespace M
open PySem L2
section
variable {K:W.Frag}
end
section
variable {K:W.Frag}{S S' H H':Hp}
@[simp] noncomputable def Tf (i:Nat)(p:XP):XA:=fun ρ=>match ρ[i]? with
 |some (.ow o)=>(p ρ).bind fun is=>match d7 o is with|some (.lst l)=>shs l|_=>none
 |_=>none
end
end M
namespace TL
open PySem PyProof.Rows
section
variable {prog:Program}{w:World}{A:Around}{E:Value->Shared->Prop}{s:Shared}
end
end TL
namespace L2
open PySem PySem.Spec PyProof.Rows
section
variable {X:Cx}
end
end L2
namespace M
open PySem L2
section
variable {K:W.Frag}
end
end M
namespace L2
open PySem PySem.Spec PyProof.Rows
section
variable {X:Cx}
end
end L2
namespace M
open PySem L2
section
variable {K:W.Frag}
end
end M
namespace TL
open PySem PyProof.Rows
section
variable {prog:Program}{w:World}{A:Around}{R:Result->Shared->Prop}{I:Addr}{fp wr:List Addr}{n:Nat}{P:Nat->Value->Prop}{St:Nat->Heap->Prop}{h0:Heap}
end
section
variable {prog:Program}{w:World}{A:Around}{E:Value->Shared->Prop}{s:Shared}
end
end TL
namespace L2
open PySem PySem.Spec PyProof.Rows
section
variable {X:Cx}
end
end L2
namespace M
open PySem L2
section
variable {K:W.Frag}
end
section
variable {K:W.Frag}{S S' H H':Hp}
end
section
variable {K:W.Frag}
@[simp] noncomputable def Rz (f g:D->D->Option D)(a b c:XE):XE:=fun ρ=>(a ρ).bind fun x=>(b ρ).bind fun y=>(f x y).bind fun z=>match z with
 |.bl true=>(c ρ).bind fun w=>g y w
 |.bl false=>some (.bl false)
 |_=>none
end
end M
namespace L2
open PySem
section
variable {X:Cx}
end
end L2
namespace M
open PySem L2
section
variable {K:W.Frag}
end
end M
namespace DL
open PySem
section
variable {prog:Program}{w:World}{A:Around}{E:Value->Shared->Prop}{s:Shared}
theorem Fw {d:Addr}(hd:(d==sysModules)=false) :
  MeetsIn prog w (Builtin.«dict.__len__» ⟨[.ref d],[]⟩) (fun _ R s=>∃o es ep,s.heap.get? d=some o/\o.data = .dict es ep/\R (.ok (.ret (.int es.size s.toks))) { s with toks:=s.toks+1 }):=
 .of_wp fun A R s hpt0=>by obtain⟨o,es,ep,ho,hdat,h⟩:=hpt0;show wpAny _ _ (dictSize d >>= _) _ _ s;unfold dictSize;refine Tp (Tp (Wi ho hdat (Tv ?_)));show wpAny _ _ (Builtin.Dict.pendingCount d >>= _) _ _ s;refine Tp (wpAny_pendingCount_other hd ?_);refine wpAny_ret_mkInt ?_;rw[Nat.add_zero];exact h
theorem Ao {d:Addr}{o:Obj}{es:Array DictEntry}{ep:Nat}{Q:Value->Shared->Prop}(hd:(d==sysModules)=false)(ho:s.heap.get? d=some o)(hx:o.ExactDict)(hdat:o.data = .dict es ep)(hfit:(es.size:Int)<2 ^ 63)
  (h:Q (.int es.size (s.toks+1)) { s with toks:=s.toks+1+1 }):wpAny (model prog w) A (call (.builtin "len") [.ref d]) Q E s:=by
 have hT:s.TypeIs (.ref d) "dict" := ⟨o,ho,hx.1⟩
 refine Calls.call_function_entry kind_len plain_len entry_len (args_len1 _) ?_;unfold Builtin.«len»;refine Tp (m:=oneArg "len" _) (Tv ?_)
 refine Tp (m:=callSpecial? (.ref d) (Str.ofString "__len__")) (Vm (name:=Str.ofString "__len__") hT F.slot_dict_len
  (call_meetsIn F.slot_dict_len hT F.entry_dict_len (F.args_dict_len_1 _) (Fw hd) ⟨o,es,ep,ho,hdat,?_⟩))
 show wpAny _ _ _ _ _ { s with toks:=s.toks+1 };refine Tp (UL (Tv ?_));refine Tp (wpAny_letGo ?_);show wpAny _ _ (if ((es.size:Nat):Int)<0 then _ else _) _ _ _;rw[To (by lia)];show wpAny _ _ (if ((es.size:Nat):Int) ≥ 2 ^ 63 then _ else _) _ _ _;rw[To (by lia)];exact Tp (wpAny_mkInt (Tv ⟨_,rfl,h⟩))
end
end DL
namespace L2
open PySem
noncomputable def IX:List V->Hp->VK->Prop:=fun xs H Q=>∃a kvs,xs=[V.ref a]/\Rd H a (.dT kvs)/\Q (.int kvs.length) H
section
variable {X:Cx}
theorem EO:CallR X (.builtin "len") IX:=by
 intro pins s σ H xs us Q I r h;obtain⟨a,kvs,rfl,ha,q⟩:=h;obtain⟨u,rfl,ru⟩:=r.one;cases ru;obtain⟨z,hd,vs,rel,o,es,ep,h1,h2,h3,h4,h5⟩:=G9 I.hok ha;have hl:es.size=kvs.length:=by have:=TQ List.length h4;rw[Tt,Ui] at this;rw[this,Vu rel]
 refine DL.Ao hd h1 h2 h3 (by rw[hl];rw[Uj] at z;lia) ?_;rw[hl];exact⟨.int kvs.length,H,I.tok _,⟨_,rfl⟩,q⟩
end
end L2
namespace M
open PySem L2
section
variable {K:W.Frag}
@[simp] noncomputable def ma (i:Nat):XE:=fun ρ=>(rV ρ i).map fun ks=>.int (ks.length:Nat)
theorem NP (i:Nat):SE K (tCB IX (gJ (kQ i) rD)) (ma i):=fun ρ σ S H Q g r x c=>by
 unfold ma at x;cases qi:rV ρ i with
 |none=>rw[qi] at x;cases x
 |some ks=>rw[qi] at x;cases x;obtain⟨a,e1,ha⟩:=G7 r qi;refine⟨.ref a,e1,a,_,rfl,ha,c _ S H (Ext.refl r.sub) ?_⟩;rw[ug];exact den_int.mpr rfl
end
end M
namespace DY
open PySem
section
variable {prog:Program}{w:World}{K:Type}[DecidableEq K]{knd:HeapKind prog w K}{A:Around}{E:Value->Shared->Prop}{s:Shared}
def DAt (s:Heap)(d:Addr)(es:Array DictEntry)(ep:Nat):Prop:=∃o,s.get? d=some o/\o.ExactDict/\o.data = .dict es ep
theorem Fm {d:Addr}{es:Array DictEntry}{ep:Nat}{Q:Value->Shared->Prop}(hd:(d==sysModules)=false)(hm:DAt s.heap d es ep)
  (hQ:Q (.ref s.heap.objs.size) { s with heap:=s.heap.push { cls:=.type "dict_keyiterator",data:=.fields #[.ref d,.int 0 0,.int es.size 0,.int ep 0] } }):wpAny (model prog w) A (pyIter (.ref d)) Q E s:=by
 obtain⟨o,ho,hc,hdat⟩:=hm;have hT:s.TypeIs (.ref d) "dict" := ⟨o,ho,hc.1⟩
 refine wpAny_pyIter_slot hT F.slot_dict_iter (UU F.slot_dict_iter hT F.entry_dict_iter ?_ (F.args_dict_iter_1 _));unfold Builtin.«dict.__iter__»;refine Tp ?_;unfold Builtin.Dict.dictSlotNone;refine Tp (wpAny_notOrdered_dict hT ?_);show wpAny _ _ (pure (Value.ref d)) _ _ s;refine Tv ?_;show wpAny _ _ (Builtin.Dict.showsAll d >>= _) _ _ s;unfold Builtin.Dict.showsAll;rw[To (by rw[hd];exact UM)];refine Tp (Tv (Tp (Wi ho hdat (Tp (wpAny_dictEpoch ho hdat (Tp (Ut (Tv ⟨_,rfl, "dict_keyiterator",_,⟨_,TZ _ rfl,rfl⟩,V3.lookup,?_⟩))))))));simpa[rawInt] using hQ
theorem Ie {it d:Addr}{i ep:Nat}{es:Array DictEntry}{Q:Option Value->Shared->Prop}(hit:s.heap.IsKeyIter it d i es.size ep)(hm:DAt s.heap d es ep)(hlt:i<es.size)
  (hQ:∀h',h'.IsKeyIter it d (i+1) es.size ep->Heap.SameBut it s.heap h'->Q (some es[i].key) { s with heap:=h' }):wpAny (model prog w) A (pyNext (.ref it)) Q E s:=by
 obtain⟨o,ho,hc,hd⟩:=id hit;obtain⟨od,hod,hcd,hdd⟩:=hm;unfold pyNext;refine Tp (VD (Vm (name:=Str.ofString "__next__") hit.typeIs V3 (UU V3 hit.typeIs F.entry_dict_keyiterator_next ?_ (F.args_dict_keyiterator_next_1 _))));refine Tp (Tv (Tp (Tp ?_)));first|refine Tp (Wj hit.typeIs (Tv (Tp (Wk ho hd ?_))))|refine Tp (Wl hit.typeIs (Tv (Tp (Wk ho hd ?_))))
 simp only[show Builtin.Dict_items.ownsTuple "dict_keyiterator" = false from by decide,Wg,UT];show wpAny _ _ (if (Value.ref d==Value.none)=true then _ else _) _ _ s;rw[To (show ¬((Value.ref d==Value.none)=true) from UM)];refine Tp (Tv (Tp (Wi hod hdd ?_)));rw[To (by simp)];refine Tp (Tv (Tp (wpAny_dictEpoch hod hdd ?_)));rw[To (by simp)];refine Tv ?_;simp only[show ¬((i:Int)<0) from by lia,UT,VY,Wy hlt];refine Tp ?_;first|refine Tp (Wj hit.typeIs (Tv (Tp (WB hit.typeIs ?_))))|refine Tp (Wl hit.typeIs (Tv (Tp (WB hit.typeIs ?_))))
 show wpAny _ _ (setField (.ref it) 1 (rawInt ((i:Int)+1)) >>= _) _ _ s;refine Tp (V1 ho hd (by simp) ?_);have hit':(s.heap.update it (Obj.mapFields (·.setIfInBounds 1 (rawInt ((i:Int)+1))))).IsKeyIter it d (i+1) es.size ep:=⟨_,VO _ ho (Wz (VJ hd _)),(Obj.cls_mapFields ..).trans hc,by rw[VJ hd];simp[rawInt]⟩
 refine Tp (UL (Tp (WB (s:={ s with heap:=s.heap.update it (Obj.mapFields (·.setIfInBounds 1 (rawInt ((i:Int)+1)))) }) hit'.typeIs ?_)));show wpAny _ _ (pure es[i].key) _ _ _;exact Tv (Tv ⟨_,rfl,Tv (hQ _ hit' (V2 ..))⟩)
theorem u2 {it:Addr}{i ep:Nat}{es:Array DictEntry}{Q:Option Value->Shared->Prop}(hh:A.handled=none)(hit:s.heap.IsKeyIter it d i es.size ep)(hm:DAt s.heap d es ep)(hge:es.size<=i)
  (hQ:∀h',Heap.ExtBut it s.heap h'->Q none { s with heap:=h' }):wpAny (model prog w) A (pyNext (.ref it)) Q E s:=by
 obtain⟨o,ho,hc,hd⟩:=id hit;obtain⟨od,hod,hcd,hdd⟩:=hm;unfold pyNext;refine Tp (VD (Vm (name:=Str.ofString "__next__") hit.typeIs V3 (UU V3 hit.typeIs F.entry_dict_keyiterator_next ?_ (F.args_dict_keyiterator_next_1 _))));refine Tp (Tv (Tp (Tp ?_)));first|refine Tp (Wj hit.typeIs (Tv (Tp (Wk ho hd ?_))))|refine Tp (Wl hit.typeIs (Tv (Tp (Wk ho hd ?_))))
 simp only[show Builtin.Dict_items.ownsTuple "dict_keyiterator" = false from by decide,Wg,UT];show wpAny _ _ (if (Value.ref d==Value.none)=true then _ else _) _ _ s;rw[To (show ¬((Value.ref d==Value.none)=true) from UM)];refine Tp (Tv (Tp (Wi hod hdd ?_)));rw[To (by simp)];refine Tp (Tv (Tp (wpAny_dictEpoch hod hdd ?_)));rw[To (by simp)];refine Tv ?_;simp only[show ¬((i:Int)<0) from by lia,UT,VY,Array.getElem?_eq_none hge];refine Tp ?_;first|refine Tp (Wj hit.typeIs (Tv ?_))|refine Tp (Wl hit.typeIs (Tv ?_)) ; skip
 show wpAny _ _ (setField (.ref it) 0 .none >>= _) _ _ s;refine Tp (V1 ho hd (by simp) ?_);show wpAny _ _ (newExc (.type "StopIteration") [] >>= _) _ _ _;refine Tp ?_;simp only[newExc,newTuple];refine Tp (Ut ?_ (by size_fits));refine Tp (m:=firstArgMember _ _) (Vf (a:=Value.none) (by first|rfl|(simp only[firstArgMember];rfl)) (Ut ?_ (by size_fits)));simp only[raiseNew];refine Tp (wpAny_handled ?_);rw[show A.in1.handled=none from hh];refine Tp (Tv (wpAny_throw ?_));refine Tp (Wh (T := "StopIteration") (b:=true) ⟨_,TZ _ rfl,rfl⟩ isSubtype_stop ?_);exact Tv (hQ _ (((V2 ..).extBut.push _).push _))
end
end DY
namespace L2
open PySem PySem.Spec PyProof.Rows
section
variable {X:Cx}{pins:List (Addr×Obj)}{σ:St}{H:Hp}{s:Shared}{a b:Addr}{kvs:List (List Key×V)}{k:List Key}{v:V}{A:Around}{E:Value->Shared->Prop}
end
section
variable {X:Cx}{pins:List (Addr×Obj)}{σ:St}{H:Hp}{s:Shared}{a:Addr}{o:Obj}{kvs:List (List Key×V)}
theorem MJ (I:Inv X pins σ H s)(e:H a=some (.dT kvs)):∃o,s.heap.get? a=some o/\Inv X pins σ (upd H a (.frz o (.dT kvs))) s:=by
 obtain⟨z,hd,xs,rel,o,es,ep,ho,h2,h3,h4,h5⟩:=(show ObjOk X.prog X.w H s.heap a (.dT kvs) from I.hok a _ e)
 refine⟨o,ho,?_⟩;have:=yO (t':=s.toks) (h':=s.heap) (ob:=.frz o (.dT kvs)) I (by rw[e];exact True.intro) ⟨rfl,fun _ _=>rfl⟩ ⟨o,ho⟩ ⟨ho,z,hd,xs,Paired.mapP rel fun p q y=>⟨y.1,by rw[aG (LZ y.2.1 e (fun z=>nomatch z))];exact y.2.1,y.2.2⟩,o,es,ep,ho,h2,h3,h4,h5⟩;exact this
end
theorem yg {α β:Type}{F:α->β->Prop}:∀ {l:List α} {m:List β} {i:Nat} {y:β},Paired F l m->m[i]?=some y->∃p,l[i]?=some p/\F p y
 |_,_,_,_,.nil,h=>by simp at h
 |_,_,0,_,.cons r _,h=>by simp at h;subst h;exact⟨_,rfl,r⟩
 |_,_,i+1,_,.cons _ t,h=>by simpa using yg t (by simpa using h)
noncomputable def Itd (a:Addr)(o:Obj)(kvs:List (List Key×V)):It:=
 ⟨fun i H=>H a=some (.frz o (.dT kvs))/\i<kvs.length,fun i H x H'=>H'=H/\∃b k v,kvs[i]?=some (k,v)/\x = .ref b/\H b=some (.tup (k.map kV)),fun i H=>H a=some (.frz o (.dT kvs))/\kvs.length<=i⟩
noncomputable def MO (te:TE):TI:=fun σ H R=>te σ H fun x H1=>∃a o kvs,x = .ref a/\H1 a=some (.frz o (.dT kvs))/\R (Itd a o kvs) H1
theorem JN {P:Program}{w:World}{K:W.Frag}{tg:Expr}{es:Array DictEntry}{ep:Nat}{o:Obj}{kvs:List (List Key×V)}(a it:Addr)(ho:o.data = .dict es ep)(hx:o.ExactDict)(hl:es.size=kvs.length):Turn P w K tg (Itd a o kvs) [it] it (fun i h=>h.IsKeyIter it a i es.size ep) where
 mem:=by simp
 obj:=fun i h st b hb=>by obtain⟨q,e,c,d⟩:=st;rw[Ts.mp hb];exact⟨q,e,fun v z=>by rw[d] at z;cases z⟩
 keep:=fun i h h' st k=>st.at fun o e=>k it (by simp) o e
 item:=by
  intro X hP hw hK hc i pins s σ H E I hf st hg;subst hP hw hK;obtain⟨ea,hi⟩:=hg;obtain⟨g1,z,hd,xs,rel,o',es',ep',h1,h2,h3,h4,h5⟩:=(show ObjOk X.prog X.w H s.heap a (.frz o (.dT kvs)) from I.hok a _ ea)
  rw[g1] at h1;cases h1;rw[ho] at h3;cases h3;obtain⟨f0,f1,f2,f3,f4,f5⟩:=hf it (by simp);have hlt:i<es.size:=by rw[hl];exact hi
  refine DY.Ie st ⟨o,g1,hx,ho⟩ hlt fun h' st' sb=>?_;have I1:Inv X pins σ H { s with heap:=h' }:=I.turned (t':=s.toks) (fun b o hb e=>(sb.2 b hb).trans e) f0 f1 f3 f4 f5;obtain⟨q,e,c,d⟩:=id st';have hxi:es[i]?=(xs[i]?).map (entryOfKey (tupleKind (cj X.prog X.w))):=entry_at h4 i;rw[Wy hlt] at hxi;cases qx:xs[i]? with
  |none=>rw[qx] at hxi;cases hxi
  |some y=>rw[qx] at hxi;have ek:es[i]=entryOfKey (tupleKind (cj X.prog X.w)) y:=T6 hxi;obtain⟨p,qp,r1,r2,r3⟩:=yg rel qx;refine⟨_,rfl,uy (s:={ s with heap:=h' }) e c d (by decide) ⟨.ref y.2.1,H,I1,?_,⟨rfl,y.2.1,p.1,p.2,qp,rfl,r2⟩,st',fun b hb=>(hf b hb).1⟩⟩;rw[ek];rfl
 done:=by
  intro X hP hw hK hc i pins s σ H E I hf st hg;subst hP hw hK;obtain⟨ea,hi⟩:=hg;obtain⟨g1,_⟩:=(show ObjOk X.prog X.w H s.heap a (.frz o (.dT kvs)) from I.hok a _ ea)
  obtain⟨f0,f1,f2,f3,f4,f5⟩:=hf it (by simp);exact DY.u2 (I.ok.hd hc) st ⟨o,g1,hx,ho⟩ (by rw[hl];exact hi) fun h' eb=>⟨rfl,I.turned (t':=s.toks) (fun b o hb e=>eb b o hb e) f0 f1 f3 f4 f5⟩
 self:=fun _ _ _ _ _ st h=>wpAny_pyIter_keyiter st h
theorem Np {X:Cx}{tg l:Expr}{tl:TE}(hl:PE X l tl):PI X tg l (MO tl):=by
 intro pins s σ H R I h;refine thn (hl pins s σ H _ I h) fun v s1 h1=>?_;obtain⟨x,H1,I1,r1,a,o,kvs,e,ea,q⟩:=h1;subst e;cases r1;obtain⟨g1,z,hd,xs,rel,o',es,ep,h1,h2,h3,h4,h5⟩:=(show ObjOk X.prog X.w H1 s1.heap a (.frz o (.dT kvs)) from I1.hok a _ ea)
 rw[g1] at h1;cases h1;have hsz:es.size=kvs.length:=by rw[size_of_entries h4,Vu rel]
 refine DY.Fm hd ⟨o,g1,h2,h3⟩ ⟨s1.heap.objs.size,[s1.heap.objs.size],_,_,H1,rfl,I1.kept (t':=s1.toks) fun b o e=>TK _ e,JN a _ h3 h2 hsz,⟨_,TZ _ rfl,rfl,rfl⟩,fun b hb=>?_,q⟩;rw[Ts.mp hb];exact I1.fpOk (Tw _) I1.fresh
end L2
namespace M
open PySem L2
section
variable {K:W.Frag}{S S' H H':Hp}
mutual
noncomputable def m8:D->Bool
 |.dic _=>false
 |.dif _=>false
 |.lst l=>noDics l
 |.tup l=>noDics l
 |.scr l=>noDics l
 |.mtp l=>noDics l
 |.ins _ _ l=>noDics l
 |_=>true
noncomputable def noDics:List D->Bool
 |[]=>true
 |d::l=>m8 d&&noDics l
end
mutual
theorem Den.less {a:Addr}{o:Obj}{kvs:List (List Key×V)}(hs:∀b,b≠a->S' b=S b)(ha:S a=some (.frz o (.dT kvs))):∀ {d:D} {v:V},m8 d=true->Den K S d v->Den K S' d v
 |.dic _,_,n,_=>by unfold m8 at n;cases n
 |.dif _,_,n,_=>by unfold m8 at n;cases n
 |.non,_,_,h=>by unfold Den at *;exact h
 |.bl _,_,_,h=>by unfold Den at *;exact h
 |.int _,_,_,h=>by unfold Den at *;exact h
 |.str _,_,_,h=>by unfold Den at *;exact h
 |.ty _,_,_,h=>by unfold Den at *;exact h
 |.lst l,_,n,h=>by
  unfold m8 at n;obtain⟨p,xs,e,h1,h2⟩:=den_lst.mp h;refine den_lst.mpr ⟨p,xs,e,?_,Dens.less hs ha n h2⟩;rcases h1 with h1|⟨q,h1⟩
  ·exact .inl (by rw[hs p fun z=>by subst z;rw[ha] at h1;cases h1];exact h1)
  ·exact .inr ⟨q,by rw[hs p fun z=>by subst z;rw[ha] at h1;cases h1];exact h1⟩
 |.tup l,_,n,h=>by
  unfold m8 at n;obtain⟨p,xs,e,h1,h2⟩:=den_tup.mp h;exact den_tup.mpr ⟨p,xs,e,(show S' p=some (.tup xs) by rw[hs p fun z=>by subst z;rw[show S p=some (.tup xs) from h1] at ha;cases ha];exact h1),Dens.less hs ha n h2⟩
 |.scr l,_,n,h=>by
  unfold m8 at n;obtain⟨p,xs,e,h1,h2⟩:=den_scr.mp h;refine den_scr.mpr ⟨p,xs,e,?_,Dens.less hs ha n h2⟩;rcases h1 with (h1|⟨q,h1⟩)|h1
  ·exact .inl (.inl (by rw[hs p fun z=>by subst z;rw[ha] at h1;cases h1];exact h1))
  ·exact .inl (.inr ⟨q,by rw[hs p fun z=>by subst z;rw[ha] at h1;cases h1];exact h1⟩)
  ·exact .inr h1
 |.mtp l,_,n,h=>by
  unfold m8 at n;obtain⟨p,xs,e,h1,h2⟩:=den_mtp.mp h;refine den_mtp.mpr ⟨p,xs,e,?_,Dens.less hs ha n h2⟩;rcases h1 with (h1|⟨q,h1⟩)|h1
  ·exact .inl (.inl (by rw[hs p fun z=>by subst z;rw[ha] at h1;cases h1];exact h1))
  ·exact .inl (.inr ⟨q,by rw[hs p fun z=>by subst z;rw[ha] at h1;cases h1];exact h1⟩)
  ·exact .inr h1
 |.ins _ _ l,_,n,h=>by unfold m8 at n;obtain⟨p,C,dx,fs,e,h0,h1,h2,h3⟩:=den_ins.mp h;exact den_ins.mpr ⟨p,C,dx,fs,e,h0,by rw[hs p fun z=>by subst z;rw[ha] at h1;cases h1];exact h1,h2,Dens.less hs ha n h3⟩
theorem Dens.less {a:Addr}{o:Obj}{kvs:List (List Key×V)}(hs:∀b,b≠a->S' b=S b)(ha:S a=some (.frz o (.dT kvs))):∀ {ds:List D} {xs:List V},noDics ds=true->Dens K S ds xs->Dens K S' ds xs
 |[],_,_,h=>by rw[h.nil_of];exact .nil
 |_::_,_,n,h=>by unfold noDics at n;obtain⟨n1,n2⟩:=WC.mp n;obtain⟨y,ys,rfl,a,b⟩:=h.cons_of;exact .cons (Den.less hs ha n1 a) (Dens.less hs ha n2 b)
end
noncomputable def ksO:Sl->Option (List (List Int))
 |.ow (.dic ks)=>some ks
 |.ow (.hd _ ks [])=>some ks
 |_=>none
noncomputable def reD (ks:List (List Int)):Sl->Sl
 |.ow (.dic _)=>.ow (.dic ks)
 |.ow (.hd p _ [])=>.ow (.hd p ks [])
 |s=>s
@[simp] theorem Qs (ks:List (List Int)):ksO (.ow (.dic ks))=some ks:=rfl
@[simp] theorem QP (p:Addr)(ks:List (List Int)):ksO (.ow (.hd p ks []))=some ks:=rfl
@[simp] theorem Qx (ks ks':List (List Int)):reD ks (.ow (.dic ks')) = .ow (.dic ks):=rfl
@[simp] theorem QX (p:Addr)(ks ks':List (List Int)):reD ks (.ow (.hd p ks' [])) = .ow (.hd p ks []):=rfl
theorem KU {s:Sl}{ks:List (List Int)}(h:ksO s=some ks):∃o,s = .ow o/\(∀S H v fp,Own K S H o v fp->∃a,v = .ref a/\fp=[a]/\H a=some (.dT (b8 ks)))/\(∀S H v fp,Own K S H o v fp->∀a,v = .ref a->∀(S' H':Hp) ks',H' a=some (.dT (b8 ks'))->∃o',reD ks' s = .ow o'/\Own K S' H' o' (.ref a) [a]):=by
 unfold ksO at h;split at h
 ·cases h;refine⟨_,rfl,fun S H v fp ow=>own_dic.mp ow,fun S H v fp ow a e S' H' ks' hh=>⟨_,rfl,own_dic.mpr ⟨a,rfl,rfl,hh⟩⟩⟩
 ·cases h;refine⟨_,rfl,fun S H v fp ow=>?_,fun S H v fp ow a e S' H' ks' hh=>⟨_,rfl,?_⟩⟩
  ·obtain⟨xs,f,e,e2,h1,h2⟩:=own_hd.mp ow;obtain⟨rfl,rfl⟩:=h2.nil_of;exact⟨_,e,e2,h1⟩
  ·obtain⟨xs,f,e1,e2,h1,h2⟩:=own_hd.mp ow;obtain⟨rfl,rfl⟩:=h2.nil_of;rw[e] at e1;cases e1;exact own_hd.mpr ⟨[],[],rfl,rfl,hh,.nil⟩
 ·cases h
section
variable {A:Hp}{Λ:Nat->Option Addr}{Φ:Nat->List Addr}{ρ:Env}{σ:St}{i:Nat}{s:Sl}{ks:List (List Int)}
theorem RlF.dicO (f:RlF K A Λ Φ ρ σ S H)(h:ρ[i]?=some s)(hk:ksO s=some ks):∃a,σ[i]?=some (some (.ref a))/\H a=some (.dT (b8 ks))/\S a=none/\A a=none/\(∀(j:Nat) o',j≠i->ρ[j]?=some (.ow o')->a∉Φ j) /\
  ∀ks',RlF K A Λ Φ (ρ.set i (reD ks' s)) σ S (upd H a (.dT (b8 ks'))):=by
 obtain⟨o,rfl,w1,w2⟩:=KU (K:=K) hk;obtain⟨v,ev,ow,nd,n⟩:=f.ow i _ h;obtain⟨a,rfl,hfp,ha⟩:=w1 _ _ _ _ ow;have ain:a∈Φ i:=by rw[hfp];exact Tx
 have oth:∀(j:Nat) o',j≠i->ρ[j]?=some (.ow o')->a∉Φ j:=fun j o' hj e1 z=>f.dj j i o' _ hj e1 h a z ain;refine⟨a,ev,ha,(n a ain).1,(n a ain).2,oth,fun ks'=>?_⟩;obtain⟨o2,e2,ow2⟩:=w2 _ _ _ _ ow a rfl S (upd H a (.dT (b8 ks'))) ks' aH;rw[e2];have ne:∀b,b≠a->upd H a (.dT (b8 ks')) b=H b:=fun b hb=>aG hb;have fin:=f.put (H':=upd H a (.dT (b8 ks'))) i (fun b u e=>by rw[ne b fun z=>by subst z;rw[(n b ain).1] at e;cases e];exact f.sub b u e) (fun b u e=>by rw[ne b fun z=>by subst z;rw[(n b ain).2] at e;cases e];exact f.asub b u e) ow2 (by simp) (fun b hb=>by rw[Ts.mp hb];exact n a ain) fun j o' hj e1 b hb=>by have nb:b≠a:=fun z=>oth j o' hj e1 (by rw[<- z];exact hb);exact⟨ne b nb,fun z=>nb (Ts.mp z)⟩
 rw[vB ev] at fin;have hΦ:(fun j=>if j=i then [a] else Φ j)=Φ:=by
  funext j
  by_cases hj:j=i
  ·rw[Tn hj,hj,hfp]
  ·rw[To hj]
 rw[hΦ] at fin;exact fin
theorem RlF.melt (f:RlF K A Λ Φ ρ σ S H)(h:ρ[i]?=some s)(hk:ksO s=some ks):∃a,σ[i]?=some (some (.ref a))/\H a=some (.dT (b8 ks))/\S a=none /\
  ∀o,RlF K A Λ Φ (ρ.set i (.sh (.dif ks))) σ (upd S a (.frz o (.dT (b8 ks)))) (upd H a (.frz o (.dT (b8 ks)))):=by
 obtain⟨a,ev,ha,sa,aa,oth,_⟩:=f.dicO h hk;refine⟨a,ev,ha,sa,fun o=>?_⟩;have s1:Same S (upd S a (.frz o (.dT (b8 ks)))):=fun b u e=>by rw[aG (aO e sa)];exact e
 exact {
  len:=by rw[UV];exact f.len
  sub:=fun b u e=>by
   by_cases hb:b=a
   ·subst hb;rw[aH] at e ⊢;exact e
   ·rw[aG hb] at e ⊢;exact f.sub b u e
  sh:=fun j d hj=>by
   rcases bo hj with ⟨rfl,e,_⟩|⟨hij,hj⟩
   ·cases e;exact⟨_,ev,den_dif.mpr ⟨a,o,rfl,aH⟩⟩
   ·obtain⟨v,e1,e2⟩:=f.sh j d hj;exact⟨v,e1,e2.mono s1⟩
  ow:=fun j o' hj=>by
   rcases bo hj with ⟨rfl,e,_⟩|⟨hij,hj⟩
   ·cases e
   ·obtain⟨v,e1,e2,e3,e4⟩:=f.ow j o' hj;have nb:∀b∈Φ j,b≠a:=fun b hb z=>oth j o' (T9 hij) hj (by rw[<- z];exact hb);exact⟨v,e1,e2.mono s1 fun b hb=>aG (nb b hb),e3,fun b hb=>⟨by rw[aG (nb b hb)];exact (e4 b hb).1,(e4 b hb).2⟩⟩
  dj:=fun j k o1 o2 hjk g1 g2=>by
   rcases bo g1 with ⟨rfl,e,_⟩|⟨_,g1⟩
   ·cases e
   ·rcases bo g2 with ⟨rfl,e,_⟩|⟨_,g2⟩
    ·cases e
    ·exact f.dj j k o1 o2 hjk g1 g2
  lo:=fun j hj=>by
   rcases bo hj with ⟨rfl,e,_⟩|⟨_,hj⟩
   ·cases e
   ·exact f.lo j hj
  asub:=fun b u e=>by rw[aG fun z=>by subst z;rw[aa] at e;cases e];exact f.asub b u e
  adis:=fun b=>by
   by_cases hb:b=a
   ·subst hb;exact .inr aa
   ·rw[aG hb];exact f.adis b }
end
@[simp] noncomputable def Sm (i:Nat)(e:XE):XE:=fun ρ=>((ρ[i]?).bind ksO).bind fun ks=>(e (ρ.set i (.sh (.dif ks)))).bind fun d=>if m8 d=true then some d else none
theorem bind_some {α β:Type}{x:Option α}{f:α->Option β}{b:β}(h:x.bind f=some b):∃a,x=some a/\f a=some b:=Option.bind_eq_some_iff.mp h
@[simp] noncomputable def RC (i:Nat)(e:XA):XA:=fun ρ=>((ρ[i]?).bind ksO).bind fun ks=>(e (ρ.set i (.sh (.dif ks)))).bind fun l=>if noDics l=true then some l else none
noncomputable def QL (ks:List (List Int))(q:List Int):List (List Int):=ks.filter fun k=>decide (k≠q)
@[simp] noncomputable def So (i:Nat)(k:XE):XS:=fun ρ=>(ρ[i]?).bind fun s=>(ksO s).bind fun ks=>(k ρ).bind fun d=>(kyD d).bind fun q=>if ks.contains q=true then some (.nx (ρ.set i (reD (QL ks q) s))) else none
@[simp] noncomputable def RA (e:XA):Env->Option O:=fun ρ=>(e ρ).bind fun l=>(CZ l).bind fun qs=>if l.length<LIM then some (.dic (qs.foldl Af [])) else none
end
section
variable {K:W.Frag}{S S' H H':Hp}
def SGT (K:W.Frag)(g:TG)(x:XG):Prop:=∀A Λ ρ σ S H b (k:List Int) (Q:St->Hp->Prop) ρ',RlA K A Λ ρ σ S H->H b=some (.tup (k.map V.int))->x (.tup (k.map .int)) ρ=some ρ'->(∀σ',RlA K A Λ ρ' σ' S H->Q σ' H)->g (.ref b) σ H Q
theorem MN {gs:TGs}{y:XGs}{n:Nat}(hs:SGs K gs y)(hl:AR y n):SGT K (Hr K n gs) (aF y):=fun A Λ ρ σ S H b k Q ρ' r hb e c=>
 ⟨b,k.map V.int,rfl,SqT.of hb,by rw[Tt,<- hl (k.map D.int) ρ ρ' e,Tt],hs A Λ ρ σ S H _ (k.map D.int) Q ρ' r (qw k) e c⟩
@[simp] noncomputable def JT (i:Nat):XA:=fun ρ=>match ρ[i]? with|some (.sh (.dif ks))=>some (ks.map fun k=>.tup (k.map .int))|_=>none
noncomputable abbrev HM:=Addr->List (List Int)->List D->Option (O×List (List Int))
@[simp] noncomputable def Sr (j:Nat):XS:=fun ρ=>match ρ[j]?,(ρ[0]?:Option Sl) with
 |some (.ow o),some (.ow (.hd p ks []))=>if j=0 then none else some (.ro (.hd p ks [o]))
 |_,_=>none
noncomputable def QN (m:HM)(ks:List (List Int))(ds:List D):Option (O×List (List Int)):=by
 classical exact if h:∃r,∀p,m p ks ds=some r then some h.choose else none
@[simp] noncomputable def Si (j i:Nat)(m:HM)(a:XA):XS:=fun ρ=>match ρ[j]? with
 |some (.ow (.lst l))=>(ρ[i]?).bind fun s=>(ksO s).bind fun ks=>(a ρ).bind fun ds=>(QN m ks ds).bind fun r=>match r with
  | (.lst l',ks')=>(shs l').bind fun ds'=>if l.length+l'.length<=LIM then some (.nx ((ρ.set i (reD ks' s)).set j (.ow (.lst (l++ds'.map .sh))))) else none
  |_=>none
 |_=>none
end
end M
namespace L2
open PySem
end L2
namespace M
open PySem L2
theorem o5 {K:W.Frag}{a:Addr}{o:Obj}{its:Array Value}{n:Nat}{xs:List V}{l:List D}(h:K.lookup a=some o)(hc:o.cls = .type "tuple") (hd:o.data = .seq its n) (hs:its.size<=sizeLine) (hv:Vals xs its.toList) (hD:∀S,Dens K S l xs) (S:Hp):Den K S (.mtp l) (.ref a):=
 den_mtp.mpr ⟨a,xs,rfl,(show SqT K S a xs from .inr ⟨o,its,n,h,hc,hd,hs,hv⟩),hD S⟩
end M
namespace L2
open PySem PySem.Spec PyProof.Rows
section
variable {X:Cx}{tg:Expr}
end
end L2
namespace M
open PySem L2
section
variable {K:W.Frag}{S S' H H':Hp}
noncomputable def PM:List D->Option (List D)
 |[.lst l]=>some l.reverse|_=>none
@[simp] noncomputable def Sv (a:XA):XA:=fun ρ=>(a ρ).bind PM
end
end M
namespace L2
open PySem PySem.Spec PyProof.Rows
section
variable {X:Cx}{CX:CXT}{k:Nat}{f:Addr}{fd:FuncData}{ps:List Str}{sp:Sp}{E:XK}{x y:Str}{p cpos pos pos':Pos}{e:Expr}{es:List Expr}{t:TA}
end
section
variable {X:Cx}{body suite:List Stmt}{b0:Stmt}{x n:Str}{i:Nat}{L:List Str}{tx:XK->St->Hp->Prop}{tu ts:TS}{np hp pos:Pos}
end
end L2
namespace M
open PySem L2
section
variable {K:W.Frag}{S S' H H':Hp}
@[simp] noncomputable def Sy (L:List Str)(i:Nat)(n:List D->Option Str)(a:XA)(m:XS)(l:List (Nat×List (List (Str×Bool)))):XS:=fun ρ=>if i<ρ.length then (match (a ρ).bind n with
 |some N=>if L.contains N then (Ht i N l (ρ.set i .un)).map fun ρ'=>.nx (ρ'.set i .un) else none
 |none=>(match m ρ with|some (.nx ρ')=>some (.nx ρ')|_=>none)) else none
end
end M
namespace L2
open PySem PySem.Spec PyProof.Rows
noncomputable def JF (i:Nat)(t:TS):TS:=fun D σ H=>t D σ H\/∃a kvs,σ[i]?=some (some (.ref a))/\H a=some (.dT kvs)/\∀o,t D σ (upd H a (.frz o (.dT kvs)))
theorem La {X:Cx}{st:Stmt}{t:TS}(i:Nat)(h:PS X st t):PS X st (JF i t):=by
 intro pins s σ H D I q;rcases q with q|⟨a,kvs,_,ea,q⟩
 ·exact h pins s σ H D I q
 ·obtain⟨o,ho,I1⟩:=MJ I ea;exact h pins s σ _ D I1 (q o)
end L2
namespace M
open PySem L2
section
variable {K:W.Frag}{S S' H H':Hp}
@[simp] noncomputable def vU (i:Nat)(m:XS):XS:=fun ρ=>match (ρ[i]?).bind ksO with|some ks=>m (ρ.set i (.sh (.dif ks)))|none=>m ρ
theorem NO {t:TS}{m:XS}(i:Nat)(h:SS K t m):SS K (JF i t) (vU i m):=fun A Λ ρ σ S H D o r x k=>by
 unfold vU at x;cases q:(ρ[i]?).bind ksO with
 |none=>rw[q] at x;exact .inl (h A Λ ρ σ S H D o r x k)
 |some ks=>rw[q] at x;obtain⟨s,qs,hk⟩:=bind_some q;obtain⟨Φ,f⟩:=r;obtain⟨a,ev,ha,sa,up⟩:=f.melt qs hk;refine .inr ⟨a,_,ev,ha,fun ob=>h A Λ _ σ _ _ D o ⟨Φ,up ob⟩ x (k.mono fun b u e=>?_)⟩;rw[aG (aO e sa)];exact e
def Mp (J:It)(S:Hp)(l:List D):Prop:=∀S' H',Same S S'->Same S' H' ->
 (∀i d,l[i]?=some d->J.go i H'/\∀x H'',J.yld i H' x H''->H''=H'/\∃b,∃k:List Int,d = .tup (k.map .int)/\x = .ref b/\H' b=some (.tup (k.map V.int)))/\J.stop l.length H'
def SIK (K:W.Frag)(wi:TI)(e:XA):Prop:=∀ρ σ S H (R:It->Hp->Prop) l,Rl K ρ σ S H->e ρ=some l->(∀J S' H',Ext S H S' H'->Mp J S' l->R J H')->wi σ H R
theorem MQ (i:Nat):SIK K (MO (kQ i)) (JT i):=fun ρ σ S H R l r x c=>by
 unfold JT at x;split at x
 ·rename_i ks q;cases x;obtain⟨v,ev,dv⟩:=r.sh i _ q;obtain⟨a,o,rfl,ha⟩:=den_dif.mp dv;refine⟨.ref a,ev,a,o,_,rfl,r.sub _ _ ha,c _ S H (Ext.refl r.sub) fun S' H' s1 s2=>?_⟩;have ha':=s2 a _ (s1 a _ ha);have hl:(b8 ks).length=ks.length:=ug ks;refine⟨fun j d hd=>⟨⟨ha',?_⟩,fun x H'' hy=>?_⟩,ha',by rw[hl,Tt];exact Tw _⟩
  ·have:=(TR.mp hd).1;rw[Tt] at this;rw[hl];exact this
  ·obtain⟨e,b,k,v,hk,rfl,hb⟩:=hy;refine⟨e,b,?_⟩;rw[TW] at hd;unfold b8 at hk;rw[TW] at hk;cases qj:ks[j]? with
   |none=>rw[qj] at hd;cases hd
   |some k0=>rw[qj] at hd hk;cases hd;cases hk;exact⟨k0,rfl,rfl,by rw[O5] at hb;exact hb⟩
 ·cases x
theorem OW {wi:TI}{g:TG}{tb:TS}{e:XA}{x:XG}{m:XS}(hi:SIK K wi e)(hg:SGT K g x)(hb:SS K tb m):SS K (JE wi g tb) (bg e x m):=fun A Λ ρ σ S H E o r y k=>by
 unfold bg at y;cases q:e ρ with
 |none=>rw[q] at y;cases y
 |some l=>
  rw[q] at y;dsimp only[Option.bind] at y;refine hi ρ σ S H _ l r.toRl q fun J S1 H1 z1 wk=>?_;have r1:=r.ext z1;refine⟨fun i n σ' H'=>n=l.length-i/\i<=l.length/\∃ρ' S',RlA K A Λ ρ' σ' S' H'/\Same S1 S'/\bE x m (l.drop i) ρ'=some o,⟨_,rfl,T2 _,ρ,S1,r1,Same.refl _,y⟩,?_⟩;rintro i n σ2 H2 ⟨rfl,hil,ρ2,S2,r2,s2,y2⟩;obtain⟨w1,w2⟩:=wk S2 H2 s2 r2.sub;cases qd:l[i]? with
  |none=>
   have:l.length=i:=by have:=VG.mp qd;lia
   subst this;rw[Vb (Tw _)] at y2;cases y2;exact .inl ⟨w2,k σ2 S2 H2 r2 (z1.sh.trans s2)⟩
  |some d=>
   obtain⟨g1,g2⟩:=w1 i d qd;have hlt:=(TR.mp qd).1;rw[uh qd] at y2;unfold bE at y2;cases qx:x d ρ2 with
   |none=>rw[qx] at y2;cases y2
   |some ρ3=>
    rw[qx] at y2;dsimp only[Option.bind] at y2;refine .inr ⟨g1,fun σ' H'=>∃ρ' S',RlA K A Λ ρ' σ' S' H'/\Same S1 S'/\bE x m (l.drop (i+1)) ρ'=some o,fun σ' H' ⟨ρ',S',a1,a2,a3⟩=>⟨_,by lia,rfl,hlt,ρ',S',a1,a2,a3⟩,fun xv H3 hy=>?_⟩;obtain⟨rfl,b0,k0,rfl,rfl,hb0⟩:=g2 xv H3 hy;refine hg A Λ ρ2 σ2 S2 H3 b0 k0 _ ρ3 r2 hb0 qx fun σ3 r3=>?_;cases qm:m ρ3 with
    |none=>rw[qm] at y2;cases y2
    |some om=>
     rw[qm] at y2;refine hb A Λ ρ3 σ3 S2 H3 _ om r3 qm ?_;cases om with
     |nx ρ4=>exact fun σ4 S4 H4 r4 s4=>⟨ρ4,S4,r4,s2.trans s4,y2⟩
     |ct ρ4=>exact fun σ4 S4 H4 r4 s4=>⟨ρ4,S4,r4,s2.trans s4,y2⟩
     |bk ρ4=>cases y2;exact fun σ4 S4 H4 r4 s4=>k σ4 S4 H4 r4 ((z1.sh.trans s2).trans s4)
     |rt d4=>cases y2;exact fun v S4 H4 s4=>k v S4 H4 ((z1.sh.trans s2).trans s4)
     |ro d4=>cases y2;exact fun v fp S4 H4 s4=>k v fp S4 H4 ((z1.sh.trans s2).trans s4)
@[simp] noncomputable def vT (i:Nat)(x:XG)(m:XS):XS:=bg (JT i) x m
theorem NN {i:Nat}{g:TG}{tb:TS}{x:XG}{m:XS}(hg:SGT K g x)(hb:SS K tb m):SS K (JE (MO (kQ i)) g tb) (vT i x m):=OW (MQ i) hg hb
end
end M
namespace Rw
noncomputable abbrev R:=List (Int×Int)
def Mem (r:R)(x:Int):Prop:=∃p∈r,p.1<=x/\x<=p.2
def Ok (r:R):Prop:=∀p∈r,p.1<=p.2
def aR (r:R):Prop:=Ok r/\r.Pairwise fun p q=>p.2+2<=q.1
theorem aW (x:Int):¬Mem [] x:=by rintro⟨p,h,_⟩;cases h
theorem mem_cons (p:Int×Int)(r:R)(x:Int):Mem (p::r) x↔(p.1<=x/\x<=p.2)\/Mem r x:=by
 constructor
 ·rintro⟨q,h,e⟩;rcases TD.mp h with rfl|h
  ·exact .inl e
  ·exact .inr ⟨q,h,e⟩
 ·rintro (e|⟨q,h,e⟩)
  ·exact⟨p,Tx,e⟩
  ·exact⟨q,TC _ h,e⟩
theorem mem_append (r t:R)(x:Int):Mem (r++t) x↔Mem r x\/Mem t x:=by
 constructor
 ·rintro⟨q,h,e⟩;rcases TB.mp h with h|h
  ·exact .inl ⟨q,h,e⟩
  ·exact .inr ⟨q,h,e⟩
 ·rintro (⟨q,h,e⟩|⟨q,h,e⟩)
  ·exact⟨q,TJ _ h,e⟩
  ·exact⟨q,TH _ h,e⟩
theorem HV {r t:R}(h:r.Perm t)(x:Int):Mem r x↔Mem t x:=
 ⟨fun⟨q,m,e⟩=>⟨q,h.mem_iff.mp m,e⟩,fun⟨q,m,e⟩=>⟨q,h.mem_iff.mpr m,e⟩⟩
theorem mem_filter (r:R)(x:Int):Mem (r.filter fun p=>decide (p.1<=p.2)) x↔Mem r x:=by
 constructor
 ·rintro⟨q,m,e⟩;exact⟨q,(T4.mp m).1,e⟩
 ·rintro⟨q,m,e⟩;exact⟨q,T4.mpr ⟨m,by simp;lia⟩,e⟩
theorem fO:aR []:=⟨fun _ h=>(by cases h),.nil⟩
theorem canon_cons {p:Int×Int}{r:R}:aR (p::r)↔p.1<=p.2/\(∀q∈r,p.2+2<=q.1)/\aR r:=by
 constructor
 ·rintro⟨h1,h2⟩;have h3:=U0.mp h2;exact⟨h1 p Tx,h3.1,fun q hq=>h1 q (TC _ hq),h3.2⟩
 ·rintro⟨h1,h2,h3,h4⟩;refine⟨fun q hq=>?_,U0.mpr ⟨h2,h4⟩⟩;rcases TD.mp hq with rfl|hq
  ·exact h1
  ·exact h3 q hq
theorem dE {p:Int×Int}{r:R}(c:aR (p::r)){x:Int}(h:Mem r x):p.2+2<=x:=by obtain⟨q,m,e,_⟩:=h;have:=(canon_cons.mp c).2.1 q m;lia
theorem xu {p:Int×Int}{r:R}(c:aR (p::r)){x:Int}(h:Mem (p::r) x):p.1<=x:=by
 rcases (mem_cons p r x).mp h with h|h
 ·exact h.1
 ·have:=dE c h;have:=(canon_cons.mp c).1;lia
theorem Dm:∀ {r t:R},aR r->aR t->(∀x,Mem r x↔Mem t x)->r=t
 |[],[],_,_,_=>rfl
 |[],q::t,_,ct,h=>by
  have:=(h q.1).mpr ((mem_cons ..).mpr (.inl ⟨TN _,(canon_cons.mp ct).1⟩));exact (aW _ this).elim
 |p::r,[],cr,_,h=>by
  have:=(h p.1).mp ((mem_cons ..).mpr (.inl ⟨TN _,(canon_cons.mp cr).1⟩));exact (aW _ this).elim
 |p::r,q::t,cr,ct,h=>by
  have hp:=(canon_cons.mp cr).1;have hq:=(canon_cons.mp ct).1;have a1:q.1<=p.1:=xu ct ((h p.1).mp ((mem_cons ..).mpr (.inl ⟨TN _,hp⟩)));have a2:p.1<=q.1:=xu cr ((h q.1).mpr ((mem_cons ..).mpr (.inl ⟨TN _,hq⟩)));have e1:p.1=q.1:=by lia
  have n1:¬Mem (p::r) (p.2+1):=fun m=>by
   rcases (mem_cons ..).mp m with m|m
   ·lia
   ·have:=dE cr m;lia
  have n2:¬Mem (q::t) (q.2+1):=fun m=>by
   rcases (mem_cons ..).mp m with m|m
   ·lia
   ·have:=dE ct m;lia
  have e2:p.2=q.2:=by
   by_cases l1:p.2<q.2
   ·exact (n1 ((h _).mpr ((mem_cons ..).mpr (.inl ⟨by lia,by lia⟩)))).elim
   ·by_cases l2:q.2<p.2
    ·exact (n2 ((h _).mp ((mem_cons ..).mpr (.inl ⟨by lia,by lia⟩)))).elim
    ·lia
  have e:p=q:=by obtain⟨a,b⟩:=p;obtain⟨c,d⟩:=q;simp only at e1 e2;rw[e1,e2]
  subst e;have ih:r=t:=Dm (canon_cons.mp cr).2.2 (canon_cons.mp ct).2.2 fun x=>by
   constructor
   ·intro m;rcases (mem_cons ..).mp ((h x).mp ((mem_cons ..).mpr (.inr m))) with k|k
    ·have:=dE cr m;lia
    ·exact k
   ·intro m;rcases (mem_cons ..).mp ((h x).mpr ((mem_cons ..).mpr (.inr m))) with k|k
    ·have:=dE ct m;lia
    ·exact k
  rw[ih]
noncomputable def step (acc:R)(p:Int×Int):R:=
 match acc.getLast? with
 |none=>[p]
 |some q=>if p.1<=q.2+1 then acc.dropLast++[(q.1,if p.2 > q.2 then p.2 else q.2)] else acc++[p]
noncomputable def m6 (l:R):R:=l.foldl step []
theorem vL (p:Int×Int):step [] p=[p]:=rfl
theorem hJ (t:R)(q p:Int×Int):step (t++[q]) p=if p.1<=q.2+1 then t++[(q.1,if p.2 > q.2 then p.2 else q.2)] else t++[q]++[p]:=by unfold step;simp
theorem canon_snoc {t:R}{q:Int×Int}:aR (t++[q])↔aR t/\q.1<=q.2/\∀p∈t,p.2+2<=q.1:=by
 constructor
 ·rintro⟨h1,h2⟩;have h3:=T3.mp h2;exact⟨⟨fun p hp=>h1 p (TJ _ hp),h3.1⟩,h1 q (TH _ Tx),fun p hp=>h3.2.2 p hp q Tx⟩
 ·rintro⟨⟨h1,h2⟩,h3,h4⟩;refine⟨fun p hp=>?_,T3.mpr ⟨h2,.cons (fun _ h=>(by cases h)) .nil,fun p hp x hx=>?_⟩⟩
  ·rcases TB.mp hp with hp|hp
   ·exact h1 p hp
   ·rw[Ts.mp hp];exact h3
  ·rw[Ts.mp hx];exact h4 p hp
theorem Ep {acc:R}{p:Int×Int}(c:aR acc)(hp:p.1<=p.2)(lo:∀q∈acc,q.1<=p.1) :
  aR (step acc p)/\(∀x,Mem (step acc p) x↔Mem acc x\/(p.1<=x/\x<=p.2))/\(∀q∈step acc p,q.1<=p.1):=by
 rcases Uh acc with rfl|⟨t,q,rfl⟩
 ·rw[vL];refine⟨canon_cons.mpr ⟨hp,fun _ h=>(by cases h),fO⟩,fun x=>?_,fun q hq=>?_⟩
  ·rw[mem_cons];constructor
   ·rintro (h|h)
    ·exact .inr h
    ·exact .inl h
   ·rintro (h|h)
    ·exact .inr h
    ·exact .inl h
  ·rw[Ts.mp hq];exact TN _
 ·rw[Uo] at *;obtain⟨ct,hq,ht⟩:=canon_snoc.mp c;have lq:q.1<=p.1:=lo q (TH _ Tx);rw[hJ];by_cases h:p.1<=q.2+1
  ·rw[Tn h];have m:∀z,(if p.2 > q.2 then p.2 else q.2)=z->q.2<=z/\p.2<=z/\(z=p.2\/z=q.2):=fun z e=>by
    split at e<;>lia
   obtain⟨m1,m2,m3⟩:=m _ rfl;generalize (if p.2 > q.2 then p.2 else q.2)=z at *;refine⟨canon_snoc.mpr ⟨ct,by dsimp only;lia,ht⟩,fun x=>?_,fun s hs=>?_⟩
   ·rw[mem_append,mem_append,mem_cons,mem_cons];dsimp only;constructor
    ·rintro (k|k|k)
     ·exact .inl (.inl k)
     ·by_cases hx:x<=q.2
      ·exact .inl (.inr (.inl ⟨k.1,hx⟩))
      ·right;lia
     ·exact (aW _ k).elim
    ·rintro ((k|k|k)|k)
     ·exact .inl k
     ·right;left;lia
     ·exact (aW _ k).elim
     ·right;left;lia
   ·rcases TB.mp hs with hs|hs
    ·exact lo s (TJ _ hs)
    ·rw[Ts.mp hs];exact lq
  ·rw[To h];refine⟨canon_snoc.mpr ⟨c,hp,fun s hs=>?_⟩,fun x=>?_,fun s hs=>?_⟩
   ·rcases TB.mp hs with hs|hs
    ·have:=ht s hs;lia
    ·rw[Ts.mp hs];lia
   ·rw[mem_append,mem_cons];constructor
    ·rintro (k|k|k)
     ·exact .inl k
     ·exact .inr k
     ·exact (aW _ k).elim
    ·rintro (k|k)
     ·exact .inl k
     ·exact .inr (.inl k)
   ·rcases TB.mp hs with hs|hs
    ·exact lo s hs
    ·rw[Ts.mp hs];exact TN _
theorem DN:∀(l:R) (acc:R),aR acc->Ok l->l.Pairwise (fun p q=>p.1<=q.1)->(∀q∈acc,∀p∈l,q.1<=p.1) ->
  aR (l.foldl step acc)/\∀x,Mem (l.foldl step acc) x↔Mem acc x\/Mem l x
 |[],acc,c,_,_,_=>⟨c,fun x=>⟨fun h=>.inl h,fun h=>h.elim id fun k=>(aW _ k).elim⟩⟩
 |p::l,acc,c,o,w,lo=>by
  obtain⟨w1,w2⟩:=U0.mp w;obtain⟨c1,m1,l1⟩:=Ep c (o p Tx) fun q hq=>lo q hq p Tx;obtain⟨c2,m2⟩:=DN l (step acc p) c1 (fun q hq=>o q (TC _ hq)) w2 fun q hq s hs=>by have:=l1 q hq;have:=w1 s hs;lia
  refine⟨c2,fun x=>?_⟩;show Mem (l.foldl step (step acc p)) x↔_;rw[m2,m1,mem_cons,or_assoc]
def IsRow (ps r:R):Prop:=aR r/\∀x,Mem r x↔Mem ps x
theorem HZ {l ps:R}(o:Ok l)(w:l.Pairwise fun p q=>p.1<=q.1)(h:∀x,Mem l x↔Mem ps x):IsRow ps (m6 l):=by
 obtain⟨c,m⟩:=DN l [] fO o w fun _ h=>(by cases h)
 exact⟨c,fun x=>by
  show Mem (l.foldl step []) x↔_;rw[m x,<- h x]
  exact⟨fun k=>k.elim (fun z=>(aW _ z).elim) id,.inr⟩⟩
theorem IsRow.eq {ps qs r t:R}(h:IsRow ps r)(k:IsRow qs t)(e:∀x,Mem ps x↔Mem qs x):r=t:=
 Dm h.1 k.1 fun x=>(h.2 x).trans ((e x).trans (k.2 x).symm)
noncomputable def nl (r:R)(lo hi:Int):R:=r.map fun p=>(p.1+lo,p.2+hi)
theorem Fy (r:R)(lo hi x:Int):Mem (nl r lo hi) x↔∃p∈r,p.1+lo<=x/\x<=p.2+hi:=by
 constructor
 ·rintro⟨q,m,e⟩;obtain⟨p,hp,rfl⟩:=Ty.mp m;exact⟨p,hp,e⟩
 ·rintro⟨p,hp,e⟩;exact⟨_,Ty.mpr ⟨p,hp,rfl⟩,e⟩
theorem Jr {r:R}(o:Ok r){lo hi:Int}(hl:lo<=hi):Ok (nl r lo hi):=fun q m=>by obtain⟨p,hp,rfl⟩:=Ty.mp m;have:=o p hp;dsimp only;lia
end Rw
namespace Rw
noncomputable def dc:R->R->R
 |[],_=>[]
 |_::_,[]=>[]
 |p::s,q::t=>(if max p.1 q.1<=min p.2 q.2 then [(max p.1 q.1,min p.2 q.2)] else [])++(if p.2<q.2 then dc s (q::t) else dc (p::s) t)
termination_by s t=>s.length+t.length
theorem dG (s:R):dc s []=[]:=by cases s<;>simp[dc]
theorem d9 (t:R):dc [] t=[]:=by simp[dc]
theorem DF:∀(n:Nat) (s t:R),s.length+t.length=n->∀r∈dc s t,(∃p∈s,p.1<=r.1/\r.2<=p.2)/\(∃q∈t,q.1<=r.1/\r.2<=q.2)/\r.1<=r.2:=by
 intro n;induction n using Nat.strongRecOn with
 |ind n ih=>
  intro s t hn r hr
  match s,t with
  |[],t=>rw[d9] at hr;cases hr
  |p::s,[]=>rw[dG] at hr;cases hr
  |p::s,q::t=>
   rw[dc] at hr;rcases TB.mp hr with hr|hr
   ·split at hr
    ·rename_i h;rw[Ts.mp hr];refine⟨⟨p,Tx,?_,?_⟩,⟨q,Tx,?_,?_⟩,h⟩<;>dsimp only<;>lia
    ·cases hr
   ·split at hr
    ·obtain⟨⟨p',h1,h2⟩,h3⟩:=ih (s.length+(q::t).length) (by simp at hn ⊢;lia) s (q::t) rfl r hr;exact⟨⟨p',TC _ h1,h2⟩,h3⟩
    ·obtain⟨h1,⟨q',h2,h3⟩,h4⟩:=ih ((p::s).length+t.length) (by simp at hn ⊢;lia) (p::s) t rfl r hr;exact⟨h1,⟨q',TC _ h2,h3⟩,h4⟩
theorem G2:∀(n:Nat) (s t:R),s.length+t.length=n->aR s->aR t->∀x,Mem (dc s t) x↔Mem s x/\Mem t x:=by
 intro n;induction n using Nat.strongRecOn with
 |ind n ih=>
  intro s t hn cs ct x
  match s,t with
  |[],t=>rw[d9];exact⟨fun h=>(aW _ h).elim,fun h=>(aW _ h.1).elim⟩
  |p::s,[]=>rw[dG];exact⟨fun h=>(aW _ h).elim,fun h=>(aW _ h.2).elim⟩
  |p::s,q::t=>
   have hp:=(canon_cons.mp cs).1;have hq:=(canon_cons.mp ct).1;have cs':=(canon_cons.mp cs).2.2;have ct':=(canon_cons.mp ct).2.2;have first:Mem (if max p.1 q.1<=min p.2 q.2 then [(max p.1 q.1,min p.2 q.2)] else []) x↔(p.1<=x/\x<=p.2)/\(q.1<=x/\x<=q.2):=by
    split
    ·rw[mem_cons];constructor
     ·rintro (h|h)
      ·dsimp only at h;lia
      ·exact (aW _ h).elim
     ·intro h;left;dsimp only;lia
    ·constructor
     ·intro h;exact (aW _ h).elim
     ·intro h;lia
   rw[dc,mem_append,first];split
   ·rename_i hlt;rw[ih (s.length+(q::t).length) (by simp at hn ⊢;lia) s (q::t) rfl cs' ct x,mem_cons p s,mem_cons q t];constructor
    ·rintro (h|⟨h1,h2⟩)
     ·exact⟨.inl h.1,.inl h.2⟩
     ·exact⟨.inr h1,h2⟩
    ·rintro⟨h1|h1,h2|h2⟩
     ·exact .inl ⟨h1,h2⟩
     ·have:=dE ct h2;lia
     ·exact .inr ⟨h1,.inl h2⟩
     ·exact .inr ⟨h1,.inr h2⟩
   ·rename_i hge;rw[ih ((p::s).length+t.length) (by simp at hn ⊢;lia) (p::s) t rfl cs ct' x,mem_cons p s,mem_cons q t];constructor
    ·rintro (h|⟨h1,h2⟩)
     ·exact⟨.inl h.1,.inl h.2⟩
     ·exact⟨h1,.inr h2⟩
    ·rintro⟨h1|h1,h2|h2⟩
     ·exact .inl ⟨h1,h2⟩
     ·exact .inr ⟨.inl h1,h2⟩
     ·have:=dE cs h1;lia
     ·exact .inr ⟨.inr h1,h2⟩
theorem Cm:∀(n:Nat) (s t:R),s.length+t.length=n->aR s->aR t->aR (dc s t):=by
 intro n;induction n using Nat.strongRecOn with
 |ind n ih=>
  intro s t hn cs ct
  match s,t with
  |[],t=>rw[d9];exact fO
  |p::s,[]=>rw[dG];exact fO
  |p::s,q::t=>
   have cs':=(canon_cons.mp cs).2.2;have ct':=(canon_cons.mp ct).2.2;rw[dc];have rest:aR (if p.2<q.2 then dc s (q::t) else dc (p::s) t)/\∀r∈(if p.2<q.2 then dc s (q::t) else dc (p::s) t),min p.2 q.2+2<=r.1:=by
    split
    ·rename_i hlt;refine⟨ih (s.length+(q::t).length) (by simp at hn ⊢;lia) s (q::t) rfl cs' ct,fun r hr=>?_⟩;obtain⟨⟨p',h1,h2,_⟩,_⟩:=DF _ s (q::t) rfl r hr;have:=(canon_cons.mp cs).2.1 p' h1;lia
    ·rename_i hge;refine⟨ih ((p::s).length+t.length) (by simp at hn ⊢;lia) (p::s) t rfl cs ct',fun r hr=>?_⟩;obtain⟨_,⟨q',h1,h2,_⟩,_⟩:=DF _ (p::s) t rfl r hr;have:=(canon_cons.mp ct).2.1 q' h1;lia
   split
   ·rename_i h;exact canon_cons.mpr ⟨h,rest.2,rest.1⟩
   ·rw[VH];exact rest.1
theorem ue:∀(n:Nat) (s t:R),s.length+t.length=n->(dc s t).length<=s.length+t.length:=by
 intro n;induction n using Nat.strongRecOn with
 |ind n ih=>
  intro s t hn
  match s,t with
  |[],t=>rw[d9];simp
  |p::s,[]=>rw[dG];simp
  |p::s,q::t=>
   rw[dc,Tu];have h1:(if max p.1 q.1<=min p.2 q.2 then [(max p.1 q.1,min p.2 q.2)] else []).length<=1:=by split<;>simp
   have h2:(if p.2<q.2 then dc s (q::t) else dc (p::s) t).length+1<=(p::s).length+(q::t).length:=by
    split
    ·have:=ih (s.length+(q::t).length) (by simp at hn ⊢;lia) s (q::t) rfl;simp at this ⊢;lia
    ·have:=ih ((p::s).length+t.length) (by simp at hn ⊢;lia) (p::s) t rfl;simp at this ⊢;lia
   lia
noncomputable def gE:List Int->R
 |a::b::t=>(a,b-1)::gE t
 |_=>[]
noncomputable def kl (x:Int)(l:List Int):Nat:=l.countP fun c=>decide (c<=x)
theorem my (x c:Int)(l:List Int):kl x (c::l)=kl x l+if c<=x then 1 else 0:=by unfold kl;rw[List.countP_cons];by_cases h:c<=x<;>simp[h]
theorem rE {x:Int}{l:List Int}(h:∀c∈l,x<c):kl x l=0:=by unfold kl;rw[List.countP_eq_zero];intro c hc;have:=h c hc;simp;lia
theorem ve:∀(n:Nat) (l:List Int),l.length=2 * n->l.Pairwise (· <= ·)->∀x,Mem (gE l) x↔kl x l % 2=1
 |0,l,h,_,x=>by
  have:l=[]:=UZ.mp (by lia);subst this;exact⟨fun h=>(aW _ h).elim,fun h=>by simp[kl] at h⟩
 |n+1,l,h,w,x=>by
  match l,h with
  |a::b::t,h=>
   obtain⟨w1,w2⟩:=U0.mp w;obtain⟨w3,w4⟩:=U0.mp w2;have hab:=w1 b Tx;have ih:=ve n t (by simp at h;lia) w4 x;rw[gE,mem_cons,ih,my,my];dsimp only;by_cases hb:b<=x
   ·rw[Tn hb,Tn (by lia)];constructor
    ·rintro (k|k)<;>lia
    ·intro k;right;lia
   ·have z:kl x t=0:=rE fun c hc=>by have:=w3 c hc;lia
    rw[z,To hb];by_cases ha:a<=x
    ·rw[Tn ha];lia
    ·rw[To ha];lia
theorem Gn {l m:List Int}(h:l.Perm m)(x:Int):kl x l=kl x m:=h.countP_eq _
theorem l7 (x:Int)(l m:List Int):kl x (l++m)=kl x l+kl x m:=List.countP_append
theorem BX {r:R}(c:aR r)(x:Int):(kl x (r.map (·.1))+kl x (r.map (·.2+1))) % 2=1↔Mem r x:=by
 induction r with
 |nil=>exact⟨fun h=>by simp[kl] at h,fun h=>(aW _ h).elim⟩
 |cons p r ih=>
  obtain⟨hp,h2,h3⟩:=canon_cons.mp c;rw[TF,TF,my,my,mem_cons,<- ih h3];by_cases h:p.1<=x/\x<=p.2
  ·have z1:kl x (r.map (·.1))=0:=rE fun c hc=>by
    obtain⟨q,hq,rfl⟩:=Ty.mp hc;have:=h2 q hq;lia
   have z2:kl x (r.map (·.2+1))=0:=rE fun c hc=>by obtain⟨q,hq,rfl⟩:=Ty.mp hc;have:=h2 q hq;have:=h3.1 q hq;lia
   rw[z1,z2,Tn h.1,To (by lia)];simp[h]
  ·by_cases h1:p.1<=x
   ·rw[Tn h1,Tn (by lia)];constructor
    ·intro k;right;lia
    ·rintro (k|k)
     ·exact absurd k h
     ·lia
   ·rw[To h1,To (by lia)];constructor
    ·intro k;right;lia
    ·rintro (k|k)
     ·exact absurd k h
     ·lia
theorem JQ {r t:R}(cr:aR r)(ct:aR t)(x:Int):kl x ((r++t).map (·.1)++(r++t).map (·.2+1)) % 2=1↔((Mem r x/\¬Mem t x)\/(Mem t x/\¬Mem r x)):=by rw[l7,T7,T7,l7,l7,<- BX cr x,<- BX ct x];lia
def z8 (r t u:R):Prop:=aR u/\∀x,Mem u x↔((Mem r x/\¬Mem t x)\/(Mem t x/\¬Mem r x))
def GI (r t u:R):Prop:=aR u/\∀x,Mem u x↔(Mem r x/\¬Mem t x)
def GH (r t u:R):Prop:=aR u/\∀x,Mem u x↔(Mem r x/\Mem t x)
theorem KD {r t u v:R}(h:GH r t u)(k:z8 r u v):GI r t v:=⟨k.1,fun x=>by
 rw[k.2 x,h.2 x];constructor
 ·rintro (⟨h1,h2⟩|⟨h1,h2⟩)
  ·exact⟨h1,fun z=>h2 ⟨h1,z⟩⟩
  ·exact absurd h1.1 h2
 ·rintro⟨h1,h2⟩
  exact .inl ⟨h1,fun z=>h2 z.2⟩⟩
noncomputable def count (r:R):Int:=(r.map fun p=>p.2-p.1+1).sum
noncomputable def bM (P:Int->Prop)(L:Int):Nat->Int
 |0=>0
 |n+1=>bM P L n+(by classical exact if P (L+n) then 1 else 0)
end Rw
namespace P
open PySem L2 M
noncomputable abbrev NS:List Str:=["Box", "Cross", "Shape", "Sum"]
noncomputable def im:XS:=aB (xIf (xB (xOp dLt (ag 1) (xCB gS (ad (ag 0) ai)))) (bO (xOp dIx (ag 0) (ag 1))) eX) (bO (xC (.int 0)))
noncomputable def jj:List D->Option O:=fnO 2 im
noncomputable def aA:List D->Option D:=fun ds=>(jj ds).map O.d
noncomputable def e6:XS:=B0 2 (aJ (ad (xOp aP (ag 3) (ag 5)) (ad (xOp aP (ag 4) (ag 6)) ai)))
noncomputable def gL:XS:=bg (xIt (ak 1)) (aF (aj (af 5) (aj (af 6) aE))) (e6)
noncomputable def ip:XS:=aB (nq Ez 2) (aB (vT 0 (aF (aj (af 3) (aj (af 4) aE))) (gL)) (md 2))
noncomputable def jk:List D->Option O:=fnO 7 ip
noncomputable def cK:XS:=xIf (xOr (xB (xOp (dEq false) (xCB gS (ad (ag 1) ai)) (xC (.int 0)))) (xB (xOp (dEq true) (xOp dIx (xOp dIx (ag 1) (xUn cJ (xC (.int 1)))) (xC (.int 0))) (ag 2)))) (fM 1 xPv (xSh (aJ (ad (ak 2) (ad (aJ (ad (aJ (ad (ak 3) (ad (ak 3) ai))) ai)) ai))))) (xIf (xB (xOp dGt (ag 3) (xOp aP (xOp dIx (xOp dIx (xOp dIx (xOp dIx (ag 1) (xUn cJ (xC (.int 1)))) (xC (.int 1))) (xUn cJ (xC (.int 1)))) (xC (.int 1))) (xC (.int 1))))) (yv 1 xPv (xUn cJ (xC (.int 1))) (aJ (ad (ak 2) (ad (xOp aP (xOp dIx (xOp dIx (ag 1) (xUn cJ (xC (.int 1)))) (xC (.int 1))) (aJ (ad (aJ (ad (ak 3) (ad (ak 3) ai))) ai))) ai)))) (yv 1 xPv (xUn cJ (xC (.int 1))) (aJ (ad (ak 2) (ad (xOp aP (xSl (xOp dIx (xOp dIx (ag 1) (xUn cJ (xC (.int 1)))) (xC (.int 1))) tL (vW (xUn cJ (xC (.int 1))))) (aJ (ad (aJ (ad (xOp dIx (xOp dIx (xOp dIx (xOp dIx (ag 1) (xUn cJ (xC (.int 1)))) (xC (.int 1))) (xUn cJ (xC (.int 1)))) (xC (.int 0))) (ad (ak 3) ai))) ai))) ai)))))
noncomputable def jH:XS:=aB (jt (jD ai) 1) (aB (bg (xIt (xL (Dr eI (ad (xL (bH [none,none] (xIt (ag 0)) (aF (aj (af 0) (aj (af 1) aE))) bw (aJ (ad (ak 1) (ad (ak 0) ai))))) ai)))) (aF (aj (af 2) (aj (af 3) aE))) (cK)) (bO (xCB eN (ad (ag 1) ai))))
noncomputable def uZ:List D->Option O:=fnO 4 jH
noncomputable def qK:List D->Option D:=fun ds=>(uZ ds).map O.d
noncomputable def gM:XS:=aB (aV (aJ (ad (xOp eY (ag 3) (ag 5)) (ad (xOp eY (ag 4) (ag 6)) ai))) (af 7)) (xIf (wW (xCB Kd (ad (xL (bH [none,none,some 0,some 7] (xIt (ag 1)) (aF (aj (af 0) (aj (af 1) aE))) bw (LK false (aJ (ad (xOp aP (xOp dIx (ag 3) (xC (.int 0))) (ag 0)) (ad (xOp aP (xOp dIx (ag 3) (xC (.int 1))) (ag 1)) ai))) 2))) ai))) (B0 2 (ak 7)) eX)
noncomputable def cO:XS:=bg (xIt (xSl (ag 1) tL (vW (xC (.int 1))))) (aF (aj (af 5) (aj (af 6) aE))) (gM)
noncomputable def ir:XS:=aB (nq Ez 2) (aB (vT 0 (aF (aj (af 3) (aj (af 4) aE))) (cO)) (md 2))
noncomputable def gy:List D->Option O:=fnO 8 ir
noncomputable def oT:XS:=aB (xIf (xB (xOp (dEq false) (ag 0) (aJ ai))) (bO (xC .non)) eX) (aB (aV (xCB Al (ad (xL (bH [none,none] (xIt (ag 0)) (aF (aj (af 0) (aj (af 1) aE))) bw (xOp dIx (xOp dIx (ag 1) (xC (.int 0))) (xC (.int 0))))) ai)) (af 1)) (aB (aV (xCB Ak (ad (xL (bH [none,none] (xIt (ag 0)) (aF (aj (af 0) (aj (af 1) aE))) bw (xOp dIx (xOp dIx (ag 1) (xUn cJ (xC (.int 1)))) (xC (.int 1))))) ai)) (af 2)) (bO (aJ (ad (ak 1) (ad (xOp dIx (xOp dIx (ag 0) (xC (.int 0))) (xC (.int 0))) (ad (ak 2) (ad (xOp dIx (xOp dIx (ag 0) (xUn cJ (xC (.int 1)))) (xC (.int 0))) ai))))))))
noncomputable def qU:List D->Option O:=fnO 3 oT
noncomputable def uN:List D->Option D:=fun ds=>(qU ds).map O.d
noncomputable def cY:XT:=xB (xOp dLt (ag 2) (ag 3))
noncomputable def cW:XS:=aB (aV (xOp o3 (xOp aP (ag 2) (ag 3)) (xC (.int 2))) (af 4)) (xIf (xB (xOp dLe (xOp dIx (xOp dIx (ag 0) (ag 4)) (xC (.int 0))) (ag 1))) (aV (xOp aP (ag 4) (xC (.int 1))) (af 2)) (aV (ak 4) (af 3)))
noncomputable def ga:XS:=aB (aV (xC (.int 0)) (af 2)) (aB (aV (xCB gS (ad (ag 0) ai)) (af 3)) (aB (dg (cY) (cW)) (bO (ak 2))))
noncomputable def iI:List D->Option O:=fnO 5 ga
noncomputable def ez:List D->Option D:=fun ds=>(iI ds).map O.d
noncomputable def e9:XS:=aB (aV (xL (bH [none] (xIt (ag 0)) (af 0) (xB (xOp (dEq false) (xCB gS (ad (ag 0) ai)) (xC (.int 1)))) (xOp dIx (ag 0) (xC (.int 0))))) (af 1)) (aB (aV (xCB eN (ad (xL (bH [none,some 1] (gH (ad (xC (.int 4)) ai)) (af 0) bw (xCB wf (ad (xL (bH [none,some 0] (xIt (ag 1)) (af 0) bw (xOp dIx (ag 0) (ag 1)))) ai)))) ai)) (af 2)) (bO (xOp aP (aJ (ad (aJ (ad (ak 2) ai)) ai)) (xCB eN (ad (xL (bH [none] (xIt (ag 0)) (af 0) (xB (xOp dGt (xCB gS (ad (ag 0) ai)) (xC (.int 1)))) (ak 0))) ai)))))
noncomputable def gD:List D->Option O:=fnO 3 e9
noncomputable def fv:List D->Option D:=fun ds=>(gD ds).map O.d
noncomputable def cE:XT:=zS (xB (xOp dLt (ag 3) (xCB gS (ad (ag 0) ai)))) (xB (xOp dLt (ag 4) (xCB gS (ad (ag 1) ai))))
noncomputable def bC:XS:=aB (aV (xCB xi (ad (xOp dIx (xOp dIx (ag 0) (ag 3)) (xC (.int 0))) (ad (xOp dIx (xOp dIx (ag 1) (ag 4)) (xC (.int 0))) ai))) (af 5)) (aB (aV (xCB rM (ad (xOp dIx (xOp dIx (ag 0) (ag 3)) (xC (.int 1))) (ad (xOp dIx (xOp dIx (ag 1) (ag 4)) (xC (.int 1))) ai))) (af 6)) (aB (xIf (xB (xOp dLe (ag 5) (ag 6))) (fM 2 xPv (xSh (aJ (ad (ak 5) (ad (ak 6) ai))))) eX) (xIf (xB (xOp dLt (xOp dIx (xOp dIx (ag 0) (ag 3)) (xC (.int 1))) (xOp dIx (xOp dIx (ag 1) (ag 4)) (xC (.int 1))))) (Gu 3 (xC (.int 1)) xy) (Gu 4 (xC (.int 1)) xy))))
noncomputable def gP:XS:=aB (jt (jD ai) 2) (aB (aV (xC (.int 0)) (af 3)) (aB (aV (xC (.int 0)) (af 4)) (aB (dg (cE) (bC)) (bO (xCB eN (ad (ag 2) ai))))))
noncomputable def jy:List D->Option O:=fnO 7 gP
noncomputable def fy:List D->Option D:=fun ds=>(jy ds).map O.d
noncomputable def i8:XS:=bO (xCB wf (ad (xL (bH [none,none] (xIt (ag 0)) (aF (aj (af 0) (aj (af 1) aE))) bw (xOp aP (xOp eY (ag 1) (ag 0)) (xC (.int 1))))) ai))
noncomputable def kb:List D->Option O:=fnO 1 i8
noncomputable def jg:List D->Option D:=fun ds=>(kb ds).map O.d
noncomputable def i9:XS:=bO (xCB eN (ad (xL (bH [none,none,some 1] (xIt (ag 0)) (aF (aj (af 0) (aj (af 1) aE))) bw (aJ (ad (xOp aP (ag 0) (ag 2)) (ad (xOp aP (ag 1) (ag 2)) ai))))) ai))
noncomputable def kc:List D->Option O:=fnO 2 i9
noncomputable def jh:List D->Option D:=fun ds=>(kc ds).map O.d
noncomputable def eL:XS:=xIf (zS (wW (ag 1)) (xB (xOp dLe (ag 2) (xOp aP (xOp dIx (xOp dIx (ag 1) (xUn cJ (xC (.int 1)))) (xC (.int 1))) (xC (.int 1)))))) (yv 1 xPv (xUn cJ (xC (.int 1))) (aJ (ad (xOp dIx (xOp dIx (ag 1) (xUn cJ (xC (.int 1)))) (xC (.int 0))) (ad (xCB xi (ad (xOp dIx (xOp dIx (ag 1) (xUn cJ (xC (.int 1)))) (xC (.int 1))) (ad (ag 3) ai))) ai)))) (fM 1 xPv (xSh (aJ (ad (ak 2) (ad (ak 3) ai)))))
noncomputable def oV:XS:=aB (jt (jD ai) 1) (aB (bg (xIt (xL (Dr eI (ad (xL (bH [none,none] (xIt (ag 0)) (aF (aj (af 0) (aj (af 1) aE))) (xB (xOp dLe (ag 0) (ag 1))) (aJ (ad (ak 0) (ad (ak 1) ai))))) ai)))) (aF (aj (af 2) (aj (af 3) aE))) (eL)) (bO (xCB eN (ad (ag 1) ai))))
noncomputable def qW:List D->Option O:=fnO 4 oV
noncomputable def jM:List D->Option D:=fun ds=>(qW ds).map O.d
noncomputable def di:XS:=bO (xCB eN (ad (xL (bH [none,none] (xIt (ag 0)) (aF (aj (af 0) (aj (af 1) aE))) (xB (xOp (dEq true) (ag 1) (aJ ai))) (aJ (ad (ak 0) (ad (ak 1) ai))))) ai))
noncomputable def eP:List D->Option O:=fnO 1 di
noncomputable def a7:List D->Option D:=fun ds=>(eP ds).map O.d
noncomputable def cD:XS:=EA 1 xPv (xL (bH [none,none,some 2] (xIt (ag 3)) (aF (aj (af 0) (aj (af 1) aE))) bw (aJ (ad (ak 2) (ad (ak 0) (ad (ak 1) ai))))))
noncomputable def dD:XS:=aB (jt (jD ai) 1) (aB (bg (xIt (ak 0)) (aF (aj (af 2) (aj (af 3) aE))) (cD)) (md 1))
noncomputable def c7:List D->Option O:=fnO 4 dD
noncomputable def a8:List D->Option D:=fun ds=>(c7 ds).map O.d
noncomputable def qT:List D->Option D:=y6 (xB (xOp dLt (xCB Dw (ad (ag 1) (ad (ag 2) (ad (ag 3) (ad (ag 4) ai))))) (xC (.int 0)))) (aJ (ad (aJ (ad (aJ (ad (xUn cJ (ag 1)) (ad (xUn cJ (ag 2)) (ad (ak 3) (ad (ak 4) ai))))) ai)) ai))
noncomputable def pq:List D->Option D:=y6 (xB (xOp dLt (ag 1) (xC (.int 0)))) (aJ (ad (aJ (ad (aJ (ad (xUn cJ (ag 1)) (ad (xC (.int 0)) (ad (ak 1) (ad (xC (.int 0)) ai))))) (ad (aJ (ad (xC (.int 0)) (ad (xUn cJ (ag 1)) (ad (xC (.int 0)) (ad (ak 1) ai))))) ai))) ai))
noncomputable def zf:List D->Option D:=O3 (av fv (ad (xOp aP (l9 NS "parts" (ak 1)) (l9 NS "parts" (ak 2))) ai))
noncomputable def ic:XS:=aV (xOp aP (ag 3) (xOp fQ (xOp qv (xC (.int 5)) (xOp dIx (ag 0) (ag 4))) (xC (.int 128)))) (af 3)
noncomputable def eK:XS:=aB (xIf (xOr (xB (xOp (dEq false) (xOp fQ (ag 3) (xC (.int 2))) (xC (.int 1)))) (xB (xOp (dEq false) (xOp fQ (xOp o3 (ag 3) (xC (.int 512))) (xC (.int 4))) (xC (.int 1))))) (fM 1 xPv (xSh (aJ (ad (ak 5) (ad (ak 2) ai))))) eX) (aV (xOp o3 (ag 3) (xC (.int 2))) (af 3))
noncomputable def ie:XS:=aB (aV (xOp o3 (xOp fQ (xOp qv (av aA (ad (ak 0) (ad (xOp aP (xC (.int 1)) (ag 2)) ai))) (xC (.int 48271))) (xC (.int 2147483647))) (xC (.int 37))) (af 3)) (aB (bg (vX (ad (xOp aP (xC (.int 16)) (ag 2)) (ad (xCB rM (ad (xCB gS (ad (ag 0) ai)) (ad (xC (.int 99)) ai))) (ad (xC (.int 6)) ai)))) (af 4) (ic)) (bg (gH (ad (xC (.int 7)) ai)) (af 5) (eK)))
noncomputable def jG:XS:=aB (jt (jD ai) 1) (aB (bg (gH (ad (xC (.int 6)) ai)) (af 2) (ie)) (md 1))
noncomputable def yc:List D->Option O:=fnO 6 jG
noncomputable def AV:List D->Option D:=fun ds=>(yc ds).map O.d
noncomputable def g6:XS:=aB (aV (xOp o3 (xOp fQ (xOp qv (av aA (ad (ak 0) (ad (xOp aP (xC (.int 7)) (ag 2)) ai))) (xC (.int 39373))) (xC (.int 2147483629))) (xC (.int 37))) (af 3)) (aB (aV (aJ (ad (xOp eY (xOp fQ (ag 3) (xC (.int 3))) (xC (.int 1))) (ad (xOp eY (xOp fQ (xOp o3 (ag 3) (xC (.int 3))) (xC (.int 3))) (xC (.int 1))) ai))) (af 4)) (xIf (xB (xOp (G5 true) (ag 4) (ag 1))) (fM 1 xPv (xSh (ak 4))) eX))
noncomputable def mf:XS:=aB (jt (jD ai) 1) (aB (bg (gH (ad (xOp aP (xC (.int 1)) (xOp fQ (av aA (ad (ak 0) (ad (xC (.int 0)) ai))) (xC (.int 4)))) ai)) (af 2) (g6)) (md 1))
noncomputable def A4:List D->Option O:=fnO 5 mf
noncomputable def D0:List D->Option D:=fun ds=>(A4 ds).map O.d
noncomputable def ig:XS:=B0 3 (ak 4)
noncomputable def fN:XS:=vU 7 (nq (kn jk (ad (ak 7) (ad (ak 1) ai))) 7)
noncomputable def bW:XS:=aB (vU 3 (aV (ak 3) (af 7))) (aB (bg (gH (ad (ag 6) ai)) (af 8) (fN)) (aB (fM 5 xPv (xSh (ma 7))) (aB (xIf (xB (xOp (dEq false) (ma 7) (xC (.int 0)))) (md 5) eX) (vU 3 (nq (kn gy (ad (ak 3) (ad (ak 1) ai))) 3)))))
noncomputable def iq:XS:=aB (nq Ez 3) (aB (bg (xIt (ak 0)) (af 4) (ig)) (aB (jt (jD ai) 5) (aB (bg (gH (ad (xOp aP (ag 2) (xC (.int 1))) ai)) (af 6) (bW)) (md 5))))
noncomputable def yd:List D->Option O:=fnO 9 iq
noncomputable def pi:List D->Option D:=fun ds=>(yd ds).map O.d
noncomputable def eG:XS:=bO (xSl (ag 0) (vW (xCB xi (ad (xC (.int 0)) (ad (xOp eY (av ez (ad (ak 0) (ad (ak 1) ai))) (xC (.int 1))) ai)))) (vW (av ez (ad (ak 0) (ad (ak 2) ai)))))
noncomputable def fW:List D->Option O:=fnO 3 eG
noncomputable def bd:List D->Option D:=fun ds=>(fW ds).map O.d
noncomputable def bj:XS:=xIf (zS (wW (ag 1)) (xB (xOp (dEq false) (xOp dIx (ag 1) (xUn cJ (xC (.int 1)))) (aJ (ad (ak 2) (ad (xOp dIx (xOp dIx (ag 1) (xUn cJ (xC (.int 1)))) (xC (.int 1))) (ad (ak 3) (ad (xOp eY (ag 4) (xC (.int 1))) ai)))))))) (yv 1 xPv (xUn cJ (xC (.int 1))) (aJ (ad (ak 2) (ad (xOp dIx (xOp dIx (ag 1) (xUn cJ (xC (.int 1)))) (xC (.int 1))) (ad (ak 3) (ad (ak 4) ai)))))) (fM 1 xPv (xSh (aJ (ad (ak 2) (ad (ak 4) (ad (ak 3) (ad (ak 4) ai)))))))
noncomputable def gt:XS:=aB (jt (jD ai) 1) (aB (bg (xIt (xL (Dr eI (ad (xL (bH [none,none,none] (xIt (av a8 (ad (ak 0) ai))) (aF (aj (af 0) (aj (af 1) (aj (af 2) aE)))) bw (aJ (ad (ak 1) (ad (ak 2) (ad (ak 0) ai)))))) ai)))) (aF (aj (af 2) (aj (af 3) (aj (af 4) aE)))) (bj)) (bO (xCB eN (ad (ag 1) ai))))
noncomputable def gY:List D->Option O:=fnO 5 gt
noncomputable def gw:List D->Option D:=fun ds=>(gY ds).map O.d
noncomputable def f9:XS:=bO (xCB wf (ad (xL (bH [none,none] (xIt (ag 0)) (aF (aj (af 0) (aj (af 1) aE))) bw (av jg (ad (ak 1) ai)))) ai))
noncomputable def iH:List D->Option O:=fnO 1 f9
noncomputable def gh:List D->Option D:=fun ds=>(iH ds).map O.d
noncomputable def tj:XS:=bO (xCB eN (ad (xL (bH [none,none,some 2,some 1] (xIt (ag 0)) (aF (aj (af 0) (aj (af 1) aE))) bw (aJ (ad (xOp aP (ag 0) (ag 2)) (ad (av jh (ad (ak 1) (ad (ak 3) ai))) ai))))) ai))
noncomputable def u0:List D->Option O:=fnO 3 tj
noncomputable def tD:List D->Option D:=fun ds=>(u0 ds).map O.d
noncomputable def bB:XS:=aB (xIf (xOr (Gv (wW (EB 1))) (xB (xOp (dEq true) (xFl (xOp dIx (xOp dIx (EB 1) (xUn cJ (xC (.int 1)))) (xC (.int 0)))) (ag 2)))) (fM 1 xPv (JZ (zT (xSh (ak 2)) (zT (JU JV) JV)))) eX) (fM 1 (xPi (xPi xPv (xUn cJ (xC (.int 1)))) (xC (.int 1))) (xSh (aJ (ad (ak 3) (ad (ak 4) ai)))))
noncomputable def gO:XS:=aB (jt (jD ai) 1) (aB (bg (xIt (xL (Dr eI (ad (xL (bH [none,none,none] (xIt (ag 0)) (aF (aj (af 0) (aj (af 1) (aj (af 2) aE)))) (xB (xOp dLe (ag 1) (ag 2))) (aJ (ad (ak 0) (ad (ak 1) (ad (ak 2) ai)))))) ai)))) (aF (aj (af 2) (aj (af 3) (aj (af 4) aE)))) (bB)) (Ov 1 (bO (xCB eN (ad (xL (bH [none,none] (xIt (ak 1)) (aF (aj (af 0) (aj (af 1) aE))) bw (aJ (ad (ak 0) (ad (av jM (ad (ak 1) ai)) ai))))) ai)))))
noncomputable def jx:List D->Option O:=fnO 5 gO
noncomputable def fw:List D->Option D:=fun ds=>(jx ds).map O.d
noncomputable def jI:XS:=aB (aV (av ez (ad (ak 0) (ad (ak 1) ai))) (af 2)) (aB (xIf (zS (xB (xOp dGt (ag 2) (xC (.int 0)))) (xB (xOp (dEq false) (xOp dIx (xOp dIx (ag 0) (xOp eY (ag 2) (xC (.int 1)))) (xC (.int 0))) (ag 1)))) (bO (xOp dIx (xOp dIx (ag 0) (xOp eY (ag 2) (xC (.int 1)))) (xC (.int 1)))) eX) (bO (aJ ai)))
noncomputable def jO:List D->Option O:=fnO 3 jI
noncomputable def gx:List D->Option D:=fun ds=>(jO ds).map O.d
noncomputable def gQ:XS:=aB (aV (xOp aP (ag 0) (ag 1)) (af 2)) (aB (aV (xL (Dr eI (ad (xOp aP (xL (bH [none,none] (xIt (ag 2)) (aF (aj (af 0) (aj (af 1) aE))) bw (ak 0))) (xL (bH [none,none] (xIt (ag 2)) (aF (aj (af 0) (aj (af 1) aE))) bw (xOp aP (ag 1) (xC (.int 1)))))) ai))) (af 3)) (bO (av jM (ad (xL (bH [none,some 3] (JY (ad (xC (.int 0)) (ad (xCB gS (ad (ag 3) ai)) (ad (xC (.int 2)) ai)))) (af 0) bw (aJ (ad (xOp dIx (ag 1) (ag 0)) (ad (xOp eY (xOp dIx (ag 1) (xOp aP (ag 0) (xC (.int 1)))) (xC (.int 1))) ai))))) ai))))
noncomputable def jz:List D->Option O:=fnO 4 gQ
noncomputable def j9:List D->Option D:=fun ds=>(jz ds).map O.d
noncomputable def gR:XS:=bO (av jM (ad (xL (bH [none,none,some 1,some 2] (xIt (ag 0)) (aF (aj (af 0) (aj (af 1) aE))) bw (aJ (ad (xOp eY (ag 0) (ag 2)) (ad (xOp eY (ag 1) (ag 3)) ai))))) ai))
noncomputable def jA:List D->Option O:=fnO 3 gR
noncomputable def gX:List D->Option D:=fun ds=>(jA ds).map O.d
noncomputable def fA:List D->Option D:=y6 (xB (xOp (dEq false) (ag 1) (aJ ai))) (aJ (ad (av gw (ad (ak 1) ai)) ai))
noncomputable def oU:XS:=bO (av a7 (ad (xL (bH [none,none,some 1] (xIt (ag 0)) (aF (aj (af 0) (aj (af 1) aE))) bw (aJ (ad (ak 0) (ad (av fy (ad (ak 1) (ad (av gx (ad (ak 2) (ad (ak 0) ai))) ai))) ai))))) ai))
noncomputable def qV:List D->Option O:=fnO 2 oU
noncomputable def pj:List D->Option D:=fun ds=>(qV ds).map O.d
noncomputable def yH:XS:=bO (av fw (ad (xOp aP (av a8 (ad (ak 0) ai)) (av a8 (ad (ak 1) ai))) ai))
noncomputable def zg:List D->Option O:=fnO 2 yH
noncomputable def uO:List D->Option D:=fun ds=>(zg ds).map O.d
noncomputable def mh:XS:=aB (aV (av bd (ad (ak 0) (ad (xOp aP (xOp dIx (ag 1) (xC (.int 1))) (xOp dIx (ag 2) (xC (.int 1)))) (ad (xOp aP (xOp dIx (ag 1) (xC (.int 3))) (xOp dIx (ag 2) (xC (.int 3)))) ai)))) (af 3)) (bO (av a7 (ad (xL (bH [none,none,some 1,some 2] (xIt (ag 3)) (aF (aj (af 0) (aj (af 1) aE))) bw (aJ (ad (ak 0) (ad (av bd (ad (ak 1) (ad (xOp aP (xOp dIx (ag 2) (xC (.int 0))) (xOp dIx (ag 3) (xC (.int 0)))) (ad (xOp aP (xOp dIx (ag 2) (xC (.int 2))) (xOp dIx (ag 3) (xC (.int 2)))) ai)))) ai))))) ai)))
noncomputable def nP:List D->Option O:=fnO 4 mh
noncomputable def qN:List D->Option D:=fun ds=>(nP ds).map O.d
noncomputable def jX:XS:=bO (av j9 (ad (ak 0) (ad (av fy (ad (ak 0) (ad (ak 1) ai))) ai)))
noncomputable def lL:List D->Option O:=fnO 2 jX
noncomputable def ka:List D->Option D:=fun ds=>(lL ds).map O.d
noncomputable def yI:XS:=bO (av a7 (ad (xL (bH [none,none,some 1] (xIt (ag 0)) (aF (aj (af 0) (aj (af 1) aE))) bw (aJ (ad (ak 0) (ad (av ka (ad (ak 1) (ad (av gx (ad (ak 2) (ad (ak 0) ai))) ai))) ai))))) ai))
noncomputable def zh:List D->Option O:=fnO 2 yI
noncomputable def qM:List D->Option D:=fun ds=>(zh ds).map O.d
noncomputable def cZ:XT:=xB (xOp dLt (ag 2) (ag 1))
noncomputable def eD:XS:=aB (aV (xCB rM (ad (xOp aP (ag 2) (xC (.int 1))) (ad (xOp eY (ag 1) (ag 2)) ai))) (af 3)) (aB (aV (av pj (ad (ak 0) (ad (av tD (ad (ak 0) (ad (xC (.int 0)) (ad (xUn cJ (ag 3)) ai)))) ai))) (af 0)) (Gu 2 (ag 3) xy))
noncomputable def gb:XS:=aB (aV (xC (.int 0)) (af 2)) (aB (dg (cZ) (eD)) (bO (ak 0)))
noncomputable def iJ:List D->Option O:=fnO 4 gb
noncomputable def gi:List D->Option D:=fun ds=>(iJ ds).map O.d
noncomputable def c6:XT:=xB (xOp dLt (ag 2) (ag 1))
noncomputable def eE:XS:=aB (aV (xCB rM (ad (xOp aP (ag 2) (xC (.int 1))) (ad (xOp eY (ag 1) (ag 2)) ai))) (af 3)) (aB (aV (av uO (ad (ak 0) (ad (av tD (ad (ak 0) (ad (xC (.int 0)) (ad (ak 3) ai)))) ai))) (af 0)) (Gu 2 (ag 3) xy))
noncomputable def gd:XS:=aB (aV (xC (.int 0)) (af 2)) (aB (dg (c6) (eE)) (bO (ak 0)))
noncomputable def iK:List D->Option O:=fnO 4 gd
noncomputable def gj:List D->Option D:=fun ds=>(iK ds).map O.d
noncomputable def kT:XS:=aV (kO "Sum" "parts" zf (ad (ak 2) (ad (ak 0) ai))) (af 2)
noncomputable def tX:XS:=aB (aV (kO "Shape" "parts" fA (ad (xC (.mtp [.mtp [.int (0),.mtp [.mtp [.int (0),.int (0)]]]])) ai)) (af 2)) (aB (bg (gH (ad (ag 1) ai)) (af 3) (kT)) (bO (ak 2)))
noncomputable def D4:List D->Option O:=fnO 4 tX
noncomputable def HQ:List D->Option D:=fun ds=>(D4 ds).map O.d
noncomputable def bD:XS:=aB (aV (xL (bH [none,none,none,some 1] (xIt (av a8 (ad (ak 0) ai))) (aF (aj (af 0) (aj (af 1) (aj (af 2) aE)))) bw (aJ (ad (xOp aP (ag 0) (xOp dIx (ag 3) (xC (.int 1)))) (ad (xOp aP (ag 1) (xOp dIx (ag 3) (xC (.int 0)))) (ad (xOp aP (ag 2) (xOp dIx (ag 3) (xC (.int 2)))) ai)))))) (af 2)) (aB (xIf (xB (xOp (dEq false) (xOp dIx (ag 1) (xC (.int 1))) (xOp dIx (ag 1) (xC (.int 3))))) (bO (ak 2)) eX) (bO (av a8 (ad (av gj (ad (av fw (ad (ak 2) ai)) (ad (xOp eY (xOp dIx (ag 1) (xC (.int 3))) (xOp dIx (ag 1) (xC (.int 1)))) ai))) ai))))
noncomputable def cu:List D->Option O:=fnO 3 bD
noncomputable def cR:List D->Option D:=fun ds=>(cu ds).map O.d
noncomputable def cP:XS:=aB (aV (av a7 (ad (xL (bH [none,none,some 1] (xIt (ag 0)) (aF (aj (af 0) (aj (af 1) aE))) bw (aJ (ad (xOp eY (ag 0) (xOp dIx (ag 2) (xC (.int 1)))) (ad (av gX (ad (ak 1) (ad (xOp dIx (ag 2) (xC (.int 0))) (ad (xOp dIx (ag 2) (xC (.int 2))) ai)))) ai))))) ai)) (af 2)) (bO (av gi (ad (ak 2) (ad (xOp eY (xOp dIx (ag 1) (xC (.int 3))) (xOp dIx (ag 1) (xC (.int 1)))) ai))))
noncomputable def d6:List D->Option O:=fnO 3 cP
noncomputable def cS:List D->Option D:=fun ds=>(d6 ds).map O.d
noncomputable def b9:XS:=EA 2 xPv (av cR (ad (ak 0) (ad (ak 3) ai)))
noncomputable def dh:XS:=aB (jt (jD ai) 2) (aB (bg (xIt (ak 1)) (af 3) (b9)) (Ov 2 (bO (av fw (ad (ak 2) ai)))))
noncomputable def eO:List D->Option O:=fnO 4 dh
noncomputable def ft:List D->Option D:=fun ds=>(eO ds).map O.d
noncomputable def a9:XS:=aB (xIf (xB (xOp (dEq false) (ag 2) (aJ ai))) (bO (aJ ai)) eX) (aV (av pj (ad (ak 2) (ad (av cS (ad (av qN (ad (ak 0) (ad (av uN (ad (ak 2) ai)) (ad (ak 3) ai)))) (ad (ak 3) ai))) ai))) (af 2))
noncomputable def bR:XS:=aB (aV (av cS (ad (ak 0) (ad (xOp dIx (ag 1) (xUn cJ (xC (.int 1)))) ai))) (af 2)) (aB (bg (xIt (xSl (ag 1) tL (vW (xUn cJ (xC (.int 1)))))) (af 3) (a9)) (bO (ak 2)))
noncomputable def cT:List D->Option O:=fnO 4 bR
noncomputable def dt:List D->Option D:=fun ds=>(cT ds).map O.d
noncomputable def cA:XS:=aV (av ft (ad (ak 1) (ad (ak 2) ai))) (af 1)
noncomputable def dA:XS:=aB (bg (yu (ad (l9 NS "parts" (ak 0)) ai)) (af 2) (cA)) (bO (ak 1))
noncomputable def kB:List D->Option O:=fnO 3 dA
noncomputable def aK:List D->Option D:=fun ds=>(kB ds).map O.d
noncomputable def cB:XS:=aV (av dt (ad (ak 1) (ad (ak 2) ai))) (af 1)
noncomputable def dB:XS:=aB (bg (xIt (l9 NS "parts" (ak 0))) (af 2) (cB)) (bO (ak 1))
noncomputable def kD:List D->Option O:=fnO 3 dB
noncomputable def bF:List D->Option D:=fun ds=>(kD ds).map O.d
noncomputable def bv:XT:=zS (xB (xOp (dEq true) (ag 4) (aJ ai))) (xB (xOp dLt (xCB gS (ad (ag 3) ai)) (ag 2)))
noncomputable def cX:XS:=aB (aV (vV NS "smaller" bF (ak 1) (ad (ak 4) ai)) (af 5)) (aB (fM 3 xPv (xSh (av qM (ad (ak 4) (ad (vV NS "greater" aK (ak 1) (ad (ak 5) ai)) ai))))) (aV (ak 5) (af 4)))
noncomputable def d8:XS:=aB (jt (jD ai) 3) (aB (aV (ak 0) (af 4)) (aB (dg (bv) (cX)) (bO (xOp aP (ag 3) (xL (jD (ad (ak 4) ai)))))))
noncomputable def lM:List D->Option O:=fnO 6 d8
noncomputable def mZ:List D->Option D:=fun ds=>(lM ds).map O.d
noncomputable def g7:XS:=aB (xIf (xB (xOp (dEq true) (xOp dIx (ag 3) (ag 6)) (aJ ai))) (aV (av uO (ad (ak 5) (ad (vV NS "greater" aK (av HQ (ad (ak 1) (ad (ak 6) ai))) (ad (xOp dIx (ag 3) (ag 6)) ai)) ai))) (af 5)) eX) (fM 4 xPv (xSh (av gh (ad (ak 5) ai))))
noncomputable def oW:XS:=aB (aV (av mZ (ad (ak 0) (ad (ak 1) (ad (ak 2) ai)))) (af 3)) (aB (jt (jD ai) 4) (aB (aV (aJ ai) (af 5)) (aB (bg (vX (ad (xOp eY (xCB gS (ad (ag 3) ai)) (xC (.int 1))) (ad (xUn cJ (xC (.int 1))) (ad (xUn cJ (xC (.int 1))) ai)))) (af 6) (g7)) (JW (xLT (JX (ag 4)))))))
noncomputable def dM:List D->Option O:=fnO 7 oW
noncomputable def ji:List D->Option D:=fun ds=>(dM ds).map O.d
noncomputable def bp:XS:=aB (aV (Ey (xOp dLe (xOp aP (xOp qv (ag 6) (xOp dIx (ag 3) (xC (.int 0)))) (xC (.int 1))) (ag 1)) (xOp dLe (xOp aP (xOp qv (ag 6) (xOp dIx (ag 3) (xC (.int 1)))) (xC (.int 1))) (ag 2))) (af 7)) (aB (fM 5 xPv (xSh (xOp dIx (xL (jD (ad (xC (.int 0)) (ad (xOp qv (ag 1) (ag 2)) ai)))) (xCB Ca (ad (ag 7) ai))))) (xIf (Gv (wW (ag 7))) (JS) eX))
noncomputable def e8:XS:=aB (aV (xOp aP (xC (.int 1)) (xOp fQ (av aA (ad (ak 0) (ad (xC (.int 11)) ai))) (xOp E1 (xC (.int 10)) (xC (.int 40))))) (af 1)) (aB (aV (xOp aP (xC (.int 1)) (xOp fQ (av aA (ad (ak 0) (ad (xC (.int 12)) ai))) (xC (.int 60)))) (af 2)) (aB (aV (xL (jD (ad (xOp fQ (av aA (ad (ak 0) (ad (xC (.int 13)) ai))) (xOp dIx (xL (jD (ad (xC (.int 3)) (ad (xOp E1 (xC (.int 10)) (xC (.int 39))) ai)))) (xOp fQ (xOp o3 (av aA (ad (ak 0) (ad (xC (.int 0)) ai))) (xC (.int 4))) (xC (.int 2))))) (ad (xOp fQ (av aA (ad (ak 0) (ad (xC (.int 14)) ai))) (xC (.int 3))) ai)))) (af 3)) (aB (aV (xOp fQ (av aA (ad (ak 0) (ad (xC (.int 15)) ai))) (xC (.int 9))) (af 4)) (aB (xIf (zS (xB (xOp dGt (xOp dIx (ag 3) (xC (.int 1))) (xC (.int 0)))) (xB (xOp dLt (ag 2) (xC (.int 13))))) (aV (xOp fQ (av aA (ad (ak 0) (ad (xC (.int 15)) ai))) (xC (.int 101))) (af 4)) eX) (aB (jt (jD ai) 5) (aB (bg (gH (ad (xOp aP (ag 4) (xC (.int 1))) ai)) (af 6) (bp)) (aB (aV (xCB eN (ad (xL (bH [none,some 1] (gH (ad (ag 2) ai)) (af 0) bw (aJ (ad (ak 0) (ad (aJ (ad (aJ (ad (xC (.int 5)) (ad (xOp aP (xC (.int 4)) (ag 1)) ai))) ai)) ai))))) ai)) (af 8)) (bO (xOp (dEq false) (av ji (ad (ak 8) (ad (kO "Box" "parts" qT (ad (xOp dIx (ag 3) (xC (.int 0))) (ad (xC (.int 0)) (ad (xC (.int 0)) (ad (xOp dIx (ag 3) (xC (.int 1))) ai))))) (ad (ak 4) ai)))) (ag 5))))))))))
noncomputable def m7:List D->Option O:=fnO 9 e8
noncomputable def ph:List D->Option D:=fun ds=>(m7 ds).map O.d
noncomputable def me:XS:=xIf (xOr (Gv (wW (xCB qf (ad (xOp dIx (ag 7) (ag 8)) (ad (xC (.ty "int")) ai))))) (xOr (wW (xCB qf (ad (xOp dIx (ag 7) (ag 8)) (ad (xC (.ty "bool")) ai)))) (zS (xB (xOp dGt (ag 8) (xC (.int 0)))) (xB (xOp dGt (xOp dIx (ag 7) (ag 8)) (xOp dIx (ag 7) (xOp eY (ag 8) (xC (.int 1))))))))) (bO (xC (.bl false))) eX
noncomputable def Ae:XS:=aB (aV (av AV (ad (ak 0) ai)) (af 1)) (aB (aV (av D0 (ad (ak 0) ai)) (af 2)) (aB (aV (xOp fQ (xOp o3 (av aA (ad (ak 0) (ad (xC (.int 0)) ai))) (xC (.int 8))) (xC (.int 5))) (af 3)) (aB (aV (av qK (ad (ak 1) ai)) (af 4)) (aB (aV (kO "Shape" "parts" fA (ad (av qK (ad (ak 2) ai)) ai)) (af 5)) (aB (xIf (xB (xOp (dEq false) (xOp fQ (xOp o3 (av aA (ad (ak 0) (ad (xC (.int 0)) ai))) (xC (.int 64))) (xC (.int 4))) (xC (.int 1)))) (aB (aV (xL (jD (ad (aJ (ad (xC (.int 0)) (ad (xC (.int 0)) ai))) (ad (aJ (ad (xC (.int 1)) (ad (xC (.int 0)) ai))) (ad (aJ (ad (xC (.int 0)) (ad (xC (.int 1)) ai))) (ad (aJ (ad (xUn cJ (xC (.int 1))) (ad (xC (.int 0)) ai))) (ad (aJ (ad (xC (.int 0)) (ad (xUn cJ (xC (.int 1))) ai))) ai))))))) (af 2)) (aV (kO "Cross" "parts" pq (ad (xC (.int 1)) ai)) (af 5))) eX) (aB (aV (av pi (ad (ak 1) (ad (ak 2) (ad (ak 3) ai)))) (af 6)) (aB (nq (kn dM (ad (ak 4) (ad (ak 5) (ad (ak 3) ai)))) 7) (aB (xIf (xOr (Gv (wW (xCB qf (ad (ag 7) (ad (xC (.ty "list")) ai))))) (xOr (xB (xOp (dEq true) (ag 7) (ag 6))) (xB (xOp (dEq true) (av ji (ad (aJ ai) (ad (ak 5) (ad (ak 3) ai)))) (xL (jD (ad (xC (.int 0)) ai))))))) (bO (xC (.bl false))) eX) (aB (bg (gH (ad (xCB gS (ad (ag 7) ai)) ai)) (af 8) (me)) (aB (fM 7 xPv (xSh (xC (.int 7)))) (bO (Ey (xOp (dEq false) (av ji (ad (ak 4) (ad (ak 5) (ad (ak 3) ai)))) (ag 6)) (av ph (ad (ak 0) ai))))))))))))))
noncomputable def Ia:List D->Option O:=fnO 9 Ae
noncomputable def O9:List D->Option D:=fun ds=>(Ia ds).map O.d
local macro_rules | `(tactic| and_intros)=>`(tactic| repeat' first | (with_reducible first | exact OJ | exact OK | exact OL | exact OM | exact Mt | exact Mu | exact Mv | exact Mx | exact GT | exact OO | exact Ke | exact MM _ | exact OX | exact M4 | exact Pe _ | exact L7 | exact Py | exact Pz _ | exact QU | exact PB _ | exact Lg | exact QV | exact QW | exact ND | exact PD | exact PF | exact Bv | exact PH | exact PK | exact Lh | exact NL | exact NP _ | exact NU | exact Jn | exact NZ _ | exact si _ | exact iQ _ | exact N7 _ | exact P9 | exact gG | exact Jw | exact Oc | apply SE.t | apply SF.e | apply SF.t | apply SQ.fl | apply STr.e | apply ML | apply OY | apply MN | apply O1 | apply MR | apply MS | apply MT | apply O2 | apply MU | apply KF | apply QS | apply PP | apply NH | apply NI | apply PQ | apply NJ | apply Jj | apply PR | apply PU | apply PV | apply NK | apply NM | apply Jk | apply PX | apply NN | apply PY | apply NO | apply Q0 | apply PZ | apply P1 | apply NQ | apply P5 | apply Jo | apply P6 | apply Q1 | apply NV | apply NW | apply P7 | apply NY | apply N0 | apply P8 | apply N1 | apply Q2 | apply zD | apply N5 | apply nk | apply N6 | apply Jp | apply Li | apply bn | apply pQ | apply Lr | apply SE.p | apply SPk.q | apply SI.p) | exact s_c rfl | exact s_g | apply uI | exact fun _ _ h=>zc h | refine' C7 (E:=E0) ?_ ?_ | refine' El (E:=E0) ?_ ?_ | refine' NT (Ns:=NS) ?_ ?_ ?_ | refine' NR (Ns:=NS) ?_ ?_ ?_ | exact List.Mem.head _ | exact List.Mem.tail _ (List.Mem.head _) | decide +kernel)
noncomputable abbrev jT (K:W.Frag):Sp:=kJ K NS "parts" 1 Hz
noncomputable abbrev BL (K:W.Frag):Sp:=bz K 2 jj
noncomputable abbrev Bj (K:W.Frag):{ t:TS // SS K t im }:=⟨_,by delta im;and_intros⟩
noncomputable abbrev BM (K:W.Frag):Sp:=bz K 2 jk
noncomputable abbrev Bl (K:W.Frag):{ t:TS // SS K t ip }:=⟨_,by delta ip gL e6;and_intros⟩
noncomputable abbrev Df (K:W.Frag):Sp:=bz K 1 uZ
noncomputable abbrev C1 (K:W.Frag):{ t:TS // SS K t jH }:=⟨_,by delta jH cK;and_intros⟩
noncomputable abbrev BN (K:W.Frag):Sp:=bz K 2 gy
noncomputable abbrev Bn (K:W.Frag):{ t:TS // SS K t ir }:=⟨_,by delta ir cO gM;and_intros⟩
noncomputable abbrev Gb (K:W.Frag):Sp:=bz K 1 qU
noncomputable abbrev FV (K:W.Frag):{ t:TS // SS K t oT }:=⟨_,by delta oT;and_intros⟩
noncomputable abbrev vH (K:W.Frag):Sp:=bz K 2 iI
noncomputable abbrev vj (K:W.Frag):{ t:TS // SS K t ga }:=⟨_,by delta ga cW cY;and_intros⟩
noncomputable abbrev sY (K:W.Frag):Sp:=bz K 1 gD
noncomputable abbrev sU (K:W.Frag):{ t:TS // SS K t e9 }:=⟨_,by delta e9;and_intros⟩
noncomputable abbrev wR (K:W.Frag):Sp:=bz K 2 jy
noncomputable abbrev wJ (K:W.Frag):{ t:TS // SS K t gP }:=⟨_,by delta gP bC cE;and_intros⟩
noncomputable abbrev zI (K:W.Frag):Sp:=bz K 1 kb
noncomputable abbrev zw (K:W.Frag):{ t:TS // SS K t i8 }:=⟨_,by delta i8;and_intros⟩
noncomputable abbrev zJ (K:W.Frag):Sp:=bz K 2 kc
noncomputable abbrev zz (K:W.Frag):{ t:TS // SS K t i9 }:=⟨_,by delta i9;and_intros⟩
noncomputable abbrev Ge (K:W.Frag):Sp:=bz K 1 qW
noncomputable abbrev FY (K:W.Frag):{ t:TS // SS K t oV }:=⟨_,by delta oV eL;and_intros⟩
noncomputable abbrev oq (K:W.Frag):Sp:=bz K 1 eP
noncomputable abbrev n8 (K:W.Frag):{ t:TS // SS K t di }:=⟨_,by delta di;and_intros⟩
noncomputable abbrev sZ (K:W.Frag):Sp:=bz K 1 c7
noncomputable abbrev sV (K:W.Frag):{ t:TS // SS K t dD }:=⟨_,by delta dD cD;and_intros⟩
noncomputable abbrev kK (K:W.Frag):Sp:=kJ K NS "parts" 4 qT
noncomputable abbrev jq (K:W.Frag):Sp:=kJ K NS "parts" 1 pq
noncomputable abbrev kN (K:W.Frag):Sp:=kJ K NS "parts" 2 zf
noncomputable abbrev F9 (K:W.Frag):Sp:=bz K 1 yc
noncomputable abbrev FT (K:W.Frag):{ t:TS // SS K t jG }:=⟨_,by delta jG ie eK ic;and_intros⟩
noncomputable abbrev Ju (K:W.Frag):Sp:=bz K 1 A4
noncomputable abbrev II (K:W.Frag):{ t:TS // SS K t mf }:=⟨_,by delta mf g6;and_intros⟩
noncomputable abbrev Ga (K:W.Frag):Sp:=bz K 3 yd
noncomputable abbrev FU (K:W.Frag):{ t:TS // SS K t iq }:=⟨_,by delta iq bW fN ig;and_intros⟩
noncomputable abbrev rA (K:W.Frag):Sp:=bz K 3 fW
noncomputable abbrev rc (K:W.Frag):{ t:TS // SS K t eG }:=⟨_,by delta eG;and_intros⟩
noncomputable abbrev zG (K:W.Frag):Sp:=bz K 1 gY
noncomputable abbrev zu (K:W.Frag):{ t:TS // SS K t gt }:=⟨_,by delta gt bj;and_intros⟩
noncomputable abbrev vG (K:W.Frag):Sp:=bz K 1 iH
noncomputable abbrev vi (K:W.Frag):{ t:TS // SS K t f9 }:=⟨_,by delta f9;and_intros⟩
noncomputable abbrev Jv (K:W.Frag):Sp:=bz K 3 u0
noncomputable abbrev IJ (K:W.Frag):{ t:TS // SS K t tj }:=⟨_,by delta tj;and_intros⟩
noncomputable abbrev wQ (K:W.Frag):Sp:=bz K 1 jx
noncomputable abbrev wI (K:W.Frag):{ t:TS // SS K t gO }:=⟨_,by delta gO bB;and_intros⟩
noncomputable abbrev Gd (K:W.Frag):Sp:=bz K 2 jO
noncomputable abbrev FX (K:W.Frag):{ t:TS // SS K t jI }:=⟨_,by delta jI;and_intros⟩
noncomputable abbrev wS (K:W.Frag):Sp:=bz K 2 jz
noncomputable abbrev wK (K:W.Frag):{ t:TS // SS K t gQ }:=⟨_,by delta gQ;and_intros⟩
noncomputable abbrev wT (K:W.Frag):Sp:=bz K 3 jA
noncomputable abbrev wL (K:W.Frag):{ t:TS // SS K t gR }:=⟨_,by delta gR;and_intros⟩
noncomputable abbrev jr (K:W.Frag):Sp:=kJ K NS "parts" 1 fA
noncomputable abbrev Gc (K:W.Frag):Sp:=bz K 2 qV
noncomputable abbrev FW (K:W.Frag):{ t:TS // SS K t oU }:=⟨_,by delta oU;and_intros⟩
noncomputable abbrev Lp (K:W.Frag):Sp:=bz K 2 zg
noncomputable abbrev K5 (K:W.Frag):{ t:TS // SS K t yH }:=⟨_,by delta yH;and_intros⟩
noncomputable abbrev Dg (K:W.Frag):Sp:=bz K 3 nP
noncomputable abbrev C2 (K:W.Frag):{ t:TS // SS K t mh }:=⟨_,by delta mh;and_intros⟩
noncomputable abbrev BO (K:W.Frag):Sp:=bz K 2 lL
noncomputable abbrev Bo (K:W.Frag):{ t:TS // SS K t jX }:=⟨_,by delta jX;and_intros⟩
noncomputable abbrev Lq (K:W.Frag):Sp:=bz K 2 zh
noncomputable abbrev K6 (K:W.Frag):{ t:TS // SS K t yI }:=⟨_,by delta yI;and_intros⟩
noncomputable abbrev vI (K:W.Frag):Sp:=bz K 2 iJ
noncomputable abbrev vk (K:W.Frag):{ t:TS // SS K t gb }:=⟨_,by delta gb eD cZ;and_intros⟩
noncomputable abbrev vJ (K:W.Frag):Sp:=bz K 2 iK
noncomputable abbrev vm (K:W.Frag):{ t:TS // SS K t gd }:=⟨_,by delta gd eE c6;and_intros⟩
noncomputable abbrev Lo (K:W.Frag):Sp:=bz K 2 D4
noncomputable abbrev K4 (K:W.Frag):{ t:TS // SS K t tX }:=⟨_,by delta tX kT;and_intros⟩
noncomputable abbrev mK (K:W.Frag):Sp:=bz K 2 cu
noncomputable abbrev mH (K:W.Frag):{ t:TS // SS K t bD }:=⟨_,by delta bD;and_intros⟩
noncomputable abbrev mL (K:W.Frag):Sp:=bz K 2 d6
noncomputable abbrev mI (K:W.Frag):{ t:TS // SS K t cP }:=⟨_,by delta cP;and_intros⟩
noncomputable abbrev oo (K:W.Frag):Sp:=bz K 2 eO
noncomputable abbrev n6 (K:W.Frag):{ t:TS // SS K t dh }:=⟨_,by delta dh b9;and_intros⟩
noncomputable abbrev ox (K:W.Frag):Sp:=bz K 2 cT
noncomputable abbrev n9 (K:W.Frag):{ t:TS // SS K t bR }:=⟨_,by delta bR a9;and_intros⟩
noncomputable abbrev kL (K:W.Frag):Sp:=bz K 2 kB
noncomputable abbrev sS (K:W.Frag):{ t:TS // SS K t dA }:=⟨_,by delta dA cA;and_intros⟩
noncomputable abbrev kM (K:W.Frag):Sp:=bz K 2 kD
noncomputable abbrev sT (K:W.Frag):{ t:TS // SS K t dB }:=⟨_,by delta dB cB;and_intros⟩
noncomputable abbrev vK (K:W.Frag):Sp:=bz K 3 lM
noncomputable abbrev vn (K:W.Frag):{ t:TS // SS K t d8 }:=⟨_,by delta d8 cX bv;and_intros⟩
noncomputable abbrev Jx (K:W.Frag):Sp:=bz K 3 dM
noncomputable abbrev IK (K:W.Frag):{ t:TS // SS K t oW }:=⟨_,by delta oW g7;and_intros⟩
noncomputable abbrev wP (K:W.Frag):Sp:=bz K 1 m7
noncomputable abbrev wH (K:W.Frag):{ t:TS // SS K t e8 }:=⟨_,by delta e8 bp;and_intros⟩
noncomputable abbrev zH (K:W.Frag):Sp:=bz K 1 Ia
noncomputable abbrev Nr (K:W.Frag):{ t:TS // SS K t Ae }:=⟨_,by delta Ae me;and_intros⟩
end P
namespace P
open PySem L2 M Rw
noncomputable def uG (p:Int×Int):List Int:=[p.1,p.2]
theorem AQ:∀r:R,keys (r.map prD)=some (r.map uG)
 |[]=>rfl
 |p::r=>by rw[TF,keys,AQ r];rfl
theorem HD:∀ {r:R},r≠[]->aY (r.map prD)=none
 |[],h=>absurd rfl h
 |p::r,_=>rfl
noncomputable def D8:List Int->Int×Int
 |[a,b]=>(a,b)
 |_=>(0,0)
noncomputable def kH (ps:R):R:=(iU (ps.map uG)).map D8
theorem oj (ps:R):(kH ps).map uG=iU (ps.map uG):=by
 unfold kH;rw[TU];have h:∀k∈iU (ps.map uG),(uG∘D8) k=k:=fun k hk=>by have:=(iV _).mem_iff.mp hk;obtain⟨p,_,rfl⟩:=Ty.mp this;rfl
 rw[VL h,List.map_id']
theorem f7 (ps:R):(kH ps).Perm ps:=by have h:=(iV (ps.map uG)).map D8;rw[TU] at h;have e:(D8∘uG)=id:=rfl;rw[e,List.map_id] at h;exact h
theorem Jt (ps:R):(kH ps).Pairwise fun p q=>p.1<=q.1:=by
 have h:=pP (ps.map uG);rw[<- oj,Um] at h;refine h.imp fun {p q} e=>?_;have e':(if q.1=p.1 then HT.b7 [q.2] [p.2] else decide (q.1<p.1))=false:=e;by_cases hq:q.1=p.1
 ·lia
 ·rw[To hq] at e';have:=UD e';lia
theorem rN (ps:R)(h:ps.length<30000):eI [CK ps]=some ((kH ps).map prD):=by
 show (if (ps.map prD).length<30000 then _ else _)=_;rw[Tn (by rw[Tt];exact h)];by_cases e:ps=[]
 ·subst e;have e0:kH []=[]:=UZ.mp (by rw[(f7 []).length_eq];rfl);have e1:iR []=[]:=UZ.mp (by rw[(f6 []).length_eq];rfl);show some ((iR []).map D.int)=_;rw[e0,e1];rfl
 ·rw[HD e];dsimp only;rw[AQ];have:(kH ps).map prD=(iU (ps.map uG)).map wV:=by
   rw[<- oj,TU];rfl
  rw[this];rfl
noncomputable def qD (p:Int×Int):Bool:=decide (p.1<=p.2)
noncomputable def kF (ps:R):R:=m6 (kH (ps.filter qD))
theorem dJ (ps:R):IsRow ps (kF ps):=by
 refine HZ ?_ (Jt _) fun x=>?_
 ·intro p hp;have:=(f7 _).mem_iff.mp hp;simpa[qD] using (T4.mp this).2
 ·rw[HV (f7 _)];exact mem_filter ps x
theorem BQ (acc:R)(p:Int×Int):(step acc p).length<=acc.length+1:=by
 rcases Uh acc with rfl|⟨t,q,rfl⟩
 ·simp[Rw.step]
 ·rw[Uo,hJ];split<;>simp
theorem qS:∀(l acc:R),(l.foldl step acc).length<=acc.length+l.length
 |[],acc=>by simp
 |p::l,acc=>by have h1:=qS l (step acc p);have h2:=BQ acc p;rw[List.foldl_cons,Tz];lia
theorem yl (ps:R):(kF ps).length<=ps.length:=by have h1:=qS (kH (ps.filter qD)) [];have h2:=(f7 (ps.filter qD)).length_eq;have h3:=UJ qD ps;unfold kF m6;simp only[Vg] at h1;lia
theorem aC {n:Nat}(h:n<=100000):n<=LIM:=T1 h (by rw[fT];decide)
theorem ci {n:Nat}(h:n<=100000):n<LIM:=UQ h (by rw[fT];decide)
theorem JM (a b:Int):D.tup [.int a,.int b]=prD (a,b):=rfl
theorem xE:∀ps:R,ps.filterMap (fun p=>if p.1<=p.2 then some (prD p) else none)=(ps.filter qD).map prD
 |[]=>rfl
 |p::t=>by
  rw[U6,WD,xE t];by_cases h:p.1<=p.2
  ·simp[qD,h]
  ·simp[qD,h]
theorem EX (ps:R):a6 (aF (aj (af 0) (aj (af 1) aE))) (xB (xOp dLe (ag 0) (ag 1))) (aJ (ad (ak 0) (ad (ak 1) ai))) [.un,.un] (ps.map prD)=some ((ps.filter qD).map prD):=by rw[iu prD (fun p=>if p.1<=p.2 then some (prD p) else none) ps,xE];intro p _;by_cases h:p.1<=p.2<;>simp[cU,h]
theorem CP (pre:R)(p:Int×Int):m6 (pre++[p])=step (m6 pre) p:=by unfold m6;rw[Wm];rfl
theorem HY (pre:R):(m6 pre).length<=pre.length:=by have:=qS pre [];unfold m6;simpa using this
theorem g8 {α:Type}{l:List α}{i:Nat}{x:α}(h:l[i]?=some x):l.drop i=x::l.drop (i+1):=by obtain⟨h1,rfl⟩:=TR.mp h;exact VR h1
theorem LN {r:R}{i:Nat}{p:Int×Int}(h:r[i]?=some p):atI (r.map prD) (i:Int)=some (prD p):=eM (by rw[TW,h];rfl)
theorem EW (p q:Int×Int)(s t:R):dc (p::s) (q::t)=(if max p.1 q.1<=min p.2 q.2 then [(max p.1 q.1,min p.2 q.2)] else [])++(if p.2<q.2 then dc s (q::t) else dc (p::s) t):=by rw[dc]
theorem mx (a b:Int):(if b > a then b else a)=max a b:=by split<;>lia
theorem mn (a b:Int):(if b<a then b else a)=min a b:=by split<;>lia
noncomputable def chg (r:R):List Int:=r.map (·.1)++r.map (·.2+1)
theorem yL (ns:List Int)(h:ns.length<30000):eI [.lst (ns.map D.int)]=some ((iR ns).map D.int):=by show (if (ns.map D.int).length<30000 then _ else _)=_;rw[Tn (by rw[Tt];exact h),fm]
theorem xz:∀(n k:Nat),fg k n=(List.range' k n).map fun k:Nat=>D.int (2 * (k:Int))
 |0,_=>rfl
 |n+1,k=>by rw[fg,xz n (k+1),V4,TF]
theorem nZ:∀(n:Nat) (c:List Int),c.length=2 * n->∀k,k<n->∃a b,c[2 * k]?=some a/\c[2 * k+1]?=some b/\(gE c)[k]?=some (a,b-1)
 |0,_,_,k,h=>by lia
 |n+1,c,h,k,hk=>by
  match c,h with
  |a::b::t,h=>
   cases k with
   |zero=>exact⟨a,b,rfl,rfl,rfl⟩
   |succ k=>
    obtain⟨x,y,h1,h2,h3⟩:=nZ n t (by simp at h;lia) k (by lia);refine⟨x,y,?_,?_,?_⟩
    ·rw[show 2 * (k+1)=2 * k+1+1 by lia];exact h1
    ·rw[show 2 * (k+1)+1=2 * k+1+1+1 by lia];exact h2
    ·rw[gE];exact h3
theorem n4:∀(n:Nat) (c:List Int),c.length=2 * n->(gE c).length=n
 |0,c,h=>by
  have:c=[]:=UZ.mp (by lia);subst this;rfl
 |n+1,c,h=>by
  match c,h with
  |a::b::t,h=>rw[gE,Tz,n4 n t (by simp at h;lia)]
theorem Cq (n:Nat)(c:List Int)(h:c.length=2 * n):a6 (af 0) bw (aJ (ad (xOp dIx (ag 1) (ag 0)) (ad (xOp eY (xOp dIx (ag 1) (xOp aP (ag 0) (xC (.int 1)))) (xC (.int 1))) ai))) [.un,.sh (.lst (c.map D.int))] (fg 0 n)=some ((gE c).map prD):=by
 rw[xz,aN (fun k:Nat=>D.int (2 * (k:Int))) (fun k=>match (gE c)[k]? with|some p=>prD p|none=>.non) (List.range' 0 n)]
 ·congr 1;apply VW;intro k;rw[TW,TW];by_cases hk:k<n
  ·rw[Uf (by rw[UE];exact hk),List.getElem_range'];obtain⟨a,b,_,_,h3⟩:=nZ n c h k hk;simp[h3]
  ·rw[WE (by rw[UE];lia),WE (by rw[n4 n c h];lia)];rfl
 ·intro k hk;have hk':k<n:=by simpa using (List.mem_range'.mp hk)
  obtain⟨a,b,h1,h2,h3⟩:=nZ n c h k hk';have e1:atI (c.map D.int) (2 * (k:Int))=some (.int a):=by have:=eM (l:=c.map D.int) (j:=2 * k) (x:=.int a) (by rw[TW,h1];rfl);rw[<- this];congr 1
  have e2:atI (c.map D.int) (2 * (k:Int)+1)=some (.int b):=by have:=eM (l:=c.map D.int) (j:=2 * k+1) (x:=.int b) (by rw[TW,h2];rfl);rw[<- this];congr 1
  simp[cU,e1,e2,h3]
noncomputable def lg (r t:R):R:=kF (gE (iR (chg (r++t))))
theorem DA (r:R):(chg r).length=2 * r.length:=by unfold chg;simp;lia
theorem AO {r t:R}(cr:aR r)(ct:aR t):z8 r t (lg r t):=by
 obtain⟨h1,h2⟩:=dJ (gE (iR (chg (r++t))));refine⟨h1,fun x=>?_⟩;have hl:(iR (chg (r++t))).length=2 * (r++t).length:=by rw[(f6 _).length_eq,DA]
 unfold lg;rw[h2 x,ve _ _ hl (BJ _) x,Gn (f6 _),<- JQ cr ct x];rfl
noncomputable def nM (r t:R):R:=lg r (dc r t)
theorem jK {r t:R}(cr:aR r)(ct:aR t):GH r t (dc r t):=⟨Cm _ r t rfl cr ct,fun x=>G2 _ r t rfl cr ct x⟩
theorem qI {r t:R}(cr:aR r)(ct:aR t):GI r t (nM r t):=KD (jK cr ct) (AO cr (jK cr ct).1)
theorem HC (n:Nat):dr 0 n=(List.range n).map fun k:Nat=>D.int (k:Int):=by
 apply VW;intro i;cases q:(dr 0 n)[i]? with
 |none=>
  have:=VG.mp q;rw[qH] at this;rw[WE (by rw[Tt,Uy];exact this)]
 |some d=>obtain⟨h1,rfl⟩:=qG n 0 i d q;rw[TW,List.getElem?_range h1];simp
theorem DG {α β:Type}(f:α->β)(xs:List α)(lo hi:Option Int):iw (xs.map f) lo hi=(iw xs lo hi).map f:=by unfold iw;rw[Tt,<- List.map_drop,<- List.map_take]
theorem aw {m n:XS}{ρ ρ':M.Env}(h:m ρ=some (.nx ρ')):aB m n ρ=n ρ':=by unfold aB;rw[h]
theorem uu {n:Nat}{x:XS}{ds:List D}{d:D}(h:x (ds.map .sh++List.replicate (n-ds.length) .un)=some (.rt d)):(fnO n x ds).map O.d=some d:=by unfold fnO;rw[h];simp
theorem Ej {n d:Nat}{v:Int}(h:0<=v):HT.sIx n d (some v)=min v.toNat n:=by show (if v<0 then _ else _)=_;rw[To (by lia)]
theorem BA (s0:Sl)(acc:R)(a b:Int)(h:acc.length<=30000):eL [s0,owl (acc.map prD),.sh (.int a),.sh (.int b)]=some (.nx [s0,owl ((step acc (a,b)).map prD),.sh (.int a),.sh (.int b)]):=by
 rcases Uh acc with rfl|⟨t,q,rfl⟩
 ·simp[eL,Rw.step,prD]
 ·rw[Uo] at *;rw[hJ];have hl:t.length+1<=30000:=by simpa using h
  have hlim:t.length+1<LIM:=ci (by lia);have at1:atI (t.map prD++[prD q]) (-1)=some (prD q):=gu _ _;by_cases hc:a<=q.2+1
  ·simp[eL,at1,hc,lB,JM]
  ·simp[eL,at1,hc,hlim,JM]
theorem lH (ps:R)(h:ps.length<30000):jM [CK ps]=some (bI (kF ps)):=by
 have hf:=UJ qD ps;have hs:=(f7 (ps.filter qD)).length_eq;have key:∃ρ',bE (aF (aj (af 2) (aj (af 3) aE))) eL ((kH (ps.filter qD)).map prD) [.sh (CK ps),.ow (.lst []),.un,.un]=some (.nx ρ')/\∃va vb,ρ'=[.sh (CK ps),owl ((kF ps).map prD),va,vb]:=by
  refine aS prD (fun pre ρ=>∃va vb,ρ=[.sh (CK ps),owl ((m6 pre).map prD),va,vb]) _ _ ⟨_,_,rfl⟩ ?_;rintro pre p post _ e ⟨va,vb,rfl⟩;have hp:pre.length<=30000:=by have:=TQ List.length e;rw[Tu] at this;lia
  refine⟨_,_,rfl,.inl (BA _ (m6 pre) p.1 p.2 (by have:=HY pre;lia)),.sh (.int p.1),.sh (.int p.2),by rw[CP]⟩
 obtain⟨ρ',k1,va,vb,rfl⟩:=key;have hc:=EX ps;have hb:=rN (ps.filter qD) (by lia);have hl:ps.length<=LIM:=aC (by lia);simp[jM,qW,fnO,oV,hl,hc,hb,k1]
noncomputable abbrev Tri:=Int×Int×Int
noncomputable abbrev b5 (t:Tri):D:=.tup [.int t.1,.int t.2.1,.int t.2.2]
noncomputable abbrev Pic:=List (Int×R)
noncomputable abbrev pyD (q:Int×R):D:=.tup [.int q.1,bI q.2]
noncomputable abbrev am (p:Pic):D:=.tup (p.map pyD)
def iY (ts:List Tri)(x y:Int):Prop:=∃t∈ts,t.1=y/\t.2.1<=x/\x<=t.2.2
def az (p:Pic)(x y:Int):Prop:=∃q∈p,q.1=y/\Mem q.2 x
def ao (p:Pic):Prop:=(∀q∈p,aR q.2/\q.2≠[])/\p.Pairwise fun a b=>a.1<b.1
theorem aU (x y:Int):¬az [] x y:=by rintro⟨_,h,_⟩;cases h
theorem bi (q:Int×R)(p:Pic)(x y:Int):az (q::p) x y↔(q.1=y/\Mem q.2 x)\/az p x y:=by
 constructor
 ·rintro⟨s,h,e⟩;rcases TD.mp h with rfl|h
  ·exact .inl e
  ·exact .inr ⟨s,h,e⟩
 ·rintro (e|⟨s,h,e⟩)
  ·exact⟨q,Tx,e⟩
  ·exact⟨s,TC _ h,e⟩
theorem eU (p q:Pic)(x y:Int):az (p++q) x y↔az p x y\/az q x y:=by
 constructor
 ·rintro⟨s,h,e⟩;rcases TB.mp h with h|h
  ·exact .inl ⟨s,h,e⟩
  ·exact .inr ⟨s,h,e⟩
 ·rintro (⟨s,h,e⟩|⟨s,h,e⟩)
  ·exact⟨s,TJ _ h,e⟩
  ·exact⟨s,TH _ h,e⟩
theorem yq (t:Tri)(ts:List Tri)(x y:Int):iY (t::ts) x y↔(t.1=y/\t.2.1<=x/\x<=t.2.2)\/iY ts x y:=by
 constructor
 ·rintro⟨s,h,e⟩;rcases TD.mp h with rfl|h
  ·exact .inl e
  ·exact .inr ⟨s,h,e⟩
 ·rintro (e|⟨s,h,e⟩)
  ·exact⟨t,Tx,e⟩
  ·exact⟨s,TC _ h,e⟩
theorem eV (a b:List Tri)(x y:Int):iY (a++b) x y↔iY a x y\/iY b x y:=by
 constructor
 ·rintro⟨s,h,e⟩;rcases TB.mp h with h|h
  ·exact .inl ⟨s,h,e⟩
  ·exact .inr ⟨s,h,e⟩
 ·rintro (⟨s,h,e⟩|⟨s,h,e⟩)
  ·exact⟨s,TJ _ h,e⟩
  ·exact⟨s,TH _ h,e⟩
theorem Gi {a b:List Tri}(h:a.Perm b)(x y:Int):iY a x y↔iY b x y:=
 ⟨fun⟨q,m,e⟩=>⟨q,h.mem_iff.mp m,e⟩,fun⟨q,m,e⟩=>⟨q,h.mem_iff.mpr m,e⟩⟩
theorem dN:ao []:=⟨fun _ h=>(by cases h),.nil⟩
theorem pcanon_cons {q:Int×R}{p:Pic}:ao (q::p)↔(aR q.2/\q.2≠[])/\(∀s∈p,q.1<s.1)/\ao p:=by
 constructor
 ·rintro⟨h1,h2⟩;have h3:=U0.mp h2;exact⟨h1 q Tx,h3.1,fun s hs=>h1 s (TC _ hs),h3.2⟩
 ·rintro⟨h1,h2,h3,h4⟩;refine⟨fun s hs=>?_,U0.mpr ⟨h2,h4⟩⟩;rcases TD.mp hs with rfl|hs
  ·exact h1
  ·exact h3 s hs
theorem ja {r:R}(c:aR r)(h:r≠[]):∃x,Mem r x:=by
 cases r with
 |nil=>exact absurd rfl h
 |cons p r=>exact⟨p.1,(mem_cons ..).mpr (.inl ⟨TN _,(canon_cons.mp c).1⟩)⟩
theorem jl:∀ {p q:Pic},ao p->ao q->(∀x y,az p x y↔az q x y)->p=q
 |[],[],_,_,_=>rfl
 |[],b::q,_,cq,h=>by
  obtain⟨⟨c1,c2⟩,_⟩:=pcanon_cons.mp cq;obtain⟨x,hx⟩:=ja c1 c2;exact (aU _ _ ((h x b.1).mpr ((bi ..).mpr (.inl ⟨rfl,hx⟩)))).elim
 |a::p,[],cp,_,h=>by
  obtain⟨⟨c1,c2⟩,_⟩:=pcanon_cons.mp cp;obtain⟨x,hx⟩:=ja c1 c2;exact (aU _ _ ((h x a.1).mp ((bi ..).mpr (.inl ⟨rfl,hx⟩)))).elim
 |a::p,b::q,cp,cq,h=>by
  obtain⟨⟨ca,na⟩,la,cp'⟩:=pcanon_cons.mp cp;obtain⟨⟨cb,nb⟩,lb,cq'⟩:=pcanon_cons.mp cq;obtain⟨xa,ha⟩:=ja ca na;obtain⟨xb,hb⟩:=ja cb nb;have ey:a.1=b.1:=by
   have h1:b.1<=a.1:=by
    rcases (bi ..).mp ((h xa a.1).mp ((bi ..).mpr (.inl ⟨rfl,ha⟩))) with ⟨e,_⟩|⟨s,hs,e,_⟩
    ·lia
    ·have:=lb s hs;lia
   have h2:a.1<=b.1:=by
    rcases (bi ..).mp ((h xb b.1).mpr ((bi ..).mpr (.inl ⟨rfl,hb⟩))) with ⟨e,_⟩|⟨s,hs,e,_⟩
    ·lia
    ·have:=la s hs;lia
   lia
  have er:a.2=b.2:=Dm ca cb fun x=>by
   have hx:=h x a.1;rw[bi,bi] at hx;have n1:¬az p x a.1:=by rintro⟨s,hs,e,_⟩;have:=la s hs;lia
   have n2:¬az q x a.1:=by rintro⟨s,hs,e,_⟩;have:=lb s hs;lia
   constructor
   ·intro hm;rcases hx.mp (.inl ⟨rfl,hm⟩) with z|z
    ·exact z.2
    ·exact absurd z n2
   ·intro hm;rcases hx.mpr (.inl ⟨ey.symm,hm⟩) with z|z
    ·exact z.2
    ·exact absurd z n1
  have eab:a=b:=by obtain⟨a1,a2⟩:=a;obtain⟨b1,b2⟩:=b;simp only at ey er;rw[ey,er]
  subst eab;have ih:p=q:=jl cp' cq' fun x y=>by
   have hx:=h x y;rw[bi,bi] at hx;constructor
   ·intro hm;rcases hx.mp (.inr hm) with z|z
    ·obtain⟨s,hs,e,_⟩:=hm;have:=la s hs;lia
    ·exact z
   ·intro hm;rcases hx.mpr (.inr hm) with z|z
    ·obtain⟨s,hs,e,_⟩:=hm;have:=lb s hs;lia
    ·exact z
  rw[ih]
noncomputable def wv (t:Tri):List Int:=[t.1,t.2.1,t.2.2]
noncomputable def zj:List Int->Tri
 |[a,b,c]=>(a,b,c)
 |_=>(0,0,0)
theorem xR:∀r:List Tri,keys (r.map b5)=some (r.map wv)
 |[]=>rfl
 |p::r=>by rw[TF,keys,xR r];rfl
theorem Fh:∀ {r:List Tri},r≠[]->aY (r.map b5)=none
 |[],h=>absurd rfl h
 |_::_,_=>rfl
noncomputable def cM (ts:List Tri):List Tri:=(iU (ts.map wv)).map zj
theorem vF (ts:List Tri):(cM ts).map wv=iU (ts.map wv):=by
 unfold cM;rw[TU];have h:∀k∈iU (ts.map wv),(wv∘zj) k=k:=fun k hk=>by have:=(iV _).mem_iff.mp hk;obtain⟨p,_,rfl⟩:=Ty.mp this;rfl
 rw[VL h,List.map_id']
theorem dU (ts:List Tri):(cM ts).Perm ts:=by have h:=(iV (ts.map wv)).map zj;rw[TU] at h;have e:(zj∘wv)=id:=rfl;rw[e,List.map_id] at h;exact h
theorem BK (ts:List Tri):(cM ts).Pairwise fun p q=>p.1<=q.1:=by
 have h:=pP (ts.map wv);rw[<- vF,Um] at h;refine h.imp fun {p q} e=>?_;have e':(if q.1=p.1 then HT.b7 [q.2.1,q.2.2] [p.2.1,p.2.2] else decide (q.1<p.1))=false:=e;by_cases hq:q.1=p.1
 ·lia
 ·rw[To hq] at e';have:=UD e';lia
theorem jZ (ts:List Tri)(h:ts.length<30000):eI [.lst (ts.map b5)]=some ((cM ts).map b5):=by
 show (if (ts.map b5).length<30000 then _ else _)=_;rw[Tn (by rw[Tt];exact h)];by_cases e:ts=[]
 ·subst e;have e0:cM []=[]:=UZ.mp (by rw[(dU []).length_eq];rfl);have e1:iR []=[]:=UZ.mp (by rw[(f6 []).length_eq];rfl);show some ((iR []).map D.int)=_;rw[e0,e1];rfl
 ·rw[Fh e];dsimp only;rw[xR];have:(cM ts).map b5=(iU (ts.map wv)).map wV:=by
   rw[<- vF,TU];rfl
  rw[this];rfl
noncomputable def cL (t:Tri):Bool:=decide (t.2.1<=t.2.2)
theorem BU (ts:List Tri)(x y:Int):iY (ts.filter cL) x y↔iY ts x y:=by
 constructor
 ·rintro⟨q,m,e⟩;exact⟨q,(T4.mp m).1,e⟩
 ·rintro⟨q,m,e⟩;exact⟨q,T4.mpr ⟨m,by simp[cL];lia⟩,e⟩
theorem ut:∀ps:List Tri,ps.filterMap (fun p=>if p.2.1<=p.2.2 then some (b5 p) else none)=(ps.filter cL).map b5
 |[]=>rfl
 |p::t=>by
  rw[U6,WD,ut t];by_cases h:p.2.1<=p.2.2
  ·simp[cL,h]
  ·simp[cL,h]
theorem Cn (ps:List Tri):a6 (aF (aj (af 0) (aj (af 1) (aj (af 2) aE)))) (xB (xOp dLe (ag 1) (ag 2))) (aJ (ad (ak 0) (ad (ak 1) (ad (ak 2) ai)))) [.un,.un,.un] (ps.map b5)=some ((ps.filter cL).map b5):=by rw[iu b5 (fun p=>if p.2.1<=p.2.2 then some (b5 p) else none) ps,ut];intro p _;by_cases h:p.2.1<=p.2.2<;>simp[cU,h]
noncomputable def ku (gs:Pic)(t:Tri):Pic:=match gs.getLast? with
 |none=>[(t.1,[t.2])]
 |some g=>if g.1=t.1 then gs.dropLast++[(g.1,g.2++[t.2])] else gs++[(t.1,[t.2])]
theorem Fb (t:Tri):ku [] t=[(t.1,[t.2])]:=rfl
theorem nJ (gs:Pic)(g:Int×R)(t:Tri):ku (gs++[g]) t=if g.1=t.1 then gs++[(g.1,g.2++[t.2])] else gs++[g]++[(t.1,[t.2])]:=by unfold ku;simp
noncomputable def eg (ts:List Tri):Pic:=ts.foldl ku []
theorem uz (pre:List Tri)(t:Tri):eg (pre++[t])=ku (eg pre) t:=by unfold eg;rw[Wm];rfl
structure GOk (gs:Pic) (ts:List Tri):Prop where
 ne:∀g∈gs,g.2≠[]/\Ok g.2
 up:gs.Pairwise fun a b=>a.1<b.1
 mem:∀x y,az gs x y↔iY ts x y
 le:∀g∈gs,∃t∈ts,g.1=t.1
 len:(gs.map fun g=>g.2.length).sum=ts.length
theorem Hq {gs:Pic}{ts:List Tri}{t:Tri}(o:GOk gs ts)(ht:t.2.1<=t.2.2)(hb:∀s∈ts,s.1<=t.1):GOk (ku gs t) (ts++[t]):=by
 have tm:∀x y,iY (ts++[t]) x y↔iY ts x y\/(t.1=y/\t.2.1<=x/\x<=t.2.2):=fun x y=>by
  rw[eV,yq];constructor
  ·rintro (h|h|⟨_,h,_⟩)
   ·exact .inl h
   ·exact .inr h
   ·cases h
  ·rintro (h|h)
   ·exact .inl h
   ·exact .inr (.inl h)
 have okt:Ok [t.2]:=fun p hp=>by rw[Ts.mp hp];exact ht
 rcases Uh gs with rfl|⟨gs0,g,rfl⟩
 ·rw[Fb];have e0:ts=[]:=UZ.mp (by have:=o.len;simpa using this.symm);subst e0;refine⟨fun g hg=>?_,VE _ _,fun x y=>?_,fun g hg=>⟨t,by simp,by rw[Ts.mp hg]⟩,by simp⟩
  ·rw[Ts.mp hg];exact⟨by simp,okt⟩
  ·rw[tm,bi,mem_cons];constructor
   ·rintro (⟨h1,h2|h2⟩|h)
    ·exact .inr ⟨h1,h2⟩
    ·exact (aW _ h2).elim
    ·exact (aU _ _ h).elim
   ·rintro (⟨_,h,_⟩|h)
    ·cases h
    ·exact .inl ⟨h.1,.inl h.2⟩
 ·rw[Uo] at *;have up:=T3.mp o.up;rw[nJ];have glast:g.1<=t.1:=by
   obtain⟨s,hs,e⟩:=o.le g (by simp);have:=hb s hs;lia
  by_cases h:g.1=t.1
  ·rw[Tn h];refine⟨fun q hq=>?_,?_,fun x y=>?_,fun q hq=>?_,?_⟩
   ·rcases TB.mp hq with hq|hq
    ·exact o.ne q (TJ _ hq)
    ·rw[Ts.mp hq];refine⟨by simp,fun p hp=>?_⟩;rcases TB.mp hp with hp|hp
     ·exact (o.ne g (by simp)).2 p hp
     ·exact okt p hp
   ·refine T3.mpr ⟨up.1,VE _ _,fun a ha b hb=>?_⟩;rw[Ts.mp hb];exact up.2.2 a ha g (by simp)
   ·rw[tm,<- o.mem,eU,eU,bi,bi];dsimp only;rw[mem_append,mem_cons];have n0:=aU x y;have n1:=aW x;constructor
    ·rintro (k|⟨k1,k2|k2|k2⟩|k)
     ·exact .inl (.inl k)
     ·exact .inl (.inr (.inl ⟨k1,k2⟩))
     ·exact .inr ⟨by lia,k2⟩
     ·exact absurd k2 n1
     ·exact absurd k n0
    ·rintro ((k|⟨k1,k2⟩|k)|⟨k1,k2⟩)
     ·exact .inl k
     ·exact .inr (.inl ⟨k1,.inl k2⟩)
     ·exact absurd k n0
     ·exact .inr (.inl ⟨by lia,.inr (.inl k2)⟩)
   ·rcases TB.mp hq with hq|hq
    ·obtain⟨s,hs,e⟩:=o.le q (TJ _ hq);exact⟨s,TJ _ hs,e⟩
    ·rw[Ts.mp hq];exact⟨t,by simp,h⟩
   ·have:=o.len;simp only[T7,V5,TF,VA,UF,List.sum_nil,Tu,Tz,Vg] at this ⊢;lia
  ·rw[To h];refine⟨fun q hq=>?_,?_,fun x y=>?_,fun q hq=>?_,?_⟩
   ·rcases TB.mp hq with hq|hq
    ·exact o.ne q hq
    ·rw[Ts.mp hq];exact⟨by simp,okt⟩
   ·refine T3.mpr ⟨o.up,VE _ _,fun a ha b hb'=>?_⟩;rw[Ts.mp hb'];rcases TB.mp ha with ha|ha
    ·have:=up.2.2 a ha g (by simp);dsimp only;lia
    ·rw[Ts.mp ha];dsimp only;lia
   ·rw[tm,<- o.mem,eU,bi];dsimp only;rw[mem_cons];have n0:=aU x y;have n1:=aW x;constructor
    ·rintro (k|⟨k1,k2|k2⟩|k)
     ·exact .inl k
     ·exact .inr ⟨k1,k2⟩
     ·exact absurd k2 n1
     ·exact absurd k n0
    ·rintro (k|⟨k1,k2⟩)
     ·exact .inl k
     ·exact .inr (.inl ⟨k1,.inl k2⟩)
   ·rcases TB.mp hq with hq|hq
    ·obtain⟨s,hs,e⟩:=o.le q hq;exact⟨s,TJ _ hs,e⟩
    ·rw[Ts.mp hq];exact⟨t,by simp,rfl⟩
   ·have:=o.len;simp only[T7,V5,TF,VA,UF,List.sum_nil,Tu,Tz,Vg] at this ⊢;lia
theorem AL:∀(post pre:List Tri),(∀t∈pre++post,t.2.1<=t.2.2)->(pre++post).Pairwise (fun p q=>p.1<=q.1)->GOk (eg pre) pre->GOk (eg (pre++post)) (pre++post)
 |[],pre,_,_,o=>by rw[Ue];exact o
 |t::post,pre,h1,h2,o=>by
  have e:pre++t::post=(pre++[t])++post:=by simp
  rw[e] at h1 h2 ⊢;refine AL post (pre++[t]) h1 h2 ?_;rw[uz];have h3:=T3.mp h2;have h4:=T3.mp h3.1;exact Hq o (h1 t (by simp)) fun s hs=>h4.2.2 s hs t (by simp)
theorem xI {ts:List Tri}(h1:∀t∈ts,t.2.1<=t.2.2)(h2:ts.Pairwise fun p q=>p.1<=q.1):GOk (eg ts) ts:=
 AL ts [] h1 h2 ⟨fun _ h=>(by cases h),.nil,fun x y=>⟨fun h=>(aU _ _ h).elim,fun⟨_,h,_⟩=>by cases h⟩,fun _ h=>(by cases h),rfl⟩
noncomputable def fL (ts:List Tri):Pic:=(eg (cM (ts.filter cL))).map fun g=>(g.1,kF g.2)
theorem lY (ts:List Tri):GOk (eg (cM (ts.filter cL))) (cM (ts.filter cL)):=xI (fun t ht=>by
 have:=(dU _).mem_iff.mp ht
 simpa[cL] using (T4.mp this).2) (BK _)
theorem Jf {ps:R}(h:ps≠[])(o:Ok ps):kF ps≠[]:=fun e=>by
 cases ps with
 |nil=>exact h rfl
 |cons p ps=>have:=((dJ (p::ps)).2 p.1).mpr ((mem_cons ..).mpr (.inl ⟨TN _,o p Tx⟩));rw[e] at this;exact aW _ this
theorem fE (ts:List Tri):ao (fL ts)/\∀x y,az (fL ts) x y↔iY ts x y:=by
 have o:=lY ts;refine⟨⟨fun q hq=>?_,?_⟩,fun x y=>?_⟩
 ·obtain⟨g,hg,rfl⟩:=Ty.mp hq;obtain⟨h1,h2⟩:=o.ne g hg;exact⟨(dJ g.2).1,Jf h1 h2⟩
 ·unfold fL;rw[Um];exact o.up
 ·rw[<- BU ts,<- Gi (dU _),<- o.mem];constructor
  ·rintro⟨q,hq,e,hm⟩;obtain⟨g,hg,rfl⟩:=Ty.mp hq;exact⟨g,hg,e,((dJ g.2).2 x).mp hm⟩
  ·rintro⟨g,hg,e,hm⟩;exact⟨_,Ty.mpr ⟨g,hg,rfl⟩,e,((dJ g.2).2 x).mpr hm⟩
noncomputable def ah (p:Pic):List Tri:=p.flatMap fun q=>q.2.map fun s=>(q.1,s)
theorem aZ (q:Int×R)(p:Pic):ah (q::p)=(q.2.map fun s=>(q.1,s))++ah p:=rfl
theorem iW (p:Pic)(x y:Int):iY (ah p) x y↔az p x y:=by
 constructor
 ·rintro⟨t,ht,e,h⟩;obtain⟨q,hq,hs⟩:=Vr.mp ht;obtain⟨s,hs2,rfl⟩:=Ty.mp hs;exact⟨q,hq,e,s,hs2,h⟩
 ·rintro⟨q,hq,e,s,hs,h⟩;exact⟨(q.1,s),Vr.mpr ⟨q,hq,Ty.mpr ⟨s,hs,rfl⟩⟩,e,h⟩
theorem vh {ts:List Tri}{p:Pic}(c:ao p)(h:∀x y,iY ts x y↔az p x y):fL ts=p:=
 jl (fE ts).1 c fun x y=>((fE ts).2 x y).trans (h x y)
mutual
theorem Aw:∀(n:Nat) (d:D),okD n d=true->eqD d d=true
 |_,.non,_=>by simp[eqD]
 |_,.bl _,_=>by simp[eqD]
 |_,.int _,_=>by simp[eqD]
 |_,.str _,_=>by simp[eqD]
 |0,.lst _,h=>by simp[okD] at h
 |n+1,.lst l,h=>by rw[eqD];exact eqDs_refl n l (by simpa[okD] using h)
 |0,.tup _,h=>by simp[okD] at h
 |n+1,.tup l,h=>by rw[eqD];exact eqDs_refl n l (by simpa[okD] using h)
 |0,.mtp _,h=>by simp[okD] at h
 |n+1,.mtp l,h=>by rw[eqD];exact eqDs_refl n l (by simpa[okD] using h)
 |n,.ty _,h=>by cases n<;>simp[okD] at h
 |n,.scr _,h=>by cases n<;>simp[okD] at h
 |n,.ins _ _ _,h=>by cases n<;>simp[okD] at h
 |n,.dic _,h=>by cases n<;>simp[okD] at h
theorem eqDs_refl:∀(n:Nat) (l:List D),okDs n l=true->eqDs l l=true
 |_,[],_=>by simp[eqDs]
 |n,d::l,h=>by rw[okDs,Ul] at h;rw[eqDs,Aw n d h.1,eqDs_refl n l h.2];rfl
end
theorem lN {α:Type}{n:Nat}{f:α->D}:∀(l:List α),(∀a∈l,okD n (f a)=true)->okDs n (l.map f)=true
 |[],_=>by simp[okDs]
 |a::l,h=>by rw[TF,okDs,h a Tx,lN l fun b hb=>h b (TC _ hb)];rfl
theorem ld {d:D}(neg:Bool)(h:okD 50 d=true):dEq neg d d=some (.bl (!neg)):=by unfold dEq;rw[Tn ⟨h,h⟩,Aw 50 d h];cases neg<;>rfl
theorem zk (p:Pic):okD 50 (am p)=true:=by rw[okD];refine lN p fun q _=>?_;simp only[okD,okDs];rw[u5 46 q.2];rfl
noncomputable def grO (g:Int×R):O:=.tup [.sh (.int g.1),.lst (g.2.map (O.sh∘prD))]
noncomputable def grD (g:Int×R):D:=.tup [.int g.1,CK g.2]
theorem OZ (g:Int×R):(grO g).d=grD g:=by simp[grO,grD]
theorem LS:∀gs:Pic,O.ds (gs.map grO)=gs.map grD
 |[]=>by simp
 |g::gs=>by rw[TF,EF,OZ,LS gs];rfl
theorem Fa (gs:Pic)(t:Tri):(ku gs t).length<=gs.length+1:=by
 rcases Uh gs with rfl|⟨gs0,g,rfl⟩
 ·simp[ku]
 ·rw[Uo,nJ];split<;>simp
theorem xH:∀ts:List Tri,(eg ts).length<=ts.length:=by
 intro ts;have key:∀(l:List Tri) (gs:Pic),(l.foldl ku gs).length<=gs.length+l.length:=by
  intro l;induction l with
  |nil=>intro gs;simp
  |cons t l ih=>intro gs;have h1:=ih (ku gs t);have h2:=Fa gs t;rw[List.foldl_cons,Tz];lia
 have:=key ts [];unfold eg;simpa using this
theorem zr (s0:Sl)(gs:Pic)(t:Tri)(h:gs.length<=30000)(hg:∀g∈gs,g.2.length<=30000):bB [s0,.ow (.lst (gs.map grO)),.sh (.int t.1),.sh (.int t.2.1),.sh (.int t.2.2)]=some (.nx [s0,.ow (.lst ((ku gs t).map grO)),.sh (.int t.1),.sh (.int t.2.1),.sh (.int t.2.2)]):=by
 rcases Uh gs with rfl|⟨gs0,g,rfl⟩
 ·simp[bB,ku,grO]
 ·rw[Uo] at *;rw[nJ];have hl:gs0.length+1<=30000:=by simpa using h
  have hlim:gs0.length+1<LIM:=ci (by lia);have hg2:g.2.length<LIM:=ci (by have:=hg g (by simp);lia);by_cases hc:g.1=t.1
  ·simp[bB,hc,hg2,grO]
  ·simp[bB,hc,hlim,grO]
theorem nL:∀ {l:List Nat} {n:Nat},n∈l->n<=l.sum
 |[],_,h=>by cases h
 |m::l,n,h=>by
  rw[UF];rcases TD.mp h with rfl|h
  ·lia
  ·have:=nL h;lia
theorem gC (ts:List Tri)(h:ts.length<30000):fw [.lst (ts.map b5)]=some (am (fL ts)):=by
 have hf:=UJ cL ts;have hs:=(dU (ts.filter cL)).length_eq;have og:=lY ts;have key:∃ρ',bE (aF (aj (af 2) (aj (af 3) (aj (af 4) aE)))) bB ((cM (ts.filter cL)).map b5) [.sh (.lst (ts.map b5)),.ow (.lst []),.un,.un,.un]=some (.nx ρ')/\∃va vb vc,ρ'=[.sh (.lst (ts.map b5)),.ow (.lst ((eg (cM (ts.filter cL))).map grO)),va,vb,vc]:=by
  refine aS b5 (fun pre ρ=>∃va vb vc,ρ=[.sh (.lst (ts.map b5)),.ow (.lst ((eg pre).map grO)),va,vb,vc]) _ _ ⟨_,_,_,rfl⟩ ?_;rintro pre t post _ e ⟨va,vb,vc,rfl⟩;have hp:pre.length<=30000:=by have:=TQ List.length e;rw[Tu] at this;lia
  have gl:=xH pre;have gp:GOk (eg pre) pre:=by
   refine xI (fun s hs=>?_) ?_
   ·have:=(dU _).mem_iff.mp (show s∈cM (ts.filter cL) by rw[e];simp[hs]);simpa[cL] using (T4.mp this).2
   ·have:=BK (ts.filter cL);rw[e] at this;exact (T3.mp this).1
  have gg:∀g∈eg pre,g.2.length<=30000:=fun g hg=>by have h1:=gp.len;have h2:g.2.length<=((eg pre).map fun g=>g.2.length).sum:=nL (Ty.mpr ⟨g,hg,rfl⟩);lia
  refine⟨_,_,rfl,.inl (zr _ (eg pre) t (by lia) gg),.sh (.int t.1),.sh (.int t.2.1),.sh (.int t.2.2),by rw[uz]⟩
 obtain⟨ρ',k1,va,vb,vc,rfl⟩:=key;have hc:=Cn ts;have hb:=jZ (ts.filter cL) (by lia);have hl:ts.length<=LIM:=aC (by lia);have gl:=xH (cM (ts.filter cL));have hl2:(eg (cM (ts.filter cL))).length<=LIM:=aC (by lia);have c2:a6 (aF (aj (af 0) (aj (af 1) aE))) bw (aJ (ad (ak 0) (ad (av jM (ad (ak 1) ai)) ai))) [.un,.un] ((eg (cM (ts.filter cL))).map grD)=some ((fL ts).map pyD):=by
  rw[aN grD (fun g=>pyD (g.1,kF g.2))]
  ·unfold fL;rw[TU];rfl
  ·intro g hg;have h1:g.2.length<30000:=by
    have h2:g.2.length<=((eg (cM (ts.filter cL))).map fun g=>g.2.length).sum:=nL (Ty.mpr ⟨g,hg,rfl⟩);have:=og.len;lia
   have h3:=lH g.2 h1;simp[cU,grD,h3]
 simp[fw,jx,fnO,gO,hl,hc,hb,k1,frz,LS,hl2,c2]
theorem pR (p q:Pic):ah (p++q)=ah p++ah q:=by unfold ah;rw[List.flatMap_append]
theorem bZ {p:Pic}{q:Int×R}(h:q∈p):q.2.length<=(ah p).length:=by
 induction p with
 |nil=>cases h
 |cons s p ih=>
  rw[aZ,Tu,Tt];rcases TD.mp h with rfl|h
  ·lia
  ·have:=ih h;lia
theorem nQ (p:Pic)(h:(ah p).length<=100000):c7 [am p]=some (.lst ((ah p).map (O.sh∘b5))):=by
 obtain⟨ρ',k1,v2,v3,rfl⟩:=aS (g:=aF (aj (af 2) (aj (af 3) aE))) (m:=cD) pyD (fun pre ρ=>∃v2 v3,ρ=[.sh (am p),.ow (.lst ((ah pre).map (O.sh∘b5))),v2,v3]) p [.sh (am p),.ow (.lst []),.un,.un] ⟨_,_,rfl⟩ (by
  rintro pre q post _ e ⟨v2,v3,rfl⟩;have hlen:(ah pre).length+q.2.length<=100000:=by rw[e,pR,aZ,Tu,Tu,Tt] at h;lia
  have hl:(ah pre).length+q.2.length<=LIM:=aC hlen;have hl2:q.2.length<=LIM:=aC (by lia);have hc:a6 (aF (aj (af 0) (aj (af 1) aE))) bw (aJ (ad (ak 2) (ad (ak 0) (ad (ak 1) ai)))) [.un,.un,.sh (.int q.1)] (q.2.map prD)=some (q.2.map fun s=>b5 (q.1,s)):=aN prD _ q.2 fun s _=>by simp[cU]
  refine⟨_,[.sh (am p),.ow (.lst ((ah (pre++[q])).map (O.sh∘b5))),.sh (.int q.1),.sh (bI q.2)],rfl,.inl ?_,_,_,rfl⟩;have es:ah (pre++[q])=ah pre++q.2.map fun s=>(q.1,s):=by rw[pR,aZ];simp[ah]
  rw[es]
  simp[cD,hl,hl2,hc])
 simp[c7,fnO,dD,k1]
theorem bV (p:Pic)(h:(ah p).length<=100000):a8 [am p]=some (.lst ((ah p).map b5)):=by unfold a8;rw[nQ p h];simp
theorem fU {α:Type}(l:List α)(k:α->Int)(enc:α->D)(x:Int)(he:∀a,dIx (enc a) (.int 0)=some (.int (k a)))(hl:l.length<=100000)(pw:l.Pairwise fun a b=>k a<k b) :
  ∃n:Nat,n<=l.length/\ez [.tup (l.map enc),.int x]=some (.int n)/\∀(i:Nat) a,l[i]?=some a->(k a<=x↔i<n):=by
 have lt:∀(i j:Nat) a b,l[i]?=some a->l[j]?=some b->i<j->k a<k b:=fun i j a b hi hj hij=>by obtain⟨h1,rfl⟩:=TR.mp hi;obtain⟨h2,rfl⟩:=TR.mp hj;exact UW.mp pw i j h1 h2 hij
 obtain⟨ρ',k1,n,v3,v4,rfl,h1,h2⟩:=ko (c:=cY) (m:=cW)
  (fun ρ=>∃(lo hi:Nat) (v4:Sl),ρ=[.sh (.tup (l.map enc)),.sh (.int x),.sh (.int lo),.sh (.int hi),v4]/\lo<=hi/\hi<=l.length/\(∀(i:Nat) a,l[i]?=some a->i<lo->k a<=x)/\∀(i:Nat) a,l[i]?=some a->hi<=i->x<k a)
  (fun ρ=>match ρ with|[_,_,.sh (.int lo),.sh (.int hi),_]=>(hi-lo).toNat|_=>0)
  (fun ρ=>∃(n:Nat) (v3 v4:Sl),ρ=[.sh (.tup (l.map enc)),.sh (.int x),.sh (.int n),v3,v4]/\n<=l.length/\∀(i:Nat) a,l[i]?=some a->(k a<=x↔i<n))
  (by
   rintro _ ⟨lo,hi,v4,rfl,h1,h2,h3,h4⟩;by_cases hc:lo<hi
   ·right;have hc':(lo:Int)<hi:=by lia
    obtain⟨a,ha⟩:∃a,l[(lo+hi) / 2]?=some a:=⟨_,Uf (by lia)⟩
    have em:((lo:Int)+hi) / 2=(((lo+hi) / 2:Nat):Int):=by lia
    have ea:atI (l.map enc) (((lo:Int)+hi) / 2)=some (enc a):=by rw[em];exact eM (by rw[TW,ha];rfl)
    refine⟨by simp[cY,hc'],?_⟩;by_cases ck:k a<=x
    ·refine⟨[.sh (.tup (l.map enc)),.sh (.int x),.sh (.int (((lo+hi) / 2+1:Nat):Int)),.sh (.int hi),.sh (.int (((lo:Int)+hi) / 2))],?_,⟨(lo+hi) / 2+1,hi,_,rfl,by lia,h2,fun i b hb hi'=>?_,h4⟩,by dsimp only;lia⟩
     ·simp[cW,ea,he,ck]
     ·by_cases z:i=(lo+hi) / 2
      ·subst z;rw[ha] at hb;cases hb;exact ck
      ·have:=lt i _ b a hb ha (by lia);lia
    ·refine⟨[.sh (.tup (l.map enc)),.sh (.int x),.sh (.int lo),.sh (.int (((lo+hi) / 2:Nat):Int)),.sh (.int (((lo:Int)+hi) / 2))],?_,⟨lo,(lo+hi) / 2,_,rfl,by lia,by lia,h3,fun i b hb hi'=>?_⟩,by dsimp only;lia⟩
     ·simp[cW,ea,he,ck]
     ·by_cases z:i=(lo+hi) / 2
      ·subst z;rw[ha] at hb;cases hb;lia
      ·have:=lt _ i a b ha hb (by lia);lia
   ·left;have hc':¬(lo:Int)<hi:=by lia
    have e:lo=hi:=by lia
    subst e;refine⟨by simp[cY],lo,_,_,rfl,h2,fun i a ha=>⟨fun hk=>?_,fun hi'=>h3 i a ha hi'⟩⟩;by_cases z:i<lo
    ·exact z
    ·have:=h4 i a ha (by lia);lia)
  [.sh (.tup (l.map enc)),.sh (.int x),.sh (.int 0),.sh (.int l.length),.un]
  ⟨0,l.length,_,rfl,T2 _,Tw _,fun i a _ h=>absurd h (Nat.not_lt_zero _),fun i a ha h=>by have:=(TR.mp ha).1;lia⟩
 refine⟨n,h1,?_,h2⟩;simp[ez,iI,fnO,ga,k1]
noncomputable def bh (p:Pic)(y:Int):R:=match p.find? fun q=>decide (q.1=y) with|some q=>q.2|none=>[]
theorem lR {p:Pic}(c:ao p){q:Int×R}(hq:q∈p):bh p q.1=q.2:=by
 unfold bh;cases e:p.find? fun s=>decide (s.1=q.1) with
 |none=>
  have:=List.find?_eq_none.mp e q hq;simp at this
 |some s=>
  have h1:=List.find?_some e;have h2:=List.mem_of_find?_eq_some e;have h3:s.1=q.1:=UP h1;have:s=q:=by
   obtain⟨i,hi⟩:=UB h2;obtain⟨j,hj⟩:=UB hq;obtain⟨li,ei⟩:=TR.mp hi;obtain⟨lj,ej⟩:=TR.mp hj;have pw:=UW.mp c.2;by_cases z:i<j
   ·have:=pw i j li lj z;rw[ei,ej] at this;lia
   ·by_cases z2:j<i
    ·have:=pw j i lj li z2;rw[ei,ej] at this;lia
    ·have:i=j:=by lia
     subst this;rw[hi] at hj;exact T6 hj
  rw[this]
theorem kf {p:Pic}{y:Int}(h:∀q∈p,q.1≠y):bh p y=[]:=by
 unfold bh;have:p.find? (fun q=>decide (q.1=y))=none:=List.find?_eq_none.mpr fun q hq=>by simpa using h q hq
 rw[this]
theorem dQ {p:Pic}(c:ao p)(y:Int):aR (bh p y):=by
 by_cases h:∃q∈p,q.1=y
 ·obtain⟨q,hq,rfl⟩:=h;rw[lR c hq];exact (c.1 q hq).1
 ·rw[kf fun q hq e=>h ⟨q,hq,e⟩];exact fO
theorem jR {p:Pic}(c:ao p)(x y:Int):Mem (bh p y) x↔az p x y:=by
 constructor
 ·intro h;by_cases k:∃q∈p,q.1=y
  ·obtain⟨q,hq,rfl⟩:=k;rw[lR c hq] at h;exact⟨q,hq,rfl,h⟩
  ·rw[kf fun q hq e=>k ⟨q,hq,e⟩] at h;exact (aW _ h).elim
 ·rintro⟨q,hq,rfl,h⟩;rw[lR c hq];exact h
theorem sf (p:Pic)(y:Int)(c:ao p)(h:p.length<=100000):gx [am p,.int y]=some (bI (bh p y)):=by
 obtain⟨n,h1,h2,h3⟩:=fU p (·.1) pyD y (fun a=>by simp) h c.2;by_cases hn:n=0
 ·subst hn;have e:bh p y=[]:=kf fun q hq e=>by
   obtain⟨j,ej⟩:=UB hq;exact absurd ((h3 j q ej).mp (by lia)) (Nat.not_lt_zero _)
  simp at h2;simp[gx,jO,fnO,jI,h2,e]
 ·obtain⟨q,hq⟩:∃q,p[n-1]?=some q:=⟨_,Uf (by lia)⟩
  have en:(n:Int)-1=((n-1:Nat):Int):=by lia
  have ea:atI (p.map pyD) ((n:Int)-1)=some (pyD q):=by rw[en];exact eM (by rw[TW,hq];rfl)
  have hn':(0:Int)<n:=by lia
  have hn2:0<n:=by lia
  by_cases hy:q.1=y
  ·have e:bh p y=q.2:=by rw[<- hy];exact lR c (Vl hq)
   simp[gx,jO,fnO,jI,h2,hn,hn',hn2,ea,hy,e]
  ·have e:bh p y=[]:=kf fun s hs e=>by
    obtain⟨j,ej⟩:=UB hs;have hj:=(h3 j s ej).mp (by lia);by_cases z:j=n-1
    ·subst z;rw[hq] at ej;cases ej;exact hy e
    ·obtain⟨l1,e1⟩:=TR.mp ej;obtain⟨l2,e2⟩:=TR.mp hq;have:=UW.mp c.2 j (n-1) l1 l2 (by lia);rw[e1,e2] at this;have:=(h3 _ _ hq).mpr (by lia);lia
   simp[gx,jO,fnO,jI,h2,hn,hn',hn2,ea,hy,e]
theorem kA (r t:R)(h:r.length+t.length<=30000):fy [bI r,bI t]=some (bI (dc r t)):=by
 have hlen:=ue _ r t rfl;have key:∃ρ',dg cE bC [.sh (bI r),.sh (bI t),.ow (.lst []),.sh (.int 0),.sh (.int 0),.un,.un]=some (.nx ρ')/\∃v3 v4 v5 v6,ρ'=[.sh (bI r),.sh (bI t),owl ((dc r t).map prD),v3,v4,v5,v6]:=by
  refine ko (fun ρ=>∃(acc:R) (i j:Nat) (v5 v6:Sl),ρ=[.sh (bI r),.sh (bI t),owl (acc.map prD),.sh (.int i),.sh (.int j),v5,v6]/\i<=r.length/\j<=t.length/\acc++dc (r.drop i) (t.drop j)=dc r t)
   (fun ρ=>match ρ with|[_,_,_,.sh (.int i),.sh (.int j),_,_]=>(r.length+t.length-i-j).toNat|_=>0) _ ?_ _ ⟨[],0,0,.un,.un,rfl,T2 _,T2 _,rfl⟩
  rintro _ ⟨acc,i,j,v5,v6,rfl,hi,hj,e⟩;have hacc:acc.length<=30000:=by have:=TQ List.length e;rw[Tu] at this;lia
  have hlim:acc.length<LIM:=ci (by lia);cases qi:r[i]? with
  |none=>
   have hi':i=r.length:=by have:=VG.mp qi;lia
   subst hi';rw[Vb (Tw _),d9,Ue] at e;subst e;exact .inl ⟨by simp[cE],_,_,_,_,rfl⟩
  |some p=>
   have hi':=(TR.mp qi).1;have ei:(i:Int)<r.length:=by lia
   cases qj:t[j]? with
   |none=>
    have hj':j=t.length:=by have:=VG.mp qj;lia
    subst hj';rw[Vb (Tw _),dG,Ue] at e;subst e;exact .inl ⟨by simp[cE,ei],_,_,_,_,rfl⟩
   |some q=>
    have hj':=(TR.mp qj).1;have ej:(j:Int)<t.length:=by lia
    have a1:=LN qi;have a2:=LN qj;rw[g8 qi,g8 qj,EW] at e;refine .inr ⟨by simp[cE,ei,ej],?_⟩;by_cases c1:max p.1 q.1<=min p.2 q.2
    ·rw[Tn c1] at e;by_cases c2:p.2<q.2
     ·rw[Tn c2,<- g8 qj] at e;exact⟨[.sh (bI r),.sh (bI t),owl ((acc++[(max p.1 q.1,min p.2 q.2)]).map prD),.sh (.int ((i+1:Nat):Int)),.sh (.int j),.sh (.int (max p.1 q.1)),.sh (.int (min p.2 q.2))],by simp[bC,a1,a2,mx,mn,c1,c2,hlim],⟨_,i+1,j,_,_,rfl,hi',hj,by rw[T8];exact e⟩,by dsimp only;lia⟩
     ·rw[To c2,<- g8 qi] at e;exact⟨[.sh (bI r),.sh (bI t),owl ((acc++[(max p.1 q.1,min p.2 q.2)]).map prD),.sh (.int i),.sh (.int ((j+1:Nat):Int)),.sh (.int (max p.1 q.1)),.sh (.int (min p.2 q.2))],by simp[bC,a1,a2,mx,mn,c1,c2,hlim],⟨_,i,j+1,_,_,rfl,hi,hj',by rw[T8];exact e⟩,by dsimp only;lia⟩
    ·rw[To c1,VH] at e;by_cases c2:p.2<q.2
     ·rw[Tn c2,<- g8 qj] at e;exact⟨[.sh (bI r),.sh (bI t),owl (acc.map prD),.sh (.int ((i+1:Nat):Int)),.sh (.int j),.sh (.int (max p.1 q.1)),.sh (.int (min p.2 q.2))],by simp[bC,a1,a2,mx,mn,c1,c2,hlim],⟨_,i+1,j,_,_,rfl,hi',hj,e⟩,by dsimp only;lia⟩
     ·rw[To c2,<- g8 qi] at e;exact⟨[.sh (bI r),.sh (bI t),owl (acc.map prD),.sh (.int i),.sh (.int ((j+1:Nat):Int)),.sh (.int (max p.1 q.1)),.sh (.int (min p.2 q.2))],by simp[bC,a1,a2,mx,mn,c1,c2,hlim],⟨_,i,j+1,_,_,rfl,hi,hj',e⟩,by dsimp only;lia⟩
 obtain⟨ρ',k1,v3,v4,v5,v6,rfl⟩:=key;simp[fy,jy,fnO,gP,k1]
theorem sK (r t:R)(h:r.length+t.length<10000):j9 [bI r,bI t]=some (bI (lg r t)):=by
 have hl:r.length+t.length<=LIM:=aC (by lia);have hl2:(r++t).length<=LIM:=by rw[Tu];exact hl
 have c1:a6 (aF (aj (af 0) (aj (af 1) aE))) bw (ak 0) [.un,.un] ((r++t).map prD)=some ((r++t).map fun p=>.int p.1):=aN prD _ _ fun p _=>by simp[cU]
 have c2:a6 (aF (aj (af 0) (aj (af 1) aE))) bw (xOp aP (ag 1) (xC (.int 1))) [.un,.un] ((r++t).map prD)=some ((r++t).map fun p=>.int (p.2+1)):=aN prD _ _ fun p _=>by simp[cU]
 have ec:((r++t).map fun p=>D.int p.1)++((r++t).map fun p=>D.int (p.2+1))=(chg (r++t)).map D.int:=by unfold chg;rw[T7 (f:=D.int),TU,TU];rfl
 have hcl:=DA (r++t);rw[Tu] at hcl;have hsl:(iR (chg (r++t))).length=2 * (r.length+t.length):=by rw[(f6 _).length_eq,hcl]
 have hb:=yL (chg (r++t)) (by lia);have c3:=Cq (r.length+t.length) (iR (chg (r++t))) hsl;have hro:=lH (gE (iR (chg (r++t)))) (by rw[n4 _ _ hsl];lia);have hsum:r.length+t.length+(r.length+t.length)<=LIM:=aC (by lia);have hrng:Eh [.int 0,.int ((2 * (r.length+t.length):Nat):Int),.int 2]=some (fg 0 (r.length+t.length)):=by rw[Os (by lia)];congr 2;lia
 have hel:(fg 0 (r.length+t.length)).length<=LIM:=by rw[nD];exact hl
 rw[<- ec] at hb;rw[<- hsl] at hrng;simp only[T7,T8] at c1 c2 hb;simp[j9,jz,fnO,gQ,Dq,Dp,hl,c1,c2,hsum,hb,hrng,hel,c3,hro,lg]
theorem wx (r t:R)(h:2 * r.length+t.length<10000):ka [bI r,bI t]=some (bI (nM r t)):=by have h1:=kA r t (by lia);have h2:=sK r (dc r t) (by have:=ue _ r t rfl;lia);simp[ka,lL,fnO,jX,h1,h2,nM]
noncomputable def gW (q:Int×R):Bool:=!decide (q.2=[])
theorem yX:∀l:Pic,l.filterMap (fun q=>if q.2=[] then none else some (pyD q))=(l.filter gW).map pyD
 |[]=>rfl
 |q::l=>by
  by_cases h:q.2=[]
  ·simp[h,gW,<- yX l]
  ·simp[h,gW,<- yX l]
theorem bU (l:Pic)(h:l.length<=30000):a7 [.lst (l.map pyD)]=some (am (l.filter gW)):=by
 have hl:l.length<=LIM:=aC (by lia);have hf:=UJ gW l;have hl2:(l.filter gW).length<=LIM:=aC (by lia);have hc:a6 (aF (aj (af 0) (aj (af 1) aE))) (xB (xOp (dEq true) (ag 1) (aJ ai))) (aJ (ad (ak 0) (ad (ak 1) ai))) [.un,.un] (l.map pyD)=some ((l.filter gW).map pyD):=by
  rw[iu pyD (fun q=>if q.2=[] then none else some (pyD q)) l,yX];intro q _;have d:dEq true (bI q.2) (.tup [])=some (.bl (!decide (q.2=[]))):=Ki true q.2 [];by_cases hq:q.2=[]
  ·simp[hq] at d;simp[cU,hq,d]
  ·simp[hq] at d;simp[cU,hq,d]
 simp[a7,eP,fnO,di,hl,hc,hl2]
noncomputable def rP (f:R->R->R)(p q:Pic):Pic:=(p.map fun s=>(s.1,f s.2 (bh q s.1))).filter gW
noncomputable def cmP (p q:Pic):Pic:=rP dc p q
noncomputable def leP (p q:Pic):Pic:=rP nM p q
noncomputable def joP (p q:Pic):Pic:=fL (ah p++ah q)
theorem rQ {f:R->R->R}{p q:Pic}(cp:ao p)(h:∀s∈p,aR (f s.2 (bh q s.1))):ao (rP f p q):=by
 refine⟨fun s hs=>?_,?_⟩
 ·obtain⟨h1,h2⟩:=T4.mp hs;obtain⟨z,hz,rfl⟩:=Ty.mp h1;exact⟨h z hz,by simpa[gW] using h2⟩
 ·refine WF _ ?_;rw[Um];exact cp.2
theorem xr {f:R->R->R}{p q:Pic}(x y:Int):az (rP f p q) x y↔∃s∈p,s.1=y/\Mem (f s.2 (bh q s.1)) x:=by
 constructor
 ·rintro⟨s,hs,h1,h2⟩;obtain⟨z,hz,rfl⟩:=Ty.mp (T4.mp hs).1;exact⟨z,hz,h1,h2⟩
 ·rintro⟨z,hz,h1,h2⟩;refine⟨(z.1,f z.2 (bh q z.1)),T4.mpr ⟨Ty.mpr ⟨z,hz,rfl⟩,?_⟩,h1,h2⟩;unfold gW;rw[Bool.not_eq_true',WG];intro e;dsimp only at e;rw[e] at h2;exact aW _ h2
theorem xx {p q:Pic}(cp:ao p)(cq:ao q):ao (cmP p q):=rQ cp fun s hs=>(jK (cp.1 s hs).1 (dQ cq _)).1
theorem jL {p q:Pic}(cp:ao p)(cq:ao q):ao (leP p q):=rQ cp fun s hs=>(qI (cp.1 s hs).1 (dQ cq _)).1
theorem xP (p q:Pic):ao (joP p q):=(fE _).1
theorem DC {p q:Pic}(cp:ao p)(cq:ao q)(x y:Int):az (cmP p q) x y↔az p x y/\az q x y:=by
 unfold cmP;rw[xr];constructor
 ·rintro⟨s,hs,rfl,h2⟩;rw[(jK (cp.1 s hs).1 (dQ cq _)).2,jR cq] at h2;exact⟨⟨s,hs,rfl,h2.1⟩,h2.2⟩
 ·rintro⟨⟨s,hs,rfl,h1⟩,h2⟩;exact⟨s,hs,rfl,by rw[(jK (cp.1 s hs).1 (dQ cq _)).2,jR cq];exact⟨h1,h2⟩⟩
theorem zb {p q:Pic}(cp:ao p)(cq:ao q)(x y:Int):az (leP p q) x y↔az p x y/\¬az q x y:=by
 unfold leP;rw[xr];constructor
 ·rintro⟨s,hs,rfl,h2⟩;rw[(qI (cp.1 s hs).1 (dQ cq _)).2,jR cq] at h2;exact⟨⟨s,hs,rfl,h2.1⟩,h2.2⟩
 ·rintro⟨⟨s,hs,rfl,h1⟩,h2⟩;exact⟨s,hs,rfl,by rw[(qI (cp.1 s hs).1 (dQ cq _)).2,jR cq];exact⟨h1,h2⟩⟩
theorem DT (p q:Pic)(x y:Int):az (joP p q) x y↔az p x y\/az q x y:=by unfold joP;rw[(fE _).2,eV,iW,iW]
theorem m9 {p:Pic}(y:Int):(bh p y).length<=(ah p).length:=by
 unfold bh;cases h:p.find? fun q=>decide (q.1=y) with
 |none=>exact T2 _
 |some q=>exact bZ (List.mem_of_find?_eq_some h)
theorem xW (p q:Pic)(h:(ah p).length+(ah q).length<30000):uO [am p,am q]=some (am (joP p q)):=by have h1:=bV p (by lia);have h2:=bV q (by lia);have hl:(ah p).length+(ah q).length<=LIM:=aC (by lia);have hm:=gC (ah p++ah q) (by rw[Tu];exact h);rw[T7] at hm;simp[uO,zg,fnO,yH,h1,h2,Dp,hl,hm,joP]
theorem se {p q:Pic}(cq:ao q)(h1:p.length<=30000)(h2:q.length<=30000)(h:(ah p).length+(ah q).length<=30000):pj [am p,am q]=some (am (cmP p q)):=by
 have hl:p.length<=LIM:=aC (by lia);have hc:a6 (aF (aj (af 0) (aj (af 1) aE))) bw (aJ (ad (ak 0) (ad (av fy (ad (ak 1) (ad (av gx (ad (ak 2) (ad (ak 0) ai))) ai))) ai))) [.un,.un,.sh (am q)] (p.map pyD)=some ((p.map fun s=>(s.1,dc s.2 (bh q s.1))).map pyD):=by
  rw[TU];exact aN pyD (fun s=>pyD (s.1,dc s.2 (bh q s.1))) p fun s hs=>by have a1:=sf q s.1 cq (by lia);have a2:=kA s.2 (bh q s.1) (by have:=bZ hs;have:=m9 (p:=q) s.1;lia);simp[cU,a1,a2]
 have hm:=bU (p.map fun s=>(s.1,dc s.2 (bh q s.1))) (by rw[Tt];exact h1);rw[TU] at hm hc;simp[pj,qV,fnO,oU,hl,hc,hm,cmP,rP]
theorem xX {p q:Pic}(cq:ao q)(h1:p.length<=30000)(h2:q.length<=30000)(h:2 * (ah p).length+(ah q).length<10000):qM [am p,am q]=some (am (leP p q)):=by
 have hl:p.length<=LIM:=aC (by lia);have hc:a6 (aF (aj (af 0) (aj (af 1) aE))) bw (aJ (ad (ak 0) (ad (av ka (ad (ak 1) (ad (av gx (ad (ak 2) (ad (ak 0) ai))) ai))) ai))) [.un,.un,.sh (am q)] (p.map pyD)=some ((p.map fun s=>(s.1,nM s.2 (bh q s.1))).map pyD):=by
  rw[TU];exact aN pyD (fun s=>pyD (s.1,nM s.2 (bh q s.1))) p fun s hs=>by have a1:=sf q s.1 cq (by lia);have a2:=wx s.2 (bh q s.1) (by have:=bZ hs;have:=m9 (p:=q) s.1;lia);simp[cU,a1,a2]
 have hm:=bU (p.map fun s=>(s.1,nM s.2 (bh q s.1))) (by rw[Tt];exact h1);rw[TU] at hm hc;simp[qM,zh,fnO,yI,hl,hc,hm,leP,rP]
theorem fI:∀p:Pic,ah (p.filter gW)=ah p
 |[]=>rfl
 |q::p=>by
  rw[WD];by_cases h:q.2=[]
  ·have:gW q=false:=by simp[gW,h]
   rw[this,aZ,h];exact fI p
  ·have:gW q=true:=by simp[gW,h]
   rw[this,Tn rfl,aZ,aZ,fI p]
theorem uT (r:R)(by':Int)(h:r.length<=30000):jh [bI r,.int by']=some (bI (nl r by' by')):=by
 have hl:r.length<=LIM:=aC (by lia);have hc:a6 (aF (aj (af 0) (aj (af 1) aE))) bw (aJ (ad (xOp aP (ag 0) (ag 2)) (ad (xOp aP (ag 1) (ag 2)) ai))) [.un,.un,.sh (.int by')] (r.map prD)=some (r.map fun p=>prD (p.1+by',p.2+by')):=aN prD _ r fun p _=>by simp[cU]
 simp[jh,kc,fnO,i9,hl,hc,nl]
noncomputable def mvP (p:Pic)(dx dy:Int):Pic:=p.map fun q=>(q.1+dy,nl q.2 dx dx)
theorem uR (p:Pic)(dx dy:Int)(h:p.length<=30000)(hr:∀q∈p,q.2.length<=30000):tD [am p,.int dx,.int dy]=some (am (mvP p dx dy)):=by
 have hl:p.length<=LIM:=aC (by lia);have hc:a6 (aF (aj (af 0) (aj (af 1) aE))) bw (aJ (ad (xOp aP (ag 0) (ag 2)) (ad (av jh (ad (ak 1) (ad (ak 3) ai))) ai))) [.un,.un,.sh (.int dy),.sh (.int dx)] (p.map pyD)=some (p.map fun q=>pyD (q.1+dy,nl q.2 dx dx)):=aN pyD _ p fun q hq=>by have:=uT q.2 dx (hr q hq);simp[cU,this]
 simp[tD,u0,fnO,tj,hl,hc,mvP]
theorem BG {r:R}(c:aR r)(d:Int):aR (nl r d d):=by refine⟨Jr c.1 (TN _),?_⟩;unfold nl;rw[Um];exact c.2.imp fun {p q} h=>by dsimp only;lia
theorem HU (r:R)(d x:Int):Mem (nl r d d) x↔Mem r (x-d):=by
 rw[Fy];constructor
 ·rintro⟨p,hp,h1,h2⟩;exact⟨p,hp,by lia,by lia⟩
 ·rintro⟨p,hp,h1,h2⟩;exact⟨p,hp,by lia,by lia⟩
theorem FF {p:Pic}(c:ao p)(dx dy:Int):ao (mvP p dx dy):=by
 refine⟨fun q hq=>?_,?_⟩
 ·obtain⟨s,hs,rfl⟩:=Ty.mp hq;obtain⟨h1,h2⟩:=c.1 s hs;refine⟨BG h1 dx,fun e=>h2 ?_⟩;exact List.map_eq_nil_iff.mp e
 ·unfold mvP;rw[Um];exact c.2.imp fun {a b} h=>by dsimp only;lia
theorem D7 (p:Pic)(dx dy x y:Int):az (mvP p dx dy) x y↔az p (x-dx) (y-dy):=by
 constructor
 ·rintro⟨q,hq,h1,h2⟩;obtain⟨s,hs,rfl⟩:=Ty.mp hq;dsimp only at h1 h2;exact⟨s,hs,by lia,(HU _ _ _).mp h2⟩
 ·rintro⟨s,hs,h1,h2⟩;exact⟨_,Ty.mpr ⟨s,hs,rfl⟩,by dsimp only;lia,(HU _ _ _).mpr h2⟩
noncomputable abbrev Blk:=Int×Int×Int×Int
noncomputable abbrev bL (b:Blk):D:=.tup [.int b.1,.int b.2.1,.int b.2.2.1,.int b.2.2.2]
def jV (b:Blk)(dx dy:Int):Prop:=b.1<=dx/\dx<=b.2.2.1/\b.2.1<=dy/\dy<=b.2.2.2
def BOk (b:Blk):Prop:=b.1<=b.2.2.1/\b.2.1<=b.2.2.2
theorem Ib (p:Pic)(dx dy:Int):(ah (mvP p dx dy)).length=(ah p).length:=by unfold mvP ah;rw[Wn,Wn,TU];congr 1;apply VL;intro q _;simp[nl]
theorem jP (ts:List Tri):(ah (fL ts)).length<=ts.length:=by
 have o:=lY ts;have h1:∀gs:Pic,(ah (gs.map fun g=>(g.1,kF g.2))).length<=(gs.map fun g=>g.2.length).sum:=by
  intro gs;induction gs with
  |nil=>simp[ah]
  |cons g gs ih=>have:=yl g.2;rw[TF,aZ,Tu,Tt,TF,UF];dsimp only;lia
 have h2:=h1 (eg (cM (ts.filter cL)));have h3:=o.len;have h4:=(dU (ts.filter cL)).length_eq;have h5:=UJ cL ts;have h6:ah (fL ts)=ah ((eg (cM (ts.filter cL))).map fun g=>(g.1,kF g.2)):=rfl;rw[h6];lia
theorem kg {p:Pic}(c:ao p):p.length<=(ah p).length:=by
 induction p with
 |nil=>exact Tw _
 |cons q p ih=>obtain⟨⟨_,h1⟩,_,h2⟩:=pcanon_cons.mp c;have:=ih h2;have:=List.length_pos_iff.mpr h1;rw[aZ,Tu,Tt,Tz];lia
theorem zK {p:Pic}(c:ao p):∀t∈ah p,t.2.1<=t.2.2:=by intro t ht;obtain⟨q,hq,h⟩:=Vr.mp ht;obtain⟨s,hs,rfl⟩:=Ty.mp h;exact (c.1 q hq).1.1 s hs
theorem MY (p q:Pic):(ah (joP p q)).length<=(ah p).length+(ah q).length:=by have:=jP (ah p++ah q);rwa[Tu] at this
theorem qP (p:Pic)(c:ao p)(n:Nat)(hs:(2 * n+1) * (ah p).length<=10000):∃q:Pic,gj [am p,.int (n:Int)]=some (am q)/\ao q/\(ah q).length<=(2 * n+1) * (ah p).length/\∀x y,az q x y↔∃j:Int,0<=j/\j<=n/\az p x (y-j):=by
 obtain⟨ρ',k1,q,v2,v3,rfl,a1,a3,a4⟩:=ko (c:=c6) (m:=eE)
  (fun ρ=>∃(q:Pic) (k:Nat) (v3:Sl),ρ=[.sh (am q),.sh (.int (n:Int)),.sh (.int (k:Int)),v3]/\k<=n/\ao q/\((ah q).length<=(k+1) * (ah p).length\/(k=n/\(ah q).length<=(2 * n+1) * (ah p).length))/\∀x y,az q x y↔∃j:Int,0<=j/\j<=k/\az p x (y-j))
  (fun ρ=>match ρ with|[_,.sh (.int n),.sh (.int k),_]=>(n-k).toNat|_=>0)
  (fun ρ=>∃(q:Pic) (v2 v3:Sl),ρ=[.sh (am q),.sh (.int (n:Int)),v2,v3]/\ao q/\(ah q).length<=(2 * n+1) * (ah p).length/\∀x y,az q x y↔∃j:Int,0<=j/\j<=n/\az p x (y-j))
  (by
   rintro _ ⟨q,k,v3,rfl,hk,c',hsz,hm⟩;by_cases hc:k<n
   ·right;have hc':(k:Int)<n:=by lia
    refine⟨by simp[c6,hc'],?_⟩;have hsz':(ah q).length<=(k+1) * (ah p).length:=hsz.elim id fun h=>by lia
    generalize hst:(if (n:Int)-k<(k:Int)+1 then (n:Int)-k else (k:Int)+1)=st;have hst1:1<=st/\st<=k+1/\st<=n-k/\(st=k+1\/st=n-k):=by rw[<- hst];split<;>lia
    have e1:(k+1) * (ah p).length<=(2 * n+1) * (ah p).length:=U1 _ (by lia);have lq:(ah q).length<=10000:=by lia
    have rq:=kg c';have mv:=uR q 0 st (by lia) fun z hz=>by have:=bZ hz;lia
    have smv:=Ib q 0 st;have jo:=xW q (mvP q 0 st) (by lia);have sjo:=MY q (mvP q 0 st);have ek:(((k+st.toNat:Nat)):Int)=(k:Int)+st:=by lia
    refine⟨[.sh (am (joP q (mvP q 0 st))),.sh (.int (n:Int)),.sh (.int ((k+st.toNat:Nat):Int)),.sh (.int st)],?_,⟨joP q (mvP q 0 st),k+st.toNat,_,rfl,by lia,xP _ _,?_,fun x y=>?_⟩,by dsimp only;lia⟩
    ·rw[ek];simp[eE,hst,mv,jo]
    ·rcases hst1.2.2.2 with e|e
     ·left;have e2:(k+st.toNat+1) * (ah p).length=(k+1) * (ah p).length+(k+1) * (ah p).length:=by
       rw[<- UG];congr 1;lia
      lia
     ·right;have e2:(k+1) * (ah p).length+(k+1) * (ah p).length<=(2 * n+1) * (ah p).length:=by
       rw[<- UG];exact U1 _ (by lia)
      exact⟨by lia,by lia⟩
    ·rw[DT,D7,hm,hm,show x-0=x by lia];constructor
     ·rintro (⟨j,j0,j1,g⟩|⟨j,j0,j1,g⟩)
      ·exact⟨j,j0,by lia,g⟩
      ·exact⟨st+j,by lia,by lia,by rwa[show y-(st+j)=y-st-j by lia]⟩
     ·rintro⟨j,j0,j1,g⟩;by_cases hj:j<=k
      ·exact .inl ⟨j,j0,hj,g⟩
      ·exact .inr ⟨j-st,by lia,by lia,by rwa[show y-st-(j-st)=y-j by lia]⟩
   ·left;have ek:k=n:=by lia
    subst ek;refine⟨by simp[c6],q,_,_,rfl,c',?_,hm⟩;rcases hsz with h|h
    ·have:(k+1) * (ah p).length<=(2 * k+1) * (ah p).length:=U1 _ (by lia);lia
    ·exact h.2)
  [.sh (am p),.sh (.int (n:Int)),.sh (.int 0),.un] ⟨p,0,.un,rfl,by lia,c,.inl (by lia),fun x y=>⟨fun h=>⟨0,by lia,by lia,by rwa[show y-0=y by lia]⟩,fun⟨j,j0,j1,h⟩=>by rwa[show y-j=y by lia] at h⟩⟩
 exact⟨q,by simp[gj,iK,fnO,gd,k1],a1,a3,a4⟩
noncomputable def eW (b:Blk)(t:Tri):Tri:=(t.1+b.2.1,t.2.1+b.1,t.2.2+b.2.2.1)
theorem vS {p:Pic}(c:ao p){b:Blk}(hb:b.1<=b.2.2.1)(x y:Int):iY ((ah p).map (eW b)) x y↔∃dx,b.1<=dx/\dx<=b.2.2.1/\az p (x-dx) (y-b.2.1):=by
 constructor
 ·rintro⟨_,ht0,h1,h2,h3⟩;obtain⟨t,ht,rfl⟩:=Ty.mp ht0;have ok:=zK c t ht;simp only[eW] at h1 h2 h3;refine⟨max b.1 (x-t.2.2),by lia,by lia,?_⟩;exact (iW _ _ _).mp ⟨t,ht,by lia,by lia,by lia⟩
 ·rintro⟨dx,d1,d2,h⟩;obtain⟨t,ht,h1,h2,h3⟩:=(iW _ _ _).mpr h;exact⟨_,Ty.mpr ⟨t,ht,rfl⟩,by simp only[eW];lia,by simp only[eW];lia,by simp only[eW];lia⟩
def GrB (p:Pic)(b:Blk)(x y:Int):Prop:=∃dx dy,jV b dx dy/\az p (x-dx) (y-dy)
theorem kP (p:Pic)(c:ao p)(b:Blk)(hb:BOk b)(n:Nat)(hn:b.2.2.2-b.2.1=n)(hs:(2 * n+1) * (ah p).length<=10000):∃ts:List Tri,cR [am p,bL b]=some (.lst (ts.map b5))/\(∀t∈ts,t.2.1<=t.2.2)/\ts.length<=(2 * n+1) * (ah p).length/\∀x y,iY ts x y↔GrB p b x y:=by
 have e1:(ah p).length<=(2 * n+1) * (ah p).length:=Nat.le_mul_of_pos_left _ (by lia);have hl:(ah p).length<=LIM:=aC (by lia);have h1:=bV p (by lia);have hc:a6 (aF (aj (af 0) (aj (af 1) (aj (af 2) aE)))) bw (aJ (ad (xOp aP (ag 0) (xOp dIx (ag 3) (xC (.int 1)))) (ad (xOp aP (ag 1) (xOp dIx (ag 3) (xC (.int 0)))) (ad (xOp aP (ag 2) (xOp dIx (ag 3) (xC (.int 2)))) ai)))) [.un,.un,.un,.sh (bL b)] ((ah p).map b5)=some (((ah p).map (eW b)).map b5):=by rw[TU];exact aN b5 (b5∘eW b) (ah p) fun q hq=>by simp[cU,atI,ixN,eW]
 have hw:∀t∈(ah p).map (eW b),t.2.1<=t.2.2:=by intro t ht;obtain⟨s,hs,rfl⟩:=Ty.mp ht;have:=zK c s hs;have:=hb.1;simp only[eW];lia
 by_cases h0:b.2.1=b.2.2.2
 ·refine⟨(ah p).map (eW b),?_,hw,by rw[Tt];exact e1,fun x y=>?_⟩
  ·generalize ((ah p).map (eW b)).map b5=zs at hc;simp[cR,cu,fnO,bD,h1,hl,hc,atI,ixN,h0]
  ·rw[vS c hb.1];constructor
   ·rintro⟨dx,d1,d2,h⟩;exact⟨dx,b.2.1,⟨d1,d2,by lia,by lia⟩,h⟩
   ·rintro⟨dx,dy,⟨d1,d2,d3,d4⟩,h⟩;refine⟨dx,d1,d2,?_⟩;rwa[show b.2.1=dy by lia]
 ·have lw:(ah (fL ((ah p).map (eW b)))).length<=(ah p).length:=by
   have:=jP ((ah p).map (eW b));rwa[Tt] at this
  have e2:(2 * n+1) * (ah (fL ((ah p).map (eW b)))).length<=(2 * n+1) * (ah p).length:=VM _ lw;obtain⟨q,a1,a2,a3,a4⟩:=qP (fL ((ah p).map (eW b))) (fE _).1 n (by lia);have hp:=gC ((ah p).map (eW b)) (by rw[Tt];lia);have h2:=bV q (by lia);have a1':gj [am (fL ((ah p).map (eW b))),.int (b.2.2.2-b.2.1)]=some (am q):=by rw[hn];exact a1
  refine⟨ah q,?_,zK a2,by lia,fun x y=>?_⟩
  ·generalize fL ((ah p).map (eW b))=w at hp a1';generalize ((ah p).map (eW b)).map b5=zs at hc hp;simp[cR,cu,fnO,bD,h1,hl,hc,atI,ixN,h0,hp,a1',h2]
  ·rw[iW,a4];constructor
   ·rintro⟨j,j0,j1,h⟩;rw[(fE _).2,vS c hb.1] at h;obtain⟨dx,d1,d2,h⟩:=h;exact⟨dx,b.2.1+j,⟨d1,d2,by lia,by lia⟩,by rwa[show y-(b.2.1+j)=y-j-b.2.1 by lia]⟩
   ·rintro⟨dx,dy,⟨d1,d2,d3,d4⟩,h⟩;refine⟨dy-b.2.1,by lia,by lia,?_⟩;rw[(fE _).2,vS c hb.1];exact⟨dx,d1,d2,by rwa[show y-(dy-b.2.1)-b.2.1=y-dy by lia]⟩
noncomputable def high (b:Blk):Nat:=2 * (b.2.2.2-b.2.1).toNat+1
noncomputable def aM (bs:List Blk):Nat:=(bs.map high).sum
def GrP (p:Pic)(bs:List Blk)(x y:Int):Prop:=∃b∈bs,GrB p b x y
theorem bS (as bs:List Blk):aM (as++bs)=aM as+aM bs:=by unfold aM;rw[T7,V5]
theorem lG (p:Pic)(c:ao p)(bs:List Blk)(hb:∀b∈bs,BOk b)(hs:aM bs * (ah p).length<=10000):∃q:Pic,ft [am p,.tup (bs.map bL)]=some (am q)/\ao q/\(ah q).length<=aM bs * (ah p).length/\∀x y,az q x y↔GrP p bs x y:=by
 obtain⟨ρ',k1,ts,v3,rfl,b1,b2⟩:=aS (g:=af 3) (m:=b9) bL (fun pre ρ=>∃(ts:List Tri) (v3:Sl),ρ=[.sh (am p),.sh (.tup (bs.map bL)),.ow (.lst (ts.map (O.sh∘b5))),v3]/\ts.length<=aM pre * (ah p).length/\∀x y,iY ts x y↔GrP p pre x y) bs [.sh (am p),.sh (.tup (bs.map bL)),.ow (.lst []),.un] ⟨[],_,rfl,by simp[aM],fun x y=>⟨fun⟨_,h,_⟩=>(by cases h),fun⟨_,h,_⟩=>(by cases h)⟩⟩ (by
  rintro pre b post _ e ⟨ts,v3,rfl,l1,l2⟩;have hbb:=hb b (by rw[e];simp);have hh:aM pre+high b<=aM bs:=by rw[e,bS];have:aM (b::post)=high b+aM post:=rfl;lia
  have hh2:(aM pre+high b) * (ah p).length<=aM bs * (ah p).length:=U1 _ hh;rw[UG] at hh2;obtain⟨us,c1,c2,c3,c4⟩:=kP p c b hbb (b.2.2.2-b.2.1).toNat (by have:=hbb.2;lia) (by show high b * _<=_;lia);have c3':us.length<=high b * (ah p).length:=c3;have hl:ts.length+us.length<=LIM:=aC (by lia);refine⟨_,[.sh (am p),.sh (.tup (bs.map bL)),.ow (.lst ((ts++us).map (O.sh∘b5))),.sh (bL b)],rfl,.inl ?_,ts++us,_,rfl,?_,fun x y=>?_⟩
  ·simp[b9,c1,hl]
  ·rw[Tu,bS,UG];have:aM [b]=high b:=by simp[aM]
   rw[this];lia
  ·rw[eV,l2,c4];unfold GrP;simp only[TB,Ts];constructor
   ·rintro (⟨z,hz,h⟩|h)
    ·exact⟨z,.inl hz,h⟩
    ·exact⟨b,.inr rfl,h⟩
   ·rintro⟨z,hz|rfl,h⟩
    ·exact .inl ⟨z,hz,h⟩
    ·exact .inr h)
 have hp:=gC ts (by lia);have hl:=jP ts;refine⟨fL ts,?_,(fE _).1,by lia,fun x y=>by rw[(fE _).2,b2]⟩;simp[ft,eO,fnO,dh,k1,hp,frz]
noncomputable def t8 (acc:List Blk)(t:Tri):List Blk:=match acc.getLast? with
 |some l=>if l.1=t.1/\l.2.2.1=t.2.1/\l.2.2.2=t.2.2-1 then acc.dropLast++[(t.1,l.2.1,t.2.1,t.2.2)] else acc++[(t.1,t.2.2,t.2.1,t.2.2)]
 |none=>[(t.1,t.2.2,t.2.1,t.2.2)]
theorem EJ (t:Tri):t8 [] t=[(t.1,t.2.2,t.2.1,t.2.2)]:=rfl
theorem t9 (acc:List Blk)(l:Blk)(t:Tri):t8 (acc++[l]) t=if l.1=t.1/\l.2.2.1=t.2.1/\l.2.2.2=t.2.2-1 then acc++[(t.1,l.2.1,t.2.1,t.2.2)] else acc++[l]++[(t.1,t.2.2,t.2.1,t.2.2)]:=by unfold t8;rw[List.getLast?_append];simp
noncomputable def sw (ts:List Tri):List Blk:=ts.foldl t8 []
theorem xp (pre:List Tri)(t:Tri):sw (pre++[t])=t8 (sw pre) t:=by unfold sw;rw[Wm];rfl
theorem Kh (b c:Blk):dEq false (bL b) (bL c)=some (.bl (decide (b=c))):=by
 have h:∀b:Blk,okD 50 (bL b)=true:=fun b=>by simp[okD,okDs]
 unfold dEq;rw[Tn ⟨h b,h c⟩];obtain⟨b1,b2,b3,b4⟩:=b;obtain⟨c1,c2,c3,c4⟩:=c;simp[eqD,eqDs,Prod.ext_iff];by_cases h1:b1=c1<;>by_cases h2:b2=c2<;>by_cases h3:b3=c3<;>by_cases h4:b4=c4<;>simp[h1,h2,h3,h4]
theorem MA (l:Blk)(a b y:Int):l=(a,l.2.1,b,y)↔l.1=a/\l.2.2.1=b/\l.2.2.2=y:=by obtain⟨b1,b2,b3,b4⟩:=l;simp[Prod.ext_iff]
theorem An (s0:Sl)(acc:List Blk)(t:Tri)(h:acc.length<=30000):bj [s0,owl (acc.map bL),.sh (.int t.1),.sh (.int t.2.1),.sh (.int t.2.2)]=some (.nx [s0,owl ((t8 acc t).map bL),.sh (.int t.1),.sh (.int t.2.1),.sh (.int t.2.2)]):=by
 rcases Uh acc with rfl|⟨r,l,rfl⟩
 ·simp[bj,EJ]
 ·rw[Uo] at *;rw[t9];have hl:r.length+1<=30000:=by simpa using h
  have hlim:r.length+1<LIM:=ci (by lia);have at1:atI (r.map bL++[bL l]) (-1)=some (bL l):=gu _ _;have ix1:atI [D.int l.1,.int l.2.1,.int l.2.2.1,.int l.2.2.2] 1=some (.int l.2.1):=by simp[atI,ixN]
  have de:=Kh l (t.1,l.2.1,t.2.1,t.2.2-1);have ee:=MA l t.1 t.2.1 (t.2.2-1);by_cases hc:l.1=t.1/\l.2.2.1=t.2.1/\l.2.2.2=t.2.2-1
  ·rw[Tn hc];rw[UA (ee.mpr hc)] at de;simp[bj,at1,ix1,de,lB]
  ·rw[To hc];rw[T5 fun z=>hc (ee.mp z)] at de;simp[bj,at1,ix1,de,hlim]
structure BsOk (bs:List Blk) (ts:List Tri):Prop where
 ok:∀b∈bs,BOk b
 mem:∀x y,(∃b∈bs,jV b x y)↔∃t∈ts,t.1<=x/\x<=t.2.1/\y=t.2.2
 len:aM bs+bs.length=2 * ts.length
theorem qq (bs:List Blk)(b:Blk)(x y:Int):(∃c∈bs++[b],jV c x y)↔(∃c∈bs,jV c x y)\/jV b x y:=by
 constructor
 ·rintro⟨c,hc,h⟩;rcases TB.mp hc with hc|hc
  ·exact .inl ⟨c,hc,h⟩
  ·rw[Ts] at hc;subst hc;exact .inr h
 ·rintro (⟨c,hc,h⟩|h)
  ·exact⟨c,TJ _ hc,h⟩
  ·exact⟨b,TH _ (Ts.mpr rfl),h⟩
theorem BV (ts:List Tri)(t:Tri)(x y:Int):(∃s∈ts++[t],s.1<=x/\x<=s.2.1/\y=s.2.2)↔(∃s∈ts,s.1<=x/\x<=s.2.1/\y=s.2.2)\/(t.1<=x/\x<=t.2.1/\y=t.2.2):=by
 constructor
 ·rintro⟨c,hc,h⟩;rcases TB.mp hc with hc|hc
  ·exact .inl ⟨c,hc,h⟩
  ·rw[Ts] at hc;subst hc;exact .inr h
 ·rintro (⟨c,hc,h⟩|h)
  ·exact⟨c,TJ _ hc,h⟩
  ·exact⟨t,TH _ (Ts.mpr rfl),h⟩
theorem fS (b:Blk):aM [b]=high b:=by simp[aM]
theorem GS {bs:List Blk}{ts:List Tri}{t:Tri}(o:BsOk bs ts)(ht:t.1<=t.2.1):BsOk (t8 bs t) (ts++[t]):=by
 have new:∀x y,jV (t.1,t.2.2,t.2.1,t.2.2) x y↔t.1<=x/\x<=t.2.1/\y=t.2.2:=fun x y=>by
  unfold jV;dsimp only;constructor
  ·rintro⟨h1,h2,h3,h4⟩;exact⟨h1,h2,by lia⟩
  ·rintro⟨h1,h2,h3⟩;exact⟨h1,h2,by lia,by lia⟩
 have hn:high (t.1,t.2.2,t.2.1,t.2.2)=1:=by simp[high]
 have app:BsOk (bs++[(t.1,t.2.2,t.2.1,t.2.2)]) (ts++[t]):=by
  refine⟨fun b hb=>?_,fun x y=>by rw[qq,BV,o.mem,new],?_⟩
  ·rcases TB.mp hb with hb|hb
   ·exact o.ok b hb
   ·rw[Ts] at hb;subst hb;exact⟨ht,TN _⟩
  ·have:=o.len;rw[bS,fS,hn,Tu,Tu,TY,TY];lia
 rcases Uh bs with rfl|⟨r,l,rfl⟩
 ·exact app
 ·rw[Uo] at *;rw[t9];by_cases hc:l.1=t.1/\l.2.2.1=t.2.1/\l.2.2.2=t.2.2-1
  ·rw[Tn hc];have lo:=o.ok l (by simp);refine⟨fun b hb=>?_,fun x y=>?_,?_⟩
   ·rcases TB.mp hb with hb|hb
    ·exact o.ok b (TJ _ hb)
    ·rw[Ts] at hb;subst hb;have:=lo.2;exact⟨ht,by dsimp only;lia⟩
   ·rw[BV,<- o.mem,qq,qq,or_assoc];refine or_congr Ug ?_;have:=lo.2;unfold jV;dsimp only;constructor
    ·rintro⟨h1,h2,h3,h4⟩;by_cases e:y=t.2.2
     ·exact .inr ⟨h1,h2,e⟩
     ·exact .inl ⟨by lia,by lia,h3,by lia⟩
    ·rintro (⟨h1,h2,h3,h4⟩|⟨h1,h2,h3⟩)
     ·exact⟨by lia,by lia,h3,by lia⟩
     ·exact⟨h1,h2,by lia,by lia⟩
   ·have h1:=o.len;have h2:=lo.2;have h3:high (t.1,l.2.1,t.2.1,t.2.2)=high l+2:=by unfold high;dsimp only;lia
    rw[bS,fS,Tu,TY] at h1;rw[bS,fS,h3,Tu,Tu,TY,TY];lia
  ·rw[To hc];exact app
theorem Dy:∀(post pre:List Tri),(∀t∈pre++post,t.1<=t.2.1)->BsOk (sw pre) pre->BsOk (sw (pre++post)) (pre++post)
 |[],pre,_,o=>by rw[Ue];exact o
 |t::post,pre,h,o=>by
  have e:pre++t::post=(pre++[t])++post:=by simp
  rw[e] at h ⊢;refine Dy post (pre++[t]) h ?_;rw[xp];exact GS o (h t (by simp))
theorem Am {ts:List Tri}(h:∀t∈ts,t.1<=t.2.1):BsOk (sw ts) ts:=by have:=Dy ts [] (by simpa using h) ⟨fun _ h=>(by cases h),fun x y=>⟨fun⟨_,h,_⟩=>(by cases h),fun⟨_,h,_⟩=>(by cases h)⟩,rfl⟩;simpa using this
noncomputable def bu (p:Pic):List Blk:=sw (cM ((ah p).map fun t=>(t.2.1,t.2.2,t.1)))
theorem lF (p:Pic)(c:ao p)(h:(ah p).length<30000):gw [am p]=some (.tup ((bu p).map bL))/\(∀b∈bu p,BOk b)/\aM (bu p)<=2 * (ah p).length/\∀x y,(∃b∈bu p,jV b x y)↔az p x y:=by
 have hperm:=dU ((ah p).map fun t=>(t.2.1,t.2.2,t.1));have hlen:(cM ((ah p).map fun t=>(t.2.1,t.2.2,t.1))).length=(ah p).length:=by rw[hperm.length_eq,Tt]
 have hok:∀t∈cM ((ah p).map fun t=>(t.2.1,t.2.2,t.1)),t.1<=t.2.1:=by intro t ht;obtain⟨s,hs,rfl⟩:=Ty.mp (hperm.mem_iff.mp ht);exact zK c s hs
 have o:=Am hok;have ol:=o.len;refine⟨?_,o.ok,by have:=o.len;show aM (sw _)<=_;lia,fun x y=>?_⟩
 ·obtain⟨ρ',k1,v2,v3,v4,rfl⟩:=aS (g:=aF (aj (af 2) (aj (af 3) (aj (af 4) aE)))) (m:=bj) b5 (fun pre ρ=>∃v2 v3 v4,ρ=[.sh (am p),owl ((sw pre).map bL),v2,v3,v4]) (cM ((ah p).map fun t=>(t.2.1,t.2.2,t.1))) [.sh (am p),.ow (.lst []),.un,.un,.un] ⟨_,_,_,rfl⟩ (by
   rintro pre t post _ e ⟨v2,v3,v4,rfl⟩;have hp:pre.length<=(ah p).length:=by rw[<- hlen,e,Tu];lia
   have opre:=Am (ts:=pre) fun t ht=>hok t (by rw[e];exact TJ _ ht);have:=opre.len;have h1:(sw pre).length<=aM (sw pre):=by
    have:∀bs:List Blk,bs.length<=aM bs:=by
     intro bs;induction bs with
     |nil=>exact T2 _
     |cons b bs ih=>have e2:aM (b::bs)=high b+aM bs:=rfl;rw[e2,Tz];unfold high;lia
    exact this _
   refine⟨_,_,rfl,.inl (An _ (sw pre) t (by lia)),.sh (.int t.1),.sh (.int t.2.1),.sh (.int t.2.2),by rw[xp]⟩)
  have h1:=bV p (by lia);have hl:(ah p).length<=LIM:=aC (by lia);have hc:a6 (aF (aj (af 0) (aj (af 1) (aj (af 2) aE)))) bw (aJ (ad (ak 1) (ad (ak 2) (ad (ak 0) ai)))) [.un,.un,.un] ((ah p).map b5)=some (((ah p).map fun t=>(t.2.1,t.2.2,t.1)).map b5):=by rw[TU];exact aN b5 (b5∘fun t=>(t.2.1,t.2.2,t.1)) (ah p) fun q hq=>by simp[cU]
  have hb:=jZ ((ah p).map fun t=>(t.2.1,t.2.2,t.1)) (by rw[Tt];exact h);have k2:bE (aF (aj (af 2) (aj (af 3) (aj (af 4) aE)))) bj ((cM ((ah p).map fun t=>(t.2.1,t.2.2,t.1))).map b5) [.sh (am p),.ow (.lst []),.un,.un,.un]=some (.nx [.sh (am p),owl ((bu p).map bL),v2,v3,v4]):=k1;generalize bu p=bs at k2;generalize (cM ((ah p).map fun t=>(t.2.1,t.2.2,t.1))).map b5=zs at k2 hb;generalize ((ah p).map fun t=>(t.2.1,t.2.2,t.1)).map b5=ws at hb hc;simp[gw,gY,fnO,gt,h1,hl,hc,hb,k2]
 ·unfold bu;rw[o.mem,<- iW];constructor
  ·rintro⟨t,ht,h1,h2,h3⟩;obtain⟨s,hs,rfl⟩:=Ty.mp (hperm.mem_iff.mp ht);exact⟨s,hs,h3.symm,h1,h2⟩
  ·rintro⟨s,hs,h1,h2,h3⟩;exact⟨_,hperm.mem_iff.mpr (Ty.mpr ⟨s,hs,rfl⟩),h2,h3,h1.symm⟩
noncomputable abbrev eT (bs:List Blk):D:=.tup (bs.map bL)
noncomputable abbrev bx (ps:List (List Blk)):D:=.tup (ps.map eT)
noncomputable abbrev ap (N:Str)(ps:List (List Blk)):D:=.ins N ["parts"] [bx ps]
def B6 (bs:List Blk)(x y:Int):Prop:=∃b∈bs,jV b x y
noncomputable def Off:List (List Blk)->Int->Int->Prop
 |[],x,y=>x=0/\y=0
 |bs::r,x,y=>∃u v,B6 bs u v/\Off r (x-u) (y-v)
def FOk (ps:List (List Blk)):Prop:=∀bs∈ps,bs≠[]/\∀b∈bs,BOk b
theorem Kv (p:Pic)(bs:List Blk)(x y:Int):GrP p bs x y↔∃u v,B6 bs u v/\az p (x-u) (y-v):=by
 constructor
 ·rintro⟨b,hb,dx,dy,h1,h2⟩;exact⟨dx,dy,⟨b,hb,h1⟩,h2⟩
 ·rintro⟨dx,dy,⟨b,hb,h1⟩,h2⟩;exact⟨b,hb,dx,dy,h1,h2⟩
noncomputable def shr (r:R)(lo hi:Int):R:=kF (r.map fun p=>(p.1-lo,p.2-hi))
theorem sL (r:R)(lo hi:Int)(h:r.length<=1000):gX [bI r,.int lo,.int hi]=some (bI (shr r lo hi)):=by
 have hl:r.length<=LIM:=aC (by lia);have hc:a6 (aF (aj (af 0) (aj (af 1) aE))) bw (aJ (ad (xOp eY (ag 0) (ag 2)) (ad (xOp eY (ag 1) (ag 3)) ai))) [.un,.un,.sh (.int lo),.sh (.int hi)] (r.map prD)=some (r.map fun p=>prD (p.1-lo,p.2-hi)):=aN prD _ r fun p _=>by simp[cU]
 have hm:=lH (r.map fun p=>(p.1-lo,p.2-hi)) (by rw[Tt];lia);rw[CK,TU] at hm;have e:(prD∘fun p:Int×Int=>(p.1-lo,p.2-hi))=fun p=>prD (p.1-lo,p.2-hi):=rfl;rw[e] at hm;try simp at hm
 try simp at hc
 simp[gX,jA,fnO,gR,hl,hc,hm,shr]
theorem En (r:R)(lo hi x:Int):Mem (shr r lo hi) x↔∃p∈r,p.1<=x+lo/\x+hi<=p.2:=by
 unfold shr;rw[(dJ _).2 x];constructor
 ·rintro⟨q,hq,h1,h2⟩;obtain⟨p,hp,rfl⟩:=Ty.mp hq;dsimp only at h1 h2;exact⟨p,hp,by lia,by lia⟩
 ·rintro⟨p,hp,h1,h2⟩;exact⟨_,Ty.mpr ⟨p,hp,rfl⟩,by dsimp only;lia,by dsimp only;lia⟩
theorem F4 (r:R)(lo hi:Int):aR (shr r lo hi):=(dJ _).1
theorem Ll (r:R)(lo hi:Int):(shr r lo hi).length<=r.length:=by have:=yl (r.map fun p=>(p.1-lo,p.2-hi));rw[Tt] at this;exact this
def Mh (P:Int->Int->Prop)(b:Blk)(x y:Int):Prop:=∀dx dy,jV b dx dy->P (x+dx) (y+dy)
theorem mj {r:R}(c:aR r){i j:Nat}{p q:Int×Int}(hi:r[i]?=some p)(hj:r[j]?=some q)(hij:i<j):p.2+2<=q.1:=by obtain⟨h1,rfl⟩:=TR.mp hi;obtain⟨h2,rfl⟩:=TR.mp hj;exact UW.mp c.2 i j h1 h2 hij
theorem Bg {r:R}(c:aR r){u v:Int}(h:u<=v)(hm:∀z,u<=z->z<=v->Mem r z):∃s∈r,s.1<=u/\v<=s.2:=by
 obtain⟨s,hs,h1,h2⟩:=hm u (TN _) h;refine⟨s,hs,h1,?_⟩;by_cases hv:v<=s.2
 ·exact hv
 ·obtain⟨t,ht,k1,k2⟩:=hm (s.2+1) (by lia) (by lia);obtain⟨i,hi⟩:=UB hs;obtain⟨j,hj⟩:=UB ht;rcases Nat.lt_trichotomy i j with hij|hij|hij
  ·have:=mj c hi hj hij;lia
  ·subst hij;rw[hi] at hj;cases hj;lia
  ·have:=mj c hj hi hij;have:=c.1 s hs;lia
def OB (p:Pic)(u v y:Int):Prop:=∃q∈p,q.1=y/\∃s∈q.2,s.1<=u/\v<=s.2
theorem Hu {p:Pic}(c:ao p){u v y:Int}(h:u<=v):OB p u v y↔∀z,u<=z->z<=v->az p z y:=by
 constructor
 ·rintro⟨q,hq,e,s,hs,h1,h2⟩ z k1 k2;exact⟨q,hq,e,s,hs,by lia,by lia⟩
 ·intro hm;have hr:=dQ c y;obtain⟨s,hs,h1,h2⟩:=Bg hr h fun z k1 k2=>(jR c z y).mpr (hm z k1 k2);obtain⟨q,hq,e,_⟩:=hm u (TN _) h;refine⟨q,hq,e,s,?_,h1,h2⟩;rw[<- e,lR c hq] at hs;exact hs
noncomputable def wB (p:Pic)(b:Blk):Pic:=(p.map fun q=>(q.1-b.2.1,shr q.2 b.1 b.2.2.1)).filter gW
theorem CQ {p:Pic}(c:ao p)(b:Blk):ao (wB p b):=by
 refine⟨fun q hq=>?_,?_⟩
 ·obtain⟨h1,h2⟩:=T4.mp hq;obtain⟨z,hz,rfl⟩:=Ty.mp h1;exact⟨F4 _ _ _,by simpa[gW] using h2⟩
 ·refine WF _ ?_;rw[Um];exact c.2.imp fun {s t} h=>by dsimp only;lia
theorem A5 {p:Pic}(c:ao p){b:Blk}(hb:b.1<=b.2.2.1)(x y:Int):az (wB p b) x y↔∀dx,b.1<=dx->dx<=b.2.2.1->az p (x+dx) (y+b.2.1):=by
 have h1:az (wB p b) x y↔OB p (x+b.1) (x+b.2.2.1) (y+b.2.1):=by
  constructor
  ·rintro⟨q,hq,e,hm⟩;obtain⟨z,hz,rfl⟩:=Ty.mp (T4.mp hq).1;dsimp only at e hm;obtain⟨s,hs,k1,k2⟩:=(En _ _ _ _).mp hm;exact⟨z,hz,by lia,s,hs,k1,k2⟩
  ·rintro⟨z,hz,e,s,hs,k1,k2⟩;have hm:Mem (shr z.2 b.1 b.2.2.1) x:=(En _ _ _ _).mpr ⟨s,hs,k1,k2⟩;refine⟨(z.1-b.2.1,shr z.2 b.1 b.2.2.1),T4.mpr ⟨Ty.mpr ⟨z,hz,rfl⟩,?_⟩,by dsimp only;lia,hm⟩;unfold gW;rw[Bool.not_eq_true',WG];intro e';dsimp only at e';rw[e'] at hm;exact aW _ hm
 rw[h1,Hu c (by lia)];constructor
 ·intro h dx k1 k2;exact h (x+dx) (by lia) (by lia)
 ·intro h z k1 k2;have:=h (z-x) (by lia) (by lia);rwa[show x+(z-x)=z by lia] at this
theorem kj {f:Int×R->Int×R}:∀p:Pic,(∀q∈p,(f q).2.length<=q.2.length)->(ah (p.map f)).length<=(ah p).length
 |[],_=>Tw _
 |q::p,h=>by have h1:=kj p fun s hs=>h s (TC _ hs);have h2:=h q Tx;rw[TF,aZ,aZ,Tu,Tu,Tt,Tt];lia
theorem Ic (p:Pic)(b:Blk):(wB p b).length<=p.length/\(ah (wB p b)).length<=(ah p).length:=by unfold wB;rw[fI];refine⟨?_,kj p fun q _=>Ll _ _ _⟩;have:=UJ gW (p.map fun q=>(q.1-b.2.1,shr q.2 b.1 b.2.2.1));rwa[Tt] at this
theorem BC:∀(q p:Pic),p.Pairwise (fun s t=>s.1<t.1)->(p.map fun s=>(bh q s.1).length).sum<=(ah q).length
 |[],p,_=>by
  have:∀p:Pic,(p.map fun s=>(bh [] s.1).length).sum=0:=by
   intro p;induction p with
   |nil=>rfl
   |cons s p ih=>rw[TF,UF,ih];rfl
  rw[this];exact T2 _
 |t::q,p,hp=>by
  have ih:=BC q p hp;have key:∀p:Pic,p.Pairwise (fun s t=>s.1<t.1)->(p.map fun s=>(bh (t::q) s.1).length).sum<=t.2.length+(p.map fun s=>(bh q s.1).length).sum/\((∀s∈p,t.1≠s.1)->(p.map fun s=>(bh (t::q) s.1).length).sum<=(p.map fun s=>(bh q s.1).length).sum):=by
   intro p;induction p with
   |nil=>intro _;simp
   |cons s p ihp=>
    intro hp;obtain⟨k1,k2⟩:=U0.mp hp;obtain⟨i1,i2⟩:=ihp k2;have er:bh (t::q) s.1=if t.1=s.1 then t.2 else bh q s.1:=by unfold bh;rw[Vq];by_cases h:t.1=s.1<;>simp[h]
    simp only[TF,UF,er];by_cases h:t.1=s.1
    ·rw[Tn h];refine⟨?_,fun hn=>absurd h (hn s Tx)⟩;have:=i2 fun z hz e=>by have:=k1 z hz;lia
     lia
    ·rw[To h];refine⟨by lia,fun hn=>?_⟩;have:=i2 fun z hz=>hn z (TC _ hz);lia
  have:=(key p hp).1;rw[aZ,Tu,Tt];lia
theorem GZ {p q:Pic}(cp:ao p):(ah (cmP p q)).length<=(ah p).length+(ah q).length:=by
 have h1:=BC q p cp.2;have key:∀p:Pic,(ah (p.map fun s=>(s.1,dc s.2 (bh q s.1)))).length<=(ah p).length+(p.map fun s=>(bh q s.1).length).sum:=by
  intro p;induction p with
  |nil=>simp[ah]
  |cons s p ih=>have:=ue _ s.2 (bh q s.1) rfl;rw[TF,aZ,aZ,Tu,Tu,Tt,Tt,TF,UF];dsimp only;lia
 unfold cmP rP;rw[fI];have:=key p;lia
theorem DD (p q:Pic):(cmP p q).length<=p.length:=by unfold cmP rP;have:=UJ gW (p.map fun s=>(s.1,dc s.2 (bh q s.1)));rwa[Tt] at this
theorem qO (p:Pic)(c:ao p)(n:Nat)(hp:p.length<=10000)(hs:(2 * n+1) * (ah p).length<=10000):∃q:Pic,gi [am p,.int (n:Int)]=some (am q)/\ao q/\q.length<=p.length/\(ah q).length<=(2 * n+1) * (ah p).length/\∀x y,az q x y↔∀j:Int,0<=j->j<=n->az p x (y+j):=by
 obtain⟨ρ',k1,q,v2,v3,rfl,a1,a2,a3,a4⟩:=ko (c:=cZ) (m:=eD)
  (fun ρ=>∃(q:Pic) (k:Nat) (v3:Sl),ρ=[.sh (am q),.sh (.int (n:Int)),.sh (.int (k:Int)),v3]/\k<=n/\ao q/\q.length<=p.length/\((ah q).length<=(k+1) * (ah p).length\/(k=n/\(ah q).length<=(2 * n+1) * (ah p).length))/\(k=0->(ah q).length<=(ah p).length)/\∀x y,az q x y↔∀j:Int,0<=j->j<=k->az p x (y+j))
  (fun ρ=>match ρ with|[_,.sh (.int n),.sh (.int k),_]=>(n-k).toNat|_=>0)
  (fun ρ=>∃(q:Pic) (v2 v3:Sl),ρ=[.sh (am q),.sh (.int (n:Int)),v2,v3]/\ao q/\q.length<=p.length/\(ah q).length<=(2 * n+1) * (ah p).length/\∀x y,az q x y↔∀j:Int,0<=j->j<=n->az p x (y+j))
  (by
   rintro _ ⟨q,k,v3,rfl,hk,c',hl,hsz,h0,hm⟩;by_cases hc:k<n
   ·right;have hc':(k:Int)<n:=by lia
    refine⟨by simp[cZ,hc'],?_⟩;have hsz':(ah q).length<=(k+1) * (ah p).length:=hsz.elim id fun h=>by lia
    generalize hst:(if (n:Int)-k<(k:Int)+1 then (n:Int)-k else (k:Int)+1)=st;have hst1:1<=st/\st<=k+1/\st<=n-k/\(st=k+1\/st=n-k):=by rw[<- hst];split<;>lia
    have e1:(k+1) * (ah p).length<=(2 * n+1) * (ah p).length:=U1 _ (by lia);have lq:(ah q).length<=10000:=by lia
    have mv:=uR q 0 (-st) (by lia) fun z hz=>by have:=bZ hz;lia
    have cmv:=FF c' 0 (-st);have lmv:(mvP q 0 (-st)).length=q.length:=by unfold mvP;rw[Tt]
    have smv:=Ib q 0 (-st);have cm:=se (p:=q) (q:=mvP q 0 (-st)) cmv (by lia) (by lia) (by lia);have scm:=GZ (p:=q) (q:=mvP q 0 (-st)) c';have rcm:=DD q (mvP q 0 (-st));have ek:(((k+st.toNat:Nat)):Int)=(k:Int)+st:=by lia
    refine⟨[.sh (am (cmP q (mvP q 0 (-st)))),.sh (.int (n:Int)),.sh (.int ((k+st.toNat:Nat):Int)),.sh (.int st)],?_,⟨cmP q (mvP q 0 (-st)),k+st.toNat,_,rfl,by lia,xx c' cmv,by lia,?_,fun z=>by lia,fun x y=>?_⟩,by dsimp only;lia⟩
    ·rw[ek];simp[eD,hst,mv,cm]
    ·rcases hst1.2.2.2 with e|e
     ·left;have e2:(k+st.toNat+1) * (ah p).length=(k+1) * (ah p).length+(k+1) * (ah p).length:=by
       rw[<- UG];congr 1;lia
      lia
     ·right;have e2:(k+1) * (ah p).length+(k+1) * (ah p).length<=(2 * n+1) * (ah p).length:=by
       rw[<- UG];exact U1 _ (by lia)
      exact⟨by lia,by lia⟩
    ·rw[DC c' cmv,D7,hm,hm,show x-0=x by lia,show y - -st=y+st by lia];constructor
     ·rintro⟨g1,g2⟩ j j0 j1;by_cases hj:j<=k
      ·exact g1 j j0 hj
      ·have:=g2 (j-st) (by lia) (by lia);rwa[show y+st+(j-st)=y+j by lia] at this
     ·intro g;refine⟨fun j j0 j1=>g j j0 (by lia),fun j j0 j1=>?_⟩;have:=g (st+j) (by lia) (by lia);rwa[show y+(st+j)=y+st+j by lia] at this
   ·left;have ek:k=n:=by lia
    subst ek;refine⟨by simp[cZ],q,_,_,rfl,c',hl,?_,hm⟩;rcases hsz with h|h
    ·have:(k+1) * (ah p).length<=(2 * k+1) * (ah p).length:=U1 _ (by lia);lia
    ·exact h.2)
  [.sh (am p),.sh (.int (n:Int)),.sh (.int 0),.un] ⟨p,0,.un,rfl,by lia,c,Tw _,.inl (by lia),fun _=>Tw _,fun x y=>⟨fun h j j0 j1=>by rwa[show y+j=y by lia],fun h=>by have:=h 0 (by lia) (by lia);rwa[show y+0=y by lia] at this⟩⟩
 exact⟨q,by simp[gi,iJ,fnO,gb,k1],a1,a2,a3,a4⟩
theorem fK (p:Pic)(c:ao p)(b:Blk)(hb:BOk b)(n:Nat)(hn:b.2.2.2-b.2.1=n)(hp:p.length<=1000)(hs:(2 * n+1) * (ah p).length<=10000)(hr:∀q∈p,q.2.length<=1000):∃q:Pic,cS [am p,bL b]=some (am q)/\ao q/\q.length<=p.length/\(ah q).length<=(2 * n+1) * (ah p).length/\∀x y,az q x y↔Mh (az p) b x y:=by
 have hl:p.length<=LIM:=aC (by lia);have hc:a6 (aF (aj (af 0) (aj (af 1) aE))) bw (aJ (ad (xOp eY (ag 0) (xOp dIx (ag 2) (xC (.int 1)))) (ad (av gX (ad (ak 1) (ad (xOp dIx (ag 2) (xC (.int 0))) (ad (xOp dIx (ag 2) (xC (.int 2))) ai)))) ai))) [.un,.un,.sh (bL b)] (p.map pyD)=some ((p.map fun q=>(q.1-b.2.1,shr q.2 b.1 b.2.2.1)).map pyD):=by
  rw[TU];exact aN pyD (fun q=>pyD (q.1-b.2.1,shr q.2 b.1 b.2.2.1)) p fun q hq=>by have a:=sL q.2 b.1 b.2.2.1 (hr q hq);simp[cU,a,atI,ixN]
 have hm:=bU (p.map fun q=>(q.1-b.2.1,shr q.2 b.1 b.2.2.1)) (by rw[Tt];lia);have hnl:=Ic p b;have e1:(2 * n+1) * (ah (wB p b)).length<=(2 * n+1) * (ah p).length:=VM _ hnl.2;obtain⟨q,a1,a2,a3,a4,a5⟩:=qO (wB p b) (CQ c b) n (by lia) (by lia);refine⟨q,?_,a2,by lia,by lia,fun x y=>?_⟩
 ·have a1':gi [am (wB p b),.int (b.2.2.2-b.2.1)]=some (am q):=by rw[hn];exact a1
  have hm':a7 [.lst ((p.map fun q=>(q.1-b.2.1,shr q.2 b.1 b.2.2.1)).map pyD)]=some (am (wB p b)):=hm;generalize (p.map fun q=>(q.1-b.2.1,shr q.2 b.1 b.2.2.1)).map pyD=zs at hc hm';simp[cS,d6,fnO,cP,hl,hc,hm',a1',atI,ixN]
 ·rw[a5];constructor
  ·intro h dx dy hd;have h1:=(A5 c hb.1 x (y+(dy-b.2.1))).mp (h (dy-b.2.1) (by have:=hd.2.2.1;lia) (by have:=hd.2.2.2;lia)) dx hd.1 hd.2.1;rwa[show y+(dy-b.2.1)+b.2.1=y+dy by lia] at h1
  ·intro h j j0 j1;rw[A5 c hb.1];intro dx d0 d1;have:=h dx (j+b.2.1) ⟨d0,d1,by lia,by lia⟩;rwa[show y+(j+b.2.1)=y+j+b.2.1 by lia] at this
theorem uM {α:Type}(l:List α)(k:α->Int)(enc:α->D)(f g:Int)(he:∀a,dIx (enc a) (.int 0)=some (.int (k a)))(hl:l.length<=100000)(pw:l.Pairwise fun a b=>k a<k b) :
  ∃l':List α,bd [.tup (l.map enc),.int f,.int g]=some (.tup (l'.map enc))/\l'.Sublist l/\∀a∈l,k a<=g->(∀b∈l,k a<k b->f<k b)->a∈l':=by
 obtain⟨n1,a1,b1,c1⟩:=fU l k enc f he hl pw;obtain⟨n2,a2,b2,c2⟩:=fU l k enc g he hl pw;refine⟨iw l (some ((n1-1:Nat):Int)) (some (n2:Int)),?_,?_,fun a ha hg hb=>?_⟩
 ·have e1:(if ((n1:Int)-1) > 0 then (n1:Int)-1 else 0)=((n1-1:Nat):Int):=by split<;>lia
  have e1':(if 1<n1 then (n1:Int)-1 else 0)=((n1-1:Nat):Int):=by split<;>lia
  have e1'':(if (1:Int)<(n1:Int) then (n1:Int)-1 else 0)=((n1-1:Nat):Int):=by split<;>lia
  simp[bd,fW,fnO,eG,b1,b2,DG,e1,e1',e1'',dSl]
 ·unfold iw;exact (List.take_sublist _ _).trans (List.drop_sublist _ _)
 ·obtain⟨i,hi⟩:=UB ha;have hil:=(TR.mp hi).1;have h2:=(c2 i a hi).mp hg;have h1:n1-1<=i:=by
   by_cases h:n1-1<=i
   ·exact h
   ·exfalso;obtain⟨b,hb'⟩:∃b,l[i+1]?=some b:=⟨_,Uf (show i+1<l.length by lia)⟩
    have h3:=(c1 (i+1) b hb').mpr (by lia);obtain⟨l1,e1⟩:=TR.mp hi;obtain⟨l2,e2⟩:=TR.mp hb';have h4:=UW.mp pw i (i+1) l1 l2 (by lia);rw[e1,e2] at h4;have:=hb b (Vl hb') h4;lia
  unfold iw;rw[Ej (by lia),Ej (by lia),VY,VY,Nat.min_eq_left (by lia:n1-1<=l.length),Nat.min_eq_left a2];refine Vl (i:=i-(n1-1)) ?_;rw[List.getElem?_take_of_lt (by lia),VU,show n1-1+(i-(n1-1))=i by lia];exact hi
theorem Jg {r:R}(c:aR r)(h:r.length<=100000)(f g:Int):∃r':R,bd [bI r,.int f,.int g]=some (bI r')/\r'.Sublist r/\∀x,f<=x->x<=g->Mem r x->Mem r' x:=by
 have pw:r.Pairwise fun a b=>a.1<b.1:=by refine List.Pairwise.imp_of_mem ?_ c.2;intro p q hp _ h;have:=c.1 p hp;lia
 obtain⟨r',h1,h2,h3⟩:=uM r (·.1) prD f g (fun a=>by simp) h pw;refine⟨r',h1,h2,fun x hf hg ⟨q,hq,k1,k2⟩=>⟨q,h3 q hq (by lia) fun b hb hlt=>?_,k1,k2⟩⟩;obtain⟨i,hi⟩:=UB hq;obtain⟨j,hj⟩:=UB hb;rcases Nat.lt_trichotomy i j with hij|hij|hij
 ·have:=mj c hi hj hij;lia
 ·subst hij;rw[hi] at hj;cases hj;lia
 ·have:=mj c hj hi hij;have:=c.1 b hb;have:=c.1 q hq;lia
theorem EU {r r':R}(c:aR r)(s:r'.Sublist r):aR r':=⟨fun q hq=>c.1 q (s.subset hq),c.2.sublist s⟩
theorem D3:∀(l:List Int),∀x∈l,jN l<=x
 |[],_,h=>by cases h
 |[a],x,h=>by rw[Ts.mp h];exact TN _
 |a::b::l,x,h=>by
  rw[xZ];rcases TD.mp h with rfl|h
  ·lia
  ·have:=D3 (b::l) x h;lia
theorem DZ:∀(l:List Int),∀x∈l,x<=lK l
 |[],_,h=>by cases h
 |[a],x,h=>by rw[Ts.mp h];exact TN _
 |a::b::l,x,h=>by
  have e:lK (a::b::l)=max a (lK (b::l)):=rfl;rw[e];rcases TD.mp h with rfl|h
  ·lia
  ·have:=DZ (b::l) x h;lia
noncomputable def sd (p:Pic):List Int:=p.map fun q=>(q.2.head?.getD (0,0)).1
noncomputable def lA (p:Pic):List Int:=p.map fun q=>(q.2.getLast?.getD (0,0)).2
theorem EZ (p:Pic)(hn:∀q∈p,q.2≠[]):a6 (aF (aj (af 0) (aj (af 1) aE))) bw (xOp dIx (xOp dIx (ag 1) (xC (.int 0))) (xC (.int 0))) [.un,.un] (p.map pyD)=some ((sd p).map D.int):=by
 unfold sd;rw[TU];refine aN pyD _ p fun q hq=>?_;obtain⟨y,r⟩:=q;cases r with
 |nil=>exact absurd rfl (hn _ hq)
 |cons a r=>have f0:atI (prD a::r.map prD) 0=some (prD a):=eM (j:=0) rfl;have f1:atI [D.int a.1,D.int a.2] 0=some (.int a.1):=eM (j:=0) rfl;simp[cU,f0,f1]
theorem Co (p:Pic)(hn:∀q∈p,q.2≠[]):a6 (aF (aj (af 0) (aj (af 1) aE))) bw (xOp dIx (xOp dIx (ag 1) (xUn cJ (xC (.int 1)))) (xC (.int 1))) [.un,.un] (p.map pyD)=some ((lA p).map D.int):=by
 unfold lA;rw[TU];refine aN pyD _ p fun q hq=>?_;obtain⟨y,r⟩:=q;rcases Uh r with rfl|⟨r0,a,rfl⟩
 ·exact absurd rfl (hn _ hq)
 ·have f0:atI ((r0++[a]).map prD) (-1)=some (prD a):=by
   unfold atI;rw[Tt,Tu,TY,lB];simp
  have f1:atI [D.int a.1,D.int a.2] 1=some (.int a.2):=eM (j:=1) rfl;rw[T7] at f0;simp at f0;simp[cU,f0,f1]
theorem Ch {r:R}(c:aR r){q:Int×Int}(hq:q∈r):(r.head?.getD (0,0)).1<=q.1:=by
 cases r with
 |nil=>cases hq
 |cons a r=>
  rcases TD.mp hq with rfl|hq
  ·exact TN _
  ·have:=(canon_cons.mp c).2.1 q hq;have:=(canon_cons.mp c).1;show a.1<=q.1;lia
theorem Ci {r:R}(c:aR r){q:Int×Int}(hq:q∈r):q.2<=(r.getLast?.getD (0,0)).2:=by
 rcases Uh r with rfl|⟨r0,a,rfl⟩
 ·cases hq
 ·rw[Uo] at *;have e:((r0++[a]).getLast?.getD (0,0))=a:=by simp
  rw[e];rcases TB.mp hq with hq|hq
  ·obtain⟨_,h1,h2⟩:=canon_snoc.mp c;have:=h2 q hq;lia
  ·rw[Ts.mp hq];exact TN _
theorem AW (p:Pic)(c:ao p)(hne:p≠[])(h:p.length<=30000):∃l t r b:Int,uN [am p]=some (.tup [.int l,.int t,.int r,.int b])/\∀x y,az p x y->l<=x/\x<=r/\t<=y/\y<=b:=by
 have hn:∀q∈p,q.2≠[]:=fun q hq=>(c.1 q hq).2;have c1:=EZ p hn;have c2:=Co p hn;have hl:p.length<=LIM:=aC (by lia);have hpos:0<p.length:=List.length_pos_iff.mpr hne;have l1:(sd p).length=p.length:=by unfold sd;rw[Tt]
 have l2:(lA p).length=p.length:=by unfold lA;rw[Tt]
 have hml:Al [.lst ((sd p).map D.int)]=some (.int (jN (sd p))):=by unfold Al;simp only[fm,Option.bind_some];rw[Tn (by lia)]
 have hmh:Ak [.lst ((lA p).map D.int)]=some (.int (lK (lA p))):=by unfold Ak;simp only[fm,Option.bind_some];rw[Tn (by lia)]
 obtain⟨q0,h0⟩:∃q,p[0]?=some q:=⟨_,Uf hpos⟩
 obtain⟨q1,h1⟩:∃q,p.getLast?=some q:=by
  cases e:p.getLast? with
  |none=>exact absurd (List.getLast?_eq_none_iff.mp e) hne
  |some q=>exact⟨q,rfl⟩
 have f0:atI (p.map pyD) 0=some (pyD q0):=eM (j:=0) (by rw[TW,h0];rfl);have f1:atI (p.map pyD) (-1)=some (pyD q1):=by obtain⟨Y,rfl⟩:=List.getLast?_eq_some_iff.mp h1;rw[T7];exact gu _ _
 have g0:∀(y:Int) (d:D),atI [D.int y,d] 0=some (.int y):=fun y d=>eM (j:=0) rfl;have d0:dEq false (am p) (.tup [])=some (.bl false):=by
  cases p with
  |nil=>exact absurd rfl hne
  |cons q p=>unfold dEq;rw[Tn ⟨zk _,by simp[okD,okDs]⟩];simp[eqD,eqDs]
 refine⟨jN (sd p),q0.1,lK (lA p),q1.1,?_,fun x y hm=>?_⟩
 ·generalize hP:p.map pyD=Pd at *;have hPl:Pd.length<=LIM:=by rw[<- hP,Tt];exact hl
  simp[uN,qU,fnO,oT,hP,d0,c1,c2,hPl,hml,hmh,f0,f1,g0]
 ·obtain⟨q,hq,rfl,s,hs,k1,k2⟩:=hm;have cq:=(c.1 q hq).1;have e1:=D3 (sd p) _ (Ty.mpr ⟨q,hq,rfl⟩);have e2:=DZ (lA p) _ (Ty.mpr ⟨q,hq,rfl⟩);have e3:=Ch cq hs;have e4:=Ci cq hs;refine⟨by lia,by lia,?_,?_⟩
  ·cases p with
   |nil=>exact absurd rfl hne
   |cons a p=>
    cases h0;rcases TD.mp hq with rfl|hq
    ·exact TN _
    ·have:=(pcanon_cons.mp c).2.1 q hq;lia
  ·obtain⟨Y,rfl⟩:=List.getLast?_eq_some_iff.mp h1;rcases TB.mp hq with hq|hq
   ·have:=(T3.mp c.2).2.2 q hq q1 (by simp);lia
   ·rw[Ts.mp hq];exact TN _
theorem Lz {l m:List Nat}(h:l.Sublist m):l.sum<=m.sum:=by
 induction h with
 |slnil=>exact Tw _
 |cons a _ ih=>rw[UF];lia
 |cons_cons a _ ih=>rw[UF,UF];lia
theorem BB (p:Pic)(c:ao p)(hr:∀q∈p,q.2.length<=1000)(f g:Int):∃part:Int×R->R,∀q∈p,bd [bI q.2,.int f,.int g]=some (bI (part q))/\(part q).Sublist q.2/\∀x,f<=x->x<=g->Mem q.2 x->Mem (part q) x:=by
 have h:∀q:Int×R,∃r:R,q∈p->bd [bI q.2,.int f,.int g]=some (bI r)/\r.Sublist q.2/\∀x,f<=x->x<=g->Mem q.2 x->Mem r x:=fun q=>by
  by_cases hq:q∈p
  ·obtain⟨r,h1⟩:=Jg (c.1 q hq).1 (by have:=hr q hq;lia) f g;exact⟨r,fun _=>h1⟩
  ·exact⟨[],fun z=>absurd z hq⟩
 exact⟨fun q=>(h q).choose,fun q hq=>(h q).choose_spec hq⟩
theorem zd (p:Pic)(c:ao p)(hp:p.length<=1000)(hr:∀q∈p,q.2.length<=1000)(l t r b:Int)(k:Blk):∃q:Pic,qN [am p,.tup [.int l,.int t,.int r,.int b],bL k]=some (am q)/\ao q/\q.length<=p.length/\(ah q).length<=(ah p).length/\(∀s∈q,s.2.length<=1000)/\(∀x y,az q x y->az p x y) /\
  ∀x y,l+k.1<=x->x<=r+k.2.2.1->t+k.2.1<=y->y<=b+k.2.2.2->az p x y->az q x y:=by
 obtain⟨p',h1,h2,h3⟩:=uM p (·.1) pyD (t+k.2.1) (b+k.2.2.2) (fun a=>by simp) (by lia) c.2;have c':ao p':=⟨fun q hq=>c.1 q (h2.subset hq),c.2.sublist h2⟩
 obtain⟨part,hpart⟩:=BB p c hr (l+k.1) (r+k.2.2.1);have hl':p'.length<=p.length:=h2.length_le;have hlim:p'.length<=LIM:=aC (by lia);have hc:a6 (aF (aj (af 0) (aj (af 1) aE))) bw (aJ (ad (ak 0) (ad (av bd (ad (ak 1) (ad (xOp aP (xOp dIx (ag 2) (xC (.int 0))) (xOp dIx (ag 3) (xC (.int 0)))) (ad (xOp aP (xOp dIx (ag 2) (xC (.int 2))) (xOp dIx (ag 3) (xC (.int 2)))) ai)))) ai))) [.un,.un,.sh (.tup [.int l,.int t,.int r,.int b]),.sh (bL k)] (p'.map pyD)=some ((p'.map fun q=>(q.1,part q)).map pyD):=by
  rw[TU];exact aN pyD (fun q=>pyD (q.1,part q)) p' fun q hq=>by have a:=(hpart q (h2.subset hq)).1;simp[cU,a,atI,ixN]
 have hm:=bU (p'.map fun q=>(q.1,part q)) (by rw[Tt];lia);have hsub:∀q∈p',(part q).Sublist q.2:=fun q hq=>(hpart q (h2.subset hq)).2.1;refine⟨(p'.map fun q=>(q.1,part q)).filter gW,?_,⟨fun q hq=>?_,?_⟩,?_,?_,fun s hs=>?_,fun x y h=>?_,fun x y x0 x1 y0 y1 h=>?_⟩
 ·have a1:atI [D.int l,.int t,.int r,.int b] 1=some (.int t):=rfl;have a3:atI [D.int l,.int t,.int r,.int b] 3=some (.int b):=rfl;have b1:atI [D.int k.1,.int k.2.1,.int k.2.2.1,.int k.2.2.2] 1=some (.int k.2.1):=rfl;have b3:atI [D.int k.1,.int k.2.1,.int k.2.2.1,.int k.2.2.2] 3=some (.int k.2.2.2):=rfl;generalize hz:(p'.map fun q=>(q.1,part q)).map pyD=zs at hc hm;generalize hz2:p'.map pyD=ps at h1 hc;have hps:ps.length<=LIM:=by rw[<- hz2,Tt];exact hlim
  simp[qN,nP,fnO,mh,a1,a3,b1,b3,h1,hps,hc,hm,wN]
 ·obtain⟨k1,k2⟩:=T4.mp hq;obtain⟨z,hz,rfl⟩:=Ty.mp k1;exact⟨EU (c'.1 z hz).1 (hsub z hz),by simpa[gW] using k2⟩
 ·refine WF _ ?_;rw[Um];exact c'.2
 ·have:=UJ gW (p'.map fun q=>(q.1,part q));rw[Tt] at this;lia
 ·rw[fI];have e1:=kj (f:=fun q=>(q.1,part q)) p' fun q hq=>(hsub q hq).length_le;have e2:(ah p').length<=(ah p).length:=by
   unfold ah;rw[Wn,Wn];exact Lz (h2.map _)
  lia
 ·obtain⟨z,hz,rfl⟩:=Ty.mp (T4.mp hs).1;have:=(hsub z hz).length_le;have:=hr z (h2.subset hz);dsimp only;lia
 ·obtain⟨q,hq,e,s,hs,k1,k2⟩:=h;obtain⟨z,hz,rfl⟩:=Ty.mp (T4.mp hq).1;exact⟨z,h2.subset hz,e,s,(hsub z hz).subset hs,k1,k2⟩
 ·obtain⟨q,hq,rfl,hmm⟩:=h;have hq':q∈p':=h3 q hq y1 fun b' hb hlt=>by lia
  have hmem:=(hpart q hq).2.2 x x0 x1 hmm;refine⟨(q.1,part q),T4.mpr ⟨Ty.mpr ⟨q,hq',rfl⟩,?_⟩,rfl,hmem⟩;unfold gW;rw[Bool.not_eq_true',WG];intro e';dsimp only at e';rw[e'] at hmem;exact aW _ hmem
def EE (p:Pic)(bs:List Blk)(x y:Int):Prop:=∀b∈bs,Mh (az p) b x y
theorem nA (p:Pic):dEq false (am p) (.tup [])=some (.bl (decide (p=[]))):=by
 cases p with
 |nil=>rw[UA rfl];exact ld false (d:=.tup []) (by simp[okD,okDs])
 |cons q p=>rw[T5 (by simp)];unfold dEq;rw[Tn ⟨zk _,by simp[okD,okDs]⟩];simp[eqD,eqDs]
theorem Db (p:Pic)(c:ao p)(hp:p.length<=1000)(hr:∀q∈p,q.2.length<=1000)(s1 v3:Sl)(q:Pic)(cq:ao q)(hq:q.length<=p.length)(b:Blk)(hb:BOk b)(hs:(ah q).length+high b * (ah p).length<=10000)(hne:q≠[]) :
  ∃q':Pic,a9 [.sh (am p),s1,.sh (am q),.sh (bL b)]=some (.nx [.sh (am p),s1,.sh (am q'),.sh (bL b)])/\ao q'/\q'.length<=p.length/\(ah q').length<=(ah q).length+high b * (ah p).length/\∀x y,az q' x y↔az q x y/\Mh (az p) b x y:=by
 obtain⟨l,t,r,bt,h1,h2⟩:=AW q cq hne (by lia);obtain⟨z,z1,z2,z3,z4,z5,z6,z7⟩:=zd p c hp hr l t r bt b;obtain⟨n,hn⟩:∃n:Nat,b.2.2.2-b.2.1=n:=⟨(b.2.2.2-b.2.1).toNat,by have:=hb.2;lia⟩
 have eh:high b=2 * n+1:=by unfold high;rw[hn];simp
 have e1:(2 * n+1) * (ah z).length<=high b * (ah p).length:=by rw[eh];exact VM _ z4
 obtain⟨w,w1,w2,w3,w4,w5⟩:=fK z z2 b hb n hn (by lia) (by lia) z5;have cm:=se (p:=q) (q:=w) w2 (by lia) (by lia) (by lia);have d0:=nA q;rw[T5 hne] at d0;refine⟨cmP q w,?_,xx cq w2,?_,?_,fun x y=>?_⟩
 ·simp[a9,d0,h1,z1,w1,cm]
 ·have:=DD q w;lia
 ·have:=GZ (p:=q) (q:=w) cq;lia
 ·rw[DC cq w2,w5];constructor
  ·rintro⟨g1,g2⟩;exact⟨g1,fun dx dy hd=>z6 _ _ (g2 dx dy hd)⟩
  ·rintro⟨g1,g2⟩;obtain⟨x0,x1,y0,y1⟩:=h2 x y g1;refine⟨g1,fun dx dy hd=>z7 _ _ ?_ ?_ ?_ ?_ (g2 dx dy hd)⟩
   ·have:=hd.1;lia
   ·have:=hd.2.1;lia
   ·have:=hd.2.2.1;lia
   ·have:=hd.2.2.2;lia
theorem lI (p:Pic)(c:ao p)(bs:List Blk)(hne:bs≠[])(hb:∀b∈bs,BOk b)(hp:p.length<=1000)(hr:∀q∈p,q.2.length<=1000)(hl:bs.length<=1000)(hs:aM bs * (ah p).length<=10000) :
  ∃q:Pic,dt [am p,.tup (bs.map bL)]=some (am q)/\ao q/\q.length<=p.length/\(ah q).length<=aM bs * (ah p).length/\∀x y,az q x y↔EE p bs x y:=by
 obtain⟨cs,b0,rfl⟩:∃cs b0,bs=cs++[b0]:=by
  rcases Uh bs with h|⟨cs,b0,h⟩
  ·exact absurd h hne
  ·exact⟨cs,b0,by rw[h,Uo]⟩
 have hh:aM (cs++[b0])=aM cs+high b0:=by rw[bS,fS]
 rw[hh,UG] at hs;obtain⟨n,hn⟩:∃n:Nat,b0.2.2.2-b0.2.1=n:=⟨(b0.2.2.2-b0.2.1).toNat,by have:=(hb b0 (by simp)).2;lia⟩
 have eh:high b0=2 * n+1:=by unfold high;rw[hn];simp
 obtain⟨q0,w1,w2,w3,w4,w5⟩:=fK p c b0 (hb b0 (by simp)) n hn hp (by rw[<- eh];lia) hr;rw[<- eh] at w4;have ec:iw ((cs++[b0]).map bL) none (some (-1))=cs.map bL:=by
  rw[DG];congr 1;unfold iw;have e1:HT.sIx (cs++[b0]).length 0 none=0:=rfl;have e2:HT.sIx (cs++[b0]).length (cs++[b0]).length (some (-1))=cs.length:=by rw[Tu,TY];unfold HT.sIx;simp;lia
  rw[e1,e2];simp
 have at1:atI ((cs++[b0]).map bL) (-1)=some (bL b0):=by rw[T7];exact gu _ _
 obtain⟨o,k1,k2⟩:=xV (g:=af 3) (m:=a9) bL (fun pre ρ=>∃(q:Pic) (v3:Sl),ρ=[.sh (am p),.sh (.tup ((cs++[b0]).map bL)),.sh (am q),v3]/\ao q/\q.length<=p.length/\(ah q).length<=(aM pre+high b0) * (ah p).length/\∀x y,az q x y↔EE p (pre++[b0]) x y)
  (fun d=>d = .tup []/\∀x y,¬EE p (cs++[b0]) x y) (fun _=>False) cs [.sh (am p),.sh (.tup ((cs++[b0]).map bL)),.sh (am q0),.un]
  ⟨q0,_,rfl,w2,w3,by have:aM []=0:=rfl;rw[this,Nat.zero_add];exact w4,fun x y=>by rw[w5];unfold EE;simp⟩ (by
  rintro pre b post _ e ⟨q,v3,rfl,cq,lq,sq,mq⟩;have hbm:b∈cs:=by rw[e];simp
  have hpre:aM pre+high b<=aM cs:=by rw[e,bS];have:aM (b::post)=high b+aM post:=rfl;lia
  have hmul:(aM pre+high b0) * (ah p).length+high b * (ah p).length<=10000:=by
   have:(aM pre+high b0) * (ah p).length+high b * (ah p).length=(aM pre+high b) * (ah p).length+high b0 * (ah p).length:=by rw[UG,UG];lia
   rw[this];have:=U1 (ah p).length hpre;lia
  by_cases hq0:q=[]
  ·subst hq0;refine⟨_,.rt (.tup []),rfl,?_,rfl,fun x y h=>?_⟩
   ·have d0:=nA [];rw[UA rfl] at d0;simp[a9,d0]
   ·refine aU x y ((mq x y).mpr fun b' hb'=>h b' ?_);rw[e];rcases TB.mp hb' with h' | h'
    ·simp[h']
    ·simp[Ts.mp h']
  ·obtain⟨q',t1,t2,t3,t4,t5⟩:=Db p c hp hr (.sh (.tup ((cs++[b0]).map bL))) (.sh (bL b)) q cq lq b (hb b (TJ _ hbm)) (by lia) hq0;refine⟨_,_,rfl,t1,q',_,rfl,t2,t3,?_,fun x y=>?_⟩
   ·rw[bS,fS];have:(aM pre+high b+high b0) * (ah p).length=(aM pre+high b0) * (ah p).length+high b * (ah p).length:=by
     rw[UG,UG,UG];lia
    lia
   ·rw[t5,mq];unfold EE;constructor
    ·rintro⟨g1,g2⟩ b' hb';rcases TB.mp hb' with h' | h'
     ·rcases TB.mp h' with h' | h'
      ·exact g1 b' (TJ _ h')
      ·rw[Ts.mp h'];exact g2
     ·exact g1 b' (TH _ h')
    ·intro g;refine⟨fun b' hb'=>g b' ?_,g b (by simp)⟩;rcases TB.mp hb' with h' | h'
     ·simp[h']
     ·simp[Ts.mp h'])
 have hlim:(cs++[b0]).length<=LIM:=aC (by lia);cases o with
 |nx ρ'=>
  rcases k2 with ⟨q,v3,rfl,cq,lq,sq,mq⟩|h
  ·refine⟨q,?_,cq,lq,by rw[hh];exact sq,mq⟩;generalize (cs++[b0]).map bL=Bs at *;simp[dt,cT,fnO,bR,at1,w1,dSl,ec,wN,k1]
  ·exact h.elim
 |rt d=>
  obtain⟨rfl,hno⟩:=k2;refine⟨[],?_,dN,T2 _,T2 _,fun x y=>⟨fun h=>(aU _ _ h).elim,fun h=>(hno x y h).elim⟩⟩;generalize (cs++[b0]).map bL=Bs at *;simp[dt,cT,fnO,bR,at1,w1,dSl,ec,wN,k1]
 |ct _=>exact k2.elim
 |bk _=>exact k2.elim
 |ro _=>exact k2.elim
theorem Hi (p:Pic)(bs:List Blk)(x y:Int):EE p bs x y↔∀u v,B6 bs u v->az p (x+u) (y+v):=by
 constructor
 ·rintro h u v ⟨b,hb,hm⟩;exact h b hb u v hm
 ·intro h b hb u v hm;exact h u v ⟨b,hb,hm⟩
def we (p:Pic)(ps:List (List Blk))(x y:Int):Prop:=∀u v,Off ps u v->az p (x+u) (y+v)
theorem A9 (ps:List (List Blk))(bs:List Blk)(x y:Int):Off (ps++[bs]) x y↔∃u v,Off ps u v/\B6 bs (x-u) (y-v):=by
 induction ps generalizing x y with
 |nil=>
  constructor
  ·rintro⟨u,v,h1,h2,h3⟩;exact⟨0,0,⟨rfl,rfl⟩,by rwa[show x-0=u by lia,show y-0=v by lia]⟩
  ·rintro⟨u,v,⟨rfl,rfl⟩,h⟩;exact⟨x-0,y-0,h,by lia,by lia⟩
 |cons a ps ih=>
  constructor
  ·rintro⟨u,v,h1,h2⟩;obtain⟨u',v',h3,h4⟩:=(ih _ _).mp h2;exact⟨u+u',v+v',⟨u,v,h1,by rwa[show u+u'-u=u' by lia,show v+v'-v=v' by lia]⟩,by rwa[show x-(u+u')=x-u-u' by lia,show y-(v+v')=y-v-v' by lia]⟩
  ·rintro⟨u,v,⟨u',v',h1,h3⟩,h2⟩;exact⟨u',v',h1,(ih _ _).mpr ⟨u-u',v-v',h3,by rwa[show x-u'-(u-u')=x-u by lia,show y-v'-(v-v')=y-v by lia]⟩⟩
def O7 (ps:List (List Blk)):Prop:=∀bs∈ps,bs.length<=1000
def Cov (n:Nat)(P:Int->Int->Prop):Prop:=∃ts:List Tri,ts.length<=n/\∀x y,iY ts x y↔P x y
theorem jb {q:Pic}(c:ao q){n:Nat}{P:Int->Int->Prop}(hP:∀x y,az q x y↔P x y)(h:Cov n P):(ah q).length<=n:=by obtain⟨ts,hl,hm⟩:=h;have e:fL ts=q:=vh c fun x y=>(hm x y).trans (hP x y).symm;have:=jP ts;rw[e] at this;lia
theorem Cov.mono {n m:Nat}{P:Int->Int->Prop}(h:Cov n P)(hm:n<=m):Cov m P:=let ⟨ts,a,b⟩:=h;⟨ts,T1 a hm,b⟩
theorem Cov.congr {n:Nat}{P Q:Int->Int->Prop}(h:Cov n P)(e:∀x y,P x y↔Q x y):Cov n Q:=let ⟨ts,a,b⟩:=h;⟨ts,a,fun x y=>(b x y).trans (e x y)⟩
def GrF (p:Pic)(ps:List (List Blk))(x y:Int):Prop:=∃u v,Off ps u v/\az p (x-u) (y-v)
theorem j6 (N:Str)(hN:NS.contains N=true)(ps:List (List Blk))(hf:FOk ps)(p:Pic)(c:ao p)(hs:∀post bs pre,ps=post++bs::pre->∃n,Cov n (GrF p pre)/\aM bs * n<=10000) :
  ∃q:Pic,aK [ap N ps,am p]=some (am q)/\ao q/\∀x y,az q x y↔GrF p ps x y:=by
 obtain⟨ρ',k1,q,v2,rfl,b1,b3⟩:=aS (g:=af 2) (m:=cA) eT (fun pre ρ=>∃(q:Pic) (v2:Sl),ρ=[.sh (ap N ps),.sh (am q),v2]/\ao q/\∀x y,az q x y↔GrF p pre.reverse x y) ps.reverse [.sh (ap N ps),.sh (am p),.un] ⟨p,_,rfl,c,fun x y=>⟨fun h=>⟨0,0,⟨rfl,rfl⟩,by simpa using h⟩,fun⟨u,v,⟨hu,hv⟩,h⟩=>by subst hu hv;simpa using h⟩⟩ (by
  rintro pre bs post _ e ⟨q,v2,rfl,cq,l2⟩;have e':ps=post.reverse++(bs::pre.reverse):=by have:=TQ List.reverse e;rw[List.reverse_reverse] at this;rw[this];simp
  have hbs:=hf bs (by rw[e'];simp);obtain⟨n,hcov,hn⟩:=hs _ _ _ e';have hl:=jb cq l2 hcov;have hp3:aM bs * (ah q).length<=aM bs * n:=VM _ hl;obtain⟨q',c1,c2,c3,c4⟩:=lG q cq bs hbs.2 (by lia);have er:(pre++[bs]).reverse=bs::pre.reverse:=by simp
  refine⟨_,[.sh (ap N ps),.sh (am q'),.sh (eT bs)],rfl,.inl ?_,q',_,rfl,c2,fun x y=>?_⟩
  ·simp[cA,c1]
  ·rw[er,c4,Kv];constructor
   ·rintro⟨u,v,h1,h2⟩;obtain⟨u',v',h3,h4⟩:=(l2 _ _).mp h2;exact⟨u+u',v+v',⟨u,v,h1,by rwa[show u+u'-u=u' by lia,show v+v'-v=v' by lia]⟩,by rwa[show x-(u+u')=x-u-u' by lia,show y-(v+v')=y-v-v' by lia]⟩
   ·rintro⟨u,v,⟨u',v',h1,h3⟩,h2⟩
    exact⟨u',v',h1,(l2 _ _).mpr ⟨u-u',v-v',h3,by rwa[show x-u'-(u-u')=x-u by lia,show y-v'-(v-v')=y-v by lia]⟩⟩)
 refine⟨q,?_,b1,fun x y=>by rw[b3,List.reverse_reverse]⟩;have ef:l9 NS "parts" (ak 0) [.sh (ap N ps),.sh (am p),.un]=some (bx ps):=by show (if NS.contains N then wu ["parts"] [bx ps] "parts" else none)=_;rw[Tn hN];rfl
 rw[List.map_reverse] at k1;have er:yu (ad (l9 NS "parts" (ak 0)) ai) [.sh (ap N ps),.sh (am p),.un]=some (ps.map eT).reverse:=by unfold yu ad ai;rw[ef];rfl
 have ex:dA [.sh (ap N ps),.sh (am p),.un]=some (.rt (am q)):=by
  unfold dA;have e1:bg (yu (ad (l9 NS "parts" (ak 0)) ai)) (af 2) cA [.sh (ap N ps),.sh (am p),.un]=some (.nx [.sh (ap N ps),.sh (am q),v2]):=by unfold bg;rw[er];exact k1
  rw[aw e1];rfl
 exact uu (n:=3) (ds:=[ap N ps,am p]) ex
theorem pO (N:Str)(hN:NS.contains N=true)(ps:List (List Blk))(hf:FOk ps)(hlo:O7 ps)(p:Pic)(c:ao p)(hp:p.length<=1000)(hs:∀pre bs post,ps=pre++bs::post->∃n,Cov n (we p pre)/\n<=1000/\aM bs * n<=10000) :
  ∃q:Pic,bF [ap N ps,am p]=some (am q)/\ao q/\q.length<=p.length/\∀x y,az q x y↔we p ps x y:=by
 obtain⟨ρ',k1,q,v2,rfl,b1,b0,b3⟩:=aS (g:=af 2) (m:=cB) eT (fun pre ρ=>∃(q:Pic) (v2:Sl),ρ=[.sh (ap N ps),.sh (am q),v2]/\ao q/\q.length<=p.length/\∀x y,az q x y↔we p pre x y) ps [.sh (ap N ps),.sh (am p),.un] ⟨p,_,rfl,c,Tw _,fun x y=>⟨fun h u v ⟨hu,hv⟩=>by subst hu hv;simpa using h,fun h=>by simpa using h 0 0 ⟨rfl,rfl⟩⟩⟩ (by
  rintro pre bs post _ e ⟨q,v2,rfl,cq,lq,l2⟩;have hbs:=hf bs (by rw[e];simp);obtain⟨n,hcov,hn1,hn⟩:=hs _ _ _ e;have hl:=jb cq l2 hcov;have hp3:aM bs * (ah q).length<=aM bs * n:=VM _ hl;obtain⟨q',c1,c2,c3,c4,c5⟩:=lI q cq bs hbs.1 hbs.2 (by lia) (fun z hz=>by have:=bZ hz;lia) (hlo bs (by rw[e];simp)) (by lia);refine⟨_,[.sh (ap N ps),.sh (am q'),.sh (eT bs)],rfl,.inl ?_,q',_,rfl,c2,by lia,fun x y=>?_⟩
  ·simp[cB,c1]
  ·rw[c5,Hi];unfold we;constructor
   ·intro h u v ho;obtain⟨u',v',h1,h2⟩:=(A9 pre bs u v).mp ho;have:=(l2 _ _).mp (h _ _ h2) u' v' h1;rwa[show x+(u-u')+u'=x+u by lia,show y+(v-v')+v'=y+v by lia] at this
   ·intro h u v hu;rw[l2];intro u' v' h1;have:=h (u+u') (v+v') ((A9 pre bs _ _).mpr ⟨u',v',h1,by rwa[show u+u'-u'=u by lia,show v+v'-v'=v by lia]⟩)
    rwa[show x+(u+u')=x+u+u' by lia,show y+(v+v')=y+v+v' by lia] at this)
 refine⟨q,?_,b1,b0,b3⟩;have ef:l9 NS "parts" (ak 0) [.sh (ap N ps),.sh (am p),.un]=some (bx ps):=by show (if NS.contains N then wu ["parts"] [bx ps] "parts" else none)=_;rw[Tn hN];rfl
 have ex:dB [.sh (ap N ps),.sh (am p),.un]=some (.rt (am q)):=by
  unfold dB;have e1:bg (xIt (l9 NS "parts" (ak 0))) (af 2) cB [.sh (ap N ps),.sh (am p),.un]=some (.nx [.sh (ap N ps),.sh (am q),v2]):=by unfold bg xIt;rw[ef];exact k1
  rw[aw e1];rfl
 exact uu (n:=3) (ds:=[ap N ps,am p]) ex
noncomputable def oX (b c:Blk):Blk:=(b.1+c.1,b.2.1+c.2.1,b.2.2.1+c.2.2.1,b.2.2.2+c.2.2.2)
noncomputable def aq (ps:List (List Blk)):List Blk:=ps.filterMap fun bs=>if bs.length=1 then bs.head? else none
noncomputable def c8 (ss:List Blk):Blk:=ss.foldr oX (0,0,0,0)
noncomputable def bM (ps:List (List Blk)):List (List Blk):=ps.filter fun bs=>decide (1<bs.length)
noncomputable def vN (ps:List (List Blk)):List (List Blk):=[c8 (aq ps)]::bM ps
theorem Aj {b c:Blk}(hb:BOk b)(hc:BOk c)(x y:Int):jV (oX b c) x y↔∃u v,jV b u v/\jV c (x-u) (y-v):=by
 obtain⟨h1,h2⟩:=hb;obtain⟨h3,h4⟩:=hc;unfold jV oX;dsimp only;constructor
 ·rintro⟨k1,k2,k3,k4⟩;exact⟨max b.1 (x-c.2.2.1),max b.2.1 (y-c.2.2.2),⟨by lia,by lia,by lia,by lia⟩,by lia,by lia,by lia,by lia⟩
 ·rintro⟨u,v,⟨a1,a2,a3,a4⟩,b1,b2,b3,b4⟩;exact⟨by lia,by lia,by lia,by lia⟩
theorem Kc {b c:Blk}(hb:BOk b)(hc:BOk c):BOk (oX b c):=by obtain⟨h1,h2⟩:=hb;obtain⟨h3,h4⟩:=hc;exact⟨by unfold oX;dsimp only;lia,by unfold oX;dsimp only;lia⟩
theorem zP:∀ {ss:List Blk},(∀b∈ss,BOk b)->BOk (c8 ss)
 |[],_=>⟨TN _,TN _⟩
 |b::ss,h=>Kc (h b Tx) (zP fun c hc=>h c (TC _ hc))
theorem fF (b:Blk)(x y:Int):B6 [b] x y↔jV b x y:=by
 constructor
 ·rintro⟨c,hc,h⟩;rw[Ts] at hc;subst hc;exact h
 ·intro h;exact⟨b,Ts.mpr rfl,h⟩
theorem nU:∀(a b:List (List Blk)) (x y:Int),Off (a++b) x y↔∃u v,Off a u v/\Off b (x-u) (y-v)
 |[],b,x,y=>by
  constructor
  ·intro h;exact⟨0,0,⟨rfl,rfl⟩,by simpa using h⟩
  ·rintro⟨u,v,⟨rfl,rfl⟩,h⟩;simpa using h
 |bs::a,b,x,y=>by
  constructor
  ·rintro⟨u,v,h1,h2⟩;obtain⟨u',v',h3,h4⟩:=(nU a b _ _).mp h2;exact⟨u+u',v+v',⟨u,v,h1,by rwa[show u+u'-u=u' by lia,show v+v'-v=v' by lia]⟩,by rwa[show x-(u+u')=x-u-u' by lia,show y-(v+v')=y-v-v' by lia]⟩
  ·rintro⟨u,v,⟨u',v',h1,h2⟩,h3⟩;exact⟨u',v',h1,(nU a b _ _).mpr ⟨u-u',v-v',h2,by rwa[show x-u'-(u-u')=x-u by lia,show y-v'-(v-v')=y-v by lia]⟩⟩
theorem Ij (a b:List Blk)(r:List (List Blk))(x y:Int):Off (a::b::r) x y↔Off (b::a::r) x y:=by
 have key:∀(a b:List Blk),Off (a::b::r) x y->Off (b::a::r) x y:=by rintro a b ⟨u,v,h1,u',v',h2,h3⟩;exact⟨u',v',h2,u,v,h1,by rwa[show x-u'-u=x-u-u' by lia,show y-v'-v=y-v-v' by lia]⟩
 exact⟨key a b,key b a⟩
theorem u3 {r r':List (List Blk)}(bs:List Blk)(h:∀x y,Off r x y↔Off r' x y)(x y:Int):Off (bs::r) x y↔Off (bs::r') x y:=by
 constructor
 ·rintro⟨u,v,h1,h2⟩;exact⟨u,v,h1,(h _ _).mp h2⟩
 ·rintro⟨u,v,h1,h2⟩;exact⟨u,v,h1,(h _ _).mpr h2⟩
theorem vD {ps:List (List Blk)}(h:FOk ps):∀b∈aq ps,BOk b:=by
 intro b hb;obtain⟨bs,h1,h2⟩:=List.mem_filterMap.mp hb;split at h2
 ·exact (h bs h1).2 b (List.mem_of_mem_head? h2)
 ·cases h2
theorem D9:∀ {ps:List (List Blk)},FOk ps->∀x y,Off (vN ps) x y↔Off ps x y
 |[],_,x,y=>by
  constructor
  ·rintro⟨u,v,h1,h2,h3⟩;have h4:=(fF _ _ _).mp h1;obtain⟨k1,k2,k3,k4⟩:=h4;simp only[aq,c8,List.filterMap_nil,List.foldr_nil] at k1 k2 k3 k4;exact⟨by lia,by lia⟩
  ·rintro⟨rfl,rfl⟩;exact⟨0,0,(fF _ _ _).mpr ⟨TN _,TN _,TN _,TN _⟩,rfl,rfl⟩
 |bs::r,h,x,y=>by
  have hr:FOk r:=fun z hz=>h z (TC _ hz);have ih:=D9 hr;obtain⟨hne,hb⟩:=h bs Tx;by_cases h1:bs.length=1
  ·obtain⟨b,rfl⟩:=WH.mp h1;have e1:aq ([b]::r)=b::aq r:=by simp[aq]
   have e2:bM ([b]::r)=bM r:=by simp[bM]
   have hbb:=hb b (Ts.mpr rfl);have ht:=zP (vD hr);have e3:vN ([b]::r)=[oX b (c8 (aq r))]::bM r:=by unfold vN;rw[e1,e2];rfl
   rw[e3];constructor
   ·rintro⟨u,v,k1,k2⟩;obtain⟨u',v',k3,k4⟩:=(Aj hbb ht u v).mp ((fF _ _ _).mp k1);refine⟨u',v',(fF _ _ _).mpr k3,(ih _ _).mp ⟨u-u',v-v',(fF _ _ _).mpr k4,?_⟩⟩;rwa[show x-u'-(u-u')=x-u by lia,show y-v'-(v-v')=y-v by lia]
   ·rintro⟨u,v,k1,k2⟩;obtain⟨u',v',k3,k4⟩:=(ih _ _).mpr k2;refine⟨u+u',v+v',(fF _ _ _).mpr ((Aj hbb ht _ _).mpr ⟨u,v,(fF _ _ _).mp k1,?_⟩),?_⟩
    ·rw[show u+u'-u=u' by lia,show v+v'-v=v' by lia];exact (fF _ _ _).mp k3
    ·rwa[show x-(u+u')=x-u-u' by lia,show y-(v+v')=y-v-v' by lia]
  ·have hl:1<bs.length:=by
    have:=List.length_pos_iff.mpr hne;lia
   have e1:aq (bs::r)=aq r:=by simp[aq,h1]
   have e2:bM (bs::r)=bs::bM r:=by simp[bM,hl]
   have e3:vN (bs::r)=[c8 (aq r)]::bs::bM r:=by unfold vN;rw[e1,e2]
   rw[e3,Ij];exact u3 bs ih x y
theorem LA {ps:List (List Blk)}(h:FOk ps):FOk (vN ps):=by
 intro bs hbs;rcases TD.mp hbs with rfl|hbs
 ·exact⟨by simp,fun b hb=>by rw[Ts] at hb;subst hb;exact zP (vD h)⟩
 ·exact h bs (T4.mp hbs).1
theorem pS (ns:List Int):wf [.lst (ns.map D.int)]=some (.int ns.sum):=by
 have:aY (ns.map D.int)=some ns:=by
  induction ns with
  |nil=>rfl
  |cons n ns ih=>simp[aY,ih]
 simp[wf,this]
theorem Gj (ss:List Blk):c8 ss=((ss.map fun b=>b.1).sum,(ss.map fun b=>b.2.1).sum,(ss.map fun b=>b.2.2.1).sum,(ss.map fun b=>b.2.2.2).sum):=by
 induction ss with
 |nil=>rfl
 |cons b ss ih=>show oX b (c8 ss)=_;rw[ih];simp[oX]
theorem D1:∀ps:List (List Blk),ps.filterMap (fun bs=>if 1<bs.length then some (eT bs) else none)=(bM ps).map eT
 |[]=>rfl
 |bs::r=>by have ih:=D1 r;unfold bM at ih ⊢;by_cases h:1<bs.length<;>simp[h,ih]
theorem pk (ps:List (List Blk))(hl:ps.length<=1000):fv [bx ps]=some (bx (vN ps)):=by
 have l1:ps.length<=LIM:=aC (by lia);have hs:(aq ps).length<=ps.length:=List.length_filterMap_le _ _;have l2:(aq ps).length<=LIM:=aC (by lia);have l3:(bM ps).length<=ps.length:=UJ _ _;have l4:1+(bM ps).length<=LIM:=aC (by lia);have l5:(bM ps).length+1<=LIM:=aC (by lia);have c1:a6 (af 0) (xB (xOp (dEq false) (xCB gS (ad (ag 0) ai)) (xC (.int 1)))) (xOp dIx (ag 0) (xC (.int 0))) [.un] (ps.map eT)=some ((aq ps).map bL):=by
  rw[iu eT (fun bs=>if bs.length=1 then (bs.head?).map bL else none) ps fun bs _=>by
   by_cases h:bs.length=1
   ·obtain⟨b,rfl⟩:=WH.mp h;simp[cU,atI,ixN]
   ·have h':¬((bs.length:Int)=1):=by lia
    simp[cU,h,h']]
  congr 1;unfold aq;rw[List.map_filterMap];congr 1
  funext bs
  by_cases h:bs.length=1<;>simp[h]
 have c3:a6 (af 0) (xB (xOp dGt (xCB gS (ad (ag 0) ai)) (xC (.int 1)))) (ak 0) [.un] (ps.map eT)=some ((bM ps).map eT):=by
  rw[iu eT (fun bs=>if 1<bs.length then some (eT bs) else none) ps fun bs _=>by
   by_cases h:1<bs.length
   ·have h':(1:Int)<bs.length:=by lia
    simp[cU,h,h']
   ·have h':¬((1:Int)<bs.length):=by lia
    simp[cU,h,h']]
  exact TQ some (D1 ps)
 have inner:∀(k:Int) (f:Blk->Int),(∀b:Blk,atI [D.int b.1,.int b.2.1,.int b.2.2.1,.int b.2.2.2] k=some (.int (f b)))->a6 (af 0) bw (xOp dIx (ag 0) (ag 1)) [.un,.sh (.int k)] ((aq ps).map bL)=some (((aq ps).map f).map D.int):=by
  intro k f hf;rw[TU];exact aN bL (D.int∘f) (aq ps) fun b _=>by have:=hf b;simp[cU,this]
 have e4:dr 0 4=([0,1,2,3]:List Int).map D.int:=rfl;have tog:=Gj (aq ps);have c2:a6 (af 0) bw (xCB wf (ad (xL (bH [none,some 0] (xIt (ag 1)) (af 0) bw (xOp dIx (ag 0) (ag 1)))) ai)) [.un,.sh (.lst ((aq ps).map bL))] (dr 0 4)=some [.int (c8 (aq ps)).1,.int (c8 (aq ps)).2.1,.int (c8 (aq ps)).2.2.1,.int (c8 (aq ps)).2.2.2]:=by
  rw[e4,tog];dsimp only;rw[aN D.int (fun k=>if k=0 then .int ((aq ps).map fun b=>b.1).sum else if k=1 then .int ((aq ps).map fun b=>b.2.1).sum else if k=2 then .int ((aq ps).map fun b=>b.2.2.1).sum else .int ((aq ps).map fun b=>b.2.2.2).sum) [0,1,2,3] fun k hk=>by
   have i0:=inner 0 (fun b=>b.1) fun b=>rfl;have i1:=inner 1 (fun b=>b.2.1) fun b=>rfl;have i2:=inner 2 (fun b=>b.2.2.1) fun b=>rfl;have i3:=inner 3 (fun b=>b.2.2.2) fun b=>rfl;have s0:=pS ((aq ps).map fun b=>b.1);have s1:=pS ((aq ps).map fun b=>b.2.1);have s2:=pS ((aq ps).map fun b=>b.2.2.1);have s3:=pS ((aq ps).map fun b=>b.2.2.2);generalize ((aq ps).map fun b=>b.1).map D.int=z0 at i0 s0;generalize ((aq ps).map fun b=>b.2.1).map D.int=z1 at i1 s1;generalize ((aq ps).map fun b=>b.2.2.1).map D.int=z2 at i2 s2;generalize ((aq ps).map fun b=>b.2.2.2).map D.int=z3 at i3 s3;simp only[TD,VI,or_false] at hk;rcases hk with rfl|rfl|rfl|rfl
   ·simp[cU,l2,i0,s0]
   ·simp[cU,l2,i1,s1]
   ·simp[cU,l2,i2,s2]
   ·simp[cU,l2,i3,s3]]
  rfl
 have es:bx (vN ps) = .tup ([.tup [bL (c8 (aq ps))]]++(bM ps).map eT):=rfl;rw[es];have lm:((bM ps).map eT).length=(bM ps).length:=Tt ..;generalize (bM ps).map eT=ms at c3 lm;have l6:1+ms.length<=LIM:=by lia
 have hr:rg [.int 4]=some (dr 0 4):=Qk (by decide);have lf:(dr 0 4).length<=LIM:=aC (by decide);have lt:4<=LIM:=aC (by decide);have lo:1<=LIM:=aC (by decide);generalize c8 (aq ps)=tb at c2;generalize dr 0 4=four at c2 hr lf;generalize (aq ps).map bL=zs at c1 c2;simp[fv,gD,fnO,e9,c1,l1,hr,lf,c2,c3,Dq,l6,lt,lo]
noncomputable def rX (gs:Pic)(t:Tri):Pic:=match gs.getLast? with
 |some g=>if g.1=t.1 then gs.dropLast++[(g.1,step g.2 t.2)] else gs++[(t.1,[t.2])]
 |none=>[(t.1,[t.2])]
theorem Fp (t:Tri):rX [] t=[(t.1,[t.2])]:=rfl
theorem uH (gs:Pic)(g:Int×R)(t:Tri):rX (gs++[g]) t=if g.1=t.1 then gs++[(g.1,step g.2 t.2)] else gs++[g]++[(t.1,[t.2])]:=by unfold rX;simp
noncomputable def pf (ts:List Tri):Pic:=ts.foldl rX []
theorem xS (pre:List Tri)(t:Tri):pf (pre++[t])=rX (pf pre) t:=by unfold pf;rw[Wm];rfl
theorem Lu (acc:R)(p:Int×Int):step acc p≠[]:=by
 rcases Uh acc with rfl|⟨t,q,rfl⟩
 ·rw[vL];simp
 ·rw[Uo,hJ];split<;>simp
theorem BP {acc:R}{p q:Int×Int}(h:q∈step acc p):q.1=p.1\/∃q'∈acc,q'.1=q.1:=by
 rcases Uh acc with rfl|⟨t,z,rfl⟩
 ·rw[vL,Ts] at h;subst h;exact .inl rfl
 ·rw[Uo] at h ⊢;rw[hJ] at h;split at h
  ·rcases TB.mp h with h|h
   ·exact .inr ⟨q,TJ _ h,rfl⟩
   ·rw[Ts] at h;subst h;exact .inr ⟨z,by simp,rfl⟩
  ·rcases TB.mp h with h|h
   ·exact .inr ⟨q,h,rfl⟩
   ·rw[Ts] at h;subst h;exact .inl rfl
structure LOk (gs:Pic) (pre:List Tri):Prop where
 can:ao gs
 mem:∀x y,az gs x y↔iY pre x y
 fst:∀g∈gs,∀q∈g.2,∃t∈pre,t.1=g.1/\t.2.1=q.1
 row:∀g∈gs,∃t∈pre,t.1=g.1
 len:gs.length<=pre.length
 lens:∀g∈gs,g.2.length<=pre.length
theorem vP (t:Tri)(x y:Int):iY [t] x y↔t.1=y/\t.2.1<=x/\x<=t.2.2:=by
 rw[yq];constructor
 ·rintro (h|⟨_,h,_⟩)
  ·exact h
  ·cases h
 ·exact .inl
theorem pG (q:Int×R)(x y:Int):az [q] x y↔q.1=y/\Mem q.2 x:=by
 rw[bi];constructor
 ·rintro (h|h)
  ·exact h
  ·exact (aU _ _ h).elim
 ·exact .inl
theorem D2 (p:Int×Int)(x:Int):Mem [p] x↔p.1<=x/\x<=p.2:=by
 rw[mem_cons];constructor
 ·rintro (h|h)
  ·exact h
  ·exact (aW _ h).elim
 ·exact .inl
theorem xw {p:Int×Int}(h:p.1<=p.2):aR [p]:=canon_cons.mpr ⟨h,fun _ h=>(by cases h),fO⟩
theorem HH {gs:Pic}{pre:List Tri}{t:Tri}(o:LOk gs pre)(ht:t.2.1<=t.2.2)(hb:∀s∈pre,s.1<t.1\/(s.1=t.1/\s.2.1<=t.2.1)):LOk (rX gs t) (pre++[t]):=by
 have hle:∀g∈gs,g.1<=t.1:=fun g hg=>by obtain⟨s,hs,e⟩:=o.row g hg;have:=hb s hs;lia
 rcases Uh gs with rfl|⟨gs0,g,rfl⟩
 ·rw[Fp];refine⟨pcanon_cons.mpr ⟨⟨xw ht,by simp⟩,fun _ h=>(by cases h),dN⟩,fun x y=>?_,fun g hg q hq=>?_,fun g hg=>?_,by simp,fun g hg=>?_⟩
  ·rw[pG,eV,<- o.mem,vP,D2];exact⟨.inr,fun h=>h.elim (fun h=>(aU _ _ h).elim) id⟩
  ·rw[Ts] at hg;subst hg;rw[Ts] at hq;subst hq;exact⟨t,by simp,rfl,rfl⟩
  ·rw[Ts] at hg;subst hg;exact⟨t,by simp,rfl⟩
  ·rw[Ts] at hg;subst hg;simp
 ·rw[Uo] at o hle ⊢;rw[uH];have hg0:g∈gs0++[g]:=by simp
  have cg:=o.can.1 g hg0;have pw:=T3.mp o.can.2;by_cases c:g.1=t.1
  ·rw[Tn c];have lo:∀q∈g.2,q.1<=t.2.1:=fun q hq=>by
    obtain⟨s,hs,e1,e2⟩:=o.fst g hg0 q hq;have:=hb s hs;lia
   obtain⟨s1,s2,s3⟩:=Ep cg.1 (p:=t.2) ht lo;refine⟨⟨fun q hq=>?_,?_⟩,fun x y=>?_,fun g' hg q hq=>?_,fun g' hg=>?_,?_,fun g' hg=>?_⟩
   ·rcases TB.mp hq with hq|hq
    ·exact o.can.1 q (TJ _ hq)
    ·rw[Ts] at hq;subst hq;exact⟨s1,Lu _ _⟩
   ·refine T3.mpr ⟨pw.1,VE _ _,fun a ha b hb=>?_⟩;rw[Ts] at hb;subst hb;exact pw.2.2 a ha g (by simp)
   ·have:=o.mem x y;rw[eU,pG] at this;rw[eU,pG,eV,<- this,vP];dsimp only;rw[s2 x];constructor
    ·rintro (h|⟨h1,h2|h2⟩)
     ·exact .inl (.inl h)
     ·exact .inl (.inr ⟨h1,h2⟩)
     ·exact .inr ⟨c.symm.trans h1,h2⟩
    ·rintro ((h|⟨h1,h2⟩)|⟨h1,h2⟩)
     ·exact .inl h
     ·exact .inr ⟨h1,.inl h2⟩
     ·exact .inr ⟨c.trans h1,.inr h2⟩
   ·rcases TB.mp hg with hg|hg
    ·obtain⟨s,hs,e⟩:=o.fst g' (TJ _ hg) q hq;exact⟨s,TJ _ hs,e⟩
    ·rw[Ts] at hg;subst hg;rcases BP hq with e|⟨q',hq',e⟩
     ·exact⟨t,by simp,c.symm,e.symm⟩
     ·obtain⟨s,hs,e1,e2⟩:=o.fst g hg0 q' hq';exact⟨s,TJ _ hs,e1,e2.trans e⟩
   ·rcases TB.mp hg with hg|hg
    ·obtain⟨s,hs,e⟩:=o.row g' (TJ _ hg);exact⟨s,TJ _ hs,e⟩
    ·rw[Ts] at hg;subst hg;exact⟨t,by simp,c.symm⟩
   ·have:=o.len;rw[Tu] at this ⊢;rw[Tu];simp at this ⊢;lia
   ·rw[Tu,TY];rcases TB.mp hg with hg|hg
    ·have:=o.lens g' (TJ _ hg);lia
    ·rw[Ts] at hg;subst hg;have:=o.lens g hg0;have:=BQ g.2 t.2;dsimp only;lia
  ·rw[To c];have hlt:∀a∈gs0++[g],a.1<t.1:=fun a ha=>by
    have h1:=hle g hg0;rcases TB.mp ha with ha|ha
    ·have:=pw.2.2 a ha g (by simp);lia
    ·rw[Ts] at ha;subst ha;lia
   refine⟨⟨fun q hq=>?_,?_⟩,fun x y=>?_,fun g' hg q hq=>?_,fun g' hg=>?_,?_,fun g' hg=>?_⟩
   ·rcases TB.mp hq with hq|hq
    ·exact o.can.1 q hq
    ·rw[Ts] at hq;subst hq;exact⟨xw ht,by simp⟩
   ·refine T3.mpr ⟨o.can.2,VE _ _,fun a ha b hb=>?_⟩;rw[Ts] at hb;subst hb;exact hlt a ha
   ·rw[eU,o.mem,pG,eV,vP,D2]
   ·rcases TB.mp hg with hg|hg
    ·obtain⟨s,hs,e⟩:=o.fst g' hg q hq;exact⟨s,TJ _ hs,e⟩
    ·rw[Ts] at hg;subst hg;rw[Ts] at hq;subst hq;exact⟨t,by simp,rfl,rfl⟩
   ·rcases TB.mp hg with hg|hg
    ·obtain⟨s,hs,e⟩:=o.row g' hg;exact⟨s,TJ _ hs,e⟩
    ·rw[Ts] at hg;subst hg;exact⟨t,by simp,rfl⟩
   ·have:=o.len;rw[Tu,Tu (bs:=[t])];simp at this ⊢;lia
   ·rw[Tu,TY];rcases TB.mp hg with hg|hg
    ·have:=o.lens g' hg;lia
    ·rw[Ts] at hg;subst hg;simp
theorem DV:∀(post pre:List Tri),(∀t∈pre++post,t.2.1<=t.2.2)->(pre++post).Pairwise (fun p q=>p.1<q.1\/(p.1=q.1/\p.2.1<=q.2.1))->LOk (pf pre) pre->LOk (pf (pre++post)) (pre++post)
 |[],pre,_,_,o=>by rw[Ue];exact o
 |t::post,pre,h1,h2,o=>by
  have e:pre++t::post=(pre++[t])++post:=by simp
  rw[e] at h1 h2 ⊢;refine DV post (pre++[t]) h1 h2 ?_;rw[xS];refine HH o (h1 t (by simp)) fun s hs=>?_;exact (T3.mp (T3.mp h2).1).2.2 s hs t (by simp)
theorem KG:LOk (pf []) []:=⟨dN,fun x y=>⟨fun h=>(aU _ _ h).elim,fun⟨_,h,_⟩=>(by cases h)⟩,fun _ h=>(by cases h),fun _ h=>(by cases h),Tw _,fun _ h=>(by cases h)⟩
theorem F8 (ps:R):(kH ps).Pairwise fun p q=>p.1<q.1\/(p.1=q.1/\p.2<=q.2):=by
 have h:=pP (ps.map uG);rw[<- oj,Um] at h;refine h.imp fun {p q} e=>?_;have e':(if q.1=p.1 then (if q.2=p.2 then false else decide (q.2<p.2)) else decide (q.1<p.1))=false:=e;by_cases hq:q.1=p.1
 ·rw[Tn hq] at e';by_cases hr:q.2=p.2
  ·exact .inr ⟨hq.symm,by lia⟩
  ·rw[To hr] at e';have:=UD e';exact .inr ⟨hq.symm,by lia⟩
 ·rw[To hq] at e';have:=UD e';exact .inl (by lia)
theorem G4 (l:List D)(z:D):iw (l++[z]) none (some (-1))=l:=by
 have h1:HT.sIx (l.length+1) (l.length+1) (some (-1))=l.length:=by unfold HT.sIx;simp;try lia
 have h0:HT.sIx (l.length+1) 0 none=0:=rfl;unfold iw;rw[Tu,TY,h0,h1];simp
theorem Bp (s0:Sl)(gs:Pic)(c:Int×Int)(h:gs.length<=1000)(hg:∀g∈gs,g.2.length<=1000/\g.2≠[])(hm:∀g∈gs,g.1=c.1->∀q∈g.2,q.2<=c.2):cK [s0,owl (gs.map pyD),.sh (.int c.1),.sh (.int c.2)]=some (.nx [s0,owl ((rX gs (c.1,c.2,c.2)).map pyD),.sh (.int c.1),.sh (.int c.2)]):=by
 have l1:1<=LIM:=aC (by lia);have l2:2<=LIM:=aC (by lia);rcases Uh gs with rfl|⟨gs0,g,rfl⟩
 ·simp[cK,rX,l1,l2,prD]
 ·rw[Uo] at *;rw[uH];have hl:gs0.length+1<=1000:=by simpa using h
  have hlim:gs0.length+1<LIM:=ci (by lia);obtain⟨hgl,hgn⟩:=hg g (by simp);have hmm:=hm g (by simp);have hg2:g.2.length+1<=LIM:=aC (by lia);have at1:atI (gs0.map pyD++[pyD g]) (-1)=some (pyD g):=gu _ _;have hne:¬(gs0.length:Int)+1=0:=by lia
  obtain⟨y,r⟩:=g;dsimp only at hgl hgn hg2 at1 hmm ⊢;rcases Uh r with rfl|⟨r0,q,rfl⟩
  ·exact absurd rfl hgn
  rw[Uo] at *;rw[hJ];have at2:atI (r0.map prD++[prD q]) (-1)=some (prD q):=gu _ _;by_cases hc:y=c.1
  ·have hq:=hmm hc q (by simp);by_cases hx:c.2<=q.2+1
   ·have hx':¬q.2+1<c.2:=by lia
    have hr0:r0.length+1<=LIM:=aC (by rw[Tu] at hgl;simp at hgl;lia);rw[Tn hc,Tn hx];have cl:=G4 (r0.map prD) (prD q);simp[cK,at1,at2,hc,hx',hne,l1,l2,dSl,cl,lB,aP,hr0];lia
   ·have hx':q.2+1<c.2:=by lia
    have hr0:r0.length+1+1<=LIM:=aC (by rw[Tu] at hgl;simp at hgl;lia);rw[Tn hc,To hx];simp[cK,at1,at2,hc,hx',hne,l1,l2,lB,aP,hr0]
  ·rw[To hc];simp[cK,at1,hc,hlim,hne,l1,l2]
theorem kx (cs:R)(hl:cs.length<=1000):∃q:Pic,qK [.lst (cs.map prD)]=some (am q)/\ao q/\(∀x y,az q x y↔(x,y)∈cs)/\(ah q).length<=cs.length:=by
 have l2:2<=LIM:=aC (by lia);have hL:cs.length<=LIM:=aC (by lia);have c1:a6 (aF (aj (af 0) (aj (af 1) aE))) bw (aJ (ad (ak 1) (ad (ak 0) ai))) [.un,.un] (cs.map prD)=some ((cs.map fun c=>(c.2,c.1)).map prD):=by rw[TU];exact aN prD _ cs fun c _=>by simp[cU,l2]
 have hb:=rN (cs.map fun c=>(c.2,c.1)) (by rw[Tt];lia);have hlex:=F8 (cs.map fun c=>(c.2,c.1));have hperm:=f7 (cs.map fun c=>(c.2,c.1));generalize kH (cs.map fun c=>(c.2,c.1))=sp at *;have hsl:sp.length=cs.length:=by have:=hperm.length_eq;rw[Tt] at this;lia
 have hok:∀pre post:R,sp=pre++post->LOk (pf (pre.map fun c=>(c.1,c.2,c.2))) (pre.map fun c=>(c.1,c.2,c.2)):=fun pre post e=>by
  have h2:(pre.map fun c:Int×Int=>((c.1,c.2,c.2):Tri)).Pairwise fun p q=>p.1<q.1\/(p.1=q.1/\p.2.1<=q.2.1):=by rw[Um];rw[e] at hlex;exact (T3.mp hlex).1
  have:=DV (pre.map fun c:Int×Int=>((c.1,c.2,c.2):Tri)) [] (fun t ht=>by
   rw[VH] at ht;obtain⟨c,_,rfl⟩:=Ty.mp ht
   exact TN _) (by rw[VH];exact h2) KG
  rw[VH] at this;exact this
 obtain⟨ρ',k1,v2,v3,rfl⟩:=aS (g:=aF (aj (af 2) (aj (af 3) aE))) (m:=cK) prD (fun pre ρ=>∃v2 v3:Sl,ρ=[.sh (.lst (cs.map prD)),owl ((pf (pre.map fun c=>(c.1,c.2,c.2))).map pyD),v2,v3]) sp [.sh (.lst (cs.map prD)),.ow (.lst []),.un,.un] ⟨.un,.un,rfl⟩ fun pre c post ρ e hpt0=>by
  obtain⟨v2,v3,hρ⟩:=hpt0;subst hρ;have o:=hok pre (c::post) e;have hpl:pre.length<sp.length:=by rw[e,Tu,Tz];lia
  have hlen:=o.len;rw[Tt] at hlen;have ht:=Bp (.sh (.lst (cs.map prD))) (pf (pre.map fun c=>(c.1,c.2,c.2))) c (by lia) (fun g hg=>⟨by have:=o.lens g hg;rw[Tt] at this;lia,(o.can.1 g hg).2⟩) fun g hg e1 q hq=>by obtain⟨t,ht,e2,e3,e4⟩:=(o.mem q.2 g.1).mp ⟨g,hg,rfl,q,hq,(o.can.1 g hg).1.1 q hq,TN _⟩;obtain⟨d,hd,rfl⟩:=Ty.mp ht;rw[e] at hlex;have:=(T3.mp hlex).2.2 d hd c Tx;dsimp only at e2 e3 e4;lia
  refine⟨_,_,rfl,.inl ht,.sh (.int c.1),.sh (.int c.2),?_⟩;rw[T7,TF,VA,xS]
 have o:=hok sp [] (by simp);have hm:∀x y,az (pf (sp.map fun c=>(c.1,c.2,c.2))) x y↔(x,y)∈cs:=fun x y=>by
  rw[o.mem x y];constructor
  ·rintro⟨t,ht,e1,e2,e3⟩;obtain⟨c,hc,rfl⟩:=Ty.mp ht;obtain⟨d,hd,e4⟩:=Ty.mp (hperm.mem_iff.mp hc);subst e4;dsimp only at e1 e2 e3;have:d=(x,y):=by
    obtain⟨a,b⟩:=d;dsimp only at e1 e2 e3;rw[e1,show a=x by lia]
   rw[<- this];exact hd
  ·intro h;exact⟨(y,x,x),Ty.mpr ⟨(y,x),hperm.mem_iff.mpr (Ty.mpr ⟨(x,y),h,rfl⟩),rfl⟩,rfl,TN _,TN _⟩
 have hE:fL (sp.map fun c=>(c.1,c.2,c.2))=pf (sp.map fun c=>(c.1,c.2,c.2)):=vh o.can fun x y=>(o.mem x y).symm;refine⟨pf (sp.map fun c=>(c.1,c.2,c.2)),?_,o.can,hm,?_⟩
 ·show _=some (D.tup ((pf (sp.map fun c=>(c.1,c.2,c.2))).map pyD));clear hm hE o;generalize (pf (sp.map fun c=>(c.1,c.2,c.2))).map pyD=G at *;have hb':eI [.lst ((cs.map fun c=>(c.2,c.1)).map prD)]=some (sp.map prD):=hb;generalize (cs.map fun c=>(c.2,c.1)).map prD=CC at *;generalize sp.map prD=SP at *;have hrun:jH [.sh (.lst (cs.map prD)),.un,.un,.un]=some (.rt (.tup G)):=by
   simp[jH,hL,c1,hb',wN,k1]
  exact uu (n:=4) (ds:=[.lst (cs.map prD)]) hrun
 ·have:=jP (sp.map fun c=>(c.1,c.2,c.2));rw[hE,Tt] at this;lia
theorem uS (r:R)(h:r.length<=30000):jg [bI r]=some (.int (count r)):=by
 have hl:r.length<=LIM:=aC (by lia);have hc:a6 (aF (aj (af 0) (aj (af 1) aE))) bw (xOp aP (xOp eY (ag 1) (ag 0)) (xC (.int 1))) [.un,.un] (r.map prD)=some (r.map fun p=>.int (p.2-p.1+1)):=aN prD _ r fun p _=>by simp[cU]
 have hi:wf [.lst (r.map fun p=>.int (p.2-p.1+1))]=some (.int (count r)):=by
  have e:(r.map fun p=>D.int (p.2-p.1+1))=(r.map fun p=>p.2-p.1+1).map D.int:=by rw[TU];rfl
  rw[e];show (aY _).map _=_;rw[fm];rfl
 simp[jg,kb,fnO,i8,hl,hc,hi]
noncomputable def cnt (p:Pic):Int:=(p.map fun q=>count q.2).sum
noncomputable def wU (ts:List Tri):Int:=(ts.map fun t=>t.2.2-t.2.1+1).sum
theorem qL (p:Pic)(h:p.length<=30000)(hr:∀q∈p,q.2.length<=30000):gh [am p]=some (.int (cnt p)):=by
 have hl:p.length<=LIM:=aC (by lia);have hc:a6 (aF (aj (af 0) (aj (af 1) aE))) bw (av jg (ad (ak 1) ai)) [.un,.un] (p.map pyD)=some (p.map fun q=>.int (count q.2)):=aN pyD _ p fun q hq=>by have:=uS q.2 (hr q hq);simp[cU,this]
 have hi:wf [.lst (p.map fun q=>.int (count q.2))]=some (.int (cnt p)):=by
  have e:(p.map fun q=>D.int (count q.2))=(p.map fun q=>count q.2).map D.int:=by rw[TU];rfl
  rw[e];show (aY _).map _=_;rw[fm];rfl
 simp[gh,iH,fnO,f9,hl,hc,hi]
theorem BS (a b:List Tri):wU (a++b)=wU a+wU b:=by unfold wU;rw[T7,V5]
theorem Gh (t:Tri)(b:List Tri):wU (t::b)=t.2.2-t.2.1+1+wU b:=by unfold wU;rw[TF,UF]
theorem DE:∀p:Pic,cnt p=wU (ah p)
 |[]=>rfl
 |q::p=>by rw[aZ,BS,<- DE p];unfold cnt;rw[TF,UF];congr 1;unfold wU count;rw[TU];rfl
noncomputable def zs (lo:Int):Nat->List Int
 |0=>[]
 |n+1=>lo::zs (lo+1) n
theorem J2:∀(n:Nat) (lo:Int),(zs lo n).length=n
 |0,_=>rfl
 |n+1,lo=>by rw[zs,Tz,J2 n]
theorem qR:∀(n:Nat) (lo x:Int),x∈zs lo n↔lo<=x/\x<lo+n
 |0,lo,x=>by simp[zs]
 |n+1,lo,x=>by rw[zs,TD,qR n];lia
noncomputable def k8 (t:Tri):R:=(zs t.2.1 (t.2.2+1-t.2.1).toNat).map fun x=>(x,t.1)
noncomputable def k7 (ts:List Tri):R:=ts.flatMap k8
theorem rR (t:Tri)(b:List Tri):k7 (t::b)=k8 t++k7 b:=rfl
theorem Cj (t:Tri):(k8 t).length=(t.2.2+1-t.2.1).toNat:=by unfold k8;rw[Tt,J2]
theorem ub:∀ts:List Tri,(∀t∈ts,t.2.1<=t.2.2)->((k7 ts).length:Int)=wU ts
 |[],_=>rfl
 |t::ts,h=>by rw[rR,Tu,Gh,Cj];have h1:=ub ts fun s hs=>h s (TC _ hs);have h2:=h t Tx;lia
theorem CO (ts:List Tri)(x y:Int):(x,y)∈k7 ts↔iY ts x y:=by
 unfold k7;rw[Vr];constructor
 ·rintro⟨t,ht,h⟩;obtain⟨z,hz,e⟩:=Ty.mp h;cases e;have:=(qR _ _ _).mp hz;exact⟨t,ht,rfl,by lia,by lia⟩
 ·rintro⟨t,ht,h1,h2,h3⟩;exact⟨t,ht,Ty.mpr ⟨x,(qR _ _ _).mpr ⟨h2,by lia⟩,by rw[h1]⟩⟩
theorem Jy {p:Pic}(c:ao p):∀t∈ah p,t.2.1<=t.2.2:=fun t ht=>by obtain⟨q,hq,h⟩:=Vr.mp ht;obtain⟨s,hs,rfl⟩:=Ty.mp h;exact (c.1 q hq).1.1 s hs
def Sep (s t:Tri):Prop:=s.1<t.1\/(s.1=t.1/\s.2.2+2<=t.2.1)
theorem Jz:∀ {p:Pic},ao p->(ah p).Pairwise Sep
 |[],_=>.nil
 |q::p,c=>by
  obtain⟨⟨h1,_⟩,h2,h3⟩:=pcanon_cons.mp c;rw[aZ];refine T3.mpr ⟨?_,Jz h3,fun s hs t ht=>?_⟩
  ·rw[Um];exact h1.2.imp fun h=>.inr ⟨rfl,h⟩
  ·obtain⟨a,_,rfl⟩:=Ty.mp hs;obtain⟨g,hg,hb⟩:=Vr.mp ht;obtain⟨b,_,rfl⟩:=Ty.mp hb;exact .inl (h2 g hg)
theorem B1:∀(n:Nat) (lo:Int),(zs lo n).Nodup
 |0,_=>.nil
 |n+1,lo=>by rw[zs];refine Uk.mpr ⟨fun z=>?_,B1 n _⟩;have:=(qR n (lo+1) lo).mp z;lia
theorem yM (t:Tri):(k8 t).Nodup:=by unfold k8;exact List.Pairwise.map _ (fun a b h e=>h (by injection e)) (B1 _ _)
theorem uW (t:Tri)(c:Int×Int):c∈k8 t↔c.2=t.1/\t.2.1<=c.1/\c.1<=t.2.2:=by
 unfold k8;rw[Ty];constructor
 ·rintro⟨x,hx,rfl⟩;have:=(qR _ _ _).mp hx;refine⟨rfl,?_⟩;dsimp only;lia
 ·rintro⟨h1,h2,h3⟩;exact⟨c.1,(qR _ _ _).mpr (by lia),by rw[<- h1]⟩
theorem rS:∀ts:List Tri,ts.Pairwise Sep->(k7 ts).Nodup
 |[],_=>.nil
 |t::ts,h=>by obtain⟨h1,h2⟩:=U0.mp h;rw[rR];refine Vc.mpr ⟨yM t,rS ts h2,fun a ha b hb e=>?_⟩;subst e;have a1:=(uW t a).mp ha;obtain⟨s,hs,hb⟩:=Vr.mp hb;have a2:=(uW s a).mp hb;rcases h1 s hs with z|z<;>lia
theorem zo {p:Pic}(c:ao p):(k7 (ah p)).Nodup:=rS _ (Jz c)
theorem G0 {p:Pic}(c:ao p){l:R}(nd:l.Nodup)(hm:∀x y,(x,y)∈l↔az p x y):cnt p=(l.length:Int):=by
 rw[DE,<- ub _ (Jy c)];have:(k7 (ah p)).Perm l:=(List.perm_ext_iff_of_nodup (zo c) nd).mpr fun a=>by obtain⟨x,y⟩:=a;rw[CO,hm,iW]
 rw[this.length_eq]
noncomputable abbrev kyC (c:Int×Int):List Int:=[c.1,c.2]
theorem KA {c d:Int×Int}(h:kyC c=kyC d):c=d:=by
 injection h with a b
 injection b with b _
 exact US a b
theorem DR (ks:R)(c:Int×Int):(ks.map kyC).contains (kyC c)=decide (c∈ks):=by
 by_cases h:c∈ks
 ·rw[UA h];exact List.contains_iff_mem.mpr (Ty.mpr ⟨c,h,rfl⟩)
 ·rw[T5 h];cases q:(ks.map kyC).contains (kyC c) with
  |false=>rfl
  |true=>obtain⟨u,hu,e⟩:=Ty.mp (List.contains_iff_mem.mp q);rw[KA e] at hu;exact absurd hu h
theorem Hw (ks:R)(x y:Int):(ks.map kyC).contains [x,y]=decide ((x,y)∈ks):=DR ks (x,y)
noncomputable def p8 (ks:R)(c:Int×Int):R:=if c∈ks then ks else ks++[c]
theorem J8 (ks:R)(c:Int×Int):Af (ks.map kyC) (kyC c)=(p8 ks c).map kyC:=by
 unfold Af p8;rw[DR];by_cases h:c∈ks
 ·rw[UA h,Tn rfl,Tn h]
 ·rw[T5 h,To (by decide),To h,T7];rfl
theorem t6 (ks:R)(x y:Int):Af (ks.map kyC) [x,y]=(p8 ks (x,y)).map kyC:=J8 ks (x,y)
theorem uV (ks:R)(c d:Int×Int):d∈p8 ks c↔d∈ks\/d=c:=by
 unfold p8;split
 ·constructor
  ·exact .inl
  ·rintro (h|rfl)
   ·exact h
   ·assumption
 ·rw[TB,Ts]
theorem nu {ks:R}(h:ks.Nodup)(c:Int×Int):(p8 ks c).Nodup:=by
 unfold p8;split
 ·exact h
 ·refine Vc.mpr ⟨h,Uk.mpr ⟨(fun z=>by cases z),.nil⟩,fun a ha b hb e=>?_⟩;rw[Ts] at hb;subst hb e;contradiction
theorem t0 (ks:R)(c:Int×Int):(p8 ks c).length<=ks.length+1:=by
 unfold p8;split
 ·lia
 ·rw[Tu];exact Tw _
theorem xF {n:Nat}{x:XS}{ds:List D}{o:O}(h:x (ds.map .sh++List.replicate (n-ds.length) .un)=some (.ro o)):fnO n x ds=some o:=by unfold fnO;rw[h]
theorem xM (cs:R):(cs.map kyC).map (fun k=>D.tup (k.map D.int))=cs.map prD:=by rw[TU];rfl
noncomputable def bX (c f:Int×Int):Int×Int:=(c.1+f.1,c.2+f.2)
theorem wz (cs fs:R)(hl:cs.length * fs.length<=50000)(hf:fs.length<=1000):∃gs:R,jk [.dif (cs.map kyC),.lst (fs.map prD)]=some (.dic (gs.map kyC))/\gs.Nodup/\gs.length<=cs.length * fs.length/\∀z,z∈gs↔∃c∈cs,∃f∈fs,z=bX c f:=by
 generalize hA:D.dif (cs.map kyC)=A;generalize hB:D.lst (fs.map prD)=B;have inner:∀(c:Int×Int) (g0:R) (v5 v6:Sl),g0.Nodup->g0.length+fs.length<=60000->∃(gs:R) (w5 w6:Sl),bg (xIt (ak 1)) (aF (aj (af 5) (aj (af 6) aE))) e6 [.sh A,.sh B,.ow (.dic (g0.map kyC)),.sh (.int c.1),.sh (.int c.2),v5,v6]=some (.nx [.sh A,.sh B,.ow (.dic (gs.map kyC)),.sh (.int c.1),.sh (.int c.2),w5,w6])/\gs.Nodup/\gs.length<=g0.length+fs.length/\∀z,z∈gs↔z∈g0\/∃f∈fs,z=bX c f:=fun c g0 v5 v6 n0 l0=>by
  obtain⟨ρ',k1,gs,w5,w6,rfl,a1,a2,a3⟩:=aS (g:=aF (aj (af 5) (aj (af 6) aE))) (m:=e6) prD (fun pre ρ=>∃(gs:R) (w5 w6:Sl),ρ=[.sh A,.sh B,.ow (.dic (gs.map kyC)),.sh (.int c.1),.sh (.int c.2),w5,w6]/\gs.Nodup/\gs.length<=g0.length+pre.length/\∀z,z∈gs↔z∈g0\/∃f∈pre,z=bX c f) fs [.sh A,.sh B,.ow (.dic (g0.map kyC)),.sh (.int c.1),.sh (.int c.2),v5,v6] ⟨g0,v5,v6,rfl,n0,by simp,fun z=>by simp⟩ (by
   rintro pre f post _ e ⟨gs,w5,w6,rfl,a1,a2,a3⟩;have hp:pre.length<fs.length:=by rw[e,Tu,Tz];lia
   have hlim:(gs.map kyC).length<LIM:=ci (by rw[Tt];lia);have ha:=t6 gs (c.1+f.1) (c.2+f.2);have hal:=t0 gs (c.1+f.1,c.2+f.2);have l2:2<=LIM:=aC (by lia);refine⟨_,[.sh A,.sh B,.ow (.dic ((p8 gs (c.1+f.1,c.2+f.2)).map kyC)),.sh (.int c.1),.sh (.int c.2),.sh (.int f.1),.sh (.int f.2)],rfl,.inl ?_,_,_,_,rfl,nu a1 _,by rw[Tu,TY];lia,fun z=>?_⟩
   ·rw[<- ha];generalize gs.map kyC=ks at *;simp[e6,l2,kyD,aY,hlim]
   ·rw[uV,a3];constructor
    ·rintro ((h|⟨g,hg,h⟩)|h)
     ·exact .inl h
     ·exact .inr ⟨g,TJ _ hg,h⟩
     ·exact .inr ⟨f,by simp,h⟩
    ·rintro (h|⟨g,hg,h⟩)
     ·exact .inl (.inl h)
     ·rcases TB.mp hg with hg|hg
      ·exact .inl (.inr ⟨g,hg,h⟩)
      ·rw[Ts] at hg;subst hg
       exact .inr h)
  refine⟨gs,w5,w6,?_,a1,a2,a3⟩;unfold bg xIt ak;rw[<- hB] at k1 ⊢;exact k1
 obtain⟨ρ',k1,gs,w3,w4,w5,w6,rfl,a1,a2,a3⟩:=aS (g:=aF (aj (af 3) (aj (af 4) aE))) (m:=gL) prD (fun pre ρ=>∃(gs:R) (w3 w4 w5 w6:Sl),ρ=[.sh A,.sh B,.ow (.dic (gs.map kyC)),w3,w4,w5,w6]/\gs.Nodup/\gs.length<=pre.length * fs.length/\∀z,z∈gs↔∃c∈pre,∃f∈fs,z=bX c f) cs [.sh A,.sh B,.ow (.dic []),.un,.un,.un,.un] ⟨[],.un,.un,.un,.un,rfl,.nil,by simp,fun z=>by simp⟩ (by
  rintro pre c post _ e ⟨gs,w3,w4,w5,w6,rfl,a1,a2,a3⟩;have hp:pre.length+1<=cs.length:=by rw[e,Tu,Tz];lia
  have hm:=U1 fs.length hp;rw[Vs] at hm;obtain⟨g1,x5,x6,b1,b2,b3,b4⟩:=inner c gs w5 w6 a1 (by lia);refine⟨_,[.sh A,.sh B,.ow (.dic (g1.map kyC)),.sh (.int c.1),.sh (.int c.2),x5,x6],rfl,.inl b1,g1,_,_,_,_,rfl,b2,by rw[Tu,TY,Vs];lia,fun z=>?_⟩;rw[b4,a3];constructor
  ·rintro (⟨d,hd,f,hf,h⟩|⟨f,hf,h⟩)
   ·exact⟨d,TJ _ hd,f,hf,h⟩
   ·exact⟨c,by simp,f,hf,h⟩
  ·rintro⟨d,hd,f,hf,h⟩;rcases TB.mp hd with hd|hd
   ·exact .inl ⟨d,hd,f,hf,h⟩
   ·rw[Ts] at hd;subst hd
    exact .inr ⟨f,hf,h⟩)
 refine⟨gs,xF (n:=7) (ds:=[A,B]) ?_,a1,a2,a3⟩;show ip [.sh A,.sh B,.un,.un,.un,.un,.un]=_;unfold ip;rw[aw (ρ':=[.sh A,.sh B,.ow (.dic []),.un,.un,.un,.un]) (by rfl)];have hw:vT 0 (aF (aj (af 3) (aj (af 4) aE))) gL [.sh A,.sh B,.ow (.dic []),.un,.un,.un,.un]=some (.nx [.sh A,.sh B,.ow (.dic (gs.map kyC)),w3,w4,w5,w6]):=by subst hA;unfold vT bg JT;show (some ((cs.map kyC).map fun k=>D.tup (k.map D.int))).bind _=_;rw[xM];exact k1
 rw[aw hw];rfl
theorem xq:∀l:List Bool,gT (l.map D.bl)=some l
 |[]=>rfl
 |b::l=>by simp[gT,xq l]
theorem wA (cs fs:R)(hc:cs.length<=50000)(hf:fs.length<=1000)(hne:fs≠[]):∃gs:R,gy [.dif (cs.map kyC),.lst (fs.map prD)]=some (.dic (gs.map kyC))/\gs.Nodup/\gs.length<=cs.length/\∀z,z∈gs↔∀f∈fs,bX z f∈cs:=by
 obtain⟨f0,fr,rfl⟩:=WI hne;have l2:2<=LIM:=aC (by lia);have hll:((f0::fr).map prD).length<=LIM:=aC (by rw[Tt];lia);have hcut:iw ((f0::fr).map prD) none (some 1)=[prD f0]:=by unfold iw;simp[HT.sIx]
 have hall:∀s:Int×Int,a6 (aF (aj (af 0) (aj (af 1) aE))) bw (LK false (aJ (ad (xOp aP (xOp dIx (ag 3) (xC (.int 0))) (ag 0)) (ad (xOp aP (xOp dIx (ag 3) (xC (.int 1))) (ag 1)) ai))) 2) [.un,.un,.sh (.dif (cs.map kyC)),.sh (prD s)] ((f0::fr).map prD)=some ((((f0::fr).map fun f=>decide (bX s f∈cs))).map D.bl):=fun s=>by
  rw[TU];exact aN prD (D.bl∘fun f=>decide (bX s f∈cs)) (f0::fr) fun f _=>by have:=Hw cs (s.1+f.1) (s.2+f.2);generalize cs.map kyC=ks at *;simp[-List.contains_eq_mem,cU,l2,kyD,aY,rV,this,atI,ixN,bX];exact decide_eq_decide.mpr Ug
 generalize hB:D.lst ((f0::fr).map prD)=B;obtain⟨ρ',k1,gs,w3,w4,w5,w6,w7,rfl,a1,a2,a3⟩:=aS (g:=aF (aj (af 3) (aj (af 4) aE))) (m:=cO) prD (fun pre ρ=>∃(gs:R) (w3 w4 w5 w6 w7:Sl),ρ=[.sh (.dif (cs.map kyC)),.sh B,.ow (.dic (gs.map kyC)),w3,w4,w5,w6,w7]/\gs.Nodup/\gs.length<=pre.length/\∀z,z∈gs↔bX z f0∈pre/\∀f∈f0::fr,bX z f∈cs) cs [.sh (.dif (cs.map kyC)),.sh B,.ow (.dic []),.un,.un,.un,.un,.un] ⟨[],.un,.un,.un,.un,.un,rfl,.nil,by simp,fun z=>by simp⟩ (by
  rintro pre c post _ e ⟨gs,w3,w4,w5,w6,w7,rfl,a1,a2,a3⟩;have hp:pre.length<cs.length:=by rw[e,Tu,Tz];lia
  have hlim:(gs.map kyC).length<LIM:=ci (by rw[Tt];lia);have ha:=hall (c.1-f0.1,c.2-f0.2);have hb:=xq ((f0::fr).map fun f=>decide (bX (c.1-f0.1,c.2-f0.2) f∈cs));have hpl:bX (c.1-f0.1,c.2-f0.2) f0=c:=by unfold bX;exact US (by dsimp only;lia) (by dsimp only;lia)
  have key:∀z,bX z f0∈pre++[c]↔bX z f0∈pre\/z=(c.1-f0.1,c.2-f0.2):=fun z=>by
   rw[TB,Ts];constructor
   ·rintro (h|h)
    ·exact .inl h
    ·refine .inr (US ?_ ?_)
     ·rw[<- h];unfold bX;dsimp only;lia
     ·rw[<- h];unfold bX;dsimp only;lia
   ·rintro (h|rfl)
    ·exact .inl h
    ·exact .inr hpl
  have hrun:∀(v:Bool),(((f0::fr).map fun f=>decide (bX (c.1-f0.1,c.2-f0.2) f∈cs)).all id)=v->cO [.sh (.dif (cs.map kyC)),.sh B,.ow (.dic (gs.map kyC)),.sh (.int c.1),.sh (.int c.2),w5,w6,w7]=some (.nx [.sh (.dif (cs.map kyC)),.sh B,.ow (.dic ((if v then p8 gs (c.1-f0.1,c.2-f0.2) else gs).map kyC)),.sh (.int c.1),.sh (.int c.2),.sh (.int f0.1),.sh (.int f0.2),.sh (prD (c.1-f0.1,c.2-f0.2))]):=fun v hv=>by
   have hak:=t6 gs (c.1-f0.1) (c.2-f0.2);have hbb:Kd [.lst ((((f0::fr).map fun f=>decide (bX (c.1-f0.1,c.2-f0.2) f∈cs))).map D.bl)]=some (.bl v):=by show (gT _).map _=_;rw[hb,<- hv];rfl
   subst hB;generalize (((f0::fr).map fun f=>decide (bX (c.1-f0.1,c.2-f0.2) f∈cs))).map D.bl=bl at *;generalize (f0::fr).map prD=fl at *;cases v
   ·rw[To (by decide)];generalize cs.map kyC=ck at *;generalize gs.map kyC=gk at *;simp[cO,gM,dSl,hcut,bE,l2,hll,ha,hbb]
   ·rw[Tn rfl,<- hak];generalize cs.map kyC=ck at *;generalize gs.map kyC=gk at *;simp[cO,gM,dSl,hcut,bE,l2,hll,ha,hbb,kyD,aY,hlim]
  by_cases hv:∀f∈f0::fr,bX (c.1-f0.1,c.2-f0.2) f∈cs
  ·have ht:(((f0::fr).map fun f=>decide (bX (c.1-f0.1,c.2-f0.2) f∈cs)).all id)=true:=by
    rw[VB];intro b hb;obtain⟨f,hf,rfl⟩:=Ty.mp hb;exact UA (hv f hf)
   have hal:=t0 gs (c.1-f0.1,c.2-f0.2);refine⟨_,_,rfl,.inl (hrun true ht),p8 gs (c.1-f0.1,c.2-f0.2),_,_,_,_,_,rfl,nu a1 _,by rw[Tu,TY];lia,fun z=>?_⟩;rw[uV,a3,key];constructor
   ·rintro (⟨h1,h2⟩|rfl)
    ·exact⟨.inl h1,h2⟩
    ·exact⟨.inr rfl,hv⟩
   ·rintro⟨h1|h1,h2⟩
    ·exact .inl ⟨h1,h2⟩
    ·exact .inr h1
  ·have ht:(((f0::fr).map fun f=>decide (bX (c.1-f0.1,c.2-f0.2) f∈cs)).all id)=false:=by
    cases q:(((f0::fr).map fun f=>decide (bX (c.1-f0.1,c.2-f0.2) f∈cs)).all id) with
    |false=>rfl
    |true=>refine absurd (fun f hf=>?_) hv;have:=VB.mp q _ (Ty.mpr ⟨f,hf,rfl⟩);exact UP this
   refine⟨_,_,rfl,.inl (hrun false ht),gs,_,_,_,_,_,rfl,a1,by rw[Tu,TY];lia,fun z=>?_⟩;rw[a3,key];constructor
   ·rintro⟨h1,h2⟩;exact⟨.inl h1,h2⟩
   ·rintro⟨h1|rfl,h2⟩
    ·exact⟨h1,h2⟩
    ·exact absurd h2 hv)
 refine⟨gs,xF (n:=8) (ds:=[.dif (cs.map kyC),B]) ?_,a1,a2,fun z=>by rw[a3];exact⟨fun h=>h.2,fun h=>⟨h f0 Tx,h⟩⟩⟩;show ir [.sh (.dif (cs.map kyC)),.sh B,.un,.un,.un,.un,.un,.un]=_;unfold ir;rw[aw (ρ':=[.sh (.dif (cs.map kyC)),.sh B,.ow (.dic []),.un,.un,.un,.un,.un]) (by rfl)];have hw:vT 0 (aF (aj (af 3) (aj (af 4) aE))) cO [.sh (.dif (cs.map kyC)),.sh B,.ow (.dic []),.un,.un,.un,.un,.un]=some (.nx [.sh (.dif (cs.map kyC)),.sh B,.ow (.dic (gs.map kyC)),w3,w4,w5,w6,w7]):=by unfold vT bg JT;show (some ((cs.map kyC).map fun k=>D.tup (k.map D.int))).bind _=_;rw[xM];exact k1
 rw[aw hw];rfl
theorem Bz (n:Nat)(hn:n<=1000):rg [D.int (n:Int)]=some ((List.range' 0 n).map fun i:Nat=>D.int (i:Int)):=by show ifC _ _ _=_;rw[dq (by lia)];show some (dr 0 n)=_;rw[HC,WJ]
noncomputable def GK (Q:Int×Int->Prop):Nat->Int×Int->Prop
 |0,z=>z=(0,0)
 |n+1,z=>∃w,GK Q n w/\∃f,Q f/\z=bX w f
structure SvL (cs fs:R) (S:Nat->R) (G:Nat->Nat->R):Prop where
 s0:∀z,z∈S 0↔z∈cs
 sl:∀k,(S k).length<=42
 ss:∀k z,z∈S (k+1)↔∀f∈fs,bX z f∈S k
 gn:∀k i,i<=4->(G k i).Nodup
 gm:∀k i,i<=4->∀z,z∈G k i↔∃c∈S k,∃o,GK (· ∈ fs) i o/\z=bX c o
theorem vo (a b c:Int×Int):bX (bX a b) c=bX a (bX b c):=by unfold bX;exact US (by dsimp only;lia) (by dsimp only;lia)
theorem yh (a:Int×Int):bX a (0,0)=a:=by unfold bX;exact US (by dsimp only;lia) (by dsimp only;lia)
noncomputable def bJ (G:Nat->Nat->R)(n:Nat):List D:=(List.range n).map fun k=>D.int ((G k k).length:Int)
theorem Cl (G:Nat->Nat->R)(n:Nat):bJ G (n+1)=bJ G n++[D.int ((G n n).length:Int)]:=by unfold bJ;rw[V6,T7];rfl
theorem EV (G:Nat->Nat->R)(n:Nat):(bJ G n).length=n:=by unfold bJ;simp
theorem KI {g:XG}{m:XS}{d:D}{l:List D}{ρ ρ1:M.Env}{o:O}(h1:g d ρ=some ρ1)(h2:m ρ1=some (.ro o)):bE g m (d::l) ρ=some (.ro o):=by rw[j8,h1];dsimp only[Option.bind];rw[h2]
theorem tz {g:XG}{m:XS}{d:D}{l:List D}{ρ ρ1 ρ2:M.Env}(h1:g d ρ=some ρ1)(h2:m ρ1=some (.nx ρ2)):bE g m (d::l) ρ=bE g m l ρ2:=by rw[j8,h1];dsimp only[Option.bind];rw[h2]
theorem uQ (cs fs:R)(hc:cs.length<=42)(hf:fs.length<=5)(hne:fs≠[])(m:Nat)(hm:m<=4):∃(S:Nat->R) (G:Nat->Nat->R) (j:Nat),SvL cs fs S G/\j<=m/\(G j j=[]\/j=m)/\(∀i,i<j->G i i≠[])/\pi [.lst (cs.map prD),.lst (fs.map prD),.int (m:Int)]=some (.lst (bJ G (j+1))):=by
 have hSm:∀l:R,∃g:R,l.length<=42->gy [.dif (l.map kyC),.lst (fs.map prD)]=some (.dic (g.map kyC))/\g.Nodup/\g.length<=l.length/\∀z,z∈g↔∀f∈fs,bX z f∈l:=fun l=>by
  by_cases h:l.length<=42
  ·obtain⟨g,a⟩:=wA l fs (by lia) (by lia) hne;exact⟨g,fun _=>a⟩
  ·exact⟨[],fun k=>absurd k h⟩
 have hGr:∀l:R,∃g:R,l.length<=5250->jk [.dif (l.map kyC),.lst (fs.map prD)]=some (.dic (g.map kyC))/\g.Nodup/\g.length<=l.length * 5/\∀z,z∈g↔∃c∈l,∃f∈fs,z=bX c f:=fun l=>by
  by_cases h:l.length<=5250
  ·have hml:=Nat.mul_le_mul h hf;obtain⟨g,a1,a2,a3,a4⟩:=wz l fs (by lia) (by lia);have:=VM l.length hf;exact⟨g,fun _=>⟨a1,a2,by lia,a4⟩⟩
  ·exact⟨[],fun k=>absurd k h⟩
 obtain⟨sm,hsm⟩:=V7.mp hSm;obtain⟨gr,hgr⟩:=V7.mp hGr
 -- the dict of the cells
 generalize hA:D.lst (cs.map prD)=A;generalize hB:D.lst (fs.map prD)=B at *;obtain⟨ρ1,k1,s0,w4,rfl,a1,a2,a3⟩:=aS (g:=af 4) (m:=ig) prD (fun pre ρ=>∃(s0:R) (w4:Sl),ρ=[.sh A,.sh B,.sh (.int (m:Int)),.ow (.dic (s0.map kyC)),w4,.un,.un,.un,.un]/\s0.Nodup/\s0.length<=pre.length/\∀z,z∈s0↔z∈pre) cs [.sh A,.sh B,.sh (.int (m:Int)),.ow (.dic []),.un,.un,.un,.un,.un] ⟨[],.un,rfl,.nil,by simp,fun z=>by simp⟩ (by
  rintro pre c post _ e ⟨s0,w4,rfl,a1,a2,a3⟩;have hp:pre.length<cs.length:=by rw[e,Tu,Tz];lia
  have hlim:(s0.map kyC).length<LIM:=ci (by rw[Tt];lia);have ha:=t6 s0 c.1 c.2;have hal:=t0 s0 (c.1,c.2);refine⟨[.sh A,.sh B,.sh (.int (m:Int)),.ow (.dic (s0.map kyC)),.sh (prD c),.un,.un,.un,.un],[.sh A,.sh B,.sh (.int (m:Int)),.ow (.dic ((p8 s0 (c.1,c.2)).map kyC)),.sh (prD c),.un,.un,.un,.un],rfl,.inl ?_,_,_,rfl,nu a1 _,by rw[Tu,TY];lia,fun z=>?_⟩
  ·rw[<- ha];generalize s0.map kyC=ks at *;simp[ig,kyD,aY,hlim]
  ·rw[uV,a3,TB,Ts])
 let S:Nat->R:=fun k=>Nat.rec s0 (fun _ l=>sm l) k
 have hS:∀k,(S k).length<=42:=fun k=>by
  induction k with
  |zero=>exact T1 a2 hc
  |succ k ih=>exact T1 (hsm (S k) ih).2.2.1 ih
 let G:Nat->Nat->R:=fun k i=>Nat.rec (S k) (fun _ l=>gr l) i
 have hSn:∀k,(S k).Nodup:=fun k=>by
  cases k with
  |zero=>exact a1
  |succ k=>exact (hsm (S k) (hS k)).2.1
 have hG:∀k i,i<=4->(G k i).length<=42 * 5 ^ i:=fun k i=>by
  induction i with
  |zero=>exact fun _=>T1 (hS k) (by decide)
  |succ i ih=>
   intro hi;have h1:=ih (by lia);have h2:5 ^ i<=5 ^ 3:=Nat.pow_le_pow_right (by decide) (by lia);have h3:(5:Nat) ^ 3=125:=by decide
   have:=(hgr (G k i) (by lia)).2.2.1;rw[Nat.pow_succ];show (gr (G k i)).length<=_;lia
 have hG3:∀k i,i<=3->(G k i).length<=5250:=fun k i hi=>by
  have h1:=hG k i (by lia);have h2:5 ^ i<=5 ^ 3:=Nat.pow_le_pow_right (by decide) hi;have h3:(5:Nat) ^ 3=125:=by decide
  lia
 have sv:SvL cs fs S G:=by
  refine⟨a3,hS,fun k=>(hsm (S k) (hS k)).2.2.2,fun k i hi=>?_,fun k i=>?_⟩
  ·cases i with
   |zero=>exact hSn k
   |succ i=>exact (hgr (G k i) (hG3 k i (by lia))).2.1
  ·induction i with
   |zero=>
    intro _ z;show z∈S k↔_;constructor
    ·intro h;exact⟨z,h,_,rfl,(yh z).symm⟩
    ·rintro⟨c,h,o,rfl,rfl⟩;rw[yh];exact h
   |succ i ih=>
    intro hi z;have ih:=ih (by lia);rw[show G k (i+1)=gr (G k i) from rfl,(hgr (G k i) (hG3 k i (by lia))).2.2.2];constructor
    ·rintro⟨c,hc,f,hf,rfl⟩;obtain⟨d,hd,o,ho,rfl⟩:=(ih c).mp hc;exact⟨d,hd,bX o f,⟨o,ho,f,hf,rfl⟩,vo d o f⟩
    ·rintro⟨d,hd,_,⟨o,ho,f,hf,rfl⟩,rfl⟩;exact⟨bX d o,(ih _).mpr ⟨d,hd,o,ho,rfl⟩,f,hf,(vo d o f).symm⟩
 -- the cells back
 have inner:∀(k:Nat),k<=4->∀(w4 v8:Sl) (cn:List D),∃w8:Sl,bg (gH (ad (ag 6) ai)) (af 8) fN [.sh A,.sh B,.sh (.int (m:Int)),.sh (.dif ((S k).map kyC)),w4,owl cn,.sh (.int (k:Int)),.sh (.dif ((S k).map kyC)),v8]=some (.nx [.sh A,.sh B,.sh (.int (m:Int)),.sh (.dif ((S k).map kyC)),w4,owl cn,.sh (.int (k:Int)),if k=0 then .sh (.dif ((G k k).map kyC)) else .ow (.dic ((G k k).map kyC)),w8]):=fun k hk w4 v8 cn=>by
  obtain⟨ρ',q1,w8,rfl⟩:=aS (g:=af 8) (m:=fN) (fun i:Nat=>D.int (i:Int)) (fun pre ρ=>∃w8:Sl,ρ=[.sh A,.sh B,.sh (.int (m:Int)),.sh (.dif ((S k).map kyC)),w4,owl cn,.sh (.int (k:Int)),if pre.length=0 then .sh (.dif ((G k pre.length).map kyC)) else .ow (.dic ((G k pre.length).map kyC)),w8]) (List.range' 0 k) [.sh A,.sh B,.sh (.int (m:Int)),.sh (.dif ((S k).map kyC)),w4,owl cn,.sh (.int (k:Int)),.sh (.dif ((S k).map kyC)),v8] ⟨v8,rfl⟩ (by
   rintro pre i post _ e ⟨w8,rfl⟩;have hp:pre.length<k:=by have:=TQ List.length e;rw[UE,Tu,Tz] at this;lia
   have hg:=(hgr (G k pre.length) (hG3 k pre.length (by lia))).1;have hl:(pre++[i]).length=pre.length+1:=by rw[Tu];rfl
   refine⟨[.sh A,.sh B,.sh (.int (m:Int)),.sh (.dif ((S k).map kyC)),w4,owl cn,.sh (.int (k:Int)),if pre.length=0 then .sh (.dif ((G k pre.length).map kyC)) else .ow (.dic ((G k pre.length).map kyC)),.sh (.int (i:Int))],[.sh A,.sh B,.sh (.int (m:Int)),.sh (.dif ((S k).map kyC)),w4,owl cn,.sh (.int (k:Int)),.ow (.dic ((G k (pre.length+1)).map kyC)),.sh (.int (i:Int))],rfl,.inl ?_,_,by rw[hl,To (Nat.succ_ne_zero _)]⟩;show _=some (Out.nx [.sh A,.sh B,.sh (.int (m:Int)),.sh (.dif ((S k).map kyC)),w4,owl cn,.sh (.int (k:Int)),.ow (.dic ((gr (G k pre.length)).map kyC)),.sh (.int (i:Int))]);generalize (gr (G k pre.length)).map kyC=g1 at *;generalize (G k pre.length).map kyC=g0 at *;generalize (S k).map kyC=sk at *;by_cases h0:pre.length=0
   ·rw[Tn h0];simp[fN,ksO,hg]
   ·rw[To h0]
    simp[fN,ksO,hg])
  rw[UE] at q1;refine⟨w8,?_⟩;have hr:=Bz k (by lia);generalize (List.range' 0 k).map (fun i:Nat=>D.int (i:Int))=rl at *;unfold bg;show (rg [.int (k:Int)]).bind _=_;rw[hr];exact q1
 have turn:∀(r k:Nat),k+r=m+1->(∀i,i<k->G i i≠[])->∀(w4 w6 w7 w8:Sl),(∃j,j<=m/\G j j=[]/\(∀i,i<j->G i i≠[])/\bE (af 6) bW ((List.range' k r).map fun i:Nat=>D.int (i:Int)) [.sh A,.sh B,.sh (.int (m:Int)),.ow (.dic ((S k).map kyC)),w4,owl (bJ G k),w6,w7,w8]=some (.ro (.lst ((bJ G (j+1)).map O.sh))))\/((∀i,i<m+1->G i i≠[])/\∃x4 x6 x7 x8:Sl,bE (af 6) bW ((List.range' k r).map fun i:Nat=>D.int (i:Int)) [.sh A,.sh B,.sh (.int (m:Int)),.ow (.dic ((S k).map kyC)),w4,owl (bJ G k),w6,w7,w8]=some (.nx [.sh A,.sh B,.sh (.int (m:Int)),.ow (.dic ((S (m+1)).map kyC)),x4,owl (bJ G (m+1)),x6,x7,x8])):=by
  intro r;induction r with
  |zero=>
   intro k hk hne w4 w6 w7 w8;have:k=m+1:=by lia
   subst this;exact .inr ⟨hne,w4,w6,w7,w8,rfl⟩
  |succ r ih=>
   intro k hk hne w4 w6 w7 w8;obtain⟨x8,hin⟩:=inner k (by lia) w4 w8 (bJ G k);have hlim:(bJ G k).length<LIM:=ci (by rw[EV];lia);have st1:∀n:XS,aB (vU 3 (aV (ak 3) (af 7))) n [.sh A,.sh B,.sh (.int (m:Int)),.ow (.dic ((S k).map kyC)),w4,owl (bJ G k),.sh (.int (k:Int)),w7,w8]=n [.sh A,.sh B,.sh (.int (m:Int)),.sh (.dif ((S k).map kyC)),w4,owl (bJ G k),.sh (.int (k:Int)),.sh (.dif ((S k).map kyC)),w8]:=fun n=>rfl;have hbk:∀t:Sl,t=(if k=0 then .sh (.dif ((G k k).map kyC)) else .ow (.dic ((G k k).map kyC)))->∀ρ:M.Env,ρ[7]?=some t->ma 7 ρ=some (.int ((G k k).length:Int)):=fun t ht ρ hρ=>by
    unfold ma rV;rw[hρ,ht];by_cases h0:k=0
    ·rw[Tn h0];show some (D.int (((G k k).map kyC).length:Nat))=_;rw[Tt]
    ·rw[To h0];show some (D.int (((G k k).map kyC).length:Nat))=_;rw[Tt]
   generalize htt:(if k=0 then Sl.sh (.dif ((G k k).map kyC)) else .ow (.dic ((G k k).map kyC)))=tt at *;have st3:fM 5 xPv (xSh (ma 7)) [.sh A,.sh B,.sh (.int (m:Int)),.sh (.dif ((S k).map kyC)),w4,owl (bJ G k),.sh (.int (k:Int)),tt,x8]=some (.nx [.sh A,.sh B,.sh (.int (m:Int)),.sh (.dif ((S k).map kyC)),w4,owl (bJ G (k+1)),.sh (.int (k:Int)),tt,x8]):=by rw[Cl];have:=hbk tt rfl [.sh A,.sh B,.sh (.int (m:Int)),.sh (.dif ((S k).map kyC)),w4,owl (bJ G k),.sh (.int (k:Int)),tt,x8] rfl;generalize bJ G k=cn at *;simp[-ma,this,hlim]
   have hlen:=hbk tt rfl [.sh A,.sh B,.sh (.int (m:Int)),.sh (.dif ((S k).map kyC)),w4,owl (bJ G (k+1)),.sh (.int (k:Int)),tt,x8] rfl;have hB2:∀o:Out,aB (xIf (xB (xOp (dEq false) (ma 7) (xC (.int 0)))) (md 5) eX) (vU 3 (nq (kn gy (ad (ak 3) (ad (ak 1) ai))) 3)) [.sh A,.sh B,.sh (.int (m:Int)),.sh (.dif ((S k).map kyC)),w4,owl (bJ G (k+1)),.sh (.int (k:Int)),tt,x8]=some o->bW [.sh A,.sh B,.sh (.int (m:Int)),.ow (.dic ((S k).map kyC)),w4,owl (bJ G k),.sh (.int (k:Int)),w7,w8]=some o:=fun o h=>by unfold bW;rw[st1,aw hin,aw st3];exact h
   rw[V4,TF];rcases Classical.em (G k k=[]) with h0|h0
   ·left;refine⟨k,by lia,h0,hne,KI rfl (hB2 _ ?_)⟩;have hz:((G k k).length:Int)=0:=by rw[h0];rfl
    rw[hz] at hlen;generalize bJ G (k+1)=cn at *;simp[-ma,hlen]
   ·have hz:¬((G k k).length:Int)=0:=fun e=>h0 (UZ.mp (by lia));have hs:=(hsm (S k) (hS k)).1;have hnx:bW [.sh A,.sh B,.sh (.int (m:Int)),.ow (.dic ((S k).map kyC)),w4,owl (bJ G k),.sh (.int (k:Int)),w7,w8]=some (.nx [.sh A,.sh B,.sh (.int (m:Int)),.ow (.dic ((S (k+1)).map kyC)),w4,owl (bJ G (k+1)),.sh (.int (k:Int)),tt,x8]):=hB2 _ (by
     show _=some (Out.nx [.sh A,.sh B,.sh (.int (m:Int)),.ow (.dic ((sm (S k)).map kyC)),w4,owl (bJ G (k+1)),.sh (.int (k:Int)),tt,x8]);generalize bJ G (k+1)=cn at *;generalize (sm (S k)).map kyC=s1 at *;generalize (S k).map kyC=s0 at *
     simp[-ma,hlen,h0,ksO,hs])
    have:=ih (k+1) (by lia) (fun i hi=>by
     by_cases e:i=k
     ·subst e;exact h0
     ·exact hne i (by lia)) w4 (.sh (.int (k:Int))) tt x8
    rcases this with ⟨j,b1,b2,b3,b4⟩|⟨b1,x4,x6,x7,y8,b2⟩
    ·exact .inl ⟨j,b1,b2,b3,by rw[tz rfl hnx];exact b4⟩
    ·exact .inr ⟨b1,x4,x6,x7,y8,by rw[tz rfl hnx];exact b2⟩
 have hrm:rg [.int ((m:Int)+1)]=some ((List.range' 0 (m+1)).map fun i:Nat=>D.int (i:Int)):=by have:=Bz (m+1) (by lia);rwa[UR] at this
 have hstart:∀o:Out,aB (bg (gH (ad (xOp aP (ag 2) (xC (.int 1))) ai)) (af 6) bW) (md 5) [.sh A,.sh B,.sh (.int (m:Int)),.ow (.dic ((S 0).map kyC)),w4,owl [],.un,.un,.un]=some o->iq [.sh A,.sh B,.sh (.int (m:Int)),.un,.un,.un,.un,.un,.un]=some o:=fun o h=>by
  unfold iq;rw[aw (ρ':=[.sh A,.sh B,.sh (.int (m:Int)),.ow (.dic []),.un,.un,.un,.un,.un]) (by rfl)];have h1:bg (xIt (ak 0)) (af 4) ig [.sh A,.sh B,.sh (.int (m:Int)),.ow (.dic []),.un,.un,.un,.un,.un]=some (.nx [.sh A,.sh B,.sh (.int (m:Int)),.ow (.dic (s0.map kyC)),w4,.un,.un,.un,.un]):=by unfold bg xIt ak;rw[<- hA] at k1 ⊢;exact k1
  rw[aw h1,aw (ρ':=[.sh A,.sh B,.sh (.int (m:Int)),.ow (.dic (s0.map kyC)),w4,owl [],.un,.un,.un]) (by rfl)];exact h
 have hfor:∀o:Out,bE (af 6) bW ((List.range' 0 (m+1)).map fun i:Nat=>D.int (i:Int)) [.sh A,.sh B,.sh (.int (m:Int)),.ow (.dic ((S 0).map kyC)),w4,owl [],.un,.un,.un]=some o->bg (gH (ad (xOp aP (ag 2) (xC (.int 1))) ai)) (af 6) bW [.sh A,.sh B,.sh (.int (m:Int)),.ow (.dic ((S 0).map kyC)),w4,owl [],.un,.un,.un]=some o:=fun o h=>by
  have e:gH (ad (xOp aP (ag 2) (xC (.int 1))) ai) [.sh A,.sh B,.sh (.int (m:Int)),.ow (.dic ((S 0).map kyC)),w4,owl [],.un,.un,.un]=some ((List.range' 0 (m+1)).map fun i:Nat=>D.int (i:Int)):=by rw[<- hrm];rfl
  unfold bg;rw[e];exact h
 have fin:∀cn:List D,iq [.sh A,.sh B,.sh (.int (m:Int)),.un,.un,.un,.un,.un,.un]=some (.ro (.lst (cn.map O.sh)))->pi [A,B,.int (m:Int)]=some (.lst cn):=fun cn h=>by have:=xF (n:=9) (ds:=[A,B,.int (m:Int)]) h;show (fnO 9 iq [A,B,.int (m:Int)]).map O.d=_;rw[this];simp
 rcases turn (m+1) 0 (by lia) (fun i hi=>by lia) w4 .un .un .un with ⟨j,b1,b2,b3,b4⟩|⟨b1,x4,x6,x7,x8,b2⟩
 ·refine⟨S,G,j,sv,b1,.inl b2,b3,fin _ (hstart _ ?_)⟩;have:=hfor _ b4;unfold aB;rw[this]
 ·refine⟨S,G,m,sv,Tw _,.inr rfl,fun i hi=>b1 i (by lia),fin _ (hstart _ ?_)⟩;rw[aw (hfor _ b2)];rfl
theorem bK {e:XE}{d:D}{i:Nat}{ρ:M.Env}(h:e ρ=some d):aV e (af i) ρ=some (.nx (ρ.set i (.sh d))):=by unfold aV;rw[h];rfl
theorem eJ {f:List D->Option D}{a:XA}{ρ:M.Env}{ds:List D}{d:D}(ha:a ρ=some ds)(h:f ds=some d):av f a ρ=some d:=by unfold av;rw[ha];exact h
theorem ze {N:Str}(hN:NS.contains N=true){ps:List (List Blk)}{m:Str}{f:List D->Option D}{e:XE}{as:XA}{ρ:M.Env}{ds:List D}{d:D}(hm:(["parts"]:List Str).contains m=false) (h0:e ρ=some (ap N ps)) (ha:as ρ=some ds) (h:f (ap N ps::ds)=some d):vV NS m f e as ρ=some d:=by unfold vV;rw[h0,ha];show (if NS.contains N && !(["parts"]:List Str).contains m then f (ap N ps::ds) else none)=_;rw[hN,hm];exact h
theorem yJ {e:XE}{d:D}{i:Nat}{ρ:M.Env}{gs:List D}(h:e ρ=some d)(hi:ρ[i]?=some (owl gs))(hl:gs.length<LIM):fM i xPv (xSh e) ρ=some (.nx (ρ.set i (owl (gs++[d])))):=by
 have hl':(gs.map O.sh).length<LIM:=by rw[Tt];exact hl
 show _=some (Out.nx (ρ.set i (.ow (.lst ((gs++[d]).map O.sh)))));simp[fM,xPv,xSh,hi,h,d7,jQ,hl]
theorem gU {a:XE}{r:XA}{ρ:M.Env}{d:D}{ds:List D}(h:a ρ=some d)(k:r ρ=some ds):ad a r ρ=some (d::ds):=by unfold ad;rw[h,k];rfl
theorem pz {q:Pic}(c:ao q)(h:∀x y,¬az q x y):q=[]:=jl c dN fun x y=>⟨fun k=>(h x y k).elim,fun k=>(aU _ _ k).elim⟩
theorem nR {p:Pic}:dEq true (am p) (.tup [])=some (.bl (!decide (p=[]))):=by
 have:=nA p;unfold dEq at this ⊢;split at this
 ·rename_i h;rw[Tn h];have e:eqD (am p) (.tup [])=decide (p=[]):=by simpa using this
  simp[e]
 ·cases this
noncomputable def bf (x y w:Int)(h:Nat):Pic:=if 1<=w then (List.range h).map fun k:Nat=>(y+(k:Int),[(x,x+w-1)]) else []
theorem AY (q:Int×Int)(x:Int):Mem [q] x↔q.1<=x/\x<=q.2:=by rw[mem_cons];exact⟨fun h=>h.elim id fun k=>(aW _ k).elim,.inl⟩
theorem dP (x y w:Int)(h:Nat):ao (bf x y w h):=by
 unfold bf;split
 ·refine⟨fun q hq=>?_,?_⟩
  ·obtain⟨k,_,rfl⟩:=Ty.mp hq;exact⟨canon_cons.mpr ⟨by dsimp only;lia,fun _ h=>(by cases h),fO⟩,by simp⟩
  ·rw[Um];exact List.pairwise_lt_range.imp fun {a b} h=>by dsimp only;lia
 ·exact dN
theorem br (x y w:Int)(h:Nat)(u v:Int):az (bf x y w h) u v↔x<=u/\u<=x+w-1/\y<=v/\v<y+h:=by
 unfold bf;split
 ·constructor
  ·rintro⟨q,hq,e,hm⟩;obtain⟨k,hk,rfl⟩:=Ty.mp hq;have:=UK.mp hk;rw[AY] at hm;dsimp only at e hm;lia
  ·rintro⟨h1,h2,h3,h4⟩;exact⟨_,Ty.mpr ⟨(v-y).toNat,UK.mpr (by lia),rfl⟩,by dsimp only;lia,(AY _ _).mpr ⟨h1,h2⟩⟩
 ·constructor
  ·intro h;exact (aU _ _ h).elim
  ·intro h;lia
theorem Jc (x y w:Int)(h:Nat):(bf x y w h).length<=h:=by
 unfold bf;split
 ·rw[Tt,Uy];exact Tw _
 ·exact T2 _
theorem pJ (x y w:Int)(h:Nat):Cov h (az (bf x y w h)):=by
 refine⟨(List.range h).map fun k:Nat=>(y+(k:Int),x,x+w-1),by rw[Tt,Uy];exact Tw _,fun u v=>?_⟩;rw[br];constructor
 ·rintro⟨t,ht,e,h1,h2⟩;obtain⟨k,hk,rfl⟩:=Ty.mp ht;have:=UK.mp hk;dsimp only at e h1 h2;lia
 ·rintro⟨h1,h2,h3,h4⟩;exact⟨_,Ty.mpr ⟨(v-y).toNat,UK.mpr (by lia),rfl⟩,by dsimp only;lia,h1,h2⟩
theorem Jd {x y w:Int}{h:Nat}:bf x y w h=[]↔w<=0\/h=0:=by
 constructor
 ·intro e;by_cases hw:w<=0
  ·exact .inl hw
  ·by_cases hh:h=0
   ·exact .inr hh
   ·have:=(br x y w h x y).mpr ⟨by lia,by lia,by lia,by lia⟩;rw[e] at this;exact (aU _ _ this).elim
 ·intro k;exact pz (dP ..) fun u v hm=>by have:=(br x y w h u v).mp hm;lia
structure RF (ps:List (List Blk)) (bs:List Blk) (a b:Nat):Prop where
 eq:ps=[bs]
 ok:FOk ps
 hi:bs.length<=10/\aM bs<=10
 ab:a<=1/\b<=1
 mem:∀u v,Off ps u v↔0<=u/\u<=a/\0<=v/\v<=b
section
variable {ps:List (List Blk)}{bs:List Blk}{a b:Nat}{N:Str}{x y w:Int}{h:Nat}
theorem RF.one (f:RF ps bs a b){pre post:List (List Blk)}{c:List Blk}(e:ps=pre++c::post):pre=[]/\c=bs/\post=[]:=by
 rw[f.eq] at e;cases pre with
 |nil=>cases e;exact⟨rfl,rfl,rfl⟩
 |cons z pre=>have:=TQ List.length e;rw[Tz,Tu,Tz,Tz,Vg] at this;lia
end
structure LayM (N:Str) (ps:List (List Blk)) (X G C:Nat->Pic):Prop where
 hN:NS.contains N=true
 sm:∀k,bF [ap N ps,am (X k)]=some (am (X (k+1)))
 gr:∀k,aK [ap N ps,am (X (k+1))]=some (am (G k))
 ls:∀k,qM [am (X k),am (G k)]=some (am (C k))
noncomputable def df (C:Nat->Pic)(n:Nat):List D:=(List.range n).map fun k=>am (C k)
theorem Ar (C:Nat->Pic)(n:Nat):df C (n+1)=df C n++[am (C n)]:=by unfold df;rw[V6,T7];rfl
theorem dH (C:Nat->Pic)(n:Nat):(df C n).length=n:=by unfold df;simp
section
variable {N:Str}{ps:List (List Blk)}{X G C:Nat->Pic}
theorem qQ (L:LayM N ps X G C){n m:Nat}(hn:n<=1000)(hm:n<=m)(e0:X n=[]\/n=m)(hne:∀k,k<n->X k≠[]):mZ [am (X 0),ap N ps,.int (m:Int)]=some (.lst (df C n++[am (X n)])):=by
 have turn:∀j k,k+j=n->∀v5:Sl,∃v5',dg bv cX [.sh (am (X 0)),.sh (ap N ps),.sh (.int (m:Int)),owl (df C k),.sh (am (X k)),v5]=some (.nx [.sh (am (X 0)),.sh (ap N ps),.sh (.int (m:Int)),owl (df C n),.sh (am (X n)),v5']):=by
  intro j;induction j with
  |zero=>
   intro k hk v5;have:k=n:=by lia
   subst this;refine⟨v5,vY ?_⟩;have d:=nR (p:=X k);have hl:=dH C k;generalize df C k=cs at *;generalize ap N ps=F;generalize am (X 0)=P0;rcases e0 with e0|e0
   ·rw[UA e0] at d;generalize am (X k)=Pk at *;simp[bv,d]
   ·have:¬((cs.length:Int)<m):=by lia
    generalize am (X k)=Pk at *;cases hd:decide (X k=[])<;>rw[hd] at d<;>simp[bv,d,this]
  |succ j ih=>
   intro k hk v5;obtain⟨v',h⟩:=ih (k+1) (by lia) (.sh (am (X (k+1))));refine⟨v',sn ?_ ?_ h⟩
   ·have:=nR (p:=X k);rw[T5 (hne k (by lia))] at this;have hl:=dH C k;have hkm:((df C k).length:Int)<m:=by lia
    generalize df C k=cs at *;generalize ap N ps=F;generalize am (X 0)=P0;generalize am (X k)=Pk at *;simp[bv,this,hkm]
   ·unfold cX;rw[aw (bK (ze L.hN (ps:=ps) (ds:=[am (X k)]) (by decide) rfl rfl (L.sm k)))];rw[aw (yJ (gs:=df C k) (eJ (gU (d:=am (X k)) rfl (gU (ze L.hN (ps:=ps) (ds:=[am (X (k+1))]) (by decide) rfl rfl (L.gr k)) rfl)) (L.ls k)) rfl (ci (by rw[dH];lia)))];rw[<- Ar];rfl
 obtain⟨v',h⟩:=turn n 0 (by lia) .un;have ex:d8 [.sh (am (X 0)),.sh (ap N ps),.sh (.int (m:Int)),.un,.un,.un]=some (.rt (.lst (df C n++[am (X n)]))):=by
  unfold d8;rw[aw (ρ':=[.sh (am (X 0)),.sh (ap N ps),.sh (.int (m:Int)),owl [],.un,.un]) (by rfl)];rw[aw (ρ':=[.sh (am (X 0)),.sh (ap N ps),.sh (.int (m:Int)),owl [],.sh (am (X 0)),.un]) (bK (d:=am (X 0)) rfl)];have h':dg bv cX [.sh (am (X 0)),.sh (ap N ps),.sh (.int (m:Int)),owl [],.sh (am (X 0)),.un]=_:=h;rw[aw h'];have hl:=dH C n;generalize df C n=cs at *;have l1:1<=LIM:=aC (by lia);have l2:cs.length+1<=LIM:=aC (by lia);generalize ap N ps=F;generalize am (X 0)=P0;generalize am (X n)=Pn;have ha:aP (.lst cs) (.lst [Pn])=some (.lst (cs++[Pn])):=by rw[Dp,Tn (by simpa using l2)]
  simp[l1,ha]
 exact uu (n:=6) (ds:=[am (X 0),ap N ps,.int (m:Int)]) ex
end
noncomputable def pE:List (List Blk):=[[(0,0,0,0)]]
noncomputable def aX (ps:List (List Blk)):Nat->List (List Blk)
 |0=>pE
 |n+1=>vN (aX ps n++ps)
noncomputable def gI:Nat->Str
 |0 => "Shape"
 |_+1 => "Sum"
theorem ln:∀n,NS.contains (gI n)=true
 |0=>by first|rfl|decide +kernel
 |_+1=>by first|rfl|decide +kernel
theorem M8:FOk pE:=fun bs hb=>by have e:bs=[(0,0,0,0)]:=Ts.mp hb;subst e;refine⟨(fun z=>by cases z),fun b hb=>?_⟩;have e:b=(0,0,0,0):=Ts.mp hb;subst e;exact⟨TN _,TN _⟩
theorem uv {ps qs:List (List Blk)}(hp:FOk ps)(hq:FOk qs):FOk (ps++qs):=fun z hz=>(TB.mp hz).elim (hp z) (hq z)
theorem ux {ps:List (List Blk)}(h:FOk ps):∀n,FOk (aX ps n)
 |0=>M8
 |n+1=>LA (uv (ux h n) h)
noncomputable def yD (ps:List (List Blk)):Nat->Int->Int->Prop
 |0,x,y=>x=0/\y=0
 |n+1,x,y=>∃u v,yD ps n u v/\Off ps (x-u) (y-v)
theorem Ii (x y:Int):Off pE x y↔x=0/\y=0:=by
 constructor
 ·rintro⟨u,v,⟨b,hb,h⟩,h1,h2⟩;rw[Ts.mp hb] at h;unfold jV at h;dsimp only at h;lia
 ·rintro⟨rfl,rfl⟩;exact⟨0,0,⟨(0,0,0,0),Ts.mpr rfl,by unfold jV;dsimp only;lia⟩,by lia,by lia⟩
theorem pA {ps:List (List Blk)}(h:FOk ps):∀(n:Nat) (x y:Int),Off (aX ps n) x y↔yD ps n x y
 |0,x,y=>Ii x y
 |n+1,x,y=>by
  show Off (vN (aX ps n++ps)) x y↔_;rw[D9 (uv (ux h n) h),nU];constructor
  ·rintro⟨u,v,h1,h2⟩;exact⟨u,v,(pA h n u v).mp h1,h2⟩
  ·rintro⟨u,v,h1,h2⟩;exact⟨u,v,(pA h n u v).mpr h1,h2⟩
noncomputable def lQ (ps:List (List Blk)):Nat->List (List Blk)
 |0=>[]
 |n+1=>lQ ps n++bM ps
theorem lJ (a b:List (List Blk)):bM (a++b)=bM a++bM b:=by unfold bM;rw[List.filter_append]
theorem Ft (a:List (List Blk)):bM (bM a)=bM a:=by unfold bM;rw[List.filter_filter];simp
theorem uU (ps:List (List Blk)):∀n,bM (lQ ps n)=lQ ps n
 |0=>rfl
 |n+1=>by rw[lQ,lJ,uU ps n,Ft]
theorem m5 (b:Blk)(l:List (List Blk)):bM ([b]::l)=bM l:=by unfold bM;rw[List.filter_cons_of_neg (by simp)]
theorem AI (ps:List (List Blk)):∀n,∃b,aX ps n=[b]::lQ ps n
 |0=>⟨(0,0,0,0),rfl⟩
 |n+1=>by obtain⟨b,e⟩:=AI ps n;refine⟨c8 (aq (aX ps n++ps)),?_⟩;show [c8 (aq (aX ps n++ps))]::bM (aX ps n++ps)=_;rw[lJ,e,m5,uU];rfl
theorem KJ (ps:List (List Blk)):(bM ps).length<=ps.length:=UJ _ _
theorem Ef (ps:List (List Blk)):∀n,(lQ ps n).length<=n * ps.length
 |0=>T2 _
 |n+1=>by rw[lQ,Tu,Vs];have:=Ef ps n;have:=KJ ps;lia
theorem E9 (ps:List (List Blk))(n:Nat):(aX ps n).length<=1+n * ps.length:=by obtain⟨b,e⟩:=AI ps n;rw[e,Tz];have:=Ef ps n;lia
theorem AZ (p:Pic)(c:ao p)(hp:p≠[])(h:(ah p).length<30000):fA [am p]=some (bx [bu p]):=by
 have hb:=(lF p c h).1;have de:dEq false (am p) (.tup [])=some (.bl false):=by
  unfold dEq;rw[Tn ⟨zk p,by simp[okD,okDs]⟩];cases p with
  |nil=>exact absurd rfl hp
  |cons q p=>simp[eqD,eqDs]
 simp[fA,y6,de,hb]
theorem FD (N M:Str)(hN:NS.contains N=true)(hM:NS.contains M=true)(ps qs:List (List Blk))(h:ps.length+qs.length<=1000):zf [ap N ps,ap M qs]=some (bx (vN (ps++qs))):=by
 have hl:(ps.map eT).length+(qs.map eT).length<=LIM:=aC (by rw[Tt,Tt];lia);have hm:=pk (ps++qs) (by rw[Tu];exact h);have e1:l9 NS "parts" (ak 1) [.lo,.sh (ap N ps),.sh (ap M qs)]=some (bx ps):=by show (if NS.contains N then wu ["parts"] [bx ps] "parts" else none)=_;rw[Tn hN];rfl
 have e2:l9 NS "parts" (ak 2) [.lo,.sh (ap N ps),.sh (ap M qs)]=some (bx qs):=by show (if NS.contains M then wu ["parts"] [bx qs] "parts" else none)=_;rw[Tn hM];rfl
 have e3:xOp aP (l9 NS "parts" (ak 1)) (l9 NS "parts" (ak 2)) [.lo,.sh (ap N ps),.sh (ap M qs)]=some (bx (ps++qs)):=by unfold xOp;rw[e1,e2];show aP (bx ps) (bx qs)=_;rw[Dq,Tn hl,<- T7]
 show av fv (ad (xOp aP (l9 NS "parts" (ak 1)) (l9 NS "parts" (ak 2))) ai) [.lo,.sh (ap N ps),.sh (ap M qs)]=_;unfold av ad ai;rw[e3];exact hm
theorem F3:fA [.mtp [.mtp [.int 0,.mtp [.mtp [.int 0,.int 0]]]]]=some (bx pE):=by
 have de:dEq false (D.mtp [.mtp [.int 0,.mtp [.mtp [.int 0,.int 0]]]]) (.tup [])=some (.bl false):=by
  first|rfl|decide +kernel
 have l3:3<=LIM:=aC (by lia);have l1:1<=LIM:=aC (by lia);have h1:a8 [.mtp [.mtp [.int 0,.mtp [.mtp [.int 0,.int 0]]]]]=some (.lst [b5 (0,0,0)]):=by simp[a8,c7,fnO,dD,cD,wN,bE,aF,aj,aE,a6,cU,l3,l1]
 have h2:gw [.mtp [.mtp [.int 0,.mtp [.mtp [.int 0,.int 0]]]]]=some (eT [(0,0,0,0)]):=by
  have e0:cM [((0,0,0):Tri)]=[(0,0,0)]:=List.perm_singleton.mp (dU _);have hb:eI [.lst [b5 (0,0,0)]]=some [b5 (0,0,0)]:=by have:=jZ [((0,0,0):Tri)] (by show 1<30000;decide);rw[e0] at this;exact this
  simp[gw,gY,fnO,gt,h1,wN,a6,cU,aF,aj,aE,hb,bE,bj,l3,l1]
 simp[fA,y6,de,h2,pE]
theorem Fs (N:Str)(hN:NS.contains N=true)(ps:List (List Blk))(n:Nat)(hn:n<=60)(hl:ps.length<=10):HQ [ap N ps,.int (n:Int)]=some (ap (gI n) (aX ps n)):=by
 have hS':=F3;have hr:rg [D.int (n:Int)]=some ((List.range n).map fun i:Nat=>D.int (i:Int)):=by
  show ifC _ _ _=_;rw[dq (by lia)];show some (dr 0 n)=_;congr 1;have:∀(m:Nat) (a:Nat),dr (a:Int) m=(List.range' a m).map fun i:Nat=>D.int (i:Int):=fun m=>by
   induction m with
   |zero=>intro a;rfl
   |succ m ih=>intro a;rw[dr,V4,TF,show (a:Int)+1=((a+1:Nat):Int) by lia,ih]
  have h0:=this n 0;rw[WJ];exact h0
 obtain⟨ρ',k1,v3,rfl⟩:=aS (g:=af 3) (m:=kT) (fun i:Nat=>D.int (i:Int)) (fun pre ρ=>∃v3:Sl,ρ=[.sh (ap N ps),.sh (.int (n:Int)),.sh (ap (gI pre.length) (aX ps pre.length)),v3]) (List.range n) [.sh (ap N ps),.sh (.int (n:Int)),.sh (ap "Shape" pE),.un] ⟨.un,rfl⟩ (by
  rintro pre k post _ e ⟨v3,rfl⟩;have hpl:pre.length<n:=by have:=TQ List.length e;rw[Uy,Tu,Tz] at this;lia
  have hfl:=E9 ps pre.length;have hmm:pre.length * ps.length<=60 * 10:=Nat.mul_le_mul (by lia) hl;have hs:=FD (gI pre.length) N (ln _) hN (aX ps pre.length) ps (by lia);refine⟨_,[.sh (ap N ps),.sh (.int (n:Int)),.sh (ap "Sum" (aX ps (pre.length+1))),.sh (.int (k:Int))],rfl,.inl ?_,_,by rw[Tu];rfl⟩;have hs':zf [ap (gI pre.length) (aX ps pre.length),ap N ps]=some (bx (aX ps (pre.length+1))):=hs;generalize hA:ap (gI pre.length) (aX ps pre.length)=FA at *;generalize hB:ap N ps=FB at *;generalize hC:bx (aX ps (pre.length+1))=FC at *;simp[kT,hs']
  exact hC.symm)
 rw[Uy] at k1;have hrun:tX [.sh (ap N ps),.sh (.int (n:Int)),.un,.un]=some (.rt (ap (gI n) (aX ps n))):=by
  unfold tX;rw[aw (ρ':=[.sh (ap N ps),.sh (.int (n:Int)),.sh (ap "Shape" pE),.un]) (by
   exact bK (by unfold kO;show (fA [.mtp [.mtp [.int 0,.mtp [.mtp [.int 0,.int 0]]]]]).map _=_;rw[hS'];rfl))]
  have hfor:bg (gH (ad (ag 1) ai)) (af 3) kT [.sh (ap N ps),.sh (.int (n:Int)),.sh (ap "Shape" pE),.un]=some (.nx [.sh (ap N ps),.sh (.int (n:Int)),.sh (ap (gI n) (aX ps n)),v3]):=by
   have hi:gH (ad (ag 1) ai) [.sh (ap N ps),.sh (.int (n:Int)),.sh (ap "Shape" pE),.un]=some ((List.range n).map fun i:Nat=>D.int (i:Int)):=by show rg [D.int (n:Int)]=_;exact hr
   unfold bg;rw[hi];exact k1
  rw[aw hfor];rfl
 exact uu (n:=4) (ds:=[ap N ps,.int (n:Int)]) hrun
theorem lv {ps:List (List Blk)}(ok:FOk ps)(p:Pic)(k:Nat)(x y:Int):GrF p (aX ps k) x y↔∃u v,yD ps k u v/\az p (x-u) (y-v):=by
 unfold GrF;constructor
 ·rintro⟨u,v,h1,h2⟩;exact⟨u,v,(pA ok k u v).mp h1,h2⟩
 ·rintro⟨u,v,h1,h2⟩;exact⟨u,v,(pA ok k u v).mpr h1,h2⟩
structure SvP (N:Str) (ps:List (List Blk)) (j:Nat) (X G C U:Nat->Pic):Prop where
 L:LayM N ps X G C
 ok:FOk ps
 few:ps.length<=10
 fit:∀k x y,az (X (k+1)) x y↔we (X k) ps x y
 cm:∀k x y,az (C k) x y↔az (X k) x y/\¬GrF (X (k+1)) ps x y
 cc:∀k,ao (C k)
 fc:∀k,k<j->∃q,aK [ap (gI k) (aX ps k),am (C k)]=some (am q)/\(ah q).length<=5000/\∀x y,az q x y↔GrF (C k) (aX ps k) x y
 fx:∀k,k<=j->aK [ap (gI k) (aX ps k),am (X k)]=some (am (U k))/\ao (U k)/\(ah (U k)).length<=5000/\∀x y,az (U k) x y↔GrF (X k) (aX ps k) x y
section
variable {N:Str}{ps:List (List Blk)}{j:Nat}{X G C U:Nat->Pic}
theorem SvP.open_eq (s:SvP N ps j X G C U){k:Nat}(hk:k<j)(x y:Int):az (U k) x y↔az (U (k+1)) x y\/GrF (C k) (aX ps k) x y:=by
 rw[(s.fx k (by lia)).2.2.2,(s.fx (k+1) (by lia)).2.2.2,lv s.ok,lv s.ok,lv s.ok];constructor
 ·rintro⟨u,v,h1,h2⟩;by_cases hg:GrF (X (k+1)) ps (x-u) (y-v)
  ·obtain⟨u',v',h3,h4⟩:=hg;exact .inl ⟨u+u',v+v',⟨u,v,h1,by rwa[show u+u'-u=u' by lia,show v+v'-v=v' by lia]⟩,by rwa[show x-(u+u')=x-u-u' by lia,show y-(v+v')=y-v-v' by lia]⟩
  ·exact .inr ⟨u,v,h1,(s.cm k _ _).mpr ⟨h2,hg⟩⟩
 ·rintro (⟨u,v,⟨u1,v1,h1,h2⟩,h3⟩|⟨u,v,h1,h2⟩)
  ·have:=(s.fit k _ _).mp h3 _ _ h2;exact⟨u1,v1,h1,by rwa[show x-u+(u-u1)=x-u1 by lia,show y-v+(v-v1)=y-v1 by lia] at this⟩
  ·exact⟨u,v,h1,((s.cm k _ _).mp h2).1⟩
noncomputable def Ck (U:Nat->Pic)(n:Nat):List D:=(List.range n).map fun k=>D.int (cnt (U k))
theorem Da {j:Nat}(h:j<=1000):Ei [.int (j:Int),.int (-1),.int (-1)]=some ((List.range (j+1)).map fun i:Nat=>D.int ((j:Int)+(i:Int) * -1)):=by
 have e:Builtin.Range.rangeSize (j:Int) (-1) (-1)=(j:Int)+1:=by unfold Builtin.Range.rangeSize;rw[To (by decide),Tn (by lia)];show ((j:Int) - -1-1) / 1+1=_;rw[Int.ediv_one];lia
 have sm:Builtin.Range.small (j:Int) (-1) (-1)=true:=by
  unfold Builtin.Range.small;rw[e];simp only[Builtin.Range.rangeFitsLong,Ul,Bool.or_eq_true,VP,Ur];have e:(2:Int) ^ 63=9223372036854775808:=by decide
  simp;lia
 show ifC _ _ _=_;rw[dq ⟨by decide,by decide,sm⟩,e];show some (rB (j:Int) (-1) ((j:Int)+1).toNat)=_;rw[show ((j:Int)+1).toNat=j+1 by lia];rfl
theorem Iq {f:D->D->Option D}{a b:XE}{ρ:M.Env}{x y z:D}(ha:a ρ=some x)(hb:b ρ=some y)(h:f x y=some z):xOp f a b ρ=some z:=by unfold xOp;rw[ha,hb];exact h
theorem Qm {a:XE}{ρ:M.Env}{b:Bool}(h:a ρ=some (.bl b)):xB a ρ=some b:=by unfold xB;rw[h];rfl
theorem CB {c:XT}{a:XS}{ρ:M.Env}(h:c ρ=some false):xIf c a eX ρ=some (.nx ρ):=by unfold xIf;rw[h];rfl
theorem Hy {c:XT}{a b:XS}{ρ:M.Env}{o:Out}(h:c ρ=some true)(k:a ρ=some o):xIf c a b ρ=some o:=by unfold xIf;rw[h];exact k
theorem sg (s:SvP N ps j X G C U)(c0:∀k,ao (X k)){m:Nat}(hj:j<=60)(hm:j<=m)(e0:X j=[]\/j=m)(hne:∀k,k<j->X k≠[]):dM [am (X 0),ap N ps,.int (m:Int)]=some (.lst ((Ck U (j+1)).map O.sh)):=by
 have ht:=qQ s.L (n:=j) (m:=m) (by lia) hm e0 hne;have hlay:∀k:Nat,k<=j->atI (df C j++[am (X j)]) (k:Int)=some (am (if k=j then X j else C k)):=fun k hk=>by
  refine eM ?_;by_cases h:k=j
  ·rw[Tn h,Vk (by rw[dH];lia),dH,show k-j=0 by lia];rfl
  ·rw[To h,Vy (by rw[dH];lia)];unfold df;rw[TW,List.getElem?_range (by lia)];rfl
 have hll:((df C j++[am (X j)]).length:Int)-1=(j:Int):=by rw[Tu,dH,TY];lia
 generalize hLy:df C j++[am (X j)]=Ly at *
 -- one turn: what is opened so far
 have step:∀(k:Nat) (o:Pic),k<=j->ao o->(ah o).length<=5000->(∀x y,az (U k) x y↔az o x y\/GrF (if k=j then X j else C k) (aX ps k) x y)->∀(P0 m':D) (cn:List D),cn.length<=1000->g7 [.sh P0,.sh (ap N ps),.sh m',.sh (.lst Ly),owl cn,.sh (am o),.sh (.int (k:Int))]=some (.nx [.sh P0,.sh (ap N ps),.sh m',.sh (.lst Ly),owl (cn++[.int (cnt (U k))]),.sh (am (U k)),.sh (.int (k:Int))]):=fun k o hk co ho hu P0 m' cn hcn=>by
  obtain⟨x1,x2,x3,x4⟩:=s.fx k hk;have hlim:cn.length<LIM:=ci (by lia);have hcnt:gh [am (U k)]=some (.int (cnt (U k))):=qL _ (by have:=kg x2;lia) fun q hq=>by have:=bZ hq;lia
  have hat:=hlay k hk;have hfd:=Fs N s.L.hN ps k (by lia) s.few;have hix:∀ρ:M.Env,ρ[3]?=some (.sh (.lst Ly))->ρ[6]?=some (.sh (.int (k:Int)))->xOp dIx (ag 3) (ag 6) ρ=some (am (if k=j then X j else C k)):=fun ρ h1 h2=>Iq (x:=.lst Ly) (y:=.int (k:Int)) (by unfold ag;rw[h1];rfl) (by unfold ag;rw[h2];rfl) hat;have hc:=Qm (Iq (hix [.sh P0,.sh (ap N ps),.sh m',.sh (.lst Ly),owl cn,.sh (am o),.sh (.int (k:Int))] rfl rfl) (b:=aJ ai) (y:=.tup []) rfl nR);obtain⟨q,q1,q2,q3⟩:∃q,aK [ap (gI k) (aX ps k),am (if k=j then X j else C k)]=some (am q)/\(ah q).length<=5000/\∀x y,az q x y↔GrF (if k=j then X j else C k) (aX ps k) x y:=by
   by_cases hkj:k=j
   ·rw[Tn hkj];subst hkj;exact⟨U k,x1,x3,x4⟩
   ·rw[To hkj];exact s.fc k (by lia)
  unfold g7;by_cases hz:(if k=j then X j else C k)=[]
  ·have eo:o=U k:=jl co x2 fun x y=>by
    rw[hu,hz];constructor
    ·exact .inl
    ·rintro (h|⟨u,v,_,h⟩)
     ·exact h
     ·exact (aU _ _ h).elim
   rw[UA hz] at hc;rw[aw (CB hc),eo];exact yJ (gs:=cn) (eJ (ds:=[am (U k)]) rfl hcnt) rfl hlim
  ·rw[T5 hz] at hc;have hj:uO [am o,am q]=some (am (U k)):=by
    rw[xW _ _ (by lia)];refine TQ (fun p=>some (am p)) (jl (xP _ _) x2 fun x y=>?_);rw[DT,hu,q3]
   rw[aw (Hy hc (bK (eJ (gU (d:=am o) rfl (gU (ze (ln k) (ps:=aX ps k) (by decide) (eJ (ds:=[ap N ps,.int (k:Int)]) rfl hfd) (gU (hix _ rfl rfl) rfl) q1) rfl)) hj)))];exact yJ (gs:=cn) (eJ (ds:=[am (U k)]) rfl hcnt) rfl hlim
 obtain⟨ρ',k1,v6,rfl⟩:=aS (g:=af 6) (m:=g7) (fun i:Nat=>D.int ((j:Int)+(i:Int) * -1)) (fun pre ρ=>∃v6:Sl,ρ=[.sh (am (X 0)),.sh (ap N ps),.sh (.int (m:Int)),.sh (.lst Ly),owl ((List.range pre.length).map fun i=>D.int (cnt (U (j-i)))),.sh (am (if pre.length=0 then [] else U (j+1-pre.length))),v6]) (List.range (j+1)) [.sh (am (X 0)),.sh (ap N ps),.sh (.int (m:Int)),.sh (.lst Ly),owl [],.sh (.tup []),.un] ⟨.un,rfl⟩ (by
  rintro pre i post _ e ⟨v6,rfl⟩;have hi:i=pre.length/\i<j+1:=by
   have h1:(List.range (j+1))[pre.length]?=some i:=by rw[e];simp
   obtain⟨h2,h3⟩:=TR.mp h1;rw[List.getElem_range] at h3;rw[Uy] at h2;lia
  have hk:(j:Int)+(i:Int) * -1=((j-pre.length:Nat):Int):=by lia
  have hs:=step (j-pre.length) (if pre.length=0 then [] else U (j+1-pre.length)) (by lia) (by
   split
   ·exact dN
   ·exact (s.fx _ (by lia)).2.1) (by
   split
   ·exact T2 _
   ·exact (s.fx _ (by lia)).2.2.1) (fun x y=>by
   by_cases h0:pre.length=0
   ·rw[Tn h0,Tn (by lia),show j-pre.length=j by lia];rw[(s.fx j (Tw _)).2.2.2];exact⟨.inr,fun h=>h.elim (fun h=>(aU _ _ h).elim) id⟩
   ·rw[To h0,To (by lia),s.open_eq (by lia),show j-pre.length+1=j+1-pre.length by lia]) (am (X 0)) (.int (m:Int)) ((List.range pre.length).map fun i=>D.int (cnt (U (j-i)))) (by rw[Tt,Uy];lia)
  refine⟨_,_,rfl,.inl (by rw[hk];exact hs),.sh (.int ((j-pre.length:Nat):Int)),?_⟩;rw[Tu,TY,To (Nat.succ_ne_zero _),V6,T7,show j+1-(pre.length+1)=j-pre.length by lia]
  rfl)
 rw[Uy,To (Nat.succ_ne_zero _),Nat.sub_self] at k1;have hrev:((List.range (j+1)).map fun i=>D.int (cnt (U (j-i)))).reverse=Ck U (j+1):=by
  unfold Ck;apply Wd
  ·simp
  ·intro i h1 h2;simp only[V0,Tt,Uy] at h1;rw[List.getElem_reverse];simp only[List.getElem_map,List.getElem_range,Tt,Uy];rw[show j-(j+1-1-i)=i by lia]
 refine xF (n:=7) (ds:=[am (X 0),ap N ps,.int (m:Int)]) ?_;show oW [.sh (am (X 0)),.sh (ap N ps),.sh (.int (m:Int)),.un,.un,.un,.un]=_;unfold oW;rw[aw (ρ':=[.sh (am (X 0)),.sh (ap N ps),.sh (.int (m:Int)),.sh (.lst Ly),.un,.un,.un]) (bK (eJ (ds:=[am (X 0),ap N ps,.int (m:Int)]) rfl ht))];rw[aw (ρ':=[.sh (am (X 0)),.sh (ap N ps),.sh (.int (m:Int)),.sh (.lst Ly),owl [],.un,.un]) (by rfl)];rw[aw (ρ':=[.sh (am (X 0)),.sh (ap N ps),.sh (.int (m:Int)),.sh (.lst Ly),owl [],.sh (.tup []),.un]) (bK rfl)];have hfor:bg (vX (ad (xOp eY (xCB gS (ad (ag 3) ai)) (xC (.int 1))) (ad (xUn cJ (xC (.int 1))) (ad (xUn cJ (xC (.int 1))) ai)))) (af 6) g7 [.sh (am (X 0)),.sh (ap N ps),.sh (.int (m:Int)),.sh (.lst Ly),owl [],.sh (.tup []),.un]=some (.nx [.sh (am (X 0)),.sh (ap N ps),.sh (.int (m:Int)),.sh (.lst Ly),owl ((List.range (j+1)).map fun i=>D.int (cnt (U (j-i)))),.sh (am (U 0)),v6]):=by
  have hi:vX (ad (xOp eY (xCB gS (ad (ag 3) ai)) (xC (.int 1))) (ad (xUn cJ (xC (.int 1))) (ad (xUn cJ (xC (.int 1))) ai))) [.sh (am (X 0)),.sh (ap N ps),.sh (.int (m:Int)),.sh (.lst Ly),owl [],.sh (.tup []),.un]=some ((List.range (j+1)).map fun i:Nat=>D.int ((j:Int)+(i:Int) * -1)):=by rw[<- Da (by lia),<- hll];rfl
  unfold bg;rw[hi];exact k1
 rw[aw hfor];rw[<- hrev];generalize (List.range (j+1)).map (fun i=>D.int (cnt (U (j-i))))=l;generalize am (X 0)=a;generalize am (U 0)=b;generalize ap N ps=F;simp
end
noncomputable def nB (b:Blk)(n:Nat):Blk:=((n:Int) * b.1,(n:Int) * b.2.1,(n:Int) * b.2.2.1,(n:Int) * b.2.2.2)
theorem KK (b:Blk)(n:Nat):oX (nB b n) b=nB b (n+1):=by unfold oX nB;simp only[UR,V8,Int.natCast_one,Int.one_mul]
theorem sj (ps:List (List Blk)):∀n,aq (lQ ps n)=[]
 |0=>rfl
 |n+1=>by
  have h:=sj ps n;have h2:aq (bM ps)=[]:=by unfold aq bM;rw[List.filterMap_eq_nil_iff];intro bs hb;have:=UP (T4.mp hb).2;rw[To (by lia)]
  unfold aq at h h2 ⊢;rw[lQ,List.filterMap_append,h,h2];rfl
theorem uw (ps:List (List Blk)):∀n,aX ps n=[nB (c8 (aq ps)) n]::lQ ps n
 |0=>by
  show [[(0,0,0,0)]]=_;unfold nB;simp[lQ]
 |n+1=>by
  show [c8 (aq (aX ps n++ps))]::bM (aX ps n++ps)=_;rw[uw ps n,lJ,m5,uU];have e:aq (([nB (c8 (aq ps)) n]::lQ ps n)++ps)=nB (c8 (aq ps)) n::aq ps:=by have h:=sj ps n;unfold aq at h ⊢;rw[List.filterMap_append,U6,h];rfl
  rw[e];show [oX (nB (c8 (aq ps)) n) (c8 (aq ps))]::_=_;rw[KK];rfl
theorem kd (bs:List Blk)(x y:Int):Off [bs] x y↔B6 bs x y:=by
 constructor
 ·rintro⟨u,v,h1,h2,h3⟩;rwa[show x=u by lia,show y=v by lia]
 ·intro h;exact⟨x,y,h,by lia,by lia⟩
theorem DK {bs:List Blk}(h:bs≠[])(hb:∀b∈bs,BOk b):FOk [bs]:=fun z hz=>by rw[Ts] at hz;subst hz;exact⟨h,hb⟩
theorem k9 {P:Int->Int->Prop}{l:R}(h:∀x y,P x y->(x,y)∈l){n:Nat}(hn:l.length<=n):Cov n P:=by
 classical
 refine⟨(l.filter fun c=>decide (P c.1 c.2)).map fun c=>(c.2,c.1,c.1),by rw[Tt];exact T1 (UJ _ _) hn,fun x y=>?_⟩;constructor
 ·rintro⟨t,ht,e,h1,h2⟩;obtain⟨c,hc,rfl⟩:=Ty.mp ht;obtain⟨_,hp⟩:=T4.mp hc;dsimp only at e h1 h2;have hp:=UP hp;rwa[show c.1=x by lia,e] at hp
 ·intro hp;exact⟨_,Ty.mpr ⟨(x,y),T4.mpr ⟨h x y hp,UA hp⟩,rfl⟩,rfl,TN _,TN _⟩
structure FL (ps:List (List Blk)) (bs:List Blk) (fs:R):Prop where
 eq:ps=[bs]
 ok:FOk ps
 hi:bs.length<=10/\aM bs<=10
 mem:∀u v,Off ps u v↔(u,v)∈fs
 near:∀f∈fs,-1<=f.2/\f.2<=1
 ne:fs≠[]
theorem u4 (bs:List Blk):∀(i:Nat) (x y:Int),Off (List.replicate i bs) x y↔yD [bs] i x y
 |0,x,y=>Ug
 |i+1,x,y=>by
  show (∃u v,B6 bs u v/\Off (List.replicate i bs) (x-u) (y-v))↔∃u v,yD [bs] i u v/\Off [bs] (x-u) (y-v);constructor
  ·rintro⟨u,v,h1,h2⟩;exact⟨x-u,y-v,(u4 bs i _ _).mp h2,(kd ..).mpr (by rwa[show x-(x-u)=u by lia,show y-(y-v)=v by lia])⟩
  ·rintro⟨u,v,h1,h2⟩;exact⟨x-u,y-v,(kd ..).mp h2,(u4 bs i _ _).mpr (by rwa[show x-(x-u)=u by lia,show y-(y-v)=v by lia])⟩
theorem yj (bs:List Blk):∀n,∃i,i<=n/\lQ [bs] n=List.replicate i bs
 |0=>⟨0,Tw _,rfl⟩
 |n+1=>by
  obtain⟨i,h1,h2⟩:=yj bs n;by_cases h:1<bs.length
  ·refine⟨i+1,by lia,?_⟩;have e:bM [bs]=[bs]:=by unfold bM;simp[h]
   show lQ [bs] n++bM [bs]=_;rw[h2,e,List.replicate_succ']
  ·refine⟨i,by lia,?_⟩;have e:bM [bs]=[]:=by unfold bM;simp[h]
   show lQ [bs] n++bM [bs]=_;rw[h2,e,Ue]
theorem BR {bs c:List Blk}{pre post:List (List Blk)}{i:Nat}(e:List.replicate i bs=post++c::pre):∃k,k<i/\pre=List.replicate k bs/\c=bs:=by
 have hl:=TQ List.length e;rw[Wb,Tu,Tz] at hl;refine⟨pre.length,by lia,List.eq_replicate_iff.mpr ⟨rfl,fun z hz=>?_⟩,?_⟩
 ·exact List.eq_of_mem_replicate (a:=bs) (n:=i) (by rw[e];exact TH _ (TC _ hz))
 ·exact List.eq_of_mem_replicate (a:=bs) (n:=i) (by rw[e];simp)
section
variable {ps:List (List Blk)}{bs:List Blk}{fs cs:R}{N:Str}{S:Nat->R}{G:Nat->Nat->R}
theorem FL.offQ (f:FL ps bs fs):∀(k:Nat) (u v:Int),yD ps k u v↔GK (· ∈ fs) k (u,v)
 |0,u,v=>by
  show (u=0/\v=0)↔(u,v)=(0,0)
  rw[Vt]
 |k+1,u,v=>by
  show (∃a b,yD ps k a b/\Off ps (u-a) (v-b))↔∃w,GK (· ∈ fs) k w/\∃g,g∈fs/\(u,v)=bX w g;constructor
  ·rintro⟨a,b,h1,h2⟩;exact⟨(a,b),(f.offQ k a b).mp h1,(u-a,v-b),(f.mem _ _).mp h2,by unfold bX;exact US (by dsimp only;lia) (by dsimp only;lia)⟩
  ·rintro⟨w,h1,g,h2,e⟩;obtain⟨e1,e2⟩:=Prod.mk.inj e;exact⟨w.1,w.2,(f.offQ k w.1 w.2).mpr h1,(f.mem _ _).mpr (by rwa[show u-w.1=g.1 by lia,show v-w.2=g.2 by lia])⟩
theorem FL.some (f:FL ps bs fs):∀k,∃o,GK (· ∈ fs) k o
 |0=>⟨(0,0),rfl⟩
 |k+1=>by obtain⟨o,h⟩:=f.some k;obtain⟨g,r,e⟩:=WI f.ne;exact⟨bX o g,o,h,g,by show g∈fs;rw[e];exact Tx,rfl⟩
theorem FL.high (f:FL ps bs fs)(k:Nat)(hk:k<=4):aM [nB (c8 (aq ps)) k]<=20:=by
 have hh:(c8 (aq ps)).2.2.2-(c8 (aq ps)).2.1<=2/\0<=(c8 (aq ps)).2.2.2-(c8 (aq ps)).2.1:=by
  rw[f.eq];by_cases h1:bs.length=1
  ·obtain⟨b,rfl⟩:=WH.mp h1;have e:c8 (aq [[b]])=b:=by simp[aq,c8,oX]
   rw[e];have ok:=(f.ok [b] (by rw[f.eq];simp)).2 b (by simp);have q1:=f.near _ ((f.mem b.1 b.2.1).mp (by rw[f.eq,kd];exact⟨b,by simp,TN _,ok.1,TN _,ok.2⟩));have q2:=f.near _ ((f.mem b.1 b.2.2.2).mp (by rw[f.eq,kd];exact⟨b,by simp,TN _,ok.1,ok.2,TN _⟩));dsimp only at q1 q2;have:=ok.2;lia
  ·have e:c8 (aq [bs])=(0,0,0,0):=by simp[aq,h1,c8]
   rw[e];decide
 rw[fS];unfold P.high nB;dsimp only;have h1:(k:Int) * (c8 (aq ps)).2.2.2-(k:Int) * (c8 (aq ps)).2.1=(k:Int) * ((c8 (aq ps)).2.2.2-(c8 (aq ps)).2.1):=by rw[Int.mul_sub]
 rw[h1];have h2:(k:Int) * ((c8 (aq ps)).2.2.2-(c8 (aq ps)).2.1)<=4 * 2:=Int.mul_le_mul (by lia) hh.1 hh.2 (by lia);lia
theorem K2 (f:FL ps bs fs)(hN:NS.contains N=true)(sv:SvL cs fs S G){p:Pic}(c:ao p)(hp:∀x y,az p x y↔(x,y)∈cs):∃X:Nat->Pic,X 0=p/\(∀k,ao (X k))/\(∀k x y,az (X k) x y↔(x,y)∈S k)/\(∀k,bF [ap N ps,am (X k)]=some (am (X (k+1))))/\∀k x y,az (X (k+1)) x y↔we (X k) ps x y:=by
 have key:∀p:Pic,∃q:Pic,(ao p/\Cov 42 (az p))->bF [ap N ps,am p]=some (am q)/\ao q/\∀x y,az q x y↔we p ps x y:=fun p=>by
  by_cases h:ao p/\Cov 42 (az p)
  ·have hl:=jb h.1 (fun _ _=>Ug) h.2;have hr:=kg h.1;obtain⟨q,a1,a2,a3,a4⟩:=pO N hN ps f.ok (fun z hz=>by rw[f.eq,Ts] at hz;subst hz;have:=f.hi.1;lia) p h.1 (by lia) fun pre c post e=>by
    have:pre=[]/\c=bs:=by
     rw[f.eq] at e;cases pre with
     |nil=>cases e;exact⟨rfl,rfl⟩
     |cons z pre=>have:=TQ List.length e;rw[Tz,Tu,Tz,Tz,Vg] at this;lia
    obtain⟨rfl,rfl⟩:=this;refine⟨42,h.2.congr fun u v=>⟨fun k u' v' ⟨e1,e2⟩=>by subst e1 e2;simpa using k,fun k=>by simpa using k 0 0 ⟨rfl,rfl⟩⟩,by lia,?_⟩;have:=f.hi.2;lia
   exact⟨q,fun _=>⟨a1,a2,a4⟩⟩
  ·exact⟨[],fun k=>absurd k h⟩
 obtain⟨F,hF⟩:=V7.mp key
 let X:Nat->Pic:=fun k=>Nat.rec p (fun _ q=>F q) k
 have cv:∀k,(∀x y,az (X k) x y↔(x,y)∈S k)->Cov 42 (az (X k)):=fun k h=>k9 (fun x y=>(h x y).mp) (sv.sl k);have hX:∀k,ao (X k)/\∀x y,az (X k) x y↔(x,y)∈S k:=fun k=>by
  induction k with
  |zero=>exact⟨c,fun x y=>(hp x y).trans (sv.s0 (x,y)).symm⟩
  |succ k ih=>
   obtain⟨a1,a2,a3⟩:=hF (X k) ⟨ih.1,cv k ih.2⟩;refine⟨a2,fun x y=>?_⟩;rw[show X (k+1)=F (X k) from rfl,a3,sv.ss];constructor
   ·intro h g hg;exact (ih.2 _ _).mp (h g.1 g.2 ((f.mem _ _).mpr hg))
   ·intro h u v ho;exact (ih.2 _ _).mpr (h (u,v) ((f.mem _ _).mp ho))
 exact⟨X,rfl,fun k=>(hX k).1,fun k=>(hX k).2,fun k=>(hF (X k) ⟨(hX k).1,cv k (hX k).2⟩).1,fun k=>(hF (X k) ⟨(hX k).1,cv k (hX k).2⟩).2.2⟩
end
section
variable {ps:List (List Blk)}{bs:List Blk}{fs cs:R}{N:Str}{S:Nat->R}{G:Nat->Nat->R}{X:Nat->Pic}
theorem Av (fit:∀k x y,az (X (k+1)) x y↔we (X k) ps x y):∀(i k:Nat) (x y u v:Int),i<=k->az (X k) x y->yD ps i u v->az (X (k-i)) (x+u) (y+v)
 |0,k,x,y,u,v,_,h,⟨h1,h2⟩=>by subst h1 h2;simpa using h
 |i+1,k,x,y,u,v,hi,h,hpt0=>by obtain⟨a,b,h1,h2⟩:=hpt0;have:=Av fit i k x y a b (by lia) h h1;rw[show k-i=(k-(i+1))+1 by lia,fit] at this;have:=this _ _ h2;rwa[show x+a+(u-a)=x+u by lia,show y+b+(v-b)=y+v by lia] at this
theorem DM (f:FL ps bs fs)(sv:SvL cs fs S G)(hX:∀k x y,az (X k) x y↔(x,y)∈S k)(fit:∀k x y,az (X (k+1)) x y↔we (X k) ps x y){k:Nat}(hk:k<=4){p:Pic}(c:ao p)(hp:∀x y,az p x y->az (X k) x y) :
  ∃q,aK [ap (gI k) (aX ps k),am p]=some (am q)/\ao q/\(ah q).length<=5000/\∀x y,az q x y↔GrF p (aX ps k) x y:=by
 have hcov:∀i,i<=k->∀P:Int->Int->Prop,(∀x y,P x y->∃u v,yD ps i u v/\az p (x-u) (y-v))->Cov 42 P:=fun i hi P hP=>k9 (fun x y h=>by
  obtain⟨u,v,h1,h2⟩:=hP x y h;have:=Av fit i k _ _ u v hi (hp _ _ h2) h1;rw[show x-u+u=x by lia,show y-v+v=y by lia,hX] at this
  exact this) (sv.sl (k-i))
 obtain⟨q,a1,a2,a3⟩:=j6 (gI k) (ln k) (aX ps k) (ux f.ok k) p c fun post z pre e=>by
  obtain⟨i0,hi0,er⟩:=yj bs k;rw[uw,f.eq,er] at e;have:∃i,i<=k/\pre=List.replicate i bs/\aM z<=20:=by
   cases post with
   |nil=>
    cases e;have:=f.high k hk;rw[f.eq] at this;exact⟨i0,hi0,rfl,this⟩
   |cons w post=>obtain⟨i,h1,h2,rfl⟩:=BR (List.cons.inj e).2;have:=f.hi.2;exact⟨i,by lia,h2,by lia⟩
  obtain⟨i,hi,rfl,hh⟩:=this;refine⟨42,hcov i hi _ fun x y ⟨u,v,h1,h2⟩=>⟨u,v,by rw[f.eq];exact (u4 bs i u v).mp h1,h2⟩,by lia⟩
 refine⟨q,a1,a2,?_,a3⟩;have:=jb a2 a3 (hcov k (Tw _) _ fun x y h=>(lv f.ok p k x y).mp h);lia
theorem vC (f:FL ps bs fs)(hN:NS.contains N=true)(hc:cs.length<=42)(hf:fs.length<=5){p:Pic}(c:ao p)(hp:∀x y,az p x y↔(x,y)∈cs)(m:Nat)(hm:m<=4) :
  ∃ns:List Int,dM [am p,ap N ps,.int (m:Int)]=some (.lst ((ns.map D.int).map O.sh))/\pi [.lst (cs.map prD),.lst (fs.map prD),.int (m:Int)]=some (.lst (ns.map D.int))/\ns.length<=5/\ns.Pairwise (fun a b=>b<=a)/\(cs=[]->ns=[0]):=by
 obtain⟨S,G,j,sv,h1,h2,h3,h4⟩:=uQ cs fs hc hf f.ne m hm;obtain⟨X,x0,xc,xm,xs,fit⟩:=K2 f hN sv c hp;have hgr:∀k,∃q,aK [ap N ps,am (X (k+1))]=some (am q)/\ao q/\(ah q).length<=42/\∀x y,az q x y↔GrF (X (k+1)) ps x y:=fun k=>by
  have cv:Cov 42 (az (X (k+1))):=k9 (fun x y=>(xm _ x y).mp) (sv.sl (k+1));obtain⟨q,a1,a2,a3⟩:=j6 N hN ps f.ok (X (k+1)) (xc _) fun post z pre e=>by
   have:pre=[]/\z=bs:=by
    rw[f.eq] at e;cases post with
    |nil=>cases e;exact⟨rfl,rfl⟩
    |cons w post=>have:=TQ List.length e;rw[Tz,Tu,Tz,Tz,Vg] at this;lia
   obtain⟨rfl,rfl⟩:=this;refine⟨42,cv.congr fun u v=>⟨fun k=>⟨0,0,⟨rfl,rfl⟩,by simpa using k⟩,fun⟨u',v',⟨e1,e2⟩,k⟩=>by subst e1 e2;simpa using k⟩,?_⟩;have:=f.hi.2;lia
  refine⟨q,a1,a2,jb a2 a3 (k9 (l:=S k) (fun x y hpt9=>?_) (sv.sl k)),a3⟩;obtain⟨u,v,g1,g2⟩:=hpt9;have:=(fit k _ _).mp g2 u v g1;rw[show x-u+u=x by lia,show y-v+v=y by lia,xm] at this;exact this
 obtain⟨Gp,hGp⟩:=V7.mp hgr;have lenX:∀k,(ah (X k)).length<=42:=fun k=>jb (xc k) (fun _ _=>Ug) (k9 (fun x y=>(xm _ x y).mp) (sv.sl k));have hls:∀k,qM [am (X k),am (Gp k)]=some (am (leP (X k) (Gp k))):=fun k=>by have a:=lenX k;have b:=(hGp k).2.2.1;have e:=kg (xc k);have g:=kg (hGp k).2.1;exact xX (hGp k).2.1 (by lia) (by lia) (by lia)
 have hU:∀k,∃q,k<=4->aK [ap (gI k) (aX ps k),am (X k)]=some (am q)/\ao q/\(ah q).length<=5000/\∀x y,az q x y↔GrF (X k) (aX ps k) x y:=fun k=>by
  by_cases hk:k<=4
  ·obtain⟨q,a⟩:=DM f sv xm fit hk (xc k) fun _ _ h=>h;exact⟨q,fun _=>a⟩
  ·exact⟨[],fun h=>absurd h hk⟩
 obtain⟨U,hU⟩:=V7.mp hU;have cmm:∀k x y,az (leP (X k) (Gp k)) x y↔az (X k) x y/\¬GrF (X (k+1)) ps x y:=fun k x y=>by rw[zb (xc k) (hGp k).2.1,(hGp k).2.2.2]
 have s:SvP N ps j X Gp (fun k=>leP (X k) (Gp k)) U:=⟨⟨hN,xs,fun k=>(hGp k).1,hls⟩,f.ok,by rw[f.eq];show 1<=10;decide,fit,cmm,fun k=>jL (xc k) (hGp k).2.1,fun k hk=>by
  obtain⟨q,a1,_,a3,a4⟩:=DM f sv xm fit (k:=k) (by lia) (jL (xc k) (hGp k).2.1) fun x y h=>((cmm k x y).mp h).1
  exact⟨q,a1,a3,a4⟩,fun k hk=>hU k (by lia)⟩
 have hum:∀k,k<=4->∀x y,(x,y)∈G k k↔az (U k) x y:=fun k hk x y=>by
  rw[sv.gm k k hk,(hU k hk).2.2.2,lv f.ok];constructor
  ·rintro⟨d,hd,o,ho,e⟩;obtain⟨e1,e2⟩:=Prod.mk.inj e;exact⟨o.1,o.2,(f.offQ k _ _).mpr ho,(xm _ _ _).mpr (by rwa[show x-o.1=d.1 by lia,show y-o.2=d.2 by lia])⟩
  ·rintro⟨u,v,g1,g2⟩;exact⟨(x-u,y-v),(xm _ _ _).mp g2,(u,v),(f.offQ k _ _).mp g1,by unfold bX;exact US (by dsimp only;lia) (by dsimp only;lia)⟩
 have hcnt:∀k,k<=4->cnt (U k)=((G k k).length:Int):=fun k hk=>G0 (hU k hk).2.1 (sv.gn k k hk) (hum k hk);have hemp:∀k,k<=4->(G k k=[]↔X k=[]):=fun k hk=>by
  constructor
  ·intro e;refine pz (xc k) fun x y h=>?_;obtain⟨o,ho⟩:=f.some k;have:bX (x,y) o∈G k k:=(sv.gm k k hk _).mpr ⟨(x,y),(xm _ _ _).mp h,o,ho,rfl⟩;rw[e] at this;cases this
  ·intro e;refine List.eq_nil_iff_forall_not_mem.mpr fun z hz=>?_;obtain⟨d,hd,_⟩:=(sv.gm k k hk z).mp hz;have:az (X k) d.1 d.2:=(xm _ _ _).mpr hd;rw[e] at this;exact aU _ _ this
 have hs:=sg s xc (m:=m) (by lia) h1 (h2.imp (hemp j (by lia)).mp id) fun k hk e=>h3 k hk ((hemp k (by lia)).mpr e);rw[x0] at hs;have e1:bJ G (j+1)=((List.range (j+1)).map fun k=>((G k k).length:Int)).map D.int:=by unfold bJ;rw[TU];rfl
 have e2:Ck U (j+1)=bJ G (j+1):=by unfold Ck bJ;refine VL fun k hk=>?_;rw[hcnt k (by have:=UK.mp hk;lia)]
 refine⟨(List.range (j+1)).map fun k=>((G k k).length:Int),by rw[hs,e2,e1],by rw[h4,e1],by rw[Tt,Uy];lia,?_,fun e=>?_⟩
 ·have sub:∀a b,a<=b->b<=j->∀z,z∈G b b->z∈G a a:=fun a b hab hb=>by
   induction b with
   |zero=>intro z hz;rwa[show a=0 by lia]
   |succ b ih=>
    intro z hz;by_cases h:a=b+1
    ·rw[h];exact hz
    ·refine ih (by lia) (by lia) z ?_;obtain⟨x,y⟩:=z;exact (hum b (by lia) x y).mpr ((s.open_eq (by lia) x y).mpr (.inl ((hum (b+1) (by lia) x y).mp hz)))
  rw[Um];refine List.Pairwise.imp_of_mem (fun {a b} ha hb hab=>?_) (List.pairwise_lt_range (n:=j+1));have hb':=UK.mp hb;have:=(sv.gn b b (by lia)).length_le_of_subset (l₂:=G a a) (fun z hz=>sub a b (by lia) (by lia) z hz);lia
 ·have hx:X 0=[]:=pz (xc 0) fun x y h=>by
   rw[x0,hp,e] at h;cases h
  have hj:j=0:=by
   cases j with
   |zero=>rfl
   |succ j=>exact absurd ((hemp 0 (by lia)).mpr hx) (h3 0 (by lia))
  subst hj;have:=(hemp 0 (by lia)).mpr hx;show [((G 0 0).length:Int)]=[0]
  rw[this];rfl
end
theorem c9 (ns:List Int)(k:Nat):∃v:Int,aA [.scr (ns.map D.int),.int (k:Int)]=some (.int v):=by
 by_cases h:k<ns.length
 ·have h':(k:Int)<ns.length:=by lia
  have ac:atI (ns.map D.int) (k:Int)=some (.int ns[k]):=eM (by rw[TW,Uf h];rfl);exact⟨ns[k],by simp[aA,jj,fnO,im,h',ac]⟩
 ·have h':¬(k:Int)<ns.length:=by lia
  exact⟨0,by simp[aA,jj,fnO,im,h']⟩
theorem F6 {a j:Int}(h0:0<=a)(h1:a<1000000)(h2:0<=j)(h3:j<1000000):Builtin.Range.small a j 6=true:=by
 have e1:0<=Builtin.Range.rangeSize a j 6/\Builtin.Range.rangeSize a j 6<1000000:=by unfold Builtin.Range.rangeSize;rw[Tn (by decide)];split<;>lia
 unfold Builtin.Range.small;generalize Builtin.Range.rangeSize a j 6=n at e1;simp only[Builtin.Range.rangeFitsLong,Ul,Bool.or_eq_true,VP,Ur,show (6:Int) > 0 by decide,U8];have e:(2:Int) ^ 63=9223372036854775808:=by decide
 lia
theorem y9 (ns:List Int)(hn:ns.length<=63)(k:Nat)(hk:k<6)(s1 v4 v5:Sl)(bits:Int):∃bits' v4',bg (vX (ad (xOp aP (xC (.int 16)) (ag 2)) (ad (xCB rM (ad (xCB gS (ad (ag 0) ai)) (ad (xC (.int 99)) ai))) (ad (xC (.int 6)) ai)))) (af 4) (ic) [.sh (.scr (ns.map D.int)),s1,.sh (.int k),.sh (.int bits),v4,v5]=some (.nx [.sh (.scr (ns.map D.int)),s1,.sh (.int k),.sh (.int bits'),v4',v5]):=by
 have hr:Ei [.int (16+(k:Int)),.int (ns.length:Int),.int 6]=some (rB (16+(k:Int)) 6 (Builtin.Range.rangeSize (16+(k:Int)) ns.length 6).toNat):=dq ⟨by decide,by decide,F6 (by lia) (by lia) (by lia) (by lia)⟩;have hmin:¬(99:Int)<ns.length:=by lia
 obtain⟨ρ',k1,b',v',rfl⟩:=aS (g:=af 4) (m:=ic) (fun i:Nat=>D.int (16+(k:Int)+(i:Int) * 6)) (fun pre ρ=>∃b' v',ρ=[.sh (.scr (ns.map D.int)),s1,.sh (.int k),.sh (.int b'),v',v5]) (List.range (Builtin.Range.rangeSize (16+(k:Int)) ns.length 6).toNat) [.sh (.scr (ns.map D.int)),s1,.sh (.int k),.sh (.int bits),v4,v5] ⟨_,_,rfl⟩ (by
  rintro pre i post _ e ⟨b',v',rfl⟩;have hi:i<(Builtin.Range.rangeSize (16+(k:Int)) ns.length 6).toNat:=UK.mp (by rw[e];simp);have hb:16+k+i * 6<ns.length:=by unfold Builtin.Range.rangeSize at hi;rw[Tn (by decide)] at hi;split at hi<;>lia
  have ea:atI (ns.map D.int) (16+(k:Int)+(i:Int) * 6)=some (.int ns[16+k+i * 6]):=by have:=eM (l:=ns.map D.int) (j:=16+k+i * 6) (x:=.int ns[16+k+i * 6]) (by rw[TW,Uf hb];rfl);rw[<- this];congr 1
  have hm:qv (.int 5) (.int ns[16+k+i * 6])=some (.int (5 * ns[16+k+i * 6])):=dq (.inl (by decide))
  exact⟨[.sh (.scr (ns.map D.int)),s1,.sh (.int k),.sh (.int b'),.sh (.int (16+(k:Int)+(i:Int) * 6)),v5],[.sh (.scr (ns.map D.int)),s1,.sh (.int k),.sh (.int (b'+5 * ns[16+k+i * 6] % 128)),.sh (.int (16+(k:Int)+(i:Int) * 6)),v5],rfl,.inl (by simp[ic,ea,hm]),_,_,rfl⟩)
 refine⟨b',v',?_⟩;unfold rB at hr;simp[hmin,hr,k1]
theorem uP (ns:List Int)(hn:ns.length<=63):∃cs:R,AV [.scr (ns.map D.int)]=some (.lst (cs.map prD))/\cs.length<=42:=by
 have l2:2<=LIM:=aC (by lia);have hr7:=Bz 7 (by lia);have hr6:=Bz 6 (by lia);have row:∀(k:Nat) (c0:R) (bits:Int) (v4 v5:Sl),c0.length<=1000->∃(c1:R) (b':Int) (w5:Sl),bg (gH (ad (xC (.int 7)) ai)) (af 5) eK [.sh (.scr (ns.map D.int)),owl (c0.map prD),.sh (.int (k:Int)),.sh (.int bits),v4,v5]=some (.nx [.sh (.scr (ns.map D.int)),owl (c1.map prD),.sh (.int (k:Int)),.sh (.int b'),v4,w5])/\c1.length<=c0.length+7:=fun k c0 bits v4 v5 h0=>by
  obtain⟨ρ',k1,c1,b',w5,rfl,a1⟩:=aS (g:=af 5) (m:=eK) (fun i:Nat=>D.int (i:Int)) (fun pre ρ=>∃(c1:R) (b':Int) (w5:Sl),ρ=[.sh (.scr (ns.map D.int)),owl (c1.map prD),.sh (.int (k:Int)),.sh (.int b'),v4,w5]/\c1.length<=c0.length+pre.length) (List.range' 0 7) [.sh (.scr (ns.map D.int)),owl (c0.map prD),.sh (.int (k:Int)),.sh (.int bits),v4,v5] ⟨c0,bits,v5,rfl,by simp⟩ (by
   rintro pre i post _ e ⟨c1,b',w5,rfl,a1⟩;have hp:pre.length<7:=by have:=TQ List.length e;rw[UE,Tu,Tz] at this;lia
   have hlim:c1.length<LIM:=ci (by lia);by_cases hb:b' % 2=1\/b' / 512 % 4=1
   ·refine⟨[.sh (.scr (ns.map D.int)),owl (c1.map prD),.sh (.int (k:Int)),.sh (.int b'),v4,.sh (.int (i:Int))],[.sh (.scr (ns.map D.int)),owl ((c1++[((i:Int),(k:Int))]).map prD),.sh (.int (k:Int)),.sh (.int (b' / 2)),v4,.sh (.int (i:Int))],rfl,.inl ?_,_,_,_,rfl,by rw[Tu,Tu,TY,TY];lia⟩;by_cases h1:b' % 2=1
    ·simp[eK,h1,l2,hlim]
    ·have h2:=hb.resolve_left h1;simp[eK,h1,h2,l2,hlim]
   ·have h1:¬b' % 2=1:=fun h=>hb (.inl h);have h2:¬b' / 512 % 4=1:=fun h=>hb (.inr h)
    exact⟨[.sh (.scr (ns.map D.int)),owl (c1.map prD),.sh (.int (k:Int)),.sh (.int b'),v4,.sh (.int (i:Int))],[.sh (.scr (ns.map D.int)),owl (c1.map prD),.sh (.int (k:Int)),.sh (.int (b' / 2)),v4,.sh (.int (i:Int))],rfl,.inl (by simp[eK,h1,h2]),_,_,_,rfl,by rw[Tu,TY];lia⟩)
  rw[UE] at a1;refine⟨c1,b',w5,?_,a1⟩;unfold bg;show (rg [.int ((7:Nat):Int)]).bind _=_;rw[hr7];exact k1
 obtain⟨ρ',k1,cs,w2,w3,w4,w5,rfl,a1⟩:=aS (g:=af 2) (m:=ie) (fun i:Nat=>D.int (i:Int)) (fun pre ρ=>∃(cs:R) (w2 w3 w4 w5:Sl),ρ=[.sh (.scr (ns.map D.int)),owl (cs.map prD),w2,w3,w4,w5]/\cs.length<=7 * pre.length) (List.range' 0 6) [.sh (.scr (ns.map D.int)),owl [],.un,.un,.un,.un] ⟨[],.un,.un,.un,.un,rfl,by simp⟩ (by
  rintro pre k post _ e ⟨cs,w2,w3,w4,w5,rfl,a1⟩;have hp:pre.length<6:=by have:=TQ List.length e;rw[UE,Tu,Tz] at this;lia
  have hk:k<6:=by
   have:k∈List.range' 0 6:=by rw[e];simp
   rw[List.mem_range'] at this;obtain⟨i,hi,rfl⟩:=this;lia
  obtain⟨v,hv⟩:∃v:Int,aA [.scr (ns.map D.int),.int (1+(k:Int))]=some (.int v):=by have:=c9 ns (1+k);rwa[UR] at this
  have hm:qv (.int v) (.int 48271)=some (.int (v * 48271)):=dq (.inr (by decide));obtain⟨b1,x4,h1⟩:=y9 ns hn k hk (owl (cs.map prD)) w4 w5 (v * 48271 % 2147483647 / 37);obtain⟨c1,b2,x5,h2,h3⟩:=row k cs b1 x4 w5 (by lia);refine⟨[.sh (.scr (ns.map D.int)),owl (cs.map prD),.sh (.int (k:Int)),w3,w4,w5],[.sh (.scr (ns.map D.int)),owl (c1.map prD),.sh (.int (k:Int)),.sh (.int b2),x4,x5],rfl,.inl ?_,c1,_,_,_,_,rfl,by rw[Tu,TY];lia⟩;unfold ie;rw[aw (ρ':=[.sh (.scr (ns.map D.int)),owl (cs.map prD),.sh (.int (k:Int)),.sh (.int (v * 48271 % 2147483647 / 37)),w4,w5]) (bK (by simp[hv,hm])),aw h1]
  exact h2)
 rw[UE] at a1;refine⟨cs,?_,by lia⟩;have hx:jG [.sh (.scr (ns.map D.int)),.un,.un,.un,.un,.un]=some (.ro (.lst ((cs.map prD).map O.sh))):=by
  unfold jG;rw[aw (ρ':=[.sh (.scr (ns.map D.int)),owl [],.un,.un,.un,.un]) (by rfl)];have hfor:bg (gH (ad (xC (.int 6)) ai)) (af 2) ie [.sh (.scr (ns.map D.int)),owl [],.un,.un,.un,.un]=some (.nx [.sh (.scr (ns.map D.int)),owl (cs.map prD),w2,w3,w4,w5]):=by unfold bg;show (rg [.int ((6:Nat):Int)]).bind _=_;rw[hr6];exact k1
  rw[aw hfor];rfl
 have:=xF (n:=6) (ds:=[.scr (ns.map D.int)]) hx;show (fnO 6 jG [.scr (ns.map D.int)]).map O.d=_;rw[this];generalize cs.map prD=l;simp
theorem QR (p:R):okD 30 (.lst (p.map prD))=true:=lN p fun q _=>by simp[okD,okDs]
theorem ww (ns:List Int):∃fs:R,D0 [.scr (ns.map D.int)]=some (.lst (fs.map prD))/\fs≠[]/\fs.length<=4/\∀f∈fs,-1<=f.2/\f.2<=1:=by
 have l2:2<=LIM:=aC (by lia);obtain⟨c0,hc0⟩:∃v:Int,aA [.scr (ns.map D.int),.int 0]=some (.int v):=c9 ns 0;obtain⟨n,hn,hn1,hn4⟩:∃n:Nat,1+c0 % 4=(n:Int)/\1<=n/\n<=4:=⟨(1+c0 % 4).toNat,by lia,by lia,by lia⟩
 have hr:=Bz n (by lia);obtain⟨ρ',k1,fs,w2,w3,w4,rfl,a1,a2,a3⟩:=aS (g:=af 2) (m:=g6) (fun i:Nat=>D.int (i:Int)) (fun pre ρ=>∃(fs:R) (w2 w3 w4:Sl),ρ=[.sh (.scr (ns.map D.int)),owl (fs.map prD),w2,w3,w4]/\(pre≠[]->fs≠[])/\fs.length<=pre.length/\∀f∈fs,-1<=f.2/\f.2<=1) (List.range' 0 n) [.sh (.scr (ns.map D.int)),owl [],.un,.un,.un] ⟨[],.un,.un,.un,rfl,fun h=>absurd rfl h,by simp,fun _ h=>by cases h⟩ (by
  rintro pre k post _ e ⟨fs,w2,w3,w4,rfl,a1,a2,a3⟩;have hp:pre.length<n:=by have:=TQ List.length e;rw[UE,Tu,Tz] at this;lia
  obtain⟨v,hv⟩:∃v:Int,aA [.scr (ns.map D.int),.int (7+(k:Int))]=some (.int v):=by have:=c9 ns (7+k);rwa[UR] at this
  have hm:qv (.int v) (.int 39373)=some (.int (v * 39373)):=dq (.inr (by decide));obtain⟨z,hz⟩:∃z:Int,v * 39373 % 2147483629 / 37=z:=⟨_,rfl⟩
  have hlim:fs.length<LIM:=ci (by lia);have hin:∀b:Bool,inL (prD (z % 3-1,z / 3 % 3-1)) (fs.map prD)=b->G5 true (prD (z % 3-1,z / 3 % 3-1)) (.lst (fs.map prD))=some (.bl (!b)):=fun b hb=>by unfold G5;dsimp only;rw[Tn ⟨by simp[okD,okDs],QR fs⟩,hb];rfl
  have st:∀n:XS,aB (aV (xOp o3 (xOp fQ (xOp qv (av aA (ad (ak 0) (ad (xOp aP (xC (.int 7)) (ag 2)) ai))) (xC (.int 39373))) (xC (.int 2147483629))) (xC (.int 37))) (af 3)) n [.sh (.scr (ns.map D.int)),owl (fs.map prD),.sh (.int (k:Int)),w3,w4]=n [.sh (.scr (ns.map D.int)),owl (fs.map prD),.sh (.int (k:Int)),.sh (.int z),w4]:=fun n=>by rw[aw (bK (d:=.int z) (by simp[hv,hm,hz]))];rfl
  have st2:∀n:XS,aB (aV (aJ (ad (xOp eY (xOp fQ (ag 3) (xC (.int 3))) (xC (.int 1))) (ad (xOp eY (xOp fQ (xOp o3 (ag 3) (xC (.int 3))) (xC (.int 3))) (xC (.int 1))) ai))) (af 4)) n [.sh (.scr (ns.map D.int)),owl (fs.map prD),.sh (.int (k:Int)),.sh (.int z),w4]=n [.sh (.scr (ns.map D.int)),owl (fs.map prD),.sh (.int (k:Int)),.sh (.int z),.sh (prD (z % 3-1,z / 3 % 3-1))]:=fun n=>by rw[aw (bK (d:=prD (z % 3-1,z / 3 % 3-1)) (by simp[l2]))];rfl
  cases hb:inL (prD (z % 3-1,z / 3 % 3-1)) (fs.map prD) with
  |true=>
   have h1:=hin true hb;refine⟨[.sh (.scr (ns.map D.int)),owl (fs.map prD),.sh (.int (k:Int)),w3,w4],[.sh (.scr (ns.map D.int)),owl (fs.map prD),.sh (.int (k:Int)),.sh (.int z),.sh (prD (z % 3-1,z / 3 % 3-1))],rfl,.inl ?_,fs,_,_,_,rfl,fun _ e0=>?_,by rw[Tu,TY];lia,a3⟩
   ·unfold g6;rw[st,st2];generalize fs.map prD=fl at *;simp[h1]
   ·rw[e0] at hb;cases hb
  |false=>
   have h1:=hin false hb;refine⟨[.sh (.scr (ns.map D.int)),owl (fs.map prD),.sh (.int (k:Int)),w3,w4],[.sh (.scr (ns.map D.int)),owl ((fs++[(z % 3-1,z / 3 % 3-1)]).map prD),.sh (.int (k:Int)),.sh (.int z),.sh (prD (z % 3-1,z / 3 % 3-1))],rfl,.inl ?_,_,_,_,_,rfl,fun _=>by simp,by rw[Tu,Tu,TY,TY];lia,fun f hf=>?_⟩
   ·unfold g6;rw[st,st2];simp[h1,hlim]
   ·rcases TB.mp hf with hf|hf
    ·exact a3 f hf
    ·rw[Ts.mp hf];dsimp only
     lia)
 rw[UE] at a2;refine⟨fs,?_,a1 (by intro e;have:=TQ List.length e;rw[UE] at this;simp at this;lia),by lia,a3⟩;have hx:mf [.sh (.scr (ns.map D.int)),.un,.un,.un,.un]=some (.ro (.lst ((fs.map prD).map O.sh))):=by
  unfold mf;rw[aw (ρ':=[.sh (.scr (ns.map D.int)),owl [],.un,.un,.un]) (by rfl)];have hfor:bg (gH (ad (xOp aP (xC (.int 1)) (xOp fQ (av aA (ad (ak 0) (ad (xC (.int 0)) ai))) (xC (.int 4)))) ai)) (af 2) g6 [.sh (.scr (ns.map D.int)),owl [],.un,.un,.un]=some (.nx [.sh (.scr (ns.map D.int)),owl (fs.map prD),w2,w3,w4]):=by
   have hi:gH (ad (xOp aP (xC (.int 1)) (xOp fQ (av aA (ad (ak 0) (ad (xC (.int 0)) ai))) (xC (.int 4)))) ai) [.sh (.scr (ns.map D.int)),owl [],.un,.un,.un]=some ((List.range' 0 n).map fun i:Nat=>D.int (i:Int)):=by rw[<- hr,<- hn];generalize D.scr (ns.map D.int)=sc at *;simp[hc0]
   unfold bg;rw[hi];exact k1
  rw[aw hfor];rfl
 have:=xF (n:=5) (ds:=[.scr (ns.map D.int)]) hx;show (fnO 5 mf [.scr (ns.map D.int)]).map O.d=_;rw[this];generalize fs.map prD=l;simp
theorem Fz (l u r d:Int)(h1:0<=l)(h2:0<=u)(h3:0<=r)(h4:0<=d):qT [.int l,.int u,.int r,.int d]=some (bx [[(-l,-u,r,d)]]):=by
 have hm:∃m:Int,Dw [.int l,.int u,.int r,.int d]=some (.int m)/\0<=m:=by exact⟨min l (min u (min r d)),rfl,Int.le_min.mpr ⟨h1,Int.le_min.mpr ⟨h2,Int.le_min.mpr ⟨h3,h4⟩⟩⟩⟩
 obtain⟨m,hm,m0⟩:=hm;have m1:¬m<0:=by lia
 simp[qT,y6,hm,m1]
noncomputable abbrev lb (l:Int)(d:Nat):Blk:=(-l,-0,0,(d:Int))
theorem HK {l:Int}(hl:0<=l)(d:Nat):FOk [[lb l d]]:=fun z hz=>by rw[Ts] at hz;subst hz;exact⟨by simp,fun b hb=>by rw[Ts] at hb;subst hb;exact⟨by dsimp only;lia,by dsimp only;lia⟩⟩
theorem lD (l:Int)(d:Nat)(u v:Int):Off [[lb l d]] u v ↔ -l<=u/\u<=0/\0<=v/\v<=d:=by rw[kd,fF];unfold jV;dsimp only;lia
theorem yf {b:Blk}{pre post:List (List Blk)}{c:List Blk}(e:[[b]]=pre++c::post):pre=[]/\c=[b]/\post=[]:=by
 cases pre with
 |nil=>cases e;exact⟨rfl,rfl,rfl⟩
 |cons z pre=>have:=TQ List.length e;rw[Tz,Tu,Tz,Tz,Vg] at this;lia
theorem DW (l:Int){d h:Nat}(hd:d<=62)(hh:h<=60):aM [lb l d] * h<=10000:=by
 have:aM [lb l d]<=125:=by rw[fS];unfold high;dsimp only;lia
 have:=Nat.mul_le_mul this hh;lia
section
variable {l x y w:Int}{d h:Nat}{N:Str}
theorem CI (hN:NS.contains N=true)(hl:0<=l)(hd:d<=62)(hh:h<=60):bF [ap N [[lb l d]],am (bf x y w h)]=some (am (bf (x+l) y (w-l) (h-d))):=by
 have hln:=Jc x y w h;obtain⟨q,h1,h2,h3,h4⟩:=pO N hN [[lb l d]] (HK hl d) (fun z hz=>by rw[Ts] at hz;subst hz;show 1<=1000;decide) (bf x y w h) (dP ..) (by lia) fun pre c post e=>by obtain⟨rfl,rfl,rfl⟩:=yf e;exact⟨h,(pJ x y w h).congr fun u v=>⟨fun k u' v' ⟨e1,e2⟩=>by subst e1 e2;simpa using k,fun k=>by simpa using k 0 0 ⟨rfl,rfl⟩⟩,by lia,DW l hd hh⟩
 rw[h1];refine TQ (fun p=>some (am p)) (jl h2 (dP ..) fun u v=>?_);rw[h4,br];constructor
 ·intro k;have k1:=(br ..).mp (k (-l) 0 ((lD ..).mpr (by lia)));have k2:=(br ..).mp (k 0 d ((lD ..).mpr (by lia)));lia
 ·intro k u' v' ho;have:=(lD ..).mp ho;rw[br];lia
noncomputable def fJ (l x y w:Int)(d h:Nat):Pic:=if 1<=w/\1<=h then bf (x-l) y (w+l) (h+d) else []
theorem lu:ao (fJ l x y w d h):=by
 unfold fJ;split
 ·exact dP ..
 ·exact dN
theorem xG:(ah (fJ l x y w d h)).length<=h+d:=by
 unfold fJ;split
 ·exact jb (dP ..) (fun _ _=>Ug) (pJ ..)
 ·exact T2 _
theorem qC (hl:0<=l)(u v:Int):az (fJ l x y w d h) u v↔GrF (bf x y w h) [[lb l d]] u v:=by
 unfold fJ;constructor
 ·intro k;split at k
  ·rw[br] at k;exact⟨if u<=x+w-1 then (if x<=u then 0 else u-x) else 0,if v<y+h then 0 else v-(y+h-1),(lD ..).mpr (by split<;>split<;>(try split)<;>lia),(br ..).mpr (by split<;>split<;>(try split)<;>lia)⟩
  ·exact (aU _ _ k).elim
 ·rintro⟨a,b,k1,k2⟩;have k1:=(lD ..).mp k1;have k2:=(br ..).mp k2;rw[Tn (by lia),br];lia
theorem nK (hN:NS.contains N=true)(hl:0<=l)(hd:d<=62)(hh:h<=60):aK [ap N [[lb l d]],am (bf x y w h)]=some (am (fJ l x y w d h)):=by
 obtain⟨q,h1,h2,h3⟩:=j6 N hN [[lb l d]] (HK hl d) (bf x y w h) (dP ..) fun post c pre e=>by obtain⟨rfl,rfl,rfl⟩:=yf e;exact⟨h,(pJ x y w h).congr fun u v=>⟨fun k=>⟨0,0,⟨rfl,rfl⟩,by simpa using k⟩,fun⟨u',v',⟨e1,e2⟩,k⟩=>by subst e1 e2;simpa using k⟩,DW l hd hh⟩
 rw[h1];exact TQ (fun p=>some (am p)) (jl h2 lu fun u v=>by rw[h3,qC hl])
end
theorem yY (l:Int)(d:Nat)(k:Nat):aX [[lb l d]] k=[[lb ((k:Int) * l) (k * d)]]:=by
 have er:lQ [[lb l d]] k=[]:=by
  induction k with
  |zero=>rfl
  |succ k ih=>rw[lQ,ih];rfl
 have et:c8 (aq [[lb l d]])=lb l d:=by simp[aq,c8,oX,lb]
 rw[uw,er,et];unfold nB lb;simp[Int.mul_neg]
theorem G1 {x y w:Int}{h:Nat}(hw:1<=w):cnt (bf x y w h)=w * (h:Int):=by
 unfold cnt bf;rw[Tn hw,TU];have:∀n:Nat,(((List.range n).map ((fun q:Int×R=>count q.2)∘fun k:Nat=>(y+(k:Int),[(x,x+w-1)]))).sum)=w * (n:Int):=fun n=>by
  induction n with
  |zero=>simp
  |succ n ih=>
   rw[V6,T7,V5,ih,UR,Int.mul_add];have e:count [(x,x+w-1)]=w:=by unfold count;simp;lia
   simp[e]
 exact this h
theorem C5 {l w:Int}{d h:Nat}(hl:0<=l)(hd:d<=2)(hw:1<=w)(hh:1<=h/\h<=60){j m:Nat}(hj:j<=60)(hm:j<=m)(hfit:∀k,k<j->(k:Int) * l+1<=w/\k * d+1<=h)(e0:¬((j:Int) * l+1<=w/\j * d+1<=h)\/j=m) :
  ji [am (bf 5 0 w h),ap "Box" [[lb l d]],.int (m:Int)]=some (.lst ((List.range (j+1)).map fun k:Nat=>D.int (if (k:Int) * l+1<=w/\k * d+1<=h then w * (h:Int) else 0))):=by
 have hN:NS.contains "Box" = true:=by decide
 let X:Nat->Pic:=fun k=>bf (5+(k:Int) * l) 0 (w-(k:Int) * l) (h-k * d)
 have hX0:X 0=bf 5 0 w h:=by show bf (5+((0:Nat):Int) * l) 0 (w-((0:Nat):Int) * l) (h-0 * d)=_;simp
 let Gp:Nat->Pic:=fun k=>fJ l (5+((k+1:Nat):Int) * l) 0 (w-((k+1:Nat):Int) * l) d (h-(k+1) * d)
 let U:Nat->Pic:=fun k=>fJ ((k:Int) * l) (5+(k:Int) * l) 0 (w-(k:Int) * l) (k * d) (h-k * d)
 have xs:∀k,bF [ap "Box" [[lb l d]],am (X k)]=some (am (X (k+1))):=fun k=>by
  have:=CI (x:=5+(k:Int) * l) (y:=0) (w:=w-(k:Int) * l) (h:=h-k * d) hN hl (show d<=62 by lia) (by lia);have e1:5+(k:Int) * l+l=5+((k+1:Nat):Int) * l:=by rw[UR,V8];lia
  have e2:w-(k:Int) * l-l=w-((k+1:Nat):Int) * l:=by rw[UR,V8];lia
  have e3:h-k * d-d=h-(k+1) * d:=by rw[Vs];lia
  rw[e1,e2,e3] at this;exact this
 have gm:∀k x y,az (Gp k) x y↔GrF (X (k+1)) [[lb l d]] x y:=fun k x y=>qC hl x y;have gl:∀k,(ah (Gp k)).length<=62:=fun k=>by have:=xG (l:=l) (x:=5+((k+1:Nat):Int) * l) (y:=0) (w:=w-((k+1:Nat):Int) * l) (d:=d) (h:=h-(k+1) * d);show (ah (fJ ..)).length<=62;lia
 have xl:∀k,(ah (X k)).length<=60:=fun k=>by have:=jb (dP (5+(k:Int) * l) 0 (w-(k:Int) * l) (h-k * d)) (fun _ _=>Ug) (pJ ..);show (ah (bf ..)).length<=60;lia
 have xc:∀k,ao (X k):=fun k=>dP ..;have gc:∀k,ao (Gp k):=fun k=>lu;have hls:∀k,qM [am (X k),am (Gp k)]=some (am (leP (X k) (Gp k))):=fun k=>by have a:=xl k;have b:=gl k;have e:=kg (xc k);have g:=kg (gc k);exact xX (gc k) (by lia) (by lia) (by lia)
 have hkl:∀k:Nat,0<=(k:Int) * l:=fun k=>Int.mul_nonneg (by lia) hl;have hxe:∀k,X k=[]↔¬((k:Int) * l+1<=w/\k * d+1<=h):=fun k=>by show bf (5+(k:Int) * l) 0 (w-(k:Int) * l) (h-k * d)=[]↔_;rw[Jd];lia
 have hall:∀k,k<=j->k * d<=62:=fun k hk=>by
  by_cases e:k=0
  ·subst e;lia
  ·obtain⟨i,rfl⟩:∃i,k=i+1:=⟨k-1,by lia⟩
   have:=(hfit i (by lia)).2;rw[Vs];lia
 have hfx:∀k,k<=j->aK [ap (gI k) (aX [[lb l d]] k),am (X k)]=some (am (U k)):=fun k hk=>by rw[yY];exact nK (ln k) (hkl k) (hall k hk) (by lia)
 have hum:∀k x y,az (U k) x y↔GrF (X k) (aX [[lb l d]] k) x y:=fun k x y=>by rw[yY];exact qC (hkl k) x y
 have hul:∀k,k<=j->(ah (U k)).length<=5000:=fun k hk=>by have:=xG (l:=(k:Int) * l) (x:=5+(k:Int) * l) (y:=0) (w:=w-(k:Int) * l) (d:=k * d) (h:=h-k * d);have:=hall k hk;show (ah (fJ ..)).length<=5000;lia
 have cmm:∀k x y,az (leP (X k) (Gp k)) x y↔az (X k) x y/\¬GrF (X (k+1)) [[lb l d]] x y:=fun k x y=>by rw[zb (xc k) (gc k),gm]
 have fit:∀k x y,az (X (k+1)) x y↔we (X k) [[lb l d]] x y:=fun k x y=>by
  show az (bf (5+((k+1:Nat):Int) * l) 0 (w-((k+1:Nat):Int) * l) (h-(k+1) * d)) x y↔_;have e1:((k+1:Nat):Int) * l=(k:Int) * l+l:=by rw[UR,V8];lia
  have e3:(k+1) * d=k * d+d:=by rw[Vs]
  rw[br,e1,e3];constructor
  ·intro q u v ho;have:=(lD ..).mp ho;show az (bf (5+(k:Int) * l) 0 (w-(k:Int) * l) (h-k * d)) _ _;rw[br];lia
  ·intro q;have k1:az (bf (5+(k:Int) * l) 0 (w-(k:Int) * l) (h-k * d)) _ _:=q (-l) 0 ((lD ..).mpr (by lia));have k2:az (bf (5+(k:Int) * l) 0 (w-(k:Int) * l) (h-k * d)) _ _:=q 0 d ((lD ..).mpr (by lia));have k1:=(br ..).mp k1;have k2:=(br ..).mp k2;lia
 have hfc:∀k,k<j->∃q,aK [ap (gI k) (aX [[lb l d]] k),am (leP (X k) (Gp k))]=some (am q)/\(ah q).length<=5000/\∀x y,az q x y↔GrF (leP (X k) (Gp k)) (aX [[lb l d]] k) x y:=fun k hk=>by
  by_cases e:(((k+1:Nat):Int) * l+1<=w/\(k+1) * d+1<=h)
  ·have ec:leP (X k) (Gp k)=[]:=pz (jL (xc k) (gc k)) fun x y q=>by
    obtain⟨q1,q2⟩:=(zb (xc k) (gc k) x y).mp q;refine q2 ?_;have q1:az (bf (5+(k:Int) * l) 0 (w-(k:Int) * l) (h-k * d)) x y:=q1;show az (fJ l (5+((k+1:Nat):Int) * l) 0 (w-((k+1:Nat):Int) * l) d (h-(k+1) * d)) x y;have e1:((k+1:Nat):Int) * l=(k:Int) * l+l:=by rw[UR,V8];lia
    have e3:(k+1) * d=k * d+d:=by rw[Vs]
    rw[br] at q1;rw[e1,e3] at e ⊢;unfold fJ;rw[Tn (by lia),br];lia
   rw[ec,yY];have hz:bf 0 0 0 0=[]:=by decide
   have:=nK (l:=(k:Int) * l) (d:=k * d) (x:=0) (y:=0) (w:=0) (h:=0) (ln k) (hkl k) (hall k (by lia)) (by lia);have hg:fJ ((k:Int) * l) 0 0 0 (k * d) 0=[]:=by unfold fJ;rw[To (by lia)]
   rw[hz,hg] at this;refine⟨[],this,by show 0<=5000;lia,fun x y=>⟨fun q=>(aU _ _ q).elim,fun⟨_,_,_,q⟩=>(aU _ _ q).elim⟩⟩
  ·have hx1:=(hxe (k+1)).mpr e;have ec:leP (X k) (Gp k)=X k:=jl (jL (xc k) (gc k)) (xc k) fun x y=>by
    rw[cmm,hx1];exact⟨fun q=>q.1,fun q=>⟨q,fun⟨_,_,_,z⟩=>aU _ _ z⟩⟩
   rw[ec];exact⟨U k,hfx k (by lia),hul k (by lia),hum k⟩
 have s:SvP "Box" [[lb l d]] j X Gp (fun k=>leP (X k) (Gp k)) U:=⟨⟨hN,xs,fun k=>by
  show aK [ap "Box" [[lb l d]],am (bf (5+((k+1:Nat):Int) * l) 0 (w-((k+1:Nat):Int) * l) (h-(k+1) * d))]=_
  exact nK hN hl (by lia) (by lia),hls⟩,HK hl d,by show 1<=10;decide,fit,cmm,fun k=>jL (xc k) (gc k),hfc,fun k hk=>⟨hfx k hk,lu,hul k hk,hum k⟩⟩
 have hs:=sg s xc (m:=m) hj hm (e0.imp (hxe j).mpr id) fun k hk e=>(hxe k).mp e (hfit k hk);rw[hX0] at hs;have ecnt:Ck U (j+1)=(List.range (j+1)).map fun k:Nat=>D.int (if (k:Int) * l+1<=w/\k * d+1<=h then w * (h:Int) else 0):=by
  unfold Ck;refine VL fun k hk=>?_;congr 1;show cnt (fJ ((k:Int) * l) (5+(k:Int) * l) 0 (w-(k:Int) * l) (k * d) (h-k * d))=_;by_cases hf:(k:Int) * l+1<=w/\k * d+1<=h
  ·unfold fJ;rw[Tn hf,Tn (by lia),show 5+(k:Int) * l-(k:Int) * l=5 by lia,show w-(k:Int) * l+(k:Int) * l=w by lia,show h-k * d+k * d=h by lia];exact G1 hw
  ·unfold fJ;rw[To hf,To (by lia)];rfl
 show (dM [am (bf 5 0 w h),ap "Box" [[lb l d]],.int (m:Int)]).map O.d=_;rw[hs,ecnt];generalize (List.range (j+1)).map (fun k:Nat=>D.int (if (k:Int) * l+1<=w/\k * d+1<=h then w * (h:Int) else 0))=ll;simp
theorem KH {g:XG}{m:XS}{d:D}{l:List D}{ρ ρ1 ρ2:M.Env}(h1:g d ρ=some ρ1)(h2:m ρ1=some (.bk ρ2)):bE g m (d::l) ρ=some (.nx ρ2):=by rw[j8,h1];dsimp only[Option.bind];rw[h2]
theorem O6 (Q:Nat->Prop):∀m,Q m->∃n,n<=m/\Q n/\∀k,k<n->¬Q k:=fun m=>by
 induction m using Nat.strongRecOn with
 |ind m ih=>
  intro h;rcases Classical.em (∃k,k<m/\Q k) with hk|hk
  ·obtain⟨k,h1,h2⟩:=hk;obtain⟨n,a,b,c⟩:=ih k h1 h2;exact⟨n,by lia,b,c⟩
  ·exact⟨m,Tw _,h,fun k hk' hq=>hk ⟨k,hk',hq⟩⟩
theorem H9 {N:Str}{ps:List (List Blk)}{mi:List D->Option D}{a:XA}{ρ:M.Env}{ds:List D}(ha:a ρ=some ds)(hi:mi ds=some (bx ps)):kO N "parts" mi a ρ=some (ap N ps):=by unfold kO;rw[ha];show (mi ds).map _=_;rw[hi];rfl
noncomputable def duD (w l:Int)(h d n:Nat):List D:=(List.range n).map fun k:Nat=>D.int (if (k:Int) * l+1<=w/\k * d+1<=h then w * (h:Int) else 0)
theorem Ha (w l:Int)(h d n:Nat):duD w l h d (n+1)=duD w l h d n++[D.int (if (n:Int) * l+1<=w/\n * d+1<=h then w * (h:Int) else 0)]:=by unfold duD;rw[V6,T7];rfl
theorem Kj (w l:Int)(h d n:Nat):(duD w l h d n).length=n:=by unfold duD;simp
theorem nO (ns:List Int):ph [.scr (ns.map D.int)]=some (.bl true):=by
 have l1:1<=LIM:=aC (by lia);have l2:2<=LIM:=aC (by lia);obtain⟨P40,hP40⟩:∃P:Int,(10:Int) ^ (40:Int).toNat=P:=⟨_,rfl⟩
 have p40:E1 (.int 10) (.int 40)=some (.int P40):=by rw[<- hP40];exact Ev (by decide)
 have h40:0<P40:=by rw[<- hP40];decide
 clear hP40;obtain⟨P39,hP39⟩:∃P:Int,(10:Int) ^ (39:Int).toNat=P:=⟨_,rfl⟩
 have p39:E1 (.int 10) (.int 39)=some (.int P39):=by rw[<- hP39];exact Ev (by decide)
 have h39:0<P39:=by rw[<- hP39];decide
 clear hP39;obtain⟨c0,hc0⟩:∃v:Int,aA [.scr (ns.map D.int),.int 0]=some (.int v):=c9 ns 0;obtain⟨c11,hc11⟩:∃v:Int,aA [.scr (ns.map D.int),.int 11]=some (.int v):=c9 ns 11;obtain⟨c12,hc12⟩:∃v:Int,aA [.scr (ns.map D.int),.int 12]=some (.int v):=c9 ns 12;obtain⟨c13,hc13⟩:∃v:Int,aA [.scr (ns.map D.int),.int 13]=some (.int v):=c9 ns 13;obtain⟨c14,hc14⟩:∃v:Int,aA [.scr (ns.map D.int),.int 14]=some (.int v):=c9 ns 14;obtain⟨c15,hc15⟩:∃v:Int,aA [.scr (ns.map D.int),.int 15]=some (.int v):=c9 ns 15;obtain⟨u,hu,eu⟩:∃u:Int,0<u/\atI [D.int 3,.int P39] (c0 / 4 % 2)=some (.int u):=by
  have:c0 / 4 % 2=0\/c0 / 4 % 2=1:=by lia
  rcases this with e|e<;>rw[e]
  ·exact⟨3,by lia,rfl⟩
  ·exact⟨P39,h39,rfl⟩
 obtain⟨w,hw,hw1⟩:∃w:Int,1+c11 % P40=w/\1<=w:=⟨_,rfl,by have:=Int.emod_nonneg c11 (show P40≠0 by lia);lia⟩
 obtain⟨h,hh,hh1⟩:∃h:Nat,1+c12 % 60=(h:Int)/\1<=h/\h<=60:=⟨(1+c12 % 60).toNat,by lia,by lia,by lia⟩
 obtain⟨l,hl,hl0⟩:∃l:Int,c13 % u=l/\0<=l:=⟨_,rfl,Int.emod_nonneg _ (by lia)⟩
 obtain⟨d,hd,hd2⟩:∃d:Nat,c14 % 3=(d:Int)/\d<=2:=⟨(c14 % 3).toNat,by lia,by lia⟩
 obtain⟨m,hm,hmb⟩:∃m:Nat,(if (0:Int)<d/\(h:Int)<13 then c15 % 101 else c15 % 9)=(m:Int)/\((0<d/\h<13/\m<=100)\/m<=8):=⟨(if (0:Int)<d/\(h:Int)<13 then c15 % 101 else c15 % 9).toNat,by split<;>lia,by split<;>lia⟩
 obtain⟨j,hj1,hj2,hj3⟩:=O6 (fun k=>¬((k:Int) * l+1<=w/\k * d+1<=h)\/k=m) m (.inr rfl);have hfit:∀k,k<j->(k:Int) * l+1<=w/\k * d+1<=h:=fun k hk=>Classical.byContradiction fun q=>hj3 k hk (.inl q);have hj60:j<=60:=by
  rcases hmb with ⟨q1,q2,_⟩|q
  ·by_cases e:j=0
   ·lia
   ·have:=(hfit (j-1) (by lia)).2;have:=Nat.le_mul_of_pos_right (j-1) q1;lia
  ·lia
 have hs:=C5 (w:=w) (h:=h) hl0 hd2 hw1 hh1 hj60 hj1 hfit hj2;have iB:=Fz l 0 0 d hl0 (by lia) (by lia) (by lia);have hwh:=Oq (i:=w) (j:=(h:Int)) (by lia);have body:∀(k:Nat) (v6 v7 v8:Sl),k<=200->∀fb:Bool,(fb=true↔((k:Int) * l+1<=w/\k * d+1<=h))->bp [.sh (.scr (ns.map D.int)),.sh (.int w),.sh (.int (h:Int)),.sh (.lst [.int l,.int (d:Int)]),.sh (.int (m:Int)),owl (duD w l h d k),.sh (.int (k:Int)),v7,v8]=some (if fb then Out.nx [.sh (.scr (ns.map D.int)),.sh (.int w),.sh (.int (h:Int)),.sh (.lst [.int l,.int (d:Int)]),.sh (.int (m:Int)),owl (duD w l h d (k+1)),.sh (.int (k:Int)),.sh (.bl fb),v8] else Out.bk [.sh (.scr (ns.map D.int)),.sh (.int w),.sh (.int (h:Int)),.sh (.lst [.int l,.int (d:Int)]),.sh (.int (m:Int)),owl (duD w l h d (k+1)),.sh (.int (k:Int)),.sh (.bl fb),v8]):=fun k v6 v7 v8 hk fb hfb=>by
  have q1:=JR (i:=(k:Int)) (j:=l) (by lia);have q2:=JR (i:=(k:Int)) (j:=(d:Int)) (by lia);have hlim:(duD w l h d k).length<LIM:=ci (by rw[Kj];lia);have ekd:((k * d:Nat):Int)=(k:Int) * (d:Int):=Int.natCast_mul k d;rw[Ha];have at0:atI [D.int l,.int (d:Int)] 0=some (.int l):=rfl;have at1:atI [D.int l,.int (d:Int)] 1=some (.int (d:Int)):=rfl;have bt0:atI [D.int 0,.int (w * (h:Int))] 0=some (.int 0):=rfl;have bt1:atI [D.int 0,.int (w * (h:Int))] 1=some (.int (w * (h:Int))):=rfl;have iT:Ca [.bl true]=some (.int 1):=rfl;have iF:Ca [.bl false]=some (.int 0):=rfl;generalize D.scr (ns.map D.int)=sc;cases fb with
  |true=>
   obtain⟨f1,f2⟩:=hfb.mp rfl;have f2':(k:Int) * (d:Int)+1<=h:=by lia
   rw[Tn (show true=true from rfl),Tn ⟨f1,f2⟩];generalize duD w l h d k=du at *;simp[bp,at0,at1,q1,q2,f1,f2',iT,bt1,hwh,l2,hlim]
  |false=>
   have hn:¬((k:Int) * l+1<=w/\k * d+1<=h):=fun q=>by cases hfb.mpr q
   rw[To (show ¬(false=true) by decide),To hn];generalize duD w l h d k=du at *;by_cases f1:(k:Int) * l+1<=w
   ·have f2':¬(k:Int) * (d:Int)+1<=h:=fun q=>hn ⟨f1,by lia⟩;simp[bp,at0,at1,q1,q2,f1,f2',iF,bt0,hwh,l2,hlim]
   ·simp[bp,at0,q1,f1,iF,bt0,hwh,l2,hlim]
 have turn:∀(r k:Nat),k+r=j->∀(v6 v7:Sl),∃w6 w7:Sl,bE (af 6) bp ((List.range' k (m+1-k)).map fun i:Nat=>D.int (i:Int)) [.sh (.scr (ns.map D.int)),.sh (.int w),.sh (.int (h:Int)),.sh (.lst [.int l,.int (d:Int)]),.sh (.int (m:Int)),owl (duD w l h d k),v6,v7,.un]=some (.nx [.sh (.scr (ns.map D.int)),.sh (.int w),.sh (.int (h:Int)),.sh (.lst [.int l,.int (d:Int)]),.sh (.int (m:Int)),owl (duD w l h d (j+1)),w6,w7,.un]):=by
  intro r;induction r with
  |zero=>
   intro k hk v6 v7;have:k=j:=by lia
   subst this;rw[show m+1-k=(m-k)+1 by lia,V4,TF];rcases Classical.em ((k:Int) * l+1<=w/\k * d+1<=h) with hf|hf
   ·have hkm:k=m:=hj2.resolve_left (fun q=>q hf);have hb:=body k v6 v7 .un (by lia) true ⟨fun _=>hf,fun _=>rfl⟩;refine⟨.sh (.int (k:Int)),.sh (.bl true),?_⟩;rw[tz rfl hb,show m-k=0 by lia];rfl
   ·have hb:=body k v6 v7 .un (by lia) false ⟨fun q=>(by cases q),fun q=>absurd q hf⟩;exact⟨_,_,KH rfl hb⟩
  |succ r ih=>intro k hk v6 v7;rw[show m+1-k=(m-k)+1 by lia,V4,TF];have hb:=body k v6 v7 .un (by lia) true ⟨fun _=>hfit k (by lia),fun _=>rfl⟩;obtain⟨w6,w7,q⟩:=ih (k+1) (by lia) (.sh (.int (k:Int))) (.sh (.bl true));refine⟨w6,w7,?_⟩;rw[tz rfl hb];rw[show m-k=m+1-(k+1) by lia];exact q
 obtain⟨w6,w7,hloop⟩:=turn j 0 (by lia) .un .un;have hrm:rg [.int ((m:Int)+1)]=some ((List.range' 0 (m+1-0)).map fun i:Nat=>D.int (i:Int)):=by have:=Bz (m+1) (by lia);rwa[UR] at this
 have hrh:rg [.int (h:Int)]=some ((List.range' 0 h).map fun i:Nat=>D.int (i:Int)):=Bz h (by lia);have hcomp:a6 (af 0) bw (aJ (ad (ak 0) (ad (aJ (ad (aJ (ad (xC (.int 5)) (ad (xOp aP (xC (.int 4)) (ag 1)) ai))) ai)) ai))) [.un,.sh (.int w)] ((List.range' 0 h).map fun i:Nat=>D.int (i:Int))=some ((bf 5 0 w h).map pyD):=by
  unfold bf;rw[Tn hw1,TU,WJ];exact aN (fun i:Nat=>D.int (i:Int)) (pyD∘fun k:Nat=>((0:Int)+(k:Int),[(5,5+w-1)])) (List.range' 0 h) fun k hk=>by
   have e:5+w-1=4+w:=by lia
   simp[cU,l1,l2,e]
 have hrl:((List.range' 0 h).map fun i:Nat=>D.int (i:Int)).length<=LIM:=aC (by rw[Tt,UE];lia);have okd:okD 50 (.lst (duD w l h d (j+1)))=true:=lN (List.range (j+1)) fun k _=>by simp[okD]
 have dL:=ld false okd;have hs':ji [am (bf 5 0 w h),ap "Box" [[lb l d]],.int (m:Int)]=some (.lst (duD w l h d (j+1))):=hs;have hPr:am (bf 5 0 w h) = .tup ((bf 5 0 w h).map pyD):=rfl;have hlu:fQ (.int c13) (.int u)=some (.int l):=by rw[<- hl];exact Mb hu
 have hwu:fQ (.int c11) (.int P40)=some (.int (c11 % P40)):=Mb h40;clear hs body turn;generalize duD w l h d (j+1)=du at *;generalize (List.range' 0 (m+1-0)).map (fun i:Nat=>D.int (i:Int))=rm at *;generalize (List.range' 0 h).map (fun i:Nat=>D.int (i:Int))=rh at *;generalize (bf 5 0 w h).map pyD=pl at *;generalize am (bf 5 0 w h)=P0 at *;have hz:duD w l h d 0=[]:=rfl;rw[hz] at hloop;generalize D.scr (ns.map D.int)=sc at *;have ex:e8 [.sh sc,.un,.un,.un,.un,.un,.un,.un,.un]=some (.rt (.bl true)):=by
  unfold e8;rw[aw (bK (d:=.int w) (by simp[-Ev,hc11,p40,hwu,hw]))];rw[aw (bK (d:=.int (h:Int)) (by simp[hc12,hh]))];rw[aw (bK (d:=.lst [.int l,.int (d:Int)]) (by simp[-Ev,hc13,hc14,hc0,p39,eu,hlu,hd,l2]))];rw[aw (bK (d:=.int (c15 % 9)) (by simp[hc15]))];rw[aw (ρ':=[.sh sc,.sh (.int w),.sh (.int (h:Int)),.sh (.lst [.int l,.int (d:Int)]),.sh (.int (m:Int)),.un,.un,.un,.un]) (by
   rw[<- hm];have at1:atI [D.int l,.int (d:Int)] 1=some (.int (d:Int)):=rfl;by_cases k1:(0:Int)<d
   ·have k1':0<d:=by lia
    by_cases k2:(h:Int)<13
    ·have k2':h<13:=by lia
     rw[Tn ⟨k1,k2⟩];simp[at1,k1,k1',k2,k2',hc15]
    ·have k2':¬h<13:=by lia
     rw[To fun q=>k2 q.2];simp[at1,k1,k1',k2,k2']
   ·have k1':¬0<d:=by lia
    rw[To fun q=>k1 q.1];simp[at1,k1,k1'])]
  rw[aw (ρ':=[.sh sc,.sh (.int w),.sh (.int (h:Int)),.sh (.lst [.int l,.int (d:Int)]),.sh (.int (m:Int)),owl [],.un,.un,.un]) (by rfl)];have hfor:bg (gH (ad (xOp aP (ag 4) (xC (.int 1))) ai)) (af 6) bp [.sh sc,.sh (.int w),.sh (.int (h:Int)),.sh (.lst [.int l,.int (d:Int)]),.sh (.int (m:Int)),owl [],.un,.un,.un]=some (.nx [.sh sc,.sh (.int w),.sh (.int (h:Int)),.sh (.lst [.int l,.int (d:Int)]),.sh (.int (m:Int)),owl du,w6,w7,.un]):=by unfold bg;show (rg [.int ((m:Int)+1)]).bind _=_;rw[hrm];exact hloop
  rw[aw hfor];rw[aw (bK (d:=P0) (by rw[hPr];simp[hrh,hrl,hcomp]))];have hb:kO "Box" "parts" qT (ad (xOp dIx (ag 3) (xC (.int 0))) (ad (xC (.int 0)) (ad (xC (.int 0)) (ad (xOp dIx (ag 3) (xC (.int 1))) ai)))) ([.sh sc,.sh (.int w),.sh (.int (h:Int)),.sh (.lst [.int l,.int (d:Int)]),.sh (.int (m:Int)),owl du,w6,w7,.un].set 8 (.sh P0))=some (ap "Box" [[lb l d]]):=H9 (ds:=[.int l,.int 0,.int 0,.int (d:Int)]) rfl iB;have hc:av ji (ad (ak 8) (ad (kO "Box" "parts" qT (ad (xOp dIx (ag 3) (xC (.int 0))) (ad (xC (.int 0)) (ad (xC (.int 0)) (ad (xOp dIx (ag 3) (xC (.int 1))) ai))))) (ad (ak 4) ai))) ([.sh sc,.sh (.int w),.sh (.int (h:Int)),.sh (.lst [.int l,.int (d:Int)]),.sh (.int (m:Int)),owl du,w6,w7,.un].set 8 (.sh P0))=some (.lst du):=eJ (gU (d:=P0) rfl (gU hb (gU (d:=.int (m:Int)) rfl rfl))) hs';unfold bO;rw[Iq (b:=ag 5) (y:=.lst du) hc (by simp) dL];rfl
 exact uu (n:=9) (ds:=[sc]) ex
theorem Hk {fs:R}(hne:fs≠[])(hl:fs.length<=4)(hn:∀f∈fs,-1<=f.2/\f.2<=1){q:Pic}(c:ao q)(hm:∀x y,az q x y↔(x,y)∈fs)(hs:(ah q).length<=fs.length):fA [am q]=some (bx [bu q])/\FL [bu q] (bu q) fs:=by
 obtain⟨g,r,e⟩:=WI hne;have hg:az q g.1 g.2:=(hm _ _).mpr (by rw[e];exact Tx);have qne:q≠[]:=fun z=>by rw[z] at hg;exact aU _ _ hg
 obtain⟨_,b1,b2,b3⟩:=lF q c (by lia);have hp:(bu q).length<=aM (bu q):=by
  have:∀bs:List Blk,bs.length<=aM bs:=fun bs=>by
   induction bs with
   |nil=>exact T2 _
   |cons b bs ih=>have e:aM (b::bs)=high b+aM bs:=rfl;rw[e,Tz];unfold high;lia
  exact this _
 refine⟨AZ q c qne (by lia),rfl,DK (fun z=>?_) b1,⟨by lia,by lia⟩,fun u v=>?_,hn,hne⟩
 ·obtain⟨b,hb,_⟩:=(b3 _ _).mpr hg;rw[z] at hb;cases hb
 ·rw[kd,<- hm];exact b3 u v
noncomputable abbrev fs5:R:=[(0,0),(1,0),(0,1),(-1,0),(0,-1)]
noncomputable abbrev cr1:List Blk:=[(-1,0,1,0),(0,-1,0,1)]
theorem Hj:FL [cr1] cr1 fs5:=by
 refine⟨rfl,DK (by simp) (fun b hb=>?_),⟨by decide,by decide⟩,fun u v=>?_,fun f hf=>?_,by simp⟩
 ·have:b=(-1,0,1,0)\/b=(0,-1,0,1):=by simpa using hb
  rcases this with rfl|rfl<;>exact⟨by decide,by decide⟩
 ·rw[kd];constructor
  ·rintro⟨b,hb,h1,h2,h3,h4⟩;have:b=(-1,0,1,0)\/b=(0,-1,0,1):=by simpa using hb
   simp only[fs5,TD,Vt,VI,or_false];rcases this with rfl|rfl<;>dsimp only at h1 h2 h3 h4<;>lia
  ·intro h;simp only[fs5,TD,Vt,VI,or_false] at h;by_cases hv:v=0
   ·exact⟨(-1,0,1,0),by simp,by dsimp only;lia,by dsimp only;lia,by dsimp only;lia,by dsimp only;lia⟩
   ·exact⟨(0,-1,0,1),by simp,by dsimp only;lia,by dsimp only;lia,by dsimp only;lia,by dsimp only;lia⟩
 ·simp only[fs5,TD,VI,or_false] at hf;rcases hf with rfl|rfl|rfl|rfl|rfl<;>decide
theorem HR (ns:List Int)(hns:ns.length<=63):O9 [.scr (ns.map D.int)]=some (.bl true):=by
 have l1:1<=LIM:=aC (by lia);have l2:2<=LIM:=aC (by lia);have l5:5<=LIM:=aC (by lia);obtain⟨c0,hc0⟩:∃v:Int,aA [.scr (ns.map D.int),.int 0]=some (.int v):=c9 ns 0;obtain⟨m,hm,hm4⟩:∃m:Nat,c0 / 8 % 5=(m:Int)/\m<=4:=⟨(c0 / 8 % 5).toNat,by lia,by lia⟩
 obtain⟨cs,hcs,hcl⟩:=uP ns hns;obtain⟨f0,hf0,fne,f4,fnr⟩:=ww ns;obtain⟨p,pp,pc,pm,_⟩:=kx cs (by lia);obtain⟨q,qp,qc,qm,ql⟩:=kx f0 (by lia);obtain⟨iS,flS⟩:=Hk fne f4 fnr qc qm ql;have iC:pq [.int 1]=some (bx [cr1]):=by simp[pq,y6]
 obtain⟨N,ps,bs,fs,hN,eF,ef,fl,f5⟩:∃(N:Str) (ps:List (List Blk)) (bs:List Blk) (fs:R),NS.contains N=true/\ap N ps=(if c0 / 64 % 4=1 then ap "Cross" [cr1] else ap "Shape" [bu q])/\fs=(if c0 / 64 % 4=1 then fs5 else f0)/\FL ps bs fs/\fs.length<=5:=by
  by_cases h:c0 / 64 % 4=1
  ·exact⟨"Cross",_,_,fs5,by decide,by rw[Tn h],by rw[Tn h],Hj,by decide⟩
  ·exact⟨"Shape",_,_,f0,by decide,by rw[To h],by rw[To h],flS,by lia⟩
 obtain⟨ds,d1,d2,d3,d4,_⟩:=vC fl hN hcl f5 pc pm m hm4;obtain⟨es,s1,_,_,_,s5⟩:=vC (cs:=[]) fl hN (by show 0<=42;lia) f5 dN (fun x y=>⟨fun h=>(aU _ _ h).elim,fun h=>by cases h⟩) m hm4;have es0:=s5 rfl;subst es0;have z0:ji [.tup [],ap N ps,.int (m:Int)]=some (.lst [.int 0]):=by show (dM [am [],ap N ps,.int (m:Int)]).map O.d=_;rw[s1];rfl
 have z1:ji [am p,ap N ps,.int (m:Int)]=some (.lst (ds.map D.int)):=by show (dM [am p,ap N ps,.int (m:Int)]).map O.d=_;rw[d1];generalize ds.map D.int=l;simp
 have hrect:=nO ns;have okd:okD 50 (.lst (ds.map D.int))=true:=lN ds fun k _=>by simp[okD]
 have dT:=ld true okd;have dF:=ld false okd;have d0:dEq true (D.lst [.int 0]) (.lst [.int 0])=some (.bl false):=ld true rfl;have hr:=Bz ds.length (by lia);have hlim:(ds.map D.int).length<LIM:=ci (by rw[Tt];lia);obtain⟨ρ',k1,v8,rfl⟩:=aS (g:=af 8) (m:=me) (fun i:Nat=>D.int (i:Int)) (fun pre ρ=>∃v8:Sl,ρ=[.sh (.scr (ns.map D.int)),.sh (.lst (cs.map prD)),.sh (.lst (fs.map prD)),.sh (.int (m:Int)),.sh (am p),.sh (ap N ps),.sh (.lst (ds.map D.int)),owl (ds.map D.int),v8]) (List.range' 0 ds.length) [.sh (.scr (ns.map D.int)),.sh (.lst (cs.map prD)),.sh (.lst (fs.map prD)),.sh (.int (m:Int)),.sh (am p),.sh (ap N ps),.sh (.lst (ds.map D.int)),owl (ds.map D.int),.un] ⟨.un,rfl⟩ (by
  rintro pre k post _ e ⟨v8,rfl⟩;have hk:k<ds.length:=by
   have:k∈List.range' 0 ds.length:=by rw[e];simp
   rw[List.mem_range'] at this;obtain⟨i,hi,rfl⟩:=this;lia
  have ea:atI (ds.map D.int) (k:Int)=some (.int ds[k]):=eM (by rw[TW,Uf hk];rfl);have i1:qf [.int ds[k],.ty "int"]=some (.bl true):=by first|rfl|decide
  have i2:qf [.int ds[k],.ty "bool"]=some (.bl false):=by first|rfl|decide
  refine⟨[.sh (.scr (ns.map D.int)),.sh (.lst (cs.map prD)),.sh (.lst (fs.map prD)),.sh (.int (m:Int)),.sh (am p),.sh (ap N ps),.sh (.lst (ds.map D.int)),owl (ds.map D.int),.sh (.int (k:Int))],_,rfl,.inl ?_,.sh (.int (k:Int)),rfl⟩;generalize ap N ps=F;generalize am p=P0;generalize D.scr (ns.map D.int)=sc;generalize cs.map prD=cl;generalize fs.map prD=fl;by_cases h0:0<k
  ·have eb:atI (ds.map D.int) ((k:Int)-1)=some (.int ds[k-1]):=by
    have:=eM (l:=ds.map D.int) (j:=k-1) (x:=.int ds[k-1]) (by rw[TW,Uf (by lia)];rfl);rw[<- this];congr 1;lia
   have hle:ds[k]<=ds[k-1]:=UW.mp d4 (k-1) k (by lia) hk (by lia);have hng:¬ds[k-1]<ds[k]:=by lia
   have h0':(0:Int)<k:=by lia
   generalize ds[k]=a at *;generalize ds[k-1]=b at *;generalize ds.map D.int=dl at *;simp[me,ea,eb,i1,i2,h0,h0',hng]
  ·have h0':¬(0:Int)<k:=by lia
   generalize ds[k]=a at *;generalize ds.map D.int=dl at *
   simp[me,ea,i1,i2,h0,h0'])
 have hlen:((ds.map D.int).length:Int)=(ds.length:Int):=by rw[Tt]
 have isl:qf [D.lst (ds.map D.int),.ty "list"]=some (.bl true):=by rfl
 have hfs5:D.lst (fs5.map prD) = .lst [.tup [.int 0,.int 0],.tup [.int 1,.int 0],.tup [.int 0,.int 1],.tup [.int (-1),.int 0],.tup [.int 0,.int (-1)]]:=rfl;generalize ds.map D.int=dl at *;generalize hcg:cs.map prD=cl at *;generalize hsc:D.scr (ns.map D.int)=sc at *;generalize hpg:am p=P0 at *;generalize (List.range' 0 ds.length).map (fun i:Nat=>D.int (i:Int))=rl at *;have ex:Ae [.sh sc,.un,.un,.un,.un,.un,.un,.un,.un]=some (.rt (.bl true)):=by
  unfold Ae;rw[aw (ρ':=[.sh sc,.sh (.lst cl),.un,.un,.un,.un,.un,.un,.un]) (bK (eJ (ds:=[sc]) rfl hcs))];rw[aw (ρ':=[.sh sc,.sh (.lst cl),.sh (.lst (f0.map prD)),.un,.un,.un,.un,.un,.un]) (bK (eJ (ds:=[sc]) rfl hf0))];rw[aw (ρ':=[.sh sc,.sh (.lst cl),.sh (.lst (f0.map prD)),.sh (.int (m:Int)),.un,.un,.un,.un,.un]) (bK (by generalize D.lst (f0.map prD)=fl0;simp[hc0,hm]))];rw[aw (ρ':=[.sh sc,.sh (.lst cl),.sh (.lst (f0.map prD)),.sh (.int (m:Int)),.sh P0,.un,.un,.un,.un]) (bK (eJ (ds:=[.lst cl]) rfl pp))];rw[aw (ρ':=[.sh sc,.sh (.lst cl),.sh (.lst (f0.map prD)),.sh (.int (m:Int)),.sh P0,.sh (ap "Shape" [bu q]),.un,.un,.un]) (bK (H9 (ds:=[am q]) (gU (eJ (ds:=[.lst (f0.map prD)]) rfl qp) rfl) iS))];rw[aw (ρ':=[.sh sc,.sh (.lst cl),.sh (.lst (fs.map prD)),.sh (.int (m:Int)),.sh P0,.sh (ap N ps),.un,.un,.un]) (by
   rw[eF,ef];by_cases h6:c0 / 64 % 4=1
   ·rw[Tn h6,Tn h6,hfs5];have hc6:xB (xOp (dEq false) (xOp fQ (xOp o3 (av aA (ad (ak 0) (ad (xC (.int 0)) ai))) (xC (.int 64))) (xC (.int 4))) (xC (.int 1))) [.sh sc,.sh (.lst cl),.sh (.lst (f0.map prD)),.sh (.int (m:Int)),.sh P0,.sh (ap "Shape" [bu q]),.un,.un,.un]=some true:=by
     generalize D.lst (f0.map prD)=fl0;generalize ap "Shape" [bu q]=F0;simp[hc0,h6]
    refine Hy hc6 ?_;rw[aw (ρ':=[.sh sc,.sh (.lst cl),.sh (.lst [.tup [.int 0,.int 0],.tup [.int 1,.int 0],.tup [.int 0,.int 1],.tup [.int (-1),.int 0],.tup [.int 0,.int (-1)]]),.sh (.int (m:Int)),.sh P0,.sh (ap "Shape" [bu q]),.un,.un,.un]) (bK (by
     generalize D.lst (f0.map prD)=fl0;generalize ap "Shape" [bu q]=F0
     simp[l2,l5]))]
    exact bK (H9 (ds:=[.int 1]) rfl iC)
   ·rw[To h6,To h6];exact CB (by
     generalize D.lst (f0.map prD)=fl0;generalize ap "Shape" [bu q]=F0
     simp[hc0,h6]))]
  rw[aw (ρ':=[.sh sc,.sh (.lst cl),.sh (.lst (fs.map prD)),.sh (.int (m:Int)),.sh P0,.sh (ap N ps),.sh (.lst dl),.un,.un]) (bK (eJ (ds:=[.lst cl,.lst (fs.map prD),.int (m:Int)]) rfl d2))];generalize D.lst (fs.map prD)=FL at *;generalize ap N ps=F at *;rw[aw (ρ':=[.sh sc,.sh (.lst cl),.sh FL,.sh (.int (m:Int)),.sh P0,.sh F,.sh (.lst dl),owl dl,.un]) (by
   show (kn dM (ad (ak 4) (ad (ak 5) (ad (ak 3) ai))) _).map _=_;rw[show kn dM (ad (ak 4) (ad (ak 5) (ad (ak 3) ai))) [.sh sc,.sh (.lst cl),.sh FL,.sh (.int (m:Int)),.sh P0,.sh F,.sh (.lst dl),.un,.un]=dM [P0,F,.int (m:Int)] from rfl,d1]
   rfl)]
  rw[aw (CB (by simp[isl,dT,z0,d0,l1]))];have hfor:bg (gH (ad (xCB gS (ad (ag 7) ai)) ai)) (af 8) me [.sh sc,.sh (.lst cl),.sh FL,.sh (.int (m:Int)),.sh P0,.sh F,.sh (.lst dl),owl dl,.un]=some (.nx [.sh sc,.sh (.lst cl),.sh FL,.sh (.int (m:Int)),.sh P0,.sh F,.sh (.lst dl),owl dl,v8]):=by
   have hi:gH (ad (xCB gS (ad (ag 7) ai)) ai) [.sh sc,.sh (.lst cl),.sh FL,.sh (.int (m:Int)),.sh P0,.sh F,.sh (.lst dl),owl dl,.un]=some rl:=by simp[hlen,hr]
   unfold bg;rw[hi];exact k1
  rw[aw hfor];rw[aw (ρ':=[.sh sc,.sh (.lst cl),.sh FL,.sh (.int (m:Int)),.sh P0,.sh F,.sh (.lst dl),owl (dl++[.int 7]),v8]) (yJ (gs:=dl) rfl rfl hlim)];simp[z1,dF,hrect]
 exact uu (n:=9) (ds:=[sc]) ex
end P
namespace L2
open PySem PySem.Spec PyProof.Rows M
structure Fd (K:W.Frag) (x:Str) (st:Stmt) (f:Addr) (fd:FuncData):Prop where
 a:W.nsIn K mainGlobals x=some (some (.ref f))
 F:Fun K x x st f fd
structure Bk (P:Program) (w:World) (K:W.Frag) (mg:Str->Option Value) (base:Heap) (n:Nat) (x:Str) (ps:List Str) (sp:Sp) (f:Addr) (fd:FuncData):Prop where
 G:FnOk P w K mg base CX0 n f fd ps sp
 m:mg x=some (.ref f)
 k:W.keepIn K (.ref f)=true
 b:Binds K fd ps []
structure Bm (P:Program) (w:World) (K:W.Frag) (mg:Str->Option Value) (base:Heap) (n:Nat) (x:Str) (Ns ps:List Str) (sp:Sp) (f:Addr) (fd:FuncData):Prop where
 G:FnOk P w K mg base CX0 n f fd ps sp
 b:Binds K fd ps []
 cm:tP K Ns fun C=>Cls K C/\Meth K C x f
structure Bc (P:Program) (w:World) (K:W.Frag) (mg:Str->Option Value) (base:Heap) (n:Nat) (x:Str) (ps:List Str) (sp:Sp) (c f:Addr) (fd:FuncData):Prop where
 G:FnOk P w K mg base CX0 n f fd ps sp
 b:Binds K fd ps []
 n:W.nsIn K mainGlobals x=some (some (.ref c))
 M:Mk K c f
 g:mg x=some (.ref c)
structure Bb (P:Program) (w:World) (K:W.Frag) (mg:Str->Option Value) (base:Heap) (n:Nat) (x:Str) (ps:List Str) (sp:Sp) (c f:Addr) (fd:FuncData):Prop where
 G:FnOk P w K mg base CX0 n f fd ps sp
 b:Binds K fd ps []
 cf:ClsFn K c "__init__" f
 g:mg x=some (.ref c)
section
variable {X:Cx}{a b e o:Expr}{es:List Expr}{ta tb te:TE}{t:TA}{p pos pos' apos:Pos}{x:Str}{n k:Nat}{ps:List Str}{sp:Sp}{c f:Addr}{fd:FuncData}
theorem pgn (i:Nat)(hN:X.N.Nodup)(hi:X.N[i]?=some x:=by rfl)(hx:Loc X.env.scope x:=by exact .inl rfl)(hf:X.fn x=true\/X.env.scope.names.lookup x=some .local:=by first|exact .inl rfl|exact .inr rfl|assumption):PG X (.Name x pos) (je i):=pF hN hi hx hf
theorem pgc {N:List Str}{scope:Scope}{z:CxZ}(i:Nat)(hN:N.Nodup:=by decide +kernel)(hi:(cxC X N scope z).N[i]?=some x:=by rfl)(hx:Loc (cxC X N scope z).env.scope x:=by exact .inl rfl)(hf:(cxC X N scope z).fn x=true\/(cxC X N scope z).env.scope.names.lookup x=some .local:=by first|exact .inl rfl|exact .inr rfl|assumption):PG (cxC X N scope z) (.Name x pos) (je i):=pF hN hi hx hf
theorem pst (i:Nat)(hN:X.N.Nodup)(he:PE X e te)(hi:X.N[i]?=some x:=by rfl)(hx:Loc X.env.scope x:=by exact .inl rfl)(hs:swapsWith e (some (.Name x pos')) pos.line X.env=pure false:=by rfl)(hf:X.fn x=true\/X.env.scope.names.lookup x=some .local:=by first|exact .inl rfl|exact .inr rfl|assumption) :
  PS X (.Assign [.Name x pos'] e pos) (zL te (je i)):=zA hN hi hx he hs hf
theorem pix (ha:PE X a ta)(hb:PE X b tb)(hs:Dt b:=by exact fun _ _=>rfl):PE X (.Subscript a b pos) (tOp (rIx X.K) ta tb):=Pg MW ha hb hs
theorem ptc {op:CmpOp}{r:R2}(ho:OpR X (compareOp op) r)(ha:PE X a ta)(hb:PE X b tb)(hm:behindInMarks op b=false:=by exact Ig _):PT X (.Compare a [op] [b] pos) (Et (tOp r ta tb)):=Ed ho ha hb hm
theorem pcl (F:Bk X.prog X.w X.K X.mg X.base n x ps sp f fd)(hr:Room k X.A)(ha:PA X (e::es) t)(hn:n<=k:=by decide)(hg:Gl X x:=by rfl)(hdb:(x==("__debug__" : Str))=false:=by decide)
  (he:starEach (e::es) X.env=(false,eval e X.env)::starEach es X.env:=by rfl) (hpl:(backTo pos (starEach es X.env)).any (·.1)=false:=by rfl):PE X (.Call (.Name x p) (e::es) [] pos) (pT sp [] E0 t):=KW F.G (hr.mono hn) hg F.m F.k F.b .nil vf ha hdb he hpl
theorem pmk (F:Bc X.prog X.w X.K X.mg X.base n x ps sp c f fd)(hr:Room k X.A)(ha:PA X (e::es) t)(hn:n+1<=k:=by decide)(hg:Gl X x:=by rfl)(hdb:(x==("__debug__" : Str))=false:=by decide)
  (he:starEach (e::es) X.env=(false,eval e X.env)::starEach es X.env:=by rfl) (hpl:(backTo pos (starEach es X.env)).any (·.1)=false:=by rfl):PE X (.Call (.Name x p) (e::es) [] pos) (zM X.K x sp t):=Iz F.n F.M F.G (hr.mono hn) hg F.g F.b vf ha hdb he hpl
theorem pmt {pl:Sem Bool}{Ns:List Str}(F:Bm X.prog X.w X.K X.mg X.base n x Ns ps sp f fd)(hr:Room k X.A)(he:PE X o ta)(ha:PA X (e::es) t)(hn:n<=k:=by decide)
  (hst:starEach (e::es) X.env=(false,eval e X.env)::starEach es X.env:=by rfl) (hpl:(backTo pos (starEach es X.env)).any (·.1)=false:=by rfl)
  (ht:eval (.Call (.Attribute o x apos) (e::es) [] pos) X.env=(do
   let ov ← eval o X.env
   standAt apos.atName
   let (f,first) ← holding [ov] (getMethod ov x pl)
   callWith pos f first (backTo pos (starEach (e::es) X.env)) (backToKw pos (keywordEach [] X.env))):=by rfl) :
  PE X (.Call (.Attribute o x apos) (e::es) [] pos) (zN X.K Ns x sp ta t):=IA F.cm F.G (hr.mono hn) F.b vf he ha hst hpl ht
theorem pec {XN N:List Str}{sc scope:Scope}{js:List (Option Nat)}{tg iter elt:Expr}{ifs:List Expr}{wi:TI}{g:TG}{tt:TIf}(ck:CmpOk XN sc scope N js)(hi:PI X tg iter wi:=by and_intros)(hg:∀z,PG (cxC X N scope z) tg g:=by intro _;and_intros)(hs:su js g:=by and_intros)(ht:∀z,PIf (cxC X N scope z) ifs tt:=by intro _;and_intros)(he:∀z,PE (cxC X N scope z) elt te:=by intro _;and_intros)
  (hXN:X.N=XN:=by rfl) (hsc:X.env.scope=sc:=by rfl) (hc:X.calm=true:=by rfl) (hf:∀x,foldedSetIterable iter X.env x=pure x:=by intro _;rfl) :
  PE X (.ListComp elt [⟨tg,iter,ifs,0⟩] scope pos) (yp js wi g tt te):=KZ ck hi hg hs ht he hXN hsc hc hf
end
theorem Fd.ok {P:Program}{w:World}{K:W.Frag}{mg:Str->Option Value}{base:Heap}{x:Str}{st:Stmt}{f:Addr}{fd:FuncData}{N ps:List Str}{k n j:Nat}{y:XS}(F:Fd K x st f fd)(T:∀y v,W.nsIn K mainGlobals y=some (some v)->mg y=some v)(p:{ t:TS // SS K t y })
  (hb:N.Nodup->∀(cdv:Value) (A:Around) (outer:List PySem.Env) (s:Shared) (H:Hp) (E:XK),Room k (A.deeper (envOfC x (ar st) s.heap.objs.size f cdv)) ->
   PSs (yN CX0 P w K mg base N x (ar st) f cdv A outer s H E).nox (gf st) p.1:=by
   bv_omega
   and_intros)
  (hN:N.length=n:=by rfl) (hj:ps.length=j:=by rfl) (S:FnScope N ps (ar st):=by ac_rfl)
  (hB:∀(kV doc pm:Value) (an:Option Addr) (cdv ct:Value) (us:List Value),us.length=ps.length->bindArgs (W.fnOf x x (ml st) (gf st) (ar st) .none kV doc pm an cdv ct) ⟨us,[]⟩=pure (ps.zip us):=by
   intro _ _ _ _ _ _ us hl
   first
    | (cases us0 hl;rfl)
    | (obtain⟨_,rfl⟩:=us1 hl;rfl)
    | (obtain⟨_,_,rfl⟩:=us2 hl;rfl)
    | (obtain⟨_,_,_,rfl⟩:=us3 hl;rfl)
    | (obtain⟨_,_,_,_,rfl⟩:=us4 hl;rfl)
    | (obtain⟨_,_,_,_,_,rfl⟩:=us5 hl;rfl)) :
  Bk P w K mg base (k+1) x ps (bz K j (fnO n y)) f fd:=by
 refine⟨F.F.ok S (fun vs H Q E h=>h.1.trans hj.symm) fun cdv A outer s H vs Q E hr h=>?_,T x _ F.a,F.F.kp,F.F.binds hB⟩;exact⟨_,hb S.nd cdv A outer s H E hr,M.Bw p.2 hN h⟩
theorem Fun.okm {P:Program}{w:World}{K:W.Frag}{mg:Str->Option Value}{base:Heap}{x qual:Str}{st:Stmt}{f:Addr}{fd:FuncData}{N ps:List Str}{k n j:Nat}{y:XS}(F:Fun K x qual st f fd)(p:{ t:TS // SS K t y })
  (hb:N.Nodup->∀(cdv:Value) (A:Around) (outer:List PySem.Env) (s:Shared) (H:Hp) (E:XK),Room k (A.deeper (envOfC qual (ar st) s.heap.objs.size f cdv)) ->
   PSs (yN CX0 P w K mg base N qual (ar st) f cdv A outer s H E).nox (gf st) p.1:=by
   bv_omega
   and_intros)
  (hN:N.length=n:=by rfl) (hj:ps.length=j:=by rfl) (S:FnScope N ps (ar st):=by ac_rfl) :
  FnOk P w K mg base CX0 (k+1) f fd ps (bz K j (fnO n y)):=
 F.ok S (fun vs H Q E h=>h.1.trans hj.symm) fun cdv A outer s H vs Q E hr h=>⟨_,hb S.nd cdv A outer s H E hr,M.Bw p.2 hN h⟩
end L2
namespace Lw
open PySem PySem.W L2 M P
set_option autoImplicit true
noncomputable def top (i : Nat) : Stmt := PySem.Challenge.pw_shapethin_k62_sieves.main.body.getD i (.Pass ⟨0, 0, 0, 0⟩)
noncomputable abbrev vA:Stmt:=top 5
noncomputable abbrev nc:Stmt:=top 6
noncomputable abbrev pL:Stmt:=top 7
noncomputable abbrev vz:Stmt:=top 8
noncomputable abbrev fG:Stmt:=top 9
noncomputable abbrev lW:Stmt:=top 10
noncomputable abbrev lX:Stmt:=top 11
noncomputable abbrev ki:Stmt:=top 12
noncomputable abbrev gZ:Stmt:=top 14
noncomputable abbrev iP:Stmt:=top 15
noncomputable abbrev BF:Stmt:=top 16
noncomputable abbrev fH:Stmt:=top 17
noncomputable abbrev Jm:Stmt:=top 18
noncomputable abbrev vx:Stmt:=top 19
noncomputable abbrev C8:Stmt:=top 20
noncomputable abbrev jC:Stmt:=top 21
noncomputable abbrev pK:Stmt:=top 22
noncomputable abbrev zC:Stmt:=top 23
noncomputable abbrev lV:Stmt:=top 26
noncomputable abbrev dS:Stmt:=top 27
noncomputable abbrev ni:Stmt:=top 28
noncomputable abbrev nh:Stmt:=top 29
noncomputable abbrev eR:Stmt:=top 30
noncomputable abbrev jm:Stmt:=top 31
noncomputable abbrev eS:Stmt:=top 32
noncomputable abbrev jn:Stmt:=top 33
noncomputable abbrev rn:Stmt:=top 34
noncomputable abbrev kG:Stmt:=top 35
noncomputable abbrev Jl:Stmt:=top 42
noncomputable abbrev nj:Stmt:=top 43
noncomputable abbrev Em:Stmt:=top 44
noncomputable abbrev vt:Stmt:=top 46
noncomputable abbrev BD:Stmt:=top 47
noncomputable abbrev Ek:Stmt:=top 48
noncomputable abbrev rk:Stmt:=top 49
noncomputable abbrev oi:Stmt:=top 50
noncomputable abbrev vw:Stmt:=top 51
noncomputable abbrev BE:Stmt:=top 52
noncomputable abbrev kh:Stmt:=top 53
noncomputable abbrev L9:Stmt:=top 54
noncomputable abbrev gF:Stmt:=jf (top 36) 0
noncomputable abbrev lS:Stmt:=jf (top 36) 2
noncomputable abbrev lU:Stmt:=jf (top 36) 3
noncomputable abbrev wM:Stmt:=jf (top 36) 4
noncomputable abbrev iL:Stmt:=jf (top 37) 0
noncomputable abbrev fY:Stmt:=jf (top 38) 0
noncomputable abbrev fZ:Stmt:=jf (top 39) 0
noncomputable abbrev iM:Stmt:=jf (top 40) 0
structure Txt (P:Program) (w:World) (K:Frag) (mg:Str->Option Value) (base:Heap):Prop where
 mo:∀x v,nsIn K mainGlobals x=some (some v)->mg x=some v
 all:mg "all" = none
 bool:mg "bool" = none
 int:mg "int" = none
 isinstance:mg "isinstance" = none
 len:mg "len" = none
 list:mg "list" = none
 max:mg "max" = none
 min:mg "min" = none
 range:mg "range" = none
 reversed:mg "reversed" = none
 sorted:mg "sorted" = none
 sum:mg "sum" = none
 tuple:mg "tuple" = none
 ONE_CELL:∃(u:Value) (v:V),mg "ONE_CELL" = some u/\RelV v u/\∀S,Den K S (.mtp [.mtp [.int (0),.mtp [.mtp [.int (0),.int (0)]]]]) v
 cN:tP K NS fun C=>Cls K C/\NoAttr K C "parts"
section
variable (P:Program)(w:World)(K:Frag)(mg:Str->Option Value)(base:Heap)
noncomputable abbrev oQ:=Bk P w K mg base 1 "row_of" ["pairs"] (Ge K)
noncomputable abbrev ju:=Bk P w K mg base 1 "count_up_to" ["pairs", "number"] (vH K)
noncomputable abbrev jW:=Bk P w K mg base 1 "row_common" ["one", "other"] (wR K)
noncomputable abbrev rK:=Bk P w K mg base 1 "row_count" ["row"] (zI K)
noncomputable abbrev rL:=Bk P w K mg base 1 "row_moved" ["row", "by"] (zJ K)
noncomputable abbrev e7:=Bk P w K mg base 1 "stretches_of" ["picture"] (sZ K)
noncomputable abbrev bQ:=Bk P w K mg base 1 "rows_with_cells" ["rows"] (oq K)
noncomputable abbrev Ac:=Bk P w K mg base 1 "box_of" ["picture"] (Gb K)
noncomputable abbrev k6:=Bk P w K mg base 1 "parts_of_sum" ["parts"] (sY K)
noncomputable abbrev ij:=Bk P w K mg base 1 "_law_cell_at" ["_law_script", "_law_k"] (BL K)
noncomputable abbrev wZ:=Bk P w K mg base 1 "_law_points" ["_law_cells_here"] (Df K)
noncomputable abbrev tT:=Bk P w K mg base 1 "_law_smaller" ["_law_there", "_law_form_here"] (BN K)
noncomputable abbrev tS:=Bk P w K mg base 1 "_law_greater" ["_law_there", "_law_form_here"] (BM K)
noncomputable abbrev oM:=Bb P w K mg base 1 "Form" ["self", "parts"] (jT K)
noncomputable abbrev oP:=Bk P w K mg base 2 "row_either" ["one", "other"] (wS K)
noncomputable abbrev oS:=Bk P w K mg base 2 "row_shrunk" ["row", "low", "high"] (wT K)
noncomputable abbrev gN:=Bk P w K mg base 2 "picture_of" ["stretches"] (wQ K)
noncomputable abbrev tV:=Bk P w K mg base 2 "row_at" ["picture", "y"] (Gd K)
noncomputable abbrev mR:=Bk P w K mg base 2 "count_cells" ["picture"] (vG K)
noncomputable abbrev yF:=Bk P w K mg base 2 "moved" ["picture", "dx", "dy"] (Jv K)
noncomputable abbrev rJ:=Bk P w K mg base 2 "blocks_of" ["picture"] (zG K)
noncomputable abbrev kr:=Bk P w K mg base 2 "begun_between" ["pairs", "first", "last"] (rA K)
noncomputable abbrev Aa:=Bk P w K mg base 2 "_law_cells" ["_law_script"] (F9 K)
noncomputable abbrev Dv:=Bk P w K mg base 2 "_law_form" ["_law_script"] (Ju K)
noncomputable abbrev Ab:=Bk P w K mg base 2 "_law_sieve" ["_law_cells_here", "_law_form_here", "_law_most"] (Ga K)
noncomputable abbrev LL:=Bc P w K mg base 2 "Box" ["self", "left", "up", "right", "down"] (kK K)
noncomputable abbrev Du:=Bc P w K mg base 2 "Cross" ["self", "arm"] (jq K)
noncomputable abbrev LM:=Bc P w K mg base 2 "Sum" ["self", "one", "other"] (kN K)
noncomputable abbrev tW:=Bk P w K mg base 3 "row_less" ["one", "other"] (BO K)
noncomputable abbrev B7:=Bk P w K mg base 3 "join" ["one", "other"] (Lp K)
noncomputable abbrev tU:=Bk P w K mg base 3 "common" ["one", "other"] (Gc K)
noncomputable abbrev w9:=Bk P w K mg base 3 "reached" ["picture", "box", "block"] (Dg K)
noncomputable abbrev yE:=Bc P w K mg base 3 "Shape" ["self", "picture"] (jr K)
noncomputable abbrev GM:=Bk P w K mg base 4 "less" ["one", "other"] (Lq K)
noncomputable abbrev mT:=Bk P w K mg base 4 "spread_down" ["picture", "by"] (vJ K)
noncomputable abbrev mS:=Bk P w K mg base 4 "shrunk_down" ["picture", "by"] (vI K)
noncomputable abbrev ik:=Bk P w K mg base 5 "greater_by_block" ["picture", "block"] (mK K)
noncomputable abbrev il:=Bk P w K mg base 5 "smaller_by_block" ["picture", "block"] (mL K)
noncomputable abbrev GL:=Bk P w K mg base 5 "fold" ["form", "many"] (Lo K)
noncomputable abbrev i6:=Bk P w K mg base 6 "greater_by_part" ["picture", "blocks"] (oo K)
noncomputable abbrev i7:=Bk P w K mg base 6 "smaller_by_part" ["picture", "blocks"] (ox K)
noncomputable abbrev ii:=Bm P w K mg base 7 "greater" NS ["self", "picture"] (kL K)
noncomputable abbrev kZ:=Bm P w K mg base 7 "smaller" NS ["self", "picture"] (kM K)
noncomputable abbrev mU:=Bk P w K mg base 8 "taken_apart" ["picture", "form", "most"] (vK K)
noncomputable abbrev yG:=Bk P w K mg base 9 "sieve" ["picture", "form", "most"] (Jx K)
noncomputable abbrev oO:=Bk P w K mg base 10 "_law_rectangle" ["_law_script"] (wP K)
noncomputable abbrev OG:=Bk P w K mg base 11 "law" ["_law_script"] (zH K)
end
section
variable {P:Program}{w:World}{K:Frag}{mg:Str->Option Value}{base:Heap}
local macro_rules | `(tactic| ac_rfl)=>`(tactic| exact ⟨rfl,rfl,rfl,by decide +kernel,rfl,by decide +kernel,by decide +kernel⟩)
seal CallR OpR PA PC PE PG PGs PI PIf PIp PO PS Mm PSs PT PW su Ad UnR binaryOp compareOp DP je Ks MK Hr IU rAppend Lf rExtM rI rI0 NA IV rIx IW IX I0 NB rU Oe JB zL Og tB tBM Dh tC tCB pT yp gJ vO JD JE JF tG LB LC zM zN Er rD zO Oh tOp tOr JI JJ JK LD tSl Et LF tUn kQ Di unaryOp
set_option hygiene false in
local macro_rules | `(tactic| and_intros)=>`(tactic| repeat' first | exact pv _ | refine au ?_ ?_ | exact aL | exact n5 | refine bm ?_ | refine aD ?_ ?_ | refine pix ?_ ?_ | refine jB ?_ | refine pcl (by assumption) hr ?_ | refine fX ?_ | refine pst _ nd ?_ | refine vg ?_ | refine Ec ?_ ?_ ?_ | refine Bi ?_ ?_ | refine IG ?_ ?_ | exact Eo | refine JA ?_ ?_ Cy | exact tH | refine ptc ?_ ?_ ?_ | exact pgn _ nd | refine No rfl ?_ | exact K1 | exact vQ | exact zt | refine Bq ?_ ?_ ?_ | refine Od ?_ | exact Lv | refine Nj ?_ | exact Nf | exact Na | refine lO U5 rfl ?_ ?_ ?_ | exact pH | exact Ip hr.units | refine Iv WK PySem.F.slot_list_append PySem.F.type_list_append qX ?_ ?_ | refine bq EN (by rfl) T.len GV ?_ | refine FQ (by rfl) T.range ?_ | exact KR | exact Ir | refine PW.pt (IT ?_ ?_) | exact Pc | exact Nc hr.units | refine IT ?_ ?_ | refine Ld ?_ | refine L0 ?_ ?_ | exact Pb | exact Nb | refine PW.pt (L0 ?_ ?_) | exact Pf | refine K3 ?_ | refine pmk (by assumption) hr ?_ | refine pmt (by assumption) hr ?_ ?_ | refine K8 ?_ | refine IM U5 ?_ ?_ | refine Nz ?_ | refine bq (ES rfl) (by rfl) T.min Cb ?_ | refine dZ bA (by rfl) T.tuple gv ?_ | refine KY ?_ ?_ ?_ (Ig _) | refine IB Q3 ?_ ?_ ?_ | refine Nn ?_ ?_ Jq | refine Nt ?_ ?_ | refine Nu nd rfl (.inl rfl) ?_ MV | refine Nw ?_ | refine bq (ER rfl) (by rfl) T.max GW ?_ | refine bq EM (by rfl) T.isinstance wg ?_ | exact Ix | exact K7 | refine K9 (un1 hr.units) ?_ ?_ ?_ (by rfl) | refine La _ ?_ | exact Nd | refine Nh ?_ ?_ | refine bq EO (by rfl) T.len GV ?_ | refine zq T.cN ?_ rfl | refine Np ?_ | refine FS (by rfl) T.range ?_ | exact FP hr.units | refine Ng (un1 hr.units) ?_ ?_ | exact zp (v:=.ty "bool") (by rfl) T.bool Kf rfl | exact zp (v:=.ty "int") (by rfl) T.int GU rfl | exact zp (v:=.ty "list") (by rfl) T.list Dz rfl | refine Iv WK PySem.F.slot_list_extend PySem.F.type_list_extend D6 ?_ ?_ | refine dZ EL (by rfl) T.int GU ?_ | refine Ni ?_ | exact Iy (by rfl) T.ONE_CELL.choose_spec.choose_spec.1 T.ONE_CELL.choose_spec.choose_spec.2.1 T.ONE_CELL.choose_spec.choose_spec.2.2 | refine C0 T.list T.reversed ?_ | exact Nk | exact pF (show List.Nodup (["side", "single"]:List Str) from by decide +kernel) rfl (.inr rfl) | exact pF nd rfl (.inr rfl) | refine FR (by rfl) T.range ?_ | refine Nq (by rfl) T.reversed ?_ | exact IL | refine Ed ?_ ?_ ?_ rfl | exact pgc _ | refine mw ?_ | refine Br ?_ (fun _=>rfl) | refine Nl ?_ | refine zA nd rfl (.inr rfl) ?_)
set_option hygiene false in
local macro_rules | `(tactic| bv_omega)=>`(tactic| (intro nd _ _ _ _ _ _ hr;(conv=>arg 2;whnf);(with_reducible conv=>arg 3;whnf)))
theorem rp:FnScope ["self", "parts"] ["self", "parts"] (ar gF):=by ac_rfl
theorem sW:FnScope ["self", "left", "up", "right", "down"] ["self", "left", "up", "right", "down"] (ar iL):=by ac_rfl
theorem pM:FnScope ["self", "arm"] ["self", "arm"] (ar fY):=by ac_rfl
theorem sX:FnScope ["self", "one", "other"] ["self", "one", "other"] (ar iM):=by ac_rfl
theorem pN:FnScope ["self", "picture"] ["self", "picture"] (ar fZ):=by ac_rfl
theorem qY (F:Fun K "__init__" "Form.__init__" gF f fd) (T:Txt P w K mg base):FnOk P w K mg base CX0 1 f fd ["self", "parts"] (jT K):=by refine F.ok rp (fun vs H Q E h=>h.1) (fun cdv A outer s H vs Q E hr h=>?_);exact⟨_,bm (Nv (pv 0) (pv 1) rfl),HA T.cN h⟩
theorem Ba (F:Fd K "_law_cell_at" vt f fd) (T:Txt P w K mg base):ij P w K mg base f fd:=F.ok (N:=["_law_script", "_law_k"]) T.mo (Bj K)
theorem Bd (F:Fd K "_law_greater" vw f fd) (T:Txt P w K mg base):tS P w K mg base f fd:=F.ok (N:=["_law_there", "_law_form_here", "_law_more", "_law_x", "_law_y", "_law_dx", "_law_dy"]) T.mo (Bl K)
theorem CT (F:Fd K "_law_points" rk f fd) (T:Txt P w K mg base):wZ P w K mg base f fd:=F.ok (N:=["_law_cells_here", "_law_rows", "_law_y", "_law_x"]) T.mo (C1 K) (by bv_omega;exact aD (by and_intros) (aD (lO U5 rfl (vg (bq fe (by rfl) T.sorted jJ (au (pec (show CmpOk ["_law_cells_here", "_law_rows", "_law_y", "_law_x"] (ar rk) _ ["_law_x", "_law_y"] [none,none] from cH)) aL))) (by and_intros) (by and_intros)) (by and_intros)))
theorem Be (F:Fd K "_law_smaller" oi f fd) (T:Txt P w K mg base):tT P w K mg base f fd:=F.ok (N:=["_law_there", "_law_form_here", "_law_left", "_law_x", "_law_y", "_law_fx", "_law_fy", "_law_spot"]) T.mo (Bn K) (by bv_omega;exact aD (by and_intros) (aD (lO U5 rfl (by and_intros) (by and_intros) (bm (lO U5 rfl (by and_intros) (by and_intros) (aD (by and_intros) (bm (Bq (Br (bq (EK rfl) (by rfl) T.all MB (au (pec (show CmpOk ["_law_there", "_law_form_here", "_law_left", "_law_x", "_law_y", "_law_fx", "_law_fy", "_law_spot"] (ar oi) _ ["_law_dx", "_law_dy", "_law_there", "_law_spot"] [none,none,some 0,some 7] from cH)) aL)) (fun _=>rfl)) (by and_intros) pH)))))) (by and_intros)))
theorem FK (F:Fd K "box_of" pK f fd) (T:Txt P w K mg base):Ac P w K mg base f fd:=F.ok (N:=["picture", "left", "right"]) T.mo (FV K) (by bv_omega;exact aD (by and_intros) (aD (pst 1 nd (bq (Ce rfl) (by rfl) T.min Cb (au (pec (show CmpOk ["picture", "left", "right"] (ar pK) _ ["y", "row"] [none,none] from cH)) aL))) (aD (pst 2 nd (bq (Cd rfl) (by rfl) T.max GW (au (pec (show CmpOk ["picture", "left", "right"] (ar pK) _ ["y", "row"] [none,none] from cH)) aL))) (by and_intros))))
theorem u7 (F:Fd K "count_up_to" nc f fd) (T:Txt P w K mg base):ju P w K mg base f fd:=F.ok (N:=["pairs", "number", "low", "high", "middle"]) T.mo (vj K)
theorem sQ (F:Fd K "parts_of_sum" dS f fd) (T:Txt P w K mg base):k6 P w K mg base f fd:=F.ok (N:=["parts", "single", "together"]) T.mo (sU K) (by bv_omega;exact aD (zA (i:=1) nd rfl (.inr rfl) (pec (show CmpOk ["parts", "single", "together"] (ar dS) _ ["blocks"] [none] from cH))) (aD (pst 2 nd (dZ bA (by rfl) T.tuple gv (au (Iw (show CmpOkC ["parts", "single", "together"] (ar dS) _ ["side", "single"] [none,some 1] "side" from MC) (by and_intros) (fun _=>(by and_intros)) Eo (fun _=>zt) (fun _=>(bq (qu rfl) (by rfl) T.sum Cc (au (pec (show CmpOk ["side", "single"] ({kind:=.function,names:=[(".0",.local),("side",.cell),("sum",.globalImplicit),("single",.cell)],isGenerator:=false,isCoroutine:=false}:Scope) _ ["block", "side"] [none,some 0] from cH)) aL)))) aL))) (bm (fX (Ec tH (by and_intros) (dZ bA (by rfl) T.tuple gv (au (pec (show CmpOk ["parts", "single", "together"] (ar dS) _ ["blocks"] [none] from cH)) aL)))))))
theorem wE (F:Fd K "row_common" pL f fd) (T:Txt P w K mg base):jW P w K mg base f fd:=F.ok (N:=["one", "other", "shared", "here", "there", "a", "b"]) T.mo (wJ K)
theorem zm (F:Fd K "row_count" lW f fd) (T:Txt P w K mg base):rK P w K mg base f fd:=F.ok (N:=["row"]) T.mo (zw K) (by bv_omega;exact bm (fX (bq (qu rfl) (by rfl) T.sum Cc (au (pec (show CmpOk ["row"] (ar lW) _ ["a", "b"] [none,none] from cH)) aL))))
theorem zn (F:Fd K "row_moved" lX f fd) (T:Txt P w K mg base):rL P w K mg base f fd:=F.ok (N:=["row", "by"]) T.mo (zz K) (by bv_omega;exact bm (fX (dZ bA (by rfl) T.tuple gv (au (pec (show CmpOk ["row", "by"] (ar lX) _ ["a", "b", "by"] [none,none,some 1] from cH)) aL))))
theorem FO (F:Fd K "row_of" vA f fd) (T:Txt P w K mg base):oQ P w K mg base f fd:=F.ok (N:=["pairs", "stretches", "a", "b"]) T.mo (FY K) (by bv_omega;exact aD (by and_intros) (aD (lO U5 rfl (vg (bq fe (by rfl) T.sorted jJ (au (pec (show CmpOk ["pairs", "stretches", "a", "b"] (ar vA) _ ["a", "b"] [none,none] from cH)) aL))) (by and_intros) (by and_intros)) (by and_intros)))
theorem nX (F:Fd K "rows_with_cells" fH f fd) (T:Txt P w K mg base):bQ P w K mg base f fd:=F.ok (N:=["rows"]) T.mo (n8 K) (by bv_omega;exact bm (fX (dZ bA (by rfl) T.tuple gv (au (pec (show CmpOk ["rows"] (ar fH) _ ["y", "row"] [none,none] from cH)) aL))))
theorem sR (F:Fd K "stretches_of" iP f fd) (T:Txt P w K mg base):e7 P w K mg base f fd:=F.ok (N:=["picture", "stretches", "y", "row"]) T.mo (sV K) (by bv_omega;exact aD (by and_intros) (aD (lO U5 rfl (by and_intros) (by and_intros) (bm (mw (Iv WK PySem.F.slot_list_extend PySem.F.type_list_extend D6 (pv 1) (au (pec (show CmpOk ["picture", "stretches", "y", "row"] (ar iP) _ ["a", "b", "y"] [none,none,some 2] from cH)) aL))))) (by and_intros)))
theorem sM (F:Fun K "__init__" "Box.__init__" iL f fd) (T:Txt P w K mg base) (AB_Form:oM P w K mg base c_Form f_Form___init__ dY):FnOk P w K mg base CX0 2 f fd ["self", "left", "up", "right", "down"] (kK K):=by refine F.ok sW (fun vs H Q E h=>h.1) (fun cdv A outer s H vs Q E hr h=>?_);exact⟨_,aD (Bq (ptc Ir (bq (ET rfl) (by rfl) T.min Cb (au (pv 1) (au (pv 2) (au (pv 3) (au (pv 4) aL))))) n5) re pH) (bm (mw (ke AB_Form.cf (by rfl) AB_Form.g AB_Form.G (hr.mono (by decide)) AB_Form.b vf (au (pv 0) (au (jB (au (jB (au (jB (au (Bi vQ (pv 1)) (au (Bi vQ (pv 2)) (au (pv 3) (au (pv 4) aL))))) aL)) aL)) aL))))),uC (zD (SE.p (Jo ND ((PU Mw (pQ (iQ 1) (pQ (iQ 2) (pQ (iQ 3) (pQ (iQ 4) Jw))))).p) ((s_c rfl).p)))) (nk (bn (nk (bn (nk (bn (Jp Bv (iQ 1)) (bn (Jp Bv (iQ 2)) (bn (si 3) (bn (si 4) gG))))) gG)) gG)) rfl h⟩
theorem pB (F:Fun K "__init__" "Cross.__init__" fY f fd) (T:Txt P w K mg base) (AB_Form:oM P w K mg base c_Form f_Form___init__ dY):FnOk P w K mg base CX0 2 f fd ["self", "arm"] (jq K):=by refine F.ok pM (fun vs H Q E h=>h.1) (fun cdv A outer s H vs Q E hr h=>?_);exact⟨_,aD (Bq (ptc Ir (pv 1) n5) re pH) (bm (mw (ke AB_Form.cf (by rfl) AB_Form.g AB_Form.G (hr.mono (by decide)) AB_Form.b vf (au (pv 0) (au (jB (au (jB (au (jB (au (Bi vQ (pv 1)) (au n5 (au (pv 1) (au n5 aL))))) (au (jB (au n5 (au (Bi vQ (pv 1)) (au n5 (au (pv 1) aL))))) aL))) aL)) aL))))),uC (zD (SE.p (Jo ND (iQ 1) ((s_c rfl).p)))) (nk (bn (nk (bn (nk (bn (Jp Bv (iQ 1)) (bn (s_c rfl) (bn (si 1) (bn (s_c rfl) gG))))) (bn (nk (bn (s_c rfl) (bn (Jp Bv (iQ 1)) (bn (s_c rfl) (bn (si 1) gG))))) gG))) gG)) rfl h⟩
theorem sP (F:Fun K "__init__" "Sum.__init__" iM f fd) (T:Txt P w K mg base) (hW:k6 P w K mg base uk sI) (AB_Form:oM P w K mg base c_Form f_Form___init__ dY):FnOk P w K mg base CX0 2 f fd ["self", "one", "other"] (kN K):=by refine F.ok sX (fun vs H Q E h=>h.1) (fun cdv A outer s H vs Q E hr h=>?_);exact⟨_,bm (mw (ke AB_Form.cf (by rfl) AB_Form.g AB_Form.G (hr.mono (by decide)) AB_Form.b vf (au (pv 0) (au (pcl hW hr (au (Ec tH (zq T.cN (pv 1) rfl) (zq T.cN (pv 2) rfl)) aL)) aL)))),Ff (C7 (E:=E0) (bn (Jo L7 ((Jk (si 1)).p) ((Jk (si 2)).p)) gG) (uI (fun _ _ h=>zc h))) rfl h⟩
theorem FI (F:Fd K "_law_cells" BD f fd) (T:Txt P w K mg base) (dw:ij P w K mg base j4 jc):Aa P w K mg base f fd:=F.ok (N:=["_law_script", "_law_cells_here", "_law_k", "_law_bits", "_law_j", "_law_x"]) T.mo (FT K)
theorem Ik (F:Fd K "_law_form" Ek f fd) (T:Txt P w K mg base) (dw:ij P w K mg base j4 jc):Dv P w K mg base f fd:=F.ok (N:=["_law_script", "_law_cells_here", "_law_k", "_law_cell", "_law_point"]) T.mo (II K)
theorem FJ (F:Fd K "_law_sieve" BE f fd) (T:Txt P w K mg base) (tM:tS P w K mg base Cs AD) (tN:tT P w K mg base Ct AE):Ab P w K mg base f fd:=F.ok (N:=["_law_cells_here", "_law_form_here", "_law_most", "_law_small", "_law_cell", "_law_counts", "_law_k", "_law_back", "_law_j"]) T.mo (FU K)
theorem qZ (F:Fd K "begun_between" kG f fd) (T:Txt P w K mg base) (f8:ju P w K mg base mX lh):kr P w K mg base f fd:=F.ok (N:=["pairs", "first", "last"]) T.mo (rc K)
theorem zl (F:Fd K "blocks_of" lV f fd) (T:Txt P w K mg base) (cz:e7 P w K mg base iz gA):rJ P w K mg base f fd:=F.ok (N:=["picture", "blocks", "a", "b", "y"]) T.mo (zu K) (by bv_omega;exact aD (by and_intros) (aD (lO U5 rfl (vg (bq fe (by rfl) T.sorted jJ (au (pec (show CmpOk ["picture", "blocks", "a", "b", "y"] (ar lV) _ ["y", "a", "b"] [none,none,none] from cH)) aL))) (by and_intros) (by and_intros)) (by and_intros)))
theorem u6 (F:Fd K "count_cells" jC f fd) (T:Txt P w K mg base) (rG:rK P w K mg base AB yV):mR P w K mg base f fd:=F.ok (N:=["picture"]) T.mo (vi K) (by bv_omega;exact bm (fX (bq (qu rfl) (by rfl) T.sum Cc (au (pec (show CmpOk ["picture"] (ar jC) _ ["y", "row"] [none,none] from cH)) aL))))
theorem Il (F:Fd K "moved" zC f fd) (T:Txt P w K mg base) (rH:rL P w K mg base AC yW):yF P w K mg base f fd:=F.ok (N:=["picture", "dx", "dy"]) T.mo (IJ K) (by bv_omega;exact bm (fX (dZ bA (by rfl) T.tuple gv (au (pec (show CmpOk ["picture", "dx", "dy"] (ar zC) _ ["y", "row", "dy", "dx"] [none,none,some 2,some 1] from cH)) aL))))
theorem wD (F:Fd K "picture_of" gZ f fd) (T:Txt P w K mg base) (gq:oQ P w K mg base ul qA):gN P w K mg base f fd:=F.ok (N:=["stretches", "pairs_by_row", "y", "a", "b"]) T.mo (wI K) (by bv_omega;exact aD (by and_intros) (aD (lO U5 rfl (vg (bq fe (by rfl) T.sorted jJ (au (pec (show CmpOk ["stretches", "pairs_by_row", "y", "a", "b"] (ar gZ) _ ["y", "a", "b"] [none,none,none] from cH)) aL))) (by and_intros) (by and_intros)) (bm (fX (dZ bA (by rfl) T.tuple gv (au (pec (show CmpOk ["stretches", "pairs_by_row", "y", "a", "b"] (ar gZ) _ ["y", "pairs"] [none,none] from cH)) aL))))))
theorem FN (F:Fd K "row_at" BF f fd) (T:Txt P w K mg base) (f8:ju P w K mg base mX lh):tV P w K mg base f fd:=F.ok (N:=["picture", "y", "begun"]) T.mo (FX K)
theorem wF (F:Fd K "row_either" fG f fd) (T:Txt P w K mg base) (gq:oQ P w K mg base ul qA):oP P w K mg base f fd:=F.ok (N:=["one", "other", "stretches", "changes"]) T.mo (wK K) (by bv_omega;exact aD (by and_intros) (aD (zA (i:=3) nd rfl (.inr rfl) (bq fe (by rfl) T.sorted jJ (au (Ec tH (pec (show CmpOk ["one", "other", "stretches", "changes"] (ar fG) _ ["a", "b"] [none,none] from cH)) (pec (show CmpOk ["one", "other", "stretches", "changes"] (ar fG) _ ["a", "b"] [none,none] from cH))) aL))) (bm (fX (pcl gq hr (au (pec (show CmpOk ["one", "other", "stretches", "changes"] (ar fG) _ ["k", "changes"] [none,some 3] from cH)) aL))))))
theorem wG (F:Fd K "row_shrunk" ki f fd) (T:Txt P w K mg base) (gq:oQ P w K mg base ul qA):oS P w K mg base f fd:=F.ok (N:=["row", "low", "high"]) T.mo (wL K) (by bv_omega;exact bm (fX (pcl gq hr (au (pec (show CmpOk ["row", "low", "high"] (ar ki) _ ["a", "b", "low", "high"] [none,none,some 1,some 2] from cH)) aL))))
theorem pD (F:Fun K "__init__" "Shape.__init__" fZ f fd) (T:Txt P w K mg base) (kS:rJ P w K mg base Ay yU) (AB_Form:oM P w K mg base c_Form f_Form___init__ dY):FnOk P w K mg base CX0 3 f fd ["self", "picture"] (jr K):=by refine F.ok pN (fun vs H Q E h=>h.1) (fun cdv A outer s H vs Q E hr h=>?_);exact⟨_,aD (Bq (ptc (Ip hr.units) (pv 1) (jB aL)) re pH) (bm (mw (ke AB_Form.cf (by rfl) AB_Form.g AB_Form.G (hr.mono (by decide)) AB_Form.b vf (au (pv 0) (au (jB (au (pcl kS hr (au (pv 1) aL)) aL)) aL))))),uC (zD (SE.p (Jo (Pz false) (iQ 1) ((nk gG).p)))) (nk (bn (C7 (E:=E0) (bn (si 1) gG) (uI (fun _ _ h=>zc h))) gG)) rfl h⟩
theorem FM (F:Fd K "common" vx f fd) (T:Txt P w K mg base) (aI:bQ P w K mg base dm cQ) (gK:jW P w K mg base o8 mY) (oB:tV P w K mg base AA xD):tU P w K mg base f fd:=F.ok (N:=["one", "other"]) T.mo (FW K) (by bv_omega;exact bm (fX (pcl aI hr (au (pec (show CmpOk ["one", "other"] (ar vx) _ ["y", "row", "other"] [none,none,some 1] from cH)) aL))))
theorem KP (F:Fd K "join" Jm f fd) (T:Txt P w K mg base) (dW:gN P w K mg base j5 jv) (cz:e7 P w K mg base iz gA):B7 P w K mg base f fd:=F.ok (N:=["one", "other"]) T.mo (K5 K)
theorem CU (F:Fd K "reached" rn f fd) (T:Txt P w K mg base) (kq:kr P w K mg base sE qz) (aI:bQ P w K mg base dm cQ):w9 P w K mg base f fd:=F.ok (N:=["picture", "box", "block", "rows"]) T.mo (C2 K) (by bv_omega;exact aD (by and_intros) (bm (fX (pcl aI hr (au (pec (show CmpOk ["picture", "box", "block", "rows"] (ar rn) _ ["y", "row", "box", "block"] [none,none,some 1,some 2] from cH)) aL)))))
theorem Bf (F:Fd K "row_less" vz f fd) (T:Txt P w K mg base) (oE:oP P w K mg base yS wq) (gK:jW P w K mg base o8 mY):tW P w K mg base f fd:=F.ok (N:=["one", "other"]) T.mo (Bo K)
theorem KQ (F:Fd K "less" C8 f fd) (T:Txt P w K mg base) (aI:bQ P w K mg base dm cQ) (tO:tW P w K mg base Cu AG) (oB:tV P w K mg base AA xD):GM P w K mg base f fd:=F.ok (N:=["one", "other"]) T.mo (K6 K) (by bv_omega;exact bm (fX (pcl aI hr (au (pec (show CmpOk ["one", "other"] (ar C8) _ ["y", "row", "other"] [none,none,some 1] from cH)) aL))))
theorem u8 (F:Fd K "shrunk_down" nh f fd) (T:Txt P w K mg base) (oA:tU P w K mg base Az xA) (s9:yF P w K mg base DH AF):mS P w K mg base f fd:=F.ok (N:=["picture", "by", "done", "step"]) T.mo (vk K)
theorem u9 (F:Fd K "spread_down" ni f fd) (T:Txt P w K mg base) (yx:B7 P w K mg base Hg DJ) (s9:yF P w K mg base DH AF):mT P w K mg base f fd:=F.ok (N:=["picture", "by", "done", "step"]) T.mo (vm K)
theorem KO (F:Fd K "fold" Jl f fd) (T:Txt P w K mg base) (A_Shape:yE P w K mg base c_Shape cI jd) (A_Sum:LM P w K mg base c_Sum fi sH):GL P w K mg base f fd:=F.ok (N:=["form", "many", "folded", "again"]) T.mo (K4 K)
theorem mF (F:Fd K "greater_by_block" eR f fd) (T:Txt P w K mg base) (cz:e7 P w K mg base iz gA) (mP:mT P w K mg base wn uq) (dW:gN P w K mg base j5 jv):ik P w K mg base f fd:=F.ok (N:=["picture", "block", "wide"]) T.mo (mH K) (by bv_omega;exact aD (Lb (i:=2) (hN:=nd) (hi0:=rfl) (hx:=Or.inl rfl) (ck:=(show CmpOk ["picture", "block", "wide"] (ar eR) _ ["y", "a", "b", "block"] [none,none,none,some 1] from cH)) (hi:=(by and_intros)) (hg:=fun _=>(by and_intros)) (hs:=(by and_intros)) (ht:=fun _=>zt) (he:=fun _=>(by and_intros))) (by and_intros))
theorem mG (F:Fd K "smaller_by_block" eS f fd) (T:Txt P w K mg base) (aI:bQ P w K mg base dm cQ) (oG:oS P w K mg base yT wt) (mO:mS P w K mg base wm uo):il P w K mg base f fd:=F.ok (N:=["picture", "block", "narrow"]) T.mo (mI K) (by bv_omega;exact aD (pst 2 nd (pcl aI hr (au (pec (show CmpOk ["picture", "block", "narrow"] (ar eS) _ ["y", "row", "block"] [none,none,some 1] from cH)) aL))) (by and_intros))
theorem nW (F:Fd K "greater_by_part" jm f fd) (T:Txt P w K mg base) (hV:ik P w K mg base nF mB) (dW:gN P w K mg base j5 jv):i6 P w K mg base f fd:=F.ok (N:=["picture", "blocks", "stretches", "block"]) T.mo (n6 K)
theorem nY (F:Fd K "smaller_by_part" jn f fd) (T:Txt P w K mg base) (hZ:il P w K mg base nG mD) (oA:tU P w K mg base Az xA) (wY:w9 P w K mg base E5 Cw) (zW:Ac P w K mg base Hf E8):i7 P w K mg base f fd:=F.ok (N:=["picture", "blocks", "kept", "block"]) T.mo (n9 K)
theorem sN (F:Fun K "greater" "Form.greater" lS f fd) (T:Txt P w K mg base) (iZ:i6 P w K mg base o7 nH):FnOk P w K mg base CX0 7 f fd ["self", "picture"] (kL K):=F.okm (N:=["self", "picture", "blocks"]) (sS K)
theorem sO (F:Fun K "smaller" "Form.smaller" lU f fd) (T:Txt P w K mg base) (i4:i7 P w K mg base o9 nI):FnOk P w K mg base CX0 7 f fd ["self", "picture"] (kM K):=F.okm (N:=["self", "picture", "blocks"]) (sT K)
theorem vd (F:Fd K "taken_apart" nj f fd) (T:Txt P w K mg base) (Gz:GM P w K mg base MH Kp) (kR:kZ P w K mg base f_Form_smaller sG) (eZ:ii P w K mg base f_Form_greater kt):mU P w K mg base f fd:=F.ok (N:=["picture", "form", "most", "layers", "left", "smaller"]) T.mo (vn K)
theorem Im (F:Fd K "sieve" Em f fd) (T:Txt P w K mg base) (mQ:mU P w K mg base wo ur) (yx:B7 P w K mg base Hg DJ) (Gy:GL P w K mg base MG Ko) (mN:mR P w K mg base wl um) (eZ:ii P w K mg base f_Form_greater kt):yG P w K mg base f fd:=F.ok (N:=["picture", "form", "most", "layers", "counts", "opened", "many"]) T.mo (IK K)
theorem wC (F:Fd K "_law_rectangle" kh f fd) (T:Txt P w K mg base) (dw:ij P w K mg base j4 jc) (tf:yG P w K mg base DI AH) (A_Box:LL P w K mg base c_Box fh sF):oO P w K mg base f fd:=F.ok (N:=["_law_script", "_law_wide", "_law_high", "_law_sides", "_law_most", "_law_due", "_law_k", "_law_fits", "_law_picture"]) T.mo (wH K) (by bv_omega;exact aD (by and_intros) (aD (by and_intros) (aD (by and_intros) (aD (by and_intros) (aD (by and_intros) (aD (by and_intros) (aD (by and_intros) (aD (pst 8 nd (dZ bA (by rfl) T.tuple gv (au (pec (show CmpOk ["_law_script", "_law_wide", "_law_high", "_law_sides", "_law_most", "_law_due", "_law_k", "_law_fits", "_law_picture"] (ar kh) _ ["_law_y", "_law_wide"] [none,some 1] from cH)) aL))) (by and_intros)))))))))
theorem M7 (F:Fd K "law" L9 f fd) (T:Txt P w K mg base) (zU:Aa P w K mg base Hc E6) (Ds:Dv P w K mg base Kn Hh) (dw:ij P w K mg base j4 jc) (wX:wZ P w K mg base E4 Cv) (zV:Ab P w K mg base He E7) (tf:yG P w K mg base DI AH) (oz:oO P w K mg base yR wp) (A_Shape:yE P w K mg base c_Shape cI jd) (A_Cross:Du P w K mg base c_Cross dX pb):OG P w K mg base f fd:=F.ok (N:=["_law_script", "_law_cells_here", "_law_form_here", "_law_most", "_law_picture", "_law_shape", "_law_due", "_law_found", "_law_k"]) T.mo (Nr K)
end
theorem Mq {l:OpenLaw}{w:World}{K:Frag}{h:Heap}{mg:Str->Option Value}{fa:Addr}(X:K.In h)(G:h.Ns mainGlobals mg)(hfa:mg "law" = some (.ref fa))
  {g_ONE_CELL_0:Addr} {od_ONE_CELL_0:Option Addr} {n_ONE_CELL_0:Nat} {sl_ONE_CELL_0:Array (Option Value)}
  {g_ONE_CELL_1:Addr} {od_ONE_CELL_1:Option Addr} {n_ONE_CELL_1:Nat} {sl_ONE_CELL_1:Array (Option Value)}
  {t_ONE_CELL_1_0:Tok}
  {g_ONE_CELL_2:Addr} {od_ONE_CELL_2:Option Addr} {n_ONE_CELL_2:Nat} {sl_ONE_CELL_2:Array (Option Value)}
  {g_ONE_CELL_3:Addr} {od_ONE_CELL_3:Option Addr} {n_ONE_CELL_3:Nat} {sl_ONE_CELL_3:Array (Option Value)}
  {t_ONE_CELL_3_0:Tok}
  {t_ONE_CELL_3_1:Tok}
  (n_Box:nsIn K mainGlobals "Box" = some (some (.ref c_Box)))
  (n_Cross:nsIn K mainGlobals "Cross" = some (some (.ref c_Cross)))
  (n_Shape:nsIn K mainGlobals "Shape" = some (some (.ref c_Shape)))
  (n_Sum:nsIn K mainGlobals "Sum" = some (some (.ref c_Sum)))
  (n_Form:nsIn K mainGlobals "Form" = some (some (.ref c_Form)))
  (Gw:findIn K (.ref c_Form) "__init__" = some (some (.ref f_Form___init__)))
  (Gx:isFn K (.ref f_Form___init__)=true)
  (GN:findIn K (.ref c_Box) "greater" = some (some (.ref f_Form_greater)))
  (fj:isFn K (.ref f_Form_greater)=true)
  (GO:findIn K (.ref c_Box) "smaller" = some (some (.ref f_Form_smaller)))
  (fk:isFn K (.ref f_Form_smaller)=true)
  (a_Form_opened:findIn K (.ref c_Box) "opened" = some (some (.ref f_Form_opened)))
  (i_Form_opened:isFn K (.ref f_Form_opened)=true)
  (tY:findIn K (.ref c_Box) "__init__" = some (some (.ref fh)))
  (uA:isFn K (.ref fh)=true)
  (p6:findIn K (.ref c_Cross) "__init__" = some (some (.ref dX)))
  (qE:isFn K (.ref dX)=true)
  (p7:findIn K (.ref c_Shape) "__init__" = some (some (.ref cI)))
  (qF:isFn K (.ref cI)=true)
  (tZ:findIn K (.ref c_Sum) "__init__" = some (some (.ref fi)))
  (uB:isFn K (.ref fi)=true)
  (gz:Fun K "__init__" "Form.__init__" gF f_Form___init__ dY)
  (cF:Fun K "greater" "Form.greater" lS f_Form_greater kt)
  (cG:Fun K "smaller" "Form.smaller" lU f_Form_smaller sG)
  (F_Form_opened:Fun K "opened" "Form.opened" wM f_Form_opened fd_Form_opened)
  (kU:Fun K "__init__" "Box.__init__" iL fh sF)
  (jE:Fun K "__init__" "Cross.__init__" fY dX pb)
  (jF:Fun K "__init__" "Shape.__init__" fZ cI jd)
  (kW:Fun K "__init__" "Sum.__init__" iM fi sH)
  (GG:Fd K "row_of" vA ul qA)
  (wa:Fd K "count_up_to" nc mX lh)
  (yA:Fd K "row_common" pL o8 mY)
  (B5:Fd K "row_less" vz Cu AG)
  (yB:Fd K "row_either" fG yS wq)
  (zY:Fd K "row_count" lW AB yV)
  (zZ:Fd K "row_moved" lX AC yW)
  (yC:Fd K "row_shrunk" ki yT wt)
  (yz:Fd K "picture_of" gZ j5 jv)
  (tR:Fd K "stretches_of" iP iz gA)
  (GF:Fd K "row_at" BF AA xD)
  (oI:Fd K "rows_with_cells" fH dm cQ)
  (Mf:Fd K "join" Jm Hg DJ)
  (GD:Fd K "common" vx Az xA)
  (Mg:Fd K "less" C8 MH Kp)
  (v9:Fd K "count_cells" jC wl um)
  (GC:Fd K "box_of" pK Hf E8)
  (J5:Fd K "moved" zC DH AF)
  (zX:Fd K "blocks_of" lV Ay yU)
  (tQ:Fd K "parts_of_sum" dS uk sI)
  (wc:Fd K "spread_down" ni wn uq)
  (wb:Fd K "shrunk_down" nh wm uo)
  (nr:Fd K "greater_by_block" eR nF mB)
  (oH:Fd K "greater_by_part" jm o7 nH)
  (nt:Fd K "smaller_by_block" eS nG mD)
  (oJ:Fd K "smaller_by_part" jn o9 nI)
  (ED:Fd K "reached" rn E5 Cw)
  (sr:Fd K "begun_between" kG sE qz)
  (Me:Fd K "fold" Jl MG Ko)
  (wd:Fd K "taken_apart" nj wo ur)
  (J6:Fd K "sieve" Em DI AH)
  (B2:Fd K "_law_cell_at" vt j4 jc)
  (GA:Fd K "_law_cells" BD Hc E6)
  (J4:Fd K "_law_form" Ek Kn Hh)
  (EC:Fd K "_law_points" rk E4 Cv)
  (B4:Fd K "_law_smaller" oi Ct AE)
  (B3:Fd K "_law_greater" vw Cs AD)
  (GB:Fd K "_law_sieve" BE He E7)
  (yy:Fd K "_law_rectangle" kh yR wp)
  (GE:Fd K "law" L9 RT MI)
  (pg_Box:plainGet K c_Box Str.empty=true)
  (hd_Box:hasDictIn K c_Box=true)
  (po_Box:plainOver K c_Box=true)
  (sa_Box:findIn K (.ref c_Box) "__setattr__" = some (some (.builtin "object.__setattr__")))
  (mk_Box:makesIn K c_Box=true)
  (kc_Box:keepIn K (.ref c_Box)=true)
  (np_Box:findIn K (.ref c_Box) "parts" = some none)
  (mm_Box_greater:findIn K (.ref c_Box) "greater" = some (some (.ref f_Form_greater)))
  (mm_Box_smaller:findIn K (.ref c_Box) "smaller" = some (some (.ref f_Form_smaller)))
  (mm_Box_opened:findIn K (.ref c_Box) "opened" = some (some (.ref f_Form_opened)))
  (pg_Cross:plainGet K c_Cross Str.empty=true)
  (hd_Cross:hasDictIn K c_Cross=true)
  (po_Cross:plainOver K c_Cross=true)
  (sa_Cross:findIn K (.ref c_Cross) "__setattr__" = some (some (.builtin "object.__setattr__")))
  (mk_Cross:makesIn K c_Cross=true)
  (kc_Cross:keepIn K (.ref c_Cross)=true)
  (np_Cross:findIn K (.ref c_Cross) "parts" = some none)
  (mm_Cross_greater:findIn K (.ref c_Cross) "greater" = some (some (.ref f_Form_greater)))
  (mm_Cross_smaller:findIn K (.ref c_Cross) "smaller" = some (some (.ref f_Form_smaller)))
  (mm_Cross_opened:findIn K (.ref c_Cross) "opened" = some (some (.ref f_Form_opened)))
  (pg_Shape:plainGet K c_Shape Str.empty=true)
  (hd_Shape:hasDictIn K c_Shape=true)
  (po_Shape:plainOver K c_Shape=true)
  (sa_Shape:findIn K (.ref c_Shape) "__setattr__" = some (some (.builtin "object.__setattr__")))
  (mk_Shape:makesIn K c_Shape=true)
  (kc_Shape:keepIn K (.ref c_Shape)=true)
  (np_Shape:findIn K (.ref c_Shape) "parts" = some none)
  (mm_Shape_greater:findIn K (.ref c_Shape) "greater" = some (some (.ref f_Form_greater)))
  (mm_Shape_smaller:findIn K (.ref c_Shape) "smaller" = some (some (.ref f_Form_smaller)))
  (mm_Shape_opened:findIn K (.ref c_Shape) "opened" = some (some (.ref f_Form_opened)))
  (pg_Sum:plainGet K c_Sum Str.empty=true)
  (hd_Sum:hasDictIn K c_Sum=true)
  (po_Sum:plainOver K c_Sum=true)
  (sa_Sum:findIn K (.ref c_Sum) "__setattr__" = some (some (.builtin "object.__setattr__")))
  (mk_Sum:makesIn K c_Sum=true)
  (kc_Sum:keepIn K (.ref c_Sum)=true)
  (np_Sum:findIn K (.ref c_Sum) "parts" = some none)
  (mm_Sum_greater:findIn K (.ref c_Sum) "greater" = some (some (.ref f_Form_greater)))
  (mm_Sum_smaller:findIn K (.ref c_Sum) "smaller" = some (some (.ref f_Form_smaller)))
  (mm_Sum_opened:findIn K (.ref c_Sum) "opened" = some (some (.ref f_Form_opened)))
  (bs_Form:specialIn K (.ref c_Form) "__getattribute__" = some (some (.builtin "type.__getattribute__")))
  (br_Form:readsIn K c_Form (.type "type")=true)
  (bf_Form:findCls K (.ref c_Form) (.type "type") "__init__" = some (.val (.ref f_Form___init__)))
  (z_all:nsIn K mainGlobals "all" = some none)
  (z_bool:nsIn K mainGlobals "bool" = some none)
  (z_int:nsIn K mainGlobals "int" = some none)
  (z_isinstance:nsIn K mainGlobals "isinstance" = some none)
  (z_len:nsIn K mainGlobals "len" = some none)
  (z_list:nsIn K mainGlobals "list" = some none)
  (z_max:nsIn K mainGlobals "max" = some none)
  (z_min:nsIn K mainGlobals "min" = some none)
  (z_range:nsIn K mainGlobals "range" = some none)
  (z_reversed:nsIn K mainGlobals "reversed" = some none)
  (z_sorted:nsIn K mainGlobals "sorted" = some none)
  (z_sum:nsIn K mainGlobals "sum" = some none)
  (z_tuple:nsIn K mainGlobals "tuple" = some none)
  (y_ONE_CELL:nsIn K mainGlobals "ONE_CELL" = some (some (.ref g_ONE_CELL_0)))
  (v_ONE_CELL_0:K.lookup g_ONE_CELL_0=some ⟨.type "tuple",od_ONE_CELL_0,.seq #[.ref g_ONE_CELL_1] n_ONE_CELL_0,sl_ONE_CELL_0⟩)
  (v_ONE_CELL_1:K.lookup g_ONE_CELL_1=some ⟨.type "tuple",od_ONE_CELL_1,.seq #[.int (0) t_ONE_CELL_1_0,.ref g_ONE_CELL_2] n_ONE_CELL_1,sl_ONE_CELL_1⟩)
  (v_ONE_CELL_2:K.lookup g_ONE_CELL_2=some ⟨.type "tuple",od_ONE_CELL_2,.seq #[.ref g_ONE_CELL_3] n_ONE_CELL_2,sl_ONE_CELL_2⟩)
  (v_ONE_CELL_3:K.lookup g_ONE_CELL_3=some ⟨.type "tuple",od_ONE_CELL_3,.seq #[.int (0) t_ONE_CELL_3_0,.int (0) t_ONE_CELL_3_1] n_ONE_CELL_3,sl_ONE_CELL_3⟩)
  : ∃fd:FuncData,(∀(s:Shared) (v:Value),BindsTo s fd ⟨[v],[]⟩ [("_law_script",v)])/\∀base:Heap,K.In base->base.Ns mainGlobals mg->FnOk l.prog w K mg base CX0 11 fa fd ["_law_script"] (zH K):=by
 have e:=hfa.symm.trans (mg_of X G GE.a);cases e;have sC:tP K NS fun C=>Cls K C/\Meth K C "greater" f_Form_greater:=ba n_Box ⟨⟨pg_Box,hd_Box,po_Box,sa_Box⟩,⟨mm_Box_greater,fj,cF.kp⟩⟩ (ba n_Cross ⟨⟨pg_Cross,hd_Cross,po_Cross,sa_Cross⟩,⟨mm_Cross_greater,fj,cF.kp⟩⟩ (ba n_Shape ⟨⟨pg_Shape,hd_Shape,po_Shape,sa_Shape⟩,⟨mm_Shape_greater,fj,cF.kp⟩⟩ (ba n_Sum ⟨⟨pg_Sum,hd_Sum,po_Sum,sa_Sum⟩,⟨mm_Sum_greater,fj,cF.kp⟩⟩ (oY))));have sD:tP K NS fun C=>Cls K C/\Meth K C "smaller" f_Form_smaller:=ba n_Box ⟨⟨pg_Box,hd_Box,po_Box,sa_Box⟩,⟨mm_Box_smaller,fk,cG.kp⟩⟩ (ba n_Cross ⟨⟨pg_Cross,hd_Cross,po_Cross,sa_Cross⟩,⟨mm_Cross_smaller,fk,cG.kp⟩⟩ (ba n_Shape ⟨⟨pg_Shape,hd_Shape,po_Shape,sa_Shape⟩,⟨mm_Shape_smaller,fk,cG.kp⟩⟩ (ba n_Sum ⟨⟨pg_Sum,hd_Sum,po_Sum,sa_Sum⟩,⟨mm_Sum_smaller,fk,cG.kp⟩⟩ (oY))));have cm_Form_opened:tP K NS fun C=>Cls K C/\Meth K C "opened" f_Form_opened:=ba n_Box ⟨⟨pg_Box,hd_Box,po_Box,sa_Box⟩,⟨mm_Box_opened,i_Form_opened,F_Form_opened.kp⟩⟩ (ba n_Cross ⟨⟨pg_Cross,hd_Cross,po_Cross,sa_Cross⟩,⟨mm_Cross_opened,i_Form_opened,F_Form_opened.kp⟩⟩ (ba n_Shape ⟨⟨pg_Shape,hd_Shape,po_Shape,sa_Shape⟩,⟨mm_Shape_opened,i_Form_opened,F_Form_opened.kp⟩⟩ (ba n_Sum ⟨⟨pg_Sum,hd_Sum,po_Sum,sa_Sum⟩,⟨mm_Sum_opened,i_Form_opened,F_Form_opened.kp⟩⟩ (oY))));have M_Box:Mk K c_Box fh:=⟨mk_Box,tY,uA,kc_Box⟩
 have M_Cross:Mk K c_Cross dX:=⟨mk_Cross,p6,qE,kc_Cross⟩
 have M_Shape:Mk K c_Shape cI:=⟨mk_Shape,p7,qF,kc_Shape⟩
 have M_Sum:Mk K c_Sum fi:=⟨mk_Sum,tZ,uB,kc_Sum⟩
 have cf_Form:ClsFn K c_Form "__init__" f_Form___init__:=⟨bs_Form,br_Form,bf_Form,gz.kp⟩
 obtain⟨_,_,_,_,_,_,_,_,_,hfd,_⟩:=GE.F.ex;refine⟨MI,fun s v=>.of_eq (by rw[hfd];rfl),fun base _ _=>?_⟩;have T:Txt l.prog w K mg base:=⟨fun _ _=>mg_of X G,Uz X G z_all,Uz X G z_bool,Uz X G z_int,Uz X G z_isinstance,Uz X G z_len,Uz X G z_list,Uz X G z_max,Uz X G z_min,Uz X G z_range,Uz X G z_reversed,Uz X G z_sorted,Uz X G z_sum,Uz X G z_tuple,⟨_,.ref _,mg_of X G y_ONE_CELL,rfl,fun S=>o5 (xs:=[.ref g_ONE_CELL_1]) v_ONE_CELL_0 rfl rfl (T1 (show 1<=1000 by decide) (by rw[Uj];decide)) (.cons rfl (.nil)) (fun S=>Dens.cons (o5 (xs:=[.int (0),.ref g_ONE_CELL_2]) v_ONE_CELL_1 rfl rfl (T1 (show 2<=1000 by decide) (by rw[Uj];decide)) (.cons ⟨_,rfl⟩ (.cons rfl (.nil))) (fun S=>Dens.cons (den_int.mpr rfl) (Dens.cons (o5 (xs:=[.ref g_ONE_CELL_3]) v_ONE_CELL_2 rfl rfl (T1 (show 1<=1000 by decide) (by rw[Uj];decide)) (.cons rfl (.nil)) (fun S=>Dens.cons (o5 (xs:=[.int (0),.int (0)]) v_ONE_CELL_3 rfl rfl (T1 (show 2<=1000 by decide) (by rw[Uj];decide)) (.cons ⟨_,rfl⟩ (.cons ⟨_,rfl⟩ (.nil))) (fun S=>Dens.cons (den_int.mpr rfl) (Dens.cons (den_int.mpr rfl) (Dens.nil))) S) (Dens.nil)) S) (Dens.nil))) S) (Dens.nil)) S⟩,ba n_Box ⟨⟨pg_Box,hd_Box,po_Box,sa_Box⟩,np_Box⟩ (ba n_Cross ⟨⟨pg_Cross,hd_Cross,po_Cross,sa_Cross⟩,np_Cross⟩ (ba n_Shape ⟨⟨pg_Shape,hd_Shape,po_Shape,sa_Shape⟩,np_Shape⟩ (ba n_Sum ⟨⟨pg_Sum,hd_Sum,po_Sum,sa_Sum⟩,np_Sum⟩ (oY))))⟩
 have AB_Form:oM l.prog w K mg base _ _ _:=⟨qY gz T,gz.binds fun _ _ _ _ _ _ us hl=>by obtain⟨_,_,rfl⟩:=us2 hl;rfl,cf_Form,mg_of X G n_Form⟩
 have dw:=Ba B2 T;have tM:=Bd B3 T;have wX:=CT EC T;have tN:=Be B4 T;have zW:=FK GC T;have f8:=u7 wa T;have hW:=sQ tQ T;have gK:=wE yA T;have rG:=zm zY T;have rH:=zn zZ T;have gq:=FO GG T;have aI:=nX oI T;have cz:=sR tR T;have A_Box:LL l.prog w K mg base _ _ _:=⟨sM kU T AB_Form,kU.binds fun _ _ _ _ _ _ us hl=>by obtain⟨_,_,_,_,_,rfl⟩:=us5 hl;rfl,n_Box,M_Box,mg_of X G n_Box⟩
 have A_Cross:Du l.prog w K mg base _ _ _:=⟨pB jE T AB_Form,jE.binds fun _ _ _ _ _ _ us hl=>by obtain⟨_,_,rfl⟩:=us2 hl;rfl,n_Cross,M_Cross,mg_of X G n_Cross⟩
 have A_Sum:LM l.prog w K mg base _ _ _:=⟨sP kW T hW AB_Form,kW.binds fun _ _ _ _ _ _ us hl=>by obtain⟨_,_,_,rfl⟩:=us3 hl;rfl,n_Sum,M_Sum,mg_of X G n_Sum⟩
 have zU:=FI GA T dw;have Ds:=Ik J4 T dw;have zV:=FJ GB T tM tN;have kq:=qZ sr T f8;have kS:=zl zX T cz;have mN:=u6 v9 T rG;have s9:=Il J5 T rH;have dW:=wD yz T gq;have oB:=FN GF T f8;have oE:=wF yB T gq;have oG:=wG yC T gq;have A_Shape:yE l.prog w K mg base _ _ _:=⟨pD jF T kS AB_Form,jF.binds fun _ _ _ _ _ _ us hl=>by obtain⟨_,_,rfl⟩:=us2 hl;rfl,n_Shape,M_Shape,mg_of X G n_Shape⟩
 have oA:=FM GD T aI gK oB;have yx:=KP Mf T dW cz;have wY:=CU ED T kq aI;have tO:=Bf B5 T oE gK;have Gz:=KQ Mg T aI tO oB;have mO:=u8 wb T oA s9;have mP:=u9 wc T yx s9;have Gy:=KO Me T A_Shape A_Sum;have hV:=mF nr T cz mP dW;have hZ:=mG nt T aI oG mO;have iZ:=nW oH T hV dW;have i4:=nY oJ T hZ oA wY zW;have eZ:ii l.prog w K mg base _ _:=⟨sN cF T iZ,cF.binds fun _ _ _ _ _ _ us hl=>by obtain⟨_,_,rfl⟩:=us2 hl;rfl,sC⟩
 have kR:kZ l.prog w K mg base _ _:=⟨sO cG T i4,cG.binds fun _ _ _ _ _ _ us hl=>by obtain⟨_,_,rfl⟩:=us2 hl;rfl,sD⟩
 have mQ:=vd wd T Gz kR eZ;have tf:=Im J6 T mQ yx Gy mN eZ;have oz:=wC yy T dw tf A_Box;exact (M7 GE T zU Ds dw wX zV tf oz A_Shape A_Cross).G
theorem Rv {l:OpenLaw}{q:Program}{loose:List Str}{XP:(Str->Option Value)->Heap->Prop}{YP:World->Heap->Prop}{d:DefRec}{K:Params->Frag}(hn:l.most=some 63)(hdf:d.params.defaults=[])
  (hY:∀(w:World) (h:Heap),YP w h->(K w.params).In h)
  (F:∀(w:World) (mg:Str->Option Value) (fa:Addr) (h:Heap),(K w.params).In h->h.Ns mainGlobals mg->mg d.name=some (.ref fa) ->
   ∃fd:FuncData,(∀(s:Shared) (u:Value),BindsTo s fd ⟨[u],[]⟩ [("_law_script",u)])/\∀base:Heap,(K w.params).In base->base.Ns mainGlobals mg->FnOk l.prog w (K w.params) mg base CX0 11 fa fd ["_law_script"] (zH (K w.params))) :
  WalkO q loose XP YP l.row.toRowW d [] (fun f vs=>PySem.call f vs):=
 L2.LH (n:=63) (k:=11) (x := "_law_script") (CX:=fun _=>CX0) (sp:=fun w=>zH (K w.params)) hn (by decide) hdf ⟨rfl,by decide,by decide⟩ hY F (fun _ H a ns hl _ hS=>M.Gf hS (HR ns hl)) fun _ _ _ _ _ z=>z
end Lw
open PySem PySem.W PyProof.Rows
set_option maxRecDepth 100000 in
set_option maxHeartbeats 0 in
theorem PySem.Challenge.cw_shapethin_k62_sieves_holds : PySem.Challenge.rw_shapethin_k62_sieves.Holds := by
 w_on;refine holds_law Hd.e2 fun said=>?_
 refine holds_open (q:=Hd.q) (XP:=XL Hd.q []) (YP:=Hook.says Hd.H) (N:=100000) Hd.e1 (Hook.of Hd.H) (Hook.keeps Hd.H) (fun s e=>xl_of s (WC.mp e).1) XL.keeps (by rfl) (by rfl) (by rfl) (fun s e=>recFacts_of (WC.mp e).2) (by rfl) (by assumption) (by decide +kernel) ⟨rfl,rfl,rfl,rfl,rfl,by decide +kernel⟩ ?hw ?hc
 case hw=>w_witness2
 refine Lw.Rv (l := PySem.Challenge.rw_shapethin_k62_sieves) rfl rfl (fun w h Y => kIn_of Y) ?F
 case F=>
  intro w mg fa h KX G hmg;refine' Lw.Mq KX G hmg ?x0 ?x1 ?x2 ?x3 ?x4 ?x5 ?x6 ?x7 ?x8 ?x9 ?x10 ?x11 ?x12 ?x13 ?x14 ?x15 ?x16 ?x17 ?x18 ?x19 ?x20 ?x21 ?x22 ?x23 ?x24 ?x25 ?x26 ?x27 ?x28 ?x29 ?x30 ?x31 ?x32 ?x33 ?x34 ?x35 ?x36 ?x37 ?x38 ?x39 ?x40 ?x41 ?x42 ?x43 ?x44 ?x45 ?x46 ?x47 ?x48 ?x49 ?x50 ?x51 ?x52 ?x53 ?x54 ?x55 ?x56 ?x57 ?x58 ?x59 ?x60 ?x61 ?x62 ?x63 ?x64 ?x65 ?x66 ?x67 ?x68 ?x69 ?x70 ?x71 ?x72 ?x73 ?x74 ?x75 ?x76 ?x77 ?x78 ?x79 ?x80 ?x81 ?x82 ?x83 ?x84 ?x85 ?x86 ?x87 ?x88 ?x89 ?x90 ?x91 ?x92 ?x93 ?x94 ?x95 ?x96 ?x97 ?x98 ?x99 ?x100 ?x101 ?x102 ?x103 ?x104 ?x105 ?x106 ?x107 ?x108 ?x109 ?x110 ?x111 ?x112 ?x113 ?x114 ?x115 ?x116 ?x117 ?x118 ?x119 ?x120 ?x121 ?x122 ?x123 ?x124 ?x125 ?x126 ?x127 ?x128 ?x129
  case x0|x1|x2|x3|x4|x5|x6|x7|x8|x9|x10|x11|x12|x13|x14|x15|x16|x17|x18|x19|x20=>k_is
  case x21|x22|x23|x24|x25|x26|x27|x28=>exact L2.Ho (by k_is) (by k_is) (by k_is)
  case x29|x30|x31|x32|x33|x34|x35|x36|x37|x38|x39|x40|x41|x42|x43|x44|x45|x46|x47|x48|x49|x50|x51|x52|x53|x54|x55|x56|x57|x58|x59|x60|x61|x62|x63|x64|x65|x66|x67|x68=>exact⟨by k_is,L2.Ho (by k_is) (by k_is) (by k_is)⟩
  case x69|x70|x71|x72|x73|x74|x75|x76|x77|x78|x79|x80|x81|x82|x83|x84|x85|x86|x87|x88|x89|x90|x91|x92|x93|x94|x95|x96|x97|x98|x99|x100|x101|x102|x103|x104|x105|x106|x107|x108|x109|x110|x111|x112|x113|x114|x115|x116|x117|x118|x119|x120|x121|x122|x123|x124|x125|x126|x127|x128|x129=>k_is

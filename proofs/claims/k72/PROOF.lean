import PyProof.Rows.All
import Wide.All
import OpenK.AllK
import Wide.FinOn
import Lean
import PyProof.EqAt
import PyProof.EqKinds
import PyProof.TupleCall
import PySem.Challenge.RW_shapethin_k72_rows_refused_in_order
set_option genSizeOf false
set_option bootstrap.genMatcherCode false
set_option compiler.extract_closed false
set_option linter.all false
set_option maxHeartbeats 4000000
set_option maxRecDepth 100000
def Ut:=@PySem.wpAny_bind
def Uu:=@if_neg
def Uv:=@if_pos
def Uw:=@PySem.wpAny_pure
def Ux:=@Nat.le_refl
def Uy:=@PySem.W.mg_of
def Uz:=@PySem.Heap.get?_push_of_some
def UA:=@PySem.Heap.lt_size
def UB:=@Ne.symm
def UC:=@List.mem_cons
def UD:=@Nat.le_trans
def UE:=@List.mem_append_right
def UF:=@PySem.sizeLine_eq
def UG:=@List.map_cons
def UH:=@Nat.ne_of_lt
def UI:=@List.length_cons
def UJ:=@List.mem_cons_of_mem
def UK:=@PySem.Heap.get?_push_size
def UL:=@List.mem_cons_self
def UM:=@List.size_toArray
def UN:=@List.length_map
def UO:=@PySem.wpAny_mono
def UP:=@Nat.lt_of_lt_of_le
def UQ:=@List.getElem?_set_ne
def UR:=@Nat.zero_le
def US:=@PySem.wpAny_field
def UT:=@PySem.F.plainAttrs_str
def UU:=@decide_eq_false
def UV:=@List.mem_singleton
def UW:=@List.mem_append_left
def UX:=@List.getElem?_eq_some_iff
def UY:=@PySem.wpAny_holding
def UZ:=@Bool.and_eq_true
def U0:=@List.length_set
def U1:=@Nat.le_of_lt
def U2:=@List.length_append
def U3:=@PySem.wpAny_newObj_type
def U4:=@Bool.false_ne_true
def U5:=@congrArg
def U6:=@Option.some.inj
def U7:=@List.mem_append
def U8:=@PySem.W.kia_one
def U9:=@List.getElem?_map
def Va:=@PySem.W.mg_none_of
def Vb:=@List.append_nil
def Vc:=@PySem.Heap.get?_update_self
def Vd:=@Nat.lt_of_le_of_lt
def Ve:=@List.not_mem_nil
def Vf:=@or_false
def Vg:=@Option.map_eq_some_iff
def Vh:=@List.lookup_cons
def Vi:=@PySem.Heap.size_push
def Vj:=@Nat.le_of_eq
def Vk:=@List.nodup_cons
def Vl:=@PySem.wpAny_call_entry
def Vm:=@PySem.typeIs_str
def Vn:=@PySem.call_meets
def Vo:=@PySem.Obj.data_mapFields
def Vp:=@Int.emod_nonneg
def Vq:=@PySem.F.plainAttrs_list
def Vr:=@Nat.lt_irrefl
def Vs:=@List.getElem?_set_self
def Vt:=@if_true
def Vu:=@PySem.Heap.get?_update_other
def Vv:=@Iff.rfl
def Vw:=@Int.emod_lt_of_pos
def Vx:=@PySem.F.slot_str_split
def Vy:=@PySem.F.type_str_split
def Vz:=@PySem.wpAny_standAt
def VA:=@beq_iff_eq
def VB:=@if_false
def VC:=@List.any_cons
def VD:=@Nat.ne_of_gt
def VE:=@PySem.wpAny_callSpecial?_slot
def VF:=@List.append_assoc
def VG:=@List.getElem?_eq_none_iff
def VH:=@List.drop_of_length_le
def VI:=@PySem.wpAny_rule
def VJ:=@PySem.wpAny_throw
def VL:=@PySem.wpAny_seqItems
def VM:=@beq_eq_false_iff_ne
def VN:=@PySem.wpAny_truthy_bool
def VO:=@PySem.wpAny_typeOf
def VP:=@List.length_singleton
def VQ:=@of_decide_eq_false
def VR:=@PySem.Obj.isFreed_of_fields
def VS:=@PySem.wpAny_setField
def VT:=@List.pairwise_cons
def VU:=@List.mem_range
def VV:=@PySem.wpAny_execs_cons
def VW:=@PySem.wpAny_Call_Name_kw
def VX:=@PySem.mem_of_lookup
def VY:=@PyProof.Rows.slot_tuple_getitem
def VZ:=@decide_eq_true
def V0:=@List.getElem?_eq_getElem
def V1:=@Nat.lt_succ_of_lt
def V2:=@of_decide_eq_true
def V3:=@List.nodup_append
def V4:=@PySem.codeAny_builtin
def V5:=@PySem.wpAny_attempt
def V6:=@PySem.F.slot_str_split
def V7:=@PySem.F.entry_str_split
def V8:=@PySem.W.of_hideAll
def V9:=@List.find?_cons
def Wa:=@List.getElem?_cons_succ
def Wb:=@PySem.F.slot_str_partition
def Wc:=@PySem.F.type_str_partition
def Wd:=@Sum.inr.inj
def We:=@PySem.Paired.length
def Wf:=@Array.length_toList
def Wg:=@PySem.wpAny_execs_nil
def Wh:=@PySem.wpAny_passesOwn
def Wi:=@Nat.lt_succ_self
def Wj:=@PySem.wpAny_call
def Wk:=@PySem.codeAny_mono
def Wl:=@List.getElem?_append_left
def Wm:=@PySem.Calls.evalArgs_plain
def Wn:=@PySem.wpAny_newList
def Wo:=@List.zip_cons_cons
def Wp:=@Int.toNat_natCast
def Wq:=@PySem.wpAny_pyIter_list
def Wr:=@PySem.wpAny_of_eq
def Ws:=@PySem.plainId_quiet
def Wt:=@Array.getElem?_eq_some_iff
def Wu:=@PySem.tupleKind_room_in1
def Wv:=@PySem.wpAny_isInstance
def Ww:=@PySem.F.slot_dict_keyiterator_next
def Wx:=@Bool.and_eq_true_iff
def Wy:=@PySem.wpAny_setField_rec
def Wz:=@List.cons.inj
def WA:=@PySem.F.slot_list_append
def WB:=@PySem.F.type_list_append
def WC:=@PySem.PassesOwn.never
def WD:=@PySem.F.slot_str_join
def WE:=@PySem.F.type_str_join
def WF:=@Prod.mk.injEq
def WG:=@List.filterMap_cons
def WH:=@List.mem_filterMap
def WI:=@PySem.W.looks_findIn
def WJ:=@PySem.Calls.spliced_nil
def WK:=@PySem.Calls.spliced_cons
def WM:=@PySem.W.callWith_K
def WN:=@List.length_take
def WO:=@List.length_replicate
def WP:=@List.length_drop
def WQ:=@PySem.Calls.callWith_builtin
def WR:=@Array.getElem?_toList
def WS:=@PySem.wpAny_comprehension_free
def WT:=@List.pairwise_map
def WU:=@PySem.Heap.get?_update_ne
def WV:=@Bool.false_eq_true
def WW:=@Nat.lt_trans
def WY:=@PySem.W.methodCall_KW
def WZ:=@PySem.F.excBase_ValueError
def W0:=@PySem.wpAny_onRaise
def W1:=@PySem.wpAny_getItem_str_slice
def W2:=@PySem.post_val_or_str
def W3:=@PySem.Txt.slice_le
def W4:=@PySem.W.hideAll_get
def W5:=@PySem.wpAny_handled
def W6:=@PySem.F.slot_list_getattribute
def W7:=@PySem.Around.under_plainId
def W8:=@PySem.wpAny_typeNameOfWhole_keyiter
def W9:=@PySem.wpAny_fieldsOf
def Xa:=@PySem.wpAny_typeNameOf_keyiter
def Xb:=@PySem.Heap.SameBut.update
def Xc:=@PySem.F.slot_tuple_iterator_next
def Xd:=@PySem.F.slot_zip_next
def Xe:=@PySem.wpAny_loadPart_at
def Xf:=@List.lookup_cons_self
def Xg:=@List.forall_mem_cons
def Xh:=@PySem.W.hideAll_get
def Xi:=@PySem.W.of_hideAll
def Xj:=@PySem.wpAny_Name
def Xk:=@PySem.wpAny_load
def Xm:=@PySem.W.plainGet_of
def Xn:=@PySem.W.any_some
def Xo:=@PySem.W.kitx_list
def Xp:=@Nat.le_succ
def Xq:=@PySem.W.callWith_K0
def Xr:=@List.of_mem_zip
def Xs:=@List.getElem?_append_right
def Xu:=@List.getElem?_replicate
def Xv:=@List.mem_of_getElem?
def Xw:=@PySem.concat_meets
def Xx:=@PySem.noFill_tuple_add
def Xy:=@PySem.seq_tuple_add
def Xz:=@PySem.F.slot_tuple_add
def XB:=@PySem.F.entry_tuple_add
def XC:=@PySem.F.args_tuple_add_2
def XD:=@List.map_nil
def XF:=@PyProof.Rows.Subscript_
def XH:=@PySem.seqIndex_of
def XI:=@PySem.seqIndex_neg
def XJ:=@List.all_cons
def XM:=@List.forIn_cons
def XQ:=@List.all_eq_true
def XU:=@Array.perm_iff_toList_perm
def XV:=@Nat.le_add_right
def XX:=@List.getElem_mem
def XY:=@PyProof.Rows.size_push'
def XZ:=@PySem.Heap.size_update
def X0:=@List.getElem_of_mem
def X1:=@List.getD_eq_getElem?_getD
def X2:=@List.drop_zero
def X3:=@List.take_of_length_le
def X4:=@List.Perm.eq_of_pairwise
def X5:=@List.mem_map
def X6:=@PySem.wpAny_pyIter_tuple
def X7:=@PySem.codeAny_call_builtin
def X8:=@Nat.not_lt
def X9:=@PySem.wpAny_point
def Yb:=@PySem.F.args_str_split_2
def Yc:=@PySem.wpAny_looks_onW
def Yd:=@PySem.call_meetsIn
def Ye:=@PySem.F.slot_dict_get
def Yg:=@PySem.typeLookup_type
def Yh:=@PySem.builtinLookup_eq_fast
def Yi:=@PySem.Obj.cls_mapFields
def Yj:=@PySem.wpAny_dictEntries
def Yk:=@PySem.wpAny_dictEpoch
def Yl:=@PySem.wpAny_isOneOf_keyiter
def Ym:=@PySem.W.Looks.ld
def Yn:=@PySem.W.exm_one
def Yo:=@PySem.F.args_str_split_3
def Yp:=@Option.bind_some
def Yq:=@PySem.F.slot_list_extend
def Yr:=@PySem.F.type_list_extend
def Ys:=@PySem.SeqAt.EqAt.int_str
def Yt:=@PySem.SeqAt.EqAt.str_int
def Yu:=@Array.append_assoc
def Yv:=@List.mem_filter
def Yw:=@PySem.wpAny_storeName_local
def Yx:=@PySem.Calls.Constant_str
def Yy:=@PySem.Calls.Name_function_global
def Yz:=@PySem.wpAny_isTrue_Compare1
def YA:=@PySem.wpAny_Return_some
def YB:=@PySem.wpAny_pyNext_list_item
def YC:=@PySem.wpAny_pyNext_list_end
def YD:=@Array.mem_toList_iff
def YE:=@Option.isSome_iff_exists
def YF:=@PyProof.Rows.callWith_type1
def YG:=@PySem.wpAny_sequenceKey
def YH:=@PyProof.Rows.entry_tuple_getitem
def YI:=@PyProof.Rows.args_tuple_getitem
def YJ:=@PyProof.Rows.subscriptTail_builtinR
def YK:=@PySem.slot_list_getitem
def YL:=@PySem.SeqAt.EqAt.int_int
def YM:=@PySem.wpAny_newFunctionEnv
def YN:=@PySem.codeAny_compStart_list
def YO:=@PySem.exec_Assign_Name_used
def YQ:=@PySem.Heap.get?_push_ne
def YR:=@PySem.Calls.call_function_entry
def YS:=@List.ext_getElem?
def YT:=@List.map_map
def YU:=@PySem.F.attr_ValueError
def YV:=@Bool.not_eq_true'
def YW:=@Option.isSome_some
def YX:=@PySem.length_partsBetween
def YY:=@PySem.StrLaws.occ_length_le_len
def YZ:=@PySem.W.hideAll_none
def Y0:=@List.filter_cons
def Y1:=@Option.isSome_map
def Y2:=@PySem.F.slot_dict_pop
def Y3:=@PySem.F.slot_dict_getitem
def Y5:=@PySem.F.entry_dict_get
def Y6:=@PySem.F.args_dict_get_2
def Y7:=@PySem.wpAny_Call_method
def Y8:=@PySem.F.plainAttrs_dict
def Y9:=@PySem.F.slot_list_index
def aaa:=@PySem.wpAny_notOrdered_dict
def aab:=@PySem.F.entry_dict_keyiterator_next
def aac:=@PySem.F.args_dict_keyiterator_next_1
def aad:=@Array.getElem?_eq_getElem
def aae:=@Array.getElem?_eq_none
def aaf:=@PySem.wpAny_handleBy_cons
def aag:=@PySem.codeAny_handlers_test
def aah:=@PySem.F.entry_tuple_iterator_next
def aai:=@PySem.F.args_tuple_iterator_next_1
def aaj:=@PySem.F.args_zip_next_1
def aak:=@PySem.wpAny_updateSeq_pair
def aal:=@PySem.W.callWith_K
def aam:=@PySem.F.plain_list_iadd
def aan:=@PyProof.Rows.ltCps_eq
def aao:=@Option.ne_none_iff_exists'
def aap:=@List.filter_cons_of_neg
def aaq:=@List.filter_cons_of_pos
def aar:=@List.dropLast_eq_take
def aas:=@PySem.PassesOwn.leaving
noncomputable section
local macro_rules | `(()) => `(by lia)
abbrev Zn:=List Int
abbrev Zm:=List (Zn)
abbrev Zl:=List PySem.Str
abbrev Zk:=List PySem.Addr
abbrev Zj:=PySem.W.Frag
abbrev Zi:=Option PySem.Value
abbrev Zh:=List PySem.Value
abbrev Zg:=PySem.Str->Option PySem.Value
abbrev Zf:=List (PySem.Addr×PySem.Obj)
abbrev Ze:=PySem.Value->PySem.Shared->Prop
namespace Hd
open PySem PySem.W PySem.Calls PyProof.Rows
def Fw(stp:SharedT->Thread->Option (SharedT×Thread))(ok:Thread->Bool):Nat->SharedT->Thread->Option SharedT
 |0,_,_=>none
 |n+1,s,t=>match through t with
  |true=>some s
  |false=>match ok t with
   |false=>none
   |true=>match stp s t with
    |some (s',t')=>Fw stp ok n s' t'
    |none=>none
theorem yp{tb:String->Option Builtin} {n₀:Nat} : ∀(n:Nat) (s:SharedT) (t:Thread) (r:SharedT),Fw (stepT (denote tb) p w) (stepOk n₀ ann) n s t=some r->topRun tb p w n₀ ann n s.abs t=some r.abs
 |0,_,_,_,h=>by cases h
 |n+1,s,t,r,h=>by
  unfold Fw at h;unfold topRun;cases ht:through t with
  |true=>rw[ht] at h;cases h;rfl
  |false=>
   rw[ht] at h;cases hk:stepOk n₀ ann t with
   |false=>rw[hk] at h;cases h
   |true=>
    rw[hk] at h;cases hs:stepT (denote tb) p w s t with
    |none=>rw[hs] at h;cases h
    |some x=>obtain⟨s',t'⟩:=x;rw[hs] at h;rw[stepT_spec hs];exact yp n s' t' r h
def Iu:List Obj->Nat->BT->BT
 |[],_,t=>t
 |o::l,n,t=>Iu l (n+1) (t.ins n o)
def T0(P:Params):BT:=Iu (boot_heap P).objs.toList 0 .nil
def N8(P:Params):absHeap (T0 P) 11 (boot_heap P).life=boot_heap P:=by kernel_rfl
def sz(P:Params):((boot_heap P).isNs mainGlobals,(boot_heap P).objs.size,(boot_heap P).nsMap mainGlobals "__annotations__")=(true,11,some (.ref 6)):=by kernel_rfl
def S0(w:World)(os:OsState):SharedT:=⟨T0 w.params,11,(boot_heap w.params).life,Array.mk [],boot_drawn,boot_toks,os⟩
def JL{α:Type}{Yf:Shared->α}{Ya:World->α}{N M:Nat}{g0:Bool}
  (open_:∀w:World,(fencedOpening treeTable p w N).map (λs=>(s.heap,s.gens,s.drawn,s.toks))=some (boot_heap w.params,Array.mk [],boot_drawn,boot_toks)) (le:Nat.ble M N=true)
  (big:∀w:World,(λos=>(Fw (stepT (denote treeTable) p w) (stepOk 11 (some (.ref 6))) M (S0 w os) (topStub p)).map λr=>((staticsOk (importedModules p.main.body) (boot_heap w.params) r.abs.heap&&namesBound p r.abs.heap&&gensDone r.abs&&laidKept (boot_heap w.params) r.abs.heap),
    openSeen q loose (importedModules p.main.body) Xt g0 r.abs,Yf r.abs))=λ_=>some (true,openGood q loose,Ya w)):LeftO p q loose Xt Yf Ya N g0:=λw=>by
 obtain⟨⟨h,gs,d,k,os⟩,e,e'⟩:=Vg.1 (open_ w);obtain⟨rfl,rfl,rfl,rfl⟩:h=boot_heap w.params/\gs=Array.mk []/\d=boot_drawn/\k=boot_toks:=by simpa using e'
 obtain⟨z1,z2,z3⟩:_/\_/\_:=by simpa only[WF] using sz w.params
 obtain⟨r,hr,hb⟩:=Vg.1 (congrFun (big w) os);obtain⟨l1,l2,l3⟩:_/\_/\_:=by simpa only[WF] using hb
 have ha:(S0 w os).abs=⟨boot_heap w.params,Array.mk [],boot_drawn,boot_toks,os⟩:=by unfold S0 SharedT.abs;dsimp only;rw[N8]
 have t:=topRun_mono (N-M) _ _ _ _ (yp _ _ _ _ hr);rw[show M+(N-M)=N by have:=Nat.le_of_ble_eq_true le;lia,ha] at t;have t2:topFrom treeTable p w N ⟨boot_heap w.params,Array.mk [],boot_drawn,boot_toks,os⟩=some r.abs:=by unfold topFrom;dsimp only;rw[z1,z2,z3,t];show (match staticsOk (importedModules p.main.body) (boot_heap w.params) r.abs.heap&&namesBound p r.abs.heap&&gensDone r.abs&&laidKept (boot_heap w.params) r.abs.heap with|true=>_|false=>_)=_;rw[l1]
 unfold openEnds;rw[e];show (topFrom treeTable p w N _).map _=_;rw[t2];exact U5 some (Prod.ext l2 l3)
def JM{α:Type}{Yf:Shared->α}{Ya:World->α}{g0:Bool}
  (open_:∀w:World,(fencedOpening treeTable p w 100000).map (λs=>(s.heap,s.gens,s.drawn,s.toks))=some (boot_heap w.params,Array.mk [],boot_drawn,boot_toks))
  (big:∀w:World,(λos=>(Fw (Fast.tw10156331382660048174 (Fast.tw11892475500146522536 Fast.tw14364793385576792824) p w) (Fast.tw6613529449190102663 11 (some (.ref 6))) 100000 (S0 w os) (topStub p)).map λr=>((staticsOk (Fast.tw5923862056798008813 p.main.body) (boot_heap w.params) r.abs.heap&&namesBound p r.abs.heap&&gensDone r.abs&&laidKept (boot_heap w.params) r.abs.heap),
    Fast.tw4187177175401517315 q loose (Fast.tw5923862056798008813 p.main.body) Xt g0 r.abs,Yf r.abs))=λ_=>some (true,openGood q loose,Ya w)):LeftO p q loose Xt Yf Ya 100000 g0:=by
 rw[<-Fast.te10156331382660048174,<-Fast.te11892475500146522536,<-Fast.te14364793385576792824,<-Fast.te6613529449190102663,<-Fast.te5923862056798008813,<-Fast.te4187177175401517315] at big;exact JL open_ rfl big
def Kx(h:Fast.tw9446332074065402090 l=true):l.wellSaid=true:=by rw[Fast.te9446332074065402090];exact h
def wb(w:World)(b:Bool):World:=⟨w.draws,{ w.params with followText:=λs=>cond (s == "special-get-raises") b (w.params.followText s) }⟩
def PH(w:World):wb w (w.params.followText "special-get-raises")=w:=by
 have:(λs=>cond (s == "special-get-raises") (w.params.followText "special-get-raises") (w.params.followText s))=w.params.followText:=by
  funext s
  cases h:s == "special-get-raises" with
  |false=>rfl
  |true=>rw[eq_of_beq h];rfl
 unfold wb;rw[this]
def KS{C:World->Prop}(h:∀w b,C (wb w b)):∀w,C w:=λw=>PH w▸h w (w.params.followText "special-get-raises")
abbrev Rn(p:Program)(w:World)(os:OsState):Option SharedT:=Fw (Fast.tw10156331382660048174 (Fast.tw11892475500146522536 Fast.tw14364793385576792824) p w) (Fast.tw6613529449190102663 11 (some (.ref 6))) 100000 (S0 w os) (topStub p)
abbrev Qv(p q:Program)(loose:Zl)(Xt:Shared->Bool)(w:World):Prop:=(λos=>(Rn p w os).map λr=>((staticsOk (Fast.tw5923862056798008813 p.main.body) (boot_heap w.params) r.abs.heap&&namesBound p r.abs.heap&&gensDone r.abs&&laidKept (boot_heap w.params) r.abs.heap),Fast.tw4187177175401517315 q loose (Fast.tw5923862056798008813 p.main.body) Xt true r.abs))=λ_=>some (true,openGood q loose)
abbrev Qw(p:Program)(H:Hook)(w:World):Prop:=(λos=>(Rn p w os).map λr=>H.obs r.abs)=λ_=>some (H.val w)
def MF{p q:Program}{loose:Zl}{Xt:Shared->Bool}{H:Hook}
  (open_:∀w:World,(fencedOpening treeTable p w 100000).map (λs=>(s.heap,s.gens,s.drawn,s.toks))=some (boot_heap w.params,Array.mk [],boot_drawn,boot_toks))
  (a:∀w b,Qv p q loose Xt (wb w b)) (c:∀w b,Qw p H (wb w b)):LeftO p q loose Xt H.obs H.val 100000:=JM open_ (KS λw b=>by
 funext os
 have a':=congrFun (a w b) os;have c':=congrFun (c w b) os;obtain⟨r,e,a'⟩:=Vg.1 a';obtain⟨r',e',c'⟩:=Vg.1 c';cases e.symm.trans e';refine Vg.2 ⟨r,e,?_⟩;rw[WF] at a' ⊢;refine⟨a'.1,?_⟩;rw[WF]
 exact⟨a'.2,c'⟩)
end Hd
set_option Elab.async false
section
open PySem PySem.W PyProof.Rows
def Hd.q : Program := view PySem.Challenge.pw_shapethin_k72_rows_refused_in_order [1, 2, 3, 4, 5, 6, 7, 8, 45, 46, 47, 48, 100, 110]
local macro_rules | `(tactic| o_head $_)=>`(tactic| assumption)
set_option maxHeartbeats 0 in
theorem Hd.e0 : PySem.Challenge.rw_shapethin_k72_rows_refused_in_order.row.Holds -> PySem.Challenge.rw_shapethin_k72_rows_refused_in_order.row.Holds := by intro h; w_on; k_head
def Hd.as:Zk:=(Hd.e0.heap_1 { strHash:=λ_=>0,shareClass:=λ_=>0,mergeTok:=id,idOf:=λ_=>0,idOfShared:=λ_ _=>0,followText:=λ_=>true,idOfImm:=λ_=>0 }).map (·.1)
def Hd.ae(P:Params):Hd.as=(Hd.e0.heap_1 P).map (·.1):=by kernel_rfl
abbrev Hd.H:Hook:=kHook Hd.e0.heap_1 Hd.as Hd.ae
abbrev Hd.lo:Zl:=List.map Str.ofString ["row_of", "count_up_to", "row_common", "row_less", "row_either", "row_count", "row_moved", "row_shrunk", "row_gaps", "MOST_CELLS", "picture_of", "stretches_of", "row_at", "rows_with_cells", "join", "common", "less", "either", "lies_in", "count_cells", "box_of", "moved", "cells_of", "ONE_CELL", "blocks_of", "spread_down", "shrunk_down", "greater_by_block", "greater_by_part", "smaller_by_block", "smaller_by_part", "reached", "begun_between", "BY_EIGHT", "BY_FOUR", "touching", "walk_from", "classes_of", "pieces", "picture_of_gaps", "is_open", "holes", "filled", "FIGURES", "MOST_FIGURES", "WITHOUT_CELLS", "show", "show_row", "show_stretch", "read", "read_stretches", "read_stretch", "read_whole", "writes_whole", "ROUND", "STRAIGHT", "turns", "count_around", "SIDES", "thinned", "take_round", "free_cells", "take_pass", "goes", "LETTERS", "MOST_LETTERS", "ROWS", "is_read", "is_name", "words_of", "split_row", "read_form", "form_written", "made_of_two", "made_by_form", "made", "told", "yes_or_no", "_law_cell_at", "_law_no_row", "_law_no_name", "_law_no_text", "_law_no_form", "_law_refused", "_law_one", "_law_seen"]
abbrev Hd.Xt : Shared -> Bool := fun s => xlAt Hd.q [] s && recOk (RowW.records (OpenRow.toRowW (OpenLaw.row PySem.Challenge.rw_shapethin_k72_rows_refused_in_order))) s
set_option maxHeartbeats 0 in
theorem Hd.eaf (w : World) : Hd.Qv PySem.Challenge.rw_shapethin_k72_rows_refused_in_order.row.prog Hd.q Hd.lo Hd.Xt (Hd.wb w false) := by kernel_rfl
set_option maxHeartbeats 0 in
theorem Hd.ebf (w : World) : Hd.Qw PySem.Challenge.rw_shapethin_k72_rows_refused_in_order.row.prog Hd.H (Hd.wb w false) := by kernel_rfl
set_option maxHeartbeats 0 in
theorem Hd.eat (w : World) : Hd.Qv PySem.Challenge.rw_shapethin_k72_rows_refused_in_order.row.prog Hd.q Hd.lo Hd.Xt (Hd.wb w true) := by kernel_rfl
set_option maxHeartbeats 0 in
theorem Hd.ebt (w : World) : Hd.Qw PySem.Challenge.rw_shapethin_k72_rows_refused_in_order.row.prog Hd.H (Hd.wb w true) := by kernel_rfl
theorem Hd.e1 : LeftO PySem.Challenge.rw_shapethin_k72_rows_refused_in_order.row.prog Hd.q Hd.lo (fun s => xlAt Hd.q [] s && recOk (RowW.records (OpenRow.toRowW (OpenLaw.row PySem.Challenge.rw_shapethin_k72_rows_refused_in_order))) s) (Hook.obs Hd.H) (Hook.val Hd.H) 100000 := Hd.MF (boot_open (by rfl) rfl (fun s => rfl)) (fun w b => by cases b; exact Hd.eaf w; exact Hd.eat w) (fun w b => by cases b; exact Hd.ebf w; exact Hd.ebt w)
set_option maxHeartbeats 0 in
theorem Hd.e2 : PySem.Challenge.rw_shapethin_k72_rows_refused_in_order.wellSaid = true := Hd.Kx (by kernel_rfl)
end
set_option Elab.async false
set_option linter.all false
set_option maxRecDepth 100000
namespace L2
open PySem PySem.Spec PyProof.Rows
abbrev c7:=Sum Int Str
def vU:c7->Value->Bool
 |.inl k,v=>Value.isInt k v
 |.inr x,v=>Value.isStrOf x v
def Oz(w:World):c7->Int
 |.inl k=>hashInt k
 |.inr x=>hashStr w x
def cQ:∀ {k:c7} {v:Value},vU k v=true->(∃i t,k=Sum.inl i/\v=Value.int i t)\/(∃x t,k=Sum.inr x/\v=Value.str x t)
 |.inl i,v,h=>by
  obtain⟨t,e⟩:=Value.isInt_shape (k:=i) (v:=v) h;exact .inl ⟨i,t,rfl,e⟩
 |.inr x,v,h=>by obtain⟨t,e⟩:=Value.isStrOf_shape (x:=x) (v:=v) h;exact .inr ⟨x,t,rfl,e⟩
def E7(i:Int)(t:Tok):vU (.inl i) (.int i t)=true:=by simp[vU,Value.isInt]
def E8(x:Str)(t:Tok):vU (.inr x) (.str x t)=true:=by simp[vU,Value.isStrOf]
def MB(a b:Int):decide ((Sum.inl a:c7)=Sum.inl b)=(a==b):=by
 by_cases e:a=b
 ·subst e;simp
 ·have h:¬(Sum.inl a:c7)=Sum.inl b:=λq=>e (Sum.inl.inj q);rw[UU h];exact (VM.2 e).symm
def ME(a b:Str):decide ((Sum.inr a:c7)=Sum.inr b)=decide (a=b):=by
 by_cases e:a=b
 ·subst e;simp
 ·have h:¬(Sum.inr a:c7)=Sum.inr b:=λq=>e (Wd q);rw[UU h,UU e]
def MC(a:Int)(b:Str):decide ((Sum.inl a:c7)=Sum.inr b)=false:=UU (λq=>nomatch q)
def MD(a:Str)(b:Int):decide ((Sum.inr a:c7)=Sum.inl b)=false:=UU (λq=>nomatch q)
def bN(prog:Program)(w:World):PySem.KeyKind prog w c7 where
 is:=vU
 hash:=Oz w
 inj:=λv a b ha hb=>by
  rcases cQ ha with ⟨i,t,rfl,rfl⟩|⟨x,t,rfl,rfl⟩
  ·rcases cQ hb with ⟨j,u,rfl,e⟩|⟨y,u,rfl,e⟩
   ·injection e with e1 _;rw[e1]
   ·exact nomatch e
  ·rcases cQ hb with ⟨j,u,rfl,e⟩|⟨y,u,rfl,e⟩
   ·exact nomatch e
   ·injection e with e1 _;rw[e1]
 byValue:=λk v h=>by rcases cQ h with ⟨i,t,rfl,rfl⟩|⟨x,t,rfl,rfl⟩<;>rfl
 pyHash:=λhv h=>by
  rcases cQ hv with ⟨i,t,rfl,rfl⟩|⟨x,t,rfl,rfl⟩
  ·exact wpAny_pyHash_int h
  ·exact wpAny_pyHash_str h
 eqBool:=λhu hv h=>by
  rcases cQ hu with ⟨i,t,rfl,rfl⟩|⟨x,t,rfl,rfl⟩
  ·rcases cQ hv with ⟨j,u,rfl,rfl⟩|⟨y,u,rfl,rfl⟩
   ·rw[MB] at h;exact wpAny_eqBool_int h
   ·rw[MC] at h;exact Ys i t y u _ _ _ _ h
  ·rcases cQ hv with ⟨j,u,rfl,rfl⟩|⟨y,u,rfl,rfl⟩
   ·rw[MD] at h;exact Yt x t j u _ _ _ _ h
   ·rw[ME] at h;exact wpAny_eqBool_str h
 «strs»:=λk x t v h=>by
  rcases cQ h with ⟨i,u,rfl,e⟩|⟨y,u,rfl,e⟩
  ·exact nomatch e
  ·injection e with e1 _
   subst e1;cases v<;>rfl
def AK(prog:Program)(w:World)(i:Int)(t:Tok):(bN prog w).is (.inl i) (.int i t)=true:=E7 i t
def AL(prog:Program)(w:World)(x:Str)(t:Tok):(bN prog w).is (.inr x) (.str x t)=true:=E8 x t
inductive V where
 |non|bl (b:Bool)|int (i:Int)|str (x:Str)|byt (b:Array UInt8)|flt (b:UInt64)|ref (a:Addr)|ty (n:String)
 deriving DecidableEq
abbrev Za:=List V
def RelV:V->Value->Prop
 |.non,u=>u=Value.none
 |.bl b,u=>u=Value.bool b
 |.int i,u=>∃t,u=Value.int i t
 |.str x,u=>∃t,u=Value.str x t
 |.byt b,u=>∃t,u=Value.bytes b t
 |.flt b,u=>∃t,u=Value.float b t
 |.ref a,u=>u=Value.ref a
 |.ty n,u=>u=Value.type n
abbrev Vals:Za->Zh->Prop:=Paired RelV
def Vals.length{xs:Za}{us:Zh}(r:Vals xs us):xs.length=us.length:=We r
theorem Vals.get:∀ {xs:Za} {us:Zh} {i:Nat} {x:V},Vals xs us->xs[i]?=some x->∃u,us[i]?=some u/\RelV x u
 |_,_,_,_,.nil,e=>by simp at e
 |_,_,0,_,.cons r _,e=>by simp at e;subst e;exact⟨_,rfl,r⟩
 |_,_,i+1,x,.cons _ t,e=>by obtain⟨u,h1,h2⟩:=Vals.get (i:=i) (x:=x) t (by simpa using e);exact⟨u,by simpa using h1,h2⟩
theorem Vals.set{x:V}{u:Value}(r:RelV x u):∀ {xs:Za} {us:Zh} (i:Nat),Vals xs us->Vals (xs.set i x) (us.set i u)
 |_,_,_,.nil=>.nil
 |_,_,0,.cons _ t=>.cons r t
 |_,_,i+1,.cons q t=>.cons q (Vals.set r i t)
theorem Vals.append:∀ {xs ys:Za} {us ws:Zh},Vals xs us->Vals ys ws->Vals (xs++ys) (us++ws)
 |_,_,_,_,.nil,s=>s
 |_,_,_,_,.cons r t,s=>.cons r (Vals.append t s)
theorem Vals.take:∀ {xs:Za} {us:Zh} (n:Nat),Vals xs us->Vals (xs.take n) (us.take n)
 |_,_,0,_=>.nil
 |_,_,_+1,.nil=>.nil
 |_,_,n+1,.cons r t=>.cons r (Vals.take n t)
theorem Vals.drop:∀ {xs:Za} {us:Zh} (n:Nat),Vals xs us->Vals (xs.drop n) (us.drop n)
 |_,_,0,r=>r
 |_,_,_+1,.nil=>.nil
 |_,_,n+1,.cons _ t=>Vals.drop n t
def RelO:Option V->Zi->Prop
 |some v,some u=>RelV v u
 |none,none=>True
 |_,_=>False
def KV{κ:Type}:List (κ×V)->List (κ×Value)->Prop:=Paired λ(p:κ×V) (q:κ×Value)=>p.1=q.1/\RelV p.2 q.2
def kV:c7->V
 |.inl i=>.int i
 |.inr x=>.str x
inductive HO where
  |lst (xs:Za)
  |tup (xs:Za)
  |dK (kvs:List (c7×V))|dT (kvs:List (List c7×V))
  |set (S:Int->Bool) (n:Nat)
  |ins (C dx:Addr) (fs:List (Str×V))
  |own (x:Addr)
  |xd (fs:List (Str×V))
  |met (f x:Addr)
  |rng (lo hi:Int)
  |frz (o:Obj) (u:HO)
  |tbl (ps:Array Value)
  |ext (φ:Heap->Prop)
abbrev Hp:=Addr->Option HO
def upd(H:Hp)(a:Addr)(o:HO):Hp:=λb=>if b=a then some o else H b
def aG:upd H a o a=some o:=by unfold upd;rw[Uv rfl]
def aL{a b:Addr} (h:b≠a):upd H a o b=H b:=by unfold upd;rw[Uu h]
def zM:upd (upd H a o) a u=upd H a u:=by
 funext b;unfold upd;split<;>rfl
def rH{H:Hp}{a b:Addr}{o u:HO}(h:H a=some o)(h':H b=some u)(d:o≠u):a≠b:=by intro e;subst e;rw[h] at h';exact d (U6 h')
def bg{H:Hp}{a b:Addr}{o:HO}(h:H a=some o)(h':H b=none):a≠b:=by intro e;subst e;rw[h] at h';cases h'
section
variable (P:Program)(w:World)
def TupN(h:Heap)(a:Addr)(xs:Array Value):Prop:=∃o,h.get? a=some o/\o.cls=.type "tuple" /\ ∃n,o.data=.seq xs n/\o.dict=none
def TupN.tup{h:Heap}{a:Addr}{xs:Array Value}(x:TupN h a xs):IsTup h a xs:=let ⟨o,h1,h2,n,h3,_⟩:=x;⟨o,h1,h2,n,h3⟩
def TupN.new(h:Heap)(xs:Array Value):TupN (h.push { cls:=.type "tuple",data:=.seq xs }) h.objs.size xs:=⟨_,UK _ rfl,rfl,_,rfl,rfl⟩
def ObjOk(H:Hp)(h:Heap)(a:Addr):HO->Prop
 |.lst xs=>xs.length<=sizeLine/\∃(its:Zh) (n:Nat),Vals xs its/\h.get? a=some { cls:=.type "list",data:=.seq its.toArray n }
 |.tup xs=>xs.length<=sizeLine/\∃its:Zh,Vals xs its/\TupN h a its.toArray
 |.dK kvs=>kvs.length<=sizeLine/\(a==sysModules)=false/\∃vs,KV kvs vs/\h.DictOf (bN P w) a vs
 |.dT kvs=>kvs.length<=sizeLine/\(a==sysModules)=false/\∃xs:List (List c7×Addr×Value),
   Paired (λ(p:List c7×V) (q:List c7×Addr×Value)=>p.1=q.1/\H q.2.1=some (.tup (p.1.map kV))/\RelV p.2 q.2.2) kvs xs /\
   ∃o es ep,h.get? a=some o/\o.ExactDict/\o.data=.dict es ep/\es.toList=xs.map (entryOfKey (tupleKind (bN P w)))/\(xs.map (·.1)).Nodup
 |.set S n=>h.SetOf (intKind P w) a S n
 |.ins C dx fs=>H dx=some (.own a)/\fs.length<=1000/\dx≠a/\h.get? a=some (W.instObj C dx) /\
   ∃mA,h.Ns1 dx mA/\(∀f,RelO (fs.lookup f) (mA f))/\PySem.Within mA (fs.map (·.1))
 |.own _=>∃o,h.get? a=some o
 |.xd fs=>∃mA,h.Ns1 a mA/\∀f,RelO (fs.lookup f) (mA f)
 |.rng lo hi=>∃t u v,h.get? a=some { cls:=.type "range",data:=.fields #[.int lo t,.int hi u,.int 1 v] }
 |.frz o u=>h.get? a=some o/\ObjOk H h a u
 |.tbl ps=>h.get? a=some { cls:=.none,data:=.fields ps }
 |.met f x=>h.get? a=some (W.methodObj (.ref f) (.ref x))
 |.ext φ=>φ h/\(∃o,h.get? a=some o)/\∀h1 h2:Heap,φ h1->(∀o,h1.get? a=some o->h2.get? a=some o)->φ h2
def HOk(H:Hp)(h:Heap):Prop:=∀a o,H a=some o->ObjOk P w H h a o
end
section
variable {P:Program}{w:World}{H H':Hp}{h h':Heap}{a:Addr}{o:HO}
def ObjOk.lt(x:ObjOk P w H h a o):a<h.objs.size:=by
 cases o with
 |lst xs=>obtain⟨_,_,_,_,e⟩:=x;exact UA e
 |tup xs=>obtain⟨_,_,_,p⟩:=x;exact p.tup.lt
 |dK kvs=>obtain⟨_,_,_,_,o,_,_,e,_⟩:=x;exact UA e
 |dT kvs=>obtain⟨_,_,_,_,o,_,_,e,_⟩:=x;exact UA e
 |set S n=>obtain⟨o,_,_,_,e,_⟩:=x;exact UA e
 |ins C dx fs=>obtain⟨_,_,_,e,_⟩:=x;exact UA e
 |own y=>obtain⟨_,e⟩:=x;exact UA e
 |xd fs=>obtain⟨_,⟨_,_,_,e,_⟩,_⟩:=x;exact UA e
 |rng lo hi=>obtain⟨_,_,_,e⟩:=x;exact UA e
 |frz ob u=>obtain⟨e,_⟩:=x;exact UA e
 |tbl ps=>exact UA (show h.get? a=some _ from x)
 |met f y=>exact UA (show h.get? a=some _ from x)
 |ext φ=>obtain⟨_,⟨_,e⟩,_⟩:=x;exact UA e
theorem Paired.mapP{α β:Type}{F G:α->β->Prop}:∀ {l₁:List α} {l₂:List β},Paired F l₁ l₂->(∀a b,F a b->G a b)->Paired G l₁ l₂
 |_,_,.nil,_=>.nil
 |_,_,.cons r t,f=>.cons (f _ _ r) (Paired.mapP t f)
def ObjOk.stay(x:ObjOk P w H h a o)(k:∀b u,(b=a\/H b=some (.own a))->h.get? b=some u->h'.get? b=some u)
  (ho:∀b,H b=some (.own a)->H' b=some (.own a)) (ht:∀b xs,H b=some (.tup xs)->H' b=some (.tup xs)):ObjOk P w H' h' a o:=by
 induction o with
 |lst xs=>obtain⟨z,its,n,r,e⟩:=x;exact⟨z,its,n,r,k _ _ (.inl rfl) e⟩
 |tup xs=>obtain⟨z,its,r,ob,e,c⟩:=x;exact⟨z,its,r,ob,k _ _ (.inl rfl) e,c⟩
 |dK kvs=>obtain⟨z,y,vs,r,ob,es,ep,e,c⟩:=x;exact⟨z,y,vs,r,ob,es,ep,k _ _ (.inl rfl) e,c⟩
 |dT kvs=>
  obtain⟨z,y,xs,r,ob,es,ep,e,c⟩:=x;exact⟨z,y,xs,Paired.mapP r λp q z=>⟨z.1,ht _ _ z.2.1,z.2.2⟩,ob,es,ep,k _ _ (.inl rfl) e,c⟩
 |set S n=>obtain⟨ob,es,ep,t,e,c⟩:=x;exact⟨ob,es,ep,t,k _ _ (.inl rfl) e,c⟩
 |ins C dx fs=>
  obtain⟨d,z,ne,e,mA,⟨od,es,ep,e2,c⟩,r⟩:=x;exact⟨ho _ d,z,ne,k _ _ (.inl rfl) e,mA,⟨od,es,ep,k _ _ (.inr d) e2,c⟩,r⟩
 |own y=>obtain⟨ob,e⟩:=x;exact⟨ob,k _ _ (.inl rfl) e⟩
 |xd fs=>obtain⟨mA,⟨od,es,ep,e,c⟩,r⟩:=x;exact⟨mA,⟨od,es,ep,k _ _ (.inl rfl) e,c⟩,r⟩
 |rng lo hi=>obtain⟨t,u,v,e⟩:=x;exact⟨t,u,v,k _ _ (.inl rfl) e⟩
 |frz ob u ih=>obtain⟨e,q⟩:=x;exact⟨k _ _ (.inl rfl) e,ih q⟩
 |tbl ps=>
  have e:h.get? a=some { cls:=.none,data:=.fields ps }:=x;show h'.get? a=some { cls:=.none,data:=.fields ps };exact k a _ (.inl rfl) e
 |met f y=>
  have e:h.get? a=some (W.methodObj (.ref f) (.ref y)):=x;show h'.get? a=some (W.methodObj (.ref f) (.ref y));exact k a _ (.inl rfl) e
 |ext φ=>obtain⟨p,⟨o,e⟩,st⟩:=x;exact⟨st _ _ p λo q=>k _ _ (.inl rfl) q,⟨o,k _ _ (.inl rfl) e⟩,st⟩
def HOk.lt(x:HOk P w H h)(e:H a=some o):a<h.objs.size:=(x a o e).lt
def HOk.fresh(x:HOk P w H h)(e:h.objs.size<=a):H a=none:=by
 cases q:H a with
 |none=>rfl
 |some u=>exact absurd (UP (x.lt q) e) (Vr _)
def HOk.kept(x:HOk P w H h)(k:∀b u,h.get? b=some u->h'.get? b=some u):HOk P w H h':=λa o e=>
 (x a o e).stay (λb u _ q=>k b u q) (λ_ q=>q) λ_ _ q=>q
def HOk.laid(x:HOk P w H h)(k:∀b u,h.get? b=some u->h'.get? b=some u)(hp:h.objs.size<=a)(new:ObjOk P w (upd H a o) h' a o):HOk P w (upd H a o) h':=λb u e=>by
 have hn:=x.fresh hp;by_cases hb:b=a
 ·subst hb;rw[aG] at e;cases e;exact new
 ·rw[aL hb] at e;exact (x b u e).stay (λc v _ q=>k c v q) (λc q=>by rw[aL (bg q hn)];exact q) λc xs q=>by rw[aL (bg q hn)];exact q
end
def Rd(H:Hp)(a:Addr)(u:HO):Prop:=H a=some u\/∃o,H a=some (.frz o u)
def Rd.ok{P:Program}{w:World}{H:Hp}{h:Heap}{a:Addr}{u:HO}(r:Rd H a u)(x:HOk P w H h):ObjOk P w H h a u:=by
 rcases r with r|⟨o,r⟩
 ·exact x a u r
 ·obtain⟨_,q⟩:=x a _ r;exact q
def N3:Option HO->Prop
 |some (.lst _)=>True
 |some (.dK _)=>True
 |some (.dT _)=>True
 |some (.set _ _)=>True
 |some (.ins _ _ _)=>True
 |some (.ext _)=>True
 |_=>False
section
variable {P:Program}{w:World}{H:Hp}{h h':Heap}{x e:Addr}{o':HO}
def HOk.write(ok:HOk P w H h)(mu:N3 (H x))(he:e=x\/H e=some (.own x))(k:∀b u,b≠e->h.get? b=some u->h'.get? b=some u)(heo:∃u,h'.get? e=some u)
  (new:ObjOk P w (upd H x o') h' x o'):HOk P w (upd H x o') h':=λb u q=>by
 have nown:∀c y,H c=some (.own y)->c≠x:=λc y r z=>by subst z;rw[r] at mu;exact mu
 have ntup:∀c xs,H c=some (.tup xs)->c≠x:=λc xs r z=>by subst z;rw[r] at mu;exact mu
 by_cases hb:b=x
 ·subst hb;rw[aG] at q;cases q;exact new
 ·rw[aL hb] at q;by_cases hbe:b=e
  ·have q':H b=some (.own x):=by
    rcases he with z|z
    ·exact absurd (hbe.trans z) hb
    ·rw[hbe];exact z
   rw[q] at q';cases q';obtain⟨v,hv⟩:=heo;exact⟨v,by rw[hbe];exact hv⟩
  ·refine (ok b u q).stay (λc v hc r=>k c v ?_ r) (λc r=>by rw[aL (nown c b r)];exact r) λc xs r=>by rw[aL (ntup c xs r)];exact r
   rcases hc with rfl|hc
   ·exact hbe
   ·rintro rfl;rcases he with z|z
    ·exact nown c b hc z
    ·rw[hc] at z;cases z;exact hb rfl
end
structure Un(fs ex:Zk)(H H':Hp)(h h':Heap):Prop where
 keep:∀b o,h.get? b=some o->H b=none->b∉fs->b∉ex->h'.get? b=some o
 slot:∀b o,h.get? b=some o->H b=none->b∈fs->b∉ex->∃sl,h'.get? b=some { o with slots:=sl }
 free:∀b o,h.get? b=some o->H b=none->b∉ex->H' b=none
 there:∀b o,h.get? b=some o->b∉ex->∃o',h'.get? b=some o'
 tups:∀b xs,H b=some (.tup xs)->H' b=some (.tup xs)
 frzs:∀b o u,H b=some (.frz o u)->H' b=some (.frz o u)
 tbls:∀b ps,H b=some (.tbl ps)->∃more,H' b=some (.tbl (ps++more))
section
variable {fs fs' ex ex':Zk}{H H1 H2:Hp}{h h1 h2 h':Heap}{a x e:Addr}{o:HO}
def Un.any(u:Un fs ex H H1 h h1) {ob:Obj}(q:h.get? b=some ob)(n:H b=none)(hx:b∉ex):∃sl,h1.get? b=some { ob with slots:=sl }:=by
 by_cases hb:b∈fs
 ·exact u.slot b ob q n hb hx
 ·exact⟨ob.slots,u.keep b ob q n hb hx⟩
def Un.trans(a:Un fs ex H H1 h h1)(b:Un fs ex H1 H2 h1 h2):Un fs ex H H2 h h2 where
 keep:=λc ob q n hc hx=>b.keep c ob (a.keep c ob q n hc hx) (a.free c ob q n hx) hc hx
 slot:=λc ob q n hc hx=>by obtain⟨sl,e1⟩:=a.slot c ob q n hc hx;obtain⟨sl',e2⟩:=b.slot c _ e1 (a.free c ob q n hx) hc hx;exact⟨sl',e2⟩
 free:=λc ob q n hx=>by obtain⟨o',e1⟩:=a.there c ob q hx;exact b.free c o' e1 (a.free c ob q n hx) hx
 there:=λc ob q hx=>by obtain⟨o',e1⟩:=a.there c ob q hx;exact b.there c o' e1 hx
 tups:=λc xs q=>b.tups c xs (a.tups c xs q)
 frzs:=λc ob xs q=>b.frzs c ob xs (a.frzs c ob xs q)
 tbls:=λc ps q=>by obtain⟨m1,e1⟩:=a.tbls c ps q;obtain⟨m2,e2⟩:=b.tbls c _ e1;exact⟨m1++m2,by rw[e2,Yu]⟩
def Un.kept(k:∀b u,h.get? b=some u->h'.get? b=some u):Un fs ex H H h h':=
 ⟨λb ob q _ _ _=>k b ob q,λb ob q _ _ _=>⟨ob.slots,k b ob q⟩,λ_ _ _ n _=>n,λb ob q _=>⟨ob,k b ob q⟩,λ_ _ q=>q,λ_ _ _ q=>q,λ_ ps q=>⟨#[],by rw[q];simp⟩⟩
def Un.refl:Un fs ex H H h h:=Un.kept λ_ _ q=>q
def Un.laid(k:∀b u,h.get? b=some u->h'.get? b=some u)(hp:h.objs.size<=a)(hn:H a=none):Un fs ex H (upd H a o) h h' where
 keep:=λb u q _ _ _=>k b u q
 slot:=λb u q _ _ _=>⟨u.slots,k b u q⟩
 free:=λb u q n _=>by rw[aL (UH (UP (UA q) hp))];exact n
 there:=λb u q _=>⟨u,k b u q⟩
 tups:=λb xs q=>by rw[aL (bg q hn)];exact q
 frzs:=λb u xs q=>by rw[aL (bg q hn)];exact q
 tbls:=λb ps q=>⟨#[],by rw[aL (bg q hn),q];simp⟩
def Un.write(mu:N3 (H x))(he:e=x\/H e=some (.own x))(k:∀b u,b≠e->h.get? b=some u->h'.get? b=some u)(heo:∃u,h'.get? e=some u):Un fs ex H (upd H x o) h h':=by
 have hx:∀b,H b=none->b≠x:=λb n z=>by subst z;rw[n] at mu;exact mu
 have hb:∀b,H b=none->b≠e:=λb n z=>by
  subst z;rcases he with r|r
  ·exact hx b n r
  ·rw[n] at r;cases r
 have hm:∀b u,H b=some u->¬N3 (some u)->b≠x:=λb u q nm z=>by subst z;rw[q] at mu;exact nm mu
 refine⟨λb u q n _ _=>k b u (hb b n) q,λb u q n _ _=>⟨u.slots,k b u (hb b n) q⟩,λb u q n _=>by rw[aL (hx b n)];exact n,λb u q _=>?_,
  λb xs q=>by rw[aL (hm b _ q λz=>z)];exact q,λb u xs q=>by rw[aL (hm b _ q λz=>z)];exact q,λb ps q=>⟨#[],by rw[aL (hm b _ q λz=>z),q];simp⟩⟩
 by_cases hbe:b=e
 ·subst hbe;exact heo
 ·exact⟨u,k b u hbe q⟩
end
def Ql(h:Heap)(H:Hp):Zk:=(List.range h.objs.size).filter λa=>(H a).isSome
def y7(h:Heap)(H:Hp):Heap:=W.hideAll h (Ql h H)
def E1(h:Heap)(H:Hp):(y7 h H).objs.size=h.objs.size:=W.hideAll_size _ _
def GL{h:Heap}{H:Hp}{b:Addr}{o:Obj}(e:h.get? b=some o)(n:H b=none):(y7 h H).get? b=some o:=
 Xh _ e λhm=>by have q:(H b).isSome=true:=(Yv.1 hm).2;rw[n] at q;simp at q
def JR{b:Addr}{o:Obj}(e:(y7 h H).get? b=some o):h.get? b=some o/\H b=none:=by
 have e':h.get? b=some o:=Xi (Ql h H) e;refine⟨e',?_⟩;cases q:H b with
 |none=>rfl
 |some x=>have hm:b∈Ql h H:=Yv.2 ⟨VU.2 (UA e'),by simp[q]⟩;have z:(y7 h H).get? b=none:=W.hideAll_none (Ql h H) hm;rw[z] at e;cases e
def Ji(g h:Heap)(L:Addr):Zf:=(List.range h.objs.size).filterMap λa=>if a=L\/(g.get? a).isSome=true then none else (h.get? a).map λo=>(a,o)
def fA(g h:Heap)(L d:Addr):Zf:=(Ji g h L).filter λp=>decide (p.1≠d)
structure Mod(K:Zj)(mg:Zg)(base:Heap):Prop where
 kin:K.In base
 glob:base.Ns mainGlobals mg
 blt:∃mb,base.Ns builtinsNs mb/\∀x:Str,x ≠ "__name__" -> mb x=bootBuiltins x
 nolimit:base.NoLimit
structure Cx where
 prog:Program
 w:World
 K:Zj
 mg:Zg
 base:Heap
 A:Around
 N:Zl
 s₀:Shared
 H₀:Hp
 env:Env
 outer:List Env
 stack:List Env
 ex:Zk
 fn:Str->Bool
 calm:Bool
 pn:Zf
 xe:Ze
def mG(l:List Env):Zk:=l.filterMap (·.frame)
abbrev Cx.fs(X:Cx):Zk:=mG X.outer
def QI(sc:Scope)(x:Str):Prop:=sc.names.lookup x=some .local\/sc.names.lookup x=some .cell\/sc.names.lookup x=some .free
def I9(sc:Scope)(x:Str):Prop:=sc.names.lookup x=some .local\/sc.names.lookup x=some .cell
def Qz(env:Env)(h:Heap)(m:Zg)(x:Str)(u:Value):Prop:=
 (env.kindOf x=some .local/\m x=some u)\/((env.kindOf x=some .cell\/env.kindOf x=some .free)/\∃c,env.cells.lookup x=some c/\h.IsCell c (some u))
structure Cx.Ok(X:Cx):Prop where
 mod:Mod X.K X.mg X.base
 kind:X.env.scope.kind=.function
 glob:X.env.globals=mainGlobals
 blt:X.env.builtins=builtinsNs
 above:X.s₀.heap.objs.size<=X.env.locals
 inj:∀x y c,X.env.cells.lookup x=some c->X.env.cells.lookup y=some c->x=y
 has:∀x,(X.env.kindOf x=some .cell\/X.env.kindOf x=some .free)->∃c,X.env.cells.lookup x=some c
 cab:∀x c,X.fn x=true->X.env.cells.lookup x=some c->X.s₀.heap.objs.size<=c
 hd:X.calm=true->X.A.handled=none
 frames:X.A.frames=some X.stack
 stk:X.stack=X.outer\/(X.stack=X.env::X.outer/\X.env.frame=some X.env.locals)
 exf:∀b∈X.ex,b≠X.env.locals/\∀x c,X.env.cells.lookup x=some c->c≠b
 bs:∀b o,X.base.get? b=some o->X.s₀.heap.get? b=some o/\X.H₀ b=none
 bsz:X.base.objs.size<=X.s₀.heap.objs.size
 noex:∀b o,X.base.get? b=some o->b∉X.ex
 exfs:∀b∈X.ex,b∉X.fs
 funs:X.s₀.heap.FunFrames X.base X.outer
 frf:∀b∈X.fs,X.H₀ b=none
structure Inv(X:Cx)(ZL:Zf)(σ:List (Option V))(H:Hp)(s:Shared):Prop where
 ok:X.Ok
 os:s.os=X.s₀.os
 bare:AllBare s.gens
 base:Un X.fs X.ex X.H₀ H X.s₀.heap s.heap
 loc:∃m,s.heap.Ns X.env.locals m/\∀(i:Nat) (x:Str) (v:V),X.N[i]?=some x->σ[i]?=some (some v)->QI X.env.scope x->∃u,RelV v u/\Qz X.env s.heap m x u
 cell:∀x c,X.env.cells.lookup x=some c->∃v,s.heap.IsCell c v
 free:H X.env.locals=none
 freeC:∀x c,X.env.cells.lookup x=some c->H c=none
 pin:∀p∈X.pn++ZL,s.heap.get? p.1=some p.2/\H p.1=none/\p.1≠X.env.locals/\p.1∉X.fs/\∀v,p.2.data ≠ .cell v
 hok:HOk X.prog X.w H s.heap
 len:σ.length=X.N.length
section
variable {X:Cx}{ZL:Zf}{σ:List (Option V)}{H H':Hp}{s:Shared}{h':Heap}
def Cx.Ok.nofr(ok:X.Ok) {o:Obj}(e:X.base.get? b=some o):b∉X.fs:=λhb=>by have:=(ok.funs.mem hb).1;rw[e] at this;cases this
def Inv.bs(I:Inv X ZL σ H s):∀b o,X.base.get? b=some o->s.heap.get? b=some o/\H b=none:=λb o e=>
 ⟨I.base.keep b o (I.ok.bs b o e).1 (I.ok.bs b o e).2 (I.ok.nofr e) (I.ok.noex b o e),I.base.free b o (I.ok.bs b o e).1 (I.ok.bs b o e).2 (I.ok.noex b o e)⟩
def Inv.bk(I:Inv X ZL σ H s):∀b o,X.base.get? b=some o->s.heap.get? b=some o:=λb o e=>(I.bs b o e).1
def Inv.mod(I:Inv X ZL σ H s):Mod X.K X.mg X.base:=I.ok.mod
def Inv.kIn(I:Inv X ZL σ H s):X.K.In s.heap:=I.ok.mod.kin.keeps I.bk
def Inv.fr(I:Inv X ZL σ H s):∃m,Fr X.base X.env.locals s.heap m:=
 let ⟨m,hn,_⟩:=I.loc
 ⟨m,hn,I.bk,UD I.ok.bsz I.ok.above⟩
def Inv.lt(I:Inv X ZL σ H s):X.env.locals<s.heap.objs.size:=let ⟨_,hn,_⟩:=I.loc;hn.lt
def Inv.sz(I:Inv X ZL σ H s):X.s₀.heap.objs.size<=s.heap.objs.size:=UD I.ok.above (U1 I.lt)
def Inv.nofs(I:Inv X ZL σ H s){a:Addr}(h:s.heap.objs.size<=a):a∉X.fs:=λhb=>by obtain⟨_,o,ho,_⟩:=I.ok.funs.mem hb;exact absurd (UP (UA ho) (UD I.sz h)) (Vr _)
def Inv.cne(I:Inv X ZL σ H s):∀x c,X.env.cells.lookup x=some c->c≠X.env.locals:=λx c e z=>by obtain⟨v,o,ho,hd⟩:=I.cell x c e;obtain⟨m,⟨o',es,ep,ho',hd',_⟩,_⟩:=I.loc;rw[z,ho'] at ho;cases ho;rw[hd'] at hd;cases hd
def Inv.funs(I:Inv X ZL σ H s):s.heap.FunFrames X.base X.outer:=by
 have all:∀(l:List Env),(∀b∈mG l,b∈X.fs)->X.s₀.heap.FunFrames X.base l->s.heap.FunFrames X.base l:=by
  intro l;induction l with
  |nil=>intro _ _;trivial
  |cons env r ih=>intro hs hl;obtain⟨hk,⟨L,o,hf,hn,ho,hd⟩,hr⟩:=hl;have hL:L∈X.fs:=hs L (by unfold mG;rw[WG,hf];exact UL);obtain⟨sl,e⟩:=I.base.slot L o ho (I.ok.frf L hL) hL λz=>I.ok.exfs L z hL;exact⟨hk,⟨L,_,hf,hn,e,hd⟩,ih (λb hb=>hs b (by unfold mG;rw[WG,hf];exact UJ _ hb)) hr⟩
 exact all X.outer (λ_ hb=>hb) I.ok.funs
def Inv.stack(I:Inv X ZL σ H s):s.heap.FunFrames X.base X.stack:=by
 rcases I.ok.stk with e|⟨e,hf⟩
 ·rw[e];exact I.funs
 ·rw[e];obtain⟨m,hn,_⟩:=I.loc;refine .cons (by rw[I.ok.kind];decide) hf hn ?_ I.funs;exact Heap.get?_none_of_le (UD I.ok.bsz I.ok.above)
def Inv.stkSub(I:Inv X ZL σ H s):∀b∈mG X.stack,b∈X.env.locals::X.fs:=λb hb=>by
 rcases I.ok.stk with e|⟨e,hf⟩
 ·rw[e] at hb;exact UJ _ hb
 ·rw[e] at hb;unfold mG at hb;rw[WG,hf] at hb;exact hb
def Inv.stkFree(I:Inv X ZL σ H s):∀b∈mG X.stack,H b=none:=λb hb=>by
 rcases UC.1 (I.stkSub b hb) with e|hb
 ·rw[e];exact I.free
 ·obtain⟨_,o,ho,_⟩:=I.ok.funs.mem hb;exact I.base.free b o ho (I.ok.frf b hb) λz=>I.ok.exfs b z hb
def Inv.step{t':Nat}{d':Drawn}{ch:Zk}(I:Inv X ZL σ H s)
  (hch:∀b∈ch,(b∈X.ex\/X.s₀.heap.objs.size<=b)/\b≠X.env.locals/\(∀x c,X.env.cells.lookup x=some c->c≠b)/\∀p∈X.pn++ZL,p.1≠b)
  (keep:∀b o,b≠X.env.locals->b∉X.fs->b∉ch->s.heap.get? b=some o->H b=none->h'.get? b=some o)
  (slot:∀b o,b≠X.env.locals->b∈X.fs->b∉ch->s.heap.get? b=some o->H b=none->∃sl,h'.get? b=some { o with slots:=sl }) (free:∀b o,b∉ch->s.heap.get? b=some o->H b=none->H' b=none)
  (there:∀b o,b∉ch->s.heap.get? b=some o->∃o',h'.get? b=some o')
  (tups:∀b xs,H b=some (.tup xs)->H' b=some (.tup xs)) (frzs:∀b o u,H b=some (.frz o u)->H' b=some (.frz o u)) (tbls:∀b ps,H b=some (.tbl ps)->∃more,H' b=some (.tbl (ps++more)))
  (ns:∀m,s.heap.Ns X.env.locals m->h'.Ns X.env.locals m) (hok:HOk X.prog X.w H' h') (hg:AllBare g') :
  Inv X ZL σ H' { s with heap:=h',gens:=g',drawn:=d',toks:=t' }:=by
 have neL:∀b o,X.s₀.heap.get? b=some o->b≠X.env.locals:=λb o e=>UH (UP (UA e) I.ok.above);have neC:∀b o,X.s₀.heap.get? b=some o->b∉X.ex->b∉ch:=λb o e hx hb=>by
  rcases (hch b hb).1 with z|z
  ·exact hx z
  ·exact absurd (UP (UA e) z) (Vr _)
 have cellK:∀x c,X.env.cells.lookup x=some c->∀v,s.heap.IsCell c v->h'.IsCell c v:=λx c e v hpt0=>by
  obtain⟨o,ho,hd⟩:=hpt0;have nch:c∉ch:=λz=>(hch c z).2.2.1 x c e rfl;by_cases hc:c∈X.fs
  ·obtain⟨sl,q⟩:=slot c o (I.cne x c e) hc nch ho (I.freeC x c e);exact⟨_,q,hd⟩
  ·exact⟨o,keep c o (I.cne x c e) hc nch ho (I.freeC x c e),hd⟩
 refine⟨I.ok,I.os,hg,⟨λb o e n hb hx=>?_,λb o e n hb hx=>?_,λb o e n hx=>?_,λb o e hx=>?_,λb xs e=>tups b xs (I.base.tups b xs e),λb o xs e=>frzs b o xs (I.base.frzs b o xs e),λb ps e=>?_⟩,?_,λx c e=>?_,?_,λx c e=>?_,λp hp=>?_,hok,I.len⟩
 ·exact keep b o (neL b o e) hb (neC b o e hx) (I.base.keep b o e n hb hx) (I.base.free b o e n hx)
 ·obtain⟨sl,e1⟩:=I.base.slot b o e n hb hx;obtain⟨sl',e2⟩:=slot b _ (neL b o e) hb (neC b o e hx) e1 (I.base.free b o e n hx);exact⟨sl',e2⟩
 ·obtain⟨o',e1⟩:=I.base.there b o e hx;exact free b o' (neC b o e hx) e1 (I.base.free b o e n hx)
 ·obtain⟨o',e1⟩:=I.base.there b o e hx;exact there b o' (neC b o e hx) e1
 ·obtain⟨m1,e1⟩:=I.base.tbls b ps e;obtain⟨m2,e2⟩:=tbls b _ e1;exact⟨m1++m2,by rw[e2,Yu]⟩
 ·obtain⟨m,hn,hl⟩:=I.loc;refine⟨m,ns m hn,λi x v e1 e2 e3=>?_⟩;obtain⟨u,r,l⟩:=hl i x v e1 e2 e3;refine⟨u,r,?_⟩;rcases l with l|⟨k,c,e,z⟩
  ·exact .inl l
  ·exact .inr ⟨k,c,e,cellK x c e _ z⟩
 ·obtain⟨v,z⟩:=I.cell x c e;exact⟨v,cellK x c e v z⟩
 ·obtain⟨m,⟨o,_,_,ho,_⟩,_⟩:=I.loc;exact free _ o (λz=>(hch _ z).2.1 rfl) ho I.free
 ·obtain⟨v,o,ho,hd⟩:=I.cell x c e;exact free c o (λz=>(hch c z).2.2.1 x c e rfl) ho (I.freeC x c e)
 ·obtain⟨e,n,ne,nf,d⟩:=I.pin p hp;have nch:p.1∉ch:=λz=>(hch p.1 z).2.2.2 p hp rfl;exact⟨keep p.1 p.2 ne nf nch e n,free p.1 p.2 nch e n,ne,nf,d⟩
def Inv.un{t':Nat}(I:Inv X ZL σ H s)(u:Un X.fs [] H H' s.heap h')(hok:HOk X.prog X.w H' h'):Inv X ZL σ H' { s with heap:=h',toks:=t' }:=by
 obtain⟨m,⟨o,es,ep,ho,r⟩,_⟩:=id I.loc;obtain⟨sl,hL⟩:=u.any ho I.free (by simp);exact I.step (g':=s.gens) (d':=s.drawn) (ch:=[]) (λ_ z=>nomatch z) (λb o _ hb _ e n=>u.keep b o e n hb (by simp)) (λb o _ hb _ e n=>u.slot b o e n hb (by simp)) (λb o _ e n=>u.free b o e n (by simp)) (λb o _ e=>u.there b o e (by simp)) u.tups u.frzs u.tbls (λm' hm=>by
  obtain⟨o',es',ep',ho',r'⟩:=hm;rw[ho] at ho';cases ho'
  exact⟨_,es',ep',hL,r'⟩) hok I.bare
def Inv.call{t':Nat}{d':Drawn} (I:Inv X ZL σ H s)(u:Un (mG X.stack) ch H H' s.heap h')(hok:HOk X.prog X.w H' h')(hg:AllBare g')
  (hch:∀b∈ch,(b∈X.ex\/X.s₀.heap.objs.size<=b)/\b≠X.env.locals/\(∀x c,X.env.cells.lookup x=some c->c≠b)/\∀p∈X.pn++ZL,p.1≠b) :
  Inv X ZL σ H' { s with heap:=h',gens:=g',drawn:=d',toks:=t' }:=by
 obtain⟨m,⟨o,es,ep,ho,r⟩,_⟩:=id I.loc;obtain⟨sl,hL⟩:=u.any ho I.free λz=>(hch _ z).2.1 rfl;exact I.step (ch:=ch) hch (λb o hL hb hc e n=>u.keep b o e n (λz=>(UC.1 (I.stkSub b z)).elim hL hb) hc) (λb o _ _ hc e n=>u.any e n hc) (λb o hc e n=>u.free b o e n hc) (λb o hc e=>u.there b o e hc) u.tups u.frzs u.tbls (λm' hm=>by
  obtain⟨o',es',ep',ho',r'⟩:=hm;rw[ho] at ho';cases ho'
  exact⟨_,es',ep',hL,r'⟩) hok hg
def Inv.turned{t':Nat}{it:Addr}(I:Inv X ZL σ H s)(k:∀b o,b≠it->s.heap.get? b=some o->h'.get? b=some o)(hn:H it=none)(hL:it≠X.env.locals)
  (h1:it∈X.ex\/X.s₀.heap.objs.size<=it) (h2:∀x c,X.env.cells.lookup x=some c->c≠it) (h3:∀p∈X.pn++ZL,p.1≠it):Inv X ZL σ H { s with heap:=h',toks:=t' }:=by
 have nit:∀b u,H b=some u->b≠it:=λb u e z=>by rw[z,hn] at e;cases e
 refine I.step (g':=s.gens) (d':=s.drawn) (ch:=[it]) (λb hb=>?_) (λb o _ _ hc e _=>k b o (λz=>hc (by simp[z])) e) (λb o _ _ hc e _=>⟨o.slots,k b o (λz=>hc (by simp[z])) e⟩) (λ_ _ _ _ n=>n)
  (λb o hc e=>⟨o,k b o (λz=>hc (by simp[z])) e⟩) (λ_ _ e=>e) (λ_ _ _ e=>e) (λb ps e=>⟨#[],by rw[e];simp⟩) (λm hm=>?_) (λb u e=>?_) I.bare
 ·have e:b=it:=by simpa using hb
  subst e;exact⟨h1,hL,h2,h3⟩
 ·obtain⟨o,es,ep,ho,r⟩:=hm;exact⟨o,es,ep,k _ o (UB hL) ho,r⟩
 ·refine (I.hok b u e).stay (λc v hc q=>k c v ?_ q) (λ_ q=>q) λ_ _ q=>q;rcases hc with z|z
  ·rw[z];exact nit b u e
  ·exact nit c _ z
def Inv.tok(I:Inv X ZL σ H s)(t:Nat):Inv X ZL σ H { s with toks:=t }:=I.un (h':=s.heap) (t':=t) Un.refl I.hok
def Inv.kept{t':Nat}(I:Inv X ZL σ H s)(k:∀b u,s.heap.get? b=some u->h'.get? b=some u):Inv X ZL σ H { s with heap:=h',toks:=t' }:=I.un (Un.kept k) (I.hok.kept k)
def Inv.laid{a:Addr} {t':Nat}(I:Inv X ZL σ H s)(k:∀b u,s.heap.get? b=some u->h'.get? b=some u)(hp:s.heap.objs.size<=a)(new:ObjOk X.prog X.w (upd H a o) h' a o) :
  Inv X ZL σ (upd H a o) { s with heap:=h',toks:=t' }:=I.un (Un.laid k hp (I.hok.fresh hp)) (I.hok.laid k hp new)
def Inv.write{e:Addr} {t':Nat}(I:Inv X ZL σ H s)(mu:N3 (H x))(he:e=x\/H e=some (.own x))(k:∀b u,b≠e->s.heap.get? b=some u->h'.get? b=some u)(heo:∃u,h'.get? e=some u)
  (new:ObjOk X.prog X.w (upd H x o) h' x o):Inv X ZL σ (upd H x o) { s with heap:=h',toks:=t' }:=I.un (Un.write mu he k heo) (I.hok.write mu he k heo new)
def Inv.weak{σ':List (Option V)}(I:Inv X ZL σ H s)(hl:σ'.length=σ.length)(w:∀(i:Nat) v,σ'[i]?=some (some v)->σ[i]?=some (some v)):Inv X ZL σ' H s:=
 ⟨I.ok,I.os,I.bare,I.base,let ⟨m,hn,hl'⟩:=I.loc;⟨m,hn,λi x v e1 e2 e3=>hl' i x v e1 (w i v e2) e3⟩,I.cell,I.free,I.freeC,I.pin,I.hok,hl.trans I.len⟩
def Inv.pins_of{pins':Zf}(I:Inv X ZL σ H s)(h:∀p∈pins',s.heap.get? p.1=some p.2/\H p.1=none/\p.1≠X.env.locals/\p.1∉X.fs/\∀v,p.2.data ≠ .cell v):Inv X pins' σ H s:=
 ⟨I.ok,I.os,I.bare,I.base,I.loc,I.cell,I.free,I.freeC,λp hp=>(U7.1 hp).elim (λz=>I.pin p (UW _ z)) (h p),I.hok,I.len⟩
def wa{N:Zl}(hN:N.Nodup){i j:Nat}{x:Str}(a:N[i]?=some x)(b:N[j]?=some x):i=j:=by obtain⟨h1,e1⟩:=UX.1 a;obtain⟨h2,e2⟩:=UX.1 b;exact (List.getElem_inj hN).mp (e1.trans e2.symm)
def FB{i:Nat}{x:Str} {Q:Unit->Shared->Prop}(I:Inv X ZL σ H s)(hN:X.N.Nodup)(hi:X.N[i]?=some x)(hx:I9 X.env.scope x)(r:RelV v u)
  (h:∀s',Inv X ZL (σ.set i (some v)) H s'->(∃a,Heap.SameBut a s.heap s'.heap/\(a=X.env.locals\/X.env.cells.lookup x=some a))->Q Unit.unit s') (hf:X.fn x=true\/X.env.scope.names.lookup x=some .local:=by first|exact .inl rfl|exact .inr rfl|assumption):wpAny M A (storeName X.env x u) Q E s:=by
 obtain⟨m,hn,hl⟩:=id I.loc;have hcls:(X.env.scope.kind == .class || (X.env.scope.kind == .module&&X.env.locals != X.env.globals))=false:=by rw[I.ok.kind];rfl
 have hiσ:i<σ.length:=by rw[I.len];exact (UX.1 hi).1
 have cne:=I.cne;have tracked:∀ {a:Addr} {h':Heap},(∃o,s.heap.get? a=some o/\H a=none)->Heap.SameBut a s.heap h'->HOk X.prog X.w H h':=λ{a h'} ha hs b ob e=>by
  obtain⟨_,_,hfree⟩:=ha;refine (I.hok b ob e).stay (λc w' hc q=>(hs.2 c ?_).trans q) (λ_ q=>q) λ_ _ q=>q;rintro rfl;rcases hc with rfl|hc
  ·rw[hfree] at e;cases e
  ·rw[hfree] at hc;cases hc
 rcases hx with hk|hk
 ·refine Yw hk hn (λh' hn' hs=>?_) hcls;obtain⟨oL,_,_,hoL,_⟩:=id hn;refine h _ ⟨I.ok,I.os,I.bare,⟨λb o e n hb hx=>?_,λb o e n hb hx=>?_,I.base.free,λb o e hx=>?_,I.base.tups,I.base.frzs,I.base.tbls⟩,⟨_,hn',λj y v' e1 e2 e3=>?_⟩,λy c e=>?_,I.free,I.freeC,λp hp=>?_,tracked ⟨oL,hoL,I.free⟩ hs,by simpa using I.len⟩ ⟨_,hs,.inl rfl⟩
  ·exact (hs.2 b (UH (UP (UA e) I.ok.above))).trans (I.base.keep b o e n hb hx)
  ·obtain⟨sl,e1⟩:=I.base.slot b o e n hb hx;exact⟨sl,(hs.2 b (UH (UP (UA e) I.ok.above))).trans e1⟩
  ·obtain⟨o',e1⟩:=I.base.there b o e hx;exact⟨o',(hs.2 b (UH (UP (UA e) I.ok.above))).trans e1⟩
  ·by_cases hj:j=i
   ·subst hj;rw[hi] at e1;cases e1;rw[Vs hiσ] at e2;cases e2;exact⟨u,r,.inl ⟨hk,by simp⟩⟩
   ·rw[UQ (UB hj)] at e2;obtain⟨u',r',q⟩:=hl j y v' e1 e2 e3;refine⟨u',r',?_⟩;rcases q with ⟨k,e⟩|⟨k,c,e,z⟩
    ·refine .inl ⟨k,?_⟩;have:y≠x:=λe=>hj (wa hN e1 (e▸hi));simp[this,e]
    ·exact .inr ⟨k,c,e,z.sameBut hs (cne y c e)⟩
  ·obtain⟨w',z⟩:=I.cell y c e;exact⟨w',z.sameBut hs (cne y c e)⟩
  ·obtain⟨e,n,ne,nf,d⟩:=I.pin p hp;exact⟨(hs.2 p.1 ne).trans e,n,ne,nf,d⟩
 ·have hfn:X.fn x=true:=by
   rcases hf with z|z
   ·exact z
   ·rw[z] at hk;cases hk
  obtain⟨c,hc⟩:=I.ok.has x (.inl hk);obtain⟨w',z⟩:=I.cell x c hc;refine wpAny_storeName_cell I.ok.kind hk hc z (λh' hc' hs=>?_);obtain⟨oc,hoc,hocd⟩:=id z;refine h { s with heap:=h' } ⟨I.ok,I.os,I.bare,⟨λb o e n hb hx=>?_,λb o e n hb hx=>?_,I.base.free,λb o e hx=>?_,I.base.tups,I.base.frzs,I.base.tbls⟩,⟨m,hn.sameBut hs (UB (cne x c hc)),λj y v' e1 e2 e3=>?_⟩,λy c' e=>?_,I.free,I.freeC,λp hp=>?_,tracked ⟨oc,hoc,I.freeC x c hc⟩ hs,by simpa using I.len⟩ ⟨c,hs,.inr hc⟩
  ·exact (hs.2 b (UH (UP (UA e) (I.ok.cab x c hfn hc)))).trans (I.base.keep b o e n hb hx)
  ·obtain⟨sl,e1⟩:=I.base.slot b o e n hb hx;exact⟨sl,(hs.2 b (UH (UP (UA e) (I.ok.cab x c hfn hc)))).trans e1⟩
  ·obtain⟨o',e1⟩:=I.base.there b o e hx;exact⟨o',(hs.2 b (UH (UP (UA e) (I.ok.cab x c hfn hc)))).trans e1⟩
  ·by_cases hj:j=i
   ·subst hj;rw[hi] at e1;cases e1;rw[Vs hiσ] at e2;cases e2;exact⟨u,r,.inr ⟨.inl hk,c,hc,hc'⟩⟩
   ·rw[UQ (UB hj)] at e2;obtain⟨u',r',q⟩:=hl j y v' e1 e2 e3;refine⟨u',r',?_⟩;rcases q with q|⟨k,c',e,z'⟩
    ·exact .inl q
    ·refine .inr ⟨k,c',e,z'.sameBut hs ?_⟩;rintro rfl;exact hj (wa hN e1 (I.ok.inj _ _ _ e hc▸hi))
  ·by_cases hcc:c'=c
   ·subst hcc;exact⟨_,hc'⟩
   ·obtain⟨w2,z2⟩:=I.cell y c' e;exact⟨w2,z2.sameBut hs hcc⟩
  ·obtain⟨e,n,ne,nf,d⟩:=I.pin p hp;refine⟨(hs.2 p.1 ?_).trans e,n,ne,nf,d⟩;intro q;rw[q,hoc] at e;have q':oc=p.2:=U6 e;exact d w' (by rw[<-q'];exact hocd)
def wP{M:Model}{A:Around}{E:Ze}{i:Nat}{x:Str}{v:V}{u:Value}{Q:Unit->Shared->Prop}(I:Inv X ZL σ H s)(hN:X.N.Nodup)(hi:X.N[i]?=some x)(hx:I9 X.env.scope x)(r:RelV v u)
  (h:∀s',Inv X ZL (σ.set i (some v)) H s'->Q Unit.unit s') (hf:X.fn x=true\/X.env.scope.names.lookup x=some .local:=by first|exact .inl rfl|exact .inr rfl|assumption):wpAny M A (storeName X.env x u) Q E s:=
 FB I hN hi hx r (λs' I' _=>h s' I') hf
def Inv.call'{s':Shared} (I:Inv X ZL σ H s)(ho:s'.os=s.os)(u:Un (mG X.stack) ch H H' s.heap s'.heap)(hok:HOk X.prog X.w H' s'.heap)(hg:AllBare s'.gens)
  (hch:∀b∈ch,(b∈X.ex\/X.s₀.heap.objs.size<=b)/\b≠X.env.locals/\(∀x c,X.env.cells.lookup x=some c->c≠b)/\∀p∈X.pn++ZL,p.1≠b):Inv X ZL σ H' s':=by
 obtain⟨h',g',d',t',o'⟩:=s';have e:o'=s.os:=ho;subst e;exact I.call (g':=g') (t':=t') (d':=d') u hok hg hch
end
abbrev XK:=Value->Option Addr->Hp->Prop
abbrev St:=List (Option V)
abbrev VK:=V->Hp->Prop
abbrev TE:=St->Hp->VK->Prop
abbrev TT:=St->Hp->(Bool->Hp->Prop)->Prop
abbrev TA:=St->Hp->(Za->Hp->Prop)->Prop
structure Ends where
 nx:St->Hp->Prop
 rt:VK
 bk:St->Hp->Prop:=λ_ _=>False
 ct:St->Hp->Prop:=λ_ _=>False
abbrev TS:=Ends->St->Hp->Prop
def EP(X:Cx)(ZL:Zf)(σ:St)(Q:VK)(u:Value)(s':Shared):Prop:=∃v H',Inv X ZL σ H' s'/\RelV v u/\Q v H'
def TP(X:Cx)(ZL:Zf)(σ:St)(Q:Bool->Hp->Prop)(b:Bool)(s':Shared):Prop:=∃H',Inv X ZL σ H' s'/\Q b H'
def AP(X:Cx)(ZL:Zf)(σ:St)(Q:Za->Hp->Prop)(us:Zh)(s':Shared):Prop:=∃vs H',Inv X ZL σ H' s'/\Vals vs us/\Q vs H'
def SP(X:Cx)(ZL:Zf)(D:Ends)(f:Flow)(s':Shared):Prop:=
 match f with
 |.next=>∃σ' H',Inv X ZL σ' H' s'/\D.nx σ' H'
 |.brk=>∃σ' H',Inv X ZL σ' H' s'/\D.bk σ' H'
 |.cont=>∃σ' H',Inv X ZL σ' H' s'/\D.ct σ' H'
 |.ret u=>∃v σ' H',Inv X ZL σ' H' s'/\RelV v u/\D.rt v H'
def PE(X:Cx)(e:Expr)(t:TE):Prop:=
 ∀(ZL:Zf) (s:Shared) (σ:St) (H:Hp) (Q:VK),Inv X ZL σ H s->t σ H Q->wpAny (model X.prog X.w) X.A (eval e X.env) (EP X ZL σ Q) X.xe s
def PT(X:Cx)(e:Expr)(t:TT):Prop:=
 ∀(ZL:Zf) (s:Shared) (σ:St) (H:Hp) (Q:Bool->Hp->Prop),Inv X ZL σ H s->t σ H Q->wpAny (model X.prog X.w) X.A (isTrue e X.env (eval e X.env)) (TP X ZL σ Q) X.xe s
def PW(X:Cx)(e:Expr)(t:TT):Prop:=
 ∀(whole:Sem Value) (ZL:Zf) (s:Shared) (σ:St) (H:Hp) (Q:Bool->Hp->Prop),Inv X ZL σ H s->t σ H Q->wpAny (model X.prog X.w) X.A (isTrue e X.env whole) (TP X ZL σ Q) X.xe s
def PW.pt{X:Cx}{e:Expr}{t:TT}(h:PW X e t):PT X e t:=h _
def PA(X:Cx)(es:List Expr)(t:TA):Prop:=
 ∀(pos:Pos) (ZL:Zf) (s:Shared) (σ:St) (H:Hp) (Q:Za->Hp->Prop),Inv X ZL σ H s->t σ H Q->wpAny (model X.prog X.w) X.A (spliced (backTo pos (starEach es X.env))) (AP X ZL σ Q) X.xe s
def PS(X:Cx)(st:Stmt)(t:TS):Prop:=
 ∀(ZL:Zf) (s:Shared) (σ:St) (H:Hp) (D:Ends),Inv X ZL σ H s->t D σ H->wpAny (model X.prog X.w) X.A (exec st X.env) (SP X ZL D) X.xe s
def PSs(X:Cx)(st:List Stmt)(t:TS):Prop:=
 ∀(ZL:Zf) (s:Shared) (σ:St) (H:Hp) (D:Ends),Inv X ZL σ H s->t D σ H->wpAny (model X.prog X.w) X.A (execs st X.env) (SP X ZL D) X.xe s
def cr{α:Type}{t:Sem α}{Q Q':α->Shared->Prop}{M:Model}{A:Around}{E:Ze}{s:Shared}(h:wpAny M A t Q E s)(hQ:∀a s,Q a s->Q' a s):wpAny M A t Q' E s:=UO h hQ λ_ _ x=>x
section
variable {X:Cx}
def j4(i:Nat):TE:=λσ H Q=>∃v,σ[i]?=some (some v)/\Q v H
def tC(v:V):TE:=λ_ H Q=>Q v H
def MX{i:Nat}{x:Str}{pos:Pos}(hN:X.N[i]?=some x)(hv:QI X.env.scope x)(hd:(x==("__debug__" : Str))=false:=by decide) (hcd:(x==("__classdict__" : Str))=false:=by decide):PE X (.Name x pos) (j4 i):=by
 intro ZL s σ H Q I h;obtain⟨v,e,h⟩:=h;obtain⟨m,hn,hl⟩:=I.loc;obtain⟨u,r,l⟩:=hl i x v hN e hv;have fin:EP X ZL σ Q u s:=⟨v,H,I,r,h⟩
 rcases l with ⟨hk,hm⟩|⟨hk,c,hc,hcell⟩
 ·exact Xj (wpAny_loadName_local I.ok.kind hk hn hm fin) hd
 ·rcases hk with hk|hk
  ·exact Xj (wpAny_loadName_cell I.ok.kind hk hc hcell fin) hd
  ·exact Xj (wpAny_loadName_free I.ok.kind hk hc hcell fin hcd) hd
def aC{i j pos}:PE X (.Constant (.int i) j pos) (tC (.int i)):=λ_ _ _ H _ I h=>wpAny_Constant_int ⟨.int i,H,I.tok _,⟨_,rfl⟩,h⟩
def nH{b j pos}:PE X (.Constant (.bool b) j pos) (tC (.bl b)):=λ_ _ _ H _ I h=>Constant_bool ⟨.bl b,H,I,rfl,h⟩
def wj{j pos}:PE X (.Constant .none j pos) (tC .non):=λ_ _ _ H _ I h=>Constant_none ⟨.non,H,I,rfl,h⟩
def aj{x j pos}:PE X (.Constant (.str x) j pos) (tC (.str x)):=λ_ _ _ H _ I h=>Yx ⟨.str x,H,I.tok _,⟨_,rfl⟩,h⟩
def Gl(X:Cx)(x:Str):Prop:=X.env.kindOf x=some .globalImplicit
def gH{ZL:Zf} {u:Value}{pos:Pos}{Q:Ze}(I:Inv X ZL σ H s)(hg:Gl X x)(hm:X.mg x=some u)(h:Q u s)
  (hd:(x==("__debug__" : Str))=false:=by decide):wpAny (model X.prog X.w) X.A (eval (.Name x pos) X.env) Q E s:=
 Yy I.ok.kind hg (Calls.loadGlobal_global (by rw[I.ok.glob];exact I.mod.glob.keeps I.bk) hm h) hd
def y9{E:Ze}{ZL:Zf}{s:Shared}{σ:St}{H:Hp}{x:Str}{u:Value}{pos:Pos}{Q:Ze}(I:Inv X ZL σ H s)(hg:Gl X x)(hm:X.mg x=none)(hv:bootBuiltins x=some u)(h:Q u s)
  (hn:x ≠ "__name__" := by decide) (hd:(x==("__debug__" : Str))=false:=by decide):wpAny (model X.prog X.w) X.A (eval (.Name x pos) X.env) Q E s:=by
 obtain⟨mb,h1,h2⟩:=I.mod.blt;exact Yy I.ok.kind hg (Calls.loadGlobal_builtin (by rw[I.ok.glob];exact I.mod.glob.keeps I.bk) hm (by rw[I.ok.blt];exact h1.keeps I.bk) ((h2 x hn).trans hv) h) hd
def ja{u:Value}{pos:Pos}(hg:Gl X x)(hm:X.mg x=some u)(r:RelV v u)(hd:(x==("__debug__" : Str))=false:=by decide):PE X (.Name x pos) (tC v):=
 λ_ _ _ H _ I h=>gH I hg hm ⟨v,H,I,r,h⟩ hd
def l4{u:Value}{pos:Pos}(hg:Gl X x)(hm:X.mg x=none)(hv:bootBuiltins x=some u)(r:RelV v u)(hn:x ≠ "__name__" := by decide) (hd:(x==("__debug__" : Str))=false:=by decide):PE X (.Name x pos) (tC v):=
 λ_ _ _ H _ I h=>y9 I hg hm hv ⟨v,H,I,r,h⟩ hn hd
variable {a b:Expr}{ta tb:TE}{pos:Pos}
def PC(X:Cx)(op:CmpOp)(a b:Expr)(t:TE):Prop:=
 ∀(ZL:Zf) (s:Shared) (σ:St) (H:Hp) (Q:VK),Inv X ZL σ H s->t σ H Q ->
  wpAny (model X.prog X.w) X.A (eval a X.env) (λv s₁=>wpAny (model X.prog X.w) X.A (eval b X.env) (λu s₂=>wpAny (model X.prog X.w) X.A (compareOp op v u) (EP X ZL σ Q) X.xe s₂) X.xe s₁) X.xe s
def tB(t:TE):TT:=λσ H Q=>t σ H λx H1=>∃c,x=.bl c/\Q c H1
def zn{op:CmpOp}{t:TE}(h:PC X op a b t)(h1:behindInMarks op b=false:=by first|exact nobehind _ (by decide) (by decide)|rfl):PT X (.Compare a [op] [b] pos) (tB t):=by intro ZL s σ H Q I hw;refine Yz (cr (h ZL s σ H _ I hw) λv s1 h1=>cr h1 λu s2 h2=>cr h2 λc s3 ZN=>?_) h1;obtain⟨x,H1,I1,r1,q1⟩:=ZN;obtain⟨d,rfl,q⟩:=q1;cases r1;exact VN ⟨H1,I1,q⟩
variable {tA tB':TT}{fA:List Expr}
def Pq(t u:TT):TT:=λσ H Q=>t σ H λc H1=>if c=true then u σ H1 Q else Q false H1
def Q2(t u:TT):TT:=λσ H Q=>t σ H λc H1=>if c=true then Q true H1 else u σ H1 Q
def Pu(t:TT):TT:=λσ H Q=>t σ H λc H1=>Q (!c) H1
def l7(ha:PT X a tA):PW X (.BoolOp .And [a] pos) tA:=by
 intro wh ZL s σ H Q I h;refine isTrue_and (cr (ha ZL s σ H Q I h) λc s1 e=>?_);cases c with
 |true=>exact isTrue_and_nil e
 |false=>exact e
def nN(ha:PT X a tA):PW X (.BoolOp .Or [a] pos) tA:=by
 intro wh ZL s σ H Q I h;refine isTrue_or (cr (ha ZL s σ H Q I h) λc s1 e=>?_);cases c with
 |false=>exact isTrue_or_nil e
 |true=>exact e
def qq(ha:PT X a tA)(hb:PW X (.BoolOp .And (b::fA) pos) tB'):PW X (.BoolOp .And (a::b::fA) pos) (Pq tA tB'):=by
 intro wh ZL s σ H Q I h;refine isTrue_and (cr (ha ZL s σ H _ I h) λc s1 ZN=>?_);obtain⟨H1,I1,q1⟩:=ZN;cases c with
 |true=>exact hb wh ZL s1 σ H1 Q I1 q1
 |false=>exact⟨H1,I1,q1⟩
def nM(ha:PT X a tA)(hb:PW X (.BoolOp .Or (b::fA) pos) tB'):PW X (.BoolOp .Or (a::b::fA) pos) (Q2 tA tB'):=by
 intro wh ZL s σ H Q I h;refine isTrue_or (cr (ha ZL s σ H _ I h) λc s1 ZN=>?_);obtain⟨H1,I1,q1⟩:=ZN;cases c with
 |true=>exact⟨H1,I1,q1⟩
 |false=>exact hb wh ZL s1 σ H1 Q I1 q1
def fN(ha:PT X a tA):PT X (.UnaryOp .Not a pos) (Pu tA):=by intro ZL s σ H Q I h;exact isTrue_not (ha ZL s σ H (λc H1=>Q (!c) H1) I h)
def Ii(ta tb:TE):TE:=λσ H Q=>ta σ H λx H1=>∃c,x=.bl c/\if c=true then tb σ H1 Q else Q (.bl false) H1
def Ht{op} (h:PE X a t):PE X (.BoolOp op [a] pos) t:=λZL s σ H Q I hw=>BoolOp_one (h ZL s σ H Q I hw)
def CH(ha:PE X a ta)(hb:PE X (.BoolOp .And (b::fA) pos) tb):PE X (.BoolOp .And (a::b::fA) pos) (Ii ta tb):=by
 intro ZL s σ H Q I h;refine BoolOp_and (cr (ha ZL s σ H _ I h) λv s1 ZN=>?_);obtain⟨x,H1,I1,r1,q1⟩:=ZN;obtain⟨c,rfl,q1⟩:=q1;cases r1;refine VN ?_;cases c with
 |true=>exact hb ZL s1 σ H1 Q I1 q1
 |false=>exact⟨.bl false,H1,I1,rfl,q1⟩
def Sn(t:TT)(ta tb:TE):TE:=λσ H Q=>t σ H λc H1=>if c=true then ta σ H1 Q else tb σ H1 Q
def A3{c:Expr}(hc:PT X c tA)(ha:PE X a ta)(hb:PE X b tb):PE X (.IfExp c a b pos) (Sn tA ta tb):=by
 intro ZL s σ H Q I h;refine wpAny_IfExp (cr (hc ZL s σ H _ I h) λd s1 ZN=>?_);obtain⟨H1,I1,q1⟩:=ZN;cases d with
 |true=>exact ha ZL s1 σ H1 Q I1 q1
 |false=>exact hb ZL s1 σ H1 Q I1 q1
end
def SqL(K:Zj)(H:Hp)(a:Addr)(xs:Za):Prop:=
 Rd H a (.lst xs) \/
  ∃(o:Obj) (its:Array Value) (n:Nat),K.lookup a=some o/\o.cls=.type "list" /\ o.dict=none/\o.data=.seq its n/\its.size<=sizeLine/\Vals xs its.toList
def SqT(K:Zj)(H:Hp)(a:Addr)(xs:Za):Prop:=
 Rd H a (.tup xs) \/
  ∃(o:Obj) (its:Array Value) (n:Nat),K.lookup a=some o/\o.cls=.type "tuple" /\ o.data=.seq its n/\its.size<=sizeLine/\Vals xs its.toList
def QJ:Value->Option V
 |.none=>some .non
 |.bool b=>some (.bl b)
 |.int i _=>some (.int i)
 |.str x _=>some (.str x)
 |.bytes b _=>some (.byt b)
 |.float b _=>some (.flt b)
 |.ref a=>some (.ref a)
 |.type n=>some (.ty n)
 |_=>none
def RelV.abs(r:RelV x u):QJ u=some x:=by
 cases x with
 |non=>cases r;rfl
 |bl _=>cases r;rfl
 |int _=>obtain⟨t,rfl⟩:=r;rfl
 |str _=>obtain⟨t,rfl⟩:=r;rfl
 |byt _=>obtain⟨t,rfl⟩:=r;rfl
 |flt _=>obtain⟨t,rfl⟩:=r;rfl
 |ref _=>cases r;rfl
 |ty _=>cases r;rfl
def RelV.inj(r:RelV x u)(q:RelV y u):x=y:=U6 (r.abs.symm.trans q.abs)
def Vals.inj{xs ys:Za}{us:Zh}(h:Vals xs us)(k:Vals ys us):xs=ys:=by
 induction h generalizing ys with
 |nil=>cases k;rfl
 |cons r t ih=>
  cases k with
  |cons r' t'=>rw[r.inj r',ih t']
section
variable {X:Cx}{ZL:Zf}{σ:St}{H:Hp}{s:Shared}{a:Addr}{xs ys:Za}
def SqL.of{K:Zj}(h:H a=some (.lst xs)):SqL K H a xs:=.inl (.inl h)
def SqT.of{K:Zj}(h:H a=some (.tup xs)):SqT K H a xs:=.inl (.inl h)
def Inv.list(I:Inv X ZL σ H s)(h:SqL X.K H a xs):∃its:Zh,Vals xs its/\PlainL s.heap a its.toArray/\xs.length<=sizeLine:=by
 rcases h with h|⟨o,its,n,hk,hc,hd,hs,hz,r⟩
 ·obtain⟨z,its,n,r,e⟩:=h.ok I.hok;exact⟨its,r,⟨_,n,e,rfl,rfl,rfl⟩,z⟩
 ·refine⟨its.toList,r,⟨o,n,I.kIn a o hk,hc,hd,by simpa using hs⟩,?_⟩;have e:=r.length;simp only[Wf] at e;lia
def Inv.tuple(I:Inv X ZL σ H s)(h:SqT X.K H a xs):∃its:Zh,Vals xs its/\IsTup s.heap a its.toArray/\xs.length<=sizeLine:=by
 rcases h with h|⟨o,its,n,hk,hc,hs,hz,r⟩
 ·obtain⟨z,its,r,p⟩:=h.ok I.hok;exact⟨its,r,p.tup,z⟩
 ·refine⟨its.toList,r,⟨o,I.kIn a o hk,hc,n,by simpa using hs⟩,?_⟩;have e:=r.length;simp only[Wf] at e;lia
def Inv.list_inj(I:Inv X ZL σ H s)(h:SqL X.K H a xs)(h':SqL X.K H a ys):xs=ys:=by
 obtain⟨its,r,⟨o,n,e,_,_,d⟩,_⟩:=I.list h;obtain⟨its',r',⟨o',n',e',_,_,d'⟩,_⟩:=I.list h';rw[e] at e';cases e';rw[d] at d';injection d' with d1 _
 have:its=its':=by simpa using U5 Array.toList d1
 subst this;exact r.inj r'
def Inv.tuple_inj(I:Inv X ZL σ H s)(h:SqT X.K H a xs)(h':SqT X.K H a ys):xs=ys:=by
 obtain⟨its,r,⟨o,e,_,n,d⟩,_⟩:=I.tuple h;obtain⟨its',r',⟨o',e',_,n',d'⟩,_⟩:=I.tuple h';rw[e] at e';cases e';rw[d] at d';injection d' with d1 _
 have:its=its':=by simpa using U5 Array.toList d1
 subst this;exact r.inj r'
end
abbrev Cx.wish(X:Cx)(E:Ze):Cx:={ X with xe:=E }
abbrev Cx.nox(X:Cx):Cx:=X.wish λ_ _=>False
def Cx.Ok.wish{X:Cx}(ok:X.Ok)(E:Ze):(X.wish E).Ok:=
 ⟨ok.mod,ok.kind,ok.glob,ok.blt,ok.above,ok.inj,ok.has,ok.cab,ok.hd,ok.frames,ok.stk,ok.exf,ok.bs,ok.bsz,ok.noex,ok.exfs,ok.funs,ok.frf⟩
def Cx.Ok.unwish{X:Cx}{E:Ze}(ok:(X.wish E).Ok):X.Ok:=
 ⟨ok.mod,ok.kind,ok.glob,ok.blt,ok.above,ok.inj,ok.has,ok.cab,ok.hd,ok.frames,ok.stk,ok.exf,ok.bs,ok.bsz,ok.noex,ok.exfs,ok.funs,ok.frf⟩
section
variable {X:Cx}{ZL:Zf}{σ:St}{H:Hp}{s:Shared}{E:Ze}
def Inv.wish(I:Inv X ZL σ H s)(E:Ze):Inv (X.wish E) ZL σ H s:=⟨I.ok.wish E,I.os,I.bare,I.base,I.loc,I.cell,I.free,I.freeC,I.pin,I.hok,I.len⟩
def Inv.unwish(I:Inv (X.wish E) ZL σ H s):Inv X ZL σ H s:=⟨I.ok.unwish,I.os,I.bare,I.base,I.loc,I.cell,I.free,I.freeC,I.pin,I.hok,I.len⟩
def SP.unwish{s':Shared}(h:SP (X.wish E) ZL D f s'):SP X ZL D f s':=by
 cases f with
 |next=>obtain⟨σ',H',I,q⟩:=h;exact⟨σ',H',I.unwish,q⟩
 |brk=>obtain⟨σ',H',I,q⟩:=h;exact⟨σ',H',I.unwish,q⟩
 |cont=>obtain⟨σ',H',I,q⟩:=h;exact⟨σ',H',I.unwish,q⟩
 |ret u=>obtain⟨v,σ',H',I,r,q⟩:=h;exact⟨v,σ',H',I.unwish,r,q⟩
def PSs.nox{st:List Stmt} (h:PSs X.nox st t):PSs X st t:=λZL s σ H D I hw=>
 UO (h ZL s σ H D (I.wish _) hw) (λ_ _ q=>q.unwish) λ_ _ z=>False.elim z
end
section
variable {X:Cx}{st:Stmt}{fA:List Stmt}{t u:TS}{e:Expr}{te:TE}{pos:Pos}
def BD:TS:=λD σ H=>D.nx σ H
def C8(t u:TS):TS:=λD σ H=>t { D with nx:=u D } σ H
def aP:PSs X [] BD:=λ_ _ σ H _ I h=>Wg ⟨σ,H,I,h⟩
def au(h1:PS X st t)(h2:PSs X fA u):PSs X (st::fA) (C8 t u):=by
 intro ZL s σ H D I h;refine VV (cr (h1 ZL s σ H { D with nx:=u D } I h) λf s1 q=>?_);cases f with
 |next=>
  obtain⟨σ',H',I',q⟩:=q;exact h2 ZL s1 σ' H' D I' q
 |ret v|brk|cont=>exact q
def av(h1:PS X st t):PSs X [st] t:=by
 intro ZL s σ H D I h;refine VV (cr (h1 ZL s σ H D I h) λf s1 q=>?_);cases f with
 |next=>exact Wg q
 |ret v|brk|cont=>exact q
def Inv.quiet{ZL:Zf}{σ:St}{H:Hp}{s:Shared}(I:Inv X ZL σ H s):interactive X.env=false:=by simp[interactive,I.ok.kind]
def si(te:TE):TS:=λD σ H=>te σ H λ_ H1=>D.nx σ H1
def dB(he:PE X e te)(hs:swapsWith e none pos.line X.env=pure false:=by rfl):PS X (.Expr e pos) (si te):=by intro ZL s σ H D I h;exact wpAny_Expr_any (cr (he ZL s σ H _ I h) λv s1 ⟨x,H1,I1,r1,q1⟩=>⟨σ,H1,I1,q1⟩) I.quiet hs
def FG(te:TE):TS:=λD σ H=>te σ H D.rt
def aR(he:PE X e te):PS X (.Return (some e) pos) (FG te):=by intro ZL s σ H D I h;exact YA (cr (he ZL s σ H _ I h) λv s1 ⟨x,H1,I1,r1,q1⟩=>⟨x,σ,H1,I1,r1,q1⟩)
def KP(c:TT)(t u:TS):TS:=λD σ H=>c σ H λb H1=>if b=true then t D σ H1 else u D σ H1
def bd{c:Expr}{a b:List Stmt}{tc:TT}(hc:PT X c tc)(ha:PSs X a t)(hb:PSs X b u):PS X (.If c a b pos) (KP tc t u):=by
 intro ZL s σ H D I h;refine wpAny_If (cr (hc ZL s σ H _ I h) λd s1 ZN=>?_);obtain⟨H1,I1,q1⟩:=ZN;cases d with
 |true=>exact ha ZL s1 σ H1 D I1 q1
 |false=>exact hb ZL s1 σ H1 D I1 q1
def cw:TS:=λ_ _ _=>False
def bV:PS X st cw:=λ_ _ _ _ _ _ h=>h.elim
def yl:PSs X sts cw:=λ_ _ _ _ _ _ h=>h.elim
end
abbrev TG:=V->St->Hp->(St->Hp->Prop)->Prop
abbrev Je:=Za->St->Hp->(St->Hp->Prop)->Prop
def PG(X:Cx)(target:Expr)(t:TG):Prop:=
 ∀(ZL:Zf) (s:Shared) (σ:St) (H:Hp) (v:V) (u:Value) (Q:St->Hp->Prop),Inv X ZL σ H s->RelV v u->t v σ H Q ->
  wpAny (model X.prog X.w) X.A (assign target X.env u) (λ_ s'=>∃σ' H',Inv X ZL σ' H' s'/\Q σ' H') X.xe s
def PY(X:Cx)(ts:List Expr)(t:Je):Prop:=
 ∀(ZL:Zf) (s:Shared) (σ:St) (H:Hp) (vs:Za) (us:Zh) (Q:St->Hp->Prop),Inv X ZL σ H s->Vals vs us->t vs σ H Q ->
  wpAny (model X.prog X.w) X.A (assignInOrder ((assignEach ts X.env).map (·.2)) us) (λ_ s'=>∃σ' H',Inv X ZL σ' H' s'/\Q σ' H') X.xe s
abbrev L3:=V->V->V->Hp->(Hp->Prop)->Prop
def N5(X:Cx)(t:L3):Prop:=
 ∀(ZL:Zf) (s:Shared) (σ:St) (H:Hp) (o i v:V) (ov iv u:Value) (Q:Hp->Prop),Inv X ZL σ H s->RelV o ov->RelV i iv->RelV v u->t o i v H Q ->
  wpAny (model X.prog X.w) X.A (setItem ov iv u) (λ_ s'=>∃H',Inv X ZL σ H' s'/\Q H') X.xe s
section
variable {X:Cx}{pos:Pos}
def dA(i:Nat):TG:=λv σ H Q=>Q (σ.set i (some v)) H
def eO{i:Nat}{x:Str}(hN:X.N.Nodup)(hi:X.N[i]?=some x)(hx:I9 X.env.scope x)(hf:X.fn x=true\/X.env.scope.names.lookup x=some .local:=by first|exact .inl rfl|exact .inr rfl|assumption):PG X (.Name x pos) (dA i):=by intro ZL s σ H v u Q I r h;exact wpAny_assign_Name (wP I hN hi hx r (λs' I'=>⟨_,H,I',h⟩) hf)
def Mw:Je:=λvs σ H Q=>vs=[]/\Q σ H
def GJ(t:TG)(u:Je):Je:=λvs σ H Q=>∃v r,vs=v::r/\t v σ H λσ' H'=>u r σ' H' Q
def dh:PY X [] Mw:=by intro ZL s σ H vs us Q I r h;obtain⟨e,h⟩:=h;subst e;cases r;exact assignInOrder_nil ⟨σ,H,I,h⟩
def aZ{e:Expr}{es:List Expr}{t:TG}{u:Je}(h1:PG X e t)(h2:PY X es u)
  (hs:(assignEach (e::es) X.env).map (·.2)=assign e X.env::(assignEach es X.env).map (·.2):=by rfl):PY X (e::es) (GJ t u):=by
 intro ZL s σ H vs us Q I r h;obtain⟨v,vr,e1,h⟩:=h;subst e1;cases r with
 |cons r rr=>rw[hs];refine assignInOrder_cons (cr (h1 ZL s σ H _ _ _ I r h) λ_ s1 ZN=>?_);obtain⟨σ1,H1,I1,q1⟩:=ZN;exact h2 ZL s1 σ1 H1 _ _ Q I1 rr q1
def Mx(K:Zj)(n:Nat)(t:Je):TG:=λv σ H Q=>∃a xs,v=.ref a/\SqT K H a xs/\xs.length=n/\t xs σ H Q
def fe{es:List Expr}{k:Nat} {n:Nat}(hc:X.calm=true)(h:PY X es t)
  (hn:(assignEach es X.env).length=n:=by rfl) (hst:(assignEach es X.env).findIdx? (·.1)=none:=by rfl):PG X (.Tuple es k pos) (Mx X.K n t):=by
 intro ZL s σ H v u Q I r hw;obtain⟨a,xs,e1,hq,hl,hw⟩:=hw;subst e1;cases r;obtain⟨its,rv,ht,hz⟩:=I.tuple hq;refine assign_Tuple_tuple (I.ok.hd hc) ht (by simp[hn,<-hl,rv.length]) hst λh' hx=>?_;have I1:Inv X ZL σ H { s with heap:=h' }:=I.kept (t':=s.toks) λb o e=>hx b o (UH (UA e)) e;exact h ZL _ σ H xs _ Q I1 (by simpa using rv) hw
def Ou(to ti:TE)(t:L3):TG:=λv σ H Q=>to σ H λo H1=>ti σ H1 λi H2=>t o i v H2 λH3=>Q σ H3
def MY{o i:Expr}{to ti:TE}{t:L3}(ho:PE X o to)(hi:PE X i ti)(hs:N5 X t)
  (ha:∀v,assign (.Subscript o i pos) X.env v=(do
   let ov ← holding [v] (eval o X.env)
   let iv ← holding [v,ov] (eval i X.env)
   standAt pos
   holding [v,ov,iv] (setItem ov iv v)
   release [v,ov,iv] []):=by intro _;rfl):PG X (.Subscript o i pos) (Ou to ti t):=by
 intro ZL s σ H v u Q I r h;rw[ha];refine Ut (UY (cr (ho ZL s σ H _ I h) λov s1 ZN=>?_));obtain⟨x,H1,I1,r1,q1⟩:=ZN;refine Ut (UY (cr (hi ZL s1 σ H1 _ I1 q1) λiv s2 ZN=>?_));obtain⟨y,H2,I2,r2,q2⟩:=ZN;refine Ut (Vz (Ut (UY (cr (hs ZL s2 σ H2 x y v ov iv u _ I2 r1 r2 r q2) λ_ s3 ZN=>?_))));obtain⟨H3,I3,q3⟩:=ZN;exact wpAny_release ⟨σ,H3,I3,q3⟩
def nX(te:TE)(g:TG):TS:=λD σ H=>te σ H λx H1=>g x σ H1 D.nx
def M0{tg e:Expr}{te:TE}{g:TG}(he:PE X e te)(hg:PG X tg g)(hs:swapsWithSole [tg] e pos.line X.env=pure false:=by rfl)(hw:swappedStores [tg] e X.env=pure none:=by rfl)
  (h1:(assignEach [tg] X.env).map (·.2)=[assign tg X.env]:=by rfl):PS X (.Assign [tg] e pos) (nX te g):=by
 intro ZL s σ H D I h;refine wpAny_Assign_stores (cr (he ZL s σ H _ I h) λv s1 ZN=>?_) hs hw;obtain⟨x,H1,I1,r1,q1⟩:=ZN;rw[h1];exact cr (hg ZL s1 σ H1 x v _ I1 r1 q1) λ_ s2 q=>q
def zm{i:Nat}{x:Str}{e:Expr}{te:TE}{pos':Pos}(hN:X.N.Nodup)(hi:X.N[i]?=some x)(hx:I9 X.env.scope x)(he:PE X e te)(hs:swapsWith e (some (.Name x pos')) pos.line X.env=pure false:=by rfl)(hf:X.fn x=true\/X.env.scope.names.lookup x=some .local:=by first|exact .inl rfl|exact .inr rfl|assumption) :
  PS X (.Assign [.Name x pos'] e pos) (nX te (dA i)):=by
 intro ZL s σ H D I h;refine wpAny_Assign_Name (cr (he ZL s σ H _ I h) λv s1 ZN=>?_) hs;obtain⟨y,H1,I1,r1,q1⟩:=ZN;exact wP I1 hN hi hx r1 (λs2 I2=>⟨_,H1,I2,q1⟩) hf
end
structure It where
 go:Nat->Hp->Prop
 yld:Nat->Hp->V->Hp->Prop
 stop:Nat->Hp->Prop
def mL(X:Cx)(ZL:Zf)(H:Hp)(b:Addr):Prop:=
 H b=none/\b≠X.env.locals/\b∉X.fs/\(b∈X.ex\/X.s₀.heap.objs.size<=b)/\(∀x c,X.env.cells.lookup x=some c->c≠b)/\∀p∈X.pn++ZL,p.1≠b
def Inv.fpOk{ZL:Zf} {H':Hp} {b:Addr}(I:Inv X ZL σ H s)(hb:s.heap.objs.size<=b)(hn:H' b=none):mL X ZL H' b:=by
 refine⟨hn,VD (UP I.lt hb),I.nofs hb,.inr (UD I.sz hb),λx c e z=>?_,λp hp z=>?_⟩
 ·obtain⟨v,q⟩:=I.cell x c e;exact absurd (UP q.lt (by rw[z];exact hb)) (Vr _)
 ·exact absurd (UP (UA (I.pin p hp).1) (by rw[z];exact hb)) (Vr _)
structure Turn(P:Program)(w:World)(K:Zj)(tg:Expr)(J:It)(fp:Zk)(it:Addr)(tn:Nat->Heap->Prop):Prop where
 mem:it∈fp
 obj:∀i h,tn i h->∀b∈fp,∃o,h.get? b=some o/\∀v,o.data ≠ .cell v
 keep:∀i h h',tn i h->(∀b∈fp,∀o,h.get? b=some o->h'.get? b=some o)->tn i h'
 item:∀(X:Cx),X.prog=P->X.w=w->X.K=K->X.calm=true->∀(i:Nat) (ZL:Zf) (s:Shared) (σ:St) (H:Hp) (E:Ze),Inv X ZL σ H s->(∀b∈fp,mL X ZL H b)->tn i s.heap->J.go i H ->
  wpAny (model P w) X.A (pyNext (.ref it)) (λr s1=>∃u,r=some u /\
   wpAny (model P w) X.A (letOwnedTupleGo tg (.ref it) u) (λ_ s2=>∃x H',Inv X ZL σ H' s2/\RelV x u/\J.yld i H x H'/\tn (i+1) s2.heap/\∀b∈fp,H' b=none) E s1) E s
 done:∀(X:Cx),X.prog=P->X.w=w->X.K=K->X.calm=true->∀(i:Nat) (ZL:Zf) (s:Shared) (σ:St) (H:Hp) (E:Ze),Inv X ZL σ H s->(∀b∈fp,mL X ZL H b)->tn i s.heap->J.stop i H ->
  wpAny (model P w) X.A (pyNext (.ref it)) (λr s1=>r=none/\Inv X ZL σ H s1) E s
 self:∀(A:Around) (i:Nat) (s:Shared) (Q:Ze) (E:Ze),tn i s.heap->Q (.ref it) s->wpAny (model P w) A (pyIter (.ref it)) Q E s
abbrev TI:=St->Hp->(It->Hp->Prop)->Prop
def QD(X:Cx)(ZL:Zf)(σ:St)(tg:Expr)(R:It->Hp->Prop)(itv:Value)(s2:Shared):Prop:=
 ∃(it:Addr) (fp:Zk) (tn:Nat->Heap->Prop) (J:It) (H':Hp),itv=.ref it/\Inv X ZL σ H' s2/\Turn X.prog X.w X.K tg J fp it tn/\tn 0 s2.heap/\(∀b∈fp,mL X ZL H' b)/\R J H'
def PI(X:Cx)(tg iter:Expr)(wi:TI):Prop:=
 ∀(ZL:Zf) (s:Shared) (σ:St) (H:Hp) (R:It->Hp->Prop),Inv X ZL σ H s->wi σ H R ->
  wpAny (model X.prog X.w) X.A (eval iter X.env) (λv s1=>wpAny (model X.prog X.w) X.A (pyIter v) (QD X ZL σ tg R) X.xe s1) X.xe s
def Dy{s:Shared}{tg:Expr}{it:Addr} {o:Obj}{n:String}{vs:Array Value}{Q:Unit->Shared->Prop}(ho:s.heap.get? it=some o)(hc:o.cls=.type n)(hd:o.data=.fields vs)
  (hn:["enumerate", "zip", "dict_itemiterator", "dict_reverseitemiterator", "odict_iterator", "itertools.zip_longest", "itertools.pairwise"].contains n=false) (hQ:Q Unit.unit s):wpAny M A (letOwnedTupleGo tg (.ref it) u) Q E s:=by
 unfold letOwnedTupleGo
 cases tg<;>first
  |exact Uw hQ
  | (cases u<;>first
    |exact Uw hQ
    | (refine Ut (Xk ho ?_)
       rw[hc,hd];show wpAny M A (if (["enumerate", "zip", "dict_itemiterator", "dict_reverseitemiterator", "odict_iterator", "itertools.zip_longest", "itertools.pairwise"].contains n&&vs[0]?==some (rawInt _))=true then _ else _) Q E s;rw[Uu (by intro h;rw[hn,Bool.false_and] at h;cases h)]
       exact Uw hQ))
def R0(K:Zj)(a:Addr):It:=
 ⟨λi H=>∃xs x,SqL K H a xs/\xs[i]?=some x,λi H x H'=>H'=H/\∀xs,SqL K H a xs->xs[i]?=some x,λi H=>∃xs,SqL K H a xs/\xs.length<=i⟩
def R4(K:Zj)(a:Addr):It:=
 ⟨λi H=>∃xs x,SqT K H a xs/\xs[i]?=some x,λi H x H'=>H'=H/\∀xs,SqT K H a xs->xs[i]?=some x,λi H=>∃xs,SqT K H a xs/\xs.length<=i⟩
def FJ{P:Program}{w:World}{K:Zj}{tg:Expr}(a it:Addr):Turn P w K tg (R0 K a) [it] it (λi h=>h.IsListIter it a i) where
 mem:=by simp
 obj:=λi h st b hb=>by
  have e:b=it:=by simpa using hb
  subst e;obtain⟨o,e,c,d⟩:=st;exact⟨o,e,λv z=>by rw[d] at z;cases z⟩
 keep:=λi h h' st k=>st.at λo e=>k it (by simp) o e
 item:=by intro X hP hw hK hc i ZL s σ H E I hf st hg;subst hP hw hK;obtain⟨xs,x,hq,hx⟩:=hg;obtain⟨its,rv,p,hz⟩:=I.list hq;obtain⟨u,hu,ru⟩:=rv.get hx;obtain⟨f0,f1,f2,f3,f4,f5⟩:=hf it (by simp);refine YB st p.isList (x:=u) (by simpa using hu) λh' st' sb=>?_;have I1:Inv X ZL σ H { s with heap:=h' }:=I.turned (t':=s.toks) (λb o hb e=>(sb.2 b hb).trans e) f0 f1 f3 f4 f5;obtain⟨o,e,c,d⟩:=id st';exact⟨u,rfl,Dy (s:={ s with heap:=h' }) e c d (by decide) ⟨x,H,I1,ru,⟨rfl,λys hy=>by rw[I.list_inj hy hq];exact hx⟩,st',λb hb=>(hf b hb).1⟩⟩
 done:=by intro X hP hw hK hc i ZL s σ H E I hf st hg;subst hP hw hK;obtain⟨xs,hq,hx⟩:=hg;obtain⟨its,rv,p,hz⟩:=I.list hq;obtain⟨f0,f1,f2,f3,f4,f5⟩:=hf it (by simp);have hl:=rv.length;exact YC (I.ok.hd hc) st p.isList (by simp;lia) λh' eb=>⟨rfl,I.turned (t':=s.toks) (λb o hb e=>eb b o hb e) f0 f1 f3 f4 f5⟩
 self:=λ_ _ _ _ _ st h=>wpAny_pyIter_listiter st h
def Da{P:Program}{w:World}{K:Zj}{tg:Expr}(a it:Addr):Turn P w K tg (R4 K a) [it] it (λi h=>h.IsTupleIter it a i) where
 mem:=by simp
 obj:=λi h st b hb=>by
  have e:b=it:=by simpa using hb
  subst e;obtain⟨o,e,c,d⟩:=st;exact⟨o,e,λv z=>by rw[d] at z;cases z⟩
 keep:=λi h h' st k=>st.at λo e=>k it (by simp) o e
 item:=by intro X hP hw hK hc i ZL s σ H E I hf st hg;subst hP hw hK;obtain⟨xs,x,hq,hx⟩:=hg;obtain⟨its,rv,p,hz⟩:=I.tuple hq;obtain⟨u,hu,ru⟩:=rv.get hx;obtain⟨f0,f1,f2,f3,f4,f5⟩:=hf it (by simp);refine wpAny_pyNext_tuple_item st (show s.heap.IsTuple a its.toArray from p) (x:=u) (by simpa using hu) λh' st' sb=>?_;have I1:Inv X ZL σ H { s with heap:=h' }:=I.turned (t':=s.toks) (λb o hb e=>(sb.2 b hb).trans e) f0 f1 f3 f4 f5;obtain⟨o,e,c,d⟩:=id st';exact⟨u,rfl,Dy (s:={ s with heap:=h' }) e c d (by decide) ⟨x,H,I1,ru,⟨rfl,λys hy=>by rw[I.tuple_inj hy hq];exact hx⟩,st',λb hb=>(hf b hb).1⟩⟩
 done:=by intro X hP hw hK hc i ZL s σ H E I hf st hg;subst hP hw hK;obtain⟨xs,hq,hx⟩:=hg;obtain⟨its,rv,p,hz⟩:=I.tuple hq;obtain⟨f0,f1,f2,f3,f4,f5⟩:=hf it (by simp);have hl:=rv.length;exact wpAny_pyNext_tuple_end (I.ok.hd hc) st (show s.heap.IsTuple a its.toArray from p) (by simp;lia) λh' eb=>⟨rfl,I.turned (t':=s.toks) (λb o hb e=>eb b o hb e) f0 f1 f3 f4 f5⟩
 self:=λ_ _ _ _ _ st h=>wpAny_pyIter_tupleiter st h
section
variable {X:Cx}{tg:Expr}
def FF(wi:TI)(g:TG)(tb:TS):TS:=λD σ H=>wi σ H λJ H1=>∃W:Nat->Nat->St->Hp->Prop,(∃m,W 0 m σ H1)/\∀i m σ H,W i m σ H ->
 (J.stop i H/\D.nx σ H)\/(J.go i H/\∃N:St->Hp->Prop,(∀σ' H',N σ' H'->∃m',m'<m/\W (i+1) m' σ' H')/\∀x H',J.yld i H x H'->g x σ H' λσ2 H2=>tb { D with nx:=N,ct:=N,bk:=D.nx } σ2 H2)
def p9(fp:Zk)(h:Heap):Zf:=fp.filterMap λb=>(h.get? b).map λo=>(b,o)
def gg{fp:Zk}{h:Heap}{b:Addr}{o:Obj}(hb:b∈fp)(e:h.get? b=some o):(b,o)∈p9 fp h:=WH.2 ⟨b,hb,by rw[e];rfl⟩
def Fl{fp:Zk} {p:Addr×Obj}(hp:p∈p9 fp h):p.1∈fp/\h.get? p.1=some p.2:=by
 obtain⟨b,hb,e⟩:=WH.1 hp;cases q:h.get? b with
 |none=>rw[q] at e;cases e
 |some o=>rw[q] at e;have e':(b,o)=p:=U6 e;subst e';exact⟨hb,q⟩
def Inv.pinned{ZL:Zf} {fp:Zk}(I:Inv X ZL σ H s)(hf:∀b∈fp,mL X ZL H b)(ho:∀b∈fp,∃o,s.heap.get? b=some o/\∀v,o.data ≠ .cell v):Inv X (ZL++p9 fp s.heap) σ H s:=
 I.pins_of λp hp=>(U7.1 hp).elim (λz=>I.pin p (UE _ z)) λz=>by obtain⟨hb,e⟩:=Fl z;obtain⟨f0,f1,f2,_⟩:=hf p.1 hb;obtain⟨o,e',d⟩:=ho p.1 hb;rw[e] at e';cases e';exact⟨e,f0,f1,f2,d⟩
def Inv.unpinned{ZL pl:Zf} (I:Inv X (ZL++pl) σ H s):Inv X ZL σ H s:=I.pins_of λp hp=>I.pin p (UE _ (UW _ hp))
def qp{iter:Expr}{body:List Stmt}{wi:TI}{g:TG}{tb:TS}{pos:Pos}(hp:PassesOwn (model X.prog X.w) X.A X.env X.xe)(hc:X.calm=true)(hi:PI X tg iter wi)(hg:PG X tg g)(hb:PSs X body tb)
  (hs:∀x,foldedSetIterable iter X.env x=pure x:=by intro _;rfl):PS X (.For tg iter body [] pos) (FF wi g tb):=by
 intro ZL s σ H D I h;refine wpAny_For (cr (hi ZL s σ H _ I h) λv s1 h1=>cr h1 λitv s2 h2=>?_) hs;obtain⟨it,fp,tn,J,H2,e,I2,T,st2,f2,W,⟨m0,w0⟩,turn⟩:=h2;subst e
 -- what stays true of the iterator's objects through the loop
 have stat:∀ {H':Hp},(∀b∈fp,H' b=none)->∀b∈fp,mL X ZL H' b:=λhn b hb=>⟨hn b hb,(f2 b hb).2⟩
 refine codeAny_forLoop_any (λn s'=>∃i σ' H',Inv X ZL σ' H' s'/\tn i s'.heap/\(∀b∈fp,H' b=none)/\W i n σ' H') ?_ m0 ⟨0,σ,H2,I2,st2,λb hb=>(f2 b hb).1,w0⟩;rintro n s3 ⟨i,σ3,H3,I3,st3,fr3,w3⟩;rcases turn i n σ3 H3 w3 with ⟨stop,qn⟩|⟨go,N,hN,step⟩
 ·refine Wh hp (cr (T.done X rfl rfl rfl hc i ZL s3 σ3 H3 X.xe I3 (stat fr3) st3 stop) λr s4 ⟨hr,I4⟩=>?_);subst hr;exact Wg ⟨σ3,H3,I4,qn⟩
 ·refine Wh hp (cr (T.item X rfl rfl rfl hc i ZL s3 σ3 H3 X.xe I3 (stat fr3) st3 go) λr s4 ⟨u,hr,h4⟩=>?_);subst hr;refine Wh hp (cr h4 λ_ s5 ZN=>?_);obtain⟨x,H5,I5,r5,y5,st5,fr5⟩:=ZN;have I5':=I5.pinned (stat fr5) (T.obj _ _ st5);refine Wh hp (cr (hg _ s5 σ3 H5 x u _ I5' r5 (step x H5 y5)) λ_ s6 ZN=>?_);obtain⟨σ6,H6,I6,q6⟩:=ZN;refine Wh hp (cr (hb _ s6 σ6 H6 _ I6 q6) λf s7 q7=>?_);have again:∀ {σ7:St} {H7:Hp},Inv X (ZL++p9 fp s5.heap) σ7 H7 s7->N σ7 H7->∃m,m<n/\∃i σ' H',Inv X ZL σ' H' s7/\tn i s7.heap/\(∀b∈fp,H' b=none)/\W i m σ' H':=λ{σ7 H7} I7 n7=>by
   obtain⟨m',hm,w7⟩:=hN σ7 H7 n7;refine⟨m',hm,i+1,σ7,H7,I7.unpinned,T.keep _ _ _ st5 λb hb o e=>(I7.pin (b,o) (UE _ (UE _ (gg hb e)))).1,λb hb=>?_,w7⟩;obtain⟨o,e,d⟩:=T.obj _ _ st5 b hb;exact (I7.pin (b,o) (UE _ (UE _ (gg hb e)))).2.1
  cases f with
  |next=>obtain⟨σ7,H7,I7,n7⟩:=q7;exact again I7 n7
  |cont=>obtain⟨σ7,H7,I7,n7⟩:=q7;exact again I7 n7
  |brk=>obtain⟨σ7,H7,I7,q7⟩:=q7;exact⟨σ7,H7,I7.unpinned,q7⟩
  |ret v=>obtain⟨x7,σ7,H7,I7,r7,q7⟩:=q7;exact⟨x7,σ7,H7,I7.unpinned,r7,q7⟩
end
abbrev R2:=V->V->Hp->VK->Prop
def OpR(X:Cx)(f:Value->Value->Sem Value)(r:R2):Prop:=
 ∀(ZL:Zf) (s:Shared) (σ:St) (H:Hp) (x y:V) (v u:Value) (Q:VK),Inv X ZL σ H s->RelV x v->RelV y u->r x y H Q ->
  wpAny (model X.prog X.w) X.A (f v u) (EP X ZL σ Q) X.xe s
def QH(X:Cx)(f:Value->Sem Value)(r:V->Hp->VK->Prop):Prop:=
 ∀(ZL:Zf) (s:Shared) (σ:St) (H:Hp) (x:V) (v:Value) (Q:VK),Inv X ZL σ H s->RelV x v->r x H Q ->
  wpAny (model X.prog X.w) X.A (f v) (EP X ZL σ Q) X.xe s
def CallR(X:Cx)(f:Value)(r:Za->Hp->VK->Prop):Prop:=
 ∀(ZL:Zf) (s:Shared) (σ:St) (H:Hp) (xs:Za) (us:Zh) (Q:VK),Inv X ZL σ H s->Vals xs us->r xs H Q ->
  wpAny (model X.prog X.w) X.A (call f us) (EP X ZL σ Q) X.xe s
def QG(X:Cx)(r:V->Hp->(Bool->Hp->Prop)->Prop):Prop:=
 ∀(ZL:Zf) (s:Shared) (σ:St) (H:Hp) (x:V) (v:Value) (Q:Bool->Hp->Prop),Inv X ZL σ H s->RelV x v->r x H Q ->
  wpAny (model X.prog X.w) X.A (truthy v) (TP X ZL σ Q) X.xe s
def FP(r:R2)(ta tb:TE):TE:=λσ H Q=>ta σ H λx H1=>tb σ H1 λy H2=>r x y H2 Q
def So(r:V->Hp->VK->Prop)(ta:TE):TE:=λσ H Q=>ta σ H λx H1=>r x H1 Q
def rI(C:Int->Int->Prop)(g:Int->Int->V):R2:=λx y H Q=>∃i j,x=.int i/\y=.int j/\C i j/\Q (g i j) H
def FO(g:Int->Int->V):R2:=λx y H Q=>∃i j,x=.int i/\y=.int j/\Q (g i j) H
def rU(g:Int->V):V->Hp->VK->Prop:=λx H Q=>∃i,x=.int i/\Q (g i) H
section
variable {X:Cx}{a b c:Expr}{ta tb tc:TE}{pos:Pos}
def Mi(ha:PE X a ta)(hb:PE X b tb){ZL:Zf}{s:Shared}{σ:St}{H:Hp}{R:V->V->Hp->Prop}(I:Inv X ZL σ H s)
  (h:ta σ H λx H1=>tb σ H1 λy H2=>R x y H2) {Q:Ze} {f:Value->Value->Sem Value}
  (hf:∀v u s2 x y H2,Inv X ZL σ H2 s2->RelV x v->RelV y u->R x y H2->wpAny (model X.prog X.w) X.A (f v u) Q X.xe s2) :
  wpAny (model X.prog X.w) X.A (eval a X.env) (λv s₁=>wpAny (model X.prog X.w) X.A (eval b X.env) (λu s₂=>wpAny (model X.prog X.w) X.A (f v u) Q X.xe s₂) X.xe s₁) X.xe s:=by
 refine cr (ha ZL s σ H _ I h) λv s1 ZN=>?_;obtain⟨x,H1,I1,r1,q1⟩:=ZN;refine cr (hb ZL s1 σ H1 _ I1 q1) λu s2 ZN=>?_;obtain⟨y,H2,I2,r2,q2⟩:=ZN;exact hf v u s2 x y H2 I2 r1 r2 q2
def bz(ho:OpR X (binaryOp op) r)(ha:PE X a ta)(hb:PE X b tb):PE X (.BinOp a op b pos) (FP r ta tb):=by intro ZL s σ H Q I h;exact wpAny_BinOp (Mi ha hb I h λv u s2 x y H2 I2 rx ry q=>ho ZL s2 σ H2 x y v u Q I2 rx ry q)
def t7{op:UnaryOp}{r:V->Hp->VK->Prop}(ho:QH X (unaryOp op) r)(ha:PE X a ta):PE X (.UnaryOp op a pos) (So r ta):=by intro ZL s σ H Q I h;exact UnaryOp_ (cr (ha ZL s σ H _ I h) λv s1 ⟨x,H1,I1,r1,q1⟩=>ho ZL s1 σ H1 x v Q I1 r1 q1)
def Qc{f:Value->Value->Sem Value}{C:Int->Int->Prop}{g:Int->Int->Int}
  (rule:∀(i j:Int) (t u:Tok) (s:Shared) (Q:Ze) (E:Ze),C i j->Q (.int (g i j) s.toks) { s with toks:=s.toks+1 }->wpAny (model X.prog X.w) X.A (f (.int i t) (.int j u)) Q E s) :
  OpR X f (rI C λi j=>.int (g i j)):=by
 intro ZL s σ H x y v u Q I rx ry h;obtain⟨i,j,rfl,rfl,hc,q⟩:=h;obtain⟨t,rfl⟩:=rx;obtain⟨t',rfl⟩:=ry;exact rule i j t t' s _ _ hc ⟨.int (g i j),H,I.tok _,⟨_,rfl⟩,q⟩
def OE{f:Value->Value->Sem Value}{g:Int->Int->Int}
  (rule:∀(i j:Int) (t u:Tok) (s:Shared) (Q:Ze) (E:Ze),Q (.int (g i j) s.toks) { s with toks:=s.toks+1 }->wpAny (model X.prog X.w) X.A (f (.int i t) (.int j u)) Q E s) :
  OpR X f (FO λi j=>.int (g i j)):=by
 intro ZL s σ H x y v u Q I rx ry h;obtain⟨i,j,rfl,rfl,q⟩:=h;obtain⟨t,rfl⟩:=rx;obtain⟨t',rfl⟩:=ry;exact rule i j t t' s _ _ ⟨.int (g i j),H,I.tok _,⟨_,rfl⟩,q⟩
def MP{f:Value->Value->Sem Value}{g:Int->Int->Bool}
  (rule:∀(i j:Int) (t u:Tok) (s:Shared) (Q:Ze) (E:Ze),Q (.bool (g i j)) s->wpAny (model X.prog X.w) X.A (f (.int i t) (.int j u)) Q E s) :
  OpR X f (FO λi j=>.bl (g i j)):=by
 intro ZL s σ H x y v u Q I rx ry h;obtain⟨i,j,rfl,rfl,q⟩:=h;obtain⟨t,rfl⟩:=rx;obtain⟨t',rfl⟩:=ry;exact rule i j t t' s _ _ ⟨.bl (g i j),H,I,rfl,q⟩
def NV(i j:Int):Prop:=0<j/\j<1073741824
def LX(i j:Int):Prop:=0<=j/\j<=1000000/\i.natAbs<2^64
def CMul(i j:Int):Prop:=(-(2^64)<i/\i<2^64)\/(-(2^64)<j/\j<2^64)
def CMul.ok{i j:Int}(h:CMul i j):IntMulOk i j:=by
 rcases h with ⟨h1,h2⟩|⟨h1,h2⟩
 ·exact .of_left (intBits_le_64 h1 h2)
 ·exact .of_right (intBits_le_64 h1 h2)
def op_add:OpR X (binaryOp .Add) (FO λi j=>.int (i+j)):=OE λ_ _ _ _ _ _ _ q=>add_int q
def MS:OpR X (binaryOp .Sub) (FO λi j=>.int (i-j)):=OE λ_ _ _ _ _ _ _ q=>sub_int q
def MQ:OpR X (binaryOp .Mult) (rI CMul λi j=>.int (i*j)):=Qc λ_ _ _ _ _ _ _ hc q=>mul_int q hc.ok
def uT:OpR X (binaryOp .FloorDiv) (rI NV λi j=>.int (i/j)):=Qc λi j _ _ _ _ _ hc q=>by have h1:(0:Int)<j:=hc.1;have h2:j<1073741824:=hc.2;exact floordiv_int () (by rw[Int.fdiv_eq_ediv_of_nonneg i ()];exact q) (.inl (PyProof.noPylong_small ()))
def eL:OpR X (binaryOp .Mod) (rI (λ_ j=>0<j) λi j=>.int (i%j)):=Qc λi j _ _ _ _ _ hc q=>by have h1:(0:Int)<j:=hc;exact mod_int' () (by rw[Int.fmod_eq_emod_of_nonneg i ()];exact q)
def MR:OpR X (binaryOp .Pow) (rI LX λi j=>.int (i^j.toNat)):=Qc λ_ _ _ _ _ _ _ hc q=>pow_int_small hc.1 hc.2.1 hc.2.2 q
def Ua{f:Value->Sem Value}{g:Int->Int}
  (rule:∀(i:Int) (t:Tok) (s:Shared) (Q:Ze) (E:Ze),Q (.int (g i) s.toks) { s with toks:=s.toks+1 }->wpAny (model X.prog X.w) X.A (f (.int i t)) Q E s) :
  QH X f (rU λi=>.int (g i)):=by
 intro ZL s σ H x v Q I rx h;obtain⟨i,rfl,q⟩:=h;obtain⟨t,rfl⟩:=rx;exact rule i t s _ _ ⟨.int (g i),H,I.tok _,⟨_,rfl⟩,q⟩
def nY:QH X (unaryOp .USub) (rU λi=>.int (-i)):=Ua λ_ _ _ _ _ q=>neg_int q
def GE{ZL:Zf} {Q:VK}{k k':Bool}(I:Inv X ZL σ H s)(q:Q (.bl k) H)(e:k=k'):EP X ZL σ Q (.bool k') s:=by subst e;exact⟨.bl k,H,I,rfl,q⟩
def Hi:OpR X (compareOp .Lt) (FO λi j=>.bl (decide (i<j))):=MP λ_ _ _ _ _ _ _ q=>lt_int q
def AZ:OpR X (compareOp .LtE) (FO λi j=>.bl (decide (i<=j))):=MP λ_ _ _ _ _ _ _ q=>le_int q
def Hf:OpR X (compareOp .Gt) (FO λi j=>.bl (decide (j<i))):=MP λ_ _ _ _ _ _ _ q=>gt_int q
def Fn:OpR X (compareOp .In) (λx y H Q=>∃i j,x=.str i/\y=.str j/\Q (.bl (!(Builtin.Str.occurrences j i 0 j.length 1).isEmpty)) H):=by intro ZL s σ H x y v u Q I rx ry h;obtain⟨i,j,rfl,rfl,q⟩:=h;obtain⟨t,rfl⟩:=rx;obtain⟨t',rfl⟩:=ry;exact in_str (GE I q rfl)
def Hh:OpR X (compareOp .Is) (λx y H Q=>y=.non/\Q (.bl (decide (x=.non))) H):=by
 intro ZL s σ H x y v u Q I rx ry h;obtain⟨rfl,q⟩:=h;cases ry;refine is_none_gen (GE I q ?_)
 cases x<;>first
  | (cases rx;rfl)
  | (obtain⟨t,rfl⟩:=rx;rfl)
def OpR.or(h:OpR X f r)(h':OpR X f r'):OpR X f (λx y H Q=>r x y H Q\/r' x y H Q):=by
 intro ZL s σ H x y v u Q I rx ry q;rcases q with q|q
 ·exact h ZL s σ H x y v u Q I rx ry q
 ·exact h' ZL s σ H x y v u Q I rx ry q
def iM(b:Expr){op:CmpOp}(h:op ≠ .In:=by decide)(h2:op ≠ .NotIn:=by decide):behindInMarks op b=false:=by
 have e1:(op==CmpOp.In)=false:=by cases op<;>first|rfl|exact absurd rfl h
 have e2:(op==CmpOp.NotIn)=false:=by cases op<;>first|rfl|exact absurd rfl h2
 cases b<;>simp[behindInMarks,e1,e2]
def eN(ho:OpR X (compareOp op) r)(ha:PE X a ta)(hb:PE X b tb)(hm:behindInMarks op b=false):PE X (.Compare a [op] [b] pos) (FP r ta tb):=by intro ZL s σ H Q I h;exact wpAny_Compare1 (Mi ha hb I h λv u s2 x y H2 I2 rx ry q=>ho ZL s2 σ H2 x y v u Q I2 rx ry q) hm
def En(t:TE):TT:=λσ H Q=>t σ H λx H'=>∃k,x=.bl k/\Q k H'
def uX{op:CmpOp}{r:R2}(ho:OpR X (compareOp op) r)(ha:PE X a ta)(hb:PE X b tb)(hm:behindInMarks op b=false):PT X (.Compare a [op] [b] pos) (En (FP r ta tb)):=by
 intro ZL s σ H Q I h;refine Yz (cr (ha ZL s σ H _ I h) λv s1 ⟨x,H1,I1,r1,q1⟩=>cr (hb ZL s1 σ H1 _ I1 q1) λu s2 ⟨y,H2,I2,r2,q2⟩=>
  cr (ho ZL s2 σ H2 x y v u _ I2 r1 r2 q2) λc s3 ⟨z,H3,I3,r3,k,e,q3⟩=>?_) hm
 subst e;cases r3;exact VN ⟨H3,I3,q3⟩
def Ik(r r':R2)(ta tb tc:TE):TE:=λσ H Q=>ta σ H λx H1=>tb σ H1 λy H2=>r x y H2 λz H3=>∃k,z=.bl k /\
 (if k=true then tc σ H3 λw' H4=>r' y w' H4 Q else Q (.bl false) H3)
def Hl{op op':CmpOp}{r r':R2}(ho:OpR X (compareOp op) r)(ho':OpR X (compareOp op') r')(ha:PE X a ta)(hb:PE X b tb)(hc:PE X c tc)
  (hm:lastMarks [op,op'] [b,c]=false:=by with_unfolding_all rfl):PE X (.Compare a [op,op'] [b,c] pos) (Ik r r' ta tb tc):=by
 intro ZL s σ H Q I h;refine Compare_chain (cr (ha ZL s σ H _ I h) λv s1 ⟨x,H1,I1,r1,q1⟩=>chain_link (cr (hb ZL s1 σ H1 _ I1 q1) λu s2 ⟨y,H2,I2,r2,q2⟩=>
  cr (ho ZL s2 σ H2 x y v u _ I2 r1 r2 q2) λd s3 ⟨z,H3,I3,r3,k,e,q3⟩=>?_)) hm
 subst e;cases r3;refine VN ?_;cases k with
 |false=>exact ite_ff ⟨.bl false,H3,I3,rfl,q3⟩
 |true=>exact ite_tt (chain_last (cr (hc ZL s3 σ H3 _ I3 q3) λw' s4 ⟨z',H4,I4,r4,q4⟩=>ho' ZL s4 σ H4 y z' u w' Q I4 r2 r4 q4))
def FX(K:Zj)(x:V)(H:Hp)(k:Bool):Prop:=
 match x with
 |.non=>k=false
 |.bl b=>k=b
 |.int i=>k=(i != 0)
 |.str y=>y.length<=sizeLine/\k=((y.length:Int) != 0)
 |.byt y=>y.size<=sizeLine/\k=((y.size:Int) != 0)
 |.ref p=>(∃xs,SqL K H p xs/\k = !xs.isEmpty)\/(∃xs,SqT K H p xs/\k = !xs.isEmpty)\/∃kvs,H p=some (.dK kvs)/\k = !kvs.isEmpty
 |_=>False
def Ci{κ:Type}{kvs:List (κ×V)}{vs:List (κ×Value)}(r:KV kvs vs):(!vs.isEmpty) = !kvs.isEmpty:=by cases r<;>rfl
def vT{xs:Za}{its:Zh}(r:Vals xs its):(!its.toArray.isEmpty) = !xs.isEmpty:=by cases r<;>simp
def sJ:(sizeLine:Nat)<2^63:=by rw[UF];decide
def NC:QG X (λx H Q=>∃k,FX X.K x H k/\Q k H):=by
 intro ZL s σ H x v Q I rx h;obtain⟨k,e,q⟩:=h;have hl:=sJ;have hs:sizeLine=16777216:=UF;cases x with
 |non=>
  cases rx;have e':k=false:=e;subst e';exact truthy_none ⟨H,I,q⟩
 |bl b=>
  cases rx;have e':k=b:=e;subst e';exact VN ⟨H,I,q⟩
 |int i=>
  obtain⟨t,rfl⟩:=rx;have e':k=(i != 0):=e;subst e';exact PySem.P.truthy_int ⟨H,I,q⟩
 |str y=>
  obtain⟨t,rfl⟩:=rx;obtain⟨hy,e'⟩:y.length<=sizeLine/\k=((y.length:Int) != 0):=e;subst e';exact PySem.P.truthy_str () ⟨H,I.tok _,q⟩
 |byt y=>
  obtain⟨t,rfl⟩:=rx;obtain⟨hy,e'⟩:y.size<=sizeLine/\k=((y.size:Int) != 0):=e;subst e';exact W.truthy_bytes () ⟨H,I.tok _,q⟩
 |ref p=>
  cases rx;have e':(∃xs,SqL X.K H p xs/\k = !xs.isEmpty)\/(∃xs,SqT X.K H p xs/\k = !xs.isEmpty)\/∃kvs,H p=some (.dK kvs)/\k = !kvs.isEmpty:=e;rcases e' with ⟨xs,hx,e'⟩|⟨xs,hx,e'⟩|⟨kvs,hx,e'⟩
  ·subst e';obtain⟨its,r,pl,hz⟩:=I.list hx;have ZO:=r.length;exact wpAny_truthy_list pl.isList (by simp only[UM];lia) ⟨H,I.tok _,by rw[vT r];exact q⟩
  ·subst e';obtain⟨its,r,pl,hz⟩:=I.tuple hx;have ZO:=r.length;exact truthy_tuple pl (by simp only[UM];lia) ⟨H,I.tok _,by rw[vT r];exact q⟩
  ·subst e';obtain⟨hz,hS,vs,r,m⟩:kvs.length<=sizeLine/\(p==sysModules)=false/\∃vs,KV kvs vs/\s.heap.DictOf (bN X.prog X.w) p vs:=I.hok p _ hx;have ZO:kvs.length=vs.length:=We r;exact wpAny_truthy_dict hS m () ⟨H,I.tok _,by rw[Ci r];exact q⟩
 |_=>exact (show False from e).elim
def b7(ha:PE X a ta)(he:∀whole,isTrue a X.env whole=(do let v ← whole;standAt a.pos;holding [v] (truthy v))) :
  PT X a (λσ H Q=>ta σ H λx H'=>∃k,FX X.K x H' k/\Q k H'):=by
 intro ZL s σ H Q I h;exact isTrue_plain (cr (ha ZL s σ H _ I h) λv s1 ⟨x,H1,I1,r1,q1⟩=>NC ZL s1 σ H1 x v Q I1 r1 q1) (he _)
def CC:OpR X (binaryOp .Add) (λx y H Q=>∃i j,x=.str i/\y=.str j/\i.length+j.length<=sizeLine/\Q (.str (i++j)) H):=by intro ZL s σ H x y v u Q I rx ry h;obtain⟨i,j,rfl,rfl,hz,q⟩:=h;obtain⟨t,rfl⟩:=rx;obtain⟨t',rfl⟩:=ry;exact add_str (λt' tk=>⟨.str (i++j),H,I.tok _,⟨_,rfl⟩,q⟩) hz
def Er{x:V} (r:Vals [x] us):∃u,us=[u]/\RelV x u:=by
 cases r with
 |cons r1 r2=>cases r2;exact⟨_,rfl,r1⟩
def PF{x y:V} (r:Vals [x,y] us):∃u w',us=[u,w']/\RelV x u/\RelV y w':=by
 cases r with
 |cons r1 r2=>
  cases r2 with
  |cons r3 r4=>cases r4;exact⟨_,_,rfl,r1,r3⟩
def EM(hc:X.calm=true):CallR X (.builtin "max") (λxs H Q=>∃i j,xs=[.int i,.int j]/\Q (.int (if j > i then j else i)) H):=by
 intro ZL s σ H xs us Q I r h;obtain⟨i,j,rfl,q⟩:=h;obtain⟨u,w',rfl,⟨t,rfl⟩,⟨t',rfl⟩⟩:=PF r;refine max_two_ints (I.ok.hd hc) λh' tk k=>⟨_,H,I.kept k,?_,q⟩
 by_cases hj:j > i
 ·rw[Uv hj,Uv hj];exact⟨_,rfl⟩
 ·rw[Uu hj,Uu hj];exact⟨_,rfl⟩
def yQ:CallR X (.type "str") (λxs H Q=>∃i,xs=[.int i]/\i.natAbs.log2<1920/\Q (.str (toString i)) H):=by intro ZL s σ H xs us Q I r h;obtain⟨i,rfl,hz,q⟩:=h;obtain⟨u,rfl,t,rfl⟩:=Er r;exact PySem.P.str_of_int hz ⟨.str _,H,I.tok _,⟨_,rfl⟩,q⟩
def NZ(K:Zj)(x:V)(H:Hp)(n:Nat):Prop:=
 match x with
 |.str y=>y.length<=sizeLine/\n=y.length
 |.byt y=>y.size<=sizeLine/\n=y.size
 |.ref p=>(∃xs,SqL K H p xs/\n=xs.length)\/∃xs,SqT K H p xs/\n=xs.length
 |_=>False
def Gh:CallR X (.builtin "len") (λxs H Q=>∃x n,xs=[x]/\NZ X.K x H n/\Q (.int n) H):=by
 intro ZL s σ H xs us Q I r h;obtain⟨x,n,rfl,e,q⟩:=h;obtain⟨u,rfl,rx⟩:=Er r;have hl:=sJ;have hs:sizeLine=16777216:=UF;cases x with
 |str y=>
  obtain⟨t,rfl⟩:=rx;obtain⟨hy,e'⟩:y.length<=sizeLine/\n=y.length:=e;subst e';exact len_str () ⟨.int _,H,I.tok _,⟨_,rfl⟩,q⟩
 |byt y=>
  obtain⟨t,rfl⟩:=rx;obtain⟨hy,e'⟩:y.size<=sizeLine/\n=y.size:=e;subst e';exact W.len_bytes () ⟨.int _,H,I.tok _,⟨_,rfl⟩,q⟩
 |ref p=>
  cases rx;have e':(∃xs,SqL X.K H p xs/\n=xs.length)\/∃xs,SqT X.K H p xs/\n=xs.length:=e;rcases e' with ⟨xs,hx,e'⟩|⟨xs,hx,e'⟩
  ·subst e';obtain⟨its,r',pl,hz⟩:=I.list hx;have ZO:=r'.length;exact Calls.call_len_list pl.isList (by simp only[UM];lia) ⟨.int xs.length,H,I.tok _,⟨_,by simp only[UM];rw[ZO]⟩,q⟩
  ·subst e';obtain⟨its,r',pl,hz⟩:=I.tuple hx;have ZO:=r'.length;exact len_tuple pl (by simp only[UM];lia) ⟨.int xs.length,H,I.tok _,⟨_,by simp only[UM];rw[ZO]⟩,q⟩
 |_=>exact (show False from e).elim
end
structure ObjM(h:Heap)(x dx C:Addr)(mA:Zg):Prop where
 obj:h.get? x=some (W.instObj C dx)
 ns:h.Ns1 dx mA
 ne:dx≠x
def Fc{h:Heap}{dx:Addr}{mA:Zg}(n:h.Ns1 dx mA):∃od,h.get? dx=some od/\∀name,W.lookIn name od=some (mA name):=by
 obtain⟨o,es,ep,ho,hd,hk,_,hm⟩:=n;refine⟨o,ho,λname=>?_⟩;have e:=hm name;unfold nsFind findBy at e;rw[<-Array.find?_toList] at e;unfold W.lookIn;rw[hd];dsimp only;split
 ·rename_i y q;rw[q] at e;exact U5 some e
 ·rename_i q;rw[q] at e;have a:es.toList.any (·.refKey)=false:=by
   rw[List.any_eq_false];intro y hy;obtain⟨z,t,hkey⟩:=hk y (YD.1 hy);simp[DictEntry.refKey,hkey]
  have a':¬es.toList.any (·.refKey)=true:=by rw[a];exact U4
  rw[Uu a'];exact U5 some e
def ObjM.look{dx:Addr}{mA:Zg}(I:ObjM h x dx C mA):∃od,W.InstAt h x (W.instObj C dx) C (some od)/\∀name,W.lookIn name od=some (mA name):=
 let ⟨od,ho,hl⟩:=Fc I.ns
 ⟨od,⟨I.obj,rfl,rfl,ho⟩,hl⟩
section
variable {prog:Program}{w:World}{A:Around}{E:Ze}{s:Shared}{K:Zj}{x dx C f:Addr}{mA:Zg}{name:Str}{v:Value}
def JB{expr:Bool}{Q:Ze}(X:K.In s.heap)(I:ObjM s.heap x dx C mA)(hg:W.plainGet K C name=true)(hh:W.hasDictIn K C=true)
  (ha:W.findIn K (.ref C) name=some none) (hv:mA name=some v) (hv':W.handedIn v=true) (h:Q v { s with toks:=s.toks+1 }) :
  wpAny (model prog w) A (getAttr (.ref x) name expr) Q E s:=by
 obtain⟨od,J,hl⟩:=I.look;exact W.get_value X J (Xm hg).1 (W.findObj_own hh ha rfl (by rw[hl,hv])) hv' h
def GK{Q:Value×Zh->Shared->Prop}(X:K.In s.heap)(I:ObjM s.heap x dx C mA)(hg:W.plainGet K C name=true)
  (hf:W.findIn K (.ref C) name=some (some (.ref f))) (ht:W.isFn K (.ref f)=true) (hv:mA name=none) (h:Q (.ref f,[.ref x]) s) :
  wpAny (model prog w) A (getMethod (.ref x) name pl) Q E s:=by
 obtain⟨od,J,hl⟩:=I.look;exact W.method_fn X J (Xm hg).1 (Xm hg).2 hf (VA.1 ht) (by show (W.lookIn name od).map (·.isSome)=some false;rw[hl,hv];rfl) h
def KB{Q:Unit->Shared->Prop}(X:K.In s.heap)(I:ObjM s.heap x dx C mA)
  (hs:W.findIn K (.ref C) "__setattr__"=some (some (.builtin "object.__setattr__"))) (hp:W.plainOver K C=true) (ht:W.takerIn K C name=some none) (hh:W.hasDictIn K C=true)
  (hw:PySem.Within mA ns) (hsz:ns.length<=sizeLine)
  (h:∀h',ObjM h' x dx C (λy=>if y=name then some v else mA y)->Heap.SameBut dx s.heap h'->Q Unit.unit { s with heap:=h',toks:=s.toks+2 }) :
  wpAny (model prog w) A (setAttr (.ref x) name v) Q E s:=by
 obtain⟨od,J,hl⟩:=I.look;refine W.set_plain X J hs (W.osa_open (s:={ s with toks:=s.toks+1 }) (r:=none) X J hp ht λb=>?_);obtain⟨cd,hc,hd'⟩:=Xn hh;have hx:s.heap.get? x=some ⟨.ref C,some dx,.plain,#[]⟩:=I.obj;refine Ut (Uw (Ut (Ut (wpAny_loadPart hx (Ut (W.Looks.here (s:={ s with toks:=s.toks+1 }) (W.looks_clsIn X hc) ?_))))));rw[hd'];refine Uw (a:=some dx) (Ut (Uw (Ut ?_)));refine wpAny_nsSet1 (s:={ s with toks:=s.toks+1 }) I.ns λh' hn2 hs2=>?_;obtain⟨oD,esD,epD,hoD,hdD,hcD⟩:=hn2.count (PySem.Within.cons name v hw);refine Ut (wpAny_lookBehind hoD (by rw[hdD];exact pastItsLine_dict (UD hcD (by rw[UI];lia))) ?_);exact Uw (h _ ⟨(hs2.2 _ (UB I.ne)).trans I.obj,hn2,I.ne⟩ hs2)
def G4{vs:Zh}{kw:List (Str×Value)}(X:K.In s.heap)(hm:W.makesIn K C=true)
  (hi:W.findIn K (.ref C) "__init__"=some (some (.ref f))) (hf:W.typeIn K (.ref f)=some (.type "function"))
  (h:codeAny (model prog w) (A.under (.builtin "type.__call__" ⟨.ref C::vs,kw⟩)) (.call (.ref f) ⟨.ref (s.heap.objs.size+1)::vs,kw⟩) (W.InitBack (s.heap.objs.size+1) R)
   { s with heap:=(s.heap.push W.emptyDict).push (W.instObj C s.heap.objs.size) }) :
  codeAny (model prog w) A (.call (.ref C) ⟨vs,kw⟩) R s:=by
 obtain⟨hh,g,d,t,os⟩:=s;exact W.make_core (W.makes_of X hm) (WI X hi) (λself=>W.bind_fn X self hf) (.inl rfl) h
end
def mH(f:Str)(v:V):List (Str×V)->List (Str×V)
 |[]=>[(f,v)]
 | (g,x)::r=>if g=f then (g,v)::r else (g,x)::mH f v r
theorem tU(f g:Str)(v:V):∀fs:List (Str×V),(mH f v fs).lookup g=if g=f then some v else fs.lookup g
 |[]=>by
  show List.lookup g [(f,v)]=_;by_cases h:g=f
  ·have hb:(g==f)=true:=VA.2 h;simp only[List.lookup,hb,Uv h]
  ·have hb:(g==f)=false:=VM.2 h;simp only[List.lookup,hb,Uu h]
 | (k,x)::r=>by
  have ih:=tU f g v r;rw[show mH f v ((k,x)::r)=(if k=f then (k,v)::r else (k,x)::mH f v r) from rfl];by_cases hk:k=f
  ·rw[Uv hk];by_cases h:g=k
   ·have hb:(g==k)=true:=VA.2 h;simp only[List.lookup,hb,Uv (h.trans hk)]
   ·have hb:(g==k)=false:=VM.2 h;simp only[List.lookup,hb,Uu (λe:g=f=>h (e.trans hk.symm))]
  ·rw[Uu hk];by_cases h:g=k
   ·have hb:(g==k)=true:=VA.2 h;simp only[List.lookup,hb,Uu (λe:g=f=>hk (h.symm.trans e))]
   ·have hb:(g==k)=false:=VM.2 h;simp only[List.lookup,hb];exact ih
theorem sI(f:Str)(v:V):∀fs:List (Str×V),f∈(mH f v fs).map (·.1)/\∀g,g∈fs.map (·.1)->g∈(mH f v fs).map (·.1)
 |[]=>⟨by simp[mH],λg h=>by simp at h⟩
 | (k,x)::r=>by
  obtain⟨i1,i2⟩:=sI f v r;rw[show mH f v ((k,x)::r)=(if k=f then (k,v)::r else (k,x)::mH f v r) from rfl];by_cases hk:k=f
  ·rw[Uv hk];subst hk;exact⟨by simp,λg h=>by simpa using h⟩
  ·rw[Uu hk];refine⟨?_,λg h=>?_⟩
   ·rw[UG];exact UJ _ i1
   ·rw[UG] at h ⊢;rcases UC.1 h with e|e
    ·exact UC.2 (.inl e)
    ·exact UJ _ (i2 g e)
theorem tS(f:Str)(v:V):∀fs:List (Str×V),(mH f v fs).length<=fs.length+1
 |[]=>by simp[mH]
 | (k,x)::r=>by
  have ih:=tS f v r;rw[show mH f v ((k,x)::r)=(if k=f then (k,v)::r else (k,x)::mH f v r) from rfl];by_cases hk:k=f
  ·rw[Uv hk,UI,UI];lia
  ·rw[Uu hk,UI,UI];lia
def RelO.some_of{v:V} (r:RelO (some v) o):∃u,o=some u/\RelV v u:=by
 cases o with
 |none=>exact (show False from r).elim
 |some u=>exact⟨u,rfl,r⟩
def RelO.none_of(r:RelO none o):o=none:=by
 cases o with
 |none=>rfl
 |some u=>exact (show False from r).elim
def EZ(r:RelV v u):W.handedIn u=true:=by
 cases v with
 |non=>cases (show u=Value.none from r);rfl
 |bl b=>cases (show u=Value.bool b from r);rfl
 |int i=>obtain⟨t,e⟩:=(show ∃t,u=Value.int i t from r);cases e;rfl
 |str x=>obtain⟨t,e⟩:=(show ∃t,u=Value.str x t from r);cases e;rfl
 |byt b=>obtain⟨t,e⟩:=(show ∃t,u=Value.bytes b t from r);cases e;rfl
 |flt b=>obtain⟨t,e⟩:=(show ∃t,u=Value.float b t from r);cases e;rfl
 |ref a=>cases (show u=Value.ref a from r);rfl
 |ty n=>cases (show u=Value.type n from r);rfl
section
variable {P:Program}{w:World}{H H':Hp}{h h':Heap}{a C dx:Addr}{fs fs':List (Str×V)}
def uP(hok:HOk P w H h)(e:H a=some (.ins C dx fs)):∃mA,ObjM h a dx C mA/\(∀f,RelO (fs.lookup f) (mA f))/\PySem.Within mA (fs.map (·.1))/\fs.length<=1000/\H dx=some (.own a):=by
 obtain⟨d,z,ne,ob,mA,n,r,q⟩:=(show ObjOk P w H h a (.ins C dx fs) from hok a _ e)
 exact⟨mA,⟨ob,n,ne⟩,r,q,z,d⟩
end
structure Cls(K:Zj)(C:Addr):Prop where
 pg:W.plainGet K C Str.empty=true
 hd:W.hasDictIn K C=true
 po:W.plainOver K C=true
 sa:W.findIn K (.ref C) "__setattr__"=some (some (.builtin "object.__setattr__"))
def Cls.get{K:Zj}{C:Addr}(c:Cls K C)(f:Str):W.plainGet K C f=true:=c.pg
def NoAttr(K:Zj)(C:Addr)(f:Str):Prop:=W.findIn K (.ref C) f=some none
def NoAttr.taker{K:Zj}{C:Addr}{f:Str}(n:NoAttr K C f):W.takerIn K C f=some none:=by unfold W.takerIn;rw[show W.findIn K (.ref C) f=some none from n];rfl
structure Meth(K:Zj)(C:Addr)(m:Str)(f:Addr):Prop where
 at_:W.findIn K (.ref C) m=some (some (.ref f))
 fn:W.isFn K (.ref f)=true
 kp:W.keepIn K (.ref f)=true
section
variable {X:Cx}{ZL:Zf}{σ:St}{H:Hp}{s:Shared}{a C dx:Addr}{fs:List (Str×V)}{f:Str}{v:V}{A:Around}{E:Ze}
def Cf{b:Bool}{Q:Ze}(I:Inv X ZL σ H s)(e:H a=some (.ins C dx fs))(c:Cls X.K C)(n:NoAttr X.K C f)(l:fs.lookup f=some v)
  (h:∀u s',Inv X ZL σ H s'->RelV v u->Q u s'):wpAny (model X.prog X.w) A (getAttr (.ref a) f b) Q E s:=by
 obtain⟨mA,O,r,_,_,_⟩:=uP I.hok e;obtain⟨u,hu,ru⟩:=RelO.some_of (v:=v) (o:=mA f) (by rw[<-l];exact r f);exact JB I.kIn O (c.get f) c.hd n hu (EZ ru) (h u _ (I.tok _) ru)
def jH{Q:Value×Zh->Shared->Prop}(I:Inv X ZL σ H s)(e:H a=some (.ins C dx fs))(c:Cls X.K C)(k:Meth X.K C m g)(l:fs.lookup m=none)
  (h:Q (.ref g,[.ref a]) s):wpAny (model X.prog X.w) A (getMethod (.ref a) m pl) Q E s:=by
 obtain⟨mA,O,r,_,_,_⟩:=uP I.hok e;have hn:mA m=none:=RelO.none_of (by rw[<-l];exact r m);exact GK I.kIn O (c.get m) k.at_ k.fn hn h
def CQ{Q:Unit->Shared->Prop}(I:Inv X ZL σ H s)(e:H a=some (.ins C dx fs))(c:Cls X.K C)(n:NoAttr X.K C f)(hl:fs.length<1000)(ry:RelV y u)
  (h:∀s',Inv X ZL σ (upd H a (.ins C dx (mH f y fs))) s'->Q Unit.unit s'):wpAny (model X.prog X.w) A (setAttr (.ref a) f u) Q E s:=by
 obtain⟨mA,O,r,wi,_,ho⟩:=uP I.hok e;have hz:(fs.map (·.1)).length<=sizeLine:=by rw[UN,UF];lia
 refine KB I.kIn O c.sa c.po n.taker c.hd wi hz λh' O' sb=>h _ ?_;have hd:∃o,h'.get? dx=some o:=let ⟨o,_,_,e',_⟩:=O'.ns;⟨o,e'⟩
 refine I.write (x:=a) (e:=dx) (by rw[e];exact True.intro) (.inr ho) (λb q hb z=>(sb.2 b hb).trans z) hd ?_;refine⟨by rw[aL O.ne];exact ho,?_,O.ne,O'.obj,_,O'.ns,λg=>?_,λg hg=>?_⟩
 ·have:=tS f y fs;lia
 ·show RelO ((mH f y fs).lookup g) (if g=f then some u else mA g);rw[tU];by_cases q:g=f
  ·rw[Uv q,Uv q];exact ry
  ·rw[Uu q,Uu q];exact r g
 ·by_cases q:g=f
  ·rw[q];exact (sI f y fs).1
  ·refine (sI f y fs).2 g (wi g λz=>hg ?_);show (if g=f then some u else mA g)=none;rw[Uu q];exact z
def Inv.made(I:Inv X ZL σ H s):Inv X ZL σ (upd (upd H s.heap.objs.size (.own (s.heap.objs.size+1))) (s.heap.objs.size+1) (.ins C s.heap.objs.size []))
  { s with heap:=(s.heap.push W.emptyDict).push (W.instObj C s.heap.objs.size) }:=by
 have e1:(s.heap.push W.emptyDict).get? s.heap.objs.size=some W.emptyDict:=UK s.heap rfl;have e2:((s.heap.push W.emptyDict).push (W.instObj C s.heap.objs.size)).get? (s.heap.objs.size+1)=some (W.instObj C s.heap.objs.size):=by have:=UK (s.heap.push W.emptyDict) (o:=W.instObj C s.heap.objs.size) rfl;rwa[Vi] at this
 have e3:(s.heap.push W.emptyDict).Ns s.heap.objs.size (λ_=>none):=⟨W.emptyDict,#[],_,e1,rfl,(λe he=>absurd he (by simp)),λ_=>rfl⟩
 have I1:=I.laid (a:=s.heap.objs.size) (o:=.own (s.heap.objs.size+1)) (h':=s.heap.push W.emptyDict) (t':=s.toks) (λb u q=>Uz _ q) (Ux _) ⟨_,e1⟩;refine I1.laid (a:=s.heap.objs.size+1) (o:=.ins C s.heap.objs.size []) (t':=s.toks) (λb u q=>Uz _ q) (Vj (Vi _ _)) ?_;have ne:s.heap.objs.size≠s.heap.objs.size+1:=UH (Wi _);refine⟨by rw[aL ne,aG],UR _,ne,e2,λ_=>none,(Heap.Ns1.of_empty e3).at λo q=>Uz _ q,λ_=>True.intro,λy hy=>absurd rfl hy⟩
def Jk{prog:Program} {env:Env} {pos:Pos} (hb:attributeBase e f env (eval e env)=eval e env)
  (h:wpAny (model prog w) A (eval e env) (λo s₁=>wpAny (model prog w) A (getAttr o f true) Q E s₁) E s):wpAny (model prog w) A (eval (.Attribute e f pos) env) Q E s:=
 Attribute_any_ h (by rw[arm_eval_Attribute,hb])
end
def M9(K:Zj)(ta tv:TE)(f:Str):TS:=λD σ H=>tv σ H λy H1=>ta σ H1 λx H2=>∃a C dx fs,x=.ref a/\H2 a=some (.ins C dx fs)/\Cls K C/\NoAttr K C f/\fs.length<1000 /\
 D.nx σ (upd H2 a (.ins C dx (mH f y fs)))
section
variable {X:Cx}{o e value:Expr}{f:Str}{pos pos' tpos:Pos}{ta tv:TE}
def Hz(ha:PE X o ta)(hv:PE X value tv)(hs:swapsWith value (some (.Attribute o f pos')) pos.line X.env=pure false):PS X (.Assign [.Attribute o f pos'] value pos) (M9 X.K ta tv f):=by intro ZL s σ H D I h;refine plainObj_wpAny_Assign_Attribute (cr (hv ZL s σ H _ I h) λu s1 ⟨y,H1,I1,ry,q⟩=>cr (ha ZL s1 σ H1 _ I1 q) λov s2 ZN=>?_) hs;obtain⟨x,H2,I2,rx,a,C,dx,fs,ex,ea,c,n,l,q2⟩:=ZN;subst ex;obtain rfl:ov=Value.ref a:=rx;exact CQ I2 ea c n l ry λs3 I3=>⟨σ,_,I3,q2⟩
end
section
variable {X:Cx}{ZL:Zf}{σ:St}{H:Hp}{s:Shared}{A:Around}{E:Ze}{Q:Ze}{c:Value}{b:Bool}
inductive TyOf(K:W.Frag)(H:Hp):V->Value->Prop where
 |non:TyOf K H .non (.type "NoneType")
 |bl (x:Bool):TyOf K H (.bl x) (.type "bool")
 |int (i:Int):TyOf K H (.int i) (.type "int")
 |str (x:Str):TyOf K H (.str x) (.type "str")
 |flt (x:UInt64):TyOf K H (.flt x) (.type "float")
 |lst {a:Addr} {xs:Za} (e:H a=some (.lst xs)):TyOf K H (.ref a) (.type "list")
 |frz {a:Addr} {o:Obj} {xs:Za} (e:H a=some (.frz o (.lst xs))):TyOf K H (.ref a) (.type "list")
 |tup {a:Addr} {xs:Za} (e:H a=some (.tup xs)):TyOf K H (.ref a) (.type "tuple")
 |dK {a:Addr} {kvs:List (c7×V)} (e:H a=some (.dK kvs)):TyOf K H (.ref a) (.type "dict")
 |dT {a:Addr} {kvs:List (List c7×V)} (e:H a=some (.dT kvs)):TyOf K H (.ref a) (.type "dict")
 |ins {a C dx:Addr} {fs:List (Str×V)} (e:H a=some (.ins C dx fs)) (cl:Cls K C) (ha:W.findIn K (.ref C) "__class__"=some (some (.builtin "object.__class__")))
   (hn:W.specialIn K (.builtin "object.__class__") "__get__"=some (some (.builtin "getset_descriptor.__get__"))) (htk:W.takesIn K (.builtin "object.__class__")=some true)
   (hm:W.mroIn K C (.type "object")=some true):TyOf K H (.ref a) (.ref C)
def oo(I:Inv X ZL σ H s)(rx:RelV x u)(ty:TyOf X.K H x t)(e:W.kitOne X.K t c=some b)(h:∀tk,Q (.bool b) { s with toks:=tk }) :
  wpAny (model X.prog X.w) A (call (.builtin "isinstance") [u,c]) Q E s:=by
 cases ty with
 |non=>cases (show u=Value.none from rx);exact U8 W.kitx_none I.kIn True.intro e (λz=>nomatch z) h
 |bl y=>cases (show u=Value.bool y from rx);exact U8 W.kitx_bool I.kIn True.intro e (λz=>nomatch z) h
 |int i=>obtain⟨t,q⟩:=(show ∃t,u=Value.int i t from rx);cases q;exact U8 W.kitx_int I.kIn True.intro e (λz=>nomatch z) h
 |str y=>obtain⟨t,q⟩:=(show ∃t,u=Value.str y t from rx);cases q;exact U8 W.kitx_str I.kIn True.intro e (λz=>nomatch z) h
 |flt y=>obtain⟨t,q⟩:=(show ∃t,u=Value.float y t from rx);cases q;exact U8 W.kitx_float I.kIn True.intro e (λz=>nomatch z) h
 | @lst a xs ea=>
  cases (show u=Value.ref a from rx);obtain⟨_,_,n,_,h1⟩:=(show ObjOk X.prog X.w H s.heap a (.lst xs) from I.hok a _ ea)
  exact U8 Xo I.kIn ⟨_,h1,rfl⟩ e (λz=>nomatch z) h
 | @frz a ob xs ea=>
  cases (show u=Value.ref a from rx);obtain⟨_,_,_,n,_,h1⟩:=(show ObjOk X.prog X.w H s.heap a (.frz ob (.lst xs)) from I.hok a _ ea)
  exact U8 Xo I.kIn ⟨_,h1,rfl⟩ e (λz=>nomatch z) h
 | @tup a xs ea=>
  cases (show u=Value.ref a from rx);obtain⟨_,_,_,p⟩:=(show ObjOk X.prog X.w H s.heap a (.tup xs) from I.hok a _ ea)
  obtain⟨o,h1,h2,_⟩:=p;exact U8 W.kitx_tuple I.kIn ⟨o,h1,h2⟩ e (λz=>nomatch z) h
 | @dK a kvs ea=>
  cases (show u=Value.ref a from rx);obtain⟨_,_,vs,_,p⟩:=(show ObjOk X.prog X.w H s.heap a (.dK kvs) from I.hok a _ ea)
  obtain⟨o,es,ep,h1,h2,_⟩:=p;exact U8 W.kitx_dict I.kIn ⟨o,h1,h2.1⟩ e (λz=>nomatch z) h
 | @dT a kvs ea=>
  cases (show u=Value.ref a from rx);obtain⟨_,_,xs,_,o,es,ep,h1,h2,_⟩:=(show ObjOk X.prog X.w H s.heap a (.dT kvs) from I.hok a _ ea)
  exact U8 W.kitx_dict I.kIn ⟨o,h1,h2.1⟩ e (λz=>nomatch z) h
 | @ins a C dx fs ea cl ha hn htk hm=>cases (show u=Value.ref a from rx);obtain⟨mA,O,_⟩:=uP I.hok ea;obtain⟨od,J,_⟩:=O.look;exact U8 (W.kitx_own (cl.get _) cl.hd ha hn htk hm) I.kIn J e (λz=>nomatch z) h
end
structure ZA(k:Nat)(A:Around):Prop where
 hd:A.handled=none
 dp:A.depth+3*k+5<recursionLimit
 un:A.units+16*k+200<cLine
def ZA.mono{j k:Nat} (r:ZA k A)(h:j<=k):ZA j A:=⟨r.hd,by have:=r.dp;lia,by have:=r.un;lia⟩
def ZA.deeper{k:Nat} (r:ZA (k+1) A)(env:Env):ZA k (A.deeper env):=
 ⟨r.hd,by have:=r.dp;show A.depth+1+3*k+5<_;lia,by have:=r.un;show A.units+3+16*k+200<_;lia⟩
def Cp{A:Around}{C:Addr}{us:Zh}{kw:List (Str×Value)}:(A.under (.builtin "type.__call__" ⟨.ref C::us,kw⟩)).depth=A.depth+1:=by
 first|rfl|simp[Around.under,Code.weight,Code.isCreation,Code.isGuard,Code.isCaller,Code.frames,Code.isFrame,guardIds]
def Cq{A:Around}{C:Addr}{us:Zh}{kw:List (Str×Value)}:(A.under (.builtin "type.__call__" ⟨.ref C::us,kw⟩)).units=A.units+1:=by
 first|rfl|simp[Around.under,Code.cUnits,Code.frames,Code.isFrame]
def ZA.make{k:Nat} (r:ZA (k+1) A)(C:Addr)(us:Zh)(kw:List (Str×Value)):ZA k (A.under (.builtin "type.__call__" ⟨.ref C::us,kw⟩)):=
 ⟨r.hd,by have:=r.dp;rw[Cp];lia,by have:=r.un;rw[Cq];lia⟩
def ZA.depth{k:Nat} (r:ZA k A):A.depth<recursionLimit:=by have:=r.dp;lia
def ZA.units{k:Nat} (r:ZA k A):A.units+64<cLine:=by have:=r.un;lia
def eV:TA:=λ_ H Q=>Q [] H
def cj(ta:TE)(tr:TA):TA:=λσ H Q=>ta σ H λx H1=>tr σ H1 λxs H2=>Q (x::xs) H2
section
variable {X:Cx}{e:Expr}{es:List Expr}{te:TE}{t:TA}{pos:Pos}
def ai:PA X [] eV:=λ_ _ _ _ H Q I h=>WJ ⟨[],H,I,.nil,h⟩
def ac(ha:PE X e te)(hr:PA X es t)(hs:starEach (e::es) X.env=(false,eval e X.env)::starEach es X.env:=by rfl):PA X (e::es) (cj te t):=by intro pos ZL s σ H Q I h;rw[hs];show wpAny _ _ (spliced ((false,eval e X.env)::backTo pos (starEach es X.env))) _ _ s;refine WK (cr (ha ZL s σ H _ I h) λu s1 ZN=>?_);obtain⟨x,H1,I1,r1,q1⟩:=ZN;exact cr (hr pos ZL s1 σ H1 _ I1 q1) λus s2 ⟨xs,H2,I2,r2,q2⟩=>⟨x::xs,H2,I2,.cons r1 r2,q2⟩
def FH(t:TA):TE:=λσ H Q=>t σ H λxs H1=>xs.length<=sizeLine/\∀p,H1 p=none->Q (.ref p) (upd H1 p (.tup xs))
def C5(t:TA):TE:=λσ H Q=>t σ H λxs H1=>xs.length<=sizeLine/\∀p,H1 p=none->Q (.ref p) (upd H1 p (.lst xs))
def fc{x1}(h:PA X es t):PE X (.Tuple es x1 pos) (FH t):=by intro ZL s σ H Q I hq;refine wpAny_Tuple_spliced (cr (h pos ZL s σ H _ I hq) λus s1 ⟨xs,H1,I1,r,z,q⟩=>⟨by rw[<-r.length];exact z,?_⟩);have hf:H1 s1.heap.objs.size=none:=I1.hok.fresh (Ux _);refine⟨.ref s1.heap.objs.size,upd H1 s1.heap.objs.size (.tup xs),I1.laid (t':=s1.toks) (λb u e=>Uz _ e) (Ux _) ?_,rfl,q _ hf⟩;exact⟨z,us,r,TupN.new _ _⟩
def bL(h:PA X es t):PE X (.List es pos) (C5 t):=by intro ZL s σ H Q I hq;refine wpAny_List_spliced (cr (h pos ZL s σ H _ I hq) λus s1 ⟨xs,H1,I1,r,z,q⟩=>⟨by rw[<-r.length];exact z,?_⟩);have hf:H1 s1.heap.objs.size=none:=I1.hok.fresh (Ux _);refine⟨.ref s1.heap.objs.size,upd H1 s1.heap.objs.size (.lst xs),I1.laid (t':=s1.toks) (λb u e=>Uz _ e) (Ux _) ?_,rfl,q _ hf⟩;exact⟨z,us,0,r,UK _ rfl⟩
end
abbrev Sp:=Za->Hp->VK->XK->Prop
abbrev zR:=List Env->Hp->Shared->XK->Ze
structure Env0(P:Program)(w:World)(K:Zj)(mg:Zg)(base:Heap)(A:Around)(outer:List Env)(s:Shared)(H:Hp):Prop where
 frames:A.frames=some outer
 mod:Mod K mg base
 bs:∀b o,base.get? b=some o->s.heap.get? b=some o/\H b=none
 bsz:base.objs.size<=s.heap.objs.size
 funs:s.heap.FunFrames base outer
 frf:∀b∈mG outer,H b=none
 hok:HOk P w H s.heap
 bare:AllBare s.gens
def CE(outer:List Env)(P:Program)(w:World)(H:Hp)(s:Shared)(Q:VK)(u:Value)(s':Shared):Prop:=
 ∃v H',s'.os=s.os/\AllBare s'.gens/\Un (mG outer) [] H H' s.heap s'.heap/\HOk P w H' s'.heap/\RelV v u/\Q v H'
def CR(CX:zR)(outer:List Env)(P:Program)(w:World)(H:Hp)(s:Shared)(Q:VK)(E:XK)(r:Result)(s':Shared):Prop:=
 match r with
 |.ok (.ret u)=>CE outer P w H s Q u s'
 |.ok _=>False
 |.error e=>CX outer H s E e s'
structure Zq(P:Program)(w:World)(K:Zj)(mg:Zg)(base:Heap)(CX:zR)(k:Nat)(f:Addr)(fd:FuncData)(ps:Zl)(sp:Sp):Prop where
 len:∀vs H Q E,sp vs H Q E->vs.length=ps.length
 run:∀(A:Around) (outer:List Env) (s:Shared) (H:Hp) (args:Args) (us:Zh) (vs:Za) (Q:VK) (E:XK),ZA k A->Env0 P w K mg base A outer s H->BindsTo s fd args (ps.zip us)->Vals vs us->sp vs H Q E ->
  codeAny (model P w) A (.call (.ref f) args) (CR CX outer P w H s Q E) s
def Env0.make{P:Program}{w:World}{K:Zj}{mg:Zg}{base:Heap}{A:Around}{outer:List Env}{s:Shared}{H:Hp}(e:Env0 P w K mg base A outer s H)(C:Addr)(us:Zh)(kw:List (Str×Value)) :
  Env0 P w K mg base (A.under (.builtin "type.__call__" ⟨.ref C::us,kw⟩)) outer s H:=⟨by first|exact e.frames|(simpa[Around.under,Code.envs,Code.isFrame,pushEnvs] using e.frames),e.mod,e.bs,e.bsz,e.funs,e.frf,e.hok,e.bare⟩
section
variable {X:Cx}{ZL:Zf}{σ:St}{H:Hp}{s s':Shared}
def Inv.env0(I:Inv X ZL σ H s):Env0 X.prog X.w X.K X.mg X.base X.A X.stack s H:=
 ⟨I.ok.frames,I.ok.mod,I.bs,UD I.ok.bsz I.sz,I.stack,I.stkFree,I.hok,I.bare⟩
def Inv.after(I:Inv X ZL σ H s)(h:CE X.stack X.prog X.w H s Q u s'):EP X ZL σ Q u s':=by obtain⟨v,H',os,bare,un,hok,r,q⟩:=h;obtain⟨hh,g,d,t,os'⟩:=s';obtain rfl:os'=s.os:=os;exact⟨v,H',I.call (h':=hh) (g':=g) (d':=d) (t':=t) (ch:=[]) un hok bare (λb z=>absurd z (by simp)),r,q⟩
end
def yx(sp:Sp)(dvs:Za)(E:XK)(t:TA):TE:=λσ H Q=>t σ H λvs H1=>sp (vs++dvs) H1 Q E
def Ej(C:Addr)(sp:Sp)(dvs:Za)(E:XK)(t:TA):TE:=λσ H Q=>t σ H λvs H1=>∀x dx,H1 x=none->H1 dx=none->dx≠x ->
 sp (.ref x::(vs++dvs)) (upd (upd H1 dx (.own x)) x (.ins C dx [])) (λv H2=>v=.non/\Q (.ref x) H2) E
def Binds(K:Zj)(fd:FuncData)(ps:Zl)(ds:Zh):Prop:=
 ∀(s:Shared) (us:Zh),K.In s.heap->(us++ds).length=ps.length->BindsTo s fd ⟨us,[]⟩ (ps.zip (us++ds))
def Binds.all{K:Zj}{fd:FuncData}{ps:Zl}(h:∀us:Zh,us.length=ps.length->bindArgs fd ⟨us,[]⟩=pure (ps.zip us)):Binds K fd ps []:=λs us _ hl=>by rw[Vb] at hl ⊢;exact .of_eq (h us hl)
def gc(CX:zR)(X:Cx)(E:XK):Prop:=∀(ZL:Zf) (σ:St) (H:Hp) (s:Shared) (e:Value) (s':Shared),Inv X ZL σ H s->CX X.stack H s E e s'->X.xe e s'
section
variable {X:Cx}{CX:zR}{k:Nat}{f C:Addr}{fd:FuncData}{ps:Zl}{sp:Sp}{dvs:Za}{ds:Zh}{E:XK}{x m:Str}{p pos apos:Pos}{e o:Expr}{es:List Expr}{ta:TE}{t:TA}
def wA{ZL:Zf} (F:Zq X.prog X.w X.K X.mg X.base CX k f fd ps sp)(hr:ZA k X.A)(hb:Binds X.K fd ps ds)(hd:Vals dvs ds)(hx:gc CX X E)
  (I:Inv X ZL σ H s) (r:Vals vs us) (h:sp (vs++dvs) H Q E):wpAny (model X.prog X.w) X.A (call (.ref f) us) (EP X ZL σ Q) X.xe s:=by
 have r2:Vals (vs++dvs) (us++ds):=r.append hd;have hl:(us++ds).length=ps.length:=by rw[<-r2.length];exact F.len _ _ _ _ h
 refine Wj (Wk (F.run X.A X.stack s H ⟨us,[]⟩ (us++ds) (vs++dvs) Q E hr I.env0 (hb s us I.kIn hl) r2 h) λr s' hq=>?_);cases r with
 |error e=>exact hx ZL σ H s e s' I hq
 |ok fl=>
  cases fl with
  |ret u=>exact I.after hq
  |next=>exact False.elim hq
  |brk=>exact False.elim hq
  |cont=>exact False.elim hq
def aH(F:Zq X.prog X.w X.K X.mg X.base CX k f fd ps sp)(hr:ZA k X.A)(hg:Gl X x)(hm:X.mg x=some (.ref f))(hk:W.keepIn X.K (.ref f)=true)(hb:Binds X.K fd ps ds)(hd:Vals dvs ds)(hx:gc CX X E)
  (ha:PA X (e::es) t) (hdb:(x==("__debug__" : Str))=false:=by decide) (he:starEach (e::es) X.env=(false,eval e X.env)::starEach es X.env:=by rfl) (hpl:(backTo pos (starEach es X.env)).any (·.1)=false:=by rfl) :
  PE X (.Call (.Name x p) (e::es) [] pos) (yx sp dvs E t):=by
 intro ZL s σ H Q I h;refine VW (gH I hg hm ?_ hdb);refine WM (h₀:=X.base) I.ok.mod.kin hk (cr (ha pos ZL s σ H _ I h) λus s1 ⟨vs,H1,I1,r,q⟩=>⟨I1.kIn,?_⟩) he hpl;exact wA F hr hb hd hx I1 r q
structure Mk(K:Zj)(C f:Addr):Prop where
 makes:W.makesIn K C=true
 init:W.findIn K (.ref C) "__init__"=some (some (.ref f))
 fn:W.isFn K (.ref f)=true
 kp:W.keepIn K (.ref C)=true
def Bp{ZL:Zf} {Q:VK} (M:Mk X.K C f)(F:Zq X.prog X.w X.K X.mg X.base CX k f fd ps sp)(hr:ZA (k+1) X.A)(hb:Binds X.K fd ps ds)(hd:Vals dvs ds)
  (hx:gc CX X E) (I:Inv X ZL σ H s) (r:Vals vs us)
  (h:∀x dx,H x=none->H dx=none->dx≠x->sp (.ref x::(vs++dvs)) (upd (upd H dx (.own x)) x (.ins C dx [])) (λv H2=>v=.non/\Q (.ref x) H2) E) :
  wpAny (model X.prog X.w) X.A (call (.ref C) us) (EP X ZL σ Q) X.xe s:=by
 have hq:=h (s.heap.objs.size+1) s.heap.objs.size (I.hok.fresh (Xp _)) (I.hok.fresh (Ux _)) (UH (Wi _));have I2:=Inv.made (C:=C) I;have r2:Vals (V.ref (s.heap.objs.size+1)::(vs++dvs)) (Value.ref (s.heap.objs.size+1)::(us++ds)):=.cons rfl (r.append hd);have hl:(Value.ref (s.heap.objs.size+1)::us++ds).length=ps.length:=by have e:=r2.length;rw[F.len _ _ _ _ hq] at e;exact e.symm
 refine Wj (G4 (f:=f) I.kIn M.makes M.init (VA.1 M.fn) (Wk (F.run _ X.stack _ _ ⟨Value.ref (s.heap.objs.size+1)::us,[]⟩ (Value.ref (s.heap.objs.size+1)::(us++ds)) _ _ E (hr.make C us [])
  (I2.env0.make C us []) (hb _ (Value.ref (s.heap.objs.size+1)::us) I2.kIn hl) r2 hq) λr s' hq'=>?_))
 cases r with
 |error e=>exact hx ZL σ _ _ e s' I2 hq'
 |ok fl=>
  cases fl with
  |ret u=>
   obtain⟨v,H',I3,rv,ev,q3⟩:=I2.after hq';subst ev;exact⟨rv,⟨V.ref (s.heap.objs.size+1),H',I3,rfl,q3⟩⟩
  |next=>exact False.elim hq'
  |brk=>exact False.elim hq'
  |cont=>exact False.elim hq'
def Kc(M:Mk X.K C f)(F:Zq X.prog X.w X.K X.mg X.base CX k f fd ps sp)(hr:ZA (k+1) X.A)(hg:Gl X x)(hm:X.mg x=some (.ref C))(hb:Binds X.K fd ps ds)(hd:Vals dvs ds)(hx:gc CX X E)
  (ha:PA X (e::es) t) (hdb:(x==("__debug__" : Str))=false:=by decide) (he:starEach (e::es) X.env=(false,eval e X.env)::starEach es X.env:=by rfl) (hpl:(backTo pos (starEach es X.env)).any (·.1)=false:=by rfl) :
  PE X (.Call (.Name x p) (e::es) [] pos) (Ej C sp dvs E t):=by
 intro ZL s σ H Q I h;refine VW (gH I hg hm ?_ hdb);refine WM (h₀:=X.base) I.ok.mod.kin M.kp (cr (ha pos ZL s σ H _ I h) λus s1 ⟨vs,H1,I1,r,q⟩=>⟨I1.kIn,?_⟩) he hpl;exact Bp M F hr hb hd hx I1 r q
def Hr(M:Mk X.K C f)(F:Zq X.prog X.w X.K X.mg X.base CX k f fd ps sp)(hr:ZA (k+1) X.A)(hg:Gl X x)(hm:X.mg x=some (.ref C))(hb:Binds X.K fd ps ds)(hd:Vals dvs ds)(hx:gc CX X E)
  (hdb:(x==("__debug__" : Str))=false:=by decide):PE X (.Call (.Name x p) [] [] pos) (Ej C sp dvs E eV):=by
 intro ZL s σ H Q I h;refine VW (gH I hg hm ?_ hdb);exact Xq I.kIn M.kp (Bp (us:=[]) M F hr hb hd hx I .nil h)
end
structure Zp(N P:Zl)(sc:Scope):Prop where
 kind:sc.kind=.function
 co:sc.isCoroutine=false
 gen:sc.isGenerator=false
 nd:N.Nodup
 pre:N.take P.length=P
 par:∀x∈P,sc.names.lookup x=some .local\/sc.names.lookup x=some .cell
 nofree:∀y∈sc.names,y.2 ≠ .free
theorem xI{kindOf:Str->Option NameKind}{x:Str}:∀ {binds:List (Str×Value)} {m:Zg},(∀v,(x,v)∉binds)->bindL kindOf binds m x=m x
 |[],_,_=>rfl
 | (n,v)::r,m,h=>by
  unfold bindL;rw[xI λw hw=>h w (UJ _ hw)];split
  ·have:x≠n:=by rintro rfl;exact h v UL
   simp[this]
  ·rfl
theorem xG{kindOf:Str->Option NameKind}{x:Str}:∀ {binds:List (Str×Value)} {m:Zg},(∀v,(x,v)∉binds)->bindC kindOf binds m x=m x
 |[],_,_=>rfl
 | (n,v)::r,m,h=>by
  unfold bindC;rw[xG λw hw=>h w (UJ _ hw)];split
  ·rfl
  ·have:x≠n:=by rintro rfl;exact h v UL
   simp[this]
theorem xH{kindOf:Str->Option NameKind}{x:Str}{v:Value}:∀ {P:Zl} {vs:Zh} {i:Nat} {m:Zg},P.Nodup->P[i]?=some x->vs[i]?=some v->kindOf x=some .local ->
  bindL kindOf (P.zip vs) m x=some v
 |[],_,_,_,_,h,_,_=>by simp at h
 |_::_,[],_,_,_,_,h,_=>by simp at h
 |p::P,w::vs,0,m,nd,h1,h2,hk=>by
  simp at h1 h2;subst h1;subst h2;show bindL kindOf ((p,w)::P.zip vs) m p=_;unfold bindL;rw[xI λv hv=>(Vk.1 nd).1 (Xr hv).1,Uv hk];simp
 |p::P,w::vs,i+1,m,nd,h1,h2,hk=>by show bindL kindOf ((p,w)::P.zip vs) m x=_;unfold bindL;exact xH (i:=i) (Vk.1 nd).2 (by simpa using h1) (by simpa using h2) hk
theorem xF{kindOf:Str->Option NameKind}{x:Str}{v:Value}:∀ {P:Zl} {vs:Zh} {i:Nat} {m:Zg},P.Nodup->P[i]?=some x->vs[i]?=some v->kindOf x≠some .local ->
  bindC kindOf (P.zip vs) m x=some v
 |[],_,_,_,_,h,_,_=>by simp at h
 |_::_,[],_,_,_,_,h,_=>by simp at h
 |p::P,w::vs,0,m,nd,h1,h2,hk=>by
  simp at h1 h2;subst h1;subst h2;show bindC kindOf ((p,w)::P.zip vs) m p=_;unfold bindC;rw[xG λv hv=>(Vk.1 nd).1 (Xr hv).1,Uu hk];simp
 |p::P,w::vs,i+1,m,nd,h1,h2,hk=>by show bindC kindOf ((p,w)::P.zip vs) m x=_;unfold bindC;exact xF (i:=i) (Vk.1 nd).2 (by simpa using h1) (by simpa using h2) hk
def aX(N:Zl)(vs:Za):St:=vs.map some++List.replicate (N.length-vs.length) none
def m5(CX:zR)(P:Program)(w:World)(K:Zj)(mg:Zg)(base:Heap)(N:Zl)(qual:Str)(scope:Scope)(f:Addr)(cd:Value)(A:Around)(outer:List Env)(s:Shared)(H:Hp)(E:XK):Cx where
 prog:=P
 w:=w
 K:=K
 mg:=mg
 base:=base
 A:=A.deeper (envOfC qual scope s.heap.objs.size f cd)
 N:=N
 s₀:=s
 H₀:=H
 env:=envOfC qual scope s.heap.objs.size f cd
 outer:=outer
 stack:=envOfC qual scope s.heap.objs.size f cd::outer
 ex:=[]
 calm:=true
 fn:=λ_=>true
 pn:=[]
 xe:=λe s'=>wpAny (model P w) (A.deeper (envOfC qual scope s.heap.objs.size f cd)) (leaving (envOfC qual scope s.heap.objs.size f cd) e) (λ_ s''=>CX outer H s E e s'') (λe' s''=>CX outer H s E e' s'') s'
def Al{sc:Scope}{n:Nat}{x:Str}(h:sc.names.lookup x=some .cell):∃c,(cellsFrom n sc.names []).lookup x=some c:=by have q:=W.cellsFrom_some sc.names n [] (.inl h);exact YE.1 q
def E4{CX:zR}{P:Program}{w:World}{K:Zj}{mg:Zg}{base:Heap}{N ps:Zl}{qual:Str}{scope:Scope}{f:Addr}{cd:Value}{A:Around}{outer:List Env}{s s1:Shared}{H:Hp}{E:XK}{us:Zh}{vs:Za}
  (S:Zp N ps scope) (hd:A.handled=none) (e0:Env0 P w K mg base A outer s H) (hl:vs.length=ps.length) (r:Vals vs us)
  (x:InCallC s s.heap.objs.size (bindL (envOfC qual scope s.heap.objs.size f cd).kindOf (ps.zip us) λ_=>none) (cellsFrom (s.heap.objs.size+1) scope.names []) (bindC (envOfC qual scope s.heap.objs.size f cd).kindOf (ps.zip us) λ_=>none) s1) :
  Inv (m5 CX P w K mg base N qual scope f cd A outer s H E) [] (aX N vs) H s1:=by
 have hpl:ps.length<=N.length:=by have:=U5 List.length S.pre;rw[WN] at this;lia
 obtain⟨h1,tk,rfl,hk⟩:=x.done;have noA:∀b:Addr,b∉(m5 CX P w K mg base N qual scope f cd A outer s H E).ex:=λb z=>absurd (show b∈([]:Zk) from z) (by simp);refine⟨⟨e0.mod,S.kind,rfl,rfl,Ux _,λy z c h1 h2=>?_,λy hy=>?_,λy c _ h=>?_,λ_=>hd,Around.frames_deeper e0.frames,.inr ⟨rfl,rfl⟩,λb z=>absurd z (noA b),e0.bs,e0.bsz,λb _ _=>noA b,λb z=>absurd z (noA b),e0.funs,e0.frf⟩,
  rfl,e0.bare,Un.kept hk,⟨_,x.toInCall.ns,λi y v h1 h2 h3=>?_⟩,λy c h=>⟨_,x.cell y c h⟩,e0.hok.fresh (Ux _),λy c h=>?_,λp hp=>absurd (show p∈([]:Zf) from hp) (by simp),e0.hok.kept hk,?_⟩
 ·exact name_of_addr x.apart (VX h1) (VX h2)
 ·have hy:scope.names.lookup y=some .cell\/scope.names.lookup y=some .free:=hy;rcases hy with hy|hy
  ·exact Al hy
  ·exact absurd rfl (S.nofree _ (VX hy))
 ·exact U1 (x.above y c (VX h))
 ·have hi:i<vs.length:=by
   unfold aX at h2;by_cases hi:i<vs.length
   ·exact hi
   ·rw[Xs (by simpa using hi)] at h2;rw[Xu] at h2;split at h2<;>cases h2
  have ha:vs[i]?=some v:=by
   unfold aX at h2;rw[Wl (by simpa using hi),U9] at h2;cases e:vs[i]? with
   |none=>rw[e] at h2;cases h2
   |some a=>rw[e] at h2;cases h2;rfl
  obtain⟨u,hu,rv⟩:=r.get ha;have hp:ps[i]?=some y:=by rw[<-S.pre,List.getElem?_take_of_lt ()];exact h1
  have ndP:ps.Nodup:=by rw[<-S.pre];exact S.nd.sublist (List.take_sublist _ _)
  refine⟨u,rv,?_⟩;rcases S.par y (Xv hp) with k|k
  ·exact .inl ⟨k,xH ndP hp hu k⟩
  ·obtain⟨c,e⟩:=Al (n:=s.heap.objs.size+1) k;refine .inr ⟨.inl k,c,e,?_⟩;have q:=x.cell y c e;rw[xF ndP hp hu (by show scope.names.lookup y≠_;rw[k];decide)] at q;exact q
 ·exact e0.hok.fresh (U1 (x.above y c (VX h)))
 ·unfold aX;show _=N.length;rw[U2,UN,WO];lia
def GH{CX:zR}{P:Program}{w:World}{K:Zj}{mg:Zg}{base:Heap}{k:Nat}{f:Addr}{name qual:Str}{params:Arguments}{body:List Stmt}{scope:Scope}{dV kV doc pm cdv ct oc:Value}{an od:Option Addr}
  {osl:Array (Zi)} {N ps:Zl} {sp:Sp} (lk:K.lookup f=some ⟨oc,od,.func (W.fnOf name qual params body scope dV kV doc pm an cdv ct),osl⟩) (hcd:W.codeIn K cdv qual=true) (S:Zp N ps scope)
  (len:∀vs H Q E,sp vs H Q E->vs.length=ps.length)
  (hbody:∀(A:Around) (outer:List Env) (s:Shared) (H:Hp) (vs:Za) (Q:VK) (E:XK),ZA k (A.deeper (envOfC qual scope s.heap.objs.size f cdv))->sp vs H Q E ->
   ∃t,PSs (m5 CX P w K mg base N qual scope f cdv A outer s H E) body t/\t { nx:=λ_ H'=>Q .non H',rt:=Q } (aX N vs) H) :
  Zq P w K mg base CX (k+1) f (W.fnOf name qual params body scope dV kV doc pm an cdv ct) ps sp:=by
 refine⟨len,λA outer s H args us vs Q E hr e0 hb r hsp=>?_⟩;have hl:=len _ _ _ _ hsp;have KX:K.In s.heap:=e0.mod.kin.keeps λb o e=>(e0.bs b o e).1;have lim:s.heap.NoLimit:=e0.mod.nolimit.keeps λb o e=>(e0.bs b o e).1;have hkind:∀y∈ps.zip us,scope.names.lookup y.1=some .local\/(scope.names.lookup y.1=some .cell/\((cellsFrom (s.heap.objs.size+1) scope.names []).lookup y.1).isSome=true):=λhpt0 hy=>by
  obtain⟨n,v⟩:=hpt0;rcases S.par n (Xr hy).1 with q|q
  ·exact .inl q
  ·exact .inr ⟨q,W.cellsFrom_some _ _ _ (.inl q)⟩
 refine codeAny_call_function hr.depth (KX _ _ lk) rfl S.co S.gen rfl (W.codeRec_of KX hcd) (hb _ _ _ _ ?_);refine wpAny_newFunctionEnv_cells S.kind hkind λenv he s1 x=>?_;subst he;refine⟨lim.keeps x.toInCall.keep,codeAny_func ?_⟩;obtain⟨t,ht,hq⟩:=hbody A outer s H vs Q E (hr.deeper _) hsp;have I:Inv (m5 CX P w K mg base N qual scope f cdv A outer s H E) [] (aX N vs) H s1:=E4 S hr.hd e0 hl r x;refine UO (ht [] s1 (aX N vs) H _ I hq) (λfl s' hs=>?_) λe s' hs=>hs;have fin:∀ {σ':St} {H':Hp} {v:V} {u:Value},Inv (m5 CX P w K mg base N qual scope f cdv A outer s H E) [] σ' H' s'->RelV v u->Q v H'->CE outer P w H s Q u s':=
  λ{σ' H' v u} J rv q=>⟨v,H',J.os,J.bare,J.base,J.hok,rv,q⟩
 cases fl with
 |ret u=>
  obtain⟨v,σ',H',J,rv,q⟩:=hs;exact fin J rv q
 |next=>
  obtain⟨σ',H',J,q⟩:=hs;exact fin (v:=V.non) (u:=Value.none) J rfl q
 |brk=>
  obtain⟨_,_,_,q⟩:=hs;exact False.elim q
 |cont=>obtain⟨_,_,_,q⟩:=hs;exact False.elim q
section
variable {X:Cx}{x:Str}{p pos:Pos}{e:Expr}{es:List Expr}{t:TA}{id T:String}{r:Za->Hp->VK->Prop}
def NR(r:Za->Hp->VK->Prop)(t:TA):TE:=λσ H Q=>t σ H λvs H1=>r vs H1 Q
def bv(hc:CallR X (.builtin id) r)(hg:Gl X x)(hm:X.mg x=none)(hv:bootBuiltins x=some (.builtin id))(ha:PA X (e::es) t)(hn:x ≠ "__name__" := by decide) (hdb:(x==("__debug__" : Str))=false:=by decide)
  (he:starEach (e::es) X.env=(false,eval e X.env)::starEach es X.env:=by rfl) (hpl:(backTo pos (starEach es X.env)).any (·.1)=false:=by rfl):PE X (.Call (.Name x p) (e::es) [] pos) (NR r t):=by
 intro ZL s σ H Q I h;refine VW (y9 I hg hm hv ?_ hn hdb);exact PyProof.Rows.callWith_builtin1 (cr (ha pos ZL s σ H _ I h) λus s1 ⟨vs,H1,I1,r1,q1⟩=>hc ZL s1 σ H1 vs us Q I1 r1 q1) he hpl
def hX(hc:CallR X (.type T) r)(hg:Gl X x)(hm:X.mg x=none)(hv:bootBuiltins x=some (.type T))(ha:PA X (e::es) t)(hn:x ≠ "__name__" := by decide) (hdb:(x==("__debug__" : Str))=false:=by decide)
  (he:starEach (e::es) X.env=(false,eval e X.env)::starEach es X.env:=by rfl) (hpl:(backTo pos (starEach es X.env)).any (·.1)=false:=by rfl):PE X (.Call (.Name x p) (e::es) [] pos) (NR r t):=by
 intro ZL s σ H Q I h;refine VW (y9 I hg hm hv ?_ hn hdb);exact YF (cr (ha pos ZL s σ H _ I h) λus s1 ⟨vs,H1,I1,r1,q1⟩=>hc ZL s1 σ H1 vs us Q I1 r1 q1) he hpl
end
end L2
namespace HT
open PySem PyProof.Rows
def dR:Zn->Zn->Bool
 |[],[]=>false
 |[],_::_=>true
 |_::_,[]=>false
 |x::xs,y::ys=>if x=y then dR xs ys else decide (x<y)
def Ck(x y:Int)(xs ys:Zn):dR (x::xs) (y::ys)=if x=y then dR xs ys else decide (x<y):=rfl
section
variable {prog:Program}{w:World}{A:Around}{E:Ze}{s:Shared}
def Jq{vs ws:Zh}{Q:Ze}(ht:IsTup s.heap t vs.toArray)(hb:IsTup s.heap b ws.toArray)(hv:vs≠[])
  (h1:ws=[]->Q (.ref t) s) (h2:ws≠[]->Q (.ref s.heap.objs.size) { s with heap:=s.heap.push { cls:=.type "tuple",data:=.seq (vs++ws).toArray } })
  (hsz:vs.length+ws.length<=sizeLine):wpAny (model prog w) A (binaryOp .Add (.ref t) (.ref b)) Q E s:=by
 obtain⟨⟨cls,dd,data,sl⟩,ho,hc,n,hd⟩:=id ht;obtain⟨⟨cls2,dd2,data2,sl2⟩,ho2,hc2,n2,hd2⟩:=id hb;simp only at hc hd hc2 hd2;subst hc hd hc2 hd2;have e:vs.toArray++ws.toArray=(vs++ws).toArray:=by simp
 by_cases hw:ws=[]
 ·exact Xw ⟨_,ho,rfl⟩ ⟨_,ho2,rfl⟩ Xx Xy Xz XB (XC _ _)
   (tuple_addW1 t b vs.toArray ws.toArray n n2 dd dd2 sl sl2 (by simpa using hv) (by simp[hw])) ⟨ho,ho2,h1 hw⟩
 ·refine Xw ⟨_,ho,rfl⟩ ⟨_,ho2,rfl⟩ Xx Xy Xz XB (XC _ _)
   (tuple_addW2 t b vs.toArray ws.toArray n n2 dd dd2 sl sl2 (by simpa using hv) (by simpa using hw) (by rw[UM,UM];exact hsz)) ⟨ho,ho2,?_⟩
  rw[e];exact h2 hw
def fU(n d:Nat):Option Int->Nat
 |none=>d
 |some v=>if v<0 then (v+(n:Int)).toNat else min v.toNat n
def Na(n d:Nat)(hd:d<=n)(o:Option Int):fU n d o<=n:=by
 cases o with
 |none=>exact hd
 |some v=>
  show (if v<0 then (v+(n:Int)).toNat else min v.toNat n)<=n;by_cases hv:v<0
  ·rw[Uv hv];lia
  ·rw[Uu hv];exact Nat.min_le_right _ _
def Dq(v:Int)(n d:Nat):(if v<0 then max (v+(n:Int)) 0 else min v (n:Int))=((fU n d (some v):Nat):Int):=by
 show (if v<0 then max (v+(n:Int)) 0 else min v (n:Int))=(((if v<0 then (v+(n:Int)).toNat else min v.toNat n):Nat):Int)
 by_cases hv:v<0
 ·simp only[Uv hv];lia
 ·simp only[Uu hv];lia
def BV(lo hi:Option Int)(n:Nat):Builtin.Slice.sliceAdjust lo hi 1 (n:Int)=(((fU n 0 lo:Nat):Int),((fU n n hi:Nat):Int)):=by
 have h1:¬((1:Int)<0):=()
 unfold Builtin.Slice.sliceAdjust;simp only[h1,VB];refine Prod.ext ?_ ?_
 ·cases lo with
  |none=>rfl
  |some v=>exact Dq v n 0
 ·cases hi with
  |none=>rfl
  |some v=>exact Dq v n n
def CI(i j:Nat):Builtin.Slice.slicePlaces (i:Int) (j:Int) 1=j-i:=by
 unfold Builtin.Slice.slicePlaces;have h1:(1:Int) > 0:=()
 simp only[h1,Vt,Int.ediv_one];split<;>lia
def wL{Q:Option Int->Shared->Prop}(p:IsPart v o)(h:Q o s):wpAny (model prog w) A (Builtin.Slice.slicePartIndex v) Q E s:=by
 cases p with
 |none=>exact slicePart_none h
 |int i t=>exact slicePart_int h
def lx{sl:Addr} {lo hi:Option Int}{n:Nat}{Q:Int×Int×Nat->Shared->Prop}(hs:s.heap.IsSliceOf sl vl vu .none)(pl:IsPart vl lo)(pu:IsPart vu hi)
  (h:Q (((fU n 0 lo:Nat):Int),1,fU n n hi-fU n 0 lo) s):wpAny (model prog w) A (Builtin.Slice.sliceApplied (.ref sl) (pure (n:Int))) Q E s:=by
 obtain⟨os,hos,hcs,hds⟩:=id hs;unfold Builtin.Slice.sliceApplied Builtin.Slice.sliceFields;refine Ut (Ut (US hos hds (x:=vl) rfl (Ut (US hos hds (x:=vu) rfl (Ut (US hos hds (x:=.none) rfl (Uw ?_)))))));refine Ut (slicePart_none ?_);show wpAny _ _ (if ((1:Int)==0)=true then _ else _) _ _ s;rw[Uu (by decide)];refine Ut (wL pl (Ut (wL pu (Ut (Uw ?_)))));show wpAny _ _ (match Builtin.Slice.sliceAdjust lo hi 1 (n:Int) with|(lo,hi)=>pure (lo,(1:Int),Builtin.Slice.slicePlaces lo hi 1)) _ _ s;rw[BV lo hi n];show wpAny _ _ (pure (((fU n 0 lo:Nat):Int),(1:Int),Builtin.Slice.slicePlaces ((fU n 0 lo:Nat):Int) ((fU n n hi:Nat):Int) 1)) _ _ s;rw[CI];exact Uw h
def Hx(xs:Array Value)(i k:Nat):((List.range k).filterMap λ(m:Nat)=>xs[((i:Int)+(m:Int)*1).toNat]?).toArray=((xs.toList.drop i).take k).toArray:=by
 have e:(λ(m:Nat)=>xs[((i:Int)+(m:Int)*1).toNat]?)=λm=>xs[i+m]?:=by
  funext m
  have:((i:Int)+(m:Int)*1).toNat=i+m:=()
  rw[this]
 rw[e];have:=pick_run xs i k;rw[List.filterMap_map] at this;have e2:((λx=>xs[x]?)∘λx=>i+x)=λm=>xs[i+m]?:=rfl;rw[e2] at this;rw[this]
def rm{sl:Addr} {lo hi:Option Int}{Q:Ze}(ht:IsTup s.heap t items)(hs:s.heap.IsSliceOf sl vl vu .none)(pl:IsPart vl lo)(pu:IsPart vu hi)
  (hw:¬(fU items.size 0 lo=0/\fU items.size items.size hi=items.size))
  (h:Q (.ref s.heap.objs.size) { s with heap:=s.heap.push { cls:=.type "tuple",data:=.seq ((items.toList.drop (fU items.size 0 lo)).take (fU items.size items.size hi-fU items.size 0 lo)).toArray } })
  (hsz:items.size<=sizeLine):wpAny (model prog w) A (getItem (.ref t) (.ref sl)) Q E s:=by
 have htake:sizeOk (.seq ((items.toList.drop (fU items.size 0 lo)).take (fU items.size items.size hi-fU items.size 0 lo)).toArray):=by show ((items.toList.drop (fU items.size 0 lo)).take (fU items.size items.size hi-fU items.size 0 lo)).toArray.size<=sizeLine;rw[UM,WN,WP,Wf];omega
 have hj:fU items.size items.size hi<=items.size:=Na _ _ (Ux _) hi;obtain⟨os,hos,hcs,hds⟩:=id hs;have hTs:s.TypeIs (.ref sl) "slice" := ⟨os,hos,hcs⟩
 unfold getItem;try with_reducible refine UY ?_
 first|refine Ut (Uw ?_)|skip
 refine Ut (YG ht.typeIs (by decide) ?_)
 refine Ut (VE (name:=Str.ofString "__getitem__") ht.typeIs VY
  (Vl VY ht.typeIs YH ?_ (YI _ _)))
 show wpAny _ _ (Builtin.Tuple.tupleItemsOf (.ref t) >>= _) _ _ s;refine Ut (tupleItemsOf_ ht ?_);refine Ut (VO hTs ?_);rw[Uv (by decide)];refine Ut (lx hs pl pu ?_);have hno:¬((((fU items.size 0 lo:Nat):Int)==0&&(1:Int)==1&&(fU items.size items.size hi-fU items.size 0 lo)==items.size)=true):=by intro q;rw[UZ,UZ] at q;have q1:((fU items.size 0 lo:Nat):Int)=0:=eq_of_beq q.1.1;have q2:fU items.size items.size hi-fU items.size 0 lo=items.size:=eq_of_beq q.2;exact hw ⟨by omega,by omega⟩
 show wpAny _ _ (if (((fU items.size 0 lo:Nat):Int)==0&&(1:Int)==1&&(fU items.size items.size hi-fU items.size 0 lo)==items.size)=true then _ else _) _ _ s;rw[Uu hno,Hx]
 first
  |exact Ut (m:=Builtin.Tuple.tupleExact _) (U3 (Uw ⟨_,rfl,Uw h⟩) htake)
  |exact Ut (m:=Builtin.Tuple.tupleExact _) (U3 (Ut (Uw (Uw ⟨_,rfl,Uw h⟩))) htake)
  |exact Ut (Ut (m:=Builtin.Tuple.tupleExact _) (U3 (Uw (Uw ⟨_,rfl,Uw h⟩)) htake))
  |exact Ut (Ut (m:=Builtin.Tuple.tupleExact _) (U3 (Uw ⟨_,rfl,Uw h⟩) htake))
end
end HT
namespace L2
open PySem PySem.Spec PyProof.Rows
abbrev TO:=St->Hp->(Option Int->Hp->Prop)->Prop
def PO(X:Cx)(e:Option Expr)(t:TO):Prop:=
 ∀(ZL:Zf) (s:Shared) (σ:St) (H:Hp) (Q:Option Int->Hp->Prop),Inv X ZL σ H s->t σ H Q ->
  wpAny (model X.prog X.w) X.A (evalPart e X.env) (λu s'=>∃o H',Inv X ZL σ H' s'/\IsPart u o/\Q o H') X.xe s
def Ek:TO:=λ_ H Q=>Q none H
def LH(t:TE):TO:=λσ H Q=>t σ H λx H1=>∃i,x=.int i/\Q (some i) H1
def pR{ns:Zn}:∀ {us:Zh},Vals (ns.map V.int) us->IntsAre us ns:=by
 induction ns with
 |nil=>intro us r;rw[XD] at r;cases r;exact .nil
 |cons n ns ih=>
  intro us r;rw[UG] at r;cases r with
  |cons r1 r2=>obtain⟨t,e⟩:=r1;subst e;exact .cons n t (ih r2)
section
variable {X:Cx}{e:Expr}{te:TE}{lo hi:Option Expr}{tl th:TO}{pos p2:Pos}
def fZ:PO X none Ek:=by intro ZL s σ H Q I h;rw[evalPart_none];exact Uw ⟨none,H,I,.none,h⟩
def f7(h:PE X e te):PO X (some e) (LH te):=by intro ZL s σ H Q I hw;rw[evalPart_some];refine cr (h ZL s σ H _ I hw) λu s1 ZN=>?_;obtain⟨x,H1,I1,r1,q1⟩:=ZN;obtain⟨i,rfl,q⟩:=q1;obtain⟨t,rfl⟩:=r1;exact⟨some i,H1,I1,.int i t,q⟩
def SlR(X:Cx)(r:V->Option Int->Option Int->Hp->VK->Prop):Prop:=
 ∀(ZL:Zf) (s:Shared) (σ:St) (H:Hp) (x:V) (v vl vu:Value) (lo hi:Option Int) (sl:Addr) (Q:VK),Inv X ZL σ H s->RelV x v->s.heap.IsSliceOf sl vl vu .none->IsPart vl lo->IsPart vu hi->r x lo hi H Q ->
  ∃T id,typeLookup (.type T) "__getitem__"=pure (some (.builtin id))/\s.TypeIs v T/\wpAny (model X.prog X.w) X.A (getItem v (.ref sl)) (EP X ZL σ Q) X.xe s
def SlR.or(h:SlR X r)(h':SlR X r'):SlR X (λx lo hi H Q=>r x lo hi H Q\/r' x lo hi H Q):=by
 intro ZL s σ H x v vl vu lo hi sl Q I rx hs pl pu q;rcases q with q|q
 ·exact h ZL s σ H x v vl vu lo hi sl Q I rx hs pl pu q
 ·exact h' ZL s σ H x v vl vu lo hi sl Q I rx hs pl pu q
def Q3(r:V->Option Int->Option Int->Hp->VK->Prop)(te:TE)(tl th:TO):TE:=λσ H Q=>te σ H λx H1=>tl σ H1 λl H2=>th σ H2 λu H3=>r x l u H3 Q
def er(hr:SlR X r)(he:PE X e te)(hl:PO X lo tl)(hu:PO X hi th):PE X (.Subscript e (.Slice lo hi none p2) pos) (Q3 r te tl th):=by intro ZL s σ H Q I h;refine XF (cr (he ZL s σ H _ I h) λv s1 ZN=>?_);obtain⟨x,H1,I1,r1,q1⟩:=ZN;refine wpAny_Slice (cr (hl ZL s1 σ H1 _ I1 q1) λvl s2 ⟨l,H2,I2,pl,q2⟩=>cr (hu ZL s2 σ H2 _ I2 q2) λvu s3 ZN=>?_);obtain⟨u,H3,I3,pu,q3⟩:=ZN;rw[evalPart_none];refine Uw ?_;have I4:Inv X ZL σ H3 { s3 with heap:=s3.heap.push { cls:=.type "slice",data:=.fields #[vl,vu,.none] } }:=I3.kept (t':=s3.toks) λb ob q=>Uz _ q;obtain⟨T,id,hT,ht,hg⟩:=hr ZL { s3 with heap:=s3.heap.push { cls:=.type "slice",data:=.fields #[vl,vu,.none] } } σ H3 x v vl vu l u s3.heap.objs.size Q I4 r1 (Heap.IsSliceOf.new ..) pl pu q3;show wpAny (model X.prog X.w) X.A (subscriptTail e (.Slice lo hi none p2) v (.ref s3.heap.objs.size)) (EP X ZL σ Q) X.xe { s3 with heap:=s3.heap.push { cls:=.type "slice",data:=.fields #[vl,vu,.none] } };exact tail_any (ops:=[.ref s3.heap.objs.size,v]) ht hT hg (by with_unfolding_all rfl)
def oJ(xs:Za)(lo hi:Option Int):Za:=(xs.drop (HT.fU xs.length 0 lo)).take (HT.fU xs.length xs.length hi-HT.fU xs.length 0 lo)
def tO(xs:Za)(lo hi:Option Int):(oJ xs lo hi).length<=xs.length:=by unfold oJ;rw[WN,WP];lia
def QS(K:Zj):V->Option Int->Option Int->Hp->VK->Prop:=λx lo hi H Q=>∃a xs,x=.ref a/\SqT K H a xs /\
 ¬(HT.fU xs.length 0 lo=0/\HT.fU xs.length xs.length hi=xs.length)/\∀p,H p=none->Q (.ref p) (upd H p (.tup (oJ xs lo hi)))
def Nw:SlR X (QS X.K):=by
 intro ZL s σ H x v vl vu lo hi sl Q I rx hs pl pu h;obtain⟨a,xs,rfl,hx,hw,q⟩:=h;cases rx;obtain⟨its,r,ht,hz⟩:=I.tuple hx;have ZO:its.toArray.size=xs.length:=by rw[UM];exact r.length.symm
 refine⟨"tuple",_,VY.lookup,ht.typeIs,?_⟩;refine HT.rm ht hs pl pu (by rw[ZO];exact hw) ?_ (by rw[ZO];exact hz);rw[ZO];refine⟨.ref s.heap.objs.size,_,I.laid (t':=s.toks) (o:=.tup (oJ xs lo hi)) (λb ob q=>Uz _ q) (Ux _) ?_,rfl,q _ (I.hok.fresh (Ux _))⟩;exact⟨UD (tO xs lo hi) hz,_,(r.drop (HT.fU xs.length 0 lo)).take (HT.fU xs.length xs.length hi-HT.fU xs.length 0 lo),TupN.new _ _⟩
def Vals.nil_iff{xs:Za} (r:Vals xs us):us=[]↔xs=[]:=by
 cases r with
 |nil=>simp
 |cons _ _=>simp
end
def DE(n:Nat)(i:Int):Option Nat:=if 0<=i then (if i<n then some i.toNat else none) else if -(n:Int)<=i then some (i+n).toNat else none
def fS{α:Type}(xs:List α)(i:Int):Option α:=(DE xs.length i).bind λj=>xs[j]?
def DF{n:Nat}{i:Int}{j:Nat}(h:DE n i=some j):seqIndex? i n=some j/\j<n /\ -(n:Int)<=i/\i<n:=by
 unfold DE at h;by_cases h0:0<=i
 ·rw[Uv h0] at h;by_cases h1:i<n
  ·rw[Uv h1] at h;have e:i.toNat=j:=U6 h;exact⟨by rw[XH h0 h1,e],(),(),h1⟩
  ·rw[Uu h1] at h;cases h
 ·rw[Uu h0] at h;by_cases h1:-(n:Int)<=i
  ·rw[Uv h1] at h;have e:(i+n).toNat=j:=U6 h;exact⟨by rw[XI () h1,e],(),h1,()⟩
  ·rw[Uu h1] at h;cases h
def yM{α:Type}{xs:List α}{i:Int}{v:α}(h:fS xs i=some v):∃j,seqIndex? i xs.length=some j/\xs[j]?=some v/\j<xs.length /\ -(xs.length:Int)<=i/\i<xs.length:=by
 unfold fS at h;cases e:DE xs.length i with
 |none=>rw[e] at h;cases h
 |some j=>rw[e] at h;obtain⟨h1,h2,h3,h4⟩:=DF e;exact⟨j,h1,h,h2,h3,h4⟩
def Dh(b:Expr):Prop:=∀o i,subscripted b false o i=operate [o,i] (getItem o i)
def IxR(X:Cx)(r:R2):Prop:=
 ∀(value slice:Expr) (ZL:Zf) (s:Shared) (σ:St) (H:Hp) (x y:V) (v u:Value) (Q:VK),Inv X ZL σ H s->RelV x v->RelV y u->r x y H Q ->
  subscripted slice false v u=operate [v,u] (getItem v u)->wpAny (model X.prog X.w) X.A (subscriptTail value slice v u) (EP X ZL σ Q) X.xe s
def Jb(X:Cx)(id:String)(r:V->Za->Hp->VK->Prop):Prop:=
 ∀(ZL:Zf) (s:Shared) (σ:St) (H:Hp) (x:V) (xs:Za) (v:Value) (us:Zh) (Q:VK),Inv X ZL σ H s->RelV x v->Vals xs us->r x xs H Q ->
  wpAny (model X.prog X.w) X.A (call (.builtin id) (v::us)) (EP X ZL σ Q) X.xe s
section
variable {X:Cx}{a b:Expr}{ta tb:TE}{pos:Pos}
def IxR.or(h:IxR X r)(h':IxR X r'):IxR X (λx y H Q=>r x y H Q\/r' x y H Q):=by
 intro value slice ZL s σ H x y v u Q I rx ry q hs;rcases q with q|q
 ·exact h value slice ZL s σ H x y v u Q I rx ry q hs
 ·exact h' value slice ZL s σ H x y v u Q I rx ry q hs
def OL(hr:IxR X r)(ha:PE X a ta)(hb:PE X b tb)(hs:Dh b):PE X (.Subscript a b pos) (FP r ta tb):=by intro ZL s σ H Q I h;exact XF (Mi ha hb I h λv u s2 x y H2 I2 rx ry q=>hr a b ZL s2 σ H2 x y v u Q I2 rx ry q (hs _ _))
def O2(K:Zj):R2:=λx y H Q=>∃p xs i v,x=.ref p/\y=.int i/\SqL K H p xs/\fS xs i=some v/\Q v H
def O4(K:Zj):R2:=λx y H Q=>∃p xs i v,x=.ref p/\y=.int i/\SqT K H p xs/\fS xs i=some v/\Q v H
def O3:R2:=λx y H Q=>∃z i c,x=.str z/\y=.int i/\z.length<=sizeLine/\fS z.cps.toList i=some c/\Q (.str ⟨#[c]⟩) H
def ix_list:IxR X (O2 X.K):=by
 intro value slice ZL s σ H x y v u Q I rx ry h hs;obtain⟨p,xs,i,z,rfl,rfl,hq,he,q⟩:=h;cases rx;obtain⟨t,rfl⟩:=ry;obtain⟨its,r,pl,hz⟩:=I.list hq;obtain⟨j,h1,h2,h3,h4,h5⟩:=yM he;obtain⟨w,ew,rw'⟩:=r.get h2;have hl:=r.length;have hn:=sJ;have fin:EP X ZL σ Q w s:=⟨z,H,I,rw',q⟩
 by_cases h0:0<=i
 ·have hj:i.toNat=j:=by
   rw[XH h0 h5] at h1;exact U6 h1
  exact item_listR pl.isList h0 () (by rw[hj];simpa using ew) fin hs
 ·have hj:(i+(its.toArray.size:Int)).toNat=j:=by
   rw[XI () h4] at h1;rw[UM,<-hl];exact U6 h1
  exact YJ (x:=w) pl.isList.typeIs YK.lookup
   (wpAny_getItem_list_neg (Q:=λr s'=>r=w/\EP X ZL σ Q r s') pl.isList () (by rw[UM]<;>lia) () (by rw[hj];simpa using ew) ⟨rfl,fin⟩) hs
def ix_tup:IxR X (O4 X.K):=by
 intro value slice ZL s σ H x y v u Q I rx ry h hs;obtain⟨p,xs,i,z,rfl,rfl,hq,he,q⟩:=h;cases rx;obtain⟨t,rfl⟩:=ry;obtain⟨its,r,pl,hz⟩:=I.tuple hq;obtain⟨j,h1,h2,h3,h4,h5⟩:=yM he;obtain⟨w,ew,rw'⟩:=r.get h2;have hl:=r.length;have hn:=sJ;have fin:EP X ZL σ Q w s:=⟨z,H,I,rw',q⟩
 exact YJ (x:=w) pl.typeIs slot_tuple_getitem.lookup
  (getItem_tuple (j:=j) (Q:=λr s'=>r=w/\EP X ZL σ Q r s') pl () () (by rw[UM,<-hl];exact h1) (by simpa using ew) ⟨rfl,fin⟩) hs
def Mz:IxR X O3:=by
 intro value slice ZL s σ H x y v u Q I rx ry h hs;obtain⟨z,i,c,rfl,rfl,hz,he,q⟩:=h;obtain⟨t,rfl⟩:=rx;obtain⟨t',rfl⟩:=ry;obtain⟨j,h1,h2,h3,h4,h5⟩:=yM he;have hl:z.cps.toList.length=z.length:=by simp[Str.length]
 rw[hl] at h1 h4 h5;have hn:=sJ;exact tail_any (Vm s z t) slot_str_getitem.lookup (getItem_str (c:=c) (by
  have e1:decide (i < -(2^63:Int))=false:=UU ();have e2:decide (i ≥ 2^63)=false:=UU ()
  rw[e1,e2,Bool.or_false]) (by rw[h1];simpa using h2) ⟨.str ⟨#[c]⟩,H,I.tok _,⟨_,rfl⟩,q⟩) hs
def O1(K:Zj):R2:=λx y H Q=>O2 K x y H Q\/O4 K x y H Q\/O3 x y H Q
def My:IxR X (O1 X.K):=ix_list.or (ix_tup.or Mz)
def Cr(its:Zh)(n j:Nat)(u:Value):Obj.mapSeq (·.setIfInBounds j u) { cls:=.type "list",data:=.seq its.toArray n }={ cls:=.type "list",data:=.seq (its.set j u).toArray n }:=by simp[Obj.mapSeq]
def Inv.lst{ZL:Zf}{σ:St}{H:Hp}{s:Shared}{p:Addr}{xs:Za}(I:Inv X ZL σ H s)(h:H p=some (.lst xs)) :
  ∃(its:Zh) (n:Nat),Vals xs its/\s.heap.get? p=some { cls:=.type "list",data:=.seq its.toArray n }/\xs.length<=sizeLine:=by
 obtain⟨z,its,n,r,e⟩:=I.hok p _ h;exact⟨its,n,r,e,z⟩
def Inv.lstUpd{ZL:Zf} {p:Addr}{xs ys:Za}{its its':Zh}{n n':Nat}{f:Obj->Obj}(I:Inv X ZL σ H s)(h:H p=some (.lst xs))
  (ho:s.heap.get? p=some { cls:=.type "list",data:=.seq its.toArray n }) (hf:f { cls:=.type "list",data:=.seq its.toArray n }={ cls:=.type "list",data:=.seq its'.toArray n' }) (r:Vals ys its') (hz:ys.length<=sizeLine) (t:Nat) :
  Inv X ZL σ (upd H p (.lst ys)) { s with heap:=s.heap.update p f,toks:=t }:=by
 have e:(s.heap.update p f).get? p=some { cls:=.type "list",data:=.seq its'.toArray n' }:=by rw[Vc f ho (by rw[hf]<;>rfl),hf]
 refine I.write (x:=p) (e:=p) (by rw[h];trivial) (.inl rfl) (λb u hb q=>(Vu _ _ (UB hb)).trans q) ⟨_,e⟩ ?_;exact⟨hz,its',n',r,e⟩
def Ls:V->V->V->Hp->(Hp->Prop)->Prop:=λo i v H Q=>∃p xs k j,o=.ref p/\i=.int k/\H p=some (.lst xs)/\DE xs.length k=some j/\Q (upd H p (.lst (xs.set j v)))
def HV:N5 X Ls:=by
 intro ZL s σ H o i v ov iv u Q I ro ri rv h;obtain⟨p,xs,k,j,rfl,rfl,hp,hj,q⟩:=h;cases ro;obtain⟨t,rfl⟩:=ri;obtain⟨its,n,r,ho,hz⟩:=I.lst hp;obtain⟨h1,h2,h3,h4⟩:=DF hj;have hl:=r.length;have hn:=sJ;have I':Inv X ZL σ (upd H p (.lst (xs.set j v))) { s with heap:=s.heap.update p (Obj.mapSeq (·.setIfInBounds j u)) }:=
  I.lstUpd hp ho (Cr its n j u) (r.set rv j) (by rw[U0];exact hz) s.toks
 by_cases h0:0<=k
 ·have hk:k.toNat=j:=by
   rw[XH h0 h4] at h1;exact U6 h1
  exact W.ki_setAt ho h0 () (by rw[UM,<-hl];exact h4) (by rw[hk];exact⟨_,I',q⟩)
 ·have hk:(k+(its.toArray.size:Int)).toNat=j:=by
   rw[XI () h3] at h1;rw[UM,<-hl];exact U6 h1
  exact W.ki_setBack ho () (by rw[UM,<-hl];exact h3) () (by rw[hk];exact⟨_,I',q⟩)
def zH(lo hi:Option Int)(n:Nat):(sliceBounds lo hi none n).1=((HT.fU n 0 lo:Nat):Int)/\(sliceBounds lo hi none n).2.1=((HT.fU n n hi:Nat):Int)/\(sliceBounds lo hi none n).2.2=1:=by
 refine⟨?_,?_,rfl⟩
 ·cases lo with
  |none=>simp[sliceBounds,HT.fU]
  |some i=>
   simp only[sliceBounds,HT.fU,Option.getD_none,show (1:Int) > 0 by decide,Vt];by_cases h:i<0
   ·simp only[h,Vt]<;>lia
   ·simp only[h,VB]<;>lia
 ·cases hi with
  |none=>simp[sliceBounds,HT.fU]
  |some i=>
   simp only[sliceBounds,HT.fU,Option.getD_none,show (1:Int) > 0 by decide,Vt];by_cases h:i<0
   ·simp only[h,Vt]<;>lia
   ·simp only[h,VB]<;>lia
def xw(its:Zh)(lo hi:Option Int):slicePick its.toArray lo hi none=((its.drop (HT.fU its.length 0 lo)).take (HT.fU its.length its.length hi-HT.fU its.length 0 lo)).toArray:=by obtain⟨h1,h2,h3⟩:=zH lo hi its.toArray.size;unfold slicePick;rw[h1,h2,h3];simp only[sliceRange_one,pick_run,UM]<;>rfl
def O6(K:Zj):V->Option Int->Option Int->Hp->VK->Prop:=λx lo hi H Q=>∃a xs,x=.ref a/\SqL K H a xs/\∀p,H p=none->Q (.ref p) (upd H p (.lst (oJ xs lo hi)))
def KD:SlR X (O6 X.K):=by intro ZL s σ H x v vl vu lo hi sl Q I rx hs pl pu h;obtain⟨a,xs,rfl,hx,q⟩:=h;cases rx;obtain⟨its,r,ht,hz⟩:=I.list hx;have ZO:=r.length;refine⟨"list",_,YK.lookup,ht.isList.typeIs,?_⟩;refine wpAny_getItem_list_slice ht.isList hs pl pu .none (by simp) ?_ (by rw[UM]<;>lia);rw[xw,<-ZO];refine⟨.ref s.heap.objs.size,_,I.laid (t':=s.toks) (o:=.lst (oJ xs lo hi)) (λb ob q=>Uz _ q) (Ux _) ?_,rfl,q _ (I.hok.fresh (Ux _))⟩;exact⟨UD (tO xs lo hi) hz,_,0,(r.drop (HT.fU xs.length 0 lo)).take (HT.fU xs.length xs.length hi-HT.fU xs.length 0 lo),UK _ rfl⟩
def rh:V->Bool
 |.non=>true
 |.bl _=>true
 |.int _=>true
 |.str _=>true
 |_=>false
def Lb:V->V->Bool
 |.non,.non=>true
 |.bl a,.bl b=>a==b
 |.bl a,.int b=>(if a then 1 else 0)==b
 |.int a,.bl b=>a==(if b then 1 else 0)
 |.int a,.int b=>a==b
 |.str a,.str b=>a==b
 |_,_=>false
def Mv(ry:RelV y u)(rx:RelV x v)(fy:rh y=true)(fx:rh x=true):SeqAt.EqAt A s u v (Lb y x):=by
 cases y with
 |non=>
  cases ry;cases x with
  |non=>cases rx;exact SeqAt.EqAt.same _
  |bl b=>cases rx;exact SeqAt.EqAt.none_bool b
  |int b=>obtain⟨t,rfl⟩:=rx;exact SeqAt.EqAt.none_int b t
  |str b=>obtain⟨t,rfl⟩:=rx;exact SeqAt.EqAt.none_str b t
  |_=>exact absurd (show false=true from fx) U4
 |bl a=>
  cases ry;cases x with
  |non=>cases rx;exact SeqAt.EqAt.bool_none a
  |bl b=>cases rx;exact SeqAt.EqAt.bool_bool a b
  |int b=>obtain⟨t,rfl⟩:=rx;exact SeqAt.EqAt.bool_int a b t
  |str b=>obtain⟨t,rfl⟩:=rx;exact SeqAt.EqAt.bool_str a b t
  |_=>exact absurd (show false=true from fx) U4
 |int a=>
  obtain⟨t',rfl⟩:=ry;cases x with
  |non=>cases rx;exact SeqAt.EqAt.int_none a t'
  |bl b=>cases rx;exact SeqAt.EqAt.int_bool a t' b
  |int b=>obtain⟨t,rfl⟩:=rx;exact YL a t' b t
  |str b=>obtain⟨t,rfl⟩:=rx;exact Ys a t' b t
  |_=>exact absurd (show false=true from fx) U4
 |str a=>
  obtain⟨t',rfl⟩:=ry;cases x with
  |non=>cases rx;exact SeqAt.EqAt.str_none a t'
  |bl b=>cases rx;exact SeqAt.EqAt.str_bool a t' b
  |int b=>obtain⟨t,rfl⟩:=rx;exact Yt a t' b t
  |str b=>obtain⟨t,rfl⟩:=rx;exact SeqAt.EqAt.str_str a t' b t
  |_=>exact absurd (show false=true from fx) U4
 |_=>exact absurd (show false=true from fy) U4
def Jw(x:V)(u:Value):Bool:=match u with
 |.none=>Lb .non x
 |.bool b=>Lb (.bl b) x
 |.int i _=>Lb (.int i) x
 |.str z _=>Lb (.str z) x
 |_=>false
def Gz(r:RelV y u)(f:rh y=true):Jw x u=Lb y x:=by
 cases y with
 |non=>cases r;rfl
 |bl b=>cases r;rfl
 |int i=>obtain⟨t,rfl⟩:=r;rfl
 |str z=>obtain⟨t,rfl⟩:=r;rfl
 |_=>exact absurd (show false=true from f) U4
theorem yL:∀ {xs:Za} {us:Zh},Vals xs us->xs.all rh=true->us.any (Jw x)=xs.any λy=>Lb y x
 |_,_,.nil,_=>rfl
 |y::xs,u::us,.cons r t,f=>by rw[XJ,UZ] at f;rw[VC,VC,Gz r f.1,yL t f.2]
theorem v5(rx:RelV x v)(fx:rh x=true):∀ {xs:Za} {us:Zh},Vals xs us->xs.all rh=true->∀u∈us,SeqAt.EqAt A s u v (Jw x u)
 |_,_,.nil,_=>λu hu=>by cases hu
 |y::xs,u::us,.cons r t,f=>λu' hu=>by
  rw[XJ,UZ] at f;rcases UC.1 hu with rfl|hu
  ·rw[Gz r f.1];exact Mv r rx f.1 fx
  ·exact v5 rx fx t f.2 u' hu
def Qa(x:V)(xs:Za):Bool:=xs.any λy=>Lb y x
def Si(K:Zj)(neg:Bool):R2:=λx y H Q=>∃p xs,y=.ref p/\(SqL K H p xs\/SqT K H p xs)/\rh x=true/\xs.all rh=true/\Q (.bl (if neg then !Qa x xs else Qa x xs)) H
def oy:OpR X (compareOp .In) (Si X.K false):=by
 intro ZL s σ H x y v u Q I rx ry h;obtain⟨p,xs,rfl,hq,fx,fs,q⟩:=h;cases ry;rcases hq with hq|hq
 ·obtain⟨its,r,pl,hz⟩:=I.list hq;refine SeqAt.in_listAt (Jw x) pl.isList (λw hw=>v5 rx fx r fs w (by simpa using hw)) ⟨.bl _,H,I,rfl,?_⟩;rw[show its.toArray.any (Jw x)=its.any (Jw x) by simp,yL r fs];exact q
 ·obtain⟨its,r,pl,hz⟩:=I.tuple hq;refine SeqAt.in_tupleAt (Jw x) pl (λw hw=>v5 rx fx r fs w (by simpa using hw)) ⟨.bl _,H,I,rfl,?_⟩;rw[show its.toArray.any (Jw x)=its.any (Jw x) by simp,yL r fs];exact q
def CallR.or(h:CallR X f r)(h':CallR X f r'):CallR X f (λxs H Q=>r xs H Q\/r' xs H Q):=by
 intro ZL s σ H xs us Q I rs q;rcases q with q|q
 ·exact h ZL s σ H xs us Q I rs q
 ·exact h' ZL s σ H xs us Q I rs q
def oW:CallR X (.type "tuple") (λxs H Q=>∃p ys,xs=[.ref p]/\((SqL X.K H p ys/\∀l,H l=none->Q (.ref l) (upd H l (.tup ys)))\/(SqT X.K H p ys/\Q (.ref p) H))):=by
 intro ZL s σ H xs us Q I r h;obtain⟨p,ys,rfl,h⟩:=h;obtain⟨u,rfl,rx⟩:=Er r;cases rx;rcases h with ⟨hq,q⟩|⟨hq,q⟩
 ·obtain⟨its,r',pl,hz⟩:=I.list hq;have ZO:=r'.length;refine call_tuple_list pl.isList (λh' kp=>?_) (by simp only[UM]<;>lia);have I1:Inv X ZL σ H { s with heap:=h' }:=I.kept (t':=s.toks) kp;have I2:Inv X ZL σ (upd H h'.objs.size (.tup ys)) { s with heap:=h'.push { cls:=.type "tuple",data:=.seq its.toArray } }:=
   I1.laid (t':=s.toks) (λb o e=>Uz _ e) (Ux _) (show ObjOk X.prog X.w _ _ _ (.tup ys) from ⟨hz,its,r',TupN.new _ _⟩)
  exact⟨.ref h'.objs.size,_,I2,rfl,q _ (I1.hok.fresh (Ux _))⟩
 ·obtain⟨its,r',pl,hz⟩:=I.tuple hq;exact call_tuple_same pl ⟨.ref p,H,I,rfl,q⟩
def Q6(K:Zj)(T:String)(x:V)(H:Hp):Prop:=match x with
 |.str _=>T="str"
 |.int _=>T="int"
 |.ref p=>(T="list" /\ ∃xs,SqL K H p xs)\/(T="tuple" /\ ∃o,K.lookup p=some o/\o.cls=.type "tuple" /\ o.dict=none) \/
   (T="dict" /\ ((∃kvs,H p=some (.dK kvs))\/∃kvs,H p=some (.dT kvs)))\/(T="set" /\ ∃S n,H p=some (.set S n))
 |_=>False
def Iz{ZL:Zf} (I:Inv X ZL σ H s)(r:RelV x v)(ty:Q6 X.K T x H) :
  s.TypeIs v T/\∀a,v=.ref a->∃ob,s.heap.get? a=some ob/\ob.dict=none:=by
 cases x with
 |str z=>
  obtain⟨t,rfl⟩:=r;cases (show T="str" from ty);exact⟨Vm s z t,λ_ e=>nomatch e⟩
 |int i=>
  obtain⟨t,rfl⟩:=r;cases (show T="int" from ty);exact⟨typeIs_int s i t,λ_ e=>nomatch e⟩
 |ref p=>
  cases r;rcases ty with ⟨rfl,xs,hq⟩|⟨rfl,o,hk,hc,hd⟩|⟨rfl,hk⟩|⟨rfl,S,n,hk⟩
  ·obtain⟨its,_,pl,_⟩:=I.list hq;refine⟨pl.isList.typeIs,λa e=>?_⟩;cases e;obtain⟨o,n,e,c,hd,_⟩:=pl;exact⟨o,e,hd⟩
  ·refine⟨⟨o,I.kIn p o hk,hc⟩,λa e=>?_⟩;cases e;exact⟨o,I.kIn _ o hk,hd⟩
  ·have z:∃o,s.heap.get? p=some o/\o.ExactDict:=by
    rcases hk with ⟨kvs,hk⟩|⟨kvs,hk⟩
    ·obtain⟨_,_,_,_,o,_,_,e,ex,_⟩:=I.hok p _ hk;exact⟨o,e,ex⟩
    ·obtain⟨_,_,_,_,o,_,_,e,ex,_⟩:=I.hok p _ hk;exact⟨o,e,ex⟩
   obtain⟨o,e,ex⟩:=z;refine⟨⟨o,e,ex.1⟩,λa e2=>?_⟩;cases e2;exact⟨o,e,ex.2.1⟩
  ·obtain⟨o,_,_,_,e,ex,_⟩:=I.hok p _ hk;refine⟨⟨o,e,ex.1⟩,λa e2=>?_⟩;cases e2;exact⟨o,e,ex.2.1⟩
 |_=>exact False.elim ty
def NB(K:Zj)(T:String)(r:V->Za->Hp->VK->Prop)(to:TE):TE:=λσ H Q=>to σ H λx H1=>Q6 K T x H1/\r x [] H1 Q
def Eh(K:Zj)(T:String)(r:V->Za->Hp->VK->Prop)(to:TE)(t:TA):TE:=λσ H Q=>to σ H λx H1=>Q6 K T x H1/\t σ H1 λxs H2=>r x xs H2 Q
variable {o e:Expr}{es:List Expr}{to:TE}{t:TA}{name:Str}{apos cpos:Pos}{T id:String}{r:V->Za->Hp->VK->Prop}
def MV(pa:PlainAttrs T)(slot:Slot T name id)(hty:typeOf (.builtin id)=pure (.type "method_descriptor")) (hm:Jb X id r) (ho:PE X o to)
  (hbase:attributeBase o name X.env (eval o X.env)=eval o X.env:=by rfl) (hline:(apos.endLine==cpos.line)=true:=by rfl):PE X (.Call (.Attribute o name apos) [] [] cpos) (NB X.K T r to):=by
 intro ZL s σ H Q I h;refine wpAny_Call_method0_late hbase hline (cr (ho ZL s σ H _ I h) λv s1 ZN=>?_);obtain⟨x,H1,I1,r1,ty,q1⟩:=ZN;obtain⟨h1,h2⟩:=Iz I1 r1 ty;exact⟨T,id,pa,slot,hty,h1,h2,WQ rfl (PySem.evalArgs_none (hm ZL s1 σ H1 x [] v [] Q I1 r1 .nil q1))⟩
def cR(pa:PlainAttrs T)(slot:Slot T name id)(hty:typeOf (.builtin id)=pure (.type "method_descriptor")) (hm:Jb X id r) (ho:PE X o to) (ha:PA X (e::es) t)
  (hbase:attributeBase o name X.env (eval o X.env)=eval o X.env:=by rfl)
  (hfew:((backTo cpos (starEach (e::es) X.env)).all (λx=>!x.1)&&(backToKw cpos (keywordEach [] X.env)).all (λx=>x.1.isSome)
   && decide ((e::es).length+([]:List Keyword).length+(if ([]:List Keyword).isEmpty then 0 else 1)<30))=true:=by rfl)
  (hline:(apos.endLine==cpos.line)=true:=by rfl) (hs:starEach (e::es) X.env=(false,eval e X.env)::starEach es X.env:=by rfl) (hplain:(backTo cpos (starEach es X.env)).any (·.1)=false:=by rfl) :
  PE X (.Call (.Attribute o name apos) (e::es) [] cpos) (Eh X.K T r to t):=by
 intro ZL s σ H Q I h;refine wpAny_Call_method_late hbase hfew hline rfl (cr (ho ZL s σ H _ I h) λv s1 ZN=>?_);obtain⟨x,H1,I1,r1,ty,q1⟩:=ZN;obtain⟨h1,h2⟩:=Iz I1 r1 ty;refine⟨T,id,pa,slot,hty,h1,h2,?_⟩;have hA:=ha cpos ZL s1 σ H1 _ I1 q1;rw[hs] at hA ⊢;refine WQ (by show (false || (backTo cpos (starEach es X.env)).any (·.1))=false;rw[hplain]<;>rfl) (Wm ?_);exact cr hA λus s2 ⟨vs,H2,I2,r2,q2⟩=>hm ZL s2 σ H2 x vs v us Q I2 r1 r2 q2
end
def QB(X:Cx)(id:String)(r:V->Za->Hp->VK->Prop):Prop:=
 ∀(ZL:Zf) (s:Shared) (σ:St) (H:Hp) (x:V) (xs:Za) (v:Value) (us:Zh) (Q:VK),Inv X ZL σ H s->RelV x v->Vals xs us->r x xs H Q ->
  wpAny (model X.prog X.w) X.A (call (.builtin id) (v::us)) (EP X ZL σ Q) X.xe s
def Vals.one{x:V}{us:Zh}(h:Vals [x] us):∃u,us=[u]/\RelV x u:=by
 cases h with
 |cons r t=>cases t;exact⟨_,rfl,r⟩
def Vals.two{x y:V}{us:Zh}(h:Vals [x,y] us):∃u v,us=[u,v]/\RelV x u/\RelV y v:=by
 cases h with
 |cons r t=>
  cases t with
  |cons q t=>cases t;exact⟨_,_,rfl,r,q⟩
def Vals.zero:∀ {us:Zh},Vals [] us->us=[]
 |_,.nil=>rfl
def Vals.dropLast{xs:Za} (h:Vals xs us):Vals xs.dropLast us.dropLast:=by
 induction h with
 |nil=>exact .nil
 |cons r t ih=>
  cases t with
  |nil=>exact .nil
  |cons q t'=>exact .cons r ih
def Cb{α:Type}(l:List α):l.eraseIdx (l.length-1)=l.dropLast:=by
 induction l with
 |nil=>rfl
 |cons a r ih=>
  cases r with
  |nil=>rfl
  |cons b r=>
   have e:(a::b::r).length-1=((b::r).length-1)+1:=by have h1:(a::b::r).length=r.length+2:=rfl;have h2:(b::r).length=r.length+1:=rfl;lia
   rw[e,List.eraseIdx_cons_succ,ih];all_goals rfl
section
variable {X:Cx}{ZL:Zf}{σ:St}{H:Hp}{s:Shared}{l b:Addr}{xs ys zs:Za}
def Inv.lset{its its':Zh}{n:Nat}{f:Array Value->Array Value}{t':Nat}(I:Inv X ZL σ H s)(hH:H l=some (.lst xs))
  (e:s.heap.get? l=some { cls:=.type "list",data:=.seq its.toArray n }) (hf:f its.toArray=its'.toArray) (hv:Vals ys its') (hz:ys.length<=sizeLine) :
  Inv X ZL σ (upd H l (.lst ys)) { s with heap:=s.heap.update l (Obj.mapSeq f),toks:=t' }:=by
 have q:=PySem.IsL.update e f;rw[hf] at q;refine I.write (x:=l) (e:=l) (by rw[hH];exact trivial) (.inl rfl) (λb' u hb hu=>(Vu s.heap (Obj.mapSeq f) (UB hb)).trans hu) ⟨_,q⟩ ?_;exact⟨hz,its',_,hv,q⟩
def Inv.lnew{its:Zh}{t':Nat}(I:Inv X ZL σ H s)(hv:Vals ys its)(hz:ys.length<=sizeLine) :
  Inv X ZL σ (upd H s.heap.objs.size (.lst ys)) { s with heap:=s.heap.push { cls:=.type "list",data:=.seq its.toArray },toks:=t' }:=
 I.laid (λ_ _ q=>Uz _ q) (Ux _) ⟨hz,its,0,hv,UK _ rfl⟩
def Inv.fresh(I:Inv X ZL σ H s):H s.heap.objs.size=none:=I.hok.fresh (Ux _)
def Inv.lstM(I:Inv X ZL σ H s)(hH:H l=some (.lst xs)):xs.length<=sizeLine/\∃(its:Zh) (n:Nat),Vals xs its/\xs.length=its.length/\s.heap.get? l=some { cls:=.type "list",data:=.seq its.toArray n }:=by obtain⟨z,its,n,r,e⟩:=I.hok l _ hH;exact⟨z,its,n,r,r.length,e⟩
def G7{n:Nat}(h:n<=sizeLine):Builtin.List.listTooLong n=false:=by unfold Builtin.List.listTooLong;exact UU ()
end
section
variable {X:Cx}
def rAppend:V->Za->Hp->VK->Prop:=λx vs H Q=>∃l xs y,x=.ref l/\vs=[y]/\H l=some (.lst xs)/\xs.length<sizeLine/\Q .non (upd H l (.lst (xs++[y])))
def hV:QB X "list.append" rAppend:=by intro ZL s σ H x vs v us Q I rx rv h;obtain⟨l,xs,y,rfl,rfl,hH,hz,q⟩:=h;cases rx;obtain⟨u,rfl,ru⟩:=rv.one;obtain⟨z,its,n,r,hl,e⟩:=I.lstM hH;refine Vn F.slot_list_append ⟨_,e,rfl⟩ F.entry_list_append (F.args_list_append_2 _ _) (PySem.list_append l its.toArray n u (by rw[UM];lia)) ⟨e,?_⟩;refine⟨.non,_,I.lset (its':=its++[u]) hH e (by simp) (r.append (.cons ru .nil)) ?_,rfl,q⟩;rw[U2,VP];lia
def rPop:V->Za->Hp->VK->Prop:=λx vs H Q=>∃l xs y,x=.ref l/\vs=[]/\H l=some (.lst xs)/\xs[xs.length-1]?=some y/\Q y (upd H l (.lst xs.dropLast))
def MI:QB X "list.pop" rPop:=by
 intro ZL s σ H x vs v us Q I rx rv h;obtain⟨l,xs,y,rfl,rfl,hH,hy,q⟩:=h;cases rx;have hus:=rv.zero;subst hus;obtain⟨z,its,n,r,hl,e⟩:=I.lstM hH;obtain⟨u,hu,ru⟩:=r.get hy;have hy':its.toArray[its.toArray.size-1]?=some u:=by show its.toArray[its.length-1]?=some u;rw[<-WR,<-hl];exact hu
 refine Vn F.slot_list_pop ⟨_,e,rfl⟩ F.entry_list_pop (F.args_list_pop_1 _) (MeetsSeq.list_pop_last l its.toArray n u hy' (by rw[UM];lia)) ⟨e,?_⟩;refine⟨y,_,I.lset (its':=its.dropLast) hH e ?_ r.dropLast ?_,ru,q⟩
 ·show its.toArray.eraseIdxIfInBounds (its.toArray.size-1)=its.dropLast.toArray;rw[UM,List.eraseIdxIfInBounds_toArray,Cb]
 ·rw[List.length_dropLast];lia
end
end L2
namespace Att
open PySem PySem.W PySem.Calls PyProof.Rows
def uA:∀(ns:Zn) (vs:Zh),WellAll P h vs (ns.map WData.int)->IntsAre vs ns:=by
 intro ns;induction ns with
 |nil=>
  intro vs w;rw[XD] at w;cases w;exact .nil
 |cons n ns ih=>
  intro vs w;rw[UG] at w;cases w with
  |cons a b=>cases a;exact .cons _ _ (ih _ b)
def Fy{l:OpenLaw}{n:Nat}(hn:l.most=some n) {args:List WData} 
  (hpre:l.row.toRowW.claim.pre args=true) (hwl:WellAll P h vals args) :
  ∃a vs ns,vals=[Value.ref a]/\args=[WData.list (ns.map WData.int)]/\h.get? a=some { cls:=.type "list",data:=.seq vs.toArray }/\IntsAre vs ns/\ns.length<=n:=by
 have hsh:WShape.hasAll [] args [.list .int]=true:=(pre_splitW hpre).1;have hc:l.pre.holds [] { args:=args }=true:=(pre_splitW hpre).2;obtain⟨d,r,rfl,h1,h2⟩:=hasAllW_cons hsh;obtain rfl:=hasAllW_nil h2;obtain⟨xs,rfl,h3⟩:=hasW_list h1;obtain⟨ns,rfl⟩:=items_int h3;have ZO:ns.length<=n:=by
  unfold OpenLaw.pre at hc;have h4:(WTm.not (.lt (.lit (.int (n:Int))) (.len (.arg 0)))).holds [] { args:=[.list (ns.map .int)] }=true:=by have h4:=(holds_andW hc).1;rw[hn] at h4;exact h4
  have h5:=condW_of h4 (w_not (w_lt w_lit (w_len_list (w_arg rfl))));rw[UN] at h5;refine Nat.le_of_not_lt λq=>?_;have q':(n:Int)<((ns.length:Nat):Int):=by omega
  first
   | (rw[VZ q'] at h5;exact absurd h5 (by decide))
   | (simp at h5;omega)
 cases hwl with
 |cons w1 w2=>
  cases w2;cases w1 with
  |list ho hall=>exact⟨_,_,ns,rfl,rfl,ho,uA ns _ hall,ZO⟩
def Fs(l:OpenLaw)(args:List WData):l.row.toRowW.claim.post args (.bool true) args=true:=
 postW_of (r:=l.row.toRowW) (X:=(true==true))
  (show WShape.has [] (.bool true) .bool=true by first|rfl|decide|simp[WShape.has,WShape.arms,WShape.armsAll])
  (show (WTm.eq .res (.lit (.bool true))).value [] { args:=args,res:=some (.bool true),after:=args }=some (.bool (true==true)) from w_eq_bool (w_res rfl) w_lit) rfl
def zZ{l:OpenLaw}{n:Nat} {YP:World->Heap->Prop}{d:DefRec}
  (hn:l.most=some n) (hdf:d.params.defaults=[])
  (call:∀(w:World) (s₀ s₁:Shared) (mg mb:Zg) (fa:Addr) (o:Obj) (pm cd doc:Value) (a:Addr) (vs:Zh) (ns:Zn),
   Ground q loose [] XP w s₀ mg mb s₁.heap->YP w s₁.heap ->
   s₁.heap.get? fa=some o->o.data=.func (docDef d.name d.params d.body d.scope pm cd doc)->s₁.heap.CodeRec cd d.name->mg d.name=some (.ref fa) ->
   s₁.heap.get? a=some { cls:=.type "list",data:=.seq vs.toArray }->IntsAre vs ns->ns.length<=n->s₁.gens = #[] ->
   codeAny (model l.prog w) callerA (.call (.ref fa) ⟨[.ref a],[]⟩) (λr s'=>r=.ok (.ret (.bool true))/\OldK s₁.heap s'.heap/\s'.os=s₁.os/\AllBare s'.gens) s₁) :
  WalkO q loose XP YP l.row.toRowW d [] (λf vs=>PySem.call f vs):=by
 intro w s₀ s₁ mg mb G Y fa o pm cd doc dV kV ho hd hcd hD hmg hg args vals as hpre hlay hrd hwl hlo;obtain rfl:dV=.none:=Dflts.none hD hdf;obtain rfl:kV=.none:=Dflts.noKw hD;obtain⟨a,vs,ns,rfl,rfl,hobj,hints,ZO⟩:=Fy hn hpre hwl;refine enter_call (Wk (call w s₀ s₁ mg mb fa o pm cd doc a vs ns G Y ho (fd_plain hd) hcd hmg hobj hints ZO hg) λr s' hq=>?_);obtain⟨rfl,h2,h3,h4⟩:=hq;exact⟨.inl ⟨.bool true,.bool true,[],rfl,λ_=>rfl,.bool true,Fs l _,λ_=>⟨List.Pairwise.nil,λ_ hm=>(nomatch hm)⟩⟩,h2,h3,h4⟩
end Att
namespace L2
open PySem PySem.Spec PyProof.Rows
theorem yC:∀ {vs:Zh} {ns:Zn},IntsAre vs ns->Vals (ns.map V.int) vs
 |_,_,.nil=>.nil
 |_,_,.cons n t h=>.cons ⟨t,rfl⟩ (yC h)
def LZ(H:Hp):Prop:=∀b,H b=none\/∃o xs,H b=some (.frz o (.lst xs))
def GW{K:Zj}{mg mb:Zg}{CX:zR}{k:Nat}{a:Addr}{fd:FuncData}{x:Str}{sp:Sp}{s₁:Shared}{vs:Zh} 
  (KX:K.In s₁.heap) (hns:s₁.heap.Ns mainGlobals mg) (hb:s₁.heap.Ns builtinsNs mb) (hbb:∀x:Str,x ≠ "__name__" -> mb x=bootBuiltins x) (hlim:s₁.heap.NoLimit) (hg:s₁.gens = #[])
  (ha:s₁.heap.get? a=some { cls:=.type "list",data:=.seq vs.toArray }) (hi:IntsAre vs ns) (hl:ns.length<=sizeLine) (hr:ZA k callerA)
  (F:∀base:Heap,K.In base->base.Ns mainGlobals mg->Zq P w K mg base CX k fa fd [x] sp) (hbind:∀(s:Shared) (u:Value),BindsTo s fd ⟨[u],[]⟩ [(x,u)])
  (hsp:∀H:Hp,LZ H->SqL K H a (ns.map V.int)->sp [.ref a] H (λv _=>v=.bl true) λ_ _ _=>False)
  (hCX:∀H e s',CX [] H s₁ (λ_ _ _=>False) e s'->False) :
  codeAny (model P w) callerA (.call (.ref fa) ⟨[.ref a],[]⟩) (λr s'=>r=.ok (.ret (.bool true))/\OldK s₁.heap s'.heap/\s'.os=s₁.os/\AllBare s'.gens) s₁:=by
 have rv:=yC hi;have lenV:=hi.length
 -- from an abstract heap in which nothing but the script may be tracked
 have core:∀H:Hp,LZ H->SqL K H a (ns.map V.int)->HOk P w H s₁.heap->(∀b,H b≠none->b=a)->(H a≠none->K.lookup a=none) ->
   codeAny (model P w) callerA (.call (.ref fa) ⟨[.ref a],[]⟩) (λr s'=>r=.ok (.ret (.bool true))/\OldK s₁.heap s'.heap/\s'.os=s₁.os/\AllBare s'.gens) s₁:=by
  intro H hO hS hok hA hK;have base_of:∀ {b:Addr} {o:Obj},s₁.heap.get? b=some o->H b=none->(y7 s₁.heap H).get? b=some o:=λe n=>GL e n;have noA:∀ {b:Addr} {o:Obj} {es:Array DictEntry} {ep:Nat},s₁.heap.get? b=some o->o.data=.dict es ep->H b=none:=λ{b o es ep} e d=>by
   cases q:H b with
   |none=>rfl
   |some u=>have e':b=a:=hA b (by rw[q];simp);subst e';rw[ha] at e;cases e;have d':Data.seq vs.toArray _=Data.dict es ep:=d;cases d'
  have nsK:∀ {b:Addr} {m:Zg},s₁.heap.Ns b m->(y7 s₁.heap H).Ns b m:=λ{b m} ⟨o,es,ep,e,d,r⟩=>⟨o,es,ep,base_of e (noA e d),d,r⟩
  have hKb:K.In (y7 s₁.heap H):=λb o e=>base_of (KX b o e) (by
   cases q:H b with
   |none=>rfl
   |some u=>
    have e':b=a:=hA b (by rw[q];simp);subst e'
    rw[hK (by rw[q];simp)] at e;cases e)
  have hM:Mod K mg (y7 s₁.heap H):=⟨hKb,nsK hns,⟨mb,nsK hb,hbb⟩,let ⟨mc,h1,h2⟩:=hlim;⟨mc,nsK h1,h2⟩⟩
  have e0:Env0 P w K mg (y7 s₁.heap H) callerA [] s₁ H:=⟨rfl,hM,λb o e=>JR e,Vj (E1 _ _),trivial,λb hb=>absurd (show b∈([]:Zk) from hb) (by simp),hok,.of_eq hg⟩
  refine Wk ((F _ hKb (nsK hns)).run callerA [] s₁ H ⟨[.ref a],[]⟩ [.ref a] [.ref a] _ _ hr e0 (hbind s₁ (.ref a)) (.cons rfl .nil) (hsp H hO hS)) λr s' h=>?_;cases r with
  |error e=>exact (hCX H e s' h).elim
  |ok fl=>
   cases fl with
   |next=>exact False.elim h
   |brk=>exact False.elim h
   |cont=>exact False.elim h
   |ret u=>
    obtain⟨v,H',os,bare,un,hok',r',q⟩:=h;have q':v=.bl true:=q;subst q';obtain rfl:u=Value.bool true:=r';refine⟨rfl,OldK.of_keep λb o e=>?_,os,bare⟩;cases q:H b with
    |none=>exact un.keep b o e q (by intro z;exact absurd (show b∈([]:Zk) from z) (by simp)) (by simp)
    |some u=>
     rcases hO b with z|⟨ob,xs,z⟩
     ·rw[q] at z;cases z
     ·have z2:=un.frzs b ob _ z;obtain⟨e1,_⟩:=hok b _ z;obtain⟨e2,_⟩:=hok' b _ z2;rw[e] at e1;cases e1;exact e2
 cases hk:K.lookup a with
 |some o=>
  -- the script is one of the module's own objects
  have e:=KX a o hk;rw[ha] at e;cases e;refine core (λ_=>none) (λ_=>.inl rfl) (.inr ⟨_,vs.toArray,_,hk,rfl,rfl,rfl,by rw[UM,lenV];exact hl,by simpa using rv⟩) (λb u z=>by have z':(none:Option HO)=some u:=z;cases z') (λb z=>absurd rfl z) λz=>absurd rfl z
 |none=>
  refine core (λb=>if b=a then some (.frz { cls:=.type "list",data:=.seq vs.toArray } (.lst (ns.map V.int))) else none) (λb=>?_) (.inl (.inr ⟨{ cls:=.type "list",data:=.seq vs.toArray },Uv rfl⟩)) (λb u z=>?_) (λb z=>?_) λ_=>hk
  ·by_cases hb:b=a
   ·exact .inr ⟨_,_,Uv hb⟩
   ·exact .inl (Uu hb)
  ·by_cases hb:b=a
   ·have z':=(Uv hb).symm.trans z;cases z';subst hb;exact⟨ha,by rw[UN];exact hl,vs,_,rv,ha⟩
   ·have z':=(Uu hb).symm.trans z;cases z'
  ·by_cases hb:b=a
   ·exact hb
   ·exact absurd (Uu hb) z
def KU{l:W.OpenLaw}{n k:Nat} {YP:World->Heap->Prop}{d:DefRec}{K:Params->Zj}{CX:World->zR}{sp:World->Sp}{x:Str}
  (hn:l.most=some n) (hn2:n<=sizeLine) (hdf:d.params.defaults=[]) (hr:ZA k callerA)
  (hY:∀(w:World) (h:Heap),YP w h->(K w.params).In h)
  (F:∀(w:World) (mg:Zg) (fa:Addr) (h:Heap),(K w.params).In h->h.Ns mainGlobals mg->mg d.name=some (.ref fa) ->
   ∃fd:FuncData,(∀(s:Shared) (u:Value),BindsTo s fd ⟨[u],[]⟩ [(x,u)]) /\
    ∀base:Heap,(K w.params).In base->base.Ns mainGlobals mg->Zq l.prog w (K w.params) mg base (CX w) k fa fd [x] (sp w))
  (hsp:∀(w:World) (H:Hp) (a:Addr) (ns:Zn),ns.length<=n->LZ H->SqL (K w.params) H a (ns.map V.int)->sp w [.ref a] H (λv _=>v=.bl true) λ_ _ _=>False)
  (hCX:∀(w:World) (H:Hp) (s:Shared) (e:Value) (s':Shared),CX w [] H s (λ_ _ _=>False) e s'->False) :
  W.WalkO q loose XP YP l.row.toRowW d [] (λf vs=>PySem.call f vs):=by
 refine Att.zZ hn hdf λw s₀ s₁ mg mb fa o pm cd doc a vs ns G Y ho hd hcd hmg hobj hints ZO hg=>?_;have KX:=hY w _ Y;obtain⟨fd,hb,hF⟩:=F w mg fa _ KX G.T.g hmg;exact GW KX G.T.g G.T.b G.T.builtins G.T.nolimit hg hobj hints (UD ZO hn2) hr hF hb (λH hO hS=>hsp w H a ns ZO hO hS) λH e s'=>hCX w H s₁ e s'
def i8(s:Stmt)(j:Nat):Stmt:=match s with
 |.ClassDef _ _ _ body _ _ _ _ _ _ _=>body.getD j (.Pass ⟨0,0,0,0⟩)
 |_=>.Pass ⟨0,0,0,0⟩
def i4(s:Stmt):Arguments:=match s with
 |.FunctionDef _ a _ _ _ _ _ _ _ _=>a
 |_=>{ posonlyargs:=[],args:=[],vararg:=none,kwonlyargs:=[],kw_defaults:=[],kwarg:=none,defaults:=[] }
def fX(s:Stmt):List Stmt:=match s with
 |.FunctionDef _ _ b _ _ _ _ _ _ _=>b
 |_=>[]
def aB(s:Stmt):Scope:=match s with
 |.FunctionDef _ _ _ _ _ _ sc _ _ _=>sc
 |_=>{ kind:=.function,names:=[],isGenerator:=false,isCoroutine:=false }
abbrev cz:zR:=λ_ _ _ _ _ _=>False
abbrev E0:XK:=λ_ _ _=>False
def aW:gc cz X E0:=λ_ _ _ _ _ _ _ h=>h.elim
structure Fun(K:Zj)(x qual:Str)(st:Stmt)(f:Addr)(fd:FuncData):Prop where
 ex:∃(oc:Value) (od:Option Addr) (kV doc pm:Value) (an:Option Addr) (cdv ct:Value) (osl:Array (Zi)),
  fd=W.fnOf x qual (i4 st) (fX st) (aB st) .none kV doc pm an cdv ct/\K.lookup f=some ⟨oc,od,.func fd,osl⟩/\W.codeIn K cdv qual=true
 kp:W.keepIn K (.ref f)=true
section
variable {P:Program}{w:World}{K:Zj}{mg:Zg}{base:Heap}
def Fun.ok{x qual:Str}{st:Stmt}{f:Addr}{fd:FuncData}{N ps:Zl}{k:Nat}{sp:Sp}(F:Fun K x qual st f fd)(S:Zp N ps (aB st))(len:∀vs H Q E,sp vs H Q E->vs.length=ps.length)
  (hbody:∀(cdv:Value) (A:Around) (outer:List Env) (s:Shared) (H:Hp) (vs:Za) (Q:VK) (E:XK),ZA k (A.deeper (envOfC qual (aB st) s.heap.objs.size f cdv))->sp vs H Q E ->
   ∃t,PSs (m5 cz P w K mg base N qual (aB st) f cdv A outer s H E).nox (fX st) t/\t { nx:=λ_ H'=>Q .non H',rt:=Q } (aX N vs) H):Zq P w K mg base cz (k+1) f fd ps sp:=by
 obtain⟨oc,od,kV,doc,pm,an,cdv,ct,osl,rfl,lk,hcd⟩:=F.ex;refine GH lk hcd S len λA outer s H vs Q E hr hsp=>?_;obtain⟨t,h,q⟩:=hbody cdv A outer s H vs Q E hr hsp;exact⟨t,h.nox,q⟩
def Fun.binds{qual:Str}{st:Stmt} {fd:FuncData}{ps:Zl}(F:Fun K x qual st f fd)
  (h:∀(kV doc pm:Value) (an:Option Addr) (cdv ct:Value) (us:Zh),us.length=ps.length->bindArgs (W.fnOf x qual (i4 st) (fX st) (aB st) .none kV doc pm an cdv ct) ⟨us,[]⟩=pure (ps.zip us)):Binds K fd ps []:=by
 obtain⟨oc,od,kV,doc,pm,an,cdv,ct,osl,rfl,lk,hcd⟩:=F.ex;exact .all (h kV doc pm an cdv ct)
def bC{x qual:Str}{st:Stmt}{f:Addr}{oc:Value}{od an:Option Addr}{osl:Array (Zi)}{kV doc pm cdv ct:Value}(l:K.lookup f=some ⟨oc,od,.func (W.fnOf x qual (i4 st) (fX st) (aB st) .none kV doc pm an cdv ct),osl⟩)
  (c:W.codeIn K cdv qual=true) (k:W.keepIn K (.ref f)=true):Fun K x qual st f (W.fnOf x qual (i4 st) (fX st) (aB st) .none kV doc pm an cdv ct):=⟨⟨oc,od,kV,doc,pm,an,cdv,ct,osl,rfl,l,c⟩,k⟩
end
section
variable {X:Cx}
def pv(i:Nat){x:Str}{pos:Pos}(hN:X.N[i]?=some x:=by rfl)(hv:QI X.env.scope x:=by first|exact Or.inl rfl|exact Or.inr (.inl rfl)|exact Or.inr (.inr rfl))(hd:(x==("__debug__" : Str))=false:=by decide)
  (hcd:(x==("__classdict__" : Str))=false:=by decide):PE X (.Name x pos) (j4 i):=MX hN hv hd hcd
end
def rA{A B:Prop}(h:B):if false=true then A else B:=by rw[Uu U4];exact h
def oP{A B:Prop}(h:A):if true=true then A else B:=by rw[Uv rfl];exact h
def Same(H H':Hp):Prop:=∀b o,H b=some o->H' b=some o
def Same.refl(H:Hp):Same H H:=λ_ _ h=>h
def Same.trans{H1 H2:Hp}(a:Same H H1)(b:Same H1 H2):Same H H2:=λc o h=>b c o (a c o h)
def Same.free{H':Hp}(e:Same H H'){l:Addr}(h:H' l=Option.none):H l=Option.none:=by
 cases q:H l with
 |none=>rfl
 |some o=>rw[e l o q] at h;cases h
end L2
set_option linter.all false
set_option maxHeartbeats 4000000
set_option maxRecDepth 100000
namespace L2
open PySem PySem.Spec PyProof.Rows
structure Zw(XN:Zl)(sc scope:Scope)(N:Zl)(js:List (Option Nat)):Prop where
 kind:scope.kind=.function
 cell:∀y∈scope.names,y.2 ≠ .cell
 free:∀y∈scope.names,y.2=.free->sc.names.lookup y.1=some .cell\/sc.names.lookup y.1=some .free
 loc:∀y∈scope.names,y.2=.local->scope.names.lookup y.1=some .local
 len:js.length=N.length
 ix:((N.zip js).all λp=>match p.2 with|none=>true|some j=>decide (XN[j]?=some p.1)&&decide (scope.names.lookup p.1=some .free))=true
def i3(env:Env):List (Str×NameKind)->List (Str×Addr)->List (Str×Addr)
 |[],cs=>cs
 | (n,k)::r,cs=>i3 env r (if k=.free then (match env.cells.lookup n with|some c=>(n,c)::cs|none=>cs) else cs)
theorem An{env:Env}:∀ {names:List (Str×NameKind)} {cs:List (Str×Addr)},(∀n c,cs.lookup n=some c->env.cells.lookup n=some c)->∀n c,(i3 env names cs).lookup n=some c->env.cells.lookup n=some c
 |[],_,h=>h
 | (m,k)::r,cs,h=>by
  unfold i3;refine An ?_;split
  ·cases e:env.cells.lookup m with
   |none=>exact h
   |some d=>
    intro n c hn;dsimp only at hn;rw[Vh] at hn;cases q:n==m with
    |true=>
     rw[q] at hn;have e1:n=m:=by simpa using q
     cases hn;rw[e1];exact e
    |false=>rw[q] at hn;exact h n c hn
  ·exact h
theorem Am{env:Env}:∀ {names:List (Str×NameKind)} {cs:List (Str×Addr)} {n:Str},((n,NameKind.free)∈names/\(∃c,env.cells.lookup n=some c))\/(∃c,cs.lookup n=some c)->∃c,(i3 env names cs).lookup n=some c
 |[],_,_,h=>h.elim (λz=>by cases z.1) id
 | (m,k)::r,cs,n,h=>by
  unfold i3;refine Am ?_;rcases h with ⟨hm,c,hc⟩|⟨c,hc⟩
  ·rcases UC.1 hm with e|hm
   ·cases e;right;rw[Uv rfl,hc];exact⟨c,by rw[Vh];simp⟩
   ·exact .inl ⟨hm,c,hc⟩
  ·right;split
   ·cases e:env.cells.lookup m with
    |none=>exact⟨c,hc⟩
    |some d=>
     dsimp only;rw[Vh];cases q:n==m with
     |true=>exact⟨d,rfl⟩
     |false=>exact⟨c,hc⟩
   ·exact⟨c,hc⟩
def lN{env:Env}{scope:Scope}(h:∀y∈scope.names,y.2=.free->∃c,env.cells.lookup y.1=some c):closureFor scope env=pure (i3 env scope.names []):=by
 have key:∀(names:List (Str×NameKind)) (cs:List (Str×Addr)),(∀y∈names,y.2=.free->∃c,env.cells.lookup y.1=some c) ->
   (forIn names cs (λ(x:Str×NameKind) r=>if (x.2==NameKind.free)=true then (do let a ← cellOf env x.1;pure (ForInStep.yield ((x.1,a)::r))) else pure (ForInStep.yield r)):Sem (List (Str×Addr)))=pure (i3 env names cs):=by
  intro names;induction names with
  |nil=>intro cs _;rfl
  |cons y r ih=>
   intro cs hy;obtain⟨n,k⟩:=y;rw[XM];unfold i3;by_cases hk:k=.free
   ·subst hk;obtain⟨c,hc⟩:=hy _ UL rfl;have e1:cellOf env n=pure c:=by unfold cellOf;rw[hc]
    rw[Uv (by rfl)];rw[Uv rfl,hc];show ((cellOf env n >>= λa=>pure (ForInStep.yield ((n,a)::cs))) >>= _)=_;rw[e1];exact ih _ λz hz=>hy z (UJ _ hz)
   ·have hb:(k==NameKind.free)=false:=by simpa using hk
    rw[Uu (by rw[hb];decide),Uu hk];exact ih _ λz hz=>hy z (UJ _ hz)
 have k:=key scope.names [] h;unfold closureFor;show (forIn scope.names ([]:List (Str×Addr)) _ >>= λcs=>pure cs)=_;refine Eq.trans (U5 (λt=>t >>= λcs=>pure cs) (Eq.trans ?_ k)) rfl;congr 1
theorem wx{env:Env}:∀ {names:List (Str×NameKind)} {x:Str},names.lookup x=some .free ->
  (names.map λ(n,k)=>if (k==NameKind.free&&env.scope.kind == .function&&env.kindOf n==some .cell) then (n,NameKind.cell) else (n,k)).lookup x=some .cell \/
  (names.map λ(n,k)=>if (k==NameKind.free&&env.scope.kind == .function&&env.kindOf n==some .cell) then (n,NameKind.cell) else (n,k)).lookup x=some .free
 |[],_,h=>by simp at h
 | (n,k)::r,x,h=>by
  have ih:=@wx env r x;rw[UG];dsimp only;cases q:x==n with
  |true=>
   rw[Vh,q] at h;cases h;split
   ·left;rw[Vh,q]
   ·right;rw[Vh,q]
  |false=>
   rw[Vh,q] at h;split
   ·rw[Vh,q];exact ih h
   ·rw[Vh,q];exact ih h
theorem qA{env:Env}:∀ {names:List (Str×NameKind)} {x:Str} {j:NameKind},(∀y∈names,y.2 ≠ .cell)->(j=.cell\/j=.free) ->
  (names.map λ(n,k)=>if (k==NameKind.free&&env.scope.kind == .function&&env.kindOf n==some .cell) then (n,NameKind.cell) else (n,k)).lookup x=some j->(x,NameKind.free)∈names
 |[],_,_,_,_,h=>by simp at h
 | (n,k)::r,x,j,hc,hj,h=>by
  have ih:=@qA env r x j (λy hy=>hc y (UJ _ hy)) hj;rw[UG] at h;dsimp only at h;cases q:x==n with
  |true=>
   have e:x=n:=by simpa using q
   subst e;split at h
   ·rename_i g;have:k=.free:=by
     simp only[UZ,VA] at g;exact g.1.1
    subst this;exact UL
   ·rw[Vh,q] at h;cases h;rcases hj with z|z
    ·exact absurd z (hc _ UL)
    ·rw[z];exact UL
  |false=>
   refine UJ _ (ih ?_);split at h
   ·rw[Vh,q] at h;exact h
   ·rw[Vh,q] at h;exact h
def oO(js:List (Option Nat))(σ:St):St:=js.map λo=>match o with|none=>none|some j=>(σ[j]?).join
structure CxZ where
 cl:List (Str×Addr)
 C:Addr
 s:Shared
 H:Hp
 fp:Zk
 ZL:Zf
def gE(X:Cx)(N:Zl)(scope:Scope)(z:CxZ):Cx where
 prog:=X.prog
 w:=X.w
 K:=X.K
 mg:=X.mg
 base:=X.base
 A:=X.A
 N:=N
 s₀:=z.s
 H₀:=z.H
 env:=compEnvC scope z.cl z.C X.env
 outer:=X.stack
 stack:=X.stack
 ex:=z.fp
 fn:=λ_=>false
 calm:=X.calm
 pn:=X.pn++z.ZL
 xe:=λ_ _=>False
section
variable {X:Cx}{ZL:Zf}{σ:St}{H:Hp}{s:Shared}{XN N:Zl}{sc scope:Scope}{js:List (Option Nat)}
def AC{h1:Heap}{m:Zg}{tk:Nat}{fp:Zk}(ck:Zw XN sc scope N js)(hXN:X.N=XN)(hsc:X.env.scope=sc)(I:Inv X ZL σ H s)(hf:∀b∈fp,mL X ZL H b)
  (hfo:∀b∈fp,b<s.heap.objs.size) (hn:h1.Ns s.heap.objs.size m) (hk:∀b o,s.heap.get? b=some o->h1.get? b=some o) :
  Inv (gE X N scope ⟨i3 X.env scope.names [],s.heap.objs.size,s,H,fp,ZL⟩) [] (oO js σ) H { s with heap:=h1,toks:=tk }:=by
 subst hXN hsc;have sub:∀n c,(i3 X.env scope.names []).lookup n=some c->X.env.cells.lookup n=some c:=An λn c h=>by simp at h
 have clt:∀n c,(i3 X.env scope.names []).lookup n=some c->c<s.heap.objs.size:=λn c h=>by obtain⟨v,q⟩:=I.cell n c (sub n c h);exact q.lt
 have has:∀x,(x,NameKind.free)∈scope.names->∃c,(i3 X.env scope.names []).lookup x=some c:=λx hx=>
  Am (.inl ⟨hx,I.ok.has x (ck.free _ hx rfl)⟩)
 refine⟨⟨I.ok.mod,ck.kind,I.ok.glob,I.ok.blt,Ux _,λx y c h1 h2=>I.ok.inj x y c (sub x c h1) (sub y c h2),λx hx=>?has,λx c hx=>?cab,I.ok.hd,I.ok.frames,.inl rfl,λb hb=>?exf,I.bs,?bsz,λb o e hb=>?noex,λb hb=>?exfs,I.stack,I.stkFree⟩,
  rfl,I.bare,Un.kept hk,⟨m,hn,λi x v h1 h2 h3=>?loc⟩,λx c h=>?cell,I.hok.fresh (Ux _),λx c h=>I.freeC x c (sub x c h),λp hp=>?pin,I.hok.kept hk,?len⟩
 case has=>
  rcases hx with hx|hx
  ·exact has x (qA ck.cell (.inl rfl) hx)
  ·exact has x (qA ck.cell (.inr rfl) hx)
 case cab=>cases hx
 case exf=>
  obtain⟨f0,f1,f2,f3,f4,f5⟩:=hf b hb;exact⟨UH (hfo b hb),λx c e=>f4 x c (sub x c e)⟩
 case bsz=>exact UD I.ok.bsz I.sz
 case noex=>
  obtain⟨f0,f1,f2,f3,f4,f5⟩:=hf b hb;rcases f3 with f3|f3
  ·exact I.ok.noex b o e f3
  ·exact absurd (UP (UA e) (UD I.ok.bsz f3)) (Vr _)
 case exfs=>
  obtain⟨f0,f1,f2,f3,f4,f5⟩:=hf b hb;intro z;rcases UC.1 (I.stkSub b z) with e|e
  ·exact f1 e
  ·exact f2 e
 case loc=>
  have hl:N.length=js.length:=ck.len.symm;have hi:i<js.length:=by have:=(UX.1 h1).1;have e:(gE X N scope ⟨i3 X.env scope.names [],s.heap.objs.size,s,H,fp,ZL⟩).N=N:=rfl;rw[e] at this;lia
  have hN:N[i]?=some x:=h1;have hj:js[i]?=some js[i]:=V0 hi;unfold oO at h2;rw[U9,hj] at h2;cases q:js[i] with
  |none=>rw[q] at h2;cases h2
  |some j=>
   rw[q] at h2 hj;have h2':(σ[j]?).join=some v:=U6 h2;have hσ:σ[j]?=some (some v):=by
    cases e:σ[j]? with
    |none=>rw[e] at h2';cases h2'
    |some o=>rw[e] at h2';exact U5 some h2'
   have hm:(x,some j)∈N.zip js:=by refine Xv (i:=i) ?_;rw[List.getElem?_zip_eq_some];exact⟨hN,hj⟩
   have hc:=XQ.1 ck.ix _ hm;simp only[UZ,decide_eq_true_eq] at hc;obtain⟨c1,c2⟩:=hc;have hfr:(x,NameKind.free)∈scope.names:=VX c2;have hvis:X.env.scope.names.lookup x=some .cell\/X.env.scope.names.lookup x=some .free:=ck.free _ hfr rfl;obtain⟨m0,hn0,hl0⟩:=I.loc;obtain⟨u,r,l⟩:=hl0 j x v c1 hσ (hvis.elim (λz=>.inr (.inl z)) λz=>.inr (.inr z));refine⟨u,r,.inr ⟨?_,?_⟩⟩
   ·exact wx c2
   ·rcases l with ⟨k1,_⟩|⟨_,c,k1,k2⟩
    ·have k1':X.env.scope.names.lookup x=some .local:=k1;rcases hvis with z|z
     ·rw[z] at k1';cases k1'
     ·rw[z] at k1';cases k1'
    ·obtain⟨c',hc'⟩:=has x hfr;have e:=sub x c' hc';rw[k1] at e;cases e;obtain⟨oc,ho,hd⟩:=k2;exact⟨c,hc',oc,hk _ _ ho,hd⟩
 case cell=>
  obtain⟨v,oc,ho,hd⟩:=I.cell x c (sub x c h);exact⟨v,oc,hk _ _ ho,hd⟩
 case pin=>
  have hp':p∈X.pn++ZL:=by simpa[gE] using hp
  obtain⟨p1,p2,p3,p4,p5⟩:=I.pin p hp';refine⟨hk _ _ p1,p2,UH (UA p1),λz=>?_,p5⟩;rcases UC.1 (I.stkSub _ z) with e|e
  ·exact p3 e
  ·exact p4 e
 case len=>
  show (oO js σ).length=N.length;unfold oO;rw[UN];exact ck.len
abbrev FW:=St->Hp->(Bool->Hp->Prop)->Prop
def IY(X:Cx)(ifs:List Expr)(t:FW):Prop:=
 ∀(ZL:Zf) (s:Shared) (σ:St) (H:Hp) (Q:Bool->Hp->Prop),Inv X ZL σ H s->t σ H Q ->
  wpAny (model X.prog X.w) X.A (forIn ifs true λc r=>if r=true then do let ok ← isTrue c X.env (eval c X.env);pure (ForInStep.yield ok) else pure (ForInStep.yield r)) (TP X ZL σ Q) X.xe s
def GC:FW:=λ_ H Q=>Q true H
def cE:IY X [] GC:=λ_ _ _ H _ I h=>wpAny_tests_nil ⟨H,I,h⟩
def DT(h:PT X c t):IY X [c] t:=λZL s σ H Q I q=>wpAny_tests_one (h ZL s σ H Q I q)
def Lev(σ σ':St):Prop:=σ.length=σ'.length/\∀(i:Nat) (v:V),σ[i]?=some (some v)->σ'[i]?=some (some v)
def Lev.refl(σ:St):Lev σ σ:=⟨rfl,λ_ _ h=>h⟩
def Lev.trans(h:Lev a b)(k:Lev b c):Lev a c:=⟨h.1.trans k.1,λi v e=>k.2 i v (h.2 i v e)⟩
def vj(js:List (Option Nat))(g:TG):Prop:=∀(σ0:St) (v:V) (σ:St) (H:Hp) (Q:St->Hp->Prop),Lev (oO js σ0) σ->g v σ H Q->g v σ H λσ' H'=>Lev (oO js σ0) σ'/\Q σ' H'
def Di(js:List (Option Nat))(g:Je):Prop:=∀(σ0:St) (vs:Za) (σ:St) (H:Hp) (Q:St->Hp->Prop),Lev (oO js σ0) σ->g vs σ H Q->g vs σ H λσ' H'=>Lev (oO js σ0) σ'/\Q σ' H'
def bw{i:Nat}(h:js[i]?=some none:=by rfl):vj js (dA i):=λσ0 v σ H Q l q=>by
 refine⟨⟨?_,λj u e=>?_⟩,q⟩
 ·rw[U0];exact l.1
 ·by_cases hij:i=j
  ·subst hij;unfold oO at e;rw[U9,h] at e;cases e
  ·rw[UQ hij];exact l.2 j u e
def gV:Di js Mw:=λσ0 vs σ H Q l q=>⟨q.1,l,q.2⟩
def bM(h:vj js t)(k:Di js u)(mono:∀v σ H (Q Q':St->Hp->Prop),(∀a b,Q a b->Q' a b)->t v σ H Q->t v σ H Q'):Di js (GJ t u):=λσ0 vs σ H Q l q=>by obtain⟨v,r,e,q⟩:=q;exact⟨v,r,e,mono _ _ _ _ _ (λσ' H' z=>k σ0 r σ' H' Q z.1 z.2) (h σ0 v σ H _ l q)⟩
def br{i:Nat}:∀v σ H (Q Q':St->Hp->Prop),(∀a b,Q a b->Q' a b)->dA i v σ H Q->dA i v σ H Q':=λ_ _ _ _ _ h q=>h _ _ q
def jZ{K:Zj}{n:Nat}{t:Je}(h:Di js t):vj js (Mx K n t):=λσ0 v σ H Q l q=>by obtain⟨a,xs,e,hq,hl,q⟩:=q;exact⟨a,xs,e,hq,hl,h σ0 xs σ H Q l q⟩
def sg(js:List (Option Nat))(wi:TI)(g:TG)(tt:FW)(te:TE):TE:=λσ H Q=>wi σ H λJ H1=>∀D,H1 D=none->∃W:Nat->Nat->Hp->Prop,(∃m,W 0 m (upd H1 D (.lst [])))/\∀i m H,W i m H ->
 (J.stop i H/\Q (.ref D) H)\/(J.go i H/\∀x H',J.yld i H x H'->g x (oO js σ) H' λσ2 H2=>tt σ2 H2 λb H3=>
  if b=true then te σ2 H3 λy H4=>∃ys,H4 D=some (.lst ys)/\ys.length<sizeLine/\∃m',m'<m/\W (i+1) m' (upd H4 D (.lst (ys++[y]))) else ∃m',m'<m/\W (i+1) m' H3)
variable {tg iter elt:Expr}{ifs:List Expr}{pos:Pos}{wi:TI}{g:TG}{tt:FW}{te:TE}
def ER{E:Ze}{R:Result->Shared->Prop}{it:Addr}{fp:Zk} {W:Nat->Nat->Hp->Prop}{n:Nat}
  (hc:X.calm=true) (T:Turn X.prog X.w X.K tg J fp it tn) (hz:∀b∈fp,∀H',H' b=none->mL (gE X N scope z) [] H' b)
  (hg:PG (gE X N scope z) tg g) (hs:vj js g) (ht:IY (gE X N scope z) ifs tt) (he:PE (gE X N scope z) elt te)
  (turn:∀i m H,W i m H->(J.stop i H/\∀s',Inv (gE X N scope z) [] (oO js σ) H s'->R (.ok .next) s')\/(J.go i H/\∀x H',J.yld i H x H'->g x (oO js σ) H' λσ2 H2=>tt σ2 H2 λb H3=>
   if b=true then te σ2 H3 λy H4=>∃ys,H4 D=some (.lst ys)/\ys.length<sizeLine/\∃m',m'<m/\W (i+1) m' (upd H4 D (.lst (ys++[y]))) else ∃m',m'<m/\W (i+1) m' H3))
   {H1:Hp} (I1:Inv (gE X N scope z) [] (oO js σ) H1 s1) (t1:tn 0 s1.heap) (f1:∀b∈fp,H1 b=none) (w1:W 0 n H1) :
  codeAny (model X.prog X.w) X.A (.compLoop (.ListComp elt [⟨tg,iter,ifs,0⟩] scope pos) 0 (.ref it) (.ref D) (compEnvC scope z.cl z.C X.env)) R s1:=by
 refine codeAny_loop (c:=.compLoop (.ListComp elt [⟨tg,iter,ifs,0⟩] scope pos) 0 (.ref it) (.ref D) (compEnvC scope z.cl z.C X.env)) rfl
  (λk s'=>∃i H',Inv (gE X N scope z) [] (oO js σ) H' s'/\tn i s'.heap/\(∀b∈fp,H' b=none)/\W i k H') ?_ n ⟨0,H1,I1,t1,f1,w1⟩
 rintro k s2 ⟨i,H2,I2,t2,f2,w2⟩;show wpAny (model X.prog X.w) X.A ((compTurn (.ListComp elt [⟨tg,iter,ifs,0⟩] scope pos) 0 (.ref it) (.ref D) (compEnvC scope z.cl z.C X.env)).onRaise λx=>do noteFrame x (compEnvC scope z.cl z.C X.env);theTreesLotGoes x) _ _ s2;refine wpAny_noted ?_;rw[compTurn_list];refine Ut (Vz ?_);rcases turn i k H2 w2 with ⟨stop,fin⟩|⟨go,step⟩
 ·refine Ut (cr (T.done (gE X N scope z) rfl rfl rfl hc i [] s2 (oO js σ) H2 _ I2 (λb hb=>hz b hb H2 (f2 b hb)) t2 stop) λr s3 h3=>?_);obtain⟨rfl,I3⟩:=h3;exact Uw (fin s3 I3)
 ·refine Ut (cr (T.item (gE X N scope z) rfl rfl rfl hc i [] s2 (oO js σ) H2 _ I2 (λb hb=>hz b hb H2 (f2 b hb)) t2 go) λr s3 h3=>?_);obtain⟨u,rfl,h3⟩:=h3;refine Ut (cr h3 λ_ s4 h4=>?_);obtain⟨x,H4,I4,r4,y4,t4,f4⟩:=h4;have P4:=I4.pinned (λb hb=>hz b hb H4 (f4 b hb)) (T.obj _ _ t4);have ff:∀ {e:Value} {s':Shared},(gE X N scope z).xe e s'->False:=λh=>h;refine Ut (UO (hg _ s4 (oO js σ) H4 x u _ P4 r4 (hs σ x (oO js σ) H4 _ (Lev.refl _) (step x H4 y4))) (λ_ s5 h5=>?_) λ_ _ h=>(ff h).elim);obtain⟨σ5,H5,I5,lev,q5⟩:=h5;refine Ut (UO (ht _ s5 σ5 H5 _ I5 q5) (λok s6 h6=>?_) λ_ _ h=>(ff h).elim);obtain⟨H6,I6,q6⟩:=h6;have again:∀ {s7:Shared} {H7:Hp},Inv (gE X N scope z) ([]++p9 fp s4.heap) σ5 H7 s7->(∃m',m'<k/\W (i+1) m' H7)->∃m,m<k/\∃i H',Inv (gE X N scope z) [] (oO js σ) H' s7/\tn i s7.heap/\(∀b∈fp,H' b=none)/\W i m H':=λ{s7 H7} I7 h7=>by
   obtain⟨m',hm,w7⟩:=h7;refine⟨m',hm,i+1,H7,(I7.unpinned).weak lev.1 lev.2,T.keep _ _ _ t4 λb hb o e=>(I7.pin (b,o) (UE _ (UE _ (gg hb e)))).1,λb hb=>?_,w7⟩;obtain⟨o,e,d⟩:=T.obj _ _ t4 b hb;exact (I7.pin (b,o) (UE _ (UE _ (gg hb e)))).2.1
  cases ok with
  |false=>
   rw[Uu (by decide)] at q6;exact Uw ⟨rfl,again I6 q6⟩
  |true=>rw[Uv rfl] at q6;refine Ut (Ut (UO (he _ s6 σ5 H6 _ I6 q6) (λy s7 h7=>?_) λ_ _ h=>(ff h).elim));obtain⟨vy,H7,I7,r7,ys,hD,hl,q7⟩:=h7;refine Ut (UO (hV (X:=gE X N scope z) _ s7 σ5 H7 (.ref D) [vy] (.ref D) [y] (λ_ H'=>∃m',m'<k/\W (i+1) m' H') I7 rfl (.cons r7 .nil) ⟨D,ys,vy,rfl,rfl,hD,hl,q7⟩) (λ_ s8 h8=>?_) λ_ _ h=>(ff h).elim);obtain⟨_,H8,I8,_,q8⟩:=h8;exact Uw (Uw ⟨rfl,again I8 q8⟩)
def vE{RR:Value->Addr->Result->Shared->Prop}{Q:VK} (ck:Zw XN sc scope N js)(hXN:X.N=XN)(hsc:X.env.scope=sc)(hc:X.calm=true)
  (hg:∀z,PG (gE X N scope z) tg g) (hs:vj js g) (ht:∀z,IY (gE X N scope z) ifs tt) (he:∀z,PE (gE X N scope z) elt te)
  (h2:QD X ZL σ tg (λJ H1=>∀D,H1 D=none->∃W:Nat->Nat->Hp->Prop,(∃m,W 0 m (upd H1 D (.lst [])))/\∀i m H,W i m H ->
   (J.stop i H/\Q (.ref D) H)\/(J.go i H/\∀x H',J.yld i H x H'->g x (oO js σ) H' λσ2 H2=>tt σ2 H2 λb H3=>
    if b=true then te σ2 H3 λy H4=>∃ys,H4 D=some (.lst ys)/\ys.length<sizeLine/\∃m',m'<m/\W (i+1) m' (upd H4 D (.lst (ys++[y]))) else ∃m',m'<m/\W (i+1) m' H3)) itv s2)
  (hRR:∀D C s' H' m o,Inv X (ZL++[(C,o)]) σ H' s'->s'.heap.Ns C m->(X.s₀.heap.objs.size<=C/\C≠X.env.locals/\(∀x c,X.env.cells.lookup x=some c->c≠C)/\∀p∈X.pn++ZL,p.1≠C)->H' C=none->Q (.ref D) H'->RR (.ref D) C (.ok .next) s') :
  wpAny (model X.prog X.w) X.A (newList []) (λacc s₃=>wpAny (model X.prog X.w) X.A (newFunctionEnv scope X.env.globals (i3 X.env scope.names []) [] X.env.qual none .none (some X.env)) (λcenv s₄=>
   codeAny (model X.prog X.w) X.A (.compStart (.ListComp elt [⟨tg,iter,ifs,0⟩] scope pos) 0 itv acc { cenv with scope:=relabel scope X.env }) (RR acc cenv.locals) s₄) E s₃) E s2:=by
 obtain⟨it,fp,tn,J,H2,rfl,I2,T,t2,f2,q2⟩:=h2;have fo:∀b∈fp,b<s2.heap.objs.size:=λb hb=>by obtain⟨o,e,_⟩:=T.obj _ _ t2 b hb;exact UA e
 have hD:H2 s2.heap.objs.size=none:=I2.fresh;obtain⟨W,⟨n,w0⟩,turn⟩:=q2 _ hD;refine U3 (YM ck.cell (by intro y hy;simp at hy) (λh1 hns hsb=>?_) ck.kind);have I3:Inv X ZL σ (upd H2 s2.heap.objs.size (.lst [])) { s2 with heap:=s2.heap.push { cls:=.type "list",data:=.seq ([]:Zh).toArray },toks:=s2.toks }:=I2.lnew (its:=[]) .nil (UR _);have f3:∀b∈fp,mL X ZL (upd H2 s2.heap.objs.size (.lst [])) b:=λb hb=>by obtain⟨g0,g1⟩:=f2 b hb;exact⟨by rw[aL (UH (fo b hb))];exact g0,g1⟩
 have sz:(s2.heap.push { cls:=.type "list",data:=.seq ([]:Zh).toArray }).objs.size=s2.heap.objs.size+1:=Vi _ _;have kept:∀b o,(s2.heap.push { cls:=.type "list",data:=.seq ([]:Zh).toArray }).get? b=some o->h1.get? b=some o:=λb o e=>
  hsb.extBut b o (UH (UA e)) (Uz _ e)
 have I4:=AC (tk:=s2.toks+([]:List (Str×Value)).length) ck hXN hsc I3 f3 (λb hb=>by show b<(s2.heap.push _).objs.size;rw[sz];exact V1 (fo b hb)) hns kept;have t4:tn 0 h1:=T.keep _ _ _ t2 λb hb o e=>kept b o (Uz _ e);have fz:∀b∈fp,∀H',H' b=none->mL (gE X N scope ⟨i3 X.env scope.names [],(s2.heap.push { cls:=.type "list",data:=.seq ([]:Zh).toArray }).objs.size,{ s2 with heap:=s2.heap.push { cls:=.type "list",data:=.seq ([]:Zh).toArray },toks:=s2.toks },upd H2 s2.heap.objs.size (.lst []),fp,ZL⟩) [] H' b:=λb hb H' hn=>by obtain⟨g0,g1,g2,g3,g4,g5⟩:=f3 b hb;refine⟨hn,(I4.ok.exf b hb).1,I4.ok.exfs b hb,.inl hb,(I4.ok.exf b hb).2,λp hp=>?_⟩;exact g5 p (by simpa[gE] using hp)
 have loop:=ER (X:=X) (σ:=σ) (N:=N) (scope:=scope) (js:=js) (iter:=iter) (pos:=pos) (E:=E) (R:=RR (.ref s2.heap.objs.size) (s2.heap.push { cls:=.type "list",data:=.seq ([]:Zh).toArray }).objs.size) (D:=s2.heap.objs.size) (W:=W) (n:=n)
  hc T fz (hg _) hs (ht _) (he _) (λi m H w=>(turn i m H w).imp (λa=>⟨a.1,λs' Y=>?_⟩) id) I4 t4 (λb hb=>(f3 b hb).1) w0
 ·exact YN loop (T.self _ 0 _ _ _ t4 loop)
 ·have bb:=Y.base;have J0:Inv X ZL σ H s':=I3.call' Y.os bb Y.hok Y.bare λb hb=>by
   obtain⟨g0,g1,g2,g3,g4,g5⟩:=f3 b hb;exact⟨g3,g1,g4,g5⟩
  obtain⟨mC,nC,_⟩:=Y.loc;obtain⟨oC,eC,dC⟩:∃o,s'.heap.get? (s2.heap.push { cls:=.type "list",data:=.seq ([]:Zh).toArray }).objs.size=some o/\∀v,o.data ≠ .cell v:=by obtain⟨o,es,ep,ho,hd,_⟩:=nC;exact⟨o,ho,λv z=>by rw[hd] at z;cases z⟩
  have lC:X.s₀.heap.objs.size<=(s2.heap.push { cls:=.type "list",data:=.seq ([]:Zh).toArray }).objs.size:=I3.sz;have cC:(s2.heap.push { cls:=.type "list",data:=.seq ([]:Zh).toArray }).objs.size≠X.env.locals:=VD I3.lt;have kC:∀x c,X.env.cells.lookup x=some c->c≠(s2.heap.push { cls:=.type "list",data:=.seq ([]:Zh).toArray }).objs.size:=λx c e=>by obtain⟨v,q⟩:=I3.cell x c e;exact UH q.lt
  have pC:∀p∈X.pn++ZL,p.1≠(s2.heap.push { cls:=.type "list",data:=.seq ([]:Zh).toArray }).objs.size:=λp hp=>UH (UA (I3.pin p hp).1);have J1:Inv X (ZL++[((s2.heap.push { cls:=.type "list",data:=.seq ([]:Zh).toArray }).objs.size,oC)]) σ H s':=J0.pins_of λp hp=>by
   rcases U7.1 hp with hp|hp
   ·exact J0.pin p (UE _ hp)
   ·rw[UV.1 hp];exact⟨eC,Y.free,cC,I3.nofs (Ux _),dC⟩
  exact hRR _ _ s' H mC oC J1 nC ⟨lC,cC,kC,pC⟩ Y.free a.2
def dZ(ck:Zw XN sc scope N js)(hi:PI X tg iter wi)(hg:∀z,PG (gE X N scope z) tg g)(hs:vj js g)(ht:∀z,IY (gE X N scope z) ifs tt)(he:∀z,PE (gE X N scope z) elt te)
  (hXN:X.N=XN:=by rfl) (hsc:X.env.scope=sc:=by rfl) (hc:X.calm=true:=by rfl) (hf:∀x,foldedSetIterable iter X.env x=pure x:=by intro _;rfl) :
  PE X (.ListComp elt [⟨tg,iter,ifs,0⟩] scope pos) (sg js wi g tt te):=by
 intro ZL s σ H Q I h;rw[eval_ListComp];have hcl:closureFor scope X.env=pure (i3 X.env scope.names []):=lN λy hy hk=>I.ok.has y.1 (by
  have:=ck.free y hy hk;rw[<-hsc] at this
  exact this)
 refine WS (use:=none) rfl hf hcl ck.kind ck.loc (cr (hi ZL s σ H _ I h) λv s1 h1=>cr h1 λitv s2 h2=>?_);refine vE (RR:=λacc C=>compPost (model X.prog X.w) X.A X.xe none (EP X ZL σ Q) acc C) ck hXN hsc hc hg hs ht he h2 ?_;intro D C s' H' m o J nC hC fC q;refine⟨m,nC,λh' sb=>⟨.ref D,H',?_,rfl,q⟩⟩;have J0:Inv X ZL σ H' s':=J.unpinned;exact J0.turned (t':=s'.toks) (it:=C) (λb o hb e=>sb.extBut b o hb e) fC hC.2.1 (.inr hC.1) hC.2.2.1 hC.2.2.2
def uW{i:Nat}{y:Str}{pos' spos:Pos}(ck:Zw XN sc scope N js)(hN:X.N.Nodup)(hi0:X.N[i]?=some y)(hx:I9 X.env.scope y)(hi:PI X tg iter wi)(hg:∀z,PG (gE X N scope z) tg g)(hs:vj js g)(ht:∀z,IY (gE X N scope z) ifs tt)(he:∀z,PE (gE X N scope z) elt te)
  (hsw:swapsWith (.ListComp elt [⟨tg,iter,ifs,0⟩] scope pos) (some (.Name y pos')) spos.line X.env=pure true:=by rfl)
  (hXN:X.N=XN:=by rfl) (hsc:X.env.scope=sc:=by rfl) (hc:X.calm=true:=by rfl) (hf:∀x,foldedSetIterable iter X.env x=pure x:=by intro _;rfl)
  (hfn:X.fn y=true\/X.env.scope.names.lookup y=some .local:=by first|exact .inl rfl|exact .inr rfl|assumption) :
  PS X (.Assign [.Name y pos'] (.ListComp elt [⟨tg,iter,ifs,0⟩] scope pos) spos) (nX (sg js wi g tt te) (dA i)):=by
 intro ZL s σ H D I h;rw[YO _ _ _ _ hsw];have hcl:closureFor scope X.env=pure (i3 X.env scope.names []):=lN λy hy hk=>I.ok.has y.1 (by
  have:=ck.free y hy hk;rw[<-hsc] at this
  exact this)
 refine Ut (Vz (Ut ?_));show wpAny (model X.prog X.w) X.A (comprehension (.ListComp elt [⟨tg,iter,ifs,0⟩] scope pos) scope X.env _ (newList []) false (eval iter X.env) (some (assign (.Name y pos') X.env)) >>= λ_=>pure Unit.unit) _ _ s;refine Ut (cr (WS (use:=some (assign (.Name y pos') X.env)) (Q:=λ_ s'=>SP X ZL D .next s') rfl hf hcl ck.kind ck.loc (cr (hi ZL s σ H _ I h) λv s1 h1=>cr h1 λitv s2 h2=>?_)) λ_ s' q=>Uw (Uw q));refine vE (RR:=λacc C=>compPost (model X.prog X.w) X.A X.xe (some (assign (.Name y pos') X.env)) (λ_ s'=>SP X ZL D .next s') acc C) (Q:=λx H1=>dA i x σ H1 D.nx) ck hXN hsc hc hg hs ht he h2 ?_;intro A C s' H' m o J nC hC fC q;refine cr (eO hN hi0 hx hfn _ s' σ H' (.ref A) (.ref A) _ J rfl q) λ_ s3 h3=>?_;obtain⟨σ3,H3,J3,q3⟩:=h3;have pc:=J3.pin (C,o) (UE _ (UE _ UL));have oC:s'.heap.get? C=some o:=(J.pin (C,o) (UE _ (UE _ UL))).1;refine⟨m,nC.at' λo' e=>?_,λh' sb=>⟨σ3,H3,?_,q3⟩⟩
 ·rw[oC] at e;cases e;exact pc.1
 ·have J0:Inv X ZL σ3 H3 s3:=J3.unpinned;exact J0.turned (t':=s3.toks) (it:=C) (λb o hb e=>sb.extBut b o hb e) pc.2.1 hC.2.1 (.inr hC.1) hC.2.2.1 hC.2.2.2
end
end L2
namespace Srt
open PySem PySem.W PyProof.Rows
section
variable {α β:Type}(lt:Nat->Nat->Bool)(n:Nat)
def Pwp:KasT α->(α->Prop)->Prop
 |.ret a,Q=>Q a
 |.ask i j k,Q=>i<n/\j<n/\Pwp (k (lt i j)) Q
theorem Pwp.bind{f:α->KasT β} : ∀ {t:KasT α},Pwp lt n t (λa=>Pwp lt n (f a) Q)->Pwp lt n (t.bind f) Q
 |.ret _,h=>h
 |.ask _ _ _,h=>⟨h.1,h.2.1,Pwp.bind h.2.2⟩
theorem Pwp.mono{Q Q':α->Prop}(hq:∀a,Q a->Q' a):∀ {t:KasT α},Pwp lt n t Q->Pwp lt n t Q'
 |.ret _,h=>hq _ h
 |.ask _ _ _,h=>⟨h.1,h.2.1,Pwp.mono hq h.2.2⟩
theorem Pwp.wp{cmp:Nat->Nat->(Bool->Shared->Prop)->Shared->Prop} {Q:α->Shared->Prop}(hc:∀i j C,i<n->j<n->C (lt i j) s->cmp i j C s) :
  ∀ {t:KasT α},Pwp lt n t (λa=>Q a s)->t.kasWp cmp Q s
 |.ret _,h=>h
 |.ask i j _,h=>hc i j _ h.1 h.2.1 (Pwp.wp hc h.2.2)
end
section
variable {lt:Nat->Nat->Bool}{le:Nat->Nat->Prop}{n:Nat}{p:Array Nat}
abbrev at'(p:Array Nat)(i:Nat):Nat:=p.getD i 0
def zY{p q:Array Nat}{i j:Nat}(h:p[i]?=q[j]?):at' p i=at' q j:=by
 have e:∀(r:Array Nat) (k:Nat),at' r k=(r[k]?).getD 0:=λr k=>by simp[at']
 rw[e,e,h]
def Asc(le:Nat->Nat->Prop)(p:Array Nat)(m:Nat):Prop:=∀i j,i<=j->j<m->le (at' p i) (at' p j)
def Dsc(le:Nat->Nat->Prop)(p:Array Nat)(m:Nat):Prop:=∀i j,i<=j->j<m->le (at' p j) (at' p i)
def NU(n:Nat)(p:Array Nat):Prop:=∀k,at' p k<n
structure Ord(lt:Nat->Nat->Bool)(le:Nat->Nat->Prop):Prop where
 tr:∀a b c,le a b->le b c->le a c
 rf:∀a,le a a
 yes:∀a b,lt a b=true->le a b
 no:∀a b,lt a b=false->le b a
def yP(hn:0<n)(hp:p.Perm (List.range n).toArray):NU n p:=λk=>by
 have e:at' p k=(p[k]?).getD 0:=by simp[at']
 rw[e];cases h:p[k]? with
 |none=>exact hn
 |some v=>have hm:v∈p:=Array.mem_of_getElem? h;have:=(XU.1 hp).mem_iff.mp (YD.2 hm);simpa using this
def Asc.succ(o:Ord lt le){m:Nat}(h:Asc le p m)(h1:1<=m)(hl:le (at' p (m-1)) (at' p m)):Asc le p (m+1):=λi j hij hj=>by
 by_cases e:j=m
 ·subst e;by_cases e2:i=j
  ·subst e2;exact o.rf _
  ·exact o.tr _ _ _ (h i (j-1) () ()) hl
 ·exact h i j hij ()
def Dsc.succ(o:Ord lt le){m:Nat}(h:Dsc le p m)(h1:1<=m)(hl:le (at' p m) (at' p (m-1))):Dsc le p (m+1):=λi j hij hj=>by
 by_cases e:j=m
 ·subst e;by_cases e2:i=j
  ·subst e2;exact o.rf _
  ·exact o.tr _ _ _ hl (h i (j-1) () ())
 ·exact h i j hij ()
theorem BW(o:Ord lt le)(hb:NU n p):∀(f m:Nat),1<=m->Asc le p m->Pwp lt n (kas_asc p f m) λr=>m<=r/\r<=m+f/\Asc le p r/\(r<m+f->le (at' p r) (at' p (r-1)))
 |0,m,h1,ha=>⟨Ux _,Ux _,ha,λh=>absurd h (Vr _)⟩
 |f+1,m,h1,ha=>by
  refine⟨hb _,hb _,?_⟩;cases c:lt (at' p m) (at' p (m-1)) with
  |true=>
   show Pwp lt n (if true=true then _ else _) _;rw[Uv rfl];exact⟨Ux _,(),ha,λ_=>o.yes _ _ c⟩
  |false=>show Pwp lt n (if false=true then _ else _) _;rw[Uu (by decide)];refine Pwp.mono _ _ (λr hr=>?_) (BW o hb f (m+1) () (ha.succ o h1 (o.no _ _ c)));exact⟨(),(),hr.2.2.1,λh=>hr.2.2.2 ()⟩
def ft{i j:Nat}(hj:j<=p.size)(k:Nat):at' (kas_rev p i j) k=if i<=k/\k<j then at' p (i+j-1-k) else at' p k:=by
 have e:=getElem?_mirror_all (i:=i) hj k;by_cases h:i<=k/\k<j
 ·rw[Uv h] at e ⊢;exact zY e
 ·rw[Uu h] at e ⊢;exact zY e
def rT(i j:Nat)(h:p.Perm q):(kas_rev p i j).Perm q:=(mirror_perm _ _ _ _).trans h
def Dsc.rev{m q:Nat}(h:Dsc le p m)(hm:m<=p.size)(hq:q+1<=m)(he:∀k,m-(q+1)<=k->k<m->le (at' p k) (at' p (m-1))/\le (at' p (m-1)) (at' p k))(o:Ord lt le):Dsc le (kas_rev p (m-(q+1)) m) m:=by
 have key:∀k,k<m->∃k',k'<m/\at' (kas_rev p (m-(q+1)) m) k=at' p k'/\le (at' p k') (at' p k)/\le (at' p k) (at' p k'):=λk hk=>by
  rw[ft hm];split
  ·rename_i h1;refine⟨m-(q+1)+m-1-k,by omega,rfl,?_⟩;obtain⟨a1,a2⟩:=he k h1.1 hk;obtain⟨b1,b2⟩:=he (m-(q+1)+m-1-k) (by omega) (by omega);exact⟨o.tr _ _ _ b1 a2,o.tr _ _ _ a1 b2⟩
  ·exact⟨k,hk,rfl,o.rf _,o.rf _⟩
 intro i j hij hj;obtain⟨i',_,e1,x1,x2⟩:=key i (by omega);obtain⟨j',_,e2,y1,y2⟩:=key j hj;rw[e1,e2];exact o.tr _ _ _ y1 (o.tr _ _ _ (h i j hij hj) x2)
def Dsc.turn{m:Nat}(h:Dsc le p m)(hm:m<=p.size):Asc le (kas_rev p 0 m) m:=by intro i j hij hj;rw[ft hm,ft hm,Uv ⟨UR _,by omega⟩,Uv ⟨UR _,hj⟩];exact h _ _ (by omega) (by omega)
abbrev PP(le:Nat->Nat->Prop)(p:Array Nat)(m q:Nat):Prop:=∀k,m-(q+1)<=k->k<m->le (at' p k) (at' p (m-1))/\le (at' p (m-1)) (at' p k)
def vL(o:Ord lt le)(m:Nat):PP le p m 0:=λk h1 h2=>by
 have:k=m-1:=()
 subst this;exact⟨o.rf _,o.rf _⟩
variable {z:Nat}
theorem uL(o:Ord lt le)(hn:0<n):∀(f:Nat) (p:Array Nat) (m q:Nat),p.Perm (List.range n).toArray->1<=m->m+f<=n->q+1<=m->Dsc le p m->PP le p m q ->
  Pwp lt n (kas_desc f p m q) λr=>r.1.Perm (List.range n).toArray/\m<=r.2.1/\r.2.1<=m+f/\r.2.2+1<=r.2.1/\Dsc le r.1 r.2.1/\PP le r.1 r.2.1 r.2.2
 |0,p,m,q,hp,h1,hf,hq,hd,he=>⟨hp,Ux _,Ux _,hq,hd,he⟩
 |f+1,p,m,q,hp,h1,hf,hq,hd,he=>by
  have hb:NU n p:=yP hn hp;have hs:p.size=n:=by rw[hp.size_eq];simp
  refine⟨hb _,hb _,?_⟩;cases c:lt (at' p m) (at' p (m-1)) with
  |true=>
   show Pwp lt n (if true=true then _ else _) _;rw[Uv rfl];have hl:=o.yes _ _ c;by_cases h0:q > 0
   ·rw[Uv h0];have d1:=hd.rev () hq he o;have e1:at' (kas_rev p (m-(q+1)) m) m=at' p m:=by rw[ft (),Uu ()]
    have e2:at' (kas_rev p (m-(q+1)) m) (m-1)=at' p (m-(q+1)):=by rw[ft (),Uv ()];congr 1;lia
    have d2:=d1.succ o h1 (by rw[e1,e2];exact o.tr _ _ _ hl (he _ (Ux _) ()).2);refine Pwp.mono _ _ (λr hr=>?_) (uL o hn f (kas_rev p (m-(q+1)) m) (m+1) 0 (rT _ _ hp) () () () d2 (vL o _));exact⟨hr.1,(),(),hr.2.2.2⟩
   ·rw[Uu h0];refine Pwp.mono _ _ (λr hr=>?_) (uL o hn f p (m+1) 0 hp () () () (hd.succ o h1 hl) (vL o _));exact⟨hr.1,(),(),hr.2.2.2⟩
  |false=>
   show Pwp lt n (if false=true then _ else _) _;rw[Uu (by decide)];refine⟨hb _,hb _,?_⟩;have g1:=o.no _ _ c;cases c':lt (at' p (m-1)) (at' p m) with
   |true=>
    show Pwp lt n (if true=true then _ else _) _;rw[Uv rfl];exact⟨hp,Ux _,XV _ _,hq,hd,he⟩
   |false=>
    show Pwp lt n (if false=true then _ else _) _;rw[Uu (by decide)];have g2:=o.no _ _ c';have he':PP le p (m+1) (q+1):=λk h2 h3=>by
     show le (at' p k) (at' p m)/\le (at' p m) (at' p k);by_cases hk:k=m
     ·subst hk;exact⟨o.rf _,o.rf _⟩
     ·obtain⟨x1,x2⟩:=he k () ();exact⟨o.tr _ _ _ x1 g1,o.tr _ _ _ g2 x2⟩
    refine Pwp.mono _ _ (λr hr=>?_) (uL o hn f p (m+1) (q+1) hp () () () (hd.succ o h1 g2) he');exact⟨hr.1,(),(),hr.2.2.2⟩
abbrev Qy(le:Nat->Nat->Prop)(n:Nat)(r:Nat×Array Nat):Prop:=r.2.Perm (List.range n).toArray/\1<=r.1/\r.1<=n/\Asc le r.2 r.1
def Ep(o:Ord lt le)(hn:0<n){m:Nat}(hp:p.Perm (List.range n).toArray)(h1:1<=m)(hm:m<=n)(hd:Dsc le p m):Pwp lt n (kas_tail3 m n p) (Qy le n):=by
 have hs:p.size=n:=by rw[hp.size_eq];simp
 have hp':=rT (p:=p) 0 m hp;refine Pwp.bind _ _ (Pwp.mono _ _ (λr hr=>?_) (BW o (yP hn hp') (n-m) m h1 (hd.turn (by omega))));exact⟨hp',by show 1<=r;omega,by show r<=n;omega,hr.2.2.1⟩
def tP(o:Ord lt le)(hn:0<n){m:Nat}(hp:p.Perm (List.range n).toArray)(hm:m+1<=n)(hd:Dsc le p (m+1)):Pwp lt n (kas_descPart m n p) (Qy le n):=by
 refine Pwp.bind _ _ (Pwp.mono _ _ (λr hr=>?_) (uL o hn (n-(m+1)) p (m+1) 0 hp () () () hd (vL o _)));obtain⟨a1,a2,a3,a4,a5,a6⟩:=hr;have hs:r.1.size=n:=by rw[a1.size_eq];simp
 by_cases h:r.2.2 > 0
 ·rw[Uv h];exact Ep o hn (rT _ _ a1) () () (a5.rev () a4 a6 o)
 ·rw[Uu h];exact Ep o hn a1 () () a5
def Gk(o:Ord lt le)(hn:0<n)(hp:p.Perm (List.range n).toArray):Pwp lt n (kas_count n p) (Qy le n):=by
 have hs:p.size=n:=by rw[hp.size_eq];simp
 have hb:NU n p:=yP hn hp;have a1:Asc le p 1:=λi j h1 h2=>by
  have e1:i=0:=()
  have e2:j=0:=()
  subst e1 e2;exact o.rf _
 refine Pwp.bind _ _ (Pwp.mono _ _ (λm hm=>?_) (BW o hb (n-1) 1 (Ux _) a1));obtain⟨h1,h2,h3,h4⟩:=hm;by_cases e:m=n
 ·rw[Uv (by simpa using e)];exact⟨hp,h1,by show m<=n;lia,h3⟩
 ·rw[Uu (by simpa using e)];have hl:=h4 ();by_cases g:m > 1
  ·rw[Uv g];refine⟨hb _,hb _,?_⟩;cases c:lt (at' p 0) (at' p (m-1)) with
   |true=>
    show Pwp lt n (if true=true then _ else _) _;rw[Uv rfl];exact⟨hp,h1,by show m<=n;lia,h3⟩
   |false=>
    show Pwp lt n (if false=true then _ else _) _;rw[Uu (by decide)];have g1:=o.no _ _ c;have eqs:∀i j,i<m->j<m->le (at' p i) (at' p j):=λi j hi hj=>o.tr _ _ _ (h3 i (m-1) () ()) (o.tr _ _ _ g1 (h3 0 j () hj));refine tP o hn (rT _ _ hp) () (Dsc.succ o (m:=m) (λi j hij hj=>?_) h1 ?_)
    ·rw[ft (),ft (),Uv (),Uv ()];exact eqs _ _ () ()
    ·rw[ft (),ft (),Uu (),Uv ()];exact o.tr _ _ _ hl (eqs _ _ () ())
  ·rw[Uu g];have e1:m=1:=()
   subst e1;exact tP o hn hp () (Dsc.succ o (λi j hij hj=>by
    have e1:i=0:=()
    have e2:j=0:=()
    subst e1 e2
    exact o.rf _) (Ux _) hl)
theorem wo(o:Ord lt le)(hb:NU n p)(k:Nat)(ha:Asc le p k):∀(f l r:Nat),l<=r->r<=k->r-l<=f->(∀i,i<l->le (at' p i) (at' p k))->(∀i,r<=i->i<k->le (at' p k) (at' p i)) ->
  Pwp lt n (kas_place p k f l r) λx=>x<=k/\(∀i,i<x->le (at' p i) (at' p k))/\∀i,x<=i->i<k->le (at' p k) (at' p i)
 |0,l,r,h1,h2,h3,h4,h5=>by
  have e:l=r:=()
  subst e;exact⟨h2,h4,h5⟩
 |f+1,l,r,h1,h2,h3,h4,h5=>by
  unfold kas_place;by_cases g:l ≥ r
  ·rw[Uv g];have e:l=r:=()
   subst e;exact⟨h2,h4,h5⟩
  ·rw[Uu g];refine⟨hb _,hb _,?_⟩;cases c:lt (at' p k) (at' p ((l+r)/2)) with
   |true=>
    show Pwp lt n (if true=true then _ else _) _;rw[Uv rfl];exact wo o hb k ha f l ((l+r)/2) () () () h4 λi hi hk=>o.tr _ _ _ (o.yes _ _ c) (ha _ _ hi hk)
   |false=>show Pwp lt n (if false=true then _ else _) _;rw[Uu (by decide)];exact wo o hb k ha f ((l+r)/2+1) r () () () (λi hi=>o.tr _ _ _ (ha _ _ () ()) (o.no _ _ c)) h5
def EH{src d:Nat}(hs:src<p.size)(hd:d<=src)(k:Nat):at' (bubble p src d) k=if k=src-d then at' p src else if src-d<k/\k<=src then at' p (k-1) else at' p k:=by
 have e:=getElem?_bubble hs d hd k;by_cases h1:k=src-d
 ·rw[Uv h1] at e ⊢;exact zY e
 ·rw[Uu h1] at e ⊢;by_cases h2:src-d<k/\k<=src
  ·rw[Uv h2] at e ⊢;exact zY e
  ·rw[Uu h2] at e ⊢;exact zY e
theorem Gd(o:Ord lt le)(hn:0<n):∀(f:Nat) (p:Array Nat) (k:Nat),p.Perm (List.range n).toArray->k+f=n->Asc le p k->Pwp lt n (kas_bin f p k) λr=>r.Perm (List.range n).toArray/\Asc le r n
 |0,p,k,hp,hk,ha=>by
  have e:k=n:=()
  subst e;exact⟨hp,ha⟩
 |f+1,p,k,hp,hk,ha=>by
  have hs:p.size=n:=by rw[hp.size_eq];simp
  refine Pwp.bind _ _ (Pwp.mono _ _ (λx hx=>?_) (wo o (yP hn hp) k ha k 0 k (UR _) (Ux _) () (λi h=>absurd h (Nat.not_lt_zero _)) λi h1 h2=>()));obtain⟨h1,h2,h3⟩:=hx;refine Gd o hn f _ (k+1) ((bubble_perm _ _ _).trans hp) () λi j hij hj=>?_;have e:=EH (p:=p) (src:=k) (d:=k-x) () ();rw[e i,e j];have ex:k-(k-x)=x:=()
  rw[ex];by_cases i1:i=x
  ·rw[Uv i1];by_cases j1:j=x
   ·rw[Uv j1];exact o.rf _
   ·rw[Uu j1,Uv ()];exact h3 _ () ()
  ·rw[Uu i1];by_cases j1:j=x
   ·rw[Uv j1,Uu ()];exact h2 _ ()
   ·rw[Uu j1];by_cases i2:x<i/\i<=k
    ·rw[Uv i2,Uv ()];exact ha _ _ () ()
    ·rw[Uu i2];by_cases j2:x<j/\j<=k
     ·rw[Uv j2];exact ha _ _ () ()
     ·rw[Uu j2];exact ha _ _ () ()
def KE(o:Ord lt le)(hn:0<n):Pwp lt n (kas_sort n) λr=>r.Perm (List.range n).toArray/\Asc le r n:=by
 refine Pwp.bind _ _ (Pwp.mono _ _ (λr hr=>?_) (Gk o hn (Array.Perm.refl _)));obtain⟨a1,a2,a3,a4⟩:=hr;by_cases h:r.1<n
 ·rw[Uv h];have e:max r.1 1=r.1:=()
  rw[e];exact Gd o hn _ _ _ a1 () a4
 ·rw[Uu h];have e:r.1=n:=()
  exact⟨a1,e▸a4⟩
end
def Hj{α:Type}{le:Nat->Nat->Prop}{p:Array Nat}{vs:List α}{d:α}(hp:p.Perm (List.range vs.length).toArray)(ha:Asc le p vs.length) :
  (p.toList.map λi=>vs.getD i d).Perm vs/\∀R:α->α->Prop,(∀i j,i<vs.length->j<vs.length->le i j->R (vs.getD i d) (vs.getD j d))->(p.toList.map λi=>vs.getD i d).Pairwise R:=by
 have hl:p.toList.Perm (List.range vs.length):=by simpa using XU.1 hp
 constructor
 ·have h1:(p.toList.map λi=>vs.getD i d).Perm ((List.range vs.length).map λi=>vs.getD i d):=hl.map _;have h2:((List.range vs.length).map λi=>vs.getD i d)=vs:=by
   apply List.ext_getElem
   ·simp
   ·intro i h1 h2;simp at h1;simp[h1]
  rw[h2] at h1;exact h1
 ·intro R hR;rw[WT,List.pairwise_iff_getElem];intro i j hi hj hij;have hs:p.toList.length=vs.length:=by rw[hl.length_eq];simp
  have m:∀k (hk:k<p.toList.length),p.toList[k]<vs.length:=λk hk=>by simpa using hl.mem_iff.1 (XX hk)
  have a:∀k (hk:k<p.toList.length),at' p k=p.toList[k]:=λk hk=>by
   have:k<p.size:=by simpa using hk
   simp[at',Array.getD,this]
  refine hR _ _ (m i hi) (m j hj) ?_;rw[<-a i hi,<-a j hj];exact ha i j (U1 hij) ()
section
variable {prog:Program}{w:World}{A:Around}{E:Ze}{s:Shared}
structure Known(prog:Program)(w:World)(s:Shared)(vs:Zh)(κ:SortKind)(lt:Nat->Nat->Bool):Prop where
 kind:∀(A:Around) (E:Ze) (h':Heap) (Q:SortKind->Shared->Prop),(∀b o,s.heap.get? b=some o->h'.get? b=some o)->2<=vs.length->Q κ { s with heap:=h' }->wpAny (model prog w) A (keyKind' vs.toArray) Q E { s with heap:=h' }
 ask:∀(A:Around) (h':Heap) (i j:Nat) (C:Bool->Shared->Prop),(∀b o,s.heap.get? b=some o->h'.get? b=some o)->i<vs.length->j<vs.length->C (lt i j) { s with heap:=h' }->kas_ask prog w A κ vs i j C { s with heap:=h' }
def Known.on{lt:Nat->Nat->Bool}{h:Heap}(k:Known prog w s vs κ lt)(hk:∀b o,s.heap.get? b=some o->h.get? b=some o):Known prog w { s with heap:=h } vs κ lt:=
 ⟨λA E h' Q h2=>k.kind A E h' Q λb o e=>h2 b o (hk b o e),λA h' i j C h2=>k.ask A h' i j C λb o e=>h2 b o (hk b o e)⟩
def o7(vs:Zh)(p:Array Nat):Array Value:=(p.toList.map λi=>vs.getD i Value.none).toArray
def CD{vs:Zh}{p:Array Nat}(h:p.size=vs.length):(o7 vs p).size=vs.length:=by unfold o7;simp[h]
def A0:o7 vs (List.range vs.length).toArray=vs.toArray:=by
 unfold o7;congr 1;apply List.ext_getElem
 ·simp
 ·intro i h1 h2;simp at h1;simp[h1]
def Jj{le:Nat->Nat->Prop}(rf:∀a,le a a){n:Nat}(h:n<2)(p:Array Nat):Asc le p n:=λi j hij hj=>by
 have e:i=j:=()
 subst e;exact rf _
def G0{vs:Zh}{n:Nat} {lt:Nat->Nat->Bool}{le:Nat->Nat->Prop}{P:PySem.Fin->Shared->Prop}(o:Ord lt le)(ho:s.heap.get? a=some (seqObj "list" vs.toArray n)) (h64:vs.length<64)
  (hk:∀h',(∀b o,b≠a->s.heap.get? b=some o->h'.get? b=some o)->Known prog w { s with heap:=h' } vs κ lt)
  (h:∀p:Array Nat,p.Perm (List.range vs.length).toArray->Asc le p vs.length->P (.done (.ret .none)) { s with heap:=sortedHeap s.heap a vs (o7 vs p) }):wpAny (model prog w) A (Builtin.«list.sort» ⟨[.ref a],[]⟩) P E s:=by
 have ha:a<s.heap.objs.size:=UA ho;obtain⟨e1,ho1⟩:∃e1,(s.heap.update a (Obj.mapSeq λ_=>#[])).get? a=some (seqObj "list" #[] e1):=⟨_,get?_update_seq ho λ_=>#[]⟩
 have ne1:a≠((s.heap.update a (Obj.mapSeq λ_=>#[])).push (seqObj "tuple" vs.toArray 0)).objs.size:=by rw[XY,XZ];exact UH (V1 ha)
 have ne2:a≠(s.heap.update a (Obj.mapSeq λ_=>#[])).objs.size:=by rw[XZ];exact UH ha
 have ho6:(((s.heap.update a (Obj.mapSeq λ_=>#[])).push (seqObj "tuple" vs.toArray 0)).push (seqObj "list" #[] 0)).get? a=some (seqObj "list" #[] e1):=by rw[YQ _ _ _ ne1,YQ _ _ _ ne2,ho1]
 have keep:∀b q,b≠a->s.heap.get? b=some q->(((s.heap.update a (Obj.mapSeq λ_=>#[])).push (seqObj "tuple" vs.toArray 0)).push (seqObj "list" #[] 0)).get? b=some q:=λb q hb hq=>
  Uz _ (Uz _ ((WU _ _ _ _ hb).trans hq))
 have K:=hk _ keep;rw[list_sort_plain];refine Ut (listItems_at ho rfl (Ut (listUpdate_at ho rfl (Ut (seqEpoch_at ho1 rfl (Ut (wpAny_newTuple (Ut (Wn (UY ?_))))))))));dsimp only;have hn:vs.toArray.size=vs.length:=by simp
 have fin:∀(p:Array Nat) (st:SortSt),p.Perm (List.range vs.length).toArray->Asc le p vs.length->(arrOf st).map (·.2)=o7 vs p->failedOf st=none ->
   wpAny (model prog w) A (do
    let touched:=(← seqEpoch a) != e1
    Builtin.List.listUpdate (.ref a) λ_=>(arrOf st).map (·.2)
    if let some e:=failedOf st then rule "list.sort.comparison-raised"; throw e
    if touched then rule "list.sort.modified"; raiseError "ValueError" "list modified during sort"
    ret .none) P E { s with heap:=((s.heap.update a (Obj.mapSeq λ_=>#[])).push (seqObj "tuple" vs.toArray 0)).push (seqObj "list" #[] 0) }:=λp st hp hs ho2 hf=>by
  have hz:(o7 vs p).size<=sizeLine+1:=by rw[CD (by rw[hp.size_eq];simp),UF];lia
  rw[ho2,hf];refine Ut (seqEpoch_at ho6 rfl (Ut (listUpdate_at ho6 rfl ?_ (hsz2:=hz))));simp only[bne_self_eq_false,WV,VB];exact Uw (h p hp hs)
 by_cases h2:vs.toArray.size<2
 ·rw[Uv h2,Uv h2];refine Ut (Uw ?_);rw[StateT.run_pure];refine Ut (Uw (fin (List.range vs.length).toArray _ (Array.Perm.refl _) (Jj o.rf () _) ?_ rfl));rw[A0];show ((vs.toArray.zip vs.toArray).map (·.2))=vs.toArray;apply Array.ext
  ·simp
  ·intro i h1 h2;simp
 ·rw[Uu h2,Uu h2];refine Ut (K.kind _ _ _ _ (λ_ _ e=>e) () ?_)
  refine Ut (UO (kat_run (ks:=vs) (vs:=vs) (κ:=κ) (G:=λp s'=>s'={ s with heap:=((s.heap.update a (Obj.mapSeq λ_=>#[])).push (seqObj "tuple" vs.toArray 0)).push (seqObj "list" #[] 0) }/\p.Perm (List.range vs.length).toArray/\Asc le p vs.length)
   (Q:=λst s'=>∃p:Array Nat,(arrOf st).map (·.2)=o7 vs p/\failedOf st=none/\s'={ s with heap:=((s.heap.update a (Obj.mapSeq λ_=>#[])).push (seqObj "tuple" vs.toArray 0)).push (seqObj "list" #[] 0) }/\p.Perm (List.range vs.length).toArray/\Asc le p vs.length)
   rfl () h64 (λp st' s' hs har hf hG=>⟨p,kat_snds rfl har,hf,hG⟩) ?_) (λr s' hr=>?_) λ_ _ e=>e)
  ·refine Pwp.wp lt vs.length (λi j C hi hj hc=>K.ask _ _ i j C (λ_ _ e=>e) hi hj hc) (Pwp.mono _ _ (λp hp=>⟨rfl,hp⟩) (KE o ()))
  ·obtain⟨p,e2,hf,rfl,hp,hs⟩:=hr;exact fin p r.2 hp hs e2 hf
def Fz{vs:Zh} {lt:Nat->Nat->Bool}{le:Nat->Nat->Prop}{Q:Ze}(o:Ord lt le)(hl:s.heap.IsList l vs.toArray)(h64:vs.length<64)(hk:Known prog w s vs κ lt)
  (h:∀p:Array Nat,p.Perm (List.range vs.length).toArray->Asc le p vs.length->Q (.ref (s.heap.objs.size+1)) { s with heap:=sortedAll s.heap vs (o7 vs p) }):wpAny (model prog w) A (call (.builtin "sorted") [.ref l]) Q E s:=by
 have hz:vs.length<=sizeLine:=by rw[UF];omega
 have sz:((s.heap.push (seqObj "list" #[] 0)).update s.heap.objs.size (Obj.mapSeq (· ++ vs.toArray))).objs.size=s.heap.objs.size+1:=by rw[XZ,XY]
 have at1:(((s.heap.push (seqObj "list" #[] 0)).update s.heap.objs.size (Obj.mapSeq (· ++ vs.toArray))).push (seqObj "list" vs.toArray 0)).get? (s.heap.objs.size+1)=some (seqObj "list" vs.toArray 0):=by rw[<-sz];exact UK _ rfl
 have old:∀b q,s.heap.get? b=some q->b≠s.heap.objs.size+1/\(((s.heap.push (seqObj "list" #[] 0)).update s.heap.objs.size (Obj.mapSeq (· ++ vs.toArray))).push (seqObj "list" vs.toArray 0)).get? b=some q:=λb q e=>by have hb:=UA e;refine⟨UH (V1 hb),Uz _ ?_⟩;rw[WU _ _ _ _ (UH hb)];exact Uz _ e
 refine YR kind_sorted plain_sorted entry_sorted (args_sorted1 (.ref l)) ?_;unfold Builtin.«sorted»;refine Ut (m:=checkCount "sorted" 1 1 _) (Uw (Ut (collect_list hl (Ut (Wn ?_ hz)) hz)));show wpAny (model prog w) _ _ _ _ { s with heap:=((s.heap.push (seqObj "list" #[] 0)).update s.heap.objs.size (Obj.mapSeq (· ++ vs.toArray))).push (seqObj "list" vs.toArray 0) };rw[sz];refine Ut (UY (Vl slot_list_sort ⟨_,at1,rfl⟩ entry_list_sort (G0 (κ:=κ) (le:=le) o at1 h64 (λh' kp=>?_) λp hp hs=>⟨_,rfl,Uw ⟨_,rfl,h p hp hs⟩⟩) (args_list_sort _)));exact hk.on λb q e=>kp b q (old b q e).1 (old b q e).2
def jJ:Zn->Zn->Bool
 |[],[]=>false
 |[],_::_=>true
 |_::_,[]=>false
 |x::xs,y::ys=>if x=y then jJ xs ys else decide (x<y)
theorem tT:∀a:Zn,jJ a a=false
 |[]=>rfl
 |x::xs=>by unfold jJ;rw[Uv rfl];exact tT xs
theorem vV:∀a b:Zn,jJ a b=true->jJ b a=false
 |[],[],h=>by unfold jJ at h;cases h
 |[],_::_,_=>by unfold jJ;rfl
 |_::_,[],h=>by unfold jJ at h;cases h
 |x::xs,y::ys,h=>by
  unfold jJ at h ⊢;by_cases e:x=y
  ·rw[Uv e] at h;rw[Uv e.symm];exact vV xs ys h
  ·rw[Uu e] at h;rw[Uu (UB e)];have:=V2 h;exact UU ()
theorem vW:∀a b c:Zn,jJ b a=false->jJ c b=false->jJ c a=false
 |[],_,[],_,_=>rfl
 |[],[],_::_,_,h=>by unfold jJ at h;cases h<;>rfl
 |[],_::_,_::_,_,_=>by unfold jJ;rfl
 |_::_,[],_,h,_=>by unfold jJ at h;cases h
 |x::xs,y::ys,[],_,h=>by unfold jJ at h;cases h
 |x::xs,y::ys,z::zs,h1,h2=>by
  unfold jJ at h1 h2 ⊢;by_cases e1:y=x
  ·rw[Uv e1] at h1;by_cases e2:z=y
   ·rw[Uv e2] at h2;rw[Uv (e2.trans e1)];exact vW xs ys zs h1 h2
   ·rw[Uu e2] at h2;rw[Uu ()];have:=VQ h2;exact UU ()
  ·rw[Uu e1] at h1;have g1:=VQ h1;by_cases e2:z=y
   ·rw[Uu ()];exact UU ()
   ·rw[Uu e2] at h2;have g2:=VQ h2;rw[Uu ()];exact UU ()
def GZ(f:Nat->Zn):Ord (λi j=>jJ (f i) (f j)) (λi j=>jJ (f j) (f i)=false):=
 ⟨λa b c h1 h2=>vW _ _ _ h1 h2,λa=>tT _,λa b h=>vV _ _ h,λa b h=>h⟩
def N9(h:Heap)(v:Value)(ns:Zn):Prop:=∃a o xs n,v=.ref a/\h.get? a=some o/\o.cls=.type "tuple" /\ o.data=.seq xs n/\IntsAre xs.toList ns
def JN:∀(xs ys:Zh) (ns ms:Zn) (i:Nat) (fin:Bool) (Q:Bool->Shared->Prop),IntsAre xs ns->IntsAre ys ms->(fin=decide (xs.length<ys.length))->Q (jJ ns ms) s ->
  KatLex prog w A true fin Q (xs.zip ys) i s:=by
 intro xs;induction xs with
 |nil=>
  intro ys ns ms i fin Q hx hy hf hq;cases hx;rw[List.zip_nil_left];show Q fin s;rw[hf];cases hy with
  |nil|cons _ _ _=>exact hq
 |cons x xs ih=>
  intro ys ns ms i fin Q hx hy hf hq;cases hx with
  |cons a t tx=>
   cases hy with
   |nil=>
    rw[List.zip_nil_right];show Q fin s;rw[hf];exact hq
   | @cons c u ys' ms' ty=>
    rw[Wo];refine kat_cons ((YL a t c u) prog w _ _ ?_);unfold jJ at hq;by_cases e:a=c
    ·rw[Uv e] at hq;have eb:(a==c)=true:=by simpa using e
     rw[eb];exact kat_yes (ih ys' _ ms' (i+1) fin Q tx ty (by rw[hf];simp) hq)
    ·rw[Uu e] at hq;have eb:(a==c)=false:=by simpa using e
     rw[eb];refine kat_no ?_;cases q:i==0 with
     |true=>exact oneLt_int hq
     |false=>exact kat_one _ _ (lt_int hq)
def Cj{vs:Zh}{f:Nat->Zn}(hv:∀i,i<vs.length->N9 s.heap (vs.getD i Value.none) (f i)/\f i≠[]):Known prog w s vs (tuples' true) λi j=>jJ (f i) (f j):=by
 refine⟨λA E h' Q hk h2 hq=>?_,λA h' i j C hk hi hj hc=>?_⟩
 ·have hv':∀v∈vs,∃n t fA a o xs k,v=.ref a/\h'.get? a=some o/\o.cls=.type "tuple" /\ o.data=.seq xs k/\xs.toList=Value.int n t::fA:=λv hm=>by
   obtain⟨i,hi,e⟩:=X0 hm;obtain⟨⟨a,o,xs,k,e1,e2,e3,e4,e5⟩,ne⟩:=hv i hi;have ev:vs.getD i Value.none=v:=by rw[X1,V0 hi];exact e
   rw[ev] at e1;revert e5 ne;generalize f i=ns;generalize ex:xs.toList=L;intro ne e5;cases e5 with
   |nil=>exact absurd rfl ne
   | @cons n t vs' ns' tl=>exact⟨n,t,vs',a,o,xs,k,e1,hk _ _ e2,e3,e4,ex⟩
  have fs:∀L:Zh,(∀v∈L,∃n t fA a o xs k,v=.ref a/\h'.get? a=some o/\o.cls=.type "tuple" /\ o.data=.seq xs k/\xs.toList=Value.int n t::fA)->∃gs,KatTups h' L gs/\gs.length=L.length/\∀v∈gs,∃n t,v=Value.int n t:=by
   intro L;induction L with
   |nil=>exact λ_=>⟨[],.nil,rfl,λ_ h=>(by cases h)⟩
   |cons v L ih=>
    intro hL;obtain⟨gs,g1,g2,g3⟩:=ih λu hu=>hL u (UJ _ hu);obtain⟨n,t,fA,a,o,xs,k,rfl,e2,e3,e4,e5⟩:=hL v UL;refine⟨.int n t::gs,.cons e2 e3 e4 (by rw[<-WR,e5];rfl) g1,by rw[UI,UI,g2],λu hu=>?_⟩;rcases UC.1 hu with rfl|hu
    ·exact⟨n,t,rfl⟩
    ·exact g3 u hu
  obtain⟨gs,g1,g2,g3⟩:=fs vs hv';refine kat_kind (s:={ s with heap:=h' }) (T:=.type "int") g1 () (λv hm=>?_) (by decide) hq;obtain⟨n,t,rfl⟩:=g3 v hm;exact Looks.of_pure rfl
 ·obtain⟨⟨a,o,xs,k,e1,e2,e3,e4,e5⟩,_⟩:=hv i hi;obtain⟨⟨a',o',xs',k',e1',e2',e3',e4',e5'⟩,_⟩:=hv j hj;unfold kas_ask;rw[e1,e1'];refine kat_lt (s:={ s with heap:=h' }) (hk _ _ e2) e4 (hk _ _ e2') e4' ?_;refine JN (s:={ s with heap:=h' }) _ _ _ _ _ _ _ e5 e5' ?_ hc;simp
end
end Srt
namespace L2
open PySem
def M4(K:Zj):Za->Hp->VK->Prop:=λxs H Q=>∃p ys,xs=[.ref p]/\((SqL K H p ys/\∀l,H l=none->Q (.ref l) (upd H l (.tup ys)))\/(SqT K H p ys/\Q (.ref p) H))
def O5:Za->Hp->VK->Prop:=λxs H Q=>∃i j,xs=[.int i,.int j]/\Q (.int (if j > i then j else i)) H
def QR:R2:=λx y H Q=>y=.non/\Q (.bl (decide (x=.non))) H
def Pv(K:Zj)(ta:TE):TT:=λσ H Q=>ta σ H λx H'=>∃k,FX K x H' k/\Q k H'
def Ba(K:Zj):Za->Hp->VK->Prop:=λxs H Q=>∃p,∃ns:Zn,xs=[.ref p]/\SqL K H p (ns.map V.int)/\ns.length<64 /\
 ∀(ms:Zn) l,ms.Perm ns->ms.Pairwise (· <= ·)->H l=none->Q (.ref l) (upd H l (.lst (ms.map V.int)))
def Lx(K:Zj):Za->Hp->VK->Prop:=λxs H Q=>∃p,∃ns:Zn,xs=[.ref p]/\SqL K H p (ns.map V.int)/\Q (.int ns.sum) H
def JD(K:Zj)(tl:TE):TI:=λσ H R=>tl σ H λx H1=>∃a,x=.ref a/\(((∃xs,SqL K H1 a xs)/\R (R0 K a) H1)\/((∃xs,SqT K H1 a xs)/\R (R4 K a) H1))
end L2
namespace M
def ZM{α β:Type}{x:Option α}{f:α->Option β}{b:β}(h:x.bind f=some b):∃a,x=some a/\f a=some b:=Option.bind_eq_some_iff.1 h
open PySem L2
inductive D where
 |non|bl (b:Bool)|int (i:Int)|str (x:Str)|ty (n:String)|lst (l:List D)|tup (l:List D)|scr (l:List D)|ins (N:Str) (ns:Zl) (l:List D)|dic (ks:Zm)|dif (ks:Zm)|mtp (l:List D)|dkv (ks:List c7) (l:List D)
 deriving Inhabited
abbrev Zd:=Option D
abbrev Zc:=List D
abbrev Zb:=Zc->Zd
def cK{S':Hp}(s:Same S S') (h:Rd S a u):Rd S' a u:=h.elim (λe=>.inl (s _ _ e)) λ⟨o,e⟩=>.inr ⟨o,s _ _ e⟩
def fi{S':Hp}(s:Same S S') {xs:Za}(h:SqL K S a xs):SqL K S' a xs:=h.elim (λe=>.inl (cK s e)) .inr
def bE{S':Hp}(s:Same S S') {xs:Za}(h:SqT K S a xs):SqT K S' a xs:=h.elim (λe=>.inl (cK s e)) .inr
def TpA(K:Zj)(S:Hp)(a:Addr)(xs:Za):Prop:=S a=some (.tup xs)
def TpA.of{S:Hp}{a:Addr}{xs:Za}(h:S a=some (.tup xs)):TpA K S a xs:=h
def TpA.sq{xs:Za}(h:TpA K S a xs):SqT K S a xs:=SqT.of h
def TpA.mono{S':Hp}(s:Same S S') {xs:Za}(h:TpA K S a xs):TpA K S' a xs:=s _ _ h
def Au(ks:Zm):List (List c7×V):=ks.map λk=>(k.map Sum.inl,V.bl true)
mutual
def Den(K:Zj)(S:Hp):D->V->Prop
 |.non,v=>v=.non
 |.bl b,v=>v=.bl b
 |.int i,v=>v=.int i
 |.str x,v=>v=.str x
 |.ty x,v=>v=.ty x
 |.lst l,v=>∃p xs,v=.ref p/\Rd S p (.lst xs)/\Dens K S l xs
 |.tup l,v=>∃p xs,v=.ref p/\TpA K S p xs/\Dens K S l xs
 |.scr l,v=>∃p xs,v=.ref p/\SqL K S p xs/\Dens K S l xs
 |.mtp l,v=>∃p xs,v=.ref p/\SqT K S p xs/\Dens K S l xs
 |.ins N ns l,v=>∃p C dx fs,v=.ref p/\W.nsIn K mainGlobals N=some (some (.ref C))/\S p=some (.ins C dx fs)/\fs.map (·.1)=ns/\Dens K S l (fs.map (·.2))
 |.dic ks,v=>∃p,v=.ref p/\Rd S p (.dT (Au ks))
 |.dif ks,v=>∃p o,v=.ref p/\S p=some (.frz o (.dT (Au ks)))
 |.dkv ks l,v=>∃p kvs,v=.ref p/\Rd S p (.dK kvs)/\kvs.map (·.1)=ks/\Dens K S l (kvs.map (·.2))
def Dens(K:Zj)(S:Hp):Zc->Za->Prop
 |[],xs=>xs=[]
 |d::ds,xs=>∃y ys,xs=y::ys/\Den K S d y/\Dens K S ds ys
end
section
variable {K:Zj}{S S' H H':Hp}
def Dens.nil:Dens K S [] []:=by unfold Dens;rfl
def Dens.cons{ds:Zc} {ys:Za}(h:Den K S d y)(k:Dens K S ds ys):Dens K S (d::ds) (y::ys):=by unfold Dens;exact⟨y,ys,rfl,h,k⟩
def Dens.nil_of{xs:Za}(h:Dens K S [] xs):xs=[]:=by unfold Dens at h;exact h
def Dens.cons_of{d:D}{ds:Zc}{xs:Za}(h:Dens K S (d::ds) xs):∃y ys,xs=y::ys/\Den K S d y/\Dens K S ds ys:=by unfold Dens at h;exact h
theorem Dens.length:∀ {ds:Zc} {xs:Za},Dens K S ds xs->ds.length=xs.length
 |[],_,h=>by rw[h.nil_of];rfl
 |_::_,_,h=>by obtain⟨y,ys,rfl,_,k⟩:=h.cons_of;rw[UI,UI,k.length]
theorem Dens.append:∀ {ds es:Zc} {xs ys:Za},Dens K S ds xs->Dens K S es ys->Dens K S (ds++es) (xs++ys)
 |[],_,_,_,h,k=>by rw[h.nil_of];exact k
 |_::_,_,_,_,h,k=>by obtain⟨y,ys,rfl,a,b⟩:=h.cons_of;exact .cons a (b.append k)
theorem Dens.get:∀ {ds:Zc} {xs:Za} {i:Nat} {d:D},Dens K S ds xs->ds[i]?=some d->∃x,xs[i]?=some x/\Den K S d x
 |[],_,_,_,_,e=>by simp at e
 |_::_,_,0,_,h,e=>by
  obtain⟨y,ys,rfl,a,b⟩:=h.cons_of;simp at e;subst e;exact⟨y,rfl,a⟩
 |_::_,_,i+1,_,h,e=>by obtain⟨y,ys,rfl,a,b⟩:=h.cons_of;obtain⟨x,e1,h1⟩:=b.get (i:=i) (by simpa using e);exact⟨x,by simpa using e1,h1⟩
theorem Dens.set:∀ {ds:Zc} {xs:Za} {d:D} {x:V} (i:Nat),Dens K S ds xs->Den K S d x->Dens K S (ds.set i d) (xs.set i x)
 |[],_,_,_,_,h,_=>by rw[h.nil_of];exact .nil
 |_::_,_,_,_,0,h,k=>by
  obtain⟨y,ys,rfl,a,b⟩:=h.cons_of;exact .cons k b
 |_::_,_,_,_,i+1,h,k=>by obtain⟨y,ys,rfl,a,b⟩:=h.cons_of;exact .cons a (b.set i k)
theorem Dens.take:∀ {ds:Zc} {xs:Za} (i:Nat),Dens K S ds xs->Dens K S (ds.take i) (xs.take i)
 |[],_,_,h=>by rw[h.nil_of];simp;exact .nil
 |_::_,_,0,h=>by simp;exact .nil
 |_::_,_,i+1,h=>by obtain⟨y,ys,rfl,a,b⟩:=h.cons_of;exact .cons a (b.take i)
theorem Dens.drop:∀ {ds:Zc} {xs:Za} (i:Nat),Dens K S ds xs->Dens K S (ds.drop i) (xs.drop i)
 |[],_,_,h=>by rw[h.nil_of];simp;exact .nil
 |_::_,_,0,h=>h
 |_::_,_,i+1,h=>by obtain⟨y,ys,rfl,a,b⟩:=h.cons_of;exact b.drop i
mutual
theorem Den.mono(s:Same S S'):∀ {d:D} {v:V},Den K S d v->Den K S' d v
 |.dic _,_,h=>by
  unfold Den at *;obtain⟨p,e,h1⟩:=h;exact⟨p,e,cK s h1⟩
 |.dif _,_,h=>by
  unfold Den at *;obtain⟨p,o,e,h1⟩:=h;exact⟨p,o,e,s _ _ h1⟩
 |.dkv _ _,_,h=>by
  unfold Den at *;obtain⟨p,kvs,e,h1,h2,h3⟩:=h;exact⟨p,kvs,e,cK s h1,h2,Dens.mono s h3⟩
 |.non,_,h=>by unfold Den at *;exact h
 |.bl _,_,h=>by unfold Den at *;exact h
 |.int _,_,h=>by unfold Den at *;exact h
 |.str _,_,h=>by unfold Den at *;exact h
 |.ty _,_,h=>by unfold Den at *;exact h
 |.lst _,_,h=>by
  unfold Den at *;obtain⟨p,xs,e,h1,h2⟩:=h;exact⟨p,xs,e,cK s h1,Dens.mono s h2⟩
 |.tup _,_,h=>by
  unfold Den at *;obtain⟨p,xs,e,h1,h2⟩:=h;exact⟨p,xs,e,TpA.mono s h1,Dens.mono s h2⟩
 |.scr _,_,h=>by
  unfold Den at *;obtain⟨p,xs,e,h1,h2⟩:=h;exact⟨p,xs,e,fi s h1,Dens.mono s h2⟩
 |.mtp _,_,h=>by
  unfold Den at *;obtain⟨p,xs,e,h1,h2⟩:=h;exact⟨p,xs,e,bE s h1,Dens.mono s h2⟩
 |.ins _ _ _,_,h=>by unfold Den at *;obtain⟨p,C,dx,fs,e,h0,h1,h2,h3⟩:=h;exact⟨p,C,dx,fs,e,h0,s _ _ h1,h2,Dens.mono s h3⟩
theorem Dens.mono(s:Same S S'):∀ {ds:Zc} {xs:Za},Dens K S ds xs->Dens K S' ds xs
 |[],_,h=>by rw[h.nil_of];exact .nil
 |_::_,_,h=>by obtain⟨y,ys,rfl,a,b⟩:=h.cons_of;exact .cons (Den.mono s a) (Dens.mono s b)
end
def Zt{i:Int} : Den K S (.int i) v↔v=.int i:=by unfold Den;exact Vv
def Zu{b:Bool} : Den K S (.bl b) v↔v=.bl b:=by unfold Den;exact Vv
def ZI:Den K S .non v↔v=.non:=by unfold Den;exact Vv
def Zo{x:Str} : Den K S (.str x) v↔v=.str x:=by unfold Den;exact Vv
def den_ty{x:String} : Den K S (.ty x) v↔v=.ty x:=by unfold Den;exact Vv
def Zx{l:Zc} : Den K S (.tup l) v↔∃p xs,v=.ref p/\TpA K S p xs/\Dens K S l xs:=by
 constructor
 ·intro h;unfold Den at h;exact h
 ·intro h;unfold Den;exact h
def jC{l:Zc} (h:Den K S (.tup l) v):∃p xs,v=.ref p/\SqT K S p xs/\Dens K S l xs:=by obtain⟨p,xs,e,h1,h2⟩:=Zx.1 h;exact⟨p,xs,e,h1.sq,h2⟩
def Zs{l:Zc} : Den K S (.lst l) v↔∃p xs,v=.ref p/\Rd S p (.lst xs)/\Dens K S l xs:=by
 constructor
 ·intro h;unfold Den at h;exact h
 ·intro h;unfold Den;exact h
def ZE{l:Zc} : Den K S (.scr l) v↔∃p xs,v=.ref p/\SqL K S p xs/\Dens K S l xs:=by
 constructor
 ·intro h;unfold Den at h;exact h
 ·intro h;unfold Den;exact h
def Zz{l:Zc} : Den K S (.mtp l) v↔∃p xs,v=.ref p/\SqT K S p xs/\Dens K S l xs:=by
 constructor
 ·intro h;unfold Den at h;exact h
 ·intro h;unfold Den;exact h
def ZB{N:Str}{ns:Zl}{l:Zc} : Den K S (.ins N ns l) v↔∃p C dx fs,v=.ref p/\W.nsIn K mainGlobals N=some (some (.ref C))/\S p=some (.ins C dx fs)/\fs.map (·.1)=ns/\Dens K S l (fs.map (·.2)):=by
 constructor
 ·intro h;unfold Den at h;exact h
 ·intro h;unfold Den;exact h
def DenP(K:Zj)(S H:Hp)(d:D)(v:V):Prop:=Den K S d v\/∃l p xs,d=.lst l/\v=.ref p/\H p=some (.lst xs)/\Dens K S l xs
def DenP.lst{l:Zc}{v:V}(s:Same S H)(h:DenP K S H (.lst l) v):∃p xs,v=.ref p/\Rd H p (.lst xs)/\Dens K S l xs:=by
 rcases h with h|⟨l',p,xs,e,e1,e2,e3⟩
 ·obtain⟨p,xs,e,e1,e2⟩:=Zs.1 h;exact⟨p,xs,e,cK s e1,e2⟩
 ·cases e;exact⟨p,xs,e1,.inl e2,e3⟩
def DenP.tup{l:Zc}{v:V}(s:Same S H)(h:DenP K S H (.tup l) v):∃p xs,v=.ref p/\SqT K H p xs/\Dens K S l xs:=by
 rcases h with h|⟨l',p,xs,e,e1,e2,e3⟩
 ·obtain⟨p,xs,e,e1,e2⟩:=jC h;exact⟨p,xs,e,bE s e1,e2⟩
 ·cases e
def DenP.scr{l:Zc} (s:Same S H)(h:DenP K S H (.scr l) v):∃p xs,v=.ref p/\SqL K H p xs/\Dens K S l xs:=by
 rcases h with h|⟨l',p,xs,e,e1,e2,e3⟩
 ·obtain⟨p,xs,e,e1,e2⟩:=ZE.1 h;exact⟨p,xs,e,fi s e1,e2⟩
 ·cases e
def DenP.mtp{l:Zc} (s:Same S H)(h:DenP K S H (.mtp l) v):∃p xs,v=.ref p/\SqT K H p xs/\Dens K S l xs:=by
 rcases h with h|⟨l',p,xs,e,e1,e2,e3⟩
 ·obtain⟨p,xs,e,e1,e2⟩:=Zz.1 h;exact⟨p,xs,e,bE s e1,e2⟩
 ·cases e
def DenP.int{i:Int}{v:V}(h:DenP K S H (.int i) v):v=.int i:=by
 rcases h with h|⟨l',p,xs,e,_⟩
 ·exact Zt.1 h
 ·cases e
def DenP.bl{i:Bool} (h:DenP K S H (.bl i) v):v=.bl i:=by
 rcases h with h|⟨l',p,xs,e,_⟩
 ·exact Zu.1 h
 ·cases e
def DenP.str{i:Str} (h:DenP K S H (.str i) v):v=.str i:=by
 rcases h with h|⟨l',p,xs,e,_⟩
 ·exact Zo.1 h
 ·cases e
def DenP.non(h:DenP K S H .non v):v=.non:=by
 rcases h with h|⟨l',p,xs,e,_⟩
 ·exact ZI.1 h
 ·cases e
def DenP.ty{i:String} (h:DenP K S H (.ty i) v):v=.ty i:=by
 rcases h with h|⟨l',p,xs,e,_⟩
 ·exact den_ty.1 h
 ·cases e
def IT(o:HO):Prop:=∃ks:Zn,o=.tup (ks.map V.int)
structure Ext(S H S' H':Hp):Prop where
 sh:Same S S'
 sub:Same S' H'
 alw:∀b o,H b=some o->S b=none->H' b=some o/\(S' b=none\/IT o)
def Ext.al(z:Ext S H S' H')(b:Addr)(o:HO)(h:H b=some o)(n:S b=none)(hn:¬IT o:=by exact λ⟨_,z⟩=>nomatch z):H' b=some o/\S' b=none:=
 ⟨(z.alw b o h n).1,(z.alw b o h n).2.resolve_right hn⟩
def Ext.refl(h:Same S H):Ext S H S H:=⟨Same.refl _,h,λ_ _ h n=>⟨h,.inl n⟩⟩
def Ext.trans{H1 H2:Hp}(a:Ext S H S1 H1)(b:Ext S1 H1 S2 H2):Ext S H S2 H2:=⟨a.sh.trans b.sh,b.sub,λc o h n=>by
 obtain⟨k1,k2⟩:=a.alw c o h n;rcases k2 with k2|k2
 ·exact b.alw c o k1 k2
 ·cases q:S1 c with
  |none=>exact⟨(b.alw c o k1 q).1,.inr k2⟩
  |some u=>
   have:=a.sub c u q;rw[k1] at this;cases this
   exact⟨b.sub c _ (b.sh c _ q),.inr k2⟩⟩
def Ext.same(a:Ext S H S' H')(s:Same S H):Same H H':=λb o h=>by
 cases q:S b with
 |none=>exact (a.alw b o h q).1
 |some u=>have:=s b u q;rw[h] at this;cases this;exact a.sub b o (a.sh b o q)
def Ext.new(s:Same S H) (h:H p=none):Ext S H (upd S p o) (upd H p o) where
 sh:=λb u e=>by rw[aL (bg e (s.free h))];exact e
 sub:=λb u e=>by
  by_cases hb:b=p
  ·subst hb;rw[aG] at e ⊢;exact e
  ·rw[aL hb] at e ⊢;exact s b u e
 alw:=λb u e n=>by have hb:=bg e h;rw[aL hb,aL hb];exact⟨e,.inl n⟩
def Ext.own(s:Same S H) (h:H p=none):Ext S H S (upd H p o) where
 sh:=Same.refl _
 sub:=λb u e=>by rw[aL (bg (s b u e) h)];exact s b u e
 alw:=λb u e n=>by have hb:=bg e h;rw[aL hb];exact⟨e,.inl n⟩
def DenP.mono(e:Ext S H S' H')(s:Same S H)(h:DenP K S H d v):DenP K S' H' d v:=by
 rcases h with h|⟨l,p,xs,h1,h2,h3,h4⟩
 ·exact .inl (h.mono e.sh)
 ·exact .inr ⟨l,p,xs,h1,h2,e.same s _ _ h3,h4.mono e.sh⟩
inductive ZK(K:W.Frag)(S H:Hp):List D->List V->Prop where
 |nil:ZK K S H [] []
 |cons {d ds v vs}:DenP K S H d v->ZK K S H ds vs->ZK K S H (d::ds) (v::vs)
inductive O where
 |sh (d:D)|lst (l:List O)|tup (l:List O)|dic (ks:Zm)|hd (p:Addr) (ks:Zm) (os:List O)
 deriving Inhabited
mutual
def O.d:O->D
 |.sh d=>d
 |.dic ks=>.dic ks
 |.hd _ ks os=>(O.ds os).headD (.dic ks)
 |.lst l=>.lst (O.ds l)
 |.tup l=>.tup (O.ds l)
def O.ds:List O->Zc
 |[]=>[]
 |o::l=>o.d::O.ds l
end
mutual
def Own(K:Zj)(S H:Hp):O->V->Zk->Prop
 |.sh d,v,fp=>fp=[]/\Den K S d v
 |.lst l,v,fp=>∃a xs f,v=.ref a/\fp=a::f/\H a=some (.lst xs)/\Owns K S H l xs f
 |.tup l,v,fp=>∃a xs f,v=.ref a/\fp=a::f/\(H a=some (.tup xs)/\¬IT (.tup xs))/\Owns K S H l xs f
 |.dic ks,v,fp=>∃a,v=.ref a/\fp=[a]/\H a=some (.dT (Au ks))
 |.hd p ks os,v,fp=>∃xs f,v=xs.headD (.ref p)/\fp=p::f/\H p=some (.dT (Au ks))/\Owns K S H os xs f
def Owns(K:Zj)(S H:Hp):List O->Za->Zk->Prop
 |[],xs,fp=>xs=[]/\fp=[]
 |o::l,xs,fp=>∃y ys f g,xs=y::ys/\fp=f++g/\Own K S H o y f/\Owns K S H l ys g
end
def den_dic{ks:Zm} : Den K S (.dic ks) v↔∃p,v=.ref p/\Rd S p (.dT (Au ks)):=by unfold Den;exact Vv
def ZF{ks:Zm} {fp:Zk}:Own K S H (.dic ks) v fp↔∃a,v=.ref a/\fp=[a]/\H a=some (.dT (Au ks)):=by unfold Own;exact Vv
def den_dkv{ks:List c7}{l:Zc}{v:V}:Den K S (.dkv ks l) v↔∃p kvs,v=.ref p/\Rd S p (.dK kvs)/\kvs.map (·.1)=ks/\Dens K S l (kvs.map (·.2)):=by unfold Den;exact Vv
def den_dif{ks:Zm} : Den K S (.dif ks) v↔∃p o,v=.ref p/\S p=some (.frz o (.dT (Au ks))):=by unfold Den;exact Vv
def own_hd{p:Addr}{ks:Zm}{os:List O} {fp:Zk}:Own K S H (.hd p ks os) v fp↔∃xs f,v=xs.headD (.ref p)/\fp=p::f/\H p=some (.dT (Au ks))/\Owns K S H os xs f:=by
 constructor
 ·intro h;unfold Own at h;exact h
 ·intro h;unfold Own;exact h
def ZD{d:D} {fp:Zk}:Own K S H (.sh d) v fp↔fp=[]/\Den K S d v:=by unfold Own;exact Vv
def Zy{l:List O}{v:V}{fp:Zk}:Own K S H (.lst l) v fp↔∃a xs f,v=.ref a/\fp=a::f/\H a=some (.lst xs)/\Owns K S H l xs f:=by
 constructor
 ·intro h;unfold Own at h;exact h
 ·intro h;unfold Own;exact h
def ZC{l:List O}{v:V}{fp:Zk}:Own K S H (.tup l) v fp↔∃a xs f,v=.ref a/\fp=a::f/\(H a=some (.tup xs)/\¬IT (.tup xs))/\Owns K S H l xs f:=by
 constructor
 ·intro h;unfold Own at h;exact h
 ·intro h;unfold Own;exact h
def Owns.nil:Owns K S H [] [] []:=by unfold Owns;exact⟨rfl,rfl⟩
def Owns.cons{ys:Za} (h:Own K S H o y f)(k:Owns K S H l ys g):Owns K S H (o::l) (y::ys) (f++g):=by unfold Owns;exact⟨y,ys,f,g,rfl,rfl,h,k⟩
def Owns.nil_of{xs:Za}{fp:Zk}(h:Owns K S H [] xs fp):xs=[]/\fp=[]:=by unfold Owns at h;exact h
def Owns.cons_of{o:O}{l:List O}{xs:Za}{fp:Zk}(h:Owns K S H (o::l) xs fp):∃y ys f g,xs=y::ys/\fp=f++g/\Own K S H o y f/\Owns K S H l ys g:=by unfold Owns at h;exact h
theorem Owns.length:∀ {l:List O} {xs:Za} {fp:Zk},Owns K S H l xs fp->l.length=xs.length
 |[],_,_,h=>by rw[h.nil_of.1];rfl
 |_::_,_,_,h=>by obtain⟨y,ys,f,g,rfl,rfl,_,k⟩:=h.cons_of;rw[UI,UI,k.length]
theorem Owns.append:∀ {l m:List O} {xs ys:Za} {f g:Zk},Owns K S H l xs f->Owns K S H m ys g->Owns K S H (l++m) (xs++ys) (f++g)
 |[],_,_,_,_,_,h,k=>by rw[h.nil_of.1,h.nil_of.2];exact k
 |_::_,_,_,_,_,_,h,k=>by obtain⟨y,ys,f,g,rfl,rfl,a,b⟩:=h.cons_of;rw[VF];exact .cons a (b.append k)
theorem uU:∀ {ds:Zc} {xs:Za},Dens K S ds xs->Owns K S H (ds.map .sh) xs []
 |[],_,h=>by rw[h.nil_of];exact .nil
 |_::_,_,h=>by obtain⟨y,ys,rfl,a,b⟩:=h.cons_of;exact .cons (f:=[]) (ZD.2 ⟨rfl,a⟩) (uU b)
theorem pW:∀ {ds:Zc} {xs:Za} {fp:Zk},Owns K S H (ds.map .sh) xs fp->Dens K S ds xs/\fp=[]
 |[],_,_,h=>by rw[h.nil_of.1,h.nil_of.2];exact⟨.nil,rfl⟩
 |_::_,_,_,h=>by obtain⟨y,ys,f,g,rfl,rfl,a,b⟩:=h.cons_of;obtain⟨e,a⟩:=ZD.1 a;obtain⟨b,e2⟩:=pW b;exact⟨.cons a b,by rw[e,e2];rfl⟩
mutual
theorem Own.mono(s:Same S S'):∀ {o:O} {v:V} {fp:Zk},(∀b∈fp,H' b=H b)->Own K S H o v fp->Own K S' H' o v fp
 |.dic _,_,_,k,h=>by
  obtain⟨a,e,rfl,h1⟩:=ZF.1 h;exact ZF.2 ⟨a,e,rfl,by rw[k a UL];exact h1⟩
 |.hd _ _ _,_,_,k,h=>by
  obtain⟨xs,f,e,rfl,h1,h2⟩:=own_hd.1 h;exact own_hd.2 ⟨xs,f,e,rfl,by rw[k _ UL];exact h1,Owns.mono s (λb hb=>k b (UJ _ hb)) h2⟩
 |.sh _,_,_,k,h=>by
  obtain⟨e,d⟩:=ZD.1 h;exact ZD.2 ⟨e,d.mono s⟩
 |.lst _,_,_,k,h=>by
  obtain⟨a,xs,f,e,rfl,h1,h2⟩:=Zy.1 h;exact Zy.2 ⟨a,xs,f,e,rfl,by rw[k a UL];exact h1,Owns.mono s (λb hb=>k b (UJ _ hb)) h2⟩
 |.tup _,_,_,k,h=>by obtain⟨a,xs,f,e,rfl,h1,h2⟩:=ZC.1 h;exact ZC.2 ⟨a,xs,f,e,rfl,by rw[k a UL];exact h1,Owns.mono s (λb hb=>k b (UJ _ hb)) h2⟩
theorem Owns.mono(s:Same S S'):∀ {l:List O} {xs:Za} {fp:Zk},(∀b∈fp,H' b=H b)->Owns K S H l xs fp->Owns K S' H' l xs fp
 |[],_,_,k,h=>by rw[h.nil_of.1,h.nil_of.2];exact .nil
 |_::_,_,_,k,h=>by obtain⟨y,ys,f,g,rfl,rfl,a,b⟩:=h.cons_of;exact .cons (Own.mono s (λb hb=>k b (UW _ hb)) a) (Owns.mono s (λb hb=>k b (UE _ hb)) b)
end
mutual
theorem Own.there:∀ {o:O} {v:V} {fp:Zk},Own K S H o v fp->∀b∈fp,H b≠none
 |.dic _,_,_,h=>by
  obtain⟨a,e,rfl,h1⟩:=ZF.1 h;intro b hb;rw[UV] at hb;subst hb;rw[h1];exact λz=>by cases z
 |.hd _ _ _,_,_,h=>by
  obtain⟨xs,f,e,rfl,h1,h2⟩:=own_hd.1 h;intro b hb;rcases UC.1 hb with rfl|hb
  ·rw[h1];exact λz=>by cases z
  ·exact Owns.there h2 b hb
 |.sh _,_,_,h=>by
  obtain⟨e,d⟩:=ZD.1 h;rw[e];intro b hb;cases hb
 |.lst _,_,_,h=>by
  obtain⟨a,xs,f,e,rfl,h1,h2⟩:=Zy.1 h;intro b hb;rcases UC.1 hb with rfl|hb
  ·rw[h1];exact λz=>by cases z
  ·exact Owns.there h2 b hb
 |.tup _,_,_,h=>by
  obtain⟨a,xs,f,e,rfl,⟨h1,_⟩,h2⟩:=ZC.1 h;intro b hb;rcases UC.1 hb with rfl|hb
  ·rw[h1];exact λz=>by cases z
  ·exact Owns.there h2 b hb
theorem Owns.there:∀ {l:List O} {xs:Za} {fp:Zk},Owns K S H l xs fp->∀b∈fp,H b≠none
 |[],_,_,h=>by rw[h.nil_of.2];intro b hb;cases hb
 |_::_,_,_,h=>by
  obtain⟨y,ys,f,g,rfl,rfl,a,b⟩:=h.cons_of;intro c hc;rcases U7.1 hc with hc|hc
  ·exact Own.there a c hc
  ·exact Owns.there b c hc
end
mutual
theorem Own.nit:∀ {o:O} {v:V} {fp:Zk},Own K S H o v fp->∀b∈fp,∀u,H b=some u->¬IT u
 |.dic _,_,_,h=>by
  obtain⟨a,e,rfl,h1⟩:=ZF.1 h;intro b hb u hu;rw[UV.1 hb,h1] at hu;cases hu;exact λ⟨_,z⟩=>nomatch z
 |.hd _ _ _,_,_,h=>by
  obtain⟨xs,f,e,rfl,h1,h2⟩:=own_hd.1 h;intro b hb u hu;rcases UC.1 hb with rfl|hb
  ·rw[h1] at hu;cases hu;exact λ⟨_,z⟩=>nomatch z
  ·exact Owns.nit h2 b hb u hu
 |.sh _,_,_,h=>by
  obtain⟨e,d⟩:=ZD.1 h;rw[e];intro b hb;cases hb
 |.lst _,_,_,h=>by
  obtain⟨a,xs,f,e,rfl,h1,h2⟩:=Zy.1 h;intro b hb u hu;rcases UC.1 hb with rfl|hb
  ·rw[h1] at hu;cases hu;exact λ⟨_,z⟩=>nomatch z
  ·exact Owns.nit h2 b hb u hu
 |.tup _,_,_,h=>by
  obtain⟨a,xs,f,e,rfl,⟨h1,hn⟩,h2⟩:=ZC.1 h;intro b hb u hu;rcases UC.1 hb with rfl|hb
  ·rw[h1] at hu;cases hu;exact hn
  ·exact Owns.nit h2 b hb u hu
theorem Owns.nit:∀ {l:List O} {xs:Za} {fp:Zk},Owns K S H l xs fp->∀b∈fp,∀u,H b=some u->¬IT u
 |[],_,_,h=>by rw[h.nil_of.2];intro b hb;cases hb
 |_::_,_,_,h=>by
  obtain⟨y,ys,f,g,rfl,rfl,a,b⟩:=h.cons_of;intro c hc u hu;rcases U7.1 hc with hc|hc
  ·exact Own.nit a c hc u hu
  ·exact Owns.nit b c hc u hu
end
mutual
theorem Own.den(s:Same S S2):∀ {o:O} {v:V} {fp:Zk},(∀b∈fp,S2 b=H b)->Own K S H o v fp->Den K S2 o.d v
 |.dic _,_,_,k,h=>by
  obtain⟨a,e,rfl,h1⟩:=ZF.1 h;rw[O.d];exact den_dic.2 ⟨a,e,.inl (by rw[k a UL];exact h1)⟩
 |.hd p ks os,_,_,k,h=>by
  obtain⟨xs,f,e,rfl,h1,h2⟩:=own_hd.1 h;have ds:=Owns.den s (λb hb=>k b (UJ _ hb)) h2;rw[O.d,e];cases q:O.ds os with
  |nil=>
   rw[q] at ds;rw[ds.nil_of];exact den_dic.2 ⟨p,rfl,.inl (by rw[k p UL];exact h1)⟩
  |cons d l=>
   rw[q] at ds;obtain⟨y,ys,rfl,a,_⟩:=ds.cons_of;exact a
 |.sh _,_,_,k,h=>by
  obtain⟨e,d⟩:=ZD.1 h;exact d.mono s
 |.lst l,_,_,k,h=>by
  obtain⟨a,xs,f,e,rfl,h1,h2⟩:=Zy.1 h;rw[O.d];exact Zs.2 ⟨a,xs,e,.inl (by rw[k a UL];exact h1),Owns.den s (λb hb=>k b (UJ _ hb)) h2⟩
 |.tup l,_,_,k,h=>by obtain⟨a,xs,f,e,rfl,h1,h2⟩:=ZC.1 h;rw[O.d];exact Zx.2 ⟨a,xs,e,TpA.of (by rw[k a UL];exact h1.1),Owns.den s (λb hb=>k b (UJ _ hb)) h2⟩
theorem Owns.den(s:Same S S2):∀ {l:List O} {xs:Za} {fp:Zk},(∀b∈fp,S2 b=H b)->Owns K S H l xs fp->Dens K S2 (O.ds l) xs
 |[],_,_,k,h=>by rw[h.nil_of.1,O.ds];exact .nil
 |_::_,_,_,k,h=>by obtain⟨y,ys,f,g,rfl,rfl,a,b⟩:=h.cons_of;rw[O.ds];exact .cons (Own.den s (λb hb=>k b (UW _ hb)) a) (Owns.den s (λb hb=>k b (UE _ hb)) b)
end
def Own.denH{fp:Zk}(s:Same S H)(h:Own K S H o v fp):Den K H o.d v:=h.den s λ_ _=>rfl
def Ext.keeps{fp:Zk}(e:Ext S H S' H')(h:∀b∈fp,S b=none)(t:∀b∈fp,H b≠none)(ni:∀b∈fp,∀u,H b=some u->¬IT u):(∀b∈fp,H' b=H b)/\∀b∈fp,S' b=none:=by
 have key:∀b∈fp,H' b=H b/\S' b=none:=λb hb=>by
  cases q:H b with
  |none=>exact absurd q (t b hb)
  |some o=>exact e.al b o q (h b hb) (ni b hb o q)
 exact⟨λb hb=>(key b hb).1,λb hb=>(key b hb).2⟩
inductive Sl where
 |un|lo|sh (d:D)|ow (o:O)
 deriving Inhabited
abbrev Env:=List Sl
structure RlF(K:Zj)(A:Hp)(Λ:Nat->Option Addr)(Φ:Nat->Zk)(ρ:Env)(σ:St)(S H:Hp):Prop where
 len:σ.length=ρ.length
 sub:Same S H
 sh:∀(i:Nat) d,ρ[i]?=some (.sh d)->∃v,σ[i]?=some (some v)/\Den K S d v
 ow:∀(i:Nat) o,ρ[i]?=some (.ow o)->∃v,σ[i]?=some (some v)/\Own K S H o v (Φ i)/\(Φ i).Nodup/\∀b∈Φ i,S b=none/\A b=none
 dj:∀(i j:Nat) o o',i≠j->ρ[i]?=some (.ow o)->ρ[j]?=some (.ow o')->∀b∈Φ i,b∉Φ j
 lo:∀(i:Nat),ρ[i]?=some .lo->∃a,Λ i=some a/\σ[i]?=some (some (.ref a))
 asub:Same A H
 adis:∀b,S b=none\/A b=none\/∃u,A b=some u/\IT u
def RlA(K:Zj)(A:Hp)(Λ:Nat->Option Addr)(ρ:Env)(σ:St)(S H:Hp):Prop:=∃Φ,RlF K A Λ Φ ρ σ S H
def Rl(K:Zj)(ρ:Env)(σ:St)(S H:Hp):Prop:=∃A Λ Φ,RlF K A Λ Φ ρ σ S H
def RlF.ext(r:RlF K A Λ Φ ρ σ S H)(e:Ext S H S' H'):RlF K A Λ Φ ρ σ S' H' where
 len:=r.len
 sub:=e.sub
 sh:=λi d h=>by obtain⟨v,h1,h2⟩:=r.sh i d h;exact⟨v,h1,h2.mono e.sh⟩
 ow:=λi o h=>by obtain⟨v,h1,h2,h3,h4⟩:=r.ow i o h;obtain⟨k1,k2⟩:=e.keeps (λb hb=>(h4 b hb).1) h2.there h2.nit;exact⟨v,h1,h2.mono e.sh k1,h3,λb hb=>⟨k2 b hb,(h4 b hb).2⟩⟩
 dj:=r.dj
 lo:=r.lo
 asub:=λb o h=>e.same r.sub b o (r.asub b o h)
 adis:=λb=>by
  rcases r.adis b with h|h
  ·cases q:A b with
   |none=>exact .inr (.inl rfl)
   |some o=>
    rcases (e.alw b o (r.asub b o q) h).2 with k|k
    ·exact .inl k
    ·exact .inr (.inr ⟨o,rfl,k⟩)
  ·exact .inr h
def RlA.ext(r:RlA K A Λ ρ σ S H)(e:Ext S H S' H'):RlA K A Λ ρ σ S' H':=let ⟨Φ,f⟩:=r;⟨Φ,f.ext e⟩
def RlA.toRl(r:RlA K A Λ ρ σ S H):Rl K ρ σ S H:=let ⟨Φ,f⟩:=r;⟨A,Λ,Φ,f⟩
def RlA.sub(r:RlA K A Λ ρ σ S H):Same S H:=let ⟨_,f⟩:=r;f.sub
def RlA.asub(r:RlA K A Λ ρ σ S H):Same A H:=let ⟨_,f⟩:=r;f.asub
def RlA.adis(r:RlA K A Λ ρ σ S H):∀b,S b=none\/A b=none\/∃u,A b=some u/\IT u:=let ⟨_,f⟩:=r;f.adis
def Rl.ext(r:Rl K ρ σ S H)(e:Ext S H S' H'):Rl K ρ σ S' H':=let ⟨A,Λ,Φ,f⟩:=r;⟨A,Λ,Φ,f.ext e⟩
def Rl.sub(r:Rl K ρ σ S H):Same S H:=let ⟨_,_,_,f⟩:=r;f.sub
def Rl.sh{ρ:Env}{σ:St}(r:Rl K ρ σ S H):∀(i:Nat) d,ρ[i]?=some (.sh d)->∃v,σ[i]?=some (some v)/\Den K S d v:=let ⟨_,_,_,f⟩:=r;f.sh
def Rl.ow(r:Rl K ρ σ S H):∀(i:Nat) o,ρ[i]?=some (.ow o)->∃v fp,σ[i]?=some (some v)/\Own K S H o v fp/\fp.Nodup/\∀b∈fp,S b=none:=λi o h=>by obtain⟨A,Λ,Φ,f⟩:=r;obtain⟨v,h1,h2,h3,h4⟩:=f.ow i o h;exact⟨v,_,h1,h2,h3,λb hb=>(h4 b hb).1⟩
abbrev XE:=Env->Zd
abbrev XT:=Env->Option Bool
abbrev XA:=Env->Option (Zc)
def SE(K:Zj)(t:TE)(e:XE):Prop:=∀ρ σ S H (Q:VK) d,Rl K ρ σ S H->e ρ=some d->(∀v S' H',Ext S H S' H'->Den K S' d v->Q v H')->t σ H Q
def SPk(K:Zj)(t:TE)(e:XE):Prop:=∀ρ σ S H (Q:VK) d,Rl K ρ σ S H->e ρ=some d->(∀v S' H',Ext S H S' H'->DenP K S' H' d v->Q v H')->t σ H Q
def SF(K:Zj)(t:TE)(e:XA):Prop:=∀ρ σ S H (Q:VK) l,Rl K ρ σ S H->e ρ=some l->(∀a xs S' H',Ext S H S' H'->H a=none->S' a=none->H' a=some (.lst xs)->Dens K S' l xs->Q (.ref a) H')->t σ H Q
def ST(K:Zj)(t:TT)(c:XT):Prop:=∀ρ σ S H (Q:Bool->Hp->Prop) b,Rl K ρ σ S H->c ρ=some b->(∀S' H',Ext S H S' H'->Q b H')->t σ H Q
def SA(K:Zj)(t:TA)(e:XA):Prop:=∀ρ σ S H (Q:Za->Hp->Prop) ds,Rl K ρ σ S H->e ρ=some ds->(∀vs S' H',Ext S H S' H'->Dens K S' ds vs->Q vs H')->t σ H Q
def N6(K:Zj)(t:TA)(e:XA):Prop:=∀ρ σ S H (Q:Za->Hp->Prop) ds,Rl K ρ σ S H->e ρ=some ds->(∀vs S' H',Ext S H S' H'->ZK K S' H' ds vs->Q vs H')->t σ H Q
def SE.p{t:TE}{e:XE}(h:SE K t e):SPk K t e:=λρ σ S H Q d r x k=>h ρ σ S H Q d r x λv S' H' z dv=>k v S' H' z (.inl dv)
@[simp]def xL(e:XA):XE:=λρ=>(e ρ).map D.lst
def SF.e{t:TE}{e:XA}(h:SF K t e):SE K t (xL e):=λρ σ S H Q d r x k=>by
 unfold xL at x;cases q:e ρ with
 |none=>rw[q] at x;cases x
 |some l=>
  rw[q] at x;cases x;refine h ρ σ S H Q l r q λa xs S' H' z h1 h2 h3 h4=>?_;have s2:Same S' (upd S' a (.lst xs)):=λb u e=>by rw[aL (bg e h2)];exact e
  refine k _ (upd S' a (.lst xs)) H' ⟨z.sh.trans s2,λb u e=>?_,λb o e n=>?_⟩ (Zs.2 ⟨a,xs,rfl,.inl aG,h4.mono s2⟩)
  ·by_cases hb:b=a
   ·subst hb;rw[aG] at e;cases e;exact h3
   ·rw[aL hb] at e;exact z.sub b u e
  ·obtain⟨y1,y2⟩:=z.alw b o e n;exact⟨y1,by rw[aL (bg e h1)];exact y2⟩
@[simp]def aN(i:Nat):XE:=λρ=>match ρ[i]? with|some (.sh d)=>some d|_=>none
def oQ:List O->Option (Zc)
 |[]=>some []
 |.sh d::l=>(oQ l).map λr=>d::r
 |_=>none
theorem u6:∀l:Zc,oQ (l.map .sh)=some l
 |[]=>rfl
 |d::l=>by rw[UG,oQ,u6 l];rfl
theorem Cy:∀ {os:List O} {l:Zc},oQ os=some l->os=l.map .sh
 |[],l,h=>by cases h;rfl
 |o::os,l,h=>by
  cases o with
  |sh d=>
   have h':(oQ os).map (λr=>d::r)=some l:=h;cases q:oQ os with
   |none=>rw[q] at h';cases h'
   |some m=>rw[q] at h';cases h';rw[Cy q];rfl
  |lst _|tup _|dic _|hd _ _ _=>cases h
def Hu:Sl->Zd
 |.sh d=>some d
 |.ow (.sh d)=>some d
 |.ow (.lst os)=>(oQ os).map D.lst
 |_=>none
@[simp]def Qd(d:D):Hu (.ow (.sh d))=some d:=rfl
@[simp]def Qf(d:D):Hu (.sh d)=some d:=rfl
@[simp]def Qe(l:Zc):Hu (.ow (.lst (l.map .sh)))=some (.lst l):=by show (oQ _).map D.lst=_;rw[u6];rfl
@[simp]def aq(i:Nat):XE:=λρ=>(ρ[i]?).bind Hu
def aF(i:Nat):SE K (j4 i) (aN i):=λρ σ S H Q d r x k=>by
 unfold aN at x;split at x
 ·rename_i d' e;cases x;obtain⟨v,h1,h2⟩:=r.sh i _ e;exact⟨v,h1,k v S H (Ext.refl r.sub) h2⟩
 ·cases x
def am(i:Nat):SPk K (j4 i) (aq i):=λρ σ S H Q d r x k=>by
 obtain⟨s,q,x⟩:=ZM x;cases s with
 |un|lo=>cases x
 |sh d'=>
  cases x;obtain⟨v,h1,h2⟩:=r.sh i _ q;exact⟨v,h1,k v S H (Ext.refl r.sub) (.inl h2)⟩
 |ow o=>
  cases o with
  |sh d'=>
   cases x;obtain⟨v,fp,h1,h2,h3,h4⟩:=r.ow i _ q;exact⟨v,h1,k v S H (Ext.refl r.sub) (.inl (ZD.1 h2).2)⟩
  |tup l|dic _|hd _ _ _=>cases x
  |lst os=>
   have x':(oQ os).map D.lst=some d:=x;cases qs:oQ os with
   |none=>rw[qs] at x';cases x'
   |some l=>rw[qs] at x';cases x';have e:=Cy qs;subst e;obtain⟨v,fp,h1,h2,h3,h4⟩:=r.ow i _ q;obtain⟨a,xs,f,rfl,rfl,h5,h6⟩:=Zy.1 h2;exact⟨_,h1,k _ S H (Ext.refl r.sub) (.inr ⟨l,a,xs,rfl,rfl,h5,(pW h6).1⟩)⟩
def SQ(K:Zj)(t:TE)(e:XE):Prop:=∀ρ σ S H (Q:VK) d,Rl K ρ σ S H->e ρ=some d->(∀v S' H',Ext S H S' H'->Den K H' d v->Q v H')->t σ H Q
def pL(s:Same S H)(h:DenP K S H d v):Den K H d v:=by
 rcases h with h|⟨l,p,xs,rfl,rfl,h1,h2⟩
 ·exact h.mono s
 ·exact Zs.2 ⟨p,xs,rfl,.inl h1,h2.mono s⟩
def SPk.q{t:TE}{e:XE}(h:SPk K t e):SQ K t e:=λρ σ S H Q d r x k=>h ρ σ S H Q d r x λv S' H' z dv=>k v S' H' z (pL z.sub dv)
def Hv:Sl->Zd
 |.sh d=>some d
 |.ow o=>some o.d
 |_=>none
@[simp]def OO(d:D):Hv (.sh d)=some d:=rfl
@[simp]def OM(o:O):Hv (.ow o)=some o.d:=rfl
@[simp]def IQ(i:Nat):XE:=λρ=>(ρ[i]?).bind Hv
def HS(i:Nat):SQ K (j4 i) (IQ i):=λρ σ S H Q d r x k=>by
 obtain⟨s,q,x⟩:=ZM x;cases s with
 |un|lo=>cases x
 |sh d'=>
  cases x;obtain⟨v,h1,h2⟩:=r.sh i _ q;exact⟨v,h1,k v S H (Ext.refl r.sub) (h2.mono r.sub)⟩
 |ow o=>cases x;obtain⟨v,fp,h1,h2,h3,h4⟩:=r.ow i _ q;exact⟨_,h1,k _ S H (Ext.refl r.sub) (h2.denH r.sub)⟩
@[simp]def xC(d:D):XE:=λ_=>some d
def sF:D->Option V
 |.non=>some .non|.bl b=>some (.bl b)|.int i=>some (.int i)|.str x=>some (.str x)|.ty x=>some (.ty x)|_=>none
def qZ{v:V}(h:sF d=some v):Den K S d v:=by cases d<;>simp[sF] at h<;>subst h<;>unfold Den<;>rfl
def aJ{v:V} (h:sF d=some v):SE K (tC v) (xC d):=λρ σ S H Q e r x k=>by cases x;exact k v S H (Ext.refl r.sub) (qZ h)
@[simp]def RG(e:XE):XE:=λρ=>(e ρ).bind λd=>if (sF d).isSome then some d else none
def Jz{w:V}(h:sF d=some w)(k:Den K S d v):v=w:=by cases d<;>simp[sF] at h<;>subst h<;>unfold Den at k<;>exact k
def SQ.fl(h:SQ K t e):SE K t (RG e):=λρ σ S H Q d r x k=>by
 unfold RG at x;cases q:e ρ with
 |none=>rw[q] at x;cases x
 |some d'=>
  rw[q] at x;dsimp only[Option.bind] at x;split at x
  ·rename_i hf;cases x;obtain⟨w,hw⟩:=YE.1 hf;refine h ρ σ S H Q d r q λv S' H' z dv=>k v S' H' z ?_;rw[Jz hw dv];exact qZ hw
  ·cases x
@[simp]def aO(f:D->D->Zd)(a b:XE):XE:=λρ=>(a ρ).bind λx=>(b ρ).bind λy=>f x y
def w6(K:Zj)(r:R2)(f:D->D->Zd):Prop:=∀S H x y d e g (Q:VK),Same S H->DenP K S H d x->DenP K S H e y->f d e=some g->(∀v S' H',Ext S H S' H'->Den K S' g v->Q v H')->r x y H Q
def aI{ta tb:TE} (hr:w6 K r f)(ha:SPk K ta a)(hb:SPk K tb b):SE K (FP r ta tb) (aO f a b):=λρ σ S H Q d r x k=>by obtain⟨da,qa,x⟩:=ZM x;obtain⟨db,qb,x⟩:=ZM x;refine ha ρ σ S H _ da r qa λv S1 H1 z1 d1=>?_;have r1:=r.ext z1;refine hb ρ σ S1 H1 _ db r1 qb λw S2 H2 z2 d2=>?_;exact hr S2 H2 v w da db d Q z2.sub (d1.mono z2 r1.sub) d2 x λu S3 H3 z3 d3=>k u S3 H3 ((z1.trans z2).trans z3) d3
def Jx{S2:Hp}(s:Same S H)(z:Ext H H S3 H3):Ext S H S H3:=⟨Same.refl _,λb u e=>z.sub b u (z.sh b u (s b u e)),λb o h n=>⟨z.sub b o (z.sh b o h),.inl n⟩⟩
def LF{ta tb:TE} (hr:w6 K r f)(ha:SQ K ta a)(hb:SQ K tb b):SQ K (FP r ta tb) (aO f a b):=λρ σ S H Q d r x k=>by obtain⟨da,qa,x⟩:=ZM x;obtain⟨db,qb,x⟩:=ZM x;refine ha ρ σ S H _ da r qa λv S1 H1 z1 d1=>?_;have r1:=r.ext z1;refine hb ρ σ S1 H1 _ db r1 qb λw S2 H2 z2 d2=>?_;exact hr H2 H2 v w da db d Q (Same.refl _) (.inl (d1.mono (z2.same r1.sub))) (.inl d2) x λu S3 H3 z3 d3=>k u S2 H3 ((z1.trans z2).trans (Jx (S2:=S2) z2.sub z3)) (d3.mono z3.sub)
@[simp]def K2(f:D->Zd)(a:XE):XE:=λρ=>(a ρ).bind f
def R6(K:Zj)(r:V->Hp->VK->Prop)(f:D->Zd):Prop:=∀S H x d g (Q:VK),Same S H->DenP K S H d x->f d=some g->(∀v S' H',Ext S H S' H'->Den K S' g v->Q v H')->r x H Q
def Bs{ta:TE} (hr:R6 K r f)(ha:SPk K ta a):SE K (So r ta) (K2 f a):=λρ σ S H Q d r x k=>by obtain⟨da,qa,x⟩:=ZM x;refine ha ρ σ S H _ da r qa λv S1 H1 z1 d1=>?_;exact hr S1 H1 v da d Q z1.sub d1 x λu S3 H3 z3 d3=>k u S3 H3 (z1.trans z3) d3
@[simp]def az:XA:=λ_=>some []
@[simp]def af(a:XE)(b:XA):XA:=λρ=>(a ρ).bind λx=>(b ρ).bind λy=>some (x::y)
def ay:SA K eV az:=λρ σ S H Q ds r x k=>by cases x;exact k [] S H (Ext.refl r.sub) .nil
def bP:N6 K eV az:=λρ σ S H Q ds r x k=>by cases x;exact k [] S H (Ext.refl r.sub) .nil
def wW{ds:Zc}(x:af a b ρ=some ds):∃d r,a ρ=some d/\b ρ=some r/\ds=d::r:=by
 unfold af at x;cases qa:a ρ with
 |none=>rw[qa] at x;cases x
 |some da=>
  rw[qa] at x;dsimp only[Option.bind] at x;cases qb:b ρ with
  |none=>rw[qb] at x;cases x
  |some db=>rw[qb] at x;cases x;exact⟨_,_,rfl,rfl,rfl⟩
def ah{ta:TE} (ha:SE K ta a)(hb:SA K tr b):SA K (cj ta tr) (af a b):=λρ σ S H Q ds r x k=>by obtain⟨da,db,qa,qb,rfl⟩:=wW x;refine ha ρ σ S H _ da r qa λv S1 H1 z1 d1=>hb ρ σ S1 H1 _ db (r.ext z1) qb λvs S2 H2 z2 d2=>k _ S2 H2 (z1.trans z2) (.cons (d1.mono z2.sh) d2)
def bc{ta:TE} (ha:SPk K ta a)(hb:N6 K tr b):N6 K (cj ta tr) (af a b):=λρ σ S H Q ds r x k=>by obtain⟨da,db,qa,qb,rfl⟩:=wW x;refine ha ρ σ S H _ da r qa λv S1 H1 z1 d1=>hb ρ σ S1 H1 _ db (r.ext z1) qb λvs S2 H2 z2 d2=>k _ S2 H2 (z1.trans z2) (.cons (d1.mono z2 (r.ext z1).sub) d2)
@[irreducible] def gA:Nat:=1000000
def gJ:gA<sizeLine:=by rw[UF];unfold gA;decide
@[simp]def qJ(a:XA):XE:=λρ=>(a ρ).bind λl=>if l.length<=gA then some (.tup l) else none
def lw(h:SA K t a):SE K (FH t) (qJ a):=λρ σ S H Q d r x k=>by
 obtain⟨l,q,x⟩:=ZM x;split at x
 ·rename_i hl;cases x;refine h ρ σ S H _ l r q λvs S1 H1 z1 d1=>⟨?_,λp hp=>?_⟩
  ·rw[<-d1.length];exact U1 (Vd hl gJ)
  ·have z2:=Ext.new (o:=.tup vs) z1.sub hp;exact k _ _ _ (z1.trans z2) (Zx.2 ⟨p,vs,rfl,TpA.of aG,d1.mono z2.sh⟩)
 ·cases x
@[simp]def bR(a:XA):XA:=λρ=>(a ρ).bind λl=>if l.length<=gA then some l else none
def cS(h:SA K t a):SF K (C5 t) (bR a):=λρ σ S H Q l r x k=>by
 obtain⟨l,q,x⟩:=ZM x;split at x
 ·rename_i hl;cases x;refine h ρ σ S H _ l r q λvs S1 H1 z1 d1=>⟨?_,λp hp=>?_⟩
  ·rw[<-d1.length];exact U1 (Vd hl gJ)
  ·have hp0:H p=none:=(z1.same r.sub).free hp;exact k p vs S1 _ (z1.trans (Ext.own z1.sub hp)) hp0 (z1.sub.free hp) aG d1
 ·cases x
@[simp]def qI(f:Zb)(a:XA):XE:=λρ=>(a ρ).bind f
def FV(K:Zj)(r:Za->Hp->VK->Prop)(f:Zb):Prop:=∀S H vs ds g (Q:VK),Same S H->ZK K S H ds vs->f ds=some g->(∀v S' H',Ext S H S' H'->Den K S' g v->Q v H')->r vs H Q
def gM(hr:FV K r f)(h:N6 K t a):SE K (NR r t) (qI f a):=λρ σ S H Q d rl x k=>by obtain⟨ds,q,x⟩:=ZM x;refine h ρ σ S H _ ds rl q λvs S1 H1 z1 d1=>?_;exact hr S1 H1 vs ds d Q z1.sub d1 x λv S2 H2 z2 d2=>k v S2 H2 (z1.trans z2) d2
@[simp]def FM(f:Zc->Option (Zc))(a:XA):XA:=λρ=>(a ρ).bind f
def QF(K:Zj)(r:Za->Hp->VK->Prop)(f:Zc->Option (Zc)):Prop:=∀S H vs ds g (Q:VK),Same S H->ZK K S H ds vs->f ds=some g->(∀a xs H',Ext S H S H'->H a=none->H' a=some (.lst xs)->Dens K S g xs->Q (.ref a) H')->r vs H Q
def Bq(hr:QF K r f)(h:N6 K t a):SF K (NR r t) (FM f a):=λρ σ S H Q d rl x k=>by obtain⟨ds,q,x⟩:=ZM x;refine h ρ σ S H _ ds rl q λvs S1 H1 z1 d1=>?_;exact hr S1 H1 vs ds d Q z1.sub d1 x λb xs H2 z2 h1 h2 d2=>k b xs S1 H2 (z1.trans z2) ((z1.same rl.sub).free h1) (z1.sub.free h1) h2 d2
def STr(K:Zj)(t:TE)(e:Env->Option O):Prop:=∀ρ σ S H (Q:VK) o,Rl K ρ σ S H->e ρ=some o->(∀v fp S' H',Ext S H S' H'->Own K S' H' o v fp->fp.Nodup->(∀b∈fp,H b=none/\S' b=none)->Q v H')->t σ H Q
@[simp]def Qp(e:XA):Env->Option O:=λρ=>(e ρ).map λl=>.lst (l.map .sh)
def SF.t{t:TE}{e:XA}(h:SF K t e):STr K t (Qp e):=λρ σ S H Q o r x k=>by
 unfold Qp at x;cases q:e ρ with
 |none=>rw[q] at x;cases x
 |some l=>rw[q] at x;cases x;refine h ρ σ S H Q l r q λa xs S' H' z h1 h2 h3 h4=>?_;refine k _ [a] S' H' z (Zy.2 ⟨a,xs,[],rfl,rfl,h3,uU h4⟩) (by simp) λb hb=>?_;rw[UV.1 hb];exact⟨h1,h2⟩
@[simp]def NH(e:XE):Env->Option O:=λρ=>(e ρ).map .sh
def SE.t{t:TE}{e:XE}(h:SE K t e):STr K t (NH e):=λρ σ S H Q o r x k=>by
 unfold NH at x;cases q:e ρ with
 |none=>rw[q] at x;cases x
 |some d=>rw[q] at x;cases x;exact h ρ σ S H Q d r q λv S' H' z dv=>k v [] S' H' z (ZD.2 ⟨rfl,dv⟩) .nil λb hb=>by cases hb
def xi(S H:Hp)(fp:Zk):Hp:=λb=>if b∈fp then H b else S b
def rk{fp:Zk}{b:Addr}(h:b∈fp):xi S H fp b=H b:=by unfold xi;rw[Uv h]
def nk{fp:Zk}{b:Addr}(h:b∉fp):xi S H fp b=S b:=by unfold xi;rw[Uu h]
def ll{fp:Zk}(n:∀b∈fp,S b=none):Same S (xi S H fp):=λb o e=>by rw[nk λhb=>by rw[n b hb] at e;cases e];exact e
def Az{fp:Zk}(s:Same S H):Same (xi S H fp) H:=λb o e=>by
 by_cases hb:b∈fp
 ·rw[rk hb] at e;exact e
 ·rw[nk hb] at e;exact s b o e
def vQ{fp:Zk}(z:Ext S H S' H')(n:∀b∈fp,H b=none/\S' b=none):Ext S H (xi S' H' fp) H':=
 ⟨z.sh.trans (ll λb hb=>(n b hb).2),Az z.sub,λb o h hn=>⟨(z.alw b o h hn).1,by rw[nk λhb=>by rw[(n b hb).1] at h;cases h];exact (z.alw b o h hn).2⟩⟩
@[simp]def RK(e:Env->Option O):XE:=λρ=>(e ρ).map O.d
def STr.e{t:TE}{e:Env->Option O}(h:STr K t e):SE K t (RK e):=λρ σ S H Q d r x k=>by
 unfold RK at x;cases q:e ρ with
 |none=>rw[q] at x;cases x
 |some o=>rw[q] at x;cases x;exact h ρ σ S H Q o r q λv fp S' H' z ow nd n=>k v _ H' (vQ z n) (ow.den (ll λb hb=>(n b hb).2) λb hb=>rk hb)
def fh(K:Zj)(n:Nat)(m:Zc->Option O):Sp:=λvs H Q _=>vs.length=n/\∃S ds o,Same S H/\Dens K S ds vs/\m ds=some o/\∀v fp S' H',Ext S H S' H'->Own K S' H' o v fp->fp.Nodup->(∀b∈fp,H b=none/\S' b=none)->Q v H'
@[simp]def IH(m:Zc->Option O)(a:XA):Env->Option O:=λρ=>(a ρ).bind m
def Kt{n:Nat} (h:SA K t a)(hn:∀ρ ds,a ρ=some ds->ds.length=n):STr K (yx (fh K n m) [] E t) (IH m a):=λρ σ S H Q o rl x k=>by obtain⟨ds,q,x⟩:=ZM x;refine h ρ σ S H _ ds rl q λvs S1 H1 z1 d1=>?_;rw[Vb];refine⟨by rw[<-d1.length];exact hn ρ ds q,S1,ds,o,z1.sub,d1,x,λv fp S2 H2 z2 ow nd n=>k v fp S2 H2 (z1.trans z2) ow nd λb hb=>⟨(z1.same rl.sub).free (n b hb).1,(n b hb).2⟩⟩
@[simp]def aU(m:Zb)(a:XA):XE:=λρ=>(a ρ).bind m
def a8{n:Nat} (h:SA K t a)(hn:∀ρ ds,a ρ=some ds->ds.length=n):SE K (yx (fh K n m) [] E t) (aU (λds=>(m ds).map O.d) a):=by
 have:=(Kt (m:=m) (E:=E) h hn).e;have e:RK (IH m a)=aU (λds=>(m ds).map O.d) a:=by
  funext ρ
  show ((a ρ).bind m).map O.d=(a ρ).bind λds=>(m ds).map O.d;cases a ρ<;>rfl
 rw[e] at this;exact this
@[simp]def RC(m:Zb)(a:XA):XE:=λρ=>((a ρ).bind m).bind λd=>if (sF d).isSome then some d else none
def N7(K:Zj)(t:TA)(e:Env->Option (List O)):Prop:=∀ρ σ S H (Q:Za->Hp->Prop) os,Rl K ρ σ S H->e ρ=some os->(∀vs fp S' H',Ext S H S' H'->Owns K S' H' os vs fp->fp.Nodup->(∀b∈fp,H b=none/\S' b=none)->Q vs H')->t σ H Q
@[simp]def IJ:Env->Option (List O):=λ_=>some []
@[simp]def Db(a:Env->Option O)(b:Env->Option (List O)):Env->Option (List O):=λρ=>(a ρ).bind λx=>(b ρ).bind λy=>some (x::y)
def Ib:N7 K eV IJ:=λρ σ S H Q ds r x k=>by cases x;exact k [] [] S H (Ext.refl r.sub) .nil .nil λ_ hb=>by cases hb
def Ed{ta:TE} (ha:STr K ta a)(hb:N7 K tr b):N7 K (cj ta tr) (Db a b):=λρ σ S H Q os r x k=>by
 obtain⟨oa,qa,x⟩:=ZM x;obtain⟨ob,qb,x⟩:=ZM x;cases x;refine ha ρ σ S H _ oa r qa λv fp S1 H1 z1 o1 nd1 n1=>hb ρ σ S1 H1 _ ob (r.ext z1) qb λvs fq S2 H2 z2 o2 nd2 n2=>?_;obtain⟨k1,k2⟩:=z2.keeps (λb hb=>(n1 b hb).2) o1.there o1.nit;refine k _ _ S2 H2 (z1.trans z2) (.cons (o1.mono z2.sh k1) o2) ?_ λc hc=>?_
 ·refine V3.2 ⟨nd1,nd2,λc hc d hd e=>?_⟩;subst e;exact o1.there c hc (n2 c hd).1
 ·rcases U7.1 hc with hc|hc
  ·exact⟨(n1 c hc).1,k2 c hc⟩
  ·exact⟨(z1.same r.sub).free (n2 c hc).1,(n2 c hc).2⟩
@[simp]def lq:List O->Bool
 |[]=>true
 |.sh (.int _)::l=>lq l
 |.hd _ _ _::l=>lq l
 |_::_=>false
@[simp]def LP(a:Env->Option (List O)):Env->Option O:=λρ=>(a ρ).bind λl=>if l.length<=gA/\lq l=false then some (.tup l) else none
def Ca{d:D}{k:Int}(h:Den K S d (.int k)):d=.int k:=by cases d<;>unfold Den at h<;>first|(cases h;rfl)|(cases h;done)|(obtain⟨_,h,_⟩:=h;cases h;done)|(obtain⟨_,_,h,_⟩:=h;cases h;done)|(obtain⟨_,_,_,h,_⟩:=h;cases h;done)|(obtain⟨_,_,_,_,h,_⟩:=h;cases h;done)
theorem A1:∀ {l:List O} {xs:Za} {fp:Zk} {ks:Zn},Owns K S H l xs fp->xs=ks.map V.int->lq l=true
 |[],_,_,_,_,_=>rfl
 |o::l,_,_,ks,h,e=>by
  obtain⟨y,ys,f,g,rfl,rfl,a,b⟩:=h.cons_of;cases ks with
  |nil=>cases e
  |cons k ks=>
   rw[UG] at e;cases e;have ih:=A1 b rfl;cases o with
   |sh d=>
    obtain⟨_,d1⟩:=ZD.1 a;have:d=.int k:=Ca d1;subst this;unfold lq;exact ih
   |lst _=>obtain⟨_,_,_,e,_⟩:=Zy.1 a;cases e
   |tup _=>obtain⟨_,_,_,e,_⟩:=ZC.1 a;cases e
   |dic _=>obtain⟨_,e,_⟩:=ZF.1 a;cases e
   |hd p q os=>unfold lq;exact ih
@[simp]def LM(a:Env->Option (List O)):Env->Option O:=λρ=>(a ρ).bind λl=>if l.length<=gA then some (.lst l) else none
def yB{fp:Zk} (h:H p=none)(t:∀b∈fp,H b≠none):(∀b∈fp,upd H p o b=H b)/\p∉fp:=by have np:p∉fp:=λhp=>t p hp h;exact⟨λb hb=>aL λe=>np (e▸hb),np⟩
def Nm(h:N7 K t a):STr K (FH t) (LP a):=λρ σ S H Q o r x k=>by
 obtain⟨l,q,x⟩:=ZM x;split at x
 ·rename_i hlc;obtain⟨hl,hc⟩:=hlc;cases x;refine h ρ σ S H _ l r q λvs fp S1 H1 z1 o1 nd1 n1=>⟨?_,λp hp=>?_⟩
  ·rw[<-o1.length];exact U1 (Vd hl gJ)
  ·obtain⟨k1,k2⟩:=yB (o:=.tup vs) hp o1.there;have nit:¬IT (.tup vs):=λhpt0=>by
    obtain⟨ks,e⟩:=hpt0;cases e;rw[A1 o1 rfl] at hc;cases hc
   refine k _ (p::fp) S1 _ (z1.trans (Ext.own z1.sub hp)) (ZC.2 ⟨p,vs,fp,rfl,rfl,⟨aG,nit⟩,o1.mono (Same.refl _) k1⟩) (Vk.2 ⟨k2,nd1⟩) λb hb=>?_;rcases UC.1 hb with rfl|hb
   ·exact⟨(z1.same r.sub).free hp,z1.sub.free hp⟩
   ·exact n1 b hb
 ·cases x
def Nf(h:N7 K t a):STr K (C5 t) (LM a):=λρ σ S H Q o r x k=>by
 obtain⟨l,q,x⟩:=ZM x;split at x
 ·rename_i hl;cases x;refine h ρ σ S H _ l r q λvs fp S1 H1 z1 o1 nd1 n1=>⟨?_,λp hp=>?_⟩
  ·rw[<-o1.length];exact U1 (Vd hl gJ)
  ·obtain⟨k1,k2⟩:=yB (o:=.lst vs) hp o1.there;refine k _ (p::fp) S1 _ (z1.trans (Ext.own z1.sub hp)) (Zy.2 ⟨p,vs,fp,rfl,rfl,aG,o1.mono (Same.refl _) k1⟩) (Vk.2 ⟨k2,nd1⟩) λb hb=>?_;rcases UC.1 hb with rfl|hb
   ·exact⟨(z1.same r.sub).free hp,z1.sub.free hp⟩
   ·exact n1 b hb
 ·cases x
def aA{ds:Zc}(h:az ρ=some ds):ds.length=0:=by cases h;rfl
def ao{b:XA}{n:Nat}(h:∀ρ ds,b ρ=some ds->ds.length=n)(ρ:Env)(ds:Zc)(x:af a b ρ=some ds):ds.length=n+1:=by obtain⟨da,db,qa,qb,rfl⟩:=wW x;rw[UI,h ρ db qb]
@[simp]def LK(a b:XE):XE:=λρ=>(a ρ).bind λx=>match x with|.bl true=>b ρ|.bl false=>some (.bl false)|_=>none
@[simp]def Uq(a b:XE):XE:=λρ=>(a ρ).bind λx=>match x with|.bl true=>some (.bl true)|.bl false=>b ρ|_=>none
@[simp]def Tg(a:XE):XE:=λρ=>(a ρ).bind λx=>match x with|.bl c=>some (.bl (!c))|_=>none
def Nb{ta tb:TE} (ha:SPk K ta a)(hb:SE K tb b):SE K (Ii ta tb) (LK a b):=λρ σ S H Q d r x k=>by
 obtain⟨da,qa,x⟩:=ZM x;refine ha ρ σ S H _ da r qa λv S1 H1 z1 d1=>?_;split at x
 ·exact⟨true,d1.bl,oP (hb ρ σ S1 H1 Q d (r.ext z1) x λw S2 H2 z2 d2=>k w S2 H2 (z1.trans z2) d2)⟩
 ·cases x;exact⟨false,d1.bl,rA (k _ S1 H1 z1 (Zu.2 rfl))⟩
 ·cases x
@[simp]def ND(c:XT)(a b:XE):XE:=λρ=>(c ρ).bind λq=>if q=true then a ρ else b ρ
def LC{tc:TT}{ta tb:TE} (hc:ST K tc c)(ha:SE K ta a)(hb:SE K tb b):SE K (Sn tc ta tb) (ND c a b):=λρ σ S H Q d r x k=>by
 obtain⟨q,qc,x⟩:=ZM x;refine hc ρ σ S H _ q r qc λS1 H1 z1=>?_;cases q with
 |true=>exact oP (ha ρ σ S1 H1 Q d (r.ext z1) (by simpa using x) λw S2 H2 z2 d2=>k w S2 H2 (z1.trans z2) d2)
 |false=>exact rA (hb ρ σ S1 H1 Q d (r.ext z1) (by simpa using x) λw S2 H2 z2 d2=>k w S2 H2 (z1.trans z2) d2)
@[simp]def xB(a:XE):XT:=λρ=>(a ρ).bind λx=>match x with|.bl c=>some c|_=>none
def T8{ta:TE} (ha:SPk K ta a):ST K (tB ta) (xB a):=λρ σ S H Q b r x k=>by
 obtain⟨da,qa,x⟩:=ZM x;refine ha ρ σ S H _ da r qa λv S1 H1 z1 d1=>?_;split at x
 ·cases x;exact⟨_,d1.bl,k S1 H1 z1⟩
 ·cases x
def aS{ta:TE} (ha:SPk K ta a):ST K (En ta) (xB a):=T8 ha
def BE:D->Option Bool
 |.non=>some false
 |.bl b=>some b
 |.int i=>some (i != 0)
 |.str y=>if y.length<=gA then some ((y.length:Int) != 0) else none
 |.lst l=>some (!l.isEmpty)
 |.tup l=>some (!l.isEmpty)
 |.scr l=>some (!l.isEmpty)
 |_=>none
def pM{ds:Zc}{xs:Za}(h:Dens K S ds xs):(!ds.isEmpty) = !xs.isEmpty:=by have:=h.length;cases ds<;>cases xs<;>simp_all
@[simp]def iR(a:XE):XT:=λρ=>(a ρ).bind BE
def Iv{b:Bool}(s:Same S H)(h:DenP K S H d v)(x:BE d=some b):FX K v H b:=by
 cases d with
 |non=>rw[h.non];cases x;rfl
 |bl c=>rw[h.bl];cases x;rfl
 |int i=>rw[h.int];cases x;rfl
 |str y=>
  rw[h.str];have x':(if y.length<=gA then some ((y.length:Int) != 0) else none)=some b:=x;split at x'
  ·rename_i hl;cases x';exact⟨U1 (Vd hl gJ),rfl⟩
  ·cases x'
 |lst l=>
  obtain⟨p,xs,rfl,h1,h2⟩:=h.lst s;cases x;exact .inl ⟨xs,.inl h1,pM h2⟩
 |tup l=>
  obtain⟨p,xs,rfl,h1,h2⟩:=h.tup s;cases x;exact .inr (.inl ⟨xs,h1,pM h2⟩)
 |scr l=>
  obtain⟨p,xs,rfl,h1,h2⟩:=h.scr s;cases x;exact .inl ⟨xs,h1,pM h2⟩
 |_=>cases x
end
section
variable {K:Zj}{S S' H H':Hp}
def Pk{ta:TE} (ha:SPk K ta a):ST K (λσ H Q=>ta σ H λx H'=>∃k,FX K x H' k/\Q k H') (iR a):=λρ σ S H Q b r x k=>by obtain⟨da,qa,x⟩:=ZM x;exact ha ρ σ S H _ da r qa λv S1 H1 z1 d1=>⟨b,Iv z1.sub d1 x,k S1 H1 z1⟩
@[simp]def sk(a b:XT):XT:=λρ=>(a ρ).bind λx=>if x=true then b ρ else some false
@[simp]def NG(a b:XT):XT:=λρ=>(a ρ).bind λx=>if x=true then some true else b ρ
@[simp]def lF(a:XT):XT:=λρ=>(a ρ).map λx=>!x
def wB{ta tb:TT} (ha:ST K ta a)(hb:ST K tb b):ST K (Pq ta tb) (sk a b):=λρ σ S H Q d r x k=>by
 obtain⟨q,qa,x⟩:=ZM x;refine ha ρ σ S H _ q r qa λS1 H1 z1=>?_;cases q with
 |true=>exact oP (hb ρ σ S1 H1 Q d (r.ext z1) (by simpa using x) λS2 H2 z2=>k S2 H2 (z1.trans z2))
 |false=>
  have:d=false:=by simpa using x.symm
  subst this;exact rA (k S1 H1 z1)
def Fx{ta tb:TT} (ha:ST K ta a)(hb:ST K tb b):ST K (Q2 ta tb) (NG a b):=λρ σ S H Q d r x k=>by
 obtain⟨q,qa,x⟩:=ZM x;refine ha ρ σ S H _ q r qa λS1 H1 z1=>?_;cases q with
 |false=>exact rA (hb ρ σ S1 H1 Q d (r.ext z1) (by simpa using x) λS2 H2 z2=>k S2 H2 (z1.trans z2))
 |true=>
  have:d=true:=by simpa using x.symm
  subst this;exact oP (k S1 H1 z1)
def iU{ta:TT} (ha:ST K ta a):ST K (Pu ta) (lF a):=λρ σ S H Q d r x k=>by
 unfold lF at x;cases qa:a ρ with
 |none=>rw[qa] at x;cases x
 |some q=>rw[qa] at x;cases x;exact ha ρ σ S H _ q r qa k
inductive Out where
 |nx (ρ:Env)|rt (d:D)|ro (o:O)|bk (ρ:Env)|ct (ρ:Env)
abbrev XS:=Env->Option Out
def Done(K:Zj)(A:Hp)(Λ:Nat->Option Addr)(S:Hp)(E:Ends):Out->Prop
 |.nx ρ=>∀σ' S' H',RlA K A Λ ρ σ' S' H'->Same S S'->E.nx σ' H'
 |.bk ρ=>∀σ' S' H',RlA K A Λ ρ σ' S' H'->Same S S'->E.bk σ' H'
 |.ct ρ=>∀σ' S' H',RlA K A Λ ρ σ' S' H'->Same S S'->E.ct σ' H'
 |.rt d=>∀v S' H',Same S S'->Same S' H'->Same A H'->(∀b,S' b=none\/A b=none\/∃u,A b=some u/\IT u)->Den K S' d v->E.rt v H'
 |.ro o=>∀v fp S' H',Same S S'->Same S' H'->Same A H'->(∀b,S' b=none\/A b=none\/∃u,A b=some u/\IT u)->Own K S' H' o v fp->fp.Nodup->(∀b∈fp,S' b=none/\A b=none)->E.rt v H'
def Done.mono(s:Same S S')(h:Done K A Λ S E o):Done K A Λ S' E o:=by
 cases o with
 |nx ρ=>exact λσ1 S1 H1 r z=>h σ1 S1 H1 r (s.trans z)
 |bk ρ=>exact λσ1 S1 H1 r z=>h σ1 S1 H1 r (s.trans z)
 |ct ρ=>exact λσ1 S1 H1 r z=>h σ1 S1 H1 r (s.trans z)
 |rt d=>exact λv S1 H1 z=>h v S1 H1 (s.trans z)
 |ro d=>exact λv fp S1 H1 z=>h v fp S1 H1 (s.trans z)
def SS(K:Zj)(t:TS)(m:XS):Prop:=∀A Λ ρ σ S H (E:Ends) o,RlA K A Λ ρ σ S H->m ρ=some o->Done K A Λ S E o->t E σ H
@[simp]def bS:XS:=λρ=>some (.nx ρ)
def bJ:SS K BD bS:=λA Λ ρ σ S H E o r x k=>by cases x;exact k σ S H r (Same.refl _)
@[simp]def RB:XS:=λρ=>some (.bk ρ)
@[simp]def SW:XS:=λρ=>some (.ct ρ)
@[simp]def du:XS:=λ_=>none
def cF:SS K t du:=λA Λ ρ σ S H E o r x k=>by cases x
@[simp]def bn(m n:XS):XS:=λρ=>match m ρ with|some (.nx ρ')=>n ρ' | o=>o
def bi(ht:SS K t m)(hu:SS K u n):SS K (C8 t u) (bn m n):=λA Λ ρ σ S H E o r x k=>by
 unfold bn at x;cases q:m ρ with
 |none=>rw[q] at x;cases x
 |some om=>
  rw[q] at x;refine ht A Λ ρ σ S H _ om r q ?_;cases om with
  |nx ρ'=>exact λσ' S' H' r' z=>hu A Λ ρ' σ' S' H' E o r' x (k.mono z)
  |rt d=>cases x;exact k
  |ro d=>cases x;exact k
  |bk d=>cases x;exact k
  |ct d=>cases x;exact k
@[simp]def bW(e:XE):XS:=λρ=>(e ρ).map .rt
def bI{te:TE} (h:SE K te e):SS K (FG te) (bW e):=λA Λ ρ σ S H E o r x k=>by
 unfold bW at x;cases q:e ρ with
 |none=>rw[q] at x;cases x
 |some d=>rw[q] at x;cases x;refine h ρ σ S H _ d r.toRl q λv S1 H1 z1 d1=>?_;have r1:=r.ext z1;exact k v S1 H1 z1.sh z1.sub r1.asub r1.adis d1
@[simp]def IK(e:Env->Option O):XS:=λρ=>(e ρ).map .ro
def Ng{te:TE} (h:STr K te e):SS K (FG te) (IK e):=λA Λ ρ σ S H E o r x k=>by
 unfold IK at x;cases q:e ρ with
 |none=>rw[q] at x;cases x
 |some ot=>rw[q] at x;cases x;refine h ρ σ S H _ ot r.toRl q λv fp S1 H1 z1 o1 nd n=>?_;have r1:=r.ext z1;exact k v fp S1 H1 z1.sh z1.sub r1.asub r1.adis o1 nd λb hb=>⟨(n b hb).2,r.asub.free (n b hb).1⟩
@[simp]def IL(i:Nat):XS:=λρ=>match ρ[i]? with|some (.sh d)=>some (.rt d)|some (.ow o)=>some (.ro o)|_=>none
def Nh(i:Nat):SS K (FG (j4 i)) (IL i):=λA Λ ρ σ S H E o r x k=>by
 unfold IL at x;cases q:ρ[i]? with
 |none=>rw[q] at x;cases x
 |some s=>
  rw[q] at x;obtain⟨Φ,f⟩:=r;cases s with
  |un|lo=>cases x
  |sh d=>
   cases x;obtain⟨v,h1,h2⟩:=f.sh i d q;exact⟨v,h1,k v S H (Same.refl _) f.sub f.asub f.adis h2⟩
  |ow ot=>cases x;obtain⟨v,h1,h2,h3,h4⟩:=f.ow i ot q;exact⟨v,h1,k v _ S H (Same.refl _) f.sub f.asub f.adis h2 h3 h4⟩
@[simp]def Tl:XS:=λ_=>some (.rt .non)
@[simp]def iW(c:XT)(m n:XS):XS:=λρ=>(c ρ).bind λb=>if b=true then m ρ else n ρ
def dQ{tc:TT} (hc:ST K tc c)(ht:SS K t m)(hu:SS K u n):SS K (KP tc t u) (iW c m n):=λA Λ ρ σ S H E o r x k=>by
 obtain⟨q,qc,x⟩:=ZM x;refine hc ρ σ S H _ q r.toRl qc λS1 H1 z1=>?_;cases q with
 |true=>exact oP (ht A Λ ρ σ S1 H1 E o (r.ext z1) (by simpa using x) (k.mono z1.sh))
 |false=>exact rA (hu A Λ ρ σ S1 H1 E o (r.ext z1) (by simpa using x) (k.mono z1.sh))
def cg{α:Type}{l:List α}{i j:Nat}{x y:α}(h:(l.set i x)[j]?=some y):(i=j/\y=x/\i<l.length)\/(i≠j/\l[j]?=some y):=by
 by_cases hij:i=j
 ·subst hij;have hl:=(UX.1 h).1;rw[U0] at hl;rw[Vs hl] at h;exact .inl ⟨rfl,(U6 h).symm,hl⟩
 ·rw[UQ hij] at h;exact .inr ⟨hij,h⟩
def RlF.set(r:RlF K A Λ Φ ρ σ S H)(i:Nat)(h:Den K S d v):RlF K A Λ Φ (ρ.set i (.sh d)) (σ.set i (some v)) S H where
 len:=by rw[U0,U0];exact r.len
 sub:=r.sub
 sh:=λj e hj=>by
  rcases cg hj with ⟨rfl,e,hl⟩|⟨hij,hj⟩
  ·cases e;exact⟨v,Vs (by rw[r.len];exact hl),h⟩
  ·rw[UQ hij];exact r.sh j e hj
 ow:=λj o hj=>by
  rcases cg hj with ⟨rfl,e,hl⟩|⟨hij,hj⟩
  ·cases e
  ·rw[UQ hij];exact r.ow j o hj
 dj:=λj k o o' hjk h1 h2=>by
  rcases cg h1 with ⟨rfl,e,hl⟩|⟨hij,h1⟩
  ·cases e
  ·rcases cg h2 with ⟨rfl,e,hl⟩|⟨hik,h2⟩
   ·cases e
   ·exact r.dj j k o o' hjk h1 h2
 lo:=λj hj=>by
  rcases cg hj with ⟨rfl,e,hl⟩|⟨hij,hj⟩
  ·cases e
  ·rw[UQ hij];exact r.lo j hj
 asub:=r.asub
 adis:=r.adis
def RlA.set(r:RlA K A Λ ρ σ S H)(i:Nat)(h:Den K S d v):RlA K A Λ (ρ.set i (.sh d)) (σ.set i (some v)) S H:=let ⟨Φ,f⟩:=r;⟨Φ,f.set i h⟩
def RlF.put{fp:Zk}(r:RlF K A Λ Φ ρ σ S H)(i:Nat)(sub:Same S H')(asub:Same A H')(ow:Own K S H' o v fp)(nd:fp.Nodup)(n:∀b∈fp,S b=none/\A b=none)
  (keep:∀(j:Nat) o',j≠i->ρ[j]?=some (.ow o')->∀b∈Φ j,H' b=H b/\b∉fp):RlF K A Λ (λj=>if j=i then fp else Φ j) (ρ.set i (.ow o)) (σ.set i (some v)) S H' where
 len:=by rw[U0,U0];exact r.len
 sub:=sub
 sh:=λj e hj=>by
  rcases cg hj with ⟨rfl,e,hl⟩|⟨hij,hj⟩
  ·cases e
  ·rw[UQ hij];exact r.sh j e hj
 ow:=λj o' hj=>by
  rcases cg hj with ⟨rfl,e,hl⟩|⟨hij,hj⟩
  ·cases e;rw[Uv rfl];exact⟨v,Vs (by rw[r.len];exact hl),ow,nd,n⟩
  ·rw[UQ hij,Uu (UB hij)];obtain⟨w,h1,h2,h3,h4⟩:=r.ow j o' hj;exact⟨w,h1,h2.mono (Same.refl _) λb hb=>(keep j o' (UB hij) hj b hb).1,h3,h4⟩
 dj:=λj k o1 o2 hjk h1 h2 b hb hb2=>by
  rcases cg h1 with ⟨rfl,e,hl⟩|⟨hij,h1⟩
  ·rcases cg h2 with ⟨rfl,e,hl⟩|⟨hik,h2⟩
   ·exact hjk rfl
   ·rw[Uv rfl] at hb;rw[Uu (UB hik)] at hb2;exact (keep k o2 (UB hik) h2 b hb2).2 hb
  ·rcases cg h2 with ⟨rfl,e,hl⟩|⟨hik,h2⟩
   ·rw[Uv rfl] at hb2;rw[Uu (UB hij)] at hb;exact (keep j o1 (UB hij) h1 b hb).2 hb2
   ·rw[Uu (UB hij)] at hb;rw[Uu (UB hik)] at hb2;exact r.dj j k o1 o2 hjk h1 h2 b hb hb2
 lo:=λj hj=>by
  rcases cg hj with ⟨rfl,e,hl⟩|⟨hij,hj⟩
  ·cases e
  ·rw[UQ hij];exact r.lo j hj
 asub:=asub
 adis:=r.adis
def HW{α:Type}{l:List α}{i:Nat}{x:α}(h:l[i]?=some x):l.set i x=l:=by
 apply YS;intro j;by_cases e:i=j
 ·subst e;rw[Vs (UX.1 h).1,h]
 ·rw[UQ e]
def frz(i:Nat)(ρ:Env):Env:=match ρ[i]? with|some (.ow o)=>ρ.set i (.sh o.d)|_=>ρ
def RlA.frz(r:RlA K A Λ ρ σ S H)(i:Nat):∃S',Same S S'/\RlA K A Λ (frz i ρ) σ S' H:=by
 unfold M.frz;cases q:ρ[i]? with
 |none=>exact⟨S,Same.refl _,r⟩
 |some s=>
  cases s with
  |un=>exact⟨S,Same.refl _,r⟩
  |lo=>exact⟨S,Same.refl _,r⟩
  |sh d=>exact⟨S,Same.refl _,r⟩
  |ow o=>
   dsimp only;obtain⟨Φ,f⟩:=r;obtain⟨v,h1,h2,h3,h4⟩:=f.ow i o q;have s2:Same S (xi S H (Φ i)):=ll λb hb=>(h4 b hb).1;have hd:Den K (xi S H (Φ i)) o.d v:=h2.den s2 λb hb=>rk hb;refine⟨_,s2,Φ,?_⟩
   exact {
    len:=by rw[U0];exact f.len
    sub:=Az f.sub
    sh:=λj d hj=>by
     rcases cg hj with ⟨rfl,e,hl⟩|⟨hij,hj⟩
     ·cases e;exact⟨v,h1,hd⟩
     ·obtain⟨w,k1,k2⟩:=f.sh j d hj;exact⟨w,k1,k2.mono s2⟩
    ow:=λj o' hj=>by
     rcases cg hj with ⟨rfl,e,hl⟩|⟨hij,hj⟩
     ·cases e
     ·obtain⟨w,k1,k2,k3,k4⟩:=f.ow j o' hj;exact⟨w,k1,k2.mono s2 λ_ _=>rfl,k3,λb hb=>⟨by rw[nk λhi=>f.dj i j o o' hij q hj b hi hb];exact (k4 b hb).1,(k4 b hb).2⟩⟩
    dj:=λj k o1 o2 hjk g1 g2=>by
     rcases cg g1 with ⟨rfl,e,hl⟩|⟨hij,g1⟩
     ·cases e
     ·rcases cg g2 with ⟨rfl,e,hl⟩|⟨hik,g2⟩
      ·cases e
      ·exact f.dj j k o1 o2 hjk g1 g2
    lo:=λj hj=>by
     rcases cg hj with ⟨rfl,e,hl⟩|⟨hij,hj⟩
     ·cases e
     ·exact f.lo j hj
    asub:=f.asub
    adis:=λb=>by
     by_cases hb:b∈Φ i
     ·exact .inr (.inl (h4 b hb).2)
     ·rw[nk hb];exact f.adis b }
@[simp]def PL(i:Nat)(m:XS):XS:=λρ=>m (frz i ρ)
def Ph(i:Nat)(h:SS K t m):SS K t (PL i m):=λA Λ ρ σ S H E o r x k=>by obtain⟨S',s,r'⟩:=r.frz i;exact h A Λ _ σ S' H E o r' x (k.mono s)
abbrev XG:=D->Env->Option Env
abbrev K6:=Zc->Env->Option Env
def SG(K:Zj)(g:TG)(x:XG):Prop:=∀A Λ ρ σ S H v d (Q:St->Hp->Prop) ρ',RlA K A Λ ρ σ S H->Den K S d v->x d ρ=some ρ'->(∀σ',RlA K A Λ ρ' σ' S H->Q σ' H)->g v σ H Q
def PZ(K:Zj)(g:Je)(x:K6):Prop:=∀A Λ ρ σ S H vs ds (Q:St->Hp->Prop) ρ',RlA K A Λ ρ σ S H->Dens K S ds vs->x ds ρ=some ρ'->(∀σ',RlA K A Λ ρ' σ' S H->Q σ' H)->g vs σ H Q
@[simp]def aE(i:Nat):XG:=λd ρ=>some (ρ.set i (.sh d))
def gz:K6:=λds ρ=>match ds with|[]=>some ρ|_=>none
def bB(x:XG)(y:K6):K6:=λds ρ=>match ds with|d::r=>(x d ρ).bind (y r)|[]=>none
def gX(y:K6):XG:=λd ρ=>match d with|.tup l=>y l ρ|.mtp l=>y l ρ|_=>none
def aK(i:Nat):SG K (dA i) (aE i):=λA Λ ρ σ S H v d Q ρ' r dv x k=>by cases x;exact k _ (r.set i dv)
def iB:PZ K Mw gz:=λA Λ ρ σ S H vs ds Q ρ' r dv x k=>by
 cases ds with
 |nil=>cases x;exact⟨dv.nil_of,k σ r⟩
 |cons _ _=>cases x
def bD(h:SG K g x)(hs:PZ K gs y):PZ K (GJ g gs) (bB x y):=λA Λ ρ σ S H vs ds Q ρ' r dv e k=>by
 cases ds with
 |nil=>cases e
 |cons d ds=>
  obtain⟨v,vs,rfl,h1,h2⟩:=dv.cons_of;have e':(x d ρ).bind (y ds)=some ρ':=e;cases q:x d ρ with
  |none=>rw[q] at e';cases e'
  |some ρ1=>rw[q] at e';exact⟨v,vs,rfl,h A Λ ρ σ S H v d _ ρ1 r h1 q λσ1 r1=>hs A Λ ρ1 σ1 S H vs ds Q ρ' r1 h2 e' k⟩
def DH(y:K6)(n:Nat):Prop:=∀ds ρ ρ',y ds ρ=some ρ'->ds.length=n
def fb:DH gz 0:=λds ρ ρ' e=>by cases ds with|nil=>rfl|cons _ _=>cases e
def bq{n:Nat}(h:DH y n):DH (bB x y) (n+1):=λds ρ ρ' e=>by
 cases ds with
 |nil=>cases e
 |cons d ds=>
  have e':(x d ρ).bind (y ds)=some ρ':=e;cases q:x d ρ with
  |none=>rw[q] at e';cases e'
  |some ρ1=>rw[q] at e';rw[UI,h ds ρ1 ρ' e']
def iC{n:Nat}(hs:PZ K gs y)(hl:DH y n):SG K (Mx K n gs) (gX y):=λA Λ ρ σ S H v d Q ρ' r dv e k=>by
 cases d with
 |tup l=>
  obtain⟨p,xs,rfl,h1,h2⟩:=jC dv;exact⟨p,xs,rfl,bE r.sub h1,by rw[<-h2.length];exact hl l ρ ρ' e,hs A Λ ρ σ S H xs l Q ρ' r h2 e k⟩
 |mtp l=>
  obtain⟨p,xs,rfl,h1,h2⟩:=Zz.1 dv;exact⟨p,xs,rfl,bE r.sub h1,by rw[<-h2.length];exact hl l ρ ρ' e,hs A Λ ρ σ S H xs l Q ρ' r h2 e k⟩
 |_=>cases e
@[simp]def cn(e:XE)(g:XG):XS:=λρ=>(e ρ).bind λd=>(g d ρ).map .nx
def cq{te:TE} (h:SE K te e)(hg:SG K g x):SS K (nX te g) (cn e x):=λA Λ ρ σ S H E o r y k=>by
 obtain⟨d,q,y⟩:=ZM y;cases q2:x d ρ with
 |none=>rw[q2] at y;cases y
 |some ρ'=>rw[q2] at y;cases y;exact h ρ σ S H _ d r.toRl q λv S1 H1 z1 d1=>hg A Λ ρ σ S1 H1 v d _ ρ' (r.ext z1) d1 q2 λσ' r'=>k σ' S1 H1 r' z1.sh
@[simp]def IG(e:Env->Option O)(i:Nat):XS:=λρ=>(e ρ).map λo=>.nx (ρ.set i (.ow o))
def Nc{te:TE} {i:Nat}(h:STr K te e):SS K (nX te (dA i)) (IG e i):=λA Λ ρ σ S H E o r y k=>by
 unfold IG at y;cases q:e ρ with
 |none=>rw[q] at y;cases y
 |some ot=>rw[q] at y;cases y;obtain⟨Φ,f⟩:=r;refine h ρ σ S H _ ot ⟨A,Λ,Φ,f⟩ q λv fp S1 H1 z1 o1 nd n=>?_;have r1:=f.ext z1;refine k _ S1 H1 ⟨_,r1.put (H':=H1) i r1.sub r1.asub o1 nd (λb hb=>⟨(n b hb).2,f.asub.free (n b hb).1⟩) λj o' hj e1 b hb=>⟨rfl,λhf=>?_⟩⟩ z1.sh;obtain⟨w,_,k2,_,_⟩:=f.ow j o' e1;exact k2.there b hb (n b hf).1
@[simp]def gW(e:XA)(i:Nat):XS:=IG (Qp e) i
def jW{te:TE} {i:Nat}(h:SF K te e):SS K (nX te (dA i)) (gW e i):=Nc h.t
def fV:O->Zn->Option O
 |o,[]=>some o
 |.lst l,k::r=>(fS l k).bind λo=>fV o r
 |.tup l,k::r=>(fS l k).bind λo=>fV o r
 |.sh _,_::_=>none
 |.dic _,_::_=>none
 |.hd _ _ _,_::_=>none
def wq(l:List O)(k:Int)(f:O->O):List O:=match DE l.length k with
 |some j=>(match l[j]? with|some o=>l.set j (f o)|none=>l)
 |none=>l
def l6:O->Zn->O->O
 |_,[],q=>q
 |.lst l,k::r,q=>.lst (wq l k λo=>l6 o r q)
 |.tup l,k::r,q=>.tup (wq l k λo=>l6 o r q)
 |.sh d,_::_,_=>.sh d
 |.dic d,_::_,_=>.dic d
 |.hd p d l,_::_,_=>.hd p d l
def WalkV(H:Hp):V->Zn->V->Prop
 |v,[],w=>v=w
 |v,k::r,w=>∃a xs u,v=.ref a/\(H a=some (.lst xs)\/H a=some (.tup xs))/\fS xs k=some u/\WalkV H u r w
theorem WalkV.mono(s:Same H H'):∀ {p:Zn} {v w:V},WalkV H v p w->WalkV H' v p w
 |[],_,_,h=>h
 |_::_,_,_,⟨a,xs,u,e,h,k,m⟩=>⟨a,xs,u,e,h.elim (λz=>.inl (s _ _ z)) (λz=>.inr (s _ _ z)),k,m.mono s⟩
theorem WalkV.uniq:∀ {p:Zn} {v w w':V},WalkV H v p w->WalkV H v p w'->w=w'
 |[],_,_,_,h,k=>h.symm.trans k
 |_::_,_,_,_,hpt0,hpt1=>by
  obtain⟨a,xs,u,e,h,k,m⟩:=hpt0;obtain⟨a',xs',u',e',h',k',m'⟩:=hpt1;rw[e] at e';cases e';have:xs=xs':=by rcases h with h|h<;>rcases h' with h' | h'<;>rw[h] at h'<;>cases h'<;>rfl
  subst this;rw[k] at k';cases k';exact m.uniq m'
theorem WalkV.snoc:∀ {p:Zn} {v w u:V} {k:Int} {a:Addr} {xs:Za},WalkV H v p w->w=.ref a->(H a=some (.lst xs)\/H a=some (.tup xs))->fS xs k=some u->WalkV H v (p++[k]) u
 |[],_,_,u,k,a,xs,h,e,h1,h2=>⟨a,xs,u,h.trans e,h1,h2,rfl⟩
 |_::_,_,_,_,_,_,_,⟨b,ys,u',e,h,k,m⟩,e',h1,h2=>⟨b,ys,u',e,h,k,m.snoc e' h1 h2⟩
theorem tw:∀ {p:Zn} {o q:O} {k:Int},fV o (p++[k])=some q->∃q0,fV o p=some q0/\fV q0 [k]=some q
 |[],o,q,k,h=>⟨o,by unfold fV;rfl,h⟩
 |j::p,o,q,k,h=>by
  cases o with
  |sh d|dic _|hd _ _ _=>cases h
  |lst l=>
   have h':(fS l j).bind (λo=>fV o (p++[k]))=some q:=h;cases e:fS l j with
   |none=>rw[e] at h';cases h'
   |some o1=>
    rw[e] at h';obtain⟨q0,a,b⟩:=tw (p:=p) h';exact⟨q0,by show (fS l j).bind (λo=>fV o p)=some q0;rw[e];exact a,b⟩
  |tup l=>
   have h':(fS l j).bind (λo=>fV o (p++[k]))=some q:=h;cases e:fS l j with
   |none=>rw[e] at h';cases h'
   |some o1=>rw[e] at h';obtain⟨q0,a,b⟩:=tw (p:=p) h';exact⟨q0,by show (fS l j).bind (λo=>fV o p)=some q0;rw[e];exact a,b⟩
theorem Owns.split:∀ {l:List O} {xs:Za} {f:Zk} {j:Nat} {o:O},Owns K S H l xs f->l[j]?=some o->∃x f1 f2 f3,xs[j]?=some x/\f=f1++(f2++f3)/\Own K S H o x f2 /\
  ∀H' o' f2',Own K S H' o' x f2'->(∀b∈f1,H' b=H b)->(∀b∈f3,H' b=H b)->Owns K S H' (l.set j o') xs (f1++(f2'++f3))
 |[],_,_,_,_,_,e=>by simp at e
 |o0::l,_,_,0,o,h,e=>by
  obtain⟨y,ys,f,g,rfl,rfl,a,b⟩:=h.cons_of;simp at e;subst e;exact⟨y,[],f,g,rfl,rfl,a,λH' o' f2' h1 _ h3=>Owns.cons (f:=f2') h1 (b.mono (Same.refl _) h3)⟩
 |o0::l,_,_,j+1,o,h,e=>by obtain⟨y,ys,f,g,rfl,rfl,a,b⟩:=h.cons_of;obtain⟨x,f1,f2,f3,e1,rfl,h1,h2⟩:=b.split (j:=j) (by simpa using e);refine⟨x,f++f1,f2,f3,by simpa using e1,by rw[VF],h1,λH' o' f2' k1 k2 k3=>?_⟩;rw[VF];exact .cons (a.mono (Same.refl _) λb hb=>k2 b (UW _ hb)) (h2 H' o' f2' k1 (λb hb=>k2 b (UE _ hb)) k3)
def BX{α:Type}{l:List α}{k:Int}{x:α}(h:fS l k=some x):∃j,DE l.length k=some j/\l[j]?=some x:=by
 unfold fS at h;cases q:DE l.length k with
 |none=>rw[q] at h;cases h
 |some j=>rw[q] at h;exact⟨j,rfl,h⟩
theorem GI:∀ {p:Zn} {o q:O} {v:V} {fp:Zk},Own K S H o v fp->fp.Nodup->fV o p=some q->∃w fq,Own K S H q w fq/\WalkV H v p w/\(∀b∈fq,b∈fp)/\fq.Nodup /\
  ∀H' q' fq',Own K S H' q' w fq'->fq'.Nodup->(∀b∈fp,b∉fq->H' b=H b)->(∀b∈fq',b∈fp->b∈fq)->∃fp',Own K S H' (l6 o p q') v fp'/\fp'.Nodup/\∀b∈fp',b∈fp\/b∈fq'
 |[],o,q,v,fp,h,nd,e=>by
  have e':some o=some q:=by unfold fV at e;exact e
  cases e';exact⟨v,fp,h,rfl,λb hb=>hb,nd,λH' q' fq' h1 n1 _ _=>⟨fq',by unfold l6;exact h1,n1,λb hb=>.inr hb⟩⟩
 |k::r,o,q,v,fp,h,nd,e=>by
  have body:∀(l:List O) (a:Addr) (xs:Za) (f:Zk),v=.ref a->fp=a::f->(H a=some (.lst xs)\/H a=some (.tup xs))->Owns K S H l xs f->((fS l k).bind λo=>fV o r)=some q ->
    ∃w fq,Own K S H q w fq/\WalkV H v (k::r) w/\(∀b∈fq,b∈fp)/\fq.Nodup/\∀H' q' fq',Own K S H' q' w fq'->fq'.Nodup->(∀b∈fp,b∉fq->H' b=H b)->(∀b∈fq',b∈fp->b∈fq) ->
     ∃f',Owns K S H' (wq l k λo=>l6 o r q') xs f'/\H' a=H a/\(a::f').Nodup/\∀b∈a::f',b∈fp\/b∈fq':=by
   rintro l a xs f rfl rfl ha hl hs;obtain⟨na,nf⟩:=Vk.1 nd;obtain⟨o1,qa,hs⟩:=ZM hs;obtain⟨j,ej,el⟩:=BX qa;obtain⟨x,f1,f2,f3,ex,rfl,h1,h2⟩:=hl.split el;obtain⟨n1,n23,d1⟩:=V3.1 nf;obtain⟨n2,n3,d2⟩:=V3.1 n23;obtain⟨w,fq,k1,k2,k3,k4,k5⟩:=GI (p:=r) h1 n2 hs;have ax:fS xs k=some x:=by unfold fS;rw[<-hl.length,ej];exact ex
   refine⟨w,fq,k1,⟨a,xs,x,rfl,ha,ax,k2⟩,λb hb=>UJ _ (UE _ (UW _ (k3 b hb))),k4,λH' q' fq' g1 g2 g3 g4=>?_⟩;have in2:∀b∈fq,b∈f2:=k3;have a1:∀b∈f1,b∉fq:=λb hb hq=>d1 b hb b (UW _ (in2 b hq)) rfl;have a3:∀b∈f3,b∉fq:=λb hb hq=>d2 b (in2 b hq) b hb rfl;have aa:a∉fq:=λhq=>na (UE _ (UW _ (in2 a hq)));obtain⟨f2',m1,m2,m3⟩:=k5 H' q' fq' g1 g2 (λb hb hn=>g3 b (UJ _ (UE _ (UW _ hb))) hn) λb hb hp=>g4 b hb (UJ _ (UE _ (UW _ hp)));have out:∀b∈f2',b∉f1/\b∉f3/\b≠a:=λb hb=>by
    rcases m3 b hb with hb|hb
    ·exact⟨λz=>d1 b z b (UW _ hb) rfl,λz=>d2 b hb b z rfl,λz=>na (z▸UE _ (UW _ hb))⟩
    ·refine⟨λz=>a1 b z (g4 b hb (UJ _ (UW _ z))),λz=>a3 b z (g4 b hb (UJ _ (UE _ (UE _ z)))),λz=>?_⟩;subst z;exact aa (g4 b hb UL)
   refine⟨f1++(f2'++f3),?_,g3 a UL aa,?_,λb hb=>?_⟩
   ·unfold wq;rw[ej];dsimp only;rw[el];exact h2 H' _ f2' m1 (λb hb=>g3 b (UJ _ (UW _ hb)) (a1 b hb)) λb hb=>g3 b (UJ _ (UE _ (UE _ hb))) (a3 b hb)
   ·refine Vk.2 ⟨λz=>?_,V3.2 ⟨n1,V3.2 ⟨m2,n3,λb hb c hc e=>(out b hb).2.1 (e▸hc)⟩,λb hb c hc e=>?_⟩⟩
    ·rcases U7.1 z with z|z
     ·exact na (UW _ z)
     ·rcases U7.1 z with z|z
      ·exact (out a z).2.2 rfl
      ·exact na (UE _ (UE _ z))
    ·subst e;rcases U7.1 hc with hc|hc
     ·exact (out b hc).1 hb
     ·exact d1 b hb b (UE _ hc) rfl
   ·rcases UC.1 hb with rfl|hb
    ·exact .inl UL
    ·rcases U7.1 hb with hb|hb
     ·exact .inl (UJ _ (UW _ hb))
     ·rcases U7.1 hb with hb|hb
      ·exact (m3 b hb).imp (λz=>UJ _ (UE _ (UW _ z))) id
      ·exact .inl (UJ _ (UE _ (UE _ hb)))
  cases o with
  |sh d|dic _|hd _ _ _=>cases e
  |lst l=>
   obtain⟨a,xs,f,e1,e2,h1,h2⟩:=Zy.1 h;obtain⟨w,fq,k1,k2,k3,k4,k5⟩:=body l a xs f e1 e2 (.inl h1) h2 e;refine⟨w,fq,k1,k2,k3,k4,λH' q' fq' g1 g2 g3 g4=>?_⟩;obtain⟨f',m1,m2,m3,m4⟩:=k5 H' q' fq' g1 g2 g3 g4;exact⟨a::f',by unfold l6;exact Zy.2 ⟨a,xs,f',e1,rfl,by rw[m2];exact h1,m1⟩,m3,m4⟩
  |tup l=>obtain⟨a,xs,f,e1,e2,h1,h2⟩:=ZC.1 h;obtain⟨w,fq,k1,k2,k3,k4,k5⟩:=body l a xs f e1 e2 (.inr h1.1) h2 e;refine⟨w,fq,k1,k2,k3,k4,λH' q' fq' g1 g2 g3 g4=>?_⟩;obtain⟨f',m1,m2,m3,m4⟩:=k5 H' q' fq' g1 g2 g3 g4;exact⟨a::f',by unfold l6;exact ZC.2 ⟨a,xs,f',e1,rfl,⟨by rw[m2];exact h1.1,h1.2⟩,m1⟩,m3,m4⟩
abbrev XP:=Env->Option (Zn)
def EC(K:Zj)(to:TE)(i:Nat)(p:XP):Prop:=∀ρ σ S H (Q:VK) is o q,Rl K ρ σ S H->ρ[i]?=some (.ow o)->p ρ=some is->fV o is=some q->(∀v w S' H',σ[i]?=some (some v)->Ext S H S' H'->WalkV H' v is w->Q w H')->to σ H Q
@[simp]def K0:XP:=λ_=>some []
def wf(i:Nat):EC K (j4 i) i K0:=λρ σ S H Q is o q r h1 h2 h3 k=>by cases h2;obtain⟨v,fp,e,_⟩:=r.ow i o h1;exact⟨v,e,k v v S H e (Ext.refl r.sub) rfl⟩
@[simp]def RL(p:XP)(ix:XE):XP:=λρ=>(p ρ).bind λis=>(ix ρ).bind λd=>match d with|.int k=>some (is++[k])|_=>none
def OJ{to ti:TE}{i:Nat}{p:XP}{ix:XE}(hp:EC K to i p)(hi:SPk K ti ix):EC K (FP (O1 K) to ti) i (RL p ix):=λρ σ S H Q is o q r h1 h2 h3 k=>by
 obtain⟨js,e1,h2⟩:=ZM h2;obtain⟨d,e2,h2⟩:=ZM h2;cases d with
 |int kk=>
  cases h2;obtain⟨q0,s1,s2⟩:=tw h3;refine hp ρ σ S H _ js o q0 r h1 e1 s1 λv w S1 H1 ev z1 wk=>?_;have r1:=r.ext z1;refine hi ρ σ S1 H1 _ _ r1 e2 λu S2 H2 z2 d2=>?_;have r2:=r1.ext z2;obtain⟨v',fp,ev',ow,nd,_⟩:=r2.ow i o h1;rw[ev] at ev';cases ev';obtain⟨w',fq,k1,k2,_⟩:=GI ow nd s1;have ew:=k2.uniq (wk.mono (z2.same r1.sub));subst ew;rw[d2.int];cases q0 with
  |sh _|dic _|hd _ _ _=>cases s2
  |lst l=>
   have s2':(fS l kk).bind (λo=>fV o [])=some q:=s2;cases e3:fS l kk with
   |none=>rw[e3] at s2';cases s2'
   |some o1=>
    obtain⟨a,xs,f,rfl,rfl,hx,hl⟩:=Zy.1 k1;obtain⟨j,ej,el⟩:=BX e3;obtain⟨x,_,_,_,ex,_⟩:=hl.split el;have ax:fS xs kk=some x:=by unfold fS;rw[<-hl.length,ej];exact ex
    exact .inl ⟨a,xs,kk,x,rfl,rfl,SqL.of hx,ax,k v x S2 H2 ev (z1.trans z2) (k2.snoc rfl (.inl hx) ax)⟩
  |tup l=>
   have s2':(fS l kk).bind (λo=>fV o [])=some q:=s2;cases e3:fS l kk with
   |none=>rw[e3] at s2';cases s2'
   |some o1=>
    obtain⟨a,xs,f,rfl,rfl,⟨hx,_⟩,hl⟩:=ZC.1 k1;obtain⟨j,ej,el⟩:=BX e3;obtain⟨x,_,_,_,ex,_⟩:=hl.split el;have ax:fS xs kk=some x:=by unfold fS;rw[<-hl.length,ej];exact ex
    exact .inr (.inl ⟨a,xs,kk,x,rfl,rfl,SqT.of hx,ax,k v x S2 H2 ev (z1.trans z2) (k2.snoc rfl (.inr hx) ax)⟩)
 |_=>cases h2
def RlF.at{A:Hp}{Λ:Nat->Option Addr}{Φ:Nat->Zk}{ρ:Env}{σ:St}{i:Nat}{o:O}{is:Zn}{l:List O}{v w:V}(f:RlF K A Λ Φ ρ σ S H)(h1:ρ[i]?=some (.ow o))(h2:fV o is=some (.lst l))(ev:σ[i]?=some (some v))(wk:WalkV H v is w) :
  ∃a xs f0,w=.ref a/\H a=some (.lst xs)/\Owns K S H l xs f0/\(a::f0).Nodup/\(∀b∈a::f0,b∈Φ i)/\∀l' xs' f',(∀H',(∀b,b≠a->H' b=H b)->Owns K S H' l' xs' f')->(a::f').Nodup->(∀b∈f',b∈f0\/((∀(j:Nat) o',ρ[j]?=some (.ow o')->b∉Φ j)/\S b=none/\A b=none)) ->
   RlA K A Λ (ρ.set i (.ow (l6 o is (.lst l')))) σ S (upd H a (.lst xs')):=by
 obtain⟨v',e',ow,nd,n⟩:=f.ow i o h1;rw[ev] at e';cases e';obtain⟨w',fq,k1,k2,k3,k4,k5⟩:=GI ow nd h2;have ew:=k2.uniq wk;subst ew;obtain⟨a,xs,g,rfl,rfl,hx,hl⟩:=Zy.1 k1;have ain:=k3 a UL;refine⟨a,xs,g,rfl,hx,hl,k4,k3,λl' xs' f' g1 g2 g3=>?_⟩;have ne:∀b,b≠a->upd H a (.lst xs') b=H b:=λb hb=>aL hb;obtain⟨fp',m1,m2,m3⟩:=k5 (upd H a (.lst xs')) (.lst l') (a::f') (Zy.2 ⟨a,xs',f',rfl,rfl,aG,g1 _ ne⟩) g2 (λb hb hn=>ne b λz=>hn (z▸UL)) λb hb hp=>by
  rcases UC.1 hb with rfl|hb
  ·exact UL
  ·rcases g3 b hb with z|⟨z,_⟩
   ·exact UJ _ z
   ·exact absurd hp (z i o h1)
 have sub':Same S (upd H a (.lst xs')):=λb u e=>by rw[ne b λz=>by subst z;rw[(n b ain).1] at e;cases e];exact f.sub b u e
 have asub':Same A (upd H a (.lst xs')):=λb u e=>by rw[ne b λz=>by subst z;rw[(n b ain).2] at e;cases e];exact f.asub b u e
 have fin:=f.put (H':=upd H a (.lst xs')) i sub' asub' m1 m2 (λb hb=>by
  rcases m3 b hb with z|z
  ·exact n b z
  ·rcases UC.1 z with rfl|z
   ·exact n b ain
   ·rcases g3 b z with z|⟨_,z⟩
    ·exact n b (k3 b (UJ _ z))
    ·exact z) λj o' hj e1 b hb=>by
   have nb:b∉Φ i:=λz=>f.dj j i o' o hj e1 h1 b hb z;refine⟨ne b λz=>nb (z▸ain),λz=>?_⟩;rcases m3 b z with z|z
   ·exact nb z
   ·rcases UC.1 z with rfl|z
    ·exact nb ain
    ·rcases g3 b z with z|⟨z,_⟩
     ·exact nb (k3 b (UJ _ z))
     ·exact z j o' e1 hb
 rw[HW ev] at fin;exact⟨_,fin⟩
def RlF.fresh(f:RlF K A Λ Φ ρ σ S H)(h:H b=none):(∀(j:Nat) o',ρ[j]?=some (.ow o')->b∉Φ j)/\S b=none/\A b=none:=
 ⟨λj o' e hb=>by obtain⟨_,_,ow,_⟩:=f.ow j o' e;exact ow.there b hb h,f.sub.free h,f.asub.free h⟩
@[simp]def wV(i:Nat)(p:XP)(e:Env->Option O):XS:=λρ=>match ρ[i]? with
 |some (.ow o)=>(p ρ).bind λis=>(e ρ).bind λx=>match fV o is with
  |some (.lst l)=>if l.length<gA then some (.nx (ρ.set i (.ow (l6 o is (.lst (l++[x])))))) else none
  |_=>none
 |_=>none
def zC{to te:TE}{i:Nat} (hp:EC K to i p)(h:STr K te e):SS K (si (Eh K "list" rAppend to (cj te eV))) (wV i p e):=λA Λ ρ σ S H E out r y k=>by
 unfold wV at y;cases q0:ρ[i]? with
 |none=>rw[q0] at y;cases y
 |some s=>
  rw[q0] at y;cases s with
  |un|lo|sh _=>cases y
  |ow o=>
   dsimp only at y;cases q1:p ρ with
   |none=>rw[q1] at y;cases y
   |some is=>
    rw[q1] at y;dsimp only[Option.bind] at y;cases q2:e ρ with
    |none=>rw[q2] at y;cases y
    |some x=>
     rw[q2] at y;dsimp only at y;cases q3:fV o is with
     |none=>rw[q3] at y;cases y
     |some qo=>
      rw[q3] at y;cases qo with
      |sh _|dic _|hd _ _ _|tup _=>cases y
      |lst l=>
       dsimp only at y;split at y
       ·rename_i hl;cases y;obtain⟨Φ,f⟩:=r;refine hp ρ σ S H _ is o _ ⟨A,Λ,Φ,f⟩ q0 q1 q3 λv w S1 H1 ev z1 wk=>?_;have f1:=f.ext z1;obtain⟨a,xs,g0,rfl,hx,hw,nd0,in0,_⟩:=f1.at q0 q3 ev wk;refine⟨.inl ⟨rfl,xs,SqL.of hx⟩,h ρ σ S1 H1 _ x ⟨A,Λ,Φ,f1⟩ q2 λu fu S2 H2 z2 ou nd n=>?_⟩;have f2:=f1.ext z2;obtain⟨a',xs',g1,e1,hx',hw',nd1,in1,up⟩:=f2.at q0 q3 ev (wk.mono (z2.same f1.sub));cases e1;have fr:∀b∈fu,(∀(j:Nat) o',ρ[j]?=some (.ow o')->b∉Φ j)/\S2 b=none/\A b=none:=λb hb=>⟨(f1.fresh (n b hb).1).1,(n b hb).2,(f1.fresh (n b hb).1).2.2⟩
        have fa:∀b∈fu,b∉a::g1:=λb hb z=>(fr b hb).1 i o q0 (in1 b z);obtain⟨na,ng⟩:=Vk.1 nd1;refine⟨a,xs',u,rfl,rfl,hx',?_,?_⟩
        ·rw[<-hw'.length];exact WW hl gJ
        ·refine k σ S2 _ (up (l++[x]) (xs'++[u]) (g1++fu) (λH' ne=>?_) ?_ λb hb=>?_) (z1.sh.trans z2.sh)
         ·have:=(hw'.mono (H':=H') (Same.refl _) λb hb=>ne b λz=>na (z▸hb)).append (.cons (ou.mono (H':=H') (Same.refl _) λb hb=>ne b λz=>fa b hb (z▸UL)) .nil);rw[Vb] at this;exact this
         ·refine Vk.2 ⟨λz=>?_,V3.2 ⟨ng,nd,λb hb c hc e=>fa c hc (e▸UJ _ hb)⟩⟩;rcases U7.1 z with z|z
          ·exact na z
          ·exact fa a z UL
         ·rcases U7.1 hb with hb|hb
          ·exact .inl hb
          ·exact .inr (fr b hb)
       ·cases y
@[simp]def Ti(i:Nat)(p:XP)(j:Nat):XS:=λρ=>match ρ[i]? with
 |some (.ow o)=>(p ρ).bind λis=>match fV o is with
  |some (.lst l)=>(match l.getLast? with
   |some (.sh d)=>some (.nx ((ρ.set i (.ow (l6 o is (.lst l.dropLast)))).set j (.sh d)))
   |_=>none)
  |_=>none
 |_=>none
@[simp]def Tq(i:Nat)(p:XP):XS:=λρ=>match ρ[i]? with
 |some (.ow o)=>(p ρ).bind λis=>match fV o is with
  |some (.lst l)=>(match oQ l with|some ds=>some (.nx (ρ.set i (.ow (l6 o is (.lst (ds.reverse.map .sh))))))|none=>none)
  |_=>none
 |_=>none
def rExtM:V->Za->Hp->VK->Prop:=λx vs H Q=>∃l b xs zs,x=.ref l/\vs=[.ref b]/\H l=some (.lst xs)/\Rd H b (.lst zs)/\xs.length+zs.length<=sizeLine/\Q .non (upd H l (.lst (xs++zs)))
@[simp]def Eu(i:Nat)(p:XP)(e:XE):XS:=λρ=>match ρ[i]? with
 |some (.ow o)=>(p ρ).bind λis=>(e ρ).bind λd=>match fV o is,d with
  |some (.lst l),.lst ds=>if l.length+ds.length<=gA then some (.nx (ρ.set i (.ow (l6 o is (.lst (l++ds.map .sh)))))) else none
  |_,_=>none
 |_=>none
def HI{to te:TE}{i:Nat} (hp:EC K to i p)(h:SE K te e):SS K (si (Eh K "list" rExtM to (cj te eV))) (Eu i p e):=λA Λ ρ σ S H E out r y k=>by
 unfold Eu at y;cases q0:ρ[i]? with
 |none=>rw[q0] at y;cases y
 |some s=>
  rw[q0] at y;cases s with
  |un|lo|sh _=>cases y
  |ow o=>
   dsimp only at y;cases q1:p ρ with
   |none=>rw[q1] at y;cases y
   |some is=>
    rw[q1] at y;dsimp only[Option.bind] at y;cases q2:e ρ with
    |none=>rw[q2] at y;cases y
    |some dd=>
     rw[q2] at y;dsimp only at y;cases q3:fV o is with
     |none=>rw[q3] at y;cases y
     |some qo=>
      rw[q3] at y;cases qo with
      |sh _|dic _|hd _ _ _|tup _=>cases y
      |lst l=>
       cases dd with
       |lst ds=>
        dsimp only at y;split at y
        ·rename_i hl;cases y;obtain⟨Φ,f⟩:=r;refine hp ρ σ S H _ is o _ ⟨A,Λ,Φ,f⟩ q0 q1 q3 λv w S1 H1 ev z1 wk=>?_;have f1:=f.ext z1;obtain⟨a,xs,g0,rfl,hx,hw,nd0,in0,_⟩:=f1.at q0 q3 ev wk;refine⟨.inl ⟨rfl,xs,SqL.of hx⟩,h ρ σ S1 H1 _ _ ⟨A,Λ,Φ,f1⟩ q2 λu S2 H2 z2 d2=>?_⟩;have f2:=f1.ext z2;obtain⟨a',xs',g1,e1,hx',hw',nd1,in1,up⟩:=f2.at q0 q3 ev (wk.mono (z2.same f1.sub));cases e1;obtain⟨b,zs,rfl,hb,dz⟩:=Zs.1 d2;obtain⟨na,ng⟩:=Vk.1 nd1;refine⟨a,b,xs',zs,rfl,rfl,hx',cK z2.sub hb,?_,?_⟩
         ·rw[<-hw'.length,<-dz.length];exact U1 (Vd hl gJ)
         ·refine k σ S2 _ (up (l++ds.map .sh) (xs'++zs) g1 (λH' ne=>?_) nd1 λb hb=>.inl hb) (z1.sh.trans z2.sh);have:=(hw'.mono (H':=H') (Same.refl _) λb hb=>ne b λz=>na (z▸hb)).append (uU (H:=H') dz);rw[Vb] at this;exact this
        ·cases y
       |_=>cases y
@[simp]def IM(i:Nat)(p:XP)(ix e:XE):XS:=λρ=>(e ρ).bind λd=>match ρ[i]? with
 |some (.ow o)=>(p ρ).bind λis=>(ix ρ).bind λk=>match fV o is,k with
  |some (.lst l),.int k=>(match oQ l with|some ds=>(DE ds.length k).map λj=>.nx (ρ.set i (.ow (l6 o is (.lst ((ds.set j d).map .sh)))))|none=>none)
  |_,_=>none
 |_=>none
def Ni{to te ti:TE}{i:Nat} (h:SE K te e)(hp:EC K to i p)(hi:SPk K ti ix):SS K (nX te (Ou to ti Ls)) (IM i p ix e):=λA Λ ρ σ S H E out r y k=>by
 unfold IM at y;cases q:e ρ with
 |none=>rw[q] at y;cases y
 |some d=>
  rw[q] at y;dsimp only[Option.bind] at y;cases q0:ρ[i]? with
  |none=>rw[q0] at y;cases y
  |some s=>
   rw[q0] at y;cases s with
   |un|lo|sh _=>cases y
   |ow o=>
    dsimp only at y;cases q1:p ρ with
    |none=>rw[q1] at y;cases y
    |some is=>
     rw[q1] at y;dsimp only at y;cases q2:ix ρ with
     |none=>rw[q2] at y;cases y
     |some dk=>
      rw[q2] at y;dsimp only at y;cases q3:fV o is with
      |none=>rw[q3] at y;cases y
      |some qo=>
       rw[q3] at y;cases qo with
       |sh _|dic _|hd _ _ _|tup _=>cases y
       |lst l=>
        cases dk with
        |int kk=>
         dsimp only at y;cases q4:oQ l with
         |none=>rw[q4] at y;cases y
         |some ds=>
          rw[q4] at y;dsimp only at y;cases q5:DE ds.length kk with
          |none=>rw[q5] at y;cases y
          |some j=>
           rw[q5] at y;cases y;have ed:=Cy q4;subst ed;obtain⟨Φ,f⟩:=r;refine h ρ σ S H _ d ⟨A,Λ,Φ,f⟩ q λu S0 H0 z0 d0=>?_;have f0:=f.ext z0;refine hp ρ σ S0 H0 _ is o _ ⟨A,Λ,Φ,f0⟩ q0 q1 q3 λv w S1 H1 ev z1 wk=>?_;have f1:=f0.ext z1;refine hi ρ σ S1 H1 _ _ ⟨A,Λ,Φ,f1⟩ q2 λw2 S2 H2 z2 d2=>?_;have f2:=f1.ext z2;obtain⟨a',xs',g1,rfl,hx',hw',nd1,in1,up⟩:=f2.at q0 q3 ev (wk.mono (z2.same f1.sub));obtain⟨hd,rfl⟩:=pW hw';refine⟨a',xs',kk,j,rfl,d2.int,hx',by rw[<-hd.length];exact q5,?_⟩;exact k σ S2 _ (up ((ds.set j d).map .sh) (xs'.set j u) [] (λH' ne=>uU (hd.set j ((d0.mono z1.sh).mono z2.sh))) nd1 λb hb=>by cases hb) ((z0.sh.trans z1.sh).trans z2.sh)
        |_=>cases y
@[simp]def Uj(i:Nat)(e:XE)(f:D->D->Zd):XS:=λρ=>match ρ[i]? with
 |some (.sh x)=>(e ρ).bind λy=>(f x y).map λz=>.nx (ρ.set i (.sh z))
 |_=>none
@[simp]def S6(e:XE):XS:=λρ=>(e ρ).map λ_=>.nx ρ
def Walks(K:Zj)(J:It)(S:Hp)(l:Zc):Prop:=∀S' H',Same S S'->Same S' H' ->
 (∀i d,l[i]?=some d->J.go i H'/\∀x H'',J.yld i H' x H''->H''=H'/\Den K S' d x)/\J.stop l.length H'
def SI(K:Zj)(wi:TI)(e:XA):Prop:=∀ρ σ S H (R:It->Hp->Prop) l,Rl K ρ σ S H->e ρ=some l->(∀J S' H',Ext S H S' H'->Walks K J S' l->R J H')->wi σ H R
def KA:D->Option (Zc)
 |.lst l=>some l|.tup l=>some l|.scr l=>some l|.mtp l=>some l|_=>none
def L4(K:Zj)(J:It)(S H:Hp)(l:Zc):Prop:=∀S' H',Ext S H S' H' ->
 (∀i d,l[i]?=some d->J.go i H'/\∀x H'',J.yld i H' x H''->H''=H'/\Den K S' d x)/\J.stop l.length H'
def P2(K:Zj)(wi:TI)(e:XA):Prop:=∀ρ σ S H (R:It->Hp->Prop) l,Rl K ρ σ S H->e ρ=some l->(∀J S' H',Ext S H S' H'->L4 K J S' H' l->R J H')->wi σ H R
def SI.p{wi:TI}{e:XA}(h:SI K wi e):P2 K wi e:=λρ σ S H R l r x k=>h ρ σ S H R l r x λJ S' H' z w=>k J S' H' z λS2 H2 z2=>w S2 H2 z2.sh z2.sub
@[simp]def vc(e:XE):XA:=λρ=>(e ρ).bind KA
def AA{tl:TE} (h:SE K tl e):SI K (JD K tl) (vc e):=λρ σ S H R l r x k=>by
 obtain⟨d,q,x⟩:=ZM x;refine h ρ σ S H _ d r q λv S1 H1 z1 d1=>?_;cases d with
 |lst l'=>
  cases x;obtain⟨p,xs,rfl,h1,h2⟩:=Zs.1 d1;refine⟨p,rfl,.inl ⟨⟨xs,.inl (cK z1.sub h1)⟩,k _ S1 H1 z1 λS' H' s1 s2=>⟨λi d hd=>?_,xs,.inl (cK (s1.trans s2) h1),Vj h2.length.symm⟩⟩⟩;obtain⟨y,e1,e2⟩:=h2.get hd;refine⟨⟨xs,y,.inl (cK (s1.trans s2) h1),e1⟩,λx H'' hy=>⟨hy.1,?_⟩⟩;have:=hy.2 xs (.inl (cK (s1.trans s2) h1));rw[e1] at this;cases this;exact e2.mono s1
 |tup l'=>
  cases x;obtain⟨p,xs,rfl,h1,h2⟩:=jC d1;refine⟨p,rfl,.inr ⟨⟨xs,bE z1.sub h1⟩,k _ S1 H1 z1 λS' H' s1 s2=>⟨λi d hd=>?_,xs,bE (s1.trans s2) h1,Vj h2.length.symm⟩⟩⟩;obtain⟨y,e1,e2⟩:=h2.get hd;refine⟨⟨xs,y,bE (s1.trans s2) h1,e1⟩,λx H'' hy=>⟨hy.1,?_⟩⟩;have:=hy.2 xs (bE (s1.trans s2) h1);rw[e1] at this;cases this;exact e2.mono s1
 |mtp l'=>
  cases x;obtain⟨p,xs,rfl,h1,h2⟩:=Zz.1 d1;refine⟨p,rfl,.inr ⟨⟨xs,bE z1.sub h1⟩,k _ S1 H1 z1 λS' H' s1 s2=>⟨λi d hd=>?_,xs,bE (s1.trans s2) h1,Vj h2.length.symm⟩⟩⟩;obtain⟨y,e1,e2⟩:=h2.get hd;refine⟨⟨xs,y,bE (s1.trans s2) h1,e1⟩,λx H'' hy=>⟨hy.1,?_⟩⟩;have:=hy.2 xs (bE (s1.trans s2) h1);rw[e1] at this;cases this;exact e2.mono s1
 |scr l'=>
  cases x;obtain⟨p,xs,rfl,h1,h2⟩:=ZE.1 d1;refine⟨p,rfl,.inl ⟨⟨xs,fi z1.sub h1⟩,k _ S1 H1 z1 λS' H' s1 s2=>⟨λi d hd=>?_,xs,fi (s1.trans s2) h1,Vj h2.length.symm⟩⟩⟩;obtain⟨y,e1,e2⟩:=h2.get hd;refine⟨⟨xs,y,fi (s1.trans s2) h1,e1⟩,λx H'' hy=>⟨hy.1,?_⟩⟩;have:=hy.2 xs (fi (s1.trans s2) h1);rw[e1] at this;cases this;exact e2.mono s1
 |_=>cases x
def Ch{α:Type}(p:Prop)(a b:α):α:=@ite α p (Classical.propDecidable p) a b
def ol{α:Type}{p:Prop}{a b:α}(h:p):Ch p a b=a:=by unfold Ch;exact Uv h
def rn{α:Type}{p:Prop}{a x:α}(h:Ch p (some a) none=some x):p/\a=x:=by
 unfold Ch at h;by_cases c:p
 ·rw[Uv c] at h;exact⟨c,U6 h⟩
 ·rw[Uu c] at h;cases h
def gf{tl:TE} (h:SPk K tl e):P2 K (JD K tl) (vc e):=λρ σ S H R l r x k=>by
 obtain⟨d,q,x⟩:=ZM x;refine h ρ σ S H _ d r q λv S1 H1 z1 d1=>?_;rcases d1 with d1|⟨l',p,xs,rfl,rfl,hx,dx⟩
 ·cases d with
  |lst l'=>
   cases x;obtain⟨p,xs,rfl,h1,h2⟩:=Zs.1 d1;refine⟨p,rfl,.inl ⟨⟨xs,.inl (cK z1.sub h1)⟩,k _ S1 H1 z1 λS' H' z2=>⟨λi d hd=>?_,xs,.inl (cK (z2.sh.trans z2.sub) h1),Vj h2.length.symm⟩⟩⟩;obtain⟨y,e1,e2⟩:=h2.get hd;refine⟨⟨xs,y,.inl (cK (z2.sh.trans z2.sub) h1),e1⟩,λx H'' hy=>⟨hy.1,?_⟩⟩;have:=hy.2 xs (.inl (cK (z2.sh.trans z2.sub) h1));rw[e1] at this;cases this;exact e2.mono z2.sh
  |tup l'=>
   cases x;obtain⟨p,xs,rfl,h1,h2⟩:=jC d1;refine⟨p,rfl,.inr ⟨⟨xs,bE z1.sub h1⟩,k _ S1 H1 z1 λS' H' z2=>⟨λi d hd=>?_,xs,bE (z2.sh.trans z2.sub) h1,Vj h2.length.symm⟩⟩⟩;obtain⟨y,e1,e2⟩:=h2.get hd;refine⟨⟨xs,y,bE (z2.sh.trans z2.sub) h1,e1⟩,λx H'' hy=>⟨hy.1,?_⟩⟩;have:=hy.2 xs (bE (z2.sh.trans z2.sub) h1);rw[e1] at this;cases this;exact e2.mono z2.sh
  |mtp l'=>
   cases x;obtain⟨p,xs,rfl,h1,h2⟩:=Zz.1 d1;refine⟨p,rfl,.inr ⟨⟨xs,bE z1.sub h1⟩,k _ S1 H1 z1 λS' H' z2=>⟨λi d hd=>?_,xs,bE (z2.sh.trans z2.sub) h1,Vj h2.length.symm⟩⟩⟩;obtain⟨y,e1,e2⟩:=h2.get hd;refine⟨⟨xs,y,bE (z2.sh.trans z2.sub) h1,e1⟩,λx H'' hy=>⟨hy.1,?_⟩⟩;have:=hy.2 xs (bE (z2.sh.trans z2.sub) h1);rw[e1] at this;cases this;exact e2.mono z2.sh
  |scr l'=>
   cases x;obtain⟨p,xs,rfl,h1,h2⟩:=ZE.1 d1;refine⟨p,rfl,.inl ⟨⟨xs,fi z1.sub h1⟩,k _ S1 H1 z1 λS' H' z2=>⟨λi d hd=>?_,xs,fi (z2.sh.trans z2.sub) h1,Vj h2.length.symm⟩⟩⟩;obtain⟨y,e1,e2⟩:=h2.get hd;refine⟨⟨xs,y,fi (z2.sh.trans z2.sub) h1,e1⟩,λx H'' hy=>⟨hy.1,?_⟩⟩;have:=hy.2 xs (fi (z2.sh.trans z2.sub) h1);rw[e1] at this;cases this;exact e2.mono z2.sh
  |_=>cases x
 ·cases x;refine⟨p,rfl,.inl ⟨⟨xs,SqL.of hx⟩,k _ S1 H1 z1 λS' H' z2=>?_⟩⟩;have hx2:H' p=some (.lst xs):=z2.same z1.sub _ _ hx;refine⟨λi d hd=>?_,xs,SqL.of hx2,Vj dx.length.symm⟩;obtain⟨y,e1,e2⟩:=dx.get hd;refine⟨⟨xs,y,SqL.of hx2,e1⟩,λx H'' hy=>⟨hy.1,?_⟩⟩;have:=hy.2 xs (SqL.of hx2);rw[e1] at this;cases this;exact e2.mono z2.sh
def DC(lo:Int):Nat->Zc
 |0=>[]
 |n+1=>.int lo::DC (lo+1) n
def Q0:Zc->Option (Zc)
 |[.int j]=>Ch (j<1000000 /\ -1000000<j) (some (DC 0 j.toNat)) none
 |[.int i,.int j]=>Ch (j<4000000000000000000 /\ -4000000000000000000<i/\i<4000000000000000000 /\ -4000000000000000000<j) (some (DC i (j-i).toNat)) none
 |_=>none
@[simp]def Ur(a:XA):XA:=λρ=>(a ρ).bind Q0
def GA:Nat->Nat->Zc
 |_,0=>[]
 |k,n+1=>.int (2*k)::GA (k+1) n
def Pe:Zc->Option (Zc)
 |[.int a,.int j,.int b]=>Ch (a=0/\b=2/\0<=j/\j<1000000) (some (GA 0 ((j+1)/2).toNat)) none
 |_=>none
@[simp]def Ts(a:XA):XA:=λρ=>(a ρ).bind Pe
def vX(g:XG)(m:XS):Zc->Env->Option Out
 |[],ρ=>some (.nx ρ)
 |d::l,ρ=>(g d ρ).bind λρ1=>match m ρ1 with
  |some (.nx ρ2)=>vX g m l ρ2
  |some (.ct ρ2)=>vX g m l ρ2
  |some (.bk ρ2)=>some (.nx ρ2)
  |some (.rt d)=>some (.rt d)
  |some (.ro d)=>some (.ro d)
  |none=>none
@[simp]def BJ(e:XA)(g:XG)(m:XS):XS:=λρ=>(e ρ).bind λl=>vX g m l ρ
def iz{l:Zc}{i:Nat}{d:D}(h:l[i]?=some d):l.drop i=d::l.drop (i+1):=by obtain⟨h1,rfl⟩:=UX.1 h;exact List.drop_eq_getElem_cons h1
def L6(K:Zj)(J:It)(S:Hp)(l:Zc):Prop:=∀S' H',Same S S'->Same S' H' ->
 (∀i d,l[i]?=some d->J.go i H'/\∀x H'',J.yld i H' x H''->∃S'',Ext S' H' S'' H''/\Den K S'' d x)/\J.stop l.length H'
def P0(K:Zj)(wi:TI)(e:XA):Prop:=∀ρ σ S H (R:It->Hp->Prop) l,Rl K ρ σ S H->e ρ=some l->(∀J S' H',Ext S H S' H'->L6 K J S' l->R J H')->wi σ H R
def SI.h{wi:TI}{e:XA}(h:SI K wi e):P0 K wi e:=λρ σ S H R l r x k=>h ρ σ S H R l r x λJ S' H' z w=>k J S' H' z λS1 H1 a b=>⟨λi d hd=>⟨((w S1 H1 a b).1 i d hd).1,λx H2 hy=>by
 obtain⟨rfl,dx⟩:=((w S1 H1 a b).1 i d hd).2 x H2 hy
 exact⟨S1,Ext.refl b,dx⟩⟩,(w S1 H1 a b).2⟩
def HK{wi:TI}{g:TG}{tb:TS}{e:XA}{x:XG}{m:XS}(hi:P0 K wi e)(hg:SG K g x)(hb:SS K tb m):SS K (FF wi g tb) (BJ e x m):=λA Λ ρ σ S H E o r y k=>by
 unfold BJ at y;cases q:e ρ with
 |none=>rw[q] at y;cases y
 |some l=>
  rw[q] at y;dsimp only[Option.bind] at y;refine hi ρ σ S H _ l r.toRl q λJ S1 H1 z1 wk=>?_;have r1:=r.ext z1;refine⟨λi n σ' H'=>n=l.length-i/\i<=l.length/\∃ρ' S',RlA K A Λ ρ' σ' S' H'/\Same S1 S'/\vX x m (l.drop i) ρ'=some o,⟨_,rfl,UR _,ρ,S1,r1,Same.refl _,y⟩,?_⟩;rintro i n σ2 H2 ⟨rfl,hil,ρ2,S2,r2,s2,y2⟩;obtain⟨w1,w2⟩:=wk S2 H2 s2 r2.sub;cases qd:l[i]? with
  |none=>
   have:l.length=i:=by have:=VG.1 qd;lia
   subst this;rw[VH (Ux _)] at y2;cases y2;exact .inl ⟨w2,k σ2 S2 H2 r2 (z1.sh.trans s2)⟩
  |some d=>
   obtain⟨g1,g2⟩:=w1 i d qd;have hlt:=(UX.1 qd).1;rw[iz qd] at y2;unfold vX at y2;cases qx:x d ρ2 with
   |none=>rw[qx] at y2;cases y2
   |some ρ3=>
    rw[qx] at y2;dsimp only[Option.bind] at y2;refine .inr ⟨g1,λσ' H'=>∃ρ' S',RlA K A Λ ρ' σ' S' H'/\Same S1 S'/\vX x m (l.drop (i+1)) ρ'=some o,λσ' H' ⟨ρ',S',a1,a2,a3⟩=>⟨_,(),rfl,hlt,ρ',S',a1,a2,a3⟩,λxv H3 hy=>?_⟩;obtain⟨S3,z3,dx⟩:=g2 xv H3 hy;have s3:=s2.trans z3.sh;refine hg A Λ ρ2 σ2 S3 H3 xv d _ ρ3 (r2.ext z3) dx qx λσ3 r3=>?_;cases qm:m ρ3 with
    |none=>rw[qm] at y2;cases y2
    |some om=>
     rw[qm] at y2;refine hb A Λ ρ3 σ3 S3 H3 _ om r3 qm ?_;cases om with
     |nx ρ4=>exact λσ4 S4 H4 r4 s4=>⟨ρ4,S4,r4,s3.trans s4,y2⟩
     |ct ρ4=>exact λσ4 S4 H4 r4 s4=>⟨ρ4,S4,r4,s3.trans s4,y2⟩
     |bk ρ4=>cases y2;exact λσ4 S4 H4 r4 s4=>k σ4 S4 H4 r4 ((z1.sh.trans s3).trans s4)
     |rt d4=>cases y2;exact λv S4 H4 s4=>k v S4 H4 ((z1.sh.trans s3).trans s4)
     |ro d4=>cases y2;exact λv fp S4 H4 s4=>k v fp S4 H4 ((z1.sh.trans s3).trans s4)
def HJ{wi:TI} {tb:TS} (hi:SI K wi e)(hg:SG K g x)(hb:SS K tb m):SS K (FF wi g tb) (BJ e x m):=HK hi.h hg hb
@[simp]def rp(js:List (Option Nat))(ρ:Env):Env:=js.map λo=>match o with|none=>.un|some j=>match ρ[j]? with|some (.sh d)=>.sh d|_=>.un
def qY(g:XG)(c:XT)(e:XE)(ρ0:Env):Zc->Option (Zc)
 |[]=>some []
 |d::l=>(g d ρ0).bind λρ1=>(c ρ1).bind λb=>if b=true then (e ρ1).bind λy=>(qY g c e ρ0 l).map λr=>y::r else qY g c e ρ0 l
@[simp]def fK(js:List (Option Nat))(w:XA)(g:XG)(c:XT)(e:XE):XA:=λρ=>(w ρ).bind λl=>if l.length<=gA then qY g c e (rp js ρ) l else none
@[simp]def lG:XT:=λ_=>some true
def gQ:ST K GC lG:=λρ σ S H Q b r x k=>by cases x;exact k S H (Ext.refl r.sub)
def rq{js:List (Option Nat)} {i:Nat}{s:Sl}(h:(rp js ρ)[i]?=some s):s=.un\/∃d j,s=.sh d/\js[i]?=some (some j)/\ρ[j]?=some (.sh d):=by
 unfold rp at h;rw[U9] at h;cases q:js[i]? with
 |none=>rw[q] at h;cases h
 |some o=>
  rw[q] at h;cases o with
  |none=>cases h;exact .inl rfl
  |some j=>
   simp only[Option.map_some] at h;cases q2:ρ[j]? with
   |none=>rw[q2] at h;cases h;exact .inl rfl
   |some s2=>
    rw[q2] at h;cases s2 with
    |un=>cases h;exact .inl rfl
    |lo=>cases h;exact .inl rfl
    |ow l=>cases h;exact .inl rfl
    |sh d=>cases h;exact .inr ⟨d,j,rfl,rfl,q2⟩
def eY(S H:Hp):Hp:=λb=>match S b with|none=>H b|some _=>none
def sA:Same (eY S H) H:=λb o h=>by
 unfold eY at h;cases q:S b with
 |none=>rw[q] at h;exact h
 |some _=>rw[q] at h;cases h
def sy{S:Hp}(b:Addr):S b=none\/eY S H b=none\/∃u,eY S H b=some u/\IT u:=by
 unfold eY;cases q:S b with
 |none=>exact .inl rfl
 |some _=>exact .inr (.inl rfl)
def qT{S H:Hp}{b:Addr}{o:HO}(h:H b=some o)(n:S b=none):eY S H b=some o:=by unfold eY;rw[n];exact h
def zA(r:Rl K ρ σ S H)(js:List (Option Nat)):RlA K (eY S H) (λ_=>none) (rp js ρ) (oO js σ) S H:=by
 refine⟨λ_=>[],?_⟩
 exact {
  len:=by unfold rp oO;rw[UN,UN]
  sub:=r.sub
  sh:=λi d h=>by
   rcases rq h with e|⟨d',j,e,h1,h2⟩
   ·cases e
   ·cases e;obtain⟨v,k1,k2⟩:=r.sh j d h2;refine⟨v,?_,k2⟩;unfold oO;rw[U9,h1];show some ((σ[j]?).join)=some (some v);rw[k1];rfl
  ow:=λi o h=>by
   rcases rq h with e|⟨d',j,e,h1,h2⟩
   ·cases e
   ·cases e
  dj:=λi j o o' _ h=>by
   rcases rq h with e|⟨d',j,e,h1,h2⟩
   ·cases e
   ·cases e
  lo:=λi h=>by
   rcases rq h with e|⟨d',j,e,h1,h2⟩
   ·cases e
   ·cases e
  asub:=sA
  adis:=sy }
def gk{js:List (Option Nat)}{wi:TI} {tt:FW}{te:TE} (hi:P2 K wi w)(hg:SG K g x)(hc:ST K tt c)(he:SE K te e):SF K (sg js wi g tt te) (fK js w x c e):=λρ σ S H Q l r y k=>by
 unfold fK at y;cases q:w ρ with
 |none=>rw[q] at y;cases y
 |some ds=>
  rw[q] at y;dsimp only[Option.bind] at y;split at y
  ·rename_i hlim;refine hi ρ σ S H _ ds r q λJ S1 H1 z1 wk D hD=>?_;have r1:=r.ext z1;have hD0:H D=none:=(z1.same r.sub).free hD
   -- the word: what is told so far,what is still to be told
   refine⟨λi n H'=>n=ds.length-i/\i<=ds.length/\∃S' done ys fA,Ext S1 H1 S' H'/\Same S1 S'/\H' D=some (.lst ys)/\S' D=none/\Dens K S' done ys/\done.length<=i/\qY x c e (rp js ρ) (ds.drop i)=some fA/\l=done++fA,
    ⟨_,rfl,UR _,S1,[],[],l,Ext.own z1.sub hD,Same.refl _,aG,z1.sub.free hD,.nil,UR _,y,rfl⟩,?_⟩
   rintro i n H2 ⟨rfl,hil,S2,done,ys,fA,z2,s2,hy,hSD,dy,hdl,y2,rfl⟩;obtain⟨w1,w2⟩:=wk S2 H2 z2;cases qd:ds[i]? with
   |none=>
    have:ds.length=i:=by have:=VG.1 qd;lia
    subst this;rw[VH (Ux _)] at y2;cases y2;rw[Vb] at k;exact .inl ⟨w2,k D ys S2 H2 (z1.trans z2) hD0 hSD hy dy⟩
   |some d=>
    obtain⟨g1,g2⟩:=w1 i d qd;have hlt:=(UX.1 qd).1;rw[iz qd] at y2;unfold qY at y2;cases qx:x d (rp js ρ) with
    |none=>rw[qx] at y2;cases y2
    |some ρ3=>
     rw[qx] at y2;dsimp only[Option.bind] at y2;refine .inr ⟨g1,λxv H3 hyl=>?_⟩;obtain⟨rfl,dx⟩:=g2 xv H3 hyl;have ri:=zA (r1.ext z2) js;refine hg _ _ _ _ S2 H3 xv d _ ρ3 ri dx qx λσ3 r3=>?_;cases qc:c ρ3 with
     |none=>rw[qc] at y2;cases y2
     |some b=>
      rw[qc] at y2;dsimp only at y2;refine hc ρ3 σ3 S2 H3 _ b r3.toRl qc λS4 H4 z4=>?_;obtain⟨al1,al2⟩:=z4.al D _ hy hSD;cases b with
      |false=>
       rw[Uu (by decide)] at y2;exact rA ⟨_,(),rfl,hlt,S4,done,ys,fA,z2.trans z4,s2.trans z4.sh,al1,al2,dy.mono z4.sh,(),y2,rfl⟩
      |true=>
       rw[Uv rfl] at y2;cases qe:e ρ3 with
       |none=>rw[qe] at y2;cases y2
       |some dv=>
        rw[qe] at y2;dsimp only at y2;cases qr:qY x c e (rp js ρ) (ds.drop (i+1)) with
        |none=>rw[qr] at y2;cases y2
        |some rest2=>
         rw[qr] at y2;cases y2;refine oP (he ρ3 σ3 S4 H4 _ dv (r3.toRl.ext z4) qe λv S5 H5 z5 d5=>?_);obtain⟨b1,b2⟩:=z5.al D _ al1 al2;refine⟨ys,b1,?_,_,(),rfl,hlt,S5,done++[dv],ys++[v],rest2,?_,(s2.trans z4.sh).trans z5.sh,aG,b2,((dy.mono z4.sh).mono z5.sh).append (.cons d5 .nil),by rw[U2,VP];lia,qr,by rw[VF];rfl⟩
         ·rw[<-dy.length];exact UP (Vd hdl hlt) (UD hlim (U1 gJ))
         ·have z6:=(z2.trans z4).trans z5;exact⟨z6.sh,λb u hb=>by rw[aL λz=>by subst z;rw[b2] at hb;cases hb];exact z6.sub b u hb,λb o hb hn=>by
           obtain⟨c1,c2⟩:=z6.alw b o hb hn
           exact⟨by rw[aL λz=>by subst z;rw[hD] at hb;cases hb];exact c1,c2⟩⟩
  ·cases y
@[simp]def S9(i:Nat)(g:XG)(m:XS):XS:=λρ=>match ρ[i]? with
 |some (.ow (.lst os))=>(match oQ os with
  |some l=>(match vX g m l (ρ.set i .lo) with
   |some (.nx ρ')=>(match ρ'[i]? with|some .lo=>some (.nx (ρ'.set i (.ow (.lst os))))|_=>none)
   |some (.rt d)=>some (.rt d)
   |_=>none)
  |none=>none)
 |_=>none
def kQ(n:Nat)(x:XS)(ds:Zc):Option O:=match x (ds.map .sh++List.replicate (n-ds.length) .un) with
 |some (.rt d)=>some (.sh d)
 |some (.ro o)=>some o
 |some (.nx _)=>some (.sh .non)
 |_=>none
def wz{N:Zl}{ds:Zc} (s:Same S H)(h:Dens K S ds vs):RlA K (eY S H) (λ_=>none) (ds.map .sh++List.replicate (N.length-ds.length) .un) (L2.aX N vs) S H:=by
 have hl:=h.length;have key:∀(i:Nat) t,(ds.map Sl.sh++List.replicate (N.length-ds.length) .un)[i]?=some t->t=.un\/∃d v,t=.sh d/\(L2.aX N vs)[i]?=some (some v)/\Den K S d v:=λi t ht=>by
  by_cases hi:i<ds.length
  ·rw[Wl (by rw[UN];exact hi),U9] at ht;cases q:ds[i]? with
   |none=>rw[q] at ht;cases ht
   |some d=>rw[q] at ht;cases ht;obtain⟨v,e1,e2⟩:=h.get q;refine .inr ⟨d,v,rfl,?_,e2⟩;unfold L2.aX;rw[Wl (by rw[UN];lia),U9,e1];rfl
  ·rw[Xs (by rw[UN];lia),Xu] at ht;split at ht
   ·cases ht;exact .inl rfl
   ·cases ht
 refine⟨λ_=>[],?_⟩
 exact {
  len:=by unfold L2.aX;rw[U2,U2,UN,UN,WO,WO,hl]
  sub:=s
  sh:=λi d hi=>by
   rcases key i _ hi with e|⟨d',v,e,h1,h2⟩
   ·cases e
   ·cases e;exact⟨v,h1,h2⟩
  ow:=λi o hi=>by
   rcases key i _ hi with e|⟨d',v,e,h1,h2⟩
   ·cases e
   ·cases e
  dj:=λi j o o' _ hi=>by
   rcases key i _ hi with e|⟨d',v,e,h1,h2⟩
   ·cases e
   ·cases e
  lo:=λi hi=>by
   rcases key i _ hi with e|⟨d',v,e,h1,h2⟩
   ·cases e
   ·cases e
  asub:=sA
  adis:=sy }
def cI{N:Zl}{n k:Nat} (hs:SS K t x)(hN:N.length=n)(h:fh K k (kQ n x) vs H Q E) :
  t { nx:=λ_ H'=>Q .non H',rt:=Q } (L2.aX N vs) H:=by
 obtain⟨_,S,ds,d,s,dd,y,q⟩:=h;subst hN;unfold kQ at y;have r:=wz (N:=N) s dd;have ex:∀ {S' H':Hp},Same S S'->Same S' H'->Same (eY S H) H'->(∀b,S' b=none\/eY S H b=none\/∃u,eY S H b=some u/\IT u)->Ext S H S' H':=λs1 s2 s3 s4=>⟨s1,s2,λb o hb hn=>by
  have ha:=qT hb hn;refine⟨s3 b o ha,?_⟩;rcases s4 b with z|z|⟨u,z,hu⟩
  ·exact .inl z
  ·rw[ha] at z;cases z
  ·rw[ha] at z;cases z;exact .inr hu⟩
 cases qx:x (ds.map .sh++List.replicate (N.length-ds.length) .un) with
 |none=>rw[qx] at y;cases y
 |some o=>
  rw[qx] at y;refine hs _ _ _ _ S H _ o r qx ?_;cases o with
  |rt d'=>
   cases y;exact λv S' H' s1 s2 s3 s4 dv=>q v [] S' H' (ex s1 s2 s3 s4) (ZD.2 ⟨rfl,dv⟩) .nil λb hb=>by cases hb
  |ro o'=>
   cases y;refine λv fp S' H' s1 s2 s3 s4 ow nd n=>q v fp S' H' (ex s1 s2 s3 s4) ow nd λb hb=>⟨?_,(n b hb).1⟩
   cases qb:H b with
   |none=>rfl
   |some u=>
    have:=qT qb (s1.free (n b hb).1);rw[(n b hb).2] at this;cases this
  |nx ρ'=>
   cases y;exact λσ' S' H' r' s1=>q .non [] S' H' (ex s1 r'.sub r'.asub r'.adis) (ZD.2 ⟨rfl,ZI.2 rfl⟩) .nil λb hb=>by cases hb
  |bk ρ'=>cases y
  |ct ρ'=>cases y
end
def dI(f:Int->Int->Zd):D->D->Zd
 |.int i,.int j=>f i j
 |_,_=>none
def B9:D->D->Zd:=dI λi j=>Ch ((-18446744073709551616<i/\i<18446744073709551616)\/(-18446744073709551616<j/\j<18446744073709551616)) (some (.int (i*j))) none
def vF:D->D->Zd:=dI λi j=>Ch (0<j/\j<1073741824) (some (.int (i/j))) none
def fv:D->D->Zd:=dI λi j=>Ch (0<j) (some (.int (i%j))) none
def ET:D->D->Zd:=dI λi j=>Ch (0<=j/\j<=1000000/\i.natAbs<18446744073709551616) (some (.int (i^j.toNat))) none
def Mp:D->D->Zd:=dI λi j=>some (.int (i-j))
def Oi:D->D->Zd:=dI λi j=>some (.bl (decide (i<j)))
def Mo:D->D->Zd:=dI λi j=>some (.bl (decide (i<=j)))
def NN:D->D->Zd:=dI λi j=>some (.bl (decide (j<i)))
def TH:D->D->Zd:=dI λi j=>some (.bl (decide (j<=i)))
def xc:D->Zd
 |.int i=>some (.int (-i))
 |_=>none
section
variable {K:Zj}
def Qh{C:Int->Int->Prop}{g:Int->Int->V}{f:Int->Int->Zd}(h:∀i j d,f i j=some d->C i j/\sF d=some (g i j)):w6 K (rI C g) (dI f):=λS H x y d e z Q s dx dy q k=>by
 cases d<;>cases e<;>try cases q
 rename_i i j;obtain⟨h1,h2⟩:=h i j z q;exact⟨i,j,dx.int,dy.int,h1,k _ S H (Ext.refl s) (qZ h2)⟩
def Kh{g:Int->Int->V}{f:Int->Int->Zd}(h:∀i j d,f i j=some d->sF d=some (g i j)):w6 K (FO g) (dI f):=λS H x y d e z Q s dx dy q k=>by
 cases d<;>cases e<;>try cases q
 rename_i i j;exact⟨i,j,dx.int,dy.int,k _ S H (Ext.refl s) (qZ (h i j z q))⟩
def O9:w6 K (rI CMul λi j=>.int (i*j)) B9:=Qh λi j d h=>by
 obtain⟨c,rfl⟩:=rn h;refine⟨?_,rfl⟩;unfold CMul;have:(2:Int)^64=18446744073709551616:=by decide
 rw[this];exact c
def D6:w6 K (rI NV λi j=>.int (i/j)) vF:=Qh λi j d h=>by obtain⟨c,rfl⟩:=rn h;exact⟨c,rfl⟩
def g7:w6 K (rI (λ_ j=>0<j) λi j=>.int (i%j)) fv:=Qh λi j d h=>by obtain⟨c,rfl⟩:=rn h;exact⟨c,rfl⟩
def Pa:w6 K (rI LX λi j=>.int (i^j.toNat)) ET:=Qh λi j d h=>by
 obtain⟨c,rfl⟩:=rn h;refine⟨?_,rfl⟩;unfold LX;have:(2:Nat)^64=18446744073709551616:=by decide
 rw[this];exact c
def Pb:w6 K (FO λi j=>.int (i-j)) Mp:=Kh λi j d h=>by cases h;rfl
def M6:w6 K (FO λi j=>.bl (decide (i<j))) Oi:=Kh λi j d h=>by cases h;rfl
def HC:w6 K (FO λi j=>.bl (decide (i<=j))) Mo:=Kh λi j d h=>by cases h;rfl
def M5:w6 K (FO λi j=>.bl (decide (j<i))) NN:=Kh λi j d h=>by cases h;rfl
def um:R6 K (rU λi=>.int (-i)) xc:=λS H x d g Q s dx q k=>by
 cases d<;>try cases q
 rename_i i;exact⟨i,dx.int,k _ S H (Ext.refl s) (Zt.2 rfl)⟩
end
def Lj:R2:=λx y H Q=>∃l b xs zs,x=.ref l/\y=.ref b/\Rd H l (.lst xs)/\Rd H b (.lst zs)/\xs.length+zs.length<=sizeLine/\∀p,H p=none->Q (.ref p) (upd H p (.lst (xs++zs)))
def Ly(K:Zj):R2:=λx y H Q=>∃a b xs ys,x=.ref a/\y=.ref b/\SqT K H a xs/\SqT K H b ys/\xs.length+ys.length<=sizeLine /\
 (ys=[]->Q (.ref a) H)/\(xs=[]->Q (.ref b) H)/\∀p,H p=none->Q (.ref p) (upd H p (.tup (xs++ys)))
def Lv:R2:=λx y H Q=>∃i j,x=.str i/\y=.str j/\i.length+j.length<=sizeLine/\Q (.str (i++j)) H
def HA(K:Zj):R2:=λx y H Q=>(∃i j,x=.int i/\y=.int j/\Q (.int (i+j)) H)\/Lj x y H Q\/Ly K x y H Q\/Lv x y H Q
def b9:D->D->Zd
 |.int i,.int j=>some (.int (i+j))
 |.lst a,.lst b=>if a.length+b.length<=gA then some (.lst (a++b)) else none
 |.tup a,.tup b=>if a.length+b.length<=gA then some (.tup (a++b)) else none
 |.str a,.str b=>if a.length+b.length<=gA then some (.str (a++b)) else none
 |_,_=>none
section
variable {K:Zj}
def Dens.nil_iff{ds:Zc}{xs:Za}(h:Dens K S ds xs):xs=[]↔ds=[]:=by have:=h.length;cases ds<;>cases xs<;>simp_all
def g9{n:Nat}(h:n<=gA):n<=sizeLine:=U1 (Vd h gJ)
def eP:w6 K (HA K) b9:=λS H x y d e z Q s dx dy q k=>by
 cases d<;>cases e<;>try (cases q;done)
 ·rename_i i j;cases q;exact .inl ⟨i,j,dx.int,dy.int,k _ S H (Ext.refl s) (Zt.2 rfl)⟩
 ·rename_i i j;have q':(if i.length+j.length<=gA then some (D.str (i++j)) else none)=some z:=q;split at q'
  ·rename_i hl;cases q';exact .inr (.inr (.inr ⟨i,j,dx.str,dy.str,g9 hl,k _ S H (Ext.refl s) (Zo.2 rfl)⟩))
  ·cases q'
 ·rename_i a b;have q':(if a.length+b.length<=gA then some (D.lst (a++b)) else none)=some z:=q;split at q'
  ·rename_i hl;cases q';obtain⟨p,xs,rfl,h1,h2⟩:=dx.lst s;obtain⟨p',ys,rfl,h3,h4⟩:=dy.lst s;refine .inr (.inl ⟨p,p',xs,ys,rfl,rfl,h1,h3,by rw[<-h2.length,<-h4.length];exact g9 hl,λq hq=>?_⟩);have z:=Ext.new (o:=.lst (xs++ys)) s hq;exact k _ _ _ z (Zs.2 ⟨q,_,rfl,.inl aG,(h2.append h4).mono z.sh⟩)
  ·cases q'
 ·rename_i a b;have q':(if a.length+b.length<=gA then some (D.tup (a++b)) else none)=some z:=q;split at q'
  ·rename_i hl;cases q';obtain⟨p,xs,e1,h1,h2⟩:=dx.tup s;obtain⟨p',ys,e2,h3,h4⟩:=dy.tup s;have dx':Den K S (.tup a) x:=dx.elim id λ⟨_,_,_,e,_⟩=>by cases e
   have dy':Den K S (.tup b) y:=dy.elim id λ⟨_,_,_,e,_⟩=>by cases e
   subst e1 e2;refine .inr (.inr (.inl ⟨p,p',xs,ys,rfl,rfl,h1,h3,by rw[<-h2.length,<-h4.length];exact g9 hl,λe=>?_,λe=>?_,λq hq=>?_⟩))
   ·have:=h4.nil_iff.1 e;subst this;exact k _ S H (Ext.refl s) (by rw[Vb];exact dx')
   ·have:=h2.nil_iff.1 e;subst this;exact k _ S H (Ext.refl s) (by rw[List.nil_append];exact dy')
   ·have z:=Ext.new (o:=.tup (xs++ys)) s hq;exact k _ _ _ z (Zx.2 ⟨q,_,rfl,TpA.of aG,(h2.append h4).mono z.sh⟩)
  ·cases q'
end
mutual
def uM:D->D->Bool
 |.non,.non=>true
 |.bl a,.bl b=>a==b
 |.bl a,.int j=>(if a then 1 else 0)==j
 |.int i,.bl b=>i==(if b then 1 else 0)
 |.int i,.int j=>i==j
 |.str x,.str y=>x==y
 |.lst a,.lst b=>eqDs a b
 |.tup a,.tup b=>eqDs a b
 |.tup a,.mtp b=>eqDs a b
 |.mtp a,.tup b=>eqDs a b
 |.mtp a,.mtp b=>eqDs a b
 |_,_=>false
def eqDs:Zc->Zc->Bool
 |[],[]=>true
 |x::xs,y::ys=>uM x y&&eqDs xs ys
 |_,_=>false
end
mutual
def fM:Nat->D->Bool
 |_,.non=>true
 |_,.bl _=>true
 |_,.int _=>true
 |_,.str x=>PyData.strOk x
 |n+1,.lst l=>okDs n l
 |n+1,.tup l=>okDs n l
 |n+1,.mtp l=>okDs n l
 |_,_=>false
def okDs:Nat->Zc->Bool
 |_,[]=>true
 |n,d::l=>fM n d&&okDs n l
end
def M3(K:Zj)(neg:Bool):R2:=λx y H Q=>∃S d e,Same S H/\DenP K S H d x/\DenP K S H e y/\fM 50 d=true/\fM 50 e=true/\Q (.bl (if neg then !uM d e else uM d e)) H
def ci(neg:Bool)(d e:D):Zd:=if fM 50 d=true/\fM 50 e=true then some (.bl (if neg then !uM d e else uM d e)) else none
section
variable {K:Zj}
def bQ(neg:Bool):w6 K (M3 K neg) (ci neg):=λS H x y d e z Q s dx dy q k=>by
 unfold ci at q;split at q
 ·rename_i c;cases q;exact⟨S,d,e,s,dx,dy,c.1,c.2,k _ S H (Ext.refl s) (Zu.2 rfl)⟩
 ·cases q
end
def tR:D->Bool
 |.non=>true|_=>false
def Jt(neg:Bool)(d e:D):Zd:=match e with|.non=>some (.bl (if neg then !tR d else tR d))|_=>none
section
variable {K:Zj}
def JP(h:DenP K S H d v):decide (v=.non)=tR d:=by
 cases d with
 |non=>rw[h.non];rfl
 |bl b=>rw[h.bl];rfl
 |int b=>rw[h.int];rfl
 |str b=>rw[h.str];rfl
 |ty b=>rw[h.ty];rfl
 |lst l=>
  rcases h with h|⟨_,p,_,_,e,_⟩
  ·obtain⟨p,_,e,_⟩:=Zs.1 h;rw[e];rfl
  ·rw[e];rfl
 |tup l=>
  rcases h with h|⟨_,p,_,_,e,_⟩
  ·obtain⟨p,_,e,_⟩:=jC h;rw[e];rfl
  ·rw[e];rfl
 |scr l=>
  rcases h with h|⟨_,p,_,_,e,_⟩
  ·obtain⟨p,_,e,_⟩:=ZE.1 h;rw[e];rfl
  ·rw[e];rfl
 |ins C ns l=>
  rcases h with h|⟨_,p,_,_,e,_⟩
  ·obtain⟨p,_,_,_,e,_⟩:=ZB.1 h;rw[e];rfl
  ·rw[e];rfl
 |dic ks=>
  rcases h with h|⟨_,p,_,_,e,_⟩
  ·obtain⟨p,e,_⟩:=den_dic.1 h;rw[e];rfl
  ·rw[e];rfl
 |mtp l=>
  rcases h with h|⟨_,p,_,_,e,_⟩
  ·obtain⟨p,_,e,_⟩:=Zz.1 h;rw[e];rfl
  ·rw[e];rfl
 |dkv ks l=>
  rcases h with h|⟨_,p,_,_,e,_⟩
  ·obtain⟨p,_,e,_⟩:=den_dkv.1 h;rw[e];rfl
  ·rw[e];rfl
 |dif ks=>
  rcases h with h|⟨_,p,_,_,e,_⟩
  ·obtain⟨p,_,e,_⟩:=den_dif.1 h;rw[e];rfl
  ·rw[e];rfl
def LA:w6 K QR (Jt false):=λS H x y d e z Q s dx dy q k=>by
 cases e<;>try (cases q;done)
 cases q;exact⟨dy.non,by rw[JP dx];exact k _ S H (Ext.refl s) (Zu.2 rfl)⟩
end
def eU:D->D->Zd
 |.lst l,.int i=>fS l i
 |.tup l,.int i=>fS l i
 |.scr l,.int i=>fS l i
 |.mtp l,.int i=>fS l i
 |.str x,.int i=>if x.length<=gA then (fS x.cps.toList i).map λc=>.str ⟨#[c]⟩ else none
 |_,_=>none
section
variable {K:Zj}
def qU{ds:Zc}{xs:Za}{i:Int}{d:D}(h:Dens K S ds xs)(e:fS ds i=some d):∃v,fS xs i=some v/\Den K S d v:=by
 unfold fS at e ⊢;rw[<-h.length];cases q:DE ds.length i with
 |none=>rw[q] at e;cases e
 |some j=>rw[q] at e;exact h.get e
def cA:w6 K (O1 K) eU:=λS H x y d e z Q s dx dy q k=>by
 cases d<;>cases e<;>try (cases q;done)
 ·rename_i x' i;have q':(if x'.length<=gA then (fS x'.cps.toList i).map λc=>D.str ⟨#[c]⟩ else none)=some z:=q;split at q'
  ·rename_i hl;cases qc:fS x'.cps.toList i with
   |none=>rw[qc] at q';cases q'
   |some c=>rw[qc] at q';cases q';exact .inr (.inr ⟨x',i,c,dx.str,dy.int,g9 hl,qc,k _ S H (Ext.refl s) (Zo.2 rfl)⟩)
  ·cases q'
 ·rename_i l i;obtain⟨p,xs,rfl,h1,h2⟩:=dx.lst s;obtain⟨v,h3,h4⟩:=qU h2 q;exact .inl ⟨p,xs,i,v,rfl,dy.int,.inl h1,h3,k v S H (Ext.refl s) h4⟩
 ·rename_i l i;obtain⟨p,xs,rfl,h1,h2⟩:=dx.tup s;obtain⟨v,h3,h4⟩:=qU h2 q;exact .inr (.inl ⟨p,xs,i,v,rfl,dy.int,h1,h3,k v S H (Ext.refl s) h4⟩)
 ·rename_i l i;obtain⟨p,xs,rfl,h1,h2⟩:=dx.scr s;obtain⟨v,h3,h4⟩:=qU h2 q;exact .inl ⟨p,xs,i,v,rfl,dy.int,h1,h3,k v S H (Ext.refl s) h4⟩
 ·rename_i l i;obtain⟨p,xs,rfl,h1,h2⟩:=dx.mtp s;obtain⟨v,h3,h4⟩:=qU h2 q;exact .inr (.inl ⟨p,xs,i,v,rfl,dy.int,h1,h3,k v S H (Ext.refl s) h4⟩)
end
def pK{α:Type}(xs:List α)(lo hi:Option Int):List α:=(xs.drop (HT.fU xs.length 0 lo)).take (HT.fU xs.length xs.length hi-HT.fU xs.length 0 lo)
def O7(K:Zj):V->Option Int->Option Int->Hp->VK->Prop:=λx lo hi H Q=>O6 K x lo hi H Q \/
 ∃a xs,x=.ref a/\SqT K H a xs/\(oJ xs lo hi=xs->Q (.ref a) H)/\∀p,H p=none->Q (.ref p) (upd H p (.tup (oJ xs lo hi)))
abbrev XO:=Env->Option (Option Int)
def SO(K:Zj)(t:TO)(o:XO):Prop:=∀ρ σ S H (Q:Option Int->Hp->Prop) i,Rl K ρ σ S H->o ρ=some i->(∀S' H',Ext S H S' H'->Q i H')->t σ H Q
@[simp]def eg:XO:=λ_=>some none
@[simp]def j0(a:XE):XO:=λρ=>(a ρ).bind λd=>match d with|.int i=>some (some i)|_=>none
section
variable {K:Zj}
def et:SO K Ek eg:=λρ σ S H Q i r x k=>by cases x;exact k S H (Ext.refl r.sub)
def iQ{ta:TE} (h:SPk K ta a):SO K (LH ta) (j0 a):=λρ σ S H Q i r x k=>by
 obtain⟨d,q,x⟩:=ZM x;cases d<;>try (cases x;done)
 rename_i j;cases x;exact h ρ σ S H _ _ r q λv S1 H1 z1 d1=>⟨j,d1.int,k S1 H1 z1⟩
def li{ds:Zc}{xs:Za}(h:Dens K S ds xs)(lo hi:Option Int):Dens K S (pK ds lo hi) (oJ xs lo hi):=by unfold pK oJ;rw[h.length];exact (h.drop _).take _
def P7(d:D)(lo hi:Option Int):Zd:=match d with
 |.lst l=>some (.lst (pK l lo hi))
 |.tup l=>some (.tup (pK l lo hi))
 |.scr l=>some (.lst (pK l lo hi))
 |.mtp l=>some (.mtp (pK l lo hi))
 |_=>none
@[simp]def Dc(a:XE)(lo hi:XO):XE:=λρ=>(a ρ).bind λd=>(lo ρ).bind λl=>(hi ρ).bind λh=>P7 d l h
def wD{te:TE}{tl th:TO} {lo hi:XO}(ha:SPk K te a)(hl:SO K tl lo)(hh:SO K th hi):SE K (Q3 (O7 K) te tl th) (Dc a lo hi):=λρ σ S H Q g r x k=>by
 unfold Dc at x;cases q:a ρ with
 |none=>rw[q] at x;cases x
 |some d=>
  rw[q] at x;dsimp only[Option.bind] at x;cases ql:lo ρ with
  |none=>rw[ql] at x;cases x
  |some l=>
   rw[ql] at x;dsimp only at x;cases qh:hi ρ with
   |none=>rw[qh] at x;cases x
   |some h=>
    rw[qh] at x;dsimp only at x;refine ha ρ σ S H _ d r q λv S1 H1 z1 d1=>?_;have r1:=r.ext z1;refine hl ρ σ S1 H1 _ l r1 ql λS2 H2 z2=>?_;have r2:=r1.ext z2;refine hh ρ σ S2 H2 _ h r2 qh λS3 H3 z3=>?_;have z23:=z2.trans z3;have d3:=d1.mono z23 r1.sub;have s3:=(r2.ext z3).sub;have z:=z1.trans z23;cases d<;>try (cases x;done)
    ·cases x;obtain⟨p,xs,rfl,h1,h2⟩:=d3.lst s3;refine .inl ⟨p,xs,rfl,.inl h1,λp' hp=>?_⟩;have z4:=Ext.new (o:=.lst (oJ xs l h)) s3 hp;exact k _ _ _ (z.trans z4) (Zs.2 ⟨p',_,rfl,.inl aG,(li h2 l h).mono z4.sh⟩)
    ·rename_i ds;cases x;have d3':Den K S3 (.tup ds) v:=d3.elim id λ⟨_,_,_,e,_⟩=>by cases e
     obtain⟨p,xs,e,h1,h2⟩:=d3.tup s3;subst e;refine .inr ⟨p,xs,rfl,h1,λe=>k _ S3 H3 z ?_,λp' hp=>?_⟩
     ·obtain⟨p2,xs2,e2,h3,h4⟩:=Zx.1 d3';cases e2;have c:=li h2 l h;rw[e] at c;refine Zx.2 ⟨p,xs2,rfl,h3,?_⟩;have ZO:=c.length;have:pK ds l h=ds:=by
       have hl2:(pK ds l h).length=ds.length:=by rw[c.length,h2.length]
       unfold pK at hl2 ⊢;rw[WN,WP] at hl2;have a0:HT.fU ds.length 0 l=0\/ds.length=0:=()
       rcases a0 with a0|a0
       ·rw[a0,X2] at *;exact X3 ()
       ·have:ds=[]:=List.length_eq_zero_iff.1 a0;subst this;simp
      rw[this];exact h4
     ·have z4:=Ext.new (o:=.tup (oJ xs l h)) s3 hp;exact k _ _ _ (z.trans z4) (Zx.2 ⟨p',_,rfl,TpA.of aG,(li h2 l h).mono z4.sh⟩)
    ·cases x;obtain⟨p,xs,rfl,h1,h2⟩:=d3.scr s3;refine .inl ⟨p,xs,rfl,h1,λp' hp=>?_⟩;have z4:=Ext.new (o:=.lst (oJ xs l h)) s3 hp;exact k _ _ _ (z.trans z4) (Zs.2 ⟨p',_,rfl,.inl aG,(li h2 l h).mono z4.sh⟩)
    ·rename_i ds;cases x;have d3':Den K S3 (.mtp ds) v:=d3.elim id λ⟨_,_,_,e,_⟩=>by cases e
     obtain⟨p,xs,e,h3,h4⟩:=Zz.1 d3';subst e;refine .inr ⟨p,xs,rfl,bE s3 h3,λe=>k _ S3 H3 z (Zz.2 ⟨p,xs,rfl,h3,by have c:=li h4 l h;rwa[e] at c⟩),λp' hp=>?_⟩;have z4:=Ext.new (o:=.tup (oJ xs l h)) s3 hp;exact k _ _ _ (z.trans z4) (Zz.2 ⟨p',_,rfl,SqT.of aG,(li h4 l h).mono z4.sh⟩)
def Lp(K:Zj):Za->Hp->VK->Prop:=λxs H Q=>∃x n,xs=[x]/\NZ K x H n/\Q (.int n) H
def pH:Zb
 |[.lst l]=>some (.int l.length)
 |[.tup l]=>some (.int l.length)
 |[.scr l]=>some (.int l.length)
 |[.mtp l]=>some (.int l.length)
 |[.str x]=>if x.length<=gA then some (.int x.length) else none
 |_=>none
def gh{d:D} (h:ZK K S H [d] vs):∃v,vs=[v]/\DenP K S H d v:=by
 cases h with
 |cons a b=>cases b;exact⟨_,rfl,a⟩
def Iy{d e:D} (h:ZK K S H [d,e] vs):∃v w,vs=[v,w]/\DenP K S H d v/\DenP K S H e w:=by
 cases h with
 |cons a b=>cases b with
  |cons c b=>cases b;exact⟨_,_,rfl,a,c⟩
def oV:FV K (Lp K) pH:=λS H vs ds g Q s d q k=>by
 unfold pH at q;split at q
 ·rename_i l;cases q;obtain⟨v,rfl,d1⟩:=gh d;obtain⟨p,xs,rfl,h1,h2⟩:=d1.lst s;exact⟨_,xs.length,rfl,.inl ⟨xs,.inl h1,rfl⟩,k _ S H (Ext.refl s) (Zt.2 (by rw[h2.length]))⟩
 ·rename_i l;cases q;obtain⟨v,rfl,d1⟩:=gh d;obtain⟨p,xs,rfl,h1,h2⟩:=d1.tup s;exact⟨_,xs.length,rfl,.inr ⟨xs,h1,rfl⟩,k _ S H (Ext.refl s) (Zt.2 (by rw[h2.length]))⟩
 ·rename_i l;cases q;obtain⟨v,rfl,d1⟩:=gh d;obtain⟨p,xs,rfl,h1,h2⟩:=d1.scr s;exact⟨_,xs.length,rfl,.inl ⟨xs,h1,rfl⟩,k _ S H (Ext.refl s) (Zt.2 (by rw[h2.length]))⟩
 ·rename_i l;cases q;obtain⟨v,rfl,d1⟩:=gh d;obtain⟨p,xs,rfl,h1,h2⟩:=d1.mtp s;exact⟨_,xs.length,rfl,.inr ⟨xs,h1,rfl⟩,k _ S H (Ext.refl s) (Zt.2 (by rw[h2.length]))⟩
 ·rename_i x;split at q
  ·rename_i hl;cases q;obtain⟨v,rfl,d1⟩:=gh d;exact⟨_,x.length,rfl,by rw[d1.str];exact⟨g9 hl,rfl⟩,k _ S H (Ext.refl s) (Zt.2 rfl)⟩
  ·cases q
 ·cases q
def sC:Zb
 |[.lst l]=>some (.tup l)
 |[.tup l]=>some (.tup l)
 |[.scr l]=>some (.tup l)
 |_=>none
def Dp:FV K (M4 K) sC:=λS H vs ds g Q s d q k=>by
 unfold sC at q;split at q
 ·rename_i l;cases q;obtain⟨v,rfl,d1⟩:=gh d;obtain⟨p,xs,rfl,h1,h2⟩:=d1.lst s;refine⟨p,xs,rfl,.inl ⟨.inl h1,λq hq=>?_⟩⟩;have z:=Ext.new (o:=.tup xs) s hq;exact k _ _ _ z (Zx.2 ⟨q,_,rfl,TpA.of aG,h2.mono z.sh⟩)
 ·rename_i l;cases q;obtain⟨v,rfl,d1⟩:=gh d;have d':Den K S (.tup l) v:=d1.elim id λ⟨_,_,_,e,_⟩=>by cases e
  obtain⟨p,xs,rfl,h1,h2⟩:=d1.tup s;exact⟨p,xs,rfl,.inr ⟨h1,k _ S H (Ext.refl s) d'⟩⟩
 ·rename_i l;cases q;obtain⟨v,rfl,d1⟩:=gh d;obtain⟨p,xs,rfl,h1,h2⟩:=d1.scr s;refine⟨p,xs,rfl,.inl ⟨h1,λq hq=>?_⟩⟩;have z:=Ext.new (o:=.tup xs) s hq;exact k _ _ _ z (Zx.2 ⟨q,_,rfl,TpA.of aG,h2.mono z.sh⟩)
 ·cases q
def F6:Zc->Option (Zc)
 |[.lst l]=>some l
 |[.tup l]=>some l
 |[.scr l]=>some l
 |_=>none
def Dn:Zb
 |[.int i,.int j]=>some (.int (if j > i then j else i))
 |_=>none
def Oc:Zb
 |[.int i,.int j]=>some (.int (if j<i then j else i))
 |_=>none
def Me:FV K O5 Dn:=λS H vs ds g Q s d q k=>by
 unfold Dn at q;split at q
 ·rename_i i j;cases q;obtain⟨v,w,rfl,d1,d2⟩:=Iy d;exact⟨i,j,by rw[d1.int,d2.int],k _ S H (Ext.refl s) (Zt.2 rfl)⟩
 ·cases q
def e9:Zc->Option (Zn)
 |[]=>some []
 |.int i::l=>(e9 l).map λr=>i::r
 |_=>none
theorem sG:∀ {ds:Zc} {xs:Za} {ns:Zn},Dens K S ds xs->e9 ds=some ns->xs=ns.map V.int/\ds=ns.map D.int
 |[],xs,ns,h,e=>by cases e;exact⟨h.nil_of,rfl⟩
 |d::ds,xs,ns,h,e=>by
  obtain⟨y,ys,rfl,h1,h2⟩:=h.cons_of;cases d<;>try (cases e;done)
  rename_i i;have e':(e9 ds).map (λr=>i::r)=some ns:=e;cases q:e9 ds with
  |none=>rw[q] at e';cases e'
  |some ms=>rw[q] at e';cases e';obtain⟨k1,k2⟩:=sG h2 q;rw[Zt.1 h1,k1];exact⟨rfl,U5 (D.int i :: ·) k2⟩
def Jm:Zb
 |[.lst l]=>(e9 l).map λns=>.int ns.sum
 |_=>none
def K8:FV K (Lx K) Jm:=λS H vs ds g Q s d q k=>by
 unfold Jm at q;split at q
 ·rename_i l;cases qi:e9 l with
  |none=>rw[qi] at q;cases q
  |some ns=>rw[qi] at q;cases q;obtain⟨v,rfl,d1⟩:=gh d;obtain⟨p,xs,rfl,h1,h2⟩:=d1.lst s;obtain⟨e,_⟩:=sG h2 qi;subst e;exact⟨p,ns,rfl,.inl h1,k _ S H (Ext.refl s) (Zt.2 rfl)⟩
 ·cases q
def Ob:Zb
 |[.int i]=>some (.int i)
 |[.bl b]=>some (.int (if b then 1 else 0))
 |_=>none
@[simp]def Tp(a:XE):XA:=λρ=>(a ρ).bind λd=>match d with|.lst l=>some l.reverse|_=>none
def Q5:D->Option String
 |.non=>some "NoneType" |.bl _=>some "bool" |.int _=>some "int" |.str _=>some "str" |.lst _=>some "list" |.tup _=>some "tuple" |_=>none
def KH(t T:String):Bool:=t==T || (t == "bool" && T == "int")
def Sq(K:Zj)(H:Hp)(x:V)(t:String):Prop:=match x with
 |.non=>t="NoneType" |.bl _=>t="bool" |.int _=>t="int" |.str _=>t="str"
 |.ref p=>(t="list" /\ ∃xs,Rd H p (.lst xs))\/(t="tuple" /\ ∃xs,SqT K H p xs)
 |_=>False
def Ox:List String:=["bool", "int", "str", "list", "tuple"]
def Lm(K:Zj):Za->Hp->VK->Prop:=λxs H Q=>∃x T t,xs=[x,.ty T]/\Sq K H x t/\T∈Ox/\Q (.bl (KH t T)) H
def sB:Zb
 |[d,.ty T]=>if T∈Ox then (Q5 d).map λt=>.bl (KH t T) else none
 |_=>none
def Pw{t:String}(s:Same S H)(h:DenP K S H d v)(e:Q5 d=some t):Sq K H v t:=by
 cases d with
 |non=>rw[h.non];cases e;rfl
 |bl b=>rw[h.bl];cases e;rfl
 |int b=>rw[h.int];cases e;rfl
 |str b=>rw[h.str];cases e;rfl
 |lst l=>
  cases e;obtain⟨p,xs,rfl,h1,h2⟩:=h.lst s;exact .inl ⟨rfl,xs,h1⟩
 |tup l=>
  cases e;obtain⟨p,xs,rfl,h1,h2⟩:=h.tup s;exact .inr ⟨rfl,xs,h1⟩
 |_=>cases e
def xE:FV K (Lm K) sB:=λS H vs ds g Q s d q k=>by
 unfold sB at q;split at q
 ·rename_i d0 T;split at q
  ·rename_i hT;cases qt:Q5 d0 with
   |none=>rw[qt] at q;cases q
   |some t=>rw[qt] at q;cases q;obtain⟨v,w,rfl,d1,d2⟩:=Iy d;exact⟨v,T,t,by rw[d2.ty],Pw s d1 qt,hT,k _ S H (Ext.refl s) (Zu.2 rfl)⟩
  ·cases q
 ·cases q
end
def BF(k:Zn):D:=.tup (k.map D.int)
def JH:D->Option (Zn)
 |.tup l=>if l.isEmpty then none else e9 l
 |_=>none
def E9:Zc->Option (Zm)
 |[]=>some []
 |d::l=>(JH d).bind λk=>(E9 l).map λr=>k::r
theorem AF:∀a b:Zn,HT.dR a b=true->HT.dR b a=false
 |[],[],h=>by cases h
 |[],_::_,_=>rfl
 |_::_,[],h=>by cases h
 |x::a,y::b,h=>by
  have h':(if x=y then HT.dR a b else decide (x<y))=true:=h;show (if y=x then HT.dR b a else decide (y<x))=false;by_cases e:x=y
  ·rw[Uv e] at h';rw[Uv e.symm];exact AF a b h'
  ·rw[Uu e] at h';rw[Uu (λz=>e z.symm)];have:=V2 h';exact UU ()
theorem x6:∀a b:Zn,HT.dR a b=false->HT.dR b a=false->a=b
 |[],[],_,_=>rfl
 |[],_::_,h,_=>by cases h
 |_::_,[],_,h=>by cases h
 |x::a,y::b,h,k=>by
  have h':(if x=y then HT.dR a b else decide (x<y))=false:=h;have k':(if y=x then HT.dR b a else decide (y<x))=false:=k;by_cases e:x=y
  ·rw[Uv e] at h';rw[Uv e.symm] at k';rw[e,x6 a b h' k']
  ·rw[Uu e] at h';rw[Uu (λz=>e z.symm)] at k';have:=VQ h';have:=VQ k';lia
theorem x8:∀a b c:Zn,HT.dR a b=false->HT.dR b c=false->HT.dR a c=false
 |[],[],_,_,k=>k
 |[],_::_,_,h,_=>by cases h
 |_::_,_,[],_,_=>rfl
 |_::_,[],_::_,_,k=>by cases k
 |x::a,y::b,z::c,h,k=>by
  have h':(if x=y then HT.dR a b else decide (x<y))=false:=h;have k':(if y=z then HT.dR b c else decide (y<z))=false:=k;show (if x=z then HT.dR a c else decide (x<z))=false;by_cases e1:x=y
  ·rw[Uv e1] at h';subst e1;by_cases e2:x=z
   ·rw[Uv e2] at k' ⊢;exact x8 a b c h' k'
   ·rw[Uu e2] at k' ⊢;exact k'
  ·rw[Uu e1] at h';have g1:=VQ h';by_cases e2:y=z
   ·subst e2;rw[Uu e1];exact h'
   ·rw[Uu e2] at k';have g2:=VQ k';rw[Uu ()];exact UU ()
def E2(x:Zn):Zm->Zm
 |[]=>[x]
 |y::l=>if HT.dR y x=true then y::E2 x l else x::y::l
def wM(ks:Zm):Zm:=ks.foldr E2 []
def xW(x:Zn)(l:Zm):(E2 x l).Perm (x::l):=by
 induction l with
 |nil=>exact .refl _
 |cons y l ih=>
  unfold E2;split
  ·exact (ih.cons y).trans (.swap x y l)
  ·exact .refl _
def Ec(ns:Zn):Zn:=ns.mergeSort λa b=>decide (a<=b)
def CU(ks:Zm):(wM ks).Perm ks:=by
 induction ks with
 |nil=>exact .refl _
 |cons x l ih=>exact (xW x (wM l)).trans (ih.cons x)
def CS(ns:Zn):(Ec ns).Perm ns:=List.mergeSort_perm _ _
def JG(x:Zn)(l:Zm)(h:l.Pairwise λa b=>HT.dR b a=false):(E2 x l).Pairwise λa b=>HT.dR b a=false:=by
 induction l with
 |nil=>exact .cons (λ_ z=>by cases z) .nil
 |cons y l ih=>
  have hy:∀z,z∈l->HT.dR z y=false:=λz hz=>List.rel_of_pairwise_cons h hz;unfold E2;cases q:HT.dR y x with
  |true=>
   refine .cons (λz hz=>?_) (ih (List.Pairwise.of_cons h));rcases UC.1 ((xW x l).mem_iff.mp hz) with rfl|hz
   ·exact AF y _ q
   ·exact hy z hz
  |false=>
   refine .cons (λz hz=>?_) h;rcases UC.1 hz with rfl|hz
   ·exact q
   ·exact x8 z y x (hy z hz) q
def HZ(ks:Zm):(wM ks).Pairwise λa b=>HT.dR b a=false:=by
 induction ks with
 |nil=>exact .nil
 |cons x l ih=>exact JG x (wM l) ih
def HY(ns:Zn):(Ec ns).Pairwise (· <= ·):=by
 have h:=List.pairwise_mergeSort (le:=λa b:Int=>decide (a<=b)) (λa b c h k=>by
  have:=V2 h;have:=V2 k;exact VZ ()) (λa b=>by
  by_cases h:a<=b
  ·simp[h]
  ·simp[show b<=a by lia]) ns
 exact h.imp λ{a b} e=>V2 e
def CV{ks js:Zm}(hp:js.Perm ks)(hw:js.Pairwise λa b=>HT.dR b a=false):js=wM ks:=
 X4 (λa b _ _ h k=>x6 a b k h) hw (HZ ks) (hp.trans (CU ks).symm)
def CT{ns ms:Zn}(hp:ms.Perm ns)(hw:ms.Pairwise (· <= ·)):ms=Ec ns:=
 X4 (λa b _ _ h k=>()) hw (HY ns) (hp.trans (CS ns).symm)
def HB(K:Zj):Za->Hp->VK->Prop:=λxs H Q=>∃p,∃yks:List (V×Zn),xs=[.ref p]/\SqL K H p (yks.map (·.1))/\yks.length<64/\(∀yk∈yks,∃q,yk.1=.ref q/\SqT K H q (yk.2.map V.int)/\yk.2≠[]) /\
 ∀(zks:List (V×Zn)) l,zks.Perm yks->zks.Pairwise (λa b=>HT.dR b.2 a.2=false)->H l=none->Q (.ref l) (upd H l (.lst (zks.map (·.1))))
def Bb(K:Zj):Za->Hp->VK->Prop:=λxs H Q=>Ba K xs H Q\/HB K xs H Q
def uJ:Zc->Option (Zc)
 |[.lst l]=>if l.length<64 then (match e9 l with
  |some ns=>some ((Ec ns).map D.int)
  |none=>(E9 l).map λks=>(wM ks).map BF) else none
 |_=>none
section
variable {K:Zj}
def JI{k:Zn}(h:JH d=some k):d=BF k/\k≠[]:=by
 cases d<;>try (cases h;done)
 rename_i l;have h':(if l.isEmpty then none else e9 l)=some k:=h;split at h'
 ·cases h'
 ·rename_i hne;have key:∀(l:Zc) (k:Zn),e9 l=some k->l=k.map D.int:=by
   intro l;induction l with
   |nil=>intro k e;cases e;rfl
   |cons d l ih=>
    intro k e;cases d<;>try (cases e;done)
    rename_i i;have e':(e9 l).map (λr=>i::r)=some k:=e;cases q:e9 l with
    |none=>rw[q] at e';cases e'
    |some m=>rw[q] at e';cases e';rw[ih m q];rfl
  have e:=key l k h';subst e;exact⟨rfl,λz=>by subst z;exact hne rfl⟩
theorem DG:∀ {l:Zc} {ks:Zm},E9 l=some ks->l=ks.map BF/\∀k∈ks,k≠[]
 |[],ks,h=>by cases h;exact⟨rfl,λ_ h=>by cases h⟩
 |d::l,ks,h=>by
  have h':((JH d).bind λk=>(E9 l).map λr=>k::r)=some ks:=h;cases q:JH d with
  |none=>rw[q] at h';cases h'
  |some k=>
   rw[q] at h';dsimp only[Option.bind] at h';cases q2:E9 l with
   |none=>rw[q2] at h';cases h'
   |some r=>
    rw[q2] at h';cases h';obtain⟨a,b⟩:=DG q2;obtain⟨c,d⟩:=JI q;refine⟨by rw[UG,<-a,<-c],λk hk=>?_⟩;rcases UC.1 hk with rfl|hk
    ·exact d
    ·exact b k hk
theorem vS:∀ {S:Hp} {k:Zn} {xs:Za},Dens K S (k.map D.int) xs->xs=k.map V.int
 |S,[],xs,h=>h.nil_of
 |S,i::k,xs,h=>by obtain⟨y,ys,rfl,h1,h2⟩:=h.cons_of;rw[Zt.1 h1,vS h2];rfl
theorem As:∀ {ks:Zm} {xs:Za},Dens K S (ks.map BF) xs->(xs.zip ks).map (·.1)=xs/\(xs.zip ks).map (·.2)=ks/\(xs.zip ks).length=ks.length/\∀yk∈xs.zip ks,Den K S (BF yk.2) yk.1
 |[],xs,h=>by rw[h.nil_of];exact⟨rfl,rfl,rfl,λ_ h=>by cases h⟩
 |k::ks,xs,h=>by
  obtain⟨y,ys,rfl,h1,h2⟩:=h.cons_of;obtain⟨a,b,c,d⟩:=As h2;refine⟨by rw[Wo,UG,a],by rw[Wo,UG,b],by rw[Wo,UI,c,UI],λyk hm=>?_⟩;rw[Wo] at hm;rcases UC.1 hm with rfl|hm
  ·exact h1
  ·exact d yk hm
theorem oX:∀ {zks:List (V×Zn)},(∀yk∈zks,Den K S (BF yk.2) yk.1)->Dens K S ((zks.map (·.2)).map BF) (zks.map (·.1))
 |[],_=>.nil
 |yk::zks,h=>.cons (h yk UL) (oX λz hz=>h z (UJ _ hz))
def Ab:QF K (Bb K) uJ:=λS H vs ds g Q s d q k=>by
 unfold uJ at q;split at q
 ·rename_i l;split at q
  ·rename_i hl;obtain⟨v,rfl,d1⟩:=gh d;obtain⟨p,xs,rfl,h1,h2⟩:=d1.lst s;cases qi:e9 l with
   |some ns=>
    rw[qi] at q;cases q;obtain⟨e1,e2⟩:=sG h2 qi;subst e1 e2;refine .inl ⟨p,ns,rfl,.inl h1,by rw[UN] at hl;exact hl,λms a pm pw ha=>?_⟩;rw[CT pm pw];refine k a _ _ (Ext.own s ha) ha aG ?_;have key:∀ns:Zn,Dens K S (ns.map D.int) (ns.map V.int):=by
     intro ns;induction ns with
     |nil=>exact .nil
     |cons n ns ih=>exact .cons (Zt.2 rfl) ih
    exact key _
   |none=>
    rw[qi] at q;dsimp only at q;cases qk:E9 l with
    |none=>rw[qk] at q;cases q
    |some ks=>
     rw[qk] at q;cases q;obtain⟨e1,e2⟩:=DG qk;subst e1;obtain⟨a,b,c,dd⟩:=As h2;refine .inr ⟨p,xs.zip ks,rfl,by rw[a];exact .inl h1,by rw[c];rw[UN] at hl;exact hl,λyk hm=>?_,λzks l pm pw hl=>?_⟩
     ·obtain⟨q,ys,e,g1,g2⟩:=jC (dd yk hm);have:=vS g2;subst this;refine⟨q,e,bE s g1,e2 _ ?_⟩;rw[<-b];exact X5.2 ⟨yk,hm,rfl⟩
     ·have e:zks.map (·.2)=wM ks:=by
       refine CV ?_ ?_
       ·rw[<-b];exact pm.map _
       ·rw[WT];exact pw
      have dz:Dens K S ((zks.map (·.2)).map BF) (zks.map (·.1)):=oX λyk hm=>dd yk (pm.mem_iff.1 hm);rw[e] at dz;exact k l _ _ (Ext.own s hl) hl aG dz
  ·cases q
 ·cases q
def d7{ta:TE} (ha:SPk K ta a):ST K (Pv K ta) (iR a):=Pk ha
end
def Oh:D->D->Zd:=dI λi j=>some (.int (i+j))
def Nk{ta:TE} (ha:SQ K ta a):ST K (Pv K ta) (iR a):=λρ σ S H Q b r x k=>by obtain⟨da,qa,x⟩:=ZM x;exact ha ρ σ S H _ da r qa λv S1 H1 z1 d1=>⟨b,Iv (Same.refl H1) (.inl d1) x,k S1 H1 z1⟩
@[simp]def zX{α:Type}(l:List α)(x:α):fS (l++[x]) (-1)=some x:=by
 unfold fS DE;rw[Uu (by decide),U2,VP,Uv ()];have:((-1:Int)+((l.length+1:Nat):Int)).toNat=l.length:=()
 dsimp only[Option.bind];rw[this];simp
def Mb{α:Type}{l:List α}{j:Nat}{x:α}(h:l[j]?=some x):fS l (j:Int)=some x:=by have:=(UX.1 h).1;unfold fS DE;rw[Uv (),Uv ()];dsimp only[Option.bind];rw[Wp];exact h
@[simp]def ym(l:List O)(x:O)(f:O->O):wq (l++[x]) (-1) f=l++[f x]:=by
 unfold wq DE;rw[Uu (by decide),U2,VP,Uv ()];have:((-1:Int)+((l.length+1:Nat):Int)).toNat=l.length:=()
 dsimp only;rw[this];simp
@[simp]def NM{α:Type}(l:List α)(a b:α):fS (l++[a,b]) (-1)=some b:=by have:=zX (l++[a]) b;rw[VF] at this;exact this
@[simp]def P3{α:Type}(a:α):fS [a] (-1)=some a:=zX [] a
@[simp]def M2(l:List O)(a b:O)(f:O->O):wq (l++[a,b]) (-1) f=l++[a,f b]:=by have:=ym (l++[a]) b f;rw[VF,VF] at this;exact this
@[simp]def OT(a:O)(f:O->O):wq [a] (-1) f=[f a]:=ym [] a f
@[simp]def Op(i:Int):sF (.int i)=some (.int i):=rfl
@[simp]def P8(i:Bool):sF (.bl i)=some (.bl i):=rfl
@[simp]def Ot(i:Str):sF (.str i)=some (.str i):=rfl
@[simp]def Oq:sF .non=some .non:=rfl
@[simp]def Qg(a b:O)(f:O->O):wq [a,b] 1 f=[a,f b]:=rfl
section
variable (i j:Int)(a b:Zc)(neg:Bool)(ρ:Env)
@[simp]def SR:Mp (.int i) (.int j)=some (.int (i-j)):=rfl
@[simp]def Sr:b9 (.int i) (.int j)=some (.int (i+j)):=rfl
@[simp]def Q7:Oh (.int i) (.int j)=some (.int (i+j)):=rfl
@[simp]def Ui:Oi (.int i) (.int j)=some (.bl (decide (i<j))):=rfl
@[simp]def Uh:Mo (.int i) (.int j)=some (.bl (decide (i<=j))):=rfl
@[simp]def Ug:NN (.int i) (.int j)=some (.bl (decide (j<i))):=rfl
@[simp]def Uf:TH (.int i) (.int j)=some (.bl (decide (j<=i))):=rfl
@[simp]def SH:xc (.int i)=some (.int (-i)):=rfl
@[simp]def Rm{i j:Int}(h:-18446744073709551616<j/\j<18446744073709551616):B9 (.int i) (.int j)=some (.int (i*j)):=ol (.inr h)
@[simp]def Rk{i j:Int}(h:-18446744073709551616<i/\i<18446744073709551616):B9 (.int i) (.int j)=some (.int (i*j)):=ol (.inl h)
@[simp]def Ss{i j:Int}(h:0<j/\j<1073741824):vF (.int i) (.int j)=some (.int (i/j)):=ol h
@[simp]def SC{i j:Int}(h:0<j):fv (.int i) (.int j)=some (.int (i%j)):=ol h
@[simp]def SK{i j:Int}(h:0<=j/\j<=1000000/\i.natAbs<18446744073709551616):ET (.int i) (.int j)=some (.int (i^j.toNat)):=ol h
@[simp]def Sv(d:D):Jt neg d .non=some (.bl (if neg then !tR d else tR d)):=rfl
@[simp]def Py:tR .non=true:=rfl
@[simp]def Pz:tR (.int i)=false:=rfl
@[simp]def PD:tR (.tup a)=false:=rfl
@[simp]def Sw:eU (.lst a) (.int i)=fS a i:=rfl
@[simp]def Sy:eU (.tup a) (.int i)=fS a i:=rfl
@[simp]def Sx:eU (.scr a) (.int i)=fS a i:=rfl
@[simp]def Rt:BE (.lst a)=some (!a.isEmpty):=rfl
@[simp]def Rx:BE (.tup a)=some (!a.isEmpty):=rfl
@[simp]def Rv:BE (.scr a)=some (!a.isEmpty):=rfl
@[simp]def Rr(x:Bool):BE (.bl x)=some x:=rfl
@[simp]def Rs:BE (.int i)=some (i != 0):=rfl
@[simp]def Ru:BE .non=some false:=rfl
@[simp]def Re:pH [.lst a]=some (.int a.length):=rfl
@[simp]def Rg:pH [.tup a]=some (.int a.length):=rfl
@[simp]def Rf:pH [.scr a]=some (.int a.length):=rfl
@[simp]def Ry:sC [.lst a]=some (.tup a):=rfl
@[simp]def Rz:sC [.tup a]=some (.tup a):=rfl
@[simp]def Rh:F6 [.lst a]=some a:=rfl
@[simp]def Rj:F6 [.tup a]=some a:=rfl
@[simp]def Ri:F6 [.scr a]=some a:=rfl
@[simp]def Sz:Dn [.int i,.int j]=some (.int (if j > i then j else i)):=rfl
@[simp]def SB:Oc [.int i,.int j]=some (.int (if j<i then j else i)):=rfl
@[simp]def Su:Ob [.int i]=some (.int i):=rfl
@[simp]def Q8(x:Bool):Ob [.bl x]=some (.int (if x then 1 else 0)):=rfl
@[simp]def Ro:KA (.lst a)=some a:=rfl
@[simp]def Rq:KA (.tup a)=some a:=rfl
@[simp]def Rp:KA (.scr a)=some a:=rfl
@[simp]def SL(lo hi:Option Int):P7 (.lst a) lo hi=some (.lst (pK a lo hi)):=rfl
@[simp]def SN(lo hi:Option Int):P7 (.tup a) lo hi=some (.tup (pK a lo hi)):=rfl
@[simp]def SM(lo hi:Option Int):P7 (.scr a) lo hi=some (.lst (pK a lo hi)):=rfl
@[simp]def Ue(y:K6):gX y (.tup a) ρ=y a ρ:=rfl
@[simp]def Uc(x:XG)(y:K6)(d:D):bB x y (d::a) ρ=(x d ρ).bind (y a):=rfl
@[simp]def Ud:gz [] ρ=some ρ:=rfl
@[simp]def Ra:sB [.int i,.ty "int"]=some (.bl true):=rfl
@[simp]def Q9:sB [.int i,.ty "bool"]=some (.bl false):=rfl
@[simp]def Rc:sB [.tup a,.ty "tuple"]=some (.bl true):=rfl
@[simp]def Rb:sB [.lst a,.ty "list"]=some (.bl true):=rfl
@[simp]def Qn(x:Bool):sB [.bl x,.ty "bool"]=some (.bl true):=rfl
end
@[simp]def OP(os:List O):Hu (.ow (.lst os))=(oQ os).map D.lst:=rfl
@[simp]def Qj:oQ []=some []:=rfl
@[simp]def Bx(d:D)(l:List O):oQ (.sh d::l)=(oQ l).map λr=>d::r:=rfl
@[simp]def Pl(l:Zc):oQ (l.map O.sh)=some l:=u6 l
@[simp]def HX{α:Type}(f:α->D)(l:List α):oQ (l.map (O.sh∘f))=some (l.map f):=by rw[<-YT];exact u6 _
@[simp]def Pm{α:Type}(f:α->D)(l:List α):oQ (l.map λa=>O.sh (f a))=some (l.map f):=HX f l
@[simp]theorem KC:∀(a b:List O),oQ (a++b)=(oQ a).bind λx=>(oQ b).map λy=>x++y
 |[],b=>by cases h:oQ b<;>simp[h]
 |.sh d::a,b=>by
  rw[List.cons_append,Bx,Bx,KC a b];cases oQ a with
  |none=>rfl
  |some x=>cases oQ b<;>rfl
 |.dic _::_,_=>rfl
 |.hd _ _ _::_,_=>rfl
 |.lst _::a,b=>rfl
 |.tup _::a,b=>rfl
@[simp]def Po(o:O):fV o []=some o:=by unfold fV;rfl
@[simp]def Pn(l:List O)(k:Int)(r:Zn):fV (.lst l) (k::r)=(fS l k).bind λo=>fV o r:=rfl
@[simp]def Pp(l:List O)(k:Int)(r:Zn):fV (.tup l) (k::r)=(fS l k).bind λo=>fV o r:=rfl
@[simp]def OV(o q:O):l6 o [] q=q:=by unfold l6;rfl
@[simp]def OU(l:List O)(k:Int)(r:Zn)(q:O):l6 (.lst l) (k::r) q=.lst (wq l k λo=>l6 o r q):=rfl
@[simp]def OW(l:List O)(k:Int)(r:Zn)(q:O):l6 (.tup l) (k::r) q=.tup (wq l k λo=>l6 o r q):=rfl
@[simp]def QC(d:D):O.d (.sh d)=d:=by unfold O.d;rfl
@[simp]def PU(l:List O):O.d (.lst l)=.lst (O.ds l):=by rw[O.d]
@[simp]def PX(l:List O):O.d (.tup l)=.tup (O.ds l):=by rw[O.d]
@[simp]def N4:O.ds []=[]:=by rw[O.ds]
@[simp]def NK(o:O)(l:List O):O.ds (o::l)=o.d::O.ds l:=by rw[O.ds]
@[simp]theorem FT:∀(a b:List O),O.ds (a++b)=O.ds a++O.ds b
 |[],b=>by simp
 |o::a,b=>by simp[FT a b]
@[simp]theorem zU:∀l:Zc,O.ds (l.map O.sh)=l
 |[]=>by simp
 |d::l=>by simp[zU l]
@[simp]def NL{α:Type}(f:α->D)(l:List α):O.ds (l.map (O.sh∘f))=l.map f:=by rw[<-YT];exact zU _
@[simp]def R7{α:Type}(a b:α):fS [a,b] 0=some a:=rfl
@[simp]def R8{α:Type}(a b:α):fS [a,b] 1=some b:=rfl
@[simp]def R9{α:Type}(a b c:α):fS [a,b,c] 0=some a:=rfl
@[simp]def Sa{α:Type}(a b c:α):fS [a,b,c] 1=some b:=rfl
@[simp]def Sb{α:Type}(a b c:α):fS [a,b,c] 2=some c:=rfl
def gI:gA=1000000:=by unfold gA;rfl
@[simp]def TK:(0:Nat)<=gA:=UR _
@[simp]def TL:(1:Nat)<=gA:=by rw[gI];decide
@[simp]def TN:(2:Nat)<=gA:=by rw[gI];decide
@[simp]def TQ:(3:Nat)<=gA:=by rw[gI];decide
@[simp]def TR:(4:Nat)<=gA:=by rw[gI];decide
@[simp]def TU:(5:Nat)<=gA:=by rw[gI];decide
@[simp]def TV:(6:Nat)<=gA:=by rw[gI];decide
@[simp]def TW:(7:Nat)<=gA:=by rw[gI];decide
@[simp]def TX:(8:Nat)<=gA:=by rw[gI];decide
@[simp]def TZ:(9:Nat)<=gA:=by rw[gI];decide
@[simp]def Sg:(10:Nat)<=gA:=by rw[gI];decide
@[simp]def Sf:(0:Nat)<gA:=by rw[gI];decide
@[simp]def Jr(neg:Bool)(i j:Int):ci neg (.int i) (.int j)=some (.bl (if neg then !decide (i=j) else decide (i=j))):=by
 unfold ci;rw[Uv ⟨by simp[fM],by simp[fM]⟩];have:uM (.int i) (.int j)=decide (i=j):=by simp[uM];by_cases h:i=j<;>simp[h]
 rw[this]
@[simp]def QK(neg:Bool)(i j:Bool):ci neg (.bl i) (.bl j)=some (.bl (if neg then !decide (i=j) else decide (i=j))):=by
 unfold ci;rw[Uv ⟨by simp[fM],by simp[fM]⟩];have:uM (.bl i) (.bl j)=decide (i=j):=by simp[uM];by_cases h:i=j<;>simp[h]
 rw[this]
theorem xS:∀ns:Zn,Dens K S (ns.map D.int) (ns.map V.int)
 |[]=>.nil
 |n::ns=>.cons (Zt.2 rfl) (xS ns)
def FA{ns:Zn}{m:Zc->Option O} (hS:SqL K H a (ns.map V.int))(h:(m [.scr (ns.map D.int)]).map O.d=some (.bl true)):fh K 1 m [.ref a] H (λv _=>v=.bl true) E:=by
 cases q:m [.scr (ns.map D.int)] with
 |none=>rw[q] at h;cases h
 |some o=>
  rw[q] at h;have e:o.d=.bl true:=U6 h;exact⟨rfl,H,[.scr (ns.map D.int)],o,Same.refl _,.cons (ZE.2 ⟨a,_,rfl,hS,xS ns⟩) .nil,q,λv fp S' H' z ow _ _=>by
   have dv:=ow.denH z.sub;rw[e] at dv
   exact Zu.1 dv⟩
end M
namespace L2
open PySem PySem.Spec PyProof.Rows
def kL:bootBuiltins "len"=some (.builtin "len"):=by decide +kernel
def lh:bootBuiltins "sorted"=some (.builtin "sorted"):=by decide +kernel
def Ml:bootBuiltins "max"=some (.builtin "max"):=by decide +kernel
def Mm:bootBuiltins "min"=some (.builtin "min"):=by decide +kernel
def Gg:bootBuiltins "sum"=some (.builtin "sum"):=by decide +kernel
def cP:bootBuiltins "isinstance"=some (.builtin "isinstance"):=by decide +kernel
def Ai:bootBuiltins "tuple"=some (.type "tuple"):=by decide +kernel
def Gf:bootBuiltins "int"=some (.type "int"):=by decide +kernel
def mZ:bootBuiltins "str"=some (.type "str"):=by decide +kernel
section
variable {X:Cx}
def oq{K:Zj}{t T:String}(ht:t∈["NoneType", "bool", "int", "str", "list", "tuple"]) (hT:T∈["bool", "int", "str", "list", "tuple"]):W.kitOne K (.type t) (.type T)=some (M.KH t T):=by simp only[UC,Ve,Vf] at ht hT;rcases ht with rfl|rfl|rfl|rfl|rfl|rfl<;>rcases hT with rfl|rfl|rfl|rfl|rfl<;>kernel_rfl
theorem AG:∀a b:Zn,Srt.jJ a b=HT.dR a b
 |[],[]=>rfl
 |[],_::_=>rfl
 |_::_,[]=>rfl
 |x::xs,y::ys=>by rw[HT.Ck,<-AG xs ys];rfl
end
section
variable {X:Cx}{tg:Expr}
def dq{tl:TE}(hl:PE X l tl):PI X tg l (JD X.K tl):=by
 intro ZL s σ H R I h;refine cr (hl ZL s σ H _ I h) λv s1 h1=>?_;obtain⟨x,H1,I1,r1,a,e,q⟩:=h1;subst e;cases r1;rcases q with ⟨⟨xs,hq⟩,q⟩|⟨⟨xs,hq⟩,q⟩
 ·obtain⟨its,rv,p,hz⟩:=I1.list hq;refine Wq p.isList ⟨s1.heap.objs.size,[s1.heap.objs.size],_,_,H1,rfl,I1.kept (t':=s1.toks) λb o e=>Uz _ e,FJ a _,⟨_,UK _ rfl,rfl,rfl⟩,λb hb=>?_,q⟩;rw[UV.1 hb];exact I1.fpOk (Ux _) I1.fresh
 ·obtain⟨its,rv,p,hz⟩:=I1.tuple hq;refine X6 (show s1.heap.IsTuple a its.toArray from p) ⟨s1.heap.objs.size,[s1.heap.objs.size],_,_,H1,rfl,I1.kept (t':=s1.toks) λb o e=>Uz _ e,Da a _,⟨_,UK _ rfl,rfl,rfl⟩,λb hb=>?_,q⟩;rw[UV.1 hb];exact I1.fpOk (Ux _) I1.fresh
theorem xY:∀ {vs:Zh} {ns:Zn},IntsAre vs ns->Vals (ns.map V.int) vs
 |_,_,.nil=>.nil
 |_,_,.cons n t h=>.cons ⟨t,rfl⟩ (xY h)
def call_sortedI:CallR X (.builtin "sorted") (Ba X.K):=by
 intro ZL s σ H xs us Q I r h;obtain⟨p,ns,rfl,hS,h64,k⟩:=h;obtain⟨u,rfl,ru⟩:=r.one;cases ru;obtain⟨its,rv,pl,hz⟩:=I.list hS;have hI:IntsAre its ns:=pR rv;have hl:its.length=ns.length:=by have:=rv.length;rw[UN] at this;exact this.symm
 refine sorted_ints pl.isList hI () λout ms ho perm pw=>?_;obtain⟨e,at1⟩:=sortedAll_at s.heap its out;have fresh:s.heap.objs.size<=s.heap.objs.size+1:=Xp _;refine⟨.ref (s.heap.objs.size+1),upd H (s.heap.objs.size+1) (.lst (ms.map V.int)),I.laid (t':=s.toks) (λb o hb=>sortedAll_old hb) fresh ?_,rfl,k ms _ perm pw (I.hok.fresh fresh)⟩;exact⟨by rw[UN,perm.length_eq,UF];lia,out.toList,e,xY ho,by simpa using at1⟩
def xO(hc:X.calm=true):CallR X (.builtin "sum") (Lx X.K):=by
 intro ZL s σ H xs us Q I r h;obtain⟨p,ns,rfl,hS,q⟩:=h;obtain⟨u,rfl,ru⟩:=r.one;cases ru;obtain⟨its,rv,pl,hz⟩:=I.list hS;have hI:IntsAre its ns:=pR rv;obtain⟨ys,e⟩:=hI.allInts.items;have hl:=pl.isList;have en:ns=ys.toList.map (·.1):=by rw[<-nums_intItems,<-e];simpa using hI.numsOf.symm
 rw[e] at hl;refine sum_intListG (I.ok.hd hc) hl λh' tk t' hk=>⟨.int ns.sum,H,I.kept hk,⟨t',?_⟩,q⟩
 rw[preSum_eq,X3 (by simp),en]
end
end L2
namespace HT
open PySem PySem.Spec PyProof.Rows
section
variable {prog:Program}{w:World}{A:Around}{E:Ze}{s:Shared}
def oM{t sl:Addr}{items:Array Value}{vl vu:Value}{lo hi:Option Int}{Q:Ze}(ht:IsTup s.heap t items)(hs:s.heap.IsSliceOf sl vl vu .none)(pl:IsPart vl lo)(pu:IsPart vu hi)
  (hw:fU items.size 0 lo=0/\fU items.size items.size hi=items.size) (h:Q (.ref t) s):wpAny (model prog w) A (getItem (.ref t) (.ref sl)) Q E s:=by
 obtain⟨os,hos,hcs,hds⟩:=id hs;have hTs:s.TypeIs (.ref sl) "slice" := ⟨os,hos,hcs⟩
 unfold getItem;try with_reducible refine UY ?_
 first|refine Ut (Uw ?_)|skip
 refine Ut (YG ht.typeIs (by decide) ?_)
 refine Ut (VE (name:=Str.ofString "__getitem__") ht.typeIs VY
  (Vl VY ht.typeIs YH ?_ (YI _ _)))
 show wpAny _ _ (Builtin.Tuple.tupleItemsOf (.ref t) >>= _) _ _ s;refine Ut (tupleItemsOf_ ht ?_);refine Ut (VO hTs ?_);rw[Uv (by decide)];refine Ut (lx hs pl pu ?_);have hyes:((((fU items.size 0 lo:Nat):Int)==0&&(1:Int)==1&&(fU items.size items.size hi-fU items.size 0 lo)==items.size)=true):=by rw[hw.1,hw.2];simp
 show wpAny _ _ (if (((fU items.size 0 lo:Nat):Int)==0&&(1:Int)==1&&(fU items.size items.size hi-fU items.size 0 lo)==items.size)=true then _ else _) _ _ s;rw[Uv hyes];refine Ut (m:=Builtin.Tuple.tupleIsExact _) (Ut (VO ht.typeIs (Uw ?_)));rw[Uv (by decide)];exact Ut (VI (Uw ⟨_,rfl,Uw h⟩))
end
end HT
namespace L2
open PySem PySem.Spec PyProof.Rows M
def Inv.rdl{ZL:Zf} {xs:Za}(I:Inv X ZL σ H s)(h:Rd H l (.lst xs)):xs.length<=sizeLine/\∃(its:Zh) (n:Nat),Vals xs its/\xs.length=its.length/\s.heap.get? l=some { cls:=.type "list",data:=.seq its.toArray n }:=by
 obtain⟨h1,its,n,r,e⟩:=(show ObjOk X.prog X.w H s.heap l (.lst xs) from h.ok I.hok)
 exact⟨h1,its,n,r,r.length,e⟩
section
variable {X:Cx}
def op_catM:OpR X (binaryOp .Add) Lj:=by
 intro ZL s σ H x y v u Q I rx ry h;obtain⟨l,b,xs,zs,rfl,rfl,hH,hB,hz,q⟩:=h;cases rx;cases ry;obtain⟨z,its,n,r,hl,e⟩:=I.rdl hH;obtain⟨z2,its2,n2,r2,hl2,e2⟩:=I.rdl hB;refine PySem.P.add_list e e2 ?_ (by rw[UM,UM];lia);have ea:its.toArray++its2.toArray=(its++its2).toArray:=by simp
 rw[ea];exact⟨.ref _,_,I.lnew (t':=s.toks) (r.append r2) (by rw[U2];lia),rfl,q _ I.fresh⟩
def op_tupM:OpR X (binaryOp .Add) (Ly X.K):=by
 intro ZL s σ H x y v u Q I rx ry h;obtain⟨a,b,xs,ys,rfl,rfl,ha,hb,hz,q1,q2,q⟩:=h;cases rx;cases ry;obtain⟨its,r1,p1,_⟩:=I.tuple ha;obtain⟨its2,r2,p2,_⟩:=I.tuple hb;have hz2:its.length+its2.length<=sizeLine:=by rw[<-r1.length,<-r2.length];exact hz
 by_cases hv:its=[]
 ·have hx:xs=[]:=r1.nil_iff.1 hv;obtain⟨⟨cls,dd,data,sl⟩,ho,hc,n,hd⟩:=id p1;obtain⟨⟨cls2,dd2,data2,sl2⟩,ho2,hc2,n2,hd2⟩:=id p2;simp only at hc hd hc2 hd2;subst hc hd hc2 hd2;exact Xw ⟨_,ho,rfl⟩ ⟨_,ho2,rfl⟩ Xx Xy Xz XB (XC (.ref a) (.ref b)) (tuple_addW0 a b its.toArray its2.toArray n n2 dd dd2 sl sl2 (by simp[hv])) ⟨ho,ho2,⟨.ref b,H,I,rfl,q2 hx⟩⟩
 ·refine HT.Jq p1 p2 hv (λz=>⟨.ref a,H,I,rfl,q1 (r2.nil_iff.1 z)⟩) (λz=>?_) hz2;refine⟨.ref s.heap.objs.size,_,I.laid (t':=s.toks) (o:=.tup (xs++ys)) (λb ob e=>Uz _ e) (Ux _) ?_,rfl,q _ (I.hok.fresh (Ux _))⟩;exact⟨by rw[U2];exact hz,_,r1.append r2,TupN.new _ _⟩
def JZ:OpR X (binaryOp .Add) Lv:=CC
def bF:OpR X (binaryOp .Add) (HA X.K):=op_add.or (op_catM.or (op_tupM.or JZ))
mutual
def kR:D->PyData
 |.non=>.none
 |.bl b=>.bool b
 |.int i=>.int i
 |.str x=>.str x
 |.lst l=>.list (pyDs l)
 |.tup l=>.tuple (pyDs l)
 |.mtp l=>.tuple (pyDs l)
 |_=>.none
def pyDs:Zc->List PyData
 |[]=>[]
 |d::l=>kR d::pyDs l
end
mutual
theorem p7:∀(n:Nat) (d:D),fM n d=true->(kR d).canLay0=true/\(kR d).depth<=n
 |_,.non,_=>by simp[kR,PyData.canLay0,PyData.depth]
 |_,.bl _,_=>by simp[kR,PyData.canLay0,PyData.depth]
 |_,.int _,_=>by simp[kR,PyData.canLay0,PyData.depth]
 |n,.str x,h=>by
  have h':PyData.strOk x=true:=by cases n<;>simpa[fM] using h
  simp[kR,PyData.canLay0,PyData.depth,h']
 |0,.lst l,h=>by simp[fM] at h
 |n+1,.lst l,h=>by
  obtain⟨a,b⟩:=uS n l (by simpa[fM] using h);simp only[kR,PyData.canLay0,PyData.depth];exact⟨a,()⟩
 |0,.tup l,h=>by simp[fM] at h
 |n+1,.tup l,h=>by
  obtain⟨a,b⟩:=uS n l (by simpa[fM] using h);simp only[kR,PyData.canLay0,PyData.depth];exact⟨a,()⟩
 |0,.mtp l,h=>by simp[fM] at h
 |n+1,.mtp l,h=>by
  obtain⟨a,b⟩:=uS n l (by simpa[fM] using h);simp only[kR,PyData.canLay0,PyData.depth];exact⟨a,()⟩
 |n,.ty _,h=>by cases n<;>simp[fM] at h
 |n,.scr _,h=>by cases n<;>simp[fM] at h
 |n,.ins _ _ _,h=>by cases n<;>simp[fM] at h
theorem uS:∀(n:Nat) (l:Zc),okDs n l=true->PyData.canLayAll0 (pyDs l)=true/\PyData.depthAll (pyDs l)<=n
 |_,[],_=>by simp[pyDs,PyData.canLayAll0,PyData.depthAll]
 |n,d::l,h=>by rw[okDs,UZ] at h;obtain⟨a,b⟩:=p7 n d h.1;obtain⟨c,e⟩:=uS n l h.2;simp only[pyDs,PyData.canLayAll0,PyData.depthAll,a,c];exact⟨rfl,()⟩
end
mutual
theorem yU:∀(n m:Nat) (d e:D),fM n d=true->fM m e=true->PyData.eqv (kR d) (kR e)=uM d e
 |n,m,.non,e,_,he=>by cases e<;>first|(simp[kR,PyData.eqv,uM];done)|(cases m<;>simp[fM] at he)
 |n,m,.bl _,e,_,he=>by cases e<;>first|(simp[kR,PyData.eqv,uM];done)|(cases m<;>simp[fM] at he)
 |n,m,.int _,e,_,he=>by cases e<;>first|(simp[kR,PyData.eqv,uM];done)|(cases m<;>simp[fM] at he)
 |n,m,.str _,e,_,he=>by cases e<;>first|(simp[kR,PyData.eqv,uM];done)|(cases m<;>simp[fM] at he)
 |0,m,.lst _,e,hd,he=>by simp[fM] at hd
 |n+1,m,.lst l,e,hd,he=>by
  cases e with
  |lst l'=>
   cases m with
   |zero=>simp[fM] at he
   |succ m=>
    simp only[kR,PyData.eqv,uM];exact ZH n m l l' (by simpa[fM] using hd) (by simpa[fM] using he)
  |_=>first|(simp[kR,PyData.eqv,uM];done)|(cases m<;>simp[fM] at he)
 |0,m,.tup _,e,hd,he=>by simp[fM] at hd
 |n+1,m,.tup l,e,hd,he=>by
  cases e with
  |tup l'=>
   cases m with
   |zero=>simp[fM] at he
   |succ m=>
    simp only[kR,PyData.eqv,uM];exact ZH n m l l' (by simpa[fM] using hd) (by simpa[fM] using he)
  |mtp l'=>
   cases m with
   |zero=>simp[fM] at he
   |succ m=>
    simp only[kR,PyData.eqv,uM];exact ZH n m l l' (by simpa[fM] using hd) (by simpa[fM] using he)
  |_=>first|(simp[kR,PyData.eqv,uM];done)|(cases m<;>simp[fM] at he)
 |0,m,.mtp _,e,hd,he=>by simp[fM] at hd
 |n+1,m,.mtp l,e,hd,he=>by
  cases e with
  |tup l'=>
   cases m with
   |zero=>simp[fM] at he
   |succ m=>
    simp only[kR,PyData.eqv,uM];exact ZH n m l l' (by simpa[fM] using hd) (by simpa[fM] using he)
  |mtp l'=>
   cases m with
   |zero=>simp[fM] at he
   |succ m=>
    simp only[kR,PyData.eqv,uM];exact ZH n m l l' (by simpa[fM] using hd) (by simpa[fM] using he)
  |_=>first|(simp[kR,PyData.eqv,uM];done)|(cases m<;>simp[fM] at he)
 |n,_,.ty _,_,h,_=>by cases n<;>simp[fM] at h
 |n,_,.scr _,_,h,_=>by cases n<;>simp[fM] at h
 |n,_,.ins _ _ _,_,h,_=>by cases n<;>simp[fM] at h
theorem ZH:∀(n m:Nat) (l l':Zc),okDs n l=true->okDs m l'=true->PyData.eqvAll (pyDs l) (pyDs l')=eqDs l l'
 |_,_,[],[],_,_=>by simp[pyDs,PyData.eqvAll,eqDs]
 |_,_,[],_::_,_,_=>by simp[pyDs,PyData.eqvAll,eqDs]
 |_,_,_::_,[],_,_=>by simp[pyDs,PyData.eqvAll,eqDs]
 |n,m,d::l,e::l',hd,he=>by rw[okDs,UZ] at hd he;rw[pyDs,pyDs,PyData.eqvAll,eqDs,yU n m d e hd.1 he.1,ZH n m l l' hd.2 he.2]
end
def yS{H:Hp}{s:Shared}{n:Nat}(ih:∀ {d:D} {x:V} {v:Value},fM n d=true->Den X.K H d x->RelV x v->∃as,Reads s.heap v (kR d) as){ds:Zc}:∀ {xs:Za} {vs:Zh},okDs n ds=true->Dens X.K H ds xs->Vals xs vs->∃as,ReadsAll s.heap vs (pyDs ds) as:=by
 induction ds with
 |nil=>
  intro xs vs _ d r;rw[d.nil_of] at r;cases r;exact⟨_,.nil⟩
 |cons d ds id=>
  intro xs vs h dd r;rw[okDs,UZ] at h;obtain⟨y,ys,rfl,a,b⟩:=dd.cons_of;cases r with
  |cons r rr=>obtain⟨as,ra⟩:=ih h.1 a r;obtain⟨bs,rb⟩:=id h.2 b rr;exact⟨_,.cons ra rb⟩
def Ar{ZL:Zf}{σ:St}{H:Hp}{s:Shared}(I:Inv X ZL σ H s)(n:Nat)(ih:∀m,n=m+1->∀ {d:D} {x:V} {v:Value},fM m d=true->Den X.K H d x->RelV x v->∃as,Reads s.heap v (kR d) as){d:D}{x:V}{v:Value}(h:fM n d=true)(dx:Den X.K H d x)(r:RelV x v):∃as,Reads s.heap v (kR d) as:=by
 cases d with
 |non=>rw[ZI.1 dx] at r;cases r;exact⟨_,.none⟩
 |bl b=>rw[Zu.1 dx] at r;cases r;exact⟨_,.bool b⟩
 |int i=>rw[Zt.1 dx] at r;obtain⟨t,rfl⟩:=r;exact⟨_,.int i t⟩
 |str y=>rw[Zo.1 dx] at r;obtain⟨t,rfl⟩:=r;exact⟨_,.str y t⟩
 |lst l=>
  cases n with
  |zero=>simp[fM] at h
  |succ n=>
   obtain⟨p,xs,rfl,hp,ds⟩:=Zs.1 dx;cases r;obtain⟨_,its,k,rv,_,e⟩:=I.rdl hp;obtain⟨as,ra⟩:=yS (ih n rfl) (by simpa[fM] using h) ds rv;exact⟨_,.list e rfl rfl (by simpa using ra)⟩
 |tup l=>
  cases n with
  |zero=>simp[fM] at h
  |succ n=>
   obtain⟨p,xs,rfl,hp,ds⟩:=jC dx;cases r;obtain⟨its,rv,⟨o,e,c,k,d⟩,_⟩:=I.tuple hp;obtain⟨as,ra⟩:=yS (ih n rfl) (by simpa[fM] using h) ds rv;exact⟨_,.tuple e c d (by simpa using ra)⟩
 |mtp l=>
  cases n with
  |zero=>simp[fM] at h
  |succ n=>
   obtain⟨p,xs,rfl,hp,ds⟩:=Zz.1 dx;cases r;obtain⟨its,rv,⟨o,e,c,k,d⟩,_⟩:=I.tuple hp;obtain⟨as,ra⟩:=yS (ih n rfl) (by simpa[fM] using h) ds rv;exact⟨_,.tuple e c d (by simpa using ra)⟩
 |_=>cases n<;>simp[fM] at h
def jm{ZL:Zf} (I:Inv X ZL σ H s)(n:Nat):∀ {d:D} {x:V} {v:Value},fM n d=true->Den X.K H d x->RelV x v->∃as,Reads s.heap v (kR d) as:=by
 induction n with
 |zero=>exact λ{d x v}=>Ar I 0 (λm e=>by cases e)
 |succ n ih=>exact λ{d x v}=>Ar I (n+1) (λm e=>by cases e;exact ih)
def bh(hu:X.A.units+64<cLine):OpR X (compareOp .Eq) (M3 X.K false):=by intro ZL s σ H x y v u Q I rx ry h;obtain⟨S,d,e,sm,dx,dy,cd,ce,q⟩:=h;obtain⟨as,ra⟩:=jm I 50 cd (pL sm dx) rx;obtain⟨bs,rb⟩:=jm I 50 ce (pL sm dy) ry;obtain⟨a1,a2⟩:=p7 50 d cd;obtain⟨b1,b2⟩:=p7 50 e ce;have hm:=Nat.min_le_left (kR d).depth (kR e).depth;refine SeqAt.compareEq_reads ra rb a1 b1 () ⟨.bl _,H,I,rfl,?_⟩;rw[yU 50 50 d e cd ce];exact q
def gi(hu:X.A.units+64<cLine):OpR X (compareOp .NotEq) (M3 X.K true):=by intro ZL s σ H x y v u Q I rx ry h;obtain⟨S,d,e,sm,dx,dy,cd,ce,q⟩:=h;obtain⟨as,ra⟩:=jm I 50 cd (pL sm dx) rx;obtain⟨bs,rb⟩:=jm I 50 ce (pL sm dy) ry;obtain⟨a1,a2⟩:=p7 50 d cd;obtain⟨b1,b2⟩:=p7 50 e ce;have hm:=Nat.min_le_left (kR d).depth (kR e).depth;refine SeqAt.compareNe_reads ra rb a1 b1 () ⟨.bl _,H,I,rfl,?_⟩;rw[yU 50 50 d e cd ce];exact q
def eF:CallR X (.builtin "len") (Lp X.K):=Gh
def jl:CallR X (.builtin "isinstance") (Lm X.K):=by
 intro ZL s σ H xs us Q I r h;obtain⟨x,T,t,rfl,ht,hm,q⟩:=h;obtain⟨u,w',rfl,ru,rw'⟩:=r.two;cases rw';have fin:∀tk:Nat,EP X ZL σ Q (.bool (KH t T)) { s with toks:=tk }:=λtk=>⟨.bl _,H,I.tok tk,rfl,q⟩
 cases x with
 |non=>cases ht;exact oo I ru .non (oq (by decide) hm) fin
 |bl b=>cases ht;exact oo I ru (.bl b) (oq (by decide) hm) fin
 |int i=>cases ht;exact oo I ru (.int i) (oq (by decide) hm) fin
 |str y=>cases ht;exact oo I ru (.str y) (oq (by decide) hm) fin
 |ref p=>
  cases ru;rcases ht with ⟨rfl,xs,h⟩|⟨rfl,xs,h⟩
  ·obtain⟨_,its,n,rv,_,e⟩:=I.rdl h;exact U8 Xo I.kIn ⟨_,e,rfl⟩ (oq (by decide) hm) (λz=>nomatch z) fin
  ·obtain⟨its,rv,⟨o,e,c,_⟩,_⟩:=I.tuple h;exact U8 W.kitx_tuple I.kIn ⟨o,e,c⟩ (oq (by decide) hm) (λz=>nomatch z) fin
 |_=>exact (show False from ht).elim
def zd:QB X "list.extend" rExtM:=by
 intro ZL s σ H x vs v us Q I rx rv h;obtain⟨l,b,xs,zs,rfl,rfl,hH,hB,hz,q⟩:=h;cases rx;obtain⟨u,rfl,ru⟩:=rv.one;cases ru;obtain⟨z,its,n,r,hl,e⟩:=I.lstM hH;obtain⟨z2,its2,n2,r2,hl2,e2⟩:=I.rdl hB;have hsz:its.toArray.size+its2.toArray.size<=sizeLine:=by rw[UM,UM];lia
 have hlong:¬(!its.toArray.isEmpty&&Builtin.List.listTooLong (its.toArray.size+its2.toArray.size))=true:=by rw[G7 hsz,Bool.and_false];exact U4
 refine Vn F.slot_list_extend ⟨_,e,rfl⟩ F.entry_list_extend (F.args_list_extend_2 _ _)
  (AutoSeq1.list_extend_list_list_0 l its.toArray n b its2.toArray n2 hlong (by rw[UM];lia) ()) ⟨e,e2,?_⟩
 refine⟨.non,_,I.lset (its':=its++its2) hH e (by simp) (r.append r2) ?_,rfl,q⟩;rw[U2];lia
def wK:SlR X (O7 X.K):=by
 refine SlR.or KD ?_;intro ZL s σ H x v vl vu lo hi sl Q I rx hs pl pu h;obtain⟨a,xs,rfl,hx,q1,q2⟩:=h;cases rx;by_cases hw:HT.fU xs.length 0 lo=0/\HT.fU xs.length xs.length hi=xs.length
 ·obtain⟨its,r,ht,hz⟩:=I.tuple hx;have ZO:its.toArray.size=xs.length:=by rw[UM];exact r.length.symm
  have hcut:oJ xs lo hi=xs:=by unfold oJ;rw[hw.1,hw.2,X2,Nat.sub_zero,X3 (Ux _)]
  refine⟨"tuple",_,VY.lookup,ht.typeIs,?_⟩;exact HT.oM ht hs pl pu (by rw[ZO];exact hw) ⟨.ref a,H,I,rfl,q1 hcut⟩
 ·exact Nw ZL s σ H (.ref a) (.ref a) vl vu lo hi sl Q I rfl hs pl pu ⟨a,xs,rfl,hx,hw,q2⟩
def B6:CallR X (.builtin "sorted") (HB X.K):=by
 intro ZL s σ H xs us Q I r h;obtain⟨p,yks,rfl,hS,h64,hk,k⟩:=h;obtain⟨u,rfl,ru⟩:=r.one;cases ru;obtain⟨its,rv,pl,hz⟩:=I.list hS;have hl:yks.length=its.length:=by rw[<-rv.length,UN]
 have fS:∀i,i<its.length->∃yk,yks[i]?=some yk/\yks.getD i (.non,[])=yk/\RelV yk.1 (its.getD i Value.none):=λi hi=>by
  have ey:yks[i]?=some yks[i]:=V0 ();have ex:(yks.map (·.1))[i]?=some yks[i].1:=by rw[U9,ey];rfl
  obtain⟨v,ev,rl⟩:=rv.get ex;exact⟨_,ey,by rw[X1,ey];rfl,by rw[X1,ev];exact rl⟩
 have tup:∀i,i<its.length->Srt.N9 s.heap (its.getD i Value.none) (yks.getD i (.non,[])).2/\(yks.getD i (.non,[])).2≠[]:=λi hi=>by obtain⟨yk,e1,e2,rl⟩:=fS i hi;obtain⟨q,e3,e4,e5⟩:=hk _ (Xv e1);rw[e2];refine⟨?_,e5⟩;rw[e3] at rl;have rl':its.getD i Value.none=Value.ref q:=rl;obtain⟨js,rj,⟨o,ho,hc,n,hd⟩,_⟩:=I.tuple e4;refine⟨q,o,js.toArray,n,rl',ho,hc,hd,?_⟩;simpa using pR rj
 refine Srt.Fz (Srt.GZ λi=>(yks.getD i (.non,[])).2) pl.isList () (Srt.Cj tup) λq hq ha=>?_;obtain⟨pv,pw⟩:=Srt.Hj (vs:=its) (d:=Value.none) hq ha;rw[<-hl] at hq ha;obtain⟨py,wy⟩:=Srt.Hj (vs:=yks) (d:=((V.non,[]):V×Zn)) hq ha;obtain⟨e,at1⟩:=sortedAll_at s.heap its (Srt.o7 its q);have hv:Vals ((q.toList.map λi=>yks.getD i (.non,[])).map (·.1)) (q.toList.map λi=>its.getD i Value.none):=by
  have hb:∀i∈q.toList,i<its.length:=λi hi=>by
   have:i<yks.length:=by simpa using (XU.1 hq).mem_iff.mp hi
   lia
  revert hb;generalize q.toList=L;induction L with
  |nil=>exact λ_=>.nil
  |cons i L ih=>intro hb;refine .cons ?_ (ih λj hj=>hb j (UJ _ hj));obtain⟨yk,_,e2,rl⟩:=fS i (hb i UL);dsimp only;rw[e2];exact rl
 have fresh:s.heap.objs.size<=s.heap.objs.size+1:=Xp _;refine⟨.ref (s.heap.objs.size+1),upd H (s.heap.objs.size+1) (.lst ((q.toList.map λi=>yks.getD i (.non,[])).map (·.1))),I.laid (t':=s.toks) (λb o hb=>sortedAll_old hb) fresh ?_,rfl,?_⟩
 ·refine⟨by rw[UN,py.length_eq,UF];lia,_,e,hv,at1⟩
 ·refine k _ _ py (wy _ λi j _ _ h=>?_) (I.hok.fresh fresh);rw[<-AG];exact h
def qX:CallR X (.builtin "sorted") (Bb X.K):=call_sortedI.or B6
end
end L2
namespace M
def Oj(a:Zn)(k:Int):Zn:=if a.any (· == k) then a else a++[k]
def QN(ns:Zn):Zn:=ns.foldl Oj []
open PySem L2
@[simp]def Qq(a:XE):XE:=λρ=>(a ρ).bind λd=>match d with|.lst l=>(e9 l).bind λns=>if ns.length<4000 then some (.int ((QN ns).length:Nat)) else none|_=>none
end M
namespace L2
open PySem
def qL(K:Zj)(Ns:Zl)(P:Addr->Prop):Prop:=∀N∈Ns,∀C,W.nsIn K mainGlobals N=some (some (.ref C))->P C
def I0(K:Zj)(Ns:Zl)(H:Hp)(x:V)(a:Addr)(C dx:Addr)(fs:List (Str×V)):Prop:=x=.ref a/\(∃N∈Ns,W.nsIn K mainGlobals N=some (some (.ref C)))/\H a=some (.ins C dx fs)
def sj(K:Zj)(Ns:Zl)(ta:TE)(f:Str):TE:=λσ H Q=>ta σ H λx H1=>∃a C dx fs v,I0 K Ns H1 x a C dx fs/\fs.lookup f=some v/\Q v H1
def wS(K:Zj)(Ns:Zl)(m:Str)(sp:Sp)(ta:TE)(t:TA):TE:=λσ H Q=>ta σ H λx H1=>∃a C dx fs,I0 K Ns H1 x a C dx fs/\fs.lookup m=none/\t σ H1 λvs H2=>sp (x::vs) H2 Q E0
def Im(K:Zj)(N:Str)(sp:Sp)(t:TA):TE:=λσ H Q=>∀C,W.nsIn K mainGlobals N=some (some (.ref C))->Ej C sp [] E0 t σ H Q
section
variable {X:Cx}{o e:Expr}{es:List Expr}{f m:Str}{pos apos p:Pos}{ta:TE}{t:TA}{Ns:Zl}{k:Nat}{g C:Addr}{fd:FuncData}{ps:Zl}{sp:Sp}
def fw(hc:qL X.K Ns λC=>Cls X.K C/\NoAttr X.K C f)(he:PE X e ta)(hb:attributeBase e f X.env (eval e X.env)=eval e X.env):PE X (.Attribute e f pos) (sj X.K Ns ta f):=by intro ZL s σ H Q I h;refine Jk hb (cr (he ZL s σ H _ I h) λu s1 ZN=>?_);obtain⟨x,H1,I1,rx,a,C,dx,fs,v,⟨ex,⟨N,hN,hC⟩,ea⟩,l,q⟩:=ZN;subst ex;have eu:u=Value.ref a:=rx;subst eu;obtain⟨c,n⟩:=hc N hN C hC;exact Cf I1 ea c n l λu' s2 I2 ru=>⟨v,H1,I2,ru,q⟩
def b6(hc:qL X.K Ns λC=>Cls X.K C/\Meth X.K C m g)(F:Zq X.prog X.w X.K X.mg X.base cz k g fd ps sp)(hr:ZA k X.A)(hb:Binds X.K fd ps [])(hx:gc cz X E0)(he:PE X o ta)(ha:PA X (e::es) t)
  (hst:starEach (e::es) X.env=(false,eval e X.env)::starEach es X.env:=by rfl) (hpl:(backTo pos (starEach es X.env)).any (·.1)=false:=by rfl)
  (ht:eval (.Call (.Attribute o m apos) (e::es) [] pos) X.env=(do
   let ov ← eval o X.env
   standAt apos.atName
   let (f,first) ← holding [ov] (getMethod ov m pl)
   callWith pos f first (backTo pos (starEach (e::es) X.env)) (backToKw pos (keywordEach [] X.env))):=by rfl) :
  PE X (.Call (.Attribute o m apos) (e::es) [] pos) (wS X.K Ns m sp ta t):=by
 intro ZL s σ H Q I h;refine WY (pl:=pl) (cr (he ZL s σ H _ I h) λu s1 ZN=>?_) ht;obtain⟨x,H1,I1,rx,a,C,dx,fs,⟨ex,⟨N,hN,hC⟩,ea⟩,l,q⟩:=ZN;subst ex;have eu:u=Value.ref a:=rx;subst eu;obtain⟨c,hm⟩:=hc N hN C hC;refine jH I1 ea c hm l ?_;refine WM (first:=[.ref a]) (h₀:=X.base) I.ok.mod.kin hm.kp (cr (ha pos ZL s1 σ H1 _ I1 q) λus s2 ⟨vs,H2,I2,r,q2⟩=>⟨I2.kIn,?_⟩) hst hpl;exact wA (us:=.ref a::us) (vs:=.ref a::vs) (dvs:=[]) F hr hb .nil hx I2 (.cons rfl r) (by rw[Vb];exact q2)
def Fp(hc:qL X.K Ns λC=>Cls X.K C/\Meth X.K C m g)(F:Zq X.prog X.w X.K X.mg X.base cz k g fd ps sp)(hr:ZA k X.A)(hb:Binds X.K fd ps [])(hx:gc cz X E0)(he:PE X o ta)
  (ht:eval (.Call (.Attribute o m apos) [] [] pos) X.env=(do
   let ov ← eval o X.env
   standAt apos.atName
   let (f,first) ← holding [ov] (getMethod ov m pl)
   callWith pos f first (backTo pos (starEach [] X.env)) (backToKw pos (keywordEach [] X.env))):=by rfl) :
  PE X (.Call (.Attribute o m apos) [] [] pos) (wS X.K Ns m sp ta eV):=by
 intro ZL s σ H Q I h;refine WY (pl:=pl) (cr (he ZL s σ H _ I h) λu s1 ZN=>?_) ht;obtain⟨x,H1,I1,rx,a,C,dx,fs,⟨ex,⟨N,hN,hC⟩,ea⟩,l,q⟩:=ZN;subst ex;have eu:u=Value.ref a:=rx;subst eu;obtain⟨c,hm⟩:=hc N hN C hC;refine jH I1 ea c hm l ?_;exact Xq (first:=[.ref a]) I1.kIn hm.kp (wA (us:=[.ref a]) (vs:=[.ref a]) (dvs:=[]) F hr hb .nil hx I1 (.cons rfl .nil) q)
end
end L2
namespace M
open PySem L2
section
variable {K:Zj}{S S' H H':Hp}
def EY:Zl->Zc->Str->Zd
 |n::ns,d::l,f=>if f=n then some d else EY ns l f
 |_,_,_=>none
theorem GF:∀ {fs:List (Str×V)} {l:Zc} {f:Str} {d:D},Dens K S l (fs.map (·.2))->EY (fs.map (·.1)) l f=some d->∃v,fs.lookup f=some v/\Den K S d v
 |[],l,f,d,h,e=>by
  cases l<;>simp[EY] at e
 | (n,v)::fs,l,f,d,h,e=>by
  cases l with
  |nil=>simp[EY] at e
  |cons a l=>
   obtain⟨y,ys,e1,h1,h2⟩:=h.cons_of;rw[UG] at e1;cases e1;rw[UG,EY] at e;by_cases hf:f=n
   ·rw[Uv hf] at e;cases e;exact⟨v,by simp[List.lookup,hf],h1⟩
   ·rw[Uu hf] at e;obtain⟨w,q1,q2⟩:=GF h2 e;have hb:(f==n)=false:=by simpa using hf
    exact⟨w,by simp[List.lookup,hb,q1],q2⟩
theorem vO:∀ {fs:List (Str×V)} {f:Str},(fs.map (·.1)).contains f=false->fs.lookup f=none
 |[],_,_=>rfl
 | (n,v)::fs,f,h=>by
  simp at h;have hb:(f==n)=false:=by simpa using h.1
  rw[List.lookup,hb];exact vO (by simpa using h.2)
@[simp]def zN(Ns:Zl)(f:Str)(e:XE):XE:=λρ=>(e ρ).bind λd=>match d with|.ins N ns l=>if Ns.contains N then EY ns l f else none|_=>none
def uo{Ns:Zl} {ta:TE} (h:SE K ta e):SE K (sj K Ns ta f) (zN Ns f e):=λρ σ S H Q d r x k=>by
 obtain⟨d0,q,x⟩:=ZM x;cases d0<;>try (cases x;done)
 rename_i N ns l;dsimp only at x;split at x
 ·rename_i hc;refine h ρ σ S H _ _ r q λv S1 H1 z1 d1=>?_;obtain⟨p,C,dx,fs,rfl,hC,h1,h2,h3⟩:=ZB.1 d1;subst h2;obtain⟨w,w1,w2⟩:=GF h3 x;exact⟨p,C,dx,fs,w,⟨rfl,⟨N,by simpa using hc,hC⟩,z1.sub _ _ h1⟩,w1,k w S1 H1 z1 w2⟩
 ·cases x
@[simp]def mE(Ns:Zl)(m:Str)(g:Zb)(e:XE)(a:XA):XE:=λρ=>(e ρ).bind λd=>match d with|.ins N ns l=>if Ns.contains N && !ns.contains m then (a ρ).bind λds=>g (.ins N ns l::ds) else none|_=>none
def nP{Ns:Zl} {n:Nat} {ta:TE} (h:SE K ta e)(ha:SA K t a)(hn:∀ρ ds,a ρ=some ds->ds.length=n):SE K (wS K Ns m (fh K (n+1) g) ta t) (mE Ns m (λds=>(g ds).map O.d) e a):=λρ σ S H Q d r x k=>by
 unfold mE at x;cases q:e ρ with
 |none=>rw[q] at x;cases x
 |some d0=>
  rw[q] at x;dsimp only[Option.bind] at x;cases d0<;>try (cases x;done)
  rename_i N ns l;dsimp only at x;split at x
  ·rename_i hc;rw[UZ] at hc;cases qa:a ρ with
   |none=>rw[qa] at x;cases x
   |some ds=>
    rw[qa] at x;dsimp only at x;cases qg:g (.ins N ns l::ds) with
    |none=>rw[qg] at x;cases x
    |some o=>rw[qg] at x;cases x;refine h ρ σ S H _ _ r q λv S1 H1 z1 d1=>?_;obtain⟨p,C,dx,fs,rfl,hC,h1,h2,h3⟩:=ZB.1 d1;refine⟨p,C,dx,fs,⟨rfl,⟨N,by simpa using hc.1,hC⟩,z1.sub _ _ h1⟩,vO (by rw[h2];simpa using hc.2),?_⟩;refine ha ρ σ S1 H1 _ ds (r.ext z1) qa λvs S2 H2 z2 d2=>?_;have dd:Dens K S2 (.ins N ns l::ds) (.ref p::vs):=.cons (d1.mono z2.sh) d2;refine⟨by rw[UI,<-d2.length,hn ρ ds qa],S2,_,o,z2.sub,dd,qg,λv fp S3 H3 z3 ow nd fr=>?_⟩;exact k v _ H3 ((z1.trans z2).trans (vQ z3 fr)) (ow.den (ll λb hb=>(fr b hb).2) λb hb=>rk hb)
  ·cases x
@[simp]def Te(N f:Str)(mi:Zb)(a:XA):XE:=λρ=>((a ρ).bind mi).map λd=>.ins N [f] [d]
end
def sP:Zn->Int
 |[]=>0
 |[a]=>a
 |a::l=>min a (sP l)
def Fd(a b:Int)(l:Zn):sP (a::b::l)=min a (sP (b::l)):=rfl
theorem ye:∀(a:Int) (l:Zn),sP (a::l)∈a::l/\∀b∈a::l,sP (a::l)<=b
 |a,[]=>⟨UL,λb hb=>by rw[UV] at hb;subst hb;exact Int.le_refl _⟩
 |a,c::l=>by
  obtain⟨h1,h2⟩:=ye c l;rw[Fd];refine⟨?_,λb hb=>?_⟩
  ·rcases Int.le_total a (sP (c::l)) with h|h
   ·rw[Int.min_eq_left h];exact UL
   ·rw[Int.min_eq_right h];exact UJ _ h1
  ·rcases UC.1 hb with rfl|hb
   ·exact Int.min_le_left _ _
   ·exact Int.le_trans (Int.min_le_right _ _) (h2 b hb)
def Fe{ns:Zn}{m:Int}(h1:m∈ns)(h2:∀a,a∈ns->m<=a):sP ns=m:=by
 cases ns with
 |nil=>cases h1
 |cons a l=>obtain⟨k1,k2⟩:=ye a l;exact Int.le_antisymm (k2 m h1) (h2 _ k1)
end M
namespace L2
open PySem PySem.Spec PyProof.Rows
section
variable {prog:Program}{w:World}{A:Around}{E:Ze}{s:Shared}
def EG(a b c d:Value):argsOk "min" ⟨[a,b,c,d],[]⟩:=by unfold argsOk;kernel_rfl
def Ff{a b c d:Value}{Q:Ze}
  (h:wpAny (model prog w) A.in1 (pyIter (.ref s.heap.objs.size)) (λit s₂=>∃I fp wr n P St bt,it=.ref I/\Walks prog w A.in1 I fp wr n P St/\St 0 s₂.heap/\(∀b∈fp,b<s₂.heap.objs.size)/\0<n/\CmpOf prog w A.in1 .Lt P bt/\∀v h' tk,P (argBest bt (n-1)) v->(∀b o,b∉wr->s₂.heap.get? b=some o->h'.get? b=some o)->Q v { s₂ with heap:=h',toks:=tk }) E { s with heap:=s.heap.push { cls:=.type "tuple",data:=.seq #[a,b,c,d] } }) :
  wpAny (model prog w) A (call (.builtin "min") [a,b,c,d]) Q E s:=by
 have hname:(toString "min" ++ toString ".loop" : String)="min.loop" := by decide
 refine call_function_tree F.kind_min F.plain_min F.entry_min (EG _ _ _ _) ?_;show wpAny _ A.in1 (Builtin.Builtins.bindParams "min" ["key", "default"] 0 ⟨[],[]⟩ >>= _) _ _ s;refine Ut (Wr (show Builtin.Builtins.bindParams "min" ["key", "default"] 0 ⟨[],[]⟩=pure [none,none] from rfl) ?_);show wpAny _ A.in1 (newTuple [a,b,c,d] >>= _) _ _ s;refine Ut (U3 ?_);refine Ut (UO h (λit s₂ h₂=>?_) λ_ _ e=>e);obtain⟨I,fp,wr,n,P,St,bt,rfl,W,hst,hfp,hn,hcmp,hQ⟩:=h₂;refine Ut (U3 ?_);have hSf:s₂.heap.objs.size∉fp:=λhm=>Vr _ (hfp _ hm);rw[hname];refine Uw ⟨Ws F.plain_min_loop _,codeAny_min_loop_first W bt hcmp s₂.heap.objs.size hSf hn (W.frame _ _ _ hst λb _ o e=>Uz _ e) (UK _ rfl) λv h' tk hP hk=>?_⟩;exact hQ v h' tk hP λb o hbw e=>hk b o hbw (UH (UA e)) (Uz _ e)
def AJ{a b c d:Int}{t u x y:Tok}{Q:Ze}(hh:A.handled=none)(h:∀(h':Heap) (z:Tok) (tk:Nat),(∀b o,s.heap.get? b=some o->h'.get? b=some o)->Q (.int (M.sP [a,b,c,d]) z) { s with heap:=h',toks:=tk }) :
  wpAny (model prog w) A (call (.builtin "min") [.int a t,.int b u,.int c x,.int d y]) Q E s:=by
 have hT:(s.heap.push { cls:=.type "tuple",data:=.seq #[.int a t,.int b u,.int c x,.int d y] }).IsTuple s.heap.objs.size (intItems #[(a,t),(b,u),(c,x),(d,y)]):=⟨_,UK _ rfl,rfl,0,by simp[intItems]⟩
 refine Ff (X6 hT ?_);have hsz:(s.heap.push { cls:=.type "tuple",data:=.seq #[.int a t,.int b u,.int c x,.int d y] }).objs.size=s.heap.objs.size+1:=Vi ..;refine⟨_,[_,s.heap.objs.size],[_],_,_,_,_,rfl,Walks.tuple (A:=A.in1) hh _ s.heap.objs.size (by rw[hsz];exact UH (Wi _)) (intItems #[(a,t),(b,u),(c,x),(d,y)]),⟨⟨_,UK _ rfl,rfl,rfl⟩,hT.push _⟩,λe hd=>?_,by simp[intItems],CmpOf.ints_lt (numAt #[(a,t),(b,u),(c,x),(d,y)]) (λ_ _=>intItems_at),λv h' tk hP hk=>?_⟩
 ·show e<((s.heap.push _).push _).objs.size;rw[Vi,hsz];rcases UC.1 hd with rfl|hd
  ·rw[hsz];exact Wi _
  ·rcases UC.1 hd with rfl|hd
   ·exact V1 (Wi _)
   ·cases hd
 ·have hold:∀z o,s.heap.get? z=some o->h'.get? z=some o:=λz o e=>by
   refine hk z o (λhm=>?_) (Uz _ (Uz _ e));rcases UC.1 hm with e1|hm
   ·have:=UA e;rw[e1,hsz] at this;exact Vr _ (Nat.lt_of_succ_lt this)
   ·cases hm
  have hP':(intItems #[(a,t),(b,u),(c,x),(d,y)])[argBest (λi j=>decide (numAt #[(a,t),(b,u),(c,x),(d,y)] i<numAt #[(a,t),(b,u),(c,x),(d,y)] j)) 3]?=some v:=by
   have hsz2:(intItems #[(a,t),(b,u),(c,x),(d,y)]).size-1=3:=by simp[intItems]
   rw[<-hsz2];exact hP
  obtain⟨z,rfl⟩:=intItems_at hP';obtain⟨h1,h2⟩:=argBest_lt (numAt #[(a,t),(b,u),(c,x),(d,y)]) 3;have em:M.sP [a,b,c,d]=numAt #[(a,t),(b,u),(c,x),(d,y)] (argBest (λi j=>decide (numAt #[(a,t),(b,u),(c,x),(d,y)] i<numAt #[(a,t),(b,u),(c,x),(d,y)] j)) 3):=by
   have k0:=h2 0 ();have k1:=h2 1 ();have k2:=h2 2 ();have k3:=h2 3 ();generalize hg:argBest (λi j=>decide (numAt #[(a,t),(b,u),(c,x),(d,y)] i<numAt #[(a,t),(b,u),(c,x),(d,y)] j)) 3=g at h1 k0 k1 k2 k3 ⊢;refine M.Fe ?_ λe he=>?_
   ·rcases (show g=0\/g=1\/g=2\/g=3 by lia) with rfl|rfl|rfl|rfl<;>simp[numAt]
   ·simp only[UC,Ve,Vf] at he;rcases he with rfl|rfl|rfl|rfl
    ·exact k0
    ·exact k1
    ·exact k2
    ·exact k3
  rw[<-em];exact h h' z tk hold
end
def Lq:Za->Hp->VK->Prop:=λxs H Q=>∃a b c d,xs=[.int a,.int b,.int c,.int d]/\Q (.int (M.sP [a,b,c,d])) H
section
variable {X:Cx}
def EN(hc:X.calm=true):CallR X (.builtin "min") Lq:=by
 intro ZL s σ H xs us Q I r h;obtain⟨a,b,c,d,rfl,q⟩:=h;cases r with
 |cons r1 r=>cases r with
  |cons r2 r=>cases r with
   |cons r3 r=>cases r with
    |cons r4 r=>cases r;obtain⟨t,rfl⟩:=r1;obtain⟨t2,rfl⟩:=r2;obtain⟨t3,rfl⟩:=r3;obtain⟨t4,rfl⟩:=r4;exact AJ (I.ok.hd hc) λh' t tk k=>⟨.int (M.sP [a,b,c,d]),H,I.kept k,⟨t,rfl⟩,q⟩
end
end L2
namespace M
open PySem L2
def Sc:Zb
 |[.lst l]=>(e9 l).bind λns=>if 0<ns.length then some (.int (sP ns)) else none
 |_=>none
def F7:Zb
 |[.int a,.int b,.int c,.int d]=>some (.int (sP [a,b,c,d]))
 |_=>none
section
variable {K:Zj}
def JA{a b c d:D} (h:ZK K S H [a,b,c,d] vs):∃v w x y,vs=[v,w,x,y]/\DenP K S H a v/\DenP K S H b w/\DenP K S H c x/\DenP K S H d y:=by
 cases h with
 |cons h1 h=>cases h with
  |cons h2 h=>cases h with
   |cons h3 h=>cases h with
    |cons h4 h=>cases h;exact⟨_,_,_,_,rfl,h1,h2,h3,h4⟩
def Mf:FV K Lq F7:=λS H vs ds g Q s d q k=>by
 unfold F7 at q;split at q
 ·rename_i a b c e;cases q;obtain⟨v,w,x,y,rfl,d1,d2,d3,d4⟩:=JA d;exact⟨a,b,c,e,by rw[d1.int,d2.int,d3.int,d4.int],k _ S H (Ext.refl s) (Zt.2 rfl)⟩
 ·cases q
end
end M
namespace L2
open PySem
def fH{XN:Zl}{sc scope:Scope}{N:Zl}{js:List (Option Nat)}(h1:scope.kind=.function:=by rfl)(h2:∀y∈scope.names,y.2 ≠ .cell:=by decide +kernel)(h3:∀y∈scope.names,y.2=.free->sc.names.lookup y.1=some .cell\/sc.names.lookup y.1=some .free:=by decide +kernel)
  (h4:∀y∈scope.names,y.2=.local->scope.names.lookup y.1=some .local:=by decide +kernel) (h5:js.length=N.length:=by rfl) (h6:((N.zip js).all λp=>match p.2 with|none=>true|some j=>decide (XN[j]?=some p.1)&&decide (scope.names.lookup p.1=some .free))=true:=by decide +kernel):Zw XN sc scope N js:=⟨h1,h2,h3,h4,h5,h6⟩
end L2
namespace M
open PySem L2
@[simp]def RD(m:Zb)(e:D)(a:XA):XE:=λρ=>(a ρ).bind λds=>m (ds++[e])
end M
namespace L2
open PySem
structure FunD(K:Zj)(x qual:Str)(st:Stmt)(T:Addr)(f:Addr)(fd:FuncData):Prop where
 ex:∃(oc:Value) (od:Option Addr) (kV doc pm:Value) (an:Option Addr) (cdv ct:Value) (osl:Array (Zi)),fd=W.fnOf x qual (i4 st) (fX st) (aB st) (.ref T) kV doc pm an cdv ct/\K.lookup f=some ⟨oc,od,.func fd,osl⟩/\W.codeIn K cdv qual=true
end L2
namespace M
open PySem L2
section
variable {K:Zj}{S S' H H':Hp}
def QY:Zc->Option (Zc)
 |[.tup l]=>some l.reverse|_=>none
@[simp]def To(a:XA):XA:=λρ=>(a ρ).bind QY
@[simp]def Tc(ans:List (Str×Bool))(e:XE):XE:=λρ=>(e ρ).bind λd=>match d with|.ins N _ _=>(ans.lookup N).map .bl|_=>none
end
end M
namespace L2
open PySem PySem.Spec PyProof.Rows Builtin Builtin.ObjectAttr Builtin.Getset_descriptor
def XAt(C a:Addr)(h:Heap):Prop:=∃o vs,h.get? a=some o/\o.cls=.ref C/\o.data=.fields vs
abbrev Ax(C a:Addr):HO:=.ext (XAt C a)
structure ZJ(K:Zj)(C:Addr):Prop where
 cl:W.hasDictIn K C=true
 ga:W.findIn K (.ref C) "__getattribute__"=some (some (.builtin "BaseException.__getattribute__"))
 gx:W.findIn K (.ref C) "__getattr__"=some none
 ca:W.findIn K (.ref C) "__class__"=some (some (.builtin "object.__class__"))
 hn:W.specialIn K (.builtin "object.__class__") "__get__"=some (some (.builtin "getset_descriptor.__get__"))
 tk:W.takesIn K (.builtin "object.__class__")=some true
 ob:W.mroIn K C (.type "object")=some true
 be:W.mroIn K C (.type "BaseException")=some true
section
variable {prog:Program}{w:World}{A:Around}{E:Ze}{s:Shared}{K:Zj}{C a:Addr}
def XAt.type(x:XAt C a h):W.Looks M h (typeOf (.ref a)) (.ref C):=by obtain⟨o,vs,e,c,d⟩:=x;exact c▸(W.Looks.ld e).andThen .now
def GB(X:K.In h)(c:ZJ K C):W.Looks M h (find (.ref a) (.ref C) "__class__") (.bind (.builtin "getset_descriptor.__get__") (.builtin "object.__class__")):=by refine (WI (M:=M) X c.ca).andThen ((show W.Looks M h (getOf (some (.builtin "object.__class__"))) (some (.builtin "getset_descriptor.__get__")) from W.looks_specialIn X c.hn).andThen ?_);exact (show W.Looks M h (dataDescriptor? (some (.builtin "object.__class__")) (some (.builtin "getset_descriptor.__get__"))) (some (.builtin "getset_descriptor.__get__",.builtin "object.__class__")) from (W.looks_takesIn (M:=M) X c.tk).andThen .now).andThen (W.Looks.tag .now)
def xh{tp:Value}{R:Result->Shared->Prop}(X:K.In s.heap)(c:ZJ K C)(x:XAt C a s.heap)(h:R (.ok (.ret (.ref C))) s) :
  codeAny (model prog w) A (.call (.builtin "getset_descriptor.__get__") ⟨[.builtin "object.__class__",.ref a,tp],[]⟩) R s:=by
 obtain⟨hp,gn,dr,tt,oss⟩:=s;have T0:=x.type (M:=model prog w);have T1:=W.looks_mroIn (M:=model prog w) X c.ob;refine X7 W.KF.slot_gs.plain W.KF.entry_gs (W.KF.slot_gs.check _ _ _ _ _ _ _ _ W.KF.type_class (W.KF.args_gs _ _ _) ?_);unfold Builtin.«getset_descriptor.__get__» descrGet;rw[W.dga_obj];refine Ut (Uw ?_);unfold descrGetter descrCheckInstance descrNameAndClass isInstance;simp only[W.KF.owner_class]
 repeat lk
 refine⟨Code.quiet_builtin _ (by decide +kernel),V4 W.KF.entry_class ?_⟩;unfold Builtin.«object.__class__» shownTypeOf
 repeat lk
 exact h
def yV{nv:Value}{Q:Unit->Shared->Prop} (X:K.In s.heap)(c:ZJ K C)(x:XAt C a s.heap)(h:Q Unit.unit s):wpAny M A (checkBuiltinCall "BaseException.__getattribute__" ⟨[.ref a,nv],[]⟩) Q E s:=by
 obtain⟨hp,gn,dr,tt,oss⟩:=s;have T0:=x.type (M:=M);have T1:=W.looks_mroIn (M:=M) X c.be;have kk:builtinKind "BaseException.__getattribute__"=some .slot:=by decide +kernel
 have sp:splitId "BaseException.__getattribute__"=some ("BaseException", "__getattribute__"):=by decide +kernel
 have ar:=F.args_bexc_ga (.ref a) nv;simp only[checkBuiltinCall,kk,sp];refine Ut ?_;unfold isInstance
 repeat (first|lk|wp_step)
 exact h
def EX{Q:Zi->Shared->Prop}(X:K.In s.heap)(c:ZJ K C)(x:XAt C a s.heap)(h:Q (some (.ref C)) { s with toks:=s.toks+1 }):wpAny (model prog w) A (getAttr? (.ref a) "__class__") Q E s:=by
 obtain⟨hp,gn,dr,tt,oss⟩:=s;have T0:=x.type (M:=model prog w);have T1:=WI (M:=model prog w) X c.ga;have T2:=WI (M:=model prog w) X c.gx;have T3:=GB (M:=model prog w) (a:=a) X c;unfold getAttr? getAttrBy? getAttrBy;refine Ut (wpAny_mkText (Ut (V5 (UY (Ut (T0.at (Ut (T1.at ?_))))))));show wpAny _ _ (getAttrByItsOwn _ _ _ _ _ _) _ _ _;unfold getAttrByItsOwn hookBefore;refine Ut (T2.at ?_);refine Ut (V5 (UY ?_));show wpAny _ _ (boundAndCalled _ _ _) _ _ _;have hbd:=YU.ga.bind (.ref a);unfold boundAndCalled;rw[hbd];refine Ut (Uw ?_);refine Wj (X7 YU.ga.plain F.entry_bexc_ga (yV X c x ?_));unfold Builtin.«object.__getattribute__»
 repeat (first|with_reducible refine Wj ?_|lk|wp_step)
 refine xh (s:=⟨hp,gn,dr,tt+1,oss⟩) X c x ?_;refine Uw (Uw ?_);exact Uw h
def GU(c:ZJ K C):W.KitX K (.ref a) (.ref C) (XAt C a) where
 ty:=λ_ _ _ x=>x.type
 it:=λM h X _=>by
  obtain⟨cd,hc,_⟩:=Xn c.cl;unfold W.clsIn at hc;split at hc
  ·rename_i ho;intro A' Q' E' s' k q;unfold isType loadHead;exact Ut (wpAny_loadPart (k _ _ (X _ _ ho)) (Uw q))
  ·cases hc
 ne:=λh tp dd its n sl X htp=>by
  obtain⟨cd,hc,_⟩:=Xn c.cl;refine Bool.eq_false_iff.2 λq=>?_;obtain rfl:C=tp:=Value.ref.inj (VA.1 q);unfold W.clsIn at hc;split at hc
  ·rename_i ho;have z:=(X _ _ ho).symm.trans htp;cases z
  ·cases hc
 ca:=λX x k=>EX X c x k
end
end L2
namespace PySem
def jp(e:Addr)(h:Heap):Prop:=∃o vs,h.get? e=some o/\o.data=.fields vs/\vs[2]?=some .none
def FS(f:Obj->Obj):Prop:=∀o vs,o.data=.fields vs->vs[2]?=some .none->∃ws,(f o).data=.fields ws/\ws[2]?=some .none
inductive Zv{α:Type}:Sem α->Prop where
 |pure a:Zv (.pure a)
 |raise e:Zv (.raise e)
 |unsup w:Zv (.unsupported w)
 |rule {t k}:(∀x,Zv (k x))->Zv (.rule t k)
 | «at» {t k}:(∀x,Zv (k x))->Zv (.at t k)
 |load {a p k}:(∀x,Zv (k x))->Zv (.load a p k)
 |upd {a p f k}:FS f->(∀x,Zv (k x))->Zv (.update a p f k)
 |alloc {o k}:(∀x,Zv (k x))->Zv (.alloc o k)
 |alive {a k}:(∀x,Zv (k x))->Zv (.loadIfAlive a k)
 |point {a k}:(∀x,Zv (k x))->Zv (.point a k)
 |fresh {k}:(∀x,Zv (k x))->Zv (.fresh k)
 |ask {k}:(∀x,Zv (k x))->Zv (.ask k)
 |handled {o k}:(∀x,Zv (k x))->Zv (.handled o k)
 |stack {k}:(∀x,Zv (k x))->Zv (.stack k)
def bp{α β:Type}{m:Sem α}{f:α->Sem β}(h:Zv m)(hf:∀a,Zv (f a)):Zv (m >>= f):=by
 show Zv (Sem.bind m f);induction h with
 |pure a=>exact hf a
 |raise e=>exact .raise e
 |unsup w=>exact .unsup w
 |rule _ ih=>exact .rule ih
 | «at» _ ih=>exact .at ih
 |load _ ih=>exact .load ih
 |upd k _ ih=>exact .upd k ih
 |alloc _ ih=>exact .alloc ih
 |alive _ ih=>exact .alive ih
 |point _ ih=>exact .point ih
 |fresh _ ih=>exact .fresh ih
 |ask _ ih=>exact .ask ih
 |handled _ ih=>exact .handled ih
 |stack _ ih=>exact .stack ih
def Gm{e a:Addr}{h:Heap}{f:Obj->Obj}(c:jp e h)(k:FS f):jp e (h.update a f):=by
 obtain⟨o,vs,h1,h2,h3⟩:=c;by_cases q:a=e
 ·subst q;obtain⟨ws,k1,k2⟩:=k o vs h2 h3;exact⟨f o,ws,Vc _ h1 (VR k1),k1,k2⟩
 ·exact⟨o,vs,(Vu _ _ q).trans h1,h2,h3⟩
def KY{α:Type}{M:Model}{Γ:PySem.Ctx}{e:Addr}{t:Sem α}(hm:Zv t){Q:α->Pos->Shared->Prop}{E:Value->Pos->Shared->Prop}{p:Pos}{s:Shared}(c:jp e s.heap)
  (h:Sem.wp M Γ t (λa p s'=>jp e s'.heap->Q a p s') (λa p s'=>jp e s'.heap->E a p s') p s):Sem.wp M Γ t Q E p s:=by
 induction hm generalizing p s with
 |pure a=>exact h c
 |raise a=>exact h c
 |unsup w=>exact h
 |rule _ ih=>exact ih _ c h
 | «at» _ ih=>exact ih _ c h
 |load _ ih=>obtain⟨o,ho,h⟩:=h;exact⟨o,ho,ih _ c h⟩
 |upd k _ ih=>exact⟨h.1,ih _ (Gm c k) h.2⟩
 |alloc _ ih=>obtain⟨o,vs,h1,h2⟩:=c;exact ih _ ⟨o,vs,Uz _ h1,h2⟩ h
 |alive _ ih=>exact ih _ c h
 |point _ ih=>exact ih _ c h
 |fresh _ ih=>exact ih _ c h
 |ask _ ih=>exact ih _ c h
 |handled _ ih=>exact ih _ c h
 |stack _ ih=>exact ih _ c h
def sL{α:Type}{M:Model}{A:Around}{e:Addr}{t:Sem α}{Q:α->Shared->Prop}{E:Ze}{s:Shared}(hm:Zv t)(c:jp e s.heap)
  (h:wpAny M A t (λa s'=>jp e s'.heap->Q a s') (λa s'=>jp e s'.heap->E a s') s):wpAny M A t Q E s:=λΓ p hΓ=>KY hm c (h Γ p hΓ)
def kd{α:Type}{M:Model}{A:Around}{e:Addr}{fx:Option Addr}{t:Sem α}{Q:α->Shared->Prop}{E:Ze}{s:Shared}(hm:Zv t)(c:fx=none->jp e s.heap)
  (h:wpAny M A t (λa s'=>(fx=none->jp e s'.heap)->Q a s') (λa s'=>(fx=none->jp e s'.heap)->E a s') s):wpAny M A t Q E s:=by
 cases fx with
 |none=>exact sL (e:=e) hm (c rfl) (UO h (λ_ _ q z=>q λ_=>z) λ_ _ q z=>q λ_=>z)
 |some x=>exact UO h (λ_ _ q=>q λz=>by cases z) λ_ _ q=>q λz=>by cases z
def sM(a:Addr):Zv (load a):=.load λ_=>.pure _
def jP(v:Value)(i:Nat):Zv (field v i):=by
 unfold field fieldsOf;refine bp ?_ λx=>?_
 ·cases v<;>try exact .unsup _
  refine bp (sM _) λo=>?_;split
  ·exact .pure _
  ·exact .unsup _
 ·split
  ·exact .pure _
  ·exact .unsup _
def GS{i:Nat}{x:Value}(hi:i≠2):FS (Obj.mapFields (·.setIfInBounds i x)):=λo vs h1 h2=>⟨_,Vo h1 _,by rw[Array.getElem?_setIfInBounds_ne hi];exact h2⟩
def kO(v:Value){i:Nat}{x:Value}(hi:i≠2):Zv (setField v i x):=by
 unfold setField;cases v<;>try exact .unsup _
 unfold updateField;refine bp (sM _) λo=>?_;split
 ·split
  ·exact .upd (GS hi) λ_=>.pure _
  ·exact .unsup _
 ·exact .unsup _
def iG{α:Type}{c:Prop}[Decidable c]{a b:Sem α}(h1:Zv a)(h2:Zv b):Zv (if c then a else b):=by
 split
 ·exact h1
 ·exact h2
def gK(e:Value)(f:Option Addr):Zv (setFlight e f):=by unfold setFlight;exact bp (jP _ _) λ_=>iG (kO _ (by decide)) (.pure _)
def pU:Zv stack:=.stack λ_=>.pure _
theorem v6:∀l:List Env,Zv (readyFrames l)
 |[]=>.pure _
 |env::outer=>by
  unfold readyFrames;split
  ·refine bp (sM _) λo=>iG (.pure _) ?_;refine bp ?_ λb=>bp ?_ λc=>bp (.upd (λo vs h1 h2=>⟨vs,h1,h2⟩) λ_=>.pure _) λ_=>v6 outer
   ·unfold behindIsImport;exact iG (.pure _) (iG (.pure _) (bp (jP _ _) λ_=>.pure _))
   ·unfold keptBack;split
    ·refine iG (.pure _) (bp ?_ λ_=>.pure _);unfold underTheClaimsCaller;exact bp pU λ_=>.pure _
    ·exact .pure _
  ·exact .unsup _
def zb(env:Env):Zv (frameOf env):=by
 unfold frameOf;refine bp ?_ λl=>bp ?_ λx=>?_
 ·unfold frameEnvs;exact bp pU λ_=>.pure _
 ·unfold frameObject;split
  ·exact .pure _
  ·exact bp (v6 _) λ_=>.pure _
 ·split
  ·exact .pure _
  ·exact .unsup _
def Ct(f:Addr)(b:Bool):Zv (entryPlaceOf f b):=by
 unfold entryPlaceOf;refine bp pU λ_=>?_;split
 ·exact .pure _
 ·exact .pure _
def yd(c:String)(d:Data):Zv (newObjAsIs (.type c) d):=by unfold newObjAsIs;exact bp (.alloc λ_=>.pure _) λ_=>.pure _
def Cs(a b c d e:Value)(pl:Zh):Zv (EntryCells.newEntry a b c d e pl):=by unfold EntryCells.newEntry newFields newObj;dsimp only;exact iG (bp (.unsup _) λ_=>yd _ _) (yd _ _)
def sN(e:Value)(env:Env):Zv (noteFrame e env):=by
 unfold noteFrame;split
 ·rename_i f _;refine bp (jP _ _) λh=>?_;have fin:Zv (do setField e 1 (← EntryCells.newEntry h (← frameOf env) .none (rawInt f) .none (← entryPlaceOf f (h != .none)))):=by
   refine bp (zb _) λ_=>bp (Ct _ _) λ_=>bp (Cs _ _ _ _ _ _) λ_=>kO _ (by decide)
  split
  ·exact bp (jP _ _) λ_=>iG (.pure _) (bp (kO _ (by decide)) λ_=>fin)
  ·exact fin
 ·exact .unsup _
def lZ(env:Env)(e:Value):Zv (leaving env e):=by unfold leaving;exact bp (sN _ _) λ_=>gK _ _
def sO{α:Type}(what:String)(e:Value)(env:Env):Zv (passOn what e env:Sem α):=by unfold passOn;exact bp (jP _ _) λ_=>iG (.unsup _) (bp (gK _ _) λ_=>.raise _)
end PySem
namespace L2
open PySem PySem.Spec PyProof.Rows
def ObjOk.at_(x:ObjOk P w H h a o):∃u,h.get? a=some u:=by
 cases o with
 |lst xs=>obtain⟨_,_,_,_,e⟩:=x;exact⟨_,e⟩
 |tup xs=>obtain⟨_,_,_,_,e,_⟩:=x;exact⟨_,e⟩
 |dK kvs=>obtain⟨_,_,_,_,o,_,_,e,_⟩:=x;exact⟨_,e⟩
 |dT kvs=>obtain⟨_,_,_,_,o,_,_,e,_⟩:=x;exact⟨_,e⟩
 |set S n=>obtain⟨o,_,_,_,e,_⟩:=x;exact⟨_,e⟩
 |ins C dx fs=>obtain⟨_,_,_,e,_⟩:=x;exact⟨_,e⟩
 |own y=>exact x
 |xd fs=>obtain⟨_,⟨_,_,_,e,_⟩,_⟩:=x;exact⟨_,e⟩
 |rng lo hi=>obtain⟨_,_,_,e⟩:=x;exact⟨_,e⟩
 |frz ob u=>exact⟨_,x.1⟩
 |tbl ps=>exact⟨_,(show h.get? a=some _ from x)⟩
 |met f y=>exact⟨_,(show h.get? a=some _ from x)⟩
 |ext φ=>exact x.2.1
def g6(P:Program)(w:World):zR:=λouter H s E v s'=>∃(e:Addr) (cls a0:Value) (fx:Option Addr) (H':Hp) (B:Heap),v=.ref e/\s'.os=s.os/\AllBare s'.gens/\Un (mG outer) [] H H' s.heap s'.heap/\HOk P w H' s'.heap/\(E cls fx H'/\(fx=none->jp e s'.heap)) /\
 Heap.FlyingW B outer e cls a0 s'.heap/\(∀b u,H' b=some u->∃o,B.get? b=some o)/\∀b o,s.heap.get? b=some o->b∉mG outer->∃o',B.get? b=some o'
section
variable {H H':Hp}{B h0 h h':Heap}{fs:Zk}
def i6(x:HOk P w H h)(hB:B.StaysIn h)(hB':B.StaysIn h')(k:∀b u,H b=some u->∃o,B.get? b=some o):HOk P w H h':=λa o ha=>
 (x a o ha).stay (λb u hb q=>by
  obtain⟨v,hv⟩:∃v,H b=some v:=by
   rcases hb with rfl|hb
   ·exact⟨o,ha⟩
   ·exact⟨_,hb⟩
  obtain⟨ob,q1⟩:=k b v hv;have q2:=hB b ob q1;rw[q] at q2;cases q2
  exact hB' b _ q1) (λ_ q=>q) λ_ _ q=>q
def pQ(un:Un fs [] H H' h0 h)(k2:∀b o,h0.get? b=some o->b∉fs->∃o',B.get? b=some o')(nf:∀b∈fs,∀o,h0.get? b=some o->∀vs,o.data ≠ .fields vs)(fr:∀b∈fs,H b=none)
  (hB:B.StaysIn h) (hB':B.StaysIn h') (sm:h.UpToSlots h'):Un fs [] H H' h0 h':=by
 have no:∀b:Addr,b∉([]:Zk):=λb z=>by cases z
 have both:∀b o,h0.get? b=some o->b∉fs->∃o',h.get? b=some o'/\h'.get? b=some o':=λb o q z=>by obtain⟨o',q'⟩:=k2 b o q z;exact⟨o',hB b o' q',hB' b o' q'⟩
 have slots:∀b o,h0.get? b=some o->b∈fs->∃sl,h'.get? b=some { o with slots:=sl }:=λb o q z=>by obtain⟨sl,q2⟩:=un.slot b o q (fr b z) z (no b);obtain⟨sl',q3⟩:=sm b _ q2 (nf b z o q);exact⟨sl',q3⟩
 refine⟨λb o q n z _=>?_,λb o q _ z _=>slots b o q z,un.free,λb o q _=>?_,un.tups,un.frzs,un.tbls⟩
 ·obtain⟨o',q1,q2⟩:=both b o q z;have q3:=un.keep b o q n z (no b);rw[q3] at q1;cases q1;exact q2
 ·by_cases z:b∈fs
  ·obtain⟨sl,q1⟩:=slots b o q z;exact⟨_,q1⟩
  ·obtain⟨o',_,q2⟩:=both b o q z;exact⟨o',q2⟩
end
section
variable {X:Cx}{ZL:Zf}{σ:St}{H:Hp}{s:Shared}{E:XK}{B:Heap}{e:Addr}{cls a0:Value}
def Inv.nf(I:Inv X ZL σ H s):∀b∈X.fs,∀o,X.s₀.heap.get? b=some o->∀vs,o.data ≠ .fields vs:=λb z o q=>by obtain⟨_,o1,q1,nf⟩:=I.ok.funs.mem z;rw[q] at q1;cases q1;exact nf
def Inv.nfS(I:Inv X ZL σ H s):∀b∈mG X.stack,∀o,s.heap.get? b=some o->∀vs,o.data ≠ .fields vs:=λb z o q=>by obtain⟨_,o1,q1,nf⟩:=I.stack.mem z;rw[q] at q1;cases q1;exact nf
def y6{h':Heap}(I:Inv X ZL σ H s)(hex:X.ex=[]){fx:Option Addr}(hE:E cls fx H)(cx:fx=none->jp e h')(hB:B.StaysIn s.heap)(k1:∀b u,H b=some u->∃o,B.get? b=some o)
  (k2:∀b o,X.s₀.heap.get? b=some o->b∉X.fs->∃o',B.get? b=some o') (fl:Heap.FlyingW B X.outer e cls a0 h') (sm:s.heap.UpToSlots h'):g6 X.prog X.w X.outer X.H₀ X.s₀ E (.ref e) { s with heap:=h' }:=
 ⟨e,cls,a0,fx,H,B,rfl,I.os,I.bare,pQ (by have:=I.base;rw[hex] at this;exact this) k2 I.nf I.ok.frf hB fl.1 sm,i6 I.hok hB fl.1 k1,⟨hE,cx⟩,fl,k1,k2⟩
def Inv.notStk(I:Inv X ZL σ H s) {o:Obj}(q:X.s₀.heap.get? b=some o)(z:b∉X.fs):b∉mG X.stack:=λhb=>by
 rcases UC.1 (I.stkSub b hb) with r|r
 ·exact absurd (UA q) (by rw[r];exact X8.2 I.ok.above)
 ·exact z r
end
section
variable {P:Program}{w:World}{K:Zj}{mg:Zg}{base:Heap}{N:Zl}{qual:Str}{scope:Scope}{f:Addr}{cdv:Value}{A:Around}{outer:List Env}{s:Shared}{H:Hp}{E:XK}
def eM:gc (g6 P w) (m5 (g6 P w) P w K mg base N qual scope f cdv A outer s H E) E:=by intro ZL σ H1 s1 v s' I hx;obtain⟨e,cls,a0,fx,H',B,rfl,ho,hg,un,hok,⟨hE,cx⟩,fl,k1,k2⟩:=hx;have I2:=I.call' ho un hok hg (λb z=>by cases z);show wpAny _ _ (leaving _ _) _ _ _;refine kd (fx:=fx) (lZ _ _) cx ?_;refine wpAny_leaves_onW I.ok.frames rfl fl λh' fl' sm cx'=>y6 (X:=m5 (g6 P w) P w K mg base N qual scope f cdv A outer s H E) I2 rfl hE cx' fl.1 k1 (λb o q z=>?_) fl' sm;obtain⟨o1,q1⟩:=I.base.there b o q (by intro y;cases y);exact k2 b o1 q1 (I.notStk q z)
def FU(X:Cx)(E:XK):Prop:=∀(ZL:Zf) (σ:St) (H:Hp) (s:Shared) (h':Heap) (e C:Addr) (vs:Zh),Inv X ZL σ H s->Heap.MadeExcOf s.heap h' e (.ref C) vs->E (.ref C) none H->X.xe (.ref e) { s with heap:=h' }
def eR:FU (m5 (g6 P w) P w K mg base N qual scope f cdv A outer s H E) E:=by
 intro ZL σ H1 s1 h' e C vs I hx hE;have hin:∀env∈(m5 (g6 P w) P w K mg base N qual scope f cdv A outer s H E).stack,∀b,env.frame=some b->b∈mG (m5 (g6 P w) P w K mg base N qual scope f cdv A outer s H E).stack:=λenv he b hb=>WH.2 ⟨env,he,hb⟩;have I2:=I.kept (t':=s1.toks) hx.keeps;have cx:jp e h':=by obtain⟨t0,q0,_⟩:=hx.there;exact⟨_,_,q0,rfl,rfl⟩
 show wpAny _ _ (leaving _ _) _ _ _;refine sL (lZ _ _) cx ?_;refine wpAny_leaves_madeW (base:=W.hideAll s1.heap (mG (m5 (g6 P w) P w K mg base N qual scope f cdv A outer s H E).stack)) I.ok.frames rfl (λb o q=>Xi _ q) (W.funFrames_hide I.stack hin) hx λh2 t fl _ _ sm cx2=>?_;refine y6 (X:=m5 (g6 P w) P w K mg base N qual scope f cdv A outer s H E) (s:={ s1 with heap:=h' }) I2 (fx:=none) rfl hE (λ_=>cx2) (λb o q=>hx.keeps b o (Xi _ q)) (λb u q=>?_) (λb o q z=>?_) fl sm
 ·obtain⟨o,q1⟩:=(I.hok b u q).at_;exact⟨o,Xh _ q1 λhb=>by rw[I.stkFree b hb] at q;cases q⟩
 ·obtain⟨o1,q1⟩:=I.base.there b o q (by intro y;cases y);exact⟨o1,Xh _ q1 (I.notStk q z)⟩
end
def Dx{K:Zj}{h:Heap} {bmB:Zh}{newId:String}(X:K.In h)(q:W.excIn K C bmB newId=true):∃bm N nm qn bs hdct sn sub ab col dd k0 k1 k2 k3 k5 mN,
  h.get? C=some (excClassObj nm qn C N bs bm hdct sn sub ab col dd k0 k1 k2 k3 k5 newId)/\h.Ns N mN/\mN "__init__"=none/\OwnTail h bmB bm:=by
 unfold W.excIn at q;split at q<;>try (cases q;done)
 rename_i dd cd sl ho;split at q<;>try (cases q;done)
 rename_i C' bm k0 k1 k2 k3 n k5 hm hs;simp only[UZ,VA,YV] at q;obtain⟨⟨⟨⟨⟨rfl,rfl⟩,qd⟩,qt⟩,qo⟩,qi⟩:=q;obtain⟨nm,bs,mro,ns,qn,hd,sn,sub,ab,col,del⟩:=cd;obtain⟨l⟩:=sl;dsimp only at hm hs qd qo qi;subst hm hs qd;exact⟨bm,ns,nm,qn,bs,hd,sn,sub,ab,col,dd,k0,k1,k2,k3,k5,_,X _ _ ho,.of_isNs (W.isNs_of_in X qo),W.nsMap_none_of_in X qo qi,W.tail_of_in X qt⟩
abbrev xJ:Zh:=[.type "ValueError",.type "Exception",.type "BaseException",.type "object"]
def Ip(K:Zj)(N:Str)(te:TE)(E:XK):TS:=λ_ σ H=>∀C,W.nsIn K mainGlobals N=some (some (.ref C))->cj te eV σ H λvs H1=>vs.length=1/\E (.ref C) none H1
section
variable {X:Cx}{E:XK}{x:Str}{e:Expr}{te:TE}{np cpos pos:Pos}
def di(hz:FU X E)(hE:∃C:Addr,W.nsIn X.K mainGlobals x=some (some (.ref C))/\W.excIn X.K C xJ "ValueError.__new__"=true/\X.mg x=some (.ref C)) (hh:X.A.handled=none) (hg:Gl X x) (he:PE X e te)
  (hdb:(x==("__debug__" : Str))=false:=by decide) (h1:starEach [e] X.env=(false,eval e X.env)::starEach [] X.env:=by rfl) (h2:(backTo cpos (starEach [] X.env)).any (·.1)=false:=by rfl) :
  PS X (.Raise (some (.Call (.Name x np) [e] [] cpos)) none pos) (Ip X.K x te E):=by
 intro ZL s σ H D I h;obtain⟨C,hN,hq,hm⟩:=hE;have h:=h C hN;obtain⟨tl,N,nm,q,bs,hdct,sn,sub,ab,col,dd,k0,k1,k2,k3,k5,mN,hC,hNs,hni,T⟩:=Dx I.ok.mod.kin hq
 refine wpAny_Raise_call_subT (C:=C) (nm:=nm) (q:=q) (N:=N) (bs:=bs) (bm:=tl) (hdct:=hdct) (sn:=sn) (sub:=sub) (ab:=ab) (col:=col) (dd:=dd) (k0:=k0) (k1:=k1) (k2:=k2) (k3:=k3) (k5:=k5)
  WZ (mN:=mN) (T.hasType WZ.hasBase) hh (by rw[h1];show (false || (backTo cpos (starEach [] X.env)).any (·.1))=false;rw[h2];rfl) hni (gH I hg hm ⟨rfl,?_⟩ hdb)
 have hp:=ac (X:=X) he ai h1 cpos ZL s σ H (λvs H1=>vs.length=1/\E (.ref C) none H1) I h;rw[h1] at hp ⊢;exact Wm (cr hp λus s2 ⟨vs,H2,I2,r,ql,q2⟩=>⟨rfl,by rw[<-r.length,ql];exact UD (show 1<=1000 by decide) (by rw[UF];decide),I2.bk _ _ hC,hNs.keeps I2.bk,T.keeps I2.bk,λh' e' hx=>hz ZL σ H2 s2 h' e' C us I2 hx q2⟩)
end
abbrev Cx.hold(X:Cx)(e:Addr):Cx:={ X with A:=X.A.mark (some (.ref e)),calm:=false,xe:=λ_ _=>False }
abbrev Cx.pin(X:Cx)(ps:Zf):Cx:={ X with pn:=X.pn++ps }
section
variable {X:Cx}{ZL:Zf}{σ:St}{H H':Hp}{s s':Shared}{e:Addr}
def Cx.Ok.hold(ok:X.Ok)(e:Addr):(X.hold e).Ok:=
 ⟨ok.mod,ok.kind,ok.glob,ok.blt,ok.above,ok.inj,ok.has,ok.cab,(λz=>by cases z),ok.frames,ok.stk,ok.exf,ok.bs,ok.bsz,ok.noex,ok.exfs,ok.funs,ok.frf⟩
def Inv.hold(I:Inv X ZL σ H s)(e:Addr):Inv (X.hold e) ZL σ H s:=⟨I.ok.hold e,I.os,I.bare,I.base,I.loc,I.cell,I.free,I.freeC,I.pin,I.hok,I.len⟩
def Inv.unhold(ok:X.Ok)(I:Inv (X.hold e) ZL σ H s):Inv X ZL σ H s:=⟨ok,I.os,I.bare,I.base,I.loc,I.cell,I.free,I.freeC,I.pin,I.hok,I.len⟩
def Inv.toPin(I:Inv X ZL σ H s):Inv (X.pin ZL) [] σ H s:=
 ⟨⟨I.ok.mod,I.ok.kind,I.ok.glob,I.ok.blt,I.ok.above,I.ok.inj,I.ok.has,I.ok.cab,I.ok.hd,I.ok.frames,I.ok.stk,I.ok.exf,I.ok.bs,I.ok.bsz,I.ok.noex,I.ok.exfs,I.ok.funs,I.ok.frf⟩,I.os,I.bare,I.base,I.loc,I.cell,I.free,I.freeC,λp hp=>I.pin p (by rw[Vb] at hp;exact hp),I.hok,I.len⟩
def Inv.ofPin{ps:Zf}(ok:X.Ok)(I:Inv (X.pin ZL) ps σ H s):Inv X ZL σ H s:=
 ⟨ok,I.os,I.bare,I.base,I.loc,I.cell,I.free,I.freeC,λp hp=>I.pin p (UW _ hp),I.hok,I.len⟩
def JC{i:Nat}{n:Str}{pos:Pos}{Q:Unit->Shared->Prop}(I:Inv X ZL σ H s)(hN:X.N.Nodup)(hi:X.N[i]?=some n)(hk:X.env.kindOf n=some .local)
  (h:∀s',Inv X ZL (σ.set i none) H s'->Q Unit.unit s'):wpAny M A (do bindName X.env n .none;unbindBehindTheSuite X.env n pos) Q E s:=by
 have hcls:(X.env.scope.kind == .class || (X.env.scope.kind == .module&&X.env.locals != X.env.globals))=false:=by rw[I.ok.kind];rfl
 obtain⟨m,hn,hl⟩:=id I.loc;refine Ut (wpAny_bindName (Yw hk hn (λh1 hn1 hs1=>?_) hcls));unfold unbindBehindTheSuite;refine W0 ?_;unfold unbindName;refine Ut (X9 (Ut ?_));unfold deleteName;simp only[hk,hcls];rw[Uu (by decide)];refine Ut (wpAny_nsDel_keeps hn1 λh2 v hn2 hs2=>?_);simp only[Vt,YW,Bool.not_true,WV,VB];have hs:=hs1.trans hs2;have cne:=I.cne;obtain⟨oL,_,_,hoL,_⟩:=id hn;refine Uw (X9 (h _ ⟨I.ok,I.os,I.bare,⟨λb o q z hb hx=>?_,λb o q z hb hx=>?_,I.base.free,λb o q hx=>?_,I.base.tups,I.base.frzs,I.base.tbls⟩,⟨_,hn2,λj y v' e1 e2 e3=>?_⟩,λy c q=>?_,I.free,I.freeC,λp hp=>?_,λb ob q=>?_,by rw[U0];exact I.len⟩))
 ·exact (hs.2 b (UH (UP (UA q) I.ok.above))).trans (I.base.keep b o q z hb hx)
 ·obtain⟨sl,q1⟩:=I.base.slot b o q z hb hx;exact⟨sl,(hs.2 b (UH (UP (UA q) I.ok.above))).trans q1⟩
 ·obtain⟨o',q1⟩:=I.base.there b o q hx;exact⟨o',(hs.2 b (UH (UP (UA q) I.ok.above))).trans q1⟩
 ·have hj:j≠i:=λz=>by
   subst z;by_cases hlt:j<σ.length
   ·rw[Vs hlt] at e2;cases e2
   ·rw[List.getElem?_eq_none (by rw[U0];lia)] at e2;cases e2
  rw[UQ (UB hj)] at e2;have hy:y≠n:=λz=>hj (wa hN e1 (z▸hi));obtain⟨u',r',q⟩:=hl j y v' e1 e2 e3;refine⟨u',r',?_⟩;rcases q with ⟨k,q⟩|⟨k,c,q,z⟩
  ·exact .inl ⟨k,by simp[hy,q]⟩
  ·exact .inr ⟨k,c,q,z.sameBut hs (cne y c q)⟩
 ·obtain⟨w',z⟩:=I.cell y c q;exact⟨w',z.sameBut hs (cne y c q)⟩
 ·obtain⟨q,z,ne,nf,d⟩:=I.pin p hp;exact⟨(hs.2 p.1 ne).trans q,z,ne,nf,d⟩
 ·refine (I.hok b ob q).stay (λc w' hc z=>(hs.2 c ?_).trans z) (λ_ z=>z) λ_ _ z=>z;rintro rfl;rcases hc with rfl|hc
  ·rw[I.free] at q;cases q
  ·rw[I.free] at hc;cases hc
end
def iY(K:Zj)(ans:List (Str×Bool))(u:Value):Prop:=∀N b,ans.lookup N=some b->∀C:Addr,W.nsIn K mainGlobals N=some (some (.ref C))->ZJ K C/\W.kitOne K (.ref C) u=some b
def iw{K:Zj}{u:Value}:iY K [] u:=λN b h=>by cases h
def EE{K:Zj}{u:Value}{N:Str}{b0:Bool}{ans:List (Str×Bool)}(h0:∀C:Addr,W.nsIn K mainGlobals N=some (some (.ref C))->ZJ K C/\W.kitOne K (.ref C) u=some b0)(h:iY K ans u):iY K ((N,b0)::ans) u:=λM b hl C hC=>by
 rw[List.lookup] at hl;split at hl
 ·rename_i hb;have e:M=N:=by simpa using hb
  subst e;cases hl;exact h0 C hC
 ·exact h M b hl C hC
def O0(K:Zj)(ans:List (Str×Bool))(vv:V):Za->Hp->VK->Prop:=λxs H Q=>∃e C N b,xs=[.ref e,vv]/\H e=some (Ax C e)/\W.nsIn K mainGlobals N=some (some (.ref C))/\ans.lookup N=some b/\Q (.bl b) H
def KQ(K:Zj)(i:Nat)(ans:List (Str×Bool)):TE:=λσ H Q=>∃e C N b,σ[i]?=some (some (.ref e))/\H e=some (Ax C e)/\W.nsIn K mainGlobals N=some (some (.ref C))/\ans.lookup N=some b/\Q (.bl b) H
def BC(K:Zj)(i:Nat):List (List (Str×Bool))->TA
 |[]=>eV
 |a::l=>cj (KQ K i a) (BC K i l)
section
variable {X:Cx}{e:Expr}{pos p p':Pos}{i:Nat}{N:Str}{ans:List (Str×Bool)}{vv:V}{u:Value}
def Aj(hv:∀v,RelV vv v->v=u)(hc:iY X.K ans u):CallR X (.builtin "isinstance") (O0 X.K ans vv):=by intro ZL s σ H xs us Q I r h;obtain⟨a,C,N,b,rfl,ea,hC,hb,q⟩:=h;obtain⟨u1,v,rfl,r1,r2⟩:=Vals.two r;have eu:u1=Value.ref a:=r1;subst eu;have ev:=hv v r2;subst ev;obtain⟨c,hk⟩:=hc N b hb C hC;exact U8 (GU c) I.kIn (I.hok a _ ea).1 hk (λz=>nomatch z) λtk=>⟨.bl b,H,I.tok _,rfl,q⟩
def GR{K:Zj}{σ:St}{H:Hp}{Q:VK}(h:KQ K i ans σ H Q):NR (O0 K ans vv) (cj (j4 i) (cj (tC vv) eV)) σ H Q:=by obtain⟨a,C,N,b,h1,ea,hC,hb,q⟩:=h;exact⟨.ref a,h1,a,C,N,b,rfl,ea,hC,hb,q⟩
def p8(h:∃T:Addr,X.mg N=some (.ref T)/\iY X.K ans (.ref T))(hg:Gl X "isinstance") (hm:X.mg "isinstance"=none) (gT:Gl X N) (he:PE X e (j4 i)) (hdb:(N==("__debug__" : Str))=false:=by decide)
  (h1:starEach [e,.Name N p'] X.env=(false,eval e X.env)::starEach [.Name N p'] X.env:=by rfl) (h2:starEach [.Name N p'] X.env=(false,eval (.Name N p') X.env)::starEach [] X.env:=by rfl) (hpl:(backTo pos (starEach [.Name N p'] X.env)).any (·.1)=false:=by rfl) :
  PE X (.Call (.Name "isinstance" p) [e,.Name N p'] [] pos) (KQ X.K i ans):=by
 obtain⟨T,k2,k3⟩:=h;exact λa b c d q I h=>bv (Aj (vv:=.ref T) (λv r=>r) k3) hg hm cP (ac he (ac (ja (v:=.ref T) gT k2 rfl hdb) ai h2) h1) (by decide) (by decide) h1 hpl a b c d q I (GR h)
def Kb{M:String}(k2:X.mg N=none)(hv:bootBuiltins N=some (.type M))(k3:iY X.K ans (.type M))(hg:Gl X "isinstance") (hm:X.mg "isinstance"=none) (gT:Gl X N) (he:PE X e (j4 i)) (hn:N ≠ "__name__" := by decide) (hdb:(N==("__debug__" : Str))=false:=by decide)
  (h1:starEach [e,.Name N p'] X.env=(false,eval e X.env)::starEach [.Name N p'] X.env:=by rfl) (h2:starEach [.Name N p'] X.env=(false,eval (.Name N p') X.env)::starEach [] X.env:=by rfl) (hpl:(backTo pos (starEach [.Name N p'] X.env)).any (·.1)=false:=by rfl) :
  PE X (.Call (.Name "isinstance" p) [e,.Name N p'] [] pos) (KQ X.K i ans):=
 λa b c d q I h=>bv (Aj (vv:=.ty M) (λv r=>r) k3) hg hm cP (ac he (ac (l4 (v:=.ty M) gT k2 hv rfl hn hdb) ai h2) h1) (by decide) (by decide) h1 hpl a b c d q I (GR h)
def dF{st:Stmt}{fA:List Stmt}{t:TS}(h:PS X st t):PSs X (st::fA) (λD=>t { D with nx:=λ_ _=>False }):=by
 intro ZL s σ H D I q;refine VV (cr (h ZL s σ H _ I q) λf s1 z=>?_);cases f with
 |next=>obtain⟨_,_,_,y⟩:=z;exact y.elim
 |brk|cont|ret _=>exact z
def C6(K:Zj)(N:Str)(sp:Sp)(E:XK)(t:TA):TE:=λσ H Q=>∀C,W.nsIn K mainGlobals N=some (some (.ref C))->Ej C sp [] E t σ H Q
def nI{k:Nat}{C:Addr}{fd:FuncData}{ps:Zl}{sp:Sp} {CX:zR}{es:List Expr} (hn:W.nsIn X.K mainGlobals x=some (some (.ref C)))(M:Mk X.K C g)(F:Zq X.prog X.w X.K X.mg X.base CX k g fd ps sp)(hr:ZA (k+1) X.A)(hg:Gl X x)(hm:X.mg x=some (.ref C))(hb:Binds X.K fd ps [])(hx:gc CX X E)(ha:PA X (e::es) t)
  (hdb:(x==("__debug__" : Str))=false:=by decide) (he:starEach (e::es) X.env=(false,eval e X.env)::starEach es X.env:=by rfl) (hpl:(backTo pos (starEach es X.env)).any (·.1)=false:=by rfl):PE X (.Call (.Name x p) (e::es) [] pos) (C6 X.K x sp E t):=λa b c d q I h=>
 Kc M F hr hg hm hb .nil hx ha hdb he hpl a b c d q I (h C hn)
def Fun.okX{P:Program}{w:World}{K:Zj}{mg:Zg}{base:Heap}{x qual:Str}{st:Stmt}{f:Addr}{fd:FuncData}{N ps:Zl}{k:Nat}{sp:Sp}(F:Fun K x qual st f fd)(S:Zp N ps (aB st))(len:∀vs H Q E,sp vs H Q E->vs.length=ps.length)
  (hbody:∀(cdv:Value) (A:Around) (outer:List Env) (s:Shared) (H:Hp) (vs:Za) (Q:VK) (E:XK),ZA k (A.deeper (envOfC qual (aB st) s.heap.objs.size f cdv))->sp vs H Q E ->
   ∃t,PSs (m5 (g6 P w) P w K mg base N qual (aB st) f cdv A outer s H E) (fX st) t/\t { nx:=λ_ H'=>Q .non H',rt:=Q } (aX N vs) H):Zq P w K mg base (g6 P w) (k+1) f fd ps sp:=by
 obtain⟨oc,od,kV,doc,pm,an,cdv,ct,osl,rfl,lk,hcd⟩:=F.ex;exact GH lk hcd S len λA outer s H vs Q E hr hsp=>hbody cdv A outer s H vs Q E hr hsp
end
end L2
namespace M
open PySem L2
section
variable {K:Zj}{S S' H H':Hp}
def TF:Zb
 |[.int i]=>some (.int (if i<0 then -i else i))
 |_=>none
inductive RO where
 |rz (N:Str)|nx (ρ:Env)
abbrev XR:=Env->Option RO
def Ag(N:Str):Prop:=N="NoForm"
def XDone(K:Zj)(A S:Hp)(E:XK)(N:Str):Prop:=∀fx C S' H',(fx=none\/Ag N)->Same S S'->Same S' H'->Same A H'->(∀b,S' b=none\/A b=none\/∃u,A b=some u/\IT u)->W.nsIn K mainGlobals N=some (some (.ref C))->E (.ref C) fx H'
def XDone.mono(s:Same S S')(h:XDone K A S E N):XDone K A S' E N:=λfx C S1 H1 ag z=>h fx C S1 H1 ag (s.trans z)
def DoneX(K:Zj)(A:Hp)(Λ:Nat->Option Addr)(S:Hp)(E:XK)(D:Ends):RO->Prop
 |.rz N=>XDone K A S E N
 |.nx ρ=>∀σ' S' H',RlA K A Λ ρ σ' S' H'->Same S S'->D.nx σ' H'
def DoneX.mono{A:Hp}{Λ:Nat->Option Addr}{E:XK}{D:Ends}{o:RO}(s:Same S S')(h:DoneX K A Λ S E D o):DoneX K A Λ S' E D o:=by
 cases o with
 |rz N=>exact XDone.mono s h
 |nx ρ=>exact λσ1 S1 H1 r z=>h σ1 S1 H1 r (s.trans z)
def SX(K:Zj)(E:XK)(t:TS)(m:XR):Prop:=∀A Λ ρ σ S H (D:Ends) o,RlA K A Λ ρ σ S H->m ρ=some o->DoneX K A Λ S E D o->t D σ H
def qN(K:Zj)(E:XK)(t:TE)(m:Env->Option Str):Prop:=∀A Λ ρ σ S H (Q:VK) N,RlA K A Λ ρ σ S H->m ρ=some N->XDone K A S E N->t σ H Q
variable {E:XK}
@[simp]def dP:XR:=λρ=>some (.nx ρ)
def cM:SX K E BD dP:=λA Λ ρ σ S H D o r x k=>by cases x;exact k σ S H r (Same.refl _)
@[simp]def eh(N:Str):XR:=λ_=>some (.rz N)
def dn:SX K E (Ip K N (tC v) E) (eh N):=λA Λ ρ σ S H D o r x k=>by cases x;exact λC hC=>⟨rfl,k none C S H (.inl rfl) (Same.refl _) r.sub r.asub r.adis hC⟩
@[simp]def j3(c:XT)(m n:XR):XR:=λρ=>(c ρ).bind λb=>if b=true then m ρ else n ρ
def fJ{tc:TT} (hc:ST K tc c)(ht:SX K E t m)(hu:SX K E u n):SX K E (KP tc t u) (j3 c m n):=λA Λ ρ σ S H D o r x k=>by
 obtain⟨q,qc,x⟩:=ZM x;refine hc ρ σ S H _ q r.toRl qc λS1 H1 z1=>?_;cases q with
 |true=>exact oP (ht A Λ ρ σ S1 H1 D o (r.ext z1) (by simpa using x) (k.mono z1.sh))
 |false=>exact rA (hu A Λ ρ σ S1 H1 D o (r.ext z1) (by simpa using x) (k.mono z1.sh))
@[simp]def eE(m n:XR):XR:=λρ=>(m ρ).bind λo=>match o with|.nx ρ'=>n ρ' | .rz N=>some (.rz N)
def cN(ht:SX K E t m)(hu:SX K E u n):SX K E (C8 t u) (eE m n):=λA Λ ρ σ S H D o r x k=>by
 obtain⟨om,q,x⟩:=ZM x;refine ht A Λ ρ σ S H _ om r q ?_;cases om with
 |nx ρ'=>exact λσ' S' H' r' z=>hu A Λ ρ' σ' S' H' D o r' x (k.mono z)
 |rz N=>cases x;exact k
@[simp]def gY(m:XR):XR:=λρ=>(m ρ).bind λo=>match o with|.nx _=>none|.rz N=>some (.rz N)
def fG(ht:SX K E t m):SX K E (λD=>t { D with nx:=λ_ _=>False }) (gY m):=λA Λ ρ σ S H D o r x k=>by
 obtain⟨om,q,x⟩:=ZM x;cases om with
 |nx ρ'=>cases x
 |rz N=>cases x;exact ht A Λ ρ σ S H _ _ r q k
@[simp]def zS(m:Env->Option Str):XR:=λρ=>(m ρ).map .rz
def qH(h:qN K E t m):SX K E (FG t) (zS m):=λA Λ ρ σ S H D o r x k=>by
 unfold zS at x;cases q:m ρ with
 |none=>rw[q] at x;cases x
 |some N=>rw[q] at x;cases x;exact h A Λ ρ σ S H _ N r q k
def zJ(h:qN K E t m):SX K E (si t) (zS m):=λA Λ ρ σ S H D o r x k=>by
 unfold zS at x;cases q:m ρ with
 |none=>rw[q] at x;cases x
 |some N=>rw[q] at x;cases x;exact h A Λ ρ σ S H _ N r q k
def zI(K:Zj)(n:Nat)(m:Zc->Option Str):Sp:=λvs H _ E=>vs.length=n/\∃S ds N,Same S H/\Dens K S ds vs/\m ds=some N/\∀fx C S' H',(fx=none\/Ag N)->Ext S H S' H'->W.nsIn K mainGlobals N=some (some (.ref C))->E (.ref C) fx H'
def pN{H1:Hp} (r:RlA K A Λ ρ σ S H)(z:Ext S H S1 H1):Same S S1/\Same S1 H1/\Same A H1/\∀b,S1 b=none\/A b=none\/∃u,A b=some u/\IT u:=⟨z.sh,z.sub,(r.ext z).asub,(r.ext z).adis⟩
@[simp]def dN(m:Zc->Option Str)(a:XA):Env->Option Str:=λρ=>(a ρ).bind m
def dJ{n:Nat} (h:SA K t a)(hn:∀ρ ds,a ρ=some ds->ds.length=n):qN K E (yx (zI K n m) [] E t) (dN m a):=λA Λ ρ σ S H Q N r x k=>by obtain⟨ds,q,x⟩:=ZM x;refine h ρ σ S H _ ds r.toRl q λvs S1 H1 z1 d1=>?_;rw[Vb];refine⟨by rw[<-d1.length];exact hn ρ ds q,S1,ds,N,z1.sub,d1,x,λfx C S2 H2 ag z2 hC=>?_⟩;obtain⟨e1,e2,e3,e4⟩:=pN r (z1.trans z2);exact k fx C S2 H2 ag e1 e2 e3 e4 hC
def Ia(K:Zj)(n:Nat)(m:Zc->Option Str):Sp:=λvs H _ E=>vs.length=n+1/\∃x fA S ds N,vs=x::fA/\Same S H/\Dens K S ds fA/\m ds=some N/\∀fx C S' H',(fx=none\/Ag N)->Ext S H S' H'->W.nsIn K mainGlobals N=some (some (.ref C))->E (.ref C) fx H'
def wQ{n:Nat} (h:SA K t a)(hn:∀ρ ds,a ρ=some ds->ds.length=n):qN K E (C6 K M (Ia K n m) E t) (dN m a):=λA Λ ρ σ S H Q N r x k=>by obtain⟨ds,q,x⟩:=ZM x;intro C0 hC0;refine h ρ σ S H _ ds r.toRl q λvs S1 H1 z1 d1=>?_;intro o dx ho hdx hne;rw[Vb];have z2:Ext S1 H1 S1 (upd H1 dx (.own o)):=Ext.own z1.sub hdx;have z3:Ext S1 (upd H1 dx (.own o)) S1 (upd (upd H1 dx (.own o)) o (.ins C0 dx [])):=Ext.own z2.sub (by rw[aL (UB hne)];exact ho);refine⟨by rw[UI,<-d1.length,hn ρ ds q],_,vs,S1,ds,N,rfl,z3.sub,d1,x,λfx C S2 H2 ag z4 hC=>?_⟩;obtain⟨e1,e2,e3,e4⟩:=pN r (((z1.trans z2).trans z3).trans z4);exact k fx C S2 H2 ag e1 e2 e3 e4 hC
def KL{sp:Sp}{dvs:Za} (h:qN K E t m):qN K E (yx sp dvs E' (cj t tr)) m:=λA Λ ρ σ S H Q N r x k=>h A Λ ρ σ S H _ N r x k
def Ig{js:List (Option Nat)} {tt:FW}{te:TE} (h:qN K E t m):qN K E (sg js (JD K t) g tt te) m:=λA Λ ρ σ S H Q N r x k=>h A Λ ρ σ S H _ N r x k
def Ce(n:Nat)(m:XR)(ds:Zc):Option Str:=match m (ds.map .sh++List.replicate (n-ds.length) .un) with
 |some (.rz N)=>some N
 |_=>none
def yW{H1:Hp}(s1:Same S S1)(s2:Same S1 H1)(s3:Same (eY S H) H1)(s4:∀b,S1 b=none\/eY S H b=none\/∃u,eY S H b=some u/\IT u):Ext S H S1 H1:=⟨s1,s2,λb o hb hn=>by
 have ha:=qT hb hn;refine⟨s3 b o ha,?_⟩;rcases s4 b with z|z|⟨u,z,hu⟩
 ·exact .inl z
 ·rw[ha] at z;cases z
 ·rw[ha] at z;cases z;exact .inr hu⟩
def h9{N:Zl}{n k:Nat} (hs:SX K E t m)(hN:N.length=n)(h:zI K k (Ce n m) vs H Q E):t { nx:=λ_ H'=>Q .non H',rt:=Q } (L2.aX N vs) H:=by obtain⟨_,S,ds,M,s,dd,y,q⟩:=h;subst hN;unfold Ce at y;have r:=wz (N:=N) s dd;split at y<;>cases y;rename_i qx;exact hs _ _ _ _ S H _ _ r qx λfx C S' H' ag s1 s2 s3 s4 hC=>q fx C S' H' ag (yW s1 s2 s3 s4) hC
def GG(n:Nat)(m:XR)(ds:Zc):Option Str:=match m (.un::(ds.map .sh++List.replicate (n-ds.length) .un)) with
 |some (.rz N)=>some N
 |_=>none
def RlA.un0{Λ:Nat->Option Addr} {v:Option V}(r:RlA K A (λ_=>none) ρ σ S H):RlA K A (λ_=>none) (.un::ρ) (v::σ) S H:=by
 obtain⟨Φ,f⟩:=r;refine⟨λi=>match i with|0=>[]|j+1=>Φ j,?_⟩
 exact {
  len:=by rw[UI,UI,f.len]
  sub:=f.sub
  sh:=λi d h=>by cases i with|zero=>cases h|succ j=>exact f.sh j d (by simpa using h)
  ow:=λi o h=>by cases i with|zero=>cases h|succ j=>exact f.ow j o (by simpa using h)
  dj:=λi j o o' hij h1 h2=>by
   cases i with
   |zero=>cases h1
   |succ i=>
    cases j with
    |zero=>cases h2
    |succ j=>exact f.dj i j o o' (λz=>hij (by rw[z])) (by simpa using h1) (by simpa using h2)
  lo:=λi h=>by cases i with|zero=>cases h|succ j=>obtain⟨a,z,_⟩:=f.lo j (by simpa using h);cases z
  asub:=f.asub
  adis:=f.adis }
def zr{N:Zl}{n0:Str}{n k:Nat} (hs:SX K E t m)(hN:N.length=n)(h:Ia K k (GG n m) vs H Q E):t { nx:=λ_ H'=>Q .non H',rt:=Q } (L2.aX (n0::N) vs) H:=by
 obtain⟨_,x,fA,S,ds,M,rfl,s,dd,y,q⟩:=h;subst hN;unfold GG at y;have r:=(wz (N:=N) s dd).un0 (Λ:=λ_=>none) (v:=some x);have es:L2.aX (n0::N) (x::fA)=some x::L2.aX N fA:=by unfold L2.aX;rw[UG,UI,UI,Nat.add_sub_add_right,List.cons_append]
 rw[es];split at y<;>cases y;rename_i qx;exact hs _ _ _ _ S H _ _ r qx λfx C S' H' ag s1 s2 s3 s4 hC=>q fx C S' H' ag (yW s1 s2 s3 s4) hC
theorem Du:∀bs:List Bool,Dens K S (bs.map D.bl) (bs.map V.bl)
 |[]=>.nil
 |b::bs=>.cons (Zu.2 rfl) (Du bs)
def DI(N:Str):List (List (Str×Bool))->Option (List Bool)
 |[]=>some []
 |a::l=>(a.lookup N).bind λb=>(DI N l).map λbs=>b::bs
theorem HP{i:Nat} : ∀ {l:List (List (Str×Bool))} {bs:List Bool},DI N l=some bs->∀σ H (Q:Za->Hp->Prop) e C,σ[i]?=some (some (.ref e))->H e=some (Ax C e)->W.nsIn K mainGlobals N=some (some (.ref C))->Q (bs.map V.bl) H->BC K i l σ H Q
 |[],bs,h,σ,H,Q,e,C,_,_,_,q=>by cases h;exact q
 |a::l,bs,h,σ,H,Q,e,C,h1,h2,h3,q=>by
  obtain⟨b,qa,h⟩:=ZM h;cases ql:DI N l with
  |none=>rw[ql] at h;cases h
  |some bs'=>rw[ql] at h;cases h;exact⟨e,C,N,b,h1,h2,h3,qa,HP ql σ H _ e C h1 h2 h3 q⟩
def Em(K:Zj)(i:Nat):List (Nat×List (List (Str×Bool)))->TS
 |[]=>BD
 |[p]=>nX (C5 (BC K i p.2)) (dA p.1)
 |p::l=>C8 (nX (C5 (BC K i p.2)) (dA p.1)) (Em K i l)
def lm(i:Nat)(N:Str):List (Nat×List (List (Str×Bool)))->Env->Option Env
 |[],ρ=>some ρ
 |p::l,ρ=>if p.1=i then none else (DI N p.2).bind λbs=>if bs.length<=1000 then lm i N l (ρ.set p.1 (.sh (.lst (bs.map .bl)))) else none
def SU(K:Zj)(i:Nat)(N:Str)(t:TS)(f:Env->Option Env):Prop:=∀A Λ ρ σ S H (D:Ends) e C ρ',RlA K A Λ ρ σ S H->f ρ=some ρ'->σ[i]?=some (some (.ref e))->H e=some (Ax C e)->W.nsIn K mainGlobals N=some (some (.ref C)) ->
 (∀σ' S' H',RlA K A Λ ρ' σ' S' H'->Same S S'->σ'[i]?=some (some (.ref e))->H' e=some (Ax C e)->D.nx σ' H')->t D σ H
def Ic{i:Nat} (p:Nat×List (List (Str×Bool))):SU K i N (nX (C5 (BC K i p.2)) (dA p.1)) (lm i N [p]):=λA Λ ρ σ S H D e C ρ' r hf h1 h2 h3 k=>by
 unfold lm at hf;split at hf
 ·cases hf
 ·rename_i hij;obtain⟨bs,ql,hf⟩:=ZM hf;split at hf
  ·rename_i hl;cases hf;refine HP ql σ H _ e C h1 h2 h3 ⟨by rw[UN];exact UD hl (by rw[UF];decide),λa ha=>?_⟩;have z:Ext S H (upd S a (.lst (bs.map V.bl))) (upd H a (.lst (bs.map V.bl))):=Ext.new r.sub ha;refine k _ (upd S a (.lst (bs.map V.bl))) _ ((r.ext z).set p.1 (Zs.2 ⟨a,bs.map V.bl,rfl,.inl aG,Du bs⟩)) z.sh ?_ ?_
   ·rw[UQ hij];exact h1
   ·rw[aL (bg h2 ha)];exact h2
  ·cases hf
def Cg{i:Nat} {p:Nat×List (List (Str×Bool))}{l:List (Nat×List (List (Str×Bool)))}{ρ':Env}(h:lm i N (p::l) ρ=some ρ'):∃ρ1,lm i N [p] ρ=some ρ1/\lm i N l ρ1=some ρ':=by
 rw[lm] at h;split at h
 ·cases h
 ·rename_i hij;obtain⟨bs,ql,h⟩:=ZM h;split at h
  ·rename_i hl;refine⟨ρ.set p.1 (.sh (.lst (bs.map .bl))),?_,h⟩;rw[lm,Uu hij,ql];show (if bs.length<=1000 then _ else none)=_;rw[Uv hl];rfl
  ·cases h
theorem Ef{i:Nat} : ∀l:List (Nat×List (List (Str×Bool))),SU K i N (Em K i l) (lm i N l)
 |[]=>λA Λ ρ σ S H D e C ρ' r hf h1 h2 h3 k=>by cases hf;exact k σ S H r (Same.refl _) h1 h2
 |[p]=>Ic p
 |p::q::l=>λA Λ ρ σ S H D e C ρ' r hf h1 h2 h3 k=>by obtain⟨ρ1,f1,f2⟩:=Cg hf;refine Ic p A Λ ρ σ S H _ e C ρ1 r f1 h1 h2 h3 λσ' S' H' r' z a b=>?_;exact Ef (q::l) A Λ ρ1 σ' S' H' D e C ρ' r' f2 a b h3 λσ2 S2 H2 r2 z2 a2 b2=>k σ2 S2 H2 r2 (z.trans z2) a2 b2
def RlA.drop(r:RlA K A Λ ρ σ S H)(i:Nat):RlA K A Λ (ρ.set i .un) (σ.set i none) S H:=by
 obtain⟨Φ,f⟩:=r;have ge:∀(j:Nat) t,(ρ.set i .un)[j]?=some t->t ≠ .un->j≠i/\ρ[j]?=some t:=λj t h n=>by
  rcases cg h with ⟨_,e,_⟩|⟨hij,h⟩
  ·exact absurd e n
  ·exact⟨UB hij,h⟩
 exact⟨Φ,{
  len:=by rw[U0,U0];exact f.len
  sub:=f.sub
  sh:=λj d h=>by obtain⟨hj,h⟩:=ge j _ h (by intro z;cases z);rw[UQ (UB hj)];exact f.sh j d h
  ow:=λj o h=>by obtain⟨hj,h⟩:=ge j _ h (by intro z;cases z);rw[UQ (UB hj)];exact f.ow j o h
  dj:=λj k o o' hjk h1 h2=>f.dj j k o o' hjk (ge j _ h1 (by intro z;cases z)).2 (ge k _ h2 (by intro z;cases z)).2
  lo:=λj h=>by obtain⟨hj,h⟩:=ge j _ h (by intro z;cases z);rw[UQ (UB hj)];exact f.lo j h
  asub:=f.asub
  adis:=f.adis }⟩
@[simp]def Us(L:Zl)(i:Nat)(m:XR)(l:List (Nat×List (List (Str×Bool)))):XS:=λρ=>if i<ρ.length then (m ρ).bind λo=>match o with
 |.rz N=>if L.contains N then (lm i N l (ρ.map λ_=>.un)).map λρ'=>.nx (ρ'.set i .un) else none
 |.nx ρ'=>some (.nx ρ') else none
def QZ:Zc->Option (Zc)
 |[.int i,.int j]=>some (DC i (j-i).toNat)
 |_=>none
@[simp]def Tt(a:XA):XA:=λρ=>(a ρ).bind QZ
end
end M
namespace L2
open PySem PySem.Spec PyProof.Rows
def PR(x:Str):It:=⟨λi _=>i<x.cps.size,λi H v H'=>H'=H/\∃c,x.cps[i]?=some c/\v=.str ⟨#[c]⟩,λi _=>x.cps.size<=i⟩
def C9{P:Program}{w:World}{K:Zj}{tg:Expr}(it:Addr)(x:Str)(t:Tok):Turn P w K tg (PR x) [it] it (λi h=>h.IsStrIter it "str_ascii_iterator" x t i) where
 mem:=by simp
 obj:=λi h st b hb=>by
  obtain rfl:b=it:=by simpa using hb
  obtain⟨o,e,c,d⟩:=st;exact⟨o,e,λv z=>by rw[d] at z;cases z⟩
 keep:=λi h h' st k=>by obtain⟨o,e,r⟩:=st;exact⟨o,k it (by simp) o e,r⟩
 item:=by intro X hP hw hK hc i ZL s σ H E I hf st hg;subst hP hw hK;have ⟨g0,g1,g2,g3,g4,g5⟩:=hf it (by simp);refine (Walks.strAscii (prog:=X.prog) (w:=X.w) (I.ok.hd hc) it x t).item i s _ _ hg st λv h' tk hv st' kk=>?_;obtain⟨c,u,hx,rfl⟩:=hv;have J:Inv X ZL σ H { s with heap:=h',toks:=tk }:=I.turned (λb o hb q=>kk b o (by simpa using hb) q) g0 g1 g3 g4 g5;obtain⟨o,e,c1,d1⟩:=id st';exact⟨_,rfl,Dy (s:={ s with heap:=h',toks:=tk }) e c1 d1 (by decide) ⟨.str ⟨#[c]⟩,H,J,⟨u,rfl⟩,⟨rfl,c,hx,rfl⟩,st',λb hb=>(hf b hb).1⟩⟩
 done:=by intro X hP hw hK hc i ZL s σ H E I hf st hg;subst hP hw hK;have ⟨g0,g1,g2,g3,g4,g5⟩:=hf it (by simp);exact wpAny_pyNext_ascii_end (I.ok.hd hc) st (by have:x.cps.size<=i:=hg;simp;lia) λh' eb=>⟨rfl,I.turned (t':=s.toks) (λb o hb q=>eb b o hb q) g0 g1 g3 g4 g5⟩
 self:=λ_ _ _ _ _ st h=>wpAny_pyIter_striter_ascii st h
def FK{P:Program}{w:World}{K:Zj}{tg:Expr}(it:Addr)(x:Str)(t:Tok):Turn P w K tg (PR x) [it] it (λi h=>h.IsStrIter it "str_iterator" x t i) where
 mem:=by simp
 obj:=λi h st b hb=>by
  obtain rfl:b=it:=by simpa using hb
  obtain⟨o,e,c,d⟩:=st;exact⟨o,e,λv z=>by rw[d] at z;cases z⟩
 keep:=λi h h' st k=>by obtain⟨o,e,r⟩:=st;exact⟨o,k it (by simp) o e,r⟩
 item:=by intro X hP hw hK hc i ZL s σ H E I hf st hg;subst hP hw hK;have ⟨g0,g1,g2,g3,g4,g5⟩:=hf it (by simp);refine (Walks.strWide (prog:=X.prog) (w:=X.w) (I.ok.hd hc) it x t).item i s _ _ hg st λv h' tk hv st' kk=>?_;obtain⟨c,u,hx,rfl⟩:=hv;have J:Inv X ZL σ H { s with heap:=h',toks:=tk }:=I.turned (λb o hb q=>kk b o (by simpa using hb) q) g0 g1 g3 g4 g5;obtain⟨o,e,c1,d1⟩:=id st';exact⟨_,rfl,Dy (s:={ s with heap:=h',toks:=tk }) e c1 d1 (by decide) ⟨.str ⟨#[c]⟩,H,J,⟨u,rfl⟩,⟨rfl,c,hx,rfl⟩,st',λb hb=>(hf b hb).1⟩⟩
 done:=by intro X hP hw hK hc i ZL s σ H E I hf st hg;subst hP hw hK;have ⟨g0,g1,g2,g3,g4,g5⟩:=hf it (by simp);exact wpAny_pyNext_wide_end (I.ok.hd hc) st (by have:x.cps.size<=i:=hg;simp;lia) λh' eb=>⟨rfl,I.turned (t':=s.toks) (λb o hb q=>eb b o hb q) g0 g1 g3 g4 g5⟩
 self:=λ_ _ _ _ _ st h=>wpAny_pyIter_striter_wide st h
section
variable {X:Cx}{tg:Expr}
def Ow(tl:TE):TI:=λσ H R=>tl σ H λv H1=>∃x,v=.str x/\R (PR x) H1
def Hw{l:Expr}{tl:TE}(hl:PE X l tl):PI X tg l (Ow tl):=by
 intro ZL s σ H R I h;refine cr (hl ZL s σ H _ I h) λv s1 ZN=>?_;obtain⟨y,H1,I1,r1,q1⟩:=ZN;obtain⟨x,rfl,q⟩:=q1;obtain⟨t,rfl⟩:=r1;have fp:∀(o:Obj) (b:Addr),b∈[s1.heap.objs.size]->mL X ZL H1 b:=λo b hb=>by
  obtain rfl:b=s1.heap.objs.size:=by simpa using hb
  exact I1.fpOk (Ux _) (I1.hok.fresh (Ux _))
 cases ha:x.cps.all (· < 128)
 ·exact wpAny_pyIter_wide ha ⟨_,[s1.heap.objs.size],_,_,H1,rfl,I1.kept (t':=s1.toks) λb o z=>Uz _ z,FK _ x t,⟨_,UK _ rfl,rfl,rfl⟩,λb hb=>fp default b hb,q⟩
 ·exact wpAny_pyIter_ascii ha ⟨_,[s1.heap.objs.size],_,_,H1,rfl,I1.kept (t':=s1.toks) λb o z=>Uz _ z,C9 _ x t,⟨_,UK _ rfl,rfl,rfl⟩,λb hb=>fp default b hb,q⟩
def O8:V->Option Int->Option Int->Hp->VK->Prop:=λx lo hi H Q=>∃y,x=.str y/\y.length<=sizeLine/\Q (.str (Txt.slice y lo hi)) H
def Nv:SlR X O8:=by
 intro ZL s σ H x v vl vu lo hi sl Q I rx hs pl pu h;obtain⟨y,rfl,hz,q⟩:=h;obtain⟨t,rfl⟩:=rx;have fin:∀t' k,EP X ZL σ Q (.str (Txt.slice y lo hi) t') { s with toks:=k }:=λt' k=>⟨.str _,H,I.tok k,⟨t',rfl⟩,q⟩
 refine⟨"str",_,F.slot_str_getitem.lookup,Vm _ _ _,?_⟩;cases pl<;>cases pu
 ·exact W1 (l:=none) (u:=none) (st:=none) hs rfl (W2 ⟨UD (W3 y _ _) hz,fin⟩)
 ·exact W1 (l:=none) (u:=some (_,_)) (st:=none) hs rfl (W2 ⟨UD (W3 y _ _) hz,fin⟩)
 ·exact W1 (l:=some (_,_)) (u:=none) (st:=none) hs rfl (W2 ⟨UD (W3 y _ _) hz,fin⟩)
 ·exact W1 (l:=some (_,_)) (u:=some (_,_)) (st:=none) hs rfl (W2 ⟨UD (W3 y _ _) hz,fin⟩)
def rStarts:V->Za->Hp->VK->Prop:=λx vs H Q=>∃y z,x=.str y/\vs=[.str z]/\Q (.bl (decide (z.length<=y.length)&&Builtin.Str.subAt y z 0)) H
def Fj:Jb X "str.startswith" rStarts:=by intro ZL s σ H x vs v us Q I rx rv h;obtain⟨y,z,rfl,rfl,q⟩:=h;obtain⟨t,rfl⟩:=rx;obtain⟨u,rfl,ru⟩:=rv.one;obtain⟨t',rfl⟩:=ru;refine call_gives F.slot_str_startswith (Vm _ _ _) F.entry_str_startswith (F.args_str_startswith_2 _ _) (gives_str_startswith y z t t') ?_;refine⟨.bl _,H,I,?_,q⟩;show Value.bool _=Value.bool _;rw[Nat.zero_add]
def Ll:Za->Hp->VK->Prop:=λxs H Q=>∃x n,xs=[.str x]/\PySem.intText? x=some n/\x.length<=640/\Q (.int n) H
def xM:CallR X (.type "int") Ll:=by intro ZL s σ H xs us Q I r h;obtain⟨x,n,rfl,hn,hl,q⟩:=h;obtain⟨u,rfl,t,rfl⟩:=Er r;exact W.KIN.call_text hn hl ⟨.int n,H,I.tok _,⟨_,rfl⟩,q⟩
def Lu:Za->Hp->VK->Prop:=λxs H Q=>∃i,xs=[.int i]/\i.natAbs.log2<1920/\Q (.str (toString i)) H
def xN:CallR X (.type "str") Lu:=yQ
theorem Bn(z:Array Nat)(h:z.size=1):∀(n:Nat) (a:Array Nat),((List.replicate n z).foldl (· ++ ·) a).size=a.size+n
 |0,_=>rfl
 |n+1,a=>by rw[List.replicate_succ,List.foldl_cons,Bn z h n,Array.size_append,h];lia
def OZ:R2:=λx y H Q=>∃i j,x=.str i/\y=.str j/\Q (.bl (!(Builtin.Str.occurrences j i 0 j.length 1).isEmpty)) H
def Hg:OpR X (compareOp .In) OZ:=Fn
def Lr:R2:=λx y H Q=>∃z i,x=.str z/\y=.int i/\z.length=1/\1<i/\i<=1000/\Q (.str ⟨(List.replicate i.toNat z.cps).foldl (· ++ ·) #[]⟩) H
def JY:OpR X (binaryOp .Mult) Lr:=by
 intro ZL s σ H x y v u Q I rx ry h;obtain⟨z,i,rfl,rfl,hz,h1,h2,q⟩:=h;obtain⟨t,rfl⟩:=rx;obtain⟨t',rfl⟩:=ry;have n1:¬i<1:=()
 have n2:¬(i==1 || z.length==0)=true:=by rw[hz];simp;lia
 refine P.mul_str ?_ (λ_ _=>?_) (λ_ _=>?_) ?_
 ·have a:¬i < -(2^63:Int):=()
  have b:¬i ≥ 2^63:=()
  rw[UU a,UU b];rfl
 ·rw[hz];have:(1:Int)<=(2^63-1)/i:=by
   rw[Int.le_ediv_iff_mul_le ()];lia
  show ¬((1:Nat):Int) > _;lia
 ·rw[hz];unfold Builtin.Str.tooLong;have:=UF;simp;lia
 ·rw[Uu n1,Uu n2];refine⟨?_,.str _,H,I.tok _,⟨_,rfl⟩,q⟩;have:=UF;have:=Bn z.cps hz i.toNat #[];show ((List.replicate i.toNat z.cps).foldl (· ++ ·) #[]).size<=sizeLine;rw[this,UF];simp;lia
def OX(K:Zj):Za->Hp->VK->Prop:=λxs H Q=>∃p,∃bs:List Bool,xs=[.ref p]/\SqL K H p (bs.map V.bl)/\Q (.bl (bs.all id)) H
def zp(bs:List Bool):(List.range bs.length).all (λi=>bs.getD i true)=bs.all id:=by
 rw[Bool.eq_iff_iff,XQ,XQ];constructor
 ·intro h b hb;obtain⟨i,hi,rfl⟩:=X0 hb;have:=h i (VU.2 hi);simpa[hi] using this
 ·intro h i hi;have hi:=VU.1 hi;have:=h bs[i] (XX hi);simpa[hi] using this
def xK(hc:X.calm=true):CallR X (.builtin "all") (OX X.K):=by
 intro ZL s σ H xs us Q I r h;obtain⟨p,bs,rfl,hS,q⟩:=h;obtain⟨u,rfl,ru⟩:=r.one;cases ru;obtain⟨its,rv,pl,hz⟩:=I.list hS;have hl:=pl.isList;have ZO:bs.length=its.length:=by have:=rv.length;simpa using this
 refine call_all_walk (Wq hl ?_);have hne:p≠s.heap.objs.size:=UH pl.lt;refine⟨_,_,_,_,_,_,λi=>bs.getD i true,rfl,Walks.list (A:=X.A.in1) (I.ok.hd hc) _ p hne its.toArray,⟨⟨_,UK _ rfl,rfl,rfl⟩,hl.push _⟩,?_,?_⟩
 ·intro i v s' Q' E' hv hQ;have hv:its[i]?=some v:=by simpa using hv
  have hi:i<bs.length:=by rw[ZO];exact (UX.1 hv).1
  obtain⟨u,hu,ru⟩:=rv.get (i:=i) (x:=.bl (bs[i])) (by simp[hi]);rw[hu] at hv;cases hv;cases ru;have e:bs.getD i true=bs[i]:=by simp[hi]
  dsimp only at hQ;rw[e] at hQ;exact VN hQ
 ·intro h' tk hk;rw[UM,<-ZO,zp];exact⟨.bl _,H,I.kept (old_kept hk),rfl,q⟩
end
end L2
namespace M
open PySem L2
section
variable {K:Zj}{S S' H H':Hp}
def wJ(x:Str):Zc:=x.cps.toList.map λc=>D.str ⟨#[c]⟩
def T9:D->Option (Zc)
 |.str x=>some (wJ x)
 |_=>none
@[simp]def NF(e:XE):XA:=λρ=>(e ρ).bind T9
def FL(x:Str):Walks K (PR x) S (wJ x):=λS' H' _ _=>⟨λi d h=>by
 unfold wJ at h;rw[U9] at h;cases q:x.cps.toList[i]? with
 |none=>rw[q] at h;cases h
 |some c=>
  rw[q] at h;cases h;have q':x.cps[i]?=some c:=by simpa using q
  refine⟨?_,λv H'' y=>⟨y.1,?_⟩⟩
  ·exact (Wt.1 q').1
  ·obtain⟨_,c',e,rfl⟩:=y;rw[q'] at e;cases e;exact Zo.2 rfl,by
 show x.cps.size<=(wJ x).length;unfold wJ;rw[UN,Wf]
 exact Ux _⟩
def Lc{tl:TE} (h:SE K tl e):SI K (Ow tl) (NF e):=λρ σ S H R l r x k=>by
 obtain⟨d,q,x⟩:=ZM x;cases d<;>try (cases x;done)
 cases x;exact h ρ σ S H _ _ r q λv S1 H1 z1 d1=>⟨_,Zo.1 d1,k _ S1 H1 z1 (FL _)⟩
def QL(d:D)(lo hi:Option Int):Zd:=match d with
 |.str x=>if x.length<=gA then some (.str (Txt.slice x lo hi)) else none
 |_=>none
@[simp]def NI(a:XE)(lo hi:XO):XE:=λρ=>(a ρ).bind λd=>(lo ρ).bind λl=>(hi ρ).bind λh=>QL d l h
def Pj{te:TE}{tl th:TO} {lo hi:XO}(ha:SPk K te a)(hl:SO K tl lo)(hh:SO K th hi):SE K (Q3 O8 te tl th) (NI a lo hi):=λρ σ S H Q g r x k=>by
 unfold NI at x;cases q:a ρ with
 |none=>rw[q] at x;cases x
 |some d=>
  rw[q] at x;dsimp only[Option.bind] at x;cases ql:lo ρ with
  |none=>rw[ql] at x;cases x
  |some l=>
   rw[ql] at x;dsimp only at x;cases qh:hi ρ with
   |none=>rw[qh] at x;cases x
   |some h=>
    rw[qh] at x;dsimp only at x;refine ha ρ σ S H _ d r q λv S1 H1 z1 d1=>?_;have r1:=r.ext z1;refine hl ρ σ S1 H1 _ l r1 ql λS2 H2 z2=>?_;have r2:=r1.ext z2;refine hh ρ σ S2 H2 _ h r2 qh λS3 H3 z3=>?_;cases d<;>try (cases x;done)
    rename_i y;have x:(if y.length<=gA then some (D.str (Txt.slice y l h)) else none)=some g:=x;split at x
    ·rename_i hy;cases x;exact⟨y,d1.str,g9 hy,k _ S3 H3 (z1.trans (z2.trans z3)) (Zo.2 rfl)⟩
    ·cases x
def Ds:D->D->Zd
 |.str y,.str z=>some (.bl (decide (z.length<=y.length)&&Builtin.Str.subAt y z 0))
 |_,_=>none
def HR{ta tb:TE} (ha:SPk K ta a)(hb:SPk K tb b):SE K (Eh K "str" rStarts ta (cj tb eV)) (aO Ds a b):=λρ σ S H Q g r x k=>by
 obtain⟨da,qa,x⟩:=ZM x;obtain⟨db,qb,x⟩:=ZM x;cases da<;>try (cases x;done)
 cases db<;>try (cases x;done)
 cases x;refine ha ρ σ S H _ _ r qa λv S1 H1 z1 d1=>?_;rw[d1.str];refine⟨rfl,?_⟩;refine hb ρ σ S1 H1 _ _ (r.ext z1) qb λv S2 H2 z2 d2=>?_;rw[d2.str];exact⟨_,_,rfl,rfl,k _ S2 H2 (z1.trans z2) (Zu.2 rfl)⟩
def Dm:Zb
 |[.str x]=>if x.length<=640 then (PySem.intText? x).map D.int else none
 |_=>none
def F8:FV K Ll Dm:=λS H vs ds g Q s h x k=>by
 unfold Dm at x;split at x
 ·rename_i y;obtain⟨v,rfl,d1⟩:=gh h;split at x
  ·rename_i hy;cases q:PySem.intText? y with
   |none=>rw[q] at x;cases x
   |some n=>rw[q] at x;cases x;exact⟨y,n,by rw[d1.str],q,hy,k _ S H (Ext.refl s) (Zt.2 rfl)⟩
  ·cases x
 ·cases x
def z9:Zb
 |[.int i]=>if i.natAbs.log2<1920 then some (.str (toString i)) else none
 |_=>none
def Gc:FV K Lu z9:=λS H vs ds g Q s h x k=>by
 unfold z9 at x;split at x
 ·rename_i y;obtain⟨v,rfl,d1⟩:=gh h;split at x
  ·rename_i hy;cases x;exact⟨y,by rw[d1.int],hy,k _ S H (Ext.refl s) (Zo.2 rfl)⟩
  ·cases x
 ·cases x
def Aq:D->D->Zd
 |.str z,.int i=>if z.length=1/\1<i/\i<=1000 then some (.str ⟨(List.replicate i.toNat z.cps).foldl (· ++ ·) #[]⟩) else none
 |_,_=>none
def M7:w6 K Lr Aq:=λS H x y d e z Q s dx dy q k=>by
 unfold Aq at q;split at q
 ·rename_i u i;split at q
  ·rename_i c;cases q;exact⟨u,i,dx.str,dy.int,c.1,c.2.1,c.2.2,k _ S H (Ext.refl s) (Zo.2 rfl)⟩
  ·cases q
 ·cases q
def Js:D->D->Zd
 |.str i,.str j=>some (.bl (!(Builtin.Str.occurrences j i 0 j.length 1).isEmpty))
 |_,_=>none
def Lz:w6 K OZ Js:=λS H x y d e z Q s dx dy q k=>by
 unfold Js at q;split at q
 ·cases q;exact⟨_,_,dx.str,dy.str,k _ S H (Ext.refl s) (Zu.2 rfl)⟩
 ·cases q
def j6:Zc->Option (List Bool)
 |[]=>some []
 |.bl b::l=>(j6 l).map λr=>b::r
 |_::_=>none
theorem pJ:∀ {l:Zc} {bs:List Bool},j6 l=some bs->l=bs.map D.bl
 |[],bs,h=>by cases h;rfl
 |d::l,bs,h=>by
  cases d<;>try (cases h;done)
  rename_i b;have h:(j6 l).map (λr=>b::r)=some bs:=h;cases q:j6 l with
  |none=>rw[q] at h;cases h
  |some r=>rw[q] at h;cases h;rw[pJ q];rfl
theorem vI:∀ {bs:List Bool} {xs:Za},Dens K S (bs.map D.bl) xs->xs=bs.map V.bl
 |[],xs,h=>h
 |b::bs,xs,h=>by obtain⟨y,ys,rfl,a,r⟩:=h;rw[Zu.1 a,vI r];rfl
def Jl:Zb
 |[.lst l]=>(j6 l).map λbs=>.bl (bs.all id)
 |_=>none
def K7:FV K (OX K) Jl:=λS H vs ds g Q s h x k=>by
 unfold Jl at x;split at x
 ·rename_i l;obtain⟨v,rfl,d1⟩:=gh h;cases q:j6 l with
  |none=>rw[q] at x;cases x
  |some bs=>rw[q] at x;cases x;obtain⟨p,xs,rfl,h1,h2⟩:=d1.lst s;have e:=pJ q;subst e;have e:=vI h2;subst e;exact⟨p,bs,rfl,.inl h1,k _ S H (Ext.refl s) (Zu.2 rfl)⟩
 ·cases x
end
end M
namespace L2
open PySem
def Ge:bootBuiltins "all"=some (.builtin "all"):=by decide +kernel
open PySem PySem.Spec PyProof.Rows
section
variable {X:Cx}
def Ln(K:Zj):V->Za->Hp->VK->Prop:=λx vs H Q=>∃sep p,∃ys:Zl,x=.str sep/\vs=[.ref p]/\SqL K H p (ys.map V.str)/\(ys.map (·.length)).sum+ys.length*sep.length<=16777216/\Q (.str (Txt.join sep ys)) H
theorem Ee:∀ {ys:Zl} {us:Zh},Vals (ys.map V.str) us->StrsAre us ys
 |[],us,h=>by cases h;exact .nil
 |y::ys,us,h=>by
  cases h with
  |cons a r=>obtain⟨t,rfl⟩:=a;exact .cons _ _ (Ee r)
def rG:Jb X "str.join" (Ln X.K):=by intro ZL s σ H x vs v us Q I rx rv h;obtain⟨sep,p,ys,rfl,rfl,hS,hz,q⟩:=h;obtain⟨t,rfl⟩:=rx;obtain⟨u,rfl,ru⟩:=rv.one;cases ru;obtain⟨its,rl,pl,_⟩:=I.list hS;exact join_list (items:=its.toArray) pl.isList (by simpa using Ee rl) hz λt' k=>⟨.str _,H,I.tok k,⟨t',rfl⟩,q⟩
def rSplit:V->Za->Hp->VK->Prop:=λx vs H Q=>∃y z,x=.str y/\vs=[.str z]/\z.length≠0/\y.length+2<=sizeLine/\∀l,H l=none->Q (.ref l) (upd H l (.lst ((Txt.split y z).map V.str)))
theorem tE:∀(ys:Zl) (n:Nat),Vals (ys.map V.str) (strsFrom n ys)
 |[],_=>.nil
 |_::ys,n=>.cons ⟨_,rfl⟩ (tE ys (n+1))
def gL:Jb X "str.split" rSplit:=by
 intro ZL s σ H x vs v us Q I rx rv h;obtain⟨y,z,rfl,rfl,hz,hy,q⟩:=h;obtain⟨t,rfl⟩:=rx;obtain⟨u,rfl,ru⟩:=rv.one;obtain⟨t',rfl⟩:=ru;have hz':(z.length==0)=false:=by simpa using hz
 have fin:∀(ys:Zl) (its:Zh) (tk:Nat),Txt.split y z=ys->Vals (ys.map V.str) its->ys.length<=sizeLine->EP X ZL σ Q (.ref s.heap.objs.size) { s with heap:=s.heap.push { cls:=.type "list",data:=.seq its.toArray },toks:=tk }:=λys its tk e r hl=>by subst e;refine⟨.ref s.heap.objs.size,_,I.laid (o:=.lst ((Txt.split y z).map V.str)) (λb ob q=>Uz _ q) (Ux _) ?_,rfl,q _ (I.hok.fresh (Ux _))⟩;exact⟨by rw[UN];exact hl,its,0,r,UK _ rfl⟩
 cases h1:(decide (y.length<z.length) || decide (Builtin.Str.strKind y<Builtin.Str.strKind z)) with
 |true=>
  refine Vn V6 (Vm _ _ _) V7 (Yb _ _) (meets_str_split_cannot_occur y z t t' h1) ?_;exact fin [y] [.str y t] s.toks (by unfold Txt.split;simp[h1]) (.cons ⟨t,rfl⟩ .nil) (by show 1<=sizeLine;decide)
 |false=>
  cases hf:(Builtin.Str.occurrences y z 0 y.length (y.length+1)).isEmpty with
  |true=>
   refine Vn V6 (Vm _ _ _) V7 (Yb _ _) (meets_str_split_not_found y z t t' h1 hz' hf) ?_;exact fin [y] [.str y t] s.toks (by unfold Txt.split;simp[h1,hf]) (.cons ⟨t,rfl⟩ .nil) (by show 1<=sizeLine;decide)
  |false=>
   have hl:(Builtin.Str.partsBetween y (Builtin.Str.occurrences y z 0 y.length (y.length+1)) z.length).length<=sizeLine:=by rw[YX];have:=YY y z 0 y.length (y.length+1);lia
   refine Vn V6 (Vm _ _ _) V7 (Yb _ _) (meets_str_split_sep y z t t' h1 hz' hf (UD (XV _ _) hy) hl) ?_;exact fin _ _ _ (by unfold Txt.split;simp[h1,hf]) (tE _ _) hl
def rPart:V->Za->Hp->VK->Prop:=λx vs H Q=>∃y z,x=.str y/\vs=[.str z]/\z.length≠0/\y.length<=sizeLine/\∀l,H l=none->Q (.ref l) (upd H l (.tup [.str (Txt.partition y z).1,.str (Txt.partition y z).2.1,.str (Txt.partition y z).2.2]))
def ox:Jb X "str.partition" rPart:=by
 intro ZL s σ H x vs v us Q I rx rv h;obtain⟨y,z,rfl,rfl,hz,hy,q⟩:=h;obtain⟨t,rfl⟩:=rx;obtain⟨u,rfl,ru⟩:=rv.one;obtain⟨t',rfl⟩:=ru;have hz':(z.length==0)=false:=by simpa using hz
 have fin:∀(a b c:Str) (ta tb tc:Tok) (tk:Nat),Txt.partition y z=(a,b,c)->EP X ZL σ Q (.ref s.heap.objs.size) { s with heap:=s.heap.push { cls:=.type "tuple",data:=.seq [.str a ta,.str b tb,.str c tc].toArray },toks:=tk }:=λa b c ta tb tc tk e=>by rw[e] at q;refine⟨.ref s.heap.objs.size,_,I.laid (o:=.tup [.str a,.str b,.str c]) (λb ob q=>Uz _ q) (Ux _) ?_,rfl,q _ (I.hok.fresh (Ux _))⟩;exact⟨by show 3<=sizeLine;decide,_,.cons ⟨_,rfl⟩ (.cons ⟨_,rfl⟩ (.cons ⟨_,rfl⟩ .nil)),TupN.new _ _⟩
 refine Vn F.slot_str_partition (Vm _ _ _) F.entry_str_partition (F.args_str_partition_2 _ _) (meets_str_partition y z t t' hz' hy) ?_;cases ho:Builtin.Str.occurrences y z 0 y.length 1 with
 |nil=>exact fin _ _ _ _ _ _ _ (by unfold Txt.partition;rw[ho])
 |cons i r=>exact fin _ _ _ _ _ _ _ (by unfold Txt.partition;rw[ho])
def Sm(te:TE):TE:=λσ H Q=>te σ H λx H1=>(∃i,x=.int i/\i.natAbs.log2<1920/\Q (.str (toString i)) H1)\/∃y,x=.str y/\y.length<=sizeLine/\Q (.str y) H1
def A2{te:TE}{pos:Pos}(he:PE X e te):PE X (.FormattedValue e (-1) none pos) (Sm te):=by
 intro ZL s σ H Q I h;refine FormattedValue_plain (cr (he ZL s σ H _ I h) λv s1 ZN=>?_);obtain⟨x,H1,I1,r1,q1⟩:=ZN;rcases q1 with ⟨i,rfl,hi,q⟩|⟨y,rfl,hy,q⟩
 ·obtain⟨t,rfl⟩:=r1;exact formatField_int_small hi ⟨.str _,H1,I1.tok _,⟨_,rfl⟩,q⟩
 ·obtain⟨t,rfl⟩:=r1;exact formatField_str (λt' tk=>⟨.str _,H1,I1.tok tk,⟨t',rfl⟩,q⟩) hy
def MW{te:TE}{pos:Pos}(he:PE X e te):PE X (.JoinedStr [e] pos) te:=λZL s σ H Q I h=>JoinedStr_one (he ZL s σ H Q I h)
def Qk:List TE->Str->TE
 |[],acc=>λ_ H Q=>acc.length<=sizeLine/\Q (.str acc) H
 |t::ts,acc=>λσ H Q=>t σ H λx H1=>∃y,x=.str y/\(acc++y).length<=sizeLine/\Qk ts (acc++y) σ H1 Q
inductive PJ(X:Cx):List Expr->List TE->Prop
 |nil:PJ X [] []
 |cons {e:Expr} {t:TE} {es:List Expr} {ts:List TE}:PE X e t->PJ X es ts->PJ X (e::es) (t::ts)
def MZ{es:List Expr}{ts:List TE}(h:PJ X es ts):∀(acc:Str) (ZL:Zf) (s:Shared) (σ:St) (H:Hp) (Q:VK),Inv X ZL σ H s->Qk ts acc σ H Q->wpAny (model X.prog X.w) X.A (joinParts acc (evalEach es X.env)) (EP X ZL σ Q) X.xe s:=by
 induction h with
 |nil=>
  intro acc ZL s σ H Q I q;exact joinParts_nil ⟨.str acc,H,I.tok _,⟨_,rfl⟩,q.2⟩ q.1
 |cons he _ ih=>intro acc ZL s σ H Q I q;refine joinParts_cons (cr (he ZL s σ H _ I q) λv s1 hv=>?_);obtain⟨x,H1,I1,r1,y,rfl,hy,q1⟩:=hv;obtain⟨t,rfl⟩:=r1;exact⟨hy,ih _ ZL s1 σ H1 Q I1 q1⟩
def Li{a b:Expr}{es:List Expr}{ts:List TE}{pos:Pos}(h:PJ X (a::b::es) ts):PE X (.JoinedStr (a::b::es) pos) (Qk ts Str.empty):=λZL s σ H Q I q=>JoinedStr_many (MZ h Str.empty ZL s σ H Q I q)
end
end L2
namespace M
open PySem L2
section
variable {K:Zj}{S S' H H':Hp}
def tq:Zc->Option (Zl)
 |[]=>some []
 |.str x::l=>(tq l).map λr=>x::r
 |_::_=>none
theorem yt:∀ {l:Zc} {ys:Zl},tq l=some ys->l=ys.map D.str
 |[],ys,h=>by cases h;rfl
 |d::l,ys,h=>by
  cases d<;>try (cases h;done)
  rename_i x;have h:(tq l).map (λr=>x::r)=some ys:=h;cases q:tq l with
  |none=>rw[q] at h;cases h
  |some r=>rw[q] at h;cases h;rw[yt q];rfl
theorem xT:∀ {ys:Zl} {xs:Za},Dens K S (ys.map D.str) xs->xs=ys.map V.str
 |[],xs,h=>h
 |b::bs,xs,h=>by obtain⟨y,ys,rfl,a,r⟩:=h;rw[Zo.1 a,xT r];rfl
theorem oH:∀ys:Zl,Dens K S (ys.map D.str) (ys.map V.str)
 |[]=>.nil
 |_::ys=>.cons (Zo.2 rfl) (oH ys)
def xP:D->D->Zd
 |.str sep,.lst l=>(tq l).bind λys=>if (ys.map (·.length)).sum+ys.length*sep.length<=gA then some (.str (Txt.join sep ys)) else none
 |_,_=>none
def HG{T:String}{r:V->Za->Hp->VK->Prop}{f:D->D->Zd}{ta tb:TE} (ht:∀ {d e:D} {g:D},f d e=some g->∃x,d=.str x)(hT:T="str")
  (hr:∀S H y e g (Q:VK) v,Same S H->DenP K S H e v->f (.str y) e=some g->(∀v S' H',Ext S H S' H'->Den K S' g v->Q v H')->r (.str y) [v] H Q)
  (ha:SPk K ta a) (hb:SPk K tb b):SE K (Eh K T r ta (cj tb eV)) (aO f a b):=λρ σ S H Q g rl x k=>by
 obtain⟨da,qa,x⟩:=ZM x;obtain⟨db,qb,x⟩:=ZM x;have x:f da db=some g:=x;obtain⟨y,rfl⟩:=ht x;refine ha ρ σ S H _ _ rl qa λv S1 H1 z1 d1=>?_;rw[d1.str];refine⟨hT,?_⟩;refine hb ρ σ S1 H1 _ _ (rl.ext z1) qb λv S2 H2 z2 d2=>?_;exact hr S2 H2 y db g Q v z2.sub d2 x λv S3 H3 z3 d3=>k v S3 H3 (z1.trans (z2.trans z3)) d3
def wC{ta tb:TE} (ha:SPk K ta a)(hb:SPk K tb b):SE K (Eh K "str" (Ln K) ta (cj tb eV)) (aO xP a b):=HG (λ{d e g} h=>by
  cases d<;>first|(cases h;done)|exact⟨_,rfl⟩) rfl (λS H y e g Q v s d x k=>by
  cases e<;>try (cases x;done)
  rename_i l;have x:((tq l).bind λys=>if (ys.map (·.length)).sum+ys.length*y.length<=gA then some (D.str (Txt.join y ys)) else none)=some g:=x;obtain⟨ys,q,x⟩:=ZM x;split at x
  ·rename_i hl;cases x;obtain⟨p,xs,rfl,h1,h2⟩:=d.lst s;have e:=yt q;subst e;have e:=xT h2;subst e;have:=gI;exact⟨y,p,ys,rfl,rfl,.inl h1,by rw[gI] at hl;lia,k _ S H (Ext.refl s) (Zo.2 rfl)⟩
  ·cases x) ha hb
def vG:D->D->Zd
 |.str y,.str z=>if z.length≠0/\y.length<=gA then some (.tup [.str (Txt.partition y z).1,.str (Txt.partition y z).2.1,.str (Txt.partition y z).2.2]) else none
 |_,_=>none
def oA{ta tb:TE} (ha:SPk K ta a)(hb:SPk K tb b):SE K (Eh K "str" rPart ta (cj tb eV)) (aO vG a b):=HG (λ{d e g} h=>by
  cases d<;>first|(cases h;done)|exact⟨_,rfl⟩) rfl (λS H y e g Q v s d x k=>by
  cases e<;>try (cases x;done)
  rename_i z;have x:(if z.length≠0/\y.length<=gA then some (D.tup [.str (Txt.partition y z).1,.str (Txt.partition y z).2.1,.str (Txt.partition y z).2.2]) else none)=some g:=x;split at x
  ·rename_i c;cases x;rw[d.str];refine⟨y,z,rfl,rfl,c.1,g9 c.2,λl hl=>?_⟩;have z4:=Ext.new (o:=.tup [.str (Txt.partition y z).1,.str (Txt.partition y z).2.1,.str (Txt.partition y z).2.2]) s hl;exact k _ _ _ z4 (Zx.2 ⟨l,_,rfl,TpA.of aG,.cons (Zo.2 rfl) (.cons (Zo.2 rfl) (.cons (Zo.2 rfl) .nil))⟩)
  ·cases x) ha hb
def kM:D->D->Zd
 |.str y,.str z=>if z.length≠0/\y.length+2<=gA then some (.lst ((Txt.split y z).map D.str)) else none
 |_,_=>none
def jd{ta tb:TE} (ha:SPk K ta a)(hb:SPk K tb b):SE K (Eh K "str" rSplit ta (cj tb eV)) (aO kM a b):=HG (λ{d e g} h=>by
  cases d<;>first|(cases h;done)|exact⟨_,rfl⟩) rfl (λS H y e g Q v s d x k=>by
  cases e<;>try (cases x;done)
  rename_i z;have x:(if z.length≠0/\y.length+2<=gA then some (D.lst ((Txt.split y z).map D.str)) else none)=some g:=x;split at x
  ·rename_i c;cases x;rw[d.str];refine⟨y,z,rfl,rfl,c.1,g9 c.2,λl hl=>?_⟩;have z4:=Ext.new (o:=.lst ((Txt.split y z).map V.str)) s hl;exact k _ _ _ z4 (Zs.2 ⟨l,_,rfl,.inl aG,oH _⟩)
  ·cases x) ha hb
def Se:D->Zd
 |.int i=>if i.natAbs.log2<1920 then some (.str (toString i)) else none
 |.str y=>if y.length<=gA then some (.str y) else none
 |_=>none
@[simp]def NS(e:XE):XE:=λρ=>(e ρ).bind Se
def HL{te:TE} (h:SPk K te e):SE K (Sm te) (NS e):=λρ σ S H Q g r x k=>by
 obtain⟨d,q,x⟩:=ZM x;replace x:Se d=some g:=x;refine h ρ σ S H _ _ r q λv S1 H1 z1 d1=>?_;cases d<;>try (cases x;done)
 ·rename_i i;replace x:(if i.natAbs.log2<1920 then some (D.str (toString i)) else none)=some g:=x;split at x
  ·rename_i c;cases x;exact .inl ⟨i,d1.int,c,k _ S1 H1 z1 (Zo.2 rfl)⟩
  ·cases x
 ·rename_i y;replace x:(if y.length<=gA then some (D.str y) else none)=some g:=x;split at x
  ·rename_i c;cases x;exact .inr ⟨y,d1.str,g9 c,k _ S1 H1 z1 (Zo.2 rfl)⟩
  ·cases x
def NT:List XE->Str->XE
 |[],acc=>λ_=>if acc.length<=gA then some (.str acc) else none
 |a::as,acc=>λρ=>(a ρ).bind λd=>match d with
  |.str y=>if (acc++y).length<=gA then NT as (acc++y) ρ else none
  |_=>none
inductive SJ(K:W.Frag):List TE->List XE->Prop
 |nil:SJ K [] []
 |cons {t:TE} {a:XE} {ts:List TE} {as:List XE}:SPk K t a->SJ K ts as->SJ K (t::ts) (a::as)
def Pi{ts:List TE} (h:SJ K ts as):∀acc:Str,SE K (Qk ts acc) (NT as acc):=by
 induction h with
 |nil=>
  intro acc ρ σ S H Q g r x k;have x:(if acc.length<=gA then some (D.str acc) else none)=some g:=x;split at x
  ·rename_i c;cases x;exact⟨g9 c,k _ S H (Ext.refl r.sub) (Zo.2 rfl)⟩
  ·cases x
 | @cons t a ts as ha _ ih=>
  intro acc ρ σ S H Q g r x k;cases q:a ρ with
  |none=>rw[NT] at x;dsimp only at x;rw[q] at x;cases x
  |some d=>
   rw[NT] at x;dsimp only at x;rw[q] at x;dsimp only[Option.bind] at x;cases d<;>try (cases x;done)
   rename_i y;dsimp only at x;split at x
   ·rename_i c;refine ha ρ σ S H _ _ r q λv S1 H1 z1 d1=>?_;exact⟨y,d1.str,g9 c,ih _ ρ σ S1 H1 Q g (r.ext z1) x λv S2 H2 z2 d2=>k v S2 H2 (z1.trans z2) d2⟩
   ·cases x
end
end M
namespace L2
open PySem PySem.Spec PyProof.Rows
section
variable {M:Model}{A:Around}{Ex:Ze}{s:Shared}
def G8{base:Heap}{env:Env}{outer:List Env}{L:Addr}{cls a0:Value}{Q:Unit->Shared->Prop}
  (hfr:A.frames=some (env::outer)) (hl:s.heap.FunFrames base (env::outer)) (hf:env.frame=some L) (ht:s.heap.TracedAtW base e cls a0 fl) (hkb:base.StaysIn s.heap) (hen:base.get? e=none)
  (h:∀h',Heap.NotedW base (env::outer) e cls a0 (rawInt L) s.heap h'->Q Unit.unit { s with heap:=h' }):wpAny M A (noteFrame (.ref e) env) Q Ex s:=by
 by_cases q:(fl==rawInt L)=true
 ·have e1:fl=rawInt L:=VA.1 q;subst e1;exact wpAny_noteFrame_againW hf ht (h s.heap ⟨hkb,hl,ht,λb o e _=>⟨o.slots,e⟩⟩)
 ·obtain⟨oe,vs,T,oT,ts,he,⟨hcls,h0⟩,hd,h1,hnT,hTe,hT,hdT,h3⟩:=ht;subst hcls;unfold noteFrame;simp only[hf];refine Ut (US he hd h1 ?_);rw[Uv (show (Value.ref T != Value.none)=true from by simp)];refine Ut (US hT hdT h3 ?_);rw[Uu q];refine Ut (VS hT hdT (Wt.1 h3).1 ?_);have other:∀b,b≠T->(s.heap.update T (Obj.mapFields (·.setIfInBounds 3 Value.none))).get? b=s.heap.get? b:=λb hb=>Vu _ _ (UB hb);have noRecord:∀b o,s.heap.get? b=some o->(∀vs,o.data ≠ .fields vs)->b≠T:=λb o hb hnf q=>by
   rw[q,hT] at hb;injection hb with hb;subst hb;exact hnf ts hdT
  refine wpAny_entryW hfr (hl.of_keeps λb o hb hnf=>⟨o,(other b (noRecord b o hb hnf)).trans hb,rfl⟩) hf ((other e (UB hTe)).trans he)
   (λb o hbo=>(other b λq=>by rw[q,hnT] at hbo;cases hbo).trans (hkb b o hbo)) hen hd (Wt.1 h1).1 h0
   λh' ⟨x1,x2,x3,x4⟩=>h h' ⟨x1,x2,x3,λb o hb hnf=>x4 b o ((other b (noRecord b o hb hnf)).trans hb) hnf⟩
def wg{α:Type}{base:Heap}{l:List Env}{e:Addr}{cls a0 fl:Value}{what:String}{env:Env}{Q:α->Shared->Prop}(hkb:base.StaysIn s.heap)(hl:s.heap.FunFrames base l)(ht:s.heap.TracedAtW base e cls a0 fl)
  (h:∀h' fl',base.StaysIn h'->h'.FunFrames base l->h'.TracedAtW base e cls a0 fl'->s.heap.UpToSlots h'->Ex (.ref e) { s with heap:=h' }) :
  wpAny M A (PySem.passOn what (.ref e) env:Sem α) Q Ex s:=by
 obtain⟨oe,vs,T,oT,ts,he,hcls,hd,h1,hnT,hTe,hT,hdT,h3⟩:=ht;have hsz3:3<ts.size:=(Wt.1 h3).1;have other:∀b,b≠T->(s.heap.update T (Obj.mapFields (·.setIfInBounds 3 (env.frame.elim Value.none λf=>rawInt f)))).get? b=s.heap.get? b:=
  λb hb=>Vu _ _ (UB hb)
 have noRecord:∀b o,s.heap.get? b=some o->(∀vs,o.data ≠ .fields vs)->b≠T:=λb o hb hnf q=>by rw[q,hT] at hb;injection hb with hb;subst hb;exact hnf ts hdT
 unfold PySem.passOn;refine Ut (US he hd h1 ?_);rw[Uu (show ¬((Value.ref T==Value.none)=true) from by simp)];refine Ut (?_:wpAny M A (setFlight (.ref e) env.frame) _ _ _);unfold setFlight;refine Ut (US he hd h1 ?_);rw[Uv (show (Value.ref T != Value.none)=true from by simp)]
 refine VS hT hdT hsz3 (VJ (h _ (env.frame.elim Value.none λf=>rawInt f) (λb o hbo=>(other b λq=>by rw[q,hnT] at hbo;cases hbo).trans (hkb b o hbo))
  (hl.of_keeps λb o hb hnf=>⟨o,(other b (noRecord b o hb hnf)).trans hb,rfl⟩) ?_ λb o hb hnf=>⟨o.slots,(other b (noRecord b o hb hnf)).trans hb⟩))
 exact⟨oe,vs,T,_,_,(other e (UB hTe)).trans he,hcls,hd,h1,hnT,hTe,Vc _ hT (VR (Vo hdT _)),Vo hdT _,by simp[hsz3]⟩
theorem jG{B B' h h':Heap}{C:Addr}(k:∀b,B.get? b=none->B'.get? b=none)(k':∀b o,b≠C->h.get? b=some o->h'.get? b=some o):∀ {l:List Env},C∉mG l->h.FunFrames B l->h'.FunFrames B' l
 |[],_,_=>trivial
 |env::l,hC,hpt0=>by
  obtain⟨hk,⟨L,o,hf,hn,ho,hd⟩,hr⟩:=hpt0;have e1:mG (env::l)=L::mG l:=by unfold mG;rw[WG,hf]
  rw[e1] at hC;exact⟨hk,⟨L,o,hf,k L hn,k' L o (λz=>hC (by rw[z];exact .head _)) ho,hd⟩,jG k k' (λz=>hC (.tail _ z)) hr⟩
end
def zT(X:Cx)(E:XK):Prop:=∀(ZL:Zf) (σ:St) (H:Hp) (s:Shared) (e:Addr) (cls a0 fl:Value) (fx:Option Addr) (B:Heap),Inv X ZL σ H s->E cls fx H->(fx=none->jp e s.heap)->B.StaysIn s.heap->B.get? e=none->s.heap.FunFrames B X.stack->s.heap.TracedAtW B e cls a0 fl ->
 (∀b u,H b=some u->∃o,B.get? b=some o)->(∀b o,X.s₀.heap.get? b=some o->b∉X.fs->∃o',B.get? b=some o')->X.xe (.ref e) s
section
variable {P:Program}{w:World}{K:Zj}{mg:Zg}{base:Heap}{N:Zl}{qual:Str}{scope:Scope}{f:Addr}{cdv:Value}{A:Around}{outer:List Env}{s:Shared}{H:Hp}{E:XK}
def uQ:zT (m5 (g6 P w) P w K mg base N qual scope f cdv A outer s H E) E:=by intro ZL σ H1 s1 e cls a0 fl fx B I hE cx hB hen hl ht k1 k2;show wpAny _ _ (leaving _ _) _ _ _;refine kd (fx:=fx) (lZ _ _) cx ?_;unfold leaving;refine Ut (G8 I.ok.frames hl rfl ht hB hen λh1 ZN=>?_);obtain⟨x1,x2,x3,x4⟩:=ZN;refine wpAny_setFlight_noneW x1 x2 x3 λh2 y1 y2 y3 y4 cx2=>?_;obtain⟨_,_,y2⟩:=y2;exact y6 (X:=m5 (g6 P w) P w K mg base N qual scope f cdv A outer s H E) (s:=s1) I rfl hE cx2 hB k1 k2 ⟨y1,hen,y2,y3⟩ (Heap.UpToSlots.trans x4 λb o q nf=>⟨o.slots,y4 b o q nf⟩)
end
def XW(X:Cx)(N:Zl)(scope:Scope)(z:CxZ)(E:XK):Ze:=λv s'=>∃ZL σ H1 s1,Inv (gE X N scope z) ZL σ H1 s1/\g6 X.prog X.w X.stack H1 s1 E v s'
section
variable {X:Cx}{ZL:Zf}{σ:St}{H:Hp}{s:Shared}{XN N:Zl}{sc scope:Scope}{js:List (Option Nat)}
variable {tg iter elt:Expr}{ifs:List Expr}{pos:Pos}{wi:TI}{g:TG}{tt:FW}{te:TE}{E:XK}
def B8{WX:Ze}{R:Result->Shared->Prop}{it:Addr}{fp:Zk} {W:Nat->Nat->Hp->Prop}{n:Nat}
  (hc:X.calm=true) (T:Turn X.prog X.w X.K tg J fp it tn) (hz:∀b∈fp,∀H',H' b=none->mL (gE X N scope z) [] H' b)
  (hW:∀v s',WX v s'->notedBy (model X.prog X.w) X.A (compEnvC scope z.cl z.C X.env) (λe s'=>R (.error e) s') v s')
  (hg:PG ((gE X N scope z).wish WX) tg g) (hs:vj js g) (ht:IY ((gE X N scope z).wish WX) ifs tt) (he:PE ((gE X N scope z).wish WX) elt te)
  (turn:∀i m H,W i m H->(J.stop i H/\∀s',Inv (gE X N scope z) [] (oO js σ) H s'->R (.ok .next) s')\/(J.go i H/\∀x H',J.yld i H x H'->g x (oO js σ) H' λσ2 H2=>tt σ2 H2 λb H3=>
   if b=true then te σ2 H3 λy H4=>∃ys,H4 D=some (.lst ys)/\ys.length<sizeLine/\∃m',m'<m/\W (i+1) m' (upd H4 D (.lst (ys++[y]))) else ∃m',m'<m/\W (i+1) m' H3))
   {H1:Hp} (I1:Inv (gE X N scope z) [] (oO js σ) H1 s1) (t1:tn 0 s1.heap) (f1:∀b∈fp,H1 b=none) (w1:W 0 n H1) :
  codeAny (model X.prog X.w) X.A (.compLoop (.ListComp elt [⟨tg,iter,ifs,0⟩] scope pos) 0 (.ref it) (.ref D) (compEnvC scope z.cl z.C X.env)) R s1:=by
 refine codeAny_loop (c:=.compLoop (.ListComp elt [⟨tg,iter,ifs,0⟩] scope pos) 0 (.ref it) (.ref D) (compEnvC scope z.cl z.C X.env)) rfl
  (λk s'=>∃i H',Inv (gE X N scope z) [] (oO js σ) H' s'/\tn i s'.heap/\(∀b∈fp,H' b=none)/\W i k H') ?_ n ⟨0,H1,I1,t1,f1,w1⟩
 rintro k s2 ⟨i,H2,I2,t2,f2,w2⟩;show wpAny (model X.prog X.w) X.A ((compTurn (.ListComp elt [⟨tg,iter,ifs,0⟩] scope pos) 0 (.ref it) (.ref D) (compEnvC scope z.cl z.C X.env)).onRaise λx=>do noteFrame x (compEnvC scope z.cl z.C X.env);theTreesLotGoes x) _ _ s2;refine wpAny_noted ?_;rw[compTurn_list];refine Ut (Vz ?_);rcases turn i k H2 w2 with ⟨stop,fin⟩|⟨go,step⟩
 ·refine Ut (cr (T.done (gE X N scope z) rfl rfl rfl hc i [] s2 (oO js σ) H2 _ I2 (λb hb=>hz b hb H2 (f2 b hb)) t2 stop) λr s3 h3=>?_);obtain⟨rfl,I3⟩:=h3;exact Uw (fin s3 I3)
 ·refine Ut (cr (T.item (gE X N scope z) rfl rfl rfl hc i [] s2 (oO js σ) H2 _ I2 (λb hb=>hz b hb H2 (f2 b hb)) t2 go) λr s3 h3=>?_);obtain⟨u,rfl,h3⟩:=h3;refine Ut (cr h3 λ_ s4 h4=>?_);obtain⟨x,H4,I4,r4,y4,t4,f4⟩:=h4;have P4:=I4.pinned (λb hb=>hz b hb H4 (f4 b hb)) (T.obj _ _ t4);refine Ut (UO (hg _ s4 (oO js σ) H4 x u _ (P4.wish _) r4 (hs σ x (oO js σ) H4 _ (Lev.refl _) (step x H4 y4))) (λ_ s5 h5=>?_) λv s' h=>hW v s' h);obtain⟨σ5,H5,I5,lev,q5⟩:=h5;refine Ut (UO (ht _ s5 σ5 H5 _ I5 q5) (λok s6 h6=>?_) λv s' h=>hW v s' h);obtain⟨H6,I6,q6⟩:=h6;have again:∀ {s7:Shared} {H7:Hp},Inv (gE X N scope z) ([]++p9 fp s4.heap) σ5 H7 s7->(∃m',m'<k/\W (i+1) m' H7)->∃m,m<k/\∃i H',Inv (gE X N scope z) [] (oO js σ) H' s7/\tn i s7.heap/\(∀b∈fp,H' b=none)/\W i m H':=λ{s7 H7} I7 h7=>by
   obtain⟨m',hm,w7⟩:=h7;refine⟨m',hm,i+1,H7,(I7.unpinned).weak lev.1 lev.2,T.keep _ _ _ t4 λb hb o e=>(I7.pin (b,o) (UE _ (UE _ (gg hb e)))).1,λb hb=>?_,w7⟩;obtain⟨o,e,d⟩:=T.obj _ _ t4 b hb;exact (I7.pin (b,o) (UE _ (UE _ (gg hb e)))).2.1
  cases ok with
  |false=>
   rw[Uu (by decide)] at q6;exact Uw ⟨rfl,again I6.unwish q6⟩
  |true=>rw[Uv rfl] at q6;refine Ut (Ut (UO (he _ s6 σ5 H6 _ I6 q6) (λy s7 h7=>?_) λv s' h=>hW v s' h));obtain⟨vy,H7,I7,r7,ys,hD,hl,q7⟩:=h7;refine Ut (UO (hV (X:=(gE X N scope z).wish WX) _ s7 σ5 H7 (.ref D) [vy] (.ref D) [y] (λ_ H'=>∃m',m'<k/\W (i+1) m' H') I7 rfl (.cons r7 .nil) ⟨D,ys,vy,rfl,rfl,hD,hl,q7⟩) (λ_ s8 h8=>?_) λv s' h=>hW v s' h);obtain⟨_,H8,I8,_,q8⟩:=h8;exact Uw (Uw ⟨rfl,again I8.unwish q8⟩)
def tL{Eo:Ze}{RR:Value->Addr->Result->Shared->Prop}{Q:VK}{itv:Value}{s2:Shared}(ck:Zw XN sc scope N js)(hXN:X.N=XN)(hsc:X.env.scope=sc)(hc:X.calm=true)(hst:X.stack=X.env::X.outer)(hfr:X.env.frame=some X.env.locals)
  (hg:∀z W,PG ((gE X N scope z).wish W) tg g) (hs:vj js g) (ht:∀z W,IY ((gE X N scope z).wish W) ifs tt) (he:∀z,PE ((gE X N scope z).wish (XW X N scope z E)) elt te)
  (h2:QD X ZL σ tg (λJ H1=>∀D,H1 D=none->∃W:Nat->Nat->Hp->Prop,(∃m,W 0 m (upd H1 D (.lst [])))/\∀i m H,W i m H ->
   (J.stop i H/\Q (.ref D) H)\/(J.go i H/\∀x H',J.yld i H x H'->g x (oO js σ) H' λσ2 H2=>tt σ2 H2 λb H3=>
    if b=true then te σ2 H3 λy H4=>∃ys,H4 D=some (.lst ys)/\ys.length<sizeLine/\∃m',m'<m/\W (i+1) m' (upd H4 D (.lst (ys++[y]))) else ∃m',m'<m/\W (i+1) m' H3)) itv s2)
  (hRR:∀D C s' H' m o,Inv X (ZL++[(C,o)]) σ H' s'->s'.heap.Ns C m->(X.s₀.heap.objs.size<=C/\C≠X.env.locals/\(∀x c,X.env.cells.lookup x=some c->c≠C)/\∀p∈X.pn++ZL,p.1≠C)->H' C=none->Q (.ref D) H'->RR (.ref D) C (.ok .next) s')
  (hRE:∀D C s1 H1 s' H' m e cls a0 fx L B,Inv X ZL σ H1 s1->s'.os=s1.os->AllBare s'.gens->Un (mG X.stack) [] H1 H' s1.heap s'.heap->HOk X.prog X.w H' s'.heap->s'.heap.Ns C m->(X.s₀.heap.objs.size<=C/\C≠X.env.locals/\(∀x c,X.env.cells.lookup x=some c->c≠C)/\∀p∈X.pn++ZL,p.1≠C)->H' C=none->E cls fx H'->(fx=none->jp e s'.heap)->Heap.HeldW B X.stack e cls a0 L s'.heap->C∉mG X.stack ->
   (∃o,B.get? C=some o)->(∀b u,H' b=some u->∃o,B.get? b=some o)->(∀b o,s1.heap.get? b=some o->b∉mG X.stack->∃o',B.get? b=some o')->RR (.ref D) C (.error (.ref e)) s') :
  wpAny (model X.prog X.w) X.A (newList []) (λacc s₃=>wpAny (model X.prog X.w) X.A (newFunctionEnv scope X.env.globals (i3 X.env scope.names []) [] X.env.qual none .none (some X.env)) (λcenv s₄=>
   codeAny (model X.prog X.w) X.A (.compStart (.ListComp elt [⟨tg,iter,ifs,0⟩] scope pos) 0 itv acc { cenv with scope:=relabel scope X.env }) (RR acc cenv.locals) s₄) Eo s₃) Eo s2:=by
 obtain⟨it,fp,tn,J,H2,rfl,I2,T,t2,f2,q2⟩:=h2;have fo:∀b∈fp,b<s2.heap.objs.size:=λb hb=>by obtain⟨o,e,_⟩:=T.obj _ _ t2 b hb;exact UA e
 have hD:H2 s2.heap.objs.size=none:=I2.fresh;obtain⟨W,⟨n,w0⟩,turn⟩:=q2 _ hD;refine U3 (YM ck.cell (by intro y hy;simp at hy) (λh1 hns hsb=>?_) ck.kind);have I3:Inv X ZL σ (upd H2 s2.heap.objs.size (.lst [])) { s2 with heap:=s2.heap.push { cls:=.type "list",data:=.seq ([]:Zh).toArray },toks:=s2.toks }:=I2.lnew (its:=[]) .nil (UR _);have f3:∀b∈fp,mL X ZL (upd H2 s2.heap.objs.size (.lst [])) b:=λb hb=>by obtain⟨g0,g1⟩:=f2 b hb;exact⟨by rw[aL (UH (fo b hb))];exact g0,g1⟩
 have sz:(s2.heap.push { cls:=.type "list",data:=.seq ([]:Zh).toArray }).objs.size=s2.heap.objs.size+1:=Vi _ _;have kept:∀b o,(s2.heap.push { cls:=.type "list",data:=.seq ([]:Zh).toArray }).get? b=some o->h1.get? b=some o:=λb o e=>
  hsb.extBut b o (UH (UA e)) (Uz _ e)
 have I4:=AC (tk:=s2.toks+([]:List (Str×Value)).length) ck hXN hsc I3 f3 (λb hb=>by show b<(s2.heap.push _).objs.size;rw[sz];exact V1 (fo b hb)) hns kept;have t4:tn 0 h1:=T.keep _ _ _ t2 λb hb o e=>kept b o (Uz _ e);have fz:∀b∈fp,∀H',H' b=none->mL (gE X N scope ⟨i3 X.env scope.names [],(s2.heap.push { cls:=.type "list",data:=.seq ([]:Zh).toArray }).objs.size,{ s2 with heap:=s2.heap.push { cls:=.type "list",data:=.seq ([]:Zh).toArray },toks:=s2.toks },upd H2 s2.heap.objs.size (.lst []),fp,ZL⟩) [] H' b:=λb hb H' hn=>by obtain⟨g0,g1,g2,g3,g4,g5⟩:=f3 b hb;refine⟨hn,(I4.ok.exf b hb).1,I4.ok.exfs b hb,.inl hb,(I4.ok.exf b hb).2,λp hp=>?_⟩;exact g5 p (by simpa[gE] using hp)
 have lC:X.s₀.heap.objs.size<=(s2.heap.push { cls:=.type "list",data:=.seq ([]:Zh).toArray }).objs.size:=I3.sz;have cC:(s2.heap.push { cls:=.type "list",data:=.seq ([]:Zh).toArray }).objs.size≠X.env.locals:=VD I3.lt;have kC:∀x c,X.env.cells.lookup x=some c->c≠(s2.heap.push { cls:=.type "list",data:=.seq ([]:Zh).toArray }).objs.size:=λx c e=>by obtain⟨v,q⟩:=I3.cell x c e;exact UH q.lt
 have pC:∀p∈X.pn++ZL,p.1≠(s2.heap.push { cls:=.type "list",data:=.seq ([]:Zh).toArray }).objs.size:=λp hp=>UH (UA (I3.pin p hp).1);have nfC:(s2.heap.push { cls:=.type "list",data:=.seq ([]:Zh).toArray }).objs.size∉mG X.stack:=λhb=>by
  rcases UC.1 (I3.stkSub _ hb) with r|r
  ·exact cC r
  ·exact I3.nofs (Ux _) r
 -- a state of the block,seen from around
 have back:∀ {pl:Zf} {σ':St} {H':Hp} {s':Shared},Inv (gE X N scope ⟨i3 X.env scope.names [],(s2.heap.push { cls:=.type "list",data:=.seq ([]:Zh).toArray }).objs.size,{ s2 with heap:=s2.heap.push { cls:=.type "list",data:=.seq ([]:Zh).toArray },toks:=s2.toks },upd H2 s2.heap.objs.size (.lst []),fp,ZL⟩) pl σ' H' s' ->
   ∃m o,Inv X (ZL++[((s2.heap.push { cls:=.type "list",data:=.seq ([]:Zh).toArray }).objs.size,o)]) σ H' s'/\s'.heap.Ns (s2.heap.push { cls:=.type "list",data:=.seq ([]:Zh).toArray }).objs.size m/\H' (s2.heap.push { cls:=.type "list",data:=.seq ([]:Zh).toArray }).objs.size=none:=λ{pl σ' H' s'} Y=>by
  have bb:=Y.base;have J0:Inv X ZL σ H' s':=I3.call' Y.os bb Y.hok Y.bare λb hb=>by obtain⟨g0,g1,g2,g3,g4,g5⟩:=f3 b hb;exact⟨g3,g1,g4,g5⟩
  obtain⟨mC,nC,_⟩:=Y.loc;obtain⟨oC,eC,dC⟩:∃o,s'.heap.get? (s2.heap.push { cls:=.type "list",data:=.seq ([]:Zh).toArray }).objs.size=some o/\∀v,o.data ≠ .cell v:=by obtain⟨o,es,ep,ho,hd,_⟩:=nC;exact⟨o,ho,λv z=>by rw[hd] at z;cases z⟩
  refine⟨mC,oC,J0.pins_of λp hp=>?_,nC,Y.free⟩;rcases U7.1 hp with hp|hp
  ·exact J0.pin p (UE _ hp)
  ·rw[UV.1 hp];exact⟨eC,Y.free,cC,I3.nofs (Ux _),dC⟩
 have hW:∀v s',XW X N scope ⟨i3 X.env scope.names [],(s2.heap.push { cls:=.type "list",data:=.seq ([]:Zh).toArray }).objs.size,{ s2 with heap:=s2.heap.push { cls:=.type "list",data:=.seq ([]:Zh).toArray },toks:=s2.toks },upd H2 s2.heap.objs.size (.lst []),fp,ZL⟩ E v s'->notedBy (model X.prog X.w) X.A (compEnvC scope (i3 X.env scope.names []) (s2.heap.push { cls:=.type "list",data:=.seq ([]:Zh).toArray }).objs.size X.env) (λe s'=>RR (.ref s2.heap.objs.size) (s2.heap.push { cls:=.type "list",data:=.seq ([]:Zh).toArray }).objs.size (.error e) s') v s':=by rintro v s' ⟨pl,σ1,H1,s1,I,e,cls,a0,fx,H',B,rfl,ho,hgn,un,hok,⟨hE,cx⟩,fl,k1,k2⟩;have Y:=I.call' ho un hok hgn (λb z=>by cases z);have fl:Heap.FlyingW B (X.env::X.outer) e cls a0 s'.heap:=hst▸fl;show wpAny _ X.A (noteFrame (.ref e) X.env) _ _ _;refine kd (fx:=fx) (sN _ _) cx ?_;refine Yc (by rw[I3.ok.frames,hst]) hfr fl λh4 held sm4 cx4=>?_;have un4:=pQ un k2 I.nfS I.stkFree fl.1 held.1 sm4;have hok4:=i6 hok fl.1 held.1 k1;have Y4:Inv _ pl σ1 H' { s' with heap:=h4 }:=I.call' (s':={ s' with heap:=h4 }) ho un4 hok4 hgn (λb z=>by cases z);obtain⟨m,o,J1,nC,fC⟩:=back Y4;obtain⟨m1,o1,K1,nC1,fC1⟩:=back I;refine hRE _ _ s1 H1 _ H' m e cls a0 fx _ B K1.unpinned ho hgn un4 hok4 nC ⟨lC,cC,kC,pC⟩ fC hE cx4 (by rw[hst];exact held) nfC ?_ k1 k2;obtain⟨oC,_,_,eC,_⟩:=nC1;exact k2 _ oC eC nfC
 have loop:=B8 (X:=X) (σ:=σ) (N:=N) (scope:=scope) (js:=js) (iter:=iter) (pos:=pos) (R:=RR (.ref s2.heap.objs.size) (s2.heap.push { cls:=.type "list",data:=.seq ([]:Zh).toArray }).objs.size) (D:=s2.heap.objs.size) (W:=W) (n:=n)
  hc T fz hW (hg _ _) hs (ht _ _) (he _) (λi m H w=>(turn i m H w).imp (λa=>⟨a.1,λs' Y=>?_⟩) id) I4 t4 (λb hb=>(f3 b hb).1) w0
 ·exact YN loop (T.self _ 0 _ _ _ t4 loop)
 ·obtain⟨m,o,J1,nC,fC⟩:=back Y;exact hRR _ _ s' H m o J1 nC ⟨lC,cC,kC,pC⟩ fC a.2
def Hm(hL:zT X E)(ck:Zw XN sc scope N js)(hi:PI X tg iter wi)(hg:∀z W,PG ((gE X N scope z).wish W) tg g)(hs:vj js g)(ht:∀z W,IY ((gE X N scope z).wish W) ifs tt)(he:∀z W,gc (g6 X.prog X.w) ((gE X N scope z).wish W) E->PE ((gE X N scope z).wish W) elt te)
  (hex:X.ex=[]:=by rfl) (hst:X.stack=X.env::X.outer:=by rfl) (hfr:X.env.frame=some X.env.locals:=by rfl)
  (hXN:X.N=XN:=by rfl) (hsc:X.env.scope=sc:=by rfl) (hc:X.calm=true:=by rfl) (hf:∀x,foldedSetIterable iter X.env x=pure x:=by intro _;rfl) :
  PE X (.ListComp elt [⟨tg,iter,ifs,0⟩] scope pos) (sg js wi g tt te):=by
 intro ZL s σ H Q I h;rw[eval_ListComp];have hcl:closureFor scope X.env=pure (i3 X.env scope.names []):=lN λy hy hk=>I.ok.has y.1 (by
  have:=ck.free y hy hk;rw[<-hsc] at this
  exact this)
 refine WS (use:=none) rfl hf hcl ck.kind ck.loc (cr (hi ZL s σ H _ I h) λv s1 h1=>cr h1 λitv s2 h2=>?_);refine tL (RR:=λacc C=>compPost (model X.prog X.w) X.A X.xe none (EP X ZL σ Q) acc C) ck hXN hsc hc hst hfr hg hs ht (λz=>he z _ λpl σ1 H1 s1 v s' I1 hx=>⟨pl,σ1,H1,s1,I1.unwish,hx⟩) h2 ?_ ?_
 ·intro D C s' H' m o J nC hC fC q;refine⟨m,nC,λh' sb=>⟨.ref D,H',?_,rfl,q⟩⟩;have J0:Inv X ZL σ H' s':=J.unpinned;exact J0.turned (t':=s'.toks) (it:=C) (λb o hb e=>sb.extBut b o hb e) fC hC.2.1 (.inr hC.1) hC.2.2.1 hC.2.2.2
 ·intro D C s1 H1 s' H' m e cls a0 fx L B I1 ho hgn un hok nC hC fC hE cx held nfC hBC k1 k2;refine⟨m,nC,λh' sb cenv _=>?_⟩;obtain⟨b1,b2,b3,b4⟩:=held;obtain⟨oB,eB⟩:=hBC;have none':∀b,B.get? b=none->(PySem.W.hideAll B [C]).get? b=none:=λb q=>by
   cases z:(PySem.W.hideAll B [C]).get? b with
   |none=>rfl
   |some o=>rw[V8 _ z] at q;cases q
  have neC:∀b o,(PySem.W.hideAll B [C]).get? b=some o->b≠C:=λb o q z=>by rw[z,YZ [C] (.head _)] at q;cases q
  have get':∀b o,B.get? b=some o->b≠C->(PySem.W.hideAll B [C]).get? b=some o:=λb o q z=>W4 [C] q λy=>z (UV.1 y);have keepC:∀b o,b≠C->s'.heap.get? b=some o->h'.get? b=some o:=λb o hb q=>sb.extBut b o hb q;have c1:(PySem.W.hideAll B [C]).StaysIn s'.heap:=λb o q=>b1 b o (V8 _ q);have c2:(PySem.W.hideAll B [C]).StaysIn h':=λb o q=>keepC b o (neC b o q) (c1 b o q);have bne:∀b,B.get? b=none->b≠C:=λb q z=>by rw[z,eB] at q;cases q
  have tr:h'.TracedAtW (PySem.W.hideAll B [C]) e cls a0 (rawInt L):=by obtain⟨oe,vs,T,oT,ts,he',hcls,hd,h1',hnT,hTe,hT,hdT,h3⟩:=b4;exact⟨oe,vs,T,oT,ts,keepC e oe (bne e b2) he',hcls,hd,h1',none' T hnT,hTe,keepC T oT (bne T hnT) hT,hdT,h3⟩
  have fr:=jG (C:=C) none' keepC nfC b3;have cx':fx=none->jp e h':=λz=>by obtain⟨o,vs,q1,q2⟩:=cx z;exact⟨o,vs,keepC e o (bne e b2) q1,q2⟩
  refine kd (fx:=fx) (s:={ s' with heap:=h' }) (sO _ _ _) cx' ?_;refine wg (s:={ s' with heap:=h' }) c2 fr tr λh5 fl5 y1 y2 y3 y4 cx5=>?_;have kk1:∀b u,H' b=some u->∃o,(PySem.W.hideAll B [C]).get? b=some o:=λb u q=>by obtain⟨o,z⟩:=k1 b u q;exact⟨o,get' b o z λy=>by rw[y,fC] at q;cases q⟩
  have hok5:HOk X.prog X.w H' h5:=i6 hok c1 y1 kk1;have un5:Un (mG X.stack) [C] H1 H' s1.heap h5:=by
   have nn:∀b:Addr,b∉([]:Zk):=λb z=>by cases z
   refine⟨λb o q n z y=>?_,λb o q n z y=>?_,λb o q n y=>un.free b o q n (nn b),λb o q y=>?_,un.tups,un.frzs,un.tbls⟩
   ·obtain⟨o',q1⟩:=k2 b o q z;have q2:=get' b o' q1 λyy=>y (by rw[yy];exact .head _);have q3:=un.keep b o q n z (nn b);rw[c1 b o' q2] at q3;cases q3;exact y1 b _ q2
   ·obtain⟨sl,q1⟩:=un.slot b o q n z (nn b);have q2:=keepC b _ (λyy=>y (by rw[yy];exact .head _)) q1;obtain⟨sl2,q3⟩:=y4 b _ q2 (I1.nfS b z o q);exact⟨sl2,q3⟩
   ·by_cases z:b∈mG X.stack
    ·obtain⟨sl,q1⟩:=un.slot b o q (I1.stkFree b z) z (nn b);have q2:=keepC b _ (λyy=>y (by rw[yy];exact .head _)) q1;obtain⟨sl2,q3⟩:=y4 b _ q2 (I1.nfS b z o q);exact⟨_,q3⟩
    ·obtain⟨o',q1⟩:=k2 b o q z;exact⟨o',y1 b _ (get' b o' q1 λyy=>y (by rw[yy];exact .head _))⟩
  have J5:Inv X ZL σ H' { s' with heap:=h5 }:=I1.call' (s':={ s' with heap:=h5 }) ho un5 hok5 hgn λb hb=>by rw[UV.1 hb];exact⟨.inr hC.1,hC.2⟩
  refine hL ZL σ H' _ e cls a0 fl5 fx (PySem.W.hideAll B [C]) J5 hE cx5 y1 (none' e b2) y2 y3 kk1 λb o q z=>?_;obtain⟨o1,q1⟩:=I1.base.there b o q (by rw[hex];intro y;cases y);obtain⟨o2,q2⟩:=k2 b o1 q1 (I1.notStk q z);exact⟨o2,get' b o2 q2 λy=>absurd (UA q) (by rw[y];exact X8.2 hC.1)⟩
end
def Ps(t u:TE):TE:=λσ H Q=>t σ H Q\/u σ H Q
def Pt(t u:TS):TS:=λD σ H=>t D σ H\/u D σ H
section
variable {X:Cx}
def yh(h:PE X e t)(k:PE X e u):PE X e (Ps t u):=λZL s σ H Q I q=>q.elim (h ZL s σ H Q I) (k ZL s σ H Q I)
def yj{st:Stmt}{t u:TS}(h:PS X st t)(k:PS X st u):PS X st (Pt t u):=λZL s σ H D I q=>q.elim (h ZL s σ H D I) (k ZL s σ H D I)
end
end L2
namespace M
open PySem L2
section
variable {K:Zj}{S S' H H':Hp}{E:XK}
@[simp]def sr(m:XS):XR:=λρ=>match m ρ with|some (.nx ρ')=>some (.nx ρ')|_=>none
def ly(h:SS K t m):SX K E t (sr m):=λA Λ ρ σ S H D o r x k=>by unfold sr at x;split at x<;>cases x;rename_i q;exact h A Λ ρ σ S H D _ r q k
@[simp]def BL(n:Env->Option Str)(m:XS):XR:=λρ=>match n ρ with|some N=>some (.rz N)|none=>(match m ρ with|some (.nx ρ')=>some (.nx ρ')|_=>none)
def yv(ht:SX K E t (zS n))(hu:SS K u m):SX K E (Pt t u) (BL n m):=λA Λ ρ σ S H D o r x k=>by
 unfold BL at x;cases q:n ρ with
 |some N=>
  rw[q] at x;cases x;exact .inl (ht A Λ ρ σ S H D _ r (by unfold zS;rw[q];rfl) k)
 |none=>rw[q] at x;exact .inr (ly (E:=E) hu A Λ ρ σ S H D o r x k)
def tz(h:qN K E t m):SX K E (nX t g) (zS m):=λA Λ ρ σ S H D o r x k=>by
 unfold zS at x;cases q:m ρ with
 |none=>rw[q] at x;cases x
 |some N=>rw[q] at x;cases x;exact h A Λ ρ σ S H _ N r q k
def K5(K:Zj)(E:XK)(t:TA)(m:Env->Option Str):Prop:=∀A Λ ρ σ S H (Q:Za->Hp->Prop) N,RlA K A Λ ρ σ S H->m ρ=some N->XDone K A S E N->t σ H Q
@[simp]def wX(m:Env->Option Str):Env->Option Str:=m
def sf(h:qN K E t m):K5 K E (cj t tr) (wX m):=λA Λ ρ σ S H Q N r x k=>h A Λ ρ σ S H _ N r x k
@[simp]def Dd(e:XE)(m:Env->Option Str):Env->Option Str:=λρ=>(e ρ).bind λ_=>m ρ
def BA(he:SE K t e)(h:K5 K E tr m):K5 K E (cj t tr) (Dd e m):=λA Λ ρ σ S H Q N r x k=>by obtain⟨d,q,x⟩:=ZM x;refine he ρ σ S H _ d r.toRl q λv S1 H1 z1 _=>?_;exact h A Λ ρ σ S1 H1 _ N (r.ext z1) x (k.mono z1.sh)
@[simp]def NJ(n:Env->Option Str)(e:XE)(m:Env->Option Str):Env->Option Str:=λρ=>match n ρ with|some N=>some N|none=>(e ρ).bind λ_=>m ρ
def Nz(ht:qN K E t n)(hu:SE K u e)(h:K5 K E tr m):K5 K E (cj (Ps t u) tr) (NJ n e m):=λA Λ ρ σ S H Q N r x k=>by
 unfold NJ at x;cases q:n ρ with
 |some M=>rw[q] at x;cases x;exact .inl (ht A Λ ρ σ S H _ N r q k)
 |none=>rw[q] at x;obtain⟨d,q2,x⟩:=ZM x;refine .inr (hu ρ σ S H _ d r.toRl q2 λv S1 H1 z1 _=>?_);exact h A Λ ρ σ S1 H1 _ N (r.ext z1) x (k.mono z1.sh)
def KO(h:K5 K E t m):qN K E (FH t) m:=λA Λ ρ σ S H Q N r x k=>h A Λ ρ σ S H _ N r x k
@[simp]def IR(i:Nat)(m:Env->Option Str):Env->Option Str:=λρ=>match ρ[i]? with|some (.ow (.lst _))=>m ρ|_=>none
def KM{i:Nat} (h:qN K E t m):qN K E (Eh K "list" r (j4 i) (cj t tr)) (IR i m):=λA Λ ρ σ S H Q N rl x k=>by
 unfold IR at x;split at x<;>try (cases x;done)
 rename_i l q;obtain⟨Φ,f⟩:=rl;obtain⟨v,ev,ow,_⟩:=f.ow i _ q;obtain⟨a,xs,g,rfl,_,hx,_⟩:=Zy.1 ow;exact⟨.ref a,ev,.inl ⟨rfl,xs,SqL.of hx⟩,h A Λ ρ σ S H _ N ⟨Φ,f⟩ x k⟩
def Ap(g:XG)(c:XT)(e:XE)(n:Env->Option Str)(ρ0:Env):Zc->Option Str
 |[]=>none
 |d::l=>(g d ρ0).bind λρ1=>(c ρ1).bind λb=>if b=true then (match n ρ1 with|some N=>some N|none=>(e ρ1).bind λ_=>Ap g c e n ρ0 l) else Ap g c e n ρ0 l
@[simp]def wY(js:List (Option Nat))(w:XA)(g:XG)(c:XT)(e:XE)(n:Env->Option Str):Env->Option Str:=λρ=>(w ρ).bind λl=>if l.length<=gA then Ap g c e n (rp js ρ) l else none
def yw{js:List (Option Nat)}{wi:TI} {tt:FW} (hi:P2 K wi w)(hg:SG K g x)(hc:ST K tt c)(ht:qN K E t n)(hu:SE K u e) :
  qN K E (sg js wi g tt (Ps t u)) (wY js w x c e n):=λA Λ ρ σ S H Q N r y k=>by
 obtain⟨ds,q,y⟩:=ZM y;split at y
 ·rename_i hlim;refine hi ρ σ S H _ ds r.toRl q λJ S1 H1 z1 wk D hD=>?_;have r1:=r.toRl.ext z1;refine⟨λi n' H'=>n'=ds.length-i/\i<=ds.length/\∃S' ys,Ext S1 H1 S' H'/\H' D=some (.lst ys)/\S' D=none/\ys.length<=i/\Ap x c e n (rp js ρ) (ds.drop i)=some N,
   ⟨_,rfl,UR _,S1,[],Ext.own z1.sub hD,aG,z1.sub.free hD,UR _,y⟩,?_⟩
  rintro i n' H2 ⟨rfl,hil,S2,ys,z2,hy,hSD,hdl,y2⟩;obtain⟨w1,w2⟩:=wk S2 H2 z2;cases qd:ds[i]? with
  |none=>
   have:ds.length=i:=by have:=VG.1 qd;lia
   subst this;rw[VH (Ux _)] at y2;cases y2
  |some d=>
   obtain⟨g1,g2⟩:=w1 i d qd;have hlt:=(UX.1 qd).1;rw[iz qd] at y2;obtain⟨ρ3,qx,y2⟩:=ZM y2;refine .inr ⟨g1,λxv H3 hyl=>?_⟩;obtain⟨rfl,dx⟩:=g2 xv H3 hyl;have ri:=zA (r1.ext z2) js;refine hg _ _ _ _ S2 H3 xv d _ ρ3 ri dx qx λσ3 r3=>?_;obtain⟨b,qc,y2⟩:=ZM y2;refine hc ρ3 σ3 S2 H3 _ b r3.toRl qc λS4 H4 z4=>?_;obtain⟨al1,al2⟩:=z4.al D _ hy hSD;cases b with
   |false=>
    rw[Uu (by decide)] at y2;exact rA ⟨_,(),rfl,hlt,S4,ys,z2.trans z4,al1,al2,(),y2⟩
   |true=>
    rw[Uv rfl] at y2;cases qn:n ρ3 with
    |some N'=>
     rw[qn] at y2;cases y2;refine oP (.inl (ht _ _ ρ3 σ3 S4 H4 _ N (r3.ext z4) qn λfx C S5 H5 ag s1 s2 s3 s4 hC=>?_));have z5:Ext S2 H3 S5 H5:=yW (z4.sh.trans s1) s2 s3 s4;obtain⟨e1,e2,e3,e4⟩:=pN r ((z1.trans z2).trans z5);exact k fx C S5 H5 ag e1 e2 e3 e4 hC
    |none=>
     rw[qn] at y2;obtain⟨dv,qe,y2⟩:=ZM y2;refine oP (.inr (hu ρ3 σ3 S4 H4 _ dv (r3.toRl.ext z4) qe λv S5 H5 z5 d5=>?_));obtain⟨b1,b2⟩:=z5.al D _ al1 al2;refine⟨ys,b1,?_,_,(),rfl,hlt,S5,ys++[v],?_,aG,b2,by rw[U2,VP];lia,y2⟩
     ·exact UP (Vd hdl hlt) (UD hlim (U1 gJ))
     ·have z6:=(z2.trans z4).trans z5;exact⟨z6.sh,λb u hb=>by rw[aL λz=>by subst z;rw[b2] at hb;cases hb];exact z6.sub b u hb,λb o hb hn=>by
       obtain⟨c1,c2⟩:=z6.alw b o hb hn
       exact⟨by rw[aL λz=>by subst z;rw[hD] at hb;cases hb];exact c1,c2⟩⟩
 ·cases y
def yb(g:XG)(m:XR):Zc->Env->Option RO
 |[],ρ=>some (.nx ρ)
 |d::l,ρ=>(g d ρ).bind λρ1=>(m ρ1).bind λo=>match o with|.nx ρ2=>yb g m l ρ2|.rz N=>some (.rz N)
@[simp]def Ey(e:XA)(g:XG)(m:XR):XR:=λρ=>(e ρ).bind λl=>yb g m l ρ
def Ny{wi:TI} {tb:TS} (hi:SI K wi e)(hg:SG K g x)(hb:SX K E tb m):SX K E (FF wi g tb) (Ey e x m):=λA Λ ρ σ S H D o r y k=>by
 obtain⟨l,q,y⟩:=ZM y;refine hi ρ σ S H _ l r.toRl q λJ S1 H1 z1 wk=>?_;have r1:=r.ext z1;refine⟨λi n σ' H'=>n=l.length-i/\i<=l.length/\∃ρ' S',RlA K A Λ ρ' σ' S' H'/\Same S1 S'/\yb x m (l.drop i) ρ'=some o,⟨_,rfl,UR _,ρ,S1,r1,Same.refl _,y⟩,?_⟩;rintro i n σ2 H2 ⟨rfl,hil,ρ2,S2,r2,s2,y2⟩;obtain⟨w1,w2⟩:=wk S2 H2 s2 r2.sub;cases qd:l[i]? with
 |none=>
  have:l.length=i:=by have:=VG.1 qd;lia
  subst this;rw[VH (Ux _)] at y2;cases y2;exact .inl ⟨w2,k σ2 S2 H2 r2 (z1.sh.trans s2)⟩
 |some d=>
  obtain⟨g1,g2⟩:=w1 i d qd;have hlt:=(UX.1 qd).1;rw[iz qd] at y2;obtain⟨ρ3,qx,y2⟩:=ZM y2;refine .inr ⟨g1,λσ' H'=>∃ρ' S',RlA K A Λ ρ' σ' S' H'/\Same S1 S'/\yb x m (l.drop (i+1)) ρ'=some o,λσ' H' ⟨ρ',S',a1,a2,a3⟩=>⟨_,(),rfl,hlt,ρ',S',a1,a2,a3⟩,λxv H3 hy=>?_⟩;obtain⟨rfl,dx⟩:=g2 xv H3 hy;refine hg A Λ ρ2 σ2 S2 H3 xv d _ ρ3 r2 dx qx λσ3 r3=>?_;obtain⟨om,qm,y2⟩:=ZM y2;refine hb A Λ ρ3 σ3 S2 H3 _ om r3 qm ?_;cases om with
  |nx ρ4=>exact λσ4 S4 H4 r4 s4=>⟨ρ4,S4,r4,s2.trans s4,y2⟩
  |rz N=>cases y2;exact DoneX.mono (z1.sh.trans s2) k
end
end M
namespace L2
open PySem
structure Ak(CX:zR)(n:Nat)(x:Str)(ps:Zl)(sp:Zj->Sp)(P:Program)(w:World)(K:Zj)(mg:Zg)(base:Heap)(f:Addr)(fd:FuncData):Prop where
 G:Zq P w K mg base CX n f fd ps (sp K)
 m:mg x=some (.ref f)
 k:W.keepIn K (.ref f)=true
 b:Binds K fd ps []
structure Ac(CX:zR)(n:Nat)(x:Str)(ps:Zl)(sp:Zj->Sp)(P:Program)(w:World)(K:Zj)(mg:Zg)(base:Heap)(c f:Addr)(fd:FuncData):Prop where
 G:Zq P w K mg base CX n f fd ps (sp K)
 b:Binds K fd ps []
 n:W.nsIn K mainGlobals x=some (some (.ref c))
 M:Mk K c f
 g:mg x=some (.ref c)
def IC{us:Zh}{n:Nat}(h:us.length=n+1):∃a v,us=a::v/\v.length=n:=by
 cases us with
 |nil=>cases h
 |cons a v=>exact⟨a,v,rfl,Nat.succ.inj h⟩
def wU{us:Zh}(h:us.length=1):∃a0,us=[a0]:=by
 obtain⟨a0,v0,rfl,h0⟩:=IC h;cases v0 with
 |nil=>exact⟨a0,rfl⟩
 |cons a v=>cases h0
def IB{us:Zh}(h:us.length=2):∃a0 a1,us=[a0,a1]:=by
 obtain⟨a0,v0,rfl,h0⟩:=IC h;obtain⟨a1,v1,rfl,h1⟩:=IC h0;cases v1 with
 |nil=>exact⟨a0,a1,rfl⟩
 |cons a v=>cases h1
def Qm{us:Zh}(h:us.length=3):∃a0 a1 a2,us=[a0,a1,a2]:=by
 obtain⟨a0,v0,rfl,h0⟩:=IC h;obtain⟨a1,v1,rfl,h1⟩:=IC h0;obtain⟨a2,v2,rfl,h2⟩:=IC h1;cases v2 with
 |nil=>exact⟨a0,a1,a2,rfl⟩
 |cons a v=>cases h2
def Ub{us:Zh}(h:us.length=5):∃a0 a1 a2 a3 a4,us=[a0,a1,a2,a3,a4]:=by
 obtain⟨a0,v0,rfl,h0⟩:=IC h;obtain⟨a1,v1,rfl,h1⟩:=IC h0;obtain⟨a2,v2,rfl,h2⟩:=IC h1;obtain⟨a3,v3,rfl,h3⟩:=IC h2;obtain⟨a4,v4,rfl,h4⟩:=IC h3;cases v4 with
 |nil=>exact⟨a0,a1,a2,a3,a4,rfl⟩
 |cons a v=>cases h4
open PySem PySem.Spec PyProof.Rows
section
variable {κ:Type}[DecidableEq κ]
def ie(kvs:List (κ×V))(k:κ):Option V:=(kvs.find? λkv=>decide (kv.1=k)).map (·.2)
def kP(kvs:List (κ×V))(k:κ)(v:V):List (κ×V):=
 if (kvs.any λkv=>decide (kv.1=k))=true then kvs.map (λkv=>if kv.1=k then (kv.1,v) else kv) else kvs++[(k,v)]
def q9(kvs:List (κ×V))(k:κ):List (κ×V):=kvs.filter λkv=>decide (kv.1≠k)
def lB{p:κ×V}{r:List (κ×V)}{k:κ}(e:p.1=k):ie (p::r) k=some p.2:=by simp[ie,V9,e]
def lA{p:κ×V}{r:List (κ×V)}{k:κ}(e:¬p.1=k):ie (p::r) k=ie r k:=by simp[ie,V9,e]
theorem BI(k:κ):∀kvs:List (κ×V),(kvs.any λkv=>decide (kv.1=k))=(ie kvs k).isSome
 |[]=>rfl
 |p::r=>by
  rw[VC];by_cases e:p.1=k
  ·simp only[lB e,VZ e,Bool.true_or,YW]
  ·rw[lA e,UU e,Bool.false_or];exact BI k r
def ka(kvs:List (κ×V))(k:κ)(v:V):(kP kvs k v).length<=kvs.length+1:=by
 unfold kP;split
 ·rw[UN];lia
 ·rw[U2,UI,List.length_nil];lia
def RelO.isSome_eq(r:RelO o u):o.isSome=u.isSome:=by
 cases o with
 |none=>cases u with
  |none=>rfl
  |some _=>exact (show False from r).elim
 |some _=>cases u with
  |none=>exact (show False from r).elim
  |some _=>rfl
def RelO.getD(r:RelO o u)(rd:RelV d d'):RelV (o.getD d) (u.getD d'):=by
 cases o with
 |none=>cases u with
  |none=>exact rd
  |some _=>exact (show False from r).elim
 |some _=>cases u with
  |none=>exact (show False from r).elim
  |some _=>exact r
def KV.val{kvs:List (κ×V)} (r:KV kvs vs)(k:κ):RelO (ie kvs k) (valueAt vs k):=by
 unfold KV at r;induction r with
 |nil=>exact True.intro
 | @cons p q ps qs h t ih=>
  obtain⟨h1,h2⟩:=h;by_cases e:p.1=k
  ·have e':q.1=k:=h1.symm.trans e;have b:valueAt (q::qs) k=some q.2:=by simp[valueAt,V9,e']
   rw[lB e,b];exact h2
  ·have e':¬q.1=k:=λz=>e (h1.trans z);have b:valueAt (q::qs) k=valueAt qs k:=by simp[valueAt,V9,e']
   rw[lA e,b];exact ih
def KV.any{kvs:List (κ×V)} (r:KV kvs vs)(k:κ):(kvs.any λkv=>decide (kv.1=k))=vs.any λkv=>decide (kv.1=k):=by
 unfold KV at r;induction r with
 |nil=>rfl
 |cons h t ih=>rw[VC,VC,ih,h.1]
def KV.repl{kvs:List (κ×V)} (r:KV kvs vs)(k:κ) (ry:RelV y u) :
  KV (kvs.map λkv=>if kv.1=k then (kv.1,y) else kv) (vs.map λkv=>if kv.1=k then (kv.1,u) else kv):=by
 unfold KV at r ⊢;induction r with
 |nil=>exact .nil
 | @cons p q ps qs h t ih=>
  rw[UG,UG];refine .cons ?_ ih;obtain⟨h1,h2⟩:=h;by_cases e:p.1=k
  ·rw[Uv e,Uv (h1.symm.trans e)];exact⟨h1,ry⟩
  ·rw[Uu e,Uu (λz=>e (h1.trans z))];exact⟨h1,h2⟩
def KV.put{kvs:List (κ×V)} (r:KV kvs vs)(k:κ) (ry:RelV y u):KV (kP kvs k y) (stored vs k u):=by
 unfold kP stored;rw[r.any k];by_cases e:(vs.any λkv=>decide (kv.1=k))=true
 ·rw[Uv e,Uv e];exact r.repl k ry
 ·rw[Uu e,Uu e];exact Paired.snoc r ⟨rfl,ry⟩
def KV.drop{kvs:List (κ×V)} (r:KV kvs vs)(k:κ):KV (q9 kvs k) (without vs k):=by
 unfold KV at r ⊢;unfold q9 without;induction r with
 |nil=>exact .nil
 | @cons p q ps qs h t ih=>
  obtain⟨h1,h2⟩:=h;rw[Y0,Y0];by_cases e:p.1=k
  ·have a:¬decide (p.1≠k)=true:=by simp[e]
   have b:¬decide (q.1≠k)=true:=by simp[h1.symm.trans e]
   rw[Uu a,Uu b];exact ih
  ·have e':¬q.1=k:=λz=>e (h1.trans z);have a:decide (p.1≠k)=true:=by simp[e]
   have b:decide (q.1≠k)=true:=by simp[e']
   rw[Uv a,Uv b];exact .cons ⟨h1,h2⟩ ih
def KV.length{kvs:List (κ×V)} (r:KV kvs vs):kvs.length=vs.length:=We r
def Gx(kvs:List (κ×V))(k:κ):(q9 kvs k).length<=kvs.length:=List.length_filter_le _ _
end
def rB(r:RelV (kV k) u):(bN P w).is k u=true:=by
 cases k with
 |inl i=>obtain⟨t,e⟩:=(show ∃t,u=Value.int i t from r);subst e;exact AK P w i t
 |inr x=>obtain⟨t,e⟩:=(show ∃t,u=Value.str x t from r);subst e;exact AL P w x t
theorem xZ:∀ {ks:List c7} {us:Zh},Vals (ks.map kV) us->ItemsAre (bN P w) ks us
 |[],_,r=>by rw[XD] at r;cases r;exact .nil
 |k::ks,_,r=>by
  rw[UG] at r;cases r with
  |cons h t=>exact .cons (rB h) (xZ t)
abbrev KT(H:Hp):List (List c7×V)->List (List c7×Addr×Value)->Prop:=Paired λp q=>p.1=q.1/\H q.2.1=some (.tup (p.1.map kV))/\RelV p.2 q.2.2
def KT.val{kvs:List (List c7×V)}{xs:List (List c7×Addr×Value)}(r:KT H kvs xs)(k:List c7):RelO (ie kvs k) ((atKey xs k).map (·.2)):=by
 induction r with
 |nil=>exact True.intro
 | @cons p q ps qs h t ih=>
  obtain⟨h1,_,h2⟩:=h;by_cases e:p.1=k
  ·have e':q.1=k:=h1.symm.trans e;have b:atKey (q::qs) k=some q.2:=by simp[atKey,V9,e']
   rw[lB e,b];exact h2
  ·have e':¬q.1=k:=λz=>e (h1.trans z);have b:atKey (q::qs) k=atKey qs k:=by simp[atKey,V9,e']
   rw[lA e,b];exact ih
def KT.repl{kvs:List (List c7×V)}{xs:List (List c7×Addr×Value)}(r:KT H kvs xs)(k:List c7) (ry:RelV y u) :
  KT H (kvs.map λkv=>if kv.1=k then (kv.1,y) else kv) (xs.map (putAt k u)):=by
 induction r with
 |nil=>exact .nil
 | @cons p q ps qs h t ih=>
  rw[UG,UG];refine .cons ?_ ih;obtain⟨h1,h2,h3⟩:=h;unfold putAt;by_cases e:p.1=k
  ·rw[Uv e,Uv (h1.symm.trans e)];exact⟨h1,h2,ry⟩
  ·rw[Uu e,Uu (λz=>e (h1.trans z))];exact⟨h1,h2,h3⟩
def KT.put{kvs:List (List c7×V)}{xs:List (List c7×Addr×Value)}(r:KT H kvs xs)(k:List c7){b:Addr} (hb:H b=some (.tup (k.map kV)))(ry:RelV y u) :
  KT H (kP kvs k y) (storedH xs k b u):=by
 have e:(kvs.any λkv=>decide (kv.1=k))=(atKey xs k).isSome:=by rw[BI,(r.val k).isSome_eq,Y1]
 unfold kP storedH;rw[e];by_cases q:(atKey xs k).isSome=true
 ·rw[Uv q,Uv q];exact r.repl k ry
 ·rw[Uu q,Uu q];exact Paired.snoc r ⟨rfl,hb,ry⟩
def KT.keeps{H':Hp}{kvs:List (List c7×V)}{xs:List (List c7×Addr×Value)}(r:KT H kvs xs)(ht:∀b ys,H b=some (.tup ys)->H' b=some (.tup ys)):KT H' kvs xs:=
 Paired.mapP r λ_ _ z=>⟨z.1,ht _ _ z.2.1,z.2.2⟩
section
variable {P:Program}{w:World}{H:Hp}{h:Heap}{a:Addr}
def cI(ok:HOk P w H h)(e:Rd H a u):ObjOk P w H h a u:=e.ok ok
def vJ{kvs:List (c7×V)}(ok:HOk P w H h)(e:Rd H a (.dK kvs)):kvs.length<=sizeLine/\(a==sysModules)=false/\∃vs,KV kvs vs/\h.DictOf (bN P w) a vs:=
 show ObjOk P w H h a (.dK kvs) from cI ok e
def La{kvs:List (c7×V)}(ok:HOk P w H h)(e:H a=some (.dK kvs)):kvs.length<=sizeLine/\(a==sysModules)=false/\∃vs,KV kvs vs/\h.DictOf (bN P w) a vs:=vJ ok (.inl e)
def sH{ks:List c7}(ok:HOk P w H h)(e:H a=some (.tup (ks.map kV))):(tupleKind (bN P w)).is h ks a:=by
 obtain⟨_,its,r,o,h1,h2,n,h3,_⟩:=(show ObjOk P w H h a (.tup (ks.map kV)) from ok a _ e)
 exact⟨o,its.toArray,n,h1,h2,h3,by simpa using xZ r⟩
def xU{kvs:List (List c7×V)}(ok:HOk P w H h)(e:Rd H a (.dT kvs)):kvs.length<=sizeLine/\(a==sysModules)=false /\
  ∃xs,KT H kvs xs/\h.DictOfH (tupleKind (bN P w)) a xs:=by
 obtain⟨z,y,xs,r,o,es,ep,h1,h2,h3,h4,h5⟩:=(show ObjOk P w H h a (.dT kvs) from cI ok e)
 refine⟨z,y,xs,r,o,es,ep,h1,h2,h3,h4,λx hx=>?_,h5⟩;have all:∀ {l:List (List c7×V)} {m:List (List c7×Addr×Value)},KT H l m->∀x∈m,(tupleKind (bN P w)).is h x.1 x.2.1:=by
  intro l m q;induction q with
  |nil=>intro x hx;exact nomatch hx
  | @cons p q ps qs hq t ih=>
   intro x hx;rcases UC.1 hx with e|hx
   ·subst e;exact sH ok (by rw[<-hq.1];exact hq.2.1)
   ·exact ih x hx
 exact all r x hx
def tQ{kvs:List (List c7×V)}(ok:HOk P w H h)(e:H a=some (.dT kvs)):kvs.length<=sizeLine/\(a==sysModules)=false /\
  ∃xs,KT H kvs xs/\h.DictOfH (tupleKind (bN P w)) a xs:=xU ok (.inl e)
end
def yE(H:Hp)(a:Addr)(y:V)(r:Option V):Prop:=
 (∃kvs k,Rd H a (.dK kvs)/\y=kV k/\r=ie kvs k)\/∃kvs k b,Rd H a (.dT kvs)/\y=.ref b/\H b=some (.tup (k.map kV))/\r=ie kvs k
def DPut(H:Hp)(a:Addr)(y v:V)(H':Hp):Prop:=
 (∃kvs k,H a=some (.dK kvs)/\y=kV k/\kvs.length<sizeLine/\H'=upd H a (.dK (kP kvs k v))) \/
 ∃kvs k b,H a=some (.dT kvs)/\y=.ref b/\H b=some (.tup (k.map kV))/\kvs.length<sizeLine/\H'=upd H a (.dT (kP kvs k v))
def DPut.k{H:Hp}{a:Addr}{kvs:List (c7×V)}{k:c7}{v:V}(e:H a=some (.dK kvs))(hl:kvs.length<sizeLine):DPut H a (kV k) v (upd H a (.dK (kP kvs k v))):=.inl ⟨kvs,k,e,rfl,hl,rfl⟩
section
variable {X:Cx}{ZL:Zf}{σ:St}{H:Hp}{s:Shared}{a:Addr}{y v:V}{u r:Value}{o:Option V}{A:Around}{E:Ze}
def Inv.big(I:Inv X ZL σ H s):sysModules<s.heap.objs.size:=by have h:mainGlobals<s.heap.objs.size:=(I.mod.glob.keeps I.bk).lt;exact WW (by decide) h
def EU{Q:Ze}(hu:A.units+1<cLine)(I:Inv X ZL σ H s)(g:yE H a y (some v))(ry:RelV y u)(h:∀w' s',Inv X ZL σ H s'->RelV v w'->Q w' s') :
  wpAny (model X.prog X.w) A (getItem (.ref a) u) Q E s:=by
 rcases g with ⟨kvs,k,e,ey,l⟩|⟨kvs,k,b,e,ey,eb,l⟩
 ·subst ey;obtain⟨z,hd,vs,rel,dd⟩:=vJ I.hok e;obtain⟨w',hw,rw'⟩:=RelO.some_of (v:=v) (o:=valueAt vs k) (by rw[l];exact rel.val k);exact wpAny_getItem_of (rB ry) dd.mapOf hw (h w' _ (I.tok _) rw')
 ·subst ey;cases (show u=Value.ref b from ry);obtain⟨z,hd,xs,rel,dd⟩:=xU I.hok e;obtain⟨w',hw,rw'⟩:=RelO.some_of (v:=v) (o:=(atKey xs k).map (·.2)) (by rw[l];exact rel.val k);obtain⟨p,hp,hp2⟩:=Vg.1 hw;refine wpAny_getItem_heap (Wu hu) (sH I.hok eb) dd hp ?_;rw[hp2];exact h w' _ (I.tok _) rw'
def Ju{Q:Ze}(hu:A.units+1<cLine)(I:Inv X ZL σ H s)(g:yE H a y o)(ry:RelV y u)(h:∀s',Inv X ZL σ H s'->Q (.bool (!o.isSome)) s') :
  wpAny (model X.prog X.w) A (compareOp .NotIn u (.ref a)) Q E s:=by
 rcases g with ⟨kvs,k,e,ey,l⟩|⟨kvs,k,b,e,ey,eb,l⟩
 ·subst ey;obtain⟨z,hd,vs,rel,dd⟩:=vJ I.hok e;refine wpAny_notIn_of (rB ry) hd dd.mapOf ?_;rw[<-(rel.val k).isSome_eq,<-l];exact h _ (I.tok _)
 ·subst ey;cases (show u=Value.ref b from ry);obtain⟨z,hd,xs,rel,dd⟩:=xU I.hok e;refine wpAny_notIn_heap (Wu hu) (sH I.hok eb) hd dd ?_;have q:=(rel.val k).isSome_eq;rw[Y1] at q;rw[<-q,<-l];exact h _ (I.tok _)
def uK{h':Heap}{t':Nat} (I:Inv X ZL σ H s)(mu:N3 (H a))(hs:Heap.SameBut a s.heap h')(he:∃q,h'.get? a=some q)(new:ObjOk X.prog X.w (upd H a ob) h' a ob) :
  Inv X ZL σ (upd H a ob) { s with heap:=h',toks:=t' }:=
 I.write (x:=a) (e:=a) mu (.inl rfl) (λb q hb z=>(hs.2 b hb).trans z) he new
def Gv{H':Hp}{h':Heap}{kvs:List (c7×V)} (z:kvs.length<=sizeLine)(hd:(a==sysModules)=false)(rel:KV kvs vs)(dd:h'.DictOf (bN P w) a vs) :
  ObjOk P w H' h' a (.dK kvs):=⟨z,hd,vs,rel,dd⟩
def EV{H':Hp}{Q:Unit->Shared->Prop}(hu:A.units+1<cLine)(I:Inv X ZL σ H s)(g:DPut H a y v H')(ry:RelV y u)(rv:RelV v r)(h:∀s',Inv X ZL σ H' s'->Q Unit.unit s') :
  wpAny (model X.prog X.w) A (setItem (.ref a) u r) Q E s:=by
 rcases g with ⟨kvs,k,e,ey,l,eH⟩|⟨kvs,k,b,e,ey,eb,l,eH⟩
 ·subst ey eH;obtain⟨z,hd,vs,rel,dd⟩:=La I.hok e;have hz:vs.length<=sizeLine:=by rw[<-rel.length];exact z
  have hl:(kP kvs k v).length<=sizeLine:=by have:=ka kvs k v;lia
  refine wpAny_setItem_pairs (hsz:=hz) (rB ry) dd λh' dd' hs=>h _ ?_;have he:∃q,h'.get? a=some q:=let ⟨q,_,_,hq,_⟩:=dd';⟨q,hq⟩
  exact uK I (by rw[e];exact True.intro) hs he (Gv hl hd (rel.put k rv) dd')
 ·subst ey eH;cases (show u=Value.ref b from ry);obtain⟨z,hd,xs,rel,dd⟩:=tQ I.hok e;have hz:xs.length<=sizeLine:=by rw[<-We rel];exact z
  have hl:(kP kvs k v).length<=sizeLine:=by have:=ka kvs k v;lia
  refine wpAny_setItem_heap (hsz:=hz) (Wu hu) (sH I.hok eb) dd λh' dd' hs=>h _ ?_;obtain⟨q,es,ep,hq,h2,h3,h4,_,h5⟩:=dd';refine uK I (by rw[e];exact True.intro) hs ⟨q,hq⟩ ⟨hl,hd,_,(rel.put k eb rv).keeps λc ys ec=>?_,q,es,ep,hq,h2,h3,h4,h5⟩;rw[aL (rH ec e (λz=>nomatch z))];exact ec
end
section
variable {X:Cx}{ZL:Zf}{σ:St}{H:Hp}{s:Shared}{a:Addr}{kvs:List (c7×V)}{k:c7}{u:Value}{A:Around}{E:Ze}
def Ol{v:V}{more:Zh}{Q:Ze}(I:Inv X ZL σ H s)(e:H a=some (.dK kvs))(ry:RelV (kV k) u)(l:ie kvs k=some v)(hm:more=[]\/∃x,more=[x])
  (h:∀w' s',Inv X ZL σ (upd H a (.dK (q9 kvs k))) s'->RelV v w'->Q w' s'):wpAny (model X.prog X.w) A (call (.builtin "dict.pop") (.ref a::u::more)) Q E s:=by
 obtain⟨z,hd,vs,rel,dd⟩:=La I.hok e;obtain⟨w',hw,rw'⟩:=RelO.some_of (v:=v) (o:=valueAt vs k) (by rw[<-l];exact rel.val k);have hp:(keyPart u).isSome=true:=by
  cases k with
  |inl i=>obtain⟨t,q⟩:=(show ∃t,u=Value.int i t from ry);subst q;rfl
  |inr x=>obtain⟨t,q⟩:=(show ∃t,u=Value.str x t from ry);subst q;rfl
 have ha:argsOk "dict.pop" ⟨.ref a::u::more,[]⟩:=by
  rcases hm with q|⟨x,q⟩
  ·subst q;exact PySem.F.args_dict_pop_2 _ _
  ·subst q;exact PySem.F.args_dict_pop_3 _ _ _
 refine Yd Y2 dd.typeIs PySem.F.entry_dict_pop ha (meets_dict_pop_there (bN X.prog X.w) a (rB ry) more hm hp)
  ⟨vs,w',dd,by rw[<-rel.length];exact z,hw,λh' dd' hs=>h w' _ ?_ rw'⟩
 have he:∃q,h'.get? a=some q:=let ⟨q,_,_,hq,_⟩:=dd';⟨q,hq⟩
 exact uK I (by rw[e];exact True.intro) hs he (Gv (UD (Gx kvs k) z) hd (rel.drop k) dd')
end
def Jc(i:Expr):Prop:=∀ov iv,subscripted i false ov iv=operate [ov,iv] (getItem ov iv)
def Eg{prog:Program} {E:Ze} {env:Env}{value:Expr}{pos:Pos}{T id:String}{Q:Ze}
  (hl:typeLookup (.type T) "__getitem__"=pure (some (.builtin id))) (hs:Jc slice)
  (h:wpAny (model prog w) A (eval value env) (λo s₁=>wpAny (model prog w) A (eval slice env) (λi s₂=>s₂.TypeIs o T/\wpAny (model prog w) A (getItem o i) Q E s₂) E s₁) E s) :
  wpAny (model prog w) A (eval (.Subscript value slice pos) env) Q E s:=by
 refine XF (UO h (λo s₁ h₁=>UO h₁ (λi s₂ h₂=>?_) λ_ _ x=>x) λ_ _ x=>x);obtain⟨hT,h₂⟩:=h₂;unfold subscriptTail;refine Ut ?_;rw[getitemInPython_of_ne hT.not_modules];refine Ut (wpAny_specialOf hT hl ?_);have fin:wpAny (model prog w) A (subscripted slice false o i) (λr s₃=>wpAny (model prog w) A (letTemporaryGo value o r >>= λ_=>pure r) Q E s₃) E s₂:=by rw[hs o i];exact wpAny_operating (UO h₂ (λr s₃ h₃=>Ut (wpAny_letTemporaryGo (Uw h₃))) λ_ _ x=>x)
 first
  |exact Uw (Ut fin)
  |exact Ut (Uw (Ut fin))
  |exact Ut fin
def Av{ZL:Zf} (I:Inv X ZL σ H s)(g:yE H a y o):s.TypeIs (.ref a) "dict" := by
 rcases g with ⟨kvs,k,e,_,_⟩|⟨kvs,k,b,e,_,_,_⟩
 ·obtain⟨_,_,vs,_,dd⟩:=vJ I.hok e;exact dd.typeIs
 ·obtain⟨_,_,xs,_,dd⟩:=xU I.hok e;exact dd.typeIs
def LG(td ty:TE):TE:=λσ H Q=>td σ H λx H1=>ty σ H1 λy H2=>∃a v,x=.ref a/\yE H2 a y (some v)/\Q v H2
def Ei(ty td:TE):TE:=λσ H Q=>ty σ H λy H1=>td σ H1 λx H2=>∃a o,x=.ref a/\yE H2 a y o/\Q (.bl (!o.isSome)) H2
def LB(td ty tv:TE):TS:=λD σ H=>tv σ H λv H1=>td σ H1 λx H2=>ty σ H2 λy H3=>∃a H4,x=.ref a/\DPut H3 a y v H4/\D.nx σ H4
section
variable {X:Cx}{o i e value:Expr}{pos pos' tpos:Pos}{td ty tv:TE}
def Ka(hu:X.A.units+1<cLine)(ho:PE X o td)(hi:PE X i ty)(hs:Jc i):PE X (.Subscript o i pos) (LG td ty):=by intro ZL s σ H Q I h;refine Eg Y3.lookup hs (cr (ho ZL s σ H _ I h) λu s1 ⟨x,H1,I1,rx,q1⟩=>cr (hi ZL s1 σ H1 _ I1 q1) λiv s2 ZN=>?_);obtain⟨y,H2,I2,ry,a,v,ex,g,q2⟩:=ZN;subst ex;obtain rfl:u=Value.ref a:=rx;exact⟨Av I2 g,EU hu I2 g ry λw' s3 I3 rw'=>⟨v,H2,I3,rw',q2⟩⟩
def yg(hu:X.A.units+1<cLine)(hi:PE X i ty)(ho:PE X o td):PC X .NotIn i o (Ei ty td):=by intro ZL s σ H Q I h;refine cr (hi ZL s σ H _ I h) λiv s1 ⟨y,H1,I1,ry,q1⟩=>cr (ho ZL s1 σ H1 _ I1 q1) λu s2 ZN=>?_;obtain⟨x,H2,I2,rx,a,ov,ex,g,q2⟩:=ZN;subst ex;obtain rfl:u=Value.ref a:=rx;exact Ju hu I2 g ry λs3 I3=>⟨.bl (!ov.isSome),H2,I3,rfl,q2⟩
def Kd(hu:X.A.units+1<cLine)(ho:PE X o td)(hi:PE X i ty)(hv:PE X value tv)(hs:swapsWith value (some (.Subscript o i pos')) pos.line X.env=pure false) :
  PS X (.Assign [.Subscript o i pos'] value pos) (LB td ty tv):=by
 intro ZL s σ H D I h;refine wpAny_Assign_Subscript (cr (hv ZL s σ H _ I h) λr s1 ⟨v,H1,I1,rv,q1⟩=>cr (ho ZL s1 σ H1 _ I1 q1) λu s2 ⟨x,H2,I2,rx,q2⟩=>cr (hi ZL s2 σ H2 _ I2 q2) λiv s3 ZN=>?_) hs;obtain⟨y,H3,I3,ry,a,H4,ex,g,q3⟩:=ZN;subst ex;obtain rfl:u=Value.ref a:=rx;exact EV hu I3 g ry rv λs4 I4=>⟨σ,H4,I4,q3⟩
end
def Gu(h:Heap)(hb:sysModules<h.objs.size):ObjOk P w H (h.push { cls:=.type "dict",data:=.dict #[] }) h.objs.size (.dK []):=
 ⟨UR _,VM.2 (UB (UH hb)),[],.nil,Heap.DictOf.new h⟩
def Gy(h:Heap)(hb:sysModules<h.objs.size):ObjOk P w H (h.push { cls:=.type "dict",data:=.dict #[] }) h.objs.size (.dT []):=
 ⟨UR _,VM.2 (UB (UH hb)),[],.nil,_,#[],0,UK _ rfl,⟨rfl,rfl,rfl⟩,rfl,rfl,List.nodup_nil⟩
def Il:TE:=λ_ H Q=>∀p,H p=none->Q (.ref p) (upd H p (.dK []))
section
variable {X:Cx}{pos:Pos}
def Ho:PE X (.Dict [] [] pos) Il:=λZL s σ H Q I h=>
 wpAny_Dict_empty ⟨.ref s.heap.objs.size,_,I.laid (a:=s.heap.objs.size) (o:=.dK []) (t':=s.toks) (λ_ _ q=>Uz _ q) (Ux _) (Gu s.heap I.big),rfl,h _ (I.hok.fresh (Ux _))⟩
end
structure M1(X:Cx)(o:Expr)(m:Str)(apos:Pos)(e:Expr)(cpos:Pos):Prop where
 base:attributeBase o m X.env (eval o X.env)=eval o X.env
 few:((backTo cpos (starEach [e] X.env)).all (λx=>!x.1)&&(backToKw cpos (keywordEach [] X.env)).all (λx=>x.1.isSome)
  && decide (([e]:List Expr).length+([]:List Keyword).length+(if ([]:List Keyword).isEmpty then 0 else 1)<30))=true
 line:(apos.endLine==cpos.line)=true
 trees:backTo cpos (starEach [e] X.env)=[(false,eval e X.env)]
def PQ(H:Hp)(a:Addr):Prop:=(∃kvs,Rd H a (.dK kvs))\/∃kvs,Rd H a (.dT kvs)
def GP{ZL:Zf} (I:Inv X ZL σ H s)(d:PQ H a) :
  s.TypeIs (.ref a) "dict" /\ (∀b,Value.ref a=.ref b->∃ob,s.heap.get? b=some ob/\ob.dict=none)/\(a==sysModules)=false:=by
 rcases d with ⟨kvs,e⟩|⟨kvs,e⟩
 ·obtain⟨_,hd,vs,_,dd⟩:=vJ I.hok e;refine⟨dd.typeIs,λb q=>?_,hd⟩;cases q;obtain⟨ob,_,_,h1,h2,_⟩:=dd;exact⟨ob,h1,h2.2.1⟩
 ·obtain⟨_,hd,xs,_,dd⟩:=xU I.hok e;refine⟨dd.typeIs,λb q=>?_,hd⟩;cases q;obtain⟨ob,_,_,h1,h2,_⟩:=dd;exact⟨ob,h1,h2.2.1⟩
section
variable {X:Cx}{ZL:Zf}{σ:St}{H:Hp}{s:Shared}{a:Addr}{y d:V}{u r:Value}{o:Option V}{A:Around}{E:Ze}
def Mq{Q:Ze}(hu:A.units+1<cLine)(I:Inv X ZL σ H s)(g:yE H a y o)(ry:RelV y u)(h:∀w' s',Inv X ZL σ H s'->RelV (o.getD .non) w'->Q w' s') :
  wpAny (model X.prog X.w) A (call (.builtin "dict.get") [.ref a,u]) Q E s:=by
 rcases g with ⟨kvs,k,e,ey,l⟩|⟨kvs,k,b,e,ey,eb,l⟩
 ·subst ey;obtain⟨z,hd,vs,rel,dd⟩:=vJ I.hok e;refine Yd Ye dd.typeIs Y5 (Y6 _ _) (meets_dict_get (bN X.prog X.w) a (rB ry) hd) ⟨_,dd.mapOf,h _ _ (I.tok _) ?_⟩;rw[l];exact (rel.val k).getD rfl
 ·subst ey;cases (show u=Value.ref b from ry);obtain⟨z,hd,xs,rel,dd⟩:=xU I.hok e;refine Yd Ye dd.typeIs Y5 (Y6 _ _) (meetsH_dict_get (tupleKind (bN X.prog X.w)) a b hd) ⟨Wu hu,k,xs,sH I.hok eb,dd,h _ _ (I.tok _) ?_⟩;rw[l];exact (rel.val k).getD rfl
end
def C3(td ty:TE):TE:=λσ H Q=>td σ H λx H1=>∃a,x=.ref a/\PQ H1 a/\ty σ H1 λy H2=>∃o,yE H2 a y o/\Q (o.getD .non) H2
def C4(td ty:TE):TE:=λσ H Q=>td σ H λx H1=>∃a,x=.ref a/\PQ H1 a/\ty σ H1 λy H2=>∃kvs k v,H2 a=some (.dK kvs)/\y=kV k/\ie kvs k=some v/\Q v (upd H2 a (.dK (q9 kvs k)))
section
variable {X:Cx}{o e f:Expr}{apos cpos:Pos}{td ty tx:TE}
def Hn(hu:X.A.units+1<cLine)(ho:PE X o td)(he:PE X e ty)(m:M1 X o "get" apos e cpos):PE X (.Call (.Attribute o "get" apos) [e] [] cpos) (C3 td ty):=by intro ZL s σ H Q I h;refine Y7 m.base m.few m.line Y8 Ye PySem.F.type_dict_get (cr (ho ZL s σ H _ I h) λu s1 ZN=>?_);obtain⟨x,H1,I1,rx,a,ex,d,q1⟩:=ZN;subst ex;obtain rfl:u=Value.ref a:=rx;obtain⟨t1,t2,_⟩:=GP I1 d;refine⟨t1,t2,?_⟩;rw[m.trees];refine WQ rfl (Wm (WK (cr (he ZL s1 σ H1 _ I1 q1) λiv s2 ⟨y,H2,I2,ry,ov,g,q2⟩=>WJ ?_)));exact Mq hu I2 g ry λw' s3 I3 rw'=>⟨_,H2,I3,rw',q2⟩
def Hq(ho:PE X o td)(he:PE X e ty)(m:M1 X o "pop" apos e cpos):PE X (.Call (.Attribute o "pop" apos) [e] [] cpos) (C4 td ty):=by intro ZL s σ H Q I h;refine Y7 m.base m.few m.line Y8 Y2 PySem.F.type_dict_pop (cr (ho ZL s σ H _ I h) λu s1 ZN=>?_);obtain⟨x,H1,I1,rx,a,ex,d,q1⟩:=ZN;subst ex;obtain rfl:u=Value.ref a:=rx;obtain⟨t1,t2,_⟩:=GP I1 d;refine⟨t1,t2,?_⟩;rw[m.trees];refine WQ rfl (Wm (WK (cr (he ZL s1 σ H1 _ I1 q1) λiv s2 ⟨y,H2,I2,ry,kvs,k,v,ea,ey,l,q2⟩=>WJ ?_)));subst ey;exact Ol I2 ea ry l (.inl rfl) λw' s3 I3 rw'=>⟨v,_,I3,rw',q2⟩
end
end L2
namespace PySem
namespace DX
def za:typeLookup (.type "list") "keys"=pure none:=by rw[Yg,Yh];kernel_rfl
def Cm:typeLookup (.type "list") "__getattr__"=pure none:=by rw[Yg,Yh];kernel_rfl
def pi:isSubtype (.type "AttributeError") (.type "AttributeError")=pure true:=by rw[isSubtype_type];kernel_rfl
def Cd:((Manifest.find? "AttributeError").elim false λt=>t.mro.contains "StopIteration" || t.mro.contains "SystemExit")=false:=by first|rfl|kernel_rfl|decide +kernel
section
variable {prog:Program}{w:World}{A:Around}{E:Ze}{s:Shared}{a:Addr}{its:Array Value}{n:Nat}{α:Type}
def Ft{msg nm:Str} (hh:A.handled=none)(hm:msg.length<=sizeLine)(hq:∀h' tk' e oe,(∀b o,s.heap.get? b=some o->h'.get? b=some o)->h'.get? e=some oe->oe.cls=.type "AttributeError" -> E (.ref e) { s with heap:=h',toks:=tk' }) :
  wpAny (model prog w) A (raiseAttrError (.ref a) nm msg:Sem α) Q E s:=by
 unfold raiseAttrError;refine Ut (wpAny_mkStr (Ut ?_) hm);unfold newExc newTuple;refine Ut (U3 ?_ (by size_fits));refine Ut (m:=firstArgMember _ _) (Wr (a:=Value.none) (by simp only[firstArgMember,Cd];rfl) ?_);refine U3 ?_ (by size_fits);refine Ut (wpAny_mkText ?_);refine Ut ?_;have f1:=pi;unfold noteAttr lacksNameAndObj;have ho:=UK (s.heap.push { cls:=.type "tuple",data:=.seq [Value.str msg s.toks].toArray }) (o:={ cls:=.type "AttributeError",data:=.fields (#[.ref s.heap.objs.size,.none,.none,.none,.bool false,.none]++ownMembersOf (.type "AttributeError") [Value.str msg s.toks]) }) rfl;have hT:({ s with heap:=(s.heap.push { cls:=.type "tuple",data:=.seq [Value.str msg s.toks].toArray }).push { cls:=.type "AttributeError",data:=.fields (#[.ref s.heap.objs.size,.none,.none,.none,.bool false,.none]++ownMembersOf (.type "AttributeError") [Value.str msg s.toks]) } }:Shared).TypeIs (.ref (s.heap.push { cls:=.type "tuple",data:=.seq [Value.str msg s.toks].toArray }).objs.size) "AttributeError" := ⟨_,ho,rfl⟩
 repeat (any_goals (first|assumption|wp_step))
 unfold raiseNew;refine Ut (W5 ?_);rw[hh]
 first
  |refine VJ ?_
  |refine Ut (Uw (VJ ?_))
 have hu:=Vc (Obj.mapFields λvs=>vs.extract 0 6 ++ #[Value.str nm s.toks,.ref a]) ho (VR (Vo rfl _));refine hq _ _ _ _ (λb o hb=>?_) (Vc _ ho (VR (Vo rfl _))) (Yi _ _);rw[Vu _ _ (VD (UP (UA hb) (by simp)))];exact Uz _ (Uz _ hb)
def uB{tk:Tok} (hh:A.handled=none)(hx:s.heap.get? a=some { cls:=.type "list",data:=.seq its n }) (hq:∀h' tk' e oe,(∀b o,s.heap.get? b=some o->h'.get? b=some o)->h'.get? e=some oe->oe.cls=.type "AttributeError" -> E (.ref e) { s with heap:=h',toks:=tk' }) :
  wpAny (model prog w) A (Builtin.«object.__getattribute__» ⟨[.ref a,.str "keys" tk],[]⟩) Q E s:=by
 obtain⟨h,g,d,t,os⟩:=s;have hT:(⟨h,g,d,t,os⟩:Shared).TypeIs (.ref a) "list" := ⟨_,hx,rfl⟩
 have f4:=za
 repeat (any_goals (first|assumption|wp_step))
 all_goals (try dsimp only)
 repeat (any_goals (first|assumption|wp_step))
 exact Ft hh (by rw[UF];decide +kernel) hq
def Fa{Q:Zi->Shared->Prop}(hh:A.handled=none)(hx:s.heap.get? a=some { cls:=.type "list",data:=.seq its n }) (hq:∀h' tk',(∀b o,s.heap.get? b=some o->h'.get? b=some o)->Q none { s with heap:=h',toks:=tk' }) :
  wpAny (model prog w) A (getAttr? (.ref a) "keys") Q E s:=by
 obtain⟨h,g,d,t,os⟩:=s;have hT:(⟨h,g,d,t,os⟩:Shared).TypeIs (.ref a) "list" := ⟨_,hx,rfl⟩
 have f2:=W6.lookup;have f3:=W6.bind (.ref a);have f5:=Cm;have f6:=pi;unfold getAttr? getAttrBy? getAttrBy getAttrByItsOwn callGetattribute boundAndCalled
 repeat (any_goals (first|assumption|wp_step))
 refine X7 W6.plain F.entry_list_ga (W6.check _ _ _ _ _ _ _ _ hT (F.args_list_getattribute_2 _ _) (uB (by exact hh) hx λh' tk' e oe hk he hc=>?_));have hTe:(⟨h',g,d,tk',os⟩:Shared).TypeIs (.ref e) "AttributeError" := ⟨oe,he,hc⟩
 dsimp only;unfold getattributeRaised;refine Ut (Wv (T := "AttributeError") (b:=true) hTe f6 ?_);rw[Uv rfl];refine Ut ?_;unfold hookBehind;rw[Uu (by decide)];refine Wr f5 ?_;unfold hookOrError;dsimp only;unfold attributeErrorLeaves;simp only[Bool.not_false,Vt]
 first
  |refine VJ ?_
  |refine Ut (VJ ?_)
 refine Ut (Wv (T := "AttributeError") (b:=true) hTe f6 ?_);rw[Uv rfl];exact Uw (hq h' tk' hk)
end
def vK:entryFor table "dict.update.loop"=some Builtin.«dict.update.loop»:=entryFor_of_tree (by kernel_rfl)
def l5:plainId "dict.update.loop"=true:=by decide +kernel
end DX
end PySem
namespace L2
open PySem PySem.Spec PyProof.Rows
section
variable {X:Cx}{ZL:Zf}{σ:St}{H:Hp}{s:Shared}{a b:Addr}{kvs:List (List c7×V)}{k:List c7}{v:V}{r:Value}{A:Around}{E:Ze}
def Jv{Q:Unit->Shared->Prop}(hu:(tupleKind (bN X.prog X.w)).room A)(I:Inv X ZL σ H s)(e:H a=some (.dT kvs))(eb:H b=some (.tup (k.map kV)))(l:kvs.length<sizeLine)(rv:RelV v r)
  (h:∀s',Inv X ZL σ (upd H a (.dT (kP kvs k v))) s'->Q Unit.unit s'):wpAny (model X.prog X.w) A (dictSet a (.ref b) r) Q E s:=by
 obtain⟨z,hd,xs,rel,dd⟩:=tQ I.hok e;have hz:xs.length<=sizeLine:=by rw[<-We rel];exact z
 have hl:(kP kvs k v).length<=sizeLine:=by have:=ka kvs k v;lia
 refine wpAny_dictSet_heap (hsz:=hz) hu (sH I.hok eb) dd λh' dd' hs=>h _ ?_;obtain⟨q,es,ep,hq,h2,h3,h4,_,h5⟩:=dd';refine uK I (by rw[e];exact True.intro) hs ⟨q,hq⟩ ⟨hl,hd,_,(rel.put k eb rv).keeps λc ys ec=>?_,q,es,ep,hq,h2,h3,h4,h5⟩;rw[aL (rH ec e (λz=>nomatch z))];exact ec
end
def CJ(kvs:List (List c7×V))(es:List (List c7×V)):List (List c7×V):=es.foldl (λacc kv=>kP acc kv.1 kv.2) kvs
section
variable {X:Cx}{ZL:Zf}{σ:St}{A:Around}{a l it:Addr}{xs:Za}
theorem BH{R:Result->Shared->Prop}(hu:(tupleKind (bN X.prog X.w)).room A.in1)(hh:A.in1.handled=none):∀(es:List (Addr×Addr×List c7×V)) (i:Nat) (kvs:List (List c7×V)) (H:Hp) (s:Shared),Inv X ZL σ H s->H a=some (.dT kvs) ->
  mL X ZL H it->s.heap.IsListIter it l i->H l=some (.lst xs)->xs.drop i=es.map (λe=>V.ref e.1)->(∀e∈es,H e.1=some (.tup [.ref e.2.1,e.2.2.2])/\H e.2.1=some (.tup (e.2.2.1.map kV)))->kvs.length+es.length<sizeLine ->
  (∀s',Inv X ZL σ (upd H a (.dT (CJ kvs (es.map λe=>(e.2.2.1,e.2.2.2))))) s'->R (.ok (.ret .none)) s') ->
  codeAny (model X.prog X.w) A (.builtin "dict.update.loop" ⟨[.ref a,.ref it,rawInt i,.none],[]⟩) R s
 |[],i,kvs,H,s,I,ea,fo,hit,el,hd,_,_,hR=>by
  obtain⟨its,rl,pl,_⟩:=I.list (.inl (.inl el));have hx:its.toArray[i]?=none:=by
   have h1:xs.length<=i:=by have:=U5 List.length hd;rw[WP] at this;simpa[Nat.sub_eq_zero_iff_le] using this
   have:=rl.length;simp;lia
  refine V4 DX.vK ?_;rw[W7 DX.l5 _];show wpAny _ A.in1 (pyNext (.ref it) >>= _) _ _ s;refine Ut (YC hh hit pl.isList hx λh' he=>?_);show wpAny _ A.in1 (Builtin.Dict.addKeywords a [] >>= _) _ _ _;refine Ut (Uw (Uw (hR _ ?_)));have e0:upd H a (.dT (CJ kvs (([]:List (Addr×Addr×List c7×V)).map λe=>(e.2.2.1,e.2.2.2))))=H:=by
   funext c
   unfold upd;split
   ·rename_i z;rw[z,ea];rfl
   ·rfl
  rw[e0];exact I.turned (t':=s.toks) (it:=it) (λb o hb e=>he b o hb e) fo.1 fo.2.1 fo.2.2.2.1 fo.2.2.2.2.1 fo.2.2.2.2.2
 |e::es,i,kvs,H,s,I,ea,fo,hit,el,hd,he,hl,hR=>by
  obtain⟨its,rl,pl,_⟩:=I.list (.inl (.inl el));obtain⟨e1,e2⟩:=he e UL;have hxi:xs[i]?=some (V.ref e.1):=by have:=U5 (λl:Za=>l[0]?) hd;simpa[List.getElem?_drop] using this
  obtain⟨u,hui,ru⟩:=rl.get hxi;cases (show u=Value.ref e.1 from ru);refine V4 DX.vK ?_;rw[W7 DX.l5 _];show wpAny _ A.in1 (pyNext (.ref it) >>= _) _ _ s;refine Ut (YB hit pl.isList (x:=.ref e.1) (by simpa using hui) λh' hit' hs=>?_);have I1:Inv X ZL σ H { s with heap:=h' }:=I.turned (t':=s.toks) (it:=it) (λb o hb e=>hs.extBut b o hb e) fo.1 fo.2.1 fo.2.2.2.1 fo.2.2.2.2.1 fo.2.2.2.2.2;have P1:=I1.pinned (fp:=[it]) (λb hb=>by rw[UV.1 hb];exact fo) (λb hb=>by
   rw[UV.1 hb];obtain⟨o,ho,_,hd⟩:=hit'
   exact⟨o,ho,λv z=>by rw[hd] at z;cases z⟩)
  obtain⟨its2,rl2,pl2,_⟩:=I1.tuple (.inl (.inl e1));obtain⟨u1,u2,e3,r1,r2⟩:=Vals.two rl2;subst e3;cases (show u1=Value.ref e.2.1 from r1);have body:wpAny (model X.prog X.w) A.in1 (dictSet a (.ref e.2.1) u2) (λ_ s'=>Inv X (ZL++p9 [it] h') σ (upd H a (.dT (kP kvs e.2.2.1 e.2.2.2))) s') (λe s'=>R (.error e) s') { s with heap:=h' }:=
   Jv hu P1 ea e2 (by rw[UI] at hl;lia) r2 λs' I'=>I'
  refine Ut (UY (Ut ?_));refine wpAny_tryCatch (m:=Builtin.Dict.pairItems (.ref e.1)) ?_;obtain⟨ot,hot,hct,nt,hdt⟩:=pl2;unfold Builtin.Dict.pairItems;refine Ut (VO (T := "tuple") ⟨ot,hot,hct⟩ ?_);rw[Uv (by decide)];refine Ut (VL hot hdt (Uw ?_));show wpAny _ A.in1 (holding [.ref e.2.1,u2] (dictSet a (.ref e.2.1) u2)) _ _ _;refine UY (UO body (λ_ s' I'=>?_) λ_ _ z=>z);have na:it≠a:=λz=>by have f0:=fo.1;rw[z,ea] at f0;cases f0
  have nl:l≠a:=rH el ea (λz=>nomatch z);refine Uw ⟨Ws DX.l5 _,?_⟩;show codeAny (model X.prog X.w) A (.builtin "dict.update.loop" ⟨[.ref a,.ref it,rawInt ((i+1:Nat):Int),.none],[]⟩) R s';have tn:∀c ys,H c=some (.tup ys)->upd H a (.dT (kP kvs e.2.2.1 e.2.2.2)) c=some (.tup ys):=λc ys z=>by rw[aL (rH z ea (λz=>nomatch z))];exact z
  refine BH hu hh es (i+1) (kP kvs e.2.2.1 e.2.2.2) _ s' I'.unpinned aG ⟨by rw[aL na];exact fo.1,fo.2⟩ ?_ (by rw[aL nl];exact el) ?_ (λe' h'=>?_) ?_ λs2 I2=>hR s2 ?_
  ·obtain⟨o,ho,hc2,hd2⟩:=hit';exact⟨o,(I'.pin (it,o) (UE _ (UE _ (gg (UV.2 rfl) ho)))).1,hc2,hd2⟩
  ·have:=U5 List.tail hd;rw[List.tail_drop] at this;exact this
  ·obtain⟨z1,z2⟩:=he e' (UJ _ h');exact⟨tn _ _ z1,tn _ _ z2⟩
  ·have:=ka kvs e.2.2.1 e.2.2.2;rw[UI] at hl;lia
  ·rw[zM] at I2;exact I2
end
def Px{A:Around}(h:A.units+64<cLine):A.units+1<cLine:=Vd (Nat.add_le_add_left (by decide) _) h
end L2
namespace M
open PySem L2
section
variable {K:Zj}{S S' H H':Hp}
def OA:D->Option (Zn)
 |.tup l=>e9 l
 |_=>none
def L9(ks:Zm)(q:Zn):Zm:=if ks.contains q then ks else ks++[q]
@[simp]def SZ(k:XE):Env->Option O:=λρ=>(k ρ).bind λd=>(OA d).map λq=>.dic [q]
@[simp]def SY:Env->Option O:=λ_=>some (.dic [])
def K9(ρ:Env)(i:Nat):Option (Zm):=match ρ[i]? with
 |some (.ow (.dic ks))=>some ks
 |some (.sh (.dic ks))=>some ks
 |some (.sh (.dif ks))=>some ks
 |some (.ow (.hd _ ks []))=>some ks
 |_=>none
@[simp]def Ul(neg:Bool)(k:XE)(i:Nat):XE:=λρ=>(k ρ).bind λd=>(OA d).bind λq=>(K9 ρ i).map λks=>.bl (if neg then !(ks.contains q) else ks.contains q)
@[simp]def Tj(i:Nat)(k:XE):XS:=λρ=>match ρ[i]? with
 |some (.ow (.dic ks))=>(k ρ).bind λd=>(OA d).bind λq=>if ks.length<gA then some (.nx (ρ.set i (.ow (.dic (L9 ks q))))) else none
 |_=>none
def CF:Zc->Option (Zm)
 |[]=>some []
 |.tup [d,.bl true]::l=>(OA d).bind λq=>(CF l).map λqs=>q::qs
 |_=>none
@[simp]def Tw(i:Nat)(e:XA):XS:=λρ=>match ρ[i]? with
 |some (.ow (.dic ks))=>(e ρ).bind λl=>(CF l).bind λqs=>if ks.length+l.length<gA then some (.nx (ρ.set i (.ow (.dic (qs.foldl L9 ks))))) else none
 |_=>none
def Kw(h:SE K t e):ST K (tB t) (xB e):=λρ σ S H Q b r x c=>by
 obtain⟨d,q,x⟩:=ZM x;cases d<;>try (cases x;done)
 cases x;refine h ρ σ S H _ _ r q λv S1 H1 z1 d1=>?_;exact⟨_,Zu.1 d1,c S1 H1 z1⟩
end
section
variable {K:Zj}{S H:Hp}
def Nx(a c:Int)(n:Nat):Zc:=(List.range n).map λi:Nat=>D.int (a+(i:Int)*c)
def Pf:Zc->Option (Zc)
 |[.int a,.int j,.int c]=>Ch (c≠0/\(-1000000<c/\c<1000000)/\Builtin.Range.small a j c=true) (some (Nx a c (Builtin.Range.rangeSize a j c).toNat)) none
 |_=>none
@[simp]def Tu(a:XA):XA:=λρ=>(a ρ).bind Pf
end
section
variable {K:Zj}
def OB:D->Option (Zc)
 |.int j=>Ch (0<=j/\j<1000000) (some ((List.range j.toNat).map λi:Nat=>D.int (i:Int))) none
 |_=>none
@[simp]def RI(a:XE):XA:=λρ=>(a ρ).bind OB
end
section
variable {K:Zj}{S S' H H':Hp}
def L5(K:Zj)(J:It)(S H:Hp)(l:Zc):Prop:=∀S' H',Ext S H S' H' ->
 (∀i d,l[i]?=some d->J.go i H'/\∀x H'',J.yld i H' x H''->∃S'',Ext S' H' S'' H''/\Den K S'' d x)/\J.stop l.length H'
def QE(K:Zj)(wi:TI)(e:XA):Prop:=∀ρ σ S H (R:It->Hp->Prop) l,Rl K ρ σ S H->e ρ=some l->(∀J S' H',Ext S H S' H'->L5 K J S' H' l->R J H')->wi σ H R
def Sd(k:Nat):Zc->Zc
 |[]=>[]
 |d::l=>.tup [.int (k:Int),d]::Sd (k+1) l
@[simp]def Uk(a:XE):XA:=λρ=>(a ρ).bind λd=>match d with|.lst l=>some (Sd 0 l)|_=>none
def zD{js:List (Option Nat)}{wi:TI} {tt:FW}{te:TE} (hi:QE K wi w)(hg:SG K g x)(hc:ST K tt c)(he:SE K te e):SF K (sg js wi g tt te) (fK js w x c e):=λρ σ S H Q l r y k=>by
 unfold fK at y;cases q:w ρ with
 |none=>rw[q] at y;cases y
 |some ds=>
  rw[q] at y;dsimp only[Option.bind] at y;split at y
  ·rename_i hlim;refine hi ρ σ S H _ ds r q λJ S1 H1 z1 wk D hD=>?_;have r1:=r.ext z1;have hD0:H D=none:=(z1.same r.sub).free hD;refine⟨λi n H'=>n=ds.length-i/\i<=ds.length/\∃S' done ys fA,Ext S1 H1 S' H'/\Same S1 S'/\H' D=some (.lst ys)/\S' D=none/\Dens K S' done ys/\done.length<=i/\qY x c e (rp js ρ) (ds.drop i)=some fA/\l=done++fA,
    ⟨_,rfl,UR _,S1,[],[],l,Ext.own z1.sub hD,Same.refl _,aG,z1.sub.free hD,.nil,UR _,y,rfl⟩,?_⟩
   rintro i n H2 ⟨rfl,hil,S2,done,ys,fA,z2,s2,hy,hSD,dy,hdl,y2,rfl⟩;obtain⟨w1,w2⟩:=wk S2 H2 z2;cases qd:ds[i]? with
   |none=>
    have:ds.length=i:=by have:=VG.1 qd;lia
    subst this;rw[VH (Ux _)] at y2;cases y2;rw[Vb] at k;exact .inl ⟨w2,k D ys S2 H2 (z1.trans z2) hD0 hSD hy dy⟩
   |some d=>
    obtain⟨g1,g2⟩:=w1 i d qd;have hlt:=(UX.1 qd).1;rw[iz qd] at y2;unfold qY at y2;cases qx:x d (rp js ρ) with
    |none=>rw[qx] at y2;cases y2
    |some ρ3=>
     rw[qx] at y2;dsimp only[Option.bind] at y2;refine .inr ⟨g1,λxv H3 hyl=>?_⟩;obtain⟨S3,z3,dx⟩:=g2 xv H3 hyl;obtain⟨hy3,hSD3⟩:=z3.al D _ hy hSD;have dy3:=dy.mono z3.sh;have z23:=z2.trans z3;have s23:=s2.trans z3.sh;have ri:=zA (r1.ext z23) js;refine hg _ _ _ _ S3 H3 xv d _ ρ3 ri dx qx λσ3 r3=>?_;cases qc:c ρ3 with
     |none=>rw[qc] at y2;cases y2
     |some b=>
      rw[qc] at y2;dsimp only at y2;refine hc ρ3 σ3 S3 H3 _ b r3.toRl qc λS4 H4 z4=>?_;obtain⟨al1,al2⟩:=z4.al D _ hy3 hSD3;cases b with
      |false=>
       rw[Uu (by decide)] at y2;exact rA ⟨_,(),rfl,hlt,S4,done,ys,fA,z23.trans z4,s23.trans z4.sh,al1,al2,dy3.mono z4.sh,(),y2,rfl⟩
      |true=>
       rw[Uv rfl] at y2;cases qe:e ρ3 with
       |none=>rw[qe] at y2;cases y2
       |some dv=>
        rw[qe] at y2;dsimp only at y2;cases qr:qY x c e (rp js ρ) (ds.drop (i+1)) with
        |none=>rw[qr] at y2;cases y2
        |some rest2=>
         rw[qr] at y2;cases y2;refine oP (he ρ3 σ3 S4 H4 _ dv (r3.toRl.ext z4) qe λv S5 H5 z5 d5=>?_);obtain⟨b1,b2⟩:=z5.al D _ al1 al2;refine⟨ys,b1,?_,_,(),rfl,hlt,S5,done++[dv],ys++[v],rest2,?_,(s23.trans z4.sh).trans z5.sh,aG,b2,((dy3.mono z4.sh).mono z5.sh).append (.cons d5 .nil),by rw[U2,VP];lia,qr,by rw[VF];rfl⟩
         ·rw[<-dy.length];exact UP (Vd hdl hlt) (UD hlim (U1 gJ))
         ·have z6:=(z23.trans z4).trans z5;exact⟨z6.sh,λb u hb=>by rw[aL λz=>by subst z;rw[b2] at hb;cases hb];exact z6.sub b u hb,λb o hb hn=>by
           obtain⟨c1,c2⟩:=z6.alw b o hb hn
           exact⟨by rw[aL λz=>by subst z;rw[hD] at hb;cases hb];exact c1,c2⟩⟩
  ·cases y
end
end M
namespace L2
open PySem PySem.Spec PyProof.Rows M
def QO(d:D)(l:Zc):Option Nat:=l.findIdx? λe=>uM e d
def D4(K:Zj):V->Za->Hp->VK->Prop:=λx vs H Q=>∃S d l j y,vs=[y]/\Same S H/\DenP K S H d y/\DenP K S H (.lst l) x/\fM 30 d=true/\fM 30 (.lst l)=true/\l.length<=1000000/\QO d l=some j/\Q (.int (j:Nat)) H
section
variable {X:Cx}
theorem A8:∀l:Zc,(pyDs l).length=l.length
 |[]=>rfl
 |_::l=>by rw[pyDs,UI,UI,A8 l]
theorem D1:∀(l:Zc) (i:Nat) (e:D),l[i]?=some e->(pyDs l)[i]?=some (kR e)
 |[],_,_,h=>by simp at h
 |a::l,0,e,h=>by
  cases h;rw[pyDs];rfl
 |a::l,i+1,e,h=>by rw[pyDs,Wa];exact D1 l i e h
theorem DR:∀ {n:Nat} {l:Zc} {i:Nat} {e:D},okDs n l=true->l[i]?=some e->fM n e=true
 |_,[],_,_,_,h=>by simp at h
 |n,a::l,0,e,k,h=>by
  cases h;rw[okDs,UZ] at k;exact k.1
 |n,a::l,i+1,e,k,h=>by rw[okDs,UZ] at k;exact DR k.2 h
def Fh(hu:X.A.units+64<cLine):Jb X "list.index" (D4 X.K):=by
 intro ZL s σ H x vs v us Q I rx rv h;obtain⟨S,d,l,j,y,rfl,sm,dy,dx,cd,ce,hle,hj,q⟩:=h;obtain⟨u,rfl,ru⟩:=rv.one;obtain⟨as,ra⟩:=jm I 30 cd (pL sm dy) ru;obtain⟨bs,rb⟩:=jm I 30 ce (pL sm dx) rx;obtain⟨a1,a2⟩:=p7 30 d cd;obtain⟨b1,b2⟩:=p7 30 (.lst l) ce;have hxs:PyData.canLayAll0 (pyDs l)=true:=by simpa[kR,PyData.canLay0] using b1
 have hm:=Nat.min_le_right (PyData.depthAll (pyDs l)) (kR d).depth;have ok29:okDs 29 l=true:=by simpa[fM] using ce
 obtain⟨hj1,hj2,hj3⟩:=List.findIdx?_eq_some_iff_getElem.1 hj;have rb':Reads s.heap v (.list (pyDs l)) bs:=by simpa[kR] using rb
 cases rb' with
 |list h1 h2 h3 h4=>
  rename_i a o vs n as';have he:=SeqAt.items_eqAt (A:=X.A) h4 ra hxs a1 ();have hmap:=SeqAt.readsAll_map (pyDs l) _ _ hxs h4;have ZO:vs.size=l.length:=by have:=U5 List.length hmap;rw[UN,A8] at this;simpa using this
  have val:∀m (hm:m<vs.size),PyData.eqv (SeqAt.readOf s.heap vs[m]) (kR d)=uM (l[m]'()) d:=λm hm=>by
   have e1:(vs.toList.map (SeqAt.readOf s.heap))[m]?=some (kR (l[m]'())):=by rw[hmap];exact D1 l m _ (V0 ())
   rw[U9] at e1;have e2:vs.toList[m]?=some vs[m]:=by simp[hm]
   rw[e2] at e1;have e3:SeqAt.readOf s.heap vs[m]=kR (l[m]'()):=by simpa using e1
   rw[e3];exact yU 29 30 _ d (DR ok29 (V0 ())) cd
  obtain⟨oc,od,odt,osl⟩:=o;simp only at h2 h3;subst h2 h3
  refine Vn Y9 ⟨_,h1,rfl⟩ PySem.F.entry_list_index (PySem.F.args_list_index_2 _ _)
   (SeqAt.list_indexAt a vs n od osl u (λy=>PyData.eqv (SeqAt.readOf s.heap y) (kR d)) j () () ?_ ?_) ⟨h1,he,⟨.int (j:Nat),H,I.tok _,⟨_,rfl⟩,q⟩⟩
  ·show PyData.eqv (SeqAt.readOf s.heap vs[j]) (kR d)=true;rw[val j ()];exact hj2
  ·intro m hm hlt;show PyData.eqv (SeqAt.readOf s.heap vs[m]) (kR d)=false;rw[val m hm];have:=hj3 m hlt;simpa using this
end
end L2
namespace M
open PySem L2
section
variable {K:Zj}
def yR(e d:D):Zd:=match e with
 |.lst l=>if fM 30 d=true/\fM 30 (.lst l)=true/\l.length<=gA then (QO d l).map λj=>.int (j:Nat) else none
 |_=>none
def Gs{S' H':Hp} (s:Same S H)(z:Ext S H S' H')(h:DenP K S H d v):DenP K S' H' d v:=by
 rcases h with h|⟨l,p,xs,e,e1,e2,e3⟩
 ·exact .inl (h.mono z.sh)
 ·exact .inr ⟨l,p,xs,e,e1,z.same s _ _ e2,e3.mono z.sh⟩
def HN{ta tb:TE} (ha:SPk K ta a)(hb:SPk K tb b):SE K (Eh K "list" (D4 K) ta (cj tb eV)) (aO yR a b):=λρ σ S H Q g r x k=>by
 unfold aO at x;cases qa:a ρ with
 |none=>rw[qa] at x;cases x
 |some da=>
  rw[qa] at x;dsimp only[Option.bind] at x;cases qb:b ρ with
  |none=>rw[qb] at x;cases x
  |some db=>
   rw[qb] at x;dsimp only at x;cases da<;>try (cases x;done)
   rename_i l;unfold yR at x;dsimp only at x;split at x<;>try (cases x;done)
   rename_i hc;cases qj:QO db l with
   |none=>rw[qj] at x;cases x
   |some j=>rw[qj] at x;cases x;refine ha ρ σ S H _ _ r qa λv S1 H1 z1 d1=>?_;obtain⟨p,xs,rfl,h1,h2⟩:=d1.lst z1.sub;refine⟨.inl ⟨rfl,xs,.inl h1⟩,?_⟩;refine hb ρ σ S1 H1 _ _ (r.ext z1) qb λw S2 H2 z2 d2=>?_;exact⟨S2,db,l,j,w,rfl,z2.sub,d2,Gs z1.sub z2 d1,hc.1,hc.2.1,UD hc.2.2 (by rw[gI];exact Ux _),qj,k _ S2 H2 (z1.trans z2) (Zt.2 rfl)⟩
end
section
variable {K:Zj}{S S' H H':Hp}
@[simp]def Up(i:Nat)(p:XP):XA:=λρ=>match ρ[i]? with
 |some (.ow o)=>(p ρ).bind λis=>match fV o is with|some (.lst l)=>oQ l|_=>none
 |_=>none
end
end M
namespace L2
open PySem PySem.Spec PyProof.Rows
def Mj:bootBuiltins "any"=some (.builtin "any"):=by decide +kernel
def OY(K:Zj):Za->Hp->VK->Prop:=λxs H Q=>∃p,∃bs:List Bool,xs=[.ref p]/\SqL K H p (bs.map V.bl)/\Q (.bl (bs.any id)) H
section
variable {X:Cx}
def EF(bs:List Bool):(List.range bs.length).any (λi=>bs.getD i true)=bs.any id:=by
 rw[Bool.eq_iff_iff,List.any_eq_true,List.any_eq_true];constructor
 ·rintro⟨i,hi,h⟩;have hi:=VU.1 hi;exact⟨bs[i],XX hi,by simpa[hi] using h⟩
 ·rintro⟨b,hb,h⟩;obtain⟨i,hi,rfl⟩:=X0 hb;exact⟨i,VU.2 hi,by simpa[hi] using h⟩
def EL(hc:X.calm=true):CallR X (.builtin "any") (OY X.K):=by
 intro ZL s σ H xs us Q I r h;obtain⟨p,bs,rfl,hS,q⟩:=h;obtain⟨u,rfl,ru⟩:=r.one;cases ru;obtain⟨its,rv,pl,hz⟩:=I.list hS;have hl:=pl.isList;have ZO:bs.length=its.length:=by have:=rv.length;simpa using this
 refine call_any_walk (Wq hl ?_);have hne:p≠s.heap.objs.size:=UH pl.lt;refine⟨_,_,_,_,_,_,λi=>bs.getD i true,rfl,Walks.list (A:=X.A.in1) (I.ok.hd hc) _ p hne its.toArray,⟨⟨_,UK _ rfl,rfl,rfl⟩,hl.push _⟩,?_,?_⟩
 ·intro i v s' Q' E' hv hQ;have hv:its[i]?=some v:=by simpa using hv
  have hi:i<bs.length:=by rw[ZO];exact (UX.1 hv).1
  obtain⟨u,hu,ru⟩:=rv.get (i:=i) (x:=.bl (bs[i])) (by simp[hi]);rw[hu] at hv;cases hv;cases ru;have e:bs.getD i true=bs[i]:=by simp[hi]
  dsimp only at hQ;rw[e] at hQ;exact VN hQ
 ·intro h' tk hk;rw[UM,<-ZO,EF];exact⟨.bl _,H,I.kept (old_kept hk),rfl,q⟩
end
end L2
namespace M
open PySem L2
section
variable {K:Zj}
def Mc:Zb
 |[.lst l]=>(j6 l).map λbs=>.bl (bs.any id)
 |_=>none
def Od:FV K (OY K) Mc:=λS H vs ds g Q s h x k=>by
 unfold Mc at x;split at x
 ·rename_i l;obtain⟨v,rfl,d1⟩:=gh h;cases q:j6 l with
  |none=>rw[q] at x;cases x
  |some bs=>rw[q] at x;cases x;obtain⟨p,xs,rfl,h1,h2⟩:=d1.lst s;have e:=pJ q;subst e;have e:=vI h2;subst e;exact⟨p,bs,rfl,.inl h1,k _ S H (Ext.refl s) (Zu.2 rfl)⟩
 ·cases x
@[simp]def II(f g:D->D->Zd)(a b c:XE):XE:=λρ=>(a ρ).bind λx=>(b ρ).bind λy=>(f x y).bind λz=>match z with
 |.bl true=>(c ρ).bind λw=>g y w
 |.bl false=>some (.bl false)
 |_=>none
def Kv{ta tb tc:TE} (hr:w6 K r f)(hr':w6 K r' g)(ha:SPk K ta a)(hb:SPk K tb b)(hc:SPk K tc c):SE K (Ik r r' ta tb tc) (II f g a b c):=λρ σ S H Q d rl x k=>by
 obtain⟨da,qa,x⟩:=ZM x;obtain⟨db,qb,x⟩:=ZM x;obtain⟨z,qf,x⟩:=ZM x;refine ha ρ σ S H _ da rl qa λv S1 H1 z1 d1=>?_;have r1:=rl.ext z1;refine hb ρ σ S1 H1 _ db r1 qb λw S2 H2 z2 d2=>?_;have r2:=r1.ext z2;refine hr S2 H2 v w da db z _ z2.sub (d1.mono z2 r1.sub) d2 qf λu S3 H3 z3 d3=>?_;have r3:=r2.ext z3;cases z<;>try (cases x;done)
 rename_i t;refine⟨t,Zu.1 d3,?_⟩;cases t with
 |false=>
  cases x;exact rA (k _ S3 H3 ((z1.trans z2).trans z3) (Zu.2 rfl))
 |true=>dsimp only at x;obtain⟨dc,qc,x⟩:=ZM x;refine oP (hc ρ σ S3 H3 _ dc r3 qc λy S4 H4 z4 d4=>?_);exact hr' S4 H4 w y db dc d Q z4.sub ((d2.mono z3 r2.sub).mono z4 r3.sub) d4 x λu' S5 H5 z5 d5=>k u' S5 H5 ((((z1.trans z2).trans z3).trans z4).trans z5) d5
@[simp]def Td(i:Nat):XE:=λρ=>(K9 ρ i).map λks=>.int (ks.length:Nat)
end
end M
namespace DY
open PySem
section
variable {prog:Program}{w:World}{K:Type}[DecidableEq K]{knd:HeapKind prog w K}{A:Around}{E:Ze}{s:Shared}
def DAt(s:Heap)(d:Addr)(es:Array DictEntry)(ep:Nat):Prop:=∃o,s.get? d=some o/\o.ExactDict/\o.data=.dict es ep
def E5{d:Addr}{es:Array DictEntry}{ep:Nat}{Q:Ze}(hd:(d==sysModules)=false)(hm:DAt s.heap d es ep)
  (hQ:Q (.ref s.heap.objs.size) { s with heap:=s.heap.push { cls:=.type "dict_keyiterator",data:=.fields #[.ref d,.int 0 0,.int es.size 0,.int ep 0] } }):wpAny (model prog w) A (pyIter (.ref d)) Q E s:=by
 obtain⟨o,ho,hc,hdat⟩:=hm;have hT:s.TypeIs (.ref d) "dict" := ⟨o,ho,hc.1⟩
 refine wpAny_pyIter_slot hT F.slot_dict_iter (Vl F.slot_dict_iter hT F.entry_dict_iter ?_ (F.args_dict_iter_1 _));unfold Builtin.«dict.__iter__»;refine Ut ?_;unfold Builtin.Dict.dictSlotNone;refine Ut (aaa hT ?_);show wpAny _ _ (pure (Value.ref d)) _ _ s;refine Uw ?_;show wpAny _ _ (Builtin.Dict.showsAll d >>= _) _ _ s;unfold Builtin.Dict.showsAll;rw[Uu (by rw[hd];exact U4)];refine Ut (Uw (Ut (Yj ho hdat (Ut (Yk ho hdat (Ut (U3 (Uw ⟨_,rfl, "dict_keyiterator",_,⟨_,UK _ rfl,rfl⟩,Ww.lookup,?_⟩))))))));simpa[rawInt] using hQ
def G6{it d:Addr}{i ep:Nat}{es:Array DictEntry}{Q:Zi->Shared->Prop}(hit:s.heap.IsKeyIter it d i es.size ep)(hm:DAt s.heap d es ep)(hlt:i<es.size)
  (hQ:∀h',h'.IsKeyIter it d (i+1) es.size ep->Heap.SameBut it s.heap h'->Q (some es[i].key) { s with heap:=h' }):wpAny (model prog w) A (pyNext (.ref it)) Q E s:=by
 obtain⟨o,ho,hc,hd⟩:=id hit;obtain⟨od,hod,hcd,hdd⟩:=hm;unfold pyNext;refine Ut (V5 (VE (name:=Str.ofString "__next__") hit.typeIs Ww (Vl Ww hit.typeIs aab ?_ (aac _))));refine Ut (Uw (Ut (Ut ?_)));first|refine Ut (W8 hit.typeIs (Uw (Ut (W9 ho hd ?_))))|refine Ut (Xa hit.typeIs (Uw (Ut (W9 ho hd ?_))))
 simp only[show Builtin.Dict_items.ownsTuple "dict_keyiterator"=false from by decide,WV,VB];show wpAny _ _ (if (Value.ref d==Value.none)=true then _ else _) _ _ s;rw[Uu (show ¬((Value.ref d==Value.none)=true) from U4)];refine Ut (Uw (Ut (Yj hod hdd ?_)));rw[Uu (by simp)];refine Ut (Uw (Ut (Yk hod hdd ?_)));rw[Uu (by simp)];refine Uw ?_;simp only[show ¬((i:Int)<0) from (),VB,Wp,aad hlt];refine Ut ?_;first|refine Ut (W8 hit.typeIs (Uw (Ut (Yl hit.typeIs ?_))))|refine Ut (Xa hit.typeIs (Uw (Ut (Yl hit.typeIs ?_))))
 show wpAny _ _ (setField (.ref it) 1 (rawInt ((i:Int)+1)) >>= _) _ _ s;refine Ut (VS ho hd (by simp) ?_);have hit':(s.heap.update it (Obj.mapFields (·.setIfInBounds 1 (rawInt ((i:Int)+1))))).IsKeyIter it d (i+1) es.size ep:=⟨_,Vc _ ho (VR (Vo hd _)),(Yi ..).trans hc,by rw[Vo hd];simp[rawInt]⟩
 refine Ut (UY (Ut (Yl (s:={ s with heap:=s.heap.update it (Obj.mapFields (·.setIfInBounds 1 (rawInt ((i:Int)+1)))) }) hit'.typeIs ?_)));show wpAny _ _ (pure es[i].key) _ _ _;exact Uw (Uw ⟨_,rfl,Uw (hQ _ hit' (Xb ..))⟩)
def G5{it:Addr}{i ep:Nat}{es:Array DictEntry}{Q:Zi->Shared->Prop}(hh:A.handled=none)(hit:s.heap.IsKeyIter it d i es.size ep)(hm:DAt s.heap d es ep)(hge:es.size<=i)
  (hQ:∀h',Heap.ExtBut it s.heap h'->Q none { s with heap:=h' }):wpAny (model prog w) A (pyNext (.ref it)) Q E s:=by
 obtain⟨o,ho,hc,hd⟩:=id hit;obtain⟨od,hod,hcd,hdd⟩:=hm;unfold pyNext;refine Ut (V5 (VE (name:=Str.ofString "__next__") hit.typeIs Ww (Vl Ww hit.typeIs aab ?_ (aac _))));refine Ut (Uw (Ut (Ut ?_)));first|refine Ut (W8 hit.typeIs (Uw (Ut (W9 ho hd ?_))))|refine Ut (Xa hit.typeIs (Uw (Ut (W9 ho hd ?_))))
 simp only[show Builtin.Dict_items.ownsTuple "dict_keyiterator"=false from by decide,WV,VB];show wpAny _ _ (if (Value.ref d==Value.none)=true then _ else _) _ _ s;rw[Uu (show ¬((Value.ref d==Value.none)=true) from U4)];refine Ut (Uw (Ut (Yj hod hdd ?_)));rw[Uu (by simp)];refine Ut (Uw (Ut (Yk hod hdd ?_)));rw[Uu (by simp)];refine Uw ?_;simp only[show ¬((i:Int)<0) from (),VB,Wp,aae hge];refine Ut ?_;first|refine Ut (W8 hit.typeIs (Uw ?_))|refine Ut (Xa hit.typeIs (Uw ?_)) ; skip
 show wpAny _ _ (setField (.ref it) 0 .none >>= _) _ _ s;refine Ut (VS ho hd (by simp) ?_);show wpAny _ _ (newExc (.type "StopIteration") [] >>= _) _ _ _;refine Ut ?_;simp only[newExc,newTuple];refine Ut (U3 ?_ (by size_fits));refine Ut (m:=firstArgMember _ _) (Wr (a:=Value.none) (by first|rfl|(simp only[firstArgMember];rfl)) (U3 ?_ (by size_fits)));simp only[raiseNew];refine Ut (W5 ?_);rw[show A.in1.handled=none from hh];refine Ut (Uw (VJ ?_));refine Ut (Wv (T := "StopIteration") (b:=true) ⟨_,UK _ rfl,rfl⟩ isSubtype_stop ?_);exact Uw (hQ _ (((Xb ..).extBut.push _).push _))
end
end DY
namespace L2
open PySem PySem.Spec PyProof.Rows
def Lk:Za->Hp->VK->Prop:=λvs H Q=>∃l,∃es:List (Addr×Addr×List c7×V),vs=[.ref l]/\H l=some (.lst (es.map λe=>.ref e.1))/\(∀e∈es,H e.1=some (.tup [.ref e.2.1,e.2.2.2])/\H e.2.1=some (.tup (e.2.2.1.map kV))) /\
 es.length<sizeLine/\∀p,H p=none->Q (.ref p) (upd H p (.dT (CJ [] (es.map λe=>(e.2.2.1,e.2.2.2)))))
def Ko{P:Program}{w:World}{A:Around}(h:A.units+64<cLine):(tupleKind (bN P w)).room A.in1.in1:=Wu (show A.units+1+1<cLine from Vd () h)
def B5{X:Cx}(hu:(tupleKind (bN X.prog X.w)).room X.A.in1.in1)(hc:X.calm=true):CallR X (.type "dict") Lk:=by
 intro ZL s σ H xs us Q I r h;obtain⟨l,es,rfl,el,he,hl,q⟩:=h;obtain⟨u,rfl,ru⟩:=r.one;cases (show u=Value.ref l from ru);have hn:=I.hok.fresh (Ux s.heap.objs.size);have I1:=I.laid (a:=s.heap.objs.size) (o:=.dT []) (h':=s.heap.push { cls:=.type "dict",data:=.dict #[] }) (t':=s.toks) (λ_ _ q=>Uz _ q) (Ux _) (Gy s.heap I.big);have nl:l≠s.heap.objs.size:=bg el hn;have ek:∀ {b u},H b=some u->upd H s.heap.objs.size (.dT []) b=some u:=λ{b u} z=>by rw[aL (bg z hn)];exact z
 obtain⟨hll,its,n,rl,hol⟩:=(show ObjOk X.prog X.w (upd H s.heap.objs.size (.dT [])) (s.heap.push { cls:=.type "dict",data:=.dict #[] }) l (.lst (es.map λe=>V.ref e.1)) from I1.hok l _ (ek el))
 refine callType_codes (Q₁:=λobj s₁=>obj=.ref s.heap.objs.size/\s₁={ s with heap:=s.heap.push { cls:=.type "dict",data:=.dict #[] } }) F.kt_called_dict (F.kt_typeCall_dict_1 _) F.entry_dict_init (kt_code_dict_new _ ⟨rfl,rfl⟩) ?_;rintro obj s₁ ⟨rfl,rfl⟩;have hTa:({ s with heap:=s.heap.push { cls:=.type "dict",data:=.dict #[] } }:Shared).TypeIs (.ref s.heap.objs.size) "dict" := ⟨_,UK _ rfl,rfl⟩
 have hTl:({ s with heap:=s.heap.push { cls:=.type "dict",data:=.dict #[] } }:Shared).TypeIs (.ref l) "list" := ⟨_,hol,rfl⟩
 have hh:X.A.in1.handled=none:=I.ok.hd hc;refine⟨hTa,F.args_dict_init_2 _ _,?_⟩;unfold Builtin.«dict.__init__»;refine Ut ?_;unfold Builtin.Dict.selfAndRest;refine Ut (aaa hTa ?_);show wpAny _ _ (pure (s.heap.objs.size,[Value.ref l])) _ _ _;refine Uw ?_;show wpAny _ _ (Builtin.Dict.updateFrom "dict.__init__" s.heap.objs.size (.ref l) [] .none) _ _ _;unfold Builtin.Dict.updateFrom;refine Ut (VO hTl ?_);rw[Uv (by decide)];refine Ut (DX.Fa hh hol λh' tk' hk=>?_);rw[Uv (show (none:Zi).isNone=true from rfl)];refine Ut (VI ?_);have I2:Inv X ZL σ (upd H s.heap.objs.size (.dT [])) { s with heap:=h',toks:=tk' }:=I1.kept (t':=tk') hk;obtain⟨its1,rl1,pl1,_⟩:=I2.list (.inl (.inl (ek el)));refine Ut (Wq pl1.isList ?_);have I3:Inv X ZL σ (upd H s.heap.objs.size (.dT [])) { s with heap:=h'.push { cls:=.type "list_iterator",data:=.fields #[.ref l,.int 0 0] },toks:=tk' }:=I2.kept (t':=tk') λb o e=>Uz _ e;refine Uw ⟨Ws DX.l5 _,?_⟩;refine BH (A:=X.A.in1) (xs:=es.map λe=>V.ref e.1) (ZL:=ZL) (σ:=σ) hu hh es 0 [] _ _ I3 aG (I2.fpOk (Ux _) (I2.hok.fresh (Ux _))) ⟨_,UK _ rfl,rfl,rfl⟩ (ek el) (by rw[X2]) (λe h'=>?_) (by simpa using hl) λs' I'=>?_
 ·obtain⟨z1,z2⟩:=he e h';exact⟨ek z1,ek z2⟩
 ·rw[zM] at I';exact⟨rfl,.ref s.heap.objs.size,_,I',rfl,q _ hn⟩
end L2
namespace M
open PySem L2
section
variable {K:Zj}{S S' H H':Hp}
mutual
def nF:D->Bool
 |.dic _=>false
 |.dif _=>false
 |.dkv _ _=>false
 |.lst l=>noDics l
 |.tup l=>noDics l
 |.scr l=>noDics l
 |.mtp l=>noDics l
 |.ins _ _ l=>noDics l
 |_=>true
def noDics:Zc->Bool
 |[]=>true
 |d::l=>nF d&&noDics l
end
mutual
theorem Den.less{a:Addr}{o:Obj}{kvs:List (List c7×V)}(hs:∀b,b≠a->S' b=S b)(ha:S a=some (.frz o (.dT kvs))):∀ {d:D} {v:V},nF d=true->Den K S d v->Den K S' d v
 |.dic _,_,n,_=>by unfold nF at n;cases n
 |.dif _,_,n,_=>by unfold nF at n;cases n
 |.dkv _ _,_,n,_=>by unfold nF at n;cases n
 |.non,_,_,h=>by unfold Den at *;exact h
 |.bl _,_,_,h=>by unfold Den at *;exact h
 |.int _,_,_,h=>by unfold Den at *;exact h
 |.str _,_,_,h=>by unfold Den at *;exact h
 |.ty _,_,_,h=>by unfold Den at *;exact h
 |.lst l,_,n,h=>by
  unfold nF at n;obtain⟨p,xs,e,h1,h2⟩:=Zs.1 h;refine Zs.2 ⟨p,xs,e,?_,Dens.less hs ha n h2⟩;rcases h1 with h1|⟨q,h1⟩
  ·exact .inl (by rw[hs p λz=>by subst z;rw[ha] at h1;cases h1];exact h1)
  ·exact .inr ⟨q,by rw[hs p λz=>by subst z;rw[ha] at h1;cases h1];exact h1⟩
 |.tup l,_,n,h=>by
  unfold nF at n;obtain⟨p,xs,e,h1,h2⟩:=Zx.1 h;exact Zx.2 ⟨p,xs,e,(show S' p=some (.tup xs) by rw[hs p λz=>by subst z;rw[show S p=some (.tup xs) from h1] at ha;cases ha];exact h1),Dens.less hs ha n h2⟩
 |.scr l,_,n,h=>by
  unfold nF at n;obtain⟨p,xs,e,h1,h2⟩:=ZE.1 h;refine ZE.2 ⟨p,xs,e,?_,Dens.less hs ha n h2⟩;rcases h1 with (h1|⟨q,h1⟩)|h1
  ·exact .inl (.inl (by rw[hs p λz=>by subst z;rw[ha] at h1;cases h1];exact h1))
  ·exact .inl (.inr ⟨q,by rw[hs p λz=>by subst z;rw[ha] at h1;cases h1];exact h1⟩)
  ·exact .inr h1
 |.mtp l,_,n,h=>by
  unfold nF at n;obtain⟨p,xs,e,h1,h2⟩:=Zz.1 h;refine Zz.2 ⟨p,xs,e,?_,Dens.less hs ha n h2⟩;rcases h1 with (h1|⟨q,h1⟩)|h1
  ·exact .inl (.inl (by rw[hs p λz=>by subst z;rw[ha] at h1;cases h1];exact h1))
  ·exact .inl (.inr ⟨q,by rw[hs p λz=>by subst z;rw[ha] at h1;cases h1];exact h1⟩)
  ·exact .inr h1
 |.ins _ _ l,_,n,h=>by unfold nF at n;obtain⟨p,C,dx,fs,e,h0,h1,h2,h3⟩:=ZB.1 h;exact ZB.2 ⟨p,C,dx,fs,e,h0,by rw[hs p λz=>by subst z;rw[ha] at h1;cases h1];exact h1,h2,Dens.less hs ha n h3⟩
theorem Dens.less{a:Addr}{o:Obj}{kvs:List (List c7×V)}(hs:∀b,b≠a->S' b=S b)(ha:S a=some (.frz o (.dT kvs))):∀ {ds:Zc} {xs:Za},noDics ds=true->Dens K S ds xs->Dens K S' ds xs
 |[],_,_,h=>by rw[h.nil_of];exact .nil
 |_::_,_,n,h=>by unfold noDics at n;obtain⟨n1,n2⟩:=Wx.1 n;obtain⟨y,ys,rfl,a,b⟩:=h.cons_of;exact .cons (Den.less hs ha n1 a) (Dens.less hs ha n2 b)
end
def Lf:Sl->Option (Zm)
 |.ow (.dic ks)=>some ks
 |.ow (.hd _ ks [])=>some ks
 |_=>none
def Pc(ks:Zm):Sl->Sl
 |.ow (.dic _)=>.ow (.dic ks)
 |.ow (.hd p _ [])=>.ow (.hd p ks [])
 |s=>s
@[simp]def Qb(ks:Zm):Lf (.ow (.dic ks))=some ks:=rfl
@[simp]def QP(p:Addr)(ks:Zm):Lf (.ow (.hd p ks []))=some ks:=rfl
@[simp]def Qi(ks ks':Zm):Pc ks (.ow (.dic ks'))=.ow (.dic ks):=rfl
@[simp]def QT(p:Addr)(ks ks':Zm):Pc ks (.ow (.hd p ks' []))=.ow (.hd p ks []):=rfl
@[simp]def Tf(i:Nat)(e:XE):XE:=λρ=>((ρ[i]?).bind Lf).bind λks=>(e (ρ.set i (.sh (.dif ks)))).bind λd=>if nF d=true then some d else none
@[simp]def RJ(i:Nat)(e:XA):XA:=λρ=>((ρ[i]?).bind Lf).bind λks=>(e (ρ.set i (.sh (.dif ks)))).bind λl=>if noDics l=true then some l else none
def QM(ks:Zm)(q:Zn):Zm:=ks.filter λk=>decide (k≠q)
@[simp]def Th(i:Nat)(k:XE):XS:=λρ=>(ρ[i]?).bind λs=>(Lf s).bind λks=>(k ρ).bind λd=>(OA d).bind λq=>if ks.contains q=true then some (.nx (ρ.set i (Pc (QM ks q) s))) else none
@[simp]def RF(e:XA):Env->Option O:=λρ=>(e ρ).bind λl=>(CF l).bind λqs=>if l.length<gA then some (.dic (qs.foldl L9 [])) else none
end
section
variable {K:Zj}{S S' H H':Hp}
@[simp]def RH(i:Nat):XA:=λρ=>match ρ[i]? with|some (.sh (.dif ks))=>some (ks.map λk=>.tup (k.map .int))|_=>none
abbrev HM:=Addr->Zm->Zc->Option (O×Zm)
@[simp]def Tk(j:Nat):XS:=λρ=>match ρ[j]?,(ρ[0]?:Option Sl) with
 |some (.ow o),some (.ow (.hd p ks []))=>if j=0 then none else some (.ro (.hd p ks [o]))
 |_,_=>none
def Ov(m:HM)(ks:Zm)(ds:Zc):Option (O×Zm):=by
 classical exact if h:∃r,∀p,m p ks ds=some r then some h.choose else none
@[simp]def S7(j i:Nat)(m:HM)(a:XA):XS:=λρ=>match ρ[j]? with
 |some (.ow (.lst l))=>(ρ[i]?).bind λs=>(Lf s).bind λks=>(a ρ).bind λds=>(Ov m ks ds).bind λr=>match r with
  | (.lst l',ks')=>(oQ l').bind λds'=>if l.length+l'.length<=gA then some (.nx ((ρ.set i (Pc ks' s)).set j (.ow (.lst (l++ds'.map .sh))))) else none
  |_=>none
 |_=>none
end
end M
namespace L2
open PySem
def Jp:bootBuiltins "dict"=some (.type "dict"):=by decide +kernel
def FunD.okX{P:Program}{w:World}{K:Zj}{mg:Zg}{base:Heap}{x qual:Str}{st:Stmt}{T f:Addr}{fd:FuncData}{N ps:Zl}{k:Nat}{sp:Sp}(F:FunD K x qual st T f fd)(S:Zp N ps (aB st))(len:∀vs H Q E,sp vs H Q E->vs.length=ps.length)
  (hb:∀(cdv:Value) (A:Around) (outer:List Env) (s:Shared) (H:Hp) (vs:Za) (Q:VK) (E:XK),ZA k (A.deeper (PyProof.Rows.envOfC qual (aB st) s.heap.objs.size f cdv))->sp vs H Q E->∃t,PSs (m5 (g6 P w) P w K mg base N qual (aB st) f cdv A outer s H E) (fX st) t/\t { nx:=λ_ H'=>Q .non H',rt:=Q } (aX N vs) H):Zq P w K mg base (g6 P w) (k+1) f fd ps sp:=by
 obtain⟨oc,od,kV,doc,pm,an,cdv,ct,osl,rfl,lk,hcd⟩:=F.ex;exact GH lk hcd S len λA outer s H vs Q E hr hsp=>hb cdv A outer s H vs Q E hr hsp
end L2
namespace M
open PySem L2
def NA{K:Zj}{E:XK}{r:Za->Hp->VK->Prop}{t:TE}{tr:TA}{m:Env->Option Str}(h:qN K E t m):qN K E (NR r (cj t tr)) m:=λA Λ ρ σ S H Q N rl x k=>h A Λ ρ σ S H _ N rl x k
def bZ{K:Zj}{a:Addr}{o:Obj}{its:Array Value}{n:Nat}{xs:Za}{l:Zc}(h:K.lookup a=some o)(hc:o.cls=.type "tuple") (hd:o.data=.seq its n) (hs:its.size<=sizeLine) (hv:Vals xs its.toList) (hD:∀S,Dens K S l xs) (S:Hp):Den K S (.mtp l) (.ref a):=
 Zz.2 ⟨a,xs,rfl,(show SqT K S a xs from .inr ⟨o,its,n,h,hc,hd,hs,hv⟩),hD S⟩
section
variable {K:Zj}{S S' H H':Hp}
def Pd:Zc->Option (Zc)
 |[.lst l]=>some l.reverse|_=>none
@[simp]def Tr(a:XA):XA:=λρ=>(a ρ).bind Pd
end
end M
namespace L2
open PySem PySem.Spec PyProof.Rows
def zV(CX:zR)(X:Cx)(σ:St)(E:XK):Prop:=∀(ZL:Zf) (H:Hp) (s:Shared) (e:Value) (s':Shared),Inv X ZL σ H s->CX X.stack H s E e s'->X.xe e s'
section
variable {X:Cx}{CX:zR}{k:Nat}{f:Addr}{fd:FuncData}{ps:Zl}{sp:Sp}{E:XK}{x y:Str}{p cpos pos pos':Pos}{e:Expr}{es:List Expr}{t:TA}
def Bo{ZL:Zf}{σ:St}{H:Hp}{s:Shared}{Q:VK}{us:Zh}{vs:Za}(F:Zq X.prog X.w X.K X.mg X.base CX k f fd ps sp)(hr:ZA k X.A)(hb:Binds X.K fd ps [])(hx:zV CX X σ E)
  (I:Inv X ZL σ H s) (r:Vals vs us) (h:sp vs H Q E):wpAny (model X.prog X.w) X.A (call (.ref f) us) (EP X ZL σ Q) X.xe s:=by
 have r2:Vals (vs++[]) (us++[]):=r.append .nil;rw[Vb] at r2;have hl:(us++[]).length=ps.length:=by rw[<-r2.length];exact F.len _ _ _ _ h
 refine Wj (Wk (F.run X.A X.stack s H ⟨us,[]⟩ (us++[]) vs Q E hr I.env0 (hb s us I.kIn hl) r2 h) λr s' hq=>?_);cases r with
 |error e=>exact hx ZL H s e s' I hq
 |ok fl=>
  cases fl with
  |ret u=>exact I.after hq
  |next=>exact False.elim hq
  |brk=>exact False.elim hq
  |cont=>exact False.elim hq
def PB(X:Cx)(body:List Stmt)(tx:XK->St->Hp->Prop):Prop:=∀(ps:Zf) (W:Ze) (E:XK) (σ:St),zV (g6 X.prog X.w) ((X.pin ps).wish W) σ E->∀s H,Inv ((X.pin ps).wish W) [] σ H s->tx E σ H->wpAny (model X.prog X.w) X.A (execs body X.env) (λ_ _=>False) W s
def Sk(sp:Sp)(t:TA):XK->St->Hp->Prop:=λE σ H=>t σ H λvs H1=>sp vs H1 (λ_ _=>False) E
end
def LI(K:Zj)(L:Zl)(i:Nat)(tx:XK->St->Hp->Prop)(tu ts:TS):TS:=λD σ H=>
 tx (λcls _ H'=>∃N C,N∈L/\cls=.ref C/\W.nsIn K mainGlobals N=some (some (.ref C))/\∀e,H' e=none ->
  ts { nx:=λσ' H2=>D.nx (σ'.set i none) H2,rt:=λ_ _=>False } (σ.set i (some (.ref e))) (upd H' e (Ax C e))) σ H\/tu D σ H
section
variable {X:Cx}{body suite:List Stmt}{b0:Stmt}{x n:Str}{i:Nat}{L:Zl}{tx:XK->St->Hp->Prop}{tu ts:TS}{np hp pos:Pos}
def Ke(hst:X.stack=X.env::X.outer)(hfr:X.env.frame=some X.env.locals)(hN:X.N.Nodup)(hi:X.N[i]?=some n)(hl:X.env.kindOf n=some .local)(hm:∃T:Addr,X.mg x=some (.ref T)/\∀N∈L,∀C:Addr,PySem.W.nsIn X.K mainGlobals N=some (some (.ref C))->PySem.W.exmOne X.K (.ref C) (.ref T)=some true)(hg:Gl X x)
  (hx:PB X body tx) (hu:∀(ps:Zf) (W:Ze),PSs ((X.pin ps).wish W) body tu) (hs:∀e,PSs (X.hold e) (b0::suite) ts) (hdb:(x==("__debug__" : Str))=false:=by decide)
  (hf:X.fn n=true\/X.env.scope.names.lookup n=some .local:=by first|exact .inl rfl|exact .inr rfl|assumption) :
  PS X (.Try body [.ExceptHandler (some (.Name x np)) (some n) (b0::suite) hp] [] [] pos) (LI X.K L i tx tu ts):=by
 intro ZL s σ H D I h;refine wpAny_Try_except ?_;rcases h with h|h
 ·refine UO (hx ZL (λv s1=>wpAny (model X.prog X.w) X.A (noteFrame v X.env) (λ_ s2=>wpAny (model X.prog X.w) X.A (setFlight v none) (λ_ s3=>wpAny (model X.prog X.w) X.A (handleBy v X.env [.ExceptHandler (some (.Name x np)) (some n) (b0::suite) hp]) (SP X ZL D) X.xe s3) X.xe s2) X.xe s1) _ σ ?_ s H (I.toPin.wish _) h) (λf s1 q=>q.elim) λ_ _ z=>z;intro ps H1 s1 v s' J hx;obtain⟨e,cls,a0,fx,H',B,rfl,ho,hgn,un,hok,⟨hE,cx⟩,fl,k1,k2⟩:=hx;obtain⟨M,C,hM,rfl,hC,hh⟩:=hE;obtain⟨T,hm,hmt⟩:=hm;have hmt:=hmt M hM C hC;have J1:Inv X ZL σ H1 s1:=Inv.ofPin I.ok J.unwish;have fl:Heap.FlyingW B (X.env::X.outer) e (.ref C) a0 s'.heap:=hst▸fl;have hfrm:X.A.frames=some (X.env::X.outer):=by rw[I.ok.frames,hst]
  refine Yc hfrm hfr fl λh4 held sm4=>?_;refine wpAny_landsW held λh5 fl5 sm5=>?_;have sm5:=sm4.trans sm5
  -- the state ahead of the clause
  have J5:Inv X ZL σ H' { s' with heap:=h5 }:=J1.call' ho (pQ un k2 J1.nfS J1.stkFree fl.1 fl5.1 sm5) (i6 hok fl.1 fl5.1 k1) hgn (λb z=>by cases z);obtain⟨oe,vs,he,hc,hd,_⟩:=fl5.first;refine aaf (aag (gH (X:=X.hold e) (J5.hold e) hg hm ?_ hdb)) (by intro z;cases z);have LT:PySem.W.Looks (model X.prog X.w) h5 (typeOf (.ref e)) (.ref C):=hc▸(Ym he).andThen .now;refine (Yn (J5.kIn) LT hmt).here ?_;refine codeAny_handlers_suite_as ?_;refine lands_againW fl5 λh6 fl6 sm6=>?_;have sm6:=sm5.trans sm6;obtain⟨oe,vs,he,hc,hd,_⟩:=fl6.first;have heB:H' e=none:=by
   cases q:H' e with
   |none=>rfl
   |some u=>obtain⟨o,q1⟩:=k1 e u q;rw[fl6.2.1] at q1;cases q1
  have un6:=pQ un k2 J1.nfS J1.stkFree fl.1 fl6.1 sm6;have hnew:∀b o,s1.heap.get? b=some o->b≠e:=λb o q z=>by
   subst z;by_cases hz:b∈mG X.stack
   ·obtain⟨sl,q2⟩:=un6.slot b o q (J1.stkFree b hz) hz (by intro y;cases y);rw[he] at q2;cases q2;exact J1.nfS b hz o q _ hd
   ·obtain⟨o',q1⟩:=k2 b o q hz;rw[fl6.2.1] at q1;cases q1
  have J6:Inv X ZL σ (upd H' e (Ax C e)) { s' with heap:=h6 }:=by
   refine J1.call' ho (ch:=[]) ⟨un6.keep,un6.slot,λb o q z y=>?_,un6.there,λb xs q=>?_,λb o u q=>?_,λb ps' q=>?_⟩ (λb u q=>?_) hgn (λb z=>by cases z)
   ·rw[aL (hnew b o q)];exact un6.free b o q z y
   ·have:=un6.tups b xs q;rw[aL (bg this heB)];exact this
   ·have:=un6.frzs b o u q;rw[aL (bg this heB)];exact this
   ·obtain⟨mr,this⟩:=un6.tbls b ps' q;exact⟨mr,by rw[aL (bg this heB)];exact this⟩
   ·have hok6:=i6 hok fl.1 fl6.1 k1;by_cases hbe:b=e
    ·subst hbe;rw[aG] at q;cases q;refine⟨⟨oe,vs,he,hc,hd⟩,⟨oe,he⟩,λh1 h2 ⟨o1,v1,z1,z2,z3⟩ kk=>⟨o1,v1,kk _ z1,z2,z3⟩⟩
    ·rw[aL hbe] at q;exact (hok6 b u q).stay (λ_ _ _ z=>z) (λc z=>by rw[aL (bg z heB)];exact z) λc xs z=>by rw[aL (bg z heB)];exact z
  refine wP (X:=X.hold e) (J6.hold e) hN hi (.inl hl) (v:=.ref e) rfl (λs7 J7=>?_) hf;refine UO (hs e ZL s7 _ _ _ J7 (hh e heB)) (λf s8 q=>?_) λ_ _ z=>z.elim;cases f with
  |next=>
   obtain⟨σ8,H8,J8,q8⟩:=q;exact JC (Inv.unhold I.ok J8) hN hi hl λs9 J9=>⟨_,H8,J9,q8⟩
  |brk=>obtain⟨_,_,_,z⟩:=q;exact z.elim
  |cont=>obtain⟨_,_,_,z⟩:=q;exact z.elim
  |ret u=>obtain⟨_,_,_,_,_,z⟩:=q;exact z.elim
 ·refine UO (hu ZL (λv s1=>wpAny (model X.prog X.w) X.A (noteFrame v X.env) (λ_ s2=>wpAny (model X.prog X.w) X.A (setFlight v none) (λ_ s3=>wpAny (model X.prog X.w) X.A (handleBy v X.env [.ExceptHandler (some (.Name x np)) (some n) (b0::suite) hp]) (SP X ZL D) X.xe s3) X.xe s2) X.xe s1) [] s σ H D (I.toPin.wish _) h) (λf s1 q=>?_) λ_ _ z=>z;have q:SP X ZL D f s1:=by
   have q:=q.unwish;cases f with
   |next=>obtain⟨σ',H',J,z⟩:=q;exact⟨σ',H',Inv.ofPin I.ok J,z⟩
   |brk=>obtain⟨σ',H',J,z⟩:=q;exact⟨σ',H',Inv.ofPin I.ok J,z⟩
   |cont=>obtain⟨σ',H',J,z⟩:=q;exact⟨σ',H',Inv.ofPin I.ok J,z⟩
   |ret u=>obtain⟨v,σ',H',J,r,z⟩:=q;exact⟨v,σ',H',Inv.ofPin I.ok J,r,z⟩
  cases f with
  |next=>exact Wg q
  |brk|cont|ret _=>exact q
end
end L2
namespace M
open PySem L2
section
variable {K:Zj}{S S' H H':Hp}
def RlA.put{A:Hp}{Λ:Nat->Option Addr}{ρ:Env}{σ:St}(r:RlA K A Λ ρ σ S H)(i:Nat)(v:Option V):RlA K A Λ (ρ.set i .un) (σ.set i v) S H:=by
 obtain⟨Φ,f⟩:=r;have ge:∀(j:Nat) t,(ρ.set i .un)[j]?=some t->t ≠ .un->j≠i/\ρ[j]?=some t:=λj t h n=>by
  rcases cg h with ⟨_,e,_⟩|⟨hij,h⟩
  ·exact absurd e n
  ·exact⟨UB hij,h⟩
 exact⟨Φ,{
  len:=by rw[U0,U0];exact f.len
  sub:=f.sub
  sh:=λj d h=>by obtain⟨hj,h⟩:=ge j _ h (by intro z;cases z);rw[UQ (UB hj)];exact f.sh j d h
  ow:=λj o h=>by obtain⟨hj,h⟩:=ge j _ h (by intro z;cases z);rw[UQ (UB hj)];exact f.ow j o h
  dj:=λj k o o' hjk h1 h2=>f.dj j k o o' hjk (ge j _ h1 (by intro z;cases z)).2 (ge k _ h2 (by intro z;cases z)).2
  lo:=λj h=>by obtain⟨hj,h⟩:=ge j _ h (by intro z;cases z);rw[UQ (UB hj)];exact f.lo j h
  asub:=f.asub
  adis:=f.adis }⟩
@[simp]def Tv(L:Zl)(i:Nat)(n:Zc->Option Str)(a:XA)(m:XS)(l:List (Nat×List (List (Str×Bool)))):XS:=λρ=>if i<ρ.length then (match (a ρ).bind n with
 |some N=>if L.contains N then (lm i N l (ρ.set i .un)).map λρ'=>.nx (ρ'.set i .un) else none
 |none=>(match m ρ with|some (.nx ρ')=>some (.nx ρ')|_=>none)) else none
@[simp]def Ta(i:Nat)(m:XS):XS:=λρ=>match (ρ[i]?).bind Lf with|some ks=>m (ρ.set i (.sh (.dif ks)))|none=>m ρ
@[simp]def S8(i:Nat)(x:XG)(m:XS):XS:=BJ (RH i) x m
end
end M
namespace DY
open PySem
def GY:typeLookup (.type "dict") "__len__"=pure (some (.builtin "dict.__len__")):=by rw[Yg,Yh];kernel_rfl
def Ie:isSubtype (.type "dict") (.type "dict")=pure true:=by rw[isSubtype_type];kernel_rfl
section
variable {prog:Program}{w:World}{A:Around}{E:Ze}{s:Shared}{d I:Addr}{es:Array DictEntry}{ep:Nat}
def DAt.kept{h':Heap}(x:DAt h d es ep)(k:∀o,h.get? d=some o->h'.get? d=some o):DAt h' d es ep:=let ⟨o,ho,r⟩:=x;⟨o,k o ho,r⟩
def IE(hh:A.handled=none)(hne:d≠I)(es:Array DictEntry)(ep:Nat) :
  Walks prog w A I [I,d] [I] es.size (λi v=>∃e,es[i]?=some e/\v=e.key) (λi h=>h.IsKeyIter I d i es.size ep/\DAt h d es ep) where
 sub:=λb hb=>by simp at hb;simp[hb]
 frame:=λi h h' st hk=>⟨st.1.at λo e=>hk I (by simp) o e,st.2.kept λo e=>hk d (by simp) o e⟩
 item:=λi s Q E hi st hQ=>G6 st.1 st.2 hi λh' it' sb=>hQ es[i].key h' s.toks ⟨es[i],aad hi,rfl⟩ ⟨it',st.2.kept λo z=>by rw[sb.2 d hne];exact z⟩ (λb o hb z=>by rw[sb.2 b λy=>hb (by simp[y])];exact z)
 done:=λs Q E st hQ=>G5 hh st.1 st.2 (Ux _) λh' x=>hQ h' s.toks λb o hb z=>x b o (λy=>hb (by simp[y])) z
 self:=λi s Q E st h=>wpAny_pyIter_keyiter st.1 h
end
section
variable {prog:Program}{w:World}{A:Around}{s:Shared}{R:Result->Shared->Prop}{d:Addr}{es:Array DictEntry}{ep:Nat}
def Jy(hh:A.handled=none)(hd:(d==sysModules)=false)(hm:DAt s.heap d es ep)(S:Addr)(res:Value)(c₀:Nat)(hSd:S≠d)(hS:s.heap.get? S=some { cls:=.type "list",data:=.seq #[] c₀ }) (hn:es.size<=sizeLine)
  (hR:∀h' tk acc c,(∀b o,b≠S->s.heap.get? b=some o->h'.get? b=some o)->h'.get? S=some { cls:=.type "list",dict:=none,data:=.seq acc c,slots:=#[] }->ItemsOf (λi v=>∃e,es[i]?=some e/\v=e.key) acc es.size->R (.ok (.ret res)) { s with heap:=h',toks:=tk }) :
  wpAny (model prog w) A.in1 (Builtin.List.listExtendWith (.ref S) (.ref d) res) (λfin s'=>match fin with|.done f=>R (.ok f) s' | .again c'=>c'.quiet=true/\codeAny (model prog w) A c' R s') (λe s'=>R (.error e) s') s:=by
 obtain⟨o,ho,hex,hdat⟩:=id hm;have hT:s.TypeIs (.ref d) "dict" := ⟨o,ho,hex.1⟩
 have h1:Builtin.List.listSameRef (.ref S) (.ref d)=false:=by simp[Builtin.List.listSameRef,hSd]
 unfold Builtin.List.listExtendWith;refine Ut (VO hT ?_);rw[Uu (by rw[h1];decide)];refine Ut (E5 hd hm ?_);refine Ut (UY ?_);unfold Builtin.List.listLengthHint;have hT2:Shared.TypeIs { s with heap:=s.heap.push { cls:=.type "dict_keyiterator",data:=.fields #[.ref d,.int 0 0,.int es.size 0,.int ep 0] } } (.ref d) "dict" := ⟨o,Uz _ ho,hex.1⟩
 refine Ut (wpAny_specialOf hT2 GY ?_)
 (generalize hid:("dict.__len__" : String)=id0;wp_delta;rw[show splitId id0=some ("dict", "__len__") from by subst hid;decide +kernel];subst hid)
 refine Ut (Wv (b:=true) hT2 Ie ?_);rw[Uu (by decide)];dsimp only;rw[Uv (by decide +kernel)];refine Ut (VO hT2 ?_);dsimp only;refine Uw ?_;rw[Uv (by decide +kernel)];refine Ut (VI ?_);have hSl:S<s.heap.objs.size:=UA hS;have hdl:d<s.heap.objs.size:=UA ho;have hL2:(s.heap.push { cls:=.type "dict_keyiterator",data:=.fields #[.ref d,.int 0 0,.int es.size 0,.int ep 0] }).get? S=some { cls:=.type "list",data:=.seq #[] c₀ }:=Uz _ hS;refine Ut (m:=Builtin.List.listTouch (.ref S)) ?_;show wpAny _ _ (updateSeq S (·.push .none) >>= λ_=>updateSeq S (·.pop)) _ _ _;refine Ut (wpAny_updateSeq hL2 rfl ?_);have hL3:=Vc (Obj.mapSeq (·.push Value.none)) hL2 rfl;refine wpAny_updateSeq hL3 rfl ?_;have hL4:=Vc (Obj.mapSeq (·.pop)) hL3 rfl
 have hoth:∀b o,b≠S->(s.heap.push { cls:=.type "dict_keyiterator",data:=.fields #[.ref d,.int 0 0,.int es.size 0,.int ep 0] }).get? b=some o ->
   (((s.heap.push { cls:=.type "dict_keyiterator",data:=.fields #[.ref d,.int 0 0,.int es.size 0,.int ep 0] }).update S (Obj.mapSeq (·.push Value.none))).update S (Obj.mapSeq (·.pop))).get? b=some o:=λb o hb e=>by
  rw[WU _ _ _ _ hb,WU _ _ _ _ hb];exact e
 have hI:s.heap.objs.size≠S:=VD hSl;have hit:Heap.IsKeyIter (((s.heap.push { cls:=.type "dict_keyiterator",data:=.fields #[.ref d,.int 0 0,.int es.size 0,.int ep 0] }).update S (Obj.mapSeq (·.push Value.none))).update S (Obj.mapSeq (·.pop))) s.heap.objs.size d 0 es.size ep:=
  ⟨_,hoth _ _ hI (UK _ rfl),rfl,rfl⟩
 have hm4:DAt (((s.heap.push { cls:=.type "dict_keyiterator",data:=.fields #[.ref d,.int 0 0,.int es.size 0,.int ep 0] }).update S (Obj.mapSeq (·.push Value.none))).update S (Obj.mapSeq (·.pop))) d es ep:=hm.kept λo e=>hoth d o (UB hSd) (Uz _ e);have hSf:S∉[s.heap.objs.size,d]:=by simp only[UC,Ve,Vf,not_or];exact⟨UH hSl,hSd⟩
 refine Uw ⟨Ws F.plain_extend_loop _,codeAny_extend_loopS (IE (A:=A.in1) (prog:=prog) (w:=w) hh (UH hdl) es ep).toS hn _ hSf _ es.size 0 _ _ _ (Nat.sub_zero _) (UR _) ⟨hit,hm4⟩ hL4 (ItemsOf.nil _) λs' acc c hmv hL' hacc=>?_⟩;have es':s'={ s with heap:=s'.heap,toks:=s'.toks }:=by obtain⟨h',g',d',tk',os'⟩:=s';have e1:=hmv.gens;have e2:=hmv.drawn;have e3:=hmv.os;dsimp only at e1 e2 e3;rw[e1,e2,e3]
 rw[es'];refine hR s'.heap s'.toks acc c (λb o hb e=>?_) hL' hacc;have hlt:=UA e;refine hmv.heap b o (λz=>?_) (hoth b o hb (Uz _ e));rcases UC.1 z with z|z
 ·exact hb z
 ·rw[UV] at z;exact absurd hlt (by rw[z];exact Vr _)
end
end DY
namespace M
open PySem L2
section
variable {K:Zj}{S S' H H':Hp}
@[simp]def Tn(e:XE)(j:Nat):XS:=λρ=>match ρ[j]? with
 |some (.ow (.lst l))=>(e ρ).bind λd=>some (.ro (.tup [.sh d,.lst l]))
 |_=>none
@[simp]def Qo(m:Zc->Option O)(e:D)(a:XA):Env->Option O:=λρ=>(a ρ).bind λds=>m (ds++[e])
end
section
variable {K:Zj}{S H:Hp}
@[simp]def Uo(i:Nat)(k:Int):XE:=λρ=>match ρ[i]? with
 |some (.ow (.tup os))=>match fS os k with
  |some (.sh d)=>some d
  |some (.lst l)=>(oQ l).map D.lst
  |_=>none
 |_=>none
@[simp]def Um(i:Nat)(k:Int):XE:=λρ=>match ρ[i]? with
 |some (.ow (.tup os))=>match fS os k with
  |some (.sh d)=>some d
  |_=>none
 |_=>none
def Oy:Zc->Bool
 |[]=>true
 |.tup l::r=>(e9 l).isSome&&Oy r
 |_::_=>false
@[simp]def RE(m:Zc->Option O)(a:XA):XE:=λρ=>((a ρ).bind m).bind λo=>match o with
 |.lst os=>(oQ os).bind λl=>if Oy l then some (.lst l) else none
 |_=>none
@[simp]def SV(j i:Nat)(m:HM)(a:XA):XS:=λρ=>match ρ[j]? with
 |some (.ow (.lst l))=>(oQ l).bind λls=>(ρ[i]?).bind λs=>(Lf s).bind λks=>(a ρ).bind λds=>(Ov m ks ds).bind λr=>match r with
  | (.lst l',ks')=>(oQ l').bind λds'=>if ls.length+ds'.length<=gA then some (.nx ((ρ.set i (Pc ks' s)).set j (.ow (.lst ((ls++ds').map .sh))))) else none
  |_=>none
 |_=>none
end
def J2:Zc->Option (List (Int×D))
 |[]=>some []
 |.tup [.int k,d]::l=>(J2 l).map λr=>(k,d)::r
 |_=>none
def nr:List c7->Zc->c7->Zd
 |k'::ks,d::l,k=>if k'=k then some d else nr ks l k
 |_,_,_=>none
section
variable {K:Zj}{S S' H H':Hp}
theorem x9{k:c7}:∀ {kvs:List (c7×V)} {l:Zc},Dens K S l (kvs.map (·.2))->(∀d,nr (kvs.map (·.1)) l k=some d->∃v,ie kvs k=some v/\Den K S d v)/\(nr (kvs.map (·.1)) l k=none->ie kvs k=none)
 |[],l,h=>⟨(λd e=>by cases l<;>cases e),λ_=>rfl⟩
 |p::kvs,[],h=>by have:=h.nil_of;cases this
 |p::kvs,d::l,h=>by
  obtain⟨y,ys,e,h1,h2⟩:=h.cons_of;cases e;obtain⟨i1,i2⟩:=x9 (k:=k) h2;rw[UG];unfold nr;by_cases e:p.1=k
  ·rw[Uv e,lB e];exact⟨(λd' z=>by cases z;exact⟨_,rfl,h1⟩),λz=>by cases z⟩
  ·rw[Uu e,lA e];exact⟨i1,i2⟩
@[simp]def Tb(a k x:XE):XE:=λρ=>(a ρ).bind λd=>match d with
 |.dkv ks l=>(k ρ).bind λe=>(match e with|.int i=>(x ρ).map λf=>(nr ks l (.inl i)).getD f|_=>none)
 |_=>none
def QQ:D->Option (Zc)
 |.lst l=>some l
 |_=>none
@[simp]def kH(a b:XE):XA:=λρ=>(a ρ).bind λd=>(QQ d).bind λl=>(b ρ).bind λe=>(QQ e).bind λm=>if l.length+m.length<=gA then some (l++m) else none
def G9{d:D}{l:Zc}(h:QQ d=some l):d=.lst l:=by cases d<;>cases h;rfl
def s0{ta tb:TE}{a b:XE}(ha:SPk K ta a)(hb:SPk K tb b):SF K (FP (HA K) ta tb) (kH a b):=λρ σ S H Q l r x k=>by
 unfold kH at x;obtain⟨d,qa,x⟩:=ZM x;obtain⟨la,ea,x⟩:=ZM x;obtain⟨e,qb,x⟩:=ZM x;obtain⟨lb,eb,x⟩:=ZM x;split at x
 ·rename_i hl;cases x;rw[G9 ea] at qa;rw[G9 eb] at qb;refine ha ρ σ S H _ _ r qa λv S1 H1 z1 d1=>?_;have r1:=r.ext z1;refine hb ρ σ S1 H1 _ _ r1 qb λw S2 H2 z2 d2=>?_;obtain⟨p,xs,rfl,hx,dx⟩:=(d1.mono z2 r1.sub).lst z2.sub;obtain⟨q,ys,rfl,hy,dy⟩:=d2.lst z2.sub;refine .inr (.inl ⟨p,q,xs,ys,rfl,rfl,hx,hy,by rw[<-dx.length,<-dy.length];exact g9 hl,λc hc=>?_⟩);have z3:=(z1.trans z2).trans (Ext.own (o:=.lst (xs++ys)) z2.sub hc);exact k c _ S2 _ z3 ((z1.trans z2).same r.sub |>.free hc) (z2.sub.free hc) aG (dx.append dy)
 ·cases x
end
end M
namespace PySem
namespace ZT
section
variable {prog:Program}{w:World}{A:Around}{E:Ze}{s:Shared}
def nn(t:Addr):¬((Value.ref t==Value.none)=true):=U4
def JQ{it t:Addr}{i:Nat}{its:Array Value}{x:Value}{Q:Ze}(h1:s.heap.IsTupleIter it t i)(h2:s.heap.IsTuple t its)(hx:its[i]?=some x)
  (q:∀h',h'.IsTupleIter it t (i+1)->Heap.SameBut it s.heap h'->Q x { s with heap:=h' }):wpAny (model prog w) A (Builtin.SmallTypes.nextOf (.ref it)) Q E s:=by
 obtain⟨o,ho,hc,hd⟩:=id h1;obtain⟨ot,hot,_,n,hdt⟩:=h2;unfold Builtin.SmallTypes.nextOf;refine Ut (VE (name := "__next__") h1.typeIs Xc (Vl Xc h1.typeIs aah ?_ (aai _)));show wpAny _ _ (field (.ref it) 0 >>= _) _ _ _;refine Ut (US ho hd (x:=.ref t) rfl ?_);show wpAny _ _ (if (Value.ref t==Value.none)=true then _ else _) _ _ _;rw[Uu (nn t)];show wpAny _ _ (field (.ref it) 1 >>= _) _ _ _;refine Ut (US ho hd (x:=.int i 0) rfl ?_);show wpAny _ _ (seqItems? (.ref t) >>= _) _ _ _;refine Ut (VL hot hdt ?_);dsimp only;rw[show ((i:Int).toNat)=i from Int.toNat_natCast i,hx];refine Ut (VS ho hd (by simp) (Uw ⟨x,rfl,Uw (q _ ⟨_,Vc _ ho (VR (Vo hd _)),(Yi ..).trans hc,?_⟩ (Xb ..))⟩));rw[Vo hd];simp[rawInt]
def MJ{it t:Addr}{i:Nat}{its:Array Value}{Q:Ze}(hh:A.handled=none)(h1:s.heap.IsTupleIter it t i)(h2:s.heap.IsTuple t its)(hx:its[i]?=none)
  (q:∀h' e,Heap.ExtBut it s.heap h'->(∃o,h'.get? e=some o/\o.cls=.type "StopIteration")->E (.ref e) { s with heap:=h' }):wpAny (model prog w) A (Builtin.SmallTypes.nextOf (.ref it)) Q E s:=by
 obtain⟨o,ho,hc,hd⟩:=id h1;obtain⟨ot,hot,_,n,hdt⟩:=h2;unfold Builtin.SmallTypes.nextOf;refine Ut (VE (name := "__next__") h1.typeIs Xc (Vl Xc h1.typeIs aah ?_ (aai _)));show wpAny _ _ (field (.ref it) 0 >>= _) _ _ _;refine Ut (US ho hd (x:=.ref t) rfl ?_);show wpAny _ _ (if (Value.ref t==Value.none)=true then _ else _) _ _ _;rw[Uu (nn t)];show wpAny _ _ (field (.ref it) 1 >>= _) _ _ _;refine Ut (US ho hd (x:=.int i 0) rfl ?_);show wpAny _ _ (seqItems? (.ref t) >>= _) _ _ _;refine Ut (VL hot hdt ?_);dsimp only;rw[show ((i:Int).toNat)=i from Int.toNat_natCast i,hx];refine Ut (VI (Ut (VS ho hd (by simp) ?_)));show wpAny _ _ (newExc (.type "StopIteration") [] >>= _) _ _ _;refine Ut ?_;simp only[newExc,newTuple];refine Ut (U3 ?_ (by size_fits));refine Ut (m:=firstArgMember _ _) (Wr (a:=Value.none) (by first|rfl|(simp only[firstArgMember];rfl)) ?_);refine U3 ?_ (by size_fits);simp only[raiseNew];refine Ut (W5 ?_);first|rw[show A.in1.handled=none from hh]|rw[hh]
 refine Ut (Uw (VJ (q _ _ (((Xb ..).extBut.push _).push _) ⟨_,UK _ rfl,rfl⟩)))
def FI{z TI TO i1 i2 l1 l2:Addr}{k:Nat}{xs ys:Array Value}{x y a b:Value}{Q:Zi->Shared->Prop}(D:ZipApart z TI TO i1 i2 l1 l2)(hz:IsZip s.heap z TI TO .none)(hI:IsPair s.heap TI (.ref i1) (.ref i2))(hO:IsPair s.heap TO a b)
  (h1:s.heap.IsTupleIter i1 l1 k) (h2:s.heap.IsListIter i2 l2 k) (g1:s.heap.IsTuple l1 xs) (g2:s.heap.IsList l2 ys) (hx:xs[k]?=some x) (hy:ys[k]?=some y)
  (q:∀h',IsZip h' z TI TO (rawInt s.heap.objs.size)->IsPair h' TO x y->h'.IsTupleIter i1 l1 (k+1)->h'.IsListIter i2 l2 (k+1)->IsPair h' s.heap.objs.size x y->h'.objs.size=s.heap.objs.size+1->(∀c o,c≠z->c≠TO->c≠i1->c≠i2->s.heap.get? c=some o->h'.get? c=some o)->Q (some (.ref s.heap.objs.size)) { s with heap:=h' }) :
  wpAny (model prog w) A (pyNext (.ref z)) Q E s:=by
 have hT:s.TypeIs (.ref z) "zip" := ⟨_,hz,rfl⟩
 unfold pyNext;refine Ut (V5 (VE (name := "__next__") hT Xd (Vl Xd hT F.entry_zip_next ?_ (aaj _))));show wpAny _ _ (field (.ref z) 2 >>= _) _ _ _;refine Ut (US hz rfl (x:=.bool false) rfl ?_);show wpAny _ _ (field (.ref z) 3 >>= _) _ _ _;refine Ut (US hz rfl (x:=.ref TI) rfl ?_);refine Ut (VL hI rfl ?_);show wpAny _ _ (Builtin.SmallTypes.ownedTupleIsFree (.ref z) >>= _) _ _ _;refine Ut ?_;unfold Builtin.SmallTypes.ownedTupleIsFree;refine Ut (US hz rfl (x:=.none) rfl (Uw ?_));simp only[Vt];refine Ut (VI (Ut (US hz rfl (x:=.ref TO) rfl (Ut (Wy hz (by simp) λu1 z1 s1=>?_)))));replace z1:IsZip u1 z TI TO .ellipsis:=z1;refine Ut ?_;simp only[List.zipIdx_cons,List.zipIdx_nil,XM,List.forIn_nil];refine Ut (Ut (W0 ?_));show wpAny _ _ (Builtin.SmallTypes.nextOf (.ref i1) >>= _) _ _ _;refine Ut (JQ (h1.extBut s1.extBut D.i1z) (g1.at λo e=>s1.extBut _ _ D.l1z e) hx λu2 a2 s2=>Uw ?_);have o2:IsPair u2 TO a b:=s2.extBut _ _ D.TOi1 (s1.extBut _ _ D.TOz hO);refine Ut (VL o2 rfl (Ut (aak o2 λu3 o3 s3=>?_)));replace o3:IsPair u3 TO x b:=o3;refine Ut (wpAny_letGo (Uw (Ut (Ut (W0 ?_)))));show wpAny _ _ (Builtin.SmallTypes.nextOf (.ref i2) >>= _) _ _ _;refine Ut (wpAny_nextOf_list_item (h2.at λo e=>s3.extBut _ _ D.TOi2.symm (s2.extBut _ _ D.i12.symm (s1.extBut _ _ D.i2z e))) (g2.at λo e=>s3.extBut _ _ D.l2TO (s2.extBut _ _ D.l2i1 (s1.extBut _ _ D.l2z e))) hy λu4 b4 s4=>Uw ?_);have o4:IsPair u4 TO x b:=s4.extBut _ _ D.TOi2 o3;refine Ut (VL o4 rfl (Ut (aak o4 λu5 o5 s5=>?_)));replace o5:IsPair u5 TO x y:=o5;refine Ut (wpAny_letGo (Uw (Uw (Ut (VL o5 rfl (Ut (wpAny_newTuple ?_)))))));have hs:u5.objs.size=s.heap.objs.size:=s5.1.trans (s4.1.trans (s3.1.trans (s2.1.trans s1.1)));have z5:IsZip u5 z TI TO .ellipsis:=s5.extBut _ _ D.TOz.symm (s4.extBut _ _ D.i2z.symm (s3.extBut _ _ D.TOz.symm (s2.extBut _ _ D.i1z.symm z1)));have k5:∀c o,c≠z->c≠TO->c≠i1->c≠i2->s.heap.get? c=some o->u5.get? c=some o:=λc o c1 c2 c3 c4 e=>s5.extBut _ _ c2 (s4.extBut _ _ c4 (s3.extBut _ _ c2 (s2.extBut _ _ c3 (s1.extBut _ _ c1 e))));have a5:u5.IsTupleIter i1 l1 (k+1):=a2.at λo e=>s5.extBut _ _ D.TOi1.symm (s4.extBut _ _ D.i12 (s3.extBut _ _ D.TOi1.symm e));have b5:u5.IsListIter i2 l2 (k+1):=b4.at λo e=>s5.extBut _ _ D.TOi2.symm e;have zl:z<u5.objs.size:=UA z5;show wpAny _ _ (Builtin.SmallTypes.ownedTupleHandOut (.ref z) (.ref u5.objs.size) >>= _) _ _ _;refine Ut ?_;unfold Builtin.SmallTypes.ownedTupleHandOut;have z6:IsZip (u5.push { cls:=.type "tuple",data:=.seq #[x,y] }) z TI TO .ellipsis:=Uz _ z5;refine Ut (Wy z6 (by simp) λu7 z7 s7=>?_);replace z7:IsZip u7 z TI TO (rawInt u5.objs.size):=z7;refine Wy z7 (by simp) λu8 z8 s8=>?_;replace z8:IsZip u8 z TI TO (rawInt u5.objs.size):=z8;have up:∀c o,c≠z->u5.get? c=some o->u8.get? c=some o:=λc o n e=>s8.extBut _ _ n (s7.extBut _ _ n (Uz _ e));have t8:IsPair u8 u5.objs.size x y:=s8.extBut _ _ (VD zl) (s7.extBut _ _ (VD zl) (UK _ rfl));have e8:u8.objs.size=u5.objs.size+1:=by rw[s8.1,s7.1,Vi]
 rw[hs] at z8 t8 e8;refine Uw ⟨_,rfl,Uw ?_⟩;show Q (some (.ref u5.objs.size)) _;rw[hs];exact q u8 z8 (up _ _ D.TOz o5) (a5.at λo e=>up _ o D.i1z e) (b5.at λo e=>up _ o D.i2z e) t8 e8 λc o c1 c2 c3 c4 e=>up c o c1 (k5 c o c1 c2 c3 c4 e)
def Iw{z TI TO i1 i2 l1 l2:Addr}{k:Nat}{xs:Array Value}{a b:Value}{Q:Zi->Shared->Prop}(hh:A.handled=none)(D:ZipApart z TI TO i1 i2 l1 l2)(hz:IsZip s.heap z TI TO .none)(hI:IsPair s.heap TI (.ref i1) (.ref i2))(hO:IsPair s.heap TO a b)
  (h1:s.heap.IsTupleIter i1 l1 k) (g1:s.heap.IsTuple l1 xs) (hx:xs[k]?=none) (q:∀h',(∀c o,c≠z->c≠i1->s.heap.get? c=some o->h'.get? c=some o)->Q none { s with heap:=h' }):wpAny (model prog w) A (pyNext (.ref z)) Q E s:=by
 have hT:s.TypeIs (.ref z) "zip" := ⟨_,hz,rfl⟩
 unfold pyNext;refine Ut (V5 (VE (name := "__next__") hT Xd (Vl Xd hT F.entry_zip_next ?_ (aaj _))));show wpAny _ _ (field (.ref z) 2 >>= _) _ _ _;refine Ut (US hz rfl (x:=.bool false) rfl ?_);show wpAny _ _ (field (.ref z) 3 >>= _) _ _ _;refine Ut (US hz rfl (x:=.ref TI) rfl ?_);refine Ut (VL hI rfl ?_);show wpAny _ _ (Builtin.SmallTypes.ownedTupleIsFree (.ref z) >>= _) _ _ _;refine Ut ?_;unfold Builtin.SmallTypes.ownedTupleIsFree;refine Ut (US hz rfl (x:=.none) rfl (Uw ?_));simp only[Vt];refine Ut (VI (Ut (US hz rfl (x:=.ref TO) rfl (Ut (Wy hz (by simp) λu1 z1 s1=>?_)))));replace z1:IsZip u1 z TI TO .ellipsis:=z1;refine Ut ?_;simp only[List.zipIdx_cons,List.zipIdx_nil,XM,List.forIn_nil];refine Ut (Ut (W0 ?_));show wpAny _ _ (Builtin.SmallTypes.nextOf (.ref i1) >>= _) _ _ _;refine Ut (MJ hh (h1.extBut s1.extBut D.i1z) (g1.at λo e=>s1.extBut _ _ D.l1z e) hx λu2 e s2 he=>?_);obtain⟨oe,hoe,hce⟩:=he;have z2:IsZip u2 z TI TO .ellipsis:=s2 _ _ D.i1z.symm z1;have ez:e≠z:=λx=>by subst x;rw[z2] at hoe;cases hoe;simp at hce
 refine Wy z2 (by simp) λu3 _ s3=>?_;refine Ut (Wv (T := "StopIteration") (b:=true) ⟨oe,s3.extBut _ _ ez hoe,hce⟩ isSubtype_stop (Uw (q _ λc o c1 c3 x=>s3.extBut _ _ c1 (s2 _ _ c3 (s1.extBut _ _ c1 x)))))
abbrev H1(h:Heap)(l:Addr):Heap:=h.push { cls:=.type "tuple_iterator",data:=.fields #[.ref l,.int 0 0] }
abbrev H2(h:Heap)(l m:Addr):Heap:=(H1 h l).push { cls:=.type "list_iterator",data:=.fields #[.ref m,.int 0 0] }
abbrev H3(h:Heap)(l m:Addr):Heap:=(H2 h l m).push { cls:=.type "tuple",data:=.seq #[.ref h.objs.size,.ref (H1 h l).objs.size] }
abbrev H4(h:Heap)(l m:Addr):Heap:=(H3 h l m).push { cls:=.type "tuple",data:=.seq #[.none,.none] }
abbrev H5(h:Heap)(l m:Addr):Heap:=(H4 h l m).push { cls:=.type "zip",data:=.fields #[.none,.bool false,.bool false,.ref (H2 h l m).objs.size,.ref (H3 h l m).objs.size] }
def made(l m:Addr)(xs ys:Array Value):Meets (Builtin.«zip.__new__» ⟨[.type "zip",.ref l,.ref m],[]⟩) (λ_ R s=>s.heap.IsTuple l xs/\s.heap.IsList m ys/\R (.ok (.ret (.ref (H4 s.heap l m).objs.size))) { s with heap:=H5 s.heap l m }):=
 .of_wp λprog w A R s h=>by
  obtain⟨hp,g,d,tk,os⟩:=s;obtain⟨q1,q2,h⟩:=h;have hsub:=sub_zip;have k1:Heap.IsTuple (Shared.heap ⟨hp,g,d,tk,os⟩) l xs:=q1;have k2:Heap.IsList (Shared.heap ⟨H1 hp l,g,d,tk,os⟩) m ys:=Heap.IsList.push q2 _
  wp_walk using X6 k1,Wq k2
  exact⟨_,rfl,h⟩
def Gi{l m:Addr}{xs ys:Array Value}{Q:Ze}(q1:s.heap.IsTuple l xs)(q2:s.heap.IsList m ys)
  (h:∀h',IsZip h' (s.heap.objs.size+4) (s.heap.objs.size+2) (s.heap.objs.size+3) .none->IsPair h' (s.heap.objs.size+2) (.ref s.heap.objs.size) (.ref (s.heap.objs.size+1))->IsPair h' (s.heap.objs.size+3) .none .none->h'.IsTupleIter s.heap.objs.size l 0->h'.IsListIter (s.heap.objs.size+1) m 0 ->
   (∀c o,s.heap.get? c=some o->h'.get? c=some o)->Q (.ref (s.heap.objs.size+4)) { s with heap:=h' }):wpAny (model prog w) A (call (.type "zip") [.ref l,.ref m]) Q E s:=by
 refine callType_new F.called_zip (by decide) (F.typeCall_zip_2 _ _) (F.newCall_zip_2 _ _) (λobj=>F.args_object_init_3 obj _ _) F.entry_zip_new (made l m xs ys) ⟨q1,q2,?_⟩;have y1:(H1 s.heap l).objs.size=s.heap.objs.size+1:=Vi ..;have y2:(H2 s.heap l m).objs.size=s.heap.objs.size+2:=by rw[Vi,y1]
 have y3:(H3 s.heap l m).objs.size=s.heap.objs.size+3:=by rw[Vi,y2]
 have y4:(H4 s.heap l m).objs.size=s.heap.objs.size+4:=by rw[Vi,y3]
 have e5:(H5 s.heap l m).get? (H4 s.heap l m).objs.size=some _:=UK _ rfl;have e4:(H5 s.heap l m).get? (H3 s.heap l m).objs.size=some _:=Uz _ (UK _ rfl);have e3:(H5 s.heap l m).get? (H2 s.heap l m).objs.size=some _:=Uz _ (Uz _ (UK _ rfl));have e2:(H5 s.heap l m).get? (H1 s.heap l).objs.size=some _:=Uz _ (Uz _ (Uz _ (UK _ rfl)));have e1:(H5 s.heap l m).get? s.heap.objs.size=some _:=Uz _ (Uz _ (Uz _ (Uz _ (UK _ rfl))));show _/\_;rw[y2,y3,y4] at e5;rw[y1,y2] at e3;rw[y3] at e4;rw[y1] at e2;rw[y4];exact⟨⟨_,e5,rfl⟩,h _ e5 e3 e4 ⟨_,e1,rfl,rfl⟩ ⟨_,e2,rfl,rfl⟩ λc o x=>Uz _ (Uz _ (Uz _ (Uz _ (Uz _ x))))⟩
end
end ZT
end PySem
namespace L2
open PySem PySem.Spec PyProof.Rows
def Mn:bootBuiltins "zip"=some (.type "zip"):=by decide +kernel
section
variable {X:Cx}{ZL:Zf}{σ:List (Option V)}{H H':Hp}{s:Shared}{h':Heap}
def Inv.turnedN{t':Nat}{ch:Zk}(I:Inv X ZL σ H s)(k:∀b o,b∉ch->s.heap.get? b=some o->h'.get? b=some o)(hc:∀b∈ch,mL X ZL H b):Inv X ZL σ H { s with heap:=h',toks:=t' }:=by
 have nin:∀b u,H b=some u->b∉ch:=λb u e z=>by rw[(hc b z).1] at e;cases e
 refine I.step (g':=s.gens) (d':=s.drawn) (ch:=ch) (λb hb=>?_) (λb o _ _ hc e _=>k b o hc e) (λb o _ _ hc e _=>⟨o.slots,k b o hc e⟩) (λ_ _ _ _ n=>n)
  (λb o hc e=>⟨o,k b o hc e⟩) (λ_ _ e=>e) (λ_ _ _ e=>e) (λb ps e=>⟨#[],by rw[e];simp⟩) (λm hm=>?_) (λb u e=>?_) I.bare
 ·obtain⟨f0,f1,f2,f3,f4,f5⟩:=hc b hb;exact⟨f3,f1,f4,f5⟩
 ·obtain⟨o,es,ep,ho,r⟩:=hm;exact⟨o,es,ep,k _ o (λz=>(hc _ z).2.1 rfl) ho,r⟩
 ·refine (I.hok b u e).stay (λc v hc q=>k c v ?_ q) (λ_ q=>q) λ_ _ q=>q;rcases hc with z|z
  ·rw[z];exact nin b u e
  ·exact nin c _ z
end
def NX(K:Zj)(a b:Addr)(xs ys:Za):It:=
 ⟨λi H=>(SqT K H a xs/\SqL K H b ys)/\∃x y,xs[i]?=some x/\ys[i]?=some y,λi H v H'=>∃p x y,v=.ref p/\H p=none/\xs[i]?=some x/\ys[i]?=some y/\H'=upd H p (.tup [x,y]),λi H=>SqT K H a xs/\xs.length=i⟩
def P9(K:Zj)(ta:TA):TI:=λσ H R=>ta σ H λvs H1=>∃a b xs ys,vs=[.ref a,.ref b]/\SqT K H1 a xs/\SqL K H1 b ys/\R (NX K a b xs ys) H1
def IW{n t l:Nat}(h1:t<n)(h2:l<n):ZipApart (n+4) (n+2) (n+3) n (n+1) t l:=by constructor<;>(intro z;exact absurd (show (_:Nat)=_ from z) ())
section
variable {X:Cx}
def Ix{P:Program}{w:World}{K:Zj}{elts:List Expr}{x1:Nat}{pos:Pos}{z TI TO i1 i2 a b:Addr}(D:ZipApart z TI TO i1 i2 a b)(xs ys:Za) :
  Turn P w K (.Tuple elts x1 pos) (NX K a b xs ys) [z,TI,TO,i1,i2] z (λi h=>IsZip h z TI TO .none/\IsPair h TI (.ref i1) (.ref i2)/\(∃u v,IsPair h TO u v)/\h.IsTupleIter i1 a i/\h.IsListIter i2 b i) where
 mem:=by simp
 obj:=λi h st c hc=>by
  obtain⟨hz,hI,⟨u,v,hO⟩,⟨o1,e1,_,d1⟩,⟨o2,e2,_,d2⟩⟩:=st;simp only[UC,Ve,Vf] at hc;rcases hc with rfl|rfl|rfl|rfl|rfl
  ·exact⟨_,hz,λv z=>by cases z⟩
  ·exact⟨_,hI,λv z=>by cases z⟩
  ·exact⟨_,hO,λv z=>by cases z⟩
  ·exact⟨o1,e1,λv z=>by rw[d1] at z;cases z⟩
  ·exact⟨o2,e2,λv z=>by rw[d2] at z;cases z⟩
 keep:=λi h h' st k=>by obtain⟨hz,hI,⟨u,v,hO⟩,h1,h2⟩:=st;exact⟨k z (by simp) _ hz,k TI (by simp) _ hI,⟨u,v,k TO (by simp) _ hO⟩,h1.at λo x=>k i1 (by simp) o x,h2.at λo x=>k i2 (by simp) o x⟩
 item:=by
  intro X hP hw hK hc i ZL s σ H E I hf st hg;subst hP hw hK;obtain⟨⟨hq1,hq2⟩,x,y,hx,hy⟩:=hg;obtain⟨hz,hI,⟨u0,v0,hO⟩,h1,h2⟩:=st;obtain⟨its,rv,p1,_⟩:=I.tuple hq1;obtain⟨jts,rw',p2,_⟩:=I.list hq2;obtain⟨u,hu,ru⟩:=rv.get hx;obtain⟨v,hv,rv'⟩:=rw'.get hy;have lt:∀c o,s.heap.get? c=some o->c<s.heap.objs.size:=λc o e=>UA e;refine ZT.FI D hz hI hO h1 h2 p1 p2.isList (x:=u) (y:=v) (by simpa using hu) (by simpa using hv) λk1 a1 a2 a3 a4 a5 a6 a7=>⟨_,rfl,?_⟩
  refine wpAny_letOwnedTupleGo_zip (s:={ s with heap:=k1 }) a1 λk2 z2 s2=>?_;replace s2:Heap.SameBut z k1 k2:=s2;have I1:Inv X ZL σ (upd H s.heap.objs.size (.tup [x,y])) { s with heap:=s.heap.push { cls:=.type "tuple",data:=.seq #[u,v] },toks:=s.toks }:=by refine I.laid (λb o q=>Uz _ q) (Ux _) ⟨?_,[u,v],.cons ru (.cons rv' .nil),TupN.new _ _⟩;rw[UF,UI,UI,List.length_nil];decide
  have el:∀c∈[z,TI,TO,i1,i2],c<s.heap.objs.size:=λc hc=>by
   simp only[UC,Ve,Vf] at hc;rcases hc with rfl|rfl|rfl|rfl|rfl
   ·exact lt _ _ hz
   ·exact lt _ _ hI
   ·exact lt _ _ hO
   ·obtain⟨_,e,_⟩:=h1;exact lt _ _ e
   ·obtain⟨_,e,_⟩:=h2;exact lt _ _ e
  have f1:∀c∈[z,TI,TO,i1,i2],mL X ZL (upd H s.heap.objs.size (.tup [x,y])) c:=λc hc=>⟨by rw[aL (UH (el c hc))];exact (hf c hc).1,(hf c hc).2⟩
  have I2:Inv X ZL σ (upd H s.heap.objs.size (.tup [x,y])) { s with heap:=k2,toks:=s.toks }:=by
   refine Inv.turnedN (s:={ s with heap:=s.heap.push { cls:=.type "tuple",data:=.seq #[u,v] },toks:=s.toks }) (ch:=[z,TO,i1,i2]) I1 (λc o n q=>?_) λc hc=>f1 c (by simp only[UC,Ve,Vf] at hc;rcases hc with rfl|rfl|rfl|rfl<;>simp);simp only[UC,Ve,Vf,not_or] at n;rw[s2.2 c n.1];rcases Heap.get?_push_cases q with ⟨rfl,rfl⟩|q
   ·exact a5
   ·exact a7 c o n.1 n.2.1 n.2.2.1 n.2.2.2 q
  have up:∀c o,c≠z->k1.get? c=some o->k2.get? c=some o:=λc o n e=>(s2.2 c n).trans e;refine⟨.ref s.heap.objs.size,_,I2,rfl,⟨_,x,y,rfl,I.hok.fresh (Ux _),hx,hy,rfl⟩,⟨z2,?_,⟨_,_,up _ _ D.TOz a2⟩,a3.at λo e=>up _ o D.i1z e,a4.at λo e=>up _ o D.i2z e⟩,λc hc=>(f1 c hc).1⟩;exact up _ _ D.TIz (a7 _ _ D.TIz D.TITO D.TIi1 D.TIi2 hI)
 done:=by
  intro X hP hw hK hc i ZL s σ H E I hf st hg;subst hP hw hK;obtain⟨hq,hx⟩:=hg;obtain⟨hz,hI,⟨u0,v0,hO⟩,h1,h2⟩:=st;obtain⟨its,rv,p,_⟩:=I.tuple hq;have hl:=rv.length;refine ZT.Iw (I.ok.hd hc) D hz hI hO h1 p (by simp;lia) λk1 hk=>⟨rfl,?_⟩
  refine Inv.turnedN (t':=s.toks) (ch:=[z,i1]) I (λc o n e=>?_) λc hc=>hf c (by simp only[UC,Ve,Vf] at hc;rcases hc with rfl|rfl<;>simp);simp only[UC,Ve,Vf,not_or] at n;exact hk c o n.1 n.2 e
 self:=λ_ _ _ _ _ st h=>wpAny_pyIter_zip st.1 h
def sU{elts:List Expr}{x1:Nat}{tpos:Pos}{a b:Expr}{ta:TA}{p pos:Pos}(hg:Gl X "zip") (hm:X.mg "zip"=none) (ha:PA X [a,b] ta) (hs:starEach [a,b] X.env=(false,eval a X.env)::starEach [b] X.env:=by rfl) (hpl:(backTo pos (starEach [b] X.env)).any (·.1)=false:=by rfl) :
  PI X (.Tuple elts x1 tpos) (.Call (.Name "zip" p) [a,b] [] pos) (P9 X.K ta):=by
 intro ZL s σ H R I h;refine Call_ (y9 I hg hm Mn (YF (cr (ha pos ZL s σ H _ I h) λus s1 h1=>?_) hs hpl));obtain⟨vs,H1,I1,r1,t,l,xs,ys,rfl,hq,hq2,q⟩:=h1;obtain⟨u1,u2,rfl,e1,e2⟩:=Vals.two r1;cases (show u1=Value.ref t from e1);cases (show u2=Value.ref l from e2);obtain⟨its,rv,p1,_⟩:=I1.tuple hq;obtain⟨jts,rw',p2,_⟩:=I1.list hq2;have l1:t<s1.heap.objs.size:=by obtain⟨_,e,_⟩:=p1;exact UA e
 have l2:l<s1.heap.objs.size:=by obtain⟨_,e,_⟩:=p2.isList;exact UA e
 refine ZT.Gi p1 p2.isList λh' hz hI hO hi1 hi2 kp=>?_;have I2:Inv X ZL σ H1 { s1 with heap:=h' }:=I1.kept (t':=s1.toks) kp;refine wpAny_pyIter_zip (s:={ s1 with heap:=h' }) hz ?_;have D:ZipApart (s1.heap.objs.size+4) (s1.heap.objs.size+2) (s1.heap.objs.size+3) s1.heap.objs.size (s1.heap.objs.size+1) t l:=IW l1 l2;refine⟨s1.heap.objs.size+4,_,_,_,H1,rfl,I2,Ix D xs ys,⟨hz,hI,⟨_,_,hO⟩,hi1,hi2⟩,λb hb=>?_,q⟩;simp only[UC,Ve,Vf] at hb;rcases hb with rfl|rfl|rfl|rfl|rfl<;>exact I1.fpOk () (I1.hok.fresh ())
end
end L2
namespace M
open PySem L2
section
variable {K:Zj}{S S' H H':Hp}
def w5:Zc->Zc->Zc
 |x::l,y::m=>.tup [x,y]::w5 l m
 |_,_=>[]
theorem BN:∀ {l m:Zc},l.length=m.length->(w5 l m).length=l.length
 |[],_,_=>rfl
 |_::_,[],h=>by cases h
 |_::l,_::m,h=>by unfold w5;rw[UI,UI,BN (by simpa using h)]
theorem BM:∀ {l m:Zc} {i:Nat} {d:D},(w5 l m)[i]?=some d->∃x y,l[i]?=some x/\m[i]?=some y/\d=.tup [x,y]
 |[],_,i,d,h=>by simp[w5] at h
 |_::_,[],i,d,h=>by simp[w5] at h
 |x::l,y::m,0,d,h=>by
  unfold w5 at h;simp at h;exact⟨x,y,rfl,rfl,h.symm⟩
 |x::l,y::m,i+1,d,h=>by unfold w5 at h;rw[Wa] at h;obtain⟨a,b,e1,e2,e3⟩:=BM h;exact⟨a,b,by rw[Wa];exact e1,by rw[Wa];exact e2,e3⟩
def Q4:D->Option (Zc)
 |.tup l=>some l
 |.mtp l=>some l
 |_=>none
def Sh:D->Option (Zc)
 |.lst l=>some l
 |_=>none
def ML{d:D}{l:Zc}(h:Sh d=some l):d=.lst l:=by cases d<;>cases h;rfl
def MM{d:D}{l:Zc}{v:V}(s:Same S H)(h:Q4 d=some l)(dv:Den K S d v):∃p xs,v=.ref p/\SqT K H p xs/\Dens K S l xs:=by
 cases d<;>cases h
 ·exact DenP.tup s (.inl dv)
 ·exact DenP.mtp s (.inl dv)
@[simp]def zO(a b:XE):XA:=λρ=>(a ρ).bind λd=>(Q4 d).bind λl=>(b ρ).bind λe=>(Sh e).bind λm=>if l.length=m.length then some (w5 l m) else none
def IX{l m:Zc}{p q:Addr}{xs ys:Za}(s1:Same S S')(s2:Same S' H')(hl:l.length=m.length)(h1:SqT K S p xs)(d1:Dens K S l xs)(h2:SqL K S q ys)(d2:Dens K S m ys) :
  (∀i d,(w5 l m)[i]?=some d->(NX K p q xs ys).go i H'/\∀x H'',(NX K p q xs ys).yld i H' x H''->∃S'',Ext S' H' S'' H''/\Den K S'' d x)/\(NX K p q xs ys).stop (w5 l m).length H':=by
 have k1:SqT K H' p xs:=bE (s1.trans s2) h1;have k2:SqL K H' q ys:=fi (s1.trans s2) h2;refine⟨λi d hd=>?_,k1,by rw[BN hl];exact d1.length.symm⟩;obtain⟨x,y,e1,e2,rfl⟩:=BM hd;obtain⟨u,g1,g2⟩:=d1.get e1;obtain⟨v,g3,g4⟩:=d2.get e2;refine⟨⟨⟨k1,k2⟩,u,v,g1,g3⟩,λw H'' hy=>?_⟩;obtain⟨b,u',v',rfl,hb,e5,e6,rfl⟩:=hy;rw[g1] at e5;rw[g3] at e6;cases e5;cases e6;have z:=Ext.new (o:=.tup [u,v]) s2 hb;exact⟨_,z,Zx.2 ⟨b,_,rfl,TpA.of aG,.cons ((g2.mono s1).mono z.sh) (.cons ((g4.mono s1).mono z.sh) .nil)⟩⟩
def EA{ta tb:TE}{a b:XE}{ρ:Env}{σ:St}{R:It->Hp->Prop}{l:Zc}(h:SE K ta a)(hb:SE K tb b)(r:Rl K ρ σ S H)(x:zO a b ρ=some l)
  (k:∀J S' H',Ext S H S' H'->(∀S2 H2,Same S' S2->Same S2 H2->(∀i d,l[i]?=some d->J.go i H2/\∀x H'',J.yld i H2 x H''->∃S'',Ext S2 H2 S'' H''/\Den K S'' d x)/\J.stop l.length H2)->R J H'):P9 K (cj ta (cj tb eV)) σ H R:=by
 obtain⟨d,qa,x⟩:=ZM x;obtain⟨l1,ql,x⟩:=ZM x;obtain⟨e,qb,x⟩:=ZM x;obtain⟨m,qm,x⟩:=ZM x;split at x
 ·rename_i hl;cases x;refine h ρ σ S H _ d r qa λv S1 H1 z1 d1=>hb ρ σ S1 H1 _ e (r.ext z1) qb λu S2 H2 z2 d2=>?_;rw[ML qm] at d2;obtain⟨q,ys,rfl,g1,g2⟩:=Zs.1 d2;obtain⟨p,xs,rfl,f1,f2⟩:=MM (Same.refl S2) ql (d1.mono z2.sh);exact⟨p,q,xs,ys,rfl,bE z2.sub f1,.inl (cK z2.sub g1),k _ S2 H2 (z1.trans z2) λS3 H3 s1 s2=>IX s1 s2 hl f1 f2 (.inl g1) g2⟩
 ·cases x
def Dz{ta tb:TE}{a b:XE}(h:SE K ta a)(hb:SE K tb b):QE K (P9 K (cj ta (cj tb eV))) (zO a b):=λρ σ S H R l r x k=>
 EA h hb r x λJ S' H' z w=>k J S' H' z λS2 H2 z2=>w S2 H2 z2.sh z2.sub
def GM{ta tb:TE}{a b:XE}(h:SE K ta a)(hb:SE K tb b):P0 K (P9 K (cj ta (cj tb eV))) (zO a b):=λρ σ S H R l r x k=>
 EA h hb r x λJ S' H' z w=>k J S' H' z w
end
end M
namespace PySem
section
variable {prog:Program}{w:World}{A:Around}{E:Ze}{s:Shared}{env:Env}
def xf:entryFor table "proto.unchain"=some Builtin.«proto.unchain»:=entryFor_of_tree (by kernel_rfl)
def zK{e h:Addr}{R:Result->Shared->Prop}(c:jp h s.heap)(q:R (.ok (.ret .none)) s):codeAny (model prog w) A (.builtin "proto.unchain" ⟨[.ref e,.ref h,.ref h,.bool false],[]⟩) R s:=by obtain⟨o,vs,h1,h2,h3⟩:=c;refine V4 xf ?_;show wpAny _ _ (field (.ref h) 2 >>= _) _ _ _;refine Ut (US h1 h2 h3 ?_);show wpAny _ _ (if (Value.none==Value.none)=true then _ else _) _ _ _;rw[Uv (by decide)];exact Uw q
variable {nm q:Str}{C N:Addr}{bs bm:Zh}{hdct:Bool}{sn:Zl}{sub:Zh}{ab:Bool}{col:Option Bool}{dd:Option Addr}{k0 k1 k2 k3 k5:Zi}{newId:String}
def Bc{hx:Addr}{x c:Sem Value}{Q:Flow->Shared->Prop}(hbase:bm.contains (.type "BaseException")=true) (hh:A.handled=some (.ref hx))
  (h:wpAny (model prog w) A x (λv s₁=>∃e t,v=.ref e/\e≠hx/\jp hx s₁.heap/\s₁.heap.get? C=some (excClassObj nm q C N bs bm hdct sn sub ab col dd k0 k1 k2 k3 k5 newId) /\
   s₁.heap.get? e=some { cls:=.ref C,data:=.fields #[.ref t,.none,.none,.none,.bool false,.none] } /\
   wpAny (model prog w) A c (λcv s₂=>cv=.none/\s₂=s₁/\∀h',h'.get? e=some { cls:=.ref C,data:=.fields #[.ref t,.none,.ref hx,.none,.bool true,.none] }->(∀b,b≠e->h'.get? b=s₁.heap.get? b)->E (.ref e) { s₁ with heap:=h' }) E s₁) E s) :
  wpAny (model prog w) A (raiseStmt env (some x) (some c)) Q E s:=by
 have hcB:(Value.ref C::bm).contains (.type "BaseException")=true:=by rw[List.contains_cons,hbase,Bool.or_true]
 unfold raiseStmt;refine Ut (UO h (λv s₁ h₁=>?_) λ_ _ x=>x);obtain⟨e,t,rfl,hne,hc2,hC,he,hE⟩:=h₁;refine Ut (UY (UO hE (λcv s₂ h₂=>?_) λ_ _ x=>x));obtain⟨rfl,rfl,hE⟩:=h₂;obtain⟨hp,g,d,tk,os⟩:=s₂;replace he:hp.get? e=_:=he;replace hC:hp.get? C=_:=hC;have nCe:C≠e:=λz=>by rw[z,he] at hC;cases hC
 have he3:(hp.update e (Obj.mapFields (·.setIfInBounds 3 Value.none))).get? e=some { cls:=.ref C,data:=.fields #[.ref t,.none,.none,.none,.bool false,.none] }:=Vc _ he rfl;have he4:(⟨(hp.update e (Obj.mapFields (·.setIfInBounds 3 Value.none))).update e (Obj.mapFields (·.setIfInBounds 4 (Value.bool true))),g,d,tk,os⟩:Shared).heap.get? e=some { cls:=.ref C,data:=.fields #[.ref t,.none,.none,.none,.bool true,.none] }:=Vc _ he3 rfl;have oth:∀b,b≠e->((hp.update e (Obj.mapFields (·.setIfInBounds 3 Value.none))).update e (Obj.mapFields (·.setIfInBounds 4 (Value.bool true)))).get? b=hp.get? b:=λb hb=>(Vu _ _ (UB hb)).trans (Vu _ _ (UB hb));have hC4:(⟨(hp.update e (Obj.mapFields (·.setIfInBounds 3 Value.none))).update e (Obj.mapFields (·.setIfInBounds 4 (Value.bool true))),g,d,tk,os⟩:Shared).heap.get? C=some (excClassObj nm q C N bs bm hdct sn sub ab col dd k0 k1 k2 k3 k5 newId):=(oth C nCe).trans hC;have he0:(⟨hp,g,d,tk,os⟩:Shared).heap.get? e=some _:=he;have hC0:(⟨hp,g,d,tk,os⟩:Shared).heap.get? C=some _:=hC;refine Ut (Uw ?_);dsimp only
 repeat (first|with_reducible refine Xe he0 ?_|with_reducible refine Xe hC0 ?_|with_reducible refine Xe hC4 ?_|with_reducible refine Xe he4 ?_|(with_reducible refine wpAny_isSubtype_exc hC0 ?_;rw[hcB])|wp_step)
 unfold raiseNew;refine Ut (W5 ?_);rw[hh];dsimp only;rw[Uv (by simpa using UB hne)];have c4:jp hx (⟨(hp.update e (Obj.mapFields (·.setIfInBounds 3 Value.none))).update e (Obj.mapFields (·.setIfInBounds 4 (Value.bool true))),g,d,tk,os⟩:Shared).heap:=by obtain⟨o,vs,q1,q2⟩:=hc2;exact⟨o,vs,(oth hx (UB hne)).trans q1,q2⟩
 refine Ut (UY (wpAny_runValue (zK c4 ?_)));refine Ut ?_;unfold updateField;refine Ut (Xk he4 ?_);dsimp only;rw[Uv (show 2<(#[Value.ref t,Value.none,Value.none,Value.none,Value.bool true,Value.none]:Array Value).size from (by show 2<6;decide))];refine wpAny_update he4 ?_;refine VJ (hE _ (Vc _ he4 rfl) λb hb=>(Vu _ _ (UB hb)).trans (oth b hb))
variable {nm q:Str}{C N:Addr}{bs bm bmB:Zh}{hdct:Bool}{sn:Zl}{sub:Zh}{ab:Bool}{col:Option Bool}{dd:Option Addr}{k0 k1 k2 k3 k5:Zi}{B newId initId:String}
def vi{hx:Addr}(F:ExcBaseFacts B newId initId bmB){mN:Zg}{x:Str}{np cpos pos npos:Pos}{args:List Expr}{Q:Flow->Shared->Prop}
  (hbase:bm.contains (.type "BaseException")=true) (hh:A.handled=some (.ref hx)) (hp0:(backTo cpos (starEach args env)).any (·.1)=false) (hni:mN "__init__"=none)
  (h:wpAny (model prog w) A (eval (.Name x np) env) (λf s₁=>f=.ref C/\wpAny (model prog w) A (evalArgs (.ref C) true (backTo cpos (starEach args env)) [])
   (λa s₂=>a.kw=[]/\a.pos.length<=sizeLine/\s₂.heap.get? C=some (excClassObj nm q C N bs bm hdct sn sub ab col dd k0 k1 k2 k3 k5 newId)/\s₂.heap.Ns N mN/\OwnTail s₂.heap bmB bm/\jp hx s₂.heap /\
    ∀h' e t,s₂.heap.get? e=none->h'.get? e=some { cls:=.ref C,data:=.fields #[.ref t,.none,.ref hx,.none,.bool true,.none] }->(∀b o,s₂.heap.get? b=some o->h'.get? b=some o)->E (.ref e) { s₂ with heap:=h' }) E s₁) E s) :
  wpAny (model prog w) A (exec (.Raise (some (.Call (.Name x np) args [] cpos)) (some (.Constant .none 0 npos)) pos) env) Q E s:=by
 rw[arm_exec_Raise];simp only[evalOpt,Option.map];refine Ut (Vz (Bc (C:=C) (nm:=nm) (q:=q) (N:=N) (bs:=bs) (bm:=bm) (hdct:=hdct) (sn:=sn) (sub:=sub) (ab:=ab) (col:=col) (dd:=dd) (k0:=k0) (k1:=k1) (k2:=k2) (k3:=k3) (k5:=k5) (newId:=newId) hbase hh ?_));refine Ut (UO (wpAny_Call_ofName (UO h (λf s₁ h₁=>?_) λ_ _ x=>x)) (λv s₃ h₃=>Ut (Vz (Uw h₃))) λ_ _ x=>x);obtain⟨rfl,h₁⟩:=h₁;unfold callWith;refine Ut (UY (UO h₁ (λa s₂ h₂=>Ut (Vz ?_)) λ_ _ x=>x));obtain⟨ap,ak⟩:=a;obtain⟨hkw,ZO,hC,hn,T,hc,h₂⟩:=h₂;obtain rfl:ak=[]:=hkw;obtain⟨hp,g,d,tk,os⟩:=s₂;simp only[hp0];refine Ut (wpAny_keeperOf_exc hC ?_);refine Ut (wpAny_call_exc_subT (hrest:=ZO) F T hC hn hni λh' e hm=>Ut (UY (X9 (Uw ?_))));obtain⟨t,ht,_,_⟩:=hm.there;have ne:e≠hx:=λz=>by obtain⟨o,vs,q1,_⟩:=hc;have:=hm.new;rw[z] at this;exact absurd (this.symm.trans q1) (by intro y;cases y)
 refine⟨e,t,rfl,ne,?_,hm.keeps _ _ hC,ht,?_⟩
 ·obtain⟨o,vs,q1,q2⟩:=hc;exact⟨o,vs,hm.keeps _ _ q1,q2⟩
 ·refine Ut ?_;show wpAny _ _ (pure Value.none) _ _ _;exact Uw (Ut (Vz (Uw ⟨rfl,rfl,λh2 q1 q2=>h₂ h2 e t hm.new q1 λb o z=>by
   have nb:b≠e:=λy=>by rw[y] at z;exact absurd (hm.new.symm.trans z) (by intro y;cases y)
   rw[q2 b nb]
   exact hm.keeps b o z⟩)))
def Gj{M:Model}{base:Heap}{l:List Env}{e:Addr}{cls a0 fl:Value}{Ex:Ze}(hkb:base.StaysIn s.heap)(hl:s.heap.FunFrames base l)(ht:s.heap.TracedAtW base e cls a0 fl)
  (h:∀h' fl',base.StaysIn h'->h'.FunFrames base l->h'.TracedAtW base e cls a0 fl'->s.heap.UpToSlots h'->Ex (.ref e) { s with heap:=h' }):cameBackBy M A env Ex (.ref e) s:=by
 obtain⟨oe,vs,T,oT,ts,he,hcls,hd,h1,hnT,hTe,hT,hdT,h3⟩:=ht;have hsz3:3<ts.size:=(Wt.1 h3).1;have other:∀b,b≠T->(s.heap.update T (Obj.mapFields (·.setIfInBounds 3 (env.frame.elim Value.none λf=>rawInt f)))).get? b=s.heap.get? b:=λb hb=>Vu _ _ (UB hb);have noRec:∀b o,s.heap.get? b=some o->(∀vs,o.data ≠ .fields vs)->b≠T:=λb o hb hnf q=>by rw[q,hT] at hb;injection hb with hb;subst hb;exact hnf ts hdT
 unfold cameBackBy;refine Ut (US he hd h1 ?_);rw[Uu (show ¬((Value.ref T==Value.none)=true) from by simp)];unfold setFlight;refine Ut (US he hd h1 ?_);rw[Uv (show (Value.ref T != Value.none)=true from by simp)];refine VS hT hdT hsz3 (h _ (env.frame.elim Value.none λf=>rawInt f) (λb o z=>(other b λy=>by rw[y,hnT] at z;cases z).trans (hkb b o z)) (hl.of_keeps λb o hb hnf=>⟨o,(other b (noRec b o hb hnf)).trans hb,rfl⟩) ?_ λb o hb hnf=>⟨o.slots,(other b (noRec b o hb hnf)).trans hb⟩);exact⟨oe,vs,T,_,_,(other e (UB hTe)).trans he,hcls,hd,h1,hnT,hTe,Vc _ hT (VR (Vo hdT _)),Vo hdT _,by simp[hsz3]⟩
end
end PySem
namespace L2
open PySem PySem.Spec PyProof.Rows
def LJ(K:Zj)(L0:Zl)(N1 N2:Str)(tx:XK->St->Hp->Prop)(tu:TS)(E:XK):TS:=λD σ H=>
 tx (λcls fx H'=>(fx=none/\∃C,cls=.ref C/\W.nsIn K mainGlobals N1=some (some (.ref C))/\∀C2,W.nsIn K mainGlobals N2=some (some (.ref C2))->E (.ref C2) (some 0) H') \/
  ∃N C,N∈L0/\cls=.ref C/\W.nsIn K mainGlobals N=some (some (.ref C))/\E cls fx H') σ H\/tu D σ H
section
variable {X:Cx}{E:XK}{k:Nat}{f:Addr}{fd:FuncData}{ps:Zl}{sp:Sp}{x:Str}{p cpos pos:Pos}{e:Expr}{es:List Expr}{t:TA}
def MU(F:Zq X.prog X.w X.K X.mg X.base (g6 X.prog X.w) k f fd ps sp)(hr:ZA k X.A)(hg:Gl X x)(hm:X.mg x=some (.ref f))(hk:PySem.W.keepIn X.K (.ref f)=true)(hb:Binds X.K fd ps [])
  (ha:∀ps W,PA ((X.pin ps).wish W) (e::es) t) (hdb:(x==("__debug__" : Str))=false:=by decide) (he:starEach (e::es) X.env=(false,eval e X.env)::starEach es X.env:=by rfl) (hpl:(backTo cpos (starEach es X.env)).any (·.1)=false:=by rfl) :
  PB X [.Return (some (.Call (.Name x p) (e::es) [] cpos)) pos] (Sk sp t):=by
 intro ps' W E σ hx s H I h;refine VV (cr (YA (Q:=λ_ _=>False) (cr (Q:=EP ((X.pin ps').wish W) [] σ λ_ _=>False) ?_ λv s1 ⟨_,_,_,_,q⟩=>q.elim)) λ_ _ q=>q.elim);refine VW (gH (X:=(X.pin ps').wish W) I hg hm ?_ hdb);refine aal (h₀:=X.base) I.ok.mod.kin hk (cr (ha ps' W cpos [] s σ H _ I h) λus s1 ⟨vs,H1,I1,r,q⟩=>⟨I1.kIn,?_⟩) he hpl;exact Bo (X:=(X.pin ps').wish W) F hr hb hx I1 r q
end
section
variable {X:Cx}{E:XK}{body:List Stmt}{x N1 N2:Str}{L0:Zl}{tx:XK->St->Hp->Prop}{tu:TS}{msg:Str}{mj:Nat}{np np2 cpos npos rpos hp pos mpos:Pos}
def AE{ZL:Zf}{σ:St}{H1 H':Hp}{s1:Shared}{s':Shared}{h' B:Heap}{ee:Addr}{cls a0 fl:Value}{fx:Option Addr}(hL:zT X E)(hex:X.ex=[])(J1:Inv X ZL σ H1 s1)(ho:s'.os=s1.os)(hg:AllBare s'.gens)(un:Un (mG X.stack) [] H1 H' s1.heap s'.heap)(hok:HOk X.prog X.w H' s'.heap)
  (hE:E cls fx H') (cx:fx=none->jp ee h') (b0:B.StaysIn s'.heap) (b1:B.StaysIn h') (b2:B.get? ee=none) (b3:h'.FunFrames B X.stack) (b4:h'.TracedAtW B ee cls a0 fl) (sm:s'.heap.UpToSlots h')
  (k1:∀b u,H' b=some u->∃o,B.get? b=some o) (k2:∀b o,s1.heap.get? b=some o->b∉mG X.stack->∃o',B.get? b=some o'):X.xe (.ref ee) { s' with heap:=h' }:=by
 have J5:Inv X ZL σ H' { s' with heap:=h' }:=J1.call' (s':={ s' with heap:=h' }) ho (pQ un k2 J1.nfS J1.stkFree b0 b1 sm) (i6 hok b0 b1 k1) hg (λb z=>by cases z);refine hL ZL σ H' _ ee cls a0 fl fx B J5 hE cx b1 b2 b3 b4 k1 λb o q z=>?_;obtain⟨o1,q1⟩:=J1.base.there b o q (by rw[hex];intro y;cases y);exact k2 b o1 q1 (J1.notStk q z)
def Kf(hL:zT X E)(hm:∃T:Addr,X.mg x=some (.ref T)/\(∀C:Addr,PySem.W.nsIn X.K mainGlobals N1=some (some (.ref C))->PySem.W.exmOne X.K (.ref C) (.ref T)=some true)/\∀N∈L0,∀C:Addr,PySem.W.nsIn X.K mainGlobals N=some (some (.ref C))->PySem.W.exmOne X.K (.ref C) (.ref T)=some false)(hg:Gl X x)
  (hr:∃C:Addr,PySem.W.nsIn X.K mainGlobals N2=some (some (.ref C))/\PySem.W.excIn X.K C xJ "ValueError.__new__"=true/\X.mg N2=some (.ref C)) (hg2:Gl X N2) (hx:PB X body tx) (hu:∀(ps:Zf) (W:Ze),PSs ((X.pin ps).wish W) body tu)
  (hex:X.ex=[]:=by rfl) (hst:X.stack=X.env::X.outer:=by rfl) (hfr:X.env.frame=some X.env.locals:=by rfl) (hdb:(x==("__debug__" : Str))=false:=by decide) (hdb2:(N2==("__debug__" : Str))=false:=by decide)
  (h1:backTo cpos (starEach [.Constant (.str msg) mj mpos] X.env)=[(false,eval (.Constant (.str msg) mj mpos) X.env)]:=by rfl) :
  PS X (.Try body [.ExceptHandler (some (.Name x np)) none [.Raise (some (.Call (.Name N2 np2) [.Constant (.str msg) mj mpos] [] cpos)) (some (.Constant .none 0 npos)) rpos] hp] [] [] pos) (LJ X.K L0 N1 N2 tx tu E):=by
 intro ZL s σ H D I h;refine wpAny_Try_except ?_;rcases h with h|h
 ·refine UO (hx ZL (λv s1=>wpAny (model X.prog X.w) X.A (noteFrame v X.env) (λ_ s2=>wpAny (model X.prog X.w) X.A (setFlight v none) (λ_ s3=>wpAny (model X.prog X.w) X.A (handleBy v X.env [.ExceptHandler (some (.Name x np)) none [.Raise (some (.Call (.Name N2 np2) [.Constant (.str msg) mj mpos] [] cpos)) (some (.Constant .none 0 npos)) rpos] hp]) (SP X ZL D) X.xe s3) X.xe s2) X.xe s1) _ σ ?_ s H (I.toPin.wish _) h) (λf s1 q=>q.elim) λ_ _ z=>z;intro ps H1 s1 v s' J hx;obtain⟨e,cls,a0,fx,H',B,rfl,ho,hgn,un,hok,⟨hE,cx⟩,fl,k1,k2⟩:=hx;obtain⟨T,hm,hmt,hmf⟩:=hm;have J1:Inv X ZL σ H1 s1:=Inv.ofPin I.ok J.unwish;have fl:Heap.FlyingW B (X.env::X.outer) e cls a0 s'.heap:=hst▸fl;have hfrm:X.A.frames=some (X.env::X.outer):=by rw[I.ok.frames,hst]
  refine kd (fx:=fx) (sN _ _) cx ?_;refine Yc hfrm hfr fl λh4 held sm4 cx4=>?_;refine kd (fx:=fx) (gK _ _) cx4 ?_;refine wpAny_landsW held λh5 fl5 sm5 cx5=>?_;have sm5:=sm4.trans sm5;have un5:=pQ un k2 J1.nfS J1.stkFree fl.1 fl5.1 sm5;have hok5:=i6 hok fl.1 fl5.1 k1;have J5:Inv X ZL σ H' { s' with heap:=h5 }:=J1.call' ho un5 hok5 hgn (λb z=>by cases z);obtain⟨oe,vs,he',hc,hd,_⟩:=fl5.first;refine aaf (aag (gH (X:=X.hold e) (J5.hold e) hg hm ?_ hdb)) (by intro z;cases z);rcases hE with ⟨rfl,C,rfl,hC,hE⟩|⟨M,C,hM,rfl,hC,hE⟩
  ·have LT:PySem.W.Looks (model X.prog X.w) h5 (typeOf (.ref e)) (.ref C):=hc▸(Ym he').andThen .now;refine (Yn (J5.kIn) LT (hmt C hC)).here ?_;refine codeAny_handlers_suite ?_;refine sL (e:=e) (gK _ _) (cx5 rfl) ?_;refine lands_againW fl5 λh6 fl6 sm6 cx6=>?_;have sm6:=sm5.trans sm6;have J6:Inv X ZL σ H' { s' with heap:=h6 }:=J1.call' ho (pQ un k2 J1.nfS J1.stkFree fl.1 fl6.1 sm6) (i6 hok fl.1 fl6.1 k1) hgn (λb z=>by cases z);obtain⟨C2,hN,hq,hm2⟩:=hr;have hE:=hE C2 hN;obtain⟨tl,Nn,nm,q,bs,hdct,sn,sub,ab,col,dd,c0,c1,c2,c3,c5,mN,hC2,hNs,hni,T2⟩:=Dx J6.ok.mod.kin hq;refine VV ?_
   refine vi (hx:=e) (C:=C2) (nm:=nm) (q:=q) (N:=Nn) (bs:=bs) (bm:=tl) (hdct:=hdct) (sn:=sn) (sub:=sub) (ab:=ab) (col:=col) (dd:=dd) (k0:=c0) (k1:=c1) (k2:=c2) (k3:=c3) (k5:=c5)
    WZ (mN:=mN) (T2.hasType WZ.hasBase) rfl (by rw[h1];rfl) hni (gH (X:=X.hold e) (J6.hold e) hg2 hm2 ⟨rfl,?_⟩ hdb2)
   rw[h1];refine Wm (WK (Yx (WJ ?_)));refine⟨rfl,UD (show 1<=1000 by decide) (by rw[UF];decide),J6.bk _ _ hC2,hNs.keeps J6.bk,T2.keeps J6.bk,cx6,λh' e2 t n2 q1 q2=>?_⟩;replace n2:h6.get? e2=none:=n2;replace q2:∀b o,h6.get? b=some o->h'.get? b=some o:=q2;have hin:∀env∈X.stack,∀b,env.frame=some b->b∈mG X.stack:=λenv he b hb=>WH.2 ⟨env,he,hb⟩;have b0:(PySem.W.hideAll h6 (mG X.stack)).StaysIn h':=λb o z=>q2 b o (V8 _ z);have b2:(PySem.W.hideAll h6 (mG X.stack)).get? e2=none:=by
    cases z:(PySem.W.hideAll h6 (mG X.stack)).get? e2 with
    |none=>rfl
    |some o=>rw[V8 _ z] at n2;cases n2
   have b3:h'.FunFrames (PySem.W.hideAll h6 (mG X.stack)) (X.env::X.outer):=hst▸(PySem.W.funFrames_hide J6.stack hin).of_keeps λb o hb _=>⟨o,q2 b o hb,rfl⟩
   show wpAny _ _ (noteFrame (.ref e2) X.env) _ _ _;unfold noteFrame;simp only[hfr];refine Ut (US q1 rfl (x:=.none) rfl ?_);rw[Uu (by decide)];refine wpAny_entryW (s:={ s' with heap:=h',toks:=s'.toks+1 }) hfrm b3 hfr q1 b0 b2 rfl (by show 1<6;decide) rfl λh7 ZN=>?_;obtain⟨x1,x2,x3,x4⟩:=ZN;refine Gj x1 x2 x3 λh8 fl8 y1 y2 y3 y4=>?_;have J7:Inv X ZL σ H' { s' with heap:=h6,toks:=s'.toks+1 }:=J6.tok _
   refine AE (s1:={ s' with heap:=h6,toks:=s'.toks+1 }) (s':={ s' with heap:=h',toks:=s'.toks+1 }) hL hex J7 rfl hgn ⟨λb o z _ _ _=>q2 b o z,λb o z _ _ _=>⟨o.slots,q2 b o z⟩,λb o _ n _=>n,λb o z _=>⟨o,q2 b o z⟩,λb xs z=>z,λb o u z=>z,λb ps z=>⟨#[],by rw[z];simp⟩⟩
    (J7.kept (h':=h') (t':=s'.toks+1) q2).hok hE (λz=>by cases z) b0 y1 b2 (by have z:=y2;rw[<-hst] at z;exact z) y3 ((show Heap.UpToSlots h' h7 from x4).trans y4) (λb u z=>?_) λb o z n=>⟨o,W4 _ z n⟩
   obtain⟨o,z1⟩:=(J7.hok b u z).at_;exact⟨o,W4 _ z1 λhb=>by rw[J7.stkFree b hb] at z;cases z⟩
  ·have LT:PySem.W.Looks (model X.prog X.w) h5 (typeOf (.ref e)) (.ref C):=hc▸(Ym he').andThen .now;refine (Yn (J5.kIn) LT (hmf M hM C hC)).here ?_;show wpAny _ _ (passOn "try.no-clause-matches" (.ref e) X.env) _ _ _;refine kd (fx:=fx) (sO _ _ _) cx5 ?_;refine wg fl5.1 fl5.2.2.1 fl5.2.2.2.at λh6 fl6 y1 y2 y3 y4 cx6=>?_;exact AE (s':=s') hL hex J1 ho hgn un hok hE cx6 fl.1 y1 fl5.2.1 (by rw[hst];exact y2) y3 (sm5.trans y4) k1 k2
 ·refine UO (hu ZL (λv s1=>wpAny (model X.prog X.w) X.A (noteFrame v X.env) (λ_ s2=>wpAny (model X.prog X.w) X.A (setFlight v none) (λ_ s3=>wpAny (model X.prog X.w) X.A (handleBy v X.env [.ExceptHandler (some (.Name x np)) none [.Raise (some (.Call (.Name N2 np2) [.Constant (.str msg) mj mpos] [] cpos)) (some (.Constant .none 0 npos)) rpos] hp]) (SP X ZL D) X.xe s3) X.xe s2) X.xe s1) [] s σ H D (I.toPin.wish _) h) (λf s1 q=>?_) λ_ _ z=>z;have q:SP X ZL D f s1:=by
   have q:=q.unwish;cases f with
   |next=>obtain⟨σ',H',J,z⟩:=q;exact⟨σ',H',Inv.ofPin I.ok J,z⟩
   |brk=>obtain⟨σ',H',J,z⟩:=q;exact⟨σ',H',Inv.ofPin I.ok J,z⟩
   |cont=>obtain⟨σ',H',J,z⟩:=q;exact⟨σ',H',Inv.ofPin I.ok J,z⟩
   |ret u=>obtain⟨v,σ',H',J,r,z⟩:=q;exact⟨v,σ',H',Inv.ofPin I.ok J,r,z⟩
  cases f with
  |next=>exact Wg q
  |brk|cont|ret _=>exact q
end
end L2
namespace PySem
def Txt.splitM(x y:Str)(k:Int):Zl:=
 if (decide (x.length<y.length) || decide (Builtin.Str.strKind x<Builtin.Str.strKind y))=true then [x] else if (Builtin.Str.occurrences x y 0 x.length (limitOf x k)).isEmpty=true then [x] else Builtin.Str.partsBetween x (Builtin.Str.occurrences x y 0 x.length (limitOf x k)) y.length
def yr(x y:Str)(k:Int)(t u v:Tok)(hk:(decide (k < -(2^63:Int)) || decide (k ≥ 2^63))=false)(hy:(y.length==0)=false)
  (h:(decide (x.length<y.length) || decide (Builtin.Str.strKind x<Builtin.Str.strKind y))=true\/(decide (x.length<y.length) || decide (Builtin.Str.strKind x<Builtin.Str.strKind y))=false/\(Builtin.Str.occurrences x y 0 x.length (limitOf x k)).isEmpty=true) :
  Meets (Builtin.«str.split» ⟨[.str x t,.str y u,.int k v],[]⟩) (λ_ R s=>R (.ok (.ret (.ref s.heap.objs.size))) { s with heap:=s.heap.push { cls:=.type "list",data:=.seq #[.str x t] } }):=by
 obtain⟨raising,htree⟩:=split_sep_max_tree x y k t u v hk;refine .of_wp λprog w A R s q=>?_;rw[htree];rcases h with h|⟨h,hf⟩
 ·rw[Uv h];exact Ut (VI (Ut (Wn (Uw ⟨_,rfl,q⟩) (by show 1<=sizeLine;decide))))
 ·rw[Uu (by rw[h];decide),Uu (by rw[hy];decide),Uv (by rw[hf];rfl)];exact Ut (VI (Ut (Wn (Uw ⟨_,rfl,q⟩) (by show 1<=sizeLine;decide))))
end PySem
namespace L2
open PySem PySem.Spec PyProof.Rows
section
variable {X:Cx}
def rSplitM:V->Za->Hp->VK->Prop:=λx vs H Q=>∃y z,∃k:Int,x=.str y/\vs=[.str z,.int k]/\z.length≠0/\y.length+2<=sizeLine/\(0<=k/\k<1000)/\∀l,H l=none->Q (.ref l) (upd H l (.lst ((Txt.splitM y z k).map V.str)))
def Fi:Jb X "str.split" rSplitM:=by
 intro ZL s σ H x vs v us Q I rx rv h;obtain⟨y,z,k,rfl,rfl,hz,hy,⟨k0,k1⟩,q⟩:=h;obtain⟨t,rfl⟩:=rx;obtain⟨u1,u2,rfl,e1,e2⟩:=Vals.two rv;obtain⟨t',rfl⟩:=e1;obtain⟨t2,rfl⟩:=e2;have hz':(z.length==0)=false:=by simpa using hz
 have hk:(decide (k < -(2^63:Int)) || decide (k ≥ 2^63))=false:=by rw[Bool.or_eq_false_iff];exact⟨UU (),UU ()⟩
 have fin:∀(ys:Zl) (its:Zh) (tk:Nat),Txt.splitM y z k=ys->Vals (ys.map V.str) its->ys.length<=sizeLine->EP X ZL σ Q (.ref s.heap.objs.size) { s with heap:=s.heap.push { cls:=.type "list",data:=.seq its.toArray },toks:=tk }:=λys its tk e r hl=>by subst e;refine⟨.ref s.heap.objs.size,_,I.laid (o:=.lst ((Txt.splitM y z k).map V.str)) (λb ob q=>Uz _ q) (Ux _) ?_,rfl,q _ (I.hok.fresh (Ux _))⟩;exact⟨by rw[UN];exact hl,its,0,r,UK _ rfl⟩
 cases h1:(decide (y.length<z.length) || decide (Builtin.Str.strKind y<Builtin.Str.strKind z)) with
 |true=>
  refine Vn V6 (Vm _ _ _) V7 (Yo _ _ _) (yr y z k t t' t2 hk hz' (.inl h1)) ?_;exact fin [y] [.str y t] s.toks (by unfold Txt.splitM;rw[Uv h1]) (.cons ⟨t,rfl⟩ .nil) (by show 1<=sizeLine;decide)
 |false=>
  cases hf:(Builtin.Str.occurrences y z 0 y.length (limitOf y k)).isEmpty with
  |true=>
   refine Vn V6 (Vm _ _ _) V7 (Yo _ _ _) (yr y z k t t' t2 hk hz' (.inr ⟨h1,hf⟩)) ?_;exact fin [y] [.str y t] s.toks (by unfold Txt.splitM;rw[Uu (by rw[h1];decide),Uv hf]) (.cons ⟨t,rfl⟩ .nil) (by show 1<=sizeLine;decide)
  |false=>
   have hl:(Builtin.Str.partsBetween y (Builtin.Str.occurrences y z 0 y.length (limitOf y k)) z.length).length<=sizeLine:=by rw[YX];have:=YY y z 0 y.length (limitOf y k);lia
   refine Vn V6 (Vm _ _ _) V7 (Yo _ _ _) (meets_str_split_sep_max y z k t t' t2 hk h1 hz' hf (UD (XV _ _) hy) hl) ?_;exact fin _ _ _ (by unfold Txt.splitM;rw[Uu (by rw[h1];decide),Uu (by rw[hf];decide)]) (tE _ _) hl
def D2(K:Zj):V->Za->Hp->VK->Prop:=λx vs H Q=>∃p,∃bs:List Bool,x=.ref p/\vs=[.bl true]/\SqL K H p (bs.map V.bl)/\Q (.int (bs.count true)) H
theorem yn(h:Heap):∀ {bs:List Bool} {us:Zh},Vals (bs.map V.bl) us->ReadsAll h us (bs.map PyData.bool) []
 |[],us,r=>by cases r;exact .nil
 |b::bs,us,r=>by
  cases r with
  |cons a r=>cases (show _=Value.bool b from a);exact .cons (as:=[]) (.bool b) (yn h r)
theorem tN:∀bs:List Bool,countIn (.bool true) (bs.map PyData.bool)=(bs.count true:Nat)
 |[]=>rfl
 |b::bs=>by rw[UG,countIn,tN bs,List.count_cons];cases b<;>simp[same];lia
def Fg:Jb X "list.count" (D2 X.K):=by intro ZL s σ H x vs v us Q I rx rv h;obtain⟨p,bs,rfl,rfl,hS,q⟩:=h;cases (show v=Value.ref p from rx);obtain⟨u,rfl,ru⟩:=rv.one;cases (show u=Value.bool true from ru);obtain⟨its,rl,pl,_⟩:=I.list hS;refine count_list_bools pl.isList (yn s.heap rl) (by simp[Shape.has]) ?_;rw[tN];exact⟨.int _,H,I.tok _,⟨_,rfl⟩,q⟩
end
def C7(K:Zj)(Ns:Zl)(m:Str)(sp:Sp)(E:XK)(ta:TE)(t:TA):TE:=λσ H Q=>ta σ H λx H1=>∃a C dx fs,I0 K Ns H1 x a C dx fs/\fs.lookup m=none/\t σ H1 λvs H2=>sp (x::vs) H2 Q E
def Pr(K:Zj)(Ns:Zl)(m:Str)(sp:Sp)(ta:TE)(t:TA):XK->St->Hp->Prop:=λE σ H=>ta σ H λx H1=>∃a C dx fs,I0 K Ns H1 x a C dx fs/\fs.lookup m=none/\t σ H1 λvs H2=>sp (x::vs) H2 (λ_ _=>False) E
section
variable {X:Cx}{CX:zR}{o e:Expr}{es:List Expr}{m:Str}{pos apos spos:Pos}{ta:TE}{t:TA}{Ns:Zl}{k:Nat}{g:Addr}{fd:FuncData}{ps:Zl}{sp:Sp}{E:XK}
def Hs{pl:Sem Bool}(hc:qL X.K Ns λC=>Cls X.K C/\Meth X.K C m g)(F:Zq X.prog X.w X.K X.mg X.base CX k g fd ps sp)(hr:ZA k X.A)(hb:Binds X.K fd ps [])(hx:gc CX X E)(he:PE X o ta)(ha:PA X (e::es) t)
  (hst:starEach (e::es) X.env=(false,eval e X.env)::starEach es X.env:=by rfl) (hpl:(backTo pos (starEach es X.env)).any (·.1)=false:=by rfl)
  (ht:eval (.Call (.Attribute o m apos) (e::es) [] pos) X.env=(do
   let ov ← eval o X.env
   standAt apos.atName
   let (f,first) ← holding [ov] (getMethod ov m pl)
   callWith pos f first (backTo pos (starEach (e::es) X.env)) (backToKw pos (keywordEach [] X.env))):=by rfl):PE X (.Call (.Attribute o m apos) (e::es) [] pos) (C7 X.K Ns m sp E ta t):=by
 intro ZL s σ H Q I h;refine WY (pl:=pl) (cr (he ZL s σ H _ I h) λu s1 ZN=>?_) ht;obtain⟨x,H1,I1,rx,a,C,dx,fs,⟨ex,⟨N,hN,hC⟩,ea⟩,l,q⟩:=ZN;subst ex;obtain rfl:u=Value.ref a:=rx;obtain⟨c,hm⟩:=hc N hN C hC;refine jH I1 ea c hm l (WM (first:=[.ref a]) (h₀:=X.base) I.ok.mod.kin hm.kp (cr (ha pos ZL s1 σ H1 _ I1 q) λus s2 ⟨vs,H2,I2,r,q2⟩=>⟨I2.kIn,?_⟩) hst hpl);exact wA (us:=.ref a::us) (vs:=.ref a::vs) (dvs:=[]) F hr hb .nil hx I2 (.cons rfl r) (by rw[Vb];exact q2)
def Fq{pl:Sem Bool}(hc:qL X.K Ns λC=>Cls X.K C/\Meth X.K C m g)(F:Zq X.prog X.w X.K X.mg X.base CX k g fd ps sp)(hr:ZA k X.A)(hb:Binds X.K fd ps [])(hx:gc CX X E)(he:PE X o ta)
  (ht:eval (.Call (.Attribute o m apos) [] [] pos) X.env=(do
   let ov ← eval o X.env
   standAt apos.atName
   let (f,first) ← holding [ov] (getMethod ov m pl)
   callWith pos f first (backTo pos (starEach [] X.env)) (backToKw pos (keywordEach [] X.env))):=by rfl):PE X (.Call (.Attribute o m apos) [] [] pos) (C7 X.K Ns m sp E ta eV):=by
 intro ZL s σ H Q I h;refine WY (pl:=pl) (cr (he ZL s σ H _ I h) λu s1 ZN=>?_) ht;obtain⟨x,H1,I1,rx,a,C,dx,fs,⟨ex,⟨N,hN,hC⟩,ea⟩,l,q⟩:=ZN;subst ex;obtain rfl:u=Value.ref a:=rx;obtain⟨c,hm⟩:=hc N hN C hC;exact jH I1 ea c hm l (Xq (first:=[.ref a]) I1.kIn hm.kp (wA (us:=[.ref a]) (vs:=[.ref a]) (dvs:=[]) F hr hb .nil hx I1 (.cons rfl .nil) q))
def J4{pl:Sem Bool}(hc:qL X.K Ns λC=>Cls X.K C/\Meth X.K C m g)(F:Zq X.prog X.w X.K X.mg X.base (g6 X.prog X.w) k g fd ps sp)(hr:ZA k X.A)(hb:Binds X.K fd ps [])(he:∀ps W,PE ((X.pin ps).wish W) o ta)(ha:∀ps W,PA ((X.pin ps).wish W) (e::es) t)
  (hst:starEach (e::es) X.env=(false,eval e X.env)::starEach es X.env:=by rfl) (hpl:(backTo pos (starEach es X.env)).any (·.1)=false:=by rfl)
  (ht:eval (.Call (.Attribute o m apos) (e::es) [] pos) X.env=(do
   let ov ← eval o X.env
   standAt apos.atName
   let (f,first) ← holding [ov] (getMethod ov m pl)
   callWith pos f first (backTo pos (starEach (e::es) X.env)) (backToKw pos (keywordEach [] X.env))):=by rfl)
  (hs:swapsWith (.Call (.Attribute o m apos) (e::es) [] pos) none spos.line X.env=pure false:=by rfl):PB X [.Expr (.Call (.Attribute o m apos) (e::es) [] pos) spos] (Pr X.K Ns m sp ta t):=by
 intro ps' W E σ hx s H I h;refine VV (cr (wpAny_Expr_any (Q:=λ_ _=>False) (cr (Q:=EP ((X.pin ps').wish W) [] σ λ_ _=>False) ?_ λv s1 ⟨_,_,_,_,q⟩=>q.elim) I.quiet hs) λ_ _ q=>q.elim);refine PySem.W.methodCall_KW (pl:=pl) (cr (he ps' W [] s σ H _ I h) λu s1 ZN=>?_) ht;obtain⟨x,H1,I1,rx,a,C,dx,fs,⟨ex,⟨N,hN,hC⟩,ea⟩,l,q⟩:=ZN;subst ex;obtain rfl:u=Value.ref a:=rx;obtain⟨c,hm⟩:=hc N hN C hC;refine jH (X:=(X.pin ps').wish W) I1 ea c hm l (aal (first:=[.ref a]) (h₀:=X.base) I.ok.mod.kin hm.kp (cr (ha ps' W pos [] s1 σ H1 _ I1 q) λus s2 ⟨vs,H2,I2,r,q2⟩=>⟨I2.kIn,?_⟩) hst hpl);exact Bo (X:=(X.pin ps').wish W) (us:=.ref a::us) (vs:=.ref a::vs) F hr hb hx I2 (.cons rfl r) q2
end
inductive EntOk(w:World):List DictEntry->List (Str×V)->Prop where
 |nil:EntOk w [] []
 |cons {x:Str} {t:Tok} {u:Value} {v:V} {h:Int} {es:List DictEntry} {kvs:List (Str×V)}:h=Oz w (.inr x)->RelV v u->EntOk w es kvs->EntOk w (⟨h,.str x t,u⟩::es) ((x,v)::kvs)
def IZ(kvs:List (Str×V)):List (c7×V):=kvs.map λkv=>(Sum.inr kv.1,kv.2)
def Jf(w:World)(K:Zj)(a:Addr)(kvs:List (Str×V)):Prop:=∃es n,K.lookup a=some ⟨.type "dict",none,.dict (List.toArray es) n,#[]⟩/\EntOk w es kvs/\(kvs.map (·.1)).Nodup/\a≠sysModules
def Mu{P:Program}{w:World}{es:List DictEntry}{kvs:List (Str×V)}(h:EntOk w es kvs):∃vs,KV (IZ kvs) vs/\Pairs (bN P w) es vs/\vs.map (·.1)=kvs.map (λkv=>Sum.inr kv.1)/\∀e∈es,∃k,(bN P w).is k e.key=true/\e.hash=(bN P w).hash k:=by
 induction h with
 |nil=>exact⟨[],.nil,.nil,rfl,λ_ z=>by cases z⟩
 | @cons x t u v hh es kvs e r _ ih=>
  obtain⟨vs,h1,h2,h3,h4⟩:=ih;have ky:(bN P w).is (.inr x) (.str x t)=true:=rB (P:=P) (w:=w) (k:=.inr x) ⟨t,rfl⟩;refine⟨(Sum.inr x,u)::vs,.cons ⟨rfl,r⟩ h1,.cons ky rfl h2,by rw[UG,UG,h3],λd hd=>?_⟩;rcases UC.1 hd with rfl|hd
  ·exact⟨.inr x,ky,e⟩
  ·exact h4 d hd
def Ir{P:Program}{w:World}{K:Zj}{a:Addr}{kvs:List (Str×V)}{h:Heap}(t:Jf w K a kvs)(X:K.In h):(a==sysModules)=false/\∃vs,KV (IZ kvs) vs/\h.DictOf (bN P w) a vs:=by obtain⟨es,n,lk,eo,nd,ne⟩:=t;obtain⟨vs,h1,h2,h3,h4⟩:=Mu (P:=P) eo;refine⟨VM.2 ne,vs,h1,_,_,n,X _ _ lk,⟨rfl,rfl,rfl⟩,rfl,λe he=>h4 e (by simpa using he),by simpa using h2,?_⟩;rw[h3];exact WT.2 (List.Pairwise.imp (λz y=>z (Wd y)) (WT.1 nd))
def Ij(neg:Bool)(kvs:List (Str×V))(te:TE):TE:=λσ H Q=>te σ H λy H1=>∃x,y=.str x/\Q (.bl (neg ^^ (ie (IZ kvs) (.inr x)).isSome)) H1
def C1(kvs:List (Str×V))(te:TE):TE:=λσ H Q=>te σ H λy H1=>∃x v,y=.str x/\ie (IZ kvs) (.inr x)=some v/\Q v H1
section
variable {X:Cx}{n:Str}{i:Expr}{ti:TE}{a:Addr}{kvs:List (Str×V)}{p pos:Pos}
def CG(t:Jf X.w X.K a kvs)(hg:Gl X n)(hm:X.mg n=some (.ref a))(hi:PE X i ti)(hdb:(n==("__debug__" : Str))=false:=by decide):PC X .NotIn i (.Name n p) (Ij true kvs ti):=by intro ZL s σ H Q I h;refine cr (hi ZL s σ H _ I h) λiv s1 ⟨y,H1,I1,ry,x,ey,q1⟩=>gH I1 hg hm ?_ hdb;subst ey;obtain⟨hd,vs,rel,dd⟩:=Ir (P:=X.prog) t I1.kIn;refine wpAny_notIn_of (rB (k:=.inr x) ry) hd dd.mapOf ?_;rw[<-(rel.val (Sum.inr x)).isSome_eq];exact⟨.bl _,H1,I1.tok _,rfl,by rw[Bool.true_xor] at q1;exact q1⟩
def Hk(t:Jf X.w X.K a kvs)(hg:Gl X n)(hm:X.mg n=some (.ref a))(hi:PE X i ti)(hs:Jc i)(hdb:(n==("__debug__" : Str))=false:=by decide):PE X (.Subscript (.Name n p) i pos) (C1 kvs ti):=by intro ZL s σ H Q I h;refine Eg Y3.lookup hs (gH I hg hm (cr (hi ZL s σ H _ I h) λiv s2 ZN=>?_) hdb);obtain⟨y,H2,I2,ry,x,v,ex,g,q2⟩:=ZN;subst ex;obtain⟨hd,vs,rel,dd⟩:=Ir (P:=X.prog) t I2.kIn;obtain⟨w',hw,rw'⟩:=RelO.some_of (v:=v) (o:=valueAt vs (Sum.inr x)) (by rw[<-g];exact rel.val (Sum.inr x));exact⟨dd.typeIs,wpAny_getItem_of (rB (k:=.inr x) ry) dd.mapOf hw ⟨v,H2,I2.tok _,rw',q2⟩⟩
end
end L2
namespace M
open PySem L2
section
variable {K:Zj}{S S' H H':Hp}
def ED(K:Zj)(kvs:List (Str×V))(tab:List (Str×D)):Prop:=kvs.map (·.1)=tab.map (·.1)/\∀S,Dens K S (tab.map (·.2)) (kvs.map (·.2))
theorem wT:∀ {kvs:List (Str×V)} {tab:List (Str×D)} (x:Str),ED K kvs tab->(∀d,tab.lookup x=some d->∃v,ie (IZ kvs) (.inr x)=some v/\∀S,Den K S d v)/\(tab.lookup x=none->ie (IZ kvs) (.inr x)=none)
 |[],[],x,_=>⟨λd z=>(nomatch z),λ_=>rfl⟩
 |[],_::_,x,h=>by cases h.1
 |_::_,[],x,h=>by cases h.1
 | (n,v)::kvs,(m,d)::tab,x,h=>by
  obtain⟨h1,h2⟩:=h;rw[UG,UG] at h1;obtain⟨e0,h3⟩:=Wz h1;replace e0:n=m:=e0;subst e0;have hd:∀S,Den K S d v/\Dens K S (tab.map (·.2)) (kvs.map (·.2)):=λS=>by obtain⟨y,ys,e,a,b⟩:=(h2 S).cons_of;rw[UG] at e;obtain⟨rfl,rfl⟩:=Wz e;exact⟨a,b⟩
  have ih:=wT x ⟨h3,λS=>(hd S).2⟩;by_cases e:x=n
  ·subst e;have v1:ie (IZ ((x,v)::kvs)) (.inr x)=some v:=lB rfl;refine⟨λd' z=>?_,λz=>?_⟩
   ·rw[Xf] at z;cases z;exact⟨v,v1,λS=>(hd S).1⟩
   ·rw[Xf] at z;cases z
  ·have v2:ie (IZ ((n,v)::kvs)) (.inr x)=ie (IZ kvs) (.inr x):=lA (λz=>e (Wd z).symm);have l2:((n,d)::tab).lookup x=tab.lookup x:=by
    rw[List.lookup,show (x==n)=false by simpa using e]
   rw[v2,l2];exact ih
@[simp]def Es(neg:Bool)(tab:List (Str×D))(e:XE):XE:=λρ=>(e ρ).bind λd=>match d with|.str x=>some (.bl (neg ^^ (tab.lookup x).isSome))|_=>none
@[simp]def gl(tab:List (Str×D))(e:XE):XE:=λρ=>(e ρ).bind λd=>match d with|.str x=>tab.lookup x|_=>none
def Nd{neg:Bool}{kvs:List (Str×V)}{tab:List (Str×D)}{te:TE}{e:XE}(t:ED K kvs tab)(h:SPk K te e):SE K (Ij neg kvs te) (Es neg tab e):=λρ σ S H Q g r y k=>by
 obtain⟨d,q,y⟩:=ZM y;cases d<;>try (cases y;done)
 rename_i x;cases y;refine h ρ σ S H _ _ r q λv S1 H1 z1 d1=>⟨x,d1.str,?_⟩
 obtain⟨t1,t2⟩:=wT x t;have:(ie (IZ kvs) (.inr x)).isSome=(tab.lookup x).isSome:=by
  cases z:tab.lookup x with
  |none=>rw[t2 z];rfl
  |some d=>obtain⟨v,e1,_⟩:=t1 d z;rw[e1];rfl
 rw[this];exact k _ S1 H1 z1 (Zu.2 rfl)
def Ku{kvs:List (Str×V)}{tab:List (Str×D)}{te:TE}{e:XE}(t:ED K kvs tab)(h:SPk K te e):SE K (C1 kvs te) (gl tab e):=λρ σ S H Q g r y k=>by
 obtain⟨d,q,y⟩:=ZM y;cases d<;>try (cases y;done)
 rename_i x;refine h ρ σ S H _ _ r q λv S1 H1 z1 d1=>?_;obtain⟨u,e1,e2⟩:=(wT x t).1 g y;exact⟨x,u,d1.str,e1,k u S1 H1 z1 (e2 S1)⟩
def LN(a b c:XE):XE:=λρ=>(a ρ).bind λx=>(b ρ).bind λy=>(c ρ).bind λz=>match x,y,z with
 |.str x,.str y,.int k=>if y.length≠0/\x.length+2<=gA/\0<=k/\k<1000 then some (.lst ((Txt.splitM x y k).map D.str)) else none
 |_,_,_=>none
def Nj{ta tb tc:TE}{a b c:XE}(ha:SPk K ta a)(hb:SPk K tb b)(hc:SPk K tc c):SE K (Eh K "str" rSplitM ta (cj tb (cj tc eV))) (LN a b c):=λρ σ S H Q g r y k=>by
 obtain⟨x,qa,y1⟩:=ZM y;obtain⟨z,qb,y2⟩:=ZM y1;obtain⟨n,qc,y3⟩:=ZM y2;clear y y1 y2;revert y3;intro y;cases x<;>try (cases y;done)
 rename_i x;cases z<;>try (cases y;done)
 rename_i z;cases n<;>try (cases y;done)
 rename_i n;replace y:(if z.length≠0/\x.length+2<=gA/\0<=n/\n<1000 then some (D.lst ((Txt.splitM x z n).map D.str)) else none)=some g:=y;split at y
 ·rename_i cc;cases y;refine ha ρ σ S H _ _ r qa λv S1 H1 z1 d1=>?_;have e1:=d1.str;subst e1;refine⟨rfl,hb ρ σ S1 H1 _ _ (r.ext z1) qb λu S2 H2 z2 d2=>hc ρ σ S2 H2 _ _ ((r.ext z1).ext z2) qc λu' S3 H3 z3 d3=>?_⟩;refine⟨x,z,n,rfl,by rw[d2.str,d3.int],cc.1,g9 cc.2.1,⟨cc.2.2.1,cc.2.2.2⟩,λl hl=>?_⟩;have z4:=Ext.new (o:=.lst ((Txt.splitM x z n).map V.str)) z3.sub hl;exact k _ _ _ ((z1.trans z2).trans (z3.trans z4)) (Zs.2 ⟨l,_,rfl,.inl aG,oH _⟩)
 ·cases y
def vD:Zc->Option (List Bool)
 |[]=>some []
 |.bl b::l=>(vD l).map (b :: ·)
 |_=>none
theorem Ah:∀ {l:Zc} {bs:List Bool} {xs:Za},vD l=some bs->Dens K S l xs->xs=bs.map V.bl
 |[],bs,xs,h,d=>by cases h;exact d.nil_of
 |e::l,bs,xs,h,d=>by
  cases e<;>try (cases h;done)
  rename_i b;obtain⟨y,ys,rfl,a,c⟩:=d.cons_of;cases q:vD l with
  |none=>simp[vD,q] at h
  |some r=>simp[vD,q] at h;subst h;rw[Zu.1 a,Ah q c];rfl
@[simp]def Et(a:XE):XE:=λρ=>(a ρ).bind λd=>match d with|.lst l=>(vD l).map λbs=>.int (bs.count true)|_=>none
def HH{ta:TE}{a:XE}(ha:SPk K ta a):SE K (Eh K "list" (D2 K) ta (cj (tC (.bl true)) eV)) (Et a):=λρ σ S H Q g r y k=>by
 obtain⟨d,qa,y⟩:=ZM y;cases d<;>try (cases y;done)
 rename_i l;dsimp only at y;cases q:vD l with
 |none=>rw[q] at y;cases y
 |some bs=>rw[q] at y;cases y;refine ha ρ σ S H _ _ r qa λv S1 H1 z1 d1=>?_;obtain⟨p,xs,rfl,h1,h2⟩:=d1.lst z1.sub;have e:=Ah q h2;subst e;exact⟨.inl ⟨rfl,_,.inl h1⟩,p,bs,rfl,rfl,.inl h1,k _ S1 H1 z1 (Zt.2 rfl)⟩
end
end M
namespace DY
open PySem PyProof.Rows
section
variable {prog:Program}{w:World}{A:Around}{E:Ze}{s:Shared}{d:Addr}{es:Array DictEntry}{ep:Nat}
def GN{R:Result->Shared->Prop}(hh:A.handled=none)(hd:(d==sysModules)=false)(hm:DAt s.heap d es ep)(S:Addr)(c₀:Nat)(hSd:S≠d)(hS:s.heap.get? S=some { cls:=.type "list",data:=.seq #[] c₀ }) (hn:es.size<=sizeLine)
  (hR:∀h' tk acc c,(∀b o,b≠S->s.heap.get? b=some o->h'.get? b=some o)->h'.get? S=some { cls:=.type "list",dict:=none,data:=.seq acc c,slots:=#[] }->ItemsOf (λi v=>∃e,es[i]?=some e/\v=e.key) acc es.size->R (.ok (.ret (.ref S))) { s with heap:=h',toks:=tk }):codeAny (model prog w) A (.builtin "list.__iadd__" ⟨[.ref S,.ref d],[]⟩) R s:=by
 refine V4 PySem.F.entry_list_iadd ?_;rw[W7 aam _];exact Jy hh hd hm S (.ref S) c₀ hSd hS hn hR
def Ao{Q:Zh->Shared->Prop}(hh:A.handled=none)(hd:(d==sysModules)=false)(hm:DAt s.heap d es ep)(hn:es.size<=sizeLine)
  (hQ:∀h' tk (acc:Array Value),ItemsOf (λi v=>∃e,es[i]?=some e/\v=e.key) acc es.size->(∀b o,s.heap.get? b=some o->h'.get? b=some o)->s.heap.objs.size<h'.objs.size->Q acc.toList { s with heap:=h',toks:=tk }):wpAny (model prog w) A (collect (.ref d)) Q E s:=by
 obtain⟨o,ho,hex,hdat⟩:=id hm;have hlt:d<s.heap.objs.size:=UA ho;unfold collect;refine Ut (wpAny_runValue (V4 PySem.F.entry_proto_collect ?_));rw[W7 PySem.F.plain_proto_collect _];show wpAny _ A.in1 (newList [] >>= λl=>again (.builtin "list.__iadd__" ⟨[l,.ref d],[]⟩)) _ _ s;refine Ut (U3 ?_);refine Uw ⟨Ws aam _,GN (s:={ s with heap:=s.heap.push { cls:=.type "list",data:=.seq ([]:Zh).toArray } }) hh hd (hm.kept λo e=>Uz _ e) s.heap.objs.size 0 (VD hlt) (UK _ rfl) hn λh' tk acc c old hS it=>?_⟩;show wpAny _ A (load s.heap.objs.size >>= _) _ _ _;refine Ut (Xk (s:={ s with heap:=h',toks:=tk }) hS ?_);exact Uw (hQ h' tk acc it (λb o e=>old b o (UH (UA e)) (Uz _ e)) (UA hS))
def CZ{ys:Zl}{Q:Ze}(hh:A.handled=none)(hd:(d==sysModules)=false)(hm:DAt s.heap d es ep)(hk:StrsAre (es.toList.map (·.key)) ys)(hn:ys.length<64)
  (h:∀h' tk l c (out:Array Value) (zs:Zl),s.heap.objs.size<=l->h'.get? l=some (seqObj "list" out c)->StrsAre out.toList zs->zs.Perm ys->sortedS zs=true->(∀b o,s.heap.get? b=some o->h'.get? b=some o)->Q (.ref l) { s with heap:=h',toks:=tk }) :
  wpAny (model prog w) A (call (.builtin "sorted") [.ref d]) Q E s:=by
 have hsz:es.size=ys.length:=by have:=hk.length;rw[UN,Wf] at this;exact this
 refine YR kind_sorted plain_sorted entry_sorted (args_sorted1 _) ?_;unfold Builtin.«sorted»;refine Ut (m:=checkCount "sorted" 1 1 _) (Uw (Ut (Ao hh hd hm (by rw[hsz,UF];lia) λh1 tk1 acc it old1 hge=>?_)));have ev:acc.toList=es.toList.map (·.key):=by
  apply YS;intro i;rw[U9,WR,WR];cases q:acc[i]? with
  |none=>
   rw[Array.getElem?_eq_none_iff,it.1] at q;rw[aae q];rfl
  |some v=>obtain⟨e,e1,e2⟩:=it.2 i v q;rw[e1,e2];rfl
 have hS:StrsAre acc.toList ys:=by rw[ev];exact hk
 have hl:acc.toList.length=ys.length:=hS.length;refine Ut (Wn ?_ (by rw[hl,UF];lia));have at1:(h1.push (seqObj "list" acc.toList.toArray 0)).get? h1.objs.size=some (seqObj "list" acc.toList.toArray 0):=UK _ rfl;refine Ut (UY (Vl slot_list_sort ⟨_,at1,rfl⟩ entry_list_sort (list_sort_treeK strKind_oneLt at1 hS.keysOf (λv₁ v₂ fA e=>keyKind_strs (by rw[<-e];exact hS)) (by rw[hl];exact hn) λst' a1 a2=>⟨_,rfl,Uw ⟨_,rfl,?_⟩⟩) (args_list_sort _)));obtain⟨zs,g1,g2,g3⟩:=sorted_out_str hS a1 a2;obtain⟨c,at2⟩:=sortedHeap_at (out:=(arrOf st').map (·.2)) at1;refine h _ tk1 h1.objs.size c _ zs (U1 hge) at2 g1 g2 g3 λb o e=>?_;have hlt:=UA (old1 b o e);rw[sortedHeap_old (UH hlt) (by rw[XY];exact V1 hlt)];exact Uz _ (old1 b o e)
end
end DY
namespace L2
open PySem PySem.Spec PyProof.Rows
def A9:Za->Hp->VK->Prop:=λxs H Q=>∃a kvs,∃ys:Zl,xs=[.ref a]/\Rd H a (.dK kvs)/\kvs.map (·.1)=ys.map Sum.inr/\ys.length<64/\∀(zs:Zl) l,zs.Perm ys->sortedS zs=true->H l=none->Q (.ref l) (upd H l (.lst (zs.map V.str)))
theorem x0{P:Program}{w:World}:∀ {es:List DictEntry} {vs:List (c7×Value)} {ys:Zl},Pairs (bN P w) es vs->vs.map (·.1)=ys.map Sum.inr->StrsAre (es.map (·.key)) ys
 |[],vs,ys,h,e=>by
  cases h;cases ys with
  |nil=>exact .nil
  |cons _ _=>cases e
 |x::es,vs,ys,h,e=>by
  cases h with
  |cons a b c=>
   cases ys with
   |nil=>cases e
   |cons y ys=>
    rw[UG,UG] at e;obtain⟨e1,e2⟩:=Wz e;rcases cQ (show vU _ _=true from a) with ⟨i,t,q,_⟩|⟨z,t,q,q2⟩
    ·rw[e1] at q;cases q
    ·rw[e1] at q;cases q;rw[UG,q2];exact .cons _ _ (x0 c e2)
theorem yu:∀ {us:Zh} {zs:Zl},StrsAre us zs->Vals (zs.map V.str) us
 |_,_,.nil=>.nil
 |_,_,.cons _ _ h=>.cons ⟨_,rfl⟩ (yu h)
def JJ{kvs:List (c7×V)}{vs:List (c7×Value)}(h:KV kvs vs):vs.map (·.1)=kvs.map (·.1):=by
 induction h with
 |nil=>rfl
 |cons a _ ih=>rw[UG,UG,a.1,ih]
def lM{X:Cx}(hc:X.calm=true):CallR X (.builtin "sorted") A9:=by intro ZL s σ H xs us Q I r h;obtain⟨a,kvs,ys,rfl,hd,hk,hn,q⟩:=h;obtain⟨u,rfl,ru⟩:=r.one;cases (show u=Value.ref a from ru);obtain⟨z,hs,vs,rel,o,es,ep,ho,hex,hdat,hko,hp,hnd⟩:=vJ I.hok hd;refine DY.CZ (I.ok.hd hc) hs (show DY.DAt s.heap a es ep from ⟨o,ho,hex,hdat⟩) (x0 hp (by rw[JJ rel];exact hk)) hn λh' tk l c out zs hl at2 g1 g2 g3 old=>?_;refine⟨.ref l,upd H l (.lst (zs.map V.str)),I.laid (a:=l) (o:=.lst (zs.map V.str)) (h':=h') (t':=tk) old hl ?_,rfl,q zs l g2 g3 (I.hok.fresh hl)⟩;exact⟨by rw[UN,g2.length_eq,UF];lia,out.toList,c,yu g1,by simpa using at2⟩
end L2
namespace M
open PySem L2
def E3(x:Str):Zl->Zl
 |[]=>[x]
 |y::l=>if Spec.ltCps y.cps.toList x.cps.toList=true then y::E3 x l else x::y::l
def Bz(ys:Zl):Zl:=ys.foldr E3 []
def xX(x:Str)(l:Zl):(E3 x l).Perm (x::l):=by
 induction l with
 |nil=>exact .refl _
 |cons y l ih=>
  unfold E3;split
  ·exact (ih.cons y).trans (.swap x y l)
  ·exact .refl _
def CW(ys:Zl):(Bz ys).Perm ys:=by
 induction ys with
 |nil=>exact .refl _
 |cons x l ih=>exact (xX x (Bz l)).trans (ih.cons x)
abbrev Fb(a b:Str):Prop:=Spec.ltCps b.cps.toList a.cps.toList=false
def ZG{a b:Str}:Fb a b↔a.cps.toList<=b.cps.toList:=by unfold Fb;rw[aan,decide_eq_false_iff_not];exact List.not_lt
def x5{a b c:Str}(h:Fb a b)(k:Fb b c):Fb a c:=ZG.2 (List.le_trans (ZG.1 h) (ZG.1 k))
def GX{a b:Str}(h:Fb a b)(k:Fb b a):a=b:=by
 have:=List.le_antisymm (ZG.1 h) (ZG.1 k);obtain⟨x⟩:=a;obtain⟨y⟩:=b;have:x=y:=by simpa using U5 List.toArray this
 rw[this]
theorem DB(x:Str):∀l:Zl,l.Pairwise Fb->(E3 x l).Pairwise Fb
 |[],_=>VT.2 ⟨λ_ z=>(nomatch z),.nil⟩
 |y::l,h=>by
  obtain⟨h1,h2⟩:=VT.1 h;unfold E3;split
  ·rename_i e;refine VT.2 ⟨λz hz=>?_,DB x l h2⟩;rcases UC.1 ((xX x l).mem_iff.mp hz) with rfl|hz
   ·rw[aan,decide_eq_true_eq] at e;exact ZG.2 (List.le_of_lt e)
   ·exact h1 z hz
  ·rename_i e;have e':Fb x y:=by simpa using e
   refine VT.2 ⟨λz hz=>?_,h⟩;rcases UC.1 hz with rfl|hz
   ·exact e'
   ·exact x5 e' (h1 z hz)
def H9(ys:Zl):(Bz ys).Pairwise Fb:=by
 induction ys with
 |nil=>exact .nil
 |cons x l ih=>exact DB x _ ih
theorem yo:∀(x:Str) (l:Zl),PyProof.Rows.risingS x l=true->(x::l).Pairwise Fb
 |x,[],_=>VT.2 ⟨λ_ z=>(nomatch z),.nil⟩
 |x,y::l,h=>by
  have h:(!Spec.ltCps y.cps.toList x.cps.toList&&PyProof.Rows.risingS y l)=true:=h;rw[UZ,YV] at h;have ih:=yo y l h.2;refine VT.2 ⟨λz hz=>?_,ih⟩;rcases UC.1 hz with rfl|hz
  ·exact h.1
  ·exact x5 h.1 ((VT.1 ih).1 z hz)
def CY{ys zs:Zl}(hp:zs.Perm ys)(h:PyProof.Rows.sortedS zs=true):zs=Bz ys:=by
 have pw:zs.Pairwise Fb:=by
  cases zs with
  |nil=>exact .nil
  |cons x l=>exact yo x l h
 exact X4 (λa b _ _ h k=>GX h k) pw (H9 ys) (hp.trans (CW ys).symm)
section
variable {K:Zj}{S S' H H':Hp}
def tD:List c7->Option (Zl)
 |[]=>some []
 |.inr x::l=>(tD l).map (x :: ·)
 |.inl _::_=>none
theorem yA:∀ {ks:List c7} {ys:Zl},tD ks=some ys->ks=ys.map Sum.inr
 |[],ys,h=>by cases h;rfl
 |.inl _::_,_,h=>by cases h
 |.inr x::l,ys,h=>by
  cases q:tD l with
  |none=>simp[tD,q] at h
  |some r=>simp[tD,q] at h;subst h;rw[yA q];rfl
def vz:Zc->Option (Zc)
 |[.dkv ks _]=>(tD ks).bind λys=>if ys.length<64 then some ((Bz ys).map D.str) else none
 |_=>none
def yO:QF K A9 vz:=λS H vs ds g Q s d q k=>by
 unfold vz at q;split at q
 ·rename_i ks l;obtain⟨v,rfl,d1⟩:=gh d;have d':Den K S (.dkv ks l) v:=d1.elim id λ⟨_,_,_,e,_⟩=>by cases e
  obtain⟨p,kvs,rfl,h1,h2,h3⟩:=den_dkv.1 d';obtain⟨ys,e1,q⟩:=ZM q;split at q
  ·rename_i hl;cases q;refine⟨p,kvs,ys,rfl,cK s h1,by rw[h2];exact yA e1,hl,λzs b pm st hb=>?_⟩;rw[CY pm st];exact k b _ _ (Ext.own s hb) hb aG (oH _)
  ·cases q
 ·cases q
def MA:D->Option c7
 |.str x=>some (.inr x)
 |.int i=>some (.inl i)
 |_=>none
def GT{d:D}{k:c7}{v:V}(h:MA d=some k)(dv:DenP K S H d v):v=kV k:=by
 cases d<;>cases h
 ·exact dv.int
 ·exact dv.str
def Mr:D->Option (List c7×Zc)
 |.dkv ks l=>some (ks,l)
 |_=>none
def Gw{d:D}{ks:List c7}{l:Zc}{v:V}{k:c7}(s:Same S H)(h:Mr d=some (ks,l))(dv:DenP K S H d v):∃p o,v=.ref p/\PQ H p/\yE H p (kV k) o/\(∀e,nr ks l k=some e->∃u,o=some u/\Den K S e u)/\(nr ks l k=none->o=none):=by
 cases d<;>cases h;have d':=dv.elim id λ⟨_,_,_,e,_⟩=>by cases e
 obtain⟨p,kvs,rfl,h1,rfl,h3⟩:=den_dkv.1 d';obtain⟨l1,l2⟩:=x9 (k:=k) h3;exact⟨p,ie kvs k,rfl,.inl ⟨kvs,cK s h1⟩,.inl ⟨kvs,k,cK s h1,rfl,rfl⟩,λe z=>let ⟨u,a,b⟩:=l1 e z;⟨u,a,b⟩,l2⟩
@[simp]def KZ(neg:Bool)(e a:XE):XE:=λρ=>(e ρ).bind λx=>(MA x).bind λk=>(a ρ).bind λd=>(Mr d).bind λkl=>some (.bl (neg ^^ (nr kl.1 kl.2 k).isSome))
def JE{neg:Bool}{te ta:TE}{e a:XE}(he:SE K te e)(ha:SE K ta a){ρ:Env}{σ:St}{Q:VK}{g:D}(r:Rl K ρ σ S H)(y:KZ neg e a ρ=some g)(k:∀v S' H',Ext S H S' H'->Den K S' g v->Q v H') :
  te σ H λy H1=>ta σ H1 λx H2=>∃a o,x=.ref a/\yE H2 a y o/\Q (.bl (neg ^^ o.isSome)) H2:=by
 obtain⟨x,q1,y⟩:=ZM y;obtain⟨ky,q2,y⟩:=ZM y;obtain⟨d,q3,y⟩:=ZM y;obtain⟨⟨ks,l⟩,q4,y⟩:=ZM y;cases y;refine he ρ σ S H _ x r q1 λv S1 H1 z1 d1=>ha ρ σ S1 H1 _ d (r.ext z1) q3 λu S2 H2 z2 d2=>?_;have e1:=GT (H:=H1) q2 (.inl d1);subst e1;obtain⟨p,o,rfl,_,hg,l1,l2⟩:=Gw (k:=ky) z2.sub q4 (.inl d2);refine⟨p,o,rfl,hg,?_⟩;have:o.isSome=(nr ks l ky).isSome:=by
  cases z:nr ks l ky with
  |none=>rw[l2 z];rfl
  |some e=>obtain⟨u,e1,_⟩:=l1 e z;rw[e1];rfl
 rw[this];exact k _ S2 H2 (z1.trans z2) (Zu.2 rfl)
def Br{te ta:TE}{e a:XE}(he:SE K te e)(ha:SE K ta a):SE K (Ei te ta) (KZ true e a):=λρ σ S H Q g r y k=>by have:=JE he ha r y k;simp only[Bool.true_xor] at this;exact this
@[simp]def PK(a e:XE):XE:=λρ=>(a ρ).bind λd=>(Mr d).bind λkl=>(e ρ).bind λx=>(MA x).bind λk=>nr kl.1 kl.2 k
def Pg{te ta:TE}{e a:XE}(ha:SE K ta a)(he:SE K te e):SE K (LG ta te) (PK a e):=λρ σ S H Q g r y k=>by obtain⟨d,q3,y⟩:=ZM y;obtain⟨⟨ks,l⟩,q4,y⟩:=ZM y;obtain⟨x,q1,y⟩:=ZM y;obtain⟨ky,q2,y⟩:=ZM y;refine ha ρ σ S H _ d r q3 λu S1 H1 z1 d1=>he ρ σ S1 H1 _ x (r.ext z1) q1 λv S2 H2 z2 d2=>?_;have e1:=GT (H:=H2) q2 (.inl d2);subst e1;obtain⟨p,o,rfl,_,hg,l1,l2⟩:=Gw (k:=ky) z2.sub q4 (.inl (d1.mono z2.sh));obtain⟨w,rfl,dw⟩:=l1 g y;exact⟨p,w,rfl,hg,k w S2 H2 (z1.trans z2) dw⟩
end
structure DS where
 pics:List (Str×D)
 deeds:Zc
def uz(K:Zj)(Z:Hp)(p a b:Addr)(kvs:List (c7×V))(xs:Za):Prop:=∃C dx,W.nsIn K mainGlobals "Desk"=some (some (.ref C))/\Z p=some (.ins C dx [("pictures",.ref a),("deeds",.ref b)])/\Z a=some (.dK kvs)/\Z b=some (.lst xs)
def DSt(K:Zj)(S:Hp)(st:DS)(kvs:List (c7×V))(xs:Za):Prop:=kvs.map (·.1)=st.pics.map (λq=>Sum.inr q.1)/\Dens K S (st.pics.map (·.2)) (kvs.map (·.2))/\Dens K S st.deeds xs
def c8(st:DS):D:=.ins "Desk" ["pictures", "deeds"] [.dkv (st.pics.map λq=>Sum.inr q.1) (st.pics.map (·.2)),.lst st.deeds]
def RlD(K:Zj)(A:Hp)(p a b:Addr)(Λ:Nat->Option Addr)(i:Nat)(st:DS)(ρ:Env)(σ:St)(S H:Hp):Prop:=
 (Λ i=some p/\ρ[i]?=some .lo/\A p=none/\A a=none/\A b=none)/\∃kvs xs A',Same A A'/\uz K A' p a b kvs xs/\DSt K S st kvs xs/\RlA K A' Λ ρ σ S H
section
variable {K:Zj}{S S' H H' A:Hp}{p a b:Addr}{Λ:Nat->Option Addr}{i:Nat}{st st':DS}{ρ:Env}{σ:St}
def DSt.mono{kvs:List (c7×V)}{xs:Za}(s:Same S S')(h:DSt K S st kvs xs):DSt K S' st kvs xs:=⟨h.1,h.2.1.mono s,h.2.2.mono s⟩
def RlD.ext(r:RlD K A p a b Λ i st ρ σ S H)(z:Ext S H S' H'):RlD K A p a b Λ i st ρ σ S' H':=by obtain⟨c,kvs,xs,A',h1,h2,h3,h4⟩:=r;exact⟨c,kvs,xs,A',h1,h2,h3.mono z.sh,h4.ext z⟩
def RlD.rl(r:RlD K A p a b Λ i st ρ σ S H):Rl K ρ σ S H:=let ⟨_,_,_,_,_,_,_,h⟩:=r;h.toRl
def RlD.sub(r:RlD K A p a b Λ i st ρ σ S H):Same S H:=r.rl.sub
def RlD.slot(r:RlD K A p a b Λ i st ρ σ S H):σ[i]?=some (some (.ref p)):=by obtain⟨⟨c1,c2,_⟩,_,_,_,_,_,_,Φ,f⟩:=r;obtain⟨a,e1,e2⟩:=f.lo i c2;rw[c1] at e1;cases e1;exact e2
def D3(p a b c:Addr):Prop:=c=p\/c=a\/c=b
instance (p a b c:Addr):Decidable (D3 p a b c):=by unfold D3;infer_instance
def lP{Z:Hp}{kvs:List (c7×V)}{xs:Za}(h:uz K Z p a b kvs xs){c:Addr}(hc:D3 p a b c):∃u,Z c=some u/\¬IT u/\∀ys,u ≠ .tup ys:=by
 obtain⟨C,dx,_,h1,h2,h3⟩:=h;rcases hc with rfl|rfl|rfl
 ·exact⟨_,h1,(λ⟨_,z⟩=>nomatch z),λ_ z=>nomatch z⟩
 ·exact⟨_,h2,(λ⟨_,z⟩=>nomatch z),λ_ z=>nomatch z⟩
 ·exact⟨_,h3,(λ⟨_,z⟩=>nomatch z),λ_ z=>nomatch z⟩
def RlD.free(r:RlD K A p a b Λ i st ρ σ S H){c:Addr}(hc:D3 p a b c):S c=none:=by
 obtain⟨_,kvs,xs,A',_,h2,_,h4⟩:=r;obtain⟨u,e,n,_⟩:=lP h2 hc;rcases h4.adis c with z|z|⟨w,z,y⟩
 ·exact z
 ·rw[e] at z;cases z
 ·rw[e] at z;cases z;exact absurd y n
def RlD.at_(r:RlD K A p a b Λ i st ρ σ S H):∃kvs xs,uz K H p a b kvs xs/\DSt K S st kvs xs:=by obtain⟨_,kvs,xs,A',_,⟨C,dx,h0,h1,h2,h3⟩,h5,h4⟩:=r;exact⟨kvs,xs,⟨C,dx,h0,h4.asub _ _ h1,h4.asub _ _ h2,h4.asub _ _ h3⟩,h5⟩
def uy(p a b:Addr)(S Z:Hp):Hp:=λc=>if D3 p a b c then Z c else S c
def lessD(p a b:Addr)(S:Hp):Hp:=λc=>if D3 p a b c then none else S c
def cJ{Z:Hp}{c:Addr}(h:D3 p a b c):uy p a b S Z c=Z c:=Uv h
def cG{Z:Hp}{c:Addr}(h:¬D3 p a b c):uy p a b S Z c=S c:=Uu h
def iE{c:Addr}(h:D3 p a b c):lessD p a b S c=none:=Uv h
def cB{c:Addr}(h:¬D3 p a b c):lessD p a b S c=S c:=Uu h
def RlD.melt(r:RlD K A p a b Λ i st ρ σ S H):Rl K (ρ.set i (.sh (c8 st))) σ (uy p a b S H) H:=by
 have hs:=r.slot;have hn:=λ{c}=>r.free (c:=c);obtain⟨⟨c1,c2,c3⟩,kvs,xs,A',s1,h2,h5,Φ,f⟩:=r;obtain⟨C,dx,h0,g1,g2,g3⟩:=id h2;have s2:Same S (uy p a b S H):=λc u e=>by rw[cG λz=>by rw[hn z] at e;cases e];exact e
 refine⟨lessD p a b A',Λ,Φ,?_⟩;have out:∀(j:Nat) (o:O),(ρ.set i (.sh (c8 st)))[j]?=some (Sl.ow o)->ρ[j]?=some (Sl.ow o):=λj o hj=>by
  rcases cg hj with ⟨_,e,_⟩|⟨_,hj⟩
  ·cases e
  ·exact hj
 have nin:∀(j:Nat) (o:O),ρ[j]?=some (Sl.ow o)->∀c∈Φ j,¬D3 p a b c:=λj o hj c hc z=>by obtain⟨_,_,_,_,n⟩:=f.ow j o hj;obtain⟨u,e,_⟩:=lP h2 z;rw[(n c hc).2] at e;cases e
 exact {
  len:=by rw[U0];exact f.len
  sub:=λc u e=>by
   by_cases z:D3 p a b c
   ·rw[cJ z] at e;exact e
   ·rw[cG z] at e;exact f.sub c u e
  sh:=λj d hj=>by
   rcases cg hj with ⟨rfl,e,_⟩|⟨_,hj⟩
   ·cases e;refine⟨_,hs,ZB.2 ⟨p,C,dx,_,rfl,h0,by rw[cJ (.inl rfl)];exact f.asub _ _ g1,rfl,?_⟩⟩;refine .cons (den_dkv.2 ⟨a,kvs,rfl,.inl (by rw[cJ (.inr (.inl rfl))];exact f.asub _ _ g2),h5.1,h5.2.1.mono s2⟩) (.cons (Zs.2 ⟨b,xs,rfl,.inl (by rw[cJ (.inr (.inr rfl))];exact f.asub _ _ g3),h5.2.2.mono s2⟩) .nil)
   ·obtain⟨v,e1,e2⟩:=f.sh j d hj;exact⟨v,e1,e2.mono s2⟩
  ow:=λj o hj=>by have hj:=out j o hj;obtain⟨v,e1,e2,e3,e4⟩:=f.ow j o hj;refine⟨v,e1,e2.mono s2 λ_ _=>rfl,e3,λc hc=>?_⟩;have nz:=nin j o hj c hc;exact⟨by rw[cG nz];exact (e4 c hc).1,by rw[cB nz];exact (e4 c hc).2⟩
  dj:=λj k o o' hjk h1 h2=>f.dj j k o o' hjk (out j o h1) (out k o' h2)
  lo:=λj hj=>by
   rcases cg hj with ⟨_,e,_⟩|⟨_,hj⟩
   ·cases e
   ·exact f.lo j hj
  asub:=λc u e=>by
   by_cases z:D3 p a b c
   ·rw[iE z] at e;cases e
   ·rw[cB z] at e;exact f.asub c u e
  adis:=λc=>by
   by_cases z:D3 p a b c
   ·exact .inr (.inl (iE z))
   ·rw[cG z,cB z];exact f.adis c }
def RlD.back(r:RlD K A p a b Λ i st ρ σ S H)(z:Ext (uy p a b S H) H S' H'):Ext S H (lessD p a b S') H'/\RlD K A p a b Λ i st ρ σ (lessD p a b S') H':=by
 obtain⟨kvs,xs,hd,_⟩:=r.at_;have e:Ext S H (lessD p a b S') H':=⟨λc u e=>by
   have nz:¬D3 p a b c:=λy=>by rw[r.free y] at e;cases e
   rw[cB nz];exact z.sh c u (by rw[cG nz];exact e),λc u e=>by
   by_cases y:D3 p a b c
   ·rw[iE y] at e;cases e
   ·rw[cB y] at e;exact z.sub c u e,λc u e n=>by
   by_cases y:D3 p a b c
   ·exact⟨z.sub c u (z.sh c u (by rw[cJ y];exact e)),.inl (iE y)⟩
   ·have:=z.alw c u e (by rw[cG y];exact n)
    rw[cB y];exact this⟩
 exact⟨e,r.ext e⟩
abbrev TJ:Zl:=["pictures", "deeds"]
mutual
def v9:D->Bool
 |.tup l=>noDks l
 |.mtp l=>noDks l
 |.ins _ ns l=>decide (ns≠TJ)&&noDks l
 |.lst _=>false
 |.scr _=>false
 |.dic _=>false
 |.dif _=>false
 |.dkv _ _=>false
 |_=>true
def noDks:Zc->Bool
 |[]=>true
 |d::l=>v9 d&&noDks l
end
mutual
theorem Den.lessD{kvs:List (c7×V)}{xs:Za}(hd:uz K S p a b kvs xs):∀ {d:D} {v:V},v9 d=true->Den K S d v->Den K (lessD p a b S) d v
 |.dic _,_,n,_=>by unfold v9 at n;cases n
 |.dif _,_,n,_=>by unfold v9 at n;cases n
 |.dkv _ _,_,n,_=>by unfold v9 at n;cases n
 |.lst _,_,n,_=>by unfold v9 at n;cases n
 |.scr _,_,n,_=>by unfold v9 at n;cases n
 |.non,_,_,h=>by unfold Den at *;exact h
 |.bl _,_,_,h=>by unfold Den at *;exact h
 |.int _,_,_,h=>by unfold Den at *;exact h
 |.str _,_,_,h=>by unfold Den at *;exact h
 |.ty _,_,_,h=>by unfold Den at *;exact h
 |.tup l,_,n,h=>by
  unfold v9 at n;obtain⟨q,ys,e,h1,h2⟩:=Zx.1 h;have nq:¬D3 p a b q:=λz=>by obtain⟨u,e1,_,e2⟩:=lP hd z;rw[show S q=some (.tup ys) from h1] at e1;cases e1;exact e2 _ rfl
  exact Zx.2 ⟨q,ys,e,(show M.lessD p a b S q=some (.tup ys) by rw[cB nq];exact h1),Dens.lessD hd n h2⟩
 |.mtp l,_,n,h=>by
  unfold v9 at n;obtain⟨q,ys,e,h1,h2⟩:=Zz.1 h;refine Zz.2 ⟨q,ys,e,?_,Dens.lessD hd n h2⟩;rcases h1 with (h1|⟨o,h1⟩)|h1
  ·refine .inl (.inl ?_);rw[cB λz=>by
    obtain⟨u,e1,_,e2⟩:=lP hd z
    rw[h1] at e1;cases e1;exact e2 _ rfl]
   exact h1
  ·refine .inl (.inr ⟨o,?_⟩);rw[cB λz=>by
    obtain⟨C,dx,_,k1,k2,k3⟩:=hd;rcases z with rfl|rfl|rfl
    ·rw[h1] at k1;cases k1
    ·rw[h1] at k2;cases k2
    ·rw[h1] at k3;cases k3]
   exact h1
  ·exact .inr h1
 |.ins N ns l,_,n,h=>by
  unfold v9 at n;obtain⟨n1,n2⟩:=Wx.1 n;obtain⟨q,C,dx,fs,e,h0,h1,h2,h3⟩:=ZB.1 h;refine ZB.2 ⟨q,C,dx,fs,e,h0,?_,h2,Dens.lessD hd n2 h3⟩;rw[cB λz=>by
   obtain⟨C',dx',_,k1,k2,k3⟩:=hd;rcases z with rfl|rfl|rfl
   ·rw[h1] at k1;cases k1;exact absurd h2.symm (V2 n1)
   ·rw[h1] at k2;cases k2
   ·rw[h1] at k3;cases k3]
  exact h1
theorem Dens.lessD{kvs:List (c7×V)}{xs:Za}(hd:uz K S p a b kvs xs):∀ {ds:Zc} {ys:Za},noDks ds=true->Dens K S ds ys->Dens K (lessD p a b S) ds ys
 |[],_,_,h=>by rw[h.nil_of];exact .nil
 |_::_,_,n,h=>by unfold noDks at n;obtain⟨n1,n2⟩:=Wx.1 n;obtain⟨y,ys,rfl,a,b⟩:=h.cons_of;exact .cons (Den.lessD hd n1 a) (Dens.lessD hd n2 b)
end
def RlD.kept(r:RlD K A p a b Λ i st ρ σ S H)(z:Ext (uy p a b S H) H S' H'):∃kvs xs,uz K S' p a b kvs xs:=by obtain⟨kvs,xs,⟨C,dx,h0,h1,h2,h3⟩,_⟩:=r.at_;exact⟨kvs,xs,C,dx,h0,z.sh _ _ (by rw[cJ (.inl rfl)];exact h1),z.sh _ _ (by rw[cJ (.inr (.inl rfl))];exact h2),z.sh _ _ (by rw[cJ (.inr (.inr rfl))];exact h3)⟩
abbrev yH:=DS->Env->Option (D×DS)
abbrev BQ:=DS->Env->Option (Bool×DS)
def EB(K:Zj)(i:Nat)(t:TE)(e:yH):Prop:=∀A p a b Λ st ρ σ S H (Q:VK) d st',RlD K A p a b Λ i st ρ σ S H->e st ρ=some (d,st')->(∀v S' H',Same S S'->RlD K A p a b Λ i st' ρ σ S' H'->Den K S' d v->Q v H')->t σ H Q
def L1(K:Zj)(i:Nat)(t:TT)(c:BQ):Prop:=∀A p a b Λ st ρ σ S H (Q:Bool->Hp->Prop) d st',RlD K A p a b Λ i st ρ σ S H->c st ρ=some (d,st')->(∀S' H',Same S S'->RlD K A p a b Λ i st' ρ σ S' H'->Q d H')->t σ H Q
@[simp]def xx(e:XE):yH:=λst ρ=>(e ρ).map (·,st)
def xR{t:TE}{e:XE}(h:SE K t e):EB K i t (xx e):=λA p a b Λ st ρ σ S H Q d st' r x k=>by obtain⟨y,q,x⟩:=Vg.1 x;cases x;exact h ρ σ S H Q _ r.rl q λv S' H' z dv=>k v S' H' z.sh (r.ext z) dv
@[simp]def zP(i:Nat)(e:XE):yH:=λst ρ=>(e (ρ.set i (.sh (c8 st)))).bind λd=>if v9 d=true then some (d,st) else none
def Dt{t:TE}{e:XE}(h:SE K t e):EB K i t (zP i e):=λA p a b Λ st ρ σ S H Q d st' r x k=>by
 obtain⟨y,q,x⟩:=ZM x;split at x
 ·rename_i hn;cases x;refine h _ σ _ H Q _ r.melt q λv S' H' z dv=>?_;obtain⟨e1,e2⟩:=r.back z;obtain⟨kvs,xs,hd⟩:=r.kept z;exact k v _ H' e1.sh e2 (dv.lessD hd hn)
 ·cases x
@[simp]def gZ(i:Nat)(c:XT):BQ:=λst ρ=>(c (ρ.set i (.sh (c8 st)))).map (·,st)
def oh{t:TT}{c:XT}(h:ST K t c):L1 K i t (gZ i c):=λA p a b Λ st ρ σ S H Q d st' r x k=>by obtain⟨y,q,x⟩:=Vg.1 x;cases x;refine h _ σ _ H Q _ r.melt q λS' H' z=>?_;obtain⟨e1,e2⟩:=r.back z;exact k _ H' e1.sh e2
@[simp]def FN(c:XT):BQ:=λst ρ=>(c ρ).map (·,st)
def tQ{t:TT}{c:XT}(h:ST K t c):L1 K i t (FN c):=λA p a b Λ st ρ σ S H Q d st' r x k=>by obtain⟨y,q,x⟩:=Vg.1 x;cases x;exact h ρ σ S H Q _ r.rl q λS' H' z=>k S' H' z.sh (r.ext z)
@[simp]def w4(c d:BQ):BQ:=λst ρ=>(c st ρ).bind λq=>if q.1=true then some (true,q.2) else d q.2 ρ
def Aw{t u:TT}{c d:BQ}(h:L1 K i t c)(h':L1 K i u d):L1 K i (Q2 t u) (w4 c d):=λA p a b Λ st ρ σ S H Q v st' r x k=>by
 obtain⟨⟨y,s1⟩,q,x⟩:=ZM x;refine h A p a b Λ st ρ σ S H _ y s1 r q λS1 H1 z r1=>?_;cases y with
 |true=>rw[Uv rfl] at x;cases x;exact oP (k S1 H1 z r1)
 |false=>rw[Uu U4] at x;exact rA (h' A p a b Λ s1 ρ σ S1 H1 _ v st' r1 x λS2 H2 z2 r2=>k S2 H2 (z.trans z2) r2)
@[simp]def Tx(c d:BQ):BQ:=λst ρ=>(c st ρ).bind λq=>if q.1=true then d q.2 ρ else some (false,q.2)
@[simp]def qK(f:D->D->Zd)(e:yH)(g:XE):yH:=λst ρ=>(e st ρ).bind λq=>(g ρ).bind λy=>(f q.1 y).map (·,q.2)
def vH{r:R2}{f:D->D->Zd}{t u:TE}{e:yH}{g:XE}(hr:w6 K r f)(h:EB K i t e)(h':SPk K u g):EB K i (FP r t u) (qK f e g):=λA p a b Λ st ρ σ S H Q d st' rl x k=>by obtain⟨⟨y,s1⟩,q,x⟩:=ZM x;obtain⟨w,q2,x⟩:=ZM x;obtain⟨d',q3,x⟩:=Vg.1 x;cases x;refine h A p a b Λ st ρ σ S H _ y s1 rl q λv S1 H1 z1 r1 d1=>h' ρ σ S1 H1 _ w r1.rl q2 λv2 S2 H2 z2 d2=>?_;exact hr S2 H2 v v2 y w _ Q z2.sub (.inl (d1.mono z2.sh)) d2 q3 λv3 S3 H3 z3 d3=>k v3 S3 H3 ((z1.trans z2.sh).trans z3.sh) ((r1.ext z2).ext z3) d3
@[simp]def IV(e:yH):BQ:=λst ρ=>(e st ρ).bind λq=>match q.1 with|.bl b=>some (b,q.2)|_=>none
def rc{t:TE}{e:yH}(h:EB K i t e):L1 K i (En t) (IV e):=λA p a b Λ st ρ σ S H Q v st' r x k=>by
 obtain⟨⟨y,s1⟩,q,x⟩:=ZM x;cases y<;>try (cases x;done)
 cases x;exact h A p a b Λ st ρ σ S H _ _ s1 r q λv S1 H1 z r1 d1=>⟨_,Zu.1 d1,k S1 H1 z r1⟩
@[simp]def BK(e f:yH):yH:=λst ρ=>(e st ρ).bind λq=>match q.1 with|.bl true=>f q.2 ρ|.bl false=>some (.bl false,q.2)|_=>none
def Gq{t u:TE}{e f:yH}(h:EB K i t e)(h':EB K i u f):EB K i (Ii t u) (BK e f):=λA p a b Λ st ρ σ S H Q d st' r x k=>by
 obtain⟨⟨y,s1⟩,q,x⟩:=ZM x;cases y<;>try (cases x;done)
 rename_i c;refine h A p a b Λ st ρ σ S H _ _ s1 r q λv S1 H1 z r1 d1=>⟨c,Zu.1 d1,?_⟩
 cases c with
 |true=>exact oP (h' A p a b Λ s1 ρ σ S1 H1 Q d st' r1 x λv S2 H2 z2 r2 d2=>k v S2 H2 (z.trans z2) r2 d2)
 |false=>cases x;exact rA (k _ S1 H1 z r1 (Zu.2 rfl))
end
section
variable {K:Zj}{S S' H H' A:Hp}{p a b:Addr}{Λ:Nat->Option Addr}{i:Nat}{st st':DS}{ρ:Env}{σ:St}
def RlD.after{kvs:List (c7×V)}{xs:Za}(r:RlD K A p a b Λ i st ρ σ S H)(s1:Same S S')(s2:Same S' H')(fr:∀c u,¬D3 p a b c->H c=some u->S c=none->H' c=some u/\(S' c=none\/IT u))(hd:uz K H' p a b kvs xs)(n:∀c,D3 p a b c->S' c=none)(ds:DSt K S' st' kvs xs):RlD K A p a b Λ i st' ρ σ S' H':=by
 obtain⟨⟨c1,c2,c3,c4,c5⟩,kvs0,xs0,A',h1,h2,h3,Φ,f⟩:=r;have hA:∀c,D3 p a b c->A c=none:=λc z=>by rcases z with rfl|rfl|rfl<;>assumption
 refine⟨⟨c1,c2,c3,c4,c5⟩,kvs,xs,uy p a b A' H',λc u e=>?_,?_,ds,Φ,?_⟩
 ·rw[cG λz=>by rw[hA c z] at e;cases e];exact h1 c u e
 ·obtain⟨C,dx,g0,g1,g2,g3⟩:=hd;exact⟨C,dx,g0,by rw[cJ (.inl rfl)];exact g1,by rw[cJ (.inr (.inl rfl))];exact g2,by rw[cJ (.inr (.inr rfl))];exact g3⟩
 ·have keep:∀c u,¬D3 p a b c->H c=some u->H' c=some u:=λc u z e=>by
   cases q:S c with
   |none=>exact (fr c u z e q).1
   |some w=>have:=f.sub c w q;rw[e] at this;cases this;exact s2 c _ (s1 c _ q)
  have nin:∀(j:Nat) (o:O),ρ[j]?=some (Sl.ow o)->∀c∈Φ j,¬D3 p a b c:=λj o hj c hc z=>by obtain⟨_,_,_,_,n⟩:=f.ow j o hj;obtain⟨u,e,_⟩:=lP h2 z;rw[(n c hc).2] at e;cases e
  exact {
   len:=f.len
   sub:=s2
   sh:=λj d hj=>by obtain⟨v,e1,e2⟩:=f.sh j d hj;exact⟨v,e1,e2.mono s1⟩
   ow:=λj o hj=>by
    obtain⟨v,e1,e2,e3,e4⟩:=f.ow j o hj;have key:∀c∈Φ j,H' c=H c/\S' c=none:=λc hc=>by obtain⟨u,hu⟩:=aao.1 (e2.there c hc);obtain⟨k1,k2⟩:=fr c u (nin j o hj c hc) hu (e4 c hc).1;exact⟨by rw[k1,hu],k2.resolve_right (e2.nit c hc u hu)⟩
    exact⟨v,e1,e2.mono s1 λc hc=>(key c hc).1,e3,λc hc=>⟨(key c hc).2,by rw[cG (nin j o hj c hc)];exact (e4 c hc).2⟩⟩
   dj:=f.dj
   lo:=f.lo
   asub:=λc u e=>by
    by_cases z:D3 p a b c
    ·rw[cJ z] at e;exact e
    ·rw[cG z] at e;exact keep c u z (f.asub c u e)
   adis:=λc=>by
    by_cases z:D3 p a b c
    ·exact .inl (n c z)
    ·rw[cG z];rcases f.adis c with y|y
     ·cases q:A' c with
      |none=>exact .inr (.inl rfl)
      |some u=>
       rcases (fr c u z (f.asub c u q) y).2 with k|k
       ·exact .inl k
       ·exact .inr (.inr ⟨u,rfl,k⟩)
     ·exact .inr y }
def RlD.chg{kvs:List (c7×V)}{xs:Za}(r:RlD K A p a b Λ i st ρ σ S H)(ds:DSt K S st' kvs xs):RlD K A p a b Λ i st' ρ σ S (upd (upd H a (.dK kvs)) b (.lst xs)):=by
 obtain⟨kvs0,xs0,⟨C,dx,g0,g1,g2,g3⟩,_⟩:=r.at_;have pa:p≠a:=rH g1 g2 (λz=>nomatch z);have pb:p≠b:=rH g1 g3 (λz=>nomatch z);have ab:a≠b:=rH g2 g3 (λz=>nomatch z);have out:∀c,¬D3 p a b c->upd (upd H a (.dK kvs)) b (.lst xs) c=H c:=λc z=>by rw[aL λy=>z (.inr (.inr y)),aL λy=>z (.inr (.inl y))]
 refine r.after (Same.refl _) (λc u e=>?_) (λc u z e n=>⟨by rw[out c z];exact e,.inl n⟩) ⟨C,dx,g0,?_,?_,aG⟩ (λc z=>r.free z) ds
 ·rw[out c λz=>by rw[r.free z] at e;cases e];exact r.sub c u e
 ·rw[aL pb,aL pa];exact g1
 ·rw[aL ab,aG]
abbrev DM:=DS->Zc->Option (D×DS)
def NQ(K:Zj)(n:Nat)(m:DM):Sp:=λvs H Q _=>vs.length=n/\∃S p a b kvs xs us st ds d st',vs=.ref p::us/\Same S H/\uz K H p a b kvs xs/\(∀c,D3 p a b c->S c=none)/\DSt K S st kvs xs/\Dens K S ds us/\m st ds=some (d,st') /\
 ∀v S' H' kvs' xs',Same S S'->Same S' H'->(∀c u,¬D3 p a b c->H c=some u->S c=none->H' c=some u/\(S' c=none\/IT u))->uz K H' p a b kvs' xs'->(∀c,D3 p a b c->S' c=none)->DSt K S' st' kvs' xs'->Den K S' d v->Q v H'
@[simp]def dM(m:DM)(x:XA):yH:=λst ρ=>(x ρ).bind λds=>m st ds
def fW{mn:Str}{n:Nat}{m:DM}{t:TA}{x:XA}(hm:([("pictures",V.non),("deeds",V.non)]:List (Str×V)).lookup mn=none) (h:SA K t x) (hn:∀ρ ds,x ρ=some ds->ds.length=n):EB K i (wS K ["Desk"] mn (NQ K (n+1) m) (j4 i) t) (dM m x):=λA p a b Λ st ρ σ S H Q d st' r y k=>by
 obtain⟨ds,q,y⟩:=ZM y;obtain⟨kvs,xs,⟨C,dx,g0,g1,g2,g3⟩,_⟩:=r.at_;have lk:∀u v:V,([("pictures",u),("deeds",v)]:List (Str×V)).lookup mn=none:=λu v=>by
  simp only[List.lookup] at hm ⊢;split at hm
  ·cases hm
  ·split at hm
   ·cases hm
   ·rfl
 refine⟨.ref p,r.slot,p,C,dx,_,⟨rfl,⟨"Desk",.head _,g0⟩,g1⟩,lk _ _,h ρ σ S H _ ds r.rl q λvs S1 H1 z1 d1=>?_⟩;have r1:=r.ext z1;obtain⟨kvs1,xs1,hd,hs⟩:=r1.at_;refine⟨by rw[UI,<-d1.length,hn ρ ds q],S1,p,a,b,kvs1,xs1,vs,st,ds,d,st',rfl,z1.sub,hd,λc z=>r1.free z,hs,d1,y,λv S2 H2 kvs2 xs2 s1 s2 fr hd2 n2 hs2 dv=>?_⟩;exact k v S2 H2 (z1.sh.trans s1) (r1.after s1 s2 fr hd2 n2 hs2) dv
inductive OD where
 |nx (st:DS) (ρ:Env)|rt (st:DS) (d:D)
abbrev j5:=DS->Env->Option OD
def DoneD(K:Zj)(A:Hp)(p a b:Addr)(Λ:Nat->Option Addr)(i:Nat)(S:Hp)(E:Ends):OD->Prop
 |.nx st ρ=>∀σ' S' H',RlD K A p a b Λ i st ρ σ' S' H'->Same S S'->E.nx σ' H'
 |.rt st d=>∀v S' H' kvs xs,Same S S'->Same S' H'->Same A H'->(∀c,S' c=none\/A c=none\/∃u,A c=some u/\IT u)->uz K H' p a b kvs xs->(∀c,D3 p a b c->S' c=none)->DSt K S' st kvs xs->Den K S' d v->E.rt v H'
def DoneD.mono{E:Ends}{o:OD}(s:Same S S')(h:DoneD K A p a b Λ i S E o):DoneD K A p a b Λ i S' E o:=by
 cases o with
 |nx st ρ=>exact λσ1 S1 H1 r z=>h σ1 S1 H1 r (s.trans z)
 |rt st d=>exact λv S1 H1 kvs xs z=>h v S1 H1 kvs xs (s.trans z)
def SD(K:Zj)(i:Nat)(t:TS)(m:j5):Prop:=∀A p a b Λ st ρ σ S H (E:Ends) o,RlD K A p a b Λ i st ρ σ S H->m st ρ=some o->DoneD K A p a b Λ i S E o->t E σ H
def RlD.adis(r:RlD K A p a b Λ i st ρ σ S H):Same A H/\∀c,S c=none\/A c=none\/∃u,A c=some u/\IT u:=by
 obtain⟨_,kvs,xs,A',h1,_,_,h4⟩:=r;refine⟨λc u e=>h4.asub c u (h1 c u e),λc=>?_⟩;cases q:A c with
 |none=>exact .inr (.inl rfl)
 |some u=>
  rcases h4.adis c with z|z|⟨w,z,y⟩
  ·exact .inl z
  ·rw[h1 c u q] at z;cases z
  ·rw[h1 c u q] at z;cases z;exact .inr (.inr ⟨_,rfl,y⟩)
def GQ(ρ:Env)(i:Nat):Bool:=match ρ[i]? with|some .lo=>true|_=>false
def DD(h:GQ ρ i=true):ρ[i]?=some .lo:=by
 unfold GQ at h;split at h
 ·assumption
 ·cases h
@[simp]def uI(i:Nat)(m:XS):j5:=λst ρ=>match m ρ with
 |some (.nx ρ')=>if GQ ρ' i=true then some (.nx st ρ') else none
 |some (.rt d)=>some (.rt st d)
 |_=>none
def Bw{t:TS}{m:XS}(h:SS K t m):SD K i t (uI i m):=λA p a b Λ st ρ σ S H E o r x k=>by
 have hn:=λ{c}=>r.free (c:=c);obtain⟨⟨c1,c2,c3⟩,kvs,xs,A',s1,h2,h5,h4⟩:=r;unfold uI at x;split at x
 ·rename_i ρ' q;split at x
  ·rename_i hl;cases x;exact h A' Λ ρ σ S H E _ h4 q λσ' S' H' r' z=>k σ' S' H' ⟨⟨c1,DD hl,c3⟩,kvs,xs,A',s1,h2,h5.mono z,r'⟩ z
  ·cases x
 ·rename_i d q;cases x;refine h A' Λ ρ σ S H E _ h4 q λv S' H' z1 z2 z3 z4 dv=>?_;obtain⟨C,dx,g0,g1,g2,g3⟩:=id h2;refine k v S' H' kvs xs z1 z2 (λc u e=>z3 c u (s1 c u e)) (λc=>?_) ⟨C,dx,g0,z3 _ _ g1,z3 _ _ g2,z3 _ _ g3⟩ (λc y=>?_) (h5.mono z1) dv
  ·cases q:A c with
   |none=>exact .inr (.inl rfl)
   |some u=>
    rcases z4 c with z|z|⟨w,z,y⟩
    ·exact .inl z
    ·rw[s1 c u q] at z;cases z
    ·rw[s1 c u q] at z;cases z;exact .inr (.inr ⟨_,rfl,y⟩)
  ·obtain⟨u,e,n,_⟩:=lP h2 y;rcases z4 c with z|z|⟨w,z,y⟩
   ·exact z
   ·rw[e] at z;cases z
   ·rw[e] at z;cases z;exact absurd y n
 ·cases x
@[simp]def cy(m n:j5):j5:=λst ρ=>(m st ρ).bind λo=>match o with|.nx st' ρ'=>n st' ρ' | .rt st' d=>some (.rt st' d)
def fO{t u:TS}{m n:j5}(ht:SD K i t m)(hu:SD K i u n):SD K i (C8 t u) (cy m n):=λA p a b Λ st ρ σ S H E o r x k=>by
 obtain⟨om,q,x⟩:=ZM x;refine ht A p a b Λ st ρ σ S H _ om r q ?_;cases om with
 |nx s1 ρ'=>exact λσ' S' H' r' z=>hu A p a b Λ s1 ρ' σ' S' H' E o r' x (k.mono z)
 |rt s1 d=>cases x;exact k
@[simp]def n4(c:BQ)(m n:j5):j5:=λst ρ=>(c st ρ).bind λq=>if q.1=true then m q.2 ρ else n q.2 ρ
def nU{tc:TT}{t u:TS}{c:BQ}{m n:j5}(hc:L1 K i tc c)(ht:SD K i t m)(hu:SD K i u n):SD K i (KP tc t u) (n4 c m n):=λA p a b Λ st ρ σ S H E o r x k=>by
 obtain⟨⟨y,s1⟩,q,x⟩:=ZM x;refine hc A p a b Λ st ρ σ S H _ y s1 r q λS1 H1 z r1=>?_;cases y with
 |true=>rw[Uv rfl] at x;exact oP (ht A p a b Λ s1 ρ σ S1 H1 E o r1 x (k.mono z))
 |false=>rw[Uu U4] at x;exact rA (hu A p a b Λ s1 ρ σ S1 H1 E o r1 x (k.mono z))
@[simp]def iT:j5:=λst ρ=>some (.nx st ρ)
def ma:SD K i BD iT:=λA p a b Λ st ρ σ S H E o r x k=>by cases x;exact k σ S H r (Same.refl _)
@[simp]def zQ:j5:=λ_ _=>none
def Bv{t:TS}:SD K i t zQ:=λA p a b Λ st ρ σ S H E o r x k=>by cases x
@[simp]def lH(e:yH):j5:=λst ρ=>(e st ρ).map λq=>.rt q.2 q.1
def nV{t:TE}{e:yH}(h:EB K i t e):SD K i (FG t) (lH e):=λA p a b Λ st ρ σ S H E o r x k=>by obtain⟨⟨d,s1⟩,q,x⟩:=Vg.1 x;cases x;refine h A p a b Λ st ρ σ S H _ d s1 r q λv S1 H1 z r1 dv=>?_;obtain⟨kvs,xs,hd,hs⟩:=r1.at_;exact k v S1 H1 kvs xs z r1.sub r1.adis.1 r1.adis.2 hd (λc y=>r1.free y) hs dv
@[simp]def tF(e:yH):j5:=λst ρ=>(e st ρ).map λq=>.nx q.2 ρ
def r8{t:TE}{e:yH}(h:EB K i t e):SD K i (si t) (tF e):=λA p a b Λ st ρ σ S H E o r x k=>by obtain⟨⟨d,s1⟩,q,x⟩:=Vg.1 x;cases x;exact h A p a b Λ st ρ σ S H _ d s1 r q λv S1 H1 z r1 _=>k σ S1 H1 r1 z
def RlD.set{j:Nat}{d:D}{v:V}(r:RlD K A p a b Λ i st ρ σ S H)(hj:j≠i)(h:Den K S d v):RlD K A p a b Λ i st (ρ.set j (.sh d)) (σ.set j (some v)) S H:=by obtain⟨⟨c1,c2,c3⟩,kvs,xs,A',s1,h2,h5,h4⟩:=r;exact⟨⟨c1,by rw[UQ hj];exact c2,c3⟩,kvs,xs,A',s1,h2,h5,h4.set j h⟩
@[simp]def LR(i j:Nat)(e:yH):j5:=λst ρ=>(e st ρ).bind λq=>if j≠i then some (.nx q.2 (ρ.set j (.sh q.1))) else none
def Np{j:Nat}{t:TE}{e:yH}(h:EB K i t e):SD K i (nX t (dA j)) (LR i j e):=λA p a b Λ st ρ σ S H E o r x k=>by
 obtain⟨⟨d,s1⟩,q,x⟩:=ZM x;split at x
 ·rename_i hj;cases x;exact h A p a b Λ st ρ σ S H _ d s1 r q λv S1 H1 z r1 dv=>k _ S1 H1 (r1.set hj dv) z
 ·cases x
@[simp]def Ev(i:Nat)(e:XA):yH:=λst ρ=>(e (ρ.set i (.sh (c8 st)))).bind λl=>if noDks l=true then some (.lst l,st) else none
def Gr{t:TE}{e:XA}(h:SF K t e):EB K i t (Ev i e):=λA p a b Λ st ρ σ S H Q d st' r x k=>by
 obtain⟨l,q,x⟩:=ZM x;split at x
 ·rename_i hn;cases x;refine h _ σ _ H Q _ r.melt q λc xs S' H' z h1 h2 h3 dl=>?_;obtain⟨e1,e2⟩:=r.back z;obtain⟨kvs,ys,hd⟩:=r.kept z;have nc:¬D3 p a b c:=λy=>by
   obtain⟨kvs,xs,hd,_⟩:=r.at_;obtain⟨u,e,_⟩:=lP hd y;rw[h1] at e;cases e
  have z2:Ext S H (xi (M.lessD p a b S') H' [c]) H':=vQ e1 λy hy=>by rw[UV.1 hy];exact⟨h1,by rw[cB nc];exact h2⟩
  refine k (.ref c) _ H' z2.sh (r.ext z2) (Zs.2 ⟨c,xs,rfl,.inl ?_,(dl.lessD hd hn).mono ?_⟩)
  ·rw[rk (UV.2 rfl)];exact h3
  ·exact ll λy hy=>by rw[UV.1 hy,cB nc];exact h2
 ·cases x
def ya(i:Nat)(g:XG)(m:j5):Zc->j5
 |[],st,ρ=>some (.nx st ρ)
 |d::l,st,ρ=>(g d ρ).bind λρ1=>if GQ ρ1 i=true then (m st ρ1).bind λo=>match o with|.nx st2 ρ2=>ya i g m l st2 ρ2|.rt st2 e=>some (.rt st2 e) else none
@[simp]def Ez(i:Nat)(e:XA)(g:XG)(m:j5):j5:=λst ρ=>(e ρ).bind λl=>ya i g m l st ρ
def Nr{wi:TI}{g:TG}{tb:TS}{e:XA}{x:XG}{m:j5}(hi:SI K wi e)(hg:SG K g x)(hb:SD K i tb m):SD K i (FF wi g tb) (Ez i e x m):=λA p a b Λ st ρ σ S H E o r y k=>by
 obtain⟨l,q,y⟩:=ZM y;refine hi ρ σ S H _ l r.rl q λJ S1 H1 z1 wk=>?_;have r1:=r.ext z1;refine⟨λj n σ' H'=>n=l.length-j/\j<=l.length/\∃st' ρ' S',RlD K A p a b Λ i st' ρ' σ' S' H'/\Same S1 S'/\ya i x m (l.drop j) st' ρ'=some o,⟨_,rfl,UR _,st,ρ,S1,r1,Same.refl _,y⟩,?_⟩;rintro j n σ2 H2 ⟨rfl,hil,st2,ρ2,S2,r2,s2,y2⟩;obtain⟨w1,w2⟩:=wk S2 H2 s2 r2.sub;cases qd:l[j]? with
 |none=>
  have:l.length=j:=by have:=VG.1 qd;lia
  subst this;rw[VH (Ux _)] at y2;cases y2;exact .inl ⟨w2,k σ2 S2 H2 r2 (z1.sh.trans s2)⟩
 |some d=>
  obtain⟨g1,g2⟩:=w1 j d qd;have hlt:=(UX.1 qd).1;rw[iz qd] at y2;obtain⟨ρ3,qx,y2⟩:=ZM y2;split at y2
  ·rename_i hlo;refine .inr ⟨g1,λσ' H'=>∃st' ρ' S',RlD K A p a b Λ i st' ρ' σ' S' H'/\Same S1 S'/\ya i x m (l.drop (j+1)) st' ρ'=some o,λσ' H' ⟨st',ρ',S',a1,a2,a3⟩=>⟨_,(),rfl,hlt,st',ρ',S',a1,a2,a3⟩,λxv H3 hy=>?_⟩;obtain⟨rfl,dx⟩:=g2 xv H3 hy;obtain⟨⟨c1,c2,c3⟩,kvs,xs,A',k1,k2,k3,k4⟩:=r2;refine hg A' Λ ρ2 σ2 S2 H3 xv d _ ρ3 k4 dx qx λσ3 r3=>?_;obtain⟨om,qm,y2⟩:=ZM y2;refine hb A p a b Λ st2 ρ3 σ3 S2 H3 _ om ⟨⟨c1,DD hlo,c3⟩,kvs,xs,A',k1,k2,k3,r3⟩ qm ?_;cases om with
   |nx st4 ρ4=>exact λσ4 S4 H4 r4 s4=>⟨st4,ρ4,S4,r4,s2.trans s4,y2⟩
   |rt st4 e=>cases y2;exact DoneD.mono (z1.sh.trans s2) k
  ·cases y2
end
end M
namespace L2
open PySem PySem.Spec PyProof.Rows
def Fo{X:Cx}{k:Nat}{g C:Addr}{fd:FuncData}{ps:Zl}{sp:Sp}{N:Str}{p pos:Pos}(hN:W.nsIn X.K mainGlobals N=some (some (.ref C)))(M:Mk X.K C g)(F:Zq X.prog X.w X.K X.mg X.base cz k g fd ps sp)(hr:ZA (k+1) X.A)(hg:Gl X N)(hm:X.mg N=some (.ref C))(hb:Binds X.K fd ps [])(hx:gc cz X E0)
  (hdb:(N==("__debug__" : Str))=false:=by decide):PE X (.Call (.Name N p) [] [] pos) (Im X.K N sp eV):=λa b c d q I h=>Hr M F hr hg hm hb .nil hx hdb a b c d q I (h C hN)
end L2
namespace M
open PySem L2
section
variable {K:Zj}{S S' H H' A:Hp}{p a b:Addr}{Λ:Nat->Option Addr}{i:Nat}{st st':DS}{ρ:Env}{σ:St}
def Kg(l:List (Str×D))(x:Str)(d:D):List (Str×D):=if (l.any λq=>decide (q.1=x))=true then l.map (λq=>if q.1=x then (q.1,d) else q) else l++[(x,d)]
def Dw(l:List (Str×D))(x:Str):List (Str×D):=l.filter λq=>decide (q.1≠x)
inductive PV(K:W.Frag)(S:Hp):List (Str×D)->List (c7×V)->Prop where
 |nil:PV K S [] []
 |cons {x:Str} {d:D} {v:V} {l:List (Str×D)} {kvs:List (c7×V)}:Den K S d v->PV K S l kvs->PV K S ((x,d)::l) ((Sum.inr x,v)::kvs)
theorem PV.of:∀ {l:List (Str×D)} {kvs:List (c7×V)},kvs.map (·.1)=l.map (λq=>Sum.inr q.1)->Dens K S (l.map (·.2)) (kvs.map (·.2))->PV K S l kvs
 |[],[],_,_=>.nil
 |[],_::_,h,_=>by cases h
 |_::_,[],h,_=>by cases h
 | (x,d)::l,(k,v)::kvs,h,h2=>by rw[UG,UG] at h;obtain⟨e1,e2⟩:=Wz h;replace e1:k=Sum.inr x:=e1;subst e1;obtain⟨y,ys,e,a,b⟩:=h2.cons_of;rw[UG] at e;obtain⟨e3,e4⟩:=Wz e;subst e3 e4;exact .cons a (PV.of e2 b)
def PV.to{l:List (Str×D)}{kvs:List (c7×V)}(h:PV K S l kvs):kvs.map (·.1)=l.map (λq=>Sum.inr q.1)/\Dens K S (l.map (·.2)) (kvs.map (·.2)):=by
 induction h with
 |nil=>exact⟨rfl,.nil⟩
 |cons a _ ih=>exact⟨by rw[UG,UG,ih.1],.cons a ih.2⟩
def PV.len{l:List (Str×D)}{kvs:List (c7×V)}(h:PV K S l kvs):l.length=kvs.length:=by
 induction h with
 |nil=>rfl
 |cons _ _ ih=>rw[UI,UI,ih]
def JF(x y:Str):decide ((Sum.inr y:c7)=Sum.inr x)=decide (y=x):=by
 by_cases e:y=x
 ·subst e;simp
 ·simp[e]
def PV.any{l:List (Str×D)}{kvs:List (c7×V)}(x:Str)(h:PV K S l kvs):(kvs.any λkv=>decide (kv.1=Sum.inr x))=l.any λq=>decide (q.1=x):=by
 induction h with
 |nil=>rfl
 |cons _ _ ih=>rw[VC,VC,ih,JF]
def PV.put{l:List (Str×D)}{kvs:List (c7×V)}{x:Str}{d:D}{v:V}(h:PV K S l kvs)(dv:Den K S d v):PV K S (Kg l x d) (kP kvs (.inr x) v):=by
 unfold Kg kP;rw[h.any x];split
 ·rename_i hx;clear hx;induction h with
  |nil=>exact .nil
  | @cons y e u l kvs a _ ih=>
   rw[UG,UG];by_cases q:y=x
   ·subst q;rw[Uv rfl,Uv rfl];exact .cons dv ih
   ·rw[Uu q,Uu (λz=>q (Wd z))];exact .cons a ih
 ·rename_i hx;clear hx;induction h with
  |nil=>exact .cons dv .nil
  |cons a _ ih=>exact .cons a ih
def PV.drop{l:List (Str×D)}{kvs:List (c7×V)}(x:Str)(h:PV K S l kvs):PV K S (Dw l x) (q9 kvs (.inr x)):=by
 unfold Dw q9;induction h with
 |nil=>exact .nil
 | @cons y e u l kvs a _ ih=>
  by_cases q:y=x
  ·subst q;rw[aap (by simp),aap (by simp)];exact ih
  ·rw[aaq (by simpa using q),aaq (by simpa using q)];exact .cons a ih
def PV.look{l:List (Str×D)}{kvs:List (c7×V)}(x:Str)(h:PV K S l kvs):(∀d,l.lookup x=some d->∃v,ie kvs (.inr x)=some v/\Den K S d v)/\(l.lookup x=none->ie kvs (.inr x)=none):=by
 induction h with
 |nil=>exact⟨λd z=>(nomatch z),λ_=>rfl⟩
 | @cons y e u l kvs a _ ih=>
  by_cases q:x=y
  ·subst q;rw[Xf,lB rfl];exact⟨λd z=>by cases z;exact⟨_,rfl,a⟩,λz=>(nomatch z)⟩
  ·rw[List.lookup,show (x==y)=false by simpa using q,lA (λz=>q (Wd z).symm)];exact ih
def RlD.parts(r:RlD K A p a b Λ i st ρ σ S H):∃C dx kvs xs,W.nsIn K mainGlobals "Desk"=some (some (.ref C))/\H p=some (.ins C dx [("pictures",.ref a),("deeds",.ref b)])/\H a=some (.dK kvs)/\H b=some (.lst xs)/\PV K S st.pics kvs/\Dens K S st.deeds xs:=by obtain⟨kvs,xs,⟨C,dx,g0,g1,g2,g3⟩,h1,h2,h3⟩:=r.at_;exact⟨C,dx,kvs,xs,g0,g1,g2,g3,PV.of h1 h2,h3⟩
def vP{Q:VK}(r:RlD K A p a b Λ i st ρ σ S H)(k:Q (.ref a) H):sj K ["Desk"] (j4 i) "pictures" σ H Q:=by obtain⟨C,dx,kvs,xs,g0,g1,_⟩:=r.parts;exact⟨.ref p,r.slot,p,C,dx,_,.ref a,⟨rfl,⟨"Desk",.head _,g0⟩,g1⟩,rfl,k⟩
def xV{Q:VK}(r:RlD K A p a b Λ i st ρ σ S H)(k:Q (.ref b) H):sj K ["Desk"] (j4 i) "deeds" σ H Q:=by obtain⟨C,dx,kvs,xs,g0,g1,_⟩:=r.parts;exact⟨.ref p,r.slot,p,C,dx,_,.ref b,⟨rfl,⟨"Desk",.head _,g0⟩,g1⟩,by rw[List.lookup,show (("deeds" : Str) == "pictures")=false by decide +kernel];exact Xf,k⟩
def zL{Z:Hp}{c:Addr}{o:HO}(h:Z c=some o):upd Z c o=Z:=by
 funext y
 by_cases e:y=c
 ·subst e;rw[aG,h]
 ·rw[aL e]
def IA{Z:Hp}{c d:Addr}{o u:HO}(h:c≠d):upd (upd Z c o) d u=upd (upd Z d u) c o:=by
 funext y
 by_cases e:y=d
 ·subst e;rw[aG,aL (UB h),aG]
 ·by_cases e2:y=c
  ·subst e2;rw[aL e,aG,aG]
  ·rw[aL e,aL e2,aL e2,aL e]
@[simp]def LV(n e:XE):j5:=λst ρ=>(e ρ).bind λd=>(n ρ).bind λx=>match x with|.str x=>if st.pics.length<gA then some (.nx ⟨Kg st.pics x d,st.deeds⟩ ρ) else none|_=>none
def Nu{tn te:TE}{n e:XE}(hn:SE K tn n)(he:SE K te e):SD K i (LB (sj K ["Desk"] (j4 i) "pictures") tn te) (LV n e):=λA p a b Λ st ρ σ S H E o r x k=>by
 obtain⟨d,q1,x⟩:=ZM x;obtain⟨y,q2,x⟩:=ZM x;cases y<;>try (cases x;done)
 rename_i y;dsimp only at x;split at x
 ·rename_i hl;cases x;refine he ρ σ S H _ d r.rl q1 λv S1 H1 z1 d1=>?_;have r1:=r.ext z1;refine vP r1 (hn ρ σ S1 H1 _ _ r1.rl q2 λu S2 H2 z2 d2=>?_);have r2:=r1.ext z2;obtain⟨C,dx,kvs,xs,g0,g1,g2,g3,pv,dd⟩:=r2.parts;rw[Zo.1 d2];refine⟨a,_,rfl,DPut.k g2 (k:=.inr y) (by rw[<-pv.len];exact WW hl gJ),?_⟩;have:=r2.chg (st':=⟨Kg st.pics y d,st.deeds⟩) (kvs:=kP kvs (.inr y) v) (xs:=xs) ⟨(pv.put (d1.mono z2.sh)).to.1,(pv.put (d1.mono z2.sh)).to.2,dd⟩;rw[zL (show upd H2 a (.dK (kP kvs (.inr y) v)) b=some (.lst xs) by rw[aL (rH g3 g2 λz=>nomatch z)];exact g3)] at this;exact k σ S2 _ this (z1.sh.trans z2.sh)
 ·cases x
@[simp]def LS(n:XE):j5:=λst ρ=>(n ρ).bind λx=>match x with|.str x=>(st.pics.lookup x).bind λ_=>some (.nx ⟨Dw st.pics x,st.deeds⟩ ρ)|_=>none
def Nq{tn:TE}{n:XE}(hn:SE K tn n):SD K i (si (C4 (sj K ["Desk"] (j4 i) "pictures") tn)) (LS n):=λA p a b Λ st ρ σ S H E o r x k=>by
 obtain⟨y,q2,x⟩:=ZM x;cases y<;>try (cases x;done)
 rename_i y;dsimp only at x;obtain⟨d,q3,x⟩:=ZM x;cases x;obtain⟨_,_,kvs0,_,_,_,g20,_⟩:=r.parts;unfold si C4;refine vP r ?_;refine⟨a,rfl,.inl ⟨kvs0,.inl g20⟩,hn ρ σ S H _ _ r.rl q2 λu S2 H2 z2 d2=>?_⟩;have r2:=r.ext z2;obtain⟨C,dx,kvs,xs,g0,g1,g2,g3,pv,dd⟩:=r2.parts;rw[Zo.1 d2];obtain⟨v,e1,_⟩:=(pv.look y).1 d q3;refine⟨kvs,.inr y,v,g2,rfl,e1,?_⟩;have:=r2.chg (st':=⟨Dw st.pics y,st.deeds⟩) (kvs:=q9 kvs (.inr y)) (xs:=xs) ⟨(pv.drop y).to.1,(pv.drop y).to.2,dd⟩;rw[zL (show upd H2 a (.dK (q9 kvs (.inr y))) b=some (.lst xs) by rw[aL (rH g3 g2 λz=>nomatch z)];exact g3)] at this;exact k σ S2 _ this z2.sh
@[simp]def LQ(n:XE):j5:=λst ρ=>(n ρ).bind λx=>match x with|.str x=>if st.deeds.length<gA then some (.nx ⟨st.pics,st.deeds++[.tup [.str x,(st.pics.lookup x).getD .non]]⟩ ρ) else none|_=>none
def No{tn:TE}{n:XE}(hn:SE K tn n):SD K i (si (Eh K "list" rAppend (sj K ["Desk"] (j4 i) "deeds") (cj (FH (cj tn (cj (C3 (sj K ["Desk"] (j4 i) "pictures") tn) eV))) eV))) (LQ n):=λA p a b Λ st ρ σ S H E o r x k=>by
 obtain⟨y,q2,x⟩:=ZM x;cases y<;>try (cases x;done)
 rename_i y;dsimp only at x;split at x
 ·rename_i hl;cases x;obtain⟨_,_,_,xs0,_,_,_,g30,_⟩:=r.parts;unfold si Eh;refine xV r ?_;refine⟨.inl ⟨rfl,xs0,SqL.of g30⟩,hn ρ σ S H _ _ r.rl q2 λu S1 H1 z1 d1=>?_⟩;have r1:=r.ext z1;obtain⟨_,_,kvs1,_,_,_,g21,_⟩:=r1.parts;unfold cj C3;refine vP r1 ?_;refine⟨a,rfl,.inl ⟨kvs1,.inl g21⟩,hn ρ σ S1 H1 _ _ r1.rl q2 λu2 S2 H2 z2 d2=>?_⟩;have r2:=r1.ext z2;obtain⟨C,dx,kvs,xs,g0,g1,g2,g3,pv,dd⟩:=r2.parts;rw[Zo.1 d2];obtain⟨l1,l2⟩:=pv.look y;have hv:∃w,Den K S2 ((st.pics.lookup y).getD .non) w/\(ie kvs (.inr y)).getD .non=w:=by
   cases q:st.pics.lookup y with
   |none=>exact⟨.non,ZI.2 rfl,by rw[l2 q];rfl⟩
   |some d=>obtain⟨w,e1,e2⟩:=l1 d q;exact⟨w,e2,by rw[e1];rfl⟩
  obtain⟨w,dw,ew⟩:=hv;refine⟨ie kvs (.inr y),.inl ⟨kvs,.inr y,.inl g2,rfl,rfl⟩,?_⟩;rw[ew];refine⟨UD (show 2<=1000 by decide) (by rw[UF];decide),λt ht=>?_⟩;have z3:=Ext.new (o:=.tup [u,w]) r2.sub ht;have r3:=r2.ext z3;obtain⟨C,dx,kvs,xs,g0,g1,g2,g3,pv,dd⟩:=r3.parts;have dt:Den K (upd S2 t (.tup [u,w])) (.tup [.str y,(st.pics.lookup y).getD .non]) (.ref t):=Zx.2 ⟨t,_,rfl,TpA.of aG,.cons ((d1.mono z2.sh).mono z3.sh) (.cons (dw.mono z3.sh) .nil)⟩;refine⟨b,xs,.ref t,rfl,rfl,g3,by rw[<-dd.length];exact WW hl gJ,?_⟩;have:=r3.chg (st':=⟨st.pics,st.deeds++[.tup [.str y,(st.pics.lookup y).getD .non]]⟩) (kvs:=kvs) (xs:=xs++[.ref t]) ⟨pv.to.1,pv.to.2,dd.append (.cons dt .nil)⟩;rw[zL g2] at this;exact k σ _ _ this ((z1.sh.trans z2.sh).trans z3.sh)
 ·cases x
@[simp]def LU(i j:Nat):j5:=λst ρ=>st.deeds.getLast?.bind λd=>if j≠i then some (.nx ⟨st.pics,st.deeds.dropLast⟩ (ρ.set j (.sh d))) else none
def EW:∀ {l:Zc} {xs:Za} {d:D},Dens K S l xs->l.getLast?=some d->∃y,xs[xs.length-1]?=some y/\Den K S d y/\Dens K S l.dropLast xs.dropLast:=λ{l xs d} h e=>by have hl:=h.length;rw[List.getLast?_eq_getElem?] at e;obtain⟨y,e1,e2⟩:=h.get e;refine⟨y,by rw[<-hl];exact e1,e2,?_⟩;rw[aar,aar,hl];exact h.take _
def Nt{j:Nat}:SD K i (nX (NB K "list" rPop (sj K ["Desk"] (j4 i) "deeds")) (dA j)) (LU i j):=λA p a b Λ st ρ σ S H E o r x k=>by
 obtain⟨d,q,x⟩:=ZM x;split at x
 ·rename_i hj;cases x;obtain⟨C,dx,kvs,xs,g0,g1,g2,g3,pv,dd⟩:=r.parts;obtain⟨y,e1,e2,e3⟩:=EW dd q;unfold nX NB;refine xV r ?_;refine⟨.inl ⟨rfl,xs,SqL.of g3⟩,b,xs,y,rfl,rfl,g3,e1,?_⟩;have:=r.chg (st':=⟨st.pics,st.deeds.dropLast⟩) (kvs:=kvs) (xs:=xs.dropLast) ⟨pv.to.1,pv.to.2,e3⟩;rw[zL g2] at this;exact k _ S _ (this.set hj e2) (Same.refl _)
 ·cases x
def NP(n:Nat)(x:j5):DM:=λst ds=>match x st (.lo::(ds.map .sh++List.replicate (n-1-ds.length) .un)) with
 |some (.rt st' d)=>some (d,st')
 |some (.nx st' _)=>some (.non,st')
 |none=>none
def Fv{N:Zl}{ds:Zc}{us:Za}{kvs:List (c7×V)}{xs:Za}(s:Same S H)(hd:uz K H p a b kvs xs)(n:∀c,D3 p a b c->S c=none)(hs:DSt K S st kvs xs)(h:Dens K S ds us) :
  RlD K (lessD p a b (eY S H)) p a b (λj=>if j=0 then some p else none) 0 st (.lo::(ds.map .sh++List.replicate (N.length-1-ds.length) .un)) (L2.aX N (.ref p::us)) S H:=by
 have hl:=h.length;have al:∀c,D3 p a b c->eY S H c=H c:=λc z=>by unfold eY;rw[n c z]
 have key:∀(i:Nat) t,(Sl.lo::(ds.map Sl.sh++List.replicate (N.length-1-ds.length) .un))[i]?=some t->t=.un\/(∃d v,t=.sh d/\(L2.aX N (.ref p::us))[i]?=some (some v)/\Den K S d v)\/(i=0/\t=.lo):=λi t ht=>by
  cases i with
  |zero=>rw[List.getElem?_cons_zero] at ht;cases ht;exact .inr (.inr ⟨rfl,rfl⟩)
  |succ i=>
   rw[Wa] at ht;by_cases hi:i<ds.length
   ·rw[Wl (by rw[UN];exact hi),U9] at ht;cases q:ds[i]? with
    |none=>rw[q] at ht;cases ht
    |some d=>rw[q] at ht;cases ht;obtain⟨v,e1,e2⟩:=h.get q;refine .inr (.inl ⟨d,v,rfl,?_,e2⟩);unfold L2.aX;rw[Wl (by rw[UN,UI];lia),U9,Wa,e1];rfl
   ·rw[Xs (by rw[UN];lia),Xu] at ht;split at ht
    ·cases ht;exact .inl rfl
    ·cases ht
 have e0:(L2.aX N (.ref p::us))[0]?=some (some (.ref p)):=by unfold L2.aX;rfl
 obtain⟨C,dx,g0,g1,g2,g3⟩:=id hd;refine⟨⟨Uv rfl,rfl,iE (.inl rfl),iE (.inr (.inl rfl)),iE (.inr (.inr rfl))⟩,kvs,xs,eY S H,λc u e=>?_,⟨C,dx,g0,by rw[al _ (.inl rfl)];exact g1,by rw[al _ (.inr (.inl rfl))];exact g2,by rw[al _ (.inr (.inr rfl))];exact g3⟩,hs,λ_=>[],?_⟩
 ·by_cases z:D3 p a b c
  ·rw[iE z] at e;cases e
  ·rw[cB z] at e;exact e
 ·exact {
   len:=by unfold L2.aX;simp only[U2,UI,UN,WO,hl];lia
   sub:=s
   sh:=λi d hi=>by
    rcases key i _ hi with e|⟨d',v,e,h1,h2⟩|⟨_,e⟩
    ·cases e
    ·cases e;exact⟨v,h1,h2⟩
    ·cases e
   ow:=λi o hi=>by rcases key i _ hi with e|⟨d',v,e,h1,h2⟩|⟨_,e⟩<;>cases e
   dj:=λi j o o' hij hi hj=>by rcases key i _ hi with e|⟨d',v,e,h1,h2⟩|⟨_,e⟩<;>cases e
   lo:=λi hi=>by
    rcases key i _ hi with e|⟨d',v,e,h1,h2⟩|⟨rfl,e⟩
    ·cases e
    ·cases e
    ·exact⟨p,Uv rfl,e0⟩
   asub:=sA
   adis:=sy }
def zw{t:TS}{x:j5}{N:Zl}{n k:Nat}{vs:Za}{H:Hp}{Q:VK}{E:XK}(hs:SD K 0 t x)(hN:N.length=n)(h:NQ K k (NP n x) vs H Q E):t { nx:=λ_ H'=>Q .non H',rt:=Q } (L2.aX N vs) H:=by
 obtain⟨_,S,p,a,b,kvs,xs,us,st,ds,d,st',rfl,s,hd,n0,hst,dd,y,q⟩:=h;subst hN;have r:=Fv (N:=N) s hd n0 hst dd;have fr:∀ {S' H':Hp},Same (lessD p a b (eY S H)) H'->(∀c,S' c=none\/lessD p a b (eY S H) c=none\/∃u,lessD p a b (eY S H) c=some u/\IT u)->∀c u,¬D3 p a b c->H c=some u->S c=none->H' c=some u/\(S' c=none\/IT u):=λ{S' H'} z1 z2 c u nz e n=>by
  have ha:lessD p a b (eY S H) c=some u:=by rw[cB nz];exact qT e n
  refine⟨z1 c u ha,?_⟩;rcases z2 c with z|z|⟨w,z,y⟩
  ·exact .inl z
  ·rw[ha] at z;cases z
  ·rw[ha] at z;cases z;exact .inr y
 unfold NP at y;split at y
 ·rename_i st2 d2 qx;cases y;exact hs _ p a b _ st _ _ S H _ _ r qx λv S' H' kvs' xs' z1 z2 z3 z4 hd' n' hs' dv=>q v S' H' kvs' xs' z1 z2 (fr z3 z4) hd' n' hs' dv
 ·rename_i st2 ρ2 qx;cases y;refine hs _ p a b _ st _ _ S H _ _ r qx λσ' S' H' r' z=>?_;obtain⟨kvs',xs',hd',hs'⟩:=r'.at_;exact q .non S' H' kvs' xs' z r'.sub (fr r'.adis.1 r'.adis.2) hd' (λc y=>r'.free y) hs' (ZI.2 rfl)
 ·cases y
def wN(K:Zj):Sp:=λvs H Q _=>vs.length=1/\∃x C dx,vs=[.ref x]/\H x=some (.ins C dx [])/\W.nsIn K mainGlobals "Desk"=some (some (.ref C))/\∀a b,H a=none->H b=none->a≠b->Q .non (upd (upd (upd H a (.dK [])) b (.lst [])) x (.ins C dx [("pictures",.ref a),("deeds",.ref b)]))
def GO{N:Zl}{vs:Za}{Q:VK}{E:XK}(hc:qL K ["Desk"] λC=>Cls K C/\NoAttr K C "pictures") (hc2:qL K ["Desk"] λC=>Cls K C/\NoAttr K C "deeds") (h:wN K vs H Q E) :
  C8 (M9 K (j4 0) Il "pictures") (M9 K (j4 0) (C5 eV) "deeds") { nx:=λ_ H'=>Q .non H',rt:=Q } (L2.aX N vs) H:=by
 obtain⟨_,x,C,dx,rfl,hx,hC,k⟩:=h;obtain⟨c1,n1⟩:=hc "Desk" (.head _) C hC;obtain⟨_,n2⟩:=hc2 "Desk" (.head _) C hC;have e0:(L2.aX N [.ref x])[0]?=some (some (.ref x)):=by unfold L2.aX;rfl
 refine λa ha=>⟨.ref x,e0,x,C,dx,[],rfl,?_,c1,n1,by decide,?_⟩
 ·rw[aL (bg hx ha)];exact hx
 ·refine⟨UR _,λb hb=>⟨.ref x,e0,x,C,dx,[("pictures",.ref a)],rfl,?_,c1,n2,by show 1<1000;decide,?_⟩⟩
  ·have bx:x≠b:=λz=>by rw[<-z,aG] at hb;cases hb
   rw[aL bx,aG];rfl
  ·have xa:x≠a:=bg hx ha;have bx:b≠x:=λz=>by rw[z,aG] at hb;cases hb
   have ba:b≠a:=λz=>by rw[z,aL (UB xa),aG] at hb;cases hb
   have hb':H b=none:=by rw[aL bx,aL ba] at hb;exact hb
   have:=k a b ha hb' (UB ba);have e:upd (upd (upd (upd H a (.dK [])) x (.ins C dx (mH "pictures" (.ref a) []))) b (.lst [])) x (.ins C dx (mH "deeds" (.ref b) [("pictures",.ref a)]))=upd (upd (upd H a (.dK [])) b (.lst [])) x (.ins C dx [("pictures",.ref a),("deeds",.ref b)]):=by rw[IA (UB bx),zM];rfl
   show Q .non _;rw[e];exact this
@[simp]def PM(i:Nat)(m:j5):XS:=λρ=>if i<ρ.length/\isUn ρ i=true then (match m ⟨[],[]⟩ (ρ.set i .lo) with|some (.rt _ d)=>some (.rt d)|_=>none) else none
where isUn (ρ:Env) (i:Nat):Bool:=match ρ[i]? with|some .un=>true|_=>false
def Q1{t:TS}{m:j5}(h:SD K i t m):SS K (C8 (nX (Im K "Desk" (wN K) eV) (dA i)) t) (PM i m):=λA Λ ρ σ S H E o r y k=>by
 unfold PM at y;split at y
 ·rename_i hi;split at y
  ·rename_i s1 d qm;cases y;intro C hC x dx hx hdx hne;have hxd:upd H dx (.own x) x=none:=by rw[aL (UB hne)];exact hx
   refine⟨rfl,x,C,dx,rfl,aG,hC,λa b ha hb hab=>⟨rfl,?_⟩⟩;have xa:x≠a:=λz=>by rw[<-z,aG] at ha;cases ha
   have xb:x≠b:=λz=>by rw[<-z,aG] at hb;cases hb
   have ha':H a=none:=by
    rw[aL (UB xa)] at ha;by_cases z:a=dx
    ·rw[z,aG] at ha;cases ha
    ·rw[aL z] at ha;exact ha
   have hb':H b=none:=by
    rw[aL (UB xb)] at hb;by_cases z:b=dx
    ·rw[z,aG] at hb;cases hb
    ·rw[aL z] at hb;exact hb
   have none3:∀c,D3 x a b c->H c=none:=λc z=>by rcases z with rfl|rfl|rfl<;>assumption
   obtain⟨Φ,f⟩:=r;have keep:∀c u,H c=some u->upd (upd (upd (upd (upd H dx (.own x)) x (.ins C dx [])) a (.dK [])) b (.lst [])) x (.ins C dx [("pictures",.ref a),("deeds",.ref b)]) c=some u:=λc u e=>by rw[aL (bg e hx),aL (bg e hb'),aL (bg e ha'),aL (bg e hx),aL (bg e hdx)];exact e
   have hd:uz K (upd (upd (upd (upd (upd H dx (.own x)) x (.ins C dx [])) a (.dK [])) b (.lst [])) x (.ins C dx [("pictures",.ref a),("deeds",.ref b)])) x a b [] []:=⟨C,dx,hC,aG,by rw[aL (UB xa),aL hab,aG],by rw[aL (UB xb),aG]⟩
   have nA:∀c,D3 x a b c->A c=none:=λc z=>f.asub.free (none3 c z);have nS:∀c,D3 x a b c->S c=none:=λc z=>f.sub.free (none3 c z);refine h A x a b (λj=>if j=i then some x else Λ j) ⟨[],[]⟩ (ρ.set i .lo) (σ.set i (some (.ref x))) S _ E _ ⟨⟨Uv rfl,by rw[Vs hi.1],nA _ (.inl rfl),nA _ (.inr (.inl rfl)),nA _ (.inr (.inr rfl))⟩,[],[],uy x a b A (upd (upd (upd (upd (upd H dx (.own x)) x (.ins C dx [])) a (.dK [])) b (.lst [])) x (.ins C dx [("pictures",.ref a),("deeds",.ref b)])),λc u e=>?_,?_,⟨rfl,.nil,.nil⟩,Φ,?_⟩ qm λv S' H' kvs xs z1 z2 z3 z4 _ _ _ dv=>k v S' H' z1 z2 z3 z4 dv
   ·rw[cG λz=>by rw[nA c z] at e;cases e];exact e
   ·obtain⟨C',dx',g0,g1,g2,g3⟩:=hd;exact⟨C',dx',g0,by rw[cJ (.inl rfl)];exact g1,by rw[cJ (.inr (.inl rfl))];exact g2,by rw[cJ (.inr (.inr rfl))];exact g3⟩
   ·have set':∀(j:Nat) t,(ρ.set i Sl.lo)[j]?=some t->t ≠ .lo->j≠i/\ρ[j]?=some t:=λj t hj nt=>by
     rcases cg hj with ⟨_,e,_⟩|⟨hij,hj⟩
     ·exact absurd e nt
     ·exact⟨UB hij,hj⟩
    exact {
     len:=by rw[U0,U0];exact f.len
     sub:=λc u e=>keep c u (f.sub c u e)
     sh:=λj d hj=>by obtain⟨hji,hj⟩:=set' j _ hj (by intro z;cases z);rw[UQ (UB hji)];exact f.sh j d hj
     ow:=λj o hj=>by
      obtain⟨hji,hj⟩:=set' j _ hj (by intro z;cases z);rw[UQ (UB hji)];obtain⟨v,e1,e2,e3,e4⟩:=f.ow j o hj;refine⟨v,e1,e2.mono (Same.refl _) λc hc=>?_,e3,λc hc=>⟨(e4 c hc).1,?_⟩⟩
      ·obtain⟨u,hu⟩:=aao.1 (e2.there c hc);rw[keep c u hu,hu]
      ·rw[cG λz=>e2.there c hc (none3 c z)];exact (e4 c hc).2
     dj:=λj l o o' hjl h1 h2=>f.dj j l o o' hjl (set' j _ h1 (by intro z;cases z)).2 (set' l _ h2 (by intro z;cases z)).2
     lo:=λj hj=>by
      rcases cg hj with ⟨e,_,_⟩|⟨hij,hj⟩
      ·subst e;exact⟨x,Uv rfl,by rw[Vs (by rw[f.len];exact hi.1)]⟩
      ·obtain⟨c,e1,e2⟩:=f.lo j hj;exact⟨c,by rw[Uu (UB hij)];exact e1,by rw[UQ hij];exact e2⟩
     asub:=λc u e=>by
      by_cases z:D3 x a b c
      ·rw[cJ z] at e;exact e
      ·rw[cG z] at e;exact keep c u (f.asub c u e)
     adis:=λc=>by
      by_cases z:D3 x a b c
      ·exact .inl (nS c z)
      ·rw[cG z];exact f.adis c }
  ·cases y
 ·cases y
end
section
variable {K:Zj}{S S' H H':Hp}{E:XK}
def KI{E:XK}{wi:TI}{g:TG}{tb:TS}{e:XA}{x:XG}{m:XR}(hi:P0 K wi e)(hg:SG K g x)(hb:SX K E tb m):SX K E (FF wi g tb) (Ey e x m):=λA Λ ρ σ S H D o r y k=>by
 obtain⟨l,q,y⟩:=ZM y;refine hi ρ σ S H _ l r.toRl q λJ S1 H1 z1 wk=>?_;have r1:=r.ext z1;refine⟨λi n σ' H'=>n=l.length-i/\i<=l.length/\∃ρ' S',RlA K A Λ ρ' σ' S' H'/\Same S1 S'/\yb x m (l.drop i) ρ'=some o,⟨_,rfl,UR _,ρ,S1,r1,Same.refl _,y⟩,?_⟩;rintro i n σ2 H2 ⟨rfl,hil,ρ2,S2,r2,s2,y2⟩;obtain⟨w1,w2⟩:=wk S2 H2 s2 r2.sub;cases qd:l[i]? with
 |none=>
  have:l.length=i:=by have:=VG.1 qd;lia
  subst this;rw[VH (Ux _)] at y2;cases y2;exact .inl ⟨w2,k σ2 S2 H2 r2 (z1.sh.trans s2)⟩
 |some d=>
  obtain⟨g1,g2⟩:=w1 i d qd;have hlt:=(UX.1 qd).1;rw[iz qd] at y2;obtain⟨ρ3,qx,y2⟩:=ZM y2;refine .inr ⟨g1,λσ' H'=>∃ρ' S',RlA K A Λ ρ' σ' S' H'/\Same S1 S'/\yb x m (l.drop (i+1)) ρ'=some o,λσ' H' ⟨ρ',S',a1,a2,a3⟩=>⟨_,(),rfl,hlt,ρ',S',a1,a2,a3⟩,λxv H3 hy=>?_⟩;obtain⟨S3,z3,dx⟩:=g2 xv H3 hy;refine hg A Λ ρ2 σ2 S3 H3 xv d _ ρ3 (r2.ext z3) dx qx λσ3 r3=>?_;obtain⟨om,qm,y2⟩:=ZM y2;refine hb A Λ ρ3 σ3 S3 H3 _ om r3 qm ?_;cases om with
  |nx ρ4=>exact λσ4 S4 H4 r4 s4=>⟨ρ4,S4,r4,s2.trans (z3.sh.trans s4),y2⟩
  |rz N=>cases y2;exact DoneX.mono (z1.sh.trans (s2.trans z3.sh)) k
@[simp]def Qr:XR:=λ_=>none
@[simp]def K3(n m:Env->Option Str):Env->Option Str:=λρ=>match n ρ with|some N=>some N|none=>m ρ
def Ih{t u:TE}{n m:Env->Option Str}(h:qN K E t n)(h2:qN K E u m):qN K E (Ps t u) (K3 n m):=λA Λ ρ σ S H Q N r x k=>by
 unfold K3 at x;cases q:n ρ with
 |some M=>rw[q] at x;cases x;exact .inl (h A Λ ρ σ S H Q _ r q k)
 |none=>rw[q] at x;exact .inr (h2 A Λ ρ σ S H Q N r x k)
def KN{r:R2}{ta tb:TE}{m:Env->Option Str}(h:qN K E ta m):qN K E (FP r ta tb) m:=λA Λ ρ σ S H Q N rl x k=>h A Λ ρ σ S H _ N rl x k
def FC{n c:Nat}{dv:Za}{dd:Zc}{m:Zc->Option Str}{t:TA}{a:XA}(h:SA K t a)(hn:∀ρ ds,a ρ=some ds->ds.length=n)(hd:∀S,Dens K S dd dv)(hc:n+dd.length=c:=by rfl):qN K E (yx (zI K c m) dv E t) (dN (λds=>m (ds++dd)) a):=λA Λ ρ σ S H Q N r x k=>by obtain⟨ds,q,x⟩:=ZM x;refine h ρ σ S H _ ds r.toRl q λvs S1 H1 z1 d1=>?_;refine⟨by rw[U2,<-d1.length,<-(hd S1).length,hn ρ ds q];exact hc,S1,ds++dd,N,z1.sub,d1.append (hd S1),x,λfx C S2 H2 ag z2 hC=>?_⟩;obtain⟨e1,e2,e3,e4⟩:=pN r (z1.trans z2);exact k fx C S2 H2 ag e1 e2 e3 e4 hC
@[simp]def wZ(Ns:Zl)(m:Str)(g:Zc->Option Str)(e:XE)(a:XA):Env->Option Str:=λρ=>(e ρ).bind λd=>match d with|.ins N ns l=>if Ns.contains N && !ns.contains m then (a ρ).bind λds=>g (.ins N ns l::ds) else none|_=>none
def BB{Ns:Zl}{m:Str}{n:Nat}{g:Zc->Option Str}{ta:TE}{t:TA}{e:XE}{a:XA}(h:SE K ta e)(ha:SA K t a)(hn:∀ρ ds,a ρ=some ds->ds.length=n):qN K E (C7 K Ns m (zI K (n+1) g) E ta t) (wZ Ns m g e a):=λA Λ ρ σ S H Q N r x k=>by
 obtain⟨d0,q,x⟩:=ZM x;cases d0<;>try (cases x;done)
 rename_i M ns l;dsimp only at x;split at x
 ·rename_i hc;rw[UZ] at hc;obtain⟨ds,qa,x⟩:=ZM x;refine h ρ σ S H _ _ r.toRl q λv S1 H1 z1 d1=>?_;obtain⟨p,C,dx,fs,rfl,hC,h1,h2,h3⟩:=ZB.1 d1;refine⟨p,C,dx,fs,⟨rfl,⟨M,by simpa using hc.1,hC⟩,z1.sub _ _ h1⟩,vO (by rw[h2];simpa using hc.2),?_⟩;refine ha ρ σ S1 H1 _ ds (r.toRl.ext z1) qa λvs S2 H2 z2 d2=>?_;refine⟨by rw[UI,<-d2.length,hn ρ ds qa],S2,_,N,z2.sub,.cons (d1.mono z2.sh) d2,x,λfx C S3 H3 ag z3 hC=>?_⟩;obtain⟨e1,e2,e3,e4⟩:=pN r ((z1.trans z2).trans z3);exact k fx C S3 H3 ag e1 e2 e3 e4 hC
 ·cases x
@[simp]def Ew(Ns:Zl)(m:Str)(e:XE)(n:Env->Option Str):Env->Option Str:=λρ=>(e ρ).bind λd=>match d with|.ins N ns l=>if Ns.contains N && !ns.contains m then n ρ else none|_=>none
def FE{Ns:Zl}{m:Str}{sp:Sp}{ta:TE}{t:TA}{e:XE}{n:Env->Option Str}(h:SE K ta e)(ha:K5 K E t n):qN K E (wS K Ns m sp ta t) (Ew Ns m e n):=λA Λ ρ σ S H Q N r x k=>by
 obtain⟨d0,q,x⟩:=ZM x;cases d0<;>try (cases x;done)
 rename_i M ns l;dsimp only at x;split at x
 ·rename_i hc;rw[UZ] at hc;refine h ρ σ S H _ _ r.toRl q λv S1 H1 z1 d1=>?_;obtain⟨p,C,dx,fs,rfl,hC,h1,h2,h3⟩:=ZB.1 d1;refine⟨p,C,dx,fs,⟨rfl,⟨M,by simpa using hc.1,hC⟩,z1.sub _ _ h1⟩,vO (by rw[h2];simpa using hc.2),?_⟩;exact ha A Λ ρ σ S1 H1 _ N (r.ext z1) x (k.mono z1.sh)
 ·cases x
def FD{js:List (Option Nat)}{wi:TI}{g:TG}{tt:FW}{t u:TE}{w:XA}{x:XG}{c:XT}{e:XE}{n:Env->Option Str}(hi:QE K wi w)(hg:SG K g x)(hc:ST K tt c)(ht:qN K E t n)(hu:SE K u e) :
  qN K E (sg js wi g tt (Ps t u)) (wY js w x c e n):=λA Λ ρ σ S H Q N r y k=>by
 obtain⟨ds,q,y⟩:=ZM y;split at y
 ·rename_i hlim;refine hi ρ σ S H _ ds r.toRl q λJ S1 H1 z1 wk D hD=>?_;have r1:=r.toRl.ext z1;refine⟨λi n' H'=>n'=ds.length-i/\i<=ds.length/\∃S' ys,Ext S1 H1 S' H'/\H' D=some (.lst ys)/\S' D=none/\ys.length<=i/\Ap x c e n (rp js ρ) (ds.drop i)=some N,
   ⟨_,rfl,UR _,S1,[],Ext.own z1.sub hD,aG,z1.sub.free hD,UR _,y⟩,?_⟩
  rintro i n' H2 ⟨rfl,hil,S2,ys,z2,hy,hSD,hdl,y2⟩;obtain⟨w1,w2⟩:=wk S2 H2 z2;cases qd:ds[i]? with
  |none=>
   have:ds.length=i:=by have:=VG.1 qd;lia
   subst this;rw[VH (Ux _)] at y2;cases y2
  |some d=>
   obtain⟨g1,g2⟩:=w1 i d qd;have hlt:=(UX.1 qd).1;rw[iz qd] at y2;obtain⟨ρ3,qx,y2⟩:=ZM y2;refine .inr ⟨g1,λxv H3 hyl=>?_⟩;obtain⟨S3,z3,dx⟩:=g2 xv H3 hyl;obtain⟨hy3,hSD3⟩:=z3.al D _ hy hSD;have z23:=z2.trans z3;have ri:=zA (r1.ext z23) js;refine hg _ _ _ _ S3 H3 xv d _ ρ3 ri dx qx λσ3 r3=>?_;obtain⟨b,qc,y2⟩:=ZM y2;refine hc ρ3 σ3 S3 H3 _ b r3.toRl qc λS4 H4 z4=>?_;obtain⟨al1,al2⟩:=z4.al D _ hy3 hSD3;cases b with
   |false=>
    rw[Uu (by decide)] at y2;exact rA ⟨_,(),rfl,hlt,S4,ys,z23.trans z4,al1,al2,(),y2⟩
   |true=>
    rw[Uv rfl] at y2;cases qn:n ρ3 with
    |some N'=>
     rw[qn] at y2;cases y2;refine oP (.inl (ht _ _ ρ3 σ3 S4 H4 _ N (r3.ext z4) qn λfx C S5 H5 ag s1 s2 s3 s4 hC=>?_));have z5:Ext S3 H3 S5 H5:=yW (z4.sh.trans s1) s2 s3 s4;obtain⟨e1,e2,e3,e4⟩:=pN r ((z1.trans z23).trans z5);exact k fx C S5 H5 ag e1 e2 e3 e4 hC
    |none=>
     rw[qn] at y2;obtain⟨dv,qe,y2⟩:=ZM y2;refine oP (.inr (hu ρ3 σ3 S4 H4 _ dv (r3.toRl.ext z4) qe λv S5 H5 z5 d5=>?_));obtain⟨b1,b2⟩:=z5.al D _ al1 al2;refine⟨ys,b1,?_,_,(),rfl,hlt,S5,ys++[v],?_,aG,b2,by rw[U2,VP];lia,y2⟩
     ·exact UP (Vd hdl hlt) (UD hlim (U1 gJ))
     ·have z6:=(z23.trans z4).trans z5;exact⟨z6.sh,λb u hb=>by rw[aL λz=>by subst z;rw[b2] at hb;cases hb];exact z6.sub b u hb,λb o hb hn=>by
       obtain⟨c1,c2⟩:=z6.alw b o hb hn
       exact⟨by rw[aL λz=>by subst z;rw[hD] at hb;cases hb];exact c1,c2⟩⟩
 ·cases y
@[simp]def IU(L0:Zl)(N1 N2:Str)(n:Zc->Option Str)(a:XA):XR:=λρ=>((a ρ).bind n).bind λN=>if N=N1 then some (.rz N2) else if L0.contains N then some (.rz N) else none
def KJ{L0:Zl}{N1 N2:Str}{c:Nat}{n:Zc->Option Str}{t:TA}{a:XA}{tu:TS}(h:SA K t a)(hn:∀ρ ds,a ρ=some ds->ds.length=c)(h1:¬Ag N1)(h2:Ag N2):SX K E (LJ K L0 N1 N2 (Sk (zI K c n) t) tu E) (IU L0 N1 N2 n a):=λA Λ ρ σ S H D o r x k=>by
 obtain⟨N,qa,x⟩:=ZM x;obtain⟨ds,qd,qa⟩:=ZM qa;refine .inl (h ρ σ S H _ ds r.toRl qd λvs S1 H1 z1 d1=>?_);refine⟨by rw[<-d1.length];exact hn ρ ds qd,S1,ds,N,z1.sub,d1,qa,λfx C S2 H2 ag z2 hC=>?_⟩;obtain⟨e1,e2,e3,e4⟩:=pN r (z1.trans z2);by_cases hN:N=N1
 ·subst hN;rw[Uv rfl] at x;cases x;refine .inl ⟨ag.resolve_right h1,C,rfl,hC,λC2 hC2=>?_⟩;exact k (some 0) C2 S2 H2 (.inr h2) e1 e2 e3 e4 hC2
 ·rw[Uu hN] at x;split at x<;>cases x;rename_i hL;exact .inr ⟨N,C,by simpa using hL,rfl,hC,k fx C S2 H2 ag e1 e2 e3 e4 hC⟩
@[simp]def IP(L:Zl)(i:Nat)(Ns:Zl)(mn:Str)(n:Zc->Option Str)(e:XE)(a:XA)(m:XS)(l:List (Nat×List (List (Str×Bool)))):XS:=λρ=>if i<ρ.length then (match wZ Ns mn n e a ρ with
 |some N=>if L.contains N then (lm i N l (ρ.set i .un)).map λρ'=>.nx (ρ'.set i .un) else none
 |none=>(match m ρ with|some (.nx ρ')=>some (.nx ρ')|_=>none)) else none
def Nl{L:Zl}{i c:Nat}{Ns:Zl}{mn:Str}{n:Zc->Option Str}{ta:TE}{t:TA}{e:XE}{a:XA}{tu:TS}{m:XS}{l:List (Nat×List (List (Str×Bool)))}(he:SE K ta e)(h:SA K t a)(hn:∀ρ ds,a ρ=some ds->ds.length=c)(hu:SS K tu m) :
  SS K (LI K L i (Pr K Ns mn (zI K (c+1) n) ta t) tu (Em K i l)) (IP L i Ns mn n e a m l):=λA Λ ρ σ S H D o r q k=>by
 unfold IP at q;split at q<;>try (cases q;done)
 rename_i hi;have ZO:σ.length=ρ.length:=by obtain⟨_,f⟩:=r;exact f.len
 cases qa:wZ Ns mn n e a ρ with
 |none=>
  rw[qa] at q;dsimp only at q;right;refine hu A Λ ρ σ S H D o r ?_ k;cases qm:m ρ with
  |none=>rw[qm] at q;cases q
  |some om=>
   rw[qm] at q;cases om<;>first|exact q|(cases q;done)
 |some N=>
  rw[qa] at q;dsimp only at q;left;split at q<;>try (cases q;done)
  rename_i hN;cases qf:lm i N l (ρ.set i .un) with
  |none=>rw[qf] at q;cases q
  |some ρ'=>
   rw[qf] at q;cases q;obtain⟨d0,q0,qa⟩:=ZM qa;cases d0<;>try (cases qa;done)
   rename_i M ns l0;dsimp only at qa;split at qa<;>try (cases qa;done)
   rename_i hc;rw[UZ] at hc;obtain⟨ds,qd,qa⟩:=ZM qa;refine he ρ σ S H _ _ r.toRl q0 λv S0 H0 z0 d0=>?_;obtain⟨p,C0,dx,fs,rfl,hC0,h1,h2,h3⟩:=ZB.1 d0;refine⟨p,C0,dx,fs,⟨rfl,⟨M,by simpa using hc.1,hC0⟩,z0.sub _ _ h1⟩,vO (by rw[h2];simpa using hc.2),?_⟩;refine h ρ σ S0 H0 _ ds (r.toRl.ext z0) qd λvs S1 H1 z1 d1=>?_;refine⟨by rw[UI,<-d1.length,hn ρ ds qd],S1,_,N,z1.sub,.cons (d0.mono z1.sh) d1,qa,λfx C S2 H2 ag z2 hC=>⟨N,C,by simpa using hN,rfl,hC,λe he=>?_⟩⟩;have z3:=((z0.trans z1).trans z2).trans (Ext.own (o:=Ax C e) z2.sub he);have r0:=(r.ext z3).put i (some (.ref e));refine Ef l A Λ _ _ S2 _ _ e C ρ' r0 qf (Vs (by rw[ZO];exact hi)) aG hC λσ' S' H' r' z _ _=>?_;exact k _ S' H' (r'.drop i) (z3.sh.trans z)
def yz:Zc->Option (Zl)
 |[]=>some []
 |.str x::l=>(yz l).map (x :: ·)
 |_=>none
theorem BG:∀ {l:Zc} {ys:Zl} {xs:Za},yz l=some ys->Dens K S l xs->xs=ys.map V.str
 |[],ys,xs,h,d=>by cases h;exact d.nil_of
 |d::l,ys,xs,h,dd=>by
  obtain⟨v,vs,rfl,a,b⟩:=dd.cons_of;cases d<;>try (cases h;done)
  unfold yz at h;cases q:yz l with
  |none=>rw[q] at h;cases h
  |some zs=>rw[q] at h;cases h;rw[Zo.1 a,BG q b];rfl
theorem Ay:∀ys:Zl,(ys.map V.str).all rh=true
 |[]=>rfl
 |_::ys=>by rw[UG,XJ,Ay ys];rfl
theorem DA(x:Str):∀ys:Zl,Qa (.str x) (ys.map V.str)=ys.any (· == x)
 |[]=>rfl
 |y::ys=>by have:=DA x ys;unfold Qa at *;rw[UG,VC,VC,this];rfl
def ES(d e:D):Zd:=match d with
 |.str x=>(Q4 e).bind λl=>(yz l).map λys=>.bl (ys.any (· == x))
 |_=>none
def D7:w6 K (Si K false) ES:=λS H x y d e z Q s dx dy q k=>by
 unfold ES at q;split at q<;>try (cases q;done)
 obtain⟨l,ql,q⟩:=ZM q;cases qs:yz l with
 |none=>rw[qs] at q;cases q
 |some ys=>
  rw[qs] at q;cases q;have ex:=dx.str;subst ex;have:∃p xs,y=.ref p/\SqT K H p xs/\Dens K H l xs:=by
   cases e<;>cases ql
   ·obtain⟨p,xs,e1,e2,e3⟩:=DenP.tup s dy;exact⟨p,xs,e1,e2,e3.mono s⟩
   ·obtain⟨p,xs,e1,e2,e3⟩:=DenP.mtp s dy;exact⟨p,xs,e1,e2,e3.mono s⟩
  obtain⟨p,xs,rfl,h1,h2⟩:=this;have:=BG qs h2;subst this;exact⟨p,_,rfl,.inr h1,rfl,Ay ys,by rw[DA];exact k _ S H (Ext.refl s) (Zu.2 rfl)⟩
def Iq(K:Zj)(neg:Bool)(tab:List (Str×D))(te:TE):TE:=λσ H Q=>∀kvs,ED K kvs tab->Ij neg kvs te σ H Q
def El(K:Zj)(tab:List (Str×D))(te:TE):TE:=λσ H Q=>∀kvs,ED K kvs tab->C1 kvs te σ H Q
def D8{neg:Bool}{tab:List (Str×D)}{te:TE}{e:XE}(h:SPk K te e):SE K (Iq K neg tab te) (Es neg tab e):=λρ σ S H Q g r y k kvs t=>Nd t h ρ σ S H Q g r y k
def dG{tab:List (Str×D)}{te:TE}{e:XE}(h:SPk K te e):SE K (El K tab te) (gl tab e):=λρ σ S H Q g r y k kvs t=>Ku t h ρ σ S H Q g r y k
def wR{N:Str}{sp:Sp}{t:TA}{m:Env->Option Str}(h:K5 K E t m):qN K E (C6 K N sp E t) m:=λA Λ ρ σ S H Q N rl x k=>λC hC=>h A Λ ρ σ S H _ _ rl x k
end
abbrev yG(w:World)(K:Zj)(mg:Zg)(n:Str)(tab:List (Str×D)):Prop:=∃a kvs,mg n=some (.ref a)/\Jf w K a kvs/\ED K kvs tab
section
variable {X:Cx}{n:Str}{tab:List (Str×D)}{i:Expr}{ti:TE}{p pos:Pos}
def t6(T:yG X.w X.K X.mg n tab)(hg:Gl X n)(hi:PE X i ti)(hdb:(n==("__debug__" : Str))=false:=by decide):PC X .NotIn i (.Name n p) (Iq X.K true tab ti):=by obtain⟨a,kvs,h1,h2,h3⟩:=T;exact λa b c d e f h=>CG h2 hg h1 hi hdb a b c d e f (h kvs h3)
def cV(T:yG X.w X.K X.mg n tab)(hg:Gl X n)(hi:PE X i ti)(hs:Jc i)(hdb:(n==("__debug__" : Str))=false:=by decide):PE X (.Subscript (.Name n p) i pos) (El X.K tab ti):=by obtain⟨a,kvs,h1,h2,h3⟩:=T;exact λa b c d e f h=>Hk h2 hg h1 hi hs hdb a b c d e f (h kvs h3)
end
end M
namespace L2
open PySem PySem.Spec PyProof.Rows
section
variable {M:Model}{A:Around}{Ex:Ze}{s:Shared}
variable {P:Program}{w:World}{K:Zj}{mg:Zg}{base:Heap}{N:Zl}{qual:Str}{scope:Scope}{f:Addr}{cdv:Value}{A:Around}{outer:List Env}{s:Shared}{H:Hp}{E:XK}
variable {X:Cx}{ZL:Zf}{σ:St}{H:Hp}{s:Shared}{XN N:Zl}{sc scope:Scope}{js:List (Option Nat)}
variable {tg iter elt:Expr}{ifs:List Expr}{pos:Pos}{wi:TI}{g:TG}{tt:FW}{te:TE}{E:XK}
def A7{i:Nat}{y:Str}{pos' spos:Pos}(hL:zT X E)(ck:Zw XN sc scope N js)(hN:X.N.Nodup)(hi0:X.N[i]?=some y)(hx:I9 X.env.scope y)(hi:PI X tg iter wi)(hg:∀z W,PG ((gE X N scope z).wish W) tg g)(hs:vj js g)(ht:∀z W,IY ((gE X N scope z).wish W) ifs tt)(he:∀z W,gc (g6 X.prog X.w) ((gE X N scope z).wish W) E->PE ((gE X N scope z).wish W) elt te)
  (hsw:swapsWith (.ListComp elt [⟨tg,iter,ifs,0⟩] scope pos) (some (.Name y pos')) spos.line X.env=pure true:=by rfl)
  (hex:X.ex=[]:=by rfl) (hst:X.stack=X.env::X.outer:=by rfl) (hfr:X.env.frame=some X.env.locals:=by rfl)
  (hXN:X.N=XN:=by rfl) (hsc:X.env.scope=sc:=by rfl) (hc:X.calm=true:=by rfl) (hf:∀x,foldedSetIterable iter X.env x=pure x:=by intro _;rfl)
  (hfn:X.fn y=true\/X.env.scope.names.lookup y=some .local:=by first|exact .inl rfl|exact .inr rfl|assumption) :
  PS X (.Assign [.Name y pos'] (.ListComp elt [⟨tg,iter,ifs,0⟩] scope pos) spos) (nX (sg js wi g tt te) (dA i)):=by
 intro ZL s σ H D I h;rw[YO _ _ _ _ hsw];have hcl:closureFor scope X.env=pure (i3 X.env scope.names []):=lN λy hy hk=>I.ok.has y.1 (by
  have:=ck.free y hy hk;rw[<-hsc] at this
  exact this)
 refine Ut (Vz (Ut ?_));show wpAny (model X.prog X.w) X.A (comprehension (.ListComp elt [⟨tg,iter,ifs,0⟩] scope pos) scope X.env _ (newList []) false (eval iter X.env) (some (assign (.Name y pos') X.env)) >>= λ_=>pure Unit.unit) _ _ s;refine Ut (cr (WS (use:=some (assign (.Name y pos') X.env)) (Q:=λ_ s'=>SP X ZL D .next s') rfl hf hcl ck.kind ck.loc (cr (hi ZL s σ H _ I h) λv s1 h1=>cr h1 λitv s2 h2=>?_)) λ_ s' q=>Uw (Uw q));refine tL (RR:=λacc C=>compPost (model X.prog X.w) X.A X.xe (some (assign (.Name y pos') X.env)) (λ_ s'=>SP X ZL D .next s') acc C) (Q:=λx H1=>dA i x σ H1 D.nx) ck hXN hsc hc hst hfr hg hs ht (λz=>he z _ λpl σ1 H1 s1 v s' I1 hx=>⟨pl,σ1,H1,s1,I1.unwish,hx⟩) h2 ?_ ?_
 ·intro A C s' H' m o J nC hC fC q;refine cr (eO hN hi0 hx hfn _ s' σ H' (.ref A) (.ref A) _ J rfl q) λ_ s3 h3=>?_;obtain⟨σ3,H3,J3,q3⟩:=h3;have pc:=J3.pin (C,o) (UE _ (UE _ UL));have oC:s'.heap.get? C=some o:=(J.pin (C,o) (UE _ (UE _ UL))).1;refine⟨m,nC.at' λo' e=>?_,λh' sb=>⟨σ3,H3,?_,q3⟩⟩
  ·rw[oC] at e;cases e;exact pc.1
  ·have J0:Inv X ZL σ3 H3 s3:=J3.unpinned;exact J0.turned (t':=s3.toks) (it:=C) (λb o hb e=>sb.extBut b o hb e) pc.2.1 hC.2.1 (.inr hC.1) hC.2.2.1 hC.2.2.2
 ·intro D C s1 H1 s' H' m e cls a0 fx L B I1 ho hgn un hok nC hC fC hE cx held nfC hBC k1 k2;refine⟨m,nC,λh' sb cenv _=>?_⟩;obtain⟨b1,b2,b3,b4⟩:=held;obtain⟨oB,eB⟩:=hBC;have none':∀b,B.get? b=none->(PySem.W.hideAll B [C]).get? b=none:=λb q=>by
   cases z:(PySem.W.hideAll B [C]).get? b with
   |none=>rfl
   |some o=>rw[V8 _ z] at q;cases q
  have neC:∀b o,(PySem.W.hideAll B [C]).get? b=some o->b≠C:=λb o q z=>by rw[z,YZ [C] (.head _)] at q;cases q
  have get':∀b o,B.get? b=some o->b≠C->(PySem.W.hideAll B [C]).get? b=some o:=λb o q z=>W4 [C] q λy=>z (UV.1 y);have keepC:∀b o,b≠C->s'.heap.get? b=some o->h'.get? b=some o:=λb o hb q=>sb.extBut b o hb q;have c1:(PySem.W.hideAll B [C]).StaysIn s'.heap:=λb o q=>b1 b o (V8 _ q);have c2:(PySem.W.hideAll B [C]).StaysIn h':=λb o q=>keepC b o (neC b o q) (c1 b o q);have bne:∀b,B.get? b=none->b≠C:=λb q z=>by rw[z,eB] at q;cases q
  have tr:h'.TracedAtW (PySem.W.hideAll B [C]) e cls a0 (rawInt L):=by obtain⟨oe,vs,T,oT,ts,he',hcls,hd,h1',hnT,hTe,hT,hdT,h3⟩:=b4;exact⟨oe,vs,T,oT,ts,keepC e oe (bne e b2) he',hcls,hd,h1',none' T hnT,hTe,keepC T oT (bne T hnT) hT,hdT,h3⟩
  have fr:=jG (C:=C) none' keepC nfC b3;have cx':fx=none->jp e h':=λz=>by obtain⟨o,vs,q1,q2⟩:=cx z;exact⟨o,vs,keepC e o (bne e b2) q1,q2⟩
  refine kd (fx:=fx) (s:={ s' with heap:=h' }) (sO _ _ _) cx' ?_;refine wg (s:={ s' with heap:=h' }) c2 fr tr λh5 fl5 y1 y2 y3 y4 cx5=>?_;have kk1:∀b u,H' b=some u->∃o,(PySem.W.hideAll B [C]).get? b=some o:=λb u q=>by obtain⟨o,z⟩:=k1 b u q;exact⟨o,get' b o z λy=>by rw[y,fC] at q;cases q⟩
  have hok5:HOk X.prog X.w H' h5:=i6 hok c1 y1 kk1;have un5:Un (mG X.stack) [C] H1 H' s1.heap h5:=by
   have nn:∀b:Addr,b∉([]:Zk):=λb z=>by cases z
   refine⟨λb o q n z y=>?_,λb o q n z y=>?_,λb o q n y=>un.free b o q n (nn b),λb o q y=>?_,un.tups,un.frzs,un.tbls⟩
   ·obtain⟨o',q1⟩:=k2 b o q z;have q2:=get' b o' q1 λyy=>y (by rw[yy];exact .head _);have q3:=un.keep b o q n z (nn b);rw[c1 b o' q2] at q3;cases q3;exact y1 b _ q2
   ·obtain⟨sl,q1⟩:=un.slot b o q n z (nn b);have q2:=keepC b _ (λyy=>y (by rw[yy];exact .head _)) q1;obtain⟨sl2,q3⟩:=y4 b _ q2 (I1.nfS b z o q);exact⟨sl2,q3⟩
   ·by_cases z:b∈mG X.stack
    ·obtain⟨sl,q1⟩:=un.slot b o q (I1.stkFree b z) z (nn b);have q2:=keepC b _ (λyy=>y (by rw[yy];exact .head _)) q1;obtain⟨sl2,q3⟩:=y4 b _ q2 (I1.nfS b z o q);exact⟨_,q3⟩
    ·obtain⟨o',q1⟩:=k2 b o q z;exact⟨o',y1 b _ (get' b o' q1 λyy=>y (by rw[yy];exact .head _))⟩
  have J5:Inv X ZL σ H' { s' with heap:=h5 }:=I1.call' (s':={ s' with heap:=h5 }) ho un5 hok5 hgn λb hb=>by rw[UV.1 hb];exact⟨.inr hC.1,hC.2⟩
  refine hL ZL σ H' _ e cls a0 fl5 fx (PySem.W.hideAll B [C]) J5 hE cx5 y1 (none' e b2) y2 y3 kk1 λb o q z=>?_;obtain⟨o1,q1⟩:=I1.base.there b o q (by rw[hex];intro y;cases y);obtain⟨o2,q2⟩:=k2 b o1 q1 (I1.notStk q z);exact⟨o2,get' b o2 q2 λy=>absurd (UA q) (by rw[y];exact X8.2 hC.1)⟩
end
open PySem PySem.Spec PyProof.Rows M
section
variable {X:Cx}{a b e:Expr}{es:List Expr}{ta tb te:TE}{t:TA}{p pos pos':Pos}{x:Str}
def BO(i:Nat)(hN:X.N.Nodup)(hi:X.N[i]?=some x:=by rfl)(hx:I9 X.env.scope x:=by exact .inl rfl)(hf:X.fn x=true\/X.env.scope.names.lookup x=some .local:=by first|exact .inl rfl|exact .inr rfl|assumption):PG X (.Name x pos) (dA i):=eO hN hi hx hf
def uV{N:Zl}{scope:Scope}{z:CxZ}(i:Nat)(hN:N.Nodup:=by decide +kernel)(hi:(gE X N scope z).N[i]?=some x:=by rfl)(hx:I9 (gE X N scope z).env.scope x:=by exact .inl rfl)(hf:(gE X N scope z).fn x=true\/(gE X N scope z).env.scope.names.lookup x=some .local:=by first|exact .inl rfl|exact .inr rfl|assumption):PG (gE X N scope z) (.Name x pos) (dA i):=eO hN hi hx hf
def jo(i:Nat)(hN:X.N.Nodup)(he:PE X e te)(hi:X.N[i]?=some x:=by rfl)(hx:I9 X.env.scope x:=by exact .inl rfl)(hs:swapsWith e (some (.Name x pos')) pos.line X.env=pure false:=by rfl)(hf:X.fn x=true\/X.env.scope.names.lookup x=some .local:=by first|exact .inl rfl|exact .inr rfl|assumption) :
  PS X (.Assign [.Name x pos'] e pos) (nX te (dA i)):=zm hN hi hx he hs hf
def hZ(ha:PE X a ta)(hb:PE X b tb)(hs:Dh b:=by exact λ_ _=>rfl):PE X (.Subscript a b pos) (FP (O1 X.K) ta tb):=OL My ha hb hs
def fI{op:CmpOp}{r:R2}(ho:OpR X (compareOp op) r)(ha:PE X a ta)(hb:PE X b tb)(hm:behindInMarks op b=false:=by exact iM _):PT X (.Compare a [op] [b] pos) (En (FP r ta tb)):=uX ho ha hb hm
end
open PySem
structure Ad(CX:zR)(n:Nat)(x:Str)(ps:Zl)(sp:Zj->Sp)(P:Program)(w:World)(K:Zj)(mg:Zg)(base:Heap)(f:Addr)(fd:FuncData):Prop where
 G:Zq P w K mg base CX n f fd ps (sp K)
 b:Binds K fd ps []
 cm:qL K ["Desk"] λC=>Cls K C/\Meth K C x f
def aQ{K:Zj}{u:Value}{N:Str}{c:Addr}{b0:Bool}{ans:List (Str×Bool)}(n:W.nsIn K mainGlobals N=some (some (.ref c)))(x:ZJ K c)(o:W.kitOne K (.ref c) u=some b0)(h:iY K ans u):iY K ((N,b0)::ans) u:=EE (λC hC=>by rw[n] at hC;cases hC;exact⟨x,o⟩) h
def m6{K:Zj}{c:Addr}{Q:Addr->Prop}(n:W.nsIn K mainGlobals "Desk"=some (some (.ref c))) (x:Cls K c) (q:Q c):qL K ["Desk"] λC=>Cls K C/\Q C:=λN hN C hC=>by simp only[UC,Ve,Vf] at hN;subst hN;rw[n] at hC;cases hC;exact⟨x,q⟩
def Fun.lawBinds{K:Zj}{x qual:Str}{st:Stmt}{f:Addr}{fd:FuncData}{y:Str}(F:Fun K x qual st f fd)(h:∀(kV doc pm:Value) (an:Option Addr) (cdv ct:Value) (s:Shared) (v:Value),BindsTo s (W.fnOf x qual (i4 st) (fX st) (aB st) .none kV doc pm an cdv ct) ⟨[v],[]⟩ [(y,v)]):∀(s:Shared) (v:Value),BindsTo s fd ⟨[v],[]⟩ [(y,v)]:=by obtain⟨oc,od,kV,doc,pm,an,cdv,ct,osl,rfl,lk,hcd⟩:=F.ex;exact h kV doc pm an cdv ct
end L2
namespace P
open PySem L2 M
abbrev tG:Zl:=["Desk"]
abbrev PN:Zl:=["NoBack", "NoForm", "NoName", "NoRow", "NoText", "TooGreat"]
abbrev k8:List (Str×Bool):=[("NoBack",true),("NoForm",false),("NoName",false),("NoRow",false),("NoText",false),("TooGreat",false)]
abbrev k9:List (Str×Bool):=[("NoBack",false),("NoForm",true),("NoName",false),("NoRow",false),("NoText",false),("TooGreat",false)]
abbrev lc:List (Str×Bool):=[("NoBack",false),("NoForm",false),("NoName",true),("NoRow",false),("NoText",false),("TooGreat",false)]
abbrev mX:List (Str×Bool):=[("NoBack",false),("NoForm",false),("NoName",false),("NoRow",true),("NoText",false),("TooGreat",false)]
abbrev lf:List (Str×Bool):=[("NoBack",false),("NoForm",false),("NoName",false),("NoRow",false),("NoText",true),("TooGreat",false)]
abbrev iy:List (Str×Bool):=[("NoBack",false),("NoForm",false),("NoName",false),("NoRow",false),("NoText",false),("TooGreat",true)]
abbrev jB:List (Str×Bool):=[("NoBack",false),("NoForm",false),("NoName",false),("NoRow",false),("NoText",false),("TooGreat",false)]
abbrev fT:List (Str×Bool):=[("NoBack",true),("NoForm",true),("NoName",true),("NoRow",true),("NoText",true),("TooGreat",true)]
abbrev Zr:List (Str×D):=[(Str.ofString "put",.mtp [.str (Str.ofString "NEW"),.str (Str.ofString "TEXT")]),(Str.ofString "join",.mtp [.str (Str.ofString "NEW"),.str (Str.ofString "ONE"),.str (Str.ofString "OTHER")]),(Str.ofString "common",.mtp [.str (Str.ofString "NEW"),.str (Str.ofString "ONE"),.str (Str.ofString "OTHER")]),(Str.ofString "less",.mtp [.str (Str.ofString "NEW"),.str (Str.ofString "ONE"),.str (Str.ofString "OTHER")]),(Str.ofString "either",.mtp [.str (Str.ofString "NEW"),.str (Str.ofString "ONE"),.str (Str.ofString "OTHER")]),(Str.ofString "greater",.mtp [.str (Str.ofString "NEW"),.str (Str.ofString "ONE"),.str (Str.ofString "FORM")]),(Str.ofString "smaller",.mtp [.str (Str.ofString "NEW"),.str (Str.ofString "ONE"),.str (Str.ofString "FORM")]),(Str.ofString "opened",.mtp [.str (Str.ofString "NEW"),.str (Str.ofString "ONE"),.str (Str.ofString "FORM")]),(Str.ofString "closed",.mtp [.str (Str.ofString "NEW"),.str (Str.ofString "ONE"),.str (Str.ofString "FORM")]),(Str.ofString "thin",.mtp [.str (Str.ofString "NEW"),.str (Str.ofString "ONE")]),(Str.ofString "fill",.mtp [.str (Str.ofString "NEW"),.str (Str.ofString "ONE")]),(Str.ofString "drop",.mtp [.str (Str.ofString "ONE")]),(Str.ofString "back",.mtp []),(Str.ofString "show",.mtp [.str (Str.ofString "ONE")]),(Str.ofString "count",.mtp [.str (Str.ofString "ONE")]),(Str.ofString "pieces",.mtp [.str (Str.ofString "ONE")]),(Str.ofString "holes",.mtp [.str (Str.ofString "ONE")]),(Str.ofString "same",.mtp [.str (Str.ofString "ONE"),.str (Str.ofString "OTHER")]),(Str.ofString "within",.mtp [.str (Str.ofString "ONE"),.str (Str.ofString "OTHER")]),(Str.ofString "names",.mtp [])]
def jx:j5:=n4 (FN (xB (aO (Jt false) (aq 2) (xC .non)))) (LS (aN 1)) (LV (aN 1) (aN 2))
def fL:DM:=NP 3 jx
def lI:XS:=bn (iW (xB (aO Oi (aq 1) (qI pH (af (aq 0) az)))) (bW (aO eU (aq 0) (aq 1))) bS) (bW (xC (.int 0)))
def ke:Zc->Option O:=kQ 2 lI
def dY:Zb:=λds=>(ke ds).map O.d
def lJ:XS:=bn (cn (aO eU (xL (bR (af (xC (.str (Str.ofString "greater"))) (af (xC (.str (Str.ofString "smaller"))) (af (xC (.str (Str.ofString "opened"))) (af (xC (.str (Str.ofString "closed"))) az)))))) (aO fv (aO vF (aq 0) (xC (.int 32))) (xC (.int 4)))) (aE 1)) (bn (cn (xL (bR (af (xC (.str (Str.ofString ""))) (af (xC (.str (Str.ofString "box"))) (af (xC (.str (Str.ofString "box "))) (af (xC (.str (Str.ofString "box 1 1 1"))) (af (xC (.str (Str.ofString "box 1 1 1 1 1"))) (af (xC (.str (Str.ofString "box 1 1 1 -1"))) (af (xC (.str (Str.ofString "box -1 0 0 0"))) (af (xC (.str (Str.ofString "box 0 0 0 -0"))) (af (xC (.str (Str.ofString "cross"))) az))))))))))) (aE 2)) (bn (cn (aO b9 (aq 2) (xL (bR (af (xC (.str (Str.ofString "cross "))) (af (xC (.str (Str.ofString "cross -1"))) (af (xC (.str (Str.ofString "cross 1 1"))) (af (xC (.str (Str.ofString "cross 01"))) (af (xC (.str (Str.ofString "cells"))) (af (xC (.str (Str.ofString "cells "))) (af (xC (.str (Str.ofString "cells nothing"))) (af (xC (.str (Str.ofString "cells 0: 1..1"))) az))))))))))) (aE 2)) (bn (cn (aO b9 (aq 2) (xL (bR (af (xC (.str (Str.ofString "cells 0:0"))) (af (xC (.str (Str.ofString "cell 0: 0"))) (af (xC (.str (Str.ofString "Box 0 0 0 0"))) (af (xC (.str (Str.ofString "cross  1"))) (af (xC (.str (Str.ofString " cross 1"))) (af (xC (.str (Str.ofString "cross 1 "))) (af (xC (.str (Str.ofString "cross +1"))) (af (xC (.str (Str.ofString "0: 0"))) az))))))))))) (aE 2)) (bn (cn (aO b9 (aq 2) (xL (bR (af (aO b9 (aO b9 (xC (.str (Str.ofString "box 0 0 1"))) (aO (Aq) (xC (.str (Str.ofString "0"))) (xC (.int 60)))) (xC (.str (Str.ofString " 0")))) az)))) (aE 2)) (bW (aO b9 (aO b9 (aO b9 (aO b9 (aq 1) (xC (.str (Str.ofString " ")))) (aO eU (xL (bR (af (xC (.str (Str.ofString "b"))) (af (xC (.str (Str.ofString "a"))) az)))) (aO fv (aO vF (aq 0) (xC (.int 128))) (xC (.int 2))))) (xC (.str (Str.ofString " a ")))) (aO eU (aq 2) (aO fv (aq 0) (xC (.int 26))))))))))
def kf:Zc->Option O:=kQ 3 lJ
def jK:Zb:=λds=>(kf ds).map O.d
def pq:XS:=bn (cn (xL (bR (af (xC (.str (Str.ofString "show b"))) (af (xC (.str (Str.ofString "count z"))) (af (xC (.str (Str.ofString "pieces ab"))) (af (xC (.str (Str.ofString "holes aa"))) (af (xC (.str (Str.ofString "drop b"))) (af (xC (.str (Str.ofString "same a b"))) (af (xC (.str (Str.ofString "same b a"))) (af (xC (.str (Str.ofString "within b b"))) (af (xC (.str (Str.ofString "thin b c"))) az))))))))))) (aE 1)) (bn (cn (aO b9 (aq 1) (xL (bR (af (xC (.str (Str.ofString "fill a b"))) (af (xC (.str (Str.ofString "join b b a"))) (af (xC (.str (Str.ofString "join b a b"))) (af (xC (.str (Str.ofString "common c a abcdefg"))) (af (xC (.str (Str.ofString "less a b b"))) (af (xC (.str (Str.ofString "either a z a"))) az))))))))) (aE 1)) (bn (cn (aO b9 (aq 1) (xL (bR (af (xC (.str (Str.ofString "greater a b cross 1"))) (af (xC (.str (Str.ofString "smaller a b bad"))) (af (xC (.str (Str.ofString "opened b b cells"))) (af (xC (.str (Str.ofString "closed b abcdefg box -1 0 0 0"))) az))))))) (aE 1)) (bW (aO eU (aO b9 (aq 1) (xL (bR (af (xC (.str (Str.ofString "join a b c"))) az)))) (aO fv (aq 0) (xC (.int 20)))))))
def nw:Zc->Option O:=kQ 2 pq
def jL:Zb:=λds=>(nw ds).map O.d
def ss:XS:=bn (gW (bR (af (xC (.str (Str.ofString ""))) (af (xC (.str (Str.ofString " "))) (af (xC (.str (Str.ofString "names "))) (af (xC (.str (Str.ofString " names"))) (af (xC (.str (Str.ofString "names a"))) (af (xC (.str (Str.ofString "put"))) (af (xC (.str (Str.ofString "put a"))) (af (xC (.str (Str.ofString "put A nothing"))) (af (xC (.str (Str.ofString "put abcdefghi nothing"))) (af (xC (.str (Str.ofString "show"))) az))))))))))) 1) (bn (gW (kH (aq 1) (xL (bR (af (xC (.str (Str.ofString "put  a nothing"))) (af (xC (.str (Str.ofString "put a1 nothing"))) (af (xC (.str (Str.ofString "show "))) (af (xC (.str (Str.ofString "show a "))) (af (xC (.str (Str.ofString "show a b"))) (af (xC (.str (Str.ofString "show A"))) (af (xC (.str (Str.ofString "show a\n"))) az)))))))))) 1) (bn (wV 1 K0 (NH (xC (.str (Str.ofString "draw a"))))) (bn (gW (kH (aq 1) (xL (bR (af (xC (.str (Str.ofString "join a a"))) (af (xC (.str (Str.ofString "join a a a a"))) (af (xC (.str (Str.ofString "join a a "))) (af (xC (.str (Str.ofString "join a  a"))) (af (xC (.str (Str.ofString "join a a B"))) (af (xC (.str (Str.ofString "less a"))) (af (xC (.str (Str.ofString "either b b c d"))) az)))))))))) 1) (bn (gW (kH (aq 1) (xL (bR (af (xC (.str (Str.ofString "greater a a"))) (af (xC (.str (Str.ofString "greater a"))) (af (xC (.str (Str.ofString "greater a A box 0 0 0 0"))) (af (xC (.str (Str.ofString "opened 1 a cross 1"))) (af (xC (.str (Str.ofString "thin a"))) (af (xC (.str (Str.ofString "thin a a a"))) az))))))))) 1) (bn (gW (kH (aq 1) (xL (bR (af (xC (.str (Str.ofString "fill a"))) (af (xC (.str (Str.ofString "drop"))) (af (xC (.str (Str.ofString "drop a a"))) (af (xC (.str (Str.ofString "back a"))) (af (xC (.str (Str.ofString "back "))) (af (xC (.str (Str.ofString "same a"))) (af (xC (.str (Str.ofString "within a a a"))) (af (xC (.str (Str.ofString "count"))) (af (xC (.str (Str.ofString "pieces"))) az)))))))))))) 1) (bn (gW (kH (aq 1) (xL (bR (af (xC (.str (Str.ofString "holes"))) (af (xC (.str (Str.ofString "Put a nothing"))) (af (xC (.str (Str.ofString "common a z Z"))) (af (xC .non) (af (xC (.int 7)) (af (xC (.bl true)) (af (xL (bR (af (xC (.str (Str.ofString "names"))) az))) (af (qJ (af (xC (.str (Str.ofString "names"))) az)) az))))))))))) 1) (bn (gW (kH (aq 1) (xL (bR (af (xC (.str (Str.ofString "greater a A bad"))) (af (xC (.str (Str.ofString "closed B a cells"))) (af (xC (.str (Str.ofString "put A 0: 00"))) (af (xC (.str (Str.ofString "fill B b"))) az))))))) 1) (bW (aO eU (aq 1) (aO fv (aq 0) (xC (.int 52))))))))))))
def pV:Zc->Option O:=kQ 2 ss
def ln:Zb:=λds=>(pV ds).map O.d
def pr:XS:=bn (cn (xL (bR (af (xC (.str (Str.ofString "put a "))) (af (xC (.str (Str.ofString "put b 0"))) (af (xC (.str (Str.ofString "put a 0:0"))) (af (xC (.str (Str.ofString "put b 0: 1..1"))) (af (xC (.str (Str.ofString "put a nothing "))) (af (xC (.str (Str.ofString "put c  nothing"))) (af (xC (.str (Str.ofString "put a box 0 0 0 0"))) az))))))))) (aE 1)) (bW (aO eU (aO b9 (aq 1) (xL (bR (af (xC (.str (Str.ofString "put b 0: 0 1"))) (af (xC (.str (Str.ofString "put a 1: 0; 0: 0"))) (af (xC (.str (Str.ofString "put a 0: 00"))) az)))))) (aO fv (aq 0) (xC (.int 10)))))
def ny:Zc->Option O:=kQ 2 pr
def jM:Zb:=λds=>(ny ds).map O.d
def xy:XS:=bW (LK (II Mo Mo (xC (.int 1)) (qI pH (af (aq 0) az)) (xC (.int (8)))) (qI Jl (af (xL (fK [none] (NF (aN 0)) (aE 0) lG (aO (Js) (aq 0) (xC (.str (Str.ofString "abcdefghijklmnopqrstuvwxyz")))))) az)))
def v7:Zc->Option O:=kQ 1 xy
def yc:Zb:=λds=>(v7 ds).map O.d
def xz:XS:=bW (aO ES (aq 0) (qJ (af (xC (.str (Str.ofString "TEXT"))) (af (xC (.str (Str.ofString "FORM"))) az))))
def v8:Zc->Option O:=kQ 1 xz
def sK:Zb:=λds=>(v8 ds).map O.d
def FY:XS:=bn (iW (xB (aO (ci false) (aq 0) (xC (.str (Str.ofString "put"))))) (bW (aO eU (aq 1) (xC (.int 0)))) bS) (du)
def DK:Zc->Option O:=kQ 2 FY
def MG:Zb:=λds=>(DK ds).map O.d
def tH:XS:=bW (qI Jm (af (xL (fK [none,none] (vc (aq 0)) (gX (bB (aE 0) (bB (aE 1) gz))) lG (aO b9 (aO Mp (aq 1) (aq 0)) (xC (.int 1))))) az))
def rD:Zc->Option O:=kQ 1 tH
def AH:Zb:=λds=>(rD ds).map O.d
def BP:XS:=iW (sk (iR (aq 1)) (xB (aO Mo (aq 2) (aO b9 (aO eU (aO eU (aq 1) (K2 xc (xC (.int 1)))) (xC (.int 1))) (xC (.int 1)))))) (IM 1 K0 (K2 xc (xC (.int 1))) (qJ (af (aO eU (aO eU (aq 1) (K2 xc (xC (.int 1)))) (xC (.int 0))) (af (qI Dn (af (aO eU (aO eU (aq 1) (K2 xc (xC (.int 1)))) (xC (.int 1))) (af (aq 3) az))) az)))) (wV 1 K0 (NH (qJ (af (aN 2) (af (aN 3) az)))))
def zW:XS:=bn (gW (bR az) 1) (bn (BJ (vc (xL (FM uJ (af (xL (fK [none,none] (vc (aq 0)) (gX (bB (aE 0) (bB (aE 1) gz))) (xB (aO Mo (aq 0) (aq 1))) (qJ (af (aN 0) (af (aN 1) az))))) az)))) (gX (bB (aE 2) (bB (aE 3) gz))) (BP)) (bW (qI sC (af (aq 1) az))))
def yf:Zc->Option O:=kQ 4 zW
def G3:Zb:=λds=>(yf ds).map O.d
def mO:XS:=bn (iW (xB (aO (ci false) (aq 0) (aq 1))) (bW (NS (aq 0))) bS) (bW (NT [NS (aq 0),xC (.str (Str.ofString "..")),NS (aq 1)] Str.empty))
def mf:Zc->Option O:=kQ 2 mO
def vZ:Zb:=λds=>(mf ds).map O.d
def mP:XS:=bn (cn (ND (iR (aO Ds (aq 0) (xC (.str (Str.ofString "-"))))) (NI (aq 0) (j0 (xC (.int 1))) eg) (aN 0)) (aE 1)) (bn (iW (NG (xB (aO (ci false) (aq 1) (xC (.str (Str.ofString ""))))) (xB (aO NN (qI pH (af (aq 1) az)) (xC (.int (60)))))) (bW (xC (.bl false))) bS) (bn (iW (lF (iR (qI Jl (af (xL (fK [none] (NF (aN 1)) (aE 0) lG (aO (Js) (aq 0) (xC (.str (Str.ofString "0123456789")))))) az)))) (bW (xC (.bl false))) bS) (bW (aO (ci false) (qI z9 (af (qI Dm (af (aq 0) az)) az)) (aq 0)))))
def mh:Zc->Option O:=kQ 2 mP
def nu:Zb:=λds=>(mh ds).map O.d
def tJ:XS:=bW (ND (iR (aq 0)) (xC (.str (Str.ofString "yes"))) (xC (.str (Str.ofString "no"))))
def rF:Zc->Option O:=kQ 1 tJ
def AI:Zb:=λds=>(rF ds).map O.d
def mQ:XR:=gY (j3 (xB (aO Oi (qI F7 (af (aq 1) (af (aq 2) (af (aq 3) (af (aq 4) az))))) (xC (.int 0)))) (eh "NoForm") (dP))
def mq:Zc->Option Str:=GG 4 mQ
def kX:XR:=gY (j3 (xB (aO Oi (aq 1) (xC (.int 0)))) (eh "NoForm") (dP))
def ki:Zc->Option Str:=GG 1 kX
def kY:XR:=gY (j3 (xB (aO (ci false) (zN tG "deeds" (aN 0)) (xL (bR az)))) (eh "NoBack") (dP))
def kj:Zc->Option Str:=Ce 2 kY
def kZ:XR:=gY (j3 (xB (aO (ci false) (aq 1) (qJ az))) (eh "NoForm") (dP))
def km:Zc->Option Str:=GG 1 kZ
def xD:j5:=cy (LQ (aN 1)) (tF (dM fL (af (aN 1) (af (aN 2) az))))
def pT:DM:=NP 3 xD
def k7:j5:=cy (n4 (gZ 0 (xB (aO (ci false) (zN tG "deeds" (aN 0)) (xL (bR az))))) (zQ) (iT)) (cy (LU 0 1) (tF (dM fL (af (aO eU (aq 1) (xC (.int 0))) (af (aO eU (aq 1) (xC (.int 1))) az)))))
def kc:DM:=NP 2 k7
def oU:XS:=bW (qI Jm (af (xL (fK [none,none] (vc (aq 0)) (gX (bB (aE 0) (bB (aE 1) gz))) lG (aU AH (af (aN 1) az)))) az))
def nB:Zc->Option O:=kQ 1 oU
def xj:Zb:=λds=>(nB ds).map O.d
def vd:XS:=bn (iW (NG (lF (iR (IQ 1))) (xB (aO (ci true) (RG (aO eU (aO eU (IQ 1) (K2 xc (xC (.int 1)))) (xC (.int 0)))) (aq 2)))) (wV 1 K0 (LP (Db (NH (aN 2)) (Db (LM IJ) IJ)))) bS) (wV 1 (RL (RL K0 (K2 xc (xC (.int 1)))) (xC (.int 1))) (NH (qJ (af (aN 3) (af (aN 4) az)))))
def qP:XS:=bn (gW (bR az) 1) (bn (BJ (vc (xL (FM uJ (af (xL (fK [none,none,none] (vc (aq 0)) (gX (bB (aE 0) (bB (aE 1) (bB (aE 2) gz)))) (xB (aO Mo (aq 1) (aq 2))) (qJ (af (aN 0) (af (aN 1) (af (aN 2) az)))))) az)))) (gX (bB (aE 2) (bB (aE 3) (bB (aE 4) gz)))) (vd)) (PL 1 (bW (qI sC (af (xL (fK [none,none] (vc (aN 1)) (gX (bB (aE 0) (bB (aE 1) gz))) lG (qJ (af (aN 0) (af (aU G3 (af (aN 1) az)) az))))) az)))))
def oZ:Zc->Option O:=kQ 5 qP
def rC:Zb:=λds=>(oZ ds).map O.d
def qQ:XS:=bn (iW (NG (lF (iR (qI sB (af (aq 0) (af (xC (.ty "str")) az))))) (lF (iR (aU nu (af (aN 0) az))))) (du) bS) (bW (qI Dm (af (aq 0) az)))
def o6:Zc->Option O:=kQ 1 qQ
def dg:Zb:=λds=>(o6 ds).map O.d
def vn:XS:=bn (cn (aO xP (xC (.str (Str.ofString " "))) (xL (fK [none,none] (vc (aq 1)) (gX (bB (aE 0) (bB (aE 1) gz))) lG (aU vZ (af (aN 0) (af (aN 1) az)))))) (aE 2)) (bW (NT [NS (aq 0),xC (.str (Str.ofString ": ")),NS (aq 2)] Str.empty))
def tZ:Zc->Option O:=kQ 3 vn
def Co:Zb:=λds=>(tZ ds).map O.d
def tI:XS:=bn (iW (iR (qI Mc (af (xL (fK [none] (vc (aq 1)) (aE 0) lG (aU sK (af (aN 0) az)))) az))) (bW (LN (aq 0) (xC (.str (Str.ofString " "))) (qI pH (af (aq 1) az)))) bS) (bW (aO kM (aq 0) (xC (.str (Str.ofString " ")))))
def rE:Zc->Option O:=kQ 2 tI
def tV:Zb:=λds=>(rE ds).map O.d
def qS:XR:=gY (j3 (NG (lF (iR (qI sB (af (aq 0) (af (xC (.ty "str")) az))))) (lF (iR (aU nu (af (aN 0) az))))) (eh "NoText") (dP))
def eI:Zc->Option Str:=Ce 1 qS
def mM:XS:=bn (cn (aO kM (aq 1) (xC (.str (Str.ofString "..")))) (aE 2)) (bW (qJ (af (aN 0) (af (aU dg (af (aO eU (aq 2) (xC (.int 0))) az)) (af (aU dg (af (aO eU (aq 2) (K2 xc (xC (.int 1)))) az)) az)))))
def me:Zc->Option O:=kQ 3 mM
def jN:Zb:=λds=>(me ds).map O.d
def F0:XS:=bn (iW (xB (aO (ci false) (aq 0) (qJ az))) (bW (xC (.str (Str.ofString "nothing")))) bS) (bW (aO xP (xC (.str (Str.ofString "; "))) (xL (fK [none,none] (vc (aq 0)) (gX (bB (aE 0) (bB (aE 1) gz))) lG (aU Co (af (aN 0) (af (aN 1) az)))))))
def DP:Zc->Option O:=kQ 1 F0
def Cn:Zb:=λds=>(DP ds).map O.d
def yD:XS:=iW (sk (lF (iR (aU sK (af (aN 3) az)))) (lF (iR (aU yc (af (aN 4) az))))) (du) bS
def vo:XS:=bn (iW (lF (iR (qI sB (af (aq 0) (af (xC (.ty "str")) az))))) (du) bS) (bn (cn (aO eU (aO vG (aq 0) (xC (.str (Str.ofString " ")))) (xC (.int 0))) (aE 1)) (bn (iW (xB (Es true Zr (aq 1))) (du) bS) (bn (cn (aU tV (af (aN 0) (af (gl Zr (aq 1)) az))) (aE 2)) (bn (iW (xB (aO (ci true) (qI pH (af (aq 2) az)) (aO b9 (xC (.int 1)) (qI pH (af (gl Zr (aq 1)) az))))) (du) bS) (bn (BJ (zO (gl Zr (aq 1)) (Dc (aq 2) (j0 (xC (.int 1))) eg)) (gX (bB (aE 3) (bB (aE 4) gz))) (yD)) (bW (aN 2)))))))
def t5:Zc->Option O:=kQ 5 vo
def pS:Zb:=λds=>(t5 ds).map O.d
def vq:XR:=gY (j3 (xB (aO NN (aU xj (af (aN 0) az)) (xC (.int (1000))))) (eh "TooGreat") (dP))
def uk:Zc->Option Str:=Ce 5 vq
def mS:XR:=eE (sr (cn (aO kM (aq 1) (xC (.str (Str.ofString "..")))) (aE 2))) (zS (Dd (aN 0) (NJ (dN eI (af (aO eU (aq 2) (xC (.int 0))) az)) (aU dg (af (aO eU (aq 2) (xC (.int 0))) az)) (wX (dN eI (af (aO eU (aq 2) (K2 xc (xC (.int 1)))) az))))))
def mx:Zc->Option Str:=Ce 3 mS
def w8:XR:=j3 (sk (lF (iR (aU sK (af (aN 3) az)))) (lF (iR (aU yc (af (aN 4) az))))) (eh "NoRow") (dP)
def vt:XR:=eE (j3 (lF (iR (qI sB (af (aq 0) (af (xC (.ty "str")) az))))) (eh "NoRow") (dP)) (eE (sr (cn (aO eU (aO vG (aq 0) (xC (.str (Str.ofString " ")))) (xC (.int 0))) (aE 1))) (eE (j3 (xB (Es true Zr (aq 1))) (eh "NoRow") (dP)) (eE (sr (cn (aU tV (af (aN 0) (af (gl Zr (aq 1)) az))) (aE 2))) (eE (j3 (xB (aO (ci true) (qI pH (af (aq 2) az)) (aO b9 (xC (.int 1)) (qI pH (af (gl Zr (aq 1)) az))))) (eh "NoRow") (dP)) (gY (Ey (zO (gl Zr (aq 1)) (Dc (aq 2) (j0 (xC (.int 1))) eg)) (gX (bB (aE 3) (bB (aE 4) gz))) (w8)))))))
def ul:Zc->Option Str:=Ce 5 vt
def pj:XS:=bn (cn (aU dg (af (aN 2) az)) (aE 5)) (Eu 1 K0 (xL (fK [none,some 5] (vc (aO kM (aq 4) (xC (.str (Str.ofString " "))))) (aE 0) lG (aU jN (af (aN 1) (af (aN 0) az))))))
def kW:XS:=bn (gW (bR az) 1) (bn (BJ (vc (xL (fK [none] (vc (aO kM (aq 0) (xC (.str (Str.ofString "; "))))) (aE 0) lG (aO vG (aq 0) (xC (.str (Str.ofString ": "))))))) (gX (bB (aE 2) (bB (aE 3) (bB (aE 4) gz)))) (pj)) (IL 1))
def kg:Zc->Option O:=kQ 6 kW
def lp:Zb:=λds=>(kg ds).map O.d
def F2:XS:=bn (iW (xB (aO (ci false) (aq 0) (xC (.str (Str.ofString "show"))))) (bW (aU Cn (af (aO eU (aq 1) (xC (.int 0))) az))) bS) (bn (iW (xB (aO (ci false) (aq 0) (xC (.str (Str.ofString "count"))))) (du) bS) (bn (iW (xB (aO (ci false) (aq 0) (xC (.str (Str.ofString "pieces"))))) (du) bS) (bn (iW (xB (aO (ci false) (aq 0) (xC (.str (Str.ofString "holes"))))) (du) bS) (bn (iW (xB (aO (ci false) (aq 0) (xC (.str (Str.ofString "same"))))) (bW (aU AI (af (aO (ci false) (aO eU (aq 1) (xC (.int 0))) (aO eU (aq 1) (xC (.int 1)))) az))) bS) (du)))))
def DQ:Zc->Option O:=kQ 2 F2
def MH:Zb:=λds=>(DQ ds).map O.d
def oI:XR:=eE (BL (dN eI (af (aN 2) az)) (cn (aU dg (af (aN 2) az)) (aE 5))) (BL (IR 1 (wY [none,some 5] (vc (aO kM (aq 4) (xC (.str (Str.ofString " "))))) (aE 0) lG (aU jN (af (aN 1) (af (aN 0) az))) (dN mx (af (aN 1) (af (aN 0) az))))) (Eu 1 K0 (xL (fK [none,some 5] (vc (aO kM (aq 4) (xC (.str (Str.ofString " "))))) (aE 0) lG (aU jN (af (aN 1) (af (aN 0) az)))))))
def k6:XR:=eE (sr (gW (bR az) 1)) (gY (Ey (vc (xL (fK [none] (vc (aO kM (aq 0) (xC (.str (Str.ofString "; "))))) (aE 0) lG (aO vG (aq 0) (xC (.str (Str.ofString ": "))))))) (gX (bB (aE 2) (bB (aE 3) (bB (aE 4) gz)))) (oI)))
def kn:Zc->Option Str:=Ce 6 k6
def xA:XR:=gY (zS (dN uk (af (aN 0) az)))
def wt:Zc->Option Str:=Ce 5 xA
def FZ:XS:=bn (iW (lF (iR (qI sB (af (aq 0) (af (xC (.ty "str")) az))))) (du) bS) (bn (iW (xB (aO (ci false) (aq 0) (xC (.str (Str.ofString "nothing"))))) (bW (qJ az)) bS) (bn (cn (aU rC (af (aU lp (af (aN 0) az)) az)) (aE 1)) (bn (iW (xB (aO (ci true) (aU Cn (af (aN 1) az)) (aq 0))) (du) bS) (bW (aN 1)))))
def DN:Zc->Option O:=kQ 2 FZ
def G2:Zb:=λds=>(DN ds).map O.d
def F3:XR:=eE (sr (iW (xB (aO (ci false) (aq 0) (xC (.str (Str.ofString "put"))))) (bW (aO eU (aq 1) (xC (.int 0)))) bS)) (gY (j3 (xB (aO (ci false) (aq 0) (xC (.str (Str.ofString "thin"))))) (zS (dN (λds=>wt (ds++[.bl true])) (af (aO eU (aq 1) (xC (.int 0))) az))) (dP)))
def D5:Zc->Option Str:=Ce 2 F3
def F4:XR:=eE (j3 (lF (iR (qI sB (af (aq 0) (af (xC (.ty "str")) az))))) (eh "NoText") (dP)) (eE (sr (iW (xB (aO (ci false) (aq 0) (xC (.str (Str.ofString "nothing"))))) (bW (qJ az)) bS)) (eE (BL (dN kn (af (aN 0) az)) (cn (aU rC (af (aU lp (af (aN 0) az)) az)) (aE 1))) (gY (j3 (xB (aO (ci true) (aU Cn (af (aN 1) az)) (aq 0))) (eh "NoText") (dP)))))
def zo:Zc->Option Str:=Ce 2 F4
def qO:XS:=bn (iW (xB (aO (ci false) (aq 1) (xC (.str (Str.ofString "NEW"))))) (bW (aN 2)) bS) (bn (iW (xB (aO (ci false) (aq 1) (xC (.str (Str.ofString "TEXT"))))) (bW (aU G2 (af (aN 2) az))) bS) (bn (iW (xB (aO (ci false) (aq 1) (xC (.str (Str.ofString "FORM"))))) (du) bS) (bn (iW (xB (KZ true (aN 2) (zN tG "pictures" (aN 0)))) (du) bS) (bW (PK (zN tG "pictures" (aN 0)) (aN 2))))))
def oY:Zc->Option O:=kQ 3 qO
def i9:Zb:=λds=>(oY ds).map O.d
def mR:XR:=eE (sr (cn (aO kM (aq 0) (xC (.str (Str.ofString " ")))) (aE 1))) (eE (j3 (sk (xB (aO (ci false) (aO eU (aq 1) (xC (.int 0))) (xC (.str (Str.ofString "box"))))) (xB (aO (ci false) (qI pH (af (aq 1) az)) (xC (.int 5))))) (eE (BL (wY [none] (vc (Dc (aq 1) (j0 (xC (.int 1))) eg)) (aE 0) lG (aU dg (af (aN 0) az)) (dN eI (af (aN 0) az))) (cn (xL (fK [none] (vc (Dc (aq 1) (j0 (xC (.int 1))) eg)) (aE 0) lG (aU dg (af (aN 0) az)))) (aE 2))) (zS (dN mq (af (aO eU (aq 2) (xC (.int 0))) (af (aO eU (aq 2) (xC (.int 1))) (af (aO eU (aq 2) (xC (.int 2))) (af (aO eU (aq 2) (xC (.int 3))) az))))))) (dP)) (eE (j3 (sk (xB (aO (ci false) (aO eU (aq 1) (xC (.int 0))) (xC (.str (Str.ofString "cross"))))) (xB (aO (ci false) (qI pH (af (aq 1) az)) (xC (.int 2))))) (zS (K3 (wX (dN eI (af (aO eU (aq 1) (xC (.int 1))) az))) (dN ki (af (aU dg (af (aO eU (aq 1) (xC (.int 1))) az)) az)))) (dP)) (eE (j3 (xB (aO (ci false) (aO eU (aq 1) (xC (.int 0))) (xC (.str (Str.ofString "cells"))))) (zS (K3 (wX (dN zo (af (aO eU (aO vG (aq 0) (xC (.str (Str.ofString " ")))) (xC (.int 2))) az))) (dN km (af (aU G2 (af (aO eU (aO vG (aq 0) (xC (.str (Str.ofString " ")))) (xC (.int 2))) az)) az)))) (dP)) (eh "NoForm"))))
def mv:Zc->Option Str:=Ce 3 mR
def vw:j5:=cy (uI 0 (cn (aU pS (af (aN 1) az)) (aE 2))) (cy (uI 0 (cn (aO eU (aq 2) (xC (.int 0))) (aE 3))) (cy (LR 0 4 (Ev 0 (fK [none,none,some 0] (zO (gl Zr (aq 3)) (Dc (aq 2) (j0 (xC (.int 1))) eg)) (gX (bB (aE 0) (bB (aE 1) gz))) lG (mE tG "meant" i9 (aN 2) (af (aN 0) (af (aN 1) az)))))) (cy (n4 (FN (xB (aO (ci false) (aq 3) (xC (.str (Str.ofString "names")))))) (lH (zP 0 (aO xP (xC (.str (Str.ofString " "))) (xL (FM vz (af (zN tG "pictures" (aN 0)) az)))))) (iT)) (cy (n4 (FN (xB (aO (ci false) (aq 3) (xC (.str (Str.ofString "back")))))) (tF (dM kc az)) (n4 (FN (xB (aO (ci false) (aq 3) (xC (.str (Str.ofString "drop")))))) (tF (dM pT (af (aO eU (aq 2) (xC (.int 1))) (af (xC .non) az)))) (n4 (FN (xB (aO ES (xC (.str (Str.ofString "NEW"))) (gl Zr (aq 3))))) (tF (dM pT (af (aO eU (aq 2) (xC (.int 1))) (af (aU MG (af (aN 3) (af (Dc (aq 4) (j0 (xC (.int 1))) eg) az))) az)))) (zQ)))) (lH (xx (xC (.str (Str.ofString "ok")))))))))
def bK:DM:=NP 5 vw
def vk:XS:=bn (cn (aU pS (af (aN 1) az)) (aE 2)) (bn (cn (aO eU (aq 2) (xC (.int 0))) (aE 3)) (bn (cn (xL (fK [none,none,some 0] (zO (gl Zr (aq 3)) (Dc (aq 2) (j0 (xC (.int 1))) eg)) (gX (bB (aE 0) (bB (aE 1) gz))) lG (mE tG "meant" i9 (aN 2) (af (aN 0) (af (aN 1) az))))) (aE 4)) (bn (iW (xB (aO (ci false) (aq 3) (xC (.str (Str.ofString "names"))))) (bW (aO xP (xC (.str (Str.ofString " "))) (xL (FM vz (af (zN tG "pictures" (aN 0)) az))))) bS) (bn (iW (xB (aO (ci false) (aq 3) (xC (.str (Str.ofString "back"))))) (du) (iW (xB (aO (ci false) (aq 3) (xC (.str (Str.ofString "drop"))))) (du) (iW (xB (aO ES (xC (.str (Str.ofString "NEW"))) (gl Zr (aq 3)))) (du) (bW (aU MH (af (aN 3) (af (aN 4) az))))))) (bW (xC (.str (Str.ofString "ok"))))))))
def tW:Zc->Option O:=kQ 5 vk
def hJ:Zb:=λds=>(tW ds).map O.d
def tK:XR:=IU ["NoForm"] "NoText" "NoForm" mv (af (aN 0) az)
def rR:Zc->Option Str:=Ce 1 tK
def Dj:XS:=IK (Qp (bR (af (mE tG "say" hJ (aN 0) (af (xC (.str (Str.ofString "names"))) az)) (af (mE tG "say" hJ (aN 0) (af (xC (.str (Str.ofString "show a"))) az)) (af (mE tG "say" hJ (aN 0) (af (xC (.str (Str.ofString "show abcdefgh"))) az)) az)))))
def AM:Zc->Option O:=kQ 1 Dj
def kb:Zb:=λds=>(AM ds).map O.d
def qR:XR:=eE (sr (iW (xB (aO (ci false) (aq 1) (xC (.str (Str.ofString "NEW"))))) (bW (aN 2)) bS)) (eE (j3 (xB (aO (ci false) (aq 1) (xC (.str (Str.ofString "TEXT"))))) (zS (dN zo (af (aN 2) az))) (dP)) (eE (j3 (xB (aO (ci false) (aq 1) (xC (.str (Str.ofString "FORM"))))) (zS (dN rR (af (aN 2) az))) (dP)) (gY (j3 (xB (KZ true (aN 2) (zN tG "pictures" (aN 0)))) (eh "NoName") (dP)))))
def pf:Zc->Option Str:=Ce 3 qR
def vp:XR:=eE (BL (dN ul (af (aN 1) az)) (cn (aU pS (af (aN 1) az)) (aE 2))) (eE (sr (cn (aO eU (aq 2) (xC (.int 0))) (aE 3))) (eE (BL (wY [none,none,some 0] (zO (gl Zr (aq 3)) (Dc (aq 2) (j0 (xC (.int 1))) eg)) (gX (bB (aE 0) (bB (aE 1) gz))) lG (mE tG "meant" i9 (aN 2) (af (aN 0) (af (aN 1) az))) (wZ tG "meant" pf (aN 2) (af (aN 0) (af (aN 1) az)))) (cn (xL (fK [none,none,some 0] (zO (gl Zr (aq 3)) (Dc (aq 2) (j0 (xC (.int 1))) eg)) (gX (bB (aE 0) (bB (aE 1) gz))) lG (mE tG "meant" i9 (aN 2) (af (aN 0) (af (aN 1) az))))) (aE 4))) (eE (sr (iW (xB (aO (ci false) (aq 3) (xC (.str (Str.ofString "names"))))) (bW (aO xP (xC (.str (Str.ofString " "))) (xL (FM vz (af (zN tG "pictures" (aN 0)) az))))) bS)) (gY (j3 (xB (aO (ci false) (aq 3) (xC (.str (Str.ofString "back"))))) (zS (wZ tG "take_back" kj (aN 0) az)) (j3 (xB (aO (ci false) (aq 3) (xC (.str (Str.ofString "drop"))))) (sr (du)) (j3 (xB (aO ES (xC (.str (Str.ofString "NEW"))) (gl Zr (aq 3)))) (zS (Ew tG "do" (aN 0) (Dd (aO eU (aq 2) (xC (.int 1))) (wX (dN D5 (af (aN 3) (af (Dc (aq 4) (j0 (xC (.int 1))) eg) az))))))) (sr (du)))))))))
def uj:Zc->Option Str:=Ce 5 vp
def vm:XS:=bn (cn (xC .non) (aE 2)) (bn (IP PN 3 tG "say" uj (aN 0) (af (aN 1) az) (du) [(2,[mX,lc,lf,k9,iy,k8,jB,fT])]) (bn (iW (NG (xB (aO (Jt false) (aq 2) (xC .non))) (NG (xB (aO (ci true) (Et (aq 2)) (xC (.int 2)))) (lF (iR (aO eU (aq 2) (xC (.int 7))))))) (bW (xC (.int 9))) bS) (bW (aO yR (aq 2) (xC (.bl true))))))
def tX:Zc->Option O:=kQ 4 vm
def bj:Zb:=λds=>(tX ds).map O.d
def su:XS:=bn (cn (aO vF (aq 1) (xC (.int 6))) (aE 3)) (bn (iW (xB (aO (ci false) (aO fv (aq 1) (xC (.int 6))) (xC (.int 0)))) (bW (aO (ci false) (aU bj (af (aN 0) (af (aU ln (af (aN 3) az)) az))) (xC (.int 0)))) bS) (bn (iW (xB (aO (ci false) (aO fv (aq 1) (xC (.int 6))) (xC (.int 1)))) (bW (aO (ci false) (aU bj (af (aN 0) (af (aU jL (af (aN 3) az)) az))) (xC (.int 1)))) bS) (bn (iW (xB (aO (ci false) (aO fv (aq 1) (xC (.int 6))) (xC (.int 2)))) (bW (aO (ci false) (aU bj (af (aN 0) (af (aU jM (af (aN 3) az)) az))) (xC (.int 2)))) bS) (bn (iW (xB (aO (ci false) (aO fv (aq 1) (xC (.int 6))) (xC (.int 3)))) (bW (aO (ci false) (aU bj (af (aN 0) (af (aU jK (af (aN 3) az)) az))) (xC (.int 3)))) bS) (bn (iW (sk (xB (aO (ci false) (aO fv (aq 1) (xC (.int 6))) (xC (.int 4)))) (xB (aO NN (aq 2) (xC (.int 1000))))) (bW (aO (ci false) (aU bj (af (aN 0) (af (aO b9 (aO b9 (xC (.str (Str.ofString "thin "))) (aO eU (xL (bR (af (xC (.str (Str.ofString "c"))) (af (xC (.str (Str.ofString "a"))) az)))) (aO fv (aq 3) (xC (.int 2))))) (xC (.str (Str.ofString " abcdefgh")))) az))) (xC (.int 4)))) bS) (bW (aO (ci false) (mE tG "say" hJ (aN 0) (af (aO b9 (xC (.str (Str.ofString "same a "))) (aO eU (xL (bR (af (xC (.str (Str.ofString "a"))) (af (xC (.str (Str.ofString "abcdefgh"))) az)))) (aO fv (aq 3) (xC (.int 2))))) az)) (aO eU (xL (bR (af (xC (.str (Str.ofString "yes"))) (af (xC (.str (Str.ofString "no"))) az)))) (aO fv (aq 3) (xC (.int 2)))))))))))
def uR:Zc->Option O:=kQ 4 su
def vY:Zb:=λds=>(uR ds).map O.d
def og:j5:=cy (n4 (gZ 1 (lF (iR (aU vY (af (aN 1) (af (aO vF (aO fv (aO B9 (aq 5) (xC (.int 48271))) (xC (.int 2147483647))) (xC (.int 37))) (af (aN 2) az))))))) (lH (xx (xC (.bl false)))) (iT)) (n4 (gZ 1 (sk (xB (aO (ci false) (aO fv (aq 5) (xC (.int 5))) (xC (.int 0)))) (xB (aO (ci true) (aU kb (af (aN 1) az)) (aq 4))))) (lH (xx (xC (.bl false)))) (iT))
def Dk:XS:=PM 1 (cy (n4 (w4 (gZ 1 (xB (aO (ci true) (aU bj (af (aN 1) (af (xC (.str (Str.ofString "back"))) az))) (xC (.int 5))))) (w4 (gZ 1 (xB (aO (ci true) (aU bj (af (aN 1) (af (xC (.str (Str.ofString "show a"))) az))) (xC (.int 1))))) (IV (qK (ci true) (dM bK (af (xC (.str (Str.ofString "names"))) az)) (xC (.str (Str.ofString ""))))))) (lH (xx (xC (.bl false)))) (iT)) (cy (uI 1 (cn (aO eU (xL (bR (af (xC (.int 1001)) (af (xC (.int 5)) (af (aO ET (xC (.int 10)) (xC (.int 40))) (af (aO b9 (xC (.int 1002)) (aO fv (aU dY (af (aN 0) (af (xC (.int 0)) az))) (xC (.int 50)))) az)))))) (aO fv (aU dY (af (aN 0) (af (xC (.int 0)) az))) (xC (.int 4)))) (aE 2))) (cy (uI 1 (cn (aO b9 (xC (.str (Str.ofString "7: 4.."))) (qI z9 (af (aO b9 (xC (.int 3)) (aq 2)) az))) (aE 3))) (cy (n4 (w4 (IV (qK (ci true) (dM bK (af (xC (.str (Str.ofString "put a 0: 0..2 7"))) az)) (xC (.str (Str.ofString "ok"))))) (IV (qK (ci true) (dM bK (af (aO b9 (xC (.str (Str.ofString "put abcdefgh "))) (aq 3)) az)) (xC (.str (Str.ofString "ok")))))) (lH (xx (xC (.bl false)))) (iT)) (cy (uI 1 (cn (xL (bR (af (xC (.str (Str.ofString "a abcdefgh"))) (af (xC (.str (Str.ofString "0: 0..2 7"))) (af (aN 3) az))))) (aE 4))) (cy (Ez 1 (vc (Dc (aq 0) eg (j0 (xC (.int 63))))) (aE 5) (og)) (cy (n4 (w4 (gZ 1 (xB (aO (ci true) (aU kb (af (aN 1) az)) (aq 4)))) (w4 (IV (qK (ci true) (dM bK (af (xC (.str (Str.ofString "back"))) az)) (xC (.str (Str.ofString "ok"))))) (IV (qK (ci true) (dM bK (af (xC (.str (Str.ofString "names"))) az)) (xC (.str (Str.ofString "a"))))))) (lH (xx (xC (.bl false)))) (iT)) (lH (BK (qK (ci false) (dM bK (af (xC (.str (Str.ofString "back"))) az)) (xC (.str (Str.ofString "ok")))) (BK (qK (ci false) (dM bK (af (xC (.str (Str.ofString "names"))) az)) (xC (.str (Str.ofString "")))) (zP 1 (aO (ci false) (aU bj (af (aN 1) (af (xC (.str (Str.ofString "back"))) az))) (xC (.int 5))))))))))))))
def zc:Zc->Option O:=kQ 6 Dk
def Lh:Zb:=λds=>(zc ds).map O.d
abbrev cu(K:Zj):Sp:=NQ K 3 fL
def iH(K:Zj):{ t:TS // SD K 0 t jx }:=⟨_,nU (tQ (i:=0) (aS (SE.p (aI LA (am 2) ((aJ rfl).p))))) (Nq (i:=0) (aF 1)) (Nu (i:=0) (aF 1) (aF 2))⟩
def nO{K:Zj}{vs:Za}{H:Hp}{Q:VK}{E:XK}(h:cu K vs H Q E):(iH K).1 { nx:=λ_ H'=>Q .non H',rt:=Q } (aX ["self", "name", "picture"] vs) H:=zw (iH K).2 rfl h
abbrev kz(K:Zj):Sp:=fh K 2 ke
def uc(K:Zj):{ t:TS // SS K t lI }:=⟨_,bi (dQ (aS (SE.p (aI M6 (am 1) ((gM oV (bc (am 0) bP)).p)))) (bI (aI cA (am 0) (am 1))) bJ) (bI (aJ rfl))⟩
def Bg{K:Zj}{vs:Za}{H:Hp}{Q:VK}{E:XK}(h:kz K vs H Q E):(uc K).1 { nx:=λ_ H'=>Q .non H',rt:=Q } (aX ["_law_script", "_law_k"] vs) H:=cI (uc K).2 rfl h
abbrev kD(K:Zj):Sp:=fh K 1 kf
def ud(K:Zj):{ t:TS // SS K t lJ }:=⟨_,bi (cq (aI cA (((cS (ah (aJ rfl) (ah (aJ rfl) (ah (aJ rfl) (ah (aJ rfl) ay))))).e).p) ((aI g7 ((aI D6 (am 0) ((aJ rfl).p)).p) ((aJ rfl).p)).p)) (aK 1)) (bi (cq ((cS (ah (aJ rfl) (ah (aJ rfl) (ah (aJ rfl) (ah (aJ rfl) (ah (aJ rfl) (ah (aJ rfl) (ah (aJ rfl) (ah (aJ rfl) (ah (aJ rfl) ay)))))))))).e) (aK 2)) (bi (cq (aI eP (am 2) (((cS (ah (aJ rfl) (ah (aJ rfl) (ah (aJ rfl) (ah (aJ rfl) (ah (aJ rfl) (ah (aJ rfl) (ah (aJ rfl) (ah (aJ rfl) ay))))))))).e).p)) (aK 2)) (bi (cq (aI eP (am 2) (((cS (ah (aJ rfl) (ah (aJ rfl) (ah (aJ rfl) (ah (aJ rfl) (ah (aJ rfl) (ah (aJ rfl) (ah (aJ rfl) (ah (aJ rfl) ay))))))))).e).p)) (aK 2)) (bi (cq (aI eP (am 2) (((cS (ah (aI eP ((aI eP ((aJ rfl).p) ((aI M7 ((aJ rfl).p) ((aJ rfl).p)).p)).p) ((aJ rfl).p)) ay)).e).p)) (aK 2)) (bI (aI eP ((aI eP ((aI eP ((aI eP (am 1) ((aJ rfl).p)).p) ((aI cA (((cS (ah (aJ rfl) (ah (aJ rfl) ay))).e).p) ((aI g7 ((aI D6 (am 0) ((aJ rfl).p)).p) ((aJ rfl).p)).p)).p)).p) ((aJ rfl).p)).p) ((aI cA (am 2) ((aI g7 (am 0) ((aJ rfl).p)).p)).p)))))))⟩
def Bh{K:Zj}{vs:Za}{H:Hp}{Q:VK}{E:XK}(h:kD K vs H Q E):(ud K).1 { nx:=λ_ H'=>Q .non H',rt:=Q } (aX ["_law_cell", "_law_word", "_law_some"] vs) H:=cI (ud K).2 rfl h
abbrev kE(K:Zj):Sp:=fh K 1 nw
def ue(K:Zj):{ t:TS // SS K t pq }:=⟨_,bi (cq ((cS (ah (aJ rfl) (ah (aJ rfl) (ah (aJ rfl) (ah (aJ rfl) (ah (aJ rfl) (ah (aJ rfl) (ah (aJ rfl) (ah (aJ rfl) (ah (aJ rfl) ay)))))))))).e) (aK 1)) (bi (cq (aI eP (am 1) (((cS (ah (aJ rfl) (ah (aJ rfl) (ah (aJ rfl) (ah (aJ rfl) (ah (aJ rfl) (ah (aJ rfl) ay))))))).e).p)) (aK 1)) (bi (cq (aI eP (am 1) (((cS (ah (aJ rfl) (ah (aJ rfl) (ah (aJ rfl) (ah (aJ rfl) ay))))).e).p)) (aK 1)) (bI (aI cA ((aI eP (am 1) (((cS (ah (aJ rfl) ay)).e).p)).p) ((aI g7 (am 0) ((aJ rfl).p)).p)))))⟩
def Bi{K:Zj}{vs:Za}{H:Hp}{Q:VK}{E:XK}(h:kE K vs H Q E):(ue K).1 { nx:=λ_ H'=>Q .non H',rt:=Q } (aX ["_law_cell", "_law_some"] vs) H:=cI (ue K).2 rfl h
abbrev md(K:Zj):Sp:=fh K 1 pV
def wl(K:Zj):{ t:TS // SS K t ss }:=⟨_,bi (jW (cS (ah (aJ rfl) (ah (aJ rfl) (ah (aJ rfl) (ah (aJ rfl) (ah (aJ rfl) (ah (aJ rfl) (ah (aJ rfl) (ah (aJ rfl) (ah (aJ rfl) (ah (aJ rfl) ay)))))))))))) (bi (jW (s0 (am 1) (((cS (ah (aJ rfl) (ah (aJ rfl) (ah (aJ rfl) (ah (aJ rfl) (ah (aJ rfl) (ah (aJ rfl) (ah (aJ rfl) ay)))))))).e).p))) (bi (zC (wf 1) ((aJ rfl).t)) (bi (jW (s0 (am 1) (((cS (ah (aJ rfl) (ah (aJ rfl) (ah (aJ rfl) (ah (aJ rfl) (ah (aJ rfl) (ah (aJ rfl) (ah (aJ rfl) ay)))))))).e).p))) (bi (jW (s0 (am 1) (((cS (ah (aJ rfl) (ah (aJ rfl) (ah (aJ rfl) (ah (aJ rfl) (ah (aJ rfl) (ah (aJ rfl) ay))))))).e).p))) (bi (jW (s0 (am 1) (((cS (ah (aJ rfl) (ah (aJ rfl) (ah (aJ rfl) (ah (aJ rfl) (ah (aJ rfl) (ah (aJ rfl) (ah (aJ rfl) (ah (aJ rfl) (ah (aJ rfl) ay)))))))))).e).p))) (bi (jW (s0 (am 1) (((cS (ah (aJ rfl) (ah (aJ rfl) (ah (aJ rfl) (ah (aJ rfl) (ah (aJ rfl) (ah (aJ rfl) (ah ((cS (ah (aJ rfl) ay)).e) (ah (lw (ah (aJ rfl) ay)) ay))))))))).e).p))) (bi (jW (s0 (am 1) (((cS (ah (aJ rfl) (ah (aJ rfl) (ah (aJ rfl) (ah (aJ rfl) ay))))).e).p))) (bI (aI cA (am 1) ((aI g7 (am 0) ((aJ rfl).p)).p))))))))))⟩
def CK{K:Zj}{vs:Za}{H:Hp}{Q:VK}{E:XK}(h:md K vs H Q E):(wl K).1 { nx:=λ_ H'=>Q .non H',rt:=Q } (aX ["_law_cell", "_law_some"] vs) H:=cI (wl K).2 rfl h
abbrev kF(K:Zj):Sp:=fh K 1 ny
def uf(K:Zj):{ t:TS // SS K t pr }:=⟨_,bi (cq ((cS (ah (aJ rfl) (ah (aJ rfl) (ah (aJ rfl) (ah (aJ rfl) (ah (aJ rfl) (ah (aJ rfl) (ah (aJ rfl) ay)))))))).e) (aK 1)) (bI (aI cA ((aI eP (am 1) (((cS (ah (aJ rfl) (ah (aJ rfl) (ah (aJ rfl) ay)))).e).p)).p) ((aI g7 (am 0) ((aJ rfl).p)).p)))⟩
def Bj{K:Zj}{vs:Za}{H:Hp}{Q:VK}{E:XK}(h:kF K vs H Q E):(uf K).1 { nx:=λ_ H'=>Q .non H',rt:=Q } (aX ["_law_cell", "_law_some"] vs) H:=cI (uf K).2 rfl h
abbrev jY(K:Zj):Sp:=fh K 1 v7
def wm(K:Zj):{ t:TS // SS K t xy }:=⟨_,bI (Nb ((Kv HC HC ((aJ rfl).p) ((gM oV (bc (am 0) bP)).p) ((aJ rfl).p)).p) (gM K7 (bc (((gk (SI.p (Lc (aF 0))) (aK 0) gQ (aI Lz (am 0) ((aJ rfl).p))).e).p) bP)))⟩
def CM{K:Zj}{vs:Za}{H:Hp}{Q:VK}{E:XK}(h:jY K vs H Q E):(wm K).1 { nx:=λ_ H'=>Q .non H',rt:=Q } (aX ["word"] vs) H:=cI (wm K).2 rfl h
abbrev ic(K:Zj):Sp:=fh K 1 v8
def wn(K:Zj):{ t:TS // SS K t xz }:=⟨_,bI (aI D7 (am 0) ((lw (ah (aJ rfl) (ah (aJ rfl) ay))).p))⟩
def CN{K:Zj}{vs:Za}{H:Hp}{Q:VK}{E:XK}(h:ic K vs H Q E):(wn K).1 { nx:=λ_ H'=>Q .non H',rt:=Q } (aX ["kind"] vs) H:=cI (wn K).2 rfl h
abbrev va(K:Zj):Sp:=fh K 2 DK
def DV(K:Zj):{ t:TS // SS K t FY }:=⟨_,bi (dQ (aS (SE.p (aI (bQ false) (am 0) ((aJ rfl).p)))) (bI (aI cA (am 1) ((aJ rfl).p))) bJ) (cF (t:=cw))⟩
def Kj{K:Zj}{vs:Za}{H:Hp}{Q:VK}{E:XK}(h:va K vs H Q E):(DV K).1 { nx:=λ_ H'=>Q .non H',rt:=Q } (aX ["word", "things"] vs) H:=cI (DV K).2 rfl h
abbrev ji(K:Zj):Sp:=fh K 1 rD
def rO(K:Zj):{ t:TS // SS K t tH }:=⟨_,bI (gM K8 (bc (((gk (gf (am 0)) (iC (bD (aK 0) (bD (aK 1) iB)) (bq (bq fb))) gQ (aI eP ((aI Pb (am 1) (am 0)).p) ((aJ rfl).p))).e).p) bP))⟩
def zx{K:Zj}{vs:Za}{H:Hp}{Q:VK}{E:XK}(h:ji K vs H Q E):(rO K).1 { nx:=λ_ H'=>Q .non H',rt:=Q } (aX ["row"] vs) H:=cI (rO K).2 rfl h
abbrev oE(K:Zj):Sp:=fh K 1 yf
def yi(K:Zj):{ t:TS // SS K t zW }:=⟨_,bi (jW (cS ay)) (bi (HJ (AA ((Bq Ab (bc (((gk (gf (am 0)) (iC (bD (aK 0) (bD (aK 1) iB)) (bq (bq fb))) (aS (SE.p (aI HC (am 0) (am 1)))) (lw (ah (aF 0) (ah (aF 1) ay)))).e).p) bP)).e)) (iC (bD (aK 2) (bD (aK 3) iB)) (bq (bq fb))) (dQ (wB (d7 (am 1)) (aS (SE.p (aI HC (am 2) ((aI eP ((aI cA ((aI cA (am 1) ((Bs um ((aJ rfl).p)).p)).p) ((aJ rfl).p)).p) ((aJ rfl).p)).p))))) (Ni (lw (ah (aI cA ((aI cA (am 1) ((Bs um ((aJ rfl).p)).p)).p) ((aJ rfl).p)) (ah (gM Me (bc ((aI cA ((aI cA (am 1) ((Bs um ((aJ rfl).p)).p)).p) ((aJ rfl).p)).p) (bc (am 3) bP))) ay))) (wf 1) ((Bs um ((aJ rfl).p)).p)) (zC (wf 1) ((lw (ah (aF 2) (ah (aF 3) ay))).t)))) (bI (gM Dp (bc (am 1) bP))))⟩
def Fu{K:Zj}{vs:Za}{H:Hp}{Q:VK}{E:XK}(h:oE K vs H Q E):(yi K).1 { nx:=λ_ H'=>Q .non H',rt:=Q } (aX ["pairs", "stretches", "a", "b"] vs) H:=cI (yi K).2 rfl h
abbrev f9(K:Zj):Sp:=fh K 2 mf
def mm(K:Zj):{ t:TS // SS K t mO }:=⟨_,bi (dQ (aS (SE.p (aI (bQ false) (am 0) (am 1)))) (bI (HL (am 0))) bJ) (bI (Pi (SJ.cons ((HL (am 0)).p) (SJ.cons ((aJ rfl).p) (SJ.cons ((HL (am 1)).p) (SJ.nil)))) Str.empty))⟩
def uG{K:Zj}{vs:Za}{H:Hp}{Q:VK}{E:XK}(h:f9 K vs H Q E):(mm K).1 { nx:=λ_ H'=>Q .non H',rt:=Q } (aX ["a", "b"] vs) H:=cI (mm K).2 rfl h
abbrev eD(K:Zj):Sp:=fh K 1 mh
def mo(K:Zj):{ t:TS // SS K t mP }:=⟨_,bi (cq (LC (d7 ((HR (am 0) ((aJ rfl).p)).p)) (Pj (am 0) (iQ ((aJ rfl).p)) (et)) (aF 0)) (aK 1)) (bi (dQ (Fx (aS (SE.p (aI (bQ false) (am 1) ((aJ rfl).p)))) (aS (SE.p (aI M5 ((gM oV (bc (am 1) bP)).p) ((aJ rfl).p))))) (bI (aJ rfl)) bJ) (bi (dQ (iU (d7 ((gM K7 (bc (((gk (SI.p (Lc (aF 1))) (aK 0) gQ (aI Lz (am 0) ((aJ rfl).p))).e).p) bP)).p))) (bI (aJ rfl)) bJ) (bI (aI (bQ false) ((gM Gc (bc ((gM F8 (bc (am 0) bP)).p) bP)).p) (am 0)))))⟩
def uH{K:Zj}{vs:Za}{H:Hp}{Q:VK}{E:XK}(h:eD K vs H Q E):(mo K).1 { nx:=λ_ H'=>Q .non H',rt:=Q } (aX ["text", "figures"] vs) H:=cI (mo K).2 rfl h
abbrev jj(K:Zj):Sp:=fh K 1 rF
def rQ(K:Zj):{ t:TS // SS K t tJ }:=⟨_,bI (LC (d7 (am 0)) (aJ rfl) (aJ rfl))⟩
def zz{K:Zj}{vs:Za}{H:Hp}{Q:VK}{E:XK}(h:jj K vs H Q E):(rQ K).1 { nx:=λ_ H'=>Q .non H',rt:=Q } (aX ["truth"] vs) H:=cI (rQ K).2 rfl h
abbrev fD(K:Zj):Sp:=Ia K 4 mq
def lr(K:Zj)(E:XK):{ t:TS // SX K E t mQ }:=⟨_,fG (fJ (aS (SE.p (aI M6 ((gM Mf (bc (am 1) (bc (am 2) (bc (am 3) (bc (am 4) bP))))).p) ((aJ rfl).p)))) (dn (v:=(.str (Str.ofString "a box has no number below 0")))) (cM))⟩
def sV{K:Zj}{vs:Za}{H:Hp}{Q:VK}{E:XK}(h:fD K vs H Q E):(lr K E).1 { nx:=λ_ H'=>Q .non H',rt:=Q } (aX ["self", "left", "up", "right", "down"] vs) H:=zr (lr K E).2 rfl h
abbrev cY(K:Zj):Sp:=Ia K 1 ki
def jR(K:Zj)(E:XK):{ t:TS // SX K E t kX }:=⟨_,fG (fJ (aS (SE.p (aI M6 (am 1) ((aJ rfl).p)))) (dn (v:=(.str (Str.ofString "a cross has no arm below 0")))) (cM))⟩
def qv{K:Zj}{vs:Za}{H:Hp}{Q:VK}{E:XK}(h:cY K vs H Q E):(jR K E).1 { nx:=λ_ H'=>Q .non H',rt:=Q } (aX ["self", "arm"] vs) H:=zr (jR K E).2 rfl h
abbrev d9(K:Zj):Sp:=zI K 1 kj
def jS(K:Zj)(E:XK):{ t:TS // SX K E t kY }:=⟨_,fG (fJ (aS (SE.p (aI (bQ false) ((uo (aF 0)).p) (((cS ay).e).p)))) (dn (v:=(.str (Str.ofString "there is no deed left to take back")))) (cM))⟩
def qw{K:Zj}{vs:Za}{H:Hp}{Q:VK}{E:XK}(h:d9 K vs H Q E):(jS K E).1 { nx:=λ_ H'=>Q .non H',rt:=Q } (aX ["self", "deed"] vs) H:=h9 (jS K E).2 rfl h
abbrev cZ(K:Zj):Sp:=Ia K 1 km
def jT(K:Zj)(E:XK):{ t:TS // SX K E t kZ }:=⟨_,fG (fJ (aS (SE.p (aI (bQ false) (am 1) ((lw ay).p)))) (dn (v:=(.str (Str.ofString "a form has at least one cell")))) (cM))⟩
def qy{K:Zj}{vs:Za}{H:Hp}{Q:VK}{E:XK}(h:cZ K vs H Q E):(jT K E).1 { nx:=λ_ H'=>Q .non H',rt:=Q } (aX ["self", "picture"] vs) H:=zr (jT K E).2 rfl h
abbrev gw(K:Zj):Sp:=NQ K 3 pT
def t9(K:Zj):{ t:TS // SD K 0 t xD }:=⟨_,fO (No (i:=0) (aF 1)) (r8 (fW (i:=0) (mn := "set_picture") rfl (ah (aF 1) (ah (aF 2) ay)) (ao (ao (λ_ _ h=>aA h)))))⟩
def Bd{K:Zj}{vs:Za}{H:Hp}{Q:VK}{E:XK}(h:gw K vs H Q E):(t9 K).1 { nx:=λ_ H'=>Q .non H',rt:=Q } (aX ["self", "name", "picture"] vs) H:=zw (t9 K).2 rfl h
abbrev d8(K:Zj):Sp:=NQ K 1 kc
def jQ(K:Zj):{ t:TS // SD K 0 t k7 }:=⟨_,fO (nU (oh (i:=0) (aS (SE.p (aI (bQ false) ((uo (aF 0)).p) (((cS ay).e).p))))) (Bv (i:=0) (t:=cw)) (ma)) (fO (Nt (i:=0) (j:=1)) (r8 (fW (i:=0) (mn := "set_picture") rfl (ah (aI cA (am 1) ((aJ rfl).p)) (ah (aI cA (am 1) ((aJ rfl).p)) ay)) (ao (ao (λ_ _ h=>aA h))))))⟩
def qu{K:Zj}{vs:Za}{H:Hp}{Q:VK}{E:XK}(h:d8 K vs H Q E):(jQ K).1 { nx:=λ_ H'=>Q .non H',rt:=Q } (aX ["self", "deed"] vs) H:=zw (jQ K).2 rfl h
abbrev gS(K:Zj):Sp:=fh K 1 nB
def nL(K:Zj):{ t:TS // SS K t oU }:=⟨_,bI (gM K8 (bc (((gk (gf (am 0)) (iC (bD (aK 0) (bD (aK 1) iB)) (bq (bq fb))) gQ (a8 (E:=E0) (ah (aF 1) ay) (ao (λ_ _ h=>aA h)))).e).p) bP))⟩
def ww{K:Zj}{vs:Za}{H:Hp}{Q:VK}{E:XK}(h:gS K vs H Q E):(nL K).1 { nx:=λ_ H'=>Q .non H',rt:=Q } (aX ["picture"] vs) H:=cI (nL K).2 rfl h
abbrev eK(K:Zj):Sp:=fh K 1 oZ
def pd(K:Zj):{ t:TS // SS K t qP }:=⟨_,bi (jW (cS ay)) (bi (HJ (AA ((Bq Ab (bc (((gk (gf (am 0)) (iC (bD (aK 0) (bD (aK 1) (bD (aK 2) iB))) (bq (bq (bq fb)))) (aS (SE.p (aI HC (am 1) (am 2)))) (lw (ah (aF 0) (ah (aF 1) (ah (aF 2) ay))))).e).p) bP)).e)) (iC (bD (aK 2) (bD (aK 3) (bD (aK 4) iB))) (bq (bq (bq fb)))) (bi (dQ (Fx (iU (Nk (HS 1))) (aS (SE.p (aI (bQ true) ((SQ.fl (LF cA (LF cA (HS 1) (((Bs um ((aJ rfl).p)).p).q)) (((aJ rfl).p).q))).p) (am 2))))) (zC (wf 1) (Nm (Ed ((aF 2).t) (Ed (Nf Ib) Ib)))) bJ) (zC (OJ (OJ (wf 1) ((Bs um ((aJ rfl).p)).p)) ((aJ rfl).p)) ((lw (ah (aF 3) (ah (aF 4) ay))).t)))) (Ph 1 (bI (gM Dp (bc (((gk (gf ((aF 1).p)) (iC (bD (aK 0) (bD (aK 1) iB)) (bq (bq fb))) gQ (lw (ah (aF 0) (ah (a8 (E:=E0) (ah (aF 1) ay) (ao (λ_ _ h=>aA h))) ay)))).e).p) bP)))))⟩
def xr{K:Zj}{vs:Za}{H:Hp}{Q:VK}{E:XK}(h:eK K vs H Q E):(pd K).1 { nx:=λ_ H'=>Q .non H',rt:=Q } (aX ["stretches", "pairs_by_row", "y", "a", "b"] vs) H:=cI (pd K).2 rfl h
abbrev cT(K:Zj):Sp:=fh K 1 o6
def pe(K:Zj):{ t:TS // SS K t qQ }:=⟨_,bi (dQ (Fx (iU (d7 ((gM xE (bc (am 0) (bc (SE.p (aJ rfl)) bP))).p))) (iU (d7 ((a8 (E:=E0) (ah (aF 0) ay) (ao (λ_ _ h=>aA h))).p)))) (cF (t:=cw)) bJ) (bI (gM F8 (bc (am 0) bP)))⟩
def xu{K:Zj}{vs:Za}{H:Hp}{Q:VK}{E:XK}(h:cT K vs H Q E):(pe K).1 { nx:=λ_ H'=>Q .non H',rt:=Q } (aX ["text"] vs) H:=cI (pe K).2 rfl h
abbrev kG(K:Zj):Sp:=fh K 2 tZ
def uh(K:Zj):{ t:TS // SS K t vn }:=⟨_,bi (cq (wC ((aJ rfl).p) (((gk (gf (am 1)) (iC (bD (aK 0) (bD (aK 1) iB)) (bq (bq fb))) gQ (a8 (E:=E0) (ah (aF 0) (ah (aF 1) ay)) (ao (ao (λ_ _ h=>aA h))))).e).p)) (aK 2)) (bI (Pi (SJ.cons ((HL (am 0)).p) (SJ.cons ((aJ rfl).p) (SJ.cons ((HL (am 2)).p) (SJ.nil)))) Str.empty))⟩
def Bl{K:Zj}{vs:Za}{H:Hp}{Q:VK}{E:XK}(h:kG K vs H Q E):(uh K).1 { nx:=λ_ H'=>Q .non H',rt:=Q } (aX ["y", "row", "stretches"] vs) H:=cI (uh K).2 rfl h
abbrev gU(K:Zj):Sp:=fh K 2 rE
def rP(K:Zj):{ t:TS // SS K t tI }:=⟨_,bi (dQ (d7 ((gM Od (bc (((gk (gf (am 1)) (aK 0) gQ (a8 (E:=E0) (ah (aF 0) ay) (ao (λ_ _ h=>aA h)))).e).p) bP)).p)) (bI (Nj (am 0) ((aJ rfl).p) ((gM oV (bc (am 1) bP)).p))) bJ) (bI (jd (am 0) ((aJ rfl).p)))⟩
def zy{K:Zj}{vs:Za}{H:Hp}{Q:VK}{E:XK}(h:gU K vs H Q E):(rP K).1 { nx:=λ_ H'=>Q .non H',rt:=Q } (aX ["row", "kinds"] vs) H:=cI (rP K).2 rfl h
abbrev dH(K:Zj):Sp:=zI K 1 eI
def nK(K:Zj)(E:XK):{ t:TS // SX K E t qS }:=⟨_,fG (fJ (Fx (iU (d7 ((gM xE (bc (am 0) (bc (SE.p (aJ rfl)) bP))).p))) (iU (d7 ((a8 (E:=E0) (ah (aF 0) ay) (ao (λ_ _ h=>aA h))).p)))) (dn (v:=(.str (Str.ofString "a whole number is written in one to sixty figures, perhaps with a - ahead")))) (cM))⟩
def wv{K:Zj}{vs:Za}{H:Hp}{Q:VK}{E:XK}(h:dH K vs H Q E):(nK K E).1 { nx:=λ_ H'=>Q .non H',rt:=Q } (aX ["text"] vs) H:=h9 (nK K E).2 rfl h
abbrev eA(K:Zj):Sp:=fh K 2 me
def ml(K:Zj):{ t:TS // SS K t mM }:=⟨_,bi (cq (jd (am 1) ((aJ rfl).p)) (aK 2)) (bI (lw (ah (aF 0) (ah (a8 (E:=E0) (ah (aI cA (am 2) ((aJ rfl).p)) ay) (ao (λ_ _ h=>aA h))) (ah (a8 (E:=E0) (ah (aI cA (am 2) ((Bs um ((aJ rfl).p)).p)) ay) (ao (λ_ _ h=>aA h))) ay)))))⟩
def uF{K:Zj}{vs:Za}{H:Hp}{Q:VK}{E:XK}(h:eA K vs H Q E):(ml K).1 { nx:=λ_ H'=>Q .non H',rt:=Q } (aX ["y", "text", "ends"] vs) H:=cI (ml K).2 rfl h
abbrev oG(K:Zj):Sp:=fh K 1 DP
def DZ(K:Zj):{ t:TS // SS K t F0 }:=⟨_,bi (dQ (aS (SE.p (aI (bQ false) (am 0) ((lw ay).p)))) (bI (aJ rfl)) bJ) (bI (wC ((aJ rfl).p) (((gk (gf (am 0)) (iC (bD (aK 0) (bD (aK 1) iB)) (bq (bq fb))) gQ (a8 (E:=E0) (ah (aF 0) (ah (aF 1) ay)) (ao (ao (λ_ _ h=>aA h))))).e).p)))⟩
def Km{K:Zj}{vs:Za}{H:Hp}{Q:VK}{E:XK}(h:oG K vs H Q E):(DZ K).1 { nx:=λ_ H'=>Q .non H',rt:=Q } (aX ["picture"] vs) H:=cI (DZ K).2 rfl h
abbrev gy(K:Zj):Sp:=fh K 1 t5
def ui(K:Zj):{ t:TS // SS K t vo }:=⟨_,bi (dQ (iU (d7 ((gM xE (bc (am 0) (bc (SE.p (aJ rfl)) bP))).p))) (cF (t:=cw)) bJ) (bi (cq (aI cA ((oA (am 0) ((aJ rfl).p)).p) ((aJ rfl).p)) (aK 1)) (bi (dQ (Kw (D8 (am 1))) (cF (t:=cw)) bJ) (bi (cq (a8 (E:=E0) (ah (aF 0) (ah (dG (am 1)) ay)) (ao (ao (λ_ _ h=>aA h)))) (aK 2)) (bi (dQ (aS (SE.p (aI (bQ true) ((gM oV (bc (am 2) bP)).p) ((aI eP ((aJ rfl).p) ((gM oV (bc ((dG (am 1)).p) bP)).p)).p)))) (cF (t:=cw)) bJ) (bi (HK (GM (dG (am 1)) (wD (am 2) (iQ ((aJ rfl).p)) (et))) (iC (bD (aK 3) (bD (aK 4) iB)) (bq (bq fb))) (dQ (wB (iU (d7 ((a8 (E:=E0) (ah (aF 3) ay) (ao (λ_ _ h=>aA h))).p))) (iU (d7 ((a8 (E:=E0) (ah (aF 4) ay) (ao (λ_ _ h=>aA h))).p)))) (cF (t:=cw)) bJ)) (bI (aF 2)))))))⟩
def Bm{K:Zj}{vs:Za}{H:Hp}{Q:VK}{E:XK}(h:gy K vs H Q E):(ui K).1 { nx:=λ_ H'=>Q .non H',rt:=Q } (aX ["row", "first", "words", "kind", "word"] vs) H:=cI (ui K).2 rfl h
abbrev jg(K:Zj):Sp:=zI K 1 uk
def rM(K:Zj)(E:XK):{ t:TS // SX K E t vq }:=⟨_,fG (fJ (aS (SE.p (aI M5 ((a8 (E:=E0) (ah (aF 0) ay) (ao (λ_ _ h=>aA h))).p) ((aJ rfl).p)))) (dn (v:=(.str (Str.ofString "a picture of more than a thousand cells is not told cell by cell")))) (cM))⟩
def zu{K:Zj}{vs:Za}{H:Hp}{Q:VK}{E:XK}(h:jg K vs H Q E):(rM K E).1 { nx:=λ_ H'=>Q .non H',rt:=Q } (aX ["picture", "cells", "y", "a", "b"] vs) H:=h9 (rM K E).2 rfl h
abbrev fF(K:Zj):Sp:=zI K 2 mx
def lv(K:Zj)(E:XK):{ t:TS // SX K E t mS }:=⟨_,cN (ly (cq (jd (am 1) ((aJ rfl).p)) (aK 2))) (qH (KO (BA (aF 0) (Nz (dJ (ah (aI cA (am 2) ((aJ rfl).p)) ay) (ao (λ_ _ h=>aA h))) (a8 (E:=E0) (ah (aI cA (am 2) ((aJ rfl).p)) ay) (ao (λ_ _ h=>aA h))) (sf (tr:=eV) (dJ (ah (aI cA (am 2) ((Bs um ((aJ rfl).p)).p)) ay) (ao (λ_ _ h=>aA h))))))))⟩
def sX{K:Zj}{vs:Za}{H:Hp}{Q:VK}{E:XK}(h:fF K vs H Q E):(lv K E).1 { nx:=λ_ H'=>Q .non H',rt:=Q } (aX ["y", "text", "ends"] vs) H:=h9 (lv K E).2 rfl h
abbrev jh(K:Zj):Sp:=zI K 1 ul
def rN(K:Zj)(E:XK):{ t:TS // SX K E t vt }:=⟨_,cN (fJ (iU (d7 ((gM xE (bc (am 0) (bc (SE.p (aJ rfl)) bP))).p))) (dn (v:=(.str (Str.ofString "a row is a text")))) (cM)) (cN (ly (cq (aI cA ((oA (am 0) ((aJ rfl).p)).p) ((aJ rfl).p)) (aK 1))) (cN (fJ (Kw (D8 (am 1))) (dn (v:=(.str (Str.ofString "a row begins with one of the desk's words")))) (cM)) (cN (ly (cq (a8 (E:=E0) (ah (aF 0) (ah (dG (am 1)) ay)) (ao (ao (λ_ _ h=>aA h)))) (aK 2))) (cN (fJ (aS (SE.p (aI (bQ true) ((gM oV (bc (am 2) bP)).p) ((aI eP ((aJ rfl).p) ((gM oV (bc ((dG (am 1)).p) bP)).p)).p)))) (dn (v:=(.str (Str.ofString "the row has too many words or too few")))) (cM)) (fG (KI (GM (dG (am 1)) (wD (am 2) (iQ ((aJ rfl).p)) (et))) (iC (bD (aK 3) (bD (aK 4) iB)) (bq (bq fb))) (fJ (wB (iU (d7 ((a8 (E:=E0) (ah (aF 3) ay) (ao (λ_ _ h=>aA h))).p))) (iU (d7 ((a8 (E:=E0) (ah (aF 4) ay) (ao (λ_ _ h=>aA h))).p)))) (dn (v:=(.str (Str.ofString "a name is one to eight small letters")))) (cM))))))))⟩
def zv{K:Zj}{vs:Za}{H:Hp}{Q:VK}{E:XK}(h:jh K vs H Q E):(rN K E).1 { nx:=λ_ H'=>Q .non H',rt:=Q } (aX ["row", "first", "words", "kind", "word"] vs) H:=h9 (rN K E).2 rfl h
abbrev dm(K:Zj):Sp:=fh K 1 kg
def kh(K:Zj):{ t:TS // SS K t kW }:=⟨_,bi (jW (cS ay)) (bi (HJ (AA ((gk (gf ((jd (am 0) ((aJ rfl).p)).p)) (aK 0) gQ (oA (am 0) ((aJ rfl).p))).e)) (iC (bD (aK 2) (bD (aK 3) (bD (aK 4) iB))) (bq (bq (bq fb)))) (bi (cq (a8 (E:=E0) (ah (aF 2) ay) (ao (λ_ _ h=>aA h))) (aK 5)) (HI (wf 1) ((gk (gf ((jd (am 4) ((aJ rfl).p)).p)) (aK 0) gQ (a8 (E:=E0) (ah (aF 1) (ah (aF 0) ay)) (ao (ao (λ_ _ h=>aA h))))).e)))) (Nh 1))⟩
def rS{K:Zj}{vs:Za}{H:Hp}{Q:VK}{E:XK}(h:dm K vs H Q E):(kh K).1 { nx:=λ_ H'=>Q .non H',rt:=Q } (aX ["text", "stretches", "head", "colon", "tail", "y"] vs) H:=cI (kh K).2 rfl h
abbrev vb(K:Zj):Sp:=fh K 2 DQ
def D0(K:Zj):{ t:TS // SS K t F2 }:=⟨_,bi (dQ (aS (SE.p (aI (bQ false) (am 0) ((aJ rfl).p)))) (bI (a8 (E:=E0) (ah (aI cA (am 1) ((aJ rfl).p)) ay) (ao (λ_ _ h=>aA h)))) bJ) (bi (dQ (aS (SE.p (aI (bQ false) (am 0) ((aJ rfl).p)))) (cF (t:=cw)) bJ) (bi (dQ (aS (SE.p (aI (bQ false) (am 0) ((aJ rfl).p)))) (cF (t:=cw)) bJ) (bi (dQ (aS (SE.p (aI (bQ false) (am 0) ((aJ rfl).p)))) (cF (t:=cw)) bJ) (bi (dQ (aS (SE.p (aI (bQ false) (am 0) ((aJ rfl).p)))) (bI (a8 (E:=E0) (ah (aI (bQ false) ((aI cA (am 1) ((aJ rfl).p)).p) ((aI cA (am 1) ((aJ rfl).p)).p)) ay) (ao (λ_ _ h=>aA h)))) bJ) (cF (t:=cw))))))⟩
def Kn{K:Zj}{vs:Za}{H:Hp}{Q:VK}{E:XK}(h:vb K vs H Q E):(D0 K).1 { nx:=λ_ H'=>Q .non H',rt:=Q } (aX ["word", "things"] vs) H:=cI (D0 K).2 rfl h
abbrev ef(K:Zj):Sp:=zI K 1 kn
def jU(K:Zj)(E:XK):{ t:TS // SX K E t k6 }:=⟨_,cN (ly (jW (cS ay))) (fG (Ny (AA ((gk (gf ((jd (am 0) ((aJ rfl).p)).p)) (aK 0) gQ (oA (am 0) ((aJ rfl).p))).e)) (iC (bD (aK 2) (bD (aK 3) (bD (aK 4) iB))) (bq (bq (bq fb)))) (cN (yv (tz (g:=dA 5) (dJ (ah (aF 2) ay) (ao (λ_ _ h=>aA h)))) (cq (a8 (E:=E0) (ah (aF 2) ay) (ao (λ_ _ h=>aA h))) (aK 5))) (yv (zJ (KM (i:=1) (r:=rExtM) (tr:=eV) (yw (gf ((jd (am 4) ((aJ rfl).p)).p)) (aK 0) gQ (dJ (ah (aF 1) (ah (aF 0) ay)) (ao (ao (λ_ _ h=>aA h)))) (a8 (E:=E0) (ah (aF 1) (ah (aF 0) ay)) (ao (ao (λ_ _ h=>aA h))))))) (HI (wf 1) ((gk (gf ((jd (am 4) ((aJ rfl).p)).p)) (aK 0) gQ (a8 (E:=E0) (ah (aF 1) (ah (aF 0) ay)) (ao (ao (λ_ _ h=>aA h))))).e))))))⟩
def qz{K:Zj}{vs:Za}{H:Hp}{Q:VK}{E:XK}(h:ef K vs H Q E):(jU K E).1 { nx:=λ_ H'=>Q .non H',rt:=Q } (aX ["text", "stretches", "head", "colon", "tail", "y"] vs) H:=h9 (jU K E).2 rfl h
abbrev kx(K:Zj):Sp:=zI K 2 wt
def ua(K:Zj)(E:XK):{ t:TS // SX K E t xA }:=⟨_,fG (tz (g:=dA 2) (NA (r:=Lk) (tr:=eV) (Ig (js:=[none]) (g:=dA 0) (tt:=GC) (te:=FH (cj (j4 0) (cj (tC (.bl true)) (eV)))) (dJ (ah (aF 0) ay) (ao (λ_ _ h=>aA h))))))⟩
def Be{K:Zj}{vs:Za}{H:Hp}{Q:VK}{E:XK}(h:kx K vs H Q E):(ua K E).1 { nx:=λ_ H'=>Q .non H',rt:=Q } (aX ["picture", "ends", "kept", "taken", "taken_before"] vs) H:=h9 (ua K E).2 rfl h
abbrev se(K:Zj):Sp:=fh K 1 DN
def DW(K:Zj):{ t:TS // SS K t FZ }:=⟨_,bi (dQ (iU (d7 ((gM xE (bc (am 0) (bc (SE.p (aJ rfl)) bP))).p))) (cF (t:=cw)) bJ) (bi (dQ (aS (SE.p (aI (bQ false) (am 0) ((aJ rfl).p)))) (bI (lw ay)) bJ) (bi (cq (a8 (E:=E0) (ah (a8 (E:=E0) (ah (aF 0) ay) (ao (λ_ _ h=>aA h))) ay) (ao (λ_ _ h=>aA h))) (aK 1)) (bi (dQ (aS (SE.p (aI (bQ true) ((a8 (E:=E0) (ah (aF 1) ay) (ao (λ_ _ h=>aA h))).p) (am 0)))) (cF (t:=cw)) bJ) (bI (aF 1)))))⟩
def Kl{K:Zj}{vs:Za}{H:Hp}{Q:VK}{E:XK}(h:se K vs H Q E):(DW K).1 { nx:=λ_ H'=>Q .non H',rt:=Q } (aX ["text", "picture"] vs) H:=cI (DW K).2 rfl h
abbrev r9(K:Zj):Sp:=zI K 2 D5
def A4(K:Zj)(E:XK):{ t:TS // SX K E t F3 }:=⟨_,cN (ly (dQ (aS (SE.p (aI (bQ false) (am 0) ((aJ rfl).p)))) (bI (aI cA (am 1) ((aJ rfl).p))) bJ)) (fG (fJ (aS (SE.p (aI (bQ false) (am 0) ((aJ rfl).p)))) (qH (KN (r:=O1 K) (tb:=tC (.int 0)) (FC (dv:=[.bl true]) (dd:=[.bl true]) (ah (aI cA (am 1) ((aJ rfl).p)) ay) (ao (λ_ _ h=>aA h)) (λS=>.cons (Zu.2 rfl) .nil)))) (cM)))⟩
def HD{K:Zj}{vs:Za}{H:Hp}{Q:VK}{E:XK}(h:r9 K vs H Q E):(A4 K E).1 { nx:=λ_ H'=>Q .non H',rt:=Q } (aX ["word", "things"] vs) H:=h9 (A4 K E).2 rfl h
abbrev nW(K:Zj):Sp:=zI K 1 zo
def A5(K:Zj)(E:XK):{ t:TS // SX K E t F4 }:=⟨_,cN (fJ (iU (d7 ((gM xE (bc (am 0) (bc (SE.p (aJ rfl)) bP))).p))) (dn (v:=(.str (Str.ofString "a picture is read from a text alone")))) (cM)) (cN (ly (dQ (aS (SE.p (aI (bQ false) (am 0) ((aJ rfl).p)))) (bI (lw ay)) bJ)) (cN (yv (tz (g:=dA 1) (KL (sp:=eK K) (dvs:=[]) (E':=E0) (tr:=eV) (dJ (ah (aF 0) ay) (ao (λ_ _ h=>aA h))))) (cq (a8 (E:=E0) (ah (a8 (E:=E0) (ah (aF 0) ay) (ao (λ_ _ h=>aA h))) ay) (ao (λ_ _ h=>aA h))) (aK 1))) (fG (fJ (aS (SE.p (aI (bQ true) ((a8 (E:=E0) (ah (aF 1) ay) (ao (λ_ _ h=>aA h))).p) (am 0)))) (dn (v:=(.str (Str.ofString "the text is not the text of a picture")))) (cM)))))⟩
def HE{K:Zj}{vs:Za}{H:Hp}{Q:VK}{E:XK}(h:nW K vs H Q E):(A5 K E).1 { nx:=λ_ H'=>Q .non H',rt:=Q } (aX ["text", "picture"] vs) H:=h9 (A5 K E).2 rfl h
abbrev eJ(K:Zj):Sp:=fh K 3 oY
def o9(K:Zj):{ t:TS // SS K t qO }:=⟨_,bi (dQ (aS (SE.p (aI (bQ false) (am 1) ((aJ rfl).p)))) (bI (aF 2)) bJ) (bi (dQ (aS (SE.p (aI (bQ false) (am 1) ((aJ rfl).p)))) (bI (a8 (E:=E0) (ah (aF 2) ay) (ao (λ_ _ h=>aA h)))) bJ) (bi (dQ (aS (SE.p (aI (bQ false) (am 1) ((aJ rfl).p)))) (cF (t:=cw)) bJ) (bi (dQ (Kw (Br (aF 2) (uo (aF 0)))) (cF (t:=cw)) bJ) (bI (Pg (uo (aF 0)) (aF 2))))))⟩
def xq{K:Zj}{vs:Za}{H:Hp}{Q:VK}{E:XK}(h:eJ K vs H Q E):(o9 K).1 { nx:=λ_ H'=>Q .non H',rt:=Q } (aX ["self", "kind", "said"] vs) H:=cI (o9 K).2 rfl h
abbrev fE(K:Zj):Sp:=zI K 1 mv
def lu(K:Zj)(E:XK):{ t:TS // SX K E t mR }:=⟨_,cN (ly (cq (jd (am 0) ((aJ rfl).p)) (aK 1))) (cN (fJ (wB (aS (SE.p (aI (bQ false) ((aI cA (am 1) ((aJ rfl).p)).p) ((aJ rfl).p)))) (aS (SE.p (aI (bQ false) ((gM oV (bc (am 1) bP)).p) ((aJ rfl).p))))) (cN (yv (tz (g:=dA 2) (yw (gf ((wD (am 1) (iQ ((aJ rfl).p)) (et)).p)) (aK 0) gQ (dJ (ah (aF 0) ay) (ao (λ_ _ h=>aA h))) (a8 (E:=E0) (ah (aF 0) ay) (ao (λ_ _ h=>aA h))))) (cq ((gk (gf ((wD (am 1) (iQ ((aJ rfl).p)) (et)).p)) (aK 0) gQ (a8 (E:=E0) (ah (aF 0) ay) (ao (λ_ _ h=>aA h)))).e) (aK 2))) (qH (wQ (M := "Box") (ah (aI cA (am 2) ((aJ rfl).p)) (ah (aI cA (am 2) ((aJ rfl).p)) (ah (aI cA (am 2) ((aJ rfl).p)) (ah (aI cA (am 2) ((aJ rfl).p)) ay)))) (ao (ao (ao (ao (λ_ _ h=>aA h)))))))) (cM)) (cN (fJ (wB (aS (SE.p (aI (bQ false) ((aI cA (am 1) ((aJ rfl).p)).p) ((aJ rfl).p)))) (aS (SE.p (aI (bQ false) ((gM oV (bc (am 1) bP)).p) ((aJ rfl).p))))) (qH (Ih (wR (N := "Cross") (sp:=cY K) (sf (tr:=eV) (dJ (ah (aI cA (am 1) ((aJ rfl).p)) ay) (ao (λ_ _ h=>aA h))))) (wQ (M := "Cross") (ah (a8 (E:=E0) (ah (aI cA (am 1) ((aJ rfl).p)) ay) (ao (λ_ _ h=>aA h))) ay) (ao (λ_ _ h=>aA h))))) (cM)) (cN (fJ (aS (SE.p (aI (bQ false) ((aI cA (am 1) ((aJ rfl).p)).p) ((aJ rfl).p)))) (qH (Ih (wR (N := "Shape") (sp:=cZ K) (sf (tr:=eV) (dJ (ah (aI cA ((oA (am 0) ((aJ rfl).p)).p) ((aJ rfl).p)) ay) (ao (λ_ _ h=>aA h))))) (wQ (M := "Shape") (ah (a8 (E:=E0) (ah (aI cA ((oA (am 0) ((aJ rfl).p)).p) ((aJ rfl).p)) ay) (ao (λ_ _ h=>aA h))) ay) (ao (λ_ _ h=>aA h))))) (cM)) (dn (v:=(.str (Str.ofString "a form is a box of four numbers, a cross of one, or the cells of a text")))))))⟩
def sW{K:Zj}{vs:Za}{H:Hp}{Q:VK}{E:XK}(h:fE K vs H Q E):(lu K E).1 { nx:=λ_ H'=>Q .non H',rt:=Q } (aX ["text", "words", "numbers"] vs) H:=h9 (lu K E).2 rfl h
abbrev je(K:Zj):Sp:=NQ K 2 bK
def rK(K:Zj):{ t:TS // SD K 0 t vw }:=⟨_,fO (Bw (i:=0) (cq (a8 (E:=E0) (ah (aF 1) ay) (ao (λ_ _ h=>aA h))) (aK 2))) (fO (Bw (i:=0) (cq (aI cA (am 2) ((aJ rfl).p)) (aK 3))) (fO (Np (j:=4) (Gr (i:=0) (zD (Dz (dG (am 3)) (wD (am 2) (iQ ((aJ rfl).p)) (et))) (iC (bD (aK 0) (bD (aK 1) iB)) (bq (bq fb))) gQ (nP (aF 2) (ah (aF 0) (ah (aF 1) ay)) (ao (ao (λ_ _ h=>aA h))))))) (fO (nU (tQ (i:=0) (aS (SE.p (aI (bQ false) (am 3) ((aJ rfl).p))))) (nV (Dt (i:=0) (wC ((aJ rfl).p) (((Bq yO (bc ((uo (aF 0)).p) bP)).e).p)))) (ma)) (fO (nU (tQ (i:=0) (aS (SE.p (aI (bQ false) (am 3) ((aJ rfl).p))))) (r8 (fW (i:=0) (mn := "take_back") rfl ay (λ_ _ h=>aA h))) (nU (tQ (i:=0) (aS (SE.p (aI (bQ false) (am 3) ((aJ rfl).p))))) (r8 (fW (i:=0) (mn := "do") rfl (ah (aI cA (am 2) ((aJ rfl).p)) (ah (aJ rfl) ay)) (ao (ao (λ_ _ h=>aA h))))) (nU (tQ (i:=0) (aS (SE.p (aI D7 ((aJ rfl).p) ((dG (am 3)).p))))) (r8 (fW (i:=0) (mn := "do") rfl (ah (aI cA (am 2) ((aJ rfl).p)) (ah (a8 (E:=E0) (ah (aF 3) (ah (wD (am 4) (iQ ((aJ rfl).p)) (et)) ay)) (ao (ao (λ_ _ h=>aA h)))) ay)) (ao (ao (λ_ _ h=>aA h))))) (Bv (i:=0) (t:=cw))))) (nV (xR (i:=0) (aJ rfl)))))))⟩
def zq{K:Zj}{vs:Za}{H:Hp}{Q:VK}{E:XK}(h:je K vs H Q E):(rK K).1 { nx:=λ_ H'=>Q .non H',rt:=Q } (aX ["self", "row", "words", "word", "things"] vs) H:=zw (rK K).2 rfl h
abbrev iI(K:Zj):Sp:=fh K 2 tW
def ub(K:Zj):{ t:TS // SS K t vk }:=⟨_,bi (cq (a8 (E:=E0) (ah (aF 1) ay) (ao (λ_ _ h=>aA h))) (aK 2)) (bi (cq (aI cA (am 2) ((aJ rfl).p)) (aK 3)) (bi (cq ((zD (Dz (dG (am 3)) (wD (am 2) (iQ ((aJ rfl).p)) (et))) (iC (bD (aK 0) (bD (aK 1) iB)) (bq (bq fb))) gQ (nP (aF 2) (ah (aF 0) (ah (aF 1) ay)) (ao (ao (λ_ _ h=>aA h))))).e) (aK 4)) (bi (dQ (aS (SE.p (aI (bQ false) (am 3) ((aJ rfl).p)))) (bI (wC ((aJ rfl).p) (((Bq yO (bc ((uo (aF 0)).p) bP)).e).p))) bJ) (bi (dQ (aS (SE.p (aI (bQ false) (am 3) ((aJ rfl).p)))) (cF (t:=cw)) (dQ (aS (SE.p (aI (bQ false) (am 3) ((aJ rfl).p)))) (cF (t:=cw)) (dQ (aS (SE.p (aI D7 ((aJ rfl).p) ((dG (am 3)).p)))) (cF (t:=cw)) (bI (a8 (E:=E0) (ah (aF 3) (ah (aF 4) ay)) (ao (ao (λ_ _ h=>aA h)))))))) (bI (aJ rfl))))))⟩
def Bf{K:Zj}{vs:Za}{H:Hp}{Q:VK}{E:XK}(h:iI K vs H Q E):(ub K).1 { nx:=λ_ H'=>Q .non H',rt:=Q } (aX ["self", "row", "words", "word", "things"] vs) H:=cI (ub K).2 rfl h
abbrev im(K:Zj):Sp:=zI K 1 rR
def o8(K:Zj)(E:XK):{ t:TS // SX K E t tK }:=⟨_,KJ (L0:=["NoForm"]) (tu:=cw) (ah (aF 0) ay) (ao (λ_ _ h=>aA h)) (by unfold Ag;decide) rfl⟩
def xp{K:Zj}{vs:Za}{H:Hp}{Q:VK}{E:XK}(h:im K vs H Q E):(o8 K E).1 { nx:=λ_ H'=>Q .non H',rt:=Q } (aX ["text"] vs) H:=h9 (o8 K E).2 rfl h
abbrev sd(K:Zj):Sp:=fh K 1 AM
def A6(K:Zj):{ t:TS // SS K t Dj }:=⟨_,Ng (SF.t (cS (ah (nP (aF 0) (ah (aJ rfl) ay) (ao (λ_ _ h=>aA h))) (ah (nP (aF 0) (ah (aJ rfl) ay) (ao (λ_ _ h=>aA h))) (ah (nP (aF 0) (ah (aJ rfl) ay) (ao (λ_ _ h=>aA h))) ay)))))⟩
def HF{K:Zj}{vs:Za}{H:Hp}{Q:VK}{E:XK}(h:sd K vs H Q E):(A6 K).1 { nx:=λ_ H'=>Q .non H',rt:=Q } (aX ["_law_desk"] vs) H:=cI (A6 K).2 rfl h
abbrev gR(K:Zj):Sp:=zI K 3 pf
def nJ(K:Zj)(E:XK):{ t:TS // SX K E t qR }:=⟨_,cN (ly (dQ (aS (SE.p (aI (bQ false) (am 1) ((aJ rfl).p)))) (bI (aF 2)) bJ)) (cN (fJ (aS (SE.p (aI (bQ false) (am 1) ((aJ rfl).p)))) (qH (dJ (ah (aF 2) ay) (ao (λ_ _ h=>aA h)))) (cM)) (cN (fJ (aS (SE.p (aI (bQ false) (am 1) ((aJ rfl).p)))) (qH (dJ (ah (aF 2) ay) (ao (λ_ _ h=>aA h)))) (cM)) (fG (fJ (Kw (Br (aF 2) (uo (aF 0)))) (dn (v:=(.str (Str.ofString "no picture stands by that name")))) (cM)))))⟩
def wu{K:Zj}{vs:Za}{H:Hp}{Q:VK}{E:XK}(h:gR K vs H Q E):(nJ K E).1 { nx:=λ_ H'=>Q .non H',rt:=Q } (aX ["self", "kind", "said"] vs) H:=h9 (nJ K E).2 rfl h
abbrev jf(K:Zj):Sp:=zI K 2 uj
def rL(K:Zj)(E:XK):{ t:TS // SX K E t vp }:=⟨_,cN (yv (tz (g:=dA 2) (dJ (ah (aF 1) ay) (ao (λ_ _ h=>aA h)))) (cq (a8 (E:=E0) (ah (aF 1) ay) (ao (λ_ _ h=>aA h))) (aK 2))) (cN (ly (cq (aI cA (am 2) ((aJ rfl).p)) (aK 3))) (cN (yv (tz (g:=dA 4) (FD (Dz (dG (am 3)) (wD (am 2) (iQ ((aJ rfl).p)) (et))) (iC (bD (aK 0) (bD (aK 1) iB)) (bq (bq fb))) gQ (BB (m := "meant") (aF 2) (ah (aF 0) (ah (aF 1) ay)) (ao (ao (λ_ _ h=>aA h)))) (nP (aF 2) (ah (aF 0) (ah (aF 1) ay)) (ao (ao (λ_ _ h=>aA h)))))) (cq ((zD (Dz (dG (am 3)) (wD (am 2) (iQ ((aJ rfl).p)) (et))) (iC (bD (aK 0) (bD (aK 1) iB)) (bq (bq fb))) gQ (nP (aF 2) (ah (aF 0) (ah (aF 1) ay)) (ao (ao (λ_ _ h=>aA h))))).e) (aK 4))) (cN (ly (dQ (aS (SE.p (aI (bQ false) (am 3) ((aJ rfl).p)))) (bI (wC ((aJ rfl).p) (((Bq yO (bc ((uo (aF 0)).p) bP)).e).p))) bJ)) (fG (fJ (aS (SE.p (aI (bQ false) (am 3) ((aJ rfl).p)))) (zJ (BB (m := "take_back") (aF 0) ay (λ_ _ h=>aA h))) (fJ (aS (SE.p (aI (bQ false) (am 3) ((aJ rfl).p)))) (ly (cF (t:=cw))) (fJ (aS (SE.p (aI D7 ((aJ rfl).p) ((dG (am 3)).p)))) (zJ (FE (m := "do") (sp:=gw K) (aF 0) (BA (aI cA (am 2) ((aJ rfl).p)) (sf (tr:=eV) (dJ (ah (aF 3) (ah (wD (am 4) (iQ ((aJ rfl).p)) (et)) ay)) (ao (ao (λ_ _ h=>aA h)))))))) (ly (cF (t:=cw))))))))))⟩
def zt{K:Zj}{vs:Za}{H:Hp}{Q:VK}{E:XK}(h:jf K vs H Q E):(rL K E).1 { nx:=λ_ H'=>Q .non H',rt:=Q } (aX ["self", "row", "words", "word", "things"] vs) H:=h9 (rL K E).2 rfl h
abbrev iJ(K:Zj):Sp:=fh K 2 tX
def ug(K:Zj):{ t:TS // SS K t vm }:=⟨_,bi (cq (aJ rfl) (aK 2)) (bi (Nl (L:=PN) (i:=3) (l:=[(2,[mX,lc,lf,k9,iy,k8,jB,fT])]) (aF 0) (ah (aF 1) ay) (ao (λ_ _ h=>aA h)) (cF (t:=cw))) (bi (dQ (Fx (aS (SE.p (aI LA (am 2) ((aJ rfl).p)))) (Fx (aS (SE.p (aI (bQ true) ((HH (am 2)).p) ((aJ rfl).p)))) (iU (d7 ((aI cA (am 2) ((aJ rfl).p)).p))))) (bI (aJ rfl)) bJ) (bI (HN (am 2) ((aJ rfl).p)))))⟩
def Bk{K:Zj}{vs:Za}{H:Hp}{Q:VK}{E:XK}(h:iJ K vs H Q E):(ug K).1 { nx:=λ_ H'=>Q .non H',rt:=Q } (aX ["_law_desk", "_law_row", "_law_caught", "e"] vs) H:=cI (ug K).2 rfl h
abbrev u9(K:Zj):Sp:=fh K 3 uR
def DU(K:Zj):{ t:TS // SS K t su }:=⟨_,bi (cq (aI D6 (am 1) ((aJ rfl).p)) (aK 3)) (bi (dQ (aS (SE.p (aI (bQ false) ((aI g7 (am 1) ((aJ rfl).p)).p) ((aJ rfl).p)))) (bI (aI (bQ false) ((a8 (E:=E0) (ah (aF 0) (ah (a8 (E:=E0) (ah (aF 3) ay) (ao (λ_ _ h=>aA h))) ay)) (ao (ao (λ_ _ h=>aA h)))).p) ((aJ rfl).p))) bJ) (bi (dQ (aS (SE.p (aI (bQ false) ((aI g7 (am 1) ((aJ rfl).p)).p) ((aJ rfl).p)))) (bI (aI (bQ false) ((a8 (E:=E0) (ah (aF 0) (ah (a8 (E:=E0) (ah (aF 3) ay) (ao (λ_ _ h=>aA h))) ay)) (ao (ao (λ_ _ h=>aA h)))).p) ((aJ rfl).p))) bJ) (bi (dQ (aS (SE.p (aI (bQ false) ((aI g7 (am 1) ((aJ rfl).p)).p) ((aJ rfl).p)))) (bI (aI (bQ false) ((a8 (E:=E0) (ah (aF 0) (ah (a8 (E:=E0) (ah (aF 3) ay) (ao (λ_ _ h=>aA h))) ay)) (ao (ao (λ_ _ h=>aA h)))).p) ((aJ rfl).p))) bJ) (bi (dQ (aS (SE.p (aI (bQ false) ((aI g7 (am 1) ((aJ rfl).p)).p) ((aJ rfl).p)))) (bI (aI (bQ false) ((a8 (E:=E0) (ah (aF 0) (ah (a8 (E:=E0) (ah (aF 3) ay) (ao (λ_ _ h=>aA h))) ay)) (ao (ao (λ_ _ h=>aA h)))).p) ((aJ rfl).p))) bJ) (bi (dQ (wB (aS (SE.p (aI (bQ false) ((aI g7 (am 1) ((aJ rfl).p)).p) ((aJ rfl).p)))) (aS (SE.p (aI M5 (am 2) ((aJ rfl).p))))) (bI (aI (bQ false) ((a8 (E:=E0) (ah (aF 0) (ah (aI eP ((aI eP ((aJ rfl).p) ((aI cA (((cS (ah (aJ rfl) (ah (aJ rfl) ay))).e).p) ((aI g7 (am 3) ((aJ rfl).p)).p)).p)).p) ((aJ rfl).p)) ay)) (ao (ao (λ_ _ h=>aA h)))).p) ((aJ rfl).p))) bJ) (bI (aI (bQ false) ((nP (aF 0) (ah (aI eP ((aJ rfl).p) ((aI cA (((cS (ah (aJ rfl) (ah (aJ rfl) ay))).e).p) ((aI g7 (am 3) ((aJ rfl).p)).p)).p)) ay) (ao (λ_ _ h=>aA h))).p) ((aI cA (((cS (ah (aJ rfl) (ah (aJ rfl) ay))).e).p) ((aI g7 (am 3) ((aJ rfl).p)).p)).p))))))))⟩
def Ki{K:Zj}{vs:Za}{H:Hp}{Q:VK}{E:XK}(h:u9 K vs H Q E):(DU K).1 { nx:=λ_ H'=>Q .non H',rt:=Q } (aX ["_law_desk", "_law_cell", "_law_long", "_law_more"] vs) H:=cI (DU K).2 rfl h
abbrev wO(K:Zj):Sp:=fh K 1 zc
def Hy(K:Zj):{ t:TS // SS K t Dk }:=⟨_,Q1 (i:=1) (fO (nU (Aw (oh (i:=1) (aS (SE.p (aI (bQ true) ((a8 (E:=E0) (ah (aF 1) (ah (aJ rfl) ay)) (ao (ao (λ_ _ h=>aA h)))).p) ((aJ rfl).p))))) (Aw (oh (i:=1) (aS (SE.p (aI (bQ true) ((a8 (E:=E0) (ah (aF 1) (ah (aJ rfl) ay)) (ao (ao (λ_ _ h=>aA h)))).p) ((aJ rfl).p))))) (rc (vH (bQ true) (fW (i:=1) (mn := "say") rfl (ah (aJ rfl) ay) (ao (λ_ _ h=>aA h))) ((aJ rfl).p))))) (nV (xR (i:=1) (aJ rfl))) (ma)) (fO (Bw (i:=1) (cq (aI cA (((cS (ah (aJ rfl) (ah (aJ rfl) (ah (aI Pa ((aJ rfl).p) ((aJ rfl).p)) (ah (aI eP ((aJ rfl).p) ((aI g7 ((a8 (E:=E0) (ah (aF 0) (ah (aJ rfl) ay)) (ao (ao (λ_ _ h=>aA h)))).p) ((aJ rfl).p)).p)) ay))))).e).p) ((aI g7 ((a8 (E:=E0) (ah (aF 0) (ah (aJ rfl) ay)) (ao (ao (λ_ _ h=>aA h)))).p) ((aJ rfl).p)).p)) (aK 2))) (fO (Bw (i:=1) (cq (aI eP ((aJ rfl).p) ((gM Gc (bc ((aI eP ((aJ rfl).p) (am 2)).p) bP)).p)) (aK 3))) (fO (nU (Aw (rc (vH (bQ true) (fW (i:=1) (mn := "say") rfl (ah (aJ rfl) ay) (ao (λ_ _ h=>aA h))) ((aJ rfl).p))) (rc (vH (bQ true) (fW (i:=1) (mn := "say") rfl (ah (aI eP ((aJ rfl).p) (am 3)) ay) (ao (λ_ _ h=>aA h))) ((aJ rfl).p)))) (nV (xR (i:=1) (aJ rfl))) (ma)) (fO (Bw (i:=1) (cq ((cS (ah (aJ rfl) (ah (aJ rfl) (ah (aF 3) ay)))).e) (aK 4))) (fO (Nr (i:=1) (AA (wD (am 0) (et) (iQ ((aJ rfl).p)))) (aK 5) (fO (nU (oh (i:=1) (iU (d7 ((a8 (E:=E0) (ah (aF 1) (ah (aI D6 ((aI g7 ((aI O9 (am 5) ((aJ rfl).p)).p) ((aJ rfl).p)).p) ((aJ rfl).p)) (ah (aF 2) ay))) (ao (ao (ao (λ_ _ h=>aA h))))).p)))) (nV (xR (i:=1) (aJ rfl))) (ma)) (nU (oh (i:=1) (wB (aS (SE.p (aI (bQ false) ((aI g7 (am 5) ((aJ rfl).p)).p) ((aJ rfl).p)))) (aS (SE.p (aI (bQ true) ((a8 (E:=E0) (ah (aF 1) ay) (ao (λ_ _ h=>aA h))).p) (am 4)))))) (nV (xR (i:=1) (aJ rfl))) (ma)))) (fO (nU (Aw (oh (i:=1) (aS (SE.p (aI (bQ true) ((a8 (E:=E0) (ah (aF 1) ay) (ao (λ_ _ h=>aA h))).p) (am 4))))) (Aw (rc (vH (bQ true) (fW (i:=1) (mn := "say") rfl (ah (aJ rfl) ay) (ao (λ_ _ h=>aA h))) ((aJ rfl).p))) (rc (vH (bQ true) (fW (i:=1) (mn := "say") rfl (ah (aJ rfl) ay) (ao (λ_ _ h=>aA h))) ((aJ rfl).p))))) (nV (xR (i:=1) (aJ rfl))) (ma)) (nV (Gq (vH (bQ false) (fW (i:=1) (mn := "say") rfl (ah (aJ rfl) ay) (ao (λ_ _ h=>aA h))) ((aJ rfl).p)) (Gq (vH (bQ false) (fW (i:=1) (mn := "say") rfl (ah (aJ rfl) ay) (ao (λ_ _ h=>aA h))) ((aJ rfl).p)) (Dt (i:=1) (aI (bQ false) ((a8 (E:=E0) (ah (aF 1) (ah (aJ rfl) ay)) (ao (ao (λ_ _ h=>aA h)))).p) ((aJ rfl).p)))))))))))))⟩
def M8{K:Zj}{vs:Za}{H:Hp}{Q:VK}{E:XK}(h:wO K vs H Q E):(Hy K).1 { nx:=λ_ H'=>Q .non H',rt:=Q } (aX ["_law_script", "_law_desk", "_law_long", "_law_text", "_law_due", "_law_cell"] vs) H:=cI (Hy K).2 rfl h
def s(x:String):D:=.str (Str.ofString x)
def pA:D:=.tup [.tup [.int 0,.tup [.tup [.int 0,.int 2],.tup [.int 7,.int 7]]]]
def pB(n:Int):D:=.tup [.tup [.int 7,.tup [.tup [.int 4,.int n]]]]
def kA:Str:=Str.ofString "a"
def kB:Str:=Str.ofString "abcdefgh"
def s1:DS:=⟨[(kA,pA)],[.tup [.str kA,.non]]⟩
def s2(n:Int):DS:=⟨[(kA,pA),(kB,pB n)],[.tup [.str kA,.non],.tup [.str kB,.non]]⟩
def xQ:D->D->Zd:=dI λi j=>if 0<j then some (.int (i%j)) else none
def Dr:D->D->Zd:=dI λi j=>if 0<j/\j<1073741824 then some (.int (i/j)) else none
def Go:D->D->Zd:=dI λi j=>if -18446744073709551616<j/\j<18446744073709551616 then some (.int (i*j)) else if -18446744073709551616<i/\i<18446744073709551616 then some (.int (i*j)) else none
def Gp:D->D->Zd:=dI λi j=>if 0<=j/\j<=1000000/\i.natAbs<18446744073709551616 then some (.int (i^j.toNat)) else none
def y8{α:Type}{p:Prop}[h:Decidable p]{a b:α}:Ch p a b=if p then a else b:=by
 by_cases q:p
 ·rw[ol q,Uv q]
 ·unfold Ch;rw[Uu q,Uu q]
def nD:fv=xQ:=by unfold fv xQ;simp only[y8]
def Dv:vF=Dr:=by unfold vF Dr;simp only[y8]
def OQ:ET=Gp:=by unfold ET Gp;simp only[y8]
def OC:B9=Go:=by
 unfold B9 Go;congr 1
 funext i j
 rw[y8];by_cases q:-18446744073709551616<j/\j<18446744073709551616
 ·rw[Uv q,Uv (.inr q)]
 ·by_cases r:-18446744073709551616<i/\i<18446744073709551616
  ·rw[Uu q,Uv r,Uv (.inl r)]
  ·rw[Uu q,Uu r,Uu (λz=>z.elim r q)]
def L7(j:Int):XS:=bn (gW (bR (af (xC (.str (Str.ofString ""))) (af (xC (.str (Str.ofString " "))) (af (xC (.str (Str.ofString "names "))) (af (xC (.str (Str.ofString " names"))) (af (xC (.str (Str.ofString "names a"))) (af (xC (.str (Str.ofString "put"))) (af (xC (.str (Str.ofString "put a"))) (af (xC (.str (Str.ofString "put A nothing"))) (af (xC (.str (Str.ofString "put abcdefghi nothing"))) (af (xC (.str (Str.ofString "show"))) az))))))))))) 1) (bn (gW (kH (aq 1) (xL (bR (af (xC (.str (Str.ofString "put  a nothing"))) (af (xC (.str (Str.ofString "put a1 nothing"))) (af (xC (.str (Str.ofString "show "))) (af (xC (.str (Str.ofString "show a "))) (af (xC (.str (Str.ofString "show a b"))) (af (xC (.str (Str.ofString "show A"))) (af (xC (.str (Str.ofString "show a\n"))) az)))))))))) 1) (bn (wV 1 K0 (NH (xC (.str (Str.ofString "draw a"))))) (bn (gW (kH (aq 1) (xL (bR (af (xC (.str (Str.ofString "join a a"))) (af (xC (.str (Str.ofString "join a a a a"))) (af (xC (.str (Str.ofString "join a a "))) (af (xC (.str (Str.ofString "join a  a"))) (af (xC (.str (Str.ofString "join a a B"))) (af (xC (.str (Str.ofString "less a"))) (af (xC (.str (Str.ofString "either b b c d"))) az)))))))))) 1) (bn (gW (kH (aq 1) (xL (bR (af (xC (.str (Str.ofString "greater a a"))) (af (xC (.str (Str.ofString "greater a"))) (af (xC (.str (Str.ofString "greater a A box 0 0 0 0"))) (af (xC (.str (Str.ofString "opened 1 a cross 1"))) (af (xC (.str (Str.ofString "thin a"))) (af (xC (.str (Str.ofString "thin a a a"))) az))))))))) 1) (bn (gW (kH (aq 1) (xL (bR (af (xC (.str (Str.ofString "fill a"))) (af (xC (.str (Str.ofString "drop"))) (af (xC (.str (Str.ofString "drop a a"))) (af (xC (.str (Str.ofString "back a"))) (af (xC (.str (Str.ofString "back "))) (af (xC (.str (Str.ofString "same a"))) (af (xC (.str (Str.ofString "within a a a"))) (af (xC (.str (Str.ofString "count"))) (af (xC (.str (Str.ofString "pieces"))) az)))))))))))) 1) (bn (gW (kH (aq 1) (xL (bR (af (xC (.str (Str.ofString "holes"))) (af (xC (.str (Str.ofString "Put a nothing"))) (af (xC (.str (Str.ofString "common a z Z"))) (af (xC .non) (af (xC (.int 7)) (af (xC (.bl true)) (af (xL (bR (af (xC (.str (Str.ofString "names"))) az))) (af (qJ (af (xC (.str (Str.ofString "names"))) az)) az))))))))))) 1) (bn (gW (kH (aq 1) (xL (bR (af (xC (.str (Str.ofString "greater a A bad"))) (af (xC (.str (Str.ofString "closed B a cells"))) (af (xC (.str (Str.ofString "put A 0: 00"))) (af (xC (.str (Str.ofString "fill B b"))) az))))))) 1) (bW (aO eU (aq 1) (xC (.int j)))))))))))
def FQ(j:Int):Zd:=(kQ 2 (L7 j) [.int 0]).map O.d
def Fk(c:Int):ln [.int c]=FQ (c%52):=by
 unfold ln pV ss;rw[nD]
 kernel_rfl
def Jg(j:Int):XS:=bn (cn (xL (bR (af (xC (.str (Str.ofString "show b"))) (af (xC (.str (Str.ofString "count z"))) (af (xC (.str (Str.ofString "pieces ab"))) (af (xC (.str (Str.ofString "holes aa"))) (af (xC (.str (Str.ofString "drop b"))) (af (xC (.str (Str.ofString "same a b"))) (af (xC (.str (Str.ofString "same b a"))) (af (xC (.str (Str.ofString "within b b"))) (af (xC (.str (Str.ofString "thin b c"))) az))))))))))) (aE 1)) (bn (cn (aO b9 (aq 1) (xL (bR (af (xC (.str (Str.ofString "fill a b"))) (af (xC (.str (Str.ofString "join b b a"))) (af (xC (.str (Str.ofString "join b a b"))) (af (xC (.str (Str.ofString "common c a abcdefg"))) (af (xC (.str (Str.ofString "less a b b"))) (af (xC (.str (Str.ofString "either a z a"))) az))))))))) (aE 1)) (bn (cn (aO b9 (aq 1) (xL (bR (af (xC (.str (Str.ofString "greater a b cross 1"))) (af (xC (.str (Str.ofString "smaller a b bad"))) (af (xC (.str (Str.ofString "opened b b cells"))) (af (xC (.str (Str.ofString "closed b abcdefg box -1 0 0 0"))) az))))))) (aE 1)) (bW (aO eU (aO b9 (aq 1) (xL (bR (af (xC (.str (Str.ofString "join a b c"))) az)))) (xC (.int j))))))
def Df(j:Int):Zd:=(kQ 2 (Jg j) [.int 0]).map O.d
def Cv(c:Int):jL [.int c]=Df (c%20):=by
 unfold jL nw pq;rw[nD]
 kernel_rfl
def Jh(j:Int):XS:=bn (cn (xL (bR (af (xC (.str (Str.ofString "put a "))) (af (xC (.str (Str.ofString "put b 0"))) (af (xC (.str (Str.ofString "put a 0:0"))) (af (xC (.str (Str.ofString "put b 0: 1..1"))) (af (xC (.str (Str.ofString "put a nothing "))) (af (xC (.str (Str.ofString "put c  nothing"))) (af (xC (.str (Str.ofString "put a box 0 0 0 0"))) az))))))))) (aE 1)) (bW (aO eU (aO b9 (aq 1) (xL (bR (af (xC (.str (Str.ofString "put b 0: 0 1"))) (af (xC (.str (Str.ofString "put a 1: 0; 0: 0"))) (af (xC (.str (Str.ofString "put a 0: 00"))) az)))))) (xC (.int j))))
def Dg(j:Int):Zd:=(kQ 2 (Jh j) [.int 0]).map O.d
def Cw(c:Int):jM [.int c]=Dg (c%10):=by
 unfold jM ny pr;rw[nD]
 kernel_rfl
def vh:XS:=(bn (cn (xL (bR (af (xC (.str (Str.ofString ""))) (af (xC (.str (Str.ofString "box"))) (af (xC (.str (Str.ofString "box "))) (af (xC (.str (Str.ofString "box 1 1 1"))) (af (xC (.str (Str.ofString "box 1 1 1 1 1"))) (af (xC (.str (Str.ofString "box 1 1 1 -1"))) (af (xC (.str (Str.ofString "box -1 0 0 0"))) (af (xC (.str (Str.ofString "box 0 0 0 -0"))) (af (xC (.str (Str.ofString "cross"))) az))))))))))) (aE 2)) (bn (cn (aO b9 (aq 2) (xL (bR (af (xC (.str (Str.ofString "cross "))) (af (xC (.str (Str.ofString "cross -1"))) (af (xC (.str (Str.ofString "cross 1 1"))) (af (xC (.str (Str.ofString "cross 01"))) (af (xC (.str (Str.ofString "cells"))) (af (xC (.str (Str.ofString "cells "))) (af (xC (.str (Str.ofString "cells nothing"))) (af (xC (.str (Str.ofString "cells 0: 1..1"))) az))))))))))) (aE 2)) (bn (cn (aO b9 (aq 2) (xL (bR (af (xC (.str (Str.ofString "cells 0:0"))) (af (xC (.str (Str.ofString "cell 0: 0"))) (af (xC (.str (Str.ofString "Box 0 0 0 0"))) (af (xC (.str (Str.ofString "cross  1"))) (af (xC (.str (Str.ofString " cross 1"))) (af (xC (.str (Str.ofString "cross 1 "))) (af (xC (.str (Str.ofString "cross +1"))) (af (xC (.str (Str.ofString "0: 0"))) az))))))))))) (aE 2)) (bn (cn (aO b9 (aq 2) (xL (bR (af (aO b9 (aO b9 (xC (.str (Str.ofString "box 0 0 1"))) (aO (Aq) (xC (.str (Str.ofString "0"))) (xC (.int 60)))) (xC (.str (Str.ofString " 0")))) az)))) (aE 2)) (bW (aO b9 (aO b9 (aO b9 (aO b9 (aq 1) (xC (.str (Str.ofString " ")))) (aO eU (xL (bR (af (xC (.str (Str.ofString "b"))) (af (xC (.str (Str.ofString "a"))) az)))) (aO fv (aO vF (aq 0) (xC (.int 128))) (xC (.int 2))))) (xC (.str (Str.ofString " a ")))) (aO eU (aq 2) (aO fv (aq 0) (xC (.int 26))))))))))
def Jd(b j:Int):XS:=(bn (cn (xL (bR (af (xC (.str (Str.ofString ""))) (af (xC (.str (Str.ofString "box"))) (af (xC (.str (Str.ofString "box "))) (af (xC (.str (Str.ofString "box 1 1 1"))) (af (xC (.str (Str.ofString "box 1 1 1 1 1"))) (af (xC (.str (Str.ofString "box 1 1 1 -1"))) (af (xC (.str (Str.ofString "box -1 0 0 0"))) (af (xC (.str (Str.ofString "box 0 0 0 -0"))) (af (xC (.str (Str.ofString "cross"))) az))))))))))) (aE 2)) (bn (cn (aO b9 (aq 2) (xL (bR (af (xC (.str (Str.ofString "cross "))) (af (xC (.str (Str.ofString "cross -1"))) (af (xC (.str (Str.ofString "cross 1 1"))) (af (xC (.str (Str.ofString "cross 01"))) (af (xC (.str (Str.ofString "cells"))) (af (xC (.str (Str.ofString "cells "))) (af (xC (.str (Str.ofString "cells nothing"))) (af (xC (.str (Str.ofString "cells 0: 1..1"))) az))))))))))) (aE 2)) (bn (cn (aO b9 (aq 2) (xL (bR (af (xC (.str (Str.ofString "cells 0:0"))) (af (xC (.str (Str.ofString "cell 0: 0"))) (af (xC (.str (Str.ofString "Box 0 0 0 0"))) (af (xC (.str (Str.ofString "cross  1"))) (af (xC (.str (Str.ofString " cross 1"))) (af (xC (.str (Str.ofString "cross 1 "))) (af (xC (.str (Str.ofString "cross +1"))) (af (xC (.str (Str.ofString "0: 0"))) az))))))))))) (aE 2)) (bn (cn (aO b9 (aq 2) (xL (bR (af (aO b9 (aO b9 (xC (.str (Str.ofString "box 0 0 1"))) (aO (Aq) (xC (.str (Str.ofString "0"))) (xC (.int 60)))) (xC (.str (Str.ofString " 0")))) az)))) (aE 2)) (bW (aO b9 (aO b9 (aO b9 (aO b9 (aq 1) (xC (.str (Str.ofString " ")))) (aO eU (xL (bR (af (xC (.str (Str.ofString "b"))) (af (xC (.str (Str.ofString "a"))) az)))) (xC (.int b)))) (xC (.str (Str.ofString " a ")))) (aO eU (aq 2) (xC (.int j)))))))))
def WL:Zc:=[s "greater",s "smaller",s "opened",s "closed"]
def yF(c:Int)(w:D)(b j:Int):Zd:=(kQ 3 (λ_=>Jd b j [.sh (.int c),.sh w,.un]) [.int c]).map O.d
def Cu(c:Int){w:D}(h:fS WL (c/32%4)=some w):jK [.int c]=yF c w (c/128%2) (c%26):=by
 have e:lJ [.sh (.int c),.un,.un]=vh [.sh (.int c),.sh w,.un]:=by
  show bn (cn (aO eU (xL (bR (af (xC (.str (Str.ofString "greater"))) (af (xC (.str (Str.ofString "smaller"))) (af (xC (.str (Str.ofString "opened"))) (af (xC (.str (Str.ofString "closed"))) az)))))) (aO fv (aO vF (aq 0) (xC (.int 32))) (xC (.int 4)))) (aE 1)) vh _=_;rw[nD,Dv];have e1:(aO eU (xL (bR (af (xC (.str (Str.ofString "greater"))) (af (xC (.str (Str.ofString "smaller"))) (af (xC (.str (Str.ofString "opened"))) (af (xC (.str (Str.ofString "closed"))) az)))))) (aO xQ (aO Dr (aq 0) (xC (.int 32))) (xC (.int 4)))) [.sh (.int c),.un,.un]=fS WL (c/32%4):=by kernel_rfl
  rw[h] at e1;unfold bn cn;simp only[e1];rfl
 have e2:kf [.int c]=kQ 3 (λ_=>vh [.sh (.int c),.sh w,.un]) [.int c]:=by have e':lJ (List.map Sl.sh [D.int c]++List.replicate (3 - [D.int c].length) Sl.un)=vh [.sh (.int c),.sh w,.un]:=e;unfold kf kQ;rw[e']
 unfold jK yF;rw[e2];unfold vh;rw[nD,Dv]
 kernel_rfl
def nZ(n:Nat):Zn:=(List.range n).map Int.ofNat
def L54:Zn:=[1001,5,10000000000000000000000000000000000000000]++(nZ 50).map (1002 + ·)
def jO{n:Nat}{i:Int}(h0:0<=i)(h1:i<n):i∈nZ n:=by unfold nZ;rw[X5];exact⟨i.toNat,VU.2 (),by show ((i.toNat:Nat):Int)=i;lia⟩
def hU{α β:Type}{f g:α->β}{l:List α}(h:l.map f=l.map g){a:α}(ha:a∈l):f a=g a:=List.map_inj_left.1 h a ha
def QU(n:Int):(nZ 52).map (λj=>(FQ j).bind λd=>bj [c8 (s2 n),d])=(nZ 52).map λ_=>some (.int 0):=by kernel_rfl
def QV(n:Int):(nZ 20).map (λj=>(Df j).bind λd=>bj [c8 (s2 n),d])=(nZ 20).map λ_=>some (.int 1):=by kernel_rfl
def QW(n:Int):(nZ 10).map (λj=>(Dg j).bind λd=>bj [c8 (s2 n),d])=(nZ 10).map λ_=>some (.int 2):=by kernel_rfl
abbrev R3(n c:Int)(w:D):Prop:=(nZ 2).map (λb=>(nZ 26).map (λj=>(yF c w b j).bind λd=>bj [c8 (s2 n),d]))=(nZ 2).map λ_=>(nZ 26).map λ_=>some (.int 3)
def T4(n c:Int):R3 n c (s "greater"):=by kernel_rfl
def T5(n c:Int):R3 n c (s "smaller"):=by kernel_rfl
def T6(n c:Int):R3 n c (s "opened"):=by kernel_rfl
def T7(n c:Int):R3 n c (s "closed"):=by kernel_rfl
def QX(n c:Int):∀w∈WL,R3 n c w:=Xg.2 ⟨T4 n c,Xg.2 ⟨T5 n c,Xg.2 ⟨T6 n c,Xg.2 ⟨T7 n c,λ_ h=>nomatch h⟩⟩⟩⟩
def E6:XE:=aO fv (aq 1) (xC (.int 6))
def RU:XT:=xB (aO (ci false) (E6) (xC (.int 0)))
def Tz:XS:=bW (aO (ci false) (aU bj (af (aN 0) (af (aU ln (af (aN 3) az)) az))) (xC (.int 0)))
def RV:XT:=xB (aO (ci false) (E6) (xC (.int 1)))
def TB:XS:=bW (aO (ci false) (aU bj (af (aN 0) (af (aU jL (af (aN 3) az)) az))) (xC (.int 1)))
def RX:XT:=xB (aO (ci false) (E6) (xC (.int 2)))
def TC:XS:=bW (aO (ci false) (aU bj (af (aN 0) (af (aU jM (af (aN 3) az)) az))) (xC (.int 2)))
def RY:XT:=xB (aO (ci false) (E6) (xC (.int 3)))
def TD:XS:=bW (aO (ci false) (aU bj (af (aN 0) (af (aU jK (af (aN 3) az)) az))) (xC (.int 3)))
def Qx:XT:=sk (xB (aO (ci false) (E6) (xC (.int 4)))) (xB (aO NN (aq 2) (xC (.int 1000))))
def QA:XS:=bW (aO (ci false) (aU bj (af (aN 0) (af (aO b9 (aO b9 (xC (.str (Str.ofString "thin "))) (aO eU (xL (bR (af (xC (.str (Str.ofString "c"))) (af (xC (.str (Str.ofString "a"))) az)))) (aO fv (aq 3) (xC (.int 2))))) (xC (.str (Str.ofString " abcdefgh")))) az))) (xC (.int 4)))
def GV:XS:=bW (aO (ci false) (mE tG "say" hJ (aN 0) (af (aO b9 (xC (.str (Str.ofString "same a "))) (aO eU (xL (bR (af (xC (.str (Str.ofString "a"))) (af (xC (.str (Str.ofString "abcdefgh"))) az)))) (aO fv (aq 3) (xC (.int 2))))) az)) (aO eU (xL (bR (af (xC (.str (Str.ofString "yes"))) (af (xC (.str (Str.ofString "no"))) az)))) (aO fv (aq 3) (xC (.int 2)))))
def R1:XS:=bn (iW RU Tz bS) (bn (iW RV TB bS) (bn (iW RX TC bS) (bn (iW RY TD bS) (bn (iW Qx QA bS) (GV)))))
def R5(b:Int):XS:=bW (aO (ci false) (aU bj (af (aN 0) (af (aO b9 (aO b9 (xC (.str (Str.ofString "thin "))) (aO eU (xL (bR (af (xC (.str (Str.ofString "c"))) (af (xC (.str (Str.ofString "a"))) az)))) (xC (.int b)))) (xC (.str (Str.ofString " abcdefgh")))) az))) (xC (.int 4)))
def Lg(b:Int):XS:=bW (aO (ci false) (mE tG "say" hJ (aN 0) (af (aO b9 (xC (.str (Str.ofString "same a "))) (aO eU (xL (bR (af (xC (.str (Str.ofString "a"))) (af (xC (.str (Str.ofString "abcdefgh"))) az)))) (xC (.int b)))) az)) (aO eU (xL (bR (af (xC (.str (Str.ofString "yes"))) (af (xC (.str (Str.ofString "no"))) az)))) (xC (.int b))))
def mF(dk:D)(c L:Int):M.Env:=[.sh dk,.sh (.int c),.sh (.int L),.sh (.int (c/6))]
def JX(dk:D)(c L:Int):su [.sh dk,.sh (.int c),.sh (.int L),.un]=R1 (mF dk c L):=by
 unfold su;rw[Dv]
 kernel_rfl
def NW(dk:D)(c L:Int):E6 (mF dk c L)=some (.int (c%6)):=by
 unfold E6;rw[nD]
 kernel_rfl
def AB{c:XT}{m n:XS}{ρ:M.Env}(h:c ρ=some false):bn (iW c m bS) n ρ=n ρ:=by unfold bn iW;simp[h]
def vR{c:XT}{m n:XS}{ρ:M.Env}{d:D}(h:c ρ=some true)(k:m ρ=some (.rt d)):bn (iW c m bS) n ρ=some (.rt d):=by unfold bn iW;simp[h,k]
def yT(a b:Int):ci false (.int a) (.int b)=some (.bl (decide (a=b))):=by rw[Jr];rfl
def LY(k:Int)(dk:D)(c L:Int):xB (aO (ci false) E6 (xC (.int k))) (mF dk c L)=some (decide (c%6=k)):=by unfold xB aO xC;rw[NW];show (Option.bind (ci false (.int (c%6)) (.int k)) _)=_;rw[yT];rfl
def K4(dk:D)(c L:Int):Qx (mF dk c L)=some (decide (c%6=4)&&decide (1000<L)):=by
 unfold Qx sk;rw[show xB (aO (ci false) E6 (xC (.int 4))) (mF dk c L)=_ from LY 4 dk c L];by_cases h:c%6=4
 ·simp only[h,decide_true,Yp,Vt];rfl
 ·simp[h]
def Ja{f g:Zb}{k c L:Int}{dk d:D}(hg:g [.int (c/6)]=some d)(hf:f [dk,d]=some (.int k)) :
  bW (aO (ci false) (aU f (af (aN 0) (af (aU g (af (aN 3) az)) az))) (xC (.int k))) (mF dk c L)=some (.rt (.bl true)):=by
 have e:(aU g (af (aN 3) az)) (mF dk c L)=g [.int (c/6)]:=rfl;have e1:(af (aN 0) (af (aU g (af (aN 3) az)) az)) (mF dk c L)=some [dk,d]:=by unfold af;show Option.bind (some dk) _=_;show Option.bind (Option.bind ((aU g (af (aN 3) az)) (mF dk c L)) _) _=_;rw[e,hg];rfl
 show Option.map Out.rt (Option.bind (Option.bind ((af (aN 0) (af (aU g (af (aN 3) az)) az)) (mF dk c L)) f) _)=_;rw[e1];show Option.map _ (Option.bind (f [dk,d]) _)=_;rw[hf];show Option.map _ (ci false (.int k) (.int k))=_;rw[yT];simp
def N0(dk:D)(c L:Int):QA (mF dk c L)=R5 (c/6%2) (mF dk c L):=by
 unfold QA;rw[nD]
 kernel_rfl
def JK(dk:D)(c L:Int):GV (mF dk c L)=Lg (c/6%2) (mF dk c L):=by
 unfold GV;rw[nD]
 kernel_rfl
def KR(c:Int):L54.map (λL=>(nZ 2).map λb=>if 1000<L then R5 b (mF (c8 (s2 (3+L))) c L) else some (.rt (.bl true)))=L54.map λ_=>(nZ 2).map λ_=>some (.rt (.bl true)):=by kernel_rfl
def Ky(c:Int):L54.map (λL=>(nZ 2).map λb=>Lg b (mF (c8 (s2 (3+L))) c L))=L54.map λ_=>(nZ 2).map λ_=>some (.rt (.bl true)):=by kernel_rfl
def Kp(n q:Int)(hq:0<=q):∃d,ln [.int q]=some d/\bj [c8 (s2 n),d]=some (.int 0):=by have h:=hU (QU n) (jO (n:=52) (Vp q (by decide)) (Vw q (by decide)));obtain⟨d,e,h⟩:=ZM h;exact⟨d,(Fk q).trans e,h⟩
def Kq(n q:Int)(hq:0<=q):∃d,jL [.int q]=some d/\bj [c8 (s2 n),d]=some (.int 1):=by have h:=hU (QV n) (jO (n:=20) (Vp q (by decide)) (Vw q (by decide)));obtain⟨d,e,h⟩:=ZM h;exact⟨d,(Cv q).trans e,h⟩
def Kr(n q:Int)(hq:0<=q):∃d,jM [.int q]=some d/\bj [c8 (s2 n),d]=some (.int 2):=by have h:=hU (QW n) (jO (n:=10) (Vp q (by decide)) (Vw q (by decide)));obtain⟨d,e,h⟩:=ZM h;exact⟨d,(Cw q).trans e,h⟩
def KW{a:Int}(h0:0<=a)(h1:a<4):∃w,fS WL a=some w/\w∈WL:=by
 have:a=0\/a=1\/a=2\/a=3:=()
 rcases this with rfl|rfl|rfl|rfl
 ·exact⟨_,rfl,by simp[WL]⟩
 ·exact⟨_,rfl,by simp[WL]⟩
 ·exact⟨_,rfl,by simp[WL]⟩
 ·exact⟨_,rfl,by simp[WL]⟩
def Ks(n q:Int)(hq:0<=q):∃d,jK [.int q]=some d/\bj [c8 (s2 n),d]=some (.int 3):=by obtain⟨w,hw,mw⟩:=KW (Vp (q/32) (b:=4) (by decide)) (Vw (q/32) (by decide));have h:=hU (hU (QX n q w mw) (jO (n:=2) (Vp (q/128) (by decide)) (Vw (q/128) (by decide)))) (jO (n:=26) (Vp q (by decide)) (Vw q (by decide)));obtain⟨d,e,h⟩:=ZM h;exact⟨d,(Cu q hw).trans e,h⟩
def MO{L c:Int}(hL:L∈L54)(hc:0<=c):vY [c8 (s2 (3+L)),.int c,.int L]=some (.bl true):=by
 have hq:0<=c/6:=Int.ediv_nonneg hc (by decide);have run:su [.sh (c8 (s2 (3+L))),.sh (.int c),.sh (.int L),.un]=some (.rt (.bl true)):=by
  rw[JX];unfold R1;have h0:=Vp c (b:=6) (by decide);have h1:=Vw c (b:=6) (by decide);have cf:∀k:Int,c%6≠k->xB (aO (ci false) E6 (xC (.int k))) (mF (c8 (s2 (3+L))) c L)=some false:=λk h=>by rw[LY,UU h]
  have ct:∀k:Int,c%6=k->xB (aO (ci false) E6 (xC (.int k))) (mF (c8 (s2 (3+L))) c L)=some true:=λk h=>by rw[LY,VZ h]
  have hb:=jO (n:=2) (Vp (c/6) (by decide)) (Vw (c/6) (by decide));by_cases r0:c%6=0
  ·obtain⟨d,e1,e2⟩:=Kp (3+L) _ hq;exact vR (ct 0 r0) (Ja e1 e2)
  rw[AB (show RU _=_ from cf 0 r0)];by_cases r1:c%6=1
  ·obtain⟨d,e1,e2⟩:=Kq (3+L) _ hq;exact vR (ct 1 r1) (Ja e1 e2)
  rw[AB (show RV _=_ from cf 1 r1)];by_cases r2:c%6=2
  ·obtain⟨d,e1,e2⟩:=Kr (3+L) _ hq;exact vR (ct 2 r2) (Ja e1 e2)
  rw[AB (show RX _=_ from cf 2 r2)];by_cases r3:c%6=3
  ·obtain⟨d,e1,e2⟩:=Ks (3+L) _ hq;exact vR (ct 3 r3) (Ja e1 e2)
  rw[AB (show RY _=_ from cf 3 r3)];by_cases r4:c%6=4/\1000<L
  ·refine vR (by rw[K4,VZ r4.1,VZ r4.2];rfl) ?_;rw[N0];have h:=hU (hU (KR c) hL) hb;rw[Uv r4.2] at h;exact h
  ·rw[AB (by rw[K4];by_cases h:c%6=4<;>simp[h];exact Int.not_lt.1 λz=>r4 ⟨h,z⟩),JK];exact hU (hU (Ky c) hL) hb
 have e:uR [c8 (s2 (3+L)),.int c,.int L]=some (.sh (.bl true)):=by unfold uR kQ;rw[show su (List.map Sl.sh [c8 (s2 (3+L)),D.int c,D.int L]++List.replicate (4 - [c8 (s2 (3+L)),D.int c,D.int L].length) Sl.un)=_ from run]
 unfold vY;rw[e];rfl
def RM:j5:=n4 (w4 (gZ 1 (xB (aO (ci true) (aU bj (af (aN 1) (af (xC (.str (Str.ofString "back"))) az))) (xC (.int 5))))) (w4 (gZ 1 (xB (aO (ci true) (aU bj (af (aN 1) (af (xC (.str (Str.ofString "show a"))) az))) (xC (.int 1))))) (IV (qK (ci true) (dM bK (af (xC (.str (Str.ofString "names"))) az)) (xC (.str (Str.ofString ""))))))) (lH (xx (xC (.bl false)))) (iT)
def Qs:j5:=uI 1 (cn (aO eU (xL (bR (af (xC (.int 1001)) (af (xC (.int 5)) (af (aO ET (xC (.int 10)) (xC (.int 40))) (af (aO b9 (xC (.int 1002)) (aO fv (aU dY (af (aN 0) (af (xC (.int 0)) az))) (xC (.int 50)))) az)))))) (aO fv (aU dY (af (aN 0) (af (xC (.int 0)) az))) (xC (.int 4)))) (aE 2))
def RN:j5:=uI 1 (cn (aO b9 (xC (.str (Str.ofString "7: 4.."))) (qI z9 (af (aO b9 (xC (.int 3)) (aq 2)) az))) (aE 3))
def RP:j5:=n4 (w4 (IV (qK (ci true) (dM bK (af (xC (.str (Str.ofString "put a 0: 0..2 7"))) az)) (xC (.str (Str.ofString "ok"))))) (IV (qK (ci true) (dM bK (af (aO b9 (xC (.str (Str.ofString "put abcdefgh "))) (aq 3)) az)) (xC (.str (Str.ofString "ok")))))) (lH (xx (xC (.bl false)))) (iT)
def RQ:j5:=uI 1 (cn (xL (bR (af (xC (.str (Str.ofString "a abcdefgh"))) (af (xC (.str (Str.ofString "0: 0..2 7"))) (af (aN 3) az))))) (aE 4))
def Qu:j5:=Ez 1 (vc (Dc (aq 0) eg (j0 (xC (.int 63))))) (aE 5) (og)
def RS:j5:=n4 (w4 (gZ 1 (xB (aO (ci true) (aU kb (af (aN 1) az)) (aq 4)))) (w4 (IV (qK (ci true) (dM bK (af (xC (.str (Str.ofString "back"))) az)) (xC (.str (Str.ofString "ok"))))) (IV (qK (ci true) (dM bK (af (xC (.str (Str.ofString "names"))) az)) (xC (.str (Str.ofString "a"))))))) (lH (xx (xC (.bl false)))) (iT)
def RT:j5:=lH (BK (qK (ci false) (dM bK (af (xC (.str (Str.ofString "back"))) az)) (xC (.str (Str.ofString "ok")))) (BK (qK (ci false) (dM bK (af (xC (.str (Str.ofString "names"))) az)) (xC (.str (Str.ofString "")))) (zP 1 (aO (ci false) (aU bj (af (aN 1) (af (xC (.str (Str.ofString "back"))) az))) (xC (.int 5))))))
def LW:j5:=cy RM (cy Qs (cy RN (cy RP (cy RQ (cy Qu (cy RS (RT)))))))
def env0(sc:D):M.Env:=[.sh sc,.lo,.un,.un,.un,.un]
def tx(L:Int):D:=.str (Str.ofString "7: 4.." ++ toString (3+L))
def NO(L:Int):D:=.lst [s "a abcdefgh",s "0: 0..2 7",tx L]
def kN(sc:D)(L:Int)(x:Sl):M.Env:=[.sh sc,.lo,.sh (.int L),.sh (tx L),.sh (NO L),x]
def a0(sc:D):RM ⟨[],[]⟩ (env0 sc)=some (.nx ⟨[],[]⟩ (env0 sc)):=by kernel_rfl
def a2(sc:D):L54.map (λL=>cy RN (cy RP RQ) ⟨[],[]⟩ [.sh sc,.lo,.sh (.int L),.un,.un,.un])=L54.map λL=>some (.nx (s2 (3+L)) (kN sc L .un)):=by kernel_rfl
def a6(sc:D)(x:Sl):L54.map (λL=>cy RS RT (s2 (3+L)) (kN sc L x))=L54.map λ_=>some (.rt ⟨[],[]⟩ (.bl true)):=by kernel_rfl
def Kz:L54.map (λL=>kb [c8 (s2 (3+L))])=L54.map λL=>some (NO L):=by kernel_rfl
def Ms:L54.map (λL=>ci true (NO L) (NO L))=L54.map λ_=>some (.bl false):=by kernel_rfl
def F1(one:Zb):BQ:=gZ 1 (lF (iR (aU one (af (aN 1) (af (aO Dr (aO xQ (aO Go (aq 5) (xC (.int 48271))) (xC (.int 2147483647))) (xC (.int 37))) (af (aN 2) az))))))
def Qt(e:XE):j5:=uI 1 (cn (aO eU (xL (bR (af (xC (.int 1001)) (af (xC (.int 5)) (af (aO Gp (xC (.int 10)) (xC (.int 40))) (af (aO b9 (xC (.int 1002)) (aO xQ (e) (xC (.int 50)))) az)))))) (aO xQ (e) (xC (.int 4)))) (aE 2))
def P5:XT:=xB (aO (ci false) (aO fv (aq 5) (xC (.int 5))) (xC (.int 0)))
def P6(seen:Zb):XT:=xB (aO (ci true) (aU seen (af (aN 1) az)) (aq 4))
def RZ:XE:=aU dY (af (aN 0) (af (xC (.int 0)) az))
def Om(one:Zb)(st:DS)(sc:D)(L c:Int):F1 one st (kN sc L (.sh (.int c)))=F1 (λ_=>one [c8 st,.int (c*48271%2147483647/37),.int L]) st (kN sc L (.sh (.int c))):=by kernel_rfl
def Oo(st:DS)(sc:D)(L c:Int):F1 (λ_=>some (.bl true)) st (kN sc L (.sh (.int c)))=some (false,st):=by kernel_rfl
def Oe{L:Int}(hL:L∈L54)(sc:D)(c:Int):(gZ 1 (lF (iR (aU vY (af (aN 1) (af (aO vF (aO fv (aO B9 (aq 5) (xC (.int 48271))) (xC (.int 2147483647))) (xC (.int 37))) (af (aN 2) az)))))):BQ) (s2 (3+L)) (kN sc L (.sh (.int c)))=some (false,s2 (3+L)):=by rw[Dv,nD,OC];have e:=Om vY (s2 (3+L)) sc L c;rw[MO hL (Int.ediv_nonneg (Vp _ (by decide)) (by decide)),Oo] at e;exact e
def OG(st:DS)(sc:D)(L c:Int):P5 ((kN sc L (.sh (.int c))).set 1 (.sh (c8 st)))=some (decide (c%5=0)):=by unfold P5 xB aO;rw[nD];show (Option.bind (ci false (.int (c%5)) (.int 0)) _)=_;rw[yT];rfl
def OH(seen:Zb)(st:DS)(sc:D)(L c:Int):P6 seen ((kN sc L (.sh (.int c))).set 1 (.sh (c8 st)))=P6 (λ_=>seen [c8 st]) ((kN sc L (.sh (.int c))).set 1 (.sh (c8 st))):=by kernel_rfl
def OI{L:Int}(hL:L∈L54)(sc:D)(c:Int):P6 kb ((kN sc L (.sh (.int c))).set 1 (.sh (c8 (s2 (3+L)))))=some false:=by rw[OH,hU Kz hL];unfold P6 xB aO;show (Option.bind (ci true (NO L) (NO L)) _)=_;rw[hU Ms hL];rfl
def Og{L:Int}(hL:L∈L54)(sc:D)(c:Int):(gZ 1 (sk (xB (aO (ci false) (aO fv (aq 5) (xC (.int 5))) (xC (.int 0)))) (xB (aO (ci true) (aU kb (af (aN 1) az)) (aq 4)))):BQ) (s2 (3+L)) (kN sc L (.sh (.int c)))=some (false,s2 (3+L)):=by
 have e:sk P5 (P6 kb) ((kN sc L (.sh (.int c))).set 1 (.sh (c8 (s2 (3+L)))))=some false:=by unfold sk;rw[OG,OI hL];by_cases h:c%5=0<;>simp[h]
 unfold gZ;show Option.map _ (sk P5 (P6 kb) _)=_;rw[e];rfl
def Sj{c:BQ}{m:j5}{st:DS}{ρ:M.Env}(h:c st ρ=some (false,st)):n4 c m iT st ρ=some (.nx st ρ):=by unfold n4;rw[h];rfl
def KG{m n:j5}{st st':DS}{ρ ρ':M.Env}(h:m st ρ=some (.nx st' ρ')):cy m n st ρ=n st' ρ':=by unfold cy;rw[h];rfl
def Jo{L:Int}(hL:L∈L54)(sc:D)(c:Int):og (s2 (3+L)) (kN sc L (.sh (.int c)))=some (.nx (s2 (3+L)) (kN sc L (.sh (.int c)))):=by unfold og;rw[KG (Sj (Oe hL sc c))];exact Sj (Og hL sc c)
theorem DJ{L:Int}(hL:L∈L54)(sc:D):∀(ms:Zn) (x:Sl),∃y,ya 1 (aE 5) og (ms.map D.int) (s2 (3+L)) (kN sc L x)=some (.nx (s2 (3+L)) (kN sc L y))
 |[],x=>⟨x,rfl⟩
 |c::ms,x=>by obtain⟨y,e⟩:=DJ hL sc ms (.sh (.int c));refine⟨y,?_⟩;rw[UG,ya];show (if GQ (kN sc L (.sh (.int c))) 1=true then (og (s2 (3+L)) (kN sc L (.sh (.int c)))).bind _ else none)=_;rw[Jo hL];exact e
def Gn(ns:Zn)(lo hi:Option Int):∃ms:Zn,pK (ns.map D.int) lo hi=ms.map D.int:=by unfold pK;exact⟨(ns.drop _).take _,by rw[List.map_take,List.map_drop]⟩
def a5{L:Int}(hL:L∈L54)(ns:Zn):∃y,Qu (s2 (3+L)) (kN (.scr (ns.map D.int)) L .un)=some (.nx (s2 (3+L)) (kN (.scr (ns.map D.int)) L y)):=by obtain⟨ms,e⟩:=Gn ns none (some 63);obtain⟨y,h⟩:=DJ hL (.scr (ns.map D.int)) ms .un;refine⟨y,?_⟩;unfold Qu Ez;rw[show (vc (Dc (aq 0) eg (j0 (xC (.int 63))))) (kN (.scr (ns.map D.int)) L .un)=some (pK (ns.map D.int) none (some 63)) from rfl,e];exact h
def Oa(e:XE)(st:DS)(sc:D):Qt e st (env0 sc)=Qt (λ_=>e (env0 sc)) st (env0 sc):=by kernel_rfl
def LL(c:Int):Zc:=[.int 1001,.int 5,.int 10000000000000000000000000000000000000000,.int (1002+c%50)]
def L8(c:Int)(st:DS)(sc:D):Qt (λ_=>some (.int c)) st (env0 sc)=uI 1 (cn (λ_=>fS (LL c) (c%4)) (aE 2)) st (env0 sc):=by kernel_rfl
def EO(ns:Zn)(k:Nat):∃f:Int,dY [.scr (ns.map D.int),.int k]=some (.int f):=by
 by_cases h:k<ns.length
 ·have ea:fS (ns.map D.int) (k:Int)=some (.int ns[k]):=Mb (by rw[U9,V0 h];rfl);have h':(k:Int)<(ns.length:Int):=()
  exact⟨ns[k],by simp[dY,ke,kQ,lI,h,h',ea]⟩
 ·have h':¬(k:Int)<(ns.length:Int):=()
  exact⟨0,by simp[dY,ke,kQ,lI,h,h']⟩
def B7(ns:Zn):∃f:Int,dY [.scr (ns.map D.int),.int 0]=some (.int f):=EO ns 0
def JO(c:Int):∃L∈L54,fS (LL c) (c%4)=some (.int L):=by
 have h0:=Vp c (b:=4) (by decide);have h1:=Vw c (b:=4) (by decide);have:c%4=0\/c%4=1\/c%4=2\/c%4=3:=()
 rcases this with h|h|h|h
 ·exact⟨1001,by simp[L54],by rw[h];rfl⟩
 ·exact⟨5,by simp[L54],by rw[h];rfl⟩
 ·exact⟨10000000000000000000000000000000000000000,by simp[L54],by rw[h];rfl⟩
 ·refine⟨1002+c%50,?_,by rw[h];rfl⟩;unfold L54;exact UE _ (X5.2 ⟨_,jO (n:=50) (Vp c (by decide)) (Vw c (by decide)),rfl⟩)
def a1(ns:Zn):∃L∈L54,Qs ⟨[],[]⟩ (env0 (.scr (ns.map D.int)))=some (.nx ⟨[],[]⟩ [.sh (.scr (ns.map D.int)),.lo,.sh (.int L),.un,.un,.un]):=by obtain⟨c,hc⟩:=B7 ns;obtain⟨L,hL,e⟩:=JO c;refine⟨L,hL,?_⟩;unfold Qs;rw[nD,OQ];have h:=Oa RZ ⟨[],[]⟩ (.scr (ns.map D.int));rw[show RZ (env0 (.scr (ns.map D.int)))=some (.int c) from hc,L8,e] at h;exact h
def NY(ns:Zn):LW ⟨[],[]⟩ (env0 (.scr (ns.map D.int)))=some (.rt ⟨[],[]⟩ (.bl true)):=by
 unfold LW;obtain⟨L,hL,e1⟩:=a1 ns;rw[KG (a0 _),KG e1];have e2:=hU (a2 (.scr (ns.map D.int))) hL;obtain⟨y,e5⟩:=a5 hL ns;have assoc:∀(m n k r:j5) (st st':DS) (ρ ρ':M.Env),cy m (cy n k) st ρ=some (.nx st' ρ')->cy m (cy n (cy k r)) st ρ=r st' ρ':=λm n k r st st' ρ ρ' h=>by
  unfold cy at h ⊢;cases q1:m st ρ with
  |none=>rw[q1] at h;cases h
  |some o1=>
   cases o1 with
   |rt a b=>rw[q1] at h;cases h
   |nx s1 r1=>
    rw[q1] at h;simp only[Yp] at h ⊢;cases q2:n s1 r1 with
    |none=>rw[q2] at h;cases h
    |some o2=>
     cases o2 with
     |rt a b=>rw[q2] at h;cases h
     |nx s3 r3=>rw[q2] at h;simp only[Yp] at h ⊢;rw[h];rfl
 rw[assoc _ _ _ _ _ _ _ _ e2,KG e5];exact hU (a6 (.scr (ns.map D.int)) y) hL
def G1(ns:Zn)(h:ns.length<=63):Lh [.scr (ns.map D.int)]=some (.bl true):=by
 have run:Dk [.sh (.scr (ns.map D.int)),.un,.un,.un,.un,.un]=some (.rt (.bl true)):=by show PM 1 LW _=_;unfold PM;rw[Uv ⟨by show 1<6;decide,rfl⟩];show (match LW ⟨[],[]⟩ (env0 (.scr (ns.map D.int))) with|some (OD.rt _ d)=>some (Out.rt d)|_=>none)=_;rw[NY]
 have e:zc [.scr (ns.map D.int)]=some (.sh (.bl true)):=by unfold zc kQ;rw[show Dk (List.map Sl.sh [D.scr (ns.map D.int)]++List.replicate (6 - [D.scr (ns.map D.int)].length) Sl.un)=_ from run]
 unfold Lh;rw[e];rfl
end P
namespace Lw
open PySem L2 M P
def lz (i : Nat) : Stmt := PySem.Challenge.pw_shapethin_k72_rows_refused_in_order.main.body.getD i (.Pass ⟨0, 0, 0, 0⟩)
abbrev gj:Stmt:=i8 (lz 100) 5
abbrev qB:Stmt:=lz 102
abbrev qC:Stmt:=lz 106
abbrev qD:Stmt:=lz 104
abbrev sZ:Stmt:=lz 103
abbrev qE:Stmt:=lz 105
abbrev oz:Stmt:=lz 90
abbrev tf:Stmt:=lz 89
abbrev zE:Stmt:=lz 97
abbrev ko:Stmt:=lz 15
abbrev rV:Stmt:=lz 10
abbrev jX:Stmt:=lz 67
abbrev gP:Stmt:=lz 72
abbrev nR:Stmt:=lz 99
abbrev jV:Stmt:=i8 (lz 46) 0
abbrev ia:Stmt:=i8 (lz 47) 0
abbrev fB:Stmt:=i8 (lz 100) 4
abbrev ib:Stmt:=i8 (lz 48) 0
abbrev sY:Stmt:=i8 (lz 100) 3
abbrev ij:Stmt:=lz 30
abbrev gN:Stmt:=lz 21
abbrev jc:Stmt:=lz 71
abbrev l8:Stmt:=lz 66
abbrev kq:Stmt:=lz 92
abbrev gO:Stmt:=lz 70
abbrev zG:Stmt:=lz 65
abbrev l9:Stmt:=lz 91
abbrev qG:Stmt:=lz 33
abbrev bO:Stmt:=lz 69
abbrev CP:Stmt:=lz 98
abbrev cW:Stmt:=lz 80
abbrev zF:Stmt:=lz 68
abbrev jb:Stmt:=i8 (lz 100) 2
abbrev fg:Stmt:=lz 94
abbrev d6:Stmt:=i8 (lz 100) 1
abbrev nQ:Stmt:=lz 93
abbrev zB:Stmt:=lz 109
abbrev qF:Stmt:=lz 107
abbrev CO:Stmt:=lz 108
abbrev HQ:Stmt:=lz 110
abbrev iP:Stmt:=i8 (lz 100) 0
structure Txt(w:World)(K:Zj)(mg:Zg):Prop where
 ValueError:mg "ValueError"=none
 all:mg "all"=none
 any:mg "any"=none
 dict:mg "dict"=none
 int:mg "int"=none
 isinstance:mg "isinstance"=none
 len:mg "len"=none
 max:mg "max"=none
 min:mg "min"=none
 sorted:mg "sorted"=none
 str:mg "str"=none
 sum:mg "sum"=none
 tuple:mg "tuple"=none
 zip:mg "zip"=none
 FIGURES:∃t:Tok,mg "FIGURES"=some (.str (Str.ofString "0123456789") t)
 LETTERS:∃t:Tok,mg "LETTERS"=some (.str (Str.ofString "abcdefghijklmnopqrstuvwxyz") t)
 MOST_CELLS:∃t:Tok,mg "MOST_CELLS"=some (.int (1000) t)
 MOST_FIGURES:∃t:Tok,mg "MOST_FIGURES"=some (.int (60) t)
 MOST_LETTERS:∃t:Tok,mg "MOST_LETTERS"=some (.int (8) t)
 WITHOUT_CELLS:∃t:Tok,mg "WITHOUT_CELLS"=some (.str (Str.ofString "nothing") t)
 ROWS:yG w K mg "ROWS" Zr
 cN_pictures:qL K tG λC=>Cls K C/\NoAttr K C "pictures"
 cN_deeds:qL K tG λC=>Cls K C/\NoAttr K C "deeds"
 xc_ShapeError:∃T:Addr,mg "ShapeError"=some (.ref T)/\∀N∈PN,∀C:Addr,W.nsIn K mainGlobals N=some (some (.ref C))->W.exmOne K (.ref C) (.ref T)=some true
 xd_NoText:∃T:Addr,mg "NoText"=some (.ref T)/\(∀C:Addr,W.nsIn K mainGlobals "NoText"=some (some (.ref C))->W.exmOne K (.ref C) (.ref T)=some true)/\∀N∈(["NoForm"]:Zl),∀C:Addr,W.nsIn K mainGlobals N=some (some (.ref C))->W.exmOne K (.ref C) (.ref T)=some false
 xa_NoBack:∃T:Addr,mg "NoBack"=some (.ref T)/\iY K k8 (.ref T)
 xa_NoForm:∃T:Addr,mg "NoForm"=some (.ref T)/\iY K k9 (.ref T)
 xa_NoName:∃T:Addr,mg "NoName"=some (.ref T)/\iY K lc (.ref T)
 xa_NoRow:∃T:Addr,mg "NoRow"=some (.ref T)/\iY K mX (.ref T)
 xa_NoText:∃T:Addr,mg "NoText"=some (.ref T)/\iY K lf (.ref T)
 xa_TooGreat:∃T:Addr,mg "TooGreat"=some (.ref T)/\iY K iy (.ref T)
 xa_TooMany:∃T:Addr,mg "TooMany"=some (.ref T)/\iY K jB (.ref T)
 xa_ValueError:iY K fT (.type "ValueError")
 xr_NoBack:∃C:Addr,W.nsIn K mainGlobals "NoBack"=some (some (.ref C))/\W.excIn K C xJ "ValueError.__new__"=true/\mg "NoBack"=some (.ref C)
 xr_NoForm:∃C:Addr,W.nsIn K mainGlobals "NoForm"=some (some (.ref C))/\W.excIn K C xJ "ValueError.__new__"=true/\mg "NoForm"=some (.ref C)
 xr_NoName:∃C:Addr,W.nsIn K mainGlobals "NoName"=some (some (.ref C))/\W.excIn K C xJ "ValueError.__new__"=true/\mg "NoName"=some (.ref C)
 xr_NoRow:∃C:Addr,W.nsIn K mainGlobals "NoRow"=some (some (.ref C))/\W.excIn K C xJ "ValueError.__new__"=true/\mg "NoRow"=some (.ref C)
 xr_NoText:∃C:Addr,W.nsIn K mainGlobals "NoText"=some (some (.ref C))/\W.excIn K C xJ "ValueError.__new__"=true/\mg "NoText"=some (.ref C)
 xr_TooGreat:∃C:Addr,W.nsIn K mainGlobals "TooGreat"=some (some (.ref C))/\W.excIn K C xJ "ValueError.__new__"=true/\mg "TooGreat"=some (.ref C)
section
variable {P:Program}{w:World}{K:Zj}{mg:Zg}{base:Heap}{f f_Desk_set_picture lQ lR lS oi lU lj jn vM j7 re gG e7 j8 f_Box___init__ f_Cross___init__ f_Desk_take_back f_Shape___init__ f_Desk_do ig gF cb lV iA dE sD gd f_cells_of cU yY f_thinned pO de f_form_written eZ f_read_form uN jD yX GD f_Desk___init__ c_Desk c_Box c_Cross c_Shape:Addr}{fd fd_Desk_set_picture m7 m8 m9 pP nh lW jF uO lX sE iL fY lY fd_Box___init__ fd_Cross___init__ fd_Desk_take_back fd_Shape___init__ fd_Desk_do jE ii b8 nj i5 ei rg gu fd_cells_of df y0 fd_thinned oj eG fd_form_written gt fd_read_form vN j9 yZ Cc fd_Desk___init__:FuncData}
seal L2.CallR L2.OpR L2.PA L2.PC L2.PE L2.PG L2.PI L2.PO L2.PS L2.PSs L2.PT L2.PW L2.IxR
def iV:Zp ["self", "name", "picture"] ["self", "name", "picture"] (aB gj):=⟨rfl,rfl,rfl,by decide +kernel,rfl,by decide +kernel,by decide +kernel⟩
def uq:Zp ["_law_script", "_law_k"] ["_law_script", "_law_k"] (aB qB):=⟨rfl,rfl,rfl,by decide +kernel,rfl,by decide +kernel,by decide +kernel⟩
def ur:Zp ["_law_cell", "_law_word", "_law_some"] ["_law_cell"] (aB qC):=⟨rfl,rfl,rfl,by decide +kernel,rfl,by decide +kernel,by decide +kernel⟩
def ut:Zp ["_law_cell", "_law_some"] ["_law_cell"] (aB qD):=⟨rfl,rfl,rfl,by decide +kernel,rfl,by decide +kernel,by decide +kernel⟩
def wF:Zp ["_law_cell", "_law_some"] ["_law_cell"] (aB sZ):=⟨rfl,rfl,rfl,by decide +kernel,rfl,by decide +kernel,by decide +kernel⟩
def uu:Zp ["_law_cell", "_law_some"] ["_law_cell"] (aB qE):=⟨rfl,rfl,rfl,by decide +kernel,rfl,by decide +kernel,by decide +kernel⟩
def wG:Zp ["word"] ["word"] (aB oz):=⟨rfl,rfl,rfl,by decide +kernel,rfl,by decide +kernel,by decide +kernel⟩
def wH:Zp ["kind"] ["kind"] (aB tf):=⟨rfl,rfl,rfl,by decide +kernel,rfl,by decide +kernel,by decide +kernel⟩
def uY:Zp ["word", "things"] ["word", "things"] (aB zE):=⟨rfl,rfl,rfl,by decide +kernel,rfl,by decide +kernel,by decide +kernel⟩
def rY:Zp ["row"] ["row"] (aB ko):=⟨rfl,rfl,rfl,by decide +kernel,rfl,by decide +kernel,by decide +kernel⟩
def yq:Zp ["pairs", "stretches", "a", "b"] ["pairs"] (aB rV):=⟨rfl,rfl,rfl,by decide +kernel,rfl,by decide +kernel,by decide +kernel⟩
def mB:Zp ["a", "b"] ["a", "b"] (aB jX):=⟨rfl,rfl,rfl,by decide +kernel,rfl,by decide +kernel,by decide +kernel⟩
def mD:Zp ["text", "figures"] ["text"] (aB gP):=⟨rfl,rfl,rfl,by decide +kernel,rfl,by decide +kernel,by decide +kernel⟩
def r6:Zp ["truth"] ["truth"] (aB nR):=⟨rfl,rfl,rfl,by decide +kernel,rfl,by decide +kernel,by decide +kernel⟩
def my:Zp ["self", "left", "up", "right", "down"] ["self", "left", "up", "right", "down"] (aB jV):=⟨rfl,rfl,rfl,by decide +kernel,rfl,by decide +kernel,by decide +kernel⟩
def kr:Zp ["self", "arm"] ["self", "arm"] (aB ia):=⟨rfl,rfl,rfl,by decide +kernel,rfl,by decide +kernel,by decide +kernel⟩
def eS:Zp ["self", "deed"] ["self"] (aB fB):=⟨rfl,rfl,rfl,by decide +kernel,rfl,by decide +kernel,by decide +kernel⟩
def kt:Zp ["self", "picture"] ["self", "picture"] (aB ib):=⟨rfl,rfl,rfl,by decide +kernel,rfl,by decide +kernel,by decide +kernel⟩
def wE:Zp ["self", "name", "picture"] ["self", "name", "picture"] (aB sY):=⟨rfl,rfl,rfl,by decide +kernel,rfl,by decide +kernel,by decide +kernel⟩
def nT:Zp ["picture"] ["picture"] (aB ij):=⟨rfl,rfl,rfl,by decide +kernel,rfl,by decide +kernel,by decide +kernel⟩
def ph:Zp ["stretches", "pairs_by_row", "y", "a", "b"] ["stretches"] (aB gN):=⟨rfl,rfl,rfl,by decide +kernel,rfl,by decide +kernel,by decide +kernel⟩
def il:Zp ["text"] ["text"] (aB jc):=⟨rfl,rfl,rfl,by decide +kernel,rfl,by decide +kernel,by decide +kernel⟩
def ux:Zp ["y", "row", "stretches"] ["y", "row"] (aB l8):=⟨rfl,rfl,rfl,by decide +kernel,rfl,by decide +kernel,by decide +kernel⟩
def rZ:Zp ["row", "kinds"] ["row", "kinds"] (aB kq):=⟨rfl,rfl,rfl,by decide +kernel,rfl,by decide +kernel,by decide +kernel⟩
def f8:Zp ["y", "text", "ends"] ["y", "text"] (aB gO):=⟨rfl,rfl,rfl,by decide +kernel,rfl,by decide +kernel,by decide +kernel⟩
def Ea:Zp ["picture"] ["picture"] (aB zG):=⟨rfl,rfl,rfl,by decide +kernel,rfl,by decide +kernel,by decide +kernel⟩
def ku:Zp ["row", "first", "words", "kind", "word"] ["row"] (aB l9):=⟨rfl,rfl,rfl,by decide +kernel,rfl,by decide +kernel,by decide +kernel⟩
def uw:Zp ["picture", "cells", "y", "a", "b"] ["picture"] (aB qG):=⟨rfl,rfl,rfl,by decide +kernel,rfl,by decide +kernel,by decide +kernel⟩
def eT:Zp ["text", "stretches", "head", "colon", "tail", "y"] ["text"] (aB bO):=⟨rfl,rfl,rfl,by decide +kernel,rfl,by decide +kernel,by decide +kernel⟩
def Eb:Zp ["word", "things"] ["word", "things"] (aB CP):=⟨rfl,rfl,rfl,by decide +kernel,rfl,by decide +kernel,by decide +kernel⟩
def wI:Zp ["picture", "ends", "kept", "taken", "taken_before"] ["picture", "ends"] (aB cW):=⟨rfl,rfl,rfl,by decide +kernel,rfl,by decide +kernel,by decide +kernel⟩
def uZ:Zp ["text", "picture"] ["text"] (aB zF):=⟨rfl,rfl,rfl,by decide +kernel,rfl,by decide +kernel,by decide +kernel⟩
def ik:Zp ["self", "kind", "said"] ["self", "kind", "said"] (aB jb):=⟨rfl,rfl,rfl,by decide +kernel,rfl,by decide +kernel,by decide +kernel⟩
def mz:Zp ["text", "words", "numbers"] ["text"] (aB fg):=⟨rfl,rfl,rfl,by decide +kernel,rfl,by decide +kernel,by decide +kernel⟩
def gv:Zp ["self", "row", "words", "word", "things"] ["self", "row"] (aB d6):=⟨rfl,rfl,rfl,by decide +kernel,rfl,by decide +kernel,by decide +kernel⟩
def rX:Zp ["text"] ["text"] (aB nQ):=⟨rfl,rfl,rfl,by decide +kernel,rfl,by decide +kernel,by decide +kernel⟩
def Bu:Zp ["_law_desk"] ["_law_desk"] (aB zB):=⟨rfl,rfl,rfl,by decide +kernel,rfl,by decide +kernel,by decide +kernel⟩
def uv:Zp ["_law_desk", "_law_row", "_law_caught", "e"] ["_law_desk", "_law_row"] (aB qF):=⟨rfl,rfl,rfl,by decide +kernel,rfl,by decide +kernel,by decide +kernel⟩
def D9:Zp ["_law_desk", "_law_cell", "_law_long", "_law_more"] ["_law_desk", "_law_cell", "_law_long"] (aB CO):=⟨rfl,rfl,rfl,by decide +kernel,rfl,by decide +kernel,by decide +kernel⟩
def HU:Zp ["_law_script", "_law_desk", "_law_long", "_law_text", "_law_due", "_law_cell"] ["_law_script"] (aB HQ):=⟨rfl,rfl,rfl,by decide +kernel,rfl,by decide +kernel,by decide +kernel⟩
def tj:Zp ["self"] ["self"] (aB iP):=⟨rfl,rfl,rfl,by decide +kernel,rfl,by decide +kernel,by decide +kernel⟩
def nG(F:Fun K "set_picture" "Desk.set_picture" gj f fd) (T:Txt w K mg) : Zq P w K mg base cz 1 f fd ["self", "name", "picture"] (cu K):=by refine F.ok iV (λvs H Q E h=>h.1) (λcdv A outer s H vs Q E hr h=>?_);have nd:=(iV).nd;exact⟨_,av (bd (fI Hh (pv 2) (wj)) (av (dB (Hq (fw T.cN_pictures (pv 0) rfl) (pv 1) ⟨rfl,rfl,rfl,rfl⟩))) (av (Kd (Px hr.units) (fw T.cN_pictures (pv 0) rfl) (pv 1) (pv 2) rfl))),nO h⟩
def AR(F:Fun K "_law_cell_at" "_law_cell_at" qB f fd) (T:Txt w K mg) : Zq P w K mg base cz 1 f fd ["_law_script", "_law_k"] (kz K):=by refine F.ok uq (λvs H Q E h=>h.1) (λcdv A outer s H vs Q E hr h=>?_);have nd:=(uq).nd;exact⟨_,au (bd (fI Hi (pv 1) (bv eF (by rfl) T.len kL (ac (pv 0) ai))) (av (aR (hZ (pv 0) (pv 1)))) aP) (av (aR aC)),Bg h⟩
def AS(F:Fun K "_law_no_form" "_law_no_form" qC f fd) (T:Txt w K mg) : Zq P w K mg base cz 1 f fd ["_law_cell"] (kD K):=by refine F.ok ur (λvs H Q E h=>h.1) (λcdv A outer s H vs Q E hr h=>?_);have nd:=(ur).nd;exact⟨_,au (jo 1 nd (hZ (bL (ac (aj) (ac (aj) (ac (aj) (ac (aj) ai))))) (bz eL (bz uT (pv 0) aC) aC))) (au (jo 2 nd (bL (ac (aj) (ac (aj) (ac (aj) (ac (aj) (ac (aj) (ac (aj) (ac (aj) (ac (aj) (ac (aj) ai))))))))))) (au (jo 2 nd (bz bF (pv 2) (bL (ac (aj) (ac (aj) (ac (aj) (ac (aj) (ac (aj) (ac (aj) (ac (aj) (ac (aj) ai))))))))))) (au (jo 2 nd (bz bF (pv 2) (bL (ac (aj) (ac (aj) (ac (aj) (ac (aj) (ac (aj) (ac (aj) (ac (aj) (ac (aj) ai))))))))))) (au (jo 2 nd (bz bF (pv 2) (bL (ac (bz bF (bz bF (aj) (bz JY (aj) aC)) (aj)) ai)))) (av (aR (bz bF (bz bF (bz bF (bz bF (pv 1) (aj)) (hZ (bL (ac (aj) (ac (aj) ai))) (bz eL (bz uT (pv 0) aC) aC))) (aj)) (hZ (pv 2) (bz eL (pv 0) aC))))))))),Bh h⟩
def AU(F:Fun K "_law_no_name" "_law_no_name" qD f fd) (T:Txt w K mg) : Zq P w K mg base cz 1 f fd ["_law_cell"] (kE K):=by refine F.ok ut (λvs H Q E h=>h.1) (λcdv A outer s H vs Q E hr h=>?_);have nd:=(ut).nd;exact⟨_,au (jo 1 nd (bL (ac (aj) (ac (aj) (ac (aj) (ac (aj) (ac (aj) (ac (aj) (ac (aj) (ac (aj) (ac (aj) ai))))))))))) (au (jo 1 nd (bz bF (pv 1) (bL (ac (aj) (ac (aj) (ac (aj) (ac (aj) (ac (aj) (ac (aj) ai))))))))) (au (jo 1 nd (bz bF (pv 1) (bL (ac (aj) (ac (aj) (ac (aj) (ac (aj) ai))))))) (av (aR (hZ (bz bF (pv 1) (bL (ac (aj) ai))) (bz eL (pv 0) aC)))))),Bi h⟩
def Cz(F:Fun K "_law_no_row" "_law_no_row" sZ f fd) (T:Txt w K mg) : Zq P w K mg base cz 1 f fd ["_law_cell"] (md K):=by refine F.ok wF (λvs H Q E h=>h.1) (λcdv A outer s H vs Q E hr h=>?_);have nd:=(wF).nd;exact⟨_,au (jo 1 nd (bL (ac (aj) (ac (aj) (ac (aj) (ac (aj) (ac (aj) (ac (aj) (ac (aj) (ac (aj) (ac (aj) (ac (aj) ai)))))))))))) (au (jo 1 nd (bz bF (pv 1) (bL (ac (aj) (ac (aj) (ac (aj) (ac (aj) (ac (aj) (ac (aj) (ac (aj) ai)))))))))) (au (dB (cR Vq WA WB hV (pv 1) (ac (aj) ai))) (au (jo 1 nd (bz bF (pv 1) (bL (ac (aj) (ac (aj) (ac (aj) (ac (aj) (ac (aj) (ac (aj) (ac (aj) ai)))))))))) (au (jo 1 nd (bz bF (pv 1) (bL (ac (aj) (ac (aj) (ac (aj) (ac (aj) (ac (aj) (ac (aj) ai))))))))) (au (jo 1 nd (bz bF (pv 1) (bL (ac (aj) (ac (aj) (ac (aj) (ac (aj) (ac (aj) (ac (aj) (ac (aj) (ac (aj) (ac (aj) ai)))))))))))) (au (jo 1 nd (bz bF (pv 1) (bL (ac (aj) (ac (aj) (ac (aj) (ac (wj) (ac aC (ac nH (ac (bL (ac (aj) ai)) (ac (fc (ac (aj) ai)) ai))))))))))) (au (jo 1 nd (bz bF (pv 1) (bL (ac (aj) (ac (aj) (ac (aj) (ac (aj) ai))))))) (av (aR (hZ (pv 1) (bz eL (pv 0) aC))))))))))),CK h⟩
def AV(F:Fun K "_law_no_text" "_law_no_text" qE f fd) (T:Txt w K mg) : Zq P w K mg base cz 1 f fd ["_law_cell"] (kF K):=by refine F.ok uu (λvs H Q E h=>h.1) (λcdv A outer s H vs Q E hr h=>?_);have nd:=(uu).nd;exact⟨_,au (jo 1 nd (bL (ac (aj) (ac (aj) (ac (aj) (ac (aj) (ac (aj) (ac (aj) (ac (aj) ai))))))))) (av (aR (hZ (bz bF (pv 1) (bL (ac (aj) (ac (aj) (ac (aj) ai))))) (bz eL (pv 0) aC)))),Bj h⟩
def CA(F:Fun K "is_name" "is_name" oz f fd) (T:Txt w K mg) : Zq P w K mg base cz 1 f fd ["word"] (jY K):=by refine F.ok wG (λvs H Q E h=>h.1) (λcdv A outer s H vs Q E hr h=>?_);have nd:=(wG).nd;exact⟨_,av (aR (CH (Hl AZ AZ aC (bv eF (by rfl) T.len kL (ac (pv 0) ai)) (ja (v:=.int (8)) (by rfl) T.MOST_LETTERS.choose_spec ⟨_,rfl⟩)) (Ht (bv (xK rfl) (by rfl) T.all Ge (ac (dZ (show Zw ["word"] (aB oz) _ ["sign"] [none] from fH) (Hw (pv 0)) (λ_=>uV 0) bw (λ_=>cE) (λ_=>eN Hg (pv 0) (ja (v:=.str (Str.ofString "abcdefghijklmnopqrstuvwxyz")) (by rfl) T.LETTERS.choose_spec ⟨_,rfl⟩) rfl)) ai))))),CM h⟩
def CB(F:Fun K "is_read" "is_read" tf f fd) (T:Txt w K mg) : Zq P w K mg base cz 1 f fd ["kind"] (ic K):=by refine F.ok wH (λvs H Q E h=>h.1) (λcdv A outer s H vs Q E hr h=>?_);have nd:=(wH).nd;exact⟨_,av (aR (eN oy (pv 0) (fc (ac (aj) (ac (aj) ai))) rfl)),CN h⟩
def JT(F:Fun K "made" "made" zE f fd) (T:Txt w K mg) : Zq P w K mg base cz 1 f fd ["word", "things"] (va K):=by refine F.ok uY (λvs H Q E h=>h.1) (λcdv A outer s H vs Q E hr h=>?_);have nd:=(uY).nd;exact⟨_,au (bd (fI (bh hr.units) (pv 0) (aj)) (av (aR (hZ (pv 1) aC))) aP) (yl),Kj h⟩
def zi(F:Fun K "row_count" "row_count" ko f fd) (T:Txt w K mg) : Zq P w K mg base cz 1 f fd ["row"] (ji K):=by refine F.ok rY (λvs H Q E h=>h.1) (λcdv A outer s H vs Q E hr h=>?_);have nd:=(rY).nd;exact⟨_,av (aR (bv (xO rfl) (by rfl) T.sum Gg (ac (dZ (show Zw ["row"] (aB ko) _ ["a", "b"] [none,none] from fH) (dq (pv 0)) (λ_=>fe rfl (aZ (uV 0) (aZ (uV 1) dh))) (jZ (bM bw (bM bw gV br) br)) (λ_=>cE) (λ_=>bz bF (bz MS (pv 1) (pv 0)) aC)) ai))),zx h⟩
def Fm(F:Fun K "row_of" "row_of" rV f fd) (T:Txt w K mg) : Zq P w K mg base cz 1 f fd ["pairs"] (oE K):=by refine F.ok yq (λvs H Q E h=>h.1) (λcdv A outer s H vs Q E hr h=>?_);have nd:=(yq).nd;exact⟨_,au (jo 1 nd (bL ai)) (au (qp WC rfl (dq (bv qX (by rfl) T.sorted lh (ac (dZ (show Zw ["pairs", "stretches", "a", "b"] (aB rV) _ ["a", "b"] [none,none] from fH) (dq (pv 0)) (λ_=>fe rfl (aZ (uV 0) (aZ (uV 1) dh))) (jZ (bM bw (bM bw gV br) br)) (λ_=>DT (fI AZ (pv 0) (pv 1))) (λ_=>fc (ac (pv 0) (ac (pv 1) ai)))) ai))) (fe rfl (aZ (BO 2 nd) (aZ (BO 3 nd) dh))) (av (bd (PW.pt (qq (b7 (pv 1) (λ_=>rfl)) (l7 (fI AZ (pv 2) (bz bF (hZ (hZ (pv 1) (t7 nY aC)) aC) aC))))) (av (M0 (fc (ac (hZ (hZ (pv 1) (t7 nY aC)) aC) (ac (bv (EM rfl) (by rfl) T.max Ml (ac (hZ (hZ (pv 1) (t7 nY aC)) aC) (ac (pv 3) ai))) ai))) (MY (pv 1) (t7 nY aC) HV))) (av (dB (cR Vq WA WB hV (pv 1) (ac (fc (ac (pv 2) (ac (pv 3) ai))) ai))))))) (av (aR (hX oW (by rfl) T.tuple Ai (ac (pv 1) ai))))),Fu h⟩
def uD(F:Fun K "show_stretch" "show_stretch" jX f fd) (T:Txt w K mg) : Zq P w K mg base cz 1 f fd ["a", "b"] (f9 K):=by refine F.ok mB (λvs H Q E h=>h.1) (λcdv A outer s H vs Q E hr h=>?_);have nd:=(mB).nd;exact⟨_,au (bd (fI (bh hr.units) (pv 0) (pv 1)) (av (aR (MW (A2 (pv 0))))) aP) (av (aR (Li (PJ.cons (A2 (pv 0)) (PJ.cons (aj) (PJ.cons (A2 (pv 1)) (PJ.nil))))))),uG h⟩
def uE(F:Fun K "writes_whole" "writes_whole" gP f fd) (T:Txt w K mg) : Zq P w K mg base cz 1 f fd ["text"] (eD K):=by refine F.ok mD (λvs H Q E h=>h.1) (λcdv A outer s H vs Q E hr h=>?_);have nd:=(mD).nd;exact⟨_,au (jo 1 nd (A3 (b7 (cR UT PySem.F.slot_str_startswith PySem.F.type_str_startswith Fj (pv 0) (ac (aj) ai)) (λ_=>rfl)) (er Nv (pv 0) (f7 aC) (fZ)) (pv 0))) (au (bd (PW.pt (nM (fI (bh hr.units) (pv 1) (aj)) (nN (fI Hf (bv eF (by rfl) T.len kL (ac (pv 1) ai)) (ja (v:=.int (60)) (by rfl) T.MOST_FIGURES.choose_spec ⟨_,rfl⟩))))) (av (aR nH)) aP) (au (bd (fN (b7 (bv (xK rfl) (by rfl) T.all Ge (ac (dZ (show Zw ["text", "figures"] (aB gP) _ ["sign"] [none] from fH) (Hw (pv 1)) (λ_=>uV 0) bw (λ_=>cE) (λ_=>eN Hg (pv 0) (ja (v:=.str (Str.ofString "0123456789")) (by rfl) T.FIGURES.choose_spec ⟨_,rfl⟩) rfl)) ai)) (λ_=>rfl))) (av (aR nH)) aP) (av (aR (eN (bh hr.units) (hX xN (by rfl) T.str mZ (ac (hX xM (by rfl) T.int Gf (ac (pv 0) ai)) ai)) (pv 0) (iM _)))))),uH h⟩
def zk(F:Fun K "yes_or_no" "yes_or_no" nR f fd) (T:Txt w K mg) : Zq P w K mg base cz 1 f fd ["truth"] (jj K):=by refine F.ok r6 (λvs H Q E h=>h.1) (λcdv A outer s H vs Q E hr h=>?_);have nd:=(r6).nd;exact⟨_,av (aR (A3 (b7 (pv 0) (λ_=>rfl)) (aj) (aj))),zz h⟩
def sQ(F:Fun K "__init__" "Box.__init__" jV f fd) (T:Txt w K mg) : Zq P w K mg base (g6 P w) 1 f fd ["self", "left", "up", "right", "down"] (fD K):=by refine F.okX my (λvs H Q E h=>h.1) (λcdv A outer s H vs Q E hr h=>?_);have nd:=(my).nd;exact⟨_,dF (bd (fI Hi (bv (EN rfl) (by rfl) T.min Mm (ac (pv 1) (ac (pv 2) (ac (pv 3) (ac (pv 4) ai))))) aC) (av (di eR T.xr_NoForm hr.hd (by rfl) (aj))) aP),sV h⟩
def pY(F:Fun K "__init__" "Cross.__init__" ia f fd) (T:Txt w K mg) : Zq P w K mg base (g6 P w) 1 f fd ["self", "arm"] (cY K):=by refine F.okX kr (λvs H Q E h=>h.1) (λcdv A outer s H vs Q E hr h=>?_);have nd:=(kr).nd;exact⟨_,dF (bd (fI Hi (pv 1) aC) (av (di eR T.xr_NoForm hr.hd (by rfl) (aj))) aP),qv h⟩
def pZ(F:Fun K "take_back" "Desk.take_back" fB f fd) (T:Txt w K mg) : Zq P w K mg base (g6 P w) 1 f fd ["self"] (d9 K):=by refine F.okX eS (λvs H Q E h=>h.1) (λcdv A outer s H vs Q E hr h=>?_);have nd:=(eS).nd;exact⟨_,dF (bd (fI (bh hr.units) (fw T.cN_deeds (pv 0) rfl) (bL ai)) (av (di eR T.xr_NoBack hr.hd (by rfl) (aj))) aP),qw h⟩
def p0(F:Fun K "__init__" "Shape.__init__" ib f fd) (T:Txt w K mg) : Zq P w K mg base (g6 P w) 1 f fd ["self", "picture"] (cZ K):=by refine F.okX kt (λvs H Q E h=>h.1) (λcdv A outer s H vs Q E hr h=>?_);have nd:=(kt).nd;exact⟨_,dF (bd (fI (bh hr.units) (pv 1) (fc ai)) (av (di eR T.xr_NoForm hr.hd (by rfl) (aj))) aP),qy h⟩
def AN(F:Fun K "do" "Desk.do" sY f fd) (T:Txt w K mg) (AD_Desk_set_picture:Ad cz 1 "set_picture" ["self", "name", "picture"] cu P w K mg base f_Desk_set_picture fd_Desk_set_picture):Zq P w K mg base cz 2 f fd ["self", "name", "picture"] (gw K):=by refine F.ok wE (λvs H Q E h=>h.1) (λcdv A outer s H vs Q E hr h=>?_);have nd:=(wE).nd;exact⟨_,au (dB (cR Vq WA WB hV (fw T.cN_deeds (pv 0) rfl) (ac (fc (ac (pv 1) (ac (Hn (Px hr.units) (fw T.cN_pictures (pv 0) rfl) (pv 1) ⟨rfl,rfl,rfl,rfl⟩) ai))) ai))) (av (dB (b6 AD_Desk_set_picture.cm AD_Desk_set_picture.G (hr.mono (by decide)) AD_Desk_set_picture.b aW (pv 0) (ac (pv 1) (ac (pv 2) ai))))),Bd h⟩
def pX(F:Fun K "take_back" "Desk.take_back" fB f fd) (T:Txt w K mg) (AD_Desk_set_picture:Ad cz 1 "set_picture" ["self", "name", "picture"] cu P w K mg base f_Desk_set_picture fd_Desk_set_picture):Zq P w K mg base cz 2 f fd ["self"] (d8 K):=by refine F.ok eS (λvs H Q E h=>h.1) (λcdv A outer s H vs Q E hr h=>?_);have nd:=(eS).nd;exact⟨_,au (bd (fI (bh hr.units) (fw T.cN_deeds (pv 0) rfl) (bL ai)) (av (bV)) aP) (au (jo 1 nd (MV Vq PySem.F.slot_list_pop PySem.F.type_list_pop MI (fw T.cN_deeds (pv 0) rfl))) (av (dB (b6 AD_Desk_set_picture.cm AD_Desk_set_picture.G (hr.mono (by decide)) AD_Desk_set_picture.b aW (pv 0) (ac (hZ (pv 1) aC) (ac (hZ (pv 1) aC) ai)))))),qu h⟩
def we(F:Fun K "count_cells" "count_cells" ij f fd) (T:Txt w K mg) (fj:Ak cz 1 "row_count" ["row"] ji P w K mg base j7 lX):Zq P w K mg base cz 2 f fd ["picture"] (gS K):=by refine F.ok nT (λvs H Q E h=>h.1) (λcdv A outer s H vs Q E hr h=>?_);have nd:=(nT).nd;exact⟨_,av (aR (bv (xO rfl) (by rfl) T.sum Gg (ac (dZ (show Zw ["picture"] (aB ij) _ ["y", "row"] [none,none] from fH) (dq (pv 0)) (λ_=>fe rfl (aZ (uV 0) (aZ (uV 1) dh))) (jZ (bM bw (bM bw gV br) br)) (λ_=>cE) (λ_=>aH fj.G (hr.mono (by decide)) (by rfl) fj.m fj.k fj.b .nil aW (ac (pv 1) ai))) ai))),ww h⟩
def xn(F:Fun K "picture_of" "picture_of" gN f fd) (T:Txt w K mg) (jk:Ak cz 1 "row_of" ["pairs"] oE P w K mg base re sE):Zq P w K mg base cz 2 f fd ["stretches"] (eK K):=by refine F.ok ph (λvs H Q E h=>h.1) (λcdv A outer s H vs Q E hr h=>?_);have nd:=(ph).nd;exact⟨_,au (jo 1 nd (bL ai)) (au (qp WC rfl (dq (bv qX (by rfl) T.sorted lh (ac (dZ (show Zw ["stretches", "pairs_by_row", "y", "a", "b"] (aB gN) _ ["y", "a", "b"] [none,none,none] from fH) (dq (pv 0)) (λ_=>fe rfl (aZ (uV 0) (aZ (uV 1) (aZ (uV 2) dh)))) (jZ (bM bw (bM bw (bM bw gV br) br) br)) (λ_=>DT (fI AZ (pv 1) (pv 2))) (λ_=>fc (ac (pv 0) (ac (pv 1) (ac (pv 2) ai))))) ai))) (fe rfl (aZ (BO 2 nd) (aZ (BO 3 nd) (aZ (BO 4 nd) dh)))) (au (bd (PW.pt (nM (fN (b7 (pv 1) (λ_=>rfl))) (nN (fI (gi hr.units) (hZ (hZ (pv 1) (t7 nY aC)) aC) (pv 2))))) (av (dB (cR Vq WA WB hV (pv 1) (ac (fc (ac (pv 2) (ac (bL ai) ai))) ai)))) aP) (av (dB (cR Vq WA WB hV (hZ (hZ (pv 1) (t7 nY aC)) aC) (ac (fc (ac (pv 3) (ac (pv 4) ai))) ai)))))) (av (aR (hX oW (by rfl) T.tuple Ai (ac (dZ (show Zw ["stretches", "pairs_by_row", "y", "a", "b"] (aB gN) _ ["y", "pairs"] [none,none] from fH) (dq (pv 1)) (λ_=>fe rfl (aZ (uV 0) (aZ (uV 1) dh))) (jZ (bM bw (bM bw gV br) br)) (λ_=>cE) (λ_=>fc (ac (pv 0) (ac (aH jk.G (hr.mono (by decide)) (by rfl) jk.m jk.k jk.b .nil aW (ac (pv 1) ai)) ai)))) ai))))),xr h⟩
def xo(F:Fun K "read_whole" "read_whole" jc f fd) (T:Txt w K mg) (bA:Ak cz 1 "writes_whole" ["text"] eD P w K mg base e7 fY):Zq P w K mg base cz 2 f fd ["text"] (cT K):=by refine F.ok il (λvs H Q E h=>h.1) (λcdv A outer s H vs Q E hr h=>?_);have nd:=(il).nd;exact⟨_,au (bd (PW.pt (nM (fN (b7 (bv jl (by rfl) T.isinstance cP (ac (pv 0) (ac (l4 (v:=.ty "str") (by rfl) T.str mZ rfl) ai))) (λ_=>rfl))) (nN (fN (b7 (aH bA.G (hr.mono (by decide)) (by rfl) bA.m bA.k bA.b .nil aW (ac (pv 0) ai)) (λ_=>rfl)))))) (av (bV)) aP) (av (aR (hX xM (by rfl) T.int Gf (ac (pv 0) ai)))),xu h⟩
def AX(F:Fun K "show_row" "show_row" l8 f fd) (T:Txt w K mg) (c9:Ak cz 1 "show_stretch" ["a", "b"] f9 P w K mg base gG iL):Zq P w K mg base cz 2 f fd ["y", "row"] (kG K):=by refine F.ok ux (λvs H Q E h=>h.1) (λcdv A outer s H vs Q E hr h=>?_);have nd:=(ux).nd;exact⟨_,au (jo 2 nd (cR UT WD WE rG (aj) (ac (dZ (show Zw ["y", "row", "stretches"] (aB l8) _ ["a", "b"] [none,none] from fH) (dq (pv 1)) (λ_=>fe rfl (aZ (uV 0) (aZ (uV 1) dh))) (jZ (bM bw (bM bw gV br) br)) (λ_=>cE) (λ_=>aH c9.G (hr.mono (by decide)) (by rfl) c9.m c9.k c9.b .nil aW (ac (pv 0) (ac (pv 1) ai)))) ai))) (av (aR (Li (PJ.cons (A2 (pv 0)) (PJ.cons (aj) (PJ.cons (A2 (pv 2)) (PJ.nil))))))),Bl h⟩
def zj(F:Fun K "split_row" "split_row" kq f fd) (T:Txt w K mg) (bH:Ak cz 1 "is_read" ["kind"] ic P w K mg base jn jF):Zq P w K mg base cz 2 f fd ["row", "kinds"] (gU K):=by refine F.ok rZ (λvs H Q E h=>h.1) (λcdv A outer s H vs Q E hr h=>?_);have nd:=(rZ).nd;exact⟨_,au (bd (b7 (bv (EL rfl) (by rfl) T.any Mj (ac (dZ (show Zw ["row", "kinds"] (aB kq) _ ["kind"] [none] from fH) (dq (pv 1)) (λ_=>uV 0) bw (λ_=>cE) (λ_=>aH bH.G (hr.mono (by decide)) (by rfl) bH.m bH.k bH.b .nil aW (ac (pv 0) ai))) ai)) (λ_=>rfl)) (av (aR (cR UT Vx Vy Fi (pv 0) (ac (aj) (ac (bv eF (by rfl) T.len kL (ac (pv 1) ai)) ai))))) aP) (av (aR (cR UT Vx Vy gL (pv 0) (ac (aj) ai)))),zy h⟩
def wd(F:Fun K "read_whole" "read_whole" jc f fd) (T:Txt w K mg) (bA:Ak cz 1 "writes_whole" ["text"] eD P w K mg base e7 fY):Zq P w K mg base (g6 P w) 2 f fd ["text"] (dH K):=by refine F.okX il (λvs H Q E h=>h.1) (λcdv A outer s H vs Q E hr h=>?_);have nd:=(il).nd;exact⟨_,dF (bd (PW.pt (nM (fN (b7 (bv jl (by rfl) T.isinstance cP (ac (pv 0) (ac (l4 (v:=.ty "str") (by rfl) T.str mZ rfl) ai))) (λ_=>rfl))) (nN (fN (b7 (aH bA.G (hr.mono (by decide)) (by rfl) bA.m bA.k bA.b .nil aW (ac (pv 0) ai)) (λ_=>rfl)))))) (av (di eR T.xr_NoText hr.hd (by rfl) (aj))) aP),wv h⟩
def uC(F:Fun K "read_stretch" "read_stretch" gO f fd) (T:Txt w K mg) (aw:Ak cz 2 "read_whole" ["text"] cT P w K mg base cb b8):Zq P w K mg base cz 3 f fd ["y", "text"] (eA K):=by refine F.ok f8 (λvs H Q E h=>h.1) (λcdv A outer s H vs Q E hr h=>?_);have nd:=(f8).nd;exact⟨_,au (jo 2 nd (cR UT Vx Vy gL (pv 1) (ac (aj) ai))) (av (aR (fc (ac (pv 0) (ac (aH aw.G (hr.mono (by decide)) (by rfl) aw.m aw.k aw.b .nil aW (ac (hZ (pv 2) aC) ai)) (ac (aH aw.G (hr.mono (by decide)) (by rfl) aw.m aw.k aw.b .nil aW (ac (hZ (pv 2) (t7 nY aC)) ai)) ai)))))),uF h⟩
def JV(F:Fun K "show" "show" zG f fd) (T:Txt w K mg) (gr:Ak cz 2 "show_row" ["y", "row"] kG P w K mg base lV nj):Zq P w K mg base cz 3 f fd ["picture"] (oG K):=by refine F.ok Ea (λvs H Q E h=>h.1) (λcdv A outer s H vs Q E hr h=>?_);have nd:=(Ea).nd;exact⟨_,au (bd (fI (bh hr.units) (pv 0) (fc ai)) (av (aR (ja (v:=.str (Str.ofString "nothing")) (by rfl) T.WITHOUT_CELLS.choose_spec ⟨_,rfl⟩))) aP) (av (aR (cR UT WD WE rG (aj) (ac (dZ (show Zw ["picture"] (aB zG) _ ["y", "row"] [none,none] from fH) (dq (pv 0)) (λ_=>fe rfl (aZ (uV 0) (aZ (uV 1) dh))) (jZ (bM bw (bM bw gV br) br)) (λ_=>cE) (λ_=>aH gr.G (hr.mono (by decide)) (by rfl) gr.m gr.k gr.b .nil aW (ac (pv 0) (ac (pv 1) ai)))) ai)))),Km h⟩
def AY(F:Fun K "words_of" "words_of" l9 f fd) (T:Txt w K mg) (bX:Ak cz 2 "split_row" ["row", "kinds"] gU P w K mg base iA i5) (bH:Ak cz 1 "is_read" ["kind"] ic P w K mg base jn jF) (cH:Ak cz 1 "is_name" ["word"] jY P w K mg base lj lW):Zq P w K mg base cz 3 f fd ["row"] (gy K):=by refine F.ok ku (λvs H Q E h=>h.1) (λcdv A outer s H vs Q E hr h=>?_);have nd:=(ku).nd;exact⟨_,au (bd (fN (b7 (bv jl (by rfl) T.isinstance cP (ac (pv 0) (ac (l4 (v:=.ty "str") (by rfl) T.str mZ rfl) ai))) (λ_=>rfl))) (av (bV)) aP) (au (jo 1 nd (hZ (cR UT Wb Wc ox (pv 0) (ac (aj) ai)) aC)) (au (bd (zn (t6 T.ROWS (by rfl) (pv 1))) (av (bV)) aP) (au (jo 2 nd (aH bX.G (hr.mono (by decide)) (by rfl) bX.m bX.k bX.b .nil aW (ac (pv 0) (ac (cV T.ROWS (by rfl) (pv 1) (λ_ _=>rfl)) ai)))) (au (bd (fI (gi hr.units) (bv eF (by rfl) T.len kL (ac (pv 2) ai)) (bz bF aC (bv eF (by rfl) T.len kL (ac (cV T.ROWS (by rfl) (pv 1) (λ_ _=>rfl)) ai)))) (av (bV)) aP) (au (qp WC rfl (sU (by rfl) T.zip (ac (cV T.ROWS (by rfl) (pv 1) (λ_ _=>rfl)) (ac (er wK (pv 2) (f7 aC) (fZ)) ai))) (fe rfl (aZ (BO 3 nd) (aZ (BO 4 nd) dh))) (av (bd (PW.pt (qq (fN (b7 (aH bH.G (hr.mono (by decide)) (by rfl) bH.m bH.k bH.b .nil aW (ac (pv 3) ai)) (λ_=>rfl))) (l7 (fN (b7 (aH cH.G (hr.mono (by decide)) (by rfl) cH.m cH.k cH.b .nil aW (ac (pv 4) ai)) (λ_=>rfl)))))) (av (bV)) aP))) (av (aR (pv 2)))))))),Bm h⟩
def zg(F:Fun K "cells_of" "cells_of" qG f fd) (T:Txt w K mg) (dD:Ak cz 2 "count_cells" ["picture"] gS P w K mg base ig jE):Zq P w K mg base (g6 P w) 3 f fd ["picture"] (jg K):=by refine F.okX uw (λvs H Q E h=>h.1) (λcdv A outer s H vs Q E hr h=>?_);have nd:=(uw).nd;exact⟨_,dF (bd (fI Hf (aH dD.G (hr.mono (by decide)) (by rfl) dD.m dD.k dD.b .nil aW (ac (pv 0) ai)) (ja (v:=.int (1000)) (by rfl) T.MOST_CELLS.choose_spec ⟨_,rfl⟩)) (av (di eR T.xr_TooGreat hr.hd (by rfl) (aj))) aP),zu h⟩
def sS(F:Fun K "read_stretch" "read_stretch" gO f fd) (T:Txt w K mg) (aw:Ak cz 2 "read_whole" ["text"] cT P w K mg base cb b8) (bU:Ak (g6 P w) 2 "read_whole" ["text"] dH P w K mg base cb b8):Zq P w K mg base (g6 P w) 3 f fd ["y", "text"] (fF K):=by refine F.okX f8 (λvs H Q E h=>h.1) (λcdv A outer s H vs Q E hr h=>?_);have nd:=(f8).nd;exact⟨_,au (jo 2 nd (cR UT Vx Vy gL (pv 1) (ac (aj) ai))) (av (aR (fc (ac (pv 0) (ac (yh (aH bU.G (hr.mono (by decide)) (by rfl) aw.m aw.k aw.b .nil eM (ac (hZ (pv 2) aC) ai)) (aH aw.G (hr.mono (by decide)) (by rfl) aw.m aw.k aw.b .nil aW (ac (hZ (pv 2) aC) ai))) (ac (aH bU.G (hr.mono (by decide)) (by rfl) aw.m aw.k aw.b .nil eM (ac (hZ (pv 2) (t7 nY aC)) ai)) ai)))))),sX h⟩
def zh(F:Fun K "words_of" "words_of" l9 f fd) (T:Txt w K mg) (bX:Ak cz 2 "split_row" ["row", "kinds"] gU P w K mg base iA i5) (bH:Ak cz 1 "is_read" ["kind"] ic P w K mg base jn jF) (cH:Ak cz 1 "is_name" ["word"] jY P w K mg base lj lW):Zq P w K mg base (g6 P w) 3 f fd ["row"] (jh K):=by refine F.okX ku (λvs H Q E h=>h.1) (λcdv A outer s H vs Q E hr h=>?_);have nd:=(ku).nd;exact⟨_,au (bd (fN (b7 (bv jl (by rfl) T.isinstance cP (ac (pv 0) (ac (l4 (v:=.ty "str") (by rfl) T.str mZ rfl) ai))) (λ_=>rfl))) (av (di eR T.xr_NoRow hr.hd (by rfl) (aj))) aP) (au (jo 1 nd (hZ (cR UT Wb Wc ox (pv 0) (ac (aj) ai)) aC)) (au (bd (zn (t6 T.ROWS (by rfl) (pv 1))) (av (di eR T.xr_NoRow hr.hd (by rfl) (aj))) aP) (au (jo 2 nd (aH bX.G (hr.mono (by decide)) (by rfl) bX.m bX.k bX.b .nil aW (ac (pv 0) (ac (cV T.ROWS (by rfl) (pv 1) (λ_ _=>rfl)) ai)))) (au (bd (fI (gi hr.units) (bv eF (by rfl) T.len kL (ac (pv 2) ai)) (bz bF aC (bv eF (by rfl) T.len kL (ac (cV T.ROWS (by rfl) (pv 1) (λ_ _=>rfl)) ai)))) (av (di eR T.xr_NoRow hr.hd (by rfl) (aj))) aP) (dF (qp aas rfl (sU (by rfl) T.zip (ac (cV T.ROWS (by rfl) (pv 1) (λ_ _=>rfl)) (ac (er wK (pv 2) (f7 aC) (fZ)) ai))) (fe rfl (aZ (BO 3 nd) (aZ (BO 4 nd) dh))) (av (bd (PW.pt (qq (fN (b7 (aH bH.G (hr.mono (by decide)) (by rfl) bH.m bH.k bH.b .nil aW (ac (pv 3) ai)) (λ_=>rfl))) (l7 (fN (b7 (aH cH.G (hr.mono (by decide)) (by rfl) cH.m cH.k cH.b .nil aW (ac (pv 4) ai)) (λ_=>rfl)))))) (av (di eR T.xr_NoRow hr.hd (by rfl) (aj))) aP)))))))),zv h⟩
def rJ(F:Fun K "read_stretches" "read_stretches" bO f fd) (T:Txt w K mg) (aw:Ak cz 2 "read_whole" ["text"] cT P w K mg base cb b8) (aV:Ak cz 3 "read_stretch" ["y", "text"] eA P w K mg base dE ei):Zq P w K mg base cz 4 f fd ["text"] (dm K):=by refine F.ok eT (λvs H Q E h=>h.1) (λcdv A outer s H vs Q E hr h=>?_);have nd:=(eT).nd;exact⟨_,au (jo 1 nd (bL ai)) (au (qp WC rfl (dq (dZ (show Zw ["text", "stretches", "head", "colon", "tail", "y"] (aB bO) _ ["part"] [none] from fH) (dq (cR UT Vx Vy gL (pv 0) (ac (aj) ai))) (λ_=>uV 0) bw (λ_=>cE) (λ_=>cR UT Wb Wc ox (pv 0) (ac (aj) ai)))) (fe rfl (aZ (BO 2 nd) (aZ (BO 3 nd) (aZ (BO 4 nd) dh)))) (au (zm (i:=5) nd rfl (.inr rfl) (aH aw.G (hr.mono (by decide)) (by rfl) aw.m aw.k aw.b .nil aW (ac (pv 2) ai))) (av (dB (cR Vq Yq Yr zd (pv 1) (ac (dZ (show Zw ["text", "stretches", "head", "colon", "tail", "y"] (aB bO) _ ["part", "y"] [none,some 5] from fH) (dq (cR UT Vx Vy gL (pv 4) (ac (aj) ai))) (λ_=>uV 0) bw (λ_=>cE) (λ_=>aH aV.G (hr.mono (by decide)) (by rfl) aV.m aV.k aV.b .nil aW (ac (pv 1) (ac (pv 0) ai)))) ai)))))) (av (aR (pv 1)))),rS h⟩
def JW(F:Fun K "told" "told" CP f fd) (T:Txt w K mg) (c6:Ak cz 3 "show" ["picture"] oG P w K mg base sD rg) (fk:Ak cz 1 "yes_or_no" ["truth"] jj P w K mg base j8 lY):Zq P w K mg base cz 4 f fd ["word", "things"] (vb K):=by refine F.ok Eb (λvs H Q E h=>h.1) (λcdv A outer s H vs Q E hr h=>?_);have nd:=(Eb).nd;exact⟨_,au (bd (fI (bh hr.units) (pv 0) (aj)) (av (aR (aH c6.G (hr.mono (by decide)) (by rfl) c6.m c6.k c6.b .nil aW (ac (hZ (pv 1) aC) ai)))) aP) (au (bd (fI (bh hr.units) (pv 0) (aj)) (av (bV)) aP) (au (bd (fI (bh hr.units) (pv 0) (aj)) (av (bV)) aP) (au (bd (fI (bh hr.units) (pv 0) (aj)) (av (bV)) aP) (au (bd (fI (bh hr.units) (pv 0) (aj)) (av (aR (aH fk.G (hr.mono (by decide)) (by rfl) fk.m fk.k fk.b .nil aW (ac (eN (bh hr.units) (hZ (pv 1) aC) (hZ (pv 1) aC) (iM _)) ai)))) aP) (av (bV)))))),Kn h⟩
def p6(F:Fun K "read_stretches" "read_stretches" bO f fd) (T:Txt w K mg) (aw:Ak cz 2 "read_whole" ["text"] cT P w K mg base cb b8) (bU:Ak (g6 P w) 2 "read_whole" ["text"] dH P w K mg base cb b8) (aV:Ak cz 3 "read_stretch" ["y", "text"] eA P w K mg base dE ei) (iK:Ak (g6 P w) 3 "read_stretch" ["y", "text"] fF P w K mg base dE ei):Zq P w K mg base (g6 P w) 4 f fd ["text"] (ef K):=by refine F.okX eT (λvs H Q E h=>h.1) (λcdv A outer s H vs Q E hr h=>?_);have nd:=(eT).nd;exact⟨_,au (jo 1 nd (bL ai)) (dF (qp aas rfl (dq (dZ (show Zw ["text", "stretches", "head", "colon", "tail", "y"] (aB bO) _ ["part"] [none] from fH) (dq (cR UT Vx Vy gL (pv 0) (ac (aj) ai))) (λ_=>eO (i:=0) (show List.Nodup (["part"]:Zl) from by decide +kernel) rfl (.inl rfl)) bw (λ_=>cE) (λ_=>cR UT Wb Wc ox (pv 0) (ac (aj) ai)))) (fe rfl (aZ (BO 2 nd) (aZ (BO 3 nd) (aZ (BO 4 nd) dh)))) (au (yj (zm (i:=5) nd rfl (.inr rfl) (aH bU.G (hr.mono (by decide)) (by rfl) aw.m aw.k aw.b .nil eM (ac (pv 2) ai))) (zm (i:=5) nd rfl (.inr rfl) (aH aw.G (hr.mono (by decide)) (by rfl) aw.m aw.k aw.b .nil aW (ac (pv 2) ai)))) (av (yj (dB (cR Vq Yq Yr zd (pv 1) (ac (Hm uQ (show Zw ["text", "stretches", "head", "colon", "tail", "y"] (aB bO) _ ["part", "y"] [none,some 5] from fH) (dq (cR UT Vx Vy gL (pv 4) (ac (aj) ai))) (λ_ _=>eO (i:=0) (show List.Nodup (["part", "y"]:Zl) from by decide +kernel) rfl (.inl rfl)) bw (λ_ _=>cE) (λ_ _ hp=>yh (aH iK.G (hr.mono (by decide)) (by rfl) aV.m aV.k aV.b .nil hp (ac (pv 1) (ac (pv 0) ai))) (aH aV.G (hr.mono (by decide)) (by rfl) aV.m aV.k aV.b .nil aW (ac (pv 1) (ac (pv 0) ai))))) ai))) (dB (cR Vq Yq Yr zd (pv 1) (ac (dZ (show Zw ["text", "stretches", "head", "colon", "tail", "y"] (aB bO) _ ["part", "y"] [none,some 5] from fH) (dq (cR UT Vx Vy gL (pv 4) (ac (aj) ai))) (λ_=>eO (i:=0) (show List.Nodup (["part", "y"]:Zl) from by decide +kernel) rfl (.inl rfl)) bw (λ_=>cE) (λ_=>aH aV.G (hr.mono (by decide)) (by rfl) aV.m aV.k aV.b .nil aW (ac (pv 1) (ac (pv 0) ai)))) ai)))))))),qz h⟩
def AO{td:Addr}(F:FunD K "thinned" "thinned" cW td f fd) (T:Txt w K mg) (AX_cells_of:Ak (g6 P w) 3 "cells_of" ["picture"] jg P w K mg base f_cells_of fd_cells_of):Zq P w K mg base (g6 P w) 4 f fd ["picture", "ends"] (kx K):=by refine F.okX wI (λvs H Q E h=>h.1) (λcdv A outer s H vs Q E hr h=>?_);have nd:=(wI).nd;exact⟨_,dF (jo 2 nd (hX (B5 (Ko hr.units) rfl) (by rfl) T.dict Jp (ac (dZ (show Zw ["picture", "ends", "kept", "taken", "taken_before"] (aB cW) _ ["cell"] [none] from fH) (dq (aH AX_cells_of.G (hr.mono (by decide)) (by rfl) AX_cells_of.m AX_cells_of.k AX_cells_of.b .nil eM (ac (pv 0) ai))) (λ_=>eO (i:=0) (show List.Nodup (["cell"]:Zl) from by decide +kernel) rfl (.inl rfl)) bw (λ_=>cE) (λ_=>fc (ac (pv 0) (ac nH ai)))) ai))),Be h⟩
def JU(F:Fun K "read" "read" zF f fd) (T:Txt w K mg) (bu:Ak cz 2 "picture_of" ["stretches"] eK P w K mg base gF ii) (aY:Ak cz 4 "read_stretches" ["text"] dm P w K mg base cU df) (c6:Ak cz 3 "show" ["picture"] oG P w K mg base sD rg):Zq P w K mg base cz 5 f fd ["text"] (se K):=by refine F.ok uZ (λvs H Q E h=>h.1) (λcdv A outer s H vs Q E hr h=>?_);have nd:=(uZ).nd;exact⟨_,au (bd (fN (b7 (bv jl (by rfl) T.isinstance cP (ac (pv 0) (ac (l4 (v:=.ty "str") (by rfl) T.str mZ rfl) ai))) (λ_=>rfl))) (av (bV)) aP) (au (bd (fI (bh hr.units) (pv 0) (ja (v:=.str (Str.ofString "nothing")) (by rfl) T.WITHOUT_CELLS.choose_spec ⟨_,rfl⟩)) (av (aR (fc ai))) aP) (au (jo 1 nd (aH bu.G (hr.mono (by decide)) (by rfl) bu.m bu.k bu.b .nil aW (ac (aH aY.G (hr.mono (by decide)) (by rfl) aY.m aY.k aY.b .nil aW (ac (pv 0) ai)) ai))) (au (bd (fI (gi hr.units) (aH c6.G (hr.mono (by decide)) (by rfl) c6.m c6.k c6.b .nil aW (ac (pv 1) ai)) (pv 0)) (av (bV)) aP) (av (aR (pv 1)))))),Kl h⟩
def Hb(F:Fun K "made" "made" zE f fd) (T:Txt w K mg) (AX_thinned:Ak (g6 P w) 4 "thinned" ["picture", "ends"] kx P w K mg base f_thinned fd_thinned) (bd_thinned:Binds K fd_thinned ["picture", "ends"] [.bool true]):Zq P w K mg base (g6 P w) 5 f fd ["word", "things"] (r9 K):=by refine F.okX uY (λvs H Q E h=>h.1) (λcdv A outer s H vs Q E hr h=>?_);have nd:=(uY).nd;exact⟨_,au (bd (fI (bh hr.units) (pv 0) (aj)) (av (aR (hZ (pv 1) aC))) aP) (dF (bd (fI (bh hr.units) (pv 0) (aj)) (av (aR (hZ (aH AX_thinned.G (hr.mono (by decide)) (by rfl) AX_thinned.m AX_thinned.k bd_thinned (.cons (show RelV (.bl true) (Value.bool true) from rfl) .nil) eM (ac (hZ (pv 1) aC) ai)) aC))) aP)),HD h⟩
def Hc(F:Fun K "read" "read" zF f fd) (T:Txt w K mg) (bu:Ak cz 2 "picture_of" ["stretches"] eK P w K mg base gF ii) (aY:Ak cz 4 "read_stretches" ["text"] dm P w K mg base cU df) (gB:Ak (g6 P w) 4 "read_stretches" ["text"] ef P w K mg base cU df) (c6:Ak cz 3 "show" ["picture"] oG P w K mg base sD rg):Zq P w K mg base (g6 P w) 5 f fd ["text"] (nW K):=by refine F.okX uZ (λvs H Q E h=>h.1) (λcdv A outer s H vs Q E hr h=>?_);have nd:=(uZ).nd;exact⟨_,au (bd (fN (b7 (bv jl (by rfl) T.isinstance cP (ac (pv 0) (ac (l4 (v:=.ty "str") (by rfl) T.str mZ rfl) ai))) (λ_=>rfl))) (av (di eR T.xr_NoText hr.hd (by rfl) (aj))) aP) (au (bd (fI (bh hr.units) (pv 0) (ja (v:=.str (Str.ofString "nothing")) (by rfl) T.WITHOUT_CELLS.choose_spec ⟨_,rfl⟩)) (av (aR (fc ai))) aP) (au (yj (jo 1 nd (aH bu.G (hr.mono (by decide)) (by rfl) bu.m bu.k bu.b .nil aW (ac (aH gB.G (hr.mono (by decide)) (by rfl) aY.m aY.k aY.b .nil eM (ac (pv 0) ai)) ai))) (jo 1 nd (aH bu.G (hr.mono (by decide)) (by rfl) bu.m bu.k bu.b .nil aW (ac (aH aY.G (hr.mono (by decide)) (by rfl) aY.m aY.k aY.b .nil aW (ac (pv 0) ai)) ai)))) (dF (bd (fI (gi hr.units) (aH c6.G (hr.mono (by decide)) (by rfl) c6.m c6.k c6.b .nil aW (ac (pv 1) ai)) (pv 0)) (av (di eR T.xr_NoText hr.hd (by rfl) (aj))) aP)))),HE h⟩
def xm(F:Fun K "meant" "Desk.meant" jb f fd) (T:Txt w K mg) (dS:Ak cz 5 "read" ["text"] se P w K mg base pO oj):Zq P w K mg base cz 6 f fd ["self", "kind", "said"] (eJ K):=by refine F.ok ik (λvs H Q E h=>h.1) (λcdv A outer s H vs Q E hr h=>?_);have nd:=(ik).nd;exact⟨_,au (bd (fI (bh hr.units) (pv 1) (aj)) (av (aR (pv 2))) aP) (au (bd (fI (bh hr.units) (pv 1) (aj)) (av (aR (aH dS.G (hr.mono (by decide)) (by rfl) dS.m dS.k dS.b .nil aW (ac (pv 2) ai)))) aP) (au (bd (fI (bh hr.units) (pv 1) (aj)) (av (bV)) aP) (au (bd (zn (yg (Px hr.units) (pv 2) (fw T.cN_pictures (pv 0) rfl))) (av (bV)) aP) (av (aR (Ka (Px hr.units) (fw T.cN_pictures (pv 0) rfl) (pv 2) (λ_ _=>rfl))))))),xq h⟩
def sR(F:Fun K "form_written" "form_written" fg f fd) (T:Txt w K mg) (aw:Ak cz 2 "read_whole" ["text"] cT P w K mg base cb b8) (bU:Ak (g6 P w) 2 "read_whole" ["text"] dH P w K mg base cb b8) (dS:Ak cz 5 "read" ["text"] se P w K mg base pO oj) (iX:Ak (g6 P w) 5 "read" ["text"] nW P w K mg base pO oj) (AX_Box___init__:Ac (g6 P w) 1 "Box" ["self", "left", "up", "right", "down"] fD P w K mg base c_Box f_Box___init__ fd_Box___init__) (AX_Cross___init__:Ac (g6 P w) 1 "Cross" ["self", "arm"] cY P w K mg base c_Cross f_Cross___init__ fd_Cross___init__) (AX_Shape___init__:Ac (g6 P w) 1 "Shape" ["self", "picture"] cZ P w K mg base c_Shape f_Shape___init__ fd_Shape___init__):Zq P w K mg base (g6 P w) 6 f fd ["text"] (fE K):=by
 refine F.okX mz (λvs H Q E h=>h.1) (λcdv A outer s H vs Q E hr h=>?_);have nd:=(mz).nd;exact⟨_,au (jo 1 nd (cR UT Vx Vy gL (pv 0) (ac (aj) ai))) (au (bd (PW.pt (qq (fI (bh hr.units) (hZ (pv 1) aC) (aj)) (l7 (fI (bh hr.units) (bv eF (by rfl) T.len kL (ac (pv 1) ai)) aC)))) (au (yj (A7 (i:=2) uQ (show Zw ["text", "words", "numbers"] (aB fg) _ ["word"] [none] from fH) nd rfl (.inl rfl) (dq (er wK (pv 1) (f7 aC) (fZ))) (λ_ _=>eO (i:=0) (show List.Nodup (["word"]:Zl) from by decide +kernel) rfl (.inl rfl)) bw (λ_ _=>cE) (λ_ _ hp=>yh (aH bU.G (hr.mono (by decide)) (by rfl) aw.m aw.k aw.b .nil hp (ac (pv 0) ai)) (aH aw.G (hr.mono (by decide)) (by rfl) aw.m aw.k aw.b .nil aW (ac (pv 0) ai)))) (uW (i:=2) (hN:=nd) (hi0:=rfl) (hx:=Or.inl rfl) (ck:=(show Zw ["text", "words", "numbers"] (aB fg) _ ["word"] [none] from fH)) (hi:=dq (er wK (pv 1) (f7 aC) (fZ))) (hg:=λ_=>eO (i:=0) (show List.Nodup (["word"]:Zl) from by decide +kernel) rfl (.inl rfl)) (hs:=bw) (ht:=λ_=>cE) (he:=λ_=>aH aw.G (hr.mono (by decide)) (by rfl) aw.m aw.k aw.b .nil aW (ac (pv 0) ai)))) (av (aR (nI AX_Box___init__.n AX_Box___init__.M AX_Box___init__.G (hr.mono (by decide)) (by rfl) AX_Box___init__.g AX_Box___init__.b eM (ac (hZ (pv 2) aC) (ac (hZ (pv 2) aC) (ac (hZ (pv 2) aC) (ac (hZ (pv 2) aC) ai)))))))) aP) (au (bd (PW.pt (qq (fI (bh hr.units) (hZ (pv 1) aC) (aj)) (l7 (fI (bh hr.units) (bv eF (by rfl) T.len kL (ac (pv 1) ai)) aC)))) (av (aR (yh (nI AX_Cross___init__.n AX_Cross___init__.M AX_Cross___init__.G (hr.mono (by decide)) (by rfl) AX_Cross___init__.g AX_Cross___init__.b eM (ac (aH bU.G (hr.mono (by decide)) (by rfl) aw.m aw.k aw.b .nil eM (ac (hZ (pv 1) aC) ai)) ai)) (nI AX_Cross___init__.n AX_Cross___init__.M AX_Cross___init__.G (hr.mono (by decide)) (by rfl) AX_Cross___init__.g AX_Cross___init__.b eM (ac (aH aw.G (hr.mono (by decide)) (by rfl) aw.m aw.k aw.b .nil aW (ac (hZ (pv 1) aC) ai)) ai))))) aP) (au (bd (fI (bh hr.units) (hZ (pv 1) aC) (aj)) (av (aR (yh (nI AX_Shape___init__.n AX_Shape___init__.M AX_Shape___init__.G (hr.mono (by decide)) (by rfl) AX_Shape___init__.g AX_Shape___init__.b eM (ac (aH iX.G (hr.mono (by decide)) (by rfl) dS.m dS.k dS.b .nil eM (ac (hZ (cR UT Wb Wc ox (pv 0) (ac (aj) ai)) aC) ai)) ai)) (nI AX_Shape___init__.n AX_Shape___init__.M AX_Shape___init__.G (hr.mono (by decide)) (by rfl) AX_Shape___init__.g AX_Shape___init__.b eM (ac (aH dS.G (hr.mono (by decide)) (by rfl) dS.m dS.k dS.b .nil aW (ac (hZ (cR UT Wb Wc ox (pv 0) (ac (aj) ai)) aC) ai)) ai))))) aP) (av (di eR T.xr_NoForm hr.hd (by rfl) (aj)))))),sW h⟩
def ze(F:Fun K "say" "Desk.say" d6 f fd) (T:Txt w K mg) (bo:Ak cz 3 "words_of" ["row"] gy P w K mg base gd gu) (n6:Ak cz 1 "made" ["word", "things"] va P w K mg base vM uO) (a9:Ad cz 6 "meant" ["self", "kind", "said"] eJ P w K mg base de eG) (AD_Desk_take_back:Ad cz 2 "take_back" ["self"] d8 P w K mg base f_Desk_take_back fd_Desk_take_back) (AD_Desk_do:Ad cz 2 "do" ["self", "name", "picture"] gw P w K mg base f_Desk_do fd_Desk_do):Zq P w K mg base cz 7 f fd ["self", "row"] (je K):=by refine F.ok gv (λvs H Q E h=>h.1) (λcdv A outer s H vs Q E hr h=>?_);have nd:=(gv).nd;exact⟨_,au (jo 2 nd (aH bo.G (hr.mono (by decide)) (by rfl) bo.m bo.k bo.b .nil aW (ac (pv 1) ai))) (au (jo 3 nd (hZ (pv 2) aC)) (au (uW (i:=4) (hN:=nd) (hi0:=rfl) (hx:=Or.inl rfl) (ck:=(show Zw ["self", "row", "words", "word", "things"] (aB d6) _ ["kind", "said", "self"] [none,none,some 0] from fH)) (hi:=sU (by rfl) T.zip (ac (cV T.ROWS (by rfl) (pv 3) (λ_ _=>rfl)) (ac (er wK (pv 2) (f7 aC) (fZ)) ai))) (hg:=λ_=>fe rfl (aZ (uV 0) (aZ (uV 1) dh))) (hs:=jZ (bM bw (bM bw gV br) br)) (ht:=λ_=>cE) (he:=λ_=>b6 a9.cm a9.G (hr.mono (by decide)) a9.b aW (pv 2) (ac (pv 0) (ac (pv 1) ai)))) (au (bd (fI (bh hr.units) (pv 3) (aj)) (av (aR (cR UT WD WE rG (aj) (ac (bv (lM rfl) (by rfl) T.sorted lh (ac (fw T.cN_pictures (pv 0) rfl) ai)) ai)))) aP) (au (bd (fI (bh hr.units) (pv 3) (aj)) (av (dB (Fp AD_Desk_take_back.cm AD_Desk_take_back.G (hr.mono (by decide)) AD_Desk_take_back.b aW (pv 0)))) (av (bd (fI (bh hr.units) (pv 3) (aj)) (av (dB (b6 AD_Desk_do.cm AD_Desk_do.G (hr.mono (by decide)) AD_Desk_do.b aW (pv 0) (ac (hZ (pv 2) aC) (ac (wj) ai))))) (av (bd (uX oy (aj) (cV T.ROWS (by rfl) (pv 3) (λ_ _=>rfl)) rfl) (av (dB (b6 AD_Desk_do.cm AD_Desk_do.G (hr.mono (by decide)) AD_Desk_do.b aW (pv 0) (ac (hZ (pv 2) aC) (ac (aH n6.G (hr.mono (by decide)) (by rfl) n6.m n6.k n6.b .nil aW (ac (pv 3) (ac (er wK (pv 4) (f7 aC) (fZ)) ai))) ai))))) (av (bV))))))) (av (aR (aj))))))),zq h⟩
def AQ(F:Fun K "say" "Desk.say" d6 f fd) (T:Txt w K mg) (bo:Ak cz 3 "words_of" ["row"] gy P w K mg base gd gu) (n8:Ak cz 4 "told" ["word", "things"] vb P w K mg base yY y0) (a9:Ad cz 6 "meant" ["self", "kind", "said"] eJ P w K mg base de eG):Zq P w K mg base cz 7 f fd ["self", "row"] (iI K):=by refine F.ok gv (λvs H Q E h=>h.1) (λcdv A outer s H vs Q E hr h=>?_);have nd:=(gv).nd;exact⟨_,au (jo 2 nd (aH bo.G (hr.mono (by decide)) (by rfl) bo.m bo.k bo.b .nil aW (ac (pv 1) ai))) (au (jo 3 nd (hZ (pv 2) aC)) (au (uW (i:=4) (hN:=nd) (hi0:=rfl) (hx:=Or.inl rfl) (ck:=(show Zw ["self", "row", "words", "word", "things"] (aB d6) _ ["kind", "said", "self"] [none,none,some 0] from fH)) (hi:=sU (by rfl) T.zip (ac (cV T.ROWS (by rfl) (pv 3) (λ_ _=>rfl)) (ac (er wK (pv 2) (f7 aC) (fZ)) ai))) (hg:=λ_=>fe rfl (aZ (uV 0) (aZ (uV 1) dh))) (hs:=jZ (bM bw (bM bw gV br) br)) (ht:=λ_=>cE) (he:=λ_=>b6 a9.cm a9.G (hr.mono (by decide)) a9.b aW (pv 2) (ac (pv 0) (ac (pv 1) ai)))) (au (bd (fI (bh hr.units) (pv 3) (aj)) (av (aR (cR UT WD WE rG (aj) (ac (bv (lM rfl) (by rfl) T.sorted lh (ac (fw T.cN_pictures (pv 0) rfl) ai)) ai)))) aP) (au (bd (fI (bh hr.units) (pv 3) (aj)) (av (bV)) (av (bd (fI (bh hr.units) (pv 3) (aj)) (av (bV)) (av (bd (uX oy (aj) (cV T.ROWS (by rfl) (pv 3) (λ_ _=>rfl)) rfl) (av (bV)) (av (aR (aH n8.G (hr.mono (by decide)) (by rfl) n8.m n8.k n8.b .nil aW (ac (pv 3) (ac (pv 4) ai)))))))))) (av (aR (aj))))))),Bf h⟩
def xk(F:Fun K "read_form" "read_form" nQ f fd) (T:Txt w K mg) (AX_form_written:Ak (g6 P w) 6 "form_written" ["text"] fE P w K mg base f_form_written fd_form_written):Zq P w K mg base (g6 P w) 7 f fd ["text"] (im K):=by refine F.okX rX (λvs H Q E h=>h.1) (λcdv A outer s H vs Q E hr h=>?_);have nd:=(rX).nd;exact⟨_,av (Kf (L0:=["NoForm"]) (N1 := "NoText") (tu:=cw) uQ T.xd_NoText (by rfl) T.xr_NoForm (by rfl) (MU AX_form_written.G (hr.mono (by decide)) (by rfl) AX_form_written.m AX_form_written.k AX_form_written.b (λps W=>ac (pv 0) ai)) (λps W=>yl)),xp h⟩
def He(F:Fun K "_law_seen" "_law_seen" zB f fd) (T:Txt w K mg) (bG:Ad cz 7 "say" ["self", "row"] iI P w K mg base eZ gt):Zq P w K mg base cz 8 f fd ["_law_desk"] (sd K):=by refine F.ok Bu (λvs H Q E h=>h.1) (λcdv A outer s H vs Q E hr h=>?_);have nd:=(Bu).nd;exact⟨_,av (aR (bL (ac (b6 bG.cm bG.G (hr.mono (by decide)) bG.b aW (pv 0) (ac (aj) ai)) (ac (b6 bG.cm bG.G (hr.mono (by decide)) bG.b aW (pv 0) (ac (aj) ai)) (ac (b6 bG.cm bG.G (hr.mono (by decide)) bG.b aW (pv 0) (ac (aj) ai)) ai))))),HF h⟩
def wc(F:Fun K "meant" "Desk.meant" jb f fd) (T:Txt w K mg) (iX:Ak (g6 P w) 5 "read" ["text"] nW P w K mg base pO oj) (AX_read_form:Ak (g6 P w) 7 "read_form" ["text"] im P w K mg base f_read_form fd_read_form):Zq P w K mg base (g6 P w) 8 f fd ["self", "kind", "said"] (gR K):=by refine F.okX ik (λvs H Q E h=>h.1) (λcdv A outer s H vs Q E hr h=>?_);have nd:=(ik).nd;exact⟨_,au (bd (fI (bh hr.units) (pv 1) (aj)) (av (aR (pv 2))) aP) (au (bd (fI (bh hr.units) (pv 1) (aj)) (av (aR (aH iX.G (hr.mono (by decide)) (by rfl) iX.m iX.k iX.b .nil eM (ac (pv 2) ai)))) aP) (au (bd (fI (bh hr.units) (pv 1) (aj)) (av (aR (aH AX_read_form.G (hr.mono (by decide)) (by rfl) AX_read_form.m AX_read_form.k AX_read_form.b .nil eM (ac (pv 2) ai)))) aP) (dF (bd (zn (yg (Px hr.units) (pv 2) (fw T.cN_pictures (pv 0) rfl))) (av (di eR T.xr_NoName hr.hd (by rfl) (aj))) aP)))),wu h⟩
def zf(F:Fun K "say" "Desk.say" d6 f fd) (T:Txt w K mg) (bo:Ak cz 3 "words_of" ["row"] gy P w K mg base gd gu) (mI:Ak (g6 P w) 3 "words_of" ["row"] jh P w K mg base gd gu) (n9:Ak (g6 P w) 5 "made" ["word", "things"] r9 P w K mg base vM uO) (a9:Ad cz 6 "meant" ["self", "kind", "said"] eJ P w K mg base de eG) (kI:Ad (g6 P w) 8 "meant" ["self", "kind", "said"] gR P w K mg base de eG) (AX_Desk_take_back:Ad (g6 P w) 1 "take_back" ["self"] d9 P w K mg base f_Desk_take_back fd_Desk_take_back) (AD_Desk_do:Ad cz 2 "do" ["self", "name", "picture"] gw P w K mg base f_Desk_do fd_Desk_do):Zq P w K mg base (g6 P w) 9 f fd ["self", "row"] (jf K):=by
 refine F.okX gv (λvs H Q E h=>h.1) (λcdv A outer s H vs Q E hr h=>?_);have nd:=(gv).nd;exact⟨_,au (yj (jo 2 nd (aH mI.G (hr.mono (by decide)) (by rfl) bo.m bo.k bo.b .nil eM (ac (pv 1) ai))) (jo 2 nd (aH bo.G (hr.mono (by decide)) (by rfl) bo.m bo.k bo.b .nil aW (ac (pv 1) ai)))) (au (jo 3 nd (hZ (pv 2) aC)) (au (yj (A7 (i:=4) uQ (show Zw ["self", "row", "words", "word", "things"] (aB d6) _ ["kind", "said", "self"] [none,none,some 0] from fH) nd rfl (.inl rfl) (sU (by rfl) T.zip (ac (cV T.ROWS (by rfl) (pv 3) (λ_ _=>rfl)) (ac (er wK (pv 2) (f7 aC) (fZ)) ai))) (λ_ _=>fe rfl (aZ (eO (i:=0) (show List.Nodup (["kind", "said", "self"]:Zl) from by decide +kernel) rfl (.inl rfl)) (aZ (eO (i:=1) (show List.Nodup (["kind", "said", "self"]:Zl) from by decide +kernel) rfl (.inl rfl)) dh))) (jZ (bM bw (bM bw gV br) br)) (λ_ _=>cE) (λ_ _ hp=>yh (Hs a9.cm kI.G (hr.mono (by decide)) a9.b hp (pv 2) (ac (pv 0) (ac (pv 1) ai))) (b6 a9.cm a9.G (hr.mono (by decide)) a9.b aW (pv 2) (ac (pv 0) (ac (pv 1) ai))))) (uW (i:=4) (hN:=nd) (hi0:=rfl) (hx:=Or.inl rfl) (ck:=(show Zw ["self", "row", "words", "word", "things"] (aB d6) _ ["kind", "said", "self"] [none,none,some 0] from fH)) (hi:=sU (by rfl) T.zip (ac (cV T.ROWS (by rfl) (pv 3) (λ_ _=>rfl)) (ac (er wK (pv 2) (f7 aC) (fZ)) ai))) (hg:=λ_=>fe rfl (aZ (eO (i:=0) (show List.Nodup (["kind", "said", "self"]:Zl) from by decide +kernel) rfl (.inl rfl)) (aZ (eO (i:=1) (show List.Nodup (["kind", "said", "self"]:Zl) from by decide +kernel) rfl (.inl rfl)) dh))) (hs:=jZ (bM bw (bM bw gV br) br)) (ht:=λ_=>cE) (he:=λ_=>b6 a9.cm a9.G (hr.mono (by decide)) a9.b aW (pv 2) (ac (pv 0) (ac (pv 1) ai))))) (au (bd (fI (bh hr.units) (pv 3) (aj)) (av (aR (cR UT WD WE rG (aj) (ac (bv (lM rfl) (by rfl) T.sorted lh (ac (fw T.cN_pictures (pv 0) rfl) ai)) ai)))) aP) (dF (bd (fI (bh hr.units) (pv 3) (aj)) (av (dB (Fq AX_Desk_take_back.cm AX_Desk_take_back.G (hr.mono (by decide)) AX_Desk_take_back.b eM (pv 0)))) (av (bd (fI (bh hr.units) (pv 3) (aj)) (av (bV)) (av (bd (uX oy (aj) (cV T.ROWS (by rfl) (pv 3) (λ_ _=>rfl)) rfl) (av (dB (b6 AD_Desk_do.cm AD_Desk_do.G (hr.mono (by decide)) AD_Desk_do.b aW (pv 0) (ac (hZ (pv 2) aC) (ac (aH n9.G (hr.mono (by decide)) (by rfl) n9.m n9.k n9.b .nil eM (ac (pv 3) (ac (er wK (pv 4) (f7 aC) (fZ)) ai))) ai))))) (av (bV))))))))))),zt h⟩
def AW(F:Fun K "_law_refused" "_law_refused" qF f fd) (T:Txt w K mg) (ip:Ad (g6 P w) 9 "say" ["self", "row"] jf P w K mg base eZ gt):Zq P w K mg base cz 10 f fd ["_law_desk", "_law_row"] (iJ K):=by refine F.ok uv (λvs H Q E h=>h.1) (λcdv A outer s H vs Q E hr h=>?_);have nd:=(uv).nd;exact⟨_,au (jo 2 nd (wj)) (au (Ke (L:=PN) (i:=3) rfl rfl nd rfl rfl T.xc_ShapeError (by rfl) (J4 ip.cm ip.G (hr.mono (by decide)) ip.b (λps W=>pv 0) (λps W=>ac (pv 1) ai)) (λps W=>av (bV)) (λe=>(show PSs _ _ (Em K 3 [(2,[mX,lc,lf,k9,iy,k8,jB,fT])]) from av (jo 2 nd (bL (ac (p8 T.xa_NoRow (by rfl) T.isinstance (by rfl) (pv 3)) (ac (p8 T.xa_NoName (by rfl) T.isinstance (by rfl) (pv 3)) (ac (p8 T.xa_NoText (by rfl) T.isinstance (by rfl) (pv 3)) (ac (p8 T.xa_NoForm (by rfl) T.isinstance (by rfl) (pv 3)) (ac (p8 T.xa_TooGreat (by rfl) T.isinstance (by rfl) (pv 3)) (ac (p8 T.xa_NoBack (by rfl) T.isinstance (by rfl) (pv 3)) (ac (p8 T.xa_TooMany (by rfl) T.isinstance (by rfl) (pv 3)) (ac (Kb T.ValueError PyProof.Rows.Boot.«ValueError» T.xa_ValueError (by rfl) T.isinstance (by rfl) (pv 3)) ai))))))))))))) (au (bd (PW.pt (nM (fI Hh (pv 2) (wj)) (nM (fI (gi hr.units) (cR Vq PySem.F.slot_list_count PySem.F.type_list_count Fg (pv 2) (ac nH ai)) aC) (nN (fN (b7 (hZ (pv 2) aC) (λ_=>rfl))))))) (av (aR aC)) aP) (av (aR (cR Vq Y9 PySem.F.type_list_index (Fh hr.units) (pv 2) (ac nH ai)))))),Bk h⟩
def JS(F:Fun K "_law_one" "_law_one" CO f fd) (T:Txt w K mg) (aM:Ak cz 10 "_law_refused" ["_law_desk", "_law_row"] iJ P w K mg base jD j9) (g8:Ak cz 1 "_law_no_row" ["_law_cell"] md P w K mg base oi pP) (gp:Ak cz 1 "_law_no_name" ["_law_cell"] kE P w K mg base lS m9) (gq:Ak cz 1 "_law_no_text" ["_law_cell"] kF P w K mg base lU nh) (gm:Ak cz 1 "_law_no_form" ["_law_cell"] kD P w K mg base lR m8) (bG:Ad cz 7 "say" ["self", "row"] iI P w K mg base eZ gt):Zq P w K mg base cz 11 f fd ["_law_desk", "_law_cell", "_law_long"] (u9 K):=by refine F.ok D9 (λvs H Q E h=>h.1) (λcdv A outer s H vs Q E hr h=>?_);have nd:=(D9).nd;exact⟨_,au (jo 3 nd (bz uT (pv 1) aC)) (au (bd (fI (bh hr.units) (bz eL (pv 1) aC) aC) (av (aR (eN (bh hr.units) (aH aM.G (hr.mono (by decide)) (by rfl) aM.m aM.k aM.b .nil aW (ac (pv 0) (ac (aH g8.G (hr.mono (by decide)) (by rfl) g8.m g8.k g8.b .nil aW (ac (pv 3) ai)) ai))) aC (iM _)))) aP) (au (bd (fI (bh hr.units) (bz eL (pv 1) aC) aC) (av (aR (eN (bh hr.units) (aH aM.G (hr.mono (by decide)) (by rfl) aM.m aM.k aM.b .nil aW (ac (pv 0) (ac (aH gp.G (hr.mono (by decide)) (by rfl) gp.m gp.k gp.b .nil aW (ac (pv 3) ai)) ai))) aC (iM _)))) aP) (au (bd (fI (bh hr.units) (bz eL (pv 1) aC) aC) (av (aR (eN (bh hr.units) (aH aM.G (hr.mono (by decide)) (by rfl) aM.m aM.k aM.b .nil aW (ac (pv 0) (ac (aH gq.G (hr.mono (by decide)) (by rfl) gq.m gq.k gq.b .nil aW (ac (pv 3) ai)) ai))) aC (iM _)))) aP) (au (bd (fI (bh hr.units) (bz eL (pv 1) aC) aC) (av (aR (eN (bh hr.units) (aH aM.G (hr.mono (by decide)) (by rfl) aM.m aM.k aM.b .nil aW (ac (pv 0) (ac (aH gm.G (hr.mono (by decide)) (by rfl) gm.m gm.k gm.b .nil aW (ac (pv 3) ai)) ai))) aC (iM _)))) aP) (au (bd (PW.pt (qq (fI (bh hr.units) (bz eL (pv 1) aC) aC) (l7 (fI Hf (pv 2) aC)))) (av (aR (eN (bh hr.units) (aH aM.G (hr.mono (by decide)) (by rfl) aM.m aM.k aM.b .nil aW (ac (pv 0) (ac (bz bF (bz bF (aj) (hZ (bL (ac (aj) (ac (aj) ai))) (bz eL (pv 3) aC))) (aj)) ai))) aC (iM _)))) aP) (av (aR (eN (bh hr.units) (b6 bG.cm bG.G (hr.mono (by decide)) bG.b aW (pv 0) (ac (bz bF (aj) (hZ (bL (ac (aj) (ac (aj) ai))) (bz eL (pv 3) aC))) ai)) (hZ (bL (ac (aj) (ac (aj) ai))) (bz eL (pv 3) aC)) (iM _))))))))),Ki h⟩
def MN(F:Fun K "law" "law" HQ f fd) (T:Txt w K mg) (aM:Ak cz 10 "_law_refused" ["_law_desk", "_law_row"] iJ P w K mg base jD j9) (cO:Ak cz 1 "_law_cell_at" ["_law_script", "_law_k"] kz P w K mg base lQ m7) (n5:Ak cz 11 "_law_one" ["_law_desk", "_law_cell", "_law_long"] u9 P w K mg base yX yZ) (fP:Ak cz 8 "_law_seen" ["_law_desk"] sd P w K mg base uN vN) (bf:Ad cz 7 "say" ["self", "row"] je P w K mg base eZ gt) (AI_Desk:Ac cz 1 "Desk" ["self"] wN P w K mg base c_Desk f_Desk___init__ fd_Desk___init__):Zq P w K mg base cz 12 f fd ["_law_script"] (wO K):=by refine F.ok HU (λvs H Q E h=>h.1) (λcdv A outer s H vs Q E hr h=>?_);have nd:=(HU).nd;exact⟨_,au (jo 1 nd (Fo AI_Desk.n AI_Desk.M AI_Desk.G (hr.mono (by decide)) (by rfl) AI_Desk.g AI_Desk.b aW)) (au (bd (PW.pt (nM (fI (gi hr.units) (aH aM.G (hr.mono (by decide)) (by rfl) aM.m aM.k aM.b .nil aW (ac (pv 1) (ac (aj) ai))) aC) (nM (fI (gi hr.units) (aH aM.G (hr.mono (by decide)) (by rfl) aM.m aM.k aM.b .nil aW (ac (pv 1) (ac (aj) ai))) aC) (nN (fI (gi hr.units) (b6 bf.cm bf.G (hr.mono (by decide)) bf.b aW (pv 1) (ac (aj) ai)) (aj)))))) (av (aR nH)) aP) (au (jo 2 nd (hZ (bL (ac aC (ac aC (ac (bz MR aC aC) (ac (bz bF aC (bz eL (aH cO.G (hr.mono (by decide)) (by rfl) cO.m cO.k cO.b .nil aW (ac (pv 0) (ac aC ai))) aC)) ai))))) (bz eL (aH cO.G (hr.mono (by decide)) (by rfl) cO.m cO.k cO.b .nil aW (ac (pv 0) (ac aC ai))) aC))) (au (jo 3 nd (bz bF (aj) (hX xN (by rfl) T.str mZ (ac (bz bF aC (pv 2)) ai)))) (au (bd (PW.pt (nM (fI (gi hr.units) (b6 bf.cm bf.G (hr.mono (by decide)) bf.b aW (pv 1) (ac (aj) ai)) (aj)) (nN (fI (gi hr.units) (b6 bf.cm bf.G (hr.mono (by decide)) bf.b aW (pv 1) (ac (bz bF (aj) (pv 3)) ai)) (aj))))) (av (aR nH)) aP) (au (jo 4 nd (bL (ac (aj) (ac (aj) (ac (pv 3) ai))))) (au (qp WC rfl (dq (er wK (pv 0) (fZ) (f7 aC))) (BO 5 nd) (au (bd (fN (b7 (aH n5.G (hr.mono (by decide)) (by rfl) n5.m n5.k n5.b .nil aW (ac (pv 1) (ac (bz uT (bz eL (bz MQ (pv 5) aC) aC) aC) (ac (pv 2) ai)))) (λ_=>rfl))) (av (aR nH)) aP) (av (bd (PW.pt (qq (fI (bh hr.units) (bz eL (pv 5) aC) aC) (l7 (fI (gi hr.units) (aH fP.G (hr.mono (by decide)) (by rfl) fP.m fP.k fP.b .nil aW (ac (pv 1) ai)) (pv 4))))) (av (aR nH)) aP)))) (au (bd (PW.pt (nM (fI (gi hr.units) (aH fP.G (hr.mono (by decide)) (by rfl) fP.m fP.k fP.b .nil aW (ac (pv 1) ai)) (pv 4)) (nM (fI (gi hr.units) (b6 bf.cm bf.G (hr.mono (by decide)) bf.b aW (pv 1) (ac (aj) ai)) (aj)) (nN (fI (gi hr.units) (b6 bf.cm bf.G (hr.mono (by decide)) bf.b aW (pv 1) (ac (aj) ai)) (aj)))))) (av (aR nH)) aP) (av (aR (CH (eN (bh hr.units) (b6 bf.cm bf.G (hr.mono (by decide)) bf.b aW (pv 1) (ac (aj) ai)) (aj) (iM _)) (CH (eN (bh hr.units) (b6 bf.cm bf.G (hr.mono (by decide)) bf.b aW (pv 1) (ac (aj) ai)) (aj) (iM _)) (Ht (eN (bh hr.units) (aH aM.G (hr.mono (by decide)) (by rfl) aM.m aM.k aM.b .nil aW (ac (pv 1) (ac (aj) ai))) aC (iM _)))))))))))))),M8 h⟩
def Ha(F:Fun K "__init__" "Desk.__init__" iP f fd) (T:Txt w K mg):Zq P w K mg base cz 1 f fd ["self"] (wN K):=by refine F.ok tj (λvs H Q E h=>h.1) (λcdv A outer s H vs Q E hr h=>?_);exact⟨_,au (Hz (pv 0) Ho rfl) (av (Hz (pv 0) (bL ai) rfl)),GO T.cN_pictures T.cN_deeds h⟩
end
def Ma{l:W.OpenLaw}{w:World}{K:Zj}{h:Heap}{mg:Zg}{fa:Addr}(X:K.In h)(G:h.Ns mainGlobals mg)(hfa:mg "law"=some (.ref fa))
  {c_Desk:Addr}
  {c_Box:Addr}
  {c_Cross:Addr}
  {c_Shape:Addr}
  {f_Desk_set_picture lQ lR lS oi lU lj jn vM j7 re gG e7 j8 f_Box___init__ f_Cross___init__ f_Desk_take_back f_Shape___init__ f_Desk_do ig gF cb lV iA dE sD gd f_cells_of cU yY f_thinned pO de f_form_written eZ f_read_form uN jD yX GD f_Desk___init__:Addr} {fd_Desk_set_picture m7 m8 m9 pP nh lW jF uO lX sE iL fY lY fd_Box___init__ fd_Cross___init__ fd_Desk_take_back fd_Shape___init__ fd_Desk_do jE ii b8 nj i5 ei rg gu fd_cells_of df y0 oj eG fd_form_written gt fd_read_form vN j9 yZ Cc fd_Desk___init__:FuncData}
  {od_thinned an_thinned:Option Addr} {sl_thinned:Array (Zi)} {oc_thinned kV_thinned dc_thinned pm_thinned cd_thinned ct_thinned:Value}
  {dT_thinned:Addr} {dc_thinned_:Value} {dd_thinned:Option Addr} {dn_thinned:Nat} {ds_thinned:Array (Zi)}
  {c_NoBack:Addr}
  {c_NoForm:Addr}
  {c_NoName:Addr}
  {c_NoRow:Addr}
  {c_NoText:Addr}
  {c_ShapeError:Addr}
  {c_TooGreat:Addr}
  {c_TooMany:Addr}
  {t_FIGURES:Tok}
  {t_LETTERS:Tok}
  {t_MOST_CELLS:Tok}
  {t_MOST_FIGURES:Tok}
  {t_MOST_LETTERS:Tok}
  {t_WITHOUT_CELLS:Tok}
  {h_ROWS:Addr} {hn_ROWS:Nat}
  {g_ROWS_put_0:Addr} {od_ROWS_put_0:Option Addr} {n_ROWS_put_0:Nat} {sl_ROWS_put_0:Array (Zi)}
  {t_ROWS_put_0_0:Tok}
  {t_ROWS_put_0_1:Tok}
  {t_ROWS_put:Tok}
  {g_ROWS_join_0:Addr} {od_ROWS_join_0:Option Addr} {n_ROWS_join_0:Nat} {sl_ROWS_join_0:Array (Zi)}
  {t_ROWS_join_0_0:Tok}
  {t_ROWS_join_0_1:Tok}
  {t_ROWS_join_0_2:Tok}
  {t_ROWS_join:Tok}
  {g_ROWS_common_0:Addr} {od_ROWS_common_0:Option Addr} {n_ROWS_common_0:Nat} {sl_ROWS_common_0:Array (Zi)}
  {t_ROWS_common_0_0:Tok}
  {t_ROWS_common_0_1:Tok}
  {t_ROWS_common_0_2:Tok}
  {t_ROWS_common:Tok}
  {g_ROWS_less_0:Addr} {od_ROWS_less_0:Option Addr} {n_ROWS_less_0:Nat} {sl_ROWS_less_0:Array (Zi)}
  {t_ROWS_less_0_0:Tok}
  {t_ROWS_less_0_1:Tok}
  {t_ROWS_less_0_2:Tok}
  {t_ROWS_less:Tok}
  {g_ROWS_either_0:Addr} {od_ROWS_either_0:Option Addr} {n_ROWS_either_0:Nat} {sl_ROWS_either_0:Array (Zi)}
  {t_ROWS_either_0_0:Tok}
  {t_ROWS_either_0_1:Tok}
  {t_ROWS_either_0_2:Tok}
  {t_ROWS_either:Tok}
  {g_ROWS_greater_0:Addr} {od_ROWS_greater_0:Option Addr} {n_ROWS_greater_0:Nat} {sl_ROWS_greater_0:Array (Zi)}
  {t_ROWS_greater_0_0:Tok}
  {t_ROWS_greater_0_1:Tok}
  {t_ROWS_greater_0_2:Tok}
  {t_ROWS_greater:Tok}
  {g_ROWS_smaller_0:Addr} {od_ROWS_smaller_0:Option Addr} {n_ROWS_smaller_0:Nat} {sl_ROWS_smaller_0:Array (Zi)}
  {t_ROWS_smaller_0_0:Tok}
  {t_ROWS_smaller_0_1:Tok}
  {t_ROWS_smaller_0_2:Tok}
  {t_ROWS_smaller:Tok}
  {g_ROWS_opened_0:Addr} {od_ROWS_opened_0:Option Addr} {n_ROWS_opened_0:Nat} {sl_ROWS_opened_0:Array (Zi)}
  {t_ROWS_opened_0_0:Tok}
  {t_ROWS_opened_0_1:Tok}
  {t_ROWS_opened_0_2:Tok}
  {t_ROWS_opened:Tok}
  {g_ROWS_closed_0:Addr} {od_ROWS_closed_0:Option Addr} {n_ROWS_closed_0:Nat} {sl_ROWS_closed_0:Array (Zi)}
  {t_ROWS_closed_0_0:Tok}
  {t_ROWS_closed_0_1:Tok}
  {t_ROWS_closed_0_2:Tok}
  {t_ROWS_closed:Tok}
  {g_ROWS_thin_0:Addr} {od_ROWS_thin_0:Option Addr} {n_ROWS_thin_0:Nat} {sl_ROWS_thin_0:Array (Zi)}
  {t_ROWS_thin_0_0:Tok}
  {t_ROWS_thin_0_1:Tok}
  {t_ROWS_thin:Tok}
  {g_ROWS_fill_0:Addr} {od_ROWS_fill_0:Option Addr} {n_ROWS_fill_0:Nat} {sl_ROWS_fill_0:Array (Zi)}
  {t_ROWS_fill_0_0:Tok}
  {t_ROWS_fill_0_1:Tok}
  {t_ROWS_fill:Tok}
  {g_ROWS_drop_0:Addr} {od_ROWS_drop_0:Option Addr} {n_ROWS_drop_0:Nat} {sl_ROWS_drop_0:Array (Zi)}
  {t_ROWS_drop_0_0:Tok}
  {t_ROWS_drop:Tok}
  {g_ROWS_back_0:Addr} {od_ROWS_back_0:Option Addr} {n_ROWS_back_0:Nat} {sl_ROWS_back_0:Array (Zi)}
  {t_ROWS_back:Tok}
  {g_ROWS_show_0:Addr} {od_ROWS_show_0:Option Addr} {n_ROWS_show_0:Nat} {sl_ROWS_show_0:Array (Zi)}
  {t_ROWS_show_0_0:Tok}
  {t_ROWS_show:Tok}
  {g_ROWS_count_0:Addr} {od_ROWS_count_0:Option Addr} {n_ROWS_count_0:Nat} {sl_ROWS_count_0:Array (Zi)}
  {t_ROWS_count_0_0:Tok}
  {t_ROWS_count:Tok}
  {g_ROWS_pieces_0:Addr} {od_ROWS_pieces_0:Option Addr} {n_ROWS_pieces_0:Nat} {sl_ROWS_pieces_0:Array (Zi)}
  {t_ROWS_pieces_0_0:Tok}
  {t_ROWS_pieces:Tok}
  {g_ROWS_holes_0:Addr} {od_ROWS_holes_0:Option Addr} {n_ROWS_holes_0:Nat} {sl_ROWS_holes_0:Array (Zi)}
  {t_ROWS_holes_0_0:Tok}
  {t_ROWS_holes:Tok}
  {g_ROWS_same_0:Addr} {od_ROWS_same_0:Option Addr} {n_ROWS_same_0:Nat} {sl_ROWS_same_0:Array (Zi)}
  {t_ROWS_same_0_0:Tok}
  {t_ROWS_same_0_1:Tok}
  {t_ROWS_same:Tok}
  {g_ROWS_within_0:Addr} {od_ROWS_within_0:Option Addr} {n_ROWS_within_0:Nat} {sl_ROWS_within_0:Array (Zi)}
  {t_ROWS_within_0_0:Tok}
  {t_ROWS_within_0_1:Tok}
  {t_ROWS_within:Tok}
  {g_ROWS_names_0:Addr} {od_ROWS_names_0:Option Addr} {n_ROWS_names_0:Nat} {sl_ROWS_names_0:Array (Zi)}
  {t_ROWS_names:Tok}
  (n_Desk:W.nsIn K mainGlobals "Desk"=some (some (.ref c_Desk)))
  (n_Box:W.nsIn K mainGlobals "Box"=some (some (.ref c_Box)))
  (n_Cross:W.nsIn K mainGlobals "Cross"=some (some (.ref c_Cross)))
  (n_Shape:W.nsIn K mainGlobals "Shape"=some (some (.ref c_Shape)))
  (a_Desk_set_picture:W.findIn K (.ref c_Desk) "set_picture"=some (some (.ref f_Desk_set_picture)))
  (i_Desk_set_picture:W.isFn K (.ref f_Desk_set_picture)=true)
  (F_Desk_set_picture:Fun K "set_picture" "Desk.set_picture" gj f_Desk_set_picture fd_Desk_set_picture)
  (px:W.nsIn K mainGlobals "_law_cell_at"=some (some (.ref lQ)))
  (jq:Fun K "_law_cell_at" "_law_cell_at" qB lQ m7)
  (pz:W.nsIn K mainGlobals "_law_no_form"=some (some (.ref lR)))
  (jr:Fun K "_law_no_form" "_law_no_form" qC lR m8)
  (pD:W.nsIn K mainGlobals "_law_no_name"=some (some (.ref lS)))
  (jt:Fun K "_law_no_name" "_law_no_name" qD lS m9)
  (sv:W.nsIn K mainGlobals "_law_no_row"=some (some (.ref oi)))
  (kS:Fun K "_law_no_row" "_law_no_row" sZ oi pP)
  (pE:W.nsIn K mainGlobals "_law_no_text"=some (some (.ref lU)))
  (ju:Fun K "_law_no_text" "_law_no_text" qE lU nh)
  (sw:W.nsIn K mainGlobals "is_name"=some (some (.ref lj)))
  (kT:Fun K "is_name" "is_name" oz lj lW)
  (sx:W.nsIn K mainGlobals "is_read"=some (some (.ref jn)))
  (kU:Fun K "is_read" "is_read" tf jn jF)
  (yJ:W.nsIn K mainGlobals "made"=some (some (.ref vM)))
  (pk:Fun K "made" "made" zE vM uO)
  (mU:W.nsIn K mainGlobals "row_count"=some (some (.ref j7)))
  (iq:Fun K "row_count" "row_count" ko j7 lX)
  (vx:W.nsIn K mainGlobals "row_of"=some (some (.ref re)))
  (mJ:Fun K "row_of" "row_of" rV re sE)
  (jz:W.nsIn K mainGlobals "show_stretch"=some (some (.ref gG)))
  (eW:Fun K "show_stretch" "show_stretch" jX gG iL)
  (jA:W.nsIn K mainGlobals "writes_whole"=some (some (.ref e7)))
  (eX:Fun K "writes_whole" "writes_whole" gP e7 fY)
  (mW:W.nsIn K mainGlobals "yes_or_no"=some (some (.ref j8)))
  (iu:Fun K "yes_or_no" "yes_or_no" nR j8 lY)
  (a_Box___init__:W.findIn K (.ref c_Box) "__init__"=some (some (.ref f_Box___init__)))
  (i_Box___init__:W.isFn K (.ref f_Box___init__)=true)
  (F_Box___init__:Fun K "__init__" "Box.__init__" jV f_Box___init__ fd_Box___init__)
  (a_Cross___init__:W.findIn K (.ref c_Cross) "__init__"=some (some (.ref f_Cross___init__)))
  (i_Cross___init__:W.isFn K (.ref f_Cross___init__)=true)
  (F_Cross___init__:Fun K "__init__" "Cross.__init__" ia f_Cross___init__ fd_Cross___init__)
  (a_Desk_take_back:W.findIn K (.ref c_Desk) "take_back"=some (some (.ref f_Desk_take_back)))
  (i_Desk_take_back:W.isFn K (.ref f_Desk_take_back)=true)
  (F_Desk_take_back:Fun K "take_back" "Desk.take_back" fB f_Desk_take_back fd_Desk_take_back)
  (a_Shape___init__:W.findIn K (.ref c_Shape) "__init__"=some (some (.ref f_Shape___init__)))
  (i_Shape___init__:W.isFn K (.ref f_Shape___init__)=true)
  (F_Shape___init__:Fun K "__init__" "Shape.__init__" ib f_Shape___init__ fd_Shape___init__)
  (a_Desk_do:W.findIn K (.ref c_Desk) "do"=some (some (.ref f_Desk_do)))
  (i_Desk_do:W.isFn K (.ref f_Desk_do)=true)
  (F_Desk_do:Fun K "do" "Desk.do" sY f_Desk_do fd_Desk_do)
  (kJ:W.nsIn K mainGlobals "count_cells"=some (some (.ref ig)))
  (fQ:Fun K "count_cells" "count_cells" ij ig jE)
  (lK:W.nsIn K mainGlobals "picture_of"=some (some (.ref gF)))
  (gC:Fun K "picture_of" "picture_of" gN gF ii)
  (i0:W.nsIn K mainGlobals "read_whole"=some (some (.ref cb)))
  (dX:Fun K "read_whole" "read_whole" jc cb b8)
  (pG:W.nsIn K mainGlobals "show_row"=some (some (.ref lV)))
  (jw:Fun K "show_row" "show_row" l8 lV nj)
  (mV:W.nsIn K mainGlobals "split_row"=some (some (.ref iA)))
  (ir:Fun K "split_row" "split_row" kq iA i5)
  (gD:W.nsIn K mainGlobals "read_stretch"=some (some (.ref dE)))
  (cX:Fun K "read_stretch" "read_stretch" gO dE ei)
  (BS:W.nsIn K mainGlobals "show"=some (some (.ref sD)))
  (vf:Fun K "show" "show" zG sD rg)
  (lL:W.nsIn K mainGlobals "words_of"=some (some (.ref gd)))
  (gb:Fun K "words_of" "words_of" l9 gd gu)
  (a_cells_of:W.nsIn K mainGlobals "cells_of"=some (some (.ref f_cells_of)))
  (F_cells_of:Fun K "cells_of" "cells_of" qG f_cells_of fd_cells_of)
  (fm:W.nsIn K mainGlobals "read_stretches"=some (some (.ref cU)))
  (cp:Fun K "read_stretches" "read_stretches" bO cU df)
  (BU:W.nsIn K mainGlobals "told"=some (some (.ref yY)))
  (vg:Fun K "told" "told" CP yY y0)
  (a_thinned:W.nsIn K mainGlobals "thinned"=some (some (.ref f_thinned)))
  (l_thinned:K.lookup f_thinned=some ⟨oc_thinned,od_thinned,.func (W.fnOf "thinned" "thinned" (i4 cW) (fX cW) (aB cW) (.ref dT_thinned) kV_thinned dc_thinned pm_thinned an_thinned cd_thinned ct_thinned),sl_thinned⟩)
  (e_thinned:W.codeIn K cd_thinned "thinned"=true)
  (k_thinned:W.keepIn K (.ref f_thinned)=true)
  (dl_thinned:K.lookup dT_thinned=some ⟨dc_thinned_,dd_thinned,.seq #[.bool true] dn_thinned,ds_thinned⟩)
  (yK:W.nsIn K mainGlobals "read"=some (some (.ref pO)))
  (pp:Fun K "read" "read" zF pO oj)
  (iZ:W.findIn K (.ref c_Desk) "meant"=some (some (.ref de)))
  (i7:W.isFn K (.ref de)=true)
  (dU:Fun K "meant" "Desk.meant" jb de eG)
  (a_form_written:W.nsIn K mainGlobals "form_written"=some (some (.ref f_form_written)))
  (F_form_written:Fun K "form_written" "form_written" fg f_form_written fd_form_written)
  (jy:W.findIn K (.ref c_Desk) "say"=some (some (.ref eZ)))
  (jI:W.isFn K (.ref eZ)=true)
  (dW:Fun K "say" "Desk.say" d6 eZ gt)
  (a_read_form:W.nsIn K mainGlobals "read_form"=some (some (.ref f_read_form)))
  (F_read_form:Fun K "read_form" "read_form" nQ f_read_form fd_read_form)
  (yI:W.nsIn K mainGlobals "_law_seen"=some (some (.ref uN)))
  (qM:Fun K "_law_seen" "_law_seen" zB uN vN)
  (pF:W.nsIn K mainGlobals "_law_refused"=some (some (.ref jD)))
  (jv:Fun K "_law_refused" "_law_refused" qF jD j9)
  (BR:W.nsIn K mainGlobals "_law_one"=some (some (.ref yX)))
  (ve:Fun K "_law_one" "_law_one" CO yX yZ)
  (F5:W.nsIn K mainGlobals "law"=some (some (.ref GD)))
  (De:Fun K "law" "law" HQ GD Cc)
  (a_Desk___init__:W.findIn K (.ref c_Desk) "__init__"=some (some (.ref f_Desk___init__)))
  (i_Desk___init__:W.isFn K (.ref f_Desk___init__)=true)
  (F_Desk___init__:Fun K "__init__" "Desk.__init__" iP f_Desk___init__ fd_Desk___init__)
  (mk_Desk:W.makesIn K c_Desk=true)
  (kc_Desk:W.keepIn K (.ref c_Desk)=true)
  (mk_Box:W.makesIn K c_Box=true)
  (kc_Box:W.keepIn K (.ref c_Box)=true)
  (mk_Cross:W.makesIn K c_Cross=true)
  (kc_Cross:W.keepIn K (.ref c_Cross)=true)
  (mk_Shape:W.makesIn K c_Shape=true)
  (kc_Shape:W.keepIn K (.ref c_Shape)=true)
  (pg:W.plainGet K c_Desk Str.empty=true)
  (hd:W.hasDictIn K c_Desk=true)
  (po:W.plainOver K c_Desk=true)
  (sa:W.findIn K (.ref c_Desk) "__setattr__"=some (some (.builtin "object.__setattr__")))
  (np_pictures:W.findIn K (.ref c_Desk) "pictures"=some none)
  (np_deeds:W.findIn K (.ref c_Desk) "deeds"=some none)
  (n_NoBack:W.nsIn K mainGlobals "NoBack"=some (some (.ref c_NoBack)))
  (n_NoForm:W.nsIn K mainGlobals "NoForm"=some (some (.ref c_NoForm)))
  (n_NoName:W.nsIn K mainGlobals "NoName"=some (some (.ref c_NoName)))
  (n_NoRow:W.nsIn K mainGlobals "NoRow"=some (some (.ref c_NoRow)))
  (n_NoText:W.nsIn K mainGlobals "NoText"=some (some (.ref c_NoText)))
  (n_ShapeError:W.nsIn K mainGlobals "ShapeError"=some (some (.ref c_ShapeError)))
  (n_TooGreat:W.nsIn K mainGlobals "TooGreat"=some (some (.ref c_TooGreat)))
  (n_TooMany:W.nsIn K mainGlobals "TooMany"=some (some (.ref c_TooMany)))
  (xg:W.specialIn K (.builtin "object.__class__") "__get__"=some (some (.builtin "getset_descriptor.__get__")))
  (xt:W.takesIn K (.builtin "object.__class__")=some true)
  (x1_NoBack:W.hasDictIn K c_NoBack=true)
  (x2_NoBack:W.findIn K (.ref c_NoBack) "__getattribute__"=some (some (.builtin "BaseException.__getattribute__")))
  (x3_NoBack:W.findIn K (.ref c_NoBack) "__getattr__"=some none)
  (x4_NoBack:W.findIn K (.ref c_NoBack) "__class__"=some (some (.builtin "object.__class__")))
  (x5_NoBack:W.mroIn K c_NoBack (.type "object")=some true)
  (x6_NoBack:W.mroIn K c_NoBack (.type "BaseException")=some true)
  (xe_NoBack:W.excIn K c_NoBack xJ "ValueError.__new__"=true)
  (xo_NoBack_NoBack:W.kitOne K (.ref c_NoBack) (.ref c_NoBack)=some true)
  (xo_NoBack_NoForm:W.kitOne K (.ref c_NoBack) (.ref c_NoForm)=some false)
  (xo_NoBack_NoName:W.kitOne K (.ref c_NoBack) (.ref c_NoName)=some false)
  (xo_NoBack_NoRow:W.kitOne K (.ref c_NoBack) (.ref c_NoRow)=some false)
  (xo_NoBack_NoText:W.kitOne K (.ref c_NoBack) (.ref c_NoText)=some false)
  (xo_NoBack_TooGreat:W.kitOne K (.ref c_NoBack) (.ref c_TooGreat)=some false)
  (xo_NoBack_TooMany:W.kitOne K (.ref c_NoBack) (.ref c_TooMany)=some false)
  (xo_NoBack_ValueError:W.kitOne K (.ref c_NoBack) (.type "ValueError")=some true)
  (xm_NoBack_ShapeError:W.exmOne K (.ref c_NoBack) (.ref c_ShapeError)=some true)
  (x1_NoForm:W.hasDictIn K c_NoForm=true)
  (x2_NoForm:W.findIn K (.ref c_NoForm) "__getattribute__"=some (some (.builtin "BaseException.__getattribute__")))
  (x3_NoForm:W.findIn K (.ref c_NoForm) "__getattr__"=some none)
  (x4_NoForm:W.findIn K (.ref c_NoForm) "__class__"=some (some (.builtin "object.__class__")))
  (x5_NoForm:W.mroIn K c_NoForm (.type "object")=some true)
  (x6_NoForm:W.mroIn K c_NoForm (.type "BaseException")=some true)
  (xe_NoForm:W.excIn K c_NoForm xJ "ValueError.__new__"=true)
  (xo_NoForm_NoBack:W.kitOne K (.ref c_NoForm) (.ref c_NoBack)=some false)
  (xo_NoForm_NoForm:W.kitOne K (.ref c_NoForm) (.ref c_NoForm)=some true)
  (xo_NoForm_NoName:W.kitOne K (.ref c_NoForm) (.ref c_NoName)=some false)
  (xo_NoForm_NoRow:W.kitOne K (.ref c_NoForm) (.ref c_NoRow)=some false)
  (xo_NoForm_NoText:W.kitOne K (.ref c_NoForm) (.ref c_NoText)=some false)
  (xo_NoForm_TooGreat:W.kitOne K (.ref c_NoForm) (.ref c_TooGreat)=some false)
  (xo_NoForm_TooMany:W.kitOne K (.ref c_NoForm) (.ref c_TooMany)=some false)
  (xo_NoForm_ValueError:W.kitOne K (.ref c_NoForm) (.type "ValueError")=some true)
  (xm_NoForm_ShapeError:W.exmOne K (.ref c_NoForm) (.ref c_ShapeError)=some true)
  (x1_NoName:W.hasDictIn K c_NoName=true)
  (x2_NoName:W.findIn K (.ref c_NoName) "__getattribute__"=some (some (.builtin "BaseException.__getattribute__")))
  (x3_NoName:W.findIn K (.ref c_NoName) "__getattr__"=some none)
  (x4_NoName:W.findIn K (.ref c_NoName) "__class__"=some (some (.builtin "object.__class__")))
  (x5_NoName:W.mroIn K c_NoName (.type "object")=some true)
  (x6_NoName:W.mroIn K c_NoName (.type "BaseException")=some true)
  (xe_NoName:W.excIn K c_NoName xJ "ValueError.__new__"=true)
  (xo_NoName_NoBack:W.kitOne K (.ref c_NoName) (.ref c_NoBack)=some false)
  (xo_NoName_NoForm:W.kitOne K (.ref c_NoName) (.ref c_NoForm)=some false)
  (xo_NoName_NoName:W.kitOne K (.ref c_NoName) (.ref c_NoName)=some true)
  (xo_NoName_NoRow:W.kitOne K (.ref c_NoName) (.ref c_NoRow)=some false)
  (xo_NoName_NoText:W.kitOne K (.ref c_NoName) (.ref c_NoText)=some false)
  (xo_NoName_TooGreat:W.kitOne K (.ref c_NoName) (.ref c_TooGreat)=some false)
  (xo_NoName_TooMany:W.kitOne K (.ref c_NoName) (.ref c_TooMany)=some false)
  (xo_NoName_ValueError:W.kitOne K (.ref c_NoName) (.type "ValueError")=some true)
  (xm_NoName_ShapeError:W.exmOne K (.ref c_NoName) (.ref c_ShapeError)=some true)
  (x1_NoRow:W.hasDictIn K c_NoRow=true)
  (x2_NoRow:W.findIn K (.ref c_NoRow) "__getattribute__"=some (some (.builtin "BaseException.__getattribute__")))
  (x3_NoRow:W.findIn K (.ref c_NoRow) "__getattr__"=some none)
  (x4_NoRow:W.findIn K (.ref c_NoRow) "__class__"=some (some (.builtin "object.__class__")))
  (x5_NoRow:W.mroIn K c_NoRow (.type "object")=some true)
  (x6_NoRow:W.mroIn K c_NoRow (.type "BaseException")=some true)
  (xe_NoRow:W.excIn K c_NoRow xJ "ValueError.__new__"=true)
  (xo_NoRow_NoBack:W.kitOne K (.ref c_NoRow) (.ref c_NoBack)=some false)
  (xo_NoRow_NoForm:W.kitOne K (.ref c_NoRow) (.ref c_NoForm)=some false)
  (xo_NoRow_NoName:W.kitOne K (.ref c_NoRow) (.ref c_NoName)=some false)
  (xo_NoRow_NoRow:W.kitOne K (.ref c_NoRow) (.ref c_NoRow)=some true)
  (xo_NoRow_NoText:W.kitOne K (.ref c_NoRow) (.ref c_NoText)=some false)
  (xo_NoRow_TooGreat:W.kitOne K (.ref c_NoRow) (.ref c_TooGreat)=some false)
  (xo_NoRow_TooMany:W.kitOne K (.ref c_NoRow) (.ref c_TooMany)=some false)
  (xo_NoRow_ValueError:W.kitOne K (.ref c_NoRow) (.type "ValueError")=some true)
  (xm_NoRow_ShapeError:W.exmOne K (.ref c_NoRow) (.ref c_ShapeError)=some true)
  (x1_NoText:W.hasDictIn K c_NoText=true)
  (x2_NoText:W.findIn K (.ref c_NoText) "__getattribute__"=some (some (.builtin "BaseException.__getattribute__")))
  (x3_NoText:W.findIn K (.ref c_NoText) "__getattr__"=some none)
  (x4_NoText:W.findIn K (.ref c_NoText) "__class__"=some (some (.builtin "object.__class__")))
  (x5_NoText:W.mroIn K c_NoText (.type "object")=some true)
  (x6_NoText:W.mroIn K c_NoText (.type "BaseException")=some true)
  (xe_NoText:W.excIn K c_NoText xJ "ValueError.__new__"=true)
  (xo_NoText_NoBack:W.kitOne K (.ref c_NoText) (.ref c_NoBack)=some false)
  (xo_NoText_NoForm:W.kitOne K (.ref c_NoText) (.ref c_NoForm)=some false)
  (xo_NoText_NoName:W.kitOne K (.ref c_NoText) (.ref c_NoName)=some false)
  (xo_NoText_NoRow:W.kitOne K (.ref c_NoText) (.ref c_NoRow)=some false)
  (xo_NoText_NoText:W.kitOne K (.ref c_NoText) (.ref c_NoText)=some true)
  (xo_NoText_TooGreat:W.kitOne K (.ref c_NoText) (.ref c_TooGreat)=some false)
  (xo_NoText_TooMany:W.kitOne K (.ref c_NoText) (.ref c_TooMany)=some false)
  (xo_NoText_ValueError:W.kitOne K (.ref c_NoText) (.type "ValueError")=some true)
  (xm_NoText_ShapeError:W.exmOne K (.ref c_NoText) (.ref c_ShapeError)=some true)
  (x1_TooGreat:W.hasDictIn K c_TooGreat=true)
  (x2_TooGreat:W.findIn K (.ref c_TooGreat) "__getattribute__"=some (some (.builtin "BaseException.__getattribute__")))
  (x3_TooGreat:W.findIn K (.ref c_TooGreat) "__getattr__"=some none)
  (x4_TooGreat:W.findIn K (.ref c_TooGreat) "__class__"=some (some (.builtin "object.__class__")))
  (x5_TooGreat:W.mroIn K c_TooGreat (.type "object")=some true)
  (x6_TooGreat:W.mroIn K c_TooGreat (.type "BaseException")=some true)
  (xe_TooGreat:W.excIn K c_TooGreat xJ "ValueError.__new__"=true)
  (xo_TooGreat_NoBack:W.kitOne K (.ref c_TooGreat) (.ref c_NoBack)=some false)
  (xo_TooGreat_NoForm:W.kitOne K (.ref c_TooGreat) (.ref c_NoForm)=some false)
  (xo_TooGreat_NoName:W.kitOne K (.ref c_TooGreat) (.ref c_NoName)=some false)
  (xo_TooGreat_NoRow:W.kitOne K (.ref c_TooGreat) (.ref c_NoRow)=some false)
  (xo_TooGreat_NoText:W.kitOne K (.ref c_TooGreat) (.ref c_NoText)=some false)
  (xo_TooGreat_TooGreat:W.kitOne K (.ref c_TooGreat) (.ref c_TooGreat)=some true)
  (xo_TooGreat_TooMany:W.kitOne K (.ref c_TooGreat) (.ref c_TooMany)=some false)
  (xo_TooGreat_ValueError:W.kitOne K (.ref c_TooGreat) (.type "ValueError")=some true)
  (xm_TooGreat_ShapeError:W.exmOne K (.ref c_TooGreat) (.ref c_ShapeError)=some true)
  (xf_NoText_NoText:W.exmOne K (.ref c_NoText) (.ref c_NoText)=some true)
  (xf_NoForm_NoText:W.exmOne K (.ref c_NoForm) (.ref c_NoText)=some false)
  (z_ValueError:W.nsIn K mainGlobals "ValueError"=some none)
  (z_all:W.nsIn K mainGlobals "all"=some none)
  (z_any:W.nsIn K mainGlobals "any"=some none)
  (z_dict:W.nsIn K mainGlobals "dict"=some none)
  (z_int:W.nsIn K mainGlobals "int"=some none)
  (z_isinstance:W.nsIn K mainGlobals "isinstance"=some none)
  (z_len:W.nsIn K mainGlobals "len"=some none)
  (z_max:W.nsIn K mainGlobals "max"=some none)
  (z_min:W.nsIn K mainGlobals "min"=some none)
  (z_sorted:W.nsIn K mainGlobals "sorted"=some none)
  (z_str:W.nsIn K mainGlobals "str"=some none)
  (z_sum:W.nsIn K mainGlobals "sum"=some none)
  (z_tuple:W.nsIn K mainGlobals "tuple"=some none)
  (z_zip:W.nsIn K mainGlobals "zip"=some none)
  (y_FIGURES:W.nsIn K mainGlobals "FIGURES"=some (some (.str (Str.ofString "0123456789") t_FIGURES)))
  (y_LETTERS:W.nsIn K mainGlobals "LETTERS"=some (some (.str (Str.ofString "abcdefghijklmnopqrstuvwxyz") t_LETTERS)))
  (y_MOST_CELLS:W.nsIn K mainGlobals "MOST_CELLS"=some (some (.int (1000) t_MOST_CELLS)))
  (y_MOST_FIGURES:W.nsIn K mainGlobals "MOST_FIGURES"=some (some (.int (60) t_MOST_FIGURES)))
  (y_MOST_LETTERS:W.nsIn K mainGlobals "MOST_LETTERS"=some (some (.int (8) t_MOST_LETTERS)))
  (y_WITHOUT_CELLS:W.nsIn K mainGlobals "WITHOUT_CELLS"=some (some (.str (Str.ofString "nothing") t_WITHOUT_CELLS)))
  (y_ROWS:W.nsIn K mainGlobals "ROWS"=some (some (.ref h_ROWS)))
  (v_ROWS:K.lookup h_ROWS=some ⟨.type "dict",none,.dict #[⟨PyData.keyHash w.params (Str.ofString "put"),.str (Str.ofString "put") t_ROWS_put,.ref g_ROWS_put_0⟩,⟨PyData.keyHash w.params (Str.ofString "join"),.str (Str.ofString "join") t_ROWS_join,.ref g_ROWS_join_0⟩,⟨PyData.keyHash w.params (Str.ofString "common"),.str (Str.ofString "common") t_ROWS_common,.ref g_ROWS_common_0⟩,⟨PyData.keyHash w.params (Str.ofString "less"),.str (Str.ofString "less") t_ROWS_less,.ref g_ROWS_less_0⟩,⟨PyData.keyHash w.params (Str.ofString "either"),.str (Str.ofString "either") t_ROWS_either,.ref g_ROWS_either_0⟩,⟨PyData.keyHash w.params (Str.ofString "greater"),.str (Str.ofString "greater") t_ROWS_greater,.ref g_ROWS_greater_0⟩,⟨PyData.keyHash w.params (Str.ofString "smaller"),.str (Str.ofString "smaller") t_ROWS_smaller,.ref g_ROWS_smaller_0⟩,⟨PyData.keyHash w.params (Str.ofString "opened"),.str (Str.ofString "opened") t_ROWS_opened,.ref g_ROWS_opened_0⟩,⟨PyData.keyHash w.params (Str.ofString "closed"),.str (Str.ofString "closed") t_ROWS_closed,.ref g_ROWS_closed_0⟩,⟨PyData.keyHash w.params (Str.ofString "thin"),.str (Str.ofString "thin") t_ROWS_thin,.ref g_ROWS_thin_0⟩,⟨PyData.keyHash w.params (Str.ofString "fill"),.str (Str.ofString "fill") t_ROWS_fill,.ref g_ROWS_fill_0⟩,⟨PyData.keyHash w.params (Str.ofString "drop"),.str (Str.ofString "drop") t_ROWS_drop,.ref g_ROWS_drop_0⟩,⟨PyData.keyHash w.params (Str.ofString "back"),.str (Str.ofString "back") t_ROWS_back,.ref g_ROWS_back_0⟩,⟨PyData.keyHash w.params (Str.ofString "show"),.str (Str.ofString "show") t_ROWS_show,.ref g_ROWS_show_0⟩,⟨PyData.keyHash w.params (Str.ofString "count"),.str (Str.ofString "count") t_ROWS_count,.ref g_ROWS_count_0⟩,⟨PyData.keyHash w.params (Str.ofString "pieces"),.str (Str.ofString "pieces") t_ROWS_pieces,.ref g_ROWS_pieces_0⟩,⟨PyData.keyHash w.params (Str.ofString "holes"),.str (Str.ofString "holes") t_ROWS_holes,.ref g_ROWS_holes_0⟩,⟨PyData.keyHash w.params (Str.ofString "same"),.str (Str.ofString "same") t_ROWS_same,.ref g_ROWS_same_0⟩,⟨PyData.keyHash w.params (Str.ofString "within"),.str (Str.ofString "within") t_ROWS_within,.ref g_ROWS_within_0⟩,⟨PyData.keyHash w.params (Str.ofString "names"),.str (Str.ofString "names") t_ROWS_names,.ref g_ROWS_names_0⟩] hn_ROWS,#[]⟩)
  (q_ROWS:h_ROWS≠sysModules)
  (v_ROWS_put_0:K.lookup g_ROWS_put_0=some ⟨.type "tuple",od_ROWS_put_0,.seq #[.str (Str.ofString "NEW") t_ROWS_put_0_0,.str (Str.ofString "TEXT") t_ROWS_put_0_1] n_ROWS_put_0,sl_ROWS_put_0⟩)
  (v_ROWS_join_0:K.lookup g_ROWS_join_0=some ⟨.type "tuple",od_ROWS_join_0,.seq #[.str (Str.ofString "NEW") t_ROWS_join_0_0,.str (Str.ofString "ONE") t_ROWS_join_0_1,.str (Str.ofString "OTHER") t_ROWS_join_0_2] n_ROWS_join_0,sl_ROWS_join_0⟩)
  (v_ROWS_common_0:K.lookup g_ROWS_common_0=some ⟨.type "tuple",od_ROWS_common_0,.seq #[.str (Str.ofString "NEW") t_ROWS_common_0_0,.str (Str.ofString "ONE") t_ROWS_common_0_1,.str (Str.ofString "OTHER") t_ROWS_common_0_2] n_ROWS_common_0,sl_ROWS_common_0⟩)
  (v_ROWS_less_0:K.lookup g_ROWS_less_0=some ⟨.type "tuple",od_ROWS_less_0,.seq #[.str (Str.ofString "NEW") t_ROWS_less_0_0,.str (Str.ofString "ONE") t_ROWS_less_0_1,.str (Str.ofString "OTHER") t_ROWS_less_0_2] n_ROWS_less_0,sl_ROWS_less_0⟩)
  (v_ROWS_either_0:K.lookup g_ROWS_either_0=some ⟨.type "tuple",od_ROWS_either_0,.seq #[.str (Str.ofString "NEW") t_ROWS_either_0_0,.str (Str.ofString "ONE") t_ROWS_either_0_1,.str (Str.ofString "OTHER") t_ROWS_either_0_2] n_ROWS_either_0,sl_ROWS_either_0⟩)
  (v_ROWS_greater_0:K.lookup g_ROWS_greater_0=some ⟨.type "tuple",od_ROWS_greater_0,.seq #[.str (Str.ofString "NEW") t_ROWS_greater_0_0,.str (Str.ofString "ONE") t_ROWS_greater_0_1,.str (Str.ofString "FORM") t_ROWS_greater_0_2] n_ROWS_greater_0,sl_ROWS_greater_0⟩)
  (v_ROWS_smaller_0:K.lookup g_ROWS_smaller_0=some ⟨.type "tuple",od_ROWS_smaller_0,.seq #[.str (Str.ofString "NEW") t_ROWS_smaller_0_0,.str (Str.ofString "ONE") t_ROWS_smaller_0_1,.str (Str.ofString "FORM") t_ROWS_smaller_0_2] n_ROWS_smaller_0,sl_ROWS_smaller_0⟩)
  (v_ROWS_opened_0:K.lookup g_ROWS_opened_0=some ⟨.type "tuple",od_ROWS_opened_0,.seq #[.str (Str.ofString "NEW") t_ROWS_opened_0_0,.str (Str.ofString "ONE") t_ROWS_opened_0_1,.str (Str.ofString "FORM") t_ROWS_opened_0_2] n_ROWS_opened_0,sl_ROWS_opened_0⟩)
  (v_ROWS_closed_0:K.lookup g_ROWS_closed_0=some ⟨.type "tuple",od_ROWS_closed_0,.seq #[.str (Str.ofString "NEW") t_ROWS_closed_0_0,.str (Str.ofString "ONE") t_ROWS_closed_0_1,.str (Str.ofString "FORM") t_ROWS_closed_0_2] n_ROWS_closed_0,sl_ROWS_closed_0⟩)
  (v_ROWS_thin_0:K.lookup g_ROWS_thin_0=some ⟨.type "tuple",od_ROWS_thin_0,.seq #[.str (Str.ofString "NEW") t_ROWS_thin_0_0,.str (Str.ofString "ONE") t_ROWS_thin_0_1] n_ROWS_thin_0,sl_ROWS_thin_0⟩)
  (v_ROWS_fill_0:K.lookup g_ROWS_fill_0=some ⟨.type "tuple",od_ROWS_fill_0,.seq #[.str (Str.ofString "NEW") t_ROWS_fill_0_0,.str (Str.ofString "ONE") t_ROWS_fill_0_1] n_ROWS_fill_0,sl_ROWS_fill_0⟩)
  (v_ROWS_drop_0:K.lookup g_ROWS_drop_0=some ⟨.type "tuple",od_ROWS_drop_0,.seq #[.str (Str.ofString "ONE") t_ROWS_drop_0_0] n_ROWS_drop_0,sl_ROWS_drop_0⟩)
  (v_ROWS_back_0:K.lookup g_ROWS_back_0=some ⟨.type "tuple",od_ROWS_back_0,.seq #[] n_ROWS_back_0,sl_ROWS_back_0⟩)
  (v_ROWS_show_0:K.lookup g_ROWS_show_0=some ⟨.type "tuple",od_ROWS_show_0,.seq #[.str (Str.ofString "ONE") t_ROWS_show_0_0] n_ROWS_show_0,sl_ROWS_show_0⟩)
  (v_ROWS_count_0:K.lookup g_ROWS_count_0=some ⟨.type "tuple",od_ROWS_count_0,.seq #[.str (Str.ofString "ONE") t_ROWS_count_0_0] n_ROWS_count_0,sl_ROWS_count_0⟩)
  (v_ROWS_pieces_0:K.lookup g_ROWS_pieces_0=some ⟨.type "tuple",od_ROWS_pieces_0,.seq #[.str (Str.ofString "ONE") t_ROWS_pieces_0_0] n_ROWS_pieces_0,sl_ROWS_pieces_0⟩)
  (v_ROWS_holes_0:K.lookup g_ROWS_holes_0=some ⟨.type "tuple",od_ROWS_holes_0,.seq #[.str (Str.ofString "ONE") t_ROWS_holes_0_0] n_ROWS_holes_0,sl_ROWS_holes_0⟩)
  (v_ROWS_same_0:K.lookup g_ROWS_same_0=some ⟨.type "tuple",od_ROWS_same_0,.seq #[.str (Str.ofString "ONE") t_ROWS_same_0_0,.str (Str.ofString "OTHER") t_ROWS_same_0_1] n_ROWS_same_0,sl_ROWS_same_0⟩)
  (v_ROWS_within_0:K.lookup g_ROWS_within_0=some ⟨.type "tuple",od_ROWS_within_0,.seq #[.str (Str.ofString "ONE") t_ROWS_within_0_0,.str (Str.ofString "OTHER") t_ROWS_within_0_1] n_ROWS_within_0,sl_ROWS_within_0⟩)
  (v_ROWS_names_0:K.lookup g_ROWS_names_0=some ⟨.type "tuple",od_ROWS_names_0,.seq #[] n_ROWS_names_0,sl_ROWS_names_0⟩)
  : ∃fd:FuncData,(∀(s:Shared) (v:Value),BindsTo s fd ⟨[v],[]⟩ [("_law_script",v)])/\∀base:Heap,K.In base->base.Ns mainGlobals mg->Zq l.prog w K mg base cz 12 fa fd ["_law_script"] (wO K):=by
 have e:=hfa.symm.trans (Uy X G F5);cases e;have cD:Cls K c_Desk:=⟨pg,hd,po,sa⟩
 have cN_pictures:qL K tG λC=>Cls K C/\NoAttr K C "pictures" := m6 n_Desk cD np_pictures;have cN_deeds:qL K tG λC=>Cls K C/\NoAttr K C "deeds" := m6 n_Desk cD np_deeds;have xc_ShapeError:∃T:Addr,mg "ShapeError"=some (.ref T)/\∀N∈PN,∀C:Addr,W.nsIn K mainGlobals N=some (some (.ref C))->W.exmOne K (.ref C) (.ref T)=some true:=by
  refine⟨c_ShapeError,Uy X G n_ShapeError,λN hN C hC=>?_⟩;simp only[UC,Ve,Vf] at hN;rcases hN with rfl|rfl|rfl|rfl|rfl|rfl
  ·rw[n_NoBack] at hC;cases hC;exact xm_NoBack_ShapeError
  ·rw[n_NoForm] at hC;cases hC;exact xm_NoForm_ShapeError
  ·rw[n_NoName] at hC;cases hC;exact xm_NoName_ShapeError
  ·rw[n_NoRow] at hC;cases hC;exact xm_NoRow_ShapeError
  ·rw[n_NoText] at hC;cases hC;exact xm_NoText_ShapeError
  ·rw[n_TooGreat] at hC;cases hC;exact xm_TooGreat_ShapeError
 have xd_NoText:∃T:Addr,mg "NoText"=some (.ref T)/\(∀C:Addr,W.nsIn K mainGlobals "NoText"=some (some (.ref C))->W.exmOne K (.ref C) (.ref T)=some true)/\∀N∈(["NoForm"]:Zl),∀C:Addr,W.nsIn K mainGlobals N=some (some (.ref C))->W.exmOne K (.ref C) (.ref T)=some false:=by refine⟨c_NoText,Uy X G n_NoText,λC hC=>by rw[n_NoText] at hC;cases hC;exact xf_NoText_NoText,λN hN C hC=>?_⟩;simp only[UC,Ve,Vf] at hN;subst hN;rw[n_NoForm] at hC;cases hC;exact xf_NoForm_NoText
 have X_NoBack:ZJ K c_NoBack:=⟨x1_NoBack,x2_NoBack,x3_NoBack,x4_NoBack,xg,xt,x5_NoBack,x6_NoBack⟩
 have X_NoForm:ZJ K c_NoForm:=⟨x1_NoForm,x2_NoForm,x3_NoForm,x4_NoForm,xg,xt,x5_NoForm,x6_NoForm⟩
 have X_NoName:ZJ K c_NoName:=⟨x1_NoName,x2_NoName,x3_NoName,x4_NoName,xg,xt,x5_NoName,x6_NoName⟩
 have X_NoRow:ZJ K c_NoRow:=⟨x1_NoRow,x2_NoRow,x3_NoRow,x4_NoRow,xg,xt,x5_NoRow,x6_NoRow⟩
 have X_NoText:ZJ K c_NoText:=⟨x1_NoText,x2_NoText,x3_NoText,x4_NoText,xg,xt,x5_NoText,x6_NoText⟩
 have X_TooGreat:ZJ K c_TooGreat:=⟨x1_TooGreat,x2_TooGreat,x3_TooGreat,x4_TooGreat,xg,xt,x5_TooGreat,x6_TooGreat⟩
 have xa_NoBack:∃T:Addr,mg "NoBack"=some (.ref T)/\iY K k8 (.ref T):=⟨c_NoBack,Uy X G n_NoBack,aQ n_NoBack X_NoBack xo_NoBack_NoBack (aQ n_NoForm X_NoForm xo_NoForm_NoBack (aQ n_NoName X_NoName xo_NoName_NoBack (aQ n_NoRow X_NoRow xo_NoRow_NoBack (aQ n_NoText X_NoText xo_NoText_NoBack (aQ n_TooGreat X_TooGreat xo_TooGreat_NoBack (iw))))))⟩
 have xa_NoForm:∃T:Addr,mg "NoForm"=some (.ref T)/\iY K k9 (.ref T):=⟨c_NoForm,Uy X G n_NoForm,aQ n_NoBack X_NoBack xo_NoBack_NoForm (aQ n_NoForm X_NoForm xo_NoForm_NoForm (aQ n_NoName X_NoName xo_NoName_NoForm (aQ n_NoRow X_NoRow xo_NoRow_NoForm (aQ n_NoText X_NoText xo_NoText_NoForm (aQ n_TooGreat X_TooGreat xo_TooGreat_NoForm (iw))))))⟩
 have xa_NoName:∃T:Addr,mg "NoName"=some (.ref T)/\iY K lc (.ref T):=⟨c_NoName,Uy X G n_NoName,aQ n_NoBack X_NoBack xo_NoBack_NoName (aQ n_NoForm X_NoForm xo_NoForm_NoName (aQ n_NoName X_NoName xo_NoName_NoName (aQ n_NoRow X_NoRow xo_NoRow_NoName (aQ n_NoText X_NoText xo_NoText_NoName (aQ n_TooGreat X_TooGreat xo_TooGreat_NoName (iw))))))⟩
 have xa_NoRow:∃T:Addr,mg "NoRow"=some (.ref T)/\iY K mX (.ref T):=⟨c_NoRow,Uy X G n_NoRow,aQ n_NoBack X_NoBack xo_NoBack_NoRow (aQ n_NoForm X_NoForm xo_NoForm_NoRow (aQ n_NoName X_NoName xo_NoName_NoRow (aQ n_NoRow X_NoRow xo_NoRow_NoRow (aQ n_NoText X_NoText xo_NoText_NoRow (aQ n_TooGreat X_TooGreat xo_TooGreat_NoRow (iw))))))⟩
 have xa_NoText:∃T:Addr,mg "NoText"=some (.ref T)/\iY K lf (.ref T):=⟨c_NoText,Uy X G n_NoText,aQ n_NoBack X_NoBack xo_NoBack_NoText (aQ n_NoForm X_NoForm xo_NoForm_NoText (aQ n_NoName X_NoName xo_NoName_NoText (aQ n_NoRow X_NoRow xo_NoRow_NoText (aQ n_NoText X_NoText xo_NoText_NoText (aQ n_TooGreat X_TooGreat xo_TooGreat_NoText (iw))))))⟩
 have xa_TooGreat:∃T:Addr,mg "TooGreat"=some (.ref T)/\iY K iy (.ref T):=⟨c_TooGreat,Uy X G n_TooGreat,aQ n_NoBack X_NoBack xo_NoBack_TooGreat (aQ n_NoForm X_NoForm xo_NoForm_TooGreat (aQ n_NoName X_NoName xo_NoName_TooGreat (aQ n_NoRow X_NoRow xo_NoRow_TooGreat (aQ n_NoText X_NoText xo_NoText_TooGreat (aQ n_TooGreat X_TooGreat xo_TooGreat_TooGreat (iw))))))⟩
 have xa_TooMany:∃T:Addr,mg "TooMany"=some (.ref T)/\iY K jB (.ref T):=⟨c_TooMany,Uy X G n_TooMany,aQ n_NoBack X_NoBack xo_NoBack_TooMany (aQ n_NoForm X_NoForm xo_NoForm_TooMany (aQ n_NoName X_NoName xo_NoName_TooMany (aQ n_NoRow X_NoRow xo_NoRow_TooMany (aQ n_NoText X_NoText xo_NoText_TooMany (aQ n_TooGreat X_TooGreat xo_TooGreat_TooMany (iw))))))⟩
 have xa_ValueError:iY K fT (.type "ValueError"):=aQ n_NoBack X_NoBack xo_NoBack_ValueError (aQ n_NoForm X_NoForm xo_NoForm_ValueError (aQ n_NoName X_NoName xo_NoName_ValueError (aQ n_NoRow X_NoRow xo_NoRow_ValueError (aQ n_NoText X_NoText xo_NoText_ValueError (aQ n_TooGreat X_TooGreat xo_TooGreat_ValueError (iw))))));have xr_NoBack:∃C:Addr,W.nsIn K mainGlobals "NoBack"=some (some (.ref C))/\W.excIn K C xJ "ValueError.__new__"=true/\mg "NoBack"=some (.ref C):=⟨c_NoBack,n_NoBack,xe_NoBack,Uy X G n_NoBack⟩
 have xr_NoForm:∃C:Addr,W.nsIn K mainGlobals "NoForm"=some (some (.ref C))/\W.excIn K C xJ "ValueError.__new__"=true/\mg "NoForm"=some (.ref C):=⟨c_NoForm,n_NoForm,xe_NoForm,Uy X G n_NoForm⟩
 have xr_NoName:∃C:Addr,W.nsIn K mainGlobals "NoName"=some (some (.ref C))/\W.excIn K C xJ "ValueError.__new__"=true/\mg "NoName"=some (.ref C):=⟨c_NoName,n_NoName,xe_NoName,Uy X G n_NoName⟩
 have xr_NoRow:∃C:Addr,W.nsIn K mainGlobals "NoRow"=some (some (.ref C))/\W.excIn K C xJ "ValueError.__new__"=true/\mg "NoRow"=some (.ref C):=⟨c_NoRow,n_NoRow,xe_NoRow,Uy X G n_NoRow⟩
 have xr_NoText:∃C:Addr,W.nsIn K mainGlobals "NoText"=some (some (.ref C))/\W.excIn K C xJ "ValueError.__new__"=true/\mg "NoText"=some (.ref C):=⟨c_NoText,n_NoText,xe_NoText,Uy X G n_NoText⟩
 have xr_TooGreat:∃C:Addr,W.nsIn K mainGlobals "TooGreat"=some (some (.ref C))/\W.excIn K C xJ "ValueError.__new__"=true/\mg "TooGreat"=some (.ref C):=⟨c_TooGreat,n_TooGreat,xe_TooGreat,Uy X G n_TooGreat⟩
 have tb_ROWS:yG w K mg "ROWS" Zr:=⟨h_ROWS,[(Str.ofString "put",.ref g_ROWS_put_0),(Str.ofString "join",.ref g_ROWS_join_0),(Str.ofString "common",.ref g_ROWS_common_0),(Str.ofString "less",.ref g_ROWS_less_0),(Str.ofString "either",.ref g_ROWS_either_0),(Str.ofString "greater",.ref g_ROWS_greater_0),(Str.ofString "smaller",.ref g_ROWS_smaller_0),(Str.ofString "opened",.ref g_ROWS_opened_0),(Str.ofString "closed",.ref g_ROWS_closed_0),(Str.ofString "thin",.ref g_ROWS_thin_0),(Str.ofString "fill",.ref g_ROWS_fill_0),(Str.ofString "drop",.ref g_ROWS_drop_0),(Str.ofString "back",.ref g_ROWS_back_0),(Str.ofString "show",.ref g_ROWS_show_0),(Str.ofString "count",.ref g_ROWS_count_0),(Str.ofString "pieces",.ref g_ROWS_pieces_0),(Str.ofString "holes",.ref g_ROWS_holes_0),(Str.ofString "same",.ref g_ROWS_same_0),(Str.ofString "within",.ref g_ROWS_within_0),(Str.ofString "names",.ref g_ROWS_names_0)],Uy X G y_ROWS,⟨_,_,v_ROWS,.cons rfl rfl (.cons rfl rfl (.cons rfl rfl (.cons rfl rfl (.cons rfl rfl (.cons rfl rfl (.cons rfl rfl (.cons rfl rfl (.cons rfl rfl (.cons rfl rfl (.cons rfl rfl (.cons rfl rfl (.cons rfl rfl (.cons rfl rfl (.cons rfl rfl (.cons rfl rfl (.cons rfl rfl (.cons rfl rfl (.cons rfl rfl (.cons rfl rfl (.nil)))))))))))))))))))),show (["put", "join", "common", "less", "either", "greater", "smaller", "opened", "closed", "thin", "fill", "drop", "back", "show", "count", "pieces", "holes", "same", "within", "names"]:Zl).Nodup by decide +kernel,q_ROWS⟩,rfl,λS=>.cons (bZ (xs:=[.str (Str.ofString "NEW"),.str (Str.ofString "TEXT")]) v_ROWS_put_0 rfl rfl (UD (show 2<=1000 by decide) (by rw[UF];decide)) (.cons ⟨_,rfl⟩ (.cons ⟨_,rfl⟩ (.nil))) (λS=>Dens.cons (Zo.2 rfl) (Dens.cons (Zo.2 rfl) (Dens.nil))) S) (.cons (bZ (xs:=[.str (Str.ofString "NEW"),.str (Str.ofString "ONE"),.str (Str.ofString "OTHER")]) v_ROWS_join_0 rfl rfl (UD (show 3<=1000 by decide) (by rw[UF];decide)) (.cons ⟨_,rfl⟩ (.cons ⟨_,rfl⟩ (.cons ⟨_,rfl⟩ (.nil)))) (λS=>Dens.cons (Zo.2 rfl) (Dens.cons (Zo.2 rfl) (Dens.cons (Zo.2 rfl) (Dens.nil)))) S) (.cons (bZ (xs:=[.str (Str.ofString "NEW"),.str (Str.ofString "ONE"),.str (Str.ofString "OTHER")]) v_ROWS_common_0 rfl rfl (UD (show 3<=1000 by decide) (by rw[UF];decide)) (.cons ⟨_,rfl⟩ (.cons ⟨_,rfl⟩ (.cons ⟨_,rfl⟩ (.nil)))) (λS=>Dens.cons (Zo.2 rfl) (Dens.cons (Zo.2 rfl) (Dens.cons (Zo.2 rfl) (Dens.nil)))) S) (.cons (bZ (xs:=[.str (Str.ofString "NEW"),.str (Str.ofString "ONE"),.str (Str.ofString "OTHER")]) v_ROWS_less_0 rfl rfl (UD (show 3<=1000 by decide) (by rw[UF];decide)) (.cons ⟨_,rfl⟩ (.cons ⟨_,rfl⟩ (.cons ⟨_,rfl⟩ (.nil)))) (λS=>Dens.cons (Zo.2 rfl) (Dens.cons (Zo.2 rfl) (Dens.cons (Zo.2 rfl) (Dens.nil)))) S) (.cons (bZ (xs:=[.str (Str.ofString "NEW"),.str (Str.ofString "ONE"),.str (Str.ofString "OTHER")]) v_ROWS_either_0 rfl rfl (UD (show 3<=1000 by decide) (by rw[UF];decide)) (.cons ⟨_,rfl⟩ (.cons ⟨_,rfl⟩ (.cons ⟨_,rfl⟩ (.nil)))) (λS=>Dens.cons (Zo.2 rfl) (Dens.cons (Zo.2 rfl) (Dens.cons (Zo.2 rfl) (Dens.nil)))) S) (.cons (bZ (xs:=[.str (Str.ofString "NEW"),.str (Str.ofString "ONE"),.str (Str.ofString "FORM")]) v_ROWS_greater_0 rfl rfl (UD (show 3<=1000 by decide) (by rw[UF];decide)) (.cons ⟨_,rfl⟩ (.cons ⟨_,rfl⟩ (.cons ⟨_,rfl⟩ (.nil)))) (λS=>Dens.cons (Zo.2 rfl) (Dens.cons (Zo.2 rfl) (Dens.cons (Zo.2 rfl) (Dens.nil)))) S) (.cons (bZ (xs:=[.str (Str.ofString "NEW"),.str (Str.ofString "ONE"),.str (Str.ofString "FORM")]) v_ROWS_smaller_0 rfl rfl (UD (show 3<=1000 by decide) (by rw[UF];decide)) (.cons ⟨_,rfl⟩ (.cons ⟨_,rfl⟩ (.cons ⟨_,rfl⟩ (.nil)))) (λS=>Dens.cons (Zo.2 rfl) (Dens.cons (Zo.2 rfl) (Dens.cons (Zo.2 rfl) (Dens.nil)))) S) (.cons (bZ (xs:=[.str (Str.ofString "NEW"),.str (Str.ofString "ONE"),.str (Str.ofString "FORM")]) v_ROWS_opened_0 rfl rfl (UD (show 3<=1000 by decide) (by rw[UF];decide)) (.cons ⟨_,rfl⟩ (.cons ⟨_,rfl⟩ (.cons ⟨_,rfl⟩ (.nil)))) (λS=>Dens.cons (Zo.2 rfl) (Dens.cons (Zo.2 rfl) (Dens.cons (Zo.2 rfl) (Dens.nil)))) S) (.cons (bZ (xs:=[.str (Str.ofString "NEW"),.str (Str.ofString "ONE"),.str (Str.ofString "FORM")]) v_ROWS_closed_0 rfl rfl (UD (show 3<=1000 by decide) (by rw[UF];decide)) (.cons ⟨_,rfl⟩ (.cons ⟨_,rfl⟩ (.cons ⟨_,rfl⟩ (.nil)))) (λS=>Dens.cons (Zo.2 rfl) (Dens.cons (Zo.2 rfl) (Dens.cons (Zo.2 rfl) (Dens.nil)))) S) (.cons (bZ (xs:=[.str (Str.ofString "NEW"),.str (Str.ofString "ONE")]) v_ROWS_thin_0 rfl rfl (UD (show 2<=1000 by decide) (by rw[UF];decide)) (.cons ⟨_,rfl⟩ (.cons ⟨_,rfl⟩ (.nil))) (λS=>Dens.cons (Zo.2 rfl) (Dens.cons (Zo.2 rfl) (Dens.nil))) S) (.cons (bZ (xs:=[.str (Str.ofString "NEW"),.str (Str.ofString "ONE")]) v_ROWS_fill_0 rfl rfl (UD (show 2<=1000 by decide) (by rw[UF];decide)) (.cons ⟨_,rfl⟩ (.cons ⟨_,rfl⟩ (.nil))) (λS=>Dens.cons (Zo.2 rfl) (Dens.cons (Zo.2 rfl) (Dens.nil))) S) (.cons (bZ (xs:=[.str (Str.ofString "ONE")]) v_ROWS_drop_0 rfl rfl (UD (show 1<=1000 by decide) (by rw[UF];decide)) (.cons ⟨_,rfl⟩ (.nil)) (λS=>Dens.cons (Zo.2 rfl) (Dens.nil)) S) (.cons (bZ (xs:=[]) v_ROWS_back_0 rfl rfl (UD (show 0<=1000 by decide) (by rw[UF];decide)) (.nil) (λS=>Dens.nil) S) (.cons (bZ (xs:=[.str (Str.ofString "ONE")]) v_ROWS_show_0 rfl rfl (UD (show 1<=1000 by decide) (by rw[UF];decide)) (.cons ⟨_,rfl⟩ (.nil)) (λS=>Dens.cons (Zo.2 rfl) (Dens.nil)) S) (.cons (bZ (xs:=[.str (Str.ofString "ONE")]) v_ROWS_count_0 rfl rfl (UD (show 1<=1000 by decide) (by rw[UF];decide)) (.cons ⟨_,rfl⟩ (.nil)) (λS=>Dens.cons (Zo.2 rfl) (Dens.nil)) S) (.cons (bZ (xs:=[.str (Str.ofString "ONE")]) v_ROWS_pieces_0 rfl rfl (UD (show 1<=1000 by decide) (by rw[UF];decide)) (.cons ⟨_,rfl⟩ (.nil)) (λS=>Dens.cons (Zo.2 rfl) (Dens.nil)) S) (.cons (bZ (xs:=[.str (Str.ofString "ONE")]) v_ROWS_holes_0 rfl rfl (UD (show 1<=1000 by decide) (by rw[UF];decide)) (.cons ⟨_,rfl⟩ (.nil)) (λS=>Dens.cons (Zo.2 rfl) (Dens.nil)) S) (.cons (bZ (xs:=[.str (Str.ofString "ONE"),.str (Str.ofString "OTHER")]) v_ROWS_same_0 rfl rfl (UD (show 2<=1000 by decide) (by rw[UF];decide)) (.cons ⟨_,rfl⟩ (.cons ⟨_,rfl⟩ (.nil))) (λS=>Dens.cons (Zo.2 rfl) (Dens.cons (Zo.2 rfl) (Dens.nil))) S) (.cons (bZ (xs:=[.str (Str.ofString "ONE"),.str (Str.ofString "OTHER")]) v_ROWS_within_0 rfl rfl (UD (show 2<=1000 by decide) (by rw[UF];decide)) (.cons ⟨_,rfl⟩ (.cons ⟨_,rfl⟩ (.nil))) (λS=>Dens.cons (Zo.2 rfl) (Dens.cons (Zo.2 rfl) (Dens.nil))) S) (.cons (bZ (xs:=[]) v_ROWS_names_0 rfl rfl (UD (show 0<=1000 by decide) (by rw[UF];decide)) (.nil) (λS=>Dens.nil) S) (.nil))))))))))))))))))))⟩
 have T:Txt w K mg:=⟨Va X G z_ValueError,Va X G z_all,Va X G z_any,Va X G z_dict,Va X G z_int,Va X G z_isinstance,Va X G z_len,Va X G z_max,Va X G z_min,Va X G z_sorted,Va X G z_str,Va X G z_sum,Va X G z_tuple,Va X G z_zip,⟨_,Uy X G y_FIGURES⟩,⟨_,Uy X G y_LETTERS⟩,⟨_,Uy X G y_MOST_CELLS⟩,⟨_,Uy X G y_MOST_FIGURES⟩,⟨_,Uy X G y_MOST_LETTERS⟩,⟨_,Uy X G y_WITHOUT_CELLS⟩,tb_ROWS,cN_pictures,cN_deeds,xc_ShapeError,xd_NoText,xa_NoBack,xa_NoForm,xa_NoName,xa_NoRow,xa_NoText,xa_TooGreat,xa_TooMany,xa_ValueError,xr_NoBack,xr_NoForm,xr_NoName,xr_NoRow,xr_NoText,xr_TooGreat⟩
 have b_Desk_set_picture:=(F_Desk_set_picture).binds (ps:=["self", "name", "picture"]) λ_ _ _ _ _ _ us hl=>by obtain⟨a0,a1,a2,rfl⟩:=Qm hl;rfl
 have BZ:=(jq).binds (ps:=["_law_script", "_law_k"]) λ_ _ _ _ _ _ us hl=>by obtain⟨a0,a1,rfl⟩:=IB hl;rfl
 have B0:=(jr).binds (ps:=["_law_cell"]) λ_ _ _ _ _ _ us hl=>by obtain⟨a0,rfl⟩:=wU hl;rfl
 have B1:=(jt).binds (ps:=["_law_cell"]) λ_ _ _ _ _ _ us hl=>by obtain⟨a0,rfl⟩:=wU hl;rfl
 have EI:=(kS).binds (ps:=["_law_cell"]) λ_ _ _ _ _ _ us hl=>by obtain⟨a0,rfl⟩:=wU hl;rfl
 have B2:=(ju).binds (ps:=["_law_cell"]) λ_ _ _ _ _ _ us hl=>by obtain⟨a0,rfl⟩:=wU hl;rfl
 have EJ:=(kT).binds (ps:=["word"]) λ_ _ _ _ _ _ us hl=>by obtain⟨a0,rfl⟩:=wU hl;rfl
 have EK:=(kU).binds (ps:=["kind"]) λ_ _ _ _ _ _ us hl=>by obtain⟨a0,rfl⟩:=wU hl;rfl
 have F9:=(pk).binds (ps:=["word", "things"]) λ_ _ _ _ _ _ us hl=>by obtain⟨a0,a1,rfl⟩:=IB hl;rfl
 have Aa:=(iq).binds (ps:=["row"]) λ_ _ _ _ _ _ us hl=>by obtain⟨a0,rfl⟩:=wU hl;rfl
 have Gb:=(mJ).binds (ps:=["pairs"]) λ_ _ _ _ _ _ us hl=>by obtain⟨a0,rfl⟩:=wU hl;rfl
 have vA:=(eW).binds (ps:=["a", "b"]) λ_ _ _ _ _ _ us hl=>by obtain⟨a0,a1,rfl⟩:=IB hl;rfl
 have vC:=(eX).binds (ps:=["text"]) λ_ _ _ _ _ _ us hl=>by obtain⟨a0,rfl⟩:=wU hl;rfl
 have Af:=(iu).binds (ps:=["truth"]) λ_ _ _ _ _ _ us hl=>by obtain⟨a0,rfl⟩:=wU hl;rfl
 have b_Box___init__:=(F_Box___init__).binds (ps:=["self", "left", "up", "right", "down"]) λ_ _ _ _ _ _ us hl=>by obtain⟨a0,a1,a2,a3,a4,rfl⟩:=Ub hl;rfl
 have b_Cross___init__:=(F_Cross___init__).binds (ps:=["self", "arm"]) λ_ _ _ _ _ _ us hl=>by obtain⟨a0,a1,rfl⟩:=IB hl;rfl
 have b_Desk_take_back:=(F_Desk_take_back).binds (ps:=["self"]) λ_ _ _ _ _ _ us hl=>by obtain⟨a0,rfl⟩:=wU hl;rfl
 have b_Shape___init__:=(F_Shape___init__).binds (ps:=["self", "picture"]) λ_ _ _ _ _ _ us hl=>by obtain⟨a0,a1,rfl⟩:=IB hl;rfl
 have b_Desk_do:=(F_Desk_do).binds (ps:=["self", "name", "picture"]) λ_ _ _ _ _ _ us hl=>by obtain⟨a0,a1,a2,rfl⟩:=Qm hl;rfl
 have w9:=(fQ).binds (ps:=["picture"]) λ_ _ _ _ _ _ us hl=>by obtain⟨a0,rfl⟩:=wU hl;rfl
 have yN:=(gC).binds (ps:=["stretches"]) λ_ _ _ _ _ _ us hl=>by obtain⟨a0,rfl⟩:=wU hl;rfl
 have qW:=(dX).binds (ps:=["text"]) λ_ _ _ _ _ _ us hl=>by obtain⟨a0,rfl⟩:=wU hl;rfl
 have B4:=(jw).binds (ps:=["y", "row"]) λ_ _ _ _ _ _ us hl=>by obtain⟨a0,a1,rfl⟩:=IB hl;rfl
 have Ae:=(ir).binds (ps:=["row", "kinds"]) λ_ _ _ _ _ _ us hl=>by obtain⟨a0,a1,rfl⟩:=IB hl;rfl
 have mY:=(cX).binds (ps:=["y", "text"]) λ_ _ _ _ _ _ us hl=>by obtain⟨a0,a1,rfl⟩:=IB hl;rfl
 have Mg:=(vf).binds (ps:=["picture"]) λ_ _ _ _ _ _ us hl=>by obtain⟨a0,rfl⟩:=wU hl;rfl
 have vB:=(gb).binds (ps:=["row"]) λ_ _ _ _ _ _ us hl=>by obtain⟨a0,rfl⟩:=wU hl;rfl
 have b_cells_of:=(F_cells_of).binds (ps:=["picture"]) λ_ _ _ _ _ _ us hl=>by obtain⟨a0,rfl⟩:=wU hl;rfl
 have lg:=(cp).binds (ps:=["text"]) λ_ _ _ _ _ _ us hl=>by obtain⟨a0,rfl⟩:=wU hl;rfl
 have Mh:=(vg).binds (ps:=["word", "things"]) λ_ _ _ _ _ _ us hl=>by obtain⟨a0,a1,rfl⟩:=IB hl;rfl
 have F_thinned:FunD K "thinned" "thinned" cW dT_thinned f_thinned _:=⟨⟨_,_,_,_,_,_,_,_,_,rfl,l_thinned,e_thinned⟩⟩
 have b_thinned:Binds K (W.fnOf "thinned" "thinned" (i4 cW) (fX cW) (aB cW) (.ref dT_thinned) kV_thinned dc_thinned pm_thinned an_thinned cd_thinned ct_thinned) ["picture", "ends"] []:=λs us X hl=>match us,(show us.length=2 by simpa using hl) with|[_,_],_=>W.binds_K X rfl dl_thinned rfl rfl rfl
 have bd_thinned:Binds K (W.fnOf "thinned" "thinned" (i4 cW) (fX cW) (aB cW) (.ref dT_thinned) kV_thinned dc_thinned pm_thinned an_thinned cd_thinned ct_thinned) ["picture", "ends"] [.bool true]:=λs us X hl=>match us,(show us.length=1 by simpa using hl) with|[_],_=>W.binds_K X rfl dl_thinned rfl rfl rfl
 have Ga:=(pp).binds (ps:=["text"]) λ_ _ _ _ _ _ us hl=>by obtain⟨a0,rfl⟩:=wU hl;rfl
 have qV:=(dU).binds (ps:=["self", "kind", "said"]) λ_ _ _ _ _ _ us hl=>by obtain⟨a0,a1,a2,rfl⟩:=Qm hl;rfl
 have b_form_written:=(F_form_written).binds (ps:=["text"]) λ_ _ _ _ _ _ us hl=>by obtain⟨a0,rfl⟩:=wU hl;rfl
 have pI:=(dW).binds (ps:=["self", "row"]) λ_ _ _ _ _ _ us hl=>by obtain⟨a0,a1,rfl⟩:=IB hl;rfl
 have b_read_form:=(F_read_form).binds (ps:=["text"]) λ_ _ _ _ _ _ us hl=>by obtain⟨a0,rfl⟩:=wU hl;rfl
 have Jn:=(qM).binds (ps:=["_law_desk"]) λ_ _ _ _ _ _ us hl=>by obtain⟨a0,rfl⟩:=wU hl;rfl
 have B3:=(jv).binds (ps:=["_law_desk", "_law_row"]) λ_ _ _ _ _ _ us hl=>by obtain⟨a0,a1,rfl⟩:=IB hl;rfl
 have Md:=(ve).binds (ps:=["_law_desk", "_law_cell", "_law_long"]) λ_ _ _ _ _ _ us hl=>by obtain⟨a0,a1,a2,rfl⟩:=Qm hl;rfl
 have b_Desk___init__:=(F_Desk___init__).binds (ps:=["self"]) λ_ _ _ _ _ _ us hl=>by obtain⟨a0,rfl⟩:=wU hl;rfl
 have g_Desk:=Uy X G n_Desk;have M_Desk:Mk K c_Desk f_Desk___init__:=⟨mk_Desk,a_Desk___init__,i_Desk___init__,kc_Desk⟩
 have g_Box:=Uy X G n_Box;have M_Box:Mk K c_Box f_Box___init__:=⟨mk_Box,a_Box___init__,i_Box___init__,kc_Box⟩
 have g_Cross:=Uy X G n_Cross;have M_Cross:Mk K c_Cross f_Cross___init__:=⟨mk_Cross,a_Cross___init__,i_Cross___init__,kc_Cross⟩
 have g_Shape:=Uy X G n_Shape;have M_Shape:Mk K c_Shape f_Shape___init__:=⟨mk_Shape,a_Shape___init__,i_Shape___init__,kc_Shape⟩
 refine⟨Cc,De.lawBinds λ_ _ _ _ _ _ s v=>.of_eq rfl,λbase _ _=>?_⟩;have AI_Desk:Ac cz 1 "Desk" ["self"] wN l.prog w K mg base c_Desk f_Desk___init__ fd_Desk___init__:=⟨Ha F_Desk___init__ T,b_Desk___init__,n_Desk,M_Desk,g_Desk⟩
 have AD_Desk_set_picture:=Ad.mk (sp:=cu) (x := "set_picture") (nG (P:=l.prog) (base:=base) F_Desk_set_picture T ) b_Desk_set_picture (m6 n_Desk cD ⟨a_Desk_set_picture,i_Desk_set_picture,F_Desk_set_picture.kp⟩);have cO:=Ak.mk (sp:=kz) (AR (P:=l.prog) (base:=base) jq T ) (Uy X G px) jq.kp BZ;have gm:=Ak.mk (sp:=kD) (AS (P:=l.prog) (base:=base) jr T ) (Uy X G pz) jr.kp B0;have gp:=Ak.mk (sp:=kE) (AU (P:=l.prog) (base:=base) jt T ) (Uy X G pD) jt.kp B1;have g8:=Ak.mk (sp:=md) (Cz (P:=l.prog) (base:=base) kS T ) (Uy X G sv) kS.kp EI;have gq:=Ak.mk (sp:=kF) (AV (P:=l.prog) (base:=base) ju T ) (Uy X G pE) ju.kp B2;have cH:=Ak.mk (sp:=jY) (CA (P:=l.prog) (base:=base) kT T ) (Uy X G sw) kT.kp EJ;have bH:=Ak.mk (sp:=ic) (CB (P:=l.prog) (base:=base) kU T ) (Uy X G sx) kU.kp EK;have n6:=Ak.mk (sp:=va) (JT (P:=l.prog) (base:=base) pk T ) (Uy X G yJ) pk.kp F9;have fj:=Ak.mk (sp:=ji) (zi (P:=l.prog) (base:=base) iq T ) (Uy X G mU) iq.kp Aa;have jk:=Ak.mk (sp:=oE) (Fm (P:=l.prog) (base:=base) mJ T ) (Uy X G vx) mJ.kp Gb;have c9:=Ak.mk (sp:=f9) (uD (P:=l.prog) (base:=base) eW T ) (Uy X G jz) eW.kp vA;have bA:=Ak.mk (sp:=eD) (uE (P:=l.prog) (base:=base) eX T ) (Uy X G jA) eX.kp vC;have fk:=Ak.mk (sp:=jj) (zk (P:=l.prog) (base:=base) iu T ) (Uy X G mW) iu.kp Af;have AX_Box___init__:=Ac.mk (sp:=fD) (sQ (P:=l.prog) (base:=base) F_Box___init__ T ) b_Box___init__ n_Box M_Box g_Box;have AX_Cross___init__:=Ac.mk (sp:=cY) (pY (P:=l.prog) (base:=base) F_Cross___init__ T ) b_Cross___init__ n_Cross M_Cross g_Cross;have AX_Desk_take_back:=Ad.mk (sp:=d9) (x := "take_back") (pZ (P:=l.prog) (base:=base) F_Desk_take_back T ) b_Desk_take_back (m6 n_Desk cD ⟨a_Desk_take_back,i_Desk_take_back,F_Desk_take_back.kp⟩);have AX_Shape___init__:=Ac.mk (sp:=cZ) (p0 (P:=l.prog) (base:=base) F_Shape___init__ T ) b_Shape___init__ n_Shape M_Shape g_Shape;have AD_Desk_do:=Ad.mk (sp:=gw) (x := "do") (AN (P:=l.prog) (base:=base) F_Desk_do T AD_Desk_set_picture) b_Desk_do (m6 n_Desk cD ⟨a_Desk_do,i_Desk_do,F_Desk_do.kp⟩);have AD_Desk_take_back:=Ad.mk (sp:=d8) (x := "take_back") (pX (P:=l.prog) (base:=base) F_Desk_take_back T AD_Desk_set_picture) b_Desk_take_back (m6 n_Desk cD ⟨a_Desk_take_back,i_Desk_take_back,F_Desk_take_back.kp⟩);have dD:=Ak.mk (sp:=gS) (we (P:=l.prog) (base:=base) fQ T fj) (Uy X G kJ) fQ.kp w9;have bu:=Ak.mk (sp:=eK) (xn (P:=l.prog) (base:=base) gC T jk) (Uy X G lK) gC.kp yN;have aw:=Ak.mk (sp:=cT) (xo (P:=l.prog) (base:=base) dX T bA) (Uy X G i0) dX.kp qW;have gr:=Ak.mk (sp:=kG) (AX (P:=l.prog) (base:=base) jw T c9) (Uy X G pG) jw.kp B4;have bX:=Ak.mk (sp:=gU) (zj (P:=l.prog) (base:=base) ir T bH) (Uy X G mV) ir.kp Ae;have bU:=Ak.mk (sp:=dH) (wd (P:=l.prog) (base:=base) dX T bA) (Uy X G i0) dX.kp qW;have aV:=Ak.mk (sp:=eA) (uC (P:=l.prog) (base:=base) cX T aw) (Uy X G gD) cX.kp mY;have c6:=Ak.mk (sp:=oG) (JV (P:=l.prog) (base:=base) vf T gr) (Uy X G BS) vf.kp Mg;have bo:=Ak.mk (sp:=gy) (AY (P:=l.prog) (base:=base) gb T bX bH cH) (Uy X G lL) gb.kp vB;have AX_cells_of:=Ak.mk (sp:=jg) (zg (P:=l.prog) (base:=base) F_cells_of T dD) (Uy X G a_cells_of) F_cells_of.kp b_cells_of
 have iK:=Ak.mk (sp:=fF) (sS (P:=l.prog) (base:=base) cX T aw bU) (Uy X G gD) cX.kp mY;have mI:=Ak.mk (sp:=jh) (zh (P:=l.prog) (base:=base) gb T bX bH cH) (Uy X G lL) gb.kp vB;have aY:=Ak.mk (sp:=dm) (rJ (P:=l.prog) (base:=base) cp T aw aV) (Uy X G fm) cp.kp lg;have n8:=Ak.mk (sp:=vb) (JW (P:=l.prog) (base:=base) vg T c6 fk) (Uy X G BU) vg.kp Mh;have gB:=Ak.mk (sp:=ef) (p6 (P:=l.prog) (base:=base) cp T aw bU aV iK) (Uy X G fm) cp.kp lg;have AX_thinned:=Ak.mk (sp:=kx) (AO (P:=l.prog) (base:=base) F_thinned T AX_cells_of) (Uy X G a_thinned) k_thinned b_thinned;have dS:=Ak.mk (sp:=se) (JU (P:=l.prog) (base:=base) pp T bu aY c6) (Uy X G yK) pp.kp Ga;have n9:=Ak.mk (sp:=r9) (Hb (P:=l.prog) (base:=base) pk T AX_thinned bd_thinned) (Uy X G yJ) pk.kp F9;have iX:=Ak.mk (sp:=nW) (Hc (P:=l.prog) (base:=base) pp T bu aY gB c6) (Uy X G yK) pp.kp Ga;have a9:=Ad.mk (sp:=eJ) (x := "meant") (xm (P:=l.prog) (base:=base) dU T dS) qV (m6 n_Desk cD ⟨iZ,i7,dU.kp⟩);have AX_form_written:=Ak.mk (sp:=fE) (sR (P:=l.prog) (base:=base) F_form_written T aw bU dS iX AX_Box___init__ AX_Cross___init__ AX_Shape___init__) (Uy X G a_form_written) F_form_written.kp b_form_written;have bf:=Ad.mk (sp:=je) (x := "say") (ze (P:=l.prog) (base:=base) dW T bo n6 a9 AD_Desk_take_back AD_Desk_do) pI (m6 n_Desk cD ⟨jy,jI,dW.kp⟩);have bG:=Ad.mk (sp:=iI) (x := "say") (AQ (P:=l.prog) (base:=base) dW T bo n8 a9) pI (m6 n_Desk cD ⟨jy,jI,dW.kp⟩);have AX_read_form:=Ak.mk (sp:=im) (xk (P:=l.prog) (base:=base) F_read_form T AX_form_written) (Uy X G a_read_form) F_read_form.kp b_read_form;have fP:=Ak.mk (sp:=sd) (He (P:=l.prog) (base:=base) qM T bG) (Uy X G yI) qM.kp Jn;have kI:=Ad.mk (sp:=gR) (x := "meant") (wc (P:=l.prog) (base:=base) dU T iX AX_read_form) qV (m6 n_Desk cD ⟨iZ,i7,dU.kp⟩);have ip:=Ad.mk (sp:=jf) (x := "say") (zf (P:=l.prog) (base:=base) dW T bo mI n9 a9 kI AX_Desk_take_back AD_Desk_do) pI (m6 n_Desk cD ⟨jy,jI,dW.kp⟩);have aM:=Ak.mk (sp:=iJ) (AW (P:=l.prog) (base:=base) jv T ip) (Uy X G pF) jv.kp B3;have n5:=Ak.mk (sp:=u9) (JS (P:=l.prog) (base:=base) ve T aM g8 gp gq gm bG) (Uy X G BR) ve.kp Md;exact MN De T aM cO n5 fP bf AI_Desk
def RA{l:W.OpenLaw}{q:Program}{loose:Zl}{XP:(Zg)->Heap->Prop}{YP:World->Heap->Prop}{d:DefRec}{K:Params->Zj}(hn:l.most=some 63)(hdf:d.params.defaults=[])
  (hY:∀(w:World) (h:Heap),YP w h->(K w.params).In h)
  (F:∀(w:World) (mg:Zg) (fa:Addr) (h:Heap),(K w.params).In h->h.Ns mainGlobals mg->mg d.name=some (.ref fa) ->
   ∃fd:FuncData,(∀(s:Shared) (u:Value),BindsTo s fd ⟨[u],[]⟩ [("_law_script",u)])/\∀base:Heap,(K w.params).In base->base.Ns mainGlobals mg->Zq l.prog w (K w.params) mg base cz 12 fa fd ["_law_script"] (wO (K w.params))) :
  W.WalkO q loose XP YP l.row.toRowW d [] (λf vs=>PySem.call f vs):=
 L2.KU (n:=63) (k:=12) (x := "_law_script") (CX:=λ_=>cz) (sp:=λw=>wO (K w.params)) hn (by decide) hdf ⟨rfl,by decide,by decide⟩ hY F (λ_ H a ns hl _ hS=>M.FA hS (G1 ns hl)) λ_ _ _ _ _ z=>z
end Lw
open PySem PySem.W PyProof.Rows
set_option maxRecDepth 100000 in
set_option maxHeartbeats 0 in
theorem PySem.Challenge.cw_shapethin_k72_rows_refused_in_order_holds : PySem.Challenge.rw_shapethin_k72_rows_refused_in_order.Holds := by
 w_on;refine holds_law Hd.e2 λsaid=>?_
 refine holds_open (q:=Hd.q) (XP:=XL Hd.q []) (YP:=Hook.says Hd.H) (N:=100000) Hd.e1 (Hook.of Hd.H) (Hook.keeps Hd.H) (λs e=>xl_of s (Wx.1 e).1) XL.keeps (by rfl) (by rfl) (by rfl) (λs e=>recFacts_of (Wx.1 e).2) (by rfl) (by assumption) (by decide +kernel) ⟨rfl,rfl,rfl,rfl,rfl,by decide +kernel⟩ ?hw ?hc
 case hw=>w_witness2
 refine Lw.RA (l := PySem.Challenge.rw_shapethin_k72_rows_refused_in_order) rfl rfl (fun w h Y => W.kIn_of Y) ?F
 case F=>
  intro w mg fa h KX G hmg;refine' Lw.Ma KX G hmg ?n_Desk ?n_Box ?n_Cross ?n_Shape ?a_Desk_set_picture ?i_Desk_set_picture ?F_Desk_set_picture ?px ?jq ?pz ?jr ?pD ?jt ?sv ?kS ?pE ?ju ?sw ?kT ?sx ?kU ?yJ ?pk ?mU ?iq ?vx ?mJ ?jz ?eW ?jA ?eX ?mW ?iu ?a_Box___init__ ?i_Box___init__ ?F_Box___init__ ?a_Cross___init__ ?i_Cross___init__ ?F_Cross___init__ ?a_Desk_take_back ?i_Desk_take_back ?F_Desk_take_back ?a_Shape___init__ ?i_Shape___init__ ?F_Shape___init__ ?a_Desk_do ?i_Desk_do ?F_Desk_do ?kJ ?fQ ?lK ?gC ?i0 ?dX ?pG ?jw ?mV ?ir ?gD ?cX ?BS ?vf ?lL ?gb ?a_cells_of ?F_cells_of ?fm ?cp ?BU ?vg ?a_thinned ?l_thinned ?e_thinned ?k_thinned ?dl_thinned ?yK ?pp ?iZ ?i7 ?dU ?a_form_written ?F_form_written ?jy ?jI ?dW ?a_read_form ?F_read_form ?yI ?qM ?pF ?jv ?BR ?ve ?F5 ?De ?a_Desk___init__ ?i_Desk___init__ ?F_Desk___init__ ?mk_Desk ?kc_Desk ?mk_Box ?kc_Box ?mk_Cross ?kc_Cross ?mk_Shape ?kc_Shape ?pg ?hd ?po ?sa ?np_pictures ?np_deeds ?n_NoBack ?n_NoForm ?n_NoName ?n_NoRow ?n_NoText ?n_ShapeError ?n_TooGreat ?n_TooMany ?xg ?xt ?x1_NoBack ?x2_NoBack ?x3_NoBack ?x4_NoBack ?x5_NoBack ?x6_NoBack ?xe_NoBack ?xo_NoBack_NoBack ?xo_NoBack_NoForm ?xo_NoBack_NoName ?xo_NoBack_NoRow ?xo_NoBack_NoText ?xo_NoBack_TooGreat ?xo_NoBack_TooMany ?xo_NoBack_ValueError ?xm_NoBack_ShapeError ?x1_NoForm ?x2_NoForm ?x3_NoForm ?x4_NoForm ?x5_NoForm ?x6_NoForm ?xe_NoForm ?xo_NoForm_NoBack ?xo_NoForm_NoForm ?xo_NoForm_NoName ?xo_NoForm_NoRow ?xo_NoForm_NoText ?xo_NoForm_TooGreat ?xo_NoForm_TooMany ?xo_NoForm_ValueError ?xm_NoForm_ShapeError ?x1_NoName ?x2_NoName ?x3_NoName ?x4_NoName ?x5_NoName ?x6_NoName ?xe_NoName ?xo_NoName_NoBack ?xo_NoName_NoForm ?xo_NoName_NoName ?xo_NoName_NoRow ?xo_NoName_NoText ?xo_NoName_TooGreat ?xo_NoName_TooMany ?xo_NoName_ValueError ?xm_NoName_ShapeError ?x1_NoRow ?x2_NoRow ?x3_NoRow ?x4_NoRow ?x5_NoRow ?x6_NoRow ?xe_NoRow ?xo_NoRow_NoBack ?xo_NoRow_NoForm ?xo_NoRow_NoName ?xo_NoRow_NoRow ?xo_NoRow_NoText ?xo_NoRow_TooGreat ?xo_NoRow_TooMany ?xo_NoRow_ValueError ?xm_NoRow_ShapeError ?x1_NoText ?x2_NoText ?x3_NoText ?x4_NoText ?x5_NoText ?x6_NoText ?xe_NoText ?xo_NoText_NoBack ?xo_NoText_NoForm ?xo_NoText_NoName ?xo_NoText_NoRow ?xo_NoText_NoText ?xo_NoText_TooGreat ?xo_NoText_TooMany ?xo_NoText_ValueError ?xm_NoText_ShapeError ?x1_TooGreat ?x2_TooGreat ?x3_TooGreat ?x4_TooGreat ?x5_TooGreat ?x6_TooGreat ?xe_TooGreat ?xo_TooGreat_NoBack ?xo_TooGreat_NoForm ?xo_TooGreat_NoName ?xo_TooGreat_NoRow ?xo_TooGreat_NoText ?xo_TooGreat_TooGreat ?xo_TooGreat_TooMany ?xo_TooGreat_ValueError ?xm_TooGreat_ShapeError ?xf_NoText_NoText ?xf_NoForm_NoText ?z_ValueError ?z_all ?z_any ?z_dict ?z_int ?z_isinstance ?z_len ?z_max ?z_min ?z_sorted ?z_str ?z_sum ?z_tuple ?z_zip ?y_FIGURES ?y_LETTERS ?y_MOST_CELLS ?y_MOST_FIGURES ?y_MOST_LETTERS ?y_WITHOUT_CELLS ?y_ROWS ?v_ROWS ?q_ROWS ?v_ROWS_put_0 ?v_ROWS_join_0 ?v_ROWS_common_0 ?v_ROWS_less_0 ?v_ROWS_either_0 ?v_ROWS_greater_0 ?v_ROWS_smaller_0 ?v_ROWS_opened_0 ?v_ROWS_closed_0 ?v_ROWS_thin_0 ?v_ROWS_fill_0 ?v_ROWS_drop_0 ?v_ROWS_back_0 ?v_ROWS_show_0 ?v_ROWS_count_0 ?v_ROWS_pieces_0 ?v_ROWS_holes_0 ?v_ROWS_same_0 ?v_ROWS_within_0 ?v_ROWS_names_0
  (case n_Desk=>k_is)
  (case n_Box=>k_is)
  (case n_Cross=>k_is)
  (case n_Shape=>k_is)
  (case a_Desk_set_picture=>k_is)
  (case i_Desk_set_picture=>k_is)
  (case F_Desk_set_picture=>refine' L2.bC ?l ?c ?k;(case l=>k_is);(case c=>k_is);(case k=>k_is))
  (case px=>k_is)
  (case jq=>refine' L2.bC ?l ?c ?k;(case l=>k_is);(case c=>k_is);(case k=>k_is))
  (case pz=>k_is)
  (case jr=>refine' L2.bC ?l ?c ?k;(case l=>k_is);(case c=>k_is);(case k=>k_is))
  (case pD=>k_is)
  (case jt=>refine' L2.bC ?l ?c ?k;(case l=>k_is);(case c=>k_is);(case k=>k_is))
  (case sv=>k_is)
  (case kS=>refine' L2.bC ?l ?c ?k;(case l=>k_is);(case c=>k_is);(case k=>k_is))
  (case pE=>k_is)
  (case ju=>refine' L2.bC ?l ?c ?k;(case l=>k_is);(case c=>k_is);(case k=>k_is))
  (case sw=>k_is)
  (case kT=>refine' L2.bC ?l ?c ?k;(case l=>k_is);(case c=>k_is);(case k=>k_is))
  (case sx=>k_is)
  (case kU=>refine' L2.bC ?l ?c ?k;(case l=>k_is);(case c=>k_is);(case k=>k_is))
  (case yJ=>k_is)
  (case pk=>refine' L2.bC ?l ?c ?k;(case l=>k_is);(case c=>k_is);(case k=>k_is))
  (case mU=>k_is)
  (case iq=>refine' L2.bC ?l ?c ?k;(case l=>k_is);(case c=>k_is);(case k=>k_is))
  (case vx=>k_is)
  (case mJ=>refine' L2.bC ?l ?c ?k;(case l=>k_is);(case c=>k_is);(case k=>k_is))
  (case jz=>k_is)
  (case eW=>refine' L2.bC ?l ?c ?k;(case l=>k_is);(case c=>k_is);(case k=>k_is))
  (case jA=>k_is)
  (case eX=>refine' L2.bC ?l ?c ?k;(case l=>k_is);(case c=>k_is);(case k=>k_is))
  (case mW=>k_is)
  (case iu=>refine' L2.bC ?l ?c ?k;(case l=>k_is);(case c=>k_is);(case k=>k_is))
  (case a_Box___init__=>k_is)
  (case i_Box___init__=>k_is)
  (case F_Box___init__=>refine' L2.bC ?l ?c ?k;(case l=>k_is);(case c=>k_is);(case k=>k_is))
  (case a_Cross___init__=>k_is)
  (case i_Cross___init__=>k_is)
  (case F_Cross___init__=>refine' L2.bC ?l ?c ?k;(case l=>k_is);(case c=>k_is);(case k=>k_is))
  (case a_Desk_take_back=>k_is)
  (case i_Desk_take_back=>k_is)
  (case F_Desk_take_back=>refine' L2.bC ?l ?c ?k;(case l=>k_is);(case c=>k_is);(case k=>k_is))
  (case a_Shape___init__=>k_is)
  (case i_Shape___init__=>k_is)
  (case F_Shape___init__=>refine' L2.bC ?l ?c ?k;(case l=>k_is);(case c=>k_is);(case k=>k_is))
  (case a_Desk_do=>k_is)
  (case i_Desk_do=>k_is)
  (case F_Desk_do=>refine' L2.bC ?l ?c ?k;(case l=>k_is);(case c=>k_is);(case k=>k_is))
  (case kJ=>k_is)
  (case fQ=>refine' L2.bC ?l ?c ?k;(case l=>k_is);(case c=>k_is);(case k=>k_is))
  (case lK=>k_is)
  (case gC=>refine' L2.bC ?l ?c ?k;(case l=>k_is);(case c=>k_is);(case k=>k_is))
  (case i0=>k_is)
  (case dX=>refine' L2.bC ?l ?c ?k;(case l=>k_is);(case c=>k_is);(case k=>k_is))
  (case pG=>k_is)
  (case jw=>refine' L2.bC ?l ?c ?k;(case l=>k_is);(case c=>k_is);(case k=>k_is))
  (case mV=>k_is)
  (case ir=>refine' L2.bC ?l ?c ?k;(case l=>k_is);(case c=>k_is);(case k=>k_is))
  (case gD=>k_is)
  (case cX=>refine' L2.bC ?l ?c ?k;(case l=>k_is);(case c=>k_is);(case k=>k_is))
  (case BS=>k_is)
  (case vf=>refine' L2.bC ?l ?c ?k;(case l=>k_is);(case c=>k_is);(case k=>k_is))
  (case lL=>k_is)
  (case gb=>refine' L2.bC ?l ?c ?k;(case l=>k_is);(case c=>k_is);(case k=>k_is))
  (case a_cells_of=>k_is)
  (case F_cells_of=>refine' L2.bC ?l ?c ?k;(case l=>k_is);(case c=>k_is);(case k=>k_is))
  (case fm=>k_is)
  (case cp=>refine' L2.bC ?l ?c ?k;(case l=>k_is);(case c=>k_is);(case k=>k_is))
  (case BU=>k_is)
  (case vg=>refine' L2.bC ?l ?c ?k;(case l=>k_is);(case c=>k_is);(case k=>k_is))
  (case a_thinned=>k_is)
  (case l_thinned=>k_is)
  (case e_thinned=>k_is)
  (case k_thinned=>k_is)
  (case dl_thinned=>k_is)
  (case yK=>k_is)
  (case pp=>refine' L2.bC ?l ?c ?k;(case l=>k_is);(case c=>k_is);(case k=>k_is))
  (case iZ=>k_is)
  (case i7=>k_is)
  (case dU=>refine' L2.bC ?l ?c ?k;(case l=>k_is);(case c=>k_is);(case k=>k_is))
  (case a_form_written=>k_is)
  (case F_form_written=>refine' L2.bC ?l ?c ?k;(case l=>k_is);(case c=>k_is);(case k=>k_is))
  (case jy=>k_is)
  (case jI=>k_is)
  (case dW=>refine' L2.bC ?l ?c ?k;(case l=>k_is);(case c=>k_is);(case k=>k_is))
  (case a_read_form=>k_is)
  (case F_read_form=>refine' L2.bC ?l ?c ?k;(case l=>k_is);(case c=>k_is);(case k=>k_is))
  (case yI=>k_is)
  (case qM=>refine' L2.bC ?l ?c ?k;(case l=>k_is);(case c=>k_is);(case k=>k_is))
  (case pF=>k_is)
  (case jv=>refine' L2.bC ?l ?c ?k;(case l=>k_is);(case c=>k_is);(case k=>k_is))
  (case BR=>k_is)
  (case ve=>refine' L2.bC ?l ?c ?k;(case l=>k_is);(case c=>k_is);(case k=>k_is))
  (case F5=>k_is)
  (case De=>refine' L2.bC ?l ?c ?k;(case l=>k_is);(case c=>k_is);(case k=>k_is))
  (case a_Desk___init__=>k_is)
  (case i_Desk___init__=>k_is)
  (case F_Desk___init__=>refine' L2.bC ?l ?c ?k;(case l=>k_is);(case c=>k_is);(case k=>k_is))
  (case mk_Desk=>k_is)
  (case kc_Desk=>k_is)
  (case mk_Box=>k_is)
  (case kc_Box=>k_is)
  (case mk_Cross=>k_is)
  (case kc_Cross=>k_is)
  (case mk_Shape=>k_is)
  (case kc_Shape=>k_is)
  (case pg=>k_is)
  (case hd=>k_is)
  (case po=>k_is)
  (case sa=>k_is)
  (case np_pictures=>k_is)
  (case np_deeds=>k_is)
  (case n_NoBack=>k_is)
  (case n_NoForm=>k_is)
  (case n_NoName=>k_is)
  (case n_NoRow=>k_is)
  (case n_NoText=>k_is)
  (case n_ShapeError=>k_is)
  (case n_TooGreat=>k_is)
  (case n_TooMany=>k_is)
  (case xg=>k_is)
  (case xt=>k_is)
  (case x1_NoBack=>k_is)
  (case x2_NoBack=>k_is)
  (case x3_NoBack=>k_is)
  (case x4_NoBack=>k_is)
  (case x5_NoBack=>k_is)
  (case x6_NoBack=>k_is)
  (case xe_NoBack=>k_exc)
  (case xo_NoBack_NoBack=>kit_is)
  (case xo_NoBack_NoForm=>kit_is)
  (case xo_NoBack_NoName=>kit_is)
  (case xo_NoBack_NoRow=>kit_is)
  (case xo_NoBack_NoText=>kit_is)
  (case xo_NoBack_TooGreat=>kit_is)
  (case xo_NoBack_TooMany=>kit_is)
  (case xo_NoBack_ValueError=>kit_is)
  (case xm_NoBack_ShapeError=>kts_exm)
  (case x1_NoForm=>k_is)
  (case x2_NoForm=>k_is)
  (case x3_NoForm=>k_is)
  (case x4_NoForm=>k_is)
  (case x5_NoForm=>k_is)
  (case x6_NoForm=>k_is)
  (case xe_NoForm=>k_exc)
  (case xo_NoForm_NoBack=>kit_is)
  (case xo_NoForm_NoForm=>kit_is)
  (case xo_NoForm_NoName=>kit_is)
  (case xo_NoForm_NoRow=>kit_is)
  (case xo_NoForm_NoText=>kit_is)
  (case xo_NoForm_TooGreat=>kit_is)
  (case xo_NoForm_TooMany=>kit_is)
  (case xo_NoForm_ValueError=>kit_is)
  (case xm_NoForm_ShapeError=>kts_exm)
  (case x1_NoName=>k_is)
  (case x2_NoName=>k_is)
  (case x3_NoName=>k_is)
  (case x4_NoName=>k_is)
  (case x5_NoName=>k_is)
  (case x6_NoName=>k_is)
  (case xe_NoName=>k_exc)
  (case xo_NoName_NoBack=>kit_is)
  (case xo_NoName_NoForm=>kit_is)
  (case xo_NoName_NoName=>kit_is)
  (case xo_NoName_NoRow=>kit_is)
  (case xo_NoName_NoText=>kit_is)
  (case xo_NoName_TooGreat=>kit_is)
  (case xo_NoName_TooMany=>kit_is)
  (case xo_NoName_ValueError=>kit_is)
  (case xm_NoName_ShapeError=>kts_exm)
  (case x1_NoRow=>k_is)
  (case x2_NoRow=>k_is)
  (case x3_NoRow=>k_is)
  (case x4_NoRow=>k_is)
  (case x5_NoRow=>k_is)
  (case x6_NoRow=>k_is)
  (case xe_NoRow=>k_exc)
  (case xo_NoRow_NoBack=>kit_is)
  (case xo_NoRow_NoForm=>kit_is)
  (case xo_NoRow_NoName=>kit_is)
  (case xo_NoRow_NoRow=>kit_is)
  (case xo_NoRow_NoText=>kit_is)
  (case xo_NoRow_TooGreat=>kit_is)
  (case xo_NoRow_TooMany=>kit_is)
  (case xo_NoRow_ValueError=>kit_is)
  (case xm_NoRow_ShapeError=>kts_exm)
  (case x1_NoText=>k_is)
  (case x2_NoText=>k_is)
  (case x3_NoText=>k_is)
  (case x4_NoText=>k_is)
  (case x5_NoText=>k_is)
  (case x6_NoText=>k_is)
  (case xe_NoText=>k_exc)
  (case xo_NoText_NoBack=>kit_is)
  (case xo_NoText_NoForm=>kit_is)
  (case xo_NoText_NoName=>kit_is)
  (case xo_NoText_NoRow=>kit_is)
  (case xo_NoText_NoText=>kit_is)
  (case xo_NoText_TooGreat=>kit_is)
  (case xo_NoText_TooMany=>kit_is)
  (case xo_NoText_ValueError=>kit_is)
  (case xm_NoText_ShapeError=>kts_exm)
  (case x1_TooGreat=>k_is)
  (case x2_TooGreat=>k_is)
  (case x3_TooGreat=>k_is)
  (case x4_TooGreat=>k_is)
  (case x5_TooGreat=>k_is)
  (case x6_TooGreat=>k_is)
  (case xe_TooGreat=>k_exc)
  (case xo_TooGreat_NoBack=>kit_is)
  (case xo_TooGreat_NoForm=>kit_is)
  (case xo_TooGreat_NoName=>kit_is)
  (case xo_TooGreat_NoRow=>kit_is)
  (case xo_TooGreat_NoText=>kit_is)
  (case xo_TooGreat_TooGreat=>kit_is)
  (case xo_TooGreat_TooMany=>kit_is)
  (case xo_TooGreat_ValueError=>kit_is)
  (case xm_TooGreat_ShapeError=>kts_exm)
  (case xf_NoText_NoText=>kts_exm)
  (case xf_NoForm_NoText=>kts_exm)
  (case z_ValueError=>k_is)
  (case z_all=>k_is)
  (case z_any=>k_is)
  (case z_dict=>k_is)
  (case z_int=>k_is)
  (case z_isinstance=>k_is)
  (case z_len=>k_is)
  (case z_max=>k_is)
  (case z_min=>k_is)
  (case z_sorted=>k_is)
  (case z_str=>k_is)
  (case z_sum=>k_is)
  (case z_tuple=>k_is)
  (case z_zip=>k_is)
  (case y_FIGURES=>k_is)
  (case y_LETTERS=>k_is)
  (case y_MOST_CELLS=>k_is)
  (case y_MOST_FIGURES=>k_is)
  (case y_MOST_LETTERS=>k_is)
  (case y_WITHOUT_CELLS=>k_is)
  (case y_ROWS=>k_is)
  (case v_ROWS=>k_is)
  (case q_ROWS=>decide)
  (case v_ROWS_put_0=>k_is)
  (case v_ROWS_join_0=>k_is)
  (case v_ROWS_common_0=>k_is)
  (case v_ROWS_less_0=>k_is)
  (case v_ROWS_either_0=>k_is)
  (case v_ROWS_greater_0=>k_is)
  (case v_ROWS_smaller_0=>k_is)
  (case v_ROWS_opened_0=>k_is)
  (case v_ROWS_closed_0=>k_is)
  (case v_ROWS_thin_0=>k_is)
  (case v_ROWS_fill_0=>k_is)
  (case v_ROWS_drop_0=>k_is)
  (case v_ROWS_back_0=>k_is)
  (case v_ROWS_show_0=>k_is)
  (case v_ROWS_count_0=>k_is)
  (case v_ROWS_pieces_0=>k_is)
  (case v_ROWS_holes_0=>k_is)
  (case v_ROWS_same_0=>k_is)
  (case v_ROWS_within_0=>k_is)
  (case v_ROWS_names_0=>k_is)

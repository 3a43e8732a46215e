import PyProof.Rows.All
import Wide.All
import OpenK.AllK
import Wide.FinOn
import Lean
import PyProof.EqAt
import PyProof.EqKinds
import PyProof.TupleCall
import PySem.Challenge.RW_shapethin_k56_whole_thinned_keeps_pieces
set_option genSizeOf false
set_option bootstrap.genMatcherCode false
set_option compiler.extract_closed false
set_option linter.all false
set_option maxHeartbeats 4000000
set_option maxRecDepth 100000
local macro_rules|`(tactic|lia)=>do let h←`(‹_›);`(tactic|first|(with_reducible first|assumption|exact rfl|contradiction|exact Nat.le_refl _|exact Nat.le_add_left _ _|exact Nat.le_add_right _ _|exact Nat.le_succ _|exact Nat.sub_le _ _|exact Nat.lt_succ_self _|exact Nat.le_of_lt $h|exact Nat.lt_succ_of_le $h|exact Nat.le_of_not_lt $h|exact Nat.le_of_lt_succ $h|exact Nat.le_succ_of_le $h|exact Nat.sub_lt_of_lt $h|exact Nat.add_sub_cancel' $h|exact Nat.add_le_add_left $h _|exact Nat.add_lt_add_left $h _|exact And.left $h|exact And.right $h|exact Int.not_le.1 $h|exact Int.not_lt.1 $h|exact Nat.le_of_eq $h|exact Nat.pos_of_ne_zero $h|exact Nat.le_add_left_of_le $h|exact Nat.lt_of_succ_le $h|exact Nat.le_sub_one_of_lt $h|exact Nat.add_lt_of_lt_sub' $h|exact Nat.sub_one_lt_of_lt $h|exact Nat.sub_le_sub_right $h _|exact Nat.sub_one_lt_of_lt (Nat.lt_of_succ_le $h)|exact Nat.succ_le_succ $h|exact Nat.le_trans (Nat.le_of_lt $h) (by decide)|exact Nat.lt_of_le_of_lt $h (by decide)|exact Nat.lt_of_lt_of_eq $h $h|exact Nat.lt_of_lt_of_eq $h (Eq.symm $h)|exact Nat.le_trans $h $h|exact Nat.lt_of_le_of_lt $h $h|exact Nat.lt_of_lt_of_le $h $h|exact Nat.lt_trans $h $h|exact Int.le_trans $h $h)|lia +lia)
open Lean Parser.Command in
local macro_rules|`($m:declModifiers def $i:declId $s:optDeclSig $v:declVal)=>do
 if m.raw[4].getNumArgs != 0 then Macro.throwUnsupported
 return mkNode ``declaration #[m.raw.setArg 4 (mkNullNode #[mkNode ``«noncomputable» #[mkAtom "noncomputable"]]),mkNode ``definition #[mkAtom "def",i,s,v,mkNullNode]]
theorem zqN{A:Type _}{a:A}{C:Prop}(q:none=some a):C:=by cases q
local macro_rules|`(tactic|cases $x:ident)=>`(tactic|first|exact zqN $x|cases ($x))
local macro_rules | `(#v[$a,*])=>`(by rw[$[$a:term],*])
local macro_rules | `(~~~$a)=>`(by simpa using $a)
open PySem renaming wpAny_bind->X8,wpAny_pure->Yc,sizeLine_eq->YA,wpAny_newObj_type->YZ,wpAny_holding->Y1,wpAny_of_eq->aac,wpAny_call_entry->aae,wpAny_rule->aao,typeLookup_type->aar,builtinLookup_eq_fast->aas,wpAny_mono->aay,isSubtype_type->aaF,wpAny_field->aa3,wpAny_callSpecial?_slot->aa4,wpAny_typeOf->aa5,wpAny_attempt->aa7,plainId_quiet->aba,wpAny_setField->abd,codeAny_builtin->abf,wpAny_truthy_bool->abm,wpAny_passesOwn->abn,wpAny_throw->aby,wpAny_isInstance->abz,codeAny_mono->abG,wpAny_Call_Name_kw->abH,mem_of_lookup->abI,wpAny_fieldsOf->abW,wpAny_call->ab3,wpAny_pyIter_list->acg,tupleKind_room_in1->acj,wpAny_dictEntries->acm,wpAny_askSetting->acp,wpAny_execs_nil->acs,wpAny_standAt->acu,entryFor_of_tree->acJ,wpAny_specialOf->acK,wpAny_handled->acL,wpAny_pyIter_slot->acM,codeAny_call_builtin->acP,wpAny_notOrdered_dict->acQ,wpAny_typeNameOfWhole_keyiter->acW,wpAny_typeNameOf_keyiter->acX,wpAny_setState_of->acZ,putSet_of->ac0,wpAny_Name->ac3,wpAny_pyIter_range->ac5,concat_meets->ada,noFill_tuple_add->adb,seq_tuple_add->adc,seqIndex_of->adh,seqIndex_neg->adi,wpAny_newList->adq,entryFor_alias->adu,isSubtype_stop->adv,wpAny_dictEpoch->adF,wpAny_isOneOf_keyiter->adG,wpAny_setEntries_of->adK,wpAny_loadName_local->ad0,wpAny_loadName_cell->ad1,wpAny_isTrue_Compare1->ad3,wpAny_pyNext_list_item->ad4,wpAny_pyNext_list_end->ad5,wpAny_pyNext_range_end->ad6,wpAny_pyIter_rangeiter->ad7,wpAny_sequenceKey->aed,slot_list_getitem->aeh,wpAny_comprehension_free->aej,wpAny_pyIter_tuple->aew,wpAny_pyIter_enum->aez,wpAny_storeSet_of->aeL
open PyProof.Rows renaming wpS_bind->Yd,wpS_pure->Yh,wpS_mono->aai,wpS_forRange->aaj,wpS_get->aaB,wpS_modify->aaD,callWith_type1->abo,wpS_lift->abt,slot_tuple_getitem->abJ,boot_range->ac6,size_push'->ado,callWith_builtin1->aeb,entry_tuple_getitem->aee,args_tuple_getitem->aef,subscriptTail_builtinR->aeg
open List renaming length_map->Ye,mem_cons_self->Yg,mem_cons->Yj,length_cons->Yk,length_append->Yl,mem_map->Ym,mem_cons_of_mem->Yn,map_cons->Yo,mem_singleton->Yp,mem_append_right->Yu,mem_append->Yv,getElem?_eq_some_iff->Yx,mem_filter->YC,mem_append_left->YD,map_map->YE,size_toArray->YF,getElem?_map->YG,nodup_cons->YH,filterMap_cons->YJ,append_nil->YK,append_assoc->YL,mem_range->YM,foldl_cons->YQ,getElem?_eq_getElem->YS,getElem_mem->YV,pairwise_append->YW,map_append->YX,length_singleton->Y5,filter_cons->Y7,mem_flatMap->Y8,pairwise_map->aaa,getElem?_cons_succ->aab,getElem?_set_ne->aal,lookup_cons->aan,nodup_append->aaq,any_eq_true->aau,getElem?_append_left->aaz,any_cons->aaA,getElem?_of_mem->aaC,length_filter_le->aaG,pairwise_cons->aaH,pairwise_iff_getElem->aaJ,mem_of_getElem?->aaP,length_set->aaR,getD_eq_getElem?_getD->aaW,getElem?_cons_zero->aaY,eq_nil_or_concat->aaZ,concat_eq_append->aa0,length_take->aa2,map_nil->aa6,drop_of_length_le->aa8,length_eq_zero_iff->aa9,not_mem_nil->abb,contains_iff_mem->abg,filter_cons_of_neg->abh,filter_sublist->abi,length_range'->abk,getElem?_append_right->abp,getElem?_eq_none_iff->abv,sum_cons->abB,getElem?_set_self->abE,drop_eq_getElem_cons->abL,take_of_length_le->abN,drop_zero->abP,find?_cons->abQ,length_nil->abR,nodup_iff_pairwise_ne->abT,filter_cons_of_pos->abV,length_drop->ab5,pairwise_singleton->ab7,extract_eq_take_drop->ab9,getElem?_drop->aca,ext_getElem?->acd,zip_cons_cons->ace,nil_append->acf,length_range->ack,foldl_append->aco,mem_filterMap->acw,length_replicate->acz,all_eq_true->acA,take_append_drop->acB,getElem?_take->acD,mem_reverse->acE,getElem_of_mem->acG,contains_cons->acI,nodup_nil->acN,map_congr_left->acR,nodup_range->acV,eq_nil_of_length_eq_zero->acY,of_mem_zip->ac8,getElem?_replicate->ac9,all_cons->adk,pairwise_reverse->adm,reverse_perm->adn,getElem?_reverse->adw,find?_eq_none->adB,mem_erase_of_ne->adC,length_erase_of_mem->adE,range'_succ->adL,getElem?_eq_none->adM,sum_append->adN,mem_of_find?_eq_some->adO,filter_eq_nil_iff->adP,mem_map_of_mem->adU,filterMap_map->aec,perm_append_comm->aek,take_succ_eq_append_getElem->aen,reverse_append->aeo,eraseIdx_cons_succ->aes,length_pos_of_mem->aeB,filter_eq_self->aeD,range_succ_eq_map->aeJ,perm_append_singleton->aeK,flatMap_append->aeO,contains_eq_any_beq->aeP,head?_eq_some_head->aeQ,length_flatMap->aeR,length_pos_iff->aeS,perm_ext_iff_of_nodup->aeU,length_zipIdx->aeV
open Nat renaming le_refl->Yi,le_trans->Yr,ne_of_lt->Yz,zero_le->YR,lt_of_lt_of_le->YT,le_of_lt->Y0,le_of_eq->aad,lt_of_le_of_lt->aaf,lt_succ_self->aam,zero_add->aaK,lt_irrefl->aa1,lt_succ_of_lt->abr,succ_pos->abu,ne_of_gt->abF,lt_trans->abO,not_lt_zero->abX,le_succ->ab4,le_of_not_lt->ab6,sub_zero->acH,mod_lt->acS,succ_lt_succ->adr,add_right_comm->adz,le_of_lt_succ->adA,not_lt->adI,lt_of_le_of_ne->aem,add_sub_cancel->aep,add_sub_cancel'->aeq,lt_of_lt_of_eq->aer,lt_of_succ_lt->aex
open PySem.Heap renaming get?_push_of_some->Yq,lt_size->Ys,get?_push_size->Yy,get?_update_self->aah,size_push->aaO,get?_update_ne->aaV,get?_update_other->adj,size_update->adp,get?_push_ne->aet
open Int renaming le_refl->Yw,toNat_natCast->aaE,sub_zero->acq,sub_self->ac1,not_le->adT,le_min->adV,emod_lt_of_pos->aeA,toNat_of_nonneg->aeT
open Ne renaming symm->YN
open Option.some renaming inj->YU
open Array renaming length_toList->YY,map_push->aap,toList_append->aaS,map_reverse->aaT,getElem?_toList->aaU,getElem?_eq_getElem->aaX,getElem?_eq_some_iff->abw,perm_iff_toList_perm->abK,toList_push->abM,toList_extract->ab8,size_map->acb,size_extract->acl,getD_eq_getD_getElem?->acU,getElem?_eq_none->adH,append_assoc->adZ,mem_toList_iff->ad8,append_empty->ael,getElem?_setIfInBounds_ne->aeC,getElem?_push->aeH,getElem?_extract->aeI
open PySem.PassesOwn renaming never->Y2
open Bool renaming and_eq_true->Y3,false_ne_true->Y4,and_eq_true_iff->aav,eq_iff_iff->ach,false_eq_true->acF,false_and->ac4,or_eq_true->ads,and_false->adt,false_or->adx,not_eq_true'->adR,not_eq_true->adS
open Prod renaming ext->Y9
open Iff renaming rfl->aak
open PySem.Obj renaming data_mapFields->aat,isFreed_of_fields->abx,cls_mapFields->aci,data_mapDictKeys->aeE
open PySem.F renaming plainAttrs_list->aaw,called_set->abj,slot_list_append->abY,type_list_append->abZ,slot_list_extend->ab0,type_list_extend->ab1,slot_dict_keyiterator_next->acn,slot_list_getattribute->acO,slot_tuple_add->ade,entry_tuple_add->adf,args_tuple_add_2->adg,slot_dict_update->aey,entry_dict_keyiterator_next->aeF,args_dict_keyiterator_next_1->aeG,plain_list_iadd->aeN,plainAttrs_dict->aeW
open PySem.W renaming mg_none_of->aax,mg_of->aaI,callWith_K->acx,plainGet_of->ac7
open Classical renaming byContradiction->aaN,choose_spec->abD
open PySem.Heap.SameBut renaming update->abe
open PySem.Paired renaming length->abl
open PySem.Around renaming under_plainId->abA
open Option renaming bind_some->abC,isSome_iff_exists->acy,isSome_map->ady,map_eq_some_iff->adW
open List.Pairwise renaming imp_of_mem->abU
open Prod.mk renaming injEq->acr
open PySem.IsRange renaming new->acv
open List.Perm renaming append_left->adl,eq_of_pairwise->aev
open PyProof.Rows.F renaming plain_set_update_loop->adJ,entry_set_update_loop->aeM
open List.Sublist renaming refl->adQ
open PySem.SeqAt.EqAt renaming int_str->adX,str_int->adY,int_int->aei
open PySem.Calls renaming Name_function_global->ad2,spliced_nil->ad9,spliced_cons->aea,call_function_entry->aeu
def X9:=@if_neg
def Yb:=@if_pos
def Yt:=@congrArg
def YB:=@decide_eq_false
def YI:=@decide_eq_true
def YO:=@decide_eq_true_eq
def Y6:=@of_decide_eq_true
def aag:=@beq_iff_eq
def aaL:=@dif_pos
def aaM:=@of_decide_eq_false
def aaQ:=@if_false
def abc:=@or_false
def abq:=@if_true
def ab2:=@beq_eq_false_iff_ne
noncomputable section
local macro_rules | `(()) => `(by lia)
abbrev Zn:=List Int
abbrev Zm:=List (Zn)
abbrev Zl:=List PySem.Str
abbrev Zk:=List PySem.Addr
abbrev Zj:=PySem.W.Frag
abbrev Zi:=Option PySem.Value
abbrev Zh:=List PySem.Value
local macro_rules | `(∅)=>`({ cls:=.type "list",data:=.seq ([]:Zh).toArray })
abbrev Zg:=PySem.Str->Option PySem.Value
abbrev Zf:=List (PySem.Addr×PySem.Obj)
abbrev Ze:=PySem.Value->PySem.Shared->Prop
namespace Hd
open PySem PySem.W PySem.Calls PyProof.Rows
def LK(stp:SharedT->Thread->Option (SharedT×Thread))(ok:Thread->Bool):Nat->SharedT->Thread->Option SharedT
 |0,_,_=>none
 |n+1,s,t=>match through t with
  |true=>some s
  |false=>match ok t with
   |false=>none
   |true=>match stp s t with
    |some (s',t')=>LK stp ok n s' t'
    |none=>none
theorem yW{tb:String->Option Builtin} {n₀:Nat} : ∀(n:Nat) (s:SharedT) (t:Thread) (r:SharedT),LK (stepT (denote tb) p w) (stepOk n₀ ann) n s t=some r->topRun tb p w n₀ ann n s.abs t=some r.abs
 |0,_,_,_,h=>by cases h
 |n+1,s,t,r,h=>by
  unfold LK at h;unfold topRun;cases ht:through t with
  |true=>rw[ht] at h;cases h;rfl
  |false=>
   rw[ht] at h;cases hk:stepOk n₀ ann t with
   |false=>rw[hk] at h;cases h
   |true=>
    rw[hk] at h;cases hs:stepT (denote tb) p w s t with
    |none=>rw[hs] at h;cases h
    |some x=>obtain⟨s',t'⟩:=x;rw[hs] at h;rw[stepT_spec hs];exact yW n s' t' r h
def Mw:List Obj->Nat->BT->BT
 |[],_,t=>t
 |o::l,n,t=>Mw l (n+1) (t.ins n o)
def T0(P:Params):BT:=Mw (boot_heap P).objs.toList 0 .nil
def SN(P:Params):absHeap (T0 P) 11 (boot_heap P).life=boot_heap P:=by kernel_rfl
def sz(P:Params):((boot_heap P).isNs mainGlobals,(boot_heap P).objs.size,(boot_heap P).nsMap mainGlobals "__annotations__")=(true,11,some (.ref 6)):=by kernel_rfl
def S0(w:World)(os:OsState):SharedT:=⟨T0 w.params,11,(boot_heap w.params).life,Array.mk [],boot_drawn,boot_toks,os⟩
def NM{α:Type}{Yf:Shared->α}{Ya:World->α}{N M:Nat}{g0:Bool}
  (open_:∀w:World,(fencedOpening treeTable p w N).map (λs=>(s.heap,s.gens,s.drawn,s.toks))=some (boot_heap w.params,Array.mk [],boot_drawn,boot_toks)) (le:Nat.ble M N=true)
  (big:∀w:World,(λos=>(LK (stepT (denote treeTable) p w) (stepOk 11 (some (.ref 6))) M (S0 w os) (topStub p)).map λr=>((staticsOk (importedModules p.main.body) (boot_heap w.params) r.abs.heap&&namesBound p r.abs.heap&&gensDone r.abs&&laidKept (boot_heap w.params) r.abs.heap),
    openSeen q loose (importedModules p.main.body) Xt g0 r.abs,Yf r.abs))=λ_=>some (true,openGood q loose,Ya w)):LeftO p q loose Xt Yf Ya N g0:=λw=>by
 obtain⟨⟨h,gs,d,k,os⟩,e,e'⟩:=adW.1 (open_ w);obtain⟨rfl,rfl,rfl,rfl⟩:h=boot_heap w.params/\gs=Array.mk []/\d=boot_drawn/\k=boot_toks:=by simpa using e'
 obtain⟨z1,z2,z3⟩:_/\_/\_:=by simpa only[acr] using sz w.params
 obtain⟨r,hr,hb⟩:=adW.1 (congrFun (big w) os);obtain⟨l1,l2,l3⟩:_/\_/\_:=by simpa only[acr] using hb
 have ha:(S0 w os).abs=⟨boot_heap w.params,Array.mk [],boot_drawn,boot_toks,os⟩:=by unfold S0 SharedT.abs;dsimp only;rw[SN]
 have t:=topRun_mono (N-M) _ _ _ _ (yW _ _ _ _ hr);rw[show M+(N-M)=N by have:=Nat.le_of_ble_eq_true le;lia,ha] at t;have t2:topFrom treeTable p w N ⟨boot_heap w.params,Array.mk [],boot_drawn,boot_toks,os⟩=some r.abs:=by unfold topFrom;dsimp only;rw[z1,z2,z3,t];show (match staticsOk (importedModules p.main.body) (boot_heap w.params) r.abs.heap&&namesBound p r.abs.heap&&gensDone r.abs&&laidKept (boot_heap w.params) r.abs.heap with|true=>_|false=>_)=_;rw[l1]
 unfold openEnds;rw[e];show (topFrom treeTable p w N _).map _=_;rw[t2];exact Yt some (Y9 l2 l3)
def NN{α:Type}{Yf:Shared->α}{Ya:World->α}{g0:Bool}
  (open_:∀w:World,(fencedOpening treeTable p w 100000).map (λs=>(s.heap,s.gens,s.drawn,s.toks))=some (boot_heap w.params,Array.mk [],boot_drawn,boot_toks))
  (big:∀w:World,(λos=>(LK (Fast.tw10156331382660048174 (Fast.tw11892475500146522536 Fast.tw14364793385576792824) p w) (Fast.tw6613529449190102663 11 (some (.ref 6))) 100000 (S0 w os) (topStub p)).map λr=>((staticsOk (Fast.tw5923862056798008813 p.main.body) (boot_heap w.params) r.abs.heap&&namesBound p r.abs.heap&&gensDone r.abs&&laidKept (boot_heap w.params) r.abs.heap),
    Fast.tw4187177175401517315 q loose (Fast.tw5923862056798008813 p.main.body) Xt g0 r.abs,Yf r.abs))=λ_=>some (true,openGood q loose,Ya w)):LeftO p q loose Xt Yf Ya 100000 g0:=by
 rw[<-Fast.te10156331382660048174,<-Fast.te11892475500146522536,<-Fast.te14364793385576792824,<-Fast.te6613529449190102663,<-Fast.te5923862056798008813,<-Fast.te4187177175401517315] at big;exact NM open_ rfl big
def Oz(h:Fast.tw9446332074065402090 l=true):l.wellSaid=true:=by rw[Fast.te9446332074065402090];exact h
end Hd
set_option Elab.async false
section
open PySem PySem.W PyProof.Rows
def Hd.q : Program := view PySem.Challenge.pw_shapethin_k56_whole_thinned_keeps_pieces [0, 2, 3, 4, 6, 7, 8, 9, 10, 11, 12, 13, 14, 16, 17, 18, 19, 20, 21, 22, 23, 24, 25, 26, 27, 29, 30, 31, 32, 33, 36, 38, 39, 40, 41, 43, 44, 45, 46, 47, 48, 49, 51, 52, 53, 54, 55, 56, 57, 59, 60, 61, 63, 64, 65, 67, 68, 69, 70, 71, 72, 73, 74, 75]
local macro_rules | `(tactic| o_head $_)=>`(tactic| assumption)
set_option maxHeartbeats 0 in
theorem Hd.e0 : PySem.Challenge.rw_shapethin_k56_whole_thinned_keeps_pieces.row.Holds -> PySem.Challenge.rw_shapethin_k56_whole_thinned_keeps_pieces.row.Holds := by intro h; w_on; k_head
def Hd.as:Zk:=(Hd.e0.heap_1 { strHash:=λ_=>0,shareClass:=λ_=>0,mergeTok:=id,idOf:=λ_=>0,idOfShared:=λ_ _=>0,followText:=λ_=>true,idOfImm:=λ_=>0 }).map (·.1)
def Hd.ae(P:Params):Hd.as=(Hd.e0.heap_1 P).map (·.1):=by kernel_rfl
abbrev Hd.H:Hook:=kHook Hd.e0.heap_1 Hd.as Hd.ae
set_option maxHeartbeats 0 in
theorem Hd.e1 : LeftO PySem.Challenge.rw_shapethin_k56_whole_thinned_keeps_pieces.row.prog Hd.q ["may_go", "thinned"] (fun s => xlAt Hd.q [] s && recOk (RowW.records (OpenRow.toRowW (OpenLaw.row PySem.Challenge.rw_shapethin_k56_whole_thinned_keeps_pieces))) s) (Hook.obs Hd.H) (Hook.val Hd.H) 100000 := Hd.NN (boot_open (by rfl) rfl (fun s => rfl)) (by intro w; kernel_rfl)
set_option maxHeartbeats 0 in
theorem Hd.e2 : PySem.Challenge.rw_shapethin_k56_whole_thinned_keeps_pieces.wellSaid = true := Hd.Oz (by kernel_rfl)
end
set_option Elab.async false
set_option linter.all false
set_option maxRecDepth 100000
namespace L2
open PySem PySem.Spec PyProof.Rows
abbrev eN:=Sum Int Str
def yz:eN->Value->Bool
 |.inl k,v=>Value.isInt k v
 |.inr x,v=>Value.isStrOf x v
def Vi(w:World):eN->Int
 |.inl k=>hashInt k
 |.inr x=>hashStr w x
def ci:∀ {k:eN} {v:Value},yz k v=true->(∃i t,k=Sum.inl i/\v=Value.int i t)\/(∃x t,k=Sum.inr x/\v=Value.str x t)
 |.inl i,v,h=>by
  obtain⟨t,e⟩:=Value.isInt_shape (k:=i) (v:=v) h;exact .inl ⟨i,t,rfl,e⟩
 |.inr x,v,h=>by obtain⟨t,e⟩:=Value.isStrOf_shape (x:=x) (v:=v) h;exact .inr ⟨x,t,rfl,e⟩
def Hh(i:Int)(t:Tok):yz (.inl i) (.int i t)=true:=by simp[yz,Value.isInt]
def Hi(x:Str)(t:Tok):yz (.inr x) (.str x t)=true:=by simp[yz,Value.isStrOf]
def QT(a b:Int):decide ((Sum.inl a:eN)=Sum.inl b)=(a==b):=by
 by_cases e:a=b
 ·subst e;simp
 ·have h:¬(Sum.inl a:eN)=Sum.inl b:=λq=>e (Sum.inl.inj q);rw[YB h];exact (ab2.2 e).symm
def QW(a b:Str):decide ((Sum.inr a:eN)=Sum.inr b)=decide (a=b):=by
 by_cases e:a=b
 ·subst e;simp
 ·have h:¬(Sum.inr a:eN)=Sum.inr b:=λq=>e (Sum.inr.inj q);rw[YB h,YB e]
def QU(a:Int)(b:Str):decide ((Sum.inl a:eN)=Sum.inr b)=false:=YB (λq=>nomatch q)
def QV(a:Str)(b:Int):decide ((Sum.inr a:eN)=Sum.inl b)=false:=YB (λq=>nomatch q)
def bh(prog:Program)(w:World):PySem.KeyKind prog w eN where
 is:=yz
 hash:=Vi w
 inj:=λv a b ha hb=>by
  rcases ci ha with ⟨i,t,rfl,rfl⟩|⟨x,t,rfl,rfl⟩
  ·rcases ci hb with ⟨j,u,rfl,e⟩|⟨y,u,rfl,e⟩
   ·injection e with e1 _;rw[e1]
   ·exact nomatch e
  ·rcases ci hb with ⟨j,u,rfl,e⟩|⟨y,u,rfl,e⟩
   ·exact nomatch e
   ·injection e with e1 _;rw[e1]
 byValue:=λk v h=>by rcases ci h with ⟨i,t,rfl,rfl⟩|⟨x,t,rfl,rfl⟩<;>rfl
 pyHash:=λhv h=>by
  rcases ci hv with ⟨i,t,rfl,rfl⟩|⟨x,t,rfl,rfl⟩
  ·exact wpAny_pyHash_int h
  ·exact wpAny_pyHash_str h
 eqBool:=λhu hv h=>by
  rcases ci hu with ⟨i,t,rfl,rfl⟩|⟨x,t,rfl,rfl⟩
  ·rcases ci hv with ⟨j,u,rfl,rfl⟩|⟨y,u,rfl,rfl⟩
   ·rw[QT] at h;exact wpAny_eqBool_int h
   ·rw[QU] at h;exact adX i t y u _ _ _ _ h
  ·rcases ci hv with ⟨j,u,rfl,rfl⟩|⟨y,u,rfl,rfl⟩
   ·rw[QV] at h;exact adY x t j u _ _ _ _ h
   ·rw[QW] at h;exact wpAny_eqBool_str h
 «strs»:=λk x t v h=>by
  rcases ci h with ⟨i,u,rfl,e⟩|⟨y,u,rfl,e⟩
  ·exact nomatch e
  ·injection e with e1 _
   subst e1;cases v<;>rfl
def Cf(prog:Program)(w:World)(i:Int)(t:Tok):(bh prog w).is (.inl i) (.int i t)=true:=Hh i t
def Cg(prog:Program)(w:World)(x:Str)(t:Tok):(bh prog w).is (.inr x) (.str x t)=true:=Hi x t
inductive V where
 |non|bl (b:Bool)|int (i:Int)|str (x:Str)|byt (b:Array UInt8)|flt (b:UInt64)|ref (a:Addr)|ty (n:String)
 deriving DecidableEq
abbrev Za:=List V
def RelV:V->Value->Prop
 |.non,u=>u=Value.none
 |.bl b,u=>u=Value.bool b
 |.int i,u=>∃t,u=Value.int i t
 |.str x,u=>∃t,u=Value.str x t
 |.byt b,u=>∃t,u=Value.bytes b t
 |.flt b,u=>∃t,u=Value.float b t
 |.ref a,u=>u=Value.ref a
 |.ty n,u=>u=Value.type n
abbrev Vals:Za->Zh->Prop:=Paired RelV
def Vals.length{xs:Za}{us:Zh}(r:Vals xs us):xs.length=us.length:=abl r
theorem Vals.get:∀ {xs:Za} {us:Zh} {i:Nat} {x:V},Vals xs us->xs[i]?=some x->∃u,us[i]?=some u/\RelV x u
 |_,_,_,_,.nil,e=>by simp at e
 |_,_,0,_,.cons r _,e=>by simp at e;subst e;exact⟨_,rfl,r⟩
 |_,_,i+1,x,.cons _ t,e=>by obtain⟨u,h1,h2⟩:=Vals.get (i:=i) (x:=x) t (~~~e);exact⟨u,~~~h1,h2⟩
theorem Vals.set{x:V}{u:Value}(r:RelV x u):∀ {xs:Za} {us:Zh} (i:Nat),Vals xs us->Vals (xs.set i x) (us.set i u)
 |_,_,_,.nil=>.nil
 |_,_,0,.cons _ t=>.cons r t
 |_,_,i+1,.cons q t=>.cons q (Vals.set r i t)
theorem Vals.append:∀ {xs ys:Za} {us ws:Zh},Vals xs us->Vals ys ws->Vals (xs++ys) (us++ws)
 |_,_,_,_,.nil,s=>s
 |_,_,_,_,.cons r t,s=>.cons r (Vals.append t s)
theorem Vals.take:∀ {xs:Za} {us:Zh} (n:Nat),Vals xs us->Vals (xs.take n) (us.take n)
 |_,_,0,_=>.nil
 |_,_,_+1,.nil=>.nil
 |_,_,n+1,.cons r t=>.cons r (Vals.take n t)
theorem Vals.drop:∀ {xs:Za} {us:Zh} (n:Nat),Vals xs us->Vals (xs.drop n) (us.drop n)
 |_,_,0,r=>r
 |_,_,_+1,.nil=>.nil
 |_,_,n+1,.cons _ t=>Vals.drop n t
def RelO:Option V->Zi->Prop
 |some v,some u=>RelV v u
 |none,none=>True
 |_,_=>False
def KV{κ:Type}:List (κ×V)->List (κ×Value)->Prop:=Paired λ(p:κ×V) (q:κ×Value)=>p.1=q.1/\RelV p.2 q.2
def kV:eN->V
 |.inl i=>.int i
 |.inr x=>.str x
inductive HO where
  |lst (xs:Za)
  |tup (xs:Za)
  |dK (kvs:List (eN×V))|dT (kvs:List (List eN×V))
  |set (S:Int->Bool) (n:Nat)
  |ins (C dx:Addr) (fs:List (Str×V))
  |own (x:Addr)
  |xd (fs:List (Str×V))
  |met (f x:Addr)
  |rng (lo hi:Int)
  |frz (o:Obj) (u:HO)
  |tbl (ps:Array Value)
  |ext (φ:Heap->Prop)
abbrev Hp:=Addr->Option HO
def bi(H:Hp)(a:Addr)(o:HO):Hp:=λb=>if b=a then some o else H b
def aA:bi H a o a=some o:=by unfold bi;rw[Yb rfl]
def aw{a b:Addr} (h:b≠a):bi H a o b=H b:=by unfold bi;rw[X9 h]
def GB:bi (bi H a o) a u=bi H a u:=by
 funext b;unfold bi;split<;>rfl
def yK{H:Hp}{a b:Addr}{o u:HO}(h:H a=some o)(h':H b=some u)(d:o≠u):a≠b:=by intro e;subst e;rw[h] at h';exact d (YU h')
def aN{H:Hp}{a b:Addr}{o:HO}(h:H a=some o)(h':H b=none):a≠b:=by intro e;subst e;rw[h] at h';cases h'
section
variable (P:Program)(w:World)
def ObjOk(H:Hp)(h:Heap)(a:Addr):HO->Prop
 |.lst xs=>xs.length<=sizeLine/\∃(its:Zh) (n:Nat),Vals xs its/\h.get? a=some { cls:=.type "list",data:=.seq its.toArray n }
 |.tup xs=>xs.length<=sizeLine/\∃its:Zh,Vals xs its/\IsTup h a its.toArray
 |.dK kvs=>kvs.length<=sizeLine/\(a==sysModules)=false/\∃vs,KV kvs vs/\h.DictOf (bh P w) a vs
 |.dT kvs=>kvs.length<=sizeLine/\(a==sysModules)=false/\∃xs:List (List eN×Addr×Value),
   Paired (λ(p:List eN×V) (q:List eN×Addr×Value)=>p.1=q.1/\H q.2.1=some (.tup (p.1.map kV))/\RelV p.2 q.2.2) kvs xs /\
   ∃o es ep,h.get? a=some o/\o.ExactDict/\o.data=.dict es ep/\es.toList=xs.map (entryOfKey (tupleKind (bh P w)))/\(xs.map (·.1)).Nodup
 |.set S n=>h.SetOf (intKind P w) a S n
 |.ins C dx fs=>H dx=some (.own a)/\fs.length<=1000/\dx≠a/\h.get? a=some (W.instObj C dx) /\
   ∃mA,h.Ns1 dx mA/\(∀f,RelO (fs.lookup f) (mA f))/\PySem.Within mA (fs.map (·.1))
 |.own _=>∃o,h.get? a=some o
 |.xd fs=>∃mA,h.Ns1 a mA/\∀f,RelO (fs.lookup f) (mA f)
 |.rng lo hi=>∃t u v,h.get? a=some { cls:=.type "range",data:=.fields #[.int lo t,.int hi u,.int 1 v] }
 |.frz o u=>h.get? a=some o/\ObjOk H h a u
 |.tbl ps=>h.get? a=some { cls:=.none,data:=.fields ps }
 |.met f x=>h.get? a=some (W.methodObj (.ref f) (.ref x))
 |.ext φ=>φ h/\(∃o,h.get? a=some o)/\∀h1 h2:Heap,φ h1->(∀o,h1.get? a=some o->h2.get? a=some o)->φ h2
def HOk(H:Hp)(h:Heap):Prop:=∀a o,H a=some o->ObjOk P w H h a o
end
section
variable {P:Program}{w:World}{H H':Hp}{h h':Heap}{a:Addr}{o:HO}
def ObjOk.lt(x:ObjOk P w H h a o):a<h.objs.size:=by
 cases o with
 |lst xs=>obtain⟨_,_,_,_,e⟩:=x;exact Ys e
 |tup xs=>obtain⟨_,_,_,p⟩:=x;exact p.lt
 |dK kvs=>obtain⟨_,_,_,_,o,_,_,e,_⟩:=x;exact Ys e
 |dT kvs=>obtain⟨_,_,_,_,o,_,_,e,_⟩:=x;exact Ys e
 |set S n=>obtain⟨o,_,_,_,e,_⟩:=x;exact Ys e
 |ins C dx fs=>obtain⟨_,_,_,e,_⟩:=x;exact Ys e
 |own y=>obtain⟨_,e⟩:=x;exact Ys e
 |xd fs=>obtain⟨_,⟨_,_,_,e,_⟩,_⟩:=x;exact Ys e
 |rng lo hi=>obtain⟨_,_,_,e⟩:=x;exact Ys e
 |frz ob u=>obtain⟨e,_⟩:=x;exact Ys e
 |tbl ps=>exact Ys (show h.get? a=some _ from x)
 |met f y=>exact Ys (show h.get? a=some _ from x)
 |ext φ=>obtain⟨_,⟨_,e⟩,_⟩:=x;exact Ys e
theorem Paired.mapP{α β:Type}{F G:α->β->Prop}:∀ {l₁:List α} {l₂:List β},Paired F l₁ l₂->(∀a b,F a b->G a b)->Paired G l₁ l₂
 |_,_,.nil,_=>.nil
 |_,_,.cons r t,f=>.cons (f _ _ r) (Paired.mapP t f)
def ObjOk.stay(x:ObjOk P w H h a o)(k:∀b u,(b=a\/H b=some (.own a))->h.get? b=some u->h'.get? b=some u)
  (ho:∀b,H b=some (.own a)->H' b=some (.own a)) (ht:∀b xs,H b=some (.tup xs)->H' b=some (.tup xs)):ObjOk P w H' h' a o:=by
 induction o with
 |lst xs=>obtain⟨z,its,n,r,e⟩:=x;exact⟨z,its,n,r,k _ _ (.inl rfl) e⟩
 |tup xs=>obtain⟨z,its,r,ob,e,c⟩:=x;exact⟨z,its,r,ob,k _ _ (.inl rfl) e,c⟩
 |dK kvs=>obtain⟨z,y,vs,r,ob,es,ep,e,c⟩:=x;exact⟨z,y,vs,r,ob,es,ep,k _ _ (.inl rfl) e,c⟩
 |dT kvs=>
  obtain⟨z,y,xs,r,ob,es,ep,e,c⟩:=x;exact⟨z,y,xs,Paired.mapP r λp q z=>⟨z.1,ht _ _ z.2.1,z.2.2⟩,ob,es,ep,k _ _ (.inl rfl) e,c⟩
 |set S n=>obtain⟨ob,es,ep,t,e,c⟩:=x;exact⟨ob,es,ep,t,k _ _ (.inl rfl) e,c⟩
 |ins C dx fs=>
  obtain⟨d,z,ne,e,mA,⟨od,es,ep,e2,c⟩,r⟩:=x;exact⟨ho _ d,z,ne,k _ _ (.inl rfl) e,mA,⟨od,es,ep,k _ _ (.inr d) e2,c⟩,r⟩
 |own y=>obtain⟨ob,e⟩:=x;exact⟨ob,k _ _ (.inl rfl) e⟩
 |xd fs=>obtain⟨mA,⟨od,es,ep,e,c⟩,r⟩:=x;exact⟨mA,⟨od,es,ep,k _ _ (.inl rfl) e,c⟩,r⟩
 |rng lo hi=>obtain⟨t,u,v,e⟩:=x;exact⟨t,u,v,k _ _ (.inl rfl) e⟩
 |frz ob u ih=>obtain⟨e,q⟩:=x;exact⟨k _ _ (.inl rfl) e,ih q⟩
 |tbl ps=>
  have e:h.get? a=some { cls:=.none,data:=.fields ps }:=x;show h'.get? a=some { cls:=.none,data:=.fields ps };exact k a _ (.inl rfl) e
 |met f y=>
  have e:h.get? a=some (W.methodObj (.ref f) (.ref y)):=x;show h'.get? a=some (W.methodObj (.ref f) (.ref y));exact k a _ (.inl rfl) e
 |ext φ=>obtain⟨p,⟨o,e⟩,st⟩:=x;exact⟨st _ _ p λo q=>k _ _ (.inl rfl) q,⟨o,k _ _ (.inl rfl) e⟩,st⟩
def HOk.lt(x:HOk P w H h)(e:H a=some o):a<h.objs.size:=(x a o e).lt
def HOk.fresh(x:HOk P w H h)(e:h.objs.size<=a):H a=none:=by
 cases q:H a with
 |none=>rfl
 |some u=>exact absurd (YT (x.lt q) e) (aa1 _)
def HOk.kept(x:HOk P w H h)(k:∀b u,h.get? b=some u->h'.get? b=some u):HOk P w H h':=λa o e=>
 (x a o e).stay (λb u _ q=>k b u q) (λ_ q=>q) λ_ _ q=>q
def HOk.laid(x:HOk P w H h)(k:∀b u,h.get? b=some u->h'.get? b=some u)(hp:h.objs.size<=a)(new:ObjOk P w (bi H a o) h' a o):HOk P w (bi H a o) h':=λb u e=>by
 have hn:=x.fresh hp;by_cases hb:b=a
 ·subst hb;rw[aA] at e;cases e;exact new
 ·rw[aw hb] at e;exact (x b u e).stay (λc v _ q=>k c v q) (λc q=>by rw[aw (aN q hn)];exact q) λc xs q=>by rw[aw (aN q hn)];exact q
end
def Rd(H:Hp)(a:Addr)(u:HO):Prop:=H a=some u\/∃o,H a=some (.frz o u)
def Rd.ok{P:Program}{w:World}{H:Hp}{h:Heap}{a:Addr}{u:HO}(r:Rd H a u)(x:HOk P w H h):ObjOk P w H h a u:=by
 rcases r with r|⟨o,r⟩
 ·exact x a u r
 ·obtain⟨_,q⟩:=x a _ r;exact q
def Sy:Option HO->Prop
 |some (.lst _)=>True
 |some (.dK _)=>True
 |some (.dT _)=>True
 |some (.set _ _)=>True
 |some (.ins _ _ _)=>True
 |some (.ext _)=>True
 |_=>False
section
variable {P:Program}{w:World}{H:Hp}{h h':Heap}{x e:Addr}{o':HO}
def HOk.write(ok:HOk P w H h)(mu:Sy (H x))(he:e=x\/H e=some (.own x))(k:∀b u,b≠e->h.get? b=some u->h'.get? b=some u)(heo:∃u,h'.get? e=some u)
  (new:ObjOk P w (bi H x o') h' x o'):HOk P w (bi H x o') h':=λb u q=>by
 have nown:∀c y,H c=some (.own y)->c≠x:=λc y r z=>by subst z;rw[r] at mu;exact mu
 have ntup:∀c xs,H c=some (.tup xs)->c≠x:=λc xs r z=>by subst z;rw[r] at mu;exact mu
 by_cases hb:b=x
 ·subst hb;rw[aA] at q;cases q;exact new
 ·rw[aw hb] at q;by_cases hbe:b=e
  ·have q':H b=some (.own x):=by
    rcases he with z|z
    ·exact absurd (hbe.trans z) hb
    ·rw[hbe];exact z
   rw[q] at q';cases q';obtain⟨v,hv⟩:=heo;exact⟨v,by rw[hbe];exact hv⟩
  ·refine (ok b u q).stay (λc v hc r=>k c v ?_ r) (λc r=>by rw[aw (nown c b r)];exact r) λc xs r=>by rw[aw (ntup c xs r)];exact r
   rcases hc with rfl|hc
   ·exact hbe
   ·rintro rfl;rcases he with z|z
    ·exact nown c b hc z
    ·rw[hc] at z;cases z;exact hb rfl
end
structure Un(fs ex:Zk)(H H':Hp)(h h':Heap):Prop where
 keep:∀b o,h.get? b=some o->H b=none->b∉fs->b∉ex->h'.get? b=some o
 slot:∀b o,h.get? b=some o->H b=none->b∈fs->b∉ex->∃sl,h'.get? b=some { o with slots:=sl }
 free:∀b o,h.get? b=some o->H b=none->b∉ex->H' b=none
 there:∀b o,h.get? b=some o->b∉ex->∃o',h'.get? b=some o'
 tups:∀b xs,H b=some (.tup xs)->H' b=some (.tup xs)
 frzs:∀b o u,H b=some (.frz o u)->H' b=some (.frz o u)
 tbls:∀b ps,H b=some (.tbl ps)->∃more,H' b=some (.tbl (ps++more))
section
variable {fs fs' ex ex':Zk}{H H1 H2:Hp}{h h1 h2 h':Heap}{a x e:Addr}{o:HO}
def Un.any(u:Un fs ex H H1 h h1) {ob:Obj}(q:h.get? b=some ob)(n:H b=none)(hx:b∉ex):∃sl,h1.get? b=some { ob with slots:=sl }:=by
 by_cases hb:b∈fs
 ·exact u.slot b ob q n hb hx
 ·exact⟨ob.slots,u.keep b ob q n hb hx⟩
def Un.trans(a:Un fs ex H H1 h h1)(b:Un fs ex H1 H2 h1 h2):Un fs ex H H2 h h2 where
 keep:=λc ob q n hc hx=>b.keep c ob (a.keep c ob q n hc hx) (a.free c ob q n hx) hc hx
 slot:=λc ob q n hc hx=>by obtain⟨sl,e1⟩:=a.slot c ob q n hc hx;obtain⟨sl',e2⟩:=b.slot c _ e1 (a.free c ob q n hx) hc hx;exact⟨sl',e2⟩
 free:=λc ob q n hx=>by obtain⟨o',e1⟩:=a.there c ob q hx;exact b.free c o' e1 (a.free c ob q n hx) hx
 there:=λc ob q hx=>by obtain⟨o',e1⟩:=a.there c ob q hx;exact b.there c o' e1 hx
 tups:=λc xs q=>b.tups c xs (a.tups c xs q)
 frzs:=λc ob xs q=>b.frzs c ob xs (a.frzs c ob xs q)
 tbls:=λc ps q=>by obtain⟨m1,e1⟩:=a.tbls c ps q;obtain⟨m2,e2⟩:=b.tbls c _ e1;exact⟨m1++m2,#v[e2,adZ]⟩
def Un.kept(k:∀b u,h.get? b=some u->h'.get? b=some u):Un fs ex H H h h':=
 ⟨λb ob q _ _ _=>k b ob q,λb ob q _ _ _=>⟨ob.slots,k b ob q⟩,λ_ _ _ n _=>n,λb ob q _=>⟨ob,k b ob q⟩,λ_ _ q=>q,λ_ _ _ q=>q,λ_ ps q=>⟨#[],by rw[q];simp⟩⟩
def Un.refl:Un fs ex H H h h:=Un.kept λ_ _ q=>q
def Un.laid(k:∀b u,h.get? b=some u->h'.get? b=some u)(hp:h.objs.size<=a)(hn:H a=none):Un fs ex H (bi H a o) h h' where
 keep:=λb u q _ _ _=>k b u q
 slot:=λb u q _ _ _=>⟨u.slots,k b u q⟩
 free:=λb u q n _=>by rw[aw (Yz (YT (Ys q) hp))];exact n
 there:=λb u q _=>⟨u,k b u q⟩
 tups:=λb xs q=>by rw[aw (aN q hn)];exact q
 frzs:=λb u xs q=>by rw[aw (aN q hn)];exact q
 tbls:=λb ps q=>⟨#[],by rw[aw (aN q hn),q];simp⟩
def Un.write(mu:Sy (H x))(he:e=x\/H e=some (.own x))(k:∀b u,b≠e->h.get? b=some u->h'.get? b=some u)(heo:∃u,h'.get? e=some u):Un fs ex H (bi H x o) h h':=by
 have hx:∀b,H b=none->b≠x:=λb n z=>by subst z;rw[n] at mu;exact mu
 have hb:∀b,H b=none->b≠e:=λb n z=>by
  subst z;rcases he with r|r
  ·exact hx b n r
  ·rw[n] at r;cases r
 have hm:∀b u,H b=some u->¬Sy (some u)->b≠x:=λb u q nm z=>by subst z;rw[q] at mu;exact nm mu
 refine⟨λb u q n _ _=>k b u (hb b n) q,λb u q n _ _=>⟨u.slots,k b u (hb b n) q⟩,λb u q n _=>by rw[aw (hx b n)];exact n,λb u q _=>?_,
  λb xs q=>by rw[aw (hm b _ q λz=>z)];exact q,λb u xs q=>by rw[aw (hm b _ q λz=>z)];exact q,λb ps q=>⟨#[],by rw[aw (hm b _ q λz=>z),q];simp⟩⟩
 by_cases hbe:b=e
 ·subst hbe;exact heo
 ·exact⟨u,k b u hbe q⟩
end
def UN(h:Heap)(H:Hp):Zk:=(List.range h.objs.size).filter λa=>(H a).isSome
def zK(h:Heap)(H:Hp):Heap:=W.hideAll h (UN h H)
def Hb(h:Heap)(H:Hp):(zK h H).objs.size=h.objs.size:=W.hideAll_size _ _
def J8{h:Heap}{H:Hp}{b:Addr}{o:Obj}(e:h.get? b=some o)(n:H b=none):(zK h H).get? b=some o:=
 W.hideAll_get _ e λhm=>by have q:(H b).isSome=true:=(YC.1 hm).2;rw[n] at q;simp at q
def NY{b:Addr}{o:Obj}(e:(zK h H).get? b=some o):h.get? b=some o/\H b=none:=by
 have e':h.get? b=some o:=W.of_hideAll (UN h H) e;refine⟨e',?_⟩;cases q:H b with
 |none=>rfl
 |some x=>have hm:b∈UN h H:=YC.2 ⟨YM.2 (Ys e'),by simp[q]⟩;have z:(zK h H).get? b=none:=W.hideAll_none (UN h H) hm;rw[z] at e;cases e
def M5(g h:Heap)(L:Addr):Zf:=(List.range h.objs.size).filterMap λa=>if a=L\/(g.get? a).isSome=true then none else (h.get? a).map λo=>(a,o)
def rest(g h:Heap)(L d:Addr):Zf:=(M5 g h L).filter λp=>decide (p.1≠d)
structure Mod(K:Zj)(mg:Zg)(base:Heap):Prop where
 kin:K.In base
 glob:base.Ns mainGlobals mg
 blt:∃mb,base.Ns builtinsNs mb/\∀x:Str,x ≠ "__name__" -> mb x=bootBuiltins x
 nolimit:base.NoLimit
structure Cx where
 prog:Program
 w:World
 K:Zj
 mg:Zg
 base:Heap
 A:Around
 N:Zl
 s₀:Shared
 H₀:Hp
 env:Env
 outer:List Env
 stack:List Env
 ex:Zk
 fn:Str->Bool
 calm:Bool
 pn:Zf
 xe:Ze
def JT(l:List Env):Zk:=l.filterMap (·.frame)
abbrev Cx.fs(X:Cx):Zk:=JT X.outer
def Uy(sc:Scope)(x:Str):Prop:=sc.names.lookup x=some .local\/sc.names.lookup x=some .cell\/sc.names.lookup x=some .free
def M4(sc:Scope)(x:Str):Prop:=sc.names.lookup x=some .local\/sc.names.lookup x=some .cell
def UU(env:Env)(h:Heap)(m:Zg)(x:Str)(u:Value):Prop:=
 (env.kindOf x=some .local/\m x=some u)\/((env.kindOf x=some .cell\/env.kindOf x=some .free)/\∃c,env.cells.lookup x=some c/\h.IsCell c (some u))
structure Cx.Ok(X:Cx):Prop where
 mod:Mod X.K X.mg X.base
 kind:X.env.scope.kind=.function
 glob:X.env.globals=mainGlobals
 blt:X.env.builtins=builtinsNs
 above:X.s₀.heap.objs.size<=X.env.locals
 inj:∀x y c,X.env.cells.lookup x=some c->X.env.cells.lookup y=some c->x=y
 has:∀x,(X.env.kindOf x=some .cell\/X.env.kindOf x=some .free)->∃c,X.env.cells.lookup x=some c
 cab:∀x c,X.fn x=true->X.env.cells.lookup x=some c->X.s₀.heap.objs.size<=c
 hd:X.calm=true->X.A.handled=none
 frames:X.A.frames=some X.stack
 stk:X.stack=X.outer\/(X.stack=X.env::X.outer/\X.env.frame=some X.env.locals)
 exf:∀b∈X.ex,b≠X.env.locals/\∀x c,X.env.cells.lookup x=some c->c≠b
 bs:∀b o,X.base.get? b=some o->X.s₀.heap.get? b=some o/\X.H₀ b=none
 bsz:X.base.objs.size<=X.s₀.heap.objs.size
 noex:∀b o,X.base.get? b=some o->b∉X.ex
 exfs:∀b∈X.ex,b∉X.fs
 funs:X.s₀.heap.FunFrames X.base X.outer
 frf:∀b∈X.fs,X.H₀ b=none
structure Inv(X:Cx)(ZN:Zf)(σ:List (Option V))(H:Hp)(s:Shared):Prop where
 ok:X.Ok
 os:s.os=X.s₀.os
 bare:AllBare s.gens
 base:Un X.fs X.ex X.H₀ H X.s₀.heap s.heap
 loc:∃m,s.heap.Ns X.env.locals m/\∀(i:Nat) (x:Str) (v:V),X.N[i]?=some x->σ[i]?=some (some v)->Uy X.env.scope x->∃u,RelV v u/\UU X.env s.heap m x u
 cell:∀x c,X.env.cells.lookup x=some c->∃v,s.heap.IsCell c v
 free:H X.env.locals=none
 freeC:∀x c,X.env.cells.lookup x=some c->H c=none
 pin:∀p∈X.pn++ZN,s.heap.get? p.1=some p.2/\H p.1=none/\p.1≠X.env.locals/\p.1∉X.fs/\∀v,p.2.data ≠ .cell v
 hok:HOk X.prog X.w H s.heap
 len:σ.length=X.N.length
section
variable {X:Cx}{ZN:Zf}{σ:List (Option V)}{H H':Hp}{s:Shared}{h':Heap}
def Cx.Ok.nofr(ok:X.Ok) {o:Obj}(e:X.base.get? b=some o):b∉X.fs:=λhb=>by have:=(ok.funs.mem hb).1;rw[e] at this;cases this
def Inv.bs(I:Inv X ZN σ H s):∀b o,X.base.get? b=some o->s.heap.get? b=some o/\H b=none:=λb o e=>
 ⟨I.base.keep b o (I.ok.bs b o e).1 (I.ok.bs b o e).2 (I.ok.nofr e) (I.ok.noex b o e),I.base.free b o (I.ok.bs b o e).1 (I.ok.bs b o e).2 (I.ok.noex b o e)⟩
def Inv.bk(I:Inv X ZN σ H s):∀b o,X.base.get? b=some o->s.heap.get? b=some o:=λb o e=>(I.bs b o e).1
def Inv.mod(I:Inv X ZN σ H s):Mod X.K X.mg X.base:=I.ok.mod
def Inv.kIn(I:Inv X ZN σ H s):X.K.In s.heap:=I.ok.mod.kin.keeps I.bk
def Inv.fr(I:Inv X ZN σ H s):∃m,Fr X.base X.env.locals s.heap m:=
 let ⟨m,hn,_⟩:=I.loc
 ⟨m,hn,I.bk,Yr I.ok.bsz I.ok.above⟩
def Inv.lt(I:Inv X ZN σ H s):X.env.locals<s.heap.objs.size:=let ⟨_,hn,_⟩:=I.loc;hn.lt
def Inv.sz(I:Inv X ZN σ H s):X.s₀.heap.objs.size<=s.heap.objs.size:=Yr I.ok.above (Y0 I.lt)
def Inv.nofs(I:Inv X ZN σ H s){a:Addr}(h:s.heap.objs.size<=a):a∉X.fs:=λhb=>by obtain⟨_,o,ho,_⟩:=I.ok.funs.mem hb;exact absurd (YT (Ys ho) (Yr I.sz h)) (aa1 _)
def Inv.cne(I:Inv X ZN σ H s):∀x c,X.env.cells.lookup x=some c->c≠X.env.locals:=λx c e z=>by obtain⟨v,o,ho,hd⟩:=I.cell x c e;obtain⟨m,⟨o',es,ep,ho',hd',_⟩,_⟩:=I.loc;rw[z,ho'] at ho;cases ho;rw[hd'] at hd;cases hd
def Inv.funs(I:Inv X ZN σ H s):s.heap.FunFrames X.base X.outer:=by
 have all:∀(l:List Env),(∀b∈JT l,b∈X.fs)->X.s₀.heap.FunFrames X.base l->s.heap.FunFrames X.base l:=by
  intro l;induction l with
  |nil=>intro _ _;trivial
  |cons env r ih=>intro hs hl;obtain⟨hk,⟨L,o,hf,hn,ho,hd⟩,hr⟩:=hl;have hL:L∈X.fs:=hs L (by unfold JT;rw[YJ,hf];exact Yg);obtain⟨sl,e⟩:=I.base.slot L o ho (I.ok.frf L hL) hL λz=>I.ok.exfs L z hL;exact⟨hk,⟨L,_,hf,hn,e,hd⟩,ih (λb hb=>hs b (by unfold JT;rw[YJ,hf];exact Yn _ hb)) hr⟩
 exact all X.outer (λ_ hb=>hb) I.ok.funs
def Inv.stack(I:Inv X ZN σ H s):s.heap.FunFrames X.base X.stack:=by
 rcases I.ok.stk with e|⟨e,hf⟩
 ·rw[e];exact I.funs
 ·rw[e];obtain⟨m,hn,_⟩:=I.loc;refine .cons (by rw[I.ok.kind];decide) hf hn ?_ I.funs;exact Heap.get?_none_of_le (Yr I.ok.bsz I.ok.above)
def Inv.stkSub(I:Inv X ZN σ H s):∀b∈JT X.stack,b∈X.env.locals::X.fs:=λb hb=>by
 rcases I.ok.stk with e|⟨e,hf⟩
 ·rw[e] at hb;exact Yn _ hb
 ·rw[e] at hb;unfold JT at hb;rw[YJ,hf] at hb;exact hb
def Inv.stkFree(I:Inv X ZN σ H s):∀b∈JT X.stack,H b=none:=λb hb=>by
 rcases Yj.1 (I.stkSub b hb) with e|hb
 ·rw[e];exact I.free
 ·obtain⟨_,o,ho,_⟩:=I.ok.funs.mem hb;exact I.base.free b o ho (I.ok.frf b hb) λz=>I.ok.exfs b z hb
def Inv.step{t':Nat}{d':Drawn}{ch:Zk}(I:Inv X ZN σ H s)
  (hch:∀b∈ch,(b∈X.ex\/X.s₀.heap.objs.size<=b)/\b≠X.env.locals/\(∀x c,X.env.cells.lookup x=some c->c≠b)/\∀p∈X.pn++ZN,p.1≠b)
  (keep:∀b o,b≠X.env.locals->b∉X.fs->b∉ch->s.heap.get? b=some o->H b=none->h'.get? b=some o)
  (slot:∀b o,b≠X.env.locals->b∈X.fs->b∉ch->s.heap.get? b=some o->H b=none->∃sl,h'.get? b=some { o with slots:=sl }) (free:∀b o,b∉ch->s.heap.get? b=some o->H b=none->H' b=none)
  (there:∀b o,b∉ch->s.heap.get? b=some o->∃o',h'.get? b=some o')
  (tups:∀b xs,H b=some (.tup xs)->H' b=some (.tup xs)) (frzs:∀b o u,H b=some (.frz o u)->H' b=some (.frz o u)) (tbls:∀b ps,H b=some (.tbl ps)->∃more,H' b=some (.tbl (ps++more)))
  (ns:∀m,s.heap.Ns X.env.locals m->h'.Ns X.env.locals m) (hok:HOk X.prog X.w H' h') (hg:AllBare g') :
  Inv X ZN σ H' { s with heap:=h',gens:=g',drawn:=d',toks:=t' }:=by
 have neL:∀b o,X.s₀.heap.get? b=some o->b≠X.env.locals:=λb o e=>Yz (YT (Ys e) I.ok.above);have neC:∀b o,X.s₀.heap.get? b=some o->b∉X.ex->b∉ch:=λb o e hx hb=>by
  rcases (hch b hb).1 with z|z
  ·exact hx z
  ·exact absurd (YT (Ys e) z) (aa1 _)
 have cellK:∀x c,X.env.cells.lookup x=some c->∀v,s.heap.IsCell c v->h'.IsCell c v:=λx c e v hpt0=>by
  obtain⟨o,ho,hd⟩:=hpt0;have nch:c∉ch:=λz=>(hch c z).2.2.1 x c e rfl;by_cases hc:c∈X.fs
  ·obtain⟨sl,q⟩:=slot c o (I.cne x c e) hc nch ho (I.freeC x c e);exact⟨_,q,hd⟩
  ·exact⟨o,keep c o (I.cne x c e) hc nch ho (I.freeC x c e),hd⟩
 refine⟨I.ok,I.os,hg,⟨λb o e n hb hx=>?_,λb o e n hb hx=>?_,λb o e n hx=>?_,λb o e hx=>?_,λb xs e=>tups b xs (I.base.tups b xs e),λb o xs e=>frzs b o xs (I.base.frzs b o xs e),λb ps e=>?_⟩,?_,λx c e=>?_,?_,λx c e=>?_,λp hp=>?_,hok,I.len⟩
 ·exact keep b o (neL b o e) hb (neC b o e hx) (I.base.keep b o e n hb hx) (I.base.free b o e n hx)
 ·obtain⟨sl,e1⟩:=I.base.slot b o e n hb hx;obtain⟨sl',e2⟩:=slot b _ (neL b o e) hb (neC b o e hx) e1 (I.base.free b o e n hx);exact⟨sl',e2⟩
 ·obtain⟨o',e1⟩:=I.base.there b o e hx;exact free b o' (neC b o e hx) e1 (I.base.free b o e n hx)
 ·obtain⟨o',e1⟩:=I.base.there b o e hx;exact there b o' (neC b o e hx) e1
 ·obtain⟨m1,e1⟩:=I.base.tbls b ps e;obtain⟨m2,e2⟩:=tbls b _ e1;exact⟨m1++m2,#v[e2,adZ]⟩
 ·obtain⟨m,hn,hl⟩:=I.loc;refine⟨m,ns m hn,λi x v e1 e2 e3=>?_⟩;obtain⟨u,r,l⟩:=hl i x v e1 e2 e3;refine⟨u,r,?_⟩;rcases l with l|⟨k,c,e,z⟩
  ·exact .inl l
  ·exact .inr ⟨k,c,e,cellK x c e _ z⟩
 ·obtain⟨v,z⟩:=I.cell x c e;exact⟨v,cellK x c e v z⟩
 ·obtain⟨m,⟨o,_,_,ho,_⟩,_⟩:=I.loc;exact free _ o (λz=>(hch _ z).2.1 rfl) ho I.free
 ·obtain⟨v,o,ho,hd⟩:=I.cell x c e;exact free c o (λz=>(hch c z).2.2.1 x c e rfl) ho (I.freeC x c e)
 ·obtain⟨e,n,ne,nf,d⟩:=I.pin p hp;have nch:p.1∉ch:=λz=>(hch p.1 z).2.2.2 p hp rfl;exact⟨keep p.1 p.2 ne nf nch e n,free p.1 p.2 nch e n,ne,nf,d⟩
def Inv.un{t':Nat}(I:Inv X ZN σ H s)(u:Un X.fs [] H H' s.heap h')(hok:HOk X.prog X.w H' h'):Inv X ZN σ H' { s with heap:=h',toks:=t' }:=by
 obtain⟨m,⟨o,es,ep,ho,r⟩,_⟩:=id I.loc;obtain⟨sl,hL⟩:=u.any ho I.free (by simp);exact I.step (g':=s.gens) (d':=s.drawn) (ch:=[]) (λ_ z=>nomatch z) (λb o _ hb _ e n=>u.keep b o e n hb (by simp)) (λb o _ hb _ e n=>u.slot b o e n hb (by simp)) (λb o _ e n=>u.free b o e n (by simp)) (λb o _ e=>u.there b o e (by simp)) u.tups u.frzs u.tbls (λm' hm=>by
  obtain⟨o',es',ep',ho',r'⟩:=hm;rw[ho] at ho';cases ho'
  exact⟨_,es',ep',hL,r'⟩) hok I.bare
def Inv.call{t':Nat}{d':Drawn} (I:Inv X ZN σ H s)(u:Un (JT X.stack) ch H H' s.heap h')(hok:HOk X.prog X.w H' h')(hg:AllBare g')
  (hch:∀b∈ch,(b∈X.ex\/X.s₀.heap.objs.size<=b)/\b≠X.env.locals/\(∀x c,X.env.cells.lookup x=some c->c≠b)/\∀p∈X.pn++ZN,p.1≠b) :
  Inv X ZN σ H' { s with heap:=h',gens:=g',drawn:=d',toks:=t' }:=by
 obtain⟨m,⟨o,es,ep,ho,r⟩,_⟩:=id I.loc;obtain⟨sl,hL⟩:=u.any ho I.free λz=>(hch _ z).2.1 rfl;exact I.step (ch:=ch) hch (λb o hL hb hc e n=>u.keep b o e n (λz=>(Yj.1 (I.stkSub b z)).elim hL hb) hc) (λb o _ _ hc e n=>u.any e n hc) (λb o hc e n=>u.free b o e n hc) (λb o hc e=>u.there b o e hc) u.tups u.frzs u.tbls (λm' hm=>by
  obtain⟨o',es',ep',ho',r'⟩:=hm;rw[ho] at ho';cases ho'
  exact⟨_,es',ep',hL,r'⟩) hok hg
def Inv.turned{t':Nat}{it:Addr}(I:Inv X ZN σ H s)(k:∀b o,b≠it->s.heap.get? b=some o->h'.get? b=some o)(hn:H it=none)(hL:it≠X.env.locals)
  (h1:it∈X.ex\/X.s₀.heap.objs.size<=it) (h2:∀x c,X.env.cells.lookup x=some c->c≠it) (h3:∀p∈X.pn++ZN,p.1≠it):Inv X ZN σ H { s with heap:=h',toks:=t' }:=by
 have nit:∀b u,H b=some u->b≠it:=λb u e z=>by rw[z,hn] at e;cases e
 refine I.step (g':=s.gens) (d':=s.drawn) (ch:=[it]) (λb hb=>?_) (λb o _ _ hc e _=>k b o (λz=>hc (by simp[z])) e) (λb o _ _ hc e _=>⟨o.slots,k b o (λz=>hc (by simp[z])) e⟩) (λ_ _ _ _ n=>n)
  (λb o hc e=>⟨o,k b o (λz=>hc (by simp[z])) e⟩) (λ_ _ e=>e) (λ_ _ _ e=>e) (λb ps e=>⟨#[],by rw[e];simp⟩) (λm hm=>?_) (λb u e=>?_) I.bare
 ·have e:b=it:=by simpa using hb
  subst e;exact⟨h1,hL,h2,h3⟩
 ·obtain⟨o,es,ep,ho,r⟩:=hm;exact⟨o,es,ep,k _ o (YN hL) ho,r⟩
 ·refine (I.hok b u e).stay (λc v hc q=>k c v ?_ q) (λ_ q=>q) λ_ _ q=>q;rcases hc with z|z
  ·rw[z];exact nit b u e
  ·exact nit c _ z
def Inv.tok(I:Inv X ZN σ H s)(t:Nat):Inv X ZN σ H { s with toks:=t }:=I.un (h':=s.heap) (t':=t) Un.refl I.hok
def Inv.kept{t':Nat}(I:Inv X ZN σ H s)(k:∀b u,s.heap.get? b=some u->h'.get? b=some u):Inv X ZN σ H { s with heap:=h',toks:=t' }:=I.un (Un.kept k) (I.hok.kept k)
def Inv.laid{a:Addr} {t':Nat}(I:Inv X ZN σ H s)(k:∀b u,s.heap.get? b=some u->h'.get? b=some u)(hp:s.heap.objs.size<=a)(new:ObjOk X.prog X.w (bi H a o) h' a o) :
  Inv X ZN σ (bi H a o) { s with heap:=h',toks:=t' }:=I.un (Un.laid k hp (I.hok.fresh hp)) (I.hok.laid k hp new)
def Inv.write{e:Addr} {t':Nat}(I:Inv X ZN σ H s)(mu:Sy (H x))(he:e=x\/H e=some (.own x))(k:∀b u,b≠e->s.heap.get? b=some u->h'.get? b=some u)(heo:∃u,h'.get? e=some u)
  (new:ObjOk X.prog X.w (bi H x o) h' x o):Inv X ZN σ (bi H x o) { s with heap:=h',toks:=t' }:=I.un (Un.write mu he k heo) (I.hok.write mu he k heo new)
def Inv.weak{σ':List (Option V)}(I:Inv X ZN σ H s)(hl:σ'.length=σ.length)(w:∀(i:Nat) v,σ'[i]?=some (some v)->σ[i]?=some (some v)):Inv X ZN σ' H s:=
 ⟨I.ok,I.os,I.bare,I.base,let ⟨m,hn,hl'⟩:=I.loc;⟨m,hn,λi x v e1 e2 e3=>hl' i x v e1 (w i v e2) e3⟩,I.cell,I.free,I.freeC,I.pin,I.hok,hl.trans I.len⟩
def Inv.pins_of{pins':Zf}(I:Inv X ZN σ H s)(h:∀p∈pins',s.heap.get? p.1=some p.2/\H p.1=none/\p.1≠X.env.locals/\p.1∉X.fs/\∀v,p.2.data ≠ .cell v):Inv X pins' σ H s:=
 ⟨I.ok,I.os,I.bare,I.base,I.loc,I.cell,I.free,I.freeC,λp hp=>(Yv.1 hp).elim (λz=>I.pin p (YD _ z)) (h p),I.hok,I.len⟩
def Cm{N:Zl}(hN:N.Nodup){i j:Nat}{x:Str}(a:N[i]?=some x)(b:N[j]?=some x):i=j:=by obtain⟨h1,e1⟩:=Yx.1 a;obtain⟨h2,e2⟩:=Yx.1 b;exact (List.getElem_inj hN).mp (e1.trans e2.symm)
def IC{i:Nat}{x:Str} {Q:Unit->Shared->Prop}(I:Inv X ZN σ H s)(hN:X.N.Nodup)(hi:X.N[i]?=some x)(hx:M4 X.env.scope x)(r:RelV v u)
  (h:∀s',Inv X ZN (σ.set i (some v)) H s'->(∃a,Heap.SameBut a s.heap s'.heap/\(a=X.env.locals\/X.env.cells.lookup x=some a))->Q Unit.unit s') (hf:X.fn x=true\/X.env.scope.names.lookup x=some .local:=by first|exact .inl rfl|exact .inr rfl|assumption):wpAny M A (storeName X.env x u) Q E s:=by
 obtain⟨m,hn,hl⟩:=id I.loc;have hcls:(X.env.scope.kind == .class || (X.env.scope.kind == .module&&X.env.locals != X.env.globals))=false:=by rw[I.ok.kind];rfl
 have hiσ:i<σ.length:=by rw[I.len];exact (Yx.1 hi).1
 have cne:=I.cne;have tracked:∀ {a:Addr} {h':Heap},(∃o,s.heap.get? a=some o/\H a=none)->Heap.SameBut a s.heap h'->HOk X.prog X.w H h':=λ{a h'} ha hs b ob e=>by
  obtain⟨_,_,hfree⟩:=ha;refine (I.hok b ob e).stay (λc w' hc q=>(hs.2 c ?_).trans q) (λ_ q=>q) λ_ _ q=>q;rintro rfl;rcases hc with rfl|hc
  ·rw[hfree] at e;cases e
  ·rw[hfree] at hc;cases hc
 rcases hx with hk|hk
 ·refine wpAny_storeName_local hk hn (λh' hn' hs=>?_) hcls;obtain⟨oL,_,_,hoL,_⟩:=id hn;refine h _ ⟨I.ok,I.os,I.bare,⟨λb o e n hb hx=>?_,λb o e n hb hx=>?_,I.base.free,λb o e hx=>?_,I.base.tups,I.base.frzs,I.base.tbls⟩,⟨_,hn',λj y v' e1 e2 e3=>?_⟩,λy c e=>?_,I.free,I.freeC,λp hp=>?_,tracked ⟨oL,hoL,I.free⟩ hs,~~~I.len⟩ ⟨_,hs,.inl rfl⟩
  ·exact (hs.2 b (Yz (YT (Ys e) I.ok.above))).trans (I.base.keep b o e n hb hx)
  ·obtain⟨sl,e1⟩:=I.base.slot b o e n hb hx;exact⟨sl,(hs.2 b (Yz (YT (Ys e) I.ok.above))).trans e1⟩
  ·obtain⟨o',e1⟩:=I.base.there b o e hx;exact⟨o',(hs.2 b (Yz (YT (Ys e) I.ok.above))).trans e1⟩
  ·by_cases hj:j=i
   ·subst hj;rw[hi] at e1;cases e1;rw[abE hiσ] at e2;cases e2;exact⟨u,r,.inl ⟨hk,by simp⟩⟩
   ·rw[aal (YN hj)] at e2;obtain⟨u',r',q⟩:=hl j y v' e1 e2 e3;refine⟨u',r',?_⟩;rcases q with ⟨k,e⟩|⟨k,c,e,z⟩
    ·refine .inl ⟨k,?_⟩;have:y≠x:=λe=>hj (Cm hN e1 (e▸hi));simp[this,e]
    ·exact .inr ⟨k,c,e,z.sameBut hs (cne y c e)⟩
  ·obtain⟨w',z⟩:=I.cell y c e;exact⟨w',z.sameBut hs (cne y c e)⟩
  ·obtain⟨e,n,ne,nf,d⟩:=I.pin p hp;exact⟨(hs.2 p.1 ne).trans e,n,ne,nf,d⟩
 ·have hfn:X.fn x=true:=by
   rcases hf with z|z
   ·exact z
   ·rw[z] at hk;cases hk
  obtain⟨c,hc⟩:=I.ok.has x (.inl hk);obtain⟨w',z⟩:=I.cell x c hc;refine wpAny_storeName_cell I.ok.kind hk hc z (λh' hc' hs=>?_);obtain⟨oc,hoc,hocd⟩:=id z;refine h { s with heap:=h' } ⟨I.ok,I.os,I.bare,⟨λb o e n hb hx=>?_,λb o e n hb hx=>?_,I.base.free,λb o e hx=>?_,I.base.tups,I.base.frzs,I.base.tbls⟩,⟨m,hn.sameBut hs (YN (cne x c hc)),λj y v' e1 e2 e3=>?_⟩,λy c' e=>?_,I.free,I.freeC,λp hp=>?_,tracked ⟨oc,hoc,I.freeC x c hc⟩ hs,~~~I.len⟩ ⟨c,hs,.inr hc⟩
  ·exact (hs.2 b (Yz (YT (Ys e) (I.ok.cab x c hfn hc)))).trans (I.base.keep b o e n hb hx)
  ·obtain⟨sl,e1⟩:=I.base.slot b o e n hb hx;exact⟨sl,(hs.2 b (Yz (YT (Ys e) (I.ok.cab x c hfn hc)))).trans e1⟩
  ·obtain⟨o',e1⟩:=I.base.there b o e hx;exact⟨o',(hs.2 b (Yz (YT (Ys e) (I.ok.cab x c hfn hc)))).trans e1⟩
  ·by_cases hj:j=i
   ·subst hj;rw[hi] at e1;cases e1;rw[abE hiσ] at e2;cases e2;exact⟨u,r,.inr ⟨.inl hk,c,hc,hc'⟩⟩
   ·rw[aal (YN hj)] at e2;obtain⟨u',r',q⟩:=hl j y v' e1 e2 e3;refine⟨u',r',?_⟩;rcases q with q|⟨k,c',e,z'⟩
    ·exact .inl q
    ·refine .inr ⟨k,c',e,z'.sameBut hs ?_⟩;rintro rfl;exact hj (Cm hN e1 (I.ok.inj _ _ _ e hc▸hi))
  ·by_cases hcc:c'=c
   ·subst hcc;exact⟨_,hc'⟩
   ·obtain⟨w2,z2⟩:=I.cell y c' e;exact⟨w2,z2.sameBut hs hcc⟩
  ·obtain⟨e,n,ne,nf,d⟩:=I.pin p hp;refine⟨(hs.2 p.1 ?_).trans e,n,ne,nf,d⟩;intro q;rw[q,hoc] at e;have q':oc=p.2:=YU e;exact d w' (by rw[<-q'];exact hocd)
def wW{M:Model}{A:Around}{E:Ze}{i:Nat}{x:Str}{v:V}{u:Value}{Q:Unit->Shared->Prop}(I:Inv X ZN σ H s)(hN:X.N.Nodup)(hi:X.N[i]?=some x)(hx:M4 X.env.scope x)(r:RelV v u)
  (h:∀s',Inv X ZN (σ.set i (some v)) H s'->Q Unit.unit s') (hf:X.fn x=true\/X.env.scope.names.lookup x=some .local:=by first|exact .inl rfl|exact .inr rfl|assumption):wpAny M A (storeName X.env x u) Q E s:=
 IC I hN hi hx r (λs' I' _=>h s' I') hf
def Inv.call'{s':Shared} (I:Inv X ZN σ H s)(ho:s'.os=s.os)(u:Un (JT X.stack) ch H H' s.heap s'.heap)(hok:HOk X.prog X.w H' s'.heap)(hg:AllBare s'.gens)
  (hch:∀b∈ch,(b∈X.ex\/X.s₀.heap.objs.size<=b)/\b≠X.env.locals/\(∀x c,X.env.cells.lookup x=some c->c≠b)/\∀p∈X.pn++ZN,p.1≠b):Inv X ZN σ H' s':=by
 obtain⟨h',g',d',t',o'⟩:=s';have e:o'=s.os:=ho;subst e;exact I.call (g':=g') (t':=t') (d':=d') u hok hg hch
end
abbrev XK:=Value->Option Addr->Hp->Prop
abbrev St:=List (Option V)
abbrev VK:=V->Hp->Prop
abbrev TE:=St->Hp->VK->Prop
abbrev TT:=St->Hp->(Bool->Hp->Prop)->Prop
abbrev TA:=St->Hp->(Za->Hp->Prop)->Prop
structure Ends where
 nx:St->Hp->Prop
 rt:VK
 bk:St->Hp->Prop:=λ_ _=>False
 ct:St->Hp->Prop:=λ_ _=>False
abbrev TS:=Ends->St->Hp->Prop
def EP(X:Cx)(ZN:Zf)(σ:St)(Q:VK)(u:Value)(s':Shared):Prop:=∃v H',Inv X ZN σ H' s'/\RelV v u/\Q v H'
def TP(X:Cx)(ZN:Zf)(σ:St)(Q:Bool->Hp->Prop)(b:Bool)(s':Shared):Prop:=∃H',Inv X ZN σ H' s'/\Q b H'
def AP(X:Cx)(ZN:Zf)(σ:St)(Q:Za->Hp->Prop)(us:Zh)(s':Shared):Prop:=∃vs H',Inv X ZN σ H' s'/\Vals vs us/\Q vs H'
def SP(X:Cx)(ZN:Zf)(D:Ends)(f:Flow)(s':Shared):Prop:=
 match f with
 |.next=>∃σ' H',Inv X ZN σ' H' s'/\D.nx σ' H'
 |.brk=>∃σ' H',Inv X ZN σ' H' s'/\D.bk σ' H'
 |.cont=>∃σ' H',Inv X ZN σ' H' s'/\D.ct σ' H'
 |.ret u=>∃v σ' H',Inv X ZN σ' H' s'/\RelV v u/\D.rt v H'
def PE(X:Cx)(e:Expr)(t:TE):Prop:=
 ∀(ZN:Zf) (s:Shared) (σ:St) (H:Hp) (Q:VK),Inv X ZN σ H s->t σ H Q->wpAny (model X.prog X.w) X.A (eval e X.env) (EP X ZN σ Q) X.xe s
def PT(X:Cx)(e:Expr)(t:TT):Prop:=
 ∀(ZN:Zf) (s:Shared) (σ:St) (H:Hp) (Q:Bool->Hp->Prop),Inv X ZN σ H s->t σ H Q->wpAny (model X.prog X.w) X.A (isTrue e X.env (eval e X.env)) (TP X ZN σ Q) X.xe s
def PW(X:Cx)(e:Expr)(t:TT):Prop:=
 ∀(whole:Sem Value) (ZN:Zf) (s:Shared) (σ:St) (H:Hp) (Q:Bool->Hp->Prop),Inv X ZN σ H s->t σ H Q->wpAny (model X.prog X.w) X.A (isTrue e X.env whole) (TP X ZN σ Q) X.xe s
def PW.pt{X:Cx}{e:Expr}{t:TT}(h:PW X e t):PT X e t:=h _
def PA(X:Cx)(es:List Expr)(t:TA):Prop:=
 ∀(pos:Pos) (ZN:Zf) (s:Shared) (σ:St) (H:Hp) (Q:Za->Hp->Prop),Inv X ZN σ H s->t σ H Q->wpAny (model X.prog X.w) X.A (spliced (backTo pos (starEach es X.env))) (AP X ZN σ Q) X.xe s
def PS(X:Cx)(st:Stmt)(t:TS):Prop:=
 ∀(ZN:Zf) (s:Shared) (σ:St) (H:Hp) (D:Ends),Inv X ZN σ H s->t D σ H->wpAny (model X.prog X.w) X.A (exec st X.env) (SP X ZN D) X.xe s
def PSs(X:Cx)(st:List Stmt)(t:TS):Prop:=
 ∀(ZN:Zf) (s:Shared) (σ:St) (H:Hp) (D:Ends),Inv X ZN σ H s->t D σ H->wpAny (model X.prog X.w) X.A (execs st X.env) (SP X ZN D) X.xe s
def bZ{α:Type}{t:Sem α}{Q Q':α->Shared->Prop}{M:Model}{A:Around}{E:Ze}{s:Shared}(h:wpAny M A t Q E s)(hQ:∀a s,Q a s->Q' a s):wpAny M A t Q' E s:=aay h hQ λ_ _ x=>x
section
variable {X:Cx}
def jS(i:Nat):TE:=λσ H Q=>∃v,σ[i]?=some (some v)/\Q v H
def tC(v:V):TE:=λ_ H Q=>Q v H
def Q9{i:Nat}{x:Str}{pos:Pos}(hN:X.N[i]?=some x)(hv:Uy X.env.scope x)(hd:(x==("__debug__" : Str))=false:=by decide) (hcd:(x==("__classdict__" : Str))=false:=by decide):PE X (.Name x pos) (jS i):=by
 intro ZN s σ H Q I h;obtain⟨v,e,h⟩:=h;obtain⟨m,hn,hl⟩:=I.loc;obtain⟨u,r,l⟩:=hl i x v hN e hv;have fin:EP X ZN σ Q u s:=⟨v,H,I,r,h⟩
 rcases l with ⟨hk,hm⟩|⟨hk,c,hc,hcell⟩
 ·exact ac3 (ad0 I.ok.kind hk hn hm fin) hd
 ·rcases hk with hk|hk
  ·exact ac3 (ad1 I.ok.kind hk hc hcell fin) hd
  ·exact ac3 (wpAny_loadName_free I.ok.kind hk hc hcell fin hcd) hd
def aP{i j pos}:PE X (.Constant (.int i) j pos) (tC (.int i)):=λ_ _ _ H _ I h=>wpAny_Constant_int ⟨.int i,H,I.tok _,⟨_,rfl⟩,h⟩
def Pq{b j pos}:PE X (.Constant (.bool b) j pos) (tC (.bl b)):=λ_ _ _ H _ I h=>Constant_bool ⟨.bl b,H,I,rfl,h⟩
def Q6{j pos}:PE X (.Constant .none j pos) (tC .non):=λ_ _ _ H _ I h=>Constant_none ⟨.non,H,I,rfl,h⟩
def Gl(X:Cx)(x:Str):Prop:=X.env.kindOf x=some .globalImplicit
def zQ{ZN:Zf} {u:Value}{pos:Pos}{Q:Ze}(I:Inv X ZN σ H s)(hg:Gl X x)(hm:X.mg x=some u)(h:Q u s)
  (hd:(x==("__debug__" : Str))=false:=by decide):wpAny (model X.prog X.w) X.A (eval (.Name x pos) X.env) Q E s:=
 ad2 I.ok.kind hg (Calls.loadGlobal_global (by rw[I.ok.glob];exact I.mod.glob.keeps I.bk) hm h) hd
def kU{E:Ze}{ZN:Zf}{s:Shared}{σ:St}{H:Hp}{x:Str}{u:Value}{pos:Pos}{Q:Ze}(I:Inv X ZN σ H s)(hg:Gl X x)(hm:X.mg x=none)(hv:bootBuiltins x=some u)(h:Q u s)
  (hn:x ≠ "__name__" := by decide) (hd:(x==("__debug__" : Str))=false:=by decide):wpAny (model X.prog X.w) X.A (eval (.Name x pos) X.env) Q E s:=by
 obtain⟨mb,h1,h2⟩:=I.mod.blt;exact ad2 I.ok.kind hg (Calls.loadGlobal_builtin (by rw[I.ok.glob];exact I.mod.glob.keeps I.bk) hm (by rw[I.ok.blt];exact h1.keeps I.bk) ((h2 x hn).trans hv) h) hd
def qC{u:Value}{pos:Pos}(hg:Gl X x)(hm:X.mg x=some u)(r:RelV v u)(hd:(x==("__debug__" : Str))=false:=by decide):PE X (.Name x pos) (tC v):=
 λ_ _ _ H _ I h=>zQ I hg hm ⟨v,H,I,r,h⟩ hd
variable {a b:Expr}{ta tb:TE}{pos:Pos}
def PC(X:Cx)(op:CmpOp)(a b:Expr)(t:TE):Prop:=
 ∀(ZN:Zf) (s:Shared) (σ:St) (H:Hp) (Q:VK),Inv X ZN σ H s->t σ H Q ->
  wpAny (model X.prog X.w) X.A (eval a X.env) (λv s₁=>wpAny (model X.prog X.w) X.A (eval b X.env) (λu s₂=>wpAny (model X.prog X.w) X.A (compareOp op v u) (EP X ZN σ Q) X.xe s₂) X.xe s₁) X.xe s
def tB(t:TE):TT:=λσ H Q=>t σ H λx H1=>∃c,x=.bl c/\Q c H1
def EE{op:CmpOp}{t:TE}(h:PC X op a b t)(h1:behindInMarks op b=false:=by first|exact nobehind _ (by decide) (by decide)|rfl):PT X (.Compare a [op] [b] pos) (tB t):=by intro ZN s σ H Q I hw;refine ad3 (bZ (h ZN s σ H _ I hw) λv s1 h1=>bZ h1 λu s2 h2=>bZ h2 λc s3 ZP=>?_) h1;obtain⟨x,H1,I1,r1,q1⟩:=ZP;obtain⟨d,rfl,q⟩:=q1;cases r1;exact abm ⟨H1,I1,q⟩
variable {tA tB':TT}{rest:List Expr}
def RU(t u:TT):TT:=λσ H Q=>t σ H λc H1=>if c=true then u σ H1 Q else Q false H1
def Vu(t u:TT):TT:=λσ H Q=>t σ H λc H1=>if c=true then Q true H1 else u σ H1 Q
def RY(t:TT):TT:=λσ H Q=>t σ H λc H1=>Q (!c) H1
def Om(ha:PT X a tA):PW X (.BoolOp .And [a] pos) tA:=by
 intro wh ZN s σ H Q I h;refine isTrue_and (bZ (ha ZN s σ H Q I h) λc s1 e=>?_);cases c with
 |true=>exact isTrue_and_nil e
 |false=>exact e
def Lp(ha:PT X a tA):PW X (.BoolOp .Or [a] pos) tA:=by
 intro wh ZN s σ H Q I h;refine isTrue_or (bZ (ha ZN s σ H Q I h) λc s1 e=>?_);cases c with
 |false=>exact isTrue_or_nil e
 |true=>exact e
def Lm(ha:PT X a tA)(hb:PW X (.BoolOp .And (b::rest) pos) tB'):PW X (.BoolOp .And (a::b::rest) pos) (RU tA tB'):=by
 intro wh ZN s σ H Q I h;refine isTrue_and (bZ (ha ZN s σ H _ I h) λc s1 ZP=>?_);obtain⟨H1,I1,q1⟩:=ZP;cases c with
 |true=>exact hb wh ZN s1 σ H1 Q I1 q1
 |false=>exact⟨H1,I1,q1⟩
def Ln(ha:PT X a tA)(hb:PW X (.BoolOp .Or (b::rest) pos) tB'):PW X (.BoolOp .Or (a::b::rest) pos) (Vu tA tB'):=by
 intro wh ZN s σ H Q I h;refine isTrue_or (bZ (ha ZN s σ H _ I h) λc s1 ZP=>?_);obtain⟨H1,I1,q1⟩:=ZP;cases c with
 |true=>exact⟨H1,I1,q1⟩
 |false=>exact hb wh ZN s1 σ H1 Q I1 q1
def EF(ha:PT X a tA):PT X (.UnaryOp .Not a pos) (RY tA):=by intro ZN s σ H Q I h;exact isTrue_not (ha ZN s σ H (λc H1=>Q (!c) H1) I h)
def Ml(ta tb:TE):TE:=λσ H Q=>ta σ H λx H1=>∃c,x=.bl c/\if c=true then tb σ H1 Q else Q (.bl false) H1
def RZ(ta tb:TE):TE:=λσ H Q=>ta σ H λx H1=>∃c,x=.bl c/\if c=true then Q (.bl true) H1 else tb σ H1 Q
def Mp(ta:TE):TE:=λσ H Q=>ta σ H λx H1=>∃c,x=.bl c/\Q (.bl (!c)) H1
def Q8{op} (h:PE X a t):PE X (.BoolOp op [a] pos) t:=λZN s σ H Q I hw=>BoolOp_one (h ZN s σ H Q I hw)
def Q5(ha:PE X a ta)(hb:PE X (.BoolOp .And (b::rest) pos) tb):PE X (.BoolOp .And (a::b::rest) pos) (Ml ta tb):=by
 intro ZN s σ H Q I h;refine BoolOp_and (bZ (ha ZN s σ H _ I h) λv s1 ZP=>?_);obtain⟨x,H1,I1,r1,q1⟩:=ZP;obtain⟨c,rfl,q1⟩:=q1;cases r1;refine abm ?_;cases c with
 |true=>exact hb ZN s1 σ H1 Q I1 q1
 |false=>exact⟨.bl false,H1,I1,rfl,q1⟩
def Tn(ha:PE X a ta)(hb:PE X (.BoolOp .Or (b::rest) pos) tb):PE X (.BoolOp .Or (a::b::rest) pos) (RZ ta tb):=by
 intro ZN s σ H Q I h;refine BoolOp_or (bZ (ha ZN s σ H _ I h) λv s1 ZP=>?_);obtain⟨x,H1,I1,r1,q1⟩:=ZP;obtain⟨c,rfl,q1⟩:=q1;cases r1;refine abm ?_;cases c with
 |false=>exact hb ZN s1 σ H1 Q I1 q1
 |true=>exact⟨.bl true,H1,I1,rfl,q1⟩
def Q7(ha:PE X a ta):PE X (.UnaryOp .Not a pos) (Mp ta):=by intro ZN s σ H Q I h;refine UnaryOp_ (bZ (ha ZN s σ H _ I h) λv s1 ZP=>?_);obtain⟨x,H1,I1,r1,q1⟩:=ZP;obtain⟨c,rfl,q1⟩:=q1;cases r1;exact not_of (abm ⟨.bl (!c),H1,I1,rfl,q1⟩)
end
def SqL(K:Zj)(H:Hp)(a:Addr)(xs:Za):Prop:=
 Rd H a (.lst xs) \/
  ∃(o:Obj) (its:Array Value) (n:Nat),K.lookup a=some o/\o.cls=.type "list" /\ o.dict=none/\o.data=.seq its n/\its.size<=sizeLine/\Vals xs its.toList
def SqT(K:Zj)(H:Hp)(a:Addr)(xs:Za):Prop:=
 Rd H a (.tup xs) \/
  ∃(o:Obj) (its:Array Value) (n:Nat),K.lookup a=some o/\o.cls=.type "tuple" /\ o.data=.seq its n/\its.size<=sizeLine/\Vals xs its.toList
def U7:Value->Option V
 |.none=>some .non
 |.bool b=>some (.bl b)
 |.int i _=>some (.int i)
 |.str x _=>some (.str x)
 |.bytes b _=>some (.byt b)
 |.float b _=>some (.flt b)
 |.ref a=>some (.ref a)
 |.type n=>some (.ty n)
 |_=>none
def RelV.abs(r:RelV x u):U7 u=some x:=by
 cases x with
 |non=>cases r;rfl
 |bl _=>cases r;rfl
 |int _=>obtain⟨t,rfl⟩:=r;rfl
 |str _=>obtain⟨t,rfl⟩:=r;rfl
 |byt _=>obtain⟨t,rfl⟩:=r;rfl
 |flt _=>obtain⟨t,rfl⟩:=r;rfl
 |ref _=>cases r;rfl
 |ty _=>cases r;rfl
def RelV.inj(r:RelV x u)(q:RelV y u):x=y:=YU (r.abs.symm.trans q.abs)
def Vals.inj{xs ys:Za}{us:Zh}(h:Vals xs us)(k:Vals ys us):xs=ys:=by
 induction h generalizing ys with
 |nil=>cases k;rfl
 |cons r t ih=>
  cases k with
  |cons r' t'=>rw[r.inj r',ih t']
section
variable {X:Cx}{ZN:Zf}{σ:St}{H:Hp}{s:Shared}{a:Addr}{xs ys:Za}
def SqL.of{K:Zj}(h:H a=some (.lst xs)):SqL K H a xs:=.inl (.inl h)
def SqT.of{K:Zj}(h:H a=some (.tup xs)):SqT K H a xs:=.inl (.inl h)
def Inv.list(I:Inv X ZN σ H s)(h:SqL X.K H a xs):∃its:Zh,Vals xs its/\PlainL s.heap a its.toArray/\xs.length<=sizeLine:=by
 rcases h with h|⟨o,its,n,hk,hc,hd,hs,hz,r⟩
 ·obtain⟨z,its,n,r,e⟩:=h.ok I.hok;exact⟨its,r,⟨_,n,e,rfl,rfl,rfl⟩,z⟩
 ·refine⟨its.toList,r,⟨o,n,I.kIn a o hk,hc,hd,~~~hs⟩,?_⟩;have e:=r.length;simp only[YY] at e;lia
def Inv.tuple(I:Inv X ZN σ H s)(h:SqT X.K H a xs):∃its:Zh,Vals xs its/\IsTup s.heap a its.toArray/\xs.length<=sizeLine:=by
 rcases h with h|⟨o,its,n,hk,hc,hs,hz,r⟩
 ·obtain⟨z,its,r,p⟩:=h.ok I.hok;exact⟨its,r,p,z⟩
 ·refine⟨its.toList,r,⟨o,I.kIn a o hk,hc,n,~~~hs⟩,?_⟩;have e:=r.length;simp only[YY] at e;lia
def Inv.list_inj(I:Inv X ZN σ H s)(h:SqL X.K H a xs)(h':SqL X.K H a ys):xs=ys:=by
 obtain⟨its,r,⟨o,n,e,_,_,d⟩,_⟩:=I.list h;obtain⟨its',r',⟨o',n',e',_,_,d'⟩,_⟩:=I.list h';rw[e] at e';cases e';rw[d] at d';injection d' with d1 _
 have:its=its':=by simpa using Yt Array.toList d1
 subst this;exact r.inj r'
def Inv.tuple_inj(I:Inv X ZN σ H s)(h:SqT X.K H a xs)(h':SqT X.K H a ys):xs=ys:=by
 obtain⟨its,r,⟨o,e,_,n,d⟩,_⟩:=I.tuple h;obtain⟨its',r',⟨o',e',_,n',d'⟩,_⟩:=I.tuple h';rw[e] at e';cases e';rw[d] at d';injection d' with d1 _
 have:its=its':=by simpa using Yt Array.toList d1
 subst this;exact r.inj r'
end
abbrev Cx.wish(X:Cx)(E:Ze):Cx:={ X with xe:=E }
abbrev Cx.nox(X:Cx):Cx:=X.wish λ_ _=>False
def Cx.Ok.wish{X:Cx}(ok:X.Ok)(E:Ze):(X.wish E).Ok:=
 ⟨ok.mod,ok.kind,ok.glob,ok.blt,ok.above,ok.inj,ok.has,ok.cab,ok.hd,ok.frames,ok.stk,ok.exf,ok.bs,ok.bsz,ok.noex,ok.exfs,ok.funs,ok.frf⟩
def Cx.Ok.unwish{X:Cx}{E:Ze}(ok:(X.wish E).Ok):X.Ok:=
 ⟨ok.mod,ok.kind,ok.glob,ok.blt,ok.above,ok.inj,ok.has,ok.cab,ok.hd,ok.frames,ok.stk,ok.exf,ok.bs,ok.bsz,ok.noex,ok.exfs,ok.funs,ok.frf⟩
section
variable {X:Cx}{ZN:Zf}{σ:St}{H:Hp}{s:Shared}{E:Ze}
def Inv.wish(I:Inv X ZN σ H s)(E:Ze):Inv (X.wish E) ZN σ H s:=⟨I.ok.wish E,I.os,I.bare,I.base,I.loc,I.cell,I.free,I.freeC,I.pin,I.hok,I.len⟩
def Inv.unwish(I:Inv (X.wish E) ZN σ H s):Inv X ZN σ H s:=⟨I.ok.unwish,I.os,I.bare,I.base,I.loc,I.cell,I.free,I.freeC,I.pin,I.hok,I.len⟩
def SP.unwish{s':Shared}(h:SP (X.wish E) ZN D f s'):SP X ZN D f s':=by
 cases f with
 |next=>obtain⟨σ',H',I,q⟩:=h;exact⟨σ',H',I.unwish,q⟩
 |brk=>obtain⟨σ',H',I,q⟩:=h;exact⟨σ',H',I.unwish,q⟩
 |cont=>obtain⟨σ',H',I,q⟩:=h;exact⟨σ',H',I.unwish,q⟩
 |ret u=>obtain⟨v,σ',H',I,r,q⟩:=h;exact⟨v,σ',H',I.unwish,r,q⟩
def PSs.nox{st:List Stmt} (h:PSs X.nox st t):PSs X st t:=λZN s σ H D I hw=>
 aay (h ZN s σ H D (I.wish _) hw) (λ_ _ q=>q.unwish) λ_ _ z=>False.elim z
end
section
variable {X:Cx}{st:Stmt}{rest:List Stmt}{t u:TS}{e:Expr}{te:TE}{pos:Pos}
def Gx:TS:=λD σ H=>D.nx σ H
def OP(t u:TS):TS:=λD σ H=>t { D with nx:=u D } σ H
def jC:PSs X [] Gx:=λ_ _ σ H _ I h=>acs ⟨σ,H,I,h⟩
def ar(h1:PS X st t)(h2:PSs X rest u):PSs X (st::rest) (OP t u):=by
 intro ZN s σ H D I h;refine wpAny_execs_cons (bZ (h1 ZN s σ H { D with nx:=u D } I h) λf s1 q=>?_);cases f with
 |next=>
  obtain⟨σ',H',I',q⟩:=q;exact h2 ZN s1 σ' H' D I' q
 |ret v|brk|cont=>exact q
def aF(h1:PS X st t):PSs X [st] t:=by
 intro ZN s σ H D I h;refine wpAny_execs_cons (bZ (h1 ZN s σ H D I h) λf s1 q=>?_);cases f with
 |next=>exact acs q
 |ret v|brk|cont=>exact q
def Inv.quiet{ZN:Zf}{σ:St}{H:Hp}{s:Shared}(I:Inv X ZN σ H s):interactive X.env=false:=by simp[interactive,I.ok.kind]
def qS(te:TE):TS:=λD σ H=>te σ H λ_ H1=>D.nx σ H1
def cZ(he:PE X e te)(hs:swapsWith e none pos.line X.env=pure false:=by rfl):PS X (.Expr e pos) (qS te):=by intro ZN s σ H D I h;exact wpAny_Expr_any (bZ (he ZN s σ H _ I h) λv s1 ⟨x,H1,I1,r1,q1⟩=>⟨σ,H1,I1,q1⟩) I.quiet hs
def IG(te:TE):TS:=λD σ H=>te σ H D.rt
def bN(he:PE X e te):PS X (.Return (some e) pos) (IG te):=by intro ZN s σ H D I h;exact wpAny_Return_some (bZ (he ZN s σ H _ I h) λv s1 ⟨x,H1,I1,r1,q1⟩=>⟨x,σ,H1,I1,r1,q1⟩)
def OM(c:TT)(t u:TS):TS:=λD σ H=>c σ H λb H1=>if b=true then t D σ H1 else u D σ H1
def tu{c:Expr}{a b:List Stmt}{tc:TT}(hc:PT X c tc)(ha:PSs X a t)(hb:PSs X b u):PS X (.If c a b pos) (OM tc t u):=by
 intro ZN s σ H D I h;refine wpAny_If (bZ (hc ZN s σ H _ I h) λd s1 ZP=>?_);obtain⟨H1,I1,q1⟩:=ZP;cases d with
 |true=>exact ha ZN s1 σ H1 D I1 q1
 |false=>exact hb ZN s1 σ H1 D I1 q1
def wY:TS:=λ_ _ _=>False
def Lj:PS X st wY:=λ_ _ _ _ _ _ h=>h.elim
def Ia:PSs X sts wY:=λ_ _ _ _ _ _ h=>h.elim
end
abbrev TG:=V->St->Hp->(St->Hp->Prop)->Prop
abbrev MZ:=Za->St->Hp->(St->Hp->Prop)->Prop
def PG(X:Cx)(target:Expr)(t:TG):Prop:=
 ∀(ZN:Zf) (s:Shared) (σ:St) (H:Hp) (v:V) (u:Value) (Q:St->Hp->Prop),Inv X ZN σ H s->RelV v u->t v σ H Q ->
  wpAny (model X.prog X.w) X.A (assign target X.env u) (λ_ s'=>∃σ' H',Inv X ZN σ' H' s'/\Q σ' H') X.xe s
def SD(X:Cx)(ts:List Expr)(t:MZ):Prop:=
 ∀(ZN:Zf) (s:Shared) (σ:St) (H:Hp) (vs:Za) (us:Zh) (Q:St->Hp->Prop),Inv X ZN σ H s->Vals vs us->t vs σ H Q ->
  wpAny (model X.prog X.w) X.A (assignInOrder ((assignEach ts X.env).map (·.2)) us) (λ_ s'=>∃σ' H',Inv X ZN σ' H' s'/\Q σ' H') X.xe s
abbrev Qk:=V->V->V->Hp->(Hp->Prop)->Prop
def Qh(X:Cx)(t:Qk):Prop:=
 ∀(ZN:Zf) (s:Shared) (σ:St) (H:Hp) (o i v:V) (ov iv u:Value) (Q:Hp->Prop),Inv X ZN σ H s->RelV o ov->RelV i iv->RelV v u->t o i v H Q ->
  wpAny (model X.prog X.w) X.A (setItem ov iv u) (λ_ s'=>∃H',Inv X ZN σ H' s'/\Q H') X.xe s
abbrev Uw:=V->V->Hp->VK->Prop
def UY(X:Cx)(op:Operator)(t:Uw):Prop:=
 ∀(ZN:Zf) (s:Shared) (σ:St) (H:Hp) (x y:V) (v u:Value) (Q:VK),Inv X ZN σ H s->RelV x v->RelV y u->t x y H Q ->
  wpAny (model X.prog X.w) X.A (inplaceOp op v u) (EP X ZN σ Q) X.xe s
section
variable {X:Cx}{pos:Pos}
def jr(i:Nat):TG:=λv σ H Q=>Q (σ.set i (some v)) H
def um{i:Nat}{x:Str}(hN:X.N.Nodup)(hi:X.N[i]?=some x)(hx:M4 X.env.scope x)(hf:X.fn x=true\/X.env.scope.names.lookup x=some .local:=by first|exact .inl rfl|exact .inr rfl|assumption):PG X (.Name x pos) (jr i):=by intro ZN s σ H v u Q I r h;exact wpAny_assign_Name (wW I hN hi hx r (λs' I'=>⟨_,H,I',h⟩) hf)
def Nv:MZ:=λvs σ H Q=>vs=[]/\Q σ H
def FM(t:TG)(u:MZ):MZ:=λvs σ H Q=>∃v r,vs=v::r/\t v σ H λσ' H'=>u r σ' H' Q
def jB:SD X [] Nv:=by intro ZN s σ H vs us Q I r h;obtain⟨e,h⟩:=h;subst e;cases r;exact assignInOrder_nil ⟨σ,H,I,h⟩
def bE{e:Expr}{es:List Expr}{t:TG}{u:MZ}(h1:PG X e t)(h2:SD X es u)
  (hs:(assignEach (e::es) X.env).map (·.2)=assign e X.env::(assignEach es X.env).map (·.2):=by rfl):SD X (e::es) (FM t u):=by
 intro ZN s σ H vs us Q I r h;obtain⟨v,vr,e1,h⟩:=h;subst e1;cases r with
 |cons r rr=>rw[hs];refine assignInOrder_cons (bZ (h1 ZN s σ H _ _ _ I r h) λ_ s1 ZP=>?_);obtain⟨σ1,H1,I1,q1⟩:=ZP;exact h2 ZN s1 σ1 H1 _ _ Q I1 rr q1
def JW(K:Zj)(n:Nat)(t:MZ):TG:=λv σ H Q=>∃a xs,v=.ref a/\SqT K H a xs/\xs.length=n/\t xs σ H Q
def mO{es:List Expr}{k:Nat} {n:Nat}(hc:X.calm=true)(h:SD X es t)
  (hn:(assignEach es X.env).length=n:=by rfl) (hst:(assignEach es X.env).findIdx? (·.1)=none:=by rfl):PG X (.Tuple es k pos) (JW X.K n t):=by
 intro ZN s σ H v u Q I r hw;obtain⟨a,xs,e1,hq,hl,hw⟩:=hw;subst e1;cases r;obtain⟨its,rv,ht,hz⟩:=I.tuple hq;refine assign_Tuple_tuple (I.ok.hd hc) ht (by simp[hn,<-hl,rv.length]) hst λh' hx=>?_;have I1:Inv X ZN σ H { s with heap:=h' }:=I.kept (t':=s.toks) λb o e=>hx b o (Yz (Ys e)) e;exact h ZN _ σ H xs _ Q I1 (~~~rv) hw
def QK(to ti:TE)(t:Qk):TG:=λv σ H Q=>to σ H λo H1=>ti σ H1 λi H2=>t o i v H2 λH3=>Q σ H3
def Ra{o i:Expr}{to ti:TE}{t:Qk}(ho:PE X o to)(hi:PE X i ti)(hs:Qh X t)
  (ha:∀v,assign (.Subscript o i pos) X.env v=(do
   let ov ← holding [v] (eval o X.env)
   let iv ← holding [v,ov] (eval i X.env)
   standAt pos
   holding [v,ov,iv] (setItem ov iv v)
   release [v,ov,iv] []):=by intro _;rfl):PG X (.Subscript o i pos) (QK to ti t):=by
 intro ZN s σ H v u Q I r h;rw[ha];refine X8 (Y1 (bZ (ho ZN s σ H _ I h) λov s1 ZP=>?_));obtain⟨x,H1,I1,r1,q1⟩:=ZP;refine X8 (Y1 (bZ (hi ZN s1 σ H1 _ I1 q1) λiv s2 ZP=>?_));obtain⟨y,H2,I2,r2,q2⟩:=ZP;refine X8 (acu (X8 (Y1 (bZ (hs ZN s2 σ H2 x y v ov iv u _ I2 r1 r2 r q2) λ_ s3 ZP=>?_))));obtain⟨H3,I3,q3⟩:=ZP;exact wpAny_release ⟨σ,H3,I3,q3⟩
def AN(te:TE)(g:TG):TS:=λD σ H=>te σ H λx H1=>g x σ H1 D.nx
def Rg{tg e:Expr}{te:TE}{g:TG}(he:PE X e te)(hg:PG X tg g)(hs:swapsWithSole [tg] e pos.line X.env=pure false:=by rfl)(hw:swappedStores [tg] e X.env=pure none:=by rfl)
  (h1:(assignEach [tg] X.env).map (·.2)=[assign tg X.env]:=by rfl):PS X (.Assign [tg] e pos) (AN te g):=by
 intro ZN s σ H D I h;refine wpAny_Assign_stores (bZ (he ZN s σ H _ I h) λv s1 ZP=>?_) hs hw;obtain⟨x,H1,I1,r1,q1⟩:=ZP;rw[h1];exact bZ (hg ZN s1 σ H1 x v _ I1 r1 q1) λ_ s2 q=>q
def ED{i:Nat}{x:Str}{e:Expr}{te:TE}{pos':Pos}(hN:X.N.Nodup)(hi:X.N[i]?=some x)(hx:M4 X.env.scope x)(he:PE X e te)(hs:swapsWith e (some (.Name x pos')) pos.line X.env=pure false:=by rfl)(hf:X.fn x=true\/X.env.scope.names.lookup x=some .local:=by first|exact .inl rfl|exact .inr rfl|assumption) :
  PS X (.Assign [.Name x pos'] e pos) (AN te (jr i)):=by
 intro ZN s σ H D I h;refine wpAny_Assign_Name (bZ (he ZN s σ H _ I h) λv s1 ZP=>?_) hs;obtain⟨y,H1,I1,r1,q1⟩:=ZP;exact wW I1 hN hi hx r1 (λs2 I2=>⟨_,H1,I2,q1⟩) hf
def RV(i:Nat)(te:TE)(ti:Uw):TS:=λD σ H=>∃x,σ[i]?=some (some x)/\te σ H λy H1=>ti x y H1 λz H2=>D.nx (σ.set i (some z)) H2
def Rh{i:Nat}{x:Str}{e:Expr}{te:TE}{op:Operator}{ti:Uw}{pos':Pos}(hN:X.N.Nodup)(hi:X.N[i]?=some x)(hx:M4 X.env.scope x)(he:PE X e te)(ho:UY X op ti)(hf:X.fn x=true\/X.env.scope.names.lookup x=some .local:=by first|exact .inl rfl|exact .inr rfl|assumption) :
  PS X (.AugAssign (.Name x pos') op e pos) (RV i te ti):=by
 intro ZN s σ H D I h;obtain⟨v,e1,h⟩:=h;obtain⟨m,hn,hl⟩:=I.loc;have vis:Uy X.env.scope x:=by rcases hx with k|k;exact .inl k;exact .inr (.inl k)
 obtain⟨u,r,l⟩:=hl i x v hi e1 vis;refine wpAny_AugAssign_Name ?_;have go:wpAny (model X.prog X.w) X.A (eval e X.env) (λw s₂=>wpAny (model X.prog X.w) X.A (inplaceOp op u w) (λr s₃=>wpAny (model X.prog X.w) X.A (storeName X.env x r) (λ_=>SP X ZN D .next) X.xe s₃) X.xe s₂) X.xe s:=by refine bZ (he ZN s σ H _ I h) λw s1 ZP=>?_;obtain⟨y,H1,I1,r1,q1⟩:=ZP;refine bZ (ho ZN s1 σ H1 v y u w _ I1 r r1 q1) λz s2 ZP=>?_;obtain⟨zv,H2,I2,r2,q2⟩:=ZP;exact wW I2 hN hi hx r2 (λs3 I3=>⟨_,H2,I3,q2⟩) hf
 rcases l with ⟨hk,hm⟩|⟨hk,c,hc,hcell⟩
 ·exact ad0 I.ok.kind hk hn hm go
 ·rcases hk with hk|hk
  ·exact ad1 I.ok.kind hk hc hcell go
  ·rcases hx with k|k
   ·have:X.env.scope.names.lookup x=some .free:=hk;rw[k] at this;cases this
   ·have:X.env.scope.names.lookup x=some .free:=hk;rw[k] at this;cases this
def Wz(f:Int->Int->Int):Uw:=λx y H Q=>∃i j,x=.int i/\y=.int j/\Q (.int (f i j)) H
def QO:UY X .Add (Wz λi j=>i+j):=by intro ZN s σ H x y v u Q I r1 r2 h;obtain⟨i,j,e1,e2,q⟩:=h;subst e1;subst e2;obtain⟨t,rfl⟩:=r1;obtain⟨t',rfl⟩:=r2;exact iadd_int ⟨.int _,H,I.tok _,⟨_,rfl⟩,q⟩
def E5(c:TT)(tb:TS):TS:=λD σ H=>∃W:Nat->St->Hp->Prop,(∃m,W m σ H)/\∀m σ H,W m σ H ->
 c σ H λb H1=>if b=true then ∃N:St->Hp->Prop,(∀σ' H',N σ' H'->∃m',m'<m/\W m' σ' H')/\tb { D with nx:=N,ct:=N,bk:=D.nx } σ H1 else D.nx σ H1
def CQ{c:Expr}{body:List Stmt}{tc:TT}{tb:TS}(hp:PassesOwn (model X.prog X.w) X.A X.env X.xe)(hc:PT X c tc)(hb:PSs X body tb):PS X (.While c body [] pos) (E5 tc tb):=by
 intro ZN s σ H D I h;obtain⟨W,⟨m0,w0⟩,turn⟩:=h;refine wpAny_While (codeAny_whileLoop (λn s'=>∃σ' H',Inv X ZN σ' H' s'/\W n σ' H') ?_ m0 ⟨σ,H,I,w0⟩);rintro n s1 ⟨σ1,H1,I1,w1⟩;refine abn hp (bZ (hc ZN s1 σ1 H1 _ I1 (turn n σ1 H1 w1)) λb s2 ZP=>?_);obtain⟨H2,I2,q2⟩:=ZP;cases b with
 |true=>
  obtain⟨N,hN,q2⟩:=q2;rw[Yb rfl];refine abn hp (bZ (hb ZN s2 σ1 H2 _ I2 q2) λf s3 q3=>?_);cases f with
  |next=>
   obtain⟨σ3,H3,I3,n3⟩:=q3;obtain⟨m',hm,w3⟩:=hN σ3 H3 n3;exact⟨m',hm,σ3,H3,I3,w3⟩
  |cont=>
   obtain⟨σ3,H3,I3,n3⟩:=q3;obtain⟨m',hm,w3⟩:=hN σ3 H3 n3;exact⟨m',hm,σ3,H3,I3,w3⟩
  |brk|ret _=>exact q3
 |false=>rw[X9 Y4];exact acs ⟨σ1,H2,I2,q2⟩
end
structure It where
 go:Nat->Hp->Prop
 yld:Nat->Hp->V->Hp->Prop
 stop:Nat->Hp->Prop
def ux(X:Cx)(ZN:Zf)(H:Hp)(b:Addr):Prop:=
 H b=none/\b≠X.env.locals/\b∉X.fs/\(b∈X.ex\/X.s₀.heap.objs.size<=b)/\(∀x c,X.env.cells.lookup x=some c->c≠b)/\∀p∈X.pn++ZN,p.1≠b
def Inv.fpOk{ZN:Zf} {H':Hp} {b:Addr}(I:Inv X ZN σ H s)(hb:s.heap.objs.size<=b)(hn:H' b=none):ux X ZN H' b:=by
 refine⟨hn,abF (YT I.lt hb),I.nofs hb,.inr (Yr I.sz hb),λx c e z=>?_,λp hp z=>?_⟩
 ·obtain⟨v,q⟩:=I.cell x c e;exact absurd (YT q.lt (by rw[z];exact hb)) (aa1 _)
 ·exact absurd (YT (Ys (I.pin p hp).1) (by rw[z];exact hb)) (aa1 _)
structure Turn(P:Program)(w:World)(K:Zj)(tg:Expr)(J:It)(fp:Zk)(it:Addr)(tn:Nat->Heap->Prop):Prop where
 mem:it∈fp
 obj:∀i h,tn i h->∀b∈fp,∃o,h.get? b=some o/\∀v,o.data ≠ .cell v
 keep:∀i h h',tn i h->(∀b∈fp,∀o,h.get? b=some o->h'.get? b=some o)->tn i h'
 item:∀(X:Cx),X.prog=P->X.w=w->X.K=K->X.calm=true->∀(i:Nat) (ZN:Zf) (s:Shared) (σ:St) (H:Hp) (E:Ze),Inv X ZN σ H s->(∀b∈fp,ux X ZN H b)->tn i s.heap->J.go i H ->
  wpAny (model P w) X.A (pyNext (.ref it)) (λr s1=>∃u,r=some u /\
   wpAny (model P w) X.A (letOwnedTupleGo tg (.ref it) u) (λ_ s2=>∃x H',Inv X ZN σ H' s2/\RelV x u/\J.yld i H x H'/\tn (i+1) s2.heap/\∀b∈fp,H' b=none) E s1) E s
 done:∀(X:Cx),X.prog=P->X.w=w->X.K=K->X.calm=true->∀(i:Nat) (ZN:Zf) (s:Shared) (σ:St) (H:Hp) (E:Ze),Inv X ZN σ H s->(∀b∈fp,ux X ZN H b)->tn i s.heap->J.stop i H ->
  wpAny (model P w) X.A (pyNext (.ref it)) (λr s1=>r=none/\Inv X ZN σ H s1) E s
 self:∀(A:Around) (i:Nat) (s:Shared) (Q:Ze) (E:Ze),tn i s.heap->Q (.ref it) s->wpAny (model P w) A (pyIter (.ref it)) Q E s
abbrev TI:=St->Hp->(It->Hp->Prop)->Prop
def SH(X:Cx)(ZN:Zf)(σ:St)(tg:Expr)(R:It->Hp->Prop)(itv:Value)(s2:Shared):Prop:=
 ∃(it:Addr) (fp:Zk) (tn:Nat->Heap->Prop) (J:It) (H':Hp),itv=.ref it/\Inv X ZN σ H' s2/\Turn X.prog X.w X.K tg J fp it tn/\tn 0 s2.heap/\(∀b∈fp,ux X ZN H' b)/\R J H'
def PI(X:Cx)(tg iter:Expr)(wi:TI):Prop:=
 ∀(ZN:Zf) (s:Shared) (σ:St) (H:Hp) (R:It->Hp->Prop),Inv X ZN σ H s->wi σ H R ->
  wpAny (model X.prog X.w) X.A (eval iter X.env) (λv s1=>wpAny (model X.prog X.w) X.A (pyIter v) (SH X ZN σ tg R) X.xe s1) X.xe s
def u9{s:Shared}{tg:Expr}{it:Addr} {o:Obj}{n:String}{vs:Array Value}{Q:Unit->Shared->Prop}(ho:s.heap.get? it=some o)(hc:o.cls=.type n)(hd:o.data=.fields vs)
  (hn:["enumerate", "zip", "dict_itemiterator", "dict_reverseitemiterator", "odict_iterator", "itertools.zip_longest", "itertools.pairwise"].contains n=false) (hQ:Q Unit.unit s):wpAny M A (letOwnedTupleGo tg (.ref it) u) Q E s:=by
 unfold letOwnedTupleGo
 cases tg<;>first
  |exact Yc hQ
  | (cases u<;>first
    |exact Yc hQ
    | (refine X8 (wpAny_load ho ?_)
       rw[hc,hd];show wpAny M A (if (["enumerate", "zip", "dict_itemiterator", "dict_reverseitemiterator", "odict_iterator", "itertools.zip_longest", "itertools.pairwise"].contains n&&vs[0]?==some (rawInt _))=true then _ else _) Q E s;rw[X9 (by intro h;rw[hn,ac4] at h;cases h)]
       exact Yc hQ))
def Wf(K:Zj)(a:Addr):It:=
 ⟨λi H=>∃xs x,SqL K H a xs/\xs[i]?=some x,λi H x H'=>H'=H/\∀xs,SqL K H a xs->xs[i]?=some x,λi H=>∃xs,SqL K H a xs/\xs.length<=i⟩
def Wg(K:Zj)(a:Addr):It:=
 ⟨λi H=>∃xs x,SqT K H a xs/\xs[i]?=some x,λi H x H'=>H'=H/\∀xs,SqT K H a xs->xs[i]?=some x,λi H=>∃xs,SqT K H a xs/\xs.length<=i⟩
def Qc(lo:Int)(n:Nat):It:=⟨λi _=>i<n,λi H x H'=>H'=H/\x=.int (lo+i),λi _=>n<=i⟩
def IL{P:Program}{w:World}{K:Zj}{tg:Expr}(a it:Addr):Turn P w K tg (Wf K a) [it] it (λi h=>h.IsListIter it a i) where
 mem:=by simp
 obj:=λi h st b hb=>by
  have e:b=it:=by simpa using hb
  subst e;obtain⟨o,e,c,d⟩:=st;exact⟨o,e,λv z=>by rw[d] at z;cases z⟩
 keep:=λi h h' st k=>st.at λo e=>k it (by simp) o e
 item:=by intro X hP hw hK hc i ZN s σ H E I hf st hg;subst hP hw hK;obtain⟨xs,x,hq,hx⟩:=hg;obtain⟨its,rv,p,hz⟩:=I.list hq;obtain⟨u,hu,ru⟩:=rv.get hx;obtain⟨f0,f1,f2,f3,f4,f5⟩:=hf it (by simp);refine ad4 st p.isList (x:=u) (~~~hu) λh' st' sb=>?_;have I1:Inv X ZN σ H { s with heap:=h' }:=I.turned (t':=s.toks) (λb o hb e=>(sb.2 b hb).trans e) f0 f1 f3 f4 f5;obtain⟨o,e,c,d⟩:=id st';exact⟨u,rfl,u9 (s:={ s with heap:=h' }) e c d (by decide) ⟨x,H,I1,ru,⟨rfl,λys hy=>by rw[I.list_inj hy hq];exact hx⟩,st',λb hb=>(hf b hb).1⟩⟩
 done:=by intro X hP hw hK hc i ZN s σ H E I hf st hg;subst hP hw hK;obtain⟨xs,hq,hx⟩:=hg;obtain⟨its,rv,p,hz⟩:=I.list hq;obtain⟨f0,f1,f2,f3,f4,f5⟩:=hf it (by simp);have hl:=rv.length;exact ad5 (I.ok.hd hc) st p.isList (by simp;lia) λh' eb=>⟨rfl,I.turned (t':=s.toks) (λb o hb e=>eb b o hb e) f0 f1 f3 f4 f5⟩
 self:=λ_ _ _ _ _ st h=>wpAny_pyIter_listiter st h
def E6{P:Program}{w:World}{K:Zj}{tg:Expr}(a it:Addr):Turn P w K tg (Wg K a) [it] it (λi h=>h.IsTupleIter it a i) where
 mem:=by simp
 obj:=λi h st b hb=>by
  have e:b=it:=by simpa using hb
  subst e;obtain⟨o,e,c,d⟩:=st;exact⟨o,e,λv z=>by rw[d] at z;cases z⟩
 keep:=λi h h' st k=>st.at λo e=>k it (by simp) o e
 item:=by intro X hP hw hK hc i ZN s σ H E I hf st hg;subst hP hw hK;obtain⟨xs,x,hq,hx⟩:=hg;obtain⟨its,rv,p,hz⟩:=I.tuple hq;obtain⟨u,hu,ru⟩:=rv.get hx;obtain⟨f0,f1,f2,f3,f4,f5⟩:=hf it (by simp);refine wpAny_pyNext_tuple_item st (show s.heap.IsTuple a its.toArray from p) (x:=u) (~~~hu) λh' st' sb=>?_;have I1:Inv X ZN σ H { s with heap:=h' }:=I.turned (t':=s.toks) (λb o hb e=>(sb.2 b hb).trans e) f0 f1 f3 f4 f5;obtain⟨o,e,c,d⟩:=id st';exact⟨u,rfl,u9 (s:={ s with heap:=h' }) e c d (by decide) ⟨x,H,I1,ru,⟨rfl,λys hy=>by rw[I.tuple_inj hy hq];exact hx⟩,st',λb hb=>(hf b hb).1⟩⟩
 done:=by intro X hP hw hK hc i ZN s σ H E I hf st hg;subst hP hw hK;obtain⟨xs,hq,hx⟩:=hg;obtain⟨its,rv,p,hz⟩:=I.tuple hq;obtain⟨f0,f1,f2,f3,f4,f5⟩:=hf it (by simp);have hl:=rv.length;exact wpAny_pyNext_tuple_end (I.ok.hd hc) st (show s.heap.IsTuple a its.toArray from p) (by simp;lia) λh' eb=>⟨rfl,I.turned (t':=s.toks) (λb o hb e=>eb b o hb e) f0 f1 f3 f4 f5⟩
 self:=λ_ _ _ _ _ st h=>wpAny_pyIter_tupleiter st h
def w5{P:Program}{w:World}{K:PySem.W.Frag}{tg:Expr}(it:Addr)(lo:Int)(n:Nat):Turn P w K tg (Qc lo n) [it] it (λi h=>IsRangeIter h it (lo+(i:Nat)*1) ((n:Int)-(i:Nat)) 1) where
 mem:=by simp
 obj:=λi h st b hb=>by
  have e:b=it:=by simpa using hb
  subst e;exact⟨_,st,λv z=>by
   have z':Data.fields _=Data.cell v:=z
   cases z'⟩
 keep:=λi h h' st k=>k it (by simp) _ st
 item:=by intro X hP hw hK hc i ZN s σ H E I hf st hg;subst hP hw hK;obtain⟨f0,f1,f2,f3,f4,f5⟩:=hf it (by simp);have W:=Walks.range (prog:=X.prog) (w:=X.w) (I.ok.hd hc) it lo 1 n;refine W.item i s _ _ hg st λv h' tk hv st' kk=>?_;obtain⟨t,rfl⟩:=hv;have I1:Inv X ZN σ H { s with heap:=h',toks:=tk }:=I.turned (λb o hb e=>kk b o (~~~hb) e) f0 f1 f3 f4 f5;refine⟨_,rfl,u9 (s:={ s with heap:=h',toks:=tk }) (n := "range_iterator") st' rfl rfl (by decide) ⟨.int (lo+i),H,I1,⟨t,?_⟩,⟨rfl,rfl⟩,st',λb hb=>(hf b hb).1⟩⟩;rw[Int.mul_one]
 done:=by intro X hP hw hK hc i ZN s σ H E I hf st hg;subst hP hw hK;obtain⟨f0,f1,f2,f3,f4,f5⟩:=hf it (by simp);exact ad6 (I.ok.hd hc) st (by have:n<=i:=hg;lia) λh' eb=>⟨rfl,I.turned (t':=s.toks) (λb o hb e=>eb b o hb e) f0 f1 f3 f4 f5⟩
 self:=λ_ _ _ _ _ st h=>ad7 st h
section
variable {X:Cx}{tg:Expr}
def Lx{ZN:Zf}{σ:St}{H:Hp}{s:Shared}{R:It->Hp->Prop}{E:Ze}{lo hi:Int}{t u v:Tok}{tk:Nat}(I:Inv X ZN σ H s)(h1:-(2^62)<=lo)(h2:lo<2^62)(h3:-(2^62)<=hi)(h4:hi<2^62)
  (q:R (Qc lo (hi-lo).toNat) H):wpAny (model X.prog X.w) X.A (pyIter (.ref s.heap.objs.size)) (SH X ZN σ tg R) E { s with heap:=s.heap.push { cls:=.type "range",data:=.fields #[.int lo t,.int hi u,.int 1 v] },toks:=tk }:=by
 refine ac5 (acv ..) (small_one h1 h2 h3 h4) ?_;have I1:Inv X ZN σ H { s with heap:=s.heap.push { cls:=.type "range",data:=.fields #[.int lo t,.int hi u,.int 1 v] },toks:=tk }:=I.kept λb o e=>Yq _ e;refine⟨(s.heap.push { cls:=.type "range",data:=.fields #[.int lo t,.int hi u,.int 1 v] }).objs.size,[(s.heap.push { cls:=.type "range",data:=.fields #[.int lo t,.int hi u,.int 1 v] }).objs.size],_,_,H,rfl,
  I1.kept (t':=tk) λb o e=>Yq _ e,w5 _ lo (hi-lo).toNat,?_,λb hb=>?_,q⟩
 ·have e1:lo+((0:Nat):Int)*1=lo:=by simp
  have e2:(((hi-lo).toNat:Nat):Int)-((0:Nat):Int)=Builtin.Range.rangeSize lo hi 1:=by rw[rangeSize_one];split<;>lia
  show IsRangeIter _ _ (lo+((0:Nat):Int)*1) ((((hi-lo).toNat:Nat):Int)-((0:Nat):Int)) 1;rw[e1,e2];exact Yy _ rfl
 ·have e:b=(s.heap.push { cls:=.type "range",data:=.fields #[.int lo t,.int hi u,.int 1 v] }).objs.size:=by simpa using hb
  subst e;exact I1.fpOk (Yi _) (I1.hok.fresh (Yi _))
def Pe(ta:TA):TI:=λσ H R=>ta σ H λvs H1=>∃j:Int,vs=[.int j] /\ -(2^62)<=j/\j<2^62/\R (Qc 0 j.toNat) H1
def r9{a:Expr}{ta:TA}{p pos:Pos}(hg:Gl X "range") (hm:X.mg "range"=none) (ha:PA X [a] ta) (hs:starEach [a] X.env=[(false,eval a X.env)]:=by rfl):PI X tg (.Call (.Name "range" p) [a] [] pos) (Pe ta):=by
 intro ZN s σ H R I h;refine Call_ (kU I hg hm ac6 (abo (bZ (ha pos ZN s σ H _ I h) λus s1 ZP=>?_) hs rfl));obtain⟨vs,H1,I1,r1,q1⟩:=ZP;obtain⟨j,e,q1,q2,q⟩:=q1;subst e;cases r1 with
 |cons r rr=>cases rr;obtain⟨t,rfl⟩:=r;exact call_range_1 (Lx I1 () () q1 q2 (~~~q))
def OL(wi:TI)(g:TG)(tb:TS):TS:=λD σ H=>wi σ H λJ H1=>∃W:Nat->Nat->St->Hp->Prop,(∃m,W 0 m σ H1)/\∀i m σ H,W i m σ H ->
 (J.stop i H/\D.nx σ H)\/(J.go i H/\∃N:St->Hp->Prop,(∀σ' H',N σ' H'->∃m',m'<m/\W (i+1) m' σ' H')/\∀x H',J.yld i H x H'->g x σ H' λσ2 H2=>tb { D with nx:=N,ct:=N,bk:=D.nx } σ2 H2)
def sd(fp:Zk)(h:Heap):Zf:=fp.filterMap λb=>(h.get? b).map λo=>(b,o)
def iM{fp:Zk}{h:Heap}{b:Addr}{o:Obj}(hb:b∈fp)(e:h.get? b=some o):(b,o)∈sd fp h:=acw.2 ⟨b,hb,by rw[e];rfl⟩
def HB{fp:Zk} {p:Addr×Obj}(hp:p∈sd fp h):p.1∈fp/\h.get? p.1=some p.2:=by
 obtain⟨b,hb,e⟩:=acw.1 hp;cases q:h.get? b with
 |none=>rw[q] at e;cases e
 |some o=>rw[q] at e;have e':(b,o)=p:=YU e;subst e';exact⟨hb,q⟩
def Inv.pinned{ZN:Zf} {fp:Zk}(I:Inv X ZN σ H s)(hf:∀b∈fp,ux X ZN H b)(ho:∀b∈fp,∃o,s.heap.get? b=some o/\∀v,o.data ≠ .cell v):Inv X (ZN++sd fp s.heap) σ H s:=
 I.pins_of λp hp=>(Yv.1 hp).elim (λz=>I.pin p (Yu _ z)) λz=>by obtain⟨hb,e⟩:=HB z;obtain⟨f0,f1,f2,_⟩:=hf p.1 hb;obtain⟨o,e',d⟩:=ho p.1 hb;rw[e] at e';cases e';exact⟨e,f0,f1,f2,d⟩
def Inv.unpinned{ZN pl:Zf} (I:Inv X (ZN++pl) σ H s):Inv X ZN σ H s:=I.pins_of λp hp=>I.pin p (Yu _ (YD _ hp))
def eL{iter:Expr}{body:List Stmt}{wi:TI}{g:TG}{tb:TS}{pos:Pos}(hp:PassesOwn (model X.prog X.w) X.A X.env X.xe)(hc:X.calm=true)(hi:PI X tg iter wi)(hg:PG X tg g)(hb:PSs X body tb)
  (hs:∀x,foldedSetIterable iter X.env x=pure x:=by intro _;rfl):PS X (.For tg iter body [] pos) (OL wi g tb):=by
 intro ZN s σ H D I h;refine wpAny_For (bZ (hi ZN s σ H _ I h) λv s1 h1=>bZ h1 λitv s2 h2=>?_) hs;obtain⟨it,fp,tn,J,H2,e,I2,T,st2,f2,W,⟨m0,w0⟩,turn⟩:=h2;subst e
 -- what stays true of the iterator's objects through the loop
 have stat:∀ {H':Hp},(∀b∈fp,H' b=none)->∀b∈fp,ux X ZN H' b:=λhn b hb=>⟨hn b hb,(f2 b hb).2⟩
 refine codeAny_forLoop_any (λn s'=>∃i σ' H',Inv X ZN σ' H' s'/\tn i s'.heap/\(∀b∈fp,H' b=none)/\W i n σ' H') ?_ m0 ⟨0,σ,H2,I2,st2,λb hb=>(f2 b hb).1,w0⟩;rintro n s3 ⟨i,σ3,H3,I3,st3,fr3,w3⟩;rcases turn i n σ3 H3 w3 with ⟨stop,qn⟩|⟨go,N,hN,step⟩
 ·refine abn hp (bZ (T.done X rfl rfl rfl hc i ZN s3 σ3 H3 X.xe I3 (stat fr3) st3 stop) λr s4 ⟨hr,I4⟩=>?_);subst hr;exact acs ⟨σ3,H3,I4,qn⟩
 ·refine abn hp (bZ (T.item X rfl rfl rfl hc i ZN s3 σ3 H3 X.xe I3 (stat fr3) st3 go) λr s4 ⟨u,hr,h4⟩=>?_);subst hr;refine abn hp (bZ h4 λ_ s5 ZP=>?_);obtain⟨x,H5,I5,r5,y5,st5,fr5⟩:=ZP;have I5':=I5.pinned (stat fr5) (T.obj _ _ st5);refine abn hp (bZ (hg _ s5 σ3 H5 x u _ I5' r5 (step x H5 y5)) λ_ s6 ZP=>?_);obtain⟨σ6,H6,I6,q6⟩:=ZP;refine abn hp (bZ (hb _ s6 σ6 H6 _ I6 q6) λf s7 q7=>?_);have again:∀ {σ7:St} {H7:Hp},Inv X (ZN++sd fp s5.heap) σ7 H7 s7->N σ7 H7->∃m,m<n/\∃i σ' H',Inv X ZN σ' H' s7/\tn i s7.heap/\(∀b∈fp,H' b=none)/\W i m σ' H':=λ{σ7 H7} I7 n7=>by
   obtain⟨m',hm,w7⟩:=hN σ7 H7 n7;refine⟨m',hm,i+1,σ7,H7,I7.unpinned,T.keep _ _ _ st5 λb hb o e=>(I7.pin (b,o) (Yu _ (Yu _ (iM hb e)))).1,λb hb=>?_,w7⟩;obtain⟨o,e,d⟩:=T.obj _ _ st5 b hb;exact (I7.pin (b,o) (Yu _ (Yu _ (iM hb e)))).2.1
  cases f with
  |next=>obtain⟨σ7,H7,I7,n7⟩:=q7;exact again I7 n7
  |cont=>obtain⟨σ7,H7,I7,n7⟩:=q7;exact again I7 n7
  |brk=>obtain⟨σ7,H7,I7,q7⟩:=q7;exact⟨σ7,H7,I7.unpinned,q7⟩
  |ret v=>obtain⟨x7,σ7,H7,I7,r7,q7⟩:=q7;exact⟨x7,σ7,H7,I7.unpinned,r7,q7⟩
end
abbrev R2:=V->V->Hp->VK->Prop
def OpR(X:Cx)(f:Value->Value->Sem Value)(r:R2):Prop:=
 ∀(ZN:Zf) (s:Shared) (σ:St) (H:Hp) (x y:V) (v u:Value) (Q:VK),Inv X ZN σ H s->RelV x v->RelV y u->r x y H Q ->
  wpAny (model X.prog X.w) X.A (f v u) (EP X ZN σ Q) X.xe s
def Ux(X:Cx)(f:Value->Sem Value)(r:V->Hp->VK->Prop):Prop:=
 ∀(ZN:Zf) (s:Shared) (σ:St) (H:Hp) (x:V) (v:Value) (Q:VK),Inv X ZN σ H s->RelV x v->r x H Q ->
  wpAny (model X.prog X.w) X.A (f v) (EP X ZN σ Q) X.xe s
def CallR(X:Cx)(f:Value)(r:Za->Hp->VK->Prop):Prop:=
 ∀(ZN:Zf) (s:Shared) (σ:St) (H:Hp) (xs:Za) (us:Zh) (Q:VK),Inv X ZN σ H s->Vals xs us->r xs H Q ->
  wpAny (model X.prog X.w) X.A (call f us) (EP X ZN σ Q) X.xe s
def U6(X:Cx)(r:V->Hp->(Bool->Hp->Prop)->Prop):Prop:=
 ∀(ZN:Zf) (s:Shared) (σ:St) (H:Hp) (x:V) (v:Value) (Q:Bool->Hp->Prop),Inv X ZN σ H s->RelV x v->r x H Q ->
  wpAny (model X.prog X.w) X.A (truthy v) (TP X ZN σ Q) X.xe s
def Mq(r:R2)(ta tb:TE):TE:=λσ H Q=>ta σ H λx H1=>tb σ H1 λy H2=>r x y H2 Q
def Vw(r:V->Hp->VK->Prop)(ta:TE):TE:=λσ H Q=>ta σ H λx H1=>r x H1 Q
def rI(C:Int->Int->Prop)(g:Int->Int->V):R2:=λx y H Q=>∃i j,x=.int i/\y=.int j/\C i j/\Q (g i j) H
def CT(g:Int->Int->V):R2:=λx y H Q=>∃i j,x=.int i/\y=.int j/\Q (g i j) H
def rU(g:Int->V):V->Hp->VK->Prop:=λx H Q=>∃i,x=.int i/\Q (g i) H
section
variable {X:Cx}{a b c:Expr}{ta tb tc:TE}{pos:Pos}
def Qx(ha:PE X a ta)(hb:PE X b tb){ZN:Zf}{s:Shared}{σ:St}{H:Hp}{R:V->V->Hp->Prop}(I:Inv X ZN σ H s)
  (h:ta σ H λx H1=>tb σ H1 λy H2=>R x y H2) {Q:Ze} {f:Value->Value->Sem Value}
  (hf:∀v u s2 x y H2,Inv X ZN σ H2 s2->RelV x v->RelV y u->R x y H2->wpAny (model X.prog X.w) X.A (f v u) Q X.xe s2) :
  wpAny (model X.prog X.w) X.A (eval a X.env) (λv s₁=>wpAny (model X.prog X.w) X.A (eval b X.env) (λu s₂=>wpAny (model X.prog X.w) X.A (f v u) Q X.xe s₂) X.xe s₁) X.xe s:=by
 refine bZ (ha ZN s σ H _ I h) λv s1 ZP=>?_;obtain⟨x,H1,I1,r1,q1⟩:=ZP;refine bZ (hb ZN s1 σ H1 _ I1 q1) λu s2 ZP=>?_;obtain⟨y,H2,I2,r2,q2⟩:=ZP;exact hf v u s2 x y H2 I2 r1 r2 q2
def cK(ho:OpR X (binaryOp op) r)(ha:PE X a ta)(hb:PE X b tb):PE X (.BinOp a op b pos) (Mq r ta tb):=by intro ZN s σ H Q I h;exact wpAny_BinOp (Qx ha hb I h λv u s2 x y H2 I2 rx ry q=>ho ZN s2 σ H2 x y v u Q I2 rx ry q)
def yQ{op:UnaryOp}{r:V->Hp->VK->Prop}(ho:Ux X (unaryOp op) r)(ha:PE X a ta):PE X (.UnaryOp op a pos) (Vw r ta):=by intro ZN s σ H Q I h;exact UnaryOp_ (bZ (ha ZN s σ H _ I h) λv s1 ⟨x,H1,I1,r1,q1⟩=>ho ZN s1 σ H1 x v Q I1 r1 q1)
def UF{f:Value->Value->Sem Value}{C:Int->Int->Prop}{g:Int->Int->Int}
  (rule:∀(i j:Int) (t u:Tok) (s:Shared) (Q:Ze) (E:Ze),C i j->Q (.int (g i j) s.toks) { s with toks:=s.toks+1 }->wpAny (model X.prog X.w) X.A (f (.int i t) (.int j u)) Q E s) :
  OpR X f (rI C λi j=>.int (g i j)):=by
 intro ZN s σ H x y v u Q I rx ry h;obtain⟨i,j,rfl,rfl,hc,q⟩:=h;obtain⟨t,rfl⟩:=rx;obtain⟨t',rfl⟩:=ry;exact rule i j t t' s _ _ hc ⟨.int (g i j),H,I.tok _,⟨_,rfl⟩,q⟩
def Q1{f:Value->Value->Sem Value}{g:Int->Int->Int}
  (rule:∀(i j:Int) (t u:Tok) (s:Shared) (Q:Ze) (E:Ze),Q (.int (g i j) s.toks) { s with toks:=s.toks+1 }->wpAny (model X.prog X.w) X.A (f (.int i t) (.int j u)) Q E s) :
  OpR X f (CT λi j=>.int (g i j)):=by
 intro ZN s σ H x y v u Q I rx ry h;obtain⟨i,j,rfl,rfl,q⟩:=h;obtain⟨t,rfl⟩:=rx;obtain⟨t',rfl⟩:=ry;exact rule i j t t' s _ _ ⟨.int (g i j),H,I.tok _,⟨_,rfl⟩,q⟩
def N5{f:Value->Value->Sem Value}{g:Int->Int->Bool}
  (rule:∀(i j:Int) (t u:Tok) (s:Shared) (Q:Ze) (E:Ze),Q (.bool (g i j)) s->wpAny (model X.prog X.w) X.A (f (.int i t) (.int j u)) Q E s) :
  OpR X f (CT λi j=>.bl (g i j)):=by
 intro ZN s σ H x y v u Q I rx ry h;obtain⟨i,j,rfl,rfl,q⟩:=h;obtain⟨t,rfl⟩:=rx;obtain⟨t',rfl⟩:=ry;exact rule i j t t' s _ _ ⟨.bl (g i j),H,I,rfl,q⟩
def Ss(i j:Int):Prop:=0<j/\j<1073741824
def Qb(i j:Int):Prop:=0<=j/\j<=1000000/\i.natAbs<2^64
def CMul(i j:Int):Prop:=(-(2^64)<i/\i<2^64)\/(-(2^64)<j/\j<2^64)
def CMul.ok{i j:Int}(h:CMul i j):IntMulOk i j:=by
 rcases h with ⟨h1,h2⟩|⟨h1,h2⟩
 ·exact .of_left (intBits_le_64 h1 h2)
 ·exact .of_right (intBits_le_64 h1 h2)
def op_add:OpR X (binaryOp .Add) (CT λi j=>.int (i+j)):=Q1 λ_ _ _ _ _ _ _ q=>add_int q
def Q4:OpR X (binaryOp .Sub) (CT λi j=>.int (i-j)):=Q1 λ_ _ _ _ _ _ _ q=>sub_int q
def KP:OpR X (binaryOp .Mult) (rI CMul λi j=>.int (i*j)):=UF λ_ _ _ _ _ _ _ hc q=>mul_int q hc.ok
def ie:OpR X (binaryOp .FloorDiv) (rI Ss λi j=>.int (i/j)):=UF λi j _ _ _ _ _ hc q=>by have h1:(0:Int)<j:=hc.1;have h2:j<1073741824:=hc.2;exact floordiv_int () (by rw[Int.fdiv_eq_ediv_of_nonneg i ()];exact q) (.inl (PyProof.noPylong_small ()))
def jO:OpR X (binaryOp .Mod) (rI (λ_ j=>0<j) λi j=>.int (i%j)):=UF λi j _ _ _ _ _ hc q=>by have h1:(0:Int)<j:=hc;exact mod_int' () (by rw[Int.fmod_eq_emod_of_nonneg i ()];exact q)
def Q3:OpR X (binaryOp .Pow) (rI Qb λi j=>.int (i^j.toNat)):=UF λ_ _ _ _ _ _ _ hc q=>pow_int_small hc.1 hc.2.1 hc.2.2 q
def Q2:OpR X (binaryOp .BitAnd) (CT λi j=>.int (Builtin.bitAnd i j)):=Q1 λ_ _ _ _ _ _ _ q=>and_int q
def XB{f:Value->Sem Value}{g:Int->Int}
  (rule:∀(i:Int) (t:Tok) (s:Shared) (Q:Ze) (E:Ze),Q (.int (g i) s.toks) { s with toks:=s.toks+1 }->wpAny (model X.prog X.w) X.A (f (.int i t)) Q E s) :
  Ux X f (rU λi=>.int (g i)):=by
 intro ZN s σ H x v Q I rx h;obtain⟨i,rfl,q⟩:=h;obtain⟨t,rfl⟩:=rx;exact rule i t s _ _ ⟨.int (g i),H,I.tok _,⟨_,rfl⟩,q⟩
def sE:Ux X (unaryOp .USub) (rU λi=>.int (-i)):=XB λ_ _ _ _ _ q=>neg_int q
def Pp:OpR X (compareOp .Lt) (CT λi j=>.bl (decide (i<j))):=N5 λ_ _ _ _ _ _ _ q=>lt_int q
def Po:OpR X (compareOp .LtE) (CT λi j=>.bl (decide (i<=j))):=N5 λ_ _ _ _ _ _ _ q=>le_int q
def Pn:OpR X (compareOp .Gt) (CT λi j=>.bl (decide (j<i))):=N5 λ_ _ _ _ _ _ _ q=>gt_int q
def Tj:OpR X (compareOp .GtE) (CT λi j=>.bl (decide (j<=i))):=N5 λ_ _ _ _ _ _ _ q=>ge_int q
def OpR.or(h:OpR X f r)(h':OpR X f r'):OpR X f (λx y H Q=>r x y H Q\/r' x y H Q):=by
 intro ZN s σ H x y v u Q I rx ry q;rcases q with q|q
 ·exact h ZN s σ H x y v u Q I rx ry q
 ·exact h' ZN s σ H x y v u Q I rx ry q
def KG(b:Expr){op:CmpOp}(h:op ≠ .In:=by decide)(h2:op ≠ .NotIn:=by decide):behindInMarks op b=false:=by
 have e1:(op==CmpOp.In)=false:=by cases op<;>first|rfl|exact absurd rfl h
 have e2:(op==CmpOp.NotIn)=false:=by cases op<;>first|rfl|exact absurd rfl h2
 cases b<;>simp[behindInMarks,e1,e2]
def Oa(ho:OpR X (compareOp op) r)(ha:PE X a ta)(hb:PE X b tb)(hm:behindInMarks op b=false):PE X (.Compare a [op] [b] pos) (Mq r ta tb):=by intro ZN s σ H Q I h;exact wpAny_Compare1 (Qx ha hb I h λv u s2 x y H2 I2 rx ry q=>ho ZN s2 σ H2 x y v u Q I2 rx ry q) hm
def Gy(t:TE):TT:=λσ H Q=>t σ H λx H'=>∃k,x=.bl k/\Q k H'
def Gd{op:CmpOp}{r:R2}(ho:OpR X (compareOp op) r)(ha:PE X a ta)(hb:PE X b tb)(hm:behindInMarks op b=false):PT X (.Compare a [op] [b] pos) (Gy (Mq r ta tb)):=by
 intro ZN s σ H Q I h;refine ad3 (bZ (ha ZN s σ H _ I h) λv s1 ⟨x,H1,I1,r1,q1⟩=>bZ (hb ZN s1 σ H1 _ I1 q1) λu s2 ⟨y,H2,I2,r2,q2⟩=>
  bZ (ho ZN s2 σ H2 x y v u _ I2 r1 r2 q2) λc s3 ⟨z,H3,I3,r3,k,e,q3⟩=>?_) hm
 subst e;cases r3;exact abm ⟨H3,I3,q3⟩
def Jh(K:Zj)(x:V)(H:Hp)(k:Bool):Prop:=
 match x with
 |.non=>k=false
 |.bl b=>k=b
 |.int i=>k=(i != 0)
 |.str y=>y.length<=sizeLine/\k=((y.length:Int) != 0)
 |.byt y=>y.size<=sizeLine/\k=((y.size:Int) != 0)
 |.ref p=>(∃xs,SqL K H p xs/\k = !xs.isEmpty)\/(∃xs,SqT K H p xs/\k = !xs.isEmpty)\/∃kvs,H p=some (.dK kvs)/\k = !kvs.isEmpty
 |_=>False
def D9{κ:Type}{kvs:List (κ×V)}{vs:List (κ×Value)}(r:KV kvs vs):(!vs.isEmpty) = !kvs.isEmpty:=by cases r<;>rfl
def vj{xs:Za}{its:Zh}(r:Vals xs its):(!its.toArray.isEmpty) = !xs.isEmpty:=by cases r<;>simp
def o4:(sizeLine:Nat)<2^63:=by rw[YA];decide
def R5:U6 X (λx H Q=>∃k,Jh X.K x H k/\Q k H):=by
 intro ZN s σ H x v Q I rx h;obtain⟨k,e,q⟩:=h;have hl:=o4;have hs:sizeLine=16777216:=YA;cases x with
 |non=>
  cases rx;have e':k=false:=e;subst e';exact truthy_none ⟨H,I,q⟩
 |bl b=>
  cases rx;have e':k=b:=e;subst e';exact abm ⟨H,I,q⟩
 |int i=>
  obtain⟨t,rfl⟩:=rx;have e':k=(i != 0):=e;subst e';exact PySem.P.truthy_int ⟨H,I,q⟩
 |str y=>
  obtain⟨t,rfl⟩:=rx;obtain⟨hy,e'⟩:y.length<=sizeLine/\k=((y.length:Int) != 0):=e;subst e';exact PySem.P.truthy_str () ⟨H,I.tok _,q⟩
 |byt y=>
  obtain⟨t,rfl⟩:=rx;obtain⟨hy,e'⟩:y.size<=sizeLine/\k=((y.size:Int) != 0):=e;subst e';exact W.truthy_bytes () ⟨H,I.tok _,q⟩
 |ref p=>
  cases rx;have e':(∃xs,SqL X.K H p xs/\k = !xs.isEmpty)\/(∃xs,SqT X.K H p xs/\k = !xs.isEmpty)\/∃kvs,H p=some (.dK kvs)/\k = !kvs.isEmpty:=e;rcases e' with ⟨xs,hx,e'⟩|⟨xs,hx,e'⟩|⟨kvs,hx,e'⟩
  ·subst e';obtain⟨its,r,pl,hz⟩:=I.list hx;have ZQ:=r.length;exact wpAny_truthy_list pl.isList (by simp only[YF];lia) ⟨H,I.tok _,by rw[vj r];exact q⟩
  ·subst e';obtain⟨its,r,pl,hz⟩:=I.tuple hx;have ZQ:=r.length;exact truthy_tuple pl (by simp only[YF];lia) ⟨H,I.tok _,by rw[vj r];exact q⟩
  ·subst e';obtain⟨hz,hS,vs,r,m⟩:kvs.length<=sizeLine/\(p==sysModules)=false/\∃vs,KV kvs vs/\s.heap.DictOf (bh X.prog X.w) p vs:=I.hok p _ hx;have ZQ:kvs.length=vs.length:=abl r;exact wpAny_truthy_dict hS m () ⟨H,I.tok _,by rw[D9 r];exact q⟩
 |_=>exact (show False from e).elim
def qH(ha:PE X a ta)(he:∀whole,isTrue a X.env whole=(do let v ← whole;standAt a.pos;holding [v] (truthy v))) :
  PT X a (λσ H Q=>ta σ H λx H'=>∃k,Jh X.K x H' k/\Q k H'):=by
 intro ZN s σ H Q I h;exact isTrue_plain (bZ (ha ZN s σ H _ I h) λv s1 ⟨x,H1,I1,r1,q1⟩=>R5 ZN s1 σ H1 x v Q I1 r1 q1) (he _)
def Et:OpR X (binaryOp .Add) (λx y H Q=>∃i j,x=.str i/\y=.str j/\i.length+j.length<=sizeLine/\Q (.str (i++j)) H):=by intro ZN s σ H x y v u Q I rx ry h;obtain⟨i,j,rfl,rfl,hz,q⟩:=h;obtain⟨t,rfl⟩:=rx;obtain⟨t',rfl⟩:=ry;exact add_str (λt' tk=>⟨.str (i++j),H,I.tok _,⟨_,rfl⟩,q⟩) hz
def GC{x:V} (r:Vals [x] us):∃u,us=[u]/\RelV x u:=by
 cases r with
 |cons r1 r2=>cases r2;exact⟨_,rfl,r1⟩
def PY{x y:V} (r:Vals [x,y] us):∃u w',us=[u,w']/\RelV x u/\RelV y w':=by
 cases r with
 |cons r1 r2=>
  cases r2 with
  |cons r3 r4=>cases r4;exact⟨_,_,rfl,r1,r3⟩
def GV(hc:X.calm=true):CallR X (.builtin "max") (λxs H Q=>∃i j,xs=[.int i,.int j]/\Q (.int (if j > i then j else i)) H):=by
 intro ZN s σ H xs us Q I r h;obtain⟨i,j,rfl,q⟩:=h;obtain⟨u,w',rfl,⟨t,rfl⟩,⟨t',rfl⟩⟩:=PY r;refine max_two_ints (I.ok.hd hc) λh' tk k=>⟨_,H,I.kept k,?_,q⟩
 by_cases hj:j > i
 ·rw[Yb hj,Yb hj];exact⟨_,rfl⟩
 ·rw[X9 hj,X9 hj];exact⟨_,rfl⟩
def GW(hc:X.calm=true):CallR X (.builtin "min") (λxs H Q=>∃i j,xs=[.int i,.int j]/\Q (.int (if j<i then j else i)) H):=by
 intro ZN s σ H xs us Q I r h;obtain⟨i,j,rfl,q⟩:=h;obtain⟨u,w',rfl,⟨t,rfl⟩,⟨t',rfl⟩⟩:=PY r;refine min_two_ints (I.ok.hd hc) λh' tk k=>⟨_,H,I.kept k,?_,q⟩
 by_cases hj:j<i
 ·rw[Yb hj,Yb hj];exact⟨_,rfl⟩
 ·rw[X9 hj,X9 hj];exact⟨_,rfl⟩
def Sw(K:Zj)(x:V)(H:Hp)(n:Nat):Prop:=
 match x with
 |.str y=>y.length<=sizeLine/\n=y.length
 |.byt y=>y.size<=sizeLine/\n=y.size
 |.ref p=>(∃xs,SqL K H p xs/\n=xs.length)\/∃xs,SqT K H p xs/\n=xs.length
 |_=>False
def Js:CallR X (.builtin "len") (λxs H Q=>∃x n,xs=[x]/\Sw X.K x H n/\Q (.int n) H):=by
 intro ZN s σ H xs us Q I r h;obtain⟨x,n,rfl,e,q⟩:=h;obtain⟨u,rfl,rx⟩:=GC r;have hl:=o4;have hs:sizeLine=16777216:=YA;cases x with
 |str y=>
  obtain⟨t,rfl⟩:=rx;obtain⟨hy,e'⟩:y.length<=sizeLine/\n=y.length:=e;subst e';exact len_str () ⟨.int _,H,I.tok _,⟨_,rfl⟩,q⟩
 |byt y=>
  obtain⟨t,rfl⟩:=rx;obtain⟨hy,e'⟩:y.size<=sizeLine/\n=y.size:=e;subst e';exact W.len_bytes () ⟨.int _,H,I.tok _,⟨_,rfl⟩,q⟩
 |ref p=>
  cases rx;have e':(∃xs,SqL X.K H p xs/\n=xs.length)\/∃xs,SqT X.K H p xs/\n=xs.length:=e;rcases e' with ⟨xs,hx,e'⟩|⟨xs,hx,e'⟩
  ·subst e';obtain⟨its,r',pl,hz⟩:=I.list hx;have ZQ:=r'.length;exact Calls.call_len_list pl.isList (by simp only[YF];lia) ⟨.int xs.length,H,I.tok _,⟨_,by simp only[YF];rw[ZQ]⟩,q⟩
  ·subst e';obtain⟨its,r',pl,hz⟩:=I.tuple hx;have ZQ:=r'.length;exact len_tuple pl (by simp only[YF];lia) ⟨.int xs.length,H,I.tok _,⟨_,by simp only[YF];rw[ZQ]⟩,q⟩
 |_=>exact (show False from e).elim
end
structure ObjM(h:Heap)(x dx C:Addr)(mA:Zg):Prop where
 obj:h.get? x=some (W.instObj C dx)
 ns:h.Ns1 dx mA
 ne:dx≠x
def Hk{h:Heap}{dx:Addr}{mA:Zg}(n:h.Ns1 dx mA):∃od,h.get? dx=some od/\∀name,W.lookIn name od=some (mA name):=by
 obtain⟨o,es,ep,ho,hd,hk,_,hm⟩:=n;refine⟨o,ho,λname=>?_⟩;have e:=hm name;unfold nsFind findBy at e;rw[<-Array.find?_toList] at e;unfold W.lookIn;rw[hd];dsimp only;split
 ·rename_i y q;rw[q] at e;exact Yt some e
 ·rename_i q;rw[q] at e;have a:es.toList.any (·.refKey)=false:=by
   rw[List.any_eq_false];intro y hy;obtain⟨z,t,hkey⟩:=hk y (ad8.1 hy);simp[DictEntry.refKey,hkey]
  have a':¬es.toList.any (·.refKey)=true:=by rw[a];exact Y4
  rw[X9 a'];exact Yt some e
def ObjM.look{dx:Addr}{mA:Zg}(I:ObjM h x dx C mA):∃od,W.InstAt h x (W.instObj C dx) C (some od)/\∀name,W.lookIn name od=some (mA name):=
 let ⟨od,ho,hl⟩:=Hk I.ns
 ⟨od,⟨I.obj,rfl,rfl,ho⟩,hl⟩
section
variable {prog:Program}{w:World}{A:Around}{E:Ze}{s:Shared}{K:Zj}{x dx C f:Addr}{mA:Zg}{name:Str}{v:Value}
def Nz{expr:Bool}{Q:Ze}(X:K.In s.heap)(I:ObjM s.heap x dx C mA)(hg:W.plainGet K C name=true)(hh:W.hasDictIn K C=true)
  (ha:W.findIn K (.ref C) name=some none) (hv:mA name=some v) (hv':W.handedIn v=true) (h:Q v { s with toks:=s.toks+1 }) :
  wpAny (model prog w) A (getAttr (.ref x) name expr) Q E s:=by
 obtain⟨od,J,hl⟩:=I.look;exact W.get_value X J (ac7 hg).1 (W.findObj_own hh ha rfl (#v[hl,hv])) hv' h
def J2{Q:Value×Zh->Shared->Prop}(X:K.In s.heap)(I:ObjM s.heap x dx C mA)(hg:W.plainGet K C name=true)
  (hf:W.findIn K (.ref C) name=some (some (.ref f))) (ht:W.isFn K (.ref f)=true) (hv:mA name=none) (h:Q (.ref f,[.ref x]) s) :
  wpAny (model prog w) A (getMethod (.ref x) name pl) Q E s:=by
 obtain⟨od,J,hl⟩:=I.look;exact W.method_fn X J (ac7 hg).1 (ac7 hg).2 hf (aag.1 ht) (by show (W.lookIn name od).map (·.isSome)=some false;rw[hl,hv];rfl) h
def OB{Q:Unit->Shared->Prop}(X:K.In s.heap)(I:ObjM s.heap x dx C mA)
  (hs:W.findIn K (.ref C) "__setattr__"=some (some (.builtin "object.__setattr__"))) (hp:W.plainOver K C=true) (ht:W.takerIn K C name=some none) (hh:W.hasDictIn K C=true)
  (hw:PySem.Within mA ns) (hsz:ns.length<=sizeLine)
  (h:∀h',ObjM h' x dx C (λy=>if y=name then some v else mA y)->Heap.SameBut dx s.heap h'->Q Unit.unit { s with heap:=h',toks:=s.toks+2 }) :
  wpAny (model prog w) A (setAttr (.ref x) name v) Q E s:=by
 obtain⟨od,J,hl⟩:=I.look;refine W.set_plain X J hs (W.osa_open (s:={ s with toks:=s.toks+1 }) (r:=none) X J hp ht λb=>?_);obtain⟨cd,hc,hd'⟩:=W.any_some hh;have hx:s.heap.get? x=some ⟨.ref C,some dx,.plain,#[]⟩:=I.obj;refine X8 (Yc (X8 (X8 (wpAny_loadPart hx (X8 (W.Looks.here (s:={ s with toks:=s.toks+1 }) (W.looks_clsIn X hc) ?_))))));rw[hd'];refine Yc (a:=some dx) (X8 (Yc (X8 ?_)));refine wpAny_nsSet1 (s:={ s with toks:=s.toks+1 }) I.ns λh' hn2 hs2=>?_;obtain⟨oD,esD,epD,hoD,hdD,hcD⟩:=hn2.count (PySem.Within.cons name v hw);refine X8 (wpAny_lookBehind hoD (by rw[hdD];exact pastItsLine_dict (Yr hcD (by rw[Yk];lia))) ?_);exact Yc (h _ ⟨(hs2.2 _ (YN I.ne)).trans I.obj,hn2,I.ne⟩ hs2)
def Kv{vs:Zh}{kw:List (Str×Value)}(X:K.In s.heap)(hm:W.makesIn K C=true)
  (hi:W.findIn K (.ref C) "__init__"=some (some (.ref f))) (hf:W.typeIn K (.ref f)=some (.type "function"))
  (h:codeAny (model prog w) (A.under (.builtin "type.__call__" ⟨.ref C::vs,kw⟩)) (.call (.ref f) ⟨.ref (s.heap.objs.size+1)::vs,kw⟩) (W.InitBack (s.heap.objs.size+1) R)
   { s with heap:=(s.heap.push W.emptyDict).push (W.instObj C s.heap.objs.size) }) :
  codeAny (model prog w) A (.call (.ref C) ⟨vs,kw⟩) R s:=by
 obtain⟨hh,g,d,t,os⟩:=s;exact W.make_core (W.makes_of X hm) (W.looks_findIn X hi) (λself=>W.bind_fn X self hf) (.inl rfl) h
end
def nX(f:Str)(v:V):List (Str×V)->List (Str×V)
 |[]=>[(f,v)]
 | (g,x)::r=>if g=f then (g,v)::r else (g,x)::nX f v r
theorem sY(f g:Str)(v:V):∀fs:List (Str×V),(nX f v fs).lookup g=if g=f then some v else fs.lookup g
 |[]=>by
  show List.lookup g [(f,v)]=_;by_cases h:g=f
  ·have hb:(g==f)=true:=aag.2 h;simp only[List.lookup,hb,Yb h]
  ·have hb:(g==f)=false:=ab2.2 h;simp only[List.lookup,hb,X9 h]
 | (k,x)::r=>by
  have ih:=sY f g v r;rw[show nX f v ((k,x)::r)=(if k=f then (k,v)::r else (k,x)::nX f v r) from rfl];by_cases hk:k=f
  ·rw[Yb hk];by_cases h:g=k
   ·have hb:(g==k)=true:=aag.2 h;simp only[List.lookup,hb,Yb (h.trans hk)]
   ·have hb:(g==k)=false:=ab2.2 h;simp only[List.lookup,hb,X9 (λe:g=f=>h (e.trans hk.symm))]
  ·rw[X9 hk];by_cases h:g=k
   ·have hb:(g==k)=true:=aag.2 h;simp only[List.lookup,hb,X9 (λe:g=f=>hk (h.symm.trans e))]
   ·have hb:(g==k)=false:=ab2.2 h;simp only[List.lookup,hb];exact ih
theorem rG(f:Str)(v:V):∀fs:List (Str×V),f∈(nX f v fs).map (·.1)/\∀g,g∈fs.map (·.1)->g∈(nX f v fs).map (·.1)
 |[]=>⟨by simp[nX],λg h=>by simp at h⟩
 | (k,x)::r=>by
  obtain⟨i1,i2⟩:=rG f v r;rw[show nX f v ((k,x)::r)=(if k=f then (k,v)::r else (k,x)::nX f v r) from rfl];by_cases hk:k=f
  ·rw[Yb hk];subst hk;exact⟨by simp,λg h=> ~~~h⟩
  ·rw[X9 hk];refine⟨?_,λg h=>?_⟩
   ·rw[Yo];exact Yn _ i1
   ·rw[Yo] at h ⊢;rcases Yj.1 h with e|e
    ·exact Yj.2 (.inl e)
    ·exact Yn _ (i2 g e)
theorem sW(f:Str)(v:V):∀fs:List (Str×V),(nX f v fs).length<=fs.length+1
 |[]=>by simp[nX]
 | (k,x)::r=>by
  have ih:=sW f v r;rw[show nX f v ((k,x)::r)=(if k=f then (k,v)::r else (k,x)::nX f v r) from rfl];by_cases hk:k=f
  ·rw[Yb hk,Yk,Yk];lia
  ·rw[X9 hk,Yk,Yk];lia
def RelO.some_of{v:V} (r:RelO (some v) o):∃u,o=some u/\RelV v u:=by
 cases o with
 |none=>exact (show False from r).elim
 |some u=>exact⟨u,rfl,r⟩
def RelO.none_of(r:RelO none o):o=none:=by
 cases o with
 |none=>rfl
 |some u=>exact (show False from r).elim
def Ha(r:RelV v u):W.handedIn u=true:=by
 cases v with
 |non=>cases (show u=Value.none from r);rfl
 |bl b=>cases (show u=Value.bool b from r);rfl
 |int i=>obtain⟨t,e⟩:=(show ∃t,u=Value.int i t from r);cases e;rfl
 |str x=>obtain⟨t,e⟩:=(show ∃t,u=Value.str x t from r);cases e;rfl
 |byt b=>obtain⟨t,e⟩:=(show ∃t,u=Value.bytes b t from r);cases e;rfl
 |flt b=>obtain⟨t,e⟩:=(show ∃t,u=Value.float b t from r);cases e;rfl
 |ref a=>cases (show u=Value.ref a from r);rfl
 |ty n=>cases (show u=Value.type n from r);rfl
section
variable {P:Program}{w:World}{H H':Hp}{h h':Heap}{a C dx:Addr}{fs fs':List (Str×V)}
def zM(hok:HOk P w H h)(e:H a=some (.ins C dx fs)):∃mA,ObjM h a dx C mA/\(∀f,RelO (fs.lookup f) (mA f))/\PySem.Within mA (fs.map (·.1))/\fs.length<=1000/\H dx=some (.own a):=by
 obtain⟨d,z,ne,ob,mA,n,r,q⟩:=(show ObjOk P w H h a (.ins C dx fs) from hok a _ e)
 exact⟨mA,⟨ob,n,ne⟩,r,q,z,d⟩
end
structure Cls(K:Zj)(C:Addr):Prop where
 pg:W.plainGet K C Str.empty=true
 hd:W.hasDictIn K C=true
 po:W.plainOver K C=true
 sa:W.findIn K (.ref C) "__setattr__"=some (some (.builtin "object.__setattr__"))
def Cls.get{K:Zj}{C:Addr}(c:Cls K C)(f:Str):W.plainGet K C f=true:=c.pg
def NoAttr(K:Zj)(C:Addr)(f:Str):Prop:=W.findIn K (.ref C) f=some none
def NoAttr.taker{K:Zj}{C:Addr}{f:Str}(n:NoAttr K C f):W.takerIn K C f=some none:=by unfold W.takerIn;rw[show W.findIn K (.ref C) f=some none from n];rfl
structure Con(K:Zj)(C:Addr)(f:Str)(v:V)(u:Value):Prop where
 at_:W.findIn K (.ref C) f=some (some u)
 rel:RelV v u
 get:W.specialIn K u "__get__"=some none
 cp:W.copiedNames.contains f=false
structure Meth(K:Zj)(C:Addr)(m:Str)(f:Addr):Prop where
 at_:W.findIn K (.ref C) m=some (some (.ref f))
 fn:W.isFn K (.ref f)=true
 kp:W.keepIn K (.ref f)=true
section
variable {X:Cx}{ZN:Zf}{σ:St}{H:Hp}{s:Shared}{a C dx:Addr}{fs:List (Str×V)}{f:Str}{v:V}{A:Around}{E:Ze}
def D5{b:Bool}{Q:Ze}(I:Inv X ZN σ H s)(e:H a=some (.ins C dx fs))(c:Cls X.K C)(n:NoAttr X.K C f)(l:fs.lookup f=some v)
  (h:∀u s',Inv X ZN σ H s'->RelV v u->Q u s'):wpAny (model X.prog X.w) A (getAttr (.ref a) f b) Q E s:=by
 obtain⟨mA,O,r,_,_,_⟩:=zM I.hok e;obtain⟨u,hu,ru⟩:=RelO.some_of (v:=v) (o:=mA f) (by rw[<-l];exact r f);exact Nz I.kIn O (c.get f) c.hd n hu (Ha ru) (h u _ (I.tok _) ru)
def D6{Q:Value×Zh->Shared->Prop}(I:Inv X ZN σ H s)(e:H a=some (.ins C dx fs))(c:Cls X.K C)(k:Meth X.K C m g)(l:fs.lookup m=none)
  (h:Q (.ref g,[.ref a]) s):wpAny (model X.prog X.w) A (getMethod (.ref a) m pl) Q E s:=by
 obtain⟨mA,O,r,_,_,_⟩:=zM I.hok e;have hn:mA m=none:=RelO.none_of (by rw[<-l];exact r m);exact J2 I.kIn O (c.get m) k.at_ k.fn hn h
def EO{Q:Unit->Shared->Prop}(I:Inv X ZN σ H s)(e:H a=some (.ins C dx fs))(c:Cls X.K C)(n:NoAttr X.K C f)(hl:fs.length<1000)(ry:RelV y u)
  (h:∀s',Inv X ZN σ (bi H a (.ins C dx (nX f y fs))) s'->Q Unit.unit s'):wpAny (model X.prog X.w) A (setAttr (.ref a) f u) Q E s:=by
 obtain⟨mA,O,r,wi,_,ho⟩:=zM I.hok e;have hz:(fs.map (·.1)).length<=sizeLine:=by rw[Ye,YA];lia
 refine OB I.kIn O c.sa c.po n.taker c.hd wi hz λh' O' sb=>h _ ?_;have hd:∃o,h'.get? dx=some o:=let ⟨o,_,_,e',_⟩:=O'.ns;⟨o,e'⟩
 refine I.write (x:=a) (e:=dx) (by rw[e];exact True.intro) (.inr ho) (λb q hb z=>(sb.2 b hb).trans z) hd ?_;refine⟨by rw[aw O.ne];exact ho,?_,O.ne,O'.obj,_,O'.ns,λg=>?_,λg hg=>?_⟩
 ·have:=sW f y fs;lia
 ·show RelO ((nX f y fs).lookup g) (if g=f then some u else mA g);rw[sY];by_cases q:g=f
  ·rw[Yb q,Yb q];exact ry
  ·rw[X9 q,X9 q];exact r g
 ·by_cases q:g=f
  ·rw[q];exact (rG f y fs).1
  ·refine (rG f y fs).2 g (wi g λz=>hg ?_);show (if g=f then some u else mA g)=none;rw[X9 q];exact z
def Inv.made(I:Inv X ZN σ H s):Inv X ZN σ (bi (bi H s.heap.objs.size (.own (s.heap.objs.size+1))) (s.heap.objs.size+1) (.ins C s.heap.objs.size []))
  { s with heap:=(s.heap.push W.emptyDict).push (W.instObj C s.heap.objs.size) }:=by
 have e1:(s.heap.push W.emptyDict).get? s.heap.objs.size=some W.emptyDict:=Yy s.heap rfl;have e2:((s.heap.push W.emptyDict).push (W.instObj C s.heap.objs.size)).get? (s.heap.objs.size+1)=some (W.instObj C s.heap.objs.size):=by have:=Yy (s.heap.push W.emptyDict) (o:=W.instObj C s.heap.objs.size) rfl;rwa[aaO] at this
 have e3:(s.heap.push W.emptyDict).Ns s.heap.objs.size (λ_=>none):=⟨W.emptyDict,#[],_,e1,rfl,(λe he=>absurd he (by simp)),λ_=>rfl⟩
 have I1:=I.laid (a:=s.heap.objs.size) (o:=.own (s.heap.objs.size+1)) (h':=s.heap.push W.emptyDict) (t':=s.toks) (λb u q=>Yq _ q) (Yi _) ⟨_,e1⟩;refine I1.laid (a:=s.heap.objs.size+1) (o:=.ins C s.heap.objs.size []) (t':=s.toks) (λb u q=>Yq _ q) (aad (aaO _ _)) ?_;have ne:s.heap.objs.size≠s.heap.objs.size+1:=Yz (aam _);refine⟨#v[aw ne,aA],YR _,ne,e2,λ_=>none,(Heap.Ns1.of_empty e3).at λo q=>Yq _ q,λ_=>True.intro,λy hy=>absurd rfl hy⟩
def M8{prog:Program} {pos:Pos} (hb:attributeBase e f env (eval e env)=eval e env)
  (h:wpAny (model prog w) A (eval e env) (λo s₁=>wpAny (model prog w) A (getAttr o f true) Q E s₁) E s):wpAny (model prog w) A (eval (.Attribute e f pos) env) Q E s:=
 Attribute_any_ h (#v[arm_eval_Attribute,hb])
end
def TZ(K:Zj)(ta tv:TE)(f:Str):TS:=λD σ H=>tv σ H λy H1=>ta σ H1 λx H2=>∃a C dx fs,x=.ref a/\H2 a=some (.ins C dx fs)/\Cls K C/\NoAttr K C f/\fs.length<1000 /\
 D.nx σ (bi H2 a (.ins C dx (nX f y fs)))
section
variable {X:Cx}{o e value:Expr}{f:Str}{pos pos' tpos:Pos}{ta tv:TE}
def Ri(ha:PE X o ta)(hv:PE X value tv)(hs:swapsWith value (some (.Attribute o f pos')) pos.line X.env=pure false):PS X (.Assign [.Attribute o f pos'] value pos) (TZ X.K ta tv f):=by intro ZN s σ H D I h;refine plainObj_wpAny_Assign_Attribute (bZ (hv ZN s σ H _ I h) λu s1 ⟨y,H1,I1,ry,q⟩=>bZ (ha ZN s1 σ H1 _ I1 q) λov s2 ZP=>?_) hs;obtain⟨x,H2,I2,rx,a,C,dx,fs,ex,ea,c,n,l,q2⟩:=ZP;subst ex;obtain rfl:ov=Value.ref a:=rx;exact EO I2 ea c n l ry λs3 I3=>⟨σ,_,I3,q2⟩
end
section
variable {X:Cx}{ZN:Zf}{σ:St}{H:Hp}{s:Shared}{A:Around}{E:Ze}{Q:Ze}{c:Value}{b:Bool}
inductive TyOf(K:W.Frag)(H:Hp):V->Value->Prop where
 |non:TyOf K H .non (.type "NoneType")
 |bl (x:Bool):TyOf K H (.bl x) (.type "bool")
 |int (i:Int):TyOf K H (.int i) (.type "int")
 |str (x:Str):TyOf K H (.str x) (.type "str")
 |flt (x:UInt64):TyOf K H (.flt x) (.type "float")
 |lst {a:Addr} {xs:Za} (e:H a=some (.lst xs)):TyOf K H (.ref a) (.type "list")
 |frz {a:Addr} {o:Obj} {xs:Za} (e:H a=some (.frz o (.lst xs))):TyOf K H (.ref a) (.type "list")
 |tup {a:Addr} {xs:Za} (e:H a=some (.tup xs)):TyOf K H (.ref a) (.type "tuple")
 |dK {a:Addr} {kvs:List (eN×V)} (e:H a=some (.dK kvs)):TyOf K H (.ref a) (.type "dict")
 |dT {a:Addr} {kvs:List (List eN×V)} (e:H a=some (.dT kvs)):TyOf K H (.ref a) (.type "dict")
 |ins {a C dx:Addr} {fs:List (Str×V)} (e:H a=some (.ins C dx fs)) (cl:Cls K C) (ha:W.findIn K (.ref C) "__class__"=some (some (.builtin "object.__class__")))
   (hn:W.specialIn K (.builtin "object.__class__") "__get__"=some (some (.builtin "getset_descriptor.__get__"))) (htk:W.takesIn K (.builtin "object.__class__")=some true)
   (hm:W.mroIn K C (.type "object")=some true):TyOf K H (.ref a) (.ref C)
end
structure Zw(k:Nat)(A:Around):Prop where
 hd:A.handled=none
 dp:A.depth+3*k+5<recursionLimit
 un:A.units+16*k+200<cLine
def Zw.mono{j k:Nat} (r:Zw k A)(h:j<=k):Zw j A:=⟨r.hd,by have:=r.dp;lia,by have:=r.un;lia⟩
def Zw.deeper{k:Nat} (r:Zw (k+1) A)(env:Env):Zw k (A.deeper env):=
 ⟨r.hd,by have:=r.dp;show A.depth+1+3*k+5<_;lia,by have:=r.un;show A.units+3+16*k+200<_;lia⟩
def Ei{A:Around}{C:Addr}{us:Zh}{kw:List (Str×Value)}:(A.under (.builtin "type.__call__" ⟨.ref C::us,kw⟩)).depth=A.depth+1:=by
 first|rfl|simp[Around.under,Code.weight,Code.isCreation,Code.isGuard,Code.isCaller,Code.frames,Code.isFrame,guardIds]
def Ej{A:Around}{C:Addr}{us:Zh}{kw:List (Str×Value)}:(A.under (.builtin "type.__call__" ⟨.ref C::us,kw⟩)).units=A.units+1:=by
 first|rfl|simp[Around.under,Code.cUnits,Code.frames,Code.isFrame]
def Zw.make{k:Nat} (r:Zw (k+1) A)(C:Addr)(us:Zh)(kw:List (Str×Value)):Zw k (A.under (.builtin "type.__call__" ⟨.ref C::us,kw⟩)):=
 ⟨r.hd,by have:=r.dp;rw[Ei];lia,by have:=r.un;rw[Ej];lia⟩
def Zw.depth{k:Nat} (r:Zw k A):A.depth<recursionLimit:=by have:=r.dp;lia
def Zw.units{k:Nat} (r:Zw k A):A.units+64<cLine:=by have:=r.un;lia
def mY:TA:=λ_ H Q=>Q [] H
def eX(ta:TE)(tr:TA):TA:=λσ H Q=>ta σ H λx H1=>tr σ H1 λxs H2=>Q (x::xs) H2
section
variable {X:Cx}{e:Expr}{es:List Expr}{te:TE}{t:TA}{pos:Pos}
def av:PA X [] mY:=λ_ _ _ _ H Q I h=>ad9 ⟨[],H,I,.nil,h⟩
def ai(ha:PE X e te)(hr:PA X es t)(hs:starEach (e::es) X.env=(false,eval e X.env)::starEach es X.env:=by rfl):PA X (e::es) (eX te t):=by intro pos ZN s σ H Q I h;rw[hs];show wpAny _ _ (spliced ((false,eval e X.env)::backTo pos (starEach es X.env))) _ _ s;refine aea (bZ (ha ZN s σ H _ I h) λu s1 ZP=>?_);obtain⟨x,H1,I1,r1,q1⟩:=ZP;exact bZ (hr pos ZN s1 σ H1 _ I1 q1) λus s2 ⟨xs,H2,I2,r2,q2⟩=>⟨x::xs,H2,I2,.cons r1 r2,q2⟩
def OQ(t:TA):TE:=λσ H Q=>t σ H λxs H1=>xs.length<=sizeLine/\∀p,H1 p=none->Q (.ref p) (bi H1 p (.tup xs))
def OO(t:TA):TE:=λσ H Q=>t σ H λxs H1=>xs.length<=sizeLine/\∀p,H1 p=none->Q (.ref p) (bi H1 p (.lst xs))
def fj{x1}(h:PA X es t):PE X (.Tuple es x1 pos) (OQ t):=by intro ZN s σ H Q I hq;refine wpAny_Tuple_spliced (bZ (h pos ZN s σ H _ I hq) λus s1 ⟨xs,H1,I1,r,z,q⟩=>⟨by rw[<-r.length];exact z,?_⟩);have hf:H1 s1.heap.objs.size=none:=I1.hok.fresh (Yi _);refine⟨.ref s1.heap.objs.size,bi H1 s1.heap.objs.size (.tup xs),I1.laid (t':=s1.toks) (λb u e=>Yq _ e) (Yi _) ?_,rfl,q _ hf⟩;exact⟨z,us,r,⟨_,Yy _ rfl,rfl,_,rfl⟩⟩
def mN(h:PA X es t):PE X (.List es pos) (OO t):=by intro ZN s σ H Q I hq;refine wpAny_List_spliced (bZ (h pos ZN s σ H _ I hq) λus s1 ⟨xs,H1,I1,r,z,q⟩=>⟨by rw[<-r.length];exact z,?_⟩);have hf:H1 s1.heap.objs.size=none:=I1.hok.fresh (Yi _);refine⟨.ref s1.heap.objs.size,bi H1 s1.heap.objs.size (.lst xs),I1.laid (t':=s1.toks) (λb u e=>Yq _ e) (Yi _) ?_,rfl,q _ hf⟩;exact⟨z,us,0,r,Yy _ rfl⟩
end
abbrev Sp:=Za->Hp->VK->XK->Prop
abbrev MY:=List Env->Hp->Shared->XK->Ze
structure Env0(P:Program)(w:World)(K:Zj)(mg:Zg)(base:Heap)(A:Around)(outer:List Env)(s:Shared)(H:Hp):Prop where
 frames:A.frames=some outer
 mod:Mod K mg base
 bs:∀b o,base.get? b=some o->s.heap.get? b=some o/\H b=none
 bsz:base.objs.size<=s.heap.objs.size
 funs:s.heap.FunFrames base outer
 frf:∀b∈JT outer,H b=none
 hok:HOk P w H s.heap
 bare:AllBare s.gens
def CE(outer:List Env)(P:Program)(w:World)(H:Hp)(s:Shared)(Q:VK)(u:Value)(s':Shared):Prop:=
 ∃v H',s'.os=s.os/\AllBare s'.gens/\Un (JT outer) [] H H' s.heap s'.heap/\HOk P w H' s'.heap/\RelV v u/\Q v H'
def CR(CX:MY)(outer:List Env)(P:Program)(w:World)(H:Hp)(s:Shared)(Q:VK)(E:XK)(r:Result)(s':Shared):Prop:=
 match r with
 |.ok (.ret u)=>CE outer P w H s Q u s'
 |.ok _=>False
 |.error e=>CX outer H s E e s'
structure ZD(P:Program)(w:World)(K:Zj)(mg:Zg)(base:Heap)(CX:MY)(k:Nat)(f:Addr)(fd:FuncData)(ps:Zl)(sp:Sp):Prop where
 len:∀vs H Q E,sp vs H Q E->vs.length=ps.length
 run:∀(A:Around) (outer:List Env) (s:Shared) (H:Hp) (args:Args) (us:Zh) (vs:Za) (Q:VK) (E:XK),Zw k A->Env0 P w K mg base A outer s H->BindsTo s fd args (ps.zip us)->Vals vs us->sp vs H Q E ->
  codeAny (model P w) A (.call (.ref f) args) (CR CX outer P w H s Q E) s
def Env0.make{P:Program}{w:World}{K:Zj}{mg:Zg}{base:Heap}{A:Around}{outer:List Env}{s:Shared}{H:Hp}(e:Env0 P w K mg base A outer s H)(C:Addr)(us:Zh)(kw:List (Str×Value)) :
  Env0 P w K mg base (A.under (.builtin "type.__call__" ⟨.ref C::us,kw⟩)) outer s H:=⟨by first|exact e.frames|(simpa[Around.under,Code.envs,Code.isFrame,pushEnvs] using e.frames),e.mod,e.bs,e.bsz,e.funs,e.frf,e.hok,e.bare⟩
section
variable {X:Cx}{ZN:Zf}{σ:St}{H:Hp}{s s':Shared}
def Inv.env0(I:Inv X ZN σ H s):Env0 X.prog X.w X.K X.mg X.base X.A X.stack s H:=
 ⟨I.ok.frames,I.ok.mod,I.bs,Yr I.ok.bsz I.sz,I.stack,I.stkFree,I.hok,I.bare⟩
def Inv.after(I:Inv X ZN σ H s)(h:CE X.stack X.prog X.w H s Q u s'):EP X ZN σ Q u s':=by obtain⟨v,H',os,bare,un,hok,r,q⟩:=h;obtain⟨hh,g,d,t,os'⟩:=s';obtain rfl:os'=s.os:=os;exact⟨v,H',I.call (h':=hh) (g':=g) (d':=d) (t':=t) (ch:=[]) un hok bare (λb z=>absurd z (by simp)),r,q⟩
end
def qR(sp:Sp)(dvs:Za)(E:XK)(t:TA):TE:=λσ H Q=>t σ H λvs H1=>sp (vs++dvs) H1 Q E
def PR(C:Addr)(sp:Sp)(dvs:Za)(E:XK)(t:TA):TE:=λσ H Q=>t σ H λvs H1=>∀x dx,H1 x=none->H1 dx=none->dx≠x ->
 sp (.ref x::(vs++dvs)) (bi (bi H1 dx (.own x)) x (.ins C dx [])) (λv H2=>v=.non/\Q (.ref x) H2) E
def Binds(K:Zj)(fd:FuncData)(ps:Zl)(ds:Zh):Prop:=
 ∀(s:Shared) (us:Zh),K.In s.heap->(us++ds).length=ps.length->BindsTo s fd ⟨us,[]⟩ (ps.zip (us++ds))
def Binds.all{K:Zj}{fd:FuncData}{ps:Zl}(h:∀us:Zh,us.length=ps.length->bindArgs fd ⟨us,[]⟩=pure (ps.zip us)):Binds K fd ps []:=λs us _ hl=>by rw[YK] at hl ⊢;exact .of_eq (h us hl)
def l4(CX:MY)(X:Cx)(E:XK):Prop:=∀(ZN:Zf) (σ:St) (H:Hp) (s:Shared) (e:Value) (s':Shared),Inv X ZN σ H s->CX X.stack H s E e s'->X.xe e s'
section
variable {X:Cx}{CX:MY}{k:Nat}{f C:Addr}{fd:FuncData}{ps:Zl}{sp:Sp}{dvs:Za}{ds:Zh}{E:XK}{x m:Str}{p pos apos:Pos}{e o:Expr}{es:List Expr}{ta:TE}{t:TA}
def EJ{ZN:Zf} (F:ZD X.prog X.w X.K X.mg X.base CX k f fd ps sp)(hr:Zw k X.A)(hb:Binds X.K fd ps ds)(hd:Vals dvs ds)(hx:l4 CX X E)
  (I:Inv X ZN σ H s) (r:Vals vs us) (h:sp (vs++dvs) H Q E):wpAny (model X.prog X.w) X.A (call (.ref f) us) (EP X ZN σ Q) X.xe s:=by
 have r2:Vals (vs++dvs) (us++ds):=r.append hd;have hl:(us++ds).length=ps.length:=by rw[<-r2.length];exact F.len _ _ _ _ h
 refine ab3 (abG (F.run X.A X.stack s H ⟨us,[]⟩ (us++ds) (vs++dvs) Q E hr I.env0 (hb s us I.kIn hl) r2 h) λr s' hq=>?_);cases r with
 |error e=>exact hx ZN σ H s e s' I hq
 |ok fl=>
  cases fl with
  |ret u=>exact I.after hq
  |next=>exact False.elim hq
  |brk=>exact False.elim hq
  |cont=>exact False.elim hq
def N9(F:ZD X.prog X.w X.K X.mg X.base CX k f fd ps sp)(hr:Zw k X.A)(hg:Gl X x)(hm:X.mg x=some (.ref f))(hk:W.keepIn X.K (.ref f)=true)(hb:Binds X.K fd ps ds)(hd:Vals dvs ds)(hx:l4 CX X E)
  (ha:PA X (e::es) t) (hdb:(x==("__debug__" : Str))=false:=by decide) (he:starEach (e::es) X.env=(false,eval e X.env)::starEach es X.env:=by rfl) (hpl:(backTo pos (starEach es X.env)).any (·.1)=false:=by rfl) :
  PE X (.Call (.Name x p) (e::es) [] pos) (qR sp dvs E t):=by
 intro ZN s σ H Q I h;refine abH (zQ I hg hm ?_ hdb);refine acx (h₀:=X.base) I.ok.mod.kin hk (bZ (ha pos ZN s σ H _ I h) λus s1 ⟨vs,H1,I1,r,q⟩=>⟨I1.kIn,?_⟩) he hpl;exact EJ F hr hb hd hx I1 r q
structure Mk(K:Zj)(C f:Addr):Prop where
 makes:W.makesIn K C=true
 init:W.findIn K (.ref C) "__init__"=some (some (.ref f))
 fn:W.isFn K (.ref f)=true
 kp:W.keepIn K (.ref C)=true
def LM{ZN:Zf} {Q:VK} (M:Mk X.K C f)(F:ZD X.prog X.w X.K X.mg X.base CX k f fd ps sp)(hr:Zw (k+1) X.A)(hb:Binds X.K fd ps ds)(hd:Vals dvs ds)
  (hx:l4 CX X E) (I:Inv X ZN σ H s) (r:Vals vs us)
  (h:∀x dx,H x=none->H dx=none->dx≠x->sp (.ref x::(vs++dvs)) (bi (bi H dx (.own x)) x (.ins C dx [])) (λv H2=>v=.non/\Q (.ref x) H2) E) :
  wpAny (model X.prog X.w) X.A (call (.ref C) us) (EP X ZN σ Q) X.xe s:=by
 have hq:=h (s.heap.objs.size+1) s.heap.objs.size (I.hok.fresh (ab4 _)) (I.hok.fresh (Yi _)) (Yz (aam _));have I2:=Inv.made (C:=C) I;have r2:Vals (V.ref (s.heap.objs.size+1)::(vs++dvs)) (Value.ref (s.heap.objs.size+1)::(us++ds)):=.cons rfl (r.append hd);have hl:(Value.ref (s.heap.objs.size+1)::us++ds).length=ps.length:=by have e:=r2.length;rw[F.len _ _ _ _ hq] at e;exact e.symm
 refine ab3 (Kv (f:=f) I.kIn M.makes M.init (aag.1 M.fn) (abG (F.run _ X.stack _ _ ⟨Value.ref (s.heap.objs.size+1)::us,[]⟩ (Value.ref (s.heap.objs.size+1)::(us++ds)) _ _ E (hr.make C us [])
  (I2.env0.make C us []) (hb _ (Value.ref (s.heap.objs.size+1)::us) I2.kIn hl) r2 hq) λr s' hq'=>?_))
 cases r with
 |error e=>exact hx ZN σ _ _ e s' I2 hq'
 |ok fl=>
  cases fl with
  |ret u=>
   obtain⟨v,H',I3,rv,ev,q3⟩:=I2.after hq';subst ev;exact⟨rv,⟨V.ref (s.heap.objs.size+1),H',I3,rfl,q3⟩⟩
  |next=>exact False.elim hq'
  |brk=>exact False.elim hq'
  |cont=>exact False.elim hq'
def Oc(M:Mk X.K C f)(F:ZD X.prog X.w X.K X.mg X.base CX k f fd ps sp)(hr:Zw (k+1) X.A)(hg:Gl X x)(hm:X.mg x=some (.ref C))(hb:Binds X.K fd ps ds)(hd:Vals dvs ds)(hx:l4 CX X E)
  (ha:PA X (e::es) t) (hdb:(x==("__debug__" : Str))=false:=by decide) (he:starEach (e::es) X.env=(false,eval e X.env)::starEach es X.env:=by rfl) (hpl:(backTo pos (starEach es X.env)).any (·.1)=false:=by rfl) :
  PE X (.Call (.Name x p) (e::es) [] pos) (PR C sp dvs E t):=by
 intro ZN s σ H Q I h;refine abH (zQ I hg hm ?_ hdb);refine acx (h₀:=X.base) I.ok.mod.kin M.kp (bZ (ha pos ZN s σ H _ I h) λus s1 ⟨vs,H1,I1,r,q⟩=>⟨I1.kIn,?_⟩) he hpl;exact LM M F hr hb hd hx I1 r q
end
structure ZB(N P:Zl)(sc:Scope):Prop where
 kind:sc.kind=.function
 co:sc.isCoroutine=false
 gen:sc.isGenerator=false
 nd:N.Nodup
 pre:N.take P.length=P
 par:∀x∈P,sc.names.lookup x=some .local\/sc.names.lookup x=some .cell
 nofree:∀y∈sc.names,y.2 ≠ .free
theorem ye{kindOf:Str->Option NameKind}{x:Str}:∀ {binds:List (Str×Value)} {m:Zg},(∀v,(x,v)∉binds)->bindL kindOf binds m x=m x
 |[],_,_=>rfl
 | (n,v)::r,m,h=>by
  unfold bindL;rw[ye λw hw=>h w (Yn _ hw)];split
  ·have:x≠n:=by rintro rfl;exact h v Yg
   simp[this]
  ·rfl
theorem yc{kindOf:Str->Option NameKind}{x:Str}:∀ {binds:List (Str×Value)} {m:Zg},(∀v,(x,v)∉binds)->bindC kindOf binds m x=m x
 |[],_,_=>rfl
 | (n,v)::r,m,h=>by
  unfold bindC;rw[yc λw hw=>h w (Yn _ hw)];split
  ·rfl
  ·have:x≠n:=by rintro rfl;exact h v Yg
   simp[this]
theorem yd{kindOf:Str->Option NameKind}{x:Str}{v:Value}:∀ {P:Zl} {vs:Zh} {i:Nat} {m:Zg},P.Nodup->P[i]?=some x->vs[i]?=some v->kindOf x=some .local ->
  bindL kindOf (P.zip vs) m x=some v
 |[],_,_,_,_,h,_,_=>by simp at h
 |_::_,[],_,_,_,_,h,_=>by simp at h
 |p::P,w::vs,0,m,nd,h1,h2,hk=>by
  simp at h1 h2;subst h1;subst h2;show bindL kindOf ((p,w)::P.zip vs) m p=_;unfold bindL;rw[ye λv hv=>(YH.1 nd).1 (ac8 hv).1,Yb hk];simp
 |p::P,w::vs,i+1,m,nd,h1,h2,hk=>by show bindL kindOf ((p,w)::P.zip vs) m x=_;unfold bindL;exact yd (i:=i) (YH.1 nd).2 (~~~h1) (~~~h2) hk
theorem yb{kindOf:Str->Option NameKind}{x:Str}{v:Value}:∀ {P:Zl} {vs:Zh} {i:Nat} {m:Zg},P.Nodup->P[i]?=some x->vs[i]?=some v->kindOf x≠some .local ->
  bindC kindOf (P.zip vs) m x=some v
 |[],_,_,_,_,h,_,_=>by simp at h
 |_::_,[],_,_,_,_,h,_=>by simp at h
 |p::P,w::vs,0,m,nd,h1,h2,hk=>by
  simp at h1 h2;subst h1;subst h2;show bindC kindOf ((p,w)::P.zip vs) m p=_;unfold bindC;rw[yc λv hv=>(YH.1 nd).1 (ac8 hv).1,X9 hk];simp
 |p::P,w::vs,i+1,m,nd,h1,h2,hk=>by show bindC kindOf ((p,w)::P.zip vs) m x=_;unfold bindC;exact yb (i:=i) (YH.1 nd).2 (~~~h1) (~~~h2) hk
def di(N:Zl)(vs:Za):St:=vs.map some++List.replicate (N.length-vs.length) none
def uP(CX:MY)(P:Program)(w:World)(K:Zj)(mg:Zg)(base:Heap)(N:Zl)(qual:Str)(scope:Scope)(f:Addr)(cd:Value)(A:Around)(outer:List Env)(s:Shared)(H:Hp)(E:XK):Cx where
 prog:=P
 w:=w
 K:=K
 mg:=mg
 base:=base
 A:=A.deeper (envOfC qual scope s.heap.objs.size f cd)
 N:=N
 s₀:=s
 H₀:=H
 env:=envOfC qual scope s.heap.objs.size f cd
 outer:=outer
 stack:=envOfC qual scope s.heap.objs.size f cd::outer
 ex:=[]
 calm:=true
 fn:=λ_=>true
 pn:=[]
 xe:=λe s'=>wpAny (model P w) (A.deeper (envOfC qual scope s.heap.objs.size f cd)) (leaving (envOfC qual scope s.heap.objs.size f cd) e) (λ_ s''=>CX outer H s E e s'') (λe' s''=>CX outer H s E e' s'') s'
def Bj{sc:Scope}{n:Nat}{x:Str}(h:sc.names.lookup x=some .cell):∃c,(cellsFrom n sc.names []).lookup x=some c:=by have q:=W.cellsFrom_some sc.names n [] (.inl h);exact acy.1 q
def Hf{CX:MY}{P:Program}{w:World}{K:Zj}{mg:Zg}{base:Heap}{N ps:Zl}{qual:Str}{scope:Scope}{f:Addr}{cd:Value}{A:Around}{outer:List Env}{s s1:Shared}{H:Hp}{E:XK}{us:Zh}{vs:Za}
  (S:ZB N ps scope) (hd:A.handled=none) (e0:Env0 P w K mg base A outer s H) (hl:vs.length=ps.length) (r:Vals vs us)
  (x:InCallC s s.heap.objs.size (bindL (envOfC qual scope s.heap.objs.size f cd).kindOf (ps.zip us) λ_=>none) (cellsFrom (s.heap.objs.size+1) scope.names []) (bindC (envOfC qual scope s.heap.objs.size f cd).kindOf (ps.zip us) λ_=>none) s1) :
  Inv (uP CX P w K mg base N qual scope f cd A outer s H E) [] (di N vs) H s1:=by
 have hpl:ps.length<=N.length:=by have:=Yt List.length S.pre;rw[aa2] at this;lia
 obtain⟨h1,tk,rfl,hk⟩:=x.done;have noA:∀b:Addr,b∉(uP CX P w K mg base N qual scope f cd A outer s H E).ex:=λb z=>absurd (show b∈([]:Zk) from z) (by simp);refine⟨⟨e0.mod,S.kind,rfl,rfl,Yi _,λy z c h1 h2=>?_,λy hy=>?_,λy c _ h=>?_,λ_=>hd,Around.frames_deeper e0.frames,.inr ⟨rfl,rfl⟩,λb z=>absurd z (noA b),e0.bs,e0.bsz,λb _ _=>noA b,λb z=>absurd z (noA b),e0.funs,e0.frf⟩,
  rfl,e0.bare,Un.kept hk,⟨_,x.toInCall.ns,λi y v h1 h2 h3=>?_⟩,λy c h=>⟨_,x.cell y c h⟩,e0.hok.fresh (Yi _),λy c h=>?_,λp hp=>absurd (show p∈([]:Zf) from hp) (by simp),e0.hok.kept hk,?_⟩
 ·exact name_of_addr x.apart (abI h1) (abI h2)
 ·have hy:scope.names.lookup y=some .cell\/scope.names.lookup y=some .free:=hy;rcases hy with hy|hy
  ·exact Bj hy
  ·exact absurd rfl (S.nofree _ (abI hy))
 ·exact Y0 (x.above y c (abI h))
 ·have hi:i<vs.length:=by
   unfold di at h2;by_cases hi:i<vs.length
   ·exact hi
   ·rw[abp (~~~hi)] at h2;rw[ac9] at h2;split at h2<;>cases h2
  have ha:vs[i]?=some v:=by
   unfold di at h2;rw[aaz (~~~hi),YG] at h2;cases e:vs[i]? with
   |none=>rw[e] at h2;cases h2
   |some a=>rw[e] at h2;cases h2;rfl
  obtain⟨u,hu,rv⟩:=r.get ha;have hp:ps[i]?=some y:=by rw[<-S.pre,List.getElem?_take_of_lt ()];exact h1
  have ndP:ps.Nodup:=by rw[<-S.pre];exact S.nd.sublist (List.take_sublist _ _)
  refine⟨u,rv,?_⟩;rcases S.par y (aaP hp) with k|k
  ·exact .inl ⟨k,yd ndP hp hu k⟩
  ·obtain⟨c,e⟩:=Bj (n:=s.heap.objs.size+1) k;refine .inr ⟨.inl k,c,e,?_⟩;have q:=x.cell y c e;rw[yb ndP hp hu (by show scope.names.lookup y≠_;rw[k];decide)] at q;exact q
 ·exact e0.hok.fresh (Y0 (x.above y c (abI h)))
 ·unfold di;show _=N.length;rw[Yl,Ye,acz];lia
def Pa{CX:MY}{P:Program}{w:World}{K:Zj}{mg:Zg}{base:Heap}{k:Nat}{f:Addr}{name qual:Str}{params:Arguments}{body:List Stmt}{scope:Scope}{dV kV doc pm cdv ct oc:Value}{an od:Option Addr}
  {osl:Array (Zi)} {N ps:Zl} {sp:Sp} (lk:K.lookup f=some ⟨oc,od,.func (W.fnOf name qual params body scope dV kV doc pm an cdv ct),osl⟩) (hcd:W.codeIn K cdv qual=true) (S:ZB N ps scope)
  (len:∀vs H Q E,sp vs H Q E->vs.length=ps.length)
  (hbody:∀(A:Around) (outer:List Env) (s:Shared) (H:Hp) (vs:Za) (Q:VK) (E:XK),Zw k (A.deeper (envOfC qual scope s.heap.objs.size f cdv))->sp vs H Q E ->
   ∃t,PSs (uP CX P w K mg base N qual scope f cdv A outer s H E) body t/\t { nx:=λ_ H'=>Q .non H',rt:=Q } (di N vs) H) :
  ZD P w K mg base CX (k+1) f (W.fnOf name qual params body scope dV kV doc pm an cdv ct) ps sp:=by
 refine⟨len,λA outer s H args us vs Q E hr e0 hb r hsp=>?_⟩;have hl:=len _ _ _ _ hsp;have KX:K.In s.heap:=e0.mod.kin.keeps λb o e=>(e0.bs b o e).1;have lim:s.heap.NoLimit:=e0.mod.nolimit.keeps λb o e=>(e0.bs b o e).1;have hkind:∀y∈ps.zip us,scope.names.lookup y.1=some .local\/(scope.names.lookup y.1=some .cell/\((cellsFrom (s.heap.objs.size+1) scope.names []).lookup y.1).isSome=true):=λhpt0 hy=>by
  obtain⟨n,v⟩:=hpt0;rcases S.par n (ac8 hy).1 with q|q
  ·exact .inl q
  ·exact .inr ⟨q,W.cellsFrom_some _ _ _ (.inl q)⟩
 refine codeAny_call_function hr.depth (KX _ _ lk) rfl S.co S.gen rfl (W.codeRec_of KX hcd) (hb _ _ _ _ ?_);refine wpAny_newFunctionEnv_cells S.kind hkind λenv he s1 x=>?_;subst he;refine⟨lim.keeps x.toInCall.keep,codeAny_func ?_⟩;obtain⟨t,ht,hq⟩:=hbody A outer s H vs Q E (hr.deeper _) hsp;have I:Inv (uP CX P w K mg base N qual scope f cdv A outer s H E) [] (di N vs) H s1:=Hf S hr.hd e0 hl r x;refine aay (ht [] s1 (di N vs) H _ I hq) (λfl s' hs=>?_) λe s' hs=>hs;have fin:∀ {σ':St} {H':Hp} {v:V} {u:Value},Inv (uP CX P w K mg base N qual scope f cdv A outer s H E) [] σ' H' s'->RelV v u->Q v H'->CE outer P w H s Q u s':=
  λ{σ' H' v u} J rv q=>⟨v,H',J.os,J.bare,J.base,J.hok,rv,q⟩
 cases fl with
 |ret u=>
  obtain⟨v,σ',H',J,rv,q⟩:=hs;exact fin J rv q
 |next=>
  obtain⟨σ',H',J,q⟩:=hs;exact fin (v:=V.non) (u:=Value.none) J rfl q
 |brk=>
  obtain⟨_,_,_,q⟩:=hs;exact False.elim q
 |cont=>obtain⟨_,_,_,q⟩:=hs;exact False.elim q
section
variable {X:Cx}{x:Str}{p pos:Pos}{e:Expr}{es:List Expr}{t:TA}{id T:String}{r:Za->Hp->VK->Prop}
def Sq(r:Za->Hp->VK->Prop)(t:TA):TE:=λσ H Q=>t σ H λvs H1=>r vs H1 Q
def bK(hc:CallR X (.builtin id) r)(hg:Gl X x)(hm:X.mg x=none)(hv:bootBuiltins x=some (.builtin id))(ha:PA X (e::es) t)(hn:x ≠ "__name__" := by decide) (hdb:(x==("__debug__" : Str))=false:=by decide)
  (he:starEach (e::es) X.env=(false,eval e X.env)::starEach es X.env:=by rfl) (hpl:(backTo pos (starEach es X.env)).any (·.1)=false:=by rfl):PE X (.Call (.Name x p) (e::es) [] pos) (Sq r t):=by
 intro ZN s σ H Q I h;refine abH (kU I hg hm hv ?_ hn hdb);exact aeb (bZ (ha pos ZN s σ H _ I h) λus s1 ⟨vs,H1,I1,r1,q1⟩=>hc ZN s1 σ H1 vs us Q I1 r1 q1) he hpl
def gj(hc:CallR X (.type T) r)(hg:Gl X x)(hm:X.mg x=none)(hv:bootBuiltins x=some (.type T))(ha:PA X (e::es) t)(hn:x ≠ "__name__" := by decide) (hdb:(x==("__debug__" : Str))=false:=by decide)
  (he:starEach (e::es) X.env=(false,eval e X.env)::starEach es X.env:=by rfl) (hpl:(backTo pos (starEach es X.env)).any (·.1)=false:=by rfl):PE X (.Call (.Name x p) (e::es) [] pos) (Sq r t):=by
 intro ZN s σ H Q I h;refine abH (kU I hg hm hv ?_ hn hdb);exact abo (bZ (ha pos ZN s σ H _ I h) λus s1 ⟨vs,H1,I1,r1,q1⟩=>hc ZN s1 σ H1 vs us Q I1 r1 q1) he hpl
end
end L2
namespace HT
open PySem PyProof.Rows
def cD:Zn->Zn->Bool
 |[],[]=>false
 |[],_::_=>true
 |_::_,[]=>false
 |x::xs,y::ys=>if x=y then cD xs ys else decide (x<y)
def Ed(x y:Int)(xs ys:Zn):cD (x::xs) (y::ys)=if x=y then cD xs ys else decide (x<y):=rfl
section
variable {prog:Program}{w:World}{A:Around}{E:Ze}{s:Shared}
def Nc{vs ws:Zh}{Q:Ze}(ht:IsTup s.heap t vs.toArray)(hb:IsTup s.heap b ws.toArray)(hv:vs≠[])
  (h1:ws=[]->Q (.ref t) s) (h2:ws≠[]->Q (.ref s.heap.objs.size) { s with heap:=s.heap.push { cls:=.type "tuple",data:=.seq (vs++ws).toArray } })
  (hsz:vs.length+ws.length<=sizeLine):wpAny (model prog w) A (binaryOp .Add (.ref t) (.ref b)) Q E s:=by
 obtain⟨⟨cls,dd,data,sl⟩,ho,hc,n,hd⟩:=id ht;obtain⟨⟨cls2,dd2,data2,sl2⟩,ho2,hc2,n2,hd2⟩:=id hb;simp only at hc hd hc2 hd2;subst hc hd hc2 hd2;have e:vs.toArray++ws.toArray=(vs++ws).toArray:=by simp
 by_cases hw:ws=[]
 ·exact ada ⟨_,ho,rfl⟩ ⟨_,ho2,rfl⟩ adb adc ade adf (adg _ _)
   (tuple_addW1 t b vs.toArray ws.toArray n n2 dd dd2 sl sl2 (~~~hv) (by simp[hw])) ⟨ho,ho2,h1 hw⟩
 ·refine ada ⟨_,ho,rfl⟩ ⟨_,ho2,rfl⟩ adb adc ade adf (adg _ _)
   (tuple_addW2 t b vs.toArray ws.toArray n n2 dd dd2 sl sl2 (~~~hv) (~~~hw) (by rw[YF,YF];exact hsz)) ⟨ho,ho2,?_⟩
  rw[e];exact h2 hw
def eJ(n d:Nat):Option Int->Nat
 |none=>d
 |some v=>if v<0 then (v+(n:Int)).toNat else min v.toNat n
def Rr(n d:Nat)(hd:d<=n)(o:Option Int):eJ n d o<=n:=by
 cases o with
 |none=>exact hd
 |some v=>
  show (if v<0 then (v+(n:Int)).toNat else min v.toNat n)<=n;by_cases hv:v<0
  ·rw[Yb hv];lia
  ·rw[X9 hv];exact Nat.min_le_right _ _
def FA(v:Int)(n d:Nat):(if v<0 then max (v+(n:Int)) 0 else min v (n:Int))=((eJ n d (some v):Nat):Int):=by
 show (if v<0 then max (v+(n:Int)) 0 else min v (n:Int))=(((if v<0 then (v+(n:Int)).toNat else min v.toNat n):Nat):Int)
 by_cases hv:v<0
 ·simp only[Yb hv];lia
 ·simp only[X9 hv];lia
def DH(lo hi:Option Int)(n:Nat):Builtin.Slice.sliceAdjust lo hi 1 (n:Int)=(((eJ n 0 lo:Nat):Int),((eJ n n hi:Nat):Int)):=by
 have h1:¬((1:Int)<0):=()
 unfold Builtin.Slice.sliceAdjust;simp only[h1,aaQ];refine Y9 ?_ ?_
 ·cases lo with
  |none=>rfl
  |some v=>exact FA v n 0
 ·cases hi with
  |none=>rfl
  |some v=>exact FA v n n
def EC(i j:Nat):Builtin.Slice.slicePlaces (i:Int) (j:Int) 1=j-i:=by
 unfold Builtin.Slice.slicePlaces;have h1:(1:Int) > 0:=()
 simp only[h1,abq,Int.ediv_one];split<;>lia
def wK{Q:Option Int->Shared->Prop}(p:IsPart v o)(h:Q o s):wpAny (model prog w) A (Builtin.Slice.slicePartIndex v) Q E s:=by
 cases p with
 |none=>exact slicePart_none h
 |int i t=>exact slicePart_int h
def kj{lo hi:Option Int}{n:Nat}{Q:Int×Int×Nat->Shared->Prop}(hs:s.heap.IsSliceOf sl vl vu .none)(pl:IsPart vl lo)(pu:IsPart vu hi)
  (h:Q (((eJ n 0 lo:Nat):Int),1,eJ n n hi-eJ n 0 lo) s):wpAny (model prog w) A (Builtin.Slice.sliceApplied (.ref sl) (pure (n:Int))) Q E s:=by
 obtain⟨os,hos,hcs,hds⟩:=id hs;unfold Builtin.Slice.sliceApplied Builtin.Slice.sliceFields;refine X8 (X8 (aa3 hos hds (x:=vl) rfl (X8 (aa3 hos hds (x:=vu) rfl (X8 (aa3 hos hds (x:=.none) rfl (Yc ?_)))))));refine X8 (slicePart_none ?_);show wpAny _ _ (if ((1:Int)==0)=true then _ else _) _ _ s;rw[X9 (by decide)];refine X8 (wK pl (X8 (wK pu (X8 (Yc ?_)))));show wpAny _ _ (match Builtin.Slice.sliceAdjust lo hi 1 (n:Int) with|(lo,hi)=>pure (lo,(1:Int),Builtin.Slice.slicePlaces lo hi 1)) _ _ s;rw[DH lo hi n];show wpAny _ _ (pure (((eJ n 0 lo:Nat):Int),(1:Int),Builtin.Slice.slicePlaces ((eJ n 0 lo:Nat):Int) ((eJ n n hi:Nat):Int) 1)) _ _ s;rw[EC];exact Yc h
def La(xs:Array Value)(i k:Nat):((List.range k).filterMap λ(m:Nat)=>xs[((i:Int)+(m:Int)*1).toNat]?).toArray=((xs.toList.drop i).take k).toArray:=by
 have e:(λ(m:Nat)=>xs[((i:Int)+(m:Int)*1).toNat]?)=λm=>xs[i+m]?:=by
  funext m
  have:((i:Int)+(m:Int)*1).toNat=i+m:=()
  rw[this]
 rw[e];have:=pick_run xs i k;rw[aec] at this;have e2:((λx=>xs[x]?)∘λx=>i+x)=λm=>xs[i+m]?:=rfl;rw[e2] at this;rw[this]
def p6{lo hi:Option Int}{Q:Ze}(ht:IsTup s.heap t items)(hs:s.heap.IsSliceOf sl vl vu .none)(pl:IsPart vl lo)(pu:IsPart vu hi)
  (hw:¬(eJ items.size 0 lo=0/\eJ items.size items.size hi=items.size))
  (h:Q (.ref s.heap.objs.size) { s with heap:=s.heap.push { cls:=.type "tuple",data:=.seq ((items.toList.drop (eJ items.size 0 lo)).take (eJ items.size items.size hi-eJ items.size 0 lo)).toArray } })
  (hsz:items.size<=sizeLine):wpAny (model prog w) A (getItem (.ref t) (.ref sl)) Q E s:=by
 have htake:sizeOk (.seq ((items.toList.drop (eJ items.size 0 lo)).take (eJ items.size items.size hi-eJ items.size 0 lo)).toArray):=by show ((items.toList.drop (eJ items.size 0 lo)).take (eJ items.size items.size hi-eJ items.size 0 lo)).toArray.size<=sizeLine;rw[YF,aa2,ab5,YY];omega
 have hj:eJ items.size items.size hi<=items.size:=Rr _ _ (Yi _) hi;obtain⟨os,hos,hcs,hds⟩:=id hs;have hTs:s.TypeIs (.ref sl) "slice" := ⟨os,hos,hcs⟩
 unfold getItem;try with_reducible refine Y1 ?_
 first|refine X8 (Yc ?_)|skip
 refine X8 (aed ht.typeIs (by decide) ?_)
 refine X8 (aa4 (name:=Str.ofString "__getitem__") ht.typeIs abJ
  (aae abJ ht.typeIs aee ?_ (aef _ _)))
 show wpAny _ _ (Builtin.Tuple.tupleItemsOf (.ref t) >>= _) _ _ s;refine X8 (tupleItemsOf_ ht ?_);refine X8 (aa5 hTs ?_);rw[Yb (by decide)];refine X8 (kj hs pl pu ?_);have hno:¬((((eJ items.size 0 lo:Nat):Int)==0&&(1:Int)==1&&(eJ items.size items.size hi-eJ items.size 0 lo)==items.size)=true):=by intro q;rw[Y3,Y3] at q;have q1:((eJ items.size 0 lo:Nat):Int)=0:=eq_of_beq q.1.1;have q2:eJ items.size items.size hi-eJ items.size 0 lo=items.size:=eq_of_beq q.2;exact hw ⟨by omega,by omega⟩
 show wpAny _ _ (if (((eJ items.size 0 lo:Nat):Int)==0&&(1:Int)==1&&(eJ items.size items.size hi-eJ items.size 0 lo)==items.size)=true then _ else _) _ _ s;rw[X9 hno,La]
 first
  |exact X8 (m:=Builtin.Tuple.tupleExact _) (YZ (Yc ⟨_,rfl,Yc h⟩) htake)
  |exact X8 (m:=Builtin.Tuple.tupleExact _) (YZ (X8 (Yc (Yc ⟨_,rfl,Yc h⟩))) htake)
  |exact X8 (X8 (m:=Builtin.Tuple.tupleExact _) (YZ (Yc (Yc ⟨_,rfl,Yc h⟩)) htake))
  |exact X8 (X8 (m:=Builtin.Tuple.tupleExact _) (YZ (Yc ⟨_,rfl,Yc h⟩) htake))
end
end HT
namespace L2
open PySem PySem.Spec PyProof.Rows
abbrev TO:=St->Hp->(Option Int->Hp->Prop)->Prop
def PO(X:Cx)(e:Option Expr)(t:TO):Prop:=
 ∀(ZN:Zf) (s:Shared) (σ:St) (H:Hp) (Q:Option Int->Hp->Prop),Inv X ZN σ H s->t σ H Q ->
  wpAny (model X.prog X.w) X.A (evalPart e X.env) (λu s'=>∃o H',Inv X ZN σ H' s'/\IsPart u o/\Q o H') X.xe s
def Mr(t:TE):TO:=λσ H Q=>t σ H λx H1=>∃i,x=.int i/\Q (some i) H1
def oY{ns:Zn}:∀ {us:Zh},Vals (ns.map V.int) us->IntsAre us ns:=by
 induction ns with
 |nil=>intro us r;rw[aa6] at r;cases r;exact .nil
 |cons n ns ih=>
  intro us r;rw[Yo] at r;cases r with
  |cons r1 r2=>obtain⟨t,e⟩:=r1;subst e;exact .cons n t (ih r2)
section
variable {X:Cx}{e:Expr}{te:TE}{lo hi:Option Expr}{tl th:TO}{pos p2:Pos}
def qG(h:PE X e te):PO X (some e) (Mr te):=by intro ZN s σ H Q I hw;rw[evalPart_some];refine bZ (h ZN s σ H _ I hw) λu s1 ZP=>?_;obtain⟨x,H1,I1,r1,q1⟩:=ZP;obtain⟨i,rfl,q⟩:=q1;obtain⟨t,rfl⟩:=r1;exact⟨some i,H1,I1,.int i t,q⟩
def SlR(X:Cx)(r:V->Option Int->Option Int->Hp->VK->Prop):Prop:=
 ∀(ZN:Zf) (s:Shared) (σ:St) (H:Hp) (x:V) (v vl vu:Value) (lo hi:Option Int) (sl:Addr) (Q:VK),Inv X ZN σ H s->RelV x v->s.heap.IsSliceOf sl vl vu .none->IsPart vl lo->IsPart vu hi->r x lo hi H Q ->
  ∃T id,typeLookup (.type T) "__getitem__"=pure (some (.builtin id))/\s.TypeIs v T/\wpAny (model X.prog X.w) X.A (getItem v (.ref sl)) (EP X ZN σ Q) X.xe s
def SlR.or(h:SlR X r)(h':SlR X r'):SlR X (λx lo hi H Q=>r x lo hi H Q\/r' x lo hi H Q):=by
 intro ZN s σ H x v vl vu lo hi sl Q I rx hs pl pu q;rcases q with q|q
 ·exact h ZN s σ H x v vl vu lo hi sl Q I rx hs pl pu q
 ·exact h' ZN s σ H x v vl vu lo hi sl Q I rx hs pl pu q
def Vv(r:V->Option Int->Option Int->Hp->VK->Prop)(te:TE)(tl th:TO):TE:=λσ H Q=>te σ H λx H1=>tl σ H1 λl H2=>th σ H2 λu H3=>r x l u H3 Q
def we(hr:SlR X r)(he:PE X e te)(hl:PO X lo tl)(hu:PO X hi th):PE X (.Subscript e (.Slice lo hi none p2) pos) (Vv r te tl th):=by intro ZN s σ H Q I h;refine Subscript_ (bZ (he ZN s σ H _ I h) λv s1 ZP=>?_);obtain⟨x,H1,I1,r1,q1⟩:=ZP;refine wpAny_Slice (bZ (hl ZN s1 σ H1 _ I1 q1) λvl s2 ⟨l,H2,I2,pl,q2⟩=>bZ (hu ZN s2 σ H2 _ I2 q2) λvu s3 ZP=>?_);obtain⟨u,H3,I3,pu,q3⟩:=ZP;rw[evalPart_none];refine Yc ?_;have I4:Inv X ZN σ H3 { s3 with heap:=s3.heap.push { cls:=.type "slice",data:=.fields #[vl,vu,.none] } }:=I3.kept (t':=s3.toks) λb ob q=>Yq _ q;obtain⟨T,id,hT,ht,hg⟩:=hr ZN { s3 with heap:=s3.heap.push { cls:=.type "slice",data:=.fields #[vl,vu,.none] } } σ H3 x v vl vu l u s3.heap.objs.size Q I4 r1 (Heap.IsSliceOf.new ..) pl pu q3;show wpAny (model X.prog X.w) X.A (subscriptTail e (.Slice lo hi none p2) v (.ref s3.heap.objs.size)) (EP X ZN σ Q) X.xe { s3 with heap:=s3.heap.push { cls:=.type "slice",data:=.fields #[vl,vu,.none] } };exact tail_any (ops:=[.ref s3.heap.objs.size,v]) ht hT hg (by with_unfolding_all rfl)
def nO(xs:Za)(lo hi:Option Int):Za:=(xs.drop (HT.eJ xs.length 0 lo)).take (HT.eJ xs.length xs.length hi-HT.eJ xs.length 0 lo)
def sS(xs:Za)(lo hi:Option Int):(nO xs lo hi).length<=xs.length:=by unfold nO;rw[aa2,ab5];lia
def Vo(K:Zj):V->Option Int->Option Int->Hp->VK->Prop:=λx lo hi H Q=>∃a xs,x=.ref a/\SqT K H a xs /\
 ¬(HT.eJ xs.length 0 lo=0/\HT.eJ xs.length xs.length hi=xs.length)/\∀p,H p=none->Q (.ref p) (bi H p (.tup (nO xs lo hi)))
def RN:SlR X (Vo X.K):=by
 intro ZN s σ H x v vl vu lo hi sl Q I rx hs pl pu h;obtain⟨a,xs,rfl,hx,hw,q⟩:=h;cases rx;obtain⟨its,r,ht,hz⟩:=I.tuple hx;have ZQ:its.toArray.size=xs.length:=by rw[YF];exact r.length.symm
 refine⟨"tuple",_,abJ.lookup,ht.typeIs,?_⟩;refine HT.p6 ht hs pl pu (by rw[ZQ];exact hw) ?_ (by rw[ZQ];exact hz);rw[ZQ];refine⟨.ref s.heap.objs.size,_,I.laid (t':=s.toks) (o:=.tup (nO xs lo hi)) (λb ob q=>Yq _ q) (Yi _) ?_,rfl,q _ (I.hok.fresh (Yi _))⟩;exact⟨Yr (sS xs lo hi) hz,_,(r.drop (HT.eJ xs.length 0 lo)).take (HT.eJ xs.length xs.length hi-HT.eJ xs.length 0 lo),IsTup.new _ _⟩
def Vals.nil_iff{xs:Za} (r:Vals xs us):us=[]↔xs=[]:=by
 cases r with
 |nil=>simp
 |cons _ _=>simp
end
def yx(n:Nat)(i:Int):Option Nat:=if 0<=i then (if i<n then some i.toNat else none) else if -(n:Int)<=i then some (i+n).toNat else none
def cF{α:Type}(xs:List α)(i:Int):Option α:=(yx xs.length i).bind λj=>xs[j]?
def FS{n:Nat}{i:Int}{j:Nat}(h:yx n i=some j):seqIndex? i n=some j/\j<n /\ -(n:Int)<=i/\i<n:=by
 unfold yx at h;by_cases h0:0<=i
 ·rw[Yb h0] at h;by_cases h1:i<n
  ·rw[Yb h1] at h;have e:i.toNat=j:=YU h;exact⟨#v[adh h0 h1,e],(),(),h1⟩
  ·rw[X9 h1] at h;cases h
 ·rw[X9 h0] at h;by_cases h1:-(n:Int)<=i
  ·rw[Yb h1] at h;have e:(i+n).toNat=j:=YU h;exact⟨#v[adi () h1,e],(),h1,()⟩
  ·rw[X9 h1] at h;cases h
def zo{α:Type}{xs:List α}{i:Int}{v:α}(h:cF xs i=some v):∃j,seqIndex? i xs.length=some j/\xs[j]?=some v/\j<xs.length /\ -(xs.length:Int)<=i/\i<xs.length:=by
 unfold cF at h;cases e:yx xs.length i with
 |none=>rw[e] at h;cases h
 |some j=>rw[e] at h;obtain⟨h1,h2,h3,h4⟩:=FS e;exact⟨j,h1,h,h2,h3,h4⟩
def Fi(b:Expr):Prop:=∀o i,subscripted b false o i=operate [o,i] (getItem o i)
def IxR(X:Cx)(r:R2):Prop:=
 ∀(value slice:Expr) (ZN:Zf) (s:Shared) (σ:St) (H:Hp) (x y:V) (v u:Value) (Q:VK),Inv X ZN σ H s->RelV x v->RelV y u->r x y H Q ->
  subscripted slice false v u=operate [v,u] (getItem v u)->wpAny (model X.prog X.w) X.A (subscriptTail value slice v u) (EP X ZN σ Q) X.xe s
def UV(X:Cx)(id:String)(r:V->Za->Hp->VK->Prop):Prop:=
 ∀(ZN:Zf) (s:Shared) (σ:St) (H:Hp) (x:V) (xs:Za) (v:Value) (us:Zh) (Q:VK),Inv X ZN σ H s->RelV x v->Vals xs us->r x xs H Q ->
  wpAny (model X.prog X.w) X.A (call (.builtin id) (v::us)) (EP X ZN σ Q) X.xe s
section
variable {X:Cx}{a b:Expr}{ta tb:TE}{pos:Pos}
def IxR.or(h:IxR X r)(h':IxR X r'):IxR X (λx y H Q=>r x y H Q\/r' x y H Q):=by
 intro value slice ZN s σ H x y v u Q I rx ry q hs;rcases q with q|q
 ·exact h value slice ZN s σ H x y v u Q I rx ry q hs
 ·exact h' value slice ZN s σ H x y v u Q I rx ry q hs
def Tl(hr:IxR X r)(ha:PE X a ta)(hb:PE X b tb)(hs:Fi b):PE X (.Subscript a b pos) (Mq r ta tb):=by intro ZN s σ H Q I h;exact Subscript_ (Qx ha hb I h λv u s2 x y H2 I2 rx ry q=>hr a b ZN s2 σ H2 x y v u Q I2 rx ry q (hs _ _))
def Tz(K:Zj):R2:=λx y H Q=>∃p xs i v,x=.ref p/\y=.int i/\SqL K H p xs/\cF xs i=some v/\Q v H
def TC(K:Zj):R2:=λx y H Q=>∃p xs i v,x=.ref p/\y=.int i/\SqT K H p xs/\cF xs i=some v/\Q v H
def TB:R2:=λx y H Q=>∃z i c,x=.str z/\y=.int i/\z.length<=sizeLine/\cF z.cps.toList i=some c/\Q (.str ⟨#[c]⟩) H
def ix_list:IxR X (Tz X.K):=by
 intro value slice ZN s σ H x y v u Q I rx ry h hs;obtain⟨p,xs,i,z,rfl,rfl,hq,he,q⟩:=h;cases rx;obtain⟨t,rfl⟩:=ry;obtain⟨its,r,pl,hz⟩:=I.list hq;obtain⟨j,h1,h2,h3,h4,h5⟩:=zo he;obtain⟨w,ew,rw'⟩:=r.get h2;have hl:=r.length;have hn:=o4;have fin:EP X ZN σ Q w s:=⟨z,H,I,rw',q⟩
 by_cases h0:0<=i
 ·have hj:i.toNat=j:=by
   rw[adh h0 h5] at h1;exact YU h1
  exact item_listR pl.isList h0 () (by rw[hj];simpa using ew) fin hs
 ·have hj:(i+(its.toArray.size:Int)).toNat=j:=by
   rw[adi () h4] at h1;rw[YF,<-hl];exact YU h1
  exact aeg (x:=w) pl.isList.typeIs aeh.lookup
   (wpAny_getItem_list_neg (Q:=λr s'=>r=w/\EP X ZN σ Q r s') pl.isList () (by rw[YF]<;>lia) () (by rw[hj];simpa using ew) ⟨rfl,fin⟩) hs
def ix_tup:IxR X (TC X.K):=by
 intro value slice ZN s σ H x y v u Q I rx ry h hs;obtain⟨p,xs,i,z,rfl,rfl,hq,he,q⟩:=h;cases rx;obtain⟨t,rfl⟩:=ry;obtain⟨its,r,pl,hz⟩:=I.tuple hq;obtain⟨j,h1,h2,h3,h4,h5⟩:=zo he;obtain⟨w,ew,rw'⟩:=r.get h2;have hl:=r.length;have hn:=o4;have fin:EP X ZN σ Q w s:=⟨z,H,I,rw',q⟩
 exact aeg (x:=w) pl.typeIs slot_tuple_getitem.lookup
  (getItem_tuple (j:=j) (Q:=λr s'=>r=w/\EP X ZN σ Q r s') pl () () (by rw[YF,<-hl];exact h1) (~~~ew) ⟨rfl,fin⟩) hs
def QR:IxR X TB:=by
 intro value slice ZN s σ H x y v u Q I rx ry h hs;obtain⟨z,i,c,rfl,rfl,hz,he,q⟩:=h;obtain⟨t,rfl⟩:=rx;obtain⟨t',rfl⟩:=ry;obtain⟨j,h1,h2,h3,h4,h5⟩:=zo he;have hl:z.cps.toList.length=z.length:=by simp[Str.length]
 rw[hl] at h1 h4 h5;have hn:=o4;exact tail_any (typeIs_str s z t) slot_str_getitem.lookup (getItem_str (c:=c) (by
  have e1:decide (i < -(2^63:Int))=false:=YB ();have e2:decide (i ≥ 2^63)=false:=YB ()
  rw[e1,e2,Bool.or_false]) (by rw[h1];simpa using h2) ⟨.str ⟨#[c]⟩,H,I.tok _,⟨_,rfl⟩,q⟩) hs
def Tx(K:Zj):R2:=λx y H Q=>Tz K x y H Q\/TC K x y H Q\/TB x y H Q
def QP:IxR X (Tx X.K):=ix_list.or (ix_tup.or QR)
def Ek(its:Zh)(n j:Nat)(u:Value):Obj.mapSeq (·.setIfInBounds j u) { cls:=.type "list",data:=.seq its.toArray n }={ cls:=.type "list",data:=.seq (its.set j u).toArray n }:=by simp[Obj.mapSeq]
def Inv.lst{ZN:Zf}{σ:St}{H:Hp}{s:Shared}{p:Addr}{xs:Za}(I:Inv X ZN σ H s)(h:H p=some (.lst xs)) :
  ∃(its:Zh) (n:Nat),Vals xs its/\s.heap.get? p=some { cls:=.type "list",data:=.seq its.toArray n }/\xs.length<=sizeLine:=by
 obtain⟨z,its,n,r,e⟩:=I.hok p _ h;exact⟨its,n,r,e,z⟩
def Inv.lstUpd{ZN:Zf} {p:Addr}{xs ys:Za}{its its':Zh}{n n':Nat}{f:Obj->Obj}(I:Inv X ZN σ H s)(h:H p=some (.lst xs))
  (ho:s.heap.get? p=some { cls:=.type "list",data:=.seq its.toArray n }) (hf:f { cls:=.type "list",data:=.seq its.toArray n }={ cls:=.type "list",data:=.seq its'.toArray n' }) (r:Vals ys its') (hz:ys.length<=sizeLine) (t:Nat) :
  Inv X ZN σ (bi H p (.lst ys)) { s with heap:=s.heap.update p f,toks:=t }:=by
 have e:(s.heap.update p f).get? p=some { cls:=.type "list",data:=.seq its'.toArray n' }:=by rw[aah f ho (by rw[hf]<;>rfl),hf]
 refine I.write (x:=p) (e:=p) (by rw[h];trivial) (.inl rfl) (λb u hb q=>(adj _ _ (YN hb)).trans q) ⟨_,e⟩ ?_;exact⟨hz,its',n',r,e⟩
def Lr:V->V->V->Hp->(Hp->Prop)->Prop:=λo i v H Q=>∃p xs k j,o=.ref p/\i=.int k/\H p=some (.lst xs)/\yx xs.length k=some j/\Q (bi H p (.lst (xs.set j v)))
def L6:Qh X Lr:=by
 intro ZN s σ H o i v ov iv u Q I ro ri rv h;obtain⟨p,xs,k,j,rfl,rfl,hp,hj,q⟩:=h;cases ro;obtain⟨t,rfl⟩:=ri;obtain⟨its,n,r,ho,hz⟩:=I.lst hp;obtain⟨h1,h2,h3,h4⟩:=FS hj;have hl:=r.length;have hn:=o4;have I':Inv X ZN σ (bi H p (.lst (xs.set j v))) { s with heap:=s.heap.update p (Obj.mapSeq (·.setIfInBounds j u)) }:=
  I.lstUpd hp ho (Ek its n j u) (r.set rv j) (by rw[aaR];exact hz) s.toks
 by_cases h0:0<=k
 ·have hk:k.toNat=j:=by
   rw[adh h0 h4] at h1;exact YU h1
  exact W.ki_setAt ho h0 () (by rw[YF,<-hl];exact h4) (by rw[hk];exact⟨_,I',q⟩)
 ·have hk:(k+(its.toArray.size:Int)).toNat=j:=by
   rw[adi () h3] at h1;rw[YF,<-hl];exact YU h1
  exact W.ki_setBack ho () (by rw[YF,<-hl];exact h3) () (by rw[hk];exact⟨_,I',q⟩)
def AC(lo hi:Option Int)(n:Nat):(sliceBounds lo hi none n).1=((HT.eJ n 0 lo:Nat):Int)/\(sliceBounds lo hi none n).2.1=((HT.eJ n n hi:Nat):Int)/\(sliceBounds lo hi none n).2.2=1:=by
 refine⟨?_,?_,rfl⟩
 ·cases lo with
  |none=>simp[sliceBounds,HT.eJ]
  |some i=>
   simp only[sliceBounds,HT.eJ,Option.getD_none,show (1:Int) > 0 by decide,abq];by_cases h:i<0
   ·simp only[h,abq]<;>lia
   ·simp only[h,aaQ]<;>lia
 ·cases hi with
  |none=>simp[sliceBounds,HT.eJ]
  |some i=>
   simp only[sliceBounds,HT.eJ,Option.getD_none,show (1:Int) > 0 by decide,abq];by_cases h:i<0
   ·simp only[h,abq]<;>lia
   ·simp only[h,aaQ]<;>lia
def xK(its:Zh)(lo hi:Option Int):slicePick its.toArray lo hi none=((its.drop (HT.eJ its.length 0 lo)).take (HT.eJ its.length its.length hi-HT.eJ its.length 0 lo)).toArray:=by obtain⟨h1,h2,h3⟩:=AC lo hi its.toArray.size;unfold slicePick;rw[h1,h2,h3];simp only[sliceRange_one,pick_run,YF]<;>rfl
def TH(K:Zj):V->Option Int->Option Int->Hp->VK->Prop:=λx lo hi H Q=>∃a xs,x=.ref a/\SqL K H a xs/\∀p,H p=none->Q (.ref p) (bi H p (.lst (nO xs lo hi)))
def OD:SlR X (TH X.K):=by intro ZN s σ H x v vl vu lo hi sl Q I rx hs pl pu h;obtain⟨a,xs,rfl,hx,q⟩:=h;cases rx;obtain⟨its,r,ht,hz⟩:=I.list hx;have ZQ:=r.length;refine⟨"list",_,aeh.lookup,ht.isList.typeIs,?_⟩;refine wpAny_getItem_list_slice ht.isList hs pl pu .none (by simp) ?_ (by rw[YF]<;>lia);rw[xK,<-ZQ];refine⟨.ref s.heap.objs.size,_,I.laid (t':=s.toks) (o:=.lst (nO xs lo hi)) (λb ob q=>Yq _ q) (Yi _) ?_,rfl,q _ (I.hok.fresh (Yi _))⟩;exact⟨Yr (sS xs lo hi) hz,_,0,(r.drop (HT.eJ xs.length 0 lo)).take (HT.eJ xs.length xs.length hi-HT.eJ xs.length 0 lo),Yy _ rfl⟩
def pZ:V->Bool
 |.non=>true
 |.bl _=>true
 |.int _=>true
 |.str _=>true
 |_=>false
def Nn:V->V->Bool
 |.non,.non=>true
 |.bl a,.bl b=>a==b
 |.bl a,.int b=>(if a then 1 else 0)==b
 |.int a,.bl b=>a==(if b then 1 else 0)
 |.int a,.int b=>a==b
 |.str a,.str b=>a==b
 |_,_=>false
def QF(ry:RelV y u)(rx:RelV x v)(fy:pZ y=true)(fx:pZ x=true):SeqAt.EqAt A s u v (Nn y x):=by
 cases y with
 |non=>
  cases ry;cases x with
  |non=>cases rx;exact SeqAt.EqAt.same _
  |bl b=>cases rx;exact SeqAt.EqAt.none_bool b
  |int b=>obtain⟨t,rfl⟩:=rx;exact SeqAt.EqAt.none_int b t
  |str b=>obtain⟨t,rfl⟩:=rx;exact SeqAt.EqAt.none_str b t
  |_=>exact absurd (show false=true from fx) Y4
 |bl a=>
  cases ry;cases x with
  |non=>cases rx;exact SeqAt.EqAt.bool_none a
  |bl b=>cases rx;exact SeqAt.EqAt.bool_bool a b
  |int b=>obtain⟨t,rfl⟩:=rx;exact SeqAt.EqAt.bool_int a b t
  |str b=>obtain⟨t,rfl⟩:=rx;exact SeqAt.EqAt.bool_str a b t
  |_=>exact absurd (show false=true from fx) Y4
 |int a=>
  obtain⟨t',rfl⟩:=ry;cases x with
  |non=>cases rx;exact SeqAt.EqAt.int_none a t'
  |bl b=>cases rx;exact SeqAt.EqAt.int_bool a t' b
  |int b=>obtain⟨t,rfl⟩:=rx;exact aei a t' b t
  |str b=>obtain⟨t,rfl⟩:=rx;exact adX a t' b t
  |_=>exact absurd (show false=true from fx) Y4
 |str a=>
  obtain⟨t',rfl⟩:=ry;cases x with
  |non=>cases rx;exact SeqAt.EqAt.str_none a t'
  |bl b=>cases rx;exact SeqAt.EqAt.str_bool a t' b
  |int b=>obtain⟨t,rfl⟩:=rx;exact adY a t' b t
  |str b=>obtain⟨t,rfl⟩:=rx;exact SeqAt.EqAt.str_str a t' b t
  |_=>exact absurd (show false=true from fx) Y4
 |_=>exact absurd (show false=true from fy) Y4
def Nm(x:V)(u:Value):Bool:=match u with
 |.none=>Nn .non x
 |.bool b=>Nn (.bl b) x
 |.int i _=>Nn (.int i) x
 |.str z _=>Nn (.str z) x
 |_=>false
def JK(r:RelV y u)(f:pZ y=true):Nm x u=Nn y x:=by
 cases y with
 |non=>cases r;rfl
 |bl b=>cases r;rfl
 |int i=>obtain⟨t,rfl⟩:=r;rfl
 |str z=>obtain⟨t,rfl⟩:=r;rfl
 |_=>exact absurd (show false=true from f) Y4
theorem zn:∀ {xs:Za} {us:Zh},Vals xs us->xs.all pZ=true->us.any (Nm x)=xs.any λy=>Nn y x
 |_,_,.nil,_=>rfl
 |y::xs,u::us,.cons r t,f=>by rw[adk,Y3] at f;rw[aaA,aaA,JK r f.1,zn t f.2]
theorem vH(rx:RelV x v)(fx:pZ x=true):∀ {xs:Za} {us:Zh},Vals xs us->xs.all pZ=true->∀u∈us,SeqAt.EqAt A s u v (Nm x u)
 |_,_,.nil,_=>λu hu=>by cases hu
 |y::xs,u::us,.cons r t,f=>λu' hu=>by
  rw[adk,Y3] at f;rcases Yj.1 hu with rfl|hu
  ·rw[JK r f.1];exact QF r rx f.1 fx
  ·exact vH rx fx t f.2 u' hu
def UD(x:V)(xs:Za):Bool:=xs.any λy=>Nn y x
def Vn(K:Zj)(neg:Bool):R2:=λx y H Q=>∃p xs,y=.ref p/\(SqL K H p xs\/SqT K H p xs)/\pZ x=true/\xs.all pZ=true/\Q (.bl (if neg then !UD x xs else UD x xs)) H
def HL:OpR X (compareOp .In) (Vn X.K false):=by
 intro ZN s σ H x y v u Q I rx ry h;obtain⟨p,xs,rfl,hq,fx,fs,q⟩:=h;cases ry;rcases hq with hq|hq
 ·obtain⟨its,r,pl,hz⟩:=I.list hq;refine SeqAt.in_listAt (Nm x) pl.isList (λw hw=>vH rx fx r fs w (~~~hw)) ⟨.bl _,H,I,rfl,?_⟩;rw[show its.toArray.any (Nm x)=its.any (Nm x) by simp,zn r fs];exact q
 ·obtain⟨its,r,pl,hz⟩:=I.tuple hq;refine SeqAt.in_tupleAt (Nm x) pl (λw hw=>vH rx fx r fs w (~~~hw)) ⟨.bl _,H,I,rfl,?_⟩;rw[show its.toArray.any (Nm x)=its.any (Nm x) by simp,zn r fs];exact q
def CallR.or(h:CallR X f r)(h':CallR X f r'):CallR X f (λxs H Q=>r xs H Q\/r' xs H Q):=by
 intro ZN s σ H xs us Q I rs q;rcases q with q|q
 ·exact h ZN s σ H xs us Q I rs q
 ·exact h' ZN s σ H xs us Q I rs q
def du:CallR X (.type "tuple") (λxs H Q=>∃p ys,xs=[.ref p]/\((SqL X.K H p ys/\∀l,H l=none->Q (.ref l) (bi H l (.tup ys)))\/(SqT X.K H p ys/\Q (.ref p) H))):=by
 intro ZN s σ H xs us Q I r h;obtain⟨p,ys,rfl,h⟩:=h;obtain⟨u,rfl,rx⟩:=GC r;cases rx;rcases h with ⟨hq,q⟩|⟨hq,q⟩
 ·obtain⟨its,r',pl,hz⟩:=I.list hq;have ZQ:=r'.length;refine call_tuple_list pl.isList (λh' kp=>?_) (by simp only[YF]<;>lia);have I1:Inv X ZN σ H { s with heap:=h' }:=I.kept (t':=s.toks) kp;have I2:Inv X ZN σ (bi H h'.objs.size (.tup ys)) { s with heap:=h'.push { cls:=.type "tuple",data:=.seq its.toArray } }:=
   I1.laid (t':=s.toks) (λb o e=>Yq _ e) (Yi _) (show ObjOk X.prog X.w _ _ _ (.tup ys) from ⟨hz,its,r',IsTup.new _ _⟩)
  exact⟨.ref h'.objs.size,_,I2,rfl,q _ (I1.hok.fresh (Yi _))⟩
 ·obtain⟨its,r',pl,hz⟩:=I.tuple hq;exact call_tuple_same pl ⟨.ref p,H,I,rfl,q⟩
def WD(K:Zj)(T:String)(x:V)(H:Hp):Prop:=match x with
 |.str _=>T="str"
 |.int _=>T="int"
 |.ref p=>(T="list" /\ ∃xs,SqL K H p xs)\/(T="tuple" /\ ∃o,K.lookup p=some o/\o.cls=.type "tuple" /\ o.dict=none) \/
   (T="dict" /\ ((∃kvs,H p=some (.dK kvs))\/∃kvs,H p=some (.dT kvs)))\/(T="set" /\ ∃S n,H p=some (.set S n))
 |_=>False
def R7{ZN:Zf} (I:Inv X ZN σ H s)(r:RelV x v)(ty:WD X.K T x H) :
  s.TypeIs v T/\∀a,v=.ref a->∃ob,s.heap.get? a=some ob/\ob.dict=none:=by
 cases x with
 |str z=>
  obtain⟨t,rfl⟩:=r;cases (show T="str" from ty);exact⟨typeIs_str s z t,λ_ e=>nomatch e⟩
 |int i=>
  obtain⟨t,rfl⟩:=r;cases (show T="int" from ty);exact⟨typeIs_int s i t,λ_ e=>nomatch e⟩
 |ref p=>
  cases r;rcases ty with ⟨rfl,xs,hq⟩|⟨rfl,o,hk,hc,hd⟩|⟨rfl,hk⟩|⟨rfl,S,n,hk⟩
  ·obtain⟨its,_,pl,_⟩:=I.list hq;refine⟨pl.isList.typeIs,λa e=>?_⟩;cases e;obtain⟨o,n,e,c,hd,_⟩:=pl;exact⟨o,e,hd⟩
  ·refine⟨⟨o,I.kIn p o hk,hc⟩,λa e=>?_⟩;cases e;exact⟨o,I.kIn _ o hk,hd⟩
  ·have z:∃o,s.heap.get? p=some o/\o.ExactDict:=by
    rcases hk with ⟨kvs,hk⟩|⟨kvs,hk⟩
    ·obtain⟨_,_,_,_,o,_,_,e,ex,_⟩:=I.hok p _ hk;exact⟨o,e,ex⟩
    ·obtain⟨_,_,_,_,o,_,_,e,ex,_⟩:=I.hok p _ hk;exact⟨o,e,ex⟩
   obtain⟨o,e,ex⟩:=z;refine⟨⟨o,e,ex.1⟩,λa e2=>?_⟩;cases e2;exact⟨o,e,ex.2.1⟩
  ·obtain⟨o,_,_,_,e,ex,_⟩:=I.hok p _ hk;refine⟨⟨o,e,ex.1⟩,λa e2=>?_⟩;cases e2;exact⟨o,e,ex.2.1⟩
 |_=>exact False.elim ty
def RX(K:Zj)(T:String)(r:V->Za->Hp->VK->Prop)(to:TE)(t:TA):TE:=λσ H Q=>to σ H λx H1=>WD K T x H1/\t σ H1 λxs H2=>r x xs H2 Q
variable {o e:Expr}{es:List Expr}{to:TE}{t:TA}{name:Str}{apos cpos:Pos}{T id:String}{r:V->Za->Hp->VK->Prop}
def jA(pa:PlainAttrs T)(slot:Slot T name id)(hty:typeOf (.builtin id)=pure (.type "method_descriptor")) (hm:UV X id r) (ho:PE X o to) (ha:PA X (e::es) t)
  (hbase:attributeBase o name X.env (eval o X.env)=eval o X.env:=by rfl)
  (hfew:((backTo cpos (starEach (e::es) X.env)).all (λx=>!x.1)&&(backToKw cpos (keywordEach [] X.env)).all (λx=>x.1.isSome)
   && decide ((e::es).length+([]:List Keyword).length+(if ([]:List Keyword).isEmpty then 0 else 1)<30))=true:=by rfl)
  (hline:(apos.endLine==cpos.line)=true:=by rfl) (hs:starEach (e::es) X.env=(false,eval e X.env)::starEach es X.env:=by rfl) (hplain:(backTo cpos (starEach es X.env)).any (·.1)=false:=by rfl) :
  PE X (.Call (.Attribute o name apos) (e::es) [] cpos) (RX X.K T r to t):=by
 intro ZN s σ H Q I h;refine wpAny_Call_method_late hbase hfew hline rfl (bZ (ho ZN s σ H _ I h) λv s1 ZP=>?_);obtain⟨x,H1,I1,r1,ty,q1⟩:=ZP;obtain⟨h1,h2⟩:=R7 I1 r1 ty;refine⟨T,id,pa,slot,hty,h1,h2,?_⟩;have hA:=ha cpos ZN s1 σ H1 _ I1 q1;rw[hs] at hA ⊢;refine Calls.callWith_builtin (by show (false || (backTo cpos (starEach es X.env)).any (·.1))=false;rw[hplain]<;>rfl) (Calls.evalArgs_plain ?_);exact bZ hA λus s2 ⟨vs,H2,I2,r2,q2⟩=>hm ZN s2 σ H2 x vs v us Q I2 r1 r2 q2
end
def Wi(X:Cx)(id:String)(r:V->Za->Hp->VK->Prop):Prop:=
 ∀(ZN:Zf) (s:Shared) (σ:St) (H:Hp) (x:V) (xs:Za) (v:Value) (us:Zh) (Q:VK),Inv X ZN σ H s->RelV x v->Vals xs us->r x xs H Q ->
  wpAny (model X.prog X.w) X.A (call (.builtin id) (v::us)) (EP X ZN σ Q) X.xe s
def Vals.one{x:V}{us:Zh}(h:Vals [x] us):∃u,us=[u]/\RelV x u:=by
 cases h with
 |cons r t=>cases t;exact⟨_,rfl,r⟩
def Vals.two{x y:V}{us:Zh}(h:Vals [x,y] us):∃u v,us=[u,v]/\RelV x u/\RelV y v:=by
 cases h with
 |cons r t=>
  cases t with
  |cons q t=>cases t;exact⟨_,_,rfl,r,q⟩
section
variable {X:Cx}{ZN:Zf}{σ:St}{H:Hp}{s:Shared}{l b:Addr}{xs ys zs:Za}
def Inv.lset{its its':Zh}{n:Nat}{f:Array Value->Array Value}{t':Nat}(I:Inv X ZN σ H s)(hH:H l=some (.lst xs))
  (e:s.heap.get? l=some { cls:=.type "list",data:=.seq its.toArray n }) (hf:f its.toArray=its'.toArray) (hv:Vals ys its') (hz:ys.length<=sizeLine) :
  Inv X ZN σ (bi H l (.lst ys)) { s with heap:=s.heap.update l (Obj.mapSeq f),toks:=t' }:=by
 have q:=PySem.IsL.update e f;rw[hf] at q;refine I.write (x:=l) (e:=l) (by rw[hH];exact trivial) (.inl rfl) (λb' u hb hu=>(adj s.heap (Obj.mapSeq f) (YN hb)).trans hu) ⟨_,q⟩ ?_;exact⟨hz,its',_,hv,q⟩
def Inv.lnew{its:Zh}{t':Nat}(I:Inv X ZN σ H s)(hv:Vals ys its)(hz:ys.length<=sizeLine) :
  Inv X ZN σ (bi H s.heap.objs.size (.lst ys)) { s with heap:=s.heap.push { cls:=.type "list",data:=.seq its.toArray },toks:=t' }:=
 I.laid (λ_ _ q=>Yq _ q) (Yi _) ⟨hz,its,0,hv,Yy _ rfl⟩
def Inv.fresh(I:Inv X ZN σ H s):H s.heap.objs.size=none:=I.hok.fresh (Yi _)
def Inv.lstM(I:Inv X ZN σ H s)(hH:H l=some (.lst xs)):xs.length<=sizeLine/\∃(its:Zh) (n:Nat),Vals xs its/\xs.length=its.length/\s.heap.get? l=some { cls:=.type "list",data:=.seq its.toArray n }:=by obtain⟨z,its,n,r,e⟩:=I.hok l _ hH;exact⟨z,its,n,r,r.length,e⟩
def KH{n:Nat}(h:n<=sizeLine):Builtin.List.listTooLong n=false:=by unfold Builtin.List.listTooLong;exact YB ()
end
section
variable {X:Cx}
def rAppend:V->Za->Hp->VK->Prop:=λx vs H Q=>∃l xs y,x=.ref l/\vs=[y]/\H l=some (.lst xs)/\xs.length<sizeLine/\Q .non (bi H l (.lst (xs++[y])))
def gi:Wi X "list.append" rAppend:=by intro ZN s σ H x vs v us Q I rx rv h;obtain⟨l,xs,y,rfl,rfl,hH,hz,q⟩:=h;cases rx;obtain⟨u,rfl,ru⟩:=rv.one;obtain⟨z,its,n,r,hl,e⟩:=I.lstM hH;refine call_meets F.slot_list_append ⟨_,e,rfl⟩ F.entry_list_append (F.args_list_append_2 _ _) (PySem.list_append l its.toArray n u (by rw[YF];lia)) ⟨e,?_⟩;refine⟨.non,_,I.lset (its':=its++[u]) hH e (by simp) (r.append (.cons ru .nil)) ?_,rfl,q⟩;rw[Yl,Y5];lia
end
end L2
namespace Att
open PySem PySem.W PySem.Calls PyProof.Rows
def tJ:∀(ns:Zn) (vs:Zh),WellAll P h vs (ns.map WData.int)->IntsAre vs ns:=by
 intro ns;induction ns with
 |nil=>
  intro vs w;rw[aa6] at w;cases w;exact .nil
 |cons n ns ih=>
  intro vs w;rw[Yo] at w;cases w with
  |cons a b=>cases a;exact .cons _ _ (ih _ b)
def Ik{l:OpenLaw}{n:Nat}(hn:l.most=some n) {args:List WData} 
  (hpre:l.row.toRowW.claim.pre args=true) (hwl:WellAll P h vals args) :
  ∃a vs ns,vals=[Value.ref a]/\args=[WData.list (ns.map WData.int)]/\h.get? a=some { cls:=.type "list",data:=.seq vs.toArray }/\IntsAre vs ns/\ns.length<=n:=by
 have hsh:WShape.hasAll [] args [.list .int]=true:=(pre_splitW hpre).1;have hc:l.pre.holds [] { args:=args }=true:=(pre_splitW hpre).2;obtain⟨d,r,rfl,h1,h2⟩:=hasAllW_cons hsh;obtain rfl:=hasAllW_nil h2;obtain⟨xs,rfl,h3⟩:=hasW_list h1;obtain⟨ns,rfl⟩:=items_int h3;have ZQ:ns.length<=n:=by
  unfold OpenLaw.pre at hc;have h4:(WTm.not (.lt (.lit (.int (n:Int))) (.len (.arg 0)))).holds [] { args:=[.list (ns.map .int)] }=true:=by have h4:=(holds_andW hc).1;rw[hn] at h4;exact h4
  have h5:=condW_of h4 (w_not (w_lt w_lit (w_len_list (w_arg rfl))));rw[Ye] at h5;refine ab6 λq=>?_;have q':(n:Int)<((ns.length:Nat):Int):=by omega
  first
   | (rw[YI q'] at h5;exact absurd h5 (by decide))
   | (simp at h5;omega)
 cases hwl with
 |cons w1 w2=>
  cases w2;cases w1 with
  |list ho hall=>exact⟨_,_,ns,rfl,rfl,ho,tJ ns _ hall,ZQ⟩
def H9(l:OpenLaw)(args:List WData):l.row.toRowW.claim.post args (.bool true) args=true:=
 postW_of (r:=l.row.toRowW) (X:=(true==true))
  (show WShape.has [] (.bool true) .bool=true by first|rfl|decide|simp[WShape.has,WShape.arms,WShape.armsAll])
  (show (WTm.eq .res (.lit (.bool true))).value [] { args:=args,res:=some (.bool true),after:=args }=some (.bool (true==true)) from w_eq_bool (w_res rfl) w_lit) rfl
def Bd{l:OpenLaw}{n:Nat} {YP:World->Heap->Prop}{d:DefRec}
  (hn:l.most=some n) (hdf:d.params.defaults=[])
  (call:∀(w:World) (s₀ s₁:Shared) (mg mb:Zg) (fa:Addr) (o:Obj) (pm cd doc:Value) (a:Addr) (vs:Zh) (ns:Zn),
   Ground q loose [] XP w s₀ mg mb s₁.heap->YP w s₁.heap ->
   s₁.heap.get? fa=some o->o.data=.func (docDef d.name d.params d.body d.scope pm cd doc)->s₁.heap.CodeRec cd d.name->mg d.name=some (.ref fa) ->
   s₁.heap.get? a=some { cls:=.type "list",data:=.seq vs.toArray }->IntsAre vs ns->ns.length<=n->s₁.gens = #[] ->
   codeAny (model l.prog w) callerA (.call (.ref fa) ⟨[.ref a],[]⟩) (λr s'=>r=.ok (.ret (.bool true))/\OldK s₁.heap s'.heap/\s'.os=s₁.os/\AllBare s'.gens) s₁) :
  WalkO q loose XP YP l.row.toRowW d [] (λf vs=>PySem.call f vs):=by
 intro w s₀ s₁ mg mb G Y fa o pm cd doc dV kV ho hd hcd hD hmg hg args vals as hpre hlay hrd hwl hlo;obtain rfl:dV=.none:=Dflts.none hD hdf;obtain rfl:kV=.none:=Dflts.noKw hD;obtain⟨a,vs,ns,rfl,rfl,hobj,hints,ZQ⟩:=Ik hn hpre hwl;refine enter_call (abG (call w s₀ s₁ mg mb fa o pm cd doc a vs ns G Y ho (fd_plain hd) hcd hmg hobj hints ZQ hg) λr s' hq=>?_);obtain⟨rfl,h2,h3,h4⟩:=hq;exact⟨.inl ⟨.bool true,.bool true,[],rfl,λ_=>rfl,.bool true,H9 l _,λ_=>⟨List.Pairwise.nil,λ_ hm=>(nomatch hm)⟩⟩,h2,h3,h4⟩
end Att
namespace L2
open PySem PySem.Spec PyProof.Rows
theorem za:∀ {vs:Zh} {ns:Zn},IntsAre vs ns->Vals (ns.map V.int) vs
 |_,_,.nil=>.nil
 |_,_,.cons n t h=>.cons ⟨t,rfl⟩ (za h)
def Qg(H:Hp):Prop:=∀b,H b=none\/∃o xs,H b=some (.frz o (.lst xs))
def Kp{K:Zj}{mg mb:Zg}{CX:MY}{k:Nat}{a:Addr}{fd:FuncData}{x:Str}{sp:Sp}{s₁:Shared}{vs:Zh} 
  (KX:K.In s₁.heap) (hns:s₁.heap.Ns mainGlobals mg) (hb:s₁.heap.Ns builtinsNs mb) (hbb:∀x:Str,x ≠ "__name__" -> mb x=bootBuiltins x) (hlim:s₁.heap.NoLimit) (hg:s₁.gens = #[])
  (ha:s₁.heap.get? a=some { cls:=.type "list",data:=.seq vs.toArray }) (hi:IntsAre vs ns) (hl:ns.length<=sizeLine) (hr:Zw k callerA)
  (F:∀base:Heap,K.In base->base.Ns mainGlobals mg->ZD P w K mg base CX k fa fd [x] sp) (hbind:∀(s:Shared) (u:Value),BindsTo s fd ⟨[u],[]⟩ [(x,u)])
  (hsp:∀H:Hp,Qg H->SqL K H a (ns.map V.int)->sp [.ref a] H (λv _=>v=.bl true) λ_ _ _=>False)
  (hCX:∀H e s',CX [] H s₁ (λ_ _ _=>False) e s'->False) :
  codeAny (model P w) callerA (.call (.ref fa) ⟨[.ref a],[]⟩) (λr s'=>r=.ok (.ret (.bool true))/\OldK s₁.heap s'.heap/\s'.os=s₁.os/\AllBare s'.gens) s₁:=by
 have rv:=za hi;have lenV:=hi.length
 -- from an abstract heap in which nothing but the script may be tracked
 have core:∀H:Hp,Qg H->SqL K H a (ns.map V.int)->HOk P w H s₁.heap->(∀b,H b≠none->b=a)->(H a≠none->K.lookup a=none) ->
   codeAny (model P w) callerA (.call (.ref fa) ⟨[.ref a],[]⟩) (λr s'=>r=.ok (.ret (.bool true))/\OldK s₁.heap s'.heap/\s'.os=s₁.os/\AllBare s'.gens) s₁:=by
  intro H hO hS hok hA hK;have base_of:∀ {b:Addr} {o:Obj},s₁.heap.get? b=some o->H b=none->(zK s₁.heap H).get? b=some o:=λe n=>J8 e n;have noA:∀ {b:Addr} {o:Obj} {es:Array DictEntry} {ep:Nat},s₁.heap.get? b=some o->o.data=.dict es ep->H b=none:=λ{b o es ep} e d=>by
   cases q:H b with
   |none=>rfl
   |some u=>have e':b=a:=hA b (by rw[q];simp);subst e';rw[ha] at e;cases e;have d':Data.seq vs.toArray _=Data.dict es ep:=d;cases d'
  have nsK:∀ {b:Addr} {m:Zg},s₁.heap.Ns b m->(zK s₁.heap H).Ns b m:=λ{b m} ⟨o,es,ep,e,d,r⟩=>⟨o,es,ep,base_of e (noA e d),d,r⟩
  have hKb:K.In (zK s₁.heap H):=λb o e=>base_of (KX b o e) (by
   cases q:H b with
   |none=>rfl
   |some u=>
    have e':b=a:=hA b (by rw[q];simp);subst e'
    rw[hK (by rw[q];simp)] at e;cases e)
  have hM:Mod K mg (zK s₁.heap H):=⟨hKb,nsK hns,⟨mb,nsK hb,hbb⟩,let ⟨mc,h1,h2⟩:=hlim;⟨mc,nsK h1,h2⟩⟩
  have e0:Env0 P w K mg (zK s₁.heap H) callerA [] s₁ H:=⟨rfl,hM,λb o e=>NY e,aad (Hb _ _),trivial,λb hb=>absurd (show b∈([]:Zk) from hb) (by simp),hok,.of_eq hg⟩
  refine abG ((F _ hKb (nsK hns)).run callerA [] s₁ H ⟨[.ref a],[]⟩ [.ref a] [.ref a] _ _ hr e0 (hbind s₁ (.ref a)) (.cons rfl .nil) (hsp H hO hS)) λr s' h=>?_;cases r with
  |error e=>exact (hCX H e s' h).elim
  |ok fl=>
   cases fl with
   |next=>exact False.elim h
   |brk=>exact False.elim h
   |cont=>exact False.elim h
   |ret u=>
    obtain⟨v,H',os,bare,un,hok',r',q⟩:=h;have q':v=.bl true:=q;subst q';obtain rfl:u=Value.bool true:=r';refine⟨rfl,OldK.of_keep λb o e=>?_,os,bare⟩;cases q:H b with
    |none=>exact un.keep b o e q (by intro z;exact absurd (show b∈([]:Zk) from z) (by simp)) (by simp)
    |some u=>
     rcases hO b with z|⟨ob,xs,z⟩
     ·rw[q] at z;cases z
     ·have z2:=un.frzs b ob _ z;obtain⟨e1,_⟩:=hok b _ z;obtain⟨e2,_⟩:=hok' b _ z2;rw[e] at e1;cases e1;exact e2
 cases hk:K.lookup a with
 |some o=>
  -- the script is one of the module's own objects
  have e:=KX a o hk;rw[ha] at e;cases e;refine core (λ_=>none) (λ_=>.inl rfl) (.inr ⟨_,vs.toArray,_,hk,rfl,rfl,rfl,by rw[YF,lenV];exact hl,~~~rv⟩) (λb u z=>by have z':(none:Option HO)=some u:=z;cases z') (λb z=>absurd rfl z) λz=>absurd rfl z
 |none=>
  refine core (λb=>if b=a then some (.frz { cls:=.type "list",data:=.seq vs.toArray } (.lst (ns.map V.int))) else none) (λb=>?_) (.inl (.inr ⟨{ cls:=.type "list",data:=.seq vs.toArray },Yb rfl⟩)) (λb u z=>?_) (λb z=>?_) λ_=>hk
  ·by_cases hb:b=a
   ·exact .inr ⟨_,_,Yb hb⟩
   ·exact .inl (X9 hb)
  ·by_cases hb:b=a
   ·have z':=(Yb hb).symm.trans z;cases z';subst hb;exact⟨ha,by rw[Ye];exact hl,vs,_,rv,ha⟩
   ·have z':=(X9 hb).symm.trans z;cases z'
  ·by_cases hb:b=a
   ·exact hb
   ·exact absurd (X9 hb) z
def OW{l:W.OpenLaw}{n k:Nat} {YP:World->Heap->Prop}{d:DefRec}{K:Params->Zj}{CX:World->MY}{sp:World->Sp}{x:Str}
  (hn:l.most=some n) (hn2:n<=sizeLine) (hdf:d.params.defaults=[]) (hr:Zw k callerA)
  (hY:∀(w:World) (h:Heap),YP w h->(K w.params).In h)
  (F:∀(w:World) (mg:Zg) (fa:Addr) (h:Heap),(K w.params).In h->h.Ns mainGlobals mg->mg d.name=some (.ref fa) ->
   ∃fd:FuncData,(∀(s:Shared) (u:Value),BindsTo s fd ⟨[u],[]⟩ [(x,u)]) /\
    ∀base:Heap,(K w.params).In base->base.Ns mainGlobals mg->ZD l.prog w (K w.params) mg base (CX w) k fa fd [x] (sp w))
  (hsp:∀(w:World) (H:Hp) (a:Addr) (ns:Zn),ns.length<=n->Qg H->SqL (K w.params) H a (ns.map V.int)->sp w [.ref a] H (λv _=>v=.bl true) λ_ _ _=>False)
  (hCX:∀(w:World) (H:Hp) (s:Shared) (e:Value) (s':Shared),CX w [] H s (λ_ _ _=>False) e s'->False) :
  W.WalkO q loose XP YP l.row.toRowW d [] (λf vs=>PySem.call f vs):=by
 refine Att.Bd hn hdf λw s₀ s₁ mg mb fa o pm cd doc a vs ns G Y ho hd hcd hmg hobj hints ZQ hg=>?_;have KX:=hY w _ Y;obtain⟨fd,hb,hF⟩:=F w mg fa _ KX G.T.g hmg;exact Kp KX G.T.g G.T.b G.T.builtins G.T.nolimit hg hobj hints (Yr ZQ hn2) hr hF hb (λH hO hS=>hsp w H a ns ZQ hO hS) λH e s'=>hCX w H s₁ e s'
def uf(s:Stmt)(j:Nat):Stmt:=match s with
 |.ClassDef _ _ _ body _ _ _ _ _ _ _=>body.getD j (.Pass ⟨0,0,0,0⟩)
 |_=>.Pass ⟨0,0,0,0⟩
def gz(s:Stmt):Arguments:=match s with
 |.FunctionDef _ a _ _ _ _ _ _ _ _=>a
 |_=>{ posonlyargs:=[],args:=[],vararg:=none,kwonlyargs:=[],kw_defaults:=[],kwarg:=none,defaults:=[] }
def cG(s:Stmt):List Stmt:=match s with
 |.FunctionDef _ _ b _ _ _ _ _ _ _=>b
 |_=>[]
def ap(s:Stmt):Scope:=match s with
 |.FunctionDef _ _ _ _ _ _ sc _ _ _=>sc
 |_=>{ kind:=.function,names:=[],isGenerator:=false,isCoroutine:=false }
abbrev sH:MY:=λ_ _ _ _ _ _=>False
abbrev E0:XK:=λ_ _ _=>False
def F9:l4 sH X E0:=λ_ _ _ _ _ _ _ h=>h.elim
structure Fun(K:Zj)(x qual:Str)(st:Stmt)(f:Addr)(fd:FuncData):Prop where
 ex:∃(oc:Value) (od:Option Addr) (kV doc pm:Value) (an:Option Addr) (cdv ct:Value) (osl:Array (Zi)),
  fd=W.fnOf x qual (gz st) (cG st) (ap st) .none kV doc pm an cdv ct/\K.lookup f=some ⟨oc,od,.func fd,osl⟩/\W.codeIn K cdv qual=true
 kp:W.keepIn K (.ref f)=true
section
variable {P:Program}{w:World}{K:Zj}{mg:Zg}{base:Heap}
def Fun.ok{x qual:Str}{st:Stmt}{f:Addr}{fd:FuncData}{N ps:Zl}{k:Nat}{sp:Sp}(F:Fun K x qual st f fd)(S:ZB N ps (ap st))(len:∀vs H Q E,sp vs H Q E->vs.length=ps.length)
  (hbody:∀(cdv:Value) (A:Around) (outer:List Env) (s:Shared) (H:Hp) (vs:Za) (Q:VK) (E:XK),Zw k (A.deeper (envOfC qual (ap st) s.heap.objs.size f cdv))->sp vs H Q E ->
   ∃t,PSs (uP sH P w K mg base N qual (ap st) f cdv A outer s H E).nox (cG st) t/\t { nx:=λ_ H'=>Q .non H',rt:=Q } (di N vs) H):ZD P w K mg base sH (k+1) f fd ps sp:=by
 obtain⟨oc,od,kV,doc,pm,an,cdv,ct,osl,rfl,lk,hcd⟩:=F.ex;refine Pa lk hcd S len λA outer s H vs Q E hr hsp=>?_;obtain⟨t,h,q⟩:=hbody cdv A outer s H vs Q E hr hsp;exact⟨t,h.nox,q⟩
def Fun.binds{qual:Str}{st:Stmt} {fd:FuncData}{ps:Zl}(F:Fun K x qual st f fd)
  (h:∀(kV doc pm:Value) (an:Option Addr) (cdv ct:Value) (us:Zh),us.length=ps.length->bindArgs (W.fnOf x qual (gz st) (cG st) (ap st) .none kV doc pm an cdv ct) ⟨us,[]⟩=pure (ps.zip us)):Binds K fd ps []:=by
 obtain⟨oc,od,kV,doc,pm,an,cdv,ct,osl,rfl,lk,hcd⟩:=F.ex;exact .all (h kV doc pm an cdv ct)
def D4{x qual:Str}{st:Stmt}{f:Addr}{oc:Value}{od an:Option Addr}{osl:Array (Zi)}{kV doc pm cdv ct:Value}(l:K.lookup f=some ⟨oc,od,.func (W.fnOf x qual (gz st) (cG st) (ap st) .none kV doc pm an cdv ct),osl⟩)
  (c:W.codeIn K cdv qual=true) (k:W.keepIn K (.ref f)=true):Fun K x qual st f (W.fnOf x qual (gz st) (cG st) (ap st) .none kV doc pm an cdv ct):=⟨⟨oc,od,kV,doc,pm,an,cdv,ct,osl,rfl,l,c⟩,k⟩
end
section
variable {X:Cx}
def pv(i:Nat){x:Str}{pos:Pos}(hN:X.N[i]?=some x:=by rfl)(hv:Uy X.env.scope x:=by first|exact Or.inl rfl|exact Or.inr (.inl rfl)|exact Or.inr (.inr rfl))(hd:(x==("__debug__" : Str))=false:=by decide)
  (hcd:(x==("__classdict__" : Str))=false:=by decide):PE X (.Name x pos) (jS i):=Q9 hN hv hd hcd
end
def BZ{A B:Prop}(h:B):if false=true then A else B:=by rw[X9 Y4];exact h
def B0{A B:Prop}(h:A):if true=true then A else B:=by rw[Yb rfl];exact h
def Same(H H':Hp):Prop:=∀b o,H b=some o->H' b=some o
def Same.refl(H:Hp):Same H H:=λ_ _ h=>h
def Same.trans{H1 H2:Hp}(a:Same H H1)(b:Same H1 H2):Same H H2:=λc o h=>b c o (a c o h)
def Same.free{H':Hp}(e:Same H H'){l:Addr}(h:H' l=Option.none):H l=Option.none:=by
 cases q:H l with
 |none=>rfl
 |some o=>rw[e l o q] at h;cases h
end L2
set_option linter.all false
set_option maxHeartbeats 4000000
set_option maxRecDepth 100000
namespace L2
open PySem PySem.Spec PyProof.Rows
structure Zq(XN:Zl)(sc scope:Scope)(N:Zl)(js:List (Option Nat)):Prop where
 kind:scope.kind=.function
 cell:∀y∈scope.names,y.2 ≠ .cell
 free:∀y∈scope.names,y.2=.free->sc.names.lookup y.1=some .cell\/sc.names.lookup y.1=some .free
 loc:∀y∈scope.names,y.2=.local->scope.names.lookup y.1=some .local
 len:js.length=N.length
 ix:((N.zip js).all λp=>match p.2 with|none=>true|some j=>decide (XN[j]?=some p.1)&&decide (scope.names.lookup p.1=some .free))=true
def mf(env:Env):List (Str×NameKind)->List (Str×Addr)->List (Str×Addr)
 |[],cs=>cs
 | (n,k)::r,cs=>mf env r (if k=.free then (match env.cells.lookup n with|some c=>(n,c)::cs|none=>cs) else cs)
theorem Bn{env:Env}:∀ {names:List (Str×NameKind)} {cs:List (Str×Addr)},(∀n c,cs.lookup n=some c->env.cells.lookup n=some c)->∀n c,(mf env names cs).lookup n=some c->env.cells.lookup n=some c
 |[],_,h=>h
 | (m,k)::r,cs,h=>by
  unfold mf;refine Bn ?_;split
  ·cases e:env.cells.lookup m with
   |none=>exact h
   |some d=>
    intro n c hn;dsimp only at hn;rw[aan] at hn;cases q:n==m with
    |true=>
     rw[q] at hn;have e1:n=m:=by simpa using q
     cases hn;rw[e1];exact e
    |false=>rw[q] at hn;exact h n c hn
  ·exact h
theorem Bl{env:Env}:∀ {names:List (Str×NameKind)} {cs:List (Str×Addr)} {n:Str},((n,NameKind.free)∈names/\(∃c,env.cells.lookup n=some c))\/(∃c,cs.lookup n=some c)->∃c,(mf env names cs).lookup n=some c
 |[],_,_,h=>h.elim (λz=>by cases z.1) id
 | (m,k)::r,cs,n,h=>by
  unfold mf;refine Bl ?_;rcases h with ⟨hm,c,hc⟩|⟨c,hc⟩
  ·rcases Yj.1 hm with e|hm
   ·cases e;right;rw[Yb rfl,hc];exact⟨c,by rw[aan];simp⟩
   ·exact .inl ⟨hm,c,hc⟩
  ·right;split
   ·cases e:env.cells.lookup m with
    |none=>exact⟨c,hc⟩
    |some d=>
     dsimp only;rw[aan];cases q:n==m with
     |true=>exact⟨d,rfl⟩
     |false=>exact⟨c,hc⟩
   ·exact⟨c,hc⟩
def uM{env:Env}{scope:Scope}(h:∀y∈scope.names,y.2=.free->∃c,env.cells.lookup y.1=some c):closureFor scope env=pure (mf env scope.names []):=by
 have key:∀(names:List (Str×NameKind)) (cs:List (Str×Addr)),(∀y∈names,y.2=.free->∃c,env.cells.lookup y.1=some c) ->
   (forIn names cs (λ(x:Str×NameKind) r=>if (x.2==NameKind.free)=true then (do let a ← cellOf env x.1;pure (ForInStep.yield ((x.1,a)::r))) else pure (ForInStep.yield r)):Sem (List (Str×Addr)))=pure (mf env names cs):=by
  intro names;induction names with
  |nil=>intro cs _;rfl
  |cons y r ih=>
   intro cs hy;obtain⟨n,k⟩:=y;rw[List.forIn_cons];unfold mf;by_cases hk:k=.free
   ·subst hk;obtain⟨c,hc⟩:=hy _ Yg rfl;have e1:cellOf env n=pure c:=by unfold cellOf;rw[hc]
    rw[Yb (by rfl)];rw[Yb rfl,hc];show ((cellOf env n >>= λa=>pure (ForInStep.yield ((n,a)::cs))) >>= _)=_;rw[e1];exact ih _ λz hz=>hy z (Yn _ hz)
   ·have hb:(k==NameKind.free)=false:=by simpa using hk
    rw[X9 (by rw[hb];decide),X9 hk];exact ih _ λz hz=>hy z (Yn _ hz)
 have k:=key scope.names [] h;unfold closureFor;show (forIn scope.names ([]:List (Str×Addr)) _ >>= λcs=>pure cs)=_;refine Eq.trans (Yt (λt=>t >>= λcs=>pure cs) (Eq.trans ?_ k)) rfl;congr 1
theorem wv{env:Env}:∀ {names:List (Str×NameKind)} {x:Str},names.lookup x=some .free ->
  (names.map λ(n,k)=>if (k==NameKind.free&&env.scope.kind == .function&&env.kindOf n==some .cell) then (n,NameKind.cell) else (n,k)).lookup x=some .cell \/
  (names.map λ(n,k)=>if (k==NameKind.free&&env.scope.kind == .function&&env.kindOf n==some .cell) then (n,NameKind.cell) else (n,k)).lookup x=some .free
 |[],_,h=>by simp at h
 | (n,k)::r,x,h=>by
  have ih:=@wv env r x;rw[Yo];dsimp only;cases q:x==n with
  |true=>
   rw[aan,q] at h;cases h;split
   ·left;rw[aan,q]
   ·right;rw[aan,q]
  |false=>
   rw[aan,q] at h;split
   ·rw[aan,q];exact ih h
   ·rw[aan,q];exact ih h
theorem pq{env:Env}:∀ {names:List (Str×NameKind)} {x:Str} {j:NameKind},(∀y∈names,y.2 ≠ .cell)->(j=.cell\/j=.free) ->
  (names.map λ(n,k)=>if (k==NameKind.free&&env.scope.kind == .function&&env.kindOf n==some .cell) then (n,NameKind.cell) else (n,k)).lookup x=some j->(x,NameKind.free)∈names
 |[],_,_,_,_,h=>by simp at h
 | (n,k)::r,x,j,hc,hj,h=>by
  have ih:=@pq env r x j (λy hy=>hc y (Yn _ hy)) hj;rw[Yo] at h;dsimp only at h;cases q:x==n with
  |true=>
   have e:x=n:=by simpa using q
   subst e;split at h
   ·rename_i g;have:k=.free:=by
     simp only[Y3,aag] at g;exact g.1.1
    subst this;exact Yg
   ·rw[aan,q] at h;cases h;rcases hj with z|z
    ·exact absurd z (hc _ Yg)
    ·rw[z];exact Yg
  |false=>
   refine Yn _ (ih ?_);split at h
   ·rw[aan,q] at h;exact h
   ·rw[aan,q] at h;exact h
def sV(js:List (Option Nat))(σ:St):St:=js.map λo=>match o with|none=>none|some j=>(σ[j]?).join
structure CxZ where
 cl:List (Str×Addr)
 C:Addr
 s:Shared
 H:Hp
 fp:Zk
 ZN:Zf
def mh(X:Cx)(N:Zl)(scope:Scope)(z:CxZ):Cx where
 prog:=X.prog
 w:=X.w
 K:=X.K
 mg:=X.mg
 base:=X.base
 A:=X.A
 N:=N
 s₀:=z.s
 H₀:=z.H
 env:=compEnvC scope z.cl z.C X.env
 outer:=X.stack
 stack:=X.stack
 ex:=z.fp
 fn:=λ_=>false
 calm:=X.calm
 pn:=X.pn++z.ZN
 xe:=λ_ _=>False
section
variable {X:Cx}{ZN:Zf}{σ:St}{H:Hp}{s:Shared}{XN N:Zl}{sc scope:Scope}{js:List (Option Nat)}
def Kf{h1:Heap}{m:Zg}{tk:Nat}{fp:Zk}(ck:Zq XN sc scope N js)(hXN:X.N=XN)(hsc:X.env.scope=sc)(I:Inv X ZN σ H s)(hf:∀b∈fp,ux X ZN H b)
  (hfo:∀b∈fp,b<s.heap.objs.size) (hn:h1.Ns s.heap.objs.size m) (hk:∀b o,s.heap.get? b=some o->h1.get? b=some o) :
  Inv (mh X N scope ⟨mf X.env scope.names [],s.heap.objs.size,s,H,fp,ZN⟩) [] (sV js σ) H { s with heap:=h1,toks:=tk }:=by
 subst hXN hsc;have sub:∀n c,(mf X.env scope.names []).lookup n=some c->X.env.cells.lookup n=some c:=Bn λn c h=>by simp at h
 have clt:∀n c,(mf X.env scope.names []).lookup n=some c->c<s.heap.objs.size:=λn c h=>by obtain⟨v,q⟩:=I.cell n c (sub n c h);exact q.lt
 have has:∀x,(x,NameKind.free)∈scope.names->∃c,(mf X.env scope.names []).lookup x=some c:=λx hx=>
  Bl (.inl ⟨hx,I.ok.has x (ck.free _ hx rfl)⟩)
 refine⟨⟨I.ok.mod,ck.kind,I.ok.glob,I.ok.blt,Yi _,λx y c h1 h2=>I.ok.inj x y c (sub x c h1) (sub y c h2),λx hx=>?has,λx c hx=>?cab,I.ok.hd,I.ok.frames,.inl rfl,λb hb=>?exf,I.bs,?bsz,λb o e hb=>?noex,λb hb=>?exfs,I.stack,I.stkFree⟩,
  rfl,I.bare,Un.kept hk,⟨m,hn,λi x v h1 h2 h3=>?loc⟩,λx c h=>?cell,I.hok.fresh (Yi _),λx c h=>I.freeC x c (sub x c h),λp hp=>?pin,I.hok.kept hk,?len⟩
 case has=>
  rcases hx with hx|hx
  ·exact has x (pq ck.cell (.inl rfl) hx)
  ·exact has x (pq ck.cell (.inr rfl) hx)
 case cab=>cases hx
 case exf=>
  obtain⟨f0,f1,f2,f3,f4,f5⟩:=hf b hb;exact⟨Yz (hfo b hb),λx c e=>f4 x c (sub x c e)⟩
 case bsz=>exact Yr I.ok.bsz I.sz
 case noex=>
  obtain⟨f0,f1,f2,f3,f4,f5⟩:=hf b hb;rcases f3 with f3|f3
  ·exact I.ok.noex b o e f3
  ·exact absurd (YT (Ys e) (Yr I.ok.bsz f3)) (aa1 _)
 case exfs=>
  obtain⟨f0,f1,f2,f3,f4,f5⟩:=hf b hb;intro z;rcases Yj.1 (I.stkSub b z) with e|e
  ·exact f1 e
  ·exact f2 e
 case loc=>
  have hl:N.length=js.length:=ck.len.symm;have hi:i<js.length:=by have:=(Yx.1 h1).1;have e:(mh X N scope ⟨mf X.env scope.names [],s.heap.objs.size,s,H,fp,ZN⟩).N=N:=rfl;rw[e] at this;lia
  have hN:N[i]?=some x:=h1;have hj:js[i]?=some js[i]:=YS hi;unfold sV at h2;rw[YG,hj] at h2;cases q:js[i] with
  |none=>rw[q] at h2;cases h2
  |some j=>
   rw[q] at h2 hj;have h2':(σ[j]?).join=some v:=YU h2;have hσ:σ[j]?=some (some v):=by
    cases e:σ[j]? with
    |none=>rw[e] at h2';cases h2'
    |some o=>rw[e] at h2';exact Yt some h2'
   have hm:(x,some j)∈N.zip js:=by refine aaP (i:=i) ?_;rw[List.getElem?_zip_eq_some];exact⟨hN,hj⟩
   have hc:=acA.1 ck.ix _ hm;simp only[Y3,YO] at hc;obtain⟨c1,c2⟩:=hc;have hfr:(x,NameKind.free)∈scope.names:=abI c2;have hvis:X.env.scope.names.lookup x=some .cell\/X.env.scope.names.lookup x=some .free:=ck.free _ hfr rfl;obtain⟨m0,hn0,hl0⟩:=I.loc;obtain⟨u,r,l⟩:=hl0 j x v c1 hσ (hvis.elim (λz=>.inr (.inl z)) λz=>.inr (.inr z));refine⟨u,r,.inr ⟨?_,?_⟩⟩
   ·exact wv c2
   ·rcases l with ⟨k1,_⟩|⟨_,c,k1,k2⟩
    ·have k1':X.env.scope.names.lookup x=some .local:=k1;rcases hvis with z|z
     ·rw[z] at k1';cases k1'
     ·rw[z] at k1';cases k1'
    ·obtain⟨c',hc'⟩:=has x hfr;have e:=sub x c' hc';rw[k1] at e;cases e;obtain⟨oc,ho,hd⟩:=k2;exact⟨c,hc',oc,hk _ _ ho,hd⟩
 case cell=>
  obtain⟨v,oc,ho,hd⟩:=I.cell x c (sub x c h);exact⟨v,oc,hk _ _ ho,hd⟩
 case pin=>
  have hp':p∈X.pn++ZN:=by simpa[mh] using hp
  obtain⟨p1,p2,p3,p4,p5⟩:=I.pin p hp';refine⟨hk _ _ p1,p2,Yz (Ys p1),λz=>?_,p5⟩;rcases Yj.1 (I.stkSub _ z) with e|e
  ·exact p3 e
  ·exact p4 e
 case len=>
  show (sV js σ).length=N.length;unfold sV;rw[Ye];exact ck.len
abbrev Qj:=St->Hp->(Bool->Hp->Prop)->Prop
def O3(X:Cx)(ifs:List Expr)(t:Qj):Prop:=
 ∀(ZN:Zf) (s:Shared) (σ:St) (H:Hp) (Q:Bool->Hp->Prop),Inv X ZN σ H s->t σ H Q ->
  wpAny (model X.prog X.w) X.A (forIn ifs true λc r=>if r=true then do let ok ← isTrue c X.env (eval c X.env);pure (ForInStep.yield ok) else pure (ForInStep.yield r)) (TP X ZN σ Q) X.xe s
def O9:Qj:=λ_ H Q=>Q true H
def qE:O3 X [] O9:=λ_ _ _ H _ I h=>wpAny_tests_nil ⟨H,I,h⟩
def uo(h:PT X c t):O3 X [c] t:=λZN s σ H Q I q=>wpAny_tests_one (h ZN s σ H Q I q)
def Lev(σ σ':St):Prop:=σ.length=σ'.length/\∀(i:Nat) (v:V),σ[i]?=some (some v)->σ'[i]?=some (some v)
def Lev.refl(σ:St):Lev σ σ:=⟨rfl,λ_ _ h=>h⟩
def Lev.trans(h:Lev a b)(k:Lev b c):Lev a c:=⟨h.1.trans k.1,λi v e=>k.2 i v (h.2 i v e)⟩
def zj(js:List (Option Nat))(g:TG):Prop:=∀(σ0:St) (v:V) (σ:St) (H:Hp) (Q:St->Hp->Prop),Lev (sV js σ0) σ->g v σ H Q->g v σ H λσ' H'=>Lev (sV js σ0) σ'/\Q σ' H'
def A6(js:List (Option Nat))(g:MZ):Prop:=∀(σ0:St) (vs:Za) (σ:St) (H:Hp) (Q:St->Hp->Prop),Lev (sV js σ0) σ->g vs σ H Q->g vs σ H λσ' H'=>Lev (sV js σ0) σ'/\Q σ' H'
def fY{i:Nat}(h:js[i]?=some none:=by rfl):zj js (jr i):=λσ0 v σ H Q l q=>by
 refine⟨⟨?_,λj u e=>?_⟩,q⟩
 ·rw[aaR];exact l.1
 ·by_cases hij:i=j
  ·subst hij;unfold sV at e;rw[YG,h] at e;cases e
  ·rw[aal hij];exact l.2 j u e
def qQ:A6 js Nv:=λσ0 vs σ H Q l q=>⟨q.1,l,q.2⟩
def eV(h:zj js t)(k:A6 js u)(mono:∀v σ H (Q Q':St->Hp->Prop),(∀a b,Q a b->Q' a b)->t v σ H Q->t v σ H Q'):A6 js (FM t u):=λσ0 vs σ H Q l q=>by obtain⟨v,r,e,q⟩:=q;exact⟨v,r,e,mono _ _ _ _ _ (λσ' H' z=>k σ0 r σ' H' Q z.1 z.2) (h σ0 v σ H _ l q)⟩
def cz{i:Nat}:∀v σ H (Q Q':St->Hp->Prop),(∀a b,Q a b->Q' a b)->jr i v σ H Q->jr i v σ H Q':=λ_ _ _ _ _ h q=>h _ _ q
def wV{K:Zj}{n:Nat}{t:MZ}(h:A6 js t):zj js (JW K n t):=λσ0 v σ H Q l q=>by obtain⟨a,xs,e,hq,hl,q⟩:=q;exact⟨a,xs,e,hq,hl,h σ0 xs σ H Q l q⟩
def y8(js:List (Option Nat))(wi:TI)(g:TG)(tt:Qj)(te:TE):TE:=λσ H Q=>wi σ H λJ H1=>∀D,H1 D=none->∃W:Nat->Nat->Hp->Prop,(∃m,W 0 m (bi H1 D (.lst [])))/\∀i m H,W i m H ->
 (J.stop i H/\Q (.ref D) H)\/(J.go i H/\∀x H',J.yld i H x H'->g x (sV js σ) H' λσ2 H2=>tt σ2 H2 λb H3=>
  if b=true then te σ2 H3 λy H4=>∃ys,H4 D=some (.lst ys)/\ys.length<sizeLine/\∃m',m'<m/\W (i+1) m' (bi H4 D (.lst (ys++[y]))) else ∃m',m'<m/\W (i+1) m' H3)
variable {tg iter elt:Expr}{ifs:List Expr}{pos:Pos}{wi:TI}{g:TG}{tt:Qj}{te:TE}
def G1{E:Ze}{R:Result->Shared->Prop}{it:Addr}{fp:Zk} {W:Nat->Nat->Hp->Prop}{n:Nat}
  (hc:X.calm=true) (T:Turn X.prog X.w X.K tg J fp it tn) (hz:∀b∈fp,∀H',H' b=none->ux (mh X N scope z) [] H' b)
  (hg:PG (mh X N scope z) tg g) (hs:zj js g) (ht:O3 (mh X N scope z) ifs tt) (he:PE (mh X N scope z) elt te)
  (turn:∀i m H,W i m H->(J.stop i H/\∀s',Inv (mh X N scope z) [] (sV js σ) H s'->R (.ok .next) s')\/(J.go i H/\∀x H',J.yld i H x H'->g x (sV js σ) H' λσ2 H2=>tt σ2 H2 λb H3=>
   if b=true then te σ2 H3 λy H4=>∃ys,H4 D=some (.lst ys)/\ys.length<sizeLine/\∃m',m'<m/\W (i+1) m' (bi H4 D (.lst (ys++[y]))) else ∃m',m'<m/\W (i+1) m' H3))
   {H1:Hp} (I1:Inv (mh X N scope z) [] (sV js σ) H1 s1) (t1:tn 0 s1.heap) (f1:∀b∈fp,H1 b=none) (w1:W 0 n H1) :
  codeAny (model X.prog X.w) X.A (.compLoop (.ListComp elt [⟨tg,iter,ifs,0⟩] scope pos) 0 (.ref it) (.ref D) (compEnvC scope z.cl z.C X.env)) R s1:=by
 refine codeAny_loop (c:=.compLoop (.ListComp elt [⟨tg,iter,ifs,0⟩] scope pos) 0 (.ref it) (.ref D) (compEnvC scope z.cl z.C X.env)) rfl
  (λk s'=>∃i H',Inv (mh X N scope z) [] (sV js σ) H' s'/\tn i s'.heap/\(∀b∈fp,H' b=none)/\W i k H') ?_ n ⟨0,H1,I1,t1,f1,w1⟩
 rintro k s2 ⟨i,H2,I2,t2,f2,w2⟩;show wpAny (model X.prog X.w) X.A ((compTurn (.ListComp elt [⟨tg,iter,ifs,0⟩] scope pos) 0 (.ref it) (.ref D) (compEnvC scope z.cl z.C X.env)).onRaise λx=>do noteFrame x (compEnvC scope z.cl z.C X.env);theTreesLotGoes x) _ _ s2;refine wpAny_noted ?_;rw[compTurn_list];refine X8 (acu ?_);rcases turn i k H2 w2 with ⟨stop,fin⟩|⟨go,step⟩
 ·refine X8 (bZ (T.done (mh X N scope z) rfl rfl rfl hc i [] s2 (sV js σ) H2 _ I2 (λb hb=>hz b hb H2 (f2 b hb)) t2 stop) λr s3 h3=>?_);obtain⟨rfl,I3⟩:=h3;exact Yc (fin s3 I3)
 ·refine X8 (bZ (T.item (mh X N scope z) rfl rfl rfl hc i [] s2 (sV js σ) H2 _ I2 (λb hb=>hz b hb H2 (f2 b hb)) t2 go) λr s3 h3=>?_);obtain⟨u,rfl,h3⟩:=h3;refine X8 (bZ h3 λ_ s4 h4=>?_);obtain⟨x,H4,I4,r4,y4,t4,f4⟩:=h4;have P4:=I4.pinned (λb hb=>hz b hb H4 (f4 b hb)) (T.obj _ _ t4);have ff:∀ {e:Value} {s':Shared},(mh X N scope z).xe e s'->False:=λh=>h;refine X8 (aay (hg _ s4 (sV js σ) H4 x u _ P4 r4 (hs σ x (sV js σ) H4 _ (Lev.refl _) (step x H4 y4))) (λ_ s5 h5=>?_) λ_ _ h=>(ff h).elim);obtain⟨σ5,H5,I5,lev,q5⟩:=h5;refine X8 (aay (ht _ s5 σ5 H5 _ I5 q5) (λok s6 h6=>?_) λ_ _ h=>(ff h).elim);obtain⟨H6,I6,q6⟩:=h6;have again:∀ {s7:Shared} {H7:Hp},Inv (mh X N scope z) ([]++sd fp s4.heap) σ5 H7 s7->(∃m',m'<k/\W (i+1) m' H7)->∃m,m<k/\∃i H',Inv (mh X N scope z) [] (sV js σ) H' s7/\tn i s7.heap/\(∀b∈fp,H' b=none)/\W i m H':=λ{s7 H7} I7 h7=>by
   obtain⟨m',hm,w7⟩:=h7;refine⟨m',hm,i+1,H7,(I7.unpinned).weak lev.1 lev.2,T.keep _ _ _ t4 λb hb o e=>(I7.pin (b,o) (Yu _ (Yu _ (iM hb e)))).1,λb hb=>?_,w7⟩;obtain⟨o,e,d⟩:=T.obj _ _ t4 b hb;exact (I7.pin (b,o) (Yu _ (Yu _ (iM hb e)))).2.1
  cases ok with
  |false=>
   rw[X9 (by decide)] at q6;exact Yc ⟨rfl,again I6 q6⟩
  |true=>rw[Yb rfl] at q6;refine X8 (X8 (aay (he _ s6 σ5 H6 _ I6 q6) (λy s7 h7=>?_) λ_ _ h=>(ff h).elim));obtain⟨vy,H7,I7,r7,ys,hD,hl,q7⟩:=h7;refine X8 (aay (gi (X:=mh X N scope z) _ s7 σ5 H7 (.ref D) [vy] (.ref D) [y] (λ_ H'=>∃m',m'<k/\W (i+1) m' H') I7 rfl (.cons r7 .nil) ⟨D,ys,vy,rfl,rfl,hD,hl,q7⟩) (λ_ s8 h8=>?_) λ_ _ h=>(ff h).elim);obtain⟨_,H8,I8,_,q8⟩:=h8;exact Yc (Yc ⟨rfl,again I8 q8⟩)
def uO{RR:Value->Addr->Result->Shared->Prop}{Q:VK} (ck:Zq XN sc scope N js)(hXN:X.N=XN)(hsc:X.env.scope=sc)(hc:X.calm=true)
  (hg:∀z,PG (mh X N scope z) tg g) (hs:zj js g) (ht:∀z,O3 (mh X N scope z) ifs tt) (he:∀z,PE (mh X N scope z) elt te)
  (h2:SH X ZN σ tg (λJ H1=>∀D,H1 D=none->∃W:Nat->Nat->Hp->Prop,(∃m,W 0 m (bi H1 D (.lst [])))/\∀i m H,W i m H ->
   (J.stop i H/\Q (.ref D) H)\/(J.go i H/\∀x H',J.yld i H x H'->g x (sV js σ) H' λσ2 H2=>tt σ2 H2 λb H3=>
    if b=true then te σ2 H3 λy H4=>∃ys,H4 D=some (.lst ys)/\ys.length<sizeLine/\∃m',m'<m/\W (i+1) m' (bi H4 D (.lst (ys++[y]))) else ∃m',m'<m/\W (i+1) m' H3)) itv s2)
  (hRR:∀D C s' H' m o,Inv X (ZN++[(C,o)]) σ H' s'->s'.heap.Ns C m->(X.s₀.heap.objs.size<=C/\C≠X.env.locals/\(∀x c,X.env.cells.lookup x=some c->c≠C)/\∀p∈X.pn++ZN,p.1≠C)->H' C=none->Q (.ref D) H'->RR (.ref D) C (.ok .next) s') :
  wpAny (model X.prog X.w) X.A (newList []) (λacc s₃=>wpAny (model X.prog X.w) X.A (newFunctionEnv scope X.env.globals (mf X.env scope.names []) [] X.env.qual none .none (some X.env)) (λcenv s₄=>
   codeAny (model X.prog X.w) X.A (.compStart (.ListComp elt [⟨tg,iter,ifs,0⟩] scope pos) 0 itv acc { cenv with scope:=relabel scope X.env }) (RR acc cenv.locals) s₄) E s₃) E s2:=by
 obtain⟨it,fp,tn,J,H2,rfl,I2,T,t2,f2,q2⟩:=h2;have fo:∀b∈fp,b<s2.heap.objs.size:=λb hb=>by obtain⟨o,e,_⟩:=T.obj _ _ t2 b hb;exact Ys e
 have hD:H2 s2.heap.objs.size=none:=I2.fresh;obtain⟨W,⟨n,w0⟩,turn⟩:=q2 _ hD;refine YZ (wpAny_newFunctionEnv ck.cell (by intro y hy;simp at hy) (λh1 hns hsb=>?_) ck.kind);have I3:Inv X ZN σ (bi H2 s2.heap.objs.size (.lst [])) { s2 with heap:=s2.heap.push ∅,toks:=s2.toks }:=I2.lnew (its:=[]) .nil (YR _);have f3:∀b∈fp,ux X ZN (bi H2 s2.heap.objs.size (.lst [])) b:=λb hb=>by obtain⟨g0,g1⟩:=f2 b hb;exact⟨by rw[aw (Yz (fo b hb))];exact g0,g1⟩
 have sz:(s2.heap.push ∅).objs.size=s2.heap.objs.size+1:=aaO _ _;have kept:∀b o,(s2.heap.push ∅).get? b=some o->h1.get? b=some o:=λb o e=>
  hsb.extBut b o (Yz (Ys e)) (Yq _ e)
 have I4:=Kf (tk:=s2.toks+([]:List (Str×Value)).length) ck hXN hsc I3 f3 (λb hb=>by show b<(s2.heap.push _).objs.size;rw[sz];exact abr (fo b hb)) hns kept;have t4:tn 0 h1:=T.keep _ _ _ t2 λb hb o e=>kept b o (Yq _ e);have fz:∀b∈fp,∀H',H' b=none->ux (mh X N scope ⟨mf X.env scope.names [],(s2.heap.push ∅).objs.size,{ s2 with heap:=s2.heap.push ∅,toks:=s2.toks },bi H2 s2.heap.objs.size (.lst []),fp,ZN⟩) [] H' b:=λb hb H' hn=>by obtain⟨g0,g1,g2,g3,g4,g5⟩:=f3 b hb;refine⟨hn,(I4.ok.exf b hb).1,I4.ok.exfs b hb,.inl hb,(I4.ok.exf b hb).2,λp hp=>?_⟩;exact g5 p (by simpa[mh] using hp)
 have loop:=G1 (X:=X) (σ:=σ) (N:=N) (scope:=scope) (js:=js) (iter:=iter) (pos:=pos) (E:=E) (R:=RR (.ref s2.heap.objs.size) (s2.heap.push ∅).objs.size) (D:=s2.heap.objs.size) (W:=W) (n:=n)
  hc T fz (hg _) hs (ht _) (he _) (λi m H w=>(turn i m H w).imp (λa=>⟨a.1,λs' Y=>?_⟩) id) I4 t4 (λb hb=>(f3 b hb).1) w0
 ·exact codeAny_compStart_list loop (T.self _ 0 _ _ _ t4 loop)
 ·have bb:=Y.base;have J0:Inv X ZN σ H s':=I3.call' Y.os bb Y.hok Y.bare λb hb=>by
   obtain⟨g0,g1,g2,g3,g4,g5⟩:=f3 b hb;exact⟨g3,g1,g4,g5⟩
  obtain⟨mC,nC,_⟩:=Y.loc;obtain⟨oC,eC,dC⟩:∃o,s'.heap.get? (s2.heap.push ∅).objs.size=some o/\∀v,o.data ≠ .cell v:=by obtain⟨o,es,ep,ho,hd,_⟩:=nC;exact⟨o,ho,λv z=>by rw[hd] at z;cases z⟩
  have lC:X.s₀.heap.objs.size<=(s2.heap.push ∅).objs.size:=I3.sz;have cC:(s2.heap.push ∅).objs.size≠X.env.locals:=abF I3.lt;have kC:∀x c,X.env.cells.lookup x=some c->c≠(s2.heap.push ∅).objs.size:=λx c e=>by obtain⟨v,q⟩:=I3.cell x c e;exact Yz q.lt
  have pC:∀p∈X.pn++ZN,p.1≠(s2.heap.push ∅).objs.size:=λp hp=>Yz (Ys (I3.pin p hp).1);have J1:Inv X (ZN++[((s2.heap.push ∅).objs.size,oC)]) σ H s':=J0.pins_of λp hp=>by
   rcases Yv.1 hp with hp|hp
   ·exact J0.pin p (Yu _ hp)
   ·rw[Yp.1 hp];exact⟨eC,Y.free,cC,I3.nofs (Yi _),dC⟩
  exact hRR _ _ s' H mC oC J1 nC ⟨lC,cC,kC,pC⟩ Y.free a.2
def nH(ck:Zq XN sc scope N js)(hi:PI X tg iter wi)(hg:∀z,PG (mh X N scope z) tg g)(hs:zj js g)(ht:∀z,O3 (mh X N scope z) ifs tt)(he:∀z,PE (mh X N scope z) elt te)
  (hXN:X.N=XN:=by rfl) (hsc:X.env.scope=sc:=by rfl) (hc:X.calm=true:=by rfl) (hf:∀x,foldedSetIterable iter X.env x=pure x:=by intro _;rfl) :
  PE X (.ListComp elt [⟨tg,iter,ifs,0⟩] scope pos) (y8 js wi g tt te):=by
 intro ZN s σ H Q I h;rw[eval_ListComp];have hcl:closureFor scope X.env=pure (mf X.env scope.names []):=uM λy hy hk=>I.ok.has y.1 (by
  have:=ck.free y hy hk;rw[<-hsc] at this
  exact this)
 refine aej (use:=none) rfl hf hcl ck.kind ck.loc (bZ (hi ZN s σ H _ I h) λv s1 h1=>bZ h1 λitv s2 h2=>?_);refine uO (RR:=λacc C=>compPost (model X.prog X.w) X.A X.xe none (EP X ZN σ Q) acc C) ck hXN hsc hc hg hs ht he h2 ?_;intro D C s' H' m o J nC hC fC q;refine⟨m,nC,λh' sb=>⟨.ref D,H',?_,rfl,q⟩⟩;have J0:Inv X ZN σ H' s':=J.unpinned;exact J0.turned (t':=s'.toks) (it:=C) (λb o hb e=>sb.extBut b o hb e) fC hC.2.1 (.inr hC.1) hC.2.2.1 hC.2.2.2
def Ol{i:Nat}{y:Str}{pos' spos:Pos}(ck:Zq XN sc scope N js)(hN:X.N.Nodup)(hi0:X.N[i]?=some y)(hx:M4 X.env.scope y)(hi:PI X tg iter wi)(hg:∀z,PG (mh X N scope z) tg g)(hs:zj js g)(ht:∀z,O3 (mh X N scope z) ifs tt)(he:∀z,PE (mh X N scope z) elt te)
  (hsw:swapsWith (.ListComp elt [⟨tg,iter,ifs,0⟩] scope pos) (some (.Name y pos')) spos.line X.env=pure true:=by rfl)
  (hXN:X.N=XN:=by rfl) (hsc:X.env.scope=sc:=by rfl) (hc:X.calm=true:=by rfl) (hf:∀x,foldedSetIterable iter X.env x=pure x:=by intro _;rfl)
  (hfn:X.fn y=true\/X.env.scope.names.lookup y=some .local:=by first|exact .inl rfl|exact .inr rfl|assumption) :
  PS X (.Assign [.Name y pos'] (.ListComp elt [⟨tg,iter,ifs,0⟩] scope pos) spos) (AN (y8 js wi g tt te) (jr i)):=by
 intro ZN s σ H D I h;rw[exec_Assign_Name_used _ _ _ _ hsw];have hcl:closureFor scope X.env=pure (mf X.env scope.names []):=uM λy hy hk=>I.ok.has y.1 (by
  have:=ck.free y hy hk;rw[<-hsc] at this
  exact this)
 refine X8 (acu (X8 ?_));show wpAny (model X.prog X.w) X.A (comprehension (.ListComp elt [⟨tg,iter,ifs,0⟩] scope pos) scope X.env _ (newList []) false (eval iter X.env) (some (assign (.Name y pos') X.env)) >>= λ_=>pure Unit.unit) _ _ s;refine X8 (bZ (aej (use:=some (assign (.Name y pos') X.env)) (Q:=λ_ s'=>SP X ZN D .next s') rfl hf hcl ck.kind ck.loc (bZ (hi ZN s σ H _ I h) λv s1 h1=>bZ h1 λitv s2 h2=>?_)) λ_ s' q=>Yc (Yc q));refine uO (RR:=λacc C=>compPost (model X.prog X.w) X.A X.xe (some (assign (.Name y pos') X.env)) (λ_ s'=>SP X ZN D .next s') acc C) (Q:=λx H1=>jr i x σ H1 D.nx) ck hXN hsc hc hg hs ht he h2 ?_;intro A C s' H' m o J nC hC fC q;refine bZ (um hN hi0 hx hfn _ s' σ H' (.ref A) (.ref A) _ J rfl q) λ_ s3 h3=>?_;obtain⟨σ3,H3,J3,q3⟩:=h3;have pc:=J3.pin (C,o) (Yu _ (Yu _ Yg));have oC:s'.heap.get? C=some o:=(J.pin (C,o) (Yu _ (Yu _ Yg))).1;refine⟨m,nC.at' λo' e=>?_,λh' sb=>⟨σ3,H3,?_,q3⟩⟩
 ·rw[oC] at e;cases e;exact pc.1
 ·have J0:Inv X ZN σ3 H3 s3:=J3.unpinned;exact J0.turned (t':=s3.toks) (it:=C) (λb o hb e=>sb.extBut b o hb e) pc.2.1 hC.2.1 (.inr hC.1) hC.2.2.1 hC.2.2.2
end
end L2
namespace Srt
open PySem PySem.W PyProof.Rows
section
variable {lt:Nat->Nat->Bool}{le:Nat->Nat->Prop}{n:Nat}{p:Array Nat}
abbrev at'(p:Array Nat)(i:Nat):Nat:=p.getD i 0
def A9{p q:Array Nat}{i j:Nat}(h:p[i]?=q[j]?):at' p i=at' q j:=by
 have e:∀(r:Array Nat) (k:Nat),at' r k=(r[k]?).getD 0:=λr k=>by simp[at']
 rw[e,e,h]
def Sg(le:Nat->Nat->Prop)(p:Array Nat)(m:Nat):Prop:=∀i j,i<=j->j<m->le (at' p i) (at' p j)
def Xe(n:Nat)(p:Array Nat):Prop:=∀k,at' p k<n
structure Ord(lt:Nat->Nat->Bool)(le:Nat->Nat->Prop):Prop where
 tr:∀a b c,le a b->le b c->le a c
 rf:∀a,le a a
 yes:∀a b,lt a b=true->le a b
 no:∀a b,lt a b=false->le b a
def Qw(hn:0<n)(hp:p.Perm (List.range n).toArray):Xe n p:=λk=>by
 have e:at' p k=(p[k]?).getD 0:=by simp[at']
 rw[e];cases h:p[k]? with
 |none=>exact hn
 |some v=>have hm:v∈p:=Array.mem_of_getElem? h;have:=(abK.1 hp).mem_iff.mp (ad8.2 hm);simpa using this
def dt{i j:Nat}(hj:j<=p.size)(k:Nat):at' (kas_rev p i j) k=if i<=k/\k<j then at' p (i+j-1-k) else at' p k:=by
 have e:=getElem?_mirror_all (i:=i) hj k;by_cases h:i<=k/\k<j
 ·rw[Yb h] at e ⊢;exact A9 e
 ·rw[X9 h] at e ⊢;exact A9 e
variable {z:Nat}
def rh{src d:Nat}(hs:src<p.size)(hd:d<=src)(k:Nat):at' (bubble p src d) k=if k=src-d then at' p src else if src-d<k/\k<=src then at' p (k-1) else at' p k:=by
 have e:=getElem?_bubble hs d hd k;by_cases h1:k=src-d
 ·rw[Yb h1] at e ⊢;exact A9 e
 ·rw[X9 h1] at e ⊢;by_cases h2:src-d<k/\k<=src
  ·rw[Yb h2] at e ⊢;exact A9 e
  ·rw[X9 h2] at e ⊢;exact A9 e
end
def Ah{α:Type}{le:Nat->Nat->Prop}{p:Array Nat}{vs:List α}{d:α}(hp:p.Perm (List.range vs.length).toArray)(ha:Sg le p vs.length) :
  (p.toList.map λi=>vs.getD i d).Perm vs/\∀R:α->α->Prop,(∀i j,i<vs.length->j<vs.length->le i j->R (vs.getD i d) (vs.getD j d))->(p.toList.map λi=>vs.getD i d).Pairwise R:=by
 have hl:p.toList.Perm (List.range vs.length):=by simpa using abK.1 hp
 constructor
 ·have h1:(p.toList.map λi=>vs.getD i d).Perm ((List.range vs.length).map λi=>vs.getD i d):=hl.map _;have h2:((List.range vs.length).map λi=>vs.getD i d)=vs:=by
   apply List.ext_getElem
   ·simp
   ·intro i h1 h2;simp at h1;simp[h1]
  rw[h2] at h1;exact h1
 ·intro R hR;rw[aaa,aaJ];intro i j hi hj hij;have hs:p.toList.length=vs.length:=by rw[hl.length_eq];simp
  have m:∀k (hk:k<p.toList.length),p.toList[k]<vs.length:=λk hk=>by simpa using hl.mem_iff.1 (YV hk)
  have a:∀k (hk:k<p.toList.length),at' p k=p.toList[k]:=λk hk=>by
   have:k<p.size:=by simpa using hk
   simp[at',Array.getD,this]
  refine hR _ _ (m i hi) (m j hj) ?_;rw[<-a i hi,<-a j hj];exact ha i j (Y0 hij) ()
def Nw:Bool->Keyed->Array Keyed->Nat->Nat->Nat->StateT SortSt Sem (Option Nat):=sortPriv% PySem.Builtin.gallop
def Kz:Array Keyed->Array Keyed->StateT SortSt Sem (Array Keyed):=sortPriv% PySem.Builtin.mergeLo
def Ky:Array Keyed->Array Keyed->StateT SortSt Sem (Array Keyed):=sortPriv% PySem.Builtin.mergeHi
section
variable {prog:Program}{w:World}{A:Around}{E:Ze}{s:Shared}{κ:SortKind}{it:Array Keyed}{n:Nat}{lt:Nat->Nat->Bool}{le:Nat->Nat->Prop}
def xh(prog:Program)(w:World)(A:Around)(s:Shared)(κ:SortKind)(it:Array Keyed)(n:Nat)(lt:Nat->Nat->Bool):Prop:=
 ∀i j (C:Bool->Shared->Prop),i<n->j<n->C (lt i j) s->kas_cmp prog w A κ it i j C s
def w_lt(hc:xh prog w A s κ it n lt){i j:Nat}{Q:Option Bool->SortSt->Prop}{st:SortSt}(hk:kindOf st=κ)(hi:i<n)(hj:j<n)(h:Q (some (lt i j)) st):wpS (model prog w) A E s (lt' (kas_item it i) (kas_item it j)) Q st:=by rw[lt'_eq];refine Yd (aaB ?_);rw[hk];refine Yd (abt (aa7 (aay (hc i j (λc s'=>s'=s/\c=lt i j) hi hj ⟨rfl,rfl⟩) (λc s' h'=>?_) λ_ _ hF=>hF.elim)));obtain⟨rfl,rfl⟩:=h';exact⟨rfl,Yh h⟩
def bU{X:Array Nat}{k:Nat}{Q:Keyed->SortSt->Prop}{st:SortSt}(hk:k<X.size)(h:Q (kas_item it (at' X k)) st):wpS (model prog w) A E s (elem' (X.map (kas_item it)) k) Q st:=by
 rw[elem'_eq];have e:at' X k=X[k]:=by simp[at',hk]
 rw[e] at h;have e2:(X.map (kas_item it))[k]?=some (kas_item it X[k]):=by simp[hk]
 rw[e2];exact Yh h
def kr(o:Ord lt le)(hc:xh prog w A s κ it n lt){left:Bool}{key:Nat}{X:Array Nat}{base m hint:Nat}{Q:Option Nat->SortSt->Prop}{st:SortSt}(hk:kindOf st=κ)(hb:∀i,i<X.size->at' X i<n)(hkey:key<n)
  (hz:base+m<=X.size) (hh:hint<m) (hs:∀i j,i<=j->j<m->le (at' X (base+i)) (at' X (base+j)))
  (h:∀k,k<=m->(∀i,i<k->le (at' X (base+i)) key)->(∀i,k<=i->i<m->le key (at' X (base+i)))->Q (some k) st) :
  wpS (model prog w) A E s (Nw left (kas_item it key) (X.map (kas_item it)) base m hint) Q st:=by
 have bey:∀i,i<m->∀(R:Option Bool->SortSt->Prop),(∀c,(c=true->le (at' X (base+i)) key)->(c=false->le key (at' X (base+i)))->R (some c) st)->wpS (model prog w) A E s (do
   let x ← elem' (X.map (kas_item it)) (base+i)
   if left=true then lt' x (kas_item it key) else do
    let r ← lt' (kas_item it key) x
    pure (Option.map (λx=>!x) r)) R st:=λi hi R hR=>by
  refine Yd (bU () ?_);have hx:=hb (base+i) ();cases left with
  |true=>
   rw[Yb rfl];exact w_lt hc hk hx hkey (hR _ (o.yes _ _) (o.no _ _))
  |false=>rw[X9 (by decide)];refine Yd (w_lt hc hk hkey hx (Yh ?_));refine hR _ (λe=>o.no _ _ (~~~e)) (λe=>o.yes _ _ (~~~e))
 have lo':∀k,k<m->le (at' X (base+k)) key->∀i,i<=k->le (at' X (base+i)) key:=λk hk hl i hi=>o.tr _ _ _ (hs i k hi hk) hl;have hi':∀k,k<m->le key (at' X (base+k))->∀i,k<=i->i<m->le key (at' X (base+i)):=λk hk hl i hi him=>o.tr _ _ _ hl (hs k i hi him);refine Yd (bey hint hh _ λc c1 c2=>?_);dsimp only;cases c with
 |true=>
  rw[Yb rfl]
  refine Yd (aai (aaj (I:=λx c st'=>st'=st/\∃l f,c=(none,l,f)/\x+1<=f/\hint+l<m/\le (at' X (base+(hint+l))) key)
   (Q:=λc st'=>st'=st/\∃l f,c=(none,l,f)/\hint+l<m/\le (at' X (base+(hint+l))) key/\(f<m-hint->le key (at' X (base+(hint+f))))) ?s1 ?f1 ?i1) ?p1)
  case i1=>exact⟨rfl,0,1,rfl,(),(),c1 rfl⟩
  case f1=>
   rintro c st' ⟨rfl,l,f,rfl,h1,h2,h3⟩;exact⟨rfl,l,f,rfl,h2,h3,λ_=>()⟩
  case s1=>
   rintro x c st' _ hx ⟨rfl,l,f,rfl,h1,h2,h3⟩;dsimp only;by_cases hge:f ≥ m-hint
   ·rw[Yb hge];exact Yh ⟨rfl,l,f,rfl,h2,h3,λ_=>()⟩
   ·rw[X9 hge];refine Yd (bey (hint+f) () _ λc d1 d2=>?_);dsimp only;cases c with
    |true=>exact Yh ⟨rfl,f,2*f+1,rfl,(),(),d1 rfl⟩
    |false=>exact Yh ⟨rfl,l,f,rfl,h2,h3,λ_=>d2 rfl⟩
  case p1=>
   rintro c st' ⟨rfl,l,f,rfl,h2,h3,h4⟩;dsimp only;have g1:∀i,i<hint+l+1->i<m->le (at' X (base+i)) key:=λi hi _=>lo' _ h2 h3 i ();have g2:∀i,hint+min f (m-hint)<=i->i<m->le key (at' X (base+i)):=λi hi him=>hi' (hint+f) () (h4 ()) i () him;have g3:hint+min f (m-hint)<=m:=()
   generalize hint+l+1=L at g1 ⊢;generalize hint+min f (m-hint)=H at g2 g3 ⊢
   refine Yd (aai (aaj (I:=λx c st2=>st2=st'/\∃l h,c=(none,l,h)/\h<=m/\h+x<=m+l/\(∀i,i<l->i<m->le (at' X (base+i)) key)/\(∀i,h<=i->i<m->le key (at' X (base+i))))
    (Q:=λc st2=>st2=st'/\∃l h,c=(none,l,h)/\h<=m/\h<=l/\(∀i,i<l->i<m->le (at' X (base+i)) key)/\(∀i,h<=i->i<m->le key (at' X (base+i)))) ?s2 ?f2 ?i2) ?p2)
   case i2=>exact⟨rfl,L,H,rfl,g3,(),g1,g2⟩
   case f2=>
    rintro c st2 ⟨rfl,l,h,rfl,k1,k2,k3,k4⟩;exact⟨rfl,l,h,rfl,k1,(),k3,k4⟩
   case s2=>
    rintro x c st2 _ hx ⟨rfl,l,h,rfl,k1,k2,k3,k4⟩;dsimp only;by_cases hge:l ≥ h
    ·rw[Yb hge];exact Yh ⟨rfl,l,h,rfl,k1,hge,k3,k4⟩
    ·rw[X9 hge];refine Yd (bey (l+(h-l)/2) () _ λc d1 d2=>?_);dsimp only;cases c with
     |true=>exact Yh ⟨rfl,_,_,rfl,k1,(),λi hi him=>lo' _ () (d1 rfl) i (),k4⟩
     |false=>exact Yh ⟨rfl,_,_,rfl,(),(),k3,λi hi him=>hi' _ () (d2 rfl) i hi him⟩
   case p2=>
    rintro c st2 ⟨rfl,l,h',rfl,k1,k2,k3,k4⟩;exact Yh (h h' k1 (λi hi=>k3 i () ()) k4)
 |false=>
  rw[X9 (by decide)]
  refine Yd (aai (aaj (I:=λx c st'=>st'=st/\∃l f,c=(none,l,f)/\x+1<=f/\l<=hint/\le key (at' X (base+(hint-l))))
   (Q:=λc st'=>st'=st/\∃l f,c=(none,l,f)/\l<=hint/\le key (at' X (base+(hint-l)))/\(f<hint+1->le (at' X (base+(hint-f))) key)) ?s1 ?f1 ?i1) ?p1)
  case i1=>exact⟨rfl,0,1,rfl,(),(),c2 rfl⟩
  case f1=>
   rintro c st' ⟨rfl,l,f,rfl,h1,h2,h3⟩;exact⟨rfl,l,f,rfl,h2,h3,λ_=>()⟩
  case s1=>
   rintro x c st' _ hx ⟨rfl,l,f,rfl,h1,h2,h3⟩;dsimp only;by_cases hge:f ≥ hint+1
   ·rw[Yb hge];exact Yh ⟨rfl,l,f,rfl,h2,h3,λ_=>()⟩
   ·rw[X9 hge];refine Yd (bey (hint-f) () _ λc d1 d2=>?_);dsimp only;cases c with
    |true=>exact Yh ⟨rfl,l,f,rfl,h2,h3,λ_=>d1 rfl⟩
    |false=>exact Yh ⟨rfl,f,2*f+1,rfl,(),(),d2 rfl⟩
  case p1=>
   rintro c st' ⟨rfl,l,f,rfl,h2,h3,h4⟩;dsimp only;have g1:∀i,i<hint+1-min f (hint+1)->i<m->le (at' X (base+i)) key:=λi hi _=>lo' (hint-f) () (h4 ()) i ();have g2:∀i,hint-l<=i->i<m->le key (at' X (base+i)):=λi hi him=>hi' (hint-l) () h3 i () him;have g3:hint-l<=m:=()
   generalize hint+1-min f (hint+1)=L at g1 ⊢;generalize hint-l=H at g2 g3 ⊢
   refine Yd (aai (aaj (I:=λx c st2=>st2=st'/\∃l h,c=(none,l,h)/\h<=m/\h+x<=m+l/\(∀i,i<l->i<m->le (at' X (base+i)) key)/\(∀i,h<=i->i<m->le key (at' X (base+i))))
    (Q:=λc st2=>st2=st'/\∃l h,c=(none,l,h)/\h<=m/\h<=l/\(∀i,i<l->i<m->le (at' X (base+i)) key)/\(∀i,h<=i->i<m->le key (at' X (base+i)))) ?s2 ?f2 ?i2) ?p2)
   case i2=>exact⟨rfl,L,H,rfl,g3,(),g1,g2⟩
   case f2=>
    rintro c st2 ⟨rfl,l,h,rfl,k1,k2,k3,k4⟩;exact⟨rfl,l,h,rfl,k1,(),k3,k4⟩
   case s2=>
    rintro x c st2 _ hx ⟨rfl,l,h,rfl,k1,k2,k3,k4⟩;dsimp only;by_cases hge:l ≥ h
    ·rw[Yb hge];exact Yh ⟨rfl,l,h,rfl,k1,hge,k3,k4⟩
    ·rw[X9 hge];refine Yd (bey (l+(h-l)/2) () _ λc d1 d2=>?_);dsimp only;cases c with
     |true=>exact Yh ⟨rfl,_,_,rfl,k1,(),λi hi him=>lo' _ () (d1 rfl) i (),k4⟩
     |false=>exact Yh ⟨rfl,_,_,rfl,(),(),k3,λi hi him=>hi' _ () (d2 rfl) i hi him⟩
   case p2=>
    rintro c st2 ⟨rfl,l,h',rfl,k1,k2,k3,k4⟩;exact Yh (h h' k1 (λi hi=>k3 i () ()) k4)
end
section
variable {le:Nat->Nat->Prop}{tot out ra rb xs:List Nat}
def Inv(le:Nat->Nat->Prop)(tot out ra rb:List Nat):Prop:=(out++ra).Pairwise le/\(out++rb).Pairwise le/\(out++(ra++rb)).Perm tot
def Inv.symm(h:Inv le tot out ra rb):Inv le tot out rb ra:=⟨h.2.1,h.1,(adl _ aek).trans h.2.2⟩
def Inv.block(h:Inv le tot out (xs++ra) rb)(k:∀x∈xs,∀y∈rb,le x y):Inv le tot (out++xs) ra rb:=by
 obtain⟨h1,h2,h3⟩:=h;refine⟨by rw[YL];exact h1,?_,by rw[YL,<-YL xs];exact h3⟩;rw[YW] at h1 h2;rw[YL,YW];obtain⟨a1,a2,a3⟩:=h1;obtain⟨b1,b2,b3⟩:=h2;rw[YW] at a2;refine⟨a1,YW.2 ⟨a2.1,b2,k⟩,λx hx y hy=>?_⟩;rcases Yv.1 hy with hy|hy
 ·exact a3 x hx y (YD _ hy)
 ·exact b3 x hx y hy
def Inv.doneA(h:Inv le tot out ra []):(out++ra).Pairwise le/\(out++ra).Perm tot:=⟨h.1,by have:=h.2.2;rwa[YK] at this⟩
def Inv.lastA{x:Nat}(h:Inv le tot out [x] rb)(k:∀y∈rb,le y x):(out++(rb++[x])).Pairwise le/\(out++(rb++[x])).Perm tot:=by
 refine⟨?_,(adl _ aek).trans h.2.2⟩;obtain⟨h1,h2,_⟩:=h;rw[YW] at h1 h2;rw[YW];refine⟨h1.1,YW.2 ⟨h2.2.1,ab7 _ _,λy hy z hz=>?_⟩,λa ha b hb=>?_⟩
 ·rw[Yp] at hz;subst hz;exact k y hy
 ·rcases Yv.1 hb with hb|hb
  ·exact h2.2.2 a ha b hb
  ·exact h1.2.2 a ha b hb
end
section
variable {X Y O:Array Nat}{le:Nat->Nat->Prop}{tot:List Nat}
def Qs{i:Nat}(h:i<X.size):at' X i=X[i]:=by simp[at',h]
def kR{i:Nat}(h:i<X.size):X.toList[i]'(~~~h)=at' X i:=by rw[Qs h];simp
def zB{i:Nat}(h:i<X.size):X.toList.drop i=at' X i::X.toList.drop (i+1):=#v[abL (~~~h),kR h]
def pY{i j:Nat}(h:i<=j):X.toList.drop i=(X.extract i j).toList++X.toList.drop j:=by
 rw[ab8,ab9];have e:X.toList.drop j=(X.toList.drop i).drop (j-i):=by rw[List.drop_drop];congr 1;lia
 rw[e,acB]
def vG{i x:Nat}(h:x∈X.toList.drop i):∃j,i<=j/\j<X.size/\at' X j=x:=by
 obtain⟨k,hk⟩:=aaC h;rw[aca] at hk;obtain⟨h1,h2⟩:=Yx.1 hk;have h1':i+k<X.size:=by simpa using h1
 exact⟨i+k,(),h1',by rw[<-kR h1'];exact h2⟩
def uj{i j x:Nat}(h:x∈(X.extract i j).toList):∃k,i<=k/\k<j/\k<X.size/\at' X k=x:=by
 obtain⟨k,hk⟩:=aaC h;rw[ab8,ab9,acD] at hk;split at hk
 ·rw[aca] at hk;obtain⟨h1,h2⟩:=Yx.1 hk;have h1':i+k<X.size:=by simpa using h1
  exact⟨i+k,(),(),h1',by rw[<-kR h1'];exact h2⟩
 ·cases hk
abbrev J(le:Nat->Nat->Prop)(tot:List Nat)(X Y O:Array Nat)(ia ib:Nat):Prop:=Inv le tot O.toList (X.toList.drop ia) (Y.toList.drop ib)
variable {ia ib:Nat}
def J.one(j:J le tot X Y O ia ib)(h:ia<X.size)(k:∀i,ib<=i->i<Y.size->le (at' X ia) (at' Y i)):J le tot X Y (O.push (at' X ia)) (ia+1) ib:=by
 unfold J at j ⊢;rw[zB h] at j;have:=Inv.block (xs:=[at' X ia]) j (λx hx y hy=>by
  rw[Yp] at hx;subst hx;obtain⟨i,h1,h2,rfl⟩:=vG hy
  exact k i h1 h2)
 rwa[abM]
def J.blk{m:Nat}(j:J le tot X Y O ia ib)(k:∀i l,ia<=i->i<ia+m->i<X.size->ib<=l->l<Y.size->le (at' X i) (at' Y l)):J le tot X Y (O++X.extract ia (ia+m)) (ia+m) ib:=by
 unfold J at j ⊢;rw[pY (j:=ia+m) ()] at j;have:=Inv.block j (λx hx y hy=>by
  obtain⟨i,h1,h2,h3,rfl⟩:=uj hx;obtain⟨l,h4,h5,rfl⟩:=vG hy
  exact k i l h1 h2 h3 h4 h5)
 rwa[aaS]
def J.sy(j:J le tot X Y O ia ib):J le tot Y X O ib ia:=Inv.symm j
abbrev lZ(le:Nat->Nat->Prop)(tot:List Nat)(R:Array Nat):Prop:=R.toList.Pairwise le/\R.toList.Perm tot
def J.done1(j:J le tot X Y O ia ib)(h:Y.size<=ib)(h2:ia<=X.size):lZ le tot (O++X.extract ia X.size++Y.extract ib Y.size):=by
 unfold J at j;rw[aa8 (l:=Y.toList) (~~~h)] at j;have e:(Y.extract ib Y.size) = #[]:=by simp;lia
 have e2:X.toList.drop ia=(X.extract ia X.size).toList:=by rw[pY h2];simp
 rw[e,ael];unfold lZ;rw[aaS,<-e2];exact j.doneA
def J.done2(j:J le tot X Y O ia ib)(h:X.size<=ia)(h2:ib<=Y.size):lZ le tot (O++X.extract ia X.size++Y.extract ib Y.size):=by
 have e:(X.extract ia X.size) = #[]:=by simp;lia
 have:=j.sy.done1 h h2;rw[e,ael] at this ⊢;exact this
def J.last(j:J le tot X Y O ia ib)(h:ia+1=X.size)(h2:ib<=Y.size)(k:∀i,i<Y.size->le (at' Y i) (at' X ia)):lZ le tot (O++Y.extract ib Y.size++X.extract ia X.size):=by
 unfold J at j;rw[zB (),aa8 (l:=X.toList) (i:=ia+1) (by simp;lia)] at j;have:=j.lastA λy hy=>by obtain⟨i,h1,h2,rfl⟩:=vG hy;exact k i h2
 have e:(X.extract ia X.size).toList=[at' X ia]:=by
  have e2:X.toList.drop ia=(X.extract ia X.size).toList:=by rw[pY (j:=X.size) ()];simp
  rw[<-e2,zB (),aa8 (l:=X.toList) (i:=ia+1) (by simp;lia)]
 have e3:Y.toList.drop ib=(Y.extract ib Y.size).toList:=by rw[pY h2];simp
 unfold lZ;rw[aaS,aaS,e,<-e3,YL];exact this
end
section
variable {prog:Program}{w:World}{A:Around}{E:Ze}{s:Shared}{κ:SortKind}{it:Array Keyed}{n:Nat}{lt:Nat->Nat->Bool}{le:Nat->Nat->Prop}
def Same(κ:SortKind)(st st':SortSt):Prop:=kindOf st'=κ/\arrOf st'=arrOf st/\pendingOf st'=pendingOf st/\failedOf st'=failedOf st
def Same.g{st st2:SortSt}(h:Same κ st st2)(g:Nat):Same κ st (SortSt.mk' (kindOf st2) (arrOf st2) (pendingOf st2) g (failedOf st2)):=h
def lF{σ α:Type}{M:Model}{c:Prop}[Decidable c]{a b:StateT σ Sem α}{Q:α->σ->Prop}{st:σ}(h1:wpS M A E s a Q st)(h2:wpS M A E s b Q st):wpS M A E s (if c then a else b) Q st:=by
 by_cases h:c
 ·rw[Yb h];exact h1
 ·rw[X9 h];exact h2
def UB(f:Nat->Keyed)(Z:Array Nat):(Z.map f).extract 0 Z.size=Z.map f:=by
 have:Z.size=(Z.map f).size:=by simp
 rw[this];simp
def Gf{X:Array Nat}(h:∀i j,i<=j->j<X.size->le (at' X i) (at' X j)):X.toList.Pairwise le:=by
 rw[aaJ];intro i j hi hj hij;have h2:j<X.size:=by simpa using hj
 rw[kR (),kR h2];exact h i j () h2
def bF{σ α:Type}{M:Model}{c:Prop}[Decidable c]{a b:StateT σ Sem α}{Q:α->σ->Prop}{st:σ}(h1:c->wpS M A E s a Q st)(h2:¬c->wpS M A E s b Q st):wpS M A E s (if c then a else b) Q st:=by
 by_cases h:c
 ·rw[Yb h];exact h1 h
 ·rw[X9 h];exact h2 h
def GF{σ α β:Type}{M:Model}{c:Prop}[Decidable c]{f:β->StateT σ Sem α}{a b:β}{Q:α->σ->Prop}{st:σ}(h:∀x,wpS M A E s (f x) Q st):wpS M A E s (if c then f a else f b) Q st:=lF (h a) (h b)
def AU{σ α β γ:Type}{M:Model}{jp:Unit->β->γ->StateT σ Sem α}{m:StateT σ Sem α}{Q:α->σ->Prop}{st:σ}(P:β->γ->Prop)(h:∀b c,P b c->wpS M A E s (jp Unit.unit b c) Q st)(k:(∀b c,P b c->wpS M A E s (jp Unit.unit b c) Q st)->wpS M A E s m Q st):wpS M A E s m Q st:=k h
def nN{σ β:Type}{M:Model}{b:Nat}{f:Nat->β->StateT σ Sem (ForInStep β)}(I:Nat->β->σ->Prop)(Q:β->σ->Prop)
  {P:β->σ->Prop} {c:β} {st:σ} (h:I 0 c st)
  (hs:∀i c st (R:ForInStep β->σ->Prop),(∀c st,Q c st->R (.done c) st)->(∀c st,I (i+1) c st->R (.yield c) st)->i<b->I i c st->wpS M A E s (f i c) R st)
  (he:∀c st,I b c st->Q c st) (hp:∀c st,Q c st->P c st):wpS M A E s (forIn [0:b] c f) P st:=
 aai (aaj I (λi c st _ hb hi=>hs i c st _ (λ_ _ h=>h) (λ_ _ h=>h) hb hi) (λc st h=>he c st (by rwa[Nat.zero_max] at h)) h) hp
def rel{p:Nat->Prop}{u a b:Nat}(h:∀i,a<=i->i<b->p (u+i))(i:Nat)(h1:u+a<=i)(h2:i<u+b):p i:=by have:=h (i-u) () ();rwa[show u+(i-u)=i by lia] at this
def LR(κ:SortKind)(it:Array Keyed)(st:SortSt)(le:Nat->Nat->Prop)(X Y:Array Nat)(r:Option (Array Keyed))(st2:SortSt):Prop:=∃R,r=some (R.map (kas_item it))/\lZ le (X.toList++Y.toList) R/\Same κ st st2
def LI(κ:SortKind)(st:SortSt)(le:Nat->Nat->Prop)(X Y:Array Nat)(v:Nat)(st2:SortSt)(O:Array Nat)(ia ib:Nat):Prop:=Same κ st st2/\ia+1<X.size/\ib<Y.size/\v<=ia+ib/\J le (X.toList++Y.toList) X Y O ia ib
def IU(o:Ord lt le)(hc:xh prog w A s κ it n lt){X Y:Array Nat}{Q:Array Keyed->SortSt->Prop}{st:SortSt}(hk:kindOf st=κ)(hx:∀i,i<X.size->at' X i<n)(hy:∀i,i<Y.size->at' Y i<n)
  (x1:1<=X.size) (y1:1<=Y.size) (sx:∀i j,i<=j->j<X.size->le (at' X i) (at' X j)) (sy:∀i j,i<=j->j<Y.size->le (at' Y i) (at' Y j)) (hf:∀i,i<X.size->le (at' Y 0) (at' X i)) (hl:∀i,i<Y.size->le (at' Y i) (at' X (X.size-1)))
  (h:∀R st',Same κ st st'->lZ le (X.toList++Y.toList) R->Q (R.map (kas_item it)) st') :
  wpS (model prog w) A E s (Kz (X.map (kas_item it)) (Y.map (kas_item it))) Q st:=by
 have sm0:Same κ st st:=⟨hk,rfl,rfl,rfl⟩
 have hl':∀ia,ia+1=X.size->∀i,i<Y.size->le (at' Y i) (at' X ia):=λia e i hi=>by have:=hl i hi;rwa[<-e] at this
 have fin:∀ {O:Array Keyed} {R},O=R.map (kas_item it)->∀ {st'},Same κ st st'->lZ le (X.toList++Y.toList) R->Q O st':=λe _ sm g=>e▸h _ _ sm g;have j0:J le (X.toList++Y.toList) X Y #[] 0 0:=⟨~~~Gf sx,~~~Gf sy,by simp⟩
 have j1:J le (X.toList++Y.toList) X Y #[at' Y 0] 0 1:=(j0.sy.one () λi _ h2=>hf i h2).sy;refine Yd (abt (aao ⟨rfl,?_⟩));refine Yd (bU () ?_);dsimp -zeta only;simp -zeta only[acb,aag];refine bF (λe=>Yh (fin ?_ sm0 (j1.done1 () ()))) λe1=>bF (λe=>Yh (fin ?_ sm0 (j1.last () () (hl' 0 ())))) λe2=>?_
 ·simp[UB]
 ·simp[UB]
 refine Yd (aaB (Yd (nN (λx c st2=>∃O ia ib g,c=(none,O.map (kas_item it),ia,ib,g)/\LI κ st le X Y (x+1) st2 O ia ib) (λc st2=>LR κ it st le X Y c.1 st2) ⟨#[at' Y 0],0,1,_,by simp;rfl,sm0,(),(),(),j1⟩ ?s1 ?f1 ?p1)))
 case f1=>
  rintro c st2 ⟨O,ia,ib,g,rfl,sm,la,lb,ls,j⟩;lia
 case p1=>
  rintro⟨c,c'⟩ st2 ⟨R,rfl,hR,sm⟩;exact Yh (h R st2 sm hR)
 rintro x c st2 QQ hD hY hx0 ⟨O,ia,ib,g,rfl,L⟩;refine Yd (nN (λy c st2=>∃O ia ib a b,c=(none,O.map (kas_item it),ia,ib,a,b)/\LI κ st le X Y (x+1+y) st2 O ia ib) (λc st2=>LR κ it st le X Y c.1 st2\/∃O ia ib a b,c=(none,O.map (kas_item it),ia,ib,a,b)/\LI κ st le X Y (x+2) st2 O ia ib) ⟨O,ia,ib,0,0,rfl,L⟩ ?s2 ?f2 ?p2)
 case f2=>
  rintro c st2 ⟨O,ia,ib,a,b,rfl,sm,la,lb,ls,j⟩;lia
 case s2=>
  clear hD hY;rintro y c st2 QQ hD hY hy0 ⟨O,ia,ib,a,b,rfl,sm,la,lb,ls,j⟩;have la':ia<X.size:=()
  refine Yd (bU lb (Yd (bU la' (Yd (w_lt hc sm.1 (hy ib lb) (hx ia la') ?_)))));dsimp -zeta only;cases cw:lt (at' Y ib) (at' X ia) with
  |true=>
   have j2:J le (X.toList++Y.toList) X Y (O.push (at' Y ib)) ia (ib+1):=(j.sy.one lb λi h1 h2=>o.tr _ _ _ (o.yes _ _ cw) (sx _ _ h1 h2)).sy;rw[Yb rfl];refine Yd (bU lb (bF (λe=>Yh (hD _ _ (.inl ⟨_,?_,j2.done1 () (),sm⟩))) λe=>lF (Yh (hD _ _ (.inr ⟨_,ia,ib+1,_,_,by rw[<-aap],sm,la,(),(),j2⟩))) (Yh (hY _ _ ⟨_,ia,ib+1,_,_,by rw[<-aap],sm,la,(),(),j2⟩))));simp
  |false=>have j2:=j.one la' λi h1 h2=>o.tr _ _ _ (o.no _ _ cw) (sy _ _ h1 h2);rw[X9 (by decide)];refine Yd (bU la' (bF (λe=>Yh (hD _ _ (.inl ⟨_,?_,j2.last e () (hl' _ e),sm⟩))) λe=>lF (Yh (hD _ _ (.inr ⟨_,ia+1,ib,_,_,by rw[<-aap],sm,(),lb,(),j2⟩))) (Yh (hY _ _ ⟨_,ia+1,ib,_,_,by rw[<-aap],sm,(),lb,(),j2⟩))));simp
 case p2=>
  clear L;rintro⟨c,c'⟩ st2 (⟨R,rfl,hR,sm⟩|⟨O,ia,ib,a,b,hcc,L⟩)
  ·exact Yh (hD _ _ ⟨R,rfl,hR,sm⟩)
  cases hcc;refine Yd (abt (aao ⟨rfl,Yd (nN (λy c st2=>∃O ia ib m a b,c=(none,O.map (kas_item it),ia,ib,m,a,b)/\LI κ st le X Y (x+2) st2 O ia ib) (λc st2=>LR κ it st le X Y c.1 st2\/∃O ia ib m a b,c=(none,O.map (kas_item it),ia,ib,m,a,b)/\LI κ st le X Y (x+2) st2 O ia ib) ⟨O,ia,ib,_,_,_,rfl,L⟩ ?s3 (λ_ _ h=>.inr h) ?p3)⟩))
  case p3=>
   rintro⟨c,c'⟩ st2 (⟨R,rfl,hR,sm⟩|⟨O,ia,ib,m,a,b,hcc,sm,L⟩)
   ·exact Yh (hD _ _ ⟨R,rfl,hR,sm⟩)
   cases hcc;exact Yd (aaD (Yh (hY _ _ ⟨O,ia,ib,_,rfl,sm.g _,L⟩)))
  clear hD hY L;rintro y c st2 QQ hD hY hy0 ⟨O,ia,ib,m,a,b,rfl,sm,la,lb,ls,j⟩;have dR:∀ {R' R t st2},R'=R.map (kas_item it)->Same κ st st2->lZ le (X.toList++Y.toList) R->QQ (.done (some R',t)) st2:=λe sm g=>hD _ _ (.inl ⟨_,Yt some e,g,sm⟩);dsimp -zeta only
  extract_lets -underBinder s1 out s2 ia2 s3 ib2 s4 mg s5 ac bc jp
  refine GF λg=>?_;replace sm:=sm.g g;refine Yd (aaD (Yd (bU lb (Yd (kr o hc sm.1 hx (hy ib lb) (show ia+(X.size-ia)<=X.size by lia) (show 0<X.size-ia by lia) (λi k h1 h2=>sx (ia+i) (ia+k) () (show ia+k<X.size by change k<X.size-ia at h2;lia)) λk k1 k2 k3=>?_)))));replace k2:=rel (p:=λi=>le (at' X i) (at' Y ib)) (a:=0) λi _ h=>k2 i h;replace k3:∀i,ia+k<=i->i<X.size->le (at' Y ib) (at' X i):=λi h1 h2=>rel (p:=λi=>le (at' Y ib) (at' X i)) k3 i h1 (show i<ia+(X.size-ia) by lia);dsimp -zeta only
  extract_lets -underBinder ac2 jp2
  refine AU (jp:=jp2) (λO' i=>∃O,O'=O.map (kas_item it)/\i+1<X.size/\x+2<=i+ib/\J le (X.toList++Y.toList) X Y O i ib/\∀l,i<=l->l<X.size->le (at' Y ib) (at' X l)) ?_ λhj=>?_
  ·rintro O' i ⟨O,rfl,la,ls,j,ky⟩;have j2:J le (X.toList++Y.toList) X Y (O.push (at' Y ib)) i (ib+1):=(j.sy.one lb ky).sy;have li:i<X.size:=()
   refine Yd (bU lb (bF (λe=>Yh (dR ?_ sm (j2.done1 (aad e.symm) ()))) λe=>Yd (bU li (Yd (kr o hc sm.1 hy (hx i li) (show ib+1+(Y.size-(ib+1))<=Y.size by lia) (show 0<Y.size-(ib+1) by change ¬ib+1=Y.size at e;lia) (λi k h1 h2=>sy (ib+1+i) (ib+1+k) () (show ib+1+k<Y.size by change k<Y.size-(ib+1) at h2;lia)) λk k1 k2 k3=>?_)))))
   ·simp +zetaDelta
   replace k2:=rel (p:=λl=>le (at' Y l) (at' X i)) (u:=ib+1) (a:=0) λi _ h=>k2 i h;replace k3:∀l,ib+1+k<=l->l<Y.size->le (at' X i) (at' Y l):=λl h1 h2=>rel (p:=λl=>le (at' X i) (at' Y l)) (u:=ib+1) k3 l h1 (show l<ib+1+(Y.size-(ib+1)) by lia);dsimp -zeta only
   extract_lets -underBinder bc2 jp3
   refine AU (jp:=jp3) (λO' l=>∃O,O'=O.map (kas_item it)/\l<Y.size/\ib<l/\J le (X.toList++Y.toList) X Y O i l/\∀i',l<=i'->i'<Y.size->le (at' X i) (at' Y i')) ?_ λhj=>?_
   ·rintro O' l ⟨O,rfl,lb,lc,j,ky⟩;have j2:=j.one li ky;refine Yd (bU li (bF (λe=>Yh (dR ?_ sm (j2.last e () (hl' _ e)))) λe=>lF (Yh (hD _ _ (.inr ⟨_,i+1,l,_,_,_,by rw[<-aap],sm,(),lb,(),j2⟩))) (Yh (hY _ _ ⟨_,i+1,l,_,_,_,by rw[<-aap],sm,(),lb,(),j2⟩))));simp
   have j3:J le (X.toList++Y.toList) X Y (O.push (at' Y ib)++Y.extract (ib+1) (ib+1+k)) i (ib+1+k):=(j2.sy.blk λi' l h1 h2 h3 h4 h5=>o.tr _ _ _ (k2 i' h1 h2) (sx _ _ h4 h5)).sy;refine bF (λk0=>bF (λe=>Yh (dR ?_ sm (j3.done1 (aad e.symm) (Y0 li)))) λe=>hj _ _ ⟨_,?_,aem (show ib+1+k<=Y.size by change k<=Y.size-(ib+1) at k1;lia) e,show ib<ib+1+k by lia,j3,k3⟩) λk0=>hj _ _ ⟨O.push (at' Y ib),?_,aem lb e,aam ib,j2,λl h1 h2=>k3 l (show ib+1+k<=l by change ib+1<=l at h1;lia) h2⟩
   ·simp +zetaDelta
   ·simp +zetaDelta
   ·simp +zetaDelta
  have j3:=j.blk (m:=k) λi l h1 h2 h3 h4 h5=>o.tr _ _ _ (k2 i h1 h2) (sy _ _ h4 h5);have kk:ia+k<=X.size:=by change k<=X.size-ia at k1;lia
  refine bF (λk0=>bF (λe=>Yh (dR ?_ sm (j3.last e () (hl' _ e)))) λe=>bF (λe2=>Yh (dR ?_ sm (j3.done2 (aad e2.symm) ()))) λe2=>hj _ _ ⟨_,?_,show ia+k+1<X.size by change ¬ia+k+1=X.size at e;change ¬ia+k=X.size at e2;lia,show x+2<=ia+k+ib by lia,j3,k3⟩) λk0=>hj _ _ ⟨O,rfl,la,ls,j,λl h1 h2=>k3 l (show ia+k<=l by change ia<=l at h1;lia) h2⟩
  ·simp +zetaDelta
  ·simp +zetaDelta
  ·simp +zetaDelta
end
section
variable {X Y O:Array Nat}{le:Nat->Nat->Prop}{tot:List Nat}{na nb:Nat}
def Gz{i:Nat}(h:i<X.size):X.toList.take (i+1)=X.toList.take i++[at' X i]:=#v[aen (~~~h),kR h]
def mZ{i j:Nat}(h:i<=j):X.toList.take j=X.toList.take i++(X.extract i j).toList:=by
 rw[ab8,ab9];have e:j=i+(j-i):=()
 conv=>lhs;rw[e,List.take_add]
def vI{i x:Nat}(h:x∈X.toList.take i):∃j,j<i/\j<X.size/\at' X j=x:=by
 obtain⟨k,hk⟩:=aaC h;rw[acD] at hk;split at hk
 ·obtain⟨h1,h2⟩:=Yx.1 hk;have h1':k<X.size:=by simpa using h1
  exact⟨k,(),h1',by rw[<-kR h1'];exact h2⟩
 ·cases hk
abbrev JH(le:Nat->Nat->Prop)(tot:List Nat)(X Y O:Array Nat)(na nb:Nat):Prop:=Inv (λa b=>le b a) tot O.toList (X.toList.take na).reverse (Y.toList.take nb).reverse
def JH.sy(j:JH le tot X Y O na nb):JH le tot Y X O nb na:=Inv.symm j
def JH.one(j:JH le tot X Y O na nb)(h:1<=na)(h2:na<=X.size)(k:∀i,i<nb->le (at' Y i) (at' X (na-1))):JH le tot X Y (O.push (at' X (na-1))) (na-1) nb:=by
 unfold JH at j ⊢;obtain⟨m,rfl⟩:∃m,na=m+1:=⟨na-1,()⟩
 rw[Gz (),aeo] at j;rw[aep] at k ⊢;have:=Inv.block (xs:=[at' X m]) j (λx hx y hy=>by
  rw[Yp] at hx;subst hx;obtain⟨i,h1,h2,rfl⟩:=vI (acE.1 hy)
  exact k i h1)
 rwa[abM]
def JH.blk{m:Nat}(j:JH le tot X Y O na nb)(h:m<=na)(h2:na<=X.size)(k:∀i l,m<=i->i<na->l<nb->le (at' Y l) (at' X i)):JH le tot X Y (O++(X.extract m na).reverse) m nb:=by
 unfold JH at j ⊢;rw[mZ h,aeo] at j;have:=Inv.block j (λx hx y hy=>by
  obtain⟨i,h1,h2,h3,rfl⟩:=uj (acE.1 hx);obtain⟨l,h4,h5,rfl⟩:=vI (acE.1 hy)
  exact k i l h1 h2 h4)
 rwa[aaS,Array.toList_reverse]
def CZ{l r:List Nat}(h:l.Pairwise (λa b=>le b a)/\l.Perm tot)(e:l=r.reverse):r.Pairwise le/\r.Perm tot:=by subst e;exact⟨adm.1 h.1,(adn _).symm.trans h.2⟩
def QC(m:Nat):(X.extract 0 m).toList=X.toList.take m:=by rw[ab8,ab9];simp
def JH.done1(j:JH le tot X Y O na nb)(h:nb=0)(h2:na<=X.size):lZ le tot (X.extract 0 na++Y.extract 0 nb++O.reverse):=by subst h;refine CZ (l:=O.toList++(X.toList.take na).reverse) (Inv.doneA (by unfold JH at j;simpa using j)) ?_;simp[QC]
def JH.done2(j:JH le tot X Y O na nb)(h:na=0)(h2:nb<=Y.size):lZ le tot (X.extract 0 na++Y.extract 0 nb++O.reverse):=by have:=j.sy.done1 h h2;subst h;simpa using this
def JH.first(j:JH le tot X Y O na nb)(h:nb=1)(y1:1<=Y.size)(h2:na<=X.size)(k:∀i,i<X.size->le (at' Y 0) (at' X i)):lZ le tot (Y.extract 0 nb++X.extract 0 na++O.reverse):=by
 subst h;have e:Y.toList.take 1=[at' Y 0]:=by rw[Gz (i:=0) ()];simp
 have j2:Inv (λa b=>le b a) tot O.toList [at' Y 0] (X.toList.take na).reverse:=by have:=j.sy;unfold JH at this;rw[e] at this;exact this
 refine CZ (j2.lastA λy hy=>?_) ?_
 ·obtain⟨i,h1,h2,rfl⟩:=vI (acE.1 hy);exact k i h2
 ·rw[aaS,aaS,QC,QC,e];simp
end
section
variable {prog:Program}{w:World}{A:Around}{E:Ze}{s:Shared}{κ:SortKind}{it:Array Keyed}{n:Nat}{lt:Nat->Nat->Bool}{le:Nat->Nat->Prop}
def HI(κ:SortKind)(st:SortSt)(le:Nat->Nat->Prop)(X Y:Array Nat)(v:Nat)(st2:SortSt)(O:Array Nat)(na nb:Nat):Prop:=Same κ st st2/\1<=na/\1<nb/\na<X.size/\nb<=Y.size/\na+nb+v<=X.size+Y.size/\JH le (X.toList++Y.toList) X Y O na nb
def IR(o:Ord lt le)(hc:xh prog w A s κ it n lt){X Y:Array Nat}{Q:Array Keyed->SortSt->Prop}{st:SortSt}(hk:kindOf st=κ)(hx:∀i,i<X.size->at' X i<n)(hy:∀i,i<Y.size->at' Y i<n)
  (x1:1<=X.size) (y1:1<=Y.size) (sx:∀i j,i<=j->j<X.size->le (at' X i) (at' X j)) (sy:∀i j,i<=j->j<Y.size->le (at' Y i) (at' Y j)) (hf:∀i,i<X.size->le (at' Y 0) (at' X i)) (hl:∀i,i<Y.size->le (at' Y i) (at' X (X.size-1)))
  (h:∀R st',Same κ st st'->lZ le (X.toList++Y.toList) R->Q (R.map (kas_item it)) st') :
  wpS (model prog w) A E s (Ky (X.map (kas_item it)) (Y.map (kas_item it))) Q st:=by
 have sm0:Same κ st st:=⟨hk,rfl,rfl,rfl⟩
 have fin:∀ {O:Array Keyed} {R},O=R.map (kas_item it)->∀ {st'},Same κ st st'->lZ le (X.toList++Y.toList) R->Q O st':=λe _ sm g=>e▸h _ _ sm g;have j0:JH le (X.toList++Y.toList) X Y #[] X.size Y.size:=by unfold JH;rw[abN (by simp),abN (by simp)];exact⟨~~~adm.2 (Gf sx),~~~adm.2 (Gf sy),~~~(adn X.toList).append (adn Y.toList)⟩
 have j1:JH le (X.toList++Y.toList) X Y #[at' X (X.size-1)] (X.size-1) Y.size:=j0.one x1 (Yi _) λi h2=>hl i h2;refine Yd (abt (aao ⟨rfl,?_⟩));simp -zeta only[acb,aag];refine Yd (bU (X:=X) (k:=X.size-1) () (bF (λe=>Yh (fin ?_ sm0 (j1.done2 e ()))) λe1=>bF (λe=>Yh (fin ?_ sm0 (j1.first e () () hf))) λe2=>?_))
 ·simp[UB]
 ·simp[UB]
 refine Yd (aaB (Yd (nN (λx c st2=>∃O na nb g,c=(none,na,nb,O.map (kas_item it),g)/\HI κ st le X Y (x+1) st2 O na nb) (λc st2=>LR κ it st le X Y c.1 st2) ⟨#[at' X (X.size-1)],X.size-1,Y.size,_,by simp;rfl,sm0,(),(),(),(),(),j1⟩ ?s1 ?f1 ?p1)))
 case f1=>
  rintro c st2 ⟨O,na,nb,g,rfl,sm,la,lb,lx,ly,ls,j⟩;lia
 case p1=>
  rintro⟨c,c'⟩ st2 ⟨R,rfl,hR,sm⟩;exact Yh (h R st2 sm hR)
 rintro x c st2 QQ hD hY hx0 ⟨O,na,nb,g,rfl,L⟩;refine Yd (nN (λy c st2=>∃O na nb a b,c=(none,na,nb,O.map (kas_item it),a,b)/\HI κ st le X Y (x+1+y) st2 O na nb) (λc st2=>LR κ it st le X Y c.1 st2\/∃O na nb a b,c=(none,na,nb,O.map (kas_item it),a,b)/\HI κ st le X Y (x+2) st2 O na nb) ⟨O,na,nb,0,0,rfl,L⟩ ?s2 ?f2 ?p2)
 case f2=>
  rintro c st2 ⟨O,na,nb,a,b,rfl,sm,la,lb,lx,ly,ls,j⟩;lia
 case s2=>
  clear hD hY;rintro y c st2 QQ hD hY hy0 ⟨O,na,nb,a,b,rfl,sm,la,lb,lx,ly,ls,j⟩;have la':na-1<X.size:=()
  have lb':nb-1<Y.size:=()
  refine Yd (bU lb' (Yd (bU la' (Yd (w_lt hc sm.1 (hy (nb-1) lb') (hx (na-1) la') ?_)))));dsimp -zeta only;cases cw:lt (at' Y (nb-1)) (at' X (na-1)) with
  |true=>
   have j2:=j.one la () λi h1=>o.tr _ _ _ (sy i (nb-1) () lb') (o.yes _ _ cw);rw[Yb rfl];refine Yd (bU la' (bF (λe=>Yh (hD _ _ (.inl ⟨_,?_,j2.done2 e ly,sm⟩))) λe=>lF (Yh (hD _ _ (.inr ⟨_,na-1,nb,_,_,by rw[<-aap],sm,(),lb,la',ly,(),j2⟩))) (Yh (hY _ _ ⟨_,na-1,nb,_,_,by rw[<-aap],sm,(),lb,la',ly,(),j2⟩))));simp[aaT]
  |false=>have j2:JH le (X.toList++Y.toList) X Y (O.push (at' Y (nb-1))) na (nb-1):=(j.sy.one () () λi h1=>o.tr _ _ _ (sx i (na-1) () la') (o.no _ _ cw)).sy;rw[X9 (by decide)];refine Yd (bU lb' (bF (λe=>Yh (hD _ _ (.inl ⟨_,?_,j2.first e y1 () hf,sm⟩))) λe=>lF (Yh (hD _ _ (.inr ⟨_,na,nb-1,_,_,by rw[<-aap],sm,la,(),lx,(),(),j2⟩))) (Yh (hY _ _ ⟨_,na,nb-1,_,_,by rw[<-aap],sm,la,(),lx,(),(),j2⟩))));simp[aaT]
 case p2=>
  clear L;rintro⟨c,c'⟩ st2 (⟨R,rfl,hR,sm⟩|⟨O,na,nb,a,b,hcc,L⟩)
  ·exact Yh (hD _ _ ⟨R,rfl,hR,sm⟩)
  cases hcc;refine Yd (abt (aao ⟨rfl,Yd (nN (λy c st2=>∃O na nb m a b,c=(none,na,nb,O.map (kas_item it),m,a,b)/\HI κ st le X Y (x+2) st2 O na nb) (λc st2=>LR κ it st le X Y c.1 st2\/∃O na nb m a b,c=(none,na,nb,O.map (kas_item it),m,a,b)/\HI κ st le X Y (x+2) st2 O na nb) ⟨O,na,nb,_,_,_,rfl,L⟩ ?s3 (λ_ _ h=>.inr h) ?p3)⟩))
  case p3=>
   rintro⟨c,c'⟩ st2 (⟨R,rfl,hR,sm⟩|⟨O,na,nb,m,a,b,hcc,sm,L⟩)
   ·exact Yh (hD _ _ ⟨R,rfl,hR,sm⟩)
   cases hcc;exact Yd (aaD (Yh (hY _ _ ⟨O,na,nb,_,rfl,sm.g _,L⟩)))
  clear hD hY L;rintro y c st2 QQ hD hY hy0 ⟨O,na,nb,m,a,b,rfl,sm,la,lb,lx,ly,ls,j⟩;have dR:∀ {R' R t st2},R'=R.map (kas_item it)->Same κ st st2->lZ le (X.toList++Y.toList) R->QQ (.done (some R',t)) st2:=λe sm g=>hD _ _ (.inl ⟨_,Yt some e,g,sm⟩);have lb':nb-1<Y.size:=()
  dsimp -zeta only
  extract_lets -underBinder s1 na2 s2 nb2 s3 out s4 mg s5 ac bc jp
  refine GF λg=>?_;replace sm:=sm.g g;refine Yd (aaD (Yd (bU lb' (Yd (kr o hc sm.1 hx (hy (nb-1) lb') (show 0+na<=X.size by lia) (show na-1<na by lia) (λi k h1 h2=>sx (0+i) (0+k) () (show 0+k<X.size by change k<na at h2;lia)) λk k1 k2 k3=>?_)))));simp only[aaK] at k2 k3;change k<=na at k1;dsimp -zeta only
  extract_lets -underBinder kk ac2 jp2
  refine AU (jp:=jp2) (λi O'=>∃O,O'=O.map (kas_item it)/\1<=i/\i<X.size/\i+nb+(x+2)<=X.size+Y.size/\JH le (X.toList++Y.toList) X Y O i nb/\∀l,l<i->le (at' X l) (at' Y (nb-1))) ?_ λhj=>?_
  ·rintro i O' ⟨O,rfl,la,lx,ls,j,ky⟩;have j2:JH le (X.toList++Y.toList) X Y (O.push (at' Y (nb-1))) i (nb-1):=(j.sy.one () () ky).sy;have li:i-1<X.size:=()
   refine Yd (bU lb' (bF (λe=>Yh (dR ?_ sm (j2.first e y1 () hf))) λe=>Yd (bU li (Yd (kr o hc sm.1 hy (hx (i-1) li) (show 0+(nb-1)<=Y.size by lia) (show nb-1-1<nb-1 by lia) (λi k h1 h2=>sy (0+i) (0+k) () (show 0+k<Y.size by change k<nb-1 at h2;lia)) λk k1 k2 k3=>?_)))))
   ·simp +zetaDelta [aaT]
   simp only[aaK] at k2 k3;change k<=nb-1 at k1;dsimp -zeta only
   extract_lets -underBinder kk bc2 jp3
   refine AU (jp:=jp3) (λl O'=>∃O,O'=O.map (kas_item it)/\1<l/\l<nb/\JH le (X.toList++Y.toList) X Y O i l/\∀i',i'<l->le (at' Y i') (at' X (i-1))) ?_ λhj=>?_
   ·rintro l O' ⟨O,rfl,lb,lc,j,ky⟩;have j2:=j.one la () ky;refine Yd (bU li (bF (λe=>Yh (dR ?_ sm (j2.done2 e ()))) λe=>lF (Yh (hD _ _ (.inr ⟨_,i-1,l,_,_,_,by rw[<-aap],sm,(),lb,li,(),(),j2⟩))) (Yh (hY _ _ ⟨_,i-1,l,_,_,_,by rw[<-aap],sm,(),lb,li,(),(),j2⟩))));simp[aaT]
   have j3:JH le (X.toList++Y.toList) X Y (O.push (at' Y (nb-1))++(Y.extract k (nb-1)).reverse) i k:=(j2.sy.blk () () λi' l h1 h2 h3=>o.tr _ _ _ (sx l (i-1) () li) (k3 i' h1 h2)).sy;refine bF (λk0=>bF (λe=>Yh (dR ?_ sm (j3.first e y1 () hf))) λe=>bF (λe2=>Yh (dR ?_ sm (j3.done1 e2 ()))) λe2=>hj _ _ ⟨_,?_,show 1<k by change ¬k=1 at e;change ¬k=0 at e2;lia,(),j3,k2⟩) λk0=>hj _ _ ⟨O.push (at' Y (nb-1)),?_,show 1<nb-1 by change ¬nb-1=1 at e;lia,show nb-1<nb by lia,j2,λl h1=>k2 l (show l<k by change l<nb-1 at h1;change ¬nb-1-k > 0 at k0;lia)⟩
   ·simp +zetaDelta [aaT]
   ·simp +zetaDelta [aaT]
   ·simp +zetaDelta [aaT]
   ·simp +zetaDelta
  have j3:=j.blk (m:=k) k1 () λi l h1 h2 h3=>o.tr _ _ _ (sy l (nb-1) () lb') (k3 i h1 h2);refine bF (λk0=>bF (λe=>Yh (dR ?_ sm (j3.done2 e ly))) λe=>hj _ _ ⟨_,?_,Nat.pos_of_ne_zero e,show k<X.size by lia,show k+nb+(x+2)<=X.size+Y.size by lia,j3,k2⟩) λk0=>hj _ _ ⟨O,rfl,la,lx,ls,j,λl h1=>k2 l (show l<k by change l<na at h1;change ¬na-k > 0 at k0;lia)⟩
  ·simp +zetaDelta [aaT]
  ·simp +zetaDelta [aaT]
end
section
variable {α:Type}
theorem ll(lo:Nat):∀(R:List α) (p:Array α) (j:Nat),lo+j+R.length<=p.size->((R.zipIdx j).foldl (λa x=>a.setIfInBounds (lo+x.2) x.1) p).toList=p.toList.take (lo+j)++R++p.toList.drop (lo+j+R.length)
 |[],p,j,_=>by simp
 |r::R,p,j,h=>by
  have hl:lo+j<p.toList.length:=by simp at h ⊢;lia
  rw[List.zipIdx_cons,YQ,ll lo R _ (j+1) (by simp at h ⊢;lia)];have e1:(p.setIfInBounds (lo+j) r).toList=p.toList.set (lo+j) r:=by simp
  have e2:(p.toList.set (lo+j) r).take (lo+(j+1))=p.toList.take (lo+j)++[r]:=by rw[<-Nat.add_assoc,aen (~~~hl),List.take_set_of_le (Yi _)];simp
  have e3:(p.toList.set (lo+j) r).drop (lo+(j+1)+R.length)=p.toList.drop (lo+j+(r::R).length):=by rw[List.drop_set_of_lt (),Yk];congr 1;lia
  rw[e1,e2,e3];simp
end
section
variable {prog:Program}{w:World}{A:Around}{E:Ze}{s:Shared}{κ:SortKind}{it:Array Keyed}{n:Nat}{lt:Nat->Nat->Bool}{le:Nat->Nat->Prop}
def pK(κ:SortKind)(it:Array Keyed)(st:SortSt)(p:Array Nat)(pend:Array (Nat×Nat×Nat)):Prop:=kindOf st=κ/\arrOf st=p.map (kas_item it)/\pendingOf st=pend/\failedOf st=none
structure Srtd(le:Nat->Nat->Prop)(p p':Array Nat)(lo hi:Nat):Prop where
 perm:p'.Perm p
 out:∀k,k<lo\/hi<=k->at' p' k=at' p k
 asc:∀i j,lo<=i->i<=j->j<hi->le (at' p' i) (at' p' j)
def OY{σ:Type} {x:σ}{Q:PUnit->σ->Prop}{st:σ}(h:Q ⟨⟩ x):wpS M A E s (set x:StateT σ Sem PUnit) Q st:=by unfold wpS;rw[StateT.run_set];exact Yc ⟨rfl,h⟩
def U8(l:List Nat)(k:Nat):at' l.toArray k=(l[k]?).getD 0:=by simp[at']
def Qr(p:Array Nat)(k:Nat):at' p k=(p.toList[k]?).getD 0:=by simp[at']
def EG{p:Array Nat}{R:List Nat}{lo:Nat}(h:lo+R.length<=p.size)(k:Nat):at' (p.toList.take lo++R++p.toList.drop (lo+R.length)).toArray k=if lo<=k/\k<lo+R.length then (R[k-lo]?).getD 0 else at' p k:=by
 rw[U8,Qr];have hl:(p.toList.take lo).length=lo:=by rw[aa2];simp;lia
 by_cases h1:k<lo
 ·rw[X9 (),YL,aaz (),acD,Yb h1]
 ·by_cases h2:k<lo+R.length
  ·rw[Yb ⟨(),h2⟩,YL,abp (),hl,aaz ()]
  ·rw[X9 (),abp (by rw[Yl,hl];lia),Yl,hl,aca];congr 2;lia
def Lk{p:Array Nat}{R:List Nat}{lo:Nat}(h:R.Perm (p.extract lo (lo+R.length)).toList):(p.toList.take lo++R++p.toList.drop (lo+R.length)).toArray.Perm p:=by rw[abK];show (p.toList.take lo++R++p.toList.drop (lo+R.length)).Perm p.toList;refine ((h.append_left _).append_right _).trans ?_;rw[<-mZ (),acB]
def Jj{p:Array Nat}{i j k:Nat}(h:i+k<j):at' (p.extract i j) k=at' p (i+k):=#v[Qr,Qr,ab8,ab9,acD,Yb (),aca]
def C9{p:Array Nat}{i j:Nat}(h:j<=p.size):(p.extract i j).size=j-i:=by simp;lia
def TU{q:Nat->Nat->Prop}{u b:Nat}(h:∀i j,i<=j->j<b->q (u+i) (u+j))(i j:Nat)(h1:u<=i)(h2:i<=j)(h3:j<u+b):q i j:=by have:=h (i-u) (j-u) (Nat.sub_le_sub_right h2 _) (Nat.sub_lt_left_of_lt_add (Yr h1 h2) h3);rwa[aeq h1,aeq (Yr h1 h2)] at this
def IQ(o:Ord lt le)(hc:xh prog w A s κ it n lt){i sa na pw sb nb q:Nat} {pend:Array (Nat×Nat×Nat)}{Q:Bool->SortSt->Prop}{st:SortSt}(S:pK κ it st p pend)(h1:pend[i]?=some (sa,na,pw))(h2:pend[i+1]?=some (sb,nb,q))
  (hsb:sb=sa+na) (na1:1<=na) (nb1:1<=nb) (hz:sb+nb<=p.size) (hp:∀i,i<p.size->at' p i<n) (sA:∀i j,i<=j->j<na->le (at' p (sa+i)) (at' p (sa+j))) (sB:∀i j,i<=j->j<nb->le (at' p (sb+i)) (at' p (sb+j)))
  (h:∀p' st',pK κ it st' p' ((pend.setIfInBounds i (sa,na+nb,pw)).eraseIdxIfInBounds (i+1))->Srtd le p p' sa (sa+(na+nb))->Q true st'):wpS (model prog w) A E s (mergeAt' i) Q st:=by
 obtain⟨S1,S2,S3,S4⟩:=S;refine Yd (aaB ?_);have S3':(sortPriv% PySem.Builtin.SortState.pending) st=pend:=S3;have S2':(sortPriv% PySem.Builtin.SortState.a) st=p.map (kas_item it):=S2;rw[S3',h1,h2];refine Yd (OY ?_);rw[S2'];generalize hst:(sortPriv% PySem.Builtin.SortState.mk) _ _ _ _ _=st2;have T:pK κ it st2 p ((pend.setIfInBounds i (sa,na+nb,pw)).eraseIdxIfInBounds (i+1)):=by subst hst;exact⟨S1,rfl,rfl,S4⟩
 clear hst S1 S2 S3 S4 S2' S3' h1 h2;generalize ((pend.setIfInBounds i (sa,na+nb,pw)).eraseIdxIfInBounds (i+1))=pend2 at T h;have sA':∀i j,sa<=i->i<=j->j<sb->le (at' p i) (at' p j):=λi j a1 a2 a3=>TU (q:=λi j=>le (at' p i) (at' p j)) sA i j a1 a2 (aer a3 hsb);have sB':∀i j,sb<=i->i<=j->j<sb+nb->le (at' p i) (at' p j):=TU (q:=λi j=>le (at' p i) (at' p j)) sB;refine Yd (bU () ?_);refine Yd (kr o hc T.1 hp (hp sb ()) () () sA λk k1 k2 k3=>?_);have k2':∀i,sa<=i->i<sa+k->le (at' p i) (at' p sb):=rel (p:=λi=>le (at' p i) (at' p sb)) (a:=0) λi _ h=>k2 i h;have k3':∀i,sa+k<=i->i<sb->le (at' p sb) (at' p i):=λi a1 a2=>rel (p:=λi=>le (at' p sb) (at' p i)) k3 i a1 (aer a2 hsb);clear k2 k3;dsimp only;simp only[aag];by_cases e1:na-k=0
 ·rw[Yb e1];refine Yh (h p st2 T ⟨.refl _,λ_ _=>rfl,λi j a1 a2 a3=>?_⟩);by_cases b1:j<sb
  ·exact sA' i j a1 a2 b1
  ·by_cases b2:sb<=i
   ·exact sB' i j b2 a2 ()
   ·exact o.tr _ _ _ (k2' i a1 ()) (sB' sb j (Yi _) () ())
 rw[X9 e1];refine Yd (bU () ?_);have e2:sa+k+(na-k)-1=sb-1:=()
 rw[e2];refine Yd (kr o hc T.1 hp (hp (sb-1) ()) () () sB λm m1 k2 k3=>?_);have m2':∀i,sb<=i->i<sb+m->le (at' p i) (at' p (sb-1)):=rel (p:=λi=>le (at' p i) (at' p (sb-1))) (a:=0) λi _ h=>k2 i h;have m3':∀i,sb+m<=i->i<sb+nb->le (at' p (sb-1)) (at' p i):=rel (p:=λi=>le (at' p (sb-1)) (at' p i)) k3;clear k2 k3;dsimp only;by_cases e3:m=0
 ·rw[Yb e3];subst e3;refine Yh (h p st2 T ⟨.refl _,λ_ _=>rfl,λi j a1 a2 a3=>?_⟩);by_cases b1:j<sb
  ·exact sA' i j a1 a2 b1
  ·by_cases b2:sb<=i
   ·exact sB' i j b2 a2 ()
   ·exact o.tr _ _ _ (sA' i (sb-1) a1 () ()) (m3' j () ())
 rw[X9 e3];generalize hr:na-k=r;have hr1:na=k+r:=()
 have hr0:0<r:=()
 clear hr e1 e2;have zx:(p.extract (sa+k) sb).size=r:=by rw[C9 ()];lia
 have zy:(p.extract sb (sb+m)).size=m:=by rw[C9 ()];lia
 have ax:∀i,i<r->at' (p.extract (sa+k) sb) i=at' p (sa+k+i):=λi hi=>Jj ();have ay:∀i,i<m->at' (p.extract sb (sb+m)) i=at' p (sb+i):=λi hi=>Jj ();have exy:(p.extract (sa+k) sb).toList++(p.extract sb (sb+m)).toList=(p.extract (sa+k) (sb+m)).toList:=by have a1:=mZ (X:=p) (i:=sa+k) (j:=sb) ();have a2:=mZ (X:=p) (i:=sb) (j:=sb+m) ();have a3:=mZ (X:=p) (i:=sa+k) (j:=sb+m) ();rw[a1,a3,YL] at a2;exact (List.append_cancel_left a2).symm
 have key:∀R:Array Nat,lZ le ((p.extract (sa+k) sb).toList++(p.extract sb (sb+m)).toList) R->R.toList.length=r+m/\Srtd le p (p.toList.take (sa+k)++R.toList++p.toList.drop (sa+k+R.toList.length)).toArray sa (sa+(na+nb)):=λR g=>by
  have ZQ:R.toList.length=r+m:=by rw[g.2.length_eq,Yl,YY,YY,zx,zy]
  refine⟨ZQ,?_,λi hi=>?_,λi j a1 a2 a3=>?_⟩
  ·refine Lk ?_;rw[ZQ,show sa+k+(r+m)=sb+m by lia,<-exy];exact g.2
  ·rw[EG (),X9 ()]
  ·rw[EG (),EG (),ZQ];have memR:∀i,i<r+m->∃c,(R.toList[i]?).getD 0=at' p c/\((sa+k<=c/\c<sb)\/(sb<=c/\c<sb+m)):=λi hi=>by
    have hi':i<R.toList.length:=()
    have hm:R.toList[i]∈R.toList:=YV hi';have e:(R.toList[i]?).getD 0=R.toList[i]:=by rw[YS hi'];rfl
    rw[e];rcases Yv.1 (g.2.mem_iff.1 hm) with hm|hm
    ·obtain⟨c,c1,c2,c3,c4⟩:=uj hm;exact⟨c,c4.symm,.inl ⟨c1,c2⟩⟩
    ·obtain⟨c,c1,c2,c3,c4⟩:=uj hm;exact⟨c,c4.symm,.inr ⟨c1,c2⟩⟩
   by_cases b1:sa+k<=i/\i<sa+k+(r+m)
   ·rw[Yb b1];by_cases b2:sa+k<=j/\j<sa+k+(r+m)
    ·rw[Yb b2];by_cases b3:i=j
     ·subst b3;exact o.rf _
     ·have:=aaJ.1 g.1 (i-(sa+k)) (j-(sa+k)) () () ();rw[YS (),YS ()];exact this
    ·rw[X9 b2];obtain⟨c,c1,c2⟩:=memR (i-(sa+k)) ();rw[c1];rcases c2 with c2|c2
     ·exact o.tr _ _ _ (sA' c (sb-1) () () ()) (m3' j () ())
     ·exact sB' c j () () ()
   ·rw[X9 b1];by_cases b2:sa+k<=j/\j<sa+k+(r+m)
    ·rw[Yb b2];obtain⟨c,c1,c2⟩:=memR (j-(sa+k)) ();rw[c1];rcases c2 with c2|c2
     ·exact sA' i c () () ()
     ·exact o.tr _ _ _ (k2' i () ()) (sB' sb c (Yi _) () ())
    ·rw[X9 b2];by_cases b3:j<sb
     ·exact sA' i j a1 a2 b3
     ·by_cases b4:sb<=i
      ·exact sB' i j b4 a2 ()
      ·exact o.tr _ _ _ (k2' i a1 ()) (sB' sb j (Yi _) () ())
 have fin:∀(R:Array Nat) (st3:SortSt),Same κ st2 st3->lZ le ((p.extract (sa+k) sb).toList++(p.extract sb (sb+m)).toList) R ->
   Q (failedOf st3).isNone (setArr st3 ((R.map (kas_item it)).toList.zipIdx.foldl (λa x=>a.setIfInBounds (sa+k+x.2) x.1) (arrOf st3))):=λR st3 sm g=>by
  obtain⟨ZQ,S⟩:=key R g;have ea:arrOf st3=p.map (kas_item it):=sm.2.1.trans T.2.1;have ef:failedOf st3=none:=sm.2.2.2.trans T.2.2.2;rw[ef];refine h _ _ ⟨sm.1,?_,sm.2.2.1.trans T.2.2.1,ef⟩ S;show (R.map (kas_item it)).toList.zipIdx.foldl (λa x=>a.setIfInBounds (sa+k+x.2) x.1) (arrOf st3)=_;rw[ea];apply Array.toList_inj.1;rw[ll (sa+k) _ _ 0 (by simp at ZQ ⊢;lia)];simp
 have cx:(p.map (kas_item it)).extract (sa+k) sb=(p.extract (sa+k) sb).map (kas_item it):=by simp
 have cy:(p.map (kas_item it)).extract sb (sb+m)=(p.extract sb (sb+m)).map (kas_item it):=by simp
 rw[cx,cy];have hx:∀i,i<(p.extract (sa+k) sb).size->at' (p.extract (sa+k) sb) i<n:=λi hi=>by rw[ax i ()];exact hp _ ()
 have hy:∀i,i<(p.extract sb (sb+m)).size->at' (p.extract sb (sb+m)) i<n:=λi hi=>by rw[ay i ()];exact hp _ ()
 have sx:∀i j,i<=j->j<(p.extract (sa+k) sb).size->le (at' (p.extract (sa+k) sb) i) (at' (p.extract (sa+k) sb) j):=λi j a1 a2=>by rw[ax i (),ax j ()];exact sA' _ _ () () ()
 have sy:∀i j,i<=j->j<(p.extract sb (sb+m)).size->le (at' (p.extract sb (sb+m)) i) (at' (p.extract sb (sb+m)) j):=λi j a1 a2=>by rw[ay i (),ay j ()];exact sB' _ _ () () ()
 have hf:∀i,i<(p.extract (sa+k) sb).size->le (at' (p.extract sb (sb+m)) 0) (at' (p.extract (sa+k) sb) i):=λi a1=>by rw[ay 0 (),ax i ()];exact k3' _ () ()
 have hl:∀i,i<(p.extract sb (sb+m)).size->le (at' (p.extract sb (sb+m)) i) (at' (p.extract (sa+k) sb) ((p.extract (sa+k) sb).size-1)):=λi a1=>by rw[zx,ay i (),ax _ (),show sa+k+(r-1)=sb-1 by lia];exact m2' _ () ()
 by_cases e4:r<=m
 ·rw[Yb e4];refine Yd (IU o hc T.1 hx hy () () sx sy hf hl λR st3 sm g=>?_);exact Yd (aaD (Yd (aaB (Yh (fin R st3 sm g)))))
 ·rw[X9 e4];refine Yd (IR o hc T.1 hx hy () () sx sy hf hl λR st3 sm g=>?_);exact Yd (aaD (Yd (aaB (Yh (fin R st3 sm g)))))
end
section
variable {le:Nat->Nat->Prop}{lt:Nat->Nat->Bool}{p p' p2:Array Nat}{a b c:Nat}
def Up(le:Nat->Nat->Prop)(p:Array Nat)(a b:Nat):Prop:=∀i j,a<=i->i<=j->j<b->le (at' p i) (at' p j)
def Dn(le:Nat->Nat->Prop)(p:Array Nat)(a b:Nat):Prop:=∀i j,a<=i->i<=j->j<b->le (at' p j) (at' p i)
def Es(le:Nat->Nat->Prop)(p:Array Nat)(a b:Nat):Prop:=∀k,a<=k->k<b->le (at' p k) (at' p (b-1))/\le (at' p (b-1)) (at' p k)
def Near(p p':Array Nat)(lo hi:Nat):Prop:=p'.Perm p/\∀k,k<lo\/hi<=k->at' p' k=at' p k
def Near.rf:Near p p a b:=⟨.refl _,λ_ _=>rfl⟩
def Near.tr(h:Near p p' a b)(h2:Near p' p2 a b):Near p p2 a b:=⟨h2.1.trans h.1,λk hk=>(h2.2 k hk).trans (h.2 k hk)⟩
def Near.wide{d e:Nat}(h:Near p p' a b)(h1:d<=a)(h2:b<=e):Near p p' d e:=⟨h.1,λk hk=>h.2 k ()⟩
def Near.size(h:Near p p' a b):p'.size=p.size:=h.1.size_eq
def qy(h:b<=p.size):Near p (kas_rev p a b) a b:=⟨mirror_perm _ _ _ _,λk hk=>#v[dt h,X9 ()]⟩
def Cj{d:Nat}(h:b<p.size)(hd:d<=b):Near p (bubble p b d) (b-d) (b+1):=⟨bubble_perm _ _ _,λk hk=>#v[rh h hd,X9 (),X9 ()]⟩
def Up.succ(o:Ord lt le)(h:Up le p a b)(hab:a<b)(hl:le (at' p (b-1)) (at' p b)):Up le p a (b+1):=λi j h1 h2 h3=>by
 by_cases e:j=b
 ·subst e;by_cases e2:i=j
  ·subst e2;exact o.rf _
  ·exact o.tr _ _ _ (h i (j-1) h1 () ()) hl
 ·exact h i j h1 h2 ()
def Dn.succ(o:Ord lt le)(h:Dn le p a b)(hab:a<b)(hl:le (at' p b) (at' p (b-1))):Dn le p a (b+1):=λi j h1 h2 h3=>by
 by_cases e:j=b
 ·subst e;by_cases e2:i=j
  ·subst e2;exact o.rf _
  ·exact o.tr _ _ _ hl (h i (j-1) h1 () ())
 ·exact h i j h1 h2 ()
def R8(o:Ord lt le):Up le p a (a+1):=λi j h1 h2 h3=>by
 have:i=j:=()
 subst this;exact o.rf _
def Up.of(h:Up le p a b)(k:∀i,a<=i->i<b->at' p' i=at' p i):Up le p' a b:=λi j h1 h2 h3=>by rw[k i h1 (),k j () h3];exact h i j h1 h2 h3
def Dn.rev(o:Ord lt le)(h:Dn le p a b)(hb:b<=p.size)(hc:a<=c)(he:Es le p c b):Dn le (kas_rev p c b) a b:=by
 have key:∀k,a<=k->k<b->∃k',a<=k'/\k'<b/\at' (kas_rev p c b) k=at' p k'/\le (at' p k') (at' p k)/\le (at' p k) (at' p k'):=λk hk0 hk=>by
  rw[dt hb];split
  ·rename_i h1;refine⟨c+b-1-k,(),(),rfl,?_⟩;obtain⟨a1,a2⟩:=he k h1.1 hk;obtain⟨b1,b2⟩:=he (c+b-1-k) () ();exact⟨o.tr _ _ _ b1 a2,o.tr _ _ _ a1 b2⟩
  ·exact⟨k,hk0,hk,rfl,o.rf _,o.rf _⟩
 intro i j h0 hij hj;obtain⟨i',_,_,e1,x1,x2⟩:=key i h0 ();obtain⟨j',_,_,e2,y1,y2⟩:=key j () hj;rw[e1,e2];exact o.tr _ _ _ y1 (o.tr _ _ _ (h i j h0 hij hj) x2)
def Dn.turn(h:Dn le p a b)(hb:b<=p.size):Up le (kas_rev p a b) a b:=by intro i j h0 hij hj;rw[dt hb,dt hb,Yb ⟨h0,()⟩,Yb ⟨(),hj⟩];exact h _ _ () () ()
def D1(o:Ord lt le)(h:a+1=b):Es le p a b:=λk h1 h2=>by
 have:k=b-1:=()
 subst this;exact⟨o.rf _,o.rf _⟩
end
section
variable {prog:Program}{w:World}{A:Around}{E:Ze}{s:Shared}{κ:SortKind}{it:Array Keyed}{n:Nat}{lt:Nat->Nat->Bool}{le:Nat->Nat->Prop}{p:Array Nat}{pend:Array (Nat×Nat×Nat)}{st:SortSt}
def sF(hc:xh prog w A s κ it n lt)(S:pK κ it st p pend)(hp:∀i,i<p.size->at' p i<n){i j:Nat}{Q:Option Bool->SortSt->Prop}(hi:i<p.size)(hj:j<p.size)(h:Q (some (lt (at' p i) (at' p j))) st):wpS (model prog w) A E s (ltAt' i j) Q st:=by rw[ltAt'_eq];refine Yd (aaB ?_);dsimp only;rw[S.2.1];exact Yd (bU hi (Yd (bU hj (w_lt hc S.1 (hp _ hi) (hp _ hj) h))))
def GD(S:pK κ it st p pend){i j:Nat}{Q:Unit->SortSt->Prop}(h:∀st',pK κ it st' (kas_rev p i j) pend->Q Unit.unit st'):wpS (model prog w) A E s (reverseSlice' i j) Q st:=by rw[reverseSlice'_eq];refine aaD (h _ ⟨S.1,?_,S.2.2⟩);show mirror (arrOf st) i j ((j-i)/2)=_;rw[S.2.1];exact kas_swaps_map (kas_item it) (λk=>i+k) (λk=>j-1-k) _ p
def Sb(S:pK κ it st p pend){i j:Nat}{Q:Unit->SortSt->Prop}(h:∀st',pK κ it st' (bubble p i (i-j)) pend->Q Unit.unit st'):wpS (model prog w) A E s (moveDown' i j) Q st:=by rw[moveDown'_eq];refine aaD (h _ ⟨S.1,?_,S.2.2⟩);show bubble (arrOf st) i (i-j)=_;rw[S.2.1];exact kas_swaps_map (kas_item it) (λk=>i-k) (λk=>i-k-1) _ p
def Uq(o:Ord lt le)(hc:xh prog w A s κ it n lt)(S:pK κ it st p pend)(hp:∀p':Array Nat,p'.Perm p->∀i,i<p'.size->at' p' i<n){lo m ok:Nat}{Q:Bool->SortSt->Prop}(hz:lo+m<=p.size)(hok:ok<=m)(ok1:1<=ok)(hs:Up le p lo (lo+ok))
  (h:∀p' st',pK κ it st' p' pend->Near p p' lo (lo+m)->Up le p' lo (lo+m)->Q true st'):wpS (model prog w) A E s (binarySort' lo m ok) Q st:=by
 refine Yd (aai (aaj (I:=λk c st'=>c=(none,Unit.unit)/\∃p',pK κ it st' p' pend/\Near p p' lo (lo+m)/\Up le p' lo (lo+min k m))
  (Q:=λc st'=>c=(none,Unit.unit)/\∃p',pK κ it st' p' pend/\Near p p' lo (lo+m)/\Up le p' lo (lo+m)) ?step ?fin ?init) ?post)
 case post=>
  rintro c st' ⟨rfl,p',S',N,U⟩;exact Yh (h p' st' S' N U)
 case init=>exact⟨rfl,p,S,.rf,by rw[show min (max ok 1) m=ok by lia];exact hs⟩
 case fin=>
  rintro c st' ⟨hc',p',S',N,U⟩;exact⟨hc',p',S',N,by rwa[show min (max (max ok 1) m) m=m by lia] at U⟩
 case step=>
  rintro k c st' hak hkn ⟨rfl,p',S',N,U⟩;rw[show min k m=k by lia] at U;have hsz:=N.size;have hk1:1<=k:=()
  have hkm:k<m:=()
  clear hak hkn hok ok1 hs
  refine Yd (aai (aaj (I:=λx c st''=>st''=st'/\∃l r,c=(none,l,r)/\l<=r/\r<=k/\r+x<=k+l /\
    (∀i,i<l->le (at' p' (lo+i)) (at' p' (lo+k)))/\(∀i,r<=i->i<k->le (at' p' (lo+k)) (at' p' (lo+i))))
   (Q:=λc st''=>st''=st'/\∃l r,c=(none,l,r)/\l<=k /\
    (∀i,i<l->le (at' p' (lo+i)) (at' p' (lo+k)))/\(∀i,l<=i->i<k->le (at' p' (lo+k)) (at' p' (lo+i)))) ?istep ?ifin ?iinit) ?ipost)
  case iinit=>exact⟨rfl,0,k,rfl,(),(),(),λi hi=>(),λi h1 h2=>()⟩
  case ifin=>
   rintro c st'' ⟨rfl,l,r,rfl,hlr,hrk,hm,hlo,hhi⟩;have:l=r:=()
   subst this;exact⟨rfl,l,l,rfl,hrk,hlo,hhi⟩
  case istep=>
   rintro x c st'' _ hxk ⟨rfl,l,r,rfl,hlr,hrk,hm,hlo,hhi⟩;dsimp only;by_cases hge:l ≥ r
   ·rw[Yb hge];have:l=r:=()
    subst this;exact Yh ⟨rfl,l,l,rfl,hrk,hlo,hhi⟩
   ·rw[X9 hge];refine Yd (sF hc S' (hp _ N.1) () () ?_);dsimp only;cases cw:lt (at' p' (lo+k)) (at' p' (lo+(l+r)/2)) with
    |true=>
     rw[Yb rfl];exact Yh ⟨rfl,l,(l+r)/2,rfl,(),(),(),hlo,λi h1 h2=>o.tr _ _ _ (o.yes _ _ cw) (U _ _ () () ())⟩
    |false=>rw[X9 (by decide)];exact Yh ⟨rfl,(l+r)/2+1,r,rfl,(),(),(),λi h1=>o.tr _ _ _ (U _ _ () () ()) (o.no _ _ cw),hhi⟩
  case ipost=>
   rintro c st'' ⟨rfl,l,r,rfl,hlk,hlo,hhi⟩;dsimp only;refine Yd (Sb S' λst3 S3=>Yh ⟨rfl,_,S3,N.tr ((Cj () ()).wide () ()),?_⟩);rw[show min (k+1) m=k+1 by lia,show lo+k-(lo+l)=k-l by lia];intro i j h1 h2 h3;rw[rh () (),rh () ()];rw[show lo+k-(k-l)=lo+l by lia];by_cases i1:i=lo+l
   ·rw[Yb i1];by_cases j1:j=lo+l
    ·rw[Yb j1];exact o.rf _
    ·rw[X9 j1];rw[Yb ()];have:=hhi (j-1-lo) () ();rwa[show lo+(j-1-lo)=j-1 by lia] at this
   ·rw[X9 i1];by_cases j1:j=lo+l
    ·rw[Yb j1,X9 ()];have:=hlo (i-lo) ();rwa[show lo+(i-lo)=i by lia] at this
    ·rw[X9 j1];by_cases i2:lo+l<i/\i<=lo+k
     ·rw[Yb i2,Yb ()];exact U _ _ () () ()
     ·rw[X9 i2];by_cases j2:lo+l<j/\j<=lo+k
      ·rw[Yb j2];exact U _ _ () () ()
      ·rw[X9 j2];exact U _ _ () () ()
def MJ{σ α:Type}{M:Model}{jp:Unit->StateT σ Sem α}{m:StateT σ Sem α}{Q:α->σ->Prop}{st:σ}(P:σ->Prop)(h:∀st,P st->wpS M A E s (jp Unit.unit) Q st)(k:(∀st,P st->wpS M A E s (jp Unit.unit) Q st)->wpS M A E s m Q st):wpS M A E s m Q st:=k h
def OU(o:Ord lt le)(hc:xh prog w A s κ it n lt)(S:pK κ it st p pend)(hp:∀p':Array Nat,p'.Perm p->∀i,i<p'.size->at' p' i<n){lo nrem:Nat}{Q:Option Nat->SortSt->Prop}(h1:1<=nrem)(hz:lo+nrem<=p.size)
  (h:∀m p' st',pK κ it st' p' pend->1<=m->m<=nrem->Near p p' lo (lo+m)->Up le p' lo (lo+m)->Q (some m) st'):wpS (model prog w) A E s (countRun' lo nrem) Q st:=by
 refine Yd (aai (aaj (I:=λx c st'=>st'=st/\c=(none,x)/\x<=nrem/\Up le p lo (lo+x))
  (Q:=λc st'=>st'=st/\∃m,c=(none,m)/\1<=m/\m<=nrem/\Up le p lo (lo+m)/\(m<nrem->le (at' p (lo+m)) (at' p (lo+m-1)))) ?s1 ?f1 ?i1) ?p1)
 case i1=>exact⟨rfl,rfl,h1,R8 o⟩
 case f1=>
  rintro c st' ⟨rfl,rfl,k1,k2⟩;exact⟨rfl,_,rfl,(),k1,k2,λ_=>()⟩
 case s1=>
  rintro x c st' hx0 hx ⟨rfl,rfl,k1,k2⟩;dsimp only;refine Yd (sF hc S (hp p (.refl _)) () () ?_);dsimp only;cases cw:lt (at' p (lo+x)) (at' p (lo+x-1)) with
  |true=>
   rw[Yb rfl];exact Yh ⟨rfl,x,rfl,hx0,k1,k2,λ_=>o.yes _ _ cw⟩
  |false=>rw[X9 (by decide)];exact Yh ⟨rfl,rfl,(),Up.succ (b:=lo+x) o k2 () (o.no _ _ cw)⟩
 case p1=>
  rintro c st' ⟨rfl,m,rfl,m1,m2,U,hd⟩;dsimp -zeta only
  extract_lets -underBinder r n
  change wpS (model prog w) A E s (ite _ _ _) Q st';refine bF (λe=>Yh (h m p st' S m1 m2 .rf U)) λe=>?_;have e1':m<nrem:=by change ¬(m==nrem)=true at e;simp at e;lia
  clear e
  extract_lets -underBinder jp
  refine MJ (jp:=jp) (λst=>∃px,pK κ it st px pend/\Dn le px lo (lo+(m+1))/\Near p px lo (lo+(m+1))) ?_ λhj=>?_
  ·rintro stx ⟨px,Sx,Dx,Nx⟩;refine Yd (abt (aao ⟨rfl,?_⟩))
   refine Yd (aai (aaj (I:=λx c st'=>∃q p',c=(none,x,q)/\pK κ it st' p' pend/\Near p p' lo (lo+x)/\x<=nrem/\q+1<=x/\Dn le p' lo (lo+x)/\Es le p' (lo+x-(q+1)) (lo+x))
    (Q:=λc st'=>∃x q p',c=(none,x,q)/\m+1<=x/\pK κ it st' p' pend/\Near p p' lo (lo+x)/\x<=nrem/\q+1<=x/\Dn le p' lo (lo+x)/\Es le p' (lo+x-(q+1)) (lo+x)) ?s2 ?f2 ?i2) ?p2)
   case i2=>exact⟨0,px,rfl,Sx,Nx,by show m+1<=nrem;lia,by show 0+1<=m+1;lia,Dx,D1 o (by show lo+(m+1)-(0+1)+1=lo+(m+1);lia)⟩
   case f2=>
    rintro c st' ⟨q,p',rfl,S',N',k1,k2,D',E'⟩;exact⟨_,q,p',rfl,by show m+1<=max (m+1) nrem;lia,S',N',k1,k2,D',E'⟩
   case s2=>
    rintro x c st' hx0 hx ⟨q,p',rfl,S',N',k1,k2,D',E'⟩;dsimp only;have hs2:=N'.size;refine Yd (sF hc S' (hp _ N'.1) () () ?_);dsimp only;cases cw:lt (at' p' (lo+x)) (at' p' (lo+x-1)) with
    |true=>
     rw[Yb rfl];have hl:=o.yes _ _ cw;by_cases q0:q > 0
     ·rw[Yb q0];refine Yd (GD S' λst4 S4=>Yh ?_);have d1:=D'.rev o () () E';have b1:at' (kas_rev p' (lo+x-(q+1)) (lo+x)) (lo+x)=at' p' (lo+x):=by rw[dt (),X9 ()]
      have b2:at' (kas_rev p' (lo+x-(q+1)) (lo+x)) (lo+x-1)=at' p' (lo+x-(q+1)):=by rw[dt (),Yb ()];congr 1;lia
      exact⟨0,_,rfl,S4,(N'.tr ((qy ()).wide () ())).wide () (),(),(),Dn.succ (b:=lo+x) o d1 () (by rw[b1,b2];exact o.tr _ _ _ hl (E' _ (Yi _) ()).2),D1 o ()⟩
     ·rw[X9 q0];exact Yh ⟨0,p',rfl,S',N'.wide () (),(),(),Dn.succ (b:=lo+x) o D' () hl,D1 o ()⟩
    |false=>
     rw[X9 (by decide)];have g1:=o.no _ _ cw;refine Yd (sF hc S' (hp _ N'.1) () () ?_);dsimp only;cases cw2:lt (at' p' (lo+x-1)) (at' p' (lo+x)) with
     |true=>
      rw[Yb rfl];exact Yh ⟨x,q,p',rfl,hx0,S',N',k1,k2,D',E'⟩
     |false=>
      rw[X9 (by decide)];have g2:=o.no _ _ cw2;refine Yh ⟨q+1,p',rfl,S',N'.wide () (),(),(),Dn.succ (b:=lo+x) o D' () g2,λk a1 a2=>?_⟩;rw[show lo+(x+1)-1=lo+x by lia];by_cases hk:k=lo+x
      ·subst hk;exact⟨o.rf _,o.rf _⟩
      ·obtain⟨x1,x2⟩:=E' k () ();exact⟨o.tr _ _ _ x1 g1,o.tr _ _ _ g2 x2⟩
   case p2=>
    rintro c st' ⟨x,q,p',rfl,x1,S',N',x2,x3,D',E'⟩;dsimp -zeta only
    extract_lets -underBinder s2 n2 q2
    dsimp -zeta only[r]
    extract_lets -underBinder jp2
    have hs2:=N'.size;have hx:s2.1=x:=rfl;have hq:s2.2=q:=rfl;refine MJ (jp:=jp2) (λst=>∃pX,pK κ it st pX pend/\Dn le pX lo (lo+x)/\Near p pX lo (lo+x)) ?_ λhj=>bF (λq0=>Yd (GD S' λstX SX=>hj _ ⟨_,SX,D'.rev o () () E',N'.tr ((qy ()).wide (a:=lo+x-(q+1)) (b:=lo+x) (d:=lo) (e:=lo+x) () ())⟩)) λ_=>hj _ ⟨p',S',D',N'⟩;rintro stX ⟨pX,SX,DX,NX⟩;refine Yd (GD SX λst4 S4=>?_);replace S4:pK κ it st4 (kas_rev pX lo (lo+x)) pend:=S4;have hs4:=NX.size;have N4:=NX.tr (qy (a:=lo) (b:=lo+x) ());have U4:=DX.turn ()
    refine Yd (aai (aaj (I:=λy c st'=>st'=st4/\c=(none,y)/\y<=nrem/\Up le (kas_rev pX lo (lo+x)) lo (lo+y))
     (Q:=λc st'=>st'=st4/\∃y,c=(none,y)/\x<=y/\y<=nrem/\Up le (kas_rev pX lo (lo+x)) lo (lo+y)) ?s3 ?f3 ?i3) ?p3)
    case i3=>exact⟨rfl,rfl,x2,U4⟩
    case f3=>
     rintro c st' ⟨rfl,rfl,k1,k2⟩;exact⟨rfl,_,rfl,by show x<=max x nrem;lia,k1,k2⟩
    case s3=>
     rintro y c st' hy0 hy ⟨rfl,rfl,k1,k2⟩;change x<=y at hy0;dsimp only;have hs5:=N4.size;refine Yd (sF hc S4 (hp _ N4.1) () () ?_);dsimp only;cases cw:lt (at' (kas_rev pX lo (lo+x)) (lo+y)) (at' (kas_rev pX lo (lo+x)) (lo+y-1)) with
     |true=>
      rw[Yb rfl];exact Yh ⟨rfl,y,rfl,hy0,k1,k2⟩
     |false=>rw[X9 (by decide)];exact Yh ⟨rfl,rfl,(),Up.succ (b:=lo+y) o k2 () (o.no _ _ cw)⟩
    case p3=>
     rintro c st' ⟨rfl,y,rfl,y1,y2,U⟩;exact Yh (h y _ st' S4 () y2 (N4.wide (Yi _) ()) U)
  ·refine bF (λe2=>Yd (sF hc S (hp p (.refl _)) (by show lo<p.size;lia) (by show lo+m-1<p.size;lia) ?_)) λe2=>hj _ ⟨p,S,Dn.succ (b:=lo+m) o (λi j a1 a2 a3=>by
    have:i=j:=by change ¬m > 1 at e2;lia
    subst this;exact o.rf _) () (hd ()),.rf⟩
   dsimp -zeta only;cases cw:lt (at' p lo) (at' p (lo+m-1)) with
   |true=>
    rw[Yb rfl];exact Yh (h m p st' S m1 m2 .rf U)
   |false=>
    rw[X9 (by decide)];have g0:=o.no _ _ cw;have same:∀i j,lo<=i->i<lo+m->lo<=j->j<lo+m->le (at' p i) (at' p j):=λi j a1 a2 a3 a4=>o.tr _ _ _ (U i (lo+m-1) a1 () ()) (o.tr _ _ _ g0 (U lo j (Yi _) a3 a4));have d0:Dn le (kas_rev p lo (lo+m)) lo (lo+m):=λi j a1 a2 a3=>by rw[dt (),dt (),Yb (),Yb ()];exact same _ _ () () () ()
    exact Yd (GD S λstx Sx=>hj _ ⟨_,Sx,Dn.succ (b:=lo+m) o d0 () (by
     rw[dt (),dt (),X9 (),Yb ()]
     exact o.tr _ _ _ (hd ()) (same _ _ () () () ())),(qy ()).wide (Yi _) ()⟩)
end
section
variable {le:Nat->Nat->Prop}{p p':Array Nat}{a b c:Nat}
def Rn(le:Nat->Nat->Prop)(p:Array Nat):Nat->List (Nat×Nat×Nat)->Nat->Prop
 |a,[],b=>a=b
 |a,e::es,b=>e.1=a/\1<=e.2.1/\Up le p a (a+e.2.1)/\Rn le p (a+e.2.1) es b
theorem Rn.len_le:∀ {l:List (Nat×Nat×Nat)} {a:Nat},Rn le p a l b->a+l.length<=b
 |[],a,h=>by have:a=b:=h;simp[this]
 |e::es,a,h=>by have:=Rn.len_le h.2.2.2;have:=h.2.1;simp;lia
theorem Rn.of:∀ {l:List (Nat×Nat×Nat)} {a:Nat},Rn le p a l b->(∀k,a<=k->k<b->at' p' k=at' p k)->Rn le p' a l b
 |[],a,h,_=>h
 |e::es,a,h,k=>⟨h.1,h.2.1,h.2.2.1.of λi h1 h2=>k i h1 (by have:=Rn.len_le h.2.2.2;lia),Rn.of h.2.2.2 λi h1 h2=>k i () h2⟩
theorem Rn.app:∀ {l l':List (Nat×Nat×Nat)} {a:Nat},Rn le p a (l++l') b->∃c,Rn le p a l c/\Rn le p c l' b
 |[],l',a,h=>⟨a,rfl,h⟩
 |e::es,l',a,h=>by obtain⟨c,h1,h2⟩:=Rn.app h.2.2.2;exact⟨c,⟨h.1,h.2.1,h.2.2.1,h1⟩,h2⟩
theorem Rn.put:∀ {l l':List (Nat×Nat×Nat)} {a:Nat},Rn le p a l c->Rn le p c l' b->Rn le p a (l++l') b
 |[],l',a,h,h2=>by have:a=c:=h;subst this;exact h2
 |e::es,l',a,h,h2=>⟨h.1,h.2.1,h.2.2.1,Rn.put h.2.2.2 h2⟩
theorem Rn.same:∀ {l l':List (Nat×Nat×Nat)} {a:Nat},(l.map λe=>(e.1,e.2.1))=(l'.map λe=>(e.1,e.2.1))->Rn le p a l b->Rn le p a l' b
 |[],[],a,_,h=>h
 |[],_::_,a,h,_=>by simp at h
 |_::_,[],a,h,_=>by simp at h
 |e::es,e'::es',a,h,k=>by simp only[Yo,List.cons.injEq,acr] at h;obtain⟨⟨h1,h2⟩,h3⟩:=h;obtain⟨k1,k2,k3,k4⟩:=k;rw[h1] at k1;rw[h2] at k2 k3 k4;exact⟨k1,k2,k3,Rn.same h3 k4⟩
def NG{c:Prop}[Decidable c]{k m:Nat}(h:k+1<m):(if c then k-1 else k)+1<m:=by split<;>lia
def RK{α:Type}(x z:α)(r:List α):∀pre:List α,(pre++x::r).set pre.length z=pre++z::r
 |[]=>rfl
 |y::pre=>by simp
theorem JL{α:Type}(z y:α)(r:List α):∀pre:List α,(pre++z::y::r).eraseIdx (pre.length+1)=pre++z::r
 |[]=>rfl
 |x::pre=>by have:=JL z y r pre;simp only[List.cons_append,Yk,aes,this]
def RQ{α:Type}{l:List α}{i:Nat}(h:i+1<l.length):∃pre x y post,l=pre++x::y::post/\pre.length=i:=by refine⟨l.take i,l[i],l[i+1],l.drop (i+2),?_,by rw[aa2];lia⟩;rw[<-abL h,<-abL (),acB]
end
section
variable {prog:Program}{w:World}{A:Around}{E:Ze}{s:Shared}{κ:SortKind}{it:Array Keyed}{n:Nat}{lt:Nat->Nat->Bool}{le:Nat->Nat->Prop}{p:Array Nat}{pend:Array (Nat×Nat×Nat)}{st:SortSt}
def zb(o:Ord lt le)(hc:xh prog w A s κ it n lt)(S:pK κ it st p pend)(hp:∀i,i<p.size->at' p i<n){i b:Nat}{Q:Bool->SortSt->Prop}(hi:i+1<pend.size)(R:Rn le p 0 pend.toList b)(hb:b<=p.size)
  (h:∀p' pend' st',pK κ it st' p' pend'->Near p p' 0 b->Rn le p' 0 pend'.toList b->pend'.size+1=pend.size->Q true st'):wpS (model prog w) A E s (mergeAt' i) Q st:=by
 obtain⟨pre,⟨sa,na,pw⟩,⟨sb,nb,q⟩,post,e,hl⟩:=RQ (l:=pend.toList) (i:=i) (~~~hi);rw[e] at R;obtain⟨c,R1,R2⟩:=R.app;obtain⟨r1,r2,r3,r4,r5,r6,r7⟩:=R2;dsimp only at r1 r2 r3 r4 r5 r6 r7;subst r1;have hle:=r7.len_le;have g1:pend[i]?=some (sa,na,pw):=by rw[<-aaU,e,abp ()];simp[hl]
 have g2:pend[i+1]?=some (sb,nb,q):=by rw[<-aaU,e,abp ()];simp[hl]
 refine IQ o hc S g1 g2 r4 r2 r5 () hp (λi j a1 a2=>r3 _ _ () () ()) (λi j a1 a2=>r6 _ _ () () ()) λp' st' S' so=>?_;have en:((pend.setIfInBounds i (sa,na+nb,pw)).eraseIdxIfInBounds (i+1)).toList=pre++(sa,na+nb,pw)::post:=by
  have h2:i+1<(pend.setIfInBounds i (sa,na+nb,pw)).size:=by simpa using hi
  rw[Array.eraseIdxIfInBounds,aaL h2,Array.toList_eraseIdx,Array.toList_setIfInBounds,e,<-hl];rw[RK,JL]
 have hle1:=R1.len_le;refine h p' _ st' S' ⟨so.perm,λk hk=>so.out k ()⟩ ?_ ?_
 ·rw[en];refine Rn.put (R1.of λk _ h2=>so.out k ()) ⟨rfl,by dsimp only;lia,λi j a1 a2 a3=>so.asc i j a1 a2 a3,?_⟩;dsimp only;rw[show sa+(na+nb)=sa+na+nb by lia];exact r7.of λk h1 h2=>so.out k ()
 ·have e4:=Yt List.length en;have e3:=Yt List.length e;rw[YY] at e4 e3;rw[e4,e3];simp only[Yl,Yk];lia
def OX{σ α:Type}{M:Model}{c:Prop}{_:Decidable c}{F:Nat->StateT σ Sem α}{X:StateT σ Sem α}{m:Nat}{Q:α->σ->Prop}{st:σ}(R:Nat->σ->Prop)(h:∀k st,R k st->wpS M A E s (F k) Q st)(h1:c->(∀k st,R k st->wpS M A E s (F k) Q st)->wpS M A E s X Q st)(h2:¬c->R m st):wpS M A E s (if c then X else F m) Q st:=bF (λq=>h1 q h) λq=>h m st (h2 q)
def Sc(o:Ord lt le)(hc:xh prog w A s κ it n lt)(S:pK κ it st p #[])(hp:∀p':Array Nat,p'.Perm p->∀i,i<p'.size->at' p' i<n){Q:Unit->SortSt->Prop}
  (h:∀p' pend' st',pK κ it st' p' pend'->p'.Perm p->Up le p' 0 p.size->Q Unit.unit st'):wpS (model prog w) A E s sortRuns' Q st:=by
 rw[sortRuns'_eq];refine Yd (aaB ?_);dsimp only;rw[S.2.1,acb];generalize minRun' p.size p.size 0=minrun
 refine Yd (aai (aaj (I:=λx c st'=>∃lo p' pend',c=(none,lo)/\pK κ it st' p' pend'/\p'.Perm p/\Rn le p' 0 pend'.toList lo/\lo<=p.size/\x<=lo)
  (Q:=λc st'=>∃p' pend',c.1=none/\pK κ it st' p' pend'/\p'.Perm p/\Rn le p' 0 pend'.toList p.size) ?s1 ?f1 ?i1) ?p1)
 case i1=>exact⟨0,p,#[],rfl,S,.refl _,rfl,(),()⟩
 case f1=>
  rintro c st' ⟨lo,p',pend',rfl,S',P',R',l1,l2⟩;have:lo=p.size:=()
  subst this;exact⟨p',pend',rfl,S',P',R'⟩
 case s1=>
  rintro x c st' _ hx ⟨lo,p',pend',rfl,S',P',R',l1,l2⟩;dsimp only;by_cases e1:lo ≥ p.size
  ·rw[Yb e1];have:lo=p.size:=()
   subst this;exact Yh ⟨p',pend',rfl,S',P',R'⟩
  rw[X9 e1];have hs':=P'.size_eq;refine Yd (OU o hc S' (λq hq=>hp q (hq.trans P')) () () λm p2 st2 S2 m1 m2 N2 U2=>?_);have P2:=N2.1.trans P';have hs2:=P2.size_eq;have R2:Rn le p2 0 pend'.toList lo:=R'.of λk _ h2=>N2.2 k (.inl h2);dsimp only;apply OX (m:=m) (F:=_) (c:=_) (λnn st2=>∃p2,pK κ it st2 p2 pend'/\p2.Perm p/\Rn le p2 0 pend'.toList lo/\Up le p2 lo (lo+nn)/\1<=nn/\lo+nn<=p.size)
  ·clear S2 P2 R2 U2 N2 hs2 m1 m2;rintro nn st2 ⟨p2,S2,P2,R2,U2,hnn,hnn2⟩;refine Yd (aaB ?_);rw[S2.2.2.1];cases hbk:pend'.back? with
   |none=>
    dsimp only;refine Yd (aaD (Yh ⟨lo+nn,p2,pend'.push (lo,nn,0),rfl,⟨S2.1,S2.2.1,?_,S2.2.2.2⟩,P2,?_,(),()⟩))
    ·show (pendingOf st2).push _=_;rw[S2.2.2.1]
    ·rw[abM];exact R2.put ⟨rfl,hnn,U2,rfl⟩
   |some e=>
    obtain⟨s1,n1,z1⟩:=e;dsimp only;generalize power' _ _ _ _=pw
    refine Yd (aai (aaj (I:=λy c st3=>c=(none,Unit.unit)/\∃p3 pend3,pK κ it st3 p3 pend3/\p3.Perm p/\Rn le p3 0 pend3.toList lo/\Up le p3 lo (lo+nn))
     (Q:=λc st3=>c=(none,Unit.unit)/\∃p3 pend3,pK κ it st3 p3 pend3/\p3.Perm p/\Rn le p3 0 pend3.toList lo/\Up le p3 lo (lo+nn)) ?s2 ?f2 ?i2) ?p2)
    case i2=>exact⟨rfl,p2,pend',S2,P2,R2,U2⟩
    case f2=>exact λc st3 h=>h
    case s2=>
     rintro y c st3 _ hy ⟨rfl,p3,pend3,S3,P3,R3,U3⟩;refine Yd (aaB ?_);rw[S3.2.2.1];by_cases c1:pend3.size > 1
     ·rw[Yb c1];cases hg:pend3[pend3.size-2]? with
      |none=>exact Yh ⟨rfl,p3,pend3,S3,P3,R3,U3⟩
      |some e=>
       obtain⟨z2,z3,older⟩:=e;dsimp only;by_cases c2:older<=pw
       ·rw[Yb c2];exact Yh ⟨rfl,p3,pend3,S3,P3,R3,U3⟩
       ·rw[X9 c2];have hs3:=P3.size_eq;refine Yd (zb o hc S3 (hp _ P3) (i:=pend3.size-2) () R3 () λp4 pend4 st4 S4 N4 R4 _=>?_);exact Yh ⟨rfl,p4,pend4,S4,N4.1.trans P3,R4,U3.of λi h1 h2=>N4.2 i (.inr h1)⟩
     ·rw[X9 c1];exact Yh ⟨rfl,p3,pend3,S3,P3,R3,U3⟩
    case p2=>
     rintro c st3 ⟨rfl,p3,pend3,S3,P3,R3,U3⟩;dsimp only;refine Yd (aaD (Yd (aaD (Yh ⟨lo+nn,p3,(pend3.modify (pend3.size-1) λe=>(e.1,e.2.1,pw)).push (lo,nn,0),rfl,⟨S3.1,S3.2.1,?_,S3.2.2.2⟩,P3,?_,(),()⟩))))
     ·show ((pendingOf st3).modify ((pendingOf st3).size-1) _).push _=_;rw[S3.2.2.1]
     ·rw[abM];refine Rn.put (R3.same ?_) ⟨rfl,hnn,U3,rfl⟩;apply acd;intro k;rw[YG,YG,aaU,aaU,Array.getElem?_modify];split
      ·cases pend3[k]?<;>rfl
      ·rfl
  ·intro e2 hF;refine Yd (abt (aao ⟨rfl,?_⟩));refine Yd (Uq o hc S2 (λq hq=>hp q (hq.trans P2)) (m:=min (p.size-lo) minrun) () () m1 U2 λp3 st3 S3 N3 U3=>?_);rw[X9 (by decide)];exact hF _ _ ⟨p3,S3,N3.1.trans P2,R2.of λk _ h2=>N3.2 k (.inl h2),U3,(),()⟩
  ·exact λ_=>⟨p2,S2,P2,R2,U2,m1,()⟩
 case p1=>
  rintro⟨c,c'⟩ st' ⟨p',pend',hc1,S',P',R'⟩;dsimp only at hc1;subst hc1;dsimp only
  refine Yd (aai (aaj (I:=λx c st'=>∃p' pend',c=(none,Unit.unit)/\pK κ it st' p' pend'/\p'.Perm p/\Rn le p' 0 pend'.toList p.size/\pend'.size+x<=p.size)
   (Q:=λc st'=>∃p' pend',c=(none,Unit.unit)/\pK κ it st' p' pend'/\p'.Perm p/\Rn le p' 0 pend'.toList p.size/\pend'.size<=1) ?s5 ?f5 ?i5) ?p5)
  case i5=>exact⟨p',pend',rfl,S',P',R',by have:=R'.len_le;rw[YY] at this;lia⟩
  case f5=>
   rintro c st' ⟨p',pend',rfl,S',P',R',hl⟩;exact⟨p',pend',rfl,S',P',R',()⟩
  case s5=>
   rintro x c st' _ hx ⟨p',pend',rfl,S',P',R',hl⟩;refine Yd (aaB ?_);rw[S'.2.2.1];by_cases e1:pend'.size<=1
   ·rw[Yb e1];exact Yh ⟨p',pend',rfl,S',P',R',e1⟩
   rw[X9 e1];have hs':=P'.size_eq;refine Yd (zb o hc S' (hp _ P') ?_ R' () λp4 pend4 st4 S4 N4 R4 h4=>?_)
   ·exact NG ()
   ·exact Yh ⟨p4,pend4,rfl,S4,N4.1.trans P',R4,()⟩
  case p5=>
   rintro c st' ⟨p',pend',rfl,S',P',R',hl⟩;refine Yh (h p' pend' st' S' P' ?_);cases hq:pend'.toList with
   |nil=>
    rw[hq] at R';have:0=p.size:=R';intro i j _ _ h3;lia
   |cons e es=>
    cases es with
    |nil=>
     rw[hq] at R';obtain⟨r1,r2,r3,r4⟩:=R';have r4':0+e.2.1=p.size:=r4;rw[<-r4'];exact r3
    |cons e2 es=>have:=Yt List.length hq;rw[YY] at this;simp at this;lia
end
section
variable {prog:Program}{w:World}{A:Around}{E:Ze}{s:Shared}
structure Known(prog:Program)(w:World)(s:Shared)(vs:Zh)(κ:SortKind)(lt:Nat->Nat->Bool):Prop where
 kind:∀(A:Around) (E:Ze) (h':Heap) (Q:SortKind->Shared->Prop),(∀b o,s.heap.get? b=some o->h'.get? b=some o)->2<=vs.length->Q κ { s with heap:=h' }->wpAny (model prog w) A (keyKind' vs.toArray) Q E { s with heap:=h' }
 ask:∀(A:Around) (h':Heap) (i j:Nat) (C:Bool->Shared->Prop),(∀b o,s.heap.get? b=some o->h'.get? b=some o)->i<vs.length->j<vs.length->C (lt i j) { s with heap:=h' }->kas_ask prog w A κ vs i j C { s with heap:=h' }
def Known.on{lt:Nat->Nat->Bool}{h:Heap}(k:Known prog w s vs κ lt)(hk:∀b o,s.heap.get? b=some o->h.get? b=some o):Known prog w { s with heap:=h } vs κ lt:=
 ⟨λA E h' Q h2=>k.kind A E h' Q λb o e=>h2 b o (hk b o e),λA h' i j C h2=>k.ask A h' i j C λb o e=>h2 b o (hk b o e)⟩
def iV(vs:Zh)(p:Array Nat):Array Value:=(p.toList.map λi=>vs.getD i Value.none).toArray
def Ev{vs:Zh}{p:Array Nat}(h:p.size=vs.length):(iV vs p).size=vs.length:=by unfold iV;simp[h]
def CA:iV vs (List.range vs.length).toArray=vs.toArray:=by
 unfold iV;congr 1;apply List.ext_getElem
 ·simp
 ·intro i h1 h2;simp at h1;simp[h1]
def M7{le:Nat->Nat->Prop}(rf:∀a,le a a){n:Nat}(h:n<2)(p:Array Nat):Sg le p n:=λi j hij hj=>by
 have e:i=j:=()
 subst e;exact rf _
def B6{vs:Zh}{n:Nat} {lt:Nat->Nat->Bool}{le:Nat->Nat->Prop}{P:PySem.Fin->Shared->Prop}(o:Ord lt le)(ho:s.heap.get? a=some (seqObj "list" vs.toArray n)) (hN:vs.length<=sizeLine)
  (hk:∀h',(∀b o,b≠a->s.heap.get? b=some o->h'.get? b=some o)->Known prog w { s with heap:=h' } vs κ lt)
  (h:∀p:Array Nat,p.Perm (List.range vs.length).toArray->Sg le p vs.length->P (.done (.ret .none)) { s with heap:=sortedHeap s.heap a vs (iV vs p) }):wpAny (model prog w) A (Builtin.«list.sort» ⟨[.ref a],[]⟩) P E s:=by
 have ha:a<s.heap.objs.size:=Ys ho;obtain⟨e1,ho1⟩:∃e1,(s.heap.update a (Obj.mapSeq λ_=>#[])).get? a=some (seqObj "list" #[] e1):=⟨_,get?_update_seq ho λ_=>#[]⟩
 have ne1:a≠((s.heap.update a (Obj.mapSeq λ_=>#[])).push (seqObj "tuple" vs.toArray 0)).objs.size:=by rw[ado,adp];exact Yz (abr ha)
 have ne2:a≠(s.heap.update a (Obj.mapSeq λ_=>#[])).objs.size:=by rw[adp];exact Yz ha
 have ho6:(((s.heap.update a (Obj.mapSeq λ_=>#[])).push (seqObj "tuple" vs.toArray 0)).push (seqObj "list" #[] 0)).get? a=some (seqObj "list" #[] e1):=by rw[aet _ _ _ ne1,aet _ _ _ ne2,ho1]
 have keep:∀b q,b≠a->s.heap.get? b=some q->(((s.heap.update a (Obj.mapSeq λ_=>#[])).push (seqObj "tuple" vs.toArray 0)).push (seqObj "list" #[] 0)).get? b=some q:=λb q hb hq=>
  Yq _ (Yq _ ((aaV _ _ _ _ hb).trans hq))
 have K:=hk _ keep;rw[list_sort_plain];refine X8 (listItems_at ho rfl (X8 (listUpdate_at ho rfl (X8 (seqEpoch_at ho1 rfl (X8 (wpAny_newTuple (X8 (adq (Y1 ?_))))))))));dsimp only;have hn:vs.toArray.size=vs.length:=by simp
 have fin:∀(p:Array Nat) (st:SortSt),p.Perm (List.range vs.length).toArray->Sg le p vs.length->(arrOf st).map (·.2)=iV vs p->failedOf st=none ->
   wpAny (model prog w) A (do
    let touched:=(← seqEpoch a) != e1
    Builtin.List.listUpdate (.ref a) λ_=>(arrOf st).map (·.2)
    if let some e:=failedOf st then rule "list.sort.comparison-raised"; throw e
    if touched then rule "list.sort.modified"; raiseError "ValueError" "list modified during sort"
    ret .none) P E { s with heap:=((s.heap.update a (Obj.mapSeq λ_=>#[])).push (seqObj "tuple" vs.toArray 0)).push (seqObj "list" #[] 0) }:=λp st hp hs ho2 hf=>by
  have hz:(iV vs p).size<=sizeLine+1:=by rw[Ev (by rw[hp.size_eq];simp)];lia
  rw[ho2,hf];refine X8 (seqEpoch_at ho6 rfl (X8 (listUpdate_at ho6 rfl ?_ (hsz2:=hz))));simp only[bne_self_eq_false,acF,aaQ];exact Yc (h p hp hs)
 by_cases h2:vs.toArray.size<2
 ·rw[Yb h2,Yb h2];refine X8 (Yc ?_);rw[StateT.run_pure];refine X8 (Yc (fin (List.range vs.length).toArray _ (Array.Perm.refl _) (M7 o.rf () _) ?_ rfl));rw[CA];show ((vs.toArray.zip vs.toArray).map (·.2))=vs.toArray;apply Array.ext
  ·simp
  ·intro i h1 h2;simp
 ·rw[X9 h2,X9 h2];refine X8 (K.kind _ _ _ _ (λ_ _ e=>e) () ?_);have pos:0<vs.length:=()
  have perm0:∀p':Array Nat,p'.Perm (List.range vs.length).toArray->∀i,i<p'.size->at' p' i<vs.length:=λp' h' i _=>Qw pos h' i;have esz:(vs.toArray.zip vs.toArray).size=vs.length:=by simp
  have er:=kas_range (vs.toArray.zip vs.toArray);rw[esz] at er
  have run:=Sc (prog:=prog) (w:=w) (A:=A) (E:=E) (κ:=κ) (it:=vs.toArray.zip vs.toArray) (n:=vs.length) (lt:=lt) (le:=le) (p:=(List.range vs.length).toArray) (st:=SortSt.mk' κ (vs.toArray.zip vs.toArray) #[] 7 none)
   (s:={ s with heap:=((s.heap.update a (Obj.mapSeq λ_=>#[])).push (seqObj "tuple" vs.toArray 0)).push (seqObj "list" #[] 0) })
   (Q:=λ_ st=>∃p:Array Nat,(arrOf st).map (·.2)=iV vs p/\failedOf st=none/\p.Perm (List.range vs.length).toArray/\Sg le p vs.length) o
   (λi j C hi hj hc=>by rw[<-kat_ask_eq (ks:=vs) (vs:=vs) rfl];exact K.ask _ _ i j C (λ_ _ e=>e) hi hj hc) ⟨rfl,er.symm,rfl,rfl⟩ perm0
   (λp' pend' st' S' hp hu=>⟨p',kat_snds rfl S'.2.1,S'.2.2.2,hp,λi j hij hj=>hu i j (YR _) hij (~~~hj)⟩)
  refine X8 (aay run (λr s' hr=>?_) λ_ _ e=>e)
  ·obtain⟨rfl,p,e2,hf,hp,hs⟩:=hr;exact fin p r.2 hp hs e2 hf
def y6{vs:Zh} {lt:Nat->Nat->Bool}{le:Nat->Nat->Prop}{Q:Ze}(o:Ord lt le)(hl:s.heap.IsList l vs.toArray)(hN:vs.length<=sizeLine)(hk:Known prog w s vs κ lt)
  (h:∀p:Array Nat,p.Perm (List.range vs.length).toArray->Sg le p vs.length->Q (.ref (s.heap.objs.size+1)) { s with heap:=sortedAll s.heap vs (iV vs p) }):wpAny (model prog w) A (call (.builtin "sorted") [.ref l]) Q E s:=by
 have hz:vs.length<=sizeLine:=hN;have sz:((s.heap.push (seqObj "list" #[] 0)).update s.heap.objs.size (Obj.mapSeq (· ++ vs.toArray))).objs.size=s.heap.objs.size+1:=by rw[adp,ado]
 have at1:(((s.heap.push (seqObj "list" #[] 0)).update s.heap.objs.size (Obj.mapSeq (· ++ vs.toArray))).push (seqObj "list" vs.toArray 0)).get? (s.heap.objs.size+1)=some (seqObj "list" vs.toArray 0):=by rw[<-sz];exact Yy _ rfl
 have old:∀b q,s.heap.get? b=some q->b≠s.heap.objs.size+1/\(((s.heap.push (seqObj "list" #[] 0)).update s.heap.objs.size (Obj.mapSeq (· ++ vs.toArray))).push (seqObj "list" vs.toArray 0)).get? b=some q:=λb q e=>by have hb:=Ys e;refine⟨Yz (abr hb),Yq _ ?_⟩;rw[aaV _ _ _ _ (Yz hb)];exact Yq _ e
 refine aeu kind_sorted plain_sorted entry_sorted (args_sorted1 (.ref l)) ?_;unfold Builtin.«sorted»;refine X8 (m:=checkCount "sorted" 1 1 _) (Yc (X8 (collect_list hl (X8 (adq ?_ hz)) hz)));show wpAny (model prog w) _ _ _ _ { s with heap:=((s.heap.push (seqObj "list" #[] 0)).update s.heap.objs.size (Obj.mapSeq (· ++ vs.toArray))).push (seqObj "list" vs.toArray 0) };rw[sz];refine X8 (Y1 (aae slot_list_sort ⟨_,at1,rfl⟩ entry_list_sort (B6 (κ:=κ) (le:=le) o at1 hN (λh' kp=>?_) λp hp hs=>⟨_,rfl,Yc ⟨_,rfl,h p hp hs⟩⟩) (args_list_sort _)));exact hk.on λb q e=>kp b q (old b q e).1 (old b q e).2
def iJ:Zn->Zn->Bool
 |[],[]=>false
 |[],_::_=>true
 |_::_,[]=>false
 |x::xs,y::ys=>if x=y then iJ xs ys else decide (x<y)
theorem sX:∀a:Zn,iJ a a=false
 |[]=>rfl
 |x::xs=>by unfold iJ;rw[Yb rfl];exact sX xs
theorem vn:∀a b:Zn,iJ a b=true->iJ b a=false
 |[],[],h=>by unfold iJ at h;cases h
 |[],_::_,_=>by unfold iJ;rfl
 |_::_,[],h=>by unfold iJ at h;cases h
 |x::xs,y::ys,h=>by
  unfold iJ at h ⊢;by_cases e:x=y
  ·rw[Yb e] at h;rw[Yb e.symm];exact vn xs ys h
  ·rw[X9 e] at h;rw[X9 (YN e)];have:=Y6 h;exact YB ()
theorem vo:∀a b c:Zn,iJ b a=false->iJ c b=false->iJ c a=false
 |[],_,[],_,_=>rfl
 |[],[],_::_,_,h=>by unfold iJ at h;cases h<;>rfl
 |[],_::_,_::_,_,_=>by unfold iJ;rfl
 |_::_,[],_,h,_=>by unfold iJ at h;cases h
 |x::xs,y::ys,[],_,h=>by unfold iJ at h;cases h
 |x::xs,y::ys,z::zs,h1,h2=>by
  unfold iJ at h1 h2 ⊢;by_cases e1:y=x
  ·rw[Yb e1] at h1;by_cases e2:z=y
   ·rw[Yb e2] at h2;rw[Yb (e2.trans e1)];exact vo xs ys zs h1 h2
   ·rw[X9 e2] at h2;rw[X9 ()];have:=aaM h2;exact YB ()
  ·rw[X9 e1] at h1;have g1:=aaM h1;by_cases e2:z=y
   ·rw[X9 ()];exact YB ()
   ·rw[X9 e2] at h2;have g2:=aaM h2;rw[X9 ()];exact YB ()
def Kq(f:Nat->Zn):Ord (λi j=>iJ (f i) (f j)) (λi j=>iJ (f j) (f i)=false):=
 ⟨λa b c h1 h2=>vo _ _ _ h1 h2,λa=>sX _,λa b h=>vn _ _ h,λa b h=>h⟩
def SR(h:Heap)(v:Value)(ns:Zn):Prop:=∃a o xs n,v=.ref a/\h.get? a=some o/\o.cls=.type "tuple" /\ o.data=.seq xs n/\IntsAre xs.toList ns
def NP:∀(xs ys:Zh) (ns ms:Zn) (i:Nat) (fin:Bool) (Q:Bool->Shared->Prop),IntsAre xs ns->IntsAre ys ms->(fin=decide (xs.length<ys.length))->Q (iJ ns ms) s ->
  KatLex prog w A true fin Q (xs.zip ys) i s:=by
 intro xs;induction xs with
 |nil=>
  intro ys ns ms i fin Q hx hy hf hq;cases hx;rw[List.zip_nil_left];show Q fin s;rw[hf];cases hy with
  |nil|cons _ _ _=>exact hq
 |cons x xs ih=>
  intro ys ns ms i fin Q hx hy hf hq;cases hx with
  |cons a t tx=>
   cases hy with
   |nil=>
    rw[List.zip_nil_right];show Q fin s;rw[hf];exact hq
   | @cons c u ys' ms' ty=>
    rw[ace];refine kat_cons ((aei a t c u) prog w _ _ ?_);unfold iJ at hq;by_cases e:a=c
    ·rw[Yb e] at hq;have eb:(a==c)=true:=by simpa using e
     rw[eb];exact kat_yes (ih ys' _ ms' (i+1) fin Q tx ty (by rw[hf];simp) hq)
    ·rw[X9 e] at hq;have eb:(a==c)=false:=by simpa using e
     rw[eb];refine kat_no ?_;cases q:i==0 with
     |true=>exact oneLt_int hq
     |false=>exact kat_one _ _ (lt_int hq)
def Eb{vs:Zh}{f:Nat->Zn}(hv:∀i,i<vs.length->SR s.heap (vs.getD i Value.none) (f i)/\f i≠[]):Known prog w s vs (tuples' true) λi j=>iJ (f i) (f j):=by
 refine⟨λA E h' Q hk h2 hq=>?_,λA h' i j C hk hi hj hc=>?_⟩
 ·have hv':∀v∈vs,∃n t rest a o xs k,v=.ref a/\h'.get? a=some o/\o.cls=.type "tuple" /\ o.data=.seq xs k/\xs.toList=Value.int n t::rest:=λv hm=>by
   obtain⟨i,hi,e⟩:=acG hm;obtain⟨⟨a,o,xs,k,e1,e2,e3,e4,e5⟩,ne⟩:=hv i hi;have ev:vs.getD i Value.none=v:=by rw[aaW,YS hi];exact e
   rw[ev] at e1;revert e5 ne;generalize f i=ns;generalize ex:xs.toList=L;intro ne e5;cases e5 with
   |nil=>exact absurd rfl ne
   | @cons n t vs' ns' tl=>exact⟨n,t,vs',a,o,xs,k,e1,hk _ _ e2,e3,e4,ex⟩
  have fs:∀L:Zh,(∀v∈L,∃n t rest a o xs k,v=.ref a/\h'.get? a=some o/\o.cls=.type "tuple" /\ o.data=.seq xs k/\xs.toList=Value.int n t::rest)->∃gs,KatTups h' L gs/\gs.length=L.length/\∀v∈gs,∃n t,v=Value.int n t:=by
   intro L;induction L with
   |nil=>exact λ_=>⟨[],.nil,rfl,λ_ h=>(by cases h)⟩
   |cons v L ih=>
    intro hL;obtain⟨gs,g1,g2,g3⟩:=ih λu hu=>hL u (Yn _ hu);obtain⟨n,t,rest,a,o,xs,k,rfl,e2,e3,e4,e5⟩:=hL v Yg;refine⟨.int n t::gs,.cons e2 e3 e4 (by rw[<-aaU,e5];rfl) g1,#v[Yk,Yk,g2],λu hu=>?_⟩;rcases Yj.1 hu with rfl|hu
    ·exact⟨n,t,rfl⟩
    ·exact g3 u hu
  obtain⟨gs,g1,g2,g3⟩:=fs vs hv';refine kat_kind (s:={ s with heap:=h' }) (T:=.type "int") g1 () (λv hm=>?_) (by decide) hq;obtain⟨n,t,rfl⟩:=g3 v hm;exact Looks.of_pure rfl
 ·obtain⟨⟨a,o,xs,k,e1,e2,e3,e4,e5⟩,_⟩:=hv i hi;obtain⟨⟨a',o',xs',k',e1',e2',e3',e4',e5'⟩,_⟩:=hv j hj;unfold kas_ask;rw[e1,e1'];refine kat_lt (s:={ s with heap:=h' }) (hk _ _ e2) e4 (hk _ _ e2') e4' ?_;refine NP (s:={ s with heap:=h' }) _ _ _ _ _ _ _ e5 e5' ?_ hc;simp
theorem ug:∀ {vs:Zh} {ns:Zn},IntsAre vs ns->∀i,i<vs.length->∃t,vs.getD i Value.none=.int (ns.getD i 0) t
 |_,_,.nil,i,h=>by simp at h
 |_,_,.cons n t _,0,_=>⟨t,rfl⟩
 |_,_,.cons n t tl,i+1,h=>by obtain⟨u,e⟩:=ug tl i (~~~h);exact⟨u,~~~e⟩
def vm(hI:IntsAre vs ns):Known prog w s vs oneType' λi j=>decide (ns.getD i 0<ns.getD j 0):=by
 refine⟨λA E h' Q hk h2 hq=>?_,λA h' i j C hk hi hj hc=>?_⟩
 ·rw[ksk_kind (keys:=vs.toArray) (kz:=ns) (~~~hI) (~~~h2)];exact Yc hq
 ·obtain⟨t,e1⟩:=ug hI i hi;obtain⟨u,e2⟩:=ug hI j hj;unfold kas_ask;rw[e1,e2,keyLt'_oneType];exact oneLt_int hc
def Cz(f:Nat->Int):Ord (λi j=>decide (f i<f j)) (λi j=>f i<=f j):=
 ⟨λ_ _ _ h k=>Int.le_trans h k,λ_=>Yw _,λa b h=>Int.le_of_lt (Y6 h),λa b h=>by have:=aaM h;show f b<=f a;lia⟩
theorem d7(hI:IntsAre vs ns):∀L:List Nat,(∀i∈L,i<vs.length)->IntsAre (L.map λi=>vs.getD i Value.none) (L.map λi=>ns.getD i 0)
 |[],_=>.nil
 |i::L,h=>by obtain⟨t,e⟩:=ug hI i (h i Yg);rw[Yo,Yo,e];exact .cons _ t (d7 hI L λj hj=>h j (Yn _ hj))
theorem vh:∀ {vs:Zh} {ns:Zn},IntsAre vs ns->vs.length=ns.length
 |_,_,.nil=>rfl
 |_,_,.cons n t tl=>#v[Yk,Yk,vh tl]
def AE{vs:Zh} {Q:Ze}(hl:s.heap.IsList l vs.toArray)(hI:IntsAre vs ns)(hN:vs.length<=sizeLine)
  (h:∀(out:Array Value) ms,IntsAre out.toList ms->ms.Perm ns->ms.Pairwise (· <= ·)->Q (.ref (s.heap.objs.size+1)) { s with heap:=sortedAll s.heap vs out }):wpAny (model prog w) A (call (.builtin "sorted") [.ref l]) Q E s:=by
 refine y6 (Cz λi=>ns.getD i 0) hl hN (vm hI) λp hp ha=>?_;have e:=vh hI;have hb:∀i∈p.toList,i<vs.length:=λi hi=>by simpa using (abK.1 hp).mem_iff.mp hi
 rw[e] at hp ha;obtain⟨p1,p2⟩:=Ah (vs:=ns) (d:=0) hp ha;exact h (iV vs p) _ (by simpa[iV] using d7 hI p.toList hb) p1 (p2 _ λi j _ _ h=>h)
end
end Srt
namespace L2
open PySem
def Rm(K:Zj):Za->Hp->VK->Prop:=λxs H Q=>∃p ys,xs=[.ref p]/\((SqL K H p ys/\∀l,H l=none->Q (.ref l) (bi H l (.tup ys)))\/(SqT K H p ys/\Q (.ref p) H))
def TD:Za->Hp->VK->Prop:=λxs H Q=>∃i j,xs=[.int i,.int j]/\Q (.int (if j > i then j else i)) H
def TF:Za->Hp->VK->Prop:=λxs H Q=>∃i j,xs=[.int i,.int j]/\Q (.int (if j<i then j else i)) H
def Ug(K:Zj)(ta:TE):TT:=λσ H Q=>ta σ H λx H'=>∃k,Jh K x H' k/\Q k H'
def CU(K:Zj):Za->Hp->VK->Prop:=λxs H Q=>∃p,∃ns:Zn,xs=[.ref p]/\SqL K H p (ns.map V.int)/\ns.length<30000 /\
 ∀(ms:Zn) l,ms.Perm ns->ms.Pairwise (· <= ·)->H l=none->Q (.ref l) (bi H l (.lst (ms.map V.int)))
def Pw(K:Zj):Za->Hp->VK->Prop:=λxs H Q=>∃p,∃ns:Zn,xs=[.ref p]/\SqL K H p (ns.map V.int)/\Q (.int ns.sum) H
def Qd(n:Nat):It:=⟨λi _=>i<n,λi H x H'=>H'=H/\x=.int (2*i),λi _=>n<=i⟩
def Pf(ta:TA):TI:=λσ H R=>ta σ H λvs H1=>∃j:Int,vs=[.int 0,.int j,.int 2]/\0<=j/\j<1000000/\R (Qd ((j+1)/2).toNat) H1
def QL(K:Zj)(tl:TE):TI:=λσ H R=>tl σ H λx H1=>∃a,x=.ref a/\(((∃xs,SqL K H1 a xs)/\R (Wf K a) H1)\/((∃xs,SqT K H1 a xs)/\R (Wg K a) H1))
end L2
namespace M
def ZO{α β:Type}{x:Option α}{f:α->Option β}{b:β}(h:x.bind f=some b):∃a,x=some a/\f a=some b:=Option.bind_eq_some_iff.1 h
open PySem L2
inductive D where
 |non|bl (b:Bool)|int (i:Int)|str (x:Str)|ty (n:String)|lst (l:List D)|tup (l:List D)|scr (l:List D)|ins (N:Str) (ns:Zl) (l:List D)|dic (ks:Zm)|dif (ks:Zm)|mtp (l:List D)
 deriving Inhabited
abbrev Zd:=Option D
abbrev Zc:=List D
abbrev Zb:=Zc->Zd
def cu{S':Hp}(s:Same S S') (h:Rd S a u):Rd S' a u:=h.elim (λe=>.inl (s _ _ e)) λ⟨o,e⟩=>.inr ⟨o,s _ _ e⟩
def eU{S':Hp}(s:Same S S') {xs:Za}(h:SqL K S a xs):SqL K S' a xs:=h.elim (λe=>.inl (cu s e)) .inr
def aU{S':Hp}(s:Same S S') {xs:Za}(h:SqT K S a xs):SqT K S' a xs:=h.elim (λe=>.inl (cu s e)) .inr
def TpA(K:Zj)(S:Hp)(a:Addr)(xs:Za):Prop:=S a=some (.tup xs)
def TpA.of{S:Hp}{a:Addr}{xs:Za}(h:S a=some (.tup xs)):TpA K S a xs:=h
def TpA.sq{xs:Za}(h:TpA K S a xs):SqT K S a xs:=SqT.of h
def TpA.mono{S':Hp}(s:Same S S') {xs:Za}(h:TpA K S a xs):TpA K S' a xs:=s _ _ h
def bw(ks:Zm):List (List eN×V):=ks.map λk=>(k.map Sum.inl,V.bl true)
mutual
def Den(K:Zj)(S:Hp):D->V->Prop
 |.non,v=>v=.non
 |.bl b,v=>v=.bl b
 |.int i,v=>v=.int i
 |.str x,v=>v=.str x
 |.ty x,v=>v=.ty x
 |.lst l,v=>∃p xs,v=.ref p/\Rd S p (.lst xs)/\Dens K S l xs
 |.tup l,v=>∃p xs,v=.ref p/\TpA K S p xs/\Dens K S l xs
 |.scr l,v=>∃p xs,v=.ref p/\SqL K S p xs/\Dens K S l xs
 |.mtp l,v=>∃p xs,v=.ref p/\SqT K S p xs/\Dens K S l xs
 |.ins N ns l,v=>∃p C dx fs,v=.ref p/\W.nsIn K mainGlobals N=some (some (.ref C))/\S p=some (.ins C dx fs)/\fs.map (·.1)=ns/\Dens K S l (fs.map (·.2))
 |.dic ks,v=>∃p,v=.ref p/\Rd S p (.dT (bw ks))
 |.dif ks,v=>∃p o,v=.ref p/\S p=some (.frz o (.dT (bw ks)))
def Dens(K:Zj)(S:Hp):Zc->Za->Prop
 |[],xs=>xs=[]
 |d::ds,xs=>∃y ys,xs=y::ys/\Den K S d y/\Dens K S ds ys
end
section
variable {K:Zj}{S S' H H':Hp}
def Dens.nil:Dens K S [] []:=by unfold Dens;rfl
def Dens.cons{ds:Zc} {ys:Za}(h:Den K S d y)(k:Dens K S ds ys):Dens K S (d::ds) (y::ys):=by unfold Dens;exact⟨y,ys,rfl,h,k⟩
def Dens.nil_of{xs:Za}(h:Dens K S [] xs):xs=[]:=by unfold Dens at h;exact h
def Dens.cons_of{d:D}{ds:Zc}{xs:Za}(h:Dens K S (d::ds) xs):∃y ys,xs=y::ys/\Den K S d y/\Dens K S ds ys:=by unfold Dens at h;exact h
theorem Dens.length:∀ {ds:Zc} {xs:Za},Dens K S ds xs->ds.length=xs.length
 |[],_,h=>by rw[h.nil_of];rfl
 |_::_,_,h=>by obtain⟨y,ys,rfl,_,k⟩:=h.cons_of;rw[Yk,Yk,k.length]
theorem Dens.append:∀ {ds es:Zc} {xs ys:Za},Dens K S ds xs->Dens K S es ys->Dens K S (ds++es) (xs++ys)
 |[],_,_,_,h,k=>by rw[h.nil_of];exact k
 |_::_,_,_,_,h,k=>by obtain⟨y,ys,rfl,a,b⟩:=h.cons_of;exact .cons a (b.append k)
theorem Dens.get:∀ {ds:Zc} {xs:Za} {i:Nat} {d:D},Dens K S ds xs->ds[i]?=some d->∃x,xs[i]?=some x/\Den K S d x
 |[],_,_,_,_,e=>by simp at e
 |_::_,_,0,_,h,e=>by
  obtain⟨y,ys,rfl,a,b⟩:=h.cons_of;simp at e;subst e;exact⟨y,rfl,a⟩
 |_::_,_,i+1,_,h,e=>by obtain⟨y,ys,rfl,a,b⟩:=h.cons_of;obtain⟨x,e1,h1⟩:=b.get (i:=i) (~~~e);exact⟨x,~~~e1,h1⟩
theorem Dens.set:∀ {ds:Zc} {xs:Za} {d:D} {x:V} (i:Nat),Dens K S ds xs->Den K S d x->Dens K S (ds.set i d) (xs.set i x)
 |[],_,_,_,_,h,_=>by rw[h.nil_of];exact .nil
 |_::_,_,_,_,0,h,k=>by
  obtain⟨y,ys,rfl,a,b⟩:=h.cons_of;exact .cons k b
 |_::_,_,_,_,i+1,h,k=>by obtain⟨y,ys,rfl,a,b⟩:=h.cons_of;exact .cons a (b.set i k)
theorem Dens.take:∀ {ds:Zc} {xs:Za} (i:Nat),Dens K S ds xs->Dens K S (ds.take i) (xs.take i)
 |[],_,_,h=>by rw[h.nil_of];simp;exact .nil
 |_::_,_,0,h=>by simp;exact .nil
 |_::_,_,i+1,h=>by obtain⟨y,ys,rfl,a,b⟩:=h.cons_of;exact .cons a (b.take i)
theorem Dens.drop:∀ {ds:Zc} {xs:Za} (i:Nat),Dens K S ds xs->Dens K S (ds.drop i) (xs.drop i)
 |[],_,_,h=>by rw[h.nil_of];simp;exact .nil
 |_::_,_,0,h=>h
 |_::_,_,i+1,h=>by obtain⟨y,ys,rfl,a,b⟩:=h.cons_of;exact b.drop i
mutual
theorem Den.mono(s:Same S S'):∀ {d:D} {v:V},Den K S d v->Den K S' d v
 |.dic _,_,h=>by
  unfold Den at *;obtain⟨p,e,h1⟩:=h;exact⟨p,e,cu s h1⟩
 |.dif _,_,h=>by
  unfold Den at *;obtain⟨p,o,e,h1⟩:=h;exact⟨p,o,e,s _ _ h1⟩
 |.non,_,h=>by unfold Den at *;exact h
 |.bl _,_,h=>by unfold Den at *;exact h
 |.int _,_,h=>by unfold Den at *;exact h
 |.str _,_,h=>by unfold Den at *;exact h
 |.ty _,_,h=>by unfold Den at *;exact h
 |.lst _,_,h=>by
  unfold Den at *;obtain⟨p,xs,e,h1,h2⟩:=h;exact⟨p,xs,e,cu s h1,Dens.mono s h2⟩
 |.tup _,_,h=>by
  unfold Den at *;obtain⟨p,xs,e,h1,h2⟩:=h;exact⟨p,xs,e,TpA.mono s h1,Dens.mono s h2⟩
 |.scr _,_,h=>by
  unfold Den at *;obtain⟨p,xs,e,h1,h2⟩:=h;exact⟨p,xs,e,eU s h1,Dens.mono s h2⟩
 |.mtp _,_,h=>by
  unfold Den at *;obtain⟨p,xs,e,h1,h2⟩:=h;exact⟨p,xs,e,aU s h1,Dens.mono s h2⟩
 |.ins _ _ _,_,h=>by unfold Den at *;obtain⟨p,C,dx,fs,e,h0,h1,h2,h3⟩:=h;exact⟨p,C,dx,fs,e,h0,s _ _ h1,h2,Dens.mono s h3⟩
theorem Dens.mono(s:Same S S'):∀ {ds:Zc} {xs:Za},Dens K S ds xs->Dens K S' ds xs
 |[],_,h=>by rw[h.nil_of];exact .nil
 |_::_,_,h=>by obtain⟨y,ys,rfl,a,b⟩:=h.cons_of;exact .cons (Den.mono s a) (Dens.mono s b)
end
def Zo{i:Int} : Den K S (.int i) v↔v=.int i:=by unfold Den;exact aak
def Zx{b:Bool} : Den K S (.bl b) v↔v=.bl b:=by unfold Den;exact aak
def den_non:Den K S .non v↔v=.non:=by unfold Den;exact aak
def den_str{x:Str} : Den K S (.str x) v↔v=.str x:=by unfold Den;exact aak
def Vd{x:String} : Den K S (.ty x) v↔v=.ty x:=by unfold Den;exact aak
def Zv{l:Zc} : Den K S (.tup l) v↔∃p xs,v=.ref p/\TpA K S p xs/\Dens K S l xs:=by
 constructor
 ·intro h;unfold Den at h;exact h
 ·intro h;unfold Den;exact h
def iG{l:Zc} (h:Den K S (.tup l) v):∃p xs,v=.ref p/\SqT K S p xs/\Dens K S l xs:=by obtain⟨p,xs,e,h1,h2⟩:=Zv.1 h;exact⟨p,xs,e,h1.sq,h2⟩
def Zu{l:Zc} : Den K S (.lst l) v↔∃p xs,v=.ref p/\Rd S p (.lst xs)/\Dens K S l xs:=by
 constructor
 ·intro h;unfold Den at h;exact h
 ·intro h;unfold Den;exact h
def ZJ{l:Zc} : Den K S (.scr l) v↔∃p xs,v=.ref p/\SqL K S p xs/\Dens K S l xs:=by
 constructor
 ·intro h;unfold Den at h;exact h
 ·intro h;unfold Den;exact h
def Zy{l:Zc} : Den K S (.mtp l) v↔∃p xs,v=.ref p/\SqT K S p xs/\Dens K S l xs:=by
 constructor
 ·intro h;unfold Den at h;exact h
 ·intro h;unfold Den;exact h
def ZK{N:Str}{ns:Zl}{l:Zc} : Den K S (.ins N ns l) v↔∃p C dx fs,v=.ref p/\W.nsIn K mainGlobals N=some (some (.ref C))/\S p=some (.ins C dx fs)/\fs.map (·.1)=ns/\Dens K S l (fs.map (·.2)):=by
 constructor
 ·intro h;unfold Den at h;exact h
 ·intro h;unfold Den;exact h
def DenP(K:Zj)(S H:Hp)(d:D)(v:V):Prop:=Den K S d v\/∃l p xs,d=.lst l/\v=.ref p/\H p=some (.lst xs)/\Dens K S l xs
def DenP.lst{l:Zc}{v:V}(s:Same S H)(h:DenP K S H (.lst l) v):∃p xs,v=.ref p/\Rd H p (.lst xs)/\Dens K S l xs:=by
 rcases h with h|⟨l',p,xs,e,e1,e2,e3⟩
 ·obtain⟨p,xs,e,e1,e2⟩:=Zu.1 h;exact⟨p,xs,e,cu s e1,e2⟩
 ·cases e;exact⟨p,xs,e1,.inl e2,e3⟩
def DenP.tup{l:Zc}{v:V}(s:Same S H)(h:DenP K S H (.tup l) v):∃p xs,v=.ref p/\SqT K H p xs/\Dens K S l xs:=by
 rcases h with h|⟨l',p,xs,e,e1,e2,e3⟩
 ·obtain⟨p,xs,e,e1,e2⟩:=iG h;exact⟨p,xs,e,aU s e1,e2⟩
 ·cases e
def DenP.scr{l:Zc} (s:Same S H)(h:DenP K S H (.scr l) v):∃p xs,v=.ref p/\SqL K H p xs/\Dens K S l xs:=by
 rcases h with h|⟨l',p,xs,e,e1,e2,e3⟩
 ·obtain⟨p,xs,e,e1,e2⟩:=ZJ.1 h;exact⟨p,xs,e,eU s e1,e2⟩
 ·cases e
def DenP.mtp{l:Zc} (s:Same S H)(h:DenP K S H (.mtp l) v):∃p xs,v=.ref p/\SqT K H p xs/\Dens K S l xs:=by
 rcases h with h|⟨l',p,xs,e,e1,e2,e3⟩
 ·obtain⟨p,xs,e,e1,e2⟩:=Zy.1 h;exact⟨p,xs,e,aU s e1,e2⟩
 ·cases e
def DenP.int{i:Int}{v:V}(h:DenP K S H (.int i) v):v=.int i:=by
 rcases h with h|⟨l',p,xs,e,_⟩
 ·exact Zo.1 h
 ·cases e
def DenP.bl{i:Bool} (h:DenP K S H (.bl i) v):v=.bl i:=by
 rcases h with h|⟨l',p,xs,e,_⟩
 ·exact Zx.1 h
 ·cases e
def DenP.str{i:Str} (h:DenP K S H (.str i) v):v=.str i:=by
 rcases h with h|⟨l',p,xs,e,_⟩
 ·exact den_str.1 h
 ·cases e
def DenP.non(h:DenP K S H .non v):v=.non:=by
 rcases h with h|⟨l',p,xs,e,_⟩
 ·exact den_non.1 h
 ·cases e
def IT(o:HO):Prop:=∃ks:Zn,o=.tup (ks.map V.int)
structure Ext(S H S' H':Hp):Prop where
 sh:Same S S'
 sub:Same S' H'
 alw:∀b o,H b=some o->S b=none->H' b=some o/\(S' b=none\/IT o)
def Ext.al(z:Ext S H S' H')(b:Addr)(o:HO)(h:H b=some o)(n:S b=none)(hn:¬IT o:=by exact λ⟨_,z⟩=>nomatch z):H' b=some o/\S' b=none:=
 ⟨(z.alw b o h n).1,(z.alw b o h n).2.resolve_right hn⟩
def Ext.refl(h:Same S H):Ext S H S H:=⟨Same.refl _,h,λ_ _ h n=>⟨h,.inl n⟩⟩
def Ext.trans{H1 H2:Hp}(a:Ext S H S1 H1)(b:Ext S1 H1 S2 H2):Ext S H S2 H2:=⟨a.sh.trans b.sh,b.sub,λc o h n=>by
 obtain⟨k1,k2⟩:=a.alw c o h n;rcases k2 with k2|k2
 ·exact b.alw c o k1 k2
 ·cases q:S1 c with
  |none=>exact⟨(b.alw c o k1 q).1,.inr k2⟩
  |some u=>
   have:=a.sub c u q;rw[k1] at this;cases this
   exact⟨b.sub c _ (b.sh c _ q),.inr k2⟩⟩
def Ext.same(a:Ext S H S' H')(s:Same S H):Same H H':=λb o h=>by
 cases q:S b with
 |none=>exact (a.alw b o h q).1
 |some u=>have:=s b u q;rw[h] at this;cases this;exact a.sub b o (a.sh b o q)
def Ext.new(s:Same S H) (h:H p=none):Ext S H (bi S p o) (bi H p o) where
 sh:=λb u e=>by rw[aw (aN e (s.free h))];exact e
 sub:=λb u e=>by
  by_cases hb:b=p
  ·subst hb;rw[aA] at e ⊢;exact e
  ·rw[aw hb] at e ⊢;exact s b u e
 alw:=λb u e n=>by have hb:=aN e h;rw[aw hb,aw hb];exact⟨e,.inl n⟩
def Ext.own(s:Same S H) (h:H p=none):Ext S H S (bi H p o) where
 sh:=Same.refl _
 sub:=λb u e=>by rw[aw (aN (s b u e) h)];exact s b u e
 alw:=λb u e n=>by have hb:=aN e h;rw[aw hb];exact⟨e,.inl n⟩
def DenP.mono(e:Ext S H S' H')(s:Same S H)(h:DenP K S H d v):DenP K S' H' d v:=by
 rcases h with h|⟨l,p,xs,h1,h2,h3,h4⟩
 ·exact .inl (h.mono e.sh)
 ·exact .inr ⟨l,p,xs,h1,h2,e.same s _ _ h3,h4.mono e.sh⟩
inductive ZM(K:W.Frag)(S H:Hp):List D->List V->Prop where
 |nil:ZM K S H [] []
 |cons {d ds v vs}:DenP K S H d v->ZM K S H ds vs->ZM K S H (d::ds) (v::vs)
inductive O where
 |sh (d:D)|lst (l:List O)|tup (l:List O)|dic (ks:Zm)|hd (p:Addr) (ks:Zm) (os:List O)
 deriving Inhabited
mutual
def O.d:O->D
 |.sh d=>d
 |.dic ks=>.dic ks
 |.hd _ ks os=>(O.ds os).headD (.dic ks)
 |.lst l=>.lst (O.ds l)
 |.tup l=>.tup (O.ds l)
def O.ds:List O->Zc
 |[]=>[]
 |o::l=>o.d::O.ds l
end
mutual
def Own(K:Zj)(S H:Hp):O->V->Zk->Prop
 |.sh d,v,fp=>fp=[]/\Den K S d v
 |.lst l,v,fp=>∃a xs f,v=.ref a/\fp=a::f/\H a=some (.lst xs)/\Owns K S H l xs f
 |.tup l,v,fp=>∃a xs f,v=.ref a/\fp=a::f/\(H a=some (.tup xs)/\¬IT (.tup xs))/\Owns K S H l xs f
 |.dic ks,v,fp=>∃a,v=.ref a/\fp=[a]/\H a=some (.dT (bw ks))
 |.hd p ks os,v,fp=>∃xs f,v=xs.headD (.ref p)/\fp=p::f/\H p=some (.dT (bw ks))/\Owns K S H os xs f
def Owns(K:Zj)(S H:Hp):List O->Za->Zk->Prop
 |[],xs,fp=>xs=[]/\fp=[]
 |o::l,xs,fp=>∃y ys f g,xs=y::ys/\fp=f++g/\Own K S H o y f/\Owns K S H l ys g
end
def den_dic{ks:Zm} : Den K S (.dic ks) v↔∃p,v=.ref p/\Rd S p (.dT (bw ks)):=by unfold Den;exact aak
def Zt{ks:Zm} {fp:Zk}:Own K S H (.dic ks) v fp↔∃a,v=.ref a/\fp=[a]/\H a=some (.dT (bw ks)):=by unfold Own;exact aak
def den_dif{ks:Zm} : Den K S (.dif ks) v↔∃p o,v=.ref p/\S p=some (.frz o (.dT (bw ks))):=by unfold Den;exact aak
def Zz{p:Addr}{ks:Zm}{os:List O} {fp:Zk}:Own K S H (.hd p ks os) v fp↔∃xs f,v=xs.headD (.ref p)/\fp=p::f/\H p=some (.dT (bw ks))/\Owns K S H os xs f:=by
 constructor
 ·intro h;unfold Own at h;exact h
 ·intro h;unfold Own;exact h
def ZC{d:D} {fp:Zk}:Own K S H (.sh d) v fp↔fp=[]/\Den K S d v:=by unfold Own;exact aak
def Zs{l:List O}{v:V}{fp:Zk}:Own K S H (.lst l) v fp↔∃a xs f,v=.ref a/\fp=a::f/\H a=some (.lst xs)/\Owns K S H l xs f:=by
 constructor
 ·intro h;unfold Own at h;exact h
 ·intro h;unfold Own;exact h
def ZA{l:List O}{v:V}{fp:Zk}:Own K S H (.tup l) v fp↔∃a xs f,v=.ref a/\fp=a::f/\(H a=some (.tup xs)/\¬IT (.tup xs))/\Owns K S H l xs f:=by
 constructor
 ·intro h;unfold Own at h;exact h
 ·intro h;unfold Own;exact h
def Owns.nil:Owns K S H [] [] []:=by unfold Owns;exact⟨rfl,rfl⟩
def Owns.cons{ys:Za} (h:Own K S H o y f)(k:Owns K S H l ys g):Owns K S H (o::l) (y::ys) (f++g):=by unfold Owns;exact⟨y,ys,f,g,rfl,rfl,h,k⟩
def Owns.nil_of{xs:Za}{fp:Zk}(h:Owns K S H [] xs fp):xs=[]/\fp=[]:=by unfold Owns at h;exact h
def Owns.cons_of{o:O}{l:List O}{xs:Za}{fp:Zk}(h:Owns K S H (o::l) xs fp):∃y ys f g,xs=y::ys/\fp=f++g/\Own K S H o y f/\Owns K S H l ys g:=by unfold Owns at h;exact h
theorem Owns.length:∀ {l:List O} {xs:Za} {fp:Zk},Owns K S H l xs fp->l.length=xs.length
 |[],_,_,h=>by rw[h.nil_of.1];rfl
 |_::_,_,_,h=>by obtain⟨y,ys,f,g,rfl,rfl,_,k⟩:=h.cons_of;rw[Yk,Yk,k.length]
theorem Owns.append:∀ {l m:List O} {xs ys:Za} {f g:Zk},Owns K S H l xs f->Owns K S H m ys g->Owns K S H (l++m) (xs++ys) (f++g)
 |[],_,_,_,_,_,h,k=>by rw[h.nil_of.1,h.nil_of.2];exact k
 |_::_,_,_,_,_,_,h,k=>by obtain⟨y,ys,f,g,rfl,rfl,a,b⟩:=h.cons_of;rw[YL];exact .cons a (b.append k)
theorem qB:∀ {ds:Zc} {xs:Za},Dens K S ds xs->Owns K S H (ds.map .sh) xs []
 |[],_,h=>by rw[h.nil_of];exact .nil
 |_::_,_,h=>by obtain⟨y,ys,rfl,a,b⟩:=h.cons_of;exact .cons (f:=[]) (ZC.2 ⟨rfl,a⟩) (qB b)
theorem lh:∀ {ds:Zc} {xs:Za} {fp:Zk},Owns K S H (ds.map .sh) xs fp->Dens K S ds xs/\fp=[]
 |[],_,_,h=>by rw[h.nil_of.1,h.nil_of.2];exact⟨.nil,rfl⟩
 |_::_,_,_,h=>by obtain⟨y,ys,f,g,rfl,rfl,a,b⟩:=h.cons_of;obtain⟨e,a⟩:=ZC.1 a;obtain⟨b,e2⟩:=lh b;exact⟨.cons a b,by rw[e,e2];rfl⟩
mutual
theorem Own.mono(s:Same S S'):∀ {o:O} {v:V} {fp:Zk},(∀b∈fp,H' b=H b)->Own K S H o v fp->Own K S' H' o v fp
 |.dic _,_,_,k,h=>by
  obtain⟨a,e,rfl,h1⟩:=Zt.1 h;exact Zt.2 ⟨a,e,rfl,by rw[k a Yg];exact h1⟩
 |.hd _ _ _,_,_,k,h=>by
  obtain⟨xs,f,e,rfl,h1,h2⟩:=Zz.1 h;exact Zz.2 ⟨xs,f,e,rfl,by rw[k _ Yg];exact h1,Owns.mono s (λb hb=>k b (Yn _ hb)) h2⟩
 |.sh _,_,_,k,h=>by
  obtain⟨e,d⟩:=ZC.1 h;exact ZC.2 ⟨e,d.mono s⟩
 |.lst _,_,_,k,h=>by
  obtain⟨a,xs,f,e,rfl,h1,h2⟩:=Zs.1 h;exact Zs.2 ⟨a,xs,f,e,rfl,by rw[k a Yg];exact h1,Owns.mono s (λb hb=>k b (Yn _ hb)) h2⟩
 |.tup _,_,_,k,h=>by obtain⟨a,xs,f,e,rfl,h1,h2⟩:=ZA.1 h;exact ZA.2 ⟨a,xs,f,e,rfl,by rw[k a Yg];exact h1,Owns.mono s (λb hb=>k b (Yn _ hb)) h2⟩
theorem Owns.mono(s:Same S S'):∀ {l:List O} {xs:Za} {fp:Zk},(∀b∈fp,H' b=H b)->Owns K S H l xs fp->Owns K S' H' l xs fp
 |[],_,_,k,h=>by rw[h.nil_of.1,h.nil_of.2];exact .nil
 |_::_,_,_,k,h=>by obtain⟨y,ys,f,g,rfl,rfl,a,b⟩:=h.cons_of;exact .cons (Own.mono s (λb hb=>k b (YD _ hb)) a) (Owns.mono s (λb hb=>k b (Yu _ hb)) b)
end
mutual
theorem Own.there:∀ {o:O} {v:V} {fp:Zk},Own K S H o v fp->∀b∈fp,H b≠none
 |.dic _,_,_,h=>by
  obtain⟨a,e,rfl,h1⟩:=Zt.1 h;intro b hb;rw[Yp] at hb;subst hb;rw[h1];exact λz=>by cases z
 |.hd _ _ _,_,_,h=>by
  obtain⟨xs,f,e,rfl,h1,h2⟩:=Zz.1 h;intro b hb;rcases Yj.1 hb with rfl|hb
  ·rw[h1];exact λz=>by cases z
  ·exact Owns.there h2 b hb
 |.sh _,_,_,h=>by
  obtain⟨e,d⟩:=ZC.1 h;rw[e];intro b hb;cases hb
 |.lst _,_,_,h=>by
  obtain⟨a,xs,f,e,rfl,h1,h2⟩:=Zs.1 h;intro b hb;rcases Yj.1 hb with rfl|hb
  ·rw[h1];exact λz=>by cases z
  ·exact Owns.there h2 b hb
 |.tup _,_,_,h=>by
  obtain⟨a,xs,f,e,rfl,⟨h1,_⟩,h2⟩:=ZA.1 h;intro b hb;rcases Yj.1 hb with rfl|hb
  ·rw[h1];exact λz=>by cases z
  ·exact Owns.there h2 b hb
theorem Owns.there:∀ {l:List O} {xs:Za} {fp:Zk},Owns K S H l xs fp->∀b∈fp,H b≠none
 |[],_,_,h=>by rw[h.nil_of.2];intro b hb;cases hb
 |_::_,_,_,h=>by
  obtain⟨y,ys,f,g,rfl,rfl,a,b⟩:=h.cons_of;intro c hc;rcases Yv.1 hc with hc|hc
  ·exact Own.there a c hc
  ·exact Owns.there b c hc
end
mutual
theorem Own.nit:∀ {o:O} {v:V} {fp:Zk},Own K S H o v fp->∀b∈fp,∀u,H b=some u->¬IT u
 |.dic _,_,_,h=>by
  obtain⟨a,e,rfl,h1⟩:=Zt.1 h;intro b hb u hu;rw[Yp.1 hb,h1] at hu;cases hu;exact λ⟨_,z⟩=>nomatch z
 |.hd _ _ _,_,_,h=>by
  obtain⟨xs,f,e,rfl,h1,h2⟩:=Zz.1 h;intro b hb u hu;rcases Yj.1 hb with rfl|hb
  ·rw[h1] at hu;cases hu;exact λ⟨_,z⟩=>nomatch z
  ·exact Owns.nit h2 b hb u hu
 |.sh _,_,_,h=>by
  obtain⟨e,d⟩:=ZC.1 h;rw[e];intro b hb;cases hb
 |.lst _,_,_,h=>by
  obtain⟨a,xs,f,e,rfl,h1,h2⟩:=Zs.1 h;intro b hb u hu;rcases Yj.1 hb with rfl|hb
  ·rw[h1] at hu;cases hu;exact λ⟨_,z⟩=>nomatch z
  ·exact Owns.nit h2 b hb u hu
 |.tup _,_,_,h=>by
  obtain⟨a,xs,f,e,rfl,⟨h1,hn⟩,h2⟩:=ZA.1 h;intro b hb u hu;rcases Yj.1 hb with rfl|hb
  ·rw[h1] at hu;cases hu;exact hn
  ·exact Owns.nit h2 b hb u hu
theorem Owns.nit:∀ {l:List O} {xs:Za} {fp:Zk},Owns K S H l xs fp->∀b∈fp,∀u,H b=some u->¬IT u
 |[],_,_,h=>by rw[h.nil_of.2];intro b hb;cases hb
 |_::_,_,_,h=>by
  obtain⟨y,ys,f,g,rfl,rfl,a,b⟩:=h.cons_of;intro c hc u hu;rcases Yv.1 hc with hc|hc
  ·exact Own.nit a c hc u hu
  ·exact Owns.nit b c hc u hu
end
mutual
theorem Own.den(s:Same S S2):∀ {o:O} {v:V} {fp:Zk},(∀b∈fp,S2 b=H b)->Own K S H o v fp->Den K S2 o.d v
 |.dic _,_,_,k,h=>by
  obtain⟨a,e,rfl,h1⟩:=Zt.1 h;rw[O.d];exact den_dic.2 ⟨a,e,.inl (by rw[k a Yg];exact h1)⟩
 |.hd p ks os,_,_,k,h=>by
  obtain⟨xs,f,e,rfl,h1,h2⟩:=Zz.1 h;have ds:=Owns.den s (λb hb=>k b (Yn _ hb)) h2;rw[O.d,e];cases q:O.ds os with
  |nil=>
   rw[q] at ds;rw[ds.nil_of];exact den_dic.2 ⟨p,rfl,.inl (by rw[k p Yg];exact h1)⟩
  |cons d l=>
   rw[q] at ds;obtain⟨y,ys,rfl,a,_⟩:=ds.cons_of;exact a
 |.sh _,_,_,k,h=>by
  obtain⟨e,d⟩:=ZC.1 h;exact d.mono s
 |.lst l,_,_,k,h=>by
  obtain⟨a,xs,f,e,rfl,h1,h2⟩:=Zs.1 h;rw[O.d];exact Zu.2 ⟨a,xs,e,.inl (by rw[k a Yg];exact h1),Owns.den s (λb hb=>k b (Yn _ hb)) h2⟩
 |.tup l,_,_,k,h=>by obtain⟨a,xs,f,e,rfl,h1,h2⟩:=ZA.1 h;rw[O.d];exact Zv.2 ⟨a,xs,e,TpA.of (by rw[k a Yg];exact h1.1),Owns.den s (λb hb=>k b (Yn _ hb)) h2⟩
theorem Owns.den(s:Same S S2):∀ {l:List O} {xs:Za} {fp:Zk},(∀b∈fp,S2 b=H b)->Owns K S H l xs fp->Dens K S2 (O.ds l) xs
 |[],_,_,k,h=>by rw[h.nil_of.1,O.ds];exact .nil
 |_::_,_,_,k,h=>by obtain⟨y,ys,f,g,rfl,rfl,a,b⟩:=h.cons_of;rw[O.ds];exact .cons (Own.den s (λb hb=>k b (YD _ hb)) a) (Owns.den s (λb hb=>k b (Yu _ hb)) b)
end
def Own.denH{fp:Zk}(s:Same S H)(h:Own K S H o v fp):Den K H o.d v:=h.den s λ_ _=>rfl
def Ext.keeps{fp:Zk}(e:Ext S H S' H')(h:∀b∈fp,S b=none)(t:∀b∈fp,H b≠none)(ni:∀b∈fp,∀u,H b=some u->¬IT u):(∀b∈fp,H' b=H b)/\∀b∈fp,S' b=none:=by
 have key:∀b∈fp,H' b=H b/\S' b=none:=λb hb=>by
  cases q:H b with
  |none=>exact absurd q (t b hb)
  |some o=>exact e.al b o q (h b hb) (ni b hb o q)
 exact⟨λb hb=>(key b hb).1,λb hb=>(key b hb).2⟩
inductive Sl where
 |un|lo|sh (d:D)|ow (o:O)
 deriving Inhabited
abbrev Env:=List Sl
structure RlF(K:Zj)(A:Hp)(Λ:Nat->Option Addr)(Φ:Nat->Zk)(ρ:Env)(σ:St)(S H:Hp):Prop where
 len:σ.length=ρ.length
 sub:Same S H
 sh:∀(i:Nat) d,ρ[i]?=some (.sh d)->∃v,σ[i]?=some (some v)/\Den K S d v
 ow:∀(i:Nat) o,ρ[i]?=some (.ow o)->∃v,σ[i]?=some (some v)/\Own K S H o v (Φ i)/\(Φ i).Nodup/\∀b∈Φ i,S b=none/\A b=none
 dj:∀(i j:Nat) o o',i≠j->ρ[i]?=some (.ow o)->ρ[j]?=some (.ow o')->∀b∈Φ i,b∉Φ j
 lo:∀(i:Nat),ρ[i]?=some .lo->∃a,Λ i=some a/\σ[i]?=some (some (.ref a))
 asub:Same A H
 adis:∀b,S b=none\/A b=none\/∃u,A b=some u/\IT u
def RlA(K:Zj)(A:Hp)(Λ:Nat->Option Addr)(ρ:Env)(σ:St)(S H:Hp):Prop:=∃Φ,RlF K A Λ Φ ρ σ S H
def Rl(K:Zj)(ρ:Env)(σ:St)(S H:Hp):Prop:=∃A Λ Φ,RlF K A Λ Φ ρ σ S H
def RlF.ext(r:RlF K A Λ Φ ρ σ S H)(e:Ext S H S' H'):RlF K A Λ Φ ρ σ S' H' where
 len:=r.len
 sub:=e.sub
 sh:=λi d h=>by obtain⟨v,h1,h2⟩:=r.sh i d h;exact⟨v,h1,h2.mono e.sh⟩
 ow:=λi o h=>by obtain⟨v,h1,h2,h3,h4⟩:=r.ow i o h;obtain⟨k1,k2⟩:=e.keeps (λb hb=>(h4 b hb).1) h2.there h2.nit;exact⟨v,h1,h2.mono e.sh k1,h3,λb hb=>⟨k2 b hb,(h4 b hb).2⟩⟩
 dj:=r.dj
 lo:=r.lo
 asub:=λb o h=>e.same r.sub b o (r.asub b o h)
 adis:=λb=>by
  rcases r.adis b with h|h
  ·cases q:A b with
   |none=>exact .inr (.inl rfl)
   |some o=>
    rcases (e.alw b o (r.asub b o q) h).2 with k|k
    ·exact .inl k
    ·exact .inr (.inr ⟨o,rfl,k⟩)
  ·exact .inr h
def RlA.ext(r:RlA K A Λ ρ σ S H)(e:Ext S H S' H'):RlA K A Λ ρ σ S' H':=let ⟨Φ,f⟩:=r;⟨Φ,f.ext e⟩
def RlA.toRl(r:RlA K A Λ ρ σ S H):Rl K ρ σ S H:=let ⟨Φ,f⟩:=r;⟨A,Λ,Φ,f⟩
def RlA.sub(r:RlA K A Λ ρ σ S H):Same S H:=let ⟨_,f⟩:=r;f.sub
def RlA.asub(r:RlA K A Λ ρ σ S H):Same A H:=let ⟨_,f⟩:=r;f.asub
def RlA.adis(r:RlA K A Λ ρ σ S H):∀b,S b=none\/A b=none\/∃u,A b=some u/\IT u:=let ⟨_,f⟩:=r;f.adis
def RlA.sh{A:Hp}{Λ:Nat->Option Addr}{ρ:Env}{σ:St}(r:RlA K A Λ ρ σ S H):∀(i:Nat) d,ρ[i]?=some (.sh d)->∃v,σ[i]?=some (some v)/\Den K S d v:=let ⟨_,f⟩:=r;f.sh
def Rl.ext(r:Rl K ρ σ S H)(e:Ext S H S' H'):Rl K ρ σ S' H':=let ⟨A,Λ,Φ,f⟩:=r;⟨A,Λ,Φ,f.ext e⟩
def Rl.sub(r:Rl K ρ σ S H):Same S H:=let ⟨_,_,_,f⟩:=r;f.sub
def Rl.sh{ρ:Env}{σ:St}(r:Rl K ρ σ S H):∀(i:Nat) d,ρ[i]?=some (.sh d)->∃v,σ[i]?=some (some v)/\Den K S d v:=let ⟨_,_,_,f⟩:=r;f.sh
def Rl.ow(r:Rl K ρ σ S H):∀(i:Nat) o,ρ[i]?=some (.ow o)->∃v fp,σ[i]?=some (some v)/\Own K S H o v fp/\fp.Nodup/\∀b∈fp,S b=none:=λi o h=>by obtain⟨A,Λ,Φ,f⟩:=r;obtain⟨v,h1,h2,h3,h4⟩:=f.ow i o h;exact⟨v,_,h1,h2,h3,λb hb=>(h4 b hb).1⟩
abbrev XE:=Env->Zd
abbrev XT:=Env->Option Bool
abbrev XA:=Env->Option (Zc)
def SE(K:Zj)(t:TE)(e:XE):Prop:=∀ρ σ S H (Q:VK) d,Rl K ρ σ S H->e ρ=some d->(∀v S' H',Ext S H S' H'->Den K S' d v->Q v H')->t σ H Q
def SPk(K:Zj)(t:TE)(e:XE):Prop:=∀ρ σ S H (Q:VK) d,Rl K ρ σ S H->e ρ=some d->(∀v S' H',Ext S H S' H'->DenP K S' H' d v->Q v H')->t σ H Q
def SF(K:Zj)(t:TE)(e:XA):Prop:=∀ρ σ S H (Q:VK) l,Rl K ρ σ S H->e ρ=some l->(∀a xs S' H',Ext S H S' H'->H a=none->S' a=none->H' a=some (.lst xs)->Dens K S' l xs->Q (.ref a) H')->t σ H Q
def ST(K:Zj)(t:TT)(c:XT):Prop:=∀ρ σ S H (Q:Bool->Hp->Prop) b,Rl K ρ σ S H->c ρ=some b->(∀S' H',Ext S H S' H'->Q b H')->t σ H Q
def SA(K:Zj)(t:TA)(e:XA):Prop:=∀ρ σ S H (Q:Za->Hp->Prop) ds,Rl K ρ σ S H->e ρ=some ds->(∀vs S' H',Ext S H S' H'->Dens K S' ds vs->Q vs H')->t σ H Q
def Qi(K:Zj)(t:TA)(e:XA):Prop:=∀ρ σ S H (Q:Za->Hp->Prop) ds,Rl K ρ σ S H->e ρ=some ds->(∀vs S' H',Ext S H S' H'->ZM K S' H' ds vs->Q vs H')->t σ H Q
def SE.p{t:TE}{e:XE}(h:SE K t e):SPk K t e:=λρ σ S H Q d r x k=>h ρ σ S H Q d r x λv S' H' z dv=>k v S' H' z (.inl dv)
@[simp]def xL(e:XA):XE:=λρ=>(e ρ).map D.lst
def SF.e{t:TE}{e:XA}(h:SF K t e):SE K t (xL e):=λρ σ S H Q d r x k=>by
 unfold xL at x;cases q:e ρ with
 |none=>rw[q] at x;cases x
 |some l=>
  rw[q] at x;cases x;refine h ρ σ S H Q l r q λa xs S' H' z h1 h2 h3 h4=>?_;have s2:Same S' (bi S' a (.lst xs)):=λb u e=>by rw[aw (aN e h2)];exact e
  refine k _ (bi S' a (.lst xs)) H' ⟨z.sh.trans s2,λb u e=>?_,λb o e n=>?_⟩ (Zu.2 ⟨a,xs,rfl,.inl aA,h4.mono s2⟩)
  ·by_cases hb:b=a
   ·subst hb;rw[aA] at e;cases e;exact h3
   ·rw[aw hb] at e;exact z.sub b u e
  ·obtain⟨y1,y2⟩:=z.alw b o e n;exact⟨y1,by rw[aw (aN e h1)];exact y2⟩
@[simp]def ak(i:Nat):XE:=λρ=>match ρ[i]? with|some (.sh d)=>some d|_=>none
def nY:List O->Option (Zc)
 |[]=>some []
 |.sh d::l=>(nY l).map λr=>d::r
 |_=>none
theorem uv:∀l:Zc,nY (l.map .sh)=some l
 |[]=>rfl
 |d::l=>by rw[Yo,nY,uv l];rfl
theorem z8:∀ {os:List O} {l:Zc},nY os=some l->os=l.map .sh
 |[],l,h=>by cases h;rfl
 |o::os,l,h=>by
  cases o with
  |sh d=>
   have h':(nY os).map (λr=>d::r)=some l:=h;cases q:nY os with
   |none=>rw[q] at h';cases h'
   |some m=>rw[q] at h';cases h';rw[z8 q];rfl
  |lst _|tup _|dic _|hd _ _ _=>cases h
def K3:Sl->Zd
 |.sh d=>some d
 |.ow (.sh d)=>some d
 |.ow (.lst os)=>(nY os).map D.lst
 |_=>none
@[simp]def UG(d:D):K3 (.ow (.sh d))=some d:=rfl
@[simp]def UI(d:D):K3 (.sh d)=some d:=rfl
@[simp]def UH(l:Zc):K3 (.ow (.lst (l.map .sh)))=some (.lst l):=by show (nY _).map D.lst=_;rw[uv];rfl
@[simp]def ag(i:Nat):XE:=λρ=>(ρ[i]?).bind K3
def bq(i:Nat):SE K (jS i) (ak i):=λρ σ S H Q d r x k=>by
 unfold ak at x;split at x
 ·rename_i d' e;cases x;obtain⟨v,h1,h2⟩:=r.sh i _ e;exact⟨v,h1,k v S H (Ext.refl r.sub) h2⟩
 ·cases x
def a7(i:Nat):SPk K (jS i) (ag i):=λρ σ S H Q d r x k=>by
 obtain⟨s,q,x⟩:=ZO x;cases s with
 |un|lo=>cases x
 |sh d'=>
  cases x;obtain⟨v,h1,h2⟩:=r.sh i _ q;exact⟨v,h1,k v S H (Ext.refl r.sub) (.inl h2)⟩
 |ow o=>
  cases o with
  |sh d'=>
   cases x;obtain⟨v,fp,h1,h2,h3,h4⟩:=r.ow i _ q;exact⟨v,h1,k v S H (Ext.refl r.sub) (.inl (ZC.1 h2).2)⟩
  |tup l|dic _|hd _ _ _=>cases x
  |lst os=>
   have x':(nY os).map D.lst=some d:=x;cases qs:nY os with
   |none=>rw[qs] at x';cases x'
   |some l=>rw[qs] at x';cases x';have e:=z8 qs;subst e;obtain⟨v,fp,h1,h2,h3,h4⟩:=r.ow i _ q;obtain⟨a,xs,f,rfl,rfl,h5,h6⟩:=Zs.1 h2;exact⟨_,h1,k _ S H (Ext.refl r.sub) (.inr ⟨l,a,xs,rfl,rfl,h5,(lh h6).1⟩)⟩
def SQ(K:Zj)(t:TE)(e:XE):Prop:=∀ρ σ S H (Q:VK) d,Rl K ρ σ S H->e ρ=some d->(∀v S' H',Ext S H S' H'->Den K H' d v->Q v H')->t σ H Q
def uR(s:Same S H)(h:DenP K S H d v):Den K H d v:=by
 rcases h with h|⟨l,p,xs,rfl,rfl,h1,h2⟩
 ·exact h.mono s
 ·exact Zu.2 ⟨p,xs,rfl,.inl h1,h2.mono s⟩
def SPk.q{t:TE}{e:XE}(h:SPk K t e):SQ K t e:=λρ σ S H Q d r x k=>h ρ σ S H Q d r x λv S' H' z dv=>k v S' H' z (uR z.sub dv)
def K5:Sl->Zd
 |.sh d=>some d
 |.ow o=>some o.d
 |_=>none
@[simp]def Tq(d:D):K5 (.sh d)=some d:=rfl
@[simp]def To(o:O):K5 (.ow o)=some o.d:=rfl
@[simp]def MQ(i:Nat):XE:=λρ=>(ρ[i]?).bind K5
def L1(i:Nat):SQ K (jS i) (MQ i):=λρ σ S H Q d r x k=>by
 obtain⟨s,q,x⟩:=ZO x;cases s with
 |un|lo=>cases x
 |sh d'=>
  cases x;obtain⟨v,h1,h2⟩:=r.sh i _ q;exact⟨v,h1,k v S H (Ext.refl r.sub) (h2.mono r.sub)⟩
 |ow o=>cases x;obtain⟨v,fp,h1,h2,h3,h4⟩:=r.ow i _ q;exact⟨_,h1,k _ S H (Ext.refl r.sub) (h2.denH r.sub)⟩
@[simp]def xC(d:D):XE:=λ_=>some d
def rp:D->Option V
 |.non=>some .non|.bl b=>some (.bl b)|.int i=>some (.int i)|.str x=>some (.str x)|.ty x=>some (.ty x)|_=>none
def pW{v:V}(h:rp d=some v):Den K S d v:=by cases d<;>simp[rp] at h<;>subst h<;>unfold Den<;>rfl
def jQ{v:V} (h:rp d=some v):SE K (tC v) (xC d):=λρ σ S H Q e r x k=>by cases x;exact k v S H (Ext.refl r.sub) (pW h)
@[simp]def V3(e:XE):XE:=λρ=>(e ρ).bind λd=>if (rp d).isSome then some d else none
def Np{w:V}(h:rp d=some w)(k:Den K S d v):v=w:=by cases d<;>simp[rp] at h<;>subst h<;>unfold Den at k<;>exact k
def SQ.fl(h:SQ K t e):SE K t (V3 e):=λρ σ S H Q d r x k=>by
 unfold V3 at x;cases q:e ρ with
 |none=>rw[q] at x;cases x
 |some d'=>
  rw[q] at x;dsimp only[Option.bind] at x;split at x
  ·rename_i hf;cases x;obtain⟨w,hw⟩:=acy.1 hf;refine h ρ σ S H Q d r q λv S' H' z dv=>k v S' H' z ?_;rw[Np hw dv];exact pW hw
  ·cases x
@[simp]def az(f:D->D->Zd)(a b:XE):XE:=λρ=>(a ρ).bind λx=>(b ρ).bind λy=>f x y
def xZ(K:Zj)(r:R2)(f:D->D->Zd):Prop:=∀S H x y d e g (Q:VK),Same S H->DenP K S H d x->DenP K S H e y->f d e=some g->(∀v S' H',Ext S H S' H'->Den K S' g v->Q v H')->r x y H Q
def eF{ta tb:TE} (hr:xZ K r f)(ha:SPk K ta a)(hb:SPk K tb b):SE K (Mq r ta tb) (az f a b):=λρ σ S H Q d r x k=>by obtain⟨da,qa,x⟩:=ZO x;obtain⟨db,qb,x⟩:=ZO x;refine ha ρ σ S H _ da r qa λv S1 H1 z1 d1=>?_;have r1:=r.ext z1;refine hb ρ σ S1 H1 _ db r1 qb λw S2 H2 z2 d2=>?_;exact hr S2 H2 v w da db d Q z2.sub (d1.mono z2 r1.sub) d2 x λu S3 H3 z3 d3=>k u S3 H3 ((z1.trans z2).trans z3) d3
def No{S2:Hp}(s:Same S H)(z:Ext H H S3 H3):Ext S H S H3:=⟨Same.refl _,λb u e=>z.sub b u (z.sh b u (s b u e)),λb o h n=>⟨z.sub b o (z.sh b o h),.inl n⟩⟩
def PN{ta tb:TE} (hr:xZ K r f)(ha:SQ K ta a)(hb:SQ K tb b):SQ K (Mq r ta tb) (az f a b):=λρ σ S H Q d r x k=>by obtain⟨da,qa,x⟩:=ZO x;obtain⟨db,qb,x⟩:=ZO x;refine ha ρ σ S H _ da r qa λv S1 H1 z1 d1=>?_;have r1:=r.ext z1;refine hb ρ σ S1 H1 _ db r1 qb λw S2 H2 z2 d2=>?_;exact hr H2 H2 v w da db d Q (Same.refl _) (.inl (d1.mono (z2.same r1.sub))) (.inl d2) x λu S3 H3 z3 d3=>k u S2 H3 ((z1.trans z2).trans (No (S2:=S2) z2.sub z3)) (d3.mono z3.sub)
@[simp]def DG(f:D->Zd)(a:XE):XE:=λρ=>(a ρ).bind f
def Wm(K:Zj)(r:V->Hp->VK->Prop)(f:D->Zd):Prop:=∀S H x d g (Q:VK),Same S H->DenP K S H d x->f d=some g->(∀v S' H',Ext S H S' H'->Den K S' g v->Q v H')->r x H Q
def Ij{ta:TE} (hr:Wm K r f)(ha:SPk K ta a):SE K (Vw r ta) (DG f a):=λρ σ S H Q d r x k=>by obtain⟨da,qa,x⟩:=ZO x;refine ha ρ σ S H _ da r qa λv S1 H1 z1 d1=>?_;exact hr S1 H1 v da d Q z1.sub d1 x λu S3 H3 z3 d3=>k u S3 H3 (z1.trans z3) d3
@[simp]def aj:XA:=λ_=>some []
@[simp]def af(a:XE)(b:XA):XA:=λρ=>(a ρ).bind λx=>(b ρ).bind λy=>some (x::y)
def bf:SA K mY aj:=λρ σ S H Q ds r x k=>by cases x;exact k [] S H (Ext.refl r.sub) .nil
def sw:Qi K mY aj:=λρ σ S H Q ds r x k=>by cases x;exact k [] S H (Ext.refl r.sub) .nil
def ku{ds:Zc}(x:af a b ρ=some ds):∃d r,a ρ=some d/\b ρ=some r/\ds=d::r:=by
 unfold af at x;cases qa:a ρ with
 |none=>rw[qa] at x;cases x
 |some da=>
  rw[qa] at x;dsimp only[Option.bind] at x;cases qb:b ρ with
  |none=>rw[qb] at x;cases x
  |some db=>rw[qb] at x;cases x;exact⟨_,_,rfl,rfl,rfl⟩
def aB{ta:TE} (ha:SE K ta a)(hb:SA K tr b):SA K (eX ta tr) (af a b):=λρ σ S H Q ds r x k=>by obtain⟨da,db,qa,qb,rfl⟩:=ku x;refine ha ρ σ S H _ da r qa λv S1 H1 z1 d1=>hb ρ σ S1 H1 _ db (r.ext z1) qb λvs S2 H2 z2 d2=>k _ S2 H2 (z1.trans z2) (.cons (d1.mono z2.sh) d2)
def ij{ta:TE} (ha:SPk K ta a)(hb:Qi K tr b):Qi K (eX ta tr) (af a b):=λρ σ S H Q ds r x k=>by obtain⟨da,db,qa,qb,rfl⟩:=ku x;refine ha ρ σ S H _ da r qa λv S1 H1 z1 d1=>hb ρ σ S1 H1 _ db (r.ext z1) qb λvs S2 H2 z2 d2=>k _ S2 H2 (z1.trans z2) (.cons (d1.mono z2 (r.ext z1).sub) d2)
@[irreducible] def a9:Nat:=1000000
def fN:a9<sizeLine:=by rw[YA];unfold a9;decide
@[simp]def aV(a:XA):XE:=λρ=>(a ρ).bind λl=>if l.length<=a9 then some (.tup l) else none
def jE(h:SA K t a):SE K (OQ t) (aV a):=λρ σ S H Q d r x k=>by
 obtain⟨l,q,x⟩:=ZO x;split at x
 ·rename_i hl;cases x;refine h ρ σ S H _ l r q λvs S1 H1 z1 d1=>⟨?_,λp hp=>?_⟩
  ·rw[<-d1.length];exact Y0 (aaf hl fN)
  ·have z2:=Ext.new (o:=.tup vs) z1.sub hp;exact k _ _ _ (z1.trans z2) (Zv.2 ⟨p,vs,rfl,TpA.of aA,d1.mono z2.sh⟩)
 ·cases x
@[simp]def lU(a:XA):XA:=λρ=>(a ρ).bind λl=>if l.length<=a9 then some l else none
def wD(h:SA K t a):SF K (OO t) (lU a):=λρ σ S H Q l r x k=>by
 obtain⟨l,q,x⟩:=ZO x;split at x
 ·rename_i hl;cases x;refine h ρ σ S H _ l r q λvs S1 H1 z1 d1=>⟨?_,λp hp=>?_⟩
  ·rw[<-d1.length];exact Y0 (aaf hl fN)
  ·have hp0:H p=none:=(z1.same r.sub).free hp;exact k p vs S1 _ (z1.trans (Ext.own z1.sub hp)) hp0 (z1.sub.free hp) aA d1
 ·cases x
@[simp]def jT(f:Zb)(a:XA):XE:=λρ=>(a ρ).bind f
def O4(K:Zj)(r:Za->Hp->VK->Prop)(f:Zb):Prop:=∀S H vs ds g (Q:VK),Same S H->ZM K S H ds vs->f ds=some g->(∀v S' H',Ext S H S' H'->Den K S' g v->Q v H')->r vs H Q
def LN(hr:O4 K r f)(h:Qi K t a):SE K (Sq r t) (jT f a):=λρ σ S H Q d rl x k=>by obtain⟨ds,q,x⟩:=ZO x;refine h ρ σ S H _ ds rl q λvs S1 H1 z1 d1=>?_;exact hr S1 H1 vs ds d Q z1.sub d1 x λv S2 H2 z2 d2=>k v S2 H2 (z1.trans z2) d2
@[simp]def OZ(f:Zc->Option (Zc))(a:XA):XA:=λρ=>(a ρ).bind f
def Wn(K:Zj)(r:Za->Hp->VK->Prop)(f:Zc->Option (Zc)):Prop:=∀S H vs ds g (Q:VK),Same S H->ZM K S H ds vs->f ds=some g->(∀a xs H',Ext S H S H'->H a=none->H' a=some (.lst xs)->Dens K S g xs->Q (.ref a) H')->r vs H Q
def PK(hr:Wn K r f)(h:Qi K t a):SF K (Sq r t) (OZ f a):=λρ σ S H Q d rl x k=>by obtain⟨ds,q,x⟩:=ZO x;refine h ρ σ S H _ ds rl q λvs S1 H1 z1 d1=>?_;exact hr S1 H1 vs ds d Q z1.sub d1 x λb xs H2 z2 h1 h2 d2=>k b xs S1 H2 (z1.trans z2) ((z1.same rl.sub).free h1) (z1.sub.free h1) h2 d2
def STr(K:Zj)(t:TE)(e:Env->Option O):Prop:=∀ρ σ S H (Q:VK) o,Rl K ρ σ S H->e ρ=some o->(∀v fp S' H',Ext S H S' H'->Own K S' H' o v fp->fp.Nodup->(∀b∈fp,H b=none/\S' b=none)->Q v H')->t σ H Q
@[simp]def Se(e:XA):Env->Option O:=λρ=>(e ρ).map λl=>.lst (l.map .sh)
def SF.t{t:TE}{e:XA}(h:SF K t e):STr K t (Se e):=λρ σ S H Q o r x k=>by
 unfold Se at x;cases q:e ρ with
 |none=>rw[q] at x;cases x
 |some l=>rw[q] at x;cases x;refine h ρ σ S H Q l r q λa xs S' H' z h1 h2 h3 h4=>?_;refine k _ [a] S' H' z (Zs.2 ⟨a,xs,[],rfl,rfl,h3,qB h4⟩) (by simp) λb hb=>?_;rw[Yp.1 hb];exact⟨h1,h2⟩
@[simp]def Fe(e:XE):Env->Option O:=λρ=>(e ρ).map .sh
def SE.t{t:TE}{e:XE}(h:SE K t e):STr K t (Fe e):=λρ σ S H Q o r x k=>by
 unfold Fe at x;cases q:e ρ with
 |none=>rw[q] at x;cases x
 |some d=>rw[q] at x;cases x;exact h ρ σ S H Q d r q λv S' H' z dv=>k v [] S' H' z (ZC.2 ⟨rfl,dv⟩) .nil λb hb=>by cases hb
def zE(S H:Hp)(fp:Zk):Hp:=λb=>if b∈fp then H b else S b
def ue{fp:Zk}{b:Addr}(h:b∈fp):zE S H fp b=H b:=by unfold zE;rw[Yb h]
def my{fp:Zk}{b:Addr}(h:b∉fp):zE S H fp b=S b:=by unfold zE;rw[X9 h]
def nw{fp:Zk}(n:∀b∈fp,S b=none):Same S (zE S H fp):=λb o e=>by rw[my λhb=>by rw[n b hb] at e;cases e];exact e
def BN{fp:Zk}(s:Same S H):Same (zE S H fp) H:=λb o e=>by
 by_cases hb:b∈fp
 ·rw[ue hb] at e;exact e
 ·rw[my hb] at e;exact s b o e
def BM{fp:Zk}(z:Ext S H S' H')(n:∀b∈fp,H b=none/\S' b=none):Ext S H (zE S' H' fp) H':=
 ⟨z.sh.trans (nw λb hb=>(n b hb).2),BN z.sub,λb o h hn=>⟨(z.alw b o h hn).1,by rw[my λhb=>by rw[(n b hb).1] at h;cases h];exact (z.alw b o h hn).2⟩⟩
@[simp]def V5(e:Env->Option O):XE:=λρ=>(e ρ).map O.d
def STr.e{t:TE}{e:Env->Option O}(h:STr K t e):SE K t (V5 e):=λρ σ S H Q d r x k=>by
 unfold V5 at x;cases q:e ρ with
 |none=>rw[q] at x;cases x
 |some o=>rw[q] at x;cases x;exact h ρ σ S H Q o r q λv fp S' H' z ow nd n=>k v _ H' (BM z n) (ow.den (nw λb hb=>(n b hb).2) λb hb=>ue hb)
def bm(K:Zj)(n:Nat)(m:Zc->Option O):Sp:=λvs H Q _=>vs.length=n/\∃S ds o,Same S H/\Dens K S ds vs/\m ds=some o/\∀v fp S' H',Ext S H S' H'->Own K S' H' o v fp->fp.Nodup->(∀b∈fp,H b=none/\S' b=none)->Q v H'
@[simp]def Fb(m:Zc->Option O)(a:XA):Env->Option O:=λρ=>(a ρ).bind m
def Gn{n:Nat} (h:SA K t a)(hn:∀ρ ds,a ρ=some ds->ds.length=n):STr K (qR (bm K n m) [] E t) (Fb m a):=λρ σ S H Q o rl x k=>by obtain⟨ds,q,x⟩:=ZO x;refine h ρ σ S H _ ds rl q λvs S1 H1 z1 d1=>?_;rw[YK];refine⟨by rw[<-d1.length];exact hn ρ ds q,S1,ds,o,z1.sub,d1,x,λv fp S2 H2 z2 ow nd n=>k v fp S2 H2 (z1.trans z2) ow nd λb hb=>⟨(z1.same rl.sub).free (n b hb).1,(n b hb).2⟩⟩
@[simp]def aq(m:Zb)(a:XA):XE:=λρ=>(a ρ).bind m
def i0{n:Nat} (h:SA K t a)(hn:∀ρ ds,a ρ=some ds->ds.length=n):SE K (qR (bm K n m) [] E t) (aq (λds=>(m ds).map O.d) a):=by
 have:=(Gn (m:=m) (E:=E) h hn).e;have e:V5 (Fb m a)=aq (λds=>(m ds).map O.d) a:=by
  funext ρ
  show ((a ρ).bind m).map O.d=(a ρ).bind λds=>(m ds).map O.d;cases a ρ<;>rfl
 rw[e] at this;exact this
@[simp]def VZ(m:Zb)(a:XA):XE:=λρ=>((a ρ).bind m).bind λd=>if (rp d).isSome then some d else none
def SL(K:Zj)(t:TA)(e:Env->Option (List O)):Prop:=∀ρ σ S H (Q:Za->Hp->Prop) os,Rl K ρ σ S H->e ρ=some os->(∀vs fp S' H',Ext S H S' H'->Owns K S' H' os vs fp->fp.Nodup->(∀b∈fp,H b=none/\S' b=none)->Q vs H')->t σ H Q
@[simp]def MM:Env->Option (List O):=λ_=>some []
@[simp]def Fc(a:Env->Option O)(b:Env->Option (List O)):Env->Option (List O):=λρ=>(a ρ).bind λx=>(b ρ).bind λy=>some (x::y)
def Mf:SL K mY MM:=λρ σ S H Q ds r x k=>by cases x;exact k [] [] S H (Ext.refl r.sub) .nil .nil λ_ hb=>by cases hb
def Gv{ta:TE} (ha:STr K ta a)(hb:SL K tr b):SL K (eX ta tr) (Fc a b):=λρ σ S H Q os r x k=>by
 obtain⟨oa,qa,x⟩:=ZO x;obtain⟨ob,qb,x⟩:=ZO x;cases x;refine ha ρ σ S H _ oa r qa λv fp S1 H1 z1 o1 nd1 n1=>hb ρ σ S1 H1 _ ob (r.ext z1) qb λvs fq S2 H2 z2 o2 nd2 n2=>?_;obtain⟨k1,k2⟩:=z2.keeps (λb hb=>(n1 b hb).2) o1.there o1.nit;refine k _ _ S2 H2 (z1.trans z2) (.cons (o1.mono z2.sh k1) o2) ?_ λc hc=>?_
 ·refine aaq.2 ⟨nd1,nd2,λc hc d hd e=>?_⟩;subst e;exact o1.there c hc (n2 c hd).1
 ·rcases Yv.1 hc with hc|hc
  ·exact⟨(n1 c hc).1,k2 c hc⟩
  ·exact⟨(z1.same r.sub).free (n2 c hc).1,(n2 c hc).2⟩
@[simp]def kf:List O->Bool
 |[]=>true
 |.sh (.int _)::l=>kf l
 |.hd _ _ _::l=>kf l
 |_::_=>false
@[simp]def P7(a:Env->Option (List O)):Env->Option O:=λρ=>(a ρ).bind λl=>if l.length<=a9/\kf l=false then some (.tup l) else none
def DW{d:D}{k:Int}(h:Den K S d (.int k)):d=.int k:=by cases d<;>unfold Den at h<;>first|(cases h;rfl)|(cases h;done)|(obtain⟨_,h,_⟩:=h;cases h;done)|(obtain⟨_,_,h,_⟩:=h;cases h;done)|(obtain⟨_,_,_,h,_⟩:=h;cases h;done)|(obtain⟨_,_,_,_,h,_⟩:=h;cases h;done)
theorem CC:∀ {l:List O} {xs:Za} {fp:Zk} {ks:Zn},Owns K S H l xs fp->xs=ks.map V.int->kf l=true
 |[],_,_,_,_,_=>rfl
 |o::l,_,_,ks,h,e=>by
  obtain⟨y,ys,f,g,rfl,rfl,a,b⟩:=h.cons_of;cases ks with
  |nil=>cases e
  |cons k ks=>
   rw[Yo] at e;cases e;have ih:=CC b rfl;cases o with
   |sh d=>
    obtain⟨_,d1⟩:=ZC.1 a;have:d=.int k:=DW d1;subst this;unfold kf;exact ih
   |lst _=>obtain⟨_,_,_,e,_⟩:=Zs.1 a;cases e
   |tup _=>obtain⟨_,_,_,e,_⟩:=ZA.1 a;cases e
   |dic _=>obtain⟨_,e,_⟩:=Zt.1 a;cases e
   |hd p q os=>unfold kf;exact ih
@[simp]def P0(a:Env->Option (List O)):Env->Option O:=λρ=>(a ρ).bind λl=>if l.length<=a9 then some (.lst l) else none
def y9{fp:Zk} (h:H p=none)(t:∀b∈fp,H b≠none):(∀b∈fp,bi H p o b=H b)/\p∉fp:=by have np:p∉fp:=λhp=>t p hp h;exact⟨λb hb=>aw λe=>np (e▸hb),np⟩
def RH(h:SL K t a):STr K (OQ t) (P7 a):=λρ σ S H Q o r x k=>by
 obtain⟨l,q,x⟩:=ZO x;split at x
 ·rename_i hlc;obtain⟨hl,hc⟩:=hlc;cases x;refine h ρ σ S H _ l r q λvs fp S1 H1 z1 o1 nd1 n1=>⟨?_,λp hp=>?_⟩
  ·rw[<-o1.length];exact Y0 (aaf hl fN)
  ·obtain⟨k1,k2⟩:=y9 (o:=.tup vs) hp o1.there;have nit:¬IT (.tup vs):=λhpt0=>by
    obtain⟨ks,e⟩:=hpt0;cases e;rw[CC o1 rfl] at hc;cases hc
   refine k _ (p::fp) S1 _ (z1.trans (Ext.own z1.sub hp)) (ZA.2 ⟨p,vs,fp,rfl,rfl,⟨aA,nit⟩,o1.mono (Same.refl _) k1⟩) (YH.2 ⟨k2,nd1⟩) λb hb=>?_;rcases Yj.1 hb with rfl|hb
   ·exact⟨(z1.same r.sub).free hp,z1.sub.free hp⟩
   ·exact n1 b hb
 ·cases x
def Rx(h:SL K t a):STr K (OO t) (P0 a):=λρ σ S H Q o r x k=>by
 obtain⟨l,q,x⟩:=ZO x;split at x
 ·rename_i hl;cases x;refine h ρ σ S H _ l r q λvs fp S1 H1 z1 o1 nd1 n1=>⟨?_,λp hp=>?_⟩
  ·rw[<-o1.length];exact Y0 (aaf hl fN)
  ·obtain⟨k1,k2⟩:=y9 (o:=.lst vs) hp o1.there;refine k _ (p::fp) S1 _ (z1.trans (Ext.own z1.sub hp)) (Zs.2 ⟨p,vs,fp,rfl,rfl,aA,o1.mono (Same.refl _) k1⟩) (YH.2 ⟨k2,nd1⟩) λb hb=>?_;rcases Yj.1 hb with rfl|hb
   ·exact⟨(z1.same r.sub).free hp,z1.sub.free hp⟩
   ·exact n1 b hb
 ·cases x
def dG{ds:Zc}(h:aj ρ=some ds):ds.length=0:=by cases h;rfl
def aS{b:XA}{n:Nat}(h:∀ρ ds,b ρ=some ds->ds.length=n)(ρ:Env)(ds:Zc)(x:af a b ρ=some ds):ds.length=n+1:=by obtain⟨da,db,qa,qb,rfl⟩:=ku x;rw[Yk,h ρ db qb]
@[simp]def GI(a b:XE):XE:=λρ=>(a ρ).bind λx=>match x with|.bl true=>b ρ|.bl false=>some (.bl false)|_=>none
@[simp]def Sf(a b:XE):XE:=λρ=>(a ρ).bind λx=>match x with|.bl true=>some (.bl true)|.bl false=>b ρ|_=>none
@[simp]def MN(a:XE):XE:=λρ=>(a ρ).bind λx=>match x with|.bl c=>some (.bl (!c))|_=>none
def Rt{ta tb:TE} (ha:SPk K ta a)(hb:SE K tb b):SE K (Ml ta tb) (GI a b):=λρ σ S H Q d r x k=>by
 obtain⟨da,qa,x⟩:=ZO x;refine ha ρ σ S H _ da r qa λv S1 H1 z1 d1=>?_;split at x
 ·exact⟨true,d1.bl,B0 (hb ρ σ S1 H1 Q d (r.ext z1) x λw S2 H2 z2 d2=>k w S2 H2 (z1.trans z2) d2)⟩
 ·cases x;exact⟨false,d1.bl,BZ (k _ S1 H1 z1 (Zx.2 rfl))⟩
 ·cases x
def T6{ta tb:TE} (ha:SPk K ta a)(hb:SE K tb b):SE K (RZ ta tb) (Sf a b):=λρ σ S H Q d r x k=>by
 obtain⟨da,qa,x⟩:=ZO x;refine ha ρ σ S H _ da r qa λv S1 H1 z1 d1=>?_;split at x
 ·cases x;exact⟨true,d1.bl,B0 (k _ S1 H1 z1 (Zx.2 rfl))⟩
 ·exact⟨false,d1.bl,BZ (hb ρ σ S1 H1 Q d (r.ext z1) x λw S2 H2 z2 d2=>k w S2 H2 (z1.trans z2) d2)⟩
 ·cases x
def RA{ta:TE} (ha:SPk K ta a):SE K (Mp ta) (MN a):=λρ σ S H Q d r x k=>by
 obtain⟨da,qa,x⟩:=ZO x;refine ha ρ σ S H _ da r qa λv S1 H1 z1 d1=>?_;split at x
 ·cases x;exact⟨_,d1.bl,k _ S1 H1 z1 (Zx.2 rfl)⟩
 ·cases x
@[simp]def XU(c:XT)(a b:XE):XE:=λρ=>(c ρ).bind λq=>if q=true then a ρ else b ρ
@[simp]def xB(a:XE):XT:=λρ=>(a ρ).bind λx=>match x with|.bl c=>some c|_=>none
def Xw{ta:TE} (ha:SPk K ta a):ST K (tB ta) (xB a):=λρ σ S H Q b r x k=>by
 obtain⟨da,qa,x⟩:=ZO x;refine ha ρ σ S H _ da r qa λv S1 H1 z1 d1=>?_;split at x
 ·cases x;exact⟨_,d1.bl,k S1 H1 z1⟩
 ·cases x
def mW{ta:TE} (ha:SPk K ta a):ST K (Gy ta) (xB a):=Xw ha
def Ds:D->Option Bool
 |.non=>some false
 |.bl b=>some b
 |.int i=>some (i != 0)
 |.str y=>if y.length<=a9 then some ((y.length:Int) != 0) else none
 |.lst l=>some (!l.isEmpty)
 |.tup l=>some (!l.isEmpty)
 |.scr l=>some (!l.isEmpty)
 |_=>none
def oT{ds:Zc}{xs:Za}(h:Dens K S ds xs):(!ds.isEmpty) = !xs.isEmpty:=by have:=h.length;cases ds<;>cases xs<;>simp_all
@[simp]def ik(a:XE):XT:=λρ=>(a ρ).bind Ds
def Mx{b:Bool}(s:Same S H)(h:DenP K S H d v)(x:Ds d=some b):Jh K v H b:=by
 cases d with
 |non=>rw[h.non];cases x;rfl
 |bl c=>rw[h.bl];cases x;rfl
 |int i=>rw[h.int];cases x;rfl
 |str y=>
  rw[h.str];have x':(if y.length<=a9 then some ((y.length:Int) != 0) else none)=some b:=x;split at x'
  ·rename_i hl;cases x';exact⟨Y0 (aaf hl fN),rfl⟩
  ·cases x'
 |lst l=>
  obtain⟨p,xs,rfl,h1,h2⟩:=h.lst s;cases x;exact .inl ⟨xs,.inl h1,oT h2⟩
 |tup l=>
  obtain⟨p,xs,rfl,h1,h2⟩:=h.tup s;cases x;exact .inr (.inl ⟨xs,h1,oT h2⟩)
 |scr l=>
  obtain⟨p,xs,rfl,h1,h2⟩:=h.scr s;cases x;exact .inl ⟨xs,h1,oT h2⟩
 |_=>cases x
end
section
variable {K:Zj}{S S' H H':Hp}
def T7{ta:TE} (ha:SPk K ta a):ST K (λσ H Q=>ta σ H λx H'=>∃k,Jh K x H' k/\Q k H') (ik a):=λρ σ S H Q b r x k=>by obtain⟨da,qa,x⟩:=ZO x;exact ha ρ σ S H _ da r qa λv S1 H1 z1 d1=>⟨b,Mx z1.sub d1 x,k S1 H1 z1⟩
@[simp]def xf(a b:XT):XT:=λρ=>(a ρ).bind λx=>if x=true then b ρ else some false
@[simp]def GJ(a b:XT):XT:=λρ=>(a ρ).bind λx=>if x=true then some true else b ρ
@[simp]def qW(a:XT):XT:=λρ=>(a ρ).map λx=>!x
def T1{ta tb:TT} (ha:ST K ta a)(hb:ST K tb b):ST K (RU ta tb) (xf a b):=λρ σ S H Q d r x k=>by
 obtain⟨q,qa,x⟩:=ZO x;refine ha ρ σ S H _ q r qa λS1 H1 z1=>?_;cases q with
 |true=>exact B0 (hb ρ σ S1 H1 Q d (r.ext z1) (~~~x) λS2 H2 z2=>k S2 H2 (z1.trans z2))
 |false=>
  have:d=false:=by simpa using x.symm
  subst this;exact BZ (k S1 H1 z1)
def T5{ta tb:TT} (ha:ST K ta a)(hb:ST K tb b):ST K (Vu ta tb) (GJ a b):=λρ σ S H Q d r x k=>by
 obtain⟨q,qa,x⟩:=ZO x;refine ha ρ σ S H _ q r qa λS1 H1 z1=>?_;cases q with
 |false=>exact BZ (hb ρ σ S1 H1 Q d (r.ext z1) (~~~x) λS2 H2 z2=>k S2 H2 (z1.trans z2))
 |true=>
  have:d=true:=by simpa using x.symm
  subst this;exact B0 (k S1 H1 z1)
def PM{ta:TT} (ha:ST K ta a):ST K (RY ta) (qW a):=λρ σ S H Q d r x k=>by
 unfold qW at x;cases qa:a ρ with
 |none=>rw[qa] at x;cases x
 |some q=>rw[qa] at x;cases x;exact ha ρ σ S H _ q r qa k
inductive Out where
 |nx (ρ:Env)|rt (d:D)|ro (o:O)|bk (ρ:Env)|ct (ρ:Env)
abbrev XS:=Env->Option Out
def Done(K:Zj)(A:Hp)(Λ:Nat->Option Addr)(S:Hp)(E:Ends):Out->Prop
 |.nx ρ=>∀σ' S' H',RlA K A Λ ρ σ' S' H'->Same S S'->E.nx σ' H'
 |.bk ρ=>∀σ' S' H',RlA K A Λ ρ σ' S' H'->Same S S'->E.bk σ' H'
 |.ct ρ=>∀σ' S' H',RlA K A Λ ρ σ' S' H'->Same S S'->E.ct σ' H'
 |.rt d=>∀v S' H',Same S S'->Same S' H'->Same A H'->(∀b,S' b=none\/A b=none\/∃u,A b=some u/\IT u)->Den K S' d v->E.rt v H'
 |.ro o=>∀v fp S' H',Same S S'->Same S' H'->Same A H'->(∀b,S' b=none\/A b=none\/∃u,A b=some u/\IT u)->Own K S' H' o v fp->fp.Nodup->(∀b∈fp,S' b=none/\A b=none)->E.rt v H'
def Done.mono(s:Same S S')(h:Done K A Λ S E o):Done K A Λ S' E o:=by
 cases o with
 |nx ρ=>exact λσ1 S1 H1 r z=>h σ1 S1 H1 r (s.trans z)
 |bk ρ=>exact λσ1 S1 H1 r z=>h σ1 S1 H1 r (s.trans z)
 |ct ρ=>exact λσ1 S1 H1 r z=>h σ1 S1 H1 r (s.trans z)
 |rt d=>exact λv S1 H1 z=>h v S1 H1 (s.trans z)
 |ro d=>exact λv fp S1 H1 z=>h v fp S1 H1 (s.trans z)
def SS(K:Zj)(t:TS)(m:XS):Prop:=∀A Λ ρ σ S H (E:Ends) o,RlA K A Λ ρ σ S H->m ρ=some o->Done K A Λ S E o->t E σ H
@[simp]def dP:XS:=λρ=>some (.nx ρ)
def sk:SS K Gx dP:=λA Λ ρ σ S H E o r x k=>by cases x;exact k σ S H r (Same.refl _)
@[simp]def VY:XS:=λρ=>some (.bk ρ)
@[simp]def WW:XS:=λρ=>some (.ct ρ)
@[simp]def ML:XS:=λ_=>none
def Oy:SS K t ML:=λA Λ ρ σ S H E o r x k=>by cases x
@[simp]def aG(m n:XS):XS:=λρ=>match m ρ with|some (.nx ρ')=>n ρ' | o=>o
def cR(ht:SS K t m)(hu:SS K u n):SS K (OP t u) (aG m n):=λA Λ ρ σ S H E o r x k=>by
 unfold aG at x;cases q:m ρ with
 |none=>rw[q] at x;cases x
 |some om=>
  rw[q] at x;refine ht A Λ ρ σ S H _ om r q ?_;cases om with
  |nx ρ'=>exact λσ' S' H' r' z=>hu A Λ ρ' σ' S' H' E o r' x (k.mono z)
  |rt d=>cases x;exact k
  |ro d=>cases x;exact k
  |bk d=>cases x;exact k
  |ct d=>cases x;exact k
@[simp]def bu(e:XE):XS:=λρ=>(e ρ).map .rt
def Gq{te:TE} (h:SE K te e):SS K (IG te) (bu e):=λA Λ ρ σ S H E o r x k=>by
 unfold bu at x;cases q:e ρ with
 |none=>rw[q] at x;cases x
 |some d=>rw[q] at x;cases x;refine h ρ σ S H _ d r.toRl q λv S1 H1 z1 d1=>?_;have r1:=r.ext z1;exact k v S1 H1 z1.sh z1.sub r1.asub r1.adis d1
@[simp]def zf(e:Env->Option O):XS:=λρ=>(e ρ).map .ro
def LZ{te:TE} (h:STr K te e):SS K (IG te) (zf e):=λA Λ ρ σ S H E o r x k=>by
 unfold zf at x;cases q:e ρ with
 |none=>rw[q] at x;cases x
 |some ot=>rw[q] at x;cases x;refine h ρ σ S H _ ot r.toRl q λv fp S1 H1 z1 o1 nd n=>?_;have r1:=r.ext z1;exact k v fp S1 H1 z1.sh z1.sub r1.asub r1.adis o1 nd λb hb=>⟨(n b hb).2,r.asub.free (n b hb).1⟩
@[simp]def oE(i:Nat):XS:=λρ=>match ρ[i]? with|some (.sh d)=>some (.rt d)|some (.ow o)=>some (.ro o)|_=>none
def EM(i:Nat):SS K (IG (jS i)) (oE i):=λA Λ ρ σ S H E o r x k=>by
 unfold oE at x;cases q:ρ[i]? with
 |none=>rw[q] at x;cases x
 |some s=>
  rw[q] at x;obtain⟨Φ,f⟩:=r;cases s with
  |un|lo=>cases x
  |sh d=>
   cases x;obtain⟨v,h1,h2⟩:=f.sh i d q;exact⟨v,h1,k v S H (Same.refl _) f.sub f.asub f.adis h2⟩
  |ow ot=>cases x;obtain⟨v,h1,h2,h3,h4⟩:=f.ow i ot q;exact⟨v,h1,k v _ S H (Same.refl _) f.sub f.asub f.adis h2 h3 h4⟩
@[simp]def W4:XS:=λ_=>some (.rt .non)
@[simp]def lX(c:XT)(m n:XS):XS:=λρ=>(c ρ).bind λb=>if b=true then m ρ else n ρ
def Ih{tc:TT} (hc:ST K tc c)(ht:SS K t m)(hu:SS K u n):SS K (OM tc t u) (lX c m n):=λA Λ ρ σ S H E o r x k=>by
 obtain⟨q,qc,x⟩:=ZO x;refine hc ρ σ S H _ q r.toRl qc λS1 H1 z1=>?_;cases q with
 |true=>exact B0 (ht A Λ ρ σ S1 H1 E o (r.ext z1) (~~~x) (k.mono z1.sh))
 |false=>exact BZ (hu A Λ ρ σ S1 H1 E o (r.ext z1) (~~~x) (k.mono z1.sh))
def bB{α:Type}{l:List α}{i j:Nat}{x y:α}(h:(l.set i x)[j]?=some y):(i=j/\y=x/\i<l.length)\/(i≠j/\l[j]?=some y):=by
 by_cases hij:i=j
 ·subst hij;have hl:=(Yx.1 h).1;rw[aaR] at hl;rw[abE hl] at h;exact .inl ⟨rfl,(YU h).symm,hl⟩
 ·rw[aal hij] at h;exact .inr ⟨hij,h⟩
def RlF.set(r:RlF K A Λ Φ ρ σ S H)(i:Nat)(h:Den K S d v):RlF K A Λ Φ (ρ.set i (.sh d)) (σ.set i (some v)) S H where
 len:=by rw[aaR,aaR];exact r.len
 sub:=r.sub
 sh:=λj e hj=>by
  rcases bB hj with ⟨rfl,e,hl⟩|⟨hij,hj⟩
  ·cases e;exact⟨v,abE (by rw[r.len];exact hl),h⟩
  ·rw[aal hij];exact r.sh j e hj
 ow:=λj o hj=>by
  rcases bB hj with ⟨rfl,e,hl⟩|⟨hij,hj⟩
  ·cases e
  ·rw[aal hij];exact r.ow j o hj
 dj:=λj k o o' hjk h1 h2=>by
  rcases bB h1 with ⟨rfl,e,hl⟩|⟨hij,h1⟩
  ·cases e
  ·rcases bB h2 with ⟨rfl,e,hl⟩|⟨hik,h2⟩
   ·cases e
   ·exact r.dj j k o o' hjk h1 h2
 lo:=λj hj=>by
  rcases bB hj with ⟨rfl,e,hl⟩|⟨hij,hj⟩
  ·cases e
  ·rw[aal hij];exact r.lo j hj
 asub:=r.asub
 adis:=r.adis
def RlA.set(r:RlA K A Λ ρ σ S H)(i:Nat)(h:Den K S d v):RlA K A Λ (ρ.set i (.sh d)) (σ.set i (some v)) S H:=let ⟨Φ,f⟩:=r;⟨Φ,f.set i h⟩
def RlF.put{fp:Zk}(r:RlF K A Λ Φ ρ σ S H)(i:Nat)(sub:Same S H')(asub:Same A H')(ow:Own K S H' o v fp)(nd:fp.Nodup)(n:∀b∈fp,S b=none/\A b=none)
  (keep:∀(j:Nat) o',j≠i->ρ[j]?=some (.ow o')->∀b∈Φ j,H' b=H b/\b∉fp):RlF K A Λ (λj=>if j=i then fp else Φ j) (ρ.set i (.ow o)) (σ.set i (some v)) S H' where
 len:=by rw[aaR,aaR];exact r.len
 sub:=sub
 sh:=λj e hj=>by
  rcases bB hj with ⟨rfl,e,hl⟩|⟨hij,hj⟩
  ·cases e
  ·rw[aal hij];exact r.sh j e hj
 ow:=λj o' hj=>by
  rcases bB hj with ⟨rfl,e,hl⟩|⟨hij,hj⟩
  ·cases e;rw[Yb rfl];exact⟨v,abE (by rw[r.len];exact hl),ow,nd,n⟩
  ·rw[aal hij,X9 (YN hij)];obtain⟨w,h1,h2,h3,h4⟩:=r.ow j o' hj;exact⟨w,h1,h2.mono (Same.refl _) λb hb=>(keep j o' (YN hij) hj b hb).1,h3,h4⟩
 dj:=λj k o1 o2 hjk h1 h2 b hb hb2=>by
  rcases bB h1 with ⟨rfl,e,hl⟩|⟨hij,h1⟩
  ·rcases bB h2 with ⟨rfl,e,hl⟩|⟨hik,h2⟩
   ·exact hjk rfl
   ·rw[Yb rfl] at hb;rw[X9 (YN hik)] at hb2;exact (keep k o2 (YN hik) h2 b hb2).2 hb
  ·rcases bB h2 with ⟨rfl,e,hl⟩|⟨hik,h2⟩
   ·rw[Yb rfl] at hb2;rw[X9 (YN hij)] at hb;exact (keep j o1 (YN hij) h1 b hb).2 hb2
   ·rw[X9 (YN hij)] at hb;rw[X9 (YN hik)] at hb2;exact r.dj j k o1 o2 hjk h1 h2 b hb hb2
 lo:=λj hj=>by
  rcases bB hj with ⟨rfl,e,hl⟩|⟨hij,hj⟩
  ·cases e
  ·rw[aal hij];exact r.lo j hj
 asub:=asub
 adis:=r.adis
def wI{α:Type}{l:List α}{i:Nat}{x:α}(h:l[i]?=some x):l.set i x=l:=by
 apply acd;intro j;by_cases e:i=j
 ·subst e;rw[abE (Yx.1 h).1,h]
 ·rw[aal e]
def frz(i:Nat)(ρ:Env):Env:=match ρ[i]? with|some (.ow o)=>ρ.set i (.sh o.d)|_=>ρ
def RlA.frz(r:RlA K A Λ ρ σ S H)(i:Nat):∃S',Same S S'/\RlA K A Λ (frz i ρ) σ S' H:=by
 unfold M.frz;cases q:ρ[i]? with
 |none=>exact⟨S,Same.refl _,r⟩
 |some s=>
  cases s with
  |un=>exact⟨S,Same.refl _,r⟩
  |lo=>exact⟨S,Same.refl _,r⟩
  |sh d=>exact⟨S,Same.refl _,r⟩
  |ow o=>
   dsimp only;obtain⟨Φ,f⟩:=r;obtain⟨v,h1,h2,h3,h4⟩:=f.ow i o q;have s2:Same S (zE S H (Φ i)):=nw λb hb=>(h4 b hb).1;have hd:Den K (zE S H (Φ i)) o.d v:=h2.den s2 λb hb=>ue hb;refine⟨_,s2,Φ,?_⟩
   exact {
    len:=by rw[aaR];exact f.len
    sub:=BN f.sub
    sh:=λj d hj=>by
     rcases bB hj with ⟨rfl,e,hl⟩|⟨hij,hj⟩
     ·cases e;exact⟨v,h1,hd⟩
     ·obtain⟨w,k1,k2⟩:=f.sh j d hj;exact⟨w,k1,k2.mono s2⟩
    ow:=λj o' hj=>by
     rcases bB hj with ⟨rfl,e,hl⟩|⟨hij,hj⟩
     ·cases e
     ·obtain⟨w,k1,k2,k3,k4⟩:=f.ow j o' hj;exact⟨w,k1,k2.mono s2 λ_ _=>rfl,k3,λb hb=>⟨by rw[my λhi=>f.dj i j o o' hij q hj b hi hb];exact (k4 b hb).1,(k4 b hb).2⟩⟩
    dj:=λj k o1 o2 hjk g1 g2=>by
     rcases bB g1 with ⟨rfl,e,hl⟩|⟨hij,g1⟩
     ·cases e
     ·rcases bB g2 with ⟨rfl,e,hl⟩|⟨hik,g2⟩
      ·cases e
      ·exact f.dj j k o1 o2 hjk g1 g2
    lo:=λj hj=>by
     rcases bB hj with ⟨rfl,e,hl⟩|⟨hij,hj⟩
     ·cases e
     ·exact f.lo j hj
    asub:=f.asub
    adis:=λb=>by
     by_cases hb:b∈Φ i
     ·exact .inr (.inl (h4 b hb).2)
     ·rw[my hb];exact f.adis b }
@[simp]def O0(i:Nat)(m:XS):XS:=λρ=>m (frz i ρ)
def LU(i:Nat)(h:SS K t m):SS K t (O0 i m):=λA Λ ρ σ S H E o r x k=>by obtain⟨S',s,r'⟩:=r.frz i;exact h A Λ _ σ S' H E o r' x (k.mono s)
abbrev XG:=D->Env->Option Env
abbrev M0:=Zc->Env->Option Env
def SG(K:Zj)(g:TG)(x:XG):Prop:=∀A Λ ρ σ S H v d (Q:St->Hp->Prop) ρ',RlA K A Λ ρ σ S H->Den K S d v->x d ρ=some ρ'->(∀σ',RlA K A Λ ρ' σ' S H->Q σ' H)->g v σ H Q
def SM(K:Zj)(g:MZ)(x:M0):Prop:=∀A Λ ρ σ S H vs ds (Q:St->Hp->Prop) ρ',RlA K A Λ ρ σ S H->Dens K S ds vs->x ds ρ=some ρ'->(∀σ',RlA K A Λ ρ' σ' S H->Q σ' H)->g vs σ H Q
@[simp]def ah(i:Nat):XG:=λd ρ=>some (ρ.set i (.sh d))
def bd:M0:=λds ρ=>match ds with|[]=>some ρ|_=>none
def ao(x:XG)(y:M0):M0:=λds ρ=>match ds with|d::r=>(x d ρ).bind (y r)|[]=>none
def aL(y:M0):XG:=λd ρ=>match d with|.tup l=>y l ρ|.mtp l=>y l ρ|_=>none
def bp(i:Nat):SG K (jr i) (ah i):=λA Λ ρ σ S H v d Q ρ' r dv x k=>by cases x;exact k _ (r.set i dv)
def sU:SM K Nv bd:=λA Λ ρ σ S H vs ds Q ρ' r dv x k=>by
 cases ds with
 |nil=>cases x;exact⟨dv.nil_of,k σ r⟩
 |cons _ _=>cases x
def d6(h:SG K g x)(hs:SM K gs y):SM K (FM g gs) (ao x y):=λA Λ ρ σ S H vs ds Q ρ' r dv e k=>by
 cases ds with
 |nil=>cases e
 |cons d ds=>
  obtain⟨v,vs,rfl,h1,h2⟩:=dv.cons_of;have e':(x d ρ).bind (y ds)=some ρ':=e;cases q:x d ρ with
  |none=>rw[q] at e';cases e'
  |some ρ1=>rw[q] at e';exact⟨v,vs,rfl,h A Λ ρ σ S H v d _ ρ1 r h1 q λσ1 r1=>hs A Λ ρ1 σ1 S H vs ds Q ρ' r1 h2 e' k⟩
def B2(y:M0)(n:Nat):Prop:=∀ds ρ ρ',y ds ρ=some ρ'->ds.length=n
def mB:B2 bd 0:=λds ρ ρ' e=>by cases ds with|nil=>rfl|cons _ _=>cases e
def cj{n:Nat}(h:B2 y n):B2 (ao x y) (n+1):=λds ρ ρ' e=>by
 cases ds with
 |nil=>cases e
 |cons d ds=>
  have e':(x d ρ).bind (y ds)=some ρ':=e;cases q:x d ρ with
  |none=>rw[q] at e';cases e'
  |some ρ1=>rw[q] at e';rw[Yk,h ds ρ1 ρ' e']
def yo{n:Nat}(hs:SM K gs y)(hl:B2 y n):SG K (JW K n gs) (aL y):=λA Λ ρ σ S H v d Q ρ' r dv e k=>by
 cases d with
 |tup l=>
  obtain⟨p,xs,rfl,h1,h2⟩:=iG dv;exact⟨p,xs,rfl,aU r.sub h1,by rw[<-h2.length];exact hl l ρ ρ' e,hs A Λ ρ σ S H xs l Q ρ' r h2 e k⟩
 |mtp l=>
  obtain⟨p,xs,rfl,h1,h2⟩:=Zy.1 dv;exact⟨p,xs,rfl,aU r.sub h1,by rw[<-h2.length];exact hl l ρ ρ' e,hs A Λ ρ σ S H xs l Q ρ' r h2 e k⟩
 |_=>cases e
@[simp]def bX(e:XE)(g:XG):XS:=λρ=>(e ρ).bind λd=>(g d ρ).map .nx
def wz{te:TE} (h:SE K te e)(hg:SG K g x):SS K (AN te g) (bX e x):=λA Λ ρ σ S H E o r y k=>by
 obtain⟨d,q,y⟩:=ZO y;cases q2:x d ρ with
 |none=>rw[q2] at y;cases y
 |some ρ'=>rw[q2] at y;cases y;exact h ρ σ S H _ d r.toRl q λv S1 H1 z1 d1=>hg A Λ ρ σ S1 H1 v d _ ρ' (r.ext z1) d1 q2 λσ' r'=>k σ' S1 H1 r' z1.sh
@[simp]def qV(e:Env->Option O)(i:Nat):XS:=λρ=>(e ρ).map λo=>.nx (ρ.set i (.ow o))
def Ax{te:TE} {i:Nat}(h:STr K te e):SS K (AN te (jr i)) (qV e i):=λA Λ ρ σ S H E o r y k=>by
 unfold qV at y;cases q:e ρ with
 |none=>rw[q] at y;cases y
 |some ot=>rw[q] at y;cases y;obtain⟨Φ,f⟩:=r;refine h ρ σ S H _ ot ⟨A,Λ,Φ,f⟩ q λv fp S1 H1 z1 o1 nd n=>?_;have r1:=f.ext z1;refine k _ S1 H1 ⟨_,r1.put (H':=H1) i r1.sub r1.asub o1 nd (λb hb=>⟨(n b hb).2,f.asub.free (n b hb).1⟩) λj o' hj e1 b hb=>⟨rfl,λhf=>?_⟩⟩ z1.sh;obtain⟨w,_,k2,_,_⟩:=f.ow j o' e1;exact k2.there b hb (n b hf).1
@[simp]def fv(e:XA)(i:Nat):XS:=qV (Se e) i
def mS{te:TE} {i:Nat}(h:SF K te e):SS K (AN te (jr i)) (fv e i):=Ax h.t
def eM:O->Zn->Option O
 |o,[]=>some o
 |.lst l,k::r=>(cF l k).bind λo=>eM o r
 |.tup l,k::r=>(cF l k).bind λo=>eM o r
 |.sh _,_::_=>none
 |.dic _,_::_=>none
 |.hd _ _ _,_::_=>none
def wq(l:List O)(k:Int)(f:O->O):List O:=match yx l.length k with
 |some j=>(match l[j]? with|some o=>l.set j (f o)|none=>l)
 |none=>l
def kg:O->Zn->O->O
 |_,[],q=>q
 |.lst l,k::r,q=>.lst (wq l k λo=>kg o r q)
 |.tup l,k::r,q=>.tup (wq l k λo=>kg o r q)
 |.sh d,_::_,_=>.sh d
 |.dic d,_::_,_=>.dic d
 |.hd p d l,_::_,_=>.hd p d l
def WalkV(H:Hp):V->Zn->V->Prop
 |v,[],w=>v=w
 |v,k::r,w=>∃a xs u,v=.ref a/\(H a=some (.lst xs)\/H a=some (.tup xs))/\cF xs k=some u/\WalkV H u r w
theorem WalkV.mono(s:Same H H'):∀ {p:Zn} {v w:V},WalkV H v p w->WalkV H' v p w
 |[],_,_,h=>h
 |_::_,_,_,⟨a,xs,u,e,h,k,m⟩=>⟨a,xs,u,e,h.elim (λz=>.inl (s _ _ z)) (λz=>.inr (s _ _ z)),k,m.mono s⟩
theorem WalkV.uniq:∀ {p:Zn} {v w w':V},WalkV H v p w->WalkV H v p w'->w=w'
 |[],_,_,_,h,k=>h.symm.trans k
 |_::_,_,_,_,hpt0,hpt1=>by
  obtain⟨a,xs,u,e,h,k,m⟩:=hpt0;obtain⟨a',xs',u',e',h',k',m'⟩:=hpt1;rw[e] at e';cases e';have:xs=xs':=by rcases h with h|h<;>rcases h' with h' | h'<;>rw[h] at h'<;>cases h'<;>rfl
  subst this;rw[k] at k';cases k';exact m.uniq m'
theorem WalkV.snoc:∀ {p:Zn} {v w u:V} {k:Int} {a:Addr} {xs:Za},WalkV H v p w->w=.ref a->(H a=some (.lst xs)\/H a=some (.tup xs))->cF xs k=some u->WalkV H v (p++[k]) u
 |[],_,_,u,k,a,xs,h,e,h1,h2=>⟨a,xs,u,h.trans e,h1,h2,rfl⟩
 |_::_,_,_,_,_,_,_,⟨b,ys,u',e,h,k,m⟩,e',h1,h2=>⟨b,ys,u',e,h,k,m.snoc e' h1 h2⟩
theorem sD:∀ {p:Zn} {o q:O} {k:Int},eM o (p++[k])=some q->∃q0,eM o p=some q0/\eM q0 [k]=some q
 |[],o,q,k,h=>⟨o,by unfold eM;rfl,h⟩
 |j::p,o,q,k,h=>by
  cases o with
  |sh d|dic _|hd _ _ _=>cases h
  |lst l=>
   have h':(cF l j).bind (λo=>eM o (p++[k]))=some q:=h;cases e:cF l j with
   |none=>rw[e] at h';cases h'
   |some o1=>
    rw[e] at h';obtain⟨q0,a,b⟩:=sD (p:=p) h';exact⟨q0,by show (cF l j).bind (λo=>eM o p)=some q0;rw[e];exact a,b⟩
  |tup l=>
   have h':(cF l j).bind (λo=>eM o (p++[k]))=some q:=h;cases e:cF l j with
   |none=>rw[e] at h';cases h'
   |some o1=>rw[e] at h';obtain⟨q0,a,b⟩:=sD (p:=p) h';exact⟨q0,by show (cF l j).bind (λo=>eM o p)=some q0;rw[e];exact a,b⟩
theorem Owns.split:∀ {l:List O} {xs:Za} {f:Zk} {j:Nat} {o:O},Owns K S H l xs f->l[j]?=some o->∃x f1 f2 f3,xs[j]?=some x/\f=f1++(f2++f3)/\Own K S H o x f2 /\
  ∀H' o' f2',Own K S H' o' x f2'->(∀b∈f1,H' b=H b)->(∀b∈f3,H' b=H b)->Owns K S H' (l.set j o') xs (f1++(f2'++f3))
 |[],_,_,_,_,_,e=>by simp at e
 |o0::l,_,_,0,o,h,e=>by
  obtain⟨y,ys,f,g,rfl,rfl,a,b⟩:=h.cons_of;simp at e;subst e;exact⟨y,[],f,g,rfl,rfl,a,λH' o' f2' h1 _ h3=>Owns.cons (f:=f2') h1 (b.mono (Same.refl _) h3)⟩
 |o0::l,_,_,j+1,o,h,e=>by obtain⟨y,ys,f,g,rfl,rfl,a,b⟩:=h.cons_of;obtain⟨x,f1,f2,f3,e1,rfl,h1,h2⟩:=b.split (j:=j) (~~~e);refine⟨x,f++f1,f2,f3,~~~e1,#v[YL],h1,λH' o' f2' k1 k2 k3=>?_⟩;rw[YL];exact .cons (a.mono (Same.refl _) λb hb=>k2 b (YD _ hb)) (h2 H' o' f2' k1 (λb hb=>k2 b (Yu _ hb)) k3)
def DJ{α:Type}{l:List α}{k:Int}{x:α}(h:cF l k=some x):∃j,yx l.length k=some j/\l[j]?=some x:=by
 unfold cF at h;cases q:yx l.length k with
 |none=>rw[q] at h;cases h
 |some j=>rw[q] at h;exact⟨j,rfl,h⟩
theorem JR:∀ {p:Zn} {o q:O} {v:V} {fp:Zk},Own K S H o v fp->fp.Nodup->eM o p=some q->∃w fq,Own K S H q w fq/\WalkV H v p w/\(∀b∈fq,b∈fp)/\fq.Nodup /\
  ∀H' q' fq',Own K S H' q' w fq'->fq'.Nodup->(∀b∈fp,b∉fq->H' b=H b)->(∀b∈fq',b∈fp->b∈fq)->∃fp',Own K S H' (kg o p q') v fp'/\fp'.Nodup/\∀b∈fp',b∈fp\/b∈fq'
 |[],o,q,v,fp,h,nd,e=>by
  have e':some o=some q:=by unfold eM at e;exact e
  cases e';exact⟨v,fp,h,rfl,λb hb=>hb,nd,λH' q' fq' h1 n1 _ _=>⟨fq',by unfold kg;exact h1,n1,λb hb=>.inr hb⟩⟩
 |k::r,o,q,v,fp,h,nd,e=>by
  have body:∀(l:List O) (a:Addr) (xs:Za) (f:Zk),v=.ref a->fp=a::f->(H a=some (.lst xs)\/H a=some (.tup xs))->Owns K S H l xs f->((cF l k).bind λo=>eM o r)=some q ->
    ∃w fq,Own K S H q w fq/\WalkV H v (k::r) w/\(∀b∈fq,b∈fp)/\fq.Nodup/\∀H' q' fq',Own K S H' q' w fq'->fq'.Nodup->(∀b∈fp,b∉fq->H' b=H b)->(∀b∈fq',b∈fp->b∈fq) ->
     ∃f',Owns K S H' (wq l k λo=>kg o r q') xs f'/\H' a=H a/\(a::f').Nodup/\∀b∈a::f',b∈fp\/b∈fq':=by
   rintro l a xs f rfl rfl ha hl hs;obtain⟨na,nf⟩:=YH.1 nd;obtain⟨o1,qa,hs⟩:=ZO hs;obtain⟨j,ej,el⟩:=DJ qa;obtain⟨x,f1,f2,f3,ex,rfl,h1,h2⟩:=hl.split el;obtain⟨n1,n23,d1⟩:=aaq.1 nf;obtain⟨n2,n3,d2⟩:=aaq.1 n23;obtain⟨w,fq,k1,k2,k3,k4,k5⟩:=JR (p:=r) h1 n2 hs;have ax:cF xs k=some x:=by unfold cF;rw[<-hl.length,ej];exact ex
   refine⟨w,fq,k1,⟨a,xs,x,rfl,ha,ax,k2⟩,λb hb=>Yn _ (Yu _ (YD _ (k3 b hb))),k4,λH' q' fq' g1 g2 g3 g4=>?_⟩;have in2:∀b∈fq,b∈f2:=k3;have a1:∀b∈f1,b∉fq:=λb hb hq=>d1 b hb b (YD _ (in2 b hq)) rfl;have a3:∀b∈f3,b∉fq:=λb hb hq=>d2 b (in2 b hq) b hb rfl;have aa:a∉fq:=λhq=>na (Yu _ (YD _ (in2 a hq)));obtain⟨f2',m1,m2,m3⟩:=k5 H' q' fq' g1 g2 (λb hb hn=>g3 b (Yn _ (Yu _ (YD _ hb))) hn) λb hb hp=>g4 b hb (Yn _ (Yu _ (YD _ hp)));have out:∀b∈f2',b∉f1/\b∉f3/\b≠a:=λb hb=>by
    rcases m3 b hb with hb|hb
    ·exact⟨λz=>d1 b z b (YD _ hb) rfl,λz=>d2 b hb b z rfl,λz=>na (z▸Yu _ (YD _ hb))⟩
    ·refine⟨λz=>a1 b z (g4 b hb (Yn _ (YD _ z))),λz=>a3 b z (g4 b hb (Yn _ (Yu _ (Yu _ z)))),λz=>?_⟩;subst z;exact aa (g4 b hb Yg)
   refine⟨f1++(f2'++f3),?_,g3 a Yg aa,?_,λb hb=>?_⟩
   ·unfold wq;rw[ej];dsimp only;rw[el];exact h2 H' _ f2' m1 (λb hb=>g3 b (Yn _ (YD _ hb)) (a1 b hb)) λb hb=>g3 b (Yn _ (Yu _ (Yu _ hb))) (a3 b hb)
   ·refine YH.2 ⟨λz=>?_,aaq.2 ⟨n1,aaq.2 ⟨m2,n3,λb hb c hc e=>(out b hb).2.1 (e▸hc)⟩,λb hb c hc e=>?_⟩⟩
    ·rcases Yv.1 z with z|z
     ·exact na (YD _ z)
     ·rcases Yv.1 z with z|z
      ·exact (out a z).2.2 rfl
      ·exact na (Yu _ (Yu _ z))
    ·subst e;rcases Yv.1 hc with hc|hc
     ·exact (out b hc).1 hb
     ·exact d1 b hb b (Yu _ hc) rfl
   ·rcases Yj.1 hb with rfl|hb
    ·exact .inl Yg
    ·rcases Yv.1 hb with hb|hb
     ·exact .inl (Yn _ (YD _ hb))
     ·rcases Yv.1 hb with hb|hb
      ·exact (m3 b hb).imp (λz=>Yn _ (Yu _ (YD _ z))) id
      ·exact .inl (Yn _ (Yu _ (Yu _ hb)))
  cases o with
  |sh d|dic _|hd _ _ _=>cases e
  |lst l=>
   obtain⟨a,xs,f,e1,e2,h1,h2⟩:=Zs.1 h;obtain⟨w,fq,k1,k2,k3,k4,k5⟩:=body l a xs f e1 e2 (.inl h1) h2 e;refine⟨w,fq,k1,k2,k3,k4,λH' q' fq' g1 g2 g3 g4=>?_⟩;obtain⟨f',m1,m2,m3,m4⟩:=k5 H' q' fq' g1 g2 g3 g4;exact⟨a::f',by unfold kg;exact Zs.2 ⟨a,xs,f',e1,rfl,by rw[m2];exact h1,m1⟩,m3,m4⟩
  |tup l=>obtain⟨a,xs,f,e1,e2,h1,h2⟩:=ZA.1 h;obtain⟨w,fq,k1,k2,k3,k4,k5⟩:=body l a xs f e1 e2 (.inr h1.1) h2 e;refine⟨w,fq,k1,k2,k3,k4,λH' q' fq' g1 g2 g3 g4=>?_⟩;obtain⟨f',m1,m2,m3,m4⟩:=k5 H' q' fq' g1 g2 g3 g4;exact⟨a::f',by unfold kg;exact ZA.2 ⟨a,xs,f',e1,rfl,⟨by rw[m2];exact h1.1,h1.2⟩,m1⟩,m3,m4⟩
abbrev XP:=Env->Option (Zn)
def GQ(K:Zj)(to:TE)(i:Nat)(p:XP):Prop:=∀ρ σ S H (Q:VK) is o q,Rl K ρ σ S H->ρ[i]?=some (.ow o)->p ρ=some is->eM o is=some q->(∀v w S' H',σ[i]?=some (some v)->Ext S H S' H'->WalkV H' v is w->Q w H')->to σ H Q
@[simp]def ze:XP:=λ_=>some []
def wa(i:Nat):GQ K (jS i) i ze:=λρ σ S H Q is o q r h1 h2 h3 k=>by cases h2;obtain⟨v,fp,e,_⟩:=r.ow i o h1;exact⟨v,e,k v v S H e (Ext.refl r.sub) rfl⟩
@[simp]def V6(p:XP)(ix:XE):XP:=λρ=>(p ρ).bind λis=>(ix ρ).bind λd=>match d with|.int k=>some (is++[k])|_=>none
def Tk{to ti:TE}{i:Nat}{p:XP}{ix:XE}(hp:GQ K to i p)(hi:SPk K ti ix):GQ K (Mq (Tx K) to ti) i (V6 p ix):=λρ σ S H Q is o q r h1 h2 h3 k=>by
 obtain⟨js,e1,h2⟩:=ZO h2;obtain⟨d,e2,h2⟩:=ZO h2;cases d with
 |int kk=>
  cases h2;obtain⟨q0,s1,s2⟩:=sD h3;refine hp ρ σ S H _ js o q0 r h1 e1 s1 λv w S1 H1 ev z1 wk=>?_;have r1:=r.ext z1;refine hi ρ σ S1 H1 _ _ r1 e2 λu S2 H2 z2 d2=>?_;have r2:=r1.ext z2;obtain⟨v',fp,ev',ow,nd,_⟩:=r2.ow i o h1;rw[ev] at ev';cases ev';obtain⟨w',fq,k1,k2,_⟩:=JR ow nd s1;have ew:=k2.uniq (wk.mono (z2.same r1.sub));subst ew;rw[d2.int];cases q0 with
  |sh _|dic _|hd _ _ _=>cases s2
  |lst l=>
   have s2':(cF l kk).bind (λo=>eM o [])=some q:=s2;cases e3:cF l kk with
   |none=>rw[e3] at s2';cases s2'
   |some o1=>
    obtain⟨a,xs,f,rfl,rfl,hx,hl⟩:=Zs.1 k1;obtain⟨j,ej,el⟩:=DJ e3;obtain⟨x,_,_,_,ex,_⟩:=hl.split el;have ax:cF xs kk=some x:=by unfold cF;rw[<-hl.length,ej];exact ex
    exact .inl ⟨a,xs,kk,x,rfl,rfl,SqL.of hx,ax,k v x S2 H2 ev (z1.trans z2) (k2.snoc rfl (.inl hx) ax)⟩
  |tup l=>
   have s2':(cF l kk).bind (λo=>eM o [])=some q:=s2;cases e3:cF l kk with
   |none=>rw[e3] at s2';cases s2'
   |some o1=>
    obtain⟨a,xs,f,rfl,rfl,⟨hx,_⟩,hl⟩:=ZA.1 k1;obtain⟨j,ej,el⟩:=DJ e3;obtain⟨x,_,_,_,ex,_⟩:=hl.split el;have ax:cF xs kk=some x:=by unfold cF;rw[<-hl.length,ej];exact ex
    exact .inr (.inl ⟨a,xs,kk,x,rfl,rfl,SqT.of hx,ax,k v x S2 H2 ev (z1.trans z2) (k2.snoc rfl (.inr hx) ax)⟩)
 |_=>cases h2
def RlF.at{A:Hp}{Λ:Nat->Option Addr}{Φ:Nat->Zk}{ρ:Env}{σ:St}{i:Nat}{o:O}{is:Zn}{l:List O}{v w:V}(f:RlF K A Λ Φ ρ σ S H)(h1:ρ[i]?=some (.ow o))(h2:eM o is=some (.lst l))(ev:σ[i]?=some (some v))(wk:WalkV H v is w) :
  ∃a xs f0,w=.ref a/\H a=some (.lst xs)/\Owns K S H l xs f0/\(a::f0).Nodup/\(∀b∈a::f0,b∈Φ i)/\∀l' xs' f',(∀H',(∀b,b≠a->H' b=H b)->Owns K S H' l' xs' f')->(a::f').Nodup->(∀b∈f',b∈f0\/((∀(j:Nat) o',ρ[j]?=some (.ow o')->b∉Φ j)/\S b=none/\A b=none)) ->
   RlA K A Λ (ρ.set i (.ow (kg o is (.lst l')))) σ S (bi H a (.lst xs')):=by
 obtain⟨v',e',ow,nd,n⟩:=f.ow i o h1;rw[ev] at e';cases e';obtain⟨w',fq,k1,k2,k3,k4,k5⟩:=JR ow nd h2;have ew:=k2.uniq wk;subst ew;obtain⟨a,xs,g,rfl,rfl,hx,hl⟩:=Zs.1 k1;have ain:=k3 a Yg;refine⟨a,xs,g,rfl,hx,hl,k4,k3,λl' xs' f' g1 g2 g3=>?_⟩;have ne:∀b,b≠a->bi H a (.lst xs') b=H b:=λb hb=>aw hb;obtain⟨fp',m1,m2,m3⟩:=k5 (bi H a (.lst xs')) (.lst l') (a::f') (Zs.2 ⟨a,xs',f',rfl,rfl,aA,g1 _ ne⟩) g2 (λb hb hn=>ne b λz=>hn (z▸Yg)) λb hb hp=>by
  rcases Yj.1 hb with rfl|hb
  ·exact Yg
  ·rcases g3 b hb with z|⟨z,_⟩
   ·exact Yn _ z
   ·exact absurd hp (z i o h1)
 have sub':Same S (bi H a (.lst xs')):=λb u e=>by rw[ne b λz=>by subst z;rw[(n b ain).1] at e;cases e];exact f.sub b u e
 have asub':Same A (bi H a (.lst xs')):=λb u e=>by rw[ne b λz=>by subst z;rw[(n b ain).2] at e;cases e];exact f.asub b u e
 have fin:=f.put (H':=bi H a (.lst xs')) i sub' asub' m1 m2 (λb hb=>by
  rcases m3 b hb with z|z
  ·exact n b z
  ·rcases Yj.1 z with rfl|z
   ·exact n b ain
   ·rcases g3 b z with z|⟨_,z⟩
    ·exact n b (k3 b (Yn _ z))
    ·exact z) λj o' hj e1 b hb=>by
   have nb:b∉Φ i:=λz=>f.dj j i o' o hj e1 h1 b hb z;refine⟨ne b λz=>nb (z▸ain),λz=>?_⟩;rcases m3 b z with z|z
   ·exact nb z
   ·rcases Yj.1 z with rfl|z
    ·exact nb ain
    ·rcases g3 b z with z|⟨z,_⟩
     ·exact nb (k3 b (Yn _ z))
     ·exact z j o' e1 hb
 rw[wI ev] at fin;exact⟨_,fin⟩
def RlF.fresh(f:RlF K A Λ Φ ρ σ S H)(h:H b=none):(∀(j:Nat) o',ρ[j]?=some (.ow o')->b∉Φ j)/\S b=none/\A b=none:=
 ⟨λj o' e hb=>by obtain⟨_,_,ow,_⟩:=f.ow j o' e;exact ow.there b hb h,f.sub.free h,f.asub.free h⟩
@[simp]def jb(i:Nat)(p:XP)(e:Env->Option O):XS:=λρ=>match ρ[i]? with
 |some (.ow o)=>(p ρ).bind λis=>(e ρ).bind λx=>match eM o is with
  |some (.lst l)=>if l.length<a9 then some (.nx (ρ.set i (.ow (kg o is (.lst (l++[x])))))) else none
  |_=>none
 |_=>none
def sg{to te:TE}{i:Nat} (hp:GQ K to i p)(h:STr K te e):SS K (qS (RX K "list" rAppend to (eX te mY))) (jb i p e):=λA Λ ρ σ S H E out r y k=>by
 unfold jb at y;cases q0:ρ[i]? with
 |none=>rw[q0] at y;cases y
 |some s=>
  rw[q0] at y;cases s with
  |un|lo|sh _=>cases y
  |ow o=>
   dsimp only at y;cases q1:p ρ with
   |none=>rw[q1] at y;cases y
   |some is=>
    rw[q1] at y;dsimp only[Option.bind] at y;cases q2:e ρ with
    |none=>rw[q2] at y;cases y
    |some x=>
     rw[q2] at y;dsimp only at y;cases q3:eM o is with
     |none=>rw[q3] at y;cases y
     |some qo=>
      rw[q3] at y;cases qo with
      |sh _|dic _|hd _ _ _|tup _=>cases y
      |lst l=>
       dsimp only at y;split at y
       ·rename_i hl;cases y;obtain⟨Φ,f⟩:=r;refine hp ρ σ S H _ is o _ ⟨A,Λ,Φ,f⟩ q0 q1 q3 λv w S1 H1 ev z1 wk=>?_;have f1:=f.ext z1;obtain⟨a,xs,g0,rfl,hx,hw,nd0,in0,_⟩:=f1.at q0 q3 ev wk;refine⟨.inl ⟨rfl,xs,SqL.of hx⟩,h ρ σ S1 H1 _ x ⟨A,Λ,Φ,f1⟩ q2 λu fu S2 H2 z2 ou nd n=>?_⟩;have f2:=f1.ext z2;obtain⟨a',xs',g1,e1,hx',hw',nd1,in1,up⟩:=f2.at q0 q3 ev (wk.mono (z2.same f1.sub));cases e1;have fr:∀b∈fu,(∀(j:Nat) o',ρ[j]?=some (.ow o')->b∉Φ j)/\S2 b=none/\A b=none:=λb hb=>⟨(f1.fresh (n b hb).1).1,(n b hb).2,(f1.fresh (n b hb).1).2.2⟩
        have fa:∀b∈fu,b∉a::g1:=λb hb z=>(fr b hb).1 i o q0 (in1 b z);obtain⟨na,ng⟩:=YH.1 nd1;refine⟨a,xs',u,rfl,rfl,hx',?_,?_⟩
        ·rw[<-hw'.length];exact abO hl fN
        ·refine k σ S2 _ (up (l++[x]) (xs'++[u]) (g1++fu) (λH' ne=>?_) ?_ λb hb=>?_) (z1.sh.trans z2.sh)
         ·have:=(hw'.mono (H':=H') (Same.refl _) λb hb=>ne b λz=>na (z▸hb)).append (.cons (ou.mono (H':=H') (Same.refl _) λb hb=>ne b λz=>fa b hb (z▸Yg)) .nil);rw[YK] at this;exact this
         ·refine YH.2 ⟨λz=>?_,aaq.2 ⟨ng,nd,λb hb c hc e=>fa c hc (e▸Yn _ hb)⟩⟩;rcases Yv.1 z with z|z
          ·exact na z
          ·exact fa a z Yg
         ·rcases Yv.1 hb with hb|hb
          ·exact .inl hb
          ·exact .inr (fr b hb)
       ·cases y
@[simp]def W3(i:Nat)(p:XP)(j:Nat):XS:=λρ=>match ρ[i]? with
 |some (.ow o)=>(p ρ).bind λis=>match eM o is with
  |some (.lst l)=>(match l.getLast? with
   |some (.sh d)=>some (.nx ((ρ.set i (.ow (kg o is (.lst l.dropLast)))).set j (.sh d)))
   |_=>none)
  |_=>none
 |_=>none
@[simp]def W7(i:Nat)(p:XP):XS:=λρ=>match ρ[i]? with
 |some (.ow o)=>(p ρ).bind λis=>match eM o is with
  |some (.lst l)=>(match nY l with|some ds=>some (.nx (ρ.set i (.ow (kg o is (.lst (ds.reverse.map .sh))))))|none=>none)
  |_=>none
 |_=>none
def rExtM:V->Za->Hp->VK->Prop:=λx vs H Q=>∃l b xs zs,x=.ref l/\vs=[.ref b]/\H l=some (.lst xs)/\Rd H b (.lst zs)/\xs.length+zs.length<=sizeLine/\Q .non (bi H l (.lst (xs++zs)))
@[simp]def zd(i:Nat)(p:XP)(e:XE):XS:=λρ=>match ρ[i]? with
 |some (.ow o)=>(p ρ).bind λis=>(e ρ).bind λd=>match eM o is,d with
  |some (.lst l),.lst ds=>if l.length+ds.length<=a9 then some (.nx (ρ.set i (.ow (kg o is (.lst (l++ds.map .sh)))))) else none
  |_,_=>none
 |_=>none
def LQ{to te:TE}{i:Nat} (hp:GQ K to i p)(h:SE K te e):SS K (qS (RX K "list" rExtM to (eX te mY))) (zd i p e):=λA Λ ρ σ S H E out r y k=>by
 unfold zd at y;cases q0:ρ[i]? with
 |none=>rw[q0] at y;cases y
 |some s=>
  rw[q0] at y;cases s with
  |un|lo|sh _=>cases y
  |ow o=>
   dsimp only at y;cases q1:p ρ with
   |none=>rw[q1] at y;cases y
   |some is=>
    rw[q1] at y;dsimp only[Option.bind] at y;cases q2:e ρ with
    |none=>rw[q2] at y;cases y
    |some dd=>
     rw[q2] at y;dsimp only at y;cases q3:eM o is with
     |none=>rw[q3] at y;cases y
     |some qo=>
      rw[q3] at y;cases qo with
      |sh _|dic _|hd _ _ _|tup _=>cases y
      |lst l=>
       cases dd with
       |lst ds=>
        dsimp only at y;split at y
        ·rename_i hl;cases y;obtain⟨Φ,f⟩:=r;refine hp ρ σ S H _ is o _ ⟨A,Λ,Φ,f⟩ q0 q1 q3 λv w S1 H1 ev z1 wk=>?_;have f1:=f.ext z1;obtain⟨a,xs,g0,rfl,hx,hw,nd0,in0,_⟩:=f1.at q0 q3 ev wk;refine⟨.inl ⟨rfl,xs,SqL.of hx⟩,h ρ σ S1 H1 _ _ ⟨A,Λ,Φ,f1⟩ q2 λu S2 H2 z2 d2=>?_⟩;have f2:=f1.ext z2;obtain⟨a',xs',g1,e1,hx',hw',nd1,in1,up⟩:=f2.at q0 q3 ev (wk.mono (z2.same f1.sub));cases e1;obtain⟨b,zs,rfl,hb,dz⟩:=Zu.1 d2;obtain⟨na,ng⟩:=YH.1 nd1;refine⟨a,b,xs',zs,rfl,rfl,hx',cu z2.sub hb,?_,?_⟩
         ·rw[<-hw'.length,<-dz.length];exact Y0 (aaf hl fN)
         ·refine k σ S2 _ (up (l++ds.map .sh) (xs'++zs) g1 (λH' ne=>?_) nd1 λb hb=>.inl hb) (z1.sh.trans z2.sh);have:=(hw'.mono (H':=H') (Same.refl _) λb hb=>ne b λz=>na (z▸hb)).append (qB (H:=H') dz);rw[YK] at this;exact this
        ·cases y
       |_=>cases y
@[simp]def GM(i:Nat)(p:XP)(ix e:XE):XS:=λρ=>(e ρ).bind λd=>match ρ[i]? with
 |some (.ow o)=>(p ρ).bind λis=>(ix ρ).bind λk=>match eM o is,k with
  |some (.lst l),.int k=>(match nY l with|some ds=>(yx ds.length k).map λj=>.nx (ρ.set i (.ow (kg o is (.lst ((ds.set j d).map .sh)))))|none=>none)
  |_,_=>none
 |_=>none
def RD{to te:TE}{i:Nat} (h:SE K te e)(hp:GQ K to i p)(hi:SPk K ti ix):SS K (AN te (QK to ti Lr)) (GM i p ix e):=λA Λ ρ σ S H E out r y k=>by
 unfold GM at y;cases q:e ρ with
 |none=>rw[q] at y;cases y
 |some d=>
  rw[q] at y;dsimp only[Option.bind] at y;cases q0:ρ[i]? with
  |none=>rw[q0] at y;cases y
  |some s=>
   rw[q0] at y;cases s with
   |un|lo|sh _=>cases y
   |ow o=>
    dsimp only at y;cases q1:p ρ with
    |none=>rw[q1] at y;cases y
    |some is=>
     rw[q1] at y;dsimp only at y;cases q2:ix ρ with
     |none=>rw[q2] at y;cases y
     |some dk=>
      rw[q2] at y;dsimp only at y;cases q3:eM o is with
      |none=>rw[q3] at y;cases y
      |some qo=>
       rw[q3] at y;cases qo with
       |sh _|dic _|hd _ _ _|tup _=>cases y
       |lst l=>
        cases dk with
        |int kk=>
         dsimp only at y;cases q4:nY l with
         |none=>rw[q4] at y;cases y
         |some ds=>
          rw[q4] at y;dsimp only at y;cases q5:yx ds.length kk with
          |none=>rw[q5] at y;cases y
          |some j=>
           rw[q5] at y;cases y;have ed:=z8 q4;subst ed;obtain⟨Φ,f⟩:=r;refine h ρ σ S H _ d ⟨A,Λ,Φ,f⟩ q λu S0 H0 z0 d0=>?_;have f0:=f.ext z0;refine hp ρ σ S0 H0 _ is o _ ⟨A,Λ,Φ,f0⟩ q0 q1 q3 λv w S1 H1 ev z1 wk=>?_;have f1:=f0.ext z1;refine hi ρ σ S1 H1 _ _ ⟨A,Λ,Φ,f1⟩ q2 λw2 S2 H2 z2 d2=>?_;have f2:=f1.ext z2;obtain⟨a',xs',g1,rfl,hx',hw',nd1,in1,up⟩:=f2.at q0 q3 ev (wk.mono (z2.same f1.sub));obtain⟨hd,rfl⟩:=lh hw';refine⟨a',xs',kk,j,rfl,d2.int,hx',by rw[<-hd.length];exact q5,?_⟩;exact k σ S2 _ (up ((ds.set j d).map .sh) (xs'.set j u) [] (λH' ne=>qB (hd.set j ((d0.mono z1.sh).mono z2.sh))) nd1 λb hb=>by cases hb) ((z0.sh.trans z1.sh).trans z2.sh)
        |_=>cases y
@[simp]def IW(i:Nat)(e:XE)(f:D->D->Zd):XS:=λρ=>match ρ[i]? with
 |some (.sh x)=>(e ρ).bind λy=>(f x y).map λz=>.nx (ρ.set i (.sh z))
 |_=>none
def T2{te:TE} {i:Nat} (h:SPk K te e)(hr:xZ K ti f):SS K (RV i te ti) (IW i e f):=λA Λ ρ σ S H E o r y k=>by
 unfold IW at y;cases q0:ρ[i]? with
 |none=>rw[q0] at y;cases y
 |some s=>
  rw[q0] at y;cases s with
  |un|lo|ow _=>cases y
  |sh x=>
   dsimp only at y;cases q:e ρ with
   |none=>rw[q] at y;cases y
   |some d=>
    rw[q] at y;dsimp only[Option.bind] at y;cases q2:f x d with
    |none=>rw[q2] at y;cases y
    |some g=>rw[q2] at y;cases y;obtain⟨v,h1,h2⟩:=r.sh i x q0;refine⟨v,h1,h ρ σ S H _ d r.toRl q λw S1 H1 z1 d1=>?_⟩;exact hr S1 H1 v w x d g _ z1.sub (.inl (h2.mono z1.sh)) d1 q2 λu S2 H2 z2 d2=>k _ S2 H2 ((r.ext (z1.trans z2)).set i d2) (z1.sh.trans z2.sh)
@[simp]def WX(e:XE):XS:=λρ=>(e ρ).map λ_=>.nx ρ
def Walks(K:Zj)(J:It)(S:Hp)(l:Zc):Prop:=∀S' H',Same S S'->Same S' H' ->
 (∀i d,l[i]?=some d->J.go i H'/\∀x H'',J.yld i H' x H''->H''=H'/\Den K S' d x)/\J.stop l.length H'
def SI(K:Zj)(wi:TI)(e:XA):Prop:=∀ρ σ S H (R:It->Hp->Prop) l,Rl K ρ σ S H->e ρ=some l->(∀J S' H',Ext S H S' H'->Walks K J S' l->R J H')->wi σ H R
def sr:D->Option (Zc)
 |.lst l=>some l|.tup l=>some l|.scr l=>some l|.mtp l=>some l|_=>none
def Ql(K:Zj)(J:It)(S H:Hp)(l:Zc):Prop:=∀S' H',Ext S H S' H' ->
 (∀i d,l[i]?=some d->J.go i H'/\∀x H'',J.yld i H' x H''->H''=H'/\Den K S' d x)/\J.stop l.length H'
def U1(K:Zj)(wi:TI)(e:XA):Prop:=∀ρ σ S H (R:It->Hp->Prop) l,Rl K ρ σ S H->e ρ=some l->(∀J S' H',Ext S H S' H'->Ql K J S' H' l->R J H')->wi σ H R
def SI.p{wi:TI}{e:XA}(h:SI K wi e):U1 K wi e:=λρ σ S H R l r x k=>h ρ σ S H R l r x λJ S' H' z w=>k J S' H' z λS2 H2 z2=>w S2 H2 z2.sh z2.sub
@[simp]def fb(e:XE):XA:=λρ=>(e ρ).bind sr
def yt{tl:TE} (h:SE K tl e):SI K (QL K tl) (fb e):=λρ σ S H R l r x k=>by
 obtain⟨d,q,x⟩:=ZO x;refine h ρ σ S H _ d r q λv S1 H1 z1 d1=>?_;cases d with
 |lst l'=>
  cases x;obtain⟨p,xs,rfl,h1,h2⟩:=Zu.1 d1;refine⟨p,rfl,.inl ⟨⟨xs,.inl (cu z1.sub h1)⟩,k _ S1 H1 z1 λS' H' s1 s2=>⟨λi d hd=>?_,xs,.inl (cu (s1.trans s2) h1),aad h2.length.symm⟩⟩⟩;obtain⟨y,e1,e2⟩:=h2.get hd;refine⟨⟨xs,y,.inl (cu (s1.trans s2) h1),e1⟩,λx H'' hy=>⟨hy.1,?_⟩⟩;have:=hy.2 xs (.inl (cu (s1.trans s2) h1));rw[e1] at this;cases this;exact e2.mono s1
 |tup l'=>
  cases x;obtain⟨p,xs,rfl,h1,h2⟩:=iG d1;refine⟨p,rfl,.inr ⟨⟨xs,aU z1.sub h1⟩,k _ S1 H1 z1 λS' H' s1 s2=>⟨λi d hd=>?_,xs,aU (s1.trans s2) h1,aad h2.length.symm⟩⟩⟩;obtain⟨y,e1,e2⟩:=h2.get hd;refine⟨⟨xs,y,aU (s1.trans s2) h1,e1⟩,λx H'' hy=>⟨hy.1,?_⟩⟩;have:=hy.2 xs (aU (s1.trans s2) h1);rw[e1] at this;cases this;exact e2.mono s1
 |mtp l'=>
  cases x;obtain⟨p,xs,rfl,h1,h2⟩:=Zy.1 d1;refine⟨p,rfl,.inr ⟨⟨xs,aU z1.sub h1⟩,k _ S1 H1 z1 λS' H' s1 s2=>⟨λi d hd=>?_,xs,aU (s1.trans s2) h1,aad h2.length.symm⟩⟩⟩;obtain⟨y,e1,e2⟩:=h2.get hd;refine⟨⟨xs,y,aU (s1.trans s2) h1,e1⟩,λx H'' hy=>⟨hy.1,?_⟩⟩;have:=hy.2 xs (aU (s1.trans s2) h1);rw[e1] at this;cases this;exact e2.mono s1
 |scr l'=>
  cases x;obtain⟨p,xs,rfl,h1,h2⟩:=ZJ.1 d1;refine⟨p,rfl,.inl ⟨⟨xs,eU z1.sub h1⟩,k _ S1 H1 z1 λS' H' s1 s2=>⟨λi d hd=>?_,xs,eU (s1.trans s2) h1,aad h2.length.symm⟩⟩⟩;obtain⟨y,e1,e2⟩:=h2.get hd;refine⟨⟨xs,y,eU (s1.trans s2) h1,e1⟩,λx H'' hy=>⟨hy.1,?_⟩⟩;have:=hy.2 xs (eU (s1.trans s2) h1);rw[e1] at this;cases this;exact e2.mono s1
 |_=>cases x
def BV{α:Type}(p:Prop)(a b:α):α:=@ite α p (Classical.propDecidable p) a b
def fM{α:Type}{p:Prop}{a b:α}(h:p):BV p a b=a:=by unfold BV;exact Yb h
def iI{α:Type}{p:Prop}{a x:α}(h:BV p (some a) none=some x):p/\a=x:=by
 unfold BV at h;by_cases c:p
 ·rw[Yb c] at h;exact⟨c,YU h⟩
 ·rw[X9 c] at h;cases h
def zL{tl:TE} (h:SPk K tl e):U1 K (QL K tl) (fb e):=λρ σ S H R l r x k=>by
 obtain⟨d,q,x⟩:=ZO x;refine h ρ σ S H _ d r q λv S1 H1 z1 d1=>?_;rcases d1 with d1|⟨l',p,xs,rfl,rfl,hx,dx⟩
 ·cases d with
  |lst l'=>
   cases x;obtain⟨p,xs,rfl,h1,h2⟩:=Zu.1 d1;refine⟨p,rfl,.inl ⟨⟨xs,.inl (cu z1.sub h1)⟩,k _ S1 H1 z1 λS' H' z2=>⟨λi d hd=>?_,xs,.inl (cu (z2.sh.trans z2.sub) h1),aad h2.length.symm⟩⟩⟩;obtain⟨y,e1,e2⟩:=h2.get hd;refine⟨⟨xs,y,.inl (cu (z2.sh.trans z2.sub) h1),e1⟩,λx H'' hy=>⟨hy.1,?_⟩⟩;have:=hy.2 xs (.inl (cu (z2.sh.trans z2.sub) h1));rw[e1] at this;cases this;exact e2.mono z2.sh
  |tup l'=>
   cases x;obtain⟨p,xs,rfl,h1,h2⟩:=iG d1;refine⟨p,rfl,.inr ⟨⟨xs,aU z1.sub h1⟩,k _ S1 H1 z1 λS' H' z2=>⟨λi d hd=>?_,xs,aU (z2.sh.trans z2.sub) h1,aad h2.length.symm⟩⟩⟩;obtain⟨y,e1,e2⟩:=h2.get hd;refine⟨⟨xs,y,aU (z2.sh.trans z2.sub) h1,e1⟩,λx H'' hy=>⟨hy.1,?_⟩⟩;have:=hy.2 xs (aU (z2.sh.trans z2.sub) h1);rw[e1] at this;cases this;exact e2.mono z2.sh
  |mtp l'=>
   cases x;obtain⟨p,xs,rfl,h1,h2⟩:=Zy.1 d1;refine⟨p,rfl,.inr ⟨⟨xs,aU z1.sub h1⟩,k _ S1 H1 z1 λS' H' z2=>⟨λi d hd=>?_,xs,aU (z2.sh.trans z2.sub) h1,aad h2.length.symm⟩⟩⟩;obtain⟨y,e1,e2⟩:=h2.get hd;refine⟨⟨xs,y,aU (z2.sh.trans z2.sub) h1,e1⟩,λx H'' hy=>⟨hy.1,?_⟩⟩;have:=hy.2 xs (aU (z2.sh.trans z2.sub) h1);rw[e1] at this;cases this;exact e2.mono z2.sh
  |scr l'=>
   cases x;obtain⟨p,xs,rfl,h1,h2⟩:=ZJ.1 d1;refine⟨p,rfl,.inl ⟨⟨xs,eU z1.sub h1⟩,k _ S1 H1 z1 λS' H' z2=>⟨λi d hd=>?_,xs,eU (z2.sh.trans z2.sub) h1,aad h2.length.symm⟩⟩⟩;obtain⟨y,e1,e2⟩:=h2.get hd;refine⟨⟨xs,y,eU (z2.sh.trans z2.sub) h1,e1⟩,λx H'' hy=>⟨hy.1,?_⟩⟩;have:=hy.2 xs (eU (z2.sh.trans z2.sub) h1);rw[e1] at this;cases this;exact e2.mono z2.sh
  |_=>cases x
 ·cases x;refine⟨p,rfl,.inl ⟨⟨xs,SqL.of hx⟩,k _ S1 H1 z1 λS' H' z2=>?_⟩⟩;have hx2:H' p=some (.lst xs):=z2.same z1.sub _ _ hx;refine⟨λi d hd=>?_,xs,SqL.of hx2,aad dx.length.symm⟩;obtain⟨y,e1,e2⟩:=dx.get hd;refine⟨⟨xs,y,SqL.of hx2,e1⟩,λx H'' hy=>⟨hy.1,?_⟩⟩;have:=hy.2 xs (SqL.of hx2);rw[e1] at this;cases this;exact e2.mono z2.sh
def f8(lo:Int):Nat->Zc
 |0=>[]
 |n+1=>.int lo::f8 (lo+1) n
theorem rA:∀(n:Nat) (lo:Int) (i:Nat) (d:D),(f8 lo n)[i]?=some d->i<n/\d=.int (lo+i)
 |0,_,_,_,h=>by simp[f8] at h
 |n+1,lo,0,d,h=>by simp[f8] at h;exact⟨abu _,by rw[<-h];simp⟩
 |n+1,lo,i+1,d,h=>by obtain⟨h1,h2⟩:=rA n (lo+1) i d (by simpa[f8] using h);exact⟨adr h1,by rw[h2];congr 1;lia⟩
theorem rB:∀(n:Nat) (lo:Int),(f8 lo n).length=n
 |0,_=>rfl
 |n+1,lo=>#v[f8,Yk,rB n]
def zc(lo:Int)(n:Nat):Walks K (Qc lo n) S (f8 lo n):=λS' H' _ _=>⟨λi d h=>by
 obtain⟨h1,rfl⟩:=rA n lo i d h
 exact⟨h1,λx H'' y=>⟨y.1,Zo.2 y.2⟩⟩,by rw[rB];exact Yi _⟩
def Ot:Zc->Option (Zc)
 |[.int j]=>BV (j<1000000 /\ -1000000<j) (some (f8 0 j.toNat)) none
 |[.int i,.int j]=>BV (j<4000000000000000000 /\ -4000000000000000000<i/\i<4000000000000000000 /\ -4000000000000000000<j) (some (f8 i (j-i).toNat)) none
 |_=>none
@[simp]def IX(a:XA):XA:=λρ=>(a ρ).bind Ot
def D7{ta:TE} (h:SPk K ta a):SI K (Pe (eX ta mY)) (IX (af a aj)):=λρ σ S H R l r x k=>by
 obtain⟨ds,q,x⟩:=ZO x;obtain⟨d,e,qa,qb,rfl⟩:=ku q;cases qb;cases d with
 |int j=>
  have x':BV (j<1000000 /\ -1000000<j) (some (f8 0 j.toNat)) none=some l:=x;obtain⟨hj,rfl⟩:=iI x';refine h ρ σ S H _ _ r qa λv S1 H1 z1 d1=>?_;refine⟨j,#v[d1.int],?_,?_,k _ S1 H1 z1 (zc 0 _)⟩
  ·have:(2:Int)^62=4611686018427387904:=by decide
   lia
  ·have:(2:Int)^62=4611686018427387904:=by decide
   lia
 |_=>cases x
def fL:Nat->Nat->Zc
 |_,0=>[]
 |k,n+1=>.int (2*k)::fL (k+1) n
theorem uX:∀(n k i:Nat) (d:D),(fL k n)[i]?=some d->i<n/\d=.int (2*((k+i:Nat):Int))
 |0,_,_,_,h=>by simp[fL] at h
 |n+1,k,0,d,h=>by simp[fL] at h;exact⟨abu _,by rw[<-h];simp⟩
 |n+1,k,i+1,d,h=>by obtain⟨h1,h2⟩:=uX n (k+1) i d (by simpa[fL] using h);exact⟨adr h1,by rw[h2];congr 1;lia⟩
theorem oV:∀(n k:Nat),(fL k n).length=n
 |0,_=>rfl
 |n+1,k=>#v[fL,Yk,oV n]
def LC:Zc->Option (Zc)
 |[.int a,.int j,.int b]=>BV (a=0/\b=2/\0<=j/\j<1000000) (some (fL 0 ((j+1)/2).toNat)) none
 |_=>none
@[simp]def P6(a:XA):XA:=λρ=>(a ρ).bind LC
def QM(h:Qi K t a):SI K (Pf t) (P6 a):=λρ σ S H R l r x k=>by
 obtain⟨ds,q,x⟩:=ZO x;rcases ds with _|⟨d0,ds⟩
 ·cases x
 cases d0<;>try (cases x;done)
 rcases ds with _|⟨d0,ds⟩
 ·cases x
 cases d0<;>try (cases x;done)
 rcases ds with _|⟨d0,ds⟩
 ·cases x
 cases d0<;>try (cases x;done)
 cases ds<;>try (cases x;done)
 rename_i aa j bb;obtain⟨⟨rfl,rfl,hj1,hj2⟩,rfl⟩:=iI x;refine h ρ σ S H _ _ r q λvs S1 H1 z1 d1=>?_;cases d1 with
 |cons a1 d1=>cases d1 with
  |cons a2 d1=>cases d1 with
   |cons a3 d1=>cases d1;refine⟨j,#v[a1.int,a2.int,a3.int],hj1,hj2,k _ S1 H1 z1 λS' H' _ _=>⟨λi d h=>?_,by rw[oV];exact Yi _⟩⟩;obtain⟨h1,rfl⟩:=uX _ 0 i d h;exact⟨h1,λx H'' y=>⟨y.1,Zo.2 (#v[y.2,aaK])⟩⟩
def bR(g:XG)(m:XS):Zc->Env->Option Out
 |[],ρ=>some (.nx ρ)
 |d::l,ρ=>(g d ρ).bind λρ1=>match m ρ1 with
  |some (.nx ρ2)=>bR g m l ρ2
  |some (.ct ρ2)=>bR g m l ρ2
  |some (.bk ρ2)=>some (.nx ρ2)
  |some (.rt d)=>some (.rt d)
  |some (.ro d)=>some (.ro d)
  |none=>none
@[simp]def dS(e:XA)(g:XG)(m:XS):XS:=λρ=>(e ρ).bind λl=>bR g m l ρ
def uU{l:Zc}{i:Nat}{d:D}(h:l[i]?=some d):l.drop i=d::l.drop (i+1):=by obtain⟨h1,rfl⟩:=Yx.1 h;exact abL h1
def Qm(K:Zj)(J:It)(S:Hp)(l:Zc):Prop:=∀S' H',Same S S'->Same S' H' ->
 (∀i d,l[i]?=some d->J.go i H'/\∀x H'',J.yld i H' x H''->∃S'',Ext S' H' S'' H''/\Den K S'' d x)/\J.stop l.length H'
def U0(K:Zj)(wi:TI)(e:XA):Prop:=∀ρ σ S H (R:It->Hp->Prop) l,Rl K ρ σ S H->e ρ=some l->(∀J S' H',Ext S H S' H'->Qm K J S' l->R J H')->wi σ H R
def SI.h{wi:TI}{e:XA}(h:SI K wi e):U0 K wi e:=λρ σ S H R l r x k=>h ρ σ S H R l r x λJ S' H' z w=>k J S' H' z λS1 H1 a b=>⟨λi d hd=>⟨((w S1 H1 a b).1 i d hd).1,λx H2 hy=>by
 obtain⟨rfl,dx⟩:=((w S1 H1 a b).1 i d hd).2 x H2 hy
 exact⟨S1,Ext.refl b,dx⟩⟩,(w S1 H1 a b).2⟩
def LS{wi:TI}{g:TG}{tb:TS}{e:XA}{x:XG}{m:XS}(hi:U0 K wi e)(hg:SG K g x)(hb:SS K tb m):SS K (OL wi g tb) (dS e x m):=λA Λ ρ σ S H E o r y k=>by
 unfold dS at y;cases q:e ρ with
 |none=>rw[q] at y;cases y
 |some l=>
  rw[q] at y;dsimp only[Option.bind] at y;refine hi ρ σ S H _ l r.toRl q λJ S1 H1 z1 wk=>?_;have r1:=r.ext z1;refine⟨λi n σ' H'=>n=l.length-i/\i<=l.length/\∃ρ' S',RlA K A Λ ρ' σ' S' H'/\Same S1 S'/\bR x m (l.drop i) ρ'=some o,⟨_,rfl,YR _,ρ,S1,r1,Same.refl _,y⟩,?_⟩;rintro i n σ2 H2 ⟨rfl,hil,ρ2,S2,r2,s2,y2⟩;obtain⟨w1,w2⟩:=wk S2 H2 s2 r2.sub;cases qd:l[i]? with
  |none=>
   have:l.length=i:=by have:=abv.1 qd;lia
   subst this;rw[aa8 (Yi _)] at y2;cases y2;exact .inl ⟨w2,k σ2 S2 H2 r2 (z1.sh.trans s2)⟩
  |some d=>
   obtain⟨g1,g2⟩:=w1 i d qd;have hlt:=(Yx.1 qd).1;rw[uU qd] at y2;unfold bR at y2;cases qx:x d ρ2 with
   |none=>rw[qx] at y2;cases y2
   |some ρ3=>
    rw[qx] at y2;dsimp only[Option.bind] at y2;refine .inr ⟨g1,λσ' H'=>∃ρ' S',RlA K A Λ ρ' σ' S' H'/\Same S1 S'/\bR x m (l.drop (i+1)) ρ'=some o,λσ' H' ⟨ρ',S',a1,a2,a3⟩=>⟨_,(),rfl,hlt,ρ',S',a1,a2,a3⟩,λxv H3 hy=>?_⟩;obtain⟨S3,z3,dx⟩:=g2 xv H3 hy;have s3:=s2.trans z3.sh;refine hg A Λ ρ2 σ2 S3 H3 xv d _ ρ3 (r2.ext z3) dx qx λσ3 r3=>?_;cases qm:m ρ3 with
    |none=>rw[qm] at y2;cases y2
    |some om=>
     rw[qm] at y2;refine hb A Λ ρ3 σ3 S3 H3 _ om r3 qm ?_;cases om with
     |nx ρ4=>exact λσ4 S4 H4 r4 s4=>⟨ρ4,S4,r4,s3.trans s4,y2⟩
     |ct ρ4=>exact λσ4 S4 H4 r4 s4=>⟨ρ4,S4,r4,s3.trans s4,y2⟩
     |bk ρ4=>cases y2;exact λσ4 S4 H4 r4 s4=>k σ4 S4 H4 r4 ((z1.sh.trans s3).trans s4)
     |rt d4=>cases y2;exact λv S4 H4 s4=>k v S4 H4 ((z1.sh.trans s3).trans s4)
     |ro d4=>cases y2;exact λv fp S4 H4 s4=>k v fp S4 H4 ((z1.sh.trans s3).trans s4)
def tz{wi:TI} {tb:TS} (hi:SI K wi e)(hg:SG K g x)(hb:SS K tb m):SS K (OL wi g tb) (dS e x m):=LS hi.h hg hb
def cA(c:XT)(m:XS):Nat->Env->Option Out
 |0,_=>none
 |n+1,ρ=>(c ρ).bind λb=>if b=true then (match m ρ with
  |some (.nx ρ2)=>cA c m n ρ2
  |some (.ct ρ2)=>cA c m n ρ2
  |some (.bk ρ2)=>some (.nx ρ2)
  |some (.rt d)=>some (.rt d)
  |some (.ro d)=>some (.ro d)
  |none=>none) else some (.nx ρ)
theorem m7(c:XT)(m:XS):∀(n:Nat) (ρ:Env) (o:Out),cA c m n ρ=some o->cA c m (n+1) ρ=some o
 |0,_,_,h=>by cases h
 |n+1,ρ,o,h=>by
  unfold cA at h ⊢;cases qc:c ρ with
  |none=>rw[qc] at h;cases h
  |some b=>
   rw[qc] at h;dsimp only[Option.bind] at h ⊢;cases b with
   |false=>exact h
   |true=>
    rw[Yb rfl] at h ⊢;cases qm:m ρ with
    |none=>rw[qm] at h;cases h
    |some om=>
     rw[qm] at h;cases om with
     |nx ρ2=>exact m7 c m n ρ2 o h
     |ct ρ2=>exact m7 c m n ρ2 o h
     |bk ρ2|rt _|ro _=>exact h
theorem pG(c:XT)(m:XS)(n:Nat)(ρ:Env)(o:Out)(h:cA c m n ρ=some o):∀k,cA c m (n+k) ρ=some o
 |0=>h
 |k+1=>m7 c m (n+k) ρ o (pG c m n ρ o h k)
def qY(c:XT)(m:XS):XS:=λρ=>by
 classical
 exact if h:∃o n,cA c m n ρ=some o then some h.choose else none
def cO(c:XT)(m:XS):XS:=λρ=>(cA c m 64 ρ).or (qY c m ρ)
def xb{o o':Out}{n k:Nat}(h:cA c m n ρ=some o)(h':cA c m k ρ=some o'):o'=o:=by have h3:=pG c m n ρ o h k;have h4:=pG c m k ρ _ h' n;rw[Nat.add_comm k n,h3] at h4;exact (YU h4).symm
def zg{n:Nat} {o:Out}(h:cA c m n ρ=some o):cO c m ρ=some o:=by
 unfold cO;cases q:cA c m 64 ρ with
 |some o'=>exact Yt some (xb h q)
 |none=>
  have hx:∃o n,cA c m n ρ=some o:=⟨o,n,h⟩
  show qY c m ρ=some o;unfold qY;rw[aaL hx];obtain⟨n2,h2⟩:=hx.choose_spec;exact Yt some (xb h h2)
def yN{o:Out}(h:cO c m ρ=some o):∃n,cA c m n ρ=some o:=by
 unfold cO at h;cases q:cA c m 64 ρ with
 |some o'=>rw[q] at h;exact⟨64,q.trans h⟩
 |none=>
  rw[q] at h;have h:qY c m ρ=some o:=h;unfold qY at h;split at h
  ·rename_i hx;cases h;exact hx.choose_spec
  ·cases h
def pH{c:XT} {ρ:Env}(h:c ρ=some false):cO c m ρ=some (.nx ρ):=zg (n:=1) (by unfold cA;rw[h];rfl)
def jF{c:XT}{m:XS}{ρ ρ2:Env}{o:Out}(h:c ρ=some true)(hm:m ρ=some (.nx ρ2))(k:cO c m ρ2=some o):cO c m ρ=some o:=by obtain⟨n,hn⟩:=yN k;exact zg (n:=n+1) (by unfold cA;rw[h,hm];exact hn)
def Gr{tc:TT}{tb:TS} (hc:ST K tc c)(hb:SS K tb m):SS K (E5 tc tb) (cO c m):=λA Λ ρ σ S H E o r y k=>by
 obtain⟨n,hn⟩:=yN y;refine⟨λn σ' H'=>∃ρ' S',RlA K A Λ ρ' σ' S' H'/\Same S S'/\cA c m n ρ'=some o,⟨n,ρ,S,r,Same.refl _,hn⟩,?_⟩;rintro n σ1 H1 ⟨ρ1,S1,r1,s1,h1⟩;cases n with
 |zero=>cases h1
 |succ n=>
  unfold cA at h1;cases qc:c ρ1 with
  |none=>rw[qc] at h1;cases h1
  |some b=>
   rw[qc] at h1;dsimp only[Option.bind] at h1;refine hc ρ1 σ1 S1 H1 _ b r1.toRl qc λS2 H2 z2=>?_;have r2:=r1.ext z2;cases b with
   |false=>
    rw[X9 (by decide)] at h1;cases h1;exact BZ (k σ1 S2 H2 r2 (s1.trans z2.sh))
   |true=>
    rw[Yb rfl] at h1;refine B0 ⟨λσ' H'=>∃ρ' S',RlA K A Λ ρ' σ' S' H'/\Same S S'/\cA c m n ρ'=some o,λσ' H' a=>⟨n,aam _,a⟩,?_⟩;cases qm:m ρ1 with
    |none=>rw[qm] at h1;cases h1
    |some om=>
     rw[qm] at h1;refine hb A Λ ρ1 σ1 S2 H2 _ om r2 qm ?_;cases om with
     |nx ρ4=>exact λσ4 S4 H4 r4 s4=>⟨ρ4,S4,r4,(s1.trans z2.sh).trans s4,h1⟩
     |ct ρ4=>exact λσ4 S4 H4 r4 s4=>⟨ρ4,S4,r4,(s1.trans z2.sh).trans s4,h1⟩
     |bk ρ4=>cases h1;exact λσ4 S4 H4 r4 s4=>k σ4 S4 H4 r4 ((s1.trans z2.sh).trans s4)
     |rt d4=>cases h1;exact λv S4 H4 s4=>k v S4 H4 ((s1.trans z2.sh).trans s4)
     |ro d4=>cases h1;exact λv fp S4 H4 s4=>k v fp S4 H4 ((s1.trans z2.sh).trans s4)
@[simp]def tI(js:List (Option Nat))(ρ:Env):Env:=js.map λo=>match o with|none=>.un|some j=>match ρ[j]? with|some (.sh d)=>.sh d|_=>.un
def a8(g:XG)(c:XT)(e:XE)(ρ0:Env):Zc->Option (Zc)
 |[]=>some []
 |d::l=>(g d ρ0).bind λρ1=>(c ρ1).bind λb=>if b=true then (e ρ1).bind λy=>(a8 g c e ρ0 l).map λr=>y::r else a8 g c e ρ0 l
@[simp]def aX(js:List (Option Nat))(w:XA)(g:XG)(c:XT)(e:XE):XA:=λρ=>(w ρ).bind λl=>if l.length<=a9 then a8 g c e (tI js ρ) l else none
@[simp]def bA:XT:=λ_=>some true
def Gu:ST K O9 bA:=λρ σ S H Q b r x k=>by cases x;exact k S H (Ext.refl r.sub)
def p8{js:List (Option Nat)} {i:Nat}{s:Sl}(h:(tI js ρ)[i]?=some s):s=.un\/∃d j,s=.sh d/\js[i]?=some (some j)/\ρ[j]?=some (.sh d):=by
 unfold tI at h;rw[YG] at h;cases q:js[i]? with
 |none=>rw[q] at h;cases h
 |some o=>
  rw[q] at h;cases o with
  |none=>cases h;exact .inl rfl
  |some j=>
   simp only[Option.map_some] at h;cases q2:ρ[j]? with
   |none=>rw[q2] at h;cases h;exact .inl rfl
   |some s2=>
    rw[q2] at h;cases s2 with
    |un=>cases h;exact .inl rfl
    |lo=>cases h;exact .inl rfl
    |ow l=>cases h;exact .inl rfl
    |sh d=>cases h;exact .inr ⟨d,j,rfl,rfl,q2⟩
def jl(S H:Hp):Hp:=λb=>match S b with|none=>H b|some _=>none
def rc:Same (jl S H) H:=λb o h=>by
 unfold jl at h;cases q:S b with
 |none=>rw[q] at h;exact h
 |some _=>rw[q] at h;cases h
def q9{S:Hp}(b:Addr):S b=none\/jl S H b=none\/∃u,jl S H b=some u/\IT u:=by
 unfold jl;cases q:S b with
 |none=>exact .inl rfl
 |some _=>exact .inr (.inl rfl)
def uG{S H:Hp}{b:Addr}{o:HO}(h:H b=some o)(n:S b=none):jl S H b=some o:=by unfold jl;rw[n];exact h
def Ly(r:Rl K ρ σ S H)(js:List (Option Nat)):RlA K (jl S H) (λ_=>none) (tI js ρ) (sV js σ) S H:=by
 refine⟨λ_=>[],?_⟩
 exact {
  len:=by unfold tI sV;rw[Ye,Ye]
  sub:=r.sub
  sh:=λi d h=>by
   rcases p8 h with e|⟨d',j,e,h1,h2⟩
   ·cases e
   ·cases e;obtain⟨v,k1,k2⟩:=r.sh j d h2;refine⟨v,?_,k2⟩;unfold sV;rw[YG,h1];show some ((σ[j]?).join)=some (some v);rw[k1];rfl
  ow:=λi o h=>by
   rcases p8 h with e|⟨d',j,e,h1,h2⟩
   ·cases e
   ·cases e
  dj:=λi j o o' _ h=>by
   rcases p8 h with e|⟨d',j,e,h1,h2⟩
   ·cases e
   ·cases e
  lo:=λi h=>by
   rcases p8 h with e|⟨d',j,e,h1,h2⟩
   ·cases e
   ·cases e
  asub:=rc
  adis:=q9 }
def Ay{js:List (Option Nat)}{wi:TI} {tt:Qj}{te:TE} (hi:U1 K wi w)(hg:SG K g x)(hc:ST K tt c)(he:SE K te e):SF K (y8 js wi g tt te) (aX js w x c e):=λρ σ S H Q l r y k=>by
 unfold aX at y;cases q:w ρ with
 |none=>rw[q] at y;cases y
 |some ds=>
  rw[q] at y;dsimp only[Option.bind] at y;split at y
  ·rename_i hlim;refine hi ρ σ S H _ ds r q λJ S1 H1 z1 wk D hD=>?_;have r1:=r.ext z1;have hD0:H D=none:=(z1.same r.sub).free hD
   -- the word: what is told so far,what is still to be told
   refine⟨λi n H'=>n=ds.length-i/\i<=ds.length/\∃S' done ys rest,Ext S1 H1 S' H'/\Same S1 S'/\H' D=some (.lst ys)/\S' D=none/\Dens K S' done ys/\done.length<=i/\a8 x c e (tI js ρ) (ds.drop i)=some rest/\l=done++rest,
    ⟨_,rfl,YR _,S1,[],[],l,Ext.own z1.sub hD,Same.refl _,aA,z1.sub.free hD,.nil,YR _,y,rfl⟩,?_⟩
   rintro i n H2 ⟨rfl,hil,S2,done,ys,rest,z2,s2,hy,hSD,dy,hdl,y2,rfl⟩;obtain⟨w1,w2⟩:=wk S2 H2 z2;cases qd:ds[i]? with
   |none=>
    have:ds.length=i:=by have:=abv.1 qd;lia
    subst this;rw[aa8 (Yi _)] at y2;cases y2;rw[YK] at k;exact .inl ⟨w2,k D ys S2 H2 (z1.trans z2) hD0 hSD hy dy⟩
   |some d=>
    obtain⟨g1,g2⟩:=w1 i d qd;have hlt:=(Yx.1 qd).1;rw[uU qd] at y2;unfold a8 at y2;cases qx:x d (tI js ρ) with
    |none=>rw[qx] at y2;cases y2
    |some ρ3=>
     rw[qx] at y2;dsimp only[Option.bind] at y2;refine .inr ⟨g1,λxv H3 hyl=>?_⟩;obtain⟨rfl,dx⟩:=g2 xv H3 hyl;have ri:=Ly (r1.ext z2) js;refine hg _ _ _ _ S2 H3 xv d _ ρ3 ri dx qx λσ3 r3=>?_;cases qc:c ρ3 with
     |none=>rw[qc] at y2;cases y2
     |some b=>
      rw[qc] at y2;dsimp only at y2;refine hc ρ3 σ3 S2 H3 _ b r3.toRl qc λS4 H4 z4=>?_;obtain⟨al1,al2⟩:=z4.al D _ hy hSD;cases b with
      |false=>
       rw[X9 (by decide)] at y2;exact BZ ⟨_,(),rfl,hlt,S4,done,ys,rest,z2.trans z4,s2.trans z4.sh,al1,al2,dy.mono z4.sh,(),y2,rfl⟩
      |true=>
       rw[Yb rfl] at y2;cases qe:e ρ3 with
       |none=>rw[qe] at y2;cases y2
       |some dv=>
        rw[qe] at y2;dsimp only at y2;cases qr:a8 x c e (tI js ρ) (ds.drop (i+1)) with
        |none=>rw[qr] at y2;cases y2
        |some rest2=>
         rw[qr] at y2;cases y2;refine B0 (he ρ3 σ3 S4 H4 _ dv (r3.toRl.ext z4) qe λv S5 H5 z5 d5=>?_);obtain⟨b1,b2⟩:=z5.al D _ al1 al2;refine⟨ys,b1,?_,_,(),rfl,hlt,S5,done++[dv],ys++[v],rest2,?_,(s2.trans z4.sh).trans z5.sh,aA,b2,((dy.mono z4.sh).mono z5.sh).append (.cons d5 .nil),by rw[Yl,Y5];lia,qr,by rw[YL];rfl⟩
         ·rw[<-dy.length];exact YT (aaf hdl hlt) (Yr hlim (Y0 fN))
         ·have z6:=(z2.trans z4).trans z5;exact⟨z6.sh,λb u hb=>by rw[aw λz=>by subst z;rw[b2] at hb;cases hb];exact z6.sub b u hb,λb o hb hn=>by
           obtain⟨c1,c2⟩:=z6.alw b o hb hn
           exact⟨by rw[aw λz=>by subst z;rw[hD] at hb;cases hb];exact c1,c2⟩⟩
  ·cases y
@[simp]def WZ(i:Nat)(g:XG)(m:XS):XS:=λρ=>match ρ[i]? with
 |some (.ow (.lst os))=>(match nY os with
  |some l=>(match bR g m l (ρ.set i .lo) with
   |some (.nx ρ')=>(match ρ'[i]? with|some .lo=>some (.nx (ρ'.set i (.ow (.lst os))))|_=>none)
   |some (.rt d)=>some (.rt d)
   |_=>none)
  |none=>none)
 |_=>none
def br(n:Nat)(x:XS)(ds:Zc):Option O:=match x (ds.map .sh++List.replicate (n-ds.length) .un) with
 |some (.rt d)=>some (.sh d)
 |some (.ro o)=>some o
 |some (.nx _)=>some (.sh .non)
 |_=>none
def Lz{N:Zl}{ds:Zc} (s:Same S H)(h:Dens K S ds vs):RlA K (jl S H) (λ_=>none) (ds.map .sh++List.replicate (N.length-ds.length) .un) (L2.di N vs) S H:=by
 have hl:=h.length;have key:∀(i:Nat) t,(ds.map Sl.sh++List.replicate (N.length-ds.length) .un)[i]?=some t->t=.un\/∃d v,t=.sh d/\(L2.di N vs)[i]?=some (some v)/\Den K S d v:=λi t ht=>by
  by_cases hi:i<ds.length
  ·rw[aaz (by rw[Ye];exact hi),YG] at ht;cases q:ds[i]? with
   |none=>rw[q] at ht;cases ht
   |some d=>rw[q] at ht;cases ht;obtain⟨v,e1,e2⟩:=h.get q;refine .inr ⟨d,v,rfl,?_,e2⟩;unfold L2.di;rw[aaz (by rw[Ye];lia),YG,e1];rfl
  ·rw[abp (by rw[Ye];lia),ac9] at ht;split at ht
   ·cases ht;exact .inl rfl
   ·cases ht
 refine⟨λ_=>[],?_⟩
 exact {
  len:=by unfold L2.di;rw[Yl,Yl,Ye,Ye,acz,acz,hl]
  sub:=s
  sh:=λi d hi=>by
   rcases key i _ hi with e|⟨d',v,e,h1,h2⟩
   ·cases e
   ·cases e;exact⟨v,h1,h2⟩
  ow:=λi o hi=>by
   rcases key i _ hi with e|⟨d',v,e,h1,h2⟩
   ·cases e
   ·cases e
  dj:=λi j o o' _ hi=>by
   rcases key i _ hi with e|⟨d',v,e,h1,h2⟩
   ·cases e
   ·cases e
  lo:=λi hi=>by
   rcases key i _ hi with e|⟨d',v,e,h1,h2⟩
   ·cases e
   ·cases e
  asub:=rc
  adis:=q9 }
def yV{N:Zl}{n k:Nat} (hs:SS K t x)(hN:N.length=n)(h:bm K k (br n x) vs H Q E) :
  t { nx:=λ_ H'=>Q .non H',rt:=Q } (L2.di N vs) H:=by
 obtain⟨_,S,ds,d,s,dd,y,q⟩:=h;subst hN;unfold br at y;have r:=Lz (N:=N) s dd;have ex:∀ {S' H':Hp},Same S S'->Same S' H'->Same (jl S H) H'->(∀b,S' b=none\/jl S H b=none\/∃u,jl S H b=some u/\IT u)->Ext S H S' H':=λs1 s2 s3 s4=>⟨s1,s2,λb o hb hn=>by
  have ha:=uG hb hn;refine⟨s3 b o ha,?_⟩;rcases s4 b with z|z|⟨u,z,hu⟩
  ·exact .inl z
  ·rw[ha] at z;cases z
  ·rw[ha] at z;cases z;exact .inr hu⟩
 cases qx:x (ds.map .sh++List.replicate (N.length-ds.length) .un) with
 |none=>rw[qx] at y;cases y
 |some o=>
  rw[qx] at y;refine hs _ _ _ _ S H _ o r qx ?_;cases o with
  |rt d'=>
   cases y;exact λv S' H' s1 s2 s3 s4 dv=>q v [] S' H' (ex s1 s2 s3 s4) (ZC.2 ⟨rfl,dv⟩) .nil λb hb=>by cases hb
  |ro o'=>
   cases y;refine λv fp S' H' s1 s2 s3 s4 ow nd n=>q v fp S' H' (ex s1 s2 s3 s4) ow nd λb hb=>⟨?_,(n b hb).1⟩
   cases qb:H b with
   |none=>rfl
   |some u=>
    have:=uG qb (s1.free (n b hb).1);rw[(n b hb).2] at this;cases this
  |nx ρ'=>
   cases y;exact λσ' S' H' r' s1=>q .non [] S' H' (ex s1 r'.sub r'.asub r'.adis) (ZC.2 ⟨rfl,den_non.2 rfl⟩) .nil λb hb=>by cases hb
  |bk ρ'=>cases y
  |ct ρ'=>cases y
end
def dI(f:Int->Int->Zd):D->D->Zd
 |.int i,.int j=>f i j
 |_,_=>none
def mj:D->D->Zd:=dI λi j=>BV ((-18446744073709551616<i/\i<18446744073709551616)\/(-18446744073709551616<j/\j<18446744073709551616)) (some (.int (i*j))) none
def kT:D->D->Zd:=dI λi j=>BV (0<j/\j<1073741824) (some (.int (i/j))) none
def hU:D->D->Zd:=dI λi j=>BV (0<j) (some (.int (i%j))) none
def Nh:D->D->Zd:=dI λi j=>BV (0<=j/\j<=1000000/\i.natAbs<18446744073709551616) (some (.int (i^j.toNat))) none
def gI:D->D->Zd:=dI λi j=>some (.int (i-j))
def JB:D->D->Zd:=dI λi j=>some (.bl (decide (i<j)))
def I0:D->D->Zd:=dI λi j=>some (.bl (decide (i<=j)))
def O8:D->D->Zd:=dI λi j=>some (.bl (decide (j<i)))
def Sj:D->D->Zd:=dI λi j=>some (.bl (decide (j<=i)))
def ml:D->Zd
 |.int i=>some (.int (-i))
 |_=>none
section
variable {K:Zj}
def UK{C:Int->Int->Prop}{g:Int->Int->V}{f:Int->Int->Zd}(h:∀i j d,f i j=some d->C i j/\rp d=some (g i j)):xZ K (rI C g) (dI f):=λS H x y d e z Q s dx dy q k=>by
 cases d<;>try cases q
 cases e<;>try cases q
 rename_i i j;obtain⟨h1,h2⟩:=h i j z q;exact⟨i,j,dx.int,dy.int,h1,k _ S H (Ext.refl s) (pW h2)⟩
def EH{g:Int->Int->V}{f:Int->Int->Zd}(h:∀i j d,f i j=some d->rp d=some (g i j)):xZ K (CT g) (dI f):=λS H x y d e z Q s dx dy q k=>by
 cases d<;>try cases q
 cases e<;>try cases q
 rename_i i j;exact⟨i,j,dx.int,dy.int,k _ S H (Ext.refl s) (pW (h i j z q))⟩
def Py:xZ K (rI CMul λi j=>.int (i*j)) mj:=UK λi j d h=>by
 obtain⟨c,rfl⟩:=iI h;refine⟨?_,rfl⟩;unfold CMul;have:(2:Int)^64=18446744073709551616:=by decide
 rw[this];exact c
def qI:xZ K (rI Ss λi j=>.int (i/j)) kT:=UK λi j d h=>by obtain⟨c,rfl⟩:=iI h;exact⟨c,rfl⟩
def oq:xZ K (rI (λ_ j=>0<j) λi j=>.int (i%j)) hU:=UK λi j d h=>by obtain⟨c,rfl⟩:=iI h;exact⟨c,rfl⟩
def TQ:xZ K (rI Qb λi j=>.int (i^j.toNat)) Nh:=UK λi j d h=>by
 obtain⟨c,rfl⟩:=iI h;refine⟨?_,rfl⟩;unfold Qb;have:(2:Nat)^64=18446744073709551616:=by decide
 rw[this];exact c
def TR:xZ K (CT λi j=>.int (i-j)) gI:=EH λi j d h=>by cases h;rfl
def TN:xZ K (CT λi j=>.bl (decide (i<j))) JB:=EH λi j d h=>by cases h;rfl
def TL:xZ K (CT λi j=>.bl (decide (i<=j))) I0:=EH λi j d h=>by cases h;rfl
def TK:xZ K (CT λi j=>.bl (decide (j<i))) O8:=EH λi j d h=>by cases h;rfl
def Vp:xZ K (CT λi j=>.bl (decide (j<=i))) Sj:=EH λi j d h=>by cases h;rfl
def yU:Wm K (rU λi=>.int (-i)) ml:=λS H x d g Q s dx q k=>by
 cases d<;>try cases q
 rename_i i;exact⟨i,dx.int,k _ S H (Ext.refl s) (Zo.2 rfl)⟩
end
def Ps:R2:=λx y H Q=>∃l b xs zs,x=.ref l/\y=.ref b/\Rd H l (.lst xs)/\Rd H b (.lst zs)/\xs.length+zs.length<=sizeLine/\∀p,H p=none->Q (.ref p) (bi H p (.lst (xs++zs)))
def Px(K:Zj):R2:=λx y H Q=>∃a b xs ys,x=.ref a/\y=.ref b/\SqT K H a xs/\SqT K H b ys/\xs.length+ys.length<=sizeLine /\
 (ys=[]->Q (.ref a) H)/\(xs=[]->Q (.ref b) H)/\∀p,H p=none->Q (.ref p) (bi H p (.tup (xs++ys)))
def Pv:R2:=λx y H Q=>∃i j,x=.str i/\y=.str j/\i.length+j.length<=sizeLine/\Q (.str (i++j)) H
def Gg(K:Zj):R2:=λx y H Q=>(∃i j,x=.int i/\y=.int j/\Q (.int (i+j)) H)\/Ps x y H Q\/Px K x y H Q\/Pv x y H Q
def a6:D->D->Zd
 |.int i,.int j=>some (.int (i+j))
 |.lst a,.lst b=>if a.length+b.length<=a9 then some (.lst (a++b)) else none
 |.tup a,.tup b=>if a.length+b.length<=a9 then some (.tup (a++b)) else none
 |.str a,.str b=>if a.length+b.length<=a9 then some (.str (a++b)) else none
 |_,_=>none
section
variable {K:Zj}
def Dens.nil_iff{ds:Zc}{xs:Za}(h:Dens K S ds xs):xs=[]↔ds=[]:=by have:=h.length;cases ds<;>cases xs<;>simp_all
def rH{n:Nat}(h:n<=a9):n<=sizeLine:=Y0 (aaf h fN)
def wt:xZ K (Gg K) a6:=λS H x y d e z Q s dx dy q k=>by
 cases d<;>first|(cases q;done)|(cases e<;>try (cases q;done))
 ·rename_i i j;cases q;exact .inl ⟨i,j,dx.int,dy.int,k _ S H (Ext.refl s) (Zo.2 rfl)⟩
 ·rename_i i j;have q':(if i.length+j.length<=a9 then some (D.str (i++j)) else none)=some z:=q;split at q'
  ·rename_i hl;cases q';exact .inr (.inr (.inr ⟨i,j,dx.str,dy.str,rH hl,k _ S H (Ext.refl s) (den_str.2 rfl)⟩))
  ·cases q'
 ·rename_i a b;have q':(if a.length+b.length<=a9 then some (D.lst (a++b)) else none)=some z:=q;split at q'
  ·rename_i hl;cases q';obtain⟨p,xs,rfl,h1,h2⟩:=dx.lst s;obtain⟨p',ys,rfl,h3,h4⟩:=dy.lst s;refine .inr (.inl ⟨p,p',xs,ys,rfl,rfl,h1,h3,by rw[<-h2.length,<-h4.length];exact rH hl,λq hq=>?_⟩);have z:=Ext.new (o:=.lst (xs++ys)) s hq;exact k _ _ _ z (Zu.2 ⟨q,_,rfl,.inl aA,(h2.append h4).mono z.sh⟩)
  ·cases q'
 ·rename_i a b;have q':(if a.length+b.length<=a9 then some (D.tup (a++b)) else none)=some z:=q;split at q'
  ·rename_i hl;cases q';obtain⟨p,xs,e1,h1,h2⟩:=dx.tup s;obtain⟨p',ys,e2,h3,h4⟩:=dy.tup s;have dx':Den K S (.tup a) x:=dx.elim id λ⟨_,_,_,e,_⟩=>by cases e
   have dy':Den K S (.tup b) y:=dy.elim id λ⟨_,_,_,e,_⟩=>by cases e
   subst e1 e2;refine .inr (.inr (.inl ⟨p,p',xs,ys,rfl,rfl,h1,h3,by rw[<-h2.length,<-h4.length];exact rH hl,λe=>?_,λe=>?_,λq hq=>?_⟩))
   ·have:=h4.nil_iff.1 e;subst this;exact k _ S H (Ext.refl s) (by rw[YK];exact dx')
   ·have:=h2.nil_iff.1 e;subst this;exact k _ S H (Ext.refl s) (by rw[acf];exact dy')
   ·have z:=Ext.new (o:=.tup (xs++ys)) s hq;exact k _ _ _ z (Zv.2 ⟨q,_,rfl,TpA.of aA,(h2.append h4).mono z.sh⟩)
  ·cases q'
end
mutual
def nv:D->D->Bool
 |.non,.non=>true
 |.bl a,.bl b=>a==b
 |.bl a,.int j=>(if a then 1 else 0)==j
 |.int i,.bl b=>i==(if b then 1 else 0)
 |.int i,.int j=>i==j
 |.str x,.str y=>x==y
 |.lst a,.lst b=>eqDs a b
 |.tup a,.tup b=>eqDs a b
 |.tup a,.mtp b=>eqDs a b
 |.mtp a,.tup b=>eqDs a b
 |.mtp a,.mtp b=>eqDs a b
 |_,_=>false
def eqDs:Zc->Zc->Bool
 |[],[]=>true
 |x::xs,y::ys=>nv x y&&eqDs xs ys
 |_,_=>false
end
mutual
def dg:Nat->D->Bool
 |_,.non=>true
 |_,.bl _=>true
 |_,.int _=>true
 |_,.str x=>PyData.strOk x
 |n+1,.lst l=>okDs n l
 |n+1,.tup l=>okDs n l
 |n+1,.mtp l=>okDs n l
 |_,_=>false
def okDs:Nat->Zc->Bool
 |_,[]=>true
 |n,d::l=>dg n d&&okDs n l
end
def Oo(K:Zj)(neg:Bool):R2:=λx y H Q=>∃S d e,Same S H/\DenP K S H d x/\DenP K S H e y/\dg 50 d=true/\dg 50 e=true/\Q (.bl (if neg then !nv d e else nv d e)) H
def jd(neg:Bool)(d e:D):Zd:=if dg 50 d=true/\dg 50 e=true then some (.bl (if neg then !nv d e else nv d e)) else none
section
variable {K:Zj}
def Lu(neg:Bool):xZ K (Oo K neg) (jd neg):=λS H x y d e z Q s dx dy q k=>by
 unfold jd at q;split at q
 ·rename_i c;cases q;exact⟨S,d,e,s,dx,dy,c.1,c.2,k _ S H (Ext.refl s) (Zx.2 rfl)⟩
 ·cases q
end
def vk:D->Bool
 |.non=>true|_=>false
def Va(neg:Bool)(d e:D):Zd:=match e with|.non=>some (.bl (if neg then !vk d else vk d))|_=>none
def bL:D->D->Zd
 |.lst l,.int i=>cF l i
 |.tup l,.int i=>cF l i
 |.scr l,.int i=>cF l i
 |.mtp l,.int i=>cF l i
 |.str x,.int i=>if x.length<=a9 then (cF x.cps.toList i).map λc=>.str ⟨#[c]⟩ else none
 |_,_=>none
section
variable {K:Zj}
def pS{ds:Zc}{xs:Za}{i:Int}{d:D}(h:Dens K S ds xs)(e:cF ds i=some d):∃v,cF xs i=some v/\Den K S d v:=by
 unfold cF at e ⊢;rw[<-h.length];cases q:yx ds.length i with
 |none=>rw[q] at e;cases e
 |some j=>rw[q] at e;exact h.get e
def Lv:xZ K (Tx K) bL:=λS H x y d e z Q s dx dy q k=>by
 cases d<;>first|(cases q;done)|(cases e<;>try (cases q;done))
 ·rename_i x' i;have q':(if x'.length<=a9 then (cF x'.cps.toList i).map λc=>D.str ⟨#[c]⟩ else none)=some z:=q;split at q'
  ·rename_i hl;cases qc:cF x'.cps.toList i with
   |none=>rw[qc] at q';cases q'
   |some c=>rw[qc] at q';cases q';exact .inr (.inr ⟨x',i,c,dx.str,dy.int,rH hl,qc,k _ S H (Ext.refl s) (den_str.2 rfl)⟩)
  ·cases q'
 ·rename_i l i;obtain⟨p,xs,rfl,h1,h2⟩:=dx.lst s;obtain⟨v,h3,h4⟩:=pS h2 q;exact .inl ⟨p,xs,i,v,rfl,dy.int,.inl h1,h3,k v S H (Ext.refl s) h4⟩
 ·rename_i l i;obtain⟨p,xs,rfl,h1,h2⟩:=dx.tup s;obtain⟨v,h3,h4⟩:=pS h2 q;exact .inr (.inl ⟨p,xs,i,v,rfl,dy.int,h1,h3,k v S H (Ext.refl s) h4⟩)
 ·rename_i l i;obtain⟨p,xs,rfl,h1,h2⟩:=dx.scr s;obtain⟨v,h3,h4⟩:=pS h2 q;exact .inl ⟨p,xs,i,v,rfl,dy.int,h1,h3,k v S H (Ext.refl s) h4⟩
 ·rename_i l i;obtain⟨p,xs,rfl,h1,h2⟩:=dx.mtp s;obtain⟨v,h3,h4⟩:=pS h2 q;exact .inr (.inl ⟨p,xs,i,v,rfl,dy.int,h1,h3,k v S H (Ext.refl s) h4⟩)
end
def iE{α:Type}(xs:List α)(lo hi:Option Int):List α:=(xs.drop (HT.eJ xs.length 0 lo)).take (HT.eJ xs.length xs.length hi-HT.eJ xs.length 0 lo)
def Rk(K:Zj):V->Option Int->Option Int->Hp->VK->Prop:=λx lo hi H Q=>TH K x lo hi H Q \/
 ∃a xs,x=.ref a/\SqT K H a xs/\(nO xs lo hi=xs->Q (.ref a) H)/\∀p,H p=none->Q (.ref p) (bi H p (.tup (nO xs lo hi)))
abbrev XO:=Env->Option (Option Int)
def SO(K:Zj)(t:TO)(o:XO):Prop:=∀ρ σ S H (Q:Option Int->Hp->Prop) i,Rl K ρ σ S H->o ρ=some i->(∀S' H',Ext S H S' H'->Q i H')->t σ H Q
@[simp]def UR:XO:=λ_=>some none
@[simp]def qX(a:XE):XO:=λρ=>(a ρ).bind λd=>match d with|.int i=>some (some i)|_=>none
section
variable {K:Zj}
def wF{ta:TE} (h:SPk K ta a):SO K (Mr ta) (qX a):=λρ σ S H Q i r x k=>by
 obtain⟨d,q,x⟩:=ZO x;cases d<;>try (cases x;done)
 rename_i j;cases x;exact h ρ σ S H _ _ r q λv S1 H1 z1 d1=>⟨j,d1.int,k S1 H1 z1⟩
def j5{ds:Zc}{xs:Za}(h:Dens K S ds xs)(lo hi:Option Int):Dens K S (iE ds lo hi) (nO xs lo hi):=by unfold iE nO;rw[h.length];exact (h.drop _).take _
def SY(d:D)(lo hi:Option Int):Zd:=match d with
 |.lst l=>some (.lst (iE l lo hi))
 |.tup l=>some (.tup (iE l lo hi))
 |.scr l=>some (.lst (iE l lo hi))
 |.mtp l=>some (.mtp (iE l lo hi))
 |_=>none
@[simp]def Sr(a:XE)(lo hi:XO):XE:=λρ=>(a ρ).bind λd=>(lo ρ).bind λl=>(hi ρ).bind λh=>SY d l h
def RE{te:TE}{tl th:TO} {lo hi:XO}(ha:SPk K te a)(hl:SO K tl lo)(hh:SO K th hi):SE K (Vv (Rk K) te tl th) (Sr a lo hi):=λρ σ S H Q g r x k=>by
 unfold Sr at x;cases q:a ρ with
 |none=>rw[q] at x;cases x
 |some d=>
  rw[q] at x;dsimp only[Option.bind] at x;cases ql:lo ρ with
  |none=>rw[ql] at x;cases x
  |some l=>
   rw[ql] at x;dsimp only at x;cases qh:hi ρ with
   |none=>rw[qh] at x;cases x
   |some h=>
    rw[qh] at x;dsimp only at x;refine ha ρ σ S H _ d r q λv S1 H1 z1 d1=>?_;have r1:=r.ext z1;refine hl ρ σ S1 H1 _ l r1 ql λS2 H2 z2=>?_;have r2:=r1.ext z2;refine hh ρ σ S2 H2 _ h r2 qh λS3 H3 z3=>?_;have z23:=z2.trans z3;have d3:=d1.mono z23 r1.sub;have s3:=(r2.ext z3).sub;have z:=z1.trans z23;cases d<;>try (cases x;done)
    ·cases x;obtain⟨p,xs,rfl,h1,h2⟩:=d3.lst s3;refine .inl ⟨p,xs,rfl,.inl h1,λp' hp=>?_⟩;have z4:=Ext.new (o:=.lst (nO xs l h)) s3 hp;exact k _ _ _ (z.trans z4) (Zu.2 ⟨p',_,rfl,.inl aA,(j5 h2 l h).mono z4.sh⟩)
    ·rename_i ds;cases x;have d3':Den K S3 (.tup ds) v:=d3.elim id λ⟨_,_,_,e,_⟩=>by cases e
     obtain⟨p,xs,e,h1,h2⟩:=d3.tup s3;subst e;refine .inr ⟨p,xs,rfl,h1,λe=>k _ S3 H3 z ?_,λp' hp=>?_⟩
     ·obtain⟨p2,xs2,e2,h3,h4⟩:=Zv.1 d3';cases e2;have c:=j5 h2 l h;rw[e] at c;refine Zv.2 ⟨p,xs2,rfl,h3,?_⟩;have ZQ:=c.length;have:iE ds l h=ds:=by
       have hl2:(iE ds l h).length=ds.length:=by rw[c.length,h2.length]
       unfold iE at hl2 ⊢;rw[aa2,ab5] at hl2;have a0:HT.eJ ds.length 0 l=0\/ds.length=0:=()
       rcases a0 with a0|a0
       ·rw[a0,abP] at *;exact abN ()
       ·have:ds=[]:=aa9.1 a0;subst this;simp
      rw[this];exact h4
     ·have z4:=Ext.new (o:=.tup (nO xs l h)) s3 hp;exact k _ _ _ (z.trans z4) (Zv.2 ⟨p',_,rfl,TpA.of aA,(j5 h2 l h).mono z4.sh⟩)
    ·cases x;obtain⟨p,xs,rfl,h1,h2⟩:=d3.scr s3;refine .inl ⟨p,xs,rfl,h1,λp' hp=>?_⟩;have z4:=Ext.new (o:=.lst (nO xs l h)) s3 hp;exact k _ _ _ (z.trans z4) (Zu.2 ⟨p',_,rfl,.inl aA,(j5 h2 l h).mono z4.sh⟩)
    ·rename_i ds;cases x;have d3':Den K S3 (.mtp ds) v:=d3.elim id λ⟨_,_,_,e,_⟩=>by cases e
     obtain⟨p,xs,e,h3,h4⟩:=Zy.1 d3';subst e;refine .inr ⟨p,xs,rfl,aU s3 h3,λe=>k _ S3 H3 z (Zy.2 ⟨p,xs,rfl,h3,by have c:=j5 h4 l h;rwa[e] at c⟩),λp' hp=>?_⟩;have z4:=Ext.new (o:=.tup (nO xs l h)) s3 hp;exact k _ _ _ (z.trans z4) (Zy.2 ⟨p',_,rfl,SqT.of aA,(j5 h4 l h).mono z4.sh⟩)
def Lq(K:Zj):Za->Hp->VK->Prop:=λxs H Q=>∃x n,xs=[x]/\Sw K x H n/\Q (.int n) H
def jX:Zb
 |[.lst l]=>some (.int l.length)
 |[.tup l]=>some (.int l.length)
 |[.scr l]=>some (.int l.length)
 |[.mtp l]=>some (.int l.length)
 |[.str x]=>if x.length<=a9 then some (.int x.length) else none
 |_=>none
def vY{d:D} (h:ZM K S H [d] vs):∃v,vs=[v]/\DenP K S H d v:=by
 cases h with
 |cons a b=>cases b;exact⟨_,rfl,a⟩
def MD{d e:D} (h:ZM K S H [d,e] vs):∃v w,vs=[v,w]/\DenP K S H d v/\DenP K S H e w:=by
 cases h with
 |cons a b=>cases b with
  |cons c b=>cases b;exact⟨_,_,rfl,a,c⟩
def Jn:O4 K (Lq K) jX:=λS H vs ds g Q s d q k=>by
 rcases ds with _|⟨d0,ds⟩
 ·cases q
 cases d0<;>try (cases q;done)
 all_goals
  cases ds<;>try (cases q;done)
  obtain⟨v,rfl,d1⟩:=vY d
 ·rename_i x;have q':(if x.length<=a9 then some (D.int x.length) else none)=some g:=q;split at q'
  ·rename_i hl;cases q';exact⟨_,x.length,rfl,by rw[d1.str];exact⟨rH hl,rfl⟩,k _ S H (Ext.refl s) (Zo.2 rfl)⟩
  ·cases q'
 ·cases q;obtain⟨p,xs,rfl,h1,h2⟩:=d1.lst s;exact⟨_,xs.length,rfl,.inl ⟨xs,.inl h1,rfl⟩,k _ S H (Ext.refl s) (Zo.2 (#v[h2.length]))⟩
 ·cases q;obtain⟨p,xs,rfl,h1,h2⟩:=d1.tup s;exact⟨_,xs.length,rfl,.inr ⟨xs,h1,rfl⟩,k _ S H (Ext.refl s) (Zo.2 (#v[h2.length]))⟩
 ·cases q;obtain⟨p,xs,rfl,h1,h2⟩:=d1.scr s;exact⟨_,xs.length,rfl,.inl ⟨xs,h1,rfl⟩,k _ S H (Ext.refl s) (Zo.2 (#v[h2.length]))⟩
 ·cases q;obtain⟨p,xs,rfl,h1,h2⟩:=d1.mtp s;exact⟨_,xs.length,rfl,.inr ⟨xs,h1,rfl⟩,k _ S H (Ext.refl s) (Zo.2 (#v[h2.length]))⟩
def gN:Zb
 |[.lst l]=>some (.tup l)
 |[.tup l]=>some (.tup l)
 |[.scr l]=>some (.tup l)
 |_=>none
def Fv:O4 K (Rm K) gN:=λS H vs ds g Q s d q k=>by
 rcases ds with _|⟨d0,ds⟩
 ·cases q
 cases d0<;>try (cases q;done)
 all_goals
  cases ds<;>try (cases q;done)
  obtain⟨v,rfl,d1⟩:=vY d
 ·cases q;obtain⟨p,xs,rfl,h1,h2⟩:=d1.lst s;refine⟨p,xs,rfl,.inl ⟨.inl h1,λq hq=>?_⟩⟩;have z:=Ext.new (o:=.tup xs) s hq;exact k _ _ _ z (Zv.2 ⟨q,_,rfl,TpA.of aA,h2.mono z.sh⟩)
 ·rename_i l;cases q;have d':Den K S (.tup l) v:=d1.elim id λ⟨_,_,_,e,_⟩=>by cases e
  obtain⟨p,xs,rfl,h1,h2⟩:=d1.tup s;exact⟨p,xs,rfl,.inr ⟨h1,k _ S H (Ext.refl s) d'⟩⟩
 ·cases q;obtain⟨p,xs,rfl,h1,h2⟩:=d1.scr s;refine⟨p,xs,rfl,.inl ⟨h1,λq hq=>?_⟩⟩;have z:=Ext.new (o:=.tup xs) s hq;exact k _ _ _ z (Zv.2 ⟨q,_,rfl,TpA.of aA,h2.mono z.sh⟩)
def Jl:Zc->Option (Zc)
 |[.lst l]=>some l
 |[.tup l]=>some l
 |[.scr l]=>some l
 |_=>none
def Be:Zb
 |[.int i,.int j]=>some (.int (if j > i then j else i))
 |_=>none
def Fu:Zb
 |[.int i,.int j]=>some (.int (if j<i then j else i))
 |_=>none
def Qt:O4 K TD Be:=λS H vs ds g Q s d q k=>by
 rcases ds with _|⟨d0,ds⟩
 ·cases q
 cases d0<;>try (cases q;done)
 rcases ds with _|⟨d0,ds⟩
 ·cases q
 cases d0<;>try (cases q;done)
 cases ds<;>try (cases q;done)
 cases q;obtain⟨v,w,rfl,d1,d2⟩:=MD d;exact⟨_,_,#v[d1.int,d2.int],k _ S H (Ext.refl s) (Zo.2 rfl)⟩
def Qu:O4 K TF Fu:=λS H vs ds g Q s d q k=>by
 rcases ds with _|⟨d0,ds⟩
 ·cases q
 cases d0<;>try (cases q;done)
 rcases ds with _|⟨d0,ds⟩
 ·cases q
 cases d0<;>try (cases q;done)
 cases ds<;>try (cases q;done)
 cases q;obtain⟨v,w,rfl,d1,d2⟩:=MD d;exact⟨_,_,#v[d1.int,d2.int],k _ S H (Ext.refl s) (Zo.2 rfl)⟩
def aR:Zc->Option (Zn)
 |[]=>some []
 |.int i::l=>(aR l).map λr=>i::r
 |_=>none
theorem gb:∀ {ds:Zc} {xs:Za} {ns:Zn},Dens K S ds xs->aR ds=some ns->xs=ns.map V.int/\ds=ns.map D.int
 |[],xs,ns,h,e=>by cases e;exact⟨h.nil_of,rfl⟩
 |d::ds,xs,ns,h,e=>by
  obtain⟨y,ys,rfl,h1,h2⟩:=h.cons_of;cases d<;>try (cases e;done)
  rename_i i;have e':(aR ds).map (λr=>i::r)=some ns:=e;cases q:aR ds with
  |none=>rw[q] at e';cases e'
  |some ms=>rw[q] at e';cases e';obtain⟨k1,k2⟩:=gb h2 q;rw[Zo.1 h1,k1];exact⟨rfl,Yt (D.int i :: ·) k2⟩
theorem d7:∀ns:Zn,aR (ns.map D.int)=some ns
 |[]=>rfl
 |n::ns=>by rw[Yo,aR,d7 ns];rfl
def zr:Zb
 |[.lst l]=>(aR l).map λns=>.int ns.sum
 |_=>none
def SW:O4 K (Pw K) zr:=λS H vs ds g Q s d q k=>by
 rcases ds with _|⟨d0,ds⟩
 ·cases q
 cases d0<;>try (cases q;done)
 cases ds<;>try (cases q;done)
 rename_i l;have q':((aR l).map λns=>D.int ns.sum)=some g:=q;cases qi:aR l with
 |none=>rw[qi] at q';cases q'
 |some ns=>rw[qi] at q';cases q';obtain⟨v,rfl,d1⟩:=vY d;obtain⟨p,xs,rfl,h1,h2⟩:=d1.lst s;obtain⟨e,_⟩:=gb h2 qi;subst e;exact⟨p,ns,rfl,.inl h1,k _ S H (Ext.refl s) (Zo.2 rfl)⟩
def SU:Zb
 |[.int i]=>some (.int i)
 |[.bl b]=>some (.int (if b then 1 else 0))
 |_=>none
@[simp]def W6(a:XE):XA:=λρ=>(a ρ).bind λd=>match d with|.lst l=>some l.reverse|_=>none
def Xz:D->Option String
 |.non=>some "NoneType" |.bl _=>some "bool" |.int _=>some "int" |.str _=>some "str" |.lst _=>some "list" |.tup _=>some "tuple" |_=>none
def Vt(t T:String):Bool:=t==T || (t == "bool" && T == "int")
def Vg:List String:=["bool", "int", "str", "list", "tuple"]
def Jk:Zb
 |[d,.ty T]=>if T∈Vg then (Xz d).map λt=>.bl (Vt t T) else none
 |_=>none
end
def xT(k:Zn):D:=.tup (k.map D.int)
def NI:D->Option (Zn)
 |.tup l=>if l.isEmpty then none else aR l
 |_=>none
def keys:Zc->Option (Zm)
 |[]=>some []
 |d::l=>(NI d).bind λk=>(keys l).map λr=>k::r
theorem B3:∀a b:Zn,HT.cD a b=true->HT.cD b a=false
 |[],[],h=>by cases h
 |[],_::_,_=>rfl
 |_::_,[],h=>by cases h
 |x::a,y::b,h=>by
  have h':(if x=y then HT.cD a b else decide (x<y))=true:=h;show (if y=x then HT.cD b a else decide (y<x))=false;by_cases e:x=y
  ·rw[Yb e] at h';rw[Yb e.symm];exact B3 a b h'
  ·rw[X9 e] at h';rw[X9 (λz=>e z.symm)];have:=Y6 h';exact YB ()
theorem yC:∀a b:Zn,HT.cD a b=false->HT.cD b a=false->a=b
 |[],[],_,_=>rfl
 |[],_::_,h,_=>by cases h
 |_::_,[],_,h=>by cases h
 |x::a,y::b,h,k=>by
  have h':(if x=y then HT.cD a b else decide (x<y))=false:=h;have k':(if y=x then HT.cD b a else decide (y<x))=false:=k;by_cases e:x=y
  ·rw[Yb e] at h';rw[Yb e.symm] at k';rw[e,yC a b h' k']
  ·rw[X9 e] at h';rw[X9 (λz=>e z.symm)] at k';have:=aaM h';have:=aaM k';lia
theorem yD:∀a b c:Zn,HT.cD a b=false->HT.cD b c=false->HT.cD a c=false
 |[],[],_,_,k=>k
 |[],_::_,_,h,_=>by cases h
 |_::_,_,[],_,_=>rfl
 |_::_,[],_::_,_,k=>by cases k
 |x::a,y::b,z::c,h,k=>by
  have h':(if x=y then HT.cD a b else decide (x<y))=false:=h;have k':(if y=z then HT.cD b c else decide (y<z))=false:=k;show (if x=z then HT.cD a c else decide (x<z))=false;by_cases e1:x=y
  ·rw[Yb e1] at h';subst e1;by_cases e2:x=z
   ·rw[Yb e2] at k' ⊢;exact yD a b c h' k'
   ·rw[X9 e2] at k' ⊢;exact k'
  ·rw[X9 e1] at h';have g1:=aaM h';by_cases e2:y=z
   ·subst e2;rw[X9 e1];exact h'
   ·rw[X9 e2] at k';have g2:=aaM k';rw[X9 ()];exact YB ()
def Hc(x:Zn):Zm->Zm
 |[]=>[x]
 |y::l=>if HT.cD y x=true then y::Hc x l else x::y::l
def i7(ks:Zm):Zm:=ks.foldr Hc []
def yu(x:Zn)(l:Zm):(Hc x l).Perm (x::l):=by
 induction l with
 |nil=>exact .refl _
 |cons y l ih=>
  unfold Hc;split
  ·exact (ih.cons y).trans (.swap x y l)
  ·exact .refl _
def cE(ns:Zn):Zn:=ns.mergeSort λa b=>decide (a<=b)
def i8(ks:Zm):(i7 ks).Perm ks:=by
 induction ks with
 |nil=>exact .refl _
 |cons x l ih=>exact (yu x (i7 l)).trans (ih.cons x)
def c0(ns:Zn):(cE ns).Perm ns:=List.mergeSort_perm _ _
def NF(x:Zn)(l:Zm)(h:l.Pairwise λa b=>HT.cD b a=false):(Hc x l).Pairwise λa b=>HT.cD b a=false:=by
 induction l with
 |nil=>exact .cons (λ_ z=>by cases z) .nil
 |cons y l ih=>
  have hy:∀z,z∈l->HT.cD z y=false:=λz hz=>List.rel_of_pairwise_cons h hz;unfold Hc;cases q:HT.cD y x with
  |true=>
   refine .cons (λz hz=>?_) (ih (List.Pairwise.of_cons h));rcases Yj.1 ((yu x l).mem_iff.mp hz) with rfl|hz
   ·exact B3 y _ q
   ·exact hy z hz
  |false=>
   refine .cons (λz hz=>?_) h;rcases Yj.1 hz with rfl|hz
   ·exact q
   ·exact yD z y x (hy z hz) q
def wN(ks:Zm):(i7 ks).Pairwise λa b=>HT.cD b a=false:=by
 induction ks with
 |nil=>exact .nil
 |cons x l ih=>exact NF x (i7 l) ih
def wL(ns:Zn):(cE ns).Pairwise (· <= ·):=by
 have h:=List.pairwise_mergeSort (le:=λa b:Int=>decide (a<=b)) (λa b c h k=>by
  have:=Y6 h;have:=Y6 k;exact YI ()) (λa b=>by
  by_cases h:a<=b
  ·simp[h]
  ·simp[show b<=a by lia]) ns
 exact h.imp λ{a b} e=>Y6 e
def ES{ks js:Zm}(hp:js.Perm ks)(hw:js.Pairwise λa b=>HT.cD b a=false):js=i7 ks:=
 aev (λa b _ _ h k=>yC a b k h) hw (wN ks) (hp.trans (i8 ks).symm)
def wM{ns ms:Zn}(hp:ms.Perm ns)(hw:ms.Pairwise (· <= ·)):ms=cE ns:=
 aev (λa b _ _ h k=>()) hw (wL ns) (hp.trans (c0 ns).symm)
def Ls(K:Zj):Za->Hp->VK->Prop:=λxs H Q=>∃p,∃yks:List (V×Zn),xs=[.ref p]/\SqL K H p (yks.map (·.1))/\yks.length<30000/\(∀yk∈yks,∃q,yk.1=.ref q/\SqT K H q (yk.2.map V.int)/\yk.2≠[]) /\
 ∀(zks:List (V×Zn)) l,zks.Perm yks->zks.Pairwise (λa b=>HT.cD b.2 a.2=false)->H l=none->Q (.ref l) (bi H l (.lst (zks.map (·.1))))
def CV(K:Zj):Za->Hp->VK->Prop:=λxs H Q=>CU K xs H Q\/Ls K xs H Q
def jm:Zc->Option (Zc)
 |[.lst l]=>if l.length<30000 then (match aR l with
  |some ns=>some ((cE ns).map D.int)
  |none=>(keys l).map λks=>(i7 ks).map xT) else none
 |_=>none
section
variable {K:Zj}
def NJ{k:Zn}(h:NI d=some k):d=xT k/\k≠[]:=by
 cases d<;>try (cases h;done)
 rename_i l;have h':(if l.isEmpty then none else aR l)=some k:=h;split at h'
 ·cases h'
 ·rename_i hne;have key:∀(l:Zc) (k:Zn),aR l=some k->l=k.map D.int:=by
   intro l;induction l with
   |nil=>intro k e;cases e;rfl
   |cons d l ih=>
    intro k e;cases d<;>try (cases e;done)
    rename_i i;have e':(aR l).map (λr=>i::r)=some k:=e;cases q:aR l with
    |none=>rw[q] at e';cases e'
    |some m=>rw[q] at e';cases e';rw[ih m q];rfl
  have e:=key l k h';subst e;exact⟨rfl,λz=>by subst z;exact hne rfl⟩
theorem FU:∀ {l:Zc} {ks:Zm},keys l=some ks->l=ks.map xT/\∀k∈ks,k≠[]
 |[],ks,h=>by cases h;exact⟨rfl,λ_ h=>by cases h⟩
 |d::l,ks,h=>by
  have h':((NI d).bind λk=>(keys l).map λr=>k::r)=some ks:=h;cases q:NI d with
  |none=>rw[q] at h';cases h'
  |some k=>
   rw[q] at h';dsimp only[Option.bind] at h';cases q2:keys l with
   |none=>rw[q2] at h';cases h'
   |some r=>
    rw[q2] at h';cases h';obtain⟨a,b⟩:=FU q2;obtain⟨c,d⟩:=NJ q;refine⟨by rw[Yo,<-a,<-c],λk hk=>?_⟩;rcases Yj.1 hk with rfl|hk
    ·exact d
    ·exact b k hk
theorem vi:∀ {S:Hp} {k:Zn} {xs:Za},Dens K S (k.map D.int) xs->xs=k.map V.int
 |S,[],xs,h=>h.nil_of
 |S,i::k,xs,h=>by obtain⟨y,ys,rfl,h1,h2⟩:=h.cons_of;rw[Zo.1 h1,vi h2];rfl
theorem Bv:∀ {ks:Zm} {xs:Za},Dens K S (ks.map xT) xs->(xs.zip ks).map (·.1)=xs/\(xs.zip ks).map (·.2)=ks/\(xs.zip ks).length=ks.length/\∀yk∈xs.zip ks,Den K S (xT yk.2) yk.1
 |[],xs,h=>by rw[h.nil_of];exact⟨rfl,rfl,rfl,λ_ h=>by cases h⟩
 |k::ks,xs,h=>by
  obtain⟨y,ys,rfl,h1,h2⟩:=h.cons_of;obtain⟨a,b,c,d⟩:=Bv h2;refine⟨#v[ace,Yo,a],#v[ace,Yo,b],#v[ace,Yk,c,Yk],λyk hm=>?_⟩;rw[ace] at hm;rcases Yj.1 hm with rfl|hm
  ·exact h1
  ·exact d yk hm
theorem oi:∀ {zks:List (V×Zn)},(∀yk∈zks,Den K S (xT yk.2) yk.1)->Dens K S ((zks.map (·.2)).map xT) (zks.map (·.1))
 |[],_=>.nil
 |yk::zks,h=>.cons (h yk Yg) (oi λz hz=>h z (Yn _ hz))
def Bg:Wn K (CV K) jm:=λS H vs ds g Q s d q k=>by
 unfold jm at q;split at q
 ·rename_i l;split at q
  ·rename_i hl;obtain⟨v,rfl,d1⟩:=vY d;obtain⟨p,xs,rfl,h1,h2⟩:=d1.lst s;cases qi:aR l with
   |some ns=>
    rw[qi] at q;cases q;obtain⟨e1,e2⟩:=gb h2 qi;subst e1 e2;refine .inl ⟨p,ns,rfl,.inl h1,by rw[Ye] at hl;exact hl,λms a pm pw ha=>?_⟩;rw[wM pm pw];refine k a _ _ (Ext.own s ha) ha aA ?_;have key:∀ns:Zn,Dens K S (ns.map D.int) (ns.map V.int):=by
     intro ns;induction ns with
     |nil=>exact .nil
     |cons n ns ih=>exact .cons (Zo.2 rfl) ih
    exact key _
   |none=>
    rw[qi] at q;dsimp only at q;cases qk:keys l with
    |none=>rw[qk] at q;cases q
    |some ks=>
     rw[qk] at q;cases q;obtain⟨e1,e2⟩:=FU qk;subst e1;obtain⟨a,b,c,dd⟩:=Bv h2;refine .inr ⟨p,xs.zip ks,rfl,by rw[a];exact .inl h1,by rw[c];rw[Ye] at hl;exact hl,λyk hm=>?_,λzks l pm pw hl=>?_⟩
     ·obtain⟨q,ys,e,g1,g2⟩:=iG (dd yk hm);have:=vi g2;subst this;refine⟨q,e,aU s g1,e2 _ ?_⟩;rw[<-b];exact Ym.2 ⟨yk,hm,rfl⟩
     ·have e:zks.map (·.2)=i7 ks:=by
       refine ES ?_ ?_
       ·rw[<-b];exact pm.map _
       ·rw[aaa];exact pw
      have dz:Dens K S ((zks.map (·.2)).map xT) (zks.map (·.1)):=oi λyk hm=>dd yk (pm.mem_iff.1 hm);rw[e] at dz;exact k l _ _ (Ext.own s hl) hl aA dz
  ·cases q
 ·cases q
def L0{ta:TE} (ha:SPk K ta a):ST K (Ug K ta) (ik a):=T7 ha
end
def uQ:D->D->Zd:=dI λi j=>some (.int (i+j))
section
variable {K:Zj}
def Op:xZ K (Wz λi j=>i+j) uQ:=EH (g:=λi j=>.int (i+j)) λi j d h=>by cases h;rfl
end
def RG{ta:TE} (ha:SQ K ta a):ST K (Ug K ta) (ik a):=λρ σ S H Q b r x k=>by obtain⟨da,qa,x⟩:=ZO x;exact ha ρ σ S H _ da r qa λv S1 H1 z1 d1=>⟨b,Mx (Same.refl H1) (.inl d1) x,k S1 H1 z1⟩
def Hm(g:XG)(m:XS)(ρ:Env):bR g m [] ρ=some (.nx ρ):=rfl
def d8(g:XG)(m:XS)(d:D)(l:Zc)(ρ:Env):bR g m (d::l) ρ=(g d ρ).bind λρ1=>match m ρ1 with
  |some (.nx ρ2)=>bR g m l ρ2
  |some (.ct ρ2)=>bR g m l ρ2
  |some (.bk ρ2)=>some (.nx ρ2)
  |some (.rt d)=>some (.rt d)
  |some (.ro d)=>some (.ro d)
  |none=>none:=rfl
def Hl{α:Type}{g:XG}{m:XS}(enc:α->D)(P:List α->Env->Prop)(R:D->Prop)(B:Env->Prop)(l:List α)(ρ0:Env)(h0:P [] ρ0)
  (step:∀pre a post ρ,l=pre++a::post->P pre ρ->∃ρ1 o,g (enc a) ρ=some ρ1/\m ρ1=some o/\(match o with|.nx ρ2=>P (pre++[a]) ρ2|.ct ρ2=>P (pre++[a]) ρ2|.bk ρ2=>B ρ2|.rt d=>R d|.ro _=>False)) :
  ∃o,bR g m (l.map enc) ρ0=some o/\(match o with|.nx ρ'=>P l ρ'\/B ρ' | .rt d=>R d|_=>False):=by
 have key:∀(post pre:List α) (ρ:Env),l=pre++post->P pre ρ->∃o,bR g m (post.map enc) ρ=some o/\(match o with|.nx ρ'=>P l ρ'\/B ρ' | .rt d=>R d|_=>False):=by
  intro post;induction post with
  |nil=>
   intro pre ρ e p;rw[YK] at e;subst e;exact⟨_,rfl,.inl p⟩
  |cons a post ih=>
   intro pre ρ e p;obtain⟨ρ1,o,h1,h2,h3⟩:=step pre a post ρ e p;rw[Yo,d8,h1];dsimp only[Option.bind];rw[h2];cases o with
   |nx ρ2=>exact ih (pre++[a]) ρ2 (by rw[e,YL];rfl) h3
   |ct ρ2=>exact ih (pre++[a]) ρ2 (by rw[e,YL];rfl) h3
   |bk ρ2=>exact⟨_,rfl,.inr h3⟩
   |rt d=>exact⟨_,rfl,h3⟩
   |ro d=>exact h3.elim
 exact key l [] ρ0 rfl h0
def aY{α:Type}{g:XG}{m:XS}(enc:α->D)(P:List α->Env->Prop)(l:List α)(ρ0:Env)(h0:P [] ρ0)
  (step:∀pre a post ρ,l=pre++a::post->P pre ρ->∃ρ1 ρ2,g (enc a) ρ=some ρ1/\(m ρ1=some (.nx ρ2)\/m ρ1=some (.ct ρ2))/\P (pre++[a]) ρ2) :
  ∃ρ',bR g m (l.map enc) ρ0=some (.nx ρ')/\P l ρ':=by
 obtain⟨o,h1,h2⟩:=Hl (g:=g) (m:=m) enc P (λ_=>False) (λ_=>False) l ρ0 h0 λpre a post ρ e p=>by
  obtain⟨ρ1,ρ2,k1,k2,k3⟩:=step pre a post ρ e p;rcases k2 with k2|k2
  ·exact⟨ρ1,_,k1,k2,k3⟩
  ·exact⟨ρ1,_,k1,k2,k3⟩
 cases o with
 |nx ρ'=>exact⟨ρ',h1,h2.elim id False.elim⟩
 |rt d|ro _=>exact h2.elim
 |bk ρ'=>exact h2.elim
 |ct ρ'=>exact h2.elim
def cY(g:XG)(c:XT)(e:XE)(ρ0:Env)(d:D):Option (Zd):=(g d ρ0).bind λρ1=>(c ρ1).bind λb=>if b=true then (e ρ1).map some else some none
theorem cc{α:Type} (enc:α->D)(f:α->Zd):∀(l:List α),(∀a∈l,cY g c e ρ0 (enc a)=some (f a))->a8 g c e ρ0 (l.map enc)=some (l.filterMap f)
 |[],_=>rfl
 |a::l,h=>by
  have ih:=cc (g:=g) (c:=c) (e:=e) (ρ0:=ρ0) enc f l λb hb=>h b (Yn _ hb);have h1:=h a Yg;unfold cY at h1;rw[Yo,a8];cases q1:g (enc a) ρ0 with
  |none=>rw[q1] at h1;cases h1
  |some ρ1=>
   rw[q1] at h1;dsimp only[Option.bind] at h1 ⊢;cases q2:c ρ1 with
   |none=>rw[q2] at h1;cases h1
   |some b=>
    rw[q2] at h1;dsimp only at h1 ⊢;cases b with
    |false=>
     rw[X9 (by decide)] at h1 ⊢;rw[ih,YJ];have:f a=none:=(YU h1).symm;rw[this]
    |true=>
     rw[Yb rfl] at h1 ⊢;cases q3:e ρ1 with
     |none=>rw[q3] at h1;cases h1
     |some y=>rw[q3] at h1;have:f a=some y:=(YU h1).symm;rw[ih,YJ,this];rfl
def aW{α:Type} (enc:α->D)(f:α->D)(l:List α)(h:∀a∈l,cY g bA e ρ0 (enc a)=some (some (f a))):a8 g bA e ρ0 (l.map enc)=some (l.map f):=by rw[cc enc (λa=>some (f a)) l h];exact Yt some (congrFun List.filterMap_eq_map' l)
def pI{c:XT}{m:XS}(P:Env->Prop)(μ:Env->Nat)(E:Env->Prop)(step:∀ρ,P ρ->(c ρ=some false/\E ρ)\/(c ρ=some true/\∃ρ2,m ρ=some (.nx ρ2)/\P ρ2/\μ ρ2<μ ρ))(ρ0:Env)(h0:P ρ0):∃ρ',cO c m ρ0=some (.nx ρ')/\E ρ':=by
 have key:∀(n:Nat) (ρ:Env),μ ρ=n->P ρ->∃ρ',cO c m ρ=some (.nx ρ')/\E ρ':=by
  intro n;induction n using Nat.strongRecOn with
  |ind n ih=>
   intro ρ hn p;rcases step ρ p with ⟨h1,h2⟩|⟨h1,ρ2,h2,h3,h4⟩
   ·exact⟨ρ,pH h1,h2⟩
   ·obtain⟨ρ',k1,k2⟩:=ih (μ ρ2) () ρ2 rfl h3;exact⟨ρ',jF h1 h2 k1,k2⟩
 exact key _ ρ0 rfl h0
abbrev aM(p:Int×Int):D:=.tup [.int p.1,.int p.2]
abbrev aZ(r:List (Int×Int)):D:=.tup (r.map aM)
abbrev Hn(r:List (Int×Int)):D:=.lst (r.map aM)
@[simp]def me{α:Type}(l:List α)(x:α):cF (l++[x]) (-1)=some x:=by
 unfold cF yx;rw[X9 (by decide),Yl,Y5,Yb ()];have:((-1:Int)+((l.length+1:Nat):Int)).toNat=l.length:=()
 dsimp only[Option.bind];rw[this];simp
def dB{α:Type}{l:List α}{j:Nat}{x:α}(h:l[j]?=some x):cF l (j:Int)=some x:=by have:=(Yx.1 h).1;unfold cF yx;rw[Yb (),Yb ()];dsimp only[Option.bind];rw[aaE];exact h
@[simp]def yT(l:List O)(x:O)(f:O->O):wq (l++[x]) (-1) f=l++[f x]:=by
 unfold wq yx;rw[X9 (by decide),Yl,Y5,Yb ()];have:((-1:Int)+((l.length+1:Nat):Int)).toNat=l.length:=()
 dsimp only;rw[this];simp
@[simp]def Si{α:Type}(l:List α)(a b:α):cF (l++[a,b]) (-1)=some b:=by have:=me (l++[a]) b;rw[YL] at this;exact this
@[simp]def Uz{α:Type}(a:α):cF [a] (-1)=some a:=me [] a
@[simp]def Rj(l:List O)(a b:O)(f:O->O):wq (l++[a,b]) (-1) f=l++[a,f b]:=by have:=yT (l++[a]) b f;rw[YL,YL] at this;exact this
@[simp]def Ts(a:O)(f:O->O):wq [a] (-1) f=[f a]:=yT [] a f
@[simp]def S6(i:Int):rp (.int i)=some (.int i):=rfl
@[simp]def UC(i:Bool):rp (.bl i)=some (.bl i):=rfl
@[simp]def S8(i:Str):rp (.str i)=some (.str i):=rfl
@[simp]def S7:rp .non=some .non:=rfl
@[simp]def UJ(a b:O)(f:O->O):wq [a,b] 1 f=[a,f b]:=rfl
def Ki{n:Nat}:yx (n+1) (-1)=some n:=by unfold yx;rw[X9 (by decide),Yb ()];congr 1;lia
section
variable (i j:Int)(a b:Zc)(neg:Bool)(ρ:Env)
@[simp]def WT:gI (.int i) (.int j)=some (.int (i-j)):=rfl
@[simp]def WH:a6 (.int i) (.int j)=some (.int (i+j)):=rfl
@[simp]def Vx:uQ (.int i) (.int j)=some (.int (i+j)):=rfl
@[simp]def XQ:JB (.int i) (.int j)=some (.bl (decide (i<j))):=rfl
@[simp]def XM:I0 (.int i) (.int j)=some (.bl (decide (i<=j))):=rfl
@[simp]def XJ:O8 (.int i) (.int j)=some (.bl (decide (j<i))):=rfl
@[simp]def XI:Sj (.int i) (.int j)=some (.bl (decide (j<=i))):=rfl
@[simp]def WP:ml (.int i)=some (.int (-i)):=rfl
@[simp]def VJ{i j:Int}(h:-18446744073709551616<j/\j<18446744073709551616):mj (.int i) (.int j)=some (.int (i*j)):=fM (.inr h)
@[simp]def E8{i j:Int}(h:-18446744073709551616<i/\i<18446744073709551616):mj (.int i) (.int j)=some (.int (i*j)):=fM (.inl h)
@[simp]def Ui{i j:Int}(h:0<j/\j<1073741824):kT (.int i) (.int j)=some (.int (i/j)):=fM h
@[simp]def PX{i j:Int}(h:0<j):hU (.int i) (.int j)=some (.int (i%j)):=fM h
@[simp]def Um{i j:Int}(h:0<=j/\j<=1000000/\i.natAbs<18446744073709551616):Nh (.int i) (.int j)=some (.int (i^j.toNat)):=fM h
def ME:a6 (.lst a) (.lst b)=if a.length+b.length<=a9 then some (.lst (a++b)) else none:=rfl
def R9:a6 (.tup a) (.tup b)=if a.length+b.length<=a9 then some (.tup (a++b)) else none:=rfl
@[simp]def WJ(d:D):Va neg d .non=some (.bl (if neg then !vk d else vk d)):=rfl
@[simp]def Uj:vk .non=true:=rfl
@[simp]def Uk:vk (.int i)=false:=rfl
@[simp]def Ul:vk (.tup a)=false:=rfl
@[simp]def WK:bL (.lst a) (.int i)=cF a i:=rfl
@[simp]def WM:bL (.tup a) (.int i)=cF a i:=rfl
@[simp]def WL:bL (.scr a) (.int i)=cF a i:=rfl
@[simp]def VR:Ds (.lst a)=some (!a.isEmpty):=rfl
@[simp]def VU:Ds (.tup a)=some (!a.isEmpty):=rfl
@[simp]def VT:Ds (.scr a)=some (!a.isEmpty):=rfl
@[simp]def VP(x:Bool):Ds (.bl x)=some x:=rfl
@[simp]def VQ:Ds (.int i)=some (i != 0):=rfl
@[simp]def VS:Ds .non=some false:=rfl
@[simp]def VD:jX [.lst a]=some (.int a.length):=rfl
@[simp]def VF:jX [.tup a]=some (.int a.length):=rfl
@[simp]def VE:jX [.scr a]=some (.int a.length):=rfl
@[simp]def VW:gN [.lst a]=some (.tup a):=rfl
@[simp]def VX:gN [.tup a]=some (.tup a):=rfl
@[simp]def VG:Jl [.lst a]=some a:=rfl
@[simp]def VI:Jl [.tup a]=some a:=rfl
@[simp]def VH:Jl [.scr a]=some a:=rfl
@[simp]def WN:Be [.int i,.int j]=some (.int (if j > i then j else i)):=rfl
@[simp]def WO:Fu [.int i,.int j]=some (.int (if j<i then j else i)):=rfl
@[simp]def WI:SU [.int i]=some (.int i):=rfl
@[simp]def Vy(x:Bool):SU [.bl x]=some (.int (if x then 1 else 0)):=rfl
@[simp]def VL:sr (.lst a)=some a:=rfl
@[simp]def VO:sr (.tup a)=some a:=rfl
@[simp]def VN:sr (.scr a)=some a:=rfl
@[simp]def WQ(lo hi:Option Int):SY (.lst a) lo hi=some (.lst (iE a lo hi)):=rfl
@[simp]def WS(lo hi:Option Int):SY (.tup a) lo hi=some (.tup (iE a lo hi)):=rfl
@[simp]def WR(lo hi:Option Int):SY (.scr a) lo hi=some (.lst (iE a lo hi)):=rfl
@[simp]def XH(y:M0):aL y (.tup a) ρ=y a ρ:=rfl
@[simp]def XD(x:XG)(y:M0)(d:D):ao x y (d::a) ρ=(x d ρ).bind (y a):=rfl
@[simp]def XF:bd [] ρ=some ρ:=rfl
@[simp]def VA:Jk [.int i,.ty "int"]=some (.bl true):=rfl
@[simp]def Vz:Jk [.int i,.ty "bool"]=some (.bl false):=rfl
@[simp]def VC:Jk [.tup a,.ty "tuple"]=some (.bl true):=rfl
@[simp]def VB:Jk [.lst a,.ty "list"]=some (.bl true):=rfl
@[simp]def UO(x:Bool):Jk [.bl x,.ty "bool"]=some (.bl true):=rfl
def Sa{j:Int}(h:0<=j/\j<1000000):LC [.int 0,.int j,.int 2]=some (fL 0 ((j+1)/2).toNat):=fM ⟨rfl,rfl,h⟩
def Uo{j:Int}(h:j<1000000 /\ -1000000<j):Ot [.int j]=some (f8 0 j.toNat):=fM h
end
abbrev dQ(l:Zc):Sl:=.ow (.lst (l.map O.sh))
@[simp]def Tr(os:List O):K3 (.ow (.lst os))=(nY os).map D.lst:=rfl
@[simp]def UM:nY []=some []:=rfl
@[simp]def C8(d:D)(l:List O):nY (.sh d::l)=(nY l).map λr=>d::r:=rfl
@[simp]def T8(l:Zc):nY (l.map O.sh)=some l:=uv l
@[simp]def L8{α:Type}(f:α->D)(l:List α):nY (l.map (O.sh∘f))=some (l.map f):=by rw[<-YE];exact uv _
@[simp]def T9{α:Type}(f:α->D)(l:List α):nY (l.map λa=>O.sh (f a))=some (l.map f):=L8 f l
@[simp]theorem OC:∀(a b:List O),nY (a++b)=(nY a).bind λx=>(nY b).map λy=>x++y
 |[],b=>by cases h:nY b<;>simp[h]
 |.sh d::a,b=>by
  rw[List.cons_append,C8,C8,OC a b];cases nY a with
  |none=>rfl
  |some x=>cases nY b<;>rfl
 |.dic _::_,_=>rfl
 |.hd _ _ _::_,_=>rfl
 |.lst _::a,b=>rfl
 |.tup _::a,b=>rfl
@[simp]def Ud(o:O):eM o []=some o:=by unfold eM;rfl
@[simp]def Uc(l:List O)(k:Int)(r:Zn):eM (.lst l) (k::r)=(cF l k).bind λo=>eM o r:=rfl
@[simp]def Ue(l:List O)(k:Int)(r:Zn):eM (.tup l) (k::r)=(cF l k).bind λo=>eM o r:=rfl
@[simp]def Tu(o q:O):kg o [] q=q:=by unfold kg;rfl
@[simp]def Tt(l:List O)(k:Int)(r:Zn)(q:O):kg (.lst l) (k::r) q=.lst (wq l k λo=>kg o r q):=rfl
@[simp]def Tv(l:List O)(k:Int)(r:Zn)(q:O):kg (.tup l) (k::r) q=.tup (wq l k λo=>kg o r q):=rfl
@[simp]def UX(d:D):O.d (.sh d)=d:=by unfold O.d;rfl
@[simp]def Ut(l:List O):O.d (.lst l)=.lst (O.ds l):=#v[O.d]
@[simp]def Uu(l:List O):O.d (.tup l)=.tup (O.ds l):=#v[O.d]
@[simp]def SC:O.ds []=[]:=#v[O.ds]
@[simp]def GP(o:O)(l:List O):O.ds (o::l)=o.d::O.ds l:=#v[O.ds]
@[simp]theorem Jb:∀(a b:List O),O.ds (a++b)=O.ds a++O.ds b
 |[],b=>by simp
 |o::a,b=>by simp[Jb a b]
@[simp]theorem AZ:∀l:Zc,O.ds (l.map O.sh)=l
 |[]=>by simp
 |d::l=>by simp[AZ l]
@[simp]def Sh{α:Type}(f:α->D)(l:List α):O.ds (l.map (O.sh∘f))=l.map f:=by rw[<-YE];exact AZ _
@[simp]def Wr{α:Type}(a b:α):cF [a,b] 0=some a:=rfl
@[simp]def Wt{α:Type}(a b:α):cF [a,b] 1=some b:=rfl
@[simp]def Wu{α:Type}(a b c:α):cF [a,b,c] 0=some a:=rfl
@[simp]def Wv{α:Type}(a b c:α):cF [a,b,c] 1=some b:=rfl
@[simp]def Ww{α:Type}(a b c:α):cF [a,b,c] 2=some c:=rfl
def gc:a9=1000000:=by unfold a9;rfl
@[simp]def Xh:(0:Nat)<=a9:=YR _
@[simp]def QX:(1:Nat)<=a9:=by rw[gc];decide
@[simp]def Xi:(2:Nat)<=a9:=by rw[gc];decide
@[simp]def Xj:(3:Nat)<=a9:=by rw[gc];decide
@[simp]def Xk:(4:Nat)<=a9:=by rw[gc];decide
@[simp]def Xm:(5:Nat)<=a9:=by rw[gc];decide
@[simp]def Xn:(6:Nat)<=a9:=by rw[gc];decide
@[simp]def Xo:(7:Nat)<=a9:=by rw[gc];decide
@[simp]def Xp:(8:Nat)<=a9:=by rw[gc];decide
@[simp]def Xq:(9:Nat)<=a9:=by rw[gc];decide
@[simp]def WB:(10:Nat)<=a9:=by rw[gc];decide
@[simp]def WA:(0:Nat)<a9:=by rw[gc];decide
def QG(p q:Int×Int):nv (aM p) (aM q)=decide (p=q):=by obtain⟨a,b⟩:=p;obtain⟨c,d⟩:=q;simp[aM,nv,eqDs,Prod.ext_iff];by_cases h1:a=c<;>by_cases h2:b=d<;>simp[h1,h2]
theorem BC:∀r t:List (Int×Int),eqDs (r.map aM) (t.map aM)=decide (r=t)
 |[],[]=>rfl
 |[],_::_=>by simp[eqDs]
 |_::_,[]=>by simp[eqDs]
 |p::r,q::t=>by rw[Yo,Yo,eqDs,QG,BC r t];by_cases h1:p=q<;>by_cases h2:r=t<;>simp[h1,h2]
def Nl(r t:List (Int×Int)):nv (aZ r) (aZ t)=decide (r=t):=by unfold aZ;rw[nv,BC]
theorem Cp(n:Nat):∀r:List (Int×Int),okDs (n+1) (r.map aM)=true
 |[]=>by simp[okDs]
 |p::r=>by rw[Yo,okDs,Cp n r];simp[aM,dg,okDs]
def F6(r:List (Int×Int)):dg 50 (aZ r)=true:=by unfold aZ;rw[dg];exact Cp 48 r
def FD(neg:Bool)(r t:List (Int×Int)):jd neg (aZ r) (aZ t)=some (.bl (if neg then !decide (r=t) else decide (r=t))):=by unfold jd;rw[Yb ⟨F6 r,F6 t⟩,Nl]
@[simp]def UA(neg:Bool)(i j:Int):jd neg (.int i) (.int j)=some (.bl (if neg then !decide (i=j) else decide (i=j))):=by
 unfold jd;rw[Yb ⟨by simp[dg],by simp[dg]⟩];have:nv (.int i) (.int j)=decide (i=j):=by simp[nv];by_cases h:i=j<;>simp[h]
 rw[this]
@[simp]def U9(neg:Bool)(i j:Bool):jd neg (.bl i) (.bl j)=some (.bl (if neg then !decide (i=j) else decide (i=j))):=by
 unfold jd;rw[Yb ⟨by simp[dg],by simp[dg]⟩];have:nv (.bl i) (.bl j)=decide (i=j):=by simp[nv];by_cases h:i=j<;>simp[h]
 rw[this]
theorem rn:∀ns:Zn,Dens K S (ns.map D.int) (ns.map V.int)
 |[]=>.nil
 |n::ns=>.cons (Zo.2 rfl) (rn ns)
def IB{ns:Zn}{m:Zc->Option O} (hS:SqL K H a (ns.map V.int))(h:(m [.scr (ns.map D.int)]).map O.d=some (.bl true)):bm K 1 m [.ref a] H (λv _=>v=.bl true) E:=by
 cases q:m [.scr (ns.map D.int)] with
 |none=>rw[q] at h;cases h
 |some o=>
  rw[q] at h;have e:o.d=.bl true:=YU h;exact⟨rfl,H,[.scr (ns.map D.int)],o,Same.refl _,.cons (ZJ.2 ⟨a,_,rfl,hS,rn ns⟩) .nil,q,λv fp S' H' z ow _ _=>by
   have dv:=ow.denH z.sub;rw[e] at dv
   exact Zx.1 dv⟩
end M
namespace L2
open PySem PySem.Spec PyProof.Rows
def uK:bootBuiltins "len"=some (.builtin "len"):=by decide +kernel
def nq:bootBuiltins "sorted"=some (.builtin "sorted"):=by decide +kernel
def Qz:bootBuiltins "max"=some (.builtin "max"):=by decide +kernel
def Jr:bootBuiltins "min"=some (.builtin "min"):=by decide +kernel
def zu:bootBuiltins "sum"=some (.builtin "sum"):=by decide +kernel
def jY:bootBuiltins "tuple"=some (.type "tuple"):=by decide +kernel
section
variable {X:Cx}
theorem B4:∀a b:Zn,Srt.iJ a b=HT.cD a b
 |[],[]=>rfl
 |[],_::_=>rfl
 |_::_,[]=>rfl
 |x::xs,y::ys=>by rw[HT.Ed,<-B4 xs ys];rfl
end
def Bi:bootBuiltins "reversed"=some (.type "reversed"):=by decide +kernel
section
variable {X:Cx}{tg:Expr}
def gR{tl:TE}(hl:PE X l tl):PI X tg l (QL X.K tl):=by
 intro ZN s σ H R I h;refine bZ (hl ZN s σ H _ I h) λv s1 h1=>?_;obtain⟨x,H1,I1,r1,a,e,q⟩:=h1;subst e;cases r1;rcases q with ⟨⟨xs,hq⟩,q⟩|⟨⟨xs,hq⟩,q⟩
 ·obtain⟨its,rv,p,hz⟩:=I1.list hq;refine acg p.isList ⟨s1.heap.objs.size,[s1.heap.objs.size],_,_,H1,rfl,I1.kept (t':=s1.toks) λb o e=>Yq _ e,IL a _,⟨_,Yy _ rfl,rfl,rfl⟩,λb hb=>?_,q⟩;rw[Yp.1 hb];exact I1.fpOk (Yi _) I1.fresh
 ·obtain⟨its,rv,p,hz⟩:=I1.tuple hq;refine aew (show s1.heap.IsTuple a its.toArray from p) ⟨s1.heap.objs.size,[s1.heap.objs.size],_,_,H1,rfl,I1.kept (t':=s1.toks) λb o e=>Yq _ e,E6 a _,⟨_,Yy _ rfl,rfl,rfl⟩,λb hb=>?_,q⟩;rw[Yp.1 hb];exact I1.fpOk (Yi _) I1.fresh
theorem rD:∀ {vs:Zh} {ns:Zn},IntsAre vs ns->Vals (ns.map V.int) vs
 |_,_,.nil=>.nil
 |_,_,.cons n t h=>.cons ⟨t,rfl⟩ (rD h)
def call_sortedI:CallR X (.builtin "sorted") (CU X.K):=by
 intro ZN s σ H xs us Q I r h;obtain⟨p,ns,rfl,hS,h64,k⟩:=h;obtain⟨u,rfl,ru⟩:=r.one;cases ru;obtain⟨its,rv,pl,hz⟩:=I.list hS;have hI:IntsAre its ns:=oY rv;have hl:its.length=ns.length:=by have:=rv.length;rw[Ye] at this;exact this.symm
 refine Srt.AE pl.isList hI (by rw[YA];lia) λout ms ho perm pw=>?_;obtain⟨e,at1⟩:=sortedAll_at s.heap its out;have fresh:s.heap.objs.size<=s.heap.objs.size+1:=ab4 _;refine⟨.ref (s.heap.objs.size+1),bi H (s.heap.objs.size+1) (.lst (ms.map V.int)),I.laid (t':=s.toks) (λb o hb=>sortedAll_old hb) fresh ?_,rfl,k ms _ perm pw (I.hok.fresh fresh)⟩;exact⟨by rw[Ye,perm.length_eq,YA];lia,out.toList,e,rD ho,~~~at1⟩
def nr(hc:X.calm=true):CallR X (.builtin "sum") (Pw X.K):=by
 intro ZN s σ H xs us Q I r h;obtain⟨p,ns,rfl,hS,q⟩:=h;obtain⟨u,rfl,ru⟩:=r.one;cases ru;obtain⟨its,rv,pl,hz⟩:=I.list hS;have hI:IntsAre its ns:=oY rv;obtain⟨ys,e⟩:=hI.allInts.items;have hl:=pl.isList;have en:ns=ys.toList.map (·.1):=by rw[<-nums_intItems,<-e];simpa using hI.numsOf.symm
 rw[e] at hl;refine sum_intListG (I.ok.hd hc) hl λh' tk t' hk=>⟨.int ns.sum,H,I.kept hk,⟨t',?_⟩,q⟩
 rw[preSum_eq,abN (by simp),en]
def Ip{j:Int}(h0:0<=j)(h1:j<1000000):Builtin.Range.small 0 j 2=true:=by
 unfold Builtin.Range.small;rw[rangeSize_pos (by decide) h0];simp only[Builtin.Range.rangeFitsLong,Y3,ads,YO,aag,show (2:Int) > 0 by decide,abq];have e:(2:Int)^63=9223372036854775808:=by decide
 lia
def MC{P:Program}{w:World}{K:Zj}(it:Addr)(n:Nat):Turn P w K tg (Qd n) [it] it (λi h=>IsRangeIter h it (0+(i:Nat)*2) ((n:Int)-(i:Nat)) 2) where
 mem:=by simp
 obj:=λi h st b hb=>by rw[Yp.1 hb];exact⟨_,st,λv z=>by have z':Data.fields _=Data.cell v:=z;cases z'⟩
 keep:=λi h h' st k=>k it (by simp) _ st
 item:=by intro X hP hw hK hc i ZN s σ H E I hf st hg;subst hP hw hK;obtain⟨f0,f1,f2,f3,f4,f5⟩:=hf it (by simp);refine (Walks.range (prog:=X.prog) (w:=X.w) (I.ok.hd hc) it 0 2 n).item i s _ _ hg st λv h' tk hv st' kk=>?_;obtain⟨t,rfl⟩:=hv;have I1:Inv X ZN σ H { s with heap:=h',toks:=tk }:=I.turned (λb o hb e=>kk b o (λz=>hb (Yp.1 z)) e) f0 f1 f3 f4 f5;refine⟨_,rfl,u9 (s:={ s with heap:=h',toks:=tk }) (n := "range_iterator") st' rfl rfl (by decide) ⟨.int (2*i),H,I1,⟨t,?_⟩,⟨rfl,rfl⟩,st',λb hb=>(hf b hb).1⟩⟩;rw[Int.zero_add,Int.mul_comm]
 done:=by intro X hP hw hK hc i ZN s σ H E I hf st hg;subst hP hw hK;obtain⟨f0,f1,f2,f3,f4,f5⟩:=hf it (by simp);exact ad6 (I.ok.hd hc) st (by have:n<=i:=hg;lia) λh' eb=>⟨rfl,I.turned (t':=s.toks) (λb o hb e=>eb b o hb e) f0 f1 f3 f4 f5⟩
 self:=λ_ _ _ _ _ st h=>ad7 st h
def R6{ZN:Zf} {R:It->Hp->Prop} {j:Int}{t u v:Tok}{tk:Nat}(I:Inv X ZN σ H s)(h1:0<=j)(h2:j<1000000)(q:R (Qd ((j+1)/2).toNat) H) :
  wpAny (model X.prog X.w) X.A (pyIter (.ref s.heap.objs.size)) (SH X ZN σ tg R) E { s with heap:=s.heap.push { cls:=.type "range",data:=.fields #[.int 0 t,.int j u,.int 2 v] },toks:=tk }:=by
 refine ac5 (acv ..) (Ip h1 h2) ?_;have I1:Inv X ZN σ H { s with heap:=s.heap.push { cls:=.type "range",data:=.fields #[.int 0 t,.int j u,.int 2 v] },toks:=tk }:=I.kept λb o e=>Yq _ e;refine⟨(s.heap.push { cls:=.type "range",data:=.fields #[.int 0 t,.int j u,.int 2 v] }).objs.size,[(s.heap.push { cls:=.type "range",data:=.fields #[.int 0 t,.int j u,.int 2 v] }).objs.size],_,_,H,rfl,I1.kept (t':=tk) λb o e=>Yq _ e,MC _ ((j+1)/2).toNat,?_,λb hb=>?_,q⟩
 ·have e1:(0:Int)+((0:Nat):Int)*2=0:=by simp
  have e2:((((j+1)/2).toNat:Nat):Int)-((0:Nat):Int)=Builtin.Range.rangeSize 0 j 2:=by rw[rangeSize_pos (by decide) h1];lia
  show IsRangeIter _ _ (0+((0:Nat):Int)*2) (((((j+1)/2).toNat:Nat):Int)-((0:Nat):Int)) 2;rw[e1,e2];exact Yy _ rfl
 ·rw[Yp.1 hb];exact I1.fpOk (Yi _) I1.fresh
def HP{a b c:Expr}{ta:TA}{p pos:Pos}(hg:Gl X "range") (hm:X.mg "range"=none) (ha:PA X [a,b,c] ta) (hs:starEach [a,b,c] X.env=(false,eval a X.env)::starEach [b,c] X.env:=by rfl)
  (hp:(backTo pos (starEach [b,c] X.env)).any (·.1)=false:=by rfl):PI X tg (.Call (.Name "range" p) [a,b,c] [] pos) (Pf ta):=by
 intro ZN s σ H R I h;refine Call_ (kU I hg hm ac6 (abo (bZ (ha pos ZN s σ H _ I h) λus s1 h1=>?_) hs hp));obtain⟨vs,H1,I1,r1,j,rfl,q1,q2,q⟩:=h1;cases r1 with
 |cons r rr=>
  cases rr with
  |cons r' rr=>
   cases rr with
   |cons r'' rr=>cases rr;obtain⟨t,rfl⟩:=r;obtain⟨t',rfl⟩:=r';obtain⟨t'',rfl⟩:=r'';exact call_range_3 (by decide) (R6 I1 q1 q2 q)
end
end L2
namespace HT
open PySem PySem.Spec PyProof.Rows
section
variable {prog:Program}{w:World}{A:Around}{E:Ze}{s:Shared}
def nQ{t sl:Addr}{items:Array Value}{vl vu:Value}{lo hi:Option Int}{Q:Ze}(ht:IsTup s.heap t items)(hs:s.heap.IsSliceOf sl vl vu .none)(pl:IsPart vl lo)(pu:IsPart vu hi)
  (hw:eJ items.size 0 lo=0/\eJ items.size items.size hi=items.size) (h:Q (.ref t) s):wpAny (model prog w) A (getItem (.ref t) (.ref sl)) Q E s:=by
 obtain⟨os,hos,hcs,hds⟩:=id hs;have hTs:s.TypeIs (.ref sl) "slice" := ⟨os,hos,hcs⟩
 unfold getItem;try with_reducible refine Y1 ?_
 first|refine X8 (Yc ?_)|skip
 refine X8 (aed ht.typeIs (by decide) ?_)
 refine X8 (aa4 (name:=Str.ofString "__getitem__") ht.typeIs abJ
  (aae abJ ht.typeIs aee ?_ (aef _ _)))
 show wpAny _ _ (Builtin.Tuple.tupleItemsOf (.ref t) >>= _) _ _ s;refine X8 (tupleItemsOf_ ht ?_);refine X8 (aa5 hTs ?_);rw[Yb (by decide)];refine X8 (kj hs pl pu ?_);have hyes:((((eJ items.size 0 lo:Nat):Int)==0&&(1:Int)==1&&(eJ items.size items.size hi-eJ items.size 0 lo)==items.size)=true):=by rw[hw.1,hw.2];simp
 show wpAny _ _ (if (((eJ items.size 0 lo:Nat):Int)==0&&(1:Int)==1&&(eJ items.size items.size hi-eJ items.size 0 lo)==items.size)=true then _ else _) _ _ s;rw[Yb hyes];refine X8 (m:=Builtin.Tuple.tupleIsExact _) (X8 (aa5 ht.typeIs (Yc ?_)));rw[Yb (by decide)];exact X8 (aao (Yc ⟨_,rfl,Yc h⟩))
end
end HT
namespace L2
open PySem PySem.Spec PyProof.Rows M
def Inv.rdl{ZN:Zf} {xs:Za}(I:Inv X ZN σ H s)(h:Rd H l (.lst xs)):xs.length<=sizeLine/\∃(its:Zh) (n:Nat),Vals xs its/\xs.length=its.length/\s.heap.get? l=some { cls:=.type "list",data:=.seq its.toArray n }:=by
 obtain⟨h1,its,n,r,e⟩:=(show ObjOk X.prog X.w H s.heap l (.lst xs) from h.ok I.hok)
 exact⟨h1,its,n,r,r.length,e⟩
section
variable {X:Cx}
def op_catM:OpR X (binaryOp .Add) Ps:=by
 intro ZN s σ H x y v u Q I rx ry h;obtain⟨l,b,xs,zs,rfl,rfl,hH,hB,hz,q⟩:=h;cases rx;cases ry;obtain⟨z,its,n,r,hl,e⟩:=I.rdl hH;obtain⟨z2,its2,n2,r2,hl2,e2⟩:=I.rdl hB;refine PySem.P.add_list e e2 ?_ (by rw[YF,YF];lia);have ea:its.toArray++its2.toArray=(its++its2).toArray:=by simp
 rw[ea];exact⟨.ref _,_,I.lnew (t':=s.toks) (r.append r2) (by rw[Yl];lia),rfl,q _ I.fresh⟩
def op_tupM:OpR X (binaryOp .Add) (Px X.K):=by
 intro ZN s σ H x y v u Q I rx ry h;obtain⟨a,b,xs,ys,rfl,rfl,ha,hb,hz,q1,q2,q⟩:=h;cases rx;cases ry;obtain⟨its,r1,p1,_⟩:=I.tuple ha;obtain⟨its2,r2,p2,_⟩:=I.tuple hb;have hz2:its.length+its2.length<=sizeLine:=by rw[<-r1.length,<-r2.length];exact hz
 by_cases hv:its=[]
 ·have hx:xs=[]:=r1.nil_iff.1 hv;obtain⟨⟨cls,dd,data,sl⟩,ho,hc,n,hd⟩:=id p1;obtain⟨⟨cls2,dd2,data2,sl2⟩,ho2,hc2,n2,hd2⟩:=id p2;simp only at hc hd hc2 hd2;subst hc hd hc2 hd2;exact ada ⟨_,ho,rfl⟩ ⟨_,ho2,rfl⟩ adb adc ade adf (adg (.ref a) (.ref b)) (tuple_addW0 a b its.toArray its2.toArray n n2 dd dd2 sl sl2 (by simp[hv])) ⟨ho,ho2,⟨.ref b,H,I,rfl,q2 hx⟩⟩
 ·refine HT.Nc p1 p2 hv (λz=>⟨.ref a,H,I,rfl,q1 (r2.nil_iff.1 z)⟩) (λz=>?_) hz2;refine⟨.ref s.heap.objs.size,_,I.laid (t':=s.toks) (o:=.tup (xs++ys)) (λb ob e=>Yq _ e) (Yi _) ?_,rfl,q _ (I.hok.fresh (Yi _))⟩;exact⟨by rw[Yl];exact hz,_,r1.append r2,IsTup.new _ _⟩
def N6:OpR X (binaryOp .Add) Pv:=Et
def ic:OpR X (binaryOp .Add) (Gg X.K):=op_add.or (op_catM.or (op_tupM.or N6))
mutual
def d9:D->PyData
 |.non=>.none
 |.bl b=>.bool b
 |.int i=>.int i
 |.str x=>.str x
 |.lst l=>.list (pyDs l)
 |.tup l=>.tuple (pyDs l)
 |.mtp l=>.tuple (pyDs l)
 |_=>.none
def pyDs:Zc->List PyData
 |[]=>[]
 |d::l=>d9 d::pyDs l
end
mutual
theorem vT:∀(n:Nat) (d:D),dg n d=true->(d9 d).canLay0=true/\(d9 d).depth<=n
 |_,.non,_=>by simp[d9,PyData.canLay0,PyData.depth]
 |_,.bl _,_=>by simp[d9,PyData.canLay0,PyData.depth]
 |_,.int _,_=>by simp[d9,PyData.canLay0,PyData.depth]
 |n,.str x,h=>by
  have h':PyData.strOk x=true:=by cases n<;>simpa[dg] using h
  simp[d9,PyData.canLay0,PyData.depth,h']
 |0,.lst l,h=>by simp[dg] at h
 |n+1,.lst l,h=>by
  obtain⟨a,b⟩:=ul n l (by simpa[dg] using h);simp only[d9,PyData.canLay0,PyData.depth];exact⟨a,()⟩
 |0,.tup l,h=>by simp[dg] at h
 |n+1,.tup l,h=>by
  obtain⟨a,b⟩:=ul n l (by simpa[dg] using h);simp only[d9,PyData.canLay0,PyData.depth];exact⟨a,()⟩
 |0,.mtp l,h=>by simp[dg] at h
 |n+1,.mtp l,h=>by
  obtain⟨a,b⟩:=ul n l (by simpa[dg] using h);simp only[d9,PyData.canLay0,PyData.depth];exact⟨a,()⟩
 |n,.ty _,h=>by cases n<;>simp[dg] at h
 |n,.scr _,h=>by cases n<;>simp[dg] at h
 |n,.ins _ _ _,h=>by cases n<;>simp[dg] at h
theorem ul:∀(n:Nat) (l:Zc),okDs n l=true->PyData.canLayAll0 (pyDs l)=true/\PyData.depthAll (pyDs l)<=n
 |_,[],_=>by simp[pyDs,PyData.canLayAll0,PyData.depthAll]
 |n,d::l,h=>by rw[okDs,Y3] at h;obtain⟨a,b⟩:=vT n d h.1;obtain⟨c,e⟩:=ul n l h.2;simp only[pyDs,PyData.canLayAll0,PyData.depthAll,a,c];exact⟨rfl,()⟩
end
mutual
theorem D0:∀(n m:Nat) (d e:D),dg n d=true->dg m e=true->PyData.eqv (d9 d) (d9 e)=nv d e
 |n,m,.non,e,_,he=>by cases e<;>first|(simp[d9,PyData.eqv,nv];done)|(cases m<;>simp[dg] at he)
 |n,m,.bl _,e,_,he=>by cases e<;>first|(simp[d9,PyData.eqv,nv];done)|(cases m<;>simp[dg] at he)
 |n,m,.int _,e,_,he=>by cases e<;>first|(simp[d9,PyData.eqv,nv];done)|(cases m<;>simp[dg] at he)
 |n,m,.str _,e,_,he=>by cases e<;>first|(simp[d9,PyData.eqv,nv];done)|(cases m<;>simp[dg] at he)
 |0,m,.lst _,e,hd,he=>by simp[dg] at hd
 |n+1,m,.lst l,e,hd,he=>by
  cases e with
  |lst l'=>
   cases m with
   |zero=>simp[dg] at he
   |succ m=>
    simp only[d9,PyData.eqv,nv];exact ZH n m l l' (by simpa[dg] using hd) (by simpa[dg] using he)
  |_=>first|(simp[d9,PyData.eqv,nv];done)|(cases m<;>simp[dg] at he)
 |0,m,.tup _,e,hd,he=>by simp[dg] at hd
 |n+1,m,.tup l,e,hd,he=>by
  cases e with
  |tup l'=>
   cases m with
   |zero=>simp[dg] at he
   |succ m=>
    simp only[d9,PyData.eqv,nv];exact ZH n m l l' (by simpa[dg] using hd) (by simpa[dg] using he)
  |mtp l'=>
   cases m with
   |zero=>simp[dg] at he
   |succ m=>
    simp only[d9,PyData.eqv,nv];exact ZH n m l l' (by simpa[dg] using hd) (by simpa[dg] using he)
  |_=>first|(simp[d9,PyData.eqv,nv];done)|(cases m<;>simp[dg] at he)
 |0,m,.mtp _,e,hd,he=>by simp[dg] at hd
 |n+1,m,.mtp l,e,hd,he=>by
  cases e with
  |tup l'=>
   cases m with
   |zero=>simp[dg] at he
   |succ m=>
    simp only[d9,PyData.eqv,nv];exact ZH n m l l' (by simpa[dg] using hd) (by simpa[dg] using he)
  |mtp l'=>
   cases m with
   |zero=>simp[dg] at he
   |succ m=>
    simp only[d9,PyData.eqv,nv];exact ZH n m l l' (by simpa[dg] using hd) (by simpa[dg] using he)
  |_=>first|(simp[d9,PyData.eqv,nv];done)|(cases m<;>simp[dg] at he)
 |n,_,.ty _,_,h,_=>by cases n<;>simp[dg] at h
 |n,_,.scr _,_,h,_=>by cases n<;>simp[dg] at h
 |n,_,.ins _ _ _,_,h,_=>by cases n<;>simp[dg] at h
theorem ZH:∀(n m:Nat) (l l':Zc),okDs n l=true->okDs m l'=true->PyData.eqvAll (pyDs l) (pyDs l')=eqDs l l'
 |_,_,[],[],_,_=>by simp[pyDs,PyData.eqvAll,eqDs]
 |_,_,[],_::_,_,_=>by simp[pyDs,PyData.eqvAll,eqDs]
 |_,_,_::_,[],_,_=>by simp[pyDs,PyData.eqvAll,eqDs]
 |n,m,d::l,e::l',hd,he=>by rw[okDs,Y3] at hd he;rw[pyDs,pyDs,PyData.eqvAll,eqDs,D0 n m d e hd.1 he.1,ZH n m l l' hd.2 he.2]
end
def zz{H:Hp}{s:Shared}{n:Nat}(ih:∀ {d:D} {x:V} {v:Value},dg n d=true->Den X.K H d x->RelV x v->∃as,Reads s.heap v (d9 d) as){ds:Zc}:∀ {xs:Za} {vs:Zh},okDs n ds=true->Dens X.K H ds xs->Vals xs vs->∃as,ReadsAll s.heap vs (pyDs ds) as:=by
 induction ds with
 |nil=>
  intro xs vs _ d r;rw[d.nil_of] at r;cases r;exact⟨_,.nil⟩
 |cons d ds id=>
  intro xs vs h dd r;rw[okDs,Y3] at h;obtain⟨y,ys,rfl,a,b⟩:=dd.cons_of;cases r with
  |cons r rr=>obtain⟨as,ra⟩:=ih h.1 a r;obtain⟨bs,rb⟩:=id h.2 b rr;exact⟨_,.cons ra rb⟩
def Br{ZN:Zf}{σ:St}{H:Hp}{s:Shared}(I:Inv X ZN σ H s)(n:Nat)(ih:∀m,n=m+1->∀ {d:D} {x:V} {v:Value},dg m d=true->Den X.K H d x->RelV x v->∃as,Reads s.heap v (d9 d) as){d:D}{x:V}{v:Value}(h:dg n d=true)(dx:Den X.K H d x)(r:RelV x v):∃as,Reads s.heap v (d9 d) as:=by
 cases d with
 |non=>rw[den_non.1 dx] at r;cases r;exact⟨_,.none⟩
 |bl b=>rw[Zx.1 dx] at r;cases r;exact⟨_,.bool b⟩
 |int i=>rw[Zo.1 dx] at r;obtain⟨t,rfl⟩:=r;exact⟨_,.int i t⟩
 |str y=>rw[den_str.1 dx] at r;obtain⟨t,rfl⟩:=r;exact⟨_,.str y t⟩
 |lst l=>
  cases n with
  |zero=>simp[dg] at h
  |succ n=>
   obtain⟨p,xs,rfl,hp,ds⟩:=Zu.1 dx;cases r;obtain⟨_,its,k,rv,_,e⟩:=I.rdl hp;obtain⟨as,ra⟩:=zz (ih n rfl) (by simpa[dg] using h) ds rv;exact⟨_,.list e rfl rfl (~~~ra)⟩
 |tup l=>
  cases n with
  |zero=>simp[dg] at h
  |succ n=>
   obtain⟨p,xs,rfl,hp,ds⟩:=iG dx;cases r;obtain⟨its,rv,⟨o,e,c,k,d⟩,_⟩:=I.tuple hp;obtain⟨as,ra⟩:=zz (ih n rfl) (by simpa[dg] using h) ds rv;exact⟨_,.tuple e c d (~~~ra)⟩
 |mtp l=>
  cases n with
  |zero=>simp[dg] at h
  |succ n=>
   obtain⟨p,xs,rfl,hp,ds⟩:=Zy.1 dx;cases r;obtain⟨its,rv,⟨o,e,c,k,d⟩,_⟩:=I.tuple hp;obtain⟨as,ra⟩:=zz (ih n rfl) (by simpa[dg] using h) ds rv;exact⟨_,.tuple e c d (~~~ra)⟩
 |_=>cases n<;>simp[dg] at h
def nu{ZN:Zf} (I:Inv X ZN σ H s)(n:Nat):∀ {d:D} {x:V} {v:Value},dg n d=true->Den X.K H d x->RelV x v->∃as,Reads s.heap v (d9 d) as:=by
 induction n with
 |zero=>exact λ{d x v}=>Br I 0 (λm e=>by cases e)
 |succ n ih=>exact λ{d x v}=>Br I (n+1) (λm e=>by cases e;exact ih)
def Ag(hu:X.A.units+64<cLine):OpR X (compareOp .Eq) (Oo X.K false):=by intro ZN s σ H x y v u Q I rx ry h;obtain⟨S,d,e,sm,dx,dy,cd,ce,q⟩:=h;obtain⟨as,ra⟩:=nu I 50 cd (uR sm dx) rx;obtain⟨bs,rb⟩:=nu I 50 ce (uR sm dy) ry;obtain⟨a1,a2⟩:=vT 50 d cd;obtain⟨b1,b2⟩:=vT 50 e ce;have hm:=Nat.min_le_left (d9 d).depth (d9 e).depth;refine SeqAt.compareEq_reads ra rb a1 b1 () ⟨.bl _,H,I,rfl,?_⟩;rw[D0 50 50 d e cd ce];exact q
def KQ(hu:X.A.units+64<cLine):OpR X (compareOp .NotEq) (Oo X.K true):=by intro ZN s σ H x y v u Q I rx ry h;obtain⟨S,d,e,sm,dx,dy,cd,ce,q⟩:=h;obtain⟨as,ra⟩:=nu I 50 cd (uR sm dx) rx;obtain⟨bs,rb⟩:=nu I 50 ce (uR sm dy) ry;obtain⟨a1,a2⟩:=vT 50 d cd;obtain⟨b1,b2⟩:=vT 50 e ce;have hm:=Nat.min_le_left (d9 d).depth (d9 e).depth;refine SeqAt.compareNe_reads ra rb a1 b1 () ⟨.bl _,H,I,rfl,?_⟩;rw[D0 50 50 d e cd ce];exact q
def jZ:CallR X (.builtin "len") (Lq X.K):=Js
def nD:Wi X "list.extend" rExtM:=by
 intro ZN s σ H x vs v us Q I rx rv h;obtain⟨l,b,xs,zs,rfl,rfl,hH,hB,hz,q⟩:=h;cases rx;obtain⟨u,rfl,ru⟩:=rv.one;cases ru;obtain⟨z,its,n,r,hl,e⟩:=I.lstM hH;obtain⟨z2,its2,n2,r2,hl2,e2⟩:=I.rdl hB;have hsz:its.toArray.size+its2.toArray.size<=sizeLine:=by rw[YF,YF];lia
 have hlong:¬(!its.toArray.isEmpty&&Builtin.List.listTooLong (its.toArray.size+its2.toArray.size))=true:=by rw[KH hsz,adt];exact Y4
 refine call_meets F.slot_list_extend ⟨_,e,rfl⟩ F.entry_list_extend (F.args_list_extend_2 _ _)
  (AutoSeq1.list_extend_list_list_0 l its.toArray n b its2.toArray n2 hlong (by rw[YF];lia) ()) ⟨e,e2,?_⟩
 refine⟨.non,_,I.lset (its':=its++its2) hH e (by simp) (r.append r2) ?_,rfl,q⟩;rw[Yl];lia
def RM:SlR X (Rk X.K):=by
 refine SlR.or OD ?_;intro ZN s σ H x v vl vu lo hi sl Q I rx hs pl pu h;obtain⟨a,xs,rfl,hx,q1,q2⟩:=h;cases rx;by_cases hw:HT.eJ xs.length 0 lo=0/\HT.eJ xs.length xs.length hi=xs.length
 ·obtain⟨its,r,ht,hz⟩:=I.tuple hx;have ZQ:its.toArray.size=xs.length:=by rw[YF];exact r.length.symm
  have hcut:nO xs lo hi=xs:=by unfold nO;rw[hw.1,hw.2,abP,acH,abN (Yi _)]
  refine⟨"tuple",_,abJ.lookup,ht.typeIs,?_⟩;exact HT.nQ ht hs pl pu (by rw[ZQ];exact hw) ⟨.ref a,H,I,rfl,q1 hcut⟩
 ·exact RN ZN s σ H (.ref a) (.ref a) vl vu lo hi sl Q I rfl hs pl pu ⟨a,xs,rfl,hx,hw,q2⟩
def DR:CallR X (.builtin "sorted") (Ls X.K):=by
 intro ZN s σ H xs us Q I r h;obtain⟨p,yks,rfl,hS,h64,hk,k⟩:=h;obtain⟨u,rfl,ru⟩:=r.one;cases ru;obtain⟨its,rv,pl,hz⟩:=I.list hS;have hl:yks.length=its.length:=by rw[<-rv.length,Ye]
 have cF:∀i,i<its.length->∃yk,yks[i]?=some yk/\yks.getD i (.non,[])=yk/\RelV yk.1 (its.getD i Value.none):=λi hi=>by
  have ey:yks[i]?=some yks[i]:=YS ();have ex:(yks.map (·.1))[i]?=some yks[i].1:=by rw[YG,ey];rfl
  obtain⟨v,ev,rl⟩:=rv.get ex;exact⟨_,ey,by rw[aaW,ey];rfl,by rw[aaW,ev];exact rl⟩
 have tup:∀i,i<its.length->Srt.SR s.heap (its.getD i Value.none) (yks.getD i (.non,[])).2/\(yks.getD i (.non,[])).2≠[]:=λi hi=>by obtain⟨yk,e1,e2,rl⟩:=cF i hi;obtain⟨q,e3,e4,e5⟩:=hk _ (aaP e1);rw[e2];refine⟨?_,e5⟩;rw[e3] at rl;have rl':its.getD i Value.none=Value.ref q:=rl;obtain⟨js,rj,⟨o,ho,hc,n,hd⟩,_⟩:=I.tuple e4;refine⟨q,o,js.toArray,n,rl',ho,hc,hd,?_⟩;simpa using oY rj
 refine Srt.y6 (Srt.Kq λi=>(yks.getD i (.non,[])).2) pl.isList (by rw[YA];lia) (Srt.Eb tup) λq hq ha=>?_;obtain⟨pv,pw⟩:=Srt.Ah (vs:=its) (d:=Value.none) hq ha;rw[<-hl] at hq ha;obtain⟨py,wy⟩:=Srt.Ah (vs:=yks) (d:=((V.non,[]):V×Zn)) hq ha;obtain⟨e,at1⟩:=sortedAll_at s.heap its (Srt.iV its q);have hv:Vals ((q.toList.map λi=>yks.getD i (.non,[])).map (·.1)) (q.toList.map λi=>its.getD i Value.none):=by
  have hb:∀i∈q.toList,i<its.length:=λi hi=>by
   have:i<yks.length:=by simpa using (abK.1 hq).mem_iff.mp hi
   lia
  revert hb;generalize q.toList=L;induction L with
  |nil=>exact λ_=>.nil
  |cons i L ih=>intro hb;refine .cons ?_ (ih λj hj=>hb j (Yn _ hj));obtain⟨yk,_,e2,rl⟩:=cF i (hb i Yg);dsimp only;rw[e2];exact rl
 have fresh:s.heap.objs.size<=s.heap.objs.size+1:=ab4 _;refine⟨.ref (s.heap.objs.size+1),bi H (s.heap.objs.size+1) (.lst ((q.toList.map λi=>yks.getD i (.non,[])).map (·.1))),I.laid (t':=s.toks) (λb o hb=>sortedAll_old hb) fresh ?_,rfl,?_⟩
 ·refine⟨by rw[Ye,py.length_eq,YA];lia,_,e,hv,at1⟩
 ·refine k _ _ py (wy _ λi j _ _ h=>?_) (I.hok.fresh fresh);rw[<-B4];exact h
def kS:CallR X (.builtin "sorted") (CV X.K):=call_sortedI.or DR
end
end L2
namespace M
def jq(a:Zn)(k:Int):Zn:=if a.any (· == k) then a else a++[k]
def fZ(ns:Zn):Zn:=ns.foldl jq []
end M
namespace L2
open PySem
def QA:bootBuiltins "set"=some (.type "set"):=by decide +kernel
theorem BX:∀ {ns:Zn} {its:Zh},Vals (ns.map V.int) its->PyProof.Rows.IntsAre its ns
 |[],_,h=>by cases h;exact .nil
 |n::ns,_,h=>by
  cases h with
  |cons r t=>obtain⟨tk,rfl⟩:=r;exact .cons n tk (BX t)
end L2
namespace M
open PySem L2
section
variable {K:Zj}
def tG(K:Zj)(d:D):TE:=λ_ H Q=>∀v,(∀S,Den K S d v)->Q v H
def WC:SE K (tG K d) (xC d):=λρ σ S H Q e r x k v hv=>by cases x;exact k v S H (Ext.refl r.sub) (hv S)
end
end M
namespace L2
open PySem M
def qD{u:Value}{pos:Pos} (hg:Gl X x)(hm:X.mg x=some u)(r:RelV v u)(hD:∀S,Den K S d v)(hd:(x==("__debug__" : Str))=false:=by decide):PE X (.Name x pos) (tG K d):=
 λa b c H Q I h=>qC hg hm r hd a b c H Q I (h v hD)
end L2
namespace M
open PySem L2
@[simp]def UQ(a:XE):XE:=λρ=>(a ρ).bind λd=>match d with|.lst l=>(aR l).bind λns=>if ns.length<4000 then some (.int ((fZ ns).length:Nat)) else none|_=>none
end M
namespace L2
open PySem
def xi(K:Zj)(Ns:Zl)(P:Addr->Prop):Prop:=∀N∈Ns,∀C,W.nsIn K mainGlobals N=some (some (.ref C))->P C
def Sv(K:Zj)(Ns:Zl)(H:Hp)(x:V)(a:Addr)(C dx:Addr)(fs:List (Str×V)):Prop:=x=.ref a/\(∃N∈Ns,W.nsIn K mainGlobals N=some (some (.ref C)))/\H a=some (.ins C dx fs)
def Mn(K:Zj)(Ns:Zl)(ta:TE)(f:Str):TE:=λσ H Q=>ta σ H λx H1=>∃a C dx fs v,Sv K Ns H1 x a C dx fs/\fs.lookup f=some v/\Q v H1
def AQ(K:Zj)(Ns:Zl)(m:Str)(sp:Sp)(ta:TE)(t:TA):TE:=λσ H Q=>ta σ H λx H1=>∃a C dx fs,Sv K Ns H1 x a C dx fs/\fs.lookup m=none/\t σ H1 λvs H2=>sp (x::vs) H2 Q E0
def AO(K:Zj)(N:Str)(sp:Sp)(t:TA):TE:=λσ H Q=>∀C,W.nsIn K mainGlobals N=some (some (.ref C))->PR C sp [] E0 t σ H Q
section
variable {X:Cx}{o e:Expr}{es:List Expr}{f m:Str}{pos apos p:Pos}{ta:TE}{t:TA}{Ns:Zl}{k:Nat}{g C:Addr}{fd:FuncData}{ps:Zl}{sp:Sp}
def Ob(hc:xi X.K Ns λC=>Cls X.K C/\NoAttr X.K C f)(he:PE X e ta)(hb:attributeBase e f X.env (eval e X.env)=eval e X.env):PE X (.Attribute e f pos) (Mn X.K Ns ta f):=by intro ZN s σ H Q I h;refine M8 hb (bZ (he ZN s σ H _ I h) λu s1 ZP=>?_);obtain⟨x,H1,I1,rx,a,C,dx,fs,v,⟨ex,⟨N,hN,hC⟩,ea⟩,l,q⟩:=ZP;subst ex;have eu:u=Value.ref a:=rx;subst eu;obtain⟨c,n⟩:=hc N hN C hC;exact D5 I1 ea c n l λu' s2 I2 ru=>⟨v,H1,I2,ru,q⟩
def K2(hc:xi X.K Ns λC=>Cls X.K C/\Meth X.K C m g)(F:ZD X.prog X.w X.K X.mg X.base sH k g fd ps sp)(hr:Zw k X.A)(hb:Binds X.K fd ps [])(hx:l4 sH X E0)(he:PE X o ta)(ha:PA X (e::es) t)
  (hst:starEach (e::es) X.env=(false,eval e X.env)::starEach es X.env:=by rfl) (hpl:(backTo pos (starEach es X.env)).any (·.1)=false:=by rfl)
  (ht:eval (.Call (.Attribute o m apos) (e::es) [] pos) X.env=(do
   let ov ← eval o X.env
   standAt apos.atName
   let (f,first) ← holding [ov] (getMethod ov m pl)
   callWith pos f first (backTo pos (starEach (e::es) X.env)) (backToKw pos (keywordEach [] X.env))):=by rfl) :
  PE X (.Call (.Attribute o m apos) (e::es) [] pos) (AQ X.K Ns m sp ta t):=by
 intro ZN s σ H Q I h;refine W.methodCall_KW (pl:=pl) (bZ (he ZN s σ H _ I h) λu s1 ZP=>?_) ht;obtain⟨x,H1,I1,rx,a,C,dx,fs,⟨ex,⟨N,hN,hC⟩,ea⟩,l,q⟩:=ZP;subst ex;have eu:u=Value.ref a:=rx;subst eu;obtain⟨c,hm⟩:=hc N hN C hC;refine D6 I1 ea c hm l ?_;refine acx (first:=[.ref a]) (h₀:=X.base) I.ok.mod.kin hm.kp (bZ (ha pos ZN s1 σ H1 _ I1 q) λus s2 ⟨vs,H2,I2,r,q2⟩=>⟨I2.kIn,?_⟩) hst hpl;exact EJ (us:=.ref a::us) (vs:=.ref a::vs) (dvs:=[]) F hr hb .nil hx I2 (.cons rfl r) (by rw[YK];exact q2)
structure ClsFn(K:Zj)(C:Addr)(m:Str)(f:Addr):Prop where
 sp:W.specialIn K (.ref C) "__getattribute__"=some (some (.builtin "type.__getattribute__"))
 rd:W.readsIn K C (.type "type")=true
 fn:W.findCls K (.ref C) (.type "type") m=some (.val (.ref f))
 kp:W.keepIn K (.ref f)=true
def Ew(cf:ClsFn X.K C m g)(gB:Gl X B)(hm:X.mg B=some (.ref C))(F:ZD X.prog X.w X.K X.mg X.base sH k g fd ps sp)(hr:Zw k X.A)(hb:Binds X.K fd ps [])(hx:l4 sH X E0)(ha:PA X (e::es) t)(hdb:(B==("__debug__" : Str))=false:=by decide)
  (hst:starEach (e::es) X.env=(false,eval e X.env)::starEach es X.env:=by rfl) (hpl:(backTo pos (starEach es X.env)).any (·.1)=false:=by rfl)
  (ht:eval (.Call (.Attribute (.Name B p) m apos) (e::es) [] pos) X.env=(do
   let ov ← eval (.Name B p) X.env
   standAt apos.atName
   let (f,first) ← holding [ov] (getMethod ov m pl)
   callWith pos f first (backTo pos (starEach (e::es) X.env)) (backToKw pos (keywordEach [] X.env))):=by rfl) :
  PE X (.Call (.Attribute (.Name B p) m apos) (e::es) [] pos) (qR sp [] E0 t):=by
 intro ZN s σ H Q I h;refine W.methodCall_KW (pl:=pl) (bZ (qC (v:=.ref C) gB hm rfl hdb ZN s σ H (λx H1=>x=.ref C/\H1=H) I ⟨rfl,rfl⟩) λu s1 ZP=>?_) ht;obtain⟨x,H1,I1,rx,ex,eH⟩:=ZP;subst ex;subst eH;have eu:u=Value.ref C:=rx;subst eu;refine W.method_cls I1.kIn cf.sp (W.cls_value I1.kIn cf.rd cf.fn rfl ?_);refine acx (first:=[]) (h₀:=X.base) I.ok.mod.kin cf.kp (bZ (ha pos ZN _ σ H1 _ (I1.tok _) h) λus s2 ⟨vs,H2,I2,r,q2⟩=>⟨I2.kIn,?_⟩) hst hpl;exact EJ F hr hb .nil hx I2 r q2
def K1(hN:W.nsIn X.K mainGlobals N=some (some (.ref C)))(M:Mk X.K C g)(F:ZD X.prog X.w X.K X.mg X.base sH k g fd ps sp)(hr:Zw (k+1) X.A)(hg:Gl X N)(hm:X.mg N=some (.ref C))(hb:Binds X.K fd ps [])(hx:l4 sH X E0)
  (ha:PA X (e::es) t) (hdb:(N==("__debug__" : Str))=false:=by decide) (he:starEach (e::es) X.env=(false,eval e X.env)::starEach es X.env:=by rfl) (hpl:(backTo pos (starEach es X.env)).any (·.1)=false:=by rfl) :
  PE X (.Call (.Name N p) (e::es) [] pos) (AO X.K N sp t):=λa b c d q I h=>Oc M F hr hg hm hb .nil hx ha hdb he hpl a b c d q I (h C hN)
end
end L2
namespace M
open PySem L2
section
variable {K:Zj}{S S' H H':Hp}
def G5:Zl->Zc->Str->Zd
 |n::ns,d::l,f=>if f=n then some d else G5 ns l f
 |_,_,_=>none
theorem JP:∀ {fs:List (Str×V)} {l:Zc} {f:Str} {d:D},Dens K S l (fs.map (·.2))->G5 (fs.map (·.1)) l f=some d->∃v,fs.lookup f=some v/\Den K S d v
 |[],l,f,d,h,e=>by
  cases l<;>simp[G5] at e
 | (n,v)::fs,l,f,d,h,e=>by
  cases l with
  |nil=>simp[G5] at e
  |cons a l=>
   obtain⟨y,ys,e1,h1,h2⟩:=h.cons_of;rw[Yo] at e1;cases e1;rw[Yo,G5] at e;by_cases hf:f=n
   ·rw[Yb hf] at e;cases e;exact⟨v,by simp[List.lookup,hf],h1⟩
   ·rw[X9 hf] at e;obtain⟨w,q1,q2⟩:=JP h2 e;have hb:(f==n)=false:=by simpa using hf
    exact⟨w,by simp[List.lookup,hb,q1],q2⟩
theorem JO:∀ {fs:List (Str×V)} {f:Str},(fs.map (·.1)).contains f=false->fs.lookup f=none
 |[],_,_=>rfl
 | (n,v)::fs,f,h=>by
  simp at h;have hb:(f==n)=false:=by simpa using h.1
  rw[List.lookup,hb];exact JO (~~~h.2)
@[simp]def Ur(Ns:Zl)(f:Str)(e:XE):XE:=λρ=>(e ρ).bind λd=>match d with|.ins N ns l=>if Ns.contains N then G5 ns l f else none|_=>none
def T4{Ns:Zl} {ta:TE} (h:SE K ta e):SE K (Mn K Ns ta f) (Ur Ns f e):=λρ σ S H Q d r x k=>by
 obtain⟨d0,q,x⟩:=ZO x;cases d0<;>try (cases x;done)
 rename_i N ns l;dsimp only at x;split at x
 ·rename_i hc;refine h ρ σ S H _ _ r q λv S1 H1 z1 d1=>?_;obtain⟨p,C,dx,fs,rfl,hC,h1,h2,h3⟩:=ZK.1 d1;subst h2;obtain⟨w,w1,w2⟩:=JP h3 x;exact⟨p,C,dx,fs,w,⟨rfl,⟨N,~~~hc,hC⟩,z1.sub _ _ h1⟩,w1,k w S1 H1 z1 w2⟩
 ·cases x
@[simp]def Dz(Ns:Zl)(m:Str)(g:Zb)(e:XE)(a:XA):XE:=λρ=>(e ρ).bind λd=>match d with|.ins N ns l=>if Ns.contains N && !ns.contains m then (a ρ).bind λds=>g (.ins N ns l::ds) else none|_=>none
def Rz{Ns:Zl} {n:Nat} {ta:TE} (h:SE K ta e)(ha:SA K t a)(hn:∀ρ ds,a ρ=some ds->ds.length=n):SE K (AQ K Ns m (bm K (n+1) g) ta t) (Dz Ns m (λds=>(g ds).map O.d) e a):=λρ σ S H Q d r x k=>by
 unfold Dz at x;cases q:e ρ with
 |none=>rw[q] at x;cases x
 |some d0=>
  rw[q] at x;dsimp only[Option.bind] at x;cases d0<;>try (cases x;done)
  rename_i N ns l;dsimp only at x;split at x
  ·rename_i hc;rw[Y3] at hc;cases qa:a ρ with
   |none=>rw[qa] at x;cases x
   |some ds=>
    rw[qa] at x;dsimp only at x;cases qg:g (.ins N ns l::ds) with
    |none=>rw[qg] at x;cases x
    |some o=>rw[qg] at x;cases x;refine h ρ σ S H _ _ r q λv S1 H1 z1 d1=>?_;obtain⟨p,C,dx,fs,rfl,hC,h1,h2,h3⟩:=ZK.1 d1;refine⟨p,C,dx,fs,⟨rfl,⟨N,~~~hc.1,hC⟩,z1.sub _ _ h1⟩,JO (by rw[h2];simpa using hc.2),?_⟩;refine ha ρ σ S1 H1 _ ds (r.ext z1) qa λvs S2 H2 z2 d2=>?_;have dd:Dens K S2 (.ins N ns l::ds) (.ref p::vs):=.cons (d1.mono z2.sh) d2;refine⟨by rw[Yk,<-d2.length,hn ρ ds qa],S2,_,o,z2.sub,dd,qg,λv fp S3 H3 z3 ow nd fr=>?_⟩;exact k v _ H3 ((z1.trans z2).trans (BM z3 fr)) (ow.den (nw λb hb=>(fr b hb).2) λb hb=>ue hb)
  ·cases x
def wQ(K:Zj)(Ns:Zl)(f:Str)(n:Nat)(mi:Zb):Sp:=λvs H Q _=>vs.length=n+1/\∃x rest C dx S ds d,vs=.ref x::rest/\H x=some (.ins C dx [])/\(∃N∈Ns,W.nsIn K mainGlobals N=some (some (.ref C)))/\S x=none/\Same S H/\Dens K S ds rest/\mi ds=some d /\
 ∀S' H' v,Ext S H S' H'->Den K S' d v->Q .non (bi H' x (.ins C dx [(f,v)]))
def NC:Zb
 |[d]=>some d
 |_=>none
def Kb{Ns:Zl}{f:Str} (hc:xi K Ns λC=>Cls K C/\NoAttr K C f) (h:wQ K Ns f 1 NC vs H Q E):TZ K (jS 0) (jS 1) f { nx:=λ_ H'=>Q .non H',rt:=Q } (L2.di N vs) H:=by
 obtain⟨_,x,rest,C,dx,S,ds,d,rfl,hx,⟨M,hM,hC⟩,nS,sub,dd,e,k⟩:=h
 match ds,e with
 |[d'],e=>cases e;obtain⟨v,ys,rfl,dv,dn⟩:=dd.cons_of;cases dn.nil_of;obtain⟨c,n⟩:=hc M hM C hC;exact⟨v,rfl,.ref x,rfl,x,C,dx,[],rfl,hx,c,n,by decide,k S H v (Ext.refl sub) dv⟩
def Gh{x:Addr}{ds:Zc} (s:Same S H)(h:Dens K S ds vs):Rl K (.lo::ds.map .sh) (some (.ref x)::vs.map some) S H:=by
 have hl:=h.length;refine⟨λ_=>none,λi=>if i=0 then some x else none,λ_=>[],?_⟩;have ge:∀(i:Nat) t,(Sl.lo::ds.map Sl.sh)[i]?=some t->(i=0/\t=.lo)\/∃d v,t=.sh d/\(some (V.ref x)::vs.map some)[i]?=some (some v)/\Den K S d v:=λi t ht=>by
  cases i with
  |zero=>cases ht;exact .inl ⟨rfl,rfl⟩
  |succ i=>
   rw[aab,YG] at ht;cases q:ds[i]? with
   |none=>rw[q] at ht;cases ht
   |some d=>rw[q] at ht;cases ht;obtain⟨v,e1,e2⟩:=h.get q;refine .inr ⟨d,v,rfl,?_,e2⟩;rw[aab,YG,e1];rfl
 exact {
  len:=by rw[Yk,Yk,Ye,Ye,hl]
  sub:=s
  sh:=λi d hi=>by
   rcases ge i _ hi with ⟨_,e⟩|⟨d',v,e,h1,h2⟩
   ·cases e
   ·cases e;exact⟨v,h1,h2⟩
  ow:=λi o hi=>by
   rcases ge i _ hi with ⟨_,e⟩|⟨d',v,e,h1,h2⟩
   ·cases e
   ·cases e
  dj:=λi j o o' _ hi _=>by
   rcases ge i _ hi with ⟨_,e⟩|⟨d',v,e,h1,h2⟩
   ·cases e
   ·cases e
  lo:=λi hi=>by
   rcases ge i _ hi with ⟨rfl,e⟩|⟨d',v,e,h1,h2⟩
   ·exact⟨x,rfl,rfl⟩
   ·cases e
  asub:=λb o e=>by cases e
  adis:=λb=>.inr (.inl rfl) }
def ND(xt:XT)(xe:XE)(ds:Zc):Zd:=if xt (.lo::ds.map .sh)=some false then xe (.lo::ds.map .sh) else none
def Kc{Ns:Zl}{f:Str}{te:TE}{xe:XE}{x:Addr}{rest:Za}{C dx:Addr}{ds:Zc}{d:D}{S H:Hp}{Dd:_}{Q:VK}(he:SE K te xe)(sub:Same S H)(dd:Dens K S ds rest)(hx:H x=some (.ins C dx []))(hc:∃N∈Ns,W.nsIn K mainGlobals N=some (some (.ref C)))(nS:S x=none)
  (e:xe (.lo::ds.map .sh)=some d) (hD:Dd=({ nx:=λ_ H'=>Q .non H',rt:=Q }:_)) (k:∀S' H' v,Ext S H S' H'->Den K S' d v->Q .non (bi H' x (.ins C dx [(f,v)]))) :
  qS (qR (wQ K Ns f 1 NC) [] E0 (eX (jS 0) (eX te mY))) Dd (some (.ref x)::rest.map some) H:=by
 subst hD;refine⟨.ref x,rfl,he _ _ S H _ d (Gh sub dd) e λv S1 H1 z1 d1=>?_⟩;refine⟨rfl,x,[v],C,dx,S1,[d],d,rfl,(z1.al x _ hx nS).1,hc,(z1.al x _ hx nS).2,z1.sub,.cons d1 .nil,rfl,λS2 H2 w z2 d2=>k S2 H2 w (z1.trans z2) d2⟩
def Kd{Ns:Zl} {n:Nat}{tt:TT} {te:TE} {N:Zl} (ht:ST K tt xt)(he:SE K te xe)(hN:N.length=n+1)(h:wQ K Ns f n (ND xt xe) vs H Q E) :
  OP (OM tt wY Gx) (qS (qR (wQ K Ns f 1 NC) [] E0 (eX (jS 0) (eX te mY)))) { nx:=λ_ H'=>Q .non H',rt:=Q } (L2.di N vs) H:=by
 obtain⟨hl,x,rest,C,dx,S,ds,d,rfl,hx,hc,nS,sub,dd,e,k⟩:=h;have es:L2.di N (.ref x::rest)=some (.ref x)::rest.map some:=by unfold L2.di;rw[hl,hN,Nat.sub_self];simp
 unfold ND at e;split at e
 ·rename_i q;rw[es];refine ht _ _ S H _ false (Gh sub dd) q λS1 H1 z1=>?_;rw[X9 Y4];exact Kc he z1.sub (dd.mono z1.sh) (z1.al x _ hx nS).1 hc (z1.al x _ hx nS).2 e rfl λS2 H2 w z2 d2=>k S2 H2 w (z1.trans z2) d2
 ·cases e
@[simp]def Dy(N f:Str)(mi:Zb)(a:XA):XE:=λρ=>((a ρ).bind mi).map λd=>.ins N [f] [d]
def Ry{Ns:Zl}{N:Str}{n:Nat} (hN:N∈Ns)(h:SA K t a)(hn:∀ρ ds,a ρ=some ds->ds.length=n):SE K (AO K N (wQ K Ns f n mi) t) (Dy N f mi a):=λρ σ S H Q d r x k C hC=>by
 unfold Dy at x;cases q:a ρ with
 |none=>rw[q] at x;cases x
 |some ds=>
  rw[q] at x;dsimp only[Option.bind] at x;cases q2:mi ds with
  |none=>rw[q2] at x;cases x
  |some d0=>
   rw[q2] at x;cases x;refine h ρ σ S H _ ds r q λvs S1 H1 z1 d1=>?_;intro x dx nx ndx nex;have s0:Same S1 (bi (bi H1 dx (.own x)) x (.ins C dx [])):=λb o e=>by have e':=z1.sub b o e;rw[aw (aN e' nx),aw (aN e' ndx)];exact e'
   have nS:S1 x=none:=z1.sub.free nx;refine⟨by rw[YK,Yk,<-d1.length,hn ρ ds q],x,vs,C,dx,S1,ds,d0,#v[YK],aA,⟨N,hN,hC⟩,nS,s0,d1,q2,λS2 H2 v z2 d2=>⟨rfl,?_⟩⟩;have hx2:=z2.al x _ aA nS
   have z3:Ext S1 H1 (bi S2 x (.ins C dx [(f,v)])) (bi H2 x (.ins C dx [(f,v)])):={
    sh:=λb o e=>by rw[aw (aN (z1.sub b o e) nx)];exact z2.sh b o e
    sub:=λb o e=>by
     by_cases hb:b=x
     ·subst hb;rw[aA] at e ⊢;exact e
     ·rw[aw hb] at e ⊢;exact z2.sub b o e
    alw:=λb o e ne=>by
     have hb:=aN e nx;rw[aw hb,aw hb]
     exact z2.alw b o (by rw[aw hb,aw (aN e ndx)];exact e) ne }
   refine k (.ref x) _ _ (z1.trans z3) (ZK.2 ⟨x,C,dx,[(f,v)],rfl,hC,aA,rfl,?_⟩);refine .cons (d2.mono λb o e=>?_) .nil;rw[aw (aN e hx2.2)];exact e
end
def rP:Zn->Int
 |[]=>0
 |[a]=>a
 |a::l=>min a (rP l)
def Hv(a b:Int)(l:Zn):rP (a::b::l)=min a (rP (b::l)):=rfl
theorem yH:∀(a:Int) (l:Zn),rP (a::l)∈a::l/\∀b∈a::l,rP (a::l)<=b
 |a,[]=>⟨Yg,λb hb=>by rw[Yp] at hb;subst hb;exact Yw _⟩
 |a,c::l=>by
  obtain⟨h1,h2⟩:=yH c l;rw[Hv];refine⟨?_,λb hb=>?_⟩
  ·rcases Int.le_total a (rP (c::l)) with h|h
   ·rw[Int.min_eq_left h];exact Yg
   ·rw[Int.min_eq_right h];exact Yn _ h1
  ·rcases Yj.1 hb with rfl|hb
   ·exact Int.min_le_left _ _
   ·exact Int.le_trans (Int.min_le_right _ _) (h2 b hb)
def Hw{ns:Zn}{m:Int}(h1:m∈ns)(h2:∀a,a∈ns->m<=a):rP ns=m:=by
 cases ns with
 |nil=>cases h1
 |cons a l=>obtain⟨k1,k2⟩:=yH a l;exact Int.le_antisymm (k2 m h1) (h2 _ k1)
end M
namespace L2
open PySem PySem.Spec PyProof.Rows
section
variable {prog:Program}{w:World}{A:Around}{E:Ze}{s:Shared}
def GS(a b c d:Value):argsOk "min" ⟨[a,b,c,d],[]⟩:=by unfold argsOk;kernel_rfl
def Hx{a b c d:Value}{Q:Ze}
  (h:wpAny (model prog w) A.in1 (pyIter (.ref s.heap.objs.size)) (λit s₂=>∃I fp wr n P St bt,it=.ref I/\Walks prog w A.in1 I fp wr n P St/\St 0 s₂.heap/\(∀b∈fp,b<s₂.heap.objs.size)/\0<n/\CmpOf prog w A.in1 .Lt P bt/\∀v h' tk,P (argBest bt (n-1)) v->(∀b o,b∉wr->s₂.heap.get? b=some o->h'.get? b=some o)->Q v { s₂ with heap:=h',toks:=tk }) E { s with heap:=s.heap.push { cls:=.type "tuple",data:=.seq #[a,b,c,d] } }) :
  wpAny (model prog w) A (call (.builtin "min") [a,b,c,d]) Q E s:=by
 have hname:(toString "min" ++ toString ".loop" : String)="min.loop" := by decide
 refine call_function_tree F.kind_min F.plain_min F.entry_min (GS _ _ _ _) ?_;show wpAny _ A.in1 (Builtin.Builtins.bindParams "min" ["key", "default"] 0 ⟨[],[]⟩ >>= _) _ _ s;refine X8 (aac (show Builtin.Builtins.bindParams "min" ["key", "default"] 0 ⟨[],[]⟩=pure [none,none] from rfl) ?_);show wpAny _ A.in1 (newTuple [a,b,c,d] >>= _) _ _ s;refine X8 (YZ ?_);refine X8 (aay h (λit s₂ h₂=>?_) λ_ _ e=>e);obtain⟨I,fp,wr,n,P,St,bt,rfl,W,hst,hfp,hn,hcmp,hQ⟩:=h₂;refine X8 (YZ ?_);have hSf:s₂.heap.objs.size∉fp:=λhm=>aa1 _ (hfp _ hm);rw[hname];refine Yc ⟨aba F.plain_min_loop _,codeAny_min_loop_first W bt hcmp s₂.heap.objs.size hSf hn (W.frame _ _ _ hst λb _ o e=>Yq _ e) (Yy _ rfl) λv h' tk hP hk=>?_⟩;exact hQ v h' tk hP λb o hbw e=>hk b o hbw (Yz (Ys e)) (Yq _ e)
def Ce{a b c d:Int}{t u x y:Tok}{Q:Ze}(hh:A.handled=none)(h:∀(h':Heap) (z:Tok) (tk:Nat),(∀b o,s.heap.get? b=some o->h'.get? b=some o)->Q (.int (M.rP [a,b,c,d]) z) { s with heap:=h',toks:=tk }) :
  wpAny (model prog w) A (call (.builtin "min") [.int a t,.int b u,.int c x,.int d y]) Q E s:=by
 have hT:(s.heap.push { cls:=.type "tuple",data:=.seq #[.int a t,.int b u,.int c x,.int d y] }).IsTuple s.heap.objs.size (intItems #[(a,t),(b,u),(c,x),(d,y)]):=⟨_,Yy _ rfl,rfl,0,by simp[intItems]⟩
 refine Hx (aew hT ?_);have hsz:(s.heap.push { cls:=.type "tuple",data:=.seq #[.int a t,.int b u,.int c x,.int d y] }).objs.size=s.heap.objs.size+1:=aaO ..;refine⟨_,[_,s.heap.objs.size],[_],_,_,_,_,rfl,Walks.tuple (A:=A.in1) hh _ s.heap.objs.size (by rw[hsz];exact Yz (aam _)) (intItems #[(a,t),(b,u),(c,x),(d,y)]),⟨⟨_,Yy _ rfl,rfl,rfl⟩,hT.push _⟩,λe hd=>?_,by simp[intItems],CmpOf.ints_lt (numAt #[(a,t),(b,u),(c,x),(d,y)]) (λ_ _=>intItems_at),λv h' tk hP hk=>?_⟩
 ·show e<((s.heap.push _).push _).objs.size;rw[aaO,hsz];rcases Yj.1 hd with rfl|hd
  ·rw[hsz];exact aam _
  ·rcases Yj.1 hd with rfl|hd
   ·exact abr (aam _)
   ·cases hd
 ·have hold:∀z o,s.heap.get? z=some o->h'.get? z=some o:=λz o e=>by
   refine hk z o (λhm=>?_) (Yq _ (Yq _ e));rcases Yj.1 hm with e1|hm
   ·have:=Ys e;rw[e1,hsz] at this;exact aa1 _ (aex this)
   ·cases hm
  have hP':(intItems #[(a,t),(b,u),(c,x),(d,y)])[argBest (λi j=>decide (numAt #[(a,t),(b,u),(c,x),(d,y)] i<numAt #[(a,t),(b,u),(c,x),(d,y)] j)) 3]?=some v:=by
   have hsz2:(intItems #[(a,t),(b,u),(c,x),(d,y)]).size-1=3:=by simp[intItems]
   rw[<-hsz2];exact hP
  obtain⟨z,rfl⟩:=intItems_at hP';obtain⟨h1,h2⟩:=argBest_lt (numAt #[(a,t),(b,u),(c,x),(d,y)]) 3;have em:M.rP [a,b,c,d]=numAt #[(a,t),(b,u),(c,x),(d,y)] (argBest (λi j=>decide (numAt #[(a,t),(b,u),(c,x),(d,y)] i<numAt #[(a,t),(b,u),(c,x),(d,y)] j)) 3):=by
   have k0:=h2 0 ();have k1:=h2 1 ();have k2:=h2 2 ();have k3:=h2 3 ();generalize hg:argBest (λi j=>decide (numAt #[(a,t),(b,u),(c,x),(d,y)] i<numAt #[(a,t),(b,u),(c,x),(d,y)] j)) 3=g at h1 k0 k1 k2 k3 ⊢;refine M.Hw ?_ λe he=>?_
   ·rcases (show g=0\/g=1\/g=2\/g=3 by lia) with rfl|rfl|rfl|rfl<;>simp[numAt]
   ·simp only[Yj,abb,abc] at he;rcases he with rfl|rfl|rfl|rfl
    ·exact k0
    ·exact k1
    ·exact k2
    ·exact k3
  rw[<-em];exact h h' z tk hold
end
def Pu:Za->Hp->VK->Prop:=λxs H Q=>∃a b c d,xs=[.int a,.int b,.int c,.int d]/\Q (.int (M.rP [a,b,c,d])) H
section
variable {X:Cx}
def GX(hc:X.calm=true):CallR X (.builtin "min") Pu:=by
 intro ZN s σ H xs us Q I r h;obtain⟨a,b,c,d,rfl,q⟩:=h;cases r with
 |cons r1 r=>cases r with
  |cons r2 r=>cases r with
   |cons r3 r=>cases r with
    |cons r4 r=>cases r;obtain⟨t,rfl⟩:=r1;obtain⟨t2,rfl⟩:=r2;obtain⟨t3,rfl⟩:=r3;obtain⟨t4,rfl⟩:=r4;exact Ce (I.ok.hd hc) λh' t tk k=>⟨.int (M.rP [a,b,c,d]),H,I.kept k,⟨t,rfl⟩,q⟩
end
end L2
namespace M
open PySem L2
def Wx:Zb
 |[.lst l]=>(aR l).bind λns=>if 0<ns.length then some (.int (rP ns)) else none
 |_=>none
def Jm:Zb
 |[.int a,.int b,.int c,.int d]=>some (.int (rP [a,b,c,d]))
 |_=>none
section
variable {K:Zj}
def Nq{a b c d:D} (h:ZM K S H [a,b,c,d] vs):∃v w x y,vs=[v,w,x,y]/\DenP K S H a v/\DenP K S H b w/\DenP K S H c x/\DenP K S H d y:=by
 cases h with
 |cons h1 h=>cases h with
  |cons h2 h=>cases h with
   |cons h3 h=>cases h with
    |cons h4 h=>cases h;exact⟨_,_,_,_,rfl,h1,h2,h3,h4⟩
def Qv:O4 K Pu Jm:=λS H vs ds g Q s d q k=>by
 rcases ds with _|⟨d0,ds⟩
 ·cases q
 cases d0<;>try (cases q;done)
 rcases ds with _|⟨d0,ds⟩
 ·cases q
 cases d0<;>try (cases q;done)
 rcases ds with _|⟨d0,ds⟩
 ·cases q
 cases d0<;>try (cases q;done)
 rcases ds with _|⟨d0,ds⟩
 ·cases q
 cases d0<;>try (cases q;done)
 cases ds<;>try (cases q;done)
 cases q;obtain⟨v,w,x,y,rfl,d1,d2,d3,d4⟩:=Nq d;exact⟨_,_,_,_,#v[d1.int,d2.int,d3.int,d4.int],k _ S H (Ext.refl s) (Zo.2 rfl)⟩
end
end M
namespace L2
open PySem
def bI{XN:Zl}{sc scope:Scope}{N:Zl}{js:List (Option Nat)}(h1:scope.kind=.function:=by rfl)(h2:∀y∈scope.names,y.2 ≠ .cell:=by decide +kernel)(h3:∀y∈scope.names,y.2=.free->sc.names.lookup y.1=some .cell\/sc.names.lookup y.1=some .free:=by decide +kernel)
  (h4:∀y∈scope.names,y.2=.local->scope.names.lookup y.1=some .local:=by decide +kernel) (h5:js.length=N.length:=by rfl) (h6:((N.zip js).all λp=>match p.2 with|none=>true|some j=>decide (XN[j]?=some p.1)&&decide (scope.names.lookup p.1=some .free))=true:=by decide +kernel):Zq XN sc scope N js:=⟨h1,h2,h3,h4,h5,h6⟩
end L2
namespace M
open PySem L2
def Bq:D->D->Zd:=dI λi j=>BV (0<=i/\0<=j) (some (.int ((i.toNat &&& j.toNat:Nat):Int))) none
def JA(neg:Bool):D->D->Zd
 |.int i,.lst l=>(aR l).map λns=>.bl (if neg then !ns.contains i else ns.contains i)
 |.int i,.tup l=>(aR l).map λns=>.bl (if neg then !ns.contains i else ns.contains i)
 |_,_=>none
@[simp]def V0(m:Zb)(e:D)(a:XA):XE:=λρ=>(a ρ).bind λds=>m (ds++[e])
section
variable {K:Zj}
def TJ:xZ K (CT λi j=>.int (Builtin.bitAnd i j)) Bq:=EH λi j d h=>by obtain⟨c,rfl⟩:=iI h;show some (V.int _)=some (V.int _);have e1:decide (0<=i)=true:=YI c.1;have e2:decide (0<=j)=true:=YI c.2;unfold Builtin.bitAnd;rw[e1,e2]
theorem vf(i:Int):∀ns:Zn,UD (.int i) (ns.map V.int)=ns.contains i
 |[]=>rfl
 |n::ns=>by
  have ih:=vf i ns;unfold UD at ih ⊢;rw[Yo,aaA,ih,acI];have:Nn (V.int n) (V.int i)=(i==n):=by
   show (n==i)=(i==n)
   rw[ach,aag,aag];exact⟨Eq.symm,Eq.symm⟩
  rw[this]
theorem rq:∀ns:Zn,(ns.map V.int).all pZ=true
 |[]=>rfl
 |n::ns=>by rw[Yo,adk,rq ns];rfl
def Vq(neg:Bool):xZ K (Vn K neg) (JA neg):=λS H x y d e z Q s dx dy q k=>by
 cases d<;>try (cases q;done)
 cases e<;>try (cases q;done)
 all_goals
  rename_i i l;have q':((aR l).map λns=>D.bl (if neg then !ns.contains i else ns.contains i))=some z:=q;rcases qi:aR l with _|ns<;>rw[qi] at q'<;>try (cases q';done)
  cases q';have ex:=dx.int;subst ex
 ·obtain⟨p,xs,rfl,h1,h2⟩:=dy.lst s;obtain⟨e,_⟩:=gb h2 qi;subst e;exact⟨p,_,rfl,.inl (.inl h1),rfl,rq ns,by rw[vf];exact k _ S H (Ext.refl s) (Zx.2 rfl)⟩
 ·obtain⟨p,xs,rfl,h1,h2⟩:=dy.tup s;obtain⟨e,_⟩:=gb h2 qi;subst e;exact⟨p,_,rfl,.inr h1,rfl,rq ns,by rw[vf];exact k _ S H (Ext.refl s) (Zx.2 rfl)⟩
end
end M
namespace L2
open PySem
structure FunD(K:Zj)(x qual:Str)(st:Stmt)(T:Addr)(f:Addr)(fd:FuncData):Prop where
 ex:∃(oc:Value) (od:Option Addr) (kV doc pm:Value) (an:Option Addr) (cdv ct:Value) (osl:Array (Zi)),fd=W.fnOf x qual (gz st) (cG st) (ap st) (.ref T) kV doc pm an cdv ct/\K.lookup f=some ⟨oc,od,.func fd,osl⟩/\W.codeIn K cdv qual=true
section
variable {P:Program}{w:World}{K:Zj}{mg:Zg}{base:Heap}
def FunD.ok{qual:Str}{st:Stmt} {fd:FuncData}{ps:Zl}{k:Nat}{sp:Sp}(F:FunD K x qual st T f fd)(S:ZB N ps (ap st))(len:∀vs H Q E,sp vs H Q E->vs.length=ps.length)
  (hb:∀(cdv:Value) (A:Around) (outer:List Env) (s:Shared) (H:Hp) (vs:Za) (Q:VK) (E:XK),Zw k (A.deeper (PyProof.Rows.envOfC qual (ap st) s.heap.objs.size f cdv))->sp vs H Q E->∃t,PSs (uP sH P w K mg base N qual (ap st) f cdv A outer s H E).nox (cG st) t/\t { nx:=λ_ H'=>Q .non H',rt:=Q } (di N vs) H):ZD P w K mg base sH (k+1) f fd ps sp:=by
 obtain⟨oc,od,kV,doc,pm,an,cdv,ct,osl,rfl,lk,hcd⟩:=F.ex;exact Pa lk hcd S len λA outer s H vs Q E hr hsp=>by obtain⟨t,h,q⟩:=hb cdv A outer s H vs Q E hr hsp;exact⟨t,h.nox,q⟩
end
end L2
namespace RevT
open PySem PySem.Calls PyProof.Rows
def Zr:Slot "reversed" "__next__" "reversed.__next__" := .of (owner := "reversed") (n := "__next__") (by rw[aar,aas];kernel_rfl) (by decide +kernel) (by decide +kernel) (by decide +kernel) (by first|exact .inl (by decide +kernel)|exact .inr (by decide +kernel)) (by rw[aaF];kernel_rfl)
def iH:entryFor table "reversed.__next__"=some Builtin.«reversed.__next__»:=acJ (by kernel_rfl)
def jW(a:Value):argsOk "reversed.__next__" ⟨[a],[]⟩:=by unfold argsOk;kernel_rfl
def km:Slot "reversed" "__iter__" "reversed.__iter__" := .of (owner := "reversed") (n := "__iter__") (by rw[aar,aas];kernel_rfl) (by decide +kernel) (by decide +kernel) (by decide +kernel) (by first|exact .inl (by decide +kernel)|exact .inr (by decide +kernel)) (by rw[aaF];kernel_rfl)
def re(a:Value):argsOk "reversed.__iter__" ⟨[a],[]⟩:=by unfold argsOk;kernel_rfl
def oU:entryFor table "reversed.__iter__"=some Builtin.«dict_keyiterator.__iter__»:=adu (id' := "dict_keyiterator.__iter__") (by kernel_rfl) (by first|rfl|decide +kernel|(unfold String.splitOn;simp +decide [String.splitOnAux])) (by decide +kernel) (by kernel_rfl)
def QY:typeLookup (.type "tuple") "__reversed__"=pure none:=by rw[aar,aas];kernel_rfl
def FP:typeLookup (.type "tuple") "__getitem__"=pure (some (.builtin "tuple.__getitem__")):=by rw[aar,aas];kernel_rfl
def NU:isSubtype (.type "tuple") (.type "dict")=pure false:=by rw[aaF];kernel_rfl
def sub_self:isSubtype (.type "reversed") (.type "reversed")=pure true:=by rw[aaF];kernel_rfl
def wu(t:Addr)(i:Int):Obj:={ cls:=.type "reversed",data:=.fields #[.ref t,rawInt i] }
def IsRev(h:Heap)(a t:Addr)(i:Int):Prop:=∃o,h.get? a=some o/\o.cls=.type "reversed" /\ o.data=.fields #[.ref t,rawInt i]
section
variable {prog:Program}{w:World}{A:Around}{E:Ze}{s:Shared}
def IsRev.typeIs{i:Int}(x:IsRev s.heap a t i):s.TypeIs (.ref a) "reversed" := let ⟨o,ho,hc,_⟩:=x;⟨o,ho,hc⟩
def Hz{it:Addr}{i:Nat} {x:Value}{Q:Zi->Shared->Prop}(hit:IsRev s.heap it t (i:Int))(ht:IsTup s.heap t items)(hx:items[i]?=some x)(hi:(i:Int)<2^62)
  (hQ:∀h' tk,IsRev h' it t ((i:Int)-1)->Heap.SameBut it s.heap h'->Q (some x) { s with heap:=h',toks:=tk }):wpAny (model prog w) A (pyNext (.ref it)) Q E s:=by
 obtain⟨o,ho,hc,hd⟩:=id hit;unfold pyNext;refine X8 (aa7 (aa4 (name:=Str.ofString "__next__") hit.typeIs Zr (aae Zr hit.typeIs iH ?_ (jW _))));unfold Builtin.«reversed.__next__»;refine X8 (aac (a:=(Value.ref it,[])) rfl ?_);try dsimp only
 refine X8 (aa3 ho hd (x:=.ref t) rfl ?_);refine X8 (aa3 ho hd (x:=rawInt (i:Int)) rfl ?_);show wpAny _ _ (if (i:Int)<0 then _ else _) _ _ s;rw[X9 ()];refine X8 (acK ht.typeIs FP ?_);rw[X9 (show ¬((some (Value.builtin "tuple.__getitem__")).isNone=true) from Y4)];refine X8 (wpAny_mkInt ?_);have p63:(2:Int)^63=9223372036854775808:=by decide
 have p62:(2:Int)^62=4611686018427387904:=by decide
 have hsz:=(abw.1 hx).1;have hix:seqIndex? (i:Int) items.size=some i:=by unfold seqIndex?;simp;lia
 refine X8 (aa7 (getItem_tuple (s:={ s with toks:=s.toks+1 }) (j:=i) ht () () hix hx ?_));dsimp only;refine X8 (aa3 (s:={ s with toks:=s.toks+1 }) ho hd (x:=rawInt (i:Int)) rfl ?_);show wpAny _ _ (setField (.ref it) 1 (rawInt ((i:Int)-1)) >>= _) _ _ _;refine X8 (abd (s:={ s with toks:=s.toks+1 }) ho hd (by simp) ?_);refine Yc ⟨x,rfl,Yc (hQ _ _ ?_ (abe ..))⟩;exact⟨_,aah _ ho (abx (aat hd _)),(aci ..).trans hc,by rw[aat hd];simp⟩
def vR{it:Addr}{Q:Zi->Shared->Prop}(hh:A.handled=none)(hit:IsRev s.heap it t (-1))(hQ:∀h',Heap.ExtBut it s.heap h'->Q none { s with heap:=h' }):wpAny (model prog w) A (pyNext (.ref it)) Q E s:=by
 obtain⟨o,ho,hc,hd⟩:=id hit;unfold pyNext;refine X8 (aa7 (aa4 (name:=Str.ofString "__next__") hit.typeIs Zr (aae Zr hit.typeIs iH ?_ (jW _))));unfold Builtin.«reversed.__next__»;refine X8 (aac (a:=(Value.ref it,[])) rfl ?_);try dsimp only
 refine X8 (aa3 ho hd (x:=.ref t) rfl ?_);refine X8 (aa3 ho hd (x:=rawInt (-1)) rfl ?_);show wpAny _ _ (if (-1:Int)<0 then _ else _) _ _ s;rw[Yb (by decide)];refine X8 (aao ?_);refine X8 ?_;refine X8 (abd ho hd (by simp) ?_);have ho':=aah (h:=s.heap) (Obj.mapFields (·.setIfInBounds 1 (rawInt (-1)))) ho (abx (aat hd _));have hd':=aat hd (·.setIfInBounds 1 (rawInt (-1)));refine abd (s:={ s with heap:=s.heap.update it (Obj.mapFields (·.setIfInBounds 1 (rawInt (-1)))) }) ho' hd' (by simp) ?_;first
 |show wpAny _ _ (newExc (.type "StopIteration") [] >>= _) _ _ _
 | (refine X8 ?_;show wpAny _ _ (newExc (.type "StopIteration") [] >>= _) _ _ _)
 refine X8 ?_;simp only[newExc,newTuple];refine X8 (YZ ?_ (by size_fits));refine X8 (m:=firstArgMember _ _) (aac (a:=Value.none) (by first|rfl|(simp only[firstArgMember];rfl)) ?_);refine YZ ?_ (by size_fits);simp only[raiseNew];refine X8 (acL ?_);first|rw[show A.in1.handled=none from hh]|rw[hh]
 refine X8 (Yc (aby ?_));refine X8 (abz (T := "StopIteration") (b:=true) ⟨_,Yy _ rfl,rfl⟩ adv ?_);exact Yc (hQ _ ((((abe ..).trans (abe ..)).extBut.push _).push _))
def yw{it:Addr}{i:Int}{Q:Ze}(hit:IsRev s.heap it t i)(h:Q (.ref it) s):wpAny (model prog w) A (pyIter (.ref it)) Q E s:=by refine acM hit.typeIs km (aae km hit.typeIs oU ?_ (re _));show wpAny _ _ (ret (.ref it)) _ _ s;exact Yc ⟨_,rfl, "reversed",_,hit.typeIs,Zr.lookup,h⟩
end
def F1:mroOf (.type "reversed")=pure [.type "reversed",.type "object"]:=by rw[mroOf_type];kernel_rfl
def Kr:typeLookup (.type "reversed") "__new__"=pure (some (.builtin "reversed.__new__")):=by rw[aar,aas];kernel_rfl
def Im:Slot "reversed" "__init__" "object.__init__" := .of (owner := "object") (n := "__init__") (by rw[aar,aas];kernel_rfl) (by decide +kernel) (by decide +kernel) (by decide +kernel) (by first|exact .inl (by decide +kernel)|exact .inr (by decide +kernel)) (by rw[aaF];kernel_rfl)
def DS:TypeCalled "reversed" "reversed.__new__" "object.__init__" := ⟨by decide +kernel,by decide +kernel,⟨_,_,F1⟩,madeBy_type F1 Kr (by decide +kernel),by decide +kernel,by rw[aaF];kernel_rfl,Im⟩
def AS(a:Value):checkTypeCall "reversed" ⟨[a],[]⟩=pure Unit.unit:=by kernel_rfl
def Ck(a:Value):checkBuiltinCall "reversed.__new__" ⟨[.type "reversed",a],[]⟩=pure Unit.unit:=by kernel_rfl
def G4:entryFor table "reversed.__new__"=some Builtin.«reversed.__new__»:=acJ (by kernel_rfl)
def zZ(a:Value):Builtin.SmallTypes.newClass "reversed" ⟨[.type "reversed",a],[]⟩=pure (.type "reversed",[a]):=by unfold Builtin.SmallTypes.newClass;simp only[isType,sub_self,pure_bind,Bool.not_true,acF,aaQ]
def Ht(t:Addr)(items:Array Value)(hz:(items.size:Int)<2^63):Meets (Builtin.«reversed.__new__» ⟨[.type "reversed",.ref t],[]⟩) (λ_ R s=>IsTup s.heap t items/\R (.ok (.ret (.ref s.heap.objs.size))) { s with heap:=s.heap.push (wu t ((items.size:Int)-1)),toks:=s.toks+1+1 }):=
 .of_wp λprog w A R s h=>by
  obtain⟨ht,h⟩:=h;unfold Builtin.«reversed.__new__»;refine X8 (aac (zZ _) ?_);try dsimp only
  refine X8 (aac (a:=Unit.unit) (by first|rfl|kernel_rfl) ?_);refine X8 (aac (a:=Unit.unit) (by first|rfl|kernel_rfl) ?_);try dsimp only
  refine X8 (acK ht.typeIs QY ?_);try dsimp only
  refine X8 (X8 (abz (T := "tuple") (b:=false) ht.typeIs NU ?_));rw[X9 Y4];refine X8 (acK ht.typeIs FP ?_);refine (show wpAny _ _ (pure true) _ _ _ from Yc ?_);show wpAny _ _ (if (!true)=true then _ else _) _ _ _;rw[X9 (by decide)];refine X8 (len_tuple ht hz ?_);show wpAny _ _ (Builtin.SmallTypes.newRecord (.type "reversed") [.ref t,rawInt ((items.size:Int)-1)] >>= _) _ _ _;refine X8 (YZ (data:=.fields #[.ref t,rawInt ((items.size:Int)-1)]) ?_ (by size_fits));exact Yc ⟨_,rfl,h⟩
def Jt{prog:Program} {s:Shared} {Q:Ze}(ht:IsTup s.heap t items)(hz:(items.size:Int)<2^63)
  (h:Q (.ref s.heap.objs.size) { s with heap:=s.heap.push (wu t ((items.size:Int)-1)),toks:=s.toks+1+1 }):wpAny (model prog w) A (call (.type "reversed") [.ref t]) Q E s:=
 callType_new DS (by decide) (AS _) (Ck _) (λobj=>F.args_object_init_2 obj _) G4 (Ht t items hz) ⟨ht,⟨_,Yy _ rfl,rfl⟩,h⟩
end RevT
namespace L2
open PySem PySem.Spec PyProof.Rows
def Wh(K:Zj)(a:Addr)(xs:Za):It:=
 ⟨λi H=>SqT K H a xs/\∃x,xs.reverse[i]?=some x,λi H x H'=>H'=H/\xs.reverse[i]?=some x,λi H=>SqT K H a xs/\xs.length=i⟩
def Td(K:Zj)(ta:TA):TI:=λσ H R=>ta σ H λvs H1=>∃a xs,vs=[.ref a]/\SqT K H1 a xs/\R (Wh K a xs) H1
section
variable {X:Cx}{tg:Expr}
def MB{P:Program}{w:World}{K:Zj}(a it:Addr)(xs:Za):Turn P w K tg (Wh K a xs) [it] it (λi h=>RevT.IsRev h it a ((xs.length:Int)-1-(i:Nat))) where
 mem:=by simp
 obj:=λi h st b hb=>by rw[Yp.1 hb];obtain⟨o,e,c,d⟩:=st;exact⟨o,e,λv z=>by rw[d] at z;cases z⟩
 keep:=λi h h' st k=>by obtain⟨o,e,r⟩:=st;exact⟨o,k it (by simp) _ e,r⟩
 item:=by
  intro X hP hw hK hc i ZN s σ H E I hf st hg;subst hP hw hK;obtain⟨hq,x,hx⟩:=hg;obtain⟨its,rv,p,hz⟩:=I.tuple hq;have hi:i<xs.length:=by have:=(Yx.1 hx).1;simpa using this
  have hx':xs[xs.length-1-i]?=some x:=by rw[adw hi] at hx;exact hx
  obtain⟨u,hu,ru⟩:=rv.get hx';obtain⟨f0,f1,f2,f3,f4,f5⟩:=hf it (by simp);have e:(xs.length:Int)-1-(i:Nat)=((xs.length-1-i:Nat):Int):=()
  have hn:(sizeLine:Nat)<2^60:=by rw[YA];decide
  have p62:(2:Int)^62=4611686018427387904:=by decide
  rw[e] at st;refine RevT.Hz st p (x:=u) (~~~hu) () λh' tk st' sb=>?_;have I1:Inv X ZN σ H { s with heap:=h',toks:=tk }:=I.turned (λb o hb e=>(sb.2 b hb).trans e) f0 f1 f3 f4 f5;have st2:RevT.IsRev h' it a ((xs.length:Int)-1-((i+1:Nat):Int)):=by
   have e2:(xs.length:Int)-1-((i+1:Nat):Int)=((xs.length-1-i:Nat):Int)-1:=()
   rw[e2];exact st'
  obtain⟨o,e,c,d⟩:=id st';exact⟨u,rfl,u9 (s:={ s with heap:=h',toks:=tk }) e c d (by decide) ⟨x,H,I1,ru,⟨rfl,hx⟩,st2,λb hb=>(hf b hb).1⟩⟩
 done:=by
  intro X hP hw hK hc i ZN s σ H E I hf st hg;subst hP hw hK;obtain⟨hq,hx⟩:=hg;obtain⟨f0,f1,f2,f3,f4,f5⟩:=hf it (by simp);have e:(xs.length:Int)-1-(i:Nat) = -1:=()
  rw[e] at st;exact RevT.vR (I.ok.hd hc) st λh' eb=>⟨rfl,I.turned (t':=s.toks) (λb o hb e=>eb b o hb e) f0 f1 f3 f4 f5⟩
 self:=λ_ _ _ _ _ st h=>RevT.yw st h
def Rb{a:Expr}{ta:TA}{p pos:Pos}(hg:Gl X "reversed") (hm:X.mg "reversed"=none) (ha:PA X [a] ta) (hs:starEach [a] X.env=[(false,eval a X.env)]:=by rfl):PI X tg (.Call (.Name "reversed" p) [a] [] pos) (Td X.K ta):=by
 intro ZN s σ H R I h;refine Call_ (kU I hg hm Bi (abo (bZ (ha pos ZN s σ H _ I h) λus s1 h1=>?_) hs rfl));obtain⟨vs,H1,I1,r1,t,xs,rfl,hq,q⟩:=h1;obtain⟨u,rfl,rx⟩:=GC r1;cases rx;obtain⟨its,rv,p,hz⟩:=I1.tuple hq;have ZQ:=rv.length;have hn:=o4;refine RevT.Jt p (by simp only[YF]<;>lia) ?_;have I2:Inv X ZN σ H1 { s1 with heap:=s1.heap.push (RevT.wu t ((its.toArray.size:Int)-1)),toks:=s1.toks+1+1 }:=I1.kept λb o e=>Yq _ e;have st:RevT.IsRev (s1.heap.push (RevT.wu t ((its.toArray.size:Int)-1))) s1.heap.objs.size t ((xs.length:Int)-1-((0:Nat):Int)):=by
  refine⟨_,Yy _ rfl,rfl,?_⟩;have e:(xs.length:Int)-1-((0:Nat):Int)=(its.toArray.size:Int)-1:=by simp[ZQ]
  rw[e];rfl
 refine RevT.yw (s:={ s1 with heap:=s1.heap.push (RevT.wu t ((its.toArray.size:Int)-1)),toks:=s1.toks+1+1 }) st ?_;refine⟨s1.heap.objs.size,[s1.heap.objs.size],_,_,H1,rfl,I2,MB t _ xs,st,λb hb=>?_,q⟩;rw[Yp.1 hb];exact I1.fpOk (Yi _) I1.fresh
end
end L2
namespace M
open PySem L2
section
variable {K:Zj}{S S' H H':Hp}
def TV:Zc->Option (Zc)
 |[.tup l]=>some l.reverse|_=>none
@[simp]def P5(a:XA):XA:=λρ=>(a ρ).bind TV
def Te(h:Qi K t a):SI K (Td K t) (P5 a):=λρ σ S H R l r x k=>by
 obtain⟨ds,q,x⟩:=ZO x;unfold TV at x;split at x
 ·rename_i l';cases x;refine h ρ σ S H _ _ r q λvs S1 H1 z1 d1=>?_;cases d1 with
  |cons a1 d1=>
   cases d1;rcases a1 with a1|⟨l2,_,_,e,_⟩
   ·obtain⟨p,xs,rfl,h1,h2⟩:=iG a1;refine⟨p,xs,rfl,aU z1.sub h1,k _ S1 H1 z1 λS' H' s1 s2=>⟨λi d hd=>?_,aU (s1.trans s2) h1,by rw[List.length_reverse];exact h2.length.symm⟩⟩;have hi:i<l'.length:=by have:=(Yx.1 hd).1;simpa using this
    rw[adw hi] at hd;obtain⟨y,e1,e2⟩:=h2.get hd;have hl:=h2.length;have e3:xs.reverse[i]?=some y:=by rw[adw ()];rw[<-e1];congr 2;lia
    refine⟨⟨aU (s1.trans s2) h1,y,e3⟩,λx H'' hy=>⟨hy.1,?_⟩⟩;have:=hy.2;rw[e3] at this;cases this;exact e2.mono s1
   ·cases e
 ·cases x
@[simp]def W1(ans:List (Str×Bool))(e:XE):XE:=λρ=>(e ρ).bind λd=>match d with|.ins N _ _=>(ans.lookup N).map .bl|_=>none
inductive RO where
 |rz (N:Str)|nx (ρ:Env)
abbrev XR:=Env->Option RO
variable {E:XK}
@[simp]def Wb:XR:=λρ=>some (.nx ρ)
@[simp]def US(N:Str):XR:=λ_=>some (.rz N)
@[simp]def X3(c:XT)(m n:XR):XR:=λρ=>(c ρ).bind λb=>if b=true then m ρ else n ρ
@[simp]def Xd(m n:XR):XR:=λρ=>(m ρ).bind λo=>match o with|.nx ρ'=>n ρ' | .rz N=>some (.rz N)
@[simp]def Wc(m:XR):XR:=λρ=>(m ρ).bind λo=>match o with|.nx _=>none|.rz N=>some (.rz N)
@[simp]def X7(m:Env->Option Str):XR:=λρ=>(m ρ).map .rz
@[simp]def V9(m:Zc->Option Str)(a:XA):Env->Option Str:=λρ=>(a ρ).bind m
def Pl(N:Str):List (List (Str×Bool))->Option (List Bool)
 |[]=>some []
 |a::l=>(a.lookup N).bind λb=>(Pl N l).map λbs=>b::bs
def J7(i:Nat)(N:Str):List (Nat×List (List (Str×Bool)))->Env->Option Env
 |[],ρ=>some ρ
 |p::l,ρ=>if p.1=i then none else (Pl N p.2).bind λbs=>if bs.length<=1000 then J7 i N l (ρ.set p.1 (.sh (.lst (bs.map .bl)))) else none
@[simp]def X1(L:Zl)(i:Nat)(m:XR)(l:List (Nat×List (List (Str×Bool)))):XS:=λρ=>if i<ρ.length then (m ρ).bind λo=>match o with
 |.rz N=>if L.contains N then (J7 i N l (ρ.map λ_=>.un)).map λρ'=>.nx (ρ'.set i .un) else none
 |.nx ρ'=>some (.nx ρ') else none
end
end M
namespace L2
open PySem PySem.Spec PyProof.Rows
def IM{P:Program}{w:World}{K:Zj}{tg:Expr}(it:Addr)(lo:Int)(n:Nat):Turn P w K tg (Qc lo n) [it] it (λi h=>IsLongIter h it (lo+(i:Nat)*1) ((n:Int)-(i:Nat)) 1) where
 mem:=by simp
 obj:=λi h st b hb=>by
  obtain rfl:b=it:=by simpa using hb
  refine⟨_,st,λv z=>?_⟩;have y:Data.fields _=Data.cell v:=z;cases y
 keep:=λi h h' st k=>k it (by simp) _ st
 item:=by intro X hP hw hK hc i ZN s σ H E I hf st hg;subst hP hw hK;have ⟨g0,g1,g2,g3,g4,g5⟩:=hf it (by simp);refine (Walks.longrange (prog:=X.prog) (w:=X.w) (I.ok.hd hc) it lo 1 n).item i s _ _ hg st λv h' tk hv st' kk=>?_;obtain⟨t,rfl⟩:=hv;have J:Inv X ZN σ H { s with heap:=h',toks:=tk }:=I.turned (λb o hb q=>kk b o (~~~hb) q) g0 g1 g3 g4 g5;exact⟨_,rfl,u9 (s:={ s with heap:=h',toks:=tk }) (n := "longrange_iterator") st' rfl rfl (by decide) ⟨.int (lo+i),H,J,⟨t,#v[Int.mul_one]⟩,⟨rfl,rfl⟩,st',λb hb=>(hf b hb).1⟩⟩
 done:=by intro X hP hw hK hc i ZN s σ H E I hf st hg;subst hP hw hK;have ⟨g0,g1,g2,g3,g4,g5⟩:=hf it (by simp);exact wpAny_pyNext_long_end (I.ok.hd hc) st (by have:n<=i:=hg;lia) λh' eb=>⟨rfl,I.turned (t':=s.toks) (λb o hb q=>eb b o hb q) g0 g1 g3 g4 g5⟩
 self:=λ_ _ _ _ _ st h=>wpAny_pyIter_longiter st h
section
variable {X:Cx}{tg:Expr}
def Ic{ZN:Zf} {R:It->Hp->Prop} {lo hi:Int}{t u v:Tok}{tk:Nat}(I:Inv X ZN σ H s)(q:R (Qc lo (hi-lo).toNat) H) :
  wpAny (model X.prog X.w) X.A (pyIter (.ref s.heap.objs.size)) (SH X ZN σ tg R) E { s with heap:=s.heap.push { cls:=.type "range",data:=.fields #[.int lo t,.int hi u,.int 1 v] },toks:=tk }:=by
 have J:Inv X ZN σ H { s with heap:=s.heap.push { cls:=.type "range",data:=.fields #[.int lo t,.int hi u,.int 1 v] },toks:=tk }:=I.kept λb o z=>Yq _ z;have hs:(((hi-lo).toNat:Nat):Int)-((0:Nat):Int)=Builtin.Range.rangeSize lo hi 1:=by rw[rangeSize_one];split<;>lia
 have h0:lo+((0:Nat):Int)*1=lo:=by simp
 cases hb:Builtin.Range.small lo hi 1 with
 |true=>
  refine ac5 (acv ..) hb ?_;refine⟨_,[(s.heap.push { cls:=.type "range",data:=.fields #[.int lo t,.int hi u,.int 1 v] }).objs.size],_,_,H,rfl,J.kept (t':=tk) λb o z=>Yq _ z,w5 _ lo (hi-lo).toNat,?_,λb hb=>?_,q⟩
  ·show IsRangeIter _ _ (lo+((0:Nat):Int)*1) ((((hi-lo).toNat:Nat):Int)-((0:Nat):Int)) 1;rw[h0,hs];exact Yy _ rfl
  ·have z:b=(s.heap.push { cls:=.type "range",data:=.fields #[.int lo t,.int hi u,.int 1 v] }).objs.size:=by simpa using hb
   subst z;exact J.fpOk (Yi _) (J.hok.fresh (Yi _))
 |false=>
  refine wpAny_pyIter_longrange (acv ..) hb ?_;refine⟨_,[(s.heap.push { cls:=.type "range",data:=.fields #[.int lo t,.int hi u,.int 1 v] }).objs.size],_,_,H,rfl,J.kept (t':=tk) λb o z=>Yq _ z,IM _ lo (hi-lo).toNat,?_,λb hb=>?_,q⟩
  ·show IsLongIter _ _ (lo+((0:Nat):Int)*1) ((((hi-lo).toNat:Nat):Int)-((0:Nat):Int)) 1;rw[h0,hs];exact Yy _ rfl
  ·have z:b=(s.heap.push { cls:=.type "range",data:=.fields #[.int lo t,.int hi u,.int 1 v] }).objs.size:=by simpa using hb
   subst z;exact J.fpOk (Yi _) (J.hok.fresh (Yi _))
def Pg(ta:TA):TI:=λσ H R=>ta σ H λvs H1=>∃i j:Int,vs=[.int i,.int j]/\R (Qc i (j-i).toNat) H1
def HQ{a b:Expr}{ta:TA}{p pos:Pos}(hg:Gl X "range") (hm:X.mg "range"=none) (ha:PA X [a,b] ta) (hs:starEach [a,b] X.env=[(false,eval a X.env),(false,eval b X.env)]:=by rfl) (hs2:starEach [b] X.env=[(false,eval b X.env)]:=by rfl) :
  PI X tg (.Call (.Name "range" p) [a,b] [] pos) (Pg ta):=by
 intro ZN s σ H R I h;refine Call_ (kU I hg hm ac6 (abo (bZ (ha pos ZN s σ H _ I h) λus s1 ZP=>?_) (#v[hs,hs2]) (by rw[hs2];rfl)));obtain⟨vs,H1,I1,r1,q1⟩:=ZP;obtain⟨i,j,rfl,q⟩:=q1;obtain⟨u1,u2,rfl,r,r'⟩:=Vals.two r1;obtain⟨t,rfl⟩:=r;obtain⟨t',rfl⟩:=r';exact call_range_2 (Ic I1 q)
end
end L2
namespace M
open PySem L2
section
variable {K:Zj}{S S' H H':Hp}
def Oq:Zc->Option (Zc)
 |[.int i,.int j]=>some (f8 i (j-i).toNat)
 |_=>none
@[simp]def MP(a:XA):XA:=λρ=>(a ρ).bind Oq
def QN{ta tb:TE} (h:SPk K ta a)(hb:SPk K tb b):SI K (Pg (eX ta (eX tb mY))) (MP (af a (af b aj))):=λρ σ S H R l r x k=>by
 obtain⟨ds,q,x⟩:=ZO x;obtain⟨d,e,qa,qb,rfl⟩:=ku q;obtain⟨d2,e2,qa2,qb2,rfl⟩:=ku qb;cases qb2;cases d<;>try (cases x;done)
 cases d2<;>try (cases x;done)
 cases x;refine h ρ σ S H _ _ r qa λv S1 H1 z1 d1=>hb ρ σ S1 H1 _ _ (r.ext z1) qa2 λw S2 H2 z2 d2=>?_;exact⟨_,_,#v[d1.int,d2.int],k _ S2 H2 (z1.trans z2) (zc _ _)⟩
def RL(x:Str):Zc:=x.cps.toList.map λc=>D.str ⟨#[c]⟩
def Xx:D->Option (Zc)
 |.str x=>some (RL x)
 |_=>none
@[simp]def XX(e:XE):XA:=λρ=>(e ρ).bind Xx
def Vb(d:D)(lo hi:Option Int):Zd:=match d with
 |.str x=>if x.length<=a9 then some (.str (Txt.slice x lo hi)) else none
 |_=>none
@[simp]def X0(a:XE)(lo hi:XO):XE:=λρ=>(a ρ).bind λd=>(lo ρ).bind λl=>(hi ρ).bind λh=>Vb d l h
def hJ:Zc->Option (List Bool)
 |[]=>some []
 |.bl b::l=>(hJ l).map λr=>b::r
 |_::_=>none
theorem uI:∀ {l:Zc} {bs:List Bool},hJ l=some bs->l=bs.map D.bl
 |[],bs,h=>by cases h;rfl
 |d::l,bs,h=>by
  cases d<;>try (cases h;done)
  rename_i b;have h:(hJ l).map (λr=>b::r)=some bs:=h;cases q:hJ l with
  |none=>rw[q] at h;cases h
  |some r=>rw[q] at h;cases h;rw[uI q];rfl
theorem Bu:∀ {bs:List Bool} {xs:Za},Dens K S (bs.map D.bl) xs->xs=bs.map V.bl
 |[],xs,h=>h
 |b::bs,xs,h=>by obtain⟨y,ys,rfl,a,r⟩:=h;rw[Zx.1 a,Bu r];rfl
end
end M
namespace L2
open PySem PySem.Spec PyProof.Rows
section
variable {X:Cx}
inductive PJ(X:Cx):List Expr->List TE->Prop
 |nil:PJ X [] []
 |cons {e:Expr} {t:TE} {es:List Expr} {ts:List TE}:PE X e t->PJ X es ts->PJ X (e::es) (t::ts)
end
end L2
namespace M
open PySem L2
section
variable {K:Zj}{S S' H H':Hp}
def Xg:D->Zd
 |.int i=>if i.natAbs.log2<1920 then some (.str (toString i)) else none
 |.str y=>if y.length<=a9 then some (.str y) else none
 |_=>none
@[simp]def X6(e:XE):XE:=λρ=>(e ρ).bind Xg
inductive SJ(K:W.Frag):List TE->List XE->Prop
 |nil:SJ K [] []
 |cons {t:TE} {a:XE} {ts:List TE} {as:List XE}:SPk K t a->SJ K ts as->SJ K (t::ts) (a::as)
end
section
variable {K:Zj}{S S' H H':Hp}{E:XK}
@[simp]def X4(m:XS):XR:=λρ=>match m ρ with|some (.nx ρ')=>some (.nx ρ')|_=>none
@[simp]def X5(n:Env->Option Str)(m:XS):XR:=λρ=>match n ρ with|some N=>some (.rz N)|none=>(match m ρ with|some (.nx ρ')=>some (.nx ρ')|_=>none)
@[simp]def V7(m:Env->Option Str):Env->Option Str:=m
@[simp]def V8(e:XE)(m:Env->Option Str):Env->Option Str:=λρ=>(e ρ).bind λ_=>m ρ
@[simp]def X2(n:Env->Option Str)(e:XE)(m:Env->Option Str):Env->Option Str:=λρ=>match n ρ with|some N=>some N|none=>(e ρ).bind λ_=>m ρ
@[simp]def Xb(i:Nat)(m:Env->Option Str):Env->Option Str:=λρ=>match ρ[i]? with|some (.ow (.lst _))=>m ρ|_=>none
def Jy(g:XG)(c:XT)(e:XE)(n:Env->Option Str)(ρ0:Env):Zc->Option Str
 |[]=>none
 |d::l=>(g d ρ0).bind λρ1=>(c ρ1).bind λb=>if b=true then (match n ρ1 with|some N=>some N|none=>(e ρ1).bind λ_=>Jy g c e n ρ0 l) else Jy g c e n ρ0 l
@[simp]def Wa(js:List (Option Nat))(w:XA)(g:XG)(c:XT)(e:XE)(n:Env->Option Str):Env->Option Str:=λρ=>(w ρ).bind λl=>if l.length<=a9 then Jy g c e n (tI js ρ) l else none
def Pm(g:XG)(m:XR):Zc->Env->Option RO
 |[],ρ=>some (.nx ρ)
 |d::l,ρ=>(g d ρ).bind λρ1=>(m ρ1).bind λo=>match o with|.nx ρ2=>Pm g m l ρ2|.rz N=>some (.rz N)
@[simp]def Xc(e:XA)(g:XG)(m:XR):XR:=λρ=>(e ρ).bind λl=>Pm g m l ρ
end
end M
namespace L2
open PySem
def E7{us:Zh}{n:Nat}(h:us.length=n+1):∃a v,us=a::v/\v.length=n:=by
 cases us with
 |nil=>cases h
 |cons a v=>exact⟨a,v,rfl,Nat.succ.inj h⟩
def XC{us:Zh}(h:us.length=1):∃a0,us=[a0]:=by
 obtain⟨a0,v0,rfl,h0⟩:=E7 h;cases v0 with
 |nil=>exact⟨a0,rfl⟩
 |cons a v=>cases h0
def Uh{us:Zh}(h:us.length=2):∃a0 a1,us=[a0,a1]:=by
 obtain⟨a0,v0,rfl,h0⟩:=E7 h;obtain⟨a1,v1,rfl,h1⟩:=E7 h0;cases v1 with
 |nil=>exact⟨a0,a1,rfl⟩
 |cons a v=>cases h1
def WE{us:Zh}(h:us.length=3):∃a0 a1 a2,us=[a0,a1,a2]:=by
 obtain⟨a0,v0,rfl,h0⟩:=E7 h;obtain⟨a1,v1,rfl,h1⟩:=E7 h0;obtain⟨a2,v2,rfl,h2⟩:=E7 h1;cases v2 with
 |nil=>exact⟨a0,a1,a2,rfl⟩
 |cons a v=>cases h2
def WF{us:Zh}(h:us.length=4):∃a0 a1 a2 a3,us=[a0,a1,a2,a3]:=by
 obtain⟨a0,v0,rfl,h0⟩:=E7 h;obtain⟨a1,v1,rfl,h1⟩:=E7 h0;obtain⟨a2,v2,rfl,h2⟩:=E7 h1;obtain⟨a3,v3,rfl,h3⟩:=E7 h2;cases v3 with
 |nil=>exact⟨a0,a1,a2,a3,rfl⟩
 |cons a v=>cases h3
def WG{us:Zh}(h:us.length=5):∃a0 a1 a2 a3 a4,us=[a0,a1,a2,a3,a4]:=by
 obtain⟨a0,v0,rfl,h0⟩:=E7 h;obtain⟨a1,v1,rfl,h1⟩:=E7 h0;obtain⟨a2,v2,rfl,h2⟩:=E7 h1;obtain⟨a3,v3,rfl,h3⟩:=E7 h2;obtain⟨a4,v4,rfl,h4⟩:=E7 h3;cases v4 with
 |nil=>exact⟨a0,a1,a2,a3,a4,rfl⟩
 |cons a v=>cases h4
def uN:xi K [] P:=λ_ h=>by cases h
def rm{P:Addr->Prop} {Ns:Zl}{c:Addr}(h:W.nsIn K mainGlobals N=some (some (.ref c)))(p:P c)(r:xi K Ns P):xi K (N::Ns) P:=λM hM C hC=>by
 rcases Yj.1 hM with rfl|hM
 ·rw[h] at hC;cases hC;exact p
 ·exact r M hM C hC
open PySem PySem.Spec PyProof.Rows
section
variable {κ:Type}[DecidableEq κ]
def lB(kvs:List (κ×V))(k:κ):Option V:=(kvs.find? λkv=>decide (kv.1=k)).map (·.2)
def je(kvs:List (κ×V))(k:κ)(v:V):List (κ×V):=
 if (kvs.any λkv=>decide (kv.1=k))=true then kvs.map (λkv=>if kv.1=k then (kv.1,v) else kv) else kvs++[(k,v)]
def yg(kvs:List (κ×V))(k:κ):List (κ×V):=kvs.filter λkv=>decide (kv.1≠k)
def m6{p:κ×V}{r:List (κ×V)}{k:κ}(e:p.1=k):lB (p::r) k=some p.2:=by simp[lB,abQ,e]
def m5{p:κ×V}{r:List (κ×V)}{k:κ}(e:¬p.1=k):lB (p::r) k=lB r k:=by simp[lB,abQ,e]
theorem qT(k:κ):∀kvs:List (κ×V),(kvs.any λkv=>decide (kv.1=k))=(lB kvs k).isSome
 |[]=>rfl
 |p::r=>by
  rw[aaA];by_cases e:p.1=k
  ·simp only[m6 e,YI e,Bool.true_or,Option.isSome_some]
  ·rw[m5 e,YB e,adx];exact qT k r
def jv(kvs:List (κ×V))(k:κ)(v:V):(je kvs k v).length<=kvs.length+1:=by
 unfold je;split
 ·rw[Ye];lia
 ·rw[Yl,Yk,abR];lia
def CS{kvs:List (κ×V)} (v:V)(h:lB kvs k=none):je kvs k v=kvs++[(k,v)]:=by unfold je;rw[qT,h];exact X9 (by decide)
def RelO.isSome_eq(r:RelO o u):o.isSome=u.isSome:=by
 cases o with
 |none=>cases u with
  |none=>rfl
  |some _=>exact (show False from r).elim
 |some _=>cases u with
  |none=>exact (show False from r).elim
  |some _=>rfl
def KV.val{kvs:List (κ×V)} (r:KV kvs vs)(k:κ):RelO (lB kvs k) (valueAt vs k):=by
 unfold KV at r;induction r with
 |nil=>exact True.intro
 | @cons p q ps qs h t ih=>
  obtain⟨h1,h2⟩:=h;by_cases e:p.1=k
  ·have e':q.1=k:=h1.symm.trans e;have b:valueAt (q::qs) k=some q.2:=by simp[valueAt,abQ,e']
   rw[m6 e,b];exact h2
  ·have e':¬q.1=k:=λz=>e (h1.trans z);have b:valueAt (q::qs) k=valueAt qs k:=by simp[valueAt,abQ,e']
   rw[m5 e,b];exact ih
def KV.any{kvs:List (κ×V)} (r:KV kvs vs)(k:κ):(kvs.any λkv=>decide (kv.1=k))=vs.any λkv=>decide (kv.1=k):=by
 unfold KV at r;induction r with
 |nil=>rfl
 |cons h t ih=>rw[aaA,aaA,ih,h.1]
def KV.repl{kvs:List (κ×V)} (r:KV kvs vs)(k:κ) (ry:RelV y u) :
  KV (kvs.map λkv=>if kv.1=k then (kv.1,y) else kv) (vs.map λkv=>if kv.1=k then (kv.1,u) else kv):=by
 unfold KV at r ⊢;induction r with
 |nil=>exact .nil
 | @cons p q ps qs h t ih=>
  rw[Yo,Yo];refine .cons ?_ ih;obtain⟨h1,h2⟩:=h;by_cases e:p.1=k
  ·rw[Yb e,Yb (h1.symm.trans e)];exact⟨h1,ry⟩
  ·rw[X9 e,X9 (λz=>e (h1.trans z))];exact⟨h1,h2⟩
def KV.put{kvs:List (κ×V)} (r:KV kvs vs)(k:κ) (ry:RelV y u):KV (je kvs k y) (stored vs k u):=by
 unfold je stored;rw[r.any k];by_cases e:(vs.any λkv=>decide (kv.1=k))=true
 ·rw[Yb e,Yb e];exact r.repl k ry
 ·rw[X9 e,X9 e];exact Paired.snoc r ⟨rfl,ry⟩
def KV.length{kvs:List (κ×V)} (r:KV kvs vs):kvs.length=vs.length:=abl r
def JI(kvs:List (κ×V))(k:κ):(yg kvs k).length<=kvs.length:=aaG _ _
end
def FT(r:RelV (kV k) u):(bh P w).is k u=true:=by
 cases k with
 |inl i=>obtain⟨t,e⟩:=(show ∃t,u=Value.int i t from r);subst e;exact Cf P w i t
 |inr x=>obtain⟨t,e⟩:=(show ∃t,u=Value.str x t from r);subst e;exact Cg P w x t
theorem yv:∀ {ks:List eN} {us:Zh},Vals (ks.map kV) us->ItemsAre (bh P w) ks us
 |[],_,r=>by rw[aa6] at r;cases r;exact .nil
 |k::ks,_,r=>by
  rw[Yo] at r;cases r with
  |cons h t=>exact .cons (FT h) (yv t)
abbrev KT(H:Hp):List (List eN×V)->List (List eN×Addr×Value)->Prop:=Paired λp q=>p.1=q.1/\H q.2.1=some (.tup (p.1.map kV))/\RelV p.2 q.2.2
def KT.val{kvs:List (List eN×V)}{xs:List (List eN×Addr×Value)}(r:KT H kvs xs)(k:List eN):RelO (lB kvs k) ((atKey xs k).map (·.2)):=by
 induction r with
 |nil=>exact True.intro
 | @cons p q ps qs h t ih=>
  obtain⟨h1,_,h2⟩:=h;by_cases e:p.1=k
  ·have e':q.1=k:=h1.symm.trans e;have b:atKey (q::qs) k=some q.2:=by simp[atKey,abQ,e']
   rw[m6 e,b];exact h2
  ·have e':¬q.1=k:=λz=>e (h1.trans z);have b:atKey (q::qs) k=atKey qs k:=by simp[atKey,abQ,e']
   rw[m5 e,b];exact ih
def KT.repl{kvs:List (List eN×V)}{xs:List (List eN×Addr×Value)}(r:KT H kvs xs)(k:List eN) (ry:RelV y u) :
  KT H (kvs.map λkv=>if kv.1=k then (kv.1,y) else kv) (xs.map (putAt k u)):=by
 induction r with
 |nil=>exact .nil
 | @cons p q ps qs h t ih=>
  rw[Yo,Yo];refine .cons ?_ ih;obtain⟨h1,h2,h3⟩:=h;unfold putAt;by_cases e:p.1=k
  ·rw[Yb e,Yb (h1.symm.trans e)];exact⟨h1,h2,ry⟩
  ·rw[X9 e,X9 (λz=>e (h1.trans z))];exact⟨h1,h2,h3⟩
def KT.put{kvs:List (List eN×V)}{xs:List (List eN×Addr×Value)}(r:KT H kvs xs)(k:List eN){b:Addr} (hb:H b=some (.tup (k.map kV)))(ry:RelV y u) :
  KT H (je kvs k y) (storedH xs k b u):=by
 have e:(kvs.any λkv=>decide (kv.1=k))=(atKey xs k).isSome:=by rw[qT,(r.val k).isSome_eq,ady]
 unfold je storedH;rw[e];by_cases q:(atKey xs k).isSome=true
 ·rw[Yb q,Yb q];exact r.repl k ry
 ·rw[X9 q,X9 q];exact Paired.snoc r ⟨rfl,hb,ry⟩
def KT.keeps{H':Hp}{kvs:List (List eN×V)}{xs:List (List eN×Addr×Value)}(r:KT H kvs xs)(ht:∀b ys,H b=some (.tup ys)->H' b=some (.tup ys)):KT H' kvs xs:=
 Paired.mapP r λ_ _ z=>⟨z.1,ht _ _ z.2.1,z.2.2⟩
section
variable {P:Program}{w:World}{H:Hp}{h:Heap}{a:Addr}
def yV(ok:HOk P w H h)(e:Rd H a u):ObjOk P w H h a u:=e.ok ok
def JG{kvs:List (eN×V)}(ok:HOk P w H h)(e:Rd H a (.dK kvs)):kvs.length<=sizeLine/\(a==sysModules)=false/\∃vs,KV kvs vs/\h.DictOf (bh P w) a vs:=
 show ObjOk P w H h a (.dK kvs) from yV ok e
def SZ{kvs:List (eN×V)}(ok:HOk P w H h)(e:H a=some (.dK kvs)):kvs.length<=sizeLine/\(a==sysModules)=false/\∃vs,KV kvs vs/\h.DictOf (bh P w) a vs:=JG ok (.inl e)
def rF{ks:List eN}(ok:HOk P w H h)(e:H a=some (.tup (ks.map kV))):(tupleKind (bh P w)).is h ks a:=by
 obtain⟨_,its,r,o,h1,h2,n,h3⟩:=(show ObjOk P w H h a (.tup (ks.map kV)) from ok a _ e)
 exact⟨o,its.toArray,n,h1,h2,h3,~~~yv r⟩
def JJ{kvs:List (List eN×V)}(ok:HOk P w H h)(e:Rd H a (.dT kvs)):kvs.length<=sizeLine/\(a==sysModules)=false /\
  ∃xs,KT H kvs xs/\h.DictOfH (tupleKind (bh P w)) a xs:=by
 obtain⟨z,y,xs,r,o,es,ep,h1,h2,h3,h4,h5⟩:=(show ObjOk P w H h a (.dT kvs) from yV ok e)
 refine⟨z,y,xs,r,o,es,ep,h1,h2,h3,h4,λx hx=>?_,h5⟩;have all:∀ {l:List (List eN×V)} {m:List (List eN×Addr×Value)},KT H l m->∀x∈m,(tupleKind (bh P w)).is h x.1 x.2.1:=by
  intro l m q;induction q with
  |nil=>intro x hx;exact nomatch hx
  | @cons p q ps qs hq t ih=>
   intro x hx;rcases Yj.1 hx with e|hx
   ·subst e;exact rF ok (by rw[<-hq.1];exact hq.2.1)
   ·exact ih x hx
 exact all r x hx
def FF{kvs:List (List eN×V)}(ok:HOk P w H h)(e:H a=some (.dT kvs)):kvs.length<=sizeLine/\(a==sysModules)=false /\
  ∃xs,KT H kvs xs/\h.DictOfH (tupleKind (bh P w)) a xs:=JJ ok (.inl e)
end
def M3(H:Hp)(a:Addr)(y:V)(r:Option V):Prop:=
 (∃kvs k,Rd H a (.dK kvs)/\y=kV k/\r=lB kvs k)\/∃kvs k b,Rd H a (.dT kvs)/\y=.ref b/\H b=some (.tup (k.map kV))/\r=lB kvs k
def Su(H:Hp)(a:Addr)(y v:V)(H':Hp):Prop:=
 (∃kvs k,H a=some (.dK kvs)/\y=kV k/\kvs.length<sizeLine/\H'=bi H a (.dK (je kvs k v))) \/
 ∃kvs k b,H a=some (.dT kvs)/\y=.ref b/\H b=some (.tup (k.map kV))/\kvs.length<sizeLine/\H'=bi H a (.dT (je kvs k v))
section
variable {X:Cx}{ZN:Zf}{σ:St}{H:Hp}{s:Shared}{a:Addr}{y v:V}{u r:Value}{o:Option V}{A:Around}{E:Ze}
def Inv.big(I:Inv X ZN σ H s):sysModules<s.heap.objs.size:=by have h:mainGlobals<s.heap.objs.size:=(I.mod.glob.keeps I.bk).lt;exact abO (by decide) h
def Vc{Q:Ze}(hu:A.units+1<cLine)(I:Inv X ZN σ H s)(g:M3 H a y o)(ry:RelV y u)(h:∀s',Inv X ZN σ H s'->Q (.bool o.isSome) s') :
  wpAny (model X.prog X.w) A (compareOp .In u (.ref a)) Q E s:=by
 rcases g with ⟨kvs,k,e,ey,l⟩|⟨kvs,k,b,e,ey,eb,l⟩
 ·subst ey;obtain⟨z,hd,vs,rel,dd⟩:=JG I.hok e;refine wpAny_in_of (FT ry) hd dd.mapOf ?_;rw[<-(rel.val k).isSome_eq,<-l];exact h _ (I.tok _)
 ·subst ey;cases (show u=Value.ref b from ry);obtain⟨z,hd,xs,rel,dd⟩:=JJ I.hok e;refine wpAny_in_heap (acj hu) (rF I.hok eb) hd dd ?_;have q:=(rel.val k).isSome_eq;rw[ady] at q;rw[<-q,<-l];exact h _ (I.tok _)
def Ni{Q:Ze}(hu:A.units+1<cLine)(I:Inv X ZN σ H s)(g:M3 H a y o)(ry:RelV y u)(h:∀s',Inv X ZN σ H s'->Q (.bool (!o.isSome)) s') :
  wpAny (model X.prog X.w) A (compareOp .NotIn u (.ref a)) Q E s:=by
 rcases g with ⟨kvs,k,e,ey,l⟩|⟨kvs,k,b,e,ey,eb,l⟩
 ·subst ey;obtain⟨z,hd,vs,rel,dd⟩:=JG I.hok e;refine wpAny_notIn_of (FT ry) hd dd.mapOf ?_;rw[<-(rel.val k).isSome_eq,<-l];exact h _ (I.tok _)
 ·subst ey;cases (show u=Value.ref b from ry);obtain⟨z,hd,xs,rel,dd⟩:=JJ I.hok e;refine wpAny_notIn_heap (acj hu) (rF I.hok eb) hd dd ?_;have q:=(rel.val k).isSome_eq;rw[ady] at q;rw[<-q,<-l];exact h _ (I.tok _)
def pV{h':Heap}{t':Nat} (I:Inv X ZN σ H s)(mu:Sy (H a))(hs:Heap.SameBut a s.heap h')(he:∃q,h'.get? a=some q)(new:ObjOk X.prog X.w (bi H a ob) h' a ob) :
  Inv X ZN σ (bi H a ob) { s with heap:=h',toks:=t' }:=
 I.write (x:=a) (e:=a) mu (.inl rfl) (λb q hb z=>(hs.2 b hb).trans z) he new
def QE{H':Hp}{h':Heap}{kvs:List (eN×V)} (z:kvs.length<=sizeLine)(hd:(a==sysModules)=false)(rel:KV kvs vs)(dd:h'.DictOf (bh P w) a vs) :
  ObjOk P w H' h' a (.dK kvs):=⟨z,hd,vs,rel,dd⟩
def G2{H':Hp}{Q:Unit->Shared->Prop}(hu:A.units+1<cLine)(I:Inv X ZN σ H s)(g:Su H a y v H')(ry:RelV y u)(rv:RelV v r)(h:∀s',Inv X ZN σ H' s'->Q Unit.unit s') :
  wpAny (model X.prog X.w) A (setItem (.ref a) u r) Q E s:=by
 rcases g with ⟨kvs,k,e,ey,l,eH⟩|⟨kvs,k,b,e,ey,eb,l,eH⟩
 ·subst ey eH;obtain⟨z,hd,vs,rel,dd⟩:=SZ I.hok e;have hz:vs.length<=sizeLine:=by rw[<-rel.length];exact z
  have hl:(je kvs k v).length<=sizeLine:=by have:=jv kvs k v;lia
  refine wpAny_setItem_pairs (hsz:=hz) (FT ry) dd λh' dd' hs=>h _ ?_;have he:∃q,h'.get? a=some q:=let ⟨q,_,_,hq,_⟩:=dd';⟨q,hq⟩
  exact pV I (by rw[e];exact True.intro) hs he (QE hl hd (rel.put k rv) dd')
 ·subst ey eH;cases (show u=Value.ref b from ry);obtain⟨z,hd,xs,rel,dd⟩:=FF I.hok e;have hz:xs.length<=sizeLine:=by rw[<-abl rel];exact z
  have hl:(je kvs k v).length<=sizeLine:=by have:=jv kvs k v;lia
  refine wpAny_setItem_heap (hsz:=hz) (acj hu) (rF I.hok eb) dd λh' dd' hs=>h _ ?_;obtain⟨q,es,ep,hq,h2,h3,h4,_,h5⟩:=dd';refine pV I (by rw[e];exact True.intro) hs ⟨q,hq⟩ ⟨hl,hd,_,(rel.put k eb rv).keeps λc ys ec=>?_,q,es,ep,hq,h2,h3,h4,h5⟩;rw[aw (yK ec e (λz=>nomatch z))];exact ec
end
def Uf(ty td:TE):TE:=λσ H Q=>ty σ H λy H1=>td σ H1 λx H2=>∃a o,x=.ref a/\M3 H2 a y o/\Q (.bl o.isSome) H2
def Gw(ty td:TE):TE:=λσ H Q=>ty σ H λy H1=>td σ H1 λx H2=>∃a o,x=.ref a/\M3 H2 a y o/\Q (.bl (!o.isSome)) H2
def PF(td ty tv:TE):TS:=λD σ H=>tv σ H λv H1=>td σ H1 λx H2=>ty σ H2 λy H3=>∃a H4,x=.ref a/\Su H3 a y v H4/\D.nx σ H4
section
variable {X:Cx}{o i e value:Expr}{pos pos' tpos:Pos}{td ty tv:TE}
def KY(hu:X.A.units+1<cLine)(hi:PE X i ty)(ho:PE X o td):PC X .In i o (Uf ty td):=by intro ZN s σ H Q I h;refine bZ (hi ZN s σ H _ I h) λiv s1 ⟨y,H1,I1,ry,q1⟩=>bZ (ho ZN s1 σ H1 _ I1 q1) λu s2 ZP=>?_;obtain⟨x,H2,I2,rx,a,ov,ex,g,q2⟩:=ZP;subst ex;obtain rfl:u=Value.ref a:=rx;exact Vc hu I2 g ry λs3 I3=>⟨.bl ov.isSome,H2,I3,rfl,q2⟩
def rZ(hu:X.A.units+1<cLine)(hi:PE X i ty)(ho:PE X o td):PC X .NotIn i o (Gw ty td):=by intro ZN s σ H Q I h;refine bZ (hi ZN s σ H _ I h) λiv s1 ⟨y,H1,I1,ry,q1⟩=>bZ (ho ZN s1 σ H1 _ I1 q1) λu s2 ZP=>?_;obtain⟨x,H2,I2,rx,a,ov,ex,g,q2⟩:=ZP;subst ex;obtain rfl:u=Value.ref a:=rx;exact Ni hu I2 g ry λs3 I3=>⟨.bl (!ov.isSome),H2,I3,rfl,q2⟩
def Oj(hu:X.A.units+1<cLine)(ho:PE X o td)(hi:PE X i ty)(hv:PE X value tv)(hs:swapsWith value (some (.Subscript o i pos')) pos.line X.env=pure false) :
  PS X (.Assign [.Subscript o i pos'] value pos) (PF td ty tv):=by
 intro ZN s σ H D I h;refine wpAny_Assign_Subscript (bZ (hv ZN s σ H _ I h) λr s1 ⟨v,H1,I1,rv,q1⟩=>bZ (ho ZN s1 σ H1 _ I1 q1) λu s2 ⟨x,H2,I2,rx,q2⟩=>bZ (hi ZN s2 σ H2 _ I2 q2) λiv s3 ZP=>?_) hs;obtain⟨y,H3,I3,ry,a,H4,ex,g,q3⟩:=ZP;subst ex;obtain rfl:u=Value.ref a:=rx;exact G2 hu I3 g ry rv λs4 I4=>⟨σ,H4,I4,q3⟩
end
def uV(h:Heap)(hb:sysModules<h.objs.size):ObjOk P w H (h.push { cls:=.type "dict",data:=.dict #[] }) h.objs.size (.dT []):=
 ⟨YR _,ab2.2 (YN (Yz hb)),[],.nil,_,#[],0,Yy _ rfl,⟨rfl,rfl,rfl⟩,rfl,rfl,acN⟩
def Mm:TE:=λ_ H Q=>∀p,H p=none->Q (.ref p) (bi H p (.dT []))
section
variable {X:Cx}{pos:Pos}
def K0:PE X (.Dict [] [] pos) Mm:=λZN s σ H Q I h=>
 wpAny_Dict_empty ⟨.ref s.heap.objs.size,_,I.laid (a:=s.heap.objs.size) (o:=.dT []) (t':=s.toks) (λ_ _ q=>Yq _ q) (Yi _) (uV s.heap I.big),rfl,h _ (I.hok.fresh (Yi _))⟩
end
def E4:List (TE×TE)->St->Hp->(List (V×V)->Hp->Prop)->Prop
 |[],_,H,Q=>Q [] H
 | (tk,tv)::r,σ,H,Q=>tk σ H λx H1=>tv σ H1 λy H2=>E4 r σ H2 λps H3=>Q ((x,y)::ps) H3
abbrev VV:List (V×V)->List (Value×Value)->Prop:=Paired λp q=>RelV p.1 q.1/\RelV p.2 q.2
def UZ(X:Cx)(pos:Pos)(keys:List (Option Expr))(values:List Expr)(trs:List (TE×TE)):Prop:=
 ∀(ZN:Zf) (s:Shared) (σ:St) (H:Hp) (Q:List (V×V)->Hp->Prop),Inv X ZN σ H s->E4 trs σ H Q ->
  wpAny (model X.prog X.w) X.A (evalPairs (pairTrees keys values X.env pos)) (λvs s'=>∃ps H',Inv X ZN σ H' s'/\VV ps vs/\Q ps H') X.xe s
def Oi{pos:Pos}:UZ X pos [] [] []:=λZN s σ H Q I h=>pairTrees_nil_walk ⟨[],H,I,.nil,h⟩
def Li{pos:Pos} {ks:List (Option Expr)} {tk tv:TE} (hk:PE X k tk)(hv:PE X v tv)(hr:UZ X pos ks vs trs) :
  UZ X pos (some k::ks) (v::vs) ((tk,tv)::trs):=λZN s σ H Q I h=>
 pairTrees_cons_walk (bZ (hk ZN s σ H _ I h) λu s1 ⟨x,H1,I1,rx,q1⟩=>bZ (hv ZN s1 σ H1 _ I1 q1) λw2 s2 ⟨y,H2,I2,ry,q2⟩=>
  bZ (hr ZN s2 σ H2 _ I2 q2) λws s3 ⟨ps,H3,I3,rel,q3⟩=>⟨(x,y)::ps,H3,I3,.cons ⟨rx,ry⟩ rel,q3⟩)
end L2
namespace PySem
namespace DX
def zR:typeLookup (.type "list") "keys"=pure none:=by rw[aar,aas];kernel_rfl
def Ee:typeLookup (.type "list") "__getattr__"=pure none:=by rw[aar,aas];kernel_rfl
def oB:isSubtype (.type "AttributeError") (.type "AttributeError")=pure true:=by rw[aaF];kernel_rfl
def D2:((Manifest.find? "AttributeError").elim false λt=>t.mro.contains "StopIteration" || t.mro.contains "SystemExit")=false:=by first|rfl|kernel_rfl|decide +kernel
section
variable {prog:Program}{w:World}{A:Around}{E:Ze}{s:Shared}{a:Addr}{its:Array Value}{n:Nat}{α:Type}
def Ib{msg nm:Str} (hh:A.handled=none)(hm:msg.length<=sizeLine)(hq:∀h' tk' e oe,(∀b o,s.heap.get? b=some o->h'.get? b=some o)->h'.get? e=some oe->oe.cls=.type "AttributeError" -> E (.ref e) { s with heap:=h',toks:=tk' }) :
  wpAny (model prog w) A (raiseAttrError (.ref a) nm msg:Sem α) Q E s:=by
 unfold raiseAttrError;refine X8 (wpAny_mkStr (X8 ?_) hm);unfold newExc newTuple;refine X8 (YZ ?_ (by size_fits));refine X8 (m:=firstArgMember _ _) (aac (a:=Value.none) (by simp only[firstArgMember,D2];rfl) ?_);refine YZ ?_ (by size_fits);refine X8 (wpAny_mkText ?_);refine X8 ?_;have f1:=oB;unfold noteAttr lacksNameAndObj;have ho:=Yy (s.heap.push { cls:=.type "tuple",data:=.seq [Value.str msg s.toks].toArray }) (o:={ cls:=.type "AttributeError",data:=.fields (#[.ref s.heap.objs.size,.none,.none,.none,.bool false,.none]++ownMembersOf (.type "AttributeError") [Value.str msg s.toks]) }) rfl;have hT:({ s with heap:=(s.heap.push { cls:=.type "tuple",data:=.seq [Value.str msg s.toks].toArray }).push { cls:=.type "AttributeError",data:=.fields (#[.ref s.heap.objs.size,.none,.none,.none,.bool false,.none]++ownMembersOf (.type "AttributeError") [Value.str msg s.toks]) } }:Shared).TypeIs (.ref (s.heap.push { cls:=.type "tuple",data:=.seq [Value.str msg s.toks].toArray }).objs.size) "AttributeError" := ⟨_,ho,rfl⟩
 repeat (any_goals (first|assumption|wp_step))
 unfold raiseNew;refine X8 (acL ?_);rw[hh]
 first
  |refine aby ?_
  |refine X8 (Yc (aby ?_))
 have hu:=aah (Obj.mapFields λvs=>vs.extract 0 6 ++ #[Value.str nm s.toks,.ref a]) ho (abx (aat rfl _));refine hq _ _ _ _ (λb o hb=>?_) (aah _ ho (abx (aat rfl _))) (aci _ _);rw[adj _ _ (abF (YT (Ys hb) (by simp)))];exact Yq _ (Yq _ hb)
def tK{tk:Tok} (hh:A.handled=none)(hx:s.heap.get? a=some { cls:=.type "list",data:=.seq its n }) (hq:∀h' tk' e oe,(∀b o,s.heap.get? b=some o->h'.get? b=some o)->h'.get? e=some oe->oe.cls=.type "AttributeError" -> E (.ref e) { s with heap:=h',toks:=tk' }) :
  wpAny (model prog w) A (Builtin.«object.__getattribute__» ⟨[.ref a,.str "keys" tk],[]⟩) Q E s:=by
 obtain⟨h,g,d,t,os⟩:=s;have hT:(⟨h,g,d,t,os⟩:Shared).TypeIs (.ref a) "list" := ⟨_,hx,rfl⟩
 have f4:=zR
 repeat (any_goals (first|assumption|wp_step))
 all_goals (try dsimp only)
 repeat (any_goals (first|assumption|wp_step))
 exact Ib hh (by rw[YA];decide +kernel) hq
def yA{Q:Zi->Shared->Prop}(hh:A.handled=none)(hx:s.heap.get? a=some { cls:=.type "list",data:=.seq its n }) (hq:∀h' tk',(∀b o,s.heap.get? b=some o->h'.get? b=some o)->Q none { s with heap:=h',toks:=tk' }) :
  wpAny (model prog w) A (getAttr? (.ref a) "keys") Q E s:=by
 obtain⟨h,g,d,t,os⟩:=s;have hT:(⟨h,g,d,t,os⟩:Shared).TypeIs (.ref a) "list" := ⟨_,hx,rfl⟩
 have f2:=acO.lookup;have f3:=acO.bind (.ref a);have f5:=Ee;have f6:=oB;unfold getAttr? getAttrBy? getAttrBy getAttrByItsOwn callGetattribute boundAndCalled
 repeat (any_goals (first|assumption|wp_step))
 refine acP acO.plain F.entry_list_ga (acO.check _ _ _ _ _ _ _ _ hT (F.args_list_getattribute_2 _ _) (tK (by exact hh) hx λh' tk' e oe hk he hc=>?_));have hTe:(⟨h',g,d,tk',os⟩:Shared).TypeIs (.ref e) "AttributeError" := ⟨oe,he,hc⟩
 dsimp only;unfold getattributeRaised;refine X8 (abz (T := "AttributeError") (b:=true) hTe f6 ?_);rw[Yb rfl];refine X8 ?_;unfold hookBehind;rw[X9 (by decide)];refine aac f5 ?_;unfold hookOrError;dsimp only;unfold attributeErrorLeaves;simp only[Bool.not_false,abq]
 first
  |refine aby ?_
  |refine X8 (aby ?_)
 refine X8 (abz (T := "AttributeError") (b:=true) hTe f6 ?_);rw[Yb rfl];exact Yc (hq h' tk' hk)
end
def uW:entryFor table "dict.update.loop"=some Builtin.«dict.update.loop»:=acJ (by kernel_rfl)
def iX:plainId "dict.update.loop"=true:=by decide +kernel
end DX
end PySem
namespace L2
open PySem PySem.Spec PyProof.Rows
section
variable {X:Cx}{ZN:Zf}{σ:St}{H:Hp}{s:Shared}{a b:Addr}{kvs:List (List eN×V)}{k:List eN}{v:V}{r:Value}{A:Around}{E:Ze}
def FE{Q:Unit->Shared->Prop}(hu:(tupleKind (bh X.prog X.w)).room A)(I:Inv X ZN σ H s)(e:H a=some (.dT kvs))(eb:H b=some (.tup (k.map kV)))(l:kvs.length<sizeLine)(rv:RelV v r)
  (h:∀s',Inv X ZN σ (bi H a (.dT (je kvs k v))) s'->Q Unit.unit s'):wpAny (model X.prog X.w) A (dictSet a (.ref b) r) Q E s:=by
 obtain⟨z,hd,xs,rel,dd⟩:=FF I.hok e;have hz:xs.length<=sizeLine:=by rw[<-abl rel];exact z
 have hl:(je kvs k v).length<=sizeLine:=by have:=jv kvs k v;lia
 refine wpAny_dictSet_heap (hsz:=hz) hu (rF I.hok eb) dd λh' dd' hs=>h _ ?_;obtain⟨q,es,ep,hq,h2,h3,h4,_,h5⟩:=dd';refine pV I (by rw[e];exact True.intro) hs ⟨q,hq⟩ ⟨hl,hd,_,(rel.put k eb rv).keeps λc ys ec=>?_,q,es,ep,hq,h2,h3,h4,h5⟩;rw[aw (yK ec e (λz=>nomatch z))];exact ec
end
def E3(tk tv:TE):TE:=λσ H Q=>∀p,H p=none->E4 [(tk,tv)] σ (bi H p (.dT [])) λps H2=>∃b ks y,ps=[(V.ref b,y)]/\H2 b=some (.tup (ks.map kV))/\H2 p=some (.dT [])/\Q (.ref p) (bi H2 p (.dT [(ks,y)]))
def KZ{X:Cx}{pos:Pos} {tk tv:TE}(hu:(tupleKind (bh X.prog X.w)).room X.A)(hk:PE X k tk)(hv:PE X v tv):PE X (.Dict [some k] [v] pos) (E3 tk tv):=by
 intro ZN s σ H Q I q;have hn:=I.hok.fresh (Yi s.heap.objs.size);have I1:=I.laid (a:=s.heap.objs.size) (o:=.dT []) (h':=s.heap.push { cls:=.type "dict",data:=.dict #[] }) (t':=s.toks) (λ_ _ q=>Yq _ q) (Yi _) (uV s.heap I.big);have hne:pairTrees [some k] [v] X.env pos≠[]:=λe=>by have:=pairTrees_length [some k] [v] X.env pos rfl rfl;rw[e] at this;cases this
 have ZQ:(pairTrees [some k] [v] X.env pos).length<=15:=by rw[pairTrees_length [some k] [v] X.env pos rfl rfl];show 1<=15;decide
 rw[arm_eval_Dict,zip_pairTrees [some k] [v] X.env pos rfl rfl,dictDisplay_pairs _ hne ()];refine X8 (acu (X8 ?_));unfold subDict;refine X8 (wpAny_alloc ?_);refine X8 (Y1 ?_);rw[Yb ZQ];refine X8 (bZ (Li hk hv Oi ZN _ σ _ _ I1 (q _ hn)) λws s2 h2=>?_);obtain⟨ps,H2,I2,rel,b,ks,y,rfl,eb,ep,q2⟩:=h2;cases rel with
 | @cons _ u _ _ r1 r2=>cases r2;obtain⟨u1,u2⟩:=u;cases (show u1=Value.ref b from r1.1);refine Y1 ?_;refine X8 ?_;rw[List.forIn_cons];refine X8 (X8 (FE hu I2 ep eb (by show 0<sizeLine;rw[YA];decide) r1.2 λs' I'=>Yc ?_));dsimp only;rw[List.forIn_nil];refine Yc (Yc (Yc (Yc ⟨.ref s.heap.objs.size,_,I',rfl,?_⟩)));have:je ([]:List (List eN×V)) ks y=[(ks,y)]:=CS y rfl;rw[this];exact q2
def ll(kvs:List (List eN×V))(es:List (List eN×V)):List (List eN×V):=es.foldl (λacc kv=>je acc kv.1 kv.2) kvs
def rUpd:V->Za->Hp->VK->Prop:=λx vs H Q=>∃a l kvs,∃es:List (Addr×Addr×List eN×V),x=.ref a/\vs=[.ref l]/\H a=some (.dT kvs)/\H l=some (.lst (es.map λe=>.ref e.1))/\(∀e∈es,H e.1=some (.tup [.ref e.2.1,e.2.2.2])/\H e.2.1=some (.tup (e.2.2.1.map kV))) /\
 kvs.length+es.length<sizeLine/\Q .non (bi H a (.dT (ll kvs (es.map λe=>(e.2.2.1,e.2.2.2)))))
section
variable {X:Cx}{ZN:Zf}{σ:St}{A:Around}{a l it:Addr}{xs:Za}
theorem xa{R:Result->Shared->Prop}(hu:(tupleKind (bh X.prog X.w)).room A.in1)(hh:A.in1.handled=none):∀(es:List (Addr×Addr×List eN×V)) (i:Nat) (kvs:List (List eN×V)) (H:Hp) (s:Shared),Inv X ZN σ H s->H a=some (.dT kvs) ->
  ux X ZN H it->s.heap.IsListIter it l i->H l=some (.lst xs)->xs.drop i=es.map (λe=>V.ref e.1)->(∀e∈es,H e.1=some (.tup [.ref e.2.1,e.2.2.2])/\H e.2.1=some (.tup (e.2.2.1.map kV)))->kvs.length+es.length<sizeLine ->
  (∀s',Inv X ZN σ (bi H a (.dT (ll kvs (es.map λe=>(e.2.2.1,e.2.2.2))))) s'->R (.ok (.ret .none)) s') ->
  codeAny (model X.prog X.w) A (.builtin "dict.update.loop" ⟨[.ref a,.ref it,rawInt i,.none],[]⟩) R s
 |[],i,kvs,H,s,I,ea,fo,hit,el,hd,_,_,hR=>by
  obtain⟨its,rl,pl,_⟩:=I.list (.inl (.inl el));have hx:its.toArray[i]?=none:=by
   have h1:xs.length<=i:=by have:=Yt List.length hd;rw[ab5] at this;simpa[Nat.sub_eq_zero_iff_le] using this
   have:=rl.length;simp;lia
  refine abf DX.uW ?_;rw[abA DX.iX _];show wpAny _ A.in1 (pyNext (.ref it) >>= _) _ _ s;refine X8 (ad5 hh hit pl.isList hx λh' he=>?_);show wpAny _ A.in1 (Builtin.Dict.addKeywords a [] >>= _) _ _ _;refine X8 (Yc (Yc (hR _ ?_)));have e0:bi H a (.dT (ll kvs (([]:List (Addr×Addr×List eN×V)).map λe=>(e.2.2.1,e.2.2.2))))=H:=by
   funext c
   unfold bi;split
   ·rename_i z;rw[z,ea];rfl
   ·rfl
  rw[e0];exact I.turned (t':=s.toks) (it:=it) (λb o hb e=>he b o hb e) fo.1 fo.2.1 fo.2.2.2.1 fo.2.2.2.2.1 fo.2.2.2.2.2
 |e::es,i,kvs,H,s,I,ea,fo,hit,el,hd,he,hl,hR=>by
  obtain⟨its,rl,pl,_⟩:=I.list (.inl (.inl el));obtain⟨e1,e2⟩:=he e Yg;have hxi:xs[i]?=some (V.ref e.1):=by have:=Yt (λl:Za=>l[0]?) hd;simpa[aca] using this
  obtain⟨u,hui,ru⟩:=rl.get hxi;cases (show u=Value.ref e.1 from ru);refine abf DX.uW ?_;rw[abA DX.iX _];show wpAny _ A.in1 (pyNext (.ref it) >>= _) _ _ s;refine X8 (ad4 hit pl.isList (x:=.ref e.1) (~~~hui) λh' hit' hs=>?_);have I1:Inv X ZN σ H { s with heap:=h' }:=I.turned (t':=s.toks) (it:=it) (λb o hb e=>hs.extBut b o hb e) fo.1 fo.2.1 fo.2.2.2.1 fo.2.2.2.2.1 fo.2.2.2.2.2;have P1:=I1.pinned (fp:=[it]) (λb hb=>by rw[Yp.1 hb];exact fo) (λb hb=>by
   rw[Yp.1 hb];obtain⟨o,ho,_,hd⟩:=hit'
   exact⟨o,ho,λv z=>by rw[hd] at z;cases z⟩)
  obtain⟨its2,rl2,pl2,_⟩:=I1.tuple (.inl (.inl e1));obtain⟨u1,u2,e3,r1,r2⟩:=Vals.two rl2;subst e3;cases (show u1=Value.ref e.2.1 from r1);have body:wpAny (model X.prog X.w) A.in1 (dictSet a (.ref e.2.1) u2) (λ_ s'=>Inv X (ZN++sd [it] h') σ (bi H a (.dT (je kvs e.2.2.1 e.2.2.2))) s') (λe s'=>R (.error e) s') { s with heap:=h' }:=
   FE hu P1 ea e2 (by rw[Yk] at hl;lia) r2 λs' I'=>I'
  refine X8 (Y1 (X8 ?_));refine wpAny_tryCatch (m:=Builtin.Dict.pairItems (.ref e.1)) ?_;obtain⟨ot,hot,hct,nt,hdt⟩:=pl2;unfold Builtin.Dict.pairItems;refine X8 (aa5 (T := "tuple") ⟨ot,hot,hct⟩ ?_);rw[Yb (by decide)];refine X8 (wpAny_seqItems hot hdt (Yc ?_));show wpAny _ A.in1 (holding [.ref e.2.1,u2] (dictSet a (.ref e.2.1) u2)) _ _ _;refine Y1 (aay body (λ_ s' I'=>?_) λ_ _ z=>z);have na:it≠a:=λz=>by have f0:=fo.1;rw[z,ea] at f0;cases f0
  have nl:l≠a:=yK el ea (λz=>nomatch z);refine Yc ⟨aba DX.iX _,?_⟩;show codeAny (model X.prog X.w) A (.builtin "dict.update.loop" ⟨[.ref a,.ref it,rawInt ((i+1:Nat):Int),.none],[]⟩) R s';have tn:∀c ys,H c=some (.tup ys)->bi H a (.dT (je kvs e.2.2.1 e.2.2.2)) c=some (.tup ys):=λc ys z=>by rw[aw (yK z ea (λz=>nomatch z))];exact z
  refine xa hu hh es (i+1) (je kvs e.2.2.1 e.2.2.2) _ s' I'.unpinned aA ⟨by rw[aw na];exact fo.1,fo.2⟩ ?_ (by rw[aw nl];exact el) ?_ (λe' h'=>?_) ?_ λs2 I2=>hR s2 ?_
  ·obtain⟨o,ho,hc2,hd2⟩:=hit';exact⟨o,(I'.pin (it,o) (Yu _ (Yu _ (iM (Yp.2 rfl) ho)))).1,hc2,hd2⟩
  ·have:=Yt List.tail hd;rw[List.tail_drop] at this;exact this
  ·obtain⟨z1,z2⟩:=he e' (Yn _ h');exact⟨tn _ _ z1,tn _ _ z2⟩
  ·have:=jv kvs e.2.2.1 e.2.2.2;rw[Yk] at hl;lia
  ·rw[GB] at I2;exact I2
def Hy(hu:(tupleKind (bh X.prog X.w)).room X.A.in1)(hc:X.calm=true):UV X "dict.update" rUpd:=by
 intro ZN s σ H x vs v us Q I rx rv h;obtain⟨a,l,kvs,es,rfl,rfl,ea,el,he,hl,q⟩:=h;cases (show v=Value.ref a from rx);obtain⟨u,rfl,ru⟩:=rv.one;cases (show u=Value.ref l from ru);obtain⟨z,hd,xs,rel,dd⟩:=FF I.hok ea;obtain⟨oa,esd,epd,hoa,hxa,_⟩:=id dd;have hTa:s.TypeIs (.ref a) "dict" := ⟨oa,hoa,hxa.1⟩
 obtain⟨hll,its,n,rl,hol⟩:=(show ObjOk X.prog X.w H s.heap l (.lst (es.map λe=>V.ref e.1)) from I.hok l _ el)
 have hTl:s.TypeIs (.ref l) "list" := ⟨_,hol,rfl⟩
 have hh:X.A.in1.handled=none:=I.ok.hd hc;refine ab3 (acP aey.plain F.entry_dict_update (aey.check _ _ _ _ _ _ _ _ hTa (F.args_dict_update_2 _ _) ?_));unfold Builtin.«dict.update»;refine X8 ?_;unfold Builtin.Dict.selfAndRest;refine X8 (acQ hTa ?_);show wpAny _ _ (pure (a,[Value.ref l])) _ _ s;refine Yc ?_;show wpAny _ _ (Builtin.Dict.updateFrom "dict.update" a (.ref l) [] .none) _ _ s;unfold Builtin.Dict.updateFrom;refine X8 (aa5 hTl ?_);rw[Yb (by decide)];refine X8 (DX.yA hh hol λh' tk' hk=>?_);rw[Yb (show (none:Zi).isNone=true from rfl)];refine X8 (aao ?_);have I1:Inv X ZN σ H { s with heap:=h',toks:=tk' }:=I.kept (t':=tk') hk;obtain⟨its1,rl1,pl1,_⟩:=I1.list (.inl (.inl el));refine X8 (acg pl1.isList ?_);have I2:Inv X ZN σ H { s with heap:=h'.push { cls:=.type "list_iterator",data:=.fields #[.ref l,.int 0 0] },toks:=tk' }:=I1.kept (t':=tk') λb o e=>Yq _ e;refine Yc ⟨aba DX.iX _,?_⟩;refine xa (xs:=es.map λe=>V.ref e.1) (ZN:=ZN) (σ:=σ) hu hh es 0 kvs H _ I2 ea (I1.fpOk (Yi _) (I1.hok.fresh (Yi _))) ⟨_,Yy _ rfl,rfl,rfl⟩ el (#v[abP]) he hl λs' I'=>?_;exact⟨.non,_,I',rfl,q⟩
end
def PU{A:Around}(h:A.units+64<cLine):A.units+1<cLine:=aaf (Nat.add_le_add_left (by decide) _) h
def Rq{A:Around}(h:A.units+64<cLine):(tupleKind (bh P w)).room A:=aex (PU h)
def Gm{A:Around}(h:A.units+64<cLine):(tupleKind (bh P w)).room A.in1:=acj (PU h)
end L2
namespace M
open PySem L2
section
variable {K:Zj}{S S' H H':Hp}
def My{l:Zc} (h:Den K S (.tup l) v):∃p xs,v=.ref p/\S p=some (.tup xs)/\Dens K S l xs:=by obtain⟨p,xs,e,h1,h2⟩:=Zv.1 h;exact⟨p,xs,e,h1,h2⟩
def DF:D->Option (Zn)
 |.tup l=>aR l
 |_=>none
abbrev kI(k:Zn):List eN:=k.map Sum.inl
def Tg(k:Zn):(kI k).map kV=k.map V.int:=by rw[YE];rfl
def Ea(h:kI a=kI b):a=b:=by
 induction a generalizing b with
 |nil=>cases b with
  |nil=>rfl
  |cons _ _=>cases h
 |cons x a ih=>cases b with
  |nil=>cases h
  |cons y b=>
   injection h with h1 h2
   injection h1 with h1
   rw[h1,ih h2]
def rE{k:Zn} (h:Den K S d v)(e:DF d=some k):∃p,v=.ref p/\S p=some (.tup ((kI k).map kV)):=by
 cases d<;>try (cases e;done)
 obtain⟨p,xs,rfl,h1,h2⟩:=My h;obtain⟨rfl,_⟩:=gb h2 e;exact⟨p,rfl,by rw[Tg];exact h1⟩
theorem qU(q:Zn):∀ks:Zm,(lB (bw ks) (kI q)).isSome=ks.contains q
 |[]=>rfl
 |k::ks=>by
  have ih:=qU q ks;by_cases h:k=q
  ·subst h;show (lB ((kI k,V.bl true)::bw ks) (kI k)).isSome=_;rw[m6 rfl];simp
  ·show (lB ((kI k,V.bl true)::bw ks) (kI q)).isSome=_;rw[m5 (λz=>h (Ea z)),ih];rw[acI];have:(q==k)=false:=by simpa using λz=>h z.symm
   rw[this,adx]
def jc(ks:Zm)(q:Zn):Zm:=if ks.contains q then ks else ks++[q]
def JE(a b:Zm):bw (a++b)=bw a++bw b:=by unfold bw;rw[YX]
def Ge(ks:Zm)(q:Zn):je (bw ks) (kI q) (.bl true)=bw (jc ks q):=by
 unfold jc;cases h:ks.contains q with
 |false=>
  have hv:lB (bw ks) (kI q)=none:=by
   have:=qU q ks;rw[h] at this;cases z:lB (bw ks) (kI q) with
   |none=>rfl
   |some _=>rw[z] at this;cases this
  rw[CS _ hv,X9 (by decide),JE];rfl
 |true=>
  rw[Yb rfl];have ha:((bw ks).any λkv=>decide (kv.1=kI q))=true:=by rw[qT,qU,h]
  unfold je;rw[Yb ha];unfold bw;rw[YE];refine acR λk _=>?_;show (if kI k=kI q then (kI k,V.bl true) else (kI k,V.bl true))=_;split<;>rfl
theorem pp:∀(qs ks:Zm),ll (bw ks) (qs.map λq=>(kI q,V.bl true))=bw (qs.foldl jc ks)
 |[],ks=>rfl
 |q::qs,ks=>by show ll (je (bw ks) (kI q) (.bl true)) (qs.map λq=>(kI q,V.bl true))=_;rw[Ge,pp qs];rfl
def uT(ks:Zm):(bw ks).length=ks.length:=Ye _
def Ext.setOwn{H1:Hp} (z:Ext S H S1 H1)(hp:H p=none)(hs:S1 p=none):Ext S H S1 (bi H1 p o):=
 ⟨z.sh,λb u hb=>by rw[aw λe=>by subst e;rw[hs] at hb;cases hb];exact z.sub b u hb,λb u hb hn=>by
  obtain⟨c1,c2⟩:=z.alw b u hb hn
  exact⟨by rw[aw λe=>by subst e;rw[hp] at hb;cases hb];exact c1,c2⟩⟩
@[simp]def Dw(k:XE):Env->Option O:=λρ=>(k ρ).bind λd=>(DF d).map λq=>.dic [q]
def Rv{tk:TE} (h:SE K tk k):STr K (E3 tk (tC (.bl true))) (Dw k):=λρ σ S H Q o r x c=>by
 unfold Dw at x;cases qk:k ρ with
 |none=>rw[qk] at x;cases x
 |some d=>
  rw[qk] at x;dsimp only[Option.bind] at x;cases qd:DF d with
  |none=>rw[qd] at x;cases x
  |some q=>rw[qd] at x;cases x;intro p hp;have z:Ext S H S (bi H p (.dT [])):=Ext.own r.sub hp;refine h ρ σ S _ _ d (r.ext z) qk λv S1 H1 z1 d1=>?_;obtain⟨b,rfl,hb⟩:=rE d1 qd;obtain⟨a1,a2⟩:=z1.al p _ aA (r.sub.free hp);refine⟨b,kI q,.bl true,rfl,z1.sub b _ hb,a1,?_⟩;exact c (.ref p) [p] S1 _ ((z.trans z1).setOwn hp a2) (Zt.2 ⟨p,rfl,rfl,aA⟩) (YH.2 ⟨by simp,acN⟩) λc' hc=>by rw[Yp.1 hc];exact⟨hp,a2⟩
@[simp]def PZ:Env->Option O:=λ_=>some (.dic [])
def Ru:STr K Mm PZ:=λρ σ S H Q o r x c=>by cases x;intro p hp;exact c (.ref p) [p] S _ (Ext.own r.sub hp) (Zt.2 ⟨p,rfl,rfl,aA⟩) (YH.2 ⟨by simp,acN⟩) λc' hc=>by rw[Yp.1 hc];exact⟨hp,r.sub.free hp⟩
def mm(ρ:Env)(i:Nat):Option (Zm):=match ρ[i]? with
 |some (.ow (.dic ks))=>some ks
 |some (.sh (.dic ks))=>some ks
 |some (.sh (.dif ks))=>some ks
 |some (.ow (.hd _ ks []))=>some ks
 |_=>none
def JF{i:Nat}{ks:Zm}(r:Rl K ρ σ S H)(h:mm ρ i=some ks):∃a,σ[i]?=some (some (.ref a))/\Rd H a (.dT (bw ks)):=by
 unfold mm at h;rcases q:ρ[i]? with _|c
 ·rw[q] at h;cases h
 rw[q] at h;rcases c with _|_|d|o<;>try (cases h;done)
 ·cases d<;>try (cases h;done)
  ·cases h;obtain⟨v,e,dv⟩:=r.sh i _ q;obtain⟨a,rfl,ha⟩:=den_dic.1 dv;exact⟨a,e,cu r.sub ha⟩
  ·cases h;obtain⟨v,e,dv⟩:=r.sh i _ q;obtain⟨a,o,rfl,ha⟩:=den_dif.1 dv;exact⟨a,e,.inr ⟨o,r.sub _ _ ha⟩⟩
 ·cases o<;>try (cases h;done)
  ·cases h;obtain⟨v,fp,e,ow,_⟩:=r.ow i _ q;obtain⟨a,rfl,_,ha⟩:=Zt.1 ow;exact⟨a,e,.inl ha⟩
  ·rename_i p ks' l;cases l<;>try (cases h;done)
   cases h;obtain⟨v,fp,e,ow,_⟩:=r.ow i _ q;obtain⟨xs,f,rfl,_,ha,ho⟩:=Zz.1 ow;rw[ho.nil_of.1] at e;exact⟨p,e,.inl ha⟩
@[simp]def t7(neg:Bool)(k:XE)(i:Nat):XE:=λρ=>(k ρ).bind λd=>(DF d).bind λq=>(mm ρ i).map λks=>.bl (if neg then !(ks.contains q) else ks.contains q)
def wE{tk:TE} {i:Nat}(h:SE K tk k):SE K (Gw tk (jS i)) (t7 true k i):=λρ σ S H Q g r x c=>by
 unfold t7 at x;cases qk:k ρ with
 |none=>rw[qk] at x;cases x
 |some d=>
  rw[qk] at x;dsimp only[Option.bind] at x;cases qd:DF d with
  |none=>rw[qd] at x;cases x
  |some q=>
   rw[qd] at x;dsimp only at x;cases qi:mm ρ i with
   |none=>rw[qi] at x;cases x
   |some ks=>rw[qi] at x;cases x;refine h ρ σ S H _ d r qk λv S1 H1 z1 d1=>?_;obtain⟨b,rfl,hb⟩:=rE d1 qd;obtain⟨a,e1,ha⟩:=JF (r.ext z1) qi;refine⟨.ref a,e1,a,_,rfl,.inr ⟨_,kI q,b,ha,rfl,z1.sub b _ hb,rfl⟩,c _ S1 H1 z1 ?_⟩;rw[qU];exact Zx.2 rfl
def PL{tk:TE} {i:Nat}(h:SE K tk k):SE K (Uf tk (jS i)) (t7 false k i):=λρ σ S H Q g r x c=>by
 unfold t7 at x;cases qk:k ρ with
 |none=>rw[qk] at x;cases x
 |some d=>
  rw[qk] at x;dsimp only[Option.bind] at x;cases qd:DF d with
  |none=>rw[qd] at x;cases x
  |some q=>
   rw[qd] at x;dsimp only at x;cases qi:mm ρ i with
   |none=>rw[qi] at x;cases x
   |some ks=>rw[qi] at x;cases x;refine h ρ σ S H _ d r qk λv S1 H1 z1 d1=>?_;obtain⟨b,rfl,hb⟩:=rE d1 qd;obtain⟨a,e1,ha⟩:=JF (r.ext z1) qi;refine⟨.ref a,e1,a,_,rfl,.inr ⟨_,kI q,b,ha,rfl,z1.sub b _ hb,rfl⟩,c _ S1 H1 z1 ?_⟩;rw[qU];exact Zx.2 rfl
def RlF.dic{i:Nat}{ks:Zm}(f:RlF K A Λ Φ ρ σ S H)(h:ρ[i]?=some (.ow (.dic ks))) :
  ∃a,σ[i]?=some (some (.ref a))/\H a=some (.dT (bw ks))/\∀ks',RlA K A Λ (ρ.set i (.ow (.dic ks'))) σ S (bi H a (.dT (bw ks'))):=by
 obtain⟨v,ev,ow,nd,n⟩:=f.ow i _ h;obtain⟨a,rfl,hfp,ha⟩:=Zt.1 ow;have ain:a∈Φ i:=by rw[hfp];exact Yg
 refine⟨a,ev,ha,λks'=>?_⟩;have ne:∀b,b≠a->bi H a (.dT (bw ks')) b=H b:=λb hb=>aw hb;have sub':Same S (bi H a (.dT (bw ks'))):=λb u e=>by rw[ne b λz=>by subst z;rw[(n b ain).1] at e;cases e];exact f.sub b u e
 have asub':Same A (bi H a (.dT (bw ks'))):=λb u e=>by rw[ne b λz=>by subst z;rw[(n b ain).2] at e;cases e];exact f.asub b u e
 have fin:=f.put (H':=bi H a (.dT (bw ks'))) i sub' asub' (Zt.2 ⟨a,rfl,rfl,aA⟩) (YH.2 ⟨by simp,acN⟩) (λb hb=>by rw[Yp.1 hb];exact n a ain) λj o' hj e1 b hb=>by have nb:b∉Φ i:=λz=>f.dj j i o' _ hj e1 h b hb z;exact⟨ne b λz=>nb (z▸ain),λz=>nb (by rw[Yp.1 z];exact ain)⟩
 rw[wI ev] at fin;exact⟨_,fin⟩
@[simp]def MO(i:Nat)(k:XE):XS:=λρ=>match ρ[i]? with
 |some (.ow (.dic ks))=>(k ρ).bind λd=>(DF d).bind λq=>if ks.length<a9 then some (.nx (ρ.set i (.ow (.dic (jc ks q))))) else none
 |_=>none
def RC{tk:TE} {i:Nat}(h:SE K tk k):SS K (PF (jS i) tk (tC (.bl true))) (MO i k):=λA Λ ρ σ S H E o r x c=>by
 unfold MO at x;split at x<;>try (cases x;done)
 rename_i ks q0;obtain⟨d,qk,x⟩:=ZO x;obtain⟨q,qd,x⟩:=ZO x;split at x<;>try (cases x;done)
 rename_i hl;cases x;obtain⟨Φ,f⟩:=r;obtain⟨a,ev,_,_⟩:=f.dic q0;refine⟨.ref a,ev,h ρ σ S H _ d ⟨A,Λ,Φ,f⟩ qk λv S1 H1 z1 d1=>?_⟩;obtain⟨b,rfl,hb⟩:=rE d1 qd;obtain⟨a',ev',ha,up⟩:=(f.ext z1).dic q0;rw[ev] at ev';cases ev';refine⟨a,_,rfl,.inr ⟨_,kI q,b,ha,rfl,z1.sub b _ hb,?_,rfl⟩,?_⟩
 ·rw[uT];exact abO hl fN
 ·rw[Ge];exact c σ S1 _ (up _) z1.sh
def iW:Zc->Option (Zm)
 |[]=>some []
 |.tup [d,.bl true]::l=>(DF d).bind λq=>(iW l).map λqs=>q::qs
 |_=>none
theorem wb(s:Same S H):∀ {l:Zc} {xs:Za} {qs:Zm},Dens K S l xs->iW l=some qs ->
  ∃es:List (Addr×Addr×List eN×V),xs=es.map (λe=>V.ref e.1)/\(∀e∈es,H e.1=some (.tup [.ref e.2.1,e.2.2.2])/\H e.2.1=some (.tup (e.2.2.1.map kV)))/\es.map (λe=>(e.2.2.1,e.2.2.2))=qs.map λq=>(kI q,V.bl true)
 |[],xs,qs,h,e=>by
  cases e;exact⟨[],h.nil_of,(λe he=>by cases he),rfl⟩
 |d::l,xs,qs,h,e=>by
  obtain⟨y,ys,rfl,h1,h2⟩:=h.cons_of;cases d<;>try (cases e;done)
  rename_i u;rcases u with _|⟨d0,u⟩
  ·cases e
  rcases u with _|⟨d1,u⟩
  ·cases e
  cases d1<;>try (cases e;done)
  rename_i b;cases b<;>try (cases e;done)
  cases u<;>try (cases e;done)
  have e':((DF d0).bind λq=>(iW l).map λqs=>q::qs)=some qs:=e;obtain⟨q,qd,e⟩:=ZO e';cases ql:iW l with
  |none=>rw[ql] at e;cases e
  |some qs'=>
   rw[ql] at e;cases e;obtain⟨es,e1,e2,e3⟩:=wb s h2 ql;obtain⟨t,zs,rfl,ht,hz⟩:=My h1;obtain⟨y1,r1,rfl,k1,hz⟩:=hz.cons_of;obtain⟨y2,r2,rfl,k2,hz⟩:=hz.cons_of;have:=hz.nil_of;subst this;obtain⟨b,rfl,hb⟩:=rE k1 qd;have:=Zx.1 k2;subst this;refine⟨(t,b,kI q,.bl true)::es,by rw[e1];rfl,λe he=>?_,by rw[Yo,e3];rfl⟩;rcases Yj.1 he with rfl|he
   ·exact⟨s t _ ht,s b _ hb⟩
   ·exact e2 e he
@[simp]def GN(i:Nat)(e:XA):XS:=λρ=>match ρ[i]? with
 |some (.ow (.dic ks))=>(e ρ).bind λl=>(iW l).bind λqs=>if ks.length+l.length<a9 then some (.nx (ρ.set i (.ow (.dic (qs.foldl jc ks))))) else none
 |_=>none
def RI{te:TE} {i:Nat}(h:SF K te e):SS K (qS (RX K "dict" rUpd (jS i) (eX te mY))) (GN i e):=λA Λ ρ σ S H E o r x c=>by
 unfold GN at x;split at x<;>try (cases x;done)
 rename_i ks q0;obtain⟨l,qe,x⟩:=ZO x;obtain⟨qs,qp,x⟩:=ZO x;split at x<;>try (cases x;done)
 rename_i hl;cases x;obtain⟨Φ,f⟩:=r;obtain⟨a,ev,ha0,_⟩:=f.dic q0;refine⟨.ref a,ev,.inr (.inr (.inl ⟨rfl,.inr ⟨_,ha0⟩⟩)),h ρ σ S H _ l ⟨A,Λ,Φ,f⟩ qe λp xs S1 H1 z1 hp hs1 hp1 d1=>?_⟩;obtain⟨es,e1,e2,e3⟩:=wb z1.sub d1 qp;obtain⟨a',ev',ha,up⟩:=(f.ext z1).dic q0;rw[ev] at ev';cases ev';refine⟨a,p,_,es,rfl,rfl,ha,by rw[<-e1];exact hp1,e2,?_,?_⟩
 ·have:=d1.length;rw[uT];have e4:es.length=xs.length:=by rw[e1,Ye]
  exact abO () fN
 ·rw[e3,pp];exact c σ S1 _ (up _) z1.sh
def RF(h:SE K t e):ST K (tB t) (xB e):=λρ σ S H Q b r x c=>by
 obtain⟨d,q,x⟩:=ZO x;cases d<;>try (cases x;done)
 cases x;refine h ρ σ S H _ _ r q λv S1 H1 z1 d1=>?_;exact⟨_,Zx.1 d1,c S1 H1 z1⟩
end
section
variable {K:Zj}{S H:Hp}
def RS(a c:Int)(n:Nat):Zc:=(List.range n).map λi:Nat=>D.int (a+(i:Int)*c)
def TX:Zc->Option (Zc)
 |[.int a,.int j,.int c]=>BV (c≠0/\(-1000000<c/\c<1000000)/\Builtin.Range.small a j c=true) (some (RS a c (Builtin.Range.rangeSize a j c).toNat)) none
 |_=>none
@[simp]def W9(a:XA):XA:=λρ=>(a ρ).bind TX
end
section
variable {K:Zj}
def Th:D->Option (Zc)
 |.int j=>BV (0<=j/\j<1000000) (some ((List.range j.toNat).map λi:Nat=>D.int (i:Int))) none
 |_=>none
@[simp]def V4(a:XE):XA:=λρ=>(a ρ).bind Th
end
end M
namespace L2
open PySem PySem.Spec PyProof.Rows
def zt:bootBuiltins "enumerate"=some (.type "enumerate"):=by decide +kernel
section
variable {X:Cx}{ZN:Zf}{σ:List (Option V)}{H H':Hp}{s:Shared}{h':Heap}
def Inv.turned2{t':Nat}{it jt:Addr}(I:Inv X ZN σ H s)(k:∀b o,b≠it->b≠jt->s.heap.get? b=some o->h'.get? b=some o)(hn:H it=none)(hL:it≠X.env.locals)
  (h1:it∈X.ex\/X.s₀.heap.objs.size<=it) (h2:∀x c,X.env.cells.lookup x=some c->c≠it) (h3:∀p∈X.pn++ZN,p.1≠it)
  (jn:H jt=none) (jL:jt≠X.env.locals)
  (j1:jt∈X.ex\/X.s₀.heap.objs.size<=jt) (j2:∀x c,X.env.cells.lookup x=some c->c≠jt) (j3:∀p∈X.pn++ZN,p.1≠jt):Inv X ZN σ H { s with heap:=h',toks:=t' }:=by
 have nit:∀b u,H b=some u->b≠it:=λb u e z=>by rw[z,hn] at e;cases e
 have njt:∀b u,H b=some u->b≠jt:=λb u e z=>by rw[z,jn] at e;cases e
 refine I.step (g':=s.gens) (d':=s.drawn) (ch:=[it,jt]) (λb hb=>?_) (λb o _ _ hc e _=>k b o (λz=>hc (by simp[z])) (λz=>hc (by simp[z])) e) (λb o _ _ hc e _=>⟨o.slots,k b o (λz=>hc (by simp[z])) (λz=>hc (by simp[z])) e⟩) (λ_ _ _ _ n=>n)
  (λb o hc e=>⟨o,k b o (λz=>hc (by simp[z])) (λz=>hc (by simp[z])) e⟩) (λ_ _ e=>e) (λ_ _ _ e=>e) (λb ps e=>⟨#[],by rw[e];simp⟩) (λm hm=>?_) (λb u e=>?_) I.bare
 ·rcases Yj.1 hb with e|hb
  ·subst e;exact⟨h1,hL,h2,h3⟩
  ·have e:b=jt:=by simpa using hb
   subst e;exact⟨j1,jL,j2,j3⟩
 ·obtain⟨o,es,ep,ho,r⟩:=hm;exact⟨o,es,ep,k _ o (YN hL) (YN jL) ho,r⟩
 ·refine (I.hok b u e).stay (λc v hc q=>k c v ?_ ?_ q) (λ_ q=>q) λ_ _ q=>q
  ·rcases hc with z|z
   ·rw[z];exact nit b u e
   ·exact nit c _ z
  ·rcases hc with z|z
   ·rw[z];exact njt b u e
   ·exact njt c _ z
end
def We(K:Zj)(a:Addr)(xs:Za):It:=
 ⟨λi H=>SqL K H a xs/\∃x,xs[i]?=some x,λi H v H'=>∃p x,v=.ref p/\H p=none/\xs[i]?=some x/\H'=bi H p (.tup [.int (i:Nat),x]),λi H=>SqL K H a xs/\xs.length=i⟩
def Wy(K:Zj)(ta:TA):TI:=λσ H R=>ta σ H λvs H1=>∃a xs,vs=[.ref a]/\SqL K H1 a xs/\R (We K a xs) H1
section
variable {X:Cx}
def IK{P:Program}{w:World}{K:Zj}{elts:List Expr}{x1:Nat}{pos:Pos}(a e it:Addr)(hne:e≠it)(xs:Za) :
  Turn P w K (.Tuple elts x1 pos) (We K a xs) [e,it] e (λi h=>(∃old,IsEnum h e it (i:Nat) old)/\h.IsListIter it a i) where
 mem:=by simp
 obj:=λi h st b hb=>by
  obtain⟨⟨old,he⟩,o,eo,c,d⟩:=st;rcases Yj.1 hb with z|hb
  ·subst z;exact⟨_,he,λv z=>by cases z⟩
  ·have z:b=it:=by simpa using hb
   subst z;exact⟨o,eo,λv z=>by rw[d] at z;cases z⟩
 keep:=λi h h' st k=>⟨let ⟨old,he⟩:=st.1;⟨old,k e (by simp) _ he⟩,st.2.at λo x=>k it (by simp) o x⟩
 item:=by
  intro X hP hw hK hc i ZN s σ H E I hf st hg;subst hP hw hK;obtain⟨hq,x,hx⟩:=hg;obtain⟨⟨old,he⟩,hit⟩:=st;obtain⟨its,rv,p,hz⟩:=I.list hq;obtain⟨u,hu,ru⟩:=rv.get hx;obtain⟨f0,f1,f2,f3,f4,f5⟩:=hf e (by simp);obtain⟨g0,g1,g2,g3,g4,g5⟩:=hf it (by simp);have el:e<s.heap.objs.size:=Ys he;have il:it<s.heap.objs.size:=by obtain⟨_,q,_⟩:=hit;exact Ys q
  refine wpAny_pyNext_enum_item he hit p.isList (x:=u) (~~~hu) hne λh1 ho hit1 hT hsz hk=>⟨_,rfl,?_⟩
  refine wpAny_letOwnedTupleGo_enum (s:={ s with heap:=h1,toks:=s.toks+1 }) ho λh2 he2 hs2=>?_;replace hs2:Heap.SameBut e h1 h2:=hs2;have I1:Inv X ZN σ (bi H s.heap.objs.size (.tup [.int (i:Nat),x])) { s with heap:=s.heap.push { cls:=.type "tuple",data:=.seq #[.int i s.toks,u] },toks:=s.toks+1 }:=by refine I.laid (λb o q=>Yq _ q) (Yi _) ⟨?_,[.int i s.toks,u],.cons ⟨_,rfl⟩ (.cons ru .nil),_,Yy _ rfl,rfl,_,rfl⟩;rw[YA,Yk,Yk,abR];decide
  have e1:(bi H s.heap.objs.size (.tup [.int (i:Nat),x])) e=none:=by rw[aw (Yz el)];exact f0
  have e2:(bi H s.heap.objs.size (.tup [.int (i:Nat),x])) it=none:=by rw[aw (Yz il)];exact g0
  have I2:Inv X ZN σ (bi H s.heap.objs.size (.tup [.int (i:Nat),x])) { s with heap:=h2,toks:=s.toks+1 }:=by
   refine Inv.turned2 (s:={ s with heap:=s.heap.push { cls:=.type "tuple",data:=.seq #[.int i s.toks,u] },toks:=s.toks+1 }) (it:=e) (jt:=it) I1 (λb o n1 n2 q=>?_) e1 f1 f3 f4 f5 e2 g1 g3 g4 g5;rw[hs2.2 b n1];rcases Heap.get?_push_cases q with ⟨rfl,rfl⟩|q
   ·exact hT
   ·exact hk b o n1 n2 q
  refine⟨.ref s.heap.objs.size,_,I2,rfl,⟨_,x,rfl,I.hok.fresh (Yi _),hx,rfl⟩,⟨⟨u,?_⟩,?_⟩,λb hb=>?_⟩
  ·have:((i+1:Nat):Int)=(i:Int)+1:=by push_cast;rfl
   rw[this];exact he2
  ·exact hit1.at λo y=>(hs2.2 it hne.symm).trans y
  ·rcases Yj.1 hb with z|hb
   ·rw[z];exact e1
   ·rw[Yp.1 hb];exact e2
 done:=by intro X hP hw hK hc i ZN s σ H E I hf st hg;subst hP hw hK;obtain⟨hq,hx⟩:=hg;obtain⟨⟨old,he⟩,hit⟩:=st;obtain⟨its,rv,p,hz⟩:=I.list hq;obtain⟨g0,g1,g2,g3,g4,g5⟩:=hf it (by simp);have hl:=rv.length;exact wpAny_pyNext_enum_end (I.ok.hd hc) he hit p.isList (by simp;lia) λh' eb=>⟨rfl,I.turned (t':=s.toks) (λb o hb e=>eb b o hb e) g0 g1 g3 g4 g5⟩
 self:=λ_ _ _ _ _ st h=>let ⟨_,he⟩:=st.1;aez he h
def Od{elts:List Expr}{x1:Nat}{tpos:Pos}{a:Expr}{ta:TA}{p pos:Pos}(hg:Gl X "enumerate") (hm:X.mg "enumerate"=none) (ha:PA X [a] ta) (hs:starEach [a] X.env=[(false,eval a X.env)]:=by rfl) :
  PI X (.Tuple elts x1 tpos) (.Call (.Name "enumerate" p) [a] [] pos) (Wy X.K ta):=by
 intro ZN s σ H R I h;refine Call_ (kU I hg hm zt (abo (bZ (ha pos ZN s σ H _ I h) λus s1 h1=>?_) hs rfl));obtain⟨vs,H1,I1,r1,t,xs,rfl,hq,q⟩:=h1;obtain⟨u,rfl,rx⟩:=GC r1;cases rx;obtain⟨its,rv,p,hz⟩:=I1.list hq;refine call_enumerate_list p.isList λh' he hit hsz kp=>?_;have I2:Inv X ZN σ H1 { s1 with heap:=h' }:=I1.kept (t':=s1.toks) kp;refine aez (s:={ s1 with heap:=h' }) he ?_;refine⟨s1.heap.objs.size+1,[s1.heap.objs.size+1,s1.heap.objs.size],_,_,H1,rfl,I2,IK t _ _ (Nat.succ_ne_self _) xs,⟨⟨_,he⟩,hit⟩,λb hb=>?_,q⟩;rcases Yj.1 hb with z|hb
 ·rw[z];exact I1.fpOk () (I1.hok.fresh ())
 ·rw[Yp.1 hb];exact I1.fpOk (Yi _) I1.fresh
end
end L2
namespace M
open PySem L2
section
variable {K:Zj}{S S' H H':Hp}
def M1(k:Nat):Zc->Zc
 |[]=>[]
 |d::l=>.tup [.int (k:Int),d]::M1 (k+1) l
theorem FJ:∀(l:Zc) (k:Nat),(M1 k l).length=l.length
 |[],_=>rfl
 |_::l,k=>by unfold M1;rw[Yk,Yk,FJ l (k+1)]
theorem FI:∀(l:Zc) (k i:Nat) (d:D),(M1 k l)[i]?=some d->∃x,l[i]?=some x/\d=.tup [.int ((k+i:Nat):Int),x]
 |[],_,i,d,h=>by simp[M1] at h
 |y::l,k,0,d,h=>by
  unfold M1 at h;simp at h;exact⟨y,rfl,by rw[<-h];rfl⟩
 |y::l,k,i+1,d,h=>by unfold M1 at h;rw[aab] at h;obtain⟨x,e1,e2⟩:=FI l (k+1) i d h;exact⟨x,by rw[aab];exact e1,by rw[e2];congr 3;congr 1;lia⟩
@[simp]def Sd(a:XE):XA:=λρ=>(a ρ).bind λd=>match d with|.lst l=>some (M1 0 l)|_=>none
@[simp]def XY(i:Nat)(p:XP):XA:=λρ=>match ρ[i]? with
 |some (.ow o)=>(p ρ).bind λis=>match eM o is with|some (.lst l)=>nY l|_=>none
 |_=>none
end
end M
namespace L2
open PySem PySem.Spec PyProof.Rows
def Qy:bootBuiltins "any"=some (.builtin "any"):=by decide +kernel
def Tw(K:Zj):Za->Hp->VK->Prop:=λxs H Q=>∃p,∃bs:List Bool,xs=[.ref p]/\SqL K H p (bs.map V.bl)/\Q (.bl (bs.any id)) H
section
variable {X:Cx}
def GR(bs:List Bool):(List.range bs.length).any (λi=>bs.getD i true)=bs.any id:=by
 rw[ach,aau,aau];constructor
 ·rintro⟨i,hi,h⟩;have hi:=YM.1 hi;exact⟨bs[i],YV hi,by simpa[hi] using h⟩
 ·rintro⟨b,hb,h⟩;obtain⟨i,hi,rfl⟩:=acG hb;exact⟨i,YM.2 hi,by simpa[hi] using h⟩
def GU(hc:X.calm=true):CallR X (.builtin "any") (Tw X.K):=by
 intro ZN s σ H xs us Q I r h;obtain⟨p,bs,rfl,hS,q⟩:=h;obtain⟨u,rfl,ru⟩:=r.one;cases ru;obtain⟨its,rv,pl,hz⟩:=I.list hS;have hl:=pl.isList;have ZQ:bs.length=its.length:=by have:=rv.length;simpa using this
 refine call_any_walk (acg hl ?_);have hne:p≠s.heap.objs.size:=Yz pl.lt;refine⟨_,_,_,_,_,_,λi=>bs.getD i true,rfl,Walks.list (A:=X.A.in1) (I.ok.hd hc) _ p hne its.toArray,⟨⟨_,Yy _ rfl,rfl,rfl⟩,hl.push _⟩,?_,?_⟩
 ·intro i v s' Q' E' hv hQ;have hv:its[i]?=some v:=by simpa using hv
  have hi:i<bs.length:=by rw[ZQ];exact (Yx.1 hv).1
  obtain⟨u,hu,ru⟩:=rv.get (i:=i) (x:=.bl (bs[i])) (by simp[hi]);rw[hu] at hv;cases hv;cases ru;have e:bs.getD i true=bs[i]:=by simp[hi]
  dsimp only at hQ;rw[e] at hQ;exact abm hQ
 ·intro h' tk hk;rw[YF,<-ZQ,GR];exact⟨.bl _,H,I.kept (old_kept hk),rfl,q⟩
end
end L2
namespace M
open PySem L2
section
variable {K:Zj}
def DK:Zb
 |[.lst l]=>(hJ l).map λbs=>.bl (bs.any id)
 |_=>none
def SV:O4 K (Tw K) DK:=λS H vs ds g Q s h x k=>by
 unfold DK at x;split at x
 ·rename_i l;obtain⟨v,rfl,d1⟩:=vY h;cases q:hJ l with
  |none=>rw[q] at x;cases x
  |some bs=>rw[q] at x;cases x;obtain⟨p,xs,rfl,h1,h2⟩:=d1.lst s;have e:=uI q;subst e;have e:=Bu h2;subst e;exact⟨p,bs,rfl,.inl h1,k _ S H (Ext.refl s) (Zx.2 rfl)⟩
 ·cases x
@[simp]def V2(f g:D->D->Zd)(a b c:XE):XE:=λρ=>(a ρ).bind λx=>(b ρ).bind λy=>(f x y).bind λz=>match z with
 |.bl true=>(c ρ).bind λw=>g y w
 |.bl false=>some (.bl false)
 |_=>none
end
end M
namespace ST
open PySem PySem.SetTable
def it(m:Nat):Nat->Nat->Nat
 |0,i=>i
 |n+1,i=>it m n ((i*5+1)%(m+1))
theorem zP(m:Nat):∀a b i,it m (a+b) i=it m b (it m a i)
 |0,b,i=>by rw[aaK];rfl
 |a+1,b,i=>by rw[adz];exact zP m a b _
def Vm(m:Nat):Nat->Nat->List Nat
 |0,_=>[]
 |n+1,i=>i::Vm m n ((i*5+1)%(m+1))
theorem F8{m:Nat}:∀ {n i j:Nat},j∈Vm m n i->∃k,k<n/\it m k i=j
 |0,_,_,h=>by cases h
 |n+1,i,j,h=>by
  rcases Yj.1 h with rfl|h
  ·exact⟨0,abu _,rfl⟩
  ·obtain⟨k,hk,e⟩:=F8 h;exact⟨k+1,adr hk,e⟩
def Full(m:Nat):Prop:=it m (m+1) 0=0/\((List.range (m+1)).all λj=>(Vm m (m+1) 0).contains j)=true
noncomputable instance (m:Nat):Decidable (Full m):=by unfold Full;infer_instance
def S9:Full 7:=by decide +kernel
def QJ:Full 31:=by decide +kernel
def Nr:Full 127:=by decide +kernel
def Nt:Full 511:=by decide +kernel
def Full.reach{m:Nat}(f:Full m){i j:Nat}(hi:i<=m)(hj:j<=m):∃k,k<=m/\it m k i=j:=by
 have h:∀x,x<=m->∃k,k<=m/\it m k 0=x:=λx hx=>by have:=acA.1 f.2 x (YM.2 ());obtain⟨k,hk,e⟩:=F8 (abg.1 this);exact⟨k,(),e⟩
 obtain⟨a,ha,rfl⟩:=h i hi;obtain⟨b,hb,rfl⟩:=h j hj;by_cases hab:a<=b
 ·exact⟨b-a,(),by rw[<-zP];congr 1;lia⟩
 ·refine⟨m+1+b-a,(),?_⟩;rw[<-zP,show a+(m+1+b-a)=(m+1)+b by lia,zP,f.1]
def blk(m:Nat):Nat->Nat×Nat->Nat×Nat
 |0,x=>x
 |n+1,x=>blk m n (leap m x.1 x.2)
theorem Fw(m:Nat):∀a b x,blk m (a+b) x=blk m b (blk m a x)
 |0,b,x=>by rw[aaK];rfl
 |a+1,b,x=>by rw[adz];exact Fw m a b _
theorem Bh(m:Nat):∀n i,blk m n (i,0)=(it m n i,0)
 |0,i=>rfl
 |n+1,i=>by show blk m n ((i*5+1+0/32)%(m+1),0/32)=_;exact Bh m n _
theorem Fy(m:Nat):∀n x,(blk m n x).2=x.2/32^n
 |0,x=>by rw[Nat.pow_zero,Nat.div_one];rfl
 |n+1,x=>by show (blk m n (leap m x.1 x.2)).2=_;rw[Fy m n];show x.2/32/32^n=_;rw[Nat.div_div_eq_div_mul,Nat.pow_succ,Nat.mul_comm]
theorem Fx(m:Nat):∀n x,x.1<=m->(blk m n x).1<=m
 |0,x,h=>h
 |n+1,x,h=>Fx m n _ (adA (acS _ (abu m)))
def yf{m:Nat}(f:Full m)(x:Nat×Nat)(h1:x.1<=m)(h2:x.2<2^64){j:Nat}(hj:j<=m):∃n,n<=m+13/\(blk m n x).1=j:=by
 have e:(blk m 13 x).2=0:=by rw[Fy];exact Nat.div_eq_of_lt (YT h2 (by decide))
 obtain⟨k,hk,ek⟩:=f.reach (Fx m 13 x h1) hj;refine⟨13+k,(),?_⟩;have e2:blk m 13 x=((blk m 13 x).1,0):=Y9 rfl e;rw[Fw,e2,Bh];exact ek
def DC(t:SetTable):Nat->Probe->Probe
 |0,p=>p
 |n+1,p=>DC t n (t.advance p)
theorem Fp(t:SetTable):∀a b p,DC t (a+b) p=DC t b (DC t a p)
 |0,b,p=>by rw[aaK];rfl
 |a+1,b,p=>by rw[adz];exact Fp t a b _
def So(m:Nat)(x:Nat×Nat)(d:Option Nat):Probe:={ j:=x.1,more:=runEnd m x.1-x.1,i:=x.1,perturb:=x.2,dummy:=d }
theorem Ft(t:SetTable):∀(r:Nat) (p:Probe),p.more=r->DC t (r+1) p=So t.mask (leap t.mask p.i p.perturb) p.dummy
 |0,p,h=>by
  show t.advance p=_;unfold advance;rw[X9 ()];rfl
 |r+1,p,h=>by
  show DC t (r+1) (t.advance p)=_;have e:t.advance p={ p with j:=p.j+1,more:=p.more-1 }:=by unfold advance;rw[Yb ()]
  rw[e];exact Ft t r _ (by show p.more-1=r;lia)
def Mj(m:Nat)(x:Nat×Nat)(d:Option Nat):(So m x d).more<=9:=by show runEnd m x.1-x.1<=9;unfold runEnd;split<;>lia
theorem Fq(t:SetTable)(d:Option Nat):∀n x,∃k,k<=10*n/\DC t k (So t.mask x d)=So t.mask (blk t.mask n x) d
 |0,x=>⟨0,Yi _,rfl⟩
 |n+1,x=>by obtain⟨k,hk,e⟩:=Fq t d n (leap t.mask x.1 x.2);have h:=Mj t.mask x d;refine⟨(So t.mask x d).more+1+k,(),?_⟩;rw[Fp,Ft t _ _ rfl];exact e
def CW{t:SetTable}(f:Full t.mask)(h:Int){j:Nat}(hj:j<=t.mask):∃k,k<10*turns t.mask/\(DC t k (t.probeStart h)).j=j:=by
 have hb:bits h<2^64:=by unfold bits;have h1:=Int.emod_nonneg h (b:=(2^64:Int)) (by decide);have h2:=aeA h (b:=(2^64:Int)) (by decide);lia
 obtain⟨n,hn,e⟩:=yf f (bits h%(t.mask+1),bits h) (adA (acS _ (abu _))) hb hj;obtain⟨k,hk,e2⟩:=Fq t none n (bits h%(t.mask+1),bits h);refine⟨k,by unfold turns;lia,?_⟩;show (DC t k (So t.mask (bits h%(t.mask+1),bits h) none)).j=j;rw[e2];exact e
def KF{t:SetTable}(hd:t.dummies = #[])(j:Nat):t.slot j ≠ .dummy:=by
 unfold slot;dsimp only;split
 ·exact λz=>by cases z
 ·rw[X9 (by rw[hd];unfold has;simp)];exact λz=>by cases z
theorem FN{t:SetTable}(hd:t.dummies = #[])(hashAt:Nat->Int)(h:Int):∀(fuel k:Nat) (p:Probe),k<fuel->t.slot (DC t k p).j=.empty ->
  (∃a,a<=k/\t.slot (DC t a p).j=.empty/\probe.go t hashAt h fuel p=some (.empty (DC t a p).j p.dummy)) \/
  (∃a i,a<k/\t.slot (DC t a p).j=.live i/\hashAt i=h/\probe.go t hashAt h fuel p=some (.candidate (DC t a p).j i (DC t (a+1) p)))
 |0,_,_,hk,_=>()
 |fuel+1,k,p,hk,he=>by
  unfold probe.go;cases q:t.slot p.j with
  |empty=>exact .inl ⟨0,YR _,q,rfl⟩
  |dummy=>exact absurd q (KF hd _)
  |live i=>
   cases k with
   |zero=>
    have:t.slot p.j=.empty:=he;rw[q] at this;cases this
   |succ k=>
    by_cases hh:hashAt i=h
    ·refine .inr ⟨0,i,abu _,q,hh,?_⟩;have:(hashAt i==h)=true:=by simpa using hh
     show (if (hashAt i==h)=true then _ else _)=_;rw[Yb this];rfl
    ·have:¬(hashAt i==h)=true:=by simpa using hh
     have e:(if (hashAt i==h)=true then some (Met.candidate p.j i (t.advance p)) else probe.go t hashAt h fuel (t.advance p))=probe.go t hashAt h fuel (t.advance p):=X9 this;have hdm:(t.advance p).dummy=p.dummy:=by unfold advance;split<;>rfl
     rcases FN hd hashAt h fuel k (t.advance p) () he with ⟨a,h1,h2,h3⟩|⟨a,i',h1,h2,h3,h4⟩
     ·refine .inl ⟨a+1,(),h2,?_⟩;show (if (hashAt i==h)=true then _ else _)=_;rw[e,h3,hdm];rfl
     ·refine .inr ⟨a+1,i',(),h2,h3,?_⟩;show (if (hashAt i==h)=true then _ else _)=_;rw[e,h4];rfl
theorem yn{m:Nat}{owner:Array (Option Nat)}{j0:Nat}(h0:owner.getD j0 (some 0)=none):∀(fuel n:Nat) (x:Nat×Nat),n<fuel->(blk m n x).1=j0->∃j,layClean.free m owner fuel x.1 x.2=some j/\owner.getD j (some 0)=none
 |0,_,_,h,_=>()
 |fuel+1,n,x,h,e=>by
  unfold layClean.free;cases q:(List.range (runEnd m x.1+1-x.1)).find? λk=>(owner.getD (x.1+k) (some 0)).isNone with
  |some k=>
   have:=List.find?_some q;exact⟨x.1+k,rfl,Option.isNone_iff_eq_none.1 this⟩
  |none=>
   cases n with
   |zero=>
    have hx:x.1=j0:=e;have hr:x.1<=runEnd m x.1:=by unfold runEnd;split<;>lia
    have:=adB.1 q 0 (YM.2 ());rw[Nat.add_zero,hx,h0] at this;exact absurd rfl this
   |succ n=>exact yn h0 fuel n (leap m x.1 x.2) () e
def Pj(m:Nat)(owner:Array (Option Nat)):List (Nat×Nat):=(List.range (m+1)).filterMap λj=>(owner.getD j none).map (j,·)
def M9(h:Int):bits h<2^64:=by unfold bits;have h1:=Int.emod_nonneg h (b:=(2^64:Int)) (by decide);have h2:=aeA h (b:=(2^64:Int)) (by decide);lia
theorem BF{α β:Type}{f g:α->Option β}:∀ {l:List α},(∀x∈l,f x=g x)->l.filterMap f=l.filterMap g
 |[],_=>rfl
 |a::l,h=>#v[YJ,YJ,h a Yg,BF λx hx=>h x (Yn _ hx)]
theorem Co:∀ {l m:List Nat},l.Nodup->(∀a∈l,a∈m)->l.length<=m.length
 |[],m,_,_=>YR _
 |a::l,m,h,k=>by obtain⟨h1,h2⟩:=YH.1 h;have ha:=k a Yg;have ih:=Co (m:=m.erase a) h2 λb hb=>(adC (λe=>h1 (by rw[<-e];exact hb))).2 (k b (Yn _ hb));rw[adE ha] at ih;have:=aeB ha;rw[Yk];lia
theorem JQ{α β:Type}(f g:α->Option β):∀(l:List α) (j:α),l.Nodup->j∈l->f j=none->(g j).isSome=true->(∀i∈l,i≠j->g i=f i)->(l.filterMap g).length=(l.filterMap f).length+1
 |[],_,_,h,_,_,_=>by cases h
 |i::l,j,nd,h,hf,hg,hs=>by
  obtain⟨n1,n2⟩:=YH.1 nd;by_cases e:i=j
  ·subst e;obtain⟨b,hb⟩:=acy.1 hg;have:l.filterMap g=l.filterMap f:=BF λx hx=>hs x (Yn _ hx) λz=>n1 (z▸hx);rw[YJ,YJ,hf,hb,this];rfl
  ·have hj:j∈l:=(Yj.1 h).resolve_left (YN e);have ih:=JQ f g l j n2 hj hf hg λx hx=>hs x (Yn _ hx);rw[YJ,YJ,hs i Yg e];cases f i with
   |none=>exact ih
   |some b=>rw[Yk,Yk,ih]
structure LOk(m k:Nat)(owner:Array (Option Nat)):Prop where
 size:owner.size=m+1
 len:(Pj m owner).length=k
 lt:∀(j v:Nat),owner.getD j none=some v->v<k
def LOk.empty{m k:Nat} (o:LOk m k owner)(hk:k<=m):∃j,j<=m/\owner.getD j (some 0)=none:=by
 apply aaN;intro hn;have all:∀j∈List.range (m+1),((owner.getD j none).map (j,·)).isSome=true:=λj hj=>by
  have hj':=YM.1 hj;cases q:owner.getD j none with
  |some v=>rfl
  |none=>have hs:=o.size;refine absurd ⟨j,(),?_⟩ hn;simp[Array.getD,hs,hj'] at q ⊢;exact q
 have:(Pj m owner).length=m+1:=by
  unfold Pj;have key:∀l:List Nat,(∀j∈l,((owner.getD j none).map (j,·)).isSome=true)->(l.filterMap λj=>(owner.getD j none).map (j,·)).length=l.length:=by
   intro l;induction l with
   |nil=>intro _;rfl
   |cons a l ih=>intro h;obtain⟨b,hb⟩:=acy.1 (h a Yg);rw[YJ,hb,Yk,Yk,ih λj hj=>h j (Yn _ hj)]
  rw[key _ all,ack]
 have:=o.len;lia
def LOk.set{m k:Nat} (o:LOk m k owner){j:Nat}(h:owner.getD j (some 0)=none):LOk m (k+1) (owner.setIfInBounds j (some k)):=by
 have hs:=o.size;have hj:j<m+1:=by apply aaN;intro hn;simp[Array.getD,hs,hn] at h
 have gd:∀i,(owner.setIfInBounds j (some k)).getD i none=if i=j then some k else owner.getD i none:=λi=>by
  by_cases e:i=j
  ·subst e;simp[Array.getD,hs,hj]
  ·rw[X9 e];rw[acU,acU,aeC (YN e)]
 have hj0:owner.getD j none=none:=by simp[Array.getD,hs,hj] at h ⊢;exact h
 refine⟨by rw[Array.size_setIfInBounds];exact hs,?_,λi v hv=>?_⟩
 ·unfold Pj;rw[JQ (λi=>(owner.getD i none).map (i,·)) _ _ j acV (YM.2 hj) (by rw[hj0];rfl) (by rw[gd,Yb rfl];rfl) λi _ hi=>by rw[gd,X9 hi]];have:=o.len;unfold Pj at this;lia
 ·rw[gd] at hv;split at hv
  ·cases hv;lia
  ·have:=o.lt i v hv;lia
def ER{t:SetTable}(hd:t.dummies = #[])(h:t.place.size<=t.mask):∃j,j<=t.mask/\t.slot j=.empty:=by
 apply aaN;intro hn;have all:∀j,j<=t.mask->t.place[below t.place j]?=some j:=λj hj=>by apply aaN;intro hx;refine hn ⟨j,hj,?_⟩;unfold slot;dsimp only;rw[X9 (~~~hx),X9 (by rw[hd];unfold has;simp)]
 have inj:∀l:List Nat,l.Nodup->(∀j∈l,j<=t.mask)->l.length<=t.place.size:=λl nd hl=>by
  have h1:(l.map (below t.place)).Nodup:=by rw[abT] at nd;rw[abT,aaa];refine abU ?_ nd;intro a b ha hb hab e;have e1:=all a (hl a ha);have e2:=all b (hl b hb);rw[e,e2] at e1;cases e1;exact hab rfl
  have h2:∀x∈l.map (below t.place),x∈List.range t.place.size:=λx hx=>by obtain⟨j,hj,rfl⟩:=Ym.1 hx;exact YM.2 (abw.1 (all j (hl j hj))).1
  have:=Co h1 h2;simpa using this
 have:=inj (List.range (t.mask+1)) acV λj hj=>by have:=YM.1 hj;lia
 rw[ack] at this;lia
def eS{α:Type}(xs:Array α)(p:Nat)(x:α):(insertAt xs p x).size=xs.size+1:=by unfold insertAt;rw[Array.size_append,Array.size_push,acl,acl];lia
def Msk(m:Nat):Prop:=m=7\/m=31\/m=127\/m=511
def Msk.full{m:Nat}(h:Msk m):Full m:=by
 rcases h with rfl|rfl|rfl|rfl
 ·exact S9
 ·exact QJ
 ·exact Nr
 ·exact Nt
structure TOk(n:Nat)(t:SetTable):Prop where
 msk:Msk t.mask
 pl:t.place.size=n
 dm:t.dummies = #[]
def TOk.fits{n:Nat} (o:TOk n t)(h:n<=t.mask):t.fits n=true:=by unfold SetTable.fits SetTable.fill;rw[o.dm,o.pl];simp[h]
def Vf{m n:Nat}(h:Msk m)(h1:n*5<m*3)(h2:m*3<=(n+1)*5)(hn:n<300):Msk (sizeAbove (grown (n+1))-1)/\(n+1)*5<(sizeAbove (grown (n+1))-1)*3/\sizeAbove (grown (n+1))<=512:=by
 rcases h with rfl|rfl|rfl|rfl
 ·have:n=4:=()
  subst this;exact⟨.inr (.inl (by decide +kernel)),by decide +kernel,by decide +kernel⟩
 ·have:n=18:=()
  subst this;exact⟨.inr (.inr (.inl (by decide +kernel))),by decide +kernel,by decide +kernel⟩
 ·have:n=76:=()
  subst this;exact⟨.inr (.inr (.inr (by decide +kernel))),by decide +kernel,by decide +kernel⟩
 ·lia
end ST
namespace M
open PySem L2
section
variable {K:Zj}
@[simp]def W2(i:Nat):XE:=λρ=>(mm ρ i).map λks=>.int (ks.length:Nat)
end
end M
namespace DY
open PySem
section
variable {prog:Program}{w:World}{K:Type}[DecidableEq K]{knd:HeapKind prog w K}{A:Around}{E:Ze}{s:Shared}
theorem BD{β:Type}(f:K×Addr×Value->β)(k:K):∀ {xs:List (K×Addr×Value)} {j:Nat} {p:Addr×Value},(xs.map (·.1)).Nodup->xs[j]?=some (k,p)->(xs.map f).eraseIdx j=(xs.filter λx=>decide (x.1≠k)).map f
 |[],j,p,_,hj=>by simp at hj
 |x::l,0,p,hn,hj=>by
  simp at hj;subst hj;rw[Yo,YH] at hn;have:l.filter (λx=>decide (x.1≠k))=l:=aeD.2 λy hy=>by simp only[ne_eq,YO];exact λe=>hn.1 (Ym.2 ⟨y,hy,e⟩)
  rw[abh (by simp),this];rfl
 |x::l,j+1,p,hn,hj=>by rw[aab] at hj;rw[Yo,YH] at hn;have hne:x.1≠k:=λe=>hn.1 (by rw[e];exact Ym.2 ⟨(k,p),aaP hj,rfl⟩);rw[abV (~~~hne),Yo,Yo,aes,BD f k hn.2 hj]
def AR{d a:Addr}{xs:List (K×Addr×Value)}{k:K}{p:Addr×Value}{Q:Option DictEntry->Shared->Prop}(hu:knd.room A)(hkey:knd.is s.heap k a)(hm:s.heap.DictOfH knd d xs)(hp:atKey xs k=some p)(hsz:xs.length<=sizeLine)
  (hQ:∀h',h'.DictOfH knd d (xs.filter λx=>decide (x.1≠k))->Heap.SameBut d s.heap h'->Q (some (entryOfKey knd (k,p))) { s with heap:=h',toks:=s.toks+knd.draws k }):wpAny (model prog w) A (Builtin.Dict.takeOut d (.ref a)) Q E s:=by
 obtain⟨o,es,ep,ho,hc,hd,he,his,hn⟩:=hm;unfold Builtin.Dict.takeOut;refine Y1 (X8 (knd.pyHash hu hkey (X8 (wpAny_dictFind_heap (s:={ s with toks:=s.toks+knd.draws k }) hu hkey ho hd he his hn (λhno=>?_) λj q hj=>?_))))
 ·rw[atKey_none_of_get hno] at hp;cases hp
 ·rw[atKey_of_get hn hj] at hp;cases hp;refine X8 (acm (s:={ s with toks:=s.toks+knd.draws k }) ho hd ?_);rw[entry_at he j,hj];have hz:es.size<=sizeLine:=by rw[size_of_entries he];exact hsz
  refine X8 (wpAny_updateDictKeys (hz:=hz) (s:={ s with toks:=s.toks+knd.draws k }) ho hd (Yc (hQ _ ⟨_,_,ep+1,aah _ ho (Obj.isFreed_of_dict (aeE hd _)),hc.mapDictKeys _,aeE hd _,?_,λx hx=>?_,?_⟩ (abe ..))))
  ·rw[<-BD (entryOfKey knd) k hn hj,<-he];obtain⟨l⟩:=es;simp
  ·exact knd.keeps (his x (YC.1 hx).1) ho hd (abe ..)
  ·exact hn.sublist ((abi).map _)
def Lh{d a:Addr}{xs:List (K×Addr×Value)}{k:K}{p:Addr×Value}{Q:Ze}(hu:knd.room A.in1)(hkey:knd.is s.heap k a)(hm:s.heap.DictOfH knd d xs)(hp:atKey xs k=some p)(hsz:xs.length<=sizeLine)
  (hQ:∀h',h'.DictOfH knd d (xs.filter λx=>decide (x.1≠k))->Heap.SameBut d s.heap h'->Q p.2 { s with heap:=h',toks:=s.toks+knd.draws k }):wpAny (model prog w) A (call (.builtin "dict.pop") [.ref d,.ref a]) Q E s:=by
 have hT:=hm.typeIs;obtain⟨o,es,ep,ho,hc,hd,he,his,hn⟩:=id hm;refine ab3 (acP F.slot_dict_pop.plain F.entry_dict_pop (F.slot_dict_pop.check _ _ _ _ _ _ _ _ hT (F.args_dict_pop_2 _ _) ?_));unfold Builtin.«dict.pop»;refine X8 ?_;unfold Builtin.Dict.keyAndDefault;refine X8 (acQ hT ?_);show wpAny _ _ (pure (d,Value.ref a,none)) _ _ s;refine Yc ?_;have hne:es.isEmpty=false:=by
  cases q:es.isEmpty with
  |false=>rfl
  |true=>
   have e0:es.toList=[]:=by simpa[Array.isEmpty_iff] using q
   rw[e0] at he;cases xs with
   |nil=>cases hp
   |cons _ _=>cases he
 refine X8 (acm ho hd (X8 (Yc ?_)));rw[hne];refine X8 (AR hu hkey hm hp hsz λh' hm' hs'=>?_);exact X8 (wpAny_letGo (Yc (hQ h' hm' hs')))
def UT(s:Heap)(d:Addr)(es:Array DictEntry)(ep:Nat):Prop:=∃o,s.get? d=some o/\o.ExactDict/\o.data=.dict es ep
def Hg{d:Addr}{es:Array DictEntry}{ep:Nat}{Q:Ze}(hd:(d==sysModules)=false)(hm:UT s.heap d es ep)
  (hQ:Q (.ref s.heap.objs.size) { s with heap:=s.heap.push { cls:=.type "dict_keyiterator",data:=.fields #[.ref d,.int 0 0,.int es.size 0,.int ep 0] } }):wpAny (model prog w) A (pyIter (.ref d)) Q E s:=by
 obtain⟨o,ho,hc,hdat⟩:=hm;have hT:s.TypeIs (.ref d) "dict" := ⟨o,ho,hc.1⟩
 refine acM hT F.slot_dict_iter (aae F.slot_dict_iter hT F.entry_dict_iter ?_ (F.args_dict_iter_1 _));unfold Builtin.«dict.__iter__»;refine X8 ?_;unfold Builtin.Dict.dictSlotNone;refine X8 (acQ hT ?_);show wpAny _ _ (pure (Value.ref d)) _ _ s;refine Yc ?_;show wpAny _ _ (Builtin.Dict.showsAll d >>= _) _ _ s;unfold Builtin.Dict.showsAll;rw[X9 (by rw[hd];exact Y4)];refine X8 (Yc (X8 (acm ho hdat (X8 (adF ho hdat (X8 (YZ (Yc ⟨_,rfl, "dict_keyiterator",_,⟨_,Yy _ rfl,rfl⟩,acn.lookup,?_⟩))))))));simpa[rawInt] using hQ
def KE{it d:Addr}{i ep:Nat}{es:Array DictEntry}{Q:Zi->Shared->Prop}(hit:s.heap.IsKeyIter it d i es.size ep)(hm:UT s.heap d es ep)(hlt:i<es.size)
  (hQ:∀h',h'.IsKeyIter it d (i+1) es.size ep->Heap.SameBut it s.heap h'->Q (some es[i].key) { s with heap:=h' }):wpAny (model prog w) A (pyNext (.ref it)) Q E s:=by
 obtain⟨o,ho,hc,hd⟩:=id hit;obtain⟨od,hod,hcd,hdd⟩:=hm;unfold pyNext;refine X8 (aa7 (aa4 (name:=Str.ofString "__next__") hit.typeIs acn (aae acn hit.typeIs aeF ?_ (aeG _))));refine X8 (Yc (X8 (X8 ?_)));first|refine X8 (acW hit.typeIs (Yc (X8 (abW ho hd ?_))))|refine X8 (acX hit.typeIs (Yc (X8 (abW ho hd ?_))))
 simp only[show Builtin.Dict_items.ownsTuple "dict_keyiterator"=false from by decide,acF,aaQ];show wpAny _ _ (if (Value.ref d==Value.none)=true then _ else _) _ _ s;rw[X9 (show ¬((Value.ref d==Value.none)=true) from Y4)];refine X8 (Yc (X8 (acm hod hdd ?_)));rw[X9 (by simp)];refine X8 (Yc (X8 (adF hod hdd ?_)));rw[X9 (by simp)];refine Yc ?_;simp only[show ¬((i:Int)<0) from (),aaQ,aaE,aaX hlt];refine X8 ?_;first|refine X8 (acW hit.typeIs (Yc (X8 (adG hit.typeIs ?_))))|refine X8 (acX hit.typeIs (Yc (X8 (adG hit.typeIs ?_))))
 show wpAny _ _ (setField (.ref it) 1 (rawInt ((i:Int)+1)) >>= _) _ _ s;refine X8 (abd ho hd (by simp) ?_);have hit':(s.heap.update it (Obj.mapFields (·.setIfInBounds 1 (rawInt ((i:Int)+1))))).IsKeyIter it d (i+1) es.size ep:=⟨_,aah _ ho (abx (aat hd _)),(aci ..).trans hc,by rw[aat hd];simp[rawInt]⟩
 refine X8 (Y1 (X8 (adG (s:={ s with heap:=s.heap.update it (Obj.mapFields (·.setIfInBounds 1 (rawInt ((i:Int)+1)))) }) hit'.typeIs ?_)));show wpAny _ _ (pure es[i].key) _ _ _;exact Yc (Yc ⟨_,rfl,Yc (hQ _ hit' (abe ..))⟩)
def vR{it:Addr}{i ep:Nat}{es:Array DictEntry}{Q:Zi->Shared->Prop}(hh:A.handled=none)(hit:s.heap.IsKeyIter it d i es.size ep)(hm:UT s.heap d es ep)(hge:es.size<=i)
  (hQ:∀h',Heap.ExtBut it s.heap h'->Q none { s with heap:=h' }):wpAny (model prog w) A (pyNext (.ref it)) Q E s:=by
 obtain⟨o,ho,hc,hd⟩:=id hit;obtain⟨od,hod,hcd,hdd⟩:=hm;unfold pyNext;refine X8 (aa7 (aa4 (name:=Str.ofString "__next__") hit.typeIs acn (aae acn hit.typeIs aeF ?_ (aeG _))));refine X8 (Yc (X8 (X8 ?_)));first|refine X8 (acW hit.typeIs (Yc (X8 (abW ho hd ?_))))|refine X8 (acX hit.typeIs (Yc (X8 (abW ho hd ?_))))
 simp only[show Builtin.Dict_items.ownsTuple "dict_keyiterator"=false from by decide,acF,aaQ];show wpAny _ _ (if (Value.ref d==Value.none)=true then _ else _) _ _ s;rw[X9 (show ¬((Value.ref d==Value.none)=true) from Y4)];refine X8 (Yc (X8 (acm hod hdd ?_)));rw[X9 (by simp)];refine X8 (Yc (X8 (adF hod hdd ?_)));rw[X9 (by simp)];refine Yc ?_;simp only[show ¬((i:Int)<0) from (),aaQ,aaE,adH hge];refine X8 ?_;first|refine X8 (acW hit.typeIs (Yc ?_))|refine X8 (acX hit.typeIs (Yc ?_)) ; skip
 show wpAny _ _ (setField (.ref it) 0 .none >>= _) _ _ s;refine X8 (abd ho hd (by simp) ?_);show wpAny _ _ (newExc (.type "StopIteration") [] >>= _) _ _ _;refine X8 ?_;simp only[newExc,newTuple];refine X8 (YZ ?_ (by size_fits));refine X8 (m:=firstArgMember _ _) (aac (a:=Value.none) (by first|rfl|(simp only[firstArgMember];rfl)) (YZ ?_ (by size_fits)));simp only[raiseNew];refine X8 (acL ?_);rw[show A.in1.handled=none from hh];refine X8 (Yc (aby ?_));refine X8 (abz (T := "StopIteration") (b:=true) ⟨_,Yy _ rfl,rfl⟩ adv ?_);exact Yc (hQ _ (((abe ..).extBut.push _).push _))
end
end DY
namespace L2
open PySem PySem.Spec PyProof.Rows
section
variable {X:Cx}{ZN:Zf}{σ:St}{H:Hp}{s:Shared}{a b:Addr}{kvs:List (List eN×V)}{k:List eN}{v:V}{A:Around}{E:Ze}
def KT.less{H:Hp}{kvs:List (List eN×V)}{xs:List (List eN×Addr×Value)}(r:KT H kvs xs)(k:List eN):KT H (yg kvs k) (xs.filter λx=>decide (x.1≠k)):=by
 unfold KT at *;induction r with
 |nil=>exact .nil
 | @cons p q l l' h t ih=>
  unfold yg at *;by_cases e:p.1=k
  ·rw[abh (~~~e),abh (by rw[<-h.1];simpa using e)];exact ih
  ·rw[abV (~~~e),abV (by rw[<-h.1];simpa using e)];exact .cons h ih
def rPopT:V->Za->Hp->VK->Prop:=λx vs H Q=>∃a b kvs k v,x=.ref a/\vs=[.ref b]/\H a=some (.dT kvs)/\H b=some (.tup (k.map kV))/\lB kvs k=some v/\Q v (bi H a (.dT (yg kvs k)))
def NR(hu:(tupleKind (bh X.prog X.w)).room X.A.in1):UV X "dict.pop" rPopT:=by
 intro ZN s σ H x vs v us Q I rx rv h;obtain⟨a,b,kvs,k,y,rfl,rfl,ea,eb,hv,q⟩:=h;cases (show v=Value.ref a from rx);obtain⟨u,rfl,ru⟩:=rv.one;cases (show u=Value.ref b from ru);obtain⟨z,hd,xs,rel,dd⟩:=FF I.hok ea;have hz:xs.length<=sizeLine:=by rw[<-abl rel];exact z
 have rk:=rel.val k;rw[hv] at rk;cases hp:atKey xs k with
 |none=>rw[hp] at rk;exact rk.elim
 |some p=>
  rw[hp] at rk;refine DY.Lh hu (rF I.hok eb) dd hp hz λh' dd' hs=>⟨y,_,?_,rk,q⟩
  obtain⟨o,es,ep,ho,h2,h3,h4,_,h5⟩:=dd';refine pV I (by rw[ea];exact True.intro) hs ⟨o,ho⟩ ⟨Yr (JI _ _) z,hd,_,((show KT H kvs xs from rel).less k).keeps λc ys ec=>?_,o,es,ep,ho,h2,h3,h4,h5⟩;rw[aw (yK ec ea (λz=>nomatch z))];exact ec
end
section
variable {X:Cx}{ZN:Zf}{σ:St}{H:Hp}{s:Shared}{a:Addr}{o:Obj}{kvs:List (List eN×V)}
def QI(I:Inv X ZN σ H s)(e:H a=some (.dT kvs)):∃o,s.heap.get? a=some o/\Inv X ZN σ (bi H a (.frz o (.dT kvs))) s:=by
 obtain⟨z,hd,xs,rel,o,es,ep,ho,h2,h3,h4,h5⟩:=(show ObjOk X.prog X.w H s.heap a (.dT kvs) from I.hok a _ e)
 refine⟨o,ho,?_⟩;have:=pV (t':=s.toks) (h':=s.heap) (ob:=.frz o (.dT kvs)) I (by rw[e];exact True.intro) ⟨rfl,λ_ _=>rfl⟩ ⟨o,ho⟩ ⟨ho,z,hd,xs,Paired.mapP rel λp q y=>⟨y.1,by rw[aw (yK y.2.1 e (λz=>nomatch z))];exact y.2.1,y.2.2⟩,o,es,ep,ho,h2,h3,h4,h5⟩;exact this
def Inv.thaw{u:HO}(I:Inv X ZN σ H s)(e:H a=some (.frz o u))(hn:∀o' u',X.H₀ a≠some (.frz o' u'))(hu:(∀x,u ≠ .own x)/\(∀xs,u ≠ .tup xs)):Inv X ZN σ (bi H a u) s:=by
 have ne:∀b x,H b=x->(∀o' u',x≠some (.frz o' u'))->b≠a:=λb x hb hx z=>by subst z;rw[e] at hb;exact hx _ _ hb.symm
 have n0:∀b,H b=none->bi H a u b=none:=λb hb=>by rw[aw (ne b _ hb λ_ _ z=>by cases z)];exact hb
 exact {
  ok:=I.ok
  os:=I.os
  bare:=I.bare
  base:=⟨I.base.keep,I.base.slot,λb ob q n hx=>n0 b (I.base.free b ob q n hx),I.base.there,λb xs q=>by rw[aw (ne b _ (I.base.tups b xs q) λ_ _ z=>by cases z)];exact I.base.tups b xs q,
   λb o' u' q=>by rw[aw λz=>hn o' u' (by rw[<-z];exact q)];exact I.base.frzs b o' u' q,λb ps q=>by
    obtain⟨m,em⟩:=I.base.tbls b ps q
    exact⟨m,by rw[aw (ne b _ em λ_ _ z=>by cases z)];exact em⟩⟩
  loc:=I.loc
  cell:=I.cell
  free:=n0 _ I.free
  freeC:=λx c q=>n0 _ (I.freeC x c q)
  pin:=λp hp=>by obtain⟨q1,q2,q3⟩:=I.pin p hp;exact⟨q1,n0 _ q2,q3⟩
  hok:=λb w hb=>by
   have st:∀w',ObjOk X.prog X.w H s.heap b w'->ObjOk X.prog X.w (bi H a u) s.heap b w':=λw' ok=>ok.stay (λ_ _ _ z=>z) (λc hc=>by rw[aw (ne c _ hc λ_ _ z=>by cases z)];exact hc) λc xs hc=>by rw[aw (ne c _ hc λ_ _ z=>by cases z)];exact hc
   by_cases hba:b=a
   ·subst hba;rw[aA] at hb;cases hb;exact st _ (I.hok b _ e).2
   ·rw[aw hba] at hb;exact st w (I.hok b w hb)
  len:=I.len }
end
theorem yO{α β:Type}{F:α->β->Prop}:∀ {l:List α} {m:List β} {i:Nat} {y:β},Paired F l m->m[i]?=some y->∃p,l[i]?=some p/\F p y
 |_,_,_,_,.nil,h=>by simp at h
 |_,_,0,_,.cons r _,h=>by simp at h;subst h;exact⟨_,rfl,r⟩
 |_,_,i+1,_,.cons _ t,h=> ~~~yO t (by simpa using h)
def Mo(i:Nat)(t:TE):TE:=λσ H Q=>∃a kvs,σ[i]?=some (some (.ref a))/\H a=some (.dT kvs)/\∀o,t σ (bi H a (.frz o (.dT kvs))) λv H2=>H2 a=some (.frz o (.dT kvs))/\Q v (bi H2 a (.dT kvs))
def Aj{X:Cx}{e:Expr}{t:TE}(i:Nat)(h:PE X e t):PE X e (Mo i t):=by intro ZN s σ H Q I q;obtain⟨a,kvs,_,ea,q⟩:=q;obtain⟨o,ho,I1⟩:=QI I ea;refine bZ (h ZN s σ _ _ I1 (q o)) λv s1 h1=>?_;obtain⟨x,H2,I2,r2,e2,q2⟩:=h1;refine⟨x,_,I2.thaw e2 (λo' u' z=>?_) ⟨λ_ z=>(nomatch z),λ_ z=>(nomatch z)⟩,r2,q2⟩;have:=I.base.frzs a o' u' z;rw[ea] at this;cases this
def Wd(a:Addr)(o:Obj)(kvs:List (List eN×V)):It:=
 ⟨λi H=>H a=some (.frz o (.dT kvs))/\i<kvs.length,λi H x H'=>H'=H/\∃b k v,kvs[i]?=some (k,v)/\x=.ref b/\H b=some (.tup (k.map kV)),λi H=>H a=some (.frz o (.dT kvs))/\kvs.length<=i⟩
def Tc(te:TE):TI:=λσ H R=>te σ H λx H1=>∃a o kvs,x=.ref a/\H1 a=some (.frz o (.dT kvs))/\R (Wd a o kvs) H1
def MA{P:Program}{w:World}{K:Zj}{tg:Expr}{es:Array DictEntry}{ep:Nat}{o:Obj}{kvs:List (List eN×V)}(a it:Addr)(ho:o.data=.dict es ep)(hx:o.ExactDict)(hl:es.size=kvs.length):Turn P w K tg (Wd a o kvs) [it] it (λi h=>h.IsKeyIter it a i es.size ep) where
 mem:=by simp
 obj:=λi h st b hb=>by obtain⟨q,e,c,d⟩:=st;rw[Yp.1 hb];exact⟨q,e,λv z=>by rw[d] at z;cases z⟩
 keep:=λi h h' st k=>st.at λo e=>k it (by simp) o e
 item:=by
  intro X hP hw hK hc i ZN s σ H E I hf st hg;subst hP hw hK;obtain⟨ea,hi⟩:=hg;obtain⟨g1,z,hd,xs,rel,o',es',ep',h1,h2,h3,h4,h5⟩:=(show ObjOk X.prog X.w H s.heap a (.frz o (.dT kvs)) from I.hok a _ ea)
  rw[g1] at h1;cases h1;rw[ho] at h3;cases h3;obtain⟨f0,f1,f2,f3,f4,f5⟩:=hf it (by simp);have hlt:i<es.size:=by rw[hl];exact hi
  refine DY.KE st ⟨o,g1,hx,ho⟩ hlt λh' st' sb=>?_;have I1:Inv X ZN σ H { s with heap:=h' }:=I.turned (t':=s.toks) (λb o hb e=>(sb.2 b hb).trans e) f0 f1 f3 f4 f5;obtain⟨q,e,c,d⟩:=id st';have hxi:es[i]?=(xs[i]?).map (entryOfKey (tupleKind (bh X.prog X.w))):=entry_at h4 i;rw[aaX hlt] at hxi;cases qx:xs[i]? with
  |none=>rw[qx] at hxi;cases hxi
  |some y=>rw[qx] at hxi;have ek:es[i]=entryOfKey (tupleKind (bh X.prog X.w)) y:=YU hxi;obtain⟨p,qp,r1,r2,r3⟩:=yO rel qx;refine⟨_,rfl,u9 (s:={ s with heap:=h' }) e c d (by decide) ⟨.ref y.2.1,H,I1,?_,⟨rfl,y.2.1,p.1,p.2,qp,rfl,r2⟩,st',λb hb=>(hf b hb).1⟩⟩;rw[ek];rfl
 done:=by
  intro X hP hw hK hc i ZN s σ H E I hf st hg;subst hP hw hK;obtain⟨ea,hi⟩:=hg;obtain⟨g1,_⟩:=(show ObjOk X.prog X.w H s.heap a (.frz o (.dT kvs)) from I.hok a _ ea)
  obtain⟨f0,f1,f2,f3,f4,f5⟩:=hf it (by simp);exact DY.vR (I.ok.hd hc) st ⟨o,g1,hx,ho⟩ (by rw[hl];exact hi) λh' eb=>⟨rfl,I.turned (t':=s.toks) (λb o hb e=>eb b o hb e) f0 f1 f3 f4 f5⟩
 self:=λ_ _ _ _ _ st h=>wpAny_pyIter_keyiter st h
def K7{X:Cx}{tg l:Expr}{tl:TE}(hl:PE X l tl):PI X tg l (Tc tl):=by
 intro ZN s σ H R I h;refine bZ (hl ZN s σ H _ I h) λv s1 h1=>?_;obtain⟨x,H1,I1,r1,a,o,kvs,e,ea,q⟩:=h1;subst e;cases r1;obtain⟨g1,z,hd,xs,rel,o',es,ep,h1,h2,h3,h4,h5⟩:=(show ObjOk X.prog X.w H1 s1.heap a (.frz o (.dT kvs)) from I1.hok a _ ea)
 rw[g1] at h1;cases h1;have hsz:es.size=kvs.length:=by rw[size_of_entries h4,abl rel]
 refine DY.Hg hd ⟨o,g1,h2,h3⟩ ⟨s1.heap.objs.size,[s1.heap.objs.size],_,_,H1,rfl,I1.kept (t':=s1.toks) λb o e=>Yq _ e,MA a _ h3 h2 hsz,⟨_,Yy _ rfl,rfl,rfl⟩,λb hb=>?_,q⟩;rw[Yp.1 hb];exact I1.fpOk (Yi _) I1.fresh
def Pt:Za->Hp->VK->Prop:=λvs H Q=>∃l,∃es:List (Addr×Addr×List eN×V),vs=[.ref l]/\H l=some (.lst (es.map λe=>.ref e.1))/\(∀e∈es,H e.1=some (.tup [.ref e.2.1,e.2.2.2])/\H e.2.1=some (.tup (e.2.2.1.map kV))) /\
 es.length<sizeLine/\∀p,H p=none->Q (.ref p) (bi H p (.dT (ll [] (es.map λe=>(e.2.2.1,e.2.2.2)))))
def Ov{P:Program}{w:World}{A:Around}(h:A.units+64<cLine):(tupleKind (bh P w)).room A.in1.in1:=acj (show A.units+1+1<cLine from aaf () h)
def DQ{X:Cx}(hu:(tupleKind (bh X.prog X.w)).room X.A.in1.in1)(hc:X.calm=true):CallR X (.type "dict") Pt:=by
 intro ZN s σ H xs us Q I r h;obtain⟨l,es,rfl,el,he,hl,q⟩:=h;obtain⟨u,rfl,ru⟩:=r.one;cases (show u=Value.ref l from ru);have hn:=I.hok.fresh (Yi s.heap.objs.size);have I1:=I.laid (a:=s.heap.objs.size) (o:=.dT []) (h':=s.heap.push { cls:=.type "dict",data:=.dict #[] }) (t':=s.toks) (λ_ _ q=>Yq _ q) (Yi _) (uV s.heap I.big);have nl:l≠s.heap.objs.size:=aN el hn;have ek:∀ {b u},H b=some u->bi H s.heap.objs.size (.dT []) b=some u:=λ{b u} z=>by rw[aw (aN z hn)];exact z
 obtain⟨hll,its,n,rl,hol⟩:=(show ObjOk X.prog X.w (bi H s.heap.objs.size (.dT [])) (s.heap.push { cls:=.type "dict",data:=.dict #[] }) l (.lst (es.map λe=>V.ref e.1)) from I1.hok l _ (ek el))
 refine callType_codes (Q₁:=λobj s₁=>obj=.ref s.heap.objs.size/\s₁={ s with heap:=s.heap.push { cls:=.type "dict",data:=.dict #[] } }) F.kt_called_dict (F.kt_typeCall_dict_1 _) F.entry_dict_init (kt_code_dict_new _ ⟨rfl,rfl⟩) ?_;rintro obj s₁ ⟨rfl,rfl⟩;have hTa:({ s with heap:=s.heap.push { cls:=.type "dict",data:=.dict #[] } }:Shared).TypeIs (.ref s.heap.objs.size) "dict" := ⟨_,Yy _ rfl,rfl⟩
 have hTl:({ s with heap:=s.heap.push { cls:=.type "dict",data:=.dict #[] } }:Shared).TypeIs (.ref l) "list" := ⟨_,hol,rfl⟩
 have hh:X.A.in1.handled=none:=I.ok.hd hc;refine⟨hTa,F.args_dict_init_2 _ _,?_⟩;unfold Builtin.«dict.__init__»;refine X8 ?_;unfold Builtin.Dict.selfAndRest;refine X8 (acQ hTa ?_);show wpAny _ _ (pure (s.heap.objs.size,[Value.ref l])) _ _ _;refine Yc ?_;show wpAny _ _ (Builtin.Dict.updateFrom "dict.__init__" s.heap.objs.size (.ref l) [] .none) _ _ _;unfold Builtin.Dict.updateFrom;refine X8 (aa5 hTl ?_);rw[Yb (by decide)];refine X8 (DX.yA hh hol λh' tk' hk=>?_);rw[Yb (show (none:Zi).isNone=true from rfl)];refine X8 (aao ?_);have I2:Inv X ZN σ (bi H s.heap.objs.size (.dT [])) { s with heap:=h',toks:=tk' }:=I1.kept (t':=tk') hk;obtain⟨its1,rl1,pl1,_⟩:=I2.list (.inl (.inl (ek el)));refine X8 (acg pl1.isList ?_);have I3:Inv X ZN σ (bi H s.heap.objs.size (.dT [])) { s with heap:=h'.push { cls:=.type "list_iterator",data:=.fields #[.ref l,.int 0 0] },toks:=tk' }:=I2.kept (t':=tk') λb o e=>Yq _ e;refine Yc ⟨aba DX.iX _,?_⟩;refine xa (A:=X.A.in1) (xs:=es.map λe=>V.ref e.1) (ZN:=ZN) (σ:=σ) hu hh es 0 [] _ _ I3 aA (I2.fpOk (Yi _) (I2.hok.fresh (Yi _))) ⟨_,Yy _ rfl,rfl,rfl⟩ (ek el) (#v[abP]) (λe h'=>?_) (~~~hl) λs' I'=>?_
 ·obtain⟨z1,z2⟩:=he e h';exact⟨ek z1,ek z2⟩
 ·rw[GB] at I';exact⟨rfl,.ref s.heap.objs.size,_,I',rfl,q _ hn⟩
end L2
namespace M
open PySem L2
section
variable {K:Zj}{S S' H H':Hp}
mutual
def iU:D->Bool
 |.dic _=>false
 |.dif _=>false
 |.lst l=>noDics l
 |.tup l=>noDics l
 |.scr l=>noDics l
 |.mtp l=>noDics l
 |.ins _ _ l=>noDics l
 |_=>true
def noDics:Zc->Bool
 |[]=>true
 |d::l=>iU d&&noDics l
end
mutual
theorem Den.less{a:Addr}{o:Obj}{kvs:List (List eN×V)}(hs:∀b,b≠a->S' b=S b)(ha:S a=some (.frz o (.dT kvs))):∀ {d:D} {v:V},iU d=true->Den K S d v->Den K S' d v
 |.dic _,_,n,_=>by unfold iU at n;cases n
 |.dif _,_,n,_=>by unfold iU at n;cases n
 |.non,_,_,h=>by unfold Den at *;exact h
 |.bl _,_,_,h=>by unfold Den at *;exact h
 |.int _,_,_,h=>by unfold Den at *;exact h
 |.str _,_,_,h=>by unfold Den at *;exact h
 |.ty _,_,_,h=>by unfold Den at *;exact h
 |.lst l,_,n,h=>by
  unfold iU at n;obtain⟨p,xs,e,h1,h2⟩:=Zu.1 h;refine Zu.2 ⟨p,xs,e,?_,Dens.less hs ha n h2⟩;rcases h1 with h1|⟨q,h1⟩
  ·exact .inl (by rw[hs p λz=>by subst z;rw[ha] at h1;cases h1];exact h1)
  ·exact .inr ⟨q,by rw[hs p λz=>by subst z;rw[ha] at h1;cases h1];exact h1⟩
 |.tup l,_,n,h=>by
  unfold iU at n;obtain⟨p,xs,e,h1,h2⟩:=Zv.1 h;exact Zv.2 ⟨p,xs,e,(show S' p=some (.tup xs) by rw[hs p λz=>by subst z;rw[show S p=some (.tup xs) from h1] at ha;cases ha];exact h1),Dens.less hs ha n h2⟩
 |.scr l,_,n,h=>by
  unfold iU at n;obtain⟨p,xs,e,h1,h2⟩:=ZJ.1 h;refine ZJ.2 ⟨p,xs,e,?_,Dens.less hs ha n h2⟩;rcases h1 with (h1|⟨q,h1⟩)|h1
  ·exact .inl (.inl (by rw[hs p λz=>by subst z;rw[ha] at h1;cases h1];exact h1))
  ·exact .inl (.inr ⟨q,by rw[hs p λz=>by subst z;rw[ha] at h1;cases h1];exact h1⟩)
  ·exact .inr h1
 |.mtp l,_,n,h=>by
  unfold iU at n;obtain⟨p,xs,e,h1,h2⟩:=Zy.1 h;refine Zy.2 ⟨p,xs,e,?_,Dens.less hs ha n h2⟩;rcases h1 with (h1|⟨q,h1⟩)|h1
  ·exact .inl (.inl (by rw[hs p λz=>by subst z;rw[ha] at h1;cases h1];exact h1))
  ·exact .inl (.inr ⟨q,by rw[hs p λz=>by subst z;rw[ha] at h1;cases h1];exact h1⟩)
  ·exact .inr h1
 |.ins _ _ l,_,n,h=>by unfold iU at n;obtain⟨p,C,dx,fs,e,h0,h1,h2,h3⟩:=ZK.1 h;exact ZK.2 ⟨p,C,dx,fs,e,h0,by rw[hs p λz=>by subst z;rw[ha] at h1;cases h1];exact h1,h2,Dens.less hs ha n h3⟩
theorem Dens.less{a:Addr}{o:Obj}{kvs:List (List eN×V)}(hs:∀b,b≠a->S' b=S b)(ha:S a=some (.frz o (.dT kvs))):∀ {ds:Zc} {xs:Za},noDics ds=true->Dens K S ds xs->Dens K S' ds xs
 |[],_,_,h=>by rw[h.nil_of];exact .nil
 |_::_,_,n,h=>by unfold noDics at n;obtain⟨n1,n2⟩:=aav.1 n;obtain⟨y,ys,rfl,a,b⟩:=h.cons_of;exact .cons (Den.less hs ha n1 a) (Dens.less hs ha n2 b)
end
def Ja:Sl->Option (Zm)
 |.ow (.dic ks)=>some ks
 |.ow (.hd _ ks [])=>some ks
 |_=>none
def Pz(ks:Zm):Sl->Sl
 |.ow (.dic _)=>.ow (.dic ks)
 |.ow (.hd p _ [])=>.ow (.hd p ks [])
 |s=>s
@[simp]def FX(ks:Zm):Ja (.ow (.dic ks))=some ks:=rfl
@[simp]def Kn(p:Addr)(ks:Zm):Ja (.ow (.hd p ks []))=some ks:=rfl
@[simp]def UL(ks ks':Zm):Pz ks (.ow (.dic ks'))=.ow (.dic ks):=rfl
@[simp]def Vr(p:Addr)(ks ks':Zm):Pz ks (.ow (.hd p ks' []))=.ow (.hd p ks []):=rfl
def N7{s:Sl}{ks:Zm}(h:Ja s=some ks):∃o,s=.ow o/\(∀S H v fp,Own K S H o v fp->∃a,v=.ref a/\fp=[a]/\H a=some (.dT (bw ks)))/\(∀S H v fp,Own K S H o v fp->∀a,v=.ref a->∀(S' H':Hp) ks',H' a=some (.dT (bw ks'))->∃o',Pz ks' s=.ow o'/\Own K S' H' o' (.ref a) [a]):=by
 unfold Ja at h;split at h
 ·cases h;refine⟨_,rfl,λS H v fp ow=>Zt.1 ow,λS H v fp ow a e S' H' ks' hh=>⟨_,rfl,Zt.2 ⟨a,rfl,rfl,hh⟩⟩⟩
 ·cases h;refine⟨_,rfl,λS H v fp ow=>?_,λS H v fp ow a e S' H' ks' hh=>⟨_,rfl,?_⟩⟩
  ·obtain⟨xs,f,e,e2,h1,h2⟩:=Zz.1 ow;obtain⟨rfl,rfl⟩:=h2.nil_of;exact⟨_,e,e2,h1⟩
  ·obtain⟨xs,f,e1,e2,h1,h2⟩:=Zz.1 ow;obtain⟨rfl,rfl⟩:=h2.nil_of;rw[e] at e1;cases e1;exact Zz.2 ⟨[],[],rfl,rfl,hh,.nil⟩
 ·cases h
section
variable {A:Hp}{Λ:Nat->Option Addr}{Φ:Nat->Zk}{ρ:Env}{σ:St}{i:Nat}{s:Sl}{ks:Zm}
def RlF.dicO(f:RlF K A Λ Φ ρ σ S H)(h:ρ[i]?=some s)(hk:Ja s=some ks):∃a,σ[i]?=some (some (.ref a))/\H a=some (.dT (bw ks))/\S a=none/\A a=none/\(∀(j:Nat) o',j≠i->ρ[j]?=some (.ow o')->a∉Φ j) /\
  ∀ks',RlF K A Λ Φ (ρ.set i (Pz ks' s)) σ S (bi H a (.dT (bw ks'))):=by
 obtain⟨o,rfl,w1,w2⟩:=N7 (K:=K) hk;obtain⟨v,ev,ow,nd,n⟩:=f.ow i _ h;obtain⟨a,rfl,hfp,ha⟩:=w1 _ _ _ _ ow;have ain:a∈Φ i:=by rw[hfp];exact Yg
 have oth:∀(j:Nat) o',j≠i->ρ[j]?=some (.ow o')->a∉Φ j:=λj o' hj e1 z=>f.dj j i o' _ hj e1 h a z ain;refine⟨a,ev,ha,(n a ain).1,(n a ain).2,oth,λks'=>?_⟩;obtain⟨o2,e2,ow2⟩:=w2 _ _ _ _ ow a rfl S (bi H a (.dT (bw ks'))) ks' aA;rw[e2];have ne:∀b,b≠a->bi H a (.dT (bw ks')) b=H b:=λb hb=>aw hb;have fin:=f.put (H':=bi H a (.dT (bw ks'))) i (λb u e=>by rw[ne b λz=>by subst z;rw[(n b ain).1] at e;cases e];exact f.sub b u e) (λb u e=>by rw[ne b λz=>by subst z;rw[(n b ain).2] at e;cases e];exact f.asub b u e) ow2 (by simp) (λb hb=>by rw[Yp.1 hb];exact n a ain) λj o' hj e1 b hb=>by have nb:b≠a:=λz=>oth j o' hj e1 (by rw[<-z];exact hb);exact⟨ne b nb,λz=>nb (Yp.1 z)⟩
 rw[wI ev] at fin;have hΦ:(λj=>if j=i then [a] else Φ j)=Φ:=by
  funext j
  by_cases hj:j=i
  ·rw[Yb hj,hj,hfp]
  ·rw[X9 hj]
 rw[hΦ] at fin;exact fin
def RlF.melt(f:RlF K A Λ Φ ρ σ S H)(h:ρ[i]?=some s)(hk:Ja s=some ks):∃a,σ[i]?=some (some (.ref a))/\H a=some (.dT (bw ks))/\S a=none /\
  ∀o,RlF K A Λ Φ (ρ.set i (.sh (.dif ks))) σ (bi S a (.frz o (.dT (bw ks)))) (bi H a (.frz o (.dT (bw ks)))):=by
 obtain⟨a,ev,ha,sa,aa,oth,_⟩:=f.dicO h hk;refine⟨a,ev,ha,sa,λo=>?_⟩;have s1:Same S (bi S a (.frz o (.dT (bw ks)))):=λb u e=>by rw[aw (aN e sa)];exact e
 exact {
  len:=by rw[aaR];exact f.len
  sub:=λb u e=>by
   by_cases hb:b=a
   ·subst hb;rw[aA] at e ⊢;exact e
   ·rw[aw hb] at e ⊢;exact f.sub b u e
  sh:=λj d hj=>by
   rcases bB hj with ⟨rfl,e,_⟩|⟨hij,hj⟩
   ·cases e;exact⟨_,ev,den_dif.2 ⟨a,o,rfl,aA⟩⟩
   ·obtain⟨v,e1,e2⟩:=f.sh j d hj;exact⟨v,e1,e2.mono s1⟩
  ow:=λj o' hj=>by
   rcases bB hj with ⟨rfl,e,_⟩|⟨hij,hj⟩
   ·cases e
   ·obtain⟨v,e1,e2,e3,e4⟩:=f.ow j o' hj;have nb:∀b∈Φ j,b≠a:=λb hb z=>oth j o' (YN hij) hj (by rw[<-z];exact hb);exact⟨v,e1,e2.mono s1 λb hb=>aw (nb b hb),e3,λb hb=>⟨by rw[aw (nb b hb)];exact (e4 b hb).1,(e4 b hb).2⟩⟩
  dj:=λj k o1 o2 hjk g1 g2=>by
   rcases bB g1 with ⟨rfl,e,_⟩|⟨_,g1⟩
   ·cases e
   ·rcases bB g2 with ⟨rfl,e,_⟩|⟨_,g2⟩
    ·cases e
    ·exact f.dj j k o1 o2 hjk g1 g2
  lo:=λj hj=>by
   rcases bB hj with ⟨rfl,e,_⟩|⟨_,hj⟩
   ·cases e
   ·exact f.lo j hj
  asub:=λb u e=>by rw[aw λz=>by subst z;rw[aa] at e;cases e];exact f.asub b u e
  adis:=λb=>by
   by_cases hb:b=a
   ·subst hb;exact .inr (.inl aa)
   ·rw[aw hb];exact f.adis b }
end
def yG{a:Addr}{o:Obj}{kvs:List (List eN×V)}(s:Same S H)(sa:S a=none)(ha:H a=some (.dT kvs))(z:Ext (bi S a (.frz o (.dT kvs))) (bi H a (.frz o (.dT kvs))) S' H') :
  S' a=some (.frz o (.dT kvs))/\H' a=some (.frz o (.dT kvs))/\Ext S H (λb=>if b=a then none else S' b) (bi H' a (.dT kvs)):=by
 have e1:=z.sh a _ aA;refine⟨e1,z.sub a _ e1,λb u e=>?_,λb u e=>?_,λb u e n=>?_⟩
 ·have hb:=aN e sa;rw[X9 hb];exact z.sh b u (by rw[aw hb];exact e)
 ·by_cases hb:b=a
  ·rw[Yb hb] at e;cases e
  ·rw[X9 hb] at e;rw[aw hb];exact z.sub b u e
 ·by_cases hb:b=a
  ·subst hb;rw[aA,Yb rfl,<-ha];exact⟨e,.inl rfl⟩
  ·rw[aw hb,X9 hb];exact z.alw b u (by rw[aw hb];exact e) (by rw[aw hb];exact n)
@[simp]def tH(i:Nat)(e:XE):XE:=λρ=>((ρ[i]?).bind Ja).bind λks=>(e (ρ.set i (.sh (.dif ks)))).bind λd=>if iU d=true then some d else none
def LX{t:TE}{e:XE}(i:Nat)(h:SE K t e):SE K (Mo i t) (tH i e):=λρ σ S H Q d r x k=>by
 obtain⟨ks,x1,x⟩:=ZO x;obtain⟨s,qs,hk⟩:=ZO x1;obtain⟨d',qe,x⟩:=ZO x;split at x
 ·rename_i hn;cases x;obtain⟨A,Λ,Φ,f⟩:=r;obtain⟨a,ev,ha,sa,up⟩:=f.melt qs hk;refine⟨a,_,ev,ha,λo=>h _ σ _ _ _ d ⟨A,Λ,Φ,up o⟩ qe λv S1 H1 z1 d1=>?_⟩;obtain⟨e1,e2,z⟩:=yG f.sub sa ha z1;exact⟨e2,k v _ _ z (d1.less (λb hb=>X9 hb) e1 hn)⟩
 ·cases x
@[simp]def sG(i:Nat)(e:XA):XA:=λρ=>((ρ[i]?).bind Ja).bind λks=>(e (ρ.set i (.sh (.dif ks)))).bind λl=>if noDics l=true then some l else none
def Ox{t:TE}{e:XA}(i:Nat)(h:SF K t e):SF K (Mo i t) (sG i e):=λρ σ S H Q l r x k=>by
 obtain⟨ks,x1,x⟩:=ZO x;obtain⟨s,qs,hk⟩:=ZO x1;obtain⟨d',qe,x⟩:=ZO x;split at x
 ·rename_i hn;cases x;obtain⟨A,Λ,Φ,f⟩:=r;obtain⟨a,ev,ha,sa,up⟩:=f.melt qs hk;refine⟨a,_,ev,ha,λo=>h _ σ _ _ _ l ⟨A,Λ,Φ,up o⟩ qe λb xs S1 H1 z1 h1 h2 h3 d1=>?_⟩;obtain⟨e1,e2,z⟩:=yG f.sub sa ha z1;have hb:b≠a:=λz=>by subst z;rw[aA] at h1;cases h1
  exact⟨e2,k b xs _ _ z (by rw[aw hb] at h1;exact h1) (by show (if b=a then none else S1 b)=none;rw[X9 hb];exact h2) (by rw[aw hb];exact h3) (d1.less (λb hb=>X9 hb) e1 hn)⟩
 ·cases x
def JD(ks:Zm)(q:Zn):Zm:=ks.filter λk=>decide (k≠q)
theorem Bw(q:Zn):∀ks:Zm,yg (bw ks) (kI q)=bw (JD ks q)
 |[]=>rfl
 |k::ks=>by
  have ih:=Bw q ks;unfold yg JD bw at *;rw[Yo];by_cases h:k=q
  ·subst h;rw[abh (by simp),abh (by simp)];exact ih
  ·rw[abV (~~~(λz=>h (Ea z))),abV (~~~h),Yo,ih]
theorem Dt(q:Zn):∀ks:Zm,ks.contains q=true->lB (bw ks) (kI q)=some (.bl true)
 |[],h=>by cases h
 |k::ks,h=>by
  by_cases e:k=q
  ·subst e;exact m6 rfl
  ·show lB ((kI k,V.bl true)::bw ks) (kI q)=_;rw[m5 (λz=>e (Ea z))];refine Dt q ks ?_;rw[acI] at h;have:(q==k)=false:=by simpa using λz=>e z.symm
   rw[this,adx] at h;exact h
@[simp]def GK(i:Nat)(k:XE):XS:=λρ=>(ρ[i]?).bind λs=>(Ja s).bind λks=>(k ρ).bind λd=>(DF d).bind λq=>if ks.contains q=true then some (.nx (ρ.set i (Pz (JD ks q) s))) else none
def RB{tk:TE}{k:XE}{i:Nat}(h:SE K tk k):SS K (qS (RX K "dict" rPopT (jS i) (eX tk mY))) (GK i k):=λA Λ ρ σ S H E o r x c=>by
 obtain⟨s,qs,x⟩:=ZO x;obtain⟨ks,hk,x⟩:=ZO x;obtain⟨d,qk,x⟩:=ZO x;obtain⟨q,qd,x⟩:=ZO x;split at x
 ·rename_i hc;cases x;obtain⟨Φ,f⟩:=r;obtain⟨a,ev,ha,_⟩:=f.dicO qs hk;refine⟨.ref a,ev,.inr (.inr (.inl ⟨rfl,.inr ⟨_,ha⟩⟩)),h ρ σ S H _ d ⟨A,Λ,Φ,f⟩ qk λv S1 H1 z1 d1=>?_⟩;obtain⟨b,rfl,hb⟩:=rE d1 qd;obtain⟨a',ev',ha',_,_,_,up⟩:=(f.ext z1).dicO qs hk;rw[ev] at ev';cases ev';refine⟨a,b,_,kI q,.bl true,rfl,rfl,ha',z1.sub b _ hb,Dt q ks hc,?_⟩;rw[Bw];exact c σ S1 _ ⟨Φ,up _⟩ z1.sh
 ·cases x
@[simp]def AW(e:XA):Env->Option O:=λρ=>(e ρ).bind λl=>(iW l).bind λqs=>if l.length<a9 then some (.dic (qs.foldl jc [])) else none
def Ow{te:TE}{e:XA}(h:SF K te e):STr K (Sq Pt (eX te mY)) (AW e):=λρ σ S H Q o r x c=>by
 obtain⟨l,qe,x⟩:=ZO x;obtain⟨qs,qp,x⟩:=ZO x;split at x
 ·rename_i hl;cases x;refine h ρ σ S H _ l r qe λp xs S1 H1 z1 hp hs1 hp1 d1=>?_;obtain⟨es,e1,e2,e3⟩:=wb z1.sub d1 qp;refine⟨p,es,rfl,by rw[<-e1];exact hp1,e2,?_,λa ha=>?_⟩
  ·have:=d1.length;have e4:es.length=xs.length:=by rw[e1,Ye]
   exact abO () fN
  ·rw[e3,show ([]:List (List eN×V))=bw [] from rfl,pp];have h0:H a=none:=(z1.same r.sub).free ha;have z2:Ext S1 H1 S1 (bi H1 a (.dT (bw (qs.foldl jc [])))):=Ext.own z1.sub ha;exact c (.ref a) [a] S1 _ (z1.trans z2) (Zt.2 ⟨a,rfl,rfl,aA⟩) (by simp) λb hb=>by rw[Yp.1 hb];exact⟨h0,z1.sub.free ha⟩
 ·cases x
end
section
variable {K:Zj}{S S' H H':Hp}
def Qn(J:It)(S H:Hp)(l:Zc):Prop:=∀S' H',Ext S H S' H' ->
 (∀i d,l[i]?=some d->J.go i H'/\∀x H'',J.yld i H' x H''->H''=H'/\∃b,∃k:Zn,d=.tup (k.map .int)/\x=.ref b/\H' b=some (.tup (k.map V.int)))/\J.stop l.length H'
def Wl(K:Zj)(wi:TI)(e:XA):Prop:=∀ρ σ S H (R:It->Hp->Prop) l,Rl K ρ σ S H->e ρ=some l->(∀J S' H',Ext S H S' H'->Qn J S' H' l->R J H')->wi σ H R
def Wj(K:Zj)(g:TG)(x:XG):Prop:=∀A Λ ρ σ S H b (k:Zn) (Q:St->Hp->Prop) ρ',RlA K A Λ ρ σ S H->H b=some (.tup (k.map V.int))->x (.tup (k.map .int)) ρ=some ρ'->(∀σ',RlA K A Λ ρ' σ' S H->Q σ' H)->g (.ref b) σ H Q
def J6{gs:MZ}{y:M0}{n:Nat}(hs:SM K gs y)(hl:B2 y n):Wj K (JW K n gs) (aL y):=λA Λ ρ σ S H b k Q ρ' r hb e c=>
 ⟨b,k.map V.int,rfl,SqT.of hb,by rw[Ye,<-hl (k.map D.int) ρ ρ' e,Ye],hs A Λ ρ σ S H _ (k.map D.int) Q ρ' r (rn k) e c⟩
@[simp]def xU(i:Nat):XA:=λρ=>match ρ[i]? with|some (.sh (.dif ks))=>some (ks.map λk=>.tup (k.map .int))|_=>none
def Ph(i:Nat):Wl K (Tc (jS i)) (xU i):=λρ σ S H R l r x c=>by
 unfold xU at x;split at x
 ·rename_i ks q;cases x;obtain⟨v,ev,dv⟩:=r.sh i _ q;obtain⟨a,o,rfl,ha⟩:=den_dif.1 dv;refine⟨.ref a,ev,a,o,_,rfl,r.sub _ _ ha,c _ S H (Ext.refl r.sub) λS' H' z=>?_⟩;have ha':=z.sub a _ (z.sh a _ ha);have hl:(bw ks).length=ks.length:=uT ks;refine⟨λj d hd=>⟨⟨ha',?_⟩,λx H'' hy=>?_⟩,ha',by rw[hl,Ye];exact Yi _⟩
  ·have:=(Yx.1 hd).1;rw[Ye] at this;rw[hl];exact this
  ·obtain⟨e,b,k,v,hk,rfl,hb⟩:=hy;refine⟨e,b,?_⟩;rw[YG] at hd;unfold bw at hk;rw[YG] at hk;cases qj:ks[j]? with
   |none=>rw[qj] at hd;cases hd
   |some k0=>rw[qj] at hd hk;cases hd;cases hk;exact⟨k0,rfl,rfl,by rw[Tg] at hb;exact hb⟩
 ·cases x
def Go{js:List (Option Nat)}{wi:TI}{g:TG}{tt:Qj}{te:TE}{w:XA}{x:XG}{c:XT}{e:XE}(hi:Wl K wi w)(hg:Wj K g x)(hc:ST K tt c)(he:SE K te e):SF K (y8 js wi g tt te) (aX js w x c e):=λρ σ S H Q l r y k=>by
 unfold aX at y;cases q:w ρ with
 |none=>rw[q] at y;cases y
 |some ds=>
  rw[q] at y;dsimp only[Option.bind] at y;split at y
  ·rename_i hlim;refine hi ρ σ S H _ ds r q λJ S1 H1 z1 wk D hD=>?_;have r1:=r.ext z1;have hD0:H D=none:=(z1.same r.sub).free hD;refine⟨λi n H'=>n=ds.length-i/\i<=ds.length/\∃S' done ys rest,Ext S1 H1 S' H'/\Same S1 S'/\H' D=some (.lst ys)/\S' D=none/\Dens K S' done ys/\done.length<=i/\a8 x c e (tI js ρ) (ds.drop i)=some rest/\l=done++rest,
    ⟨_,rfl,YR _,S1,[],[],l,Ext.own z1.sub hD,Same.refl _,aA,z1.sub.free hD,.nil,YR _,y,rfl⟩,?_⟩
   rintro i n H2 ⟨rfl,hil,S2,done,ys,rest,z2,s2,hy,hSD,dy,hdl,y2,rfl⟩;obtain⟨w1,w2⟩:=wk S2 H2 z2;cases qd:ds[i]? with
   |none=>
    have:ds.length=i:=by have:=abv.1 qd;lia
    subst this;rw[aa8 (Yi _)] at y2;cases y2;rw[YK] at k;exact .inl ⟨w2,k D ys S2 H2 (z1.trans z2) hD0 hSD hy dy⟩
   |some d=>
    obtain⟨g1,g2⟩:=w1 i d qd;have hlt:=(Yx.1 qd).1;rw[uU qd] at y2;unfold a8 at y2;cases qx:x d (tI js ρ) with
    |none=>rw[qx] at y2;cases y2
    |some ρ3=>
     rw[qx] at y2;dsimp only[Option.bind] at y2;refine .inr ⟨g1,λxv H3 hyl=>?_⟩;obtain⟨rfl,b0,k0,rfl,rfl,hb0⟩:=g2 xv H3 hyl;have ri:=Ly (r1.ext z2) js;refine hg _ _ _ _ S2 _ b0 k0 _ ρ3 ri hb0 qx λσ3 r3=>?_;cases qc:c ρ3 with
     |none=>rw[qc] at y2;cases y2
     |some b=>
      rw[qc] at y2;dsimp only at y2;refine hc ρ3 σ3 S2 _ _ b r3.toRl qc λS4 H4 z4=>?_;obtain⟨al1,al2⟩:=z4.al D _ hy hSD;cases b with
      |false=>
       rw[X9 (by decide)] at y2;exact BZ ⟨_,(),rfl,hlt,S4,done,ys,rest,z2.trans z4,s2.trans z4.sh,al1,al2,dy.mono z4.sh,(),y2,rfl⟩
      |true=>
       rw[Yb rfl] at y2;cases qe:e ρ3 with
       |none=>rw[qe] at y2;cases y2
       |some dv=>
        rw[qe] at y2;dsimp only at y2;cases qr:a8 x c e (tI js ρ) (ds.drop (i+1)) with
        |none=>rw[qr] at y2;cases y2
        |some rest2=>
         rw[qr] at y2;cases y2;refine B0 (he ρ3 σ3 S4 H4 _ dv (r3.toRl.ext z4) qe λv S5 H5 z5 d5=>?_);obtain⟨b1,b2⟩:=z5.al D _ al1 al2;refine⟨ys,b1,?_,_,(),rfl,hlt,S5,done++[dv],ys++[v],rest2,?_,(s2.trans z4.sh).trans z5.sh,aA,b2,((dy.mono z4.sh).mono z5.sh).append (.cons d5 .nil),by rw[Yl,Y5];lia,qr,by rw[YL];rfl⟩
         ·rw[<-dy.length];exact YT (aaf hdl hlt) (Yr hlim (Y0 fN))
         ·have z6:=(z2.trans z4).trans z5;exact⟨z6.sh,λb u hb=>by rw[aw λz=>by subst z;rw[b2] at hb;cases hb];exact z6.sub b u hb,λb o hb hn=>by
           obtain⟨c1,c2⟩:=z6.alw b o hb hn
           exact⟨by rw[aw λz=>by subst z;rw[hD] at hb;cases hb];exact c1,c2⟩⟩
  ·cases y
abbrev HM:=Addr->Zm->Zc->Option (O×Zm)
def QH(n:Nat)(x:XS):HM:=λp ks ds=>match x (.ow (.hd p ks [])::(ds.map .sh++List.replicate (n-1-ds.length) .un)) with
 |some (.ro (.hd p' ks' [o]))=>if p'=p then some (o,ks') else none
 |_=>none
def Ua(K:Zj)(n:Nat)(m:HM):Sp:=λvs H Q _=>vs.length=n/\∃S p ks ds us o ks',vs=.ref p::us/\Same S H/\H p=some (.dT (bw ks))/\S p=none/\Dens K S ds us/\m p ks ds=some (o,ks') /\
 ∀v fp S' H',Ext S (bi H p (.dT (bw ks'))) S' H'->Own K S' H' o v fp->fp.Nodup->(∀b∈fp,H b=none/\S' b=none)->Q v H'
def M6(S H:Hp)(p:Addr):Hp:=λb=>if b=p then none else jl S H b
def DI{p:Addr}:M6 S H p p=none:=Yb rfl
def zm{p b:Addr}(h:b≠p):M6 S H p b=jl S H b:=X9 h
def Ie{N:Zl}{ds:Zc}{us:Za}{p:Addr}{ks:Zm}(s:Same S H)(hp:H p=some (.dT (bw ks)))(sp:S p=none)(h:Dens K S ds us) :
  RlA K (M6 S H p) (λ_=>none) (.ow (.hd p ks [])::(ds.map .sh++List.replicate (N.length-1-ds.length) .un)) (L2.di N (.ref p::us)) S H:=by
 have hl:=h.length;have key:∀(i:Nat) t,(Sl.ow (.hd p ks [])::(ds.map Sl.sh++List.replicate (N.length-1-ds.length) .un))[i]?=some t->t=.un\/(∃d v,t=.sh d/\(L2.di N (.ref p::us))[i]?=some (some v)/\Den K S d v)\/(i=0/\t=.ow (.hd p ks [])):=λi t ht=>by
  cases i with
  |zero=>rw[aaY] at ht;cases ht;exact .inr (.inr ⟨rfl,rfl⟩)
  |succ i=>
   rw[aab] at ht;by_cases hi:i<ds.length
   ·rw[aaz (by rw[Ye];exact hi),YG] at ht;cases q:ds[i]? with
    |none=>rw[q] at ht;cases ht
    |some d=>rw[q] at ht;cases ht;obtain⟨v,e1,e2⟩:=h.get q;refine .inr (.inl ⟨d,v,rfl,?_,e2⟩);unfold L2.di;rw[aaz (by rw[Ye,Yk];lia),YG,aab,e1];rfl
   ·rw[abp (by rw[Ye];lia),ac9] at ht;split at ht
    ·cases ht;exact .inl rfl
    ·cases ht
 have e0:(L2.di N (.ref p::us))[0]?=some (some (.ref p)):=by unfold L2.di;rfl
 refine⟨λi=>if i=0 then [p] else [],?_⟩
 exact {
  len:=by unfold L2.di;simp only[Yl,Yk,Ye,acz,hl];lia
  sub:=s
  sh:=λi d hi=>by
   rcases key i _ hi with e|⟨d',v,e,h1,h2⟩|⟨_,e⟩
   ·cases e
   ·cases e;exact⟨v,h1,h2⟩
   ·cases e
  ow:=λi o hi=>by
   rcases key i _ hi with e|⟨d',v,e,h1,h2⟩|⟨rfl,e⟩
   ·cases e
   ·cases e
   ·cases e;exact⟨.ref p,e0,Zz.2 ⟨[],[],rfl,rfl,hp,.nil⟩,by simp,λb hb=>by
     rw[Yb rfl] at hb;rw[Yp.1 hb]
     exact⟨sp,DI⟩⟩
  dj:=λi j o o' hij hi hj=>by
   rcases key i _ hi with e|⟨d',v,e,h1,h2⟩|⟨rfl,e⟩
   ·cases e
   ·cases e
   ·rcases key j _ hj with e' | ⟨d',v,e',h1,h2⟩|⟨rfl,e'⟩
    ·cases e'
    ·cases e'
    ·exact absurd rfl hij
  lo:=λi hi=>by
   rcases key i _ hi with e|⟨d',v,e,h1,h2⟩|⟨_,e⟩
   ·cases e
   ·cases e
   ·cases e
  asub:=λb u e=>by
   by_cases hb:b=p
   ·subst hb;rw[DI] at e;cases e
   ·rw[zm hb] at e;exact rc b u e
  adis:=λb=>by
   by_cases hb:b=p
   ·subst hb;exact .inr (.inl DI)
   ·rw[zm hb];exact q9 b }
def Ro{t:TS}{x:XS}{N:Zl}{n k:Nat}{vs:Za}{H:Hp}{Q:VK}{E:XK}(hs:SS K t x)(hN:N.length=n)(h:Ua K k (QH n x) vs H Q E) :
  t { nx:=λ_ H'=>Q .non H',rt:=Q } (L2.di N vs) H:=by
 obtain⟨_,S,p,ks,ds,us,o,ks',rfl,s,hp,sp,dd,y,q⟩:=h;subst hN;unfold QH at y;have r:=Ie (N:=N) s hp sp dd;split at y
 ·rename_i p' ks2 o' qx;split at y
  ·rename_i e;subst e;cases y;refine hs _ _ _ _ S H _ _ r qx λv fp S' H' s1 s2 s3 s4 ow nd n=>?_;obtain⟨xs,f,rfl,rfl,h1,h2⟩:=Zz.1 ow;obtain⟨z,zs,f1,f2,rfl,rfl,ho,h3⟩:=h2.cons_of;obtain⟨rfl,rfl⟩:=h3.nil_of;rw[YK] at nd n;obtain⟨n1,n2⟩:=YH.1 nd;have inA:∀b u,b≠p'->H b=some u->S b=none->M6 S H p' b=some u:=λb u hb hu hn=>by rw[zm hb];exact uG hu hn
   refine q z f1 S' H' ⟨s1,s2,λb u hb hn=>?_⟩ ho n2 λb hb=>⟨?_,(n b (Yn _ hb)).1⟩
   ·by_cases e:b=p'
    ·subst e;rw[aA] at hb;cases hb;exact⟨h1,.inl (n b Yg).1⟩
    ·rw[aw e] at hb;have ha:=inA b u e hb hn;refine⟨s3 b u ha,?_⟩;rcases s4 b with z|z|⟨_,z,hu⟩
     ·exact .inl z
     ·rw[ha] at z;cases z
     ·rw[ha] at z;cases z;exact .inr hu
   ·cases qb:H b with
    |none=>rfl
    |some u=>have nb:=n b (Yn _ hb);have:=inA b u (λe=>n1 (by rw[<-e];exact hb)) qb (s1.free nb.1);rw[nb.2] at this;cases this
  ·cases y
 ·cases y
@[simp]def GL(j:Nat):XS:=λρ=>match ρ[j]?,(ρ[0]?:Option Sl) with
 |some (.ow o),some (.ow (.hd p ks []))=>if j=0 then none else some (.ro (.hd p ks [o]))
 |_,_=>none
def LY(j:Nat):SS K (IG (jS j)) (GL j):=λA Λ ρ σ S H E out r x k=>by
 unfold GL at x;split at x
 ·rename_i o p ks q1 q2;split at x
  ·cases x
  ·rename_i hj;cases x;obtain⟨Φ,f⟩:=r;obtain⟨v,e1,o1,nd1,n1⟩:=f.ow j _ q1;obtain⟨v0,e0,o0,nd0,n0⟩:=f.ow 0 _ q2;obtain⟨xs,f0,rfl,hf,h1,h2⟩:=Zz.1 o0;obtain⟨rfl,rfl⟩:=h2.nil_of;have np:p∉Φ j:=λz=>f.dj j 0 _ _ hj q1 q2 p z (by rw[hf];exact Yg);refine⟨v,e1,k v (p::(Φ j++[])) S H (Same.refl _) f.sub f.asub f.adis (Zz.2 ⟨[v],_,rfl,rfl,h1,.cons o1 .nil⟩) (by rw[YK];exact YH.2 ⟨np,nd1⟩) λb hb=>?_⟩;rw[YK] at hb;rcases Yj.1 hb with rfl|hb
   ·exact n0 b (by rw[hf];exact Yg)
   ·exact n1 b hb
 ·cases x
def G9(m:HM)(ks:Zm)(ds:Zc):Option (O×Zm):=by
 classical exact if h:∃r,∀p,m p ks ds=some r then some h.choose else none
def FO{m:HM}{ks:Zm}{ds:Zc}{r:O×Zm}(h:∀p,m p ks ds=some r):G9 m ks ds=some r:=by
 unfold G9;have he:∃r,∀p,m p ks ds=some r:=⟨r,h⟩
 rw[aaL he];have:=he.choose_spec 0;rw[h 0] at this;rw[YU this]
def NW{m:HM}{ks:Zm}{ds:Zc}{r:O×Zm}(h:G9 m ks ds=some r)(p:Addr):m p ks ds=some r:=by
 unfold G9 at h;split at h
 ·rename_i he;cases h;exact he.choose_spec p
 ·cases h
@[simp]def xg(j i:Nat)(m:HM)(a:XA):XS:=λρ=>match ρ[j]? with
 |some (.ow (.lst l))=>(ρ[i]?).bind λs=>(Ja s).bind λks=>(a ρ).bind λds=>(G9 m ks ds).bind λr=>match r with
  | (.lst l',ks')=>(nY l').bind λds'=>if l.length+l'.length<=a9 then some (.nx ((ρ.set i (Pz ks' s)).set j (.ow (.lst (l++ds'.map .sh))))) else none
  |_=>none
 |_=>none
def LP{n:Nat}{m:HM}{E0:XK}{ta:TA}{a:XA}{i j:Nat}(h:SA K ta a)(hn:∀ρ ds,a ρ=some ds->ds.length=n):SS K (qS (RX K "list" rExtM (jS j) (eX (qR (Ua K (n+1) m) [] E0 (eX (jS i) ta)) mY))) (xg j i m a):=λA Λ ρ σ S H E out r y k=>by
 unfold xg at y;split at y
 ·rename_i l q0;obtain⟨s,qs,y⟩:=ZO y;obtain⟨ks,hk,y⟩:=ZO y;obtain⟨ds,qa,y⟩:=ZO y;obtain⟨⟨o,ks'⟩,qm,y⟩:=ZO y;split at y
  ·rename_i l' ks2 e1;cases e1;obtain⟨ds',qd,y⟩:=ZO y;split at y
   ·rename_i hl;cases y;have e:=z8 qd;subst e;have hji:j≠i:=λz=>by
     subst z;rw[q0] at qs;cases qs;cases hk
    obtain⟨Φ,f⟩:=r;obtain⟨p,ep,hp,sp,_,_,_⟩:=f.dicO qs hk;obtain⟨v0,ev0,ow0,_⟩:=f.ow j _ q0;obtain⟨a0,xs,f0,rfl,_,hx,_⟩:=Zs.1 ow0;refine⟨.ref a0,ev0,.inl ⟨rfl,xs,SqL.of hx⟩,.ref p,ep,h ρ σ S H _ ds ⟨A,Λ,Φ,f⟩ qa λus S1 H1 z1 d1=>?_⟩;obtain⟨p',ep',hp1,sp1,_,_,up1⟩:=(f.ext z1).dicO qs hk;rw[ep] at ep';cases ep';rw[YK];refine⟨by rw[Yk,<-d1.length,hn ρ ds qa],S1,p,ks,ds,us,_,_,rfl,z1.sub,hp1,sp1,d1,NW qm p,λv fp S2 H2 z2 ow nd n=>?_⟩;have f2:=(up1 ks').ext z2;have q0':(ρ.set i (Pz ks' s))[j]?=some (.ow (.lst l)):=by rw[aal (YN hji)];exact q0
    obtain⟨a1,xs1,g1,e1,hx1,hw1,nd1,in1,up⟩:=f2.at (is:=[]) q0' (by unfold eM;rfl) ev0 rfl;cases e1;obtain⟨b,zs,f3,rfl,rfl,hb,hz⟩:=Zs.1 ow;obtain⟨dz,rfl⟩:=lh hz;obtain⟨na,ng⟩:=YH.1 nd1;refine⟨a0,b,xs1,zs,rfl,rfl,hx1,.inl hb,?_,?_⟩
    ·rw[<-hw1.length,<-dz.length];rw[Ye] at hl;exact Y0 (aaf hl fN)
    ·have fin:=up (l++ds'.map .sh) (xs1++zs) g1 (λH' ne=>by
      have:=(hw1.mono (H':=H') (Same.refl _) λb hb=>ne b λz=>na (z▸hb)).append (qB (H:=H') dz);rw[YK] at this
      exact this) nd1 λb hb=>.inl hb
     exact k σ S2 _ (by unfold kg at fin;exact fin) (z1.sh.trans z2.sh)
   ·cases y
  ·cases y
 ·cases y
end
end M
namespace L2
open PySem
def Na:bootBuiltins "dict"=some (.type "dict"):=by decide +kernel
end L2
namespace M
open PySem L2
def bo{K:Zj}{a:Addr}{o:Obj}{its:Array Value}{n:Nat}{xs:Za}{l:Zc}(h:K.lookup a=some o)(hc:o.cls=.type "tuple") (hd:o.data=.seq its n) (hs:its.size<=sizeLine) (hv:Vals xs its.toList) (hD:∀S,Dens K S l xs) (S:Hp):Den K S (.mtp l) (.ref a):=
 Zy.2 ⟨a,xs,rfl,(show SqT K S a xs from .inr ⟨o,its,n,h,hc,hd,hs,hv⟩),hD S⟩
section
variable {K:Zj}{S S' H H':Hp}
def TW:Zc->Option (Zc)
 |[.lst l]=>some l.reverse|_=>none
@[simp]def W8(a:XA):XA:=λρ=>(a ρ).bind TW
@[simp]def Xa(L:Zl)(i:Nat)(n:Zc->Option Str)(a:XA)(m:XS)(l:List (Nat×List (List (Str×Bool)))):XS:=λρ=>if i<ρ.length then (match (a ρ).bind n with
 |some N=>if L.contains N then (J7 i N l (ρ.set i .un)).map λρ'=>.nx (ρ'.set i .un) else none
 |none=>(match m ρ with|some (.nx ρ')=>some (.nx ρ')|_=>none)) else none
@[simp]def W0(i:Nat)(m:XS):XS:=λρ=>match (ρ[i]?).bind Ja with|some ks=>m (ρ.set i (.sh (.dif ks)))|none=>m ρ
@[simp]def WY(i:Nat)(x:XG)(m:XS):XS:=dS (xU i) x m
end
end M
namespace ST
open PySem PySem.SetTable
def Ris(xs:Array Nat):Prop:=∀(i j a b:Nat),i<j->xs[i]?=some a->xs[j]?=some b->a<b
theorem u3{xs:Array Nat}{j:Nat}(r:Ris xs):∀(fuel lo hi:Nat),lo<=hi->hi<=xs.size->hi-lo<=fuel->(∀i a,i<lo->xs[i]?=some a->a<j)->(∀i a,hi<=i->xs[i]?=some a->j<=a) ->
  below.go xs j fuel lo hi<=xs.size/\(∀i a,i<below.go xs j fuel lo hi->xs[i]?=some a->a<j)/\(∀i a,below.go xs j fuel lo hi<=i->xs[i]?=some a->j<=a)
 |0,lo,hi,h1,h2,h3,h4,h5=>by
  have:hi=lo:=()
  subst this;exact⟨h2,h4,h5⟩
 |fuel+1,lo,hi,h1,h2,h3,h4,h5=>by
  unfold below.go;by_cases h:lo<hi
  ·rw[Yb h];dsimp only;have hm:(lo+hi)/2<xs.size:=()
   have em:xs[(lo+hi)/2]?=some xs[(lo+hi)/2]:=aaX hm;have eg:xs.getD ((lo+hi)/2) j=xs[(lo+hi)/2]:=by simp[Array.getD,hm]
   rw[eg];by_cases hc:xs[(lo+hi)/2]<j
   ·rw[Yb hc];refine u3 r fuel _ hi () h2 () (λi a hi' e=>?_) h5;by_cases e2:i=(lo+hi)/2
    ·subst e2;rw[em] at e;cases e;exact hc
    ·exact abO (r i ((lo+hi)/2) a _ () e em) hc
   ·rw[X9 hc];refine u3 r fuel lo _ () () () h4 λi a hi' e=>?_;by_cases e2:i=(lo+hi)/2
    ·subst e2;rw[em] at e;cases e;exact ab6 hc
    ·exact Y0 (aaf (ab6 hc) (r ((lo+hi)/2) i _ a () em e))
  ·rw[X9 h];have:hi=lo:=()
   subst this;exact⟨h2,h4,h5⟩
def pT{xs:Array Nat}(r:Ris xs)(j:Nat):below xs j<=xs.size/\(∀i a,i<below xs j->xs[i]?=some a->a<j)/\(∀i a,below xs j<=i->xs[i]?=some a->j<=a):=
 u3 r xs.size 0 xs.size (YR _) (Yi _) () (λi a h=>absurd h (abX _)) λi a h e=>absurd (abw.1 e).1 (adI.2 h)
def DM{xs:Array Nat}(r:Ris xs){i a:Nat}(h:xs[i]?=some a):below xs (a+1)=i+1:=by
 obtain⟨h1,h2,h3⟩:=pT r (a+1);have hi:=(abw.1 h).1;apply Nat.le_antisymm
 ·apply ab6;intro hn;have hs:i+1<xs.size:=()
  have:=h2 (i+1) _ hn (aaX hs);have:=r i (i+1) a _ (aam _) h (aaX hs);lia
 ·apply ab6;intro hn;have:=h3 i a () h;lia
def DN{xs:Array Nat}(r:Ris xs):below xs 0=0:=by obtain⟨h1,h2,h3⟩:=pT r 0;apply Nat.eq_zero_of_not_pos;intro hp;have:=h2 0 _ hp (aaX (YT hp h1));lia
def zN{α:Type}(xs:Array α)(p:Nat)(x:α)(hp:p<=xs.size)(i:Nat):(insertAt xs p x)[i]?=if i<p then xs[i]? else if i=p then some x else xs[i-1]?:=by
 unfold insertAt;have hs:((xs.extract 0 p).push x).size=p+1:=by rw[Array.size_push,acl];lia
 rw[Array.getElem?_append,hs];by_cases h1:i<p
 ·rw[Yb (),Yb h1,aeH];have h3:(xs.extract 0 p).size=p:=by rw[acl];lia
  rw[h3,X9 (),aeI];rw[Yb (),aaK]
 ·rw[X9 h1];by_cases h2:i=p
  ·subst h2;have h3:(xs.extract 0 i).size=i:=by rw[acl];lia
   rw[Yb (),Yb rfl,aeH,h3,Yb rfl]
  ·rw[X9 (),X9 h2,aeI];by_cases h4:i-(p+1)<xs.size-p
   ·rw[Yb ()];congr 1;lia
   ·rw[X9 (),adH ()]
def xk{α:Type}(xs:Array α)(p:Nat)(x:α)(hp:p<=xs.size):(insertAt xs p x).toList.Perm (x::xs.toList):=by
 unfold insertAt;have e:xs.toList=(xs.extract 0 p).toList++(xs.extract p xs.size).toList:=by rw[<-aaS,Array.extract_append_extract];simp[hp]
 rw[aaS,abM,e,YL];exact List.perm_middle
def Ris.put{xs:Array Nat}(r:Ris xs){j:Nat}(h:xs[below xs j]?≠some j):Ris (insertAt xs (below xs j) j):=by
 obtain⟨h1,h2,h3⟩:=pT r j;have gt:∀i a,below xs j<=i->xs[i]?=some a->j<a:=λi a hi e=>by
  have:=h3 i a hi e;by_cases q:a=j
  ·subst q;refine absurd ?_ h;by_cases e1:i=below xs a
   ·rw[<-e1];exact e
   ·have hb:below xs a<xs.size:=by have:=(abw.1 e).1;lia
    have:=r _ _ _ _ (show below xs a<i by lia) (aaX hb) e;have:=h3 _ _ (Yi _) (aaX hb);lia
  ·lia
 intro i k a b hik ha hb;rw[zN _ _ _ h1] at ha hb;split at ha
 ·rename_i i1;split at hb
  ·exact r i k a b hik ha hb
  ·split at hb
   ·cases hb;exact h2 i a i1 ha
   ·exact r i (k-1) a b () ha hb
 ·rename_i i1;split at ha
  ·cases ha;rw[X9 (),X9 ()] at hb;exact gt _ _ () hb
  ·rw[X9 (),X9 ()] at hb;exact r (i-1) (k-1) a b () ha hb
theorem Gb{α:Type}[BEq α][LawfulBEq α]:∀ {l m:List α},l.Nodup->(∀a∈l,a∈m)->l.length=m.length->m.Perm l
 |[],m,_,_,h=>by
  have:m=[]:=acY h.symm;subst this;exact .refl _
 |a::l,m,nd,hs,h=>by
  have ha:=hs a Yg;have nd':=YH.1 nd;refine (List.perm_cons_erase ha).trans (.cons a (Gb nd'.2 (λb hb=>?_) ?_))
  ·exact (adC (λz:b=a=>nd'.1 (z▸hb))).2 (hs b (Yn _ hb))
  ·rw[adE ha];rw[Yk] at h;lia
theorem FZ{m:Nat}(f:Full m):∀(hs:Zn) (k:Nat) (owner:Array (Option Nat)),LOk m k owner->k+hs.length<=m->(∀i,i<k->∃j,j<=m/\owner.getD j none=some i) ->
  ∃owner',hs.foldl (λ(acc:Option (Array (Option Nat)×Nat)) h=>do
   let (owner,k) ← acc
   let j ← layClean.free m owner (turns m) (bits h%(m+1)) (bits h)
   pure (owner.setIfInBounds j (some k),k+1)) (some (owner,k))=some (owner',k+hs.length)/\LOk m (k+hs.length) owner'/\∀i,i<k+hs.length->∃j,j<=m/\owner'.getD j none=some i
 |[],k,owner,o,_,h=>⟨owner,rfl,o,h⟩
 |h::hs,k,owner,o,hk,hown=>by
  rw[Yk] at hk ⊢;obtain⟨j0,hj0,e0⟩:=o.empty ();obtain⟨n,hn,e⟩:=yf f (bits h%(m+1),bits h) (adA (acS _ (abu _))) (M9 h) hj0;obtain⟨j,ej,hj⟩:=yn e0 (turns m) n (bits h%(m+1),bits h) (by unfold turns;lia) e;have hs':=o.size;have hjm:j<m+1:=by apply aaN;intro hn;simp[Array.getD,hs',hn] at hj
  have hj0:owner.getD j none=none:=by simp[Array.getD,hs',hjm] at hj ⊢;exact hj
  have gd:∀i,(owner.setIfInBounds j (some k)).getD i none=if i=j then some k else owner.getD i none:=λi=>by
   by_cases e:i=j
   ·subst e;simp[Array.getD,hs',hjm]
   ·rw[X9 e];rw[acU,acU,aeC (YN e)]
  obtain⟨ow,h1,h2,h3⟩:=FZ f hs (k+1) _ (o.set hj) () λi hi=>by
   by_cases q:i=k
   ·exact⟨j,(),#v[gd,Yb rfl,q]⟩
   ·obtain⟨j',hj',e'⟩:=hown i ();refine⟨j',hj',?_⟩;rw[gd,X9 (λz=>by rw[z,hj0] at e';cases e')];exact e'
  refine⟨ow,?_,by rw[show k+(hs.length+1)=k+1+hs.length by lia];exact h2,by rw[show k+(hs.length+1)=k+1+hs.length by lia];exact h3⟩;rw[YQ,show k+(hs.length+1)=k+1+hs.length by lia,<-h1];congr 1;show ((layClean.free m owner (turns m) (bits h%(m+1)) (bits h)).bind λj=>some (owner.setIfInBounds j (some k),k+1))=_;rw[ej];rfl
theorem EI{β:Type}(g:Nat->Option β):∀(l:List Nat),l.Pairwise (· < ·)->((l.filterMap λj=>(g j).map (j,·)).map (·.1)).Pairwise (· < ·)
 |[],_=>.nil
 |a::l,h=>by
  have h':=aaH.1 h;rw[YJ];cases q:g a with
  |none=>exact EI g l h'.2
  |some b=>
   refine aaH.2 ⟨λx hx=>?_,EI g l h'.2⟩;obtain⟨⟨y,z⟩,hy,rfl⟩:=Ym.1 hx;obtain⟨w,hw,e⟩:=acw.1 hy;cases q2:g w with
   |none=>rw[q2] at e;cases e
   |some v=>rw[q2] at e;cases e;exact h'.1 _ hw
def Rp{l:List Nat}(h:l.Pairwise (· < ·)):Ris l.toArray:=λi j a b hij ha hb=>by rw[List.getElem?_toArray] at ha hb;obtain⟨h1,rfl⟩:=Yx.1 ha;obtain⟨h2,rfl⟩:=Yx.1 hb;exact aaJ.1 h i j h1 h2 hij
def Ko{m finger moves:Nat}{led plain:Bool}(f:Full m)(hs:Array Int)(h:hs.size<=m):∃t order,laid m finger moves led plain hs=some (t,order)/\t.mask=m/\t.dummies = #[]/\t.place.size=hs.size/\Ris t.place/\order.toList.Perm (List.range hs.size)/\t.led=led/\t.plain=plain:=by
 have gd:∀i,(Array.replicate (m+1) (none:Option Nat)).getD i none=none:=λi=>by simp[Array.getD]
 have o0:LOk m 0 (Array.replicate (m+1) none):=by refine⟨Array.size_replicate,?_,λj v hv=>by rw[gd] at hv;cases hv⟩;unfold Pj;rw[aa9,List.filterMap_eq_nil_iff];intro a _;rw[gd];rfl
 obtain⟨ow,h1,h2,h3⟩:=FZ f hs.toList 0 _ o0 (by rw[YY];lia) λi hi=>absurd hi (abX _);rw[aaK,YY] at h2 h3;have e:layClean m hs=some ow:=by unfold layClean;rw[<-Array.foldl_toList];refine (Yt (Option.map (·.1)) h1).trans rfl
 refine⟨_,_,by unfold laid;rw[e];rfl,rfl,rfl,?_,?_,?_,rfl,rfl⟩
 ·show ((Pj m ow).map (·.1)).toArray.size=_;rw[YF,Ye,h2.len]
 ·exact Rp (EI (λj=>ow.getD j none) (List.range (m+1)) List.pairwise_lt_range)
 ·show ((Pj m ow).map (·.2)).Perm _;refine Gb acV (λi hi=>?_) (#v[ack,Ye,h2.len]);obtain⟨j,hj,e⟩:=h3 i (YM.1 hi);refine Ym.2 ⟨(j,i),acw.2 ⟨j,YM.2 (),by rw[e];rfl⟩,rfl⟩
def G6{α:Type}(es:Array α){order:List Nat}(h:order.Perm (List.range es.size)):(order.filterMap (es[·]?)).Perm es.toList:=by
 refine (h.filterMap _).trans (.of_eq ?_);have:∀l:List α,(List.range l.length).filterMap (l[·]?)=l:=by
  intro l;induction l with
  |nil=>rfl
  |cons a l ih=>rw[Yk,aeJ,YJ];show a::((List.range l.length).map Nat.succ).filterMap _=_;rw[aec];exact Yt (a :: ·) ih
 have:=this es.toList;rw[YY] at this;refine Eq.trans ?_ this;congr 1
 funext i
 exact (aaU ..).symm
open PySem PySem.SetTable PyProof.Rows
def Hj{es:Array (Int×Value)}(h:Int)(x:Value)(ok:TOk es.size t)(room:es.size*5<t.mask*3)(r:Ris t.place) :
  ∃es' t',layNew t es h x=(es',t',false,false)/\TOk es'.size t'/\es'.size=es.size+1/\t'.mask=t.mask/\Ris t'.place/\t'.led=t.led/\t'.plain=t.plain/\es'.toList.Perm ((h,x)::es.toList):=by
 have hle:es.size<=t.mask:=()
 obtain⟨j0,hj0,e0⟩:=ER ok.dm (by rw[ok.pl];exact hle);obtain⟨k,hk,ek⟩:=CW ok.msk.full h hj0;have fr:∃j,t.slot j=.empty/\t.freeSlot h=some (j,false):=by
  unfold SetTable.freeSlot;rcases FN ok.dm (λ_=>h+1) h (10*turns t.mask) k (t.probeStart h) hk (by rw[ek];exact e0) with ⟨a,_,h2,h3⟩|⟨_,_,_,_,h4,_⟩
  ·refine⟨_,h2,?_⟩;have:t.probe (λ_=>h+1) h (t.probeStart h)=some (.empty (DC t a (t.probeStart h)).j (t.probeStart h).dummy):=h3;rw[this];rfl
  ·lia
 obtain⟨j,hj,ej⟩:=fr;have hne:t.place[below t.place j]?≠some j:=λz=>by unfold slot at hj;dsimp only at hj;rw[Yb (by rw[z];exact beq_self_eq_true _)] at hj;cases hj
 have hp:below t.place j<=es.size:=by rw[<-ok.pl];exact (pT r j).1
 have ep:t.put j=({ t with place:=insertAt t.place (below t.place j) j },below t.place j):=by unfold SetTable.put;dsimp only;rw[X9 (by rw[ok.dm];unfold has;simp)]
 have hf:SetTable.fits { t with place:=insertAt t.place (below t.place j) j } (insertAt es (below t.place j) (h,x)).size=true:=by unfold SetTable.fits SetTable.fill;dsimp only;rw[eS,eS,ok.pl,ok.dm];simp;lia
 refine⟨insertAt es (below t.place j) (h,x),{ t with place:=insertAt t.place (below t.place j) j },?_,⟨ok.msk,?_,ok.dm⟩,eS _ _ _,rfl,r.put hne,rfl,rfl,xk _ _ _ hp⟩
 ·unfold layNew;rw[ej];dsimp only;rw[ep];dsimp only;unfold SetTable.orStandIn;rw[Yb hf,hf];rfl
 ·show (insertAt t.place _ _).size=_;rw[eS,eS,ok.pl]
def CY{es:Array (Int×Value)}{wanted:Nat}(hm:Msk (sizeAbove wanted-1))(hn:es.size<=sizeAbove wanted-1) :
  ∃es' t',relayAll t es wanted=(es',t',false)/\TOk es'.size t'/\es'.size=es.size/\t'.mask=sizeAbove wanted-1/\Ris t'.place/\t'.led=t.led/\t'.plain=t.plain/\es'.toList.Perm es.toList:=by
 obtain⟨t',order,e1,e2,e3,e4,e5,e6,e7,e8⟩:=Ko (finger:=t.finger) (moves:=t.movedTo (sizeAbove wanted-1)) (led:=t.led) (plain:=t.plain) hm.full (es.map (·.1)) (by rw[acb];exact hn);rw[acb] at e4 e6;have er:t.relaid (es.map (·.1)) wanted=some (t',order):=e1;have hp:(order.filterMap (es[·]?)).toList.Perm es.toList:=by rw[Array.toList_filterMap];exact G6 es e6
 have hz:(order.filterMap (es[·]?)).size=es.size:=by rw[<-YY,hp.length_eq,YY]
 have ok:TOk (order.filterMap (es[·]?)).size t':=⟨e2▸hm,by rw[hz];exact e4,e3⟩
 have hf:t'.fits (order.filterMap (es[·]?)).size=true:=ok.fits (by rw[hz,e2];exact hn);refine⟨order.filterMap (es[·]?),t',?_,ok,hz,e2,e5,e7,e8,hp⟩;unfold relayAll;rw[er];dsimp only;rw[Yb];rw[hf,Bool.and_true];unfold coversAll;exact List.isPerm_iff.2 e6
def SetI(prog:Program)(w:World)(h:Heap)(a:Addr)(led:Bool)(ks:Zn):Prop:=∃o es ep t,h.get? a=some o/\o.ExactSet/\o.data=.set es ep t/\TOk es.size t/\es.size*5<t.mask*3/\Ris t.place/\t.plain=true/\t.led=led/\ElemsOf (intKind prog w) es.toList/\∃ms,IntsAre (es.toList.map (·.2)) ms/\ms.Perm ks
def rC{vs us:Zh}(p:us.Perm vs):∀ {ns:Zn},IntsAre vs ns->∃ms,IntsAre us ms/\ms.Perm ns:=by
 induction p with
 |nil=>intro ns h;exact⟨ns,h,.refl _⟩
 |cons x _ ih=>
  intro ns h;cases h with
  |cons n t h=>
   obtain⟨ms,h1,h2⟩:=ih h;exact⟨n::ms,.cons n t h1,.cons _ h2⟩
 |swap x y l=>
  intro ns h;cases h with
  |cons n t h=>
   cases h with
   |cons m t' h=>exact⟨m::n::_,.cons m t' (.cons n t h),.swap _ _ _⟩
 |trans _ _ ih1 ih2=>intro ns h;obtain⟨ms,h1,h2⟩:=ih2 h;obtain⟨ks,h3,h4⟩:=ih1 h1;exact⟨ks,h3,h4.trans h2⟩
section
variable {prog:Program}{w:World}{A:Around}{E:Ze}{s:Shared}
theorem zO{k:Int}:∀ {l:List (Int×Value)} {ms:Zn},IntsAre (l.map (·.2)) ms->((∃e∈l,(intKind prog w).is k e.2=true)↔k∈ms)
 |[],_,h=>by
  cases h;simp
 | (h',v)::l,ms,h=>by
  cases h with
  |cons n t h=>
   have e1:(intKind prog w).is k (.int n t)=decide (k=n):=KeyKind.is_eq_decide (intKind_is _ _ _ _) k;rw[Yj,<-zO h];constructor
   ·rintro⟨e,he,q⟩;rcases Yj.1 he with rfl|he
    ·rw[e1] at q;exact .inl (Y6 q)
    ·exact .inr ⟨e,he,q⟩
   ·rintro (rfl|⟨e,he,q⟩)
    ·exact⟨_,Yg,by rw[e1];exact YI rfl⟩
    ·exact⟨e,Yn _ he,q⟩
def EN{led:Bool}{ks:Zn}{k:Int}{tk:Tok}{Q:Bool->Shared->Prop}(hS:SetI prog w s.heap a led ks)(hn:ks.length<300)
  (h:∀h' tk' r,SetI prog w h' a led (if ks.any (· == k) then ks else ks++[k])->(∀b,b≠a->h'.get? b=s.heap.get? b)->Q r { s with heap:=h',toks:=tk' }):wpAny (model prog w) A (setAdd a (.int k tk)) Q E s:=by
 obtain⟨o,es,ep,t,ho,hex,hd,ok,room,ris,pl,le,hel,ms,hi,hp⟩:=hS;have hsz:es.size=ks.length:=by have:=hi.length;rw[Ye,YY] at this;rw[this,hp.length_eq]
 have hle:es.size<=t.mask:=()
 have hf:=ok.fits hle;have hsc:(Value.int k tk).scannable=true:=rfl;have hkey:(intKind prog w).is k (.int k tk)=true:=intKind_is _ _ _ _;have hb:es.size<scanBound:=by rw[hsz];show _<4096;lia
 unfold setAdd;refine Y1 ?_;refine X8 ((intKind prog w).pyHash (k:=k) hkey ?_);unfold setAddHashed setAddHashedIn;refine Y1 (X8 (acZ ho hd hf ?_));dsimp only;rw[byScan_of hsc hb hel];simp only[↓reduceIte];unfold setAddByScan;refine X8 ?_;refine X8 (aao ?_);refine X8 (wpAny_setScan_of hkey ho hd hf hel ?_);cases hr:List.findIdx? (λe=>(intKind prog w).is k e.2) es.toList with
 |some j=>
  dsimp only;obtain⟨hj,hpj,_⟩:=List.findIdx?_eq_some_iff_getElem.1 hr;have hm:k∈ks:=hp.mem_iff.1 ((zO hi).mp ⟨es.toList[j],YV hj,hpj⟩);refine Yc (Yc ?_);refine h s.heap _ _ ?_ λ_ _=>rfl;rw[Yb (aau.2 ⟨k,hm,by simp⟩)];exact⟨o,es,ep,t,ho,hex,hd,ok,room,ris,pl,le,hel,ms,hi,hp⟩
 |none=>
  dsimp only;have hm:k∉ks:=λz=>by obtain⟨e,he,q⟩:=(zO (prog:=prog) (w:=w) hi).mpr (hp.mem_iff.2 z);have:=List.findIdx?_eq_none_iff.1 hr e he;rw[q] at this;exact Bool.noConfusion this
  have hany:¬ks.any (· == k)=true:=λz=>by obtain⟨x,hx,e⟩:=aau.1 z;rw[eq_of_beq e] at hx;exact hm hx
  obtain⟨es1,t1,e1,ok1,z1,m1,r1,l1,p1,pm1⟩:=Hj ((intKind prog w).hash k) (.int k tk) ok room ris;rw[e1];dsimp only;refine X8 (Yc ?_);rw[p1,pl];rw[Yb rfl];refine X8 ?_;rw[hashByValue_scannable 8 hsc];refine Yc ?_;have hpk:plainKind (Value.int k tk)=true:=rfl;rw[hpk,Yb rfl];have hel1:ElemsOf (intKind prog w) es1.toList:=(hel.push hkey hsc).perm (pm1.trans (aeK _ _).symm);have hi1:IntsAre (((intKind prog w).hash k,Value.int k tk)::es.toList |>.map (·.2)) (k::ms):=.cons k tk hi;obtain⟨ms1,hi1',hp1⟩:=rC (pm1.map (·.2)) hi1;have hpk1:ms1.Perm (ks++[k]):=hp1.trans ((hp.cons k).trans (aeK _ _).symm);have fits1:es1.size<=sizeLine:=by rw[z1,YA];lia
  refine X8 (aeL ho hd ?_ fits1);have hg1:(s.heap.update a (Obj.putSet es1 t1)).get? a=some { o with data:=.set es1 (ep+1) t1 }:=by have:=aah (Obj.putSet es1 t1) ho (by rw[ac0 es1 t1 hd];rfl);rw[ac0 es1 t1 hd] at this;exact this
  have hz1:t1.fill=es.size+1:=by unfold SetTable.fill;rw[ok1.dm,ok1.pl,z1];rfl
  by_cases htf:t1.tooFull=true
  ·rw[Yb (by rw[htf];rfl)];have hfu:t.mask*3<=(es.size+1)*5:=by
    unfold SetTable.tooFull at htf;have:=Y6 htf;rw[hz1,m1] at this;exact this
   obtain⟨g1,g2,g3⟩:=Vf ok.msk room hfu ();obtain⟨es2,t2,e2,ok2,z2,m2,r2,l2,p2,pm2⟩:=CY (t:=t1) (es:=es1) (wanted:=grown es1.size) (by rw[z1];exact g1) (by rw[z1];lia);rw[e2];dsimp only;refine X8 (Yc ?_);refine X8 (aeL hg1 rfl ?_ (by rw[z2];exact fits1));refine Yc (Yc ?_);have hg2:((s.heap.update a (Obj.putSet es1 t1)).update a (Obj.putSet es2 t2)).get? a=some { o with data:=.set es2 (ep+1+1) t2 }:=by have:=aah (Obj.putSet es2 t2) hg1 (by rw[ac0 es2 t2 rfl];rfl);rw[ac0 es2 t2 rfl] at this;exact this
   obtain⟨ms2,hi2,hp2⟩:=rC (pm2.map (·.2)) hi1';refine h _ _ _ ?_ λb hb=>?_
   ·rw[X9 hany];refine⟨_,es2,_,t2,hg2,hex,rfl,ok2,?_,r2,#v[p2,p1,pl],#v[l2,l1,le],hel1.perm pm2,ms2,hi2,hp2.trans hpk1⟩;rw[z2,m2,z1];exact g2
   ·rw[aaV _ _ _ _ hb,aaV _ _ _ _ hb]
  ·rw[X9 (~~~htf)];refine Yc (Yc ?_);refine h _ _ _ ?_ λb hb=>aaV _ _ _ _ hb;rw[X9 hany];refine⟨_,es1,_,t1,hg1,hex,rfl,ok1,?_,r1,#v[p1,pl],#v[l1,le],hel1,ms1,hi1',hpk1⟩;unfold SetTable.tooFull at htf;have:¬t1.fill*5 ≥ t1.mask*3:=λz=>htf (YI z);rw[hz1] at this;rw[z1];lia
def L4{h:Heap}{led:Bool}:SetI prog w (h.push { cls:=.type "set",dict:=none,data:=.set #[] 0 (.fresh 0 0 led) }) h.objs.size led []:=
 ⟨_,#[],0,.fresh 0 0 led,Yy _ rfl,⟨rfl,rfl,rfl⟩,rfl,⟨.inl rfl,rfl,rfl⟩,show 0*5<7*3 by decide,λi j a b _ e=>by simp[SetTable.fresh] at e,rfl,rfl,λe he=>by simp at he,[],.nil,.nil⟩
end
section
variable {prog:Program}{w:World}{A:Around}{R:Result->Shared->Prop}{I:Addr}{fp wr:Zk}{n:Nat}{P:Nat->Value->Prop}{St:Nat->Heap->Prop}{led:Bool}
def SetI.kept{h':Heap} {ks:Zn}(x:SetI prog w h a led ks)(k:∀o,h.get? a=some o->h'.get? a=some o):SetI prog w h' a led ks:=by obtain⟨o,es,ep,t,ho,r⟩:=x;exact⟨o,es,ep,t,k o ho,r⟩
def zA(l:Zn):(M.fZ l).length<=l.length:=by
 have key:∀(l a:Zn),(l.foldl M.jq a).length<=a.length+l.length:=by
  intro l;induction l with
  |nil=>intro a;exact Yi _
  |cons x l ih=>
   intro a;refine Yr (ih _) ?_;unfold M.jq;rw[Yk];split
   ·lia
   ·rw[Yl,Y5];lia
 have:=key l [];rw[abR,aaK] at this;exact this
def G3(ns:Zn){i:Nat}(hi:i<ns.length):M.fZ (ns.take (i+1))=M.jq (M.fZ (ns.take i)) ns[i]:=by
 have:ns.take (i+1)=ns.take i++[ns[i]]:=by simp
 rw[this];unfold M.fZ;rw[aco];rfl
def IP(W:Walks prog w A.in1 I fp wr n P St)(S:Addr)(hSf:S∉fp)(ns:Zn)(hns:ns.length=n)(hn:n<=300)(hP:∀i v,P i v->∃t,v=.int (ns.getD i 0) t) :
  ∀(k i:Nat) (s:Shared),n-i=k->i<=n->St i s.heap->SetI prog w s.heap S led (M.fZ (ns.take i)) ->
   (∀h' tk,(∀b o,b≠S->b∉wr->s.heap.get? b=some o->h'.get? b=some o)->SetI prog w h' S led (M.fZ ns)->R (.ok (.ret .none)) { s with heap:=h',toks:=tk }) ->
   codeAny (model prog w) A (.builtin "set.update.loop" ⟨[.ref S,.ref I],[]⟩) R s:=by
 have hSw:S∉wr:=λh=>hSf (W.sub _ h);intro k;induction k with
 |zero=>
  intro i s hk hi hst hS hR;have hin:i=n:=()
  subst hin;refine abf aeM ?_;rw[abA adJ _];refine X8 (W.done s _ _ hst λh' tk hk'=>?_);refine Yc (hR h' tk (λb o _ hb e=>hk' b o hb e) ?_);have:=hS.kept λo e=>hk' S o hSw e;rw[abN ()] at this;exact this
 |succ k ih=>
  intro i s hk hi hst hS hR;have hlt:i<n:=()
  refine abf aeM ?_;rw[abA adJ _];refine X8 (W.item i s _ _ hlt hst λv h' tk hv hst' hk'=>?_);obtain⟨t,rfl⟩:=hP i v hv;have hil:i<ns.length:=()
  have eg:ns.getD i 0=ns[i]:=by simp[hil]
  rw[eg];refine X8 (Y1 (EN (hS.kept λo e=>hk' S o hSw e) (by have:=zA (ns.take i);rw[aa2] at this;lia) λh2 tk2 r q1 q2=>?_));have q1':SetI prog w h2 S led (M.fZ (ns.take (i+1))):=by rw[G3 ns hil];exact q1
  refine Yc ⟨aba adJ _,ih (i+1) _ () hlt (W.frame _ _ _ hst' λb hb o e=>?_) q1' λh3 tk3 z1 z2=>hR h3 tk3 (λb o hb hw e=>z1 b o hb hw ?_) z2⟩
  ·show h2.get? b=some o;rw[q2 b λz=>hSf (z▸hb)];exact e
  ·show h2.get? b=some o;rw[q2 b hb];exact hk' b o hw e
end
section
variable {prog:Program}{w:World}{A:Around}{E:Ze}{s:Shared}
def L7(a:Value){Q₁:Ze}
  (h:Q₁ (.ref s.heap.objs.size) { s with heap:=s.heap.push { cls:=.type "set",dict:=none,data:=.set #[] 0 (.fresh 0 0 (!w.params.followText "set-order")) } }) :
  codeAny (model prog w) A (.call (.builtin "set.__new__") ⟨[.type "set",a],[]⟩) (wants Q₁ E) s:=by
 refine codeAny_of_tree ?_;show wpAny _ A.in1 (do checkBuiltinCall "set.__new__" ⟨[.type "set",a],[]⟩;again (.builtin "set.__new__" ⟨[.type "set",a],[]⟩)) _ _ s;refine X8 (aac (F.newCall_set_1 a) (Yc ⟨aba F.plain_set_new _,abf F.entry_set_new ?_⟩));rw[abA F.plain_set_new _];unfold Builtin.«set.__new__» Builtin.Frozenset.newClass;have hsub:=sub_set_self;obtain⟨hp,g,d,tk,os⟩:=s;dsimp only
 wp_walk
 refine acp (Yc ?_);dsimp only;simp only[newObj];refine X8 (wpAny_alloc (Yc ?_));exact Yc h
def uL{ns:Zn}{Q:Ze}
  (hh:A.handled=none) (hl:s.heap.IsList l items) (hns:ns.length=items.size) (hn:items.size<=300) (hi:IntsAre items.toList ns)
  (h:∀(h':Heap) (tk:Nat),SetI prog w h' s.heap.objs.size (!w.params.followText "set-order") (M.fZ ns)->(∀b o,s.heap.get? b=some o->h'.get? b=some o)->Q (.ref s.heap.objs.size) { s with heap:=h',toks:=tk }) :
  wpAny (model prog w) A (call (.type "set") [.ref l]) Q E s:=by
 obtain⟨c,tl,hmro⟩:=abj.mro;have hmade:=abj.made;have hsub:=abj.sub;generalize eled:(!w.params.followText "set-order")=led at h;refine ab3 (codeAny_of_tree ?_);show wpAny _ _ (callAny (.type "set") _) _ _ _;refine Yc ⟨Code.quiet_builtin _ (by decide +kernel),abf F.entry_type_call ?_⟩;rw[Around.under_plain (weight_type_call_type "set" [.ref l] []) rfl];have h1:=abj.notType;have h2:=abj.canCreate;have hct:=F.typeCall_set_1 (.ref l)
 repeat (any_goals (first|assumption|wp_step))
 refine abG (L7 (.ref l) (E:=E) (Q₁:=λobj s₁=>obj=.ref s.heap.objs.size/\s₁={ s with heap:=s.heap.push { cls:=.type "set",dict:=none,data:=.set #[] 0 (.fresh 0 0 led) } }) ⟨rfl,#v[eled]⟩) λr s₁ hr=>?_;cases r with
 |error e=>exact hr
 |ok fl=>
  cases fl with
  |ret obj=>
   obtain⟨rfl,rfl⟩:=hr;have hS:(s.heap.push { cls:=.type "set",dict:=none,data:=.set #[] 0 (.fresh 0 0 led) }).get? s.heap.objs.size=some { cls:=.type "set",dict:=none,data:=.set #[] 0 (.fresh 0 0 led) }:=Yy _ rfl;have hT:Shared.TypeIs { s with heap:=s.heap.push { cls:=.type "set",dict:=none,data:=.set #[] 0 (.fresh 0 0 led) } } (.ref s.heap.objs.size) "set" := ⟨_,hS,rfl⟩
   have hli:=abj.init.lookup;have hbi:=abj.init.bind (.ref s.heap.objs.size)
   repeat (any_goals (first|assumption|wp_step))
   refine abG (acP (R:=wants (λr s₂=>r=.none/\∃h' tk,s₂={ s with heap:=h',toks:=tk }/\SetI prog w h' s.heap.objs.size led (M.fZ ns)/\(∀b o,s.heap.get? b=some o->h'.get? b=some o)) E) abj.init.plain F.entry_set_init (check_set_init_1 hT ?_)) λr₂ s₂ hr₂=>?_
   ·obtain⟨ol,hol,hcl,nl,hdl⟩:=hl;obtain⟨ocls,odict,odata,oslots⟩:=ol;simp only at hcl hdl;subst hcl;subst hdl;have hol':(s.heap.push { cls:=.type "set",dict:=none,data:=.set #[] 0 (.fresh 0 0 led) }).get? l=some { cls:=.type "list",dict:=odict,data:=.seq items nl,slots:=oslots }:=Yq _ hol;have hsls:=F.sub_list_set;have hslf:=F.sub_list_frozenset;have hne:(Value.type "list" == Value.type "dict")=false:=by decide
    have hl1:(s.heap.push { cls:=.type "set",dict:=none,data:=.set #[] 0 (.fresh 0 0 led) }).IsList l items:=⟨_,hol',rfl,nl,rfl⟩
    unfold Builtin.«set.__init__» noKeywords Builtin.Frozenset.updateFrom;generalize hPI:pyIter=PI
    wp_walk
    subst hPI;refine acg hl1 ?_;refine X8 (wpAny_runValue ?_);have hlS:l<s.heap.objs.size:=Ys hol;have hh3:A.in1.in1.in1.handled=none:=by simp[hh]
    have hneI:l≠(s.heap.push { cls:=.type "set",dict:=none,data:=.set #[] 0 (.fresh 0 0 led) }).objs.size:=by rw[aaO];exact Yz (abr hlS)
    have hSf:s.heap.objs.size∉[(s.heap.push { cls:=.type "set",dict:=none,data:=.set #[] 0 (.fresh 0 0 led) }).objs.size,l]:=by rw[aaO];simp only[Yj,Yp,abb,abc,not_or];exact⟨Yz (aam _),abF hlS⟩
    refine IP (led:=led) (Walks.list hh3 _ l hneI items) s.heap.objs.size hSf ns hns hn (λi v hv=>IntsAre.int_at hi i v (by rw[aaU];exact hv)) (items.size-0) 0 _ () (YR _)
     ⟨⟨_,Yy _ rfl,rfl,rfl⟩,(hl1.push _)⟩ ?hS0 ?hR
    case hS0=>
     rw[List.take_zero];exact (L4 (h:=s.heap) (led:=led)).kept λo e=>Yq _ e
    case hR=>
     intro h' tk' hk' hS';show wpAny _ _ _ _ _ _;refine Yc ?_;show wpAny _ _ (ret Value.none) _ _ _;refine Yc ⟨rfl,h',tk',rfl,hS',λb o e=>hk' b o (Yz (Ys e)) (λz=>?_) (Yq _ (Yq _ e))⟩;rw[Yp.1 z,aaO] at e;exact absurd (Ys e) (adI.2 (ab4 _))
   ·cases r₂ with
    |error e=>exact hr₂
    |ok fl₂=>
     cases fl₂ with
     |ret r=>
      obtain⟨rfl,h',tk,rfl,hS',hk'⟩:=hr₂
      repeat (any_goals (first|assumption|wp_step))
      exact h _ _ hS' hk'
     |_=>exact hr₂.elim
  |_=>exact hr.elim
end
theorem Gc{α:Type}(next:Nat->Nat):∀(fuel k:Nat) (left:List α) (out:Array α),left.length=fuel->(pickOrder.go next fuel k left out).toList.Perm (out.toList++left)
 |0,k,left,out,h=>by
  have:left=[]:=acY h;subst this;rw[YK];exact .refl _
 |fuel+1,k,left,out,h=>by
  unfold pickOrder.go;have hm:next k%left.length<left.length:=acS _ ()
  rw[YS hm];dsimp only;refine (Gc next fuel (k+1) _ _ (by rw[List.length_eraseIdx,Yb hm];lia)).trans ?_;rw[abM,YL];refine adl _ ?_;show (left[next k%left.length]::left.eraseIdx (next k%left.length)).Perm left;rw[List.eraseIdx_eq_take_drop_succ];refine List.perm_middle.symm.trans (.of_eq ?_);rw[<-abL hm,acB]
def yR{α:Type}(next:Nat->Nat)(xs:Array α):(pickOrder next xs).toList.Perm xs.toList:=by
 have:=Gc next xs.size 0 xs.toList #[] (YY ..)
 exact this
def Zr:Slot "set_iterator" "__next__" "set_iterator.__next__" := .of (owner := "set_iterator") (n := "__next__") (by rw[aar,aas];kernel_rfl) (by decide +kernel) (by decide +kernel) (by decide +kernel) (by first|exact .inl (by decide +kernel)|exact .inr (by decide +kernel)) (by rw[aaF];kernel_rfl)
def iH:entryFor table "set_iterator.__next__"=some Builtin.«set_iterator.__next__»:=acJ (by kernel_rfl)
def jW(a:Value):argsOk "set_iterator.__next__" ⟨[a],[]⟩:=by unfold argsOk;kernel_rfl
def km:Slot "set" "__iter__" "set.__iter__" := .of (owner := "set") (n := "__iter__") (by rw[aar,aas];kernel_rfl) (by decide +kernel) (by decide +kernel) (by decide +kernel) (by first|exact .inl (by decide +kernel)|exact .inr (by decide +kernel)) (by rw[aaF];kernel_rfl)
def oU:entryFor table "set.__iter__"=some Builtin.«frozenset.__iter__»:=adu (id' := "frozenset.__iter__") (by kernel_rfl) (by first|rfl|decide +kernel|(unfold String.splitOn;simp +decide [String.splitOnAux])) (by decide +kernel) (by kernel_rfl)
def re(a:Value):argsOk "set.__iter__" ⟨[a],[]⟩:=by unfold argsOk;kernel_rfl
def nU(w:World)(S:Addr)(ep:Nat)(es:Array (Int×Value)):Array (Int×Value):=if w.params.followText "set-order"=true then pickOrder (w.params.setOrder S ep) es else es
def IsSetIt(w:World)(h:Heap)(I S:Addr)(t:SetTable)(n ep i:Nat):Prop:=∃o slot,h.get? I=some o/\o.cls=.type "set_iterator" /\ o.data=.fields #[rawInt ((slot:Nat):Int),rawInt ((i:Nat):Int),.ref S,rawInt ((n:Nat):Int),rawInt ((ep:Nat):Int)]/\(w.params.followText "set-order"=false->below t.place slot=i)
section
variable {prog:Program}{w:World}{A:Around}{E:Ze}{s:Shared}{I S:Addr}{oS:Obj}{es:Array (Int×Value)}{ep:Nat}{t:SetTable}{i:Nat}
def IsSetIt.typeIs{n:Nat}(x:IsSetIt w s.heap I S t n ep i):s.TypeIs (.ref I) "set_iterator" := let ⟨o,_,ho,hc,_⟩:=x;⟨o,ho,hc⟩
def OV{Q:Array (Int×Value)->Shared->Prop}(hb:w.params.followText "set-order"=true) (ho:s.heap.get? S=some oS) (hd:oS.data=.set es ep t) (hf:t.fits es.size=true) (h:Q (nU w S ep es) s):wpAny (model prog w) A (setWalk S) Q E s:=by unfold setWalk;refine X8 (acZ ho hd hf ?_);dsimp only;unfold setsByText;refine X8 (X8 (acp (Yc ?_)));show wpAny _ _ (if w.params.followText "set-order"=true then _ else _) _ _ _;rw[Yb hb];refine X8 (acp (Yc ?_));unfold nU at h;rw[Yb hb] at h;exact h
def F4{slot:Nat}{Q:Option (Value×Nat)->Shared->Prop}(ho:s.heap.get? S=some oS)(hd:oS.data=.set es ep t)(hf:t.fits es.size=true)(hr:Ris t.place)(hl:t.led = !w.params.followText "set-order") (hp:t.plain=true) (hs:w.params.followText "set-order"=false->below t.place slot=i)
  (h1:∀e slot',(nU w S ep es)[i]?=some e->(w.params.followText "set-order"=false->below t.place slot'=i+1)->Q (some (e.2,slot')) s) (h2:(nU w S ep es)[i]?=none->Q none s):wpAny (model prog w) A (setNext S slot i ep) Q E s:=by
 unfold setNext;refine X8 (acZ ho hd hf ?_);dsimp only;unfold setsByText;refine X8 (X8 (acp (Yc ?_)));show wpAny _ _ (if w.params.followText "set-order"=true then _ else _) _ _ _;by_cases hb:w.params.followText "set-order"=true
 ·rw[Yb hb,X9 (by simp)];refine X8 (OV hb ho hd hf (Yc ?_));cases q:(nU w S ep es)[i]? with
  |none=>exact h2 q
  |some e=>exact h1 e slot q λz=>by rw[hb] at z;cases z
 ·have hb':w.params.followText "set-order"=false:=by simpa using hb
  rw[X9 hb];have eo:nU w S ep es=es:=by unfold nU;rw[X9 hb]
  rw[eo] at h1 h2;rw[hb'] at hl;show wpAny _ _ (if (!t.plain&&decide (es.size > 1))=true then _ else _) _ _ _;rw[X9 (by rw[hp];simp)];show wpAny _ _ ((if (!t.led && !es.isEmpty)=true then _ else _) >>= _) _ _ _;rw[X9 (by rw[hl];simp)];refine X8 (Yc (Yc ?_));rw[hs hb'];have hz:t.place.size=es.size:=by unfold SetTable.fits at hf;simp only[Y3,aag] at hf;exact hf.1
  cases q:es[i]? with
  |none=>exact h2 q
  |some e=>have hi:=(abw.1 q).1;have q2:t.place[i]?=some (t.place[i]'()):=aaX ();rw[q2];exact h1 e _ q λ_=>DM hr q2
end
def y3:Slot "set_iterator" "__iter__" "set_iterator.__iter__" := .of (owner := "set_iterator") (n := "__iter__") (by rw[aar,aas];kernel_rfl) (by decide +kernel) (by decide +kernel) (by decide +kernel) (by first|exact .inl (by decide +kernel)|exact .inr (by decide +kernel)) (by rw[aaF];kernel_rfl)
def GT(a:Value):argsOk "set_iterator.__iter__" ⟨[a],[]⟩:=by unfold argsOk;kernel_rfl
def DZ:entryFor table "set_iterator.__iter__"=some Builtin.«dict_keyiterator.__iter__»:=adu (id' := "dict_keyiterator.__iter__") (by kernel_rfl) (by first|rfl|decide +kernel|(unfold String.splitOn;simp +decide [String.splitOnAux])) (by decide +kernel) (by kernel_rfl)
def NO:typeLookup (.type "set") "__len__"=pure (some (.builtin "set.__len__")):=by rw[aar,aas];kernel_rfl
def OJ:isSubtype (.type "set") (.type "set")=pure true:=by rw[aaF];kernel_rfl
structure WSet(w:World)(h:Heap)(S:Addr)(es:Array (Int×Value))(ep:Nat)(t:SetTable):Prop where
 at':∃o,h.get? S=some o/\o.ExactSet/\o.data=.set es ep t
 fits:t.fits es.size=true
 ris:Ris t.place
 led:t.led = !w.params.followText "set-order"
 plain:t.plain=true
section
variable {prog:Program}{w:World}{A:Around}{E:Ze}{s:Shared}{I S:Addr}{es:Array (Int×Value)}{ep:Nat}{t:SetTable}{i:Nat}
def WSet.kept{h':Heap}(x:WSet w h S es ep t)(k:∀o,h.get? S=some o->h'.get? S=some o):WSet w h' S es ep t:=by obtain⟨⟨o,ho,r⟩,f,a,b,c⟩:=x;exact⟨⟨o,k o ho,r⟩,f,a,b,c⟩
def vZ:(nU w S ep es).size=es.size:=by
 unfold nU;split
 ·rw[<-YY,(yR _ es).length_eq,YY]
 ·rfl
def L5{Q:Zi->Shared->Prop}(hit:IsSetIt w s.heap I S t es.size ep i)(hS:WSet w s.heap S es ep t)(hi:i<es.size)
  (hQ:∀e h',(nU w S ep es)[i]?=some e->IsSetIt w h' I S t es.size ep (i+1)->(∀b,b≠I->h'.get? b=s.heap.get? b)->Q (some e.2) { s with heap:=h' }):wpAny (model prog w) A (pyNext (.ref I)) Q E s:=by
 obtain⟨o,slot,ho,hc,hd,hb⟩:=id hit;obtain⟨⟨oS,hoS,hex,hdS⟩,hf,hr,hl,hp⟩:=hS;unfold pyNext;refine X8 (aa7 (aa4 (name:=Str.ofString "__next__") hit.typeIs Zr (aae Zr hit.typeIs iH ?_ (jW _))));unfold Builtin.«set_iterator.__next__»;refine X8 (aac (a:=(Value.ref I,[])) rfl ?_);refine X8 (abW ho hd ?_);show wpAny _ _ (setEntries S >>= _) _ _ s;refine X8 (adK hoS hdS hf ?_);rw[X9 (by simp[rawInt])];show wpAny _ _ (setNext S ((slot:Nat):Int).toNat ((i:Nat):Int).toNat ((ep:Nat):Int).toNat >>= _) _ _ s;rw[aaE,aaE,aaE];refine X8 (F4 hoS hdS hf hr hl hp hb (λe slot' q hb'=>?_) λq=>?_)
 ·dsimp only;refine X8 (abd ho hd (by simp) ?_);have ho1:=aah (h:=s.heap) (Obj.mapFields (·.setIfInBounds 0 (rawInt slot'))) ho (abx (aat hd _));have hd1:=aat hd (·.setIfInBounds 0 (rawInt slot'));refine X8 (abd (s:={ s with heap:=s.heap.update I (Obj.mapFields (·.setIfInBounds 0 (rawInt slot'))) }) ho1 hd1 (by simp) ?_);refine Yc ⟨e.2,rfl,Yc (hQ e _ q ?_ λb hb2=>?_)⟩
  ·exact⟨_,slot',aah _ ho1 (abx (aat hd1 _)),(aci ..).trans ((aci ..).trans hc),by rw[aat hd1];simp[rawInt],hb'⟩
  ·show ((s.heap.update I _).update I _).get? b=_;rw[aaV _ _ _ _ hb2,aaV _ _ _ _ hb2]
 ·rw[Array.getElem?_eq_none_iff,vZ] at q;lia
def OA{Q:Zi->Shared->Prop}(hh:A.handled=none)(hit:IsSetIt w s.heap I S t es.size ep es.size)(hS:WSet w s.heap S es ep t)
  (hQ:∀h',Heap.ExtBut I s.heap h'->Q none { s with heap:=h' }):wpAny (model prog w) A (pyNext (.ref I)) Q E s:=by
 obtain⟨o,slot,ho,hc,hd,hb⟩:=id hit;obtain⟨⟨oS,hoS,hex,hdS⟩,hf,hr,hl,hp⟩:=hS;unfold pyNext;refine X8 (aa7 (aa4 (name:=Str.ofString "__next__") hit.typeIs Zr (aae Zr hit.typeIs iH ?_ (jW _))));unfold Builtin.«set_iterator.__next__»;refine X8 (aac (a:=(Value.ref I,[])) rfl ?_);refine X8 (abW ho hd ?_);show wpAny _ _ (setEntries S >>= _) _ _ s;refine X8 (adK hoS hdS hf ?_);rw[X9 (by simp[rawInt])];show wpAny _ _ (setNext S ((slot:Nat):Int).toNat ((es.size:Nat):Int).toNat ((ep:Nat):Int).toNat >>= _) _ _ s;rw[aaE,aaE,aaE];refine X8 (F4 hoS hdS hf hr hl hp hb (λe slot' q hb'=>?_) λq=>?_)
 ·have:=(abw.1 q).1;rw[vZ] at this;lia
 ·dsimp only;refine X8 (abd ho hd (by simp) ?_);show wpAny _ _ (newExc (.type "StopIteration") [] >>= _) _ _ _;refine X8 ?_;simp only[newExc,newTuple];refine X8 (YZ ?_ (by size_fits));refine X8 (m:=firstArgMember _ _) (aac (a:=Value.none) (by first|rfl|(simp only[firstArgMember];rfl)) ?_);refine YZ ?_ (by size_fits);simp only[raiseNew];refine X8 (acL ?_);first|rw[show A.in1.handled=none from hh]|rw[hh]
  refine X8 (Yc (aby ?_));refine X8 (abz (T := "StopIteration") (b:=true) ⟨_,Yy _ rfl,rfl⟩ adv ?_);exact Yc (hQ _ (((abe ..).extBut.push _).push _))
def MG(hh:A.handled=none)(hne:S≠I)(es:Array (Int×Value))(ep:Nat)(t:SetTable) :
  Walks prog w A I [I,S] [I] es.size (λi v=>∃e,(nU w S ep es)[i]?=some e/\v=e.2) (λi h=>IsSetIt w h I S t es.size ep i/\WSet w h S es ep t) where
 sub:=λb hb=>by simp at hb;simp[hb]
 frame:=λi h h' st hk=>by obtain⟨⟨o,slot,ho,r⟩,st2⟩:=st;exact⟨⟨o,slot,hk I (by simp) o ho,r⟩,st2.kept λo e=>hk S (by simp) o e⟩
 item:=λi s Q E hi st hQ=>L5 st.1 st.2 hi λe h' q it' oth=>by have:=hQ e.2 h' s.toks ⟨e,q,rfl⟩ ⟨it',st.2.kept λo z=>by rw[oth S hne];exact z⟩ (λb o hb z=>by rw[oth b λy=>hb (by simp[y])];exact z);exact this
 done:=λs Q E st hQ=>OA hh st.1 st.2 λh' x=>hQ h' s.toks λb o hb z=>x b o (λy=>hb (by simp[y])) z
 self:=λi s Q E st h=>by refine acM st.1.typeIs y3 (aae y3 st.1.typeIs DZ ?_ (GT _));show wpAny _ _ (ret (.ref I)) _ _ s;exact Yc ⟨_,rfl, "set_iterator",_,st.1.typeIs,Zr.lookup,h⟩
def Kg{Q:Ze}(hS:WSet w s.heap S es ep t)
  (hQ:Q (.ref s.heap.objs.size) { s with heap:=s.heap.push { cls:=.type "set_iterator",data:=.fields #[rawInt 0,rawInt 0,.ref S,rawInt es.size,rawInt ep] } }):wpAny (model prog w) A (pyIter (.ref S)) Q E s:=by
 obtain⟨⟨oS,hoS,hex,hdS⟩,hf,hr,hl,hp⟩:=hS;have hT:s.TypeIs (.ref S) "set" := ⟨oS,hoS,hex.1⟩
 refine acM hT km (aae km hT oU ?_ (re _));unfold Builtin.«frozenset.__iter__»;refine X8 (aac (a:=S) rfl ?_);refine X8 (m:=Builtin.Frozenset.sizeOf S) ?_;unfold Builtin.Frozenset.sizeOf;refine X8 (adK hoS hdS hf (Yc ?_));refine X8 ?_;unfold setDrawn;refine X8 (acZ hoS hdS hf ?_);dsimp only;unfold setsByText;refine X8 (X8 (acp (Yc (Yc ?_))));show wpAny _ _ (if (!w.params.followText "set-order" && (!t.plain&&decide (es.size > 1)))=true then _ else _) _ _ _;rw[X9 (by rw[hp];simp)];refine X8 (Yc ?_);refine X8 (wpAny_setEpoch_of hoS hdS hf ?_);refine X8 (YZ (Yc ⟨_,rfl, "set_iterator",_,⟨_,Yy _ rfl,rfl⟩,Zr.lookup,hQ⟩))
end
section
variable {prog:Program}{w:World}{A:Around}{E:Ze}{s:Shared}{S:Addr}{es:Array (Int×Value)}{ep:Nat}{t:SetTable}
def Bo{Q:Zh->Shared->Prop}(hh:A.handled=none)(hS:WSet w s.heap S es ep t)(hn:es.size<=300)
  (hQ:∀h' tk (vs:Zh),vs.length=es.size->(∀(i:Nat) v,vs[i]?=some v->∃e,(nU w S ep es)[i]?=some e/\v=e.2)->(∀b o,s.heap.get? b=some o->h'.get? b=some o)->s.heap.objs.size<=h'.objs.size->Q vs { s with heap:=h',toks:=tk }):wpAny (model prog w) A (collect (.ref S)) Q E s:=by
 obtain⟨oS,hoS,hex,hdS⟩:=hS.at';have hSl:S<s.heap.objs.size:=Ys hoS;unfold collect;refine X8 (wpAny_runValue (abf PySem.F.entry_proto_collect ?_));rw[abA PySem.F.plain_proto_collect _];show wpAny _ A.in1 (newList [] >>= λl=>again (.builtin "list.__iadd__" ⟨[l,.ref S],[]⟩)) _ _ s;refine X8 (YZ ?_);refine Yc ⟨aba aeN _,abf PySem.F.entry_list_iadd ?_⟩;rw[abA aeN _];have hL:(s.heap.push ∅).get? s.heap.objs.size=some ∅:=Yy _ rfl;have hS1:WSet w (s.heap.push ∅) S es ep t:=hS.kept λo e=>Yq _ e;have h1:Builtin.List.listSameRef (.ref s.heap.objs.size) (.ref S)=false:=by simp[Builtin.List.listSameRef];exact abF hSl
 show wpAny _ A.in1 (Builtin.List.listExtendWith (.ref s.heap.objs.size) (.ref S) (.ref s.heap.objs.size)) _ _ _;unfold Builtin.List.listExtendWith;refine X8 (aa5 (T := "set") ⟨oS,Yq _ hoS,hex.1⟩ ?_);rw[X9 (by rw[h1];decide)];refine X8 (Kg (s:={ s with heap:=s.heap.push ∅ }) hS1 ?_);refine X8 (Y1 ?_);unfold Builtin.List.listLengthHint;have hT2:Shared.TypeIs { s with heap:=(s.heap.push ∅).push { cls:=.type "set_iterator",data:=.fields #[rawInt 0,rawInt 0,.ref S,rawInt es.size,rawInt ep] } } (.ref S) "set" := ⟨oS,Yq _ (Yq _ hoS),hex.1⟩
 refine X8 (acK hT2 NO ?_)
 (generalize hid:("set.__len__" : String)=id0;wp_delta;rw[show splitId id0=some ("set", "__len__") from by subst hid;decide +kernel];subst hid)
 refine X8 (abz (b:=true) hT2 OJ ?_);rw[X9 (by decide)];dsimp only;rw[Yb (by decide +kernel)];refine X8 (aa5 hT2 ?_);dsimp only;refine Yc ?_;rw[Yb (by decide +kernel)];refine X8 (aao ?_);have eI:(s.heap.push ∅).objs.size=s.heap.objs.size+1:=aaO ..;have hL2:((s.heap.push ∅).push { cls:=.type "set_iterator",data:=.fields #[rawInt 0,rawInt 0,.ref S,rawInt es.size,rawInt ep] }).get? s.heap.objs.size=some ∅:=Yq _ hL;refine X8 (m:=Builtin.List.listTouch (.ref s.heap.objs.size)) ?_;show wpAny _ _ (updateSeq s.heap.objs.size (·.push .none) >>= λ_=>updateSeq s.heap.objs.size (·.pop)) _ _ _;refine X8 (wpAny_updateSeq hL2 rfl ?_);have hL3:=aah (Obj.mapSeq (·.push Value.none)) hL2 rfl;refine wpAny_updateSeq hL3 rfl ?_;have hL4:=aah (Obj.mapSeq (·.pop)) hL3 rfl
 have hoth:∀b o,b≠s.heap.objs.size->((s.heap.push ∅).push { cls:=.type "set_iterator",data:=.fields #[rawInt 0,rawInt 0,.ref S,rawInt es.size,rawInt ep] }).get? b=some o ->
   ((((s.heap.push ∅).push { cls:=.type "set_iterator",data:=.fields #[rawInt 0,rawInt 0,.ref S,rawInt es.size,rawInt ep] }).update s.heap.objs.size (Obj.mapSeq (·.push Value.none))).update s.heap.objs.size (Obj.mapSeq (·.pop))).get? b=some o:=λb o hb e=>by
  rw[aaV _ _ _ _ hb,aaV _ _ _ _ hb];exact e
 have hI:s.heap.objs.size+1≠s.heap.objs.size:=Nat.succ_ne_self _;have hit:IsSetIt w ((((s.heap.push ∅).push { cls:=.type "set_iterator",data:=.fields #[rawInt 0,rawInt 0,.ref S,rawInt es.size,rawInt ep] }).update s.heap.objs.size (Obj.mapSeq (·.push Value.none))).update s.heap.objs.size (Obj.mapSeq (·.pop))) (s.heap.objs.size+1) S t es.size ep 0:=
  ⟨_,0,hoth _ _ hI (by rw[<-eI];exact Yy _ rfl),rfl,rfl,λ_=>DN hS.ris⟩
 have hS4:=hS1.kept (h':=((((s.heap.push ∅).push { cls:=.type "set_iterator",data:=.fields #[rawInt 0,rawInt 0,.ref S,rawInt es.size,rawInt ep] }).update s.heap.objs.size (Obj.mapSeq (·.push Value.none))).update s.heap.objs.size (Obj.mapSeq (·.pop)))) λo e=>hoth S o (Yz hSl) (Yq _ e);rw[eI];have hne:S≠s.heap.objs.size+1:=Yz (abr hSl);have hSf:s.heap.objs.size∉[s.heap.objs.size+1,S]:=by simp only[Yj,abb,abc,not_or];exact⟨Yz (aam _),abF hSl⟩
 refine Yc ⟨aba PySem.F.plain_extend_loop _,codeAny_extend_loopS (MG (A:=A.in1) (prog:=prog) (w:=w) hh hne es ep t).toS (by rw[YA];lia) _ hSf _ es.size 0 _ _ _ (acH _) (YR _) ⟨hit,hS4⟩ hL4 (ItemsOf.nil _) λs' acc c hm hL' hacc=>?_⟩;show wpAny _ A (load s.heap.objs.size >>= _) _ _ s';refine X8 (wpAny_load hL' ?_);have es':s'={ s with heap:=s'.heap,toks:=s'.toks }:=by obtain⟨h',g',d',tk',os'⟩:=s';have e1:=hm.gens;have e2:=hm.drawn;have e3:=hm.os;dsimp only at e1 e2 e3;rw[e1,e2,e3]
 rw[es'];refine Yc (hQ s'.heap s'.toks acc.toList (by rw[YY];exact hacc.1) (λi v q=>hacc.2 i v (by rw[<-aaU];exact q)) (λb o e=>?_) (Y0 (Ys hL')));have hb:=Ys e;refine hm.heap b o (λz=>?_) (hoth b o (Yz hb) (Yq _ (Yq _ e)));rcases Yj.1 z with z|z
 ·exact absurd z (Yz hb)
 ·rw[Yp] at z;rw[z] at hb;exact absurd hb (adI.2 (ab4 _))
def ET{ks:Zn}{Q:Ze}(hh:A.handled=none)(hS:SetI prog w s.heap S (!w.params.followText "set-order") ks) (hn:ks.length<=300)
  (h:∀h' tk l c (out:Array Value) (ms:Zn),s.heap.objs.size<=l->h'.get? l=some (seqObj "list" out c)->IntsAre out.toList ms->ms.Perm ks->ms.Pairwise (· <= ·)->(∀b o,s.heap.get? b=some o->h'.get? b=some o)->Q (.ref l) { s with heap:=h',toks:=tk }) :
  wpAny (model prog w) A (call (.builtin "sorted") [.ref S]) Q E s:=by
 obtain⟨o,es,ep,t,ho,hex,hd,ok,room,ris,pl,le,hel,ms,hi,hp⟩:=hS;have hsz:es.size=ks.length:=by have:=hi.length;rw[Ye,YY] at this;rw[this,hp.length_eq]
 have hW:WSet w s.heap S es ep t:=⟨⟨o,ho,hex,hd⟩,ok.fits (),ris,le,pl⟩
 refine aeu kind_sorted plain_sorted entry_sorted (args_sorted1 (.ref S)) ?_;unfold Builtin.«sorted»;refine X8 (m:=checkCount "sorted" 1 1 _) (Yc (X8 (Bo hh hW () λh1 tk1 vs hl hv old1 hge=>?_)));have evs:vs=(nU w S ep es).toList.map (·.2):=by
  apply acd;intro i;rw[YG,aaU (xs:=nU w S ep es)];cases q:vs[i]? with
  |none=>
   rw[abv,hl] at q;rw[adH (by rw[vZ];exact q)];rfl
  |some v=>obtain⟨e,e1,e2⟩:=hv i v q;rw[e1,e2];rfl
 have po:(nU w S ep es).toList.Perm es.toList:=by
  unfold nU;split
  ·exact yR _ es
  ·exact .refl _
 obtain⟨ks1,hi1,hp1⟩:=rC (us:=vs) (by rw[evs];exact po.map (·.2)) hi;have hz:vs.length<=sizeLine:=by rw[hl,YA];lia
 refine X8 (adq ?_ hz);have at1:(h1.push (seqObj "list" vs.toArray 0)).get? h1.objs.size=some (seqObj "list" vs.toArray 0):=Yy _ rfl;refine X8 (Y1 (aae slot_list_sort ⟨_,at1,rfl⟩ entry_list_sort (Srt.B6 (κ:=oneType') (le:=λi j=>ks1.getD i 0<=ks1.getD j 0) (Srt.Cz λi=>ks1.getD i 0) at1 hz (λh' kp=>Srt.vm hi1) λp hp2 ha=>⟨_,rfl,Yc ⟨_,rfl,?_⟩⟩) (args_list_sort _)));obtain⟨c,at2⟩:=sortedHeap_at (out:=Srt.iV vs p) at1;have e:=Srt.vh hi1;have hb:∀i∈p.toList,i<vs.length:=λi hi=>by simpa using (abK.1 hp2).mem_iff.mp hi
 rw[e] at hp2 ha;obtain⟨p1,p2⟩:=Srt.Ah (vs:=ks1) (d:=0) hp2 ha;refine h _ tk1 h1.objs.size c (Srt.iV vs p) _ hge at2 (by simpa[Srt.iV] using Srt.d7 hi1 p.toList hb) (p1.trans (hp1.trans hp)) (p2 _ λi j _ _ h=>h) λb o e=>?_;have hlt:=Ys (old1 b o e);rw[sortedHeap_old (Yz hlt) (by rw[ado];exact abr hlt)];exact Yq _ (old1 b o e)
end
end ST
namespace L2
open PySem
def Dk(K:Zj)(ta:TE):TE:=λσ H Q=>ta σ H λx H1=>∃p,∃ns:Zn,x=.ref p/\SqL K H1 p (ns.map V.int)/\ns.length<=300/\∀(ms:Zn) l,ms.Perm (M.fZ ns)->ms.Pairwise (· <= ·)->H1 l=none->Q (.ref l) (bi H1 l (.lst (ms.map V.int)))
def Xy(K:Zj)(Q:VK):Za->Hp->Prop:=λvs H1=>match vs with|[x]=>∃p,∃ns:Zn,x=.ref p/\SqL K H1 p (ns.map V.int)/\ns.length<=300/\∀(ms:Zn) l,ms.Perm (M.fZ ns)->ms.Pairwise (· <= ·)->H1 l=none->Q (.ref l) (bi H1 l (.lst (ms.map V.int)))|_=>False
section
variable {X:Cx}
def wf{ta:TE}{pl pr pos pos':Pos}(hl:X.mg "sorted"=none) (hs:X.mg "set"=none) (ha:PE X a ta) (gl:Gl X "sorted" := by rfl) (gs:Gl X "set" := by rfl) (hc:X.calm=true:=by rfl)
  (he:starEach [.Call (.Name "set" pr) [a] [] pos'] X.env=(false,eval (.Call (.Name "set" pr) [a] [] pos') X.env)::starEach [] X.env:=by rfl) (he1:starEach [a] X.env=(false,eval a X.env)::starEach [] X.env:=by rfl)
  (hp0:(backTo pos (starEach [] X.env)).any (·.1)=false:=by rfl) (hp1:(backTo pos' (starEach [] X.env)).any (·.1)=false:=by rfl) :
  PE X (.Call (.Name "sorted" pl) [.Call (.Name "set" pr) [a] [] pos'] [] pos) (Dk X.K ta):=by
 intro ZN s σ H Q I h;have h':eX ta mY σ H (Xy X.K Q):=h;refine abH (kU I gl hl nq (aeb ?_ he hp0));rw[he];show wpAny (model X.prog X.w) X.A (spliced ((false,eval (.Call (.Name "set" pr) [a] [] pos') X.env)::backTo pos (starEach [] X.env))) _ _ s;refine aea (abH (kU I gs hs QA (abo (bZ (ai ha av he1 pos' ZN s σ H _ I h') λus s1 h1=>?_) he1 hp1)));obtain⟨vs,H1,I1,r1,q⟩:=h1
 match vs,r1,q with
 |[x],.cons rx .nil,⟨p,ns,e,hS,ZQ,q⟩=>
  subst e;cases rx;obtain⟨its,rv,lp,hz⟩:=I1.list hS;have hi:PyProof.Rows.IntsAre its.toArray.toList ns:=by simpa using BX rv
  have hn:its.toArray.size=ns.length:=by have:=rv.length;rw[Ye] at this;simpa using this.symm
  refine ST.uL (I.ok.hd hc) lp.isList hn.symm (by rw[hn];exact ZQ) hi λh2 tk hS2 old=>ad9 ?_;refine ST.ET (s:={ s1 with heap:=h2,toks:=tk }) (I.ok.hd hc) hS2 (Yr (ST.zA ns) ZQ) λh3 tk3 l c out ms hl3 at3 ho pm pw old3=>?_;have hnl:s1.heap.objs.size<=l:=by obtain⟨o2,_,_,_,ho2,_⟩:=hS2;exact Yr (Y0 (Ys ho2)) hl3
  refine⟨.ref l,bi H1 l (.lst (ms.map V.int)),I1.laid (a:=l) (o:=.lst (ms.map V.int)) (h':=h3) (t':=tk3) (λb o e=>old3 b o (old b o e)) hnl ?_,rfl,q ms l pm pw (I1.hok.fresh hnl)⟩;exact⟨by rw[Ye,pm.length_eq,YA];have:=ST.zA ns;lia,out.toList,c,rD ho,~~~at3⟩
end
end L2
namespace M
open PySem L2
section
variable {K:Zj}
def kx(a:XE):XA:=λρ=>(a ρ).bind λd=>match d with|.lst l=>(aR l).bind λns=>if ns.length<=300 then some ((cE (fZ ns)).map D.int) else none|_=>none
def Ii{ta:TE} (h:SPk K ta a):SF K (Dk K ta) (kx a):=λρ σ S H Q e r x k=>by
 obtain⟨d,q,x⟩:=ZO x;cases d<;>try (cases x;done)
 rename_i l;dsimp only at x;obtain⟨ns,qi,x⟩:=ZO x;split at x
 ·rename_i hc;cases x;refine h ρ σ S H _ _ r q λv S1 H1 z1 d1=>?_;obtain⟨p,xs,rfl,h1,h2⟩:=d1.lst z1.sub;obtain⟨e1,e2⟩:=gb h2 qi;subst e1 e2;refine⟨p,ns,rfl,.inl h1,hc,λms b pm pw hb=>?_⟩;rw[wM pm pw];have hH:H b=none:=by
   cases qh:H b with
   |none=>rfl
   |some o=>have:=z1.same r.sub b o qh;rw[hb] at this;cases this
  have hS:S1 b=none:=by
   cases qh:S1 b with
   |none=>rfl
   |some o=>have:=z1.sub b o qh;rw[hb] at this;cases this
  have z2:=Ext.own z1.sub hb (S:=S1) (H:=H1) (o:=.lst ((cE (fZ ns)).map V.int));refine k b _ S1 _ (z1.trans z2) hH hS aA ?_;have key:∀ns:Zn,Dens K S1 (ns.map D.int) (ns.map V.int):=by
   intro ns;induction ns with
   |nil=>exact .nil
   |cons n ns ih=>exact .cons (Zo.2 rfl) ih
  exact key _
 ·cases x
end
section
variable {K:Zj}{S S' H H':Hp}
@[simp]def W5(e:XE)(j:Nat):XS:=λρ=>match ρ[j]? with
 |some (.ow (.lst l))=>(e ρ).bind λd=>some (.ro (.tup [.sh d,.lst l]))
 |_=>none
@[simp]def UP(m:Zc->Option O)(e:D)(a:XA):Env->Option O:=λρ=>(a ρ).bind λds=>m (ds++[e])
end
section
variable {K:Zj}{S H:Hp}
@[simp]def XW(i:Nat)(k:Int):XE:=λρ=>match ρ[i]? with
 |some (.ow (.tup os))=>match cF os k with
  |some (.sh d)=>some d
  |some (.lst l)=>(nY l).map D.lst
  |_=>none
 |_=>none
@[simp]def XV(i:Nat)(k:Int):XE:=λρ=>match ρ[i]? with
 |some (.ow (.tup os))=>match cF os k with
  |some (.sh d)=>some d
  |_=>none
 |_=>none
def Tf:Zc->Bool
 |[]=>true
 |.tup l::r=>(aR l).isSome&&Tf r
 |_::_=>false
@[simp]def V1(m:Zc->Option O)(a:XA):XE:=λρ=>((a ρ).bind m).bind λo=>match o with
 |.lst os=>(nY os).bind λl=>if Tf l then some (.lst l) else none
 |_=>none
@[simp]def WV(j i:Nat)(m:HM)(a:XA):XS:=λρ=>match ρ[j]? with
 |some (.ow (.lst l))=>(nY l).bind λls=>(ρ[i]?).bind λs=>(Ja s).bind λks=>(a ρ).bind λds=>(G9 m ks ds).bind λr=>match r with
  | (.lst l',ks')=>(nY l').bind λds'=>if ls.length+ds'.length<=a9 then some (.nx ((ρ.set i (Pz ks' s)).set j (.ow (.lst ((ls++ds').map .sh))))) else none
  |_=>none
 |_=>none
end
section
variable {K:Zj}
@[simp]def XZ(a:XE)(lo hi:XO):XA:=λρ=>(a ρ).bind λd=>(lo ρ).bind λl=>(hi ρ).bind λh=>match d with|.lst x=>some (iE x l h)|_=>none
end
section
variable {K:Zj}{S S' H H':Hp}
def NB{t:TE}{a:XE}(h:SE K t a):U0 K (Wy K (eX t mY)) (Sd a):=λρ σ S H R l r x k=>by
 obtain⟨d,q,x⟩:=ZO x;split at x<;>try (cases x;done)
 rename_i l';cases x;refine h ρ σ S H _ _ r q λv S1 H1 z1 d1=>?_;obtain⟨p,xs,rfl,h1,h2⟩:=Zu.1 d1;refine⟨p,xs,rfl,.inl (cu z1.sub h1),k _ S1 H1 z1 λS' H' s1 s2=>?_⟩;have hm:SqL K H' p xs:=.inl (cu (s1.trans s2) h1);refine⟨λi d hd=>?_,hm,by rw[FJ];exact h2.length.symm⟩;obtain⟨y,e1,rfl⟩:=FI l' 0 i d hd;obtain⟨w,e3,e4⟩:=h2.get e1;refine⟨⟨hm,w,e3⟩,λx H'' hy=>?_⟩;obtain⟨b,u,rfl,hb,e5,rfl⟩:=hy;rw[e3] at e5;cases e5;refine⟨bi S' b _,Ext.new s2 hb,Zv.2 ⟨b,_,rfl,TpA.of aA,.cons (Zo.2 (#v[aaK])) (.cons (e4.mono (s1.trans (Ext.new (o:=.tup [.int (i:Nat),w]) s2 hb).sh)) .nil)⟩⟩
def UE:D->Option (Zc)
 |.lst l=>some l
 |_=>none
@[simp]def GH(a b:XE):XA:=λρ=>(a ρ).bind λd=>(UE d).bind λl=>(b ρ).bind λe=>(UE e).bind λm=>if l.length+m.length<=a9 then some (l++m) else none
def KJ{d:D}{l:Zc}(h:UE d=some l):d=.lst l:=by cases d<;>cases h;rfl
def Rs{ta tb:TE}{a b:XE}(ha:SPk K ta a)(hb:SPk K tb b):SF K (Mq (Gg K) ta tb) (GH a b):=λρ σ S H Q l r x k=>by
 unfold GH at x;obtain⟨d,qa,x⟩:=ZO x;obtain⟨la,ea,x⟩:=ZO x;obtain⟨e,qb,x⟩:=ZO x;obtain⟨lb,eb,x⟩:=ZO x;split at x
 ·rename_i hl;cases x;rw[KJ ea] at qa;rw[KJ eb] at qb;refine ha ρ σ S H _ _ r qa λv S1 H1 z1 d1=>?_;have r1:=r.ext z1;refine hb ρ σ S1 H1 _ _ r1 qb λw S2 H2 z2 d2=>?_;obtain⟨p,xs,rfl,hx,dx⟩:=(d1.mono z2 r1.sub).lst z2.sub;obtain⟨q,ys,rfl,hy,dy⟩:=d2.lst z2.sub;refine .inr (.inl ⟨p,q,xs,ys,rfl,rfl,hx,hy,by rw[<-dx.length,<-dy.length];exact rH hl,λc hc=>?_⟩);have z3:=(z1.trans z2).trans (Ext.own (o:=.lst (xs++ys)) z2.sub hc);exact k c _ S2 _ z3 ((z1.trans z2).same r.sub |>.free hc) (z2.sub.free hc) aA (dx.append dy)
 ·cases x
end
end M
namespace Rw
abbrev R:=List (Int×Int)
def Mem(r:R)(x:Int):Prop:=∃p∈r,p.1<=x/\x<=p.2
def Ok(r:R):Prop:=∀p∈r,p.1<=p.2
def cb(r:R):Prop:=Ok r/\r.Pairwise λp q=>p.2+2<=q.1
def gD(x:Int):¬Mem [] x:=by rintro⟨p,h,_⟩;cases h
def mem_cons(p:Int×Int)(r:R)(x:Int):Mem (p::r) x↔(p.1<=x/\x<=p.2)\/Mem r x:=by
 constructor
 ·rintro⟨q,h,e⟩;rcases Yj.1 h with rfl|h
  ·exact .inl e
  ·exact .inr ⟨q,h,e⟩
 ·rintro (e|⟨q,h,e⟩)
  ·exact⟨p,Yg,e⟩
  ·exact⟨q,Yn _ h,e⟩
def mem_append(r t:R)(x:Int):Mem (r++t) x↔Mem r x\/Mem t x:=by
 constructor
 ·rintro⟨q,h,e⟩;rcases Yv.1 h with h|h
  ·exact .inl ⟨q,h,e⟩
  ·exact .inr ⟨q,h,e⟩
 ·rintro (⟨q,h,e⟩|⟨q,h,e⟩)
  ·exact⟨q,YD _ h,e⟩
  ·exact⟨q,Yu _ h,e⟩
def Kx{r t:R}(h:r.Perm t)(x:Int):Mem r x↔Mem t x:=
 ⟨λ⟨q,m,e⟩=>⟨q,h.mem_iff.1 m,e⟩,λ⟨q,m,e⟩=>⟨q,h.mem_iff.2 m,e⟩⟩
def mem_filter(r:R)(x:Int):Mem (r.filter λp=>decide (p.1<=p.2)) x↔Mem r x:=by
 constructor
 ·rintro⟨q,m,e⟩;exact⟨q,(YC.1 m).1,e⟩
 ·rintro⟨q,m,e⟩;exact⟨q,YC.2 ⟨m,by simp;lia⟩,e⟩
def j4:cb []:=⟨λ_ h=>(by cases h),.nil⟩
def Zp{p:Int×Int}{r:R}:cb (p::r)↔p.1<=p.2/\(∀q∈r,p.2+2<=q.1)/\cb r:=by
 constructor
 ·rintro⟨h1,h2⟩;have h3:=aaH.1 h2;exact⟨h1 p Yg,h3.1,λq hq=>h1 q (Yn _ hq),h3.2⟩
 ·rintro⟨h1,h2,h3,h4⟩;refine⟨λq hq=>?_,aaH.2 ⟨h2,h4⟩⟩;rcases Yj.1 hq with rfl|hq
  ·exact h1
  ·exact h3 q hq
def step(acc:R)(p:Int×Int):R:=
 match acc.getLast? with
 |none=>[p]
 |some q=>if p.1<=q.2+1 then acc.dropLast++[(q.1,if p.2 > q.2 then p.2 else q.2)] else acc++[p]
def ka(l:R):R:=l.foldl step []
def Mh(p:Int×Int):step [] p=[p]:=rfl
def sC(t:R)(q p:Int×Int):step (t++[q]) p=if p.1<=q.2+1 then t++[(q.1,if p.2 > q.2 then p.2 else q.2)] else t++[q]++[p]:=by unfold step;simp
def ZF{t:R}{q:Int×Int}:cb (t++[q])↔cb t/\q.1<=q.2/\∀p∈t,p.2+2<=q.1:=by
 constructor
 ·rintro⟨h1,h2⟩;have h3:=YW.1 h2;exact⟨⟨λp hp=>h1 p (YD _ hp),h3.1⟩,h1 q (Yu _ Yg),λp hp=>h3.2.2 p hp q Yg⟩
 ·rintro⟨⟨h1,h2⟩,h3,h4⟩;refine⟨λp hp=>?_,YW.2 ⟨h2,.cons (λ_ h=>(by cases h)) .nil,λp hp x hx=>?_⟩⟩
  ·rcases Yv.1 hp with hp|hp
   ·exact h1 p hp
   ·rw[Yp.1 hp];exact h3
  ·rw[Yp.1 hx];exact h4 p hp
def OI{acc:R}{p:Int×Int}(c:cb acc)(hp:p.1<=p.2)(lo:∀q∈acc,q.1<=p.1) :
  cb (step acc p)/\(∀x,Mem (step acc p) x↔Mem acc x\/(p.1<=x/\x<=p.2))/\(∀q∈step acc p,q.1<=p.1):=by
 rcases aaZ acc with rfl|⟨t,q,rfl⟩
 ·rw[Mh];refine⟨Zp.2 ⟨hp,λ_ h=>(by cases h),j4⟩,λx=>?_,λq hq=>?_⟩
  ·rw[mem_cons];constructor
   ·rintro (h|h)
    ·exact .inr h
    ·exact .inl h
   ·rintro (h|h)
    ·exact .inr h
    ·exact .inl h
  ·rw[Yp.1 hq];exact Yw _
 ·rw[aa0] at *;obtain⟨ct,hq,ht⟩:=ZF.1 c;have lq:q.1<=p.1:=lo q (Yu _ Yg);rw[sC];by_cases h:p.1<=q.2+1
  ·rw[Yb h];have m:∀z,(if p.2 > q.2 then p.2 else q.2)=z->q.2<=z/\p.2<=z/\(z=p.2\/z=q.2):=λz e=>by
    split at e<;>lia
   obtain⟨m1,m2,m3⟩:=m _ rfl;generalize (if p.2 > q.2 then p.2 else q.2)=z at *;refine⟨ZF.2 ⟨ct,by dsimp only;lia,ht⟩,λx=>?_,λs hs=>?_⟩
   ·rw[mem_append,mem_append,mem_cons,mem_cons];dsimp only;constructor
    ·rintro (k|k|k)
     ·exact .inl (.inl k)
     ·by_cases hx:x<=q.2
      ·exact .inl (.inr (.inl ⟨k.1,hx⟩))
      ·right;lia
     ·exact (gD _ k).elim
    ·rintro ((k|k|k)|k)
     ·exact .inl k
     ·right;left;lia
     ·exact (gD _ k).elim
     ·right;left;lia
   ·rcases Yv.1 hs with hs|hs
    ·exact lo s (YD _ hs)
    ·rw[Yp.1 hs];exact lq
  ·rw[X9 h];refine⟨ZF.2 ⟨c,hp,λs hs=>?_⟩,λx=>?_,λs hs=>?_⟩
   ·rcases Yv.1 hs with hs|hs
    ·have:=ht s hs;lia
    ·rw[Yp.1 hs];lia
   ·rw[mem_append,mem_cons];constructor
    ·rintro (k|k|k)
     ·exact .inl k
     ·exact .inr k
     ·exact (gD _ k).elim
    ·rintro (k|k)
     ·exact .inl k
     ·exact .inr (.inl k)
   ·rcases Yv.1 hs with hs|hs
    ·exact lo s hs
    ·rw[Yp.1 hs];exact Yw _
theorem FL:∀(l:R) (acc:R),cb acc->Ok l->l.Pairwise (λp q=>p.1<=q.1)->(∀q∈acc,∀p∈l,q.1<=p.1) ->
  cb (l.foldl step acc)/\∀x,Mem (l.foldl step acc) x↔Mem acc x\/Mem l x
 |[],acc,c,_,_,_=>⟨c,λx=>⟨λh=>.inl h,λh=>h.elim id λk=>(gD _ k).elim⟩⟩
 |p::l,acc,c,o,w,lo=>by
  obtain⟨w1,w2⟩:=aaH.1 w;obtain⟨c1,m1,l1⟩:=OI c (o p Yg) λq hq=>lo q hq p Yg;obtain⟨c2,m2⟩:=FL l (step acc p) c1 (λq hq=>o q (Yn _ hq)) w2 λq hq s hs=>by have:=l1 q hq;have:=w1 s hs;lia
  refine⟨c2,λx=>?_⟩;show Mem (l.foldl step (step acc p)) x↔_;rw[m2,m1,mem_cons,or_assoc]
def O2(ps r:R):Prop:=cb r/\∀x,Mem r x↔Mem ps x
def Cd{l ps:R}(o:Ok l)(w:l.Pairwise λp q=>p.1<=q.1)(h:∀x,Mem l x↔Mem ps x):O2 ps (ka l):=by
 obtain⟨c,m⟩:=FL l [] j4 o w λ_ h=>(by cases h)
 exact⟨c,λx=>by
  show Mem (l.foldl step []) x↔_;rw[m x,<-h x]
  exact⟨λk=>k.elim (λz=>(gD _ z).elim) id,.inr⟩⟩
def wJ(r:R)(lo hi:Int):R:=r.map λp=>(p.1+lo,p.2+hi)
def Hu(r:R)(lo hi x:Int):Mem (wJ r lo hi) x↔∃p∈r,p.1+lo<=x/\x<=p.2+hi:=by
 constructor
 ·rintro⟨q,m,e⟩;obtain⟨p,hp,rfl⟩:=Ym.1 m;exact⟨p,hp,e⟩
 ·rintro⟨p,hp,e⟩;exact⟨_,Ym.2 ⟨p,hp,rfl⟩,e⟩
def gO:R->R->R
 |[],_=>[]
 |_::_,[]=>[]
 |p::s,q::t=>(if max p.1 q.1<=min p.2 q.2 then [(max p.1 q.1,min p.2 q.2)] else [])++(if p.2<q.2 then gO s (q::t) else gO (p::s) t)
termination_by s t=>s.length+t.length
def fK(s:R):gO s []=[]:=by cases s<;>simp[gO]
def jH(t:R):gO [] t=[]:=by simp[gO]
def Bp:∀(n:Nat) (s t:R),s.length+t.length=n->(gO s t).length<=s.length+t.length:=by
 intro n;induction n using Nat.strongRecOn with
 |ind n ih=>
  intro s t hn
  match s,t with
  |[],t=>rw[jH];simp
  |p::s,[]=>rw[fK];simp
  |p::s,q::t=>
   rw[gO,Yl];have h1:(if max p.1 q.1<=min p.2 q.2 then [(max p.1 q.1,min p.2 q.2)] else []).length<=1:=by split<;>simp
   have h2:(if p.2<q.2 then gO s (q::t) else gO (p::s) t).length+1<=(p::s).length+(q::t).length:=by
    split
    ·have:=ih (s.length+(q::t).length) (by simp at hn ⊢;lia) s (q::t) rfl;simp at this ⊢;lia
    ·have:=ih ((p::s).length+t.length) (by simp at hn ⊢;lia) (p::s) t rfl;simp at this ⊢;lia
   lia
def jP:Zn->R
 |a::b::t=>(a,b-1)::jP t
 |_=>[]
def count(r:R):Int:=(r.map λp=>p.2-p.1+1).sum
def Vl(P:Int->Prop)(L:Int):Nat->Int
 |0=>0
 |n+1=>Vl P L n+(by classical exact if P (L+n) then 1 else 0)
end Rw
namespace P
open PySem L2 M
@[simp]def mD(g:Zc->Option O)(ds:Zc):Zd:=(g ds).map O.d
abbrev Pk(K:Zj)(x:XS):={ t:TS // SS K t x }
abbrev NS:Zl:=["Box"]
def iq:XS:=aG (bX (az hU (ag 6) (ag 4)) (ah 7)) (aG (bX (az kT (ag 6) (ag 4)) (ah 8)) (lX (GJ (xB (az (jd false) (az hU (ag 0) (xC (.int 3))) (xC (.int 0)))) (xf (xB (az (jd false) (az hU (ag 0) (xC (.int 3))) (xC (.int 1)))) (GJ (xB (az (JA false) (ag 7) (aV (af (xC (.int 0)) (af (az gI (ag 4) (xC (.int 1))) aj))))) (xB (az (JA false) (ag 8) (aV (af (xC (.int 0)) (af (az gI (ag 5) (xC (.int 1))) aj)))))))) (jb 3 ze (Fe (aV (af (az a6 (ag 7) (ag 1)) (af (az a6 (ag 8) (ag 2)) aj))))) dP))
def l6:XS:=aG (fv (lU aj) 3) (aG (bX (az a6 (xC (.int 2)) (az hU (az kT (ag 0) (xC (.int 3))) (xC (.int 4)))) (ah 4)) (aG (bX (az a6 (xC (.int 2)) (az hU (az kT (ag 0) (xC (.int 12))) (xC (.int 4)))) (ah 5)) (aG (dS (IX (af (az mj (ag 4) (ag 5)) aj)) (ah 6) (iq)) (oE 3))))
def kc:=br 9 l6
def vp:=mD kc
def iz:XS:=aG (lX (xB (az JB (ag 1) (jT jX (af (ag 0) aj)))) (bu (az bL (ag 0) (ag 1))) dP) (bu (xC (.int 0)))
def jz:=br 2 iz
def bx:=mD jz
def gZ:XS:=lX (xf (xB (az I0 (ag 6) (ag 2))) (xB (az I0 (ag 3) (ag 7)))) (bu (xC (.bl true))) dP
def g6:XS:=lX (xB (az (jd false) (ag 4) (ag 1))) (dS (fb (ak 5)) (aL (ao (ah 6) (ao (ah 7) bd))) (gZ)) dP
def A7:XS:=aG (dS (fb (ak 0)) (aL (ao (ah 4) (ao (ah 5) bd))) (g6)) (bu (xC (.bl false)))
def KA:=br 8 A7
def yE:=mD KA
def b8:XS:=lX (xf (xB (az O8 (jT jX (af (ag 3) aj)) (xC (.int 0)))) (xB (az (jd false) (az a6 (az bL (az bL (ag 3) (DG ml (xC (.int 1)))) (xC (.int 1))) (xC (.int 1))) (ag 4)))) (GM 3 ze (DG ml (xC (.int 1))) (aV (af (az bL (az bL (ag 3) (DG ml (xC (.int 1)))) (xC (.int 0))) (af (ak 4) aj)))) (jb 3 ze (Fe (aV (af (ak 4) (af (ak 4) aj)))))
def fw:XS:=aG (fv (lU aj) 3) (aG (dS (fb (xL (kx (xL (aX [none,some 2] (fb (ag 0)) (ah 0) (xB (az (jd false) (az bL (ag 0) (xC (.int 1))) (ag 1))) (az bL (ag 0) (xC (.int 0)))))))) (ah 4) (b8)) (jb 1 ze (Fe (aV (af (ak 2) (af (jT gN (af (ag 3) aj)) aj))))))
def iA:XS:=aG (fv (lU aj) 1) (aG (dS (fb (xL (kx (xL (aX [none] (fb (ag 0)) (ah 0) bA (az bL (ag 0) (xC (.int 1)))))))) (ah 2) (fw)) (bu (jT gN (af (ag 1) aj))))
def tj:=br 5 iA
def vq:=mD tj
def fE:XS:=bu (jT jX (af (xL (aX [none,none,none,some 0] (fb (xC (.mtp [.mtp [.int (0),.int (-1),.int (1)],.mtp [.int (-1),.int (-1),.int (2)],.mtp [.int (-1),.int (0),.int (4)],.mtp [.int (-1),.int (1),.int (8)],.mtp [.int (0),.int (1),.int (16)],.mtp [.int (1),.int (1),.int (32)],.mtp [.int (1),.int (0),.int (64)],.mtp [.int (1),.int (-1),.int (128)]]))) (aL (ao (ah 0) (ao (ah 1) (ao (ah 2) bd)))) (xB (az (jd true) (az (Bq) (ag 3) (ag 2)) (xC (.int 0)))) (ak 2))) aj))
def gQ:=br 1 fE
def fP:=mD gQ
def c6:XT:=xB (az JB (ag 2) (ag 3))
def c5:XS:=aG (bX (az kT (az a6 (ag 2) (ag 3)) (xC (.int 2))) (ah 4)) (lX (xB (az I0 (az bL (az bL (ag 0) (ag 4)) (xC (.int 0))) (ag 1))) (bX (az a6 (ag 4) (xC (.int 1))) (ah 2)) (bX (ak 4) (ah 3)))
def gw:XS:=aG (bX (xC (.int 0)) (ah 2)) (aG (bX (jT jX (af (ag 0) aj)) (ah 3)) (aG (cO (c6) (c5)) (bu (ak 2))))
def iQ:=br 5 gw
def dw:=mD iQ
def kJ:XS:=zf (Se (aX [none,none,some 0,some 1,some 2] (xU 0) (aL (ao (ah 0) (ao (ah 1) bd))) (xB (t7 true (aV (af (az a6 (ag 0) (ag 3)) (af (az a6 (ag 1) (ag 4)) aj))) 2)) (aV (af (ak 0) (af (ak 1) aj)))))
def jJ:=br 3 kJ
def h9:=mD jJ
def cJ:XT:=xf (xB (az JB (ag 3) (jT jX (af (ag 0) aj)))) (xB (az JB (ag 4) (jT jX (af (ag 1) aj))))
def bP:XS:=aG (bX (jT Be (af (az bL (az bL (ag 0) (ag 3)) (xC (.int 0))) (af (az bL (az bL (ag 1) (ag 4)) (xC (.int 0))) aj))) (ah 5)) (aG (bX (jT Fu (af (az bL (az bL (ag 0) (ag 3)) (xC (.int 1))) (af (az bL (az bL (ag 1) (ag 4)) (xC (.int 1))) aj))) (ah 6)) (aG (lX (xB (az I0 (ag 5) (ag 6))) (jb 2 ze (Fe (aV (af (ak 5) (af (ak 6) aj))))) dP) (lX (xB (az JB (az bL (az bL (ag 0) (ag 3)) (xC (.int 1))) (az bL (az bL (ag 1) (ag 4)) (xC (.int 1))))) (IW 3 (xC (.int 1)) uQ) (IW 4 (xC (.int 1)) uQ))))
def g9:XS:=aG (fv (lU aj) 2) (aG (bX (xC (.int 0)) (ah 3)) (aG (bX (xC (.int 0)) (ah 4)) (aG (cO (cJ) (bP)) (bu (jT gN (af (ag 2) aj))))))
def jM:=br 7 g9
def kX:=mD jM
def jj:XS:=bu (jT zr (af (xL (aX [none,none] (fb (ag 0)) (aL (ao (ah 0) (ao (ah 1) bd))) bA (az a6 (az gI (ag 1) (ag 0)) (xC (.int 1))))) aj))
def k9:=br 1 jj
def jx:=mD k9
def kN:XS:=bu (jT gN (af (xL (aX [none,some 0] (IX (af (az gI (jT jX (af (ag 0) aj)) (xC (.int 1))) aj)) (ah 0) bA (aV (af (az a6 (az bL (az bL (ag 1) (ag 0)) (xC (.int 1))) (xC (.int 1))) (af (az gI (az bL (az bL (ag 1) (az a6 (ag 0) (xC (.int 1)))) (xC (.int 0))) (xC (.int 1))) aj))))) aj))
def mJ:=br 1 kN
def kZ:=mD mJ
def jk:XS:=bu (jT gN (af (xL (aX [none,none,some 1] (fb (ag 0)) (aL (ao (ah 0) (ao (ah 1) bd))) bA (aV (af (az a6 (ag 0) (ag 2)) (af (az a6 (ag 1) (ag 2)) aj))))) aj))
def lg:=br 2 jk
def jy:=mD lg
def fc:XS:=lX (xf (ik (ag 1)) (xB (az I0 (ag 2) (az a6 (az bL (az bL (ag 1) (DG ml (xC (.int 1)))) (xC (.int 1))) (xC (.int 1)))))) (GM 1 ze (DG ml (xC (.int 1))) (aV (af (az bL (az bL (ag 1) (DG ml (xC (.int 1)))) (xC (.int 0))) (af (jT Be (af (az bL (az bL (ag 1) (DG ml (xC (.int 1)))) (xC (.int 1))) (af (ag 3) aj))) aj)))) (jb 1 ze (Fe (aV (af (ak 2) (af (ak 3) aj)))))
def pR:XS:=aG (fv (lU aj) 1) (aG (dS (fb (xL (OZ jm (af (xL (aX [none,none] (fb (ag 0)) (aL (ao (ah 0) (ao (ah 1) bd))) (xB (az I0 (ag 0) (ag 1))) (aV (af (ak 0) (af (ak 1) aj))))) aj)))) (aL (ao (ah 2) (ao (ah 3) bd))) (fc)) (bu (jT gN (af (ag 1) aj))))
def rS:=br 4 pR
def mH:=mD rS
def dE:XS:=bu (jT gN (af (xL (aX [none,none] (fb (ag 0)) (aL (ao (ah 0) (ao (ah 1) bd))) (xB (az (jd true) (ag 1) (aV aj))) (aV (af (ak 0) (af (ak 1) aj))))) aj))
def fi:=br 1 dE
def dM:=mD fi
def ez:XS:=zd 1 ze (xL (aX [none,none,some 2] (fb (ag 3)) (aL (ao (ah 0) (ao (ah 1) bd))) bA (aV (af (ak 2) (af (ak 0) (af (ak 1) aj))))))
def fI:XS:=aG (fv (lU aj) 1) (aG (dS (fb (ak 0)) (aL (ao (ah 2) (ao (ah 3) bd))) (ez)) (oE 1))
def df:=br 4 fI
def bS:=mD df
def uc:XS:=aG (bX (az a6 (ag 0) (az mj (xC (.int 256)) (ag 0))) (ah 1)) (bu (jT jX (af (xL (aX [none,some 0,some 1] (fb (xC (.mtp [.int (1),.int (4),.int (16),.int (64)]))) (ah 0) (xf (xB (az (jd false) (az (Bq) (ag 1) (ag 0)) (xC (.int 0)))) (xB (az (jd true) (az (Bq) (ag 2) (az a6 (az mj (xC (.int 2)) (ag 0)) (az mj (xC (.int 4)) (ag 0)))) (xC (.int 0))))) (ak 0))) aj)))
def vP:=br 2 uc
def ui:=mD vP
def rN:Zb:=ND (xB (az JB (jT Jm (af (ag 1) (af (ag 2) (af (ag 3) (af (ag 4) aj))))) (xC (.int 0)))) (aV (af (aV (af (aV (af (DG ml (ag 1)) (af (DG ml (ag 2)) (af (ak 3) (af (ak 4) aj))))) aj)) aj))
def ji:XS:=zf (Se (aX [none,some 1,some 0] (IX (af (jT jX (af (ag 0) aj)) aj)) (ah 0) (ik (aq yE (af (ak 1) (af (az bL (az bL (az bL (ag 2) (ag 0)) (xC (.int 0))) (xC (.int 0))) (af (az bL (az bL (az bL (ag 2) (ag 0)) (xC (.int 0))) (xC (.int 1))) (af (az bL (az bL (az bL (ag 2) (ag 0)) (xC (.int 0))) (xC (.int 2))) aj)))))) (ak 0)))
def k8:=br 2 ji
def mE:=mD k8
def kB:XS:=aG (lX (xB (az (jd false) (az hU (ag 5) (xC (.int 2))) (xC (.int 1)))) (jb 3 ze (Fe (aV (af (ak 6) (af (ak 4) aj))))) dP) (bX (az kT (ag 5) (xC (.int 2))) (ah 5))
def oH:XS:=dS (IX (af (xC (.int 8)) aj)) (ah 6) (kB)
def oI:XS:=jb 3 ze (Fe (aV (af (az a6 (az hU (ag 7) (xC (.int 9))) (ag 8)) (af (az hU (az kT (ag 7) (xC (.int 9))) (xC (.int 9))) aj))))
def oJ:XS:=aG (bX (az kT (az hU (az mj (ag 5) (xC (.int 48271))) (xC (.int 2147483647))) (xC (.int 37))) (ah 7)) (dS (IX (af (az a6 (xC (.int 1)) (az hU (az kT (ag 7) (xC (.int 81))) (xC (.int 2)))) aj)) (ah 8) (oI))
def l7:XS:=aG (bX (aq bx (af (ak 0) (af (xC (.int 0)) aj))) (ah 1)) (aG (bX (aq bx (af (ak 0) (af (xC (.int 1)) aj))) (ah 2)) (aG (fv (lU aj) 3) (aG (lX (xB (az (jd false) (az hU (az kT (ag 2) (xC (.int 8))) (xC (.int 2))) (xC (.int 1)))) (aG (dS (Sd (Sr (ag 0) (qX (xC (.int 2))) (qX (xC (.int 10))))) (aL (ao (ah 4) (ao (ah 5) bd))) (oH)) (oE 3)) dP) (aG (qV (Fb kc (af (ak 1) (af (xC (.int 0)) (af (xC (.int 0)) aj)))) 3) (aG (lX (xB (az (jd false) (az hU (ag 2) (xC (.int 2))) (xC (.int 1)))) (fv (GH (ag 3) (aq vp (af (az kT (ag 2) (xC (.int 2))) (af (az a6 (xC (.int 3)) (az hU (az kT (ag 2) (xC (.int 64))) (xC (.int 3)))) (af (az a6 (xC (.int 2)) (az hU (az kT (ag 2) (xC (.int 192))) (xC (.int 3)))) aj))))) 3) dP) (aG (dS (fb (Sr (ag 0) (qX (xC (.int 2))) (qX (xC (.int 12))))) (ah 5) (oJ)) (oE 3)))))))
def yI:=br 9 l7
def B7:=mD yI
def e9:XS:=bu (Sr (ag 0) (qX (jT Be (af (xC (.int 0)) (af (az gI (aq dw (af (ak 0) (af (ak 1) aj))) (xC (.int 1))) aj)))) (qX (aq dw (af (ak 0) (af (ak 2) aj)))))
def gh:=br 3 e9
def gP:=mD gh
def gv:XS:=bu (jT zr (af (xL (aX [none,none] (fb (ag 0)) (aL (ao (ah 0) (ao (ah 1) bd))) bA (aq jx (af (ak 1) aj)))) aj))
def iP:=br 1 gv
def bO:=mD iP
def uF:XS:=aG (bX (jT zr (af (xL (aX [none,none,none,some 0,some 1,some 2] (fb (xC (.mtp [.mtp [.int (0),.int (-1),.int (1)],.mtp [.int (-1),.int (-1),.int (2)],.mtp [.int (-1),.int (0),.int (4)],.mtp [.int (-1),.int (1),.int (8)],.mtp [.int (0),.int (1),.int (16)],.mtp [.int (1),.int (1),.int (32)],.mtp [.int (1),.int (0),.int (64)],.mtp [.int (1),.int (-1),.int (128)]]))) (aL (ao (ah 0) (ao (ah 1) (ao (ah 2) bd)))) (xB (t7 false (aV (af (az a6 (ag 4) (ag 0)) (af (az a6 (ag 5) (ag 1)) aj))) 3)) (ak 2))) aj)) (ah 4)) (bu (GI (az (jd false) (aq ui (af (ak 4) aj)) (xC (.int 1))) (Sf (MN (ag 3)) (az Sj (aq fP (af (ak 4) aj)) (xC (.int 2))))))
def uk:=br 5 uF
def vt:=mD uk
def ub:XS:=bu (jT gN (af (xL (aX [none,none,some 2,some 1] (fb (ag 0)) (aL (ao (ah 0) (ao (ah 1) bd))) bA (aV (af (az a6 (ag 0) (ag 2)) (af (aq jy (af (ak 1) (af (ak 3) aj))) aj))))) aj))
def vO:=br 3 ub
def zU:=mD vO
def cI:XS:=aG (lX (GJ (qW (ik (MQ 1))) (xB (az (jd true) (V3 (az bL (az bL (MQ 1) (DG ml (xC (.int 1)))) (xC (.int 0)))) (ag 2)))) (jb 1 ze (P7 (Fc (Fe (ak 2)) (Fc (P0 MM) MM)))) dP) (jb 1 (V6 (V6 ze (DG ml (xC (.int 1)))) (xC (.int 1))) (Fe (aV (af (ak 3) (af (ak 4) aj)))))
def kM:XS:=aG (fv (lU aj) 1) (aG (dS (fb (xL (OZ jm (af (xL (aX [none,none,none] (fb (ag 0)) (aL (ao (ah 0) (ao (ah 1) (ao (ah 2) bd)))) (xB (az I0 (ag 1) (ag 2))) (aV (af (ak 0) (af (ak 1) (af (ak 2) aj)))))) aj)))) (aL (ao (ah 2) (ao (ah 3) (ao (ah 4) bd)))) (cI)) (O0 1 (bu (jT gN (af (xL (aX [none,none] (fb (ak 1)) (aL (ao (ah 0) (ao (ah 1) bd))) bA (aV (af (ak 0) (af (aq mH (af (ak 1) aj)) aj))))) aj)))))
def jK:=br 5 kM
def bM:=mD jK
def dD:XS:=bu (aq dM (af (xL (aX [none,none] (fb (ag 0)) (aL (ao (ah 0) (ao (ah 1) bd))) bA (aV (af (ak 0) (af (aq kZ (af (ak 1) aj)) aj))))) aj))
def fh:=br 1 dD
def dJ:=mD fh
def jU:XS:=aG (bX (aq dw (af (ak 0) (af (ak 1) aj))) (ah 2)) (aG (lX (xf (xB (az O8 (ag 2) (xC (.int 0)))) (xB (az (jd false) (az bL (az bL (ag 0) (az gI (ag 2) (xC (.int 1)))) (xC (.int 0))) (ag 1)))) (bu (az bL (az bL (ag 0) (az gI (ag 2) (xC (.int 1)))) (xC (.int 1)))) dP) (bu (aV aj)))
def kd:=br 3 jU
def de:=mD kd
def hG:XS:=aG (bX (az a6 (ag 0) (ag 1)) (ah 2)) (aG (bX (xL (OZ jm (af (az a6 (xL (aX [none,none] (fb (ag 2)) (aL (ao (ah 0) (ao (ah 1) bd))) bA (ak 0))) (xL (aX [none,none] (fb (ag 2)) (aL (ao (ah 0) (ao (ah 1) bd))) bA (az a6 (ag 1) (xC (.int 1)))))) aj))) (ah 3)) (bu (aq mH (af (xL (aX [none,some 3] (P6 (af (xC (.int 0)) (af (jT jX (af (ag 3) aj)) (af (xC (.int 2)) aj)))) (ah 0) bA (aV (af (az bL (ag 1) (ag 0)) (af (az gI (az bL (ag 1) (az a6 (ag 0) (xC (.int 1)))) (xC (.int 1))) aj))))) aj))))
def jN:=br 4 hG
def kY:=mD jN
def jV:XS:=aG (bX (aq dw (af (ak 0) (af (ak 1) aj))) (ah 2)) (bu (GI (az O8 (ag 2) (xC (.int 0))) (az I0 (ag 1) (az bL (az bL (ag 0) (az gI (ag 2) (xC (.int 1)))) (xC (.int 1))))))
def lf:=br 3 jV
def nA:=mD lf
def g7:XS:=zd 1 ze (xL (aX [none,some 2] (MP (af (ag 3) (af (az a6 (ag 4) (xC (.int 1))) aj))) (ah 0) bA (aV (af (ak 0) (af (ak 1) aj)))))
def kH:XS:=aG (lX (xB (az O8 (aq bO (af (ak 0) aj)) (xC (.int (1000))))) (ML) dP) (aG (fv (lU aj) 1) (aG (dS (fb (aq bS (af (ak 0) aj))) (aL (ao (ah 2) (ao (ah 3) (ao (ah 4) bd)))) (g7)) (oE 1)))
def gM:=br 5 kH
def iK:=mD gM
def kL:XS:=bu (aq nA (af (aq de (af (ak 0) (af (ak 2) aj))) (af (ak 1) aj)))
def mI:=br 3 kL
def kW:=mD mI
def bj:XS:=lX (GJ (xB (az (jd false) (ag 4) (aV aj))) (GJ (xB (az JB (ag 2) (az bL (az bL (ag 4) (xC (.int 0))) (xC (.int 0))))) (xB (az O8 (ag 3) (az bL (az bL (ag 4) (DG ml (xC (.int 1)))) (xC (.int 1))))))) (bu (xC (.bl true))) dP
def im:XS:=aG (dS (fb (aV (af (aq de (af (ak 0) (af (az gI (ag 1) (xC (.int 1))) aj))) (af (aq de (af (ak 0) (af (az a6 (ag 1) (xC (.int 1))) aj))) aj)))) (ah 4) (bj)) (bu (xC (.bl false)))
def vN:=br 5 im
def j7:=mD vN
def zk:XS:=bu (aq bM (af (az a6 (aq bS (af (ak 0) aj)) (aq bS (af (ak 1) aj))) aj))
def zX:=br 2 zk
def Ef:=mD zX
def cS:XS:=bu (aq bM (af (xL (aX [none,none,none,none] (fb (ag 0)) (aL (ao (ah 0) (ao (ah 1) (ao (ah 2) (ao (ah 3) bd))))) bA (aV (af (ak 0) (af (ak 1) (af (ak 2) aj)))))) aj))
def eK:=br 1 cS
def cX:=mD eK
def kO:XS:=bu (aq kY (af (ak 0) (af (aq kX (af (ak 0) (af (ak 1) aj))) aj)))
def mL:=br 2 kO
def k6:=mD mL
def jG:XS:=lX (ik (tH 0 (aq vt (af (ak 0) (af (az bL (ag 4) (xC (.int 0))) (af (az bL (ag 4) (xC (.int 1))) (af (ak 2) aj))))))) (aG (GK 0 (ak 4)) (jb 3 ze (Fe (ak 4)))) dP
def ma:XS:=aG (fv (lU aj) 3) (aG (dS (fb (ak 1)) (ah 4) (jG)) (GL 3))
def fQ:HM:=QH 5 ma
def b9:XS:=zd 5 ze (xL (aX [none,none,some 6,some 3] (fb (aq gP (af (aq de (af (ak 0) (af (ak 6) aj))) (af (ak 3) (af (ak 4) aj))))) (aL (ao (ah 0) (ao (ah 1) bd))) (xB (az Sj (ag 1) (ag 3))) (aV (af (ak 2) (af (ak 0) (af (ak 1) aj))))))
def kQ:XS:=aG (bX (az gI (az bL (ag 1) (xC (.int 1))) (ag 2)) (ah 3)) (aG (bX (az a6 (az bL (ag 1) (xC (.int 2))) (ag 2)) (ah 4)) (aG (fv (lU aj) 5) (aG (dS (fb (aV (af (az gI (az bL (ag 1) (xC (.int 0))) (xC (.int 1))) (af (az a6 (az bL (ag 1) (xC (.int 0))) (xC (.int 1))) aj)))) (ah 6) (b9)) (oE 5))))
def mM:=br 7 kQ
def k7:=mD mM
def pP:XS:=bu (jT zr (af (xL (aX [none,none,none,some 0,some 1,some 2] (fb (xC (.mtp [.mtp [.int (0),.int (-1),.int (1)],.mtp [.int (-1),.int (-1),.int (2)],.mtp [.int (-1),.int (0),.int (4)],.mtp [.int (-1),.int (1),.int (8)],.mtp [.int (0),.int (1),.int (16)],.mtp [.int (1),.int (1),.int (32)],.mtp [.int (1),.int (0),.int (64)],.mtp [.int (1),.int (-1),.int (128)]]))) (aL (ao (ah 0) (ao (ah 1) (ao (ah 2) bd)))) (ik (aq kW (af (ak 3) (af (az a6 (ag 4) (ag 0)) (af (az a6 (ag 5) (ag 1)) aj))))) (ak 2))) aj))
def rQ:=br 3 pP
def qq:=mD rQ
def zl:XS:=bu (aq dM (af (xL (aX [none,none,some 1] (fb (ag 0)) (aL (ao (ah 0) (ao (ah 1) bd))) bA (aV (af (ak 0) (af (aq k6 (af (ak 1) (af (aq de (af (ak 2) (af (ak 0) aj))) aj))) aj))))) aj))
def zY:=br 2 zl
def Eg:=mD zY
def c7:XT:=xB (az JB (ag 2) (ag 1))
def eZ:XS:=aG (bX (jT Fu (af (az a6 (ag 2) (xC (.int 1))) (af (az gI (ag 1) (ag 2)) aj))) (ah 3)) (aG (bX (aq Ef (af (ak 0) (af (aq zU (af (ak 0) (af (xC (.int 0)) (af (ak 3) aj)))) aj))) (ah 0)) (IW 2 (ag 3) uQ))
def gx:XS:=aG (bX (xC (.int 0)) (ah 2)) (aG (cO (c7) (eZ)) (bu (ak 0)))
def iR:=br 4 gx
def gA:=mD iR
def lY:XS:=xg 2 0 fQ (af (tH 0 (aq h9 (af (ak 0) (af (ak 3) (af (ak 4) aj))))) (af (ak 1) aj))
def kP:XS:=aG (fv (lU aj) 2) (aG (dS (fb (xC (.mtp [.mtp [.int (0),.int (-1)],.mtp [.int (-1),.int (0)],.mtp [.int (0),.int (1)],.mtp [.int (1),.int (0)]]))) (aL (ao (ah 3) (ao (ah 4) bd))) (lY)) (GL 2))
def gE:HM:=QH 5 kP
def dr:XT:=xB (az JB (ag 5) (jT jX (af (ag 3) aj)))
def dq:XS:=lX (xB (t7 true (ak 6) 4)) (aG (MO 4 (ak 6)) (jb 3 ze (Fe (az a6 (ag 6) (aV (af (ak 5) aj)))))) dP
def eO:XS:=aG (dS (fb (aq k7 (af (ak 0) (af (az bL (ag 3) (ag 5)) (af (ak 2) aj))))) (ah 6) (dq)) (IW 5 (xC (.int 1)) uQ)
def ft:XS:=aG (fv (lU (af (az a6 (ag 1) (aV (af (xC .non) aj))) aj)) 3) (aG (qV (Dw (ak 1)) 4) (aG (bX (xC (.int 0)) (ah 5)) (aG (cO (dr) (eO)) (oE 3))))
def qw:=br 7 ft
def tf:=mD qw
def dW:XS:=lX (xB (t7 true (ak 4) 3)) (aG (jb 2 ze (Fe (aq tf (af (ak 0) (af (ak 4) (af (ak 1) aj)))))) (GN 3 (aX [none,none,none,none] (fb (az bL (ag 2) (DG ml (xC (.int 1))))) (aL (ao (ah 0) (ao (ah 1) (ao (ah 2) (ao (ah 3) bd))))) bA (aV (af (aV (af (ak 0) (af (ak 1) (af (ak 2) aj)))) (af (xC (.bl true)) aj)))))) dP
def g8:XS:=aG (fv (lU aj) 2) (aG (qV PZ 3) (aG (dS (fb (aq bS (af (ak 0) aj))) (ah 4) (dW)) (oE 2)))
def jI:=br 5 g8
def hZ:=mD jI
def bQ:XS:=aG (bX (xL (aX [none,none,none,some 1] (fb (aq bS (af (ak 0) aj))) (aL (ao (ah 0) (ao (ah 1) (ao (ah 2) bd)))) bA (aV (af (az a6 (ag 0) (az bL (ag 3) (xC (.int 1)))) (af (az a6 (ag 1) (az bL (ag 3) (xC (.int 0)))) (af (az a6 (ag 2) (az bL (ag 3) (xC (.int 2)))) aj)))))) (ah 2)) (aG (lX (xB (az (jd false) (az bL (ag 1) (xC (.int 1))) (az bL (ag 1) (xC (.int 3))))) (bu (ak 2)) dP) (bu (aq bS (af (aq gA (af (aq bM (af (ak 2) aj)) (af (az gI (az bL (ag 1) (xC (.int 3))) (az bL (ag 1) (xC (.int 1)))) aj))) aj))))
def cH:=br 3 bQ
def cW:=mD cH
def nh:XS:=bu (az (jd false) (aq Eg (af (ak 0) (af (ak 1) aj))) (aV aj))
def o7:=br 2 nh
def nz:=mD o7
def l9:XS:=aG (bX (aq qq (af (ak 0) (af (ak 1) (af (ak 2) aj)))) (ah 4)) (bu (GI (az (jd false) (aq ui (af (ak 4) aj)) (xC (.int 1))) (Sf (MN (ag 3)) (az Sj (aq fP (af (ak 4) aj)) (xC (.int 2))))))
def nB:=br 5 l9
def j8:=mD nB
def dX:XT:=xB (az O8 (jT jX (af (ag 3) aj)) (ag 4))
def gF:XS:=aG (bX (jT jX (af (ag 3) aj)) (ah 4)) (xg 3 2 gE (af (ak 1) aj))
def nj:XS:=aG (qV (AW (aX [none] (fb (aq iK (af (ak 0) aj))) (ah 0) bA (aV (af (ak 0) (af (xC (.bl true)) aj))))) 2) (aG (fv (lU aj) 3) (aG (bX (DG ml (xC (.int 1))) (ah 4)) (aG (cO (dX) (gF)) (O0 3 (bu (aV (af (aq bM (af (xL (sG 2 (aX [none,none] (xU 2) (aL (ao (ah 0) (ao (ah 1) bd))) bA (aV (af (ak 1) (af (ak 0) (af (ak 0) aj))))))) aj)) (af (ak 3) aj))))))))
def o9:=br 5 nj
def rK:=mD o9
def gn:XS:=aG (bX (aq cX (af (ak 3) aj)) (ah 4)) (aG (bX (aq mE (af (ak 1) (af (ak 4) aj))) (ah 5)) (aG (lX (GJ (xB (az (jd true) (jT jX (af (ag 5) aj)) (xC (.int 1)))) (GJ (xB (az (JA false) (az bL (ag 5) (xC (.int 0))) (ag 2))) (qW (ik (aq nz (af (aq cX (af (az bL (ag 1) (az bL (ag 5) (xC (.int 0)))) aj)) (af (ak 4) aj))))))) (bu (xC (.bl false))) dP) (jb 2 ze (Fe (az bL (ag 5) (xC (.int 0)))))))
def gG:XS:=aG (lX (xB (az (jd true) (jT jX (af (ag 0) aj)) (jT jX (af (ag 1) aj)))) (bu (xC (.bl false))) dP) (aG (fv (lU aj) 2) (aG (dS (fb (ak 0)) (ah 3) (gn)) (bu (xC (.bl true)))))
def qv:=br 6 gG
def gJ:=mD qv
def kD:XS:=lX (ik (aq j8 (af (ak 0) (af (ak 6) (af (ak 2) (af (ak 1) aj)))))) (bu (xC (.bl false))) dP
def kE:XS:=dS (MP (af (ag 4) (af (az a6 (ag 5) (xC (.int 1))) aj))) (ah 6) (kD)
def kF:XS:=dS (fb (ak 3)) (aL (ao (ah 4) (ao (ah 5) bd))) (kE)
def l8:XS:=aG (dS (fb (ak 0)) (aL (ao (ah 2) (ao (ah 3) bd))) (kF)) (bu (xC (.bl true)))
def yJ:=br 7 l8
def B8:=mD yJ
def gY:XS:=zd 2 ze (aq cW (af (ak 0) (af (ak 3) aj)))
def fF:XS:=aG (fv (lU aj) 2) (aG (dS (fb (ak 1)) (ah 3) (gY)) (O0 2 (bu (aq bM (af (ak 2) aj)))))
def fg:=br 4 fF
def dH:=mD fg
def nc:XS:=aG (bX (aq hZ (af (aq dJ (af (ak 0) aj)) (af (xC (.int (0))) aj))) (ah 1)) (zf (Se (aX [none,some 0] (fb (ag 1)) (ah 0) (qW (ik (jT DK (af (xL (aX [none,none,none,none,some 1] (fb (ag 0)) (aL (ao (ah 0) (ao (ah 1) (ao (ah 2) (ao (ah 3) bd))))) bA (aq j7 (af (ak 4) (af (ak 0) (af (ak 1) (af (ak 2) aj))))))) aj)))) (ak 0))))
def Ch:=br 2 nc
def qt:=mD Ch
def pQ:XS:=bu (aq hZ (af (ak 0) (af (xC (.int (1))) aj)))
def rR:=br 1 pQ
def j9:=mD rR
def ga:XS:=bX (aq dH (af (ak 1) (af (ak 2) aj))) (ah 1)
def dZ:XS:=aG (dS (P5 (af (Ur NS "parts" (ak 0)) aj)) (ah 2) (ga)) (bu (ak 1))
def lJ:=br 3 dZ
def fO:=mD lJ
def m9:XS:=bu (aq bO (af (Dz NS "greater" fO (Dy "Box" "parts" rN (af (xC (.int 0)) (af (xC (.int 0)) (af (xC (.int 1)) (af (xC (.int 1)) aj))))) (af (ak 0) aj)) aj))
def o6:=br 1 m9
def rJ:=mD o6
def ua:XS:=aG (bX (aq bO (af (Dz NS "greater" fO (Dy "Box" "parts" rN (af (xC (.int 0)) (af (xC (.int 0)) (af (xC (.int 1)) (af (xC (.int 0)) aj))))) (af (ak 0) aj)) aj)) (ah 1)) (aG (bX (aq bO (af (Dz NS "greater" fO (Dy "Box" "parts" rN (af (xC (.int 0)) (af (xC (.int 0)) (af (xC (.int 0)) (af (xC (.int 1)) aj))))) (af (ak 0) aj)) aj)) (ah 2)) (bu (az a6 (ag 1) (ag 2))))
def vM:=br 3 ua
def zS:=mD vM
def gy:XS:=bu (az a6 (az gI (aq rJ (af (ak 0) aj)) (aq zS (af (ak 0) aj))) (aq bO (af (ak 0) aj)))
def iT:=br 1 gy
def gC:=mD iT
def t9:XS:=lX (GJ (ik (aq yE (af (ak 4) (af (ak 7) (af (ak 6) (af (ak 6) aj)))))) (qW (ik (aq yE (af (ak 3) (af (ak 7) (af (ak 6) (af (ak 6) aj)))))))) (bu (xC (.bl false))) dP
def A8:XS:=aG (bX (az (jd false) (az hU (az kT (aq bx (af (ak 0) (af (xC (.int 2)) aj))) (xC (.int 5))) (xC (.int 2))) (xC (.int 0))) (ah 1)) (aG (bX (az mj (az hU (az kT (aq bx (af (ak 0) (af (xC (.int 1)) aj))) (xC (.int 4))) (xC (.int 2))) (az hU (aq bx (af (ak 0) (af (xC (.int 3)) aj))) (az Nh (xC (.int 10)) (xC (.int 50))))) (ah 2)) (aG (bX (aq vq (af (xL (aX [none,none,some 2] (fb (aq B7 (af (ak 0) aj))) (aL (ao (ah 0) (ao (ah 1) bd))) bA (aV (af (az a6 (ag 0) (ag 2)) (af (az gI (ag 1) (ag 2)) aj))))) aj)) (ah 3)) (aG (bX (aq rK (af (ak 3) (af (ak 1) aj))) (aL (ao (ah 4) (ao (ah 5) bd)))) (aG (lX (GJ (qW (ik (aq nz (af (ak 4) (af (ak 3) aj))))) (xB (az (jd true) (aq gC (af (ak 4) aj)) (aq gC (af (ak 3) aj))))) (bu (xC (.bl false))) dP) (aG (lX (GJ (qW (ik (aq gJ (af (aq j9 (af (ak 3) aj)) (af (aq j9 (af (ak 4) aj)) aj))))) (qW (ik (aq gJ (af (aq qt (af (ak 4) aj)) (af (aq qt (af (ak 3) aj)) aj)))))) (bu (xC (.bl false))) dP) (aG (dS (fb (ak 5)) (aL (ao (ah 6) (ao (ah 7) bd))) (t9)) (bu (aq B8 (af (ak 4) (af (ak 1) aj))))))))))
def KC:=br 8 A8
def Ti:=mD KC
local macro_rules | `(tactic| nofun)=>`(tactic| repeat' first | (with_reducible first | refine' RF (wE ?_) | refine' RF (PL ?_) | exact SV | exact Jn | exact Qt | exact Qu | exact Bg | exact SW | exact Fv | exact bp _ | exact sU | exact mB | exact wa _ | exact wt | exact TJ | exact qI | exact Lu _ | exact Vp | exact TK | exact Vq _ | exact Op | exact Lv | exact TL | exact TN | exact oq | exact Py | exact yU | exact TQ | exact TR | exact Ru | exact Oy (t:=wY) | exact sk | exact EM _ | exact bq _ | exact a7 _ | exact Gu | exact bf | exact sw | apply SE.t | apply SF.e | apply SF.t | apply STr.e | apply d6 | apply yo | apply Te | apply D7 | apply QM | apply QN | apply yt | apply zL | apply cj | apply T1 | apply Rt | apply sg | apply wz | apply mS | apply Ax | apply T2 | apply LN | apply PK | apply Ay | apply Rv | apply LQ | apply T4 | apply tz | apply Ih | apply PL | apply wD | apply PM | apply wE | apply RA | apply eF | apply T5 | apply T6 | apply wF | apply RC | apply Gq | apply LZ | apply cR | apply RD | apply RE | apply Ii | apply mW | apply L0 | apply jE | apply Ij | apply RI | apply Gr | apply aB | apply ij | apply SE.p | apply SI.p) | exact jQ rfl | exact WC | apply aS | exact λ_ _ h=>dG h | refine' i0 (E:=E0) ?_ ?_ | refine' Rz (Ns:=NS) ?_ ?_ ?_ | refine' Ry (Ns:=NS) ?_ ?_ ?_ | exact List.Mem.head _ | exact List.Mem.tail _ (List.Mem.head _) | decide +kernel)
abbrev kn(K:Zj):Sp:=wQ K NS "parts" 1 NC
abbrev Ir K:=bm K 3 kc
abbrev HR(K:Zj):Pk K l6:=⟨_,by delta l6 iq;nofun⟩
abbrev Db K:=bm K 2 jz
abbrev CI(K:Zj):Pk K iz:=⟨_,by delta iz;nofun⟩
abbrev RP K:=bm K 4 KA
abbrev Re(K:Zj):Pk K A7:=⟨_,by delta A7 g6 gZ;nofun⟩
abbrev Dc K:=bm K 1 tj
abbrev CJ(K:Zj):Pk K iA:=⟨_,by delta iA fw b8;nofun⟩
abbrev t5 K:=bm K 1 gQ
abbrev tV(K:Zj):Pk K fE:=⟨_,by delta fE;nofun⟩
abbrev wS K:=bm K 2 iQ
abbrev wn(K:Zj):Pk K gw:=⟨_,by delta gw c5 c6;nofun⟩
abbrev xN K:=bm K 3 jJ
abbrev xE(K:Zj):Pk K kJ:=⟨_,LZ (SF.t (Go (Ph 0) (J6 (d6 (bp 0) (d6 (bp 1) sU)) (cj (cj mB))) (RF (wE (i:=2) (jE (aB (eF wt (a7 0) (a7 3)) (aB (eF wt (a7 1) (a7 4)) bf))))) (jE (aB (bq 0) (aB (bq 1) bf)))))⟩
abbrev xP K:=bm K 2 jM
abbrev xG(K:Zj):Pk K g9:=⟨_,by delta g9 bP cJ;nofun⟩
abbrev AI K:=bm K 1 k9
abbrev Ao(K:Zj):Pk K jj:=⟨_,by delta jj;nofun⟩
abbrev Dg K:=bm K 1 mJ
abbrev CN(K:Zj):Pk K kN:=⟨_,by delta kN;nofun⟩
abbrev AJ K:=bm K 2 lg
abbrev Ap(K:Zj):Pk K jk:=⟨_,by delta jk;nofun⟩
abbrev IA K:=bm K 1 rS
abbrev HZ(K:Zj):Pk K pR:=⟨_,by delta pR fc;nofun⟩
abbrev pF K:=bm K 1 fi
abbrev pk(K:Zj):Pk K dE:=⟨_,by delta dE;nofun⟩
abbrev t6 K:=bm K 1 df
abbrev tW(K:Zj):Pk K fI:=⟨_,by delta fI ez;nofun⟩
abbrev Md K:=bm K 1 vP
abbrev Lg(K:Zj):Pk K uc:=⟨_,by delta uc;nofun⟩
abbrev lN(K:Zj):Sp:=wQ K NS "parts" 4 rN
abbrev AF K:=bm K 2 k8
abbrev Am(K:Zj):Pk K ji:=⟨_,by delta ji;nofun⟩
abbrev Iu K:=bm K 1 yI
abbrev HS(K:Zj):Pk K l7:=⟨_,cR (wz (i0 (E:=E0) (aB (bq 0) (aB (jQ rfl) bf)) (aS (aS (λ_ _ h=>dG h)))) (bp 1)) (cR (wz (i0 (E:=E0) (aB (bq 0) (aB (jQ rfl) bf)) (aS (aS (λ_ _ h=>dG h)))) (bp 2)) (cR (mS (wD bf)) (cR (Ih (mW (SE.p (eF (Lu false) ((eF oq ((eF qI (a7 2) ((jQ rfl).p)).p) ((jQ rfl).p)).p) ((jQ rfl).p)))) (cR (LS (NB (RE (a7 0) (wF ((jQ rfl).p)) (wF ((jQ rfl).p)))) (yo (d6 (bp 4) (d6 (bp 5) sU)) (cj (cj mB))) (tz (D7 ((jQ rfl).p)) (bp 6) (cR (Ih (mW (SE.p (eF (Lu false) ((eF oq (a7 5) ((jQ rfl).p)).p) ((jQ rfl).p)))) (sg (wa 3) ((jE (aB (bq 6) (aB (bq 4) bf))).t)) sk) (wz (eF qI (a7 5) ((jQ rfl).p)) (bp 5))))) (EM 3)) sk) (cR (Ax (Gn (E:=E0) (aB (bq 1) (aB (jQ rfl) (aB (jQ rfl) bf))) (aS (aS (aS (λ_ _ h=>dG h)))))) (cR (Ih (mW (SE.p (eF (Lu false) ((eF oq (a7 2) ((jQ rfl).p)).p) ((jQ rfl).p)))) (mS (Rs (a7 3) ((i0 (E:=E0) (aB (eF qI (a7 2) ((jQ rfl).p)) (aB (eF wt ((jQ rfl).p) ((eF oq ((eF qI (a7 2) ((jQ rfl).p)).p) ((jQ rfl).p)).p)) (aB (eF wt ((jQ rfl).p) ((eF oq ((eF qI (a7 2) ((jQ rfl).p)).p) ((jQ rfl).p)).p)) bf))) (aS (aS (aS (λ_ _ h=>dG h))))).p))) sk) (cR (tz (yt (RE (a7 0) (wF ((jQ rfl).p)) (wF ((jQ rfl).p)))) (bp 5) (cR (wz (eF qI ((eF oq ((eF Py (a7 5) ((jQ rfl).p)).p) ((jQ rfl).p)).p) ((jQ rfl).p)) (bp 7)) (tz (D7 ((eF wt ((jQ rfl).p) ((eF oq ((eF qI (a7 7) ((jQ rfl).p)).p) ((jQ rfl).p)).p)).p)) (bp 8) (sg (wa 3) ((jE (aB (eF wt ((eF oq (a7 7) ((jQ rfl).p)).p) (a7 8)) (aB (eF oq ((eF qI (a7 7) ((jQ rfl).p)).p) ((jQ rfl).p)) bf))).t))))) (EM 3)))))))⟩
abbrev ss K:=bm K 3 gh
abbrev se(K:Zj):Pk K e9:=⟨_,by delta e9;nofun⟩
abbrev wR K:=bm K 1 iP
abbrev wj(K:Zj):Pk K gv:=⟨_,by delta gv;nofun⟩
abbrev OE K:=bm K 4 uk
abbrev Oe(K:Zj):Pk K uF:=⟨_,by delta uF;nofun⟩
abbrev Mc K:=bm K 3 vO
abbrev Lf(K:Zj):Pk K ub:=⟨_,by delta ub;nofun⟩
abbrev xO K:=bm K 1 jK
abbrev xF(K:Zj):Pk K kM:=⟨_,cR (mS (wD bf)) (cR (tz (yt ((PK Bg (ij (((Ay (zL (a7 0)) (yo (d6 (bp 0) (d6 (bp 1) (d6 (bp 2) sU))) (cj (cj (cj mB)))) (mW (SE.p (eF TL (a7 1) (a7 2)))) (jE (aB (bq 0) (aB (bq 1) (aB (bq 2) bf))))).e).p) sw)).e)) (yo (d6 (bp 2) (d6 (bp 3) (d6 (bp 4) sU))) (cj (cj (cj mB)))) (cR (Ih (T5 (PM (RG (L1 1))) (mW (SE.p (eF (Lu true) ((SQ.fl (PN Lv (PN Lv (L1 1) (((Ij yU ((jQ rfl).p)).p).q)) (((jQ rfl).p).q))).p) (a7 2))))) (sg (wa 1) (RH (Gv ((bq 2).t) (Gv (Rx Mf) Mf)))) sk) (sg (Tk (Tk (wa 1) ((Ij yU ((jQ rfl).p)).p)) ((jQ rfl).p)) ((jE (aB (bq 3) (aB (bq 4) bf))).t)))) (LU 1 (Gq (LN Fv (ij (((Ay (zL ((bq 1).p)) (yo (d6 (bp 0) (d6 (bp 1) sU)) (cj (cj mB))) Gu (jE (aB (bq 0) (aB (i0 (E:=E0) (aB (bq 1) bf) (aS (λ_ _ h=>dG h))) bf)))).e).p) sw)))))⟩
abbrev pE K:=bm K 1 fh
abbrev pj(K:Zj):Pk K dD:=⟨_,by delta dD;nofun⟩
abbrev Iz K:=bm K 2 kd
abbrev HY(K:Zj):Pk K jU:=⟨_,by delta jU;nofun⟩
abbrev xQ K:=bm K 2 jN
abbrev xH(K:Zj):Pk K hG:=⟨_,by delta hG;nofun⟩
abbrev EX K:=bm K 2 lf
abbrev EA(K:Zj):Pk K jV:=⟨_,by delta jV;nofun⟩
abbrev De K:=bm K 1 gM
abbrev CK(K:Zj):Pk K kH:=⟨_,by delta kH g7;nofun⟩
abbrev Df K:=bm K 3 mI
abbrev CM(K:Zj):Pk K kL:=⟨_,by delta kL;nofun⟩
abbrev EV K:=bm K 4 vN
abbrev Ey(K:Zj):Pk K im:=⟨_,by delta im bj;nofun⟩
abbrev OG K:=bm K 2 zX
abbrev Og(K:Zj):Pk K zk:=⟨_,by delta zk;nofun⟩
abbrev n4 K:=bm K 1 eK
abbrev nW(K:Zj):Pk K cS:=⟨_,by delta cS;nofun⟩
abbrev Dh K:=bm K 2 mL
abbrev CO(K:Zj):Pk K kO:=⟨_,by delta kO;nofun⟩
abbrev AK(K:Zj):Sp:=Ua K 3 fQ
abbrev Aq(K:Zj):Pk K ma:=⟨_,cR (mS (wD bf)) (cR (tz (yt (bq 1)) (bp 4) (Ih (L0 ((LX 0 (i0 (E:=E0) (aB (bq 0) (aB (eF Lv (a7 4) ((jQ rfl).p)) (aB (eF Lv (a7 4) ((jQ rfl).p)) (aB (bq 2) bf)))) (aS (aS (aS (aS (λ_ _ h=>dG h))))))).p)) (cR (RB (i:=0) (bq 4)) (sg (wa 3) ((bq 4).t))) sk)) (LY 3))⟩
abbrev Di K:=bm K 3 mM
abbrev CP(K:Zj):Pk K kQ:=⟨_,by delta kQ b9;nofun⟩
abbrev Iw K:=bm K 3 rQ
abbrev HV(K:Zj):Pk K pP:=⟨_,by delta pP;nofun⟩
abbrev OH K:=bm K 2 zY
abbrev Oh(K:Zj):Pk K zl:=⟨_,by delta zl;nofun⟩
abbrev wT K:=bm K 2 iR
abbrev wo(K:Zj):Pk K gx:=⟨_,by delta gx eZ c7;nofun⟩
abbrev xR(K:Zj):Sp:=Ua K 2 gE
abbrev xI(K:Zj):Pk K kP:=⟨_,cR (mS (wD bf)) (cR (tz (yt (WC)) (yo (d6 (bp 3) (d6 (bp 4) sU)) (cj (cj mB))) (LP (E0:=E0) (i:=0) (j:=2) (aB (LX 0 (i0 (E:=E0) (aB (bq 0) (aB (bq 3) (aB (bq 4) bf))) (aS (aS (aS (λ_ _ h=>dG h)))))) (aB (bq 1) bf)) (aS (aS (λ_ _ h=>dG h))))) (LY 2))⟩
abbrev AL K:=bm K 3 qw
abbrev Ar(K:Zj):Pk K ft:=⟨_,by delta ft eO dq dr;nofun⟩
abbrev xM K:=bm K 2 jI
abbrev xD(K:Zj):Pk K g8:=⟨_,by delta g8 dW;nofun⟩
abbrev nZ K:=bm K 2 cH
abbrev nV(K:Zj):Pk K bQ:=⟨_,by delta bQ;nofun⟩
abbrev EW K:=bm K 2 o7
abbrev Ez(K:Zj):Pk K nh:=⟨_,by delta nh;nofun⟩
abbrev Ix K:=bm K 4 nB
abbrev HW(K:Zj):Pk K l9:=⟨_,by delta l9;nofun⟩
abbrev EY K:=bm K 2 o9
abbrev EB(K:Zj):Pk K nj:=⟨_,cR (Ax (Ow (Ay (zL ((i0 (E:=E0) (aB (bq 0) bf) (aS (λ_ _ h=>dG h))).p)) (bp 0) Gu (jE (aB (bq 0) (aB (jQ rfl) bf)))))) (cR (mS (wD bf)) (cR (wz (Ij yU ((jQ rfl).p)) (bp 4)) (cR (Gr (mW (SE.p (eF TK ((LN Jn (ij (a7 3) sw)).p) (a7 4)))) (cR (wz (LN Jn (ij (a7 3) sw)) (bp 4)) (LP (E0:=E0) (i:=2) (j:=3) (aB (bq 1) bf) (aS (λ_ _ h=>dG h))))) (LU 3 (Gq (jE (aB (i0 (E:=E0) (aB ((Ox 2 (Go (Ph 2) (J6 (d6 (bp 0) (d6 (bp 1) sU)) (cj (cj mB))) Gu (jE (aB (bq 1) (aB (bq 0) (aB (bq 0) bf)))))).e) bf) (aS (λ_ _ h=>dG h))) (aB (bq 3) bf))))))))⟩
abbrev AG K:=bm K 2 qv
abbrev An(K:Zj):Pk K gG:=⟨_,by delta gG gn;nofun⟩
abbrev Iv K:=bm K 2 yJ
abbrev HU(K:Zj):Pk K l8:=⟨_,by delta l8 kF kE kD;nofun⟩
abbrev pD K:=bm K 2 fg
abbrev pi(K:Zj):Pk K fF:=⟨_,cR (mS (wD bf)) (cR (tz (yt (bq 1)) (bp 3) (LQ (wa 2) (i0 (E:=E0) (aB (bq 0) (aB (bq 3) bf)) (aS (aS (λ_ _ h=>dG h)))))) (LU 2 (Gq (i0 (E:=E0) (aB (bq 2) bf) (aS (λ_ _ h=>dG h))))))⟩
abbrev Mb K:=bm K 1 Ch
abbrev Lc(K:Zj):Pk K nc:=⟨_,by delta nc;nofun⟩
abbrev Iy K:=bm K 1 rR
abbrev HX(K:Zj):Pk K pQ:=⟨_,by delta pQ;nofun⟩
abbrev lP K:=bm K 2 lJ
abbrev tU(K:Zj):Pk K dZ:=⟨_,by delta dZ ga;nofun⟩
abbrev EU K:=bm K 1 o6
abbrev Ex(K:Zj):Pk K m9:=⟨_,by delta m9;nofun⟩
abbrev Ma K:=bm K 1 vM
abbrev Lb(K:Zj):Pk K ua:=⟨_,by delta ua;nofun⟩
abbrev wU K:=bm K 1 iT
abbrev wp(K:Zj):Pk K gy:=⟨_,by delta gy;nofun⟩
abbrev AH K:=bm K 1 KC
abbrev Rf(K:Zj):Pk K A8:=⟨_,by delta A8 t9;nofun⟩
open PySem L2 M Rw
noncomputable abbrev sI(i:Int):Sl:=.sh (.int i)
def xm(p:Int×Int):Zn:=[p.1,p.2]
theorem B1:∀r:R,keys (r.map aM)=some (r.map xm)
 |[]=>rfl
 |p::r=>by rw[Yo,keys,B1 r];rfl
def Ke:∀ {r:R},r≠[]->aR (r.map aM)=none
 |[],h=>absurd rfl h
 |p::r,_=>rfl
def F5:Zn->Int×Int
 |[a,b]=>(a,b)
 |_=>(0,0)
def oA(ps:R):R:=(i7 (ps.map xm)).map F5
def wO(ps:R):(oA ps).map xm=i7 (ps.map xm):=by
 unfold oA;rw[YE];have h:∀k∈i7 (ps.map xm),(xm∘F5) k=k:=λk hk=>by have:=(i8 _).mem_iff.mp hk;obtain⟨p,_,rfl⟩:=Ym.1 this;rfl
 rw[acR h,List.map_id']
def i9(ps:R):(oA ps).Perm ps:=by have h:=(i8 (ps.map xm)).map F5;rw[YE] at h;have e:(F5∘xm)=id:=rfl;rw[e,List.map_id] at h;exact h
def L9(ps:R):(oA ps).Pairwise λp q=>p.1<=q.1:=by
 have h:=wN (ps.map xm);rw[<-wO,aaa] at h;refine h.imp λ{p q} e=>?_;have e':(if q.1=p.1 then HT.cD [q.2] [p.2] else decide (q.1<p.1))=false:=e;by_cases hq:q.1=p.1
 ·lia
 ·rw[X9 hq] at e';have:=aaM e';lia
def Bf(ps:R)(h:ps.length<30000):jm [Hn ps]=some ((oA ps).map aM):=by
 show (if (ps.map aM).length<30000 then _ else _)=_;rw[Yb (by rw[Ye];exact h)];by_cases e:ps=[]
 ·subst e;have e0:oA []=[]:=aa9.1 (by rw[(i9 []).length_eq];rfl);have e1:cE []=[]:=aa9.1 (by rw[(c0 []).length_eq];rfl);show some ((cE []).map D.int)=_;rw[e0,e1];rfl
 ·rw[Ke e];dsimp only;rw[B1];have:(oA ps).map aM=(i7 (ps.map xm)).map xT:=by
   rw[<-wO,YE];rfl
  rw[this];rfl
def p7(p:Int×Int):Bool:=decide (p.1<=p.2)
def lL(ps:R):R:=ka (oA (ps.filter p7))
def ju(ps:R):O2 ps (lL ps):=by
 refine Cd ?_ (L9 _) λx=>?_
 ·intro p hp;have:=(i9 _).mem_iff.mp hp;simpa[p7] using (YC.1 this).2
 ·rw[Kx (i9 _)];exact mem_filter ps x
def Mg(acc:R)(p:Int×Int):(step acc p).length<=acc.length+1:=by
 rcases aaZ acc with rfl|⟨t,q,rfl⟩
 ·simp[Rw.step]
 ·rw[aa0,sC];split<;>simp
theorem rL:∀(l acc:R),(l.foldl step acc).length<=acc.length+l.length
 |[],acc=>by simp
 |p::l,acc=>by have h1:=rL l (step acc p);have h2:=Mg acc p;rw[YQ,Yk];lia
def Ig(ps:R):(lL ps).length<=ps.length:=by have h1:=rL (oA (ps.filter p7)) [];have h2:=(i9 (ps.filter p7)).length_eq;have h3:=aaG p7 ps;unfold lL ka;simp only[abR] at h1;lia
def aE{n:Nat}(h:n<=100000):n<=a9:=Yr h (by rw[gc];decide)
def cV{n:Nat}(h:n<=100000):n<a9:=aaf h (by rw[gc];decide)
def Mz(a b:Int):D.tup [.int a,.int b]=aM (a,b):=rfl
theorem yi:∀ps:R,ps.filterMap (λp=>if p.1<=p.2 then some (aM p) else none)=(ps.filter p7).map aM
 |[]=>rfl
 |p::t=>by
  rw[YJ,Y7,yi t];by_cases h:p.1<=p.2
  ·simp[p7,h]
  ·simp[p7,h]
noncomputable abbrev kA:=aL (ao (ah 0) (ao (ah 1) bd))
noncomputable abbrev zh:=af (ak 0) (af (ak 1) aj)
def G0(ps:R):a8 kA (xB (az I0 (ag 0) (ag 1))) (aV zh) [.un,.un] (ps.map aM)=some ((ps.filter p7).map aM):=by rw[cc aM (λp=>if p.1<=p.2 then some (aM p) else none) ps,yi];intro p _;by_cases h:p.1<=p.2<;>simp[cY,h]
def vK(pre:R)(p:Int×Int):ka (pre++[p])=step (ka pre) p:=by unfold ka;rw[aco];rfl
def Cc(pre:R):(ka pre).length<=pre.length:=by have:=rL pre [];unfold ka;simpa using this
def ip{α:Type}{l:List α}{i:Nat}{x:α}(h:l[i]?=some x):l.drop i=x::l.drop (i+1):=by obtain⟨h1,rfl⟩:=Yx.1 h;exact abL h1
def Ba{r:R}{i:Nat}{p:Int×Int}(h:r[i]?=some p):cF (r.map aM) (i:Int)=some (aM p):=dB (by rw[YG,h];rfl)
def GY(p q:Int×Int)(s t:R):gO (p::s) (q::t)=(if max p.1 q.1<=min p.2 q.2 then [(max p.1 q.1,min p.2 q.2)] else [])++(if p.2<q.2 then gO s (q::t) else gO (p::s) t):=#v[gO]
def mx(a b:Int):(if b > a then b else a)=max a b:=by split<;>lia
def mn(a b:Int):(if b<a then b else a)=min a b:=by split<;>lia
def Jw(r:R):Zn:=r.map (·.1)++r.map (·.2+1)
def zp(ns:Zn)(h:ns.length<30000):jm [.lst (ns.map D.int)]=some ((cE ns).map D.int):=by show (if (ns.map D.int).length<30000 then _ else _)=_;rw[Yb (by rw[Ye];exact h),d7]
theorem yh:∀(n k:Nat),fL k n=(List.range' k n).map λk:Nat=>D.int (2*(k:Int))
 |0,_=>rfl
 |n+1,k=>#v[fL,yh n (k+1),adL,Yo]
theorem pf:∀(n:Nat) (c:Zn),c.length=2*n->∀k,k<n->∃a b,c[2*k]?=some a/\c[2*k+1]?=some b/\(jP c)[k]?=some (a,b-1)
 |0,_,_,k,h=>()
 |n+1,c,h,k,hk=>by
  match c,h with
  |a::b::t,h=>
   cases k with
   |zero=>exact⟨a,b,rfl,rfl,rfl⟩
   |succ k=>
    obtain⟨x,y,h1,h2,h3⟩:=pf n t (by simp at h;lia) k ();refine⟨x,y,?_,?_,?_⟩
    ·rw[show 2*(k+1)=2*k+1+1 by lia];exact h1
    ·rw[show 2*(k+1)+1=2*k+1+1+1 by lia];exact h2
    ·rw[jP];exact h3
theorem ph:∀(n:Nat) (c:Zn),c.length=2*n->(jP c).length=n
 |0,c,h=>by
  have:c=[]:=aa9.1 ();subst this;rfl
 |n+1,c,h=>by
  match c,h with
  |a::b::t,h=>rw[jP,Yk,ph n t (by simp at h;lia)]
def DU(n:Nat)(c:Zn)(h:c.length=2*n):a8 (ah 0) bA (aV (af (az bL (ag 1) (ag 0)) (af (az gI (az bL (ag 1) (az a6 (ag 0) (xC (.int 1)))) (xC (.int 1))) aj))) [.un,.sh (.lst (c.map D.int))] (fL 0 n)=some ((jP c).map aM):=by
 rw[yh,aW (λk:Nat=>D.int (2*(k:Int))) (λk=>match (jP c)[k]? with|some p=>aM p|none=>.non) (List.range' 0 n)]
 ·congr 1;apply acd;intro k;rw[YG,YG];by_cases hk:k<n
  ·rw[YS (by rw[abk];exact hk),List.getElem_range'];obtain⟨a,b,_,_,h3⟩:=pf n c h k hk;simp[h3]
  ·rw[adM (by rw[abk];lia),adM (by rw[ph n c h];lia)];rfl
 ·intro k hk;have hk':k<n:=by simpa using (List.mem_range'.1 hk)
  obtain⟨a,b,h1,h2,h3⟩:=pf n c h k hk';have e1:cF (c.map D.int) (2*(k:Int))=some (.int a):=by have:=dB (l:=c.map D.int) (j:=2*k) (x:=.int a) (by rw[YG,h1];rfl);rw[<-this];congr 1
  have e2:cF (c.map D.int) (2*(k:Int)+1)=some (.int b):=by have:=dB (l:=c.map D.int) (j:=2*k+1) (x:=.int b) (by rw[YG,h2];rfl);rw[<-this];congr 1
  simp[cY,e1,e2,h3]
def mr(r t:R):R:=lL (jP (cE (Jw (r++t))))
def Fz(r:R):(Jw r).length=2*r.length:=by unfold Jw;simp;lia
def mz(r t:R):R:=mr r (gO r t)
def BW(n:Nat):f8 0 n=(List.range n).map λk:Nat=>D.int (k:Int):=by
 apply acd;intro i;cases q:(f8 0 n)[i]? with
 |none=>
  have:=abv.1 q;rw[rB] at this;rw[adM (by rw[Ye,ack];exact this)]
 |some d=>obtain⟨h1,rfl⟩:=rA n 0 i d q;rw[YG,List.getElem?_range h1];simp
def El(r:R)(x:Int):Bool:=r.any λp=>decide (p.1<=x)&&decide (x<=p.2)
def vE(r:R)(x:Int):El r x=true↔Mem r x:=by unfold El Mem;rw[aau];simp
def FC{α β:Type}(f:α->β)(xs:List α)(lo hi:Option Int):iE (xs.map f) lo hi=(iE xs lo hi).map f:=by unfold iE;rw[Ye,<-List.map_drop,<-List.map_take]
def Ng{α:Type}(xs:List α)(lo hi:Option Int):(iE xs lo hi).length<=HT.eJ xs.length xs.length hi-HT.eJ xs.length 0 lo:=by unfold iE;rw[aa2];lia
def QD{α:Type}(xs:List α)(lo hi:Option Int):(iE xs lo hi).length<=xs.length:=by exact Yr (List.length_take_le' _ _) (by rw[ab5];exact Nat.sub_le _ _)
def aC{m:XS}{ρ ρ':M.Env}(h:m ρ=some (.nx ρ')):aG m n ρ=n ρ':=by unfold aG;rw[h]
def yl{n:Nat}{x:XS}{ds:Zc}{d:D}(h:x (ds.map .sh++List.replicate (n-ds.length) .un)=some (.rt d)):(br n x ds).map O.d=some d:=by unfold br;rw[h];simp
def uu{n d:Nat}{v:Int}(h:0<=v):HT.eJ n d (some v)=min v.toNat n:=by show (if v<0 then _ else _)=_;rw[X9 ()]
def C1(s0:Sl)(acc:R)(a b:Int)(h:acc.length<=30000):fc [s0,dQ (acc.map aM),sI a,sI b]=some (.nx [s0,dQ ((step acc (a,b)).map aM),sI a,sI b]):=by
 rcases aaZ acc with rfl|⟨t,q,rfl⟩
 ·simp[fc,Rw.step,aM]
 ·rw[aa0] at *;rw[sC];have hl:t.length+1<=30000:=by simpa using h
  have hlim:t.length+1<a9:=cV ();have at1:cF (t.map aM++[aM q]) (-1)=some (aM q):=me _ _;by_cases hc:a<=q.2+1
  ·simp[fc,at1,hc,Ki,Mz]
  ·simp[fc,at1,hc,hlim,Mz]
noncomputable abbrev GO:=ao (ah 2) (ao (ah 3) bd)
def s9(ps:R)(h:ps.length<30000):mH [Hn ps]=some (aZ (lL ps)):=by
 have hf:=aaG p7 ps;have hs:=(i9 (ps.filter p7)).length_eq;have key:∃ρ',bR (aL GO) fc ((oA (ps.filter p7)).map aM) [.sh (Hn ps),.ow (.lst []),.un,.un]=some (.nx ρ')/\∃va vb,ρ'=[.sh (Hn ps),dQ ((lL ps).map aM),va,vb]:=by
  refine aY aM (λpre ρ=>∃va vb,ρ=[.sh (Hn ps),dQ ((ka pre).map aM),va,vb]) _ _ ⟨_,_,rfl⟩ ?_;rintro pre p post _ e ⟨va,vb,rfl⟩;have hp:pre.length<=30000:=by have:=Yt List.length e;rw[Yl] at this;lia
  refine⟨_,_,rfl,.inl (C1 _ (ka pre) p.1 p.2 (by have:=Cc pre;lia)),.sh (.int p.1),.sh (.int p.2),#v[vK]⟩
 obtain⟨ρ',k1,va,vb,rfl⟩:=key;have hc:=G0 ps;have hb:=Bf (ps.filter p7) ();have hl:ps.length<=a9:=aE ();simp[mH,rS,br,pR,hl,hc,hb,k1]
abbrev bD:=Int×Int×Int
abbrev aO(t:bD):D:=.tup [.int t.1,.int t.2.1,.int t.2.2]
abbrev bG:=List (Int×R)
abbrev d9(q:Int×R):D:=.tup [.int q.1,aZ q.2]
abbrev aQ(p:bG):D:=.tup (p.map d9)
noncomputable abbrev sP(p:bG):Sl:=.sh (aQ p)
def lQ(ts:List bD)(x y:Int):Prop:=∃t∈ts,t.1=y/\t.2.1<=x/\x<=t.2.2
def cP(p:bG)(x y:Int):Prop:=∃q∈p,q.1=y/\Mem q.2 x
def aJ(p:bG):Prop:=(∀q∈p,cb q.2/\q.2≠[])/\p.Pairwise λa b=>a.1<b.1
def qF(x y:Int):¬cP [] x y:=by rintro⟨_,h,_⟩;cases h
def nJ(q:Int×R)(p:bG)(x y:Int):cP (q::p) x y↔(q.1=y/\Mem q.2 x)\/cP p x y:=by
 constructor
 ·rintro⟨s,h,e⟩;rcases Yj.1 h with rfl|h
  ·exact .inl e
  ·exact .inr ⟨s,h,e⟩
 ·rintro (e|⟨s,h,e⟩)
  ·exact⟨q,Yg,e⟩
  ·exact⟨s,Yn _ h,e⟩
def mP(p q:bG)(x y:Int):cP (p++q) x y↔cP p x y\/cP q x y:=by
 constructor
 ·rintro⟨s,h,e⟩;rcases Yv.1 h with h|h
  ·exact .inl ⟨s,h,e⟩
  ·exact .inr ⟨s,h,e⟩
 ·rintro (⟨s,h,e⟩|⟨s,h,e⟩)
  ·exact⟨s,YD _ h,e⟩
  ·exact⟨s,Yu _ h,e⟩
def IH(t:bD)(ts:List bD)(x y:Int):lQ (t::ts) x y↔(t.1=y/\t.2.1<=x/\x<=t.2.2)\/lQ ts x y:=by
 constructor
 ·rintro⟨s,h,e⟩;rcases Yj.1 h with rfl|h
  ·exact .inl e
  ·exact .inr ⟨s,h,e⟩
 ·rintro (e|⟨s,h,e⟩)
  ·exact⟨t,Yg,e⟩
  ·exact⟨s,Yn _ h,e⟩
def tF(a b:List bD)(x y:Int):lQ (a++b) x y↔lQ a x y\/lQ b x y:=by
 constructor
 ·rintro⟨s,h,e⟩;rcases Yv.1 h with h|h
  ·exact .inl ⟨s,h,e⟩
  ·exact .inr ⟨s,h,e⟩
 ·rintro (⟨s,h,e⟩|⟨s,h,e⟩)
  ·exact⟨s,YD _ h,e⟩
  ·exact⟨s,Yu _ h,e⟩
def II{a b:List bD}(h:a.Perm b)(x y:Int):lQ a x y↔lQ b x y:=
 ⟨λ⟨q,m,e⟩=>⟨q,h.mem_iff.1 m,e⟩,λ⟨q,m,e⟩=>⟨q,h.mem_iff.2 m,e⟩⟩
def ZG{q:Int×R}{p:bG}:aJ (q::p)↔(cb q.2/\q.2≠[])/\(∀s∈p,q.1<s.1)/\aJ p:=by
 constructor
 ·rintro⟨h1,h2⟩;have h3:=aaH.1 h2;exact⟨h1 q Yg,h3.1,λs hs=>h1 s (Yn _ hs),h3.2⟩
 ·rintro⟨h1,h2,h3,h4⟩;refine⟨λs hs=>?_,aaH.2 ⟨h2,h4⟩⟩;rcases Yj.1 hs with rfl|hs
  ·exact h1
  ·exact h3 s hs
def bJ(t:bD):Zn:=[t.1,t.2.1,t.2.2]
def z7:Zn->bD
 |[a,b,c]=>(a,b,c)
 |_=>(0,0,0)
theorem yB:∀r:List bD,keys (r.map aO)=some (r.map bJ)
 |[]=>rfl
 |p::r=>by rw[Yo,keys,yB r];rfl
def He:∀ {r:List bD},r≠[]->aR (r.map aO)=none
 |[],h=>absurd rfl h
 |_::_,_=>rfl
def fX(ts:List bD):List bD:=(i7 (ts.map bJ)).map z7
def wP(ts:List bD):(fX ts).map bJ=i7 (ts.map bJ):=by
 unfold fX;rw[YE];have h:∀k∈i7 (ts.map bJ),(bJ∘z7) k=k:=λk hk=>by have:=(i8 _).mem_iff.mp hk;obtain⟨p,_,rfl⟩:=Ym.1 this;rfl
 rw[acR h,List.map_id']
def gm(ts:List bD):(fX ts).Perm ts:=by have h:=(i8 (ts.map bJ)).map z7;rw[YE] at h;have e:(z7∘bJ)=id:=rfl;rw[e,List.map_id] at h;exact h
def Da(ts:List bD):(fX ts).Pairwise λp q=>p.1<=q.1:=by
 have h:=wN (ts.map bJ);rw[<-wP,aaa] at h;refine h.imp λ{p q} e=>?_;have e':(if q.1=p.1 then HT.cD [q.2.1,q.2.2] [p.2.1,p.2.2] else decide (q.1<p.1))=false:=e;by_cases hq:q.1=p.1
 ·lia
 ·rw[X9 hq] at e';have:=aaM e';lia
def zq(ts:List bD)(h:ts.length<30000):jm [.lst (ts.map aO)]=some ((fX ts).map aO):=by
 show (if (ts.map aO).length<30000 then _ else _)=_;rw[Yb (by rw[Ye];exact h)];by_cases e:ts=[]
 ·subst e;have e0:fX []=[]:=aa9.1 (by rw[(gm []).length_eq];rfl);have e1:cE []=[]:=aa9.1 (by rw[(c0 []).length_eq];rfl);show some ((cE []).map D.int)=_;rw[e0,e1];rfl
 ·rw[He e];dsimp only;rw[yB];have:(fX ts).map aO=(i7 (ts.map bJ)).map xT:=by
   rw[<-wP,YE];rfl
  rw[this];rfl
def cQ(t:bD):Bool:=decide (t.2.1<=t.2.2)
def Dr(ts:List bD)(x y:Int):lQ (ts.filter cQ) x y↔lQ ts x y:=by
 constructor
 ·rintro⟨q,m,e⟩;exact⟨q,(YC.1 m).1,e⟩
 ·rintro⟨q,m,e⟩;exact⟨q,YC.2 ⟨m,by simp[cQ];lia⟩,e⟩
theorem uZ:∀ps:List bD,ps.filterMap (λp=>if p.2.1<=p.2.2 then some (aO p) else none)=(ps.filter cQ).map aO
 |[]=>rfl
 |p::t=>by
  rw[YJ,Y7,uZ t];by_cases h:p.2.1<=p.2.2
  ·simp[cQ,h]
  ·simp[cQ,h]
noncomputable abbrev Ff:=af (ak 0) (af (ak 1) (af (ak 2) aj))
noncomputable abbrev MW:=aL (ao (ah 0) (ao (ah 1) (ao (ah 2) bd)))
def DT(ps:List bD):a8 MW (xB (az I0 (ag 1) (ag 2))) (aV Ff) [.un,.un,.un] (ps.map aO)=some ((ps.filter cQ).map aO):=by rw[cc aO (λp=>if p.2.1<=p.2.2 then some (aO p) else none) ps,uZ];intro p _;by_cases h:p.2.1<=p.2.2<;>simp[cY,h]
def lH(gs:bG)(t:bD):bG:=match gs.getLast? with
 |none=>[(t.1,[t.2])]
 |some g=>if g.1=t.1 then gs.dropLast++[(g.1,g.2++[t.2])] else gs++[(t.1,[t.2])]
def G8(t:bD):lH [] t=[(t.1,[t.2])]:=rfl
def oW(gs:bG)(g:Int×R)(t:bD):lH (gs++[g]) t=if g.1=t.1 then gs++[(g.1,g.2++[t.2])] else gs++[g]++[(t.1,[t.2])]:=by unfold lH;simp
def eR(ts:List bD):bG:=ts.foldl lH []
def ve(pre:List bD)(t:bD):eR (pre++[t])=lH (eR pre) t:=by unfold eR;rw[aco];rfl
structure GOk(gs:bG)(ts:List bD):Prop where
 ne:∀g∈gs,g.2≠[]/\Ok g.2
 up:gs.Pairwise λa b=>a.1<b.1
 mem:∀x y,cP gs x y↔lQ ts x y
 le:∀g∈gs,∃t∈ts,g.1=t.1
 len:(gs.map λg=>g.2.length).sum=ts.length
def JV{ts:List bD}{t:bD}(o:GOk gs ts)(ht:t.2.1<=t.2.2)(hb:∀s∈ts,s.1<=t.1):GOk (lH gs t) (ts++[t]):=by
 have tm:∀x y,lQ (ts++[t]) x y↔lQ ts x y\/(t.1=y/\t.2.1<=x/\x<=t.2.2):=λx y=>by
  rw[tF,IH];constructor
  ·rintro (h|h|⟨_,h,_⟩)
   ·exact .inl h
   ·exact .inr h
   ·cases h
  ·rintro (h|h)
   ·exact .inl h
   ·exact .inr (.inl h)
 have okt:Ok [t.2]:=λp hp=>by rw[Yp.1 hp];exact ht
 rcases aaZ gs with rfl|⟨gs0,g,rfl⟩
 ·rw[G8];have e0:ts=[]:=aa9.1 (by have:=o.len;simpa using this.symm);subst e0;refine⟨λg hg=>?_,ab7 _ _,λx y=>?_,λg hg=>⟨t,by simp,#v[Yp.1 hg]⟩,by simp⟩
  ·rw[Yp.1 hg];exact⟨by simp,okt⟩
  ·rw[tm,nJ,mem_cons];constructor
   ·rintro (⟨h1,h2|h2⟩|h)
    ·exact .inr ⟨h1,h2⟩
    ·exact (gD _ h2).elim
    ·exact (qF _ _ h).elim
   ·rintro (⟨_,h,_⟩|h)
    ·cases h
    ·exact .inl ⟨h.1,.inl h.2⟩
 ·rw[aa0] at *;have up:=YW.1 o.up;rw[oW];have glast:g.1<=t.1:=by
   obtain⟨s,hs,e⟩:=o.le g (by simp);have:=hb s hs;lia
  by_cases h:g.1=t.1
  ·rw[Yb h];refine⟨λq hq=>?_,?_,λx y=>?_,λq hq=>?_,?_⟩
   ·rcases Yv.1 hq with hq|hq
    ·exact o.ne q (YD _ hq)
    ·rw[Yp.1 hq];refine⟨by simp,λp hp=>?_⟩;rcases Yv.1 hp with hp|hp
     ·exact (o.ne g (by simp)).2 p hp
     ·exact okt p hp
   ·refine YW.2 ⟨up.1,ab7 _ _,λa ha b hb=>?_⟩;rw[Yp.1 hb];exact up.2.2 a ha g (by simp)
   ·rw[tm,<-o.mem,mP,mP,nJ,nJ];dsimp only;rw[mem_append,mem_cons];have n0:=qF x y;have n1:=gD x;constructor
    ·rintro (k|⟨k1,k2|k2|k2⟩|k)
     ·exact .inl (.inl k)
     ·exact .inl (.inr (.inl ⟨k1,k2⟩))
     ·exact .inr ⟨(),k2⟩
     ·exact absurd k2 n1
     ·exact absurd k n0
    ·rintro ((k|⟨k1,k2⟩|k)|⟨k1,k2⟩)
     ·exact .inl k
     ·exact .inr (.inl ⟨k1,.inl k2⟩)
     ·exact absurd k n0
     ·exact .inr (.inl ⟨(),.inr (.inl k2)⟩)
   ·rcases Yv.1 hq with hq|hq
    ·obtain⟨s,hs,e⟩:=o.le q (YD _ hq);exact⟨s,YD _ hs,e⟩
    ·rw[Yp.1 hq];exact⟨t,by simp,h⟩
   ·have:=o.len;simp only[YX,adN,Yo,aa6,abB,List.sum_nil,Yl,Yk,abR] at this ⊢;lia
  ·rw[X9 h];refine⟨λq hq=>?_,?_,λx y=>?_,λq hq=>?_,?_⟩
   ·rcases Yv.1 hq with hq|hq
    ·exact o.ne q hq
    ·rw[Yp.1 hq];exact⟨by simp,okt⟩
   ·refine YW.2 ⟨o.up,ab7 _ _,λa ha b hb'=>?_⟩;rw[Yp.1 hb'];rcases Yv.1 ha with ha|ha
    ·have:=up.2.2 a ha g (by simp);dsimp only;lia
    ·rw[Yp.1 ha];dsimp only;lia
   ·rw[tm,<-o.mem,mP,nJ];dsimp only;rw[mem_cons];have n0:=qF x y;have n1:=gD x;constructor
    ·rintro (k|⟨k1,k2|k2⟩|k)
     ·exact .inl k
     ·exact .inr ⟨k1,k2⟩
     ·exact absurd k2 n1
     ·exact absurd k n0
    ·rintro (k|⟨k1,k2⟩)
     ·exact .inl k
     ·exact .inr (.inl ⟨k1,.inl k2⟩)
   ·rcases Yv.1 hq with hq|hq
    ·obtain⟨s,hs,e⟩:=o.le q hq;exact⟨s,YD _ hs,e⟩
    ·rw[Yp.1 hq];exact⟨t,by simp,rfl⟩
   ·have:=o.len;simp only[YX,adN,Yo,aa6,abB,List.sum_nil,Yl,Yk,abR] at this ⊢;lia
theorem BQ:∀(post pre:List bD),(∀t∈pre++post,t.2.1<=t.2.2)->(pre++post).Pairwise (λp q=>p.1<=q.1)->GOk (eR pre) pre->GOk (eR (pre++post)) (pre++post)
 |[],pre,_,_,o=>by rw[YK];exact o
 |t::post,pre,h1,h2,o=>by
  have e:pre++t::post=(pre++[t])++post:=by simp
  rw[e] at h1 h2 ⊢;refine BQ post (pre++[t]) h1 h2 ?_;rw[ve];have h3:=YW.1 h2;have h4:=YW.1 h3.1;exact JV o (h1 t (by simp)) λs hs=>h4.2.2 s hs t (by simp)
def yq{ts:List bD}(h1:∀t∈ts,t.2.1<=t.2.2)(h2:ts.Pairwise λp q=>p.1<=q.1):GOk (eR ts) ts:=
 BQ ts [] h1 h2 ⟨λ_ h=>(by cases h),.nil,λx y=>⟨λh=>(qF _ _ h).elim,λ⟨_,h,_⟩=>by cases h⟩,λ_ h=>(by cases h),rfl⟩
def cM(ts:List bD):bG:=(eR (fX (ts.filter cQ))).map λg=>(g.1,lL g.2)
def mX(ts:List bD):GOk (eR (fX (ts.filter cQ))) (fX (ts.filter cQ)):=yq (λt ht=>by
 have:=(gm _).mem_iff.mp ht
 simpa[cQ] using (YC.1 this).2) (Da _)
def LF{ps:R}(h:ps≠[])(o:Ok ps):lL ps≠[]:=λe=>by
 cases ps with
 |nil=>exact h rfl
 |cons p ps=>have:=((ju (p::ps)).2 p.1).mpr ((mem_cons ..).mpr (.inl ⟨Yw _,o p Yg⟩));rw[e] at this;exact gD _ this
def dh(ts:List bD):aJ (cM ts)/\∀x y,cP (cM ts) x y↔lQ ts x y:=by
 have o:=mX ts;refine⟨⟨λq hq=>?_,?_⟩,λx y=>?_⟩
 ·obtain⟨g,hg,rfl⟩:=Ym.1 hq;obtain⟨h1,h2⟩:=o.ne g hg;exact⟨(ju g.2).1,LF h1 h2⟩
 ·unfold cM;rw[aaa];exact o.up
 ·rw[<-Dr ts,<-II (gm _),<-o.mem];constructor
  ·rintro⟨q,hq,e,hm⟩;obtain⟨g,hg,rfl⟩:=Ym.1 hq;exact⟨g,hg,e,((ju g.2).2 x).mp hm⟩
  ·rintro⟨g,hg,e,hm⟩;exact⟨_,Ym.2 ⟨g,hg,rfl⟩,e,((ju g.2).2 x).mpr hm⟩
def am(p:bG):List bD:=p.flatMap λq=>q.2.map λs=>(q.1,s)
def bz(q:Int×R)(p:bG):am (q::p)=(q.2.map λs=>(q.1,s))++am p:=rfl
def eY(p:bG)(x y:Int):lQ (am p) x y↔cP p x y:=by
 constructor
 ·rintro⟨t,ht,e,h⟩;obtain⟨q,hq,hs⟩:=Y8.1 ht;obtain⟨s,hs2,rfl⟩:=Ym.1 hs;exact⟨q,hq,e,s,hs2,h⟩
 ·rintro⟨q,hq,e,s,hs,h⟩;exact⟨(q.1,s),Y8.2 ⟨q,hq,Ym.2 ⟨s,hs,rfl⟩⟩,e,h⟩
mutual
theorem BB:∀(n:Nat) (d:D),dg n d=true->nv d d=true
 |_,.non,_=>by simp[nv]
 |_,.bl _,_=>by simp[nv]
 |_,.int _,_=>by simp[nv]
 |_,.str _,_=>by simp[nv]
 |0,.lst _,h=>by simp[dg] at h
 |n+1,.lst l,h=>by rw[nv];exact ZI n l (by simpa[dg] using h)
 |0,.tup _,h=>by simp[dg] at h
 |n+1,.tup l,h=>by rw[nv];exact ZI n l (by simpa[dg] using h)
 |0,.mtp _,h=>by simp[dg] at h
 |n+1,.mtp l,h=>by rw[nv];exact ZI n l (by simpa[dg] using h)
 |n,.ty _,h=>by cases n<;>simp[dg] at h
 |n,.scr _,h=>by cases n<;>simp[dg] at h
 |n,.ins _ _ _,h=>by cases n<;>simp[dg] at h
 |n,.dic _,h=>by cases n<;>simp[dg] at h
theorem ZI:∀(n:Nat) (l:Zc),okDs n l=true->eqDs l l=true
 |_,[],_=>by simp[eqDs]
 |n,d::l,h=>by rw[okDs,Y3] at h;rw[eqDs,BB n d h.1,ZI n l h.2];rfl
end
def Jz(neg:Bool)(h:dg 50 d=true):jd neg d d=some (.bl (!neg)):=by unfold jd;rw[Yb ⟨h,h⟩,BB 50 d h];cases neg<;>rfl
def M2(g:Int×R):O:=.tup [.sh (.int g.1),.lst (g.2.map (O.sh∘aM))]
def Sn(g:Int×R):D:=.tup [.int g.1,Hn g.2]
def Tb(g:Int×R):(M2 g).d=Sn g:=by simp[M2,Sn]
theorem Pc:∀gs:bG,O.ds (gs.map M2)=gs.map Sn
 |[]=>by simp
 |g::gs=>by rw[Yo,GP,Tb,Pc gs];rfl
def G7(gs:bG)(t:bD):(lH gs t).length<=gs.length+1:=by
 rcases aaZ gs with rfl|⟨gs0,g,rfl⟩
 ·simp[lH]
 ·rw[aa0,oW];split<;>simp
def yp:∀ts:List bD,(eR ts).length<=ts.length:=by
 intro ts;have key:∀(l:List bD) (gs:bG),(l.foldl lH gs).length<=gs.length+l.length:=by
  intro l;induction l with
  |nil=>intro gs;simp
  |cons t l ih=>intro gs;have h1:=ih (lH gs t);have h2:=G7 gs t;rw[YQ,Yk];lia
 have:=key ts [];unfold eR;simpa using this
def Al(s0:Sl)(gs:bG)(t:bD)(h:gs.length<=30000)(hg:∀g∈gs,g.2.length<=30000):cI [s0,.ow (.lst (gs.map M2)),sI t.1,sI t.2.1,sI t.2.2]=some (.nx [s0,.ow (.lst ((lH gs t).map M2)),sI t.1,sI t.2.1,sI t.2.2]):=by
 rcases aaZ gs with rfl|⟨gs0,g,rfl⟩
 ·simp[cI,lH,M2]
 ·rw[aa0] at *;rw[oW];have hl:gs0.length+1<=30000:=by simpa using h
  have hlim:gs0.length+1<a9:=cV ();have hg2:g.2.length<a9:=cV (by have:=hg g (by simp);lia);by_cases hc:g.1=t.1
  ·simp[cI,hc,hg2,M2]
  ·simp[cI,hc,hlim,M2]
theorem oZ:∀ {l:List Nat} {n:Nat},n∈l->n<=l.sum
 |[],_,h=>by cases h
 |m::l,n,h=>by
  rw[abB];rcases Yj.1 h with rfl|h
  ·lia
  ·have:=oZ h;lia
noncomputable abbrev MV:=ao (ah 3) (ao (ah 4) bd)
def dc(ts:List bD)(h:ts.length<30000):bM [.lst (ts.map aO)]=some (aQ (cM ts)):=by
 have hf:=aaG cQ ts;have hs:=(gm (ts.filter cQ)).length_eq;have og:=mX ts;have key:∃ρ',bR (aL (ao (ah 2) MV)) cI ((fX (ts.filter cQ)).map aO) [.sh (.lst (ts.map aO)),.ow (.lst []),.un,.un,.un]=some (.nx ρ')/\∃va vb vc,ρ'=[.sh (.lst (ts.map aO)),.ow (.lst ((eR (fX (ts.filter cQ))).map M2)),va,vb,vc]:=by
  refine aY aO (λpre ρ=>∃va vb vc,ρ=[.sh (.lst (ts.map aO)),.ow (.lst ((eR pre).map M2)),va,vb,vc]) _ _ ⟨_,_,_,rfl⟩ ?_;rintro pre t post _ e ⟨va,vb,vc,rfl⟩;have hp:pre.length<=30000:=by have:=Yt List.length e;rw[Yl] at this;lia
  have gl:=yp pre;have gp:GOk (eR pre) pre:=by
   refine yq (λs hs=>?_) ?_
   ·have:=(gm _).mem_iff.mp (show s∈fX (ts.filter cQ) by rw[e];simp[hs]);simpa[cQ] using (YC.1 this).2
   ·have:=Da (ts.filter cQ);rw[e] at this;exact (YW.1 this).1
  have gg:∀g∈eR pre,g.2.length<=30000:=λg hg=>by have h1:=gp.len;have h2:g.2.length<=((eR pre).map λg=>g.2.length).sum:=oZ (Ym.2 ⟨g,hg,rfl⟩);lia
  refine⟨_,_,rfl,.inl (Al _ (eR pre) t () gg),.sh (.int t.1),.sh (.int t.2.1),.sh (.int t.2.2),#v[ve]⟩
 obtain⟨ρ',k1,va,vb,vc,rfl⟩:=key;have hc:=DT ts;have hb:=zq (ts.filter cQ) ();have hl:ts.length<=a9:=aE ();have gl:=yp (fX (ts.filter cQ));have hl2:(eR (fX (ts.filter cQ))).length<=a9:=aE ();have c2:a8 kA bA (aV (af (ak 0) (af (aq mH (af (ak 1) aj)) aj))) [.un,.un] ((eR (fX (ts.filter cQ))).map Sn)=some ((cM ts).map d9):=by
  rw[aW Sn (λg=>d9 (g.1,lL g.2))]
  ·unfold cM;rw[YE];rfl
  ·intro g hg;have h1:g.2.length<30000:=by
    have h2:g.2.length<=((eR (fX (ts.filter cQ))).map λg=>g.2.length).sum:=oZ (Ym.2 ⟨g,hg,rfl⟩);have:=og.len;lia
   have h3:=s9 g.2 h1;simp[cY,Sn,h3]
 simp[bM,jK,br,kM,hl,hc,hb,k1,frz,Pc,hl2,c2]
def qN(p q:bG):am (p++q)=am p++am q:=by unfold am;rw[aeO]
def bC{p:bG}{q:Int×R}(h:q∈p):q.2.length<=(am p).length:=by
 induction p with
 |nil=>cases h
 |cons s p ih=>
  rw[bz,Yl,Ye];rcases Yj.1 h with rfl|h
  ·lia
  ·have:=ih h;lia
def o8(p:bG)(h:(am p).length<=100000):df [aQ p]=some (.lst ((am p).map (O.sh∘aO))):=by
 obtain⟨ρ',k1,v2,v3,rfl⟩:=aY (g:=aL GO) (m:=ez) d9 (λpre ρ=>∃v2 v3,ρ=[sP p,.ow (.lst ((am pre).map (O.sh∘aO))),v2,v3]) p [sP p,.ow (.lst []),.un,.un] ⟨_,_,rfl⟩ (by
  rintro pre q post _ e ⟨v2,v3,rfl⟩;have ZQ:(am pre).length+q.2.length<=100000:=by rw[e,qN,bz,Yl,Yl,Ye] at h;lia
  have hl:(am pre).length+q.2.length<=a9:=aE ZQ;have hl2:q.2.length<=a9:=aE ();have hc:a8 kA bA (aV (af (ak 2) zh)) [.un,.un,sI q.1] (q.2.map aM)=some (q.2.map λs=>aO (q.1,s)):=aW aM _ q.2 λs _=>by simp[cY]
  refine⟨_,[sP p,.ow (.lst ((am (pre++[q])).map (O.sh∘aO))),sI q.1,.sh (aZ q.2)],rfl,.inl ?_,_,_,rfl⟩;have es:am (pre++[q])=am pre++q.2.map λs=>(q.1,s):=by rw[qN,bz];simp[am]
  rw[es]
  simp[ez,hl,hl2,hc])
 simp[df,br,fI,k1]
def bH(p:bG)(h:(am p).length<=100000):bS [aQ p]=some (.lst ((am p).map aO)):=by show (df _).map O.d=_;rw[o8 p h];simp
def eE{α:Type}(l:List α)(k:α->Int)(enc:α->D)(x:Int)(he:∀a,bL (enc a) (.int 0)=some (.int (k a)))(hl:l.length<=100000)(pw:l.Pairwise λa b=>k a<k b) :
  ∃n:Nat,n<=l.length/\dw [.tup (l.map enc),.int x]=some (.int n)/\∀(i:Nat) a,l[i]?=some a->(k a<=x↔i<n):=by
 have lt:∀(i j:Nat) a b,l[i]?=some a->l[j]?=some b->i<j->k a<k b:=λi j a b hi hj hij=>by obtain⟨h1,rfl⟩:=Yx.1 hi;obtain⟨h2,rfl⟩:=Yx.1 hj;exact aaJ.1 pw i j h1 h2 hij
 obtain⟨ρ',k1,n,v3,v4,rfl,h1,h2⟩:=pI (c:=c6) (m:=c5)
  (λρ=>∃(lo hi:Nat) (v4:Sl),ρ=[.sh (.tup (l.map enc)),sI x,sI lo,sI hi,v4]/\lo<=hi/\hi<=l.length/\(∀(i:Nat) a,l[i]?=some a->i<lo->k a<=x)/\∀(i:Nat) a,l[i]?=some a->hi<=i->x<k a)
  (λρ=>match ρ with|[_,_,.sh (.int lo),.sh (.int hi),_]=>(hi-lo).toNat|_=>0)
  (λρ=>∃(n:Nat) (v3 v4:Sl),ρ=[.sh (.tup (l.map enc)),sI x,sI n,v3,v4]/\n<=l.length/\∀(i:Nat) a,l[i]?=some a->(k a<=x↔i<n))
  (by
   rintro _ ⟨lo,hi,v4,rfl,h1,h2,h3,h4⟩;by_cases hc:lo<hi
   ·right;have hc':(lo:Int)<hi:=()
    obtain⟨a,ha⟩:∃a,l[(lo+hi)/2]?=some a:=⟨_,YS ()⟩
    have em:((lo:Int)+hi)/2=(((lo+hi)/2:Nat):Int):=()
    have ea:cF (l.map enc) (((lo:Int)+hi)/2)=some (enc a):=by rw[em];exact dB (by rw[YG,ha];rfl)
    refine⟨by simp[c6,hc'],?_⟩;by_cases ck:k a<=x
    ·refine⟨[.sh (.tup (l.map enc)),sI x,.sh (.int (((lo+hi)/2+1:Nat):Int)),sI hi,.sh (.int (((lo:Int)+hi)/2))],?_,⟨(lo+hi)/2+1,hi,_,rfl,(),h2,λi b hb hi'=>?_,h4⟩,by dsimp only;lia⟩
     ·simp[c5,ea,he,ck]
     ·by_cases z:i=(lo+hi)/2
      ·subst z;rw[ha] at hb;cases hb;exact ck
      ·have:=lt i _ b a hb ha ();lia
    ·refine⟨[.sh (.tup (l.map enc)),sI x,sI lo,.sh (.int (((lo+hi)/2:Nat):Int)),.sh (.int (((lo:Int)+hi)/2))],?_,⟨lo,(lo+hi)/2,_,rfl,(),(),h3,λi b hb hi'=>?_⟩,by dsimp only;lia⟩
     ·simp[c5,ea,he,ck]
     ·by_cases z:i=(lo+hi)/2
      ·subst z;rw[ha] at hb;cases hb;lia
      ·have:=lt _ i a b ha hb ();lia
   ·left;have hc':¬(lo:Int)<hi:=()
    have e:lo=hi:=()
    subst e;refine⟨by simp[c6],lo,_,_,rfl,h2,λi a ha=>⟨λhk=>?_,λhi'=>h3 i a ha hi'⟩⟩;by_cases z:i<lo
    ·exact z
    ·have:=h4 i a ha ();lia)
  [.sh (.tup (l.map enc)),sI x,sI 0,sI l.length,.un]
  ⟨0,l.length,_,rfl,YR _,Yi _,λi a _ h=>absurd h (abX _),λi a ha h=>by have:=(Yx.1 ha).1;lia⟩
 refine⟨n,h1,?_,h2⟩;simp[dw,iQ,br,gw,k1]
def aK(p:bG)(y:Int):R:=match p.find? λq=>decide (q.1=y) with|some q=>q.2|none=>[]
def kh(c:aJ p){q:Int×R}(hq:q∈p):aK p q.1=q.2:=by
 unfold aK;cases e:p.find? λs=>decide (s.1=q.1) with
 |none=>
  have:=adB.1 e q hq;simp at this
 |some s=>
  have h1:=List.find?_some e;have h2:=adO e;have h3:s.1=q.1:=Y6 h1;have:s=q:=by
   obtain⟨i,hi⟩:=aaC h2;obtain⟨j,hj⟩:=aaC hq;obtain⟨li,ei⟩:=Yx.1 hi;obtain⟨lj,ej⟩:=Yx.1 hj;have pw:=aaJ.1 c.2;by_cases z:i<j
   ·have:=pw i j li lj z;rw[ei,ej] at this;lia
   ·by_cases z2:j<i
    ·have:=pw j i lj li z2;rw[ei,ej] at this;lia
    ·have:i=j:=()
     subst this;rw[hi] at hj;exact YU hj
  rw[this]
def iY{p:bG}{y:Int}(h:∀q∈p,q.1≠y):aK p y=[]:=by
 unfold aK;have:p.find? (λq=>decide (q.1=y))=none:=adB.2 λq hq=>by simpa using h q hq
 rw[this]
def cv(c:aJ p)(y:Int):cb (aK p y):=by
 by_cases h:∃q∈p,q.1=y
 ·obtain⟨q,hq,rfl⟩:=h;rw[kh c hq];exact (c.1 q hq).1
 ·rw[iY λq hq e=>h ⟨q,hq,e⟩];exact j4
def gK(p:bG)(y:Int)(c:aJ p)(h:p.length<=100000):de [aQ p,.int y]=some (aZ (aK p y)):=by
 obtain⟨n,h1,h2,h3⟩:=eE p (·.1) d9 y (λa=>by simp) h c.2;by_cases hn:n=0
 ·subst hn;have e:aK p y=[]:=iY λq hq e=>by
   obtain⟨j,ej⟩:=aaC hq;exact absurd ((h3 j q ej).mp ()) (abX _)
  simp at h2;simp[de,kd,br,jU,h2,e]
 ·obtain⟨q,hq⟩:∃q,p[n-1]?=some q:=⟨_,YS ()⟩
  have en:(n:Int)-1=((n-1:Nat):Int):=()
  have ea:cF (p.map d9) ((n:Int)-1)=some (d9 q):=by rw[en];exact dB (by rw[YG,hq];rfl)
  have hn':(0:Int)<n:=()
  have hn2:0<n:=()
  by_cases hy:q.1=y
  ·have e:aK p y=q.2:=by rw[<-hy];exact kh c (aaP hq)
   simp[de,kd,br,jU,h2,hn,hn',hn2,ea,hy,e]
  ·have e:aK p y=[]:=iY λs hs e=>by
    obtain⟨j,ej⟩:=aaC hs;have hj:=(h3 j s ej).mp ();by_cases z:j=n-1
    ·subst z;rw[hq] at ej;cases ej;exact hy e
    ·obtain⟨l1,e1⟩:=Yx.1 ej;obtain⟨l2,e2⟩:=Yx.1 hq;have:=aaJ.1 c.2 j (n-1) l1 l2 ();rw[e1,e2] at this;have:=(h3 _ _ hq).mpr ();lia
   simp[de,kd,br,jU,h2,hn,hn',hn2,ea,hy,e]
end P
namespace Eu
abbrev T3:=Int×Int×Int
structure Lay(X:List T3):Prop where
 nd:X.Nodup
 ok:∀a∈X,a.2.1<=a.2.2
 sp:∀a∈X,∀b∈X,a≠b->a.1=b.1->a.2.2+2<=b.2.1\/b.2.2+2<=a.2.1
theorem Ll{α:Type}{R:α->α->Prop}:∀ {l:List α},l.Pairwise R->∀a∈l,∀b∈l,a≠b->R a b\/R b a
 |[],_,_,h,_,_,_=>by cases h
 |x::l,h,a,ha,b,hb,hn=>by
  obtain⟨h1,h2⟩:=aaH.1 h;rcases Yj.1 ha with rfl|ha'
  ·rcases Yj.1 hb with rfl|hb
   ·exact absurd rfl hn
   ·exact .inl (h1 b hb)
  ·rcases Yj.1 hb with q|hb
   ·exact .inr (q▸h1 a ‹a∈l›)
   ·exact Ll h2 a ‹a∈l› b hb hn
def Touch(k:Int)(s t:T3):Prop:=(s.1=t.1+1\/t.1=s.1+1)/\s.2.1<=t.2.2+k/\t.2.1<=s.2.2+k
def Touch.symm{k:Int} (h:Touch k s t):Touch k t s:=⟨h.1.symm,h.2.2,h.2.1⟩
inductive Con(k:Int)(S:List T3)(s:T3):T3->Prop
 |refl:Con k S s s
 |step {t u:T3}:Con k S s t->Touch k t u->u∈S->Con k S s u
def Con.mem{k:Int}{S:List T3}{s:T3}(hs:s∈S)(h:Con k S s t):t∈S:=by
 cases h with
 |refl=>exact hs
 |step _ _ h=>exact h
def Con.trans{k:Int} (a:Con k S s t)(b:Con k S t u):Con k S s u:=by
 induction b with
 |refl=>exact a
 |step _ h1 h2 ih=>exact ih.step h1 h2
def Con.symm{k:Int}{S:List T3}{s:T3}(hs:s∈S)(a:Con k S s t):Con k S t s:=by
 induction a with
 |refl=>exact .refl
 |step h h1 h2 ih=>exact (Con.refl.step h1.symm (h.mem hs)).trans ih
structure Fam(k:Int)(S:List T3)(Ws:List (List T3)):Prop where
 cl:∀W∈Ws,∃s∈S,∀t,t∈W↔Con k S s t
 dj:Ws.Pairwise λV W=>∀t∈V,t∉W
 all:∀t∈S,∃W∈Ws,t∈W
end Eu
namespace P
open PySem L2 M Rw
theorem uY{α:Type}(p q:α->Bool):∀(r:List α) (a b:Nat),(∀(i:Nat) x,r[i]?=some x->q x=(decide (a<=i)&&decide (i<b)&&p x))->((r.drop a).take (b-a)).filter p=r.filter q
 |[],a,b,_=>by simp
 |x::r,0,0,h=>by
  have:(x::r).filter q=[]:=adP.2 λy hy=>by obtain⟨i,hi⟩:=aaC hy;rw[h i y hi];simp
  rw[this];simp
 |x::r,0,b+1,h=>by
  have ih:=uY p q r 0 b λi y hy=>by have:=h (i+1) y hy;rw[this];simp
  have h0:=h 0 x rfl;have e:q x=p x:=by rw[h0];simp
  rw[abP,acH,List.take_succ_cons,Y7,Y7,e];rw[abP,acH] at ih;rw[ih]
 |x::r,a+1,b,h=>by
  have ih:=uY p q r a (b-1) λi y hy=>by
   have:=h (i+1) y hy;rw[this];by_cases h1:a<=i<;>by_cases h2:i+1<b
   ·rw[YI (by lia:a+1<=i+1),YI h2,YI h1,YI (by lia:i<b-1)]
   ·rw[YI (by lia:a+1<=i+1),YB h2,YI h1,YB (by lia:¬i<b-1)]
   ·rw[YB (by lia:¬a+1<=i+1),YB h1];rfl
   ·rw[YB (by lia:¬a+1<=i+1),YB h1];rfl
  have h0:=h 0 x rfl;have e:q x=false:=by rw[h0];simp
  rw[List.drop_succ_cons,Y7,e,<-ih,show b-(a+1)=b-1-a by lia];rfl
def F3(f l:Int)(p:Int×Int):Bool:=decide (p.1<=l)&&decide (f<=p.2)
def o5(r:R)(c:cb r)(h:r.length<=100000)(f l:Int)(hfl:f<=l):∃r':R,gP [aZ r,.int f,.int l]=some (aZ r')/\r'.length<=r.length/\(r'.filter λp=>decide (f<=p.2))=r.filter (F3 f l):=by
 have pw:r.Pairwise λa b=>a.1<b.1:=by refine abU ?_ c.2;intro p q hp _ h;have:=c.1 p hp;lia
 obtain⟨n1,a1,b1,c1⟩:=eE r (·.1) aM f (λa=>by simp) h pw;obtain⟨n2,a2,b2,c2⟩:=eE r (·.1) aM l (λa=>by simp) h pw;refine⟨iE r (some ((n1-1:Nat):Int)) (some (n2:Int)),?_,QD _ _ _,?_⟩
 ·have e1:(if ((n1:Int)-1) > 0 then (n1:Int)-1 else 0)=((n1-1:Nat):Int):=by split<;>lia
  have e1':(if 1<n1 then (n1:Int)-1 else 0)=((n1-1:Nat):Int):=by split<;>lia
  have e1'':(if (1:Int)<(n1:Int) then (n1:Int)-1 else 0)=((n1-1:Nat):Int):=by split<;>lia
  simp[gP,gh,br,e9,b1,b2,FC,e1,e1',e1'',SY]
 ·unfold iE;rw[uu (),uu (),aaE,aaE,Nat.min_eq_left (by lia:n1-1<=r.length),Nat.min_eq_left a2];refine uY _ _ r (n1-1) n2 λi x hx=>?_;unfold F3;have h2:=c2 i x hx;by_cases hi:n1-1<=i
  ·rw[YI hi,Bool.true_and];congr 1;exact decide_eq_decide.2 h2
  ·rw[YB hi,ac4,ac4];have hi1:i+1<n1:=()
   obtain⟨y,hy⟩:∃y,r[i+1]?=some y:=⟨_,YS ()⟩
   have h3:=(c1 (i+1) y hy).mpr hi1;obtain⟨l1,e1⟩:=Yx.1 hx;obtain⟨l2,e2⟩:=Yx.1 hy;have h4:=aaJ.1 c.2 i (i+1) l1 l2 ();rw[e1,e2] at h4;rw[YB (by lia:¬f<=x.2),adt]
def iB(k:Int)(p:bG)(s:bD)(y:Int):List bD:=((aK p y).filter (F3 (s.2.1-k) (s.2.2+k))).map λq=>(y,q)
def vQ(k:Int)(p:bG)(s:bD):List bD:=iB k p s (s.1-1)++iB k p s (s.1+1)
def ki(c:aJ p)(y:Int)(q:Int×Int):q∈aK p y↔((y,q):bD)∈am p:=by
 constructor
 ·intro h;by_cases k:∃g∈p,g.1=y
  ·obtain⟨g,hg,rfl⟩:=k;rw[kh c hg] at h;exact Y8.2 ⟨g,hg,Ym.2 ⟨q,h,rfl⟩⟩
  ·rw[iY λg hg e=>k ⟨g,hg,e⟩] at h;cases h
 ·intro h;obtain⟨g,hg,hs⟩:=Y8.1 h;obtain⟨z,hz,e⟩:=Ym.1 hs;cases e;rw[kh c hg];exact hz
def Ci{k:Int} (c:aJ p)(s t:bD):t∈vQ k p s↔t∈am p/\Eu.Touch k s t:=by
 have key:∀y:Int,t∈iB k p s y↔t∈am p/\t.1=y/\s.2.1<=t.2.2+k/\t.2.1<=s.2.2+k:=λy=>by
  unfold iB F3;constructor
  ·intro h;obtain⟨q,hq,rfl⟩:=Ym.1 h;obtain⟨h1,h2⟩:=YC.1 hq;simp only[Y3,YO] at h2;exact⟨(ki c y q).mp h1,rfl,by dsimp only;lia,by dsimp only;lia⟩
  ·rintro⟨h1,rfl,h2,h3⟩;refine Ym.2 ⟨t.2,YC.2 ⟨(ki c t.1 t.2).mpr h1,?_⟩,rfl⟩;simp only[Y3,YO];lia
 unfold vQ;rw[Yv,key,key];unfold Eu.Touch;constructor
 ·rintro (⟨h1,h2,h3⟩|⟨h1,h2,h3⟩)
  ·exact⟨h1,.inl (),h3⟩
  ·exact⟨h1,.inr (),h3⟩
 ·rintro⟨h1,h2|h2,h3⟩
  ·exact .inl ⟨h1,(),h3⟩
  ·exact .inr ⟨h1,(),h3⟩
def sf{p:bG}{n:Nat}(h:∀q∈p,q.2.length<=n)(y:Int):(aK p y).length<=n:=by
 unfold aK;cases e:p.find? λq=>decide (q.1=y) with
 |none=>simp
 |some q=>exact h q (adO e)
def uH(k:Int)(p:bG)(s:bD)(y:Int):(iB k p s y).length<=(aK p y).length:=by unfold iB;rw[Ye];exact aaG _ _
theorem FK(f:Int)(y:Int):∀r:R,r.filterMap (λp=>if f<=p.2 then some (aO (y,p)) else none)=((r.filter λp=>decide (f<=p.2)).map λq=>((y,q):bD)).map aO
 |[]=>rfl
 |p::r=>by rw[YJ,Y7,FK f y r];by_cases h:f<=p.2<;>simp[h]
def wZ{k:Int}(hk:0<=k)(p:bG)(c:aJ p)(hp:p.length<=1000)(hq:∀q∈p,q.2.length<=1000)(s:bD)(hs:s.2.1<=s.2.2)(s1 s2:Sl)(acc:List bD)(ha:acc.length<=1000)(y:Int) :
  b9 [sP p,s1,s2,sI (s.2.1-k),sI (s.2.2+k),dQ (acc.map aO),sI y]=some (.nx [sP p,s1,s2,sI (s.2.1-k),sI (s.2.2+k),dQ ((acc++iB k p s y).map aO),sI y]):=by
 have h1:=gK p y c ();have hl:=sf hq y;obtain⟨r',h2,h3,h4⟩:=o5 (aK p y) (cv c y) () (s.2.1-k) (s.2.2+k) ();have h5:r'.length<=a9:=aE ();have hb:=uH k p s y;have h6:acc.length+(iB k p s y).length<=a9:=aE ();have hc:a8 kA (xB (az Sj (ag 1) (ag 3))) (aV (af (ak 2) zh)) [.un,.un,sI y,sI (s.2.1-k)] (r'.map aM)=some ((iB k p s y).map aO):=by
  rw[cc aM (λq=>if s.2.1-k<=q.2 then some (aO (y,q)) else none) r',FK,h4]
  ·rfl
  ·intro q _;by_cases h:s.2.1-k<=q.2<;>simp[cY,h]
 simp[b9,h1,h2,h5,hc,h6]
def xr{k:Int}(hk:0<=k)(p:bG)(c:aJ p)(hp:p.length<=400)(hq:∀q∈p,q.2.length<=400)(s:bD)(hs:s.2.1<=s.2.2)(ds:Zc) :
  k7 [aQ p,.tup (.int s.1 :: .int s.2.1 :: .int s.2.2::ds),.int k]=some (.lst ((vQ k p s).map aO)):=by
 have a0:cF (D.int s.1 :: .int s.2.1 :: .int s.2.2::ds) 0=some (.int s.1):=dB (j:=0) rfl;have a1:cF (D.int s.1 :: .int s.2.1 :: .int s.2.2::ds) 1=some (.int s.2.1):=dB (j:=1) rfl;have a2:cF (D.int s.1 :: .int s.2.1 :: .int s.2.2::ds) 2=some (.int s.2.2):=dB (j:=2) rfl;have t1:=wZ hk p c () (λq h=>Yr (hq q h) ()) s hs (.sh (.tup (.int s.1 :: .int s.2.1 :: .int s.2.2::ds))) (.sh (.int k)) [] (by simp) (s.1-1);have hb:=uH k p s (s.1-1);have hl:=sf hq (s.1-1);have t2:=wZ hk p c () (λq h=>Yr (hq q h) ()) s hs (.sh (.tup (.int s.1 :: .int s.2.1 :: .int s.2.2::ds))) (.sh (.int k)) ([]++iB k p s (s.1-1)) (by rw[acf];lia) (s.1+1);have hl2:(2:Nat)<=a9:=aE ();rw[acf] at t1 t2;have t1':b9 [sP p,.sh (.tup (.int s.1 :: .int s.2.1 :: .int s.2.2::ds)),sI k,sI (s.2.1-k),sI (s.2.2+k),.ow (.lst []),sI (s.1-1)]=_:=t1;have lp:bR (ah 6) b9 [.int (s.1-1),.int (s.1+1)] [sP p,.sh (.tup (.int s.1 :: .int s.2.1 :: .int s.2.2::ds)),sI k,sI (s.2.1-k),sI (s.2.2+k),.ow (.lst []),.un]=some (.nx [sP p,.sh (.tup (.int s.1 :: .int s.2.1 :: .int s.2.2::ds)),sI k,sI (s.2.1-k),sI (s.2.2+k),dQ ((vQ k p s).map aO),sI (s.1+1)]):=by rw[d8];show (match b9 [sP p,.sh (.tup (.int s.1 :: .int s.2.1 :: .int s.2.2::ds)),sI k,sI (s.2.1-k),sI (s.2.2+k),.ow (.lst []),sI (s.1-1)] with|some (.nx ρ2)=>_|some (.ct ρ2)=>_|some (.bk ρ2)=>_|some (.rt d)=>_|some (.ro d)=>_|none=>_)=_;rw[t1'];dsimp only;rw[d8];show (match b9 [sP p,.sh (.tup (.int s.1 :: .int s.2.1 :: .int s.2.2::ds)),sI k,sI (s.2.1-k),sI (s.2.2+k),dQ ((iB k p s (s.1-1)).map aO),sI (s.1+1)] with|some (.nx ρ2)=>_|some (.ct ρ2)=>_|some (.bk ρ2)=>_|some (.rt d)=>_|some (.ro d)=>_|none=>_)=_;rw[t2];rfl
 simp[k7,mM,br,kQ,a0,a1,a2,hl2,lp]
abbrev Wk:=List (bD×D)
abbrev c9(w:bD×D):D:=.tup [.int w.1.1,.int w.1.2.1,.int w.1.2.2,w.2]
theorem nF{α:Type}[DecidableEq α]:∀ {l m:List α},l.Nodup->(∀a∈l,a∈m)->l.length<=m.length
 |[],m,_,_=>YR _
 |a::l,m,h,k=>by obtain⟨h1,h2⟩:=YH.1 h;have ha:=k a Yg;have ih:=nF (m:=m.erase a) h2 λb hb=>(adC (λe=>h1 (by rw[<-e];exact hb))).2 (k b (Yn _ hb));rw[adE ha] at ih;have:=aeB ha;rw[Yk];lia
structure WOk(k:Int)(p:bG)(s:bD)(W:Wk):Prop where
 nd:(W.map (·.1)).Nodup
 hd:∃d,W[0]?=some (s,d)
 con:∀w∈W,Eu.Con k (am p) s w.1
def NK(h:bJ s=bJ t):s=t:=by obtain⟨a,b,c⟩:=s;obtain⟨d,e,f⟩:=t;unfold bJ at h;simp at h;obtain⟨rfl,rfl,rfl⟩:=h;rfl
def oh{ts:List bD} : (ts.map bJ).contains (bJ t)=decide (t∈ts):=by
 by_cases h:t∈ts
 ·rw[YI h,abg];exact Ym.2 ⟨t,h,rfl⟩
 ·rw[YB h];cases q:(ts.map bJ).contains (bJ t) with
  |false=>rfl
  |true=>obtain⟨u,hu,e⟩:=Ym.1 (abg.1 q);rw[NK e] at hu;exact absurd hu h
def Ec(t:bD):DF (aO t)=some (bJ t):=rfl
def qJ{c:XT} {ρ:M.Env}(h:c ρ=some true):lX c m n ρ=m ρ:=by unfold lX;rw[h];rfl
def nL{c:XT} {ρ:M.Env}(h:c ρ=some false):lX c m n ρ=n ρ:=by unfold lX;rw[h];rfl
def qz{ρ:M.Env} {ks:Zm}{b:Bool}{i j:Nat}(h6:ρ[j]?=some (.sh (aO t)))(h4:ρ[i]?=some (.ow (.dic ks)))(hc:ks.contains (bJ t)=b):xB (t7 true (ak j) i) ρ=some (!b):=by unfold xB t7 ak mm;rw[h6,h4];dsimp only[Option.bind];rw[Ec];dsimp only[Option.bind,Option.map];rw[hc];rfl
def WOk.snoc{k:Int} (o:WOk k p s W){j:Nat}{w:bD×D}(hj:W[j]?=some w){t:bD}(ht:t∈am p)(kt:Eu.Touch k w.1 t)(hn:t∉W.map (·.1)):WOk k p s (W++[(t,.int (j:Int))]) where
 nd:=by
  rw[YX];refine aaq.2 ⟨o.nd,by simp,λa ha b hb=>?_⟩;have hb':b=t:=by simpa using hb
  subst hb';intro e;subst e;exact hn ha
 hd:=by obtain⟨d,hd⟩:=o.hd;exact⟨d,by rw[aaz (Yx.1 hd).1];exact hd⟩
 con:=λv hv=>by
  rcases Yv.1 hv with hv|hv
  ·exact o.con v hv
  ·rw[Yp.1 hv];exact (o.con w (aaP hj)).step kt ht
def WOk.le{k:Int} (o:WOk k p s W)(hs:s∈am p):W.length<=(am p).length:=by
 have:=nF o.nd (m:=am p) λt ht=>by obtain⟨w,hw,rfl⟩:=Ym.1 ht;exact (o.con w hw).mem hs
 simpa using this
def Fa{k:Int}(p:bG)(c:aJ p)(s:bD)(hs:s∈am p)(hn:(am p).length<=400)(s1 s2 v6:Sl)(W:Wk)(j:Nat)(w:bD×D)(hj:W[j]?=some w)(o:WOk k p s W) :
  ∃(W':Wk) (v6':Sl),bR (ah 6) dq ((vQ k p w.1).map aO) [sP p,s1,s2,dQ (W.map c9),.ow (.dic ((W.map (·.1)).map bJ)),sI j,v6]=some (.nx [sP p,s1,s2,dQ (W'.map c9),.ow (.dic ((W'.map (·.1)).map bJ)),sI j,v6'])/\WOk k p s W'/\(∃Z,W'=W++Z)/\∀t∈vQ k p w.1,t∈W'.map (·.1):=by
 obtain⟨ρ',k1,W',v6',rfl,h1,h2,h3⟩:=aY (g:=ah 6) (m:=dq) aO (λpre ρ=>∃(W':Wk) (v6':Sl),ρ=[sP p,s1,s2,dQ (W'.map c9),.ow (.dic ((W'.map (·.1)).map bJ)),sI j,v6']/\WOk k p s W'/\(∃Z,W'=W++Z)/\∀t∈pre,t∈W'.map (·.1)) (vQ k p w.1) [sP p,s1,s2,dQ (W.map c9),.ow (.dic ((W.map (·.1)).map bJ)),sI j,v6]
  ⟨W,v6,rfl,o,⟨[],by simp⟩,λ_ h=>by cases h⟩ (by
  rintro pre t post _ e ⟨W',v6',rfl,h1,⟨Z,rfl⟩,h3⟩;have ht:t∈vQ k p w.1:=by rw[e];simp
  obtain⟨ht1,ht2⟩:=(Ci c w.1 t).mp ht;have hc:=oh (ts:=(W++Z).map (·.1)) (t:=t);have hle:=h1.le hs;by_cases hm:t∈(W++Z).map (·.1)
  ·rw[YI hm] at hc;refine⟨[sP p,s1,s2,dQ ((W++Z).map c9),.ow (.dic (((W++Z).map (·.1)).map bJ)),sI j,.sh (aO t)],[sP p,s1,s2,dQ ((W++Z).map c9),.ow (.dic (((W++Z).map (·.1)).map bJ)),sI j,.sh (aO t)],rfl,.inl ?_,W++Z,_,rfl,h1,⟨Z,rfl⟩,λu hu=>?_⟩
   ·unfold dq;rw[nL (qz rfl rfl hc)];rfl
   ·rcases Yv.1 hu with hu|hu
    ·exact h3 u hu
    ·rw[Yp.1 hu];exact hm
  ·rw[YB hm] at hc;have h4:WOk k p s ((W++Z)++[(t,D.int (j:Int))]):=h1.snoc (by rw[aaz (Yx.1 hj).1];exact hj) ht1 ht2 hm;have hl:((W++Z).map (·.1)).length<a9:=cV (by rw[Ye];lia);have hl1:((W++Z).map c9).length<a9:=cV (by rw[Ye];lia);have hl4:(3+1:Nat)<=a9:=aE ();refine⟨[sP p,s1,s2,dQ ((W++Z).map c9),.ow (.dic (((W++Z).map (·.1)).map bJ)),sI j,.sh (aO t)],[sP p,s1,s2,dQ (((W++Z)++[(t,D.int (j:Int))]).map c9),.ow (.dic ((((W++Z)++[(t,D.int (j:Int))]).map (·.1)).map bJ)),sI j,.sh (aO t)],rfl,.inl ?_,(W++Z)++[(t,D.int (j:Int))],_,rfl,h4,⟨Z++[(t,D.int (j:Int))],by simp⟩,λu hu=>?_⟩
   ·have e1:jc (((W++Z).map (·.1)).map bJ) (bJ t)=(((W++Z)++[(t,D.int (j:Int))]).map (·.1)).map bJ:=by
     unfold jc;rw[hc,X9 (by decide),YX (l₁:=W++Z),YX (l₁:=(W++Z).map (·.1))];rfl
    have e2:((W++Z)++[(t,D.int (j:Int))]).map c9=(W++Z).map c9++[.tup [.int t.1,.int t.2.1,.int t.2.2,.int j]]:=by rw[YX];rfl
    rw[e2,<-e1];generalize (W++Z).map c9=es at hl1;generalize (W++Z).map (·.1)=ts at hc hl;have hl':(ts.map bJ).length<a9:=by rw[Ye];exact hl
    have hl2:(es.map O.sh).length<a9:=by rw[Ye];exact hl1
    unfold dq;rw[qJ (qz rfl rfl hc),aC (ρ':=[sP p,s1,s2,dQ es,.ow (.dic (jc (ts.map bJ) (bJ t))),sI j,.sh (aO t)]) (by
     show (if (ts.map bJ).length<a9 then _ else _)=_;rw[Yb hl']
     rfl)]
    simp[a6,hl4,hl1]
   ·rw[YX];rcases Yv.1 hu with hu|hu
    ·exact YD _ (h3 u hu)
    ·rw[Yp.1 hu];simp)
 exact⟨W',v6',k1,h1,h2,h3⟩
def E2(c:aJ p){t:bD}(h:t∈am p):t.2.1<=t.2.2:=by obtain⟨g,hg,hs⟩:=Y8.1 h;obtain⟨z,hz,rfl⟩:=Ym.1 hs;exact (c.1 g hg).1.1 z hz
structure IsWalk(k:Int)(p:bG)(s:bD)(W:Wk):Prop extends WOk k p s W where
 all:∀t,t∈W.map (·.1)↔Eu.Con k (am p) s t
def vD{k:Int}(hk:0<=k)(p:bG)(c:aJ p)(hp:p.length<=400)(hn:(am p).length<=400)(s:bD)(hs:s∈am p):∃W:Wk,tf [aQ p,aO s,.int k]=some (.lst (W.map c9))/\IsWalk k p s W:=by
 have hq:∀q∈p,q.2.length<=400:=λq hq=>Yr (bC hq) hn;have hl4:(3+1:Nat)<=a9:=aE ()
 obtain⟨ρ',k1,W,v5,v6,rfl,o,hcl⟩:=pI (c:=dr) (m:=eO)
  (λρ=>∃(W:Wk) (j:Nat) (v6:Sl),ρ=[sP p,.sh (aO s),sI k,dQ (W.map c9),.ow (.dic ((W.map (·.1)).map bJ)),sI j,v6]/\WOk k p s W/\j<=W.length/\∀(i:Nat) w,i<j->W[i]?=some w->∀t∈vQ k p w.1,t∈W.map (·.1))
  (λρ=>match ρ with|[_,_,_,_,_,.sh (.int j),_]=>((am p).length-j).toNat|_=>0)
  (λρ=>∃(W:Wk) (v5 v6:Sl),ρ=[sP p,.sh (aO s),sI k,dQ (W.map c9),.ow (.dic ((W.map (·.1)).map bJ)),v5,v6]/\WOk k p s W/\∀w∈W,∀t∈vQ k p w.1,t∈W.map (·.1))
  (by
   rintro _ ⟨W,j,v6,rfl,o,hj,hcl⟩;have hle:=o.le hs;by_cases hlt:j<W.length
   ·right;have hlt':(j:Int)<W.length:=()
    have hw:W[j]?=some W[j]:=YS hlt;have ea:cF (W.map c9) (j:Int)=some (c9 W[j]):=dB (by rw[YG,hw];rfl);obtain⟨W',v6',h1,h2,⟨Z,rfl⟩,h3⟩:=Fa p c s hs hn (.sh (aO s)) (.sh (.int k)) v6 W j W[j] hw o;have hwm:=(o.con _ (aaP hw)).mem hs;have ht:=xr hk p c hp hq W[j].1 (E2 c hwm) [W[j].2];refine⟨by simp[dr,hlt,hlt'],[sP p,.sh (aO s),sI k,dQ ((W++Z).map c9),.ow (.dic (((W++Z).map (·.1)).map bJ)),sI ((j+1:Nat):Int),v6'],?_,⟨W++Z,j+1,v6',rfl,h2,by rw[Yl];lia,λi w hi hw' t ht'=>?_⟩,by dsimp only;lia⟩
    ·unfold eO;rw[aC (ρ':=[sP p,.sh (aO s),sI k,dQ ((W++Z).map c9),.ow (.dic (((W++Z).map (·.1)).map bJ)),sI j,v6']) (by
      have hcall:(fb (aq k7 (af (ak 0) (af (az bL (ag 3) (ag 5)) (af (ak 2) aj))))) [sP p,.sh (aO s),sI k,dQ (W.map c9),.ow (.dic ((W.map (·.1)).map bJ)),sI j,v6]=some ((vQ k p W[j].1).map aO):=by simp[ea,ht,sr]
      unfold dS;rw[hcall]
      exact h1)]
     simp[uQ,dI]
    ·by_cases hij:i<j
     ·rw[aaz ()] at hw';rw[YX];exact YD _ (hcl i w hij hw' t ht')
     ·have:i=j:=()
      subst this;rw[aaz hlt,hw] at hw';cases hw';exact h3 t ht'
   ·left;have hlt':¬(j:Int)<W.length:=()
    refine⟨by simp[dr,hlt,hlt'],W,_,_,rfl,o,λw hw t ht=>?_⟩;obtain⟨i,hi⟩:=aaC hw
    exact hcl i w (by have:=(Yx.1 hi).1;lia) hi t ht)
  [sP p,.sh (aO s),sI k,dQ ([(s,D.non)].map c9),.ow (.dic ((([(s,D.non)]:Wk).map (·.1)).map bJ)),sI 0,.un]
  ⟨[(s,.non)],0,.un,rfl,⟨by simp,⟨.non,rfl⟩,λw hw=>by rw[Yp.1 hw];exact .refl⟩,by simp,λi _ hi=>absurd hi (abX _)⟩
 refine⟨W,?_,o,λt=>⟨λht=>?_,λht=>?_⟩⟩
 ·have hd:Dw (ak 1) [sP p,.sh (aO s),sI k,dQ ([(s,D.non)].map c9),.un,.un,.un]=some (.dic [bJ s]):=by
   simp only[Dw,ak,aab,aaY,abC,Ec,Option.map_some]
  have k1':cO dr eO [sP p,.sh (aO s),sI k,dQ ([(s,D.non)].map c9),.ow (.dic [bJ s]),sI 0,.un]=_:=k1;have h1:ft [sP p,.sh (aO s),sI k,.un,.un,.un,.un]=some (.ro (.lst ((W.map c9).map O.sh))):=by unfold ft;rw[aC (ρ':=[sP p,.sh (aO s),sI k,dQ ([(s,D.non)].map c9),.un,.un,.un]) (by simp[a6,hl4]),aC (ρ':=[sP p,.sh (aO s),sI k,dQ ([(s,D.non)].map c9),.ow (.dic [bJ s]),.un,.un]) (by unfold qV;rw[hd];rfl),aC (ρ':=[sP p,.sh (aO s),sI k,dQ ([(s,D.non)].map c9),.ow (.dic [bJ s]),sI 0,.un]) (by simp),aC k1'];simp
  show (br 7 ft _).map O.d=_;unfold br;have h2:([aQ p,aO s,.int k].map Sl.sh++List.replicate (7 - [aQ p,aO s,D.int k].length) .un)=[sP p,.sh (aO s),sI k,.un,.un,.un,.un]:=rfl;rw[h2,h1];simp
 ·obtain⟨w,hw,rfl⟩:=Ym.1 ht;exact o.con w hw
 ·induction ht with
  |refl=>
   obtain⟨d,hd⟩:=o.hd;exact Ym.2 ⟨_,aaP hd,rfl⟩
  |step h1 h2 h3 ih=>obtain⟨w,hw,rfl⟩:=Ym.1 ih;exact hcl w hw _ ((Ci c _ _).mpr ⟨h3,h2⟩)
def xj(ks:Zm)(a q:Zn):(jc ks a).contains q=(ks.contains q || q==a):=by
 unfold jc;cases h:ks.contains a with
 |true=>
  rw[Yb rfl];by_cases e:q=a
  ·subst e;rw[h];rfl
  ·have:(q==a)=false:=by simpa using e
   rw[this,Bool.or_false]
 |false=>rw[X9 (by decide),aeP,aeP,List.any_append];simp
theorem md(q:Zn):∀(qs ks:Zm),(qs.foldl jc ks).contains q=(ks.contains q || qs.contains q)
 |[],ks=>by simp
 |a::qs,ks=>#v[YQ,md q qs (jc ks a),xj,acI,Bool.or_assoc]
theorem ya:∀(qs ks:Zm),(qs.foldl jc ks).length<=ks.length+qs.length
 |[],ks=>by simp
 |a::qs,ks=>by
  have h:=ya qs (jc ks a);have h2:(jc ks a).length<=ks.length+1:=by unfold jc;split<;>simp
  rw[YQ,Yk];lia
theorem wc:∀W:Wk,iW (W.map λw=>D.tup [aO w.1,.bl true])=some ((W.map (·.1)).map bJ)
 |[]=>rfl
 |w::W=>by rw[Yo,iW,Ec,wc W];rfl
abbrev aI(W:Wk):D:=.lst (W.map c9)
abbrev nP(Ws:List Wk):List (List bD):=Ws.map λW=>W.map (·.1)
noncomputable abbrev IY:=aL (ao (ah 0) (ao (ah 1) GO))
def lI{k:Int}(hk0:0<=k)(p:bG)(c:aJ p)(hp:p.length<=160)(hn:(am p).length<=160):∃Ws:List Wk,hZ [aQ p,.int k]=some (.lst (Ws.map aI))/\Ws.length<=160/\(∀W∈Ws,∃s∈am p,IsWalk k p s W)/\Eu.Fam k (am p) (nP Ws):=by
 have hS:=bH p ()
 obtain⟨ρ',k1,Ws,ks,v4,rfl,_,_,hl,hW,hd,ha⟩:=aY (g:=ah 4) (m:=dW) aO (λpre ρ=>∃(Ws:List Wk) (ks:Zm) (v4:Sl),ρ=[sP p,sI k,dQ (Ws.map aI),.ow (.dic ks),v4]/\ks.length<=160*pre.length /\
   (∀t,ks.contains (bJ t)=true↔∃W∈Ws,t∈W.map (·.1))/\Ws.length<=pre.length/\(∀W∈Ws,∃s∈am p,IsWalk k p s W)/\Ws.Pairwise (λV W=>∀t∈V.map (·.1),t∉W.map (·.1))/\∀t∈pre,∃W∈Ws,t∈W.map (·.1)) (am p) [sP p,sI k,.ow (.lst []),.ow (.dic []),.un]
  ⟨[],[],_,rfl,by simp,λt=>⟨λh=>by simp at h,λ⟨W,h,_⟩=>by cases h⟩,Yi _,λ_ h=>(by cases h),.nil,λ_ h=>(by cases h)⟩ (by
  rintro pre s post _ e ⟨Ws,ks,v4,rfl,hk,hcon,hl,hW,hd,ha⟩;have ZQ:pre.length<(am p).length:=by rw[e];simp
  have hsm:s∈am p:=by rw[e];simp
  have el:(pre++[s]).length=pre.length+1:=by rw[Yl];rfl
  by_cases hm:∃W∈Ws,s∈W.map (·.1)
  ·have hc:=(hcon s).mpr hm;refine⟨_,[sP p,sI k,dQ (Ws.map aI),.ow (.dic ks),.sh (aO s)],rfl,.inl ?_,Ws,ks,_,rfl,by rw[el];lia,hcon,by rw[el];lia,hW,hd,λt ht=>?_⟩
   ·unfold dW;show lX _ _ _ [sP p,sI k,dQ (Ws.map aI),.ow (.dic ks),.sh (aO s)]=_;rw[nL (qz rfl rfl hc)];rfl
   ·rcases Yv.1 ht with ht|ht
    ·exact ha t ht
    ·rw[Yp.1 ht];exact hm
  ·have hc:ks.contains (bJ s)=false:=by
    cases q:ks.contains (bJ s) with
    |false=>rfl
    |true=>exact absurd ((hcon s).mp q) hm
   obtain⟨V,w1,w2⟩:=vD hk0 p c () () s hsm;have wl:=w2.toWOk.le hsm;have hl1:((Ws.map aI).map O.sh).length<a9:=cV (by rw[Ye,Ye];lia);have hl2:V.length<=a9:=aE ();have hl3:ks.length+V.length<a9:=cV ();refine⟨_,[sP p,sI k,dQ ((Ws++[V]).map aI),.ow (.dic (((V.map (·.1)).map bJ).foldl jc ks)),.sh (aO s)],rfl,.inl ?_,Ws++[V],_,_,rfl,?_,λt=>?_,by rw[el,Yl];simp;lia,λW hw=>?_,?_,λt ht=>?_⟩
   ·unfold dW;have e2:(Ws++[V]).map aI=Ws.map aI++[aI V]:=by rw[YX];rfl
    rw[e2];generalize Ws.map aI=es at hl1;show lX _ _ _ [sP p,sI k,dQ es,.ow (.dic ks),.sh (aO s)]=_;rw[qJ (qz rfl rfl hc),aC (ρ':=[sP p,sI k,dQ (es++[aI V]),.ow (.dic ks),.sh (aO s)]) (by
     rw[Ye] at hl1
     simp[w1,hl1])]
    have hcomp:aX [none,none,none,none] (fb (az bL (ag 2) (DG ml (xC (.int 1))))) IY bA (aV (af (aV Ff) (af (xC (.bl true)) aj))) [sP p,sI k,dQ (es++[aI V]),.ow (.dic ks),.sh (aO s)]=some (V.map λw=>D.tup [aO w.1,.bl true]):=by
     have hc2:a8 IY bA (aV (af (aV Ff) (af (xC (.bl true)) aj))) [.un,.un,.un,.un] (V.map c9)=some (V.map λw=>D.tup [aO w.1,.bl true]):=aW c9 _ V λw _=>by simp[cY]
     have at1:cF (es++[aI V]) (-1)=some (aI V):=me _ _;simp[at1,sr,hl2,hc2]
    unfold GN;rw[hcomp];show ((iW (V.map λw=>D.tup [aO w.1,.bl true])).bind _)=_;rw[wc];show (if ks.length+(V.map λw=>D.tup [aO w.1,.bl true]).length<a9 then _ else _)=_;rw[Ye,Yb hl3];rfl
   ·have:=ya ((V.map (·.1)).map bJ) ks;rw[Ye,Ye] at this;rw[el];lia
   ·rw[md,ads,hcon t,oh,YO];constructor
    ·rintro (⟨W,h1,h2⟩|h)
     ·exact⟨W,YD _ h1,h2⟩
     ·exact⟨V,by simp,h⟩
    ·rintro⟨W,h1,h2⟩;rcases Yv.1 h1 with h1|h1
     ·exact .inl ⟨W,h1,h2⟩
     ·rw[Yp.1 h1] at h2;exact .inr h2
   ·rcases Yv.1 hw with hw|hw
    ·exact hW W hw
    ·rw[Yp.1 hw];exact⟨s,hsm,w2⟩
   ·refine YW.2 ⟨hd,ab7 _ _,λA hA B hB t h1 h2=>?_⟩;rw[Yp.1 hB] at h2;obtain⟨s0,h3,h4⟩:=hW A hA;exact hm ⟨A,hA,(h4.all s).mpr (((h4.all t).mp h1).trans (((w2.all t).mp h2).symm hsm))⟩
   ·rcases Yv.1 ht with ht|ht
    ·obtain⟨W,h1,h2⟩:=ha t ht;exact⟨W,YD _ h1,h2⟩
    ·rw[Yp.1 ht];exact⟨V,by simp,(w2.all s).mpr .refl⟩)
 refine⟨Ws,by simp[hZ,jI,br,g8,hS,sr,k1],(),hW,λW hw=>?_,aaa.2 hd,λt ht=>?_⟩
 ·obtain⟨V,h1,rfl⟩:=Ym.1 hw;obtain⟨s,h2,h3⟩:=hW V h1;exact⟨s,h2,h3.all⟩
 ·obtain⟨V,h1,h2⟩:=ha t ht;exact⟨_,Ym.2 ⟨V,h1,rfl⟩,h2⟩
def lS(q:Int×R):Bool:=!decide (q.2=[])
theorem zC:∀l:bG,l.filterMap (λq=>if q.2=[] then none else some (d9 q))=(l.filter lS).map d9
 |[]=>rfl
 |q::l=>by
  by_cases h:q.2=[]
  ·simp[h,lS,<-zC l]
  ·simp[h,lS,<-zC l]
def gL(l:bG)(h:l.length<=30000):dM [.lst (l.map d9)]=some (aQ (l.filter lS)):=by
 have hl:l.length<=a9:=aE ();have hf:=aaG lS l;have hl2:(l.filter lS).length<=a9:=aE ();have hc:a8 kA (xB (az (jd true) (ag 1) (aV aj))) (aV zh) [.un,.un] (l.map d9)=some ((l.filter lS).map d9):=by
  rw[cc d9 (λq=>if q.2=[] then none else some (d9 q)) l,zC];intro q _;have d:jd true (aZ q.2) (.tup [])=some (.bl (!decide (q.2=[]))):=FD true q.2 [];by_cases hq:q.2=[]
  ·simp[hq] at d;simp[cY,hq,d]
  ·simp[hq] at d;simp[cY,hq,d]
 simp[dM,fi,br,dE,hl,hc,hl2]
def gt(r:R)(k:Nat):Int×Int:=r.getD k (0,0)
def J5{r:R}{k:Nat}(h:k<r.length):r[k]?=some (gt r k):=by rw[YS h];simp[gt,h]
def Ve(r:R)(k:Nat):Int×Int:=((gt r k).2+1,(gt r (k+1)).1-1)
def cU(r:R):R:=(List.range (r.length-1)).map (Ve r)
noncomputable abbrev Us:=aV (af (az a6 (az bL (az bL (ag 1) (ag 0)) (xC (.int 1))) (xC (.int 1))) (af (az gI (az bL (az bL (ag 1) (az a6 (ag 0) (xC (.int 1)))) (xC (.int 0))) (xC (.int 1))) aj))
def JX(r:R):a8 (ah 0) bA Us [.un,.sh (aZ r)] ((List.range (r.length-1)).map λk:Nat=>D.int (k:Int))=some ((cU r).map aM):=by
 have:a8 (ah 0) bA Us [.un,.sh (aZ r)] ((List.range (r.length-1)).map λk:Nat=>D.int (k:Int))=some ((List.range (r.length-1)).map λk=>aM (Ve r k)):=aW (λk:Nat=>D.int (k:Int)) _ (List.range (r.length-1)) λk hk=>by
  have hk':=YM.1 hk;have b1:=Ba (J5 (r:=r) (k:=k) ());have b2:=Ba (J5 (r:=r) (k:=k+1) ());have e:((k+1:Nat):Int)=(k:Int)+1:=()
  rw[e] at b2;simp[cY,b1,b2,Ve]
 rw[this];unfold cU;rw[YE];rfl
def Ny(r:R)(h:r.length<=1000):Ot [.int ((r.length:Int)-1)]=some ((List.range (r.length-1)).map λk:Nat=>D.int (k:Int)):=#v[Uo (),show ((r.length:Int)-1).toNat=r.length-1 by lia,BW]
def BP(r:R):(cU r).length<=r.length:=by unfold cU;rw[Ye,ack];lia
def xp(r:R)(h:r.length<=1000):kZ [aZ r]=some (aZ (cU r)):=by
 have hg:=BP r;have hl:(cU r).length<=a9:=aE ();have hl2:r.length-1<=a9:=aE ();have hc:=JX r;try simp at hc
 simp[kZ,mJ,br,kN,Ny r h,hc,hl,hl2]
def DD(p:bG):bG:=p.map λq=>(q.1,cU q.2)
def mF(p:bG)(h:p.length<=1000)(hr:∀q∈p,q.2.length<=1000):dJ [aQ p]=some (aQ ((DD p).filter lS)):=by
 have hl:p.length<=a9:=aE ();have hc:a8 kA bA (aV (af (ak 0) (af (aq kZ (af (ak 1) aj)) aj))) [.un,.un] (p.map d9)=some ((DD p).map d9):=by
  unfold DD;rw[YE];exact aW d9 (λq=>d9 (q.1,cU q.2)) p λq hq=>by have a:=xp q.2 (hr q hq);simp[cY,a]
 have hm:=gL (DD p) (by unfold DD;rw[Ye];lia);have hl2:(DD p).length<=a9:=by unfold DD;rw[Ye];exact hl
 simp[dJ,fh,br,dD,hl,hl2,hc,hm]
theorem lz:∀p:bG,am (p.filter lS)=am p
 |[]=>rfl
 |q::p=>by
  rw[Y7];by_cases h:q.2=[]
  ·have:lS q=false:=by simp[lS,h]
   rw[this,bz,h];exact lz p
  ·have:lS q=true:=by simp[lS,h]
   rw[this,Yb rfl,bz,bz,lz p]
theorem qO:∀p:bG,(am (DD p)).length<=(am p).length
 |[]=>Yi _
 |q::p=>by have h1:=qO p;have h2:=BP q.2;unfold DD at h1 ⊢;rw[Yo,bz,bz,Yl,Yl,Ye,Ye];dsimp only;lia
def f9(r:R)(a b:Int):Bool:=match r.head?,r.getLast? with
 |some p,some q=>decide (p.1<=a)&&decide (b<=q.2)
 |_,_=>false
def eG(p:bG)(g:bD):Bool:=!(f9 (aK p (g.1-1)) g.2.1 g.2.2&&f9 (aK p (g.1+1)) g.2.1 g.2.2)
def EZ(p:Int×Int)(t:R)(q:Int×Int)(a b:Int)(h:(p::t).getLast?=some q):f9 (p::t) a b=(decide (p.1<=a)&&decide (b<=q.2)):=by unfold f9;rw[h];rfl
def LG{r:R}(h:r≠[]):∃p q,r.head?=some p/\r.getLast?=some q/\cF (r.map aM) 0=some (aM p)/\cF (r.map aM) (-1)=some (aM q):=by
 rcases aaZ r with e|⟨t,q,e⟩
 ·exact absurd e h
 ·rw[aa0] at e;subst e;refine⟨(t++[q]).head h,q,aeQ h,by simp,?_,by rw[YX];exact me _ _⟩;refine dB (j:=0) ?_;rw[YG,<-List.head?_eq_getElem?,aeQ h];rfl
def p9(s0 s1:Sl)(r:R)(a b:Int):bj [s0,s1,sI a,sI b,.sh (aZ r)]=if f9 r a b=true then some (.nx [s0,s1,sI a,sI b,.sh (aZ r)]) else some (.rt (.bl true)):=by
 have d:jd false (aZ r) (.tup [])=some (.bl (decide (r=[]))):=FD false r [];by_cases hr:r=[]
 ·subst hr;have d2:jd false (aZ []) (.tup [])=some (.bl true):=d;simp[bj,f9,d2]
 ·obtain⟨p,q,h1,h2,h3,h4⟩:=LG hr;have es:f9 r a b=(decide (p.1<=a)&&decide (b<=q.2)):=by unfold f9;rw[h1,h2]
  rw[es];rw[YB hr] at d;by_cases c1:p.1<=a
  ·by_cases c2:b<=q.2
   ·have n1:¬a<p.1:=()
    have n2:¬q.2<b:=()
    simp[bj,d,h3,h4,c1,c2,n1,n2]
   ·have n1:¬a<p.1:=()
    have n2:q.2<b:=()
    simp[bj,d,h3,h4,c1,c2,n1,n2]
  ·have n1:a<p.1:=()
   simp[bj,d,h3,h4,c1,n1]
noncomputable abbrev P8:=aV (af (aq de (af (ak 0) (af (az gI (ag 1) (xC (.int 1))) aj))) (af (aq de (af (ak 0) (af (az a6 (ag 1) (xC (.int 1))) aj))) aj))
def zT(p:bG)(c:aJ p)(hp:p.length<=1000)(y a b:Int):j7 [aQ p,.int y,.int a,.int b]=some (.bl (eG p (y,a,b))):=by
 have r1:=gK p (y-1) c ();have r2:=gK p (y+1) c ();have t1:=p9 (.sh (aQ p)) (.sh (.int y)) (aK p (y-1)) a b;have t2:=p9 (.sh (aQ p)) (.sh (.int y)) (aK p (y+1)) a b;have hl2:(2:Nat)<=a9:=aE ();have e:∀ρ,fb P8 (.sh (aQ p) :: .sh (.int y)::ρ)=some [aZ (aK p (y-1)),aZ (aK p (y+1))]:=λρ=>by simp[r1,r2,hl2,sr]
 have l2:bR (ah 4) bj [aZ (aK p (y+1))] [sP p,sI y,sI a,sI b,.sh (aZ (aK p (y-1)))]=if f9 (aK p (y+1)) a b=true then some (.nx [sP p,sI y,sI a,sI b,.sh (aZ (aK p (y+1)))]) else some (.rt (.bl true)):=by
  rw[d8];show (match bj [sP p,sI y,sI a,sI b,.sh (aZ (aK p (y+1)))] with|some (.nx ρ2)=>_|some (.ct ρ2)=>_|some (.bk ρ2)=>_|some (.rt d)=>_|some (.ro d)=>_|none=>_)=_;rw[t2];by_cases h2:f9 (aK p (y+1)) a b=true
  ·rw[Yb h2];rfl
  ·rw[X9 h2]
 have l1:bR (ah 4) bj [aZ (aK p (y-1)),aZ (aK p (y+1))] [sP p,sI y,sI a,sI b,.un]=if f9 (aK p (y-1)) a b=true then (if f9 (aK p (y+1)) a b=true then some (.nx [sP p,sI y,sI a,sI b,.sh (aZ (aK p (y+1)))]) else some (.rt (.bl true))) else some (.rt (.bl true)):=by
  rw[d8];show (match bj [sP p,sI y,sI a,sI b,.sh (aZ (aK p (y-1)))] with|some (.nx ρ2)=>_|some (.ct ρ2)=>_|some (.bk ρ2)=>_|some (.rt d)=>_|some (.ro d)=>_|none=>_)=_;rw[t1];by_cases h1:f9 (aK p (y-1)) a b=true
  ·rw[Yb h1,Yb h1];exact l2
  ·rw[X9 h1,X9 h1]
 have hX:im [sP p,sI y,sI a,sI b,.un]=some (.rt (.bl (eG p (y,a,b)))):=by
  have hf:dS (fb P8) (ah 4) bj [sP p,sI y,sI a,sI b,.un]=bR (ah 4) bj [aZ (aK p (y-1)),aZ (aK p (y+1))] [sP p,sI y,sI a,sI b,.un]:=by unfold dS;rw[e];rfl
  rw[l1] at hf;unfold im eG;cases h1:f9 (aK p (y-1)) a b with
  |true=>
   rw[h1,Yb rfl] at hf;cases h2:f9 (aK p (y+1)) a b with
   |true=>
    rw[h2,Yb rfl] at hf;rw[aC hf];simp[h1,h2]
   |false=>
    rw[h2,X9 (by decide)] at hf;unfold aG;rw[hf];simp[h1,h2]
  |false=>rw[h1,X9 (by decide)] at hf;unfold aG;rw[hf];simp[h1]
 show (br 5 im _).map O.d=_;unfold br;have hh:([aQ p,.int y,.int a,.int b].map Sl.sh++List.replicate (5 - [aQ p,D.int y,.int a,.int b].length) .un)=[sP p,sI y,sI a,sI b,.un]:=rfl;rw[hh,hX];simp
def JZ(p:Int×Int):cU [p]=[]:=rfl
def j6(p q:Int×Int)(t:R):cU (p::q::t)=(p.2+1,q.1-1)::cU (q::t):=by unfold cU;simp only[Yk,aep];rw[aeJ,Yo,YE];rfl
theorem zI:∀(r:R) (p:Int×Int),cb (p::r)->∀g∈cU (p::r),p.2+1<=g.1
 |[],p,_,g,h=>by rw[JZ] at h;cases h
 |q::t,p,c,g,h=>by
  obtain⟨c1,c2,c3⟩:=Zp.1 c;rw[j6] at h;rcases Yj.1 h with rfl|h
  ·exact Yw _
  ·have h1:=zI t q c3 g h;have h2:=c2 q Yg;have h3:=(Zp.1 c3).1;lia
theorem u0:∀(r:R) (p:Int×Int),cb (p::r)->cb (cU (p::r))
 |[],p,_=>j4
 |q::t,p,c=>by obtain⟨c1,c2,c3⟩:=Zp.1 c;rw[j6];have h2:=c2 q Yg;refine Zp.2 ⟨by dsimp only;lia,λg hg=>?_,u0 t q c3⟩;have h1:=zI t q c3 g hg;have h3:=(Zp.1 c3).1;dsimp only;lia
def BO(c:cb r):cb (cU r):=by
 cases r with
 |nil=>exact j4
 |cons p r=>exact u0 r p c
def lR(p:bG):bG:=(DD p).filter lS
def oX(c:aJ p):aJ (lR p):=by
 unfold lR DD;refine⟨λq hq=>?_,?_⟩
 ·obtain⟨h1,h2⟩:=YC.1 hq;obtain⟨s,hs,rfl⟩:=Ym.1 h1;exact⟨BO (c.1 s hs).1,by simpa[lS] using h2⟩
 ·refine List.Pairwise.sublist abi ?_;rw[aaa];exact c.2
def wX(p:bG):am (lR p)=am (DD p):=lz _
theorem sQ{α:Type}(f:α->Bool):∀l:List α,hJ (l.map λa=>D.bl (f a))=some (l.map f)
 |[]=>rfl
 |a::l=>by rw[Yo,hJ,sQ f l];rfl
theorem BG(f:Wk->Bool):∀l:List Wk,l.filterMap (λW=>if f W=true then some (aI W) else none)=(l.filter f).map aI
 |[]=>rfl
 |W::l=>by rw[YJ,Y7,BG f l];cases h:f W<;>simp
def gX(p:bG)(W:Wk):Bool:=!(W.any λw=>eG p w.1)
noncomputable abbrev MR:=aX [none,none,none,none,some 1] (fb (ag 0)) IY bA (aq j7 (af (ak 4) Ff))
def yr(p:bG)(c:aJ p)(hp:p.length<=160)(hn:(am p).length<=160):∃Ws:List Wk,qt [aQ p]=some (.lst ((Ws.filter (gX p)).map aI))/\Ws.length<=160/\(∀W∈Ws,W.length<=160)/\Eu.Fam 0 (am (lR p)) (nP Ws):=by
 have cg:=oX c;have hgl:(lR p).length<=160:=by
  have h1:=aaG lS (DD p);have h2:(DD p).length=p.length:=by unfold DD;rw[Ye]
  unfold lR;lia
 have hgn:(am (lR p)).length<=160:=by rw[wX];have:=qO p;lia
 have hpg:dJ [aQ p]=some (aQ (lR p)):=mF p () λq hq=>by have:=bC hq;lia
 obtain⟨Ws,hcl,wlen,hw,fam⟩:=lI (Yw 0) (lR p) cg hgl hgn;have wok:∀W∈Ws,W.length<=160:=λW hW=>by obtain⟨s,h1,h2⟩:=hw W hW;have:=h2.toWOk.le h1;lia
 refine⟨Ws,?_,wlen,wok,fam⟩;have hl:Ws.length<=a9:=aE ();have inner:∀W∈Ws,jT DK (af (xL MR) aj) [.sh (aI W),sP p]=some (.bl (W.any λw=>eG p w.1)):=λW hW=>by
  have hl1:W.length<=a9:=aE (by have:=wok W hW;lia);have hc:a8 IY bA (aq j7 (af (ak 4) Ff)) [.un,.un,.un,.un,sP p] (W.map c9)=some (W.map λw=>D.bl (eG p w.1)):=aW c9 _ W λw _=>by have h:=zT p c () w.1.1 w.1.2.1 w.1.2.2;simp[cY,h]
  have z:aX [none,none,none,none,some 1] (fb (ag 0)) IY bA (aq j7 (af (ak 4) Ff)) [.sh (aI W),sP p]=some (W.map λw=>D.bl (eG p w.1)):=by
   have z1:fb (ag 0) [.sh (aI W),sP p]=some (W.map c9):=by simp[sr]
   unfold aX;rw[z1];show (if (W.map c9).length<=a9 then _ else _)=_;rw[Ye,Yb hl1];exact hc
  have z2:af (xL MR) aj [.sh (aI W),sP p]=some [.lst (W.map λw=>D.bl (eG p w.1))]:=Yt (λo=>(o.map D.lst).bind λx=>some [x]) z;unfold jT;rw[z2];show ((hJ (W.map λw=>D.bl (eG p w.1))).map _)=_;rw[sQ];show some (D.bl ((W.map λw=>eG p w.1).any id))=_;rw[List.any_map];rfl
 have hc2:a8 (ah 0) (qW (ik (jT DK (af (xL MR) aj)))) (ak 0) [.un,sP p] (Ws.map aI)=some ((Ws.filter (gX p)).map aI):=by
  rw[cc aI (λW=>if gX p W=true then some (aI W) else none) Ws,BG];intro W hW;have h:=inner W hW;have ht:qW (ik (jT DK (af (xL MR) aj))) [.sh (aI W),sP p]=some (gX p W):=by unfold qW ik;rw[h];rfl
  show ((qW (ik _) [.sh (aI W),sP p]).bind λb=>if b=true then (ak 0 [.sh (aI W),sP p]).map some else some none)=_;rw[ht];cases gX p W<;>rfl
 have hX:nc [sP p,.un]=some (.ro (.lst (((Ws.filter (gX p)).map aI).map O.sh))):=by
  unfold nc;rw[aC (ρ':=[sP p,.sh (.lst (Ws.map aI))]) (by simp[hpg,hcl])];have z:aX [none,some 0] (fb (ag 1)) (ah 0) (qW (ik (jT DK (af (xL MR) aj)))) (ak 0) [sP p,.sh (.lst (Ws.map aI))]=some ((Ws.filter (gX p)).map aI):=by
   have z1:fb (ag 1) [sP p,.sh (.lst (Ws.map aI))]=some (Ws.map aI):=by simp[sr]
   unfold aX;rw[z1];show (if (Ws.map aI).length<=a9 then _ else _)=_;rw[Ye,Yb hl];exact hc2
  unfold zf Se;rw[z];rfl
 show (br 2 nc _).map O.d=_;unfold br;have hh:([aQ p].map Sl.sh++List.replicate (2 - [aQ p].length) .un)=[sP p,.un]:=rfl;rw[hh,hX];simp
def Cb(p:bG)(t:bD):t∈am (lR p)↔∃g∈p,t.1=g.1/\t.2∈cU g.2:=by
 rw[wX];unfold DD;constructor
 ·intro h;obtain⟨q,hq,hs⟩:=Y8.1 h;obtain⟨z,hz,rfl⟩:=Ym.1 hs;obtain⟨g,hg,rfl⟩:=Ym.1 hq;exact⟨g,hg,rfl,hz⟩
 ·rintro⟨g,hg,h1,h2⟩;exact Y8.2 ⟨_,Ym.2 ⟨g,hg,rfl⟩,Ym.2 ⟨t.2,h2,by rw[<-h1]⟩⟩
def MH(p:bG)(W:Wk):gX p W = !((W.map (·.1)).any (eG p)):=by unfold gX;rw[List.any_map];rfl
def vA(r:R)(h:r.length<=30000):jx [aZ r]=some (.int (count r)):=by
 have hl:r.length<=a9:=aE ();have hc:a8 kA bA (az a6 (az gI (ag 1) (ag 0)) (xC (.int 1))) [.un,.un] (r.map aM)=some (r.map λp=>.int (p.2-p.1+1)):=aW aM _ r λp _=>by simp[cY]
 have hi:zr [.lst (r.map λp=>.int (p.2-p.1+1))]=some (.int (count r)):=by
  have e:(r.map λp=>D.int (p.2-p.1+1))=(r.map λp=>p.2-p.1+1).map D.int:=by rw[YE];rfl
  rw[e];show (aR _).map _=_;rw[d7];rfl
 simp[jx,k9,br,jj,hl,hc,hi]
def O7(p:bG):Int:=(p.map λq=>count q.2).sum
def xS(ts:List bD):Int:=(ts.map λt=>t.2.2-t.2.1+1).sum
def gf(p:bG)(h:p.length<=30000)(hr:∀q∈p,q.2.length<=30000):bO [aQ p]=some (.int (O7 p)):=by
 have hl:p.length<=a9:=aE ();have hc:a8 kA bA (aq jx (af (ak 1) aj)) [.un,.un] (p.map d9)=some (p.map λq=>.int (count q.2)):=aW d9 _ p λq hq=>by have:=vA q.2 (hr q hq);simp[cY,this]
 have hi:zr [.lst (p.map λq=>.int (count q.2))]=some (.int (O7 p)):=by
  have e:(p.map λq=>D.int (count q.2))=(p.map λq=>count q.2).map D.int:=by rw[YE];rfl
  rw[e];show (aR _).map _=_;rw[d7];rfl
 simp[bO,iP,br,gv,hl,hc,hi]
def Dj(a b:List bD):xS (a++b)=xS a+xS b:=by unfold xS;rw[YX,adN]
def IE(t:bD)(b:List bD):xS (t::b)=t.2.2-t.2.1+1+xS b:=by unfold xS;rw[Yo,abB]
theorem pU:∀p:bG,O7 p=xS (am p)
 |[]=>rfl
 |q::p=>by rw[bz,Dj,<-pU p];unfold O7;rw[Yo,abB];congr 1;unfold xS count;rw[YE];rfl
def zs(lo:Int):Nat->Zn
 |0=>[]
 |n+1=>lo::zs (lo+1) n
theorem vg:∀(n:Nat) (lo:Int),f8 lo n=(zs lo n).map D.int
 |0,_=>rfl
 |n+1,lo=>#v[f8,zs,Yo,vg n]
theorem Fg:∀(n:Nat) (lo:Int),(zs lo n).length=n
 |0,_=>rfl
 |n+1,lo=>#v[zs,Yk,Fg n]
theorem vJ:∀(n:Nat) (lo x:Int),x∈zs lo n↔lo<=x/\x<lo+n
 |0,lo,x=>by simp[zs]
 |n+1,lo,x=>by rw[zs,Yj,vJ n];lia
def fJ(t:bD):R:=(zs t.2.1 (t.2.2+1-t.2.1).toNat).map λx=>(x,t.1)
def bn(ts:List bD):R:=ts.flatMap fJ
def n9(a b:List bD):bn (a++b)=bn a++bn b:=by unfold bn;rw[aeO]
def gH(t:bD)(b:List bD):bn (t::b)=fJ t++bn b:=rfl
def oP(t:bD):(fJ t).length=(t.2.2+1-t.2.1).toNat:=by unfold fJ;rw[Ye,Fg]
theorem iC:∀ts:List bD,(∀t∈ts,t.2.1<=t.2.2)->((bn ts).length:Int)=xS ts
 |[],_=>rfl
 |t::ts,h=>by rw[gH,Yl,IE,oP];have h1:=iC ts λs hs=>h s (Yn _ hs);have h2:=h t Yg;lia
def iL(ts:List bD)(x y:Int):(x,y)∈bn ts↔lQ ts x y:=by
 unfold bn;rw[Y8];constructor
 ·rintro⟨t,ht,h⟩;obtain⟨z,hz,e⟩:=Ym.1 h;cases e;have:=(vJ _ _ _).mp hz;exact⟨t,ht,rfl,(),()⟩
 ·rintro⟨t,ht,h1,h2,h3⟩;exact⟨t,ht,Ym.2 ⟨x,(vJ _ _ _).mpr ⟨h2,()⟩,#v[h1]⟩⟩
def ko(c:aJ p):∀t∈am p,t.2.1<=t.2.2:=λt ht=>by obtain⟨q,hq,h⟩:=Y8.1 ht;obtain⟨s,hs,rfl⟩:=Ym.1 h;exact (c.1 q hq).1.1 s hs
theorem DB:∀(n:Nat) (lo:Int),(zs lo n).Nodup
 |0,_=>.nil
 |n+1,lo=>by unfold zs;refine YH.2 ⟨λh=>?_,DB n (lo+1)⟩;have:=(vJ n (lo+1) lo).mp h;lia
def zw(t:bD):(fJ t).Nodup:=by unfold fJ;refine aaa.2 ((DB _ _).imp λ{a b} h e=>h ?_);exact (Prod.mk.inj e).1
def vF(t:bD)(x y:Int):(x,y)∈fJ t↔t.1=y/\t.2.1<=x/\x<=t.2.2:=by
 have h:=iL [t] x y;have e:bn [t]=fJ t:=by unfold bn;simp
 rw[e] at h;rw[h];constructor
 ·rintro⟨s,hs,k⟩;rw[Yp.1 hs] at k;exact k
 ·exact λk=>⟨t,Yp.2 rfl,k⟩
def vB(r:R)(by':Int)(h:r.length<=30000):jy [aZ r,.int by']=some (aZ (wJ r by' by')):=by
 have hl:r.length<=a9:=aE ();have hc:a8 kA bA (aV (af (az a6 (ag 0) (ag 2)) (af (az a6 (ag 1) (ag 2)) aj))) [.un,.un,sI by'] (r.map aM)=some (r.map λp=>aM (p.1+by',p.2+by')):=aW aM _ r λp _=>by simp[cY]
 simp[jy,lg,br,jk,hl,hc,wJ]
def F2(p:bG)(dx dy:Int):bG:=p.map λq=>(q.1+dy,wJ q.2 dx dx)
def Eh(p:bG)(dx dy:Int)(h:p.length<=30000)(hr:∀q∈p,q.2.length<=30000):zU [aQ p,.int dx,.int dy]=some (aQ (F2 p dx dy)):=by
 have hl:p.length<=a9:=aE ();have hc:a8 kA bA (aV (af (az a6 (ag 0) (ag 2)) (af (aq jy (af (ak 1) (af (ak 3) aj))) aj))) [.un,.un,sI dy,sI dx] (p.map d9)=some (p.map λq=>d9 (q.1+dy,wJ q.2 dx dx)):=aW d9 _ p λq hq=>by have:=vB q.2 dx (hr q hq);simp[cY,this]
 simp[zU,vO,br,ub,hl,hc,F2]
def Kw(r:R)(d x:Int):Mem (wJ r d d) x↔Mem r (x-d):=by
 rw[Hu];constructor
 ·rintro⟨p,hp,h1,h2⟩;exact⟨p,hp,(),()⟩
 ·rintro⟨p,hp,h1,h2⟩;exact⟨p,hp,(),()⟩
def NT(p:bG)(dx dy x y:Int):cP (F2 p dx dy) x y↔cP p (x-dx) (y-dy):=by
 constructor
 ·rintro⟨q,hq,h1,h2⟩;obtain⟨s,hs,rfl⟩:=Ym.1 hq;dsimp only at h1 h2;exact⟨s,hs,(),(Kw _ _ _).mp h2⟩
 ·rintro⟨s,hs,h1,h2⟩;exact⟨_,Ym.2 ⟨s,hs,rfl⟩,by dsimp only;lia,(Kw _ _ _).mpr h2⟩
abbrev Qa:=Int×Int×Int×Int
abbrev Jp(b:Qa):D:=.tup [.int b.1,.int b.2.1,.int b.2.2.1,.int b.2.2.2]
def KD(p:bG)(dx dy:Int):(am (F2 p dx dy)).length=(am p).length:=by unfold F2 am;rw[aeR,aeR,YE];congr 1;apply acR;intro q _;simp[wJ]
def nI(ts:List bD):(am (cM ts)).length<=ts.length:=by
 have o:=mX ts;have h1:∀gs:bG,(am (gs.map λg=>(g.1,lL g.2))).length<=(gs.map λg=>g.2.length).sum:=by
  intro gs;induction gs with
  |nil=>simp[am]
  |cons g gs ih=>have:=Ig g.2;rw[Yo,bz,Yl,Ye,Yo,abB];dsimp only;lia
 have h2:=h1 (eR (fX (ts.filter cQ)));have h3:=o.len;have h4:=(gm (ts.filter cQ)).length_eq;have h5:=aaG cQ ts;have h6:am (cM ts)=am ((eR (fX (ts.filter cQ))).map λg=>(g.1,lL g.2)):=rfl;rw[h6];lia
def ut(c:aJ p):p.length<=(am p).length:=by
 induction p with
 |nil=>exact Yi _
 |cons q p ih=>obtain⟨⟨_,h1⟩,_,h2⟩:=ZG.1 c;have:=ih h2;have:=aeS.2 h1;rw[bz,Yl,Ye,Yk];lia
def RT(c:aJ p):∀t∈am p,t.2.1<=t.2.2:=by intro t ht;obtain⟨q,hq,h⟩:=Y8.1 ht;obtain⟨s,hs,rfl⟩:=Ym.1 h;exact (c.1 q hq).1.1 s hs
def I9(p q:bG):bG:=cM (am p++am q)
def NH(p q:bG)(x y:Int):cP (I9 p q) x y↔cP p x y\/cP q x y:=by unfold I9;rw[(dh _).2,tF,eY,eY]
def Hq(p q:bG)(h:(am p).length+(am q).length<30000):Ef [aQ p,aQ q]=some (aQ (I9 p q)):=by have h1:=bH p ();have h2:=bH q ();have hl:(am p).length+(am q).length<=a9:=aE ();have hm:=dc (am p++am q) (by rw[Yl];exact h);rw[YX] at hm;simp[Ef,zX,br,zk,h1,h2,ME,hl,hm,I9]
def QS(p q:bG):(am (I9 p q)).length<=(am p).length+(am q).length:=by have:=nI (am p++am q);rwa[Yl] at this
abbrev oO(l u r d:Int):Qa:=(-l,-u,r,d)
def ja(b:Qa)(t:bD):bD:=(t.1+b.2.1,t.2.1+b.1,t.2.2+b.2.2.1)
def MI(c:aJ p){b:Qa}(hb:b.1<=b.2.2.1)(x y:Int):lQ ((am p).map (ja b)) x y↔∃dx,b.1<=dx/\dx<=b.2.2.1/\cP p (x-dx) (y-b.2.1):=by
 constructor
 ·rintro⟨_,ht0,h1,h2,h3⟩;obtain⟨t,ht,rfl⟩:=Ym.1 ht0;have ok:=RT c t ht;simp only[ja] at h1 h2 h3;refine⟨max b.1 (x-t.2.2),(),(),?_⟩;exact (eY _ _ _).mp ⟨t,ht,(),(),()⟩
 ·rintro⟨dx,d1,d2,h⟩;obtain⟨t,ht,h1,h2,h3⟩:=(eY _ _ _).mpr h;exact⟨_,Ym.2 ⟨t,ht,rfl⟩,by simp only[ja];lia,by simp only[ja];lia,by simp only[ja];lia⟩
def E1(p:bG)(c:aJ p)(hs:(am p).length<=70):gA [aQ p,.int 1]=some (aQ (I9 p (F2 p 0 1))):=by
 have mv:=Eh p 0 1 (by have:=ut c;lia) λz hz=>by have:=bC hz;lia
 have jo:=Hq p (F2 p 0 1) (by have:=KD p 0 1;lia);have w:cO c7 eZ [sP p,sI 1,sI 0,.un]=some (.nx [sP (I9 p (F2 p 0 1)),sI 1,sI 1,sI 1]):=by exact jF (by simp[c7]) (ρ2:=[sP (I9 p (F2 p 0 1)),sI 1,sI 1,sI 1]) (by simp[eZ,mv,jo]) (pH (by simp[c7]))
 simp[gA,iR,br,gx,w]
def Jq{p:bG}(c:aJ p)(hs:(am p).length<=70)(r d:Int)(hr:0<=r)(hd:d=0\/d=1):∃q:bG,dH [aQ p,.tup [Jp (oO 0 0 r d)]]=some (aQ q)/\aJ q/\(am q).length<=140/\∀x y,cP q x y↔∃u v,((0<=u/\u<=r)/\0<=v/\v<=d)/\cP p (x-u) (y-v):=by
 generalize eb:oO 0 0 r d=b;have b1:b.1=0:=by rw[<-eb];rfl
 have b2:b.2.1=0:=by rw[<-eb];rfl
 have b3:b.2.2.1=r:=by rw[<-eb]
 have b4:b.2.2.2=d:=by rw[<-eb]
 clear eb;have hl:(am p).length<=a9:=aE ();have h1:=bH p ();have hc:a8 MW bA (aV (af (az a6 (ag 0) (az bL (ag 3) (xC (.int 1)))) (af (az a6 (ag 1) (az bL (ag 3) (xC (.int 0)))) (af (az a6 (ag 2) (az bL (ag 3) (xC (.int 2)))) aj)))) [.un,.un,.un,.sh (Jp b)] ((am p).map aO)=some (((am p).map (ja b)).map aO):=by rw[YE];exact aW aO (aO∘ja b) (am p) λq hq=>by simp[cY,cF,yx,ja]
 have wm:=MI c (b:=b) ();obtain⟨w,hw⟩:∃w,cM ((am p).map (ja b))=w:=⟨_,rfl⟩
 have cw:aJ w:=hw▸(dh _).1;have lw:(am w).length<=70:=by have:=nI ((am p).map (ja b));rw[Ye,hw] at this;lia
 have mw:∀x y,cP w x y↔∃dx,0<=dx/\dx<=r/\cP p (x-dx) y:=λx y=>by rw[<-hw,(dh _).2,wm,b1,b2,b3,acq]
 obtain⟨ts,g1,g2,g3⟩:∃ts:List bD,cW [aQ p,Jp b]=some (.lst (ts.map aO))/\ts.length<=140/\∀x y,lQ ts x y↔∃v,0<=v/\v<=d/\cP w x (y-v):=by
  rcases hd with rfl|rfl
  ·refine⟨(am p).map (ja b),?_,by rw[Ye];lia,λx y=>?_⟩
   ·have h0:b.2.1=b.2.2.2:=()
    generalize ((am p).map (ja b)).map aO=zs at hc;simp[cW,cH,br,bQ,h1,hl,hc,cF,yx,h0]
   ·rw[<-hw,<-(dh ((am p).map (ja b))).2];exact⟨λh=>⟨0,(),(),by rwa[acq]⟩,λ⟨v,v1,v2,h⟩=>by rwa[show y-v=y by lia] at h⟩
  ·have a1:=E1 w cw lw;have sj:=QS w (F2 w 0 1);rw[KD] at sj;have hp:=dc ((am p).map (ja b)) (by rw[Ye];lia);rw[hw] at hp;have h2:=bH (I9 w (F2 w 0 1)) ();refine⟨am (I9 w (F2 w 0 1)),?_,(),λx y=>?_⟩
   ·have h0:¬b.2.1=b.2.2.2:=()
    have a1:gA [aQ w,.int (b.2.2.2-b.2.1)]=some (aQ (I9 w (F2 w 0 1))):=by rw[b2,b4];exact a1
    generalize I9 w (F2 w 0 1)=j at h2 a1;generalize ((am p).map (ja b)).map aO=zs at hc hp;simp[cW,cH,br,bQ,h1,hl,hc,cF,yx,h0,hp,a1,h2]
   ·rw[eY,NH,NT,acq];constructor
    ·rintro (h|h)
     ·exact⟨0,(),(),by rwa[acq]⟩
     ·exact⟨1,(),(),h⟩
    ·rintro⟨v,v1,v2,h⟩;by_cases e:v=0
     ·exact .inl (by rwa[e,acq] at h)
     ·exact .inr (by rwa[show v=1 by lia] at h)
 have hp:=dc ts ();have hl2:ts.length<=a9:=aE ();refine⟨cM ts,?_,(dh _).1,Yr (nI ts) g2,λx y=>?_⟩
 ·generalize Jp b=B at g1;simp[dH,fg,br,fF,gY,d8,Hm,g1,hl2,hp,frz]
 ·rw[(dh _).2,g3];exact⟨λ⟨v,v1,v2,h⟩=>let ⟨u,u1,u2,h⟩:=(mw _ _).mp h;⟨u,v,⟨⟨u1,u2⟩,v1,v2⟩,h⟩,λ⟨u,v,⟨⟨u1,u2⟩,v1,v2⟩,h⟩=>⟨v,v1,v2,(mw _ _).mpr ⟨u,u1,u2,h⟩⟩⟩
theorem AM:∀ {p:bG},aJ p->(am p).Pairwise λs t=>s.1<t.1\/(s.1=t.1/\s.2.2+2<=t.2.1)
 |[],_=>.nil
 |q::p,c=>by
  obtain⟨⟨c1,_⟩,c2,c3⟩:=ZG.1 c;rw[bz];refine YW.2 ⟨aaa.2 ?_,AM c3,?_⟩
  ·exact c1.2.imp λ{a b} h=>.inr ⟨rfl,h⟩
  ·intro a ha b hb;obtain⟨s,_,rfl⟩:=Ym.1 ha;obtain⟨u,hu,k⟩:=Y8.1 hb;obtain⟨v,_,rfl⟩:=Ym.1 k;exact .inl (c2 u hu)
def qf(c:aJ p):Eu.Lay (am p) where
 nd:=abT.2 (abU (λ{a b} ha _ h e=>by
  have:=E2 c ha;subst e
  lia) (AM c))
 ok a ha:=E2 c ha
 sp a ha b hb hn e:=by rcases Eu.Ll (AM c) a ha b hb hn with h|h<;>lia
def vL(p:bG)(c:aJ p)(hc:O7 p<=1000)(h:(am p).length<=30000)(h1:p.length<=30000)(hr:∀q∈p,q.2.length<=30000):gM [aQ p]=some (.lst ((bn (am p)).map (O.sh∘aM))):=by
 have a1:=gf p h1 hr;have a2:=bH p ();have hg:=ko c;have tl:((bn (am p)).length:Int)<=1000:=by rw[iC _ hg,<-pU];exact hc
 have n1:¬(1000<O7 p):=()
 obtain⟨ρ',k1,v2,v3,v4,rfl⟩:=aY (g:=aL (ao (ah 2) MV)) (m:=g7) aO (λpre ρ=>∃v2 v3 v4,ρ=[sP p,.ow (.lst ((bn pre).map (O.sh∘aM))),v2,v3,v4]) (am p) [sP p,.ow (.lst []),.un,.un,.un] ⟨_,_,_,rfl⟩ (by
  rintro pre t post _ e ⟨v2,v3,v4,rfl⟩;have ZQ:(bn pre).length+(fJ t).length<=1000:=by rw[e,n9,gH,Yl,Yl] at tl;lia
  have hl:(bn pre).length+(fJ t).length<=a9:=aE ();have hl2:(fJ t).length<=a9:=aE ();have hr:Oq [.int t.2.1,.int (t.2.2+1)]=some ((zs t.2.1 (t.2.2+1-t.2.1).toNat).map D.int):=by rw[Oq,vg]
  have hz:(zs t.2.1 (t.2.2+1-t.2.1).toNat).length<=a9:=by rw[Fg,<-oP];exact hl2
  have hcm:a8 (ah 0) bA (aV zh) [.un,sI t.1] ((zs t.2.1 (t.2.2+1-t.2.1).toNat).map D.int)=some ((fJ t).map aM):=by
   rw[aW D.int (λx=>aM (x,t.1))]
   ·unfold fJ;rw[YE];rfl
   ·intro x _;simp[cY]
  refine⟨_,[sP p,.ow (.lst ((bn (pre++[t])).map (O.sh∘aM))),sI t.1,sI t.2.1,sI t.2.2],rfl,.inl ?_,_,_,_,rfl⟩;have es:bn (pre++[t])=bn pre++fJ t:=by rw[n9,gH];simp[bn]
  rw[es]
  simp[g7,hl,hl2,hr,hz,hcm])
 simp[gM,br,kH,a1,a2,n1,k1]
def xn(p:bG)(c:aJ p)(hc:O7 p<=1000)(h:(am p).length<=30000)(h1:p.length<=30000)(hr:∀q∈p,q.2.length<=30000):iK [aQ p]=some (.lst ((bn (am p)).map aM)):=by show (gM _).map O.d=_;rw[vL p c hc h h1 hr];simp
def Wo(s t:bD):Prop:=s.1<t.1\/(s.1=t.1/\s.2.2+2<=t.2.1)
theorem Mi:∀ {p:bG},aJ p->(am p).Pairwise Wo
 |[],_=>.nil
 |q::p,c=>by
  obtain⟨⟨h1,_⟩,h2,h3⟩:=ZG.1 c;rw[bz];refine YW.2 ⟨?_,Mi h3,λs hs t ht=>?_⟩
  ·rw[aaa];exact h1.2.imp λh=>.inr ⟨rfl,h⟩
  ·obtain⟨a,_,rfl⟩:=Ym.1 hs;obtain⟨g,hg,hb⟩:=Y8.1 ht;obtain⟨b,_,rfl⟩:=Ym.1 hb;exact .inl (h2 g hg)
theorem sR:∀ts:List bD,ts.Pairwise Wo->(bn ts).Nodup
 |[],_=>.nil
 |t::ts,h=>by obtain⟨h1,h2⟩:=aaH.1 h;rw[gH];refine aaq.2 ⟨zw t,sR ts h2,λa ha b hb e=>?_⟩;subst e;have a1:=(vF t a.1 a.2).mp ha;obtain⟨s,hs,hb⟩:=Y8.1 hb;have a2:=(vF s a.1 a.2).mp hb;rcases h1 s hs with z|z<;>lia
def ig(c:aJ p):(bn (am p)).Nodup:=sR _ (Mi c)
@[simp]def VM(l:Zc):sr (.mtp l)=some l:=rfl
@[simp]def WU(y:M0)(l:Zc)(ρ:M.Env):aL y (.mtp l) ρ=y l ρ:=rfl
abbrev IJ(t:bD):D:=.mtp [.int t.1,.int t.2.1,.int t.2.2]
def roundL:List bD:=[(0,-1,1),(-1,-1,2),(-1,0,4),(-1,1,8),(0,1,16),(1,1,32),(1,0,64),(1,-1,128)]
def IV(b:Int->Int->Bool)(l:List bD):Int:=(l.map λt=>if b t.1 t.2.1 then t.2.2 else 0).sum
theorem AV(b:Int->Int->Bool):∀l:List bD,((l.filter λt=>b t.1 t.2.1).map λt=>t.2.2).sum=IV b l
 |[]=>rfl
 |t::l=>by have ih:=AV b l;unfold IV at ih ⊢;rw[Y7];cases h:b t.1 t.2.1<;>simp[h,ih]
theorem D3(b:Int->Int->Bool):∀l:List bD,l.filterMap (λt=>if b t.1 t.2.1 then some (D.int t.2.2) else none)=((l.filter λt=>b t.1 t.2.1).map λt=>t.2.2).map D.int
 |[]=>rfl
 |t::l=>by rw[YJ,Y7,D3 b l];cases h:b t.1 t.2.1<;>simp
def strL:List Nat:=[1,4,16,64]
def GA(n w:Nat):Bool:=(n &&& w==0) && !((n+256*n) &&& (2*w+4*w)==0)
def gV(n:Nat):Nat:=(strL.filter (GA n)).length
def rndL:List Nat:=[1,2,4,8,16,32,64,128]
def oQ(n:Nat):Nat:=(rndL.filter λw=>!(n &&& w==0)).length
def MF(i j:Nat):Bq (.int (i:Int)) (.int (j:Int))=some (.int ((i &&& j:Nat):Int)):=by show BV _ _ _=_;rw[fM ()];simp
theorem yj(b:Nat->Bool)(f:Nat->D):∀l:List Nat,l.filterMap (λw=>if b w then some (f w) else none)=(l.filter b).map f
 |[]=>rfl
 |w::l=>by rw[YJ,Y7,yj b f l];cases h:b w<;>simp
def vC(n:Nat):ui [.int (n:Int)]=some (.int (gV n:Nat)):=by
 have hm:mj (.int 256) (.int (n:Int))=some (.int (256*(n:Int))):=E8 ();have hc:a8 (ah 0) (xf (xB (az (jd false) (az Bq (ag 1) (ag 0)) (xC (.int 0)))) (xB (az (jd true) (az Bq (ag 2) (az a6 (az mj (xC (.int 2)) (ag 0)) (az mj (xC (.int 4)) (ag 0)))) (xC (.int 0))))) (ak 0) [.un,sI (n:Int),sI ((n:Int)+256*n)] (strL.map λw:Nat=>D.int (w:Int))=some ((strL.filter (GA n)).map λw:Nat=>D.int (w:Int)):=by
  rw[<-yj];refine cc (λw:Nat=>D.int (w:Int)) _ strL λw hw=>?_;have h1:=MF n w;have h2:=MF (n+256*n) (2*w+4*w);have e1:(((n+256*n:Nat)):Int)=(n:Int)+256*n:=()
  have e2:(((2*w+4*w:Nat)):Int)=2*(w:Int)+4*w:=()
  rw[e1,e2] at h2;have h3:mj (.int 2) (.int (w:Int))=some (.int (2*(w:Int))):=E8 ();have h4:mj (.int 4) (.int (w:Int))=some (.int (4*(w:Int))):=E8 ();unfold GA;by_cases c1:n &&& w=0<;>by_cases c2:(n+256*n) &&& (2*w+4*w)=0<;>simp[cY,h1,h2,h3,h4,c1,c2]<;>lia
 have hl:4<=a9:=aE ();have hs:[D.int 1,D.int 4,D.int 16,D.int 64]=strL.map λw:Nat=>D.int (w:Int):=rfl;generalize hz:(strL.filter (GA n)).map (λw:Nat=>D.int (w:Int))=zs at hc;have hzl:(zs.length:Int)=(gV n:Nat):=by rw[<-hz,Ye];rfl
 simp[strL] at hc;simp[ui,vP,br,uc,hm,hc,hl,hzl]
def jw(n:Nat):fP [.int (n:Int)]=some (.int (oQ n:Nat)):=by
 have hc:a8 MW (xB (az (jd true) (az Bq (ag 3) (ag 2)) (xC (.int 0)))) (ak 2) [.un,.un,.un,sI (n:Int)] (roundL.map IJ)=some ((roundL.filter λt=>!(n &&& t.2.2.toNat==0)).map λt=>D.int t.2.2):=by
  have:(roundL.filter λt=>!(n &&& t.2.2.toNat==0)).map (λt=>D.int t.2.2)=roundL.filterMap λt=>if n &&& t.2.2.toNat=0 then none else some (D.int t.2.2):=by
   generalize roundL=l;induction l with
   |nil=>rfl
   |cons t l ih=>rw[YJ,Y7,<-ih];by_cases h:n &&& t.2.2.toNat=0<;>simp[h]
  rw[this];refine cc IJ _ roundL λt ht=>?_;have hp:0<=t.2.2:=by simp only[roundL,Yj,abb,abc] at ht;rcases ht with rfl|rfl|rfl|rfl|rfl|rfl|rfl|rfl<;>decide
  have h1:=MF n t.2.2.toNat;rw[aeT hp] at h1;by_cases c:n &&& t.2.2.toNat=0<;>simp[cY,h1,c]<;>lia
 have hl:8<=a9:=aE ();have hz:((roundL.filter λt=>!(n &&& t.2.2.toNat==0)).map λt=>D.int t.2.2).length=oQ n:=by rw[Ye];have:rndL=roundL.map λt=>t.2.2.toNat:=rfl;unfold oQ;rw[this,List.filter_map,Ye];rfl
 generalize ((roundL.filter λt=>!(n &&& t.2.2.toNat==0)).map λt=>D.int t.2.2)=zs at hc hz;have hz2:(zs.length:Int)=(oQ n:Nat):=by rw[hz]
 simp[roundL] at hc;simp[fP,gQ,br,fE,hc,hl,hz2]
def Ta(n:Nat)(ends:Bool):Bool:=(gV n==1)&&(!ends || decide (2<=oQ n))
abbrev eD(c:Int×Int):Zn:=[c.1,c.2]
def FY(h:eD c=eD d):c=d:=by obtain⟨a,b⟩:=c;obtain⟨e,f⟩:=d;simp at h;obtain⟨rfl,rfl⟩:=h;rfl
def zJ(ks:R)(c:Int×Int):(ks.map eD).contains (eD c)=decide (c∈ks):=by
 by_cases h:c∈ks
 ·rw[YI h,abg];exact Ym.2 ⟨c,h,rfl⟩
 ·rw[YB h];cases q:(ks.map eD).contains (eD c) with
  |false=>rfl
  |true=>obtain⟨u,hu,e⟩:=Ym.1 (abg.1 q);rw[FY e] at hu;exact absurd hu h
def BR(ks:R)(x y:Int):(ks.map eD).contains [x,y]=decide ((x,y)∈ks):=zJ ks (x,y)
def Nj(ks:R)(c:Int×Int):JD (ks.map eD) (eD c)=(ks.filter λd=>decide (d≠c)).map eD:=by
 unfold JD;induction ks with
 |nil=>rfl
 |cons d l ih=>
  by_cases h:d=c
  ·subst h;rw[Yo,abh (by simp),abh (by simp)];exact ih
  ·have hk:eD d≠eD c:=λz=>h (FY z);rw[Yo,Y7,Y7,Yb (YI hk),Yb (YI h),Yo,ih]
def NV(ks:R)(x y:Int):Int:=IV (λdx dy=>decide ((x+dx,y+dy)∈ks)) roundL
theorem GG(b:Int->Int->Bool):∀l:List bD,(∀t∈l,0<=t.2.2)->0<=IV b l
 |[],_=>Yw _
 |t::l,h=>by have ih:=GG b l λs hs=>h s (Yn _ hs);have h1:=h t Yg;unfold IV at *;rw[Yo,abB];split<;>lia
def ke(ks:R)(x y:Int):Nat:=(NV ks x y).toNat
def KI(ks:R)(x y:Int):((ke ks x y:Nat):Int)=NV ks x y:=aeT (GG _ _ (by decide))
def AX(ks:R)(e:Bool)(c:Int×Int):Bool:=Ta (ke ks c.1 c.2) e
noncomputable abbrev P9:=af (az a6 (ag 4) (ag 0)) (af (az a6 (ag 5) (ag 1)) aj)
def Ho(ks:R)(x y:Int)(e:Bool):vt [.dif (ks.map eD),.int x,.int y,.bl e]=some (.bl (AX ks e (x,y))):=by
 have hc:a8 MW (xB (t7 false (aV P9) 3)) (ak 2) [.un,.un,.un,.sh (.dif (ks.map eD)),sI x,sI y] (roundL.map IJ)=some (((roundL.filter λt=>decide ((x+t.1,y+t.2.1)∈ks)).map λt=>t.2.2).map D.int):=by
  rw[<-D3 (λdx dy=>decide ((x+dx,y+dy)∈ks)) roundL];refine cc IJ _ roundL λt _=>?_;have a:=BR ks (x+t.1) (y+t.2.1);have hl:2<=a9:=aE ();by_cases hb:(x+t.1,y+t.2.1)∈ks
  ·rw[YI hb] at a;generalize ks.map eD=kk at a ⊢;simp at a;simp[cY,hl,mm,DF,aR,a,hb]
  ·rw[YB hb] at a;generalize ks.map eD=kk at a ⊢;simp at a;simp[cY,hl,mm,DF,aR,a,hb]
 have hi:zr [.lst (((roundL.filter λt=>decide ((x+t.1,y+t.2.1)∈ks)).map λt=>t.2.2).map D.int)]=some (.int (ke ks x y:Nat)):=by show (aR _).map _=_;rw[d7,KI];show some (D.int _)=_;rw[AV (λdx dy=>decide ((x+dx,y+dy)∈ks)) roundL];rfl
 have hl:8<=a9:=aE ();generalize ((roundL.filter λt=>decide ((x+t.1,y+t.2.1)∈ks)).map λt=>t.2.2).map D.int=zs at hc hi;simp only[roundL,Yo,aa6] at hc;have h1:=vC (ke ks x y);have h2:=jw (ke ks x y);unfold AX Ta;generalize ke ks x y=n at *;by_cases c1:gV n=1
 ·by_cases c2:2<=oQ n<;>cases e<;>simp[vt,uk,br,uF,hc,hi,hl,h1,h2,c1,c2]<;>lia
 ·have c1':¬((gV n:Nat):Int)=1:=()
  cases e<;>simp[vt,uk,br,uF,hc,hi,hl,h1,h2,c1,c1']
def cB(ks:R)(dx dy:Int):R:=ks.filter λc=>!decide ((c.1+dx,c.2+dy)∈ks)
theorem BE(b:Int×Int->Bool):∀l:R,l.filterMap (λc=>if b c then some (aM c) else none)=(l.filter b).map aM
 |[]=>rfl
 |c::l=>by rw[YJ,Y7,BE b l];cases b c<;>rfl
def tL(ks:R)(dx dy:Int)(h:ks.length<=100000):h9 [.dif (ks.map eD),.int dx,.int dy]=some (.lst ((cB ks dx dy).map aM)):=by
 have hc:a8 kA (xB (t7 true (aV (af (az a6 (ag 0) (ag 3)) (af (az a6 (ag 1) (ag 4)) aj))) 2)) (aV zh) [.un,.un,.sh (.dif (ks.map eD)),sI dx,sI dy] (ks.map aM)=some ((cB ks dx dy).map aM):=by
  unfold cB;rw[<-BE];refine cc aM _ ks λc _=>?_;have a:=BR ks (c.1+dx) (c.2+dy);have hl:2<=a9:=aE ();by_cases hb:(c.1+dx,c.2+dy)∈ks
  ·rw[YI hb] at a;generalize ks.map eD=kk at a ⊢;simp at a;simp[cY,hl,mm,DF,aR,a,hb]
  ·rw[YB hb] at a;generalize ks.map eD=kk at a ⊢;simp at a;simp[cY,hl,mm,DF,aR,a,hb]
 have hl:ks.length<=a9:=aE h;have e:(ks.map eD).map (λk=>D.tup (k.map D.int))=ks.map aM:=by rw[YE];rfl
 simp[h9,jJ,br,kJ,e,hl,hc,O.d]
def ba(e:Bool)(s:R×R)(c:Int×Int):R×R:=if AX s.2 e c then (s.1++[c],s.2.filter λd=>decide (d≠c)) else s
def dN(e:Bool)(free ks:R):R×R:=free.foldl (ba e) ([],ks)
def rX(e:Bool)(s:R×R)(c d:Int×Int)(h:d≠c):d∈(ba e s c).2↔d∈s.2:=by
 unfold ba;split
 ·rw[YC];simp[h]
 ·exact aak
theorem BJ(e:Bool)(d:Int×Int):∀(pre:R) (s:R×R),d∉pre->(d∈(pre.foldl (ba e) s).2↔d∈s.2)
 |[],_,_=>aak
 |c::pre,s,h=>by rw[YQ,BJ e d pre _ λz=>h (Yn _ z),rX e s c d λz=>h (by rw[z];exact Yg)]
def yP(e:Bool)(s:R×R)(c:Int×Int):(ba e s c).2.Sublist s.2:=by
 unfold ba;split
 ·exact abi
 ·exact adQ _
theorem BL(e:Bool):∀(pre:R) (s:R×R),(pre.foldl (ba e) s).2.Sublist s.2
 |[],_=>adQ _
 |c::pre,s=>by rw[YQ];exact (BL e pre _).trans (yP e s c)
theorem oj(c:Int×Int):∀l:R,l.Nodup->c∈l->(l.filter λd=>decide (d≠c)).length+1=l.length
 |[],_,h=>by cases h
 |d::l,nd,h=>by
  obtain⟨n1,n2⟩:=YH.1 nd;by_cases e:d=c
  ·subst e;rw[abh (by simp),Yk];have:l.filter (λx=>decide (x≠d))=l:=aeD.2 λy hy=>by
    simp only[ne_eq,YO];exact λz=>n1 (by rw[<-z];exact hy)
   rw[this]
  ·rw[abV (~~~e),Yk,Yk,oj c l n2 ((Yj.1 h).resolve_left λz=>e z.symm)]
theorem BI(e:Bool):∀(pre:R) (s:R×R),pre.Nodup->s.2.Nodup->(∀c∈pre,c∈s.2)->(pre.foldl (ba e) s).1.length+(pre.foldl (ba e) s).2.length=s.1.length+s.2.length
 |[],_,_,_,_=>rfl
 |c::pre,s,nd,ns,h=>by
  obtain⟨n1,n2⟩:=YH.1 nd;rw[YQ,BI e pre _ n2 ((yP e s c).nodup ns) λd hd=>(rX e s c d λz=>n1 (by rw[<-z];exact hd)).2 (h d (Yn _ hd))];unfold ba;split
  ·have:=oj c s.2 ns (h c Yg);show (s.1++[c]).length+(s.2.filter λd=>decide (d≠c)).length=_;rw[Yl,Y5];lia
  ·rfl
theorem BK(e:Bool):∀(pre:R) (s:R×R),(pre.foldl (ba e) s).1.length<=s.1.length+pre.length
 |[],_=>by simp
 |c::pre,s=>by
  rw[YQ];have:=BK e pre (ba e s c);have h2:(ba e s c).1.length<=s.1.length+1:=by unfold ba;split<;>simp
  rw[Yk];lia
def tP(p:Addr)(ks free:R)(e:Bool)(nf:free.Nodup)(hs:∀c∈free,c∈ks)(hl:free.length<=50000):fQ p (ks.map eD) [.lst (free.map aM),.bl e]=some (.lst ((dN e free ks).1.map (O.sh∘aM)),(dN e free ks).2.map eD):=by
 obtain⟨ρ',k1,v4,rfl⟩:=aY (g:=ah 4) (m:=jG) aM (λpre ρ=>∃v4:Sl,ρ=[.ow (.hd p ((pre.foldl (ba e) ([],ks)).2.map eD) []),.sh (.lst (free.map aM)),.sh (.bl e),dQ ((pre.foldl (ba e) ([],ks)).1.map aM),v4]) free [.ow (.hd p (ks.map eD) []),.sh (.lst (free.map aM)),.sh (.bl e),.ow (.lst []),.un] ⟨.un,rfl⟩ λpre c post ρ ef hpt0=>by
  obtain⟨v4,hρ⟩:=hpt0;subst hρ;have hf:=BK e pre ([],ks);have hcp:c∉pre:=λz=>by rw[ef] at nf;exact (aaq.1 nf).2.2 c z c Yg rfl
  have hck:c∈(pre.foldl (ba e) ([],ks)).2:=(BJ e c pre _ hcp).mpr (hs c (by rw[ef];exact Yu _ Yg));have hpl:pre.length<free.length:=by rw[ef,Yl,Yk];lia
  rw[aco];show ∃ρ1 ρ2,_/\_/\∃v4:Sl,ρ2=[.ow (.hd p ((ba e (pre.foldl (ba e) ([],ks)) c).2.map eD) []),_,_,dQ ((ba e (pre.foldl (ba e) ([],ks)) c).1.map aM),v4]
  generalize pre.foldl (ba e) ([],ks)=s at *;obtain⟨t,kk⟩:=s;dsimp only at hf hck ⊢;have hg:=Ho kk c.1 c.2 e;have hk:=zJ kk c;rw[YI hck] at hk;have hd:=Nj kk c;have ht:t.length<a9:=YT (show t.length<100000 by simp at hf;lia) (aE (Yi _));unfold ba;cases q:AX kk e c with
  |false=>
   refine⟨_,_,rfl,.inl ?_,.sh (aM c),rfl⟩;have q':AX kk e (c.1,c.2)=false:=q;rw[q'] at hg;simp[jG,hg,iU]
  |true=>
   refine⟨_,_,rfl,.inl ?_,.sh (aM c),rfl⟩;have q':AX kk e (c.1,c.2)=true:=q;rw[q'] at hg;have hpop:GK 0 (ak 4) [.ow (.hd p (kk.map eD) []),.sh (.lst (free.map aM)),.sh (.bl e),dQ (t.map aM),.sh (aM c)]=some (.nx [.ow (.hd p ((kk.filter λd=>decide (d≠c)).map eD) []),.sh (.lst (free.map aM)),.sh (.bl e),dQ (t.map aM),.sh (aM c)]):=by have hy:DF (aM c)=some (eD c):=rfl;unfold GK ak;show (some (Sl.ow (.hd p (kk.map eD) []))).bind _=_;dsimp only[Option.bind,List.getElem?_cons_succ,List.getElem?_cons_zero];rw[Kn];dsimp only;rw[hy];dsimp only;rw[hk,Yb rfl,hd];rfl
   have hif:ik (tH 0 (aq vt (af (ak 0) (af (az bL (ag 4) (xC (.int 0))) (af (az bL (ag 4) (xC (.int 1))) (af (ak 2) aj)))))) [.ow (.hd p (kk.map eD) []),.sh (.lst (free.map aM)),.sh (.bl e),dQ (t.map aM),.sh (aM c)]=some true:=by simp[hg,iU]
   show lX _ _ _ [.ow (.hd p (kk.map eD) []),.sh (.lst (free.map aM)),.sh (.bl e),dQ (t.map aM),.sh (aM c)]=_;unfold lX;rw[hif];dsimp only[Option.bind];rw[Yb rfl,aC hpop];simp[ht]
 have hpf:dN e free ks=free.foldl (ba e) ([],ks):=rfl;rw[hpf];generalize free.foldl (ba e) ([],ks)=s at *;have hl0:(0:Nat)<=a9:=YR _;simp[fQ,QH,ma,k1]
def sideL:R:=[(0,-1),(-1,0),(0,1),(1,0)]
def eT(e:Bool)(s:R×R)(d:Int×Int):R×R:=let r:=dN e (cB s.2 d.1 d.2) s.2;(s.1++r.1,r.2)
def gk(e:Bool)(ks:R):R×R:=sideL.foldl (eT e) ([],ks)
def zD{ks:R}(n:ks.Nodup)(dx dy:Int):(cB ks dx dy).Nodup:=abi.nodup n
def p0{ks:R}{dx dy:Int}{c:Int×Int}(h:c∈cB ks dx dy):c∈ks:=(YC.1 h).1
def JS(ks:R)(dx dy:Int):(cB ks dx dy).length<=ks.length:=aaG _ _
def CF(e:Bool){free ks:R}(nf:free.Nodup)(nk:ks.Nodup)(hs:∀c∈free,c∈ks):(dN e free ks).2.Nodup/\(dN e free ks).1.length+(dN e free ks).2.length=ks.length:=
 ⟨(BL e free _).nodup nk,by have:=BI e free ([],ks) nf nk hs;unfold dN;simpa using this⟩
def Gi(e:Bool)(s:R×R)(d:Int×Int)(n:s.2.Nodup):(eT e s d).2.Nodup/\(eT e s d).1.length+(eT e s d).2.length=s.1.length+s.2.length:=by have h:=CF e (zD n d.1 d.2) n λc hc=>p0 hc;refine⟨h.1,?_⟩;show (s.1++(dN e (cB s.2 d.1 d.2) s.2).1).length+(dN e (cB s.2 d.1 d.2) s.2).2.length=_;rw[Yl];lia
theorem Au(e:Bool):∀(l:R) (s:R×R),s.2.Nodup->(l.foldl (eT e) s).2.Nodup/\(l.foldl (eT e) s).1.length+(l.foldl (eT e) s).2.length=s.1.length+s.2.length
 |[],_,n=>⟨n,rfl⟩
 |d::l,s,n=>by rw[YQ];have h:=Gi e s d n;have ih:=Au e l (eT e s d) h.1;exact⟨ih.1,#v[ih.2,h.2]⟩
def uq(e:Bool){ks:R}(n:ks.Nodup):(gk e ks).2.Nodup/\(gk e ks).1.length+(gk e ks).2.length=ks.length:=by have h:=Au e sideL ([],ks) n;exact⟨h.1,by have:=h.2;simpa[gk] using this⟩
abbrev Xv(p:Int×Int):D:=.mtp [.int p.1,.int p.2]
theorem yL:∀l:R,noDics (l.map aM)=true
 |[]=>by simp[noDics]
 |c::l=>by rw[Yo,noDics,yL l];simp[iU,noDics]
noncomputable abbrev O1:=aq h9 (af (ak 0) (af (ak 3) (af (ak 4) aj)))
def rM(p:Addr)(ks:R)(e:Bool)(n:ks.Nodup)(hl:ks.length<=50000):gE p (ks.map eD) [.bl e]=some (.lst ((gk e ks).1.map (O.sh∘aM)),(gk e ks).2.map eD):=by
 obtain⟨ρ',k1,v3,v4,rfl⟩:=aY (g:=aL MV) (m:=lY) Xv (λpre ρ=>∃v3 v4:Sl,ρ=[.ow (.hd p ((pre.foldl (eT e) ([],ks)).2.map eD) []),.sh (.bl e),dQ ((pre.foldl (eT e) ([],ks)).1.map aM),v3,v4]) sideL [.ow (.hd p (ks.map eD) []),.sh (.bl e),.ow (.lst []),.un,.un] ⟨.un,.un,rfl⟩ λpre d post ρ ef hpt0=>by
  obtain⟨v3,v4,hρ⟩:=hpt0;subst hρ;have hok:=Au e pre ([],ks) n;rw[aco];show ∃ρ1 ρ2,_/\_/\∃v3 v4:Sl,ρ2=[.ow (.hd p ((eT e (pre.foldl (eT e) ([],ks)) d).2.map eD) []),_,dQ ((eT e (pre.foldl (eT e) ([],ks)) d).1.map aM),v3,v4]
  generalize pre.foldl (eT e) ([],ks)=s at *;obtain⟨t,kk⟩:=s;obtain⟨nk,ZQ⟩:=hok;simp at ZQ;dsimp only at nk;have hf:=tL kk d.1 d.2 ();have nf:=zD nk d.1 d.2;have fl:=JS kk d.1 d.2;have hp:=λq=>tP q kk (cB kk d.1 d.2) e nf (λc hc=>p0 hc) ();have hA:=FO hp;have pok:=CF e nf nk λc hc=>p0 hc;refine⟨_,[.ow (.hd p ((dN e (cB kk d.1 d.2) kk).2.map eD) []),.sh (.bl e),dQ ((t++(dN e (cB kk d.1 d.2) kk).1).map aM),sI d.1,sI d.2],rfl,.inl ?_,_,_,rfl⟩;have hL:t.length+(dN e (cB kk d.1 d.2) kk).1.length<=a9:=aE ();have hnd:=yL (cB kk d.1 d.2);have hm:tH 0 O1 [.ow (.hd p (kk.map eD) []),.sh (.bl e),dQ (t.map aM),sI d.1,sI d.2]=some (.lst ((cB kk d.1 d.2).map aM)):=by simp[hf,iU,hnd]
  generalize dN e (cB kk d.1 d.2) kk=r at *;show xg 2 0 fQ (af (tH 0 O1) (af (ak 1) aj)) [.ow (.hd p (kk.map eD) []),.sh (.bl e),dQ (t.map aM),sI d.1,sI d.2]=_;have ha:af (tH 0 O1) (af (ak 1) aj) [.ow (.hd p (kk.map eD) []),.sh (.bl e),dQ (t.map aM),sI d.1,sI d.2]=some [.lst ((cB kk d.1 d.2).map aM),.bl e]:=by show Option.bind (tH 0 O1 [.ow (.hd p (kk.map eD) []),.sh (.bl e),dQ (t.map aM),sI d.1,sI d.2]) _=_;rw[hm];rfl
  unfold xg;simp only[aab,aaY,abC,Kn,ha,hA];simp[hL]
 have hrf:gk e ks=sideL.foldl (eT e) ([],ks):=rfl;rw[hrf];generalize sideL.foldl (eT e) ([],ks)=s at *;simp only[sideL,Yo,aa6] at k1;simp[gE,QH,kP,k1]
def FB{a:XE}{b:XA}{ρ:M.Env}{x:D}{y:Zc}(h:a ρ=some x)(k:b ρ=some y):af a b ρ=some (x::y):=by show Option.bind (a ρ) _=_;rw[h];show Option.bind (b ρ) _=_;rw[k];rfl
def Vj{e:XA}{ρ:M.Env}{l:Zc}(h:e ρ=some l):xL e ρ=some (.lst l):=by unfold xL;rw[h];rfl
def Nb{m:Zb}{a:XA}{ρ:M.Env}{ds:Zc}{d:D}(h:a ρ=some ds)(k:m ds=some d):aq m a ρ=some d:=by unfold aq;rw[h];exact k
def OT{a:XA}{ρ:M.Env}{l:Zc}(h:a ρ=some l)(k:l.length<=a9):aV a ρ=some (.tup l):=by unfold aV;rw[h];show (if l.length<=a9 then _ else _)=_;rw[Yb k]
def ee(e:Bool):Nat->R->R->R×R
 |0,t,ks=>(t,ks)
 |n+1,t,ks=>if (gk e ks).1=[] then (t,ks) else ee e n (t++(gk e ks).1) (gk e ks).2
theorem rY(e:Bool):∀(free:R) (s:R×R),(free.foldl (ba e) s).1=s.1->(free.foldl (ba e) s).2=s.2
 |[],_,_=>rfl
 |c::l,s,h=>by
  rw[YQ] at h ⊢;have hl:∀(l:R) (s:R×R),s.1.length<=(l.foldl (ba e) s).1.length:=λl=>by
   induction l with
   |nil=>intro s;exact Yi _
   |cons c l ih=>
    intro s;rw[YQ];refine Yr ?_ (ih _);unfold ba;split
    ·show s.1.length<=(s.1++[c]).length;simp
    ·exact Yi _
  cases q:AX s.2 e c with
  |false=>
   have e1:ba e s c=s:=by unfold ba;rw[q];rfl
   rw[e1] at h ⊢;exact rY e l s h
  |true=>
   have e1:ba e s c=(s.1++[c],s.2.filter λd=>decide (d≠c)):=by unfold ba;rw[q];rfl
   have:=hl l (ba e s c);rw[h,e1] at this;simp at this;lia
theorem C0(e:Bool):∀(l:R) (s:R×R),(l.foldl (eT e) s).1=s.1->(l.foldl (eT e) s).2=s.2
 |[],_,_=>rfl
 |d::l,s,h=>by
  rw[YQ] at h ⊢;have hl:∀(l:R) (s:R×R),∃z,(l.foldl (eT e) s).1=s.1++z:=λl=>by
   induction l with
   |nil=>intro s;exact⟨[],by simp⟩
   |cons c l ih=>intro s;rw[YQ];obtain⟨z,hz⟩:=ih (eT e s c);exact⟨(dN e (cB s.2 c.1 c.2) s.2).1++z,by rw[hz];show s.1++_++z=_;rw[YL]⟩
  obtain⟨z,hz⟩:=hl l (eT e s d);have e1:(eT e s d).1=s.1++(dN e (cB s.2 d.1 d.2) s.2).1:=rfl;rw[h,e1,YL] at hz;have e2:(dN e (cB s.2 d.1 d.2) s.2).1=[]:=by have:=List.self_eq_append_right.1 hz;exact (List.append_eq_nil_iff.1 this).1
  have e3:(eT e s d).2=s.2:=by show (dN e (cB s.2 d.1 d.2) s.2).2=s.2;exact rY e _ ([],s.2) e2
  rw[C0 e l (eT e s d) (#v[h,e1,e2,YK]),e3]
def LA{e:Bool}{ks:R}(h:(gk e ks).1=[]):(gk e ks).2=ks:=C0 e sideL ([],ks) h
theorem xc(d0:D)(e:Bool):∀(n:Nat) (t ks:R) (tb:Int),ks.Nodup->ks.length<n->t.length+ks.length<=50000->tb<t.length ->
  ∃tb':Int,cO dX gF [.sh d0,.sh (.bl e),.ow (.dic (ks.map eD)),dQ (t.map aM),sI tb]=some (.nx [.sh d0,.sh (.bl e),.ow (.dic ((ee e n t ks).2.map eD)),dQ ((ee e n t ks).1.map aM),sI tb'])
 |0,_,_,_,_,h,_,_=>()
 |n+1,t,ks,tb,nk,hn,hl,htb=>by
  have hr:=FO λq=>rM q ks e nk ();have ok:=uq e nk;have hL:t.length+(gk e ks).1.length<=a9:=aE ();have hC:dX [.sh d0,.sh (.bl e),.ow (.dic (ks.map eD)),dQ (t.map aM),sI tb]=some true:=by simp[dX];lia
  have hB:gF [.sh d0,.sh (.bl e),.ow (.dic (ks.map eD)),dQ (t.map aM),sI tb]=some (.nx [.sh d0,.sh (.bl e),.ow (.dic ((gk e ks).2.map eD)),dQ ((t++(gk e ks).1).map aM),sI (t.length:Nat)]):=by unfold gF;rw[aC (ρ':=[.sh d0,.sh (.bl e),.ow (.dic (ks.map eD)),dQ (t.map aM),sI (t.length:Nat)]) (by simp)];generalize gk e ks=r at *;have ha:af (ak 1) aj [.sh d0,.sh (.bl e),.ow (.dic (ks.map eD)),dQ (t.map aM),sI (t.length:Nat)]=some [.bl e]:=rfl;unfold xg;simp only[aab,aaY,abC,FX,ha,hr];simp[hL]
  by_cases h0:(gk e ks).1=[]
  ·have h2:=LA h0;rw[h0,h2,YK] at hB;have hE:dX [.sh d0,.sh (.bl e),.ow (.dic (ks.map eD)),dQ (t.map aM),sI (t.length:Nat)]=some false:=by
    simp[dX]
   refine⟨(t.length:Nat),?_⟩;have e1:ee e (n+1) t ks=(t,ks):=by rw[ee,Yb h0]
   rw[e1];exact jF hC hB (pH hE)
  ·have e1:ee e (n+1) t ks=ee e n (t++(gk e ks).1) (gk e ks).2:=by rw[ee,X9 h0]
   rw[e1];have hp:0<(gk e ks).1.length:=aeS.2 h0;obtain⟨tb',k⟩:=xc d0 e n (t++(gk e ks).1) (gk e ks).2 (t.length:Nat) ok.1 () (by rw[Yl];lia) (by rw[Yl];lia);exact⟨tb',jF hC hB k⟩
theorem Dm(e:Bool):∀(n:Nat) (t ks:R),ks.Nodup->(ee e n t ks).2.Nodup/\(ee e n t ks).1.length+(ee e n t ks).2.length=t.length+ks.length
 |0,_,_,n=>⟨n,rfl⟩
 |n+1,t,ks,nk=>by
  rw[ee];split
  ·exact⟨nk,rfl⟩
  ·have ok:=uq e nk;have ih:=Dm e n (t++(gk e ks).1) (gk e ks).2 ok.1;rw[Yl] at ih;exact⟨ih.1,()⟩
abbrev cT(c:Int×Int):bD:=(c.2,c.1,c.1)
theorem BH:∀(l acc:R),(acc++l).Nodup->(l.map eD).foldl jc (acc.map eD)=(acc++l).map eD
 |[],acc,_=>by simp
 |c::l,acc,n=>by
  have hc:c∉acc:=λz=>(aaq.1 n).2.2 c z c Yg rfl;rw[Yo,YQ];have e1:jc (acc.map eD) (eD c)=(acc++[c]).map eD:=by unfold jc;rw[zJ,YB hc,X9 (by decide),YX];rfl
  rw[e1,BH l (acc++[c]) (~~~n)];simp
theorem CD:∀l:R,iW (l.map λc=>D.tup [aM c,.bl true])=some (l.map eD)
 |[]=>rfl
 |c::l=>by rw[Yo,iW,CD l];rfl
theorem vS:∀l:List bD,noDics (l.map aO)=true
 |[]=>by simp[noDics]
 |c::l=>by rw[Yo,noDics,vS l];simp[iU,noDics]
noncomputable abbrev MX:=aV (af (ak 1) (af (ak 0) (af (ak 0) aj)))
noncomputable abbrev MS:=aV (af (ak 0) (af (xC (.bl true)) aj))
def zW(d0:D)(cs:R)(e:Bool)(hc:iK [d0]=some (.lst (cs.map aM)))(n:cs.Nodup)(hl:cs.length<=20000) :
  rK [d0,.bl e]=some (.tup [aQ (cM ((ee e (cs.length+1) [] cs).2.map cT)),.lst ((ee e (cs.length+1) [] cs).1.map aM)]):=by
 have hL:cs.length<=a9:=aE ();have hL':cs.length<a9:=YT (show cs.length<100000 by lia) (aE (Yi _));have h2:2<=a9:=aE ();have c1:a8 (ah 0) bA MS [.un] (cs.map aM)=some (cs.map λc=>D.tup [aM c,.bl true]):=aW aM _ cs λc _=>by simp[cY,h2]
 have hd:AW (aX [none] (fb (aq iK (af (ak 0) aj))) (ah 0) bA MS) [.sh d0,.sh (.bl e),.un,.un,.un]=some (.dic (cs.map eD)):=by
  have hp:=CD cs;have hf:=BH cs [] (~~~n);simp only[aa6,acf] at hf;have hx:aX [none] (fb (aq iK (af (ak 0) aj))) (ah 0) bA MS [.sh d0,.sh (.bl e),.un,.un,.un]=some (cs.map λc=>D.tup [aM c,.bl true]):=by simp[hc,hL,c1]
  unfold AW;rw[hx];dsimp only[Option.bind];rw[hp];dsimp only;rw[Ye,Yb hL',hf]
 obtain⟨tb',hw⟩:=xc d0 e (cs.length+1) [] cs (-1) n (aam _) (by simp;lia) (by simp);have ok:=Dm e (cs.length+1) [] cs n;generalize ee e (cs.length+1) [] cs=r at *;have hr2:r.2.length<=cs.length:=by have:=ok.2;simp at this;lia
 have hlr:r.2.length<=a9:=aE ();have h3:3<=a9:=aE ();have ep:=dc (r.2.map cT) (by rw[Ye];lia);have ek:(r.2.map eD).map (λk=>D.tup (k.map D.int))=r.2.map aM:=by rw[YE];rfl
 have c2:a8 kA bA MX [.un,.un] (r.2.map aM)=some (r.2.map λc=>aO (cT c)):=aW aM _ r.2 λc _=>by simp[cY,h3]
 have e2:(r.2.map cT).map aO=r.2.map λc=>aO (cT c):=by rw[YE];rfl
 have hn2:=vS (r.2.map cT);rw[e2] at ep hn2;have hm:sG 2 (aX [none,none] (xU 2) kA bA MX) [.sh d0,.sh (.bl e),.ow (.dic (r.2.map eD)),.sh (.lst (r.1.map aM)),sI tb']=some (r.2.map λc=>aO (cT c)):=by
  unfold sG;simp only[aab,aaY,abC,FX,List.set_cons_succ,List.set_cons_zero];have hx:aX [none,none] (xU 2) kA bA MX [.sh d0,.sh (.bl e),.sh (.dif (r.2.map eD)),.sh (.lst (r.1.map aM)),sI tb']=some (r.2.map λc=>aO (cT c)):=by unfold aX xU;simp only[aab,aaY,ek,abC,Ye];rw[Yb hlr];exact c2
  rw[hx];simp only[abC];rw[Yb hn2]
 have hw':cO dX gF [.sh d0,.sh (.bl e),.ow (.dic (cs.map eD)),.ow (.lst []),sI (-1)]=_:=hw;have hrun:nj [.sh d0,.sh (.bl e),.un,.un,.un]=some (.rt (.tup [aQ (cM (r.2.map cT)),.lst (r.1.map aM)])):=by
  unfold nj;rw[aC (ρ':=[.sh d0,.sh (.bl e),.ow (.dic (cs.map eD)),.un,.un]) (by unfold qV;rw[hd];rfl),aC (ρ':=[.sh d0,.sh (.bl e),.ow (.dic (cs.map eD)),.ow (.lst []),.un]) (by simp),aC (ρ':=[.sh d0,.sh (.bl e),.ow (.dic (cs.map eD)),.ow (.lst []),sI (-1)]) (by simp),aC hw'];have hfz:frz 3 [.sh d0,.sh (.bl e),.ow (.dic (r.2.map eD)),dQ (r.1.map aM),sI tb']=[.sh d0,.sh (.bl e),.ow (.dic (r.2.map eD)),.sh (.lst (r.1.map aM)),sI tb']:=by simp[frz]
  show bu (aV (af (aq bM (af (xL (sG 2 (aX [none,none] (xU 2) kA bA MX))) aj)) (af (ak 3) aj))) (frz 3 _)=_;rw[hfz];have hcall:aq bM (af (xL (sG 2 (aX [none,none] (xU 2) kA bA MX))) aj) [.sh d0,.sh (.bl e),.ow (.dic (r.2.map eD)),.sh (.lst (r.1.map aM)),sI tb']=some (aQ (cM (r.2.map cT))):=by exact Nb (FB (Vj hm) rfl) ep
  have ht:=OT (FB hcall (rfl:af (ak 3) aj [.sh d0,.sh (.bl e),.ow (.dic (r.2.map eD)),.sh (.lst (r.1.map aM)),sI tb']=some [.lst (r.1.map aM)])) h2;unfold bu;rw[ht];rfl
 simp[rK,o9,br,hrun,O.d]
def ny{g:XG}{m:XS}{d:D}{l:Zc}{ρ ρ1 ρ2:M.Env}(hg:g d ρ=some ρ1)(hm:m ρ1=some (.nx ρ2)):bR g m (d::l) ρ=bR g m l ρ2:=by rw[d8,hg];dsimp only[Option.bind];rw[hm]
def fe{e:XA} {ρ:M.Env}{l:Zc}(h:e ρ=some l):dS e g m ρ=bR g m l ρ:=by unfold dS;rw[h];rfl
def Fo(e:Bool):R->R->R->Prop
 |ks,[],r=>r=ks
 |ks,c::t,r=>c∈ks/\AX ks e c=true/\Fo e (ks.filter λd=>decide (d≠c)) t r
theorem uw(e:Bool):∀(t:R) {ks r u q:R},Fo e ks t r->Fo e r u q->Fo e ks (t++u) q
 |[],_,_,_,_,h,k=>by
  cases h;exact k
 |c::t,_,_,_,_,h,k=>⟨h.1,h.2.1,uw e t h.2.2 k⟩
theorem CH(e:Bool):∀(pre:R) (s:R×R) {ks:R},pre.Nodup->(∀c∈pre,c∈s.2)->Fo e ks s.1 s.2->Fo e ks (pre.foldl (ba e) s).1 (pre.foldl (ba e) s).2
 |[],_,_,_,_,h=>h
 |c::pre,s,ks,nd,hs,h=>by
  obtain⟨n1,n2⟩:=YH.1 nd;rw[YQ];refine CH e pre _ n2 (λd hd=>(rX e s c d λz=>n1 (by rw[<-z];exact hd)).2 (hs d (Yn _ hd))) ?_;unfold ba;split
  ·exact uw e _ h ⟨hs c Yg,‹_›,rfl⟩
  ·exact h
theorem Gk(e:Bool):∀(l:R) (s:R×R) {ks:R},s.2.Nodup->Fo e ks s.1 s.2->Fo e ks (l.foldl (eT e) s).1 (l.foldl (eT e) s).2
 |[],_,_,_,h=>h
 |d::l,s,ks,n,h=>by rw[YQ];exact Gk e l _ (Gi e s d n).1 (uw e _ h (CH e _ ([],s.2) (zD n _ _) (λc hc=>p0 hc) rfl))
theorem Dq(e:Bool):∀(n:Nat) (t ks:R) {ks0:R},ks.Nodup->Fo e ks0 t ks->Fo e ks0 (ee e n t ks).1 (ee e n t ks).2
 |0,_,_,_,_,h=>h
 |n+1,t,ks,_,nk,h=>by
  rw[ee];split
  ·exact h
  ·exact Dq e n _ _ (uq e nk).1 (uw e _ h (Gk e sideL ([],ks) nk rfl))
theorem Dp(e:Bool):∀(n:Nat) (t ks:R),ks.Nodup->ks.length<n->(gk e (ee e n t ks).2).1=[]
 |0,_,_,_,h=>()
 |n+1,t,ks,nk,h=>by
  rw[ee];split
  ·assumption
  ·rename_i hne;have ok:=uq e nk;have:(gk e ks).1.length≠0:=λz=>hne (acY z);exact Dp e n _ _ ok.1 ()
theorem CG(e:Bool):∀(l:R) (s:R×R),s.1.length<=(l.foldl (ba e) s).1.length
 |[],_=>Yi _
 |c::l,s=>by
  rw[YQ];refine Yr ?_ (CG e l _);unfold ba;split
  ·show s.1.length<=(s.1++[c]).length;simp
  ·exact Yi _
theorem Ga(e:Bool):∀(l:R) (s:R×R),(l.foldl (ba e) s).1=s.1->∀c∈l,AX s.2 e c=false
 |[],_,_,_,h=>by cases h
 |c::l,s,h,d,hd=>by
  rw[YQ] at h;cases q:AX s.2 e c with
  |true=>
   have e1:ba e s c=(s.1++[c],s.2.filter λd=>decide (d≠c)):=by unfold ba;rw[q];rfl
   have:=CG e l (ba e s c);rw[h,e1] at this;simp at this;lia
  |false=>
   have e1:ba e s c=s:=by unfold ba;rw[q];rfl
   rw[e1] at h;rcases Yj.1 hd with rfl|hd
   ·exact q
   ·exact Ga e l s h d hd
theorem Gj(e:Bool):∀(l:R) (s:R×R),s.1.length<=(l.foldl (eT e) s).1.length
 |[],_=>Yi _
 |d::l,s=>by rw[YQ];refine Yr ?_ (Gj e l _);show s.1.length<=(s.1++_).length;simp
theorem LB(e:Bool):∀(l:R) (s:R×R),(l.foldl (eT e) s).1=s.1->∀d∈l,(dN e (cB s.2 d.1 d.2) s.2).1=[]
 |[],_,_,_,h=>by cases h
 |d::l,s,h,d',hd=>by
  rw[YQ] at h;have h1:=Gj e l (eT e s d);rw[h] at h1;have e0:(eT e s d).1=s.1++(dN e (cB s.2 d.1 d.2) s.2).1:=rfl;have z:(dN e (cB s.2 d.1 d.2) s.2).1=[]:=by rw[e0,Yl] at h1;exact acY ()
  have z2:(dN e (cB s.2 d.1 d.2) s.2).2=s.2:=rY e _ ([],s.2) z;have e1:eT e s d=s:=by show (s.1++(dN e (cB s.2 d.1 d.2) s.2).1,(dN e (cB s.2 d.1 d.2) s.2).2)=s;rw[z,z2,YK]
  rw[e1] at h;rcases Yj.1 hd with rfl|hd
  ·exact z
  ·exact LB e l s h d' hd
end P
namespace Tp
abbrev aH:=Int×Int
inductive Cn(N:aH->aH->Prop)(S:aH->Prop)(a:aH):aH->Prop
 |refl:Cn N S a a
 |step {b c:aH}:Cn N S a b->N b c->S c->Cn N S a c
def Cn.trans(h:Cn N S a b)(k:Cn N S b c):Cn N S a c:=by
 induction k with
 |refl=>exact h
 |step _ n s ih=>exact ih.step n s
def Cn.mem{S:aH->Prop}{a:aH}(ha:S a)(h:Cn N S a b):S b:=by
 cases h with
 |refl=>exact ha
 |step _ _ s=>exact s
def Cn.symm{N:aH->aH->Prop}(hN:∀a b,N a b->N b a){S:aH->Prop}{a b:aH}(ha:S a)(h:Cn N S a b):Cn N S b a:=by
 induction h with
 |refl=>exact .refl
 |step h n s ih=>exact (Cn.refl.step (hN _ _ n) (h.mem ha)).trans ih
def Cn.mono{S S':aH->Prop}(h:∀c,S c->S' c) (k:Cn N S a b):Cn N S' a b:=by
 induction k with
 |refl=>exact .refl
 |step _ n s ih=>exact ih.step n (h _ s)
def Xf{N:aH->aH->Prop}(hN:∀a b,N a b->N b a)(hi:∀a,¬N a a){S:aH->Prop}{x:aH}(L:∀u v,N x u->N x v->S u->S v->Cn N (λc=>S c/\c≠x) u v){a b:aH}(ha:S a)(hx:a≠x)(h:Cn N S a b):(b≠x->Cn N (λc=>S c/\c≠x) a b)/\(b=x->∀u,N x u->S u->Cn N (λc=>S c/\c≠x) a u):=by
 induction h with
 |refl=>exact⟨λ_=>.refl,λe=>absurd e hx⟩
 | @step b c h n s ih=>
  constructor
  ·intro hc;by_cases hb:b=x
   ·subst hb;exact ih.2 rfl c n s
   ·exact (ih.1 hb).step n ⟨s,hc⟩
  ·intro hc u hu su;subst hc;have hb:b≠c:=λe=>hi c (e▸n);exact (ih.1 hb).trans (L b u (hN _ _ n) hu (h.mem ha) su)
structure ZL(N:aH->aH->Prop)(S S':aH->Prop):Prop where
 sub:∀c,S' c->S c
 cn:∀a b,S' a->S' b->Cn N S a b->Cn N S' a b
 all:∀a,S a->∃b,S' b/\Cn N S a b
def ZL.refl(N:aH->aH->Prop)(S:aH->Prop):ZL N S S:=⟨λ_ h=>h,λ_ _ _ _ h=>h,λa h=>⟨a,h,.refl⟩⟩
def ZL.trans{S':aH->Prop}(h:ZL N S S')(k:ZL N S' S''):ZL N S S'' where
 sub c hc:=h.sub c (k.sub c hc)
 cn a b ha hb hc:=k.cn a b ha hb (h.cn a b (k.sub a ha) (k.sub b hb) hc)
 all a ha:=by obtain⟨b,h1,h2⟩:=h.all a ha;obtain⟨c,k1,k2⟩:=k.all b h1;exact⟨c,k1,h2.trans (k2.mono h.sub)⟩
def Kj{N:aH->aH->Prop}(hN:∀a b,N a b->N b a)(hi:∀a,¬N a a){S:aH->Prop}{x:aH}(L:∀u v,N x u->N x v->S u->S v->Cn N (λc=>S c/\c≠x) u v)(one:∃u,N x u/\S u):ZL N S λc=>S c/\c≠x where
 sub c hc:=hc.1
 cn a b ha hb h:=(Xf hN hi L ha.1 ha.2 h).1 hb.2
 all a ha:=by
  by_cases e:a=x
  ·subst e;obtain⟨u,hu,su⟩:=one;exact⟨u,⟨su,λe=>hi a (by rw[e] at hu;exact hu)⟩,Cn.refl.step hu su⟩
  ·exact⟨a,⟨ha,e⟩,.refl⟩
def N8(a b:aH):Prop:=(b.1-a.1,b.2-a.2)∈([(0,-1),(-1,-1),(-1,0),(-1,1),(0,1),(1,1),(1,0),(1,-1)]:List (Int×Int))
def N4(a b:aH):Prop:=(b.1-a.1,b.2-a.2)∈([(0,-1),(-1,0),(0,1),(1,0)]:List (Int×Int))
def Fh(a b:aH)(h:N8 a b):N8 b a:=by
 have key:∀d∈([(0,-1),(-1,-1),(-1,0),(-1,1),(0,1),(1,1),(1,0),(1,-1)]:List (Int×Int)),(-d.1,-d.2)∈([(0,-1),(-1,-1),(-1,0),(-1,1),(0,1),(1,1),(1,0),(1,-1)]:List (Int×Int)):=by decide
 have:=key _ h;unfold N8;dsimp only at this;rwa[show a.1-b.1 = -(b.1-a.1) by lia,show a.2-b.2 = -(b.2-a.2) by lia]
def m8(a b:aH)(h:N4 a b):N4 b a:=by
 have key:∀d∈([(0,-1),(-1,0),(0,1),(1,0)]:List (Int×Int)),(-d.1,-d.2)∈([(0,-1),(-1,0),(0,1),(1,0)]:List (Int×Int)):=by decide
 have:=key _ h;unfold N4;dsimp only at this;rwa[show a.1-b.1 = -(b.1-a.1) by lia,show a.2-b.2 = -(b.2-a.2) by lia]
def Qf(a:aH):¬N8 a a:=by unfold N8;rw[ac1,ac1];decide
def Qe(a:aH):¬N4 a a:=by unfold N4;rw[ac1,ac1];decide
def rg:Nat->Int×Int
 |0=>(0,-1)|1=>(-1,-1)|2=>(-1,0)|3=>(-1,1)|4=>(0,1)|5=>(1,1)|6=>(1,0)|_=>(1,-1)
def Wq(i j:Nat):Bool:=(i+1)%8==j || (j+1)%8==i || i%2==0&&((i+2)%8==j || (j+2)%8==i)
def Wp(i j:Nat):Bool:=(i+1)%8==j || (j+1)%8==i
def gr(ad:Nat->Nat->Bool)(c:Nat->Bool)(l:List Nat):List Nat:=(List.range 8).filter λk=>l.contains k || c k&&l.any λi=>ad i k
def Vh(ad:Nat->Nat->Bool)(c:Nat->Bool):Nat->List Nat->List Nat
 |0,l=>l
 |m+1,l=>Vh ad c m (gr ad c l)
def rng(R:Nat->Bool)(ad:Nat->Nat->Bool)(c:Nat->Bool):Bool:=(List.range 8).any λi=>R i&&c i&&(List.range 8).all λk=>!R k || !c k || (Vh ad c 7 [i]).contains k
def Nd:∀n,n<256->P.gV n=1->rng (λ_=>true) Wq n.testBit=true/\rng (λk=>k%2==0) Wp (λk=>!n.testBit k)=true:=by decide +kernel
theorem Kh{N:aH->aH->Prop}{S:aH->Prop}{x:aH}{ad:Nat->Nat->Bool}{c:Nat->Bool}(hc:∀k,k<8->c k=true->S (x.1+(rg k).1,x.2+(rg k).2))(ha:∀i j,i<8->j<8->ad i j=true->N (x.1+(rg i).1,x.2+(rg i).2) (x.1+(rg j).1,x.2+(rg j).2)){a:aH}:∀(m:Nat) (l:List Nat),(∀k∈l,k<8/\Cn N S a (x.1+(rg k).1,x.2+(rg k).2))->∀k∈Vh ad c m l,k<8/\Cn N S a (x.1+(rg k).1,x.2+(rg k).2)
 |0,l,h=>h
 |m+1,l,h=>Kh hc ha m (gr ad c l) λk hk=>by
  obtain⟨h1,h2⟩:=YC.1 hk;have h1:=YM.1 h1;rcases Bool.or_eq_true_iff.1 h2 with h2|h2
  ·exact h k (abg.1 h2)
  ·obtain⟨h3,h4⟩:=aav.1 h2;obtain⟨i,h5,h6⟩:=aau.1 h4;obtain⟨h7,h8⟩:=h i h5;exact⟨h1,h8.step (ha i k h7 h1 h6) (hc k h1 h3)⟩
def PD:∀k,k<8->rg k≠(0,0):=by decide
def Qp:∀i∈List.range 8,∀j∈List.range 8,Wq i j=true->((rg j).1-(rg i).1,(rg j).2-(rg i).2)∈([(0,-1),(-1,-1),(-1,0),(-1,1),(0,1),(1,1),(1,0),(1,-1)]:List (Int×Int)):=by decide
def Qo:∀i∈List.range 8,∀j∈List.range 8,Wp i j=true->((rg j).1-(rg i).1,(rg j).2-(rg i).2)∈([(0,-1),(-1,0),(0,1),(1,0)]:List (Int×Int)):=by decide
def SB:N8 x u↔∃k,k<8/\true=true/\u=(x.1+(rg k).1,x.2+(rg k).2):=by
 unfold N8;constructor
 ·intro h;have key:∀d∈([(0,-1),(-1,-1),(-1,0),(-1,1),(0,1),(1,1),(1,0),(1,-1)]:List (Int×Int)),∃k,k<8/\d=rg k:=by decide
  obtain⟨k,hk,e⟩:=key _ h;exact⟨k,hk,rfl,by rw[<-e];exact Y9 (by dsimp only;lia) (by dsimp only;lia)⟩
 ·rintro⟨k,hk,_,rfl⟩;have key:∀k,k<8->rg k∈([(0,-1),(-1,-1),(-1,0),(-1,1),(0,1),(1,1),(1,0),(1,-1)]:List (Int×Int)):=by decide
  have:=key k hk;dsimp only;rwa[show x.1+(rg k).1-x.1=(rg k).1 by lia,show x.2+(rg k).2-x.2=(rg k).2 by lia]
def Sz:N4 x u↔∃k,k<8/\(k%2==0)=true/\u=(x.1+(rg k).1,x.2+(rg k).2):=by
 unfold N4;constructor
 ·intro h;have key:∀d∈([(0,-1),(-1,0),(0,1),(1,0)]:List (Int×Int)),∃k,k<8/\(k%2==0)=true/\d=rg k:=by decide
  obtain⟨k,hk,hk2,e⟩:=key _ h;exact⟨k,hk,hk2,by rw[<-e];exact Y9 (by dsimp only;lia) (by dsimp only;lia)⟩
 ·rintro⟨k,hk,hk2,rfl⟩;have key:∀k,k<8->(k%2==0)=true->rg k∈([(0,-1),(-1,0),(0,1),(1,0)]:List (Int×Int)):=by decide
  have:=key k hk hk2;dsimp only;rwa[show x.1+(rg k).1-x.1=(rg k).1 by lia,show x.2+(rg k).2-x.2=(rg k).2 by lia]
def PB(x:aH){i j:Nat}:((x.1+(rg j).1)-(x.1+(rg i).1),(x.2+(rg j).2)-(x.2+(rg i).2))=((rg j).1-(rg i).1,(rg j).2-(rg i).2):=Y9 (by dsimp only;lia) (by dsimp only;lia)
def yy{N:aH->aH->Prop}(hN:∀a b,N a b->N b a)(hi:∀a,¬N a a){S:aH->Prop}{x:aH}{ad:Nat->Nat->Bool}{c R:Nat->Bool}(hn:∀u,N x u↔∃k,k<8/\R k=true/\u=(x.1+(rg k).1,x.2+(rg k).2))(ha:∀i j,i<8->j<8->ad i j=true->N (x.1+(rg i).1,x.2+(rg i).2) (x.1+(rg j).1,x.2+(rg j).2))(hc:∀k,k<8->(c k=true↔S (x.1+(rg k).1,x.2+(rg k).2)))(h:rng R ad c=true):ZL N S λc=>S c/\c≠x:=by
 have rne:∀k,k<8->(x.1+(rg k).1,x.2+(rg k).2)≠x:=λk hk e=>PD k hk (Y9 (by have:=Yt Prod.fst e;dsimp only at this;lia) (by have:=Yt Prod.snd e;dsimp only at this;lia));obtain⟨i,hi8,h1⟩:=aau.1 h;have hi8:=YM.1 hi8;obtain⟨h0,h2⟩:=aav.1 h1;obtain⟨h0,h1⟩:=aav.1 h0;have si:=(hc i hi8).mp h1;have all:∀u,N x u->S u->Cn N (λc=>S c/\c≠x) (x.1+(rg i).1,x.2+(rg i).2) u:=λu hu su=>by obtain⟨k,hk,hR,rfl⟩:=(hn u).mp hu;have:=acA.1 h2 k (YM.2 hk);rw[hR,(hc k hk).mpr su] at this;exact (Kh (λk hk q=>⟨(hc k hk).mp q,rne k hk⟩) ha 7 [i] (λk hk=>by rw[Yp.1 hk];exact⟨hi8,.refl⟩) k (abg.1 (~~~this))).2
 exact Kj hN hi (λu v hu hv su sv=>((all u hu su).symm hN ⟨si,rne i hi8⟩).trans (all v hv sv)) ⟨_,(hn _).mpr ⟨i,hi8,h0,rfl⟩,si⟩
def Kl{S:aH->Prop}{x:aH}{n:Nat}(hn:n<256)(ht:P.gV n=1)(hb:∀k,k<8->(n.testBit k=true↔S (x.1+(rg k).1,x.2+(rg k).2)))(hx:S x) :
  ZL N8 S (λc=>S c/\c≠x)/\ZL N4 (λc=>¬(S c/\c≠x)) λc=>¬S c:=by
 obtain⟨c1,c2⟩:=Nd n hn ht;refine⟨yy Fh Qf (λu=>SB) (λi j hi hj h=>by unfold N8;rw[PB];exact Qp i (YM.2 hi) j (YM.2 hj) h) hb c1,?_⟩;have K:=yy (S:=λc=>¬(S c/\c≠x)) m8 Qe (λu=>Sz) (λi j hi hj h=>by unfold N4;rw[PB];exact Qo i (YM.2 hi) j (YM.2 hj) h) (λk hk=>by
  rw[adR,<-adS,hb k hk]
  exact⟨λh z=>h z.1,λh s=>h ⟨s,λe=>PD k hk (Y9 (by have:=Yt Prod.fst e;dsimp only at this;lia) (by have:=Yt Prod.snd e;dsimp only at this;lia))⟩⟩) c2
 rwa[show (λc=>¬(S c/\c≠x)/\c≠x)=λc=>¬S c from funext λc=>propext ⟨λh s=>h.1 ⟨s,h.2⟩,λh=>⟨λs=>h s.1,λe=>h (e▸hx)⟩⟩] at K
open P Rw
def KB(ks ks':List aH):Prop:=ZL N8 (· ∈ ks) (· ∈ ks')/\ZL N4 (· ∉ ks') (· ∉ ks)
def KB.refl(ks:List aH):KB ks ks:=⟨.refl _ _,.refl _ _⟩
def KB.trans(h:KB a b)(k:KB b c):KB a c:=⟨h.1.trans k.1,k.2.trans h.2⟩
def Jo:∀b0 b1 b2 b3 b4 b5 b6 b7:Bool,(λn:Nat=>n<256/\n.testBit 0=b0/\n.testBit 1=b1/\n.testBit 2=b2/\n.testBit 3=b3/\n.testBit 4=b4/\n.testBit 5=b5/\n.testBit 6=b6/\n.testBit 7=b7) ((if b0 then (1:Int) else 0)+((if b1 then 2 else 0)+((if b2 then 4 else 0)+((if b3 then 8 else 0)+((if b4 then 16 else 0)+((if b5 then 32 else 0)+((if b6 then 64 else 0)+((if b7 then 128 else 0)+0)))))))).toNat:=by decide +kernel
def qA(ks:List aH)(x:aH):ke ks x.1 x.2<256/\∀k,k<8->((ke ks x.1 x.2).testBit k=true↔(x.1+(rg k).1,x.2+(rg k).2)∈ks):=by
 obtain⟨h0,h1,h2,h3,h4,h5,h6,h7,h8⟩:ke ks x.1 x.2<256/\(ke ks x.1 x.2).testBit 0=decide ((x.1+0,x.2 + -1)∈ks)/\(ke ks x.1 x.2).testBit 1=decide ((x.1 + -1,x.2 + -1)∈ks)/\(ke ks x.1 x.2).testBit 2=decide ((x.1 + -1,x.2+0)∈ks)/\(ke ks x.1 x.2).testBit 3=decide ((x.1 + -1,x.2+1)∈ks)/\(ke ks x.1 x.2).testBit 4=decide ((x.1+0,x.2+1)∈ks)/\(ke ks x.1 x.2).testBit 5=decide ((x.1+1,x.2+1)∈ks)/\(ke ks x.1 x.2).testBit 6=decide ((x.1+1,x.2+0)∈ks)/\(ke ks x.1 x.2).testBit 7=decide ((x.1+1,x.2 + -1)∈ks):=Jo _ _ _ _ _ _ _ _;refine⟨h0,λk hk=>?_⟩;have:k=0\/k=1\/k=2\/k=3\/k=4\/k=5\/k=6\/k=7:=()
 rcases this with rfl|rfl|rfl|rfl|rfl|rfl|rfl|rfl
 ·rw[h1,YO];rfl
 ·rw[h2,YO];rfl
 ·rw[h3,YO];rfl
 ·rw[h4,YO];rfl
 ·rw[h5,YO];rfl
 ·rw[h6,YO];rfl
 ·rw[h7,YO];rfl
 ·rw[h8,YO];rfl
def vd{ks:List aH}{e:Bool} (h:AX ks e c=true):gV (ke ks c.1 c.2)=1:=by unfold AX Ta at h;exact eq_of_beq (aav.1 h).1
def Km{ks:List aH}{e:Bool}{c:aH}(hc:c∈ks)(h:AX ks e c=true):KB ks (ks.filter λd=>decide (d≠c)):=by
 obtain⟨h1,h2⟩:=qA ks c;have m:∀d,d∈(ks.filter λd=>decide (d≠c))↔d∈ks/\d≠c:=λd=>by rw[YC,YO]
 have k:=Kl (S:=(· ∈ ks)) h1 (vd h) h2 hc;unfold KB;rw[show ((· ∈ (ks.filter λd=>decide (d≠c))):aH->Prop)=λd=>d∈ks/\d≠c from funext λd=>propext (m d),show ((· ∉ (ks.filter λd=>decide (d≠c))):aH->Prop)=λd=>¬(d∈ks/\d≠c) from funext λd=>propext (not_congr (m d))];exact k
def N8_iff:N8 a b↔(-1<=b.1-a.1/\b.1-a.1<=1)/\(-1<=b.2-a.2/\b.2-a.2<=1)/\¬(b.1=a.1/\b.2=a.2):=by
 unfold N8;rw[show (b.1=a.1/\b.2=a.2)↔(b.1-a.1=0/\b.2-a.2=0) from and_congr Int.sub_eq_zero.symm Int.sub_eq_zero.symm];generalize b.1-a.1=x;generalize b.2-a.2=y;constructor
 ·intro h;have:∀p∈([(0,-1),(-1,-1),(-1,0),(-1,1),(0,1),(1,1),(1,0),(1,-1)]:List (Int×Int)),(-1<=p.1/\p.1<=1)/\(-1<=p.2/\p.2<=1)/\¬(p.1=0/\p.2=0):=by decide
  exact this _ h
 ·rintro⟨⟨h1,h2⟩,⟨h3,h4⟩,h5⟩;have key:∀x:Int,-1<=x->x<=1->x = -1\/x=0\/x=1:=λx a b=>by omega
  rcases key x h1 h2 with rfl|rfl|rfl<;>rcases key y h3 h4 with rfl|rfl|rfl<;>first|decide|exact absurd ⟨rfl,rfl⟩ h5
def N4_iff:N4 a b↔(b.1=a.1/\(b.2=a.2+1\/b.2=a.2-1))\/(b.2=a.2/\(b.1=a.1+1\/b.1=a.1-1)):=by unfold N4;simp only[Yj,abb,abc,acr];lia
def On(c:aH)(t:Eu.T3):Prop:=t.1=c.2/\t.2.1<=c.1/\c.1<=t.2.2
def Av{N:aH->aH->Prop}(hN:∀a b,N a b->N b a)(h1:∀a b:aH,b.2=a.2->b.1=a.1+1->N a b){S:aH->Prop} (ht:∀c,On c t->S c){a b:aH}(ha:On a t)(hb:On b t):Cn N S a b:=by
 have go:∀(n:Nat) (a b:aH),On a t->On b t->b.1=a.1+n->Cn N S a b:=by
  intro n;induction n with
  |zero=>
   intro a b ha hb e;rw[show b=a from Y9 () (by have:=ha.1;have:=hb.1;lia)];exact .refl
  |succ n ih=>
   intro a b ha hb e;have hc:On (b.1-1,b.2) t:=⟨hb.1,by have:=ha.2.1;dsimp only;lia,by have:=hb.2.2;dsimp only;lia⟩
   exact (ih a _ ha hc (by dsimp only;lia)).step (h1 _ _ rfl (by dsimp only;lia)) (ht b hb)
 by_cases h:a.1<=b.1
 ·exact go (b.1-a.1).toNat a b ha hb ()
 ·exact (go (a.1-b.1).toNat b a hb ha ()).symm hN (ht b hb)
def DV{k:Int}{N:aH->aH->Prop}(hN:∀a b,N a b->N b a)(h1:∀a b:aH,b.2=a.2->b.1=a.1+1->N a b)(hT:∀s t:Eu.T3,s.2.1<=s.2.2->t.2.1<=t.2.2->Eu.Touch k s t->∃a b,On a s/\On b t/\N a b){S:aH->Prop}{X:List Eu.T3}(hX:∀t∈X,t.2.1<=t.2.2/\∀c,On c t->S c){s t:Eu.T3}(hs:s∈X)(h:Eu.Con k X s t):∀a b,On a s->On b t->Cn N S a b:=by
 induction h with
 |refl=>exact λa b ha hb=>Av hN h1 (hX s hs).2 ha hb
 | @step t u h ht hu ih=>intro a b ha hb;have tX:=h.mem hs;obtain⟨c,d,hc,hd,n⟩:=hT t u (hX t tX).1 (hX u hu).1 ht;exact ((ih a c ha hc).step n ((hX u hu).2 d hd)).trans (Av hN h1 (hX u hu).2 hd hb)
def R0(s t:Eu.T3)(hs:s.2.1<=s.2.2)(ht:t.2.1<=t.2.2)(h:Eu.Touch 1 s t):∃a b,On a s/\On b t/\N8 a b:=by
 obtain⟨h1,h2,h3⟩:=h;by_cases e:s.2.1<=t.2.1
 ·by_cases e2:t.2.1<=s.2.2
  ·exact⟨(t.2.1,s.1),(t.2.1,t.1),⟨rfl,e,e2⟩,⟨rfl,Yw _,ht⟩,N8_iff.2 (by dsimp only;lia)⟩
  ·exact⟨(s.2.2,s.1),(t.2.1,t.1),⟨rfl,hs,Yw _⟩,⟨rfl,Yw _,ht⟩,N8_iff.2 (by dsimp only;lia)⟩
 ·by_cases e2:s.2.1<=t.2.2
  ·exact⟨(s.2.1,s.1),(s.2.1,t.1),⟨rfl,Yw _,hs⟩,⟨rfl,by dsimp only;lia,e2⟩,N8_iff.2 (by dsimp only;lia)⟩
  ·exact⟨(s.2.1,s.1),(t.2.2,t.1),⟨rfl,Yw _,hs⟩,⟨rfl,ht,Yw _⟩,N8_iff.2 (by dsimp only;lia)⟩
def Mv(s t:Eu.T3)(hs:s.2.1<=s.2.2)(ht:t.2.1<=t.2.2)(h:Eu.Touch 0 s t):∃a b,On a s/\On b t/\N4 a b:=by
 obtain⟨h1,h2,h3⟩:=h;by_cases e:s.2.1<=t.2.1
 ·exact⟨(t.2.1,s.1),(t.2.1,t.1),⟨rfl,e,by dsimp only;lia⟩,⟨rfl,Yw _,ht⟩,N4_iff.2 (by dsimp only;lia)⟩
 ·exact⟨(s.2.1,s.1),(s.2.1,t.1),⟨rfl,Yw _,hs⟩,⟨rfl,by dsimp only;lia,by dsimp only;lia⟩,N4_iff.2 (by dsimp only;lia)⟩
def O6{N:aH->aH->Prop}{S:aH->Prop}{W:List Eu.T3}(hW:∀g∈W,∀a b,On a g->N a b->S b->∃g'∈W,On b g'){a b:aH}(h:Cn N S a b):(∃g∈W,On a g)->∃g∈W,On b g:=by
 induction h with
 |refl=>exact λh=>h
 | @step b c _ n s ih=>intro h;obtain⟨g,hg,ho⟩:=ih h;exact hW g hg b c ho n s
end Tp
namespace P
open PySem L2 M Rw
def ZE{c:Tp.aH}:cP p c.1 c.2↔∃t∈am p,Tp.On c t:=by rw[<-eY];exact aak
def Ub(c:aJ p){s t:bD}(hs:s∈am p)(ht:t∈am p) (ha:Tp.On a s)(hb:Tp.On b t)(n:Tp.N8 a b):s=t\/Eu.Touch 1 s t:=by
 obtain⟨n1,n2,n3⟩:=Tp.N8_iff.1 n;obtain⟨a1,a2,a3⟩:=ha;obtain⟨b1,b2,b3⟩:=hb;by_cases e:s=t
 ·exact .inl e
 ·right;by_cases r:s.1=t.1
  ·have:=(qf c).sp s hs t ht e r;lia
  ·exact⟨(),(),()⟩
def E9(c:aJ p){W:List bD}{s:bD}(hs:s∈am p)(hW:∀t,t∈W↔Eu.Con 1 (am p) s t) (ha:∃t∈W,Tp.On a t):(∃t∈W,Tp.On b t)↔Tp.Cn Tp.N8 (λd=>cP p d.1 d.2) a b:=by
 obtain⟨u,hu,au⟩:=ha;have uS:=((hW u).mp hu).mem hs;have cells:∀t∈am p,t.2.1<=t.2.2/\∀d,Tp.On d t->cP p d.1 d.2:=λt ht=>⟨(qf c).ok t ht,λd hd=>ZE.2 ⟨t,ht,hd⟩⟩
 constructor
 ·rintro⟨t,ht,bt⟩;exact Tp.DV Tp.Fh (λa b e1 e2=>Tp.N8_iff.2 ()) Tp.R0 cells uS ((((hW u).mp hu).symm hs).trans ((hW t).mp ht)) a b au bt
 ·intro h;refine Tp.O6 (λg hg d e hd n he=>?_) h ⟨u,hu,au⟩;obtain⟨t,ht,et⟩:=ZE.1 he;have gS:=((hW g).mp hg).mem hs;rcases Ub c gS ht hd et n with q|q
  ·exact⟨t,q▸hg,et⟩
  ·exact⟨t,(hW t).mpr (((hW g).mp hg).step q ht),et⟩
end P
namespace Tp
def pJ(c:aH)(W:List Eu.T3):Prop:=∃t∈W,On c t
structure Fm(N:aH->aH->Prop)(S O:aH->Prop)(A:List (List Eu.T3)):Prop where
 ne:∀W∈A,∃a,pJ a W
 sub:∀W∈A,∀a,pJ a W->S a/\¬O a
 cl:∀W∈A,∀a b,pJ a W->(pJ b W↔Cn N S a b)
 cov:∀b,S b->¬O b->∃W∈A,pJ b W
 dj:A.Pairwise λV W=>∀c,pJ c V->¬pJ c W
def Fm.ix(f:Fm N S O A){i j:Nat}(hi:i<A.length)(hj:j<A.length) (h1:pJ c A[i])(h2:pJ c A[j]):i=j:=by
 have pw:=aaJ.1 f.dj;rcases Nat.lt_trichotomy i j with h|h|h
 ·exact absurd h2 (pw i j hi hj h c h1)
 ·exact h
 ·exact absurd h1 (pw j i hj hi h c h2)
def nG{S':aH->Prop} (K:ZL N S S')(fA:Fm N S O A)(fB:Fm N S' O B){i:Nat}(hi:i<A.length):∃j,∃hj:j<B.length,(∀b,pJ b B[j]->pJ b A[i])/\∀k,∀hk:k<B.length,(∃b,pJ b B[k]/\pJ b A[i])->k=j:=by
 obtain⟨a,ha⟩:=fA.ne _ (YV hi);obtain⟨sa,oa⟩:=fA.sub _ (YV hi) a ha;obtain⟨b,sb,ab⟩:=K.all a sa;have hb:=(fA.cl _ (YV hi) a b ha).mpr ab;obtain⟨_,ob⟩:=fA.sub _ (YV hi) b hb;obtain⟨V,hV,bV⟩:=fB.cov b sb ob;obtain⟨j,hj,rfl⟩:=acG hV;refine⟨j,hj,λc hc=>?_,λk hk ⟨c,ck,ca⟩=>?_⟩
 ·exact (fA.cl _ (YV hi) b c hb).mpr (((fB.cl _ (YV hj) b c bV).mp hc).mono K.sub)
 ·have sc:=(fB.sub _ (YV hk) c ck).1;have:=(fB.cl _ (YV hj) b c bV).mpr (K.cn b c sb sc ((fA.cl _ (YV hi) b c hb).mp ca));exact fB.ix hk hj ck this
def KS{S':aH->Prop} (K:ZL N S S')(fA:Fm N S O A)(fB:Fm N S' O B):A.length=B.length:=by
 have inj:∀ {n m:Nat} (f:Nat->Nat),(∀i,i<n->f i<m)->(∀i j,i<n->j<n->f i=f j->i=j)->n<=m:=λ{n m} f h1 h2=>by
  have:=P.nF (l:=(List.range n).map f) (m:=List.range m) (abT.2 (aaa.2 (abU (λ{a b} ha hb (hn:a≠b) e=>hn (h2 a b (YM.1 ha) (YM.1 hb) e)) acV))) λx hx=>by obtain⟨i,hi,rfl⟩:=Ym.1 hx;exact YM.2 (h1 i (YM.1 hi))
  simpa using this
 apply Nat.le_antisymm
 ·-- each of A has its own of B
  refine inj (λi=>if h:i<A.length then Classical.choose (nG K fA fB h) else 0) (λi hi=>?_) λi j hi hj e=>?_
  ·rw[aaL hi];exact (abD (nG K fA fB hi)).1
  ·rw[aaL hi,aaL hj] at e;obtain⟨h1,h2,_⟩:=abD (nG K fA fB hi);obtain⟨k1,k2,_⟩:=abD (nG K fA fB hj);obtain⟨b,hb⟩:=fB.ne _ (YV h1);refine fA.ix hi hj (h2 b hb) (k2 b ?_);simp only[e] at hb;exact hb
 ·have up:∀j,j<B.length->∃i,∃hi:i<A.length,∃hj:j<B.length,∃b,pJ b B[j]/\pJ b A[i]:=λj hj=>by
   obtain⟨b,hb⟩:=fB.ne _ (YV hj);obtain⟨sb,ob⟩:=fB.sub _ (YV hj) b hb;obtain⟨W,hW,bW⟩:=fA.cov b (K.sub b sb) ob;obtain⟨i,hi,rfl⟩:=acG hW;exact⟨i,hi,hj,b,hb,bW⟩
  refine inj (λj=>if h:j<B.length then Classical.choose (up j h) else 0) (λj hj=>?_) λi j hi hj e=>?_
  ·rw[aaL hj];exact (abD (up j hj)).1
  ·rw[aaL hi,aaL hj] at e;obtain⟨h1,_,b,b1,b2⟩:=abD (up i hi);obtain⟨k1,_,d,d1,d2⟩:=abD (up j hj);obtain⟨m,hm,_,un⟩:=nG K fA fB h1;rw[un i hi ⟨b,b1,b2⟩,un j hj ⟨d,d1,by simp only[e];exact d2⟩]
end Tp
namespace P
open PySem L2 M Rw
def y7(c:cb r)(a b:Int):f9 r a b=true↔(∃s∈r,s.1<=a)/\∃q∈r,b<=q.2:=by
 cases r with
 |nil=>exact⟨λh=>(by cases h),λ⟨⟨_,h,_⟩,_⟩=>by cases h⟩
 |cons s t=>
  rcases aaZ (s::t) with e|⟨r0,q,e⟩
  ·cases e
  rw[aa0] at e;rw[EZ s t q a b (by rw[e];simp),Y3,YO,YO];have c2:=(Zp.1 c).2.1;have c1:=(Zp.1 c).1;have hq:q∈s::t:=by rw[e];simp
  rw[e] at c;have c4:=ZF.1 c;constructor
  ·exact λh=>⟨⟨s,Yg,h.1⟩,q,hq,h.2⟩
  ·rintro⟨⟨s',h1,h2⟩,q',h3,h4⟩;constructor
   ·rcases Yj.1 h1 with rfl|h1
    ·exact h2
    ·have:=c2 s' h1;lia
   ·rw[e] at h3;rcases Yv.1 h3 with h3|h3
    ·have:=c4.2.2 q' h3;have:=c4.2.1;lia
    ·rw[Yp.1 h3] at h4;exact h4
def zG(c:aJ p)(t:bD):t∈am (lR p)↔t.2∈cU (aK p t.1):=by
 rw[Cb];constructor
 ·rintro⟨g,hg,e,h⟩;rw[e,kh c hg];exact h
 ·intro h;by_cases k:∃g∈p,g.1=t.1
  ·obtain⟨g,hg,e⟩:=k;rw[<-e,kh c hg] at h;exact⟨g,hg,e.symm,h⟩
  ·rw[iY λg hg e=>k ⟨g,hg,e⟩] at h;cases h
def far(ts:List bD):∃M:Int,0<M/\∀t∈ts,(-M<t.1/\t.1<M) /\ -M<t.2.1/\t.2.2<M:=by
 induction ts with
 |nil=>exact⟨1,(),λ_ h=>by cases h⟩
 |cons t ts ih=>
  obtain⟨M,h0,h⟩:=ih;refine⟨M+t.1.natAbs+t.2.1.natAbs+t.2.2.natAbs+1,(),λs hs=>?_⟩;rcases Yj.1 hs with rfl|hs
  ·exact⟨⟨(),()⟩,(),()⟩
  ·have:=h s hs;exact⟨⟨(),()⟩,(),()⟩
theorem zH:∀ {r:R},cb r->∀x,¬Mem r x->(∀s∈r,x<s.1)\/(∀s∈r,s.2<x)\/∃g∈cU r,g.1<=x/\x<=g.2
 |[],_,x,_=>.inl λs h=>by cases h
 |[p],_,x,h=>by
  by_cases k:x<p.1
  ·exact .inl λs hs=>by rw[Yp.1 hs];exact k
  ·refine .inr (.inl λs hs=>?_);rw[Yp.1 hs];exact adT.1 λz=>h ⟨p,Yg,(),z⟩
 |p::q::t,c,x,h=>by
  obtain⟨c1,c2,c3⟩:=Zp.1 c;have hp:x<p.1\/p.2<x:=by apply aaN;intro z;exact h ⟨p,Yg,(),()⟩
  have hq:=c2 q Yg;rcases zH c3 x λ⟨s,hs,k⟩=>h ⟨s,Yn _ hs,k⟩ with k|k|⟨g,g1,g2⟩
  ·rcases hp with hp|hp
   ·refine .inl λs hs=>?_;rcases Yj.1 hs with rfl|hs
    ·exact hp
    ·exact k s hs
   ·exact .inr (.inr ⟨(p.2+1,q.1-1),by rw[j6];exact Yg,by dsimp only;lia,by have:=k q Yg;dsimp only;lia⟩)
  ·refine .inr (.inl λs hs=>?_);rcases Yj.1 hs with rfl|hs
   ·have:=k q Yg;have:=(Zp.1 c3).1;lia
   ·exact k s hs
  ·exact .inr (.inr ⟨g,by rw[j6];exact Yn _ g1,g2⟩)
theorem JY:∀ {r:R},cb r->∀g∈cU r,g.1<=g.2/\(∃s∈r,s.2+1=g.1)/\(∃s∈r,g.2+1=s.1)/\∀x,g.1<=x->x<=g.2->¬Mem r x
 |[],_,g,h=>by cases h
 |[p],_,g,h=>by cases h
 |p::q::t,c,g,h=>by
  obtain⟨c1,c2,c3⟩:=Zp.1 c;have hq:=c2 q Yg;have hq2:=Zp.1 c3;rw[j6] at h;rcases Yj.1 h with rfl|hg
  ·refine⟨by dsimp only;lia,⟨p,Yg,rfl⟩,⟨q,Yn _ Yg,by dsimp only;lia⟩,λx x1 x2 ⟨s,hs,k1,k2⟩=>?_⟩;dsimp only at x1 x2;rcases Yj.1 hs with rfl|hs
   ·lia
   ·rcases Yj.1 hs with rfl|hs
    ·lia
    ·have:=hq2.2.1 s hs;lia
  ·obtain⟨h1,⟨s,s1,s2⟩,⟨u,u1,u2⟩,h4⟩:=JY c3 g hg;refine⟨h1,⟨s,Yn _ s1,s2⟩,⟨u,Yn _ u1,u2⟩,λx x1 x2 ZP=>?_⟩;obtain⟨z,hz,k1,k2⟩:=ZP;rcases Yj.1 hz with rfl|hz
   ·have:=zI t q c3 g hg;lia
   ·exact h4 x x1 x2 ⟨z,hz,k1,k2⟩
def L3(c:aJ p){s t:bD}(hs:s∈am p)(ht:t∈am p) (h1:Tp.On a s)(h2:Tp.On a t):s=t:=by apply aaN;intro hn;obtain⟨a1,a2,a3⟩:=h1;obtain⟨b1,b2,b3⟩:=h2;have:=(qf c).sp s hs t ht hn ();lia
def JM(c:aJ p){k:Int} (F:Eu.Fam k (am p) Fs):Fs.Pairwise λV W=>∀a,Tp.pJ a V->¬Tp.pJ a W:=by refine abU ?_ F.dj;rintro V W hV hW h a ⟨s,hs,h1⟩ ⟨t,ht,h2⟩;obtain⟨r,r1,r2⟩:=F.cl V hV;obtain⟨u,u1,u2⟩:=F.cl W hW;have:=L3 c (((r2 s).mp hs).mem r1) (((u2 t).mp ht).mem u1) h1 h2;subst this;exact h s hs ht
def yS(c:aJ p) (F:Eu.Fam 1 (am p) Fs):Tp.Fm Tp.N8 (λd=>cP p d.1 d.2) (λ_=>False) Fs where
 ne W hW:=by obtain⟨s,h1,h2⟩:=F.cl W hW;exact⟨(s.2.1,s.1),s,(h2 s).mpr .refl,rfl,Yw _,(qf c).ok s h1⟩
 sub W hW a ha:=by obtain⟨s,h1,h2⟩:=F.cl W hW;obtain⟨t,ht,h⟩:=ha;exact⟨ZE.2 ⟨t,((h2 t).mp ht).mem h1,h⟩,id⟩
 cl W hW a b ha:=by obtain⟨s,h1,h2⟩:=F.cl W hW;exact E9 c h1 h2 ha
 cov b hb _:=by obtain⟨t,ht,h⟩:=ZE.1 hb;obtain⟨W,hW,h2⟩:=F.all t ht;exact⟨W,hW,t,h2,h⟩
 dj:=JM c F
section
variable {p:bG}(c:aJ p){M:Int}(h0:0<M)(hM:∀t∈am p,(-M<t.1/\t.1<M) /\ -M<t.2.1/\t.2.2<M)
include c
theorem nK(x y:Int):cP p x y↔∃s∈aK p y,s.1<=x/\x<=s.2:=by
 rw[show cP p x y↔_ from ZE (c:=(x,y))];constructor
 ·rintro⟨t,ht,e,h⟩;have e:t.1=y:=e;exact⟨t.2,(ki c y t.2).mpr (by rw[<-e];exact ht),h⟩
 ·rintro⟨s,hs,h⟩;exact⟨(y,s),(ki c y s).mp hs,rfl,h⟩
include h0 hM
abbrev TT(p:bG):Tp.aH->Prop:=λd=>¬cP p d.1 d.2
omit h0 in
theorem CB{d:Tp.aH}(h:d.1 <= -M\/M<=d.1\/d.2 <= -M\/M<=d.2):TT p d:=λhd=>by obtain⟨t,ht,e,h1⟩:=ZE.1 hd;have:=hM t ht;lia
theorem ur{y lo hi:Int}(h:∀x,lo<=x->x<=hi->TT p (x,y)){a b:Int}(ha:lo<=a/\a<=hi)(hb:lo<=b/\b<=hi):Tp.Cn Tp.N4 (TT p) (a,y) (b,y):=
 Tp.Av (t:=(y,lo,hi)) Tp.m8 (λa b e1 e2=>Tp.N4_iff.2 ()) (λd hd=>by
  obtain⟨e,h1,h2⟩:=hd;have:=h d.1 h1 h2;rw[show y=d.2 from e] at this
  exact this) ⟨rfl,ha⟩ ⟨rfl,hb⟩
theorem Nf{x:Int}(h:x <= -M\/M<=x)(y y':Int):Tp.Cn Tp.N4 (TT p) (x,y) (x,y'):=by
 have go:∀(n:Nat) (y:Int),Tp.Cn Tp.N4 (TT p) (x,y) (x,y+n):=by
  intro n;induction n with
  |zero=>intro y;rw[show y+((0:Nat):Int)=y by lia];exact .refl
  |succ n ih=>exact λy=>(ih y).step (Tp.N4_iff.2 (by dsimp only;lia)) (CB c hM (by dsimp only;lia))
 by_cases e:y<=y'
 ·have:=go (y'-y).toNat y;rwa[show y+((y'-y).toNat:Int)=y' by lia] at this
 ·have:=go (y-y').toNat y';rw[show y'+((y-y').toNat:Int)=y by lia] at this;exact this.symm Tp.m8 (CB c hM (by dsimp only;lia))
theorem Bx{x:Int}(h:x <= -M\/M<=x)(y:Int):Tp.Cn Tp.N4 (TT p) (x,y) (M,M):=by
 refine (Nf c h0 hM h y M).trans ?_;by_cases e:x<=M
 ·exact ur c h0 hM (lo:=x) (hi:=M) (λz _ _=>CB c hM (by dsimp only;lia)) ⟨Yw _,e⟩ ⟨e,Yw _⟩
 ·exact ur c h0 hM (lo:=M) (hi:=x) (λz _ _=>CB c hM (by dsimp only;lia)) ⟨(),Yw _⟩ ⟨Yw _,()⟩
theorem qM{x y:Int}(h:(∀s∈aK p y,x<s.1)\/∀s∈aK p y,s.2<x):TT p (x,y)/\Tp.Cn Tp.N4 (TT p) (x,y) (M,M):=by
 have no:∀z,(z<=x/\∀s∈aK p y,x<s.1)\/(x<=z/\∀s∈aK p y,s.2<x)->TT p (z,y):=λz hz hd=>by obtain⟨s,hs,h3⟩:=(nK c z y).mp hd;rcases hz with ⟨q,k⟩|⟨q,k⟩<;>(have:=k s hs;lia)
 rcases h with h|h
 ·exact⟨no x (.inl ⟨Yw _,h⟩),(ur c h0 hM (lo:=min x (-M)) (hi:=x) (λz _ k=>no z (.inl ⟨k,h⟩)) (b:=min x (-M)) () ()).trans (Bx c h0 hM (.inl ()) y)⟩
 ·exact⟨no x (.inr ⟨Yw _,h⟩),(ur c h0 hM (lo:=x) (hi:=max x M) (λz k _=>no z (.inr ⟨k,h⟩)) (b:=max x M) () ()).trans (Bx c h0 hM (.inr ()) y)⟩
theorem U5(h:TT p d):(∃g∈am (lR p),Tp.On d g)\/Tp.Cn Tp.N4 (TT p) d (M,M):=by
 rcases zH (cv c d.2) d.1 λk=>h ((nK c d.1 d.2).mpr k) with k|k|⟨g,g1,g2,g3⟩
 ·exact .inr (qM c h0 hM (.inl k)).2
 ·exact .inr (qM c h0 hM (.inr k)).2
 ·exact .inl ⟨(d.2,g),(zG c _).mpr g1,rfl,g2,g3⟩
omit h0 hM in
theorem zF{g:bD}(hg:g∈am (lR p)):g.2.1<=g.2.2/\(∃s∈aK p g.1,s.2+1=g.2.1)/\(∃s∈aK p g.1,g.2.2+1=s.1)/\∀d,Tp.On d g->TT p d:=by obtain⟨h1,h2,h3,h4⟩:=JY (cv c g.1) g.2 ((zG c g).mp hg);refine⟨h1,h2,h3,λd ⟨e,d1,d2⟩ hd=>h4 d.1 d1 d2 ?_⟩;rw[show g.1=d.2 from e];exact (nK c _ _).mp hd
theorem KR{g:bD}(hg:g∈am (lR p))(ho:eG p g=true) (h:Tp.On d g):Tp.Cn Tp.N4 (TT p) d (M,M):=by
 obtain⟨gl,_,_,gT⟩:=zF c hg;have go:∀y,(y=g.1-1\/y=g.1+1)->f9 (aK p y) g.2.1 g.2.2=false->Tp.Cn Tp.N4 (TT p) d (M,M):=λy hy hs=>by
  have one:∀x,g.2.1<=x->x<=g.2.2->TT p (x,y)/\Tp.Cn Tp.N4 (TT p) (x,y) (M,M)->Tp.Cn Tp.N4 (TT p) d (M,M):=λx x1 x2 hpt0=>by obtain⟨k1,k2⟩:=hpt0;have r:Tp.Cn Tp.N4 (TT p) d (x,g.1):=Tp.Av Tp.m8 (λa b e1 e2=>Tp.N4_iff.2 ()) gT h ⟨rfl,x1,x2⟩;exact (r.step (c:=(x,y)) (Tp.N4_iff.2 (by dsimp only;lia)) k1).trans k2
  by_cases a:∃s∈aK p y,s.1<=g.2.1
  ·by_cases b:∃q∈aK p y,g.2.2<=q.2
   ·rw[(y7 (cv c y) _ _).mpr ⟨a,b⟩] at hs;cases hs
   ·exact one g.2.2 gl (Yw _) (qM c h0 hM (.inr λs hs=>adT.1 λz=>b ⟨s,hs,z⟩))
  ·exact one g.2.1 (Yw _) gl (qM c h0 hM (.inl λs hs=>adT.1 λz=>a ⟨s,hs,z⟩))
 unfold eG at ho;rw[adR,Bool.and_eq_false_iff] at ho;rcases ho with h|h
 ·exact go _ (.inl rfl) h
 ·exact go _ (.inr rfl) h
omit h0 hM in
theorem BS{W:List bD}{s:bD}(hs:s∈am (lR p))(hW:∀t,t∈W↔Eu.Con 0 (am (lR p)) s t)(hno:∀g∈W,eG p g=false){g:bD}(hg:g∈W) (ha:Tp.On a g)(n:Tp.N4 a b)(hb:TT p b):∃g'∈W,Tp.On b g':=by
 obtain⟨_,⟨u,u1,u2⟩,⟨v,v1,v2⟩,_⟩:=zF c (((hW g).mp hg).mem hs);obtain⟨a1,a2,a3⟩:=ha;rcases Tp.N4_iff.1 n with ⟨e1,e2⟩|⟨e1,e2⟩
 ·-- above or below
  have sp:f9 (aK p b.2) g.2.1 g.2.2=true:=by
   have:=hno g hg;unfold eG at this;rw[Bool.not_eq_false',Y3] at this;rcases e2 with e|e
   ·rw[show b.2=g.1+1 by lia];exact this.2
   ·rw[show b.2=g.1-1 by lia];exact this.1
  obtain⟨⟨s',s1,s2⟩,q,q1,q2⟩:=(y7 (cv c b.2) g.2.1 g.2.2).mp sp;rcases zH (cv c b.2) b.1 λk=>hb ((nK c b.1 b.2).mpr k) with k|k|⟨o,o1,o2,o3⟩
  ·have:=k s' s1;lia
  ·have:=k q q1;lia
  ·exact⟨(b.2,o),(hW _).mpr (((hW g).mp hg).step ⟨by dsimp only;lia,by dsimp only;lia,by dsimp only;lia⟩ ((zG c (b.2,o)).2 o1)),rfl,o2,o3⟩
 ·-- in the row
  by_cases i:g.2.1<=b.1/\b.1<=g.2.2
  ·exact⟨g,hg,(),i.1,i.2⟩
  ·exfalso;apply hb;rw[nK c];rw[show b.2=g.1 by lia];have cr:=(cv c g.1).1;rcases e2 with e|e
   ·exact⟨v,v1,(),by have:=cr v v1;lia⟩
   ·exact⟨u,u1,by have:=cr u u1;lia,()⟩
theorem BU(F:Eu.Fam 0 (am (lR p)) Gs):Tp.Fm Tp.N4 (TT p) (λd=>Tp.Cn Tp.N4 (TT p) d (M,M)) (Gs.filter λW=>!W.any (eG p)):=by
 have no:∀W∈Gs.filter (λW=>!W.any (eG p)),W∈Gs/\∀g∈W,eG p g=false:=λW hW=>by
  obtain⟨h1,h2⟩:=YC.1 hW;refine⟨h1,λg hg=>?_⟩;cases q:eG p g with
  |false=>rfl
  |true=>rw[aau.2 ⟨g,hg,q⟩] at h2;cases h2
 have cells:∀t∈am (lR p),t.2.1<=t.2.2/\∀d,Tp.On d t->TT p d:=λt ht=>⟨(zF c ht).1,(zF c ht).2.2.2⟩
 have sV:∀W∈Gs.filter (λW=>!W.any (eG p)),∀a b,Tp.pJ a W->Tp.Cn Tp.N4 (TT p) a b->Tp.pJ b W:=λW hW a b ha h=>by obtain⟨h1,h2⟩:=no W hW;obtain⟨s,s1,s2⟩:=F.cl W h1;exact Tp.O6 (λg hg a b ha n hb=>BS c s1 s2 h2 hg ha n hb) h ha
 refine⟨λW hW=>?_,λW hW a ha=>⟨?_,λho=>?_⟩,λW hW a b ha=>⟨λhb=>?_,sV W hW a b ha⟩,λb hb ho=>?_,?_⟩
 ·obtain⟨s,s1,s2⟩:=F.cl W (no W hW).1;exact⟨(s.2.1,s.1),s,(s2 s).mpr .refl,rfl,Yw _,(cells s s1).1⟩
 ·obtain⟨s,s1,s2⟩:=F.cl W (no W hW).1;obtain⟨t,ht,h⟩:=ha;exact (cells t (((s2 t).mp ht).mem s1)).2 a h
 ·obtain⟨s,s1,s2⟩:=F.cl W (no W hW).1;obtain⟨t,ht,e1,e2,e3⟩:=sV W hW a _ ha ho;have tG:=((s2 t).mp ht).mem s1;obtain⟨q,hq,e,_⟩:=(Cb p t).mp tG;have hne:=(c.1 q hq).2;cases hr:q.2 with
  |nil=>exact absurd hr hne
  |cons s r=>have:=hM (q.1,s) (Y8.2 ⟨q,hq,Ym.2 ⟨s,by rw[hr];exact Yg,rfl⟩⟩);have e1:t.1=M:=e1;lia
 ·obtain⟨s,s1,s2⟩:=F.cl W (no W hW).1;obtain⟨u,hu,au⟩:=ha;obtain⟨t,ht,bt⟩:=hb;exact Tp.DV Tp.m8 (λa b e1 e2=>Tp.N4_iff.2 ()) Tp.Mv cells (((s2 u).mp hu).mem s1) ((((s2 u).mp hu).symm s1).trans ((s2 t).mp ht)) a b au bt
 ·rcases U5 c h0 hM hb with ⟨g,hg,bg⟩|h
  ·obtain⟨W,hW,gW⟩:=F.all g hg;refine⟨W,YC.2 ⟨hW,?_⟩,g,gW,bg⟩;cases q:W.any (eG p) with
   |false=>rfl
   |true=>
    exfalso;obtain⟨o,o1,o2⟩:=aau.1 q;obtain⟨s,s1,s2⟩:=F.cl W hW;have oG:=((s2 o).mp o1).mem s1;have on:Tp.On (o.2.1,o.1) o:=⟨rfl,Yw _,(cells o oG).1⟩
    exact ho ((Tp.DV Tp.m8 (λa b e1 e2=>Tp.N4_iff.2 ()) Tp.Mv cells hg ((((s2 g).mp gW).symm s1).trans ((s2 o).mp o1)) b _ bg on).trans (KR c h0 hM oG o2 on))
  ·exact absurd h ho
 ·exact (JM (oX c) F).filter _
end
end P
namespace Tp
open P Rw
theorem Du(e:Bool):∀(t:R) {ks r:R},Fo e ks t r->KB ks r
 |[],_,_,h=>by
  cases h;exact .refl _
 |c::t,_,_,h=>(Km h.1 h.2.1).trans (Du e t h.2.2)
theorem Dv(e:Bool):∀(t:R) {ks r:R},Fo e ks t r->r.Sublist ks/\t.length<=ks.length/\∀c∈t,c∈ks/\c∉r
 |[],_,_,h=>by
  cases h;exact⟨adQ _,YR _,λ_ h=>by cases h⟩
 |c::t,ks,r,h=>by
  obtain⟨h1,h2,h3⟩:=Dv e t h.2.2;have hl:(ks.filter λd=>decide (d≠c)).length<ks.length:=by
   have e1:=abi (p:=λd:aH=>decide (d≠c)) (l:=ks);rcases Nat.lt_or_ge (ks.filter λd=>decide (d≠c)).length ks.length with q|q
   ·exact q
   ·have:=e1.eq_of_length_le q;have hc:=h.1;rw[<-this] at hc;exact absurd rfl (Y6 (YC.1 hc).2)
  refine⟨h1.trans abi,by rw[Yk];lia,λd hd=>?_⟩;rcases Yj.1 hd with rfl|hd
  ·exact⟨h.1,λz=>absurd rfl (Y6 (YC.1 (h1.subset z)).2)⟩
  ·obtain⟨k1,k2⟩:=h3 d hd;exact⟨(YC.1 k1).1,k2⟩
def Il:∀n,n<256->gV n=1->n.testBit 0=false\/n.testBit 2=false\/n.testBit 4=false\/n.testBit 6=false:=by decide +kernel
def NA{ks:R}{e:Bool} (h:AX ks e c=true):∃d∈sideL,(c.1+d.1,c.2+d.2)∉ks:=by
 obtain⟨h1,h2⟩:=qA ks c;have no:∀k,k<8->(ke ks c.1 c.2).testBit k=false->(c.1+(rg k).1,c.2+(rg k).2)∉ks:=λk hk hb hm=>by rw[(h2 k hk).mpr hm] at hb;cases hb
 rcases Il _ h1 (vd h) with q|q|q|q
 ·exact⟨(0,-1),by simp[sideL],no 0 () q⟩
 ·exact⟨(-1,0),by simp[sideL],no 2 () q⟩
 ·exact⟨(0,1),by simp[sideL],no 4 () q⟩
 ·exact⟨(1,0),by simp[sideL],no 6 () q⟩
def HA{e:Bool}{ks:R}(h:(gk e ks).1=[])(c:aH)(hc:c∈ks):AX ks e c=false:=by
 cases q:AX ks e c with
 |false=>rfl
 |true=>obtain⟨d,hd,hn⟩:=NA q;have h2:=Ga e (cB ks d.1 d.2) ([],ks) (LB e sideL ([],ks) h d hd) c (YC.2 ⟨hc,~~~hn⟩);rw[q] at h2;cases h2
def Ms(e:Bool){ks:R}(n:ks.Nodup):∃t r:R,ee e (ks.length+1) [] ks=(t,r)/\Fo e ks t r/\r.Sublist ks/\t.length<=ks.length/\(∀c∈t,c∈ks/\c∉r)/\∀c∈r,AX r e c=false:=by have w:=Dq e (ks.length+1) [] ks n rfl;obtain⟨h1,h2,h3⟩:=Dv e _ w;exact⟨(ee e (ks.length+1) [] ks).1,(ee e (ks.length+1) [] ks).2,Y9 rfl rfl,w,h1,h2,h3,HA (Dp e _ [] ks n (aam _))⟩
def Fm.out{O':aH->Prop} (f:Fm N S O A)(h:∀c,S c->(O c↔O' c)):Fm N S O' A:=
 ⟨f.ne,λW hW a ha=>let ⟨s,o⟩:=f.sub W hW a ha;⟨s,λz=>o ((h a s).mpr z)⟩,f.cl,λb sb ob=>f.cov b sb λz=>ob ((h b sb).mp z),f.dj⟩
def Uv(D ks:List aH)(v:aH):Prop:=∃d∈D,(v.1-d.1,v.2-d.2)∈ks
def Crd(D ks:List aH)(n:Nat):Prop:=∃u:List aH,u.Nodup/\(∀v,v∈u↔Uv D ks v)/\u.length=n
def Crd.uniq{ks:List aH}{n m:Nat}(h:Crd D ks n)(k:Crd D ks m):n=m:=by obtain⟨u,u1,u2,rfl⟩:=h;obtain⟨v,v1,v2,rfl⟩:=k;exact ((aeU u1 v1).mpr λa=>(u2 a).trans (v2 a).symm).length_eq
def Crd.pop{D ks:List aH}{x:aH}{n:Nat}{l:aH->Bool}(lost:∀d∈D,(l d=true↔∀d'∈D,d'=d\/(x.1+d.1-d'.1,x.2+d.2-d'.2)∉ks))(hD:D.Nodup)(hx:x∈ks)(h:Crd D ks n):∃m,Crd D (ks.filter λd=>decide (d≠x)) m/\n=m+(D.filter l).length:=by
 obtain⟨u,u1,u2,rfl⟩:=h;have hm:∀d,d∈(ks.filter λd=>decide (d≠x))↔d∈ks/\d≠x:=λd=>by rw[YC,YO]
 obtain⟨u',n1,m1⟩:∃u':List aH,u'.Nodup/\∀v,v∈u'↔Uv D (ks.filter λd=>decide (d≠x)) v:=by have dec:∀v,Decidable (Uv D (ks.filter λd=>decide (d≠x)) v):=λv=>Classical.propDecidable _;refine⟨u.filter λv=>decide (Uv D (ks.filter λd=>decide (d≠x)) v),abi.nodup u1,λv=>?_⟩;rw[YC,YO,u2];exact⟨λh=>h.2,λh=>⟨let ⟨d,h1,h2⟩:=h;⟨d,h1,((hm _).mp h2).1⟩,h⟩⟩
 refine⟨_,⟨u',n1,m1,rfl⟩,?_⟩;have n2:((D.filter (l)).map λd=>((x.1+d.1,x.2+d.2):aH)).Nodup:=abT.2 (aaa.2 ((abT.1 (abi.nodup hD)).imp λ{a b} hab e=>hab (Y9 (by have:=Yt Prod.fst e;dsimp only at this;lia) (by have:=Yt Prod.snd e;dsimp only at this;lia))));have key:=(aeU u1 (aaq.2 ⟨n1,n2,λa ha b hb e=>?_⟩)).2 λv=>?_
 ·have:=key.length_eq;rw[Yl,Ye] at this;exact this
 ·subst e;obtain⟨d',k1,k2⟩:=(m1 a).mp ha;obtain⟨d,hd,rfl⟩:=Ym.1 hb;obtain⟨g1,g2⟩:=YC.1 hd;obtain⟨k2,k3⟩:=(hm _).mp k2;dsimp only at k2 k3;rcases (lost d g1).mp g2 d' k1 with q|q
  ·subst q;exact k3 (Y9 (by dsimp only;lia) (by dsimp only;lia))
  ·exact q k2
 ·rw[Yv,m1,u2];constructor
  ·rintro⟨d,h1,h2⟩;by_cases q:∃d'∈D,(v.1-d'.1,v.2-d'.2)∈ks/\(v.1-d'.1,v.2-d'.2)≠x
   ·obtain⟨d',q1,q2⟩:=q;exact .inl ⟨d',q1,(hm _).mpr q2⟩
   ·have no:∀d'∈D,(v.1-d'.1,v.2-d'.2)∈ks->(v.1-d'.1,v.2-d'.2)=x:=λd' a b=>aaN λc=>q ⟨d',a,b,c⟩;have ex:=no d h1 h2;have e1:v.1-d.1=x.1:=Yt Prod.fst ex;have e2:v.2-d.2=x.2:=Yt Prod.snd ex;refine .inr (Ym.2 ⟨d,YC.2 ⟨h1,(lost d h1).mpr λd' a=>?_⟩,Y9 (by dsimp only;lia) (by dsimp only;lia)⟩);by_cases b:(v.1-d'.1,v.2-d'.2)∈ks
    ·left;have ex':=no d' a b;have e3:v.1-d'.1=x.1:=Yt Prod.fst ex';have e4:v.2-d'.2=x.2:=Yt Prod.snd ex';exact Y9 () ()
    ·right;rwa[show x.1+d.1-d'.1=v.1-d'.1 by lia,show x.2+d.2-d'.2=v.2-d'.2 by lia]
  ·rintro (⟨d,h1,h2⟩|h)
   ·exact⟨d,h1,((hm _).mp h2).1⟩
   ·obtain⟨d,hd,rfl⟩:=Ym.1 h;refine⟨d,(YC.1 hd).1,?_⟩;dsimp only;rwa[show x.1+d.1-d.1=x.1 by lia,show x.2+d.2-d.2=x.2 by lia]
def dV:List aH:=[(0,0),(1,0),(0,1),(1,1)]
def dU:List aH:=[(0,0),(1,0)]
def dF:List aH:=[(0,0),(0,1)]
def dC:List aH:=[(0,0)]
def QB(d d':aH):Nat:=(List.range 8).findIdx λk=>decide (rg k=(d.1-d'.1,d.2-d'.2))
def Ks(D:List aH)(n:Nat)(d:aH):Bool:=D.all λd'=>decide (d'=d) || !n.testBit (QB d d')
def B5(D:List aH)(n:Nat):Nat:=(D.filter (Ks D n)).length
def uh{D ks:List aH}{x:aH}(h:∀d∈D,∀d'∈D,d'=d\/QB d d'<8/\rg (QB d d')=(d.1-d'.1,d.2-d'.2)):∀d∈D,(Ks D (ke ks x.1 x.2) d=true↔∀d'∈D,d'=d\/(x.1+d.1-d'.1,x.2+d.2-d'.2)∉ks):=λd hd=>by
 unfold Ks;rw[acA];refine forall_congr' λd'=>forall_congr' λhd'=>?_;rcases h d hd d' hd' with q|⟨k1,k2⟩
 ·simp[q]
 ·have:=(qA ks x).2 _ k1;rw[k2,show x.1+(d.1-d'.1)=x.1+d.1-d'.1 by lia,show x.2+(d.2-d'.2)=x.2+d.2-d'.2 by lia] at this;rw[ads,YO,adR,<-adS,this]
def Kt:∀n,n<256->gV n=1->B5 dV n+B5 dC n=B5 dU n+B5 dF n:=by decide +kernel
def UW(ks:R)(z:Int):Prop:=∃a b c d:Nat,Crd dV ks a/\Crd dU ks b/\Crd dF ks c/\Crd dC ks d/\z=(a:Int)-(b+c)+d
theorem GE(e:Bool):∀(t:R) {ks r:R} {z z':Int},Fo e ks t r->UW ks z->UW r z'->z=z'
 |[],ks,r,z,z',h,hpt0,hpt1=>by
  obtain⟨a,b,c,d,h1,h2,h3,h4,h5⟩:=hpt0;obtain⟨a',b',c',d',k1,k2,k3,k4,k5⟩:=hpt1;cases h;rw[h5,k5,h1.uniq k1,h2.uniq k2,h3.uniq k3,h4.uniq k4]
 |x::t,ks,r,z,z',h,hpt0,k=>by obtain⟨a,b,c,d,h1,h2,h3,h4,h5⟩:=hpt0;obtain⟨a',g1,e1⟩:=h1.pop (uh (by decide)) (by decide) h.1;obtain⟨b',g2,e2⟩:=h2.pop (uh (by decide)) (by decide) h.1;obtain⟨c',g3,e3⟩:=h3.pop (uh (by decide)) (by decide) h.1;obtain⟨d',g4,e4⟩:=h4.pop (uh (by decide)) (by decide) h.1;have q:=Kt _ (qA ks x).1 (vd h.2.1);unfold B5 at q;exact GE e t h.2.2 ⟨a',b',c',d',g1,g2,g3,g4,()⟩ k
end Tp
namespace P
open PySem L2 M Rw
def LJ(s0 s1 s2:Sl)(r:R)(z:Int)(hl:r.length<=100):b8 [s0,s1,s2,.ow (.lst (r.map (O.sh∘aM))),sI z]=some (.nx [s0,s1,s2,.ow (.lst ((match r.getLast? with|some q=>if q.2+1=z then r.dropLast++[(q.1,z)] else r++[(z,z)]|none=>[(z,z)]).map (O.sh∘aM))),sI z]):=by
 rcases aaZ r with rfl|⟨r0,q,rfl⟩
 ·have l0:0<a9:=cV ();simp[b8]
 ·rw[aa0] at *;have hp:(0:Int)<r0.length+1:=()
  have hlim:r0.length+1<a9:=cV (by simp at hl;lia);by_cases c:q.2+1=z
  ·simp[b8,hp,hlim,c];refine⟨r0.length,?_,?_⟩
   ·unfold yx;rw[X9 (),Yb ()];congr 1;lia
   ·rw[List.set_append_right _ _ (by simp)];simp
  ·simp[b8,hp,hlim,c]
structure RowIs(r:R)(zs:Zn):Prop where
 can:cb r
 mem:∀u,Mem r u↔u∈zs
 len:r.length<=zs.length
abbrev Sk(z:Int):Int×Int:=(z,z)
def JC{zs:Zn}(hp:zs.Pairwise (· < ·)):RowIs (ka (zs.map Sk)) zs:=by obtain⟨h1,h2⟩:=Cd (l:=zs.map Sk) (ps:=zs.map Sk) (λp h=>by obtain⟨z,_,rfl⟩:=Ym.1 h;exact Yw _) (aaa.2 (hp.imp λh=>Int.le_of_lt h)) λ_=>aak;refine⟨h1,λu=>(h2 u).trans ⟨λ⟨p,h,k⟩=>?_,λh=>⟨_,adU h,Yw _,Yw _⟩⟩,by have:=Cc (zs.map Sk);rwa[Ye] at this⟩;obtain⟨z,hz,rfl⟩:=Ym.1 h;rw[show u=z by dsimp only at k;lia];exact hz
def LH(s0 s1 s2:Sl)(zs:Zn)(hp:zs.Pairwise (· < ·))(hl:zs.length<=80)(v9:Sl):∃r w9,RowIs r zs/\bR (ah 4) b8 (zs.map D.int) [s0,s1,s2,.ow (.lst []),v9]=some (.nx [s0,s1,s2,.ow (.lst (r.map (O.sh∘aM))),w9]):=by
 obtain⟨ρ',k1,w9,rfl⟩:=aY (g:=ah 4) (m:=b8) D.int (λpre ρ=>∃w9,ρ=[s0,s1,s2,.ow (.lst ((ka (pre.map Sk)).map (O.sh∘aM))),w9]) zs [s0,s1,s2,.ow (.lst []),v9] ⟨v9,rfl⟩ (by
  rintro pre z post _ e ⟨w9,rfl⟩;have ZQ:=Yt List.length e;rw[Yl,Yk] at ZQ;rw[e] at hp;have o:=JC (YW.1 hp).1;refine⟨_,_,rfl,.inl (LJ s0 s1 s2 _ z (by have:=o.len;lia)),.sh (.int z),?_⟩;rw[YX,List.map_singleton,vK];unfold Rw.step;cases q:(ka (pre.map Sk)).getLast? with
  |none=>rfl
  |some q'=>
   have hm:=List.mem_of_getLast? q;have:=(YW.1 hp).2.2 q'.2 ((o.mem _).mp ⟨q',hm,o.can.1 q' hm,Yw _⟩) z (by simp);dsimp only;by_cases c:q'.2+1=z
   ·rw[Yb c,Yb (),Yb ()]
   ·rw[X9 c,X9 ()])
 exact⟨_,w9,JC hp,k1⟩
def Iq{ns:Zn}(h:ns.Nodup):(cE ns).Pairwise (· < ·):=by
 have h1:=wL ns;have h2:(cE ns).Nodup:=(c0 ns).nodup_iff.mpr h;exact (h1.and h2).imp λ{a b} z=>by have:=z.1;have:=z.2;lia
def Nk(ns:Zn):(fZ ns).Nodup/\∀u,u∈fZ ns↔u∈ns:=by
 have:∀(l acc:Zn),acc.Nodup->(l.foldl jq acc).Nodup/\∀u,u∈l.foldl jq acc↔u∈acc\/u∈l:=by
  intro l;induction l with
  |nil=>intro acc h;exact⟨h,λu=>by simp⟩
  |cons a l ih=>
   intro acc h;rw[YQ];have hs:(jq acc a).Nodup/\∀u,u∈jq acc a↔u∈acc\/u=a:=by
    unfold jq;by_cases hm:a∈acc
    ·simp[hm,h]
    ·simp[hm];rw[aaq];exact⟨h,by simp,λx hx y hy=>by simp at hy;subst hy;intro e;subst e;exact hm hx⟩
   obtain⟨h1,h2⟩:=ih _ hs.1;exact⟨h1,λu=>#v[h2,hs.2,Yj,or_assoc]⟩
 have:=this ns [] .nil;exact⟨this.1,λu=>by rw[show fZ ns=ns.foldl jq [] from rfl,this.2];simp⟩
def Me(ns:Zn):(cE (fZ ns)).Pairwise (· < ·)/\(∀u,u∈cE (fZ ns)↔u∈ns)/\(cE (fZ ns)).length<=ns.length:=by
 have h:=Nk ns;refine⟨Iq h.1,λu=>#v[(c0 _).mem_iff,h.2],?_⟩;rw[(c0 _).length_eq];have:∀(l acc:Zn),(l.foldl jq acc).length<=acc.length+l.length:=by
  intro l;induction l with
  |nil=>intro acc;simp
  |cons a l ih=>
   intro acc;rw[YQ];have:=ih (jq acc a);have h2:(jq acc a).length<=acc.length+1:=by unfold jq;split<;>simp
   rw[Yk];lia
 have:=this ns [];simpa[fZ] using this
def D8(ns:Zn):aR (ns.map D.int)=some ns:=by
 induction ns with
 |nil=>rfl
 |cons a l ih=>simp[aR,ih]
def PQ{a:XE}{ρ:M.Env}{ns:Zn}(h:a ρ=some (.lst (ns.map D.int)))(hl:ns.length<=300):fb (xL (kx a)) ρ=some ((cE (fZ ns)).map D.int):=by
 have h1:kx a ρ=some ((cE (fZ ns)).map D.int):=by unfold kx;rw[h];simp only[abC,D8];rw[Yb hl]
 unfold fb xL;rw[h1];rfl
def K9(cs:R)(hc:cs.length<=80)(acc:bG)(ha:acc.length<=100)(at':Int)(v3 v4:Sl):∃r w3 w4,RowIs r (cE (fZ ((cs.filter λc=>c.2==at').map (·.1))))/\fw [.sh (.lst (cs.map aM)),.ow (.lst (acc.map (O.sh∘d9))),sI at',v3,v4]=some (.nx [.sh (.lst (cs.map aM)),.ow (.lst ((acc++[(at',r)]).map (O.sh∘d9))),sI at',w3,w4]):=by
 have hfl:=aaG (λc:Int×Int=>c.2==at') cs;have hc2:a8 (ah 0) (xB (az (jd false) (az bL (ag 0) (xC (.int 1))) (ag 1))) (az bL (ag 0) (xC (.int 0))) [.un,sI at'] (cs.map aM)=some (((cs.filter λc=>c.2==at').map (·.1)).map D.int):=by
  have:((cs.filter λc=>c.2==at').map (·.1)).map D.int=cs.filterMap λc=>if c.2=at' then some (D.int c.1) else none:=by
   generalize cs=l;induction l with
   |nil=>rfl
   |cons c l ih=>rw[YJ,Y7,<-ih];by_cases h:c.2=at'<;>simp[h]
  rw[this];refine cc aM _ cs λc _=>?_;by_cases h:c.2=at'<;>simp[cY,h]
 have hln:((cs.filter λc=>c.2==at').map (·.1)).length<=80:=by rw[Ye];lia
 generalize (cs.filter λc=>c.2==at').map (·.1)=xs at hc2 hln ⊢;obtain⟨o1,o2,o3⟩:=Me xs;have lc:cs.length<=a9:=aE ();have lx:xs.length<=a9:=aE ();have la:acc.length<a9:=cV ();have l2:2<=a9:=aE ();obtain⟨r,w4,hr,hk⟩:=LH (.sh (.lst (cs.map aM))) (.ow (.lst (acc.map (O.sh∘d9)))) (.sh (.int at')) (cE (fZ xs)) o1 () v4;have lr:r.length<=a9:=aE (by have:=hr.len;lia);refine⟨r,.ow (.lst (r.map (O.sh∘aM))),w4,hr,?_⟩;unfold fw;rw[aC (ρ':=[.sh (.lst (cs.map aM)),.ow (.lst (acc.map (O.sh∘d9))),sI at',.ow (.lst []),v4]) (by simp)];rw[aC (by rw[fe (PQ (ns:=xs) (by simp[lc,hc2]) ())];exact hk)];simp[la,lr,l2]
def NL(cs:R)(hc:cs.length<=80):∃p:bG,vq [.lst (cs.map aM)]=some (aQ p)/\aJ p/\∀x y,cP p x y↔(x,y)∈cs:=by
 have lc:cs.length<=a9:=aE ();have hc1:a8 (ah 0) bA (az bL (ag 0) (xC (.int 1))) [.un] (cs.map aM)=some ((cs.map (·.2)).map D.int):=by rw[YE];exact aW aM _ cs λc _=>by simp[cY]
 obtain⟨o1,o2,o3⟩:=Me (cs.map (·.2));rw[Ye] at o3;have hrow:∀(y:Int) (r:R),RowIs r (cE (fZ ((cs.filter λc=>c.2==y).map (·.1))))->∀u,Mem r u↔(u,y)∈cs:=λy r o u=>by
  rw[o.mem,(Me _).2.1,Ym];constructor
  ·rintro⟨c,hc,e⟩;obtain⟨h1,h2⟩:=YC.1 hc;have h3:c.2=y:=by simpa using h2
   obtain⟨c1,c2⟩:=c;simp only at e h3;rw[<-e,<-h3];exact h1
  ·intro hc;exact⟨(u,y),YC.2 ⟨hc,by simp⟩,rfl⟩
 obtain⟨ρ',k1,p,v2,v3,v4,rfl,p1,p2,p3⟩:=aY (g:=ah 2) (m:=fw) D.int (λpre ρ=>∃(p:bG) (v2 v3 v4:Sl),ρ=[.sh (.lst (cs.map aM)),.ow (.lst (p.map (O.sh∘d9))),v2,v3,v4]/\p.map (·.1)=pre/\(∀q∈p,cb q.2/\∀u,Mem q.2 u↔(u,q.1)∈cs)/\p.length=pre.length) (cE (fZ (cs.map (·.2)))) [.sh (.lst (cs.map aM)),.ow (.lst []),.un,.un,.un] ⟨[],.un,.un,.un,rfl,rfl,λ_ h=>(by cases h),rfl⟩ (by
  rintro pre y post _ e ⟨p,v2,v3,v4,rfl,p1,p2,p3⟩;have hp:pre.length<80:=by have:=Yt List.length e;rw[Yl,Yk] at this;lia
  obtain⟨r,w3,w4,hr,hb⟩:=K9 cs hc p () y v3 v4;refine⟨_,_,rfl,.inl hb,p++[(y,r)],_,_,_,rfl,by rw[YX,p1];rfl,λq hq=>?_,by rw[Yl,Yl,p3];rfl⟩;rcases Yv.1 hq with h|h
  ·exact p2 q h
  ·rw[Yp] at h;subst h
   exact⟨hr.can,hrow y r hr⟩)
 have hpl:p.length<=a9:=aE (by rw[p3];lia);have hcan:aJ p:=by
  refine⟨λq hq=>⟨(p2 q hq).1,λz=>?_⟩,?_⟩
  ·have hy:q.1∈cE (fZ (cs.map (·.2))):=by rw[<-p1];exact adU hq
   rw[o2,Ym] at hy;obtain⟨c,hc,e⟩:=hy;have:=((p2 q hq).2 c.1).mpr (by rw[<-e];exact hc);rw[z] at this;exact gD _ this
  ·rw[<-p1,aaa] at o1;exact o1
 refine⟨p,?_,hcan,λx y=>⟨λ⟨q,hq,e,hx⟩=>e▸((p2 q hq).2 x).mp hx,λh=>?_⟩⟩
 rotate_left
 ·have hy:y∈p.map (·.1):=by rw[p1,o2,Ym];exact⟨_,h,rfl⟩
  obtain⟨q,hq,rfl⟩:=Ym.1 hy;exact⟨q,hq,rfl,((p2 q hq).2 x).mpr h⟩
 have hx:iA [.sh (.lst (cs.map aM)),.un,.un,.un,.un]=some (.rt (aQ p)):=by unfold iA;rw[aC (ρ':=[.sh (.lst (cs.map aM)),.ow (.lst []),.un,.un,.un]) (by simp)];rw[aC (by rw[fe (PQ (ns:=cs.map (·.2)) (by simp[lc,hc1]) (by rw[Ye];lia))];exact k1)];simp[hpl,aQ]
 exact yl hx
def Mu(l:R)(x y:Int):lQ (l.map cT) x y↔(x,y)∈l:=by
 constructor
 ·rintro⟨t,ht,e1,e2,e3⟩;obtain⟨c,hc,rfl⟩:=Ym.1 ht;have ex:c.1=x:=by dsimp only at e2 e3;lia
  have ey:c.2=y:=e1;rw[<-ex,<-ey];exact hc
 ·intro hc;exact⟨cT (x,y),adU hc,rfl,Yw _,Yw _⟩
def Pb{n:Nat}{x:XS}{ds:Zc}{o:O}(h:x (ds.map .sh++List.replicate (n-ds.length) .un)=some (.ro o)):br n x ds=some o:=by unfold br;rw[h]
def Ou(n:Nat)(hn:n<=1000):Ot [D.int (n:Int)]=some ((List.range' 0 n).map λi:Nat=>D.int (i:Int)):=by show BV _ _ _=_;rw[fM ()];show some (f8 0 n)=_;rw[BW,List.range_eq_range']
def kq(ns:Zn)(k:Nat):∃v:Int,bx [.scr (ns.map D.int),.int (k:Int)]=some (.int v):=by
 by_cases h:k<ns.length
 ·have h':(k:Int)<ns.length:=()
  have ac:cF (ns.map D.int) (k:Int)=some (.int ns[k]):=dB (by rw[YG,YS h];rfl);exact⟨ns[k],by simp[bx,jz,br,iz,h',ac]⟩
 ·have h':¬(k:Int)<ns.length:=()
  exact⟨0,by simp[bx,jz,br,iz,h']⟩
def PV(x a b:Int):JA false (.int x) (.tup [.int a,.int b])=some (.bl (decide (x=a\/x=b))):=by
 by_cases h1:x=a
 ·simp[JA,aR,h1]
 ·by_cases h2:x=b
  ·simp[JA,aR,h2]
  ·simp[JA,aR,h1,h2]
def F7{a b:XT}{ρ:M.Env}(ha:∃p,a ρ=some p)(hb:∃q,b ρ=some q):∃r,GJ a b ρ=some r:=by obtain⟨p,hp⟩:=ha;obtain⟨q,hq⟩:=hb;cases p<;>simp[hp,hq]
def Ji{a b:XT}{ρ:M.Env}(ha:∃p,a ρ=some p)(hb:∃q,b ρ=some q):∃r,xf a b ρ=some r:=by obtain⟨p,hp⟩:=ha;obtain⟨q,hq⟩:=hb;cases p<;>simp[hp,hq]
abbrev bv(c x y:Int)(ps:R)(l:List Sl):M.Env:=.sh (.int c) :: .sh (.int x) :: .sh (.int y)::dQ (ps.map aM)::l
def RJ{m n:XS}{ρ:M.Env}{o:O}(h:m ρ=some (.ro o)):aG m n ρ=some (.ro o):=by unfold aG;rw[h]
def DP(c x y w h k:Int)(ps:R)(v7 v8:Sl)(hw:0<w)(hw2:w<1073741824)(hl:ps.length<=1000):∃(qs:R) (w7 w8:Sl),iq (bv c x y ps [sI w,sI h,sI k,v7,v8])=some (.nx (bv c x y qs [sI w,sI h,sI k,w7,w8]))/\qs.length<=ps.length+1:=by
 have h2:2<=a9:=aE ();have hlim:ps.length<a9:=cV ();obtain⟨l,hx⟩:∃l,k%w=l:=⟨_,rfl⟩
 obtain⟨t,hy⟩:∃t,k/w=t:=⟨_,rfl⟩
 unfold iq;rw[aC (ρ':=(bv c x y ps [sI w,sI h,sI k,sI l,v8])) (by simp[bv,PX hw,hx])];rw[aC (ρ':=(bv c x y ps [sI w,sI h,sI k,sI l,sI t])) (by simp[bv,Ui ⟨hw,hw2⟩,hy])];obtain⟨b,hb⟩:∃b,(GJ (xB (az (jd false) (az hU (ag 0) (xC (.int 3))) (xC (.int 0)))) (xf (xB (az (jd false) (az hU (ag 0) (xC (.int 3))) (xC (.int 1)))) (GJ (xB (az (JA false) (ag 7) (aV (af (xC (.int 0)) (af (az gI (ag 4) (xC (.int 1))) aj))))) (xB (az (JA false) (ag 8) (aV (af (xC (.int 0)) (af (az gI (ag 5) (xC (.int 1))) aj)))))))) (bv c x y ps [sI w,sI h,sI k,sI l,sI t])=some b:=F7 (by simp[bv]) (Ji (by simp[bv]) (F7 (by simp[bv,PV,h2]) (by simp[bv,PV,h2])));cases b with
 |false=>exact⟨ps,_,_,nL hb,()⟩
 |true=>refine⟨ps++[(l+x,t+y)],.sh (.int l),.sh (.int t),(qJ hb).trans ?_,by rw[Yl,Y5];lia⟩;simp[bv,h2,hlim]
def lK(c x y:Int):∃ps:R,kc [.int c,.int x,.int y]=some (.lst ((ps.map aM).map O.sh))/\ps.length<=25:=by
 obtain⟨w,hw,w1,w2⟩:∃w:Nat,2+c/3%4=(w:Int)/\2<=w/\w<=5:=⟨(2+c/3%4).toNat,(),(),()⟩
 obtain⟨h,hh,h1,h4⟩:∃h:Nat,2+c/12%4=(h:Int)/\2<=h/\h<=5:=⟨(2+c/12%4).toNat,(),(),()⟩
 have hwh:w*h<=25:=Nat.mul_le_mul w2 h4;have hr:=Ou (w*h) ();have hmul:mj (.int (w:Int)) (.int (h:Int))=some (.int ((w*h:Nat):Int)):=by have:mj (.int (w:Int)) (.int (h:Int))=some (.int ((w:Int)*(h:Int))):=fM (.inl ());rw[this,Int.natCast_mul]
 obtain⟨ρ1,k1,ps1,v6,v7,v8,rfl,a1⟩:=aY (g:=ah 6) (m:=iq) (λi:Nat=>D.int (i:Int)) (λpre ρ=>∃(ps:R) (v6 v7 v8:Sl),ρ=(bv c x y ps [sI (w:Int),sI (h:Int),v6,v7,v8])/\ps.length<=pre.length) (List.range' 0 (w*h)) (bv c x y [] [sI (w:Int),sI (h:Int),.un,.un,.un]) ⟨[],.un,.un,.un,rfl,by simp⟩ (by
  rintro pre i post _ e ⟨ps,v6,v7,v8,rfl,a1⟩;have hp:pre.length<w*h:=by have:=Yt List.length e;rw[abk,Yl,Yk] at this;lia
  obtain⟨qs,u,t,b1,b2⟩:=DP c x y (w:Int) (h:Int) (i:Int) ps v7 v8 () () ()
  exact⟨_,_,rfl,.inl b1,qs,_,_,_,rfl,by rw[Yl,Y5];lia⟩)
 rw[abk] at a1;refine⟨ps1,Pb (n:=9) (ds:=[.int c,.int x,.int y]) ?_,()⟩;show l6 [sI c,sI x,sI y,.un,.un,.un,.un,.un,.un]=_;unfold l6;rw[aC (ρ':=(bv c x y [] [.un,.un,.un,.un,.un])) (by simp[bv])];rw[aC (ρ':=(bv c x y [] [sI (w:Int),.un,.un,.un,.un])) (by simp[bv,hw])];rw[aC (ρ':=(bv c x y [] [sI (w:Int),sI (h:Int),.un,.un,.un])) (by simp[bv,hh])];rw[aC (by rw[fe (l:=(List.range' 0 (w*h)).map λi:Nat=>D.int (i:Int)) (by rw[<-hr];simp[bv,hmul])];exact k1)];rfl
def vv(c x y:Int):∃ps:R,vp [.int c,.int x,.int y]=some (.lst (ps.map aM))/\ps.length<=25:=by obtain⟨ps,h1,h2⟩:=lK c x y;refine⟨ps,?_,h2⟩;show (kc [.int c,.int x,.int y]).map O.d=_;rw[h1];generalize ps.map aM=l;simp
theorem BA:∀(zs:Zn) (k:Nat),M1 k (zs.map D.int)=(zs.zipIdx k).map λq=>D.tup [.int (q.2:Int),.int q.1]
 |[],_=>rfl
 |z::zs,k=>#v[Yo,M1,BA zs (k+1),List.zipIdx_cons,Yo]
abbrev sv(ns:Zn)(f s:Int)(ps:R)(l:List Sl):M.Env:=.sh (.scr (ns.map D.int)) :: .sh (.int f) :: .sh (.int s)::dQ (ps.map aM)::l
noncomputable abbrev IZ:=ao (ah 4) (ao (ah 5) bd)
def vw(ns:Zn):∃ps:R,B7 [.scr (ns.map D.int)]=some (.lst (ps.map aM))/\ps.length<=70:=by
 have h2:2<=a9:=aE ();obtain⟨f,hf⟩:∃v:Int,bx [.scr (ns.map D.int),.int 0]=some (.int v):=kq ns 0;obtain⟨s,hs⟩:∃v:Int,bx [.scr (ns.map D.int),.int 1]=some (.int v):=kq ns 1;have slice:∀b:Int,2<=b->b<=12->∃zs:Zn,zs.length<=(b-2).toNat/\∀ρ:M.Env,ρ[0]?=some (.sh (.scr (ns.map D.int)))->Sr (ag 0) (qX (xC (.int 2))) (qX (xC (.int b))) ρ=some (.lst (zs.map D.int)):=λb hb hb2=>by
  have l1:=Ng ns (some 2) (some b);rw[uu (),uu ()] at l1;refine⟨iE ns (some 2) (some b),(),λρ h0=>?_⟩;have QX:((iE ns (some 2) (some b)).map D.int).length<=a9:=by rw[Ye];exact aE ()
  rw[<-FC] at QX ⊢;simp[sv,ag,h0,QX]
 suffices hx:∃ps:R,l7 [.sh (.scr (ns.map D.int)),.un,.un,.un,.un,.un,.un,.un,.un]=some (.ro (.lst ((ps.map aM).map O.sh)))/\ps.length<=70 by obtain⟨ps,hx,hl⟩:=hx;refine⟨ps,?_,hl⟩;have:=Pb (n:=9) (ds:=[.scr (ns.map D.int)]) hx;show (br 9 l7 [.scr (ns.map D.int)]).map O.d=_;rw[this];generalize ps.map aM=l;simp
 unfold l7;rw[aC (ρ':=[.sh (.scr (ns.map D.int)),sI f,.un,.un,.un,.un,.un,.un,.un]) (by simp[sv,hf])];rw[aC (ρ':=[.sh (.scr (ns.map D.int)),sI f,sI s,.un,.un,.un,.un,.un,.un]) (by simp[sv,hs])];rw[aC (ρ':=(sv ns f s [] [.un,.un,.un,.un,.un])) (by simp[sv])];by_cases c8:s/8%2=1
 ·obtain⟨zs,hz,hsl⟩:=slice 10 () ();obtain⟨ρ1,k1,ps1,v4,v5,v6,rfl,a1⟩:=aY (g:=aL IZ) (m:=oH) (λq:Int×Nat=>D.tup [.int (q.2:Int),.int q.1]) (λpre ρ=>∃(ps:R) (v4 v5 v6:Sl),ρ=(sv ns f s ps [v4,v5,v6,.un,.un])/\ps.length<=8*pre.length) (zs.zipIdx 0) (sv ns f s [] [.un,.un,.un,.un,.un]) ⟨[],.un,.un,.un,rfl,by simp⟩ (by
   rintro pre q post _ e ⟨ps,v4,v5,v6,rfl,a1⟩;have hp:pre.length<8:=by have:=Yt List.length e;rw[aeV,Yl,Yk] at this;lia
   obtain⟨ρ2,k2,qs,c,w6,rfl,a2⟩:=aY (g:=ah 6) (m:=kB) (λi:Nat=>D.int (i:Int)) (λpre ρ=>∃(qs:R) (c:Int) (w6:Sl),ρ=(sv ns f s qs [sI (q.2:Int),sI c,w6,.un,.un])/\qs.length<=ps.length+pre.length) (List.range' 0 8) (sv ns f s ps [sI (q.2:Int),sI q.1,v6,.un,.un]) ⟨ps,_,_,rfl,by simp⟩ (by
    rintro pre i post _ e ⟨qs,c,w6,rfl,a2⟩;have hq:pre.length<8:=by have:=Yt List.length e;rw[abk,Yl,Yk] at this;lia
    have hlim:qs.length<a9:=cV ();by_cases o:c%2=1
    ·refine⟨_,(sv ns f s (qs++[((i:Int),(q.2:Int))]) [sI (q.2:Int),sI (c/2),sI (i:Int),.un,.un]),rfl,.inl ?_,_,_,_,rfl,by rw[Yl,Yl,Y5,Y5];lia⟩;simp[sv,kB,h2,hlim,o]
    ·refine⟨_,(sv ns f s qs [sI (q.2:Int),sI (c/2),sI (i:Int),.un,.un]),rfl,.inl ?_,_,_,_,rfl,by rw[Yl];lia⟩
     simp[sv,kB,o])
   rw[abk] at a2;refine⟨(sv ns f s ps [sI (q.2:Int),sI q.1,v6,.un,.un]),_,by simp[sv],.inl ?_,qs,.sh (.int (q.2:Int)),.sh (.int c),w6,rfl,by rw[Yl,Y5];lia⟩;unfold oH;rw[fe (l:=(List.range' 0 8).map λi:Nat=>D.int (i:Int)) (by have:=Ou 8 ();rw[<-this];simp)]
   exact k2)
  rw[aeV] at a1;refine⟨ps1,?_,()⟩;refine RJ ?_;rw[qJ (by simp[sv,c8]),aC (by
   rw[fe (l:=(zs.zipIdx 0).map λq=>D.tup [.int (q.2:Int),.int q.1]) ?_]
   ·exact k1
   ·unfold Sd;rw[hsl _ rfl]
    exact Yt some (BA zs 0))]
  rfl
 ·obtain⟨zs,hz,hsl⟩:=slice 12 () ();obtain⟨p1,b1,l1⟩:=lK f 0 0;obtain⟨p2,b2,l2⟩:=vv (s/2) (3+s/64%3) (2+s/192%3);rw[aC (ρ':=(sv ns f s [] [.un,.un,.un,.un,.un])) (by simp[sv,c8])];rw[aC (ρ':=(sv ns f s p1 [.un,.un,.un,.un,.un])) (by simp[sv,b1])];obtain⟨p3,b3,l3⟩:∃p3:R,lX (xB (az (jd false) (az hU (ag 2) (xC (.int 2))) (xC (.int 1)))) (fv (GH (ag 3) (aq vp (af (az kT (ag 2) (xC (.int 2))) (af (az a6 (xC (.int 3)) (az hU (az kT (ag 2) (xC (.int 64))) (xC (.int 3)))) (af (az a6 (xC (.int 2)) (az hU (az kT (ag 2) (xC (.int 192))) (xC (.int 3)))) aj))))) 3) dP (sv ns f s p1 [.un,.un,.un,.un,.un])=some (.nx (sv ns f s p3 [.un,.un,.un,.un,.un]))/\p3.length<=50:=by
   by_cases c2:s%2=1
   ·refine⟨p1++p2,?_,by rw[Yl];lia⟩;have hlim:p1.length+p2.length<=a9:=aE ();simp[sv,c2,b2,UE,hlim]
   ·exact⟨p1,by simp[sv,c2],()⟩
  rw[aC b3];obtain⟨ρ2,k2,ps2,u5,u7,u8,rfl,a2⟩:=aY (g:=ah 5) (m:=oJ) D.int (λpre ρ=>∃(ps:R) (u5 u7 u8:Sl),ρ=(sv ns f s ps [.un,u5,.un,u7,u8])/\ps.length<=50+2*pre.length) zs (sv ns f s p3 [.un,.un,.un,.un,.un]) ⟨p3,_,_,_,rfl,by simp;lia⟩ (by
   rintro pre c post _ e ⟨ps,u5,u7,u8,rfl,a2⟩;have hp:pre.length<10:=by have:=Yt List.length e;rw[Yl,Yk] at this;lia
   obtain⟨mx,hmx⟩:∃mx,c*48271%2147483647/37=mx:=⟨_,rfl⟩
   obtain⟨u,hu,hu1,hu2⟩:∃u:Nat,1+mx/81%2=(u:Int)/\1<=u/\u<=2:=⟨(1+mx/81%2).toNat,(),(),()⟩
   have hr2:=Ou u ();obtain⟨ρ3,k3,ps3,t8,rfl,a3⟩:=aY (g:=ah 8) (m:=oI) (λi:Nat=>D.int (i:Int)) (λpre ρ=>∃(qs:R) (t8:Sl),ρ=(sv ns f s qs [.un,sI c,.un,sI mx,t8])/\qs.length<=ps.length+pre.length) (List.range' 0 u) (sv ns f s ps [.un,sI c,.un,sI mx,u8]) ⟨ps,u8,rfl,by simp⟩ (by
    rintro pre i post _ e ⟨qs,t8,rfl,a1⟩;have hq:pre.length<u:=by have:=Yt List.length e;rw[abk,Yl,Yk] at this;lia
    have hlim:qs.length<a9:=cV ();refine⟨_,(sv ns f s (qs++[(mx%9+(i:Int),mx/9%9)]) [.un,sI c,.un,sI mx,sI (i:Int)]),rfl,.inl ?_,_,_,rfl,by rw[Yl,Yl,Y5,Y5];lia⟩
    simp[sv,oI,h2,hlim])
   rw[abk] at a3;refine⟨_,_,rfl,.inl ?_,ps3,.sh (.int c),.sh (.int mx),t8,rfl,by rw[Yl,Y5];lia⟩;unfold oJ;rw[aC (ρ':=(sv ns f s ps [.un,sI c,.un,sI mx,u8])) (by simp[sv,hmx])];rw[fe (l:=(List.range' 0 u).map λi:Nat=>D.int (i:Int)) (by rw[<-hr2];simp[sv,hu])]
   exact k3)
  refine⟨ps2,?_,()⟩;rw[aC (by rw[fe (l:=zs.map D.int) (by unfold fb;rw[hsl _ rfl];rfl)];exact k2)];rfl
def tN(r t:R)(h:r.length+t.length<=30000):kX [aZ r,aZ t]=some (aZ (gO r t)):=by
 have ZQ:=Bp _ r t rfl;have key:∃ρ',cO cJ bP [.sh (aZ r),.sh (aZ t),.ow (.lst []),sI 0,sI 0,.un,.un]=some (.nx ρ')/\∃v3 v4 v5 v6,ρ'=[.sh (aZ r),.sh (aZ t),dQ ((gO r t).map aM),v3,v4,v5,v6]:=by
  refine pI (λρ=>∃(acc:R) (i j:Nat) (v5 v6:Sl),ρ=[.sh (aZ r),.sh (aZ t),dQ (acc.map aM),sI i,sI j,v5,v6]/\i<=r.length/\j<=t.length/\acc++gO (r.drop i) (t.drop j)=gO r t)
   (λρ=>match ρ with|[_,_,_,.sh (.int i),.sh (.int j),_,_]=>(r.length+t.length-i-j).toNat|_=>0) _ ?_ _ ⟨[],0,0,.un,.un,rfl,YR _,YR _,rfl⟩
  rintro _ ⟨acc,i,j,v5,v6,rfl,hi,hj,e⟩;have hacc:acc.length<=30000:=by have:=Yt List.length e;rw[Yl] at this;lia
  have hlim:acc.length<a9:=cV ();cases qi:r[i]? with
  |none=>
   have hi':i=r.length:=by have:=abv.1 qi;lia
   subst hi';rw[aa8 (Yi _),jH,YK] at e;subst e;exact .inl ⟨by simp[cJ],_,_,_,_,rfl⟩
  |some p=>
   have hi':=(Yx.1 qi).1;have ei:(i:Int)<r.length:=()
   cases qj:t[j]? with
   |none=>
    have hj':j=t.length:=by have:=abv.1 qj;lia
    subst hj';rw[aa8 (Yi _),fK,YK] at e;subst e;exact .inl ⟨by simp[cJ,ei],_,_,_,_,rfl⟩
   |some q=>
    have hj':=(Yx.1 qj).1;have ej:(j:Int)<t.length:=()
    have a1:=Ba qi;have a2:=Ba qj;rw[ip qi,ip qj,GY] at e;refine .inr ⟨by simp[cJ,ei,ej],?_⟩;by_cases c1:max p.1 q.1<=min p.2 q.2
    ·rw[Yb c1] at e;by_cases c2:p.2<q.2
     ·rw[Yb c2,<-ip qj] at e;exact⟨[.sh (aZ r),.sh (aZ t),dQ ((acc++[(max p.1 q.1,min p.2 q.2)]).map aM),sI ((i+1:Nat):Int),sI j,sI (max p.1 q.1),sI (min p.2 q.2)],by simp[bP,a1,a2,mx,mn,c1,c2,hlim],⟨_,i+1,j,_,_,rfl,hi',hj,by rw[YL];exact e⟩,by dsimp only;lia⟩
     ·rw[X9 c2,<-ip qi] at e;exact⟨[.sh (aZ r),.sh (aZ t),dQ ((acc++[(max p.1 q.1,min p.2 q.2)]).map aM),sI i,sI ((j+1:Nat):Int),sI (max p.1 q.1),sI (min p.2 q.2)],by simp[bP,a1,a2,mx,mn,c1,c2,hlim],⟨_,i,j+1,_,_,rfl,hi,hj',by rw[YL];exact e⟩,by dsimp only;lia⟩
    ·rw[X9 c1,acf] at e;by_cases c2:p.2<q.2
     ·rw[Yb c2,<-ip qj] at e;exact⟨[.sh (aZ r),.sh (aZ t),dQ (acc.map aM),sI ((i+1:Nat):Int),sI j,sI (max p.1 q.1),sI (min p.2 q.2)],by simp[bP,a1,a2,mx,mn,c1,c2,hlim],⟨_,i+1,j,_,_,rfl,hi',hj,e⟩,by dsimp only;lia⟩
     ·rw[X9 c2,<-ip qi] at e;exact⟨[.sh (aZ r),.sh (aZ t),dQ (acc.map aM),sI i,sI ((j+1:Nat):Int),sI (max p.1 q.1),sI (min p.2 q.2)],by simp[bP,a1,a2,mx,mn,c1,c2,hlim],⟨_,i,j+1,_,_,rfl,hi,hj',e⟩,by dsimp only;lia⟩
 obtain⟨ρ',k1,v3,v4,v5,v6,rfl⟩:=key;simp[kX,jM,br,g9,k1]
def tO(r t:R)(h:r.length+t.length<10000):kY [aZ r,aZ t]=some (aZ (mr r t)):=by
 have hl:r.length+t.length<=a9:=aE ();have hl2:(r++t).length<=a9:=by rw[Yl];exact hl
 have c1:a8 kA bA (ak 0) [.un,.un] ((r++t).map aM)=some ((r++t).map λp=>.int p.1):=aW aM _ _ λp _=>by simp[cY]
 have c2:a8 kA bA (az a6 (ag 1) (xC (.int 1))) [.un,.un] ((r++t).map aM)=some ((r++t).map λp=>.int (p.2+1)):=aW aM _ _ λp _=>by simp[cY]
 have ec:((r++t).map λp=>D.int p.1)++((r++t).map λp=>D.int (p.2+1))=(Jw (r++t)).map D.int:=by unfold Jw;rw[YX (f:=D.int),YE,YE];rfl
 have hcl:=Fz (r++t);rw[Yl] at hcl;have hsl:(cE (Jw (r++t))).length=2*(r.length+t.length):=by rw[(c0 _).length_eq,hcl]
 have hb:=zp (Jw (r++t)) ();have c3:=DU (r.length+t.length) (cE (Jw (r++t))) hsl;have hro:=s9 (jP (cE (Jw (r++t)))) (by rw[ph _ _ hsl];lia);have hsum:r.length+t.length+(r.length+t.length)<=a9:=aE ();have hrng:LC [.int 0,.int ((2*(r.length+t.length):Nat):Int),.int 2]=some (fL 0 (r.length+t.length)):=by rw[Sa ()];congr 2;lia
 have hel:(fL 0 (r.length+t.length)).length<=a9:=by rw[oV];exact hl
 rw[<-ec] at hb;rw[<-hsl] at hrng;simp only[YX,YL] at c1 c2 hb;simp[kY,jN,br,hG,R9,ME,hl,c1,c2,hsum,hb,hrng,hel,c3,hro,mr]
def xq(r t:R)(h:2*r.length+t.length<10000):k6 [aZ r,aZ t]=some (aZ (mz r t)):=by have h1:=tN r t ();have h2:=tO r (gO r t) (by have:=Bp _ r t rfl;lia);simp[k6,mL,br,kO,h1,h2,mz]
end P
namespace Rw
def GZ{p:Int×Int}(s:R):∀t:R,(∀q∈t,p.2<q.1/\q.1<=q.2)->gO (p::s) t=gO s t
 |[],_=>#v[fK,fK]
 |q::t,h=>by have:=h q Yg;rw[gO,X9 (),Yb ()];rfl
def Jx:∀(n:Nat) (s t:R),s.length+t.length=n->cb s->cb t->(∀p∈s,∃q∈t,q.1<=p.1/\p.2<=q.2)->gO s t=s:=by
 intro n;induction n using Nat.strongRecOn with
 |ind n ih=>
  intro s t hn cs ct h
  match s,t with
  |[],t=>exact jH t
  |p::s,[]=>obtain⟨q,hq,_⟩:=h p Yg;cases hq
  |p::s,q::t=>
   obtain⟨c1,c2,c3⟩:=Zp.1 cs;obtain⟨d1,d2,d3⟩:=Zp.1 ct;simp at hn;have tail:q.2<=p.2->∀p'∈s,∃q'∈t,q'.1<=p'.1/\p'.2<=q'.2:=λhq p' hp'=>by
    obtain⟨q',h1,h2⟩:=h p' (Yn _ hp');rcases Yj.1 h1 with rfl|h1
    ·have:=c2 p' hp';have:=c3.1 p' hp';lia
    ·exact⟨q',h1,h2⟩
   obtain⟨q',hq',a,b⟩:=h p Yg;rw[gO];rcases Yj.1 hq' with rfl|hq'
   ·rw[Yb (),show (max p.1 q'.1,min p.2 q'.2)=p from Y9 (by dsimp only;lia) (by dsimp only;lia)];by_cases e:p.2<q'.2
    ·rw[Yb e,ih _ (by simp;lia) s (q'::t) rfl c3 ct λp' hp'=>h p' (Yn _ hp')];rfl
    ·rw[X9 e,GZ s t λq hq=>⟨by have:=d2 q hq;lia,d3.1 q hq⟩,ih _ () s t rfl c3 d3 (tail ())];rfl
   ·have:=d2 q' hq';rw[X9 (),X9 (),ih _ (by simp;lia) (p::s) t rfl cs d3 λp' hp'=>?_]
    ·rfl
    ·rcases Yj.1 hp' with rfl|hp'
     ·exact⟨q',hq',a,b⟩
     ·exact tail () p' hp'
theorem tp:∀(n:Nat) (l:Zn),l.length=2*n->l.Pairwise (· <= ·)->(∀x,l.count x%2=0)->∀p∈jP l,p.2<p.1
 |0,[],_,_,_=>λ_ h=>by cases h
 |n+1,a::b::t,h,w,e=>by
  obtain⟨w1,w2⟩:=aaH.1 w;obtain⟨w3,w4⟩:=aaH.1 w2;have hab:b=a:=by
   apply aaN;intro hn;have:=e a;have ha:=w1 b Yg;have z:(b::t).count a=0:=List.count_eq_zero.2 λhm=>by
    rcases Yj.1 hm with q|q
    ·exact hn q.symm
    ·have:=w3 a q;lia
   rw[List.count_cons_self,z] at this;lia
  subst hab;intro p hp;rcases Yj.1 hp with rfl|hp
  ·dsimp only;lia
  ·refine tp n t (by simp at h;lia) w4 (λx=>?_) p hp;have:=e x;rw[List.count_cons,List.count_cons] at this;split at this<;>lia
end Rw
namespace P
open PySem L2 M Rw
def Bz(r:R):mr r r=[]:=by
 have hp:=tp (r++r).length (cE (Jw (r++r))) (#v[(c0 _).length_eq,Fz]) (wL _) λx=>by rw[(c0 _).count_eq];unfold Jw;simp only[YX,List.count_append];lia
 unfold mr lL;rw[adP.2 λp hm=>by have:=hp p hm;simp[p7];lia];rfl
def O5(f:R->R->R)(p q:bG):bG:=(p.map λs=>(s.1,f s.2 (aK q s.1))).filter lS
def Vk(p q:bG):bG:=O5 mz p q
def xJ(y:Int):(aK p y).length<=(am p).length:=by
 unfold aK;cases h:p.find? λq=>decide (q.1=y) with
 |none=>exact YR _
 |some q=>exact bC (adO h)
def Hr{p:bG}(cq:aJ q)(h1:p.length<=30000)(h2:q.length<=30000)(h:2*(am p).length+(am q).length<10000):Eg [aQ p,aQ q]=some (aQ (Vk p q)):=by
 have hl:p.length<=a9:=aE ();have hc:a8 kA bA (aV (af (ak 0) (af (aq k6 (af (ak 1) (af (aq de (af (ak 2) (af (ak 0) aj))) aj))) aj))) [.un,.un,sP q] (p.map d9)=some ((p.map λs=>(s.1,mz s.2 (aK q s.1))).map d9):=by
  rw[YE];exact aW d9 (λs=>d9 (s.1,mz s.2 (aK q s.1))) p λs hs=>by have a1:=gK q s.1 cq ();have a2:=xq s.2 (aK q s.1) (by have:=bC hs;have:=xJ (p:=q) s.1;lia);simp[cY,a1,a2]
 have hm:=gL (p.map λs=>(s.1,mz s.2 (aK q s.1))) (by rw[Ye];exact h1);rw[YE] at hm hc;simp[Eg,zY,br,zl,hl,hc,hm,Vk,O5]
def LL{p:bG}(c:aJ p){y lo hi:Int}(h:lo<=hi)(k:∀x,lo<=x->x<=hi->cP p x y):∃t∈am p,t.1=y/\t.2.1<=lo/\hi<=t.2.2:=by
 obtain⟨t,ht,h1,h2,h3⟩:=(ZE (c:=(lo,y))).1 (k lo (Yw _) h);dsimp only at h1 h2 h3;refine⟨t,ht,h1,h2,?_⟩;apply aaN;intro hn;obtain⟨s,hs,g1,g2,g3⟩:=(ZE (c:=(t.2.2+1,y))).1 (k (t.2.2+1) () ());dsimp only at g1 g2 g3;have ne:s≠t:=λz=>by rw[z] at g3;lia
 have:=(qf c).sp s hs t ht ne ();lia
def vz{p q:bG}(cp:aJ p)(cq:aJ q)(h1:p.length<=1000)(h2:q.length<=1000)(h:2*(am p).length+(am q).length<10000)(hs:∀x y,cP p x y->cP q x y):nz [aQ p,aQ q]=some (.bl true):=by
 have hl:=Hr (p:=p) (q:=q) cq () () h;have e:Vk p q=[]:=adP.2 λz hz=>by
  obtain⟨s,hp,rfl⟩:=Ym.1 hz;have cs:=(cp.1 s hp).1;have:mz s.2 (aK q s.1)=[]:=by
   unfold mz;rw[Jx _ _ _ rfl cs (cv cq _) λu hu=>?_]
   ·exact Bz _
   ·obtain⟨t,t1,t2,t3,t4⟩:=LL cq (y:=s.1) (cs.1 u hu) λx x1 x2=>hs _ _ ⟨s,hp,rfl,u,hu,x1,x2⟩;exact⟨t.2,(ki cq s.1 t.2).mpr (by rw[<-t2];exact t1),t3,t4⟩
  simp[lS,this]
 rw[e] at hl;have d:jd false (aQ []) (.tup [])=some (.bl true):=Jz false (by simp[dg,okDs]);simp[nz,o7,br,nh,hl,d]
def Ju(c:cb r){i j:Nat}{p q:Int×Int}(hi:r[i]?=some p)(hj:r[j]?=some q)(hij:i<j):p.2+2<=q.1:=by obtain⟨h1,rfl⟩:=Yx.1 hi;obtain⟨h2,rfl⟩:=Yx.1 hj;exact aaJ.1 c.2 i j h1 h2 hij
def Jv(c:cb r):r.Pairwise λa b=>a.1<b.1:=by refine abU ?_ c.2;intro a b ha _ hab;have:=c.1 a ha;lia
def zV(r:R)(x:Int)(c:cb r)(h:r.length<=100000):nA [aZ r,.int x]=some (.bl (El r x)):=by
 obtain⟨n,h1,h2,h3⟩:=eE r (·.1) aM x (λa=>by simp) h (Jv c);by_cases hn:n=0
 ·subst hn;have e:El r x=false:=by
   rw[Bool.eq_false_iff];intro hm;obtain⟨q,hq,h4,h5⟩:=(vE r x).mp hm;obtain⟨j,ej⟩:=aaC hq;exact absurd ((h3 j q ej).mp h4) (abX _)
  simp at h2;simp[nA,lf,br,jV,h2,e]
 ·obtain⟨p,hp⟩:∃p,r[n-1]?=some p:=⟨_,YS ()⟩
  have en:(n:Int)-1=((n-1:Nat):Int):=()
  have ea:cF (r.map aM) ((n:Int)-1)=some (aM p):=by rw[en];exact Ba hp
  have hn':(0:Int)<n:=()
  have hn2:0<n:=()
  have e:El r x=decide (x<=p.2):=by
   rw[ach,vE,YO];constructor
   ·rintro⟨q,hq,h4,h5⟩;obtain⟨j,ej⟩:=aaC hq;have hj:=(h3 j q ej).mp h4;by_cases z:j=n-1
    ·subst z;rw[hp] at ej;cases ej;exact h5
    ·have:=Ju c ej hp ();have:=(h3 _ _ hp).mpr ();lia
   ·intro hx;exact⟨p,aaP hp,(h3 _ _ hp).mpr (),hx⟩
  simp[nA,lf,br,jV,h2,hn,hn',hn2,ea,e]
def xo(p:bG)(x y:Int)(c:aJ p)(h:p.length<=100000)(hr:∀q∈p,q.2.length<=100000):kW [aQ p,.int x,.int y]=some (.bl (El (aK p y) x)):=by have h1:=gK p y c h;have h2:=zV (aK p y) x (cv c y) (sf hr y);simp[kW,mI,br,kL,h1,h2]
def n8(p:bG)(x y:Int):Bool:=El (aK p y) x
def ud(p:bG)(x y:Int):Int:=IV (λdx dy=>n8 p (x+dx) (y+dy)) roundL
def B9(p:bG)(x y:Int)(c:aJ p)(h:p.length<=100000)(hr:∀q∈p,q.2.length<=100000):qq [aQ p,.int x,.int y]=some (.int (ud p x y)):=by
 have hc:a8 MW (ik (aq kW (af (ak 3) P9))) (ak 2) [.un,.un,.un,sP p,sI x,sI y] (roundL.map IJ)=some (((roundL.filter λt=>n8 p (x+t.1) (y+t.2.1)).map λt=>t.2.2).map D.int):=by
  rw[<-D3 (λdx dy=>n8 p (x+dx) (y+dy)) roundL];refine cc IJ _ roundL λt _=>?_;have a:=xo p (x+t.1) (y+t.2.1) c h hr;cases hb:n8 p (x+t.1) (y+t.2.1)
  ·unfold n8 at hb;rw[hb] at a;simp[cY,a]
  ·unfold n8 at hb;rw[hb] at a;simp[cY,a]
 have hi:zr [.lst (((roundL.filter λt=>n8 p (x+t.1) (y+t.2.1)).map λt=>t.2.2).map D.int)]=some (.int (ud p x y)):=by show (aR _).map _=_;rw[d7];show some (D.int _)=_;rw[AV (λdx dy=>n8 p (x+dx) (y+dy)) roundL];rfl
 have hl:8<=a9:=aE ();generalize ((roundL.filter λt=>n8 p (x+t.1) (y+t.2.1)).map λt=>t.2.2).map D.int=zs at hc hi;simp[roundL] at hc;simp[qq,rQ,br,pP,hc,hi,hl]
def Ca(p:bG)(x y:Int)(n:Nat)(ends:Bool)(ha:qq [aQ p,.int x,.int y]=some (.int (n:Int))):j8 [aQ p,.int x,.int y,.bl ends]=some (.bl (Ta n ends)):=by
 have h1:=vC n;have h2:=jw n;unfold Ta;by_cases c1:gV n=1
 ·by_cases c2:2<=oQ n<;>cases ends<;>simp[j8,nB,br,l9,ha,h1,h2,c1,c2]<;>lia
 ·have c1':¬((gV n:Nat):Int)=1:=()
  cases ends<;>simp[j8,nB,br,l9,ha,h1,h2,c1,c1']
def mG(W:Wk)(h:W.length<=400):cX [aI W]=some (aQ (cM (W.map (·.1)))):=by
 have hl:W.length<=a9:=aE ();have hp:=dc (W.map (·.1)) (by rw[Ye];lia);have hc:a8 IY bA (aV Ff) [.un,.un,.un,.un] (W.map c9)=some ((W.map (·.1)).map aO):=by rw[aW c9 (λw=>aO w.1) W λw _=>by simp[cY],YE];rfl
 simp only[YE] at hp hc;simp[cX,eK,br,cS,sr,hl,hc,hp]
def wg(p:bG)(c:aJ p)(hp:p.length<=160)(hn:(am p).length<=160):∃Ws:List Wk,j9 [aQ p]=some (.lst (Ws.map aI))/\Ws.length<=160/\(∀W∈Ws,∃s∈am p,IsWalk 1 p s W)/\Eu.Fam 1 (am p) (nP Ws):=by obtain⟨Ws,h,k⟩:=lI (k:=1) () p c hp hn;exact⟨Ws,by simp[j9,rR,br,pQ,h],k⟩
def Pi(r:R)(lo hi:Int):Bool:=r.any λs=>decide (s.1<=lo)&&decide (hi<=s.2)
def DE(p:bG)(y lo hi:Int):Bool:=p.any λq=>decide (q.1=y)&&Pi q.2 lo hi
def F0{g:XG}{m:XS}{d:D}{l:Zc}{ρ ρ1:M.Env}{z:D}(h1:g d ρ=some ρ1)(h2:m ρ1=some (.rt z)):bR g m (d::l) ρ=some (.rt z):=by rw[d8,h1];dsimp only[Option.bind];rw[h2]
noncomputable abbrev DA:=ao (ah 6) (ao (ah 7) bd)
theorem Ka(a0 a1 a4 a5:Sl)(lo hi:Int):∀(r:R) (v6 v7:Sl),Pi r lo hi=true/\bR (aL DA) gZ (r.map aM) [a0,a1,sI lo,sI hi,a4,a5,v6,v7]=some (.rt (.bl true))\/Pi r lo hi=false/\∃w6 w7,bR (aL DA) gZ (r.map aM) [a0,a1,sI lo,sI hi,a4,a5,v6,v7]=some (.nx [a0,a1,sI lo,sI hi,a4,a5,w6,w7])
 |[],v6,v7=>.inr ⟨rfl,v6,v7,rfl⟩
 |s::r,v6,v7=>by
  have hg:aL DA (aM s) [a0,a1,sI lo,sI hi,a4,a5,v6,v7]=some [a0,a1,sI lo,sI hi,a4,a5,sI s.1,sI s.2]:=by simp
  rw[Yo];cases hb:(decide (s.1<=lo)&&decide (hi<=s.2)) with
  |true=>
   left;obtain⟨h1,h2⟩:=aav.1 hb;have h1:=Y6 h1;have h2:=Y6 h2;exact⟨by unfold Pi;rw[aaA,hb];rfl,F0 hg (by simp[gZ,h1,h2])⟩
  |false=>
   have hm:gZ [a0,a1,sI lo,sI hi,a4,a5,sI s.1,sI s.2]=some (.nx [a0,a1,sI lo,sI hi,a4,a5,sI s.1,sI s.2]):=by
    by_cases h1:s.1<=lo
    ·have h2:¬hi<=s.2:=by simpa[h1] using hb
     simp[gZ,h1,h2]
    ·simp[gZ,h1]
   rw[ny hg hm];have e:Pi (s::r) lo hi=Pi r lo hi:=by unfold Pi;rw[aaA,hb];rfl
   rw[e];exact Ka a0 a1 a4 a5 lo hi r _ _
def sZ(p:bG)(y lo hi:Int):yE [aQ p,.int y,.int lo,.int hi]=some (.bl (DE p y lo hi)):=by
 have go:∀(q:bG) (v4 v5 v6 v7:Sl),DE q y lo hi=true/\bR (aL IZ) g6 (q.map d9) [sP p,sI y,sI lo,sI hi,v4,v5,v6,v7]=some (.rt (.bl true))\/DE q y lo hi=false/\∃ρ,bR (aL IZ) g6 (q.map d9) [sP p,sI y,sI lo,sI hi,v4,v5,v6,v7]=some (.nx ρ):=by
  intro q;induction q with
  |nil=>exact λv4 v5 v6 v7=>.inr ⟨rfl,_,rfl⟩
  |cons s q ih=>
   intro v4 v5 v6 v7;have hg:aL IZ (d9 s) [sP p,sI y,sI lo,sI hi,v4,v5,v6,v7]=some [sP p,sI y,sI lo,sI hi,sI s.1,.sh (aZ s.2),v6,v7]:=by simp
   rw[Yo];by_cases hy:s.1=y
   ·have hB:∀ρ,g6 [sP p,sI y,sI lo,sI hi,sI s.1,.sh (aZ s.2),v6,v7]=ρ↔bR (aL DA) gZ (s.2.map aM) [sP p,sI y,sI lo,sI hi,sI s.1,.sh (aZ s.2),v6,v7]=ρ:=λρ=>by
     unfold g6;rw[qJ (by simp[hy]),fe (l:=s.2.map aM) (by simp)]
    rcases Ka (.sh (aQ p)) (.sh (.int y)) (.sh (.int s.1)) (.sh (aZ s.2)) lo hi s.2 v6 v7 with ⟨h1,h2⟩|⟨h1,w6,w7,h2⟩
    ·exact .inl ⟨by unfold DE;rw[aaA,h1,YI hy];rfl,F0 hg ((hB _).mpr h2)⟩
    ·rw[ny hg ((hB _).mpr h2),show DE (s::q) y lo hi=DE q y lo hi by unfold DE;rw[aaA,h1,adt];rfl];exact ih _ _ _ _
   ·have hB:g6 [sP p,sI y,sI lo,sI hi,sI s.1,.sh (aZ s.2),v6,v7]=some (.nx [sP p,sI y,sI lo,sI hi,sI s.1,.sh (aZ s.2),v6,v7]):=by
     unfold g6;rw[nL (by simp[hy])];rfl
    rw[ny hg hB,show DE (s::q) y lo hi=DE q y lo hi by unfold DE;rw[aaA,YB hy];rfl];exact ih _ _ _ _
 have hf:dS (fb (ak 0)) (aL IZ) g6 [sP p,sI y,sI lo,sI hi,.un,.un,.un,.un]=_:=fe (l:=p.map d9) (by simp);have hX:A7 [sP p,sI y,sI lo,sI hi,.un,.un,.un,.un]=some (.rt (.bl (DE p y lo hi))):=by
  unfold A7;rcases go p .un .un .un .un with ⟨h1,h2⟩|⟨h1,ρ,h2⟩
  ·unfold aG;rw[hf,h2,h1]
  ·rw[aC (hf.trans h2),h1];rfl
 exact yl (n:=8) (ds:=[aQ p,.int y,.int lo,.int hi]) hX
def FQ(c:aJ p){y lo hi:Int}(h:lo<=hi):DE p y lo hi=true↔∀x,lo<=x->x<=hi->cP p x y:=by
 have e:DE p y lo hi=true↔∃t∈am p,t.1=y/\t.2.1<=lo/\hi<=t.2.2:=by
  unfold DE Pi;rw[aau];constructor
  ·rintro⟨q,hq,h1⟩;obtain⟨h1,h2⟩:=aav.1 h1;obtain⟨s,hs,h2⟩:=aau.1 h2;obtain⟨h2,h3⟩:=aav.1 h2;exact⟨(q.1,s),Y8.2 ⟨q,hq,Ym.2 ⟨s,hs,rfl⟩⟩,Y6 h1,Y6 h2,Y6 h3⟩
  ·rintro⟨t,ht,h1,h2,h3⟩;obtain⟨q,hq,hs⟩:=Y8.1 ht;obtain⟨s,hs2,rfl⟩:=Ym.1 hs;exact⟨q,hq,aav.2 ⟨YI h1,aau.2 ⟨s,hs2,aav.2 ⟨YI h2,YI h3⟩⟩⟩⟩
 rw[e];constructor
 ·rintro⟨t,ht,h1,h2,h3⟩ x x1 x2;exact (ZE (c:=(x,y))).2 ⟨t,ht,h1,by dsimp only;lia,by dsimp only;lia⟩
 ·exact LL c h
def Pd(W:Wk):bD:=((W.head?).map (·.1)).getD (0,0,0)
def JU(P:bG)(W:Wk):Bool:=DE P (Pd W).1 (Pd W).2.1 (Pd W).2.2
noncomputable abbrev MU:=az bL (az bL (ag 2) (ag 0)) (xC (.int 0))
def qu(Bs:List Wk)(P:bG)(hl:Bs.length<=160)(hne:∀W∈Bs,W≠[]):mE [.lst (Bs.map aI),aQ P]=some (.lst ((List.range' 0 Bs.length).filterMap λk:Nat=>if JU P (Bs.getD k [])=true then some (D.int (k:Int)) else none)):=by
 have hlim:Bs.length<=a9:=aE ();have hc:a8 (ah 0) (ik (aq yE (af (ak 1) (af (az bL MU (xC (.int 0))) (af (az bL MU (xC (.int 1))) (af (az bL MU (xC (.int 2))) aj)))))) (ak 0) [.un,sP P,.sh (.lst (Bs.map aI))] ((List.range' 0 Bs.length).map λk:Nat=>D.int (k:Int))=some ((List.range' 0 Bs.length).filterMap λk:Nat=>if JU P (Bs.getD k [])=true then some (D.int (k:Int)) else none):=by
  refine cc (λk:Nat=>D.int (k:Int)) _ _ λk hk=>?_;have hk:k<Bs.length:=by have:=List.mem_range'.1 hk;lia
  have hm:=sZ P (Pd Bs[k]).1 (Pd Bs[k]).2.1 (Pd Bs[k]).2.2;have hne:=hne _ (YV hk);have ha:cF (Bs.map aI) (k:Int)=some (aI Bs[k]):=dB (by rw[YG,YS hk];rfl);have hg:Bs.getD k []=Bs[k]:=by rw[aaW,YS hk];rfl
  rw[hg];unfold JU;cases hW:Bs[k] with
  |nil=>exact absurd hW hne
  |cons w W=>rw[hW] at hm ha;have h0:cF ((w::W).map c9) 0=some (c9 w):=dB (j:=0) rfl;have t0:cF [D.int w.1.1,.int w.1.2.1,.int w.1.2.2,w.2] 0=some (.int w.1.1):=dB (j:=0) rfl;have t1:cF [D.int w.1.1,.int w.1.2.1,.int w.1.2.2,w.2] 1=some (.int w.1.2.1):=dB (j:=1) rfl;have t2:cF [D.int w.1.1,.int w.1.2.1,.int w.1.2.2,w.2] 2=some (.int w.1.2.2):=dB (j:=2) rfl;have e:Pd (w::W)=w.1:=rfl;rw[e] at hm ⊢;cases hb:DE P w.1.1 w.1.2.1 w.1.2.2<;>rw[hb] at hm<;>simp[cY,ha,h0,hm,t0,t1,t2,-List.map_cons]
 have hr:=Ou Bs.length ();simp[mE,k8,br,ji,hr,hc,hlim]
theorem yM{α:Type}{p:Nat->Bool}{f:Nat->α}:∀(n a:Nat),(∀k,a<=k->k<a+n->p k=false)->(List.range' a n).filterMap (λk=>if p k=true then some (f k) else none)=[]
 |0,_,_=>rfl
 |n+1,a,h=>by rw[adL,YJ,h a (Yi _) ()];exact yM n (a+1) λk k1 k2=>h k () ()
theorem Cy{α:Type}{p:Nat->Bool}{f:Nat->α}{j:Nat}:∀(n a:Nat),a<=j->j<a+n->(∀k,a<=k->k<a+n->(p k=true↔k=j))->(List.range' a n).filterMap (λk=>if p k=true then some (f k) else none)=[f j]
 |0,_,h1,h2,_=>()
 |n+1,a,h1,h2,h=>by
  rw[adL,YJ];have ha:=h a (Yi _) ();by_cases e:a=j
  ·rw[ha.2 e,e];have:=yM (p:=p) (f:=f) n (a+1) λk k1 k2=>by
    cases q:p k with
    |false=>rfl
    |true=>have:=(h k () ()).1 q;lia
   rw[e] at this;simp[this]
  ·have hf:p a=false:=by
    cases q:p a with
    |false=>rfl
    |true=>exact absurd (ha.1 q) e
   rw[hf];exact Cy n (a+1) () () λk k1 k2=>h k () ()
def Ak(W:Wk)(c:Tp.aH):cP (cM (W.map (·.1))) c.1 c.2↔Tp.pJ c (W.map (·.1)):=(dh _).2 _ _
def oo{N:Tp.aH->Tp.aH->Prop}{S S' O:Tp.aH->Prop}{As Bs:List Wk}(K:Tp.ZL N S S')(fA:Tp.Fm N S O (nP As))(fB:Tp.Fm N S' O (nP Bs))(lA:As.length<=160)(wA:∀W∈As,W.length<=160)(wB:∀W∈Bs,W.length<=160/\W≠[]/\∀w∈W,w.1.2.1<=w.1.2.2):gJ [.lst (As.map aI),.lst (Bs.map aI)]=some (.bl true):=by
 have ZQ:As.length=Bs.length:=by have:=Tp.KS K fA fB;simpa using this
 have part:∀i,i<As.length->∃j,∃hj:j<Bs.length,(∀b,Tp.pJ b (Bs[j].map (·.1))->Tp.pJ b ((As.getD i []).map (·.1)))/\∀k,∀hk:k<Bs.length,(∃b,Tp.pJ b (Bs[k].map (·.1))/\Tp.pJ b ((As.getD i []).map (·.1)))->k=j:=λi hi=>by
  obtain⟨j,hj,h1,h2⟩:=Tp.nG K fA fB (i:=i) (~~~hi);have hj':j<Bs.length:=by simpa using hj
  have eA:(nP As)[i]'(~~~hi)=(As.getD i []).map (·.1):=by rw[aaW,YS hi];simp[nP]
  rw[eA] at h1;simp only[nP,List.getElem_map] at h1 h2;refine⟨j,hj',h1,λk hk h=>h2 k (~~~hk) ?_⟩;rw[aaW,YS hi] at h;exact h
 let jf:Nat->Nat:=λi=>if h:i<As.length then Classical.choose (part i h) else 0
 have jok:∀i,i<As.length->∃hj:jf i<Bs.length,(∀b,Tp.pJ b (Bs[jf i].map (·.1))->Tp.pJ b ((As.getD i []).map (·.1)))/\∀k,∀hk:k<Bs.length,(∃b,Tp.pJ b (Bs[k].map (·.1))/\Tp.pJ b ((As.getD i []).map (·.1)))->k=jf i:=λi hi=>by have e:jf i=Classical.choose (part i hi):=aaL hi;rw[e];exact abD (part i hi)
 have jinj:∀i i',i<As.length->i'<As.length->jf i=jf i'->i=i':=λi i' hi hi' e=>by
  obtain⟨h1,h2,_⟩:=jok i hi;obtain⟨k1,k2,_⟩:=jok i' hi';obtain⟨b,hb⟩:=fB.ne _ (YV (l:=nP Bs) (n:=jf i) (~~~h1));have hb:Tp.pJ b (Bs[jf i].map (·.1)):=by simpa[nP] using hb
  have a1:=h2 b hb;have a2:=k2 b (by simp only[e] at hb;exact hb);rw[aaW,YS hi] at a1;rw[aaW,YS hi'] at a2;exact fA.ix (i:=i) (j:=i') (~~~hi) (~~~hi') (c:=b) (by simpa[nP] using a1) (by simpa[nP] using a2)
 generalize hdA:D.lst (As.map aI)=dA;obtain⟨ρ,k1,v3,v4,v5,rfl⟩:=aY (g:=ah 3) (m:=gn) aI (λpre ρ=>∃v3 v4 v5,ρ=[.sh dA,.sh (.lst (Bs.map aI)),dQ (((List.range pre.length).map λi=>(jf i:Int)).map D.int),v3,v4,v5]) As [.sh dA,.sh (.lst (Bs.map aI)),dQ [],.un,.un,.un] ⟨_,_,_,rfl⟩ (by
  rintro pre W post _ e ⟨v3,v4,v5,rfl⟩;have hi:pre.length<As.length:=by rw[e,Yl,Yk];lia
  have eW:As.getD pre.length []=W:=by rw[e];simp
  obtain⟨hj,h1,h2⟩:=jok pre.length hi;rw[eW] at h1 h2;have hW:=wA W (by rw[e];simp);have hB:=wB _ (YV hj);have c:=(dh (W.map (·.1))).1;have p1:=mG W ();have p2:=mG Bs[jf pre.length] ();have hf:=qu Bs (cM (W.map (·.1))) () λV hV=>(wB V hV).2.1;rw[Cy (p:=λk=>JU (cM (W.map (·.1))) (Bs.getD k [])) (f:=λk=>D.int (k:Int)) (j:=jf pre.length) Bs.length 0 (YR _) () λk _ hk=>by
   have hk:k<Bs.length:=()
   have hg:Bs.getD k []=Bs[k]:=by rw[aaW,YS hk];rfl
   obtain⟨_,hne,hok⟩:=wB _ (YV hk);rw[hg];unfold JU;cases hV:Bs[k] with
   |nil=>exact absurd hV hne
   |cons w V=>
    have eh:Pd (w::V)=w.1:=rfl;have hle:=hok w (by rw[hV];exact Yg);rw[eh,FQ c hle];have onw:∀x,w.1.2.1<=x->x<=w.1.2.2->Tp.pJ (x,w.1.1) (Bs[k].map (·.1)):=λx x1 x2=>⟨w.1,by rw[hV];exact Yg,rfl,x1,x2⟩
    constructor
    ·intro hx;exact h2 k hk ⟨_,onw _ (Yw _) hle,(Ak W (w.1.2.1,w.1.1)).1 (hx _ (Yw _) hle)⟩
    ·intro ek x x1 x2;subst ek
     exact (Ak W (x,w.1.1)).2 (h1 _ (onw x x1 x2))] at hf
  have sz:∀V:Wk,V.length<=160->(cM (V.map (·.1))).length<=160/\(am (cM (V.map (·.1)))).length<=160:=λV hV=>by have a:=nI (V.map (·.1));have b:=ut (dh (V.map (·.1))).1;rw[Ye] at a;lia
  have b1:=vz (p:=cM (Bs[jf pre.length].map (·.1))) (q:=cM (W.map (·.1))) (dh _).1 c (by have:=sz _ hB.1;lia) (by have:=sz _ hW;lia) (by have:=sz _ hB.1;have:=sz _ hW;lia) λx y h=>(Ak W (x,y)).2 (h1 _ ((Ak Bs[jf pre.length] (x,y)).1 h));have ha:cF (Bs.map aI) ((jf pre.length:Nat):Int)=some (aI Bs[jf pre.length]):=dB (by rw[YG,YS hj];rfl);have hin:JA false (.int (jf pre.length:Int)) (.lst (((List.range pre.length).map λi=>(jf i:Int)).map D.int))=some (.bl false):=by
   show (aR _).map _=_;rw[d7];have:((List.range pre.length).map λi=>(jf i:Int)).contains (jf pre.length:Int)=false:=by rw[<-adS,abg];intro hm;obtain⟨i,hi2,ei⟩:=Ym.1 hm;have hi2:=YM.1 hi2;have:=jinj i pre.length () hi ();lia
   show some (D.bl (((List.range pre.length).map λi=>(jf i:Int)).contains (jf pre.length:Int)))=_;rw[this]
  have hlim:pre.length<a9:=cV ();have h0:cF [D.int (jf pre.length:Int)] 0=some (.int (jf pre.length:Int)):=dB (j:=0) rfl;refine⟨[.sh dA,.sh (.lst (Bs.map aI)),dQ (((List.range pre.length).map λi=>(jf i:Int)).map D.int),.sh (aI W),v4,v5],[.sh dA,.sh (.lst (Bs.map aI)),dQ (((List.range (pre++[W]).length).map λi=>(jf i:Int)).map D.int),.sh (aI W),.sh (aQ (cM (W.map (·.1)))),.sh (.lst [.int (jf pre.length:Int)])],rfl,.inl ?_,_,_,_,rfl⟩;rw[show (List.range (pre++[W]).length).map (λi=>(jf i:Int))=(List.range pre.length).map (λi=>(jf i:Int))++[(jf pre.length:Int)] by rw[Yl,Y5,List.range_succ,YX];rfl];have hjl:((List.range pre.length).map λi=>(jf i:Int)).length<a9:=by simpa using hlim
  generalize (List.range pre.length).map (λi=>(jf i:Int))=js at hin hjl;generalize jf pre.length=j at *;unfold gn;rw[aC (ρ':=[.sh dA,.sh (.lst (Bs.map aI)),dQ (js.map D.int),.sh (aI W),.sh (aQ (cM (W.map (·.1)))),v5]) (by simp only[bX,aq,af,ak,aj,aab,aaY,Option.bind];rw[p1];rfl)];rw[aC (ρ':=[.sh dA,.sh (.lst (Bs.map aI)),dQ (js.map D.int),.sh (aI W),.sh (aQ (cM (W.map (·.1)))),.sh (.lst [.int (j:Int)])]) (by simp only[bX,aq,af,ak,aj,aab,aaY,Option.bind];rw[hf];rfl)];rw[aC (ρ':=[.sh dA,.sh (.lst (Bs.map aI)),dQ (js.map D.int),.sh (aI W),.sh (aQ (cM (W.map (·.1)))),.sh (.lst [.int (j:Int)])]) ?_]
  ·simp[h0,hjl]
  ·rw[nL ?_]
   ·rfl
   ·simp[h0,hin,ha,p2,b1])
 have hX:gG [.sh dA,.sh (.lst (Bs.map aI)),.un,.un,.un,.un]=some (.rt (.bl true)):=by unfold gG;rw[aC (ρ':=[.sh dA,.sh (.lst (Bs.map aI)),.un,.un,.un,.un]) (by rw[nL (by rw[<-hdA];simp[ZQ])];rfl)];rw[aC (ρ':=[.sh dA,.sh (.lst (Bs.map aI)),dQ [],.un,.un,.un]) (by simp)];rw[aC (by rw[fe (l:=As.map aI) (by rw[<-hdA];rfl)];exact k1)];rfl
 exact yl (n:=6) (ds:=[dA,.lst (Bs.map aI)]) hX
def vx(p:bG)(c:aJ p)(e:Bool)(h:∀x y,cP p x y->j8 [aQ p,.int x,.int y,.bl e]=some (.bl false)):B8 [aQ p,.bl e]=some (.bl true):=by
 obtain⟨ρ,k1,_⟩:=aY (g:=aL GO) (m:=kF) d9 (λ_ ρ=>∃v2 v3 v4 v5 v6,ρ=[sP p,.sh (.bl e),v2,v3,v4,v5,v6]) p [sP p,.sh (.bl e),.un,.un,.un,.un,.un] ⟨_,_,_,_,_,rfl⟩ (by
  rintro pre q post _ eq ⟨v2,v3,v4,v5,v6,rfl⟩;have hq:q∈p:=by rw[eq];simp
  obtain⟨ρ2,k2,u4,u5,u6,rfl⟩:=aY (g:=aL IZ) (m:=kE) aM (λ_ ρ=>∃v4 v5 v6,ρ=[sP p,.sh (.bl e),sI q.1,.sh (aZ q.2),v4,v5,v6]) q.2 [sP p,.sh (.bl e),sI q.1,.sh (aZ q.2),v4,v5,v6] ⟨_,_,_,rfl⟩ (by
   rintro pre s post _ es ⟨v4,v5,v6,rfl⟩;have hs:s∈q.2:=by rw[es];simp
   obtain⟨ρ3,k3,u6,rfl⟩:=aY (g:=ah 6) (m:=kD) D.int (λ_ ρ=>∃v6,ρ=[sP p,.sh (.bl e),sI q.1,.sh (aZ q.2),sI s.1,sI s.2,v6]) (zs s.1 (s.2+1-s.1).toNat) [sP p,.sh (.bl e),sI q.1,.sh (aZ q.2),sI s.1,sI s.2,v6] ⟨_,rfl⟩ (by
    rintro pre x post _ ex ⟨v6,rfl⟩;have hx:=(vJ _ _ x).mp (by rw[ex];simp);have hm:=h x q.1 ⟨q,hq,rfl,s,hs,(),()⟩
    exact⟨_,_,rfl,.inl (by simp[kD,hm];rfl),_,rfl⟩)
   refine⟨_,_,by simp;rfl,.inl ?_,.sh (.int s.1),.sh (.int s.2),u6,rfl⟩;unfold kE;rw[fe (l:=(zs s.1 (s.2+1-s.1).toNat).map D.int) (by simp[Oq,vg])]
   exact k3)
  refine⟨_,_,by simp;rfl,.inl ?_,.sh (.int q.1),.sh (aZ q.2),u4,u5,u6,rfl⟩;unfold kF;rw[fe (l:=q.2.map aM) (by simp)]
  exact k2)
 have hX:l8 [sP p,.sh (.bl e),.un,.un,.un,.un,.un]=some (.rt (.bl true)):=by unfold l8;rw[aC (by rw[fe (l:=p.map d9) (by simp)];exact k1)];rfl
 exact yl (n:=7) (ds:=[aQ p,.bl e]) hX
theorem qP:∀ts:List bD,(∀t∈ts,t.2.1<=t.2.2)->ts.length<=(bn ts).length
 |[],_=>Yi _
 |t::ts,h=>by have h1:=qP ts λs hs=>h s (Yn _ hs);have h2:=h t Yg;rw[gH,Yl,oP,Yk];lia
structure Sm(p:bG)(cs:R):Prop where
 can:aJ p
 mem:∀x y,cP p x y↔(x,y)∈cs
 cl:(bn (am p)).length<=70
 st:(am p).length<=70
 ln:p.length<=70
def PP{p:bG}{cs:R}(h:cs.length<=70)(c:aJ p)(hm:∀x y,cP p x y↔(x,y)∈cs):Sm p cs:=by
 have cl:(bn (am p)).length<=cs.length:=nF (ig c) λa ha=>by obtain⟨x,y⟩:=a;rwa[iL,eY,hm] at ha
 have hs:=qP (am p) (ko c);have hr:=ut c;exact⟨c,hm,(),(),()⟩
def NQ{ks:R}(s:Sm p ks)(x y:Int)(e:Bool):j8 [aQ p,.int x,.int y,.bl e]=some (.bl (AX ks e (x,y))):=by
 have a:=B9 p x y s.can (by have:=s.ln;lia) λq hq=>by have:=bC hq;have:=s.st;lia
 have ea:ud p x y=NV ks x y:=by
  unfold ud NV;congr 1
  funext dx dy
  unfold n8;rw[ach,vE,YO,<-s.mem,nK s.can];rfl
 rw[ea,<-KI] at a;exact Ca p x y _ e a
abbrev wd(bs:List Qa):D:=.tup (bs.map Jp)
abbrev KU(ps:List (List Qa)):D:=.tup (ps.map wd)
abbrev ym(N:Str)(ps:List (List Qa)):D:=.ins N ["parts"] [KU ps]
def rO(l u r d:Int)(h1:0<=l)(h2:0<=u)(h3:0<=r)(h4:0<=d):rN [.int l,.int u,.int r,.int d]=some (KU [[oO l u r d]]):=by
 have hm:∃m:Int,Jm [.int l,.int u,.int r,.int d]=some (.int m)/\0<=m:=by exact⟨min l (min u (min r d)),rfl,adV.2 ⟨h1,adV.2 ⟨h2,adV.2 ⟨h3,h4⟩⟩⟩⟩
 obtain⟨m,hm,m0⟩:=hm;have m1:¬m<0:=()
 simp[rN,ND,hm,m1]
def uJ{p:bG}{ks:R}(s:Sm p ks)(r d:Int)(h1:0<=r)(h2:0<=d)(h3:d<=1){D:R}(hD:∀e,e∈D↔(0<=e.1/\e.1<=r)/\0<=e.2/\e.2<=d):∃(q:bG) (n:Nat),fO [ym "Box" [[oO 0 0 r d]],aQ p]=some (aQ q)/\bO [aQ q]=some (.int (n:Int))/\Tp.Crd D ks n:=by
 obtain⟨q,a1,a2,a3,a4⟩:=Jq s.can s.st r d h1 ();have gq:=ko a2;refine⟨q,(bn (am q)).length,?_,?_,_,ig a2,λv=>?_,rfl⟩
 ·have hX:dZ [.sh (ym "Box" [[oO 0 0 r d]]),sP p,.un]=some (.rt (aQ q)):=by
   unfold dZ;rw[aC (ρ':=[.sh (ym "Box" [[oO 0 0 r d]]),sP q,.sh (wd [oO 0 0 r d])]) ?_]
   ·rfl
   ·rw[fe (l:=[wd [oO 0 0 r d]]) rfl,ny (ρ1:=[.sh (ym "Box" [[oO 0 0 r d]]),sP p,.sh (wd [oO 0 0 r d])]) rfl (ρ2:=[.sh (ym "Box" [[oO 0 0 r d]]),sP q,.sh (wd [oO 0 0 r d])]) (by
     have a1:dH [aQ p,wd [oO 0 0 r d]]=some (aQ q):=a1;generalize wd [oO 0 0 r d]=P at a1
     simp[ga,a1])]
    rfl
  exact yl (n:=3) (ds:=[ym "Box" [[oO 0 0 r d]],aQ p]) hX
 ·rw[iC _ gq,<-pU];exact gf q (by have:=ut a2;lia) λz hz=>by have:=bC hz;lia
 ·rw[show v=(v.1,v.2) from rfl,iL,eY,a4];exact⟨λ⟨u,v',k1,k2⟩=>⟨(u,v'),(hD _).mpr k1,(s.mem _ _).mp k2⟩,λ⟨e,k1,k2⟩=>⟨e.1,e.2,(hD e).mp k1,(s.mem _ _).mpr k2⟩⟩
def J4:¬(Str.ofString "greater"=Str.ofString "parts"):=by decide +kernel
def yF{p:bG}{ks:R}(s:Sm p ks):∃z:Int,gC [aQ p]=some (.int z)/\Tp.UW ks z:=by
 have mem:∀(d e:Int×Int),d=e↔d.1=e.1/\d.2=e.2:=λd e=>Prod.ext_iff;obtain⟨q1,a,a1,a2,a3⟩:=uJ s 1 1 () () () (D:=Tp.dV) λd=>by simp only[Tp.dV,Yj,abb,abc,mem];lia
 obtain⟨q2,b,b1,b2,b3⟩:=uJ s 1 0 () () () (D:=Tp.dU) λd=>by simp only[Tp.dU,Yj,abb,abc,mem];lia
 obtain⟨q3,c,c1,c2,c3⟩:=uJ s 0 1 () () () (D:=Tp.dF) λd=>by simp only[Tp.dF,Yj,abb,abc,mem];lia
 have i1:=rO 0 0 1 1 () () () ();have i2:=rO 0 0 1 0 () () () ();have i3:=rO 0 0 0 1 () () () ();have d2:=gf p (by have:=s.ln;lia) λz hz=>by have:=bC hz;have:=s.st;lia
 rw[pU,<-iC _ (ko s.can)] at d2;have e1:rJ [aQ p]=some (.int (a:Int)):=by simp[rJ,o6,br,m9,J4,i1,a1,a2]
 have e2:zS [aQ p]=some (.int ((b:Int)+c)):=by simp[zS,vM,br,ua,J4,i2,i3,b1,b2,c1,c2]
 refine⟨(a:Int)-(b+c)+(bn (am p)).length,by simp[gC,iT,br,gy,e1,e2,d2],a,b,c,_,a3,b3,c3,⟨_,ig s.can,λv=>?_,rfl⟩,rfl⟩;rw[show v=(v.1,v.2) from rfl,iL,eY,s.mem];exact⟨λh=>⟨(0,0),Yg,~~~h⟩,λ⟨d,h1,h2⟩=>by rw[Yp.1 h1] at h2;simpa using h2⟩
def JN{k:Int} (c:aJ p) (F:Eu.Fam k (am p) (nP Ws))(hl:∀W∈Ws,W.length<=160):∀W∈Ws,W.length<=160/\W≠[]/\∀w∈W,w.1.2.1<=w.1.2.2:=λW hW=>by
 obtain⟨s,h1,h2⟩:=F.cl _ (Ym.2 ⟨W,hW,rfl⟩);refine⟨hl W hW,λe=>?_,λw hw=>?_⟩
 ·have:=(h2 s).mpr .refl;rw[e] at this;cases this
 ·exact ko c _ (((h2 w.1).mp (Ym.2 ⟨w,hw,rfl⟩)).mem h1)
section
variable {p q:bG}{ks r:R}(sp:Sm p ks)(sq:Sm q r)(kb:Tp.KB ks r)
include sp sq kb
theorem keeps:Tp.ZL Tp.N8 (λd=>cP p d.1 d.2) (λd=>cP q d.1 d.2)/\Tp.ZL Tp.N4 (TT q) (TT p):=by have e1:(λd:Tp.aH=>cP p d.1 d.2)=(· ∈ ks):=funext λd=>propext (sp.mem _ _);have e2:(λd:Tp.aH=>cP q d.1 d.2)=(· ∈ r):=funext λd=>propext (sq.mem _ _);have e3:TT p=(· ∉ ks):=funext λd=>propext (not_congr (sp.mem _ _));have e4:TT q=(· ∉ r):=funext λd=>propext (not_congr (sq.mem _ _));rw[e1,e2,e3,e4];exact kb
theorem KW:∃Ws Vs Hs Gs:List Wk,(j9 [aQ p]=some (.lst (Ws.map aI))/\j9 [aQ q]=some (.lst (Vs.map aI)))/\(qt [aQ p]=some (.lst (Hs.map aI))/\qt [aQ q]=some (.lst (Gs.map aI)))/\gJ [.lst (Ws.map aI),.lst (Vs.map aI)]=some (.bl true)/\gJ [.lst (Gs.map aI),.lst (Hs.map aI)]=some (.bl true):=by
 obtain⟨K8,K4⟩:=keeps sp sq kb;have p1:=sp.st;have p2:=sp.ln;have q1:=sq.st;have q2:=sq.ln;obtain⟨Ws,w1,w2,w3,FW⟩:=wg p sp.can () ();obtain⟨Vs,v1,v2,v3,FV⟩:=wg q sq.can () ();obtain⟨Hs,h1,h2,h3,FH⟩:=yr p sp.can () ();obtain⟨Gs,g1,g2,g3,FG⟩:=yr q sq.can () ();have lW:∀W∈Ws,W.length<=160:=λW hW=>by obtain⟨s,hs,i⟩:=w3 W hW;have:=i.toWOk.le hs;lia
 have lV:∀W∈Vs,W.length<=160:=λW hW=>by obtain⟨s,hs,i⟩:=v3 W hW;have:=i.toWOk.le hs;lia
 have fW:=yS sp.can FW;have fV:=yS sq.can FV;obtain⟨M,h0,hM⟩:=far (am p++am q);have mp:∀t∈am p,(-M<t.1/\t.1<M) /\ -M<t.2.1/\t.2.2<M:=λt ht=>hM t (YD _ ht);have mq:∀t∈am q,(-M<t.1/\t.1<M) /\ -M<t.2.1/\t.2.2<M:=λt ht=>hM t (Yu _ ht);have fl:∀(p:bG) (Xs:List Wk),(nP Xs).filter (λW=>!W.any (eG p))=nP (Xs.filter (gX p)):=λp Xs=>by unfold nP;rw[List.filter_map];congr 1;exact List.filter_congr λW _=>(MH p W).symm
 have fH:=BU sp.can h0 mp FH;have fG:=BU sq.can h0 mq FG;rw[fl] at fH fG;have fH:=fH.out (O':=λd=>Tp.Cn Tp.N4 (TT q) d (M,M)) λd hd=>⟨λh=>h.mono K4.sub,λh=>K4.cn d (M,M) hd (CB sp.can mp (.inr (.inl (Yw _)))) h⟩
 exact⟨Ws,Vs,Hs.filter (gX p),Gs.filter (gX q),⟨w1,v1⟩,⟨h1,g1⟩,oo K8 fW fV () lW (JN sq.can FV lV),oo K4 fG fH (Yr (aaG _ _) g2) (λW hW=>g3 W (YC.1 hW).1) (λW hW=>JN (oX sp.can) FH h3 W (YC.1 hW).1)⟩
end
def J9{ks:R}(s:Sm p ks)(x y:Int):yE [aQ p,.int y,.int x,.int x]=some (.bl (decide ((x,y)∈ks))):=by rw[sZ];congr 2;rw[ach,YO,FQ s.can (Yw _),<-s.mem];exact⟨λh=>h x (Yw _) (Yw _),λh z z1 z2=>by rw[show z=x by lia];exact h⟩
def Ku(ns:Zn)(h:ns.length<=63):Ti [.scr (ns.map D.int)]=some (.bl true):=by
 have l2:2<=a9:=aE ();obtain⟨P50,hP50⟩:∃P:Int,(10:Int)^(50:Int).toNat=P:=⟨_,rfl⟩
 have p50:Nh (.int 10) (.int 50)=some (.int P50):=by rw[<-hP50];exact Um (by decide)
 have h50:0<P50:=by rw[<-hP50];decide
 clear hP50;obtain⟨c1,hc1⟩:∃v:Int,bx [.scr (ns.map D.int),.int 1]=some (.int v):=kq ns 1;obtain⟨c2,hc2⟩:∃v:Int,bx [.scr (ns.map D.int),.int 2]=some (.int v):=kq ns 2;obtain⟨c3,hc3⟩:∃v:Int,bx [.scr (ns.map D.int),.int 3]=some (.int v):=kq ns 3;obtain⟨far,hfar⟩:∃w:Int,c1/4%2*(c3%P50)=w:=⟨_,rfl⟩
 have hmul:mj (.int (c1/4%2)) (.int (c3%P50))=some (.int far):=by rw[<-hfar];exact fM (.inl ())
 obtain⟨ps,hps,lps⟩:=vw ns;obtain⟨cs,hcs⟩:∃cs:R,ps.map (λc=>(c.1+far,c.2-far))=cs:=⟨_,rfl⟩
 have hcl:cs.length<=70:=by rw[<-hcs,Ye];lia
 have hcm:a8 kA bA (aV (af (az a6 (ag 0) (ag 2)) (af (az gI (ag 1) (ag 2)) aj))) [.un,.un,sI far] (ps.map aM)=some (cs.map aM):=by rw[<-hcs,YE];exact aW aM _ ps λc _=>by simp[cY,l2]
 have lps':ps.length<=a9:=aE ();obtain⟨p,hpic,pc,pm⟩:=NL cs ();obtain⟨e,he⟩:∃e:Bool,decide (c2/5%2=0)=e:=⟨_,rfl⟩
 have s0:=PP hcl pc pm;obtain⟨ks,hks⟩:∃ks,bn (am p)=ks:=⟨_,rfl⟩
 have sp:Sm p ks:=⟨s0.can,λx y=>by rw[<-hks,iL,eY],s0.cl,s0.st,s0.ln⟩
 have nd:ks.Nodup:=by rw[<-hks];exact ig s0.can
 have kl:ks.length<=70:=by rw[<-hks];exact s0.cl
 have hcn:O7 p<=1000:=by have:=iC (am p) (ko s0.can);have:=s0.cl;rw[pU];lia
 have ht:=zW (aQ p) ks e (by rw[<-hks];exact xn p s0.can hcn (by have:=s0.st;lia) (by have:=s0.ln;lia) λq hq=>by have:=bC hq;have:=s0.st;lia) nd ();obtain⟨t,r,htr,wy,sub,tl,tk,ng⟩:=Tp.Ms e nd;rw[htr] at ht;dsimp only at ht;have sq:=PP (cs:=r) (by have:=sub.length_le;lia) (dh (r.map cT)).1 λx y=>((dh _).2 x y).trans (Mu r x y);generalize cM (r.map cT)=q at ht sq;obtain⟨Ws,Vs,Hs,Gs,⟨a1,a2⟩,⟨b1,b2⟩,o1,o2⟩:=KW sp sq (Tp.Du e t wy);obtain⟨z,t1,n1⟩:=yF sp;obtain⟨z',t2,n2⟩:=yF sq;rw[Tp.GE e t wy n1 n2] at t1;have l1:=vz (p:=q) (q:=p) sq.can sp.can (by have:=sq.ln;lia) (by have:=sp.ln;lia) (by have:=sq.st;have:=sp.st;lia) λx y hm=>(sp.mem x y).mpr (sub.subset ((sq.mem x y).mp hm));have st:=vx q sq.can e λx y hm=>by rw[NQ sq,ng _ ((sq.mem x y).mp hm)]
 obtain⟨ρ,k1,v6,v7,rfl⟩:=aY (g:=aL DA) (m:=t9) aM (λ_ ρ=>∃v6 v7,ρ=[.sh (.scr (ns.map D.int)),.sh (.bl e),sI far,sP p,sP q,.sh (.lst (t.map aM)),v6,v7]) t [.sh (.scr (ns.map D.int)),.sh (.bl e),sI far,sP p,sP q,.sh (.lst (t.map aM)),.un,.un] ⟨_,_,rfl⟩ (by
  rintro pre c post _ ec ⟨v6,v7,rfl⟩;obtain⟨h1,h2⟩:=tk c (by rw[ec];simp);have i1:=J9 sq c.1 c.2;have i2:=J9 sp c.1 c.2;rw[YB h2] at i1;rw[YI h1] at i2;refine⟨_,_,by simp;rfl,.inl ?_,.sh (.int c.1),.sh (.int c.2),rfl⟩
  simp[t9,i1,i2])
 have tl':t.length<=a9:=aE ();have hX:A8 [.sh (.scr (ns.map D.int)),.un,.un,.un,.un,.un,.un,.un]=some (.rt (.bl true)):=by unfold A8;rw[aC (ρ':=[.sh (.scr (ns.map D.int)),.sh (.bl e),.un,.un,.un,.un,.un,.un]) (by simp[hc2,<-he])];rw[aC (ρ':=[.sh (.scr (ns.map D.int)),.sh (.bl e),sI far,.un,.un,.un,.un,.un]) (by simp[hc1,hc3,p50,PX h50,hmul])];rw[aC (ρ':=[.sh (.scr (ns.map D.int)),.sh (.bl e),sI far,sP p,.un,.un,.un,.un]) (by simp[hps,hcm,lps',hpic,sr])];rw[aC (ρ':=[.sh (.scr (ns.map D.int)),.sh (.bl e),sI far,sP p,sP q,.sh (.lst (t.map aM)),.un,.un]) (by simp[ht])];rw[aC (ρ':=[.sh (.scr (ns.map D.int)),.sh (.bl e),sI far,sP p,sP q,.sh (.lst (t.map aM)),.un,.un]) (by simp[l1,t1,t2])];rw[aC (ρ':=[.sh (.scr (ns.map D.int)),.sh (.bl e),sI far,sP p,sP q,.sh (.lst (t.map aM)),.un,.un]) (by simp[a1,a2,b1,b2,o1,o2])];rw[aC (by rw[fe (l:=t.map aM) (by simp)];exact k1)];simp[st]
 exact yl (n:=8) (ds:=[.scr (ns.map D.int)]) hX
end P
namespace L2
open PySem PySem.Spec PyProof.Rows M
abbrev tq{p:Prop}{α:Sort _}(_:p)(x:α):α:=x
structure Fd(K:Zj)(x:Str)(st:Stmt)(f:Addr)(fd:FuncData):Prop where
 a:W.nsIn K mainGlobals x=some (some (.ref f))
 F:Fun K x x st f fd
structure Bk(P:Program)(w:World)(K:Zj)(mg:Zg)(base:Heap)(n:Nat)(x:Str)(ps:Zl)(sp:Sp)(f:Addr)(fd:FuncData):Prop where
 G:ZD P w K mg base sH n f fd ps sp
 m:mg x=some (.ref f)
 k:W.keepIn K (.ref f)=true
 b:Binds K fd ps []
structure Bm(P:Program)(w:World)(K:Zj)(mg:Zg)(base:Heap)(n:Nat)(x:Str)(Ns ps:Zl)(sp:Sp)(f:Addr)(fd:FuncData):Prop where
 G:ZD P w K mg base sH n f fd ps sp
 b:Binds K fd ps []
 cm:xi K Ns λC=>Cls K C/\Meth K C x f
structure Bc(P:Program)(w:World)(K:Zj)(mg:Zg)(base:Heap)(n:Nat)(x:Str)(ps:Zl)(sp:Sp)(c f:Addr)(fd:FuncData):Prop where
 G:ZD P w K mg base sH n f fd ps sp
 b:Binds K fd ps []
 n:W.nsIn K mainGlobals x=some (some (.ref c))
 M:Mk K c f
 g:mg x=some (.ref c)
structure Bb(P:Program)(w:World)(K:Zj)(mg:Zg)(base:Heap)(n:Nat)(x:Str)(ps:Zl)(sp:Sp)(c f:Addr)(fd:FuncData):Prop where
 G:ZD P w K mg base sH n f fd ps sp
 b:Binds K fd ps []
 cf:ClsFn K c "__init__" f
 g:mg x=some (.ref c)
section
variable {X:Cx}{a b e o:Expr}{es:List Expr}{ta tb te:TE}{t:TA}{p pos pos' apos:Pos}{x:Str}{n k:Nat}{ps:Zl}{sp:Sp}{c f:Addr}{fd:FuncData}
def HN(i:Nat)(hN:X.N.Nodup)(hi:X.N[i]?=some x:=by rfl)(hx:M4 X.env.scope x:=by exact .inl rfl)(hf:X.fn x=true\/X.env.scope.names.lookup x=some .local:=by first|exact .inl rfl|exact .inr rfl|assumption):PG X (.Name x pos) (jr i):=um hN hi hx hf
def K6{N:Zl}{scope:Scope}{z:CxZ}(i:Nat)(hN:N.Nodup:=by decide +kernel)(hi:(mh X N scope z).N[i]?=some x:=by rfl)(hx:M4 (mh X N scope z).env.scope x:=by exact .inl rfl)(hf:(mh X N scope z).fn x=true\/(mh X N scope z).env.scope.names.lookup x=some .local:=by first|exact .inl rfl|exact .inr rfl|assumption):PG (mh X N scope z) (.Name x pos) (jr i):=um hN hi hx hf
def AY(i:Nat)(hN:X.N.Nodup)(he:PE X e te)(hi:X.N[i]?=some x:=by rfl)(hx:M4 X.env.scope x:=by exact .inl rfl)(hs:swapsWith e (some (.Name x pos')) pos.line X.env=pure false:=by rfl)(hf:X.fn x=true\/X.env.scope.names.lookup x=some .local:=by first|exact .inl rfl|exact .inr rfl|assumption) :
  PS X (.Assign [.Name x pos'] e pos) (AN te (jr i)):=ED hN hi hx he hs hf
def Rc(ha:PE X a ta)(hb:PE X b tb)(hs:Fi b:=by exact λ_ _=>rfl):PE X (.Subscript a b pos) (Mq (Tx X.K) ta tb):=Tl QP ha hb hs
def Pr{op:CmpOp}{r:R2}(ho:OpR X (compareOp op) r)(ha:PE X a ta)(hb:PE X b tb)(hm:behindInMarks op b=false:=by exact KG _):PT X (.Compare a [op] [b] pos) (Gy (Mq r ta tb)):=Gd ho ha hb hm
def Ai(F:Bk X.prog X.w X.K X.mg X.base n x ps sp f fd)(hr:Zw k X.A)(ha:PA X (e::es) t)(hn:n<=k:=by decide)(hg:Gl X x:=by rfl)(hdb:(x==("__debug__" : Str))=false:=by decide)
  (he:starEach (e::es) X.env=(false,eval e X.env)::starEach es X.env:=by rfl) (hpl:(backTo pos (starEach es X.env)).any (·.1)=false:=by rfl):PE X (.Call (.Name x p) (e::es) [] pos) (qR sp [] E0 t):=N9 F.G (hr.mono hn) hg F.m F.k F.b .nil F9 ha hdb he hpl
def Xr(F:Bc X.prog X.w X.K X.mg X.base n x ps sp c f fd)(hr:Zw k X.A)(ha:PA X (e::es) t)(hn:n+1<=k:=by decide)(hg:Gl X x:=by rfl)(hdb:(x==("__debug__" : Str))=false:=by decide)
  (he:starEach (e::es) X.env=(false,eval e X.env)::starEach es X.env:=by rfl) (hpl:(backTo pos (starEach es X.env)).any (·.1)=false:=by rfl):PE X (.Call (.Name x p) (e::es) [] pos) (AO X.K x sp t):=K1 F.n F.M F.G (hr.mono hn) hg F.g F.b F9 ha hdb he hpl
def Xu{pl:Sem Bool}{Ns:Zl}(F:Bm X.prog X.w X.K X.mg X.base n x Ns ps sp f fd)(hr:Zw k X.A)(he:PE X o ta)(ha:PA X (e::es) t)(hn:n<=k:=by decide)
  (hst:starEach (e::es) X.env=(false,eval e X.env)::starEach es X.env:=by rfl) (hpl:(backTo pos (starEach es X.env)).any (·.1)=false:=by rfl)
  (ht:eval (.Call (.Attribute o x apos) (e::es) [] pos) X.env=(do
   let ov ← eval o X.env
   standAt apos.atName
   let (f,first) ← holding [ov] (getMethod ov x pl)
   callWith pos f first (backTo pos (starEach (e::es) X.env)) (backToKw pos (keywordEach [] X.env))):=by rfl) :
  PE X (.Call (.Attribute o x apos) (e::es) [] pos) (AQ X.K Ns x sp ta t):=K2 F.cm F.G (hr.mono hn) F.b F9 he ha hst hpl ht
def r8{XN N:Zl}{sc scope:Scope}{js:List (Option Nat)}{tg iter elt:Expr}{ifs:List Expr}{wi:TI}{g:TG}{tt:Qj}(ck:Zq XN sc scope N js)(hi:PI X tg iter wi:=by nofun)(hg:∀z,PG (mh X N scope z) tg g:=by intro _;nofun)(hs:zj js g:=by nofun)(ht:∀z,O3 (mh X N scope z) ifs tt:=by intro _;nofun)(he:∀z,PE (mh X N scope z) elt te:=by intro _;nofun)
  (hXN:X.N=XN:=by rfl) (hsc:X.env.scope=sc:=by rfl) (hc:X.calm=true:=by rfl) (hf:∀x,foldedSetIterable iter X.env x=pure x:=by intro _;rfl) :
  PE X (.ListComp elt [⟨tg,iter,ifs,0⟩] scope pos) (y8 js wi g tt te):=nH ck hi hg hs ht he hXN hsc hc hf
end
theorem Fd.ok{P:Program}{w:World}{K:Zj}{mg:Zg}{base:Heap}{x:Str}{st:Stmt}{f:Addr}{fd:FuncData}{N ps:Zl}{k n j:Nat}{y:XS}(F:Fd K x st f fd)(T:∀y v,W.nsIn K mainGlobals y=some (some v)->mg y=some v)(p:{ t:TS // SS K t y })
  (hb:N.Nodup->∀(cdv:Value) (A:Around) (outer:List PySem.Env) (s:Shared) (H:Hp) (E:XK),Zw k (A.deeper (envOfC x (ap st) s.heap.objs.size f cdv)) ->
   PSs (uP sH P w K mg base N x (ap st) f cdv A outer s H E).nox (cG st) p.1:=by
   bv_omega
   nofun)
  (hN:N.length=n:=by rfl) (hj:ps.length=j:=by rfl) (S:ZB N ps (ap st):=by ac_rfl)
  (hB:∀(kV doc pm:Value) (an:Option Addr) (cdv ct:Value) (us:Zh),us.length=ps.length->bindArgs (W.fnOf x x (gz st) (cG st) (ap st) .none kV doc pm an cdv ct) ⟨us,[]⟩=pure (ps.zip us):=by
   intro _ _ _ _ _ _ us hl
   first
    | (cases us0 hl;rfl)
    | (obtain⟨_,rfl⟩:=XC hl;rfl)
    | (obtain⟨_,_,rfl⟩:=Uh hl;rfl)
    | (obtain⟨_,_,_,rfl⟩:=WE hl;rfl)
    | (obtain⟨_,_,_,_,rfl⟩:=WF hl;rfl)
    | (obtain⟨_,_,_,_,_,rfl⟩:=WG hl;rfl)) :
  Bk P w K mg base (k+1) x ps (bm K j (br n y)) f fd:=by
 refine⟨F.F.ok S (λvs H Q E h=>h.1.trans hj.symm) λcdv A outer s H vs Q E hr h=>?_,T x _ F.a,F.F.kp,F.F.binds hB⟩;exact⟨_,hb S.nd cdv A outer s H E hr,M.yV p.2 hN h⟩
def Fun.okm{P:Program}{w:World}{K:Zj}{mg:Zg}{base:Heap}{x qual:Str}{st:Stmt}{f:Addr}{fd:FuncData}{N ps:Zl}{k n j:Nat}{y:XS}(F:Fun K x qual st f fd)(p:{ t:TS // SS K t y })
  (hb:N.Nodup->∀(cdv:Value) (A:Around) (outer:List PySem.Env) (s:Shared) (H:Hp) (E:XK),Zw k (A.deeper (envOfC qual (ap st) s.heap.objs.size f cdv)) ->
   PSs (uP sH P w K mg base N qual (ap st) f cdv A outer s H E).nox (cG st) p.1:=by
   bv_omega
   nofun)
  (hN:N.length=n:=by rfl) (hj:ps.length=j:=by rfl) (S:ZB N ps (ap st):=by ac_rfl) :
  ZD P w K mg base sH (k+1) f fd ps (bm K j (br n y)):=
 F.ok S (λvs H Q E h=>h.1.trans hj.symm) λcdv A outer s H vs Q E hr h=>⟨_,hb S.nd cdv A outer s H E hr,M.yV p.2 hN h⟩
def Nu{K:Zj}{x qual:Str}{st:Stmt}{T f:Addr}{oc:Value}{od an:Option Addr}{osl:Array (Zi)}{kV doc pm cdv ct:Value}(l:K.lookup f=some ⟨oc,od,.func (W.fnOf x qual (gz st) (cG st) (ap st) (.ref T) kV doc pm an cdv ct),osl⟩)(c:W.codeIn K cdv qual=true):FunD K x qual st T f (W.fnOf x qual (gz st) (cG st) (ap st) (.ref T) kV doc pm an cdv ct):=⟨⟨_,_,_,_,_,_,_,_,_,rfl,l,c⟩⟩
structure FdD(K:Zj)(x:Str)(st:Stmt)(d:Bool)(T:Addr)(c:Value)(od:Option Addr)(m:Nat)(sl:Array (Zi))(f:Addr)(fd:FuncData):Prop where
 a:W.nsIn K mainGlobals x=some (some (.ref f))
 F:FunD K x x st T f fd
 kp:W.keepIn K (.ref f)=true
 dl:K.lookup T=some ⟨c,od,.seq #[.bool d] m,sl⟩
section
variable {P:Program}{w:World}{K:Zj}{mg:Zg}{base:Heap}{x:Str}{st:Stmt}{f:Addr}{fd:FuncData}{N ps:Zl}{k n j:Nat}{y:XS}
def FdD.ok{d:Bool}{T:Addr}{c:Value}{od:Option Addr}{m:Nat}{sl:Array (Zi)}(F:FdD K x st d T c od m sl f fd)(T':∀y v,W.nsIn K mainGlobals y=some (some v)->mg y=some v)(p:{ t:TS // SS K t y })
  (hB:∀(kV doc pm:Value) (an:Option Addr) (cdv ct:Value) (s:Shared) (us:Zh),K.In s.heap->us.length=ps.length->BindsTo s (W.fnOf x x (gz st) (cG st) (ap st) (.ref T) kV doc pm an cdv ct) ⟨us,[]⟩ (ps.zip us))
  (hb:N.Nodup->∀(cdv:Value) (A:Around) (outer:List PySem.Env) (s:Shared) (H:Hp) (E:XK),Zw k (A.deeper (envOfC x (ap st) s.heap.objs.size f cdv)) ->
   PSs (uP sH P w K mg base N x (ap st) f cdv A outer s H E).nox (cG st) p.1:=by
   bv_omega
   nofun)
  (hN:N.length=n:=by rfl) (hj:ps.length=j:=by rfl) (S:ZB N ps (ap st):=by ac_rfl) :
  Bk P w K mg base (k+1) x ps (bm K j (br n y)) f fd:=by
 refine⟨F.F.ok S (λvs H Q E h=>h.1.trans hj.symm) λcdv A outer s H vs Q E hr h=>⟨_,hb S.nd cdv A outer s H E hr,M.yV p.2 hN h⟩,T' x _ F.a,F.kp,λs us X hl=>?_⟩;obtain⟨oc,od,kV,doc,pm,an,cdv,ct,osl,rfl,lk,hcd⟩:=F.F.ex;rw[YK] at hl ⊢;exact hB _ _ _ _ _ _ s us X hl
def Fd.okH(F:Fd K x st f fd)(T:∀y v,W.nsIn K mainGlobals y=some (some v)->mg y=some v)(p:{ t:TS // SS K t y })
  (hb:N.Nodup->∀(cdv:Value) (A:Around) (outer:List PySem.Env) (s:Shared) (H:Hp) (E:XK),Zw k (A.deeper (envOfC x (ap st) s.heap.objs.size f cdv)) ->
   PSs (uP sH P w K mg base N x (ap st) f cdv A outer s H E).nox (cG st) p.1:=by
   bv_omega
   nofun)
  (hN:N.length=n:=by rfl) (hj:ps.length=j:=by rfl) (S:ZB N ps (ap st):=by ac_rfl)
  (hB:∀(kV doc pm:Value) (an:Option Addr) (cdv ct:Value) (us:Zh),us.length=ps.length->bindArgs (W.fnOf x x (gz st) (cG st) (ap st) .none kV doc pm an cdv ct) ⟨us,[]⟩=pure (ps.zip us):=by
   intro _ _ _ _ _ _ us hl
   first
    | (obtain⟨_,_,rfl⟩:=Uh hl;rfl)
    | (obtain⟨_,_,_,rfl⟩:=WE hl;rfl)) :
  Bk P w K mg base (k+1) x ps (Ua K j (QH n y)) f fd:=by
 refine⟨F.F.ok S (λvs H Q E h=>h.1.trans hj.symm) λcdv A outer s H vs Q E hr h=>?_,T x _ F.a,F.F.kp,F.F.binds hB⟩;exact⟨_,hb S.nd cdv A outer s H E hr,M.Ro p.2 hN h⟩
end
end L2
namespace Lw
open PySem PySem.W L2 M P
set_option autoImplicit true
def f7 (i : Nat) : Stmt := PySem.Challenge.pw_shapethin_k56_whole_thinned_keeps_pieces.main.body.getD i (.Pass ⟨0, 0, 0, 0⟩)
abbrev wH:Stmt:=f7 6
abbrev ox:Stmt:=f7 7
abbrev y0:Stmt:=f7 8
abbrev qK:Stmt:=f7 9
abbrev wG:Stmt:=f7 10
abbrev fT:Stmt:=f7 11
abbrev mU:Stmt:=f7 12
abbrev mV:Stmt:=f7 13
abbrev pA:Stmt:=f7 14
abbrev ii:Stmt:=f7 17
abbrev i6:Stmt:=f7 18
abbrev C7:Stmt:=f7 19
abbrev wC:Stmt:=f7 20
abbrev fU:Stmt:=f7 21
abbrev LV:Stmt:=f7 22
abbrev EL:Stmt:=f7 23
abbrev yZ:Stmt:=f7 24
abbrev jR:Stmt:=f7 25
abbrev AA:Stmt:=f7 26
abbrev pz:Stmt:=f7 27
abbrev wx:Stmt:=f7 31
abbrev AB:Stmt:=f7 32
abbrev i4:Stmt:=f7 33
abbrev C5:Stmt:=f7 34
abbrev nM:Stmt:=f7 37
abbrev qL:Stmt:=f7 38
abbrev lv:Stmt:=f7 39
abbrev tD:Stmt:=f7 40
abbrev EK:Stmt:=f7 41
abbrev oy:Stmt:=f7 44
abbrev fk:Stmt:=f7 45
abbrev jD:Stmt:=f7 46
abbrev lM:Stmt:=f7 47
abbrev pB:Stmt:=f7 53
abbrev tE:Stmt:=f7 54
abbrev lu:Stmt:=f7 55
abbrev C6:Stmt:=f7 56
abbrev fm:Stmt:=f7 57
abbrev fS:Stmt:=f7 59
abbrev yY:Stmt:=f7 60
abbrev Az:Stmt:=f7 61
abbrev yX:Stmt:=f7 63
abbrev Gp:Stmt:=f7 64
abbrev oz:Stmt:=f7 65
abbrev ww:Stmt:=f7 67
abbrev C2:Stmt:=f7 68
abbrev C3:Stmt:=f7 69
abbrev lm:Stmt:=f7 70
abbrev PH:Stmt:=f7 71
abbrev mR:Stmt:=f7 72
abbrev tw:Stmt:=f7 73
abbrev C4:Stmt:=f7 74
abbrev LW:Stmt:=f7 75
abbrev gU:Stmt:=uf (f7 48) 0
abbrev Aw:Stmt:=uf (f7 48) 1
abbrev mQ:Stmt:=uf (f7 48) 2
abbrev iZ:Stmt:=uf (f7 49) 0
structure Txt(P:Program)(w:World)(K:Frag)(mg:Zg)(base:Heap):Prop where
 mo:∀x v,nsIn K mainGlobals x=some (some v)->mg x=some v
 any:mg "any"=none
 dict:mg "dict"=none
 enumerate:mg "enumerate"=none
 len:mg "len"=none
 max:mg "max"=none
 min:mg "min"=none
 range:mg "range"=none
 reversed:mg "reversed"=none
 set:mg "set"=none
 sorted:mg "sorted"=none
 sum:mg "sum"=none
 tuple:mg "tuple"=none
 BY_EIGHT:∃t:Tok,mg "BY_EIGHT"=some (.int (1) t)
 BY_FOUR:∃t:Tok,mg "BY_FOUR"=some (.int (0) t)
 MOST_CELLS:∃t:Tok,mg "MOST_CELLS"=some (.int (1000) t)
 ONE_CELL:∃(u:Value) (v:V),mg "ONE_CELL"=some u/\RelV v u/\∀S,Den K S (.mtp [.mtp [.int (0),.mtp [.mtp [.int (0),.int (0)]]]]) v
 ROUND:∃(u:Value) (v:V),mg "ROUND"=some u/\RelV v u/\∀S,Den K S (.mtp [.mtp [.int (0),.int (-1),.int (1)],.mtp [.int (-1),.int (-1),.int (2)],.mtp [.int (-1),.int (0),.int (4)],.mtp [.int (-1),.int (1),.int (8)],.mtp [.int (0),.int (1),.int (16)],.mtp [.int (1),.int (1),.int (32)],.mtp [.int (1),.int (0),.int (64)],.mtp [.int (1),.int (-1),.int (128)]]) v
 SIDES:∃(u:Value) (v:V),mg "SIDES"=some u/\RelV v u/\∀S,Den K S (.mtp [.mtp [.int (0),.int (-1)],.mtp [.int (-1),.int (0)],.mtp [.int (0),.int (1)],.mtp [.int (1),.int (0)]]) v
 STRAIGHT:∃(u:Value) (v:V),mg "STRAIGHT"=some u/\RelV v u/\∀S,Den K S (.mtp [.int (1),.int (4),.int (16),.int (64)]) v
 cN:xi K NS λC=>Cls K C/\NoAttr K C "parts"
section
variable {P:Program}{w:World}{K:Frag}{mg:Zg}{base:Heap}(T:Txt P w K mg base)
include T
abbrev uD:=tq T <| Bk P w K mg base 1 "row_of" ["pairs"] (IA K)
abbrev gu:=tq T <| Bk P w K mg base 1 "count_up_to" ["pairs", "number"] (wS K)
abbrev pM:=tq T <| Bk P w K mg base 1 "row_common" ["one", "other"] (xP K)
abbrev sL:=tq T <| Bk P w K mg base 1 "row_count" ["row"] (AI K)
abbrev sM:=tq T <| Bk P w K mg base 1 "row_moved" ["row", "by"] (AJ K)
abbrev uB:=tq T <| Bk P w K mg base 1 "row_gaps" ["row"] (Dg K)
abbrev dY:=tq T <| Bk P w K mg base 1 "stretches_of" ["picture"] (t6 K)
abbrev fD:=tq T <| Bk P w K mg base 1 "rows_with_cells" ["rows"] (pF K)
abbrev zi:=tq T <| Bk P w K mg base 1 "turns" ["number"] (Md K)
abbrev iu:=tq T <| Bk P w K mg base 1 "count_around" ["number"] (t5 K)
abbrev pL:=tq T <| Bk P w K mg base 1 "free_cells" ["kept", "dx", "dy"] (xN K)
abbrev oM:=tq T <| Bk P w K mg base 1 "_law_cell_at" ["_law_script", "_law_k"] (Db K)
abbrev A0:=tq T <| Bk P w K mg base 1 "_law_block" ["_law_cell", "_law_x", "_law_y"] (Ir K)
abbrev uy:=tq T <| Bk P w K mg base 1 "_law_picture" ["_law_spots_here"] (Dc K)
abbrev Jd:=tq T <| Bk P w K mg base 1 "_law_in" ["_law_picture_here", "_law_y", "_law_low", "_law_high"] (RP K)
abbrev Fj:=tq T <| Bb P w K mg base 1 "Form" ["self", "parts"] (kn K)
abbrev xX:=tq T <| Bk P w K mg base 2 "row_has" ["row", "x"] (EX K)
abbrev pN:=tq T <| Bk P w K mg base 2 "row_either" ["one", "other"] (xQ K)
abbrev eB:=tq T <| Bk P w K mg base 2 "picture_of" ["stretches"] (xO K)
abbrev l5:=tq T <| Bk P w K mg base 2 "row_at" ["picture", "y"] (Iz K)
abbrev eP:=tq T <| Bk P w K mg base 2 "count_cells" ["picture"] (wR K)
abbrev Fn:=tq T <| Bk P w K mg base 2 "moved" ["picture", "dx", "dy"] (Mc K)
abbrev Je:=tq T <| Bk P w K mg base 2 "goes" ["kept", "x", "y", "ends"] (OE K)
abbrev lG:=tq T <| Bk P w K mg base 2 "begun_between" ["pairs", "first", "last"] (ss K)
abbrev jh:=tq T <| Bk P w K mg base 2 "picture_of_gaps" ["picture"] (pE K)
abbrev A1:=tq T <| Bk P w K mg base 2 "_law_spots" ["_law_script"] (Iu K)
abbrev sJ:=tq T <| Bk P w K mg base 2 "_law_first_in" ["_law_parts", "_law_picture_here"] (AF K)
abbrev Jc:=tq T <| Bc P w K mg base 2 "Box" ["self", "left", "up", "right", "down"] (lN K)
abbrev uC:=tq T <| Bk P w K mg base 3 "row_less" ["one", "other"] (Dh K)
abbrev uA:=tq T <| Bk P w K mg base 3 "has_cell" ["picture", "x", "y"] (Df K)
abbrev Jf:=tq T <| Bk P w K mg base 3 "join" ["one", "other"] (OG K)
abbrev uz:=tq T <| Bk P w K mg base 3 "cells_of" ["picture"] (De K)
abbrev sN:=tq T <| Bk P w K mg base 3 "take_pass" ["kept", "free", "ends"] (AK K)
abbrev uE:=tq T <| Bk P w K mg base 3 "touching" ["picture", "stretch", "reach"] (Di K)
abbrev iy:=tq T <| Bk P w K mg base 3 "picture_of_piece" ["piece"] (n4 K)
abbrev xW:=tq T <| Bk P w K mg base 3 "is_open" ["picture", "y", "a", "b"] (EV K)
abbrev Jg:=tq T <| Bk P w K mg base 4 "less" ["one", "other"] (OH K)
abbrev A3:=tq T <| Bk P w K mg base 4 "around" ["picture", "x", "y"] (Iw K)
abbrev pO:=tq T <| Bk P w K mg base 4 "take_round" ["kept", "ends"] (xR K)
abbrev n5:=tq T <| Bk P w K mg base 4 "spread_down" ["picture", "by"] (wT K)
abbrev sO:=tq T <| Bk P w K mg base 4 "walk_from" ["picture", "first", "reach"] (AL K)
abbrev qZ:=tq T <| Bk P w K mg base 5 "lies_in" ["one", "other"] (EW K)
abbrev A4:=tq T <| Bk P w K mg base 5 "may_go" ["picture", "x", "y", "ends"] (Ix K)
abbrev xY:=tq T <| Bk P w K mg base 5 "thinned" ["picture", "ends"] (EY K)
abbrev iw:=tq T <| Bk P w K mg base 5 "greater_by_block" ["picture", "block"] (nZ K)
abbrev kG:=tq T <| Bk P w K mg base 5 "classes_of" ["picture", "reach"] (xM K)
abbrev jg:=tq T <| Bk P w K mg base 6 "greater_by_part" ["picture", "blocks"] (pD K)
abbrev A5:=tq T <| Bk P w K mg base 6 "pieces" ["picture"] (Iy K)
abbrev Fl:=tq T <| Bk P w K mg base 6 "holes" ["picture"] (Mb K)
abbrev sK:=tq T <| Bk P w K mg base 6 "_law_one_each" ["_law_parts", "_law_others"] (AG K)
abbrev A2:=tq T <| Bk P w K mg base 6 "_law_still" ["_law_picture_here", "_law_ends"] (Iv K)
abbrev ir:=tq T <| Bm P w K mg base 7 "greater" NS ["self", "picture"] (lP K)
abbrev xV:=tq T <| Bk P w K mg base 8 "corners" ["picture"] (EU K)
abbrev Fk:=tq T <| Bk P w K mg base 8 "edges" ["picture"] (Ma K)
abbrev n6:=tq T <| Bk P w K mg base 9 "told_number" ["picture"] (wU K)
abbrev SK:=tq T <| Bk P w K mg base 10 "law" ["_law_script"] (AH K)
local macro_rules | `(tactic| ac_rfl)=>`(tactic| exact ⟨rfl,rfl,rfl,by decide +kernel,rfl,by decide +kernel,by decide +kernel⟩)
seal CallR OpR PA PC PE PG SD PI O3 UY PO PS Qh PSs PT PW zj A6 Ux binaryOp compareOp FM jr Nv QK JW Gg rAppend Oo rI CT Vn Tx Lq Lr Rk rU RU Ml AN RV tB RX tC Sq qR y8 eX E3 qS Mn OL tG OM OO AO AQ wY Gx mY RY Mp Mq Vu RZ Mr IG OP Vv Gy OQ Vw jS E5 unaryOp
set_option hygiene false in
local macro_rules | `(tactic| nofun)=>`(tactic| repeat' first | exact pv _ | refine ai ?_ ?_ | exact av | exact aP | refine aF ?_ | refine ar ?_ ?_ | refine Rc ?_ ?_ | refine fj ?_ | refine Ai (by assumption) hr ?_ | refine bN ?_ | refine AY _ nd ?_ | refine gR ?_ | refine cK ?_ ?_ ?_ | refine yQ ?_ ?_ | refine bE ?_ ?_ | exact fY | refine eV ?_ ?_ cz | exact ic | refine Pr ?_ ?_ ?_ | refine mO rfl ?_ | exact jB | exact HN _ nd | refine tu ?_ ?_ ?_ | refine wV ?_ | exact qQ | exact qE | exact Q4 | exact jC | exact Pq | exact Ag hr.units | refine bK jZ (by rfl) T.len uK ?_ | refine mN ?_ | refine eL Y2 rfl ?_ ?_ ?_ | refine uo ?_ | refine Ln ?_ ?_ | exact sE | exact Pp | exact jO | refine jA aaw abY abZ gi ?_ ?_ | refine Oa ?_ ?_ ?_ (KG _) | refine PW.pt (Lm ?_ ?_) | refine PW.pt (Ln ?_ ?_) | exact Po | refine Lm ?_ ?_ | refine Om ?_ | refine Lp ?_ | exact ie | exact KQ hr.units | exact Pn | exact KP | refine EF ?_ | refine gj du (by rfl) T.tuple jY ?_ | exact um nd rfl (.inr rfl) | refine Xu (by assumption) hr ?_ ?_ | refine Rh nd rfl (.inl rfl) ?_ QO | refine CQ Y2 ?_ ?_ | exact Q2 | exact Tj | exact HL | refine Q5 ?_ ?_ | refine bK (GV rfl) (by rfl) T.max Qz ?_ | exact qD (by rfl) T.ROUND.choose_spec.choose_spec.1 T.ROUND.choose_spec.choose_spec.2.1 T.ROUND.choose_spec.choose_spec.2.2 | refine r9 (by rfl) T.range ?_ | refine Xr (by assumption) hr ?_ | refine Rg ?_ ?_ | refine Gd ?_ ?_ ?_ rfl | refine rZ (PU hr.units) ?_ ?_ | refine bK (GW rfl) (by rfl) T.min Jr ?_ | refine Q7 ?_ | refine Tn ?_ ?_ | refine Ra ?_ ?_ L6 | refine HQ (by rfl) T.range ?_ | refine qG ?_ | refine EE (rZ (PU hr.units) ?_ ?_) | exact Q3 | refine KY (PU hr.units) ?_ ?_ | refine KZ (Rq hr.units) ?_ ?_ | exact K0 | refine Ob T.cN ?_ rfl | exact qC (v:=.int (0)) (by rfl) T.BY_FOUR.choose_spec ⟨_,rfl⟩ | exact qC (v:=.int (1)) (by rfl) T.BY_EIGHT.choose_spec ⟨_,rfl⟩ | exact qC (v:=.int (1000)) (by rfl) T.MOST_CELLS.choose_spec ⟨_,rfl⟩ | exact qD (by rfl) T.ONE_CELL.choose_spec.choose_spec.1 T.ONE_CELL.choose_spec.choose_spec.2.1 T.ONE_CELL.choose_spec.choose_spec.2.2 | exact qD (by rfl) T.STRAIGHT.choose_spec.choose_spec.1 T.STRAIGHT.choose_spec.choose_spec.2.1 T.STRAIGHT.choose_spec.choose_spec.2.2 | exact Q6 | refine we RM ?_ ?_ ?_ | refine HP (by rfl) T.range ?_ | refine Rb (by rfl) T.reversed ?_ | refine Oj (PU hr.units) ?_ ?_ ?_ (by rfl) | exact Lj | refine EE (KY (PU hr.units) ?_ ?_) | exact K6 _ | refine qH ?_ (λ_=>rfl) | refine cZ ?_ | refine Q8 ?_ | refine ED nd rfl (.inr rfl) ?_)
set_option hygiene false in
local macro_rules | `(tactic| bv_omega)=>`(tactic| (intro nd _ _ _ _ _ _ hr;(conv=>arg 2;whnf);(with_reducible conv=>arg 3;whnf)))
omit T in
def sn:ZB ["self", "parts"] ["self", "parts"] (ap gU):=by ac_rfl
omit T in
def tZ:ZB ["self", "left", "up", "right", "down"] ["self", "left", "up", "right", "down"] (ap iZ):=by ac_rfl
def rT(F:Fun K "__init__" "Form.__init__" gU f fd):ZD P w K mg base sH 1 f fd ["self", "parts"] (kn K):=by refine F.ok sn (λvs H Q E h=>h.1) (λcdv A outer s H vs Q E hr h=>?_);exact⟨_,aF (Ri (pv 0) (pv 1) rfl),Kb T.cN h⟩
def HC(F:Fd K "_law_block" C2 f fd):A0 T f fd:=F.ok (N:=["_law_cell", "_law_x", "_law_y", "_law_spots_here", "_law_wide", "_law_high", "_law_k", "_law_left", "_law_top"]) T.mo (HR K)
def Cq(F:Fd K "_law_cell_at" ww f fd):oM T f fd:=F.ok (N:=["_law_script", "_law_k"]) T.mo (CI K)
def QZ(F:Fd K "_law_in" PH f fd):Jd T f fd:=F.ok (N:=["_law_picture_here", "_law_y", "_law_low", "_law_high", "_law_at", "_law_row", "_law_start", "_law_end"]) T.mo (Re K)
def Cr(F:Fd K "_law_picture" lm f fd):uy T f fd:=F.ok (N:=["_law_spots_here", "_law_rows", "_law_y", "_law_row", "_law_x"]) T.mo (CJ K) (by bv_omega;exact ar (by nofun) (ar (eL Y2 rfl (gR (wf T.sorted T.set (r8 (show Zq ["_law_spots_here", "_law_rows", "_law_y", "_law_row", "_law_x"] (ap lm) _ ["_law_spot"] [none] from bI)))) (by nofun) (ar (by nofun) (ar (eL Y2 rfl (gR (wf T.sorted T.set (r8 (show Zq ["_law_spots_here", "_law_rows", "_law_y", "_law_row", "_law_x"] (ap lm) _ ["_law_spot", "_law_y"] [none,some 2] from bI)))) (by nofun) (by nofun)) (by nofun)))) (by nofun)))
def tS(F:Fd K "count_around" i4 f fd):iu T f fd:=F.ok (N:=["number"]) T.mo (tV K) (by bv_omega;exact aF (bN (bK jZ (by rfl) T.len uK (ai (r8 (show Zq ["number"] (ap i4) _ ["dx", "dy", "worth", "number"] [none,none,none,some 0] from bI)) av))))
def vV(F:Fd K "count_up_to" ox f fd):gu T f fd:=F.ok (N:=["pairs", "number", "low", "high", "middle"]) T.mo (wn K)
def xw(F:Fd K "free_cells" lv f fd):pL T f fd:=F.ok (N:=["kept", "dx", "dy"]) T.mo (xE K) (by bv_omega;exact aF (bN (nH (show Zq ["kept", "dx", "dy"] (ap lv) _ ["x", "y", "kept", "dx", "dy"] [none,none,some 0,some 1,some 2] from bI) (K7 (pv 0)) (λ_=>mO rfl (bE (K6 0) (bE (K6 1) jB))) (wV (eV fY (eV fY qQ cz) cz)) (λ_=>uo (EE (rZ (PU hr.units) (fj (ai (cK ic (pv 0) (pv 3)) (ai (cK ic (pv 1) (pv 4)) av))) (pv 2)))) (λ_=>fj (ai (pv 0) (ai (pv 1) av))))))
def xy(F:Fd K "row_common" qK f fd):pM T f fd:=F.ok (N:=["one", "other", "shared", "here", "there", "a", "b"]) T.mo (xG K)
def Ab(F:Fd K "row_count" mU f fd):sL T f fd:=F.ok (N:=["row"]) T.mo (Ao K) (by bv_omega;exact aF (bN (bK (nr rfl) (by rfl) T.sum zu (ai (r8 (show Zq ["row"] (ap mU) _ ["a", "b"] [none,none] from bI)) av))))
def Cu(F:Fd K "row_gaps" pA f fd):uB T f fd:=F.ok (N:=["row"]) T.mo (CN K) (by bv_omega;exact aF (bN (gj du (by rfl) T.tuple jY (ai (r8 (show Zq ["row"] (ap pA) _ ["k", "row"] [none,some 0] from bI)) av))))
def Ac(F:Fd K "row_moved" mV f fd):sM T f fd:=F.ok (N:=["row", "by"]) T.mo (Ap K) (by bv_omega;exact aF (bN (gj du (by rfl) T.tuple jY (ai (r8 (show Zq ["row", "by"] (ap mV) _ ["a", "b", "by"] [none,none,some 1] from bI)) av))))
def HK(F:Fd K "row_of" wH f fd):uD T f fd:=F.ok (N:=["pairs", "stretches", "a", "b"]) T.mo (HZ K) (by bv_omega;exact ar (by nofun) (ar (eL Y2 rfl (gR (bK kS (by rfl) T.sorted nq (ai (r8 (show Zq ["pairs", "stretches", "a", "b"] (ap wH) _ ["a", "b"] [none,none] from bI)) av))) (by nofun) (by nofun)) (by nofun)))
def pe(F:Fd K "rows_with_cells" fU f fd):fD T f fd:=F.ok (N:=["rows"]) T.mo (pk K) (by bv_omega;exact aF (bN (gj du (by rfl) T.tuple jY (ai (r8 (show Zq ["rows"] (ap fU) _ ["y", "row"] [none,none] from bI)) av))))
def tT(F:Fd K "stretches_of" i6 f fd):dY T f fd:=F.ok (N:=["picture", "stretches", "y", "row"]) T.mo (tW K) (by bv_omega;exact ar (by nofun) (ar (eL Y2 rfl (by nofun) (by nofun) (aF (cZ (jA aaw ab0 ab1 nD (pv 1) (ai (r8 (show Zq ["picture", "stretches", "y", "row"] (ap i6) _ ["a", "b", "y"] [none,none,some 2] from bI)) av))))) (by nofun)))
def KO(F:Fd K "turns" AB f fd):zi T f fd:=F.ok (N:=["number", "twice"]) T.mo (Lg K) (by bv_omega;exact ar (by nofun) (aF (bN (bK jZ (by rfl) T.len uK (ai (r8 (show Zq ["number", "twice"] (ap AB) _ ["worth", "number", "twice"] [none,some 0,some 1] from bI)) av)))))
def tQ(F:Fun K "__init__" "Box.__init__" iZ f fd) (AB_Form:Fj T c_Form f_E fd_E):ZD P w K mg base sH 2 f fd ["self", "left", "up", "right", "down"] (lN K):=by refine F.ok tZ (λvs H Q E h=>h.1) (λcdv A outer s H vs Q E hr h=>?_);exact⟨_,ar (tu (Pr Pp (bK (GX rfl) (by rfl) T.min Jr (ai (pv 1) (ai (pv 2) (ai (pv 3) (ai (pv 4) av))))) aP) Ia jC) (aF (cZ (Ew AB_Form.cf (by rfl) AB_Form.g AB_Form.G (hr.mono (by decide)) AB_Form.b F9 (ai (pv 0) (ai (fj (ai (fj (ai (fj (ai (yQ sE (pv 1)) (ai (yQ sE (pv 2)) (ai (pv 3) (ai (pv 4) av))))) av)) av)) av))))),Kd (mW (SE.p (eF TN ((LN Qv (ij (a7 1) (ij (a7 2) (ij (a7 3) (ij (a7 4) sw))))).p) ((jQ rfl).p)))) (jE (aB (jE (aB (jE (aB (Ij yU (a7 1)) (aB (Ij yU (a7 2)) (aB (bq 3) (aB (bq 4) bf))))) bf)) bf)) rfl h⟩
def z9(F:Fd K "_law_first_in" mR f fd) (A_v:Jd T f_v fd_v):sJ T f fd:=F.ok (N:=["_law_parts", "_law_picture_here"]) T.mo (Am K) (by bv_omega;exact aF (bN (r8 (show Zq ["_law_parts", "_law_picture_here"] (ap mR) _ ["_law_k", "_law_picture_here", "_law_parts"] [none,some 1,some 0] from bI))))
def HD(F:Fd K "_law_spots" C3 f fd) (A_o:oM T f_o fd_o) (A_D:A0 T f_D fd_D):A1 T f fd:=F.ok (N:=["_law_script", "_law_first", "_law_second", "_law_spots_here", "_law_y", "_law_cell", "_law_x", "_law_mixed", "_law_k"]) T.mo (HS K) (by bv_omega;exact ar (AY 1 nd (Ai A_o hr (ai (pv 0) (ai aP av)))) (ar (AY 2 nd (Ai A_o hr (ai (pv 0) (ai aP av)))) (ar (AY 3 nd (mN av)) (ar (tu (Pr (Ag hr.units) (cK jO (cK ie (pv 2) aP) aP) aP) (ar (eL Y2 rfl (Od (by rfl) T.enumerate (ai (we RM (pv 0) (qG aP) (qG aP)) av)) (mO rfl (bE (HN 4 nd) (bE (HN 5 nd) jB))) (aF (eL Y2 rfl (r9 (by rfl) T.range (ai aP av)) (HN 6 nd) (ar (tu (Pr (Ag hr.units) (cK jO (pv 5) aP) aP) (aF (cZ (jA aaw abY abZ gi (pv 3) (ai (fj (ai (pv 6) (ai (pv 4) av))) av)))) jC) (aF (AY 5 nd (cK ie (pv 5) aP))))))) (aF (bN (pv 3)))) jC) (ar (AY 3 nd (Ai A_D hr (ai (pv 1) (ai aP (ai aP av))))) (ar (tu (Pr (Ag hr.units) (cK jO (pv 2) aP) aP) (aF (AY 3 nd (cK ic (pv 3) (Ai A_D hr (ai (cK ie (pv 2) aP) (ai (cK ic aP (cK jO (cK ie (pv 2) aP) aP)) (ai (cK ic aP (cK jO (cK ie (pv 2) aP) aP)) av))))))) jC) (ar (eL Y2 rfl (gR (we RM (pv 0) (qG aP) (qG aP))) (HN 5 nd) (ar (AY 7 nd (cK ie (cK jO (cK KP (pv 5) aP) aP) aP)) (aF (eL Y2 rfl (r9 (by rfl) T.range (ai (cK ic aP (cK jO (cK ie (pv 7) aP) aP)) av)) (HN 8 nd) (aF (cZ (jA aaw abY abZ gi (pv 3) (ai (fj (ai (cK ic (cK jO (pv 7) aP) (pv 8)) (ai (cK jO (cK ie (pv 7) aP) aP) av))) av)))))))) (aF (bN (pv 3))))))))))
def rV(F:Fd K "begun_between" lM f fd) (A_l:gu T f_l fd_l):lG T f fd:=F.ok (N:=["pairs", "first", "last"]) T.mo (se K)
def vU(F:Fd K "count_cells" jR f fd) (A_F:sL T f_F fd_F):eP T f fd:=F.ok (N:=["picture"]) T.mo (wj K) (by bv_omega;exact aF (bN (bK (nr rfl) (by rfl) T.sum zu (ai (r8 (show Zq ["picture"] (ap jR) _ ["y", "row"] [none,none] from bI)) av))))
def NZ(F:Fd K "goes" EK f fd) (A_p:zi T f_p fd_p) (A_q:iu T f_q fd_q):Je T f fd:=F.ok (N:=["kept", "x", "y", "ends", "number"]) T.mo (Oe K) (by bv_omega;exact ar (AY 4 nd (bK (nr rfl) (by rfl) T.sum zu (ai (r8 (show Zq ["kept", "x", "y", "ends", "number"] (ap EK) _ ["dx", "dy", "worth", "kept", "x", "y"] [none,none,none,some 0,some 1,some 2] from bI)) av))) (by nofun))
def KN(F:Fd K "moved" AA f fd) (A_G:sM T f_G fd_G):Fn T f fd:=F.ok (N:=["picture", "dx", "dy"]) T.mo (Lf K) (by bv_omega;exact aF (bN (gj du (by rfl) T.tuple jY (ai (r8 (show Zq ["picture", "dx", "dy"] (ap AA) _ ["y", "row", "dy", "dx"] [none,none,some 2,some 1] from bI)) av))))
def xx(F:Fd K "picture_of" ii f fd) (A_m:uD T f_m fd_m):eB T f fd:=F.ok (N:=["stretches", "pairs_by_row", "y", "a", "b"]) T.mo (xF K) (by bv_omega;exact ar (AY 1 nd (mN av)) (ar (eL Y2 rfl (gR (bK kS (by rfl) T.sorted nq (ai (nH (show Zq ["stretches", "pairs_by_row", "y", "a", "b"] (ap ii) _ ["y", "a", "b"] [none,none,none] from bI) (gR (pv 0)) (λ_=>mO rfl (bE (K6 0) (bE (K6 1) (bE (K6 2) jB)))) (wV (eV fY (eV fY (eV fY qQ cz) cz) cz)) (λ_=>uo (Pr Po (pv 1) (pv 2))) (λ_=>fj (ai (pv 0) (ai (pv 1) (ai (pv 2) av))))) av))) (mO rfl (bE (HN 2 nd) (bE (HN 3 nd) (bE (HN 4 nd) jB)))) (ar (tu (PW.pt (Ln (EF (qH (pv 1) (λ_=>rfl))) (Lp (Pr (KQ hr.units) (Rc (Rc (pv 1) (yQ sE aP)) aP) (pv 2))))) (aF (cZ (jA aaw abY abZ gi (pv 1) (ai (fj (ai (pv 2) (ai (mN av) av))) av)))) jC) (aF (cZ (jA aaw abY abZ gi (Rc (Rc (pv 1) (yQ sE aP)) aP) (ai (fj (ai (pv 3) (ai (pv 4) av))) av)))))) (aF (bN (gj du (by rfl) T.tuple jY (ai (nH (show Zq ["stretches", "pairs_by_row", "y", "a", "b"] (ap ii) _ ["y", "pairs"] [none,none] from bI) (gR (pv 1)) (λ_=>mO rfl (bE (K6 0) (bE (K6 1) jB))) (wV (eV fY (eV fY qQ cz) cz)) (λ_=>qE) (λ_=>fj (ai (pv 0) (ai (Ai A_m hr (ai (pv 1) av)) av)))) av))))))
def pd(F:Fd K "picture_of_gaps" fS f fd) (A_n:fD T f_n fd_n) (A_H:uB T f_H fd_H):jh T f fd:=F.ok (N:=["picture"]) T.mo (pj K) (by bv_omega;exact aF (bN (Ai A_n hr (ai (r8 (show Zq ["picture"] (ap fS) _ ["y", "row"] [none,none] from bI)) av))))
def HJ(F:Fd K "row_at" C7 f fd) (A_l:gu T f_l fd_l):l5 T f fd:=F.ok (N:=["picture", "y", "begun"]) T.mo (HY K)
def xz(F:Fd K "row_either" fT f fd) (A_m:uD T f_m fd_m):pN T f fd:=F.ok (N:=["one", "other", "stretches", "changes"]) T.mo (xH K) (by bv_omega;exact ar (by nofun) (ar (ED (i:=3) nd rfl (.inr rfl) (bK kS (by rfl) T.sorted nq (ai (cK ic (r8 (show Zq ["one", "other", "stretches", "changes"] (ap fT) _ ["a", "b"] [none,none] from bI)) (r8 (show Zq ["one", "other", "stretches", "changes"] (ap fT) _ ["a", "b"] [none,none] from bI))) av))) (aF (bN (Ai A_m hr (ai (r8 (show Zq ["one", "other", "stretches", "changes"] (ap fT) _ ["k", "changes"] [none,some 3] from bI)) av))))))
def Ep(F:Fd K "row_has" y0 f fd) (A_l:gu T f_l fd_l):xX T f fd:=F.ok (N:=["row", "x", "begun"]) T.mo (EA K)
def Cs(F:Fd K "cells_of" pz f fd) (A_h:eP T f_h fd_h) (A_g:dY T f_g fd_g):uz T f fd:=F.ok (N:=["picture", "cells", "y", "a", "b"]) T.mo (CK K) (by bv_omega;exact ar (by nofun) (ar (by nofun) (ar (eL Y2 rfl (by nofun) (by nofun) (aF (cZ (jA aaw ab0 ab1 nD (pv 1) (ai (r8 (show Zq ["picture", "cells", "y", "a", "b"] (ap pz) _ ["x", "y"] [none,some 2] from bI)) av))))) (by nofun))))
def Ct(F:Fd K "has_cell" wC f fd) (A_P:xX T f_P fd_P) (A_i:l5 T f_i fd_i):uA T f fd:=F.ok (N:=["picture", "x", "y"]) T.mo (CM K)
def En(F:Fd K "is_open" yY f fd) (A_i:l5 T f_i fd_i):xW T f fd:=F.ok (N:=["picture", "y", "a", "b", "row"]) T.mo (Ey K)
def N0(F:Fd K "join" LV f fd) (A_b:eB T f_b fd_b) (A_g:dY T f_g fd_g):Jf T f fd:=F.ok (N:=["one", "other"]) T.mo (Og K)
def nT(F:Fd K "picture_of_piece" fm f fd) (A_b:eB T f_b fd_b):iy T f fd:=F.ok (N:=["piece"]) T.mo (nW K) (by bv_omega;exact aF (bN (Ai A_b hr (ai (r8 (show Zq ["piece"] (ap fm) _ ["y", "a", "b", "place"] [none,none,none,none] from bI)) av))))
def Cv(F:Fd K "row_less" wG f fd) (A_y:pN T f_y fd_y) (A_Q:pM T f_Q fd_Q):uC T f fd:=F.ok (N:=["one", "other"]) T.mo (CO K)
def Ae(F:Fd K "take_pass" tD f fd) (A_B:Je T f_B fd_B):sN T f fd:=F.okH (N:=["kept", "free", "ends", "taken", "cell"]) T.mo (Aq K) (by bv_omega;exact ar (AY 3 nd (mN av)) (ar (eL Y2 rfl (gR (pv 1)) (HN 4 nd) (aF (tu (qH (Aj 0 (Ai A_B hr (ai (pv 0) (ai (Rc (pv 4) aP) (ai (Rc (pv 4) aP) (ai (pv 2) av)))))) (λ_=>rfl)) (ar (cZ (jA aeW PySem.F.slot_dict_pop PySem.F.type_dict_pop (NR (Gm hr.units)) (pv 0) (ai (pv 4) av))) (aF (cZ (jA aaw abY abZ gi (pv 3) (ai (pv 4) av))))) jC))) (aF (bN (pv 3)))))
def Cw(F:Fd K "touching" pB f fd) (A_W:lG T f_W fd_W) (A_i:l5 T f_i fd_i):uE T f fd:=F.ok (N:=["picture", "stretch", "reach", "first", "last", "found", "y"]) T.mo (CP K) (by bv_omega;exact ar (by nofun) (ar (by nofun) (ar (by nofun) (ar (eL Y2 rfl (by nofun) (by nofun) (aF (cZ (jA aaw ab0 ab1 nD (pv 5) (ai (r8 (show Zq ["picture", "stretch", "reach", "first", "last", "found", "y"] (ap pB) _ ["a", "b", "y", "first"] [none,none,some 6,some 3] from bI)) av))))) (by nofun)))))
def HF(F:Fd K "around" wx f fd) (A_S:uA T f_S fd_S):A3 T f fd:=F.ok (N:=["picture", "x", "y"]) T.mo (HV K) (by bv_omega;exact aF (bN (bK (nr rfl) (by rfl) T.sum zu (ai (r8 (show Zq ["picture", "x", "y"] (ap wx) _ ["dx", "dy", "worth", "picture", "x", "y"] [none,none,none,some 0,some 1,some 2] from bI)) av))))
def N1(F:Fd K "less" EL f fd) (A_n:fD T f_n fd_n) (A_R:uC T f_R fd_R) (A_i:l5 T f_i fd_i):Jg T f fd:=F.ok (N:=["one", "other"]) T.mo (Oh K) (by bv_omega;exact aF (bN (Ai A_n hr (ai (r8 (show Zq ["one", "other"] (ap EL) _ ["y", "row", "other"] [none,none,some 1] from bI)) av))))
def vW(F:Fd K "spread_down" oy f fd) (A_T:Jf T f_T fd_T) (A_d:Fn T f_d fd_d):n5 T f fd:=F.ok (N:=["picture", "by", "done", "step"]) T.mo (wo K)
def xA(F:Fd K "take_round" qL f fd) (A_J:sN T f_J fd_J) (A_A:pL T f_A fd_A):pO T f fd:=F.okH (N:=["kept", "ends", "taken", "dx", "dy"]) T.mo (xI K) (by bv_omega;exact ar (AY 2 nd (mN av)) (ar (eL Y2 rfl (gR (qD (by rfl) T.SIDES.choose_spec.choose_spec.1 T.SIDES.choose_spec.choose_spec.2.1 T.SIDES.choose_spec.choose_spec.2.2)) (mO rfl (bE (HN 3 nd) (bE (HN 4 nd) jB))) (aF (cZ (jA aaw ab0 ab1 nD (pv 2) (ai (Ai A_J hr (ai (pv 0) (ai (Aj 0 (Ai A_A hr (ai (pv 0) (ai (pv 3) (ai (pv 4) av))))) (ai (pv 1) av)))) av))))) (aF (bN (pv 2)))))
def Af(F:Fd K "walk_from" tE f fd) (A_K:uE T f_K fd_K):sO T f fd:=F.ok (N:=["picture", "first", "reach", "walk", "walked", "place", "stretch"]) T.mo (Ar K)
def xu(F:Fd K "classes_of" lu f fd) (A_g:dY T f_g fd_g) (A_X:sO T f_X fd_X):kG T f fd:=F.ok (N:=["picture", "reach", "classes", "walked", "stretch"]) T.mo (xD K) (by bv_omega;exact ar (by nofun) (ar (by nofun) (ar (eL Y2 rfl (by nofun) (by nofun) (aF (tu (by nofun) (ar (by nofun) (aF (cZ (jA aeW PySem.F.slot_dict_update PySem.F.type_dict_update (Hy (Gm hr.units) rfl) (pv 3) (ai (r8 (show Zq ["picture", "reach", "classes", "walked", "stretch"] (ap lu) _ ["y", "a", "b", "place"] [none,none,none,none] from bI)) av))))) jC))) (by nofun))))
def nR(F:Fd K "greater_by_block" fk f fd) (A_g:dY T f_g fd_g) (A_U:n5 T f_U fd_U) (A_b:eB T f_b fd_b):iw T f fd:=F.ok (N:=["picture", "block", "wide"]) T.mo (nV K) (by bv_omega;exact ar (Ol (i:=2) (hN:=nd) (hi0:=rfl) (hx:=Or.inl rfl) (ck:=(show Zq ["picture", "block", "wide"] (ap fk) _ ["y", "a", "b", "block"] [none,none,none,some 1] from bI)) (hi:=(by nofun)) (hg:=λ_=>(by nofun)) (hs:=(by nofun)) (ht:=λ_=>qE) (he:=λ_=>(by nofun))) (by nofun))
def Eo(F:Fd K "lies_in" yZ f fd) (A_e:Jg T f_e fd_e):qZ T f fd:=F.ok (N:=["one", "other"]) T.mo (Ez K)
def HG(F:FdD K "may_go" C5 d qT9 qc9 qd9 qn9 qs9 f fd) (A_c:A3 T f_c fd_c) (A_p:zi T f_p fd_p) (A_q:iu T f_q fd_q):A4 T f fd:=F.ok (N:=["picture", "x", "y", "ends", "number"]) T.mo (HW K) (λ_ _ _ _ _ _ s us X hl=>by obtain⟨_,_,_,_,rfl⟩:=WF hl;exact binds_K X rfl F.dl rfl rfl rfl)
def Er(F:FdD K "thinned" nM d qT9 qc9 qd9 qn9 qs9 f fd) (A_z:uz T f_z fd_z) (A_I:pO T f_I fd_I) (A_b:eB T f_b fd_b):xY T f fd:=F.ok (N:=["picture", "ends", "kept", "taken", "taken_before"]) T.mo (EB K) (λ_ _ _ _ _ _ s us X hl=>by obtain⟨_,_,rfl⟩:=Uh hl;exact binds_K X rfl F.dl rfl rfl rfl) (by bv_omega;exact ar (AY 2 nd (gj (DQ (Ov hr.units) rfl) (by rfl) T.dict Na (ai (nH (show Zq ["picture", "ends", "kept", "taken", "taken_before"] (ap nM) _ ["cell"] [none] from bI) (gR (Ai A_z hr (ai (pv 0) av))) (λ_=>K6 0) fY (λ_=>qE) (λ_=>fj (ai (pv 0) (ai Pq av)))) av))) (ar (AY 3 nd (mN av)) (ar (AY 4 nd (yQ sE aP)) (ar (CQ Y2 (Pr Pn (bK jZ (by rfl) T.len uK (ai (pv 3) av)) (pv 4)) (ar (AY 4 nd (bK jZ (by rfl) T.len uK (ai (pv 3) av))) (aF (cZ (jA aaw ab0 ab1 nD (pv 3) (ai (Ai A_I hr (ai (pv 2) (ai (pv 1) av))) av)))))) (aF (bN (fj (ai (Ai A_b hr (ai (Aj 2 (nH (show Zq ["picture", "ends", "kept", "taken", "taken_before"] (ap nM) _ ["x", "y"] [none,none] from bI) (K7 (pv 2)) (λ_=>mO rfl (bE (K6 0) (bE (K6 1) jB))) (wV (eV fY (eV fY qQ cz) cz)) (λ_=>qE) (λ_=>fj (ai (pv 1) (ai (pv 0) (ai (pv 0) av)))))) av)) (ai (pv 3) av)))))))))
def Aa(F:Fd K "_law_one_each" tw f fd) (A_L:iy T f_L fd_L) (A_O:sJ T f_O fd_O) (A_t:qZ T f_t fd_t):sK T f fd:=F.ok (N:=["_law_parts", "_law_others", "_law_seen", "_law_part", "_law_picture_here", "_law_found"]) T.mo (An K)
def HE(F:Fd K "_law_still" C4 f fd) (A_u:A4 T f_u fd_u):A2 T f fd:=F.ok (N:=["_law_picture_here", "_law_ends", "_law_y", "_law_row", "_law_low", "_law_high", "_law_x"]) T.mo (HU K)
def pb(F:Fd K "greater_by_part" jD f fd) (A_C:iw T f_C fd_C) (A_b:eB T f_b fd_b):jg T f fd:=F.ok (N:=["picture", "blocks", "stretches", "block"]) T.mo (pi K) (by bv_omega;exact ar (AY 2 nd (mN av)) (ar (eL Y2 rfl (gR (pv 1)) (HN 3 nd) (aF (cZ (jA aaw ab0 ab1 nD (pv 2) (ai (Ai A_C hr (ai (pv 0) (ai (pv 3) av))) av))))) (aF (bN (Ai A_b hr (ai (pv 2) av))))))
def KM(F:Fd K "holes" Az f fd) (A_r:kG T f_r fd_r) (A_M:jh T f_M fd_M) (A_Y:xW T f_Y fd_Y):Fl T f fd:=F.ok (N:=["picture", "classes"]) T.mo (Lc K) (by bv_omega;exact ar (by nofun) (aF (bN (r8 (show Zq ["picture", "classes"] (ap Az) _ ["gaps", "picture"] [none,some 0] from bI) (ht:=λ_=>(uo (by exact (EF (qH (bK (GU rfl) (by rfl) T.any Qy (ai (r8 (show Zq ["gaps", "picture"] ({kind:=.function,names:=[(".0",.local),("gaps",.local),("any",.globalImplicit),("picture",.cell)],isGenerator:=false,isCoroutine:=false}:Scope) _ ["y", "a", "b", "place", "picture"] [none,none,none,none,some 1] from bI)) av)) (λ_=>rfl))))))))))
def HH(F:Fd K "pieces" C6 f fd) (A_r:kG T f_r fd_r):A5 T f fd:=F.ok (N:=["picture"]) T.mo (HX K)
def tR(F:Fun K "greater" "Form.greater" mQ f fd) (A_V:jg T f_V fd_V):ZD P w K mg base sH 7 f fd ["self", "picture"] (lP K):=F.okm (N:=["self", "picture", "blocks"]) (tU K)
def Em(F:Fd K "corners" yX f fd) (A_h:eP T f_h fd_h) (A_f:ir T f_f fd_f) (A_Box:Jc T c_Box f_x fd_x):xV T f fd:=F.ok (N:=["picture"]) T.mo (Ex K)
def KL(F:Fd K "edges" Gp f fd) (A_h:eP T f_h fd_h) (A_f:ir T f_f fd_f) (A_Box:Jc T c_Box f_x fd_x):Fk T f fd:=F.ok (N:=["picture", "upright", "level"]) T.mo (Lb K)
def vX(F:Fd K "told_number" oz f fd) (A_Z:xV T f_Z fd_Z) (A_aa:Fk T f_aa fd_aa) (A_h:eP T f_h fd_h):n6 T f fd:=F.ok (N:=["picture"]) T.mo (wp K)
def Q0(F:Fd K "law" LW f fd) (A_o:oM T f_o fd_o) (A_j:uy T f_j fd_j) (A_s:A1 T f_s fd_s) (A_k:xY T f_k fd_k) (A_t:qZ T f_t fd_t) (A_ab:n6 T f_ab fd_ab) (A_ac:sK T f_ac fd_ac) (A_w:A5 T f_w fd_w) (A_N:Fl T f_N fd_N) (A_v:Jd T f_v fd_v) (A_ad:A2 T f_ad fd_ad):SK T f fd:=F.ok (N:=["_law_script", "_law_ends", "_law_far", "_law_picture_here", "_law_found", "_law_taken", "_law_x", "_law_y"]) T.mo (Rf K) (by bv_omega;exact ar (by nofun) (ar (by nofun) (ar (AY 3 nd (Ai A_j hr (ai (r8 (show Zq ["_law_script", "_law_ends", "_law_far", "_law_picture_here", "_law_found", "_law_taken", "_law_x", "_law_y"] (ap LW) _ ["_law_x", "_law_y", "_law_far"] [none,none,some 2] from bI)) av))) (by nofun))))
end
def Qq{l:OpenLaw}{w:World}{K:Frag}{h:Heap}{mg:Zg}{fa:Addr}(X:K.In h)(G:h.Ns mainGlobals mg)(hfa:mg "law"=some (.ref fa))
  (n_Box:nsIn K mainGlobals "Box"=some (some (.ref c_Box)))
  (n_Form:nsIn K mainGlobals "Form"=some (some (.ref c_Form)))
  (a_E:findIn K (.ref c_Form) "__init__"=some (some (.ref f_E)))
  (i_E:isFn K (.ref f_E)=true)
  (a_ae:findIn K (.ref c_Box) "cells"=some (some (.ref f_ae)))
  (i_ae:isFn K (.ref f_ae)=true)
  (a_f:findIn K (.ref c_Box) "greater"=some (some (.ref f_f)))
  (i_f:isFn K (.ref f_f)=true)
  (a_x:findIn K (.ref c_Box) "__init__"=some (some (.ref f_x)))
  (i_x:isFn K (.ref f_x)=true)
  (F_E:Fun K "__init__" "Form.__init__" gU f_E fd_E)
  (F_ae:Fun K "cells" "Form.cells" Aw f_ae fd_ae)
  (F_f:Fun K "greater" "Form.greater" mQ f_f fd_f)
  (F_x:Fun K "__init__" "Box.__init__" iZ f_x fd_x)
  (F_m:Fd K "row_of" wH f_m fd_m)
  (F_l:Fd K "count_up_to" ox f_l fd_l)
  (F_P:Fd K "row_has" y0 f_P fd_P)
  (F_Q:Fd K "row_common" qK f_Q fd_Q)
  (F_R:Fd K "row_less" wG f_R fd_R)
  (F_y:Fd K "row_either" fT f_y fd_y)
  (F_F:Fd K "row_count" mU f_F fd_F)
  (F_G:Fd K "row_moved" mV f_G fd_G)
  (F_H:Fd K "row_gaps" pA f_H fd_H)
  (F_b:Fd K "picture_of" ii f_b fd_b)
  (F_g:Fd K "stretches_of" i6 f_g fd_g)
  (F_i:Fd K "row_at" C7 f_i fd_i)
  (F_S:Fd K "has_cell" wC f_S fd_S)
  (F_n:Fd K "rows_with_cells" fU f_n fd_n)
  (F_T:Fd K "join" LV f_T fd_T)
  (F_e:Fd K "less" EL f_e fd_e)
  (F_t:Fd K "lies_in" yZ f_t fd_t)
  (F_h:Fd K "count_cells" jR f_h fd_h)
  (F_d:Fd K "moved" AA f_d fd_d)
  (F_z:Fd K "cells_of" pz f_z fd_z)
  (F_c:Fd K "around" wx f_c fd_c)
  (F_p:Fd K "turns" AB f_p fd_p)
  (F_q:Fd K "count_around" i4 f_q fd_q)
  (F_u:FdD K "may_go" C5 true dT_u dc_u dd_u dn_u ds_u f_u fd_u)
  (F_k:FdD K "thinned" nM true dT_k dc_k dd_k dn_k ds_k f_k fd_k)
  (F_I:Fd K "take_round" qL f_I fd_I)
  (F_A:Fd K "free_cells" lv f_A fd_A)
  (F_J:Fd K "take_pass" tD f_J fd_J)
  (F_B:Fd K "goes" EK f_B fd_B)
  (F_U:Fd K "spread_down" oy f_U fd_U)
  (F_C:Fd K "greater_by_block" fk f_C fd_C)
  (F_V:Fd K "greater_by_part" jD f_V fd_V)
  (F_W:Fd K "begun_between" lM f_W fd_W)
  (F_K:Fd K "touching" pB f_K fd_K)
  (F_X:Fd K "walk_from" tE f_X fd_X)
  (F_r:Fd K "classes_of" lu f_r fd_r)
  (F_w:Fd K "pieces" C6 f_w fd_w)
  (F_L:Fd K "picture_of_piece" fm f_L fd_L)
  (F_M:Fd K "picture_of_gaps" fS f_M fd_M)
  (F_Y:Fd K "is_open" yY f_Y fd_Y)
  (F_N:Fd K "holes" Az f_N fd_N)
  (F_Z:Fd K "corners" yX f_Z fd_Z)
  (F_aa:Fd K "edges" Gp f_aa fd_aa)
  (F_ab:Fd K "told_number" oz f_ab fd_ab)
  (F_o:Fd K "_law_cell_at" ww f_o fd_o)
  (F_D:Fd K "_law_block" C2 f_D fd_D)
  (F_s:Fd K "_law_spots" C3 f_s fd_s)
  (F_j:Fd K "_law_picture" lm f_j fd_j)
  (F_v:Fd K "_law_in" PH f_v fd_v)
  (F_O:Fd K "_law_first_in" mR f_O fd_O)
  (F_ac:Fd K "_law_one_each" tw f_ac fd_ac)
  (F_ad:Fd K "_law_still" C4 f_ad fd_ad)
  (F_a:Fd K "law" LW f_a fd_a)
  (pg_Box:plainGet K c_Box Str.empty=true)
  (hd_Box:hasDictIn K c_Box=true)
  (po_Box:plainOver K c_Box=true)
  (sa_Box:findIn K (.ref c_Box) "__setattr__"=some (some (.builtin "object.__setattr__")))
  (mk_Box:makesIn K c_Box=true)
  (kc_Box:keepIn K (.ref c_Box)=true)
  (np_Box:findIn K (.ref c_Box) "parts"=some none)
  (mm_Box_cells:findIn K (.ref c_Box) "cells"=some (some (.ref f_ae)))
  (mm_Box_greater:findIn K (.ref c_Box) "greater"=some (some (.ref f_f)))
  (bs_Form:specialIn K (.ref c_Form) "__getattribute__"=some (some (.builtin "type.__getattribute__")))
  (br_Form:readsIn K c_Form (.type "type")=true)
  (bf_Form:findCls K (.ref c_Form) (.type "type") "__init__"=some (.val (.ref f_E)))
  (z_any:nsIn K mainGlobals "any"=some none)
  (z_dict:nsIn K mainGlobals "dict"=some none)
  (z_enumerate:nsIn K mainGlobals "enumerate"=some none)
  (z_len:nsIn K mainGlobals "len"=some none)
  (z_max:nsIn K mainGlobals "max"=some none)
  (z_min:nsIn K mainGlobals "min"=some none)
  (z_range:nsIn K mainGlobals "range"=some none)
  (z_reversed:nsIn K mainGlobals "reversed"=some none)
  (z_set:nsIn K mainGlobals "set"=some none)
  (z_sorted:nsIn K mainGlobals "sorted"=some none)
  (z_sum:nsIn K mainGlobals "sum"=some none)
  (z_tuple:nsIn K mainGlobals "tuple"=some none)
  (y_Za:nsIn K mainGlobals "BY_EIGHT"=some (some (.int (1) t_Za)))
  (y_Zb:nsIn K mainGlobals "BY_FOUR"=some (some (.int (0) t_Zb)))
  (y_Zc:nsIn K mainGlobals "MOST_CELLS"=some (some (.int (1000) t_Zc)))
  (y_Zd:nsIn K mainGlobals "ONE_CELL"=some (some (.ref g_Zd_0)))
  (v_Zd_0:K.lookup g_Zd_0=some ⟨.type "tuple",od_Zd_0,.seq #[.ref g_Zd_1] n_Zd_0,sl_Zd_0⟩)
  (v_Zd_1:K.lookup g_Zd_1=some ⟨.type "tuple",od_Zd_1,.seq #[.int (0) t_Zd_1_0,.ref g_Zd_2] n_Zd_1,sl_Zd_1⟩)
  (v_Zd_2:K.lookup g_Zd_2=some ⟨.type "tuple",od_Zd_2,.seq #[.ref g_Zd_3] n_Zd_2,sl_Zd_2⟩)
  (v_Zd_3:K.lookup g_Zd_3=some ⟨.type "tuple",od_Zd_3,.seq #[.int (0) t_Zd_3_0,.int (0) t_Zd_3_1] n_Zd_3,sl_Zd_3⟩)
  (y_Ze:nsIn K mainGlobals "ROUND"=some (some (.ref g_Ze_0)))
  (v_Ze_0:K.lookup g_Ze_0=some ⟨.type "tuple",od_Ze_0,.seq #[.ref g_Ze_1,.ref g_Ze_2,.ref g_Ze_3,.ref g_Ze_4,.ref g_Ze_5,.ref g_Ze_6,.ref g_Ze_7,.ref g_Ze_8] n_Ze_0,sl_Ze_0⟩)
  (v_Ze_1:K.lookup g_Ze_1=some ⟨.type "tuple",od_Ze_1,.seq #[.int (0) t_Ze_1_0,.int (-1) t_Ze_1_1,.int (1) t_Ze_1_2] n_Ze_1,sl_Ze_1⟩)
  (v_Ze_2:K.lookup g_Ze_2=some ⟨.type "tuple",od_Ze_2,.seq #[.int (-1) t_Ze_2_0,.int (-1) t_Ze_2_1,.int (2) t_Ze_2_2] n_Ze_2,sl_Ze_2⟩)
  (v_Ze_3:K.lookup g_Ze_3=some ⟨.type "tuple",od_Ze_3,.seq #[.int (-1) t_Ze_3_0,.int (0) t_Ze_3_1,.int (4) t_Ze_3_2] n_Ze_3,sl_Ze_3⟩)
  (v_Ze_4:K.lookup g_Ze_4=some ⟨.type "tuple",od_Ze_4,.seq #[.int (-1) t_Ze_4_0,.int (1) t_Ze_4_1,.int (8) t_Ze_4_2] n_Ze_4,sl_Ze_4⟩)
  (v_Ze_5:K.lookup g_Ze_5=some ⟨.type "tuple",od_Ze_5,.seq #[.int (0) t_Ze_5_0,.int (1) t_Ze_5_1,.int (16) t_Ze_5_2] n_Ze_5,sl_Ze_5⟩)
  (v_Ze_6:K.lookup g_Ze_6=some ⟨.type "tuple",od_Ze_6,.seq #[.int (1) t_Ze_6_0,.int (1) t_Ze_6_1,.int (32) t_Ze_6_2] n_Ze_6,sl_Ze_6⟩)
  (v_Ze_7:K.lookup g_Ze_7=some ⟨.type "tuple",od_Ze_7,.seq #[.int (1) t_Ze_7_0,.int (0) t_Ze_7_1,.int (64) t_Ze_7_2] n_Ze_7,sl_Ze_7⟩)
  (v_Ze_8:K.lookup g_Ze_8=some ⟨.type "tuple",od_Ze_8,.seq #[.int (1) t_Ze_8_0,.int (-1) t_Ze_8_1,.int (128) t_Ze_8_2] n_Ze_8,sl_Ze_8⟩)
  (y_Zf:nsIn K mainGlobals "SIDES"=some (some (.ref g_Zf_0)))
  (v_Zf_0:K.lookup g_Zf_0=some ⟨.type "tuple",od_Zf_0,.seq #[.ref g_Zf_1,.ref g_Zf_2,.ref g_Zf_3,.ref g_Zf_4] n_Zf_0,sl_Zf_0⟩)
  (v_Zf_1:K.lookup g_Zf_1=some ⟨.type "tuple",od_Zf_1,.seq #[.int (0) t_Zf_1_0,.int (-1) t_Zf_1_1] n_Zf_1,sl_Zf_1⟩)
  (v_Zf_2:K.lookup g_Zf_2=some ⟨.type "tuple",od_Zf_2,.seq #[.int (-1) t_Zf_2_0,.int (0) t_Zf_2_1] n_Zf_2,sl_Zf_2⟩)
  (v_Zf_3:K.lookup g_Zf_3=some ⟨.type "tuple",od_Zf_3,.seq #[.int (0) t_Zf_3_0,.int (1) t_Zf_3_1] n_Zf_3,sl_Zf_3⟩)
  (v_Zf_4:K.lookup g_Zf_4=some ⟨.type "tuple",od_Zf_4,.seq #[.int (1) t_Zf_4_0,.int (0) t_Zf_4_1] n_Zf_4,sl_Zf_4⟩)
  (y_Zg:nsIn K mainGlobals "STRAIGHT"=some (some (.ref g_Zg_0)))
  (v_Zg_0:K.lookup g_Zg_0=some ⟨.type "tuple",od_Zg_0,.seq #[.int (1) t_Zg_0_0,.int (4) t_Zg_0_1,.int (16) t_Zg_0_2,.int (64) t_Zg_0_3] n_Zg_0,sl_Zg_0⟩)
  : ∃fd:FuncData,(∀(s:Shared) (v:Value),BindsTo s fd ⟨[v],[]⟩ [("_law_script",v)])/\∀base:Heap,K.In base->base.Ns mainGlobals mg->ZD l.prog w K mg base sH 10 fa fd ["_law_script"] (AH K):=by
 have e:=hfa.symm.trans (aaI X G F_a.a);cases e;have cm_ae:xi K NS λC=>Cls K C/\Meth K C "cells" f_ae:=rm n_Box ⟨⟨pg_Box,hd_Box,po_Box,sa_Box⟩,⟨mm_Box_cells,i_ae,F_ae.kp⟩⟩ (uN);have cm_f:xi K NS λC=>Cls K C/\Meth K C "greater" f_f:=rm n_Box ⟨⟨pg_Box,hd_Box,po_Box,sa_Box⟩,⟨mm_Box_greater,i_f,F_f.kp⟩⟩ (uN);have M_Box:Mk K c_Box f_x:=⟨mk_Box,a_x,i_x,kc_Box⟩
 have cf_Form:ClsFn K c_Form "__init__" f_E:=⟨bs_Form,br_Form,bf_Form,F_E.kp⟩
 obtain⟨_,_,_,_,_,_,_,_,_,hfd,_⟩:=F_a.F.ex;refine⟨fd_a,λs v=>.of_eq (by rw[hfd];rfl),λbase _ _=>?_⟩;have T:Txt l.prog w K mg base:=⟨λ_ _=>aaI X G,aax X G z_any,aax X G z_dict,aax X G z_enumerate,aax X G z_len,aax X G z_max,aax X G z_min,aax X G z_range,aax X G z_reversed,aax X G z_set,aax X G z_sorted,aax X G z_sum,aax X G z_tuple,⟨_,aaI X G y_Za⟩,⟨_,aaI X G y_Zb⟩,⟨_,aaI X G y_Zc⟩,⟨_,.ref _,aaI X G y_Zd,rfl,λS=>bo (xs:=[.ref g_Zd_1]) v_Zd_0 rfl rfl (Yr (show 1<=1000 by decide) (by rw[YA];decide)) (.cons rfl (.nil)) (λS=>Dens.cons (bo (xs:=[.int (0),.ref g_Zd_2]) v_Zd_1 rfl rfl (Yr (show 2<=1000 by decide) (by rw[YA];decide)) (.cons ⟨_,rfl⟩ (.cons rfl (.nil))) (λS=>Dens.cons (Zo.2 rfl) (Dens.cons (bo (xs:=[.ref g_Zd_3]) v_Zd_2 rfl rfl (Yr (show 1<=1000 by decide) (by rw[YA];decide)) (.cons rfl (.nil)) (λS=>Dens.cons (bo (xs:=[.int (0),.int (0)]) v_Zd_3 rfl rfl (Yr (show 2<=1000 by decide) (by rw[YA];decide)) (.cons ⟨_,rfl⟩ (.cons ⟨_,rfl⟩ (.nil))) (λS=>Dens.cons (Zo.2 rfl) (Dens.cons (Zo.2 rfl) (Dens.nil))) S) (Dens.nil)) S) (Dens.nil))) S) (Dens.nil)) S⟩,⟨_,.ref _,aaI X G y_Ze,rfl,λS=>bo (xs:=[.ref g_Ze_1,.ref g_Ze_2,.ref g_Ze_3,.ref g_Ze_4,.ref g_Ze_5,.ref g_Ze_6,.ref g_Ze_7,.ref g_Ze_8]) v_Ze_0 rfl rfl (Yr (show 8<=1000 by decide) (by rw[YA];decide)) (.cons rfl (.cons rfl (.cons rfl (.cons rfl (.cons rfl (.cons rfl (.cons rfl (.cons rfl (.nil))))))))) (λS=>Dens.cons (bo (xs:=[.int (0),.int (-1),.int (1)]) v_Ze_1 rfl rfl (Yr (show 3<=1000 by decide) (by rw[YA];decide)) (.cons ⟨_,rfl⟩ (.cons ⟨_,rfl⟩ (.cons ⟨_,rfl⟩ (.nil)))) (λS=>Dens.cons (Zo.2 rfl) (Dens.cons (Zo.2 rfl) (Dens.cons (Zo.2 rfl) (Dens.nil)))) S) (Dens.cons (bo (xs:=[.int (-1),.int (-1),.int (2)]) v_Ze_2 rfl rfl (Yr (show 3<=1000 by decide) (by rw[YA];decide)) (.cons ⟨_,rfl⟩ (.cons ⟨_,rfl⟩ (.cons ⟨_,rfl⟩ (.nil)))) (λS=>Dens.cons (Zo.2 rfl) (Dens.cons (Zo.2 rfl) (Dens.cons (Zo.2 rfl) (Dens.nil)))) S) (Dens.cons (bo (xs:=[.int (-1),.int (0),.int (4)]) v_Ze_3 rfl rfl (Yr (show 3<=1000 by decide) (by rw[YA];decide)) (.cons ⟨_,rfl⟩ (.cons ⟨_,rfl⟩ (.cons ⟨_,rfl⟩ (.nil)))) (λS=>Dens.cons (Zo.2 rfl) (Dens.cons (Zo.2 rfl) (Dens.cons (Zo.2 rfl) (Dens.nil)))) S) (Dens.cons (bo (xs:=[.int (-1),.int (1),.int (8)]) v_Ze_4 rfl rfl (Yr (show 3<=1000 by decide) (by rw[YA];decide)) (.cons ⟨_,rfl⟩ (.cons ⟨_,rfl⟩ (.cons ⟨_,rfl⟩ (.nil)))) (λS=>Dens.cons (Zo.2 rfl) (Dens.cons (Zo.2 rfl) (Dens.cons (Zo.2 rfl) (Dens.nil)))) S) (Dens.cons (bo (xs:=[.int (0),.int (1),.int (16)]) v_Ze_5 rfl rfl (Yr (show 3<=1000 by decide) (by rw[YA];decide)) (.cons ⟨_,rfl⟩ (.cons ⟨_,rfl⟩ (.cons ⟨_,rfl⟩ (.nil)))) (λS=>Dens.cons (Zo.2 rfl) (Dens.cons (Zo.2 rfl) (Dens.cons (Zo.2 rfl) (Dens.nil)))) S) (Dens.cons (bo (xs:=[.int (1),.int (1),.int (32)]) v_Ze_6 rfl rfl (Yr (show 3<=1000 by decide) (by rw[YA];decide)) (.cons ⟨_,rfl⟩ (.cons ⟨_,rfl⟩ (.cons ⟨_,rfl⟩ (.nil)))) (λS=>Dens.cons (Zo.2 rfl) (Dens.cons (Zo.2 rfl) (Dens.cons (Zo.2 rfl) (Dens.nil)))) S) (Dens.cons (bo (xs:=[.int (1),.int (0),.int (64)]) v_Ze_7 rfl rfl (Yr (show 3<=1000 by decide) (by rw[YA];decide)) (.cons ⟨_,rfl⟩ (.cons ⟨_,rfl⟩ (.cons ⟨_,rfl⟩ (.nil)))) (λS=>Dens.cons (Zo.2 rfl) (Dens.cons (Zo.2 rfl) (Dens.cons (Zo.2 rfl) (Dens.nil)))) S) (Dens.cons (bo (xs:=[.int (1),.int (-1),.int (128)]) v_Ze_8 rfl rfl (Yr (show 3<=1000 by decide) (by rw[YA];decide)) (.cons ⟨_,rfl⟩ (.cons ⟨_,rfl⟩ (.cons ⟨_,rfl⟩ (.nil)))) (λS=>Dens.cons (Zo.2 rfl) (Dens.cons (Zo.2 rfl) (Dens.cons (Zo.2 rfl) (Dens.nil)))) S) (Dens.nil))))))))) S⟩,⟨_,.ref _,aaI X G y_Zf,rfl,λS=>bo (xs:=[.ref g_Zf_1,.ref g_Zf_2,.ref g_Zf_3,.ref g_Zf_4]) v_Zf_0 rfl rfl (Yr (show 4<=1000 by decide) (by rw[YA];decide)) (.cons rfl (.cons rfl (.cons rfl (.cons rfl (.nil))))) (λS=>Dens.cons (bo (xs:=[.int (0),.int (-1)]) v_Zf_1 rfl rfl (Yr (show 2<=1000 by decide) (by rw[YA];decide)) (.cons ⟨_,rfl⟩ (.cons ⟨_,rfl⟩ (.nil))) (λS=>Dens.cons (Zo.2 rfl) (Dens.cons (Zo.2 rfl) (Dens.nil))) S) (Dens.cons (bo (xs:=[.int (-1),.int (0)]) v_Zf_2 rfl rfl (Yr (show 2<=1000 by decide) (by rw[YA];decide)) (.cons ⟨_,rfl⟩ (.cons ⟨_,rfl⟩ (.nil))) (λS=>Dens.cons (Zo.2 rfl) (Dens.cons (Zo.2 rfl) (Dens.nil))) S) (Dens.cons (bo (xs:=[.int (0),.int (1)]) v_Zf_3 rfl rfl (Yr (show 2<=1000 by decide) (by rw[YA];decide)) (.cons ⟨_,rfl⟩ (.cons ⟨_,rfl⟩ (.nil))) (λS=>Dens.cons (Zo.2 rfl) (Dens.cons (Zo.2 rfl) (Dens.nil))) S) (Dens.cons (bo (xs:=[.int (1),.int (0)]) v_Zf_4 rfl rfl (Yr (show 2<=1000 by decide) (by rw[YA];decide)) (.cons ⟨_,rfl⟩ (.cons ⟨_,rfl⟩ (.nil))) (λS=>Dens.cons (Zo.2 rfl) (Dens.cons (Zo.2 rfl) (Dens.nil))) S) (Dens.nil))))) S⟩,⟨_,.ref _,aaI X G y_Zg,rfl,λS=>bo (xs:=[.int (1),.int (4),.int (16),.int (64)]) v_Zg_0 rfl rfl (Yr (show 4<=1000 by decide) (by rw[YA];decide)) (.cons ⟨_,rfl⟩ (.cons ⟨_,rfl⟩ (.cons ⟨_,rfl⟩ (.cons ⟨_,rfl⟩ (.nil))))) (λS=>Dens.cons (Zo.2 rfl) (Dens.cons (Zo.2 rfl) (Dens.cons (Zo.2 rfl) (Dens.cons (Zo.2 rfl) (Dens.nil))))) S⟩,rm n_Box ⟨⟨pg_Box,hd_Box,po_Box,sa_Box⟩,np_Box⟩ (uN)⟩
 have AB_Form:Fj T _ _ _:=⟨rT T F_E,F_E.binds λ_ _ _ _ _ _ us hl=>by obtain⟨_,_,rfl⟩:=Uh hl;rfl,cf_Form,aaI X G n_Form⟩
 have A_D:=HC T F_D;have A_o:=Cq T F_o;have A_v:=QZ T F_v;have A_j:=Cr T F_j;have A_q:=tS T F_q;have A_l:=vV T F_l;have A_A:=xw T F_A;have A_Q:=xy T F_Q;have A_F:=Ab T F_F;have A_H:=Cu T F_H;have A_G:=Ac T F_G;have A_m:=HK T F_m;have A_n:=pe T F_n;have A_g:=tT T F_g;have A_p:=KO T F_p;have A_Box:Jc T _ _ _:=⟨tQ T F_x AB_Form,F_x.binds λ_ _ _ _ _ _ us hl=>by obtain⟨_,_,_,_,_,rfl⟩:=WG hl;rfl,n_Box,M_Box,aaI X G n_Box⟩
 have A_O:=z9 T F_O A_v;have A_s:=HD T F_s A_o A_D;have A_W:=rV T F_W A_l;have A_h:=vU T F_h A_F;have A_B:=NZ T F_B A_p A_q;have A_d:=KN T F_d A_G;have A_b:=xx T F_b A_m;have A_M:=pd T F_M A_n A_H;have A_i:=HJ T F_i A_l;have A_y:=xz T F_y A_m;have A_P:=Ep T F_P A_l;have A_z:=Cs T F_z A_h A_g;have A_S:=Ct T F_S A_P A_i;have A_Y:=En T F_Y A_i;have A_T:=N0 T F_T A_b A_g;have A_L:=nT T F_L A_b;have A_R:=Cv T F_R A_y A_Q;have A_J:=Ae T F_J A_B;have A_K:=Cw T F_K A_W A_i;have A_c:=HF T F_c A_S;have A_e:=N1 T F_e A_n A_R A_i;have A_U:=vW T F_U A_T A_d;have A_I:=xA T F_I A_J A_A;have A_X:=Af T F_X A_K;have A_r:=xu T F_r A_g A_X;have A_C:=nR T F_C A_g A_U A_b;have A_t:=Eo T F_t A_e;have A_u:=HG T F_u A_c A_p A_q;have A_k:=Er T F_k A_z A_I A_b;have A_ac:=Aa T F_ac A_L A_O A_t;have A_ad:=HE T F_ad A_u;have A_V:=pb T F_V A_C A_b;have A_N:=KM T F_N A_r A_M A_Y;have A_w:=HH T F_w A_r;have A_f:ir T _ _:=⟨tR T F_f A_V,F_f.binds λ_ _ _ _ _ _ us hl=>by obtain⟨_,_,rfl⟩:=Uh hl;rfl,cm_f⟩
 have A_Z:=Em T F_Z A_h A_f A_Box;have A_aa:=KL T F_aa A_h A_f A_Box;have A_ab:=vX T F_ab A_Z A_aa A_h;exact (Q0 T F_a A_o A_j A_s A_k A_t A_ab A_ac A_w A_N A_v A_ad).G
def walk{l:OpenLaw}{q:Program}{loose:Zl}{XP:(Zg)->Heap->Prop}{YP:World->Heap->Prop}{d:DefRec}{K:Params->Frag}(hn:l.most=some 63)(hdf:d.params.defaults=[])
  (hY:∀(w:World) (h:Heap),YP w h->(K w.params).In h)
  (F:∀(w:World) (mg:Zg) (fa:Addr) (h:Heap),(K w.params).In h->h.Ns mainGlobals mg->mg d.name=some (.ref fa) ->
   ∃fd:FuncData,(∀(s:Shared) (u:Value),BindsTo s fd ⟨[u],[]⟩ [("_law_script",u)])/\∀base:Heap,(K w.params).In base->base.Ns mainGlobals mg->ZD l.prog w (K w.params) mg base sH 10 fa fd ["_law_script"] (AH (K w.params))) :
  WalkO q loose XP YP l.row.toRowW d [] (λf vs=>PySem.call f vs):=
 L2.OW (n:=63) (k:=10) (x := "_law_script") (CX:=λ_=>sH) (sp:=λw=>AH (K w.params)) hn (by decide) hdf ⟨rfl,by decide,by decide⟩ hY F (λ_ H a ns hl _ hS=>M.IB hS (Ku ns hl)) λ_ _ _ _ _ z=>z
end Lw
open PySem PySem.W PyProof.Rows
set_option maxRecDepth 100000 in
set_option maxHeartbeats 0 in
theorem PySem.Challenge.cw_shapethin_k56_whole_thinned_keeps_pieces_holds : PySem.Challenge.rw_shapethin_k56_whole_thinned_keeps_pieces.Holds := by
 w_on;refine holds_law Hd.e2 λsaid=>?_
 refine holds_open (q:=Hd.q) (XP:=XL Hd.q []) (YP:=Hook.says Hd.H) (N:=100000) Hd.e1 (Hook.of Hd.H) (Hook.keeps Hd.H) (λs e=>xl_of s (aav.1 e).1) XL.keeps (by rfl) (by rfl) (by rfl) (λs e=>recFacts_of (aav.1 e).2) (by rfl) (by assumption) (by decide +kernel) ⟨rfl,rfl,rfl,rfl,rfl,by decide +kernel⟩ ?hw ?hc
 case hw=>w_witness2
 refine Lw.walk (l := PySem.Challenge.rw_shapethin_k56_whole_thinned_keeps_pieces) rfl rfl (fun w h Y => kIn_of Y) ?F
 case F=>
  intro w mg fa h KX G hmg;refine' Lw.Qq KX G hmg ?x0 ?x1 ?x2 ?x3 ?x4 ?x5 ?x6 ?x7 ?x8 ?x9 ?x10 ?x11 ?x12 ?x13 ?x14 ?x15 ?x16 ?x17 ?x18 ?x19 ?x20 ?x21 ?x22 ?x23 ?x24 ?x25 ?x26 ?x27 ?x28 ?x29 ?x30 ?x31 ?x32 ?x33 ?x34 ?x35 ?x36 ?x37 ?x38 ?x39 ?x40 ?x41 ?x42 ?x43 ?x44 ?x45 ?x46 ?x47 ?x48 ?x49 ?x50 ?x51 ?x52 ?x53 ?x54 ?x55 ?x56 ?x57 ?x58 ?x59 ?x60 ?x61 ?x62 ?x63 ?x64 ?x65 ?x66 ?x67 ?x68 ?x69 ?x70 ?x71 ?x72 ?x73 ?x74 ?x75 ?x76 ?x77 ?x78 ?x79 ?x80 ?x81 ?x82 ?x83 ?x84 ?x85 ?x86 ?x87 ?x88 ?x89 ?x90 ?x91 ?x92 ?x93 ?x94 ?x95 ?x96 ?x97 ?x98 ?x99 ?x100 ?x101 ?x102 ?x103 ?x104 ?x105 ?x106 ?x107 ?x108 ?x109 ?x110 ?x111 ?x112 ?x113 ?x114 ?x115 ?x116
  case x0|x1|x2|x3|x4|x5|x6|x7|x8|x9=>k_is
  case x10|x11|x12|x13=>exact L2.D4 (by k_is) (by k_is) (by k_is)
  case x14|x15|x16|x17|x18|x19|x20|x21|x22|x23|x24|x25|x26|x27|x28|x29|x30|x31|x32|x33|x34|x35|x36=>exact⟨by k_is,L2.D4 (by k_is) (by k_is) (by k_is)⟩
  case x37|x38=>exact⟨by k_is,L2.Nu (by k_is) (by k_is),by k_is,by k_is⟩
  case x39|x40|x41|x42|x43|x44|x45|x46|x47|x48|x49|x50|x51|x52|x53|x54|x55|x56|x57|x58|x59|x60|x61|x62|x63|x64|x65|x66=>exact⟨by k_is,L2.D4 (by k_is) (by k_is) (by k_is)⟩
  case x67|x68|x69|x70|x71|x72|x73|x74|x75|x76|x77|x78|x79|x80|x81|x82|x83|x84|x85|x86|x87|x88|x89|x90|x91|x92|x93|x94|x95|x96|x97|x98|x99|x100|x101|x102|x103|x104|x105|x106|x107|x108|x109|x110|x111|x112|x113|x114|x115|x116=>k_is

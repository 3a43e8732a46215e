import PyProof.Rows.All
import Wide.All
import OpenK.AllK
import Wide.FinOn
import Lean
import PyProof.EqAt
import PyProof.EqKinds
import PyProof.TupleCall
import PySem.Challenge.RW_shapethin_k73_deeds_taken_back
noncomputable section
local macro_rules | `(#v[$a,*])=>`(by rw[$[$a:term],*])
local macro_rules | `(~~~$a)=>`(by simpa using $a)
local macro_rules | `(()) => `(by lia)
abbrev Zn:=List Int
abbrev Zm:=List (Zn)
abbrev Zl:=List PySem.Str
abbrev Zk:=List PySem.Addr
abbrev Zj:=PySem.W.Frag
abbrev Zi:=Option PySem.Value
abbrev Zh:=List PySem.Value
abbrev Zg:=PySem.Str->Option PySem.Value
abbrev Zf:=List (PySem.Addr×PySem.Obj)
abbrev Ze:=PySem.Value->PySem.Shared->Prop
abbrev LN:=List Nat
set_option genSizeOf false
set_option bootstrap.genMatcherCode false
set_option compiler.extract_closed false
set_option linter.all false
set_option maxHeartbeats 4000000
set_option maxRecDepth 100000
open Lean in
local macro_rules|`(fun $b* => $e)=>do
 if !b.any (·.raw.isOfKind ``Parser.Term.hole) then Macro.throwUnsupported
 let b:=b.map λx=>if x.raw.isOfKind ``Parser.Term.hole then ⟨mkIdent `zqz⟩ else x
 `(fun $b* => $e)
set_option tactic.hygienic false
open Lean Parser Command in
local macro_rules|`($m:declModifiers def $i:declId $s:optDeclSig $v:declVal)=>do
 if m.raw[4].getNumArgs != 0 then Macro.throwUnsupported
 let d:=mkNode ``declaration #[m.raw.setArg 4 (mkNullNode #[mkNode ``«noncomputable» #[mkAtom "noncomputable"]]),mkNode ``definition #[mkAtom "def",i,s,v,mkNullNode]]
 if (v.raw.find? (·.isOfKind ``Tactic.renameI)).isSome then `(command|set_option tactic.hygienic true in $(⟨d⟩)) else return d
local macro_rules|`(s!$_)=>`(by first|decide +kernel|kernel_rfl)
local macro_rules|`(⋯)=>`(by decide)
open PySem renaming Expr->ZA,Addr->ZB,Shared->ZD,Value->ZE,sizeLine->ZF,wpAny->ZG,Heap->ZH,World->ZI,model->ZJ,mainGlobals->ZK,Program->ZL,Stmt->ZM,eval->ZN,Around->ZP,starEach->ZQ,Scope->ZS,backTo->ZU,FuncData->ZW,rawInt->ZY,bootBuiltins->agz,cLine->agC,sysModules->agF,compareOp->agH,holding->agI,binaryOp->agK,pyNext->agO,IsPair->agP,tupleKind->agR,DictEntry->agS,codeAny->agU,NameKind->agV,backToKw->agX,assignEach->ag0,IsZip->ag1,standAt->ag3,Result->ag4,getMethod->ag8,IsPart->ag9,numAt->ahb,getItem->ahd,atKey->ahj,typeLookup->ahm,newExc->ahn,Paired->aho,bindC->ahq,firstArgMember->ahr,pyIter->aht,bindL->ahv,valueAt->ahw,callWith->ahx,Keyword->ahy,CmpOp->ahB,again->ahD,sliceBounds->ahH,callerA->ahJ,swapsWith->ahM,argsOk->ahN,intText?->ahO,Model->ahP,Params->ahV,assign->ahW,attributeBase->ahX,treeTable->ahY,BindsTo->ah1,typeOf->ah4,Operator->ah5,Thread->ah7,intItems->ah8,IsRangeIter->ah9,isTrue->aib,newTuple->aie,ZipApart->aij,argBest->ail,foldedSetIterable->aio,closureFor->aiq,seqIndex?->air,setItem->ait,compEnvC->aiv,getAttr?->aiz,isSubtype->aiD,PassesOwn->aiF,subscripted->aiJ,raiseNew->aiL,entryFor->aiN,bindArgs->aiO,getAttrByItsOwn->aiZ,storeName->ai0,behindInMarks->ai1,importedModules->ai2,PlainAttrs->ai5,seqItems?->ai6,swappedStores->ai9,Within->ajf,cellsFrom->ajh,builtinsNs->aji,boundAndCalled->ajj,call->ajk,entryOfKey->ajm,letOwnedTupleGo->ajn,wpAny_Try_except->ajq,passOn->ajt,unbindBehindTheSuite->ajz,pairTrees_length->ajH,wpAny_looks_onW->ajI,wpAny_Dict_empty->aj1,wpAny_getItem_of->akl,wpAny_pyIter_zip->akx,kt_code_dict_new->akA
open PySem.Str renaming ofString->ZC,empty->ahs
open PySem.Value renaming ref->ZO,none->ZX,str->ag2,bool->ahp,int->ahC,type->ajN,bytes->ajW,float->ajZ,isStrOf->akf,isInt->akr
open PySem.W renaming nsIn->ZR,nsIn->agA,boot_heap->agB,Frag->agN,findIn->agQ,findIn->agY,hideAll->ag5,keepIn->ahi,emptyDict->ahk,SharedT->ahz,boot_drawn->ahF,boot_toks->ahQ,instObj->ahS,kitOne->ah2,OpenLaw->aic,fnOf->aid,exmOne->aig,gensDone->aik,Looks->aim,staticsOk->aip,laidKept->ais,hasDictIn->aix,excIn->aiy,kas_item->aiA,plainGet->aiH,lookIn->aiI,namesBound->aiK,codeIn->aiP,Frag->aiR,fencedOpening->aiW,takerIn->ai3,methodObj->ajo,looks_mroIn->ajO,hideAll_none->ajV,cellsFrom_some->akq
open List renaming range->ZV,lookup->agD,replicate->agJ,length->ag7,map->aje,zipIdx_cons->ajs,zipIdx_nil->ajJ,getElem_mem->ajK,toArray->ajS,zip_map'->aj5,getElem_inj->aj9,filter_map->akg,cons_append->akt,range'->aky,any_map->akz
open PySem.Txt renaming partition->ZZ,split->agM
open False renaming elim->agy
open Sum renaming inr->agE,inl->ag6
open PySem.PyData renaming keyHash->agG,strOk->ahf,canLay0->ahu,depth->ahE,eqv->ah6,depthAll->aiu,canLayAll0->aiQ,bool->aka
open PySem.Builtin.Str renaming occurrences->agL,strKind->agT,strSub->ahl,subAt->aia,partsBetween->aiY,glued->ajR
open True renaming intro->agW
open PyProof.Rows renaming IntsAre->agZ,SortSt->aha,AllBare->ahc,IsTup->ahe,seqObj->ahh,StrsAre->ah0,SortKind->aif,envOfC->aih,failedOf->aiS,subscriptTail->aja,risingS->akb,entry_list_sort->akd,callWith_builtin1->akF,digit_range->akG,sortedS->akL,slice_from_eq->akS
open PySem.NameKind renaming free->ahg,cell->ahT
open PySem.Heap renaming SameBut->ahA,FlyingW->aiC,ExtBut->ajb
open PySem.Builtin.SmallTypes renaming nextOf->ahG,ownedTupleIsFree->aiG,ownedTupleHandOut->ajy,newClass->ajE,newRecord->akC
open PySem.Obj renaming mapSeq->ahI,mapFields->aiB
open PySem.Builtin renaming bitAnd->ahK
open Array renaming mk->ahL,toList->ajP
open Nat renaming ble->ahR,min_le_left->ajX,min_le_right->ake
open PySem.Builtin.Dict renaming updateFrom->ahU,selfAndRest->aiU,showsAll->ajB,readDirectly->ajY,pairItems->aks,addKeywords->akv,merge->akB,dictSlotNone->akH
open PySem.StrLaws renaming At->ahZ,occ_head->ajT
open Option renaming map->ah3,bind->ajd,elim->aj6,getD_none->akw
open PySem.SeqAt renaming readOf->aii,EqAt->ajF
open PySem.W.Fast renaming tw5923862056798008813->ain,tw6613529449190102663->ajv,tw14364793385576792824->ajx,tw10156331382660048174->akk,tw4187177175401517315->akm,tw11892475500146522536->akp
open ForInStep renaming yield->aiw
open PySem.Builtin.Slice renaming slicePlaces->aiE,sliceAdjust->ai7,sliceApplied->ajA,slicePartIndex->akP,sliceFields->akQ
open PySem.Builtin.Tuple renaming tupleExact->aiM,tupleItemsOf->akn,tupleIsExact->akR
open Char renaming toNat->aiT
open PySem.Code renaming isFrame->aiV,frames->aju
open PySem.Around renaming under->aiX
open PySem.Builtin.Range renaming small->ai4,rangeSize->ajp,rangeFitsLong->akK
open PySem.Data renaming cell->ai8,fields->ajc
open PySem.Spec renaming ltCps->ajg
open PySem.Builtin.List renaming listTooLong->ajl,listSameRef->ajw,listExtendWith->aj3,listTouch->akE,listLengthHint->akI,listUpdate->akO
open PySem.Paired renaming snoc->ajr
open Bool renaming false_xor->ajC,not_true->ajU,true_xor->aj2
open PySem.F renaming kt_called_dict->ajD,entry_zip_next->ajG
open Int renaming mul_one->ajL,zero_add->ajQ,toNat_natCast->aj7,natAbs_neg->akc
open PySem.W.WData renaming int->ajM
open PySem.Walks renaming range->aj0,list->akj
open PySem.W.WShape renaming has->aj4
open PySem.Shared renaming heap->aj8
open PySem.W.RowW renaming records->akh
open PySem.Builtin.Builtins renaming bindParams->aki
open PySem.Builtin.Dict_items renaming ownsTuple->ako
open PySem.EntryCells renaming newEntry->aku
open List.Pairwise renaming nil->akD
open PySem.W.Looks renaming ld->akJ
open List.Sublist renaming refl->akM
open PySem.Heap.IsSliceOf renaming new->akN
open Lean Parser.Tactic in
local macro_rules|`(tactic|let $p:term:=$e:term)=>do
 let rec g(n:Nat)(p:Term):MacroM (TSyntax `rcasesPat):=match n with
  |0=>`(rcasesPat|_)
  |n+1=>match p with
   |`(⟨$x,*⟩)=>do let y←x.getElems.mapM (g n);`(rcasesPat|⟨$[$y:rcasesPat],*⟩)
   |`($i:ident)=>`(rcasesPat|$i:ident)
   |_=>`(rcasesPat|_)
 `(tactic|obtain $(←g 9 p):rcasesPat:=$e)
open Lean in
local macro_rules|`(tactic|ext $p)=>`(tactic|cases $(⟨p.raw[0][0]⟩):ident)
open PySem renaming wpAny_bind->aaa,wpAny_pure->aal,wpAny_mono->aaO,sizeLine_eq->aaS,wpAny_field->aaU,wpAny_newObj_type->aa7,wpAny_holding->abc,wpAny_call_entry->abC,typeIs_str->ab4,call_meets->ab7,wpAny_of_eq->ab9,wpAny_callSpecial?_slot->aci,wpAny_attempt->acj,wpAny_rule->acu,typeLookup_type->acv,builtinLookup_eq_fast->acw,wpAny_setField->acx,wpAny_truthy_bool->acz,wpAny_typeOf->acA,isSubtype_type->acB,wpAny_throw->acE,wpAny_isInstance->acF,wpAny_seqItems->acG,wpAny_passesOwn->acJ,tupleKind_room_in1->acU,wpAny_execs_nil->ac0,wpAny_call->ac3,wpAny_Call_Name_kw->ac4,mem_of_lookup->ac5,wpAny_specialOf->adb,wpAny_standAt->adr,codeAny_mono->ads,wpAny_pyIter_list->adx,plainId_quiet->adA,codeAny_builtin->adC,wpAny_setField_rec->adK,wpAny_newList->adL,wpAny_handled->ad7,codeAny_call_builtin->ad8,wpAny_onRaise->aea,wpAny_getItem_str_slice->aeb,post_val_or_str->aec,wpAny_notOrdered_dict->aeh,wpAny_typeNameOfWhole_keyiter->aej,wpAny_fieldsOf->aek,wpAny_typeNameOf_keyiter->ael,wpAny_Name->aew,wpAny_execs_cons->aex,wpAny_pyIter_range->aey,concat_meets->aeG,noFill_tuple_add->aeH,seq_tuple_add->aeI,seqIndex_of->aeN,seqIndex_neg->aeO,wpAny_pyIter_tuple->aeP,entryFor_of_tree->aeT,isSubtype_stop->aeU,call_meetsIn->aeZ,wpAny_dictEntries->ae3,wpAny_dictEpoch->ae4,wpAny_isOneOf_keyiter->ae6,wpAny_storeName_local->aft,wpAny_loadName_local->afu,wpAny_loadName_cell->afv,wpAny_pyNext_list_item->afy,wpAny_pyNext_list_end->afz,wpAny_pyNext_range_end->afA,wpAny_pyIter_rangeiter->afB,wpAny_sequenceKey->afE,slot_list_getitem->afI,wpAny_comprehension_free->afL,wpAny_pyIter_slot->afM,length_partsBetween->afR,wpAny_Call_method->afX,wpAny_pyIter_keyiter->af3,wpAny_updateSeq_pair->aga
open List renaming prefix_append->aap,length_map->aar,length_append->aat,mem_cons->aau,getElem?_set_ne->aav,map_cons->aax,length_cons->aay,prefix_refl->aaE,mem_singleton->aaG,size_toArray->aaH,mem_cons_self->aaJ,mem_cons_of_mem->aaK,nodup_cons->aaM,map_map->aaP,getElem?_map->aaX,getElem?_eq_some_iff->aa0,not_mem_nil->aa3,lookup_cons->aa9,mem_append_right->abe,append_nil->abf,mem_map->abm,mem_of_getElem?->abp,map_nil->abq,find?_cons->abt,eq_nil_of_length_eq_zero->abu,length_nil->abP,append_assoc->abY,mem_append->ab1,length_set->ab6,getElem?_eq_getElem->ab8,nil_append->aca,mem_range->acd,getElem?_set_self->acf,map_append->ack,length_range->acl,getElem?_append_left->acq,all_cons->acr,take_of_length_le->acs,getElem?_append_right->acK,length_drop->acM,length_singleton->acN,getElem?_eq_none->acQ,pairwise_cons->acV,filterMap_cons->acZ,any_cons->ac8,all_eq_true->ac9,reverse_cons->adi,mem_singleton_self->adk,drop_left->adm,take_left->adn,forIn_cons->adv,filter_cons->adG,getElem?_drop->adH,any_eq_true->adI,zip_nil_right->adN,zip_cons_cons->adO,length_zip->adP,drop_drop->adR,mem_filter->adY,mem_filterMap->ad1,forIn_nil->aef,map_congr_left->aei,getElem?_concat_length->aep,length_reverse->aeq,mem_map_of_mem->aeu,mem_append_left->aev,of_mem_zip->aeE,length_take->aeF,drop_zero->aeQ,getElem_of_mem->aeV,nodup_append->ae7,pairwise_map->ae9,getD_eq_getElem?_getD->aff,getElem?_eq_none_iff->afi,forall_mem_cons->afk,any_eq_false->afC,getElem?_take_of_lt->afD,length_dropLast->afK,set_getElem_self->agh,set_append_right->agl,filterMap_append->agm,filterMap_eq_map'->agn,map_eq_nil_iff->agp,length_eq_zero_iff->ags,find?_eq_none->agt,contains_iff_mem->agw,map_filterMap->agx
open Nat renaming le_refl->aaq,ne_of_lt->aaC,zero_le->aaL,le_trans->aaN,lt_of_lt_of_le->aaZ,lt_succ_self->abo,le_add_left->abV,lt_irrefl->acb,ne_of_gt->acm,le_succ->aco,zero_add->acR,le_add_right->acS,le_succ_of_le->acX,le_of_eq->ac2,lt_of_le_of_lt->adh,le_of_lt->adq,lt_succ_of_lt->adw,not_lt->adE,le_of_ble_eq_true->adW,sub_self->aes,sub_zero->aeR,lt_of_succ_lt->aeS,not_lt_zero->afb,lt_of_succ_lt_succ->agf
open PySem.Heap renaming get?_push_of_some->aas,lt_size->aaw,get?_push_size->aaB,get?_update_self->ab5,size_push->ach,get?_update_other->ac7,get?_update_ne->aem,size_update->afe,get?_push_ne->agg
open Option renaming bind_eq_some_iff->aaD,map_eq_some_iff->aaQ,isSome_iff_exists->acp,isSome_map->aeY,join_eq_some_iff->afg,map_some->afj,map_eq_none_iff->afp,some_ne_none->afq,isSome_some->afQ
open Ne renaming symm->aaI
open PyProof.Rows renaming lt_int->aaR,wpS_bind->abR,gt_int->acg,le_int->acn,wpS_pure->acH,signs_ofString->acI,callWith_type1->ac1,slot_tuple_getitem->ac6,wpS_get->adM,boot_range->aez,Subscript_->aeM,size_push'->afa,wpS_forRange->afc,entry_tuple_getitem->afF,args_tuple_getitem->afG,subscriptTail_builtinR->afH,ltCps_eq->agd
open Bool renaming and_eq_true->aaV,false_ne_true->aa1,and_eq_true_iff->acW,false_eq_true->adc,or_eq_true->ady,eq_iff_iff->adF,not_eq_true'->ad9,false_or->aeX,or_eq_true_iff->afh,eq_false_iff->afO
open Option.some renaming inj->abb
open PySem.W renaming mg_of->abh,mg_none_of->abn,of_hideAll->adp,callWith_K->adt,methodCall_KW->adz,hideAll_get->adX,looks_findIn->ad2,callWith_K0->ad3,plainGet_of->aeA,any_some->aeB
open PySem.Obj renaming data_mapFields->abW,isFreed_of_fields->acD,cls_mapFields->ad6
open Int renaming toNat_natCast->acL,le_refl->acO,emod_nonneg->adT,emod_lt_of_pos->adU,add_zero->afl,eq_ofNat_of_zero_le->afo,add_sub_cancel->agu,sub_add_cancel->agv
open PySem.Heap.SameBut renaming update->acP
open PySem.Paired renaming length->acY
open Iff renaming rfl->ada
open PySem.F renaming slot_str_split->ade,entry_str_split->adf,plainAttrs_list->adj,slot_dict_keyiterator_next->adJ,slot_list_getattribute->aee,slot_tuple_iterator_next->aen,slot_zip_next->aeo,plainAttrs_str->aer,slot_tuple_add->aeJ,entry_tuple_add->aeK,args_tuple_add_2->aeL,args_str_split_2->aeW,slot_dict_get->ae0,plainAttrs_dict->ae1,slot_dict_iter->ae2,args_str_split_3->ae8,attr_ValueError->afN,excBase_ValueError->afP,slot_dict_pop->afT,slot_dict_getitem->afU,entry_dict_get->afV,args_dict_get_2->afW,slot_dict_update->afY,slot_list_index->afZ,entry_dict_keyiterator_next->af0,args_dict_keyiterator_next_1->af1,kt_typeCall_dict_1->af4,entry_dict_init->af5,args_dict_init_2->af6,entry_tuple_iterator_next->af7,args_tuple_iterator_next_1->af8,args_zip_next_1->af9,plain_list_iadd->agb,slot_list_extend->agj,type_list_extend->agk
open Nat.succ renaming inj->adg
open PySem.StrLaws renaming strSub_toList->adl,subAt_one->adQ,sub_whole->afm,glued_eq_join->afn,occ_length_le_len->afS,found_iff->agq,partsBetween_eq->agr
open Sum.inr renaming inj->ado
open Array renaming getElem?_toList->adu,getElem?_eq_some_iff->adB,length_toList->adZ,getElem?_eq_getElem->ae5,getElem?_eq_none->af2,all_eq_true'->ago
open Prod.mk renaming injEq->adV
open PySem.IsRange renaming new->ad0
open PySem.Calls renaming callWith_builtin->ad4,evalArgs_plain->ad5,spliced_nil->aeC,spliced_cons->aeD,Constant_str->afw,Name_function_global->afx,call_function_entry->agc
open PySem.Txt renaming slice_le->aed
open PySem.Around renaming under_plainId->aeg
open PySem.SeqAt.EqAt renaming int_str->afr,str_int->afs,int_int->afJ
open List.Perm renaming eq_of_pairwise->age
open List.Pairwise renaming map->agi
def aac:=@if_pos
def aad:=@if_neg
def aaz:=@decide_eq_true
def aaA:=@decide_eq_false
def aaF:=@congrArg
def aa4:=@or_false
def abT:=@of_decide_eq_true
def abZ:=@if_false
def ab0:=@decide_eq_true_eq
def ab2:=@beq_iff_eq
def ab3:=@if_true
def acy:=@beq_eq_false_iff_ne
def adS:=@decide_false
def aet:=@decide_eq_decide
def afd:=@beq_self_eq_true
open PySem PySem.Spec
namespace Lz
class H(P:Prop)(l r:outParam Nat):Prop where le:P->l≤r
class I(P:Prop)(l r:outParam Int):Prop where le:P->l≤r
class G(P:Prop)(l r:outParam Nat):Prop where no:¬l≤r->P
class J(P:Prop)(l r:outParam Int):Prop where no:¬l≤r->P
section
variable{a b:Nat}
instance:H (a≤b) a b:=⟨id⟩
instance:H (a<b) (a+1) b:=⟨id⟩
instance:H (¬a≤b) (b+1) a:=⟨Nat.lt_of_not_le⟩
instance:H (¬a<b) b a:=⟨Nat.le_of_not_lt⟩
instance:H (a=b) a b:=⟨Nat.le_of_eq⟩
instance:G (a≤b) (b+1) a:=⟨Nat.le_of_not_lt⟩
instance:G (a<b) b a:=⟨Nat.lt_of_not_le⟩
instance:G (¬a≤b) a b:=⟨id⟩
instance:G (¬a<b) (a+1) b:=⟨id⟩
instance:G False 0 0:=⟨fun h=>h (Nat.le_refl _)⟩
end
section
variable{a b:Int}
instance:I (a≤b) a b:=⟨id⟩
instance:I (a<b) (a+1) b:=⟨id⟩
instance:I (¬a≤b) (b+1) a:=⟨Int.lt_of_not_ge⟩
instance:I (¬a<b) b a:=⟨Int.le_of_not_gt⟩
instance:I (a=b) a b:=⟨Int.le_of_eq⟩
instance:J (a≤b) (b+1) a:=⟨Int.le_of_not_gt⟩
instance:J (a<b) b a:=⟨Int.lt_of_not_ge⟩
instance:J (¬a≤b) a b:=⟨id⟩
instance:J (¬a<b) (a+1) b:=⟨id⟩
instance:J False 0 0:=⟨fun h=>h (Int.le_refl _)⟩
end
variable{P:Prop}{l r a b:Nat}{m n c d:Int}
theorem go[g:G P l r](h:a≤b)(k:¬a+l≤b+r):P:=g.no fun q=>k (Nat.add_le_add h q)
theorem s[g:H P l r](p:P)(h:a≤b):l+a≤r+b:=Nat.add_le_add (g.le p) h
theorem ig[g:J P m n](h:c≤d)(k:¬c+m≤d+n):P:=g.no fun q=>k (Int.add_le_add h q)
theorem is[g:I P m n](p:P)(h:c≤d):m+c≤n+d:=Int.add_le_add (g.le p) h
theorem sb(x y:Nat):x≤x-y+y:=by omega
theorem sc{x y:Nat}(h:y≤x):x-y+y≤x:=Nat.le_of_eq (Nat.sub_add_cancel h)
theorem sd(x y:Nat)(h:y≤x):x-y+y≤x:=sc h
end Lz
open Lean in
local macro_rules|`(%[$a,*|$k])=>do
 if k.raw.getId.hasMacroScopes then Macro.throwUnsupported
 let mut x:Term←`(Lz.H.le $k)
 let mut y:Term←`(Lz.I.le $k)
 for i in a.getElems.reverse do
  x←`(Lz.s $i $x)
  y←`(Lz.is $i $y)
 `(by first|exact Lz.go $x (by simp +arith only[not_false_eq_true])|exact Lz.ig $y (by simp +arith only[not_false_eq_true]))
local macro_rules|`(tactic|show $e)=>`(tactic|exact $e)
local macro_rules|`(tactic|split $e:term)=>`(tactic|refine $e)
namespace Hd
open PySem.W PySem.Calls PyProof.Rows
def Fe(stp:ahz->ah7->Option (ahz×ah7))(ok:ah7->Bool):Nat->ahz->ah7->Option ahz
 |0,_,_=>none
 |n+1,s,t=>match through t with
  |true=>some s
  |false=>match ok t with
   |false=>none
   |true=>match stp s t with
    |some (s',t')=>Fe stp ok n s' t'
    |none=>none
theorem uC{tb:String->Option Builtin} {n₀:Nat} : ∀(n:Nat) (s:ahz) (t:ah7) (r:ahz),Fe (stepT (denote tb) p w) (stepOk n₀ ann) n s t=some r->topRun tb p w n₀ ann n s.abs t=some r.abs
 |0,_,_,_,h=>by ext h
 |n+1,s,t,r,h=>by
  unfold Fe at h;unfold topRun;cases ht:through t with
  |true=>rw[ht] at h;ext h;rfl
  |false=>
   rw[ht] at h;cases hk:stepOk n₀ ann t with
   |false=>rw[hk] at h;ext h
   |true=>
    rw[hk] at h;cases hs:stepT (denote tb) p w s t with
    |none=>rw[hs] at h;ext h
    |some x=>let⟨s',t'⟩:=x;rw[hs] at h;rw[stepT_spec hs];show uC n s' t' r h
def JR:List Obj->Nat->BT->BT
 |[],_,t=>t
 |o::l,n,t=>JR l (n+1)<|t.ins n o
def T0(P:ahV):BT:=JR (agB P).objs.toList 0 .nil
def VH(P:ahV):absHeap (T0 P) 11 (agB P).life=agB P:=s!""
def sz(P:ahV):((agB P).isNs ZK,(agB P).objs.size,(agB P).nsMap ZK "__annotations__")=(true,11,some<|.ref 6):=s!""
def S0(w:ZI)(os:OsState):ahz:=⟨T0 w.params,11,(agB w.params).life,ahL [],ahF,ahQ,os⟩
def Mc{O:Type}{Yf:ZD->O}{Ya:ZI->O}{N M:Nat}{g0:Bool}
  (open_:∀w:ZI,(aiW ahY p w N).map (λs=>(s.heap,s.gens,s.drawn,s.toks))=some (agB w.params,ahL [],ahF,ahQ)) (le:ahR M N=true)
  (big:∀w:ZI,(λos=>(Fe (stepT (denote ahY) p w) (stepOk 11<|some<|.ref 6) M (S0 w os)<|topStub p).map λr=>((aip (ai2 p.main.body) (agB w.params) r.abs.heap&&aiK p r.abs.heap&&aik r.abs&&ais (agB w.params) r.abs.heap),
    openSeen q loose (ai2 p.main.body) Xt g0 r.abs,Yf r.abs))=λ_=>some (true,openGood q loose,Ya w)):LeftO p q loose Xt Yf Ya N g0:=λw=>by
 let⟨⟨h,gs,d,k,os⟩,e,e'⟩:=aaQ.1<|open_ w;obtain⟨rfl,rfl,rfl,rfl⟩:h=agB w.params/\gs=ahL []/\d=ahF/\k=ahQ:=by simpa using e'
 obtain⟨z1,z2,z3⟩:_/\_/\_:=by simpa only[adV] using sz w.params
 let⟨r,hr,hb⟩:=aaQ.1<|congrFun (big w) os;obtain⟨l1,l2,l3⟩:_/\_/\_:=by simpa only[adV] using hb
 have ha:(S0 w os).abs=⟨agB w.params,ahL [],ahF,ahQ,os⟩:=by unfold S0 SharedT.abs;dsimp only;rw[VH]
 have t:=topRun_mono (N-M) _ _ _ _<|uC _ _ _ _ hr;rw[show M+(N-M)=N by have:=adW le;lia,ha] at t;have t2:topFrom ahY p w N ⟨agB w.params,ahL [],ahF,ahQ,os⟩=some r.abs:=by unfold topFrom;dsimp only;rw[z1,z2,z3,t];show (match aip (ai2 p.main.body) (agB w.params) r.abs.heap&&aiK p r.abs.heap&&aik r.abs&&ais (agB w.params) r.abs.heap with|true=>_|false=>_)=_;rw[l1]
 unfold openEnds;rw[e];show (topFrom ahY p w N _).map _=_;rw[t2];show aaF some<|Prod.ext l2 l3
def Me{O:Type}{Yf:ZD->O}{Ya:ZI->O}{g0:Bool}
  (open_:∀w:ZI,(aiW ahY p w 100000).map (λs=>(s.heap,s.gens,s.drawn,s.toks))=some (agB w.params,ahL [],ahF,ahQ))
  (big:∀w:ZI,(λos=>(Fe (akk (akp ajx) p w) (ajv 11<|some<|.ref 6) 100000 (S0 w os)<|topStub p).map λr=>((aip (ain p.main.body) (agB w.params) r.abs.heap&&aiK p r.abs.heap&&aik r.abs&&ais (agB w.params) r.abs.heap),
    akm q loose (ain p.main.body) Xt g0 r.abs,Yf r.abs))=λ_=>some (true,openGood q loose,Ya w)):LeftO p q loose Xt Yf Ya 100000 g0:=by
 rw[<-Fast.te10156331382660048174,<-Fast.te11892475500146522536,<-Fast.te14364793385576792824,<-Fast.te6613529449190102663,<-Fast.te5923862056798008813,<-Fast.te4187177175401517315] at big;show Mc open_ rfl big
def Nz(h:Fast.tw9446332074065402090 l=true):l.wellSaid=true:=by rw[Fast.te9446332074065402090];show h
def wb(w:ZI)(b:Bool):ZI:=⟨w.draws,{ w.params with followText:=λs=>cond (s == "special-get-raises") b (w.params.followText s) }⟩
def aaj(w:ZI):wb w (w.params.followText "special-get-raises")=w:=by
 have:(λs=>cond (s == "special-get-raises") (w.params.followText "special-get-raises")<|w.params.followText s)=w.params.followText:=by
  funext s
  cases h:s == "special-get-raises" with
  |false=>rfl
  |true=>rw[eq_of_beq h];rfl
 unfold wb;rw[this]
def NR{C:ZI->Prop}(h:∀w b,C<|wb w b):∀w,C w:=λw=>aaj w▸h w (w.params.followText "special-get-raises")
abbrev Rn(p:ZL)(w:ZI)(os:OsState):Option ahz:=Fe (akk (akp ajx) p w) (ajv 11<|some<|.ref 6) 100000 (S0 w os)<|topStub p
abbrev BgA(p q:ZL)(loose:Zl)(Xt:ZD->Bool)(w:ZI):Prop:=(λos=>(Rn p w os).map λr=>((aip (ain p.main.body) (agB w.params) r.abs.heap&&aiK p r.abs.heap&&aik r.abs&&ais (agB w.params) r.abs.heap),akm q loose (ain p.main.body) Xt true r.abs))=λ_=>some (true,openGood q loose)
abbrev BgB(p:ZL)(H:Hook)(w:ZI):Prop:=(λos=>(Rn p w os).map λr=>H.obs r.abs)=λ_=>some<|H.val w
def RK{p q:ZL}{loose:Zl}{Xt:ZD->Bool}{H:Hook}
  (open_:∀w:ZI,(aiW ahY p w 100000).map (λs=>(s.heap,s.gens,s.drawn,s.toks))=some (agB w.params,ahL [],ahF,ahQ))
  (a:∀w b,BgA p q loose Xt<|wb w b) (c:∀w b,BgB p H<|wb w b):LeftO p q loose Xt H.obs H.val 100000:=Me open_ (NR λw b=>by
 funext os
 have a':=congrFun (a w b) os;have c':=congrFun (c w b) os;let⟨r,e,a'⟩:=aaQ.1 a';let⟨r',e',c'⟩:=aaQ.1 c';cases e.symm.trans e';split aaQ.2 ⟨r,e,?_⟩;rw[adV] at a' ⊢;split⟨a'.1,?_⟩;rw[adV]
 show⟨a'.2,c'⟩)
end Hd
set_option Elab.async false
section
open PySem.W PyProof.Rows
def Hd.q : ZL := view PySem.Challenge.pw_shapethin_k73_deeds_taken_back [1, 2, 3, 4, 5, 6, 7, 8, 45, 46, 47, 48, 100, 111]
local macro_rules | `(tactic| o_head $_)=>`(tactic| assumption)
set_option maxHeartbeats 0 in
theorem Hd.e0 : PySem.Challenge.rw_shapethin_k73_deeds_taken_back.row.Holds -> PySem.Challenge.rw_shapethin_k73_deeds_taken_back.row.Holds := by intro h; w_on; k_head
def Hd.as:Zk:=(Hd.e0.heap_1 { strHash:=λ_=>0,shareClass:=λ_=>0,mergeTok:=id,idOf:=λ_=>0,idOfShared:=λ_ _=>0,followText:=λ_=>true,idOfImm:=λ_=>0 }).map (·.1)
def Hd.ae(P:ahV):Hd.as=(Hd.e0.heap_1 P).map (·.1):=s!""
abbrev Hd.H:Hook:=kHook Hd.e0.heap_1 Hd.as Hd.ae
abbrev Hd.lo:Zl:=aje ZC ["row_of", "count_up_to", "row_common", "row_less", "row_either", "row_count", "row_moved", "row_shrunk", "row_gaps", "MOST_CELLS", "picture_of", "stretches_of", "row_at", "rows_with_cells", "join", "common", "less", "either", "lies_in", "count_cells", "box_of", "moved", "cells_of", "ONE_CELL", "blocks_of", "spread_down", "shrunk_down", "greater_by_block", "greater_by_part", "smaller_by_block", "smaller_by_part", "reached", "begun_between", "BY_EIGHT", "BY_FOUR", "touching", "walk_from", "classes_of", "pieces", "picture_of_gaps", "is_open", "holes", "filled", "FIGURES", "MOST_FIGURES", "WITHOUT_CELLS", "show", "show_row", "show_stretch", "read", "read_stretches", "read_stretch", "read_whole", "writes_whole", "ROUND", "STRAIGHT", "turns", "count_around", "SIDES", "thinned", "take_round", "free_cells", "take_pass", "goes", "LETTERS", "MOST_LETTERS", "ROWS", "is_read", "is_name", "words_of", "split_row", "read_form", "form_written", "made_of_two", "made_by_form", "made", "told", "yes_or_no", "_law_refused", "_law_text", "_law_made", "_law_put", "_law_changed", "_law_dropped", "_law_back", "_law_step", "_law_seen"]
abbrev Hd.Xt : ZD -> Bool := fun s => xlAt Hd.q [] s && recOk (akh<|OpenRow.toRowW<|OpenLaw.row PySem.Challenge.rw_shapethin_k73_deeds_taken_back) s
set_option maxHeartbeats 0 in
theorem Hd.eaf (w : ZI) : Hd.BgA PySem.Challenge.rw_shapethin_k73_deeds_taken_back.row.prog Hd.q Hd.lo Hd.Xt (Hd.wb w false) := by kernel_rfl
set_option maxHeartbeats 0 in
theorem Hd.ebf (w : ZI) : Hd.BgB PySem.Challenge.rw_shapethin_k73_deeds_taken_back.row.prog Hd.H (Hd.wb w false) := by kernel_rfl
set_option maxHeartbeats 0 in
theorem Hd.eat (w : ZI) : Hd.BgA PySem.Challenge.rw_shapethin_k73_deeds_taken_back.row.prog Hd.q Hd.lo Hd.Xt (Hd.wb w true) := by kernel_rfl
set_option maxHeartbeats 0 in
theorem Hd.ebt (w : ZI) : Hd.BgB PySem.Challenge.rw_shapethin_k73_deeds_taken_back.row.prog Hd.H (Hd.wb w true) := by kernel_rfl
theorem Hd.e1 : LeftO PySem.Challenge.rw_shapethin_k73_deeds_taken_back.row.prog Hd.q Hd.lo (fun s => xlAt Hd.q [] s && recOk (akh<|OpenRow.toRowW<|OpenLaw.row PySem.Challenge.rw_shapethin_k73_deeds_taken_back) s) (Hook.obs Hd.H) (Hook.val Hd.H) 100000 := Hd.RK (boot_open (by rfl) rfl<|fun s => rfl) (fun w b => by ext b; show Hd.eaf w; show Hd.eat w) (fun w b => by ext b; show Hd.ebf w; show Hd.ebt w)
set_option maxHeartbeats 0 in
theorem Hd.e2 : PySem.Challenge.rw_shapethin_k73_deeds_taken_back.wellSaid = true := Hd.Nz s!""
end
set_option Elab.async false
set_option linter.all false
set_option maxRecDepth 100000
namespace L2
open PyProof.Rows
abbrev bH:=Sum Int Str
def rq:bH->ZE->Bool
 |.inl k,v=>akr k v
 |.inr x,v=>akf x v
def WG(w:ZI):bH->Int
 |.inl k=>hashInt k
 |.inr x=>hashStr w x
def b6:∀ {k:bH} {v:ZE},rq k v=true->(∃i t,k=ag6 i/\v=ahC i t)\/(∃x t,k=agE x/\v=ag2 x t)
 |.inl i,v,h=>by
  let⟨t,e⟩:=Value.isInt_shape (k:=i) (v:=v) h;show .inl ⟨i,t,rfl,e⟩
 |.inr x,v,h=>by let⟨t,e⟩:=Value.isStrOf_shape (x:=x) (v:=v) h;show .inr ⟨x,t,rfl,e⟩
def Ep(i:Int)(t:Tok):rq (.inl i) (.int i t)=true:=by simp[rq,akr]
def Er(x:Str)(t:Tok):rq (.inr x) (.str x t)=true:=by simp[rq,akf]
def RE(a b:Int):decide ((ag6 a:bH)=ag6 b)=(a==b):=by
 by_cases e:a=b
 .subst e;simp
 .have h:¬(ag6 a:bH)=ag6 b:=λq=>e<|Sum.inl.inj q;rw[aaA h];show (acy.2 e).symm
def RI(a b:Str):decide ((agE a:bH)=agE b)=decide (a=b):=by
 by_cases e:a=b
 .subst e;simp
 .have h:¬(agE a:bH)=agE b:=λq=>e<|ado q;rw[aaA h,aaA e]
def RG(a:Int)(b:Str):decide ((ag6 a:bH)=agE b)=false:=aaA<|λq=>nomatch q
def RH(a:Str)(b:Int):decide ((agE a:bH)=ag6 b)=false:=aaA<|λq=>nomatch q
def aI(prog:ZL)(w:ZI):PySem.KeyKind prog w bH where
 is:=rq
 hash:=WG w
 inj:=λv a b ha hb=>by
  rcases b6 ha with ⟨i,t,rfl,rfl⟩|⟨x,t,rfl,rfl⟩
  .rcases b6 hb with ⟨j,u,rfl,e⟩|⟨y,u,rfl,e⟩
   .injection e with e1 _;rw[e1]
   .exact nomatch e
  .rcases b6 hb with ⟨j,u,rfl,e⟩|⟨y,u,rfl,e⟩
   .exact nomatch e
   .injection e with e1 _;rw[e1]
 byValue:=λk v h=>by rcases b6 h with ⟨i,t,rfl,rfl⟩|⟨x,t,rfl,rfl⟩<;>rfl
 pyHash:=λhv h=>by
  rcases b6 hv with ⟨i,t,rfl,rfl⟩|⟨x,t,rfl,rfl⟩
  .exact wpAny_pyHash_int h
  .exact wpAny_pyHash_str h
 eqBool:=λhu hv h=>by
  rcases b6 hu with ⟨i,t,rfl,rfl⟩|⟨x,t,rfl,rfl⟩
  .rcases b6 hv with ⟨j,u,rfl,rfl⟩|⟨y,u,rfl,rfl⟩
   .rw[RE] at h;show wpAny_eqBool_int h
   .rw[RG] at h;show afr i t y u _ _ _ _ h
  .rcases b6 hv with ⟨j,u,rfl,rfl⟩|⟨y,u,rfl,rfl⟩
   .rw[RH] at h;show afs x t j u _ _ _ _ h
   .rw[RI] at h;show wpAny_eqBool_str h
 «strs»:=λk x t v h=>by
  rcases b6 h with ⟨i,u,rfl,e⟩|⟨y,u,rfl,e⟩
  .exact nomatch e
  .injection e with e1 _
   subst e1;cases v<;>rfl
def yl(prog:ZL)(w:ZI)(i:Int)(t:Tok):(aI prog w).is (.inl i) (.int i t)=true:=Ep i t
def ym(prog:ZL)(w:ZI)(x:Str)(t:Tok):(aI prog w).is (.inr x) (.str x t)=true:=Er x t
inductive V where
 |N|B (b:Bool)|int (i:Int)|str (x:Str)|byt (b:Array UInt8)|flt (b:UInt64)|ref (a:ZB)|ty (n:String)
 deriving DecidableEq
abbrev Za:=List V
def RelV:V->ZE->Prop
 |.N,u=>u=ZX
 |.B b,u=>u=ahp b
 |.int i,u=>∃t,u=ahC i t
 |.str x,u=>∃t,u=ag2 x t
 |.byt b,u=>∃t,u=ajW b t
 |.flt b,u=>∃t,u=ajZ b t
 |.ref a,u=>u=ZO a
 |.ty n,u=>u=ajN n
abbrev Vals:Za->Zh->Prop:=aho RelV
def Vals.length{xs:Za}{us:Zh}(r:Vals xs us):xs.length=us.length:=acY r
theorem Vals.get:∀ {xs:Za} {us:Zh} {i:Nat} {x:V},Vals xs us->xs[i]?=some x->∃u,us[i]?=some u/\RelV x u
 |_,_,_,_,.nil,e=>by simp at e
 |_,_,0,_,.cons r _,e=>by simp at e;subst e;show⟨_,rfl,r⟩
 |_,_,i+1,x,.cons _ t,e=>by let⟨u,h1,h2⟩:=Vals.get (i:=i) (x:=x) t<|~~~e;show⟨u,~~~h1,h2⟩
theorem Vals.set{x:V}{u:ZE}(r:RelV x u):∀ {xs:Za} {us:Zh} (i:Nat),Vals xs us->Vals (xs.set i x) (us.set i u)
 |_,_,_,.nil=>.nil
 |_,_,0,.cons _ t=>.cons r t
 |_,_,i+1,.cons q t=>.cons q<|Vals.set r i t
theorem Vals.append:∀ {xs ys:Za} {us ws:Zh},Vals xs us->Vals ys ws->Vals (xs++ys) (us++ws)
 |_,_,_,_,.nil,s=>s
 |_,_,_,_,.cons r t,s=>.cons r<|Vals.append t s
theorem Vals.take:∀ {xs:Za} {us:Zh} (n:Nat),Vals xs us->Vals (xs.take n) (us.take n)
 |_,_,0,_=>.nil
 |_,_,_+1,.nil=>.nil
 |_,_,n+1,.cons r t=>.cons r<|Vals.take n t
theorem Vals.drop:∀ {xs:Za} {us:Zh} (n:Nat),Vals xs us->Vals (xs.drop n) (us.drop n)
 |_,_,0,r=>r
 |_,_,_+1,.nil=>.nil
 |_,_,n+1,.cons _ t=>Vals.drop n t
def RelO:Option V->Zi->Prop
 |some v,some u=>RelV v u
 |none,none=>True
 |_,_=>False
def KV{G:Type}:List (G×V)->List (G×ZE)->Prop:=aho λ(p:G×V) (q:G×ZE)=>p.1=q.1/\RelV p.2 q.2
def kV:bH->V
 |.inl i=>.int i
 |.inr x=>.str x
inductive HO where
  |L (xs:Za)
  |T (xs:Za)
  |dK (kvs:List (bH×V))|dT (kvs:List (List bH×V))
  |set (S:Int->Bool) (n:Nat)
  |ins (C dx:ZB) (fs:List (Str×V))
  |own (x:ZB)
  |xd (fs:List (Str×V))
  |met (f x:ZB)
  |rng (lo hi:Int)
  |frz (o:Obj) (u:HO)
  |tbl (ps:Array ZE)
  |ext (φ:ZH->Prop)
abbrev Hp:=ZB->Option HO
def upd(H:Hp)(a:ZB)(o:HO):Hp:=λb=>if b=a then some o else H b
def aH:upd H a o a=some o:=by unfold upd;rw[aac rfl]
def aR{a b:ZB} (h:b≠a):upd H a o b=H b:=by unfold upd;rw[aad h]
def wR:upd (upd H a o) a u=upd H a u:=by
 funext b;unfold upd;split<;>rfl
def yn{H:Hp}{a b:ZB}{o u:HO}(h:H a=some o)(h':H b=some u)(d:o≠u):a≠b:=by intro e;subst e;rw[h] at h';show d<|abb h'
def bF{H:Hp}{a b:ZB}{o:HO}(h:H a=some o)(h':H b=none):a≠b:=by intro e;subst e;rw[h] at h';ext h'
section
variable (P:ZL)(w:ZI)
def TupN(h:ZH)(a:ZB)(xs:Array ZE):Prop:=∃o,h.get? a=some o/\o.cls=.type "tuple" /\ ∃n,o.data=.seq xs n/\o.dict=none
def TupN.tup{h:ZH}{a:ZB}{xs:Array ZE}(x:TupN h a xs):ahe h a xs:=let ⟨o,h1,h2,n,h3,_⟩:=x;⟨o,h1,h2,n,h3⟩
def TupN.new(h:ZH)(xs:Array ZE):TupN (h.push { cls:=.type "tuple",data:=.seq xs }) h.objs.size xs:=⟨_,aaB _ rfl,rfl,_,rfl,rfl⟩
def ObjOk(H:Hp)(h:ZH)(a:ZB):HO->Prop
 |.L xs=>xs.length<=ZF/\∃(its:Zh) (n:Nat),Vals xs its/\h.get? a=some { cls:=.type "list",data:=.seq its.toArray n }
 |.T xs=>xs.length<=ZF/\∃its:Zh,Vals xs its/\TupN h a its.toArray
 |.dK kvs=>kvs.length<=ZF/\(a==agF)=false/\∃vs,KV kvs vs/\h.DictOf (aI P w) a vs
 |.dT kvs=>kvs.length<=ZF/\(a==agF)=false/\∃xs:List<|List bH×ZB×ZE,
   aho (λ(p:List bH×V) (q:List bH×ZB×ZE)=>p.1=q.1/\H q.2.1=some (.T<|p.1.map kV)/\RelV p.2 q.2.2) kvs xs /\
   ∃o es ep,h.get? a=some o/\o.ExactDict/\o.data=.dict es ep/\es.toList=xs.map (ajm<|tupleKind<|aI P w)/\(xs.map (·.1)).Nodup
 |.set S n=>h.SetOf (intKind P w) a S n
 |.ins C dx fs=>H dx=some (.own a)/\fs.length<=1000/\dx≠a/\h.get? a=some (ahS C dx) /\
   ∃mA,h.Ns1 dx mA/\(∀f,RelO (fs.lookup f)<|mA f)/\ajf mA (fs.map (·.1))
 |.own _=>∃o,h.get? a=some o
 |.xd fs=>∃mA,h.Ns1 a mA/\∀f,RelO (fs.lookup f)<|mA f
 |.rng lo hi=>∃t u v,h.get? a=some { cls:=.type "range",data:=.fields #[.int lo t,.int hi u,.int 1 v] }
 |.frz o u=>h.get? a=some o/\ObjOk H h a u
 |.tbl ps=>h.get? a=some { cls:=.none,data:=.fields ps }
 |.met f x=>h.get? a=some (ajo (.ref f)<|.ref x)
 |.ext φ=>φ h/\(∃o,h.get? a=some o)/\∀h1 h2:ZH,φ h1->(∀o,h1.get? a=some o->h2.get? a=some o)->φ h2
def HOk(H:Hp)(h:ZH):Prop:=∀a o,H a=some o->ObjOk P w H h a o
end
section
variable {P:ZL}{w:ZI}{H H':Hp}{h h':ZH}{a:ZB}{o:HO}
def ObjOk.lt(x:ObjOk P w H h a o):a<h.objs.size:=by
 cases o with
 |L xs=>let⟨_,_,_,_,e⟩:=x;show aaw e
 |T xs=>let⟨_,_,_,p⟩:=x;show p.tup.lt
 |dK kvs=>let⟨_,_,_,_,o,_,_,e,_⟩:=x;show aaw e
 |dT kvs=>let⟨_,_,_,_,o,_,_,e,_⟩:=x;show aaw e
 |set S n=>let⟨o,_,_,_,e,_⟩:=x;show aaw e
 |ins C dx fs=>let⟨_,_,_,e,_⟩:=x;show aaw e
 |own y=>let⟨_,e⟩:=x;show aaw e
 |xd fs=>let⟨_,⟨_,_,_,e,_⟩,_⟩:=x;show aaw e
 |rng lo hi=>let⟨_,_,_,e⟩:=x;show aaw e
 |frz ob u=>let⟨e,_⟩:=x;show aaw e
 |tbl ps=>show aaw (show h.get? a=some _ from x)
 |met f y=>show aaw (show h.get? a=some _ from x)
 |ext φ=>let⟨_,⟨_,e⟩,_⟩:=x;show aaw e
theorem Paired.mapP{O β:Type}{F κ:O->β->Prop}:∀ {l₁:List O} {l₂:List β},aho F l₁ l₂->(∀a b,F a b->κ a b)->aho κ l₁ l₂
 |_,_,.nil,_=>.nil
 |_,_,.cons r t,f=>.cons (f _ _ r)<|Paired.mapP t f
def ObjOk.stay(x:ObjOk P w H h a o)(k:∀b u,(b=a\/H b=some (.own a))->h.get? b=some u->h'.get? b=some u)
  (ho:∀b,H b=some (.own a)->H' b=some (.own a)) (ht:∀b xs,H b=some (.T xs)->H' b=some (.T xs)):ObjOk P w H' h' a o:=by
 induction o with
 |L xs=>let⟨z,its,n,r,e⟩:=x;show⟨z,its,n,r,k _ _ (.inl rfl) e⟩
 |T xs=>let⟨z,its,r,ob,e,c⟩:=x;show⟨z,its,r,ob,k _ _ (.inl rfl) e,c⟩
 |dK kvs=>let⟨z,y,vs,r,ob,es,ep,e,c⟩:=x;show⟨z,y,vs,r,ob,es,ep,k _ _ (.inl rfl) e,c⟩
 |dT kvs=>
  let⟨z,y,xs,r,ob,es,ep,e,c⟩:=x;show⟨z,y,xs,Paired.mapP r λp q z=>⟨z.1,ht _ _ z.2.1,z.2.2⟩,ob,es,ep,k _ _ (.inl rfl) e,c⟩
 |set S n=>let⟨ob,es,ep,t,e,c⟩:=x;show⟨ob,es,ep,t,k _ _ (.inl rfl) e,c⟩
 |ins C dx fs=>
  let⟨d,z,ne,e,mA,⟨od,es,ep,e2,c⟩,r⟩:=x;show⟨ho _ d,z,ne,k _ _ (.inl rfl) e,mA,⟨od,es,ep,k _ _ (.inr d) e2,c⟩,r⟩
 |own y=>let⟨ob,e⟩:=x;show⟨ob,k _ _ (.inl rfl) e⟩
 |xd fs=>let⟨mA,⟨od,es,ep,e,c⟩,r⟩:=x;show⟨mA,⟨od,es,ep,k _ _ (.inl rfl) e,c⟩,r⟩
 |rng lo hi=>let⟨t,u,v,e⟩:=x;show⟨t,u,v,k _ _ (.inl rfl) e⟩
 |frz ob u ih=>let⟨e,q⟩:=x;show⟨k _ _ (.inl rfl) e,ih q⟩
 |tbl ps=>
  have e:h.get? a=some { cls:=.none,data:=.fields ps }:=x;show h'.get? a=some { cls:=.none,data:=.fields ps };show k a _ (.inl rfl) e
 |met f y=>
  have e:h.get? a=some (ajo (.ref f)<|.ref y):=x;show h'.get? a=some (ajo (.ref f)<|.ref y);show k a _ (.inl rfl) e
 |ext φ=>let⟨p,⟨o,e⟩,st⟩:=x;show⟨st _ _ p λo q=>k _ _ (.inl rfl) q,⟨o,k _ _ (.inl rfl) e⟩,st⟩
def HOk.lt(x:HOk P w H h)(e:H a=some o):a<h.objs.size:=(x a o e).lt
def HOk.fresh(x:HOk P w H h)(e:h.objs.size<=a):H a=none:=by
 cases q:H a with
 |none=>rfl
 |some u=>show absurd (aaZ (x.lt q) e)<|acb _
def HOk.kept(x:HOk P w H h)(k:∀b u,h.get? b=some u->h'.get? b=some u):HOk P w H h':=λa o e=>
 (x a o e).stay (λb u _ q=>k b u q) (λ_ q=>q) λ_ _ q=>q
def HOk.laid(x:HOk P w H h)(k:∀b u,h.get? b=some u->h'.get? b=some u)(hp:h.objs.size<=a)(new:ObjOk P w (upd H a o) h' a o):HOk P w (upd H a o) h':=λb u e=>by
 have hn:=x.fresh hp;by_cases hb:b=a
 .subst hb;rw[aH] at e;ext e;show new
 .rw[aR hb] at e;show (x b u e).stay (λc v _ q=>k c v q) (λc q=>by rw[aR<|bF q hn];show q) λc xs q=>by rw[aR<|bF q hn];show q
end
def Rd(H:Hp)(a:ZB)(u:HO):Prop:=H a=some u\/∃o,H a=some (.frz o u)
def Rd.ok{P:ZL}{w:ZI}{H:Hp}{h:ZH}{a:ZB}{u:HO}(r:Rd H a u)(x:HOk P w H h):ObjOk P w H h a u:=by
 rcases r with r|⟨o,r⟩
 .exact x a u r
 .let⟨_,q⟩:=x a _ r;show q
def VC:Option HO->Prop
 |some (.L _)=>True
 |some (.dK _)=>True
 |some (.dT _)=>True
 |some (.set _ _)=>True
 |some (.ins _ _ _)=>True
 |some (.ext _)=>True
 |_=>False
section
variable {P:ZL}{w:ZI}{H:Hp}{h h':ZH}{x e:ZB}{o':HO}
def HOk.write(ok:HOk P w H h)(mu:VC<|H x)(he:e=x\/H e=some (.own x))(k:∀b u,b≠e->h.get? b=some u->h'.get? b=some u)(heo:∃u,h'.get? e=some u)
  (new:ObjOk P w (upd H x o') h' x o'):HOk P w (upd H x o') h':=λb u q=>by
 have nown:∀c y,H c=some (.own y)->c≠x:=λc y r z=>by subst z;rw[r] at mu;show mu
 have ntup:∀c xs,H c=some (.T xs)->c≠x:=λc xs r z=>by subst z;rw[r] at mu;show mu
 by_cases hb:b=x
 .subst hb;rw[aH] at q;ext q;show new
 .rw[aR hb] at q;by_cases hbe:b=e
  .have q':H b=some (.own x):=by
    rcases he with z|z
    .exact absurd (hbe.trans z) hb
    .rw[hbe];show z
   rw[q] at q';ext q';let⟨v,hv⟩:=heo;show⟨v,by rw[hbe];show hv⟩
  .refine (ok b u q).stay (λc v hc r=>k c v ?_ r) (λc r=>by rw[aR<|nown c b r];show r) λc xs r=>by rw[aR<|ntup c xs r];show r
   rcases hc with rfl|hc
   .exact hbe
   .rintro rfl;rcases he with z|z
    .exact nown c b hc z
    .rw[hc] at z;ext z;show hb rfl
end
structure Un(fs ex:Zk)(H H':Hp)(h h':ZH):Prop where
 keep:∀b o,h.get? b=some o->H b=none->b∉fs->b∉ex->h'.get? b=some o
 slot:∀b o,h.get? b=some o->H b=none->b∈fs->b∉ex->∃sl,h'.get? b=some { o with slots:=sl }
 free:∀b o,h.get? b=some o->H b=none->b∉ex->H' b=none
 there:∀b o,h.get? b=some o->b∉ex->∃o',h'.get? b=some o'
 tups:∀b xs,H b=some (.T xs)->H' b=some (.T xs)
 frzs:∀b o u,H b=some (.frz o u)->H' b=some (.frz o u)
 tbls:∀b ps,H b=some (.tbl ps)->∃more,H' b=some (.tbl<|ps++more)
section
variable {fs ex:Zk}{H H1:Hp}{h h1 h':ZH}{a x e:ZB}{o:HO}
def Un.any(u:Un fs ex H H1 h h1) {ob:Obj}(q:h.get? b=some ob)(n:H b=none)(hx:b∉ex):∃sl,h1.get? b=some { ob with slots:=sl }:=by
 by_cases hb:b∈fs
 .exact u.slot b ob q n hb hx
 .exact⟨ob.slots,u.keep b ob q n hb hx⟩
def Un.kept(k:∀b u,h.get? b=some u->h'.get? b=some u):Un fs ex H H h h':=
 ⟨λb ob q _ _ _=>k b ob q,λb ob q _ _ _=>⟨ob.slots,k b ob q⟩,λ_ _ _ n _=>n,λb ob q _=>⟨ob,k b ob q⟩,λ_ _ q=>q,λ_ _ _ q=>q,λ_ ps q=>⟨#[],by rw[q];simp⟩⟩
def Un.refl:Un fs ex H H h h:=Un.kept λ_ _ q=>q
def Un.laid(k:∀b u,h.get? b=some u->h'.get? b=some u)(hp:h.objs.size<=a)(hn:H a=none):Un fs ex H (upd H a o) h h' where
 keep:=λb u q _ _ _=>k b u q
 slot:=λb u q _ _ _=>⟨u.slots,k b u q⟩
 free:=λb u q n _=>by rw[aR<|aaC<|aaZ (aaw q) hp];show n
 there:=λb u q _=>⟨u,k b u q⟩
 tups:=λb xs q=>by rw[aR<|bF q hn];show q
 frzs:=λb u xs q=>by rw[aR<|bF q hn];show q
 tbls:=λb ps q=>⟨#[],by rw[aR<|bF q hn,q];simp⟩
def Un.write(mu:VC<|H x)(he:e=x\/H e=some (.own x))(k:∀b u,b≠e->h.get? b=some u->h'.get? b=some u)(heo:∃u,h'.get? e=some u):Un fs ex H (upd H x o) h h':=by
 have hx:∀b,H b=none->b≠x:=λb n z=>by subst z;rw[n] at mu;show mu
 have hb:∀b,H b=none->b≠e:=λb n z=>by
  subst z;rcases he with r|r
  .exact hx b n r
  .rw[n] at r;ext r
 have hm:∀b u,H b=some u->¬VC (some u)->b≠x:=λb u q nm z=>by subst z;rw[q] at mu;show nm mu
 split⟨λb u q n _ _=>k b u (hb b n) q,λb u q n _ _=>⟨u.slots,k b u (hb b n) q⟩,λb u q n _=>by rw[aR<|hx b n];show n,λb u q _=>?_,
  λb xs q=>by rw[aR<|hm b _ q λz=>z];show q,λb u xs q=>by rw[aR<|hm b _ q λz=>z];show q,λb ps q=>⟨#[],by rw[aR<|hm b _ q λz=>z,q];simp⟩⟩
 by_cases hbe:b=e
 .subst hbe;show heo
 .exact⟨u,k b u hbe q⟩
end
def trk(h:ZH)(H:Hp):Zk:=(ZV h.objs.size).filter λa=>(H a).isSome
def vP(h:ZH)(H:Hp):ZH:=ag5 h<|trk h H
def El(h:ZH)(H:Hp):(vP h H).objs.size=h.objs.size:=W.hideAll_size _ _
def Hc{h:ZH}{H:Hp}{b:ZB}{o:Obj}(e:h.get? b=some o)(n:H b=none):(vP h H).get? b=some o:=
 adX _ e λhm=>by have q:(H b).isSome=true:=(adY.1 hm).2;rw[n] at q;simp at q
def Mu{b:ZB}{o:Obj}(e:(vP h H).get? b=some o):h.get? b=some o/\H b=none:=by
 have e':h.get? b=some o:=adp (trk h H) e;split⟨e',?_⟩;cases q:H b with
 |none=>rfl
 |some x=>have hm:b∈trk h H:=adY.2 ⟨acd.2<|aaw e',by simp[q]⟩;have z:(vP h H).get? b=none:=ajV (trk h H) hm;rw[z] at e;ext e
end L2
abbrev PySem.Shared.wh(s:ZD)(h:ZH):ZD:={ s with heap:=h }
abbrev PySem.Shared.wt(s:ZD)(h:ZH)(k:Nat):ZD:={ s with heap:=h,toks:=k }
namespace L2
open PyProof.Rows
structure Mod(K:Zj)(mg:Zg)(base:ZH):Prop where
 kin:K.In base
 glob:base.Ns ZK mg
 blt:∃mb,base.Ns aji mb/\∀x:Str,x ≠ "__name__" -> mb x=agz x
 nolimit:base.NoLimit
structure Cx where
 p:ZL
 w:ZI
 K:Zj
 mg:Zg
 ba:ZH
 A:ZP
 N:Zl
 s:ZD
 h:Hp
 e:Env
 o:List Env
 t:List Env
 ex:Zk
 fn:Str->Bool
 c:Bool
 pn:Zf
 xe:Ze
abbrev wX(X:Cx){O:Type}:Sem O->(O->ZD->Prop)->(Ze)->ZD->Prop:=ZG (ZJ X.p X.w) X.A
def pF(l:List Env):Zk:=l.filterMap (·.frame)
abbrev Cx.fs(X:Cx):Zk:=pF X.o
def VL(sc:ZS)(x:Str):Prop:=sc.names.lookup x=some .local\/sc.names.lookup x=some .cell\/sc.names.lookup x=some .free
def N4(sc:ZS)(x:Str):Prop:=sc.names.lookup x=some .local\/sc.names.lookup x=some .cell
def aaT(env:Env)(h:ZH)(m:Zg)(x:Str)(u:ZE):Prop:=
 (env.kindOf x=some .local/\m x=some u)\/((env.kindOf x=some .cell\/env.kindOf x=some .free)/\∃c,env.cells.lookup x=some c/\h.IsCell c (some u))
structure Cx.Ok(X:Cx):Prop where
 mod:Mod X.K X.mg X.ba
 kind:X.e.scope.kind=.function
 glob:X.e.globals=ZK
 blt:X.e.builtins=aji
 above:X.s.heap.objs.size<=X.e.locals
 inj:∀x y c,X.e.cells.lookup x=some c->X.e.cells.lookup y=some c->x=y
 has:∀x,(X.e.kindOf x=some .cell\/X.e.kindOf x=some .free)->∃c,X.e.cells.lookup x=some c
 cab:∀x c,X.fn x=true->X.e.cells.lookup x=some c->X.s.heap.objs.size<=c
 hd:X.c=true->X.A.handled=none
 frames:X.A.frames=some X.t
 stk:X.t=X.o\/(X.t=X.e::X.o/\X.e.frame=some X.e.locals)
 exf:∀b∈X.ex,b≠X.e.locals/\∀x c,X.e.cells.lookup x=some c->c≠b
 bs:∀b o,X.ba.get? b=some o->X.s.heap.get? b=some o/\X.h b=none
 bsz:X.ba.objs.size<=X.s.heap.objs.size
 noex:∀b o,X.ba.get? b=some o->b∉X.ex
 exfs:∀b∈X.ex,b∉X.fs
 funs:X.s.heap.FunFrames X.ba X.o
 frf:∀b∈X.fs,X.h b=none
structure Inv(X:Cx)(Zx:Zf)(Z:List<|Option V)(H:Hp)(s:ZD):Prop where
 ok:X.Ok
 os:s.os=X.s.os
 bare:ahc s.gens
 base:Un X.fs X.ex X.h H X.s.heap s.heap
 loc:∃m,s.heap.Ns X.e.locals m/\∀(i:Nat) (x:Str) (v:V),X.N[i]?=some x->Z[i]?=some (some v)->VL X.e.scope x->∃u,RelV v u/\aaT X.e s.heap m x u
 cell:∀x c,X.e.cells.lookup x=some c->∃v,s.heap.IsCell c v
 free:H X.e.locals=none
 freeC:∀x c,X.e.cells.lookup x=some c->H c=none
 pin:∀p∈X.pn++Zx,s.heap.get? p.1=some p.2/\H p.1=none/\p.1≠X.e.locals/\p.1∉X.fs/\∀v,p.2.data ≠ .cell v
 hok:HOk X.p X.w H s.heap
 len:Z.length=X.N.length
section
variable {X:Cx}{Zx:Zf}{Z:List<|Option V}{H H':Hp}{s:ZD}{h':ZH}
def Cx.Ok.nofr(ok:X.Ok) {o:Obj}(e:X.ba.get? b=some o):b∉X.fs:=λhb=>by have:=(ok.funs.mem hb).1;rw[e] at this;ext this
def Inv.bs(I:Inv X Zx Z H s):∀b o,X.ba.get? b=some o->s.heap.get? b=some o/\H b=none:=λb o e=>
 ⟨I.base.keep b o (I.ok.bs b o e).1 (I.ok.bs b o e).2 (I.ok.nofr e)<|I.ok.noex b o e,I.base.free b o (I.ok.bs b o e).1 (I.ok.bs b o e).2<|I.ok.noex b o e⟩
def Inv.bk(I:Inv X Zx Z H s):∀b o,X.ba.get? b=some o->s.heap.get? b=some o:=λb o e=>(I.bs b o e).1
def Inv.mod(I:Inv X Zx Z H s):Mod X.K X.mg X.ba:=I.ok.mod
def Inv.kIn(I:Inv X Zx Z H s):X.K.In s.heap:=I.ok.mod.kin.keeps I.bk
def Inv.lt(I:Inv X Zx Z H s):X.e.locals<s.heap.objs.size:=let ⟨_,hn,_⟩:=I.loc;hn.lt
def Inv.sz(I:Inv X Zx Z H s):X.s.heap.objs.size<=s.heap.objs.size:=aaN I.ok.above<|adq I.lt
def Inv.nofs(I:Inv X Zx Z H s){a:ZB}(h:s.heap.objs.size<=a):a∉X.fs:=λhb=>by let⟨_,o,ho,_⟩:=I.ok.funs.mem hb;show absurd (aaZ (aaw ho)<|aaN I.sz h)<|acb _
def Inv.cne(I:Inv X Zx Z H s):∀x c,X.e.cells.lookup x=some c->c≠X.e.locals:=λx c e z=>by let⟨v,o,ho,hd⟩:=I.cell x c e;let⟨m,⟨o',es,ep,ho',hd',_⟩,_⟩:=I.loc;rw[z,ho'] at ho;ext ho;rw[hd'] at hd;ext hd
def Inv.funs(I:Inv X Zx Z H s):s.heap.FunFrames X.ba X.o:=by
 have all:∀(l:List Env),(∀b∈pF l,b∈X.fs)->X.s.heap.FunFrames X.ba l->s.heap.FunFrames X.ba l:=by
  intro l;induction l with
  |nil=>intro _ _;trivial
  |cons env r ih=>intro hs hl;let⟨hk,⟨L,o,hf,hn,ho,hd⟩,hr⟩:=hl;have hL:L∈X.fs:=hs L (by unfold pF;rw[acZ,hf];show aaJ);let⟨sl,e⟩:=I.base.slot L o ho (I.ok.frf L hL) hL λz=>I.ok.exfs L z hL;show⟨hk,⟨L,_,hf,hn,e,hd⟩,ih (λb hb=>hs b<|by unfold pF;rw[acZ,hf];show aaK _ hb) hr⟩
 show all X.o (λ_ hb=>hb) I.ok.funs
def Inv.stack(I:Inv X Zx Z H s):s.heap.FunFrames X.ba X.t:=by
 rcases I.ok.stk with e|⟨e,hf⟩
 .rw[e];show I.funs
 .rw[e];let⟨m,hn,_⟩:=I.loc;split .cons (by rw[I.ok.kind];decide) hf hn ?_ I.funs;show Heap.get?_none_of_le<|aaN I.ok.bsz I.ok.above
def Inv.stkSub(I:Inv X Zx Z H s):∀b∈pF X.t,b∈X.e.locals::X.fs:=λb hb=>by
 rcases I.ok.stk with e|⟨e,hf⟩
 .rw[e] at hb;show aaK _ hb
 .rw[e] at hb;unfold pF at hb;rw[acZ,hf] at hb;show hb
def Inv.stkFree(I:Inv X Zx Z H s):∀b∈pF X.t,H b=none:=λb hb=>by
 rcases aau.1 (I.stkSub b hb) with e|hb
 .rw[e];show I.free
 .let⟨_,o,ho,_⟩:=I.ok.funs.mem hb;show I.base.free b o ho (I.ok.frf b hb) λz=>I.ok.exfs b z hb
def Inv.step{t':Nat}{d':Drawn}{ch:Zk}(I:Inv X Zx Z H s)
  (hch:∀b∈ch,(b∈X.ex\/X.s.heap.objs.size<=b)/\b≠X.e.locals/\(∀x c,X.e.cells.lookup x=some c->c≠b)/\∀p∈X.pn++Zx,p.1≠b)
  (keep:∀b o,b≠X.e.locals->b∉X.fs->b∉ch->s.heap.get? b=some o->H b=none->h'.get? b=some o)
  (slot:∀b o,b≠X.e.locals->b∈X.fs->b∉ch->s.heap.get? b=some o->H b=none->∃sl,h'.get? b=some { o with slots:=sl }) (free:∀b o,b∉ch->s.heap.get? b=some o->H b=none->H' b=none)
  (there:∀b o,b∉ch->s.heap.get? b=some o->∃o',h'.get? b=some o')
  (tups:∀b xs,H b=some (.T xs)->H' b=some (.T xs)) (frzs:∀b o u,H b=some (.frz o u)->H' b=some (.frz o u)) (tbls:∀b ps,H b=some (.tbl ps)->∃more,H' b=some (.tbl<|ps++more))
  (ns:∀m,s.heap.Ns X.e.locals m->h'.Ns X.e.locals m) (hok:HOk X.p X.w H' h') (hg:ahc g') :
  Inv X Zx Z H' { s with heap:=h',gens:=g',drawn:=d',toks:=t' }:=by
 have neL:∀b o,X.s.heap.get? b=some o->b≠X.e.locals:=λb o e=>aaC<|aaZ (aaw e) I.ok.above;have neC:∀b o,X.s.heap.get? b=some o->b∉X.ex->b∉ch:=λb o e hx hb=>by
  rcases (hch b hb).1 with z|z
  .exact hx z
  .exact absurd (aaZ (aaw e) z)<|acb _
 have cellK:∀x c,X.e.cells.lookup x=some c->∀v,s.heap.IsCell c v->h'.IsCell c v:=λx c e v hpt0=>by
  let⟨o,ho,hd⟩:=hpt0;have nch:c∉ch:=λz=>(hch c z).2.2.1 x c e rfl;by_cases hc:c∈X.fs
  .let⟨sl,q⟩:=slot c o (I.cne x c e) hc nch ho<|I.freeC x c e;show⟨_,q,hd⟩
  .exact⟨o,keep c o (I.cne x c e) hc nch ho<|I.freeC x c e,hd⟩
 split⟨I.ok,I.os,hg,⟨λb o e n hb hx=>?_,λb o e n hb hx=>?_,λb o e n hx=>?_,λb o e hx=>?_,λb xs e=>tups b xs<|I.base.tups b xs e,λb o xs e=>frzs b o xs<|I.base.frzs b o xs e,λb ps e=>?_⟩,?_,λx c e=>?_,?_,λx c e=>?_,λp hp=>?_,hok,I.len⟩
 .exact keep b o (neL b o e) hb (neC b o e hx) (I.base.keep b o e n hb hx)<|I.base.free b o e n hx
 .let⟨sl,e1⟩:=I.base.slot b o e n hb hx;let⟨sl',e2⟩:=slot b _ (neL b o e) hb (neC b o e hx) e1<|I.base.free b o e n hx;show⟨sl',e2⟩
 .let⟨o',e1⟩:=I.base.there b o e hx;show free b o' (neC b o e hx) e1<|I.base.free b o e n hx
 .let⟨o',e1⟩:=I.base.there b o e hx;show there b o' (neC b o e hx) e1
 .let⟨m1,e1⟩:=I.base.tbls b ps e;let⟨m2,e2⟩:=tbls b _ e1;show⟨m1++m2,#v[e2,Array.append_assoc]⟩
 .let⟨m,hn,hl⟩:=I.loc;split⟨m,ns m hn,λi x v e1 e2 e3=>?_⟩;let⟨u,r,l⟩:=hl i x v e1 e2 e3;split⟨u,r,?_⟩;rcases l with l|⟨k,c,e,z⟩
  .exact .inl l
  .exact .inr ⟨k,c,e,cellK x c e _ z⟩
 .let⟨v,z⟩:=I.cell x c e;show⟨v,cellK x c e v z⟩
 .let⟨m,⟨o,_,_,ho,_⟩,_⟩:=I.loc;show free _ o (λz=>(hch _ z).2.1 rfl) ho I.free
 .let⟨v,o,ho,hd⟩:=I.cell x c e;show free c o (λz=>(hch c z).2.2.1 x c e rfl) ho<|I.freeC x c e
 .let⟨e,n,ne,nf,d⟩:=I.pin p hp;have nch:p.1∉ch:=λz=>(hch p.1 z).2.2.2 p hp rfl;show⟨keep p.1 p.2 ne nf nch e n,free p.1 p.2 nch e n,ne,nf,d⟩
def Inv.un{t':Nat}(I:Inv X Zx Z H s)(u:Un X.fs [] H H' s.heap h')(hok:HOk X.p X.w H' h'):Inv X Zx Z H' { s with heap:=h',toks:=t' }:=by
 let⟨m,⟨o,es,ep,ho,r⟩,_⟩:=id I.loc;let⟨sl,hL⟩:=u.any ho I.free (by simp);show I.step (g':=s.gens) (d':=s.drawn) (ch:=[]) (λ_ z=>nomatch z) (λb o _ hb _ e n=>u.keep b o e n hb<|by simp) (λb o _ hb _ e n=>u.slot b o e n hb<|by simp) (λb o _ e n=>u.free b o e n<|by simp) (λb o _ e=>u.there b o e<|by simp) u.tups u.frzs u.tbls (λm' hm=>by
  let⟨o',es',ep',ho',r'⟩:=hm;rw[ho] at ho';ext ho'
  show⟨_,es',ep',hL,r'⟩) hok I.bare
def Inv.call{t':Nat}{d':Drawn} (I:Inv X Zx Z H s)(u:Un (pF X.t) ch H H' s.heap h')(hok:HOk X.p X.w H' h')(hg:ahc g')
  (hch:∀b∈ch,(b∈X.ex\/X.s.heap.objs.size<=b)/\b≠X.e.locals/\(∀x c,X.e.cells.lookup x=some c->c≠b)/\∀p∈X.pn++Zx,p.1≠b) :
  Inv X Zx Z H' { s with heap:=h',gens:=g',drawn:=d',toks:=t' }:=by
 let⟨m,⟨o,es,ep,ho,r⟩,_⟩:=id I.loc;let⟨sl,hL⟩:=u.any ho I.free λz=>(hch _ z).2.1 rfl;show I.step (ch:=ch) hch (λb o hL hb hc e n=>u.keep b o e n (λz=>(aau.1<|I.stkSub b z).elim hL hb) hc) (λb o _ _ hc e n=>u.any e n hc) (λb o hc e n=>u.free b o e n hc) (λb o hc e=>u.there b o e hc) u.tups u.frzs u.tbls (λm' hm=>by
  let⟨o',es',ep',ho',r'⟩:=hm;rw[ho] at ho';ext ho'
  show⟨_,es',ep',hL,r'⟩) hok hg
def Inv.turned{t':Nat}{it:ZB}(I:Inv X Zx Z H s)(k:∀b o,b≠it->s.heap.get? b=some o->h'.get? b=some o)(hn:H it=none)(hL:it≠X.e.locals)
  (h1:it∈X.ex\/X.s.heap.objs.size<=it) (h2:∀x c,X.e.cells.lookup x=some c->c≠it) (h3:∀p∈X.pn++Zx,p.1≠it):Inv X Zx Z H { s with heap:=h',toks:=t' }:=by
 have nit:∀b u,H b=some u->b≠it:=λb u e z=>by rw[z,hn] at e;ext e
 split I.step (g':=s.gens) (d':=s.drawn) (ch:=[it]) (λb hb=>?_) (λb o _ _ hc e _=>k b o (λz=>hc<|by simp[z]) e) (λb o _ _ hc e _=>⟨o.slots,k b o (λz=>hc<|by simp[z]) e⟩) (λ_ _ _ _ n=>n)
  (λb o hc e=>⟨o,k b o (λz=>hc<|by simp[z]) e⟩) (λ_ _ e=>e) (λ_ _ _ e=>e) (λb ps e=>⟨#[],by rw[e];simp⟩) (λm hm=>?_) (λb u e=>?_) I.bare
 .have e:b=it:=by simpa using hb
  subst e;show⟨h1,hL,h2,h3⟩
 .let⟨o,es,ep,ho,r⟩:=hm;show⟨o,es,ep,k _ o (aaI hL) ho,r⟩
 .refine (I.hok b u e).stay (λc v hc q=>k c v ?_ q) (λ_ q=>q) λ_ _ q=>q;rcases hc with z|z
  .rw[z];show nit b u e
  .exact nit c _ z
def Inv.tok(I:Inv X Zx Z H s)(t:Nat):Inv X Zx Z H { s with toks:=t }:=I.un (h':=s.heap) (t':=t) Un.refl I.hok
def Inv.kept{t':Nat}(I:Inv X Zx Z H s)(k:∀b u,s.heap.get? b=some u->h'.get? b=some u):Inv X Zx Z H { s with heap:=h',toks:=t' }:=I.un (Un.kept k)<|I.hok.kept k
def Inv.laid{a:ZB} {t':Nat}(I:Inv X Zx Z H s)(k:∀b u,s.heap.get? b=some u->h'.get? b=some u)(hp:s.heap.objs.size<=a)(new:ObjOk X.p X.w (upd H a o) h' a o) :
  Inv X Zx Z (upd H a o) { s with heap:=h',toks:=t' }:=I.un (Un.laid k hp<|I.hok.fresh hp)<|I.hok.laid k hp new
def Inv.write{e:ZB} {t':Nat}(I:Inv X Zx Z H s)(mu:VC<|H x)(he:e=x\/H e=some (.own x))(k:∀b u,b≠e->s.heap.get? b=some u->h'.get? b=some u)(heo:∃u,h'.get? e=some u)
  (new:ObjOk X.p X.w (upd H x o) h' x o):Inv X Zx Z (upd H x o) { s with heap:=h',toks:=t' }:=I.un (Un.write mu he k heo)<|I.hok.write mu he k heo new
def Inv.weak{Z':List<|Option V}(I:Inv X Zx Z H s)(hl:Z'.length=Z.length)(w:∀(i:Nat) v,Z'[i]?=some (some v)->Z[i]?=some (some v)):Inv X Zx Z' H s:=
 ⟨I.ok,I.os,I.bare,I.base,let ⟨m,hn,hl'⟩:=I.loc;⟨m,hn,λi x v e1 e2 e3=>hl' i x v e1 (w i v e2) e3⟩,I.cell,I.free,I.freeC,I.pin,I.hok,hl.trans I.len⟩
def Inv.pins_of{pins':Zf}(I:Inv X Zx Z H s)(h:∀p∈pins',s.heap.get? p.1=some p.2/\H p.1=none/\p.1≠X.e.locals/\p.1∉X.fs/\∀v,p.2.data ≠ .cell v):Inv X pins' Z H s:=
 ⟨I.ok,I.os,I.bare,I.base,I.loc,I.cell,I.free,I.freeC,λp hp=>(ab1.1 hp).elim (λz=>I.pin p<|aev _ z)<|h p,I.hok,I.len⟩
def rZ{N:Zl}(hN:N.Nodup){i j:Nat}{x:Str}(a:N[i]?=some x)(b:N[j]?=some x):i=j:=by let⟨h1,e1⟩:=aa0.1 a;let⟨h2,e2⟩:=aa0.1 b;show (aj9 hN).mp<|e1.trans e2.symm
def Fl{i:Nat}{x:Str} {Q:Unit->ZD->Prop}(I:Inv X Zx Z H s)(hN:X.N.Nodup)(hi:X.N[i]?=some x)(hx:N4 X.e.scope x)(r:RelV v u)
  (h:∀s',Inv X Zx (Z.set i<|some v) H s'->(∃a,ahA a s.heap s'.heap/\(a=X.e.locals\/X.e.cells.lookup x=some a))->Q Unit.unit s') (hf:X.fn x=true\/X.e.scope.names.lookup x=some .local:=by first|show .inl rfl|show .inr rfl|assumption):ZG M A (ai0 X.e x u) Q E s:=by
 let⟨m,hn,hl⟩:=id I.loc;have hcls:(X.e.scope.kind == .class || (X.e.scope.kind == .module&&X.e.locals != X.e.globals))=false:=by rw[I.ok.kind];rfl
 have hiZ:i<Z.length:=by rw[I.len];show (aa0.1 hi).1
 have cne:=I.cne;have tracked:∀ {a:ZB} {h':ZH},(∃o,s.heap.get? a=some o/\H a=none)->ahA a s.heap h'->HOk X.p X.w H h':=λ{a h'} ha hs b ob e=>by
  let⟨_,_,hfree⟩:=ha;split (I.hok b ob e).stay (λc w' hc q=>(hs.2 c ?_).trans q) (λ_ q=>q) λ_ _ q=>q;rintro rfl;rcases hc with rfl|hc
  .rw[hfree] at e;ext e
  .rw[hfree] at hc;ext hc
 rcases hx with hk|hk
 .refine aft hk hn (λh' hn' hs=>?_) hcls;let⟨oL,_,_,hoL,_⟩:=id hn;split h _ ⟨I.ok,I.os,I.bare,⟨λb o e n hb hx=>?_,λb o e n hb hx=>?_,I.base.free,λb o e hx=>?_,I.base.tups,I.base.frzs,I.base.tbls⟩,⟨_,hn',λj y v' e1 e2 e3=>?_⟩,λy c e=>?_,I.free,I.freeC,λp hp=>?_,tracked ⟨oL,hoL,I.free⟩ hs,~~~I.len⟩ ⟨_,hs,.inl rfl⟩
  .exact (hs.2 b<|aaC<|aaZ (aaw e) I.ok.above).trans<|I.base.keep b o e n hb hx
  .let⟨sl,e1⟩:=I.base.slot b o e n hb hx;show⟨sl,(hs.2 b<|aaC<|aaZ (aaw e) I.ok.above).trans e1⟩
  .let⟨o',e1⟩:=I.base.there b o e hx;show⟨o',(hs.2 b<|aaC<|aaZ (aaw e) I.ok.above).trans e1⟩
  .by_cases hj:j=i
   .subst hj;rw[hi] at e1;ext e1;rw[acf hiZ] at e2;ext e2;show⟨u,r,.inl ⟨hk,by simp⟩⟩
   .rw[aav<|aaI hj] at e2;let⟨u',r',q⟩:=hl j y v' e1 e2 e3;split⟨u',r',?_⟩;rcases q with ⟨k,e⟩|⟨k,c,e,z⟩
    .refine .inl ⟨k,?_⟩;have:y≠x:=λe=>hj<|rZ hN e1<|e▸hi;simp[this,e]
    .exact .inr ⟨k,c,e,z.sameBut hs<|cne y c e⟩
  .let⟨w',z⟩:=I.cell y c e;show⟨w',z.sameBut hs<|cne y c e⟩
  .let⟨e,n,ne,nf,d⟩:=I.pin p hp;show⟨(hs.2 p.1 ne).trans e,n,ne,nf,d⟩
 .have hfn:X.fn x=true:=by
   rcases hf with z|z
   .exact z
   .rw[z] at hk;ext hk
  let⟨c,hc⟩:=I.ok.has x<|.inl hk;let⟨w',z⟩:=I.cell x c hc;split wpAny_storeName_cell I.ok.kind hk hc z<|λh' hc' hs=>?_;let⟨oc,hoc,hocd⟩:=id z;split h (s.wh h') ⟨I.ok,I.os,I.bare,⟨λb o e n hb hx=>?_,λb o e n hb hx=>?_,I.base.free,λb o e hx=>?_,I.base.tups,I.base.frzs,I.base.tbls⟩,⟨m,hn.sameBut hs<|aaI<|cne x c hc,λj y v' e1 e2 e3=>?_⟩,λy c' e=>?_,I.free,I.freeC,λp hp=>?_,tracked ⟨oc,hoc,I.freeC x c hc⟩ hs,~~~I.len⟩ ⟨c,hs,.inr hc⟩
  .exact (hs.2 b<|aaC<|aaZ (aaw e)<|I.ok.cab x c hfn hc).trans<|I.base.keep b o e n hb hx
  .let⟨sl,e1⟩:=I.base.slot b o e n hb hx;show⟨sl,(hs.2 b<|aaC<|aaZ (aaw e)<|I.ok.cab x c hfn hc).trans e1⟩
  .let⟨o',e1⟩:=I.base.there b o e hx;show⟨o',(hs.2 b<|aaC<|aaZ (aaw e)<|I.ok.cab x c hfn hc).trans e1⟩
  .by_cases hj:j=i
   .subst hj;rw[hi] at e1;ext e1;rw[acf hiZ] at e2;ext e2;show⟨u,r,.inr ⟨.inl hk,c,hc,hc'⟩⟩
   .rw[aav<|aaI hj] at e2;let⟨u',r',q⟩:=hl j y v' e1 e2 e3;split⟨u',r',?_⟩;rcases q with q|⟨k,c',e,z'⟩
    .exact .inl q
    .refine .inr ⟨k,c',e,z'.sameBut hs ?_⟩;rintro rfl;show hj<|rZ hN e1<|I.ok.inj _ _ _ e hc▸hi
  .by_cases hcc:c'=c
   .subst hcc;show⟨_,hc'⟩
   .let⟨w2,z2⟩:=I.cell y c' e;show⟨w2,z2.sameBut hs hcc⟩
  .let⟨e,n,ne,nf,d⟩:=I.pin p hp;split⟨(hs.2 p.1 ?_).trans e,n,ne,nf,d⟩;intro q;rw[q,hoc] at e;have q':oc=p.2:=abb e;show d w' (by rw[<-q'];show hocd)
def nM{M:ahP}{A:ZP}{E:Ze}{i:Nat}{x:Str}{v:V}{u:ZE}{Q:Unit->ZD->Prop}(I:Inv X Zx Z H s)(hN:X.N.Nodup)(hi:X.N[i]?=some x)(hx:N4 X.e.scope x)(r:RelV v u)
  (h:∀s',Inv X Zx (Z.set i<|some v) H s'->Q Unit.unit s') (hf:X.fn x=true\/X.e.scope.names.lookup x=some .local:=by first|show .inl rfl|show .inr rfl|assumption):ZG M A (ai0 X.e x u) Q E s:=
 Fl I hN hi hx r (λs' I' _=>h s' I') hf
def Inv.call'{s':ZD} (I:Inv X Zx Z H s)(ho:s'.os=s.os)(u:Un (pF X.t) ch H H' s.heap s'.heap)(hok:HOk X.p X.w H' s'.heap)(hg:ahc s'.gens)
  (hch:∀b∈ch,(b∈X.ex\/X.s.heap.objs.size<=b)/\b≠X.e.locals/\(∀x c,X.e.cells.lookup x=some c->c≠b)/\∀p∈X.pn++Zx,p.1≠b):Inv X Zx Z H' s':=by
 let⟨h',g',d',t',o'⟩:=s';have e:o'=s.os:=ho;subst e;show I.call (g':=g') (t':=t') (d':=d') u hok hg hch
end
abbrev XK:=ZE->Option ZB->Hp->Prop
abbrev St:=List<|Option V
abbrev VK:=V->Hp->Prop
abbrev TE:=St->Hp->VK->Prop
abbrev TT:=St->Hp->(Bool->Hp->Prop)->Prop
abbrev TA:=St->Hp->(Za->Hp->Prop)->Prop
structure Ends where
 nx:St->Hp->Prop
 rt:VK
 bk:St->Hp->Prop:=λ_ _=>False
 ct:St->Hp->Prop:=λ_ _=>False
abbrev TS:=Ends->St->Hp->Prop
def EP(X:Cx)(Zx:Zf)(Z:St)(Q:VK)(u:ZE)(s':ZD):Prop:=∃v H',Inv X Zx Z H' s'/\RelV v u/\Q v H'
def TP(X:Cx)(Zx:Zf)(Z:St)(Q:Bool->Hp->Prop)(b:Bool)(s':ZD):Prop:=∃H',Inv X Zx Z H' s'/\Q b H'
def AP(X:Cx)(Zx:Zf)(Z:St)(Q:Za->Hp->Prop)(us:Zh)(s':ZD):Prop:=∃vs H',Inv X Zx Z H' s'/\Vals vs us/\Q vs H'
def SP(X:Cx)(Zx:Zf)(D:Ends)(f:Flow)(s':ZD):Prop:=
 match f with
 |.next=>∃Z' H',Inv X Zx Z' H' s'/\D.nx Z' H'
 |.brk=>∃Z' H',Inv X Zx Z' H' s'/\D.bk Z' H'
 |.cont=>∃Z' H',Inv X Zx Z' H' s'/\D.ct Z' H'
 |.ret u=>∃v Z' H',Inv X Zx Z' H' s'/\RelV v u/\D.rt v H'
def PE(X:Cx)(e:ZA)(t:TE):Prop:=
 ∀(Zx:Zf) (s:ZD) (Z:St) (H:Hp) (Q:VK),Inv X Zx Z H s->t Z H Q->wX X (ZN e X.e) (EP X Zx Z Q) X.xe s
def PT(X:Cx)(e:ZA)(t:TT):Prop:=
 ∀(Zx:Zf) (s:ZD) (Z:St) (H:Hp) (Q:Bool->Hp->Prop),Inv X Zx Z H s->t Z H Q->wX X (aib e X.e<|eval e X.e) (TP X Zx Z Q) X.xe s
def PW(X:Cx)(e:ZA)(t:TT):Prop:=
 ∀(whole:Sem ZE) (Zx:Zf) (s:ZD) (Z:St) (H:Hp) (Q:Bool->Hp->Prop),Inv X Zx Z H s->t Z H Q->wX X (aib e X.e whole) (TP X Zx Z Q) X.xe s
def PW.pt{X:Cx}{e:ZA}{t:TT}(h:PW X e t):PT X e t:=h _
def PA(X:Cx)(es:List ZA)(t:TA):Prop:=
 ∀(pos:Pos) (Zx:Zf) (s:ZD) (Z:St) (H:Hp) (Q:Za->Hp->Prop),Inv X Zx Z H s->t Z H Q->wX X (spliced<|backTo pos<|starEach es X.e) (AP X Zx Z Q) X.xe s
def PS(X:Cx)(st:ZM)(t:TS):Prop:=
 ∀(Zx:Zf) (s:ZD) (Z:St) (H:Hp) (D:Ends),Inv X Zx Z H s->t D Z H->wX X (exec st X.e) (SP X Zx D) X.xe s
def PSs(X:Cx)(st:List ZM)(t:TS):Prop:=
 ∀(Zx:Zf) (s:ZD) (Z:St) (H:Hp) (D:Ends),Inv X Zx Z H s->t D Z H->wX X (execs st X.e) (SP X Zx D) X.xe s
def bz{O:Type}{t:Sem O}{Q Q':O->ZD->Prop}{M:ahP}{A:ZP}{E:Ze}{s:ZD}(h:ZG M A t Q E s)(hQ:∀a s,Q a s->Q' a s):ZG M A t Q' E s:=aaO h hQ λ_ _ x=>x
section
variable {X:Cx}
def Fo(i:Nat):TE:=λZ H Q=>∃v,Z[i]?=some (some v)/\Q v H
def tC(v:V):TE:=λ_ H Q=>Q v H
def Iw{i:Nat}{x:Str}{pos:Pos}(hN:X.N[i]?=some x)(hv:VL X.e.scope x)(hd:(x==("__debug__" : Str))=false:=by decide) (hcd:(x==("__classdict__" : Str))=false:=by decide):PE X (.Name x pos)<|Fo i:=by
 intro Zx s Z H Q I h;let⟨v,e,h⟩:=h;let⟨m,hn,hl⟩:=I.loc;let⟨u,r,l⟩:=hl i x v hN e hv;have fin:EP X Zx Z Q u s:=⟨v,H,I,r,h⟩
 rcases l with ⟨hk,hm⟩|⟨hk,c,hc,hcell⟩
 .exact aew (afu I.ok.kind hk hn hm fin) hd
 .rcases hk with hk|hk
  .exact aew (afv I.ok.kind hk hc hcell fin) hd
  .exact aew (wpAny_loadName_free I.ok.kind hk hc hcell fin hcd) hd
def SB{i j pos}:PE X (.Constant (.int i) j pos)<|tC (.int i):=λ_ _ _ H _ I h=>wpAny_Constant_int ⟨.int i,H,I.tok _,⟨_,rfl⟩,h⟩
def Xg{b j pos}:PE X (.Constant (.bool b) j pos)<|tC (.B b):=λ_ _ _ H _ I h=>Constant_bool ⟨.B b,H,I,rfl,h⟩
def SF{j pos}:PE X (.Constant .none j pos)<|tC .N:=λ_ _ _ H _ I h=>Constant_none ⟨.N,H,I,rfl,h⟩
def Iu{x j pos}:PE X (.Constant (.str x) j pos)<|tC (.str x):=λ_ _ _ H _ I h=>afw ⟨.str x,H,I.tok _,⟨_,rfl⟩,h⟩
def Gl(X:Cx)(x:Str):Prop:=X.e.kindOf x=some .globalImplicit
def fA{Zx:Zf} {u:ZE}{pos:Pos}{Q:Ze}(I:Inv X Zx Z H s)(hg:Gl X x)(hm:X.mg x=some u)(h:Q u s)
  (hd:(x==("__debug__" : Str))=false:=by decide):wX X (ZN (.Name x pos) X.e) Q E s:=
 afx I.ok.kind hg (Calls.loadGlobal_global (by rw[I.ok.glob];show I.mod.glob.keeps I.bk) hm h) hd
def j7{E:Ze}{Zx:Zf}{s:ZD}{Z:St}{H:Hp}{x:Str}{u:ZE}{pos:Pos}{Q:Ze}(I:Inv X Zx Z H s)(hg:Gl X x)(hm:X.mg x=none)(hv:agz x=some u)(h:Q u s)
  (hn:x ≠ "__name__" := by decide) (hd:(x==("__debug__" : Str))=false:=by decide):wX X (ZN (.Name x pos) X.e) Q E s:=by
 let⟨mb,h1,h2⟩:=I.mod.blt;show afx I.ok.kind hg (Calls.loadGlobal_builtin (by rw[I.ok.glob];show I.mod.glob.keeps I.bk) hm (by rw[I.ok.blt];show h1.keeps I.bk) ((h2 x hn).trans hv) h) hd
def ww{u:ZE}{pos:Pos}(hg:Gl X x)(hm:X.mg x=some u)(r:RelV v u)(hd:(x==("__debug__" : Str))=false:=by decide):PE X (.Name x pos)<|tC v:=
 λ_ _ _ H _ I h=>fA I hg hm ⟨v,H,I,r,h⟩ hd
def CA{u:ZE}{pos:Pos}(hg:Gl X x)(hm:X.mg x=none)(hv:agz x=some u)(r:RelV v u)(hn:x ≠ "__name__" := by decide) (hd:(x==("__debug__" : Str))=false:=by decide):PE X (.Name x pos)<|tC v:=
 λ_ _ _ H _ I h=>j7 I hg hm hv ⟨v,H,I,r,h⟩ hn hd
variable {a b:ZA}{ta tb:TE}{pos:Pos}
def PC(X:Cx)(op:ahB)(a b:ZA)(t:TE):Prop:=
 ∀(Zx:Zf) (s:ZD) (Z:St) (H:Hp) (Q:VK),Inv X Zx Z H s->t Z H Q ->
  wX X (ZN a X.e) (λv s₁=>wX X (ZN b X.e) (λu s₂=>wX X (agH op v u) (EP X Zx Z Q) X.xe s₂) X.xe s₁) X.xe s
def tB(t:TE):TT:=λZ H Q=>t Z H λx H1=>∃c,x=.B c/\Q c H1
def Sz(h:PC X op a b t)(h1:ai1 op b=false:=by first|show nobehind _ ⋯ ⋯|rfl):PE X (.Compare a [op] [b] pos) t:=λZx s Z H Q I hw=>wpAny_Compare1 (h Zx s Z H Q I hw) h1
def Td{op:ahB}{t:TE}(h:PC X op a b t)(h1:ai1 op b=false:=by first|show nobehind _ ⋯ ⋯|rfl):PT X (.Compare a [op] [b] pos)<|tB t:=by intro Zx s Z H Q I hw;split wpAny_isTrue_Compare1 (bz (h Zx s Z H _ I hw) λv s1 h1=>bz h1 λu s2 h2=>bz h2 λc s3 Zy=>?_) h1;let⟨x,H1,I1,r1,q1⟩:=Zy;let⟨d,rfl,q⟩:=q1;ext r1;show acz ⟨H1,I1,q⟩
variable {tA tB':TT}{rest:List ZA}
def YR(t u:TT):TT:=λZ H Q=>t Z H λc H1=>if c=true then u Z H1 Q else Q false H1
def tOr(t u:TT):TT:=λZ H Q=>t Z H λc H1=>if c=true then Q true H1 else u Z H1 Q
def YW(t:TT):TT:=λZ H Q=>t Z H λc H1=>Q (!c) H1
def Nb(ha:PT X a tA):PW X (.BoolOp .And [a] pos) tA:=by
 intro wh Zx s Z H Q I h;split isTrue_and<|bz (ha Zx s Z H Q I h) λc s1 e=>?_;cases c with
 |true=>show isTrue_and_nil e
 |false=>show e
def Tj(ha:PT X a tA):PW X (.BoolOp .Or [a] pos) tA:=by
 intro wh Zx s Z H Q I h;split isTrue_or<|bz (ha Zx s Z H Q I h) λc s1 e=>?_;cases c with
 |false=>show isTrue_or_nil e
 |true=>show e
def Th(ha:PT X a tA)(hb:PW X (.BoolOp .And (b::rest) pos) tB'):PW X (.BoolOp .And (a::b::rest) pos)<|YR tA tB':=by
 intro wh Zx s Z H Q I h;split isTrue_and<|bz (ha Zx s Z H _ I h) λc s1 Zy=>?_;let⟨H1,I1,q1⟩:=Zy;cases c with
 |true=>show hb wh Zx s1 Z H1 Q I1 q1
 |false=>show⟨H1,I1,q1⟩
def Xq(ha:PT X a tA)(hb:PW X (.BoolOp .Or (b::rest) pos) tB'):PW X (.BoolOp .Or (a::b::rest) pos)<|tOr tA tB':=by
 intro wh Zx s Z H Q I h;split isTrue_or<|bz (ha Zx s Z H _ I h) λc s1 Zy=>?_;let⟨H1,I1,q1⟩:=Zy;cases c with
 |true=>show⟨H1,I1,q1⟩
 |false=>show hb wh Zx s1 Z H1 Q I1 q1
def Tf(ha:PT X a tA):PT X (.UnaryOp .Not a pos)<|YW tA:=by intro Zx s Z H Q I h;show isTrue_not<|ha Zx s Z H (λc H1=>Q (!c) H1) I h
def PL(ta tb:TE):TE:=λZ H Q=>ta Z H λx H1=>∃c,x=.B c/\if c=true then tb Z H1 Q else Q (.B false) H1
def YX(ta tb:TE):TE:=λZ H Q=>ta Z H λx H1=>∃c,x=.B c/\if c=true then Q (.B true) H1 else tb Z H1 Q
def PQ(ta:TE):TE:=λZ H Q=>ta Z H λx H1=>∃c,x=.B c/\Q (.B<|!c) H1
def SK{op} (h:PE X a t):PE X (.BoolOp op [a] pos) t:=λZx s Z H Q I hw=>BoolOp_one<|h Zx s Z H Q I hw
def Sx(ha:PE X a ta)(hb:PE X (.BoolOp .And (b::rest) pos) tb):PE X (.BoolOp .And (a::b::rest) pos)<|PL ta tb:=by
 intro Zx s Z H Q I h;split BoolOp_and<|bz (ha Zx s Z H _ I h) λv s1 Zy=>?_;let⟨x,H1,I1,r1,q1⟩:=Zy;let⟨c,rfl,q1⟩:=q1;ext r1;split acz ?_;cases c with
 |true=>show hb Zx s1 Z H1 Q I1 q1
 |false=>show⟨.B false,H1,I1,rfl,q1⟩
def Xm(ha:PE X a ta)(hb:PE X (.BoolOp .Or (b::rest) pos) tb):PE X (.BoolOp .Or (a::b::rest) pos)<|YX ta tb:=by
 intro Zx s Z H Q I h;split BoolOp_or<|bz (ha Zx s Z H _ I h) λv s1 Zy=>?_;let⟨x,H1,I1,r1,q1⟩:=Zy;let⟨c,rfl,q1⟩:=q1;ext r1;split acz ?_;cases c with
 |false=>show hb Zx s1 Z H1 Q I1 q1
 |true=>show⟨.B true,H1,I1,rfl,q1⟩
def SH(ha:PE X a ta):PE X (.UnaryOp .Not a pos)<|PQ ta:=by intro Zx s Z H Q I h;split UnaryOp_<|bz (ha Zx s Z H _ I h) λv s1 Zy=>?_;let⟨x,H1,I1,r1,q1⟩:=Zy;let⟨c,rfl,q1⟩:=q1;ext r1;show not_of<|acz ⟨.B<|!c,H1,I1,rfl,q1⟩
def tIf(t:TT)(ta tb:TE):TE:=λZ H Q=>t Z H λc H1=>if c=true then ta Z H1 Q else tb Z H1 Q
def Ij{c:ZA}(hc:PT X c tA)(ha:PE X a ta)(hb:PE X b tb):PE X (.IfExp c a b pos)<|tIf tA ta tb:=by
 intro Zx s Z H Q I h;split wpAny_IfExp<|bz (hc Zx s Z H _ I h) λd s1 Zy=>?_;let⟨H1,I1,q1⟩:=Zy;cases d with
 |true=>show ha Zx s1 Z H1 Q I1 q1
 |false=>show hb Zx s1 Z H1 Q I1 q1
end
def SqL(K:Zj)(H:Hp)(a:ZB)(xs:Za):Prop:=
 Rd H a (.L xs) \/
  ∃(o:Obj) (its:Array ZE) (n:Nat),K.lookup a=some o/\o.cls=.type "list" /\ o.dict=none/\o.data=.seq its n/\its.size<=ZF/\Vals xs its.toList
def SqT(K:Zj)(H:Hp)(a:ZB)(xs:Za):Prop:=
 Rd H a (.T xs) \/
  ∃(o:Obj) (its:Array ZE) (n:Nat),K.lookup a=some o/\o.cls=.type "tuple" /\ o.data=.seq its n/\its.size<=ZF/\Vals xs its.toList
def aaY:ZE->Option V
 |.none=>some .N
 |.bool b=>some<|.B b
 |.int i _=>some<|.int i
 |.str x _=>some<|.str x
 |.bytes b _=>some<|.byt b
 |.float b _=>some<|.flt b
 |.ref a=>some<|.ref a
 |.type n=>some<|.ty n
 |_=>none
def RelV.abs(r:RelV x u):aaY u=some x:=by
 cases x with
 |N=>ext r;rfl
 |B _=>ext r;rfl
 |int _=>let⟨t,rfl⟩:=r;rfl
 |str _=>let⟨t,rfl⟩:=r;rfl
 |byt _=>let⟨t,rfl⟩:=r;rfl
 |flt _=>let⟨t,rfl⟩:=r;rfl
 |ref _=>ext r;rfl
 |ty _=>ext r;rfl
def RelV.inj(r:RelV x u)(q:RelV y u):x=y:=abb<|r.abs.symm.trans q.abs
def Vals.inj{xs ys:Za}{us:Zh}(h:Vals xs us)(k:Vals ys us):xs=ys:=by
 induction h generalizing ys with
 |nil=>ext k;rfl
 |cons r t ih=>
  cases k with
  |cons r' t'=>rw[r.inj r',ih t']
section
variable {X:Cx}{Zx:Zf}{Z:St}{H:Hp}{s:ZD}{a:ZB}{xs ys:Za}
def SqL.of{K:Zj}(h:H a=some (.L xs)):SqL K H a xs:=.inl<|.inl h
def SqT.of{K:Zj}(h:H a=some (.T xs)):SqT K H a xs:=.inl<|.inl h
def Inv.list(I:Inv X Zx Z H s)(h:SqL X.K H a xs):∃its:Zh,Vals xs its/\PlainL s.heap a its.toArray/\xs.length<=ZF:=by
 rcases h with h|⟨o,its,n,hk,hc,hd,hs,hz,r⟩
 .let⟨z,its,n,r,e⟩:=h.ok I.hok;show⟨its,r,⟨_,n,e,rfl,rfl,rfl⟩,z⟩
 .refine⟨its.toList,r,⟨o,n,I.kIn a o hk,hc,hd,~~~hs⟩,?_⟩;have e:=r.length;simp only[adZ] at e;lia
def Inv.tuple(I:Inv X Zx Z H s)(h:SqT X.K H a xs):∃its:Zh,Vals xs its/\ahe s.heap a its.toArray/\xs.length<=ZF:=by
 rcases h with h|⟨o,its,n,hk,hc,hs,hz,r⟩
 .let⟨z,its,r,p⟩:=h.ok I.hok;show⟨its,r,p.tup,z⟩
 .refine⟨its.toList,r,⟨o,I.kIn a o hk,hc,n,~~~hs⟩,?_⟩;have e:=r.length;simp only[adZ] at e;lia
def Inv.list_inj(I:Inv X Zx Z H s)(h:SqL X.K H a xs)(h':SqL X.K H a ys):xs=ys:=by
 let⟨its,r,⟨o,n,e,_,_,d⟩,_⟩:=I.list h;let⟨its',r',⟨o',n',e',_,_,d'⟩,_⟩:=I.list h';rw[e] at e';ext e';rw[d] at d';injection d' with d1 _
 have:its=its':=by simpa using aaF ajP d1
 subst this;show r.inj r'
def Inv.tuple_inj(I:Inv X Zx Z H s)(h:SqT X.K H a xs)(h':SqT X.K H a ys):xs=ys:=by
 let⟨its,r,⟨o,e,_,n,d⟩,_⟩:=I.tuple h;let⟨its',r',⟨o',e',_,n',d'⟩,_⟩:=I.tuple h';rw[e] at e';ext e';rw[d] at d';injection d' with d1 _
 have:its=its':=by simpa using aaF ajP d1
 subst this;show r.inj r'
end
abbrev Cx.wish(X:Cx)(E:Ze):Cx:={ X with xe:=E }
abbrev Cx.nox(X:Cx):Cx:=X.wish λ_ _=>False
def Cx.Ok.wish{X:Cx}(ok:X.Ok)(E:Ze):(X.wish E).Ok:=
 ⟨ok.mod,ok.kind,ok.glob,ok.blt,ok.above,ok.inj,ok.has,ok.cab,ok.hd,ok.frames,ok.stk,ok.exf,ok.bs,ok.bsz,ok.noex,ok.exfs,ok.funs,ok.frf⟩
def Cx.Ok.unwish{X:Cx}{E:Ze}(ok:(X.wish E).Ok):X.Ok:=
 ⟨ok.mod,ok.kind,ok.glob,ok.blt,ok.above,ok.inj,ok.has,ok.cab,ok.hd,ok.frames,ok.stk,ok.exf,ok.bs,ok.bsz,ok.noex,ok.exfs,ok.funs,ok.frf⟩
section
variable {X:Cx}{Zx:Zf}{Z:St}{H:Hp}{s:ZD}{E:Ze}
def Inv.wish(I:Inv X Zx Z H s)(E:Ze):Inv (X.wish E) Zx Z H s:=⟨I.ok.wish E,I.os,I.bare,I.base,I.loc,I.cell,I.free,I.freeC,I.pin,I.hok,I.len⟩
def Inv.unwish(I:Inv (X.wish E) Zx Z H s):Inv X Zx Z H s:=⟨I.ok.unwish,I.os,I.bare,I.base,I.loc,I.cell,I.free,I.freeC,I.pin,I.hok,I.len⟩
def SP.unwish{s':ZD}(h:SP (X.wish E) Zx D f s'):SP X Zx D f s':=by
 cases f with
 |next=>let⟨Z',H',I,q⟩:=h;show⟨Z',H',I.unwish,q⟩
 |brk=>let⟨Z',H',I,q⟩:=h;show⟨Z',H',I.unwish,q⟩
 |cont=>let⟨Z',H',I,q⟩:=h;show⟨Z',H',I.unwish,q⟩
 |ret u=>let⟨v,Z',H',I,r,q⟩:=h;show⟨v,Z',H',I.unwish,r,q⟩
def PE.nox(h:PE X.nox e t):PE X e t:=λZx s Z H Q I hw=>
 aaO (h Zx s Z H Q (I.wish _) hw) (λ_ _ ⟨v,H',I',r,q⟩=>⟨v,H',I'.unwish,r,q⟩) λ_ _ z=>agy z
def PT.nox(h:PT X.nox e t):PT X e t:=λZx s Z H Q I hw=>
 aaO (h Zx s Z H Q (I.wish _) hw) (λ_ _ ⟨H',I',q⟩=>⟨H',I'.unwish,q⟩) λ_ _ z=>agy z
def PSs.nox{st:List ZM} (h:PSs X.nox st t):PSs X st t:=λZx s Z H D I hw=>
 aaO (h Zx s Z H D (I.wish _) hw) (λ_ _ q=>q.unwish) λ_ _ z=>agy z
end
section
variable {X:Cx}{st:ZM}{rest:List ZM}{t u:TS}{e:ZA}{te:TE}{pos:Pos}
def yN:TS:=λD Z H=>D.nx Z H
def NM(t u:TS):TS:=λD Z H=>t { D with nx:=u D } Z H
def CI:PSs X [] yN:=λ_ _ Z H _ I h=>ac0 ⟨Z,H,I,h⟩
def se(h1:PS X st t)(h2:PSs X rest u):PSs X (st::rest)<|NM t u:=by
 intro Zx s Z H D I h;split aex<|bz (h1 Zx s Z H { D with nx:=u D } I h) λf s1 q=>?_;cases f with
 |next=>
  let⟨Z',H',I',q⟩:=q;show h2 Zx s1 Z' H' D I' q
 |ret v|brk|cont=>show q
def nB(h1:PS X st t):PSs X [st] t:=by
 intro Zx s Z H D I h;split aex<|bz (h1 Zx s Z H D I h) λf s1 q=>?_;cases f with
 |next=>show ac0 q
 |ret v|brk|cont=>show q
def MV:PS X (.Pass pos) yN:=λ_ _ Z H _ I h=>wpAny_Pass ⟨Z,H,I,h⟩
def Inv.quiet{Zx:Zf}{Z:St}{H:Hp}{s:ZD}(I:Inv X Zx Z H s):interactive X.e=false:=by simp[interactive,I.ok.kind]
def Ta{x j pos pos'}:PS X (.Expr (.Constant (.str x) j pos) pos') yN:=λ_ s Z H _ I h=>wpAny_Expr (afw (show SP X _ _ .next { s with toks:=s.toks+1 } from ⟨Z,H,I.tok _,h⟩)) I.quiet
def JH(te:TE):TS:=λD Z H=>te Z H λ_ H1=>D.nx Z H1
def CF(he:PE X e te)(hs:ahM e none pos.line X.e=pure false:=by rfl):PS X (.Expr e pos)<|JH te:=by intro Zx s Z H D I h;show wpAny_Expr_any (bz (he Zx s Z H _ I h) λv s1 ⟨x,H1,I1,r1,q1⟩=>⟨Z,H1,I1,q1⟩) I.quiet hs
def UP(te:TE):TS:=λD Z H=>te Z H D.rt
def IH(he:PE X e te):PS X (.Return (some e) pos)<|UP te:=by intro Zx s Z H D I h;show wpAny_Return_some<|bz (he Zx s Z H _ I h) λv s1 ⟨x,H1,I1,r1,q1⟩=>⟨x,Z,H1,I1,r1,q1⟩
def PU:TS:=λD _ H=>D.rt .N H
def MW:PS X (.Return none pos) PU:=λ_ _ Z H _ I h=>wpAny_Return_none ⟨.N,Z,H,I,rfl,h⟩
def UO(c:TT)(t u:TS):TS:=λD Z H=>c Z H λb H1=>if b=true then t D Z H1 else u D Z H1
def Ph{c:ZA}{a b:List ZM}{tc:TT}(hc:PT X c tc)(ha:PSs X a t)(hb:PSs X b u):PS X (.If c a b pos)<|UO tc t u:=by
 intro Zx s Z H D I h;split wpAny_If<|bz (hc Zx s Z H _ I h) λd s1 Zy=>?_;let⟨H1,I1,q1⟩:=Zy;cases d with
 |true=>show ha Zx s1 Z H1 D I1 q1
 |false=>show hb Zx s1 Z H1 D I1 q1
def JK:TS:=λ_ _ _=>False
def IE:PS X st JK:=λ_ _ _ _ _ _ h=>h.elim
end
abbrev TG:=V->St->Hp->(St->Hp->Prop)->Prop
abbrev Fz:=Za->St->Hp->(St->Hp->Prop)->Prop
def PG(X:Cx)(target:ZA)(t:TG):Prop:=
 ∀(Zx:Zf) (s:ZD) (Z:St) (H:Hp) (v:V) (u:ZE) (Q:St->Hp->Prop),Inv X Zx Z H s->RelV v u->t v Z H Q ->
  wX X (ahW target X.e u) (λ_ s'=>∃Z' H',Inv X Zx Z' H' s'/\Q Z' H') X.xe s
def Vo(X:Cx)(ts:List ZA)(t:Fz):Prop:=
 ∀(Zx:Zf) (s:ZD) (Z:St) (H:Hp) (vs:Za) (us:Zh) (Q:St->Hp->Prop),Inv X Zx Z H s->Vals vs us->t vs Z H Q ->
  wX X (assignInOrder ((ag0 ts X.e).map (·.2)) us) (λ_ s'=>∃Z' H',Inv X Zx Z' H' s'/\Q Z' H') X.xe s
abbrev Qg:=V->V->V->Hp->(Hp->Prop)->Prop
def VF(X:Cx)(t:Qg):Prop:=
 ∀(Zx:Zf) (s:ZD) (Z:St) (H:Hp) (o i v:V) (ov iv u:ZE) (Q:Hp->Prop),Inv X Zx Z H s->RelV o ov->RelV i iv->RelV v u->t o i v H Q ->
  wX X (ait ov iv u) (λ_ s'=>∃H',Inv X Zx Z H' s'/\Q H') X.xe s
abbrev TIp:=V->V->Hp->VK->Prop
def PIp(X:Cx)(op:ah5)(t:TIp):Prop:=
 ∀(Zx:Zf) (s:ZD) (Z:St) (H:Hp) (x y:V) (v u:ZE) (Q:VK),Inv X Zx Z H s->RelV x v->RelV y u->t x y H Q ->
  wX X (inplaceOp op v u) (EP X Zx Z Q) X.xe s
section
variable {X:Cx}{pos:Pos}
def hU(i:Nat):TG:=λv Z H Q=>Q (Z.set i<|some v) H
def CC{i:Nat}{x:Str}(hN:X.N.Nodup)(hi:X.N[i]?=some x)(hx:N4 X.e.scope x)(hf:X.fn x=true\/X.e.scope.names.lookup x=some .local:=by first|show .inl rfl|show .inr rfl|assumption):PG X (.Name x pos)<|hU i:=by intro Zx s Z H v u Q I r h;show wpAny_assign_Name<|nM I hN hi hx r (λs' I'=>⟨_,H,I',h⟩) hf
def LL:Fz:=λvs Z H Q=>vs=[]/\Q Z H
def Ca(t:TG)(u:Fz):Fz:=λvs Z H Q=>∃v r,vs=v::r/\t v Z H λZ' H'=>u r Z' H' Q
def MN:Vo X [] LL:=by intro Zx s Z H vs us Q I r h;let⟨e,h⟩:=h;subst e;ext r;show assignInOrder_nil ⟨Z,H,I,h⟩
def Iy{e:ZA}{es:List ZA}{t:TG}{u:Fz}(h1:PG X e t)(h2:Vo X es u)
  (hs:(ag0 (e::es) X.e).map (·.2)=ahW e X.e::(ag0 es X.e).map (·.2):=by rfl):Vo X (e::es)<|Ca t u:=by
 intro Zx s Z H vs us Q I r h;let⟨v,vr,e1,h⟩:=h;subst e1;cases r with
 |cons r rr=>rw[hs];split assignInOrder_cons<|bz (h1 Zx s Z H _ _ _ I r h) λ_ s1 Zy=>?_;let⟨Z1,H1,I1,q1⟩:=Zy;show h2 Zx s1 Z1 H1 _ _ Q I1 rr q1
def LM(K:Zj)(n:Nat)(t:Fz):TG:=λv Z H Q=>∃a xs,v=.ref a/\SqT K H a xs/\xs.length=n/\t xs Z H Q
def Ix{es:List ZA}{k:Nat} {n:Nat}(hc:X.c=true)(h:Vo X es t)
  (hn:(ag0 es X.e).length=n:=by rfl) (hst:(ag0 es X.e).findIdx? (·.1)=none:=by rfl):PG X (.Tuple es k pos)<|LM X.K n t:=by
 intro Zx s Z H v u Q I r hw;let⟨a,xs,e1,hq,hl,hw⟩:=hw;subst e1;ext r;let⟨its,rv,ht,hz⟩:=I.tuple hq;split assign_Tuple_tuple (I.ok.hd hc) ht (by simp[hn,<-hl,rv.length]) hst λh' hx=>?_;have I1:Inv X Zx Z H<|s.wh h':=I.kept (t':=s.toks) λb o e=>hx b o (aaC<|aaw e) e;show h Zx _ Z H xs _ Q I1 (~~~rv) hw
def Wv(to ti:TE)(t:Qg):TG:=λv Z H Q=>to Z H λo H1=>ti Z H1 λi H2=>t o i v H2 λH3=>Q Z H3
def SM{o i:ZA}{to ti:TE}{t:Qg}(ho:PE X o to)(hi:PE X i ti)(hs:VF X t)
  (ha:∀v,ahW (.Subscript o i pos) X.e v=(do
   let ov ← agI [v] (ZN o X.e)
   let iv ← agI [v,ov] (ZN i X.e)
   ag3 pos
   agI [v,ov,iv] (ait ov iv v)
   release [v,ov,iv] []):=by intro _;rfl):PG X (.Subscript o i pos)<|Wv to ti t:=by
 intro Zx s Z H v u Q I r h;rw[ha];split aaa<|abc<|bz (ho Zx s Z H _ I h) λov s1 Zy=>?_;let⟨x,H1,I1,r1,q1⟩:=Zy;split aaa<|abc<|bz (hi Zx s1 Z H1 _ I1 q1) λiv s2 Zy=>?_;let⟨y,H2,I2,r2,q2⟩:=Zy;split aaa<|adr<|aaa<|abc<|bz (hs Zx s2 Z H2 x y v ov iv u _ I2 r1 r2 r q2) λ_ s3 Zy=>?_;let⟨H3,I3,q3⟩:=Zy;show wpAny_release ⟨Z,H3,I3,q3⟩
def yM(te:TE)(g:TG):TS:=λD Z H=>te Z H λx H1=>g x Z H1 D.nx
def AL{tg e:ZA}{te:TE}{g:TG}(he:PE X e te)(hg:PG X tg g)(hs:swapsWithSole [tg] e pos.line X.e=pure false:=by rfl)(hw:ai9 [tg] e X.e=pure none:=by rfl)
  (h1:(ag0 [tg] X.e).map (·.2)=[ahW tg X.e]:=by rfl):PS X (.Assign [tg] e pos)<|yM te g:=by
 intro Zx s Z H D I h;split wpAny_Assign_stores (bz (he Zx s Z H _ I h) λv s1 Zy=>?_) hs hw;let⟨x,H1,I1,r1,q1⟩:=Zy;rw[h1];show bz (hg Zx s1 Z H1 x v _ I1 r1 q1) λ_ s2 q=>q
def sd{i:Nat}{x:Str}{e:ZA}{te:TE}{pos':Pos}(hN:X.N.Nodup)(hi:X.N[i]?=some x)(hx:N4 X.e.scope x)(he:PE X e te)(hs:ahM e (some<|.Name x pos') pos.line X.e=pure false:=by rfl)(hf:X.fn x=true\/X.e.scope.names.lookup x=some .local:=by first|show .inl rfl|show .inr rfl|assumption) :
  PS X (.Assign [.Name x pos'] e pos) (yM te<|hU i):=by
 intro Zx s Z H D I h;split wpAny_Assign_Name (bz (he Zx s Z H _ I h) λv s1 Zy=>?_) hs;let⟨y,H1,I1,r1,q1⟩:=Zy;show nM I1 hN hi hx r1 (λs2 I2=>⟨_,H1,I2,q1⟩) hf
def YS(i:Nat)(te:TE)(ti:TIp):TS:=λD Z H=>∃x,Z[i]?=some (some x)/\te Z H λy H1=>ti x y H1 λz H2=>D.nx (Z.set i<|some z) H2
def SZ{i:Nat}{x:Str}{e:ZA}{te:TE}{op:ah5}{ti:TIp}{pos':Pos}(hN:X.N.Nodup)(hi:X.N[i]?=some x)(hx:N4 X.e.scope x)(he:PE X e te)(ho:PIp X op ti)(hf:X.fn x=true\/X.e.scope.names.lookup x=some .local:=by first|show .inl rfl|show .inr rfl|assumption) :
  PS X (.AugAssign (.Name x pos') op e pos) (YS i te ti):=by
 intro Zx s Z H D I h;let⟨v,e1,h⟩:=h;let⟨m,hn,hl⟩:=I.loc;have vis:VL X.e.scope x:=by rcases hx with k|k;show .inl k;show .inr<|.inl k
 let⟨u,r,l⟩:=hl i x v hi e1 vis;split wpAny_AugAssign_Name ?_;have go:wX X (ZN e X.e) (λw s₂=>wX X (inplaceOp op u w) (λr s₃=>wX X (ai0 X.e x r) (λ_=>SP X Zx D .next) X.xe s₃) X.xe s₂) X.xe s:=by split bz (he Zx s Z H _ I h) λw s1 Zy=>?_;let⟨y,H1,I1,r1,q1⟩:=Zy;split bz (ho Zx s1 Z H1 v y u w _ I1 r r1 q1) λz s2 Zy=>?_;let⟨zv,H2,I2,r2,q2⟩:=Zy;show nM I2 hN hi hx r2 (λs3 I3=>⟨_,H2,I3,q2⟩) hf
 rcases l with ⟨hk,hm⟩|⟨hk,c,hc,hcell⟩
 .exact afu I.ok.kind hk hn hm go
 .rcases hk with hk|hk
  .exact afv I.ok.kind hk hc hcell go
  .rcases hx with k|k
   .have:X.e.scope.names.lookup x=some .free:=hk;rw[k] at this;ext this
   .have:X.e.scope.names.lookup x=some .free:=hk;rw[k] at this;ext this
def ipI(f:Int->Int->Int):TIp:=λx y H Q=>∃i j,x=.int i/\y=.int j/\Q (.int<|f i j) H
def Rr:PIp X .Add<|ipI λi j=>i+j:=by intro Zx s Z H x y v u Q I r1 r2 h;let⟨i,j,e1,e2,q⟩:=h;subst e1;subst e2;let⟨t,rfl⟩:=r1;let⟨t',rfl⟩:=r2;show iadd_int ⟨.int _,H,I.tok _,⟨_,rfl⟩,q⟩
def JM(c:TT)(tb:TS):TS:=λD Z H=>∃W:Nat->St->Hp->Prop,(∃m,W m Z H)/\∀m Z H,W m Z H ->
 c Z H λb H1=>if b=true then ∃N:St->Hp->Prop,(∀Z' H',N Z' H'->∃m',m'<m/\W m' Z' H')/\tb { D with nx:=N,ct:=N,bk:=D.nx } Z H1 else D.nx Z H1
def II{c:ZA}{body:List ZM}{tc:TT}{tb:TS}(hp:aiF (ZJ X.p X.w) X.A X.e X.xe)(hc:PT X c tc)(hb:PSs X body tb):PS X (.While c body [] pos)<|JM tc tb:=by
 intro Zx s Z H D I h;let⟨W,⟨m0,w0⟩,turn⟩:=h;split wpAny_While<|codeAny_whileLoop (λn s'=>∃Z' H',Inv X Zx Z' H' s'/\W n Z' H') ?_ m0 ⟨Z,H,I,w0⟩;rintro n s1 ⟨Z1,H1,I1,w1⟩;split acJ hp<|bz (hc Zx s1 Z1 H1 _ I1<|turn n Z1 H1 w1) λb s2 Zy=>?_;let⟨H2,I2,q2⟩:=Zy;cases b with
 |true=>
  let⟨N,hN,q2⟩:=q2;rw[aac rfl];split acJ hp<|bz (hb Zx s2 Z1 H2 _ I2 q2) λf s3 q3=>?_;cases f with
  |next=>
   let⟨Z3,H3,I3,n3⟩:=q3;let⟨m',hm,w3⟩:=hN Z3 H3 n3;show⟨m',hm,Z3,H3,I3,w3⟩
  |cont=>
   let⟨Z3,H3,I3,n3⟩:=q3;let⟨m',hm,w3⟩:=hN Z3 H3 n3;show⟨m',hm,Z3,H3,I3,w3⟩
  |brk|ret _=>show q3
 |false=>rw[aad aa1];show ac0 ⟨Z1,H2,I2,q2⟩
end
structure It where
 go:Nat->Hp->Prop
 yld:Nat->Hp->V->Hp->Prop
 stop:Nat->Hp->Prop
def mz(X:Cx)(Zx:Zf)(H:Hp)(b:ZB):Prop:=
 H b=none/\b≠X.e.locals/\b∉X.fs/\(b∈X.ex\/X.s.heap.objs.size<=b)/\(∀x c,X.e.cells.lookup x=some c->c≠b)/\∀p∈X.pn++Zx,p.1≠b
def Inv.fpOk{Zx:Zf} {H':Hp} {b:ZB}(I:Inv X Zx Z H s)(hb:s.heap.objs.size<=b)(hn:H' b=none):mz X Zx H' b:=by
 split⟨hn,acm<|aaZ I.lt hb,I.nofs hb,.inr<|aaN I.sz hb,λx c e z=>?_,λp hp z=>?_⟩
 .let⟨v,q⟩:=I.cell x c e;show absurd (aaZ q.lt<|by rw[z];show hb)<|acb _
 .exact absurd (aaZ (aaw (I.pin p hp).1)<|by rw[z];show hb)<|acb _
structure Turn(P:ZL)(w:ZI)(K:Zj)(tg:ZA)(J:It)(fp:Zk)(it:ZB)(tn:Nat->ZH->Prop):Prop where
 mem:it∈fp
 obj:∀i h,tn i h->∀b∈fp,∃o,h.get? b=some o/\∀v,o.data ≠ .cell v
 keep:∀i h h',tn i h->(∀b∈fp,∀o,h.get? b=some o->h'.get? b=some o)->tn i h'
 item:∀(X:Cx),X.p=P->X.w=w->X.K=K->X.c=true->∀(i:Nat) (Zx:Zf) (s:ZD) (Z:St) (H:Hp) (E:Ze),Inv X Zx Z H s->(∀b∈fp,mz X Zx H b)->tn i s.heap->J.go i H ->
  ZG (ZJ P w) X.A (agO<|.ref it) (λr s1=>∃u,r=some u /\
   ZG (ZJ P w) X.A (ajn tg (.ref it) u) (λ_ s2=>∃x H',Inv X Zx Z H' s2/\RelV x u/\J.yld i H x H'/\tn (i+1) s2.heap/\∀b∈fp,H' b=none) E s1) E s
 done:∀(X:Cx),X.p=P->X.w=w->X.K=K->X.c=true->∀(i:Nat) (Zx:Zf) (s:ZD) (Z:St) (H:Hp) (E:Ze),Inv X Zx Z H s->(∀b∈fp,mz X Zx H b)->tn i s.heap->J.stop i H ->
  ZG (ZJ P w) X.A (agO<|.ref it) (λr s1=>r=none/\Inv X Zx Z H s1) E s
 self:∀(A:ZP) (i:Nat) (s:ZD) (Q:Ze) (E:Ze),tn i s.heap->Q (.ref it) s->ZG (ZJ P w) A (aht<|.ref it) Q E s
abbrev TI:=St->Hp->(It->Hp->Prop)->Prop
def VD(X:Cx)(Zx:Zf)(Z:St)(tg:ZA)(R:It->Hp->Prop)(itv:ZE)(s2:ZD):Prop:=
 ∃(it:ZB) (fp:Zk) (tn:Nat->ZH->Prop) (J:It) (H':Hp),itv=.ref it/\Inv X Zx Z H' s2/\Turn X.p X.w X.K tg J fp it tn/\tn 0 s2.heap/\(∀b∈fp,mz X Zx H' b)/\R J H'
def PI(X:Cx)(tg iter:ZA)(wi:TI):Prop:=
 ∀(Zx:Zf) (s:ZD) (Z:St) (H:Hp) (R:It->Hp->Prop),Inv X Zx Z H s->wi Z H R ->
  wX X (ZN iter X.e) (λv s1=>wX X (aht v) (VD X Zx Z tg R) X.xe s1) X.xe s
def m9{s:ZD}{tg:ZA}{it:ZB} {o:Obj}{n:String}{vs:Array ZE}{Q:Unit->ZD->Prop}(ho:s.heap.get? it=some o)(hc:o.cls=.type n)(hd:o.data=.fields vs)
  (hn:["enumerate", "zip", "dict_itemiterator", "dict_reverseitemiterator", "odict_iterator", "itertools.zip_longest", "itertools.pairwise"].contains n=false) (hQ:Q Unit.unit s):ZG M A (ajn tg (.ref it) u) Q E s:=by
 unfold ajn
 cases tg<;>first
  |show aal hQ
  | (cases u<;>first
    |show aal hQ
    | (split aaa (wpAny_load ho ?_)
       rw[hc,hd];show ZG M A (if (["enumerate", "zip", "dict_itemiterator", "dict_reverseitemiterator", "odict_iterator", "itertools.zip_longest", "itertools.pairwise"].contains n&&vs[0]?==some (ZY _))=true then _ else _) Q E s;rw[aad<|by intro h;rw[hn,Bool.false_and] at h;cases h]
       show aal hQ))
def Itl(K:Zj)(a:ZB):It:=
 ⟨λi H=>∃xs x,SqL K H a xs/\xs[i]?=some x,λi H x H'=>H'=H/\∀xs,SqL K H a xs->xs[i]?=some x,λi H=>∃xs,SqL K H a xs/\xs.length<=i⟩
def Itt(K:Zj)(a:ZB):It:=
 ⟨λi H=>∃xs x,SqT K H a xs/\xs[i]?=some x,λi H x H'=>H'=H/\∀xs,SqT K H a xs->xs[i]?=some x,λi H=>∃xs,SqT K H a xs/\xs.length<=i⟩
def Vn(lo:Int)(n:Nat):It:=⟨λi _=>i<n,λi H x H'=>H'=H/\x=.int (lo+i),λi _=>n<=i⟩
def Fu{P:ZL}{w:ZI}{K:Zj}{tg:ZA}(a it:ZB):Turn P w K tg (Itl K a) [it] it (λi h=>h.IsListIter it a i) where
 mem:=by simp
 obj:=λi h st b hb=>by
  have e:b=it:=by simpa using hb
  subst e;let⟨o,e,c,d⟩:=st;show⟨o,e,λv z=>by rw[d] at z;ext z⟩
 keep:=λi h h' st k=>st.at λo e=>k it (by simp) o e
 item:=by intro X hP hw hK hc i Zx s Z H E I hf st hg;subst hP hw hK;let⟨xs,x,hq,hx⟩:=hg;let⟨its,rv,p,hz⟩:=I.list hq;let⟨u,hu,ru⟩:=rv.get hx;let⟨f0,f1,f2,f3,f4,f5⟩:=hf it (by simp);split afy st p.isList (x:=u) (~~~hu) λh' st' sb=>?_;have I1:Inv X Zx Z H<|s.wh h':=I.turned (t':=s.toks) (λb o hb e=>(sb.2 b hb).trans e) f0 f1 f3 f4 f5;let⟨o,e,c,d⟩:=id st';show⟨u,rfl,m9 (s:=(s.wh h')) e c d ⋯ ⟨x,H,I1,ru,⟨rfl,λys hy=>by rw[I.list_inj hy hq];show hx⟩,st',λb hb=>(hf b hb).1⟩⟩
 done:=by intro X hP hw hK hc i Zx s Z H E I hf st hg;subst hP hw hK;let⟨xs,hq,hx⟩:=hg;let⟨its,rv,p,hz⟩:=I.list hq;let⟨f0,f1,f2,f3,f4,f5⟩:=hf it (by simp);have hl:=rv.length;show afz (I.ok.hd hc) st p.isList (by simp;lia) λh' eb=>⟨rfl,I.turned (t':=s.toks) (λb o hb e=>eb b o hb e) f0 f1 f3 f4 f5⟩
 self:=λ_ _ _ _ _ st h=>wpAny_pyIter_listiter st h
def Bk{P:ZL}{w:ZI}{K:Zj}{tg:ZA}(a it:ZB):Turn P w K tg (Itt K a) [it] it (λi h=>h.IsTupleIter it a i) where
 mem:=by simp
 obj:=λi h st b hb=>by
  have e:b=it:=by simpa using hb
  subst e;let⟨o,e,c,d⟩:=st;show⟨o,e,λv z=>by rw[d] at z;ext z⟩
 keep:=λi h h' st k=>st.at λo e=>k it (by simp) o e
 item:=by intro X hP hw hK hc i Zx s Z H E I hf st hg;subst hP hw hK;let⟨xs,x,hq,hx⟩:=hg;let⟨its,rv,p,hz⟩:=I.tuple hq;let⟨u,hu,ru⟩:=rv.get hx;let⟨f0,f1,f2,f3,f4,f5⟩:=hf it (by simp);split wpAny_pyNext_tuple_item st (show s.heap.IsTuple a its.toArray from p) (x:=u) (~~~hu) λh' st' sb=>?_;have I1:Inv X Zx Z H<|s.wh h':=I.turned (t':=s.toks) (λb o hb e=>(sb.2 b hb).trans e) f0 f1 f3 f4 f5;let⟨o,e,c,d⟩:=id st';show⟨u,rfl,m9 (s:=(s.wh h')) e c d ⋯ ⟨x,H,I1,ru,⟨rfl,λys hy=>by rw[I.tuple_inj hy hq];show hx⟩,st',λb hb=>(hf b hb).1⟩⟩
 done:=by intro X hP hw hK hc i Zx s Z H E I hf st hg;subst hP hw hK;let⟨xs,hq,hx⟩:=hg;let⟨its,rv,p,hz⟩:=I.tuple hq;let⟨f0,f1,f2,f3,f4,f5⟩:=hf it (by simp);have hl:=rv.length;show wpAny_pyNext_tuple_end (I.ok.hd hc) st (show s.heap.IsTuple a its.toArray from p) (by simp;lia) λh' eb=>⟨rfl,I.turned (t':=s.toks) (λb o hb e=>eb b o hb e) f0 f1 f3 f4 f5⟩
 self:=λ_ _ _ _ _ st h=>wpAny_pyIter_tupleiter st h
def sE{P:ZL}{w:ZI}{K:PySem.W.Frag}{tg:ZA}(it:ZB)(lo:Int)(n:Nat):Turn P w K tg (Vn lo n) [it] it (λi h=>ah9 h it (lo+(i:Nat)*1) ((n:Int)-(i:Nat)) 1) where
 mem:=by simp
 obj:=λi h st b hb=>by
  have e:b=it:=by simpa using hb
  subst e;show⟨_,st,λv z=>by
   have z':ajc _=ai8 v:=z
   ext z'⟩
 keep:=λi h h' st k=>k it (by simp) _ st
 item:=by intro X hP hw hK hc i Zx s Z H E I hf st hg;subst hP hw hK;let⟨f0,f1,f2,f3,f4,f5⟩:=hf it (by simp);have W:=aj0 (prog:=X.p) (w:=X.w) (I.ok.hd hc) it lo 1 n;split W.item i s _ _ hg st λv h' tk hv st' kk=>?_;let⟨t,rfl⟩:=hv;have I1:Inv X Zx Z H<|s.wt h' tk:=I.turned (λb o hb e=>kk b o (~~~hb) e) f0 f1 f3 f4 f5;split⟨_,rfl,m9 (s:=(s.wt h' tk)) (n := "range_iterator") st' rfl rfl ⋯ ⟨.int<|lo+i,H,I1,⟨t,?_⟩,⟨rfl,rfl⟩,st',λb hb=>(hf b hb).1⟩⟩;rw[ajL]
 done:=by intro X hP hw hK hc i Zx s Z H E I hf st hg;subst hP hw hK;let⟨f0,f1,f2,f3,f4,f5⟩:=hf it (by simp);show afA (I.ok.hd hc) st (by have:n<=i:=hg;lia) λh' eb=>⟨rfl,I.turned (t':=s.toks) (λb o hb e=>eb b o hb e) f0 f1 f3 f4 f5⟩
 self:=λ_ _ _ _ _ st h=>afB st h
section
variable {X:Cx}{tg:ZA}
def IW{Zx:Zf}{Z:St}{H:Hp}{s:ZD}{R:It->Hp->Prop}{E:Ze}{lo hi:Int}{t u v:Tok}{tk:Nat}(I:Inv X Zx Z H s)(h1:-(2^62)<=lo)(h2:lo<2^62)(h3:-(2^62)<=hi)(h4:hi<2^62)
  (q:R (Vn lo (hi-lo).toNat) H):wX X (aht<|.ref s.heap.objs.size) (VD X Zx Z tg R) E { s with heap:=s.heap.push { cls:=.type "range",data:=.fields #[.int lo t,.int hi u,.int 1 v] },toks:=tk }:=by
 split aey (ad0 ..) (small_one h1 h2 h3 h4) ?_;have I1:Inv X Zx Z H { s with heap:=s.heap.push { cls:=.type "range",data:=.fields #[.int lo t,.int hi u,.int 1 v] },toks:=tk }:=I.kept λb o e=>aas _ e;split⟨(s.heap.push { cls:=.type "range",data:=.fields #[.int lo t,.int hi u,.int 1 v] }).objs.size,[(s.heap.push { cls:=.type "range",data:=.fields #[.int lo t,.int hi u,.int 1 v] }).objs.size],_,_,H,rfl,
  I1.kept (t':=tk) λb o e=>aas _ e,sE _ lo (hi-lo).toNat,?_,λb hb=>?_,q⟩
 .have e1:lo+((0:Nat):Int)*1=lo:=by simp
  have e2:(((hi-lo).toNat:Nat):Int)-((0:Nat):Int)=ajp lo hi 1:=by rw[rangeSize_one];split<;>lia
  show ah9 _ _ (lo+((0:Nat):Int)*1) ((((hi-lo).toNat:Nat):Int)-((0:Nat):Int)) 1;rw[e1,e2];show aaB _ rfl
 .have e:b=(s.heap.push { cls:=.type "range",data:=.fields #[.int lo t,.int hi u,.int 1 v] }).objs.size:=by simpa using hb
  subst e;show I1.fpOk (aaq _)<|I1.hok.fresh<|aaq _
def OD(ta:TA):TI:=λZ H R=>ta Z H λvs H1=>∃j:Int,vs=[.int j] /\ -(2^62)<=j/\j<2^62/\R (Vn 0 j.toNat) H1
def EX{a:ZA}{ta:TA}{p pos:Pos}(hg:Gl X "range") (hm:X.mg "range"=none) (ha:PA X [a] ta) (hs:ZQ [a] X.e=[(false,ZN a X.e)]:=by rfl):PI X tg (.Call (.Name "range" p) [a] [] pos)<|OD ta:=by
 intro Zx s Z H R I h;split Call_<|j7 I hg hm aez<|ac1 (bz (ha pos Zx s Z H _ I h) λus s1 Zy=>?_) hs rfl;let⟨vs,H1,I1,r1,q1⟩:=Zy;let⟨j,e,q1,q2,q⟩:=q1;subst e;cases r1 with
 |cons r rr=>ext rr;let⟨t,rfl⟩:=r;show call_range_1<|IW I1 () () q1 q2<|~~~q
def UN(wi:TI)(g:TG)(tb:TS):TS:=λD Z H=>wi Z H λJ H1=>∃W:Nat->Nat->St->Hp->Prop,(∃m,W 0 m Z H1)/\∀i m Z H,W i m Z H ->
 (J.stop i H/\D.nx Z H)\/(J.go i H/\∃N:St->Hp->Prop,(∀Z' H',N Z' H'->∃m',m'<m/\W (i+1) m' Z' H')/\∀x H',J.yld i H x H'->g x Z H' λZ2 H2=>tb { D with nx:=N,ct:=N,bk:=D.nx } Z2 H2)
def oI(fp:Zk)(h:ZH):Zf:=fp.filterMap λb=>(h.get? b).map λo=>(b,o)
def gJ{fp:Zk}{h:ZH}{b:ZB}{o:Obj}(hb:b∈fp)(e:h.get? b=some o):(b,o)∈oI fp h:=ad1.2 ⟨b,hb,by rw[e];rfl⟩
def EN{p:ZB×Obj}(hp:p∈oI fp h):p.1∈fp/\h.get? p.1=some p.2:=by
 let⟨b,hb,e⟩:=ad1.1 hp;cases q:h.get? b with
 |none=>rw[q] at e;ext e
 |some o=>rw[q] at e;have e':(b,o)=p:=abb e;subst e';show⟨hb,q⟩
def Inv.pinned{Zx:Zf} {fp:Zk}(I:Inv X Zx Z H s)(hf:∀b∈fp,mz X Zx H b)(ho:∀b∈fp,∃o,s.heap.get? b=some o/\∀v,o.data ≠ .cell v):Inv X (Zx++oI fp s.heap) Z H s:=
 I.pins_of λp hp=>(ab1.1 hp).elim (λz=>I.pin p<|abe _ z) λz=>by let⟨hb,e⟩:=EN z;let⟨f0,f1,f2,_⟩:=hf p.1 hb;let⟨o,e',d⟩:=ho p.1 hb;rw[e] at e';ext e';show⟨e,f0,f1,f2,d⟩
def Inv.unpinned{Zx pl:Zf} (I:Inv X (Zx++pl) Z H s):Inv X Zx Z H s:=I.pins_of λp hp=>I.pin p<|abe _<|aev _ hp
def IC{iter:ZA}{body:List ZM}{wi:TI}{g:TG}{tb:TS}{pos:Pos}(hp:aiF (ZJ X.p X.w) X.A X.e X.xe)(hc:X.c=true)(hi:PI X tg iter wi)(hg:PG X tg g)(hb:PSs X body tb)
  (hs:∀x,aio iter X.e x=pure x:=by intro _;rfl):PS X (.For tg iter body [] pos)<|UN wi g tb:=by
 intro Zx s Z H D I h;split wpAny_For (bz (hi Zx s Z H _ I h) λv s1 h1=>bz h1 λitv s2 h2=>?_) hs;let⟨it,fp,tn,J,H2,e,I2,T,st2,f2,W,⟨m0,w0⟩,turn⟩:=h2;subst e
 -- what stays true of the iterator's objects through the loop
 have stat:∀ {H':Hp},(∀b∈fp,H' b=none)->∀b∈fp,mz X Zx H' b:=λhn b hb=>⟨hn b hb,(f2 b hb).2⟩
 split codeAny_forLoop_any (λn s'=>∃i Z' H',Inv X Zx Z' H' s'/\tn i s'.heap/\(∀b∈fp,H' b=none)/\W i n Z' H') ?_ m0 ⟨0,Z,H2,I2,st2,λb hb=>(f2 b hb).1,w0⟩;rintro n s3 ⟨i,Z3,H3,I3,st3,fr3,w3⟩;rcases turn i n Z3 H3 w3 with ⟨stop,qn⟩|⟨go,N,hN,step⟩
 .refine acJ hp<|bz (T.done X rfl rfl rfl hc i Zx s3 Z3 H3 X.xe I3 (stat fr3) st3 stop) λr s4 ⟨hr,I4⟩=>?_;subst hr;show ac0 ⟨Z3,H3,I4,qn⟩
 .refine acJ hp<|bz (T.item X rfl rfl rfl hc i Zx s3 Z3 H3 X.xe I3 (stat fr3) st3 go) λr s4 ⟨u,hr,h4⟩=>?_;subst hr;split acJ hp<|bz h4 λ_ s5 Zy=>?_;let⟨x,H5,I5,r5,y5,st5,fr5⟩:=Zy;have I5':=I5.pinned (stat fr5)<|T.obj _ _ st5;split acJ hp<|bz (hg _ s5 Z3 H5 x u _ I5' r5<|step x H5 y5) λ_ s6 Zy=>?_;let⟨Z6,H6,I6,q6⟩:=Zy;split acJ hp<|bz (hb _ s6 Z6 H6 _ I6 q6) λf s7 q7=>?_;have ahD:∀ {Z7:St} {H7:Hp},Inv X (Zx++oI fp s5.heap) Z7 H7 s7->N Z7 H7->∃m,m<n/\∃i Z' H',Inv X Zx Z' H' s7/\tn i s7.heap/\(∀b∈fp,H' b=none)/\W i m Z' H':=λ{Z7 H7} I7 n7=>by
   let⟨m',hm,w7⟩:=hN Z7 H7 n7;split⟨m',hm,i+1,Z7,H7,I7.unpinned,T.keep _ _ _ st5 λb hb o e=>(I7.pin (b,o)<|abe _<|abe _<|gJ hb e).1,λb hb=>?_,w7⟩;let⟨o,e,d⟩:=T.obj _ _ st5 b hb;show (I7.pin (b,o)<|abe _<|abe _<|gJ hb e).2.1
  cases f with
  |next=>let⟨Z7,H7,I7,n7⟩:=q7;show ahD I7 n7
  |cont=>let⟨Z7,H7,I7,n7⟩:=q7;show ahD I7 n7
  |brk=>let⟨Z7,H7,I7,q7⟩:=q7;show⟨Z7,H7,I7.unpinned,q7⟩
  |ret v=>let⟨x7,Z7,H7,I7,r7,q7⟩:=q7;show⟨x7,Z7,H7,I7.unpinned,r7,q7⟩
end
abbrev R2:=V->V->Hp->VK->Prop
def OpR(X:Cx)(f:ZE->ZE->Sem ZE)(r:R2):Prop:=
 ∀(Zx:Zf) (s:ZD) (Z:St) (H:Hp) (x y:V) (v u:ZE) (Q:VK),Inv X Zx Z H s->RelV x v->RelV y u->r x y H Q ->
  wX X (f v u) (EP X Zx Z Q) X.xe s
def UnR(X:Cx)(f:ZE->Sem ZE)(r:V->Hp->VK->Prop):Prop:=
 ∀(Zx:Zf) (s:ZD) (Z:St) (H:Hp) (x:V) (v:ZE) (Q:VK),Inv X Zx Z H s->RelV x v->r x H Q ->
  wX X (f v) (EP X Zx Z Q) X.xe s
def CallR(X:Cx)(f:ZE)(r:Za->Hp->VK->Prop):Prop:=
 ∀(Zx:Zf) (s:ZD) (Z:St) (H:Hp) (xs:Za) (us:Zh) (Q:VK),Inv X Zx Z H s->Vals xs us->r xs H Q ->
  wX X (call f us) (EP X Zx Z Q) X.xe s
def aaW(X:Cx)(r:V->Hp->(Bool->Hp->Prop)->Prop):Prop:=
 ∀(Zx:Zf) (s:ZD) (Z:St) (H:Hp) (x:V) (v:ZE) (Q:Bool->Hp->Prop),Inv X Zx Z H s->RelV x v->r x H Q ->
  wX X (truthy v) (TP X Zx Z Q) X.xe s
def tOp(r:R2)(ta tb:TE):TE:=λZ H Q=>ta Z H λx H1=>tb Z H1 λy H2=>r x y H2 Q
def tUn(r:V->Hp->VK->Prop)(ta:TE):TE:=λZ H Q=>ta Z H λx H1=>r x H1 Q
def rI(C:Int->Int->Prop)(g:Int->Int->V):R2:=λx y H Q=>∃i j,x=.int i/\y=.int j/\C i j/\Q (g i j) H
def FE(g:Int->Int->V):R2:=λx y H Q=>∃i j,x=.int i/\y=.int j/\Q (g i j) H
def rU(g:Int->V):V->Hp->VK->Prop:=λx H Q=>∃i,x=.int i/\Q (g i) H
section
variable {X:Cx}{a b:ZA}{ta tb:TE}{pos:Pos}
def VT(ha:PE X a ta)(hb:PE X b tb){Zx:Zf}{s:ZD}{Z:St}{H:Hp}{R:V->V->Hp->Prop}(I:Inv X Zx Z H s)
  (h:ta Z H λx H1=>tb Z H1 λy H2=>R x y H2) {Q:Ze} {f:ZE->ZE->Sem ZE}
  (hf:∀v u s2 x y H2,Inv X Zx Z H2 s2->RelV x v->RelV y u->R x y H2->wX X (f v u) Q X.xe s2) :
  wX X (ZN a X.e) (λv s₁=>wX X (ZN b X.e) (λu s₂=>wX X (f v u) Q X.xe s₂) X.xe s₁) X.xe s:=by
 split bz (ha Zx s Z H _ I h) λv s1 Zy=>?_;let⟨x,H1,I1,r1,q1⟩:=Zy;split bz (hb Zx s1 Z H1 _ I1 q1) λu s2 Zy=>?_;let⟨y,H2,I2,r2,q2⟩:=Zy;show hf v u s2 x y H2 I2 r1 r2 q2
def Xk(ho:OpR X (agK op) r)(ha:PE X a ta)(hb:PE X b tb):PE X (.BinOp a op b pos)<|tOp r ta tb:=by intro Zx s Z H Q I h;show wpAny_BinOp<|VT ha hb I h λv u s2 x y H2 I2 rx ry q=>ho Zx s2 Z H2 x y v u Q I2 rx ry q
def Xn{op:UnaryOp}{r:V->Hp->VK->Prop}(ho:UnR X (unaryOp op) r)(ha:PE X a ta):PE X (.UnaryOp op a pos)<|tUn r ta:=by intro Zx s Z H Q I h;show UnaryOp_<|bz (ha Zx s Z H _ I h) λv s1 ⟨x,H1,I1,r1,q1⟩=>ho Zx s1 Z H1 x v Q I1 r1 q1
def opI{f:ZE->ZE->Sem ZE}{C:Int->Int->Prop}{g:Int->Int->Int}
  (rule:∀(i j:Int) (t u:Tok) (s:ZD) (Q:Ze) (E:Ze),C i j->Q (.int (g i j) s.toks) { s with toks:=s.toks+1 }->wX X (f (.int i t)<|.int j u) Q E s) :
  OpR X f (rI C λi j=>.int<|g i j):=by
 intro Zx s Z H x y v u Q I rx ry h;let⟨i,j,rfl,rfl,hc,q⟩:=h;let⟨t,rfl⟩:=rx;let⟨t',rfl⟩:=ry;show rule i j t t' s _ _ hc ⟨.int<|g i j,H,I.tok _,⟨_,rfl⟩,q⟩
def Sf{f:ZE->ZE->Sem ZE}{g:Int->Int->Int}
  (rule:∀(i j:Int) (t u:Tok) (s:ZD) (Q:Ze) (E:Ze),Q (.int (g i j) s.toks) { s with toks:=s.toks+1 }->wX X (f (.int i t)<|.int j u) Q E s) :
  OpR X f (FE λi j=>.int<|g i j):=by
 intro Zx s Z H x y v u Q I rx ry h;let⟨i,j,rfl,rfl,q⟩:=h;let⟨t,rfl⟩:=rx;let⟨t',rfl⟩:=ry;show rule i j t t' s _ _ ⟨.int<|g i j,H,I.tok _,⟨_,rfl⟩,q⟩
def Mx{f:ZE->ZE->Sem ZE}{g:Int->Int->Bool}
  (rule:∀(i j:Int) (t u:Tok) (s:ZD) (Q:Ze) (E:Ze),Q (.bool<|g i j) s->wX X (f (.int i t)<|.int j u) Q E s) :
  OpR X f (FE λi j=>.B<|g i j):=by
 intro Zx s Z H x y v u Q I rx ry h;let⟨i,j,rfl,rfl,q⟩:=h;let⟨t,rfl⟩:=rx;let⟨t',rfl⟩:=ry;show rule i j t t' s _ _ ⟨.B<|g i j,H,I,rfl,q⟩
def KI(i j:Int):Prop:=0<j/\j<1073741824
def KJ(i j:Int):Prop:=0<=j/\j<=1000000/\i.natAbs<2^64
def CMul(i j:Int):Prop:=(-(2^64)<i/\i<2^64)\/(-(2^64)<j/\j<2^64)
def CMul.ok{i j:Int}(h:CMul i j):IntMulOk i j:=by
 rcases h with ⟨h1,h2⟩|⟨h1,h2⟩
 .exact .of_left<|intBits_le_64 h1 h2
 .exact .of_right<|intBits_le_64 h1 h2
def op_add:OpR X (agK .Add)<|FE λi j=>.int (i+j):=Sf λ_ _ _ _ _ _ _ q=>add_int q
def Sq:OpR X (agK .Sub)<|FE λi j=>.int (i-j):=Sf λ_ _ _ _ _ _ _ q=>sub_int q
def Sm:OpR X (agK .Mult)<|rI CMul λi j=>.int (i*j):=opI λ_ _ _ _ _ _ _ hc q=>mul_int q hc.ok
def Mz:OpR X (agK .FloorDiv)<|rI KI λi j=>.int (i/j):=opI λi j _ _ _ _ _ hc q=>by have h1:(0:Int)<j:=hc.1;have h2:j<1073741824:=hc.2;show floordiv_int () (by rw[Int.fdiv_eq_ediv_of_nonneg i ()];show q)<|.inl<|PyProof.noPylong_small ()
def Sl:OpR X (agK .Mod)<|rI (λ_ j=>0<j) λi j=>.int (i%j):=opI λi j _ _ _ _ _ hc q=>by have h1:(0:Int)<j:=hc;show mod_int' () (by rw[Int.fmod_eq_emod_of_nonneg i ()];show q)
def So:OpR X (agK .Pow)<|rI KJ λi j=>.int (i^j.toNat):=opI λ_ _ _ _ _ _ _ hc q=>pow_int_small hc.1 hc.2.1 hc.2.2 q
def Sh:OpR X (agK .BitAnd)<|FE λi j=>.int (ahK i j):=Sf λ_ _ _ _ _ _ _ q=>and_int q
def unI{f:ZE->Sem ZE}{g:Int->Int}
  (rule:∀(i:Int) (t:Tok) (s:ZD) (Q:Ze) (E:Ze),Q (.int (g i) s.toks) { s with toks:=s.toks+1 }->wX X (f<|.int i t) Q E s) :
  UnR X f (rU λi=>.int<|g i):=by
 intro Zx s Z H x v Q I rx h;let⟨i,rfl,q⟩:=h;let⟨t,rfl⟩:=rx;show rule i t s _ _ ⟨.int<|g i,H,I.tok _,⟨_,rfl⟩,q⟩
def Va:UnR X (unaryOp .USub)<|rU λi=>.int (-i):=unI λ_ _ _ _ _ q=>neg_int q
end
section
variable {X:Cx}{a b c:ZA}{ta tb tc:TE}{pos:Pos}
def GW{Zx:Zf} {Q:VK}{k k':Bool}(I:Inv X Zx Z H s)(q:Q (.B k) H)(e:k=k'):EP X Zx Z Q (.bool k') s:=by subst e;show⟨.B k,H,I,rfl,q⟩
def Xd:OpR X (agH .Lt)<|FE λi j=>.B (decide (i<j)):=Mx λ_ _ _ _ _ _ _ q=>aaR q
def HW:OpR X (agH .LtE)<|FE λi j=>.B (decide (i<=j)):=Mx λ_ _ _ _ _ _ _ q=>acn q
def Xc:OpR X (agH .Gt)<|FE λi j=>.B (decide (j<i)):=Mx λ_ _ _ _ _ _ _ q=>acg q
def Xb:OpR X (agH .GtE)<|FE λi j=>.B (decide (j<=i)):=Mx λ_ _ _ _ _ _ _ q=>ge_int q
def ER:OpR X (agH .In)<|λx y H Q=>∃i j,x=.str i/\y=.str j/\Q (.B<|!(agL j i 0 j.length 1).isEmpty) H:=by intro Zx s Z H x y v u Q I rx ry h;let⟨i,j,rfl,rfl,q⟩:=h;let⟨t,rfl⟩:=rx;let⟨t',rfl⟩:=ry;show in_str<|GW I q rfl
def Sk:OpR X (agH .Is)<|λx y H Q=>y=.N/\Q (.B<|decide (x=.N)) H:=by
 intro Zx s Z H x y v u Q I rx ry h;let⟨rfl,q⟩:=h;ext ry;split is_none_gen<|GW I q ?_
 cases x<;>first
  | (ext rx;rfl)
  | (let⟨t,rfl⟩:=rx;rfl)
def OpR.or(h:OpR X f r)(h':OpR X f r'):OpR X f<|λx y H Q=>r x y H Q\/r' x y H Q:=by
 intro Zx s Z H x y v u Q I rx ry q;rcases q with q|q
 .exact h Zx s Z H x y v u Q I rx ry q
 .exact h' Zx s Z H x y v u Q I rx ry q
def YZ(t:TE):TT:=λZ H Q=>t Z H λx H'=>∃k,x=.B k/\Q k H'
def JB(r r':R2)(ta tb tc:TE):TE:=λZ H Q=>ta Z H λx H1=>tb Z H1 λy H2=>r x y H2 λz H3=>∃k,z=.B k /\
 (if k=true then tc Z H3 λw' H4=>r' y w' H4 Q else Q (.B false) H3)
def Ia{op op':ahB}{r r':R2}(ho:OpR X (agH op) r)(ho':OpR X (agH op') r')(ha:PE X a ta)(hb:PE X b tb)(hc:PE X c tc)
  (hm:lastMarks [op,op'] [b,c]=false:=by with_unfolding_all rfl):PE X (.Compare a [op,op'] [b,c] pos)<|JB r r' ta tb tc:=by
 intro Zx s Z H Q I h;split Compare_chain (bz (ha Zx s Z H _ I h) λv s1 ⟨x,H1,I1,r1,q1⟩=>chain_link (bz (hb Zx s1 Z H1 _ I1 q1) λu s2 ⟨y,H2,I2,r2,q2⟩=>
  bz (ho Zx s2 Z H2 x y v u _ I2 r1 r2 q2) λd s3 ⟨z,H3,I3,r3,k,e,q3⟩=>?_)) hm
 subst e;ext r3;split acz ?_;cases k with
 |false=>show ite_ff ⟨.B false,H3,I3,rfl,q3⟩
 |true=>show ite_tt<|chain_last<|bz (hc Zx s3 Z H3 _ I3 q3) λw' s4 ⟨z',H4,I4,r4,q4⟩=>ho' Zx s4 Z H4 y z' u w' Q I4 r2 r4 q4
def KS(K:Zj)(x:V)(H:Hp)(k:Bool):Prop:=
 match x with
 |.N=>k=false
 |.B b=>k=b
 |.int i=>k=(i != 0)
 |.str y=>y.length<=ZF/\k=((y.length:Int) != 0)
 |.byt y=>y.size<=ZF/\k=((y.size:Int) != 0)
 |.ref p=>(∃xs,SqL K H p xs/\k = !xs.isEmpty)\/(∃xs,SqT K H p xs/\k = !xs.isEmpty)\/∃kvs,H p=some (.dK kvs)/\k = !kvs.isEmpty
 |_=>False
def Ah{G:Type}{kvs:List<|G×V}{vs:List<|G×ZE}(r:KV kvs vs):(!vs.isEmpty) = !kvs.isEmpty:=by cases r<;>rfl
def rn{xs:Za}{its:Zh}(r:Vals xs its):(!its.toArray.isEmpty) = !xs.isEmpty:=by cases r<;>simp
def lX:(ZF:Nat)<2^63:=by rw[aaS];decide
def UW:aaW X<|λx H Q=>∃k,KS X.K x H k/\Q k H:=by
 intro Zx s Z H x v Q I rx h;let⟨k,e,q⟩:=h;have hl:=lX;have hs:ZF=16777216:=aaS;cases x with
 |N=>
  ext rx;have e':k=false:=e;subst e';show truthy_none ⟨H,I,q⟩
 |B b=>
  ext rx;have e':k=b:=e;subst e';show acz ⟨H,I,q⟩
 |int i=>
  let⟨t,rfl⟩:=rx;have e':k=(i != 0):=e;subst e';show PySem.P.truthy_int ⟨H,I,q⟩
 |str y=>
  let⟨t,rfl⟩:=rx;obtain⟨hy,e'⟩:y.length<=ZF/\k=((y.length:Int) != 0):=e;subst e';show PySem.P.truthy_str () ⟨H,I.tok _,q⟩
 |byt y=>
  let⟨t,rfl⟩:=rx;obtain⟨hy,e'⟩:y.size<=ZF/\k=((y.size:Int) != 0):=e;subst e';show W.truthy_bytes () ⟨H,I.tok _,q⟩
 |ref p=>
  ext rx;have e':(∃xs,SqL X.K H p xs/\k = !xs.isEmpty)\/(∃xs,SqT X.K H p xs/\k = !xs.isEmpty)\/∃kvs,H p=some (.dK kvs)/\k = !kvs.isEmpty:=e;rcases e' with ⟨xs,hx,e'⟩|⟨xs,hx,e'⟩|⟨kvs,hx,e'⟩
  .subst e';let⟨its,r,pl,hz⟩:=I.list hx;have Zz:=r.length;show wpAny_truthy_list pl.isList (by simp only[aaH];lia) ⟨H,I.tok _,by rw[rn r];show q⟩
  .subst e';let⟨its,r,pl,hz⟩:=I.tuple hx;have Zz:=r.length;show truthy_tuple pl (by simp only[aaH];lia) ⟨H,I.tok _,by rw[rn r];show q⟩
  .subst e';obtain⟨hz,hS,vs,r,m⟩:kvs.length<=ZF/\(p==agF)=false/\∃vs,KV kvs vs/\s.heap.DictOf (aI X.p X.w) p vs:=I.hok p _ hx;have Zz:kvs.length=vs.length:=acY r;show wpAny_truthy_dict hS m () ⟨H,I.tok _,by rw[Ah r];show q⟩
 |_=>show (show False from e).elim
def IJ(ha:PE X a ta)(he:∀whole,aib a X.e whole=(do let v ← whole;ag3 a.pos;agI [v] (truthy v))) :
  PT X a (λZ H Q=>ta Z H λx H'=>∃k,KS X.K x H' k/\Q k H'):=by
 intro Zx s Z H Q I h;show isTrue_plain (bz (ha Zx s Z H _ I h) λv s1 ⟨x,H1,I1,r1,q1⟩=>UW Zx s1 Z H1 x v Q I1 r1 q1)<|he _
def AF:OpR X (agK .Add)<|λx y H Q=>∃i j,x=.str i/\y=.str j/\i.length+j.length<=ZF/\Q (.str<|i++j) H:=by intro Zx s Z H x y v u Q I rx ry h;let⟨i,j,rfl,rfl,hz,q⟩:=h;let⟨t,rfl⟩:=rx;let⟨t',rfl⟩:=ry;show add_str (λt' tk=>⟨.str<|i++j,H,I.tok _,⟨_,rfl⟩,q⟩) hz
def sH{x:V} (r:Vals [x] us):∃u,us=[u]/\RelV x u:=by
 cases r with
 |cons r1 r2=>ext r2;show⟨_,rfl,r1⟩
def P6{x y:V} (r:Vals [x,y] us):∃u w',us=[u,w']/\RelV x u/\RelV y w':=by
 cases r with
 |cons r1 r2=>
  cases r2 with
  |cons r3 r4=>ext r4;show⟨_,_,rfl,r1,r3⟩
def DI(hc:X.c=true):CallR X (.builtin "max")<|λxs H Q=>∃i j,xs=[.int i,.int j]/\Q (.int (if j > i then j else i)) H:=by
 intro Zx s Z H xs us Q I r h;let⟨i,j,rfl,q⟩:=h;let⟨u,w',rfl,⟨t,rfl⟩,⟨t',rfl⟩⟩:=P6 r;split max_two_ints (I.ok.hd hc) λh' tk k=>⟨_,H,I.kept k,?_,q⟩
 by_cases hj:j > i
 .rw[aac hj,aac hj];show⟨_,rfl⟩
 .rw[aad hj,aad hj];show⟨_,rfl⟩
def DJ(hc:X.c=true):CallR X (.builtin "min")<|λxs H Q=>∃i j,xs=[.int i,.int j]/\Q (.int (if j<i then j else i)) H:=by
 intro Zx s Z H xs us Q I r h;let⟨i,j,rfl,q⟩:=h;let⟨u,w',rfl,⟨t,rfl⟩,⟨t',rfl⟩⟩:=P6 r;split min_two_ints (I.ok.hd hc) λh' tk k=>⟨_,H,I.kept k,?_,q⟩
 by_cases hj:j<i
 .rw[aac hj,aac hj];show⟨_,rfl⟩
 .rw[aad hj,aad hj];show⟨_,rfl⟩
def call_int1:CallR X (.type "int")<|λxs H Q=>(∃i,xs=[.int i]/\Q (.int i) H)\/∃k,xs=[.B k]/\Q (.int (if k then 1 else 0)) H:=by
 intro Zx s Z H xs us Q I r h;rcases h with ⟨i,rfl,q⟩|⟨k,rfl,q⟩
 .let⟨u,rfl,t,rfl⟩:=sH r;show call_int_int ⟨.int i,H,I,⟨_,rfl⟩,q⟩
 .let⟨u,rfl,r1⟩:=sH r;ext r1;show call_int_bool ⟨.int (if k then 1 else 0),H,I.tok _,⟨_,rfl⟩,q⟩
def vm:CallR X (.type "str")<|λxs H Q=>∃i,xs=[.int i]/\i.natAbs.log2<1920/\Q (.str<|toString i) H:=by intro Zx s Z H xs us Q I r h;let⟨i,rfl,hz,q⟩:=h;let⟨u,rfl,t,rfl⟩:=sH r;show PySem.P.str_of_int hz ⟨.str _,H,I.tok _,⟨_,rfl⟩,q⟩
def VB(K:Zj)(x:V)(H:Hp)(n:Nat):Prop:=
 match x with
 |.str y=>y.length<=ZF/\n=y.length
 |.byt y=>y.size<=ZF/\n=y.size
 |.ref p=>(∃xs,SqL K H p xs/\n=xs.length)\/∃xs,SqT K H p xs/\n=xs.length
 |_=>False
def Gg:CallR X (.builtin "len")<|λxs H Q=>∃x n,xs=[x]/\VB X.K x H n/\Q (.int n) H:=by
 intro Zx s Z H xs us Q I r h;let⟨x,n,rfl,e,q⟩:=h;let⟨u,rfl,rx⟩:=sH r;have hl:=lX;have hs:ZF=16777216:=aaS;cases x with
 |str y=>
  let⟨t,rfl⟩:=rx;obtain⟨hy,e'⟩:y.length<=ZF/\n=y.length:=e;subst e';show len_str () ⟨.int _,H,I.tok _,⟨_,rfl⟩,q⟩
 |byt y=>
  let⟨t,rfl⟩:=rx;obtain⟨hy,e'⟩:y.size<=ZF/\n=y.size:=e;subst e';show W.len_bytes () ⟨.int _,H,I.tok _,⟨_,rfl⟩,q⟩
 |ref p=>
  ext rx;have e':(∃xs,SqL X.K H p xs/\n=xs.length)\/∃xs,SqT X.K H p xs/\n=xs.length:=e;rcases e' with ⟨xs,hx,e'⟩|⟨xs,hx,e'⟩
  .subst e';let⟨its,r',pl,hz⟩:=I.list hx;have Zz:=r'.length;show Calls.call_len_list pl.isList (by simp only[aaH];lia) ⟨.int xs.length,H,I.tok _,⟨_,by simp only[aaH];rw[Zz]⟩,q⟩
  .subst e';let⟨its,r',pl,hz⟩:=I.tuple hx;have Zz:=r'.length;show len_tuple pl (by simp only[aaH];lia) ⟨.int xs.length,H,I.tok _,⟨_,by simp only[aaH];rw[Zz]⟩,q⟩
 |_=>show (show False from e).elim
end
structure ObjM(h:ZH)(x dx C:ZB)(mA:Zg):Prop where
 obj:h.get? x=some (ahS C dx)
 ns:h.Ns1 dx mA
 ne:dx≠x
def Ev{h:ZH}{dx:ZB}{mA:Zg}(n:h.Ns1 dx mA):∃od,h.get? dx=some od/\∀name,aiI name od=some (mA name):=by
 let⟨o,es,ep,ho,hd,hk,_,hm⟩:=n;split⟨o,ho,λname=>?_⟩;have e:=hm name;unfold nsFind findBy at e;rw[<-Array.find?_toList] at e;unfold aiI;rw[hd];dsimp only;split
 .rename_i y q;rw[q] at e;show aaF some e
 .rename_i q;rw[q] at e;have a:es.toList.any (·.refKey)=false:=by
   rw[afC];intro y hy;let⟨z,t,hkey⟩:=hk y<|Array.mem_toList_iff.1 hy;simp[DictEntry.refKey,hkey]
  have a':¬es.toList.any (·.refKey)=true:=by rw[a];show aa1
  rw[aad a'];show aaF some e
def ObjM.look{dx:ZB}{mA:Zg}(I:ObjM h x dx C mA):∃od,W.InstAt h x (ahS C dx) C (some od)/\∀name,aiI name od=some (mA name):=
 let ⟨od,ho,hl⟩:=Ev I.ns
 ⟨od,⟨I.obj,rfl,rfl,ho⟩,hl⟩
section
variable {prog:ZL}{w:ZI}{A:ZP}{E:Ze}{s:ZD}{K:Zj}{x dx C f:ZB}{mA:Zg}{name:Str}{v:ZE}
def LQ{expr:Bool}{Q:Ze}(X:K.In s.heap)(I:ObjM s.heap x dx C mA)(hg:aiH K C name=true)(hh:aix K C=true)
  (ha:agY K (.ref C) name=some none) (hv:mA name=some v) (hv':W.handedIn v=true) (h:Q v { s with toks:=s.toks+1 }) :
  ZG (ZJ prog w) A (getAttr (.ref x) name expr) Q E s:=by
 let⟨od,J,hl⟩:=I.look;show W.get_value X J (aeA hg).1 (W.findObj_own hh ha rfl<|#v[hl,hv]) hv' h
def GY{Q:ZE×Zh->ZD->Prop}(X:K.In s.heap)(I:ObjM s.heap x dx C mA)(hg:aiH K C name=true)
  (hf:agY K (.ref C) name=some (some<|.ref f)) (ht:W.isFn K (.ref f)=true) (hv:mA name=none) (h:Q (.ref f,[.ref x]) s) :
  ZG (ZJ prog w) A (ag8 (.ref x) name pl) Q E s:=by
 let⟨od,J,hl⟩:=I.look;show W.method_fn X J (aeA hg).1 (aeA hg).2 hf (ab2.1 ht) (by show (aiI name od).map (·.isSome)=some false;rw[hl,hv];rfl) h
def NG{Q:Unit->ZD->Prop}(X:K.In s.heap)(I:ObjM s.heap x dx C mA)
  (hs:agY K (.ref C) "__setattr__"=some (some<|.builtin "object.__setattr__")) (hp:W.plainOver K C=true) (ht:ai3 K C name=some none) (hh:aix K C=true)
  (hw:ajf mA ns) (hsz:ns.length<=ZF)
  (h:∀h',ObjM h' x dx C (λy=>if y=name then some v else mA y)->ahA dx s.heap h'->Q Unit.unit { s with heap:=h',toks:=s.toks+2 }) :
  ZG (ZJ prog w) A (setAttr (.ref x) name v) Q E s:=by
 let⟨od,J,hl⟩:=I.look;split W.set_plain X J hs<|W.osa_open (s:={ s with toks:=s.toks+1 }) (r:=none) X J hp ht λb=>?_;let⟨cd,hc,hd'⟩:=aeB hh;have hx:s.heap.get? x=some ⟨.ref C,some dx,.plain,#[]⟩:=I.obj;split aaa<|aal<|aaa<|aaa<|wpAny_loadPart hx<|aaa<|W.Looks.here (s:={ s with toks:=s.toks+1 }) (W.looks_clsIn X hc) ?_;rw[hd'];split aal (a:=some dx)<|aaa<|aal<|aaa ?_;split wpAny_nsSet1 (s:={ s with toks:=s.toks+1 }) I.ns λh' hn2 hs2=>?_;let⟨oD,esD,epD,hoD,hdD,hcD⟩:=hn2.count<|PySem.Within.cons name v hw;split aaa<|wpAny_lookBehind hoD (by rw[hdD];show pastItsLine_dict<|aaN hcD<|by rw[aay];lia) ?_;show aal<|h _ ⟨(hs2.2 _<|aaI I.ne).trans I.obj,hn2,I.ne⟩ hs2
def HI{vs:Zh}{kw:List<|Str×ZE}(X:K.In s.heap)(hm:W.makesIn K C=true)
  (hi:agY K (.ref C) "__init__"=some (some<|.ref f)) (hf:W.typeIn K (.ref f)=some (.type "function"))
  (h:agU (ZJ prog w) (A.under<|.builtin "type.__call__" ⟨.ref C::vs,kw⟩) (.call (.ref f) ⟨.ref (s.heap.objs.size+1)::vs,kw⟩) (W.InitBack (s.heap.objs.size+1) R)
   { s with heap:=(s.heap.push ahk).push (ahS C s.heap.objs.size) }) :
  agU (ZJ prog w) A (.call (.ref C) ⟨vs,kw⟩) R s:=by
 let⟨hh,g,d,t,os⟩:=s;show W.make_core (W.makes_of X hm) (ad2 X hi) (λself=>W.bind_fn X self hf) (.inl rfl) h
end
def putF(f:Str)(v:V):List (Str×V)->List (Str×V)
 |[]=>[(f,v)]
 | (g,x)::r=>if g=f then (g,v)::r else (g,x)::putF f v r
theorem pd(f g:Str)(v:V):∀fs:List<|Str×V,(putF f v fs).lookup g=if g=f then some v else fs.lookup g
 |[]=>by
  show agD g [(f,v)]=_;by_cases h:g=f
  .have hb:(g==f)=true:=ab2.2 h;simp only[agD,hb,aac h]
  .have hb:(g==f)=false:=acy.2 h;simp only[agD,hb,aad h]
 | (k,x)::r=>by
  have ih:=pd f g v r;rw[show putF f v ((k,x)::r)=(if k=f then (k,v)::r else (k,x)::putF f v r) from rfl];by_cases hk:k=f
  .rw[aac hk];by_cases h:g=k
   .have hb:(g==k)=true:=ab2.2 h;simp only[agD,hb,aac<|h.trans hk]
   .have hb:(g==k)=false:=acy.2 h;simp only[agD,hb,aad (λe:g=f=>h<|e.trans hk.symm)]
  .rw[aad hk];by_cases h:g=k
   .have hb:(g==k)=true:=ab2.2 h;simp only[agD,hb,aad (λe:g=f=>hk<|h.symm.trans e)]
   .have hb:(g==k)=false:=acy.2 h;simp only[agD,hb];show ih
theorem oo(f:Str)(v:V):∀fs:List<|Str×V,f∈(putF f v fs).map (·.1)/\∀g,g∈fs.map (·.1)->g∈(putF f v fs).map (·.1)
 |[]=>⟨by simp[putF],λg h=>by simp at h⟩
 | (k,x)::r=>by
  let⟨i1,i2⟩:=oo f v r;rw[show putF f v ((k,x)::r)=(if k=f then (k,v)::r else (k,x)::putF f v r) from rfl];by_cases hk:k=f
  .rw[aac hk];subst hk;show⟨by simp,λg h=> ~~~h⟩
  .rw[aad hk];split⟨?_,λg h=>?_⟩
   .rw[aax];show aaK _ i1
   .rw[aax] at h ⊢;rcases aau.1 h with e|e
    .exact aau.2<|.inl e
    .exact aaK _<|i2 g e
theorem o9(f:Str)(v:V):∀fs:List<|Str×V,(putF f v fs).length<=fs.length+1
 |[]=>by simp[putF]
 | (k,x)::r=>by
  have ih:=o9 f v r;rw[show putF f v ((k,x)::r)=(if k=f then (k,v)::r else (k,x)::putF f v r) from rfl];by_cases hk:k=f
  .rw[aac hk,aay,aay];lia
  .rw[aad hk,aay,aay];lia
def RelO.some_of{v:V} (r:RelO (some v) o):∃u,o=some u/\RelV v u:=by
 cases o with
 |none=>show (show False from r).elim
 |some u=>show⟨u,rfl,r⟩
def RelO.none_of(r:RelO none o):o=none:=by
 cases o with
 |none=>rfl
 |some u=>show (show False from r).elim
def Ek(r:RelV v u):W.handedIn u=true:=by
 cases v with
 |N=>cases (show u=ZX from r);rfl
 |B b=>cases (show u=ahp b from r);rfl
 |int i=>let⟨t,e⟩:=(show ∃t,u=ahC i t from r);ext e;rfl
 |str x=>let⟨t,e⟩:=(show ∃t,u=ag2 x t from r);ext e;rfl
 |byt b=>let⟨t,e⟩:=(show ∃t,u=ajW b t from r);ext e;rfl
 |flt b=>let⟨t,e⟩:=(show ∃t,u=ajZ b t from r);ext e;rfl
 |ref a=>cases (show u=ZO a from r);rfl
 |ty n=>cases (show u=ajN n from r);rfl
section
variable {P:ZL}{w:ZI}{H:Hp}{h:ZH}{a C dx:ZB}{fs:List<|Str×V}
def vQ(hok:HOk P w H h)(e:H a=some (.ins C dx fs)):∃mA,ObjM h a dx C mA/\(∀f,RelO (fs.lookup f)<|mA f)/\ajf mA (fs.map (·.1))/\fs.length<=1000/\H dx=some (.own a):=by
 let⟨d,z,ne,ob,mA,n,r,q⟩:=(show ObjOk P w H h a (.ins C dx fs) from hok a _ e)
 show⟨mA,⟨ob,n,ne⟩,r,q,z,d⟩
end
structure Cls(K:Zj)(C:ZB):Prop where
 pg:aiH K C ahs=true
 hd:aix K C=true
 po:W.plainOver K C=true
 sa:agY K (.ref C) "__setattr__"=some (some<|.builtin "object.__setattr__")
def Cls.get{K:Zj}{C:ZB}(c:Cls K C)(f:Str):aiH K C f=true:=c.pg
def NoAttr(K:Zj)(C:ZB)(f:Str):Prop:=agY K (.ref C) f=some none
def NoAttr.taker{K:Zj}{C:ZB}{f:Str}(n:NoAttr K C f):ai3 K C f=some none:=by unfold ai3;rw[show agY K (.ref C) f=some none from n];rfl
structure Meth(K:Zj)(C:ZB)(m:Str)(f:ZB):Prop where
 at_:agY K (.ref C) m=some (some<|.ref f)
 fn:W.isFn K (.ref f)=true
 kp:ahi K (.ref f)=true
section
variable {X:Cx}{Zx:Zf}{Z:St}{H:Hp}{s:ZD}{a C dx:ZB}{fs:List<|Str×V}{f:Str}{v:V}{A:ZP}{E:Ze}
def Af{b:Bool}{Q:Ze}(I:Inv X Zx Z H s)(e:H a=some (.ins C dx fs))(c:Cls X.K C)(n:NoAttr X.K C f)(l:fs.lookup f=some v)
  (h:∀u s',Inv X Zx Z H s'->RelV v u->Q u s'):ZG (ZJ X.p X.w) A (getAttr (.ref a) f b) Q E s:=by
 let⟨mA,α,r,_,_,_⟩:=vQ I.hok e;let⟨u,hu,ru⟩:=RelO.some_of (v:=v) (o:=mA f) (by rw[<-l];show r f);show LQ I.kIn α (c.get f) c.hd n hu (Ek ru)<|h u _ (I.tok _) ru
def gA{Q:ZE×Zh->ZD->Prop}(I:Inv X Zx Z H s)(e:H a=some (.ins C dx fs))(c:Cls X.K C)(k:Meth X.K C m g)(l:fs.lookup m=none)
  (h:Q (.ref g,[.ref a]) s):ZG (ZJ X.p X.w) A (ag8 (.ref a) m pl) Q E s:=by
 let⟨mA,α,r,_,_,_⟩:=vQ I.hok e;have hn:mA m=none:=RelO.none_of (by rw[<-l];show r m);show GY I.kIn α (c.get m) k.at_ k.fn hn h
def AU{Q:Unit->ZD->Prop}(I:Inv X Zx Z H s)(e:H a=some (.ins C dx fs))(c:Cls X.K C)(n:NoAttr X.K C f)(hl:fs.length<1000)(ry:RelV y u)
  (h:∀s',Inv X Zx Z (upd H a<|.ins C dx<|putF f y fs) s'->Q Unit.unit s'):ZG (ZJ X.p X.w) A (setAttr (.ref a) f u) Q E s:=by
 let⟨mA,α,r,wi,_,ho⟩:=vQ I.hok e;have hz:(fs.map (·.1)).length<=ZF:=by rw[aar,aaS];lia
 split NG I.kIn α c.sa c.po n.taker c.hd wi hz λh' O' sb=>h _ ?_;have hd:∃o,h'.get? dx=some o:=let ⟨o,_,_,e',_⟩:=O'.ns;⟨o,e'⟩
 split I.write (x:=a) (e:=dx) (by rw[e];show agW) (.inr ho) (λb q hb z=>(sb.2 b hb).trans z) hd ?_;split⟨by rw[aR α.ne];show ho,?_,α.ne,O'.obj,_,O'.ns,λg=>?_,λg hg=>?_⟩
 .have:=o9 f y fs;lia
 .show RelO ((putF f y fs).lookup g) (if g=f then some u else mA g);rw[pd];by_cases q:g=f
  .rw[aac q,aac q];show ry
  .rw[aad q,aad q];show r g
 .by_cases q:g=f
  .rw[q];show (oo f y fs).1
  .refine (oo f y fs).2 g<|wi g λz=>hg ?_;show (if g=f then some u else mA g)=none;rw[aad q];show z
def Inv.made(I:Inv X Zx Z H s):Inv X Zx Z (upd (upd H s.heap.objs.size<|.own<|s.heap.objs.size+1) (s.heap.objs.size+1)<|.ins C s.heap.objs.size [])
  { s with heap:=(s.heap.push ahk).push (ahS C s.heap.objs.size) }:=by
 have e1:(s.heap.push ahk).get? s.heap.objs.size=some ahk:=aaB s.heap rfl;have e2:((s.heap.push ahk).push<|W.instObj C s.heap.objs.size).get? (s.heap.objs.size+1)=some (ahS C s.heap.objs.size):=by have:=aaB (s.heap.push ahk) (o:=ahS C s.heap.objs.size) rfl;rwa[ach] at this
 have e3:(s.heap.push ahk).Ns s.heap.objs.size<|λ_=>none:=⟨ahk,#[],_,e1,rfl,(λe he=>absurd he<|by simp),λ_=>rfl⟩
 have I1:=I.laid (a:=s.heap.objs.size) (o:=.own<|s.heap.objs.size+1) (h':=s.heap.push ahk) (t':=s.toks) (λb u q=>aas _ q) (aaq _) ⟨_,e1⟩;split I1.laid (a:=s.heap.objs.size+1) (o:=.ins C s.heap.objs.size []) (t':=s.toks) (λb u q=>aas _ q) (ac2<|ach _ _) ?_;have ne:s.heap.objs.size≠s.heap.objs.size+1:=aaC<|abo _;split⟨#v[aR ne,aH],aaL _,ne,e2,λ_=>none,(Heap.Ns1.of_empty e3).at λo q=>aas _ q,λ_=>agW,λy hy=>absurd rfl hy⟩
def K4{prog:ZL} {pos:Pos} (hb:ahX e f env (ZN e env)=ZN e env)
  (h:ZG (ZJ prog w) A (ZN e env) (λo s₁=>ZG (ZJ prog w) A (getAttr o f true) Q E s₁) E s):ZG (ZJ prog w) A (ZN (.Attribute e f pos) env) Q E s:=
 Attribute_any_ h (#v[arm_eval_Attribute,hb])
end
def Yn(K:Zj)(ta tv:TE)(f:Str):TS:=λD Z H=>tv Z H λy H1=>ta Z H1 λx H2=>∃a C dx fs,x=.ref a/\H2 a=some (.ins C dx fs)/\Cls K C/\NoAttr K C f/\fs.length<1000 /\
 D.nx Z (upd H2 a<|.ins C dx<|putF f y fs)
section
variable {X:Cx}{o value:ZA}{f:Str}{pos pos':Pos}{ta tv:TE}
def Tb(ha:PE X o ta)(hv:PE X value tv)(hs:ahM value (some<|.Attribute o f pos') pos.line X.e=pure false):PS X (.Assign [.Attribute o f pos'] value pos)<|Yn X.K ta tv f:=by intro Zx s Z H D I h;split plainObj_wpAny_Assign_Attribute (bz (hv Zx s Z H _ I h) λu s1 ⟨y,H1,I1,ry,q⟩=>bz (ha Zx s1 Z H1 _ I1 q) λov s2 Zy=>?_) hs;let⟨x,H2,I2,rx,a,C,dx,fs,ex,ea,c,n,l,q2⟩:=Zy;subst ex;obtain rfl:ov=ZO a:=rx;show AU I2 ea c n l ry λs3 I3=>⟨Z,_,I3,q2⟩
end
structure Zr(k:Nat)(A:ZP):Prop where
 hd:A.handled=none
 dp:A.depth+3*k+5<recursionLimit
 un:A.units+16*k+200<agC
def Zr.mono{j k:Nat} (r:Zr k A)(h:j<=k):Zr j A:=⟨r.hd,by have:=r.dp;lia,by have:=r.un;lia⟩
def Zr.deeper{k:Nat} (r:Zr (k+1) A)(env:Env):Zr k<|A.deeper env:=
 ⟨r.hd,by have:=r.dp;show A.depth+1+3*k+5<_;lia,by have:=r.un;show A.units+3+16*k+200<_;lia⟩
def Aw{A:ZP}{C:ZB}{us:Zh}{kw:List<|Str×ZE}:(A.under<|.builtin "type.__call__" ⟨.ref C::us,kw⟩).depth=A.depth+1:=by
 first|rfl|simp[aiX,Code.weight,Code.isCreation,Code.isGuard,Code.isCaller,aju,aiV,guardIds]
def Ax{A:ZP}{C:ZB}{us:Zh}{kw:List<|Str×ZE}:(A.under<|.builtin "type.__call__" ⟨.ref C::us,kw⟩).units=A.units+1:=by
 first|rfl|simp[aiX,Code.cUnits,aju,aiV]
def Zr.make{k:Nat} (r:Zr (k+1) A)(C:ZB)(us:Zh)(kw:List<|Str×ZE):Zr k<|A.under (.builtin "type.__call__" ⟨.ref C::us,kw⟩):=
 ⟨r.hd,by have:=r.dp;rw[Aw];lia,by have:=r.un;rw[Ax];lia⟩
def Zr.depth{k:Nat} (r:Zr k A):A.depth<recursionLimit:=by have:=r.dp;lia
def Zr.units{k:Nat} (r:Zr k A):A.units+64<agC:=by have:=r.un;lia
def tD:TA:=λ_ H Q=>Q [] H
def lu(ta:TE)(tr:TA):TA:=λZ H Q=>ta Z H λx H1=>tr Z H1 λxs H2=>Q (x::xs) H2
section
variable {X:Cx}{e:ZA}{es:List ZA}{te:TE}{t:TA}{pos:Pos}
def oH:PA X [] tD:=λ_ _ _ _ H Q I h=>aeC ⟨[],H,I,.nil,h⟩
def eZ(ha:PE X e te)(hr:PA X es t)(hs:ZQ (e::es) X.e=(false,ZN e X.e)::ZQ es X.e:=by rfl):PA X (e::es)<|lu te t:=by intro pos Zx s Z H Q I h;rw[hs];show ZG _ _ (spliced ((false,ZN e X.e)::ZU pos (ZQ es X.e))) _ _ s;split aeD<|bz (ha Zx s Z H _ I h) λu s1 Zy=>?_;let⟨x,H1,I1,r1,q1⟩:=Zy;show bz (hr pos Zx s1 Z H1 _ I1 q1) λus s2 ⟨xs,H2,I2,r2,q2⟩=>⟨x::xs,H2,I2,.cons r1 r2,q2⟩
def UQ(t:TA):TE:=λZ H Q=>t Z H λxs H1=>xs.length<=ZF/\∀p,H1 p=none->Q (.ref p) (upd H1 p<|.T xs)
def JI(t:TA):TE:=λZ H Q=>t Z H λxs H1=>xs.length<=ZF/\∀p,H1 p=none->Q (.ref p) (upd H1 p<|.L xs)
def Iv{x1}(h:PA X es t):PE X (.Tuple es x1 pos)<|UQ t:=by intro Zx s Z H Q I hq;split wpAny_Tuple_spliced<|bz (h pos Zx s Z H _ I hq) λus s1 ⟨xs,H1,I1,r,z,q⟩=>⟨by rw[<-r.length];show z,?_⟩;have hf:H1 s1.heap.objs.size=none:=I1.hok.fresh<|aaq _;split⟨.ref s1.heap.objs.size,upd H1 s1.heap.objs.size<|.T xs,I1.laid (t':=s1.toks) (λb u e=>aas _ e) (aaq _) ?_,rfl,q _ hf⟩;show⟨z,us,r,TupN.new _ _⟩
def Ik(h:PA X es t):PE X (.List es pos)<|JI t:=by intro Zx s Z H Q I hq;split wpAny_List_spliced<|bz (h pos Zx s Z H _ I hq) λus s1 ⟨xs,H1,I1,r,z,q⟩=>⟨by rw[<-r.length];show z,?_⟩;have hf:H1 s1.heap.objs.size=none:=I1.hok.fresh<|aaq _;split⟨.ref s1.heap.objs.size,upd H1 s1.heap.objs.size<|.L xs,I1.laid (t':=s1.toks) (λb u e=>aas _ e) (aaq _) ?_,rfl,q _ hf⟩;show⟨z,us,0,r,aaB _ rfl⟩
end
abbrev Sp:=Za->Hp->VK->XK->Prop
abbrev BA:=List Env->Hp->ZD->XK->Ze
structure Env0(P:ZL)(w:ZI)(K:Zj)(mg:Zg)(base:ZH)(A:ZP)(outer:List Env)(s:ZD)(H:Hp):Prop where
 frames:A.frames=some outer
 mod:Mod K mg base
 bs:∀b o,base.get? b=some o->s.heap.get? b=some o/\H b=none
 bsz:base.objs.size<=s.heap.objs.size
 funs:s.heap.FunFrames base outer
 frf:∀b∈pF outer,H b=none
 hok:HOk P w H s.heap
 bare:ahc s.gens
def CE(outer:List Env)(P:ZL)(w:ZI)(H:Hp)(s:ZD)(Q:VK)(u:ZE)(s':ZD):Prop:=
 ∃v H',s'.os=s.os/\ahc s'.gens/\Un (pF outer) [] H H' s.heap s'.heap/\HOk P w H' s'.heap/\RelV v u/\Q v H'
def CR(CX:BA)(outer:List Env)(P:ZL)(w:ZI)(H:Hp)(s:ZD)(Q:VK)(E:XK)(r:ag4)(s':ZD):Prop:=
 match r with
 |.ok (.ret u)=>CE outer P w H s Q u s'
 |.ok _=>False
 |.error e=>CX outer H s E e s'
structure Zs(P:ZL)(w:ZI)(K:Zj)(mg:Zg)(base:ZH)(CX:BA)(k:Nat)(f:ZB)(fd:ZW)(ps:Zl)(sp:Sp):Prop where
 len:∀vs H Q E,sp vs H Q E->vs.length=ps.length
 run:∀(A:ZP) (outer:List Env) (s:ZD) (H:Hp) (args:Args) (us:Zh) (vs:Za) (Q:VK) (E:XK),Zr k A->Env0 P w K mg base A outer s H->ah1 s fd args (ps.zip us)->Vals vs us->sp vs H Q E ->
  agU (ZJ P w) A (.call (.ref f) args) (CR CX outer P w H s Q E) s
def Env0.make{P:ZL}{w:ZI}{K:Zj}{mg:Zg}{base:ZH}{A:ZP}{outer:List Env}{s:ZD}{H:Hp}(e:Env0 P w K mg base A outer s H)(C:ZB)(us:Zh)(kw:List<|Str×ZE) :
  Env0 P w K mg base (A.under<|.builtin "type.__call__" ⟨.ref C::us,kw⟩) outer s H:=⟨by first|show e.frames|(simpa[aiX,Code.envs,aiV,pushEnvs] using e.frames),e.mod,e.bs,e.bsz,e.funs,e.frf,e.hok,e.bare⟩
section
variable {X:Cx}{Zx:Zf}{Z:St}{H:Hp}{s s':ZD}
def Inv.env0(I:Inv X Zx Z H s):Env0 X.p X.w X.K X.mg X.ba X.A X.t s H:=
 ⟨I.ok.frames,I.ok.mod,I.bs,aaN I.ok.bsz I.sz,I.stack,I.stkFree,I.hok,I.bare⟩
def Inv.after(I:Inv X Zx Z H s)(h:CE X.t X.p X.w H s Q u s'):EP X Zx Z Q u s':=by let⟨v,H',os,bare,un,hok,r,q⟩:=h;let⟨hh,g,d,t,os'⟩:=s';obtain rfl:os'=s.os:=os;show⟨v,H',I.call (h':=hh) (g':=g) (d':=d) (t':=t) (ch:=[]) un hok bare<|λb z=>absurd z<|by simp,r,q⟩
end
def sB(sp:Sp)(dvs:Za)(E:XK)(t:TA):TE:=λZ H Q=>t Z H λvs H1=>sp (vs++dvs) H1 Q E
def JJ(C:ZB)(sp:Sp)(dvs:Za)(E:XK)(t:TA):TE:=λZ H Q=>t Z H λvs H1=>∀x dx,H1 x=none->H1 dx=none->dx≠x ->
 sp (.ref x::(vs++dvs)) (upd (upd H1 dx<|.own x) x<|.ins C dx []) (λv H2=>v=.N/\Q (.ref x) H2) E
def Binds(K:Zj)(fd:ZW)(ps:Zl)(ds:Zh):Prop:=
 ∀(s:ZD) (us:Zh),K.In s.heap->(us++ds).length=ps.length->ah1 s fd ⟨us,[]⟩ (ps.zip<|us++ds)
def Binds.all{K:Zj}{fd:ZW}{ps:Zl}(h:∀us:Zh,us.length=ps.length->aiO fd ⟨us,[]⟩=pure (ps.zip us)):Binds K fd ps []:=λs us _ hl=>by rw[abf] at hl ⊢;show .of_eq<|h us hl
def dF(CX:BA)(X:Cx)(E:XK):Prop:=∀(Zx:Zf) (Z:St) (H:Hp) (s:ZD) (e:ZE) (s':ZD),Inv X Zx Z H s->CX X.t H s E e s'->X.xe e s'
section
variable {X:Cx}{CX:BA}{k:Nat}{f C:ZB}{fd:ZW}{ps:Zl}{sp:Sp}{dvs:Za}{ds:Zh}{E:XK}{x:Str}{p pos:Pos}{e:ZA}{es:List ZA}{t:TA}
def mj{Zx:Zf} (F:Zs X.p X.w X.K X.mg X.ba CX k f fd ps sp)(hr:Zr k X.A)(hb:Binds X.K fd ps ds)(hd:Vals dvs ds)(hx:dF CX X E)
  (I:Inv X Zx Z H s) (r:Vals vs us) (h:sp (vs++dvs) H Q E):wX X (call (.ref f) us) (EP X Zx Z Q) X.xe s:=by
 have r2:Vals (vs++dvs)<|us++ds:=r.append hd;have hl:(us++ds).length=ps.length:=by rw[<-r2.length];show F.len _ _ _ _ h
 split ac3<|ads (F.run X.A X.t s H ⟨us,[]⟩ (us++ds) (vs++dvs) Q E hr I.env0 (hb s us I.kIn hl) r2 h) λr s' hq=>?_;cases r with
 |error e=>show hx Zx Z H s e s' I hq
 |ok fl=>
  cases fl with
  |ret u=>show I.after hq
  |next=>show agy hq
  |brk=>show agy hq
  |cont=>show agy hq
def wv(F:Zs X.p X.w X.K X.mg X.ba CX k f fd ps sp)(hr:Zr k X.A)(hg:Gl X x)(hm:X.mg x=some (.ref f))(hk:ahi X.K (.ref f)=true)(hb:Binds X.K fd ps ds)(hd:Vals dvs ds)(hx:dF CX X E)
  (ha:PA X (e::es) t) (hdb:(x==("__debug__" : Str))=false:=by decide) (he:ZQ (e::es) X.e=(false,ZN e X.e)::ZQ es X.e:=by rfl) (hpl:(ZU pos<|starEach es X.e).any (·.1)=false:=by rfl) :
  PE X (.Call (.Name x p) (e::es) [] pos) (sB sp dvs E t):=by
 intro Zx s Z H Q I h;split ac4<|fA I hg hm ?_ hdb;split adt (h₀:=X.ba) I.ok.mod.kin hk (bz (ha pos Zx s Z H _ I h) λus s1 ⟨vs,H1,I1,r,q⟩=>⟨I1.kIn,?_⟩) he hpl;show mj F hr hb hd hx I1 r q
def yw(F:Zs X.p X.w X.K X.mg X.ba CX k f fd ps sp)(hr:Zr k X.A)(hg:Gl X x)(hm:X.mg x=some (.ref f))(hk:ahi X.K (.ref f)=true)(hb:Binds X.K fd ps ds)(hd:Vals dvs ds)(hx:dF CX X E)
  (hdb:(x==("__debug__" : Str))=false:=by decide):PE X (.Call (.Name x p) [] [] pos)<|sB sp dvs E tD:=by
 intro Zx s Z H Q I h;split ac4<|fA I hg hm ?_ hdb;show ad3 I.kIn hk<|mj (us:=[]) F hr hb hd hx I .nil h
structure Mk(K:Zj)(C f:ZB):Prop where
 makes:W.makesIn K C=true
 init:agY K (.ref C) "__init__"=some (some<|.ref f)
 fn:W.isFn K (.ref f)=true
 kp:ahi K (.ref C)=true
def yJ{Zx:Zf} {Q:VK} (M:Mk X.K C f)(F:Zs X.p X.w X.K X.mg X.ba CX k f fd ps sp)(hr:Zr (k+1) X.A)(hb:Binds X.K fd ps ds)(hd:Vals dvs ds)
  (hx:dF CX X E) (I:Inv X Zx Z H s) (r:Vals vs us)
  (h:∀x dx,H x=none->H dx=none->dx≠x->sp (.ref x::(vs++dvs)) (upd (upd H dx<|.own x) x<|.ins C dx []) (λv H2=>v=.N/\Q (.ref x) H2) E) :
  wX X (call (.ref C) us) (EP X Zx Z Q) X.xe s:=by
 have hq:=h (s.heap.objs.size+1) s.heap.objs.size (I.hok.fresh<|aco _) (I.hok.fresh<|aaq _)<|aaC<|abo _;have I2:=Inv.made (C:=C) I;have r2:Vals (V.ref (s.heap.objs.size+1)::(vs++dvs)) (ZO (s.heap.objs.size+1)::(us++ds)):=.cons rfl<|r.append hd;have hl:(ZO (s.heap.objs.size+1)::us++ds).length=ps.length:=by have e:=r2.length;rw[F.len _ _ _ _ hq] at e;show e.symm
 split ac3 (HI (f:=f) I.kIn M.makes M.init (ab2.1 M.fn) (ads (F.run _ X.t _ _ ⟨ZO (s.heap.objs.size+1)::us,[]⟩ (ZO (s.heap.objs.size+1)::(us++ds)) _ _ E (hr.make C us [])
  (I2.env0.make C us []) (hb _ (ZO (s.heap.objs.size+1)::us) I2.kIn hl) r2 hq) λr s' hq'=>?_))
 cases r with
 |error e=>show hx Zx Z _ _ e s' I2 hq'
 |ok fl=>
  cases fl with
  |ret u=>
   let⟨v,H',I3,rv,ev,q3⟩:=I2.after hq';subst ev;show⟨rv,⟨V.ref<|s.heap.objs.size+1,H',I3,rfl,q3⟩⟩
  |next=>show agy hq'
  |brk=>show agy hq'
  |cont=>show agy hq'
def MM(M:Mk X.K C f)(F:Zs X.p X.w X.K X.mg X.ba CX k f fd ps sp)(hr:Zr (k+1) X.A)(hg:Gl X x)(hm:X.mg x=some (.ref C))(hb:Binds X.K fd ps ds)(hd:Vals dvs ds)(hx:dF CX X E)
  (ha:PA X (e::es) t) (hdb:(x==("__debug__" : Str))=false:=by decide) (he:ZQ (e::es) X.e=(false,ZN e X.e)::ZQ es X.e:=by rfl) (hpl:(ZU pos<|starEach es X.e).any (·.1)=false:=by rfl) :
  PE X (.Call (.Name x p) (e::es) [] pos) (JJ C sp dvs E t):=by
 intro Zx s Z H Q I h;split ac4<|fA I hg hm ?_ hdb;split adt (h₀:=X.ba) I.ok.mod.kin M.kp (bz (ha pos Zx s Z H _ I h) λus s1 ⟨vs,H1,I1,r,q⟩=>⟨I1.kIn,?_⟩) he hpl;show yJ M F hr hb hd hx I1 r q
def Il(M:Mk X.K C f)(F:Zs X.p X.w X.K X.mg X.ba CX k f fd ps sp)(hr:Zr (k+1) X.A)(hg:Gl X x)(hm:X.mg x=some (.ref C))(hb:Binds X.K fd ps ds)(hd:Vals dvs ds)(hx:dF CX X E)
  (hdb:(x==("__debug__" : Str))=false:=by decide):PE X (.Call (.Name x p) [] [] pos)<|JJ C sp dvs E tD:=by
 intro Zx s Z H Q I h;split ac4<|fA I hg hm ?_ hdb;show ad3 I.kIn M.kp<|yJ (us:=[]) M F hr hb hd hx I .nil h
end
structure Zw(N P:Zl)(sc:ZS):Prop where
 kind:sc.kind=.function
 co:sc.isCoroutine=false
 gen:sc.isGenerator=false
 nd:N.Nodup
 pre:N.take P.length=P
 par:∀x∈P,sc.names.lookup x=some .local\/sc.names.lookup x=some .cell
 nofree:∀y∈sc.names,y.2 ≠ .free
theorem tW{kindOf:Str->Option agV}{x:Str}:∀ {binds:List<|Str×ZE} {m:Zg},(∀v,(x,v)∉binds)->ahv kindOf binds m x=m x
 |[],_,_=>rfl
 | (n,v)::r,m,h=>by
  unfold ahv;rw[tW λw hw=>h w<|aaK _ hw];split
  .have:x≠n:=by rintro rfl;show h v aaJ
   simp[this]
  .rfl
theorem tU{kindOf:Str->Option agV}{x:Str}:∀ {binds:List<|Str×ZE} {m:Zg},(∀v,(x,v)∉binds)->ahq kindOf binds m x=m x
 |[],_,_=>rfl
 | (n,v)::r,m,h=>by
  unfold ahq;rw[tU λw hw=>h w<|aaK _ hw];split
  .rfl
  .have:x≠n:=by rintro rfl;show h v aaJ
   simp[this]
theorem tV{kindOf:Str->Option agV}{x:Str}{v:ZE}:∀ {P:Zl} {vs:Zh} {i:Nat} {m:Zg},P.Nodup->P[i]?=some x->vs[i]?=some v->kindOf x=some .local ->
  ahv kindOf (P.zip vs) m x=some v
 |[],_,_,_,_,h,_,_=>by simp at h
 |_::_,[],_,_,_,_,h,_=>by simp at h
 |p::P,w::vs,0,m,nd,h1,h2,hk=>by
  simp at h1 h2;subst h1;subst h2;show ahv kindOf ((p,w)::P.zip vs) m p=_;unfold ahv;rw[tW λv hv=>(aaM.1 nd).1 (aeE hv).1,aac hk];simp
 |p::P,w::vs,i+1,m,nd,h1,h2,hk=>by show ahv kindOf ((p,w)::P.zip vs) m x=_;unfold ahv;show tV (i:=i) (aaM.1 nd).2 (~~~h1) (~~~h2) hk
theorem tT{kindOf:Str->Option agV}{x:Str}{v:ZE}:∀ {P:Zl} {vs:Zh} {i:Nat} {m:Zg},P.Nodup->P[i]?=some x->vs[i]?=some v->kindOf x≠some .local ->
  ahq kindOf (P.zip vs) m x=some v
 |[],_,_,_,_,h,_,_=>by simp at h
 |_::_,[],_,_,_,_,h,_=>by simp at h
 |p::P,w::vs,0,m,nd,h1,h2,hk=>by
  simp at h1 h2;subst h1;subst h2;show ahq kindOf ((p,w)::P.zip vs) m p=_;unfold ahq;rw[tU λv hv=>(aaM.1 nd).1 (aeE hv).1,aad hk];simp
 |p::P,w::vs,i+1,m,nd,h1,h2,hk=>by show ahq kindOf ((p,w)::P.zip vs) m x=_;unfold ahq;show tT (i:=i) (aaM.1 nd).2 (~~~h1) (~~~h2) hk
def jz(N:Zl)(vs:Za):St:=vs.map some++agJ (N.length-vs.length) none
def il(CX:BA)(P:ZL)(w:ZI)(K:Zj)(mg:Zg)(base:ZH)(N:Zl)(qual:Str)(scope:ZS)(f:ZB)(cd:ZE)(A:ZP)(outer:List Env)(s:ZD)(H:Hp)(E:XK):Cx where
 p:=P
 w:=w
 K:=K
 mg:=mg
 ba:=base
 A:=A.deeper<|envOfC qual scope s.heap.objs.size f cd
 N:=N
 s:=s
 h:=H
 e:=aih qual scope s.heap.objs.size f cd
 o:=outer
 t:=aih qual scope s.heap.objs.size f cd::outer
 ex:=[]
 c:=true
 fn:=λ_=>true
 pn:=[]
 xe:=λe s'=>ZG (ZJ P w) (A.deeper<|envOfC qual scope s.heap.objs.size f cd) (leaving (aih qual scope s.heap.objs.size f cd) e) (λ_ s''=>CX outer H s E e s'') (λe' s''=>CX outer H s E e' s'') s'
def xq{sc:ZS}{n:Nat}{x:Str}(h:sc.names.lookup x=some .cell):∃c,(ajh n sc.names []).lookup x=some c:=by have q:=akq sc.names n []<|.inl h;show acp.1 q
def En{CX:BA}{P:ZL}{w:ZI}{K:Zj}{mg:Zg}{base:ZH}{N ps:Zl}{qual:Str}{scope:ZS}{f:ZB}{cd:ZE}{A:ZP}{outer:List Env}{s s1:ZD}{H:Hp}{E:XK}{us:Zh}{vs:Za}
  (S:Zw N ps scope) (hd:A.handled=none) (e0:Env0 P w K mg base A outer s H) (hl:vs.length=ps.length) (r:Vals vs us)
  (x:InCallC s s.heap.objs.size (ahv (aih qual scope s.heap.objs.size f cd).kindOf (ps.zip us) λ_=>none) (ajh (s.heap.objs.size+1) scope.names []) (ahq (aih qual scope s.heap.objs.size f cd).kindOf (ps.zip us) λ_=>none) s1) :
  Inv (il CX P w K mg base N qual scope f cd A outer s H E) [] (jz N vs) H s1:=by
 have hpl:ps.length<=N.length:=by have:=aaF ag7 S.pre;rw[aeF] at this;lia
 let⟨h1,tk,rfl,hk⟩:=x.done;have noA:∀b:ZB,b∉(il CX P w K mg base N qual scope f cd A outer s H E).ex:=λb z=>absurd (show b∈([]:Zk) from z) (by simp);split⟨⟨e0.mod,S.kind,rfl,rfl,aaq _,λy z c h1 h2=>?_,λy hy=>?_,λy c _ h=>?_,λ_=>hd,Around.frames_deeper e0.frames,.inr ⟨rfl,rfl⟩,λb z=>absurd z<|noA b,e0.bs,e0.bsz,λb _ _=>noA b,λb z=>absurd z<|noA b,e0.funs,e0.frf⟩,
  rfl,e0.bare,Un.kept hk,⟨_,x.toInCall.ns,λi y v h1 h2 h3=>?_⟩,λy c h=>⟨_,x.cell y c h⟩,e0.hok.fresh<|aaq _,λy c h=>?_,λp hp=>absurd (show p∈([]:Zf) from hp)<|by simp,e0.hok.kept hk,?_⟩
 .exact name_of_addr x.apart (ac5 h1)<|ac5 h2
 .have hy:scope.names.lookup y=some .cell\/scope.names.lookup y=some .free:=hy;rcases hy with hy|hy
  .exact xq hy
  .exact absurd rfl<|S.nofree _<|ac5 hy
 .exact adq<|x.above y c<|ac5 h
 .have hi:i<vs.length:=by
   unfold jz at h2;by_cases hi:i<vs.length
   .exact hi
   .rw[acK<|~~~hi] at h2;rw[List.getElem?_replicate] at h2;split at h2<;>ext h2
  have ha:vs[i]?=some v:=by
   unfold jz at h2;rw[acq<|~~~hi,aaX] at h2;cases e:vs[i]? with
   |none=>rw[e] at h2;ext h2
   |some a=>rw[e] at h2;ext h2;rfl
  let⟨u,hu,rv⟩:=r.get ha;have hp:ps[i]?=some y:=by rw[<-S.pre,afD ()];show h1
  have ndP:ps.Nodup:=by rw[<-S.pre];show S.nd.sublist<|List.take_sublist _ _
  split⟨u,rv,?_⟩;rcases S.par y (abp hp) with k|k
  .exact .inl ⟨k,tV ndP hp hu k⟩
  .let⟨c,e⟩:=xq (n:=s.heap.objs.size+1) k;split .inr ⟨.inl k,c,e,?_⟩;have q:=x.cell y c e;rw[tT ndP hp hu<|by show scope.names.lookup y≠_;rw[k];decide] at q;show q
 .exact e0.hok.fresh<|adq<|x.above y c<|ac5 h
 .unfold jz;show _=N.length;rw[aat,aar,List.length_replicate];lia
def GX{CX:BA}{P:ZL}{w:ZI}{K:Zj}{mg:Zg}{base:ZH}{k:Nat}{f:ZB}{name qual:Str}{params:Arguments}{body:List ZM}{scope:ZS}{dV kV doc pm cdv ct oc:ZE}{an od:Option ZB}
  {osl:Array<|Zi} {N ps:Zl} {sp:Sp} (lk:K.lookup f=some ⟨oc,od,.func<|W.fnOf name qual params body scope dV kV doc pm an cdv ct,osl⟩) (hcd:aiP K cdv qual=true) (S:Zw N ps scope)
  (len:∀vs H Q E,sp vs H Q E->vs.length=ps.length)
  (hbody:∀(A:ZP) (outer:List Env) (s:ZD) (H:Hp) (vs:Za) (Q:VK) (E:XK),Zr k (A.deeper<|envOfC qual scope s.heap.objs.size f cdv)->sp vs H Q E ->
   ∃t,PSs (il CX P w K mg base N qual scope f cdv A outer s H E) body t/\t { nx:=λ_ H'=>Q .N H',rt:=Q } (jz N vs) H) :
  Zs P w K mg base CX (k+1) f (aid name qual params body scope dV kV doc pm an cdv ct) ps sp:=by
 split⟨len,λA outer s H args us vs Q E hr e0 hb r hsp=>?_⟩;have hl:=len _ _ _ _ hsp;have KX:K.In s.heap:=e0.mod.kin.keeps λb o e=>(e0.bs b o e).1;have lim:s.heap.NoLimit:=e0.mod.nolimit.keeps λb o e=>(e0.bs b o e).1;have hkind:∀y∈ps.zip us,scope.names.lookup y.1=some .local\/(scope.names.lookup y.1=some .cell/\((ajh (s.heap.objs.size+1) scope.names []).lookup y.1).isSome=true):=λhpt0 hy=>by
  let⟨n,v⟩:=hpt0;rcases S.par n (aeE hy).1 with q|q
  .exact .inl q
  .exact .inr ⟨q,akq _ _ _<|.inl q⟩
 split codeAny_call_function hr.depth (KX _ _ lk) rfl S.co S.gen rfl (W.codeRec_of KX hcd)<|hb _ _ _ _ ?_;split wpAny_newFunctionEnv_cells S.kind hkind λenv he s1 x=>?_;subst he;split⟨lim.keeps x.toInCall.keep,codeAny_func ?_⟩;let⟨t,ht,hq⟩:=hbody A outer s H vs Q E (hr.deeper _) hsp;have I:Inv (il CX P w K mg base N qual scope f cdv A outer s H E) [] (jz N vs) H s1:=En S hr.hd e0 hl r x;split aaO (ht [] s1 (jz N vs) H _ I hq) (λfl s' hs=>?_) λe s' hs=>hs;have fin:∀ {Z':St} {H':Hp} {v:V} {u:ZE},Inv (il CX P w K mg base N qual scope f cdv A outer s H E) [] Z' H' s'->RelV v u->Q v H'->CE outer P w H s Q u s':=
  λ{Z' H' v u} J rv q=>⟨v,H',J.os,J.bare,J.base,J.hok,rv,q⟩
 cases fl with
 |ret u=>
  let⟨v,Z',H',J,rv,q⟩:=hs;show fin J rv q
 |next=>
  let⟨Z',H',J,q⟩:=hs;show fin (v:=V.N) (u:=ZX) J rfl q
 |brk=>
  let⟨_,_,_,q⟩:=hs;show agy q
 |cont=>let⟨_,_,_,q⟩:=hs;show agy q
section
variable {X:Cx}{x:Str}{p pos:Pos}{e:ZA}{es:List ZA}{t:TA}{id T:String}{r:Za->Hp->VK->Prop}
def tCB(r:Za->Hp->VK->Prop)(t:TA):TE:=λZ H Q=>t Z H λvs H1=>r vs H1 Q
def r9(hc:CallR X (.builtin id) r)(hg:Gl X x)(hm:X.mg x=none)(hv:agz x=some (.builtin id))(ha:PA X (e::es) t)(hn:x ≠ "__name__" := by decide) (hdb:(x==("__debug__" : Str))=false:=by decide)
  (he:ZQ (e::es) X.e=(false,ZN e X.e)::ZQ es X.e:=by rfl) (hpl:(ZU pos<|starEach es X.e).any (·.1)=false:=by rfl):PE X (.Call (.Name x p) (e::es) [] pos)<|tCB r t:=by
 intro Zx s Z H Q I h;split ac4<|j7 I hg hm hv ?_ hn hdb;show akF (bz (ha pos Zx s Z H _ I h) λus s1 ⟨vs,H1,I1,r1,q1⟩=>hc Zx s1 Z H1 vs us Q I1 r1 q1) he hpl
def ET(hc:CallR X (.type T) r)(hg:Gl X x)(hm:X.mg x=none)(hv:agz x=some (.type T))(ha:PA X (e::es) t)(hn:x ≠ "__name__" := by decide) (hdb:(x==("__debug__" : Str))=false:=by decide)
  (he:ZQ (e::es) X.e=(false,ZN e X.e)::ZQ es X.e:=by rfl) (hpl:(ZU pos<|starEach es X.e).any (·.1)=false:=by rfl):PE X (.Call (.Name x p) (e::es) [] pos)<|tCB r t:=by
 intro Zx s Z H Q I h;split ac4<|j7 I hg hm hv ?_ hn hdb;show ac1 (bz (ha pos Zx s Z H _ I h) λus s1 ⟨vs,H1,I1,r1,q1⟩=>hc Zx s1 Z H1 vs us Q I1 r1 q1) he hpl
end
end L2
namespace HT
open PyProof.Rows
def li:Zn->Zn->Bool
 |[],[]=>false
 |[],_::_=>true
 |_::_,[]=>false
 |x::xs,y::ys=>if x=y then li xs ys else decide (x<y)
section
variable {prog:ZL}{w:ZI}{A:ZP}{E:Ze}{s:ZD}
def K9{vs ws:Zh}{Q:Ze}(ht:ahe s.heap t vs.toArray)(hb:ahe s.heap b ws.toArray)(hv:vs≠[])
  (h1:ws=[]->Q (.ref t) s) (h2:ws≠[]->Q (.ref s.heap.objs.size) { s with heap:=s.heap.push { cls:=.type "tuple",data:=.seq (vs++ws).toArray } })
  (hsz:vs.length+ws.length<=ZF):ZG (ZJ prog w) A (agK .Add (.ref t)<|.ref b) Q E s:=by
 let⟨⟨cls,dd,data,sl⟩,ho,hc,n,hd⟩:=id ht;let⟨⟨cls2,dd2,data2,sl2⟩,ho2,hc2,n2,hd2⟩:=id hb;simp only at hc hd hc2 hd2;subst hc hd hc2 hd2;have e:vs.toArray++ws.toArray=(vs++ws).toArray:=by simp
 by_cases hw:ws=[]
 .exact aeG ⟨_,ho,rfl⟩ ⟨_,ho2,rfl⟩ aeH aeI aeJ aeK (aeL _ _)
   (tuple_addW1 t b vs.toArray ws.toArray n n2 dd dd2 sl sl2 (~~~hv)<|by simp[hw]) ⟨ho,ho2,h1 hw⟩
 .refine aeG ⟨_,ho,rfl⟩ ⟨_,ho2,rfl⟩ aeH aeI aeJ aeK (aeL _ _)
   (tuple_addW2 t b vs.toArray ws.toArray n n2 dd dd2 sl sl2 (~~~hv) (~~~hw)<|by rw[aaH,aaH];show hsz) ⟨ho,ho2,?_⟩
  rw[e];show h2 hw
def dM(n d:Nat):Option Int->Nat
 |none=>d
 |some v=>if v<0 then (v+(n:Int)).toNat else min v.toNat n
def nG(n d:Nat):dM n d none=d:=rfl
def wF(n d k:Nat):dM n d (some (k:Int))=min k n:=by show (if (k:Int)<0 then ((k:Int)+(n:Int)).toNat else min (k:Int).toNat n)=min k n;rw[aad (),acL]
def TW(n d:Nat)(hd:d<=n)(o:Option Int):dM n d o<=n:=by
 cases o with
 |none=>show hd
 |some v=>
  show (if v<0 then (v+(n:Int)).toNat else min v.toNat n)<=n;by_cases hv:v<0
  .rw[aac hv];lia
  .rw[aad hv];show ake _ _
def BM(v:Int)(n d:Nat):(if v<0 then max (v+(n:Int)) 0 else min v (n:Int))=((dM n d (some v):Nat):Int):=by
 show (if v<0 then max (v+(n:Int)) 0 else min v (n:Int))=(((if v<0 then (v+(n:Int)).toNat else min v.toNat n):Nat):Int)
 by_cases hv:v<0
 .simp only[aac hv];lia
 .simp only[aad hv];lia
def zA(lo hi:Option Int)(n:Nat):ai7 lo hi 1 (n:Int)=(((dM n 0 lo:Nat):Int),((dM n n hi:Nat):Int)):=by
 have h1:¬((1:Int)<0):=()
 unfold ai7;simp only[h1,abZ];split Prod.ext ?_ ?_
 .cases lo with
  |none=>rfl
  |some v=>show BM v n 0
 .cases hi with
  |none=>rfl
  |some v=>show BM v n n
def AK(i j:Nat):aiE (i:Int) (j:Int) 1=j-i:=by
 unfold aiE;have h1:(1:Int) > 0:=()
 simp only[h1,ab3,Int.ediv_one];split<;>lia
def su{Q:Option Int->ZD->Prop}(p:ag9 v o)(h:Q o s):ZG (ZJ prog w) A (akP v) Q E s:=by
 cases p with
 |none=>show slicePart_none h
 |int i t=>show slicePart_int h
def iT{lo hi:Option Int}{n:Nat}{Q:Int×Int×Nat->ZD->Prop}(hs:s.heap.IsSliceOf sl vl vu .none)(pl:ag9 vl lo)(pu:ag9 vu hi)
  (h:Q (((dM n 0 lo:Nat):Int),1,dM n n hi-dM n 0 lo) s):ZG (ZJ prog w) A (ajA (.ref sl)<|pure (n:Int)) Q E s:=by
 let⟨os,hos,hcs,hds⟩:=id hs;unfold ajA akQ;split aaa<|aaa<|aaU hos hds (x:=vl) rfl<|aaa<|aaU hos hds (x:=vu) rfl<|aaa<|aaU hos hds (x:=.none) rfl<|aal ?_;split aaa<|slicePart_none ?_;show ZG _ _ (if ((1:Int)==0)=true then _ else _) _ _ s;rw[aad ⋯];split aaa<|su pl<|aaa<|su pu<|aaa<|aal ?_;show ZG _ _ (match ai7 lo hi 1 (n:Int) with|(lo,hi)=>pure (lo,(1:Int),aiE lo hi 1)) _ _ s;rw[zA lo hi n];show ZG _ _ (pure (((dM n 0 lo:Nat):Int),(1:Int),aiE ((dM n 0 lo:Nat):Int) ((dM n n hi:Nat):Int) 1)) _ _ s;rw[AK];show aal h
def Iz(xs:Array ZE)(i k:Nat):((ZV k).filterMap λ(m:Nat)=>xs[((i:Int)+(m:Int)*1).toNat]?).toArray=((xs.toList.drop i).take k).toArray:=by
 have e:(λ(m:Nat)=>xs[((i:Int)+(m:Int)*1).toNat]?)=λm=>xs[i+m]?:=by
  funext m
  have:((i:Int)+(m:Int)*1).toNat=i+m:=()
  rw[this]
 rw[e];have:=pick_run xs i k;rw[List.filterMap_map] at this;have e2:((λx=>xs[x]?)∘λx=>i+x)=λm=>xs[i+m]?:=rfl;rw[e2] at this;rw[this]
def m8{lo hi:Option Int}{Q:Ze}(ht:ahe s.heap t items)(hs:s.heap.IsSliceOf sl vl vu .none)(pl:ag9 vl lo)(pu:ag9 vu hi)
  (hw:¬(dM items.size 0 lo=0/\dM items.size items.size hi=items.size))
  (h:Q (.ref s.heap.objs.size) { s with heap:=s.heap.push { cls:=.type "tuple",data:=.seq ((items.toList.drop<|dM items.size 0 lo).take<|dM items.size items.size hi-dM items.size 0 lo).toArray } })
  (hsz:items.size<=ZF):ZG (ZJ prog w) A (ahd (.ref t)<|.ref sl) Q E s:=by
 have htake:sizeOk<|.seq ((items.toList.drop<|dM items.size 0 lo).take<|dM items.size items.size hi-dM items.size 0 lo).toArray:=by show ((items.toList.drop<|dM items.size 0 lo).take<|dM items.size items.size hi-dM items.size 0 lo).toArray.size<=ZF;rw[aaH,aeF,acM,adZ];omega
 have hj:dM items.size items.size hi<=items.size:=TW _ _ (aaq _) hi;let⟨os,hos,hcs,hds⟩:=id hs;have hTs:s.TypeIs (.ref sl) "slice" := ⟨os,hos,hcs⟩
 unfold ahd;try with_reducible split abc ?_
 first|split aaa (aal ?_)|skip
 split aaa<|afE ht.typeIs ⋯ ?_
 split aaa (aci (name:=ZC "__getitem__") ht.typeIs ac6
  (abC ac6 ht.typeIs afF ?_<|afG _ _))
 show ZG _ _ (akn (.ref t) >>= _) _ _ s;split aaa<|tupleItemsOf_ ht ?_;split aaa<|acA hTs ?_;rw[aac ⋯];split aaa<|iT hs pl pu ?_;have hno:¬((((dM items.size 0 lo:Nat):Int)==0&&(1:Int)==1&&(dM items.size items.size hi-dM items.size 0 lo)==items.size)=true):=by intro q;rw[aaV,aaV] at q;have q1:((dM items.size 0 lo:Nat):Int)=0:=eq_of_beq q.1.1;have q2:dM items.size items.size hi-dM items.size 0 lo=items.size:=eq_of_beq q.2;show hw ⟨by omega,by omega⟩
 show ZG _ _ (if (((dM items.size 0 lo:Nat):Int)==0&&(1:Int)==1&&(dM items.size items.size hi-dM items.size 0 lo)==items.size)=true then _ else _) _ _ s;rw[aad hno,Iz]
 first
  |show aaa (m:=aiM _) (aa7 (aal ⟨_,rfl,aal h⟩) htake)
  |show aaa (m:=aiM _) (aa7 (aaa (aal (aal ⟨_,rfl,aal h⟩))) htake)
  |show aaa (aaa (m:=aiM _) (aa7 (aal (aal ⟨_,rfl,aal h⟩)) htake))
  |show aaa (aaa (m:=aiM _) (aa7 (aal ⟨_,rfl,aal h⟩) htake))
end
end HT
namespace L2
open PyProof.Rows
abbrev TO:=St->Hp->(Option Int->Hp->Prop)->Prop
def PO(X:Cx)(e:Option ZA)(t:TO):Prop:=
 ∀(Zx:Zf) (s:ZD) (Z:St) (H:Hp) (Q:Option Int->Hp->Prop),Inv X Zx Z H s->t Z H Q ->
  wX X (evalPart e X.e) (λu s'=>∃o H',Inv X Zx Z H' s'/\ag9 u o/\Q o H') X.xe s
def Di:TO:=λ_ H Q=>Q none H
def PR(t:TE):TO:=λZ H Q=>t Z H λx H1=>∃i,x=.int i/\Q (some i) H1
def lR{ns:Zn}:∀ {us:Zh},Vals (ns.map V.int) us->agZ us ns:=by
 induction ns with
 |nil=>intro us r;rw[abq] at r;ext r;show .nil
 |cons n ns ih=>
  intro us r;rw[aax] at r;cases r with
  |cons r1 r2=>let⟨t,e⟩:=r1;subst e;show .cons n t<|ih r2
section
variable {X:Cx}{e:ZA}{te:TE}{lo hi:Option ZA}{tl th:TO}{pos p2:Pos}
def MR:PO X none Di:=by intro Zx s Z H Q I h;rw[evalPart_none];show aal ⟨none,H,I,.none,h⟩
def MS(h:PE X e te):PO X (some e)<|PR te:=by intro Zx s Z H Q I hw;rw[evalPart_some];split bz (h Zx s Z H _ I hw) λu s1 Zy=>?_;let⟨x,H1,I1,r1,q1⟩:=Zy;let⟨i,rfl,q⟩:=q1;let⟨t,rfl⟩:=r1;show⟨some i,H1,I1,.int i t,q⟩
def SlR(X:Cx)(r:V->Option Int->Option Int->Hp->VK->Prop):Prop:=
 ∀(Zx:Zf) (s:ZD) (Z:St) (H:Hp) (x:V) (v vl vu:ZE) (lo hi:Option Int) (sl:ZB) (Q:VK),Inv X Zx Z H s->RelV x v->s.heap.IsSliceOf sl vl vu .none->ag9 vl lo->ag9 vu hi->r x lo hi H Q ->
  ∃T id,ahm (.type T) "__getitem__"=pure (some<|.builtin id)/\s.TypeIs v T/\wX X (ahd v<|.ref sl) (EP X Zx Z Q) X.xe s
def SlR.or(h:SlR X r)(h':SlR X r'):SlR X<|λx lo hi H Q=>r x lo hi H Q\/r' x lo hi H Q:=by
 intro Zx s Z H x v vl vu lo hi sl Q I rx hs pl pu q;rcases q with q|q
 .exact h Zx s Z H x v vl vu lo hi sl Q I rx hs pl pu q
 .exact h' Zx s Z H x v vl vu lo hi sl Q I rx hs pl pu q
def tSl(r:V->Option Int->Option Int->Hp->VK->Prop)(te:TE)(tl th:TO):TE:=λZ H Q=>te Z H λx H1=>tl Z H1 λl H2=>th Z H2 λu H3=>r x l u H3 Q
def Ir(hr:SlR X r)(he:PE X e te)(hl:PO X lo tl)(hu:PO X hi th):PE X (.Subscript e (.Slice lo hi none p2) pos)<|tSl r te tl th:=by intro Zx s Z H Q I h;split aeM<|bz (he Zx s Z H _ I h) λv s1 Zy=>?_;let⟨x,H1,I1,r1,q1⟩:=Zy;split wpAny_Slice<|bz (hl Zx s1 Z H1 _ I1 q1) λvl s2 ⟨l,H2,I2,pl,q2⟩=>bz (hu Zx s2 Z H2 _ I2 q2) λvu s3 Zy=>?_;let⟨u,H3,I3,pu,q3⟩:=Zy;rw[evalPart_none];split aal ?_;have I4:Inv X Zx Z H3 { s3 with heap:=s3.heap.push { cls:=.type "slice",data:=.fields #[vl,vu,.none] } }:=I3.kept (t':=s3.toks) λb ob q=>aas _ q;let⟨T,id,hT,ht,hg⟩:=hr Zx { s3 with heap:=s3.heap.push { cls:=.type "slice",data:=.fields #[vl,vu,.none] } } Z H3 x v vl vu l u s3.heap.objs.size Q I4 r1 (akN ..) pl pu q3;show wX X (aja e (.Slice lo hi none p2) v<|.ref s3.heap.objs.size) (EP X Zx Z Q) X.xe { s3 with heap:=s3.heap.push { cls:=.type "slice",data:=.fields #[vl,vu,.none] } };show tail_any (ops:=[.ref s3.heap.objs.size,v]) ht hT hg (by with_unfolding_all rfl)
def pA(xs:Za)(lo hi:Option Int):Za:=(xs.drop<|HT.dM xs.length 0 lo).take<|HT.dM xs.length xs.length hi-HT.dM xs.length 0 lo
def oZ(xs:Za)(lo hi:Option Int):(pA xs lo hi).length<=xs.length:=by unfold pA;rw[aeF,acM];lia
def abw(K:Zj):V->Option Int->Option Int->Hp->VK->Prop:=λx lo hi H Q=>∃a xs,x=.ref a/\SqT K H a xs /\
 ¬(HT.dM xs.length 0 lo=0/\HT.dM xs.length xs.length hi=xs.length)/\∀p,H p=none->Q (.ref p) (upd H p<|.T<|pA xs lo hi)
def UE:SlR X<|abw X.K:=by
 intro Zx s Z H x v vl vu lo hi sl Q I rx hs pl pu h;let⟨a,xs,rfl,hx,hw,q⟩:=h;ext rx;let⟨its,r,ht,hz⟩:=I.tuple hx;have Zz:its.toArray.size=xs.length:=by rw[aaH];show r.length.symm
 split⟨"tuple",_,ac6.lookup,ht.typeIs,?_⟩;split HT.m8 ht hs pl pu (by rw[Zz];show hw) ?_ (by rw[Zz];show hz);rw[Zz];split⟨.ref s.heap.objs.size,_,I.laid (t':=s.toks) (o:=.T<|pA xs lo hi) (λb ob q=>aas _ q) (aaq _) ?_,rfl,q _<|I.hok.fresh<|aaq _⟩;show⟨aaN (oZ xs lo hi) hz,_,(r.drop<|HT.dM xs.length 0 lo).take<|HT.dM xs.length xs.length hi-HT.dM xs.length 0 lo,TupN.new _ _⟩
def Vals.nil_iff{xs:Za} (r:Vals xs us):us=[]↔xs=[]:=by
 cases r with
 |nil=>simp
 |cons _ _=>simp
end
def Eo(n:Nat)(i:Int):Option Nat:=if 0<=i then (if i<n then some i.toNat else none) else if -(n:Int)<=i then some (i+n).toNat else none
def kT{O:Type}(xs:List O)(i:Int):Option O:=(Eo xs.length i).bind λj=>xs[j]?
def Ci{n:Nat}{i:Int}{j:Nat}(h:Eo n i=some j):air i n=some j/\j<n /\ -(n:Int)<=i/\i<n:=by
 unfold Eo at h;by_cases h0:0<=i
 .rw[aac h0] at h;by_cases h1:i<n
  .rw[aac h1] at h;have e:i.toNat=j:=abb h;show⟨#v[aeN h0 h1,e],(),(),h1⟩
  .rw[aad h1] at h;ext h
 .rw[aad h0] at h;by_cases h1:-(n:Int)<=i
  .rw[aac h1] at h;have e:(i+n).toNat=j:=abb h;show⟨#v[aeO () h1,e],(),h1,()⟩
  .rw[aad h1] at h;ext h
def vh{O:Type}{xs:List O}{i:Int}{v:O}(h:kT xs i=some v):∃j,air i xs.length=some j/\xs[j]?=some v/\j<xs.length /\ -(xs.length:Int)<=i/\i<xs.length:=by
 unfold kT at h;cases e:Eo xs.length i with
 |none=>rw[e] at h;ext h
 |some j=>rw[e] at h;let⟨h1,h2,h3,h4⟩:=Ci e;show⟨j,h1,h,h2,h3,h4⟩
def BE(b:ZA):Prop:=∀o i,aiJ b false o i=operate [o,i] (ahd o i)
def IxR(X:Cx)(r:R2):Prop:=
 ∀(value slice:ZA) (Zx:Zf) (s:ZD) (Z:St) (H:Hp) (x y:V) (v u:ZE) (Q:VK),Inv X Zx Z H s->RelV x v->RelV y u->r x y H Q ->
  aiJ slice false v u=operate [v,u] (ahd v u)->wX X (aja value slice v u) (EP X Zx Z Q) X.xe s
def MtR(X:Cx)(id:String)(r:V->Za->Hp->VK->Prop):Prop:=
 ∀(Zx:Zf) (s:ZD) (Z:St) (H:Hp) (x:V) (xs:Za) (v:ZE) (us:Zh) (Q:VK),Inv X Zx Z H s->RelV x v->Vals xs us->r x xs H Q ->
  wX X (call (.builtin id) (v::us)) (EP X Zx Z Q) X.xe s
section
variable {X:Cx}{a b:ZA}{ta tb:TE}{pos:Pos}
def IxR.or(h:IxR X r)(h':IxR X r'):IxR X<|λx y H Q=>r x y H Q\/r' x y H Q:=by
 intro value slice Zx s Z H x y v u Q I rx ry q hs;rcases q with q|q
 .exact h value slice Zx s Z H x y v u Q I rx ry q hs
 .exact h' value slice Zx s Z H x y v u Q I rx ry q hs
def MtR.or{id:String} (h:MtR X id r)(h':MtR X id r'):MtR X id<|λx xs H Q=>r x xs H Q\/r' x xs H Q:=by
 intro Zx s Z H x xs v us Q I rx rs q;rcases q with q|q
 .exact h Zx s Z H x xs v us Q I rx rs q
 .exact h' Zx s Z H x xs v us Q I rx rs q
def Xi(hr:IxR X r)(ha:PE X a ta)(hb:PE X b tb)(hs:BE b):PE X (.Subscript a b pos)<|tOp r ta tb:=by intro Zx s Z H Q I h;show aeM<|VT ha hb I h λv u s2 x y H2 I2 rx ry q=>hr a b Zx s2 Z H2 x y v u Q I2 rx ry q<|hs _ _
def Xy(K:Zj):R2:=λx y H Q=>∃p xs i v,x=.ref p/\y=.int i/\SqL K H p xs/\kT xs i=some v/\Q v H
def XB(K:Zj):R2:=λx y H Q=>∃p xs i v,x=.ref p/\y=.int i/\SqT K H p xs/\kT xs i=some v/\Q v H
def Xz:R2:=λx y H Q=>∃z i c,x=.str z/\y=.int i/\z.length<=ZF/\kT z.cps.toList i=some c/\Q (.str ⟨#[c]⟩) H
def ix_list:IxR X<|Xy X.K:=by
 intro value slice Zx s Z H x y v u Q I rx ry h hs;let⟨p,xs,i,z,rfl,rfl,hq,he,q⟩:=h;ext rx;let⟨t,rfl⟩:=ry;let⟨its,r,pl,hz⟩:=I.list hq;let⟨j,h1,h2,h3,h4,h5⟩:=vh he;let⟨w,ew,rw'⟩:=r.get h2;have hl:=r.length;have hn:=lX;have fin:EP X Zx Z Q w s:=⟨z,H,I,rw',q⟩
 by_cases h0:0<=i
 .have hj:i.toNat=j:=by
   rw[aeN h0 h5] at h1;show abb h1
  show item_listR pl.isList h0 () (by rw[hj];simpa using ew) fin hs
 .have hj:(i+(its.toArray.size:Int)).toNat=j:=by
   rw[aeO () h4] at h1;rw[aaH,<-hl];show abb h1
  show afH (x:=w) pl.isList.typeIs afI.lookup
   (wpAny_getItem_list_neg (Q:=λr s'=>r=w/\EP X Zx Z Q r s') pl.isList () (by rw[aaH]<;>lia) () (by rw[hj];simpa using ew) ⟨rfl,fin⟩) hs
def ix_tup:IxR X<|XB X.K:=by
 intro value slice Zx s Z H x y v u Q I rx ry h hs;let⟨p,xs,i,z,rfl,rfl,hq,he,q⟩:=h;ext rx;let⟨t,rfl⟩:=ry;let⟨its,r,pl,hz⟩:=I.tuple hq;let⟨j,h1,h2,h3,h4,h5⟩:=vh he;let⟨w,ew,rw'⟩:=r.get h2;have hl:=r.length;have hn:=lX;have fin:EP X Zx Z Q w s:=⟨z,H,I,rw',q⟩
 show afH (x:=w) pl.typeIs slot_tuple_getitem.lookup
  (getItem_tuple (j:=j) (Q:=λr s'=>r=w/\EP X Zx Z Q r s') pl () () (by rw[aaH,<-hl];show h1) (~~~ew) ⟨rfl,fin⟩) hs
def RA:IxR X Xz:=by
 intro value slice Zx s Z H x y v u Q I rx ry h hs;let⟨z,i,c,rfl,rfl,hz,he,q⟩:=h;let⟨t,rfl⟩:=rx;let⟨t',rfl⟩:=ry;let⟨j,h1,h2,h3,h4,h5⟩:=vh he;have hl:z.cps.toList.length=z.length:=by simp[Str.length]
 rw[hl] at h1 h4 h5;have hn:=lX;show tail_any (ab4 s z t) slot_str_getitem.lookup (getItem_str (c:=c) (by
  have e1:decide (i < -(2^63:Int))=false:=aaA ();have e2:decide (i ≥ 2^63)=false:=aaA ()
  rw[e1,e2,Bool.or_false]) (by rw[h1];simpa using h2) ⟨.str ⟨#[c]⟩,H,I.tok _,⟨_,rfl⟩,q⟩) hs
def rIx(K:Zj):R2:=λx y H Q=>Xy K x y H Q\/XB K x y H Q\/Xz x y H Q
def Rz:IxR X<|rIx X.K:=ix_list.or<|ix_tup.or RA
def Ay(its:Zh)(n j:Nat)(u:ZE):ahI (·.setIfInBounds j u) { cls:=.type "list",data:=.seq its.toArray n }={ cls:=.type "list",data:=.seq (its.set j u).toArray n }:=by simp[ahI]
def Inv.lst{Zx:Zf}{Z:St}{H:Hp}{s:ZD}{p:ZB}{xs:Za}(I:Inv X Zx Z H s)(h:H p=some (.L xs)) :
  ∃(its:Zh) (n:Nat),Vals xs its/\s.heap.get? p=some { cls:=.type "list",data:=.seq its.toArray n }/\xs.length<=ZF:=by
 let⟨z,its,n,r,e⟩:=I.hok p _ h;show⟨its,n,r,e,z⟩
def Inv.lstUpd{Zx:Zf} {p:ZB}{xs ys:Za}{its its':Zh}{n n':Nat}{f:Obj->Obj}(I:Inv X Zx Z H s)(h:H p=some (.L xs))
  (ho:s.heap.get? p=some { cls:=.type "list",data:=.seq its.toArray n }) (hf:f { cls:=.type "list",data:=.seq its.toArray n }={ cls:=.type "list",data:=.seq its'.toArray n' }) (r:Vals ys its') (hz:ys.length<=ZF) (t:Nat) :
  Inv X Zx Z (upd H p<|.L ys) { s with heap:=s.heap.update p f,toks:=t }:=by
 have e:(s.heap.update p f).get? p=some { cls:=.type "list",data:=.seq its'.toArray n' }:=by rw[ab5 f ho<|by rw[hf]<;>rfl,hf]
 split I.write (x:=p) (e:=p) (by rw[h];trivial) (.inl rfl) (λb u hb q=>(ac7 _ _<|aaI hb).trans q) ⟨_,e⟩ ?_;show⟨hz,its',n',r,e⟩
def Pq:V->V->V->Hp->(Hp->Prop)->Prop:=λo i v H Q=>∃p xs k j,o=.ref p/\i=.int k/\H p=some (.L xs)/\Eo xs.length k=some j/\Q (upd H p<|.L<|xs.set j v)
def Jm:VF X Pq:=by
 intro Zx s Z H o i v ov iv u Q I ro ri rv h;let⟨p,xs,k,j,rfl,rfl,hp,hj,q⟩:=h;ext ro;let⟨t,rfl⟩:=ri;let⟨its,n,r,ho,hz⟩:=I.lst hp;let⟨h1,h2,h3,h4⟩:=Ci hj;have hl:=r.length;have hn:=lX;have I':Inv X Zx Z (upd H p<|.L<|xs.set j v) { s with heap:=s.heap.update p (ahI (·.setIfInBounds j u)) }:=
  I.lstUpd hp ho (Ay its n j u) (r.set rv j) (by rw[ab6];show hz) s.toks
 by_cases h0:0<=k
 .have hk:k.toNat=j:=by
   rw[aeN h0 h4] at h1;show abb h1
  show W.ki_setAt ho h0 () (by rw[aaH,<-hl];show h4) (by rw[hk];show⟨_,I',q⟩)
 .have hk:(k+(its.toArray.size:Int)).toNat=j:=by
   rw[aeO () h3] at h1;rw[aaH,<-hl];show abb h1
  show W.ki_setBack ho () (by rw[aaH,<-hl];show h3) () (by rw[hk];show⟨_,I',q⟩)
def wI(lo hi:Option Int)(n:Nat):(ahH lo hi none n).1=((HT.dM n 0 lo:Nat):Int)/\(ahH lo hi none n).2.1=((HT.dM n n hi:Nat):Int)/\(ahH lo hi none n).2.2=1:=by
 split⟨?_,?_,rfl⟩
 .cases lo with
  |none=>simp[ahH,HT.dM]
  |some i=>
   simp only[ahH,HT.dM,akw,show (1:Int) > 0 by decide,ab3];by_cases h:i<0
   .simp only[h,ab3]<;>lia
   .simp only[h,abZ]<;>lia
 .cases hi with
  |none=>simp[ahH,HT.dM]
  |some i=>
   simp only[ahH,HT.dM,akw,show (1:Int) > 0 by decide,ab3];by_cases h:i<0
   .simp only[h,ab3]<;>lia
   .simp only[h,abZ]<;>lia
def tz(its:Zh)(lo hi:Option Int):slicePick its.toArray lo hi none=((its.drop<|HT.dM its.length 0 lo).take<|HT.dM its.length its.length hi-HT.dM its.length 0 lo).toArray:=by let⟨h1,h2,h3⟩:=wI lo hi its.toArray.size;unfold slicePick;rw[h1,h2,h3];simp only[sliceRange_one,pick_run,aaH]<;>rfl
def XH(K:Zj):V->Option Int->Option Int->Hp->VK->Prop:=λx lo hi H Q=>∃a xs,x=.ref a/\SqL K H a xs/\∀p,H p=none->Q (.ref p) (upd H p<|.L<|pA xs lo hi)
def NI:SlR X<|XH X.K:=by intro Zx s Z H x v vl vu lo hi sl Q I rx hs pl pu h;let⟨a,xs,rfl,hx,q⟩:=h;ext rx;let⟨its,r,ht,hz⟩:=I.list hx;have Zz:=r.length;split⟨"list",_,afI.lookup,ht.isList.typeIs,?_⟩;split wpAny_getItem_list_slice ht.isList hs pl pu .none (by simp) ?_ (by rw[aaH]<;>lia);rw[tz,<-Zz];split⟨.ref s.heap.objs.size,_,I.laid (t':=s.toks) (o:=.L<|pA xs lo hi) (λb ob q=>aas _ q) (aaq _) ?_,rfl,q _<|I.hok.fresh<|aaq _⟩;show⟨aaN (oZ xs lo hi) hz,_,0,(r.drop<|HT.dM xs.length 0 lo).take<|HT.dM xs.length xs.length hi-HT.dM xs.length 0 lo,aaB _ rfl⟩
def m7:V->Bool
 |.N=>true
 |.B _=>true
 |.int _=>true
 |.str _=>true
 |_=>false
def Om:V->V->Bool
 |.N,.N=>true
 |.B a,.B b=>a==b
 |.B a,.int b=>(if a then 1 else 0)==b
 |.int a,.B b=>a==(if b then 1 else 0)
 |.int a,.int b=>a==b
 |.str a,.str b=>a==b
 |_,_=>false
def Re(ry:RelV y u)(rx:RelV x v)(fy:m7 y=true)(fx:m7 x=true):ajF A s u v<|Om y x:=by
 cases y with
 |N=>
  ext ry;cases x with
  |N=>ext rx;show SeqAt.EqAt.same _
  |B b=>ext rx;show SeqAt.EqAt.none_bool b
  |int b=>let⟨t,rfl⟩:=rx;show SeqAt.EqAt.none_int b t
  |str b=>let⟨t,rfl⟩:=rx;show SeqAt.EqAt.none_str b t
  |_=>show absurd (show false=true from fx) aa1
 |B a=>
  ext ry;cases x with
  |N=>ext rx;show SeqAt.EqAt.bool_none a
  |B b=>ext rx;show SeqAt.EqAt.bool_bool a b
  |int b=>let⟨t,rfl⟩:=rx;show SeqAt.EqAt.bool_int a b t
  |str b=>let⟨t,rfl⟩:=rx;show SeqAt.EqAt.bool_str a b t
  |_=>show absurd (show false=true from fx) aa1
 |int a=>
  let⟨t',rfl⟩:=ry;cases x with
  |N=>ext rx;show SeqAt.EqAt.int_none a t'
  |B b=>ext rx;show SeqAt.EqAt.int_bool a t' b
  |int b=>let⟨t,rfl⟩:=rx;show afJ a t' b t
  |str b=>let⟨t,rfl⟩:=rx;show afr a t' b t
  |_=>show absurd (show false=true from fx) aa1
 |str a=>
  let⟨t',rfl⟩:=ry;cases x with
  |N=>ext rx;show SeqAt.EqAt.str_none a t'
  |B b=>ext rx;show SeqAt.EqAt.str_bool a t' b
  |int b=>let⟨t,rfl⟩:=rx;show afs a t' b t
  |str b=>let⟨t,rfl⟩:=rx;show SeqAt.EqAt.str_str a t' b t
  |_=>show absurd (show false=true from fx) aa1
 |_=>show absurd (show false=true from fy) aa1
def Ly(x:V)(u:ZE):Bool:=match u with
 |.none=>Om .N x
 |.bool b=>Om (.B b) x
 |.int i _=>Om (.int i) x
 |.str z _=>Om (.str z) x
 |_=>false
def GO(r:RelV y u)(f:m7 y=true):Ly x u=Om y x:=by
 cases y with
 |N=>ext r;rfl
 |B b=>ext r;rfl
 |int i=>let⟨t,rfl⟩:=r;rfl
 |str z=>let⟨t,rfl⟩:=r;rfl
 |_=>show absurd (show false=true from f) aa1
theorem vg:∀ {xs:Za} {us:Zh},Vals xs us->xs.all m7=true->us.any (Ly x)=xs.any λy=>Om y x
 |_,_,.nil,_=>rfl
 |y::xs,u::us,.cons r t,f=>by rw[acr,aaV] at f;rw[ac8,ac8,GO r f.1,vg t f.2]
theorem rR(rx:RelV x v)(fx:m7 x=true):∀ {xs:Za} {us:Zh},Vals xs us->xs.all m7=true->∀u∈us,ajF A s u v (Ly x u)
 |_,_,.nil,_=>λu hu=>by ext hu
 |y::xs,u::us,.cons r t,f=>λu' hu=>by
  rw[acr,aaV] at f;rcases aau.1 hu with rfl|hu
  .rw[GO r f.1];show Re r rx f.1 fx
  .exact rR rx fx t f.2 u' hu
def ua(x:V)(xs:Za):Bool:=xs.any λy=>Om y x
def rIn(K:Zj)(neg:Bool):R2:=λx y H Q=>∃p xs,y=.ref p/\(SqL K H p xs\/SqT K H p xs)/\m7 x=true/\xs.all m7=true/\Q (.B (if neg then !ua x xs else ua x xs)) H
def EO:OpR X (agH .In)<|rIn X.K false:=by
 intro Zx s Z H x y v u Q I rx ry h;let⟨p,xs,rfl,hq,fx,fs,q⟩:=h;ext ry;rcases hq with hq|hq
 .let⟨its,r,pl,hz⟩:=I.list hq;split SeqAt.in_listAt (Ly x) pl.isList (λw hw=>rR rx fx r fs w<|~~~hw) ⟨.B _,H,I,rfl,?_⟩;rw[show its.toArray.any (Ly x)=its.any (Ly x) by simp,vg r fs];show q
 .let⟨its,r,pl,hz⟩:=I.tuple hq;split SeqAt.in_tupleAt (Ly x) pl (λw hw=>rR rx fx r fs w<|~~~hw) ⟨.B _,H,I,rfl,?_⟩;rw[show its.toArray.any (Ly x)=its.any (Ly x) by simp,vg r fs];show q
def CallR.or(h:CallR X f r)(h':CallR X f r'):CallR X f<|λxs H Q=>r xs H Q\/r' xs H Q:=by
 intro Zx s Z H xs us Q I rs q;rcases q with q|q
 .exact h Zx s Z H xs us Q I rs q
 .exact h' Zx s Z H xs us Q I rs q
def sR:CallR X (.type "tuple")<|λxs H Q=>∃p ys,xs=[.ref p]/\((SqL X.K H p ys/\∀l,H l=none->Q (.ref l) (upd H l<|.T ys))\/(SqT X.K H p ys/\Q (.ref p) H)):=by
 intro Zx s Z H xs us Q I r h;let⟨p,ys,rfl,h⟩:=h;let⟨u,rfl,rx⟩:=sH r;ext rx;rcases h with ⟨hq,q⟩|⟨hq,q⟩
 .let⟨its,r',pl,hz⟩:=I.list hq;have Zz:=r'.length;split call_tuple_list pl.isList (λh' kp=>?_) (by simp only[aaH]<;>lia);have I1:Inv X Zx Z H<|s.wh h':=I.kept (t':=s.toks) kp;have I2:Inv X Zx Z (upd H h'.objs.size<|.T ys) { s with heap:=h'.push { cls:=.type "tuple",data:=.seq its.toArray } }:=
   I1.laid (t':=s.toks) (λb o e=>aas _ e) (aaq _) (show ObjOk X.p X.w _ _ _ (.T ys) from ⟨hz,its,r',TupN.new _ _⟩)
  show⟨.ref h'.objs.size,_,I2,rfl,q _<|I1.hok.fresh<|aaq _⟩
 .let⟨its,r',pl,hz⟩:=I.tuple hq;show call_tuple_same pl ⟨.ref p,H,I,rfl,q⟩
def KG(K:Zj)(T:String)(x:V)(H:Hp):Prop:=match x with
 |.str _=>T="str"
 |.int _=>T="int"
 |.ref p=>(T="list" /\ ∃xs,SqL K H p xs)\/(T="tuple" /\ ∃o,K.lookup p=some o/\o.cls=.type "tuple" /\ o.dict=none) \/
   (T="dict" /\ ((∃kvs,H p=some (.dK kvs))\/∃kvs,H p=some (.dT kvs)))\/(T="set" /\ ∃S n,H p=some (.set S n))
 |_=>False
def Ka{Zx:Zf} (I:Inv X Zx Z H s)(r:RelV x v)(ty:KG X.K T x H) :
  s.TypeIs v T/\∀a,v=.ref a->∃ob,s.heap.get? a=some ob/\ob.dict=none:=by
 cases x with
 |str z=>
  let⟨t,rfl⟩:=r;cases (show T="str" from ty);show⟨ab4 s z t,λ_ e=>nomatch e⟩
 |int i=>
  let⟨t,rfl⟩:=r;cases (show T="int" from ty);show⟨typeIs_int s i t,λ_ e=>nomatch e⟩
 |ref p=>
  ext r;rcases ty with ⟨rfl,xs,hq⟩|⟨rfl,o,hk,hc,hd⟩|⟨rfl,hk⟩|⟨rfl,S,n,hk⟩
  .let⟨its,_,pl,_⟩:=I.list hq;split⟨pl.isList.typeIs,λa e=>?_⟩;ext e;let⟨o,n,e,c,hd,_⟩:=pl;show⟨o,e,hd⟩
  .refine⟨⟨o,I.kIn p o hk,hc⟩,λa e=>?_⟩;ext e;show⟨o,I.kIn _ o hk,hd⟩
  .have z:∃o,s.heap.get? p=some o/\o.ExactDict:=by
    rcases hk with ⟨kvs,hk⟩|⟨kvs,hk⟩
    .let⟨_,_,_,_,o,_,_,e,ex,_⟩:=I.hok p _ hk;show⟨o,e,ex⟩
    .let⟨_,_,_,_,o,_,_,e,ex,_⟩:=I.hok p _ hk;show⟨o,e,ex⟩
   let⟨o,e,ex⟩:=z;split⟨⟨o,e,ex.1⟩,λa e2=>?_⟩;ext e2;show⟨o,e,ex.2.1⟩
  .let⟨o,_,_,_,e,ex,_⟩:=I.hok p _ hk;split⟨⟨o,e,ex.1⟩,λa e2=>?_⟩;ext e2;show⟨o,e,ex.2.1⟩
 |_=>show agy ty
def YU(K:Zj)(T:String)(r:V->Za->Hp->VK->Prop)(to:TE):TE:=λZ H Q=>to Z H λx H1=>KG K T x H1/\r x [] H1 Q
def tBM(K:Zj)(T:String)(r:V->Za->Hp->VK->Prop)(to:TE)(t:TA):TE:=λZ H Q=>to Z H λx H1=>KG K T x H1/\t Z H1 λxs H2=>r x xs H2 Q
variable {o e:ZA}{es:List ZA}{to:TE}{t:TA}{name:Str}{apos cpos:Pos}{T id:String}{r:V->Za->Hp->VK->Prop}
def Sy(pa:ai5 T)(slot:Slot T name id)(hty:ah4 (.builtin id)=pure (.type "method_descriptor")) (hm:MtR X id r) (ho:PE X o to)
  (hbase:ahX o name X.e (ZN o X.e)=ZN o X.e:=by rfl) (hline:(apos.endLine==cpos.line)=true:=by rfl):PE X (.Call (.Attribute o name apos) [] [] cpos)<|YU X.K T r to:=by
 intro Zx s Z H Q I h;split wpAny_Call_method0_late hbase hline<|bz (ho Zx s Z H _ I h) λv s1 Zy=>?_;let⟨x,H1,I1,r1,ty,q1⟩:=Zy;let⟨h1,h2⟩:=Ka I1 r1 ty;show⟨T,id,pa,slot,hty,h1,h2,ad4 rfl<|PySem.evalArgs_none<|hm Zx s1 Z H1 x [] v [] Q I1 r1 .nil q1⟩
def Pe(pa:ai5 T)(slot:Slot T name id)(hty:ah4 (.builtin id)=pure (.type "method_descriptor")) (hm:MtR X id r) (ho:PE X o to) (ha:PA X (e::es) t)
  (hbase:ahX o name X.e (ZN o X.e)=ZN o X.e:=by rfl)
  (hfew:((ZU cpos<|starEach (e::es) X.e).all (λx=>!x.1)&&(agX cpos<|keywordEach [] X.e).all (λx=>x.1.isSome)
   && decide ((e::es).length+([]:List ahy).length+(if ([]:List ahy).isEmpty then 0 else 1)<30))=true:=by rfl)
  (hline:(apos.endLine==cpos.line)=true:=by rfl) (hs:ZQ (e::es) X.e=(false,ZN e X.e)::ZQ es X.e:=by rfl) (hplain:(ZU cpos<|starEach es X.e).any (·.1)=false:=by rfl) :
  PE X (.Call (.Attribute o name apos) (e::es) [] cpos) (tBM X.K T r to t):=by
 intro Zx s Z H Q I h;split wpAny_Call_method_late hbase hfew hline rfl<|bz (ho Zx s Z H _ I h) λv s1 Zy=>?_;let⟨x,H1,I1,r1,ty,q1⟩:=Zy;let⟨h1,h2⟩:=Ka I1 r1 ty;split⟨T,id,pa,slot,hty,h1,h2,?_⟩;have hA:=ha cpos Zx s1 Z H1 _ I1 q1;rw[hs] at hA ⊢;split ad4 (by show (false || (ZU cpos<|starEach es X.e).any (·.1))=false;rw[hplain]<;>rfl)<|ad5 ?_;show bz hA λus s2 ⟨vs,H2,I2,r2,q2⟩=>hm Zx s2 Z H2 x vs v us Q I2 r1 r2 q2
end
def MtM(X:Cx)(id:String)(r:V->Za->Hp->VK->Prop):Prop:=
 ∀(Zx:Zf) (s:ZD) (Z:St) (H:Hp) (x:V) (xs:Za) (v:ZE) (us:Zh) (Q:VK),Inv X Zx Z H s->RelV x v->Vals xs us->r x xs H Q ->
  wX X (call (.builtin id) (v::us)) (EP X Zx Z Q) X.xe s
def Vals.one{x:V}{us:Zh}(h:Vals [x] us):∃u,us=[u]/\RelV x u:=by
 cases h with
 |cons r t=>ext t;show⟨_,rfl,r⟩
def Vals.two{x y:V}{us:Zh}(h:Vals [x,y] us):∃u v,us=[u,v]/\RelV x u/\RelV y v:=by
 cases h with
 |cons r t=>
  cases t with
  |cons q t=>ext t;show⟨_,_,rfl,r,q⟩
def Vals.zero:∀ {us:Zh},Vals [] us->us=[]
 |_,.nil=>rfl
def Vals.dropLast{xs:Za} (h:Vals xs us):Vals xs.dropLast us.dropLast:=by
 induction h with
 |nil=>show .nil
 |cons r t ih=>
  cases t with
  |nil=>show .nil
  |cons q t'=>show .cons r ih
def zX{O:Type}(l:List O):l.eraseIdx (l.length-1)=l.dropLast:=by
 induction l with
 |nil=>rfl
 |cons a r ih=>
  cases r with
  |nil=>rfl
  |cons b r=>
   have e:(a::b::r).length-1=((b::r).length-1)+1:=by have h1:(a::b::r).length=r.length+2:=rfl;have h2:(b::r).length=r.length+1:=rfl;lia
   rw[e,List.eraseIdx_cons_succ,ih];all_goals rfl
section
variable {X:Cx}{Zx:Zf}{Z:St}{H:Hp}{s:ZD}{l:ZB}{xs ys:Za}
def Inv.lset{its its':Zh}{n:Nat}{f:Array ZE->Array ZE}{t':Nat}(I:Inv X Zx Z H s)(hH:H l=some (.L xs))
  (e:s.heap.get? l=some { cls:=.type "list",data:=.seq its.toArray n }) (hf:f its.toArray=its'.toArray) (hv:Vals ys its') (hz:ys.length<=ZF) :
  Inv X Zx Z (upd H l<|.L ys) { s with heap:=s.heap.update l<|Obj.mapSeq f,toks:=t' }:=by
 have q:=PySem.IsL.update e f;rw[hf] at q;split I.write (x:=l) (e:=l) (by rw[hH];show trivial) (.inl rfl) (λb' u hb hu=>(ac7 s.heap (ahI f)<|aaI hb).trans hu) ⟨_,q⟩ ?_;show⟨hz,its',_,hv,q⟩
def Inv.lnew{its:Zh}{t':Nat}(I:Inv X Zx Z H s)(hv:Vals ys its)(hz:ys.length<=ZF) :
  Inv X Zx Z (upd H s.heap.objs.size<|.L ys) { s with heap:=s.heap.push { cls:=.type "list",data:=.seq its.toArray },toks:=t' }:=
 I.laid (λ_ _ q=>aas _ q) (aaq _) ⟨hz,its,0,hv,aaB _ rfl⟩
def Inv.fresh(I:Inv X Zx Z H s):H s.heap.objs.size=none:=I.hok.fresh<|aaq _
def Inv.lstM(I:Inv X Zx Z H s)(hH:H l=some (.L xs)):xs.length<=ZF/\∃(its:Zh) (n:Nat),Vals xs its/\xs.length=its.length/\s.heap.get? l=some { cls:=.type "list",data:=.seq its.toArray n }:=by let⟨z,its,n,r,e⟩:=I.hok l _ hH;show⟨z,its,n,r,r.length,e⟩
def HN{n:Nat}(h:n<=ZF):ajl n=false:=by unfold ajl;show aaA ()
end
section
variable {X:Cx}
def rAppend:V->Za->Hp->VK->Prop:=λx vs H Q=>∃l xs y,x=.ref l/\vs=[y]/\H l=some (.L xs)/\xs.length<ZF/\Q .N (upd H l<|.L<|xs++[y])
def uw:MtM X "list.append" rAppend:=by intro Zx s Z H x vs v us Q I rx rv h;let⟨l,xs,y,rfl,rfl,hH,hz,q⟩:=h;ext rx;let⟨u,rfl,ru⟩:=rv.one;let⟨z,its,n,r,hl,e⟩:=I.lstM hH;split ab7 F.slot_list_append ⟨_,e,rfl⟩ F.entry_list_append (F.args_list_append_2 _ _) (PySem.list_append l its.toArray n u<|by rw[aaH];lia) ⟨e,?_⟩;split⟨.N,_,I.lset (its':=its++[u]) hH e (by simp) (r.append<|.cons ru .nil) ?_,rfl,q⟩;rw[aat,acN];lia
def rPop:V->Za->Hp->VK->Prop:=λx vs H Q=>∃l xs y,x=.ref l/\vs=[]/\H l=some (.L xs)/\xs[xs.length-1]?=some y/\Q y (upd H l<|.L xs.dropLast)
def RX:MtM X "list.pop" rPop:=by
 intro Zx s Z H x vs v us Q I rx rv h;let⟨l,xs,y,rfl,rfl,hH,hy,q⟩:=h;ext rx;have hus:=rv.zero;subst hus;let⟨z,its,n,r,hl,e⟩:=I.lstM hH;let⟨u,hu,ru⟩:=r.get hy;have hy':its.toArray[its.toArray.size-1]?=some u:=by show its.toArray[its.length-1]?=some u;rw[<-adu,<-hl];show hu
 split ab7 F.slot_list_pop ⟨_,e,rfl⟩ F.entry_list_pop (F.args_list_pop_1 _) (MeetsSeq.list_pop_last l its.toArray n u hy'<|by rw[aaH];lia) ⟨e,?_⟩;split⟨y,_,I.lset (its':=its.dropLast) hH e ?_ r.dropLast ?_,ru,q⟩
 .show its.toArray.eraseIdxIfInBounds (its.toArray.size-1)=its.dropLast.toArray;rw[aaH,List.eraseIdxIfInBounds_toArray,zX]
 .rw[afK];lia
end
end L2
namespace Att
open PySem.W PySem.Calls PyProof.Rows
def pH:∀(ns:Zn) (vs:Zh),WellAll P h vs (ns.map ajM)->agZ vs ns:=by
 intro ns;induction ns with
 |nil=>
  intro vs w;rw[abq] at w;ext w;show .nil
 |cons n ns ih=>
  intro vs w;rw[aax] at w;cases w with
  |cons a b=>ext a;show .cons _ _<|ih _ b
def Fg{l:aic}{n:Nat}(hn:l.most=some n) {args:List WData} 
  (hpre:l.row.toRowW.claim.pre args=true) (hwl:WellAll P h vals args) :
  ∃a vs ns,vals=[ZO a]/\args=[WData.list<|ns.map ajM]/\h.get? a=some { cls:=.type "list",data:=.seq vs.toArray }/\agZ vs ns/\ns.length<=n:=by
 have hsh:WShape.hasAll [] args [.list .int]=true:=(pre_splitW hpre).1;have hc:l.pre.holds [] { args:=args }=true:=(pre_splitW hpre).2;let⟨d,r,rfl,h1,h2⟩:=hasAllW_cons hsh;obtain rfl:=hasAllW_nil h2;let⟨xs,rfl,h3⟩:=hasW_list h1;let⟨ns,rfl⟩:=items_int h3;have Zz:ns.length<=n:=by
  unfold OpenLaw.pre at hc;have h4:(WTm.not<|.lt (.lit<|.int (n:Int))<|.len<|.arg 0).holds [] { args:=[.list<|ns.map .int] }=true:=by have h4:=(holds_andW hc).1;rw[hn] at h4;show h4
  have h5:=condW_of h4<|w_not<|w_lt w_lit<|w_len_list<|w_arg rfl;rw[aar] at h5;split Nat.le_of_not_lt λq=>?_;have q':(n:Int)<((ns.length:Nat):Int):=by omega
  first
   | (rw[aaz q'] at h5;show absurd h5 ⋯)
   | (simp at h5;omega)
 cases hwl with
 |cons w1 w2=>
  ext w2;cases w1 with
  |list ho hall=>show⟨_,_,ns,rfl,rfl,ho,pH ns _ hall,Zz⟩
def Fa(l:aic)(args:List WData):l.row.toRowW.claim.post args (.bool true) args=true:=
 postW_of (r:=l.row.toRowW) (X:=(true==true))
  (show aj4 [] (.bool true) .bool=true by first|rfl|decide|simp[aj4,WShape.arms,WShape.armsAll])
  (show (WTm.eq .res<|.lit<|.bool true).value [] { args:=args,res:=some<|.bool true,after:=args }=some (.bool<|true==true) from w_eq_bool (w_res rfl) w_lit) rfl
def xk{l:aic}{n:Nat} {YP:ZI->ZH->Prop}{d:DefRec}
  (hn:l.most=some n) (hdf:d.params.defaults=[])
  (call:∀(w:ZI) (s₀ s₁:ZD) (mg mb:Zg) (fa:ZB) (o:Obj) (pm cd doc:ZE) (a:ZB) (vs:Zh) (ns:Zn),
   Ground q loose [] XP w s₀ mg mb s₁.heap->YP w s₁.heap ->
   s₁.heap.get? fa=some o->o.data=.func (docDef d.name d.params d.body d.scope pm cd doc)->s₁.heap.CodeRec cd d.name->mg d.name=some (.ref fa) ->
   s₁.heap.get? a=some { cls:=.type "list",data:=.seq vs.toArray }->agZ vs ns->ns.length<=n->s₁.gens = #[] ->
   agU (ZJ l.prog w) ahJ (.call (.ref fa) ⟨[.ref a],[]⟩) (λr s'=>r=.ok (.ret<|.bool true)/\OldK s₁.heap s'.heap/\s'.os=s₁.os/\ahc s'.gens) s₁) :
  WalkO q loose XP YP l.row.toRowW d [] (λf vs=>ajk f vs):=by
 intro w s₀ s₁ mg mb κ Y fa o pm cd doc dV kV ho hd hcd hD hmg hg args vals as hpre hlay hrd hwl hlo;obtain rfl:dV=.none:=Dflts.none hD hdf;obtain rfl:kV=.none:=Dflts.noKw hD;let⟨a,vs,ns,rfl,rfl,hobj,hints,Zz⟩:=Fg hn hpre hwl;split enter_call<|ads (call w s₀ s₁ mg mb fa o pm cd doc a vs ns κ Y ho (fd_plain hd) hcd hmg hobj hints Zz hg) λr s' hq=>?_;let⟨rfl,h2,h3,h4⟩:=hq;show⟨.inl ⟨.bool true,.bool true,[],rfl,λ_=>rfl,.bool true,Fa l _,λ_=>⟨akD,λ_ hm=>(nomatch hm)⟩⟩,h2,h3,h4⟩
end Att
namespace L2
open PyProof.Rows
theorem uM:∀ {vs:Zh} {ns:Zn},agZ vs ns->Vals (ns.map V.int) vs
 |_,_,.nil=>.nil
 |_,_,.cons n t h=>.cons ⟨t,rfl⟩<|uM h
def KP(H:Hp):Prop:=∀b,H b=none\/∃o xs,H b=some (.frz o<|.L xs)
def Hx{K:Zj}{mg mb:Zg}{CX:BA}{k:Nat}{a:ZB}{fd:ZW}{x:Str}{sp:Sp}{s₁:ZD}{vs:Zh} 
  (KX:K.In s₁.heap) (hns:s₁.heap.Ns ZK mg) (hb:s₁.heap.Ns aji mb) (hbb:∀x:Str,x ≠ "__name__" -> mb x=agz x) (hlim:s₁.heap.NoLimit) (hg:s₁.gens = #[])
  (ha:s₁.heap.get? a=some { cls:=.type "list",data:=.seq vs.toArray }) (hi:agZ vs ns) (hl:ns.length<=ZF) (hr:Zr k ahJ)
  (F:∀base:ZH,K.In base->base.Ns ZK mg->Zs P w K mg base CX k fa fd [x] sp) (hbind:∀(s:ZD) (u:ZE),ah1 s fd ⟨[u],[]⟩ [(x,u)])
  (hsp:∀H:Hp,KP H->SqL K H a (ns.map V.int)->sp [.ref a] H (λv _=>v=.B true) λ_ _ _=>False)
  (hCX:∀H e s',CX [] H s₁ (λ_ _ _=>False) e s'->False) :
  agU (ZJ P w) ahJ (.call (.ref fa) ⟨[.ref a],[]⟩) (λr s'=>r=.ok (.ret<|.bool true)/\OldK s₁.heap s'.heap/\s'.os=s₁.os/\ahc s'.gens) s₁:=by
 have rv:=uM hi;have lenV:=hi.length
 -- from an abstract heap in which nothing but the script may be tracked
 have core:∀H:Hp,KP H->SqL K H a (ns.map V.int)->HOk P w H s₁.heap->(∀b,H b≠none->b=a)->(H a≠none->K.lookup a=none) ->
   agU (ZJ P w) ahJ (.call (.ref fa) ⟨[.ref a],[]⟩) (λr s'=>r=.ok (.ret<|.bool true)/\OldK s₁.heap s'.heap/\s'.os=s₁.os/\ahc s'.gens) s₁:=by
  intro H hO hS hok hA hK;have Zt:∀ {b:ZB} {o:Obj},s₁.heap.get? b=some o->H b=none->(vP s₁.heap H).get? b=some o:=λe n=>Hc e n;have noA:∀ {b:ZB} {o:Obj} {es:Array agS} {ep:Nat},s₁.heap.get? b=some o->o.data=.dict es ep->H b=none:=λ{b o es ep} e d=>by
   cases q:H b with
   |none=>rfl
   |some u=>have e':b=a:=hA b (by rw[q];simp);subst e';rw[ha] at e;ext e;have d':Data.seq vs.toArray _=Data.dict es ep:=d;ext d'
  have nsK:∀ {b:ZB} {m:Zg},s₁.heap.Ns b m->(vP s₁.heap H).Ns b m:=λ{b m} ⟨o,es,ep,e,d,r⟩=>⟨o,es,ep,Zt e<|noA e d,d,r⟩
  have hKb:K.In<|vP s₁.heap H:=λb o e=>Zt (KX b o e) (by
   cases q:H b with
   |none=>rfl
   |some u=>
    have e':b=a:=hA b (by rw[q];simp);subst e'
    rw[hK<|by rw[q];simp] at e;ext e)
  have hM:Mod K mg<|vP s₁.heap H:=⟨hKb,nsK hns,⟨mb,nsK hb,hbb⟩,let ⟨mc,h1,h2⟩:=hlim;⟨mc,nsK h1,h2⟩⟩
  have e0:Env0 P w K mg (vP s₁.heap H) ahJ [] s₁ H:=⟨rfl,hM,λb o e=>Mu e,ac2<|El _ _,trivial,λb hb=>absurd (show b∈([]:Zk) from hb)<|by simp,hok,.of_eq hg⟩
  split ads ((F _ hKb<|nsK hns).run ahJ [] s₁ H ⟨[.ref a],[]⟩ [.ref a] [.ref a] _ _ hr e0 (hbind s₁<|.ref a) (.cons rfl .nil)<|hsp H hO hS) λr s' h=>?_;cases r with
  |error e=>show (hCX H e s' h).elim
  |ok fl=>
   cases fl with
   |next=>show agy h
   |brk=>show agy h
   |cont=>show agy h
   |ret u=>
    let⟨v,H',os,bare,un,hok',r',q⟩:=h;have q':v=.B true:=q;subst q';obtain rfl:u=ahp true:=r';split⟨rfl,OldK.of_keep λb o e=>?_,os,bare⟩;cases q:H b with
    |none=>show un.keep b o e q (by intro z;show absurd (show b∈([]:Zk) from z)<|by simp) (by simp)
    |some u=>
     rcases hO b with z|⟨ob,xs,z⟩
     .rw[q] at z;ext z
     .have z2:=un.frzs b ob _ z;let⟨e1,_⟩:=hok b _ z;let⟨e2,_⟩:=hok' b _ z2;rw[e] at e1;ext e1;show e2
 cases hk:K.lookup a with
 |some o=>
  -- the script is one of the module's own objects
  have e:=KX a o hk;rw[ha] at e;ext e;split core (λ_=>none) (λ_=>.inl rfl) (.inr ⟨_,vs.toArray,_,hk,rfl,rfl,rfl,by rw[aaH,lenV];show hl,~~~rv⟩) (λb u z=>by have z':(none:Option HO)=some u:=z;ext z') (λb z=>absurd rfl z) λz=>absurd rfl z
 |none=>
  split core (λb=>if b=a then some (.frz { cls:=.type "list",data:=.seq vs.toArray }<|.L<|ns.map V.int) else none) (λb=>?_) (.inl<|.inr ⟨{ cls:=.type "list",data:=.seq vs.toArray },aac rfl⟩) (λb u z=>?_) (λb z=>?_) λ_=>hk
  .by_cases hb:b=a
   .exact .inr ⟨_,_,aac hb⟩
   .exact .inl<|aad hb
  .by_cases hb:b=a
   .have z':=(aac hb).symm.trans z;ext z';subst hb;show⟨ha,by rw[aar];show hl,vs,_,rv,ha⟩
   .have z':=(aad hb).symm.trans z;ext z'
  .by_cases hb:b=a
   .exact hb
   .exact absurd (aad hb) z
def NT{l:W.OpenLaw}{n k:Nat} {YP:ZI->ZH->Prop}{d:DefRec}{K:ahV->Zj}{CX:ZI->BA}{sp:ZI->Sp}{x:Str}
  (hn:l.most=some n) (hn2:n<=ZF) (hdf:d.params.defaults=[]) (hr:Zr k ahJ)
  (hY:∀(w:ZI) (h:ZH),YP w h->(K w.params).In h)
  (F:∀(w:ZI) (mg:Zg) (fa:ZB) (h:ZH),(K w.params).In h->h.Ns ZK mg->mg d.name=some (.ref fa) ->
   ∃fd:ZW,(∀(s:ZD) (u:ZE),ah1 s fd ⟨[u],[]⟩ [(x,u)]) /\
    ∀base:ZH,(K w.params).In base->base.Ns ZK mg->Zs l.prog w (K w.params) mg base (CX w) k fa fd [x] (sp w))
  (hsp:∀(w:ZI) (H:Hp) (a:ZB) (ns:Zn),ns.length<=n->KP H->SqL (K w.params) H a (ns.map V.int)->sp w [.ref a] H (λv _=>v=.B true) λ_ _ _=>False)
  (hCX:∀(w:ZI) (H:Hp) (s:ZD) (e:ZE) (s':ZD),CX w [] H s (λ_ _ _=>False) e s'->False) :
  W.WalkO q loose XP YP l.row.toRowW d [] (λf vs=>ajk f vs):=by
 split Att.xk hn hdf λw s₀ s₁ mg mb fa o pm cd doc a vs ns κ Y ho hd hcd hmg hobj hints Zz hg=>?_;have KX:=hY w _ Y;let⟨fd,hb,hF⟩:=F w mg fa _ KX κ.T.g hmg;show Hx KX κ.T.g κ.T.b κ.T.builtins κ.T.nolimit hg hobj hints (aaN Zz hn2) hr hF hb (λH hO hS=>hsp w H a ns Zz hO hS) λH e s'=>hCX w H s₁ e s'
def a8(s:ZM)(j:Nat):ZM:=match s with
 |.ClassDef _ _ _ body _ _ _ _ _ _ _=>body.getD j<|.Pass ⟨0,0,0,0⟩
 |_=>.Pass ⟨0,0,0,0⟩
def fw(s:ZM):Arguments:=match s with
 |.FunctionDef _ a _ _ _ _ _ _ _ _=>a
 |_=>{ posonlyargs:=[],args:=[],vararg:=none,kwonlyargs:=[],kw_defaults:=[],kwarg:=none,defaults:=[] }
def bW(s:ZM):List ZM:=match s with
 |.FunctionDef _ _ b _ _ _ _ _ _ _=>b
 |_=>[]
def aq(s:ZM):ZS:=match s with
 |.FunctionDef _ _ _ _ _ _ sc _ _ _=>sc
 |_=>{ kind:=.function,names:=[],isGenerator:=false,isCoroutine:=false }
abbrev my:BA:=λ_ _ _ _ _ _=>False
abbrev E0:XK:=λ_ _ _=>False
def pe:dF my X E0:=λ_ _ _ _ _ _ _ h=>h.elim
structure Fun(K:Zj)(x qual:Str)(st:ZM)(f:ZB)(fd:ZW):Prop where
 ex:∃(oc:ZE) (od:Option ZB) (kV doc pm:ZE) (an:Option ZB) (cdv ct:ZE) (osl:Array<|Zi),
  fd=aid x qual (fw st) (bW st) (aq st) .none kV doc pm an cdv ct/\K.lookup f=some ⟨oc,od,.func fd,osl⟩/\aiP K cdv qual=true
 kp:ahi K (.ref f)=true
section
variable {P:ZL}{w:ZI}{K:Zj}{mg:Zg}{base:ZH}
def Fun.ok{x qual:Str}{st:ZM}{f:ZB}{fd:ZW}{N ps:Zl}{k:Nat}{sp:Sp}(F:Fun K x qual st f fd)(S:Zw N ps<|aq st)(len:∀vs H Q E,sp vs H Q E->vs.length=ps.length)
  (hbody:∀(cdv:ZE) (A:ZP) (outer:List Env) (s:ZD) (H:Hp) (vs:Za) (Q:VK) (E:XK),Zr k (A.deeper<|envOfC qual (aq st) s.heap.objs.size f cdv)->sp vs H Q E ->
   ∃t,PSs (il my P w K mg base N qual (aq st) f cdv A outer s H E).nox (bW st) t/\t { nx:=λ_ H'=>Q .N H',rt:=Q } (jz N vs) H):Zs P w K mg base my (k+1) f fd ps sp:=by
 let⟨oc,od,kV,doc,pm,an,cdv,ct,osl,rfl,lk,hcd⟩:=F.ex;split GX lk hcd S len λA outer s H vs Q E hr hsp=>?_;let⟨t,h,q⟩:=hbody cdv A outer s H vs Q E hr hsp;show⟨t,h.nox,q⟩
def Fun.binds{qual:Str}{st:ZM} {fd:ZW}{ps:Zl}(F:Fun K x qual st f fd)
  (h:∀(kV doc pm:ZE) (an:Option ZB) (cdv ct:ZE) (us:Zh),us.length=ps.length->aiO (aid x qual (fw st) (bW st) (aq st) .none kV doc pm an cdv ct) ⟨us,[]⟩=pure (ps.zip us)):Binds K fd ps []:=by
 let⟨oc,od,kV,doc,pm,an,cdv,ct,osl,rfl,lk,hcd⟩:=F.ex;show .all<|h kV doc pm an cdv ct
def Ac{x qual:Str}{st:ZM}{f:ZB}{oc:ZE}{od an:Option ZB}{osl:Array<|Zi}{kV doc pm cdv ct:ZE}(l:K.lookup f=some ⟨oc,od,.func<|W.fnOf x qual (fw st) (bW st) (aq st) .none kV doc pm an cdv ct,osl⟩)
  (c:aiP K cdv qual=true) (k:ahi K (.ref f)=true):Fun K x qual st f<|W.fnOf x qual (fw st) (bW st) (aq st) .none kV doc pm an cdv ct:=⟨⟨oc,od,kV,doc,pm,an,cdv,ct,osl,rfl,l,c⟩,k⟩
end
def Same(H H':Hp):Prop:=∀b o,H b=some o->H' b=some o
def Same.refl(H:Hp):Same H H:=λ_ _ h=>h
end L2
set_option linter.all false
set_option maxHeartbeats 4000000
set_option maxRecDepth 100000
namespace L2
open PyProof.Rows
structure CmpOk(XN:Zl)(sc scope:ZS)(N:Zl)(js:List<|Option Nat):Prop where
 kind:scope.kind=.function
 cell:∀y∈scope.names,y.2 ≠ .cell
 free:∀y∈scope.names,y.2=.free->sc.names.lookup y.1=some .cell\/sc.names.lookup y.1=some .free
 loc:∀y∈scope.names,y.2=.local->scope.names.lookup y.1=some .local
 len:js.length=N.length
 ix:((N.zip js).all λp=>match p.2 with|none=>true|some j=>decide (XN[j]?=some p.1)&&decide (scope.names.lookup p.1=some .free))=true
def jW(env:Env):List (Str×agV)->List (Str×ZB)->List (Str×ZB)
 |[],cs=>cs
 | (n,k)::r,cs=>jW env r (if k=.free then (match env.cells.lookup n with|some c=>(n,c)::cs|none=>cs) else cs)
theorem xt{env:Env}:∀ {names:List<|Str×agV} {cs:List<|Str×ZB},(∀n c,cs.lookup n=some c->env.cells.lookup n=some c)->∀n c,(jW env names cs).lookup n=some c->env.cells.lookup n=some c
 |[],_,h=>h
 | (m,k)::r,cs,h=>by
  unfold jW;split xt ?_;split
  .cases e:env.cells.lookup m with
   |none=>show h
   |some d=>
    intro n c hn;dsimp only at hn;rw[aa9] at hn;cases q:n==m with
    |true=>
     rw[q] at hn;have e1:n=m:=by simpa using q
     ext hn;rw[e1];show e
    |false=>rw[q] at hn;show h n c hn
  .exact h
theorem xr{env:Env}:∀ {names:List<|Str×agV} {cs:List<|Str×ZB} {n:Str},((n,ahg)∈names/\(∃c,env.cells.lookup n=some c))\/(∃c,cs.lookup n=some c)->∃c,(jW env names cs).lookup n=some c
 |[],_,_,h=>h.elim (λz=>by cases z.1) id
 | (m,k)::r,cs,n,h=>by
  unfold jW;split xr ?_;rcases h with ⟨hm,c,hc⟩|⟨c,hc⟩
  .rcases aau.1 hm with e|hm
   .ext e;right;rw[aac rfl,hc];show⟨c,by rw[aa9];simp⟩
   .exact .inl ⟨hm,c,hc⟩
  .right;split
   .cases e:env.cells.lookup m with
    |none=>show⟨c,hc⟩
    |some d=>
     dsimp only;rw[aa9];cases q:n==m with
     |true=>show⟨d,rfl⟩
     |false=>show⟨c,hc⟩
   .exact⟨c,hc⟩
def qC{env:Env}{scope:ZS}(h:∀y∈scope.names,y.2=.free->∃c,env.cells.lookup y.1=some c):aiq scope env=pure (jW env scope.names []):=by
 have key:∀(names:List<|Str×agV) (cs:List<|Str×ZB),(∀y∈names,y.2=.free->∃c,env.cells.lookup y.1=some c) ->
   (forIn names cs (λ(x:Str×agV) r=>if (x.2==ahg)=true then (do let a ← cellOf env x.1;pure (aiw ((x.1,a)::r))) else pure (aiw r)):Sem<|List<|Str×ZB)=pure (jW env names cs):=by
  intro names;induction names with
  |nil=>intro cs _;rfl
  |cons y r ih=>
   intro cs hy;let⟨n,k⟩:=y;rw[adv];unfold jW;by_cases hk:k=.free
   .subst hk;let⟨c,hc⟩:=hy _ aaJ rfl;have e1:cellOf env n=pure c:=by unfold cellOf;rw[hc]
    rw[aac<|by rfl];rw[aac rfl,hc];show ((cellOf env n >>= λa=>pure<|ForInStep.yield ((n,a)::cs)) >>= _)=_;rw[e1];show ih _ λz hz=>hy z<|aaK _ hz
   .have hb:(k==ahg)=false:=by simpa using hk
    rw[aad<|by rw[hb];decide,aad hk];show ih _ λz hz=>hy z<|aaK _ hz
 have k:=key scope.names [] h;unfold aiq;show (forIn scope.names ([]:List<|Str×ZB) _ >>= λcs=>pure cs)=_;split Eq.trans (aaF (λt=>t >>= λcs=>pure cs)<|Eq.trans ?_ k) rfl;congr 1
theorem sj{env:Env}:∀ {names:List<|Str×agV} {x:Str},names.lookup x=some .free ->
  (names.map λ(n,k)=>if (k==ahg&&env.scope.kind == .function&&env.kindOf n==some .cell) then (n,ahT) else (n,k)).lookup x=some .cell \/
  (names.map λ(n,k)=>if (k==ahg&&env.scope.kind == .function&&env.kindOf n==some .cell) then (n,ahT) else (n,k)).lookup x=some .free
 |[],_,h=>by simp at h
 | (n,k)::r,x,h=>by
  have ih:=@sj env r x;rw[aax];dsimp only;cases q:x==n with
  |true=>
   rw[aa9,q] at h;ext h;split
   .left;rw[aa9,q]
   .right;rw[aa9,q]
  |false=>
   rw[aa9,q] at h;split
   .rw[aa9,q];show ih h
   .rw[aa9,q];show ih h
set_option tactic.hygienic true in
theorem mi{env:Env}:∀ {names:List<|Str×agV} {x:Str} {j:agV},(∀y∈names,y.2 ≠ .cell)->(j=.cell\/j=.free) ->
  (names.map λ(n,k)=>if (k==ahg&&env.scope.kind == .function&&env.kindOf n==some .cell) then (n,ahT) else (n,k)).lookup x=some j->(x,ahg)∈names
 |[],_,_,_,_,h=>by simp at h
 | (n,k)::r,x,j,hc,hj,h=>by
  have ih:=@mi env r x j (λy hy=>hc y<|aaK _ hy) hj;rw[aax] at h;dsimp only at h;cases q:x==n with
  |true=>
   have e:x=n:=by simpa using q
   subst e;split at h
   .rename_i g;have:k=.free:=by
     simp only[aaV,ab2] at g;show g.1.1
    subst this;show aaJ
   .rw[aa9,q] at h;ext h;rcases hj with z|z
    .exact absurd z<|hc _ aaJ
    .rw[z];show aaJ
  |false=>
   split aaK _<|ih ?_;split at h
   .rw[aa9,q] at h;show h
   .rw[aa9,q] at h;show h
def inn(js:List<|Option Nat)(Z:St):St:=js.map λo=>match o with|none=>none|some j=>(Z[j]?).join
structure CxZ where
 cl:List<|Str×ZB
 C:ZB
 s:ZD
 H:Hp
 fp:Zk
 Zx:Zf
def iW(X:Cx)(N:Zl)(scope:ZS)(z:CxZ):Cx where
 p:=X.p
 w:=X.w
 K:=X.K
 mg:=X.mg
 ba:=X.ba
 A:=X.A
 N:=N
 s:=z.s
 h:=z.H
 e:=aiv scope z.cl z.C X.e
 o:=X.t
 t:=X.t
 ex:=z.fp
 fn:=λ_=>false
 c:=X.c
 pn:=X.pn++z.Zx
 xe:=λ_ _=>False
section
variable {X:Cx}{Zx:Zf}{Z:St}{H:Hp}{s:ZD}{XN N:Zl}{sc scope:ZS}{js:List<|Option Nat}
def Hk{h1:ZH}{m:Zg}{tk:Nat}{fp:Zk}(ck:CmpOk XN sc scope N js)(hXN:X.N=XN)(hsc:X.e.scope=sc)(I:Inv X Zx Z H s)(hf:∀b∈fp,mz X Zx H b)
  (hfo:∀b∈fp,b<s.heap.objs.size) (hn:h1.Ns s.heap.objs.size m) (hk:∀b o,s.heap.get? b=some o->h1.get? b=some o) :
  Inv (iW X N scope ⟨jW X.e scope.names [],s.heap.objs.size,s,H,fp,Zx⟩) [] (inn js Z) H (s.wt h1 tk):=by
 subst hXN hsc;have sub:∀n c,(jW X.e scope.names []).lookup n=some c->X.e.cells.lookup n=some c:=xt λn c h=>by simp at h
 have clt:∀n c,(jW X.e scope.names []).lookup n=some c->c<s.heap.objs.size:=λn c h=>by let⟨v,q⟩:=I.cell n c<|sub n c h;show q.lt
 have has:∀x,(x,ahg)∈scope.names->∃c,(jW X.e scope.names []).lookup x=some c:=λx hx=>
  xr (.inl ⟨hx,I.ok.has x<|ck.free _ hx rfl⟩)
 split⟨⟨I.ok.mod,ck.kind,I.ok.glob,I.ok.blt,aaq _,λx y c h1 h2=>I.ok.inj x y c (sub x c h1)<|sub y c h2,λx hx=>?has,λx c hx=>?cab,I.ok.hd,I.ok.frames,.inl rfl,λb hb=>?exf,I.bs,?bsz,λb o e hb=>?noex,λb hb=>?exfs,I.stack,I.stkFree⟩,
  rfl,I.bare,Un.kept hk,⟨m,hn,λi x v h1 h2 h3=>?loc⟩,λx c h=>?cell,I.hok.fresh<|aaq _,λx c h=>I.freeC x c<|sub x c h,λp hp=>?pin,I.hok.kept hk,?len⟩
 case has=>
  rcases hx with hx|hx
  .exact has x<|mi ck.cell (.inl rfl) hx
  .exact has x<|mi ck.cell (.inr rfl) hx
 case cab=>ext hx
 case exf=>
  let⟨f0,f1,f2,f3,f4,f5⟩:=hf b hb;show⟨aaC<|hfo b hb,λx c e=>f4 x c<|sub x c e⟩
 case bsz=>show aaN I.ok.bsz I.sz
 case noex=>
  let⟨f0,f1,f2,f3,f4,f5⟩:=hf b hb;rcases f3 with f3|f3
  .exact I.ok.noex b o e f3
  .exact absurd (aaZ (aaw e)<|aaN I.ok.bsz f3)<|acb _
 case exfs=>
  let⟨f0,f1,f2,f3,f4,f5⟩:=hf b hb;intro z;rcases aau.1 (I.stkSub b z) with e|e
  .exact f1 e
  .exact f2 e
 case loc=>
  have hl:N.length=js.length:=ck.len.symm;have hi:i<js.length:=by have:=(aa0.1 h1).1;have e:(iW X N scope ⟨jW X.e scope.names [],s.heap.objs.size,s,H,fp,Zx⟩).N=N:=rfl;rw[e] at this;lia
  have hN:N[i]?=some x:=h1;have hj:js[i]?=some js[i]:=ab8 hi;unfold inn at h2;rw[aaX,hj] at h2;cases q:js[i] with
  |none=>rw[q] at h2;ext h2
  |some j=>
   rw[q] at h2 hj;have h2':(Z[j]?).join=some v:=abb h2;have hZ:Z[j]?=some (some v):=by
    cases e:Z[j]? with
    |none=>rw[e] at h2';ext h2'
    |some o=>rw[e] at h2';show aaF some h2'
   have hm:(x,some j)∈N.zip js:=by split abp (i:=i) ?_;rw[List.getElem?_zip_eq_some];show⟨hN,hj⟩
   have hc:=ac9.1 ck.ix _ hm;simp only[aaV,ab0] at hc;let⟨c1,c2⟩:=hc;have hfr:(x,ahg)∈scope.names:=ac5 c2;have hvis:X.e.scope.names.lookup x=some .cell\/X.e.scope.names.lookup x=some .free:=ck.free _ hfr rfl;let⟨m0,hn0,hl0⟩:=I.loc;let⟨u,r,l⟩:=hl0 j x v c1 hZ<|hvis.elim (λz=>.inr<|.inl z) λz=>.inr<|.inr z;split⟨u,r,.inr ⟨?_,?_⟩⟩
   .exact sj c2
   .rcases l with ⟨k1,_⟩|⟨_,c,k1,k2⟩
    .have k1':X.e.scope.names.lookup x=some .local:=k1;rcases hvis with z|z
     .rw[z] at k1';ext k1'
     .rw[z] at k1';ext k1'
    .let⟨c',hc'⟩:=has x hfr;have e:=sub x c' hc';rw[k1] at e;ext e;let⟨oc,ho,hd⟩:=k2;show⟨c,hc',oc,hk _ _ ho,hd⟩
 case cell=>
  let⟨v,oc,ho,hd⟩:=I.cell x c<|sub x c h;show⟨v,oc,hk _ _ ho,hd⟩
 case pin=>
  have hp':p∈X.pn++Zx:=by simpa[iW] using hp
  let⟨p1,p2,p3,p4,p5⟩:=I.pin p hp';split⟨hk _ _ p1,p2,aaC<|aaw p1,λz=>?_,p5⟩;rcases aau.1 (I.stkSub _ z) with e|e
  .exact p3 e
  .exact p4 e
 case len=>
  show (inn js Z).length=N.length;unfold inn;rw[aar];show ck.len
abbrev VI:=St->Hp->(Bool->Hp->Prop)->Prop
def PIf(X:Cx)(ifs:List ZA)(t:VI):Prop:=
 ∀(Zx:Zf) (s:ZD) (Z:St) (H:Hp) (Q:Bool->Hp->Prop),Inv X Zx Z H s->t Z H Q ->
  wX X (forIn ifs true λc r=>if r=true then do let ok ← aib c X.e (ZN c X.e);pure (aiw ok) else pure (aiw r)) (TP X Zx Z Q) X.xe s
def Oq:VI:=λ_ H Q=>Q true H
def MP:PIf X [] Oq:=λ_ _ _ H _ I h=>wpAny_tests_nil ⟨H,I,h⟩
def MQ(h:PT X c t):PIf X [c] t:=λZx s Z H Q I q=>wpAny_tests_one<|h Zx s Z H Q I q
def Lev(Z Z':St):Prop:=Z.length=Z'.length/\∀(i:Nat) (v:V),Z[i]?=some (some v)->Z'[i]?=some (some v)
def Lev.refl(Z:St):Lev Z Z:=⟨rfl,λ_ _ h=>h⟩
def qj(js:List<|Option Nat)(g:TG):Prop:=∀(Z0:St) (v:V) (Z:St) (H:Hp) (Q:St->Hp->Prop),Lev (inn js Z0) Z->g v Z H Q->g v Z H λZ' H'=>Lev (inn js Z0) Z'/\Q Z' H'
def xf(js:List<|Option Nat)(g:Fz):Prop:=∀(Z0:St) (vs:Za) (Z:St) (H:Hp) (Q:St->Hp->Prop),Lev (inn js Z0) Z->g vs Z H Q->g vs Z H λZ' H'=>Lev (inn js Z0) Z'/\Q Z' H'
def Dd{i:Nat}(h:js[i]?=some none:=by rfl):qj js<|hU i:=λZ0 v Z H Q l q=>by
 split⟨⟨?_,λj u e=>?_⟩,q⟩
 .rw[ab6];show l.1
 .by_cases hij:i=j
  .subst hij;unfold inn at e;rw[aaX,h] at e;ext e
  .rw[aav hij];show l.2 j u e
def NK:xf js LL:=λZ0 vs Z H Q l q=>⟨q.1,l,q.2⟩
def Jw(h:qj js t)(k:xf js u)(mono:∀v Z H (Q Q':St->Hp->Prop),(∀a b,Q a b->Q' a b)->t v Z H Q->t v Z H Q'):xf js<|Ca t u:=λZ0 vs Z H Q l q=>by let⟨v,r,e,q⟩:=q;show⟨v,r,e,mono _ _ _ _ _ (λZ' H' z=>k Z0 r Z' H' Q z.1 z.2)<|h Z0 v Z H _ l q⟩
def Ae{i:Nat}:∀v Z H (Q Q':St->Hp->Prop),(∀a b,Q a b->Q' a b)->hU i v Z H Q->hU i v Z H Q':=λ_ _ _ _ _ h q=>h _ _ q
def UL{K:Zj}{n:Nat}{t:Fz}(h:xf js t):qj js<|LM K n t:=λZ0 v Z H Q l q=>by let⟨a,xs,e,hq,hl,q⟩:=q;show⟨a,xs,e,hq,hl,h Z0 xs Z H Q l q⟩
def uK(js:List<|Option Nat)(wi:TI)(g:TG)(tt:VI)(te:TE):TE:=λZ H Q=>wi Z H λJ H1=>∀D,H1 D=none->∃W:Nat->Nat->Hp->Prop,(∃m,W 0 m<|upd H1 D<|.L [])/\∀i m H,W i m H ->
 (J.stop i H/\Q (.ref D) H)\/(J.go i H/\∀x H',J.yld i H x H'->g x (inn js Z) H' λZ2 H2=>tt Z2 H2 λb H3=>
  if b=true then te Z2 H3 λy H4=>∃ys,H4 D=some (.L ys)/\ys.length<ZF/\∃m',m'<m/\W (i+1) m' (upd H4 D<|.L<|ys++[y]) else ∃m',m'<m/\W (i+1) m' H3)
variable {tg iter elt:ZA}{ifs:List ZA}{pos:Pos}{wi:TI}{g:TG}{tt:VI}{te:TE}
def DT{WX:Ze}{R:ag4->ZD->Prop}{it:ZB} {W:Nat->Nat->Hp->Prop}{n:Nat}
  (hc:X.c=true) (T:Turn X.p X.w X.K tg J fp it tn) (hz:∀b∈fp,∀H',H' b=none->mz (iW X N scope z) [] H' b)
  (hW:∀v s',WX v s'->notedBy (ZJ X.p X.w) X.A (aiv scope z.cl z.C X.e) (λe s'=>R (.error e) s') v s')
  (hg:PG ((iW X N scope z).wish WX) tg g) (hs:qj js g) (ht:PIf ((iW X N scope z).wish WX) ifs tt) (he:PE ((iW X N scope z).wish WX) elt te)
  (turn:∀i m H,W i m H->(J.stop i H/\∀s',Inv (iW X N scope z) [] (inn js Z) H s'->R (.ok .next) s')\/(J.go i H/\∀x H',J.yld i H x H'->g x (inn js Z) H' λZ2 H2=>tt Z2 H2 λb H3=>
   if b=true then te Z2 H3 λy H4=>∃ys,H4 D=some (.L ys)/\ys.length<ZF/\∃m',m'<m/\W (i+1) m' (upd H4 D<|.L<|ys++[y]) else ∃m',m'<m/\W (i+1) m' H3))
   {H1:Hp} (I1:Inv (iW X N scope z) [] (inn js Z) H1 s1) (t1:tn 0 s1.heap) (f1:∀b∈fp,H1 b=none) (w1:W 0 n H1) :
  agU (ZJ X.p X.w) X.A (.compLoop (.ListComp elt [⟨tg,iter,ifs,0⟩] scope pos) 0 (.ref it) (.ref D)<|compEnvC scope z.cl z.C X.e) R s1:=by
 split codeAny_loop (c:=.compLoop (.ListComp elt [⟨tg,iter,ifs,0⟩] scope pos) 0 (.ref it) (.ref D)<|compEnvC scope z.cl z.C X.e) rfl
  (λk s'=>∃i H',Inv (iW X N scope z) [] (inn js Z) H' s'/\tn i s'.heap/\(∀b∈fp,H' b=none)/\W i k H') ?_ n ⟨0,H1,I1,t1,f1,w1⟩
 rintro k s2 ⟨i,H2,I2,t2,f2,w2⟩;show wX X ((compTurn (.ListComp elt [⟨tg,iter,ifs,0⟩] scope pos) 0 (.ref it) (.ref D)<|compEnvC scope z.cl z.C X.e).onRaise λx=>do noteFrame x (aiv scope z.cl z.C X.e);theTreesLotGoes x) _ _ s2;split wpAny_noted ?_;rw[compTurn_list];split aaa<|adr ?_;rcases turn i k H2 w2 with ⟨stop,fin⟩|⟨go,step⟩
 .refine aaa<|bz (T.done (iW X N scope z) rfl rfl rfl hc i [] s2 (inn js Z) H2 _ I2 (λb hb=>hz b hb H2<|f2 b hb) t2 stop) λr s3 h3=>?_;let⟨rfl,I3⟩:=h3;show aal<|fin s3 I3
 .refine aaa<|bz (T.item (iW X N scope z) rfl rfl rfl hc i [] s2 (inn js Z) H2 _ I2 (λb hb=>hz b hb H2<|f2 b hb) t2 go) λr s3 h3=>?_;let⟨u,rfl,h3⟩:=h3;split aaa<|bz h3 λ_ s4 h4=>?_;let⟨x,H4,I4,r4,y4,t4,f4⟩:=h4;have P4:=I4.pinned (λb hb=>hz b hb H4<|f4 b hb)<|T.obj _ _ t4;split aaa<|aaO (hg _ s4 (inn js Z) H4 x u _ (P4.wish _) r4<|hs Z x (inn js Z) H4 _ (Lev.refl _)<|step x H4 y4) (λ_ s5 h5=>?_) λv s' h=>hW v s' h;let⟨Z5,H5,I5,lev,q5⟩:=h5;split aaa<|aaO (ht _ s5 Z5 H5 _ I5 q5) (λok s6 h6=>?_) λv s' h=>hW v s' h;let⟨H6,I6,q6⟩:=h6;have ahD:∀ {s7:ZD} {H7:Hp},Inv (iW X N scope z) ([]++oI fp s4.heap) Z5 H7 s7->(∃m',m'<k/\W (i+1) m' H7)->∃m,m<k/\∃i H',Inv (iW X N scope z) [] (inn js Z) H' s7/\tn i s7.heap/\(∀b∈fp,H' b=none)/\W i m H':=λ{s7 H7} I7 h7=>by
   let⟨m',hm,w7⟩:=h7;split⟨m',hm,i+1,H7,(I7.unpinned).weak lev.1 lev.2,T.keep _ _ _ t4 λb hb o e=>(I7.pin (b,o)<|abe _<|abe _<|gJ hb e).1,λb hb=>?_,w7⟩;let⟨o,e,d⟩:=T.obj _ _ t4 b hb;show (I7.pin (b,o)<|abe _<|abe _<|gJ hb e).2.1
  cases ok with
  |false=>
   rw[aad ⋯] at q6;show aal ⟨rfl,ahD I6.unwish q6⟩
  |true=>rw[aac rfl] at q6;split aaa<|aaa<|aaO (he _ s6 Z5 H6 _ I6 q6) (λy s7 h7=>?_) λv s' h=>hW v s' h;let⟨vy,H7,I7,r7,ys,hD,hl,q7⟩:=h7;split aaa<|aaO (uw (X:=(iW X N scope z).wish WX) _ s7 Z5 H7 (.ref D) [vy] (.ref D) [y] (λ_ H'=>∃m',m'<k/\W (i+1) m' H') I7 rfl (.cons r7 .nil) ⟨D,ys,vy,rfl,rfl,hD,hl,q7⟩) (λ_ s8 h8=>?_) λv s' h=>hW v s' h;let⟨_,H8,I8,_,q8⟩:=h8;show aal<|aal ⟨rfl,ahD I8.unwish q8⟩
def FX(X:Cx)(N:Zl)(scope:ZS)(Zx:Zf)(Z:St)(σ:CxZ->Ze)(R:ZE->ZB->ag4->ZD->Prop):Prop:=∀z C D,
 (∀pl Z' H' s',Inv (iW X N scope z) pl Z' H' s'->∃m o,Inv X (Zx++[(C,o)]) Z H' s'/\s'.heap.Ns C m/\H' C=none) ->
 (X.s.heap.objs.size<=C/\C≠X.e.locals/\(∀x c,X.e.cells.lookup x=some c->c≠C)/\∀p∈X.pn++Zx,p.1≠C)->C∉X.fs ->
 ∀v s',σ z v s'->notedBy (ZJ X.p X.w) X.A (aiv scope z.cl C X.e) (λe s'=>R (.ref D) C (.error e) s') v s'
def Ow{R:ZE->ZB->ag4->ZD->Prop}:FX X N scope Zx Z (λ_ _ _=>False) R:=λ_ _ _ _ _ _ _ _ h=>h.elim
def qI{σ:CxZ->Ze} {RR:ZE->ZB->ag4->ZD->Prop}{Q:VK} (ck:CmpOk XN sc scope N js)(hXN:X.N=XN)(hsc:X.e.scope=sc)(hc:X.c=true)
  (hg:∀z,PG ((iW X N scope z).wish<|σ z) tg g) (hs:qj js g) (ht:∀z,PIf ((iW X N scope z).wish<|σ z) ifs tt) (he:∀z,PE ((iW X N scope z).wish<|σ z) elt te)
  (h2:VD X Zx Z tg (λJ H1=>∀D,H1 D=none->∃W:Nat->Nat->Hp->Prop,(∃m,W 0 m<|upd H1 D<|.L [])/\∀i m H,W i m H ->
   (J.stop i H/\Q (.ref D) H)\/(J.go i H/\∀x H',J.yld i H x H'->g x (inn js Z) H' λZ2 H2=>tt Z2 H2 λb H3=>
    if b=true then te Z2 H3 λy H4=>∃ys,H4 D=some (.L ys)/\ys.length<ZF/\∃m',m'<m/\W (i+1) m' (upd H4 D<|.L<|ys++[y]) else ∃m',m'<m/\W (i+1) m' H3)) itv s2)
  (hRR:∀D C s' H' m o,Inv X (Zx++[(C,o)]) Z H' s'->s'.heap.Ns C m->(X.s.heap.objs.size<=C/\C≠X.e.locals/\(∀x c,X.e.cells.lookup x=some c->c≠C)/\∀p∈X.pn++Zx,p.1≠C)->H' C=none->Q (.ref D) H'->RR (.ref D) C (.ok .next) s')
  (hRE:FX X N scope Zx Z σ RR) :
  wX X (newList []) (λacc s₃=>wX X (newFunctionEnv scope X.e.globals (jW X.e scope.names []) [] X.e.qual none .none<|some X.e) (λcenv s₄=>
   agU (ZJ X.p X.w) X.A (.compStart (.ListComp elt [⟨tg,iter,ifs,0⟩] scope pos) 0 itv acc { cenv with scope:=relabel scope X.e }) (RR acc cenv.locals) s₄) E s₃) E s2:=by
 let⟨it,fp,tn,J,H2,rfl,I2,T,t2,f2,q2⟩:=h2;have fo:∀b∈fp,b<s2.heap.objs.size:=λb hb=>by let⟨o,e,_⟩:=T.obj _ _ t2 b hb;show aaw e
 have hD:H2 s2.heap.objs.size=none:=I2.fresh;let⟨W,⟨n,w0⟩,turn⟩:=q2 _ hD
 let sa:ZD:={ s2 with heap:=s2.heap.push { cls:=.type "list",data:=.seq ([]:Zh).toArray },toks:=s2.toks }
 have I3:Inv X Zx Z (upd H2 s2.heap.objs.size<|.L []) sa:=I2.lnew (its:=[]) .nil<|aaL _;have f3:∀b∈fp,mz X Zx (upd H2 s2.heap.objs.size<|.L []) b:=λb hb=>by let⟨g0,g1⟩:=f2 b hb;show⟨by rw[aR<|aaC<|fo b hb];show g0,g1⟩
 have sz:sa.heap.objs.size=s2.heap.objs.size+1:=ach _ _;split aa7<|wpAny_newFunctionEnv ck.cell (by intro y hy;simp at hy) (λh1 hns hsb=>?_) ck.kind;have kept:∀b o,sa.heap.get? b=some o->h1.get? b=some o:=λb o e=>hsb.extBut b o (aaC<|aaw e)<|aas _ e;have I4:=Hk (tk:=s2.toks+([]:List<|Str×ZE).length) ck hXN hsc I3 f3 (λb hb=>by rw[sz];show adw<|fo b hb) hns kept;have t4:tn 0 h1:=T.keep _ _ _ t2 λb hb o e=>kept b o<|aas _ e
 let z:CxZ:=⟨jW X.e scope.names [],sa.heap.objs.size,sa,upd H2 s2.heap.objs.size<|.L [],fp,Zx⟩
 have fz:∀b∈fp,∀H',H' b=none->mz (iW X N scope z) [] H' b:=λb hb H' hn=>by let⟨g0,g1,g2,g3,g4,g5⟩:=f3 b hb;split⟨hn,(I4.ok.exf b hb).1,I4.ok.exfs b hb,.inl hb,(I4.ok.exf b hb).2,λp hp=>?_⟩;show g5 p (by simpa[z,iW] using hp)
 have cC:z.C≠X.e.locals:=acm I3.lt;have nC:z.C∉X.fs:=I3.nofs<|aaq _;have hC:X.s.heap.objs.size<=z.C/\z.C≠X.e.locals/\(∀x c,X.e.cells.lookup x=some c->c≠z.C)/\∀p∈X.pn++Zx,p.1≠z.C:=⟨I3.sz,cC,λx c e=>by
  let⟨v,q⟩:=I3.cell x c e
  show aaC q.lt,λp hp=>aaC<|aaw (I3.pin p hp).1⟩
 -- a state of the block,seen from around
 have back:∀pl Z' H' s',Inv (iW X N scope z) pl Z' H' s'->∃m o,Inv X (Zx++[(z.C,o)]) Z H' s'/\s'.heap.Ns z.C m/\H' z.C=none:=λpl Z' H' s' Y=>by
  have bb:=Y.base;have J0:Inv X Zx Z H' s':=I3.call' Y.os bb Y.hok Y.bare λb hb=>by let⟨g0,g1,g2,g3,g4,g5⟩:=f3 b hb;show⟨g3,g1,g4,g5⟩
  let⟨mC,nC,_⟩:=Y.loc;obtain⟨oC,eC,dC⟩:∃o,s'.heap.get? z.C=some o/\∀v,o.data ≠ .cell v:=by let⟨o,es,ep,ho,hd,_⟩:=nC;show⟨o,ho,λv z=>by rw[hd] at z;ext z⟩
  split⟨mC,oC,J0.pins_of λp hp=>?_,nC,Y.free⟩;rcases ab1.1 hp with hp|hp
  .exact J0.pin p<|abe _ hp
  .rw[aaG.1 hp];show⟨eC,Y.free,cC,I3.nofs<|aaq _,dC⟩
 have loop:=DT (X:=X) (Z:=Z) (iter:=iter) (pos:=pos) (z:=z) (WX:=σ z) (R:=RR (.ref s2.heap.objs.size) z.C) (D:=s2.heap.objs.size) (W:=W) (n:=n) hc T fz (hRE z z.C s2.heap.objs.size back hC nC) (hg _) hs (ht _) (he _)
  (λi m H w=>(turn i m H w).imp (λa=>⟨a.1,λs' Y=>by
   let⟨m,o,J1,nC,fC⟩:=back _ _ _ _ Y
   show hRR _ _ s' H m o J1 nC hC fC a.2⟩) id) I4 t4 (λb hb=>(f3 b hb).1) w0
 show codeAny_compStart_list loop<|T.self _ 0 _ _ _ t4 loop
abbrev CpX(X:Cx):ZE->ZB->ag4->ZD->Prop:=compPost (ZJ X.p X.w) X.A X.xe none λ_ _=>True
def CB{σ:CxZ->Ze}(hF:∀Zx Z,FX X N scope Zx Z σ<|CpX X)(ck:CmpOk XN sc scope N js)(hi:PI X tg iter wi)(hg:∀z,PG ((iW X N scope z).wish<|σ z) tg g)(hs:qj js g)(ht:∀z,PIf ((iW X N scope z).wish<|σ z) ifs tt)(he:∀z,PE ((iW X N scope z).wish<|σ z) elt te)
  (hXN:X.N=XN) (hsc:X.e.scope=sc) (hc:X.c=true) (hf:∀x,aio iter X.e x=pure x) :
  PE X (.ListComp elt [⟨tg,iter,ifs,0⟩] scope pos) (uK js wi g tt te):=by
 intro Zx s Z H Q I h;rw[eval_ListComp];subst hXN hsc;have hcl:aiq scope X.e=pure (jW X.e scope.names []):=qC λy hy hk=>I.ok.has y.1<|ck.free y hy hk;split afL (use:=none) rfl hf hcl ck.kind ck.loc<|bz (hi Zx s Z H _ I h) λv s1 h1=>bz h1 λitv s2 h2=>?_;split qI (RR:=λacc C=>compPost (ZJ X.p X.w) X.A X.xe none (EP X Zx Z Q) acc C) ck rfl rfl hc hg hs ht he h2 ?_<|hF Zx Z;intro D C s' H' m o J nC hC fC q;split⟨m,nC,λh' sb=>⟨.ref D,H',?_,rfl,q⟩⟩;have J0:Inv X Zx Z H' s':=J.unpinned;show J0.turned (t':=s'.toks) (it:=C) (λb o hb e=>sb.extBut b o hb e) fC hC.2.1 (.inr hC.1) hC.2.2.1 hC.2.2.2
def CG{σ:CxZ->Ze}{i:Nat}{y:Str}{pos' spos:Pos}(hF:∀Zx Z,FX X N scope Zx Z σ<|CpX X)(ck:CmpOk XN sc scope N js)(hN:X.N.Nodup)(hi0:X.N[i]?=some y)(hx:N4 X.e.scope y)(hi:PI X tg iter wi)(hg:∀z,PG ((iW X N scope z).wish<|σ z) tg g)(hs:qj js g)(ht:∀z,PIf ((iW X N scope z).wish<|σ z) ifs tt)(he:∀z,PE ((iW X N scope z).wish<|σ z) elt te)
  (hsw:ahM (.ListComp elt [⟨tg,iter,ifs,0⟩] scope pos) (some<|.Name y pos') spos.line X.e=pure true)
  (hXN:X.N=XN) (hsc:X.e.scope=sc) (hc:X.c=true) (hf:∀x,aio iter X.e x=pure x)
  (hfn:X.fn y=true\/X.e.scope.names.lookup y=some .local) :
  PS X (.Assign [.Name y pos'] (.ListComp elt [⟨tg,iter,ifs,0⟩] scope pos) spos) (yM (uK js wi g tt te)<|hU i):=by
 intro Zx s Z H D I h;rw[exec_Assign_Name_used _ _ _ _ hsw];subst hXN hsc;have hcl:aiq scope X.e=pure (jW X.e scope.names []):=qC λy hy hk=>I.ok.has y.1<|ck.free y hy hk;split aaa<|adr<|aaa ?_;show wX X (comprehension (.ListComp elt [⟨tg,iter,ifs,0⟩] scope pos) scope X.e _ (newList []) false (ZN iter X.e) (some<|assign (.Name y pos') X.e) >>= λ_=>pure Unit.unit) _ _ s;split aaa<|bz (afL (use:=some<|assign (.Name y pos') X.e) (Q:=λ_ s'=>SP X Zx D .next s') rfl hf hcl ck.kind ck.loc<|bz (hi Zx s Z H _ I h) λv s1 h1=>bz h1 λitv s2 h2=>?_) λ_ s' q=>aal<|aal q;split qI (RR:=λacc C=>compPost (ZJ X.p X.w) X.A X.xe (some<|assign (.Name y pos') X.e) (λ_ s'=>SP X Zx D .next s') acc C) (Q:=λx H1=>hU i x Z H1 D.nx) ck rfl rfl hc hg hs ht he h2 ?_<|hF Zx Z;intro A C s' H' m o J nC hC fC q;split bz (CC hN hi0 hx hfn _ s' Z H' (.ref A) (.ref A) _ J rfl q) λ_ s3 h3=>?_;let⟨Z3,H3,J3,q3⟩:=h3;have pc:=J3.pin (C,o)<|abe _<|abe _ aaJ;have oC:s'.heap.get? C=some o:=(J.pin (C,o)<|abe _<|abe _ aaJ).1;split⟨m,nC.at' λo' e=>?_,λh' sb=>⟨Z3,H3,?_,q3⟩⟩
 .rw[oC] at e;ext e;show pc.1
 .have J0:Inv X Zx Z3 H3 s3:=J3.unpinned;show J0.turned (t':=s3.toks) (it:=C) (λb o hb e=>sb.extBut b o hb e) pc.2.1 hC.2.1 (.inr hC.1) hC.2.2.1 hC.2.2.2
end
def Tn(K:Zj):Za->Hp->VK->Prop:=λxs H Q=>∃p ys,xs=[.ref p]/\((SqL K H p ys/\∀l,H l=none->Q (.ref l) (upd H l<|.T ys))\/(SqT K H p ys/\Q (.ref p) H))
def XC:Za->Hp->VK->Prop:=λxs H Q=>∃i j,xs=[.int i,.int j]/\Q (.int (if j > i then j else i)) H
def XD:Za->Hp->VK->Prop:=λxs H Q=>∃i j,xs=[.int i,.int j]/\Q (.int (if j<i then j else i)) H
def Xv:Za->Hp->VK->Prop:=λxs H Q=>(∃i,xs=[.int i]/\Q (.int i) H)\/∃k,xs=[.B k]/\Q (.int (if k then 1 else 0)) H
def abv:R2:=λx y H Q=>y=.N/\Q (.B<|decide (x=.N)) H
def abU(K:Zj)(ta:TE):TT:=λZ H Q=>ta Z H λx H'=>∃k,KS K x H' k/\Q k H'
def Pt(K:Zj):Za->Hp->VK->Prop:=λxs H Q=>∃p,∃ns:Zn,xs=[.ref p]/\SqL K H p (ns.map V.int)/\Q (.int ns.sum) H
def Qe(n:Nat):It:=⟨λi _=>i<n,λi H x H'=>H'=H/\x=.int (2*i),λi _=>n<=i⟩
def OH(ta:TA):TI:=λZ H R=>ta Z H λvs H1=>∃j:Int,vs=[.int 0,.int j,.int 2]/\0<=j/\j<1000000/\R (Qe ((j+1)/2).toNat) H1
def WA(K:Zj)(tl:TE):TI:=λZ H R=>tl Z H λx H1=>∃a,x=.ref a/\(((∃xs,SqL K H1 a xs)/\R (Itl K a) H1)\/((∃xs,SqT K H1 a xs)/\R (Itt K a) H1))
end L2
namespace M
def bind_some{O β:Type}{x:Option O}{f:O->Option β}{b:β}(h:x.bind f=some b):∃a,x=some a/\f a=some b:=aaD.1 h
open L2
inductive D where
 |N|B (b:Bool)|int (i:Int)|str (x:Str)|ty (n:String)|L (l:List D)|T (l:List D)|S (l:List D)|ins (N:Str) (ns:Zl) (l:List D)|K (ks:Zm)|dif (ks:Zm)|mtp (l:List D)|dkv (ks:List bH) (l:List D)
 deriving Inhabited
abbrev Zb:=List D
def nD{S':Hp}(s:Same S S') (h:Rd S a u):Rd S' a u:=h.elim (λe=>.inl<|s _ _ e) λ⟨o,e⟩=>.inr ⟨o,s _ _ e⟩
def Jt{S':Hp}(s:Same S S') {xs:Za}(h:SqL K S a xs):SqL K S' a xs:=h.elim (λe=>.inl<|nD s e) .inr
def Ju{S':Hp}(s:Same S S') {xs:Za}(h:SqT K S a xs):SqT K S' a xs:=h.elim (λe=>.inl<|nD s e) .inr
def TpA(K:Zj)(S:Hp)(a:ZB)(xs:Za):Prop:=S a=some (.T xs)
def TpA.sq{xs:Za}(h:TpA K S a xs):SqT K S a xs:=SqT.of h
def TpA.mono{S':Hp}(s:Same S S') {xs:Za}(h:TpA K S a xs):TpA K S' a xs:=s _ _ h
def dA(ks:Zm):List<|List bH×V:=ks.map λk=>(k.map ag6,V.B true)
mutual
def Den(K:Zj)(S:Hp):D->V->Prop
 |.N,v=>v=.N
 |.B b,v=>v=.B b
 |.int i,v=>v=.int i
 |.str x,v=>v=.str x
 |.ty x,v=>v=.ty x
 |.L l,v=>∃p xs,v=.ref p/\Rd S p (.L xs)/\Zo K S l xs
 |.T l,v=>∃p xs,v=.ref p/\TpA K S p xs/\Zo K S l xs
 |.S l,v=>∃p xs,v=.ref p/\SqL K S p xs/\Zo K S l xs
 |.mtp l,v=>∃p xs,v=.ref p/\SqT K S p xs/\Zo K S l xs
 |.ins N ns l,v=>∃p C dx fs,v=.ref p/\agA K ZK N=some (some<|.ref C)/\S p=some (.ins C dx fs)/\fs.map (·.1)=ns/\Zo K S l (fs.map (·.2))
 |.K ks,v=>∃p,v=.ref p/\Rd S p (.dT<|dA ks)
 |.dif ks,v=>∃p o,v=.ref p/\S p=some (.frz o<|.dT<|dA ks)
 |.dkv ks l,v=>∃p kvs,v=.ref p/\Rd S p (.dK kvs)/\kvs.map (·.1)=ks/\Zo K S l (kvs.map (·.2))
def Zo(K:Zj)(S:Hp):Zb->Za->Prop
 |[],xs=>xs=[]
 |d::ds,xs=>∃y ys,xs=y::ys/\Den K S d y/\Zo K S ds ys
end
section
variable {K:Zj}{S S' H:Hp}
def Zo.nil:Zo K S [] []:=by unfold Zo;rfl
def Zo.cons{ds:Zb} {ys:Za}(h:Den K S d y)(k:Zo K S ds ys):Zo K S (d::ds) (y::ys):=by unfold Zo;show⟨y,ys,rfl,h,k⟩
def Zo.nil_of{xs:Za}(h:Zo K S [] xs):xs=[]:=by unfold Zo at h;show h
def Zo.cons_of{d:D}{ds:Zb}{xs:Za}(h:Zo K S (d::ds) xs):∃y ys,xs=y::ys/\Den K S d y/\Zo K S ds ys:=by unfold Zo at h;show h
mutual
theorem Den.mono(s:Same S S'):∀ {d:D} {v:V},Den K S d v->Den K S' d v
 |.K _,_,h=>by
  unfold Den at *;let⟨p,e,h1⟩:=h;show⟨p,e,nD s h1⟩
 |.dif _,_,h=>by
  unfold Den at *;let⟨p,o,e,h1⟩:=h;show⟨p,o,e,s _ _ h1⟩
 |.dkv _ _,_,h=>by
  unfold Den at *;let⟨p,kvs,e,h1,h2,h3⟩:=h;show⟨p,kvs,e,nD s h1,h2,Zo.mono s h3⟩
 |.N,_,h=>by unfold Den at *;show h
 |.B _,_,h=>by unfold Den at *;show h
 |.int _,_,h=>by unfold Den at *;show h
 |.str _,_,h=>by unfold Den at *;show h
 |.ty _,_,h=>by unfold Den at *;show h
 |.L _,_,h=>by
  unfold Den at *;let⟨p,xs,e,h1,h2⟩:=h;show⟨p,xs,e,nD s h1,Zo.mono s h2⟩
 |.T _,_,h=>by
  unfold Den at *;let⟨p,xs,e,h1,h2⟩:=h;show⟨p,xs,e,TpA.mono s h1,Zo.mono s h2⟩
 |.S _,_,h=>by
  unfold Den at *;let⟨p,xs,e,h1,h2⟩:=h;show⟨p,xs,e,Jt s h1,Zo.mono s h2⟩
 |.mtp _,_,h=>by
  unfold Den at *;let⟨p,xs,e,h1,h2⟩:=h;show⟨p,xs,e,Ju s h1,Zo.mono s h2⟩
 |.ins _ _ _,_,h=>by unfold Den at *;let⟨p,C,dx,fs,e,h0,h1,h2,h3⟩:=h;show⟨p,C,dx,fs,e,h0,s _ _ h1,h2,Zo.mono s h3⟩
theorem Zo.mono(s:Same S S'):∀ {ds:Zb} {xs:Za},Zo K S ds xs->Zo K S' ds xs
 |[],_,h=>by rw[h.nil_of];show .nil
 |_::_,_,h=>by let⟨y,ys,rfl,a,b⟩:=h.cons_of;show .cons (Den.mono s a)<|Zo.mono s b
end
def den_int{i:Int} : Den K S (.int i) v↔v=.int i:=by unfold Den;show ada
def den_bl{b:Bool} : Den K S (.B b) v↔v=.B b:=by unfold Den;show ada
def den_non:Den K S .N v↔v=.N:=by unfold Den;show ada
def den_str{x:Str} : Den K S (.str x) v↔v=.str x:=by unfold Den;show ada
def aba{x:String} : Den K S (.ty x) v↔v=.ty x:=by unfold Den;show ada
def den_tup{l:Zb} : Den K S (.T l) v↔∃p xs,v=.ref p/\TpA K S p xs/\Zo K S l xs:=by
 constructor
 .intro h;unfold Den at h;show h
 .intro h;unfold Den;show h
def GA{l:Zb} (h:Den K S (.T l) v):∃p xs,v=.ref p/\SqT K S p xs/\Zo K S l xs:=by let⟨p,xs,e,h1,h2⟩:=den_tup.1 h;show⟨p,xs,e,h1.sq,h2⟩
def den_lst{l:Zb} : Den K S (.L l) v↔∃p xs,v=.ref p/\Rd S p (.L xs)/\Zo K S l xs:=by
 constructor
 .intro h;unfold Den at h;show h
 .intro h;unfold Den;show h
def den_mtp{l:Zb} : Den K S (.mtp l) v↔∃p xs,v=.ref p/\SqT K S p xs/\Zo K S l xs:=by
 constructor
 .intro h;unfold Den at h;show h
 .intro h;unfold Den;show h
def Dv(K:Zj)(S H:Hp)(d:D)(v:V):Prop:=Den K S d v\/∃l p xs,d=.L l/\v=.ref p/\H p=some (.L xs)/\Zo K S l xs
def n9(s:Same S H)(h:Dv K S H d v):Den K H d v:=by
 rcases h with h|⟨l,p,xs,rfl,rfl,h1,h2⟩
 .exact h.mono s
 .exact den_lst.2 ⟨p,xs,rfl,.inl h1,h2.mono s⟩
end
section
variable {H:Hp}
def rExtM:V->Za->Hp->VK->Prop:=λx vs H Q=>∃l b xs zs,x=.ref l/\vs=[.ref b]/\H l=some (.L xs)/\Rd H b (.L zs)/\xs.length+zs.length<=ZF/\Q .N (upd H l<|.L<|xs++zs)
end
def Pk:R2:=λx y H Q=>∃l b xs zs,x=.ref l/\y=.ref b/\Rd H l (.L xs)/\Rd H b (.L zs)/\xs.length+zs.length<=ZF/\∀p,H p=none->Q (.ref p) (upd H p<|.L<|xs++zs)
def Pu(K:Zj):R2:=λx y H Q=>∃a b xs ys,x=.ref a/\y=.ref b/\SqT K H a xs/\SqT K H b ys/\xs.length+ys.length<=ZF /\
 (ys=[]->Q (.ref a) H)/\(xs=[]->Q (.ref b) H)/\∀p,H p=none->Q (.ref p) (upd H p<|.T<|xs++ys)
def Ps:R2:=λx y H Q=>∃i j,x=.str i/\y=.str j/\i.length+j.length<=ZF/\Q (.str<|i++j) H
def Pj(K:Zj):R2:=λx y H Q=>(∃i j,x=.int i/\y=.int j/\Q (.int<|i+j) H)\/Pk x y H Q\/Pu K x y H Q\/Ps x y H Q
mutual
def g7:D->PyData
 |.N=>.none
 |.B b=>.bool b
 |.int i=>.int i
 |.str x=>.str x
 |.L l=>.list<|pyDs l
 |.T l=>.tuple<|pyDs l
 |.mtp l=>.tuple<|pyDs l
 |_=>.none
def pyDs:Zb->List PyData
 |[]=>[]
 |d::l=>g7 d::pyDs l
end
def FD(a b:D):Bool:=ah6 (g7 a)<|g7 b
def Wg(a b:Zb):Bool:=PyData.eqvAll (pyDs a)<|pyDs b
mutual
def g6:Nat->D->Bool
 |_,.N=>true
 |_,.B _=>true
 |_,.int _=>true
 |_,.str x=>ahf x
 |n+1,.L l=>okDs n l
 |n+1,.T l=>okDs n l
 |n+1,.mtp l=>okDs n l
 |_,_=>false
def okDs:Nat->Zb->Bool
 |_,[]=>true
 |n,d::l=>g6 n d&&okDs n l
end
def Tk(K:Zj)(neg:Bool):R2:=λx y H Q=>∃S d e,Same S H/\Dv K S H d x/\Dv K S H e y/\g6 50 d=true/\g6 50 e=true/\Q (.B (if neg then !FD d e else FD d e)) H
def XJ(K:Zj):V->Option Int->Option Int->Hp->VK->Prop:=λx lo hi H Q=>XH K x lo hi H Q \/
 ∃a xs,x=.ref a/\SqT K H a xs/\(pA xs lo hi=xs->Q (.ref a) H)/\∀p,H p=none->Q (.ref p) (upd H p<|.T<|pA xs lo hi)
section
variable {K:Zj}
def IM(K:Zj):Za->Hp->VK->Prop:=λxs H Q=>∃x n,xs=[x]/\VB K x H n/\Q (.int n) H
end
def bh{O:Type}{l:List O}{j:Nat}{x:O}(h:l[j]?=some x):kT l (j:Int)=some x:=by have:=(aa0.1 h).1;unfold kT Eo;rw[aac (),aac ()];dsimp only[ajd];rw[acL];show h
end M
namespace L2
open PyProof.Rows
def QB:agz "len"=some (.builtin "len"):=by decide +kernel
def DD:agz "sorted"=some (.builtin "sorted"):=by decide +kernel
def QC:agz "max"=some (.builtin "max"):=by decide +kernel
def QD:agz "min"=some (.builtin "min"):=by decide +kernel
def QF:agz "sum"=some (.builtin "sum"):=by decide +kernel
def ij:agz "isinstance"=some (.builtin "isinstance"):=by decide +kernel
def Gb:agz "tuple"=some (.type "tuple"):=by decide +kernel
def QA:agz "int"=some (.type "int"):=by decide +kernel
def QE:agz "str"=some (.type "str"):=by decide +kernel
def xn:agz "reversed"=some (.type "reversed"):=by decide +kernel
section
variable {X:Cx}{tg:ZA}
def SQ{tl:TE}(hl:PE X l tl):PI X tg l<|WA X.K tl:=by
 intro Zx s Z H R I h;split bz (hl Zx s Z H _ I h) λv s1 h1=>?_;let⟨x,H1,I1,r1,a,e,q⟩:=h1;subst e;ext r1;rcases q with ⟨⟨xs,hq⟩,q⟩|⟨⟨xs,hq⟩,q⟩
 .let⟨its,rv,p,hz⟩:=I1.list hq;split adx p.isList ⟨s1.heap.objs.size,[s1.heap.objs.size],_,_,H1,rfl,I1.kept (t':=s1.toks) λb o e=>aas _ e,Fu a _,⟨_,aaB _ rfl,rfl,rfl⟩,λb hb=>?_,q⟩;rw[aaG.1 hb];show I1.fpOk (aaq _) I1.fresh
 .let⟨its,rv,p,hz⟩:=I1.tuple hq;split aeP (show s1.heap.IsTuple a its.toArray from p) ⟨s1.heap.objs.size,[s1.heap.objs.size],_,_,H1,rfl,I1.kept (t':=s1.toks) λb o e=>aas _ e,Bk a _,⟨_,aaB _ rfl,rfl,rfl⟩,λb hb=>?_,q⟩;rw[aaG.1 hb];show I1.fpOk (aaq _) I1.fresh
def DN(hc:X.c=true):CallR X (.builtin "sum")<|Pt X.K:=by
 intro Zx s Z H xs us Q I r h;let⟨p,ns,rfl,hS,q⟩:=h;let⟨u,rfl,ru⟩:=r.one;ext ru;let⟨its,rv,pl,hz⟩:=I.list hS;have hI:agZ its ns:=lR rv;let⟨ys,e⟩:=hI.allInts.items;have hl:=pl.isList;have en:ns=ys.toList.map (·.1):=by rw[<-nums_intItems,<-e];simpa using hI.numsOf.symm
 rw[e] at hl;split sum_intListG (I.ok.hd hc) hl λh' tk t' hk=>⟨.int ns.sum,H,I.kept hk,⟨t',?_⟩,q⟩
 rw[preSum_eq,acs<|by simp,en]
def Fi{j:Int}(h0:0<=j)(h1:j<1000000):ai4 0 j 2=true:=by
 unfold ai4;rw[rangeSize_pos ⋯ h0];simp only[akK,aaV,ady,ab0,ab2,show (2:Int) > 0 by decide,ab3];have e:(2:Int)^63=9223372036854775808:=by decide
 lia
def JW{P:ZL}{w:ZI}{K:Zj}(it:ZB)(n:Nat):Turn P w K tg (Qe n) [it] it (λi h=>ah9 h it (0+(i:Nat)*2) ((n:Int)-(i:Nat)) 2) where
 mem:=by simp
 obj:=λi h st b hb=>by rw[aaG.1 hb];show⟨_,st,λv z=>by have z':ajc _=ai8 v:=z;ext z'⟩
 keep:=λi h h' st k=>k it (by simp) _ st
 item:=by intro X hP hw hK hc i Zx s Z H E I hf st hg;subst hP hw hK;let⟨f0,f1,f2,f3,f4,f5⟩:=hf it (by simp);split (aj0 (prog:=X.p) (w:=X.w) (I.ok.hd hc) it 0 2 n).item i s _ _ hg st λv h' tk hv st' kk=>?_;let⟨t,rfl⟩:=hv;have I1:Inv X Zx Z H<|s.wt h' tk:=I.turned (λb o hb e=>kk b o (λz=>hb<|aaG.1 z) e) f0 f1 f3 f4 f5;split⟨_,rfl,m9 (s:=(s.wt h' tk)) (n := "range_iterator") st' rfl rfl ⋯ ⟨.int<|2*i,H,I1,⟨t,?_⟩,⟨rfl,rfl⟩,st',λb hb=>(hf b hb).1⟩⟩;rw[ajQ,Int.mul_comm]
 done:=by intro X hP hw hK hc i Zx s Z H E I hf st hg;subst hP hw hK;let⟨f0,f1,f2,f3,f4,f5⟩:=hf it (by simp);show afA (I.ok.hd hc) st (by have:n<=i:=hg;lia) λh' eb=>⟨rfl,I.turned (t':=s.toks) (λb o hb e=>eb b o hb e) f0 f1 f3 f4 f5⟩
 self:=λ_ _ _ _ _ st h=>afB st h
def UZ{Zx:Zf} {R:It->Hp->Prop} {j:Int}{t u v:Tok}{tk:Nat}(I:Inv X Zx Z H s)(h1:0<=j)(h2:j<1000000)(q:R (Qe ((j+1)/2).toNat) H) :
  wX X (aht<|.ref s.heap.objs.size) (VD X Zx Z tg R) E { s with heap:=s.heap.push { cls:=.type "range",data:=.fields #[.int 0 t,.int j u,.int 2 v] },toks:=tk }:=by
 split aey (ad0 ..) (Fi h1 h2) ?_;have I1:Inv X Zx Z H { s with heap:=s.heap.push { cls:=.type "range",data:=.fields #[.int 0 t,.int j u,.int 2 v] },toks:=tk }:=I.kept λb o e=>aas _ e;split⟨(s.heap.push { cls:=.type "range",data:=.fields #[.int 0 t,.int j u,.int 2 v] }).objs.size,[(s.heap.push { cls:=.type "range",data:=.fields #[.int 0 t,.int j u,.int 2 v] }).objs.size],_,_,H,rfl,I1.kept (t':=tk) λb o e=>aas _ e,JW _ ((j+1)/2).toNat,?_,λb hb=>?_,q⟩
 .have e1:(0:Int)+((0:Nat):Int)*2=0:=by simp
  have e2:((((j+1)/2).toNat:Nat):Int)-((0:Nat):Int)=ajp 0 j 2:=by rw[rangeSize_pos ⋯ h1];lia
  show ah9 _ _ (0+((0:Nat):Int)*2) (((((j+1)/2).toNat:Nat):Int)-((0:Nat):Int)) 2;rw[e1,e2];show aaB _ rfl
 .rw[aaG.1 hb];show I1.fpOk (aaq _) I1.fresh
def EY{a b c:ZA}{ta:TA}{p pos:Pos}(hg:Gl X "range") (hm:X.mg "range"=none) (ha:PA X [a,b,c] ta) (hs:ZQ [a,b,c] X.e=(false,ZN a X.e)::ZQ [b,c] X.e:=by rfl)
  (hp:(ZU pos<|starEach [b,c] X.e).any (·.1)=false:=by rfl):PI X tg (.Call (.Name "range" p) [a,b,c] [] pos)<|OH ta:=by
 intro Zx s Z H R I h;split Call_<|j7 I hg hm aez<|ac1 (bz (ha pos Zx s Z H _ I h) λus s1 h1=>?_) hs hp;let⟨vs,H1,I1,r1,j,rfl,q1,q2,q⟩:=h1;cases r1 with
 |cons r rr=>
  cases rr with
  |cons r' rr=>
   cases rr with
   |cons r'' rr=>ext rr;let⟨t,rfl⟩:=r;let⟨t',rfl⟩:=r';let⟨t'',rfl⟩:=r'';show call_range_3 ⋯<|UZ I1 q1 q2 q
end
end L2
namespace HT
open PyProof.Rows
section
variable {prog:ZL}{w:ZI}{A:ZP}{E:Ze}{s:ZD}
def kU{t sl:ZB}{items:Array ZE}{vl vu:ZE}{lo hi:Option Int}{Q:Ze}(ht:ahe s.heap t items)(hs:s.heap.IsSliceOf sl vl vu .none)(pl:ag9 vl lo)(pu:ag9 vu hi)
  (hw:dM items.size 0 lo=0/\dM items.size items.size hi=items.size) (h:Q (.ref t) s):ZG (ZJ prog w) A (ahd (.ref t)<|.ref sl) Q E s:=by
 let⟨os,hos,hcs,hds⟩:=id hs;have hTs:s.TypeIs (.ref sl) "slice" := ⟨os,hos,hcs⟩
 unfold ahd;try with_reducible split abc ?_
 first|split aaa (aal ?_)|skip
 split aaa<|afE ht.typeIs ⋯ ?_
 split aaa (aci (name:=ZC "__getitem__") ht.typeIs ac6
  (abC ac6 ht.typeIs afF ?_<|afG _ _))
 show ZG _ _ (akn (.ref t) >>= _) _ _ s;split aaa<|tupleItemsOf_ ht ?_;split aaa<|acA hTs ?_;rw[aac ⋯];split aaa<|iT hs pl pu ?_;have hyes:((((dM items.size 0 lo:Nat):Int)==0&&(1:Int)==1&&(dM items.size items.size hi-dM items.size 0 lo)==items.size)=true):=by rw[hw.1,hw.2];simp
 show ZG _ _ (if (((dM items.size 0 lo:Nat):Int)==0&&(1:Int)==1&&(dM items.size items.size hi-dM items.size 0 lo)==items.size)=true then _ else _) _ _ s;rw[aac hyes];split aaa (m:=akR _)<|aaa<|acA ht.typeIs<|aal ?_;rw[aac ⋯];show aaa<|acu<|aal ⟨_,rfl,aal h⟩
end
end HT
namespace L2
open PyProof.Rows M
def Inv.rdl{Zx:Zf} {xs:Za}(I:Inv X Zx Z H s)(h:Rd H l<|.L xs):xs.length<=ZF/\∃(its:Zh) (n:Nat),Vals xs its/\xs.length=its.length/\s.heap.get? l=some { cls:=.type "list",data:=.seq its.toArray n }:=by
 let⟨h1,its,n,r,e⟩:=(show ObjOk X.p X.w H s.heap l (.L xs) from h.ok I.hok)
 show⟨h1,its,n,r,r.length,e⟩
section
variable {X:Cx}
def op_catM:OpR X (agK .Add) Pk:=by
 intro Zx s Z H x y v u Q I rx ry h;let⟨l,b,xs,zs,rfl,rfl,hH,hB,hz,q⟩:=h;ext rx;ext ry;let⟨z,its,n,r,hl,e⟩:=I.rdl hH;let⟨z2,its2,n2,r2,hl2,e2⟩:=I.rdl hB;split PySem.P.add_list e e2 ?_ (by rw[aaH,aaH];lia);have ea:its.toArray++its2.toArray=(its++its2).toArray:=by simp
 rw[ea];show⟨.ref _,_,I.lnew (t':=s.toks) (r.append r2)<|by rw[aat];lia,rfl,q _ I.fresh⟩
def op_tupM:OpR X (agK .Add)<|Pu X.K:=by
 intro Zx s Z H x y v u Q I rx ry h;let⟨a,b,xs,ys,rfl,rfl,ha,hb,hz,q1,q2,q⟩:=h;ext rx;ext ry;let⟨its,r1,p1,_⟩:=I.tuple ha;let⟨its2,r2,p2,_⟩:=I.tuple hb;have hz2:its.length+its2.length<=ZF:=by rw[<-r1.length,<-r2.length];show hz
 by_cases hv:its=[]
 .have hx:xs=[]:=r1.nil_iff.1 hv;let⟨⟨cls,dd,data,sl⟩,ho,hc,n,hd⟩:=id p1;let⟨⟨cls2,dd2,data2,sl2⟩,ho2,hc2,n2,hd2⟩:=id p2;simp only at hc hd hc2 hd2;subst hc hd hc2 hd2;show aeG ⟨_,ho,rfl⟩ ⟨_,ho2,rfl⟩ aeH aeI aeJ aeK (aeL (.ref a)<|.ref b) (tuple_addW0 a b its.toArray its2.toArray n n2 dd dd2 sl sl2<|by simp[hv]) ⟨ho,ho2,⟨.ref b,H,I,rfl,q2 hx⟩⟩
 .refine HT.K9 p1 p2 hv (λz=>⟨.ref a,H,I,rfl,q1<|r2.nil_iff.1 z⟩) (λz=>?_) hz2;split⟨.ref s.heap.objs.size,_,I.laid (t':=s.toks) (o:=.T<|xs++ys) (λb ob e=>aas _ e) (aaq _) ?_,rfl,q _<|I.hok.fresh<|aaq _⟩;show⟨by rw[aat];show hz,_,r1.append r2,TupN.new _ _⟩
def MA:OpR X (agK .Add) Ps:=AF
def My:OpR X (agK .Add)<|Pj X.K:=op_add.or<|op_catM.or<|op_tupM.or MA
mutual
theorem l8:∀(n:Nat) (d:D),g6 n d=true->(g7 d).canLay0=true/\(g7 d).depth<=n
 |_,.N,_=>by simp[g7,ahu,ahE]
 |_,.B _,_=>by simp[g7,ahu,ahE]
 |_,.int _,_=>by simp[g7,ahu,ahE]
 |n,.str x,h=>by
  have h':ahf x=true:=by cases n<;>simpa[g6] using h
  simp[g7,ahu,ahE,h']
 |0,.L l,h=>by simp[g6] at h
 |n+1,.L l,h=>by
  let⟨a,b⟩:=pT n l (by simpa[g6] using h);simp only[g7,ahu,ahE];show⟨a,()⟩
 |0,.T l,h=>by simp[g6] at h
 |n+1,.T l,h=>by
  let⟨a,b⟩:=pT n l (by simpa[g6] using h);simp only[g7,ahu,ahE];show⟨a,()⟩
 |0,.mtp l,h=>by simp[g6] at h
 |n+1,.mtp l,h=>by
  let⟨a,b⟩:=pT n l (by simpa[g6] using h);simp only[g7,ahu,ahE];show⟨a,()⟩
 |n,.ty _,h=>by cases n<;>simp[g6] at h
 |n,.S _,h=>by cases n<;>simp[g6] at h
 |n,.ins _ _ _,h=>by cases n<;>simp[g6] at h
theorem pT:∀(n:Nat) (l:Zb),okDs n l=true->aiQ (pyDs l)=true/\aiu (pyDs l)<=n
 |_,[],_=>by simp[pyDs,aiQ,aiu]
 |n,d::l,h=>by rw[okDs,aaV] at h;let⟨a,b⟩:=l8 n d h.1;let⟨c,e⟩:=pT n l h.2;simp only[pyDs,aiQ,aiu,a,c];show⟨rfl,()⟩
end
def vq{H:Hp}{s:ZD}{n:Nat}(ih:∀ {d:D} {x:V} {v:ZE},g6 n d=true->Den X.K H d x->RelV x v->∃as,Reads s.heap v (g7 d) as){ds:Zb}:∀ {xs:Za} {vs:Zh},okDs n ds=true->Zo X.K H ds xs->Vals xs vs->∃as,ReadsAll s.heap vs (pyDs ds) as:=by
 induction ds with
 |nil=>
  intro xs vs _ d r;rw[d.nil_of] at r;ext r;show⟨_,.nil⟩
 |cons d ds id=>
  intro xs vs h dd r;rw[okDs,aaV] at h;let⟨y,ys,rfl,a,b⟩:=dd.cons_of;cases r with
  |cons r rr=>let⟨as,ra⟩:=ih h.1 a r;let⟨bs,rb⟩:=id h.2 b rr;show⟨_,.cons ra rb⟩
def xJ{Zx:Zf}{Z:St}{H:Hp}{s:ZD}(I:Inv X Zx Z H s)(n:Nat)(ih:∀m,n=m+1->∀ {d:D} {x:V} {v:ZE},g6 m d=true->Den X.K H d x->RelV x v->∃as,Reads s.heap v (g7 d) as){d:D}{x:V}{v:ZE}(h:g6 n d=true)(dx:Den X.K H d x)(r:RelV x v):∃as,Reads s.heap v (g7 d) as:=by
 cases d with
 |N=>rw[den_non.1 dx] at r;ext r;show⟨_,.none⟩
 |B b=>rw[den_bl.1 dx] at r;ext r;show⟨_,.bool b⟩
 |int i=>rw[den_int.1 dx] at r;let⟨t,rfl⟩:=r;show⟨_,.int i t⟩
 |str y=>rw[den_str.1 dx] at r;let⟨t,rfl⟩:=r;show⟨_,.str y t⟩
 |L l=>
  cases n with
  |zero=>simp[g6] at h
  |succ n=>
   let⟨p,xs,rfl,hp,ds⟩:=den_lst.1 dx;ext r;let⟨_,its,k,rv,_,e⟩:=I.rdl hp;let⟨as,ra⟩:=vq (ih n rfl) (by simpa[g6] using h) ds rv;show⟨_,.list e rfl rfl<|~~~ra⟩
 |T l=>
  cases n with
  |zero=>simp[g6] at h
  |succ n=>
   let⟨p,xs,rfl,hp,ds⟩:=GA dx;ext r;let⟨its,rv,⟨o,e,c,k,d⟩,_⟩:=I.tuple hp;let⟨as,ra⟩:=vq (ih n rfl) (by simpa[g6] using h) ds rv;show⟨_,.tuple e c d<|~~~ra⟩
 |mtp l=>
  cases n with
  |zero=>simp[g6] at h
  |succ n=>
   let⟨p,xs,rfl,hp,ds⟩:=den_mtp.1 dx;ext r;let⟨its,rv,⟨o,e,c,k,d⟩,_⟩:=I.tuple hp;let⟨as,ra⟩:=vq (ih n rfl) (by simpa[g6] using h) ds rv;show⟨_,.tuple e c d<|~~~ra⟩
 |_=>cases n<;>simp[g6] at h
def gh{Zx:Zf} (I:Inv X Zx Z H s)(n:Nat):∀ {d:D} {x:V} {v:ZE},g6 n d=true->Den X.K H d x->RelV x v->∃as,Reads s.heap v (g7 d) as:=by
 induction n with
 |zero=>show λ{d x v}=>xJ I 0 (λm e=>by ext e)
 |succ n ih=>show λ{d x v}=>xJ I (n+1) (λm e=>by ext e;show ih)
def Si(hu:X.A.units+64<agC):OpR X (agH .Eq)<|Tk X.K false:=by intro Zx s Z H x y v u Q I rx ry h;let⟨S,d,e,sm,dx,dy,cd,ce,q⟩:=h;let⟨as,ra⟩:=gh I 50 cd (n9 sm dx) rx;let⟨bs,rb⟩:=gh I 50 ce (n9 sm dy) ry;let⟨a1,a2⟩:=l8 50 d cd;let⟨b1,b2⟩:=l8 50 e ce;have hm:=ajX (g7 d).depth (g7 e).depth;split SeqAt.compareEq_reads ra rb a1 b1 () ⟨.B _,H,I,rfl,?_⟩;show q
def Sn(hu:X.A.units+64<agC):OpR X (agH .NotEq)<|Tk X.K true:=by intro Zx s Z H x y v u Q I rx ry h;let⟨S,d,e,sm,dx,dy,cd,ce,q⟩:=h;let⟨as,ra⟩:=gh I 50 cd (n9 sm dx) rx;let⟨bs,rb⟩:=gh I 50 ce (n9 sm dy) ry;let⟨a1,a2⟩:=l8 50 d cd;let⟨b1,b2⟩:=l8 50 e ce;have hm:=ajX (g7 d).depth (g7 e).depth;split SeqAt.compareNe_reads ra rb a1 b1 () ⟨.B _,H,I,rfl,?_⟩;show q
def call_lenM:CallR X (.builtin "len")<|IM X.K:=Gg
def Cu:MtM X "list.extend" rExtM:=by
 intro Zx s Z H x vs v us Q I rx rv h;let⟨l,b,xs,zs,rfl,rfl,hH,hB,hz,q⟩:=h;ext rx;let⟨u,rfl,ru⟩:=rv.one;ext ru;let⟨z,its,n,r,hl,e⟩:=I.lstM hH;let⟨z2,its2,n2,r2,hl2,e2⟩:=I.rdl hB;have hsz:its.toArray.size+its2.toArray.size<=ZF:=by rw[aaH,aaH];lia
 have hlong:¬(!its.toArray.isEmpty&&ajl (its.toArray.size+its2.toArray.size))=true:=by rw[HN hsz,Bool.and_false];show aa1
 split ab7 F.slot_list_extend ⟨_,e,rfl⟩ F.entry_list_extend (F.args_list_extend_2 _ _)
  (AutoSeq1.list_extend_list_list_0 l its.toArray n b its2.toArray n2 hlong (by rw[aaH];lia) ()) ⟨e,e2,?_⟩
 split⟨.N,_,I.lset (its':=its++its2) hH e (by simp) (r.append r2) ?_,rfl,q⟩;rw[aat];lia
def sl_M:SlR X<|XJ X.K:=by
 split SlR.or NI ?_;intro Zx s Z H x v vl vu lo hi sl Q I rx hs pl pu h;let⟨a,xs,rfl,hx,q1,q2⟩:=h;ext rx;by_cases hw:HT.dM xs.length 0 lo=0/\HT.dM xs.length xs.length hi=xs.length
 .let⟨its,r,ht,hz⟩:=I.tuple hx;have Zz:its.toArray.size=xs.length:=by rw[aaH];show r.length.symm
  have hcut:pA xs lo hi=xs:=by unfold pA;rw[hw.1,hw.2,aeQ,aeR,acs<|aaq _]
  split⟨"tuple",_,ac6.lookup,ht.typeIs,?_⟩;show HT.kU ht hs pl pu (by rw[Zz];show hw) ⟨.ref a,H,I,rfl,q1 hcut⟩
 .exact UE Zx s Z H (.ref a) (.ref a) vl vu lo hi sl Q I rfl hs pl pu ⟨a,xs,rfl,hx,hw,q2⟩
end
def kR(K:Zj)(Ns:Zl)(P:ZB->Prop):Prop:=∀N∈Ns,∀C,agA K ZK N=some (some<|.ref C)->P C
def KM(K:Zj)(Ns:Zl)(H:Hp)(x:V)(a:ZB)(C dx:ZB)(fs:List<|Str×V):Prop:=x=.ref a/\(∃N∈Ns,agA K ZK N=some (some<|.ref C))/\H a=some (.ins C dx fs)
def PP(K:Zj)(Ns:Zl)(ta:TE)(f:Str):TE:=λZ H Q=>ta Z H λx H1=>∃a C dx fs v,KM K Ns H1 x a C dx fs/\fs.lookup f=some v/\Q v H1
def Bc(K:Zj)(Ns:Zl)(m:Str)(sp:Sp)(ta:TE)(t:TA):TE:=λZ H Q=>ta Z H λx H1=>∃a C dx fs,KM K Ns H1 x a C dx fs/\fs.lookup m=none/\t Z H1 λvs H2=>sp (x::vs) H2 Q E0
def Bb(K:Zj)(N:Str)(sp:Sp)(t:TA):TE:=λZ H Q=>∀C,agA K ZK N=some (some<|.ref C)->JJ C sp [] E0 t Z H Q
section
variable {X:Cx}{o e:ZA}{es:List ZA}{f m:Str}{pos apos p:Pos}{ta:TE}{t:TA}{Ns:Zl}{k:Nat}{g C:ZB}{fd:ZW}{ps:Zl}{sp:Sp}
def MJ(hc:kR X.K Ns λC=>Cls X.K C/\NoAttr X.K C f)(he:PE X e ta)(hb:ahX e f X.e (ZN e X.e)=ZN e X.e):PE X (.Attribute e f pos)<|PP X.K Ns ta f:=by intro Zx s Z H Q I h;split K4 hb<|bz (he Zx s Z H _ I h) λu s1 Zy=>?_;let⟨x,H1,I1,rx,a,C,dx,fs,v,⟨ex,⟨N,hN,hC⟩,ea⟩,l,q⟩:=Zy;subst ex;have eu:u=ZO a:=rx;subst eu;let⟨c,n⟩:=hc N hN C hC;show Af I1 ea c n l λu' s2 I2 ru=>⟨v,H1,I2,ru,q⟩
def Ip(hc:kR X.K Ns λC=>Cls X.K C/\Meth X.K C m g)(F:Zs X.p X.w X.K X.mg X.ba my k g fd ps sp)(hr:Zr k X.A)(hb:Binds X.K fd ps [])(hx:dF my X E0)(he:PE X o ta)(ha:PA X (e::es) t)
  (hst:ZQ (e::es) X.e=(false,ZN e X.e)::ZQ es X.e:=by rfl) (hpl:(ZU pos<|starEach es X.e).any (·.1)=false:=by rfl)
  (ht:ZN (.Call (.Attribute o m apos) (e::es) [] pos) X.e=(do
   let ov ← ZN o X.e
   ag3 apos.atName
   let (f,first) ← agI [ov] (ag8 ov m pl)
   ahx pos f first (ZU pos<|starEach (e::es) X.e) (agX pos<|keywordEach [] X.e)):=by rfl) :
  PE X (.Call (.Attribute o m apos) (e::es) [] pos) (Bc X.K Ns m sp ta t):=by
 intro Zx s Z H Q I h;split adz (pl:=pl) (bz (he Zx s Z H _ I h) λu s1 Zy=>?_) ht;let⟨x,H1,I1,rx,a,C,dx,fs,⟨ex,⟨N,hN,hC⟩,ea⟩,l,q⟩:=Zy;subst ex;have eu:u=ZO a:=rx;subst eu;let⟨c,hm⟩:=hc N hN C hC;split gA I1 ea c hm l ?_;split adt (first:=[.ref a]) (h₀:=X.ba) I.ok.mod.kin hm.kp (bz (ha pos Zx s1 Z H1 _ I1 q) λus s2 ⟨vs,H2,I2,r,q2⟩=>⟨I2.kIn,?_⟩) hst hpl;show mj (us:=.ref a::us) (vs:=.ref a::vs) (dvs:=[]) F hr hb .nil hx I2 (.cons rfl r) (by rw[abf];show q2)
def EV(hc:kR X.K Ns λC=>Cls X.K C/\Meth X.K C m g)(F:Zs X.p X.w X.K X.mg X.ba my k g fd ps sp)(hr:Zr k X.A)(hb:Binds X.K fd ps [])(hx:dF my X E0)(he:PE X o ta)
  (ht:ZN (.Call (.Attribute o m apos) [] [] pos) X.e=(do
   let ov ← ZN o X.e
   ag3 apos.atName
   let (f,first) ← agI [ov] (ag8 ov m pl)
   ahx pos f first (ZU pos<|starEach [] X.e) (agX pos<|keywordEach [] X.e)):=by rfl) :
  PE X (.Call (.Attribute o m apos) [] [] pos) (Bc X.K Ns m sp ta tD):=by
 intro Zx s Z H Q I h;split adz (pl:=pl) (bz (he Zx s Z H _ I h) λu s1 Zy=>?_) ht;let⟨x,H1,I1,rx,a,C,dx,fs,⟨ex,⟨N,hN,hC⟩,ea⟩,l,q⟩:=Zy;subst ex;have eu:u=ZO a:=rx;subst eu;let⟨c,hm⟩:=hc N hN C hC;split gA I1 ea c hm l ?_;show ad3 (first:=[.ref a]) I1.kIn hm.kp<|mj (us:=[.ref a]) (vs:=[.ref a]) (dvs:=[]) F hr hb .nil hx I1 (.cons rfl .nil) q
structure ClsFn(K:Zj)(C:ZB)(m:Str)(f:ZB):Prop where
 sp:W.specialIn K (.ref C) "__getattribute__"=some (some<|.builtin "type.__getattribute__")
 rd:W.readsIn K C (.type "type")=true
 fn:W.findCls K (.ref C) (.type "type") m=some (.val<|.ref f)
 kp:ahi K (.ref f)=true
def AH(cf:ClsFn X.K C m g)(gB:Gl X B)(hm:X.mg B=some (.ref C))(F:Zs X.p X.w X.K X.mg X.ba my k g fd ps sp)(hr:Zr k X.A)(hb:Binds X.K fd ps [])(hx:dF my X E0)(ha:PA X (e::es) t)(hdb:(B==("__debug__" : Str))=false:=by decide)
  (hst:ZQ (e::es) X.e=(false,ZN e X.e)::ZQ es X.e:=by rfl) (hpl:(ZU pos<|starEach es X.e).any (·.1)=false:=by rfl)
  (ht:ZN (.Call (.Attribute (.Name B p) m apos) (e::es) [] pos) X.e=(do
   let ov ← ZN (.Name B p) X.e
   ag3 apos.atName
   let (f,first) ← agI [ov] (ag8 ov m pl)
   ahx pos f first (ZU pos<|starEach (e::es) X.e) (agX pos<|keywordEach [] X.e)):=by rfl) :
  PE X (.Call (.Attribute (.Name B p) m apos) (e::es) [] pos) (sB sp [] E0 t):=by
 intro Zx s Z H Q I h;split adz (pl:=pl) (bz (ww (v:=.ref C) gB hm rfl hdb Zx s Z H (λx H1=>x=.ref C/\H1=H) I ⟨rfl,rfl⟩) λu s1 Zy=>?_) ht;let⟨x,H1,I1,rx,ex,eH⟩:=Zy;subst ex;subst eH;have eu:u=ZO C:=rx;subst eu;split W.method_cls I1.kIn cf.sp<|W.cls_value I1.kIn cf.rd cf.fn rfl ?_;split adt (first:=[]) (h₀:=X.ba) I.ok.mod.kin cf.kp (bz (ha pos Zx _ Z H1 _ (I1.tok _) h) λus s2 ⟨vs,H2,I2,r,q2⟩=>⟨I2.kIn,?_⟩) hst hpl;show mj F hr hb .nil hx I2 r q2
def Im(hN:agA X.K ZK N=some (some<|.ref C))(M:Mk X.K C g)(F:Zs X.p X.w X.K X.mg X.ba my k g fd ps sp)(hr:Zr (k+1) X.A)(hg:Gl X N)(hm:X.mg N=some (.ref C))(hb:Binds X.K fd ps [])(hx:dF my X E0)
  (ha:PA X (e::es) t) (hdb:(N==("__debug__" : Str))=false:=by decide) (he:ZQ (e::es) X.e=(false,ZN e X.e)::ZQ es X.e:=by rfl) (hpl:(ZU pos<|starEach es X.e).any (·.1)=false:=by rfl) :
  PE X (.Call (.Name N p) (e::es) [] pos) (Bb X.K N sp t):=λa b c d q I h=>MM M F hr hg hm hb .nil hx ha hdb he hpl a b c d q I<|h C hN
end
end L2
namespace M
def oz:Zn->Int
 |[]=>0
 |[a]=>a
 |a::l=>min a<|oz l
def EC(a b:Int)(l:Zn):oz (a::b::l)=min a (oz (b::l)):=rfl
theorem uv:∀(a:Int) (l:Zn),oz (a::l)∈a::l/\∀b∈a::l,oz (a::l)<=b
 |a,[]=>⟨aaJ,λb hb=>by rw[aaG] at hb;subst hb;show acO _⟩
 |a,c::l=>by
  let⟨h1,h2⟩:=uv c l;rw[EC];split⟨?_,λb hb=>?_⟩
  .rcases Int.le_total a (oz (c::l)) with h|h
   .rw[Int.min_eq_left h];show aaJ
   .rw[Int.min_eq_right h];show aaK _ h1
  .rcases aau.1 hb with rfl|hb
   .exact Int.min_le_left _ _
   .exact Int.le_trans (Int.min_le_right _ _)<|h2 b hb
def ED{ns:Zn}{m:Int}(h1:m∈ns)(h2:∀a,a∈ns->m<=a):oz ns=m:=by
 cases ns with
 |nil=>ext h1
 |cons a l=>let⟨k1,k2⟩:=uv a l;show Int.le_antisymm (k2 m h1)<|h2 _ k1
end M
namespace L2
open PyProof.Rows
section
variable {prog:ZL}{w:ZI}{A:ZP}{E:Ze}{s:ZD}
def DB(a b c d:ZE):ahN "min" ⟨[a,b,c,d],[]⟩:=by unfold ahN;kernel_rfl
def EE{a b c d:ZE}{Q:Ze}
  (h:ZG (ZJ prog w) A.in1 (aht<|.ref s.heap.objs.size) (λit s₂=>∃I fp wr n P St bt,it=.ref I/\Walks prog w A.in1 I fp wr n P St/\St 0 s₂.heap/\(∀b∈fp,b<s₂.heap.objs.size)/\0<n/\CmpOf prog w A.in1 .Lt P bt/\∀v h' tk,P (ail bt<|n-1) v->(∀b o,b∉wr->s₂.heap.get? b=some o->h'.get? b=some o)->Q v (s₂.wt h' tk)) E { s with heap:=s.heap.push { cls:=.type "tuple",data:=.seq #[a,b,c,d] } }) :
  ZG (ZJ prog w) A (call (.builtin "min") [a,b,c,d]) Q E s:=by
 have hname:(toString "min" ++ toString ".loop" : String)="min.loop" := by decide
 split call_function_tree F.kind_min F.plain_min F.entry_min (DB _ _ _ _) ?_;show ZG _ A.in1 (aki "min" ["key", "default"] 0 ⟨[],[]⟩ >>= _) _ _ s;split aaa<|ab9 (show aki "min" ["key", "default"] 0 ⟨[],[]⟩=pure [none,none] from rfl) ?_;show ZG _ A.in1 (aie [a,b,c,d] >>= _) _ _ s;split aaa<|aa7 ?_;split aaa<|aaO h (λit s₂ h₂=>?_) λ_ _ e=>e;let⟨I,fp,wr,n,P,St,bt,rfl,W,hst,hfp,hn,hcmp,hQ⟩:=h₂;split aaa<|aa7 ?_;have hSf:s₂.heap.objs.size∉fp:=λhm=>acb _<|hfp _ hm;rw[hname];split aal ⟨adA F.plain_min_loop _,codeAny_min_loop_first W bt hcmp s₂.heap.objs.size hSf hn (W.frame _ _ _ hst λb _ o e=>aas _ e) (aaB _ rfl) λv h' tk hP hk=>?_⟩;show hQ v h' tk hP λb o hbw e=>hk b o hbw (aaC<|aaw e)<|aas _ e
def yj{a b c d:Int}{t u x y:Tok}{Q:Ze}(hh:A.handled=none)(h:∀(h':ZH) (z:Tok) (tk:Nat),(∀b o,s.heap.get? b=some o->h'.get? b=some o)->Q (.int (M.oz [a,b,c,d]) z) (s.wt h' tk)) :
  ZG (ZJ prog w) A (call (.builtin "min") [.int a t,.int b u,.int c x,.int d y]) Q E s:=by
 have hT:(s.heap.push { cls:=.type "tuple",data:=.seq #[.int a t,.int b u,.int c x,.int d y] }).IsTuple s.heap.objs.size<|intItems #[(a,t),(b,u),(c,x),(d,y)]:=⟨_,aaB _ rfl,rfl,0,by simp[ah8]⟩
 split EE<|aeP hT ?_;have hsz:(s.heap.push { cls:=.type "tuple",data:=.seq #[.int a t,.int b u,.int c x,.int d y] }).objs.size=s.heap.objs.size+1:=ach ..;split⟨_,[_,s.heap.objs.size],[_],_,_,_,_,rfl,Walks.tuple (A:=A.in1) hh _ s.heap.objs.size (by rw[hsz];show aaC<|abo _)<|intItems #[(a,t),(b,u),(c,x),(d,y)],⟨⟨_,aaB _ rfl,rfl,rfl⟩,hT.push _⟩,λe hd=>?_,by simp[ah8],CmpOf.ints_lt (ahb #[(a,t),(b,u),(c,x),(d,y)])<|λ_ _=>intItems_at,λv h' tk hP hk=>?_⟩
 .show e<((s.heap.push _).push _).objs.size;rw[ach,hsz];rcases aau.1 hd with rfl|hd
  .rw[hsz];show abo _
  .rcases aau.1 hd with rfl|hd
   .exact adw<|abo _
   .ext hd
 .have hold:∀z o,s.heap.get? z=some o->h'.get? z=some o:=λz o e=>by
   split hk z o (λhm=>?_)<|aas _<|aas _ e;rcases aau.1 hm with e1|hm
   .have:=aaw e;rw[e1,hsz] at this;show acb _<|aeS this
   .ext hm
  have hP':(ah8 #[(a,t),(b,u),(c,x),(d,y)])[ail (λi j=>decide (ahb #[(a,t),(b,u),(c,x),(d,y)] i<ahb #[(a,t),(b,u),(c,x),(d,y)] j)) 3]?=some v:=by
   have hsz2:(ah8 #[(a,t),(b,u),(c,x),(d,y)]).size-1=3:=by simp[ah8]
   rw[<-hsz2];show hP
  let⟨z,rfl⟩:=intItems_at hP';let⟨h1,h2⟩:=argBest_lt (ahb #[(a,t),(b,u),(c,x),(d,y)]) 3;have em:M.oz [a,b,c,d]=ahb #[(a,t),(b,u),(c,x),(d,y)] (ail (λi j=>decide (ahb #[(a,t),(b,u),(c,x),(d,y)] i<ahb #[(a,t),(b,u),(c,x),(d,y)] j)) 3):=by
   have k0:=h2 0 ();have k1:=h2 1 ();have k2:=h2 2 ();have k3:=h2 3 ();generalize hg:ail (λi j=>decide (ahb #[(a,t),(b,u),(c,x),(d,y)] i<ahb #[(a,t),(b,u),(c,x),(d,y)] j)) 3=g at h1 k0 k1 k2 k3 ⊢;split M.ED ?_ λe he=>?_
   .rcases (show g=0\/g=1\/g=2\/g=3 by lia) with rfl|rfl|rfl|rfl<;>simp[ahb]
   .simp only[aau,aa3,aa4] at he;rcases he with rfl|rfl|rfl|rfl
    .exact k0
    .exact k1
    .exact k2
    .exact k3
  rw[<-em];show h h' z tk hold
end
def Pp:Za->Hp->VK->Prop:=λxs H Q=>∃a b c d,xs=[.int a,.int b,.int c,.int d]/\Q (.int<|M.oz [a,b,c,d]) H
section
variable {X:Cx}
def DK(hc:X.c=true):CallR X (.builtin "min") Pp:=by
 intro Zx s Z H xs us Q I r h;let⟨a,b,c,d,rfl,q⟩:=h;cases r with
 |cons r1 r=>cases r with
  |cons r2 r=>cases r with
   |cons r3 r=>cases r with
    |cons r4 r=>ext r;let⟨t,rfl⟩:=r1;let⟨t2,rfl⟩:=r2;let⟨t3,rfl⟩:=r3;let⟨t4,rfl⟩:=r4;show yj (I.ok.hd hc) λh' t tk k=>⟨.int<|M.oz [a,b,c,d],H,I.kept k,⟨t,rfl⟩,q⟩
end
structure FunD(K:Zj)(x qual:Str)(st:ZM)(T:ZB)(f:ZB)(fd:ZW):Prop where
 ex:∃(oc:ZE) (od:Option ZB) (kV doc pm:ZE) (an:Option ZB) (cdv ct:ZE) (osl:Array<|Zi),fd=aid x qual (fw st) (bW st) (aq st) (.ref T) kV doc pm an cdv ct/\K.lookup f=some ⟨oc,od,.func fd,osl⟩/\aiP K cdv qual=true
section
variable {P:ZL}{w:ZI}{K:Zj}{mg:Zg}{base:ZH}
def FunD.ok{qual:Str}{st:ZM} {fd:ZW}{ps:Zl}{k:Nat}{sp:Sp}(F:FunD K x qual st T f fd)(S:Zw N ps<|aq st)(len:∀vs H Q E,sp vs H Q E->vs.length=ps.length)
  (hb:∀(cdv:ZE) (A:ZP) (outer:List Env) (s:ZD) (H:Hp) (vs:Za) (Q:VK) (E:XK),Zr k (A.deeper<|PyProof.Rows.envOfC qual (aq st) s.heap.objs.size f cdv)->sp vs H Q E->∃t,PSs (il my P w K mg base N qual (aq st) f cdv A outer s H E).nox (bW st) t/\t { nx:=λ_ H'=>Q .N H',rt:=Q } (jz N vs) H):Zs P w K mg base my (k+1) f fd ps sp:=by
 let⟨oc,od,kV,doc,pm,an,cdv,ct,osl,rfl,lk,hcd⟩:=F.ex;show GX lk hcd S len λA outer s H vs Q E hr hsp=>by let⟨t,h,q⟩:=hb cdv A outer s H vs Q E hr hsp;show⟨t,h.nox,q⟩
end
end L2
namespace RevT
open PySem PySem.Calls PyProof.Rows
def Zu:Slot "reversed" "__next__" "reversed.__next__" := .of (owner := "reversed") (n := "__next__") (by rw[acv,acw];kernel_rfl) s!"" s!"" s!"" (by first|show .inl s!""|show .inr s!"") (by rw[acB];kernel_rfl)
def qZ:aiN table "reversed.__next__"=some Builtin.«reversed.__next__»:=aeT s!""
def tR(a:ZE):ahN "reversed.__next__" ⟨[a],[]⟩:=by unfold ahN;kernel_rfl
def uG:Slot "reversed" "__iter__" "reversed.__iter__" := .of (owner := "reversed") (n := "__iter__") (by rw[acv,acw];kernel_rfl) s!"" s!"" s!"" (by first|show .inl s!""|show .inr s!"") (by rw[acB];kernel_rfl)
def DA(a:ZE):ahN "reversed.__iter__" ⟨[a],[]⟩:=by unfold ahN;kernel_rfl
def zW:aiN table "reversed.__iter__"=some Builtin.«dict_keyiterator.__iter__»:=entryFor_alias (id' := "dict_keyiterator.__iter__") s!"" (by first|rfl|decide +kernel|(unfold String.splitOn;simp +decide [String.splitOnAux])) s!"" s!""
def R3:ahm (.type "tuple") "__reversed__"=pure none:=by rw[acv,acw];kernel_rfl
def Cb:ahm (.type "tuple") "__getitem__"=pure (some<|.builtin "tuple.__getitem__"):=by rw[acv,acw];kernel_rfl
def Mn:aiD (.type "tuple") (.type "dict")=pure false:=by rw[acB];kernel_rfl
def sub_self:aiD (.type "reversed") (.type "reversed")=pure true:=by rw[acB];kernel_rfl
def si(t:ZB)(i:Int):Obj:={ cls:=.type "reversed",data:=.fields #[.ref t,ZY i] }
def IsRev(h:ZH)(a t:ZB)(i:Int):Prop:=∃o,h.get? a=some o/\o.cls=.type "reversed" /\ o.data=.fields #[.ref t,ZY i]
section
variable {prog:ZL}{w:ZI}{A:ZP}{E:Ze}{s:ZD}
def IsRev.typeIs{i:Int}(x:IsRev s.heap a t i):s.TypeIs (.ref a) "reversed" := let ⟨o,ho,hc,_⟩:=x;⟨o,ho,hc⟩
def EL{it:ZB}{i:Nat} {x:ZE}{Q:Zi->ZD->Prop}(hit:IsRev s.heap it t (i:Int))(ht:ahe s.heap t items)(hx:items[i]?=some x)(hi:(i:Int)<2^62)
  (hQ:∀h' tk,IsRev h' it t ((i:Int)-1)->ahA it s.heap h'->Q (some x) (s.wt h' tk)):ZG (ZJ prog w) A (agO<|.ref it) Q E s:=by
 let⟨o,ho,hc,hd⟩:=id hit;unfold agO;split aaa<|acj<|aci (name:=ZC "__next__") hit.typeIs Zu<|abC Zu hit.typeIs qZ ?_<|tR _;unfold Builtin.«reversed.__next__»;split aaa<|ab9 (a:=(ZO it,[])) rfl ?_;try dsimp only
 split aaa<|aaU ho hd (x:=.ref t) rfl ?_;split aaa<|aaU ho hd (x:=ZY (i:Int)) rfl ?_;show ZG _ _ (if (i:Int)<0 then _ else _) _ _ s;rw[aad ()];split aaa<|adb ht.typeIs Cb ?_;rw[aad (show ¬((some<|Value.builtin "tuple.__getitem__").isNone=true) from aa1)];split aaa<|wpAny_mkInt ?_;have p63:(2:Int)^63=9223372036854775808:=by decide
 have p62:(2:Int)^62=4611686018427387904:=by decide
 have hsz:=(adB.1 hx).1;have hix:air (i:Int) items.size=some i:=by unfold air;simp;lia
 split aaa<|acj<|getItem_tuple (s:={ s with toks:=s.toks+1 }) (j:=i) ht () () hix hx ?_;dsimp only;split aaa<|aaU (s:={ s with toks:=s.toks+1 }) ho hd (x:=ZY (i:Int)) rfl ?_;show ZG _ _ (setField (.ref it) 1 (ZY<|(i:Int)-1) >>= _) _ _ _;split aaa<|acx (s:={ s with toks:=s.toks+1 }) ho hd (by simp) ?_;split aal ⟨x,rfl,aal<|hQ _ _ ?_<|acP ..⟩;show⟨_,ab5 _ ho<|acD<|abW hd _,(ad6 ..).trans hc,by rw[abW hd];simp⟩
def nw{it:ZB}{Q:Zi->ZD->Prop}(hh:A.handled=none)(hit:IsRev s.heap it t<|-1)(hQ:∀h',ajb it s.heap h'->Q none (s.wh h')):ZG (ZJ prog w) A (agO<|.ref it) Q E s:=by
 let⟨o,ho,hc,hd⟩:=id hit;unfold agO;split aaa<|acj<|aci (name:=ZC "__next__") hit.typeIs Zu<|abC Zu hit.typeIs qZ ?_<|tR _;unfold Builtin.«reversed.__next__»;split aaa<|ab9 (a:=(ZO it,[])) rfl ?_;try dsimp only
 split aaa<|aaU ho hd (x:=.ref t) rfl ?_;split aaa<|aaU ho hd (x:=ZY<|-1) rfl ?_;show ZG _ _ (if (-1:Int)<0 then _ else _) _ _ s;rw[aac ⋯];split aaa<|acu ?_;split aaa ?_;split aaa<|acx ho hd (by simp) ?_;have ho':=ab5 (h:=s.heap) (aiB (·.setIfInBounds 1 (ZY<|-1))) ho<|acD<|abW hd _;have hd':=abW hd (·.setIfInBounds 1 (ZY<|-1));split acx (s:={ s with heap:=s.heap.update it (aiB (·.setIfInBounds 1 (ZY<|-1))) }) ho' hd' (by simp) ?_;first
 |show ZG _ _ (ahn (.type "StopIteration") [] >>= _) _ _ _
 | (split aaa ?_;show ZG _ _ (ahn (.type "StopIteration") [] >>= _) _ _ _)
 split aaa ?_;simp only[ahn,aie];split aaa<|aa7 ?_ (by size_fits);split aaa (m:=ahr _ _)<|ab9 (a:=ZX) (by first|rfl|(simp only[ahr];rfl)) ?_;split aa7 ?_ (by size_fits);simp only[aiL];split aaa<|ad7 ?_;first|rw[show A.in1.handled=none from hh]|rw[hh]
 split aaa<|aal<|acE ?_;split aaa<|acF (T := "StopIteration") (b:=true) ⟨_,aaB _ rfl,rfl⟩ aeU ?_;show aal<|hQ _<|(((acP ..).trans<|acP ..).extBut.push _).push _
def ue{it:ZB}{i:Int}{Q:Ze}(hit:IsRev s.heap it t i)(h:Q (.ref it) s):ZG (ZJ prog w) A (aht<|.ref it) Q E s:=by split afM hit.typeIs uG<|abC uG hit.typeIs zW ?_<|DA _;show ZG _ _ (ret<|.ref it) _ _ s;show aal ⟨_,rfl, "reversed",_,hit.typeIs,Zu.lookup,h⟩
end
def Cs:mroOf (.type "reversed")=pure [.type "reversed",.type "object"]:=by rw[mroOf_type];kernel_rfl
def HD:ahm (.type "reversed") "__new__"=pure (some<|.builtin "reversed.__new__"):=by rw[acv,acw];kernel_rfl
def Fh:Slot "reversed" "__init__" "object.__init__" := .of (owner := "object") (n := "__init__") (by rw[acv,acw];kernel_rfl) s!"" s!"" s!"" (by first|show .inl s!""|show .inr s!"") (by rw[acB];kernel_rfl)
def zE:TypeCalled "reversed" "reversed.__new__" "object.__init__" := ⟨s!"",s!"",⟨_,_,Cs⟩,madeBy_type Cs HD s!"",s!"",by rw[acB];kernel_rfl,Fh⟩
def wQ(a:ZE):checkTypeCall "reversed" ⟨[a],[]⟩=pure Unit.unit:=s!""
def yo(a:ZE):checkBuiltinCall "reversed.__new__" ⟨[.type "reversed",a],[]⟩=pure Unit.unit:=s!""
def Ed:aiN table "reversed.__new__"=some Builtin.«reversed.__new__»:=aeT s!""
def wm(a:ZE):ajE "reversed" ⟨[.type "reversed",a],[]⟩=pure (.type "reversed",[a]):=by unfold ajE;simp only[isType,sub_self,pure_bind,ajU,adc,abZ]
def EA(t:ZB)(items:Array ZE)(hz:(items.size:Int)<2^63):Meets (Builtin.«reversed.__new__» ⟨[.type "reversed",.ref t],[]⟩)<|λ_ R s=>ahe s.heap t items/\R (.ok<|.ret<|.ref s.heap.objs.size) { s with heap:=s.heap.push<|si t<|(items.size:Int)-1,toks:=s.toks+1+1 }:=
 .of_wp λprog w A R s h=>by
  let⟨ht,h⟩:=h;unfold Builtin.«reversed.__new__»;split aaa<|ab9 (wm _) ?_;try dsimp only
  split aaa<|ab9 (a:=Unit.unit) (by first|rfl|kernel_rfl) ?_;split aaa<|ab9 (a:=Unit.unit) (by first|rfl|kernel_rfl) ?_;try dsimp only
  split aaa<|adb ht.typeIs R3 ?_;try dsimp only
  split aaa<|aaa<|acF (T := "tuple") (b:=false) ht.typeIs Mn ?_;rw[aad aa1];split aaa<|adb ht.typeIs Cb ?_;split (show ZG _ _ (pure true) _ _ _ from aal ?_);show ZG _ _ (if (!true)=true then _ else _) _ _ _;rw[aad ⋯];split aaa<|len_tuple ht hz ?_;show ZG _ _ (akC (.type "reversed") [.ref t,ZY<|(items.size:Int)-1] >>= _) _ _ _;split aaa<|aa7 (data:=.fields #[.ref t,ZY<|(items.size:Int)-1]) ?_ (by size_fits);show aal ⟨_,rfl,h⟩
def Gh{prog:ZL} {s:ZD} {Q:Ze}(ht:ahe s.heap t items)(hz:(items.size:Int)<2^63)
  (h:Q (.ref s.heap.objs.size) { s with heap:=s.heap.push<|si t<|(items.size:Int)-1,toks:=s.toks+1+1 }):ZG (ZJ prog w) A (call (.type "reversed") [.ref t]) Q E s:=
 callType_new zE ⋯ (wQ _) (yo _) (λobj=>F.args_object_init_2 obj _) Ed (EA t items hz) ⟨ht,⟨_,aaB _ rfl,rfl⟩,h⟩
end RevT
namespace L2
open PyProof.Rows
def Itv(K:Zj)(a:ZB)(xs:Za):It:=
 ⟨λi H=>SqT K H a xs/\∃x,xs.reverse[i]?=some x,λi H x H'=>H'=H/\xs.reverse[i]?=some x,λi H=>SqT K H a xs/\xs.length=i⟩
def Wz(K:Zj)(ta:TA):TI:=λZ H R=>ta Z H λvs H1=>∃a xs,vs=[.ref a]/\SqT K H1 a xs/\R (Itv K a xs) H1
section
variable {X:Cx}{tg:ZA}
def JV{P:ZL}{w:ZI}{K:Zj}(a it:ZB)(xs:Za):Turn P w K tg (Itv K a xs) [it] it (λi h=>RevT.IsRev h it a<|(xs.length:Int)-1-(i:Nat)) where
 mem:=by simp
 obj:=λi h st b hb=>by rw[aaG.1 hb];let⟨o,e,c,d⟩:=st;show⟨o,e,λv z=>by rw[d] at z;ext z⟩
 keep:=λi h h' st k=>by let⟨o,e,r⟩:=st;show⟨o,k it (by simp) _ e,r⟩
 item:=by
  intro X hP hw hK hc i Zx s Z H E I hf st hg;subst hP hw hK;let⟨hq,x,hx⟩:=hg;let⟨its,rv,p,hz⟩:=I.tuple hq;have hi:i<xs.length:=by have:=(aa0.1 hx).1;simpa using this
  have hx':xs[xs.length-1-i]?=some x:=by rw[List.getElem?_reverse hi] at hx;show hx
  let⟨u,hu,ru⟩:=rv.get hx';let⟨f0,f1,f2,f3,f4,f5⟩:=hf it (by simp);have e:(xs.length:Int)-1-(i:Nat)=((xs.length-1-i:Nat):Int):=()
  have hn:(ZF:Nat)<2^60:=by rw[aaS];decide
  have p62:(2:Int)^62=4611686018427387904:=by decide
  rw[e] at st;split RevT.EL st p (x:=u) (~~~hu) () λh' tk st' sb=>?_;have I1:Inv X Zx Z H<|s.wt h' tk:=I.turned (λb o hb e=>(sb.2 b hb).trans e) f0 f1 f3 f4 f5;have st2:RevT.IsRev h' it a<|(xs.length:Int)-1-((i+1:Nat):Int):=by
   have e2:(xs.length:Int)-1-((i+1:Nat):Int)=((xs.length-1-i:Nat):Int)-1:=()
   rw[e2];show st'
  let⟨o,e,c,d⟩:=id st';show⟨u,rfl,m9 (s:=(s.wt h' tk)) e c d ⋯ ⟨x,H,I1,ru,⟨rfl,hx⟩,st2,λb hb=>(hf b hb).1⟩⟩
 done:=by
  intro X hP hw hK hc i Zx s Z H E I hf st hg;subst hP hw hK;let⟨hq,hx⟩:=hg;let⟨f0,f1,f2,f3,f4,f5⟩:=hf it (by simp);have e:(xs.length:Int)-1-(i:Nat) = -1:=()
  rw[e] at st;show RevT.nw (I.ok.hd hc) st λh' eb=>⟨rfl,I.turned (t':=s.toks) (λb o hb e=>eb b o hb e) f0 f1 f3 f4 f5⟩
 self:=λ_ _ _ _ _ st h=>RevT.ue st h
def SN{a:ZA}{ta:TA}{p pos:Pos}(hg:Gl X "reversed") (hm:X.mg "reversed"=none) (ha:PA X [a] ta) (hs:ZQ [a] X.e=[(false,ZN a X.e)]:=by rfl):PI X tg (.Call (.Name "reversed" p) [a] [] pos)<|Wz X.K ta:=by
 intro Zx s Z H R I h;split Call_<|j7 I hg hm xn<|ac1 (bz (ha pos Zx s Z H _ I h) λus s1 h1=>?_) hs rfl;let⟨vs,H1,I1,r1,t,xs,rfl,hq,q⟩:=h1;let⟨u,rfl,rx⟩:=sH r1;ext rx;let⟨its,rv,p,hz⟩:=I1.tuple hq;have Zz:=rv.length;have hn:=lX;split RevT.Gh p (by simp only[aaH]<;>lia) ?_;have I2:Inv X Zx Z H1 { s1 with heap:=s1.heap.push<|RevT.si t<|(its.toArray.size:Int)-1,toks:=s1.toks+1+1 }:=I1.kept λb o e=>aas _ e;have st:RevT.IsRev (s1.heap.push<|RevT.si t<|(its.toArray.size:Int)-1) s1.heap.objs.size t<|(xs.length:Int)-1-((0:Nat):Int):=by
  split⟨_,aaB _ rfl,rfl,?_⟩;have e:(xs.length:Int)-1-((0:Nat):Int)=(its.toArray.size:Int)-1:=by simp[Zz]
  rw[e];rfl
 split RevT.ue (s:={ s1 with heap:=s1.heap.push<|RevT.si t<|(its.toArray.size:Int)-1,toks:=s1.toks+1+1 }) st ?_;split⟨s1.heap.objs.size,[s1.heap.objs.size],_,_,H1,rfl,I2,JV t _ xs,st,λb hb=>?_,q⟩;rw[aaG.1 hb];show I1.fpOk (aaq _) I1.fresh
end
open PyProof.Rows Builtin Builtin.ObjectAttr Builtin.Getset_descriptor
def XAt(C a:ZB)(h:ZH):Prop:=∃o vs,h.get? a=some o/\o.cls=.ref C/\o.data=.fields vs
abbrev zY(C a:ZB):HO:=.ext<|XAt C a
structure XCls(K:Zj)(C:ZB):Prop where
 cl:aix K C=true
 ga:agY K (.ref C) "__getattribute__"=some (some<|.builtin "BaseException.__getattribute__")
 gx:agY K (.ref C) "__getattr__"=some none
 ca:agY K (.ref C) "__class__"=some (some<|.builtin "object.__class__")
 hn:W.specialIn K (.builtin "object.__class__") "__get__"=some (some<|.builtin "getset_descriptor.__get__")
 tk:W.takesIn K (.builtin "object.__class__")=some true
 ob:W.mroIn K C (.type "object")=some true
 be:W.mroIn K C (.type "BaseException")=some true
section
variable {prog:ZL}{w:ZI}{A:ZP}{E:Ze}{s:ZD}{K:Zj}{C a:ZB}
def XAt.type(x:XAt C a h):aim M h (ah4<|.ref a)<|.ref C:=by let⟨o,vs,e,c,d⟩:=x;show c▸(W.Looks.ld e).andThen .now
def GP(X:K.In h)(c:XCls K C):aim M h (find (.ref a) (.ref C) "__class__")<|.bind (.builtin "getset_descriptor.__get__") (.builtin "object.__class__"):=by split (ad2 (M:=M) X c.ca).andThen<|(show aim M h (getOf<|some<|.builtin "object.__class__") (some<|.builtin "getset_descriptor.__get__") from W.looks_specialIn X c.hn).andThen ?_;show (show aim M h (dataDescriptor? (some<|.builtin "object.__class__")<|some<|.builtin "getset_descriptor.__get__") (some (.builtin "getset_descriptor.__get__",.builtin "object.__class__")) from (W.looks_takesIn (M:=M) X c.tk).andThen .now).andThen<|W.Looks.tag .now
def tw{tp:ZE}{R:ag4->ZD->Prop}(X:K.In s.heap)(c:XCls K C)(x:XAt C a s.heap)(h:R (.ok<|.ret<|.ref C) s) :
  agU (ZJ prog w) A (.call (.builtin "getset_descriptor.__get__") ⟨[.builtin "object.__class__",.ref a,tp],[]⟩) R s:=by
 let⟨hp,gn,dr,tt,oss⟩:=s;have T0:=x.type (M:=ZJ prog w);have T1:=ajO (M:=ZJ prog w) X c.ob;split ad8 W.KF.slot_gs.plain W.KF.entry_gs<|W.KF.slot_gs.check _ _ _ _ _ _ _ _ W.KF.type_class (W.KF.args_gs _ _ _) ?_;unfold Builtin.«getset_descriptor.__get__» descrGet;rw[W.dga_obj];split aaa<|aal ?_;unfold descrGetter descrCheckInstance descrNameAndClass isInstance;simp only[W.KF.owner_class]
 repeat lk
 split⟨Code.quiet_builtin _ s!"",adC W.KF.entry_class ?_⟩;unfold Builtin.«object.__class__» shownTypeOf
 repeat lk
 show h
def vI{nv:ZE}{Q:Unit->ZD->Prop} (X:K.In s.heap)(c:XCls K C)(x:XAt C a s.heap)(h:Q Unit.unit s):ZG M A (checkBuiltinCall "BaseException.__getattribute__" ⟨[.ref a,nv],[]⟩) Q E s:=by
 let⟨hp,gn,dr,tt,oss⟩:=s;have T0:=x.type (M:=M);have T1:=ajO (M:=M) X c.be;have kk:builtinKind "BaseException.__getattribute__"=some .slot:=by decide +kernel
 have sp:splitId "BaseException.__getattribute__"=some ("BaseException", "__getattribute__"):=by decide +kernel
 have ar:=F.args_bexc_ga (.ref a) nv;simp only[checkBuiltinCall,kk,sp];split aaa ?_;unfold isInstance
 repeat (first|lk|wp_step)
 show h
def Ee{Q:Zi->ZD->Prop}(X:K.In s.heap)(c:XCls K C)(x:XAt C a s.heap)(h:Q (some<|.ref C) { s with toks:=s.toks+1 }):ZG (ZJ prog w) A (aiz (.ref a) "__class__") Q E s:=by
 let⟨hp,gn,dr,tt,oss⟩:=s;have T0:=x.type (M:=ZJ prog w);have T1:=ad2 (M:=ZJ prog w) X c.ga;have T2:=ad2 (M:=ZJ prog w) X c.gx;have T3:=GP (M:=ZJ prog w) (a:=a) X c;unfold aiz getAttrBy? getAttrBy;split aaa<|wpAny_mkText<|aaa<|acj<|abc<|aaa<|T0.at<|aaa<|T1.at ?_;show ZG _ _ (aiZ _ _ _ _ _ _) _ _ _;unfold aiZ hookBefore;split aaa<|T2.at ?_;split aaa<|acj<|abc ?_;show ZG _ _ (ajj _ _ _) _ _ _;have hbd:=afN.ga.bind<|.ref a;unfold ajj;rw[hbd];split aaa<|aal ?_;split ac3<|ad8 afN.ga.plain F.entry_bexc_ga<|vI X c x ?_;unfold Builtin.«object.__getattribute__»
 repeat (first|with_reducible split ac3 ?_|lk|wp_step)
 split tw (s:=⟨hp,gn,dr,tt+1,oss⟩) X c x ?_;split aal<|aal ?_;show aal h
def Hv(c:XCls K C):W.KitX K (.ref a) (.ref C) (XAt C a) where
 ty:=λ_ _ _ x=>x.type
 it:=λM h X _=>by
  let⟨cd,hc,_⟩:=aeB c.cl;unfold W.clsIn at hc;split at hc
  .rename_i ho;intro A' Q' E' s' k q;unfold isType loadHead;show aaa<|wpAny_loadPart (k _ _<|X _ _ ho)<|aal q
  .ext hc
 ne:=λh tp dd its n sl X htp=>by
  let⟨cd,hc,_⟩:=aeB c.cl;split afO.2 λq=>?_;obtain rfl:C=tp:=Value.ref.inj<|ab2.1 q;unfold W.clsIn at hc;split at hc
  .rename_i ho;have z:=(X _ _ ho).symm.trans htp;ext z
  .ext hc
 ca:=λX x k=>Ee X c x k
end
end L2
namespace PySem
def kS(e:ZB)(h:ZH):Prop:=∃o vs,h.get? e=some o/\o.data=.fields vs/\vs[2]?=some .none
def FI(f:Obj->Obj):Prop:=∀o vs,o.data=.fields vs->vs[2]?=some .none->∃ws,(f o).data=.fields ws/\ws[2]?=some .none
inductive Zq{O:Type}:Sem O->Prop where
 |pure a:Zq (.pure a)
 |raise e:Zq (.raise e)
 |unsup w:Zq (.unsupported w)
 |rule {t k}:(∀x,Zq (k x))->Zq (.rule t k)
 | «at» {t k}:(∀x,Zq (k x))->Zq (.at t k)
 |load {a p k}:(∀x,Zq (k x))->Zq (.load a p k)
 |upd {a p f k}:FI f->(∀x,Zq (k x))->Zq (.update a p f k)
 |alloc {o k}:(∀x,Zq (k x))->Zq (.alloc o k)
 |alive {a k}:(∀x,Zq (k x))->Zq (.loadIfAlive a k)
 |point {a k}:(∀x,Zq (k x))->Zq (.point a k)
 |fresh {k}:(∀x,Zq (k x))->Zq (.fresh k)
 |ask {k}:(∀x,Zq (k x))->Zq (.ask k)
 |handled {o k}:(∀x,Zq (k x))->Zq (.handled o k)
 |stack {k}:(∀x,Zq (k x))->Zq (.stack k)
def aG{O β:Type}{m:Sem O}{f:O->Sem β}(h:Zq m)(hf:∀a,Zq<|f a):Zq<|m >>= f:=by
 show Zq<|Sem.bind m f;induction h with
 |pure a=>show hf a
 |raise e=>show .raise e
 |unsup w=>show .unsup w
 |rule _ ih=>show .rule ih
 | «at» _ ih=>show .at ih
 |load _ ih=>show .load ih
 |upd k _ ih=>show .upd k ih
 |alloc _ ih=>show .alloc ih
 |alive _ ih=>show .alive ih
 |point _ ih=>show .point ih
 |fresh _ ih=>show .fresh ih
 |ask _ ih=>show .ask ih
 |handled _ ih=>show .handled ih
 |stack _ ih=>show .stack ih
def Gu{e a:ZB}{h:ZH}{f:Obj->Obj}(c:kS e h)(k:FI f):kS e<|h.update a f:=by
 let⟨o,vs,h1,h2,h3⟩:=c;by_cases q:a=e
 .subst q;let⟨ws,k1,k2⟩:=k o vs h2 h3;show⟨f o,ws,ab5 _ h1<|acD k1,k1,k2⟩
 .exact⟨o,vs,(ac7 _ _ q).trans h1,h2,h3⟩
def NW{O:Type}{M:ahP}{Γ:PySem.Ctx}{e:ZB}{t:Sem O}(hm:Zq t){Q:O->Pos->ZD->Prop}{E:ZE->Pos->ZD->Prop}{p:Pos}{s:ZD}(c:kS e s.heap)
  (h:Sem.wp M Γ t (λa p s'=>kS e s'.heap->Q a p s') (λa p s'=>kS e s'.heap->E a p s') p s):Sem.wp M Γ t Q E p s:=by
 induction hm generalizing p s with
 |pure a=>show h c
 |raise a=>show h c
 |unsup w=>show h
 |rule _ ih=>show ih _ c h
 | «at» _ ih=>show ih _ c h
 |load _ ih=>let⟨o,ho,h⟩:=h;show⟨o,ho,ih _ c h⟩
 |upd k _ ih=>show⟨h.1,ih _ (Gu c k) h.2⟩
 |alloc _ ih=>let⟨o,vs,h1,h2⟩:=c;show ih _ ⟨o,vs,aas _ h1,h2⟩ h
 |alive _ ih=>show ih _ c h
 |point _ ih=>show ih _ c h
 |fresh _ ih=>show ih _ c h
 |ask _ ih=>show ih _ c h
 |handled _ ih=>show ih _ c h
 |stack _ ih=>show ih _ c h
def ur{O:Type}{M:ahP}{A:ZP}{e:ZB}{t:Sem O}{Q:O->ZD->Prop}{E:Ze}{s:ZD}(hm:Zq t)(c:kS e s.heap)
  (h:ZG M A t (λa s'=>kS e s'.heap->Q a s') (λa s'=>kS e s'.heap->E a s') s):ZG M A t Q E s:=λΓ p hΓ=>NW hm c<|h Γ p hΓ
def pS{O:Type}{M:ahP}{A:ZP}{e:ZB}{fx:Option ZB}{t:Sem O}{Q:O->ZD->Prop}{E:Ze}{s:ZD}(hm:Zq t)(c:fx=none->kS e s.heap)
  (h:ZG M A t (λa s'=>(fx=none->kS e s'.heap)->Q a s') (λa s'=>(fx=none->kS e s'.heap)->E a s') s):ZG M A t Q E s:=by
 cases fx with
 |none=>show ur (e:=e) hm (c rfl)<|aaO h (λ_ _ q z=>q λ_=>z) λ_ _ q z=>q λ_=>z
 |some x=>show aaO h (λ_ _ q=>q λz=>by ext z) λ_ _ q=>q λz=>by ext z
def oy(a:ZB):Zq<|load a:=.load λ_=>.pure _
def gK(v:ZE)(i:Nat):Zq<|field v i:=by
 unfold field fieldsOf;split aG ?_ λx=>?_
 .cases v<;>try show .unsup _
  split aG (oy _) λo=>?_;split
  .exact .pure _
  .exact .unsup _
 .split
  .exact .pure _
  .exact .unsup _
def Hu{i:Nat}{x:ZE}(hi:i≠2):FI<|Obj.mapFields (·.setIfInBounds i x):=λo vs h1 h2=>⟨_,abW h1 _,by rw[Array.getElem?_setIfInBounds_ne hi];show h2⟩
def iu(v:ZE){i:Nat}{x:ZE}(hi:i≠2):Zq<|setField v i x:=by
 unfold setField;cases v<;>try show .unsup _
 unfold updateField;split aG (oy _) λo=>?_;split
 .split
  .exact .upd (Hu hi) λ_=>.pure _
  .exact .unsup _
 .exact .unsup _
def fN{O:Type}{c:Prop}[Decidable c]{a b:Sem O}(h1:Zq a)(h2:Zq b):Zq (if c then a else b):=by
 split
 .exact h1
 .exact h2
def kg(e:ZE)(f:Option ZB):Zq<|setFlight e f:=by unfold setFlight;show aG (gK _ _) λ_=>fN (iu _ ⋯)<|.pure _
def l6:Zq stack:=.stack λ_=>.pure _
theorem rV:∀l:List Env,Zq (readyFrames l)
 |[]=>.pure _
 |env::outer=>by
  unfold readyFrames;split
  .refine aG (oy _) λo=>fN (.pure _) ?_;split aG ?_ λb=>aG ?_ λc=>aG (.upd (λo vs h1 h2=>⟨vs,h1,h2⟩) λ_=>.pure _) λ_=>rV outer
   .unfold behindIsImport;show fN (.pure _)<|fN (.pure _)<|aG (gK _ _) λ_=>.pure _
   .unfold keptBack;split
    .refine fN (.pure _)<|aG ?_ λ_=>.pure _;unfold underTheClaimsCaller;show aG l6 λ_=>.pure _
    .exact .pure _
  .exact .unsup _
def wg(env:Env):Zq<|frameOf env:=by
 unfold frameOf;split aG ?_ λl=>aG ?_ λx=>?_
 .unfold frameEnvs;show aG l6 λ_=>.pure _
 .unfold frameObject;split
  .exact .pure _
  .exact aG (rV _) λ_=>.pure _
 .split
  .exact .pure _
  .exact .unsup _
def AB(f:ZB)(b:Bool):Zq<|entryPlaceOf f b:=by
 unfold entryPlaceOf;split aG l6 λ_=>?_;split
 .exact .pure _
 .exact .pure _
def uq(c:String)(d:Data):Zq<|newObjAsIs (.type c) d:=by unfold newObjAsIs;show aG (.alloc λ_=>.pure _) λ_=>.pure _
def AA(a b c d e:ZE)(pl:Zh):Zq<|EntryCells.newEntry a b c d e pl:=by unfold aku newFields newObj;dsimp only;show fN (aG (.unsup _) λ_=>uq _ _)<|uq _ _
def ut(e:ZE)(env:Env):Zq<|noteFrame e env:=by
 unfold noteFrame;split
 .rename_i f _;split aG (gK _ _) λh=>?_;have fin:Zq (do setField e 1 (← aku h (← frameOf env) .none (ZY f) .none (← entryPlaceOf f (h != .none)))):=by
   split aG (wg _) λ_=>aG (AB _ _) λ_=>aG (AA _ _ _ _ _ _) λ_=>iu _ ⋯
  split
  .exact aG (gK _ _) λ_=>fN (.pure _)<|aG (iu _ ⋯) λ_=>fin
  .exact fin
 .exact .unsup _
def jm(env:Env)(e:ZE):Zq<|leaving env e:=by unfold leaving;show aG (ut _ _) λ_=>kg _ _
def EB{O:Type}(what:String)(e:ZE)(env:Env):Zq (passOn what e env:Sem O):=by unfold passOn;show aG (gK _ _) λ_=>fN (.unsup _)<|aG (kg _ _) λ_=>.raise _
end PySem
namespace L2
open PyProof.Rows
def ObjOk.at_(x:ObjOk P w H h a o):∃u,h.get? a=some u:=by
 cases o with
 |L xs=>let⟨_,_,_,_,e⟩:=x;show⟨_,e⟩
 |T xs=>let⟨_,_,_,_,e,_⟩:=x;show⟨_,e⟩
 |dK kvs=>let⟨_,_,_,_,o,_,_,e,_⟩:=x;show⟨_,e⟩
 |dT kvs=>let⟨_,_,_,_,o,_,_,e,_⟩:=x;show⟨_,e⟩
 |set S n=>let⟨o,_,_,_,e,_⟩:=x;show⟨_,e⟩
 |ins C dx fs=>let⟨_,_,_,e,_⟩:=x;show⟨_,e⟩
 |own y=>show x
 |xd fs=>let⟨_,⟨_,_,_,e,_⟩,_⟩:=x;show⟨_,e⟩
 |rng lo hi=>let⟨_,_,_,e⟩:=x;show⟨_,e⟩
 |frz ob u=>show⟨_,x.1⟩
 |tbl ps=>show⟨_,(show h.get? a=some _ from x)⟩
 |met f y=>show⟨_,(show h.get? a=some _ from x)⟩
 |ext φ=>show x.2.1
def qf(P:ZL)(w:ZI):BA:=λouter H s E v s'=>∃(e:ZB) (cls a0:ZE) (fx:Option ZB) (H':Hp) (B:ZH),v=.ref e/\s'.os=s.os/\ahc s'.gens/\Un (pF outer) [] H H' s.heap s'.heap/\HOk P w H' s'.heap/\(E cls fx H'/\(fx=none->kS e s'.heap)) /\
 aiC B outer e cls a0 s'.heap/\(∀b u,H' b=some u->∃o,B.get? b=some o)/\∀b o,s.heap.get? b=some o->b∉pF outer->∃o',B.get? b=some o'
section
variable {H H':Hp}{B h0 h h':ZH}{fs:Zk}
def nb(x:HOk P w H h)(hB:B.StaysIn h)(hB':B.StaysIn h')(k:∀b u,H b=some u->∃o,B.get? b=some o):HOk P w H h':=λa o ha=>
 (x a o ha).stay (λb u hb q=>by
  obtain⟨v,hv⟩:∃v,H b=some v:=by
   rcases hb with rfl|hb
   .exact⟨o,ha⟩
   .exact⟨_,hb⟩
  let⟨ob,q1⟩:=k b v hv;have q2:=hB b ob q1;rw[q] at q2;ext q2
  show hB' b _ q1) (λ_ q=>q) λ_ _ q=>q
def vM(un:Un fs [] H H' h0 h)(k2:∀b o,h0.get? b=some o->b∉fs->∃o',B.get? b=some o')(nf:∀b∈fs,∀o,h0.get? b=some o->∀vs,o.data ≠ .fields vs)(fr:∀b∈fs,H b=none)
  (hB:B.StaysIn h) (hB':B.StaysIn h') (sm:h.UpToSlots h'):Un fs [] H H' h0 h':=by
 have no:∀b:ZB,b∉([]:Zk):=λb z=>by ext z
 have both:∀b o,h0.get? b=some o->b∉fs->∃o',h.get? b=some o'/\h'.get? b=some o':=λb o q z=>by let⟨o',q'⟩:=k2 b o q z;show⟨o',hB b o' q',hB' b o' q'⟩
 have slots:∀b o,h0.get? b=some o->b∈fs->∃sl,h'.get? b=some { o with slots:=sl }:=λb o q z=>by let⟨sl,q2⟩:=un.slot b o q (fr b z) z<|no b;let⟨sl',q3⟩:=sm b _ q2<|nf b z o q;show⟨sl',q3⟩
 split⟨λb o q n z _=>?_,λb o q _ z _=>slots b o q z,un.free,λb o q _=>?_,un.tups,un.frzs,un.tbls⟩
 .let⟨o',q1,q2⟩:=both b o q z;have q3:=un.keep b o q n z<|no b;rw[q3] at q1;ext q1;show q2
 .by_cases z:b∈fs
  .let⟨sl,q1⟩:=slots b o q z;show⟨_,q1⟩
  .let⟨o',_,q2⟩:=both b o q z;show⟨o',q2⟩
end
section
variable {X:Cx}{Zx:Zf}{Z:St}{H:Hp}{s:ZD}{E:XK}{B:ZH}{e:ZB}{cls a0:ZE}
def Inv.nf(I:Inv X Zx Z H s):∀b∈X.fs,∀o,X.s.heap.get? b=some o->∀vs,o.data ≠ .fields vs:=λb z o q=>by let⟨_,o1,q1,nf⟩:=I.ok.funs.mem z;rw[q] at q1;ext q1;show nf
def Inv.nfS(I:Inv X Zx Z H s):∀b∈pF X.t,∀o,s.heap.get? b=some o->∀vs,o.data ≠ .fields vs:=λb z o q=>by let⟨_,o1,q1,nf⟩:=I.stack.mem z;rw[q] at q1;ext q1;show nf
def vL{h':ZH}(I:Inv X Zx Z H s)(hex:X.ex=[]){fx:Option ZB}(hE:E cls fx H)(cx:fx=none->kS e h')(hB:B.StaysIn s.heap)(k1:∀b u,H b=some u->∃o,B.get? b=some o)
  (k2:∀b o,X.s.heap.get? b=some o->b∉X.fs->∃o',B.get? b=some o') (fl:aiC B X.o e cls a0 h') (sm:s.heap.UpToSlots h'):qf X.p X.w X.o X.h X.s E (.ref e)<|s.wh h':=
 ⟨e,cls,a0,fx,H,B,rfl,I.os,I.bare,vM (by have:=I.base;rw[hex] at this;show this) k2 I.nf I.ok.frf hB fl.1 sm,nb I.hok hB fl.1 k1,⟨hE,cx⟩,fl,k1,k2⟩
def Inv.notStk(I:Inv X Zx Z H s) {o:Obj}(q:X.s.heap.get? b=some o)(z:b∉X.fs):b∉pF X.t:=λhb=>by
 rcases aau.1 (I.stkSub b hb) with r|r
 .exact absurd (aaw q) (by rw[r];show adE.2 I.ok.above)
 .exact z r
end
section
variable {P:ZL}{w:ZI}{K:Zj}{mg:Zg}{base:ZH}{N:Zl}{qual:Str}{scope:ZS}{f:ZB}{cdv:ZE}{A:ZP}{outer:List Env}{s:ZD}{H:Hp}{E:XK}
def Sv:dF (qf P w) (il (qf P w) P w K mg base N qual scope f cdv A outer s H E) E:=by intro Zx Z H1 s1 v s' I hx;let⟨e,cls,a0,fx,H',B,rfl,ho,hg,un,hok,⟨hE,cx⟩,fl,k1,k2⟩:=hx;have I2:=I.call' ho un hok hg (λb z=>by ext z);show ZG _ _ (leaving _ _) _ _ _;split pS (fx:=fx) (jm _ _) cx ?_;split wpAny_leaves_onW I.ok.frames rfl fl λh' fl' sm cx'=>vL (X:=il (qf P w) P w K mg base N qual scope f cdv A outer s H E) I2 rfl hE cx' fl.1 k1 (λb o q z=>?_) fl' sm;let⟨o1,q1⟩:=I.base.there b o q (by intro y;ext y);show k2 b o1 q1<|I.notStk q z
def zi(X:Cx)(E:XK):Prop:=∀(Zx:Zf) (Z:St) (H:Hp) (s:ZD) (h':ZH) (e C:ZB) (vs:Zh),Inv X Zx Z H s->Heap.MadeExcOf s.heap h' e (.ref C) vs->E (.ref C) none H->X.xe (.ref e) (s.wh h')
def Nn:zi (il (qf P w) P w K mg base N qual scope f cdv A outer s H E) E:=by
 intro Zx Z H1 s1 h' e C vs I hx hE;have hin:∀env∈(il (qf P w) P w K mg base N qual scope f cdv A outer s H E).t,∀b,env.frame=some b->b∈pF (il (qf P w) P w K mg base N qual scope f cdv A outer s H E).t:=λenv he b hb=>ad1.2 ⟨env,he,hb⟩;have I2:=I.kept (t':=s1.toks) hx.keeps;have cx:kS e h':=by let⟨t0,q0,_⟩:=hx.there;show⟨_,_,q0,rfl,rfl⟩
 show ZG _ _ (leaving _ _) _ _ _;split ur (jm _ _) cx ?_;split wpAny_leaves_madeW (base:=ag5 s1.heap<|pF (il (qf P w) P w K mg base N qual scope f cdv A outer s H E).t) I.ok.frames rfl (λb o q=>adp _ q) (W.funFrames_hide I.stack hin) hx λh2 t fl _ _ sm cx2=>?_;split vL (X:=il (qf P w) P w K mg base N qual scope f cdv A outer s H E) (s:=(s1.wh h')) I2 (fx:=none) rfl hE (λ_=>cx2) (λb o q=>hx.keeps b o<|adp _ q) (λb u q=>?_) (λb o q z=>?_) fl sm
 .let⟨o,q1⟩:=(I.hok b u q).at_;show⟨o,adX _ q1 λhb=>by rw[I.stkFree b hb] at q;ext q⟩
 .let⟨o1,q1⟩:=I.base.there b o q (by intro y;ext y);show⟨o1,adX _ q1<|I.notStk q z⟩
end
def LA{K:Zj}{h:ZH} (X:K.In h)(q:aiy K C bmB newId=true):∃bm N nm qn bs hdct sn sub ab col dd k0 k1 k2 k3 k5 mN,
  h.get? C=some (excClassObj nm qn C N bs bm hdct sn sub ab col dd k0 k1 k2 k3 k5 newId)/\h.Ns N mN/\mN "__init__"=none/\OwnTail h bmB bm:=by
 unfold aiy at q;split at q<;>try (ext q;done)
 rename_i dd cd sl ho;split at q<;>try (ext q;done)
 rename_i C' bm k0 k1 k2 k3 n k5 hm hs;simp only[aaV,ab2,ad9] at q;let⟨⟨⟨⟨⟨rfl,rfl⟩,qd⟩,qt⟩,qo⟩,qi⟩:=q;let⟨nm,bs,mro,ns,qn,hd,sn,sub,ab,col,del⟩:=cd;let⟨l⟩:=sl;dsimp only at hm hs qd qo qi;subst hm hs qd;show⟨bm,ns,nm,qn,bs,hd,sn,sub,ab,col,dd,k0,k1,k2,k3,k5,_,X _ _ ho,.of_isNs<|W.isNs_of_in X qo,W.nsMap_none_of_in X qo qi,W.tail_of_in X qt⟩
abbrev bmV:Zh:=[.type "ValueError",.type "Exception",.type "BaseException",.type "object"]
def JL(K:Zj)(N:Str)(te:TE)(E:XK):TS:=λ_ Z H=>∀C,agA K ZK N=some (some<|.ref C)->lu te tD Z H λvs H1=>vs.length=1/\E (.ref C) none H1
section
variable {X:Cx}{E:XK}{x:Str}{e:ZA}{te:TE}{np cpos pos:Pos}
def IG(hz:zi X E)(hE:∃C:ZB,agA X.K ZK x=some (some<|.ref C)/\aiy X.K C bmV "ValueError.__new__"=true/\X.mg x=some (.ref C)) (hh:X.A.handled=none) (hg:Gl X x) (he:PE X e te)
  (hdb:(x==("__debug__" : Str))=false:=by decide) (h1:ZQ [e] X.e=(false,ZN e X.e)::ZQ [] X.e:=by rfl) (h2:(ZU cpos<|starEach [] X.e).any (·.1)=false:=by rfl) :
  PS X (.Raise (some<|.Call (.Name x np) [e] [] cpos) none pos) (JL X.K x te E):=by
 intro Zx s Z H D I h;let⟨C,hN,hq,hm⟩:=hE;have h:=h C hN;let⟨tl,N,nm,q,bs,hdct,sn,sub,ab,col,dd,k0,k1,k2,k3,k5,mN,hC,hNs,hni,T⟩:=LA I.ok.mod.kin hq
 split wpAny_Raise_call_subT (C:=C) (nm:=nm) (q:=q) (N:=N) (bs:=bs) (bm:=tl) (hdct:=hdct) (sn:=sn) (sub:=sub) (ab:=ab) (col:=col) (dd:=dd) (k0:=k0) (k1:=k1) (k2:=k2) (k3:=k3) (k5:=k5)
  afP (mN:=mN) (T.hasType afP.hasBase) hh (by rw[h1];show (false || (ZU cpos<|starEach [] X.e).any (·.1))=false;rw[h2];rfl) hni (fA I hg hm ⟨rfl,?_⟩ hdb)
 have hp:=eZ (X:=X) he oH h1 cpos Zx s Z H (λvs H1=>vs.length=1/\E (.ref C) none H1) I h;rw[h1] at hp ⊢;show ad5<|bz hp λus s2 ⟨vs,H2,I2,r,ql,q2⟩=>⟨rfl,by rw[<-r.length,ql];show aaN (show 1<=1000 by decide)<|by rw[aaS];decide,I2.bk _ _ hC,hNs.keeps I2.bk,T.keeps I2.bk,λh' e' hx=>hz Zx Z H2 s2 h' e' C us I2 hx q2⟩
end
abbrev Cx.hold(X:Cx)(e:ZB):Cx:={ X with A:=X.A.mark<|some<|.ref e,c:=false,xe:=λ_ _=>False }
abbrev Cx.pin(X:Cx)(ps:Zf):Cx:={ X with pn:=X.pn++ps }
section
variable {X:Cx}{Zx:Zf}{Z:St}{H:Hp}{s s':ZD}{e:ZB}
def Cx.Ok.hold(ok:X.Ok)(e:ZB):(X.hold e).Ok:=
 ⟨ok.mod,ok.kind,ok.glob,ok.blt,ok.above,ok.inj,ok.has,ok.cab,(λz=>by ext z),ok.frames,ok.stk,ok.exf,ok.bs,ok.bsz,ok.noex,ok.exfs,ok.funs,ok.frf⟩
def Inv.hold(I:Inv X Zx Z H s)(e:ZB):Inv (X.hold e) Zx Z H s:=⟨I.ok.hold e,I.os,I.bare,I.base,I.loc,I.cell,I.free,I.freeC,I.pin,I.hok,I.len⟩
def Inv.unhold(ok:X.Ok)(I:Inv (X.hold e) Zx Z H s):Inv X Zx Z H s:=⟨ok,I.os,I.bare,I.base,I.loc,I.cell,I.free,I.freeC,I.pin,I.hok,I.len⟩
def Inv.toPin(I:Inv X Zx Z H s):Inv (X.pin Zx) [] Z H s:=
 ⟨⟨I.ok.mod,I.ok.kind,I.ok.glob,I.ok.blt,I.ok.above,I.ok.inj,I.ok.has,I.ok.cab,I.ok.hd,I.ok.frames,I.ok.stk,I.ok.exf,I.ok.bs,I.ok.bsz,I.ok.noex,I.ok.exfs,I.ok.funs,I.ok.frf⟩,I.os,I.bare,I.base,I.loc,I.cell,I.free,I.freeC,λp hp=>I.pin p<|by rw[abf] at hp;show hp,I.hok,I.len⟩
def Inv.ofPin{ps:Zf}(ok:X.Ok)(I:Inv (X.pin Zx) ps Z H s):Inv X Zx Z H s:=
 ⟨ok,I.os,I.bare,I.base,I.loc,I.cell,I.free,I.freeC,λp hp=>I.pin p<|aev _ hp,I.hok,I.len⟩
def LS{i:Nat}{n:Str}{pos:Pos}{Q:Unit->ZD->Prop}(I:Inv X Zx Z H s)(hN:X.N.Nodup)(hi:X.N[i]?=some n)(hk:X.e.kindOf n=some .local)
  (h:∀s',Inv X Zx (Z.set i none) H s'->Q Unit.unit s'):ZG M A (do bindName X.e n .none;ajz X.e n pos) Q E s:=by
 have hcls:(X.e.scope.kind == .class || (X.e.scope.kind == .module&&X.e.locals != X.e.globals))=false:=by rw[I.ok.kind];rfl
 let⟨m,hn,hl⟩:=id I.loc;split aaa<|wpAny_bindName<|aft hk hn (λh1 hn1 hs1=>?_) hcls;unfold ajz;split aea ?_;unfold unbindName;split aaa<|wpAny_point<|aaa ?_;unfold deleteName;simp only[hk,hcls];rw[aad ⋯];split aaa<|wpAny_nsDel_keeps hn1 λh2 v hn2 hs2=>?_;simp only[ab3,afQ,ajU,adc,abZ];have hs:=hs1.trans hs2;have cne:=I.cne;let⟨oL,_,_,hoL,_⟩:=id hn;split aal<|wpAny_point<|h _ ⟨I.ok,I.os,I.bare,⟨λb o q z hb hx=>?_,λb o q z hb hx=>?_,I.base.free,λb o q hx=>?_,I.base.tups,I.base.frzs,I.base.tbls⟩,⟨_,hn2,λj y v' e1 e2 e3=>?_⟩,λy c q=>?_,I.free,I.freeC,λp hp=>?_,λb ob q=>?_,by rw[ab6];show I.len⟩
 .exact (hs.2 b<|aaC<|aaZ (aaw q) I.ok.above).trans<|I.base.keep b o q z hb hx
 .let⟨sl,q1⟩:=I.base.slot b o q z hb hx;show⟨sl,(hs.2 b<|aaC<|aaZ (aaw q) I.ok.above).trans q1⟩
 .let⟨o',q1⟩:=I.base.there b o q hx;show⟨o',(hs.2 b<|aaC<|aaZ (aaw q) I.ok.above).trans q1⟩
 .have hj:j≠i:=λz=>by
   subst z;by_cases hlt:j<Z.length
   .rw[acf hlt] at e2;ext e2
   .rw[acQ<|by rw[ab6];lia] at e2;ext e2
  rw[aav<|aaI hj] at e2;have hy:y≠n:=λz=>hj<|rZ hN e1<|z▸hi;let⟨u',r',q⟩:=hl j y v' e1 e2 e3;split⟨u',r',?_⟩;rcases q with ⟨k,q⟩|⟨k,c,q,z⟩
  .exact .inl ⟨k,by simp[hy,q]⟩
  .exact .inr ⟨k,c,q,z.sameBut hs<|cne y c q⟩
 .let⟨w',z⟩:=I.cell y c q;show⟨w',z.sameBut hs<|cne y c q⟩
 .let⟨q,z,ne,nf,d⟩:=I.pin p hp;show⟨(hs.2 p.1 ne).trans q,z,ne,nf,d⟩
 .refine (I.hok b ob q).stay (λc w' hc z=>(hs.2 c ?_).trans z) (λ_ z=>z) λ_ _ z=>z;rintro rfl;rcases hc with rfl|hc
  .rw[I.free] at q;ext q
  .rw[I.free] at hc;ext hc
end
def p8(K:Zj)(ans:List<|Str×Bool)(u:ZE):Prop:=∀N b,ans.lookup N=some b->∀C:ZB,agA K ZK N=some (some<|.ref C)->XCls K C/\W.kitOne K (.ref C) u=some b
def FW{K:Zj}{u:ZE}:p8 K [] u:=λN b h=>by ext h
def Dy{K:Zj}{u:ZE}{N:Str}{b0:Bool}{ans:List<|Str×Bool}(h0:∀C:ZB,agA K ZK N=some (some<|.ref C)->XCls K C/\W.kitOne K (.ref C) u=some b0)(h:p8 K ans u):p8 K ((N,b0)::ans) u:=λM b hl C hC=>by
 rw[agD] at hl;split at hl
 .rename_i hb;have e:M=N:=by simpa using hb
  subst e;ext hl;show h0 C hC
 .exact h M b hl C hC
def Xx(K:Zj)(ans:List<|Str×Bool)(vv:V):Za->Hp->VK->Prop:=λxs H Q=>∃e C N b,xs=[.ref e,vv]/\H e=some (zY C e)/\agA K ZK N=some (some<|.ref C)/\ans.lookup N=some b/\Q (.B b) H
def NL(K:Zj)(i:Nat)(ans:List<|Str×Bool):TE:=λZ H Q=>∃e C N b,Z[i]?=some (some<|.ref e)/\H e=some (zY C e)/\agA K ZK N=some (some<|.ref C)/\ans.lookup N=some b/\Q (.B b) H
def uL(K:Zj)(i:Nat):List (List<|Str×Bool)->TA
 |[]=>tD
 |a::l=>lu (NL K i a)<|uL K i l
section
variable {X:Cx}{e:ZA}{pos p p':Pos}{i:Nat}{N:Str}{ans:List<|Str×Bool}{vv:V}{u:ZE}
def xp(hv:∀v,RelV vv v->v=u)(hc:p8 X.K ans u):CallR X (.builtin "isinstance")<|Xx X.K ans vv:=by intro Zx s Z H xs us Q I r h;let⟨a,C,N,b,rfl,ea,hC,hb,q⟩:=h;let⟨u1,v,rfl,r1,r2⟩:=Vals.two r;have eu:u1=ZO a:=r1;subst eu;have ev:=hv v r2;subst ev;let⟨c,hk⟩:=hc N b hb C hC;show W.kia_one (Hv c) I.kIn (I.hok a _ ea).1 hk (λz=>nomatch z) λtk=>⟨.B b,H,I.tok _,rfl,q⟩
def Ho{K:Zj}{Z:St}{H:Hp}{Q:VK}(h:NL K i ans Z H Q):tCB (Xx K ans vv) (lu (Fo i)<|lu (tC vv) tD) Z H Q:=by let⟨a,C,N,b,h1,ea,hC,hb,q⟩:=h;show⟨.ref a,h1,a,C,N,b,rfl,ea,hC,hb,q⟩
def SC(h:∃T:ZB,X.mg N=some (.ref T)/\p8 X.K ans (.ref T))(hg:Gl X "isinstance") (hm:X.mg "isinstance"=none) (gT:Gl X N) (he:PE X e<|Fo i) (hdb:(N==("__debug__" : Str))=false:=by decide)
  (h1:ZQ [e,.Name N p'] X.e=(false,ZN e X.e)::ZQ [.Name N p'] X.e:=by rfl) (h2:ZQ [.Name N p'] X.e=(false,ZN (.Name N p') X.e)::ZQ [] X.e:=by rfl) (hpl:(ZU pos<|starEach [.Name N p'] X.e).any (·.1)=false:=by rfl) :
  PE X (.Call (.Name "isinstance" p) [e,.Name N p'] [] pos) (NL X.K i ans):=by
 let⟨T,k2,k3⟩:=h;show λa b c d q I h=>r9 (xp (vv:=.ref T) (λv r=>r) k3) hg hm ij (eZ he (eZ (ww (v:=.ref T) gT k2 rfl hdb) oH h2) h1) ⋯ ⋯ h1 hpl a b c d q I<|Ho h
def ML{M:String}(k2:X.mg N=none)(hv:agz N=some (.type M))(k3:p8 X.K ans<|.type M)(hg:Gl X "isinstance") (hm:X.mg "isinstance"=none) (gT:Gl X N) (he:PE X e<|Fo i) (hn:N ≠ "__name__" := by decide) (hdb:(N==("__debug__" : Str))=false:=by decide)
  (h1:ZQ [e,.Name N p'] X.e=(false,ZN e X.e)::ZQ [.Name N p'] X.e:=by rfl) (h2:ZQ [.Name N p'] X.e=(false,ZN (.Name N p') X.e)::ZQ [] X.e:=by rfl) (hpl:(ZU pos<|starEach [.Name N p'] X.e).any (·.1)=false:=by rfl) :
  PE X (.Call (.Name "isinstance" p) [e,.Name N p'] [] pos) (NL X.K i ans):=
 λa b c d q I h=>r9 (xp (vv:=.ty M) (λv r=>r) k3) hg hm ij (eZ he (eZ (CA (v:=.ty M) gT k2 hv rfl hn hdb) oH h2) h1) ⋯ ⋯ h1 hpl a b c d q I<|Ho h
def Fun.okX{P:ZL}{w:ZI}{K:Zj}{mg:Zg}{base:ZH}{x qual:Str}{st:ZM}{f:ZB}{fd:ZW}{N ps:Zl}{k:Nat}{sp:Sp}(F:Fun K x qual st f fd)(S:Zw N ps<|aq st)(len:∀vs H Q E,sp vs H Q E->vs.length=ps.length)
  (hbody:∀(cdv:ZE) (A:ZP) (outer:List Env) (s:ZD) (H:Hp) (vs:Za) (Q:VK) (E:XK),Zr k (A.deeper<|envOfC qual (aq st) s.heap.objs.size f cdv)->sp vs H Q E ->
   ∃t,PSs (il (qf P w) P w K mg base N qual (aq st) f cdv A outer s H E) (bW st) t/\t { nx:=λ_ H'=>Q .N H',rt:=Q } (jz N vs) H):Zs P w K mg base (qf P w) (k+1) f fd ps sp:=by
 let⟨oc,od,kV,doc,pm,an,cdv,ct,osl,rfl,lk,hcd⟩:=F.ex;show GX lk hcd S len λA outer s H vs Q E hr hsp=>hbody cdv A outer s H vs Q E hr hsp
end
end L2
namespace M
open L2
section
variable {K:Zj}{H:Hp}
def uk(N:Str):List (List<|Str×Bool)->Option (List Bool)
 |[]=>some []
 |a::l=>(a.lookup N).bind λb=>(uk N l).map λbs=>b::bs
theorem Jc{i:Nat} : ∀ {l:List<|List<|Str×Bool} {bs:List Bool},uk N l=some bs->∀Z H (Q:Za->Hp->Prop) e C,Z[i]?=some (some<|.ref e)->H e=some (zY C e)->agA K ZK N=some (some<|.ref C)->Q (bs.map V.B) H->uL K i l Z H Q
 |[],bs,h,Z,H,Q,e,C,_,_,_,q=>by ext h;show q
 |a::l,bs,h,Z,H,Q,e,C,h1,h2,h3,q=>by
  let⟨b,qa,h⟩:=bind_some h;cases ql:uk N l with
  |none=>rw[ql] at h;ext h
  |some bs'=>rw[ql] at h;ext h;show⟨e,C,N,b,h1,h2,h3,qa,Jc ql Z H _ e C h1 h2 h3 q⟩
def Dj(K:Zj)(i:Nat):List (Nat×List (List<|Str×Bool))->TS
 |[]=>yN
 |[p]=>yM (JI<|uL K i p.2)<|hU p.1
 |p::l=>NM (yM (JI<|uL K i p.2)<|hU p.1)<|Dj K i l
end
end M
namespace L2
open PyProof.Rows
def Fv{P:ZL}{w:ZI}{K:Zj}{tg:ZA}(it:ZB)(lo:Int)(n:Nat):Turn P w K tg (Vn lo n) [it] it (λi h=>IsLongIter h it (lo+(i:Nat)*1) ((n:Int)-(i:Nat)) 1) where
 mem:=by simp
 obj:=λi h st b hb=>by
  obtain rfl:b=it:=by simpa using hb
  split⟨_,st,λv z=>?_⟩;have y:ajc _=ai8 v:=z;ext y
 keep:=λi h h' st k=>k it (by simp) _ st
 item:=by intro X hP hw hK hc i Zx s Z H E I hf st hg;subst hP hw hK;have ⟨g0,g1,g2,g3,g4,g5⟩:=hf it (by simp);split (Walks.longrange (prog:=X.p) (w:=X.w) (I.ok.hd hc) it lo 1 n).item i s _ _ hg st λv h' tk hv st' kk=>?_;let⟨t,rfl⟩:=hv;have J:Inv X Zx Z H<|s.wt h' tk:=I.turned (λb o hb q=>kk b o (~~~hb) q) g0 g1 g3 g4 g5;show⟨_,rfl,m9 (s:=(s.wt h' tk)) (n := "longrange_iterator") st' rfl rfl ⋯ ⟨.int<|lo+i,H,J,⟨t,#v[ajL]⟩,⟨rfl,rfl⟩,st',λb hb=>(hf b hb).1⟩⟩
 done:=by intro X hP hw hK hc i Zx s Z H E I hf st hg;subst hP hw hK;have ⟨g0,g1,g2,g3,g4,g5⟩:=hf it (by simp);show wpAny_pyNext_long_end (I.ok.hd hc) st (by have:n<=i:=hg;lia) λh' eb=>⟨rfl,I.turned (t':=s.toks) (λb o hb q=>eb b o hb q) g0 g1 g3 g4 g5⟩
 self:=λ_ _ _ _ _ st h=>wpAny_pyIter_longiter st h
section
variable {X:Cx}{tg:ZA}
def Fc{Zx:Zf} {R:It->Hp->Prop} {lo hi:Int}{t u v:Tok}{tk:Nat}(I:Inv X Zx Z H s)(q:R (Vn lo (hi-lo).toNat) H) :
  wX X (aht<|.ref s.heap.objs.size) (VD X Zx Z tg R) E { s with heap:=s.heap.push { cls:=.type "range",data:=.fields #[.int lo t,.int hi u,.int 1 v] },toks:=tk }:=by
 have J:Inv X Zx Z H { s with heap:=s.heap.push { cls:=.type "range",data:=.fields #[.int lo t,.int hi u,.int 1 v] },toks:=tk }:=I.kept λb o z=>aas _ z;have hs:(((hi-lo).toNat:Nat):Int)-((0:Nat):Int)=ajp lo hi 1:=by rw[rangeSize_one];split<;>lia
 have h0:lo+((0:Nat):Int)*1=lo:=by simp
 cases hb:ai4 lo hi 1 with
 |true=>
  split aey (ad0 ..) hb ?_;split⟨_,[(s.heap.push { cls:=.type "range",data:=.fields #[.int lo t,.int hi u,.int 1 v] }).objs.size],_,_,H,rfl,J.kept (t':=tk) λb o z=>aas _ z,sE _ lo (hi-lo).toNat,?_,λb hb=>?_,q⟩
  .show ah9 _ _ (lo+((0:Nat):Int)*1) ((((hi-lo).toNat:Nat):Int)-((0:Nat):Int)) 1;rw[h0,hs];show aaB _ rfl
  .have z:b=(s.heap.push { cls:=.type "range",data:=.fields #[.int lo t,.int hi u,.int 1 v] }).objs.size:=by simpa using hb
   subst z;show J.fpOk (aaq _)<|J.hok.fresh<|aaq _
 |false=>
  split wpAny_pyIter_longrange (ad0 ..) hb ?_;split⟨_,[(s.heap.push { cls:=.type "range",data:=.fields #[.int lo t,.int hi u,.int 1 v] }).objs.size],_,_,H,rfl,J.kept (t':=tk) λb o z=>aas _ z,Fv _ lo (hi-lo).toNat,?_,λb hb=>?_,q⟩
  .show IsLongIter _ _ (lo+((0:Nat):Int)*1) ((((hi-lo).toNat:Nat):Int)-((0:Nat):Int)) 1;rw[h0,hs];show aaB _ rfl
  .have z:b=(s.heap.push { cls:=.type "range",data:=.fields #[.int lo t,.int hi u,.int 1 v] }).objs.size:=by simpa using hb
   subst z;show J.fpOk (aaq _)<|J.hok.fresh<|aaq _
def OJ(ta:TA):TI:=λZ H R=>ta Z H λvs H1=>∃i j:Int,vs=[.int i,.int j]/\R (Vn i (j-i).toNat) H1
def EZ{a b:ZA}{ta:TA}{p pos:Pos}(hg:Gl X "range") (hm:X.mg "range"=none) (ha:PA X [a,b] ta) (hs:ZQ [a,b] X.e=[(false,ZN a X.e),(false,ZN b X.e)]:=by rfl) (hs2:ZQ [b] X.e=[(false,ZN b X.e)]:=by rfl) :
  PI X tg (.Call (.Name "range" p) [a,b] [] pos) (OJ ta):=by
 intro Zx s Z H R I h;split Call_<|j7 I hg hm aez<|ac1 (bz (ha pos Zx s Z H _ I h) λus s1 Zy=>?_) (#v[hs,hs2]) (by rw[hs2];rfl);let⟨vs,H1,I1,r1,q1⟩:=Zy;let⟨i,j,rfl,q⟩:=q1;let⟨u1,u2,rfl,r,r'⟩:=Vals.two r1;let⟨t,rfl⟩:=r;let⟨t',rfl⟩:=r';show call_range_2<|Fc I1 q
end
def Its(x:Str):It:=⟨λi _=>i<x.cps.size,λi H v H'=>H'=H/\∃c,x.cps[i]?=some c/\v=.str ⟨#[c]⟩,λi _=>x.cps.size<=i⟩
def Bj{P:ZL}{w:ZI}{K:Zj}{tg:ZA}(it:ZB)(x:Str)(t:Tok):Turn P w K tg (Its x) [it] it (λi h=>h.IsStrIter it "str_ascii_iterator" x t i) where
 mem:=by simp
 obj:=λi h st b hb=>by
  obtain rfl:b=it:=by simpa using hb
  let⟨o,e,c,d⟩:=st;show⟨o,e,λv z=>by rw[d] at z;ext z⟩
 keep:=λi h h' st k=>by let⟨o,e,r⟩:=st;show⟨o,k it (by simp) o e,r⟩
 item:=by intro X hP hw hK hc i Zx s Z H E I hf st hg;subst hP hw hK;have ⟨g0,g1,g2,g3,g4,g5⟩:=hf it (by simp);split (Walks.strAscii (prog:=X.p) (w:=X.w) (I.ok.hd hc) it x t).item i s _ _ hg st λv h' tk hv st' kk=>?_;let⟨c,u,hx,rfl⟩:=hv;have J:Inv X Zx Z H<|s.wt h' tk:=I.turned (λb o hb q=>kk b o (~~~hb) q) g0 g1 g3 g4 g5;let⟨o,e,c1,d1⟩:=id st';show⟨_,rfl,m9 (s:=(s.wt h' tk)) e c1 d1 ⋯ ⟨.str ⟨#[c]⟩,H,J,⟨u,rfl⟩,⟨rfl,c,hx,rfl⟩,st',λb hb=>(hf b hb).1⟩⟩
 done:=by intro X hP hw hK hc i Zx s Z H E I hf st hg;subst hP hw hK;have ⟨g0,g1,g2,g3,g4,g5⟩:=hf it (by simp);show wpAny_pyNext_ascii_end (I.ok.hd hc) st (by have:x.cps.size<=i:=hg;simp;lia) λh' eb=>⟨rfl,I.turned (t':=s.toks) (λb o hb q=>eb b o hb q) g0 g1 g3 g4 g5⟩
 self:=λ_ _ _ _ _ st h=>wpAny_pyIter_striter_ascii st h
def Fw{P:ZL}{w:ZI}{K:Zj}{tg:ZA}(it:ZB)(x:Str)(t:Tok):Turn P w K tg (Its x) [it] it (λi h=>h.IsStrIter it "str_iterator" x t i) where
 mem:=by simp
 obj:=λi h st b hb=>by
  obtain rfl:b=it:=by simpa using hb
  let⟨o,e,c,d⟩:=st;show⟨o,e,λv z=>by rw[d] at z;ext z⟩
 keep:=λi h h' st k=>by let⟨o,e,r⟩:=st;show⟨o,k it (by simp) o e,r⟩
 item:=by intro X hP hw hK hc i Zx s Z H E I hf st hg;subst hP hw hK;have ⟨g0,g1,g2,g3,g4,g5⟩:=hf it (by simp);split (Walks.strWide (prog:=X.p) (w:=X.w) (I.ok.hd hc) it x t).item i s _ _ hg st λv h' tk hv st' kk=>?_;let⟨c,u,hx,rfl⟩:=hv;have J:Inv X Zx Z H<|s.wt h' tk:=I.turned (λb o hb q=>kk b o (~~~hb) q) g0 g1 g3 g4 g5;let⟨o,e,c1,d1⟩:=id st';show⟨_,rfl,m9 (s:=(s.wt h' tk)) e c1 d1 ⋯ ⟨.str ⟨#[c]⟩,H,J,⟨u,rfl⟩,⟨rfl,c,hx,rfl⟩,st',λb hb=>(hf b hb).1⟩⟩
 done:=by intro X hP hw hK hc i Zx s Z H E I hf st hg;subst hP hw hK;have ⟨g0,g1,g2,g3,g4,g5⟩:=hf it (by simp);show wpAny_pyNext_wide_end (I.ok.hd hc) st (by have:x.cps.size<=i:=hg;simp;lia) λh' eb=>⟨rfl,I.turned (t':=s.toks) (λb o hb q=>eb b o hb q) g0 g1 g3 g4 g5⟩
 self:=λ_ _ _ _ _ st h=>wpAny_pyIter_striter_wide st h
section
variable {X:Cx}{tg:ZA}
def WB(tl:TE):TI:=λZ H R=>tl Z H λv H1=>∃x,v=.str x/\R (Its x) H1
def SU{l:ZA}{tl:TE}(hl:PE X l tl):PI X tg l<|WB tl:=by
 intro Zx s Z H R I h;split bz (hl Zx s Z H _ I h) λv s1 Zy=>?_;let⟨y,H1,I1,r1,q1⟩:=Zy;let⟨x,rfl,q⟩:=q1;let⟨t,rfl⟩:=r1;have fp:∀(o:Obj) (b:ZB),b∈[s1.heap.objs.size]->mz X Zx H1 b:=λo b hb=>by
  obtain rfl:b=s1.heap.objs.size:=by simpa using hb
  show I1.fpOk (aaq _)<|I1.hok.fresh<|aaq _
 cases ha:x.cps.all (· < 128)
 .exact wpAny_pyIter_wide ha ⟨_,[s1.heap.objs.size],_,_,H1,rfl,I1.kept (t':=s1.toks) λb o z=>aas _ z,Fw _ x t,⟨_,aaB _ rfl,rfl,rfl⟩,λb hb=>fp default b hb,q⟩
 .exact wpAny_pyIter_ascii ha ⟨_,[s1.heap.objs.size],_,_,H1,rfl,I1.kept (t':=s1.toks) λb o z=>aas _ z,Bj _ x t,⟨_,aaB _ rfl,rfl,rfl⟩,λb hb=>fp default b hb,q⟩
def XM:V->Option Int->Option Int->Hp->VK->Prop:=λx lo hi H Q=>∃y,x=.str y/\y.length<=ZF/\Q (.str<|Txt.slice y lo hi) H
def UD:SlR X XM:=by
 intro Zx s Z H x v vl vu lo hi sl Q I rx hs pl pu h;let⟨y,rfl,hz,q⟩:=h;let⟨t,rfl⟩:=rx;have fin:∀t' k,EP X Zx Z Q (.str (Txt.slice y lo hi) t') { s with toks:=k }:=λt' k=>⟨.str _,H,I.tok k,⟨t',rfl⟩,q⟩
 split⟨"str",_,F.slot_str_getitem.lookup,ab4 _ _ _,?_⟩;cases pl<;>ext pu
 .exact aeb (l:=none) (u:=none) (st:=none) hs rfl<|aec ⟨aaN (aed y _ _) hz,fin⟩
 .exact aeb (l:=none) (u:=some (_,_)) (st:=none) hs rfl<|aec ⟨aaN (aed y _ _) hz,fin⟩
 .exact aeb (l:=some (_,_)) (u:=none) (st:=none) hs rfl<|aec ⟨aaN (aed y _ _) hz,fin⟩
 .exact aeb (l:=some (_,_)) (u:=some (_,_)) (st:=none) hs rfl<|aec ⟨aaN (aed y _ _) hz,fin⟩
def rStarts:V->Za->Hp->VK->Prop:=λx vs H Q=>∃y z,x=.str y/\vs=[.str z]/\Q (.B<|decide (z.length<=y.length)&&aia y z 0) H
def EJ:MtR X "str.startswith" rStarts:=by intro Zx s Z H x vs v us Q I rx rv h;let⟨y,z,rfl,rfl,q⟩:=h;let⟨t,rfl⟩:=rx;let⟨u,rfl,ru⟩:=rv.one;let⟨t',rfl⟩:=ru;split call_gives F.slot_str_startswith (ab4 _ _ _) F.entry_str_startswith (F.args_str_startswith_2 _ _) (gives_str_startswith y z t t') ?_;split⟨.B _,H,I,?_,q⟩;show ahp _=ahp _;rw[acR]
def Pn:Za->Hp->VK->Prop:=λxs H Q=>∃x n,xs=[.str x]/\ahO x=some n/\x.length<=640/\Q (.int n) H
def DG:CallR X (.type "int") Pn:=by intro Zx s Z H xs us Q I r h;let⟨x,n,rfl,hn,hl,q⟩:=h;let⟨u,rfl,t,rfl⟩:=sH r;show W.KIN.call_text hn hl ⟨.int n,H,I.tok _,⟨_,rfl⟩,q⟩
def Pr:Za->Hp->VK->Prop:=λxs H Q=>∃i,xs=[.int i]/\i.natAbs.log2<1920/\Q (.str<|toString i) H
def DM:CallR X (.type "str") Pr:=vm
def Xu:R2:=λx y H Q=>∃i j,x=.str i/\y=.str j/\Q (.B<|!(agL j i 0 j.length 1).isEmpty) H
def Sj:OpR X (agH .In) Xu:=ER
def Xr(K:Zj):Za->Hp->VK->Prop:=λxs H Q=>∃p,∃bs:List Bool,xs=[.ref p]/\SqL K H p (bs.map V.B)/\Q (.B<|bs.all id) H
def wz(bs:List Bool):(ZV bs.length).all (λi=>bs.getD i true)=bs.all id:=by
 rw[adF,ac9,ac9];constructor
 .intro h b hb;let⟨i,hi,rfl⟩:=aeV hb;have:=h i<|acd.2 hi;simpa[hi] using this
 .intro h i hi;have hi:=acd.1 hi;have:=h bs[i] (ajK hi);simpa[hi] using this
def DE(hc:X.c=true):CallR X (.builtin "all")<|Xr X.K:=by
 intro Zx s Z H xs us Q I r h;let⟨p,bs,rfl,hS,q⟩:=h;let⟨u,rfl,ru⟩:=r.one;ext ru;let⟨its,rv,pl,hz⟩:=I.list hS;have hl:=pl.isList;have Zz:bs.length=its.length:=by have:=rv.length;simpa using this
 split call_all_walk<|adx hl ?_;have hne:p≠s.heap.objs.size:=aaC pl.lt;split⟨_,_,_,_,_,_,λi=>bs.getD i true,rfl,akj (A:=X.A.in1) (I.ok.hd hc) _ p hne its.toArray,⟨⟨_,aaB _ rfl,rfl,rfl⟩,hl.push _⟩,?_,?_⟩
 .intro i v s' Q' E' hv hQ;have hv:its[i]?=some v:=by simpa using hv
  have hi:i<bs.length:=by rw[Zz];show (aa0.1 hv).1
  let⟨u,hu,ru⟩:=rv.get (i:=i) (x:=.B<|bs[i]) (by simp[hi]);rw[hu] at hv;ext hv;ext ru;have e:bs.getD i true=bs[i]:=by simp[hi]
  dsimp only at hQ;rw[e] at hQ;show acz hQ
 .intro h' tk hk;rw[aaH,<-Zz,wz];show⟨.B _,H,I.kept<|old_kept hk,rfl,q⟩
end
def Qy:agz "all"=some (.builtin "all"):=by decide +kernel
section
variable {X:Cx}
def Po(K:Zj):V->Za->Hp->VK->Prop:=λx vs H Q=>∃sep p,∃ys:Zl,x=.str sep/\vs=[.ref p]/\SqL K H p (ys.map V.str)/\(ys.map (·.length)).sum+ys.length*sep.length<=16777216/\Q (.str<|Txt.join sep ys) H
theorem De:∀ {ys:Zl} {us:Zh},Vals (ys.map V.str) us->ah0 us ys
 |[],us,h=>by ext h;show .nil
 |y::ys,us,h=>by
  cases h with
  |cons a r=>let⟨t,rfl⟩:=a;show .cons _ _<|De r
def Mj:MtR X "str.join" (Po X.K):=by intro Zx s Z H x vs v us Q I rx rv h;let⟨sep,p,ys,rfl,rfl,hS,hz,q⟩:=h;let⟨t,rfl⟩:=rx;let⟨u,rfl,ru⟩:=rv.one;ext ru;let⟨its,rl,pl,_⟩:=I.list hS;show join_list (items:=its.toArray) pl.isList (~~~De rl) hz λt' k=>⟨.str _,H,I.tok k,⟨t',rfl⟩,q⟩
def rSplit:V->Za->Hp->VK->Prop:=λx vs H Q=>∃y z,x=.str y/\vs=[.str z]/\z.length≠0/\y.length+2<=ZF/\∀l,H l=none->Q (.ref l) (upd H l<|.L<|(agM y z).map V.str)
theorem oM:∀(ys:Zl) (n:Nat),Vals (ys.map V.str) (strsFrom n ys)
 |[],_=>.nil
 |_::ys,n=>.cons ⟨_,rfl⟩<|oM ys<|n+1
def mt_split:MtR X "str.split" rSplit:=by
 intro Zx s Z H x vs v us Q I rx rv h;let⟨y,z,rfl,rfl,hz,hy,q⟩:=h;let⟨t,rfl⟩:=rx;let⟨u,rfl,ru⟩:=rv.one;let⟨t',rfl⟩:=ru;have hz':(z.length==0)=false:=by simpa using hz
 have fin:∀(ys:Zl) (its:Zh) (tk:Nat),agM y z=ys->Vals (ys.map V.str) its->ys.length<=ZF->EP X Zx Z Q (.ref s.heap.objs.size) { s with heap:=s.heap.push { cls:=.type "list",data:=.seq its.toArray },toks:=tk }:=λys its tk e r hl=>by subst e;split⟨.ref s.heap.objs.size,_,I.laid (o:=.L<|(agM y z).map V.str) (λb ob q=>aas _ q) (aaq _) ?_,rfl,q _<|I.hok.fresh<|aaq _⟩;show⟨by rw[aar];show hl,its,0,r,aaB _ rfl⟩
 cases h1:(decide (y.length<z.length) || decide (agT y<agT z)) with
 |true=>
  split ab7 ade (ab4 _ _ _) adf (aeW _ _) (meets_str_split_cannot_occur y z t t' h1) ?_;show fin [y] [.str y t] s.toks (by unfold agM;simp[h1]) (.cons ⟨t,rfl⟩ .nil) (by show 1<=ZF;decide)
 |false=>
  cases hf:(agL y z 0 y.length<|y.length+1).isEmpty with
  |true=>
   split ab7 ade (ab4 _ _ _) adf (aeW _ _) (meets_str_split_not_found y z t t' h1 hz' hf) ?_;show fin [y] [.str y t] s.toks (by unfold agM;simp[h1,hf]) (.cons ⟨t,rfl⟩ .nil) (by show 1<=ZF;decide)
  |false=>
   have hl:(aiY y (agL y z 0 y.length<|y.length+1) z.length).length<=ZF:=by rw[afR];have:=afS y z 0 y.length<|y.length+1;lia
   split ab7 ade (ab4 _ _ _) adf (aeW _ _) (meets_str_split_sep y z t t' h1 hz' hf (aaN (acS _ _) hy) hl) ?_;show fin _ _ _ (by unfold agM;simp[h1,hf]) (oM _ _) hl
def rPart:V->Za->Hp->VK->Prop:=λx vs H Q=>∃y z,x=.str y/\vs=[.str z]/\z.length≠0/\y.length<=ZF/\∀l,H l=none->Q (.ref l) (upd H l<|.T [.str (ZZ y z).1,.str (ZZ y z).2.1,.str (ZZ y z).2.2])
def Ml:MtR X "str.partition" rPart:=by
 intro Zx s Z H x vs v us Q I rx rv h;let⟨y,z,rfl,rfl,hz,hy,q⟩:=h;let⟨t,rfl⟩:=rx;let⟨u,rfl,ru⟩:=rv.one;let⟨t',rfl⟩:=ru;have hz':(z.length==0)=false:=by simpa using hz
 have fin:∀(a b c:Str) (ta tb tc:Tok) (tk:Nat),ZZ y z=(a,b,c)->EP X Zx Z Q (.ref s.heap.objs.size) { s with heap:=s.heap.push { cls:=.type "tuple",data:=.seq [.str a ta,.str b tb,.str c tc].toArray },toks:=tk }:=λa b c ta tb tc tk e=>by rw[e] at q;split⟨.ref s.heap.objs.size,_,I.laid (o:=.T [.str a,.str b,.str c]) (λb ob q=>aas _ q) (aaq _) ?_,rfl,q _<|I.hok.fresh<|aaq _⟩;show⟨by show 3<=ZF;decide,_,.cons ⟨_,rfl⟩<|.cons ⟨_,rfl⟩<|.cons ⟨_,rfl⟩ .nil,TupN.new _ _⟩
 split ab7 F.slot_str_partition (ab4 _ _ _) F.entry_str_partition (F.args_str_partition_2 _ _) (meets_str_partition y z t t' hz' hy) ?_;cases ho:agL y z 0 y.length 1 with
 |nil=>show fin _ _ _ _ _ _ _ (by unfold ZZ;rw[ho])
 |cons i r=>show fin _ _ _ _ _ _ _ (by unfold ZZ;rw[ho])
def tFv(te:TE):TE:=λZ H Q=>te Z H λx H1=>(∃i,x=.int i/\i.natAbs.log2<1920/\Q (.str<|toString i) H1)\/∃y,x=.str y/\y.length<=ZF/\Q (.str y) H1
def Xh{te:TE}{pos:Pos}(he:PE X e te):PE X (.FormattedValue e (-1) none pos)<|tFv te:=by
 intro Zx s Z H Q I h;split FormattedValue_plain<|bz (he Zx s Z H _ I h) λv s1 Zy=>?_;let⟨x,H1,I1,r1,q1⟩:=Zy;rcases q1 with ⟨i,rfl,hi,q⟩|⟨y,rfl,hy,q⟩
 .let⟨t,rfl⟩:=r1;show formatField_int_small hi ⟨.str _,H1,I1.tok _,⟨_,rfl⟩,q⟩
 .let⟨t,rfl⟩:=r1;show formatField_str (λt' tk=>⟨.str _,H1,I1.tok tk,⟨t',rfl⟩,q⟩) hy
def SD{te:TE}{pos:Pos}(he:PE X e te):PE X (.JoinedStr [e] pos) te:=λZx s Z H Q I h=>JoinedStr_one<|he Zx s Z H Q I h
def tJs:List TE->Str->TE
 |[],acc=>λ_ H Q=>acc.length<=ZF/\Q (.str acc) H
 |t::ts,acc=>λZ H Q=>t Z H λx H1=>∃y,x=.str y/\(acc++y).length<=ZF/\tJs ts (acc++y) Z H1 Q
inductive PJ(X:Cx):List ZA->List TE->Prop
 |nil:PJ X [] []
 |cons {e:ZA} {t:TE} {es:List ZA} {ts:List TE}:PE X e t->PJ X es ts->PJ X (e::es) (t::ts)
def SW{es:List ZA}{ts:List TE}(h:PJ X es ts):∀(acc:Str) (Zx:Zf) (s:ZD) (Z:St) (H:Hp) (Q:VK),Inv X Zx Z H s->tJs ts acc Z H Q->wX X (joinParts acc<|evalEach es X.e) (EP X Zx Z Q) X.xe s:=by
 induction h with
 |nil=>
  intro acc Zx s Z H Q I q;show joinParts_nil ⟨.str acc,H,I.tok _,⟨_,rfl⟩,q.2⟩ q.1
 |cons he _ ih=>intro acc Zx s Z H Q I q;split joinParts_cons<|bz (he Zx s Z H _ I q) λv s1 hv=>?_;let⟨x,H1,I1,r1,y,rfl,hy,q1⟩:=hv;let⟨t,rfl⟩:=r1;show⟨hy,ih _ Zx s1 Z H1 Q I1 q1⟩
def Xj{a b:ZA}{es:List ZA}{ts:List TE}{pos:Pos}(h:PJ X (a::b::es) ts):PE X (.JoinedStr (a::b::es) pos)<|tJs ts ahs:=λZx s Z H Q I q=>JoinedStr_many<|SW h ahs Zx s Z H Q I q
end
section
variable {M:ahP}{A:ZP}{Ex:Ze}{s:ZD}
def HP{base:ZH}{env:Env}{outer:List Env}{L:ZB}{cls a0:ZE}{Q:Unit->ZD->Prop}
  (hfr:A.frames=some (env::outer)) (hl:s.heap.FunFrames base (env::outer)) (hf:env.frame=some L) (ht:s.heap.TracedAtW base e cls a0 fl) (hkb:base.StaysIn s.heap) (hen:base.get? e=none)
  (h:∀h',Heap.NotedW base (env::outer) e cls a0 (ZY L) s.heap h'->Q Unit.unit (s.wh h')):ZG M A (noteFrame (.ref e) env) Q Ex s:=by
 by_cases q:(fl==ZY L)=true
 .have e1:fl=ZY L:=ab2.1 q;subst e1;show wpAny_noteFrame_againW hf ht<|h s.heap ⟨hkb,hl,ht,λb o e _=>⟨o.slots,e⟩⟩
 .let⟨oe,vs,T,oT,ts,he,⟨hcls,h0⟩,hd,h1,hnT,hTe,hT,hdT,h3⟩:=ht;subst hcls;unfold noteFrame;simp only[hf];split aaa<|aaU he hd h1 ?_;rw[aac (show (ZO T != ZX)=true from by simp)];split aaa<|aaU hT hdT h3 ?_;rw[aad q];split aaa<|acx hT hdT (adB.1 h3).1 ?_;have other:∀b,b≠T->(s.heap.update T<|Obj.mapFields (·.setIfInBounds 3 ZX)).get? b=s.heap.get? b:=λb hb=>ac7 _ _<|aaI hb;have noRecord:∀b o,s.heap.get? b=some o->(∀vs,o.data ≠ .fields vs)->b≠T:=λb o hb hnf q=>by
   rw[q,hT] at hb;injection hb with hb;subst hb;show hnf ts hdT
  split wpAny_entryW hfr (hl.of_keeps λb o hb hnf=>⟨o,(other b<|noRecord b o hb hnf).trans hb,rfl⟩) hf ((other e<|aaI hTe).trans he)
   (λb o hbo=>(other b λq=>by rw[q,hnT] at hbo;ext hbo).trans<|hkb b o hbo) hen hd (adB.1 h1).1 h0
   λh' ⟨x1,x2,x3,x4⟩=>h h' ⟨x1,x2,x3,λb o hb hnf=>x4 b o ((other b<|noRecord b o hb hnf).trans hb) hnf⟩
def HY{O:Type}{base:ZH}{l:List Env}{e:ZB}{cls a0 fl:ZE}{what:String}{env:Env}{Q:O->ZD->Prop}(hkb:base.StaysIn s.heap)(hl:s.heap.FunFrames base l)(ht:s.heap.TracedAtW base e cls a0 fl)
  (h:∀h' fl',base.StaysIn h'->h'.FunFrames base l->h'.TracedAtW base e cls a0 fl'->s.heap.UpToSlots h'->Ex (.ref e) (s.wh h')) :
  ZG M A (ajt what (.ref e) env:Sem O) Q Ex s:=by
 let⟨oe,vs,T,oT,ts,he,hcls,hd,h1,hnT,hTe,hT,hdT,h3⟩:=ht;have hsz3:3<ts.size:=(adB.1 h3).1;have other:∀b,b≠T->(s.heap.update T<|Obj.mapFields (·.setIfInBounds 3 (env.frame.elim ZX λf=>ZY f))).get? b=s.heap.get? b:=
  λb hb=>ac7 _ _<|aaI hb
 have noRecord:∀b o,s.heap.get? b=some o->(∀vs,o.data ≠ .fields vs)->b≠T:=λb o hb hnf q=>by rw[q,hT] at hb;injection hb with hb;subst hb;show hnf ts hdT
 unfold ajt;split aaa<|aaU he hd h1 ?_;rw[aad (show ¬((ZO T==ZX)=true) from by simp)];split aaa (?_:ZG M A (setFlight (.ref e) env.frame) _ _ _);unfold setFlight;split aaa<|aaU he hd h1 ?_;rw[aac (show (ZO T != ZX)=true from by simp)]
 split acx hT hdT hsz3 (acE (h _ (env.frame.elim ZX λf=>ZY f) (λb o hbo=>(other b λq=>by rw[q,hnT] at hbo;ext hbo).trans<|hkb b o hbo)
  (hl.of_keeps λb o hb hnf=>⟨o,(other b<|noRecord b o hb hnf).trans hb,rfl⟩) ?_ λb o hb hnf=>⟨o.slots,(other b<|noRecord b o hb hnf).trans hb⟩))
 show⟨oe,vs,T,_,_,(other e<|aaI hTe).trans he,hcls,hd,h1,hnT,hTe,ab5 _ hT<|acD<|abW hdT _,abW hdT _,by simp[hsz3]⟩
theorem j5{B B' h h':ZH}{C:ZB}(k:∀b,B.get? b=none->B'.get? b=none)(k':∀b o,b≠C->h.get? b=some o->h'.get? b=some o):∀ {l:List Env},C∉pF l->h.FunFrames B l->h'.FunFrames B' l
 |[],_,_=>trivial
 |env::l,hC,hpt0=>by
  let⟨hk,⟨L,o,hf,hn,ho,hd⟩,hr⟩:=hpt0;have e1:pF (env::l)=L::pF l:=by unfold pF;rw[acZ,hf]
  rw[e1] at hC;show⟨hk,⟨L,o,hf,k L hn,k' L o (λz=>hC<|by rw[z];show .head _) ho,hd⟩,j5 k k' (λz=>hC<|.tail _ z) hr⟩
end
def FJ(X:Cx)(E:XK):Prop:=∀(Zx:Zf) (Z:St) (H:Hp) (s:ZD) (e:ZB) (cls a0 fl:ZE) (fx:Option ZB) (B:ZH),Inv X Zx Z H s->E cls fx H->(fx=none->kS e s.heap)->B.StaysIn s.heap->B.get? e=none->s.heap.FunFrames B X.t->s.heap.TracedAtW B e cls a0 fl ->
 (∀b u,H b=some u->∃o,B.get? b=some o)->(∀b o,X.s.heap.get? b=some o->b∉X.fs->∃o',B.get? b=some o')->X.xe (.ref e) s
section
variable {P:ZL}{w:ZI}{K:Zj}{mg:Zg}{base:ZH}{N:Zl}{qual:Str}{scope:ZS}{f:ZB}{cdv:ZE}{A:ZP}{outer:List Env}{s:ZD}{H:Hp}{E:XK}
def Mb:FJ (il (qf P w) P w K mg base N qual scope f cdv A outer s H E) E:=by intro Zx Z H1 s1 e cls a0 fl fx B I hE cx hB hen hl ht k1 k2;show ZG _ _ (leaving _ _) _ _ _;split pS (fx:=fx) (jm _ _) cx ?_;unfold leaving;split aaa<|HP I.ok.frames hl rfl ht hB hen λh1 Zy=>?_;let⟨x1,x2,x3,x4⟩:=Zy;split wpAny_setFlight_noneW x1 x2 x3 λh2 y1 y2 y3 y4 cx2=>?_;let⟨_,_,y2⟩:=y2;show vL (X:=il (qf P w) P w K mg base N qual scope f cdv A outer s H E) (s:=s1) I rfl hE cx2 hB k1 k2 ⟨y1,hen,y2,y3⟩<|Heap.UpToSlots.trans x4 λb o q nf=>⟨o.slots,y4 b o q nf⟩
end
def XW(X:Cx)(N:Zl)(scope:ZS)(z:CxZ)(E:XK):Ze:=λv s'=>∃Zx Z H1 s1,Inv (iW X N scope z) Zx Z H1 s1/\qf X.p X.w X.t H1 s1 E v s'
section
variable {X:Cx}{Zx:Zf}{Z:St}{s:ZD}{N:Zl}{scope:ZS}
variable {E:XK}
def Ox(hL:FJ X E)(hex:X.ex=[])(hst:X.t=X.e::X.o)(hfr:X.e.frame=some X.e.locals):FX X N scope Zx Z (λz=>XW X N scope z E)<|CpX X:=by
 rintro z C D back hC nC v sn ⟨pl,Z1,H0,s0,I,e,cls,a0,fx,H',B,rfl,ho,hgn,un,hok,⟨hE,cx⟩,fl,k1,k2⟩;have fl:aiC B (X.e::X.o) e cls a0 sn.heap:=hst▸fl;let⟨m1,o1,K1,⟨oC,_,_,eC,_⟩,_⟩:=back _ _ _ _ I;have nfC:C∉pF X.t:=λhb=>(aau.1<|K1.stkSub _ hb).elim hC.2.1 nC;show ZG _ X.A (noteFrame (.ref e) X.e) _ _ _;split pS (fx:=fx) (ut _ _) cx ?_;split ajI (#v[K1.ok.frames,hst]) hfr fl λh4 held sm4 cx=>?_;have un:=vM un k2 I.nfS I.stkFree fl.1 held.1 sm4;have hok:=nb hok fl.1 held.1 k1;let⟨m,o,J1,nC,fC⟩:=back _ _ _ _<|I.call' (s':=(sn.wh h4)) ho un hok hgn (λb z=>by ext z);let⟨oB,eB⟩:=k2 _ oC eC nfC;have I1:Inv X Zx Z H0 s0:=K1.unpinned;split⟨m,nC,λh' sb cenv _=>?_⟩;rw[<-hst] at held;let⟨b1,b2,b3,b4⟩:=held;have none':∀b,B.get? b=none->(ag5 B [C]).get? b=none:=λb q=>by
  cases z:(ag5 B [C]).get? b with
  |none=>rfl
  |some o=>rw[adp _ z] at q;ext q
 have neC:∀b o,(ag5 B [C]).get? b=some o->b≠C:=λb o q z=>by rw[z,ajV [C]<|.head _] at q;ext q
 have get':∀b o,B.get? b=some o->b≠C->(ag5 B [C]).get? b=some o:=λb o q z=>adX [C] q λy=>z<|aaG.1 y;have keepC:∀b o,b≠C->h4.get? b=some o->h'.get? b=some o:=λb o hb q=>sb.extBut b o hb q;have c1:(ag5 B [C]).StaysIn h4:=λb o q=>b1 b o<|adp _ q;have c2:(ag5 B [C]).StaysIn h':=λb o q=>keepC b o (neC b o q)<|c1 b o q;have bne:∀b,B.get? b=none->b≠C:=λb q z=>by rw[z,eB] at q;ext q
 have tr:h'.TracedAtW (ag5 B [C]) e cls a0<|rawInt X.e.locals:=by let⟨oe,vs,T,oT,ts,he',hcls,hd,h1',hnT,hTe,hT,hdT,h3⟩:=b4;show⟨oe,vs,T,oT,ts,keepC e oe (bne e b2) he',hcls,hd,h1',none' T hnT,hTe,keepC T oT (bne T hnT) hT,hdT,h3⟩
 have fr:=j5 (C:=C) none' keepC nfC b3;have cx':fx=none->kS e h':=λz=>by let⟨o,vs,q1,q2⟩:=cx z;show⟨o,vs,keepC e o (bne e b2) q1,q2⟩
 split pS (fx:=fx) (s:=(sn.wh h')) (EB _ _ _) cx' ?_;split HY (s:=(sn.wh h')) c2 fr tr λh5 fl5 y1 y2 y3 y4 cx5=>?_;have kk1:∀b u,H' b=some u->∃o,(ag5 B [C]).get? b=some o:=λb u q=>by let⟨o,z⟩:=k1 b u q;show⟨o,get' b o z λy=>by rw[y,fC] at q;ext q⟩
 have hok5:HOk X.p X.w H' h5:=nb hok c1 y1 kk1;have un5:Un (pF X.t) [C] H0 H' s0.heap h5:=by
  have nn:∀b:ZB,b∉([]:Zk):=λb z=>by ext z
  split⟨λb o q n z y=>?_,λb o q n z y=>?_,λb o q n y=>un.free b o q n<|nn b,λb o q y=>?_,un.tups,un.frzs,un.tbls⟩
  .let⟨o',q1⟩:=k2 b o q z;have q2:=get' b o' q1 λyy=>y (by rw[yy];show .head _);have q3:=un.keep b o q n z<|nn b;rw[c1 b o' q2] at q3;ext q3;show y1 b _ q2
  .let⟨sl,q1⟩:=un.slot b o q n z<|nn b;have q2:=keepC b _ (λyy=>y<|by rw[yy];show .head _) q1;let⟨sl2,q3⟩:=y4 b _ q2<|I1.nfS b z o q;show⟨sl2,q3⟩
  .by_cases z:b∈pF X.t
   .let⟨sl,q1⟩:=un.slot b o q (I1.stkFree b z) z<|nn b;have q2:=keepC b _ (λyy=>y<|by rw[yy];show .head _) q1;let⟨sl2,q3⟩:=y4 b _ q2<|I1.nfS b z o q;show⟨_,q3⟩
   .let⟨o',q1⟩:=k2 b o q z;show⟨o',y1 b _<|get' b o' q1 λyy=>y<|by rw[yy];show .head _⟩
 have J5:Inv X Zx Z H'<|sn.wh h5:=I1.call' (s':=(sn.wh h5)) ho un5 hok5 hgn λb hb=>by rw[aaG.1 hb];show⟨.inr hC.1,hC.2⟩
 split hL Zx Z H' _ e cls a0 fl5 fx (ag5 B [C]) J5 hE cx5 y1 (none' e b2) y2 y3 kk1 λb o q z=>?_;let⟨o1,q1⟩:=I1.base.there b o q (by rw[hex];intro y;ext y);let⟨o2,q2⟩:=k2 b o1 q1<|I1.notStk q z;show⟨o2,get' b o2 q2 λy=>absurd (aaw q)<|by rw[y];show adE.2 hC.1⟩
end
def Wu(K:Zj)(n:Nat)(t:Fz):TG:=λv Z H Q=>∃a xs,v=.ref a/\SqL K H a xs/\xs.length=n/\t xs Z H Q
def SL{X:Cx}{pos:Pos}{es:List ZA}{k:Nat} {n:Nat}(hc:X.c=true)(h:Vo X es t)
  (hn:(ag0 es X.e).length=n:=by rfl) (hst:(ag0 es X.e).findIdx? (·.1)=none:=by rfl):PG X (.Tuple es k pos)<|Wu X.K n t:=by
 intro Zx s Z H v u Q I r hw;let⟨a,xs,e1,hq,hl,hw⟩:=hw;subst e1;ext r;let⟨its,rv,ht,hz⟩:=I.list hq;rw[assign_Tuple];split aaa<|adr ?_;unfold unpack;rw[hst,hn,<-hl,rv.length,show its.length=its.toArray.size by simp];split aaa<|abc<|W.kun_itemsOf (I.ok.hd hc) ht.isList λh' hx=>?_;have I1:Inv X Zx Z H<|s.wh h':=I.kept (t':=s.toks) λb o e=>hx b o (aaC<|aaw e) e;show h Zx _ Z H xs _ Q I1 (~~~rv) hw
def tEi(t u:TE):TE:=λZ H Q=>t Z H Q\/u Z H Q
def Fm(t u:TS):TS:=λD Z H=>t D Z H\/u D Z H
section
variable {X:Cx}
def Ii(h:PE X e t)(k:PE X e u):PE X e<|tEi t u:=λZx s Z H Q I q=>q.elim (h Zx s Z H Q I)<|k Zx s Z H Q I
def IB{st:ZM}{t u:TS}(h:PS X st t)(k:PS X st u):PS X st<|Fm t u:=λZx s Z H D I q=>q.elim (h Zx s Z H D I)<|k Zx s Z H D I
end
def Bm{us:Zh}{n:Nat}(h:us.length=n+1):∃a v,us=a::v/\v.length=n:=by
 cases us with
 |nil=>ext h
 |cons a v=>show⟨a,v,rfl,adg h⟩
def us1{us:Zh}(h:us.length=1):∃a0,us=[a0]:=by
 let⟨a0,v0,rfl,h0⟩:=Bm h;cases v0 with
 |nil=>show⟨a0,rfl⟩
 |cons a v=>ext h0
def us2{us:Zh}(h:us.length=2):∃a0 a1,us=[a0,a1]:=by
 let⟨a0,v0,rfl,h0⟩:=Bm h;let⟨a1,v1,rfl,h1⟩:=Bm h0;cases v1 with
 |nil=>show⟨a0,a1,rfl⟩
 |cons a v=>ext h1
def us3{us:Zh}(h:us.length=3):∃a0 a1 a2,us=[a0,a1,a2]:=by
 let⟨a0,v0,rfl,h0⟩:=Bm h;let⟨a1,v1,rfl,h1⟩:=Bm h0;let⟨a2,v2,rfl,h2⟩:=Bm h1;cases v2 with
 |nil=>show⟨a0,a1,a2,rfl⟩
 |cons a v=>ext h2
def us4{us:Zh}(h:us.length=4):∃a0 a1 a2 a3,us=[a0,a1,a2,a3]:=by
 let⟨a0,v0,rfl,h0⟩:=Bm h;let⟨a1,v1,rfl,h1⟩:=Bm h0;let⟨a2,v2,rfl,h2⟩:=Bm h1;let⟨a3,v3,rfl,h3⟩:=Bm h2;cases v3 with
 |nil=>show⟨a0,a1,a2,a3,rfl⟩
 |cons a v=>ext h3
def us5{us:Zh}(h:us.length=5):∃a0 a1 a2 a3 a4,us=[a0,a1,a2,a3,a4]:=by
 let⟨a0,v0,rfl,h0⟩:=Bm h;let⟨a1,v1,rfl,h1⟩:=Bm h0;let⟨a2,v2,rfl,h2⟩:=Bm h1;let⟨a3,v3,rfl,h3⟩:=Bm h2;let⟨a4,v4,rfl,h4⟩:=Bm h3;cases v4 with
 |nil=>show⟨a0,a1,a2,a3,a4,rfl⟩
 |cons a v=>ext h4
def cg{K:Zj}{P:ZB->Prop}:kR K [] P:=λ_ h=>by ext h
def bB{K:Zj}{P:ZB->Prop}{N:Str}{Ns:Zl}{c:ZB}(h:agA K ZK N=some (some<|.ref c))(p:P c)(r:kR K Ns P):kR K (N::Ns) P:=λM hM C hC=>by
 rcases aau.1 hM with rfl|hM
 .rw[h] at hC;ext hC;show p
 .exact r M hM C hC
section
variable {G:Type}[DecidableEq G]
def fe(kvs:List<|G×V)(k:G):Option V:=(kvs.find? λkv=>decide (kv.1=k)).map (·.2)
def eJ(kvs:List<|G×V)(k:G)(v:V):List<|G×V:=
 if (kvs.any λkv=>decide (kv.1=k))=true then kvs.map (λkv=>if kv.1=k then (kv.1,v) else kv) else kvs++[(k,v)]
def qL(kvs:List<|G×V)(k:G):List<|G×V:=kvs.filter λkv=>decide (kv.1≠k)
def ku{p:G×V}{r:List<|G×V}{k:G}(e:p.1=k):fe (p::r) k=some p.2:=by simp[fe,abt,e]
def iV{p:G×V}{r:List<|G×V}{k:G}(e:¬p.1=k):fe (p::r) k=fe r k:=by simp[fe,abt,e]
theorem nO(k:G):∀kvs:List<|G×V,(kvs.any λkv=>decide (kv.1=k))=(fe kvs k).isSome
 |[]=>rfl
 |p::r=>by
  rw[ac8];by_cases e:p.1=k
  .simp only[ku e,aaz e,Bool.true_or,afQ]
  .rw[iV e,aaA e,aeX];show nO k r
def fJ(kvs:List<|G×V)(k:G)(v:V):(eJ kvs k v).length<=kvs.length+1:=by
 unfold eJ;split
 .rw[aar];lia
 .rw[aat,aay,abP];lia
def sf{kvs:List<|G×V} (v:V)(h:fe kvs k=none):eJ kvs k v=kvs++[(k,v)]:=by unfold eJ;rw[nO,h];show aad ⋯
def RelO.isSome_eq(r:RelO o u):o.isSome=u.isSome:=by
 cases o with
 |none=>cases u with
  |none=>rfl
  |some _=>show (show False from r).elim
 |some _=>cases u with
  |none=>show (show False from r).elim
  |some _=>rfl
def RelO.getD(r:RelO o u)(rd:RelV d d'):RelV (o.getD d)<|u.getD d':=by
 cases o with
 |none=>cases u with
  |none=>show rd
  |some _=>show (show False from r).elim
 |some _=>cases u with
  |none=>show (show False from r).elim
  |some _=>show r
def KV.val{kvs:List<|G×V} (r:KV kvs vs)(k:G):RelO (fe kvs k)<|valueAt vs k:=by
 unfold KV at r;induction r with
 |nil=>show agW
 | @cons p q ps qs h t ih=>
  let⟨h1,h2⟩:=h;by_cases e:p.1=k
  .have e':q.1=k:=h1.symm.trans e;have b:ahw (q::qs) k=some q.2:=by simp[ahw,abt,e']
   rw[ku e,b];show h2
  .have e':¬q.1=k:=λz=>e<|h1.trans z;have b:ahw (q::qs) k=ahw qs k:=by simp[ahw,abt,e']
   rw[iV e,b];show ih
def KV.any{kvs:List<|G×V} (r:KV kvs vs)(k:G):(kvs.any λkv=>decide (kv.1=k))=vs.any λkv=>decide (kv.1=k):=by
 unfold KV at r;induction r with
 |nil=>rfl
 |cons h t ih=>rw[ac8,ac8,ih,h.1]
def KV.repl{kvs:List<|G×V} (r:KV kvs vs)(k:G) (ry:RelV y u) :
  KV (kvs.map λkv=>if kv.1=k then (kv.1,y) else kv) (vs.map λkv=>if kv.1=k then (kv.1,u) else kv):=by
 unfold KV at r ⊢;induction r with
 |nil=>show .nil
 | @cons p q ps qs h t ih=>
  rw[aax,aax];split .cons ?_ ih;let⟨h1,h2⟩:=h;by_cases e:p.1=k
  .rw[aac e,aac<|h1.symm.trans e];show⟨h1,ry⟩
  .rw[aad e,aad<|λz=>e<|h1.trans z];show⟨h1,h2⟩
def KV.put{kvs:List<|G×V} (r:KV kvs vs)(k:G) (ry:RelV y u):KV (eJ kvs k y)<|stored vs k u:=by
 unfold eJ stored;rw[r.any k];by_cases e:(vs.any λkv=>decide (kv.1=k))=true
 .rw[aac e,aac e];show r.repl k ry
 .rw[aad e,aad e];show ajr r ⟨rfl,ry⟩
def KV.drop{kvs:List<|G×V} (r:KV kvs vs)(k:G):KV (qL kvs k)<|without vs k:=by
 unfold KV at r ⊢;unfold qL without;induction r with
 |nil=>show .nil
 | @cons p q ps qs h t ih=>
  let⟨h1,h2⟩:=h;rw[adG,adG];by_cases e:p.1=k
  .have a:¬decide (p.1≠k)=true:=by simp[e]
   have b:¬decide (q.1≠k)=true:=by simp[h1.symm.trans e]
   rw[aad a,aad b];show ih
  .have e':¬q.1=k:=λz=>e<|h1.trans z;have a:decide (p.1≠k)=true:=by simp[e]
   have b:decide (q.1≠k)=true:=by simp[e']
   rw[aac a,aac b];show .cons ⟨h1,h2⟩ ih
def KV.length{kvs:List<|G×V} (r:KV kvs vs):kvs.length=vs.length:=acY r
def GF(kvs:List<|G×V)(k:G):(qL kvs k).length<=kvs.length:=List.length_filter_le _ _
end
def jy(r:RelV (kV k) u):(aI P w).is k u=true:=by
 cases k with
 |inl i=>let⟨t,e⟩:=(show ∃t,u=ahC i t from r);subst e;show yl P w i t
 |inr x=>let⟨t,e⟩:=(show ∃t,u=ag2 x t from r);subst e;show ym P w x t
theorem uc:∀ {ks:List bH} {us:Zh},Vals (ks.map kV) us->ItemsAre (aI P w) ks us
 |[],_,r=>by rw[abq] at r;ext r;show .nil
 |k::ks,_,r=>by
  rw[aax] at r;cases r with
  |cons h t=>show .cons (jy h)<|uc t
abbrev KT(H:Hp):List (List bH×V)->List (List bH×ZB×ZE)->Prop:=aho λp q=>p.1=q.1/\H q.2.1=some (.T<|p.1.map kV)/\RelV p.2 q.2.2
def KT.val{kvs:List<|List bH×V}{xs:List<|List bH×ZB×ZE}(r:KT H kvs xs)(k:List bH):RelO (fe kvs k)<|(ahj xs k).map (·.2):=by
 induction r with
 |nil=>show agW
 | @cons p q ps qs h t ih=>
  let⟨h1,_,h2⟩:=h;by_cases e:p.1=k
  .have e':q.1=k:=h1.symm.trans e;have b:ahj (q::qs) k=some q.2:=by simp[ahj,abt,e']
   rw[ku e,b];show h2
  .have e':¬q.1=k:=λz=>e<|h1.trans z;have b:ahj (q::qs) k=ahj qs k:=by simp[ahj,abt,e']
   rw[iV e,b];show ih
def KT.repl{kvs:List<|List bH×V}{xs:List<|List bH×ZB×ZE}(r:KT H kvs xs)(k:List bH) (ry:RelV y u) :
  KT H (kvs.map λkv=>if kv.1=k then (kv.1,y) else kv) (xs.map<|putAt k u):=by
 induction r with
 |nil=>show .nil
 | @cons p q ps qs h t ih=>
  rw[aax,aax];split .cons ?_ ih;let⟨h1,h2,h3⟩:=h;unfold putAt;by_cases e:p.1=k
  .rw[aac e,aac<|h1.symm.trans e];show⟨h1,h2,ry⟩
  .rw[aad e,aad<|λz=>e<|h1.trans z];show⟨h1,h2,h3⟩
def KT.put{kvs:List<|List bH×V}{xs:List<|List bH×ZB×ZE}(r:KT H kvs xs)(k:List bH){b:ZB} (hb:H b=some (.T<|k.map kV))(ry:RelV y u) :
  KT H (eJ kvs k y) (storedH xs k b u):=by
 have e:(kvs.any λkv=>decide (kv.1=k))=(ahj xs k).isSome:=by rw[nO,(r.val k).isSome_eq,aeY]
 unfold eJ storedH;rw[e];by_cases q:(ahj xs k).isSome=true
 .rw[aac q,aac q];show r.repl k ry
 .rw[aad q,aad q];show ajr r ⟨rfl,hb,ry⟩
def KT.keeps{H':Hp}{kvs:List<|List bH×V}{xs:List<|List bH×ZB×ZE}(r:KT H kvs xs)(ht:∀b ys,H b=some (.T ys)->H' b=some (.T ys)):KT H' kvs xs:=
 Paired.mapP r λ_ _ z=>⟨z.1,ht _ _ z.2.1,z.2.2⟩
section
variable {P:ZL}{w:ZI}{H:Hp}{h:ZH}{a:ZB}
def Pw(ok:HOk P w H h)(e:Rd H a u):ObjOk P w H h a u:=e.ok ok
def mU{kvs:List<|bH×V}(ok:HOk P w H h)(e:Rd H a<|.dK kvs):kvs.length<=ZF/\(a==agF)=false/\∃vs,KV kvs vs/\h.DictOf (aI P w) a vs:=
 show ObjOk P w H h a (.dK kvs) from Pw ok e
def xP{kvs:List<|bH×V}(ok:HOk P w H h)(e:H a=some (.dK kvs)):kvs.length<=ZF/\(a==agF)=false/\∃vs,KV kvs vs/\h.DictOf (aI P w) a vs:=mU ok<|.inl e
def lW{ks:List bH}(ok:HOk P w H h)(e:H a=some (.T<|ks.map kV)):(agR<|aI P w).is h ks a:=by
 let⟨_,its,r,o,h1,h2,n,h3,_⟩:=(show ObjOk P w H h a (.T<|ks.map kV) from ok a _ e)
 show⟨o,its.toArray,n,h1,h2,h3,~~~uc r⟩
def qN{kvs:List<|List bH×V}(ok:HOk P w H h)(e:Rd H a<|.dT kvs):kvs.length<=ZF/\(a==agF)=false /\
  ∃xs,KT H kvs xs/\h.DictOfH (agR<|aI P w) a xs:=by
 let⟨z,y,xs,r,o,es,ep,h1,h2,h3,h4,h5⟩:=(show ObjOk P w H h a (.dT kvs) from Pw ok e)
 split⟨z,y,xs,r,o,es,ep,h1,h2,h3,h4,λx hx=>?_,h5⟩;have all:∀ {l:List<|List bH×V} {m:List<|List bH×ZB×ZE},KT H l m->∀x∈m,(agR<|aI P w).is h x.1 x.2.1:=by
  intro l m q;induction q with
  |nil=>intro x hx;show nomatch hx
  | @cons p q ps qs hq t ih=>
   intro x hx;rcases aau.1 hx with e|hx
   .subst e;show lW ok (by rw[<-hq.1];show hq.2.1)
   .exact ih x hx
 show all r x hx
def GH{kvs:List<|List bH×V}(ok:HOk P w H h)(e:H a=some (.dT kvs)):kvs.length<=ZF/\(a==agF)=false /\
  ∃xs,KT H kvs xs/\h.DictOfH (agR<|aI P w) a xs:=qN ok<|.inl e
end
def DGet(H:Hp)(a:ZB)(y:V)(r:Option V):Prop:=
 (∃kvs k,Rd H a (.dK kvs)/\y=kV k/\r=fe kvs k)\/∃kvs k b,Rd H a (.dT kvs)/\y=.ref b/\H b=some (.T<|k.map kV)/\r=fe kvs k
def DPut(H:Hp)(a:ZB)(y v:V)(H':Hp):Prop:=
 (∃kvs k,H a=some (.dK kvs)/\y=kV k/\kvs.length<ZF/\H'=upd H a (.dK<|eJ kvs k v)) \/
 ∃kvs k b,H a=some (.dT kvs)/\y=.ref b/\H b=some (.T<|k.map kV)/\kvs.length<ZF/\H'=upd H a (.dT<|eJ kvs k v)
def DGet.k{H:Hp}{a:ZB}{kvs:List<|bH×V}{k:bH}(e:H a=some (.dK kvs)):DGet H a (kV k)<|fe kvs k:=.inl ⟨kvs,k,.inl e,rfl,rfl⟩
def DPut.k{H:Hp}{a:ZB}{kvs:List<|bH×V}{k:bH}{v:V}(e:H a=some (.dK kvs))(hl:kvs.length<ZF):DPut H a (kV k) v<|upd H a (.dK<|eJ kvs k v):=.inl ⟨kvs,k,e,rfl,hl,rfl⟩
section
variable {X:Cx}{Zx:Zf}{Z:St}{H:Hp}{s:ZD}{a:ZB}{y v:V}{u r:ZE}{o:Option V}{A:ZP}{E:Ze}
def Inv.big(I:Inv X Zx Z H s):agF<s.heap.objs.size:=by have h:ZK<s.heap.objs.size:=(I.mod.glob.keeps I.bk).lt;show Nat.lt_trans ⋯ h
def DU{Q:Ze}(hu:A.units+1<agC)(I:Inv X Zx Z H s)(g:DGet H a y<|some v)(ry:RelV y u)(h:∀w' s',Inv X Zx Z H s'->RelV v w'->Q w' s') :
  ZG (ZJ X.p X.w) A (ahd (.ref a) u) Q E s:=by
 rcases g with ⟨kvs,k,e,ey,l⟩|⟨kvs,k,b,e,ey,eb,l⟩
 .subst ey;let⟨z,hd,vs,rel,dd⟩:=mU I.hok e;let⟨w',hw,rw'⟩:=RelO.some_of (v:=v) (o:=ahw vs k) (by rw[l];show rel.val k);show akl (jy ry) dd.mapOf hw<|h w' _ (I.tok _) rw'
 .subst ey;cases (show u=ZO b from ry);let⟨z,hd,xs,rel,dd⟩:=qN I.hok e;let⟨w',hw,rw'⟩:=RelO.some_of (v:=v) (o:=(ahj xs k).map (·.2)) (by rw[l];show rel.val k);let⟨p,hp,hp2⟩:=aaQ.1 hw;split wpAny_getItem_heap (acU hu) (lW I.hok eb) dd hp ?_;rw[hp2];show h w' _ (I.tok _) rw'
def aa8{Q:Ze}(hu:A.units+1<agC)(I:Inv X Zx Z H s)(g:DGet H a y o)(ry:RelV y u)(h:∀s',Inv X Zx Z H s'->Q (.bool o.isSome) s') :
  ZG (ZJ X.p X.w) A (agH .In u<|.ref a) Q E s:=by
 rcases g with ⟨kvs,k,e,ey,l⟩|⟨kvs,k,b,e,ey,eb,l⟩
 .subst ey;let⟨z,hd,vs,rel,dd⟩:=mU I.hok e;split wpAny_in_of (jy ry) hd dd.mapOf ?_;rw[<-(rel.val k).isSome_eq,<-l];show h _<|I.tok _
 .subst ey;cases (show u=ZO b from ry);let⟨z,hd,xs,rel,dd⟩:=qN I.hok e;split wpAny_in_heap (acU hu) (lW I.hok eb) hd dd ?_;have q:=(rel.val k).isSome_eq;rw[aeY] at q;rw[<-q,<-l];show h _<|I.tok _
def Lc{Q:Ze}(hu:A.units+1<agC)(I:Inv X Zx Z H s)(g:DGet H a y o)(ry:RelV y u)(h:∀s',Inv X Zx Z H s'->Q (.bool<|!o.isSome) s') :
  ZG (ZJ X.p X.w) A (agH .NotIn u<|.ref a) Q E s:=by
 rcases g with ⟨kvs,k,e,ey,l⟩|⟨kvs,k,b,e,ey,eb,l⟩
 .subst ey;let⟨z,hd,vs,rel,dd⟩:=mU I.hok e;split wpAny_notIn_of (jy ry) hd dd.mapOf ?_;rw[<-(rel.val k).isSome_eq,<-l];show h _<|I.tok _
 .subst ey;cases (show u=ZO b from ry);let⟨z,hd,xs,rel,dd⟩:=qN I.hok e;split wpAny_notIn_heap (acU hu) (lW I.hok eb) hd dd ?_;have q:=(rel.val k).isSome_eq;rw[aeY] at q;rw[<-q,<-l];show h _<|I.tok _
def i7{h':ZH}{t':Nat} (I:Inv X Zx Z H s)(mu:VC<|H a)(hs:ahA a s.heap h')(he:∃q,h'.get? a=some q)(new:ObjOk X.p X.w (upd H a ob) h' a ob) :
  Inv X Zx Z (upd H a ob) { s with heap:=h',toks:=t' }:=
 I.write (x:=a) (e:=a) mu (.inl rfl) (λb q hb z=>(hs.2 b hb).trans z) he new
def vw{H':Hp}{h':ZH}{kvs:List<|bH×V} (z:kvs.length<=ZF)(hd:(a==agF)=false)(rel:KV kvs vs)(dd:h'.DictOf (aI P w) a vs) :
  ObjOk P w H' h' a (.dK kvs):=⟨z,hd,vs,rel,dd⟩
def DV{H':Hp}{Q:Unit->ZD->Prop}(hu:A.units+1<agC)(I:Inv X Zx Z H s)(g:DPut H a y v H')(ry:RelV y u)(rv:RelV v r)(h:∀s',Inv X Zx Z H' s'->Q Unit.unit s') :
  ZG (ZJ X.p X.w) A (ait (.ref a) u r) Q E s:=by
 rcases g with ⟨kvs,k,e,ey,l,eH⟩|⟨kvs,k,b,e,ey,eb,l,eH⟩
 .subst ey eH;let⟨z,hd,vs,rel,dd⟩:=xP I.hok e;have hz:vs.length<=ZF:=by rw[<-rel.length];show z
  have hl:(eJ kvs k v).length<=ZF:=by have:=fJ kvs k v;lia
  split wpAny_setItem_pairs (hsz:=hz) (jy ry) dd λh' dd' hs=>h _ ?_;have he:∃q,h'.get? a=some q:=let ⟨q,_,_,hq,_⟩:=dd';⟨q,hq⟩
  show i7 I (by rw[e];show agW) hs he<|vw hl hd (rel.put k rv) dd'
 .subst ey eH;cases (show u=ZO b from ry);let⟨z,hd,xs,rel,dd⟩:=GH I.hok e;have hz:xs.length<=ZF:=by rw[<-acY rel];show z
  have hl:(eJ kvs k v).length<=ZF:=by have:=fJ kvs k v;lia
  split wpAny_setItem_heap (hsz:=hz) (acU hu) (lW I.hok eb) dd λh' dd' hs=>h _ ?_;let⟨q,es,ep,hq,h2,h3,h4,_,h5⟩:=dd';split i7 I (by rw[e];show agW) hs ⟨q,hq⟩ ⟨hl,hd,_,(rel.put k eb rv).keeps λc ys ec=>?_,q,es,ep,hq,h2,h3,h4,h5⟩;rw[aR<|yn ec e<|λz=>nomatch z];show ec
end
section
variable {X:Cx}{Zx:Zf}{Z:St}{H:Hp}{s:ZD}{a:ZB}{kvs:List<|bH×V}{k:bH}{u:ZE}{A:ZP}{E:Ze}
def VZ{v:V}{more:Zh}{Q:Ze}(I:Inv X Zx Z H s)(e:H a=some (.dK kvs))(ry:RelV (kV k) u)(l:fe kvs k=some v)(hm:more=[]\/∃x,more=[x])
  (h:∀w' s',Inv X Zx Z (upd H a<|.dK<|qL kvs k) s'->RelV v w'->Q w' s'):ZG (ZJ X.p X.w) A (call (.builtin "dict.pop") (.ref a::u::more)) Q E s:=by
 let⟨z,hd,vs,rel,dd⟩:=xP I.hok e;let⟨w',hw,rw'⟩:=RelO.some_of (v:=v) (o:=ahw vs k) (by rw[<-l];show rel.val k);have hp:(keyPart u).isSome=true:=by
  cases k with
  |inl i=>let⟨t,q⟩:=(show ∃t,u=ahC i t from ry);subst q;rfl
  |inr x=>let⟨t,q⟩:=(show ∃t,u=ag2 x t from ry);subst q;rfl
 have ha:ahN "dict.pop" ⟨.ref a::u::more,[]⟩:=by
  rcases hm with q|⟨x,q⟩
  .subst q;show PySem.F.args_dict_pop_2 _ _
  .subst q;show PySem.F.args_dict_pop_3 _ _ _
 split aeZ afT dd.typeIs PySem.F.entry_dict_pop ha (meets_dict_pop_there (aI X.p X.w) a (jy ry) more hm hp)
  ⟨vs,w',dd,by rw[<-rel.length];show z,hw,λh' dd' hs=>h w' _ ?_ rw'⟩
 have he:∃q,h'.get? a=some q:=let ⟨q,_,_,hq,_⟩:=dd';⟨q,hq⟩
 show i7 I (by rw[e];show agW) hs he<|vw (aaN (GF kvs k) z) hd (rel.drop k) dd'
def VY{Q:Ze}(I:Inv X Zx Z H s)(e:Rd H a<|.dK kvs)(h:∀t s',Inv X Zx Z H s'->Q (.int kvs.length t) s'):ZG (ZJ X.p X.w) A (call (.builtin "len") [.ref a]) Q E s:=by let⟨z,hd,vs,rel,dd⟩:=mU I.hok e;split call_len_dict hd dd (by rw[<-rel.length];rw[aaS] at z;lia) ?_;rw[<-rel.length];show h _ _<|I.tok _
end
def KN(i:ZA):Prop:=∀ov iv,aiJ i false ov iv=operate [ov,iv] (ahd ov iv)
def Df{prog:ZL} {E:Ze} {value:ZA}{pos:Pos}{T id:String}{Q:Ze}
  (hl:ahm (.type T) "__getitem__"=pure (some<|.builtin id)) (hs:KN slice)
  (h:ZG (ZJ prog w) A (ZN value env) (λo s₁=>ZG (ZJ prog w) A (ZN slice env) (λi s₂=>s₂.TypeIs o T/\ZG (ZJ prog w) A (ahd o i) Q E s₂) E s₁) E s) :
  ZG (ZJ prog w) A (ZN (.Subscript value slice pos) env) Q E s:=by
 split aeM<|aaO h (λo s₁ h₁=>aaO h₁ (λi s₂ h₂=>?_) λ_ _ x=>x) λ_ _ x=>x;let⟨hT,h₂⟩:=h₂;unfold aja;split aaa ?_;rw[getitemInPython_of_ne hT.not_modules];split aaa<|adb hT hl ?_;have fin:ZG (ZJ prog w) A (aiJ slice false o i) (λr s₃=>ZG (ZJ prog w) A (letTemporaryGo value o r >>= λ_=>pure r) Q E s₃) E s₂:=by rw[hs o i];show wpAny_operating<|aaO h₂ (λr s₃ h₃=>aaa<|wpAny_letTemporaryGo<|aal h₃) λ_ _ x=>x
 first
  |show aal (aaa fin)
  |show aaa (aal (aaa fin))
  |show aaa fin
def xO{Zx:Zf} (I:Inv X Zx Z H s)(g:DGet H a y o):s.TypeIs (.ref a) "dict" := by
 rcases g with ⟨kvs,k,e,_,_⟩|⟨kvs,k,b,e,_,_,_⟩
 .let⟨_,_,vs,_,dd⟩:=mU I.hok e;show dd.typeIs
 .let⟨_,_,xs,_,dd⟩:=qN I.hok e;show dd.typeIs
def PM(td ty:TE):TE:=λZ H Q=>td Z H λx H1=>ty Z H1 λy H2=>∃a v,x=.ref a/\DGet H2 a y (some v)/\Q v H2
def YV(ty td:TE):TE:=λZ H Q=>ty Z H λy H1=>td Z H1 λx H2=>∃a o,x=.ref a/\DGet H2 a y o/\Q (.B o.isSome) H2
def Dh(ty td:TE):TE:=λZ H Q=>ty Z H λy H1=>td Z H1 λx H2=>∃a o,x=.ref a/\DGet H2 a y o/\Q (.B<|!o.isSome) H2
def Py(td ty tv:TE):TS:=λD Z H=>tv Z H λv H1=>td Z H1 λx H2=>ty Z H2 λy H3=>∃a H4,x=.ref a/\DPut H3 a y v H4/\D.nx Z H4
section
variable {X:Cx}{o i value:ZA}{pos pos':Pos}{td ty tv:TE}
def MH(hu:X.A.units+1<agC)(ho:PE X o td)(hi:PE X i ty)(hs:KN i):PE X (.Subscript o i pos)<|PM td ty:=by intro Zx s Z H Q I h;split Df afU.lookup hs<|bz (ho Zx s Z H _ I h) λu s1 ⟨x,H1,I1,rx,q1⟩=>bz (hi Zx s1 Z H1 _ I1 q1) λiv s2 Zy=>?_;let⟨y,H2,I2,ry,a,v,ex,g,q2⟩:=Zy;subst ex;obtain rfl:u=ZO a:=rx;show⟨xO I2 g,DU hu I2 g ry λw' s3 I3 rw'=>⟨v,H2,I3,rw',q2⟩⟩
def Sw(hu:X.A.units+1<agC)(hi:PE X i ty)(ho:PE X o td):PC X .In i o<|YV ty td:=by intro Zx s Z H Q I h;split bz (hi Zx s Z H _ I h) λiv s1 ⟨y,H1,I1,ry,q1⟩=>bz (ho Zx s1 Z H1 _ I1 q1) λu s2 Zy=>?_;let⟨x,H2,I2,rx,a,ov,ex,g,q2⟩:=Zy;subst ex;obtain rfl:u=ZO a:=rx;show aa8 hu I2 g ry λs3 I3=>⟨.B ov.isSome,H2,I3,rfl,q2⟩
def ES(hu:X.A.units+1<agC)(hi:PE X i ty)(ho:PE X o td):PC X .NotIn i o<|Dh ty td:=by intro Zx s Z H Q I h;split bz (hi Zx s Z H _ I h) λiv s1 ⟨y,H1,I1,ry,q1⟩=>bz (ho Zx s1 Z H1 _ I1 q1) λu s2 Zy=>?_;let⟨x,H2,I2,rx,a,ov,ex,g,q2⟩:=Zy;subst ex;obtain rfl:u=ZO a:=rx;show Lc hu I2 g ry λs3 I3=>⟨.B<|!ov.isSome,H2,I3,rfl,q2⟩
def MU(hu:X.A.units+1<agC)(ho:PE X o td)(hi:PE X i ty)(hv:PE X value tv)(hs:ahM value (some<|.Subscript o i pos') pos.line X.e=pure false) :
  PS X (.Assign [.Subscript o i pos'] value pos) (Py td ty tv):=by
 intro Zx s Z H D I h;split wpAny_Assign_Subscript (bz (hv Zx s Z H _ I h) λr s1 ⟨v,H1,I1,rv,q1⟩=>bz (ho Zx s1 Z H1 _ I1 q1) λu s2 ⟨x,H2,I2,rx,q2⟩=>bz (hi Zx s2 Z H2 _ I2 q2) λiv s3 Zy=>?_) hs;let⟨y,H3,I3,ry,a,H4,ex,g,q3⟩:=Zy;subst ex;obtain rfl:u=ZO a:=rx;show DV hu I3 g ry rv λs4 I4=>⟨Z,H4,I4,q3⟩
end
def qK(h:ZH)(hb:agF<h.objs.size):ObjOk P w H (h.push { cls:=.type "dict",data:=.dict #[] }) h.objs.size<|.dK []:=
 ⟨aaL _,acy.2<|aaI<|aaC hb,[],.nil,Heap.DictOf.new h⟩
def qM(h:ZH)(hb:agF<h.objs.size):ObjOk P w H (h.push { cls:=.type "dict",data:=.dict #[] }) h.objs.size<|.dT []:=
 ⟨aaL _,acy.2<|aaI<|aaC hb,[],.nil,_,#[],0,aaB _ rfl,⟨rfl,rfl,rfl⟩,rfl,rfl,List.nodup_nil⟩
def JD:TE:=λ_ H Q=>∀p,H p=none->Q (.ref p) (upd H p<|.dK [])
def JE:TE:=λ_ H Q=>∀p,H p=none->Q (.ref p) (upd H p<|.dT [])
section
variable {X:Cx}{pos:Pos}
def Ie:PE X (.Dict [] [] pos) JD:=λZx s Z H Q I h=>
 aj1 ⟨.ref s.heap.objs.size,_,I.laid (a:=s.heap.objs.size) (o:=.dK []) (t':=s.toks) (λ_ _ q=>aas _ q) (aaq _)<|qK s.heap I.big,rfl,h _<|I.hok.fresh<|aaq _⟩
def Ig:PE X (.Dict [] [] pos) JE:=λZx s Z H Q I h=>
 aj1 ⟨.ref s.heap.objs.size,_,I.laid (a:=s.heap.objs.size) (o:=.dT []) (t':=s.toks) (λ_ _ q=>aas _ q) (aaq _)<|qM s.heap I.big,rfl,h _<|I.hok.fresh<|aaq _⟩
end
def sC:List (TE×TE)->St->Hp->(List (V×V)->Hp->Prop)->Prop
 |[],_,H,Q=>Q [] H
 | (tk,tv)::r,Z,H,Q=>tk Z H λx H1=>tv Z H1 λy H2=>sC r Z H2 λps H3=>Q ((x,y)::ps) H3
abbrev VV:List (V×V)->List (ZE×ZE)->Prop:=aho λp q=>RelV p.1 q.1/\RelV p.2 q.2
def VE(X:Cx)(pos:Pos)(keys:List<|Option ZA)(values:List ZA)(trs:List<|TE×TE):Prop:=
 ∀(Zx:Zf) (s:ZD) (Z:St) (H:Hp) (Q:List (V×V)->Hp->Prop),Inv X Zx Z H s->sC trs Z H Q ->
  wX X (evalPairs<|pairTrees keys values X.e pos) (λvs s'=>∃ps H',Inv X Zx Z H' s'/\VV ps vs/\Q ps H') X.xe s
def CD{pos:Pos}:VE X pos [] [] []:=λZx s Z H Q I h=>pairTrees_nil_walk ⟨[],H,I,.nil,h⟩
def yz{pos:Pos} {ks:List<|Option ZA} {tv:TE} (hk:PE X k tk)(hv:PE X v tv)(hr:VE X pos ks vs trs) :
  VE X pos (some k::ks) (v::vs) ((tk,tv)::trs):=λZx s Z H Q I h=>
 pairTrees_cons_walk (bz (hk Zx s Z H _ I h) λu s1 ⟨x,H1,I1,rx,q1⟩=>bz (hv Zx s1 Z H1 _ I1 q1) λw2 s2 ⟨y,H2,I2,ry,q2⟩=>
  bz (hr Zx s2 Z H2 _ I2 q2) λws s3 ⟨ps,H3,I3,rel,q3⟩=>⟨(x,y)::ps,H3,I3,.cons ⟨rx,ry⟩ rel,q3⟩)
def jl(kvs more:List<|bH×V):List<|bH×V:=more.foldl (λacc kv=>eJ acc kv.1 kv.2) kvs
def KV.merge:∀ {more:List<|bH×V} {rs:List<|bH×ZE} {kvs:List<|bH×V} {vs:List<|bH×ZE},KV more rs->KV kvs vs->KV (jl kvs more) (merged vs rs):=by
 intro more rs kvs vs r;unfold KV at r;induction r generalizing kvs vs with
 |nil=>intro q;show q
 | @cons p q ps qs h t ih=>
  intro r0;have e:KV (eJ kvs p.1 p.2)<|stored vs q.1 q.2:=by have:=r0.put p.1 h.2;rw[<-h.1];show this
  show ih e
theorem ir:∀(more kvs:List<|bH×V),(jl kvs more).length<=kvs.length+more.length
 |[],kvs=>by show kvs.length<=kvs.length+0;lia
 |p::r,kvs=>by have h1:=ir r<|eJ kvs p.1 p.2;have h2:=fJ kvs p.1 p.2;show (jl (eJ kvs p.1 p.2) r).length<=_;rw[aay];lia
theorem qB:∀ {kvs:List<|bH×V} {ws:List<|Value×ZE},VV (kvs.map λkv=>(kV kv.1,kv.2)) ws->∃rs,Carries (aI P w) ws rs/\KV kvs rs
 |[],_,r=>by rw[abq] at r;ext r;show⟨[],agW,.nil⟩
 |p::kvs,_,r=>by
  rw[aax] at r;cases r with
  | @cons a b as bs h t=>let⟨rs,c,q⟩:=qB (P:=P) (w:=w) t;let⟨b1,b2⟩:=b;show⟨(p.1,b2)::rs,⟨jy h.1,rfl,c⟩,.cons ⟨rfl,h.2⟩ q⟩
def PN(trs:List<|TE×TE):TE:=λZ H Q=>∀p,H p=none->sC trs Z (upd H p<|.dK []) λps H2=>H2 p=some (.dK [])/\∃kvs:List<|bH×V,ps=kvs.map (λkv=>(kV kv.1,kv.2))/\kvs.length<=15/\Q (.ref p) (upd H2 p<|.dK<|jl [] kvs)
def MI{pos:Pos} (h:VE X pos keys values trs)(hall:keys.all (·.isSome)=true)(hl:keys.length=values.length)(h0:keys≠[])
  (h15:keys.length<=15):PE X (.Dict keys values pos)<|PN trs:=by
 intro Zx s Z H Q I q;have hn:=I.hok.fresh<|aaq s.heap.objs.size;have I1:=I.laid (a:=s.heap.objs.size) (o:=.dK []) (h':=s.heap.push { cls:=.type "dict",data:=.dict #[] }) (t':=s.toks) (λ_ _ q=>aas _ q) (aaq _)<|qK s.heap I.big;split wpAny_Dict_walk (knd:=aI X.p X.w) hall hl h0 h15<|bz (h Zx _ Z _ _ I1<|q _ hn) λws s2 Zy=>?_;let⟨ps,H2,I2,rel,e,kvs,ep,lk,q2⟩:=Zy;subst ep;let⟨rs,c,rk⟩:=qB (P:=X.p) (w:=X.w) rel;let⟨z,hd,vs0,r0,dd⟩:=xP I2.hok e;ext r0;split⟨rs,c,dd,λh' dd' hs=>⟨.ref s.heap.objs.size,_,?_,rfl,q2⟩⟩;have hz:(jl [] kvs).length<=ZF:=by have h1:=ir kvs [];rw[abP] at h1;rw[aaS];lia
 have he:∃q,h'.get? s.heap.objs.size=some q:=let ⟨q,_,_,hq,_⟩:=dd';⟨q,hq⟩
 show i7 I2 (by rw[e];show agW) hs he<|vw hz hd (rk.merge .nil) dd'
structure M1(X:Cx)(o:ZA)(m:Str)(apos:Pos)(e:ZA)(cpos:Pos):Prop where
 base:ahX o m X.e (ZN o X.e)=ZN o X.e
 few:((ZU cpos<|starEach [e] X.e).all (λx=>!x.1)&&(agX cpos<|keywordEach [] X.e).all (λx=>x.1.isSome)
  && decide (([e]:List ZA).length+([]:List ahy).length+(if ([]:List ahy).isEmpty then 0 else 1)<30))=true
 line:(apos.endLine==cpos.line)=true
 trees:ZU cpos (ZQ [e] X.e)=[(false,ZN e X.e)]
def IsD(H:Hp)(a:ZB):Prop:=(∃kvs,Rd H a<|.dK kvs)\/∃kvs,Rd H a<|.dT kvs
def rh{Zx:Zf} (I:Inv X Zx Z H s)(d:IsD H a) :
  s.TypeIs (.ref a) "dict" /\ (∀b,ZO a=.ref b->∃ob,s.heap.get? b=some ob/\ob.dict=none)/\(a==agF)=false:=by
 rcases d with ⟨kvs,e⟩|⟨kvs,e⟩
 .let⟨_,hd,vs,_,dd⟩:=mU I.hok e;split⟨dd.typeIs,λb q=>?_,hd⟩;ext q;let⟨ob,_,_,h1,h2,_⟩:=dd;show⟨ob,h1,h2.2.1⟩
 .let⟨_,hd,xs,_,dd⟩:=qN I.hok e;split⟨dd.typeIs,λb q=>?_,hd⟩;ext q;let⟨ob,_,_,h1,h2,_⟩:=dd;show⟨ob,h1,h2.2.1⟩
section
variable {X:Cx}{Zx:Zf}{Z:St}{H:Hp}{s:ZD}{a:ZB}{y:V}{u:ZE}{o:Option V}{A:ZP}{E:Ze}
def QP{Q:Ze}(hu:A.units+1<agC)(I:Inv X Zx Z H s)(g:DGet H a y o)(ry:RelV y u)(h:∀w' s',Inv X Zx Z H s'->RelV (o.getD .N) w'->Q w' s') :
  ZG (ZJ X.p X.w) A (call (.builtin "dict.get") [.ref a,u]) Q E s:=by
 rcases g with ⟨kvs,k,e,ey,l⟩|⟨kvs,k,b,e,ey,eb,l⟩
 .subst ey;let⟨z,hd,vs,rel,dd⟩:=mU I.hok e;split aeZ ae0 dd.typeIs afV (afW _ _) (meets_dict_get (aI X.p X.w) a (jy ry) hd) ⟨_,dd.mapOf,h _ _ (I.tok _) ?_⟩;rw[l];show (rel.val k).getD rfl
 .subst ey;cases (show u=ZO b from ry);let⟨z,hd,xs,rel,dd⟩:=qN I.hok e;split aeZ ae0 dd.typeIs afV (afW _ _) (meetsH_dict_get (agR<|aI X.p X.w) a b hd) ⟨acU hu,k,xs,lW I.hok eb,dd,h _ _ (I.tok _) ?_⟩;rw[l];show (rel.val k).getD rfl
end
def JC(td ty:TE):TE:=λZ H Q=>td Z H λx H1=>∃a,x=.ref a/\IsD H1 a/\ty Z H1 λy H2=>∃o,DGet H2 a y o/\Q (o.getD .N) H2
def JF(td ty:TE):TE:=λZ H Q=>td Z H λx H1=>∃a,x=.ref a/\IsD H1 a/\ty Z H1 λy H2=>∃kvs k v,H2 a=some (.dK kvs)/\y=kV k/\fe kvs k=some v/\Q v (upd H2 a<|.dK<|qL kvs k)
section
variable {X:Cx}{o e:ZA}{apos cpos:Pos}{td ty:TE}
def Ib(hu:X.A.units+1<agC)(ho:PE X o td)(he:PE X e ty)(m:M1 X o "get" apos e cpos):PE X (.Call (.Attribute o "get" apos) [e] [] cpos)<|JC td ty:=by intro Zx s Z H Q I h;split afX m.base m.few m.line ae1 ae0 PySem.F.type_dict_get<|bz (ho Zx s Z H _ I h) λu s1 Zy=>?_;let⟨x,H1,I1,rx,a,ex,d,q1⟩:=Zy;subst ex;obtain rfl:u=ZO a:=rx;let⟨t1,t2,_⟩:=rh I1 d;split⟨t1,t2,?_⟩;rw[m.trees];split ad4 rfl<|ad5<|aeD<|bz (he Zx s1 Z H1 _ I1 q1) λiv s2 ⟨y,H2,I2,ry,ov,g,q2⟩=>aeC ?_;show QP hu I2 g ry λw' s3 I3 rw'=>⟨_,H2,I3,rw',q2⟩
def Ih(ho:PE X o td)(he:PE X e ty)(m:M1 X o "pop" apos e cpos):PE X (.Call (.Attribute o "pop" apos) [e] [] cpos)<|JF td ty:=by intro Zx s Z H Q I h;split afX m.base m.few m.line ae1 afT PySem.F.type_dict_pop<|bz (ho Zx s Z H _ I h) λu s1 Zy=>?_;let⟨x,H1,I1,rx,a,ex,d,q1⟩:=Zy;subst ex;obtain rfl:u=ZO a:=rx;let⟨t1,t2,_⟩:=rh I1 d;split⟨t1,t2,?_⟩;rw[m.trees];split ad4 rfl<|ad5<|aeD<|bz (he Zx s1 Z H1 _ I1 q1) λiv s2 ⟨y,H2,I2,ry,kvs,k,v,ea,ey,l,q2⟩=>aeC ?_;subst ey;show VZ I2 ea ry l (.inl rfl) λw' s3 I3 rw'=>⟨v,_,I3,rw',q2⟩
end
end L2
namespace PySem
namespace DX
def v9:ahm (.type "list") "keys"=pure none:=by rw[acv,acw];kernel_rfl
def Au:ahm (.type "list") "__getattr__"=pure none:=by rw[acv,acw];kernel_rfl
def lr:aiD (.type "AttributeError") (.type "AttributeError")=pure true:=by rw[acB];kernel_rfl
def Ab:((Manifest.find? "AttributeError").elim false λt=>t.mro.contains "StopIteration" || t.mro.contains "SystemExit")=false:=by first|rfl|kernel_rfl|decide +kernel
section
variable {prog:ZL}{w:ZI}{A:ZP}{E:Ze}{s:ZD}{a:ZB}{its:Array ZE}{n:Nat}{O:Type}
def Fb{msg nm:Str} (hh:A.handled=none)(hm:msg.length<=ZF)(hq:∀h' tk' e oe,(∀b o,s.heap.get? b=some o->h'.get? b=some o)->h'.get? e=some oe->oe.cls=.type "AttributeError" -> E (.ref e) (s.wt h' tk')) :
  ZG (ZJ prog w) A (raiseAttrError (.ref a) nm msg:Sem O) Q E s:=by
 unfold raiseAttrError;split aaa<|wpAny_mkStr (aaa ?_) hm;unfold ahn aie;split aaa<|aa7 ?_ (by size_fits);split aaa (m:=ahr _ _)<|ab9 (a:=ZX) (by simp only[ahr,Ab];rfl) ?_;split aa7 ?_ (by size_fits);split aaa<|wpAny_mkText ?_;split aaa ?_;have f1:=lr;unfold noteAttr lacksNameAndObj;have ho:=aaB (s.heap.push { cls:=.type "tuple",data:=.seq [ag2 msg s.toks].toArray }) (o:={ cls:=.type "AttributeError",data:=.fields (#[.ref s.heap.objs.size,.none,.none,.none,.bool false,.none]++ownMembersOf (.type "AttributeError") [ag2 msg s.toks]) }) rfl;have hT:({ s with heap:=(s.heap.push { cls:=.type "tuple",data:=.seq [ag2 msg s.toks].toArray }).push { cls:=.type "AttributeError",data:=.fields (#[.ref s.heap.objs.size,.none,.none,.none,.bool false,.none]++ownMembersOf (.type "AttributeError") [ag2 msg s.toks]) } }:ZD).TypeIs (.ref (s.heap.push { cls:=.type "tuple",data:=.seq [ag2 msg s.toks].toArray }).objs.size) "AttributeError" := ⟨_,ho,rfl⟩
 repeat (any_goals (first|assumption|wp_step))
 unfold aiL;split aaa<|ad7 ?_;rw[hh]
 first
  |split acE ?_
  |split aaa (aal (acE ?_))
 have hu:=ab5 (aiB λvs=>vs.extract 0 6 ++ #[ag2 nm s.toks,.ref a]) ho<|acD<|abW rfl _;split hq _ _ _ _ (λb o hb=>?_) (ab5 _ ho<|acD<|abW rfl _)<|ad6 _ _;rw[ac7 _ _<|acm<|aaZ (aaw hb)<|by simp];show aas _<|aas _ hb
def pI{tk:Tok} (hh:A.handled=none)(hx:s.heap.get? a=some { cls:=.type "list",data:=.seq its n }) (hq:∀h' tk' e oe,(∀b o,s.heap.get? b=some o->h'.get? b=some o)->h'.get? e=some oe->oe.cls=.type "AttributeError" -> E (.ref e) (s.wt h' tk')) :
  ZG (ZJ prog w) A (Builtin.«object.__getattribute__» ⟨[.ref a,.str "keys" tk],[]⟩) Q E s:=by
 let⟨h,g,d,t,os⟩:=s;have hT:(⟨h,g,d,t,os⟩:ZD).TypeIs (.ref a) "list" := ⟨_,hx,rfl⟩
 have f4:=v9
 repeat (any_goals (first|assumption|wp_step))
 all_goals (try dsimp only)
 repeat (any_goals (first|assumption|wp_step))
 show Fb hh (by rw[aaS];decide +kernel) hq
def Es{Q:Zi->ZD->Prop}(hh:A.handled=none)(hx:s.heap.get? a=some { cls:=.type "list",data:=.seq its n }) (hq:∀h' tk',(∀b o,s.heap.get? b=some o->h'.get? b=some o)->Q none (s.wt h' tk')) :
  ZG (ZJ prog w) A (aiz (.ref a) "keys") Q E s:=by
 let⟨h,g,d,t,os⟩:=s;have hT:(⟨h,g,d,t,os⟩:ZD).TypeIs (.ref a) "list" := ⟨_,hx,rfl⟩
 have f2:=aee.lookup;have f3:=aee.bind<|.ref a;have f5:=Au;have f6:=lr;unfold aiz getAttrBy? getAttrBy aiZ callGetattribute ajj
 repeat (any_goals (first|assumption|wp_step))
 split ad8 aee.plain F.entry_list_ga<|aee.check _ _ _ _ _ _ _ _ hT (F.args_list_getattribute_2 _ _)<|pI (by show hh) hx λh' tk' e oe hk he hc=>?_;have hTe:(⟨h',g,d,tk',os⟩:ZD).TypeIs (.ref e) "AttributeError" := ⟨oe,he,hc⟩
 dsimp only;unfold getattributeRaised;split aaa<|acF (T := "AttributeError") (b:=true) hTe f6 ?_;rw[aac rfl];split aaa ?_;unfold hookBehind;rw[aad ⋯];split ab9 f5 ?_;unfold hookOrError;dsimp only;unfold attributeErrorLeaves;simp only[Bool.not_false,ab3]
 first
  |split acE ?_
  |split aaa (acE ?_)
 split aaa<|acF (T := "AttributeError") (b:=true) hTe f6 ?_;rw[aac rfl];show aal<|hq h' tk' hk
end
def qY:aiN table "dict.update.loop"=some Builtin.«dict.update.loop»:=aeT s!""
def jp:plainId "dict.update.loop"=true:=by decide +kernel
end DX
end PySem
namespace L2
open PyProof.Rows
section
variable {X:Cx}{Zx:Zf}{Z:St}{H:Hp}{s:ZD}{a b:ZB}{kvs:List<|List bH×V}{k:List bH}{v:V}{r:ZE}{A:ZP}{E:Ze}
def BP{Q:Unit->ZD->Prop}(hu:(agR<|aI X.p X.w).room A)(I:Inv X Zx Z H s)(e:H a=some (.dT kvs))(eb:H b=some (.T<|k.map kV))(l:kvs.length<ZF)(rv:RelV v r)
  (h:∀s',Inv X Zx Z (upd H a<|.dT<|eJ kvs k v) s'->Q Unit.unit s'):ZG (ZJ X.p X.w) A (dictSet a (.ref b) r) Q E s:=by
 let⟨z,hd,xs,rel,dd⟩:=GH I.hok e;have hz:xs.length<=ZF:=by rw[<-acY rel];show z
 have hl:(eJ kvs k v).length<=ZF:=by have:=fJ kvs k v;lia
 split wpAny_dictSet_heap (hsz:=hz) hu (lW I.hok eb) dd λh' dd' hs=>h _ ?_;let⟨q,es,ep,hq,h2,h3,h4,_,h5⟩:=dd';split i7 I (by rw[e];show agW) hs ⟨q,hq⟩ ⟨hl,hd,_,(rel.put k eb rv).keeps λc ys ec=>?_,q,es,ep,hq,h2,h3,h4,h5⟩;rw[aR<|yn ec e<|λz=>nomatch z];show ec
end
def JG(tk tv:TE):TE:=λZ H Q=>∀p,H p=none->sC [(tk,tv)] Z (upd H p<|.dT []) λps H2=>∃b ks y,ps=[(V.ref b,y)]/\H2 b=some (.T<|ks.map kV)/\H2 p=some (.dT [])/\Q (.ref p) (upd H2 p<|.dT [(ks,y)])
def Ic{X:Cx}{pos:Pos} {tv:TE}(hu:(agR<|aI X.p X.w).room X.A)(hk:PE X k tk)(hv:PE X v tv):PE X (.Dict [some k] [v] pos)<|JG tk tv:=by
 intro Zx s Z H Q I q;have hn:=I.hok.fresh<|aaq s.heap.objs.size;have I1:=I.laid (a:=s.heap.objs.size) (o:=.dT []) (h':=s.heap.push { cls:=.type "dict",data:=.dict #[] }) (t':=s.toks) (λ_ _ q=>aas _ q) (aaq _)<|qM s.heap I.big;have hne:pairTrees [some k] [v] X.e pos≠[]:=λe=>by have:=ajH [some k] [v] X.e pos rfl rfl;rw[e] at this;ext this
 have Zz:(pairTrees [some k] [v] X.e pos).length<=15:=by rw[ajH [some k] [v] X.e pos rfl rfl];show 1<=15;decide
 rw[arm_eval_Dict,zip_pairTrees [some k] [v] X.e pos rfl rfl,dictDisplay_pairs _ hne ()];split aaa<|adr<|aaa ?_;unfold subDict;split aaa<|wpAny_alloc ?_;split aaa<|abc ?_;rw[aac Zz];split aaa<|bz (yz hk hv CD Zx _ Z _ _ I1<|q _ hn) λws s2 h2=>?_;let⟨ps,H2,I2,rel,b,ks,y,rfl,eb,ep,q2⟩:=h2;cases rel with
 | @cons _ u _ _ r1 r2=>ext r2;let⟨u1,u2⟩:=u;cases (show u1=ZO b from r1.1);split abc ?_;split aaa ?_;rw[adv];split aaa<|aaa<|BP hu I2 ep eb (by show 0<ZF;rw[aaS];decide) r1.2 λs' I'=>aal ?_;dsimp only;rw[aef];split aal<|aal<|aal<|aal ⟨.ref s.heap.objs.size,_,I',rfl,?_⟩;have:eJ ([]:List<|List bH×V) ks y=[(ks,y)]:=sf y rfl;rw[this];show q2
def ma(kvs:List<|List bH×V)(es:List<|List bH×V):List<|List bH×V:=es.foldl (λacc kv=>eJ acc kv.1 kv.2) kvs
def rUpd:V->Za->Hp->VK->Prop:=λx vs H Q=>∃a l kvs,∃es:List<|Addr×ZB×List bH×V,x=.ref a/\vs=[.ref l]/\H a=some (.dT kvs)/\H l=some (.L<|es.map λe=>.ref e.1)/\(∀e∈es,H e.1=some (.T [.ref e.2.1,e.2.2.2])/\H e.2.1=some (.T<|e.2.2.1.map kV)) /\
 kvs.length+es.length<ZF/\Q .N (upd H a<|.dT<|ma kvs<|es.map λe=>(e.2.2.1,e.2.2.2))
section
variable {X:Cx}{Zx:Zf}{Z:St}{A:ZP}{a l it:ZB}{xs:Za}
set_option tactic.hygienic true in
theorem yT{R:ag4->ZD->Prop}(hu:(agR<|aI X.p X.w).room A.in1)(hh:A.in1.handled=none):∀(es:List<|Addr×ZB×List bH×V) (i:Nat) (kvs:List<|List bH×V) (H:Hp) (s:ZD),Inv X Zx Z H s->H a=some (.dT kvs) ->
  mz X Zx H it->s.heap.IsListIter it l i->H l=some (.L xs)->xs.drop i=es.map (λe=>V.ref e.1)->(∀e∈es,H e.1=some (.T [.ref e.2.1,e.2.2.2])/\H e.2.1=some (.T<|e.2.2.1.map kV))->kvs.length+es.length<ZF ->
  (∀s',Inv X Zx Z (upd H a<|.dT<|ma kvs<|es.map λe=>(e.2.2.1,e.2.2.2)) s'->R (.ok<|.ret .none) s') ->
  agU (ZJ X.p X.w) A (.builtin "dict.update.loop" ⟨[.ref a,.ref it,ZY i,.none],[]⟩) R s
 |[],i,kvs,H,s,I,ea,fo,hit,el,hd,_,_,hR=>by
  let⟨its,rl,pl,_⟩:=I.list<|.inl<|.inl el;have hx:its.toArray[i]?=none:=by
   have h1:xs.length<=i:=by have:=aaF ag7 hd;rw[acM] at this;simpa[Nat.sub_eq_zero_iff_le] using this
   have:=rl.length;simp;lia
  split adC DX.qY ?_;rw[aeg DX.jp _];show ZG _ A.in1 (agO (.ref it) >>= _) _ _ s;split aaa<|afz hh hit pl.isList hx λh' he=>?_;show ZG _ A.in1 (akv a [] >>= _) _ _ _;split aaa<|aal<|aal<|hR _ ?_;have e0:upd H a (.dT<|ma kvs<|([]:List<|Addr×ZB×List bH×V).map λe=>(e.2.2.1,e.2.2.2))=H:=by
   funext c
   unfold upd;split
   .rename_i z;rw[z,ea];rfl
   .rfl
  rw[e0];show I.turned (t':=s.toks) (it:=it) (λb o hb e=>he b o hb e) fo.1 fo.2.1 fo.2.2.2.1 fo.2.2.2.2.1 fo.2.2.2.2.2
 |e::es,i,kvs,H,s,I,ea,fo,hit,el,hd,he,hl,hR=>by
  let⟨its,rl,pl,_⟩:=I.list<|.inl<|.inl el;let⟨e1,e2⟩:=he e aaJ;have hxi:xs[i]?=some (V.ref e.1):=by have:=aaF (λl:Za=>l[0]?) hd;simpa[adH] using this
  let⟨u,hui,ru⟩:=rl.get hxi;cases (show u=ZO e.1 from ru);split adC DX.qY ?_;rw[aeg DX.jp _];show ZG _ A.in1 (agO (.ref it) >>= _) _ _ s;split aaa<|afy hit pl.isList (x:=.ref e.1) (~~~hui) λh' hit' hs=>?_;have I1:Inv X Zx Z H<|s.wh h':=I.turned (t':=s.toks) (it:=it) (λb o hb e=>hs.extBut b o hb e) fo.1 fo.2.1 fo.2.2.2.1 fo.2.2.2.2.1 fo.2.2.2.2.2;have P1:=I1.pinned (fp:=[it]) (λb hb=>by rw[aaG.1 hb];show fo) (λb hb=>by
   rw[aaG.1 hb];let⟨o,ho,_,hd⟩:=hit'
   show⟨o,ho,λv z=>by rw[hd] at z;ext z⟩)
  let⟨its2,rl2,pl2,_⟩:=I1.tuple<|.inl<|.inl e1;let⟨u1,u2,e3,r1,r2⟩:=Vals.two rl2;subst e3;cases (show u1=ZO e.2.1 from r1);have body:ZG (ZJ X.p X.w) A.in1 (dictSet a (.ref e.2.1) u2) (λ_ s'=>Inv X (Zx++oI [it] h') Z (upd H a<|.dT<|eJ kvs e.2.2.1 e.2.2.2) s') (λe s'=>R (.error e) s')<|s.wh h':=
   BP hu P1 ea e2 (by rw[aay] at hl;lia) r2 λs' I'=>I'
  split aaa<|abc<|aaa ?_;split wpAny_tryCatch (m:=aks<|.ref e.1) ?_;let⟨ot,hot,hct,nt,hdt⟩:=pl2;unfold aks;split aaa<|acA (T := "tuple") ⟨ot,hot,hct⟩ ?_;rw[aac ⋯];split aaa<|acG hot hdt<|aal ?_;show ZG _ A.in1 (agI [.ref e.2.1,u2]<|dictSet a (.ref e.2.1) u2) _ _ _;split abc<|aaO body (λ_ s' I'=>?_) λ_ _ z=>z;have na:it≠a:=λz=>by have f0:=fo.1;rw[z,ea] at f0;ext f0
  have nl:l≠a:=yn el ea<|λz=>nomatch z;split aal ⟨adA DX.jp _,?_⟩;show agU (ZJ X.p X.w) A (.builtin "dict.update.loop" ⟨[.ref a,.ref it,ZY ((i+1:Nat):Int),.none],[]⟩) R s';have tn:∀c ys,H c=some (.T ys)->upd H a (.dT<|eJ kvs e.2.2.1 e.2.2.2) c=some (.T ys):=λc ys z=>by rw[aR<|yn z ea<|λz=>nomatch z];show z
  split yT hu hh es (i+1) (eJ kvs e.2.2.1 e.2.2.2) _ s' I'.unpinned aH ⟨by rw[aR na];show fo.1,fo.2⟩ ?_ (by rw[aR nl];show el) ?_ (λe' h'=>?_) ?_ λs2 I2=>hR s2 ?_
  .let⟨o,ho,hc2,hd2⟩:=hit';show⟨o,(I'.pin (it,o)<|abe _<|abe _<|gJ (aaG.2 rfl) ho).1,hc2,hd2⟩
  .have:=aaF List.tail hd;rw[List.tail_drop] at this;show this
  .let⟨z1,z2⟩:=he e'<|aaK _ h';show⟨tn _ _ z1,tn _ _ z2⟩
  .have:=fJ kvs e.2.2.1 e.2.2.2;rw[aay] at hl;lia
  .rw[wR] at I2;show I2
def yS{nm:String}{A:ZP}{Q:Fin->ZD->Prop}{Ex:Ze}{R:ag4->ZD->Prop}{es:List<|Addr×ZB×List bH×V}{kvs:List<|List bH×V}{a l:ZB}(hu:(agR<|aI X.p X.w).room A.in1)(hh:A.in1.handled=none)(I:Inv X Zx Z H s)(ea:H a=some (.dT kvs))(el:H l=some (.L<|es.map λe=>V.ref e.1))
  (he:∀e∈es,H e.1=some (.T [.ref e.2.1,e.2.2.2])/\H e.2.1=some (.T<|e.2.2.1.map kV)) (hl:kvs.length+es.length<ZF)
  (hQ:∀c s',c.quiet=true/\agU (ZJ X.p X.w) A c R s'->Q (.again c) s') (hR:∀s',Inv X Zx Z (upd H a<|.dT<|ma kvs<|es.map λe=>(e.2.2.1,e.2.2.2)) s'->R (.ok<|.ret .none) s') :
  ZG (ZJ X.p X.w) A.in1 (ahU nm a (.ref l) [] .none) Q Ex s:=by
 let⟨hll,its,n,rl,hol⟩:=(show ObjOk X.p X.w H s.heap l (.L<|es.map λe=>V.ref e.1) from I.hok l _ el)
 unfold ahU;split aaa<|acA (T := "list") ⟨_,hol,rfl⟩ ?_;rw[aac ⋯];split aaa<|DX.Es hh hol λh' tk' hk=>?_;rw[aac (show (none:Zi).isNone=true from rfl)];split aaa<|acu ?_;have I1:Inv X Zx Z H<|s.wt h' tk':=I.kept (t':=tk') hk;let⟨its1,rl1,pl1,_⟩:=I1.list<|.inl<|.inl el;split aaa<|adx pl1.isList ?_;have I2:Inv X Zx Z H { s with heap:=h'.push { cls:=.type "list_iterator",data:=.fields #[.ref l,.int 0 0] },toks:=tk' }:=I1.kept (t':=tk') λb o e=>aas _ e;show aal<|hQ _ _ ⟨adA DX.jp _,yT (xs:=es.map λe=>V.ref e.1) (Zx:=Zx) (Z:=Z) hu hh es 0 kvs H _ I2 ea (I1.fpOk (aaq _)<|I1.hok.fresh<|aaq _) ⟨_,aaB _ rfl,rfl,rfl⟩ el (#v[aeQ]) he hl hR⟩
def EK(hu:(agR<|aI X.p X.w).room X.A.in1)(hc:X.c=true):MtR X "dict.update" rUpd:=by
 intro Zx s Z H x vs v us Q I rx rv h;let⟨a,l,kvs,es,rfl,rfl,ea,el,he,hl,q⟩:=h;cases (show v=ZO a from rx);let⟨u,rfl,ru⟩:=rv.one;cases (show u=ZO l from ru);let⟨z,hd,xs,rel,dd⟩:=GH I.hok ea;let⟨oa,esd,epd,hoa,hxa,_⟩:=id dd;have hTa:s.TypeIs (.ref a) "dict" := ⟨oa,hoa,hxa.1⟩
 have hh:X.A.in1.handled=none:=I.ok.hd hc;split ac3<|ad8 afY.plain F.entry_dict_update<|afY.check _ _ _ _ _ _ _ _ hTa (F.args_dict_update_2 _ _) ?_;unfold Builtin.«dict.update»;split aaa ?_;unfold aiU;split aaa<|aeh hTa ?_;show ZG _ _ (pure (a,[ZO l])) _ _ s;split aal ?_;show ZG _ _ (ahU "dict.update" a (.ref l) [] .none) _ _ s;show yS hu hh I ea el he hl (λ_ _ q=>q) λs' I'=>⟨.N,_,I',rfl,q⟩
end
def un1{A:ZP}(h:A.units+64<agC):A.units+1<agC:=adh (Nat.add_le_add_left ⋯ _) h
def TU{A:ZP}(h:A.units+64<agC):(agR<|aI P w).room A:=aeS<|un1 h
def Nt{A:ZP}(h:A.units+64<agC):(agR<|aI P w).room A.in1:=acU<|un1 h
end L2
namespace M
open L2
section
abbrev kI(k:Zn):List bH:=k.map ag6
def WF(k:Zn):(kI k).map kV=k.map V.int:=by rw[aaP];rfl
def RB(h:kI a=kI b):a=b:=by
 induction a generalizing b with
 |nil=>cases b with
  |nil=>rfl
  |cons _ _=>ext h
 |cons x a ih=>cases b with
  |nil=>ext h
  |cons y b=>
   injection h with h1 h2
   injection h1 with h1
   rw[h1,ih h2]
theorem pY(q:Zn):∀ks:Zm,(fe (dA ks)<|kI q).isSome=ks.contains q
 |[]=>rfl
 |k::ks=>by
  have ih:=pY q ks;by_cases h:k=q
  .subst h;show (fe ((kI k,V.B true)::dA ks)<|kI k).isSome=_;rw[ku rfl];simp
  .show (fe ((kI k,V.B true)::dA ks)<|kI q).isSome=_;rw[iV<|λz=>h<|RB z,ih];rw[List.contains_cons];have:(q==k)=false:=by simpa using λz=>h z.symm
   rw[this,aeX]
def py(ks:Zm)(q:Zn):Zm:=if ks.contains q then ks else ks++[q]
def GD(a b:Zm):dA (a++b)=dA a++dA b:=by unfold dA;rw[ack]
def MZ(ks:Zm)(q:Zn):eJ (dA ks) (kI q) (.B true)=dA (py ks q):=by
 unfold py;cases h:ks.contains q with
 |false=>
  have hv:fe (dA ks) (kI q)=none:=by
   have:=pY q ks;rw[h] at this;cases z:fe (dA ks) (kI q) with
   |none=>rfl
   |some _=>rw[z] at this;ext this
  rw[sf _ hv,aad ⋯,GD];rfl
 |true=>
  rw[aac rfl];have ha:((dA ks).any λkv=>decide (kv.1=kI q))=true:=by rw[nO,pY,h]
  unfold eJ;rw[aac ha];unfold dA;rw[aaP];split aei λk _=>?_;show (if kI k=kI q then (kI k,V.B true) else (kI k,V.B true))=_;split<;>rfl
theorem mh:∀(qs ks:Zm),ma (dA ks) (qs.map λq=>(kI q,V.B true))=dA (qs.foldl py ks)
 |[],ks=>rfl
 |q::qs,ks=>by show ma (eJ (dA ks) (kI q)<|.B true) (qs.map λq=>(kI q,V.B true))=_;rw[MZ,mh qs];rfl
def GE(ks:Zm):(dA ks).length=ks.length:=aar _
end
end M
namespace L2
open PyProof.Rows M
def ixL(d:D)(l:Zb):Option Nat:=l.findIdx? λe=>FD e d
def CN(K:Zj):V->Za->Hp->VK->Prop:=λx vs H Q=>∃S d l j y,vs=[y]/\Same S H/\Dv K S H d y/\Dv K S H (.L l) x/\g6 30 d=true/\g6 30 (.L l)=true/\l.length<=16000000/\ixL d l=some j/\Q (.int (j:Nat)) H
section
variable {X:Cx}
theorem yB:∀l:Zb,(pyDs l).length=l.length
 |[]=>rfl
 |_::l=>#v[pyDs,aay,aay,yB l]
theorem CK:∀(l:Zb) (i:Nat) (e:D),l[i]?=some e->(pyDs l)[i]?=some (g7 e)
 |[],_,_,h=>by simp at h
 |a::l,0,e,h=>by
  ext h;rw[pyDs];rfl
 |a::l,i+1,e,h=>by rw[pyDs,List.getElem?_cons_succ];show CK l i e h
theorem Mv:∀ {n:Nat} {l:Zb} {i:Nat} {e:D},okDs n l=true->l[i]?=some e->g6 n e=true
 |_,[],_,_,_,h=>by simp at h
 |n,a::l,0,e,k,h=>by
  ext h;rw[okDs,aaV] at k;show k.1
 |n,a::l,i+1,e,k,h=>by rw[okDs,aaV] at k;show Mv k.2 h
def EH(hu:X.A.units+64<agC):MtR X "list.index" (CN X.K):=by
 intro Zx s Z H x vs v us Q I rx rv h;let⟨S,d,l,j,y,rfl,sm,dy,dx,cd,ce,hle,hj,q⟩:=h;let⟨u,rfl,ru⟩:=rv.one;let⟨as,ra⟩:=gh I 30 cd (n9 sm dy) ru;let⟨bs,rb⟩:=gh I 30 ce (n9 sm dx) rx;let⟨a1,a2⟩:=l8 30 d cd;let⟨b1,b2⟩:=l8 30 (.L l) ce;have hxs:aiQ (pyDs l)=true:=by simpa[g7,ahu] using b1
 have hm:=ake (aiu<|pyDs l) (g7 d).depth;have ok29:okDs 29 l=true:=by simpa[g6] using ce
 let⟨hj1,hj2,hj3⟩:=List.findIdx?_eq_some_iff_getElem.1 hj;have rb':Reads s.heap v (.list<|pyDs l) bs:=by simpa[g7] using rb
 cases rb' with
 |list h1 h2 h3 h4=>
  rename_i a o vs n as';have he:=SeqAt.items_eqAt (A:=X.A) h4 ra hxs a1 ();have hmap:=SeqAt.readsAll_map (pyDs l) _ _ hxs h4;have Zz:vs.size=l.length:=by have:=aaF ag7 hmap;rw[aar,yB] at this;simpa using this
  have val:∀m (hm:m<vs.size),ah6 (aii s.heap vs[m]) (g7 d)=FD (l[m]'()) d:=λm hm=>by
   have e1:(vs.toList.map<|SeqAt.readOf s.heap)[m]?=some (g7<|l[m]'()):=by rw[hmap];show CK l m _<|ab8 ()
   rw[aaX] at e1;have e2:vs.toList[m]?=some vs[m]:=by simp[hm]
   rw[e2] at e1;have e3:aii s.heap vs[m]=g7 (l[m]'()):=by simpa using e1
   rw[e3];rfl
  let⟨oc,od,odt,osl⟩:=o;simp only at h2 h3;subst h2 h3
  split ab7 afZ ⟨_,h1,rfl⟩ PySem.F.entry_list_index (PySem.F.args_list_index_2 _ _)
   (SeqAt.list_indexAt a vs n od osl u (λy=>ah6 (aii s.heap y)<|g7 d) j () () ?_ ?_) ⟨h1,he,⟨.int (j:Nat),H,I.tok _,⟨_,rfl⟩,q⟩⟩
  .show ah6 (aii s.heap vs[j]) (g7 d)=true;rw[val j ()];show hj2
  .intro m hm hlt;show ah6 (aii s.heap vs[m]) (g7 d)=false;rw[val m hm];have:=hj3 m hlt;simpa using this
end
open PyProof.Rows
def Qz:agz "any"=some (.builtin "any"):=by decide +kernel
def Xs(K:Zj):Za->Hp->VK->Prop:=λxs H Q=>∃p,∃bs:List Bool,xs=[.ref p]/\SqL K H p (bs.map V.B)/\Q (.B<|bs.any id) H
section
variable {X:Cx}
def Dz(bs:List Bool):(ZV bs.length).any (λi=>bs.getD i true)=bs.any id:=by
 rw[adF,adI,adI];constructor
 .rintro⟨i,hi,h⟩;have hi:=acd.1 hi;show⟨bs[i],ajK hi,by simpa[hi] using h⟩
 .rintro⟨b,hb,h⟩;let⟨i,hi,rfl⟩:=aeV hb;show⟨i,acd.2 hi,by simpa[hi] using h⟩
def DF(hc:X.c=true):CallR X (.builtin "any")<|Xs X.K:=by
 intro Zx s Z H xs us Q I r h;let⟨p,bs,rfl,hS,q⟩:=h;let⟨u,rfl,ru⟩:=r.one;ext ru;let⟨its,rv,pl,hz⟩:=I.list hS;have hl:=pl.isList;have Zz:bs.length=its.length:=by have:=rv.length;simpa using this
 split call_any_walk<|adx hl ?_;have hne:p≠s.heap.objs.size:=aaC pl.lt;split⟨_,_,_,_,_,_,λi=>bs.getD i true,rfl,akj (A:=X.A.in1) (I.ok.hd hc) _ p hne its.toArray,⟨⟨_,aaB _ rfl,rfl,rfl⟩,hl.push _⟩,?_,?_⟩
 .intro i v s' Q' E' hv hQ;have hv:its[i]?=some v:=by simpa using hv
  have hi:i<bs.length:=by rw[Zz];show (aa0.1 hv).1
  let⟨u,hu,ru⟩:=rv.get (i:=i) (x:=.B<|bs[i]) (by simp[hi]);rw[hu] at hv;ext hv;ext ru;have e:bs.getD i true=bs[i]:=by simp[hi]
  dsimp only at hQ;rw[e] at hQ;show acz hQ
 .intro h' tk hk;rw[aaH,<-Zz,Dz];show⟨.B _,H,I.kept<|old_kept hk,rfl,q⟩
end
end L2
namespace DY
section
variable {prog:ZL}{w:ZI}{K:Type}[DecidableEq K]{A:ZP}{E:Ze}{s:ZD}
def DAt(s:ZH)(d:ZB)(es:Array agS)(ep:Nat):Prop:=∃o,s.get? d=some o/\o.ExactDict/\o.data=.dict es ep
def ud{d:ZB}{es:Array agS}{ep:Nat}{Q:Ze}(hd:(d==agF)=false)(hm:DAt s.heap d es ep)
  (hQ:Q (.ref s.heap.objs.size) { s with heap:=s.heap.push { cls:=.type "dict_keyiterator",data:=.fields #[.ref d,.int 0 0,.int es.size 0,.int ep 0] } }):ZG (ZJ prog w) A (aht<|.ref d) Q E s:=by
 let⟨o,ho,hc,hdat⟩:=hm;have hT:s.TypeIs (.ref d) "dict" := ⟨o,ho,hc.1⟩
 split afM hT ae2<|abC ae2 hT F.entry_dict_iter ?_<|F.args_dict_iter_1 _;unfold Builtin.«dict.__iter__»;split aaa ?_;unfold akH;split aaa<|aeh hT ?_;show ZG _ _ (pure<|Value.ref d) _ _ s;split aal ?_;show ZG _ _ (ajB d >>= _) _ _ s;unfold ajB;rw[aad<|by rw[hd];show aa1];split aaa<|aal<|aaa<|ae3 ho hdat<|aaa<|ae4 ho hdat<|aaa<|aa7<|aal ⟨_,rfl, "dict_keyiterator",_,⟨_,aaB _ rfl,rfl⟩,adJ.lookup,?_⟩;simpa[ZY] using hQ
def yp{it d:ZB}{i ep:Nat}{es:Array agS}{Q:Zi->ZD->Prop}(hit:s.heap.IsKeyIter it d i es.size ep)(hm:DAt s.heap d es ep)(hlt:i<es.size)
  (hQ:∀h',h'.IsKeyIter it d (i+1) es.size ep->ahA it s.heap h'->Q (some es[i].key) (s.wh h')):ZG (ZJ prog w) A (agO<|.ref it) Q E s:=by
 let⟨o,ho,hc,hd⟩:=id hit;let⟨od,hod,hcd,hdd⟩:=hm;unfold agO;split aaa<|acj<|aci (name:=ZC "__next__") hit.typeIs adJ<|abC adJ hit.typeIs af0 ?_<|af1 _;split aaa<|aal<|aaa<|aaa ?_;first|split aaa (aej hit.typeIs<|aal<|aaa<|aek ho hd ?_)|split aaa<|ael hit.typeIs<|aal<|aaa<|aek ho hd ?_
 simp only[show ako "dict_keyiterator"=false from by decide,adc,abZ];show ZG _ _ (if (ZO d==ZX)=true then _ else _) _ _ s;rw[aad (show ¬((ZO d==ZX)=true) from aa1)];split aaa<|aal<|aaa<|ae3 hod hdd ?_;rw[aad<|by simp];split aaa<|aal<|aaa<|ae4 hod hdd ?_;rw[aad<|by simp];split aal ?_;simp only[show ¬((i:Int)<0) from (),abZ,acL,ae5 hlt];split aaa ?_;first|split aaa (aej hit.typeIs<|aal<|aaa<|ae6 hit.typeIs ?_)|split aaa<|ael hit.typeIs<|aal<|aaa<|ae6 hit.typeIs ?_
 show ZG _ _ (setField (.ref it) 1 (ZY<|(i:Int)+1) >>= _) _ _ s;split aaa<|acx ho hd (by simp) ?_;have hit':(s.heap.update it<|Obj.mapFields (·.setIfInBounds 1 (ZY<|(i:Int)+1))).IsKeyIter it d (i+1) es.size ep:=⟨_,ab5 _ ho<|acD<|abW hd _,(ad6 ..).trans hc,by rw[abW hd];simp[ZY]⟩
 split aaa<|abc<|aaa<|ae6 (s:={ s with heap:=s.heap.update it (aiB (·.setIfInBounds 1 (ZY<|(i:Int)+1))) }) hit'.typeIs ?_;show ZG _ _ (pure es[i].key) _ _ _;show aal<|aal ⟨_,rfl,aal<|hQ _ hit'<|acP ..⟩
def nw{it:ZB}{i ep:Nat}{es:Array agS}{Q:Zi->ZD->Prop}(hh:A.handled=none)(hit:s.heap.IsKeyIter it d i es.size ep)(hm:DAt s.heap d es ep)(hge:es.size<=i)
  (hQ:∀h',ajb it s.heap h'->Q none (s.wh h')):ZG (ZJ prog w) A (agO<|.ref it) Q E s:=by
 let⟨o,ho,hc,hd⟩:=id hit;let⟨od,hod,hcd,hdd⟩:=hm;unfold agO;split aaa<|acj<|aci (name:=ZC "__next__") hit.typeIs adJ<|abC adJ hit.typeIs af0 ?_<|af1 _;split aaa<|aal<|aaa<|aaa ?_;first|split aaa (aej hit.typeIs<|aal<|aaa<|aek ho hd ?_)|split aaa<|ael hit.typeIs<|aal<|aaa<|aek ho hd ?_
 simp only[show ako "dict_keyiterator"=false from by decide,adc,abZ];show ZG _ _ (if (ZO d==ZX)=true then _ else _) _ _ s;rw[aad (show ¬((ZO d==ZX)=true) from aa1)];split aaa<|aal<|aaa<|ae3 hod hdd ?_;rw[aad<|by simp];split aaa<|aal<|aaa<|ae4 hod hdd ?_;rw[aad<|by simp];split aal ?_;simp only[show ¬((i:Int)<0) from (),abZ,acL,af2 hge];split aaa ?_;first|split aaa (aej hit.typeIs<|aal ?_)|split aaa (ael hit.typeIs<|aal ?_) ; skip
 show ZG _ _ (setField (.ref it) 0 .none >>= _) _ _ s;split aaa<|acx ho hd (by simp) ?_;show ZG _ _ (ahn (.type "StopIteration") [] >>= _) _ _ _;split aaa ?_;simp only[ahn,aie];split aaa<|aa7 ?_ (by size_fits);split aaa (m:=ahr _ _)<|ab9 (a:=ZX) (by first|rfl|(simp only[ahr];rfl))<|aa7 ?_ (by size_fits);simp only[aiL];split aaa<|ad7 ?_;rw[show A.in1.handled=none from hh];split aaa<|aal<|acE ?_;split aaa<|acF (T := "StopIteration") (b:=true) ⟨_,aaB _ rfl,rfl⟩ aeU ?_;show aal<|hQ _<|((acP ..).extBut.push _).push _
end
end DY
namespace L2
open PyProof.Rows
section
variable {X:Cx}{Zx:Zf}{Z:St}{H:Hp}{s:ZD}{a:ZB}{o:Obj}{kvs:List<|List bH×V}
def Rm(I:Inv X Zx Z H s)(e:H a=some (.dT kvs)):∃o,s.heap.get? a=some o/\Inv X Zx Z (upd H a<|.frz o<|.dT kvs) s:=by
 let⟨z,hd,xs,rel,o,es,ep,ho,h2,h3,h4,h5⟩:=(show ObjOk X.p X.w H s.heap a (.dT kvs) from I.hok a _ e)
 split⟨o,ho,?_⟩;have:=i7 (t':=s.toks) (h':=s.heap) (ob:=.frz o<|.dT kvs) I (by rw[e];show agW) ⟨rfl,λ_ _=>rfl⟩ ⟨o,ho⟩ ⟨ho,z,hd,xs,Paired.mapP rel λp q y=>⟨y.1,by rw[aR (yn y.2.1 e (λz=>nomatch z))];show y.2.1,y.2.2⟩,o,es,ep,ho,h2,h3,h4,h5⟩;show this
end
theorem ux{O β:Type}{F:O->β->Prop}:∀ {l:List O} {m:List β} {i:Nat} {y:β},aho F l m->m[i]?=some y->∃p,l[i]?=some p/\F p y
 |_,_,_,_,.nil,h=>by simp at h
 |_,_,0,_,.cons r _,h=>by simp at h;subst h;show⟨_,rfl,r⟩
 |_,_,i+1,_,.cons _ t,h=> ~~~ux t (by simpa using h)
def VA(a:ZB)(o:Obj)(kvs:List<|List bH×V):It:=
 ⟨λi H=>H a=some (.frz o<|.dT kvs)/\i<kvs.length,λi H x H'=>H'=H/\∃b k v,kvs[i]?=some (k,v)/\x=.ref b/\H b=some (.T<|k.map kV),λi H=>H a=some (.frz o<|.dT kvs)/\kvs.length<=i⟩
def JT{P:ZL}{w:ZI}{K:Zj}{tg:ZA}{es:Array agS}{ep:Nat}{o:Obj}{kvs:List<|List bH×V}(a it:ZB)(ho:o.data=.dict es ep)(hx:o.ExactDict)(hl:es.size=kvs.length):Turn P w K tg (VA a o kvs) [it] it (λi h=>h.IsKeyIter it a i es.size ep) where
 mem:=by simp
 obj:=λi h st b hb=>by let⟨q,e,c,d⟩:=st;rw[aaG.1 hb];show⟨q,e,λv z=>by rw[d] at z;ext z⟩
 keep:=λi h h' st k=>st.at λo e=>k it (by simp) o e
 item:=by
  intro X hP hw hK hc i Zx s Z H E I hf st hg;subst hP hw hK;let⟨ea,hi⟩:=hg;let⟨g1,z,hd,xs,rel,o',es',ep',h1,h2,h3,h4,h5⟩:=(show ObjOk X.p X.w H s.heap a (.frz o<|.dT kvs) from I.hok a _ ea)
  rw[g1] at h1;ext h1;rw[ho] at h3;ext h3;let⟨f0,f1,f2,f3,f4,f5⟩:=hf it (by simp);have hlt:i<es.size:=by rw[hl];show hi
  split DY.yp st ⟨o,g1,hx,ho⟩ hlt λh' st' sb=>?_;have I1:Inv X Zx Z H<|s.wh h':=I.turned (t':=s.toks) (λb o hb e=>(sb.2 b hb).trans e) f0 f1 f3 f4 f5;let⟨q,e,c,d⟩:=id st';have hxi:es[i]?=(xs[i]?).map (ajm<|tupleKind<|aI X.p X.w):=entry_at h4 i;rw[ae5 hlt] at hxi;cases qx:xs[i]? with
  |none=>rw[qx] at hxi;ext hxi
  |some y=>rw[qx] at hxi;have ek:es[i]=ajm (agR<|aI X.p X.w) y:=abb hxi;let⟨p,qp,r1,r2,r3⟩:=ux rel qx;split⟨_,rfl,m9 (s:=(s.wh h')) e c d ⋯ ⟨.ref y.2.1,H,I1,?_,⟨rfl,y.2.1,p.1,p.2,qp,rfl,r2⟩,st',λb hb=>(hf b hb).1⟩⟩;rw[ek];rfl
 done:=by
  intro X hP hw hK hc i Zx s Z H E I hf st hg;subst hP hw hK;let⟨ea,hi⟩:=hg;let⟨g1,_⟩:=(show ObjOk X.p X.w H s.heap a (.frz o<|.dT kvs) from I.hok a _ ea)
  let⟨f0,f1,f2,f3,f4,f5⟩:=hf it (by simp);show DY.nw (I.ok.hd hc) st ⟨o,g1,hx,ho⟩ (by rw[hl];show hi) λh' eb=>⟨rfl,I.turned (t':=s.toks) (λb o hb e=>eb b o hb e) f0 f1 f3 f4 f5⟩
 self:=λ_ _ _ _ _ st h=>af3 st h
def Pm:Za->Hp->VK->Prop:=λvs H Q=>∃l,∃es:List<|Addr×ZB×List bH×V,vs=[.ref l]/\H l=some (.L<|es.map λe=>.ref e.1)/\(∀e∈es,H e.1=some (.T [.ref e.2.1,e.2.2.2])/\H e.2.1=some (.T<|e.2.2.1.map kV)) /\
 es.length<ZF/\∀p,H p=none->Q (.ref p) (upd H p<|.dT<|ma []<|es.map λe=>(e.2.2.1,e.2.2.2))
def Nu{P:ZL}{w:ZI}{A:ZP}(h:A.units+64<agC):(agR<|aI P w).room A.in1.in1:=acU (show A.units+1+1<agC from adh () h)
def zD{X:Cx}(hu:(agR<|aI X.p X.w).room X.A.in1.in1)(hc:X.c=true):CallR X (.type "dict") Pm:=by
 intro Zx s Z H xs us Q I r h;let⟨l,es,rfl,el,he,hl,q⟩:=h;let⟨u,rfl,ru⟩:=r.one;cases (show u=ZO l from ru);have hn:=I.hok.fresh<|aaq s.heap.objs.size;have I1:=I.laid (a:=s.heap.objs.size) (o:=.dT []) (h':=s.heap.push { cls:=.type "dict",data:=.dict #[] }) (t':=s.toks) (λ_ _ q=>aas _ q) (aaq _)<|qM s.heap I.big;have ek:∀ {b u},H b=some u->upd H s.heap.objs.size (.dT []) b=some u:=λ{b u} z=>by rw[aR<|bF z hn];show z
 split callType_codes (Q₁:=λobj s₁=>obj=.ref s.heap.objs.size/\s₁={ s with heap:=s.heap.push { cls:=.type "dict",data:=.dict #[] } }) ajD (af4 _) af5 (akA _ ⟨rfl,rfl⟩) ?_;rintro obj s₁ ⟨rfl,rfl⟩;have hTa:({ s with heap:=s.heap.push { cls:=.type "dict",data:=.dict #[] } }:ZD).TypeIs (.ref s.heap.objs.size) "dict" := ⟨_,aaB _ rfl,rfl⟩
 have hh:X.A.in1.handled=none:=I.ok.hd hc;split⟨hTa,af6 _ _,?_⟩;unfold Builtin.«dict.__init__»;split aaa ?_;unfold aiU;split aaa<|aeh hTa ?_;show ZG _ _ (pure (s.heap.objs.size,[ZO l])) _ _ _;split aal ?_;show ZG _ _ (ahU "dict.__init__" s.heap.objs.size (.ref l) [] .none) _ _ _;show yS hu hh I1 aH (ek el) (λe h'=>⟨ek (he e h').1,ek (he e h').2⟩) (~~~hl) (λ_ _ q=>q) λs' I'=>⟨rfl,.ref s.heap.objs.size,_,wR (H:=H)▸I',rfl,q _ hn⟩
def K7:agz "dict"=some (.type "dict"):=by decide +kernel
def w9(CX:BA)(X:Cx)(Z:St)(E:XK):Prop:=∀(Zx:Zf) (H:Hp) (s:ZD) (e:ZE) (s':ZD),Inv X Zx Z H s->CX X.t H s E e s'->X.xe e s'
section
variable {X:Cx}{CX:BA}{k:Nat}{f:ZB}{fd:ZW}{ps:Zl}{sp:Sp}{E:XK}{e:ZA}
def Ja{Zx:Zf}{Z:St}{H:Hp}{s:ZD}{Q:VK}{us:Zh}{vs:Za}(F:Zs X.p X.w X.K X.mg X.ba CX k f fd ps sp)(hr:Zr k X.A)(hb:Binds X.K fd ps [])(hx:w9 CX X Z E)
  (I:Inv X Zx Z H s) (r:Vals vs us) (h:sp vs H Q E):wX X (call (.ref f) us) (EP X Zx Z Q) X.xe s:=by
 have r2:Vals (vs++[])<|us++[]:=r.append .nil;rw[abf] at r2;have hl:(us++[]).length=ps.length:=by rw[<-r2.length];show F.len _ _ _ _ h
 split ac3<|ads (F.run X.A X.t s H ⟨us,[]⟩ (us++[]) vs Q E hr I.env0 (hb s us I.kIn hl) r2 h) λr s' hq=>?_;cases r with
 |error e=>show hx Zx H s e s' I hq
 |ok fl=>
  cases fl with
  |ret u=>show I.after hq
  |next=>show agy hq
  |brk=>show agy hq
  |cont=>show agy hq
def PB(X:Cx)(body:List ZM)(tx:XK->St->Hp->Prop):Prop:=∀(ps:Zf) (W:Ze) (E:XK) (Z:St),w9 (qf X.p X.w) ((X.pin ps).wish W) Z E->∀s H,Inv ((X.pin ps).wish W) [] Z H s->tx E Z H->wX X (execs body X.e) (λ_ _=>False) W s
end
def PV(K:Zj)(L:Zl)(i:Nat)(tx:XK->St->Hp->Prop)(tu ts:TS):TS:=λD Z H=>
 tx (λcls _ H'=>∃N C,N∈L/\cls=.ref C/\agA K ZK N=some (some<|.ref C)/\∀e,H' e=none ->
  ts { nx:=λZ' H2=>D.nx (Z'.set i none) H2,rt:=λ_ _=>False } (Z.set i<|some<|.ref e) (upd H' e<|zY C e)) Z H\/tu D Z H
section
variable {X:Cx}{body suite:List ZM}{b0:ZM}{x n:Str}{i:Nat}{L:Zl}{tx:XK->St->Hp->Prop}{tu ts:TS}{np hp pos:Pos}
def MY(hst:X.t=X.e::X.o)(hfr:X.e.frame=some X.e.locals)(hN:X.N.Nodup)(hi:X.N[i]?=some n)(hl:X.e.kindOf n=some .local)(hm:∃T:ZB,X.mg x=some (.ref T)/\∀N∈L,∀C:ZB,PySem.W.nsIn X.K ZK N=some (some<|.ref C)->PySem.W.exmOne X.K (.ref C) (.ref T)=some true)(hg:Gl X x)
  (hx:PB X body tx) (hu:∀(ps:Zf) (W:Ze),PSs ((X.pin ps).wish W) body tu) (hs:∀e,PSs (X.hold e) (b0::suite) ts) (hdb:(x==("__debug__" : Str))=false:=by decide)
  (hf:X.fn n=true\/X.e.scope.names.lookup n=some .local:=by first|show .inl rfl|show .inr rfl|assumption) :
  PS X (.Try body [.ExceptHandler (some<|.Name x np) (some n) (b0::suite) hp] [] [] pos) (PV X.K L i tx tu ts):=by
 intro Zx s Z H D I h;split ajq ?_;rcases h with h|h
 .refine aaO (hx Zx (λv s1=>wX X (noteFrame v X.e) (λ_ s2=>wX X (setFlight v none) (λ_ s3=>wX X (handleBy v X.e [.ExceptHandler (some<|.Name x np) (some n) (b0::suite) hp]) (SP X Zx D) X.xe s3) X.xe s2) X.xe s1) _ Z ?_ s H (I.toPin.wish _) h) (λf s1 q=>q.elim) λ_ _ z=>z;intro ps H1 s1 v s' J hx;let⟨e,cls,a0,fx,H',B,rfl,ho,hgn,un,hok,⟨hE,cx⟩,fl,k1,k2⟩:=hx;let⟨M,C,hM,rfl,hC,hh⟩:=hE;let⟨T,hm,hmt⟩:=hm;have hmt:=hmt M hM C hC;have J1:Inv X Zx Z H1 s1:=Inv.ofPin I.ok J.unwish;have fl:aiC B (X.e::X.o) e (.ref C) a0 s'.heap:=hst▸fl;have hfrm:X.A.frames=some (X.e::X.o):=by rw[I.ok.frames,hst]
  split ajI hfrm hfr fl λh4 held sm4=>?_;split wpAny_landsW held λh5 fl5 sm5=>?_;have sm5:=sm4.trans sm5
  -- the state ahead of the clause
  have J5:Inv X Zx Z H'<|s'.wh h5:=J1.call' ho (vM un k2 J1.nfS J1.stkFree fl.1 fl5.1 sm5) (nb hok fl.1 fl5.1 k1) hgn (λb z=>by ext z);let⟨oe,vs,he,hc,hd,_⟩:=fl5.first;split wpAny_handleBy_cons (codeAny_handlers_test<|fA (X:=X.hold e) (J5.hold e) hg hm ?_ hdb) (by intro z;ext z);have LT:PySem.W.Looks (ZJ X.p X.w) h5 (ah4<|.ref e)<|.ref C:=hc▸(akJ he).andThen .now;split (PySem.W.exm_one (J5.kIn) LT hmt).here ?_;split codeAny_handlers_suite_as ?_;split lands_againW fl5 λh6 fl6 sm6=>?_;have sm6:=sm5.trans sm6;let⟨oe,vs,he,hc,hd,_⟩:=fl6.first;have heB:H' e=none:=by
   cases q:H' e with
   |none=>rfl
   |some u=>let⟨o,q1⟩:=k1 e u q;rw[fl6.2.1] at q1;ext q1
  have un6:=vM un k2 J1.nfS J1.stkFree fl.1 fl6.1 sm6;have hnew:∀b o,s1.heap.get? b=some o->b≠e:=λb o q z=>by
   subst z;by_cases hz:b∈pF X.t
   .let⟨sl,q2⟩:=un6.slot b o q (J1.stkFree b hz) hz (by intro y;ext y);rw[he] at q2;ext q2;show J1.nfS b hz o q _ hd
   .let⟨o',q1⟩:=k2 b o q hz;rw[fl6.2.1] at q1;ext q1
  have J6:Inv X Zx Z (upd H' e<|zY C e)<|s'.wh h6:=by
   split J1.call' ho (ch:=[]) ⟨un6.keep,un6.slot,λb o q z y=>?_,un6.there,λb xs q=>?_,λb o u q=>?_,λb ps' q=>?_⟩ (λb u q=>?_) hgn (λb z=>by ext z)
   .rw[aR<|hnew b o q];show un6.free b o q z y
   .have:=un6.tups b xs q;rw[aR<|bF this heB];show this
   .have:=un6.frzs b o u q;rw[aR<|bF this heB];show this
   .let⟨mr,this⟩:=un6.tbls b ps' q;show⟨mr,by rw[aR<|bF this heB];show this⟩
   .have hok6:=nb hok fl.1 fl6.1 k1;by_cases hbe:b=e
    .subst hbe;rw[aH] at q;ext q;split⟨⟨oe,vs,he,hc,hd⟩,⟨oe,he⟩,λh1 h2 ⟨o1,v1,z1,z2,z3⟩ kk=>⟨o1,v1,kk _ z1,z2,z3⟩⟩
    .rw[aR hbe] at q;show (hok6 b u q).stay (λ_ _ _ z=>z) (λc z=>by rw[aR<|bF z heB];show z) λc xs z=>by rw[aR<|bF z heB];show z
  split nM (X:=X.hold e) (J6.hold e) hN hi (.inl hl) (v:=.ref e) rfl (λs7 J7=>?_) hf;split aaO (hs e Zx s7 _ _ _ J7<|hh e heB) (λf s8 q=>?_) λ_ _ z=>z.elim;cases f with
  |next=>
   let⟨Z8,H8,J8,q8⟩:=q;show LS (Inv.unhold I.ok J8) hN hi hl λs9 J9=>⟨_,H8,J9,q8⟩
  |brk=>let⟨_,_,_,z⟩:=q;show z.elim
  |cont=>let⟨_,_,_,z⟩:=q;show z.elim
  |ret u=>let⟨_,_,_,_,_,z⟩:=q;show z.elim
 .refine aaO (hu Zx (λv s1=>wX X (noteFrame v X.e) (λ_ s2=>wX X (setFlight v none) (λ_ s3=>wX X (handleBy v X.e [.ExceptHandler (some<|.Name x np) (some n) (b0::suite) hp]) (SP X Zx D) X.xe s3) X.xe s2) X.xe s1) [] s Z H D (I.toPin.wish _) h) (λf s1 q=>?_) λ_ _ z=>z;have q:SP X Zx D f s1:=by
   have q:=q.unwish;cases f with
   |next=>let⟨Z',H',J,z⟩:=q;show⟨Z',H',Inv.ofPin I.ok J,z⟩
   |brk=>let⟨Z',H',J,z⟩:=q;show⟨Z',H',Inv.ofPin I.ok J,z⟩
   |cont=>let⟨Z',H',J,z⟩:=q;show⟨Z',H',Inv.ofPin I.ok J,z⟩
   |ret u=>let⟨v,Z',H',J,r,z⟩:=q;show⟨v,Z',H',Inv.ofPin I.ok J,r,z⟩
  cases f with
  |next=>show ac0 q
  |brk|cont|ret _=>show q
end
end L2
namespace DY
def Hy:ahm (.type "dict") "__len__"=pure (some<|.builtin "dict.__len__"):=by rw[acv,acw];kernel_rfl
def Jx:aiD (.type "dict") (.type "dict")=pure true:=by rw[acB];kernel_rfl
section
variable {prog:ZL}{w:ZI}{A:ZP}{E:Ze}{s:ZD}{d I:ZB}{es:Array agS}{ep:Nat}
def DAt.kept{h':ZH}(x:DAt h d es ep)(k:∀o,h.get? d=some o->h'.get? d=some o):DAt h' d es ep:=let ⟨o,ho,r⟩:=x;⟨o,k o ho,r⟩
def Ki(hh:A.handled=none)(hne:d≠I)(es:Array agS)(ep:Nat) :
  Walks prog w A I [I,d] [I] es.size (λi v=>∃e,es[i]?=some e/\v=e.key) (λi h=>h.IsKeyIter I d i es.size ep/\DAt h d es ep) where
 sub:=λb hb=>by simp at hb;simp[hb]
 frame:=λi h h' st hk=>⟨st.1.at λo e=>hk I (by simp) o e,st.2.kept λo e=>hk d (by simp) o e⟩
 item:=λi s Q E hi st hQ=>yp st.1 st.2 hi λh' it' sb=>hQ es[i].key h' s.toks ⟨es[i],ae5 hi,rfl⟩ ⟨it',st.2.kept λo z=>by rw[sb.2 d hne];show z⟩ (λb o hb z=>by rw[sb.2 b λy=>hb<|by simp[y]];show z)
 done:=λs Q E st hQ=>nw hh st.1 st.2 (aaq _) λh' x=>hQ h' s.toks λb o hb z=>x b o (λy=>hb<|by simp[y]) z
 self:=λi s Q E st h=>af3 st.1 h
end
section
variable {prog:ZL}{w:ZI}{A:ZP}{s:ZD}{R:ag4->ZD->Prop}{d:ZB}{es:Array agS}{ep:Nat}
def LB(hh:A.handled=none)(hd:(d==agF)=false)(hm:DAt s.heap d es ep)(S:ZB)(res:ZE)(c₀:Nat)(hSd:S≠d)(hS:s.heap.get? S=some { cls:=.type "list",data:=.seq #[] c₀ }) (hn:es.size<=ZF)
  (hR:∀h' tk acc c,(∀b o,b≠S->s.heap.get? b=some o->h'.get? b=some o)->h'.get? S=some { cls:=.type "list",dict:=none,data:=.seq acc c,slots:=#[] }->ItemsOf (λi v=>∃e,es[i]?=some e/\v=e.key) acc es.size->R (.ok<|.ret res) (s.wt h' tk)) :
  ZG (ZJ prog w) A.in1 (aj3 (.ref S) (.ref d) res) (λfin s'=>match fin with|.done f=>R (.ok f) s' | .again c'=>c'.quiet=true/\agU (ZJ prog w) A c' R s') (λe s'=>R (.error e) s') s:=by
 let⟨o,ho,hex,hdat⟩:=id hm;have hT:s.TypeIs (.ref d) "dict" := ⟨o,ho,hex.1⟩
 have h1:ajw (.ref S) (.ref d)=false:=by simp[ajw,hSd]
 unfold aj3;split aaa<|acA hT ?_;rw[aad<|by rw[h1];decide];split aaa<|ud hd hm ?_;split aaa<|abc ?_;unfold akI;have hT2:Shared.TypeIs { s with heap:=s.heap.push { cls:=.type "dict_keyiterator",data:=.fields #[.ref d,.int 0 0,.int es.size 0,.int ep 0] } } (.ref d) "dict" := ⟨o,aas _ ho,hex.1⟩
 split aaa<|adb hT2 Hy ?_
 (generalize hid:("dict.__len__" : String)=id0;wp_delta;rw[show splitId id0=some ("dict", "__len__") from by subst hid;decide +kernel];subst hid)
 split aaa<|acF (b:=true) hT2 Jx ?_;rw[aad ⋯];dsimp only;rw[aac s!""];split aaa<|acA hT2 ?_;dsimp only;split aal ?_;rw[aac s!""];split aaa<|acu ?_;have hSl:S<s.heap.objs.size:=aaw hS;have hdl:d<s.heap.objs.size:=aaw ho;have hL2:(s.heap.push { cls:=.type "dict_keyiterator",data:=.fields #[.ref d,.int 0 0,.int es.size 0,.int ep 0] }).get? S=some { cls:=.type "list",data:=.seq #[] c₀ }:=aas _ hS;split aaa (m:=akE<|.ref S) ?_;show ZG _ _ (updateSeq S (·.push .none) >>= λ_=>updateSeq S (·.pop)) _ _ _;split aaa<|wpAny_updateSeq hL2 rfl ?_;have hL3:=ab5 (ahI (·.push ZX)) hL2 rfl;split wpAny_updateSeq hL3 rfl ?_;have hL4:=ab5 (ahI (·.pop)) hL3 rfl
 have hoth:∀b o,b≠S->(s.heap.push { cls:=.type "dict_keyiterator",data:=.fields #[.ref d,.int 0 0,.int es.size 0,.int ep 0] }).get? b=some o ->
   (((s.heap.push { cls:=.type "dict_keyiterator",data:=.fields #[.ref d,.int 0 0,.int es.size 0,.int ep 0] }).update S<|Obj.mapSeq (·.push ZX)).update S<|Obj.mapSeq (·.pop)).get? b=some o:=λb o hb e=>by
  rw[aem _ _ _ _ hb,aem _ _ _ _ hb];show e
 have hI:s.heap.objs.size≠S:=acm hSl;have hit:Heap.IsKeyIter (((s.heap.push { cls:=.type "dict_keyiterator",data:=.fields #[.ref d,.int 0 0,.int es.size 0,.int ep 0] }).update S<|Obj.mapSeq (·.push ZX)).update S<|Obj.mapSeq (·.pop)) s.heap.objs.size d 0 es.size ep:=
  ⟨_,hoth _ _ hI<|aaB _ rfl,rfl,rfl⟩
 have hm4:DAt (((s.heap.push { cls:=.type "dict_keyiterator",data:=.fields #[.ref d,.int 0 0,.int es.size 0,.int ep 0] }).update S<|Obj.mapSeq (·.push ZX)).update S<|Obj.mapSeq (·.pop)) d es ep:=hm.kept λo e=>hoth d o (aaI hSd)<|aas _ e;have hSf:S∉[s.heap.objs.size,d]:=by simp only[aau,aa3,aa4,not_or];show⟨aaC hSl,hSd⟩
 split aal ⟨adA F.plain_extend_loop _,codeAny_extend_loopS (Ki (A:=A.in1) (prog:=prog) (w:=w) hh (aaC hdl) es ep).toS hn _ hSf _ es.size 0 _ _ _ (aeR _) (aaL _) ⟨hit,hm4⟩ hL4 (ItemsOf.nil _) λs' acc c hmv hL' hacc=>?_⟩;have es':s'={ s with heap:=s'.heap,toks:=s'.toks }:=by let⟨h',g',d',tk',os'⟩:=s';have e1:=hmv.gens;have e2:=hmv.drawn;have e3:=hmv.os;dsimp only at e1 e2 e3;rw[e1,e2,e3]
 rw[es'];split hR s'.heap s'.toks acc c (λb o hb e=>?_) hL' hacc;have hlt:=aaw e;split hmv.heap b o (λz=>?_)<|hoth b o hb<|aas _ e;rcases aau.1 z with z|z
 .exact hb z
 .rw[aaG] at z;show absurd hlt (by rw[z];show acb _)
end
end DY
namespace L2
open PyProof.Rows
def CJ(kvs es:List<|bH×V):List<|bH×V:=es.foldl (λacc kv=>eJ acc kv.1 kv.2) kvs
theorem yU{k:bH}:∀ {kvs:List<|bH×V},k∉kvs.map (·.1)->fe kvs k=none
 |[],_=>rfl
 |p::kvs,h=>by rw[iV<|λe=>h<|by rw[<-e];show aaJ];show yU λz=>h<|aaK _ z
theorem mf:∀ {es kvs:List<|bH×V},(kvs.map (·.1)++es.map (·.1)).Nodup->CJ kvs es=kvs++es
 |[],kvs,_=>by rw[abf];rfl
 |e::es,kvs,h=>by
  have h1:e.1∉kvs.map (·.1):=λz=>by have:=(ae7.1 h).2.2 e.1 z e.1 aaJ;show this rfl
  show CJ (eJ kvs e.1 e.2) es=_;rw[sf e.2<|yU h1,mf<|by rw[ack,abY];show h,abY];rfl
end L2
namespace PySem
namespace ZT
section
variable {prog:ZL}{w:ZI}{A:ZP}{E:Ze}{s:ZD}
def nn(t:ZB):¬((ZO t==ZX)=true):=aa1
def Mp{it t:ZB}{i:Nat}{its:Array ZE}{x:ZE}{Q:Ze}(h1:s.heap.IsTupleIter it t i)(h2:s.heap.IsTuple t its)(hx:its[i]?=some x)
  (q:∀h',h'.IsTupleIter it t (i+1)->ahA it s.heap h'->Q x (s.wh h')):ZG (ZJ prog w) A (ahG<|.ref it) Q E s:=by
 let⟨o,ho,hc,hd⟩:=id h1;let⟨ot,hot,_,n,hdt⟩:=h2;unfold ahG;split aaa<|aci (name := "__next__") h1.typeIs aen<|abC aen h1.typeIs af7 ?_<|af8 _;show ZG _ _ (field (.ref it) 0 >>= _) _ _ _;split aaa<|aaU ho hd (x:=.ref t) rfl ?_;show ZG _ _ (if (ZO t==ZX)=true then _ else _) _ _ _;rw[aad<|nn t];show ZG _ _ (field (.ref it) 1 >>= _) _ _ _;split aaa<|aaU ho hd (x:=.int i 0) rfl ?_;show ZG _ _ (ai6 (.ref t) >>= _) _ _ _;split aaa<|acG hot hdt ?_;dsimp only;rw[show ((i:Int).toNat)=i from aj7 i,hx];split aaa<|acx ho hd (by simp)<|aal ⟨x,rfl,aal<|q _ ⟨_,ab5 _ ho<|acD<|abW hd _,(ad6 ..).trans hc,?_⟩<|acP ..⟩;rw[abW hd];simp[ZY]
def Sa{it t:ZB}{i:Nat}{its:Array ZE}{Q:Ze}(hh:A.handled=none)(h1:s.heap.IsTupleIter it t i)(h2:s.heap.IsTuple t its)(hx:its[i]?=none)
  (q:∀h' e,ajb it s.heap h'->(∃o,h'.get? e=some o/\o.cls=.type "StopIteration")->E (.ref e) (s.wh h')):ZG (ZJ prog w) A (ahG<|.ref it) Q E s:=by
 let⟨o,ho,hc,hd⟩:=id h1;let⟨ot,hot,_,n,hdt⟩:=h2;unfold ahG;split aaa<|aci (name := "__next__") h1.typeIs aen<|abC aen h1.typeIs af7 ?_<|af8 _;show ZG _ _ (field (.ref it) 0 >>= _) _ _ _;split aaa<|aaU ho hd (x:=.ref t) rfl ?_;show ZG _ _ (if (ZO t==ZX)=true then _ else _) _ _ _;rw[aad<|nn t];show ZG _ _ (field (.ref it) 1 >>= _) _ _ _;split aaa<|aaU ho hd (x:=.int i 0) rfl ?_;show ZG _ _ (ai6 (.ref t) >>= _) _ _ _;split aaa<|acG hot hdt ?_;dsimp only;rw[show ((i:Int).toNat)=i from aj7 i,hx];split aaa<|acu<|aaa<|acx ho hd (by simp) ?_;show ZG _ _ (ahn (.type "StopIteration") [] >>= _) _ _ _;split aaa ?_;simp only[ahn,aie];split aaa<|aa7 ?_ (by size_fits);split aaa (m:=ahr _ _)<|ab9 (a:=ZX) (by first|rfl|(simp only[ahr];rfl)) ?_;split aa7 ?_ (by size_fits);simp only[aiL];split aaa<|ad7 ?_;first|rw[show A.in1.handled=none from hh]|rw[hh]
 split aaa<|aal<|acE<|q _ _ (((acP ..).extBut.push _).push _) ⟨_,aaB _ rfl,rfl⟩
def Ft{z TI TO i1 i2 l1 l2:ZB}{k:Nat}{xs ys:Array ZE}{x y a b:ZE}{Q:Zi->ZD->Prop}(D:aij z TI TO i1 i2 l1 l2)(hz:ag1 s.heap z TI TO .none)(hI:agP s.heap TI (.ref i1)<|.ref i2)(hO:agP s.heap TO a b)
  (h1:s.heap.IsTupleIter i1 l1 k) (h2:s.heap.IsListIter i2 l2 k) (g1:s.heap.IsTuple l1 xs) (g2:s.heap.IsList l2 ys) (hx:xs[k]?=some x) (hy:ys[k]?=some y)
  (q:∀h',ag1 h' z TI TO (ZY s.heap.objs.size)->agP h' TO x y->h'.IsTupleIter i1 l1 (k+1)->h'.IsListIter i2 l2 (k+1)->agP h' s.heap.objs.size x y->h'.objs.size=s.heap.objs.size+1->(∀c o,c≠z->c≠TO->c≠i1->c≠i2->s.heap.get? c=some o->h'.get? c=some o)->Q (some<|.ref s.heap.objs.size) (s.wh h')) :
  ZG (ZJ prog w) A (agO<|.ref z) Q E s:=by
 have hT:s.TypeIs (.ref z) "zip" := ⟨_,hz,rfl⟩
 unfold agO;split aaa<|acj<|aci (name := "__next__") hT aeo<|abC aeo hT ajG ?_<|af9 _;show ZG _ _ (field (.ref z) 2 >>= _) _ _ _;split aaa<|aaU hz rfl (x:=.bool false) rfl ?_;show ZG _ _ (field (.ref z) 3 >>= _) _ _ _;split aaa<|aaU hz rfl (x:=.ref TI) rfl ?_;split aaa<|acG hI rfl ?_;show ZG _ _ (aiG (.ref z) >>= _) _ _ _;split aaa ?_;unfold aiG;split aaa<|aaU hz rfl (x:=.none) rfl<|aal ?_;simp only[ab3];split aaa<|acu<|aaa<|aaU hz rfl (x:=.ref TO) rfl<|aaa<|adK hz (by simp) λu1 z1 s1=>?_;replace z1:ag1 u1 z TI TO .ellipsis:=z1;split aaa ?_;simp only[ajs,ajJ,adv,aef];split aaa<|aaa<|aea ?_;show ZG _ _ (ahG (.ref i1) >>= _) _ _ _;split aaa<|Mp (h1.extBut s1.extBut D.i1z) (g1.at λo e=>s1.extBut _ _ D.l1z e) hx λu2 a2 s2=>aal ?_;have o2:agP u2 TO a b:=s2.extBut _ _ D.TOi1<|s1.extBut _ _ D.TOz hO;split aaa<|acG o2 rfl<|aaa<|aga o2 λu3 o3 s3=>?_;replace o3:agP u3 TO x b:=o3;split aaa<|wpAny_letGo<|aal (aaa (aaa (aea ?_)));show ZG _ _ (ahG (.ref i2) >>= _) _ _ _;split aaa<|wpAny_nextOf_list_item (h2.at λo e=>s3.extBut _ _ D.TOi2.symm<|s2.extBut _ _ D.i12.symm<|s1.extBut _ _ D.i2z e) (g2.at λo e=>s3.extBut _ _ D.l2TO<|s2.extBut _ _ D.l2i1<|s1.extBut _ _ D.l2z e) hy λu4 b4 s4=>aal ?_;have o4:agP u4 TO x b:=s4.extBut _ _ D.TOi2 o3;split aaa<|acG o4 rfl<|aaa<|aga o4 λu5 o5 s5=>?_;replace o5:agP u5 TO x y:=o5;split aaa<|wpAny_letGo<|aal (aal (aaa (acG o5 rfl (aaa (wpAny_newTuple ?_)))));have hs:u5.objs.size=s.heap.objs.size:=s5.1.trans<|s4.1.trans<|s3.1.trans<|s2.1.trans s1.1;have z5:ag1 u5 z TI TO .ellipsis:=s5.extBut _ _ D.TOz.symm<|s4.extBut _ _ D.i2z.symm<|s3.extBut _ _ D.TOz.symm<|s2.extBut _ _ D.i1z.symm z1;have k5:∀c o,c≠z->c≠TO->c≠i1->c≠i2->s.heap.get? c=some o->u5.get? c=some o:=λc o c1 c2 c3 c4 e=>s5.extBut _ _ c2<|s4.extBut _ _ c4<|s3.extBut _ _ c2<|s2.extBut _ _ c3<|s1.extBut _ _ c1 e;have a5:u5.IsTupleIter i1 l1<|k+1:=a2.at λo e=>s5.extBut _ _ D.TOi1.symm<|s4.extBut _ _ D.i12<|s3.extBut _ _ D.TOi1.symm e;have b5:u5.IsListIter i2 l2<|k+1:=b4.at λo e=>s5.extBut _ _ D.TOi2.symm e;have zl:z<u5.objs.size:=aaw z5;show ZG _ _ (ajy (.ref z) (.ref u5.objs.size) >>= _) _ _ _;split aaa ?_;unfold ajy;have z6:ag1 (u5.push { cls:=.type "tuple",data:=.seq #[x,y] }) z TI TO .ellipsis:=aas _ z5;split aaa<|adK z6 (by simp) λu7 z7 s7=>?_;replace z7:ag1 u7 z TI TO<|rawInt u5.objs.size:=z7;split adK z7 (by simp) λu8 z8 s8=>?_;replace z8:ag1 u8 z TI TO<|rawInt u5.objs.size:=z8;have up:∀c o,c≠z->u5.get? c=some o->u8.get? c=some o:=λc o n e=>s8.extBut _ _ n<|s7.extBut _ _ n<|aas _ e;have t8:agP u8 u5.objs.size x y:=s8.extBut _ _ (acm zl)<|s7.extBut _ _ (acm zl)<|aaB _ rfl;have e8:u8.objs.size=u5.objs.size+1:=by rw[s8.1,s7.1,ach]
 rw[hs] at z8 t8 e8;split aal ⟨_,rfl,aal ?_⟩;show Q (some<|.ref u5.objs.size) _;rw[hs];show q u8 z8 (up _ _ D.TOz o5) (a5.at λo e=>up _ o D.i1z e) (b5.at λo e=>up _ o D.i2z e) t8 e8 λc o c1 c2 c3 c4 e=>up c o c1<|k5 c o c1 c2 c3 c4 e
def JU{z TI TO i1 i2 l1 l2:ZB}{k:Nat}{xs:Array ZE}{a b:ZE}{Q:Zi->ZD->Prop}(hh:A.handled=none)(D:aij z TI TO i1 i2 l1 l2)(hz:ag1 s.heap z TI TO .none)(hI:agP s.heap TI (.ref i1)<|.ref i2)(hO:agP s.heap TO a b)
  (h1:s.heap.IsTupleIter i1 l1 k) (g1:s.heap.IsTuple l1 xs) (hx:xs[k]?=none) (q:∀h',(∀c o,c≠z->c≠i1->s.heap.get? c=some o->h'.get? c=some o)->Q none (s.wh h')):ZG (ZJ prog w) A (agO<|.ref z) Q E s:=by
 have hT:s.TypeIs (.ref z) "zip" := ⟨_,hz,rfl⟩
 unfold agO;split aaa<|acj<|aci (name := "__next__") hT aeo<|abC aeo hT ajG ?_<|af9 _;show ZG _ _ (field (.ref z) 2 >>= _) _ _ _;split aaa<|aaU hz rfl (x:=.bool false) rfl ?_;show ZG _ _ (field (.ref z) 3 >>= _) _ _ _;split aaa<|aaU hz rfl (x:=.ref TI) rfl ?_;split aaa<|acG hI rfl ?_;show ZG _ _ (aiG (.ref z) >>= _) _ _ _;split aaa ?_;unfold aiG;split aaa<|aaU hz rfl (x:=.none) rfl<|aal ?_;simp only[ab3];split aaa<|acu<|aaa<|aaU hz rfl (x:=.ref TO) rfl<|aaa<|adK hz (by simp) λu1 z1 s1=>?_;replace z1:ag1 u1 z TI TO .ellipsis:=z1;split aaa ?_;simp only[ajs,ajJ,adv,aef];split aaa<|aaa<|aea ?_;show ZG _ _ (ahG (.ref i1) >>= _) _ _ _;split aaa<|Sa hh (h1.extBut s1.extBut D.i1z) (g1.at λo e=>s1.extBut _ _ D.l1z e) hx λu2 e s2 he=>?_;let⟨oe,hoe,hce⟩:=he;have z2:ag1 u2 z TI TO .ellipsis:=s2 _ _ D.i1z.symm z1;have ez:e≠z:=λx=>by subst x;rw[z2] at hoe;ext hoe;simp at hce
 split adK z2 (by simp) λu3 _ s3=>?_;split aaa<|acF (T := "StopIteration") (b:=true) ⟨oe,s3.extBut _ _ ez hoe,hce⟩ aeU<|aal<|q _ λc o c1 c3 x=>s3.extBut _ _ c1<|s2 _ _ c3<|s1.extBut _ _ c1 x
abbrev H1(h:ZH)(l:ZB):ZH:=h.push { cls:=.type "tuple_iterator",data:=.fields #[.ref l,.int 0 0] }
abbrev H2(h:ZH)(l m:ZB):ZH:=(H1 h l).push { cls:=.type "list_iterator",data:=.fields #[.ref m,.int 0 0] }
abbrev H3(h:ZH)(l m:ZB):ZH:=(H2 h l m).push { cls:=.type "tuple",data:=.seq #[.ref h.objs.size,.ref (H1 h l).objs.size] }
abbrev H4(h:ZH)(l m:ZB):ZH:=(H3 h l m).push { cls:=.type "tuple",data:=.seq #[.none,.none] }
abbrev H5(h:ZH)(l m:ZB):ZH:=(H4 h l m).push { cls:=.type "zip",data:=.fields #[.none,.bool false,.bool false,.ref (H2 h l m).objs.size,.ref (H3 h l m).objs.size] }
def made(l m:ZB)(xs ys:Array ZE):Meets (Builtin.«zip.__new__» ⟨[.type "zip",.ref l,.ref m],[]⟩)<|λ_ R s=>s.heap.IsTuple l xs/\s.heap.IsList m ys/\R (.ok<|.ret<|.ref (H4 s.heap l m).objs.size) { s with heap:=H5 s.heap l m }:=
 .of_wp λprog w A R s h=>by
  let⟨hp,g,d,tk,os⟩:=s;let⟨q1,q2,h⟩:=h;have hsub:=sub_zip;have k1:Heap.IsTuple (aj8 ⟨hp,g,d,tk,os⟩) l xs:=q1;have k2:Heap.IsList (aj8 ⟨H1 hp l,g,d,tk,os⟩) m ys:=Heap.IsList.push q2 _
  wp_walk using aeP k1,adx k2
  show⟨_,rfl,h⟩
def Gi{l m:ZB}{xs ys:Array ZE}{Q:Ze}(q1:s.heap.IsTuple l xs)(q2:s.heap.IsList m ys)
  (h:∀h',ag1 h' (s.heap.objs.size+4) (s.heap.objs.size+2) (s.heap.objs.size+3) .none->agP h' (s.heap.objs.size+2) (.ref s.heap.objs.size) (.ref<|s.heap.objs.size+1)->agP h' (s.heap.objs.size+3) .none .none->h'.IsTupleIter s.heap.objs.size l 0->h'.IsListIter (s.heap.objs.size+1) m 0 ->
   (∀c o,s.heap.get? c=some o->h'.get? c=some o)->Q (.ref<|s.heap.objs.size+4) (s.wh h')):ZG (ZJ prog w) A (call (.type "zip") [.ref l,.ref m]) Q E s:=by
 split callType_new F.called_zip ⋯ (F.typeCall_zip_2 _ _) (F.newCall_zip_2 _ _) (λobj=>F.args_object_init_3 obj _ _) F.entry_zip_new (made l m xs ys) ⟨q1,q2,?_⟩;have y1:(H1 s.heap l).objs.size=s.heap.objs.size+1:=ach ..;have y2:(H2 s.heap l m).objs.size=s.heap.objs.size+2:=by rw[ach,y1]
 have y3:(H3 s.heap l m).objs.size=s.heap.objs.size+3:=by rw[ach,y2]
 have y4:(H4 s.heap l m).objs.size=s.heap.objs.size+4:=by rw[ach,y3]
 have e5:(H5 s.heap l m).get? (H4 s.heap l m).objs.size=some _:=aaB _ rfl;have e4:(H5 s.heap l m).get? (H3 s.heap l m).objs.size=some _:=aas _<|aaB _ rfl;have e3:(H5 s.heap l m).get? (H2 s.heap l m).objs.size=some _:=aas _<|aas _<|aaB _ rfl;have e2:(H5 s.heap l m).get? (H1 s.heap l).objs.size=some _:=aas _<|aas _<|aas _<|aaB _ rfl;have e1:(H5 s.heap l m).get? s.heap.objs.size=some _:=aas _<|aas _<|aas _<|aas _<|aaB _ rfl;show _/\_;rw[y2,y3,y4] at e5;rw[y1,y2] at e3;rw[y3] at e4;rw[y1] at e2;rw[y4];show⟨⟨_,e5,rfl⟩,h _ e5 e3 e4 ⟨_,e1,rfl,rfl⟩ ⟨_,e2,rfl,rfl⟩ λc o x=>aas _<|aas _<|aas _<|aas _<|aas _ x⟩
end
end ZT
end PySem
namespace L2
open PyProof.Rows
def QG:agz "zip"=some (.type "zip"):=by decide +kernel
section
variable {X:Cx}{Zx:Zf}{Z:List<|Option V}{H:Hp}{s:ZD}{h':ZH}
def Inv.turnedN{t':Nat}{ch:Zk}(I:Inv X Zx Z H s)(k:∀b o,b∉ch->s.heap.get? b=some o->h'.get? b=some o)(hc:∀b∈ch,mz X Zx H b):Inv X Zx Z H { s with heap:=h',toks:=t' }:=by
 have nin:∀b u,H b=some u->b∉ch:=λb u e z=>by rw[(hc b z).1] at e;ext e
 split I.step (g':=s.gens) (d':=s.drawn) (ch:=ch) (λb hb=>?_) (λb o _ _ hc e _=>k b o hc e) (λb o _ _ hc e _=>⟨o.slots,k b o hc e⟩) (λ_ _ _ _ n=>n)
  (λb o hc e=>⟨o,k b o hc e⟩) (λ_ _ e=>e) (λ_ _ _ e=>e) (λb ps e=>⟨#[],by rw[e];simp⟩) (λm hm=>?_) (λb u e=>?_) I.bare
 .let⟨f0,f1,f2,f3,f4,f5⟩:=hc b hb;show⟨f3,f1,f4,f5⟩
 .let⟨o,es,ep,ho,r⟩:=hm;show⟨o,es,ep,k _ o (λz=>(hc _ z).2.1 rfl) ho,r⟩
 .refine (I.hok b u e).stay (λc v hc q=>k c v ?_ q) (λ_ q=>q) λ_ _ q=>q;rcases hc with z|z
  .rw[z];show nin b u e
  .exact nin c _ z
end
def Itz(K:Zj)(a b:ZB)(xs ys:Za):It:=
 ⟨λi H=>(SqT K H a xs/\SqL K H b ys)/\∃x y,xs[i]?=some x/\ys[i]?=some y,λi H v H'=>∃p x y,v=.ref p/\H p=none/\xs[i]?=some x/\ys[i]?=some y/\H'=upd H p (.T [x,y]),λi H=>SqT K H a xs/\xs.length=i⟩
def iZp(K:Zj)(ta:TA):TI:=λZ H R=>ta Z H λvs H1=>∃a b xs ys,vs=[.ref a,.ref b]/\SqT K H1 a xs/\SqL K H1 b ys/\R (Itz K a b xs ys) H1
def Kx{n t l:Nat}(h1:t<n)(h2:l<n):aij (n+4) (n+2) (n+3) n (n+1) t l:=by constructor<;>(intro z;show absurd (show (_:Nat)=_ from z) ())
section
variable {X:Cx}
def JX{P:ZL}{w:ZI}{K:Zj}{elts:List ZA}{x1:Nat}{pos:Pos}{z TI TO i1 i2 a b:ZB}(D:aij z TI TO i1 i2 a b)(xs ys:Za) :
  Turn P w K (.Tuple elts x1 pos) (Itz K a b xs ys) [z,TI,TO,i1,i2] z (λi h=>ag1 h z TI TO .none/\agP h TI (.ref i1) (.ref i2)/\(∃u v,agP h TO u v)/\h.IsTupleIter i1 a i/\h.IsListIter i2 b i) where
 mem:=by simp
 obj:=λi h st c hc=>by
  let⟨hz,hI,⟨u,v,hO⟩,⟨o1,e1,_,d1⟩,⟨o2,e2,_,d2⟩⟩:=st;simp only[aau,aa3,aa4] at hc;rcases hc with rfl|rfl|rfl|rfl|rfl
  .exact⟨_,hz,λv z=>by ext z⟩
  .exact⟨_,hI,λv z=>by ext z⟩
  .exact⟨_,hO,λv z=>by ext z⟩
  .exact⟨o1,e1,λv z=>by rw[d1] at z;ext z⟩
  .exact⟨o2,e2,λv z=>by rw[d2] at z;ext z⟩
 keep:=λi h h' st k=>by let⟨hz,hI,⟨u,v,hO⟩,h1,h2⟩:=st;show⟨k z (by simp) _ hz,k TI (by simp) _ hI,⟨u,v,k TO (by simp) _ hO⟩,h1.at λo x=>k i1 (by simp) o x,h2.at λo x=>k i2 (by simp) o x⟩
 item:=by
  intro X hP hw hK hc i Zx s Z H E I hf st hg;subst hP hw hK;let⟨⟨hq1,hq2⟩,x,y,hx,hy⟩:=hg;let⟨hz,hI,⟨u0,v0,hO⟩,h1,h2⟩:=st;let⟨its,rv,p1,_⟩:=I.tuple hq1;let⟨jts,rw',p2,_⟩:=I.list hq2;let⟨u,hu,ru⟩:=rv.get hx;let⟨v,hv,rv'⟩:=rw'.get hy;have lt:∀c o,s.heap.get? c=some o->c<s.heap.objs.size:=λc o e=>aaw e;split ZT.Ft D hz hI hO h1 h2 p1 p2.isList (x:=u) (y:=v) (~~~hu) (~~~hv) λk1 a1 a2 a3 a4 a5 a6 a7=>⟨_,rfl,?_⟩
  split wpAny_letOwnedTupleGo_zip (s:={ s with heap:=k1 }) a1 λk2 z2 s2=>?_;replace s2:ahA z k1 k2:=s2;have I1:Inv X Zx Z (upd H s.heap.objs.size<|.T [x,y]) { s with heap:=s.heap.push { cls:=.type "tuple",data:=.seq #[u,v] },toks:=s.toks }:=by split I.laid (λb o q=>aas _ q) (aaq _) ⟨?_,[u,v],.cons ru<|.cons rv' .nil,TupN.new _ _⟩;rw[aaS,aay,aay,abP];decide
  have el:∀c∈[z,TI,TO,i1,i2],c<s.heap.objs.size:=λc hc=>by
   simp only[aau,aa3,aa4] at hc;rcases hc with rfl|rfl|rfl|rfl|rfl
   .exact lt _ _ hz
   .exact lt _ _ hI
   .exact lt _ _ hO
   .let⟨_,e,_⟩:=h1;show lt _ _ e
   .let⟨_,e,_⟩:=h2;show lt _ _ e
  have f1:∀c∈[z,TI,TO,i1,i2],mz X Zx (upd H s.heap.objs.size<|.T [x,y]) c:=λc hc=>⟨by rw[aR<|aaC<|el c hc];show (hf c hc).1,(hf c hc).2⟩
  have I2:Inv X Zx Z (upd H s.heap.objs.size<|.T [x,y]) { s with heap:=k2,toks:=s.toks }:=by
   split Inv.turnedN (s:={ s with heap:=s.heap.push { cls:=.type "tuple",data:=.seq #[u,v] },toks:=s.toks }) (ch:=[z,TO,i1,i2]) I1 (λc o n q=>?_) λc hc=>f1 c (by simp only[aau,aa3,aa4] at hc;rcases hc with rfl|rfl|rfl|rfl<;>simp);simp only[aau,aa3,aa4,not_or] at n;rw[s2.2 c n.1];rcases Heap.get?_push_cases q with ⟨rfl,rfl⟩|q
   .exact a5
   .exact a7 c o n.1 n.2.1 n.2.2.1 n.2.2.2 q
  have up:∀c o,c≠z->k1.get? c=some o->k2.get? c=some o:=λc o n e=>(s2.2 c n).trans e;split⟨.ref s.heap.objs.size,_,I2,rfl,⟨_,x,y,rfl,I.hok.fresh<|aaq _,hx,hy,rfl⟩,⟨z2,?_,⟨_,_,up _ _ D.TOz a2⟩,a3.at λo e=>up _ o D.i1z e,a4.at λo e=>up _ o D.i2z e⟩,λc hc=>(f1 c hc).1⟩;show up _ _ D.TIz<|a7 _ _ D.TIz D.TITO D.TIi1 D.TIi2 hI
 done:=by
  intro X hP hw hK hc i Zx s Z H E I hf st hg;subst hP hw hK;let⟨hq,hx⟩:=hg;let⟨hz,hI,⟨u0,v0,hO⟩,h1,h2⟩:=st;let⟨its,rv,p,_⟩:=I.tuple hq;have hl:=rv.length;split ZT.JU (I.ok.hd hc) D hz hI hO h1 p (by simp;lia) λk1 hk=>⟨rfl,?_⟩
  split Inv.turnedN (t':=s.toks) (ch:=[z,i1]) I (λc o n e=>?_) λc hc=>hf c (by simp only[aau,aa3,aa4] at hc;rcases hc with rfl|rfl<;>simp);simp only[aau,aa3,aa4,not_or] at n;show hk c o n.1 n.2 e
 self:=λ_ _ _ _ _ st h=>akx st.1 h
def SV{elts:List ZA}{x1:Nat}{tpos:Pos}{a b:ZA}{ta:TA}{p pos:Pos}(hg:Gl X "zip") (hm:X.mg "zip"=none) (ha:PA X [a,b] ta) (hs:ZQ [a,b] X.e=(false,ZN a X.e)::ZQ [b] X.e:=by rfl) (hpl:(ZU pos<|starEach [b] X.e).any (·.1)=false:=by rfl) :
  PI X (.Tuple elts x1 tpos) (.Call (.Name "zip" p) [a,b] [] pos) (iZp X.K ta):=by
 intro Zx s Z H R I h;split Call_<|j7 I hg hm QG<|ac1 (bz (ha pos Zx s Z H _ I h) λus s1 h1=>?_) hs hpl;let⟨vs,H1,I1,r1,t,l,xs,ys,rfl,hq,hq2,q⟩:=h1;let⟨u1,u2,rfl,e1,e2⟩:=Vals.two r1;cases (show u1=ZO t from e1);cases (show u2=ZO l from e2);let⟨its,rv,p1,_⟩:=I1.tuple hq;let⟨jts,rw',p2,_⟩:=I1.list hq2;have l1:t<s1.heap.objs.size:=by let⟨_,e,_⟩:=p1;show aaw e
 have l2:l<s1.heap.objs.size:=by let⟨_,e,_⟩:=p2.isList;show aaw e
 split ZT.Gi p1 p2.isList λh' hz hI hO hi1 hi2 kp=>?_;have I2:Inv X Zx Z H1<|s1.wh h':=I1.kept (t':=s1.toks) kp;split akx (s:=(s1.wh h')) hz ?_;have D:aij (s1.heap.objs.size+4) (s1.heap.objs.size+2) (s1.heap.objs.size+3) s1.heap.objs.size (s1.heap.objs.size+1) t l:=Kx l1 l2;split⟨s1.heap.objs.size+4,_,_,_,H1,rfl,I2,JX D xs ys,⟨hz,hI,⟨_,_,hO⟩,hi1,hi2⟩,λb hb=>?_,q⟩;simp only[aau,aa3,aa4] at hb;rcases hb with rfl|rfl|rfl|rfl|rfl<;>show I1.fpOk ()<|I1.hok.fresh ()
end
end L2
namespace PySem
def Txt.splitM(x y:Str)(k:Int):Zl:=
 if (decide (x.length<y.length) || decide (agT x<agT y))=true then [x] else if (agL x y 0 x.length<|limitOf x k).isEmpty=true then [x] else aiY x (agL x y 0 x.length<|limitOf x k) y.length
def uH(x y:Str)(k:Int)(t u v:Tok)(hk:(decide (k < -(2^63:Int)) || decide (k ≥ 2^63))=false)(hy:(y.length==0)=false)
  (h:(decide (x.length<y.length) || decide (agT x<agT y))=true\/(decide (x.length<y.length) || decide (agT x<agT y))=false/\(agL x y 0 x.length<|limitOf x k).isEmpty=true) :
  Meets (Builtin.«str.split» ⟨[.str x t,.str y u,.int k v],[]⟩) (λ_ R s=>R (.ok<|.ret<|.ref s.heap.objs.size) { s with heap:=s.heap.push { cls:=.type "list",data:=.seq #[.str x t] } }):=by
 let⟨raising,htree⟩:=split_sep_max_tree x y k t u v hk;split .of_wp λprog w A R s q=>?_;rw[htree];rcases h with h|⟨h,hf⟩
 .rw[aac h];show aaa<|acu<|aaa<|adL (aal ⟨_,rfl,q⟩) (by show 1<=ZF;decide)
 .rw[aad<|by rw[h];decide,aad<|by rw[hy];decide,aac<|by rw[hf];rfl];show aaa<|acu<|aaa<|adL (aal ⟨_,rfl,q⟩) (by show 1<=ZF;decide)
end PySem
namespace L2
open PyProof.Rows
section
variable {X:Cx}
def rSplitM:V->Za->Hp->VK->Prop:=λx vs H Q=>∃y z,∃k:Int,x=.str y/\vs=[.str z,.int k]/\z.length≠0/\y.length+2<=ZF/\(0<=k/\k<1000)/\∀l,H l=none->Q (.ref l) (upd H l<|.L<|(Txt.splitM y z k).map V.str)
def EI:MtR X "str.split" rSplitM:=by
 intro Zx s Z H x vs v us Q I rx rv h;let⟨y,z,k,rfl,rfl,hz,hy,⟨k0,k1⟩,q⟩:=h;let⟨t,rfl⟩:=rx;let⟨u1,u2,rfl,e1,e2⟩:=Vals.two rv;let⟨t',rfl⟩:=e1;let⟨t2,rfl⟩:=e2;have hz':(z.length==0)=false:=by simpa using hz
 have hk:(decide (k < -(2^63:Int)) || decide (k ≥ 2^63))=false:=by rw[Bool.or_eq_false_iff];show⟨aaA (),aaA ()⟩
 have fin:∀(ys:Zl) (its:Zh) (tk:Nat),Txt.splitM y z k=ys->Vals (ys.map V.str) its->ys.length<=ZF->EP X Zx Z Q (.ref s.heap.objs.size) { s with heap:=s.heap.push { cls:=.type "list",data:=.seq its.toArray },toks:=tk }:=λys its tk e r hl=>by subst e;split⟨.ref s.heap.objs.size,_,I.laid (o:=.L<|(Txt.splitM y z k).map V.str) (λb ob q=>aas _ q) (aaq _) ?_,rfl,q _<|I.hok.fresh<|aaq _⟩;show⟨by rw[aar];show hl,its,0,r,aaB _ rfl⟩
 cases h1:(decide (y.length<z.length) || decide (agT y<agT z)) with
 |true=>
  split ab7 ade (ab4 _ _ _) adf (ae8 _ _ _) (uH y z k t t' t2 hk hz'<|.inl h1) ?_;show fin [y] [.str y t] s.toks (by unfold Txt.splitM;rw[aac h1]) (.cons ⟨t,rfl⟩ .nil) (by show 1<=ZF;decide)
 |false=>
  cases hf:(agL y z 0 y.length<|limitOf y k).isEmpty with
  |true=>
   split ab7 ade (ab4 _ _ _) adf (ae8 _ _ _) (uH y z k t t' t2 hk hz'<|.inr ⟨h1,hf⟩) ?_;show fin [y] [.str y t] s.toks (by unfold Txt.splitM;rw[aad<|by rw[h1];decide,aac hf]) (.cons ⟨t,rfl⟩ .nil) (by show 1<=ZF;decide)
  |false=>
   have hl:(aiY y (agL y z 0 y.length<|limitOf y k) z.length).length<=ZF:=by rw[afR];have:=afS y z 0 y.length<|limitOf y k;lia
   split ab7 ade (ab4 _ _ _) adf (ae8 _ _ _) (meets_str_split_sep_max y z k t t' t2 hk h1 hz' hf (aaN (acS _ _) hy) hl) ?_;show fin _ _ _ (by unfold Txt.splitM;rw[aad<|by rw[h1];decide,aad<|by rw[hf];decide]) (oM _ _) hl
def CM(K:Zj):V->Za->Hp->VK->Prop:=λx vs H Q=>∃p,∃bs:List Bool,x=.ref p/\vs=[.B true]/\SqL K H p (bs.map V.B)/\Q (.int<|bs.count true) H
theorem uA(h:ZH):∀ {bs:List Bool} {us:Zh},Vals (bs.map V.B) us->ReadsAll h us (bs.map aka) []
 |[],us,r=>by ext r;show .nil
 |b::bs,us,r=>by
  cases r with
  |cons a r=>cases (show _=ahp b from a);show .cons (as:=[]) (.bool b)<|uA h r
theorem oY:∀bs:List Bool,countIn (.bool true) (bs.map aka)=(bs.count true:Nat)
 |[]=>rfl
 |b::bs=>by rw[aax,countIn,oY bs,List.count_cons];cases b<;>simp[same];lia
def EG:MtR X "list.count" (CM X.K):=by intro Zx s Z H x vs v us Q I rx rv h;let⟨p,bs,rfl,rfl,hS,q⟩:=h;cases (show v=ZO p from rx);let⟨u,rfl,ru⟩:=rv.one;cases (show u=ahp true from ru);let⟨its,rl,pl,_⟩:=I.list hS;split count_list_bools pl.isList (uA s.heap rl) (by simp[Shape.has]) ?_;rw[oY];show⟨.int _,H,I.tok _,⟨_,rfl⟩,q⟩
end
def Bd(K:Zj)(Ns:Zl)(m:Str)(sp:Sp)(E:XK)(ta:TE)(t:TA):TE:=λZ H Q=>ta Z H λx H1=>∃a C dx fs,KM K Ns H1 x a C dx fs/\fs.lookup m=none/\t Z H1 λvs H2=>sp (x::vs) H2 Q E
def YT(K:Zj)(Ns:Zl)(m:Str)(sp:Sp)(ta:TE)(t:TA):XK->St->Hp->Prop:=λE Z H=>ta Z H λx H1=>∃a C dx fs,KM K Ns H1 x a C dx fs/\fs.lookup m=none/\t Z H1 λvs H2=>sp (x::vs) H2 (λ_ _=>False) E
section
variable {X:Cx}{CX:BA}{o e:ZA}{es:List ZA}{m:Str}{pos apos spos:Pos}{ta:TE}{t:TA}{Ns:Zl}{k:Nat}{g:ZB}{fd:ZW}{ps:Zl}{sp:Sp}{E:XK}
def Iq{pl:Sem Bool}(hc:kR X.K Ns λC=>Cls X.K C/\Meth X.K C m g)(F:Zs X.p X.w X.K X.mg X.ba CX k g fd ps sp)(hr:Zr k X.A)(hb:Binds X.K fd ps [])(hx:dF CX X E)(he:PE X o ta)(ha:PA X (e::es) t)
  (hst:ZQ (e::es) X.e=(false,ZN e X.e)::ZQ es X.e:=by rfl) (hpl:(ZU pos<|starEach es X.e).any (·.1)=false:=by rfl)
  (ht:ZN (.Call (.Attribute o m apos) (e::es) [] pos) X.e=(do
   let ov ← ZN o X.e
   ag3 apos.atName
   let (f,first) ← agI [ov] (ag8 ov m pl)
   ahx pos f first (ZU pos<|starEach (e::es) X.e) (agX pos<|keywordEach [] X.e)):=by rfl):PE X (.Call (.Attribute o m apos) (e::es) [] pos)<|Bd X.K Ns m sp E ta t:=by
 intro Zx s Z H Q I h;split adz (pl:=pl) (bz (he Zx s Z H _ I h) λu s1 Zy=>?_) ht;let⟨x,H1,I1,rx,a,C,dx,fs,⟨ex,⟨N,hN,hC⟩,ea⟩,l,q⟩:=Zy;subst ex;obtain rfl:u=ZO a:=rx;let⟨c,hm⟩:=hc N hN C hC;split gA I1 ea c hm l<|adt (first:=[.ref a]) (h₀:=X.ba) I.ok.mod.kin hm.kp (bz (ha pos Zx s1 Z H1 _ I1 q) λus s2 ⟨vs,H2,I2,r,q2⟩=>⟨I2.kIn,?_⟩) hst hpl;show mj (us:=.ref a::us) (vs:=.ref a::vs) (dvs:=[]) F hr hb .nil hx I2 (.cons rfl r) (by rw[abf];show q2)
def EW{pl:Sem Bool}(hc:kR X.K Ns λC=>Cls X.K C/\Meth X.K C m g)(F:Zs X.p X.w X.K X.mg X.ba CX k g fd ps sp)(hr:Zr k X.A)(hb:Binds X.K fd ps [])(hx:dF CX X E)(he:PE X o ta)
  (ht:ZN (.Call (.Attribute o m apos) [] [] pos) X.e=(do
   let ov ← ZN o X.e
   ag3 apos.atName
   let (f,first) ← agI [ov] (ag8 ov m pl)
   ahx pos f first (ZU pos<|starEach [] X.e) (agX pos<|keywordEach [] X.e)):=by rfl):PE X (.Call (.Attribute o m apos) [] [] pos)<|Bd X.K Ns m sp E ta tD:=by
 intro Zx s Z H Q I h;split adz (pl:=pl) (bz (he Zx s Z H _ I h) λu s1 Zy=>?_) ht;let⟨x,H1,I1,rx,a,C,dx,fs,⟨ex,⟨N,hN,hC⟩,ea⟩,l,q⟩:=Zy;subst ex;obtain rfl:u=ZO a:=rx;let⟨c,hm⟩:=hc N hN C hC;show gA I1 ea c hm l<|ad3 (first:=[.ref a]) I1.kIn hm.kp<|mj (us:=[.ref a]) (vs:=[.ref a]) (dvs:=[]) F hr hb .nil hx I1 (.cons rfl .nil) q
def ME{pl:Sem Bool}(hc:kR X.K Ns λC=>Cls X.K C/\Meth X.K C m g)(F:Zs X.p X.w X.K X.mg X.ba (qf X.p X.w) k g fd ps sp)(hr:Zr k X.A)(hb:Binds X.K fd ps [])(he:∀ps W,PE ((X.pin ps).wish W) o ta)(ha:∀ps W,PA ((X.pin ps).wish W) (e::es) t)
  (hst:ZQ (e::es) X.e=(false,ZN e X.e)::ZQ es X.e:=by rfl) (hpl:(ZU pos<|starEach es X.e).any (·.1)=false:=by rfl)
  (ht:ZN (.Call (.Attribute o m apos) (e::es) [] pos) X.e=(do
   let ov ← ZN o X.e
   ag3 apos.atName
   let (f,first) ← agI [ov] (ag8 ov m pl)
   ahx pos f first (ZU pos<|starEach (e::es) X.e) (agX pos<|keywordEach [] X.e)):=by rfl)
  (hs:ahM (.Call (.Attribute o m apos) (e::es) [] pos) none spos.line X.e=pure false:=by rfl):PB X [.Expr (.Call (.Attribute o m apos) (e::es) [] pos) spos]<|YT X.K Ns m sp ta t:=by
 intro ps' W E Z hx s H I h;split aex<|bz (wpAny_Expr_any (Q:=λ_ _=>False) (bz (Q:=EP ((X.pin ps').wish W) [] Z λ_ _=>False) ?_ λv s1 ⟨_,_,_,_,q⟩=>q.elim) I.quiet hs) λ_ _ q=>q.elim;split PySem.W.methodCall_KW (pl:=pl) (bz (he ps' W [] s Z H _ I h) λu s1 Zy=>?_) ht;let⟨x,H1,I1,rx,a,C,dx,fs,⟨ex,⟨N,hN,hC⟩,ea⟩,l,q⟩:=Zy;subst ex;obtain rfl:u=ZO a:=rx;let⟨c,hm⟩:=hc N hN C hC;split gA (X:=(X.pin ps').wish W) I1 ea c hm l<|PySem.W.callWith_K (first:=[.ref a]) (h₀:=X.ba) I.ok.mod.kin hm.kp (bz (ha ps' W pos [] s1 Z H1 _ I1 q) λus s2 ⟨vs,H2,I2,r,q2⟩=>⟨I2.kIn,?_⟩) hst hpl;show Ja (X:=(X.pin ps').wish W) (us:=.ref a::us) (vs:=.ref a::vs) F hr hb hx I2 (.cons rfl r) q2
end
inductive EntOk(w:ZI):List agS->List (Str×V)->Prop where
 |nil:EntOk w [] []
 |cons {x:Str} {t:Tok} {u:ZE} {v:V} {h:Int} {es:List agS} {kvs:List (Str×V)}:h=WG w (.inr x)->RelV v u->EntOk w es kvs->EntOk w (⟨h,.str x t,u⟩::es) ((x,v)::kvs)
def OV(kvs:List<|Str×V):List<|bH×V:=kvs.map λkv=>(agE kv.1,kv.2)
def FM(w:ZI)(K:Zj)(a:ZB)(kvs:List<|Str×V):Prop:=∃es n,K.lookup a=some ⟨.type "dict",none,.dict (ajS es) n,#[]⟩/\EntOk w es kvs/\(kvs.map (·.1)).Nodup/\a≠agF
def Rc{P:ZL}{w:ZI}{es:List agS}{kvs:List<|Str×V}(h:EntOk w es kvs):∃vs,KV (OV kvs) vs/\Pairs (aI P w) es vs/\vs.map (·.1)=kvs.map (λkv=>agE kv.1)/\∀e∈es,∃k,(aI P w).is k e.key=true/\e.hash=(aI P w).hash k:=by
 induction h with
 |nil=>show⟨[],.nil,.nil,rfl,λ_ z=>by ext z⟩
 | @cons x t u v hh es kvs e r _ ih=>
  let⟨vs,h1,h2,h3,h4⟩:=ih;have ky:(aI P w).is (.inr x) (.str x t)=true:=jy (P:=P) (w:=w) (k:=.inr x) ⟨t,rfl⟩;split⟨(agE x,u)::vs,.cons ⟨rfl,r⟩ h1,.cons ky rfl h2,#v[aax,aax,h3],λd hd=>?_⟩;rcases aau.1 hd with rfl|hd
  .exact⟨.inr x,ky,e⟩
  .exact h4 d hd
def Be{P:ZL}{w:ZI}{K:Zj}{a:ZB}{kvs:List<|Str×V}{h:ZH}(t:FM w K a kvs)(X:K.In h):(a==agF)=false/\∃vs,KV (OV kvs) vs/\h.DictOf (aI P w) a vs:=by let⟨es,n,lk,eo,nd,ne⟩:=t;let⟨vs,h1,h2,h3,h4⟩:=Rc (P:=P) eo;split⟨acy.2 ne,vs,h1,_,_,n,X _ _ lk,⟨rfl,rfl,rfl⟩,rfl,λe he=>h4 e<|~~~he,~~~h2,?_⟩;rw[h3];show ae9.2<|List.Pairwise.imp (λz y=>z<|ado y)<|ae9.1 nd
def JA(neg:Bool)(kvs:List<|Str×V)(te:TE):TE:=λZ H Q=>te Z H λy H1=>∃x,y=.str x/\Q (.B<|neg ^^ (fe (OV kvs)<|.inr x).isSome) H1
def Jz(kvs:List<|Str×V)(te:TE):TE:=λZ H Q=>te Z H λy H1=>∃x v,y=.str x/\fe (OV kvs) (.inr x)=some v/\Q v H1
section
variable {X:Cx}{n:Str}{i:ZA}{ti:TE}{a:ZB}{kvs:List<|Str×V}{p pos:Pos}
def MG(t:FM X.w X.K a kvs)(hg:Gl X n)(hm:X.mg n=some (.ref a))(hi:PE X i ti)(hdb:(n==("__debug__" : Str))=false:=by decide):PC X .In i (.Name n p)<|JA false kvs ti:=by intro Zx s Z H Q I h;split bz (hi Zx s Z H _ I h) λiv s1 ⟨y,H1,I1,ry,x,ey,q1⟩=>fA I1 hg hm ?_ hdb;subst ey;let⟨hd,vs,rel,dd⟩:=Be (P:=X.p) t I1.kIn;split wpAny_in_of (jy (k:=.inr x) ry) hd dd.mapOf ?_;rw[<-(rel.val<|Sum.inr x).isSome_eq];show⟨.B _,H1,I1.tok _,rfl,by rw[ajC] at q1;show q1⟩
def AG(t:FM X.w X.K a kvs)(hg:Gl X n)(hm:X.mg n=some (.ref a))(hi:PE X i ti)(hdb:(n==("__debug__" : Str))=false:=by decide):PC X .NotIn i (.Name n p)<|JA true kvs ti:=by intro Zx s Z H Q I h;split bz (hi Zx s Z H _ I h) λiv s1 ⟨y,H1,I1,ry,x,ey,q1⟩=>fA I1 hg hm ?_ hdb;subst ey;let⟨hd,vs,rel,dd⟩:=Be (P:=X.p) t I1.kIn;split wpAny_notIn_of (jy (k:=.inr x) ry) hd dd.mapOf ?_;rw[<-(rel.val<|Sum.inr x).isSome_eq];show⟨.B _,H1,I1.tok _,rfl,by rw[aj2] at q1;show q1⟩
def HZ(t:FM X.w X.K a kvs)(hg:Gl X n)(hm:X.mg n=some (.ref a))(hi:PE X i ti)(hs:KN i)(hdb:(n==("__debug__" : Str))=false:=by decide):PE X (.Subscript (.Name n p) i pos)<|Jz kvs ti:=by intro Zx s Z H Q I h;split Df afU.lookup hs<|fA I hg hm (bz (hi Zx s Z H _ I h) λiv s2 Zy=>?_) hdb;let⟨y,H2,I2,ry,x,v,ex,g,q2⟩:=Zy;subst ex;let⟨hd,vs,rel,dd⟩:=Be (P:=X.p) t I2.kIn;let⟨w',hw,rw'⟩:=RelO.some_of (v:=v) (o:=ahw vs<|Sum.inr x) (by rw[<-g];show rel.val<|Sum.inr x);show⟨dd.typeIs,akl (jy (k:=.inr x) ry) dd.mapOf hw ⟨v,H2,I2.tok _,rw',q2⟩⟩
end
end L2
namespace DY
open PyProof.Rows
section
variable {prog:ZL}{w:ZI}{A:ZP}{E:Ze}{s:ZD}{d:ZB}{es:Array agS}{ep:Nat}
def Hf{R:ag4->ZD->Prop}(hh:A.handled=none)(hd:(d==agF)=false)(hm:DAt s.heap d es ep)(S:ZB)(c₀:Nat)(hSd:S≠d)(hS:s.heap.get? S=some { cls:=.type "list",data:=.seq #[] c₀ }) (hn:es.size<=ZF)
  (hR:∀h' tk acc c,(∀b o,b≠S->s.heap.get? b=some o->h'.get? b=some o)->h'.get? S=some { cls:=.type "list",dict:=none,data:=.seq acc c,slots:=#[] }->ItemsOf (λi v=>∃e,es[i]?=some e/\v=e.key) acc es.size->R (.ok<|.ret<|.ref S) (s.wt h' tk)):agU (ZJ prog w) A (.builtin "list.__iadd__" ⟨[.ref S,.ref d],[]⟩) R s:=by
 split adC PySem.F.entry_list_iadd ?_;rw[aeg agb _];show LB hh hd hm S (.ref S) c₀ hSd hS hn hR
def xD{Q:Zh->ZD->Prop}(hh:A.handled=none)(hd:(d==agF)=false)(hm:DAt s.heap d es ep)(hn:es.size<=ZF)
  (hQ:∀h' tk (acc:Array ZE),ItemsOf (λi v=>∃e,es[i]?=some e/\v=e.key) acc es.size->(∀b o,s.heap.get? b=some o->h'.get? b=some o)->s.heap.objs.size<h'.objs.size->Q acc.toList (s.wt h' tk)):ZG (ZJ prog w) A (collect<|.ref d) Q E s:=by
 let⟨o,ho,hex,hdat⟩:=id hm;have hlt:d<s.heap.objs.size:=aaw ho;unfold collect;split aaa<|wpAny_runValue<|adC PySem.F.entry_proto_collect ?_;rw[aeg PySem.F.plain_proto_collect _];show ZG _ A.in1 (newList [] >>= λl=>ahD<|.builtin "list.__iadd__" ⟨[l,.ref d],[]⟩) _ _ s;split aaa<|aa7 ?_;split aal ⟨adA agb _,Hf (s:={ s with heap:=s.heap.push { cls:=.type "list",data:=.seq ([]:Zh).toArray } }) hh hd (hm.kept λo e=>aas _ e) s.heap.objs.size 0 (acm hlt) (aaB _ rfl) hn λh' tk acc c old hS it=>?_⟩;show ZG _ A (load s.heap.objs.size >>= _) _ _ _;split aaa<|wpAny_load (s:=(s.wt h' tk)) hS ?_;show aal<|hQ h' tk acc it (λb o e=>old b o (aaC<|aaw e)<|aas _ e)<|aaw hS
def AW{ys:Zl}{Q:Ze}(hh:A.handled=none)(hd:(d==agF)=false)(hm:DAt s.heap d es ep)(hk:ah0 (es.toList.map (·.key)) ys)(hn:ys.length<64)
  (h:∀h' tk l c (out:Array ZE) (zs:Zl),s.heap.objs.size<=l->h'.get? l=some (ahh "list" out c)->ah0 out.toList zs->zs.Perm ys->sortedS zs=true->(∀b o,s.heap.get? b=some o->h'.get? b=some o)->Q (.ref l) (s.wt h' tk)) :
  ZG (ZJ prog w) A (call (.builtin "sorted") [.ref d]) Q E s:=by
 have hsz:es.size=ys.length:=by have:=hk.length;rw[aar,adZ] at this;show this
 split agc kind_sorted plain_sorted entry_sorted (args_sorted1 _) ?_;unfold Builtin.«sorted»;split aaa (m:=checkCount "sorted" 1 1 _)<|aal<|aaa<|xD hh hd hm (by rw[hsz,aaS];lia) λh1 tk1 acc it old1 hge=>?_;have ev:acc.toList=es.toList.map (·.key):=by
  apply List.ext_getElem?;intro i;rw[aaX,adu,adu];cases q:acc[i]? with
  |none=>
   rw[Array.getElem?_eq_none_iff,it.1] at q;rw[af2 q];rfl
  |some v=>let⟨e,e1,e2⟩:=it.2 i v q;rw[e1,e2];rfl
 have hS:ah0 acc.toList ys:=by rw[ev];show hk
 have hl:acc.toList.length=ys.length:=hS.length;split aaa<|adL ?_ (by rw[hl,aaS];lia);have at1:(h1.push<|seqObj "list" acc.toList.toArray 0).get? h1.objs.size=some (ahh "list" acc.toList.toArray 0):=aaB _ rfl;split aaa<|abc<|abC slot_list_sort ⟨_,at1,rfl⟩ akd (list_sort_treeK strKind_oneLt at1 hS.keysOf (λv₁ v₂ rest e=>keyKind_strs<|by rw[<-e];show hS) (by rw[hl];show hn) λst' a1 a2=>⟨_,rfl,aal ⟨_,rfl,?_⟩⟩)<|args_list_sort _;let⟨zs,g1,g2,g3⟩:=sorted_out_str hS a1 a2;let⟨c,at2⟩:=sortedHeap_at (out:=(arrOf st').map (·.2)) at1;split h _ tk1 h1.objs.size c _ zs (adq hge) at2 g1 g2 g3 λb o e=>?_;have hlt:=aaw<|old1 b o e;rw[sortedHeap_old (aaC hlt)<|by rw[afa];show adw hlt];show aas _<|old1 b o e
end
end DY
namespace L2
open PyProof.Rows
def sg:Za->Hp->VK->Prop:=λxs H Q=>∃a kvs,∃ys:Zl,xs=[.ref a]/\Rd H a (.dK kvs)/\kvs.map (·.1)=ys.map agE/\ys.length<64/\∀(zs:Zl) l,zs.Perm ys->sortedS zs=true->H l=none->Q (.ref l) (upd H l<|.L<|zs.map V.str)
theorem uf{P:ZL}{w:ZI}:∀ {es:List agS} {vs:List<|bH×ZE} {ys:Zl},Pairs (aI P w) es vs->vs.map (·.1)=ys.map agE->ah0 (es.map (·.key)) ys
 |[],vs,ys,h,e=>by
  ext h;cases ys with
  |nil=>show .nil
  |cons _ _=>ext e
 |x::es,vs,ys,h,e=>by
  cases h with
  |cons a b c=>
   cases ys with
   |nil=>ext e
   |cons y ys=>
    rw[aax,aax] at e;let⟨e1,e2⟩:=List.cons.inj e;rcases b6 (show rq _ _=true from a) with ⟨i,t,q,_⟩|⟨z,t,q,q2⟩
    .rw[e1] at q;ext q
    .rw[e1] at q;ext q;rw[aax,q2];show .cons _ _<|uf c e2
theorem uJ:∀ {us:Zh} {zs:Zl},ah0 us zs->Vals (zs.map V.str) us
 |_,_,.nil=>.nil
 |_,_,.cons _ _ h=>.cons ⟨_,rfl⟩<|uJ h
def Ma{kvs:List<|bH×V}{vs:List<|bH×ZE}(h:KV kvs vs):vs.map (·.1)=kvs.map (·.1):=by
 induction h with
 |nil=>rfl
 |cons a _ ih=>rw[aax,aax,a.1,ih]
def vk{X:Cx}(hc:X.c=true):CallR X (.builtin "sorted") sg:=by intro Zx s Z H xs us Q I r h;let⟨a,kvs,ys,rfl,hd,hk,hn,q⟩:=h;let⟨u,rfl,ru⟩:=r.one;cases (show u=ZO a from ru);let⟨z,hs,vs,rel,o,es,ep,ho,hex,hdat,hko,hp,hnd⟩:=mU I.hok hd;split DY.AW (I.ok.hd hc) hs (show DY.DAt s.heap a es ep from ⟨o,ho,hex,hdat⟩) (uf hp<|by rw[Ma rel];show hk) hn λh' tk l c out zs hl at2 g1 g2 g3 old=>?_;split⟨.ref l,upd H l<|.L<|zs.map V.str,I.laid (a:=l) (o:=.L<|zs.map V.str) (h':=h') (t':=tk) old hl ?_,rfl,q zs l g2 g3<|I.hok.fresh hl⟩;show⟨by rw[aar,g2.length_eq,aaS];lia,out.toList,c,uJ g1,~~~at2⟩
end L2
namespace M
open L2
def Em(x:Str):Zl->Zl
 |[]=>[x]
 |y::l=>if ajg y.cps.toList x.cps.toList=true then y::Em x l else x::y::l
def lm(ys:Zl):Zl:=ys.foldr Em []
def ub(x:Str)(l:Zl):(Em x l).Perm (x::l):=by
 induction l with
 |nil=>show .refl _
 |cons y l ih=>
  unfold Em;split
  .exact (ih.cons y).trans<|.swap x y l
  .exact .refl _
def jr(ys:Zl):(lm ys).Perm ys:=by
 induction ys with
 |nil=>show .refl _
 |cons x l ih=>show (ub x<|lm l).trans<|ih.cons x
abbrev Et(a b:Str):Prop:=ajg b.cps.toList a.cps.toList=false
def Zv{a b:Str}:Et a b↔a.cps.toList<=b.cps.toList:=by unfold Et;rw[agd,decide_eq_false_iff_not];show List.not_lt
def ug{a b c:Str}(h:Et a b)(k:Et b c):Et a c:=Zv.2<|List.le_trans (Zv.1 h)<|Zv.1 k
def yc{a b:Str}(h:Et a b)(k:Et b a):a=b:=by
 have:=List.le_antisymm (Zv.1 h)<|Zv.1 k;let⟨x⟩:=a;let⟨y⟩:=b;have:x=y:=by simpa using aaF ajS this
 rw[this]
set_option tactic.hygienic true in
theorem Cc(x:Str):∀l:Zl,l.Pairwise Et->(Em x l).Pairwise Et
 |[],_=>acV.2 ⟨λ_ z=>(nomatch z),.nil⟩
 |y::l,h=>by
  let⟨h1,h2⟩:=acV.1 h;unfold Em;split
  .rename_i e;split acV.2 ⟨λz hz=>?_,Cc x l h2⟩;rcases aau.1 ((ub x l).mem_iff.mp hz) with rfl|hz
   .rw[agd,ab0] at e;show Zv.2<|List.le_of_lt e
   .exact h1 z hz
  .rename_i e;have e':Et x y:=by simpa using e
   split acV.2 ⟨λz hz=>?_,h⟩;rcases aau.1 hz with rfl|hz
   .exact e'
   .exact ug e'<|h1 z hz
def sv(ys:Zl):(lm ys).Pairwise Et:=by
 induction ys with
 |nil=>show .nil
 |cons x l ih=>show Cc x _ ih
theorem uB:∀(x:Str) (l:Zl),akb x l=true->(x::l).Pairwise Et
 |x,[],_=>acV.2 ⟨λ_ z=>(nomatch z),.nil⟩
 |x,y::l,h=>by
  have h:(!ajg y.cps.toList x.cps.toList&&akb y l)=true:=h;rw[aaV,ad9] at h;have ih:=uB y l h.2;split acV.2 ⟨λz hz=>?_,ih⟩;rcases aau.1 hz with rfl|hz
  .exact h.1
  .exact ug h.1<|(acV.1 ih).1 z hz
def AV{ys zs:Zl}(hp:zs.Perm ys)(h:akL zs=true):zs=lm ys:=by
 have pw:zs.Pairwise Et:=by
  cases zs with
  |nil=>show .nil
  |cons x l=>show uB x l h
 show age (λa b _ _ h k=>yc h k) pw (sv ys)<|hp.trans (jr ys).symm
end M
namespace L2
open PyProof.Rows
def EU{X:Cx}{k:Nat}{g C:ZB}{fd:ZW}{ps:Zl}{sp:Sp}{N:Str}{p pos:Pos}(hN:agA X.K ZK N=some (some<|.ref C))(M:Mk X.K C g)(F:Zs X.p X.w X.K X.mg X.ba my k g fd ps sp)(hr:Zr (k+1) X.A)(hg:Gl X N)(hm:X.mg N=some (.ref C))(hb:Binds X.K fd ps [])(hx:dF my X E0)
  (hdb:(N==("__debug__" : Str))=false:=by decide):PE X (.Call (.Name N p) [] [] pos)<|Bb X.K N sp tD:=λa b c d q I h=>Il M F hr hg hm hb .nil hx hdb a b c d q I<|h C hN
end L2
namespace Sup
open PySem.W PyProof.Rows
abbrev at'(p:Array Nat)(i:Nat):Nat:=p.getD i 0
def Vb{O:Type}(r:O->O->Bool):List O->Bool
 |a::b::l=>r a b&&Vb r (b::l)
 |_=>true
theorem Bl{O:Type}{r:O->O->Bool}{d:O}:∀ {l:List O},Vb r l=true->∀i,i+1<l.length->r (l.getD i d) (l.getD (i+1) d)=true
 |[],_,i,h=>absurd h<|afb _
 |[_],_,i,h=>absurd (agf h)<|afb _
 |a::b::l,e,i,h=>by
  have e:(r a b&&Vb r (b::l))=true:=e;rw[aaV] at e;cases i with
  |zero=>show e.1
  |succ i=>show Bl (l:=b::l) e.2 i<|agf h
theorem HJ:∀f n r,r<=1->minRun' f n r<=n+r
 |0,n,r,_=>aaq _
 |f+1,n,r,h=>by
  rw[minRun'_succ];split
  .exact aaq _
  .have:=HJ f (n/2) (max r<|n%2) ();lia
section
variable {prog:ZL}{w:ZI}{A:ZP}{E:Ze}{s:ZD}{G:aif}{it:Array Keyed}{n:Nat}{lt:Nat->Nat->Bool}{p:Array Nat}{pend:Array<|Nat×Nat×Nat}{st:aha}
def KH(prog:ZL)(w:ZI)(A:ZP)(s:ZD)(G:aif)(it:Array Keyed)(n:Nat)(lt:Nat->Nat->Bool):Prop:=
 ∀i j (C:Bool->ZD->Prop),i<n->j<n->C (lt i j) s->kas_cmp prog w A G it i j C s
def w_lt(hc:KH prog w A s G it n lt){i j:Nat}{Q:Option Bool->aha->Prop}{st:aha}(hk:kindOf st=G)(hi:i<n)(hj:j<n)(h:Q (some<|lt i j) st):wpS (ZJ prog w) A E s (lt' (aiA it i)<|kas_item it j) Q st:=by rw[lt'_eq];split abR<|adM ?_;rw[hk];split abR<|wpS_lift<|acj<|aaO (hc i j (λc s'=>s'=s/\c=lt i j) hi hj ⟨rfl,rfl⟩) (λc s' h'=>?_) λ_ _ hF=>hF.elim;let⟨rfl,rfl⟩:=h';show⟨rfl,acH h⟩
def Kh{X:Array Nat}{k:Nat}{Q:Keyed->aha->Prop}{st:aha}(hk:k<X.size)(h:Q (aiA it<|at' X k) st):wpS (ZJ prog w) A E s (elem' (X.map<|kas_item it) k) Q st:=by
 rw[elem'_eq];have e:at' X k=X[k]:=by simp[at',hk]
 rw[e] at h;have e2:(X.map<|kas_item it)[k]?=some (aiA it X[k]):=by simp[hk]
 rw[e2];show acH h
def Qf(G:aif)(it:Array Keyed)(st:aha)(p:Array Nat)(pend:Array<|Nat×Nat×Nat):Prop:=kindOf st=G/\arrOf st=p.map (aiA it)/\pendingOf st=pend/\aiS st=none
def Vf(hc:KH prog w A s G it n lt)(S:Qf G it st p pend)(hp:∀i,i<p.size->at' p i<n){i j:Nat}{Q:Option Bool->aha->Prop}(hi:i<p.size)(hj:j<p.size)(h:Q (some<|lt (at' p i)<|at' p j) st):wpS (ZJ prog w) A E s (ltAt' i j) Q st:=by rw[ltAt'_eq];split abR<|adM ?_;dsimp only;rw[S.2.1];show abR<|Kh hi<|abR<|Kh hj<|w_lt hc S.1 (hp _ hi) (hp _ hj) h
def Vh{Z O:Type}{M:ahP}{c:Prop}[Decidable c]{a b:StateT Z Sem O}{Q:O->Z->Prop}{st:Z}(h1:c->wpS M A E s a Q st)(h2:¬c->wpS M A E s b Q st):wpS M A E s (if c then a else b) Q st:=by
 by_cases h:c
 .rw[aac h];show h1 h
 .rw[aad h];show h2 h
def NQ(hc:KH prog w A s G it n lt)(S:Qf G it st p pend)(hp:∀i,i<p.size->at' p i<n){m:Nat}{Q:Option Nat->aha->Prop}(h1:1<=m)(hz:m<=p.size)(hu:∀x,x+1<m->lt (at' p<|x+1) (at' p x)=false)(h:Q (some m) st):wpS (ZJ prog w) A E s (countRun' 0 m) Q st:=by
 split abR<|wpS_mono (afc (I:=λx c st'=>st'=st/\c=(none,x)) (Q:=λc st'=>st'=st/\c=(none,m)) ?s1 ?f1 ?i1) ?p1
 case i1=>show⟨rfl,rfl⟩
 case f1=>
  rintro c st' ⟨rfl,rfl⟩;show⟨rfl,#v[show max 1 m=m by lia]⟩
 case s1=>
  rintro x c st' hx0 hx ⟨rfl,rfl⟩;dsimp only;split abR<|Vf hc S hp () () ?_;obtain⟨y,rfl⟩:∃y,x=y+1:=⟨x-1,()⟩
  rw[show 0+(y+1)-1=y by lia,acR,hu y hx];show acH ⟨rfl,rfl⟩
 case p1=>
  rintro c st' ⟨rfl,rfl⟩;dsimp -zeta only
  extract_lets -underBinder r n
  change wpS (ZJ prog w) A E s (ite _ _ _) Q st';show Vh (λ_=>acH h) λe=>absurd (afd m) e
def Vg(hc:KH prog w A s G it n lt)(S:Qf G it st p #[])(hp:∀i,i<p.size->at' p i<n)(h0:1<=p.size)(hu:∀x,x+1<p.size->lt (at' p<|x+1) (at' p x)=false){Q:Unit->aha->Prop}
  (h:∀pend' st',Qf G it st' p pend'->Q Unit.unit st'):wpS (ZJ prog w) A E s sortRuns' Q st:=by
 rw[sortRuns'_eq];split abR<|adM ?_;dsimp only;rw[S.2.1,Array.size_map];have hm:=HJ p.size p.size 0<|aaL 1;generalize minRun' p.size p.size 0=minrun at *
 split abR (wpS_mono (afc (I:=λx c st'=>(x=0/\c=(none,0)/\Qf G it st' p #[])\/(1<=x/\c=(none,p.size)/\Qf G it st' p #[(0,p.size,0)]))
  (Q:=λc st'=>c=(none,p.size)/\Qf G it st' p #[(0,p.size,0)]) ?s1 ?f1 (.inl ⟨rfl,rfl,S⟩)) ?p1)
 case f1=>
  rintro c st' (⟨hx,_⟩|⟨_,hx⟩)
  .lia
  .exact hx
 case s1=>
  rintro x c st' _ hx (⟨rfl,rfl,S'⟩|⟨hx1,rfl,S'⟩)
  .dsimp only;rw[aad ()];split abR<|NQ hc S' hp h0 (aaq _) hu ?_;dsimp only;rw[aad (show ¬p.size-0<minrun by lia)];split abR<|adM ?_;rw[S'.2.2.1];split abR<|wpS_modify<|acH<|.inr ⟨(),by rw[acR];rfl,S'.1,S'.2.1,?_,S'.2.2.2⟩;show (pendingOf st').push _=_;rw[S'.2.2.1];rfl
  .dsimp only;rw[aac<|aaq _];show acH ⟨rfl,S'⟩
 case p1=>
  rintro⟨c,c'⟩ st' ⟨hc1,S'⟩;ext hc1;dsimp only;split abR<|wpS_mono (afc (I:=λ_ c st''=>st''=st'/\c=(none,Unit.unit)) (Q:=λc st''=>st''=st'/\c=(none,Unit.unit)) ?_ (λ_ _ h=>h) ⟨rfl,rfl⟩) ?_
  .rintro x c st'' _ _ ⟨rfl,rfl⟩;split abR<|adM ?_;rw[S'.2.2.1];show acH ⟨rfl,rfl⟩
  .rintro c st'' ⟨rfl,rfl⟩;show acH<|h _ _ S'
end
section
variable {prog:ZL}{w:ZI}{A:ZP}{E:Ze}{s:ZD}
structure Known(prog:ZL)(w:ZI)(s:ZD)(vs:Zh)(G:aif)(lt:Nat->Nat->Bool):Prop where
 kind:∀(A:ZP) (E:Ze) (h':ZH) (Q:aif->ZD->Prop),(∀b o,s.heap.get? b=some o->h'.get? b=some o)->2<=vs.length->Q G (s.wh h')->ZG (ZJ prog w) A (keyKind' vs.toArray) Q E (s.wh h')
 ask:∀(A:ZP) (h':ZH) (i j:Nat) (C:Bool->ZD->Prop),(∀b o,s.heap.get? b=some o->h'.get? b=some o)->i<vs.length->j<vs.length->C (lt i j) (s.wh h')->kas_ask prog w A G vs i j C (s.wh h')
def Known.on{lt:Nat->Nat->Bool}{h:ZH}(k:Known prog w s vs G lt)(hk:∀b o,s.heap.get? b=some o->h.get? b=some o):Known prog w (s.wh h) vs G lt:=
 ⟨λA E h' Q h2=>k.kind A E h' Q λb o e=>h2 b o<|hk b o e,λA h' i j C h2=>k.ask A h' i j C λb o e=>h2 b o<|hk b o e⟩
def HE{vs:Zh}{n:Nat} {lt:Nat->Nat->Bool}{P:PySem.Fin->ZD->Prop}(ho:s.heap.get? a=some (ahh "list" vs.toArray n)) (hN:vs.length<=ZF)
  (hk:∀h',(∀b o,b≠a->s.heap.get? b=some o->h'.get? b=some o)->Known prog w (s.wh h') vs G lt)
  (hu:∀x,x+1<vs.length->lt (x+1) x=false) (h:P (.done<|.ret .none) { s with heap:=sortedHeap s.heap a vs vs.toArray }):ZG (ZJ prog w) A (Builtin.«list.sort» ⟨[.ref a],[]⟩) P E s:=by
 have ha:a<s.heap.objs.size:=aaw ho;obtain⟨e1,ho1⟩:∃e1,(s.heap.update a (ahI λ_=>#[])).get? a=some (ahh "list" #[] e1):=⟨_,get?_update_seq ho λ_=>#[]⟩
 have ne1:a≠((s.heap.update a<|Obj.mapSeq λ_=>#[]).push<|seqObj "tuple" vs.toArray 0).objs.size:=by rw[afa,afe];show aaC<|adw ha
 have ne2:a≠(s.heap.update a<|Obj.mapSeq λ_=>#[]).objs.size:=by rw[afe];show aaC ha
 have ho6:(((s.heap.update a<|Obj.mapSeq λ_=>#[]).push<|seqObj "tuple" vs.toArray 0).push<|seqObj "list" #[] 0).get? a=some (ahh "list" #[] e1):=by rw[agg _ _ _ ne1,agg _ _ _ ne2,ho1]
 have keep:∀b q,b≠a->s.heap.get? b=some q->(((s.heap.update a<|Obj.mapSeq λ_=>#[]).push<|seqObj "tuple" vs.toArray 0).push<|seqObj "list" #[] 0).get? b=some q:=λb q hb hq=>
  aas _ (aas _<|(aem _ _ _ _ hb).trans hq)
 have K:=hk _ keep;rw[list_sort_plain];split aaa<|listItems_at ho rfl<|aaa<|listUpdate_at ho rfl<|aaa<|seqEpoch_at ho1 rfl<|aaa<|wpAny_newTuple<|aaa<|adL<|abc ?_;dsimp only;have hn:vs.toArray.size=vs.length:=by simp
 have fin:∀(st:aha),(arrOf st).map (·.2)=vs.toArray->aiS st=none ->
   ZG (ZJ prog w) A (do
    let touched:=(← seqEpoch a) != e1
    akO (.ref a) λ_=>(arrOf st).map (·.2)
    if let some e:=aiS st then rule "list.sort.comparison-raised"; throw e
    if touched then rule "list.sort.modified"; raiseError "ValueError" "list modified during sort"
    ret .none) P E { s with heap:=((s.heap.update a<|Obj.mapSeq λ_=>#[]).push<|seqObj "tuple" vs.toArray 0).push (ahh "list" #[] 0) }:=λst ho2 hf=>by
  have hz:vs.toArray.size<=ZF+1:=by rw[hn];lia
  rw[ho2,hf];split aaa<|seqEpoch_at ho6 rfl<|aaa<|listUpdate_at ho6 rfl ?_ (hsz2:=hz);simp only[bne_self_eq_false,adc,abZ];show aal h
 have zm:((vs.toArray.zip vs.toArray).map (·.2))=vs.toArray:=by
  apply Array.ext
  .simp
  .intro i h1 h2;simp
 by_cases h2:vs.toArray.size<2
 .rw[aac h2,aac h2];split aaa<|aal ?_;rw[StateT.run_pure];show aaa<|aal<|fin _ zm rfl
 .rw[aad h2,aad h2];split aaa<|K.kind _ _ _ _ (λ_ _ e=>e) () ?_;have esz:(vs.toArray.zip vs.toArray).size=vs.length:=by simp
  have er:=kas_range<|vs.toArray.zip vs.toArray;rw[esz] at er;have at0:∀i,i<(ZV vs.length).toArray.size->at' (ZV vs.length).toArray i=i:=λi hi=>by simp at hi;simp[at',hi]
  have run:=Vg (prog:=prog) (w:=w) (A:=A) (E:=E) (G:=G) (it:=vs.toArray.zip vs.toArray) (n:=vs.length) (lt:=lt) (p:=(ZV vs.length).toArray) (st:=SortSt.mk' G (vs.toArray.zip vs.toArray) #[] 7 none)
   (s:={ s with heap:=((s.heap.update a<|Obj.mapSeq λ_=>#[]).push<|seqObj "tuple" vs.toArray 0).push (ahh "list" #[] 0) })
   (Q:=λ_ st=>(arrOf st).map (·.2)=vs.toArray/\aiS st=none)
   (λi j C hi hj hc=>by rw[<-kat_ask_eq (ks:=vs) (vs:=vs) rfl];show K.ask _ _ i j C (λ_ _ e=>e) hi hj hc) ⟨rfl,er.symm,rfl,rfl⟩ (λi hi=>by rw[at0 i hi];simpa using hi) (by simp;lia)
   (λx hx=>by rw[at0 _ hx,at0 _<|aeS hx];show hu x<|~~~hx) (λpend' st' S'=>⟨#v[S'.2.1,er,zm],S'.2.2.2⟩)
  split aaa<|aaO run (λr s' hr=>?_) λ_ _ e=>e;let⟨rfl,e2,hf⟩:=hr;show fin r.2 e2 hf
def Fj{vs:Zh} {lt:Nat->Nat->Bool}{Q:Ze}(hl:s.heap.IsList l vs.toArray)(hN:vs.length<=ZF)(hk:Known prog w s vs G lt)
  (hu:∀x,x+1<vs.length->lt (x+1) x=false) (h:Q (.ref<|s.heap.objs.size+1) { s with heap:=sortedAll s.heap vs vs.toArray }):ZG (ZJ prog w) A (call (.builtin "sorted") [.ref l]) Q E s:=by
 have hz:vs.length<=ZF:=hN;have sz:((s.heap.push<|seqObj "list" #[] 0).update s.heap.objs.size<|Obj.mapSeq (· ++ vs.toArray)).objs.size=s.heap.objs.size+1:=by rw[afe,afa]
 have at1:(((s.heap.push<|seqObj "list" #[] 0).update s.heap.objs.size<|Obj.mapSeq (· ++ vs.toArray)).push<|seqObj "list" vs.toArray 0).get? (s.heap.objs.size+1)=some (ahh "list" vs.toArray 0):=by rw[<-sz];show aaB _ rfl
 have old:∀b q,s.heap.get? b=some q->b≠s.heap.objs.size+1/\(((s.heap.push<|seqObj "list" #[] 0).update s.heap.objs.size<|Obj.mapSeq (· ++ vs.toArray)).push<|seqObj "list" vs.toArray 0).get? b=some q:=λb q e=>by have hb:=aaw e;split⟨aaC<|adw hb,aas _ ?_⟩;rw[aem _ _ _ _<|aaC hb];show aas _ e
 split agc kind_sorted plain_sorted entry_sorted (args_sorted1<|.ref l) ?_;unfold Builtin.«sorted»;split aaa (m:=checkCount "sorted" 1 1 _)<|aal<|aaa<|collect_list hl (aaa<|adL ?_ hz) hz;show ZG (ZJ prog w) _ _ _ _ { s with heap:=((s.heap.push<|seqObj "list" #[] 0).update s.heap.objs.size<|Obj.mapSeq (· ++ vs.toArray)).push (ahh "list" vs.toArray 0) };rw[sz];split aaa<|abc<|abC slot_list_sort ⟨_,at1,rfl⟩ akd (HE (G:=G) at1 hN (λh' kp=>?_) hu ⟨_,rfl,aal ⟨_,rfl,h⟩⟩)<|args_list_sort _;show hk.on λb q e=>kp b q (old b q e).1 (old b q e).2
def VJ(h:ZH)(v:ZE)(ns:Zn):Prop:=∃a o xs n,v=.ref a/\h.get? a=some o/\o.cls=.type "tuple" /\ o.data=.seq xs n/\agZ xs.toList ns
def Mg:∀(xs ys:Zh) (ns ms:Zn) (i:Nat) (fin:Bool) (Q:Bool->ZD->Prop),agZ xs ns->agZ ys ms->(fin=decide (xs.length<ys.length))->Q (HT.li ns ms) s ->
  KatLex prog w A true fin Q (xs.zip ys) i s:=by
 intro xs;induction xs with
 |nil=>
  intro ys ns ms i fin Q hx hy hf hq;ext hx;rw[List.zip_nil_left];show Q fin s;rw[hf];cases hy with
  |nil|cons _ _ _=>show hq
 |cons x xs ih=>
  intro ys ns ms i fin Q hx hy hf hq;cases hx with
  |cons a t tx=>
   cases hy with
   |nil=>
    rw[adN];show Q fin s;rw[hf];show hq
   | @cons c u ys' ms' ty=>
    rw[adO];split kat_cons<|(afJ a t c u) prog w _ _ ?_;unfold HT.li at hq;by_cases e:a=c
    .rw[aac e] at hq;have eb:(a==c)=true:=by simpa using e
     rw[eb];show kat_yes<|ih ys' _ ms' (i+1) fin Q tx ty (by rw[hf];simp) hq
    .rw[aad e] at hq;have eb:(a==c)=false:=by simpa using e
     rw[eb];split kat_no ?_;cases q:i==0 with
     |true=>show oneLt_int hq
     |false=>show kat_one _ _<|aaR hq
def Am{vs:Zh}{f:Nat->Zn}(hv:∀i,i<vs.length->VJ s.heap (vs.getD i ZX) (f i)/\f i≠[]):Known prog w s vs (tuples' true) λi j=>HT.li (f i) (f j):=by
 split⟨λA E h' Q hk h2 hq=>?_,λA h' i j C hk hi hj hc=>?_⟩
 .have hv':∀v∈vs,∃n t rest a o xs k,v=.ref a/\h'.get? a=some o/\o.cls=.type "tuple" /\ o.data=.seq xs k/\xs.toList=ahC n t::rest:=λv hm=>by
   let⟨i,hi,e⟩:=aeV hm;let⟨⟨a,o,xs,k,e1,e2,e3,e4,e5⟩,ne⟩:=hv i hi;have ev:vs.getD i ZX=v:=by rw[aff,ab8 hi];show e
   rw[ev] at e1;revert e5 ne;generalize f i=ns;generalize ex:xs.toList=L;intro ne e5;cases e5 with
   |nil=>show absurd rfl ne
   | @cons n t vs' ns' tl=>show⟨n,t,vs',a,o,xs,k,e1,hk _ _ e2,e3,e4,ex⟩
  have fs:∀L:Zh,(∀v∈L,∃n t rest a o xs k,v=.ref a/\h'.get? a=some o/\o.cls=.type "tuple" /\ o.data=.seq xs k/\xs.toList=ahC n t::rest)->∃gs,KatTups h' L gs/\gs.length=L.length/\∀v∈gs,∃n t,v=ahC n t:=by
   intro L;induction L with
   |nil=>show λ_=>⟨[],.nil,rfl,λ_ h=>(by ext h)⟩
   |cons v L ih=>
    intro hL;let⟨gs,g1,g2,g3⟩:=ih λu hu=>hL u<|aaK _ hu;let⟨n,t,rest,a,o,xs,k,rfl,e2,e3,e4,e5⟩:=hL v aaJ;split⟨.int n t::gs,.cons e2 e3 e4 (by rw[<-adu,e5];rfl) g1,#v[aay,aay,g2],λu hu=>?_⟩;rcases aau.1 hu with rfl|hu
    .exact⟨n,t,rfl⟩
    .exact g3 u hu
  let⟨gs,g1,g2,g3⟩:=fs vs hv';split kat_kind (s:=(s.wh h')) (T:=.type "int") g1 () (λv hm=>?_) ⋯ hq;let⟨n,t,rfl⟩:=g3 v hm;show Looks.of_pure rfl
 .let⟨⟨a,o,xs,k,e1,e2,e3,e4,e5⟩,_⟩:=hv i hi;let⟨⟨a',o',xs',k',e1',e2',e3',e4',e5'⟩,_⟩:=hv j hj;unfold kas_ask;rw[e1,e1'];split kat_lt (s:=(s.wh h')) (hk _ _ e2) e4 (hk _ _ e2') e4' ?_;split Mg (s:=(s.wh h')) _ _ _ _ _ _ _ e5 e5' ?_ hc;simp
theorem vS:∀ {vs:Zh} {ns:Zn},agZ vs ns->∀i,i<vs.length->∃t,vs.getD i ZX=.int (ns.getD i 0) t
 |_,_,.nil,i,h=>by simp at h
 |_,_,.cons n t _,0,_=>⟨t,rfl⟩
 |_,_,.cons n t tl,i+1,h=>by let⟨u,e⟩:=vS tl i<|~~~h;show⟨u,~~~e⟩
def Al(hI:agZ vs ns):Known prog w s vs oneType' λi j=>decide (ns.getD i 0<ns.getD j 0):=by
 split⟨λA E h' Q hk h2 hq=>?_,λA h' i j C hk hi hj hc=>?_⟩
 .rw[ksk_kind (keys:=vs.toArray) (kz:=ns) (~~~hI)<|~~~h2];show aal hq
 .let⟨t,e1⟩:=vS hI i hi;let⟨u,e2⟩:=vS hI j hj;unfold kas_ask;rw[e1,e2,keyLt'_oneType];show oneLt_int hc
end
end Sup
namespace L2
open PyProof.Rows
abbrev upI(ns:Zn):Bool:=Sup.Vb (λa b=>decide (a<=b)) ns
abbrev Vy(ks:Zm):Bool:=Sup.Vb (λa b=>!HT.li b a) ks
def AN(K:Zj):Za->Hp->VK->Prop:=λxs H Q=>∃p ys,xs=[.ref p]/\SqL K H p ys/\((∃ns,ys=ns.map V.int/\upI ns=true)\/∃yks:List<|V×Zn,ys=yks.map (·.1)/\(∀yk∈yks,∃q,yk.1=.ref q/\SqT K H q (yk.2.map V.int)/\yk.2≠[])/\Vy (yks.map (·.2))=true)/\∀l,H l=none->Q (.ref l) (upd H l<|.L ys)
def call_sortR:CallR X (.builtin "sorted")<|AN X.K:=by
 intro Zx s Z H xs us Q I r h;let⟨p,ys,rfl,hS,hk,k⟩:=h;let⟨u,rfl,ru⟩:=r.one;ext ru;let⟨its,rv,pl,hz⟩:=I.list hS;have hl:ys.length=its.length:=rv.length;obtain⟨G,lt,kn,up⟩:∃G lt,Sup.Known X.p X.w s its G lt/\∀x,x+1<its.length->lt (x+1) x=false:=by
  rcases hk with ⟨ns,rfl,hu⟩|⟨yks,rfl,hk,hu⟩
  .refine⟨_,_,Sup.Al<|lR rv,λx hx=>?_⟩;have:=abT<|Sup.Bl (d:=0) hu x (by rw[aar] at hl;lia);show aaA<|Int.not_lt.2 this
  .rw[aar] at hl;split⟨_,_,Sup.Am (f:=λi=>(yks.map (·.2)).getD i []) λi hi=>?_,λx hx=>?_⟩
   .have ey:yks[i]?=some yks[i]:=ab8 ();let⟨v,ev,rl⟩:=rv.get (show (yks.map (·.1))[i]?=some yks[i].1 by rw[aaX,ey];rfl);let⟨q,e3,e4,e5⟩:=hk _<|abp ey;rw[e3] at rl;have rl:v=ZO q:=rl;let⟨js,rj,⟨o,ho,hc,n,hd⟩,_⟩:=I.tuple e4;have e6:(yks.map (·.2)).getD i []=yks[i].2:=by rw[aff,aaX,ey];rfl
    show Sup.VJ s.heap (its.getD i ZX) ((yks.map (·.2)).getD i [])/\(yks.map (·.2)).getD i []≠[];rw[e6];show⟨⟨q,o,js.toArray,n,by rw[aff,ev];show rl,ho,hc,hd,~~~lR rj⟩,e5⟩
   .have:=Sup.Bl (d:=([]:Zn)) hu x (by rw[aar];lia);simpa using this
 split Sup.Fj pl.isList (hl▸hz) kn up ?_;let⟨e,at1⟩:=sortedAll_at s.heap its its.toArray;have fresh:s.heap.objs.size<=s.heap.objs.size+1:=aco _;show⟨.ref<|s.heap.objs.size+1,upd H (s.heap.objs.size+1)<|.L ys,I.laid (t':=s.toks) (λb o hb=>sortedAll_old hb) fresh ⟨hz,its,e,rv,at1⟩,rfl,k _<|I.hok.fresh fresh⟩
def Pl:Za->Hp->VK->Prop:=λvs H Q=>∃p kvs,vs=[.ref p]/\H p=some (.dK kvs)/\∀q,H q=none->Q (.ref q) (upd H q<|.dK<|jl [] kvs)
def wB{s:ZD}{a:ZB}{o:Obj}{Q:Bool->ZD->Prop}(ho:s.heap.get? a=some o)(hd:o.cls=.type "dict") (q:Q true s):ZG M A (ajY<|.ref a) Q E s:=by
 have hT:s.TypeIs (.ref a) "dict" := ⟨o,ho,hd⟩
 unfold ajY;split aaa<|acF (T := "dict") (b:=true) hT s!"" ?_;rw[aad ⋯];split aaa<|adb hT ae2.lookup ?_;split aal ?_;rw[afd];show q
def zC{X:Cx}(hc:X.c=true):CallR X (.type "dict") Pl:=by
 intro Zx s Z H xs us Q I r h;let⟨l,kvs,rfl,el,q⟩:=h;let⟨u,rfl,ru⟩:=r.one;cases (show u=ZO l from ru);have hn:=I.hok.fresh<|aaq s.heap.objs.size;have I1:=I.laid (a:=s.heap.objs.size) (o:=.dK []) (h':=s.heap.push { cls:=.type "dict",data:=.dict #[] }) (t':=s.toks) (λ_ _ q=>aas _ q) (aaq _)<|qK s.heap I.big;have nl:l≠s.heap.objs.size:=bF el hn;have el1:upd H s.heap.objs.size (.dK []) l=some (.dK kvs):=by rw[aR nl];show el
 let⟨hz,hs,vs,kv,dd⟩:=xP I1.hok el1;let⟨_,_,vs0,kv0,dd0⟩:=xP I1.hok<|aH (H:=H) (a:=s.heap.objs.size) (o:=.dK []);ext kv0;let⟨ol,es,ep,hol,hxl,hdl,hkl,hpl,hnl⟩:=id dd;split callType_codes (Q₁:=λobj s₁=>obj=.ref s.heap.objs.size/\s₁={ s with heap:=s.heap.push { cls:=.type "dict",data:=.dict #[] } }) ajD (af4 _) af5 (akA _ ⟨rfl,rfl⟩) ?_;rintro obj s₁ ⟨rfl,rfl⟩;have hTa:({ s with heap:=s.heap.push { cls:=.type "dict",data:=.dict #[] } }:ZD).TypeIs (.ref s.heap.objs.size) "dict" := ⟨_,aaB _ rfl,rfl⟩
 have hTl:({ s with heap:=s.heap.push { cls:=.type "dict",data:=.dict #[] } }:ZD).TypeIs (.ref l) "dict" := ⟨ol,hol,hxl.1⟩
 split⟨hTa,af6 _ _,?_⟩;unfold Builtin.«dict.__init__»;split aaa ?_;unfold aiU;split aaa<|aeh hTa ?_;show ZG _ _ (pure (s.heap.objs.size,[ZO l])) _ _ _;split aal ?_;show ZG _ _ (ahU "dict.__init__" s.heap.objs.size (.ref l) [] .none) _ _ _;unfold ahU;split aaa<|acA hTl ?_;rw[aad ⋯];split aaa ?_;unfold akB;split aaa<|wB hol hxl.1 ?_;rw[aac rfl];split aaa<|aal ?_;split wpAny_mergeDict (knd:=aI X.p X.w) nl.symm hs dd0 dd (λh' d1 d2 sb=>?_) (by rw[abP,acR,<-kv.length];show hz);have I2:=i7 (t':=s.toks) (h':=h') (ob:=.dK<|jl [] kvs) I1 (by rw[aH];show agW) sb (let ⟨o,_,_,ho,_⟩:=d1;⟨o,ho⟩)<|vw (by have:=ir kvs [];rw[abP] at this;lia) (acy.2<|acm I.big) (kv.merge .nil) d1;rw[wR] at I2;split aaa ?_;unfold akv;split aaa ?_;rw[aef];split aal<|aal ?_;split aal ⟨rfl,.ref s.heap.objs.size,_,I2,rfl,q _ hn⟩
def DH:CallR X (.builtin "len")<|λxs H Q=>∃a kvs,xs=[V.ref a]/\H a=some (.dK kvs)/\Q (.int kvs.length) H:=by intro Zx s Z H xs us Q I r h;let⟨a,kvs,rfl,ha,q⟩:=h;let⟨u,rfl,ru⟩:=r.one;cases (show u=ZO a from ru);show VY I (.inl ha) λt s' I'=>⟨.int kvs.length,H,I',⟨t,rfl⟩,q⟩
end L2
namespace Y
@[simp]abbrev nn{O β:Type}:O->Option β:=λ_=>none
open L2
inductive D where
 |N|B (b:Bool)|int (i:Int)|str (x:Str)|ty (n:String)|T (l:List D)|S (l:List D)|ref (n:Nat)|mt (l:List D)
 deriving Inhabited
abbrev Zd:=Option D
abbrev Zc:=List D
inductive B where
 |L (l:Zc)|K (kvs:List (bH×D))|ins (N:Str) (fs:List (Str×D))|dit (ks:Zm)|fz (ks:Zm)
 deriving Inhabited
abbrev Hh:=List B
@[simp]def B.ls(b:B):Option<|Zc:=B.casesOn b some nn (λ_ _=>none) nn nn
@[simp]def jZ(d:D):Option Int:=D.casesOn d none nn some nn nn nn nn nn nn
@[simp]def gZ(d:D):Option Str:=D.casesOn d none nn nn some nn nn nn nn nn
@[simp]def sJ(d:D):Option Bool:=D.casesOn d none some nn nn nn nn nn nn nn
@[simp]def o6(d:D):Option Nat:=D.casesOn d none nn nn nn nn nn nn some nn
@[simp]def KC(d:D):Option<|Zc:=D.casesOn d none nn nn nn nn some nn nn nn
@[simp]def dcM(d:D):Option<|Zc:=D.casesOn d none nn nn nn nn nn nn nn some
@[simp]def dcC(d:D):Option<|Zc:=D.casesOn d none nn nn nn nn nn some nn nn
@[simp]def l1:Zc->Zd
 |[d]=>some d
 |_=>none
@[simp]def l2:Zc->Option (D×D)
 |[d,e]=>some (d,e)
 |_=>none
@[simp]def l3:Zc->Option (D×D×D)
 |[d,e,f]=>some (d,e,f)
 |_=>none
def fl:D->Option V
 |.N=>some .N
 |.B b=>some<|.B b
 |.int i=>some<|.int i
 |.str x=>some<|.str x
 |.ty n=>some<|.ty n
 |_=>none
def Imm:HO->Prop
 |.T _=>True
 |.frz _ _=>True
 |_=>False
def Keep(H H':Hp):Prop:=∀p o,H p=some o->Imm o->H' p=some o
structure Up(m m':Zk)(H H':Hp):Prop where
 pre:m <+: m'
 kp:Keep H H'
def SqF(K:Zj)(H:Hp)(a:ZB)(xs:Za):Prop:=(∃o,H a=some (.frz o<|.L xs)) \/
 ∃(o:Obj) (its:Array ZE) (n:Nat),K.lookup a=some o/\o.cls=.type "list" /\ o.dict=none/\o.data=.seq its n/\its.size<=ZF/\Vals xs its.toList
mutual
inductive Den(K:aiR)(m:List ZB)(H:Hp):D->V->Prop where
 |at {d v}:fl d=some v->Den K m H d v
 |T {l p xs}:H p=some (.T xs)->Zo K m H l xs->Den K m H (.T l) (.ref p)
 |mt {l p xs}:SqT K H p xs->Zo K m H l xs->Den K m H (.mt l) (.ref p)
 |S {l p xs}:SqF K H p xs->Zo K m H l xs->Den K m H (.S l) (.ref p)
 |ref {n p}:m[n]?=some p->Den K m H (.ref n) (.ref p)
inductive Zo(K:aiR)(m:List ZB)(H:Hp):List D->List V->Prop where
 |nil:Zo K m H [] []
 |cons {d v l xs}:Den K m H d v->Zo K m H l xs->Zo K m H (d::l) (v::xs)
end
inductive Kv(K:aiR)(m:List ZB)(H:Hp){G:Type}:List (G×D)->List (G×V)->Prop where
 |nil:Kv K m H [] []
 |cons {k d v l xs}:Den K m H d v->Kv K m H l xs->Kv K m H ((k,d)::l) ((k,v)::xs)
def Ob(K:Zj)(m:Zk)(H:Hp)(p:ZB):B->Prop
 |.L l=>∃xs,H p=some (.L xs)/\Zo K m H l xs
 |.K kvs=>∃ws,H p=some (.dK ws)/\Kv K m H kvs ws
 |.ins N fs=>∃C dx ws,agA K ZK N=some (some<|.ref C)/\H p=some (.ins C dx ws)/\Kv K m H fs ws
 |.dit ks=>H p=some (.dT<|M.dA ks)
 |.fz ks=>∃o,H p=some (.frz o<|.dT<|M.dA ks)
structure R(K:Zj)(m:Zk)(A:Hh)(H:Hp):Prop where
 len:m.length=A.length
 nd:m.Nodup
 ob:∀(n:Nat) b p,A[n]?=some b->m[n]?=some p->Ob K m H p b
section
variable {K:Zj}{m m' m2:Zk}{A A':Hh}{H H' H2:Hp}{p:ZB}{n:Nat}{d:D}{v:V}{l:Zc}{xs:Za}
def Keep.refl:Keep H H:=λ_ _ h _=>h
def Keep.trans(a:Keep H H')(b:Keep H' H2):Keep H H2:=λp o h i=>b p o (a p o h i) i
def Keep.rd{u:HO}(k:Keep H H')(i:Imm u)(h:Rd H p u):Rd H' p u:=h.elim (λh=>.inl<|k _ _ h i) λ⟨o,h⟩=>.inr ⟨o,k _ _ h<|by cases u<;>first|ext i;done|trivial⟩
def Keep.sqT(k:Keep H H')(h:SqT K H p xs):SqT K H' p xs:=h.elim (λh=>.inl<|k.rd trivial h) .inr
def Keep.sqF(k:Keep H H')(h:SqF K H p xs):SqF K H' p xs:=h.elim (λ⟨o,h⟩=>.inl ⟨o,k _ _ h trivial⟩) .inr
def SqF.sq(h:SqF K H p xs):SqL K H p xs:=h.elim (λ⟨o,h⟩=>.inl<|.inr ⟨o,h⟩) .inr
def Up.refl:Up m m H H:=⟨aaE _,.refl⟩
def Up.trans(a:Up m m' H H')(b:Up m' m2 H' H2):Up m m2 H H2:=⟨a.1.trans b.1,a.2.trans b.2⟩
def ai{O:Type}{m m':List O}{p:O}(h:m <+: m')(e:m[n]?=some p):m'[n]?=some p:=by let⟨t,rfl⟩:=h;rw[acq (aa0.1 e).1];show e
mutual
theorem Den.up(u:Up m m' H H'):∀ {d:D} {v:V},Den K m H d v->Den K m' H' d v
 |_,_,.at e=>.at e
 |_,_,.T s h=>.T (u.2 _ _ s trivial)<|Zo.up u h
 |_,_,.mt s h=>.mt (u.2.sqT s)<|Zo.up u h
 |_,_,.S s h=>.S (u.2.sqF s)<|Zo.up u h
 |_,_,.ref e=>.ref<|ai u.1 e
theorem Zo.up(u:Up m m' H H'):∀ {l:Zc} {xs:Za},Zo K m H l xs->Zo K m' H' l xs
 |_,_,.nil=>.nil
 |_,_,.cons a b=>.cons (Den.up u a)<|Zo.up u b
end
theorem Kv.up{G:Type}(u:Up m m' H H'):∀ {l:List<|G×D} {xs:List<|G×V},Kv K m H l xs->Kv K m' H' l xs
 |_,_,.nil=>.nil
 |_,_,.cons a b=>.cons (a.up u)<|b.up u
theorem Zo.length:∀ {l:Zc} {xs:Za},Zo K m H l xs->l.length=xs.length
 |_,_,.nil=>rfl
 |_,_,.cons _ b=>aaF (· + 1) b.length
theorem Zo.append:∀ {l k:Zc} {xs ys:Za},Zo K m H l xs->Zo K m H k ys->Zo K m H (l++k) (xs++ys)
 |_,_,_,_,.nil,h=>h
 |_,_,_,_,.cons a b,h=>.cons a<|b.append h
theorem Zo.get:∀ {l:Zc} {xs:Za} {i:Nat},Zo K m H l xs->l[i]?=some d->∃v,xs[i]?=some v/\Den K m H d v
 |_,_,0,.cons a _,e=>by ext e;show⟨_,rfl,a⟩
 |_,_,i+1,.cons _ b,e=>b.get (i:=i) e
theorem Zo.set:∀ {l:Zc} {xs:Za} (i:Nat),Zo K m H l xs->Den K m H d v->Zo K m H (l.set i d) (xs.set i v)
 |_,_,_,.nil,_=>.nil
 |_,_,0,.cons _ b,h=>.cons h b
 |_,_,i+1,.cons a b,h=>.cons a<|b.set i h
theorem Zo.take:∀ {l:Zc} {xs:Za} (i:Nat),Zo K m H l xs->Zo K m H (l.take i) (xs.take i)
 |_,_,0,_=>.nil
 |_,_,_+1,.nil=>.nil
 |_,_,i+1,.cons a b=>.cons a<|b.take i
theorem Zo.drop:∀ {l:Zc} {xs:Za} (i:Nat),Zo K m H l xs->Zo K m H (l.drop i) (xs.drop i)
 |_,_,0,h=>h
 |_,_,_+1,.nil=>.nil
 |_,_,i+1,.cons _ b=>b.drop i
theorem Zo.rev:∀ {l:Zc} {xs:Za},Zo K m H l xs->Zo K m H l.reverse xs.reverse
 |_,_,.nil=>.nil
 |_,_,.cons a b=>by rw[adi,adi];show b.rev.append<|.cons a .nil
def Den.of{w:V}(h:Den K m H d v)(e:fl d=some w):v=w:=by
 cases h with
 | «at» h=>show abb<|h.symm.trans e
 |T _ _|mt _ _|S _ _|ref _=>ext e
theorem Zo.of{O:Type}{f:O->D}{g:O->V}(h:∀a,fl (f a)=some (g a)):∀ {l:List O} {xs:Za},Zo K m H (l.map f) xs->xs=l.map g
 |[],_,.nil=>rfl
 |a::l,_,.cons e b=>by rw[e.of<|h a,Zo.of h b];rfl
def Den.int{i:Int}(h:Den K m H (.int i) v):v=.int i:=h.of rfl
def Den.str{x:Str}(h:Den K m H (.str x) v):v=.str x:=h.of rfl
def Den.bl{b:Bool}(h:Den K m H (.B b) v):v=.B b:=h.of rfl
def Den.non(h:Den K m H .N v):v=.N:=h.of rfl
def aC{O:Type}{p:Prop}[Decidable p]{a b:O}(h:(if p then some a else none)=some b):p/\a=b:=by
 by_cases hp:p
 .rw[aac hp] at h;show⟨hp,abb h⟩
 .rw[aad hp] at h;ext h
def aK{O:Type}{a b:Option O}{c:O}(h:a.or b=some c):a=some c\/b=some c:=by
 cases a with
 |none=>show .inr h
 |some _=>show .inl h
def bnd{O β:Type}{a:Option O}{f:O->Option β}{c:β}(h:a.bind f=some c):∃x,a=some x/\f x=some c:=aaD.1 h
def dD{O β:Type}{a:Option O}{f:O->β}{c:β}(h:a.map f=some c):∃x,a=some x/\f x=c:=aaQ.1 h
def vo(d:D)(i:Int)(h:jZ d=some i):d=.int i:=by cases d<;>ext h;rfl
def zJ(d:D)(i:Str)(h:gZ d=some i):d=.str i:=by cases d<;>ext h;rfl
def Gw(d:D)(i:Bool)(h:sJ d=some i):d=.B i:=by cases d<;>ext h;rfl
def Den.dI{i:Int}(dv:Den K m H d v)(h:jZ d=some i):v=.int i:=by cases vo d i h;show dv.int
def Den.dS{i:Str}(dv:Den K m H d v)(h:gZ d=some i):v=.str i:=by cases zJ d i h;show dv.str
def Den.dB{i:Bool}(dv:Den K m H d v)(h:sJ d=some i):v=.B i:=by cases Gw d i h;show dv.bl
def Den.tupH(h:Den K m H (.T l) v):∃p xs,v=.ref p/\H p=some (.T xs)/\Zo K m H l xs:=by
 cases h with
 | «at» h=>ext h
 |T a b=>show⟨_,_,rfl,a,b⟩
def Den.tup_(h:Den K m H (.T l) v):∃p xs,v=.ref p/\SqT K H p xs/\Zo K m H l xs:=let ⟨p,xs,a,b,c⟩:=h.tupH;⟨p,xs,a,.of b,c⟩
def Den.mt_(h:Den K m H (.mt l) v):∃p xs,v=.ref p/\SqT K H p xs/\Zo K m H l xs:=by
 cases h with
 | «at» h=>ext h
 |mt a b=>show⟨_,_,rfl,a,b⟩
def Den.ref_(h:Den K m H (.ref n) v):∃p,v=.ref p/\m[n]?=some p:=by
 cases h with
 | «at» h=>ext h
 |ref a=>show⟨_,rfl,a⟩
def Ob.up{b:B}(u:Up m m' H H')(h:Ob K m H p b)(e:H' p=H p):Ob K m' H' p b:=by
 cases b with
 |L l=>let⟨xs,a,c⟩:=h;show⟨xs,e.trans a,c.up u⟩
 |K kvs=>let⟨ws,a,c⟩:=h;show⟨ws,e.trans a,c.up u⟩
 |ins N fs=>let⟨C,dx,ws,k,a,c⟩:=h;show⟨C,dx,ws,k,e.trans a,c.up u⟩
 |dit ks=>show e.trans h
 |fz ks=>let⟨o,h⟩:=h;show⟨o,e.trans h⟩
def Ob.some{b:B}(h:Ob K m H p b):∃o,H p=some o/\((∀ks,b ≠ .fz ks)->¬Imm o):=by
 cases b with
 |L l=>let⟨xs,a,_⟩:=h;show⟨_,a,λ_=>id⟩
 |K kvs=>let⟨ws,a,_⟩:=h;show⟨_,a,λ_=>id⟩
 |ins N fs=>let⟨C,dx,ws,_,a,_⟩:=h;show⟨_,a,λ_=>id⟩
 |dit ks=>show⟨_,h,λ_=>id⟩
 |fz ks=>let⟨o,h⟩:=h;show⟨_,h,λz=>absurd rfl<|z ks⟩
def R.no(r:R K m A H)(h:H p=none):p∉m:=λhp=>by
 let⟨n,e⟩:=List.getElem?_of_mem hp;have hn:n<A.length:=by rw[<-r.len];show (aa0.1 e).1
 let⟨o,q,_⟩:=(r.ob n _ p (ab8 hn) e).some;rw[h] at q;ext q
def Keep.new{o:HO}(h:H p=none):Keep H<|upd H p o:=λq u e _=>by rw[aR<|bF e h];show e
def R.tup{o:HO}(r:R K m A H)(h:H p=none):R K m A (upd H p o)/\Up m m H (upd H p o):=by
 have u:Up m m H<|upd H p o:=⟨aaE _,.new h⟩
 show⟨⟨r.len,r.nd,λn b q e e'=>(r.ob n b q e e').up u<|aR λz=>r.no h<|z▸abp e'⟩,u⟩
def R.new{o:HO}{b:B}(r:R K m A H)(h:H p=none)(hb:Up m (m++[p]) H (upd H p o)->Ob K (m++[p]) (upd H p o) p b) :
  R K (m++[p]) (A++[b]) (upd H p o)/\Up m (m++[p]) H (upd H p o)/\Den K (m++[p]) (upd H p o) (.ref A.length) (.ref p):=by
 have u:Up m (m++[p]) H<|upd H p o:=⟨aap _ _,.new h⟩
 have nm:=r.no h;split⟨⟨by rw[aat,aat,r.len];rfl,?_,λn c q e e'=>?_⟩,u,.ref<|by rw[<-r.len];show aep⟩
 .rw[ae7];show⟨r.nd,by simp,λa ha b hb e=>nm<|by cases aaG.1 hb;show e▸ha⟩
 .by_cases hn:n<A.length
  .rw[acq hn] at e;rw[acq<|by rw[r.len];show hn] at e';show (r.ob n c q e e').up u<|aR λz=>nm<|z▸abp e'
  .rw[acK<|adE.1 hn] at e;rw[acK<|by rw[r.len];show adE.1 hn] at e';cases aaG.1 (abp e);cases aaG.1 (abp e');show hb u
def R.set{o:HO}{b c:B}(r:R K m A H)(e:A[n]?=some c)(e':m[n]?=some p)(hb:Up m m H (upd H p o)->Ob K m (upd H p o) p b)(hc:∀ks,c ≠ .fz ks:=by nofun):R K m (A.set n b) (upd H p o)/\Up m m H (upd H p o):=by
 let⟨o0,h0,hi⟩:=(r.ob n c p e e').some;have u:Up m m H<|upd H p o:=⟨aaE _,λq w h i=>by
  rw[aR λz=>?_]
  .exact h
  .rw[z,h0] at h;ext h
   show hi hc i⟩
 split⟨⟨#v[ab6,r.len],r.nd,λk d q g g'=>?_⟩,u⟩;by_cases hk:n=k
 .subst hk;rw[acf (aa0.1 e).1] at g;ext g;rw[e'] at g';ext g';show hb u
 .rw[aav hk] at g;split (r.ob k d q g g').up u<|aR λz=>hk ?_;subst z;let⟨h1,e1⟩:=aa0.1 e';let⟨h2,e2⟩:=aa0.1 g';show (aj9 (h₀:=h1) (h₁:=h2) r.nd).mp<|e1.trans e2.symm
abbrev Env:=List<|Zd
def Envs(K:Zj)(m:Zk)(H:Hp)(U:Env)(Z:St):Prop:=U.length=Z.length/\∀(i:Nat) d,U[i]?=some (some d)->∃v,Z[i]?=some (some v)/\Den K m H d v
def Envs.up{U:Env}{Z:St}(u:Up m m' H H')(h:Envs K m H U Z):Envs K m' H' U Z:=⟨h.1,λi d e=>let ⟨v,a,b⟩:=h.2 i d e;⟨v,a,b.up u⟩⟩
abbrev XX(O:Type):=Env->Hh->Option (O×Hh)
abbrev XE:=XX D
abbrev XA:=XX<|Zc
abbrev XT:=XX Bool
abbrev TX(β:Type):=St->Hp->(β->Hp->Prop)->Prop
def Nx(K:Zj){O β:Type}(r:Zk->Hp->O->β->Prop)(m:Zk)(H:Hp)(d:O)(A':Hh)(Q:β->Hp->Prop):Prop:=
 ∀m' H' v,Up m m' H H'->R K m' A' H'->r m' H' d v->Q v H'
def SX(K:Zj){O β:Type}(r:Zk->Hp->O->β->Prop)(t:TX β)(x:XX O):Prop:=
 ∀m A H U Z (Q:β->Hp->Prop) d A',Envs K m H U Z->R K m A H->x U A=some (d,A')->Nx K r m H d A' Q->t Z H Q
abbrev SE(K:Zj)(t:TE)(x:XE):Prop:=SX K (Den K) t x
abbrev SA(K:Zj)(t:TA)(x:XA):Prop:=SX K (Zo K) t x
abbrev ST(K:Zj)(t:TT)(x:XT):Prop:=SX K (λ_ _ (a b:Bool)=>a=b) t x
def Nx.up{O β:Type}{r:Zk->Hp->O->β->Prop}{a:O}{Q:β->Hp->Prop}(u:Up m m' H H')(h:Nx K r m H a A' Q):Nx K r m' H' a A' Q:=λ_ _ _ u2=>h _ _ _<|u.trans u2
def SX.bnd{O β γ δ:Type}{r:Zk->Hp->O->β->Prop}{r':Zk->Hp->γ->δ->Prop}{t:TX β}{x:XX O}{u:β->TX δ}{y:O->XX γ}(h:SX K r t x)
  (k:∀m A H U Z (Q:δ->Hp->Prop) a b c A',Envs K m H U Z->R K m A H->r m H a b->y a U A=some (c,A')->Nx K r' m H c A' Q->u b Z H Q) :
  SX K r' (λZ H Q=>t Z H λb H1=>u b Z H1 Q) (λU A=>(x U A).bind λp=>y p.1 U p.2):=λm A H U Z Q d A' e w q n=>by
 let⟨⟨a,A1⟩,q1,q2⟩:=aaD.1 q;show h m A H U Z _ a A1 e w q1 λm' H' b u w' ra=>k m' A1 H' U Z Q a b d A' (e.up u) w' ra q2<|n.up u
end
abbrev HF:=Zc->Hh->Option (D×Hh)
abbrev H2:=D->D->Hh->Option (D×Hh)
@[simp]def xb{O γ:Type}(x:XX O)(y:O->XX γ):XX γ:=λU A=>(x U A).bind λp=>y p.1 U p.2
@[simp]def aa(i:Nat):XE:=λU A=>U[i]?.join.map λd=>(d,A)
@[simp]def xC(d:D):XE:=λ_ A=>some (d,A)
@[simp]abbrev rW(n:Int):XE:=xC<|.int n
@[simp]def az(f:H2)(a b:XE):XE:=λU A=>(xb a λd=>xb b λe _ A=>f d e A) U A
@[simp]def tG(f:D->Hh->Option (D×Hh))(a:XE):XE:=λU A=>(xb a λd _ A=>f d A) U A
@[simp]def aF:XA:=λ_ A=>some ([],A)
@[simp]def af(a:XE)(b:XA):XA:=λU A=>(xb a λd=>xb b λl _ A=>some (d::l,A)) U A
@[simp]def cc(f:HF)(a:XA):XE:=λU A=>(xb a λl _ A=>f l A) U A
@[simp]def aw(a:XE):XT:=λU A=>(xb a λd _ A=>(sJ d).map λc=>(c,A)) U A
@[simp]def nP(a b:XT):XT:=λU A=>(xb a λc U A=>if c=true then b U A else some (false,A)) U A
@[simp]def tE(a b:XT):XT:=λU A=>(xb a λc U A=>if c=true then some (true,A) else b U A) U A
@[simp]def et(a:XT):XT:=λU A=>(xb a λc _ A=>some (!c,A)) U A
@[simp]def lx(a b:XE):XE:=λU A=>(xb a λd U A=>(sJ d).bind λc=>if c=true then b U A else some (.B false,A)) U A
@[simp]def uQ(a:XE):XE:=λU A=>(xb a λd _ A=>(sJ d).map λc=>(.B<|!c,A)) U A
@[simp]def Kp(c:XT)(a b:XE):XE:=λU A=>(xb c λq U A=>if q=true then a U A else b U A) U A
@[simp]def bA(a:XA):XE:=λU A=>(xb a λl _ A=>if l.length<=ZF then some (.T l,A) else none) U A
@[simp]def ej(a:XA):XE:=λU A=>(xb a λl _ A=>if l.length<=ZF then some (.ref A.length,A++[.L l]) else none) U A
def RF(K:Zj)(r:Za->Hp->VK->Prop)(f:HF):Prop:=∀m A H l xs Q d A',R K m A H->Zo K m H l xs->f l A=some (d,A')->Nx K (Den K) m H d A' Q->r xs H Q
def BF(K:Zj)(r:R2)(f:H2):Prop:=∀m A H d e x y Q c A',R K m A H->Den K m H d x->Den K m H e y->f d e A=some (c,A')->Nx K (Den K) m H c A' Q->r x y H Q
def RF1(K:Zj)(r:V->Hp->VK->Prop)(f:D->Hh->Option (D×Hh)):Prop:=∀m A H d x Q c A',R K m A H->Den K m H d x->f d A=some (c,A')->Nx K (Den K) m H c A' Q->r x H Q
section
variable {K:Zj}{m m':Zk}{A A':Hh}{H H':Hp}{d e:D}{v w:V}{l:Zc}{xs:Za}{t u:TE}{x y:XE}{tt uu:TT}{a b:XT}{ta:TA}{xa:XA}
def Nx.now{O β:Type}{r:Zk->Hp->O->β->Prop}{a:O}{b:β}{Q:β->Hp->Prop}(n:Nx K r m H a A Q)(w:R K m A H)(h:r m H a b):Q b H:=n m H b .refl w h
def YK{i:Nat}:SE K (Fo i)<|aa i:=λm A H U Z Q d A' e w q n=>by let⟨c,q1,q⟩:=dD q;ext q;let⟨v,h1,h2⟩:=e.2 i _<|afg.1 q1;show⟨v,h1,n.now w h2⟩
def Yt(h:fl d=some v):SE K (tC v)<|xC d:=λm A H U Z Q _ _ e w q n=>by ext q;show n.now w<|.at h
def SX.two{β γ δ ε:Type}{r':Zk->Hp->γ->β->Prop}{r2:Zk->Hp->δ->ε->Prop}{t:TE}{x:XE}{u:TX β}{y:XX γ}{f:V->β->TX ε}{g:D->γ->XX δ}(a:SE K t x)(b:SX K r' u y)
  (k:∀m A H U Z (Q:ε->Hp->Prop) d v d' v' c A',Envs K m H U Z->R K m A H->Den K m H d v->r' m H d' v'->g d d' U A=some (c,A')->Nx K r2 m H c A' Q->f v v' Z H Q) :
  SX K r2 (λZ H Q=>t Z H λv H1=>u Z H1 λv' H2=>f v v' Z H2 Q) (xb x λd=>xb y λd'=>g d d'):=λm A H U Z Q c A' e w q n=>by
 let⟨⟨d,A1⟩,q1,q⟩:=aaD.1 q;let⟨⟨d',A2⟩,q2,q⟩:=aaD.1 q;show a m A H U Z _ d A1 e w q1 λm1 H1 v u1 w1 dv=>b m1 A1 H1 U Z _ d' A2 (e.up u1) w1 q2 λm2 H2 v' u2 w2 rv=>k m2 A2 H2 U Z Q d v d' v' c A' (e.up<|u1.trans u2) w2 (dv.up u2) rv q<|n.up<|u1.trans u2
def SX.run{O β γ ε:Type}{r:Zk->Hp->O->β->Prop}{r2:Zk->Hp->γ->ε->Prop}{t:TX β}{x:XX O}{y:O->XX γ}{U:Env}{Z:St}{c:γ}{Q:ε->Hp->Prop}{P:β->Hp->Prop}(h:SX K r t x)(e:Envs K m H U Z)(w:R K m A H)(q:xb x y U A=some (c,A'))(n:Nx K r2 m H c A' Q)
  (k:∀m A H a b,Envs K m H U Z->R K m A H->r m H a b->y a U A=some (c,A')->Nx K r2 m H c A' Q->P b H):t Z H P:=by
 let⟨⟨a,A1⟩,q1,q2⟩:=aaD.1 q;show h m A H U Z _ a A1 e w q1 λm' H' b u w' ra=>k m' A1 H' a b (e.up u) w' ra q2<|n.up u
def Uk(h:BF K r f)(a:SE K t x)(b:SE K u y):SE K (tOp r t u)<|az f x y:=SX.two a b λm A H _ _ Q d v d' v' c A' _=>h m A H d d' v v' Q c A'
def abO{f}(h:RF1 K r f)(a:SE K t x):SE K (tUn r t)<|tG f x:=SX.bnd a λm A H _ _ Q d v c A' _=>h m A H d v Q c A'
def uE:SA K tD aF:=λm A H U Z Q _ _ e w q n=>by ext q;show n.now w .nil
def Uc(a:SE K t x)(b:SA K ta xa):SA K (lu t ta)<|af x xa:=SX.two a b λm A H _ _ Q d v d' v' c A' _ w dv dv' q n=>by ext q;show n.now w<|.cons dv dv'
def Yu(h:RF K r f)(a:SA K ta xa):SE K (tCB r ta)<|cc f xa:=SX.bnd a λm A H _ _ Q d v c A' _=>h m A H d v Q c A'
def YI(a:SE K t x):ST K (YZ t)<|aw x:=λm A H U Z Q z A' e w q n=>a.run e w q n λm A H d v e w dv q n=>by let⟨c,q1,q⟩:=dD q;ext q;show⟨_,dv.dB q1,n.now w rfl⟩
def bf{p:Prop}[Decidable p]{O:Type}{a b:Option O}{c:O}(h:(if p then a else b)=some c):(p/\a=some c)\/(¬p/\b=some c):=by
 by_cases hp:p
 .rw[aac hp] at h;show .inl ⟨hp,h⟩
 .rw[aad hp] at h;show .inr ⟨hp,h⟩
def Yq(h:ST K tt a)(k:ST K uu b):ST K (YR tt uu)<|nP a b:=λm A H U Z Q z A' e w q n=>h.run e w q n λm A H c c' e w dv q n=>by
 subst dv;rcases bf q with ⟨hc,q⟩|⟨hc,q⟩
 .rw[aac hc];show k m A H U Z Q z A' e w q n
 .rw[aad hc];ext q;show n.now w rfl
def abM(h:ST K tt a)(k:ST K uu b):ST K (tOr tt uu)<|tE a b:=λm A H U Z Q z A' e w q n=>h.run e w q n λm A H c c' e w dv q n=>by
 subst dv;rcases bf q with ⟨hc,q⟩|⟨hc,q⟩
 .rw[aac hc];ext q;show n.now w rfl
 .rw[aad hc];show k m A H U Z Q z A' e w q n
def YD(h:ST K tt a):ST K (YW tt)<|et a:=λm A H U Z Q z A' e w q n=>h.run e w q n λm A H c c' e w dv q n=>by subst dv;ext q;show n.now w rfl
def TZ(h:SE K t x)(k:SE K u y):SE K (PL t u)<|lx x y:=λm A H U Z Q z A' e w q n=>h.run e w q n λm A H d v e w dv q n=>by
 let⟨c,q1,q⟩:=bnd q;split⟨c,dv.dB q1,?_⟩;rcases bf q with ⟨hc,q⟩|⟨hc,q⟩
 .rw[aac hc];show k m A H U Z Q z A' e w q n
 .rw[aad hc];ext q;show n.now w<|.at rfl
def Uj(h:SE K t x):SE K (PQ t)<|uQ x:=λm A H U Z Q z A' e w q n=>h.run e w q n λm A H d v e w dv q n=>by let⟨c,q1,q⟩:=dD q;ext q;show⟨_,dv.dB q1,n.now w<|.at rfl⟩
def Yz(h:ST K tt a)(k:SE K t x)(k':SE K u y):SE K (tIf tt t u)<|Kp a x y:=λm A H U Z Q z A' e w q n=>h.run e w q n λm A H c c' e w dv q n=>by
 subst dv;rcases bf q with ⟨hc,q⟩|⟨hc,q⟩
 .rw[aac hc];show k m A H U Z Q z A' e w q n
 .rw[aad hc];show k' m A H U Z Q z A' e w q n
def R.newT(w:R K m A H)(dv:Zo K m H l xs)(hp:H p=none) (n:Nx K (Den K) m H (.T l) A Q):Q (.ref p)<|upd H p (.T xs):=
 let ⟨w',u⟩:=w.tup (o:=.T xs) hp
 n m _ _ u w' (.T aH<|dv.up u)
def R.newL(w:R K m A H)(dv:Zo K m H l xs)(hp:H p=none) (n:Nx K (Den K) m H (.ref A.length) (A++[.L l]) Q):Q (.ref p)<|upd H p (.L xs):=
 let ⟨w',u,k⟩:=w.new (o:=.L xs) (b:=.L l) hp λu=>⟨xs,aH,dv.up u⟩
 n _ _ _ u w' k
def YJ(h:SA K ta xa):SE K (UQ ta)<|bA xa:=λm A H U Z Q z A' e w q n=>h.run e w q n λm A H d v e w dv q n=>by let⟨hl,q⟩:=aC q;ext q;show⟨by rw[<-dv.length];show hl,λp hp=>w.newT dv hp n⟩
def YC(h:SA K ta xa):SE K (JI ta)<|ej xa:=λm A H U Z Q z A' e w q n=>h.run e w q n λm A H d v e w dv q n=>by let⟨hl,q⟩:=aC q;ext q;show⟨by rw[<-dv.length];show hl,λp hp=>w.newL dv hp n⟩
end
@[simp]def h1(f:D->Hh->Option (D×Hh)):HF:=λl A=>(l1 l).bind λd=>f d A
@[simp]def h2(f:H2):HF:=λl A=>(l2 l).bind λp=>f p.1 p.2 A
@[simp]def iR(A:Hh)(d:D):Option<|Zc:=(dcC d).or<|(o6 d).bind λn=>A[n]?.bind B.ls
@[simp]def Jk(d:D):Option<|Zc:=(KC d).or<|dcM d
@[simp]def Jj(A:Hh)(d:D):Option<|Zc:=(Jk d).or<|iR A d
def fv{O:Type}(f:D->Option O):Zc->Option (List O)
 |[]=>some []
 |d::l=>(f d).bind λa=>(fv f l).map λr=>a::r
abbrev tI(k:Zn):D:=.T<|k.map .int
def Vq(d:D):Option<|Zn:=(KC d).bind λl=>if l.length=0 then none else fv jZ l
section
variable {K:Zj}{m:Zk}{A A':Hh}{H:Hp}{d e:D}{v w:V}{l:Zc}{xs:Za}
def Zo.nil_(h:Zo K m H [] xs):xs=[]:=by ext h;rfl
def Zo.cons_(h:Zo K m H (d::l) xs):∃v ys,xs=v::ys/\Den K m H d v/\Zo K m H l ys:=by
 cases h with
 |cons a b=>show⟨_,_,rfl,a,b⟩
def yb(h:Zo K m H l xs)(q:l1 l=some d):∃v,xs=[v]/\Den K m H d v:=by
 cases l with
 |nil=>ext q
 |cons a l=>
  cases l with
  |cons _ _=>ext q
  |nil=>ext q;let⟨v,ys,rfl,h1,h2⟩:=h.cons_;show⟨v,#v[h2.nil_],h1⟩
def o8{p:D×D}(h:Zo K m H l xs)(q:l2 l=some p):∃v w,xs=[v,w]/\Den K m H p.1 v/\Den K m H p.2 w:=by
 cases l with
 |nil=>ext q
 |cons a l=>
  let⟨v,ys,rfl,h1,h2⟩:=h.cons_;cases l with
  |nil=>ext q
  |cons b l=>
   cases l with
   |cons _ _=>ext q
   |nil=>ext q;let⟨w,rfl,h3⟩:=yb h2 rfl;show⟨v,w,rfl,h1,h3⟩
def OW{p:D×D×D}(h:Zo K m H l xs)(q:l3 l=some p):∃v w u,xs=[v,w,u]/\Den K m H p.1 v/\Den K m H p.2.1 w/\Den K m H p.2.2 u:=by
 cases l with
 |nil=>ext q
 |cons a l=>
  let⟨v,ys,rfl,h1,h2⟩:=h.cons_;cases l with
  |nil=>ext q
  |cons b l=>
   cases l with
   |nil=>ext q
   |cons c l=>
    cases l with
    |cons _ _=>ext q
    |nil=>ext q;let⟨w,u,rfl,h3,h4⟩:=o8 h2 rfl;show⟨v,w,u,rfl,h1,h3,h4⟩
def FF{r:Za->Hp->VK->Prop} (h:RF1 K (λx=>r [x]) f):RF K r<|h1 f:=λm A H l xs Q d A' w dv q n=>by let⟨e,q1,q⟩:=bnd q;let⟨v,rfl,a⟩:=yb dv q1;show h m A H _ _ Q d A' w a q n
def rf2{r:Za->Hp->VK->Prop} (h:BF K (λx y=>r [x,y]) f):RF K r<|h2 f:=λm A H l xs Q d A' w dv q n=>by let⟨e,q1,q⟩:=bnd q;let⟨v,u,rfl,a,b⟩:=o8 dv q1;show h m A H _ _ _ _ Q d A' w a b q n
def gz{n:Nat}(dv:Den K m H d v)(h:o6 d=some n):d=.ref n/\∃p,v=.ref p/\m[n]?=some p:=by cases d<;>ext h;show⟨rfl,dv.ref_⟩
def j4(dv:Den K m H d v)(h:KC d=some l):d=.T l/\∃p xs,v=.ref p/\H p=some (.T xs)/\Zo K m H l xs:=by cases d<;>ext h;show⟨rfl,dv.tupH⟩
def Gy(dv:Den K m H d v)(h:dcM d=some l):∃p xs,v=.ref p/\SqT K H p xs/\Zo K m H l xs:=by cases d<;>ext h;show dv.mt_
def Gx(dv:Den K m H d v)(h:dcC d=some l):∃p xs,v=.ref p/\SqF K H p xs/\Zo K m H l xs:=by
 cases d<;>ext h;cases dv with
 | «at» e=>ext e
 |S a b=>show⟨_,_,rfl,a,b⟩
def rM{n:Nat}{p:ZB}(w:R K m A H)(hp:m[n]?=some p)(h:A[n]?.bind B.ls=some l):∃xs,H p=some (.L xs)/\Zo K m H l xs:=by let⟨b,q,h⟩:=bnd h;cases b<;>ext h;show w.ob n _ p q hp
def ib{n:Nat}(w:R K m A H)(dv:Den K m H d v)(h0:o6 d=some n)(h:A[n]?.bind B.ls=some l):∃p xs,v=.ref p/\H p=some (.L xs)/\Zo K m H l xs:=by let⟨_,p,rfl,a⟩:=gz dv h0;let⟨xs,c,g⟩:=rM w a h;show⟨p,xs,rfl,c,g⟩
def fF(w:R K m A H)(dv:Den K m H d v)(h:iR A d=some l):∃p xs,v=.ref p/\SqL K H p xs/\Zo K m H l xs:=by
 rcases aK h with h|h
 .let⟨p,xs,e,a,b⟩:=Gx dv h;show⟨p,xs,e,a.sq,b⟩
 .let⟨n,h0,h⟩:=bnd h;let⟨p,xs,e,a,b⟩:=ib w dv h0 h;show⟨p,xs,e,.of a,b⟩
def wH(dv:Den K m H d v)(h:Jk d=some l):∃p xs,v=.ref p/\SqT K H p xs/\Zo K m H l xs:=by
 rcases aK h with h|h
 .let⟨_,p,xs,e,a,b⟩:=j4 dv h;show⟨p,xs,e,.of a,b⟩
 .exact Gy dv h
def pW(w:R K m A H)(dv:Den K m H d v)(h:Jj A d=some l):∃p xs,v=.ref p/\(SqL K H p xs\/SqT K H p xs)/\Zo K m H l xs:=by
 rcases aK h with h|h
 .let⟨p,xs,a,b,c⟩:=wH dv h;show⟨p,xs,a,.inr b,c⟩
 .let⟨p,xs,a,b,c⟩:=fF w dv h;show⟨p,xs,a,.inl b,c⟩
theorem lK{O:Type}{f:D->Option O}{g:O->D}(hf:∀d a,f d=some a->d=g a):∀ {l:Zc} {as:List O},fv f l=some as->l=as.map g
 |[],_,h=>by ext h;rfl
 |d::l,as,h=>by let⟨a,h1,h⟩:=aaD.1 h;let⟨r,h2,h⟩:=aaQ.1 h;ext h;rw[hf d a h1,lK hf h2];rfl
def QQ(d:D)(k:Zn)(h:Vq d=some k):d=tI k:=by
 let⟨l,h1,h2⟩:=bnd h;cases d<;>ext h1;by_cases z:l.length=0
 .rw[aac z] at h2;ext h2
 .rw[aad z] at h2;show aaF D.T<|lK vo h2
def Lf{k:Zn}(h:Vq d=some k):k≠[]:=by
 let⟨l,h1,h⟩:=bnd h;by_cases z:l.length=0
 .rw[aac z] at h;ext h
 .rw[aad z] at h;rintro rfl;cases lK vo h;show z rfl
def mS{ns:Zn}(h:Zo K m H l xs)(q:fv jZ l=some ns):xs=ns.map .int:=Zo.of (f:=.int) (λ_=>rfl)<|lK vo q▸h
def qJ{ns:Zl}(h:Zo K m H l xs)(q:fv gZ l=some ns):xs=ns.map .str:=Zo.of (f:=.str) (λ_=>rfl)<|lK zJ q▸h
def f8{ns:List Bool}(h:Zo K m H l xs)(q:fv sJ l=some ns):xs=ns.map .B:=Zo.of (f:=.B) (λ_=>rfl)<|lK Gw q▸h
theorem Zo.mk{O:Type}{f:O->D}{g:O->V}(h:∀a,fl (f a)=some (g a)):∀l:List O,Zo K m H (l.map f) (l.map g)
 |[]=>.nil
 |a::l=>.cons (.at<|h a)<|Zo.mk h l
end
@[simp]def fI(C:Int->Int->Prop)[∀i j,Decidable<|C i j](g:Int->Int->D):H2:=λd e A=>(jZ d).bind λi=>(jZ e).bind λj=>if C i j then some (g i j,A) else none
@[simp]def GS(g:Int->Int->D):H2:=λd e A=>(jZ d).bind λi=>(jZ e).map λj=>(g i j,A)
instance (i j:Int):Decidable<|CMul i j:=by unfold CMul;infer_instance
instance (i j:Int):Decidable<|KI i j:=by unfold KI;infer_instance
instance (i j:Int):Decidable<|KJ i j:=by unfold KJ;infer_instance
section
variable {K:Zj}{m:Zk}{A A':Hh}{H:Hp}{d e:D}{w:V}
def r_i{C:Int->Int->Prop}[∀i j,Decidable<|C i j]{g:Int->Int->D}{g':Int->Int->V}(h:∀i j,fl (g i j)=some (g' i j)):BF K (rI C g')<|fI C g:=λm A H d e x y Q c A' w dx dy q n=>by let⟨i,q1,q⟩:=bnd q;let⟨j,q2,q⟩:=bnd q;let⟨hc,q⟩:=aC q;ext q;show⟨i,j,dx.dI q1,dy.dI q2,hc,n.now w<|.at<|h i j⟩
def yC{g:Int->Int->D}{g':Int->Int->V}(h:∀i j,fl (g i j)=some (g' i j)):BF K (FE g')<|GS g:=λm A H d e x y Q c A' w dx dy q n=>by let⟨i,q1,q⟩:=bnd q;let⟨j,q2,q⟩:=dD q;ext q;show⟨i,j,dx.dI q1,dy.dI q2,n.now w<|.at<|h i j⟩
end
@[simp]def Wl:H2:=λd e A=>(gZ d).bind λi=>(gZ e).bind λj=>if i.length+j.length<=ZF then some (.str<|i++j,A) else none
@[simp]def Wm:H2:=λd e A=>(KC d).bind λi=>(KC e).bind λj=>if i.length+j.length<=ZF then some (.T<|i++j,A) else none
@[simp]def Wj:H2:=λd e A=>(o6 d).bind λi=>(o6 e).bind λj=>(A[i]?.bind B.ls).bind λk=>(A[j]?.bind B.ls).bind λl=>if k.length+l.length<=ZF then some (.ref A.length,A++[.L<|k++l]) else none
@[simp]def aN:H2:=λd e A=>(GS (λi j=>.int<|i+j) d e A).or<|(Wl d e A).or<|(Wm d e A).or<|Wj d e A
section
variable {K:Zj}{m:Zk}{A A':Hh}{H:Hp}{d e:D}{w:V}{l:Zc}{xs:Za}
def XQ:BF K (M.Pj K) aN:=λm A H d e x y Q c A' w dx dy q n=>by
 rcases aK q with q|q
 .exact .inl<|yC (g':=λi j=>.int<|i+j) (λ_ _=>rfl) m A H d e x y Q c A' w dx dy q n
 rcases aK q with q|q
 .let⟨i,q1,q⟩:=bnd q;let⟨j,q2,q⟩:=bnd q;let⟨h,q⟩:=aC q;ext q;show .inr<|.inr<|.inr ⟨i,j,dx.dS q1,dy.dS q2,h,n.now w<|.at rfl⟩
 rcases aK q with q|q
 .let⟨i,q1,q⟩:=bnd q;let⟨j,q2,q⟩:=bnd q;let⟨h,q⟩:=aC q;ext q;let⟨rfl,a,xs,rfl,a1,a2⟩:=j4 dx q1;let⟨rfl,b,ys,rfl,b1,b2⟩:=j4 dy q2;split .inr (.inr<|.inl ⟨a,b,xs,ys,rfl,rfl,.of a1,.of b1,by rw[<-a2.length,<-b2.length];show h,?_,?_,λp hp=>w.newT (a2.append b2) hp n⟩)
  .rintro rfl;ext b2;show n.now w (by rw[abf];show dx)
  .rintro rfl;ext a2;show n.now w dy
 .let⟨i,q1,q⟩:=bnd q;let⟨j,q2,q⟩:=bnd q;let⟨k,q3,q⟩:=bnd q;let⟨l,q4,q⟩:=bnd q;let⟨h,q⟩:=aC q;ext q;let⟨a,xs,rfl,a1,a2⟩:=ib w dx q1 q3;let⟨b,ys,rfl,b1,b2⟩:=ib w dy q2 q4;show .inr<|.inl ⟨a,b,xs,ys,rfl,rfl,.inl a1,.inl b1,by rw[<-a2.length,<-b2.length];show h,λp hp=>w.newL (a2.append b2) hp n⟩
end
mutual
def yP:D->Option M.D
 |.N=>some .N
 |.B b=>some<|.B b
 |.int b=>some<|.int b
 |.str b=>some<|.str b
 |.T l=>(toPs l).map .mtp
 |_=>none
def toPs:Zc->Option (List M.D)
 |[]=>some []
 |d::l=>(yP d).bind λa=>(toPs l).map λr=>a::r
end
def Fs(A:Hh)(d:D):Option M.D:=(yP d).or<|(o6 d).bind λn=>(A[n]?.bind B.ls).bind λl=>(toPs l).map .L
def eA(neg:Bool):H2:=λd e A=>(Fs A d).bind λa=>(Fs A e).bind λb=>if M.g6 50 a=true/\M.g6 50 b=true then some (.B (if neg then !M.FD a b else M.FD a b),A) else none
@[simp]def Vt(d:D):Bool:=D.casesOn d true (λ_=>false) (λ_=>false) (λ_=>false) (λ_=>false) (λ_=>false) (λ_=>false) (λ_=>false)<|λ_=>false
@[simp]def x5:H2:=λd e A=>if Vt e=true then some (.B<|Vt d,A) else none
@[simp]def Wn(neg:Bool):H2:=λd e A=>(gZ d).bind λx=>(Jj A e).bind λl=>(fv gZ l).map λys=>(.B (if neg then !ua (.str x) (ys.map .str) else ua (.str x) (ys.map .str)),A)
@[simp]def Wo:H2:=λd e A=>(gZ d).bind λi=>(gZ e).map λj=>(.B<|!(agL j i 0 j.length 1).isEmpty,A)
@[simp]def iK(d:D)(A:Hh):Option<|D×Hh:=(jZ d).map λi=>(.int<|-i,A)
@[simp]def JS(A:Hh)(d:D):Option Bool:=if Vt d=true then some false else (sJ d).or (((jZ d).map λi=>i != 0).or<|((gZ d).bind λy=>if y.length<=ZF then some ((y.length:Int) != 0) else none).or<|(Jj A d).map λl=>!l.isEmpty)
@[simp]def cR(a:XE):XT:=λU A=>(xb a λd _ A=>(JS A d).map λc=>(c,A)) U A
section
variable {K:Zj}{m:Zk}{A A':Hh}{H:Hp}{d e:D}{v w:V}{l:Zc}{xs:Za}
mutual
theorem JP:∀ {d:D} {v:V} {a:M.D},Den K m H d v->yP d=some a->M.Den K H a v
 |.N,_,_,h,e=>by ext e;show M.den_non.2 h.non
 |.B _,_,_,h,e=>by ext e;show M.den_bl.2 h.bl
 |.int _,_,_,h,e=>by ext e;show M.den_int.2 h.int
 |.str _,_,_,h,e=>by ext e;show M.den_str.2 h.str
 |.T l,_,_,h,e=>by let⟨r,q,rfl⟩:=aaQ.1 (show (toPs l).map M.D.mtp=some _ from e);let⟨p,xs,rfl,h1,h2⟩:=h.tup_;show M.den_mtp.2 ⟨p,xs,rfl,h1,toPs_is h2 q⟩
theorem toPs_is:∀ {l:Zc} {xs:Za} {r:List M.D},Zo K m H l xs->toPs l=some r->M.Zo K H r xs
 |[],_,_,.nil,e=>by ext e;show .nil
 |d::l,_,_,.cons a b,e=>by let⟨x,q,e⟩:=aaD.1 (show ((yP d).bind λa=>(toPs l).map λr=>a::r)=some _ from e);let⟨r,q2,rfl⟩:=aaQ.1 e;show .cons (JP a q)<|toPs_is b q2
end
def JO{a:M.D}(w:R K m A H)(h:Den K m H d v)(e:Fs A d=some a):M.Dv K H H a v:=by
 rcases aK e with e|e
 .exact .inl<|JP h e
 .let⟨n,q0,e⟩:=bnd e;let⟨l,q1,e⟩:=bnd e;let⟨r,q2,rfl⟩:=dD e;let⟨p,xs,rfl,h1,h2⟩:=ib w h q0 q1;show .inl<|M.den_lst.2 ⟨p,xs,rfl,.inl h1,toPs_is h2 q2⟩
def XZ(neg:Bool):BF K (M.Tk K neg)<|eA neg:=λm A H d e x y Q c A' w dx dy q n=>by let⟨a,q1,q⟩:=bnd q;let⟨b,q2,q⟩:=bnd q;let⟨h,q⟩:=aC q;ext q;show⟨H,a,b,Same.refl _,JO w dx q1,JO w dy q2,h.1,h.2,n.now w<|.at rfl⟩
def Ai(h:Den K m H d v):decide (v=.N)=Vt d:=by
 cases h with
 | «at» h=>cases d<;>cases h<;>rfl
 |T _ _|mt _ _|S _ _|ref _=>rfl
def X5:BF K abv x5:=λm A H d e x y Q c A' w dx dy q n=>by let⟨h,q⟩:=aC q;ext q;rw[<-Ai dy] at h;show⟨abT h,by rw[Ai dx];show n.now w<|.at rfl⟩
def X1(neg:Bool):BF K (rIn K neg)<|Wn neg:=λm A H d e x y Q c A' w dx dy q n=>by let⟨a,q1,q⟩:=aaD.1 (show (gZ d).bind _=_ from q);let⟨l,q2,q⟩:=aaD.1 q;let⟨ys,q3,q⟩:=aaQ.1 q;ext q;cases zJ d a q1;cases dx.str;let⟨p,xs,rfl,h1,h2⟩:=pW w dy q2;cases qJ h2 q3;show⟨p,_,rfl,h1,rfl,by simp[m7],n.now w<|.at rfl⟩
def X2:BF K Xu Wo:=λm A H d e x y Q c A' w dx dy q n=>by let⟨i,q1,q⟩:=bnd q;let⟨j,q2,q⟩:=dD q;ext q;show⟨i,j,dx.dS q1,dy.dS q2,n.now w<|.at rfl⟩
def X8:RF1 K (rU λi=>.int<|-i) iK:=λm A H d x Q c A' w dx q n=>by let⟨i,q1,q⟩:=dD q;ext q;show⟨i,dx.dI q1,n.now w<|.at rfl⟩
def UV{c:Bool}(w:R K m A H)(h:Den K m H d v)(e:JS A d=some c):KS K v H c:=by
 rcases bf e with ⟨z,e⟩|⟨_,e⟩
 .rw[<-Ai h] at z;ext e;rw[abT z];rfl
 rcases aK e with e|e
 .rw[h.dB e];rfl
 rcases aK e with e|e
 .let⟨i,q,e⟩:=dD e;rw[h.dI q,<-e];rfl
 rcases aK e with e|e
 .let⟨y,q,e⟩:=bnd e;let⟨hl,e⟩:=aC e;rw[h.dS q,<-e];show⟨hl,rfl⟩
 .let⟨l,q,e⟩:=dD e;let⟨p,xs,rfl,h1,h2⟩:=pW w h q;have z2:c = !xs.isEmpty:=by rw[<-e];cases h2<;>rfl
  show h1.elim (λh=>.inl ⟨xs,h,z2⟩) λh=>.inr<|.inl ⟨xs,h,z2⟩
def YH(h:SE K t x):ST K (abU K t)<|cR x:=λm A H U Z Q z A' e w q n=>h.run e w q n λm A H d v e w dv q n=>by let⟨c,q,e⟩:=aaQ.1 q;ext e;show⟨_,UV w dv q,n.now w rfl⟩
end
@[simp]def B.dc(b:B):Option<|List (bH×D):=B.casesOn b nn some (λ_ _=>none) nn nn
@[simp]def og(A:Hh)(d:D):Option<|List (bH×D):=(o6 d).bind λn=>A[n]?.bind B.dc
@[simp]def Oa(d:D)(A:Hh):Option<|D×Hh:=((gZ d).bind λx=>if x.length<=ZF then some (.int x.length,A) else none).or<|(Jj A d).map λl=>(.int l.length,A)
@[simp]def b8(d:D)(A:Hh):Option<|D×Hh:=(Oa d A).or<|(og A d).map λl=>(.int l.length,A)
@[simp]def i5(d:D)(A:Hh):Option<|D×Hh:=((KC d).map λl=>(.T l,A)).or<|(iR A d).map λl=>(.T l,A)
def PY(l:Zc):Bool:=(fv jZ l).elim false upI || (fv Vq l).elim false Vy
def i4(d:D)(A:Hh):Option<|D×Hh:=(iR A d).bind λl=>if PY l=true then some (.ref A.length,A++[.L l]) else none
@[simp]def Oc:H2:=GS λi j=>.int (if j > i then j else i)
@[simp]def Od:H2:=GS λi j=>.int (if j<i then j else i)
@[simp]def Oe:HF:=λl A=>(fv jZ l).bind λns=>if ns.length=4 then some (.int<|M.oz ns,A) else none
@[simp]def lh(f:Zn->Zd)(d:D)(A:Hh):Option<|D×Hh:=(iR A d).bind λl=>(fv jZ l).bind λns=>(f ns).map λd=>(d,A)
@[simp]def pz(f:List Bool->D)(d:D)(A:Hh):Option<|D×Hh:=(iR A d).bind λl=>(fv sJ l).map λns=>(f ns,A)
@[simp]def F1(d:D)(A:Hh):Option<|D×Hh:=((jZ d).map λi=>(.int i,A)).or<|((sJ d).map λk=>(.int (if k then 1 else 0),A)).or ((gZ d).bind λx=>(intText? x).bind λn=>if x.length<=640 then some (.int n,A) else none)
@[simp]def mP(d:D)(A:Hh):Option<|D×Hh:=(jZ d).bind λi=>if i.natAbs.log2<1920 then some (.str<|toString i,A) else none
section
variable {K:Zj}{m:Zk}{A A':Hh}{H:Hp}{d e:D}{v w:V}{l:Zc}{xs:Za}
def X7:RF K (M.IM K)<|h1 Oa:=FF λm A H d x Q c A' w dx q n=>by
 rcases aK q with q|q
 .let⟨y,q1,q⟩:=bnd q;let⟨h,q⟩:=aC q;ext q;show⟨_,_,rfl,(by rw[dx.dS q1];show⟨h,rfl⟩),n.now w<|.at rfl⟩
 .let⟨l,q1,z⟩:=dD q;ext z;let⟨p,xs,rfl,h1,h2⟩:=pW w dx q1;have k:=h2.length;show⟨_,xs.length,rfl,h1.elim (λh=>.inl ⟨xs,h,rfl⟩) λh=>.inr ⟨xs,h,rfl⟩,k▸n.now w (.at rfl)⟩
def Nj:RF K (Tn K)<|h1 i5:=FF λm A H d x Q c A' w dx q n=>by
 rcases aK q with q|q
 .let⟨l,q1,z⟩:=dD q;ext z;let⟨_,p,xs,rfl,h1,h2⟩:=j4 dx q1;show⟨p,xs,rfl,.inr ⟨.of h1,n.now w<|.T h1 h2⟩⟩
 .let⟨l,q1,z⟩:=dD q;ext z;let⟨p,xs,rfl,h1,h2⟩:=fF w dx q1;show⟨p,xs,rfl,.inl ⟨h1,λp hp=>w.newT h2 hp n⟩⟩
theorem xN:∀ {ks:Zm} {xs:Za},Zo K m H (ks.map tI) xs->(xs.zip ks).map (·.1)=xs/\(xs.zip ks).map (·.2)=ks/\(xs.zip ks).length=ks.length/\∀yk∈xs.zip ks,Den K m H (tI yk.2) yk.1
 |[],_,.nil=>⟨rfl,rfl,rfl,λ_ h=>nomatch h⟩
 |k::ks,_,.cons h1 h2=>by
  let⟨a,b,c,d⟩:=xN h2;split⟨aaF (_ :: ·) a,aaF (_ :: ·) b,aaF (· + 1) c,λyk hm=>?_⟩;rcases aau.1 hm with rfl|hm
  .exact h1
  .exact d yk hm
theorem Gz:∀ {l:Zc} {ks:Zm},fv Vq l=some ks->∀k∈ks,k≠[]
 |[],_,h,_,hk=>by ext h;ext hk
 |d::l,ks,h,k,hk=>by
  let⟨a,h1,h⟩:=bnd h;let⟨r,h2,h⟩:=dD h;ext h;rcases aau.1 hk with rfl|hk
  .exact Lf h1
  .exact Gz h2 k hk
def IU:RF K (AN K)<|h1 i4:=FF λm A H d x Q c A' w dx q n=>by
 let⟨l,q,e⟩:=aaD.1 (show (iR A d).bind _=some (c,A') from q);let⟨p,xs,rfl,h1,h2⟩:=fF w dx q;let⟨hu0,z⟩:=aC e;ext z;split⟨p,xs,rfl,h1,?_,λl hl=>w.newL h2 hl n⟩;rcases afh.1 hu0 with hu|hu
 .cases e2:fv jZ l with
  |none=>rw[e2] at hu;ext hu
  |some ns=>rw[e2] at hu;show .inl ⟨ns,mS h2 e2,hu⟩
 .cases e2:fv Vq l with
  |none=>rw[e2] at hu;ext hu
  |some ks=>rw[e2] at hu;have ne:=Gz e2;clear hu0;cases lK QQ e2;let⟨a,b,c,dd⟩:=xN h2;split .inr ⟨xs.zip ks,a.symm,λyk hm=>?_,by rw[b];show hu⟩;let⟨q,ys,e,g1,g2⟩:=(dd yk hm).tup_;cases Zo.of (f:=.int) (g:=.int) (λ_=>rfl) g2;show⟨q,e,g1,ne _<|b▸abm.2 ⟨yk,hm,rfl⟩⟩
def TB:RF K XC<|h2 Oc:=rf2 λm A H d e x y Q c A' w dx dy q n=>by let⟨i,q1,q⟩:=bnd q;let⟨j,q2,q⟩:=dD q;ext q;show⟨i,j,#v[dx.dI q1,dy.dI q2],n.now w<|.at rfl⟩
def TC:RF K XD<|h2 Od:=rf2 λm A H d e x y Q c A' w dx dy q n=>by let⟨i,q1,q⟩:=bnd q;let⟨j,q2,q⟩:=dD q;ext q;show⟨i,j,#v[dx.dI q1,dy.dI q2],n.now w<|.at rfl⟩
def Tu{r:Za->Hp->VK->Prop}{f:Zn->Zd}(h:∀(p:ZB) (ns:Zn) (H:Hp) (Q:VK) d,SqL K H p (ns.map V.int)->f ns=some d->(∀v,fl d=some v->Q v H)->r [.ref p] H Q):RF K r<|h1 (lh f):=FF λm A H d x Q c A' w dx q n=>by let⟨l,q1,e⟩:=aaD.1 (show (iR A d).bind _=some (c,A') from q);let⟨ns,q2,e⟩:=aaD.1 e;let⟨g,q3,e⟩:=aaQ.1 e;ext e;let⟨p,xs,rfl,h1,h2⟩:=fF w dx q1;cases mS h2 q2;show h p ns H Q _ h1 q3 λv e=>n.now w<|.at e
def Ye:RF K (Pt K)<|h1 (lh λns=>some<|.int ns.sum):=Tu λp ns H Q d h e k=>by ext e;show⟨p,ns,rfl,h,k _ rfl⟩
def Pv{r:Za->Hp->VK->Prop}{f:List Bool->D}(h:∀(p:ZB) (ns:List Bool) (H:Hp) (Q:VK),SqL K H p (ns.map V.B)->(∀v,fl (f ns)=some v->Q v H)->r [.ref p] H Q):RF K r<|h1 (pz f):=FF λm A H d x Q c A' w dx q n=>by let⟨l,q1,e⟩:=aaD.1 (show (iR A d).bind _=some (c,A') from q);let⟨ns,q2,e⟩:=aaQ.1 e;ext e;let⟨p,xs,rfl,h1,h2⟩:=fF w dx q1;cases f8 h2 q2;show h p ns H Q h1 λv e=>n.now w<|.at e
def XU:RF K (Xr K)<|h1 (pz λbs=>.B<|bs.all id):=Pv λp ns H Q h k=>⟨p,ns,rfl,h,k _ rfl⟩
def XV:RF K (Xs K)<|h1 (pz λbs=>.B<|bs.any id):=Pv λp ns H Q h k=>⟨p,ns,rfl,h,k _ rfl⟩
def X3:RF K (λxs H Q=>Xv xs H Q\/Pn xs H Q)<|h1 F1:=FF λm A H d x Q c A' w dx q n=>by
 rcases aK q with q|q
 .let⟨i,q1,z⟩:=dD q;ext z;show .inl<|.inl ⟨i,#v[dx.dI q1],n.now w<|.at rfl⟩
 rcases aK q with q|q
 .let⟨i,q1,z⟩:=dD q;ext z;show .inl<|.inr ⟨i,#v[dx.dB q1],n.now w<|.at rfl⟩
 .let⟨y,q0,q⟩:=bnd q;let⟨i,q1,e⟩:=bnd q;let⟨h,e⟩:=aC e;ext e;show .inr ⟨y,i,#v[dx.dS q0],q1,h,n.now w<|.at rfl⟩
def Yd:RF K Pr<|h1 mP:=FF λm A H d x Q c A' w dx q n=>by let⟨i,q1,q⟩:=bnd q;let⟨h,q⟩:=aC q;ext q;show⟨i,#v[dx.dI q1],h,n.now w<|.at rfl⟩
def abj{O:Type}{l:List O}(h:l.length=4):∃a b c d,l=[a,b,c,d]:=by
 rcases l with _|⟨a,_|⟨b,_|⟨c,_|⟨d,_|⟨e,l⟩⟩⟩⟩⟩<;>try (ext h;done)
 show⟨a,b,c,d,rfl⟩
def TD:RF K Pp Oe:=λm A H l xs Q d A' w dv q n=>by let⟨ns,q1,q⟩:=bnd q;let⟨h,q⟩:=aC q;ext q;let⟨a,b,c,d,rfl⟩:=abj h;show⟨a,b,c,d,mS dv q1,n.now w<|.at rfl⟩
end
@[simp]def fIx:H2:=λd e A=>(jZ e).bind λi=>((gZ d).bind λz=>if z.length<=ZF then (kT z.cps.toList i).map λc=>(.str ⟨#[c]⟩,A) else none).or<|(Jj A d).bind λl=>(kT l i).map λc=>(c,A)
@[simp]def Lb(l:Zc)(lo hi:Option Int):Zc:=(l.drop<|HT.dM l.length 0 lo).take<|HT.dM l.length l.length hi-HT.dM l.length 0 lo
@[simp]def fSl(d:D)(lo hi:Option Int)(A:Hh):Option<|D×Hh:=((gZ d).bind λz=>if z.length<=ZF then some (.str<|Txt.slice z lo hi,A) else none).or<|((KC d).map λl=>(.T<|Lb l lo hi,A)).or<|(iR A d).map λl=>(.ref A.length,A++[.L<|Lb l lo hi])
abbrev XO:=XX<|Option Int
@[simp]def wV:XO:=λ_ A=>some (none,A)
@[simp]def dP(a:XE):XO:=λU A=>(xb a λd _ A=>(jZ d).map λi=>(some i,A)) U A
@[simp]def tF(a:XE)(lo hi:XO):XE:=λU A=>(xb a λd=>xb lo λl=>xb hi λh _ A=>fSl d l h A) U A
abbrev SO(K:Zj)(t:TO)(x:XO):Prop:=SX K (λ_ _ a b=>a=b) t x
section
variable {K:Zj}{m:Zk}{A A':Hh}{H:Hp}{d e:D}{v w:V}{l:Zc}{xs:Za}
def Qs{i:Int}(h:Zo K m H l xs)(q:kT l i=some d):∃v,kT xs i=some v/\Den K m H d v:=by let⟨j,q1,q2⟩:=aaD.1 (show (Eo l.length i).bind _=some d from q);let⟨v,h1,h2⟩:=h.get q2;show⟨v,aaD.2 ⟨j,by rw[<-h.length];show q1,h1⟩,h2⟩
def abz:BF K (rIx K) fIx:=λm A H d e x y Q c A' w dx dy q n=>by
 let⟨i,q0,q⟩:=bnd q;have dy:=dy.dI q0;rcases aK q with q|q
 .let⟨z,q1,q⟩:=bnd q;rcases bf q with ⟨hl,q⟩|⟨_,q⟩
  .let⟨c,q2,q⟩:=dD q;ext q;show .inr<|.inr ⟨z,i,c,dx.dS q1,dy,hl,q2,n.now w<|.at rfl⟩
  .ext q
 .let⟨l,q1,q⟩:=bnd q;let⟨c,q2,q⟩:=dD q;ext q;let⟨p,xs,rfl,h1,h2⟩:=pW w dx q1;let⟨v,q3,dv⟩:=Qs h2 q2;show h1.elim (λh=>.inl ⟨p,xs,i,v,rfl,dy,h,q3,n.now w dv⟩) λh=>.inr<|.inl ⟨p,xs,i,v,rfl,dy,h,q3,n.now w dv⟩
def abL:SO K Di wV:=λm A H U Z Q _ _ e w q n=>by ext q;show n.now w rfl
def Ul(h:SE K t x):SO K (PR t)<|dP x:=λm A H U Z Q z A' e w q n=>h.run e w q n λm A H d v e w dv q n=>by let⟨i,q1,q⟩:=dD q;ext q;show⟨_,dv.dI q1,n.now w rfl⟩
def Gv{lo hi:Option Int}(h:Zo K m H l xs):Zo K m H (Lb l lo hi)<|pA xs lo hi:=by unfold Lb pA;rw[h.length];show (h.drop _).take _
def abN{tl th:TO}{lo hi:XO}(h:SE K t x)(hl:SO K tl lo)(hh:SO K th hi):SE K (tSl (λx lo hi H Q=>M.XJ K x lo hi H Q\/XM x lo hi H Q) t tl th)<|tF x lo hi:=λm A H U Z Q z A' e w q n=>by
 let⟨⟨d,A1⟩,q1,q⟩:=aaD.1 q;let⟨⟨a,A2⟩,q2,q⟩:=aaD.1 q;let⟨⟨b,A3⟩,q3,q⟩:=aaD.1 q;split h m A H U Z _ d A1 e w q1 λm1 H1 v u1 w1 dv=>hl m1 A1 H1 U Z _ a A2 (e.up u1) w1 q2 λm2 H2 _ u2 w2 ea=>hh m2 A2 H2 U Z _ b A3 (e.up<|u1.trans u2) w2 q3 λm3 H3 _ u3 w3 eb=>?_;subst ea eb;have dv:=(dv.up u2).up u3;have n:=n.up<|(u1.trans u2).trans u3;rcases aK q with q|q
 .let⟨y,q1,q⟩:=bnd q;let⟨h,q⟩:=aC q;ext q;show .inr ⟨y,dv.dS q1,h,n.now w3<|.at rfl⟩
 rcases aK q with q|q
 .let⟨l,q1,q⟩:=dD q;ext q;let⟨_,p,xs,rfl,h1,h2⟩:=j4 dv q1;have h3:=Gv (lo:=a) (hi:=b) h2;show .inl<|.inr ⟨p,xs,rfl,.of h1,λe=>n.now w3<|.T h1<|e▸h3,λp hp=>w3.newT h3 hp n⟩
 .let⟨l,q4,q⟩:=dD q;ext q;let⟨p,xs,rfl,h1,h2⟩:=fF w3 dv q4;show .inl<|.inl ⟨p,xs,rfl,h1,λp hp=>w3.newL (Gv h2) hp n⟩
end
@[simp]def jD(A:Hh)(d:D):Bool:=(iR A d).isSome
@[simp]def lU(_:Hh)(d:D):Bool:=(gZ d).isSome
@[simp]def dQ(c:Hh->D->Bool)(f:HF)(o:XE)(a:XA):XE:=λU A=>(xb o λd U A=>if c A d=true then xb a (λl _ A=>f (d::l) A) U A else none) U A
@[simp]def mm(A:Hh)(d:D)(f:Zc->Option (Zc×D)):Option<|D×Hh:=(o6 d).bind λn=>(A[n]?.bind B.ls).bind λl=>(f l).map λp=>(p.2,A.set n<|.L p.1)
@[simp]def cU:HF:=λl A=>(l2 l).bind λp=>mm A p.1 λl=>if l.length<ZF then some (l++[p.2],.N) else none
@[simp]def dU:HF:=λl A=>(l2 l).bind λp=>(o6 p.2).bind λe=>(A[e]?.bind B.ls).bind λk=>mm A p.1 λl=>if l.length+k.length<=ZF then some (l++k,.N) else none
@[simp]def Ew:HF:=λl A=>(l1 l).bind λd=>mm A d λl=>l[l.length-1]?.map λx=>(l.dropLast,x)
@[simp]def lj:HF:=λl A=>(l2 l).bind λp=>(gZ p.1).bind λs=>(iR A p.2).bind λl=>(fv gZ l).bind λys=>if (ys.map (·.length)).sum+ys.length*s.length<=16777216 then some (.str<|Txt.join s ys,A) else none
@[simp]def t2(l:Zc):Option<|Str×Str:=(l2 l).bind λp=>(gZ p.1).bind λy=>(gZ p.2).map λz=>(y,z)
@[simp]def bP:HF:=λl A=>((t2 l).bind λp=>if p.2.length≠0/\p.1.length+2<=ZF then some (.ref A.length,A++[.L<|(agM p.1 p.2).map .str]) else none).or
 ((l3 l).bind λp=>(gZ p.1).bind λy=>(gZ p.2.1).bind λz=>(jZ p.2.2).bind λk=>if z.length≠0/\y.length+2<=ZF/\0<=k/\k<1000 then some (.ref A.length,A++[.L<|(Txt.splitM y z k).map .str]) else none)
@[simp]def ke:HF:=λl A=>(t2 l).bind λp=>if p.2.length≠0/\p.1.length<=ZF then some (.T [.str (ZZ p.1 p.2).1,.str (ZZ p.1 p.2).2.1,.str (ZZ p.1 p.2).2.2],A) else none
@[simp]def jc:HF:=λl A=>(t2 l).map λp=>(.B<|decide (p.2.length<=p.1.length)&&aia p.1 p.2 0,A)
def MF(K:Zj)(r:V->Za->Hp->VK->Prop)(f:HF):Prop:=∀m A H d x l xs Q c A',R K m A H->Den K m H d x->Zo K m H l xs->f (d::l) A=some (c,A')->Nx K (Den K) m H c A' Q->r x xs H Q
section
variable {K:Zj}{m:Zk}{A A':Hh}{H:Hp}{d e:D}{v w:V}{l:Zc}{xs:Za}
def abF{c:Hh->D->Bool} {to:TE} {ta:TA} (hc:∀m A H d v,R K m A H->Den K m H d v->c A d=true->KG K T v H)(hf:MF K r f)(ho:SE K to o)(ha:SA K ta a):SE K (tBM K T r to ta)<|dQ c f o a:=λm A H U Z Q z A' e w q n=>ho.run e w q n λm A H d v e w dv q n=>by
 split at q
 .rename_i h;let⟨⟨l,A1⟩,q1,q⟩:=aaD.1 q;show⟨hc m A H d v w dv h,ha m A H U Z _ l A1 e w q1 λm1 H1 xs u1 w1 dl=>hf m1 A1 H1 d v l xs Q z A' w1 (dv.up u1) dl q<|n.up u1⟩
 .ext q
def Ys{c:Hh->D->Bool} {to:TE} (hc:∀m A H d v,R K m A H->Den K m H d v->c A d=true->KG K T v H)(hf:MF K r f)(ho:SE K to o):SE K (YU K T r to)<|dQ c f o aF:=λm A H U Z Q z A' e w q n=>ho.run e w q n λm A H d v e w dv q n=>by
 split at q
 .rename_i h;show⟨hc m A H d v w dv h,hf m A H d v [] [] Q z A' w dv .nil q n⟩
 .ext q
def om(m A H d v)(w:R K m A H)(h:Den K m H d v)(e:jD A d=true):KG K "list" v H:=by let⟨l,q⟩:=acp.1 e;let⟨p,xs,rfl,h1,h2⟩:=fF w h q;show .inl ⟨rfl,xs,h1⟩
def vT(m A H d v)(_:R K m A H)(h:Den K m H d v)(e:lU A d=true):KG K "str" v H:=by let⟨s,q⟩:=acp.1 e;rw[h.dS q];rfl
def kM{c:D} (w:R K m A H)(dv:Den K m H d v)(q:mm A d f=some (c,A'))(n:Nx K (Den K) m H c A' Q) :
  ∃p l xs k,v=.ref p/\H p=some (.L xs)/\Zo K m H l xs/\f l=some (k,c)/\∀ys u,Zo K m H k ys->Den K m H c u->Q u (upd H p<|.L ys):=by
 let⟨i,q0,q⟩:=bnd q;let⟨_,p,rfl,hp⟩:=gz dv q0;let⟨l,q1,q⟩:=bnd q;let⟨⟨k,c'⟩,q3,q⟩:=dD q;ext q;let⟨xs,g1,g2⟩:=rM w hp q1;split⟨p,l,xs,k,rfl,g1,g2,q3,λys u hk hu=>?_⟩;let⟨b,q1,q2⟩:=bnd q1;let⟨w',up⟩:=w.set (o:=.L ys) (b:=.L k) q1 hp (λu=>⟨ys,aH,hk.up u⟩) λ_ z=>by subst z;ext q2
 show n _ _ _ up w'<|hu.up up
def MF.mk1{r:V->Za->Hp->VK->Prop}{f:D->Hh->Option (D×Hh)}(h:∀m A H d x Q c A',R K m A H->Den K m H d x->f d A=some (c,A')->Nx K (Den K) m H c A' Q->r x [] H Q):MF K r<|λl A=>(l1 l).bind λd=>f d A:=λm A H d x l xs Q c A' w dx dl q n=>by let⟨e,q1,q⟩:=bnd q;let⟨v,z,a⟩:=yb (.cons dx dl) q1;ext z;show h m A H e x Q c A' w a q n
def MF.mk2{r:V->Za->Hp->VK->Prop}{f:H2}(h:∀m A H d e x y Q c A',R K m A H->Den K m H d x->Den K m H e y->f d e A=some (c,A')->Nx K (Den K) m H c A' Q->r x [y] H Q):MF K r<|λl A=>(l2 l).bind λp=>f p.1 p.2 A:=λm A H d x l xs Q c A' w dx dl q n=>by let⟨e,q1,q⟩:=bnd q;let⟨v,u,z,a,b⟩:=o8 (.cons dx dl) q1;ext z;show h m A H e.1 e.2 x u Q c A' w a b q n
def IP:MF K rAppend cU:=.mk2 (f:=λd e A=>mm A d λl=>if l.length<ZF then some (l++[e],.N) else none) λm A H d e x y Q c A' w dx he q n=>by let⟨p,l,xs,k,rfl,h1,h2,h3,h4⟩:=kM w dx q n;let⟨hl,h3⟩:=aC h3;ext h3;show⟨p,xs,y,rfl,rfl,h1,by rw[<-h2.length];show hl,h4 _ _ (h2.append<|.cons he .nil)<|.at rfl⟩
def IT:MF K M.rExtM dU:=.mk2 (f:=λd e A=>(o6 e).bind λn=>(A[n]?.bind B.ls).bind λk=>mm A d λl=>if l.length+k.length<=ZF then some (l++k,.N) else none) λm A H d e x y Q c A' w dx he q n=>by let⟨i,q0,q⟩:=bnd q;let⟨k,q1,q⟩:=bnd q;let⟨b,zs,rfl,g1,g2⟩:=ib w he q0 q1;let⟨p,l,xs,k,rfl,h1,h2,h3,h4⟩:=kM w dx q n;let⟨hl,h3⟩:=aC h3;ext h3;show⟨p,b,xs,zs,rfl,rfl,h1,.inl g1,by rw[<-h2.length,<-g2.length];show hl,h4 _ _ (h2.append g2)<|.at rfl⟩
theorem Zo.dropLast:∀ {l:Zc} {xs:Za},Zo K m H l xs->Zo K m H l.dropLast xs.dropLast
 |_,_,.nil=>.nil
 |_,_,.cons _ .nil=>.nil
 |_,_,.cons a (.cons b c)=>.cons a<|Zo.dropLast<|.cons b c
def X9:MF K rPop Ew:=.mk1 (f:=λd A=>mm A d λl=>l[l.length-1]?.map λx=>(l.dropLast,x)) λm A H d x Q c A' w dx q n=>by let⟨p,l,xs,k,rfl,h1,h2,h3,h4⟩:=kM w dx q n;let⟨y,h3,h5⟩:=dD h3;ext h5;let⟨v,h6,h7⟩:=h2.get h3;show⟨p,xs,v,rfl,rfl,h1,by rw[<-h2.length];show h6,h4 _ _ h2.dropLast h7⟩
def Tw:MF K (Po K) lj:=.mk2 (f:=λd e A=>(gZ d).bind λs=>(iR A e).bind λl=>(fv gZ l).bind λys=>if (ys.map (·.length)).sum+ys.length*s.length<=16777216 then some (.str<|Txt.join s ys,A) else none) λm A H d e x y Q c A' w dx he q n=>by let⟨s,q0,q⟩:=bnd q;let⟨k,q1,q⟩:=bnd q;let⟨ys,q2,q⟩:=bnd q;let⟨hl,q⟩:=aC q;ext q;let⟨b,zs,rfl,g1,g2⟩:=fF w he q1;cases qJ g2 q2;show⟨s,b,ys,dx.dS q0,rfl,g1,hl,n.now w<|.at rfl⟩
def Jy{p:Str×Str}(dx:Den K m H d x)(dl:Zo K m H l xs)(q:t2 (d::l)=some p):x=.str p.1/\xs=[.str p.2]:=by let⟨e,q1,q⟩:=bnd q;let⟨y,q2,q⟩:=bnd q;let⟨z,q3,q⟩:=dD q;ext q;let⟨v,u,e0,a,b⟩:=o8 (.cons dx dl) q1;ext e0;show⟨a.dS q2,#v[b.dS q3]⟩
def Ni:MF K (λx xs H Q=>rSplit x xs H Q\/rSplitM x xs H Q) bP:=λm A H d x l xs Q c A' w dx dl q n=>by
 rcases aK q with q|q
 .let⟨p,q1,q⟩:=bnd q;let⟨rfl,rfl⟩:=Jy dx dl q1;let⟨hl,q⟩:=aC q;ext q;show .inl ⟨_,_,rfl,rfl,hl.1,hl.2,λl h=>w.newL (.mk (λ_=>rfl) _) h n⟩
 .let⟨p,q1,q⟩:=bnd q;let⟨v,u,z,e0,a,b,g⟩:=OW (.cons dx dl) q1;ext e0;let⟨y,q2,q⟩:=bnd q;let⟨z,q3,q⟩:=bnd q;let⟨k,q4,q⟩:=bnd q;let⟨hl,q⟩:=aC q;ext q;show .inr ⟨y,z,k,a.dS q2,#v[b.dS q3,g.dI q4],hl.1,hl.2.1,hl.2.2,λl h=>w.newL (.mk (λ_=>rfl) _) h n⟩
def TF:MF K rPart ke:=λm A H d x l xs Q c A' w dx dl q n=>by let⟨p,q1,q⟩:=bnd q;let⟨rfl,rfl⟩:=Jy dx dl q1;let⟨hl,q⟩:=aC q;ext q;show⟨_,_,rfl,rfl,hl.1,hl.2,λl h=>w.newT (.cons (.at rfl)<|.cons (.at rfl)<|.cons (.at rfl) .nil) h n⟩
def IV:MF K rStarts jc:=λm A H d x l xs Q c A' w dx dl q n=>by let⟨p,q1,q⟩:=dD q;let⟨rfl,rfl⟩:=Jy dx dl q1;ext q;show⟨_,_,rfl,rfl,n.now w<|.at rfl⟩
end
section
variable {G O:Type}[DecidableEq G]
def val(kvs:List<|G×O)(k:G):Option O:=(kvs.find? λkv=>decide (kv.1=k)).map (·.2)
def put(kvs:List<|G×O)(k:G)(v:O):List<|G×O:=
 if (kvs.any λkv=>decide (kv.1=k))=true then kvs.map (λkv=>if kv.1=k then (kv.1,v) else kv) else kvs++[(k,v)]
def drp(kvs:List<|G×O)(k:G):List<|G×O:=kvs.filter λkv=>decide (kv.1≠k)
end
def AM(f:Str)(v:D):List (Str×D)->List (Str×D)
 |[]=>[(f,v)]
 | (g,x)::r=>if g=f then (g,v)::r else (g,x)::AM f v r
@[simp]def B.dt:B->Option (Zm)
 |.dit l=>some l
 |.fz l=>some l
 |_=>none
@[simp]def B.du:B->Option (Zm)
 |.dit l=>some l
 |_=>none
@[simp]def B.is(b:B):Option<|Str×List (Str×D):=B.casesOn b nn nn (λN fs=>some (N,fs)) nn nn
@[simp]def Wa(A:Hh)(d:D):Option<|Zm:=(o6 d).bind λn=>A[n]?.bind B.dt
@[simp]def vV(d:D):Option bH:=((jZ d).map ag6).or<|(gZ d).map agE
@[simp]def LY(d:D):Option<|Zn:=(KC d).bind<|fv jZ
@[simp]def KD(A:Hh)(d:D):Bool:=(og A d).isSome
@[simp]def Op:H2:=λd y A=>(og A d).bind λkvs=>(vV y).bind λk=>(val kvs k).map λc=>(c,A)
@[simp]def Wy(A:Hh)(y d:D):Option Bool:=((og A d).bind λkvs=>(vV y).map λk=>(val kvs k).isSome).or<|(Wa A d).bind λks=>(LY y).map λk=>ks.contains k
@[simp]def im(neg:Bool):H2:=λy d A=>(Wy A y d).map λc=>(.B<|neg ^^ c,A)
@[simp]def RU:HF:=λl A=>(l2 l).bind λp=>(og A p.1).bind λkvs=>(vV p.2).map λk=>((val kvs k).getD .N,A)
@[simp]def Jl(A:Hh)(d:D)(f:List (bH×D)->Option (List (bH×D)×D)):Option<|D×Hh:=(o6 d).bind λn=>(A[n]?.bind B.dc).bind λl=>(f l).map λp=>(p.2,A.set n<|.K p.1)
@[simp]def Ux(A:Hh)(d:D)(f:Zm->Option (Zm×D)):Option<|D×Hh:=(o6 d).bind λn=>(A[n]?.bind B.du).bind λl=>(f l).map λp=>(p.2,A.set n<|.dit p.1)
@[simp]def ll:HF:=λl A=>(l2 l).bind λp=>(vV p.2).bind λk=>Jl A p.1 λkvs=>(val kvs k).map λc=>(drp kvs k,c)
@[simp]def isT(A:Hh)(d:D):Bool:=((o6 d).bind λn=>A[n]?.bind B.du).isSome
def nA(d:D):Option<|Zn:=(KC d).bind λl=>(l2 l).bind λp=>(LY p.1).bind λk=>(sJ p.2).bind λb=>if b=true then some k else none
@[simp]def Cq:HF:=λl A=>(l2 l).bind λp=>(o6 p.2).bind λn=>(A[n]?.bind B.ls).bind λl=>(fv nA l).bind λqs=>Ux A p.1 λks=>if ks.length+l.length<ZF then some (qs.foldl M.py ks,.N) else none
@[simp]def FZ(d:D)(A:Hh):Option<|D×Hh:=(o6 d).bind λn=>(A[n]?.bind B.ls).bind λl=>(fv nA l).bind λqs=>if l.length<ZF then some (.ref A.length,A++[.dit<|qs.foldl M.py []]) else none
def abQ(k:bH):Option Str:=k.elim (λ_=>none) some
def nN:List (bH×D)->Option (Zl)
 |[]=>some []
 |p::l=>(abQ p.1).bind λx=>(nN l).map λr=>x::r
def iH(d:D)(A:Hh):Option<|D×Hh:=(og A d).bind λkvs=>(nN kvs).bind λys=>if ys.length<64 then some (.ref A.length,A++[.L<|(M.lm ys).map .str]) else none
def gw(d:D)(A:Hh):Option<|D×Hh:=(i4 d A).or<|iH d A
@[simp]def FH(a:XE):XE:=λU A=>(xb a λd _ A=>((jZ d).bind λi=>if i.natAbs.log2<1920 then some (.str<|toString i,A) else none).or ((gZ d).bind λy=>if y.length<=ZF then some (.str y,A) else none)) U A
@[simp]def Kq:List XE->Str->XE
 |[],acc=>λ_ A=>if acc.length<=ZF then some (.str acc,A) else none
 |x::l,acc=>xb x λd U A=>(gZ d).bind λy=>if (acc++y).length<=ZF then Kq l (acc++y) U A else none
@[simp]def pG(A:Hh)(d:D):Option<|Str×List (Str×D):=(o6 d).bind λn=>A[n]?.bind B.is
@[simp]def gW(Ns:Zl)(f:Str)(a:XE):XE:=λU A=>(xb a λd _ A=>(pG A d).bind λp=>if p.1∈Ns then (p.2.lookup f).map λc=>(c,A) else none) U A
inductive SJ(K:aiR):List TE->List XE->Prop where
 |nil:SJ K [] []
 |cons {t x ts xs}:SE K t x->SJ K ts xs->SJ K (t::ts) (x::xs)
section
variable {K:Zj}{m:Zk}{A A':Hh}{H:Hp}{d e:D}{v w:V}{l:Zc}{xs:Za}
section
variable {G:Type}[DecidableEq G]{k:G}
theorem Kv.val:∀ {l:List<|G×D} {xs:List<|G×V},Kv K m H l xs->(∀d,Y.val l k=some d->∃v,fe xs k=some v/\Den K m H d v)/\(Y.val l k=none->fe xs k=none)
 |_,_,.nil=>⟨λ_ h=>(nomatch h),λ_=>rfl⟩
 |_,_,.cons (k:=j) a b=>by
  unfold Y.val fe;rw[abt,abt];by_cases e:j=k
  .rw[aaz e];show⟨λd h=>by ext h;show⟨_,rfl,a⟩,λh=>(nomatch h)⟩
  .rw[aaA e];show b.val
theorem Kv.any(p:G->Bool):∀ {l:List<|G×D} {xs:List<|G×V},Kv K m H l xs->(l.any λkv=>p kv.1)=xs.any λkv=>p kv.1
 |_,_,.nil=>rfl
 |_,_,.cons a b=>aaF (_ || ·)<|b.any p
theorem Kv.app:∀ {l k:List<|G×D} {xs ys:List<|G×V},Kv K m H l xs->Kv K m H k ys->Kv K m H (l++k) (xs++ys)
 |_,_,_,_,.nil,h=>h
 |_,_,_,_,.cons a b,h=>.cons a<|b.app h
theorem Kv.rep(hd:Den K m H d v):∀ {l:List<|G×D} {xs:List<|G×V},Kv K m H l xs->Kv K m H (l.map λkv=>if kv.1=k then (kv.1,d) else kv) (xs.map λkv=>if kv.1=k then (kv.1,v) else kv)
 |_,_,.nil=>.nil
 |_,_,.cons (k:=j) a b=>by
  rw[aax,aax];by_cases e:j=k
  .rw[aac e,aac e];show .cons hd<|b.rep hd
  .rw[aad e,aad e];show .cons a<|b.rep hd
def Kv.put(hd:Den K m H d v){l:List<|G×D}{xs:List<|G×V}(h:Kv K m H l xs):Kv K m H (Y.put l k d)<|eJ xs k v:=by
 unfold Y.put eJ;rw[h.any λj=>decide (j=k)];split
 .exact h.rep hd
 .exact h.app<|.cons hd .nil
def Kv.drp{l:List<|G×D}{xs:List<|G×V}(h:Kv K m H l xs):Kv K m H (Y.drp l k)<|qL xs k:=by
 unfold Y.drp qL;induction h with
 |nil=>show .nil
 | @cons j d v l xs a b ih=>
  rw[adG,adG];by_cases e:j=k
  .rw[aad<|~~~e,aad<|~~~e];show ih
  .rw[aac<|~~~e,aac<|~~~e];show .cons a ih
theorem Kv.len:∀ {l:List<|G×D} {xs:List<|G×V},Kv K m H l xs->l.length=xs.length/\l.map (·.1)=xs.map (·.1)
 |_,_,.nil=>⟨rfl,rfl⟩
 |_,_,.cons a b=>⟨aaF (· + 1) b.len.1,aaF (_ :: ·) b.len.2⟩
end
theorem Kv.look:∀ {l:List<|Str×D} {xs:List<|Str×V},Kv K m H l xs->(∀d,l.lookup f=some d->∃v,xs.lookup f=some v/\Den K m H d v)/\(l.lookup f=none->xs.lookup f=none)
 |_,_,.nil=>⟨λ_ h=>(nomatch h),λ_=>rfl⟩
 |_,_,.cons (k:=j) a b=>by
  rw[aa9,aa9];cases f==j with
  |true=>show⟨λd h=>by ext h;show⟨_,rfl,a⟩,λh=>(nomatch h)⟩
  |false=>show b.look
theorem Kv.putF(hd:Den K m H d v):∀ {l:List<|Str×D} {xs:List<|Str×V},Kv K m H l xs->Kv K m H (AM f d l) (L2.putF f v xs)
 |_,_,.nil=>.cons hd .nil
 |_,_,.cons (k:=j) a b=>by
  unfold AM L2.putF;split
  .exact .cons hd b
  .exact .cons a<|b.putF hd
def lL{kvs:List<|bH×D}(w:R K m A H)(h:Den K m H d v)(q:og A d=some kvs):∃p ws,v=.ref p/\H p=some (.dK ws)/\Kv K m H kvs ws:=by let⟨n,q0,q⟩:=bnd q;let⟨b,q1,q2⟩:=bnd q;let⟨_,p,rfl,hp⟩:=gz h q0;cases b<;>ext q2;let⟨ws,a,b⟩:=w.ob n _ p q1 hp;show⟨p,ws,rfl,a,b⟩
def QT{ks:Zm}(w:R K m A H)(h:Den K m H d v)(q:Wa A d=some ks):∃p,v=.ref p/\Rd H p (.dT<|M.dA ks):=by
 let⟨n,q0,q⟩:=bnd q;let⟨b,q1,q2⟩:=bnd q;let⟨_,p,rfl,hp⟩:=gz h q0;cases b<;>ext q2
 .exact⟨p,rfl,.inl<|w.ob n _ p q1 hp⟩
 .exact⟨p,rfl,.inr<|w.ob n _ p q1 hp⟩
def rz{k:bH}(h:Den K m H d v)(q:vV d=some k):v=kV k:=by
 rcases aK q with q|q
 .let⟨i,q1,rfl⟩:=dD q;show h.dI q1
 .let⟨i,q1,rfl⟩:=dD q;show h.dS q1
def vW{k:Zn}(h:Den K m H d v)(q:LY d=some k):∃p,v=.ref p/\H p=some (.T<|(M.kI k).map kV):=by let⟨l,q1,q⟩:=bnd q;let⟨_,p,xs,rfl,h1,h2⟩:=j4 h q1;show⟨p,rfl,by rw[M.WF,<-mS h2 q];show h1⟩
def Hb{c:Bool}(w:R K m A H)(dd:Den K m H d v)(de:Den K m H e v')(q:Wy A d e=some c):∃p o,v'=.ref p/\DGet H p v o/\o.isSome=c:=by
 rcases aK q with q|q
 .let⟨kvs,q1,q⟩:=bnd q;let⟨k,q2,q⟩:=dD q;let⟨p,ws,rfl,h1,h2⟩:=lL w de q1;cases rz dd q2;split⟨p,_,rfl,DGet.k h1,?_⟩;rw[<-q];cases e:val kvs k with
  |none=>rw[h2.val.2 e];rfl
  |some c=>let⟨z,e1,_⟩:=h2.val.1 _ e;rw[e1];rfl
 .let⟨ks,q1,q⟩:=bnd q;let⟨k,q2,q⟩:=dD q;let⟨p,rfl,h1⟩:=QT w de q1;let⟨b,rfl,h2⟩:=vW dd q2;show⟨p,_,rfl,.inr ⟨_,_,b,h1,rfl,h2,rfl⟩,#v[M.pY,q]⟩
def Ud(a:SE K t x)(b:SE K u y):SE K (PM t u)<|az Op x y:=SX.two a b λm A H _ _ Q d v e v' c A' _ w dd de q n=>by let⟨kvs,q1,q⟩:=bnd q;let⟨k,q2,q⟩:=bnd q;let⟨c,q3,q⟩:=dD q;ext q;let⟨p,ws,rfl,h1,h2⟩:=lL w dd q1;cases rz de q2;let⟨z,e1,e2⟩:=h2.val.1 _ q3;show⟨p,z,rfl,e1▸DGet.k h1,n.now w e2⟩
def Yw(a:SE K t x)(b:SE K u y):SE K (YV t u)<|az (im false) x y:=SX.two a b λm A H _ _ Q d v e v' c A' _ w dd de q n=>by let⟨c,q1,q⟩:=dD q;ext q;let⟨p,o,rfl,g,rfl⟩:=Hb w dd de q1;show⟨p,o,rfl,g,n.now w<|.at<|by rw[ajC];rfl⟩
def Jb(a:SE K t x)(b:SE K u y):SE K (Dh t u)<|az (im true) x y:=SX.two a b λm A H _ _ Q d v e v' c A' _ w dd de q n=>by let⟨c,q1,q⟩:=dD q;ext q;let⟨p,o,rfl,g,rfl⟩:=Hb w dd de q1;show⟨p,o,rfl,g,n.now w<|.at<|by rw[aj2];rfl⟩
def rh(w:R K m A H)(h:Den K m H d v)(e:KD A d=true):∃p,v=.ref p/\IsD H p:=by let⟨l,q⟩:=acp.1 e;let⟨p,ws,rfl,h1,_⟩:=lL w h q;show⟨p,rfl,.inl ⟨ws,.inl h1⟩⟩
def SE.dm{f:H2} {z:D} {P:V->Hp->Prop}(a:SE K t x)(b:SE K u y)(e:Envs K m H U Z)(w:R K m A H)(q:dQ c (λl A=>(l2 l).bind λp=>f p.1 p.2 A) x (af y aF) U A=some (z,A'))(n:Nx K (Den K) m H z A' Q)
  (k:∀m A H d v,R K m A H->Den K m H d v->c A d=true->(∀P1:V->Hp->Prop,(∀m1 A1 H1 e1 y1,R K m1 A1 H1->Den K m1 H1 d v->Den K m1 H1 e1 y1->f d e1 A1=some (z,A')->Nx K (Den K) m1 H1 z A' Q->P1 y1 H1)->u Z H P1)->P v H):t Z H P:=a.run e w q n λm A H d v e w dv q n=>by
 rcases bf q with ⟨h,q⟩|⟨_,q⟩
 .let⟨⟨l,A1⟩,q5,q⟩:=bnd q;let⟨⟨e1,A2⟩,q1,q2⟩:=bnd q5;ext q2;show k m A H d v w dv h λP1 hR=>b m A H U Z _ e1 _ e w q1 λm1 H1 y u1 w1 dy=>hR m1 A2 H1 e1 y w1 (dv.up u1) dy q<|n.up u1
 .ext q
def Nv(a:SE K t x)(b:SE K u y):SE K (JC t u)<|dQ KD RU x (af y aF):=λm A H U Z Q z A' e w q n=>a.dm (f:=λd y A=>(og A d).bind λkvs=>(vV y).map λk=>((val kvs k).getD .N,A)) b e w q n λm A H d v w dv h k=>by
 let⟨p,rfl,g⟩:=rh w dv h;split⟨p,rfl,g,k _ λm A H e1 y w dv dy q n=>?_⟩;clear k;let⟨kvs,q3,q⟩:=bnd q;let⟨k,q2,q⟩:=dD q;ext q;let⟨p',ws,e0,h1,h2⟩:=lL w dv q3;ext e0;cases rz dy q2;split⟨_,DGet.k h1,?_⟩;cases e:val kvs k with
 |none=>rw[h2.val.2 e];rw[e] at n;show n.now w<|.at rfl
 |some c=>let⟨z,e1,e2⟩:=h2.val.1 _ e;rw[e1];rw[e] at n;show n.now w e2
def CZ{c:D} (w:R K m A H)(dv:Den K m H d v)(q:Jl A d f=some (c,A'))(n:Nx K (Den K) m H c A' Q) :
  ∃p l ws k,v=.ref p/\H p=some (.dK ws)/\Kv K m H l ws/\f l=some (k,c)/\∀ys u,Kv K m H k ys->Den K m H c u->Q u (upd H p<|.dK ys):=by
 let⟨i,q0,q⟩:=bnd q;let⟨_,p,rfl,hp⟩:=gz dv q0;let⟨l,q1,q⟩:=bnd q;let⟨b,q1,q2⟩:=bnd q1;let⟨⟨k,c'⟩,q3,q⟩:=dD q;ext q;cases b<;>ext q2;let⟨ws,g1,g2⟩:=w.ob i _ p q1 hp;split⟨p,l,ws,k,rfl,g1,g2,q3,λys u hk hu=>?_⟩;let⟨w',up⟩:=w.set (o:=.dK ys) (b:=.K k) q1 hp λu=>⟨ys,aH,hk.up u⟩
 show n _ _ _ up w'<|hu.up up
def NF{c:D} (w:R K m A H)(dv:Den K m H d v)(q:Ux A d f=some (c,A'))(n:Nx K (Den K) m H c A' Q) :
  ∃p ks js,v=.ref p/\H p=some (.dT<|M.dA ks)/\f ks=some (js,c)/\∀u,Den K m H c u->Q u (upd H p<|.dT<|M.dA js):=by
 let⟨i,q0,q⟩:=bnd q;let⟨_,p,rfl,hp⟩:=gz dv q0;let⟨l,q1,q⟩:=bnd q;let⟨b,q1,q2⟩:=bnd q1;let⟨⟨k,c'⟩,q3,q⟩:=dD q;ext q;cases b<;>ext q2;split⟨p,l,k,rfl,w.ob i _ p q1 hp,q3,λu hu=>?_⟩;let⟨w',up⟩:=w.set (o:=.dT<|M.dA k) (b:=.dit k) q1 hp λu=>aH;show n _ _ _ up w'<|hu.up up
def Nw(a:SE K t x)(b:SE K u y):SE K (JF t u)<|dQ KD ll x (af y aF):=λm A H U Z Q z A' e w q n=>a.dm (f:=λd y A=>(vV y).bind λk=>Jl A d λkvs=>(val kvs k).map λc=>(drp kvs k,c)) b e w q n λm A H d v w dv h k=>by let⟨p,rfl,g⟩:=rh w dv h;split⟨p,rfl,g,k _ λm A H e1 y w dv dy q n=>?_⟩;let⟨k,q2,q⟩:=bnd q;let⟨p',l,ws,j,e0,h1,h2,h3,h4⟩:=CZ w dv q n;ext e0;cases rz dy q2;let⟨c,e3,e4⟩:=dD h3;ext e4;let⟨z,e1,e2⟩:=h2.val.1 _ e3;show⟨ws,k,z,h1,rfl,e1,h4 _ _ h2.drp e2⟩
def Rx(m A H d v)(w:R K m A H)(h:Den K m H d v)(e:isT A d=true):KG K "dict" v H:=by let⟨l,q⟩:=acp.1 e;let⟨n,q0,q⟩:=bnd q;let⟨b,q1,q2⟩:=bnd q;let⟨_,p,rfl,hp⟩:=gz h q0;cases b<;>ext q2;show .inr<|.inr<|.inl ⟨rfl,.inr ⟨_,w.ob n _ p q1 hp⟩⟩
def HX{k:Zn}(h:Den K m H d v)(q:nA d=some k):∃p b,v=.ref p/\H p=some (.T [.ref b,.B true])/\H b=some (.T<|(M.kI k).map kV):=by let⟨l,q1,q⟩:=bnd q;let⟨e,q2,q⟩:=bnd q;let⟨k',q3,q⟩:=bnd q;let⟨t,q4,q⟩:=bnd q;let⟨rfl,q⟩:=aC q;ext q;let⟨_,p,xs,rfl,h1,h2⟩:=j4 h q1;let⟨x,y,rfl,a,b⟩:=o8 h2 q2;let⟨c,rfl,h3⟩:=vW a q3;cases b.dB q4;show⟨p,c,rfl,h1,h3⟩
theorem r6:∀ {l:Zc} {xs:Za} {qs:Zm},Zo K m H l xs->fv nA l=some qs->∃es:List<|Addr×ZB×List bH×V,xs=es.map (λe=>.ref e.1)/\(∀e∈es,H e.1=some (.T [.ref e.2.1,e.2.2.2])/\H e.2.1=some (.T<|e.2.2.1.map kV))/\es.map (λe=>(e.2.2.1,e.2.2.2))=qs.map λq=>(M.kI q,V.B true)
 |[],_,_,h,q=>by ext q;show⟨[],h.nil_,λ_ h=>(nomatch h),rfl⟩
 |d::l,_,_,h,q=>by
  let⟨k,q1,q⟩:=bnd q;let⟨r,q2,q⟩:=dD q;ext q;let⟨v,ys,rfl,h1,h2⟩:=h.cons_;let⟨es,rfl,e2,e3⟩:=r6 h2 q2;let⟨p,b,rfl,g1,g2⟩:=HX h1 q1;split⟨(p,b,M.kI k,.B true)::es,rfl,λe he=>?_,by rw[aax,e3];rfl⟩;rcases aau.1 he with rfl|he
  .exact⟨g1,g2⟩
  .exact e2 e he
def TJ:MF K rUpd Cq:=.mk2 (f:=λd e A=>(o6 e).bind λn=>(A[n]?.bind B.ls).bind λl=>(fv nA l).bind λqs=>Ux A d λks=>if ks.length+l.length<ZF then some (qs.foldl M.py ks,.N) else none) λm A H d e x y Q c A' w dx he q n=>by
 let⟨i,q0,q⟩:=bnd q;let⟨l,q1,q⟩:=bnd q;let⟨qs,q2,q⟩:=bnd q;let⟨b,zs,rfl,g1,g2⟩:=ib w he q0 q1;let⟨p,ks,js,rfl,h1,h2,h3⟩:=NF w dx q n;let⟨hk,h2⟩:=aC h2;ext h2;let⟨es,e1,e2,e3⟩:=r6 g2 q2;split⟨p,b,_,es,rfl,rfl,h1,e1▸g1,e2,?_,by rw[e3,M.mh];show h3 _<|.at rfl⟩;have e4:es.length=l.length:=by rw[g2.length,e1,aar]
 rw[M.GE,e4];show hk
def r_dictI:RF K Pm<|h1 FZ:=FF λm A H d x Q c A' w dx q n=>by
 let⟨i,q0,q⟩:=bnd q;let⟨l,q1,q⟩:=bnd q;let⟨qs,q2,q⟩:=bnd q;let⟨hl,q⟩:=aC q;ext q;let⟨b,zs,rfl,g1,g2⟩:=ib w dx q0 q1;let⟨es,e1,e2,e3⟩:=r6 g2 q2;have e4:es.length=l.length:=by rw[g2.length,e1,aar]
 split⟨b,es,rfl,e1▸g1,e2,e4▸hl,λp hp=>?_⟩;rw[e3,show ([]:List<|List bH×V)=M.dA [] from rfl,M.mh];let⟨w',u,k⟩:=w.new (o:=.dT<|M.dA<|qs.foldl M.py []) (b:=.dit<|qs.foldl M.py []) hp λu=>aH;show n _ _ _ u w' k
theorem km:∀ {l:List<|bH×D} {ys:Zl},nN l=some ys->l.map (·.1)=ys.map agE
 |[],_,h=>by ext h;rfl
 |p::l,_,h=>by let⟨x,h0,h⟩:=bnd h;let⟨r,h1,h⟩:=dD h;ext h;rw[aax,aax,km h1];let⟨k,d⟩:=p;cases k<;>ext h0;rfl
def Nh:RF K sg<|h1 iH:=FF λm A H d x Q c A' w dx q n=>by let⟨kvs,q1,q⟩:=aaD.1 (show (og A d).bind _=some (c,A') from q);let⟨ys,q2,q⟩:=aaD.1 q;let⟨hl,q⟩:=aC q;ext q;let⟨p,ws,rfl,h1,h2⟩:=lL w dx q1;show⟨p,ws,ys,rfl,.inl h1,h2.len.2▸km q2,hl,λzs l pm so hl=>M.AV pm so▸w.newL (.mk (λ_=>rfl) _) hl n⟩
def Yj(a:RF K r<|h1 f)(b:RF K r'<|h1 g):RF K (λxs H Q=>r xs H Q\/r' xs H Q)<|h1 λd A=>(f d A).or (g d A):=FF λm A H d x Q c A' w dx q n=>by
 rcases aK q with q|q
 .exact .inl<|a m A H [d] [x] Q c A' w (.cons dx .nil) q n
 .exact .inr<|b m A H [d] [x] Q c A' w (.cons dx .nil) q n
def TH:RF K (λxs H Q=>AN K xs H Q\/sg xs H Q)<|h1 gw:=Yj IU Nh
def abI(h:SE K t x):SE K (tFv t)<|FH x:=λm A H U Z Q z A' e w q n=>h.run e w q n λm A H d v e w dv q n=>by
 rcases aK q with q|q
 .let⟨i,q1,q⟩:=bnd q;let⟨hl,q⟩:=aC q;ext q;show .inl ⟨_,dv.dI q1,hl,n.now w<|.at rfl⟩
 .let⟨i,q1,q⟩:=bnd q;let⟨hl,q⟩:=aC q;ext q;show .inr ⟨_,dv.dS q1,hl,n.now w<|.at rfl⟩
theorem YB:∀ {ts:List TE} {xs:List XE} {acc:Str},SJ K ts xs->SE K (tJs ts acc) (Kq xs acc)
 |_,_,acc,.nil=>λm A H U Z Q z A' e w q n=>by
  let⟨hl,q⟩:=aC (show (if acc.length<=ZF then some (D.str acc,A) else none)=some (z,A') from q);ext q;show⟨hl,n.now w<|.at rfl⟩
 |_,_,acc,.cons h k=>λm A H U Z Q z A' e w q n=>h.run e w q n λm A H d v e w dv q n=>by
  let⟨y,q1,q⟩:=bnd q;by_cases hl:(acc++y).length<=ZF
  .exact⟨y,dv.dS q1,hl,YB k m A H U Z Q z A' e w ((aac hl).symm.trans q) n⟩
  .cases (aad hl).symm.trans q
def vR{N:Str}{fs:List<|Str×D}(w:R K m A H)(h:Den K m H d v)(q:pG A d=some (N,fs)):∃n p C dx ws,d=.ref n/\A[n]?=some (.ins N fs)/\m[n]?=some p/\v=.ref p/\agA K ZK N=some (some<|.ref C)/\H p=some (.ins C dx ws)/\Kv K m H fs ws:=by let⟨n,q0,q⟩:=bnd q;let⟨b,q1,q2⟩:=bnd q;let⟨rfl,p,rfl,hp⟩:=gz h q0;cases b<;>ext q2;let⟨C,dx,ws,a,b,c⟩:=w.ob n _ p q1 hp;show⟨n,p,C,dx,ws,rfl,q1,hp,rfl,a,b,c⟩
def Yx{Ns:Zl} (h:SE K t x):SE K (PP K Ns t f)<|gW Ns f x:=λm A H U Z Q z A' e w q n=>h.run e w q n λm A H d v e w dv q n=>by
 let⟨⟨N,fs⟩,q1,q⟩:=bnd q;rcases bf q with ⟨hN,q⟩|⟨_,q⟩
 .let⟨c,q2,q⟩:=dD q;ext q;let⟨k,p,C,dx,ws,rfl,a1,a2,rfl,a3,a4,a5⟩:=vR w dv q1;let⟨y,b1,b2⟩:=a5.look.1 _ q2;show⟨p,C,dx,ws,y,⟨rfl,⟨N,hN,a3⟩,a4⟩,b1,n.now w b2⟩
 .ext q
end
inductive Out where
 |nx (U:Env)|rt (d:D)
abbrev XS:=XX Out
abbrev XG:=D->Env->Hh->Option (Env×Hh)
abbrev KA:=Zc->Env->Hh->Option (Env×Hh)
@[simp]def bx:XS:=λU A=>some (.nx U,A)
@[simp]def ac{O:Type}:XX O:=λ_ _=>none
@[simp]def Out.isNx(o:Out):Option Env:=Out.casesOn o some<|λ_=>none
@[simp]def ak(a b:XS):XS:=λU A=>(a U A).bind λp=>p.1.isNx.elim (some p) λU1=>b U1 p.2
@[simp]def bw(a:XE):XS:=λU A=>(xb a λ_ U A=>some (.nx U,A)) U A
@[simp]def aM(a:XE):XS:=λU A=>(xb a λd _ A=>some (.rt d,A)) U A
@[simp]def gX(c:XT)(a b:XS):XS:=λU A=>(xb c λq U A=>if q=true then a U A else b U A) U A
@[simp]def au(i:Nat):XG:=λd U A=>some (U.set i<|some d,A)
@[simp]def nR:KA:=λl U A=>if l.length=0 then some (U,A) else none
@[simp]def bR(g:XG)(k:KA):KA:=λl U A=>l.head?.bind λd=>(g d U A).bind λp=>k l.tail p.1 p.2
@[simp]def nS(n:Nat)(g:KA):XG:=λd U A=>(Jk d).bind λl=>if l.length=n then g l U A else none
@[simp]def Ks(n:Nat)(g:KA):XG:=λd U A=>(iR A d).bind λl=>if l.length=n then g l U A else none
@[simp]def Qb(a b:XE):XG:=λv U A=>(a U A).bind λp=>(b U p.2).bind λq=>(jZ q.1).bind λk=>(mm q.2 p.1 λl=>(Eo l.length k).map λj=>(l.set j v,.N)).map λr=>(U,r.2)
@[simp]def gV(a:XE)(g:XG):XS:=λU A=>(xb a λd U A=>(g d U A).map λp=>(.nx p.1,p.2)) U A
@[simp]def y6(i:Nat)(a:XE)(f:H2):XS:=λU A=>U[i]?.join.bind λd=>xb a (λe U A=>(f d e A).map λp=>(.nx<|U.set i<|some p.1,p.2)) U A
def iy(c:XT)(b:XS):Nat->XS
 |0=>λ_ _=>none
 |n+1=>xb c λq U A=>if q=true then (b U A).bind λp=>match p.1 with
   |.nx U=>iy c b n U p.2
   |.rt d=>some (.rt d,p.2)
  else some (.nx U,A)
def fu(c:XT)(b:XS):XS:=iy c b 18446744073709551616
def Fn(K:Zj)(m:Zk)(H:Hp)(U:Env)(A:Hh)(P:St->Hp->Prop):Prop:=∀m' H' Z',Up m m' H H'->R K m' A H'->Envs K m' H' U Z'->P Z' H'
def Fin(K:Zj)(m:Zk)(H:Hp)(A:Hh)(E:Ends):Out->Prop
 |.nx U=>Fn K m H U A E.nx
 |.rt d=>Nx K (Den K) m H d A E.rt
def SS(K:Zj)(t:TS)(x:XS):Prop:=∀m A H U Z E o A',Envs K m H U Z->R K m A H->x U A=some (o,A')->Fin K m H A' E o->t E Z H
def SG(K:Zj)(t:TG)(x:XG):Prop:=∀m A H U Z (P:St->Hp->Prop) d v U' A',Envs K m H U Z->R K m A H->Den K m H d v->x d U A=some (U',A')->Fn K m H U' A' P->t v Z H P
def Vp(K:Zj)(t:Fz)(x:KA):Prop:=∀m A H U Z (P:St->Hp->Prop) d v U' A',Envs K m H U Z->R K m A H->Zo K m H d v->x d U A=some (U',A')->Fn K m H U' A' P->t v Z H P
section
variable {K:Zj}{m m':Zk}{A A':Hh}{H H':Hp}{d e:D}{v w:V}{l:Zc}{xs:Za}{U U':Env}{Z:St}{E:Ends}{t u:TS}{x y:XS}{te:TE}{a:XE}{tc:TT}{c:XT}{g:TG}{k:XG}{gs:Fz}{ks:KA}
def Fn.up(u:Up m m' H H')(h:Fn K m H U A P):Fn K m' H' U A P:=λ_ _ _ u2=>h _ _ _<|u.trans u2
def Fin.up(u:Up m m' H H')(h:Fin K m H A E o):Fin K m' H' A E o:=by
 ext o
 .exact Fn.up u h
 .exact Nx.up u h
def Fn.now(h:Fn K m H U A P)(w:R K m A H)(e:Envs K m H U Z):P Z H:=h m H Z .refl w e
def SX.go{O β:Type}{r:Zk->Hp->O->β->Prop}{t:TX β}{x:XX O}{y:O->XS}{o:Out}{P:β->Hp->Prop}(h:SX K r t x)(e:Envs K m H U Z)(w:R K m A H)(q:xb x y U A=some (o,A'))(n:Fin K m H A' E o)
  (k:∀m A H a b,Envs K m H U Z->R K m A H->r m H a b->y a U A=some (o,A')->Fin K m H A' E o->P b H):t Z H P:=by
 let⟨⟨a,A1⟩,q1,q2⟩:=aaD.1 q;show h m A H U Z _ a A1 e w q1 λm' H' b u w' ra=>k m' A1 H' a b (e.up u) w' ra q2<|n.up u
def wG:SS K yN bx:=λm A H U Z E o A' e w q n=>by ext q;show Fn.now n w e
def Pz(h:SS K t x)(k:SS K u y):SS K (NM t u)<|ak x y:=λm A H U Z E o A' e w q n=>by
 let⟨⟨o1,A1⟩,q1,q⟩:=bnd q;cases o1 with
 |nx U1=>show h m A H U Z _ _ A1 e w q1 λm' H' Z' u w' e'=>k m' A1 H' U1 Z' E o A' e' w' q<|n.up u
 |_=>ext q;show h m A H U Z _ _ _ e w q1 n
def Ui(h:SE K te a):SS K (JH te)<|bw a:=λm A H U Z E o A' e w q n=>h.go e w q n λm A H d v e w dv q n=>by ext q;show Fn.now n w e
def YF(h:SE K te a):SS K (UP te)<|aM a:=λm A H U Z E o A' e w q n=>h.go e w q n λm A H d v e w dv q n=>by ext q;show Nx.now n w dv
def Uo:SS K PU<|aM (xC .N):=λm A H U Z E o A' e w q n=>by ext q;show (n:Nx K (Den K) m H .N A E.rt).now w<|.at rfl
def abJ(h:ST K tc c)(k:SS K t x)(k':SS K u y):SS K (UO tc t u)<|gX c x y:=λm A H U Z E o A' e w q n=>h.go e w q n λm A H d v e w dv q n=>by
 subst dv;rcases bf q with ⟨hc,q⟩|⟨hc,q⟩
 .rw[aac hc];show k m A H U Z E o A' e w q n
 .rw[aad hc];show k' m A H U Z E o A' e w q n
def Envs.set{i:Nat}(h:Envs K m H U Z)(dv:Den K m H d v):Envs K m H (U.set i<|some d)<|Z.set i (some v):=⟨by rw[ab6,ab6];show h.1,λj c q=>by
 by_cases e:i=j
 .subst e;have hi:i<U.length:=by have:=(aa0.1 q).1;rwa[ab6] at this
  rw[acf hi] at q;ext q;show⟨v,acf<|h.1▸hi,dv⟩
 .rw[aav e] at q ⊢
  show h.2 j c q⟩
def nI{i:Nat}:SG K (hU i)<|au i:=λm A H U Z P d v U' A' e w dv q n=>by ext q;show n.now w<|e.set dv
def UA:Vp K LL nR:=λm A H U Z P d v U' A' e w dv q n=>by let⟨h,q⟩:=aC q;ext q;cases abu h;show⟨dv.nil_,n.now w e⟩
def NH(h:SG K g k)(hs:Vp K gs ks):Vp K (Ca g gs)<|bR k ks:=λm A H U Z P dl v U' A' e w dv q n=>by
 let⟨c,q0,q⟩:=bnd q;let⟨⟨U1,A1⟩,q1,q⟩:=bnd q;cases dl with
 |nil=>ext q0
 |cons d l=>ext q0;let⟨v,xs,rfl,a,b⟩:=dv.cons_;show⟨v,xs,rfl,h m A H U Z _ _ v U1 A1 e w a q1 λm' H' Z' u w' e'=>hs m' A1 H' U1 Z' P l xs U' A' e' w' (b.up u) q<|n.up u⟩
def Jo{n:Nat}(h:Vp K gs ks):SG K (LM K n gs)<|nS n ks:=λm A H U Z P d v U' A' e w dv q n=>by
 let⟨l,q1,q⟩:=bnd q;rcases bf q with ⟨hl,q⟩|⟨_,q⟩
 .let⟨p,xs,rfl,h1,h2⟩:=wH dv q1;show⟨p,xs,rfl,h1,h2.length▸hl,h m A H U Z P l xs U' A' e w h2 q n⟩
 .ext q
def Uz{n:Nat}(h:Vp K gs ks):SG K (Wu K n gs)<|Ks n ks:=λm A H U Z P d v U' A' e w dv q n=>by
 let⟨l,q1,q⟩:=bnd q;rcases bf q with ⟨hl,q⟩|⟨_,q⟩
 .let⟨p,xs,rfl,h1,h2⟩:=fF w dv q1;show⟨p,xs,rfl,h1,h2.length▸hl,h m A H U Z P l xs U' A' e w h2 q n⟩
 .ext q
def UB{ta tb:TE} (ha:SE K ta a)(hb:SE K tb b):SG K (Wv ta tb Pq)<|Qb a b:=λm A H U Z P d v U' A' e w dv q n=>by let⟨⟨o,A1⟩,q1,q⟩:=bnd q;let⟨⟨i,A2⟩,q2,q⟩:=bnd q;let⟨k,q0,q⟩:=bnd q;split ha m A H U Z _ o A1 e w q1 λm1 H1 ov u1 w1 do1=>hb m1 A1 H1 U Z _ i A2 (e.up u1) w1 q2 λm2 H2 iv u2 w2 di=>?_;let⟨⟨z,A3⟩,q3,q⟩:=dD q;ext q;have u3:=u1.trans u2;let⟨p,l,xs,k',rfl,h1,h2,h3,h4⟩:=kM (Q:=λ_ H=>P Z H) w2 (do1.up u2) q3 λm' H' _ u w _=>n m' H' Z (u3.trans u) w<|e.up<|u3.trans u;let⟨j,h6,h5⟩:=dD h3;ext h5;show⟨p,xs,k,j,rfl,di.dI q0,h1,h2.length▸h6,h4 _ _ (h2.set j<|dv.up u3)<|.at rfl⟩
def uD(h:SE K te a)(hg:SG K g k):SS K (yM te g)<|gV a k:=λm A H U Z E o A' e w q n=>h.go e w q n λm A H d v e w dv q n=>by let⟨⟨U1,A1⟩,q1,q⟩:=dD q;ext q;show hg m A H U Z _ d v U1 _ e w dv q1 n
def Yr{i:Nat} (hf:BF K r f)(h:SE K te a):SS K (YS i te r)<|y6 i a f:=λm A H U Z E o A' e w q n=>by let⟨d,q0,q⟩:=bnd q;let⟨v,hv,dv⟩:=e.2 i d<|afg.1 q0;let⟨⟨c,A1⟩,q1,q⟩:=bnd q;split⟨v,hv,h m A H U Z _ c A1 e w q1 λm1 H1 y u1 w1 dy=>?_⟩;let⟨⟨z,A2⟩,q2,q⟩:=dD q;ext q;show hf m1 A1 H1 d c v y _ z _ w1 (dv.up u1) dy q2 λm2 H2 zv u2 w2 dz=>n m2 H2 _ (u1.trans u2) w2<|(e.up<|u1.trans u2).set dz
def Ny{tb:TS} (hc:ST K tc c)(hb:SS K tb b)(f:Nat):SS K (JM tc tb)<|iy c b f:=λm A H U Z E o A' e w q n=>by
 let W (f:Nat) (Z:St) (H:Hp):Prop:=∃m A U,Envs K m H U Z/\R K m A H/\iy c b f U A=some (o,A')/\Fin K m H A' E o
 split⟨W,⟨f,m,A,U,e,w,q,n⟩,?_⟩;rintro f Z H ⟨m,A,U,e,w,q,n⟩;cases f with
 |zero=>ext q
 |succ f=>
  split hc.go e w q n λm A H p p' e w ep q n=>?_;subst ep;rcases bf q with ⟨hp,q⟩|⟨hp,q⟩
  .rw[aac hp];let⟨⟨o1,A2⟩,q1,q⟩:=bnd q;split⟨W f,λZ' H' h=>⟨f,abo f,h⟩,hb m A H U Z _ o1 A2 e w q1 ?_⟩;cases o1 with
   |nx U1=>show λm' H' Z' u w e=>⟨m',A2,U1,e,w,q,n.up u⟩
   |rt d=>ext q;show n
  .rw[aad hp];ext q;show Fn.now n w e
end
inductive Wk where
 |sq (l:Zc)|ls (n:Nat)|zp (l:Zc) (n:Nat) (k:Zl)
def zp1(x:Zd)(y:Option Str):Option<|Zd:=x.elim (some none) λx=>y.map λy=>some<|.T [x,.str y]
def Wk.stp(i:Nat)(A:Hh):Wk->Option (Zd)
 |.sq l=>if i<=l.length then some l[i]? else none
 |.ls n=>(A[n]?.bind B.ls).map λl=>l[i]?
 |.zp l n k=>if (A[n]?.bind B.ls).bind (fv gZ)=some k/\i<=l.length then zp1 l[i]? k[i]? else none
def Wk.len(A:Hh):Wk->Nat
 |.sq l=>l.length
 |.ls n=>((A[n]?.bind B.ls).getD []).length
 |.zp l _ _=>l.length
abbrev XI:=XX Wk
def ja(g:XG)(b:XS)(w:Wk):Nat->Nat->XS
 |0,_=>λ_ _=>none
 |f+1,i=>λU A=>match w.stp i A with
  |none=>none
  |some none=>some (.nx U,A)
  |some (some x)=>(g x U A).bind λp=>(b p.1 p.2).bind λo=>match o.1 with
   |.nx U=>ja g b w f (i+1) U o.2
   |.rt d=>some (.rt d,o.2)
def fq(a:XI)(g:XG)(b:XS):XS:=xb a λw U A=>ja g b w (w.len A+1) 0 U A
@[simp]def iq(js:List<|Option Nat)(U:Env):Env:=js.map λo=>match o with|none=>none|some j=>(U[j]?).join
def g9(g:XG)(c:XT)(a:XE)(w:Wk)(n:Nat)(U:Env):Nat->Nat->Hh->Option Hh
 |0,_,_=>none
 |f+1,i,A=>match w.stp i A with
  |none=>none
  |some none=>some A
  |some (some x)=>(g x U A).bind λp=>(c p.1 p.2).bind λq=>if q.1=true then (a p.1 q.2).bind λr=>(mm r.2 (.ref n) λl=>if l.length<ZF then some (l++[r.1],.N) else none).bind λs=>g9 g c a w n U f (i+1) s.2
   else g9 g c a w n U f (i+1) q.2
def aL(js:List<|Option Nat)(a:XI)(g:XG)(c:XT)(e:XE):XE:=xb a λw U A=>(g9 g c e w A.length (iq js U) (w.len A+1) 0<|A++[.L []]).map λA'=>(.ref A.length,A')
def Wlk(K:Zj)(m:Zk)(H:Hp)(w:Wk)(J:It):Prop:=∀m' A H' i,Up m m' H H'->R K m' A H'->(w.stp i A=some none->J.stop i H')/\∀x,w.stp i A=some (some x) ->
 J.go i H'/\∀v H2,J.yld i H' v H2->Up m' m' H' H2/\R K m' A H2/\Den K m' H2 x v
abbrev SI(K:Zj)(t:TI)(x:XI):Prop:=SX K (Wlk K) t x
@[simp]def xIt(a:XE):XI:=λU A=>(xb a λd _ A=>(((Jk d).or<|dcC d).map λl=>(Wk.sq l,A)).or<|(o6 d).bind λn=>(A[n]?.bind B.ls).map λ_=>(.ls n,A)) U A
def DP(x:Str):Zc:=x.cps.toList.map λc=>.str ⟨#[c]⟩
@[simp]def aam(a:XE):XI:=λU A=>(xb a λd _ A=>(gZ d).map λx=>(.sq<|DP x,A)) U A
@[simp]def pk(a:XA):XI:=λU A=>(xb a λl _ A=>(l1 l).bind λd=>(jZ d).bind λj=>if -(2^62)<=j/\j<2^62 then some (.sq ((ZV j.toNat).map λk:Nat=>.int k),A) else none) U A
@[simp]def Kr(a:XA):XI:=λU A=>(xb a λl _ A=>(l2 l).bind λp=>(jZ p.1).bind λi=>(jZ p.2).map λj=>(.sq ((ZV (j-i).toNat).map λk:Nat=>.int<|i+k),A)) U A
@[simp]def y8(a:XA):XI:=λU A=>(xb a λl _ A=>(l3 l).bind λp=>(jZ p.1).bind λi=>(jZ p.2.1).bind λj=>(jZ p.2.2).bind λs=>if (i=0/\s=2)/\0<=j/\j<1000000 then some (.sq ((ZV ((j+1)/2).toNat).map λk:Nat=>.int<|2*k),A) else none) U A
@[simp]def NX(a:XA):XI:=λU A=>(xb a λl _ A=>(l1 l).bind λd=>(KC d).map λl=>(.sq l.reverse,A)) U A
@[simp]def nQ(a:XA):XI:=λU A=>(xb a λl _ A=>(l2 l).bind λp=>(dcM p.1).bind λl=>(o6 p.2).bind λn=>((A[n]?.bind B.ls).bind<|fv gZ).map λk=>(.zp l n k,A)) U A
section
variable {K:Zj}{m m':Zk}{A A':Hh}{H H':Hp}{d e:D}{v w:V}{l:Zc}{xs:Za}{U:Env}{Z:St}{E:Ends}{u:TS}{x y:XS}{te:TE}{a:XE}{tc:TT}{c:XT}{g:TG}{k:XG}{ta:TA}{xa:XA}
def Wlk.sq{J:It}(h:∀m' H' i,Up m m' H H'->(l.length=i->J.stop i H')/\∀x,l[i]?=some x->J.go i H'/\∀v H2,J.yld i H' v H2->H2=H'/\Den K m' H' x v):Wlk K m H (.sq l) J:=λm' A H' i u w=>by
 let⟨h1,h2⟩:=h m' H' i u;split⟨λq=>?_,λx q=>?_⟩
 .let⟨hl,q⟩:=aC q;show h1<|Nat.le_antisymm (afi.1 q) hl
 .let⟨hl,q⟩:=aC q;let⟨h3,h4⟩:=h2 x q;split⟨h3,λv H2 y=>?_⟩;let⟨rfl,h5⟩:=h4 v H2 y;show⟨.refl,w,h5⟩
def Wlk.tp(s:SqT K H p xs)(h:Zo K m H l xs):Wlk K m H (.sq l)<|Itt K p:=Wlk.sq λm' H' i u=>⟨λq=>⟨xs,u.2.sqT s,ac2<|h.length▸q⟩,λx q=>by
 let⟨v,h1,h2⟩:=(h.up u).get q
 show⟨⟨xs,v,u.2.sqT s,h1⟩,λv' H2 ⟨e,y⟩=>⟨e,by cases (y xs<|u.2.sqT s).symm.trans h1;show h2⟩⟩⟩
def Wlk.up(u:Up m m' H H')(h:Wlk K m H wk J):Wlk K m' H' wk J:=λ_ _ _ i u2=>h _ _ _ i<|u.trans u2
def abK(h:SE K te a):SI K (WA K te)<|xIt a:=λm A H U Z Q z A' e w q n=>h.run e w q n λm A H d v e w dv q n=>by
 rcases aK q with q|q
 .let⟨l,q1,q⟩:=dD q;ext q;rcases aK q1 with q1|q1
  .let⟨p,xs,rfl,h1,h2⟩:=wH dv q1;show⟨p,rfl,.inr ⟨⟨xs,h1⟩,n.now w<|.tp h1 h2⟩⟩
  .let⟨p,xs,rfl,s,h⟩:=Gx dv q1;split⟨p,rfl,.inl ⟨⟨xs,s.sq⟩,n.now w<|.sq λm' H' i u=>?_⟩⟩;have s':=(u.2.sqF s).sq;split⟨λq=>⟨xs,s',ac2<|h.length▸q⟩,λx q=>?_⟩;let⟨v,h1,h2⟩:=(h.up u).get q;show⟨⟨xs,v,s',h1⟩,λv' H2 ⟨e,y⟩=>⟨e,by cases (y xs s').symm.trans h1;show h2⟩⟩
 .let⟨i,q0,q⟩:=bnd q;let⟨l,q1,q⟩:=dD q;ext q;let⟨_,p,rfl,hp⟩:=gz dv q0;let⟨xs,g1,g2⟩:=rM w hp q1;split⟨p,rfl,.inl ⟨⟨xs,.of g1⟩,n.now w λm' A H' j u w=>?_⟩⟩;have ls:∀r,(A[i]?.bind B.ls).map (λl=>l[j]?)=some r->∃l xs,H' p=some (.L xs)/\Zo K m' H' l xs/\l[j]?=r:=λr q=>by
   let⟨l,q1,q⟩:=dD q;let⟨xs,g1,g2⟩:=rM w (ai u.1 hp) q1;show⟨l,xs,g1,g2,q⟩
  split⟨λq=>?_,λx q=>?_⟩
  .let⟨l,xs,g1,g2,g3⟩:=ls _ q;show⟨xs,.of g1,g2.length▸afi.1 g3⟩
  .let⟨l,xs,g1,g2,g3⟩:=ls _ q;let⟨v,h1,h2⟩:=g2.get g3;split⟨⟨xs,v,.of g1,h1⟩,λv' H2 ⟨e,y⟩=>?_⟩;subst e;cases (y xs<|.of g1).symm.trans h1;show⟨.refl,w,h2⟩
def YA(h:SE K te a):SI K (WB te)<|aam a:=λm A H U Z Q z A' e w q n=>h.run e w q n λm A H d v e w dv q n=>by let⟨x,q1,q⟩:=dD q;ext q;split⟨x,dv.dS q1,n.now w<|.sq λm' H' i u=>?_⟩;unfold DP;rw[aar,aaX,adu];split⟨λq=>ac2 q,λy q=>?_⟩;let⟨c,q1,rfl⟩:=dD q;show⟨(adB.1 q1).1,λv H2 ⟨e,c',q',ev⟩=>⟨e,by cases q1.symm.trans q';rw[ev];show .at rfl⟩⟩
def Wlk.rng{n:Nat}{f:Nat->Int}{J:It}(h1:∀i H,n<=i->J.stop i H)(h2:∀i H,i<n->J.go i H)(h3:∀i H v H',J.yld i H v H'->H'=H/\v=.int (f i)):Wlk K m H (.sq<|(ZV n).map λk=>.int<|f k) J:=.sq λm' H' i u=>by rw[aar,acl,aaX];split⟨λq=>h1 i H'<|ac2 q,λx q=>?_⟩;let⟨k,q1,rfl⟩:=dD q;let⟨hi,q2⟩:=aa0.1 q1;rw[List.getElem_range] at q2;subst q2;show⟨h2 i H'<|~~~hi,λv H2 y=>⟨(h3 i H' v H2 y).1,by rw[(h3 i H' v H2 y).2];show .at rfl⟩⟩
def Uq(h:SA K ta xa):SI K (OD ta)<|pk xa:=λm A H U Z Q z A' e w q n=>h.run e w q n λm A H d v e w dv q n=>by let⟨d,q1,q⟩:=bnd q;let⟨j,q2,q⟩:=bnd q;let⟨hl,q⟩:=aC q;ext q;let⟨x,rfl,hx⟩:=yb dv q1;show⟨j,#v[hx.dI q2],hl.1,hl.2,n.now w<|.rng (λ_ _ h=>h) (λ_ _ h=>h) λi H v H' y=>⟨y.1,#v[y.2,ajQ]⟩⟩
def Ur(h:SA K ta xa):SI K (OJ ta)<|Kr xa:=λm A H U Z Q z A' e w q n=>h.run e w q n λm A H d v e w dv q n=>by let⟨d,q1,q⟩:=bnd q;let⟨i,q2,q⟩:=bnd q;let⟨j,q3,q⟩:=dD q;ext q;let⟨x,y,rfl,hx,hy⟩:=o8 dv q1;show⟨i,j,#v[hx.dI q2,hy.dI q3],n.now w<|.rng (λ_ _ h=>h) (λ_ _ h=>h) λi H v H' y=>y⟩
def Us(h:SA K ta xa):SI K (OH ta)<|y8 xa:=λm A H U Z Q z A' e w q n=>h.run e w q n λm A H d v e w dv q n=>by let⟨d,q1,q⟩:=bnd q;let⟨i,q2,q⟩:=bnd q;let⟨j,q3,q⟩:=bnd q;let⟨s,q4,q⟩:=bnd q;let⟨hl,q⟩:=aC q;ext q;let⟨x,y,z,rfl,hx,hy,hz⟩:=OW dv q1;show⟨j,#v[hx.dI q2,hy.dI q3,hz.dI q4,hl.1.1,hl.1.2],hl.2.1,hl.2.2,n.now w<|.rng (λ_ _ h=>h) (λ_ _ h=>h) λi H v H' y=>y⟩
def YG(h:SA K ta xa):SI K (Wz K ta)<|NX xa:=λm A H U Z Q z A' e w q n=>h.run e w q n λm A H d v e w dv q n=>by let⟨d,q1,q⟩:=bnd q;let⟨l,q2,q⟩:=dD q;ext q;let⟨x,rfl,hx⟩:=yb dv q1;let⟨_,p,xs,rfl,h1,h2⟩:=j4 hx q2;split⟨p,xs,rfl,.of h1,n.now w<|.sq λm' H' i u=>?_⟩;have s':SqT K H' p xs:=.of<|u.2 _ _ h1 trivial;rw[aeq,h2.length];split⟨λq=>⟨s',q⟩,λx q=>?_⟩;let⟨v,h3,h4⟩:=(h2.up u).rev.get q;show⟨⟨s',v,h3⟩,λv' H2 ⟨e,y⟩=>⟨e,by cases y.symm.trans h3;show h4⟩⟩
def YM(h:SA K ta xa):SI K (iZp K ta)<|nQ xa:=λm A H U Z Q z A' e w q n=>h.run e w q n λm A H d v e w dv q n=>by
 let⟨d,q0,q⟩:=bnd q;let⟨l,q2,q⟩:=bnd q;let⟨i,q3,q⟩:=bnd q;let⟨k,q1,q⟩:=dD q;ext q;let⟨x,y,rfl,hx,hy⟩:=o8 dv q0;let⟨p,xs,rfl,h1,h2⟩:=Gy hx q2;let⟨_,b,rfl,hb⟩:=gz hy q3;have ls:∀m' A H',Up m m' H H'->R K m' A H'->(A[i]?.bind B.ls).bind (fv gZ)=some k->H' b=some (.L<|k.map .str):=λm' A H' u w q=>by let⟨s,q,q2⟩:=bnd q;let⟨zs,g3,g4⟩:=rM w (ai u.1 hb) q;cases qJ g4 q2;show g3
 split⟨p,b,xs,_,rfl,h1,.of<|ls m _ H .refl w q1,n.now w λm' A H' j u w=>?_⟩;have s':=u.2.sqT h1;split⟨λq=>?_,λx q=>?_⟩
 .rcases bf q with ⟨hk,q⟩|⟨_,q⟩
  .cases e1:l[j]? with
   |none=>show⟨s',h2.length▸Nat.le_antisymm (afi.1 e1) hk.2⟩
   |some x=>rw[e1] at q;let⟨y,_,q⟩:=dD (show k[j]?.map _=_ from q);ext q
  .ext q
 .rcases bf q with ⟨hk,q⟩|⟨_,q⟩
  .cases e1:l[j]? with
   |none=>rw[e1] at q;ext q
   |some x=>
    rw[e1] at q;let⟨y,e2,q⟩:=dD (show k[j]?.map _=_ from q);ext q;let⟨v1,a1,a2⟩:=(h2.up u).get e1;have e3:(k.map V.str)[j]?=some (.str y):=by rw[aaX,e2];rfl
    split⟨⟨⟨s',.of<|ls m' A H' u w hk.1⟩,v1,_,a1,e3⟩,λv H2 Zy=>?_⟩;let⟨p2,x2,y2,ev,hp,b1,b2,eH⟩:=Zy;cases a1.symm.trans b1;cases e3.symm.trans b2;subst ev eH;let⟨w3,u3⟩:=w.tup (o:=.T [v1,.str y]) hp;show⟨u3,w3,.T aH<|.cons (a2.up u3)<|.cons (.at rfl) .nil⟩
  .ext q
def Yy{ti:TI}{xi:XI}{tb:TS} (hi:SI K ti xi)(hg:SG K g k)(hb:SS K tb b):SS K (UN ti g tb)<|fq xi k b:=λm A H U Z E o A' e w q n=>hi.go e w q n λm A H wk J e w wl q n=>by
 let W (i f:Nat) (Z:St) (H:Hp):Prop:=∃m A U,Wlk K m H wk J/\Envs K m H U Z/\R K m A H/\ja k b wk f i U A=some (o,A')/\Fin K m H A' E o
 split⟨W,⟨_,m,A,U,wl,e,w,q,n⟩,?_⟩;rintro i f Z H ⟨m,A,U,wl,e,w,q,n⟩;cases f with
 |zero=>ext q
 |succ f=>
  unfold ja at q;let⟨w1,w2⟩:=wl m A H i .refl w;cases qs:wk.stp i A with
  |none=>rw[qs] at q;ext q
  |some s=>
   rw[qs] at q;cases s with
   |none=>ext q;show .inl ⟨w1 qs,Fn.now n w e⟩
   |some x=>
    let⟨h1,h2⟩:=w2 x qs;let⟨⟨U1,A1⟩,q1,q⟩:=bnd q;let⟨⟨o1,A2⟩,q2,q⟩:=bnd q;split .inr ⟨h1,W (i+1) f,λZ' H' h=>⟨f,abo f,h⟩,λv H' y=>?_⟩;let⟨u,w,dv⟩:=h2 v H' y;split hg m A H' U Z _ x v U1 A1 (e.up u) w dv q1 λm1 H1 Z1 u1 w1 e1=>hb m1 A1 H1 U1 Z1 _ o1 A2 e1 w1 q2 ?_;have u:=u.trans u1;cases o1 with
    |nx U2=>show λm' H' Z' u2 w e=>⟨m',A2,U2,wl.up<|u.trans u2,e,w,q,n.up<|u.trans u2⟩
    |rt d=>ext q;show n.up u
def Envs.innr{js:List<|Option Nat}(h:Envs K m H U Z):Envs K m H (iq js U)<|inn js Z:=by
 split⟨by unfold iq inn;rw[aar,aar],λi d q=>?_⟩;unfold iq at q;unfold inn;rw[aaX] at q ⊢;let⟨j,q1,q⟩:=dD q;rw[q1];cases j with
 |none=>ext q
 |some j=>let⟨v,h1,h2⟩:=h.2 j d<|afg.1 q;show⟨v,by show some ((Z[j]?).join)=_;rw[h1];rfl,h2⟩
def Ub{ti:TI}{xi:XI}{js:List<|Option Nat}(hi:SI K ti xi)(hg:SG K g k)(hc:ST K tc c)(ha:SE K te a):SE K (uK js ti g tc te)<|aL js xi k c a:=λm A H U Z Q z A' e w q n=>hi.run e w q n λm A H wk J e w wl q n=>by
 let⟨A2,q,q0⟩:=dD q;ext q0;intro p hp;let⟨w0,u0,d0⟩:=w.new (o:=.L []) (b:=.L []) hp λu=>⟨[],aH,.nil⟩
 let⟨_,e0,hm⟩:=d0.ref_;ext e0
 let W (i f:Nat) (H':Hp):Prop:=∃m' A1,Up (m++[p]) m' (upd H p<|.L []) H'/\R K m' A1 H'/\g9 k c a wk A.length (iq js U) f i A1=some A'
 split⟨W,⟨_,_,_,.refl,w0,q⟩,?_⟩;rintro i f H1 ⟨m1,A1,u1,w1,q⟩;cases f with
 |zero=>ext q
 |succ f=>
  unfold g9 at q;have u01:=u0.trans u1;let⟨s1,s2⟩:=wl m1 A1 H1 i u01 w1;cases qs:wk.stp i A1 with
  |none=>rw[qs] at q;ext q
  |some s=>
   rw[qs] at q;cases s with
   |none=>ext q;show .inl ⟨s1 qs,n _ _ _ u01 w1<|.ref<|ai u1.1 hm⟩
   |some x=>
    let⟨h1,h2⟩:=s2 x qs;split .inr ⟨h1,λv H2 y=>?_⟩;let⟨u2,w2,dv⟩:=h2 v H2 y;let⟨⟨U1,A3⟩,q1,q⟩:=bnd q;let⟨⟨b,A4⟩,q2,q⟩:=bnd q;split hg m1 A1 H2 _ _ _ x v U1 A3 (e.innr.up<|u01.trans u2) w2 dv q1 λm3 H3 Z3 u3 w3 e3=>hc m3 A3 H3 U1 Z3 _ b A4 e3 w3 q2 λm4 H4 b' u4 w4 eb=>?_;have u24:=(u1.trans u2).trans<|u3.trans u4;subst eb;rcases bf q with ⟨hb,q⟩|⟨hb,q⟩
    .rw[aac hb];let⟨⟨d,A5⟩,q3,q⟩:=bnd q;let⟨⟨z,A6⟩,q4,q⟩:=bnd q;split ha m4 A4 H4 U1 Z3 _ d A5 (e3.up u4) w4 q3 λm5 H5 y u5 w5 dy=>?_;let⟨p',l,xs,k',e0,g1,g2,g3,g4⟩:=kM (Q:=λ_ H=>W (i+1) f H) w5 (.ref<|ai (u24.trans u5).1 hm) q4 λm' H' _ u w _=>⟨m',A6,(u24.trans u5).trans u,w,q⟩
     ext e0;let⟨hl,g3⟩:=aC g3;ext g3;show⟨xs,g1,g2.length▸hl,f,abo f,g4 _ _ (g2.append<|.cons dy .nil)<|.at rfl⟩
    .rw[aad hb];show⟨f,abo f,m4,A4,u24,w4,q⟩
end
@[simp]def Out.ans(A:Hh)(o:Out):Option<|D×Hh:=Out.casesOn o (λ_=>some (.N,A))<|λd=>some (d,A)
def bS(j n:Nat)(x:XS):HF:=λds A=>if ds.length=j then (x (ds.map some++agJ (n-j) none) A).bind λp=>p.1.ans p.2 else none
def zf(K:Zj)(j:Nat)(f:HF):Sp:=λvs H Q _=>vs.length=j/\∃m A ds d A',R K m A H/\Zo K m H ds vs/\f ds A=some (d,A')/\Nx K (Den K) m H d A' Q
@[simp]def ah(j:Nat)(f:HF)(a:XA):XE:=λU A=>(xb a λl _ A=>if l.length=j then f l A else none) U A
@[simp]def bM(Ns:Zl)(m:Str)(j:Nat)(f:HF)(o:XE)(a:XA):XE:=λU A=>(xb o λd U A=>(pG A d).bind λp=>if p.1∈Ns/\p.2.lookup m=none then xb a (λl _ A=>if (d::l).length=j then f (d::l) A else none) U A else none) U A
@[simp]def uP(N:Str)(j:Nat)(f:HF)(a:XA):XE:=λU A=>(xb a λl _ A=>if l.length+1=j then (f (.ref A.length::l)<|A++[.ins N []]).bind λp=>if Vt p.1=true then some (.ref A.length,p.2) else none else none) U A
@[simp]def uR(Ns:Zl)(f:Str)(o v:XE):XS:=λU A=>(xb v λc=>xb o λd U A=>(o6 d).bind λn=>(pG A d).bind λp=>if p.1∈Ns/\p.2.length<1000 then some (.nx U,A.set n<|.ins p.1<|AM f c p.2) else none) U A
@[simp]def Xp(c d y:D)(A:Hh):Option<|D×Hh:=(vV y).bind λk=>Jl A d λkvs=>if kvs.length<ZF then some (put kvs k c,.N) else none
@[simp]def Qa(o i v:XE):XS:=λU A=>(xb v λc=>xb o λd=>xb i λy U A=>(Xp c d y A).map λp=>(.nx U,p.2)) U A
@[simp]def sI:XE:=λ_ A=>some (.ref A.length,A++[.K []])
@[simp]def Ko:XE:=λ_ A=>some (.ref A.length,A++[.dit []])
@[simp]def y7(a b:XE):XE:=λU A=>(xb a λd=>xb b λe _ A1=>(LY d).bind λk=>(sJ e).bind λc=>(A1[A.length]?.bind B.du).bind λks=>if c=true/\ks.length=0 then some (.ref A.length,A1.set A.length<|.dit [k]) else none) U<|A++[.dit []]
@[simp]def ju(neg:Bool)(tab:List<|Str×D)(a:XE):XE:=λU A=>(xb a λd _ A=>(gZ d).map λx=>(.B<|neg ^^ (tab.lookup x).isSome,A)) U A
@[simp]def bg(tab:List<|Str×D)(a:XE):XE:=λU A=>(xb a λd _ A=>(gZ d).bind λx=>(tab.lookup x).map λc=>(c,A)) U A
@[simp]def bI:H2:=λd e A=>(fIx d e A).or<|Op d e A
@[simp]def zZ:H2:=λd e A=>((Wn false d e A).or<|Wo d e A).or<|im false d e A
@[simp]def re(c d y:D)(A:Hh):Option<|D×Hh:=((jZ y).bind λk=>mm A d λl=>(Eo l.length k).map λj=>(l.set j c,.N)).or<|Xp c d y A
@[simp]def ly(v o i:XE):XS:=λU A=>(xb v λc=>xb o λd=>xb i λy U A=>(re c d y A).map λp=>(.nx U,p.2)) U A
@[simp]def za(n:Nat)(g:KA):XG:=λd U A=>(nS n g d U A).or<|Ks n g d U A
@[simp]def bc(a:XE):XI:=λU A=>(xb a λd _ A=>((((Jk d).or<|dcC d).map λl=>(Wk.sq l,A)).or<|(o6 d).bind λn=>(A[n]?.bind B.ls).map λ_=>(.ls n,A)).or<|(gZ d).map λx=>(.sq<|DP x,A)) U A
def KR(K:Zj)(kvs:List<|Str×V)(tab:List<|Str×D):Prop:=∀x,(∀d,tab.lookup x=some d->∃v,fe (OV kvs) (.inr x)=some v/\∀m H,Den K m H d v)/\(tab.lookup x=none->fe (OV kvs) (.inr x)=none)
section
variable {K:Zj}{m m':Zk}{A A':Hh}{H H':Hp}{d e:D}{v w:V}{l:Zc}{U:Env}{Z:St}{E:Ends}{t u:TS}{x y:XS}{te:TE}{a:XE}{ta:TA}{xa:XA}{j:Nat}{f:HF}
def Ua(h:SA K ta xa):SE K (sB (zf K j f) [] E0 ta)<|ah j f xa:=λm A H U Z Q z A' e w q n=>h.run e w q n λm A H d v e w dv q n=>by
 rcases bf q with ⟨hj,q⟩|⟨_,q⟩
 .rw[abf];show⟨dv.length▸hj,m,A,d,z,A',w,dv,q,n⟩
 .ext q
def Je{Ns:Zl}{mn:Str}(ho:SE K te a)(h:SA K ta xa):SE K (Bc K Ns mn (zf K j f) te ta)<|bM Ns mn j f a xa:=λm A H U Z Q z A' e w q n=>ho.run e w q n λm A H d v e w dv q n=>by
 let⟨⟨N,fs⟩,q1,q⟩:=bnd q;rcases bf q with ⟨hN,q⟩|⟨_,q⟩
 .let⟨k,p,C,dx,ws,rfl,a1,a2,rfl,a3,a4,a5⟩:=vR w dv q1;let⟨⟨l,A1⟩,q3,q⟩:=bnd q;split⟨p,C,dx,ws,⟨rfl,⟨N,hN.1,a3⟩,a4⟩,a5.look.2 hN.2,h m A H U Z _ l A1 e w q3 λm1 H1 vs u1 w1 dl=>?_⟩;rcases bf q with ⟨hj,q⟩|⟨_,q⟩
  .exact⟨by rw[aay,<-dl.length];show hj,m1,A1,_,z,A',w1,.cons (dv.up u1) dl,q,n.up u1⟩
  .ext q
 .ext q
def Rt(h:Vt d=true):d=.N:=by cases d<;>first|rfl|ext h
def Jd(h:SA K ta xa):SE K (Bb K N (zf K j f) ta)<|uP N j f xa:=λm A H U Z Q z A' e w q n C hC=>h.run e w q n λm A H l vs e w dl q n x dx hx hdx ne=>by
 rcases bf q with ⟨hj,q⟩|⟨_,q⟩
 .let⟨⟨r,A1⟩,q1,q⟩:=bnd q;let⟨hr,q⟩:=aC q;ext q;rw[abf];let⟨w1,u1⟩:=w.tup (o:=.own x) hdx;let⟨w2,u2,d2⟩:=w1.new (p:=x) (o:=.ins C dx []) (b:=.ins N []) (by rw[aR ne.symm];show hx) λu=>⟨C,dx,[],hC,aH,.nil⟩
  have u:=u1.trans u2;cases Rt hr;show⟨by rw[aay,<-dl.length];show hj,_,_,.ref A.length::l,_,_,w2,.cons d2<|dl.up u,q1,λm' H' v u' w' dv=>⟨dv.non,n _ _ _ (u.trans u') w'<|d2.up u'⟩⟩
 .ext q
def Uu{Ns:Zl}{fn:Str}{tv:TE} (hc:kR K Ns λC=>Cls K C/\NoAttr K C fn)(ho:SE K te a)(hv:SE K tv xv):SS K (Yn K te tv fn)<|uR Ns fn a xv:=λm A H U Z E o A' e w q n=>hv.go e w q n λm A H c cv e w dc q n=>by
 let⟨⟨d,A1⟩,q1,q⟩:=bnd q;split ho m A H U Z _ d A1 e w q1 λm1 H1 v u1 w1 dv=>?_;let⟨i,q0,q⟩:=bnd q;let⟨⟨N,fs⟩,q2,q⟩:=bnd q;let⟨hN,q⟩:=aC q;ext q;let⟨k,p,C,dx,ws,rfl,a1,a2,rfl,a3,a4,a5⟩:=vR w1 dv q2;ext q0;let⟨c1,c2⟩:=hc N hN.1 C a3;let⟨w2,u2⟩:=w1.set (o:=.ins C dx<|putF fn cv ws) (b:=.ins N<|AM fn c fs) a1 a2 λu=>⟨C,dx,_,a3,aH,(a5.putF<|dc.up u1).up u⟩
 show⟨p,C,dx,ws,rfl,a4,c1,c2,a5.len.1▸hN.2,n _ _ _ (u1.trans u2) w2<|e.up<|u1.trans u2⟩
def Um{ti tv:TE}{xi:XE}(ho:SE K te a)(hi:SE K ti xi)(hv:SE K tv xv):SS K (Py te ti tv)<|Qa a xi xv:=λm A H U Z E o A' e w q n=>hv.go e w q n λm A H c cv e w dc q n=>by let⟨⟨d,A1⟩,q1,q⟩:=bnd q;let⟨⟨y,A2⟩,q2,q⟩:=bnd q;split ho m A H U Z _ d A1 e w q1 λm1 H1 v u1 w1 dv=>hi m1 A1 H1 U Z _ y A2 (e.up u1) w1 q2 λm2 H2 yv u2 w2 dy=>?_;let⟨⟨z,A3⟩,q4,q⟩:=dD q;ext q;have u3:=u1.trans u2;let⟨k,q3,q4⟩:=bnd q4;let⟨p,l,ws,k',rfl,h1,h2,h3,h4⟩:=CZ (Q:=λ_ H=>E.nx Z H) w2 (dv.up u2) q4 λm' H' _ u w _=>n m' H' Z (u3.trans u) w<|e.up<|u3.trans u;let⟨hl,h3⟩:=aC h3;ext h3;cases rz dy q3;show⟨p,_,rfl,DPut.k h1<|h2.len.1▸hl,h4 _ _ (h2.put<|dc.up u3)<|.at rfl⟩
def Ug:SE K JE Ko:=λm A H U Z Q z A' e w q n p hp=>by ext q;let⟨w',u,k⟩:=w.new (o:=.dT []) (b:=.dit []) hp λu=>aH;show n _ _ _ u w' k
def Ue:SE K JD sI:=λm A H U Z Q z A' e w q n p hp=>by
 ext q;let⟨w',u,k⟩:=w.new (o:=.dK []) (b:=.K []) hp λu=>⟨[],aH,.nil⟩
 show n _ _ _ u w' k
def Uh{t u:TE}{x y:XE}(a:SE K t x)(b:SE K u y):SE K (JG t u)<|y7 x y:=λm A H U Z Q z A' e w q n p hp=>by let⟨⟨d,A1⟩,q1,q⟩:=bnd q;let⟨⟨c,A2⟩,q2,q⟩:=bnd q;let⟨w0,u0,d0⟩:=w.new (o:=.dT []) (b:=.dit []) hp λu=>aH;split a _ _ _ U Z _ d A1 (e.up u0) w0 q1 λm1 H1 v u1 w1 dv=>b m1 A1 H1 U Z _ c A2 ((e.up u0).up u1) w1 q2 λm2 H2 v' u2 w2 dv'=>?_;let⟨k,q3,q⟩:=bnd q;let⟨c',q4,q⟩:=bnd q;let⟨ks,q5,q⟩:=bnd q;let⟨⟨hc,hk⟩,q9⟩:=aC q;ext q9;ext hc;let⟨bb,q5,q6⟩:=bnd q5;cases bb<;>ext q6;cases abu hk;let⟨_,e0,hm⟩:=d0.ref_;ext e0;have hm2:=ai (u1.trans u2).1 hm;let⟨b',rfl,h5⟩:=vW (dv.up u2) q3;cases dv'.dB q4;let⟨w3,u3⟩:=w2.set (o:=.dT<|M.dA [k]) (b:=.dit [k]) q5 hm2 λu=>aH;show⟨b',_,_,rfl,h5,w2.ob _ _ _ q5 hm2,n _ _ _ (((u0.trans u1).trans u2).trans u3) w3<|.ref hm2⟩
def CU{neg:Bool}{kvs:List<|Str×V} (t:KR K kvs tab)(h:SE K te a):SE K (JA neg kvs te)<|ju neg tab a:=λm A H U Z Q z A' e w q n=>h.run e w q n λm A H d v e w dv q n=>by
 let⟨x,q1,q⟩:=dD q;ext q;split⟨x,dv.dS q1,?_⟩;cases e:tab.lookup x with
 |none=>rw[(t x).2 e];rw[e] at n;show n.now w<|.at rfl
 |some c=>let⟨y,h1,_⟩:=(t x).1 c e;rw[h1];rw[e] at n;show n.now w<|.at rfl
def Jf{kvs:List<|Str×V} (t:KR K kvs tab)(h:SE K te a):SE K (Jz kvs te)<|bg tab a:=λm A H U Z Q z A' e w q n=>h.run e w q n λm A H d v e w dv q n=>by let⟨x,q0,q⟩:=bnd q;let⟨c,q1,q⟩:=dD q;ext q;let⟨y,h1,h2⟩:=(t x).1 _ q1;show⟨x,y,dv.dS q0,h1,n.now w<|h2 _ _⟩
def Vj{f g:H2}{x y:XE}{A A':Hh}{U:Env}{c:D}(h:az (λd e A=>(f d e A).or<|g d e A) x y U A=some (c,A')):az f x y U A=some (c,A')\/az g x y U A=some (c,A'):=by
 let⟨⟨d,A1⟩,q1,h⟩:=bnd h;let⟨⟨e,A2⟩,q2,h⟩:=bnd h;rcases aK h with h|h
 .exact .inl<|aaD.2 ⟨_,q1,aaD.2 ⟨_,q2,h⟩⟩
 .exact .inr<|aaD.2 ⟨_,q1,aaD.2 ⟨_,q2,h⟩⟩
def AQ{f g:H2}{x y:XE}{t u:TE}(a:SE K t<|az f x y)(b:SE K u<|az g x y):SE K (λZ H Q=>t Z H Q\/u Z H Q)<|az (λd e A=>(f d e A).or<|g d e A) x y:=λm A H U Z Q d A' e w q n=>by
 rcases Vj q with q|q
 .exact .inl<|a m A H U Z Q d A' e w q n
 .exact .inr<|b m A H U Z Q d A' e w q n
def Uv{o i v:XE}(a:SS K t<|gV v<|Qb o i)(b:SS K u<|Qa o i v):SS K (Fm t u)<|ly v o i:=λm A H U Z E z A' e w q n=>by
 let⟨⟨c,A1⟩,q1,q⟩:=bnd q;let⟨⟨d,A2⟩,q2,q⟩:=bnd q;let⟨⟨y,A3⟩,q3,q⟩:=bnd q;let⟨⟨r,A4⟩,q4,q⟩:=dD q;ext q;rcases aK q4 with q4|q4
 .let⟨k,q5,q4⟩:=bnd q4;show .inl<|a m A H U Z E _ _ e w (aaD.2 ⟨_,q1,aaQ.2 ⟨(U,A4),aaD.2 ⟨_,q2,aaD.2 ⟨_,q3,aaD.2 ⟨_,q5,aaQ.2 ⟨_,q4,rfl⟩⟩⟩⟩,rfl⟩⟩) n
 .exact .inr<|b m A H U Z E _ _ e w (aaD.2 ⟨_,q1,aaD.2 ⟨_,q2,aaD.2 ⟨_,q3,aaQ.2 ⟨_,q4,rfl⟩⟩⟩⟩) n
def Ut{n:Nat}{g:KA}{v:XE}(a:SS K t<|gV v<|nS n g)(b:SS K u<|gV v<|Ks n g):SS K (Fm t u)<|gV v (za n g):=λm A H U Z E z A' e w q n=>by
 let⟨⟨c,A1⟩,q1,q⟩:=bnd q;let⟨p,q2,q⟩:=dD q;rcases aK q2 with q2|q2
 .exact .inl<|a m A H U Z E z A' e w (aaD.2 ⟨_,q1,aaQ.2 ⟨p,q2,q⟩⟩) n
 .exact .inr<|b m A H U Z E z A' e w (aaD.2 ⟨_,q1,aaQ.2 ⟨p,q2,q⟩⟩) n
def YL{x:XE}{t u:TI}(a:SI K t<|xIt x)(b:SI K u<|aam x):SI K (λZ H Q=>t Z H Q\/u Z H Q)<|bc x:=λm A H U Z Q z A' e w q n=>by
 let⟨⟨c,A1⟩,q1,q⟩:=bnd q;rcases aK q with q|q
 .exact .inl<|a m A H U Z Q z A' e w (aaD.2 ⟨_,q1,q⟩) n
 .exact .inr<|b m A H U Z Q z A' e w (aaD.2 ⟨_,q1,q⟩) n
end
section
open PySem.Spec PyProof.Rows
def Oz(te:TE):TI:=λZ H R=>te Z H λx H1=>∃a kvs,x=.ref a/\((H1 a=some (.dT kvs)/\∀o,R (VA a o kvs)<|upd H1 a<|.frz o<|.dT kvs)\/∃o,H1 a=some (.frz o<|.dT kvs)/\R (VA a o kvs) H1)
def MO{tg:ZA}{tl:TE}(hl:PE X l tl):PI X tg l<|Oz tl:=by
 intro Zx s Z H R I h;split bz (hl Zx s Z H _ I h) λv s1 h1=>?_;let⟨x,H1,I1,r1,a,kvs,e,q⟩:=h1;subst e;ext r1;obtain⟨o,H2,I2,ea,q⟩:∃o H2,Inv X Zx Z H2 s1/\H2 a=some (.frz o (.dT kvs))/\R (VA a o kvs) H2:=by
  rcases q with ⟨ea,q⟩|⟨o,ea,q⟩
  .let⟨o,ho,I2⟩:=Rm I1 ea;show⟨o,_,I2,aH,q o⟩
  .exact⟨o,_,I1,ea,q⟩
 let⟨g1,z,hd,xs,rel,o',es,ep,h1,h2,h3,h4,h5⟩:=(show ObjOk X.p X.w H2 s1.heap a (.frz o<|.dT kvs) from I2.hok a _ ea)
 rw[g1] at h1;ext h1;have hsz:es.size=kvs.length:=by rw[size_of_entries h4,acY rel]
 split DY.ud hd ⟨o,g1,h2,h3⟩ ⟨s1.heap.objs.size,[s1.heap.objs.size],_,_,H2,rfl,I2.kept (t':=s1.toks) λb o e=>aas _ e,JT a _ h3 h2 hsz,⟨_,aaB _ rfl,rfl,rfl⟩,λb hb=>?_,q⟩;rw[aaG.1 hb];show I2.fpOk (aaq _) I2.fresh
@[simp]def xDk(a:XE):XI:=λU A=>(xb a λd _ A=>(o6 d).bind λn=>A[n]?.bind λb=>(B.dt b).map λks=>(.sq<|ks.map λk=>.T<|k.map .int,A.set n<|.fz ks)) U A
section
variable {K:Zj}{m:Zk}{H:Hp}{te:TE}{a:XE}{p:ZB}{o:Obj}{ks:Zm}
theorem xM:∀k:Zn,Zo K m H (k.map D.int) (k.map V.int)
 |[]=>.nil
 |_::k=>.cons (.at rfl)<|xM k
def Km(h:H p=some (.frz o<|.dT<|M.dA ks)):Wlk K m H (.sq<|ks.map λk=>.T<|k.map .int)<|VA p o (M.dA ks):=Wlk.sq λm' H' i u=>by have h':H' p=some (.frz o<|.dT<|M.dA ks):=u.kp p _ h trivial;have hl:(M.dA ks).length=ks.length:=aar _;rw[aar];split⟨λq=>⟨h',()⟩,λx q=>?_⟩;rw[aaX] at q;let⟨k,q1,q2⟩:=dD q;subst q2;have hi:=(aa0.1 q1).1;split⟨⟨h',()⟩,λv H2 ⟨e,b,k',v',hk,hx,hb⟩=>⟨e,?_⟩⟩;have hk:(M.dA ks)[i]?=some (k',v'):=hk;unfold M.dA at hk;rw[aaX,q1] at hk;ext hk;subst hx;rw[show (k.map ag6).map kV=k.map V.int from M.WF k] at hb;show .T hb<|xM k
def abH(h:SE K te a):SI K (Oz te)<|xDk a:=λm A H U Z Q z A' e w q n=>h.run e w q n λm A H d v e w dv q n=>by
 let⟨i,q0,q⟩:=bnd q;let⟨_,p,rfl,hp⟩:=gz dv q0;let⟨b,q1,q⟩:=bnd q;let⟨ks,q2,q⟩:=dD q;ext q;split⟨p,M.dA ks,rfl,?_⟩;have ho:=w.ob i b p q1 hp;cases b<;>ext q2
 .refine .inl ⟨ho,λo=>?_⟩;let⟨w',u⟩:=w.set (o:=.frz o<|.dT<|M.dA ks) (b:=.fz ks) q1 hp λu=>⟨o,aH⟩
  show n _ _ _ u w'<|Km aH
 .let⟨o,ho⟩:=ho;split .inr ⟨o,ho,n _ _ _ .refl ?_<|Km ho⟩;have:A.set i (.fz ks)=A:=by
   let⟨hi,e⟩:=aa0.1 q1;rw[<-e];show agh hi
  rw[this];show w
def Dt:List XE->XA
 |[]=>aF
 |x::l=>af x<|Dt l
def kW(ns:Zl):List bH:=ns.map agE
def uO(ns:Zl)(xs:List XE):XE:=λU A=>(Dt xs U<|A++[.K []]).bind λp=>(p.2[A.length]?.bind B.dc).bind λkvs=>if (kvs.length=0/\p.1.length=ns.length)/\ns.length<=15/\ns.Nodup then some (.ref A.length,p.2.set A.length<|.K<|(kW ns).zip p.1) else none
def QS(ns:Zl)(ts:List TE):List<|TE×TE:=(ns.map λk=>tC<|.str k).zip ts
theorem uy:∀ {ts:List TE} {xs:List XE} {ns:Zl} {l:Zc} {m:Zk} {A A':Hh} {H:Hp} {U:Env} {Z:L2.St} {Q:List (V×V)->Hp->Prop},SJ K ts xs->ns.length=ts.length->Envs K m H U Z->R K m A H->Dt xs U A=some (l,A')->(∀m' H' vs,Up m m' H H'->R K m' A' H'->Zo K m' H' l vs->Q ((ns.map V.str).zip vs) H')->sC (QS ns ts) Z H Q
 |_,_,[],_,_,_,_,_,_,_,_,.nil,_,e,w,q,n=>by ext q;show n _ _ [] .refl w .nil
 |_,_,k::ns,_,_,_,_,_,_,_,_,.cons a j,hl,e,w,q,n=>by let⟨⟨d,A1⟩,q1,q⟩:=bnd q;let⟨⟨l,A2⟩,q2,q⟩:=bnd q;ext q;show a _ _ _ _ _ _ d A1 e w q1 λm1 H1 v u1 w1 dv=>uy j (adg hl) (e.up u1) w1 q2 λm2 H2 vs u2 w2 dl=>n m2 H2 (v::vs) (u1.trans u2) w2<|.cons (dv.up u2) dl
theorem Hw:∀ {ns:Zl} {l:Zc} {vs:Za},Zo K m H l vs->Kv K m H ((kW ns).zip l) ((kW ns).zip vs)
 |[],_,_,_=>.nil
 |_::_,_,_,.nil=>.nil
 |_::_,_,_,.cons a b=>.cons a<|Hw b
theorem Kw:∀(ns:Zl) (vs:Za),(ns.map V.str).zip vs=((kW ns).zip vs).map λkv=>(kV kv.1,kv.2)
 |[],_=>rfl
 |_::_,[]=>rfl
 |_::ns,_::vs=>aaF (_ :: ·)<|Kw ns vs
def Uf{ns:Zl}{ts:List TE}{xs:List XE}(j:SJ K ts xs)(hl:ns.length=ts.length):SE K (PN<|QS ns ts)<|uO ns xs:=λm A H U Z Q z A' e w q n p hp=>by
 let⟨w0,u0,d0⟩:=w.new (o:=.dK []) (b:=.K []) hp λu=>⟨[],aH,.nil⟩
 let⟨⟨l,A1⟩,q1,q⟩:=bnd q;let⟨kvs,q2,q⟩:=bnd q;let⟨⟨⟨h0,h1⟩,h2,h3⟩,q⟩:=aC q;ext q;let⟨b,q2,q3⟩:=bnd q2;split uy j hl (e.up u0) w0 q1 λm1 H1 vs u1 w1 dl=>?_;let⟨_,e0,hm⟩:=d0.ref_;ext e0;have hm1:=ai u1.1 hm;cases b<;>ext q3;cases abu h0;let⟨ws,g1,g2⟩:=w1.ob _ _ p q2 hm1;ext g2;have hv:vs.length=ns.length:=dl.length▸h1;have hk:((kW ns).zip vs).map (·.1)=kW ns:=by rw[List.map_fst_zip];unfold kW;rw[aar];lia
 have nd:(kW ns).Nodup:=by unfold kW;show agi _ (λa b h z=>h<|ado z) h3
 have em:jl [] ((kW ns).zip vs)=(kW ns).zip vs:=(mf (kvs:=[]) (es:=(kW ns).zip vs)<|by rw[abq,aca,hk];show nd).trans<|aca _;split⟨g1,(kW ns).zip vs,Kw ns vs,by rw[adP];unfold kW;rw[aar];lia,?_⟩;rw[em];let⟨w2,u2⟩:=w1.set (o:=.dK<|(kW ns).zip vs) (b:=.K<|(kW ns).zip l) q2 hm1 λu=>⟨_,aH,Hw<|dl.up u⟩
 show n _ _ _ ((u0.trans u1).trans u2) w2<|.ref hm1
@[simp]def FY(d:D)(A:Hh):Option<|D×Hh:=(og A d).bind λkvs=>if (kvs.map (·.1)).Nodup then some (.ref A.length,A++[.K kvs]) else none
@[simp]def lF:HF:=λl A=>(h1 FZ l A).or<|h1 FY l A
def Nd:RF K Pl<|h1 FY:=FF λm A H d x Q c A' w dx q n=>by
 let⟨kvs,q1,q⟩:=bnd q;let⟨hn,q⟩:=aC q;ext q;let⟨p,ws,rfl,g1,g2⟩:=lL w dx q1;split⟨p,ws,rfl,g1,λr hr=>?_⟩;have em:jl [] ws=ws:=(mf (kvs:=[]) (es:=ws)<|by rw[abq,aca,<-g2.len.2];show hn).trans<|aca _;rw[em];let⟨w',u,k⟩:=w.new (o:=.dK ws) (b:=.K kvs) hr λu=>⟨ws,aH,g2.up u⟩
 show n _ _ _ u w' k
def RF.or(a:RF K r f)(b:RF K r' f'):RF K (λxs H Q=>r xs H Q\/r' xs H Q)<|λl A=>(f l A).or (f' l A):=λm A H ds xs Q c A' w dl q n=>by
 rcases aK q with q|q
 .exact .inl<|a m A H ds xs Q c A' w dl q n
 .exact .inr<|b m A H ds xs Q c A' w dl q n
def Tz:RF K (λxs H Q=>∃a kvs,xs=[V.ref a]/\H a=some (.dK kvs)/\Q (.int kvs.length) H)<|h1 λd A=>(og A d).map λl=>(.int l.length,A):=FF λm A H d x Q c A' w dx q n=>by let⟨kvs,q1,q⟩:=dD q;ext q;let⟨p,ws,rfl,g1,g2⟩:=lL w dx q1;show⟨p,ws,rfl,g1,g2.len.1▸n.now w (.at rfl)⟩
def Tx:RF K (λxs H Q=>M.IM K xs H Q\/∃a kvs,xs=[V.ref a]/\H a=some (.dK kvs)/\Q (.int kvs.length) H)<|h1 b8:=λm A H ds xs Q c A' w dl q n=>by
 let⟨d,q1,q⟩:=bnd q;rcases aK q with q|q
 .exact .inl<|X7 m A H ds xs Q c A' w dl (aaD.2 ⟨d,q1,q⟩) n
 .exact .inr<|Tz m A H ds xs Q c A' w dl (aaD.2 ⟨d,q1,q⟩) n
end
end
structure Ct where
 N:Zl
 sc:ZS
 tp:Bool
structure Tab where
 fn:List<|Str×Nat×HF
 me:List<|Str×Zl×Nat×HF
 mx:List<|Str×Nat×HF
 ci:List<|Str×Nat×HF
 fd:List<|Str×Zl
 cs:List<|Str×D
 tb:List<|Str×List (Str×D)
structure Cp where
 E:Ct->ZA->XE
 A:Ct->List ZA->XA
 C:Ct->ZA->XT
 S:Ct->ZM->XS
 B:Ct->List ZM->XS
def Hr(x:Str):Zl->Option Nat
 |[]=>none
 |y::l=>if y=x then some 0 else (Hr x l).map (· + 1)
def Vw(x:Str):Bool:=!(x == "__debug__") && !(x == "__classdict__")&&decide (x ≠ "__name__")
def glb(Γ:Ct)(x:Str):Bool:=decide (Γ.sc.names.lookup x=some .globalImplicit)&&Vw x
def vis(Γ:Ct)(x:Str):Bool:=(decide (Γ.sc.names.lookup x=some .local) || decide (Γ.sc.names.lookup x=some .cell) || decide (Γ.sc.names.lookup x=some .free))&&Vw x
def loc(Γ:Ct)(x:Str):Bool:=decide (Γ.sc.names.lookup x=some .local) || (decide (Γ.sc.names.lookup x=some .cell)&&Γ.tp)
def EM:ZA->Option Str
 |.Name x _=>some x
 |_=>none
def tpP:ZA->Option (List ZA)
 |.Tuple es _ _=>some es
 |_=>none
def Bf(Γ:Ct)(e:ZA):Option Nat:=(EM e).bind λx=>if loc Γ x=true then Hr x Γ.N else none
def PX(Γ:Ct):List ZA->Option LN
 |[]=>some []
 |e::l=>(Bf Γ e).bind λi=>(PX Γ l).map λr=>i::r
def Wx:LN->KA
 |[]=>nR
 |i::l=>bR (au i)<|Wx l
def JN(Γ:Ct)(e:ZA):XG:=(Bf Γ e).elim (((tpP e).bind<|PX Γ).elim (λ_ _ _=>none) λl=>nS l.length<|Wx l) au
def sS(scope:ZS):Zl:=(scope.names.filter λp=>(p.2 == .local || p.2 == .free)&&p.1 != (".0" : Str)).map (·.1)
def BN(N:Zl)(scope:ZS):List<|Option Nat:=(sS scope).map λx=>if scope.names.lookup x=some .free then Hr x N else none
def Nq(sc scope:ZS):ZS:={ scope with names:=scope.names.map λ(n,k)=>if (k == .free&&sc.kind == .function&&sc.names.lookup n==some .cell) then (n,.cell) else (n,k) }
def rg(Γ:Ct)(scope:ZS):Ct:=⟨sS scope,Nq Γ.sc scope,false⟩
def sU(Γ:Ct)(scope:ZS):Bool:=decide (scope.kind=.function)&&scope.names.all (λy=>decide (y.2 ≠ .cell))&&scope.names.all (λy=>!decide (y.2=.free) || decide (Γ.sc.names.lookup y.1=some .cell) || decide (Γ.sc.names.lookup y.1=some .free))
 && scope.names.all (λy=>!decide (y.2=.local) || decide (scope.names.lookup y.1=some .local))&&decide (sS scope).Nodup
 && (((sS scope).zip<|BN Γ.N scope).all λp=>match p.2 with|none=>true|some j=>decide (Γ.N[j]?=some p.1)&&decide (scope.names.lookup p.1=some .free))
@[simp]def xm:HF:=λl A=>h2 Oc l A
@[simp]def vj:HF:=λl A=>(h2 Od l A).or<|Oe l A
@[simp]def dcY(d:D):Option String:=D.casesOn d none nn nn nn some nn nn nn nn
@[simp]def qA:HF:=λl A=>(l2 l).bind λp=>(gZ p.1).bind λ_=>(dcY p.2).bind λT=>if T="str" then some (.B true,A) else none
def blt(x:Str):Option HF:=if x="len" then some (h1 b8) else if x="tuple" then some (h1 i5) else if x="sorted" then some (h1 gw) else if x="max" then some xm else if x="min" then some vj else if x="int" then some (h1 F1) else if x="str" then some (h1 mP)
 else if x="sum" then some (h1<|lh λns=>some<|.int ns.sum) else if x="all" then some (h1<|pz λbs=>.B<|bs.all id) else if x="any" then some (h1<|pz λbs=>.B<|bs.any id) else if x="isinstance" then some qA else if x="dict" then some lF else none
@[simp]def rN:HF:=λl A=>(l2 l).bind λp=>(sJ p.2).bind λb=>if b=true then (iR A p.1).bind λl=>(fv sJ l).map λbs=>(.int (bs.count true:Nat),A) else none
@[simp]def wa:HF:=λl A=>(l2 l).bind λp=>(sJ p.2).bind λb=>if b=true then (o6 p.1).bind λn=>(A[n]?.bind B.ls).bind λl=>(fv sJ l).bind λbs=>if bs.length<=1000 then (L2.ixL (.B true)<|bs.map .B).map λj=>(.int (j:Nat),A) else none else none
def bmt(x:Str):Option<|(Hh->D->Bool)×HF:=if x="append" then some (jD,cU) else if x="extend" then some (jD,dU) else if x="join" then some (lU,lj) else if x="split" then some (lU,bP) else if x="partition" then some (lU,ke) else if x="startswith" then some (lU,jc) else if x="update" then some (isT,Cq) else if x="count" then some (jD,rN) else if x="index" then some (jD,wa) else none
@[simp]def d6:H2:=λd e A=>(GS λi j=>.int<|i-j) d e A
@[simp]def oj:H2:=λd e A=>(fI KI λi j=>.int<|i/j) d e A
@[simp]def i9:H2:=λd e A=>(fI (λ_ j=>0<j) λi j=>.int<|i%j) d e A
@[simp]def LF:H2:=λd e A=>(fI KJ λi j=>.int<|i^j.toNat) d e A
@[simp]def z9:H2:=λd e A=>(GS λi j=>.B<|decide (i<j)) d e A
@[simp]def Rg:H2:=λd e A=>(GS λi j=>.B<|decide (i<=j)) d e A
@[simp]def Ef:H2:=λd e A=>(GS λi j=>.B<|decide (j<i)) d e A
@[simp]def Vr:H2:=λd e A=>(GS λi j=>.B<|decide (j<=i)) d e A
@[simp]def Eg:H2:=λd e A=>(GS λi j=>.int<|i+j) d e A
@[simp]def LC:H2:=λd e A=>(GS λi j=>.int<|Builtin.bitAnd i j) d e A
@[simp]def vK:H2:=λd e A=>(fI CMul λi j=>.int<|i*j) d e A
def VS:ah5->H2
 |.Add=>aN
 |.Sub=>d6
 |.Mult=>vK
 |.FloorDiv=>oj
 |.Mod=>i9
 |.Pow=>LF
 |.BitAnd=>LC
 |_=>λ_ _ _=>none
@[simp]def Vi(a b d:XE):XE:=λU A=>(xb a λx=>xb b λy U A=>(jZ x).bind λi=>(jZ y).bind λj=>if i<=j then xb d (λz _ A=>(jZ z).map λk=>(.B<|decide (j<=k),A)) U A else some (.B false,A)) U A
@[simp]def Bu(a b:XE):XE:=λU A=>(xb a λd U A=>(sJ d).bind λc=>if c=true then some (.B true,A) else b U A) U A
def YO:ZA->Option (Option ZA×Option ZA×Option ZA)
 |.Slice lo hi st _=>some (lo,hi,st)
 |_=>none
def cnP:ZA->Option Const
 |.Constant v _ _=>some v
 |_=>none
def stP:Const->Option Str
 |.str k=>some k
 |_=>none
def caP:ZA->Option (ZA×List ZA)
 |.Call f as [] _=>some (f,as)
 |_=>none
def N8:ZA->Option (ZA×Str×Pos)
 |.Attribute o m p=>some (o,m,p)
 |_=>none
def Gc(e:ZA):Option<|Str×List ZA:=(caP e).bind λp=>(EM p.1).map λx=>(x,p.2)
def Rs:ahB->Bool
 |.LtE=>true
 |_=>false
def aY:ZA->Bool
 |.Starred _ _=>false
 |_=>true
def Cv:ZA->Bool
 |.Tuple _ _ _=>false
 |_=>true
def fZ:ZA->Bool
 |.Call (.Name _ _) [] [] _=>false
 |_=>true
def AC(e:ZA):Bool:=(YO e).isNone
def bX:ZA->Bool
 |.ListComp _ _ _ _=>false
 |.SetComp _ _ _ _=>false
 |.DictComp _ _ _ _ _=>false
 |_=>true
def c8:ZA->Bool
 |.Set _ _ _=>false
 |_=>true
section
variable (T:Tab)(c:Cp)(Γ:Ct)
def nmX(x:Str):XE:=if vis Γ x=true then (Hr x Γ.N).elim ac aa
 else if glb Γ x=true then (T.cs.lookup x).elim (if x="str" then xC (.ty "str") else ac) xC else ac
def UR(e:ZA):Option<|List (Str×D):=(EM e).bind λn=>if glb Γ n=true then T.tb.lookup n else none
def vn(a:ZA)(op:ahB)(b:ZA):XE:=if c8 b=true then (match op with
 |.Eq=>az (eA false) (c.E Γ a)<|c.E Γ b
 |.NotEq=>az (eA true) (c.E Γ a)<|c.E Γ b
 |.Lt=>az z9 (c.E Γ a)<|c.E Γ b
 |.LtE=>az Rg (c.E Γ a)<|c.E Γ b
 |.Gt=>az Ef (c.E Γ a)<|c.E Γ b
 |.GtE=>az Vr (c.E Γ a)<|c.E Γ b
 |.Is=>az x5 (c.E Γ a)<|c.E Γ b
 |.In=>(UR T Γ b).elim (az zZ (c.E Γ a)<|c.E Γ b) λtab=>ju false tab<|c.E Γ a
 |.NotIn=>(UR T Γ b).elim (az (im true) (c.E Γ a)<|c.E Γ b) λtab=>ju true tab<|c.E Γ a
 |_=>ac) else ac
def ptX(o:Option ZA):XO:=o.elim wV λe=>dP<|c.E Γ e
def Vv:List ZA->List XE
 |[]=>[]
 |e::l=>c.E Γ e::Vv l
def Vu(e:ZA):XI:=if EM e=some "kept" then xDk (c.E Γ e) else bc (c.E Γ e)
def rnX(args:List ZA):XI:=if args.length=1 then pk (c.A Γ args) else if args.length=2 then Kr (c.A Γ args) else if args.length=3 then y8 (c.A Γ args) else ac
def Kl(tg e:ZA):XI:=(Gc e).elim (if c8 e=true then Vu c Γ e else ac) λq=>if glb Γ q.1=true/\q.2.all aY=true then
  (if q.1="range" then rnX c Γ q.2 else if q.1="reversed" then (if q.2.length=1 then NX (c.A Γ q.2) else ac)
  else if q.1="zip" then (if (tpP tg).isSome=true/\q.2.length=2 then nQ (c.A Γ q.2) else ac) else Vu c Γ e) else ac
def Rp(ifs:List ZA):XT:=if ifs.length=0 then λ_ A=>some (true,A) else if ifs.length=1 then ifs.head?.elim ac (c.C Γ) else ac
def VN(es:List ZA):XA:=if es.length=0 then aF else c.A Γ es
def QJ(x:Str)(args:List ZA):XE:=if glb Γ x=true/\args.all aY=true then
  (T.fn.lookup x).elim ((T.mx.lookup x).elim (if args.length=0 then ac else (blt x).elim ac λf=>cc f<|c.A Γ args) λp=>uP x p.1 p.2<|VN c Γ args) λp=>ah p.1 p.2 (VN c Γ args) else ac
def dm1(o:ZA)(m:Str)(e:ZA):XE:=if m="get" then dQ KD RU (c.E Γ o) (af (c.E Γ e) aF) else if m="pop" then dQ KD ll (c.E Γ o) (af (c.E Γ e) aF) else ac
def dmX(o:ZA)(m:Str)(args:List ZA):XE:=if args.length=0 then (if m="pop" then dQ jD Ew (c.E Γ o) aF else ac) else if args.length=1 then args.head?.elim ac (dm1 c Γ o m) else ac
def QI(o:ZA)(m:Str)(args:List ZA):XE:=(T.me.lookup m).elim ((bmt m).elim (dmX c Γ o m args) λp=>if args.length=0 then ac else dQ p.1 p.2 (c.E Γ o) (c.A Γ args)) λp=>bM p.1 m p.2.1 p.2.2 (c.E Γ o)<|VN c Γ args
def QN(e tg it:ZA)(ifs:List ZA)(scope:ZS):XE:=if sU Γ scope=true/\c8 it=true then aL (BN Γ.N scope) (Kl c Γ tg it) (JN (rg Γ scope) tg) (Rp c (rg Γ scope) ifs) (c.E (rg Γ scope) e) else ac
def Vs(gs:List Comprehension):Option<|Expr×ZA×List ZA:=if gs.length=1 then gs.head?.bind λg=>if g.is_async=0 then some (g.target,g.iter,g.ifs) else none else none
def OX:ZA->Option (ZA×(ZA×ZA×List ZA)×ZS)
 |.ListComp e gs scope _=>(Vs gs).map λg=>(e,g,scope)
 |_=>none
def asX(e:ZA):XE:=(OX e).elim (if bX e=true then c.E Γ e else ac) λp=>QN c Γ p.1 p.2.1.1 p.2.1.2.1 p.2.1.2.2 p.2.2
def cnX(v:Const):XE:=match v with
 |.int i=>xC<|.int i
 |.bool b=>xC<|.B b
 |.none=>xC .N
 |.str x=>xC<|.str x
 |_=>ac
def unX(op:UnaryOp)(a:ZA):XE:=match op with
 |.USub=>tG iK<|c.E Γ a
 |.Not=>uQ<|c.E Γ a
 |_=>ac
def boX(op:BoolOp)(p:Pos):List ZA->XE
 |[]=>ac
 |a::r=>if r.length=0 then c.E Γ a else match op with
  |.And=>lx (c.E Γ a)<|c.E Γ<|.BoolOp .And r p
  |.Or=>Bu (c.E Γ a)<|c.E Γ<|.BoolOp .Or r p
def csX(a:ZA)(ops:List ahB):List ZA->XE
 |[]=>ac
 |b::r=>if r.length=0 then (if ops.length=1 then ops.head?.elim ac λop=>vn T c Γ a op b else ac)
  else if r.length=1/\ops.length=2/\ops.all Rs=true/\r.all c8=true then r.head?.elim ac λd=>Vi (c.E Γ a) (c.E Γ b) (c.E Γ d) else ac
def ixX(a i:ZA):XE:=if AC i=true then (UR T Γ a).elim (az bI (c.E Γ a)<|c.E Γ i) λtab=>bg tab (c.E Γ i) else ac
def slX(a:ZA)(lo hi st:Option ZA):XE:=st.elim (tF (c.E Γ a) (ptX c Γ lo)<|ptX c Γ hi) λ_=>ac
def ciN(o:ZA)(m:Str)(args:List ZA):Option<|Nat×HF:=(EM o).bind λn=>if glb Γ n=true/\m="__init__" /\ args≠[] then T.ci.lookup n else none
def caX(f:ZA)(args:List ZA)(cp:Pos):XE:=(EM f).elim ((N8 f).elim ac λp=>if p.2.2.endLine=cp.line/\fZ p.1=true/\args.all aY=true/\args.length<20 then (ciN T Γ p.1 p.2.1 args).elim (QI T c Γ p.1 p.2.1 args) λq=>ah q.1 q.2 (c.A Γ args) else ac) λx=>QJ T c Γ x args
def LZ:List (Option ZA)->Option (Zl)
 |[]=>some []
 |o::l=>o.bind λe=>((cnP e).bind stP).bind λk=>(LZ l).map λr=>k::r
def diX(ks:List<|Option ZA)(vs:List ZA):XE:=if ks.length=0/\vs.length=0 then (if ("walked" : Str)∈Γ.N then Ko else sI) else (LZ ks).elim (if ks.length=1/\vs.length=1 then (ks.head?.join).elim ac λk=>vs.head?.elim ac λv=>y7 (c.E Γ k) (c.E Γ v) else ac)
 λns=>if vs.length=ns.length/\0<ns.length/\ns.length<=15 then uO ns (Vv c Γ vs) else ac
def stE(e:ZA):XE:=match e with
 |.Constant v _ _=>cnX v
 |.Name x _=>nmX T Γ x
 |.BinOp a op b _=>az (VS op) (c.E Γ a)<|c.E Γ b
 |.UnaryOp op a _=>unX c Γ op a
 |.BoolOp op es p=>boX c Γ op p es
 |.IfExp t a b _=>Kp (c.C Γ t) (c.E Γ a)<|c.E Γ b
 |.Compare a ops bs _=>csX T c Γ a ops bs
 |.Tuple es _ _=>bA<|c.A Γ es
 |.List es _=>ej<|c.A Γ es
 |.Dict ks vs _=>diX c Γ ks vs
 |.Subscript a i _=>(YO i).elim (ixX T c Γ a i) λp=>slX c Γ a p.1 p.2.1 p.2.2
 |.ListComp e gs scope _=>(Vs gs).elim ac λg=>QN c Γ e g.1 g.2.1 g.2.2 scope
 |.Call f as ks cp=>if ks.length=0 then caX T c Γ f as cp else ac
 |.Attribute e f _=>if fZ e=true then (T.fd.lookup f).elim ac λNs=>gW Ns f (c.E Γ e) else ac
 |.FormattedValue e n o _=>if n = -1/\o.isNone=true then FH (c.E Γ e) else ac
 |.JoinedStr es _=>if es.length=0 then ac else if es.length=1 then es.head?.elim ac (c.E Γ) else Kq (Vv c Γ es) ahs
 |_=>ac
def stA:List ZA->XA
 |[]=>aF
 |e::l=>if aY e=true then af (c.E Γ e) (c.A Γ l) else ac
def boC(op:BoolOp)(p:Pos):List ZA->XT
 |[]=>ac
 |a::r=>if r.length=0 then c.C Γ a else match op with
  |.And=>nP (c.C Γ a)<|c.C Γ<|.BoolOp .And r p
  |.Or=>tE (c.C Γ a)<|c.C Γ<|.BoolOp .Or r p
def WE:UnaryOp->Bool
 |.Not=>true
 |_=>false
def stC(e:ZA):XT:=match e with
 |.BoolOp op es p=>boC c Γ op p es
 |.UnaryOp op a _=>if WE op=true then et (c.C Γ a) else cR (c.E Γ e)
 |.Compare a ops bs _=>if ops.length=1/\bs.length=1 then ops.head?.elim ac λop=>bs.head?.elim ac λb=>aw (vn T c Γ a op b) else ac
 |.IfExp _ _ _ _=>ac
 |_=>cR<|c.E Γ e
def tsX(t e:ZA):XS:=match t with
 |.Name _ _=>(Bf Γ t).elim ac λi=>gV (asX c Γ e)<|au i
 |.Tuple es _ _=>if bX e=true/\Cv e=true then (PX Γ es).elim ac λl=>gV (c.E Γ e) (za l.length<|Wx l) else ac
 |.Subscript o i _=>if bX e=true/\AC i=true then ly (c.E Γ e) (c.E Γ o) (c.E Γ i) else ac
 |.Attribute o f _=>if bX e=true then (T.fd.lookup f).elim ac λNs=>uR Ns f (c.E Γ o) (c.E Γ e) else ac
 |_=>ac
def Ce:ah5->Bool
 |.Add=>true
 |_=>false
def stS(st:ZM):XS:=match st with
 |.Expr e _=>if ((cnP e).bind stP).isSome=true then bx else if bX e=true then bw (c.E Γ e) else ac
 |.Return o _=>o.elim (aM<|xC .N) λe=>aM<|c.E Γ e
 |.If t a b _=>gX (c.C Γ t) (c.B Γ a)<|c.B Γ b
 |.Pass _=>bx
 |.Assign ts e _=>if ts.length=1 then ts.head?.elim ac λt=>tsX T c Γ t e else ac
 |.AugAssign t op e _=>if Ce op=true then (Bf Γ t).elim ac λi=>y6 i (c.E Γ e) Eg else ac
 |.For tg it body els _=>if els.length=0/\c8 it=true then fq (Kl c Γ tg it) (JN Γ tg) (c.B Γ body) else ac
 |.While t body els _=>(match els with|[]=>fu (c.C Γ t) (c.B Γ body)|_=>ac)
 |.Try body hs a b _=>if hs.length=1/\a.length=0/\b.length=0 then c.B Γ body else ac
 |_=>ac
def stB:List ZM->XS
 |[]=>bx
 |s::l=>if l.length=0 then c.S Γ s else ak (c.S Γ s) (c.B Γ l)
end
def La(T:Tab):Nat->Cp
 |0=>⟨λ_ _=>ac,λ_ _=>ac,λ_ _=>ac,λ_ _=>ac,λ_ _=>ac⟩
 |n+1=>⟨stE T<|La T n,stA<|La T n,stC T<|La T n,stS T<|La T n,stB<|La T n⟩
def K6:Zl:=["len", "tuple", "sorted", "max", "min", "int", "str", "sum", "all", "any", "isinstance", "range", "reversed", "zip", "dict"]
structure TOk(T:Tab)(P:ZL)(w:ZI)(K:Zj)(mg:Zg)(base:ZH)(k:Nat):Prop where
 fn:∀x j f,T.fn.lookup x=some (j,f)->∃a fd ps i sp dvs ds,i<=k/\Zs P w K mg base my i a fd ps sp/\Binds K fd ps ds/\Vals dvs ds/\mg x=some (.ref a)/\ahi K (.ref a)=true/\∀vs H Q,zf K j f vs H Q E0->sp (vs++dvs) H Q E0
 me:∀m Ns j f,T.me.lookup m=some (Ns,j,f)->∃a fd ps i,i<=k/\Zs P w K mg base my i a fd ps (zf K j f)/\Binds K fd ps []/\kR K Ns λC=>Cls K C/\Meth K C m a
 mx:∀x j f,T.mx.lookup x=some (j,f)->∃C a fd ps i,i+1<=k/\Zs P w K mg base my i a fd ps (zf K j f)/\Binds K fd ps []/\agA K ZK x=some (some<|.ref C)/\Mk K C a/\mg x=some (.ref C)
 ci:∀x j f,T.ci.lookup x=some (j,f)->∃C a fd ps i,i<=k/\Zs P w K mg base my i a fd ps (zf K j f)/\Binds K fd ps []/\ClsFn K C "__init__" a/\mg x=some (.ref C)
 fd:∀f Ns,T.fd.lookup f=some Ns->kR K Ns λC=>Cls K C/\NoAttr K C f
 cs:∀x d,T.cs.lookup x=some d->∃u v,mg x=some u/\RelV v u/\∀m H,Den K m H d v
 tb:∀x tab,T.tb.lookup x=some tab->∃a kvs,mg x=some (.ref a)/\FM w K a kvs/\KR K kvs tab
 bl:∀x∈K6,mg x=none
structure Gd(T:Tab)(k:Nat)(Γ:Ct)(X:Cx):Prop where
 N:X.N=Γ.N
 nd:Γ.N.Nodup
 sc:X.e.scope=Γ.sc
 fn:X.fn=λ_=>Γ.tp
 calm:X.c=true
 xe:X.xe=λ_ _=>False
 room:Zr k X.A
 tb:TOk T X.p X.w X.K X.mg X.ba k
def OE(X:Cx)(e:ZA)(x:XE):Prop:=∃t,PE X e t/\SE X.K t x
def OA(X:Cx)(e:List ZA)(x:XA):Prop:=∃t,PA X e t/\SA X.K t x
def OC(X:Cx)(e:ZA)(x:XT):Prop:=∃t,PT X e t/\ST X.K t x
def OS(X:Cx)(e:ZM)(x:XS):Prop:=∃t,PS X e t/\SS X.K t x
def OB(X:Cx)(e:List ZM)(x:XS):Prop:=∃t,PSs X e t/\SS X.K t x
def OP(X:Cx)(op:ahB)(a b:ZA)(x:XE):Prop:=∃t,PC X op a b t/\SE X.K t x
def OI(X:Cx)(tg e:ZA)(x:XI):Prop:=∃t,PI X tg e t/\SI X.K t x
structure COk(T:Tab)(k:Nat)(c:Cp):Prop where
 E:∀Γ X e,Gd T k Γ X->OE X e (c.E Γ e)
 A:∀Γ X e,Gd T k Γ X->OA X e (c.A Γ e)
 C:∀Γ X e,Gd T k Γ X->OC X e (c.C Γ e)
 S:∀Γ X e,Gd T k Γ X->OS X e (c.S Γ e)
 B:∀Γ X e,Gd T k Γ X->OB X e (c.B Γ e)
section
variable {T:Tab}{k:Nat}{c:Cp}{Γ:Ct}{X:Cx}{e:ZA}
def bU:OE X e ac:=⟨λ_ _ _=>False,λ_ _ _ _ _ _ h=>h.elim,λ_ _ _ _ _ _ _ _ _ _ q=>nomatch q⟩
def Pa{e:List ZA}:OA X e ac:=⟨λ_ _ _=>False,λ_ _ _ _ _ _ _ h=>h.elim,λ_ _ _ _ _ _ _ _ _ _ q=>nomatch q⟩
def yq:OC X e ac:=⟨λ_ _ _=>False,λ_ _ _ _ _ _ h=>h.elim,λ_ _ _ _ _ _ _ _ _ _ q=>nomatch q⟩
def d7{e:ZM}:OS X e ac:=⟨λ_ _ _=>False,λ_ _ _ _ _ _ h=>h.elim,λ_ _ _ _ _ _ _ _ _ _ q=>nomatch q⟩
def Pc:OP X op a b ac:=⟨λ_ _ _=>False,λ_ _ _ _ _ _ h=>h.elim,λ_ _ _ _ _ _ _ _ _ _ q=>nomatch q⟩
def yr{tg:ZA}:OI X tg e ac:=⟨λ_ _ _=>False,λ_ _ _ _ _ _ h=>h.elim,λ_ _ _ _ _ _ _ _ _ _ q=>nomatch q⟩
set_option tactic.hygienic true in
theorem rp:∀ {l:Zl} {i:Nat},Hr x l=some i->l[i]?=some x
 |[],_,h=>nomatch h
 |y::l,i,h=>by
  unfold Hr at h;split at h
  .ext h;rename_i e;rw[e];rfl
  .let⟨j,h1,rfl⟩:=aaQ.1 h;show rp (l:=l) h1
def oG(h:Vw x=true):(x==("__debug__" : Str))=false/\(x==("__classdict__" : Str))=false/\x ≠ "__name__" := by unfold Vw at h;simpa[aaV,and_assoc] using h
def Gd.glb(g:Gd T k Γ X)(h:glb Γ x=true):Gl X x/\(x==("__debug__" : Str))=false/\x ≠ "__name__" := by let⟨h1,h2⟩:=acW.1 h;split⟨?_,(oG h2).1,(oG h2).2.2⟩;show X.e.scope.names.lookup x=_;rw[g.sc];show abT h1
def Gd.loc(g:Gd T k Γ X)(h:loc Γ x=true):L2.N4 X.e.scope x/\(X.fn x=true\/X.e.scope.names.lookup x=some .local):=by
 unfold Y.loc at h;unfold L2.N4;rw[g.sc,g.fn];rcases afh.1 h with h|h
 .exact⟨.inl<|abT h,.inr<|abT h⟩
 .let⟨h1,h2⟩:=acW.1 h;show⟨.inr<|abT h1,.inl h2⟩
def bp{es:List ZA}(h:aY e=true):ZQ (e::es) X.e=(false,ZN e X.e)::ZQ es X.e:=by cases e<;>first|ext h;done|rfl
theorem cN{pos:Pos}:∀ {es:List ZA},es.all aY=true->(ZU pos<|starEach es X.e).any (·.1)=false
 |[],_=>rfl
 |e::es,h=>by rw[acr,aaV] at h;rw[bp h.1];show cN h.2
theorem Aa{pos:Pos}:∀ {es:List ZA},es.all aY=true->(ZU pos<|starEach es X.e).all (λx=>!x.1)=true
 |[],_=>rfl
 |e::es,h=>by rw[acr,aaV] at h;rw[bp h.1];show Aa h.2
def Zt(h:fZ e=true):ahX e n env w=w:=by
 cases e<;>try rfl
 rename_i f args kw p;cases f<;>try rfl
 cases args<;>try rfl
 cases kw<;>first|rfl|ext h
def abG(h:∀m H,Den K m H d v):SE K (tC v)<|xC d:=λm A H U Z Q _ _ e w q n=>by ext q;show n.now w<|h m H
def ki{x:Str}(h:EM e=some x):∃p,e=.Name x p:=by cases e<;>ext h;show⟨_,rfl⟩
def WW{x:Str}{p:Pos}(g:Gd T k Γ X):OE X (.Name x p)<|nmX T Γ x:=by
 unfold nmX;by_cases h:vis Γ x=true
 .rw[aac h];cases hi:Hr x Γ.N with
  |none=>show bU
  |some i=>let⟨h1,h2⟩:=acW.1 h;split⟨_,Iw (by rw[g.N];show rp hi) ?_ (oG h2).1 (oG h2).2.1,YK⟩;unfold VL;rw[g.sc];simpa[or_assoc] using h1
 .rw[aad h];by_cases h:glb Γ x=true
  .rw[aac h];let⟨g1,g2,g3⟩:=g.glb h;cases hd:T.cs.lookup x with
   |some d=>
    let⟨u,v,m1,m2,m3⟩:=g.tb.cs x d hd;show⟨_,ww g1 m1 m2 g2,abG m3⟩
   |none=>
    show OE X _ (if x="str" then xC (.ty "str") else ac);by_cases hx:x="str"
    .rw[aac hx];subst hx;show⟨_,CA (v:=.ty "str") g1 (g.tb.bl _ ⋯) rfl rfl g3 g2,Yt rfl⟩
    .rw[aad hx];show bU
  .rw[aad h];show bU
def Qw(op:ah5):∃r,OpR X (agK op) r/\BF X.K r (VS op):=by
 have no:∃r,OpR X (agK op) r/\BF X.K r λ_ _ _=>none:=⟨λ_ _ _ _=>False,λ_ _ _ _ _ _ _ _ _ _ _ _ h=>h.elim,λ_ _ _ _ _ _ _ _ _ _ _ _ _ q=>nomatch q⟩
 ext op
 case Add=>show⟨_,My,XQ⟩
 case Sub=>show⟨_,Sq,yC λ_ _=>rfl⟩
 case Mult=>show⟨_,Sm,r_i λ_ _=>rfl⟩
 case FloorDiv=>show⟨_,Mz,r_i λ_ _=>rfl⟩
 case Mod=>show⟨_,Sl,r_i λ_ _=>rfl⟩
 case Pow=>show⟨_,So,r_i λ_ _=>rfl⟩
 case BitAnd=>show⟨_,Sh,yC λ_ _=>rfl⟩
 all_goals show no
def Xf{ta tb:TE}(ho:OpR X (agH op) r)(ha:PE X a ta)(hb:PE X b tb):PC X op a b<|tOp r ta tb:=λZx s Z H Q I h=>
 bz (ha Zx s Z H _ I h) λ_ s1 ⟨_,H1,I1,r1,q1⟩=>bz (hb Zx s1 Z H1 _ I1 q1) λ_ s2 ⟨_,H2,I2,r2,q2⟩=>ho Zx s2 Z H2 _ _ _ _ Q I2 r1 r2 q2
def Pd(h:PC X op a b t)(h':PC X op a b u):PC X op a b<|λZ H Q=>t Z H Q\/u Z H Q:=λZx s Z H Q I q=>q.elim (h Zx s Z H Q I)<|h' Zx s Z H Q I
def nz(ha:OE X a x)(hb:OE X b y)(ho:OpR X (agH op) r)(hf:BF X.K r f):OP X op a b<|az f x y:=
 let ⟨_,a1,a2⟩:=ha
 let ⟨_,b1,b2⟩:=hb
 ⟨_,Xf ho a1 b1,Uk hf a2 b2⟩
def HV(h:COk T k c)(g:Gd T k Γ X):OP X op a b<|vn T c Γ a op b:=by
 have A:=h.E Γ X a g;have B:=h.E Γ X b g;have u64:=g.room.units;have din:OP X .In a b<|az (im false) (c.E Γ a) (c.E Γ b):=
  let ⟨_,a1,a2⟩:=A
  let ⟨_,b1,b2⟩:=B
  ⟨_,Sw () a1 b1,Yw a2 b2⟩
 have dno:OP X .NotIn a b<|az (im true) (c.E Γ a) (c.E Γ b):=
  let ⟨_,a1,a2⟩:=A
  let ⟨_,b1,b2⟩:=B
  ⟨_,ES () a1 b1,Jb a2 b2⟩
 have inn:OP X .In a b<|az zZ (c.E Γ a) (c.E Γ b):=
  let ⟨_,a1,a2⟩:=nz A B EO<|X1 false
  let ⟨_,b1,b2⟩:=nz A B Sj X2
  let ⟨_,d1,d2⟩:=din
  ⟨_,Pd (Pd a1 b1) d1,AQ (AQ a2 b2) d2⟩
 unfold vn;by_cases hb:c8 b=true
 .rw[aac hb];have tb:∀neg tab,UR T Γ b=some tab->∃n p,b=.Name n p/\OP X (if neg then .NotIn else .In) a (.Name n p) (ju neg tab<|c.E Γ a):=λneg tab ht=>by
   let⟨n,h1,ht⟩:=bnd ht;let⟨p,rfl⟩:=ki h1;rcases bf ht with ⟨hg,ht⟩|⟨_,ht⟩
   .let⟨g1,g2,_⟩:=g.glb hg;let⟨ad,kvs,t1,t2,t3⟩:=g.tb.tb _ _ ht;let⟨_,a1,a2⟩:=A;split⟨n,p,rfl,?_⟩;cases neg with
    |true=>show⟨_,AG t2 g1 t1 a1 g2,CU t3 a2⟩
    |false=>show⟨_,MG t2 g1 t1 a1 g2,CU t3 a2⟩
   .ext ht
  cases op with
  |Eq=>show nz A B (Si u64)<|XZ false
  |NotEq=>show nz A B (Sn u64)<|XZ true
  |Lt=>show nz A B Xd<|yC λ_ _=>rfl
  |LtE=>show nz A B HW<|yC λ_ _=>rfl
  |Gt=>show nz A B Xc<|yC λ_ _=>rfl
  |GtE=>show nz A B Xb<|yC λ_ _=>rfl
  |Is=>show nz A B Sk X5
  |In=>
   cases ht:UR T Γ b with
   |none=>show inn
   |some tab=>let⟨n,p,rfl,h⟩:=tb false tab ht;show h
  |NotIn=>
   cases ht:UR T Γ b with
   |none=>show dno
   |some tab=>let⟨n,p,rfl,h⟩:=tb true tab ht;show h
  |IsNot=>show Pc
 .rw[aad hb];show Pc
def wf(h:c8 e=true):ai1 op e=false:=by cases e<;>first|ext h;done|rfl
def kB(h:c8 e=true)(x:ZE):aio e env x=pure x:=by cases e<;>first|ext h;done|rfl
def xB{Q:Prop}(n:∀e:c8 b=false,vn T c Γ a op b=ac->Q)(y:c8 b=true->Q):Q:=by
 cases h:c8 b with
 |true=>show y h
 |false=>show n h (by unfold vn;rw[h];rfl)
def Xo{tg:ZA} (h:PI X tg l t)(h':PI X tg l u):PI X tg l<|λZ H R=>t Z H R\/u Z H R:=λZx s Z H Q I q=>q.elim (h Zx s Z H Q I)<|h' Zx s Z H Q I
def Pb{tg:ZA}(h:OE X e<|c.E Γ e):OI X tg e<|Vu c Γ e:=by
 let⟨_,a1,a2⟩:=h;unfold Vu;split
 .exact⟨_,MO a1,abH a2⟩
 .exact⟨_,Xo (SQ a1)<|SU a1,YL (abK a2)<|YA a2⟩
def iU{es:List ZA}(h:es.all aY=true):∀e l,es=e::l->aY e=true/\l.all aY=true:=λe l z=>by subst z;rwa[acr,aaV] at h
def QH{f:ZA}{as:List ZA}(h:caP e=some (f,as)):∃p,e=.Call f as [] p:=by
 cases e with
 |Call f as ks p=>
  cases ks with
  |nil=>ext h;show⟨_,rfl⟩
  |cons _ _=>ext h
 |_=>ext h
def Ge{x:Str}{as:List ZA}(h:Gc e=some (x,as)):∃p q,e=.Call (.Name x p) as [] q:=by let⟨⟨f,bs⟩,h1,h⟩:=bnd h;let⟨y,h2,h⟩:=dD h;ext h;let⟨q,rfl⟩:=QH h1;let⟨p,e⟩:=ki h2;ext e;show⟨p,q,rfl⟩
def kX{O:Type}{l:List O}(h:l.length=1):∃a,l=[a]:=List.length_eq_one_iff.1 h
def Mf{O:Type}{l:List O}(h:l.length=2):∃a b,l=[a,b]:=by
 cases l with
 |nil=>ext h
 |cons a l=>let⟨b,rfl⟩:=kX<|adg h;show⟨a,b,rfl⟩
def abi{O:Type}{l:List O}(h:l.length=3):∃a b c,l=[a,b,c]:=by
 cases l with
 |nil=>ext h
 |cons a l=>let⟨b,c,rfl⟩:=Mf<|adg h;show⟨a,b,c,rfl⟩
def Xa{args:List ZA}{tg:ZA}{p q:Pos}(h:COk T k c)(g:Gd T k Γ X)(hg:glb Γ "range"=true) (hs:args.all aY=true):OI X tg (.Call (.Name "range" p) args [] q)<|rnX c Γ args:=by
 let⟨g1,g2,g3⟩:=g.glb hg;let⟨t,a1,a2⟩:=h.A Γ X args g;have st:=iU hs;have hm:=g.tb.bl "range" ⋯;unfold rnX;by_cases h1:args.length=1
 .rw[aac h1];let⟨a,rfl⟩:=kX h1;show⟨_,EX g1 hm a1<|bp (st _ _ rfl).1,Uq a2⟩
 rw[aad h1];by_cases h2:args.length=2
 .rw[aac h2];let⟨a,b,rfl⟩:=Mf h2;have h1:=st _ _ rfl;have h2:=iU h1.2 _ _ rfl;have e1:=bp (X:=X) (es:=[]) h2.1;show⟨_,EZ g1 hm a1 ((bp h1.1).trans<|by rw[e1];rfl) e1,Ur a2⟩
 rw[aad h2];by_cases h3:args.length=3
 .rw[aac h3];let⟨a,b,d,rfl⟩:=abi h3;have h1:=st _ _ rfl;show⟨_,EY g1 hm a1 (bp h1.1)<|cN h1.2,Us a2⟩
 .rw[aad h3];show yr
def HU{tg:ZA}(h:COk T k c)(g:Gd T k Γ X):OI X tg e<|Kl c Γ tg e:=by
 unfold Kl;cases hc:Gc e with
 |none=>
  by_cases hs:c8 e=true
  .show OI X tg e (if c8 e=true then Vu c Γ e else ac);rw[aac hs];show Pb<|h.E Γ X _ g
  .show OI X tg e (if c8 e=true then Vu c Γ e else ac);rw[aad hs];show yr
 |some q=>
  let⟨x,args⟩:=q;let⟨p,p2,rfl⟩:=Ge hc;dsimp only[aj6];by_cases hx:glb Γ x=true/\args.all aY=true
  .rw[aac hx];have st:=iU hx.2;by_cases hr:x="range"
   .rw[aac hr];subst hr;show Xa h g hx.1 hx.2
   rw[aad hr];let⟨g1,g2,g3⟩:=g.glb hx.1;let⟨t,a1,a2⟩:=h.A Γ X args g;by_cases hr:x="reversed"
   .rw[aac hr];subst hr;by_cases h1:args.length=1
    .rw[aac h1];let⟨a,rfl⟩:=kX h1;show⟨_,SN g1 (g.tb.bl "reversed" ⋯) a1<|bp (st _ _ rfl).1,YG a2⟩
    .rw[aad h1];show yr
   rw[aad hr];by_cases hr:x="zip"
   .rw[aac hr];subst hr;by_cases h1:(tpP tg).isSome=true/\args.length=2
    .rw[aac h1];let⟨a,b,rfl⟩:=Mf h1.2;let⟨es,ht⟩:=acp.1 h1.1;cases tg<;>ext ht;have h1:=st _ _ rfl;show⟨_,SV g1 (g.tb.bl "zip" ⋯) a1 (bp h1.1)<|cN h1.2,YM a2⟩
    .rw[aad h1];show yr
   .rw[aad hr];show Pb<|h.E Γ X _ g
  .rw[aad hx];show yr
def bj{O:Type}{p:Prop}[Decidable p]{a c:O}{b:Option O}(h:(if p then some a else b)=some c):(p/\a=c)\/b=some c:=by
 by_cases hp:p
 .rw[aac hp] at h;show .inl ⟨hp,abb h⟩
 .rw[aad hp] at h;show .inr h
def rfo(a:RF K r f)(b:RF K r' g):RF K (λxs H Q=>r xs H Q\/r' xs H Q)<|λl A=>(f l A).or (g l A):=λm A H l xs Q c A' w dl q n=>by
 rcases aK q with q|q
 .exact .inl<|a m A H l xs Q c A' w dl q n
 .exact .inr<|b m A H l xs Q c A' w dl q n
def Xw:Za->Hp->VK->Prop:=λxs H Q=>∃y,xs=[.str y,.ty "str"]/\Q (.B true) H
def Gf:CallR X (.builtin "isinstance") Xw:=by
 intro Zx s Z H xs us Q I r h;let⟨y,rfl,q⟩:=h;let⟨u,w,rfl,ru,rw'⟩:=r.two;ext rw';let⟨t,rfl⟩:=(show ∃t,u=ag2 y t from ru)
 show W.kia_one (b:=true) W.kitx_str I.kIn agW s!"" (λz=>nomatch z) λtk=>⟨.B true,H,I.tok tk,rfl,q⟩
def X6:RF K Xw qA:=λm A H l xs Q c A' w dl q n=>by let⟨p,q1,q⟩:=bnd q;let⟨x,q2,q⟩:=bnd q;let⟨s,q3,q⟩:=bnd q;let⟨hs,q⟩:=aC q;ext q;subst hs;let⟨v,u,rfl,h1,h2⟩:=o8 dl q1;let⟨d,e⟩:=p;cases e<;>ext q3;show⟨x,by rw[h1.dS q2,h2.of (w:=.ty "str") rfl],n.now w<|.at rfl⟩
def Qx{f:HF}{es:List ZA}{p pos:Pos}{xa:XA}(g:Gd T k Γ X)(hg:glb Γ x=true)(hs:(e::es).all aY=true)(hf:blt x=some f)(ha:OA X (e::es) xa):OE X (.Call (.Name x p) (e::es) [] pos)<|cc f xa:=by
 let⟨g1,g2,g3⟩:=g.glb hg;let⟨t,a1,a2⟩:=ha;have h1:=iU hs _ _ rfl;have s1:=bp (X:=X) (es:=es) h1.1;have s2:=cN (X:=X) (pos:=pos) h1.2;have fb:∀ {id r},x∈K6->agz x=some (.builtin id)->CallR X (.builtin id) r->RF X.K r f->OE X (.Call (.Name x p) (e::es) [] pos) (cc f xa):=λm b h k=>⟨_,r9 h g1 (g.tb.bl x m) b a1 g3 g2 s1 s2,Yu k a2⟩
 have ft:∀ {id r},x∈K6->agz x=some (.type id)->CallR X (.type id) r->RF X.K r f->OE X (.Call (.Name x p) (e::es) [] pos) (cc f xa):=λm b h k=>⟨_,ET h g1 (g.tb.bl x m) b a1 g3 g2 s1 s2,Yu k a2⟩
 have hc:=g.calm;unfold blt at hf;rcases bj hf with ⟨rfl,rfl⟩|hf
 .exact fb s!"" QB (call_lenM.or DH) Tx
 rcases bj hf with ⟨rfl,rfl⟩|hf
 .exact ft s!"" Gb sR Nj
 rcases bj hf with ⟨rfl,rfl⟩|hf
 .exact fb s!"" DD (call_sortR.or<|vk hc) TH
 rcases bj hf with ⟨rfl,rfl⟩|hf
 .exact fb s!"" QC (DI hc) TB
 rcases bj hf with ⟨rfl,rfl⟩|hf
 .exact fb s!"" QD ((DJ hc).or<|DK hc)<|rfo TC TD
 rcases bj hf with ⟨rfl,rfl⟩|hf
 .exact ft s!"" QA (call_int1.or DG) X3
 rcases bj hf with ⟨rfl,rfl⟩|hf
 .exact ft s!"" QE DM Yd
 rcases bj hf with ⟨rfl,rfl⟩|hf
 .exact fb s!"" QF (DN hc) Ye
 rcases bj hf with ⟨rfl,rfl⟩|hf
 .exact fb s!"" Qy (DE hc) XU
 rcases bj hf with ⟨rfl,rfl⟩|hf
 .exact fb s!"" Qz (DF hc) XV
 rcases bj hf with ⟨rfl,rfl⟩|hf
 .exact fb s!"" ij Gf X6
 rcases bj hf with ⟨rfl,rfl⟩|hf
 .exact ft s!"" K7 ((zD (Nu g.room.units) hc).or<|zC hc)<|r_dictI.or Nd
 .ext hf
def CT{sp:Sp}{dvs:Za}{ta:TA}{xa:XA}{j:Nat} (h:SA K ta xa)(hs:∀vs H Q,zf K j f vs H Q E0->sp (vs++dvs) H Q E0):SE K (sB sp dvs E0 ta)<|ah j f xa:=λm A H U Z Q z A' e w q n=>h.run e w q n λm A H d v e w dv q n=>by
 rcases bf q with ⟨hj,q⟩|⟨_,q⟩
 .exact hs _ _ _ ⟨dv.length▸hj,m,A,d,z,A',w,dv,q,n⟩
 .ext q
def Ms{x:Str}{args:List ZA}{p pos:Pos}(h:COk T k c)(g:Gd T k Γ X):OE X (.Call (.Name x p) args [] pos)<|QJ T c Γ x args:=by
 unfold QJ;by_cases hx:glb Γ x=true/\args.all aY=true
 .rw[aac hx];let⟨g1,g2,g3⟩:=g.glb hx.1;cases args with
  |nil=>
   cases hf:T.fn.lookup x with
   |some q=>
    let⟨a,fd,ps,i,sp,dvs,ds,hi,F,hb,hd,hm,hk,hs⟩:=g.tb.fn x q.1 q.2 hf;show⟨_,yw F (g.room.mono hi) g1 hm hk hb hd pe g2,CT uE hs⟩
   |none=>
    cases hf:T.mx.lookup x with
    |some q=>
     let⟨C,a,fd,ps,i,hi,F,hb,hn,hM,hm⟩:=g.tb.mx x q.1 q.2 hf;show⟨_,EU hn hM F (g.room.mono hi) g1 hm hb pe g2,Jd uE⟩
    |none=>show bU
  |cons e es=>
   have A:=h.A Γ X (e::es) g;have h1:=iU hx.2 _ _ rfl;have s1:=bp (X:=X) (es:=es) h1.1;have s2:=cN (X:=X) (pos:=pos) h1.2;let⟨t,a1,a2⟩:=A;cases hf:T.fn.lookup x with
   |some q=>
    let⟨a,fd,ps,i,sp,dvs,ds,hi,F,hb,hd,hm,hk,hs⟩:=g.tb.fn x q.1 q.2 hf;show⟨_,wv F (g.room.mono hi) g1 hm hk hb hd pe a1 g2 s1 s2,CT a2 hs⟩
   |none=>
    cases hf:T.mx.lookup x with
    |some q=>
     let⟨C,a,fd,ps,i,hi,F,hb,hn,hM,hm⟩:=g.tb.mx x q.1 q.2 hf;show⟨_,Im hn hM F (g.room.mono hi) g1 hm hb pe a1 g2 s1 s2,Jd a2⟩
    |none=>
     show OE X _<|(blt x).elim ac λf=>cc f<|c.A Γ (e::es);cases hf:blt x with
     |some f=>show Qx g hx.1 hx.2 hf ⟨t,a1,a2⟩
     |none=>show bU
 .rw[aad hx];show bU
def kJ{m:Str}{args:List ZA}{ap cp:Pos}(hb:fZ o=true)(hl:ap.endLine=cp.line)(hs:args.all aY=true)(hn:args.length<20):ZN (.Call (.Attribute o m ap) args [] cp) X.e=(do
  let ov ← ZN o X.e
  ag3 ap.atName
  let (f,first) ← agI [ov] (ag8 ov m (do return (← importBound o X.e).getD true))
  ahx cp f first (ZU cp<|starEach args X.e) (agX cp<|keywordEach [] X.e)):=by
 rw[arm_eval_Call,Zt hb];have few:methodCallForm (args.length+([]:List ahy).length) (ZU cp<|starEach args X.e) (agX cp<|keywordEach [] X.e)=true:=by unfold methodCallForm;rw[Aa hs];show (true&&true&&decide (args.length+0+0<30))=true;simp;lia
 have e:∀ov,methodCall o m ap cp X.e ov (args.length+([]:List ahy).length) (ZU cp<|starEach args X.e) (agX cp<|keywordEach [] X.e)=(do
   let (f,first) ← agI [ov] (ag8 ov m (do return (← importBound o X.e).getD true))
   ahx cp f first (ZU cp<|starEach args X.e) (agX cp<|keywordEach [] X.e)):=λov=>by
  unfold methodCall;rw[few];unfold calleeOf methodCallPos;simp[hl]
 simp only[e]
def pP{ap cp:Pos}(hl:ap.endLine=cp.line):(ap.endLine==cp.line)=true:=by rw[hl];show afd _
def Rh{args:List ZA} (hs:args.all aY=true)(hn:args.length<20):((ZU cp<|starEach args X.e).all (λx=>!x.1)&&(agX cp<|keywordEach [] X.e).all (λx=>x.1.isSome)
   && decide (args.length+([]:List ahy).length+(if ([]:List ahy).isEmpty then 0 else 1)<30))=true:=by
 rw[Aa hs];show (true&&true&&decide (args.length+0+0<30))=true;simp;lia
def ny{o:ZA}{m:Str}{es:List ZA}{ap cp:Pos}{id T':String}{r:V->Za->Hp->VK->Prop}{kd:Hh->D->Bool}{f:HF}{xo:XE}{xa:XA}(pa:ai5 T')(slot:Slot T' m id)(hty:ah4 (.builtin id)=pure (.type "method_descriptor")) (hm:MtR X id r)
  (hc:∀m A H d v,R X.K m A H->Den X.K m H d v->kd A d=true->KG X.K T' v H) (hf:MF X.K r f) (hb:fZ o=true) (hl:ap.endLine=cp.line) (hs:(e::es).all aY=true) (hn:(e::es).length<20) (ho:OE X o xo) (ha:OA X (e::es) xa):OE X (.Call (.Attribute o m ap) (e::es) [] cp)<|dQ kd f xo xa:=by
 let⟨t,o1,o2⟩:=ho;let⟨u,a1,a2⟩:=ha;have h1:=iU hs _ _ rfl;show⟨_,Pe pa slot hty hm o1 a1 (Zt hb) (Rh hs hn) (pP hl) (bp h1.1)<|cN h1.2,abF hc hf o2 a2⟩
def UU(h:aY e=true):ZU cp (ZQ [e] X.e)=[(false,ZN e X.e)]:=by rw[bp h];rfl
def Nc{K:Zj}:MF K (CM K) rN:=.mk2 (f:=λd e A=>(sJ e).bind λb=>if b=true then (iR A d).bind λl=>(fv sJ l).map λbs=>(.int (bs.count true:Nat),A) else none) λm A H d e x y Q c A' w dx he q n=>by
 let⟨b,q1,q⟩:=bnd q;rcases bf q with ⟨rfl,q⟩|⟨_,q⟩
 .let⟨l,q2,q⟩:=bnd q;let⟨bs,q3,q⟩:=dD q;ext q;let⟨p,xs,rfl,h1,h2⟩:=fF w dx q2;cases f8 h2 q3;show⟨p,bs,rfl,#v[he.dB q1],h1,n.now w<|.at rfl⟩
 .ext q
theorem okB:∀bs:List Bool,M.okDs 29 (bs.map .B)=true
 |[]=>by simp[M.okDs]
 |b::bs=>by rw[aax,M.okDs,okB bs];rfl
theorem Oi{S:Hp}{K:Zj}:∀bs:List Bool,M.Zo K S (bs.map .B) (bs.map .B)
 |[]=>.nil
 |b::bs=>.cons (M.den_bl.2 rfl)<|Oi bs
def Nf{K:Zj}:MF K (CN K) wa:=.mk2 (f:=λd e A=>(sJ e).bind λb=>if b=true then (o6 d).bind λn=>(A[n]?.bind B.ls).bind λl=>(fv sJ l).bind λbs=>if bs.length<=1000 then (L2.ixL (.B true)<|bs.map .B).map λj=>(.int (j:Nat),A) else none else none) λm A H d e x y Q c A' w dx he q n=>by
 let⟨b,q1,q⟩:=bnd q;rcases bf q with ⟨rfl,q⟩|⟨_,q⟩
 .let⟨i,q0,q⟩:=bnd q;let⟨l,q2,q⟩:=bnd q;let⟨bs,q3,q⟩:=bnd q;rcases bf q with ⟨hl,q⟩|⟨_,q⟩
  .let⟨j,q4,q⟩:=dD q;ext q;let⟨p,xs,rfl,h1,h2⟩:=ib w dx q0 q2;cases f8 h2 q3;show⟨H,.B true,bs.map .B,j,y,rfl,Same.refl _,.inl<|M.den_bl.2<|he.dB q1,.inl<|M.den_lst.2 ⟨p,_,rfl,.inl h1,Oi bs⟩,rfl,by rw[M.g6];show okB bs,by rw[aar];show aaN hl ⋯,q4,n.now w<|.at rfl⟩
  .ext q
 .ext q
def VU{es:List ZA}{ap cp:Pos}{kd:Hh->D->Bool}{f:HF} {xa:XA}(g:Gd T k Γ X)(hf:bmt m=some (kd,f))(hb:fZ o=true)(hl:ap.endLine=cp.line)(hs:(e::es).all aY=true)(hn:(e::es).length<20)(ho:OE X o xo)(ha:OA X (e::es) xa):OE X (.Call (.Attribute o m ap) (e::es) [] cp)<|dQ kd f xo xa:=by
 unfold bmt at hf;rcases bj hf with ⟨rfl,hf⟩|hf
 .ext hf;show ny adj PySem.F.slot_list_append PySem.F.type_list_append uw om IP hb hl hs hn ho ha
 rcases bj hf with ⟨rfl,hf⟩|hf
 .ext hf;show ny adj agj agk Cu om IT hb hl hs hn ho ha
 rcases bj hf with ⟨rfl,hf⟩|hf
 .ext hf;show ny aer PySem.F.slot_str_join PySem.F.type_str_join Mj vT Tw hb hl hs hn ho ha
 rcases bj hf with ⟨rfl,hf⟩|hf
 .ext hf;show ny aer PySem.F.slot_str_split PySem.F.type_str_split (mt_split.or EI) vT Ni hb hl hs hn ho ha
 rcases bj hf with ⟨rfl,hf⟩|hf
 .ext hf;show ny aer PySem.F.slot_str_partition PySem.F.type_str_partition Ml vT TF hb hl hs hn ho ha
 rcases bj hf with ⟨rfl,hf⟩|hf
 .ext hf;show ny aer PySem.F.slot_str_startswith PySem.F.type_str_startswith EJ vT IV hb hl hs hn ho ha
 rcases bj hf with ⟨rfl,hf⟩|hf
 .ext hf;show ny ae1 PySem.F.slot_dict_update PySem.F.type_dict_update (EK (Nt g.room.units) g.calm) Rx TJ hb hl hs hn ho ha
 rcases bj hf with ⟨rfl,hf⟩|hf
 .ext hf;show ny adj PySem.F.slot_list_count PySem.F.type_list_count EG om Nc hb hl hs hn ho ha
 rcases bj hf with ⟨rfl,hf⟩|hf
 .ext hf;show ny adj afZ PySem.F.type_list_index (EH g.room.units) om Nf hb hl hs hn ho ha
 .ext hf
def Mr{m:Str}{args:List ZA}{ap cp:Pos}(h:COk T k c)(g:Gd T k Γ X)(hl:ap.endLine=cp.line)(hb:fZ o=true)(hs:args.all aY=true)(hn:args.length<20):OE X (.Call (.Attribute o m ap) args [] cp)<|QI T c Γ o m args:=by
 have α:=h.E Γ X o g;have u64:=g.room.units;have m1:∀e m,args=[e]->M1 X o m ap e cp:=λe m z=>by subst z;show⟨Zt hb,Rh hs hn,pP hl,UU (iU hs _ _ rfl).1⟩
 unfold QI;cases hf:T.me.lookup m with
 |some q=>
  let⟨Ns,j,f⟩:=q;let⟨a,fd,ps,i,hi,F,hb',hcn⟩:=g.tb.me m Ns j f hf;let⟨t,o1,o2⟩:=α;cases args with
  |nil=>show⟨_,EV hcn F (g.room.mono hi) hb' pe o1<|kJ hb hl hs hn,Je o2 uE⟩
  |cons e es=>
   let⟨u,a1,a2⟩:=h.A Γ X (e::es) g;have h1:=iU hs _ _ rfl;show⟨_,Ip hcn F (g.room.mono hi) hb' pe o1 a1 (bp h1.1) (cN h1.2)<|kJ hb hl hs hn,Je o2 a2⟩
 |none=>
  cases hf:bmt m with
  |some q=>
   let⟨kd,f⟩:=q;cases args with
   |nil=>show bU
   |cons e es=>show VU g hf hb hl hs hn α<|h.A Γ X (e::es) g
  |none=>
   show OE X _<|dmX c Γ o m args;unfold dmX;let⟨t,o1,o2⟩:=α;by_cases h0:args.length=0
   .rw[aac h0];cases abu h0;by_cases hm:m="pop"
    .rw[aac hm];subst hm;show⟨_,Sy adj PySem.F.slot_list_pop PySem.F.type_list_pop RX o1 (Zt hb)<|pP hl,Ys om X9 o2⟩
    .rw[aad hm];show bU
   rw[aad h0];by_cases h1:args.length=1
   .rw[aac h1];let⟨e,rfl⟩:=kX h1;let⟨u,a1,a2⟩:=h.E Γ X e g;show OE X _<|dm1 c Γ o m e;unfold dm1;by_cases hm:m="get"
    .rw[aac hm];subst hm;show⟨_,Ib () o1 a1<|m1 e _ rfl,Nv o2 a2⟩
    rw[aad hm];by_cases hm:m="pop"
    .rw[aac hm];subst hm;show⟨_,Ih o1 a1<|m1 e _ rfl,Nw o2 a2⟩
    .rw[aad hm];show bU
   .rw[aad h1];show bU
def OG(T:Tab)(k:Nat)(K:Zj)(Γ:Ct)(tg:ZA)(x:XG):Prop:=∃g,(∀X,Gd T k Γ X->X.K=K->PG X tg g)/\SG K g x/\∀js:List<|Option Nat,(∀(i:Nat) y,Γ.N[i]?=some y->loc Γ y=true->js[i]?=some none)->qj js g
def WZ{tg:ZA} : OG T k K Γ tg (λ_ _ _=>none):=by
 split⟨λ_ _ _ _=>False,?_,?_,?_⟩
 .intro X g hK Zx s Z H v u Q I r h;show h.elim
 .intro m A H U Z P d v U' A' e w dv q;ext q
 .intro js hj Z0 v Z H Q l q;show q.elim
def kr{tg:ZA}{i:Nat}(h:Bf Γ tg=some i):∃x p,tg=.Name x p/\loc Γ x=true/\Γ.N[i]?=some x:=by
 let⟨x,h1,h⟩:=bnd h;let⟨p,rfl⟩:=ki h1;rcases bf h with ⟨hl,h⟩|⟨_,h⟩
 .exact⟨x,p,rfl,hl,rp h⟩
 .ext h
def US{tg:ZA}{es:List ZA}(h:tpP tg=some es):∃n p,tg=.Tuple es n p:=by cases tg<;>ext h;show⟨_,_,rfl⟩
def Gd.name{p:Pos}{i:Nat}(g:Gd T k Γ X)(h1:Y.loc Γ x=true)(h2:Γ.N[i]?=some x):PG X (.Name x p)<|hU i:=
 CC (g.N▸g.nd) (g.N▸h2) (g.loc h1).1 (g.loc h1).2
def Lx{es:List ZA}{tg:ZA}{i:Nat}(h:Bf Γ tg=some i):ag0 (tg::es) X.e=(false,ahW tg X.e)::ag0 es X.e:=by let⟨x,p,rfl,_⟩:=kr h;rfl
def Ww:LN->Fz
 |[]=>LL
 |i::l=>Ca (hU i)<|Ww l
theorem vO:∀l:LN,Vp K (Ww l) (Wx l)
 |[]=>UA
 |i::l=>NH nI<|vO l
theorem Bg(g:Gd T k Γ X):∀ {es:List ZA} {l:LN},PX Γ es=some l->Vo X es (Ww l)/\(ag0 es X.e).length=l.length/\(ag0 es X.e).findIdx? (·.1)=none
 |[],_,h=>by ext h;show⟨MN,rfl,rfl⟩
 |e::es,_,h=>by let⟨i,h1,h⟩:=aaD.1 h;let⟨l,h2,rfl⟩:=aaQ.1 h;let⟨a,b,c⟩:=Bg g h2;have ee:=Lx (X:=X) (es:=es) h1;let⟨x,p,rfl,h3,h4⟩:=kr h1;split⟨Iy (g.name h3 h4) a<|by rw[ee];rfl,by rw[ee,aay,b];rfl,by rw[ee,List.findIdx?_cons,c];rfl⟩
theorem yO{js:List<|Option Nat}(hj:∀(i:Nat) y,Γ.N[i]?=some y->loc Γ y=true->js[i]?=some none):∀ {es:List ZA} {l:LN},PX Γ es=some l->xf js (Ww l)
 |[],_,h=>by ext h;show NK
 |e::es,_,h=>by let⟨i,h1,h⟩:=aaD.1 h;let⟨l,h2,rfl⟩:=aaQ.1 h;let⟨x,p,rfl,h3,h4⟩:=kr h1;show Jw (Dd<|hj i x h4 h3) (yO hj h2) Ae
def AE{tg:ZA} : OG T k K Γ tg (JN Γ tg):=by
 unfold JN;cases h:Bf Γ tg with
 |some i=>
  let⟨x,p,rfl,h1,h2⟩:=kr h;show⟨hU i,λX g _=>g.name h1 h2,nI,λjs hj=>Dd<|hj i _ h2 h1⟩
 |none=>
  cases h:(tpP tg).bind (PX Γ) with
  |some l=>
   let⟨es,h1,h2⟩:=bnd h;let⟨n,p,rfl⟩:=US h1;split⟨LM K l.length<|Ww l,λX g hK=>?_,Jo<|vO l,λjs hj=>UL<|yO hj h2⟩;let⟨a,b,c⟩:=Bg g h2;subst hK;show Ix g.calm a b c
  |none=>show WZ
theorem Px{p:Str->agV->Bool}{x:Str}:∀names:List<|Str×agV,(names.map λ(n,k)=>if p n k then (n,ahT) else (n,k)).lookup x=(names.lookup x).map λk=>if p x k then .cell else k
 |[]=>rfl
 | (n,k)::r=>by
  have e1:(if p n k=true then (n,ahT) else (n,k))=(n,if p n k=true then .cell else k):=by split<;>rfl
  rw[aax];show agD x ((if p n k=true then (n,ahT) else (n,k))::_)=_;rw[e1,aa9,aa9];cases h:x==n with
  |true=>cases eq_of_beq h;rfl
  |false=>show Px r
def QK{scope:ZS}{i:Nat}{y:Str}(h:(rg Γ scope).N[i]?=some y)(hl:loc (rg Γ scope) y=true):(BN Γ.N scope)[i]?=some none:=by
 have hl:(Nq Γ.sc scope).names.lookup y=some .local:=by
  rcases afh.1 hl with h|h
  .exact abT h
  .exact absurd (acW.1 h).2 (by simp[rg])
 have h2:scope.names.lookup y=some .local:=by
  have:=(Px (p:=λn k=>k == .free&&Γ.sc.kind == .function&&Γ.sc.names.lookup n==some .cell) (x:=y) scope.names).symm.trans hl;cases q:scope.names.lookup y with
  |none=>rw[q] at this;ext this
  |some z=>
   rw[q] at this;have this:=abb this;dsimp only at this;split at this
   .ext this
   .rw[this]
 unfold BN;rw[aaX,show (sS scope)[i]?=some y from h,afj,h2];rfl
def tX{scope:ZS}(h:sU Γ scope=true):CmpOk Γ.N Γ.sc scope (sS scope) (BN Γ.N scope)/\(sS scope).Nodup:=by
 unfold sU at h;let⟨h,h6⟩:=acW.1 h;simp only[aaV,ac9,ady,ab0,ad9,decide_eq_false_iff_not] at h;let⟨⟨⟨⟨h1,h2⟩,h3⟩,h4⟩,h5⟩:=h;split⟨⟨h1,h2,λy hy hf=>?_,λy hy hf=>(h4 y hy).resolve_left<|λz=>z hf,by unfold BN;rw[aar],h6⟩,h5⟩;rcases h3 y hy with (z|z)|z
 .exact absurd hf z
 .exact .inl z
 .exact .inr z
def Gd.inn{scope:ZS}(g:Gd T k Γ X)(h:(sS scope).Nodup)(z:CxZ):Gd T k (rg Γ scope)<|iW X (sS scope) scope z:=by split⟨rfl,h,?_,rfl,g.calm,rfl,g.room,g.tb⟩;show relabel scope X.e=Nq Γ.sc scope;unfold relabel Nq Env.kindOf;rw[g.sc]
def FU{O:Type}{f:O->Cx}{K:Zj} (hK:∀z,(f z).K=K)(h:∀z,OE (f z) e x):∃t,(∀z,PE (f z) e t)/\SE K t x:=
 ⟨λZ H Q=>∀z t,PE (f z) e t/\SE K t x->t Z H Q,λz a b c d Q I q=>by
  let⟨t,h1,h2⟩:=h z
  show h1 a b c d Q I<|q z t ⟨h1,hK z▸h2⟩,λm A H U Z Q d A' e w q n z t h=>h.2 m A H U Z Q d A' e w q n⟩
def VP{O:Type}{f:O->Cx}{K:Zj} (hK:∀z,(f z).K=K)(h:∀z,OC (f z) e x):∃t,(∀z,PT (f z) e t)/\ST K t x:=
 ⟨λZ H Q=>∀z t,PT (f z) e t/\ST K t x->t Z H Q,λz a b c d Q I q=>by
  let⟨t,h1,h2⟩:=h z
  show h1 a b c d Q I<|q z t ⟨h1,hK z▸h2⟩,λm A H U Z Q d A' e w q n z t h=>h.2 m A H U Z Q d A' e w q n⟩
def BO{tg it:ZA}{ifs:List ZA}{scope:ZS}(h:COk T k c)(g:Gd T k Γ X)(nd:(sS scope).Nodup) :
  ∃wi gg tt,PI X tg it wi/\SI X.K wi (Kl c Γ tg it)/\(∀z,PG (iW X (sS scope) scope z) tg gg)/\qj (BN Γ.N scope) gg/\SG X.K gg (JN (rg Γ scope) tg)/\(∀z,PIf (iW X (sS scope) scope z) ifs tt)/\ST X.K tt (Rp c (rg Γ scope) ifs):=by
 let⟨wi,i1,i2⟩:=HU (tg:=tg) (e:=it) h g;let⟨gg,g1,g2,g3⟩:=AE (T:=T) (k:=k) (K:=X.K) (Γ:=rg Γ scope) (tg:=tg);have t:∃tt,(∀z,PIf (iW X (sS scope) scope z) ifs tt)/\ST X.K tt (Rp c (rg Γ scope) ifs):=by
  unfold Rp;by_cases h0:ifs.length=0
  .rw[aac h0];cases abu h0;show⟨Oq,λ_=>MP,λm A H U Z Q d A' e w q n=>by ext q;show n.now w rfl⟩
  rw[aad h0];by_cases h1:ifs.length=1
  .rw[aac h1];let⟨b,rfl⟩:=kX h1;let⟨tt,t1,t2⟩:=VP (f:=iW X (sS scope) scope) (K:=X.K) (λ_=>rfl) λz=>h.C _ _ b<|g.inn nd z;show⟨tt,λz=>MQ<|t1 z,t2⟩
  .rw[aad h1];show⟨λ_ _ _=>False,λ_ _ _ _ _ _ _ q=>q.elim,λ_ _ _ _ _ _ _ _ _ _ q=>nomatch q⟩
 let⟨tt,t1,t2⟩:=t;show⟨wi,gg,tt,i1,i2,λz=>g1 _ (g.inn nd z) rfl,g3 _ λi y=>QK,g2,t1,t2⟩
def xw{tg it:ZA}{ifs:List ZA}{scope:ZS}(h:COk T k c)(g:Gd T k Γ X)(hc:sU Γ scope=true) :
  ∃wi gg tt te,PI X tg it wi/\(∀z,PG (iW X (sS scope) scope z) tg gg)/\qj (BN Γ.N scope) gg/\(∀z,PIf (iW X (sS scope) scope z) ifs tt)/\(∀z,PE (iW X (sS scope) scope z) el te) /\
   SE X.K (uK (BN Γ.N scope) wi gg tt te) (aL (BN Γ.N scope) (Kl c Γ tg it) (JN (rg Γ scope) tg) (Rp c (rg Γ scope) ifs)<|c.E (rg Γ scope) el):=by
 let⟨_,nd⟩:=tX hc;let⟨wi,gg,tt,i1,i2,g1,g3,g2,t1,t2⟩:=BO (tg:=tg) (it:=it) (ifs:=ifs) h g nd;let⟨te,e1,e2⟩:=FU (f:=iW X (sS scope) scope) (K:=X.K) (λ_=>rfl) λz=>h.E _ _ el<|g.inn nd z;show⟨wi,gg,tt,te,i1,g1,g3,t1,e1,Ub i2 g2 t2 e2⟩
def Cz{tg it el:ZA}{ifs:List ZA}{scope:ZS}{pos:Pos}(h:COk T k c)(g:Gd T k Γ X):OE X (.ListComp el [⟨tg,it,ifs,0⟩] scope pos)<|QN c Γ el tg it ifs scope:=by
 unfold QN;by_cases hc:sU Γ scope=true/\c8 it=true
 .rw[aac hc];let⟨wi,gg,tt,te,i1,g1,g2,t1,e1,s⟩:=xw (el:=el) (tg:=tg) (it:=it) (ifs:=ifs) h g hc.1;show⟨_,CB (λ_ _=>Ow) (tX hc.1).1 i1 g1 g2 t1 e1 g.N g.sc g.calm<|kB hc.2,s⟩
 .rw[aad hc];show bU
def GZ{gs:List Comprehension}{tg it:ZA}{ifs:List ZA}(h:Vs gs=some (tg,it,ifs)):gs=[⟨tg,it,ifs,0⟩]:=by
 unfold Vs at h;rcases bf h with ⟨h1,h⟩|⟨_,h⟩
 .let⟨⟨a,b,d,n⟩,rfl⟩:=kX h1;let⟨g0,e,h⟩:=bnd h;ext e;let⟨h2,h⟩:=aC h;ext h;ext h2;rfl
 .ext h
def UC{p:Option ZA×Option ZA×Option ZA}(h:YO i=some p):∃q,i=.Slice p.1 p.2.1 p.2.2 q:=by cases i<;>ext h;show⟨_,rfl⟩
def wo(h:AC i=true):BE i/\KN i:=by
 constructor
 .intro o v;cases i<;>first|ext h;done|rfl
 .cases i<;>first|ext h;done|(intro a b;rfl)
def Pf{lo:Option ZA}(h:COk T k c)(g:Gd T k Γ X):∃t,PO X lo t/\SO X.K t (ptX c Γ lo):=by
 cases lo with
 |none=>show⟨_,MR,abL⟩
 |some e=>let⟨t,a,b⟩:=h.E Γ X e g;show⟨_,MS a,Ul b⟩
theorem OT(h:COk T k c)(g:Gd T k Γ X):∀es:List ZA,∃ts,PJ X es ts/\SJ X.K ts (Vv c Γ es)
 |[]=>⟨[],.nil,.nil⟩
 |e::es=>by let⟨ts,a,b⟩:=OT h g es;let⟨t,a1,b1⟩:=h.E Γ X e g;show⟨_,.cons a1 a,.cons b1 b⟩
def Yv{ta tb td:TE} (ha:SE K ta a)(hb:SE K tb b)(hd:SE K td d):SE K (JB (FE λi j=>.B<|decide (i<=j)) (FE λi j=>.B<|decide (i<=j)) ta tb td)<|Vi a b d:=λm A H U Z Q z A' e w q n=>by
 let⟨⟨x,A1⟩,q1,q⟩:=bnd q;let⟨⟨y,A2⟩,q2,q⟩:=bnd q;split ha m A H U Z _ x A1 e w q1 λm1 H1 v1 u1 w1 d1=>hb m1 A1 H1 U Z _ y A2 (e.up u1) w1 q2 λm2 H2 v2 u2 w2 d2=>?_;have n:=n.up<|u1.trans u2;have e:=e.up<|u1.trans u2;let⟨i,q3,q⟩:=bnd q;let⟨j,q4,q⟩:=bnd q;split⟨i,j,d1.dI q3,d2.dI q4,_,rfl,?_⟩;rcases bf q with ⟨hij,q⟩|⟨hij,q⟩
 .rw[aaz hij];let⟨⟨x,A3⟩,q5,q⟩:=bnd q;let⟨k,q6,q⟩:=dD q;ext q;show hd m2 A2 H2 U Z _ x A3 e w2 q5 λm3 H3 v3 u3 w3 d3=>⟨j,k,d2.dI q4,d3.dI q6,(n.up u3).now w3<|.at rfl⟩
 .rw[aaA hij];ext q;show n.now w2<|.at rfl
def YE(h:SE K t x)(k:SE K u y):SE K (YX t u)<|Bu x y:=λm A H U Z Q z A' e w q n=>h.run e w q n λm A H d v e w dv q n=>by
 let⟨c,q1,q⟩:=bnd q;split⟨c,dv.dB q1,?_⟩;rcases bf q with ⟨hc,q⟩|⟨hc,q⟩
 .rw[aac hc];ext q;show n.now w<|.at rfl
 .rw[aad hc];show k m A H U Z Q z A' e w q n
def WR{op:BoolOp}{p:Pos}{es:List ZA}(h:COk T k c)(g:Gd T k Γ X):OE X (.BoolOp op es p)<|boX c Γ op p es:=by
 cases es with
 |nil=>show bU
 |cons a r=>
  let⟨_,a1,a2⟩:=h.E Γ X a g;cases r with
  |nil=>show⟨_,SK a1,a2⟩
  |cons b r=>
   cases op with
   |And=>
    let⟨_,b1,b2⟩:=h.E Γ X (.BoolOp .And (b::r) p) g;show⟨_,Sx a1 b1,TZ a2 b2⟩
   |Or=>let⟨_,b1,b2⟩:=h.E Γ X (.BoolOp .Or (b::r) p) g;show⟨_,Xm a1 b1,YE a2 b2⟩
def Cg(h:Rs op=true):op=.LtE:=by cases op<;>first|rfl|ext h
def WT{a:ZA}{ops:List ahB}{bs:List ZA}{p:Pos}(h:COk T k c)(g:Gd T k Γ X):OE X (.Compare a ops bs p)<|csX T c Γ a ops bs:=by
 cases bs with
 |nil=>show bU
 |cons b r=>
  unfold csX;dsimp only;by_cases h0:r.length=0
  .rw[aac h0];cases abu h0;by_cases h1:ops.length=1
   .rw[aac h1];let⟨op,rfl⟩:=kX h1;let⟨_,t1,t2⟩:=HV (a:=a) (op:=op) (b:=b) h g;show xB (T:=T) (c:=c) (Γ:=Γ) (a:=a) (op:=op) (b:=b) (λ_ n=>by show OE X _<|vn T c Γ a op b;rw[n];show bU) λy=>⟨_,Sz t1<|wf y,t2⟩
   .rw[aad h1];show bU
  rw[aad h0];by_cases h1:r.length=1/\ops.length=2/\ops.all Rs=true/\r.all c8=true
  .rw[aac h1];let⟨d,rfl⟩:=kX h1.1;let⟨o,o',rfl⟩:=Mf h1.2.1;let⟨_,_,hl,hd⟩:=h1;rw[acr,acr,aaV,aaV] at hl;rw[acr,aaV] at hd;cases Cg hl.1;cases Cg hl.2.1;let⟨_,a1,a2⟩:=h.E Γ X a g;let⟨_,b1,b2⟩:=h.E Γ X b g;let⟨_,d1,d2⟩:=h.E Γ X d g;show⟨_,Ia HW HW a1 b1 d1<|wf hd.1,Yv a2 b2 d2⟩
  .rw[aad h1];show bU
def WV{a i:ZA}{p:Pos}(h:COk T k c)(g:Gd T k Γ X):OE X (.Subscript a i p)<|ixX T c Γ a i:=by
 unfold ixX;by_cases hi:AC i=true
 .rw[aac hi];let⟨_,i1,i2⟩:=h.E Γ X i g;have u64:=g.room.units;cases ht:UR T Γ a with
  |some tab=>
   let⟨n,h1,ht⟩:=bnd ht;let⟨q,rfl⟩:=ki h1;rcases bf ht with ⟨hg,ht⟩|⟨_,ht⟩
   .let⟨g1,g2,_⟩:=g.glb hg;let⟨ad,kvs,t1,t2,t3⟩:=g.tb.tb _ _ ht;show⟨_,HZ t2 g1 t1 i1 (wo hi).2 g2,Jf t3 i2⟩
   .ext ht
  |none=>let⟨_,a1,a2⟩:=h.E Γ X a g;show⟨_,Ii (Xi Rz a1 i1 (wo hi).1)<|MH () a1 i1 (wo hi).2,AQ (Uk abz a2 i2)<|Ud a2 i2⟩
 .rw[aad hi];show bU
def WY{a:ZA}{lo hi st:Option ZA}{p q:Pos}(h:COk T k c)(g:Gd T k Γ X):OE X (.Subscript a (.Slice lo hi st q) p)<|slX c Γ a lo hi st:=by
 let⟨_,a1,a2⟩:=h.E Γ X a g;let⟨_,l1,l2⟩:=Pf (lo:=lo) h g;let⟨_,h1,h2⟩:=Pf (lo:=hi) h g;cases st with
 |none=>show⟨_,Ir (sl_M.or UD) a1 l1 h1,abN a2 l2 h2⟩
 |some e=>show bU
def Qt{o:ZA}{m:Str}{p:Pos}(h:N8 e=some (o,m,p)):e=.Attribute o m p:=by cases e<;>ext h;rfl
def WS{f:ZA}{args:List ZA}{cp:Pos}(h:COk T k c)(g:Gd T k Γ X):OE X (.Call f args [] cp)<|caX T c Γ f args cp:=by
 unfold caX;cases hn:EM f with
 |some x=>let⟨p,rfl⟩:=ki hn;show Ms h g
 |none=>
  cases ha:N8 f with
  |none=>show bU
  |some q=>
   let⟨o,m,ap⟩:=q;cases Qt ha;dsimp only[aj6];by_cases hx:ap.endLine=cp.line/\fZ o=true/\args.all aY=true/\args.length<20
   .rw[aac hx];let⟨hl,hb,hs,hn⟩:=hx;cases hf:ciN T Γ o m args with
    |none=>show Mr h g hl hb hs hn
    |some q=>
     let⟨n,h1,h2⟩:=bnd hf;let⟨p,rfl⟩:=ki h1;rcases bf h2 with ⟨hx,h3⟩|⟨_,h3⟩
     .let⟨hg,rfl,hne⟩:=hx;let⟨g1,g2,_⟩:=g.glb hg;let⟨C,a,fd,ps,i,hi,F,hb',hcf,hm⟩:=g.tb.ci _ _ _ h3;let⟨_,a1,a2⟩:=h.A Γ X args g;cases args with
      |nil=>show absurd rfl hne
      |cons e es=>have h1:=iU hs _ _ rfl;show⟨_,AH hcf g1 hm F (g.room.mono hi) hb' pe a1 g2 (bp h1.1) (cN h1.2)<|kJ hb hl hs hn,Ua a2⟩
     .ext h3
   .rw[aad hx];show bU
theorem IA{p:Pos}(h:COk T k c)(g:Gd T k Γ X):∀(ks:List<|Option ZA) (vs:List ZA) ns,LZ ks=some ns->vs.length=ns.length->∃ts,ns.length=ts.length/\ks.length=ns.length/\ks.all (·.isSome)=true/\VE X p ks vs (QS ns ts)/\SJ X.K ts (Vv c Γ vs)
 |[],vs,ns,hk,hl=>by
  ext hk;cases abu hl;show⟨[],rfl,rfl,rfl,CD,.nil⟩
 |o::l,vs,ns,hk,hl=>by
  let⟨e,rfl,k1⟩:=bnd hk;let⟨x,h1,k1⟩:=bnd k1;let⟨r,h2,k1⟩:=dD k1;ext k1;cases vs with
  |nil=>ext hl
  |cons v vs=>let⟨ts,a1,a2,a3,a4,a5⟩:=IA (p:=p) h g l vs r h2<|adg hl;let⟨t,b1,b2⟩:=h.E Γ X v g;let⟨cv,e1,e2⟩:=bnd h1;cases e<;>ext e1;cases cv<;>ext e2;show⟨t::ts,aaF (· + 1) a1,aaF (· + 1) a2,by rw[acr,a3];rfl,yz Iu b1 a4,.cons b2 a5⟩
def WU{ks:List<|Option ZA}{vs:List ZA}{p:Pos}(h:COk T k c)(g:Gd T k Γ X):OE X (.Dict ks vs p)<|diX c Γ ks vs:=by
 unfold diX;by_cases h0:ks.length=0/\vs.length=0
 .rw[aac h0];cases abu h0.1;cases abu h0.2;split
  .exact⟨_,Ig,Ug⟩
  .exact⟨_,Ie,Ue⟩
 rw[aad h0];cases hk:LZ ks with
 |some ns=>
  show OE X _ (if vs.length=ns.length/\0<ns.length/\ns.length<=15 then uO ns (Vv c Γ vs) else ac);by_cases hc:vs.length=ns.length/\0<ns.length/\ns.length<=15
  .rw[aac hc];let⟨ts,a1,a2,a3,a4,a5⟩:=IA (p:=p) h g ks vs ns hk hc.1;show⟨_,MI a4 a3 (a2.trans hc.1.symm) (λz=>by subst z;rw[<-a2] at hc;show absurd hc.2.1<|acb 0)<|a2▸hc.2.2,Uf a5 a1⟩
  .rw[aad hc];show bU
 |none=>
 show OE X _ (if ks.length=1/\vs.length=1 then (ks.head?.join).elim ac λk=>vs.head?.elim ac λv=>y7 (c.E Γ k) (c.E Γ v) else ac);by_cases h1:ks.length=1/\vs.length=1
 .rw[aac h1];let⟨k,rfl⟩:=kX h1.1;let⟨v,rfl⟩:=kX h1.2;cases k with
  |none=>show bU
  |some k=>let⟨_,a1,a2⟩:=h.E Γ X k g;let⟨_,b1,b2⟩:=h.E Γ X v g;show⟨_,Ic (TU g.room.units) a1 b1,Uh a2 b2⟩
 .rw[aad h1];show bU
def Se(h:COk T k c)(g:Gd T k Γ X):OE X e<|stE T c Γ e:=by
 have E:=λe=>h.E Γ X e g;cases e with
 |Constant v j p=>
  cases v with
  |int i=>show⟨_,SB,Yt rfl⟩
  |bool i=>show⟨_,Xg,Yt rfl⟩
  |none=>show⟨_,SF,Yt rfl⟩
  |str i=>show⟨_,Iu,Yt rfl⟩
  |_=>show bU
 |Name x p=>show WW g
 |BinOp a op b p=>
  let⟨_,a1,a2⟩:=E a;let⟨_,b1,b2⟩:=E b;let⟨r,o1,o2⟩:=Qw (X:=X) op;show⟨_,Xk o1 a1 b1,Uk o2 a2 b2⟩
 |UnaryOp op a p=>
  let⟨_,a1,a2⟩:=E a;cases op with
  |USub=>show⟨_,Xn Va a1,abO X8 a2⟩
  |Not=>show⟨_,SH a1,Uj a2⟩
  |_=>show bU
 |BoolOp op es p=>show WR h g
 |IfExp t a b p=>
  let⟨_,t1,t2⟩:=h.C Γ X t g;let⟨_,a1,a2⟩:=E a;let⟨_,b1,b2⟩:=E b;show⟨_,Ij t1 a1 b1,Yz t2 a2 b2⟩
 |Compare a ops bs p=>show WT h g
 |Tuple es n p=>
  let⟨_,a1,a2⟩:=h.A Γ X es g;show⟨_,Iv a1,YJ a2⟩
 |List es p=>
  let⟨_,a1,a2⟩:=h.A Γ X es g;show⟨_,Ik a1,YC a2⟩
 |Dict ks vs p=>show WU h g
 |Subscript a i p=>
  show OE X _<|(YO i).elim (ixX T c Γ a i) λp=>slX c Γ a p.1 p.2.1 p.2.2;cases hs:YO i with
  |none=>show WV h g
  |some q=>let⟨_,rfl⟩:=UC hs;show WY h g
 |ListComp e gs scope p=>
  show OE X _<|(Vs gs).elim ac λg=>QN c Γ e g.1 g.2.1 g.2.2 scope;cases hs:Vs gs with
  |none=>show bU
  |some q=>let⟨a,b,d⟩:=q;cases GZ hs;show Cz h g
 |Call f as ks cp=>
  cases ks with
  |nil=>show WS h g
  |cons _ _=>show bU
 |Attribute a f p=>
  show OE X _ (if fZ a=true then (T.fd.lookup f).elim ac λNs=>gW Ns f (c.E Γ a) else ac);by_cases hb:fZ a=true
  .rw[aac hb];cases hN:T.fd.lookup f with
   |none=>show bU
   |some Ns=>let⟨_,a1,a2⟩:=E a;show⟨_,MJ (g.tb.fd _ _ hN) a1<|Zt hb,Yx a2⟩
  .rw[aad hb];show bU
 |FormattedValue a n o p=>
  show OE X _ (if n = -1/\o.isNone=true then FH (c.E Γ a) else ac);by_cases hn:n = -1/\o.isNone=true
  .rw[aac hn];let⟨rfl,ho⟩:=hn;cases o with
   |some _=>ext ho
   |none=>let⟨_,a1,a2⟩:=E a;show⟨_,Xh a1,abI a2⟩
  .rw[aad hn];show bU
 |JoinedStr es p=>
  cases es with
  |nil=>show bU
  |cons a r=>
   cases r with
   |nil=>
    let⟨_,a1,a2⟩:=E a;show⟨_,SD a1,a2⟩
   |cons b es=>
    let⟨ts,a1,a2⟩:=OT h g (a::b::es);show⟨_,Xj a1,YB a2⟩
 |_=>show bU
def Sb{es:List ZA}(h:COk T k c)(g:Gd T k Γ X):OA X es<|stA c Γ es:=by
 cases es with
 |nil=>show⟨_,oH,uE⟩
 |cons e l=>
  show OA X _ (if aY e=true then af (c.E Γ e) (c.A Γ l) else ac);by_cases hs:aY e=true
  .rw[aac hs];let⟨_,a1,a2⟩:=h.E Γ X e g;let⟨_,b1,b2⟩:=h.A Γ X l g;show⟨_,eZ a1 b1<|bp hs,Uc a2 b2⟩
  .rw[aad hs];show Pa
def WQ{op:BoolOp}{p:Pos}{es:List ZA}(h:COk T k c)(g:Gd T k Γ X):OC X (.BoolOp op es p)<|boC c Γ op p es:=by
 cases es with
 |nil=>show yq
 |cons a r=>
  let⟨_,a1,a2⟩:=h.C Γ X a g;cases r with
  |nil=>
   cases op with
   |And=>show⟨_,(Nb a1).pt,a2⟩
   |Or=>show⟨_,(Tj a1).pt,a2⟩
  |cons b r=>
   cases op with
   |And=>
    let⟨_,b1,b2⟩:=h.C Γ X (.BoolOp .And (b::r) p) g;show⟨_,(Th a1 λ_=>b1).pt,Yq a2 b2⟩
   |Or=>let⟨_,b1,b2⟩:=h.C Γ X (.BoolOp .Or (b::r) p) g;show⟨_,(Xq a1 λ_=>b1).pt,abM a2 b2⟩
def Sd(h:COk T k c)(g:Gd T k Γ X):OC X e<|stC T c Γ e:=by
 have tr:∀e,(∀whole,aib e X.e whole=(do let v ← whole;ag3 e.pos;agI [v] (truthy v)))->OC X e (cR<|c.E Γ e):=λe q=>by let⟨_,a1,a2⟩:=h.E Γ X e g;show⟨_,IJ a1 q,YH a2⟩
 cases e with
 |BoolOp op es p=>show WQ h g
 |UnaryOp op a p=>
  cases op with
  |Not=>
   let⟨_,a1,a2⟩:=h.C Γ X a g;show⟨_,Tf a1,YD a2⟩
  |_=>show tr _ λ_=>rfl
 |Compare a ops bs p=>
  show OC X _ (if ops.length=1/\bs.length=1 then ops.head?.elim ac λop=>bs.head?.elim ac λb=>aw (vn T c Γ a op b) else ac);by_cases h1:ops.length=1/\bs.length=1
  .rw[aac h1];let⟨op,rfl⟩:=kX h1.1;let⟨b,rfl⟩:=kX h1.2;let⟨_,t1,t2⟩:=HV (a:=a) (op:=op) (b:=b) h g;split xB (T:=T) (c:=c) (Γ:=Γ) (a:=a) (op:=op) (b:=b) (λ_ n=>?_) λy=>⟨_,Td t1<|wf y,YI t2⟩
   show OC X _<|aw<|vn T c Γ a op b;rw[n];show yq
  .rw[aad h1];show yq
 |IfExp _ _ _ _=>show yq
 |_=>show tr _ λ_=>rfl
def ge{tg:Option ZA}{n:Nat} (h:bX e=true):ahM e tg n env=pure false:=by cases e<;>first|ext h;done|rfl
def MX{body:List ZM}{hd:ExceptHandler}{pos:Pos} (xe:X.xe=λ_ _=>False)(h:PSs X body t):PS X (.Try body [hd] [] [] pos) t:=λZx s Z H D I q=>ajq (aaO (h Zx s Z H D I q) (λf s1 z=>by
 cases f with
 |next=>show ac0 z
 |brk|cont=>show z
 |ret u=>show z) λe s1 z=>by rw[xe] at z;show z.elim)
def Ao{p:ZA×(ZA×ZA×List ZA)×ZS}(h:OX e=some p):∃q,e=.ListComp p.1 [⟨p.2.1.1,p.2.1.2.1,p.2.1.2.2,0⟩] p.2.2 q:=by
 cases e with
 |ListComp e gs sc q=>
  let⟨⟨a,b,d⟩,h1,h⟩:=dD h;ext h;cases GZ h1;show⟨q,rfl⟩
 |_=>ext h
def Ss{x:Str}{p pos:Pos}{i:Nat}(h:COk T k c)(g:Gd T k Γ X)(hi:Bf Γ (.Name x p)=some i):OS X (.Assign [.Name x p] e pos)<|gV (asX c Γ e) (au i):=by
 let⟨_,_,e0,h1,h2⟩:=kr hi;ext e0;have nd:=g.N▸g.nd;have hx:=g.N▸h2;let⟨l1,l2⟩:=g.loc h1;have no:OS X (.Assign [.Name x p] e pos)<|gV ac (au i):=⟨λ_ _ _=>False,λ_ _ _ _ _ _ h=>h.elim,λ_ _ _ _ _ _ _ _ _ _ q=>nomatch q⟩
 unfold asX;cases hl:OX e with
 |some z=>
  let⟨q,rfl⟩:=Ao hl;let⟨el,⟨tg,it,ifs⟩,scope⟩:=z;show OS X _<|gV (QN c Γ el tg it ifs scope)<|au i;have α:=Cz (el:=el) (tg:=tg) (it:=it) (ifs:=ifs) (scope:=scope) (pos:=q) h g;unfold QN at α ⊢;by_cases hc:sU Γ scope=true/\c8 it=true
  .rw[aac hc] at α ⊢;cases sw:(X.e.blockKind == .function&&X.e.kindOf x==some .local&&p.line==q.line && !(scope.names.any λ(n,k)=>n==x&&(k == .local || k == .cell))) with
   |true=>
    let⟨wi,gg,tt,te,i1,g1,g2,t1,e1,s⟩:=xw (el:=el) (tg:=tg) (it:=it) (ifs:=ifs) h g hc.1;show⟨_,CG (λ_ _=>Ow) (tX hc.1).1 nd hx l1 i1 g1 g2 t1 e1 (aaF pure sw) g.N g.sc g.calm (kB hc.2) l2,uD s nI⟩
   |false=>let⟨_,a1,a2⟩:=α;show⟨_,sd nd hx l1 a1 (aaF pure sw) l2,uD a2 nI⟩
  .rw[aad hc];show no
 |none=>
  show OS X _<|gV (if bX e=true then c.E Γ e else ac)<|au i;by_cases hc:bX e=true
  .rw[aac hc];let⟨_,a1,a2⟩:=h.E Γ X _ g;show⟨_,sd nd hx l1 a1 (ge hc) l2,uD a2 nI⟩
  .rw[aad hc];show no
def wJ{tg:ZA}{n:Nat} (h:bX e=true):swapsWithSole [tg] e n env=pure false:=ge h
def UM{o:ZA}{p:Pos} (h:AC i=true)(v:ZE):ahW (.Subscript o i p) env v=(do
   let ov ← agI [v] (ZN o env)
   let iv ← agI [v,ov] (ZN i env)
   ag3 p
   agI [v,ov,iv] (ait ov iv v)
   release [v,ov,iv] []):=by cases i<;>first|ext h;done|rfl
def uI{es:List ZA}{n:Nat}{p:Pos} (h:Cv e=true):ai9 [.Tuple es n p] e env=pure none:=by cases e<;>first|ext h;done|rfl
def AY{o i:ZA}{p:Pos} : ai9 [.Subscript o i p] e env=pure none:=by cases e<;>rfl
def Xe{t:ZA}{q:Pos}(h:COk T k c)(g:Gd T k Γ X):OS X (.Assign [t] e q)<|tsX T c Γ t e:=by
 have E:=λe=>h.E Γ X e g;cases t with
 |Name x p=>
  show OS X _<|(Bf Γ<|.Name x p).elim ac λi=>gV (asX c Γ e)<|au i;cases hi:Bf Γ (.Name x p) with
  |none=>show d7
  |some i=>show Ss h g hi
 |Tuple es n p=>
  show OS X _ (if bX e=true/\Cv e=true then (PX Γ es).elim ac λl=>gV (c.E Γ e) (za l.length<|Wx l) else ac);by_cases hc:bX e=true/\Cv e=true
  .rw[aac hc];cases hl:PX Γ es with
   |none=>show d7
   |some l=>let⟨_,a1,a2⟩:=E e;let⟨b1,b2,b3⟩:=Bg g hl;show⟨_,IB (AL a1 (Ix g.calm b1 b2 b3) (wJ hc.1)<|uI hc.2)<|AL a1 (SL g.calm b1 b2 b3) (wJ hc.1)<|uI hc.2,Ut (uD a2<|Jo<|vO l)<|uD a2<|Uz<|vO l⟩
  .rw[aad hc];show d7
 |Subscript o i p=>
  show OS X _ (if bX e=true/\AC i=true then ly (c.E Γ e) (c.E Γ o) (c.E Γ i) else ac);by_cases hc:bX e=true/\AC i=true
  .rw[aac hc];let⟨_,a1,a2⟩:=E e;let⟨_,o1,o2⟩:=E o;let⟨_,i1,i2⟩:=E i;have u64:=g.room.units;show⟨_,IB (AL a1 (SM o1 i1 Jm<|UM hc.2) (wJ hc.1) AY)<|MU () o1 i1 a1<|ge hc.1,Uv (uD a2<|UB o2 i2)<|Um o2 i2 a2⟩
  .rw[aad hc];show d7
 |Attribute o f p=>
  show OS X _ (if bX e=true then (T.fd.lookup f).elim ac λNs=>uR Ns f (c.E Γ o) (c.E Γ e) else ac);by_cases hc:bX e=true
  .rw[aac hc];cases hN:T.fd.lookup f with
   |none=>show d7
   |some Ns=>let⟨_,a1,a2⟩:=E e;let⟨_,o1,o2⟩:=E o;show⟨_,Tb o1 a1<|ge hc,Uu (g.tb.fd _ _ hN) o2 a2⟩
  .rw[aad hc];show d7
 |_=>show d7
def Hl(h:Ce op=true):op=.Add:=by cases op<;>first|rfl|ext h
def Sr{st:ZM}(h:COk T k c)(g:Gd T k Γ X):OS X st<|stS T c Γ st:=by
 have E:=λe=>h.E Γ X e g;have pn:aiF (ZJ X.p X.w) X.A X.e X.xe:=by rw[g.xe];show .never
 cases st with
 |Expr e p=>
  show OS X _ (if ((cnP e).bind stP).isSome=true then bx else if bX e=true then bw (c.E Γ e) else ac);by_cases hd:((cnP e).bind stP).isSome=true
  .rw[aac hd];let⟨x,hd⟩:=acp.1 hd;let⟨v,e1,e2⟩:=bnd hd;cases e<;>ext e1;cases v<;>ext e2;show⟨_,Ta,wG⟩
  rw[aad hd];by_cases hc:bX e=true
  .rw[aac hc];let⟨_,a1,a2⟩:=E e;show⟨_,CF a1<|ge hc,Ui a2⟩
  .rw[aad hc];show d7
 |Return o p=>
  cases o with
  |none=>show⟨_,MW,Uo⟩
  |some e=>
   let⟨_,a1,a2⟩:=E e;show⟨_,IH a1,YF a2⟩
 |If t a b p=>
  let⟨_,t1,t2⟩:=h.C Γ X t g;let⟨_,a1,a2⟩:=h.B Γ X a g;let⟨_,b1,b2⟩:=h.B Γ X b g;show⟨_,Ph t1 a1 b1,abJ t2 a2 b2⟩
 |Pass p=>show⟨_,MV,wG⟩
 |Assign ts e p=>
  show OS X _ (if ts.length=1 then ts.head?.elim ac λt=>tsX T c Γ t e else ac);by_cases h1:ts.length=1
  .rw[aac h1];let⟨t,rfl⟩:=kX h1;show Xe h g
  .rw[aad h1];show d7
 |AugAssign t op e p=>
  show OS X _ (if Ce op=true then (Bf Γ t).elim ac λi=>y6 i (c.E Γ e) Eg else ac);by_cases ho:Ce op=true
  .rw[aac ho];cases Hl ho;cases hi:Bf Γ t with
   |none=>show d7
   |some i=>let⟨_,_,rfl,h1,h2⟩:=kr hi;let⟨_,a1,a2⟩:=E e;show⟨_,SZ (g.N▸g.nd) (g.N▸h2) (g.loc h1).1 a1 Rr (g.loc h1).2,Yr (yC λ_ _=>rfl) a2⟩
  .rw[aad ho];show d7
 |For tg it body els p=>
  show OS X _ (if els.length=0/\c8 it=true then fq (Kl c Γ tg it) (JN Γ tg) (c.B Γ body) else ac);by_cases hs:els.length=0/\c8 it=true
  .rw[aac hs];cases abu hs.1;let⟨_,i1,i2⟩:=HU (tg:=tg) (e:=it) h g;let⟨gg,g1,g2,_⟩:=AE (T:=T) (k:=k) (K:=X.K) (Γ:=Γ) (tg:=tg);let⟨_,b1,b2⟩:=h.B Γ X body g;show⟨_,IC pn g.calm i1 (g1 X g rfl) b1<|kB hs.2,Yy i2 g2 b2⟩
  .rw[aad hs];show d7
 |While t body els p=>
  cases els with
  |nil=>
   let⟨_,t1,t2⟩:=h.C Γ X t g;let⟨_,b1,b2⟩:=h.B Γ X body g;show⟨_,II pn t1 b1,Ny t2 b2 _⟩
  |cons _ _=>show d7
 |Try body hs a b p=>
  show OS X _ (if hs.length=1/\a.length=0/\b.length=0 then c.B Γ body else ac);by_cases h1:hs.length=1/\a.length=0/\b.length=0
  .rw[aac h1];let⟨hd,rfl⟩:=kX h1.1;cases abu h1.2.1;cases abu h1.2.2;let⟨_,b1,b2⟩:=h.B Γ X body g;show⟨_,MX g.xe b1,b2⟩
  .rw[aad h1];show d7
 |_=>show d7
def Sc{st:List ZM}(h:COk T k c)(g:Gd T k Γ X):OB X st<|stB c Γ st:=by
 cases st with
 |nil=>show⟨_,CI,wG⟩
 |cons s l=>
  let⟨_,a1,a2⟩:=h.S Γ X s g;cases l with
  |nil=>show⟨_,nB a1,a2⟩
  |cons s' l=>let⟨_,b1,b2⟩:=h.B Γ X (s'::l) g;show⟨_,se a1 b1,Pz a2 b2⟩
theorem i6:∀n,COk T k (La T n)
 |0=>⟨λ_ _ _ _=>bU,λ_ _ _ _=>Pa,λ_ _ _ _=>yq,λ_ _ _ _=>d7,λ_ _ _ _=>⟨λ_ _ _=>False,λ_ _ _ _ _ _ h=>h.elim,λ_ _ _ _ _ _ _ _ _ _ q=>nomatch q⟩⟩
 |n+1=>⟨λ_ _ _ g=>Se (i6 n) g,λ_ _ _ g=>Sb (i6 n) g,λ_ _ _ g=>Sd (i6 n) g,λ_ _ _ g=>Sr (i6 n) g,λ_ _ _ g=>Sc (i6 n) g⟩
end
def zc(ps:Zl)(sc:ZS):Zl:=ps++(sc.names.filter λp=>(p.2 == .local || p.2 == .cell) && !ps.contains p.1).map (·.1)
def fO(st:ZM):Zl:=(fw st).args.map (·.arg)
def cH(T:Tab)(st:ZM):HF:=bS (fO st).length (zc (fO st)<|aq st).length<|(La T 40).B ⟨zc (fO st)<|aq st,aq st,true⟩<|bW st
def vt(st:ZM):Bool:=decide ((aq st).kind=.function) && !(aq st).isCoroutine && !(aq st).isGenerator&&decide (zc (fO st)<|aq st).Nodup
 && (fO st).all (λx=>decide ((aq st).names.lookup x=some .local) || decide ((aq st).names.lookup x=some .cell))&&(aq st).names.all λy=>decide (y.2 ≠ .free)
section
variable {T:Tab}{k:Nat}{P:ZL}{w:ZI}{K:Zj}{mg:Zg}{base:ZH}
def o7{st:ZM}(h:vt st=true):Zw (zc (fO st)<|aq st) (fO st)<|aq st:=by unfold vt at h;simp only[aaV,ac9,ady,ab0,ad9] at h;let⟨⟨⟨⟨⟨h1,h2⟩,h3⟩,h4⟩,h5⟩,h6⟩:=h;show⟨h1,h2,h3,h4,List.take_left' rfl,h5,h6⟩
def nL{ds:Zc} {N:Zl}{j:Nat}(dv:Zo K m H ds vs)(hj:j=vs.length):Envs K m H (ds.map some++agJ (N.length-j) none)<|L2.jz N vs:=by
 subst hj;unfold L2.jz;split⟨by simp[dv.length],λi d q=>?_⟩;by_cases hi:i<ds.length
 .rw[acq<|by rw[aar];show hi,aaX] at q;let⟨d',q1,q2⟩:=aaQ.1 q;ext q2;let⟨v,h1,h2⟩:=dv.get q1;show⟨v,by rw[acq<|by rw[aar,<-dv.length];show hi,aaX,h1];rfl,h2⟩
 .rw[acK<|by rw[aar];show adE.1 hi] at q;show absurd (List.eq_of_mem_replicate<|abp q) (by simp)
def Wp{qual:Str}{st:ZM} {fd:ZW}(F:Fun K x qual st f fd)(t:TOk T P w K mg base k)(h:vt st=true):Zs P w K mg base my (k+1) f fd (fO st)<|zf K (fO st).length (cH T st):=
 F.ok (o7 h) (λvs H Q E h=>h.1) λcdv A outer s H vs Q E hr hpt0=>by
  let⟨hl,m,A0,ds,d,A',r,dv,q,n⟩:=hpt0;have g:Gd T k ⟨zc (fO st)<|aq st,aq st,true⟩ (il my P w K mg base (zc (fO st)<|aq st) qual (aq st) f cdv A outer s H E).nox:=⟨rfl,(o7 h).nd,rfl,rfl,rfl,rfl,hr,t⟩
  let⟨u,u1,u2⟩:=(i6 (T:=T) (k:=k) 40).B _ _ (bW st) g;split⟨u,u1,?_⟩;rcases bf q with ⟨hj,q⟩|⟨_,q⟩
  .let⟨⟨o,A1⟩,q1,q⟩:=bnd q;split u2 m A0 H _ _ _ o A1 (nL dv<|hl▸rfl) r q1 ?_;cases o with
   |rt c=>ext q;show n
   |nx U=>ext q;show λm' H' Z' u w e=>n m' H' .N u w<|.at rfl
  .ext q
end
def Tab.fnA(T:Tab)(x:Str)(j:Nat)(f:HF):Tab:={ T with fn:=(x,j,f)::T.fn }
def Tab.meA(T:Tab)(x:Str)(Ns:Zl)(j:Nat)(f:HF):Tab:={ T with me:=(x,Ns,j,f)::T.me }
def Tab.mxA(T:Tab)(x:Str)(j:Nat)(f:HF):Tab:={ T with mx:=(x,j,f)::T.mx }
def Tab.ciA(T:Tab)(x:Str)(j:Nat)(f:HF):Tab:={ T with ci:=(x,j,f)::T.ci }
section
variable {T:Tab}{k:Nat}{P:ZL}{w:ZI}{K:Zj}{mg:Zg}{base:ZH}{x qual:Str}{st:ZM}{a C:ZB}{fd:ZW}{f:HF}{j:Nat}
def aE{O:Type}{x y:Str}{a b:O}{l:List<|Str×O}(h:((x,a)::l).lookup y=some b):(y=x/\a=b)\/l.lookup y=some b:=by
 rw[aa9] at h;cases q:y==x with
 |true=>rw[q] at h;show .inl ⟨eq_of_beq q,abb h⟩
 |false=>rw[q] at h;show .inr h
def TOk.up(t:TOk T P w K mg base k):TOk T P w K mg base<|k+1:=by
 split { t with fn:=λx j f h=>?_,me:=λx N j f h=>?_,mx:=λx j f h=>?_,ci:=λx j f h=>?_ }
 .let⟨a,b,c,i,d,e,f,hi,r⟩:=t.fn x j f h;show⟨a,b,c,i,d,e,f,acX hi,r⟩
 .let⟨a,b,c,i,hi,r⟩:=t.me x N j f h;show⟨a,b,c,i,acX hi,r⟩
 .let⟨z,a,b,c,i,hi,r⟩:=t.mx x j f h;show⟨z,a,b,c,i,acX hi,r⟩
 .let⟨z,a,b,c,i,hi,r⟩:=t.ci x j f h;show⟨z,a,b,c,i,acX hi,r⟩
structure Dk(K:Zj)(x qual:Str)(st:ZM)(a:ZB)(fd:ZW):Prop where
 F:Fun K x qual st a fd
 b:∀(kV doc pm:ZE) (an:Option ZB) (cdv ct:ZE) (us:Zh),us.length=(fO st).length->aiO (aid x qual (fw st) (bW st) (aq st) .none kV doc pm an cdv ct) ⟨us,[]⟩=pure ((fO st).zip us)
 o:vt st=true
def Dk.ok(d:Dk K x qual st a fd)(t:TOk T P w K mg base k)(e:cH T st=f)(hj:(fO st).length=j):Zs P w K mg base my (k+1) a fd (fO st) (zf K j f)/\Binds K fd (fO st) []:=by subst e hj;show⟨Wp d.F t d.o,d.F.binds d.b⟩
def TOk.fnA(t:TOk T P w K mg base k)(d:Dk K x qual st a fd)(hm:mg x=some (.ref a))(e:cH T st=f)(hj:(fO st).length=j):TOk (T.fnA x j f) P w K mg base<|k+1:=by
 let⟨h1,h2⟩:=d.ok t e hj;split { t.up with fn:=λy i g q=>?_ };rcases aE q with ⟨rfl,q1⟩|q1
 .ext q1;show⟨a,fd,_,_,_,[],[],aaq _,h1,h2,.nil,hm,d.F.kp,λvs H Q q=>by rw[abf];show q⟩
 .exact t.up.fn y i g q1
def TOk.meA(t:TOk T P w K mg base k){Ns:Zl}(d:Dk K x qual st a fd)(hm:kR K Ns λC=>Cls K C/\Meth K C x a)(e:cH T st=f)(hj:(fO st).length=j):TOk (T.meA x Ns j f) P w K mg base<|k+1:=by
 let⟨h1,h2⟩:=d.ok t e hj;split { t.up with me:=λy N i g q=>?_ };rcases aE q with ⟨rfl,q1⟩|q1
 .ext q1;show⟨a,fd,_,_,aaq _,h1,h2,hm⟩
 .exact t.up.me y N i g q1
def TOk.mxA(t:TOk T P w K mg base k) (d:Dk K x qual st a fd)(hn:agA K ZK y=some (some<|.ref C))(hk:Mk K C a)(hm:mg y=some (.ref C))(e:cH T st=f)(hj:(fO st).length=j):TOk (T.mxA y j f) P w K mg base<|k+2:=by
 let⟨h1,h2⟩:=d.ok t e hj;split { t.up.up with mx:=λz i g q=>?_ };rcases aE q with ⟨rfl,q1⟩|q1
 .ext q1;show⟨C,a,fd,_,_,aaq _,h1,h2,hn,hk,hm⟩
 .exact t.up.up.mx z i g q1
def TOk.ciA(t:TOk T P w K mg base k) (d:Dk K x qual st a fd)(hk:ClsFn K C "__init__" a) (hm:mg y=some (.ref C)) (e:cH T st=f) (hj:(fO st).length=j):TOk (T.ciA y j f) P w K mg base<|k+1:=by
 let⟨h1,h2⟩:=d.ok t e hj;split { t.up with ci:=λz i g q=>?_ };rcases aE q with ⟨rfl,q1⟩|q1
 .ext q1;show⟨C,a,fd,_,_,aaq _,h1,h2,hk,hm⟩
 .exact t.up.ci z i g q1
end
abbrev cb:XT:=λ_ A=>some (true,A)
@[simp]abbrev kZ(a b:Nat):XG:=nS 2<|bR (au a)<|bR (au b) nR
@[simp]abbrev Bv(a b c:Nat):XG:=nS 3<|bR (au a)<|bR (au b)<|bR (au c) nR
abbrev XR:=XX Str
abbrev HR:=Zc->Hh->Option (Str×Hh)
def Ex(K:Zj)(m:Zk)(H:Hp)(A':Hh)(E:XK)(N:Str):Prop:=∀C m' H',Up m m' H H'->R K m' A' H'->agA K ZK N=some (some<|.ref C)->E (.ref C) none H'
def SR(K:Zj)(E:XK){β:Type}(t:TX β)(x:XR):Prop:=∀m A H U Z (Q:β->Hp->Prop) N A',Envs K m H U Z->R K m A H->x U A=some (N,A')->Ex K m H A' E N->t Z H Q
def BG(K:Zj)(E:XK)(t:TS)(x:XR):Prop:=∀m A H U Z (D:Ends) N A',Envs K m H U Z->R K m A H->x U A=some (N,A')->Ex K m H A' E N->t D Z H
def UH(K:Zj)(j:Nat)(g:HR):Sp:=λvs H _ E=>vs.length=j/\∃m A ds N A',R K m A H/\Zo K m H ds vs/\g ds A=some (N,A')/\Ex K m H A' E N
def kO(N:Str)(a:XE):XR:=λU A=>(a U A).map λp=>(N,p.2)
def iz(j:Nat)(g:HR)(a:XA):XR:=λU A=>(a U A).bind λp=>if p.1.length=j then g p.1 p.2 else none
def gY(Ns:Zl)(m:Str)(j:Nat)(g:HR)(o:XE)(a:XA):XR:=λU A=>(o U A).bind λd=>(pG d.2 d.1).bind λp=>if p.1∈Ns/\p.2.lookup m=none then (a U d.2).bind λq=>if (d.1::q.1).length=j then g (d.1::q.1) q.2 else none else none
def mw{O:Type}(a:XX O)(r:XR):XR:=λU A=>(a U A).bind λp=>r U p.2
def Kt(kd:Hh->D->Bool)(a:XE)(r:XR):XR:=λU A=>(a U A).bind λp=>if kd p.2 p.1=true then r U p.2 else none
def dj(r s:XR):XR:=λU A=>(r U A).or<|s U A
def k6(c:XT)(a b:XR):XR:=λU A=>(c U A).bind λq=>if q.1=true then a U q.2 else b U q.2
def cE(r:XR)(x:XS)(k:XR):XR:=λU A=>(r U A).or<|(x U A).bind λp=>p.1.isNx.bind λU1=>k U1 p.2
def x9(g:XG)(r:XR)(b:XS)(w:Wk):Nat->Nat->XR
 |0,_=>λ_ _=>none
 |f+1,i=>λU A=>(w.stp i A).bind λs=>s.bind λx=>(g x U A).bind λp=>(r p.1 p.2).or<|(b p.1 p.2).bind λo=>o.1.isNx.bind λU2=>x9 g r b w f (i+1) U2 o.2
def uS(a:XI)(g:XG)(r:XR)(b:XS):XR:=λU A=>(a U A).bind λp=>x9 g r b p.1 (p.1.len p.2+1) 0 U p.2
def iI(g:XG)(c:XT)(r:XR)(a:XE)(w:Wk)(n:Nat)(U:Env):Nat->Nat->Hh->Option (Str×Hh)
 |0,_,_=>none
 |f+1,i,A=>(w.stp i A).bind λs=>s.bind λx=>(g x U A).bind λp=>(c p.1 p.2).bind λq=>if q.1=true then (r p.1 q.2).or ((a p.1 q.2).bind λs=>(mm s.2 (.ref n) λl=>if l.length<ZF then some (l++[s.1],.N) else none).bind λt=>iI g c r a w n U f (i+1) t.2)
   else iI g c r a w n U f (i+1) q.2
def mq(js:List<|Option Nat)(a:XI)(g:XG)(c:XT)(r:XR)(e:XE):XR:=λU A=>(a U A).bind λp=>iI g c r e p.1 p.2.length (iq js U) (p.1.len p.2+1) 0<|p.2++[.L []]
section
variable {K:Zj}{m m':Zk}{A A':Hh}{H H':Hp}{E:XK}{N:Str}{te:TE}{ta:TA}{a:XE}{xa:XA}{tc:TT}{c:XT}{t u:TS}{x:XS}{r s:XR}{j:Nat}{g:HR}{ti:TI}{xi:XI}{tg:TG}{k:XG}
def Ex.up(u:Up m m' H H')(h:Ex K m H A' E N):Ex K m' H' A' E N:=λC _ _ u2=>h C _ _<|u.trans u2
def Ng(h:SE K te a):BG K E (JL K N te E)<|kO N a:=λm A H U Z D M A' e w q n C hC=>by let⟨⟨d,A1⟩,q1,q⟩:=dD q;ext q;show h m A H U Z _ d A1 e w q1 λm' H' v u w' _=>⟨rfl,n C m' H' u w' hC⟩
def IR(h:SA K ta xa):SR K E (sB (UH K j g) [] E ta)<|iz j g xa:=λm A H U Z Q M A' e w q n=>by
 let⟨⟨l,A1⟩,q1,q⟩:=bnd q;rcases bf q with ⟨hj,q⟩|⟨_,q⟩
 .exact h m A H U Z _ l A1 e w q1 λm' H' vs u w' dv=>by rw[abf];show⟨dv.length▸hj,m',A1,l,M,A',w',dv,q,n.up u⟩
 .ext q
def AO{Ns:Zl}{mn:Str}(ho:SE K te a)(h:SA K ta xa):SR K E (Bd K Ns mn (UH K j g) E te ta)<|gY Ns mn j g a xa:=λm A H U Z Q M A' e w q n=>by
 let⟨⟨d,A1⟩,q1,q⟩:=bnd q;let⟨⟨Nm,fs⟩,q2,q⟩:=bnd q;rcases bf q with ⟨hN,q⟩|⟨_,q⟩<;>try (ext q;done)
 split ho m A H U Z _ d A1 e w q1 λm1 H1 v u1 w1 dv=>?_;let⟨k,p,C,dx,ws,rfl,a1,a2,rfl,a3,a4,a5⟩:=vR w1 dv q2;let⟨⟨l,A2⟩,q3,q⟩:=bnd q;rcases bf q with ⟨hj,q⟩|⟨_,q⟩<;>try (ext q;done)
 split⟨p,C,dx,ws,⟨rfl,⟨Nm,hN.1,a3⟩,a4⟩,a5.look.2 hN.2,h m1 A1 H1 U Z _ l A2 (e.up u1) w1 q3 λm2 H2 vs u2 w2 dl=>?_⟩;show⟨by rw[aay,<-dl.length];show hj,m2,A2,_,M,A',w2,.cons (dv.up u2) dl,q,n.up<|u1.trans u2⟩
def Tt(h:SR K E te r):SR K E (lu te ta) r:=λm A H U Z _=>h m A H U Z _
def abA(h:SE K te a)(k:SR K E ta r):SR K E (lu te ta)<|mw a r:=λm A H U Z Q M A' e w q n=>by let⟨⟨d,A1⟩,q1,q⟩:=bnd q;show h m A H U Z _ d A1 e w q1 λm' H' v u w' _=>k m' A1 H' U Z _ M A' (e.up u) w' q<|n.up u
def abx{kd:Hh->D->Bool}(hc:∀m A H d v,R K m A H->Den K m H d v->kd A d=true->KG K T v H)(h:SE K te a)(k:SR K E ta r):SR K E (tBM K T q te ta)<|Kt kd a r:=λm A H U Z Q M A' e w q n=>by
 let⟨⟨d,A1⟩,q1,q⟩:=bnd q;rcases bf q with ⟨hk,q⟩|⟨_,q⟩
 .exact h m A H U Z _ d A1 e w q1 λm' H' v u w' dv=>⟨hc _ _ _ _ _ w' dv hk,k m' A1 H' U Z _ M A' (e.up u) w' q<|n.up u⟩
 .ext q
def Yg(h:SR K E ta r):SR K E (UQ ta) r:=λm A H U Z _=>h m A H U Z _
def To{sp:Sp}{dvs:Za} (h:SR K E ta r):SR K E (sB sp dvs E' ta) r:=λm A H U Z _=>h m A H U Z _
def XY{β:Type}{y z:TX β}(h:SR K E y r)(k:SR K E z s):SR K E (λZ H Q=>y Z H Q\/z Z H Q)<|dj r s:=λm A H U Z Q M A' e w q n=>by
 rcases aK q with q|q
 .exact .inl<|h m A H U Z Q M A' e w q n
 .exact .inr<|k m A H U Z Q M A' e w q n
def IQ(h:SR K E te r):BG K E (yM te tg) r:=λm A H U Z _=>h m A H U Z _
def Tq(h:SR K E te r):BG K E (JH te) r:=λm A H U Z _=>h m A H U Z _
def Yb(h:SR K E te r):BG K E (UP te) r:=λm A H U Z _=>h m A H U Z _
def aby(h:ST K tc c)(a:BG K E t r)(b:BG K E u s):BG K E (UO tc t u)<|k6 c r s:=λm A H U Z D M A' e w q n=>by
 let⟨⟨b0,A1⟩,q1,q⟩:=bnd q;split h m A H U Z _ b0 A1 e w q1 λm' H' v u w' eb=>?_;subst eb;rcases bf q with ⟨hb,q⟩|⟨hb,q⟩
 .rw[aac hb];show a m' A1 H' U Z D M A' (e.up u) w' q<|n.up u
 .rw[aad hb];show b m' A1 H' U Z D M A' (e.up u) w' q<|n.up u
def Yc{t1 t2:TS}(h:BG K E t1 r)(h2:SS K t2 x)(k:BG K E u s):BG K E (NM (Fm t1 t2) u)<|cE r x s:=λm A H U Z D M A' e w q n=>by
 rcases aK q with q|q
 .exact .inl<|h m A H U Z _ M A' e w q n
 .let⟨⟨o1,A1⟩,q1,q⟩:=bnd q;let⟨U1,q2,q⟩:=bnd q;cases o1 with
  |nx U2=>ext q2;show .inr<|h2 m A H U Z _ _ A1 e w q1 λm' H' Z' u w' e'=>k m' A1 H' U1 Z' D M A' e' w' q<|n.up u
  |rt d=>ext q2
def X0{t1 t2:TS}(hi:SI K ti xi)(hg:SG K tg k)(hr:BG K E t1 r)(hb:SS K t2 x):BG K E (UN ti tg<|Fm t1 t2)<|uS xi k r x:=λm A H U Z D M A' e w q n=>by
 let⟨⟨wk,A0⟩,q0,q⟩:=bnd q;split hi m A H U Z _ wk A0 e w q0 λm' H' J u0 w' wl=>?_
 let W (i f:Nat) (Z:St) (H:Hp):Prop:=∃m A U,Wlk K m H wk J/\Envs K m H U Z/\R K m A H/\x9 k r x wk f i U A=some (M,A')/\Ex K m H A' E M
 split⟨W,⟨_,m',A0,U,wl,e.up u0,w',q,n.up u0⟩,?_⟩;rintro i f Z H ⟨m,A,U,wl,e,w,q,n⟩;cases f with
 |zero=>ext q
 |succ f=>
  unfold x9 at q;let⟨w1,w2⟩:=wl m A H i .refl w;let⟨s0,qs,q⟩:=bnd q;cases s0 with
  |none=>ext q
  |some x0=>
  let⟨h1,h2⟩:=w2 x0 qs;let⟨⟨U1,A1⟩,q1,q⟩:=bnd (a:=k x0 U A) q;split .inr ⟨h1,W (i+1) f,λZ' H' h=>⟨f,abo f,h⟩,λv H' y=>?_⟩;let⟨u,w,dv⟩:=h2 v H' y;split hg m A H' U Z _ x0 v U1 A1 (e.up u) w dv q1 λm1 H1 Z1 u1 w1 e1=>?_;have u:=u.trans u1;rcases aK q with q|q
  .exact .inl<|hr m1 A1 H1 U1 Z1 _ M A' e1 w1 q<|n.up u
  .let⟨⟨o1,A2⟩,q2,q⟩:=bnd q;let⟨U2,q3,q⟩:=bnd q;split .inr<|hb m1 A1 H1 U1 Z1 _ o1 A2 e1 w1 q2 ?_;cases o1 with
   |nx U3=>ext q3;show λm' H' Z' u2 w e=>⟨m',A2,U2,wl.up<|u.trans u2,e,w,q,n.up<|u.trans u2⟩
   |rt d=>ext q3
def Tp{js:List<|Option Nat}{t1 t2:TE}(hi:SI K ti xi)(hg:SG K tg k)(hc:ST K tc c)(hr:SR K E t1 r)(ha:SE K t2 a):SR K E (uK js ti tg tc<|tEi t1 t2)<|mq js xi k c r a:=λm A H U Z Q M A' e w q n=>by
 let⟨⟨wk,A0⟩,q0,q⟩:=bnd q;split hi m A H U Z _ wk A0 e w q0 λm H J ui w wl=>?_;have e:=e.up ui;have n:=n.up ui;intro p hp;let⟨w0,u0,d0⟩:=w.new (o:=.L []) (b:=.L []) hp λu=>⟨[],aH,.nil⟩
 let⟨_,e0,hm⟩:=d0.ref_;ext e0
 let W (i f:Nat) (H':Hp):Prop:=∃m' A1,Up (m++[p]) m' (upd H p<|.L []) H'/\R K m' A1 H'/\iI k c r a wk A0.length (iq js U) f i A1=some (M,A')
 split⟨W,⟨_,_,_,.refl,w0,q⟩,?_⟩;rintro i f H1 ⟨m1,A1,u1,w1,q⟩;cases f with
 |zero=>ext q
 |succ f=>
  unfold iI at q;have u01:=u0.trans u1;let⟨s1,s2⟩:=wl m1 A1 H1 i u01 w1;let⟨s0,qs,q⟩:=bnd q;cases s0 with
  |none=>ext q
  |some x0=>
  let⟨h1,h2⟩:=s2 x0 qs;split .inr ⟨h1,λv H2 y=>?_⟩;let⟨u2,w2,dv⟩:=h2 v H2 y;let⟨⟨U1,A3⟩,q1,q⟩:=bnd (a:=k x0 (iq js U) A1) q;let⟨⟨b,A4⟩,q2,q⟩:=bnd q;split hg m1 A1 H2 _ _ _ x0 v U1 A3 (e.innr.up<|u01.trans u2) w2 dv q1 λm3 H3 Z3 u3 w3 e3=>hc m3 A3 H3 U1 Z3 _ b A4 e3 w3 q2 λm4 H4 b' u4 w4 eb=>?_;have u24:=(u1.trans u2).trans<|u3.trans u4;subst eb;rcases bf q with ⟨hb,q⟩|⟨hb,q⟩
  .rw[aac hb];rcases aK q with q|q
   .exact .inl<|hr m4 A4 H4 U1 Z3 _ M A' (e3.up u4) w4 q<|n.up<|u0.trans u24
   .let⟨⟨d,A5⟩,q3,q⟩:=bnd q;let⟨⟨z,A6⟩,q4,q⟩:=bnd q;split .inr<|ha m4 A4 H4 U1 Z3 _ d A5 (e3.up u4) w4 q3 λm5 H5 y u5 w5 dy=>?_;let⟨p',l,xs,k',e0,g1,g2,g3,g4⟩:=kM (Q:=λ_ H=>W (i+1) f H) w5 (.ref<|ai (u24.trans u5).1 hm) q4 λm' H' _ u w _=>⟨m',A6,(u24.trans u5).trans u,w,q⟩
    ext e0;let⟨hl,g3⟩:=aC g3;ext g3;show⟨xs,g1,g2.length▸hl,f,abo f,g4 _ _ (g2.append<|.cons dy .nil)<|.at rfl⟩
  .rw[aad hb];show⟨f,abo f,m4,A4,u24,w4,q⟩
end
structure TR where
 fn:List<|Str×Nat×HR
 me:List<|Str×Zl×Nat×HR
 ex:Zl
def Yh:ZM->Option (Str×ZA)
 |.Raise (some (.Call (.Name x _) [e] [] _)) none _=>some (x,e)
 |_=>none
section
variable (T:Tab)(V:TR)(c:Cp)(Γ:Ct)
def rcN(x:Str)(as:List ZA):XR:=if glb Γ x=true then (V.fn.lookup x).elim ac λq=>iz q.1 q.2 (VN c Γ as) else ac
def rcM(p:ZA×Str×Pos)(as:List ZA)(cp:Pos):XR:=if p.2.2.endLine=cp.line/\fZ p.1=true/\as.length<20 then (V.me.lookup p.2.1).elim ac λq=>gY q.1 p.2.1 q.2.1 q.2.2 (c.E Γ p.1) (VN c Γ as) else ac
def rC(e:ZA):XR:=match e with
 |.Call f as ks cp=>if ks.length=0/\as.all aY=true then (EM f).elim ((N8 f).elim ac λp=>rcM V c Γ p as cp) λx=>rcN V c Γ x as else ac
 |_=>ac
def TN(el tg it:ZA)(ifs:List ZA)(scope:ZS):XR:=if sU Γ scope=true/\c8 it=true then mq (BN Γ.N scope) (Kl c Γ tg it) (JN (rg Γ scope) tg) (Rp c (rg Γ scope) ifs) (rC V c (rg Γ scope) el) (c.E (rg Γ scope) el) else ac
def rK(e:ZA):XR:=(OX e).elim ac λp=>TN V c Γ p.1 p.2.1.1 p.2.1.2.1 p.2.1.2.2 p.2.2
def rX(e:ZA):XR:=dj (rC V c Γ e)<|rK V c Γ e
def rT:List ZA->XR
 |[]=>ac
 |e::l=>if aY e=true then dj (rC V c Γ e) (mw (c.E Γ e)<|rT l) else ac
def rG1(f a:ZA)(cp:Pos):XR:=(EM f).elim ((N8 f).elim ac λp=>if p.2.1="extend" /\ p.2.2.endLine=cp.line/\fZ p.1=true then Kt jD (c.E Γ p.1) (rX V c Γ a) else ac) λx=>if glb Γ x=true/\(T.fn.lookup x).isSome=true then rX V c Γ a else ac
def rG(e:ZA):XR:=match e with
 |.Call f as ks cp=>if ks.length=0/\as.all aY=true/\as.length=1 then as.head?.elim ac λa=>rG1 T V c Γ f a cp else ac
 |.Tuple es _ _=>rT V c Γ es
 |_=>ac
def rE(e:ZA):XR:=dj (rX V c Γ e)<|rG T V c Γ e
end
structure VOk(V:TR)(P:ZL)(w:ZI)(K:Zj)(mg:Zg)(base:ZH)(k:Nat):Prop where
 fn:∀x j g,V.fn.lookup x=some (j,g)->∃a fd ps i,i<=k/\Zs P w K mg base (qf P w) i a fd ps (UH K j g)/\Binds K fd ps []/\mg x=some (.ref a)/\ahi K (.ref a)=true
 me:∀m Ns j g,V.me.lookup m=some (Ns,j,g)->∃a fd ps i,i<=k/\Zs P w K mg base (qf P w) i a fd ps (UH K j g)/\Binds K fd ps []/\kR K Ns λC=>Cls K C/\Meth K C m a
 ex:∀N∈V.ex,∃C,agA K ZK N=some (some<|.ref C)/\aiy K C bmV "ValueError.__new__"=true/\mg N=some (.ref C)
structure Gr(T:Tab)(V:TR)(k:Nat)(Γ:Ct)(X:Cx)(E:XK):Prop where
 g:Gd T k Γ X.nox
 v:VOk V X.p X.w X.K X.mg X.ba k
 p:dF (qf X.p X.w) X E
 z:zi X E
 l:FJ X E
 h:X.A.handled=none
 e:X.ex=[]
 s:X.t=X.e::X.o
 f:X.e.frame=some X.e.locals
 o:aiF (ZJ X.p X.w) X.A X.e X.xe
def zb(X:Cx)(E:XK)(e:ZA)(x:XR):Prop:=∃t,PE X e t/\SR X.K E t x
section
variable {T:Tab}{V:TR}{k:Nat}{c:Cp}{Γ:Ct}{X:Cx}{e:ZA}{E:XK}
def PA.nox{es:List ZA} (h:PA X.nox es t):PA X es t:=λp Zx s Z H Q I hw=>
 aaO (h p Zx s Z H Q (I.wish _) hw) (λ_ _ ⟨v,H',I',r,q⟩=>⟨v,H',I'.unwish,r,q⟩) λ_ _ z=>agy z
def PS.nox{st:ZM} (h:PS X.nox st t):PS X st t:=λZx s Z H D I hw=>
 aaO (h Zx s Z H D (I.wish _) hw) (λ_ _ q=>q.unwish) λ_ _ z=>agy z
def PG.nox(h:PG X.nox e t):PG X e t:=λZx s Z H v u Q I r hw=>
 aaO (h Zx s Z H v u Q (I.wish _) r hw) (λ_ _ ⟨Z',H',I',q⟩=>⟨Z',H',I'.unwish,q⟩) λ_ _ z=>agy z
def PIf.nox{e:List ZA}{t:VI}(h:PIf X.nox e t):PIf X e t:=λZx s Z H Q I hw=>
 aaO (h Zx s Z H Q (I.wish _) hw) (λ_ _ ⟨H',I',q⟩=>⟨H',I'.unwish,q⟩) λ_ _ z=>agy z
def PI.nox{tg:ZA} (h:PI X.nox tg e t):PI X tg e t:=λZx s Z H Q I hw=>
 aaO (h Zx s Z H Q (I.wish _) hw) (λ_ _ z=>aaO z (λ_ _ ⟨it,fp,tn,J,H',e,I',q⟩=>⟨it,fp,tn,J,H',e,I'.unwish,q⟩) λ_ _ z=>agy z) λ_ _ z=>agy z
def hJ:zb X E e ac:=⟨λ_ _ _=>False,λ_ _ _ _ _ _ h=>h.elim,λ_ _ _ _ _ _ _ _ _ _ q=>nomatch q⟩
def Oo(h:zb X E e r)(h2:zb X E e s):zb X E e<|dj r s:=by let⟨_,a1,a2⟩:=h;let⟨_,b1,b2⟩:=h2;show⟨_,Ii a1 b1,XY a2 b2⟩
def vH(h:COk T k c)(g:Gd T k Γ X.nox)(v:VOk V X.p X.w X.K X.mg X.ba k)(p:dF (qf X.p X.w) X E):zb X E e<|rC V c Γ e:=by
 cases e with
 |Call f as ks cp=>
  show zb X E _ (if ks.length=0/\as.all aY=true then (EM f).elim ((N8 f).elim ac λp=>rcM V c Γ p as cp) λx=>rcN V c Γ x as else ac);by_cases h0:ks.length=0/\as.all aY=true
  .rw[aac h0];let⟨h0,hs⟩:=h0;cases abu h0;cases hn:EM f with
   |some x=>
    let⟨np,rfl⟩:=ki hn;show zb X E _<|rcN V c Γ x as;unfold rcN;by_cases hx:glb Γ x=true
    .rw[aac hx];let⟨g1,g2,g3⟩:=g.glb hx;cases hf:V.fn.lookup x with
     |none=>show hJ
     |some q=>
      let⟨a,fd,ps,i,hi,F,hb,hm,hk⟩:=v.fn x q.1 q.2 hf;cases as with
      |nil=>show⟨_,yw F (g.room.mono hi) g1 hm hk hb .nil p g2,IR uE⟩
      |cons e es=>let⟨t,a1,a2⟩:=h.A Γ X.nox (e::es) g;have h1:=iU hs _ _ rfl;show⟨_,wv F (g.room.mono hi) g1 hm hk hb .nil p (PA.nox a1) g2 (bp h1.1)<|cN h1.2,IR a2⟩
    .rw[aad hx];show hJ
   |none=>
    cases ha:N8 f with
    |none=>show hJ
    |some q=>
     let⟨o,m,ap⟩:=q;cases f<;>ext ha;show zb X E _<|rcM V c Γ (o,m,ap) as cp;unfold rcM;by_cases hc:ap.endLine=cp.line/\fZ o=true/\as.length<20
     .rw[aac hc];let⟨hl,hb,hn⟩:=hc;cases hf:V.me.lookup m with
      |none=>show hJ
      |some q=>
       let⟨Ns,j,f⟩:=q;let⟨a,fd,ps,i,hi,F,hb',hcn⟩:=v.me m Ns j f hf;let⟨t,o1,o2⟩:=h.E Γ X.nox o g;cases as with
       |nil=>show⟨_,EW hcn F (g.room.mono hi) hb' p o1.nox<|kJ (X:=X) hb hl hs hn,AO o2 uE⟩
       |cons e es=>let⟨u,a1,a2⟩:=h.A Γ X.nox (e::es) g;have h1:=iU hs _ _ rfl;show⟨_,Iq hcn F (g.room.mono hi) hb' p o1.nox (PA.nox a1) (bp h1.1) (cN h1.2)<|kJ (X:=X) hb hl hs hn,AO o2 a2⟩
     .rw[aad hc];show hJ
  .rw[aad h0];show hJ
 |_=>show hJ
def Qq{O:Type}{f:O->Cx}{K:Zj}{x:XR}(hK:∀z,(f z).K=K)(h:∀z,zb (f z) E e x):∃t,(∀z,PE (f z) e t)/\SR K E t x:=
 ⟨λZ H Q=>∀z t,PE (f z) e t/\SR K E t x->t Z H Q,λz a b c d Q I q=>by
  let⟨t,h1,h2⟩:=h z
  show h1 a b c d Q I<|q z t ⟨h1,hK z▸h2⟩,λm A H U Z Q d A' e w q n z t h=>h.2 m A H U Z Q d A' e w q n⟩
abbrev QO(X:Cx)(E:XK)(scope:ZS)(z:CxZ):Cx:=(iW X (sS scope) scope z).wish<|XW X (sS scope) scope z E
def xH{tg it:ZA}{ifs:List ZA}{scope:ZS}(h:COk T k c)(g:Gr T V k Γ X E)(hc:sU Γ scope=true) :
  ∃wi gg tt te,PI X tg it wi/\(∀z,PG (QO X E scope z) tg gg)/\qj (BN Γ.N scope) gg/\(∀z,PIf (QO X E scope z) ifs tt)/\(∀z,PE (QO X E scope z) el te) /\
   SR X.K E (uK (BN Γ.N scope) wi gg tt te) (mq (BN Γ.N scope) (Kl c Γ tg it) (JN (rg Γ scope) tg) (Rp c (rg Γ scope) ifs) (rC V c (rg Γ scope) el)<|c.E (rg Γ scope) el):=by
 let⟨_,nd⟩:=tX hc;let⟨wi,gg,tt,i1,i2,g1,g3,g2,t1,t2⟩:=BO (tg:=tg) (it:=it) (ifs:=ifs) h g.g nd;let⟨te,e1,e2⟩:=FU (f:=iW X.nox (sS scope) scope) (K:=X.K) (λ_=>rfl) λz=>h.E _ _ el<|g.g.inn nd z;let⟨tr,r1,r2⟩:=Qq (f:=QO X E scope) (K:=X.K) (E:=E) (e:=el) (x:=rC V c (rg Γ scope) el) (λ_=>rfl) λz=>vH h (g.g.inn nd z) g.v λpl Z1 H1 s1 v s' I1 hx=>⟨pl,Z1,H1,s1,I1.unwish,hx⟩
 show⟨wi,gg,tt,tEi tr te,PI.nox i1,λz=>PG.nox (X:=QO X E scope z)<|g1 z,g3,λz=>PIf.nox (X:=QO X E scope z)<|t1 z,λz=>Ii (r1 z)<|PE.nox (X:=QO X E scope z)<|e1 z,Tp i2 g2 t2 r2 e2⟩
def BS{tg it el:ZA}{ifs:List ZA}{scope:ZS}{pos:Pos}(h:COk T k c)(g:Gr T V k Γ X E):zb X E (.ListComp el [⟨tg,it,ifs,0⟩] scope pos)<|TN V c Γ el tg it ifs scope:=by
 unfold TN;by_cases hc:sU Γ scope=true/\c8 it=true
 .rw[aac hc];let⟨wi,gg,tt,te,i1,g1,g2,t1,e1,s⟩:=xH (el:=el) (tg:=tg) (it:=it) (ifs:=ifs) h g hc.1;show⟨_,CB (λ_ _=>Ox g.l g.e g.s g.f) (tX hc.1).1 i1 g1 g2 t1 e1 g.g.N g.g.sc g.g.calm<|kB hc.2,s⟩
 .rw[aad hc];show hJ
def Wi(h:COk T k c)(g:Gr T V k Γ X E):zb X E e<|rX V c Γ e:=by
 split Oo (vH h g.g g.v g.p) ?_;unfold rK;cases hl:OX e with
 |none=>show hJ
 |some z=>let⟨q,rfl⟩:=Ao hl;show BS h g
theorem Wh(h:COk T k c)(g:Gr T V k Γ X E):∀es,∃t,PA X es t/\SR X.K E t (rT V c Γ es)
 |[]=>⟨λ_ _ _=>False,λ_ _ _ _ _ _ _ h=>h.elim,λ_ _ _ _ _ _ _ _ _ _ q=>nomatch q⟩
 |e::l=>by
  show ∃t,PA X (e::l) t/\SR X.K E t (if aY e=true then dj (rC V c Γ e) (mw (c.E Γ e)<|rT V c Γ l) else ac);by_cases hs:aY e=true
  .rw[aac hs];let⟨tl,l1,l2⟩:=Wh h g l;let⟨te,a1,a2⟩:=vH (e:=e) h g.g g.v g.p;let⟨tt,b1,b2⟩:=h.E Γ X.nox e g.g;have pa:PA X (e::l)<|λZ H Q=>lu te tl Z H Q\/lu tt tl Z H Q:=λp Zx s Z H Q I q=>q.elim (eZ a1 l1 (bp hs) p Zx s Z H Q I)<|eZ b1.nox l1 (bp hs) p Zx s Z H Q I;show⟨_,pa,XY (Tt a2)<|abA b2 l2⟩
  .rw[aad hs];show⟨λ_ _ _=>False,λ_ _ _ _ _ _ _ h=>h.elim,λ_ _ _ _ _ _ _ _ _ _ q=>nomatch q⟩
def Rf(h:COk T k c)(g:Gr T V k Γ X E):zb X E e<|rE T V c Γ e:=by
 split Oo (Wi h g) ?_;cases e with
 |Tuple es n p=>
  let⟨_,a1,a2⟩:=Wh h g es;show⟨_,Iv a1,Yg a2⟩
 |Call f as ks cp=>
  show zb X E _ (if ks.length=0/\as.all aY=true/\as.length=1 then as.head?.elim ac λa=>rG1 T V c Γ f a cp else ac);by_cases h0:ks.length=0/\as.all aY=true/\as.length=1
  .rw[aac h0];let⟨h0,hs,h1⟩:=h0;cases abu h0;let⟨a,rfl⟩:=kX h1;show zb X E _<|rG1 T V c Γ f a cp;unfold rG1;let⟨ta,a1,a2⟩:=Wi (e:=a) h g;have st:=iU hs _ _ rfl;have pa:=eZ a1 oH<|bp (es:=[]) st.1;cases hn:EM f with
   |some x=>
    let⟨np,rfl⟩:=ki hn;show zb X E _ (if glb Γ x=true/\(T.fn.lookup x).isSome=true then rX V c Γ a else ac);by_cases hx:glb Γ x=true/\(T.fn.lookup x).isSome=true
    .rw[aac hx];let⟨g1,g2,g3⟩:=g.g.glb hx.1;let⟨q,hf⟩:=acp.1 hx.2;let⟨a,fd,ps,i,sp,dvs,ds,hi,F,hb,hd,hm,hk,hs⟩:=g.g.tb.fn x q.1 q.2 hf;show⟨_,wv F (g.g.room.mono hi) g1 hm hk hb hd pe pa g2 (bp st.1)<|cN st.2,To<|Tt a2⟩
    .rw[aad hx];show hJ
   |none=>
    cases ha:N8 f with
    |none=>show hJ
    |some q=>
     let⟨o,m,ap⟩:=q;cases f<;>ext ha;show zb X E _ (if m="extend" /\ ap.endLine=cp.line/\fZ o=true then Kt jD (c.E Γ o) (rX V c Γ a) else ac);by_cases hc:m="extend" /\ ap.endLine=cp.line/\fZ o=true
     .rw[aac hc];let⟨rfl,hl,hb⟩:=hc;let⟨_,o1,o2⟩:=h.E Γ X.nox o g.g;show⟨_,Pe adj agj agk Cu o1.nox pa (Zt hb) (Rh hs<|by show 1<20;decide) (pP hl) (bp st.1)<|cN st.2,abx om o2<|Tt a2⟩
     .rw[aad hc];show hJ
  .rw[aad h0];show hJ
 |_=>show hJ
end
section
variable (T:Tab)(V:TR)(c:Cp)(B:Ct->List ZM->XR)(Γ:Ct)
def raX(p:Str×ZA):XR:=if glb Γ p.1=true/\p.1∈V.ex/\aY p.2=true then kO p.1 (c.E Γ p.2) else ac
def rsA(t e:ZA):XR:=if (Bf Γ t).isSome=true then (OX e).elim (if bX e=true then rE T V c Γ e else ac) λp=>TN V c Γ p.1 p.2.1.1 p.2.1.2.1 p.2.1.2.2 p.2.2 else ac
def rS(st:ZM):XR:=match st with
 |.Expr e _=>if bX e=true then rE T V c Γ e else ac
 |.Return o _=>o.elim ac<|rE T V c Γ
 |.If t a b _=>k6 (c.C Γ t) (B Γ a)<|B Γ b
 |.Assign ts e _=>if ts.length=1 then ts.head?.elim ac λt=>rsA T V c Γ t e else ac
 |.For tg it body els _=>if els.length=0/\c8 it=true then uS (Kl c Γ tg it) (JN Γ tg) (B Γ body) (c.B Γ body) else ac
 |.Raise a b p=>(Yh<|.Raise a b p).elim ac<|raX V c Γ
 |_=>ac
def rB:List ZM->XR
 |[]=>ac
 |s::l=>if l.length=0 then rS T V c B Γ s else cE (rS T V c B Γ s) (c.S Γ s) (B Γ l)
end
def cmr(T:Tab)(V:TR)(c:Cp):Nat->Ct->List ZM->XR
 |0=>λ_ _=>ac
 |n+1=>rB T V c<|cmr T V c n
def FK(X:Cx)(E:XK)(st:ZM)(x:XR):Prop:=∃t,PS X st t/\BG X.K E t x
def OBr(X:Cx)(E:XK)(st:List ZM)(x:XR):Prop:=∃t,PSs X st t/\BG X.K E t x
section
variable {T:Tab}{V:TR}{k:Nat}{c:Cp}{Γ:Ct}{X:Cx}{e:ZA}{E:XK}{B:Ct->List ZM->XR}
def lq{st:ZM}:FK X E st ac:=⟨λ_ _ _=>False,λ_ _ _ _ _ _ h=>h.elim,λ_ _ _ _ _ _ _ _ _ _ q=>nomatch q⟩
def TK{st:ZM}{x:Str}{e:ZA}(h:Yh st=some (x,e)):∃np cp p,st=.Raise (some<|.Call (.Name x np) [e] [] cp) none p:=by unfold Yh at h;split at h<;>ext h;show⟨_,_,_,rfl⟩
def Tc{st:List ZM} (h:PSs X st t)(k:PSs X st u):PSs X st<|Fm t u:=λZx s Z H D I q=>q.elim (h Zx s Z H D I)<|k Zx s Z H D I
def UK{x:Str}{p pos:Pos}{i:Nat}(h:COk T k c)(g:Gr T V k Γ X E)(hi:Bf Γ (.Name x p)=some i):FK X E (.Assign [.Name x p] e pos)<|(OX e).elim (if bX e=true then rE T V c Γ e else ac) λp=>TN V c Γ p.1 p.2.1.1 p.2.1.2.1 p.2.1.2.2 p.2.2:=by
 let⟨_,_,e0,h1,h2⟩:=kr hi;ext e0;have nd:X.N.Nodup:=g.g.N▸g.g.nd;have hx:X.N[i]?=some x:=g.g.N▸h2;let⟨l1,l2⟩:=g.g.loc h1;cases hl:OX e with
 |some z=>
  let⟨q,rfl⟩:=Ao hl;let⟨el,⟨tg,it,ifs⟩,scope⟩:=z;show FK X E _<|TN V c Γ el tg it ifs scope;have α:=BS (el:=el) (tg:=tg) (it:=it) (ifs:=ifs) (scope:=scope) (pos:=q) h g;unfold TN at α ⊢;by_cases hc:sU Γ scope=true/\c8 it=true
  .rw[aac hc] at α ⊢;cases sw:(X.e.blockKind == .function&&X.e.kindOf x==some .local&&p.line==q.line && !(scope.names.any λ(n,k)=>n==x&&(k == .local || k == .cell))) with
   |true=>
    let⟨wi,gg,tt,te,i1,g1,g2,t1,e1,s⟩:=xH (el:=el) (tg:=tg) (it:=it) (ifs:=ifs) h g hc.1;show⟨_,CG (λ_ _=>Ox g.l g.e g.s g.f) (tX hc.1).1 nd hx l1 i1 g1 g2 t1 e1 (aaF pure sw) g.g.N g.g.sc g.g.calm (kB hc.2) l2,IQ s⟩
   |false=>let⟨_,a1,a2⟩:=α;show⟨_,sd nd hx l1 a1 (aaF pure sw) l2,IQ a2⟩
  .rw[aad hc];show lq
 |none=>
  show FK X E _ (if bX e=true then rE T V c Γ e else ac);by_cases hc:bX e=true
  .rw[aac hc];let⟨_,a1,a2⟩:=Rf (e:=e) h g;show⟨_,sd nd hx l1 a1 (ge hc) l2,IQ a2⟩
  .rw[aad hc];show lq
def UJ{st:ZM}(h:COk T k c)(g:Gr T V k Γ X E)(b:∀l,OBr X E l<|B Γ l):FK X E st<|rS T V c B Γ st:=by
 cases st with
 |Expr e p=>
  show FK X E _ (if bX e=true then rE T V c Γ e else ac);by_cases hc:bX e=true
  .rw[aac hc];let⟨_,a1,a2⟩:=Rf (e:=e) h g;show⟨_,CF a1<|ge hc,Tq a2⟩
  .rw[aad hc];show lq
 |Return o p=>
  cases o with
  |none=>show lq
  |some e=>
   let⟨_,a1,a2⟩:=Rf (e:=e) h g;show⟨_,IH a1,Yb a2⟩
 |If t a d p=>
  let⟨_,t1,t2⟩:=h.C Γ X.nox t g.g;let⟨_,a1,a2⟩:=b a;let⟨_,b1,b2⟩:=b d;show⟨_,Ph t1.nox a1 b1,aby t2 a2 b2⟩
 |Assign ts e p=>
  show FK X E _ (if ts.length=1 then ts.head?.elim ac λt=>rsA T V c Γ t e else ac);by_cases h1:ts.length=1
  .rw[aac h1];let⟨t,rfl⟩:=kX h1;show FK X E _<|rsA T V c Γ t e;unfold rsA;by_cases ht:(Bf Γ t).isSome=true
   .rw[aac ht];let⟨i,hi⟩:=acp.1 ht;let⟨x,np,rfl,_,_⟩:=kr hi;show UK h g hi
   .rw[aad ht];show lq
  .rw[aad h1];show lq
 |For tg it body els p=>
  show FK X E _ (if els.length=0/\c8 it=true then uS (Kl c Γ tg it) (JN Γ tg) (B Γ body) (c.B Γ body) else ac);by_cases hs:els.length=0/\c8 it=true
  .rw[aac hs];cases abu hs.1;let⟨_,i1,i2⟩:=HU (tg:=tg) (e:=it) h g.g;let⟨gg,g1,g2,_⟩:=AE (T:=T) (k:=k) (K:=X.K) (Γ:=Γ) (tg:=tg);let⟨_,a1,a2⟩:=b body;let⟨_,b1,b2⟩:=h.B Γ X.nox body g.g;show⟨_,IC g.o g.g.calm (PI.nox i1) (PG.nox<|g1 X.nox g.g rfl) (Tc a1 b1.nox)<|kB hs.2,X0 i2 g2 a2 b2⟩
  .rw[aad hs];show lq
 |Raise a d p=>
  show FK X E _<|(Yh<|.Raise a d p).elim ac<|raX V c Γ;cases hr:Yh (.Raise a d p) with
  |none=>show lq
  |some z=>
   let⟨x,e⟩:=z;let⟨np,cp,p',e0⟩:=TK hr;rw[e0];show FK X E _<|raX V c Γ (x,e);unfold raX;by_cases hc:glb Γ x=true/\x∈V.ex/\aY e=true
   .rw[aac hc];let⟨_,a1,a2⟩:=h.E Γ X.nox e g.g;let⟨g1,g2,g3⟩:=g.g.glb hc.1;show⟨_,IG g.z (g.v.ex x hc.2.1) g.h g1 a1.nox g2 (bp hc.2.2) rfl,Ng a2⟩
   .rw[aad hc];show lq
 |_=>show lq
theorem zB(h:COk T k c)(g:Gr T V k Γ X E):∀n l,OBr X E l (cmr T V c n Γ l)
 |0,_=>⟨λ_ _ _=>False,λ_ _ _ _ _ _ h=>h.elim,λ_ _ _ _ _ _ _ _ _ _ q=>nomatch q⟩
 |n+1,[]=>⟨λ_ _ _=>False,λ_ _ _ _ _ _ h=>h.elim,λ_ _ _ _ _ _ _ _ _ _ q=>nomatch q⟩
 |n+1,s::l=>by
  let⟨_,a1,a2⟩:=UJ (st:=s) h g<|zB h g n;cases l with
  |nil=>show⟨_,nB a1,a2⟩
  |cons s' l=>let⟨_,b1,b2⟩:=h.S Γ X.nox s g.g;let⟨_,d1,d2⟩:=zB h g n (s'::l);show⟨_,se (IB a1<|PS.nox b1) d1,Yc a2 b2 d2⟩
end
def BR(T:Tab)(V:TR)(st:ZM):HR:=λds A=>if ds.length=(fO st).length then cmr T V (La T 40) 20 ⟨zc (fO st)<|aq st,aq st,true⟩ (bW st) (ds.map some++agJ ((zc (fO st)<|aq st).length-(fO st).length) none) A else none
section
variable {T:Tab}{V:TR}{k:Nat}{P:ZL}{w:ZI}{K:Zj}{mg:Zg}{base:ZH}
def Ri{qual:Str}{st:ZM} {fd:ZW}(F:Fun K x qual st f fd)(t:TOk T P w K mg base k)(v:VOk V P w K mg base k)(h:vt st=true):Zs P w K mg base (qf P w) (k+1) f fd (fO st)<|UH K (fO st).length (BR T V st):=
 F.okX (o7 h) (λvs H Q E h=>h.1) λcdv A outer s H vs Q E hr hpt0=>by
  let⟨hl,m,A0,ds,N,A',r,dv,q,n⟩:=hpt0;have g:Gr T V k ⟨zc (fO st)<|aq st,aq st,true⟩ (il (qf P w) P w K mg base (zc (fO st)<|aq st) qual (aq st) f cdv A outer s H E) E:=
   ⟨⟨rfl,(o7 h).nd,rfl,rfl,rfl,rfl,hr,t⟩,v,Sv,Nn,Mb,hr.hd,rfl,rfl,rfl,.leaving⟩
  let⟨u,u1,u2⟩:=zB (T:=T) (V:=V) (i6 (T:=T) (k:=k) 40) g 20<|bW st;split⟨u,u1,?_⟩;rcases bf q with ⟨hj,q⟩|⟨_,q⟩
  .exact u2 m A0 H _ _ _ N A' (nL dv<|hl▸rfl) r q n
  .ext q
end
abbrev KL:=List<|Str×List (Str×Bool)
def y9(L:Zl)(i j:Nat)(r:XR)(fl:List<|List<|Str×Bool):XS:=λU A=>(r U A).bind λp=>if i<U.length/\p.1∈L then (M.uk p.1 fl).bind λbs=>if bs.length<=1000 then some (.nx<|(U.set j<|some<|.ref p.2.length).set i none,p.2++[.L<|bs.map .B]) else none else none
theorem xK{K:Zj}{m:Zk}{H:Hp}:∀bs:List Bool,Zo K m H (bs.map D.B) (bs.map V.B)
 |[]=>.nil
 |b::bs=>.cons (.at rfl)<|xK bs
section
variable {K:Zj}{te:TE}{ta:TA}{a:XE}{xa:XA}{g:HR}
def Uw{Ns:Zl}{i j jj:Nat}{mn:Str}{fl:List<|List<|Str×Bool}{tu:TS}(hij:j≠i)(ho:SE K te a)(h:SA K ta xa):SS K (PV K L i (YT K Ns mn (UH K jj g) te ta) tu<|M.Dj K i [(j,fl)])<|y9 L i j (gY Ns mn jj g a xa) fl:=λm A H U Z E o A' e w q n=>by
 let⟨⟨N,A1⟩,q1,q⟩:=bnd q;rcases bf q with ⟨⟨hi,hN⟩,q⟩|⟨_,q⟩<;>try (ext q;done)
 let⟨bs,ql,q⟩:=bnd q;rcases bf q with ⟨hb,q⟩|⟨_,q⟩<;>try (ext q;done)
 ext q;split .inl<|AO (E:=λcls _ H'=>∃N C,N∈L/\cls=.ref C/\agA K ZK N=some (some<|.ref C)/\∀e,H' e=none->M.Dj K i [(j,fl)] { nx:=λZ' H2=>E.nx (Z'.set i none) H2,rt:=λ_ _=>False } (Z.set i<|some<|.ref e) (upd H' e<|zY C e)) ho h m A H U Z (λ_ _=>False) N A1 e w q1 λC m' H' u w' hC=>⟨N,C,hN,rfl,hC,λe0 he0=>?_⟩;let⟨w1,u1⟩:=w'.tup (o:=zY C e0) he0;split M.Jc ql _ _ _ e0 C (acf<|by rw[<-e.1];show hi) aH hC ⟨by rw[aar];show aaN hb<|by rw[aaS];decide,λp hp=>?_⟩;let⟨w2,u2,d2⟩:=w1.new (p:=p) (o:=.L<|bs.map V.B) (b:=.L<|bs.map D.B) hp λ_=>⟨bs.map V.B,aH,xK bs⟩
 have u3:=(u.trans u1).trans u2;have e3:=(e.up u3).set (i:=j) d2;split n _ _ _ u3 w2 ⟨by simp[e.1],λk d hk=>?_⟩;by_cases hki:i=k
 .subst hki;rw[List.getElem?_set] at hk;split at hk<;>simp_all
 .rw[aav hki] at hk;let⟨v,h1,h2⟩:=e3.2 k d hk;split⟨v,?_,h2⟩;show (((Z.set i _).set j _).set i none)[k]?=_;rw[aav hki];by_cases hkj:j=k
  .subst hkj;have hj:j<Z.length:=by simpa using (aa0.1 h1).1
   rw[acf<|~~~hj,<-h1,acf hj]
  .rw[aav hkj,aav hki,<-h1,aav hkj]
end
def isP(y:Str):ZA->Option Str
 |.Call (.Name f _) [.Name n _,.Name C _] [] _=>if f="isinstance" /\ n=y then some C else none
 |_=>none
def isF(I:KL)(Γ:Ct)(y:Str):List ZA->Option (List<|List<|Str×Bool)
 |[]=>some []
 |e::l=>(isP y e).bind λC=>if glb Γ C=true then (I.lookup C).bind λa=>(isF I Γ y l).map λr=>a::r else none
structure Tr where
 o:ZA
 m:Str
 as:List ZA
 T:Str
 n:Str
 x:Str
 es:List ZA
def trP:ZM->Option (Tr×Pos×Pos)
 |.Try [.Expr (.Call (.Attribute o m ap) as [] cp) _] [.ExceptHandler (some (.Name T _)) (some n) [.Assign [.Name x _] (.List es _) _] _] [] [] _=>some (⟨o,m,as,T,n,x,es⟩,ap,cp)
 |_=>none
structure IOk(I:KL)(L:Zl)(T:Str)(K:Zj)(mg:Zg):Prop where
 is:∀C a,I.lookup C=some a->(∃T,mg C=some (.ref T)/\p8 K a (.ref T))\/(mg C=none/\C ≠ "__name__" /\ ∃M,agz C=some (.type M)/\p8 K a (.type M))
 c:∃T':ZB,mg T=some (.ref T')/\∀N∈L,∀C:ZB,agA K ZK N=some (some<|.ref C)->W.exmOne K (.ref C) (.ref T')=some true
section
variable {T:Tab}{k:Nat}{Γ:Ct}{X:Cx}{I:KL}{L:Zl}{Te:Str}
def Ru{C:Str} (h:isP y e=some C):∃p q r s,e=.Call (.Name "isinstance" p) [.Name y q,.Name C r] [] s:=by
 unfold isP at h;split at h<;>try (ext h;done)
 let⟨⟨rfl,rfl⟩,rfl⟩:=aC h;show⟨_,_,_,_,rfl⟩
theorem Aj{y:Str}{i:Nat}(g:Gd T k Γ X.nox)(o:IOk I L Te X.K X.mg)(hi:X.N[i]?=some y)(hv:VL X.e.scope y)(hy:Vw y=true)(gi:glb Γ "isinstance"=true) (e:ZB):∀es fl,isF I Γ y es=some fl->PA (X.hold e) es (uL X.K i fl)
 |[],fl,h=>by ext h;show oH
 |e0::l,fl,h=>by
  let⟨C,h1,h4⟩:=bnd h;let⟨p,q,r,s,rfl⟩:=Ru h1;rcases bf h4 with ⟨hc,h4⟩|⟨_,h4⟩<;>try (ext h4;done)
  let⟨a,h2,h4⟩:=bnd h4;let⟨fl',h3,h4⟩:=dD h4;ext h4;let⟨k1,k2,k3⟩:=g.glb hc;have hm:X.mg "isinstance"=none:=g.tb.bl _ ⋯;have gI:=(g.glb gi).1;have hx:PE (X.hold e) (.Name y q)<|Fo i:=Iw hi hv (oG hy).1 (oG hy).2.1;rcases o.is C a h2 with z|⟨z1,z2,M,z3,z4⟩
  .exact eZ (SC (X:=X.hold e) z gI hm k1 hx k2)<|Aj g o hi hv hy gi e l fl' h3
  .exact eZ (ML (X:=X.hold e) z1 z3 z4 gI hm k1 hx z2 k2)<|Aj g o hi hv hy gi e l fl' h3
end
section
variable (V:TR)(I:KL)(L:Zl)(Te:Str)(c:Cp)(Γ:Ct)
def UX(p:Tr×Pos×Pos):XS:=if (p.2.1.endLine=p.2.2.line/\fZ p.1.o=true/\p.1.as.all aY=true/\p.1.as.length<20/\p.1.as≠[])/\glb Γ p.1.T=true/\p.1.T=Te/\glb Γ "isinstance"=true/\(Γ.sc.names.lookup p.1.n=some .local/\Vw p.1.n=true)/\loc Γ p.1.x=true then
  (V.me.lookup p.1.m).elim ac λq=>(Hr p.1.n Γ.N).elim ac λi=>(Hr p.1.x Γ.N).elim ac λj=>(isF I Γ p.1.n p.1.es).elim ac λfl=>if j≠i then y9 L i j (gY q.1 p.1.m q.2.1 q.2.2 (c.E Γ p.1.o)<|c.A Γ p.1.as) fl else ac
 else ac
def nK(s:ZM):XS:=(trP s).elim (c.S Γ s)<|UX V I L Te c Γ
def blT:List ZM->XS
 |[]=>bx
 |s::l=>if l.length=0 then nK V I L Te c Γ s else ak (nK V I L Te c Γ s) (blT l)
end
section
variable {T:Tab}{V:TR}{k:Nat}{c:Cp}{Γ:Ct}{X:Cx}{I:KL}{L:Zl}{Te:Str}
def VO{O:Type}{f:O->Cx}{K:Zj}{es:List ZA}{x:XA}(hK:∀z,(f z).K=K)(h:∀z,OA (f z) es x):∃t,(∀z,PA (f z) es t)/\SA K t x:=
 ⟨λZ H Q=>∀z t,PA (f z) es t/\SA K t x->t Z H Q,λz p a b c d Q I q=>by
  let⟨t,h1,h2⟩:=h z
  show h1 p a b c d Q I<|q z t ⟨h1,hK z▸h2⟩,λm A H U Z Q d A' e w q n z t h=>h.2 m A H U Z Q d A' e w q n⟩
def UT{st:ZM}{p:Tr×Pos×Pos}(h:trP st=some p):∃a b d e f g i,st=.Try [.Expr (.Call (.Attribute p.1.o p.1.m p.2.1) p.1.as [] p.2.2) a] [.ExceptHandler (some<|.Name p.1.T b) (some p.1.n) [.Assign [.Name p.1.x d] (.List p.1.es e) f] g] [] [] i:=by unfold trP at h;split at h<;>ext h;show⟨_,_,_,_,_,_,_,rfl⟩
def Su{st:ZM}{p:Tr×Pos×Pos}(h:COk T k c)(g:Gd T k Γ X)(v:VOk V X.p X.w X.K X.mg X.ba k)(o:IOk I L Te X.K X.mg)(hs:X.t=X.e::X.o)(hf:X.e.frame=some X.e.locals)(hp:trP st=some p):OS X st<|UX V I L Te c Γ p:=by
 let⟨a,b,d,e,f,g',i',rfl⟩:=UT hp;let⟨⟨ob,m,as,T',n,x,es⟩,ap,cp⟩:=p;unfold UX;split
 .rename_i hc;let⟨⟨hl,hb,hst,hn,hne⟩,hT,rfl,hI,⟨hnl,hnk⟩,hx⟩:=hc;cases as with
  |nil=>show absurd rfl hne
  |cons e0 es0=>
   cases hf1:V.me.lookup m with
   |none=>show d7
   |some q=>
    let⟨Ns,jj,gg⟩:=q;cases hi:Hr n Γ.N with
    |none=>show d7
    |some i=>
     cases hj:Hr x Γ.N with
     |none=>show d7
     |some j=>
      cases hfl:isF I Γ n es with
      |none=>show d7
      |some fl=>
       show OS X _ (if j≠i then y9 L i j (gY Ns m jj gg (c.E Γ ob)<|c.A Γ (e0::es0)) fl else ac);by_cases hij:j≠i
       .rw[aac hij];let⟨ad,fd,ps,i0,hi0,F,hb',hcn⟩:=v.me m Ns jj gg hf1;have gp:∀z:Zf×(Ze),Gd T k Γ ((X.pin z.1).wish z.2).nox:=λz=>⟨g.N,g.nd,g.sc,g.fn,g.calm,rfl,g.room,g.tb⟩
        let⟨to,o1,o2⟩:=FU (f:=λz:Zf×(Ze)=>((X.pin z.1).wish z.2).nox) (K:=X.K) (e:=ob) (x:=c.E Γ ob) (λ_=>rfl) λz=>h.E _ _ ob<|gp z;let⟨ta,a1,a2⟩:=VO (f:=λz:Zf×(Ze)=>((X.pin z.1).wish z.2).nox) (K:=X.K) (es:=e0::es0) (x:=c.A Γ (e0::es0)) (λ_=>rfl) λz=>h.A _ _ (e0::es0)<|gp z;have h1:=iU hst _ _ rfl;have nd:X.N.Nodup:=g.N▸g.nd;have hi':X.N[i]?=some n:=g.N▸rp hi;have hj':X.N[j]?=some x:=g.N▸rp hj;have hn':X.e.scope.names.lookup n=some .local:=by rw[g.sc];show hnl
        let⟨l1,l2⟩:=g.loc hx;let⟨t1,t2,t3⟩:=g.glb hT;have gx:Gd T k Γ X.nox:=⟨g.N,g.nd,g.sc,g.fn,g.calm,rfl,g.room,g.tb⟩
        show⟨_,MY (L:=L) (i:=i) (ts:=M.Dj X.K i [(j,fl)]) (tu:=JK) hs hf nd hi' hn' o.c t1 (ME hcn F (g.room.mono hi0) hb' (λps W=>PE.nox (X:=(X.pin ps).wish W)<|o1 (ps,W)) (λps W=>PA.nox (X:=(X.pin ps).wish W)<|a1 (ps,W)) (bp h1.1) (cN h1.2) (kJ (X:=X) hb hl hst hn)<|ge rfl) (λps W=>nB IE)
         (λe=>(show PSs _ _ (yM (JI<|uL X.K i fl)<|hU j) from nB (sd (X:=X.hold e) nd hj' l1 (Ik<|Aj gx o hi' (.inl hn') hnk hI e es fl hfl) (ge rfl) l2))) t2 (.inr hn'),Uw hij o2 a2⟩
       .rw[aad hij];show d7
 .exact d7
theorem WP(h:COk T k c)(g:Gd T k Γ X)(v:VOk V X.p X.w X.K X.mg X.ba k)(o:IOk I L Te X.K X.mg)(hs:X.t=X.e::X.o)(hf:X.e.frame=some X.e.locals):∀l,OB X l (blT V I L Te c Γ l)
 |[]=>⟨_,CI,wG⟩
 |s::l=>by
  have a:OS X s<|nK V I L Te c Γ s:=by
   unfold nK;cases hp:trP s with
   |none=>show h.S Γ X s g
   |some p=>show Su h g v o hs hf hp
  let⟨_,a1,a2⟩:=a;cases l with
  |nil=>show⟨_,nB a1,a2⟩
  |cons s' l=>let⟨_,b1,b2⟩:=WP h g v o hs hf (s'::l);show⟨_,se a1 b1,Pz a2 b2⟩
end
def dfT(T:Tab)(V:TR)(I:KL)(L:Zl)(Te:Str)(st:ZM):HF:=bS (fO st).length (zc (fO st)<|aq st).length<|blT V I L Te (La T 40) ⟨zc (fO st)<|aq st,aq st,true⟩<|bW st
section
variable {T:Tab}{V:TR}{k:Nat}{P:ZL}{w:ZI}{K:Zj}{mg:Zg}{base:ZH}{I:KL}{L:Zl}{Te:Str}
def Rj{qual:Str}{st:ZM} {fd:ZW}(F:Fun K x qual st f fd)(t:TOk T P w K mg base k)(v:VOk V P w K mg base k)(o:IOk I L Te K mg)(h:vt st=true):Zs P w K mg base my (k+1) f fd (fO st)<|zf K (fO st).length (dfT T V I L Te st):=
 F.ok (o7 h) (λvs H Q E h=>h.1) λcdv A outer s H vs Q E hr hpt0=>by
  let⟨hl,m,A0,ds,d,A',r,dv,q,n⟩:=hpt0;have g:Gd T k ⟨zc (fO st)<|aq st,aq st,true⟩ (il my P w K mg base (zc (fO st)<|aq st) qual (aq st) f cdv A outer s H E).nox:=⟨rfl,(o7 h).nd,rfl,rfl,rfl,rfl,hr,t⟩
  let⟨u,u1,u2⟩:=WP (I:=I) (L:=L) (Te:=Te) (i6 (T:=T) (k:=k) 40) g v o rfl rfl<|bW st;split⟨u,u1,?_⟩;rcases bf q with ⟨hj,q⟩|⟨_,q⟩
  .let⟨⟨o,A1⟩,q1,q⟩:=bnd q;split u2 m A0 H _ _ _ o A1 (nL dv<|hl▸rfl) r q1 ?_;cases o with
   |rt c=>ext q;show n
   |nx U=>ext q;show λm' H' Z' u w e=>n m' H' .N u w<|.at rfl
  .ext q
end
def TR.fnA(V:TR)(x:Str)(j:Nat)(g:HR):TR:={ V with fn:=(x,j,g)::V.fn }
def TR.meA(V:TR)(x:Str)(Ns:Zl)(j:Nat)(g:HR):TR:={ V with me:=(x,Ns,j,g)::V.me }
section
variable {T:Tab}{V:TR}{k:Nat}{P:ZL}{w:ZI}{K:Zj}{mg:Zg}{base:ZH}{x qual:Str}{st:ZM}{a:ZB}{fd:ZW}{f:HF}{g:HR}{j:Nat}{I:KL}{L:Zl}{Te:Str}
def VOk.up(v:VOk V P w K mg base k):VOk V P w K mg base<|k+1:=by
 split { v with fn:=λx j f h=>?_,me:=λx N j f h=>?_ }
 .let⟨a,b,c,i,hi,r⟩:=v.fn x j f h;show⟨a,b,c,i,acX hi,r⟩
 .let⟨a,b,c,i,hi,r⟩:=v.me x N j f h;show⟨a,b,c,i,acX hi,r⟩
def Dk.okR(d:Dk K x qual st a fd)(t:TOk T P w K mg base k)(v:VOk V P w K mg base k)(e:BR T V st=g)(hj:(fO st).length=j):Zs P w K mg base (qf P w) (k+1) a fd (fO st) (UH K j g)/\Binds K fd (fO st) []:=by subst e hj;show⟨Ri d.F t v d.o,d.F.binds d.b⟩
def VOk.fnA(v:VOk V P w K mg base k)(t:TOk T P w K mg base k)(d:Dk K x qual st a fd)(hm:mg x=some (.ref a))(e:BR T V st=g)(hj:(fO st).length=j):VOk (V.fnA x j g) P w K mg base<|k+1:=by
 let⟨h1,h2⟩:=d.okR t v e hj;split { v.up with fn:=λy i g q=>?_ };rcases aE q with ⟨rfl,q1⟩|q1
 .ext q1;show⟨a,fd,_,_,aaq _,h1,h2,hm,d.F.kp⟩
 .exact v.up.fn y i g q1
def VOk.meA(v:VOk V P w K mg base k)(t:TOk T P w K mg base k){Ns:Zl}(d:Dk K x qual st a fd)(hm:kR K Ns λC=>Cls K C/\Meth K C x a)(e:BR T V st=g)(hj:(fO st).length=j):VOk (V.meA x Ns j g) P w K mg base<|k+1:=by
 let⟨h1,h2⟩:=d.okR t v e hj;split { v.up with me:=λy N i g q=>?_ };rcases aE q with ⟨rfl,q1⟩|q1
 .ext q1;show⟨a,fd,_,_,aaq _,h1,h2,hm⟩
 .exact v.up.me y N i g q1
def TOk.fnT(t:TOk T P w K mg base k)(v:VOk V P w K mg base k)(o:IOk I L Te K mg)(d:Dk K x qual st a fd)(hm:mg x=some (.ref a))(e:dfT T V I L Te st=f)(hj:(fO st).length=j):TOk (T.fnA x j f) P w K mg base<|k+1:=by
 subst e hj;have h1:=Rj d.F t v o d.o;have h2:=d.F.binds d.b;split { t.up with fn:=λy i g q=>?_ };rcases aE q with ⟨rfl,q1⟩|q1
 .ext q1;show⟨a,fd,_,_,_,[],[],aaq _,h1,h2,.nil,hm,d.F.kp,λvs H Q q=>by rw[abf];show q⟩
 .exact t.up.fn y i g q1
end
@[simp]abbrev xU(a:XE):XA:=af a aF
@[simp]abbrev xQ:XE->XE->XE:=az<|eA false
@[simp]abbrev xI:XE->XE->XE:=az bI
@[simp]abbrev xL(s:Str):XE:=xC<|.str s
@[simp]abbrev xA(a:XE)(i:Nat):XS:=gV a<|au i
@[simp]abbrev xG(c:XT)(a:XE):XS:=gX c (aM a) bx
abbrev wW:XR:=dj (dj ac ac) ac
abbrev Qc(c:XT)(N:Str)(a:XE)(k:XR):XR:=cE (k6 c (kO N a) ac) (gX c ac bx) k
section
open PySem.W
section
variable {K:agN}{mg:Zg}
def UI{ns:Zn}{f:HF} (hO:KP H)(hS:SqL K H a<|ns.map V.int)(h:∃A',f [.S<|ns.map D.int] []=some (.B true,A')):zf K 1 f [.ref a] H (λv _=>v=.B true) E:=by
 let⟨A',h⟩:=h;split⟨rfl,[],[],_,_,A',⟨rfl,.nil,λ_ _ _ e=>nomatch e⟩,.cons (.S (l:=ns.map D.int) ?_<|.mk (λ_=>rfl) ns) .nil,h,λ_ _ _ _ _ d=>d.bl⟩;rcases hS with (h|⟨o,h⟩)|h
 .rcases hO a with q|⟨o,xs,q⟩<;>rw[h] at q<;>ext q
 .exact .inl ⟨o,h⟩
 .exact .inr h
structure Cf(K:agN)(N:Str)(C:ZB):Prop where
 n:ZR K ZK N=some (some<|.ref C)
 c:Cls K C
 m:makesIn K C=true
 k:keepIn K (.ref C)=true
structure Dn(K:agN)(x:Str)(st:ZM)(a:ZB)(fd:ZW):Prop where
 n:ZR K ZK x=some (some<|.ref a)
 d:Dk K x x st a fd
structure Dm(K:agN)(x qual:Str)(st:ZM)(a:ZB)(fd:ZW):Prop where
 d:Dk K x qual st a fd
 i:isFn K (.ref a)=true
def Dm.at{qual:Str}{st:ZM}{C:ZB}{fd:ZW}(d:Dm K x qual st a fd)(h:agQ K (.ref C) x=some (some<|.ref a)):Meth K C x a:=⟨h,d.i,d.d.F.kp⟩
def TOk.fnB{T:Tab}{k:Nat}{P:ZL}{w:ZI}{mg:Zg}{base:ZH}{x:Str}{st:ZM}{a:ZB}{fd:ZW}{f:HF}{j:Nat}(t:TOk T P w K mg base k)(M:∀ {x v},ZR K ZK x=some (some v)->mg x=some v)(d:Dn K x st a fd)(e:cH T st=f)(hj:(fO st).length=j):TOk (T.fnA x j f) P w K mg base<|k+1:=t.fnA d.d (M d.n) e hj
inductive TabZ(K:agN):List (Str×V)->List (Str×D)->Prop where
 |nil:TabZ K [] []
 |cons {x d v l t}:(∀m H,Den K m H d v)->TabZ K l t->TabZ K ((x,v)::l) ((x,d)::t)
def TabZ.tab{kvs:List<|Str×V} (h:TabZ K kvs t):KR K kvs t:=by
 intro x;induction h with
 |nil=>show⟨λ_ h=>(nomatch h),λ_=>rfl⟩
 | @cons y d v l t hd h ih=>
  rw[aa9];cases e:x==y with
  |true=>
   cases eq_of_beq e;show⟨λc q=>by ext q;show⟨v,ku rfl,hd⟩,λq=>(nomatch q)⟩
  |false=>
   have ne:¬(agE y:bH)=agE x:=λz=>by ext z;simp at e
   show (∀c,t.lookup x=some c->∃v',fe (((agE y:bH),v)::OV l) (.inr x)=some v'/\_)/\(t.lookup x=none->fe (((agE y:bH),v)::OV l) (.inr x)=none)
   rw[iV ne];show ih
end
end
section
open PySem.W PyProof.Rows
section
variable {T:Tab}{ρ:TR}{k:Nat}{P:ZL}{w:ZI}{K:agN}{mg:Zg}{base:ZH}{x qual:Str}{st:ZM}{a:ZB}{fd:ZW}{f:HF}{g:HR}{j:Nat}
def Rk(F:FunD K x qual st Q a fd)(t:TOk T P w K mg base k)(h:vt st=true):Zs P w K mg base my (k+1) a fd (fO st)<|zf K (fO st).length (cH T st):=
 F.ok (o7 h) (λvs H Q E h=>h.1) λcdv A outer s H vs Q E hr hpt0=>by
  let⟨hl,m,A0,ds,d,A',r,dv,q,n⟩:=hpt0;have g:Gd T k ⟨zc (fO st)<|aq st,aq st,true⟩ (il my P w K mg base (zc (fO st)<|aq st) qual (aq st) a cdv A outer s H E).nox:=⟨rfl,(o7 h).nd,rfl,rfl,rfl,rfl,hr,t⟩
  let⟨u,u1,u2⟩:=(i6 (T:=T) (k:=k) 40).B _ _ (bW st) g;split⟨u,u1,?_⟩;rcases bf q with ⟨hj,q⟩|⟨_,q⟩
  .let⟨⟨o,A1⟩,q1,q⟩:=bnd q;split u2 m A0 H _ _ _ o A1 (nL dv<|hl▸rfl) r q1 ?_;cases o with
   |rt c=>ext q;show n
   |nx U=>ext q;show λm' H' Z' u w e=>n m' H' .N u w<|.at rfl
  .ext q
structure DkD(K:agN)(x:Str)(st:ZM)(a:ZB)(fd:ZW):Prop where
 n:ZR K ZK x=some (some<|.ref a)
 kp:keepIn K (.ref a)=true
 o:vt st=true
 F:∃Q,FunD K x x st Q a fd
 b:Binds K fd (fO st) [.bool true]
def DkD.mk'{Q f:ZB}{oc cdv kV doc pm ct c:ZE}{od an od2:Option ZB}{osl sl:Array<|Zi}{n:Nat}(h:ZR K ZK x=some (some<|.ref f))(kp:keepIn K (.ref f)=true)(o:vt st=true)
  (l:K.lookup f=some ⟨oc,od,.func<|fnOf x x (fw st) (bW st) (aq st) (.ref Q) kV doc pm an cdv ct,osl⟩) (cd:codeIn K cdv x=true) (dl:K.lookup Q=some ⟨c,od2,.seq #[.bool true] n,sl⟩)
  (b:∀us:Zh,(us++[ahp true]).length=(fO st).length->∃kk,aiO (fnOf x x (fw st) (bW st) (aq st) (.ref Q) kV doc pm an cdv ct) ⟨us,[]⟩=ai6 (.ref Q) >>= kk/\kk (some #[.bool true])=pure ((fO st).zip<|us++[.bool true])) :
  DkD K x st f (fnOf x x (fw st) (bW st) (aq st) (.ref Q) kV doc pm an cdv ct):=
 ⟨h,kp,o,⟨Q,⟨_,_,_,_,_,_,_,_,_,rfl,l,cd⟩⟩,λs us X hl=>by
  let⟨kk,h1,h2⟩:=b us hl
  show binds_K X rfl dl rfl h1 h2⟩
def TOk.fnD(t:TOk T P w K mg base k)(M:∀ {x v},ZR K ZK x=some (some v)->mg x=some v)(d:DkD K x st a fd)(e:cH T st=f)(hj:(fO st).length=j+1):TOk (T.fnA x j λl A=>f (l++[.B true]) A) P w K mg base<|k+1:=by
 let⟨Q,F⟩:=d.F;have h1:=Rk F t d.o;rw[e,hj] at h1;split { t.up with fn:=λy i g q=>?_ };rcases aE q with ⟨rfl,q1⟩|q1
 .ext q1;show⟨a,fd,_,_,_,[.B true],[.bool true],aaq _,h1,d.b,.cons rfl .nil,M d.n,d.kp,λvs H Q ⟨hl,m,A,ds,c,A',r,dv,q,n⟩=>⟨by rw[aat,hl];rfl,m,A,ds++[.B true],c,A',r,dv.append<|.cons (.at rfl) .nil,q,n⟩⟩
 .exact t.up.fn y i g q1
def Tv(K:agN)(g:ZB)(vs:Za):Prop:=∃od its n sl,K.lookup g=some ⟨.type "tuple",od,.seq its n,sl⟩/\Vals vs its.toList/\ahR its.size 1000=true
abbrev Ti(K:agN)(g:ZB)(ns:Zn):Prop:=Tv K g<|ns.map .int
abbrev Ts(K:agN)(g:ZB)(xs:Zl):Prop:=Tv K g<|xs.map .str
def wP{g:ZB}{ds:Zc}{vs:Za}(t:Tv K g vs)(hd:∀m H,Zo K m H ds vs)(m:Zk)(H:Hp):Den K m H (.mt ds)<|.ref g:=by let⟨od,its,n,sl,h,hv,hz⟩:=t;show .mt (.inr ⟨_,its,n,h,rfl,rfl,aaN (adW hz)<|by rw[aaS];decide,hv⟩)<|hd m H
def dZ{g:ZB}{ns:Zn}(t:Ti K g ns):∀m H,Den K m H (.mt<|ns.map .int) (.ref g):=wP t λ_ _=>.mk (λ_=>rfl) ns
def cO{g:ZB}{xs:Zl}(t:Ts K g xs):∀m H,Den K m H (.mt<|xs.map .str) (.ref g):=wP t λ_ _=>.mk (λ_=>rfl) xs
def fS{ds:Zc} (h:∀m H,Den K m H d v)(k:∀m H,Zo K m H ds vs)(m:Zk)(H:Hp):Zo K m H (d::ds) (v::vs):=.cons (h m H)<|k m H
def GB(m:Zk)(H:Hp):Zo K m H [] []:=.nil
abbrev TV(T:Tab)(ρ:TR)(P:ZL)(w:ZI)(K:agN)(mg:Zg)(base:ZH)(k:Nat):Prop:=TOk T P w K mg base k/\VOk ρ P w K mg base k
def TV.fnB(t:TV T ρ P w K mg base k)(M:∀ {x v},ZR K ZK x=some (some v)->mg x=some v)(d:Dn K x st a fd)(e:BR T ρ st=g)(hj:(fO st).length=j):TV T (ρ.fnA x j g) P w K mg base<|k+1:=⟨t.1.up,t.2.fnA t.1 d.d (M d.n) e hj⟩
def TV.meA(t:TV T ρ P w K mg base k){Ns:Zl}(d:Dk K x qual st a fd)(hm:kR K Ns λC=>Cls K C/\Meth K C x a)(e:BR T ρ st=g)(hj:(fO st).length=j):TV T (ρ.meA x Ns j g) P w K mg base<|k+1:=⟨t.1.up,t.2.meA t.1 d hm e hj⟩
structure XF(K:agN)(N:Str)(c:ZB):Prop where
 n:ZR K ZK N=some (some<|.ref c)
 x:XCls K c
 e:excIn K c bmV "ValueError.__new__"=true
abbrev x73:Zl:=["NoText", "NoRow", "NoName", "NoBack"]
structure KO(K:agN)(a b c d:ZB)(u:ZE)(p q r s:Bool):Prop where
 a:ah2 K (.ref a) u=some p
 b:ah2 K (.ref b) u=some q
 c:ah2 K (.ref c) u=some r
 d:ah2 K (.ref d) u=some s
structure X4(K:agN)(a b c d:ZB):Prop where
 a:XF K "NoText" a
 b:XF K "NoRow" b
 c:XF K "NoName" c
 d:XF K "NoBack" d
def X4.all{a b c d:ZB}(h:X4 K a b c d){Q:Str->ZB->Prop}(qa:Q "NoText" a) (qb:Q "NoRow" b) (qc:Q "NoName" c) (qd:Q "NoBack" d):∀N∈x73,∃C,XF K N C/\Q N C:=by simp only[x73,afk];show⟨⟨_,h.a,qa⟩,⟨_,h.b,qb⟩,⟨_,h.c,qc⟩,⟨_,h.d,qd⟩,λ_ h=>nomatch h⟩
def KO.ans{a b c d:ZB}{u:ZE}{p q r s:Bool}(h:KO K a b c d u p q r s)(x:X4 K a b c d):p8 K [("NoText",p),("NoRow",q),("NoName",r),("NoBack",s)] u:=
 have one {N:Str} {c:ZB} {b0:Bool} {ans:List<|Str×Bool} (x:XF K N c) (o:ah2 K (.ref c) u=some b0) (h:p8 K ans u):p8 K ((N,b0)::ans) u:=Dy (λC hC=>by rw[x.n] at hC;ext hC;show⟨x.x,o⟩) h
 one x.a h.a (one x.b h.b<|one x.c h.c<|one x.d h.d FW)
def X4.v0{a b c d:ZB}(x:X4 K a b c d)(M:∀ {x v},ZR K ZK x=some (some v)->mg x=some v):VOk ⟨[],[],x73⟩ P w K mg base k:=
 ⟨λ_ _ _ h=>(nomatch h),λ_ _ _ _ h=>(nomatch h),λN hN=>by
  let⟨C,h,_⟩:=x.all (Q:=λ_ _=>True) trivial trivial trivial trivial N hN
  show⟨C,h.n,h.e,M h.n⟩⟩
end
end
def aP (i : Nat) : ZM := PySem.Challenge.pw_shapethin_k73_deeds_taken_back.main.body.getD i (.Pass ⟨0, 0, 0, 0⟩)
def T0:Tab:=⟨[],[],[],[],[("pictures",["Desk"]),("deeds",["Desk"]),("parts",["Box"])],[("MOST_CELLS",.int 1000),("BY_EIGHT",.int 1),("BY_FOUR",.int 0),("FIGURES",.str "0123456789"),("MOST_FIGURES",.int 60),("WITHOUT_CELLS",.str "nothing"),("ROUND",.mt [.mt [.int 0,.int<|-1,.int 1],.mt [.int<|-1,.int<|-1,.int 2],.mt [.int<|-1,.int 0,.int 4],.mt [.int<|-1,.int 1,.int 8],.mt [.int 0,.int 1,.int 16],.mt [.int 1,.int 1,.int 32],.mt [.int 1,.int 0,.int 64],.mt [.int 1,.int<|-1,.int 128]]),("STRAIGHT",.mt [.int 1,.int 4,.int 16,.int 64]),("SIDES",.mt [.mt [.int 0,.int<|-1],.mt [.int<|-1,.int 0],.mt [.int 0,.int 1],.mt [.int 1,.int 0]]),("LETTERS",.str "abcdefghijklmnopqrstuvwxyz"),("MOST_LETTERS",.int 8)],[("ROWS",[("put",.mt [.str "NEW",.str "TEXT"]),("join",.mt [.str "NEW",.str "ONE",.str "OTHER"]),("common",.mt [.str "NEW",.str "ONE",.str "OTHER"]),("less",.mt [.str "NEW",.str "ONE",.str "OTHER"]),("either",.mt [.str "NEW",.str "ONE",.str "OTHER"]),("greater",.mt [.str "NEW",.str "ONE",.str "FORM"]),("smaller",.mt [.str "NEW",.str "ONE",.str "FORM"]),("opened",.mt [.str "NEW",.str "ONE",.str "FORM"]),("closed",.mt [.str "NEW",.str "ONE",.str "FORM"]),("thin",.mt [.str "NEW",.str "ONE"]),("fill",.mt [.str "NEW",.str "ONE"]),("drop",.mt [.str "ONE"]),("back",.mt []),("show",.mt [.str "ONE"]),("count",.mt [.str "ONE"]),("pieces",.mt [.str "ONE"]),("holes",.mt [.str "ONE"]),("same",.mt [.str "ONE",.str "OTHER"]),("within",.mt [.str "ONE",.str "OTHER"]),("names",.mt [])])]⟩
def Zp:List<|Str×D:=[("put",.mt [.str "NEW",.str "TEXT"]),("join",.mt [.str "NEW",.str "ONE",.str "OTHER"]),("common",.mt [.str "NEW",.str "ONE",.str "OTHER"]),("less",.mt [.str "NEW",.str "ONE",.str "OTHER"]),("either",.mt [.str "NEW",.str "ONE",.str "OTHER"]),("greater",.mt [.str "NEW",.str "ONE",.str "FORM"]),("smaller",.mt [.str "NEW",.str "ONE",.str "FORM"]),("opened",.mt [.str "NEW",.str "ONE",.str "FORM"]),("closed",.mt [.str "NEW",.str "ONE",.str "FORM"]),("thin",.mt [.str "NEW",.str "ONE"]),("fill",.mt [.str "NEW",.str "ONE"]),("drop",.mt [.str "ONE"]),("back",.mt []),("show",.mt [.str "ONE"]),("count",.mt [.str "ONE"]),("pieces",.mt [.str "ONE"]),("holes",.mt [.str "ONE"]),("same",.mt [.str "ONE",.str "OTHER"]),("within",.mt [.str "ONE",.str "OTHER"]),("names",.mt [])]
def jw:XS:=ak (uR ["Desk"] "pictures" (aa 0) sI)<|uR ["Desk"] "deeds" (aa 0) (ej aF)
def cZ:HF:=bS 1 1 jw
def pB:cH T0 (a8 (aP 100) 0)=cZ:=s!""
def T1:Tab:=T0.mxA "Desk" 1 cZ
def tQ:XS:=aM<|az zZ (aa 0)<|bA<|af (xL "TEXT")<|xU<|xL "FORM"
def db:HF:=bS 1 1 tQ
def Ea:cH T1 (aP 89)=db:=s!""
def T2:Tab:=T1.fnA "is_read" 1 db
def ii:XE:=aL [none] (bc<|aa 1) (au 0) cb<|ah 1 db<|xU<|aa 0
def jV:XS:=ak (gX (cR<|cc (h1<|pz λbs=>.B<|bs.any id)<|af ii aF) (aM<|dQ lU bP (aa 0)<|af (xC<|.str " ")<|af (cc (h1 b8)<|af (aa 1) aF) aF) bx)<|aM<|dQ lU bP (aa 0)<|af (xC<|.str " ") aF
def cB:HF:=bS 2 2 jV
def xT:cH T2 (aP 92)=cB:=s!""
def T3:Tab:=T2.fnA "split_row" 2 cB
def oQ:XE:=aL [none] (bc<|aa 0) (au 0) cb<|az zZ (aa 0)<|xL "abcdefghijklmnopqrstuvwxyz"
def tO:XS:=aM<|lx (Vi (rW 1) (cc (h1 b8)<|af (aa 0) aF)<|rW 8)<|cc (h1<|pz λbs=>.B<|bs.all id)<|af oQ aF
def eP:HF:=bS 1 1 tO
def D3:cH T3 (aP 90)=eP:=s!""
def T4:Tab:=T3.fnA "is_name" 1 eP
def iZ:XS:=gX (nP (et<|cR<|ah 1 db<|xU<|aa 3)<|et<|cR<|ah 1 eP<|xU<|aa 4) ac bx
def zx:XS:=ak (gX (et<|cR<|cc qA<|af (aa 0)<|xU<|xC<|.ty "str") ac bx)<|ak (xA (xI (dQ lU ke (aa 0)<|xU<|xL " ")<|rW 0) 1)<|ak (gX (aw<|ju true Zp<|aa 1) ac bx)<|ak (xA (ah 2 cB<|af (aa 0)<|xU<|bg Zp<|aa 1) 2)<|ak (gX (aw<|az (eA true) (cc (h1 b8)<|xU<|aa 2)<|az aN (rW 1)<|cc (h1 b8)<|xU<|bg Zp<|aa 1) ac bx)<|ak (fq (nQ<|af (bg Zp<|aa 1)<|xU<|tF (aa 2) (dP<|rW 1) wV) (kZ 3 4) iZ)<|aM<|aa 2
def fk:HF:=bS 1 5 zx
def zU:cH T4 (aP 91)=fk:=s!""
def T5:Tab:=T4.fnA "words_of" 1 fk
def qh:XE:=aL [none,none] (bc<|aa 0) (kZ 0 1) (aw<|az Rg (aa 0)<|aa 1)<|bA<|af (aa 0)<|xU<|aa 1
def qe:XS:=gX (nP (cR<|aa 1)<|aw<|az Rg (aa 2)<|az aN (xI (xI (aa 1)<|tG iK<|rW 1)<|rW 1)<|rW 1) (ly (bA<|af (xI (xI (aa 1)<|tG iK<|rW 1)<|rW 0)<|xU<|cc xm<|af (xI (xI (aa 1)<|tG iK<|rW 1)<|rW 1)<|xU<|aa 3) (aa 1)<|tG iK<|rW 1)<|bw<|dQ jD cU (aa 1)<|xU<|bA<|af (aa 2)<|xU<|aa 3
def FT:XS:=ak (xA (ej aF) 1)<|ak (fq (bc<|cc (h1 gw)<|xU qh) (kZ 2 3) qe)<|aM<|cc (h1 i5)<|xU<|aa 1
def fM:HF:=bS 1 4 FT
def GN:cH T5 (aP 10)=fM:=s!""
def T6:Tab:=T5.fnA "row_of" 1 fM
def jM:XE:=aL [none,none,none] (bc<|aa 0) (Bv 0 1 2) (aw<|az Rg (aa 1)<|aa 2)<|bA<|af (aa 0)<|af (aa 1)<|xU<|aa 2
def jF:XS:=ak (gX (tE (et<|cR<|aa 1)<|aw<|az (eA true) (xI (xI (aa 1)<|tG iK<|rW 1)<|rW 0)<|aa 2) (bw<|dQ jD cU (aa 1)<|xU<|bA<|af (aa 2)<|xU<|ej aF) bx)<|bw<|dQ jD cU (xI (xI (aa 1)<|tG iK<|rW 1)<|rW 1)<|xU<|bA<|af (aa 3)<|xU<|aa 4
def gk:XE:=aL [none,none] (bc<|aa 1) (kZ 0 1) cb<|bA<|af (aa 0)<|xU<|ah 1 fM<|xU<|aa 1
def uY:XS:=ak (xA (ej aF) 1)<|ak (fq (bc<|cc (h1 gw)<|xU jM) (Bv 2 3 4) jF)<|aM<|cc (h1 i5)<|xU gk
def aV:HF:=bS 1 5 uY
def vB:cH T6 (aP 21)=aV:=s!""
def T7:Tab:=T6.fnA "picture_of" 1 aV
def dR:XE:=aL [none] (bc<|aa 1) (au 0) cb<|az zZ (aa 0)<|xL "0123456789"
def gt:XS:=ak (gV (Kp (cR<|dQ lU jc (aa 0)<|af (xC<|.str "-") aF) (tF (aa 0) (dP<|rW 1) wV)<|aa 0)<|au 1)<|ak (gX (tE (aw<|az (eA false) (aa 1)<|xC<|.str "")<|aw<|az Ef (cc (h1 b8)<|af (aa 1) aF)<|rW 60) (aM<|xC<|.B false) bx)<|ak (gX (et<|cR<|cc (h1<|pz λbs=>.B<|bs.all id)<|af dR aF) (aM<|xC<|.B false) bx)<|aM<|az (eA false) (cc (h1 mP)<|af (cc (h1 F1)<|af (aa 0) aF) aF)<|aa 0
def aX:HF:=bS 1 2 gt
def qX:cH T7 (aP 72)=aX:=s!""
def T8:Tab:=T7.fnA "writes_whole" 1 aX
def mJ:XS:=ak (gX (tE (et<|cR<|cc qA<|af (aa 0)<|xU<|xC<|.ty "str")<|et<|cR<|ah 1 aX<|xU<|aa 0) ac bx)<|aM<|cc (h1 F1)<|xU<|aa 0
def a9:HF:=bS 1 1 mJ
def vC:cH T8 (aP 71)=a9:=s!""
def T9:Tab:=T8.fnA "read_whole" 1 a9
def gq:XS:=ak (xA (dQ lU bP (aa 1)<|xU<|xL "..") 2)<|aM<|bA<|af (aa 0)<|af (ah 1 a9<|xU<|xI (aa 2)<|rW 0)<|xU<|ah 1 a9<|xU<|xI (aa 2)<|tG iK<|rW 1
def br:HF:=bS 2 3 gq
def qU:cH T9 (aP 70)=br:=s!""
def T10:Tab:=T9.fnA "read_stretch" 2 br
def gl:XE:=aL [none] (bc<|dQ lU bP (aa 0)<|xU<|xL "; ") (au 0) cb<|dQ lU ke (aa 0)<|xU<|xL ": "
def gm:XE:=aL [none,some 5] (bc<|dQ lU bP (aa 4)<|xU<|xL " ") (au 0) cb<|ah 2 br<|af (aa 1)<|xU<|aa 0
def gj:XS:=ak (xA (ah 1 a9<|xU<|aa 2) 5)<|bw<|dQ jD dU (aa 1)<|xU gm
def nW:XS:=ak (xA (ej aF) 1)<|ak (fq (bc gl) (Bv 2 3 4) gj)<|aM<|aa 1
def cK:HF:=bS 1 6 nW
def oi:cH T10 (aP 69)=cK:=s!""
def T11:Tab:=T10.fnA "read_stretches" 1 cK
def gr:XS:=ak (xG (aw<|xQ (aa 0)<|aa 1)<|FH<|aa 0)<|aM<|Kq [FH<|aa 0,xC<|.str "..",FH<|aa 1] ahs
def cM:HF:=bS 2 2 gr
def qV:cH T11 (aP 67)=cM:=s!""
def T12:Tab:=T11.fnA "show_stretch" 2 cM
def mF:XE:=aL [none,none] (bc<|aa 1) (kZ 0 1) cb<|ah 2 cM<|af (aa 0)<|xU<|aa 1
def zu:XS:=ak (xA (dQ lU lj (xL " ")<|xU mF) 2)<|aM<|Kq [FH<|aa 0,xC<|.str ": ",FH<|aa 2] ahs
def lY:HF:=bS 2 3 zu
def zS:cH T12 (aP 66)=lY:=s!""
def T13:Tab:=T12.fnA "show_row" 2 lY
def w8:XE:=aL [none,none] (bc<|aa 0) (kZ 0 1) cb<|ah 2 lY<|af (aa 0)<|xU<|aa 1
def Qn:XS:=ak (xG (aw<|xQ (aa 0)<|bA aF)<|xL "nothing")<|aM<|dQ lU lj (xL "; ")<|xU w8
def kf:HF:=bS 1 1 Qn
def Ra:cH T13 (aP 65)=kf:=s!""
def T14:Tab:=T13.fnA "show" 1 kf
def Qm:XS:=ak (gX (et<|cR<|cc qA<|af (aa 0)<|xU<|xC<|.ty "str") ac bx)<|ak (xG (aw<|xQ (aa 0)<|xL "nothing")<|bA aF)<|ak (xA (ah 1 aV<|xU<|ah 1 cK<|xU<|aa 0) 1)<|ak (gX (aw<|az (eA true) (ah 1 kf<|xU<|aa 1)<|aa 0) ac bx)<|aM<|aa 1
def rP:HF:=bS 1 2 Qm
def QZ:cH T14 (aP 68)=rP:=s!""
def T15:Tab:=T14.fnA "read" 1 rP
def jx:XS:=uR ["Box"] "parts" (aa 0) (aa 1)
def c7:HF:=bS 2 2 jx
def pC:cH T15 (a8 (aP 45) 0)=c7:=s!""
def T16:Tab:=T15.ciA "Form" 2 c7
def qk:XS:=ak (gX (aw<|az z9 (cc vj<|af (aa 1)<|af (aa 2)<|af (aa 3)<|xU<|aa 4)<|rW 0) ac bx)<|bw<|ah 2 c7<|af (aa 0)<|xU<|bA<|xU<|bA<|xU<|bA<|af (tG iK<|aa 1)<|af (tG iK<|aa 2)<|af (aa 3)<|xU<|aa 4
def eT:HF:=bS 5 5 qk
def qO:cH T16 (a8 (aP 46) 0)=eT:=s!""
def T17:Tab:=T16.mxA "Box" 5 eT
def iB:XE:=aL [none] (bc<|tF (aa 1) (dP<|rW 1) wV) (au 0) cb<|ah 1 a9<|xU<|aa 0
def qu:XS:=ak (xA (dQ lU bP (aa 0)<|xU<|xL " ") 1)<|ak (gX (nP (aw<|xQ (xI (aa 1)<|rW 0)<|xL "box")<|aw<|xQ (cc (h1 b8)<|xU<|aa 1)<|rW 5) (ak (xA iB 2)<|aM<|uP "Box" 5 eT (af (xI (aa 2)<|rW 0)<|af (xI (aa 2)<|rW 1)<|af (xI (aa 2)<|rW 2)<|xU<|xI (aa 2)<|rW 3)) bx)<|ak (xG (nP (aw<|xQ (xI (aa 1)<|rW 0)<|xL "cross")<|aw<|xQ (cc (h1 b8)<|xU<|aa 1)<|rW 2) ac)<|ak (xG (aw<|xQ (xI (aa 1)<|rW 0)<|xL "cells") ac) ac
def eU:HF:=bS 1 3 qu
def qS:cH T17 (aP 94)=eU:=s!""
def T18:Tab:=T17.fnA "form_written" 1 eU
def oX:XS:=aM<|ah 1 eU<|xU<|aa 0
def dJ:HF:=bS 1 1 oX
def xR:cH T18 (aP 93)=dJ:=s!""
def T19:Tab:=T18.fnA "read_form" 1 dJ
def uV:XS:=ak (xG (aw<|xQ (aa 1)<|xL "NEW")<|aa 2)<|ak (xG (aw<|xQ (aa 1)<|xL "TEXT")<|ah 1 rP<|xU<|aa 2)<|ak (xG (aw<|xQ (aa 1)<|xL "FORM")<|ah 1 dJ<|xU<|aa 2)<|ak (gX (aw<|az (im true) (aa 2)<|gW ["Desk"] "pictures" (aa 0)) ac bx)<|aM<|xI (gW ["Desk"] "pictures" (aa 0))<|aa 2
def cA:HF:=bS 3 3 uV
def vx:cH T19 (a8 (aP 100) 2)=cA:=s!""
def T20:Tab:=T19.meA "meant" ["Desk"] 3 cA
def eF:XS:=gX (aw<|az x5 (aa 2)<|xC .N) (bw<|dQ KD ll (gW ["Desk"] "pictures" (aa 0))<|xU<|aa 1)<|ly (aa 2) (gW ["Desk"] "pictures" (aa 0))<|aa 1
def aQ:HF:=bS 3 3 eF
def lM:cH T20 (a8 (aP 100) 5)=aQ:=s!""
def T21:Tab:=T20.meA "set_picture" ["Desk"] 3 aQ
def iE:XS:=ak (gX (aw<|xQ (gW ["Desk"] "deeds" (aa 0))<|ej aF) ac bx)<|ak (xA (dQ jD Ew (gW ["Desk"] "deeds" (aa 0)) aF) 1)<|bw<|bM ["Desk"] "set_picture" 3 aQ (aa 0) (af (xI (aa 1)<|rW 0)<|xU<|xI (aa 1)<|rW 1)
def bC:HF:=bS 1 2 iE
def oh:cH T21 (a8 (aP 100) 4)=bC:=s!""
def T22:Tab:=T21.meA "take_back" ["Desk"] 1 bC
def tN:XS:=ak (bw<|dQ jD cU (gW ["Desk"] "deeds" (aa 0))<|xU<|bA<|af (aa 1)<|xU<|dQ KD RU (gW ["Desk"] "pictures" (aa 0))<|xU<|aa 1)<|bw<|bM ["Desk"] "set_picture" 3 aQ (aa 0) (af (aa 1)<|xU<|aa 2)
def da:HF:=bS 3 3 tN
def DZ:cH T22 (a8 (aP 100) 3)=da:=s!""
def T23:Tab:=T22.meA "do" ["Desk"] 3 da
def lf:XE:=aL [none,none] (bc<|aa 0) (kZ 0 1) cb<|az aN (az d6 (aa 1)<|aa 0)<|rW 1
def xg:XS:=aM<|cc (h1<|lh λns=>some<|.int ns.sum)<|af lf aF
def hσ:HF:=bS 1 1 xg
def xS:cH T23 (aP 15)=hσ:=s!""
def T24:Tab:=T23.fnA "row_count" 1 hσ
def jv:XE:=aL [none,none] (bc<|aa 0) (kZ 0 1) cb<|ah 1 hσ<|xU<|aa 1
def sN:XS:=aM<|cc (h1<|lh λns=>some<|.int ns.sum)<|af jv aF
def cG:HF:=bS 1 1 sN
def sX:cH T24 (aP 30)=cG:=s!""
def T25:Tab:=T24.fnA "count_cells" 1 cG
def iC:XE:=aL [none,none,some 2] (bc<|aa 3) (kZ 0 1) cb<|bA<|af (aa 2)<|af (aa 0)<|xU<|aa 1
def nV:XS:=bw<|dQ jD dU (aa 1)<|xU iC
def qw:XS:=ak (xA (ej aF) 1)<|ak (fq (bc<|aa 0) (kZ 2 3) nV)<|aM<|aa 1
def aO:HF:=bS 1 4 qw
def qW:cH T25 (aP 22)=aO:=s!""
def T26:Tab:=T25.fnA "stretches_of" 1 aO
def fQ:XT:=aw<|az z9 (aa 2)<|aa 3
def fP:XS:=ak (xA (az oj (az aN (aa 2)<|aa 3)<|rW 2) 4)<|gX (aw<|az Rg (xI (xI (aa 0)<|aa 4)<|rW 0)<|aa 1) (xA (az aN (aa 4)<|rW 1) 2)<|xA (aa 4) 3
def sO:XS:=ak (xA (rW 0) 2)<|ak (xA (cc (h1 b8)<|xU<|aa 0) 3)<|ak (fu fQ fP)<|aM<|aa 2
def bq:HF:=bS 2 5 sO
def sY:cH T26 (aP 11)=bq:=s!""
def T27:Tab:=T26.fnA "count_up_to" 2 bq
def px:XS:=aM<|tF (aa 0) (dP<|cc xm<|af (rW 0)<|xU<|az d6 (ah 2 bq<|af (aa 0)<|xU<|aa 1)<|rW 1)<|dP<|ah 2 bq<|af (aa 0)<|xU<|aa 2
def eE:HF:=bS 3 3 px
def pD:cH T27 (aP 44)=eE:=s!""
def T28:Tab:=T27.fnA "begun_between" 3 eE
def FS:XS:=ak (xA (ah 2 bq<|af (aa 0)<|xU<|aa 1) 2)<|ak (xG (nP (aw<|az Ef (aa 2)<|rW 0)<|aw<|xQ (xI (xI (aa 0)<|az d6 (aa 2)<|rW 1)<|rW 0)<|aa 1)<|xI (xI (aa 0)<|az d6 (aa 2)<|rW 1)<|rW 1)<|aM<|bA aF
def gG:HF:=bS 2 3 FS
def GM:cH T28 (aP 23)=gG:=s!""
def T29:Tab:=T28.fnA "row_at" 2 gG
def mG:XE:=aL [none,none,some 3,some 6] (bc<|ah 3 eE<|af (ah 2 gG<|af (aa 0)<|xU<|aa 6)<|af (aa 3)<|xU<|aa 4) (kZ 0 1) (aw<|az Vr (aa 1)<|aa 2)<|bA<|af (aa 3)<|af (aa 0)<|xU<|aa 1
def iY:XS:=bw<|dQ jD dU (aa 5)<|xU mG
def zw:XS:=ak (xA (az d6 (xI (aa 1)<|rW 1)<|aa 2) 3)<|ak (xA (az aN (xI (aa 1)<|rW 2)<|aa 2) 4)<|ak (xA (ej aF) 5)<|ak (fq (bc<|bA<|af (az d6 (xI (aa 1)<|rW 0)<|rW 1)<|xU<|az aN (xI (aa 1)<|rW 0)<|rW 1) (au 6) iY)<|aM<|aa 5
def ji:HF:=bS 3 7 zw
def zT:cH T29 (aP 52)=ji:=s!""
def T30:Tab:=T29.fnA "touching" 3 ji
def k9:XT:=aw<|az z9 (aa 5)<|cc (h1 b8)<|xU<|aa 3
def k8:XS:=gX (aw<|az (im true) (aa 6)<|aa 4) (ak (ly (xC<|.B true) (aa 4)<|aa 6)<|bw<|dQ jD cU (aa 3)<|xU<|az aN (aa 6)<|bA<|xU<|aa 5) bx
def ig:XS:=ak (fq (bc<|ah 3 ji<|af (aa 0)<|af (xI (aa 3)<|aa 5)<|xU<|aa 2) (au 6) k8)<|y6 5 (rW 1) Eg
def xj:XS:=ak (xA (ej<|xU<|az aN (aa 1)<|bA<|xU<|xC .N) 3)<|ak (xA (y7 (aa 1)<|xC<|.B true) 4)<|ak (xA (rW 0) 5)<|ak (fu k9 ig)<|aM<|aa 3
def ia:HF:=bS 3 7 xj
def xW:cH T30 (aP 53)=ia:=s!""
def T31:Tab:=T30.fnA "walk_from" 3 ia
def jK:XE:=aL [none,none,none,none] (bc<|xI (aa 2)<|tG iK<|rW 1) (nS 4<|bR (au 0)<|bR (au 1)<|bR (au 2)<|bR (au 3) nR) cb<|bA<|af (bA<|af (aa 0)<|af (aa 1)<|xU<|aa 2)<|xU<|xC<|.B true
def jE:XS:=gX (aw<|az (im true) (aa 4)<|aa 3) (ak (bw<|dQ jD cU (aa 2)<|xU<|ah 3 ia<|af (aa 0)<|af (aa 4)<|xU<|aa 1)<|bw<|dQ isT Cq (aa 3)<|xU jK) bx
def uW:XS:=ak (xA (ej aF) 2)<|ak (xA Ko 3)<|ak (fq (bc<|ah 1 aO<|xU<|aa 0) (au 4) jE)<|aM<|aa 2
def dW:HF:=bS 2 5 uW
def vz:cH T31 (aP 54)=dW:=s!""
def T32:Tab:=T31.fnA "classes_of" 2 dW
def FQ:XS:=aM<|ah 2 dW<|af (aa 0)<|xU<|rW 1
def nu:HF:=bS 1 1 FQ
def GL:cH T32 (aP 55)=nu:=s!""
def T33:Tab:=T32.fnA "pieces" 1 nu
def fX:XE:=aL [none,none] (bc<|aa 0) (kZ 0 1) (aw<|az (eA true) (aa 1)<|bA aF)<|bA<|af (aa 0)<|xU<|aa 1
def mL:XS:=aM<|cc (h1 i5)<|xU fX
def aW:HF:=bS 1 1 mL
def mX:cH T33 (aP 24)=aW:=s!""
def T34:Tab:=T33.fnA "rows_with_cells" 1 aW
def mE:XE:=aL [none,some 0] (pk<|xU<|az d6 (cc (h1 b8)<|xU<|aa 0)<|rW 1) (au 0) cb<|bA<|af (az aN (xI (xI (aa 1)<|aa 0)<|rW 1)<|rW 1)<|xU<|az d6 (xI (xI (aa 1)<|az aN (aa 0)<|rW 1)<|rW 0)<|rW 1
def zr:XS:=aM<|cc (h1 i5)<|xU mE
def jg:HF:=bS 1 1 zr
def zQ:cH T34 (aP 18)=jg:=s!""
def T35:Tab:=T34.fnA "row_gaps" 1 jg
def fW:XE:=aL [none,none] (bc<|aa 0) (kZ 0 1) cb<|bA<|af (aa 0)<|xU<|ah 1 jg<|xU<|aa 1
def mI:XS:=aM<|ah 1 aW<|xU fW
def dq:HF:=bS 1 1 mI
def mW:cH T35 (aP 57)=dq:=s!""
def T36:Tab:=T35.fnA "picture_of_gaps" 1 dq
def Dw:XE:=aL [none,none,none,none,some 1] (bc<|aa 0) (nS 4<|bR (au 0)<|bR (au 1)<|bR (au 2)<|bR (au 3) nR) cb ac
def tJ:XE:=aL [none,some 0] (bc<|aa 1) (au 0) (et<|cR<|cc (h1<|pz λbs=>.B<|bs.any id)<|af Dw aF)<|aa 0
def K2:XS:=ak (xA (ah 2 dW<|af (ah 1 dq<|xU<|aa 0)<|xU<|rW 0) 1)<|aM tJ
def nr:HF:=bS 1 2 K2
def Lu:cH T36 (aP 59)=nr:=s!""
def T37:Tab:=T36.fnA "holes" 1 nr
def Qo:XS:=ak (xG (aw<|xQ (aa 0)<|xL "show")<|ah 1 kf<|xU<|xI (aa 1)<|rW 0)<|ak (xG (aw<|xQ (aa 0)<|xL "count")<|cc (h1 mP)<|xU<|ah 1 cG<|xU<|xI (aa 1)<|rW 0)<|ak (xG (aw<|xQ (aa 0)<|xL "pieces")<|cc (h1 mP)<|xU<|cc (h1 b8)<|xU<|ah 1 nu<|xU<|xI (aa 1)<|rW 0)<|ak (xG (aw<|xQ (aa 0)<|xL "holes")<|cc (h1 mP)<|xU<|cc (h1 b8)<|xU<|ah 1 nr<|xU<|xI (aa 1)<|rW 0)<|ak (xG (aw<|xQ (aa 0)<|xL "same") ac)<|aM ac
def lZ:HF:=bS 2 2 Qo
def Rb:cH T37 (aP 98)=lZ:=s!""
def T38:Tab:=T37.fnA "told" 2 lZ
def Qj:XS:=aM<|ah 1 aV<|xU<|az aN (ah 1 aO<|xU<|aa 0)<|ah 1 aO<|xU<|aa 1
def ow:HF:=bS 2 2 Qj
def QW:cH T38 (aP 25)=ow:=s!""
def T39:Tab:=T38.fnA "join" 2 ow
def jR:XE:=aL [none,none] (bc<|aa 2) (kZ 0 1) cb<|aa 0
def jS:XE:=aL [none,none] (bc<|aa 2) (kZ 0 1) cb<|az aN (aa 1)<|rW 1
def jT:XE:=aL [none,some 3] (y8<|af (rW 0)<|af (cc (h1 b8)<|xU<|aa 3)<|xU<|rW 2) (au 0) cb<|bA<|af (xI (aa 1)<|aa 0)<|xU<|az d6 (xI (aa 1)<|az aN (aa 0)<|rW 1)<|rW 1
def u6:XS:=ak (xA (az aN (aa 0)<|aa 1) 2)<|ak (xA (cc (h1 gw)<|xU<|az aN jR jS) 3)<|aM<|ah 1 fM<|xU jT
def gc:HF:=bS 2 4 u6
def vE:cH T39 (aP 14)=gc:=s!""
def T40:Tab:=T39.fnA "row_either" 2 gc
def jJ:XT:=nP (aw<|az z9 (aa 3)<|cc (h1 b8)<|xU<|aa 0)<|aw<|az z9 (aa 4)<|cc (h1 b8)<|xU<|aa 1
def jH:XS:=ak (xA (cc xm<|af (xI (xI (aa 0)<|aa 3)<|rW 0)<|xU<|xI (xI (aa 1)<|aa 4)<|rW 0) 5)<|ak (xA (cc vj<|af (xI (xI (aa 0)<|aa 3)<|rW 1)<|xU<|xI (xI (aa 1)<|aa 4)<|rW 1) 6)<|ak (gX (aw<|az Rg (aa 5)<|aa 6) (bw<|dQ jD cU (aa 2)<|xU<|bA<|af (aa 5)<|xU<|aa 6) bx)<|gX (aw<|az z9 (xI (xI (aa 0)<|aa 3)<|rW 1)<|xI (xI (aa 1)<|aa 4)<|rW 1) (y6 3 (rW 1) Eg)<|y6 4 (rW 1) Eg
def uZ:XS:=ak (xA (ej aF) 2)<|ak (xA (rW 0) 3)<|ak (xA (rW 0) 4)<|ak (fu jJ jH)<|aM<|cc (h1 i5)<|xU<|aa 2
def eV:HF:=bS 2 7 uZ
def vD:cH T40 (aP 12)=eV:=s!""
def T41:Tab:=T40.fnA "row_common" 2 eV
def zt:XS:=aM<|ah 2 gc<|af (aa 0)<|xU<|ah 2 eV<|af (aa 0)<|xU<|aa 1
def jh:HF:=bS 2 2 zt
def zR:cH T41 (aP 13)=jh:=s!""
def T42:Tab:=T41.fnA "row_less" 2 jh
def w6:XE:=aL [none,none,some 1] (bc<|aa 0) (kZ 0 1) cb<|bA<|af (aa 0)<|xU<|ah 2 jh<|af (aa 1)<|xU<|ah 2 gG<|af (aa 2)<|xU<|aa 0
def Qk:XS:=aM<|ah 1 aW<|xU w6
def ox:HF:=bS 2 2 Qk
def QX:cH T42 (aP 27)=ox:=s!""
def T43:Tab:=T42.fnA "less" 2 ox
def FO:XS:=aM<|ah 2 ow<|af (ah 2 ox<|af (aa 0)<|xU<|aa 1)<|xU<|ah 2 ox<|af (aa 1)<|xU<|aa 0
def nk:HF:=bS 2 2 FO
def GJ:cH T43 (aP 28)=nk:=s!""
def T44:Tab:=T43.fnA "either" 2 nk
def qg:XE:=aL [none,none,some 1] (bc<|aa 0) (kZ 0 1) cb<|bA<|af (aa 0)<|xU<|ah 2 eV<|af (aa 1)<|xU<|ah 2 gG<|af (aa 2)<|xU<|aa 0
def FN:XS:=aM<|ah 1 aW<|xU qg
def iP:HF:=bS 2 2 FN
def GI:cH T44 (aP 26)=iP:=s!""
def T45:Tab:=T44.fnA "common" 2 iP
def sP:XS:=ak (xG (aw<|xQ (aa 0)<|xL "join")<|ah 2 ow<|af (aa 1)<|xU<|aa 2)<|ak (xG (aw<|xQ (aa 0)<|xL "common")<|ah 2 iP<|af (aa 1)<|xU<|aa 2)<|ak (xG (aw<|xQ (aa 0)<|xL "less")<|ah 2 ox<|af (aa 1)<|xU<|aa 2)<|aM<|ah 2 nk<|af (aa 1)<|xU<|aa 2
def ei:HF:=bS 3 3 sP
def sZ:cH T45 (aP 95)=ei:=s!""
def T46:Tab:=T45.fnA "made_of_two" 3 ei
def zh:XE:=aL [none,none,none,none] (bc<|aa 2) (nS 4<|bR (au 0)<|bR (au 1)<|bR (au 2)<|bR (au 3) nR) cb<|bA<|af (aa 0)<|af (aa 1)<|xU<|aa 2
def zg:XS:=bw<|dQ jD dU (aa 1)<|xU zh
def FP:XS:=ak (xA (ah 1 aO<|xU<|aa 0) 1)<|ak (fq (bc<|ah 1 nr<|xU<|aa 0) (au 2) zg)<|aM<|ah 1 aV<|xU<|aa 1
def nq:HF:=bS 1 3 FP
def GK:cH T46 (aP 60)=nq:=s!""
def T47:Tab:=T46.fnA "filled" 1 nq
def pq:XT:=aw<|az z9 (aa 2)<|aa 1
def pp:XS:=ak (xA (cc vj<|af (az aN (aa 2)<|rW 1)<|xU<|az d6 (aa 1)<|aa 2) 3)<|ak (xA (ah 2 iP<|af (aa 0)<|xU ac) 0)<|y6 2 (aa 3) Eg
def sQ:XS:=ak (xA (rW 0) 2)<|ak (fu pq pp)<|aM<|aa 0
def fE:HF:=bS 2 4 sQ
def tf:cH T47 (aP 38)=fE:=s!""
def T48:Tab:=T47.fnA "shrunk_down" 2 fE
def jU:XE:=aL [none,none,some 2,some 1] (bc<|aa 0) (kZ 0 1) cb<|bA<|af (az d6 (aa 0)<|aa 3)<|xU<|az d6 (aa 1)<|aa 2
def u9:XS:=aM<|ah 1 fM<|xU jU
def eW:HF:=bS 3 3 u9
def vF:cH T48 (aP 17)=eW:=s!""
def T49:Tab:=T48.fnA "row_shrunk" 3 eW
def dE:XE:=aL [none,none,some 1] (bc<|aa 0) (kZ 0 1) cb<|bA<|af (az d6 (aa 0)<|xI (aa 2)<|rW 1)<|xU<|ah 3 eW<|af (aa 1)<|af (xI (aa 2)<|rW 0)<|xU<|xI (aa 2)<|rW 2
def lB:XS:=ak (xA (ah 1 aW<|xU dE) 2)<|aM<|ah 2 fE<|af (aa 2)<|xU<|az d6 (xI (aa 1)<|rW 3)<|xI (aa 1)<|rW 1
def cn:HF:=bS 2 3 lB
def lP:cH T49 (aP 41)=cn:=s!""
def T50:Tab:=T49.fnA "smaller_by_block" 2 cn
def kQ:XS:=ak (xG (aw<|xQ (aa 2)<|bA aF)<|bA aF)<|xA (ah 2 iP<|af (aa 2)<|xU<|ah 2 cn<|af ac<|xU<|aa 3) 2
def mM:XS:=ak (xA (ah 2 cn<|af (aa 0)<|xU<|xI (aa 1)<|tG iK<|rW 1) 2)<|ak (fq (bc<|tF (aa 1) wV<|dP<|tG iK<|rW 1) (au 3) kQ)<|aM<|aa 2
def dw:HF:=bS 2 4 mM
def mY:cH T50 (aP 42)=dw:=s!""
def T51:Tab:=T50.fnA "smaller_by_part" 2 dw
def nU:XS:=xA (ah 2 dw<|af (aa 1)<|xU<|aa 2) 1
def qq:XS:=ak (fq (bc<|gW ["Box"] "parts" (aa 0)) (au 2) nU)<|aM<|aa 1
def cm:HF:=bS 2 3 qq
def qQ:cH T51 (a8 (aP 45) 3)=cm:=s!""
def T52:Tab:=T51.meA "smaller" ["Box"] 2 cm
def fG:XE:=aL [none,none,none,some 1] (bc<|ah 1 aO<|xU<|aa 0) (Bv 0 1 2) cb<|bA<|af (az aN (aa 0)<|xI (aa 3)<|rW 1)<|af (az aN (aa 1)<|xI (aa 3)<|rW 0)<|xU<|az aN (aa 2)<|xI (aa 3)<|rW 2
def lA:XS:=ak (xA fG 2)<|ak (xG (aw<|xQ (xI (aa 1)<|rW 1)<|xI (aa 1)<|rW 3)<|aa 2)<|aM<|ah 1 aO<|xU ac
def cV:HF:=bS 2 3 lA
def lN:cH T52 (aP 39)=cV:=s!""
def T53:Tab:=T52.fnA "greater_by_block" 2 cV
def kP:XS:=bw<|dQ jD dU (aa 2)<|xU<|ah 2 cV<|af (aa 0)<|xU<|aa 3
def mH:XS:=ak (xA (ej aF) 2)<|ak (fq (bc<|aa 1) (au 3) kP)<|aM<|ah 1 aV<|xU<|aa 2
def dn:HF:=bS 2 4 mH
def mV:cH T53 (aP 40)=dn:=s!""
def T54:Tab:=T53.fnA "greater_by_part" 2 dn
def nT:XS:=xA (ah 2 dn<|af (aa 1)<|xU<|aa 2) 1
def qm:XS:=ak (fq (NX<|xU<|gW ["Box"] "parts" (aa 0)) (au 2) nT)<|aM<|aa 1
def cJ:HF:=bS 2 3 qm
def qP:cH T54 (a8 (aP 45) 2)=cJ:=s!""
def T55:Tab:=T54.meA "greater" ["Box"] 2 cJ
def sK:XS:=aM<|bM ["Box"] "smaller" 2 cm (aa 0) (xU<|bM ["Box"] "greater" 2 cJ (aa 0) (xU<|aa 1))
def fB:HF:=bS 2 2 sK
def sV:cH T55 (a8 (aP 45) 5)=fB:=s!""
def T56:Tab:=T55.meA "closed" ["Box"] 2 fB
def sM:XS:=aM<|bM ["Box"] "greater" 2 cJ (aa 0) (xU<|bM ["Box"] "smaller" 2 cm (aa 0) (xU<|aa 1))
def fD:HF:=bS 2 2 sM
def sW:cH T56 (a8 (aP 45) 4)=fD:=s!""
def T57:Tab:=T56.meA "opened" ["Box"] 2 fD
def qv:XS:=ak (xG (aw<|xQ (aa 0)<|xL "greater")<|bM ["Box"] "greater" 2 cJ (aa 2) (xU<|aa 1))<|ak (xG (aw<|xQ (aa 0)<|xL "smaller")<|bM ["Box"] "smaller" 2 cm (aa 2) (xU<|aa 1))<|ak (xG (aw<|xQ (aa 0)<|xL "opened")<|bM ["Box"] "opened" 2 fD (aa 2) (xU<|aa 1))<|aM<|bM ["Box"] "closed" 2 fB (aa 2) (xU<|aa 1)
def dH:HF:=bS 3 3 qv
def qT:cH T57 (aP 96)=dH:=s!""
def T58:Tab:=T57.fnA "made_by_form" 3 dH
def tK:XE:=aL [none,some 0,some 1] (bc<|xC<|.mt [.int 1,.int 4,.int 16,.int 64]) (au 0) (nP (aw<|xQ (az LC (aa 1)<|aa 0)<|rW 0)<|aw<|az (eA true) (az LC (aa 2)<|az aN (az vK (rW 2)<|aa 0)<|az vK (rW 4)<|aa 0)<|rW 0)<|aa 0
def K3:XS:=ak (xA (az aN (aa 0)<|az vK (rW 256)<|aa 0) 1)<|aM<|cc (h1 b8)<|xU tK
def kH:HF:=bS 1 2 K3
def Lv:cH T58 (aP 76)=kH:=s!""
def T59:Tab:=T58.fnA "turns" 1 kH
def iA:XE:=aL [none,none,none,some 0] (bc<|xC<|.mt [.mt [.int 0,.int<|-1,.int 1],.mt [.int<|-1,.int<|-1,.int 2],.mt [.int<|-1,.int 0,.int 4],.mt [.int<|-1,.int 1,.int 8],.mt [.int 0,.int 1,.int 16],.mt [.int 1,.int 1,.int 32],.mt [.int 1,.int 0,.int 64],.mt [.int 1,.int<|-1,.int 128]]) (Bv 0 1 2) (aw<|az (eA true) (az LC (aa 3)<|aa 2)<|rW 0)<|aa 2
def qr:XS:=aM<|cc (h1 b8)<|xU iA
def dG:HF:=bS 1 1 qr
def qR:cH T59 (aP 77)=dG:=s!""
def T60:Tab:=T59.fnA "count_around" 1 dG
def wZ:XE:=aL [none,none,none,some 0,some 1,some 2] (bc<|xC<|.mt [.mt [.int 0,.int<|-1,.int 1],.mt [.int<|-1,.int<|-1,.int 2],.mt [.int<|-1,.int 0,.int 4],.mt [.int<|-1,.int 1,.int 8],.mt [.int 0,.int 1,.int 16],.mt [.int 1,.int 1,.int 32],.mt [.int 1,.int 0,.int 64],.mt [.int 1,.int<|-1,.int 128]]) (Bv 0 1 2) (aw<|az zZ (bA<|af (az aN (aa 4)<|aa 0)<|xU<|az aN (aa 5)<|aa 1)<|aa 3)<|aa 2
def Qi:XS:=ak (gV (cc (h1<|lh λns=>some<|.int ns.sum)<|af wZ aF)<|au 4)<|aM<|lx (az (eA false) (ah 1 kH<|af (aa 4) aF)<|rW 1)<|Bu (uQ<|aa 3)<|az Vr (ah 1 dG<|af (aa 4) aF)<|rW 2
def rO:HF:=bS 4 5 Qi
def QV:cH T60 (aP 84)=rO:=s!""
def T61:Tab:=T60.fnA "goes" 4 rO
def k7:XS:=gX (cR<|ah 4 rO<|af (aa 0)<|af (xI (aa 4)<|rW 0)<|af (xI (aa 4)<|rW 1)<|xU<|aa 2) (ak (bw<|dQ KD ll (aa 0)<|xU<|aa 4)<|bw<|dQ jD cU (aa 3)<|xU<|aa 4) bx
def xh:XS:=ak (xA (ej aF) 3)<|ak (fq (bc<|aa 1) (au 4) k7)<|aM<|aa 3
def h9:HF:=bS 3 5 xh
def xV:cH T61 (aP 83)=h9:=s!""
def T62:Tab:=T61.fnA "take_pass" 3 h9
def jL:XE:=aL [none,none,some 1,some 2,some 0] (xDk<|aa 0) (kZ 0 1) (aw<|az (im true) (bA<|af (az aN (aa 0)<|aa 2)<|xU<|az aN (aa 1)<|aa 3)<|aa 4)<|bA<|af (aa 0)<|xU<|aa 1
def uX:XS:=aM jL
def f9:HF:=bS 3 3 uX
def vA:cH T62 (aP 82)=f9:=s!""
def T63:Tab:=T62.fnA "free_cells" 3 f9
def jI:XS:=bw<|dQ jD dU (aa 2)<|xU<|ah 3 h9<|af (aa 0)<|af (ah 3 f9<|af (aa 0)<|af (aa 3)<|xU<|aa 4)<|xU<|aa 1
def vd:XS:=ak (xA (ej aF) 2)<|ak (fq (bc<|xC<|.mt [.mt [.int 0,.int<|-1],.mt [.int<|-1,.int 0],.mt [.int 0,.int 1],.mt [.int 1,.int 0]]) (kZ 3 4) jI)<|aM<|aa 2
def gd:HF:=bS 2 5 vd
def vG:cH T63 (aP 81)=gd:=s!""
def T64:Tab:=T63.fnA "take_round" 2 gd
def mD:XE:=aL [none,some 2] (Kr<|af (aa 3)<|xU<|az aN (aa 4)<|rW 1) (au 0) cb<|bA<|af (aa 0)<|xU<|aa 1
def iX:XS:=bw<|dQ jD dU (aa 1)<|xU mD
def zq:XS:=ak (gX (aw<|az Ef (ah 1 cG<|xU<|aa 0)<|rW 1000) ac bx)<|ak (xA (ej aF) 1)<|ak (fq (bc<|ah 1 aO<|xU<|aa 0) (Bv 2 3 4) iX)<|aM<|aa 1
def eI:HF:=bS 1 5 zq
def zP:cH T64 (aP 33)=eI:=s!""
def T65:Tab:=T64.fnA "cells_of" 1 eI
def oU:XE:=aL [none] (bc<|ah 1 eI<|xU<|aa 0) (au 0) cb<|bA<|af (aa 0)<|xU<|xC<|.B true
def oP:XT:=aw<|az Ef (cc (h1 b8)<|xU<|aa 3)<|aa 4
def oO:XS:=ak (xA (cc (h1 b8)<|xU<|aa 3) 4)<|bw<|dQ jD dU (aa 3)<|xU<|ah 2 gd<|af (aa 2)<|xU<|aa 1
def oV:XE:=aL [none,none] (xDk<|aa 2) (kZ 0 1) cb<|bA<|af (aa 1)<|af (aa 0)<|xU<|aa 0
def Dx:XS:=ak (xA (cc lF<|xU oU) 2)<|ak (xA (ej aF) 3)<|ak (xA (tG iK<|rW 1) 4)<|ak (fu oP oO)<|aM<|bA<|af (ah 1 aV<|xU oV)<|xU<|aa 3
def kG:HF:=bS 2 5 Dx
def Eb:cH T65 (aP 80)=kG:=s!""
def n8:HF:=λl A=>kG (l++[.B true]) A
def T66:Tab:=T65.fnA "thinned" 1 n8
def Ql:XS:=ak (xG (aw<|xQ (aa 0)<|xL "put")<|xI (aa 1)<|rW 0)<|ak (xG (aw<|xQ (aa 0)<|xL "thin")<|xI (ah 1 n8<|xU<|xI (aa 1)<|rW 0)<|rW 0)<|ak (xG (aw<|xQ (aa 0)<|xL "fill")<|ah 1 nq<|xU<|xI (aa 1)<|rW 0)<|ak (xG (aw<|xQ (xI (bg Zp<|aa 0)<|tG iK<|rW 1)<|xL "FORM")<|ah 3 dH<|af (aa 0)<|af (xI (aa 1)<|rW 0)<|xU<|xI (aa 1)<|rW 1)<|aM<|ah 3 ei<|af (aa 0)<|af (xI (aa 1)<|rW 0)<|xU<|xI (aa 1)<|rW 1
def fU:HF:=bS 2 2 Ql
def QY:cH T66 (aP 97)=fU:=s!""
def T67:Tab:=T66.fnA "made" 2 fU
def mB:XE:=aL [none,none,some 0] (nQ<|af (bg Zp<|aa 3)<|xU<|tF (aa 2) (dP<|rW 1) wV) (kZ 0 1) cb<|bM ["Desk"] "meant" 3 cA (aa 2) (af (aa 0)<|xU<|aa 1)
def eG:XS:=ak (xG (aw<|xQ (aa 3)<|xL "names")<|dQ lU lj (xL " ")<|xU<|cc (h1 gw)<|xU<|gW ["Desk"] "pictures" (aa 0))<|ak (gX (aw<|xQ (aa 3)<|xL "back") (bw<|bM ["Desk"] "take_back" 1 bC (aa 0) aF)<|gX (aw<|xQ (aa 3)<|xL "drop") (bw<|bM ["Desk"] "do" 3 da (aa 0) (af (xI (aa 2)<|rW 1)<|xU<|xC .N))<|gX (aw<|az zZ (xL "NEW")<|bg Zp<|aa 3) (bw<|bM ["Desk"] "do" 3 da (aa 0) (af (xI (aa 2)<|rW 1)<|xU<|ah 2 fU<|af (aa 3)<|xU<|tF (aa 4) (dP<|rW 1) wV))<|aM<|ah 2 lZ<|af (aa 3)<|xU<|aa 4)<|aM<|xL "ok"
def zj:XS:=ak (xA (ah 1 fk<|xU<|aa 1) 2)<|ak (xA (xI (aa 2)<|rW 0) 3)<|ak (xA mB 4) eG
def aA:HF:=bS 2 5 zj
def zL:cH T67 (a8 (aP 100) 1)=aA:=s!""
def T68:Tab:=T67.meA "say" ["Desk"] 2 aA
def V0:TR:=⟨[],[],["NoText", "NoRow", "NoName", "NoBack"]⟩
def vf:XR:=Qc (tE (et<|cR<|cc qA<|af (aa 0)<|xU<|xC<|.ty "str")<|et<|cR<|ah 1 aX<|xU<|aa 0) "NoText" (xL "a whole number is written in one to sixty figures, perhaps with a - ahead") wW
def cX:HR:=λds A=>if ds.length=1 then vf (ds.map some++agJ (1-1) none) A else none
def tq:BR T68 V0 (aP 71)=cX:=s!""
def V1:TR:=V0.fnA "read_whole" 1 cX
def qy:XR:=cE wW (xA (dQ lU bP (aa 1)<|xU<|xL "..") 2)<|dj (dj ac ac)<|dj ac<|mw (aa 0)<|dj (iz 1 cX<|xU<|xI (aa 2)<|rW 0)<|mw (ah 1 a9<|xU<|xI (aa 2)<|rW 0)<|dj (iz 1 cX<|xU<|xI (aa 2)<|tG iK<|rW 1)<|mw (ah 1 a9<|xU<|xI (aa 2)<|tG iK<|rW 1) ac
def fc:HR:=λds A=>if ds.length=2 then qy (ds.map some++agJ (3-2) none) A else none
def pE:BR T68 V1 (aP 70)=fc:=s!""
def V2:TR:=V1.fnA "read_stretch" 2 fc
def fH:XE:=aL [none] (bc<|dQ lU bP (aa 0)<|xU<|xL "; ") (au 0) cb<|dQ lU ke (aa 0)<|xU<|xL ": "
def jO:XE:=aL [none,some 5] (bc<|dQ lU bP (aa 4)<|xU<|xL " ") (au 0) cb<|ah 2 br<|af (aa 1)<|xU<|aa 0
def jP:XE:=aL [none] (bc<|dQ lU bP (aa 0)<|xU<|xL "; ") (au 0) cb<|dQ lU ke (aa 0)<|xU<|xL ": "
def jQ:XE:=aL [none,some 5] (bc<|dQ lU bP (aa 4)<|xU<|xL " ") (au 0) cb<|ah 2 br<|af (aa 1)<|xU<|aa 0
def jG:XS:=ak (xA (ah 1 a9<|xU<|aa 2) 5)<|bw<|dQ jD dU (aa 1)<|xU jQ
def nY:XR:=cE wW (xA (ej aF) 1)<|cE (uS (bc fH) (Bv 2 3 4) (cE (dj (dj (iz 1 cX<|xU<|aa 2) ac)<|dj ac ac) (xA (ah 1 a9<|xU<|aa 2) 5)<|dj (dj ac ac)<|Kt jD (aa 1)<|dj ac<|mq [none,some 5] (bc<|dQ lU bP (aa 4)<|xU<|xL " ") (au 0) cb (iz 2 fc<|af (aa 1)<|xU<|aa 0)<|ah 2 br<|af (aa 1)<|xU<|aa 0)<|ak (xA (ah 1 a9<|xU<|aa 2) 5)<|bw<|dQ jD dU (aa 1)<|xU jO) (fq (bc jP) (Bv 2 3 4) jG) wW
def dY:HR:=λds A=>if ds.length=1 then nY (ds.map some++agJ (6-1) none) A else none
def m6:BR T68 V2 (aP 69)=dY:=s!""
def V3:TR:=V2.fnA "read_stretches" 1 dY
def Qp:XR:=Qc (et<|cR<|cc qA<|af (aa 0)<|xU<|xC<|.ty "str") "NoText" (xL "a picture is read from a text alone") (cE (k6 (aw<|xQ (aa 0)<|xL "nothing") wW ac) (xG (aw<|xQ (aa 0)<|xL "nothing")<|bA aF)<|cE (dj (dj ac ac)<|dj (iz 1 dY<|xU<|aa 0) ac) (xA (ah 1 aV<|xU<|ah 1 cK<|xU<|aa 0) 1)<|Qc (aw<|az (eA true) (ah 1 kf<|xU<|aa 1)<|aa 0) "NoText" (xL "the text is not the text of a picture") wW)
def sh:HR:=λds A=>if ds.length=1 then Qp (ds.map some++agJ (2-1) none) A else none
def Lz:BR T68 V3 (aP 68)=sh:=s!""
def V4:TR:=V3.fnA "read" 1 sh
def p9:XS:=gX (nP (et<|cR<|ah 1 db<|xU<|aa 3)<|et<|cR<|ah 1 eP<|xU<|aa 4) ac bx
def zz:XR:=Qc (et<|cR<|cc qA<|af (aa 0)<|xU<|xC<|.ty "str") "NoRow" (xL "a row is a text") (cE wW (xA (xI (dQ lU ke (aa 0)<|xU<|xL " ")<|rW 0) 1)<|Qc (aw<|ju true Zp<|aa 1) "NoRow" (xL "a row begins with one of the desk's words") (cE wW (xA (ah 2 cB<|af (aa 0)<|xU<|bg Zp<|aa 1) 2)<|Qc (aw<|az (eA true) (cc (h1 b8)<|xU<|aa 2)<|az aN (rW 1)<|cc (h1 b8)<|xU<|bg Zp<|aa 1) "NoRow" (xL "the row has too many words or too few") (cE (uS (nQ<|af (bg Zp<|aa 1)<|xU<|tF (aa 2) (dP<|rW 1) wV) (kZ 3 4) (k6 (nP (et<|cR<|ah 1 db<|xU<|aa 3)<|et<|cR<|ah 1 eP<|xU<|aa 4) (kO "NoRow" (xL "a name is one to eight small letters")) ac)<|gX (nP (et (cR (ah 1 db (xU (aa 3))))) (et (cR (ah 1 eP (xU (aa 4)))))) ac bx) (fq (nQ (af (bg Zp (aa 1)) (xU (tF (aa 2) (dP (rW 1)) wV)))) (kZ 3 4) p9) wW)))
def eK:HR:=λds A=>if ds.length=1 then zz (ds.map some++agJ (5-1) none) A else none
def xZ:BR T68 V4 (aP 91)=eK:=s!""
def V5:TR:=V4.fnA "words_of" 1 eK
def ve:XR:=cE (k6 (aw<|xQ (aa 1)<|xL "NEW") wW ac) (xG (aw<|xQ (aa 1)<|xL "NEW")<|aa 2)<|cE (k6 (aw<|xQ (aa 1)<|xL "TEXT") (dj (dj (iz 1 sh<|xU<|aa 2) ac)<|dj ac ac) ac) (xG (aw<|xQ (aa 1)<|xL "TEXT")<|ah 1 rP<|xU<|aa 2)<|cE (k6 (aw<|xQ (aa 1)<|xL "FORM") (dj (dj ac ac)<|dj ac ac) ac) (xG (aw<|xQ (aa 1)<|xL "FORM")<|ah 1 dJ<|xU<|aa 2)<|Qc (aw<|az (im true) (aa 2)<|gW ["Desk"] "pictures" (aa 0)) "NoName" (xL "no picture stands by that name") wW
def bZ:HR:=λds A=>if ds.length=3 then ve (ds.map some++agJ (3-3) none) A else none
def tj:BR T68 V5 (a8 (aP 100) 2)=bZ:=s!""
def V6:TR:=V5.meA "meant" ["Desk"] 3 bZ
def nX:XR:=Qc (aw<|xQ (gW ["Desk"] "deeds" (aa 0))<|ej aF) "NoBack" (xL "there is no deed left to take back") (cE wW (xA (dQ jD Ew (gW ["Desk"] "deeds" (aa 0)) aF) 1) wW)
def dX:HR:=λds A=>if ds.length=1 then nX (ds.map some++agJ (2-1) none) A else none
def mZ:BR T68 V6 (a8 (aP 100) 4)=dX:=s!""
def V7:TR:=V6.meA "take_back" ["Desk"] 1 dX
def jN:XE:=aL [none,none,some 0] (nQ<|af (bg Zp<|aa 3)<|xU<|tF (aa 2) (dP<|rW 1) wV) (kZ 0 1) cb<|bM ["Desk"] "meant" 3 cA (aa 2) (af (aa 0)<|xU<|aa 1)
def zy:XR:=cE (dj (dj (iz 1 eK<|xU<|aa 1) ac)<|dj ac ac) (xA (ah 1 fk<|xU<|aa 1) 2)<|cE wW (xA (xI (aa 2)<|rW 0) 3)<|cE (mq [none,none,some 0] (nQ<|af (bg Zp<|aa 3)<|xU<|tF (aa 2) (dP<|rW 1) wV) (kZ 0 1) cb (gY ["Desk"] "meant" 3 bZ (aa 2) (af (aa 0)<|xU<|aa 1))<|bM ["Desk"] "meant" 3 cA (aa 2) (af (aa 0)<|xU<|aa 1)) (xA jN 4)<|cE (k6 (aw<|xQ (aa 3)<|xL "names") wW ac) (xG (aw<|xQ (aa 3)<|xL "names")<|dQ lU lj (xL " ")<|xU<|cc (h1 gw)<|xU<|gW ["Desk"] "pictures" (aa 0))<|cE (k6 (aw<|xQ (aa 3)<|xL "back") (dj (dj (gY ["Desk"] "take_back" 1 dX (aa 0) aF) ac) ac)<|k6 (aw<|xQ (aa 3)<|xL "drop") wW<|k6 (aw<|az zZ (xL "NEW")<|bg Zp<|aa 3) wW wW) (gX (aw<|xQ (aa 3)<|xL "back") (bw<|bM ["Desk"] "take_back" 1 bC (aa 0) aF)<|gX (aw<|xQ (aa 3)<|xL "drop") (bw<|bM ["Desk"] "do" 3 da (aa 0) (af (xI (aa 2)<|rW 1)<|xU<|xC .N))<|gX (aw<|az zZ (xL "NEW")<|bg Zp<|aa 3) (bw<|bM ["Desk"] "do" 3 da (aa 0) (af (xI (aa 2)<|rW 1)<|xU<|ah 2 fU<|af (aa 3)<|xU<|tF (aa 4) (dP<|rW 1) wV))<|aM<|ah 2 lZ<|af (aa 3)<|xU<|aa 4) wW
def aZ:HR:=λds A=>if ds.length=2 then zy (ds.map some++agJ (5-2) none) A else none
def xY:BR T68 V7 (a8 (aP 100) 1)=aZ:=s!""
def V8:TR:=V7.meA "say" ["Desk"] 2 aZ
def l73:Zl:=["NoText", "NoRow", "NoName", "NoBack"]
def i73:KL:=[("NoRow",l73.zip [false,true,false,false]),("NoName",l73.zip [false,false,true,false]),("NoText",l73.zip [true,false,false,false]),("NoForm",l73.zip [false,false,false,false]),("TooGreat",l73.zip [false,false,false,false]),("NoBack",l73.zip [false,false,false,true]),("TooMany",l73.zip [false,false,false,false]),("ValueError",l73.zip [true,true,true,true])]
def zo:XS:=ak (gV (xC .N)<|au 2)<|ak (y9 l73 3 2 (gY ["Desk"] "say" 2 aZ (aa 0) (af (aa 1) aF))<|i73.map (·.2))<|ak (gX (tE (aw<|az x5 (aa 2)<|xC .N)<|tE (aw<|az (eA true) (dQ jD rN (aa 2)<|af (xC<|.B true) aF)<|rW 2)<|et<|cR<|az bI (aa 2)<|rW 7) (aM<|rW 9) bx)<|aM<|dQ jD wa (aa 2)<|af (xC<|.B true) aF
def bE:HF:=bS 2 4 zo
def zO:dfT T68 V8 i73 l73 "ShapeError" (aP 102)=bE:=s!""
def T69:Tab:=T68.fnA "_law_refused" 2 bE
def KU:XS:=ak (xG (aw<|xQ (cc (h1 b8)<|xU<|xI (aa 1)<|xL "past")<|rW 0)<|xQ (ah 2 bE<|af (aa 0)<|xU<|xL "back")<|rW 5)<|ak (ly (dQ jD Ew (xI (aa 1)<|xL "past") aF) (aa 1)<|xL "now")<|aM<|xQ (bM ["Desk"] "say" 2 aA (aa 0) (xU<|xL "back"))<|xL "ok"
def jd:HF:=bS 2 2 KU
def Lm:cH T69 (aP 108)=jd:=s!""
def T70:Tab:=T69.fnA "_law_back" 2 jd
def K0:XS:=ak (xG (aw<|az x5 (aa 0)<|xC .N)<|xL "nothing")<|ak (gV (aa 0)<|za 3<|bR (au 1)<|bR (au 2)<|bR (au 3) nR)<|ak (xG (aw<|xQ (aa 2)<|aa 3)<|az aN (az aN (cc (h1 mP)<|xU<|aa 1)<|xL ": ")<|cc (h1 mP)<|xU<|aa 2)<|aM<|az aN (az aN (az aN (az aN (cc (h1 mP)<|xU<|aa 1)<|xL ": ")<|cc (h1 mP)<|xU<|aa 2)<|xL "..")<|cc (h1 mP)<|xU<|aa 3
def jf:HF:=bS 1 4 K0
def Ls:cH T70 (aP 103)=jf:=s!""
def T71:Tab:=T70.fnA "_law_text" 1 jf
def Qh:XS:=ak (xA (az i9 (xI (aa 3)<|rW 0)<|xI (ej<|af (rW 5)<|xU<|az LF (rW 10)<|rW 58)<|az i9 (xI (aa 3)<|rW 1)<|rW 2) 4)<|ak (xA (az d6 (az i9 (xI (aa 3)<|rW 1)<|xI (ej<|af (rW 5)<|xU<|az LF (rW 10)<|rW 58)<|az i9 (az oj (xI (aa 3)<|rW 0)<|rW 2)<|rW 2)<|rW 2) 5)<|ak (bw<|dQ jD cU (xI (aa 1)<|xL "past")<|xU<|cc lF<|xU<|xI (aa 1)<|xL "now")<|ak (ly (bA<|af (aa 4)<|af (aa 5)<|xU<|az aN (aa 5)<|az i9 (az oj (xI (aa 3)<|rW 0)<|rW 8)<|rW 6) (xI (aa 1)<|xL "now")<|aa 2)<|aM<|xQ (bM ["Desk"] "say" 2 aA (aa 0) (xU<|az aN (az aN (az aN (xL "put ")<|aa 2)<|xL " ")<|ah 1 jf<|xU<|xI (xI (aa 1)<|xL "now")<|aa 2))<|xL "ok"
def wc:HF:=bS 4 6 Qh
def QU:cH T71 (aP 105)=wc:=s!""
def T72:Tab:=T71.fnA "_law_put" 4 wc
def zn:XS:=ak (xG (aw<|az (im true) (aa 2)<|xI (aa 1)<|xL "now")<|xQ (ah 2 bE<|af (aa 0)<|xU<|az aN (xL "drop ")<|aa 2)<|rW 1)<|ak (bw<|dQ jD cU (xI (aa 1)<|xL "past")<|xU<|cc lF<|xU<|xI (aa 1)<|xL "now")<|ak (bw<|dQ KD ll (xI (aa 1)<|xL "now")<|xU<|aa 2)<|aM<|xQ (bM ["Desk"] "say" 2 aA (aa 0) (xU<|az aN (xL "drop ")<|aa 2))<|xL "ok"
def je:HF:=bS 3 3 zn
def zN:cH T72 (aP 107)=je:=s!""
def T73:Tab:=T72.fnA "_law_dropped" 3 je
def KW:XS:=ak (xG (tE (aw<|az x5 (aa 1)<|xC .N)<|aw<|az zZ (aa 0)<|bA<|af (xL "less")<|xU<|xL "either")<|xC .N)<|ak (gV (aa 1)<|za 3<|bR (au 2)<|bR (au 3)<|bR (au 4) nR)<|ak (xG (aw<|xQ (aa 0)<|xL "greater")<|bA<|af (aa 2)<|af (az d6 (aa 3)<|rW 1)<|xU<|az aN (aa 4)<|rW 2)<|ak (xG (nP (aw<|az zZ (aa 0)<|bA<|af (xL "smaller")<|xU<|xL "opened")<|aw<|az z9 (az d6 (aa 4)<|aa 3)<|rW 3)<|xC .N)<|ak (xG (aw<|xQ (aa 0)<|xL "smaller")<|bA<|af (aa 2)<|af (az aN (aa 3)<|rW 1)<|xU<|az d6 (aa 4)<|rW 2)<|aM<|aa 1
def eD:HF:=bS 2 5 KW
def Lp:cH T73 (aP 104)=eD:=s!""
def T74:Tab:=T73.fnA "_law_made" 2 eD
def zk:XS:=ak (xA (xI (ej<|af (xL "join")<|af (xL "common")<|af (xL "less")<|af (xL "either")<|af (xL "greater")<|af (xL "smaller")<|af (xL "opened")<|af (xL "closed")<|af (xL "thin")<|xU<|xL "fill")<|aa 4) 5)<|ak (xA (az aN (az aN (az aN (az aN (aa 5)<|xL " ")<|aa 2)<|xL " ")<|aa 3) 6)<|ak (gX (aw<|az z9 (aa 4)<|rW 4) (xA (az aN (az aN (aa 6)<|xL " ")<|aa 3) 6)<|gX (aw<|az z9 (aa 4)<|rW 8) (xA (az aN (aa 6)<|xL " box 1 0 2 0") 6) bx)<|ak (xG (aw<|az (im true) (aa 3)<|xI (aa 1)<|xL "now")<|xQ (ah 2 bE<|af (aa 0)<|xU<|aa 6)<|rW 1)<|ak (bw<|dQ jD cU (xI (aa 1)<|xL "past")<|xU<|cc lF<|xU<|xI (aa 1)<|xL "now")<|ak (ly (ah 2 eD<|af (aa 5)<|xU<|xI (xI (aa 1)<|xL "now")<|aa 3) (xI (aa 1)<|xL "now")<|aa 2)<|aM<|xQ (bM ["Desk"] "say" 2 aA (aa 0) (xU<|aa 6))<|xL "ok"
def gF:HF:=bS 5 7 zk
def zM:cH T74 (aP 106)=gF:=s!""
def T75:Tab:=T74.fnA "_law_changed" 5 gF
def KZ:XS:=ak (xA (ej<|af (xL "a")<|af (xL "ab")<|af (xL "ba")<|xU<|xL "zzzzzzzz") 3)<|ak (xA (az oj (az i9 (az vK (xI (aa 2)<|rW 0)<|rW 48271)<|rW 2147483647)<|rW 37) 4)<|ak (xA (xI (aa 3)<|az i9 (az oj (aa 4)<|rW 8)<|rW 4) 5)<|ak (xA (xI (aa 3)<|az i9 (az oj (aa 4)<|rW 32)<|rW 4) 6)<|ak (xA (az i9 (aa 4)<|rW 8) 7)<|ak (xG (aw<|az z9 (aa 7)<|rW 3)<|ah 2 jd<|af (aa 0)<|xU<|aa 1)<|ak (xG (tE (aw<|xQ (aa 7)<|rW 3)<|aw<|xQ (cc (h1 b8)<|xU<|xI (aa 1)<|xL "now")<|rW 0)<|ah 4 wc<|af (aa 0)<|af (aa 1)<|af (aa 5)<|xU<|aa 2)<|ak (xG (aw<|xQ (aa 7)<|rW 4)<|ah 3 je<|af (aa 0)<|af (aa 1)<|xU<|aa 5)<|ak (xG (tE (aw<|xQ (aa 7)<|rW 6)<|aw<|az Ef (az i9 (az oj (aa 4)<|rW 128)<|rW 3)<|rW 0)<|ah 5 gF<|af (aa 0)<|af (aa 1)<|af (aa 5)<|af (aa 6)<|xU<|az i9 (az oj (aa 4)<|rW 1024)<|rW 10)<|aM<|lx (xQ (ah 2 bE<|af (aa 0)<|xU<|az aN (az aN (xL "put ")<|aa 5)<|xL " 0: 00")<|rW 2)<|xQ (ah 2 bE<|af (aa 0)<|xU<|az aN (xL "put ")<|aa 5)<|rW 0
def nj:HF:=bS 3 8 KZ
def Lr:cH T75 (aP 109)=nj:=s!""
def T76:Tab:=T75.fnA "_law_step" 3 nj
def KY:XS:=ak (xA (cc (h1 gw)<|xU<|xI (aa 1)<|xL "now") 3)<|ak (xG (aw<|az (eA true) (bM ["Desk"] "say" 2 aA (aa 0) (xU<|xL "names"))<|dQ lU lj (xL " ")<|xU<|aa 3)<|xC<|.B false)<|ak (xG (aw<|xQ (cc (h1 b8)<|xU<|aa 3)<|rW 0)<|xC<|.B true)<|ak (xA (xI (aa 3)<|az i9 (aa 2)<|cc (h1 b8)<|xU<|aa 3) 4)<|ak (xA (xI (xI (aa 1)<|xL "now")<|aa 4) 5)<|ak (xG (aw<|az x5 (aa 5)<|xC .N)<|lx (xQ (bM ["Desk"] "say" 2 aA (aa 0) (xU<|az aN (xL "show ")<|aa 4))<|xL "nothing")<|xQ (bM ["Desk"] "say" 2 aA (aa 0) (xU<|az aN (xL "pieces ")<|aa 4))<|xL "0")<|ak (xG (tE (aw<|az (eA true) (bM ["Desk"] "say" 2 aA (aa 0) (xU<|az aN (xL "show ")<|aa 4))<|ah 1 jf<|xU<|aa 5)<|aw<|az (eA true) (bM ["Desk"] "say" 2 aA (aa 0) (xU<|az aN (xL "pieces ")<|aa 4))<|xL "1")<|xC<|.B false)<|aM<|xQ (bM ["Desk"] "say" 2 aA (aa 0) (xU<|az aN (xL "count ")<|aa 4))<|cc (h1 mP)<|xU<|az aN (az d6 (xI (aa 5)<|rW 2)<|xI (aa 5)<|rW 1)<|rW 1
def kF:HF:=bS 3 6 KY
def Lq:cH T76 (aP 110)=kF:=s!""
def T77:Tab:=T76.fnA "_law_seen" 3 kF
def BD:XE:=aL [none,some 3,some 0] (pk<|xU<|rW 2) (au 0) cb<|xI (aa 2)<|az i9 (az aN (aa 1)<|aa 0)<|cc (h1 b8)<|xU<|aa 2
def Bx:XS:=ak (xA BD 4)<|xG (tE (et<|cR<|ah 3 nj<|af (aa 1)<|af (aa 2)<|xU<|aa 4)<|et<|cR<|ah 3 kF<|af (aa 1)<|af (aa 2)<|xU<|xI (aa 4)<|rW 1)<|xC<|.B false
def uT:XT:=aw<|az Ef (cc (h1 b8)<|xU<|xI (aa 2)<|xL "past")<|rW 0
def Bz:XS:=xG (tE (et<|cR<|ah 2 jd<|af (aa 1)<|xU<|aa 2)<|et<|cR<|ah 3 kF<|af (aa 1)<|af (aa 2)<|xU<|cc (h1 b8)<|xU<|xI (aa 2)<|xL "past")<|xC<|.B false
def VM:XS:=ak (xA (uP "Desk" 1 cZ aF) 1)<|ak (xA (uO ["now", "past"] [sI,ej aF]) 2)<|ak (fq (pk<|xU<|cc vj<|af (cc (h1 b8)<|xU<|aa 0)<|xU<|rW 98) (au 3) Bx)<|ak (fu uT Bz)<|aM<|lx (xQ (ah 2 bE<|af (aa 1)<|xU<|xL "back")<|rW 5)<|xQ (bM ["Desk"] "say" 2 aA (aa 1) (xU<|xL "names"))<|xL ""
def um:HF:=bS 1 5 VM
def Wf:cH T77 (aP 111)=um:=s!""
section
variable {A A' A2:Hh}{n:Nat}{b:B}{d:D}{l:Zc}{U:Env}
def cW(h:A <+: A')(hn:A.length<=n):A <+: A'.set n b:=by let⟨t,rfl⟩:=h;rw[agl _ _ hn];show aap _ _
def aj:(A++[b])[A.length]?=some b:=aep
def gv(h:A[n]?=some b):n<A.length:=(aa0.1 h).1
def cF{c:B}(h:A[n]?=some c):(A.set n b)[n]?=some b:=acf<|gv h
def CY(h:A[n]?=some (.L l)):iR A (.ref n)=some l:=by show A[n]?.bind B.ls=_;rw[h];rfl
@[simp]def ace(h:n<=1000000):(n<=ZF)=True:=eq_true<|aaN h (by rw[aaS];decide)
@[simp]def WK(h:n<=1000000):(n<ZF)=True:=eq_true<|adh h (by rw[aaS];decide)
def Tl(f:HF)(ds:Zc)(A:Hh)(d:D):Prop:=∃A',f ds A=some (d,A')/\A <+: A'
def Nl(r:Option<|D×Hh)(A:Hh)(l:Zc):Prop:=∃A' n,r=some (.ref n,A')/\A <+: A'/\A.length<=n/\A'[n]?=some (.L l)
abbrev FA(f:HF)(ds:Zc)(A:Hh)(l:Zc):Prop:=Nl (f ds A) A l
def Kz(w:Wk)(l:Zc)(A:Hh):Prop:=∀i,i<=l.length->w.stp i A=some l[i]?
def eh:Kz (.sq l) l A:=λi h=>by show (if i<=l.length then some l[i]? else none)=_;rw[aac h]
def fg(h:A[n]?=some (.L l)):Kz (.ls n) l A:=λi _=>by show (A[n]?.bind B.ls).map _=_;rw[h];rfl
def bO(h:A[n]?=some (.L l)):(Wk.ls n).len A=l.length:=by show ((A[n]?.bind B.ls).getD []).length=_;rw[h];rfl
def kC{O:Type}{enc:O->D}{g:XG}{x:XS} {as:List O}(P:List O->Env->Hh->Prop)(hw:∀pre post U A,as=pre++post->P pre U A->Kz w (as.map enc) A)
  (hs:∀pre a post U A,as=pre++a::post->P pre U A->∃U1 A1,g (enc a) U A=some (U1,A1)/\∃U2 A2,(x U1 A1=some (.nx U2,A2)\/False)/\P (pre++[a]) U2 A2) (h0:P [] U A) :
  ∃U' A',ja g x w (as.length+1) 0 U A=some (.nx U',A')/\P as U' A':=by
 have key:∀(post pre:List O) (U:Env) (A:Hh),as=pre++post->P pre U A->∃U' A',ja g x w (post.length+1) pre.length U A=some (.nx U',A')/\P as U' A':=by
  intro post;induction post with
  |nil=>
   intro pre U A e h;rw[abf] at e;subst e;have:=hw as [] U A (abf _).symm h as.length (by rw[aar];show aaq _);rw[acQ<|by rw[aar];show aaq _] at this;show⟨U,A,by unfold ja;rw[this],h⟩
  |cons a post ih=>
   intro pre U A e h;have:=hw pre (a::post) U A e h pre.length (by rw[aar,e,aat];show acS _ _);rw[e,ack,acK<|by rw[aar];show aaq _,aar,aes] at this;let⟨U1,A1,q1,U2,A2,q2,h2⟩:=hs pre a post U A e h;let⟨U',A',k1,k2⟩:=ih (pre++[a]) U2 A2 (by rw[e,abY];rfl) h2;rw[aat,acN] at k1;split⟨U',A',?_,k2⟩;rw[aay];unfold ja;rw[this];show ((g (enc a) U A).bind _)=_;rw[q1];show ((x U1 A1).bind _)=_;rcases q2 with q2|q2
   .rw[q2];show k1
   .ext q2
 show key as [] U A rfl h0
def Fx{c:XT}{x:XS}(P:Env->Hh->Prop)(μ:Env->Hh->Nat)(Q:Env->Hh->Prop)
  (hs:∀U A,P U A->(∃A1,c U A=some (false,A1)/\Q U A1)\/∃A1,c U A=some (true,A1)/\∃U2 A2,x U A1=some (.nx U2,A2)/\P U2 A2/\μ U2 A2<μ U A) (h0:P U A) (hm:μ U A<18446744073709551616) :
  ∃U' A',fu c x U A=some (.nx U',A')/\Q U' A':=by
 have key:∀(f:Nat) (U:Env) (A:Hh),P U A->μ U A<f->∃U' A',iy c x f U A=some (.nx U',A')/\Q U' A':=by
  intro f;induction f with
  |zero=>intro U A _ h;show absurd h<|afb _
  |succ f ih=>
   intro U A h hf;rcases hs U A h with ⟨A1,q,k⟩|⟨A1,q,U2,A2,q2,h2,hl⟩
   .exact⟨U,A1,by unfold iy xb;rw[q];rfl,k⟩
   .let⟨U',A',k1,k2⟩:=ih U2 A2 h2<|aaZ hl<|Nat.le_of_lt_succ hf;split⟨U',A',?_,k2⟩;unfold iy xb;rw[q];show ((x U A1).bind _)=_;rw[q2];show k1
 show key _ U A h0 hm
def hG{O:Type}{enc:O->D}{f:O->Zd}{js:List<|Option Nat}{it:XI}{g:XG}{c:XT}{e:XE}{w:Wk}{as:List O}(hi:it U A=some (w,A2))(hl:w.len A2=as.length)(hz:as.length<=1000000)(hw:∀A',A2 <+: A'->Kz w (as.map enc) A')
  (hs:∀a∈as,∀A',A2 <+: A'->∃U1,g (enc a) (iq js U) A'=some (U1,A')/\((f a=none/\c U1 A'=some (false,A'))\/∃y A3,f a=some y/\c U1 A'=some (true,A')/\e U1 A'=some (y,A3)/\A' <+: A3)) :
  Nl (aL js it g c e U A) A2 (as.filterMap f):=by
 have key:∀(post pre:List O) (A':Hh),as=pre++post->A2 <+: A'->A'[A2.length]?=some (.L<|pre.filterMap f)->∃A3,g9 g c e w A2.length (iq js U) (post.length+1) pre.length A'=some A3/\A2 <+: A3/\A3[A2.length]?=some (.L<|as.filterMap f):=by
  intro post;induction post with
  |nil=>
   intro pre A' ea hp ha;rw[abf] at ea;subst ea;have:=hw A' hp as.length (by rw[aar];show aaq _);rw[acQ<|by rw[aar];show aaq _] at this;show⟨A',by unfold g9;rw[this],hp,ha⟩
  |cons a post ih=>
   intro pre A' ea hp ha;have:=hw A' hp pre.length (by rw[aar,ea,aat];show acS _ _);rw[ea,ack,acK<|by rw[aar];show aaq _,aar,aes] at this;let⟨U1,q1,q⟩:=hs a (by rw[ea];simp) A' hp;rw[aay];unfold g9;rw[this];show ∃A3,((g (enc a) (iq js U) A').bind _)=_/\_;rw[q1];have en:as=(pre++[a])++post:=by rw[ea,abY];rfl
   have el:(pre++[a]).length=pre.length+1:=by rw[aat];rfl
   rcases q with ⟨q2,q3⟩|⟨y,A3,q2,q3,q4,q5⟩
   .let⟨A4,k1,k2⟩:=ih (pre++[a]) A' en hp (by rw[ha,agm];simp[q2]);split⟨A4,?_,k2⟩;show ((c U1 A').bind _)=_;rw[q3];rw[el] at k1;show k1
   .have ha3:=ai q5 ha;let⟨A4,k1,k2⟩:=ih (pre++[a]) (A3.set A2.length<|.L<|pre.filterMap f++[y]) en (cW (hp.trans q5)<|aaq _) (by rw[cF ha3,agm];simp[q2]);split⟨A4,?_,k2⟩;show ((c U1 A').bind _)=_;rw[q3];show ((e U1 A').bind _)=_;rw[q4];have Zz:(pre.filterMap f).length<ZF:=by
     have h1:=List.length_filterMap_le f pre;have h2:pre.length<as.length:=by rw[ea,aat,aay];lia
     rw[aaS];lia
    have e1:(mm A3 (.ref A2.length) λl=>if l.length<ZF then some (l++[y],D.N) else none)=some (.N,A3.set A2.length<|.L<|pre.filterMap f++[y]):=by show ((A3[A2.length]?.bind B.ls).bind _)=_;rw[ha3];show ah3 _ (if _ then _ else _)=_;rw[aac Zz];rfl
    show (ajd (mm A3 (.ref A2.length) _) _)=_;rw[e1];rw[el] at k1;show k1
 let⟨A3,k1,k2⟩:=key as [] (A2++[.L []]) rfl (aap _ _) aj;split⟨A3,A2.length,?_,k2.1,aaq _,k2.2⟩;unfold aL xb;rw[hi];show ah3 _ (g9 g c e w A2.length (iq js U) (w.len A2+1) 0<|A2++[.L []])=_;rw[hl];show aaQ.2 ⟨A3,k1,rfl⟩
end
end Y
namespace Rw
abbrev R:=List<|Int×Int
end Rw
namespace P
open L2 Y Rw
abbrev l9(p:Int×Int):D:=.T [.int p.1,.int p.2]
abbrev ef(r:R):D:=.T<|r.map l9
abbrev oW:=Int×Int×Int
abbrev cq(t:oW):D:=.T [.int t.1,.int t.2.1,.int t.2.2]
abbrev tL:=List<|Int×R
abbrev g7(q:Int×R):D:=.T [.int q.1,ef q.2]
abbrev ax(p:tL):D:=.T<|p.map g7
def f7{n:Nat}(h:n<=1000000):n<=ZF:=aaN h (by rw[aaS];decide)
def PK{n:Nat}(h:n<=1000000):n<ZF:=adh h (by rw[aaS];decide)
theorem vp{O:Type}{f:D->Option O}{g:O->D}(h:∀a,f (g a)=some a):∀l:List O,fv f (l.map g)=some l
 |[]=>rfl
 |a::l=>by rw[aax,fv,h a,vp h l];rfl
theorem iJ{O β:Type}{f:D->Option β}{g:O->D}{k:O->β}(h:∀a,f (g a)=some (k a)):∀l:List O,fv f (l.map g)=some (l.map k)
 |[]=>rfl
 |a::l=>by rw[aax,fv,h a,iJ h l];rfl
def iG{O:Type}(t:List O)(q:O):kT (t++[q]) (-1)=some q:=by
 unfold kT Eo;have h1:-(((t++[q]).length:Nat):Int) <= -1:=by rw[aat];simp;lia
 rw[aad ⋯,aac h1];show (t++[q])[(-1+(((t++[q]).length:Nat):Int)).toNat]?=_;rw[show (-1+(((t++[q]).length:Nat):Int)).toNat=t.length by rw[aat];simp;lia];show aep
def Hq(n:Nat):Eo (n+1) (-1)=some n:=by unfold Eo;rw[aad ⋯,aac ()];congr 1;lia
end P
namespace Y
open L2
section
variable {U U1:Env}{A A1 A2 A3 A4:Hh}{s t:XS}{a b o:XE}{c:XT}{d e:D}{l:Zc}{f:H2}{F:HF}{g:XG}{as:XA}{q:Bool}{j:Nat}{Ns:Zl}{m:Str}{p:Str×List (Str×D)}{r:Option<|D×Hh}{u v w:Option<|Out×Hh}{O β:Type}{x y z:O}
def bd{a:Option<|O×Hh}{f:O×Hh->Option β}{r:Option β}(h:a=some (x,A1))(k:f (x,A1)=r):a.bind f=r:=by rw[h];show k
def eS{o:Out}(h:s U A=some (o,A1))(k:(o.isNx.elim (some (o,A1)) λU1=>t U1 A1)=u):ak s t U A=u:=bd h k
def NO(k:t U1 A1=u):((Out.nx U1).isNx.elim v λU1=>t U1 A1)=u:=k
def cy(h:s U A=some (.nx U1,A1))(k:t U1 A1=u):ak s t U A=u:=eS h<|NO k
def bQ(h:c U A=some (q,A1))(k:(if q=true then s U A1 else t U A1)=u):gX c s t U A=u:=bd h k
def dh(h:q=true)(k:x=z):(if q=true then x else y)=z:=(aac h).trans k
def fV(h:q=false)(k:y=z):(if q=true then x else y)=z:=by subst h;show k
def ay(h:a U A=some (d,A1)):aM a U A=some (.rt d,A1):=bd h rfl
def d8(h:a U A=some (d,A1))(k:g d U A1=some (U1,A2)):gV a g U A=some (.nx U1,A2):=bd h (by show (g d U A1).map _=_;rw[k];rfl)
def gS(h:a U A=some (d,A1))(e:U=U1):bw a U A=some (.nx U1,A1):=bd h<|#v[e]
def eR(h:c U A=some (false,A1))(k:t U A1=u):ak (gX c s bx) t U A=u:=cy (bQ h<|fV rfl rfl) k
def bG{i:Nat}(h:a U A=some (d,A1))(k:t (U.set i<|some d) A1=u):ak (gV a<|au i) t U A=u:=cy (d8 h rfl) k
def NP(h:a U A=some (d,A1))(k:t U A1=u):ak (bw a) t U A=u:=cy (gS h rfl) k
def ao(h:a U A=some (d,A1))(k:b U A1=some (e,A2))(z:f d e A2=r):az f a b U A=r:=bd h<|bd k z
def bJ(z:f d e A=r)(h:a U A=some (d,A):=by rfl)(k:b U A=some (e,A):=by rfl):az f a b U A=r:=ao h k z
def av(h:a U A=some (.B q,A1)):aw a U A=some (q,A1):=bd h rfl
def ag{bs:XA}(h:a U A=some (d,A1))(k:bs U A1=some (l,A2)):af a bs U A=some (d::l,A2):=bd h<|bd k rfl
def aB(h:a U A=some (d,A1)):af a aF U A=some ([d],A1):=ag h rfl
def al(h:as U A=some (l,A1))(hl:l.length=j)(k:F l A1=r):ah j F as U A=r:=bd h<|(aac hl).trans k
def cP(ho:o U A=some (d,A1))(hi:pG A1 d=some p)(hn:p.1∈Ns/\p.2.lookup m=none)(h:as U A1=some (l,A2))(hl:(d::l).length=j)(k:F (d::l) A2=r):bM Ns m j F o as U A=r:=bd ho (by
 show (pG A1 d).bind _=_;rw[hi]
 show (aac hn).trans<|bd h<|(aac hl).trans k)
def bn(h:as U A=some (l,A1))(k:F l A1=r):cc F as U A=r:=bd h k
def aai{f:D->Hh->Option (D×Hh)}(h:a U A=some (d,A1))(k:f d A1=r):tG f a U A=r:=bd h k
def YQ{n:Nat}(z:ahR n 1000=true):n<=ZF:=aaN (adW z) (by rw[aaS];decide)
def bV(h:as U A=some (l,A1))(z:ahR l.length 1000=true)(e:.T l=d):bA as U A=some (d,A1):=bd h<|(aac<|YQ z).trans<|#v[e]
def d9(h:as U A=some (l,A1))(z:ahR l.length 1000=true):ej as U A=some (.ref A1.length,A1++[.L l]):=bd h<|aac<|YQ z
def lv{b:XT}{n:Option<|Bool×Hh}(h:c U A=some (q,A1))(k:(if q=true then b U A1 else some (false,A1))=n):nP c b U A=n:=bd h k
def oJ{b:XT}{n:Option<|Bool×Hh}(h:c U A=some (q,A1))(k:(if q=true then some (true,A1) else b U A1)=n):tE c b U A=n:=bd h k
def fh(h:c U A=some (q,A1)):et c U A=some (!q,A1):=bd h rfl
def P5(h:a U A=some (d,A1))(k:JS A1 d=some q):cR a U A=some (q,A1):=bd h (by show (JS A1 d).map _=_;rw[k];rfl)
def eM{c:Hh->D->Bool}(ho:o U A=some (d,A1))(hc:c A1 d=true)(h:as U A1=some (l,A2))(k:F (d::l) A2=r):dQ c F o as U A=r:=bd ho<|(aac hc).trans<|bd h k
def Dq{f:Str}(h:a U A=some (d,A1))(hi:pG A1 d=some p)(hn:p.1∈Ns)(k:p.2.lookup f=some e):gW Ns f a U A=some (e,A1):=bd h (by
 show (pG A1 d).bind _=_;rw[hi]
 show (aac hn).trans<|by rw[k];rfl)
def Kc{N:Str}(h:as U A=some (l,A1))(hl:l.length+1=j)(k:F (.ref A1.length::l) (A1++[.ins N []])=some (.N,A2)):uP N j F as U A=some (.ref A1.length,A2):=bd h<|(aac hl).trans<|bd k rfl
def Bn{t:List<|Str×D}{x:Str}(h:a U A=some (.str x,A1))(k:t.lookup x=some e):bg t a U A=some (e,A1):=bd h (by show ((t.lookup x).map _)=_;rw[k];rfl)
def bv{k:Nat}{i:Int}(h:A[k]?=some (.L l))(e:kT l i=some d):bI (.ref k) (.int i) A=some (d,A):=by simp[h,e]
def Kb{i:Nat}{f:H2}(h0:U[i]?=some (some d))(h:a U A=some (e,A1)){x:D}(k:f d e A1=some (x,A2))(z:U.set i (some x)=U1):y6 i a f U A=some (.nx U1,A2):=by show (U[i]?.join.bind _)=_;rw[h0];show bd h (by show (f d e A1).map _=_;rw[k,<-z];rfl)
def cD{i:Int}(e:kT l i=some d):bI (.T l) (.int i) A=some (d,A):=by simp[e]
def aaR{i j:Int}(h:decide (i<j)=q):z9 (.int i) (.int j) A=some (.B q,A):=by subst h;rfl
def aU{j n:Nat}{x:XS}{xs:Zc}(hl:xs.length=j)(h:x (xs.map some++agJ (n-j) none) A=some (.rt d,A1)):bS j n x xs A=some (d,A1):=(aac hl).trans<|bd h rfl
def aaf{j n:Nat}{x:XS}{xs:Zc}(hl:xs.length=j)(h:x (xs.map some++agJ (n-j) none) A=some (.nx U1,A1)):bS j n x xs A=some (.N,A1):=(aac hl).trans<|bd h rfl
def c9{n:Nat}{N:Str}{fs:List<|Str×D}(h:A[n]?=some (.ins N fs)):pG A (.ref n)=some (N,fs):=by show A[n]?.bind _=_;rw[h];rfl
def ed{k:Nat}{j:Int}(h:A[k]?=some (.L l))(e:(l.length:Int)=j):h1 b8 [.ref k] A=some (.int j,A):=by subst e;simp[h]
def cI{k:Nat}(h:A[k]?=some (.L l)):jD A (.ref k)=true:=by simp[h]
def wO{k:Nat}(h:A[k]?=some (.L l))(e:(!l.isEmpty)=q):JS A (.ref k)=some q:=by subst e;simp[h]
def acg{i j:Int}(h:decide (j<i)=q):Ef (.int i) (.int j) A=some (.B q,A):=by subst h;rfl
def acn{i j:Int}(h:decide (i<=j)=q):Rg (.int i) (.int j) A=some (.B q,A):=by subst h;rfl
def jA{I:XI}{w:Wk}{n:Nat}(h:I U A=some (w,A1))(hl:w.len A1=n)(k:ja g s w (n+1) 0 U A1=v):fq I g s U A=v:=by subst hl;show bd h k
def PZ{i:Int}(h:as U A=some ([.int i],A1))(k:-(2^62)<=i/\i<2^62):pk as U A=some (.sq ((ZV i.toNat).map λk:Nat=>.int k),A1):=bd h<|aac k
def Bp{i:Nat}(h:U[i]?=some (some d)):aa i U A=some (d,A):=by show (U[i]?.join).map _=_;rw[h];rfl
def b7{x y:Str}(h:x=y):xC (.str x) U A=some (.str y,A):=by rw[h];rfl
def eX{i j:Int}(h:decide (0<j)=true):i9 (.int i) (.int j) A=some (.int<|i%j,A):=aac<|abT h
def Hz{n:Nat}{f:Nat->D}:(Wk.sq<|(ZV n).map f).len A=n:=(aar _).trans<|acl
def i8{i j:Int}(h:decide (0<j/\j<1073741824)=true):oj (.int i) (.int j) A=some (.int<|i/j,A):=aac<|abT h
def rY{i j:Int}(h:CMul i j):vK (.int i) (.int j) A=some (.int<|i*j,A):=aac h
def Bo{c y x:D}(h:a U A=some (c,A1))(h2:o U A1=some (d,A2))(h3:b U A2=some (y,A3))(k:re c d y A3=some (x,A4))(e:U=U1):ly a o b U A=some (.nx U1,A4):=bd h<|bd h2<|bd h3 (by show (re c d y A3).map _=_;rw[k,e];rfl)
def Jn{n:Nat}{c x:D}(h:A[n]?=some (.L<|l++[x]))(e:A.set n (.L<|l++[c])=A2):re c (.ref n) (.int<|-1) A=some (.N,A2):=by show (((A[n]?.bind B.ls).bind _).or _)=_;rw[h];show (((Eo (l++[x]).length<|-1).map _).map _).or _=_;rw[aat,acN,P.Hq,<-e];show (some (D.N,A.set n<|.L<|(l++[x]).set l.length c)).or _=_;rw[agl _ _<|aaq _,aes];rfl
def gU{n:Nat}(h:a U A=some (.ref n,A1))(k:A1[n]?=some (.L l)):bc a U A=some (.ls n,A1):=by show ((a U A).bind _)=_;rw[h];show ((A1[n]?.bind B.ls).map _).or _=_;rw[k];rfl
def BI{l':Zc}(z:l.length+l'.length<=1000000):aN (.T l) (.T l') A=some (.T<|l++l',A):=by show ((if l.length+l'.length<=ZF then some (D.T<|l++l',A) else none).or _)=_;rw[aac<|P.f7 z];rfl
def kt{k:Nat}(h:A[k]?=some (.L l)):h1 i5 [.ref k] A=some (.T l,A):=by show (A[k]?.bind B.ls).map _=_;rw[h];rfl
def lQ{k m:Nat}{l':Zc}(h:A[k]?=some (.L l))(h2:A[m]?=some (.L l'))(z:l.length+l'.length<=1000000)(e:A.set k (.L<|l++l')=A2):dU [.ref k,.ref m] A=some (.N,A2):=by show (A[m]?.bind B.ls).bind _=_;rw[h2];show ((A[k]?.bind B.ls).bind _)=_;rw[h];show ((if l.length+l'.length<=ZF then some (l++l',D.N) else none).map _)=_;rw[aac<|P.f7 z,<-e];rfl
def Ve{t:List<|Str×D}{x:Str}(h:a U A=some (.str x,A1))(k:t.lookup x=some e):ju true t a U A=some (.B false,A1):=bd h (by
 show some (D.B<|true ^^ (t.lookup x).isSome,A1)=_;rw[k]
 rfl)
def BH{i j:Nat}{l':Zc}(h:A[i]?=some (.L l))(h2:A[j]?=some (.L l'))(z:l.length+l'.length<=1000000):aN (.ref i) (.ref j) A=some (.ref A.length,A++[.L<|l++l']):=by show ((A[i]?.bind B.ls).bind _)=_;rw[h];show ((A[j]?.bind B.ls).bind _)=_;rw[h2];show aac<|P.f7 z
end
end Y
open Lean Y in
local macro_rules | `(tactic| erw $s:rwRuleSeq)=>do let a ← s.raw[1].getSepArgs.mapM λh=>`(tactic| with_reducible exact $(⟨h[1]⟩));let b ← #[``ag,``ao,``av,``al,``cP,``ay,``d8,``gS,``eS,``NO,``bQ,``bn,``aai,``bV,``d9,``lv,``oJ,``fh,``P5,``eM,``Dq,``Kc,``Bn,``Kb,``jA,``Bo,``gU,``eX,``i8,``rY].mapM λn=>`(tactic| with_reducible apply $(mkIdent n));let e ← s.raw[1].getSepArgs.mapM λh=>`(tactic| exact $(⟨h[1]⟩));let c:=a ++ b ++ e;`(tactic| ((try (apply aU;rfl));(try first | apply eS | apply ay | apply bQ | apply gS | apply av | apply lv);repeat' (first $[| $c:tactic]* | ((with_reducible apply dh);rfl) | ((with_reducible apply fV);rfl) | rfl)))
namespace P
open L2 Y Rw
open M (bh)
def lC{A A2:Hh}{k:Nat}{l:Zc}{x:D}(h:A[k]?=some (.L l))(z:l.length<=1000000)(e:A.set k (.L<|l++[x])=A2):cU [.ref k,x] A=some (.N,A2):=by subst e;simp[h,PK z]
@[simp]def fY{O:Type}{a:O}{t:List O}:kT (a::t) 0=some a:=bh (j:=0) rfl
@[simp]def qz{O:Type}{a b:O}{t:List O}:kT (a::b::t) 1=some b:=bh (j:=1) rfl
@[simp]def VQ{O:Type}{a b c:O}{t:List O}:kT (a::b::c::t) 2=some c:=bh (j:=2) rfl
@[simp]def VR{O:Type}{a b c d:O}{t:List O}:kT (a::b::c::d::t) 3=some d:=bh (j:=3) rfl
end P
namespace Y
open L2
section
variable {A A2:Hh}{n i:Nat}{U:Env}{O:Type}{enc h:O->D}{f:O->Zd}{js:List<|Option Nat}{it:XI}{g:XG}{c:XT}{e:XE}{w:Wk}{as:List O}
def cj(hi:it U A=some (w,A2))(hl:w.len A2=as.length)(hz:as.length<=1000000)(hw:∀A',A2 <+: A'->Kz w (as.map enc) A')
  (hs:∀a∈as,∀A',A2 <+: A'->∃U1,g (enc a) (iq js U) A'=some (U1,A')/\∃A3,e U1 A'=some (h a,A3)/\A' <+: A3):Nl (aL js it g cb e U A) A2<|as.map h:=by
 have:=hG (f:=λa=>some<|h a) (c:=cb) hi hl hz hw λa ha A' p=>by let⟨U1,q1,A3,q2,q3⟩:=hs a ha A' p;show⟨U1,q1,.inr ⟨h a,A3,rfl,rfl,q2,q3⟩⟩
 rwa[show as.filterMap (λa=>some<|h a)=as.map h from agn▸rfl] at this
@[simp]def abk{l:Zc}:Wk.len A (.sq l)=l.length:=rfl
def NV{l:Zc}(h0:U[i]?=some (some<|.T l)):bc (aa i) U A=some (.sq l,A):=by simp[h0]
def wU{l:Zc}(h0:U[i]?=some (some<|.ref n))(ha:A[n]?=some (.L l)):bc (aa i) U A=some (.ls n,A):=by simp[h0,ha]
def xF(h0:U[i]?=some (some<|.T<|as.map enc))(hz:as.length<=1000000)
  (hs:∀a∈as,∀A',A <+: A'->∃U1,g (enc a) (iq js U) A'=some (U1,A')/\∃A3,e U1 A'=some (h a,A3)/\A' <+: A3):Nl (aL js (bc<|aa i) g cb e U A) A<|as.map h:=
 cj (enc:=enc) (NV h0) (aar _) hz (λ_ _=>eh) hs
end
def Cd{O:Type}[DecidableEq O](n:Nat)(enc:O->D):Prop:=∃m:O->M.D,(∀a,yP (enc a)=some (m a)/\M.g6 n (m a)=true)/\∀a b,M.FD (m a) (m b)=decide (a=b)
theorem yQ{O:Type}{enc:O->D}{m:O->M.D}(h:∀a,yP (enc a)=some (m a)):∀l:List O,toPs (l.map enc)=some (l.map m)
 |[]=>by simp[toPs]
 |a::l=>by rw[aax,toPs,h,yQ h l];rfl
theorem yt{O:Type}{n:Nat}{f:O->M.D}(h:∀a,M.g6 n (f a)=true):∀l:List O,M.okDs n (l.map f)=true
 |[]=>by simp[M.okDs]
 |a::l=>by rw[aax,M.okDs,h,yt h l];rfl
theorem xX{O:Type}[DecidableEq O]{m:O->M.D}(h:∀a b,M.FD (m a) (m b)=decide (a=b)):∀l k:List O,M.Wg (l.map m) (k.map m)=decide (l=k)
 |[],[]=>by simp;rfl
 |[],_::_=>by simp;rfl
 |_::_,[]=>by simp;rfl
 |a::l,b::k=>by show (M.FD (m a) (m b)&&M.Wg (l.map m) (k.map m))=_;rw[h,xX h l k];by_cases e1:a=b<;>by_cases e2:l=k<;>simp[e1,e2]
section
variable {O β γ δ:Type}[DecidableEq O][DecidableEq β][DecidableEq γ][DecidableEq δ]{n:Nat}{e1:O->D}{e2:β->D}
def cd_int:Cd n D.int:=⟨.int,λa=>⟨by simp[yP],by cases n<;>simp[M.g6]⟩,λa b=>rfl⟩
def Cd.lst(h:Cd n e1):Cd (n+1) λl:List O=>D.T (l.map e1):=by let⟨m,h1,h2⟩:=h;show⟨λl=>.mtp<|l.map m,λl=>⟨by rw[yP,yQ λa=>(h1 a).1];rfl,by rw[M.g6];show yt (λa=>(h1 a).2) l⟩,λa b=>xX h2 a b⟩
def Cd.two(h:Cd n e1)(k:Cd n e2):Cd (n+1) λp:O×β=>D.T [e1 p.1,e2 p.2]:=by let⟨m,h1,h2⟩:=h;let⟨l,k1,k2⟩:=k;split⟨λp=>.mtp [m p.1,l p.2],λp=>⟨by simp[yP,toPs,h1,k1],by simp[M.g6,M.okDs,h1,k1]⟩,λa b=>?_⟩;let⟨a1,a2⟩:=a;let⟨b1,b2⟩:=b;show (M.FD (m a1) (m b1)&&(M.FD (l a2) (l b2)&&true))=_;simp[h2,k2]
def Cd.eq(neg:Bool)(h:Cd 50 e1)(a b:O):eA neg (e1 a) (e1 b) A=some (.B (if neg then !decide (a=b) else decide (a=b)),A):=by let⟨m,h1,h2⟩:=h;unfold eA Fs;rw[(h1 a).1,(h1 b).1];show (if _ then _ else _)=_;rw[aac ⟨(h1 a).2,(h1 b).2⟩,h2]
@[simp]def BU(neg:Bool)(a b:Int):eA neg (.int a) (.int b) A=some (.B (if neg then !decide (a=b) else decide (a=b)),A):=cd_int.eq neg a b
def pO{neg:Bool} (ha:ahf a=true)(hb:ahf b=true):eA neg (.str a) (.str b) A=some (.B (if neg then !decide (a=b) else decide (a=b)),A):=by
 have e:(a==b)=decide (a=b):=by rw[adF];simp
 unfold eA Fs;simp[yP,M.g6,show M.FD (.str a) (.str b)=(a==b) from rfl,ha,hb,e]
end
end Y
namespace P
open L2 Y Rw
def cd_row{n:Nat}:Cd (n+2) ef:=(Cd.two cd_int cd_int).lst
def cd_pic{n:Nat}:Cd (n+4) ax:=(Cd.two (e2:=ef) cd_int cd_row).lst
def GR(neg:Bool)(p:R):eA neg (ef p) (.T []) A=some (.B (if neg then !decide (p=[]) else decide (p=[])),A):=cd_row.eq neg p []
def GQ(neg:Bool)(p:tL):eA neg (ax p) (.T []) A=some (.B (if neg then !decide (p=[]) else decide (p=[])),A):=cd_pic.eq neg p []
def bK{i j:Int}{b:Bool}(h:decide (i=j)=b):eA false (.int i) (.int j) A=some (.B b,A):=by rw[BU,h];rfl
def kh{i j:Int}{b:Bool}(h:(!decide (i=j))=b):eA true (.int i) (.int j) A=some (.B b,A):=by rw[BU,<-h];rfl
end P
namespace Y
open L2
section
variable {U U1 U2:Env}{A A1 A2:Hh}{g:XG}{x:XS}{w:Wk}{n i:Nat}{d y:D}{r:Option<|Out×Hh}{I:XI}{js:List<|Option Nat}{c:XT}{e:XE}{l:Zc}
def Ei(hw:w.stp i A=some (some d))(hg:g d U A=some (U1,A1))(hx:x U1 A1=some (.nx U2,A2))(k:ja g x w n (i+1) U2 A2=r):ja g x w (n+1) i U A=r:=by unfold ja;rw[hw];show bd hg<|bd hx k
def x8(hw:w.stp i A=some none):ja g x w (n+1) i U A=some (.nx U,A):=by unfold ja;rw[hw]
def eL{k:Nat}{o:Zd}(h:A[k]?=some (.L l))(e:l[i]?=o):(Wk.ls k).stp i A=some o:=by subst e;show (A[k]?.bind B.ls).map _=_;rw[h];rfl
def Wq(h:I U A=some (w,A1))(hl:w.len A1=0)(hw:w.stp 0 A1=some none):fq I g x U A=some (.nx U,A1):=jA h hl<|x8 hw
def Ou(h:I U A=some (.sq [],A1)):fq I g x U A=some (.nx U,A1):=Wq h rfl rfl
def BX{k:Nat}(h:I U A=some (.ls k,A1))(e:A1[k]?=some (.L [])):fq I g x U A=some (.nx U,A1):=Wq h (bO e)<|eL e rfl
def BZ(h:I U A=some (.sq [d],A1))(hg:g d U A1=some (U1,A1))(hx:x U1 A1=some (.nx U2,A2)):fq I g x U A=some (.nx U2,A2):=jA h rfl<|Ei rfl hg hx<|x8 rfl
def qH(hi:I U A=some (w,A1))(hl:w.len A1=0)(hw:w.stp 0 (A1++[.L []])=some none):aL js I g c e U A=some (.ref A1.length,A1++[.L []]):=by unfold aL;split bd hi ?_;dsimp only;rw[hl];unfold g9;rw[hw];rfl
def nZ(hi:I U A=some (.sq [],A1)):aL js I g c e U A=some (.ref A1.length,A1++[.L []]):=qH hi rfl rfl
def g8{a:XE}(h:a U A=some (.T l,A1)):bc a U A=some (.sq l,A1):=by show (a U A).bind _=_;rw[h];rfl
def Kj{s:XS}{n:Nat}(h:c U A=some (true,A1))(hx:s U A1=some (.nx U2,A2))(k:iy c s n U2 A2=r):iy c s (n+1) U A=r:=bd h<|bd hx k
def Br{n:Nat}(h:c U A=some (false,A1)):iy c s (n+1) U A=some (.nx U,A1):=bd h rfl
def fi{a:XE}{q:Bool}(h:a U A=some (.B q,A1)):cR a U A=some (q,A1):=P5 h (by cases q<;>rfl)
def xE(hi:I U A=some (w,A1))(hl:w.len A1=1)(hw:∀A',A1 <+: A'->Kz w [d] A')(hs:∀A',A1 <+: A'->∃U1,g d (iq js U) A'=some (U1,A')/\∃A3,e U1 A'=some (y,A3)/\A' <+: A3):Nl (aL js I g cb e U A) A1 [y]:=
 cj (as:=[Unit.unit]) (enc:=λ_=>d) (h:=λ_=>y) hi hl (abV 1 999999) hw λ_ _=>hs
def ik(hi:I U A=some (.sq [d],A1))(hs:∀A',A1 <+: A'->∃U1,g d (iq js U) A'=some (U1,A')/\∃A3,e U1 A'=some (y,A3)/\A' <+: A3):Nl (aL js I g cb e U A) A1 [y]:=xE hi rfl (λ_ _=>eh) hs
def sy(h:A[n]?=some (.L l))(u:PY l=true):h1 gw [.ref n] A=some (.ref A.length,A++[.L l]):=by show gw (.ref n) A=_;unfold gw i4;rw[CY h];show (if PY l=true then some (D.ref A.length,A++[B.L l]) else none).or _=_;rw[aac u];rfl
end
end Y
namespace P
open L2 Y Rw
open M (bh)
def NZ(q:Int×Int):R->Prop
 |[]=>True
 |p::l=>(q.1<=p.1/\q.2<=p.2/\p.1<=q.2+1)/\NZ p l
def kc(q:Int×Int):R->Int
 |[]=>q.2
 |p::l=>kc p l
theorem BL{p:Int×Int}{r:R}:∀ {l:R} {q:Int×Int},NZ q (l++p::r)->p.1<=kc q l+1/\kc q l<=p.2
 |[],_,h=>⟨h.1.2.2,h.1.2.1⟩
 |_::l,_,h=>BL (l:=l) h.2
theorem ul{p:Int×Int}:∀ {l:R} {q:Int×Int},kc q (l++[p])=p.2
 |[],_=>rfl
 |_::l,_=>ul (l:=l)
def WH{q p:Int×Int}(h:q.1<=p.1/\q.2<=p.2):HT.li [p.1,p.2] [q.1,q.2]=false:=by
 show (if p.1=q.1 then (if p.2=q.2 then HT.li [] [] else decide (p.2<q.2)) else decide (p.1<q.1))=false;split
 .split
  .rfl
  .exact aaA ()
 .exact aaA ()
theorem upk{f:Int×Int->Zn}(hf:∀q p:Int×Int,q.1<=p.1/\q.2<=p.2->HT.li (f p) (f q)=false):∀ {l:R} {q:Int×Int},NZ q l->Vy ((q::l).map f)=true
 |[],_,_=>rfl
 |p::l,q,h=>by show (!HT.li (f p) (f q)&&Vy ((p::l).map f))=true;rw[hf q p ⟨h.1.1,h.1.2.1⟩,upk hf h.2];rfl
def aae{enc:Int×Int->D}{f:Int×Int->Zn}(he:∀a,Vq (enc a)=some (f a)){l:R}(h:Vy (l.map f)=true):PY (l.map enc)=true:=by unfold PY;rw[iJ he];show (_ || Vy (l.map f))=true;rw[h,Bool.or_true]
def Vc(c:NZ q l):PY ((q::l).map l9)=true:=aae (f:=λp=>[p.1,p.2]) (λ_=>rfl)<|upk (λ_ _=>WH) c
def Vd{y:Int} (c:NZ q l):PY ((q::l).map λp=>cq (y,p))=true:=aae (f:=λp=>[y,p.1,p.2]) (λ_=>rfl) (upk (λq p h=>by
 show (if y=y then HT.li [p.1,p.2] [q.1,q.2] else _)=false;rw[aac rfl]
 show WH h) c)
def Ag(p:Int×Int):Bool:=decide (p.1<=p.2)
section
variable {A A' A2:Hh}{n:Nat}{U:Y.Env}{ps l:R}{q:Int×Int}
theorem BV{enc:Int×Int->D}:∀ps:R,ps.filterMap (λp=>if Ag p=true then some (enc p) else none)=(ps.filter Ag).map enc
 |[]=>rfl
 |p::t=>by rw[acZ,adG,BV t];cases Ag p<;>rfl
def FV(g:∀p∈ps,p.1<=p.2):ps.filter Ag=ps:=List.filter_eq_self.2 λp hp=>aaz<|g p hp
def yG(h:A[n]?=some (.L<|ps.map l9))(h0:U[0]?=some (some<|.ref n))(hl:ps.length<=1000000):Nl (qh U A) A<|(ps.filter Ag).map l9:=by
 rw[<-BV];split hG (enc:=l9) (w:=.ls n) (A2:=A) (wU h0 h) ((bO h).trans<|aar _) hl (λA' p=>fg<|ai p h) λp _ A' _=>?_;by_cases hc:p.1<=p.2
 .exact⟨_,rfl,.inr ⟨_,A',aac<|aaz hc,av<|bJ<|acn<|aaz hc,bV rfl rfl rfl,aaE _⟩⟩
 .exact⟨_,rfl,.inl ⟨aad<|by rw[Ag,aaA hc];show aa1,av<|bJ<|acn<|aaA hc⟩⟩
def CS(h:A[n]?=some (.L<|ps.map l9))(g:∀p∈ps,¬p.1<=p.2)(hl:ps.length<=1000000):Tl fM [.ref n] A<|.T []:=by let⟨A2,k,c1,c2,c3,c4⟩:=yG (U:=[some<|.ref n,some<|.ref A.length,none,none]) (ai (aap A [B.L []]) h) rfl hl;rw[List.filter_eq_nil_iff.2 λp hp=>by rw[Ag,aaA<|g p hp];show aa1] at c4;have c4:A2[k]?=some (.L []):=c4;have p1:=aap A2 [B.L []];have s1:=sy c4 rfl;show⟨A2++[.L []],aU rfl<|bG (d9 rfl rfl)<|cy (BX (gU (bn (aB c1) s1) aj) aj)<|ay<|bn (aB rfl)<|kt<|ai (c2.trans p1) aj,((aap _ _).trans c2).trans p1⟩
def acc(pre:R):Zc:=match (generalizing:=false) pre with
 |[]=>[]
 |q::l=>[l9 (q.1,kc q l)]
def CQ(h:A[n]?=some (.L<|(q::l).map l9))(c:NZ q l)(g:∀p∈q::l,p.1<=p.2)(hl:l.length<=900000):Tl fM [.ref n] A<|ef [(q.1,kc q l)]:=by
 let⟨A2,k,c1,c2,c3,c4⟩:=yG (U:=[some<|.ref n,some<|.ref A.length,none,none]) (ai (aap A [B.L []]) h) rfl (by rw[aay];lia);rw[FV g] at c4;have s1:=sy c4<|Vc c
 let A3:=A2++[B.L<|(q::l).map l9]
 have p3:A++[B.L []] <+: A3:=c2.trans<|aap _ _;have ne:A.length≠A2.length:=by have:=c2.length_le;rw[aat] at this;show aaC this
 let⟨U',A',k1,va,vb,rfl,e1,e2,e3⟩:=kC (enc:=l9) (g:=kZ 2 3) (x:=qe) (w:=.ls A2.length) (as:=q::l) (U:=[some<|.ref n,some<|.ref A.length,none,none]) (A:=A3)
  (λpre U A'=>∃va vb,U=[some<|.ref n,some<|.ref A.length,va,vb]/\A <+: A'/\A'[A.length]?=some (.L<|acc pre)/\A'[A2.length]?=some (.L<|(q::l).map l9)) (λ_ _ _ _ _ ⟨_,_,_,_,_,h⟩=>fg h) (by
  rintro pre p post _ A' e ⟨va,vb,rfl,e1,e2,e3⟩;split⟨_,A',rfl,[some<|.ref n,some<|.ref A.length,some<|.int p.1,some<|.int p.2],A'.set A.length<|.L<|acc<|pre++[p],.inl ?_,_,_,rfl,cW e1<|aaq _,cF e2,by rw[aav ne];show e3⟩;cases pre with
  |nil=>erw [wO e2 (q:=false) rfl,cI e2,lC e2 (aaL _) rfl]
  |cons q' pre=>
   ext e;let⟨m1,m2⟩:=BL c;have x1:bI (.ref A.length) (.int<|-1) A'=some (l9 (q.1,kc q pre),A'):=bv e2<|iG [] _;have M1:xm [.int<|kc q pre,.int p.2] A'=some (.int p.2,A'):=by show some (D.int (if p.2 > kc q pre then p.2 else kc q pre),A')=_;rw[show (if p.2 > kc q pre then p.2 else kc q pre)=p.2 by split<;>lia]
   rw[show acc (q::pre++[p])=[l9 (q.1,p.2)] by show [l9 (q.1,kc q<|pre++[p])]=_;rw[ul]]
   erw [wO e2 (q:=true) rfl,x1,acn<|aaz m1,M1,Jn (l:=[]) e2 rfl]) ⟨none,none,rfl,(aap _ _).trans p3,ai p3 aj,aj⟩
 split⟨A',aU rfl<|bG (d9 rfl rfl)<|cy (jA (gU (bn (aB c1) s1) aj) ((bO aj).trans<|aar _) k1)<|ay<|bn (aB rfl)<|kt e2,e1⟩
end
open M (bh)
section
variable {A A' A2:Hh}{n:Nat}{U:Y.Env}{ps l:R}{q:Int×Int}{y:Int}
abbrev KE(y:Int)(p:Int×Int):D:=cq (y,p)
def yx(h:A[n]?=some (.L<|ps.map<|KE y))(h0:U[0]?=some (some<|.ref n))(g:∀p∈ps,p.1<=p.2)(hl:ps.length<=1000000):Nl (jM U A) A<|ps.map (KE y):=by
 have:ps.map (KE y)=ps.filterMap λp=>some (KE y p):=(agn▸rfl)
 rw[this];split hG (enc:=KE y) (w:=.ls n) (A2:=A) (wU h0 h) ((bO h).trans<|aar _) hl (λA' p=>fg<|ai p h) λp hp A' _=>?_;show⟨_,rfl,.inr ⟨_,A',rfl,av<|bJ<|acn<|aaz<|g p hp,bV rfl rfl rfl,aaE _⟩⟩
def wy(h:A[n]?=some (.L [])):Tl aV [.ref n] A<|.T []:=by let⟨A2,k,c1,c2,c3,c4⟩:=yx (ps:=[]) (y:=0) (U:=[some<|.ref n,some<|.ref A.length,none,none,none]) (ai (aap A [B.L []]) h) rfl nofun<|aaL _;have c4:A2[k]?=some (.L []):=c4;have p1:=aap A2 [B.L []];have s1:=sy c4 rfl;have k1:gk [some<|.ref n,some<|.ref A.length,none,none,none] (A2++[.L []])=some (.ref (A2++[B.L []]).length,A2++[.L []]++[.L []]):=qH (gU rfl<|ai (c2.trans p1) aj) (bO<|ai (c2.trans p1) aj)<|eL (ai ((c2.trans p1).trans<|aap _ _) aj) rfl;show⟨_,aU rfl<|bG (d9 rfl rfl)<|cy (BX (gU (bn (aB c1) s1) aj) aj)<|ay<|bn (aB k1)<|kt aj,(((aap _ _).trans c2).trans p1).trans<|aap _ _⟩
def wx(h:A[n]?=some (.L<|(q::l).map<|KE y))(c:NZ q l)(g:∀p∈q::l,p.1<=p.2)(hl:l.length<=900000):Tl aV [.ref n] A<|ax [(y,[(q.1,kc q l)])]:=by
 let⟨A2,k,c1,c2,c3,c4⟩:=yx (U:=[some<|.ref n,some<|.ref A.length,none,none,none]) (ai (aap A [B.L []]) h) rfl g (by rw[aay];lia);have s1:=sy c4<|Vd c
 let A3:=A2++[B.L<|(q::l).map<|KE y]
 have p3:A++[B.L []] <+: A3:=c2.trans<|aap _ _;have l0:A.length<A2.length:=by have:=c2.length_le;rw[aat] at this;show this
 have ne:=aaC l0
 let⟨U',A',k1,va,vb,vc,rfl,e1,e2,e3,e4⟩:=kC (enc:=KE y) (g:=Bv 2 3 4) (x:=jF) (w:=.ls A2.length) (as:=q::l) (U:=[some<|.ref n,some<|.ref A.length,none,none,none]) (A:=A3)
  (λpre U A'=>∃va vb vc,U=[some<|.ref n,some<|.ref A.length,va,vb,vc]/\A <+: A'/\A2.length<A'.length/\A'[A2.length]?=some (.L<|(q::l).map<|KE y)/\(if pre=[] then A'[A.length]?=some (.L []) else ∃m,A2.length<m/\A'[A.length]?=some (.L [.T [.int y,.ref m]])/\A'[m]?=some (.L<|pre.map l9))) (λ_ _ _ _ _ ⟨_,_,_,_,_,_,h,_⟩=>fg h) (by
  rintro pre p post _ A' e ⟨va,vb,vc,rfl,e1,e2,e3,e4⟩;have hpl:pre.length<=900000:=by have:=aaF ag7 e;rw[aat,aay,aay] at this;lia
  let R:Y.Env:=[some<|.ref n,some<|.ref A.length,some<|.int y,some<|.int p.1,some<|.int p.2]
  cases pre with
  |nil=>
   rw[aac rfl] at e4
   let A4:=A'++[B.L []]
   have e5:=ai (aap A' [B.L []]) e4
   let A5:=A4.set A.length<|.L [.T [.int y,.ref A'.length]]
   have n1:A.length≠A'.length:=()
   have a5:A5[A.length]?=some (.L [.T [.int y,.ref A'.length]]):=cF e5;have m5:A5[A'.length]?=some (.L []):=by rw[aav n1];show aj
   have x1:bI (.ref A.length) (.int<|-1) A5=some (.T [.int y,.ref A'.length],A5):=bv a5<|iG [] _;have t1:=wO e4 (q:=false) rfl;have b1:=lC (x:=.T [.int y,.ref A'.length]) e5 (aaL _) rfl;have b2:=lC (x:=l9 p) m5 (aaL _) rfl;split⟨R,A',rfl,R,A5.set A'.length<|.L [l9 p],.inl ?_,_,_,_,rfl,cW (cW (e1.trans<|aap _ _)<|aaq _)<|adq<|Nat.lt_trans l0 e2,by rw[ab6,ab6,aat];lia,by rw[aav (),aav ne];show ai (aap _ _) e3,?_⟩
   .erw [t1,eM rfl (cI e4) (aB<|bV (ag rfl<|aB<|d9 rfl rfl) rfl rfl) b1,x1,cI m5,b2]
   .rw[aad nofun];show⟨_,e2,by rw[aav n1.symm];show a5,cF m5⟩
  |cons q' pre=>
   rw[aad nofun] at e4;let⟨m,m1,m2,m3⟩:=e4;have x1:bI (.ref A.length) (.int<|-1) A'=some (.T [.int y,.ref m],A'):=bv m2<|iG [] _;have t1:=wO m2 (q:=true) rfl;have b1:=lC (x:=l9 p) m3 (by rw[aar];lia) rfl;split⟨R,A',rfl,R,A'.set m<|.L<|(q'::pre).map l9++[l9 p],.inl ?_,_,_,_,rfl,cW e1 (),by rw[ab6];show e2,by rw[aav ()];show e3,?_⟩
   .erw [t1,x1,kh (b:=false)<|by rw[aaz rfl];rfl,cI m3,b1]
   .rw[aad nofun]
    show⟨m,m1,by rw[aav ()];show m2,(cF m3).trans<|by simp⟩) ⟨none,none,none,rfl,(aap _ _).trans p3,by rw[aat];show abo _,aj,by rw[aac rfl];show ai p3 aj⟩
 rw[aad nofun] at e4;let⟨m,m1,m2,m3⟩:=e4;obtain⟨A5,k5,d1,d2,d3,d4⟩:Nl (gk [some (.ref n),some (.ref A.length),va,vb,vc] A') A' [g7 (y,[(q.1,kc q l)])]:=xE (gU rfl m2) (bO m2) (λ_ p=>fg<|ai p m2) λA6 p6=>by let⟨A7,r1,r2⟩:=CQ (ai p6 m3) c g hl;show⟨_,rfl,A7,bV (ag rfl<|aB<|al (aB rfl) rfl r1) rfl rfl,r2⟩
 show⟨A5,aU rfl<|bG (d9 rfl rfl)<|cy (jA (gU (bn (aB c1) s1) aj) ((bO aj).trans<|aar _) k1)<|ay<|bn (aB d1)<|kt d4,e1.trans d2⟩
end
open M (bh)
abbrev Ln:=Option oW
def bo:Ln->tL
 |none=>[]
 |some t=>[(t.1,[t.2])]
def ze:Ln->D
 |none=>.N
 |some t=>cq t
def Nr{a:XA}{U:Y.Env}{A A2:Hh}{m:Nat}{j:Int}(h:a U A=some ([.int 0,.int j,.int 2],A2))(hj:j=2*m)(hm:j<1000000):y8 a U A=some (.sq ((ZV m).map λk:Nat=>.int<|2*k),A2):=by unfold y8 xb;rw[h];show (if ((0:Int)=0/\(2:Int)=2)/\0<=j/\j<1000000 then some (Wk.sq ((ZV ((j+1)/2).toNat).map λk:Nat=>D.int<|2*k),A2) else none)=_;rw[aac ⟨⟨rfl,rfl⟩,(),hm⟩,show ((j+1)/2).toNat=m by lia]
def Go(o:Ln):Prop:=∀t,o=some t->t.2.1<=t.2.2
section
variable {A A' A2:Hh}{n:Nat}{o:Ln}{t:oW}{s:Int×Int}
def HC(o:Ln):List oW:=o.toList
def kj(o:Ln):FA aO [ax<|bo o] A<|(HC o).map cq:=by
 cases o with
 |none=>show⟨A++[.L []],A.length,aU rfl<|bG (d9 rfl rfl)<|cy (Ou<|g8 rfl)<|ay rfl,aap _ _,aaq _,aj⟩
 |some t=>
  obtain⟨A2,k,c1,c2,c3,c4⟩:Nl (iC [some (ax (bo (some t))),some (.ref A.length),some (.int t.1),some (ef [t.2])] (A++[.L []])) (A++[.L []]) [cq t]:=ik (g8 rfl) λA' _=>⟨_,rfl,A',bV (ag rfl<|ag rfl<|aB rfl) rfl rfl,aaE _⟩
  have a2:=ai c2<|aj (A:=A) (b:=.L []);have x1:=lQ a2 c4 (abV 1 999999) rfl;show⟨_,A.length,aU rfl<|bG (d9 rfl rfl)<|cy (BZ (g8 rfl) rfl<|gS (eM rfl (cI aj) (aB c1) x1) rfl)<|ay rfl,cW ((aap _ _).trans c2)<|aaq _,aaq _,cF a2⟩
def AJ(h:A[n]?=some (.L<|(HC o).map cq))(g:Go o):Tl aV [.ref n] A<|ax (bo o):=by
 cases o with
 |none=>show wy h
 |some t=>show wx (y:=t.1) (q:=t.2) (l:=[]) h trivial (λp hp=>by cases aaG.1 hp;show g t rfl)<|aaL _
def pU(h:A[n]?=some (.L [])):Tl aW [.ref n] A<|.T []:=
 ⟨_,aU rfl<|ay<|bn (aB<|qH (gU rfl h) (bO h)<|eL (ai (aap _ _) h) rfl)<|kt aj,aap _ _⟩
def pV{y:Int}{r:R}(h:A[n]?=some (.L [g7 (y,r)])):Tl aW [.ref n] A<|.T (if r=[] then [] else [g7 (y,r)]):=by
 obtain⟨A1,k,c1,c2,c3,c4⟩:Nl (fX [some (.ref n)] A) A ([Unit.unit].filterMap λ_=>if r=[] then none else some (g7 (y,r))):=hG (enc:=λ_:Unit=>g7 (y,r)) (w:=.ls n) (gU rfl h) (bO h) (abV 1 999999) (λ_ p=>fg<|ai p h) λ_ _ A' _=>by
  split⟨_,rfl,?_⟩;have e:=GR (A:=A') true r;by_cases hr:r=[]
  .rw[aac rfl,aaz hr] at e;show .inl ⟨aac hr,av<|ao rfl (bV rfl rfl rfl) e⟩
  .rw[aac rfl,aaA hr] at e;show .inr ⟨_,A',aad hr,av<|ao rfl (bV rfl rfl rfl) e,bV (ag rfl<|aB rfl) rfl rfl,aaE _⟩
 split⟨A1,aU rfl<|ay<|bn (aB c1)<|kt ?_,c2⟩;by_cases hr:r=[]
 .rw[aac hr] at c4 ⊢;show c4
 .rw[aad hr] at c4 ⊢;show c4
def QM{a x:Int}{r:Zc}:bq [.T [.T (.int a::r)],.int x] A=some (.int (if a<=x then 1 else 0),A):=by
 let E (lo hi:Int) (m:Zd):Y.Env:=[some<|.T [.T (.int a::r)],some<|.int x,some<|.int lo,some<|.int hi,m]
 have d1:oj (.int<|0+1) (.int 2) A=some (.int 0,A):=i8 rfl;have s1:bI (.T [.T (.int a::r)]) (.int 0) A=some (.T (.int a::r),A):=cD fY;have s2:bI (.T (.int a::r)) (.int 0) A=some (.int a,A):=cD fY;have l1:h1 b8 [.T [.T (.int a::r)]] A=some (.int 1,A):=by simp
 have go {hi lo:Int} (h:decide (a<=x)=true/\lo=1/\hi=1\/decide (a<=x)=false/\lo=0/\hi=0):fu fQ fP (E 0 1 none) A=some (.nx<|E lo hi<|some<|.int 0,A):=by
  rcases h with ⟨h,rfl,rfl⟩|⟨h,rfl,rfl⟩
  .exact Kj (av<|bJ<|aaR rfl) (bG (ao (ao rfl rfl rfl) rfl d1)<|bQ (av<|ao (ao (bJ s1) rfl s2) rfl<|acn h)<|dh rfl<|d8 (ao rfl rfl rfl) rfl)<|Br<|av<|bJ<|aaR rfl
  .exact Kj (av<|bJ<|aaR rfl) (bG (ao (ao rfl rfl rfl) rfl d1)<|bQ (av<|ao (ao (bJ s1) rfl s2) rfl<|acn h)<|fV rfl<|d8 rfl rfl)<|Br<|av<|bJ<|aaR rfl
 by_cases h:a<=x
 .rw[aac h];show aU rfl<|cy rfl<|bG (bn (aB rfl) l1)<|cy (go<|.inl ⟨aaz h,rfl,rfl⟩)<|ay rfl
 .rw[aad h];show aU rfl<|cy rfl<|bG (bn (aB rfl) l1)<|cy (go<|.inr ⟨aaA h,rfl,rfl⟩)<|ay rfl
def CP(y:Int):gG [ax<|bo<|some t,.int y] A=some (if t.1=y then ef [t.2] else .T [],A):=by
 have c1:bq [ax<|bo<|some t,.int y] A=some (.int (if t.1<=y then 1 else 0),A):=QM
 let E (b:Int):Y.Env:=[some<|ax<|bo<|some t,some<|.int y,some<|.int b]
 have s1:bI (ax<|bo<|some t) (.int 0) A=some (g7 (t.1,[t.2]),A):=cD fY;have s2:bI (g7 (t.1,[t.2])) (.int 0) A=some (.int t.1,A):=cD fY;have s3:bI (g7 (t.1,[t.2])) (.int 1) A=some (ef [t.2],A):=cD qz;by_cases h:t.1<=y
 .rw[aac h] at c1;by_cases e:t.1=y
  .rw[aac e];show aU rfl<|bG (al (ag rfl<|aB rfl) rfl c1)<|eS (bQ (lv (av<|bJ<|acg rfl)<|dh rfl<|av<|ao (ao (ao rfl (ao rfl rfl rfl) s1) rfl s2) rfl<|bK<|aaz e)<|dh rfl<|ay<|ao (ao rfl (ao rfl rfl rfl) s1) rfl s3) rfl
  .rw[aad e];show aU rfl<|bG (al (ag rfl<|aB rfl) rfl c1)<|eR (lv (av<|bJ<|acg rfl)<|dh rfl<|av<|ao (ao (ao rfl (ao rfl rfl rfl) s1) rfl s2) rfl<|bK<|aaA e)<|ay<|bV rfl rfl rfl
 .rw[aad h] at c1;rw[aad ()];show aU rfl<|bG (al (ag rfl<|aB rfl) rfl c1)<|eR (lv (av<|bJ<|acg rfl)<|fV rfl rfl)<|ay<|bV rfl rfl rfl
def VX(h:s.1<=s.2):Tl eV [ef [s],ef [s]] A<|ef [s]:=by
 let E (i j:Int) (a b:Zd):Y.Env:=[some<|ef [s],some<|ef [s],some<|.ref A.length,some<|.int i,some<|.int j,a,b]
 have a1:(A++[B.L []])[A.length]?=some (.L []):=aj
 let A2:=(A++[B.L []]).set A.length<|.L [l9 s]
 have a2:A2[A.length]?=some (.L [l9 s]):=cF a1;have l1 (A':Hh):h1 b8 [ef [s]] A'=some (.int 1,A'):=by simp
 have s1 (A':Hh):bI (ef [s]) (.int 0) A'=some (l9 s,A'):=cD fY;have s2 (A':Hh):bI (l9 s) (.int 0) A'=some (.int s.1,A'):=cD fY;have s3 (A':Hh):bI (l9 s) (.int 1) A'=some (.int s.2,A'):=cD qz;have mx:xm [.int s.1,.int s.1] (A++[B.L []])=some (.int s.1,A++[B.L []]):=by simp
 have mn:vj [.int s.2,.int s.2] (A++[B.L []])=some (.int s.2,A++[B.L []]):=by simp
 have b1:=lC (x:=l9 s) a1 (aaL _) rfl;have w:fu jJ jH (E 0 0 none none) (A++[B.L []])=some (.nx<|E 0 1 (some<|.int s.1)<|some<|.int s.2,A2):=
  Kj (lv (av<|ao rfl (bn (aB rfl)<|l1 _)<|aaR rfl)<|dh rfl<|av<|ao rfl (bn (aB rfl)<|l1 _)<|aaR rfl)
   (bG (bn (ag (ao (bJ<|s1 _) rfl<|s2 _)<|aB<|ao (bJ<|s1 _) rfl<|s2 _) mx)<|bG (bn (ag (ao (bJ<|s1 _) rfl<|s3 _)<|aB<|ao (bJ<|s1 _) rfl<|s3 _) mn)<|cy (bQ (av<|bJ<|acn<|aaz h)<|dh rfl<|gS (eM rfl (cI a1) (aB<|bV (ag rfl<|aB rfl) rfl rfl) b1) rfl)<|bQ (av<|ao (ao (bJ<|s1 _) rfl<|s3 _) (ao (bJ<|s1 _) rfl<|s3 _)<|aaR<|aaA<|Int.lt_irrefl _)<|fV rfl<|Kb rfl rfl rfl rfl)
   (Br<|lv (av<|ao rfl (bn (aB rfl)<|l1 _)<|aaR rfl)<|dh rfl<|av<|ao rfl (bn (aB rfl)<|l1 _)<|aaR rfl)
 show⟨A2,aU rfl<|bG (d9 rfl rfl)<|cy rfl<|cy rfl<|cy w<|ay<|bn (aB rfl)<|kt a2,cW (aap _ _)<|aaq _⟩
def ei1(h:s.1<=s.2):Tl gc [ef [s],ef [s]] A<|.T []:=by
 let E (c:Zd):Y.Env:=[some<|ef [s],some<|ef [s],some<|ef [s,s],c]
 obtain⟨A1,k1,a1,a2,a3,a4⟩:Nl (jR (E none) A) A [.int s.1,.int s.1]:=xF (as:=[s,s]) (enc:=l9) (h:=λp=>.int p.1) rfl (abV 2 999998) λp _ A6 _=>⟨_,rfl,A6,rfl,aaE _⟩
 obtain⟨A2,k2,b1,b2,b3,b4⟩:Nl (jS (E none) A1) A1 [.int (s.2+1),.int (s.2+1)]:=xF (as:=[s,s]) (enc:=l9) (h:=λp=>.int<|p.2+1) rfl (abV 2 999998) λp _ A6 _=>⟨_,rfl,A6,rfl,aaE _⟩
 let c:Zc:=[.int s.1,.int s.1,.int<|s.2+1,.int<|s.2+1]
 let A3:=A2++[B.L c]++[B.L c]
 have up:PY c=true:=by
  show (Sup.Vb (λa b:Int=>decide (a<=b)) [s.1,s.1,s.2+1,s.2+1] || _)=true;rw[show Sup.Vb (λa b:Int=>decide (a<=b)) [s.1,s.1,s.2+1,s.2+1]=true by
   show (decide (s.1<=s.1)&&(decide (s.1<=s.2+1)&&(decide (s.2+1<=s.2+1)&&true)))=true
   rw[aaz<|acO _,aaz (),aaz<|acO _];rfl]
  rfl
 have q1:=sy (A:=A2++[B.L c]) aj up;have c3:A3[(A2++[B.L c]).length]?=some (.L c):=aj
 let R:=E<|some<|.ref (A2++[B.L c]).length
 obtain⟨A4,k4,d1,d2,d3,d4⟩:Nl (jT R A3) A3 ([(0:Nat),1].map λk=>if k=0 then l9 (s.1,s.1-1) else l9 (s.2+1,s.2+1-1)):=cj (enc:=λk:Nat=>D.int<|2*k) (Nr (m:=2) (ag rfl<|ag (bn (aB rfl)<|ed c3 rfl)<|aB rfl) rfl (show (4:Int)<1000000 by decide)) rfl ⋯ (λ_ _=>eh) λk hk A6 p6=>by
  have c6:=ai p6 c3;split⟨_,rfl,A6,?_,aaE _⟩;rcases aau.1 hk with rfl|hk
  .exact bV (ag (ao rfl rfl<|bv c6 fY)<|aB<|ao (ao rfl (ao rfl rfl rfl)<|bv c6 qz) rfl rfl) rfl rfl
  .cases aaG.1 hk;show bV (ag (ao rfl rfl<|bv c6 VQ)<|aB<|ao (ao rfl (ao rfl rfl rfl)<|bv c6 VR) rfl rfl) rfl rfl
 let⟨A5,r1,r2⟩:=CS (ps:=[(s.1,s.1-1),(s.2+1,s.2+1-1)]) d4 (λp hp=>by
  rcases aau.1 hp with rfl|hp
  .exact (by lia:¬s.1<=s.1-1)
  .cases aaG.1 hp
   show (by lia:¬s.2+1<=s.2+1-1))<|abV 2 999998
 show⟨A5,aU rfl<|bG (ao rfl rfl<|BI<|abV 2 999998)<|bG (bn (aB<|ao a1 b1<|BH (ai b2 a4) b4<|abV 4 999996) q1)<|ay<|al (aB d1) rfl r1,((((a2.trans b2).trans<|aap _ _).trans<|aap _ _).trans d2).trans r2⟩
end
open M (bh)
section
variable {A A' A2:Hh}{n k:Nat}{o:Ln}{t:oW}
def Co(o:Ln):(HC o).length<=1:=by
 ext o
 .exact aaL _
 .exact aaq _
def Ck(g:Go o):Tl ow [ax<|bo o,ax<|bo o] A<|ax (bo o):=by
 let⟨A1,k1,a1,a2,a3,a4⟩:=kj (A:=A) o;let⟨A2,k2,b1,b2,b3,b4⟩:=kj (A:=A1) o;have hz:((HC o).map cq).length+((HC o).map cq).length<=1000000:=by rw[aar];have:=Co o;lia
 have e1:=BH (ai b2 a4) b4 hz;have fin {x:D} (h:Tl aV [.ref A2.length] (A2++[.L<|(HC o).map cq++(HC o).map cq]) x):Tl ow [ax<|bo o,ax<|bo o] A x:=by let⟨A3,c1,c2⟩:=h;show⟨A3,aU rfl<|ay<|al (aB<|ao (al (aB rfl) rfl a1) (al (aB rfl) rfl b1) e1) rfl c1,((a2.trans b2).trans<|aap _ _).trans c2⟩
 cases o with
 |none=>show fin<|wy aj
 |some t=>
  have h:=g t rfl;show fin (wx (y:=t.1) (q:=t.2) (l:=[t.2]) aj ⟨⟨acO _,acO _,()⟩,trivial⟩ (λp hp=>by
   rcases aau.1 hp with rfl|hp
   .exact h
   .cases aaG.1 hp;show h)<|abV 1 899999)
def yI(A:Hh):gG [ax<|bo<|some t,.int t.1] A=some (ef [t.2],A):=(CP t.1).trans<|#v[aac rfl]
def DS(g:Go o):Tl iP [ax<|bo o,ax<|bo o] A<|ax (bo o):=by
 cases o with
 |none=>
  let⟨A2,r1,r2⟩:=pU (A:=A++[.L []]) aj;show⟨A2,aU rfl<|ay<|al (aB<|nZ<|g8 rfl) rfl r1,(aap _ _).trans r2⟩
 |some t=>
  obtain⟨A1,k1,a1,a2,a3,a4⟩:Nl (qg [some (ax (bo (some t))),some (ax (bo (some t)))] A) A [g7 (t.1,[t.2])]:=ik (g8 rfl) λA' _=>by let⟨A3,c1,c2⟩:=VX (A:=A')<|g t rfl;show⟨_,rfl,A3,bV (ag rfl<|aB<|al (ag rfl<|aB<|al (ag rfl<|aB rfl) rfl<|yI A') rfl c1) rfl rfl,c2⟩
  let⟨A2,r1,r2⟩:=pV a4;show⟨A2,aU rfl<|ay<|al (aB a1) rfl r1,a2.trans r2⟩
def vY(g:Go o):Tl ox [ax<|bo o,ax<|bo o] A<|.T []:=by
 cases o with
 |none=>
  let⟨A2,r1,r2⟩:=pU (A:=A++[.L []]) aj;show⟨A2,aU rfl<|ay<|al (aB<|nZ<|g8 rfl) rfl r1,(aap _ _).trans r2⟩
 |some t=>
  obtain⟨A1,k1,a1,a2,a3,a4⟩:Nl (w6 [some (ax (bo (some t))),some (ax (bo (some t)))] A) A [g7 (t.1,[])]:=ik (g8 rfl) λA' _=>by let⟨A3,c1,c2⟩:=VX (A:=A')<|g t rfl;let⟨A4,d1,d2⟩:=ei1 (A:=A3)<|g t rfl;have l1:jh [ef [t.2],ef [t.2]] A'=some (.T [],A4):=aU rfl<|ay<|al (ag rfl<|aB<|al (ag rfl<|aB rfl) rfl c1) rfl d1;show⟨_,rfl,A4,bV (ag rfl<|aB<|al (ag rfl<|aB<|al (ag rfl<|aB rfl) rfl<|yI A') rfl l1) rfl rfl,c2.trans d2⟩
  let⟨A2,r1,r2⟩:=pV a4;show⟨A2,aU rfl<|ay<|al (aB a1) rfl r1,a2.trans r2⟩
def Ec(g:Go o):Tl nk [ax<|bo o,ax<|bo o] A<|.T []:=by let⟨A1,a1,a2⟩:=vY (A:=A) g;let⟨A2,b1,b2⟩:=vY (A:=A1) g;let⟨A3,c1,c2⟩:=Ck (A:=A2) (o:=none) nofun;show⟨A3,aU rfl<|ay<|al (ag (al (ag rfl<|aB rfl) rfl a1)<|aB<|al (ag rfl<|aB rfl) rfl b1) rfl c1,(a2.trans b2).trans c2⟩
abbrev bD:D:=.T [.int<|-1,.int 0,.int 2,.int 0]
def FB(A:Hh)(n:Nat):Prop:=A[n]?=some (.ins "Box" [("parts",.T [.T [bD]])])
def gL:Ln->Ln
 |none=>none
 |some t=>some (t.1,t.2.1-1,t.2.2+2)
def sL:Ln->Ln
 |none=>none
 |some t=>if t.2.2-t.2.1<3 then none else some (t.1,t.2.1+1,t.2.2-2)
def Ws(g:Go o):Go<|gL o:=λt h=>by
 cases o with
 |none=>ext h
 |some u=>ext h;have:=g u rfl;show (by lia:u.2.1-1<=u.2.2+2)
def Yo:Go<|sL o:=λt h=>by
 cases o with
 |none=>ext h
 |some u=>
  have h:(if u.2.2-u.2.1<3 then none else some (u.1,u.2.1+1,u.2.2-2))=some t:=h;split at h
  .ext h
  .ext h;show (by lia:u.2.1+1<=u.2.2-2)
def GT(h:FB A n){U:Y.Env}(h0:U[0]?=some (some<|.ref n)):gW ["Box"] "parts" (aa 0) U A=some (.T [.T [bD]],A):=Dq (Bp h0) (c9 h) (adk _) s!""
def Ha(h:FB A n)(g:Go o):Tl cJ [.ref n,ax<|bo o] A<|ax (bo<|gL o):=by
 let A0:=A++[B.L []]
 let⟨A1,k1,a1,a2,a3,a4⟩:=kj (A:=A0) o;have b (A':Hh) (i:Int) {x:D} (e:kT [D.int<|-1,.int 0,.int 2,.int 0] i=some x):bI bD (.int i) A'=some (x,A'):=cD e;obtain⟨A2,k2,b1,b2,b3,b4⟩:Nl (fG [some (ax (bo o)),some bD,none] A0) A1 ((HC (gL o)).map cq):=by
  have w1:bc (ah 1 aO<|af (aa 0) aF) [some<|ax<|bo o,some bD,none] A0=some (.ls k1,A1):=gU (al (aB rfl) rfl a1) a4;cases o with
  |none=>show⟨_,_,qH w1 (bO a4)<|eL (ai (aap _ _) a4) rfl,aap _ _,aaq _,aj⟩
  |some t=>show xE w1 (bO a4) (λ_ p=>fg<|ai p a4) λA' _=>⟨_,rfl,A',bV (ag (ao rfl (bJ<|b A' 1 rfl) rfl)<|ag (ao rfl (bJ<|b A' 0 rfl) rfl)<|aB<|ao rfl (bJ<|b A' 2 rfl) rfl) rfl<|by show D.T [.int<|t.1+0,.int<|t.2.1 + -1,.int<|t.2.2+2]=_;rw[afl];rfl,aaE _⟩
 have hz:(([]:Zc)++(HC<|gL o).map cq)=(HC<|gL o).map cq:=rfl;have q2:=a2.trans b2;have c2:=ai q2<|aj (A:=A) (b:=.L []);have x1:=lQ c2 b4 (by rw[aar];have:=Co<|gL o;show 0+_<=_;lia) rfl;let⟨A4,d1,d2⟩:=AJ (A:=A2.set A.length<|.L<|(HC<|gL o).map cq) (cF c2)<|Ws g;have gb:cV [ax<|bo o,bD] A0=some (.ref k2,A2):=aU rfl<|bG b1<|eS (bQ (av<|ao (bJ<|b A2 1 rfl) (bJ<|b A2 3 rfl)<|bK rfl)<|dh rfl<|ay rfl) rfl;have gp:dn [ax<|bo o,.T [bD]] A=some (ax<|bo<|gL o,A4):=aU rfl<|bG (d9 rfl rfl)<|cy (BZ (g8 rfl) rfl<|gS (eM rfl (cI aj) (aB<|al (ag rfl<|aB rfl) rfl gb) x1) rfl)<|ay<|al (aB rfl) rfl d1;have rv:NX (af (gW ["Box"] "parts" (aa 0)) aF) [some<|.ref n,some<|ax<|bo o,none] A=some (.sq [.T [bD]],A):=bd (aB<|GT h rfl) rfl;show⟨A4,aU rfl<|cy (BZ rv rfl<|d8 (al (ag rfl<|aB rfl) rfl gp) rfl)<|ay rfl,(cW ((aap _ _).trans q2)<|aaq _).trans d2⟩
def UG{s:Int×Int}:Tl eW [ef [s],.int<|-1,.int 2] A<|ef (if s.2-s.1<3 then [] else [(s.1+1,s.2-2)]):=by
 obtain⟨A1,k1,a1,a2,a3,a4⟩:Nl (jU [some (ef [s]),some (.int (-1)),some (.int 2)] A) A [l9 (s.1+1,s.2-2)]:=ik (g8 rfl) λA' _=>⟨_,rfl,A',bV (ag (ao rfl rfl rfl)<|aB<|ao rfl rfl rfl) rfl rfl,aaE _⟩
 have fin {x:D} (h:Tl fM [.ref k1] A1 x):Tl eW [ef [s],.int<|-1,.int 2] A x:=by let⟨A2,b1,b2⟩:=h;show⟨A2,aU rfl<|ay<|al (aB a1) rfl b1,a2.trans b2⟩
 by_cases h:s.2-s.1<3
 .rw[aac h];show fin<|CS (ps:=[(s.1+1,s.2-2)]) a4 (λp hp=>by cases aaG.1 hp;show (by lia:¬s.1+1<=s.2-2))<|abV 1 999999
 .rw[aad h];show fin<|CQ (q:=(s.1+1,s.2-2)) (l:=[]) a4 trivial (λp hp=>by cases aaG.1 hp;show (by lia:s.1+1<=s.2-2))<|aaL _
def Jp(h:FB A n):Tl cm [.ref n,ax<|bo o] A<|ax (bo<|sL o):=by
 have b (A':Hh) (i:Int) {x:D} (e:kT [D.int<|-1,.int 0,.int 2,.int 0] i=some x):bI bD (.int i) A'=some (x,A'):=cD e;have fin {k:Nat} {A2:Hh} (h1:Tl aW [.ref k] A2<|ax<|bo<|sL o) (h2:dE [some<|ax<|bo o,some bD,none] A=some (.ref k,A2)) (p:A <+: A2):Tl cm [.ref n,ax<|bo o] A<|ax (bo<|sL o):=by
  let⟨A3,c1,c2⟩:=h1;have s1:fE [ax<|bo<|sL o,.int<|0-0] A3=some (ax<|bo<|sL o,A3):=aU rfl<|cy rfl<|cy (Br<|av<|bJ<|aaR rfl)<|ay rfl;have s2:cn [ax<|bo o,bD] A=some (ax<|bo<|sL o,A3):=aU rfl<|bG (al (aB h2) rfl c1)<|ay<|al (ag rfl<|aB<|ao (bJ<|b A3 3 rfl) (bJ<|b A3 1 rfl) rfl) rfl s1;have l1:bI (.T [bD]) (.int<|-1) A=some (bD,A):=cD<|iG [] _;have l2:tF (aa 1) wV (dP<|tG iK<|rW 1) [some<|ax<|bo o,some<|.T [bD],some<|ax<|bo<|sL o,none] A3=some (.T [],A3):=s!""
  have s3:dw [ax<|bo o,.T [bD]] A=some (ax<|bo<|sL o,A3):=aU rfl<|bG (al (ag rfl<|aB<|bJ l1) rfl s2)<|cy (Ou<|g8 l2)<|ay rfl;show⟨A3,aU rfl<|cy (BZ (g8<|GT h rfl) rfl<|d8 (al (ag rfl<|aB rfl) rfl s3) rfl)<|ay rfl,p.trans c2⟩
 cases o with
 |none=>show fin (pU aj) (nZ<|g8 rfl)<|aap _ _
 |some t=>
  obtain⟨A1,k1,a1,a2,a3,a4⟩:Nl (dE [some (ax (bo (some t))),some bD,none] A) A [g7 (t.1,if t.2.2-t.2.1<3 then [] else [(t.2.1+1,t.2.2-2)])]:=ik (g8 rfl) λA' _=>by let⟨A3,c1,c2⟩:=UG (A:=A') (s:=t.2);show⟨_,rfl,A3,bV (ag (ao rfl (bJ<|b A' 1 rfl) rfl)<|aB<|al (ag rfl<|ag (bJ<|b A' 0 rfl)<|aB<|bJ<|b A' 2 rfl) rfl c1) rfl<|by show D.T [.int<|t.1-0,_]=_;rw[Int.sub_zero],c2⟩
  split fin ?_ a1 a2;have:=pV a4;have e:D.T (if (if t.2.2-t.2.1<3 then ([]:R) else [(t.2.1+1,t.2.2-2)])=[] then [] else [g7 (t.1,if t.2.2-t.2.1<3 then [] else [(t.2.1+1,t.2.2-2)])])=ax (bo<|sL<|some t):=by
   show _=ax (bo (if t.2.2-t.2.1<3 then none else some (t.1,t.2.1+1,t.2.2-2)));by_cases hc:t.2.2-t.2.1<3
   .rw[aac hc,aac hc,aac rfl];rfl
   .rw[aad hc,aad hc,aad nofun];rfl
  rwa[e] at this
end
open L2 Y PySem.NumText
abbrev T9(l:LN):Str:=⟨l.toArray⟩
@[simp]def dg(l:LN):(T9 l).length=l.length:=rfl
def Dg(l:LN):(T9 l).cps.toList=l:=rfl
def eg{x:Str}{l:LN}(h:x.cps.toList=l):x=T9 l:=by ext x;subst h;rfl
def kq(h:T9 a=T9 b):a=b:=by have:=aaF (λx:Str=>x.cps.toList) h;show this
def mo(a b:LN):T9 a++T9 b=T9 (a++b):=eg (by
 show (a.toArray++b.toArray).toList=a++b
 simp)
def Vx{l:LN}(h:∀c∈l,c<1114112):ahf (T9 l)=true:=by unfold ahf;rw[ago];intro c hc;show aaz<|h c<|~~~hc
def kY(m:Nat):LN:=(Nat.toDigits 10 m).map aiT
def wL(m:Nat):ZC (toString (m:Int))=T9 (kY m):=eg<|W.KIN.signs_num m
def wM(m:Nat)(h:0<m):ZC (toString<|-(m:Int))=T9 (45::kY m):=by
 obtain⟨k,rfl⟩:∃k,m=k+1:=⟨m-1,()⟩
 split eg ?_;rw[acI];show (("-" ++ Nat.repr (k+1)):String).toList.map aiT=_;rw[String.toList_append,Nat.toList_repr];rfl
def jo(m:Nat):AllDigits<|kY m:=by intro c hc;let⟨ch,hch,e⟩:=abm.1 hc;have r:=akG<|Nat.isDigit_of_mem_toDigits ⋯ ⋯ hch;rw[<-e];show r
def wq(m:Nat):kY m≠[]:=by intro e;have h:=PySem.toDigits_len_ge 10 m;rw[agp.1 e] at h;show absurd h ⋯
def Cw{m:Nat}(h:m<10^60):(kY m).length<=60:=by unfold kY;rw[aar];show PySem.toDigits_len_pow ⋯ ⋯ h
def Cy(m:Nat):digitsVal (kY m)=m:=W.KIN.val_back m
def ou{v:Nat}(h:v<10^60):v.log2<1920:=by
 by_cases h0:v=0
 .subst h0;decide
 .have:v<2^1920:=aaZ h<|aaN (show 10^60<=2^200 by decide)<|Nat.pow_le_pow_right ⋯ ⋯;show (Nat.log2_lt h0).mpr this
def LG(c:Nat):Bool:=decide (48<=c/\c<=57)
def OL(c:Nat):(!(agL (ZC "0123456789") (T9 [c]) 0 (ZC "0123456789").length 1).isEmpty)=LG c:=by
 have e:(ZC "0123456789").cps.toList=[48,49,50,51,52,53,54,55,56,57]:=by rw[acI];decide
 unfold LG;rw[adF,agq,ab0];constructor
 .rintro⟨i,h⟩;have h:=(adQ _ c i).mp h;rw[e] at h;have:=abp h;simp at this;rcases this with rfl|rfl|rfl|rfl|rfl|rfl|rfl|rfl|rfl|rfl<;>decide
 .intro h;split⟨c-48,(adQ _ c<|c-48).2 ?_⟩;rw[e];obtain⟨k,rfl⟩:∃k,c=48+k:=⟨c-48,()⟩
  have hk:k<=9:=()
  rw[Nat.add_sub_cancel_left]
  match k,hk with
  |0,_|1,_|2,_|3,_|4,_|5,_|6,_|7,_|8,_|9,_=>rfl
open L2 Y PySem.NumText StrLaws
def jn(y:LN):List LN->LN
 |[]=>[]
 |[p]=>p
 |p::q::r=>p++(y++jn y (q::r))
def vi(l y:LN)(k:Nat):ahZ (T9 l) (T9 y) (T9 l).length k↔k+y.length<=l.length/\(l.drop k).take y.length=y:=by unfold ahZ;rw[StrLaws.subAt_eq,ab2];show ada
def mO{y:LN}{c k:Nat}(h:ahZ (T9 l) (T9 (c::y)) (T9 l).length k):l[k]?=some c:=by
 let⟨h1,h2⟩:=(vi l (c::y) k).mp h;have e:(l.drop k)[0]?=some c:=by
  have:((l.drop k).take (c::y).length)[0]?=some c:=by rw[h2];rfl
  rwa[afD<|by rw[aay];lia] at this
 rwa[adH,Nat.add_zero] at e
theorem yu(c:Nat)(y:LN)(l:LN):∀(parts:List LN) (a:Nat) (cuts:LN) (f:Nat),parts≠[]->(∀p∈parts,c∉p)->a<=l.length->l.drop a=jn (c::y) parts ->
  ChainG (T9 l) (T9 (c::y)) (T9 l).length a cuts f->(∀k,f<=k->¬ahZ (T9 l) (T9 (c::y)) (T9 l).length k)->partsFrom (T9 l) (T9 (c::y)).length a cuts=parts.map T9
 |[],_,_,_,h,_,_,_,_,_=>absurd rfl h
 |[p],a,cuts,f,_,hp,ha,e,hc,hf=>by
  have e:l.drop a=p:=e;have nc:∀k,a<=k->l[k]?≠some c:=λk hk z=>by
   have:(l.drop a)[k-a]?=some c:=by rw[adH,show a+(k-a)=k by lia];show z
   rw[e] at this;show hp p aaJ<|abp this
  cases cuts with
  |nil=>
   show [ahl (T9 l) a (T9 l).length]=[T9 p]
   congr 1;split eg ?_;rw[adl];show (l.drop a).take (l.length-a)=p;rw[e];show acs (by rw[<-e,acM];show aaq _)
  |cons d cs=>
   show absurd (mO hc.2.1)<|nc d hc.1
 |p::q::r,a,cuts,f,_,hp,ha,e,hc,hf=>by
  have e:l.drop a=p++((c::y)++jn (c::y) (q::r)):=e;have len:l.length=a+p.length+(c::y).length+(jn (c::y) (q::r)).length:=by have:=aaF ag7 e;rw[acM,aat,aat] at this;lia
  have dr:l.drop (a+p.length)=(c::y)++jn (c::y) (q::r):=by rw[<-adR,e,adm]
  have hat:ahZ (T9 l) (T9 (c::y)) (T9 l).length<|a+p.length:=(vi l (c::y) _).mpr ⟨(),#v[dr,adn]⟩;have np:∀k,a<=k->k<a+p.length->l[k]?≠some c:=λk h1 h2 z=>by
   have:(l.drop a)[k-a]?=some c:=by rw[adH,show a+(k-a)=k by lia];show z
   rw[e,acq ()] at this;show hp p aaJ<|abp this
  cases cuts with
  |nil=>
   have:f=a:=hc;show absurd hat<|hf _ ()
  |cons d cs=>
   let⟨h1,h2,h3,h4⟩:=hc;have hd:d=a+p.length:=by have k1:¬a+p.length<d:=λz=>h3 _ () z hat;have k2:¬d<a+p.length:=λz=>np d h1 z<|mO h2;lia
   subst hd;have ih:=yu c y l (q::r) (a+p.length+(T9 (c::y)).length) cs f (by simp) (λx hx=>hp x<|aaK _ hx) (by rw[dg];lia) (by
    rw[dg,<-adR,dr,adm]) h4 hf
   show ahl (T9 l) a (a+p.length)::partsFrom (T9 l) _ _ cs=T9 p::(q::r).map T9;rw[ih];congr 1;split eg ?_;rw[adl];show (l.drop a).take (a+p.length-a)=p;rw[e,show a+p.length-a=p.length by lia,adn]
def OU{y:LN}(h:∀d∈y,d<256):agT (T9 y)=1:=by unfold agT;rw[aac];rw[ago];intro d hd;show aaz<|h d<|~~~hd
def Cm(x:Str):1<=agT x:=by
 unfold agT;split
 .exact aaq _
 .split<;>decide
def gR(c:Nat)(y:LN)(hk:∀d∈c::y,d<256)(parts:List LN)(hne:parts≠[])(hp:∀p∈parts,c∉p):agM (T9<|jn (c::y) parts) (T9 (c::y))=parts.map T9:=by
 let⟨f,hc,hf⟩:=StrLaws.occ_tight (T9<|jn (c::y) parts) (T9 (c::y)) (by rw[dg,aay];lia);have key:=yu c y (jn (c::y) parts) parts 0 _ f hne hp (aaL _) rfl hc hf;unfold agM;split
 .rename_i h;rw[ady,ab0,ab0] at h;have h:(T9<|jn (c::y) parts).length<(T9 (c::y)).length:=h.resolve_right (by rw[OU hk];have:=Cm<|T9<|jn (c::y) parts;lia);cases q:agL (T9<|jn (c::y) parts) (T9 (c::y)) 0 (T9<|jn (c::y) parts).length ((T9<|jn (c::y) parts).length+1) with
  |nil=>
   rw[q] at key;rw[<-key];show _=[ahl _ 0 _]
   rw[afm]
  |cons d cs=>rw[q] at hc;have:=hc.2.1.1;lia
 .split
  .rename_i h;have q:agL (T9<|jn (c::y) parts) (T9 (c::y)) 0 (T9<|jn (c::y) parts).length ((T9<|jn (c::y) parts).length+1)=[]:=List.isEmpty_iff.1 h;rw[q] at key;rw[<-key];show _=[ahl _ 0 _]
   rw[afm]
  .rw[agr];show key
def wu(c:Nat)(y p q:LN)(hp:c∉p):ZZ (T9<|p++((c::y)++q)) (T9 (c::y))=(T9 p,T9 (c::y),T9 q):=by
 have dr:(p++((c::y)++q)).drop p.length=(c::y)++q:=adm;have hat:ahZ (T9<|p++((c::y)++q)) (T9 (c::y)) (T9<|p++((c::y)++q)).length p.length:=(vi _ (c::y) _).mpr ⟨by rw[aat,aat];lia,#v[dr,adn]⟩;have np:∀k,k<p.length->(p++((c::y)++q))[k]?≠some c:=λk h2 z=>by rw[acq h2] at z;show hp<|abp z
 rcases ajT (T9 (p++((c::y)++q))) (T9 (c::y)) 1 (aaq _) with ⟨_,h⟩|⟨i,r,e,h1,h2⟩
 .exact absurd hat<|h _
 .have hi:i=p.length:=by
   have k1:¬p.length<i:=λz=>h2 _ z hat;have k2:¬i<p.length:=λz=>np i z<|mO h1;lia
  subst hi;unfold ZZ;rw[e];show (ahl _ 0 p.length,T9 (c::y),ahl _ (p.length+(T9 (c::y)).length) _)=_;have a:ahl (T9<|p++((c::y)++q)) 0 p.length=T9 p:=eg (by
   rw[adl];show ((p++((c::y)++q)).drop 0).take (p.length-0)=p
   rw[aeQ,aeR,adn])
  have b:ahl (T9<|p++((c::y)++q)) (p.length+(T9 (c::y)).length) (T9<|p++((c::y)++q)).length=T9 q:=eg (by
   rw[adl,dg];show ((p++((c::y)++q)).drop<|p.length+(c::y).length).take _=q;rw[<-adR,dr,adm]
   show acs<|by rw[dg,aat,aat];lia)
  rw[a,b]
theorem Cj(y:LN):∀parts:List LN,Txt.join (T9 y) (parts.map T9)=T9 (jn y parts)
 |[]=>by show ajR (T9 y) []=_;rw[afn];rfl
 |[p]=>by show ajR (T9 y) [T9 p]=_;rw[afn];rfl
 |p::q::r=>by have ih:=Cj y (q::r);unfold Txt.join at ih ⊢;rw[afn] at ih ⊢;show T9 p++T9 y++Str.join (T9 y) ((q::r).map T9)=_;rw[ih,mo,mo,abY];rfl
def jC:LN->LN
 |45::r=>r
 |l=>l
def GV(r:LN):jC (45::r)=r:=rfl
def x6{l:LN}(h:∀r,l≠45::r):jC l=l:=by
 unfold jC;split
 .exact absurd rfl<|h _
 .rfl
def GU{c:Nat}(h:c∈jC l):c∈l:=by
 unfold jC at h;split at h
 .exact aaK _ h
 .exact h
def AX(r:LN):(decide ((ZC "-").length<=(T9 (45::r)).length)&&aia (T9 (45::r)) (ZC "-") 0)=true:=by have e:ZC "-"=T9 [45]:=eg (by rw[acI];decide);rw[e];have h:=(adQ (T9 (45::r)) 45 0).mpr rfl;have h2:aia (T9 (45::r)) (T9 [45]) 0=true:=h.2;have h1:decide ((T9 [45]).length<=(T9 (45::r)).length)=true:=aaz (by have:=h.1;rwa[acR] at this);rw[h1,h2];rfl
def sA{l:LN}(h:∀r,l≠45::r):(decide ((ZC "-").length<=(T9 l).length)&&aia (T9 l) (ZC "-") 0)=false:=by
 have e:ZC "-"=T9 [45]:=eg (by rw[acI];decide);rw[e];rw[afO];intro z;rw[aaV] at z;have h2:=(adQ (T9 l) 45 0).mp ⟨by have:=abT z.1;rw[acR];show this,z.2⟩;have h2:l[0]?=some 45:=h2;cases l with
 |nil=>ext h2
 |cons c r=>ext h2;show h r rfl
def UF(c:Nat)(r:LN):Txt.slice (T9 (c::r)) (some 1) none=T9 r:=by have h:=akS (x:=T9 (c::r)) (i:=1) (b:=((c::r).length:Int)) ⋯ (by rw[dg,aay];lia) rfl;rw[h];split eg ?_;show (List.take _<|List.drop 1 (c::r))=r;rw[List.drop_one,List.tail_cons];show acs (by rw[aay];lia)
def okE:ahf (ZC "")=true:=by have e:ZC ""=T9 []:=eg (by rw[acI];decide);rw[e];show Vx λc h=>by ext h
def zV:ZC ""=T9 []:=eg (by rw[acI];decide)
def tZ(h:AllDigits l):∀c∈l,c<1114112:=λc hc=>by have:=h c hc;lia
def Lh(h:AllDigits l):∀r,l≠45::r:=λr e=>by have:=h 45 (by rw[e];show aaJ);lia
def f8(bs:List Bool):fv sJ (bs.map D.B)=some bs:=vp (f:=sJ) (g:=D.B) (λ_=>rfl) bs
def Kn{l:LN}(hl:l.length<=61)(ho:∀c∈l,c<1114112)(h0:jC l≠[])(h1:(jC l).length<=60)(hd:AllDigits<|jC l){v:Int}(hv:ahO (T9 l)=some v)(hg:v.natAbs.log2<1920)
  (ht:ZC (toString v)=T9 l) : Tl aX [.str<|T9 l] A (.B true):=by
 have hl1:l.length<=1000000:=()
 have hl2:(jC l).length<=1000000:=()
 have hl3:l.length<=640:=()
 have ht:ZC v.repr=T9 l:=ht;obtain⟨A1,k1,a1,a2,a3,a4⟩:Nl (dR [some (.str (T9 l)),some (.str (T9 (jC l)))] A) A ((jC l).map λc=>D.B (LG c)):=by split cj (enc:=λc=>D.str<|T9 [c]) (w:=.sq<|(jC l).map λc=>D.str<|T9 [c]) (by simp[DP]) (by simp) hl2 (λ_ _=>eh) λc _ A6 _=>?_;have:=OL c;show⟨_,rfl,A6,by simp[this],aaE _⟩
 split⟨A1,?_,a2⟩;have e1:eA false (.str<|T9<|jC l) (.str<|Str.ofString "") A=some (.B false,A):=by rw[pO (Vx λc hc=>ho c<|GU hc) okE,zV,aaA λz=>h0<|kq z];rfl
 have g:¬(60:Int)<((jC l).length:Nat):=()
 have e2:=f8<|(jC l).map LG;rw[aaP] at e2;have e3:(jC l).all LG=true:=by rw[ac9];show λc hc=>aaz<|hd c hc
 have e4:eA false (.str<|T9 l) (.str<|T9 l) A1=some (.B true,A1):=by rw[pO (Vx ho)<|Vx ho,aaz rfl];rfl
 have e5:((jC l).map λc=>D.B<|LG c)=(jC l).map (D.B∘LG):=rfl;by_cases h:∃r,l=45::r
 .let⟨r,rfl⟩:=h;have b1:=AX r;have b2:=UF 45 r;have hq:r.length+1<=ZF:=f7 hl1;have hq2:r.length+1<=640:=hl3;have f0:=GV r;rw[f0] at a1 a4 e1 e2 e3 e5 g hl2;simp at b1;rw[e5] at a4;simp[aX,bS,gt,b1,b2,hq,hq2,a1,a4,e1,e2,e3,e4,g,hv,hg,ht,hl1,hl2,hl3]
 .have h':∀r,l≠45::r:=λr e=>h ⟨r,e⟩;have b1:jc [.str<|T9 l,.str<|Str.ofString "-"] A=some (.B false,A):=by
   have:=sA h';show some (D.B _,A)=_;rw[this]
  have f0:=x6 h';rw[f0] at a1 a4 e1 e2 e3 e5 g;rw[e5] at a4;simp[-jc,aX,bS,gt,b1,a1,a4,e1,e2,e3,e4,g,hv,hg,ht,hl1,hl2,hl3]
def HS(n:Int)(h:n.natAbs<10^60):∃l,ZC (toString n)=T9 l/\l.length<=61/\(∀A,Tl aX [.str<|T9 l] A<|.B true)/\ahO (T9 l)=some n:=by
 by_cases h0:0<=n
 .let⟨m,rfl⟩:=afo h0;have hm:m<10^60:=h;have d:=jo m;have f:=x6<|Lh d;have ln:=Cw hm;have it:ahO (T9<|kY m)=some (m:Int):=by
   have:=intText_digits (x:=T9<|kY m) d (wq m) (by rw[dg];lia);rw[Dg,Cy] at this;show this
  split⟨kY m,wL m,(),?_,it⟩;show λA=>Kn (l:=kY m) () (tZ d) (by rw[f];show wq m) (by rw[f];show ln) (by rw[f];show d) it (ou hm)<|wL m
 .obtain⟨m,rfl⟩:∃m:Nat,n = -(m:Int):=⟨n.natAbs,()⟩
  have hm:m<10^60:=by rw[akc] at h;show h
  have hp:0<m:=()
  have d:=jo m;have ln:=Cw hm;have sm:∀c∈45::kY m,c<1114112:=λc hc=>by
   rcases aau.1 hc with rfl|hc
   .decide
   .exact tZ d c hc
  have it:ahO (T9 (45::kY m))=some (-(m:Int)):=by have:=intText_neg (x:=T9 (45::kY m)) (Dg _) d (wq m) (by rw[dg,aay];lia);rw[Cy] at this;show this
  split⟨45::kY m,wM m hp,by rw[aay];lia,?_,it⟩;show λA=>Kn (l:=45::kY m) (by rw[aay];lia) sm (wq m) ln d it (by rw[akc];show ou hm)<|wM m hp
def bu(n:Int):LN:=(ZC<|toString n).cps.toList
def kL(n:Int):ZC (toString n)=T9 (bu n):=eg rfl
abbrev uU(n:Int):Prop:=n.natAbs<10^60
def eY{n:Int}(h:uU n):(bu n).length<=61/\(∀A,Tl aX [.str<|T9<|bu n] A<|.B true)/\ahO (T9<|bu n)=some n:=by let⟨l,e,a,b,c⟩:=HS n h;have:bu n=l:=kq<|(kL n).symm.trans e;rw[this];show⟨a,b,c⟩
def gN(n:Int):∀c∈bu n,c=45\/(48<=c/\c<=57):=by
 intro c hc;by_cases h0:0<=n
 .let⟨m,rfl⟩:=afo h0;rw[kq<|(kL (m:Int)).symm.trans<|wL m] at hc;show .inr<|jo m c hc
 .obtain⟨m,rfl⟩:∃m:Nat,n = -(m:Int):=⟨n.natAbs,()⟩
  rw[kq<|(kL<|-(m:Int)).symm.trans<|wM m ()] at hc;rcases aau.1 hc with rfl|hc
  .exact .inl rfl
  .exact .inr<|jo m c hc
def gO{n:Int}(h:uU n):Tl a9 [.str<|T9<|bu n] A<|.int n:=by
 let⟨a,b,c⟩:=eY h;let⟨A1,b1,b2⟩:=b A;have l:(bu n).length<=640:=()
 show⟨A1,by simp[a9,bS,mJ,b1,c,l],b2⟩
open L2 Y PySem.NumText Rw
open M (bh)
def nK(s:Int×Int):LN:=if s.1=s.2 then bu s.1 else bu s.1++([46,46]++bu s.2)
theorem Hs{c:Nat}:∀ {parts:List LN},c∈jn y parts->c∈y\/∃p∈parts,c∈p
 |[],h=>by ext h
 |[p],h=>.inr ⟨p,aaJ,h⟩
 |p::q::r,h=>by
  rcases ab1.1 h with h|h
  .exact .inr ⟨p,aaJ,h⟩
  .rcases ab1.1 h with h|h
   .exact .inl h
   .rcases Hs h with h|⟨p',hp,h⟩
    .exact .inl h
    .exact .inr ⟨p',aaK _ hp,h⟩
def Dc(s:Int×Int):∀c∈nK s,c=45\/c=46\/(48<=c/\c<=57):=by
 intro c hc;unfold nK at hc;split at hc
 .rcases gN _ c hc with h|h<;>lia
 .rcases ab1.1 hc with h|h
  .rcases gN _ c h with h|h<;>lia
  .rcases ab1.1 h with h|h
   .simp at h;lia
   .rcases gN _ c h with h|h<;>lia
def pX{s:Int×Int}(h1:uU s.1)(h2:uU s.2):(nK s).length<=124:=by
 have a:=(eY h1).1;have b:=(eY h2).1;unfold nK;split
 .lia
 .rw[aat,aat];show _+(2+_)<=_;lia
def vU{A:Hh}{k:Nat}{y:LN}{l:List LN}(h:A[k]?=some (.L<|l.map λp=>.str<|T9 p))(hs:(l.map ag7).sum+l.length*y.length<=1000000):lj [.str<|T9 y,.ref k] A=some (.str<|T9<|jn y l,A):=by
 have e:fv gZ (l.map λp=>.str<|T9 p)=some (l.map T9):=iJ (f:=gZ) (g:=λp=>.str<|T9 p) (k:=T9) (λ_=>rfl) l;show ((iR A<|.ref k).bind λl=>(fv gZ l).bind λys=>if (ys.map (·.length)).sum+ys.length*(T9 y).length<=16777216 then some (D.str<|Txt.join (T9 y) ys,A) else none)=_;rw[CY h];show ((fv gZ<|l.map λp=>.str<|T9 p).bind _)=_;rw[e];show (if ((l.map T9).map (·.length)).sum+(l.map T9).length*(T9 y).length<=16777216 then _ else none)=_;have e2:((l.map T9).map (·.length)).sum=(l.map ag7).sum:=by rw[aaP];rfl
 rw[e2,aar,dg,aac<|aaN hs (),Cj]
def gQ{a y:LN}(hy:y.length≠0)(h:a.length<=900000):bP [.str<|T9 a,.str<|T9 y] A=some (.ref A.length,A++[.L<|(agM (T9 a)<|T9 y).map D.str]):=by show ((if (T9 y).length≠0/\(T9 a).length+2<=ZF then some _ else none).or _)=_;rw[aac ⟨hy,f7<|by rw[dg];lia⟩];rfl
def js3{a b c:XE}{U:Y.Env}{A:Hh} (ha:a U A=some (.str<|T9 l,A))(hb:b U A=some (.str<|T9 m,A))(hc:c U A=some (.str<|T9 n,A))(h:l.length+m.length+n.length<=1000000):Kq [a,b,c] ahs U A=some (.str<|T9<|l++(m++n),A):=by
 have e:ahs=T9 []:=rfl;have q:∀(u v:LN),u.length+v.length<=1000000->(T9 u++T9 v).length<=ZF:=λu v h=>by rw[mo,dg,aat];show f7 h
 rw[e];unfold Kq xb;rw[ha];show (if (T9 []++T9 l).length<=ZF then _ else none)=_;rw[aac<|q _ _<|by show 0+_<=_;lia,mo];unfold Kq xb;rw[hb];show (if (T9 ([]++l)++T9 m).length<=ZF then _ else none)=_;rw[aac<|q _ _<|by rw[aca];lia,mo];unfold Kq xb;rw[hc];show (if (T9 ([]++l++m)++T9 n).length<=ZF then _ else none)=_;rw[aac<|q _ _<|by rw[aca,aat];lia,mo];unfold Kq;rw[aac<|f7<|by rw[dg,aca,aat,aat];lia,aca,abY]
def cS(s:String):ZC s=T9 (s.toList.map aiT):=eg<|acI s
def rD:ZC ".."=T9 [46,46]:=(cS "..").trans ⋯
def rA:ZC ": "=T9 [58,32]:=(cS ": ").trans ⋯
def As:ZC "; "=T9 [59,32]:=(cS "; ").trans ⋯
def iM:ZC " "=T9 [32]:=(cS " ").trans ⋯
def nF(n:Int):ZC n.repr=T9 (bu n):=kL n
def pK{s:Int×Int}(h1:uU s.1)(h2:uU s.2):cM [.int s.1,.int s.2] A=some (.str<|T9<|nK s,A):=by
 have a:=ou h1;have b:=ou h2;have la:=(eY h1).1;have lb:=(eY h2).1;unfold nK;by_cases h:s.1=s.2
 .rw[aac h];rw[h] at a ⊢;simp[cM,bS,gr,a,nF]
 .rw[aad h];have j:=js3 (a:=FH<|aa 0) (b:=xC<|.str "..") (c:=FH<|aa 1) (U:=[some<|.int s.1,some<|.int s.2]) (A:=A) (l:=bu s.1) (m:=[46,46]) (n:=bu s.2) (by simp[a,nF]) (by rw[rD];rfl) (by simp[b,nF]) (by show _+2+_<=_;lia);simp only[cM,bS,gr];simp[-Kq,h,j]
def Lg(s:Int×Int):agM (T9<|nK s) (T9 [46,46])=if s.1=s.2 then [T9<|bu s.1] else [T9<|bu s.1,T9<|bu s.2]:=by
 have f:∀n:Int,46∉bu n:=λn h=>by rcases gN n _ h with h|h<;>lia
 unfold nK;split
 .exact gR 46 [46] ⋯ [bu s.1] (by simp) (λp hp=>by rw[aaG] at hp;subst hp;show f _)
 .exact gR 46 [46] ⋯ [bu s.1,bu s.2] (by simp) (λp hp=>by
   simp only[aau,aa3,aa4] at hp
   rcases hp with rfl|rfl<;>show f _)
def pJ(y:Int){s:Int×Int}(h1:uU s.1)(h2:uU s.2):Tl br [.int y,.str<|T9<|nK s] A<|cq (y,s.1,s.2):=by
 have d:=gQ (A:=A) (a:=nK s) (y:=[46,46]) ⋯ (by have:=pX h1 h2;lia);rw[Lg] at d;by_cases h:s.1=s.2
 .rw[aac h] at d;let⟨A1,a1,a2⟩:=gO (A:=A++[.L [D.str<|T9<|bu s.1]]) h1;let⟨A2,b1,b2⟩:=gO (A:=A1) h1;have l0:=ai a2<|aj (A:=A) (b:=.L [D.str<|T9<|bu s.1]);split⟨A2,?_,((aap _ _).trans a2).trans b2⟩;have i1:=iG []<|D.str<|T9<|bu s.1;rw[aca] at i1;simp only[br,bS,gq,rD];simp[-bP,d,a1,b1,l0,i1,<-h]
 .rw[aad h] at d;let⟨A1,a1,a2⟩:=gO (A:=A++[.L [D.str<|T9<|bu s.1,D.str<|T9<|bu s.2]]) h1;let⟨A2,b1,b2⟩:=gO (A:=A1) h2;have l0:=ai a2<|aj (A:=A) (b:=.L [D.str<|T9<|bu s.1,D.str<|T9<|bu s.2]);split⟨A2,?_,((aap _ _).trans a2).trans b2⟩;have i1:=iG [D.str<|T9<|bu s.1]<|D.str<|T9<|bu s.2;rw[List.singleton_append] at i1;simp only[br,bS,gq,rD];simp[-bP,d,a1,b1,l0,i1]
def okT{l:LN}(h:∀c∈l,c<256):ahf (T9 l)=true:=Vx λc hc=>by have:=h c hc;lia
def oq:ZC "nothing"=T9 [110,111,116,104,105,110,103]:=(cS "nothing").trans ⋯
def vJ{neg:Bool}{a b:LN}(ha:∀c∈a,c<256)(hb:∀c∈b,c<256):eA neg (.str<|T9 a) (.str<|T9 b) A=some (.B (if neg then !decide (a=b) else decide (a=b)),A):=by rw[pO (okT ha)<|okT hb];have:decide (T9 a=T9 b)=decide (a=b):=aet.2 ⟨kq,λh=>#v[h]⟩;rw[this]
def df{a:LN}{x:Str}(A:Hh)(e:x=T9 b)(ha:∀c∈a,c<256)(hb:∀c∈b,c<256)(n:a≠b):eA false (.str<|T9 a) (.str x) A=some (.B false,A):=by rw[e,vJ ha hb,aaA n];rfl
def bi{a:LN}{x:Str}(A:Hh)(e:x=T9 b)(h:(∀c∈a,c<256)/\(∀c∈b,c<256)/\a≠b):eA false (.str<|T9 a) (.str x) A=some (.B false,A):=df A e h.1 h.2.1 h.2.2
def aS{x:Str}(A:Hh)(e:x=T9 a)(ha:∀c∈a,c<256):eA false (.str<|T9 a) (.str x) A=some (.B true,A):=by rw[e,vJ ha ha,aaz rfl];rfl
def wj{a:LN}(ha:∀c∈a,c<256):eA true (.str<|T9 a) (.str<|T9 a) A=some (.B false,A):=by rw[vJ ha ha];simp
abbrev Vz:LN:=[110,111,116,104,105,110,103]
def wY(t:oW):LN:=bu t.1++([58,32]++nK t.2)
def FG:Ln->LN
 |none=>Vz
 |some t=>wY t
structure NO3(t:oW):Prop where
 y:uU t.1
 a:uU t.2.1
 b:uU t.2.2
 g:t.2.1<=t.2.2
def TkL(o:Ln):Prop:=∀t,o=some t->NO3 t
def TkL.go(h:TkL o):Go o:=λt e=>(h t e).g
def Bi:∀c∈wY t,c=58\/c=32\/c=45\/c=46\/(48<=c/\c<=57):=λc hc=>by
 rcases ab1.1 hc with h|h
 .rcases gN _ c h with h|h<;>lia
 .rcases ab1.1 h with h|h
  .simp at h;lia
  .have:=Dc _ c h;lia
def wN(h:NO3 t):(wY t).length<=190:=by have h1:=(eY h.y).1;have h2:=pX h.a h.b;unfold wY;rw[aat,aat];show _+(2+_)<=_;lia
def JZ(h:TkL o):(FG o).length<=190:=by
 cases o with
 |none=>decide
 |some t=>show wN<|h t rfl
def sF:∀c∈FG o,c<256:=by
 cases o with
 |none=>decide
 |some t=>intro c hc;have:=Bi c hc;lia
section
variable {A A':Hh}{o:Ln}{t:oW}
def OQ{k:Nat}{y:LN}(h:A[k]?=some (.L [.str<|T9 l]))(hl:l.length<=900)(hy:y.length<=9):lj [.str<|T9 y,.ref k] A=some (.str<|T9 l,A):=vU (l:=[l]) h (by simp;lia)
def Da(h:TkL o):Tl kf [ax<|bo o] A<|.str (T9<|FG o):=by
 have d0:=GQ (A:=A) false<|bo o;cases o with
 |none=>
  have e:D.str (ZC "nothing")=.str (T9 Vz):=by rw[oq]
  split⟨A,?_,aaE _⟩;show kf [.T []] A=some (.str<|T9 Vz,A);rw[<-e];show aU rfl<|eS (bQ (av<|ao rfl (bV rfl rfl rfl) d0)<|dh rfl<|ay rfl) rfl
 |some t=>
  have h:=h t rfl;have la:=(eY h.y).1;have lb:=pX h.a h.b;have lc:=wN h;obtain⟨A1,k1,a1,a2,a3,a4⟩:Nl (w8 [some (ax (bo (some t)))] A) A [.str (T9 (wY t))]:=ik (g8 rfl) λA' _=>by
   obtain⟨A1,k1,a1,a2,a3,a4⟩:Nl (mF [some (.int t.1),some (ef [t.2]),none] A') A' [.str (T9 (nK t.2))]:=ik (g8 rfl) λA' _=>⟨_,rfl,A',al (ag rfl<|aB rfl) rfl<|pK h.a h.b,aaE _⟩
   have j:=OQ (y:=[32]) a4 () ⋯;have lg:=ou h.y;have hq:(nK t.2).length<=ZF:=f7 ();have j3:=js3 (a:=FH<|aa 0) (b:=xC<|.str ": ") (c:=FH<|aa 2) (U:=[some<|.int t.1,some<|ef [t.2],some<|.str<|T9<|nK t.2]) (A:=A1) (l:=bu t.1) (m:=[58,32]) (n:=nK t.2) (by simp[lg,nF]) (by rw[rA];rfl) (by simp[hq]) (by show _+2+_<=_;lia);show⟨_,rfl,A1,al (ag rfl<|aB rfl) rfl<|aU rfl<|bG (eM (b7 iM) rfl (aB a1) j)<|ay j3,a2⟩
  have j:=OQ (y:=[59,32]) a4 () ⋯;show⟨A1,aU rfl<|eR (av<|ao rfl (bV rfl rfl rfl) d0)<|ay<|eM (b7 As) rfl (aB a1) j,a2⟩
def MC(h:NO3 t):ke [.str<|T9<|wY t,.str<|T9 [58,32]] A=some (.T [.str<|T9<|bu t.1,.str<|T9 [58,32],.str<|T9<|nK t.2],A):=by
 have e:ZZ (T9<|wY t) (T9 [58,32])=(T9<|bu t.1,T9 [58,32],T9<|nK t.2):=wu 58 [32] (bu t.1) (nK t.2) λh=>by rcases gN _ _ h with h|h<;>lia
 have l:=wN h;show (if (T9 [58,32]).length≠0/\(T9<|wY t).length<=ZF then some (D.T [.str (ZZ (T9<|wY t)<|T9 [58,32]).1,.str (ZZ (T9<|wY t)<|T9 [58,32]).2.1,.str (ZZ (T9<|wY t)<|T9 [58,32]).2.2],A) else none)=_;rw[aac ⟨⋯,f7<|by rw[dg];lia⟩,e]
def Jr{c:Nat}{y l:LN}(hy:∀d∈c::y,d<256)(hl:l.length<=900)(hc:c∉l):bP [.str<|T9 l,.str<|T9 (c::y)] A=some (.ref A.length,A++[.L [.str<|T9 l]]):=by
 have d:=gQ (A:=A) (a:=l) (y:=c::y) (by simp) ();have sp:agM (T9 l) (T9 (c::y))=[T9 l]:=gR c y hy [l] (by simp) λp hp=>by cases aaG.1 hp;show hc
 rw[sp] at d;show d
def Fd(h:NO3 t):FA cK [.str<|T9<|wY t] A [cq t]:=by
 have lb:=pX h.a h.b;have lc:=wN h
 let A0:=A++[B.L []]
 let A1:=A0++[B.L [.str<|T9<|wY t]]
 let q:D:=.T [.str<|T9<|bu t.1,.str<|T9 [58,32],.str<|T9<|nK t.2]
 have s1:=Jr (A:=A0) (c:=59) (y:=[32]) (l:=wY t) ⋯ () λh=>by have:=Bi _ h;lia
 obtain⟨A2,k1,a1,a2,a3,a4⟩:Nl (gl [some (.str (T9 (wY t))),some (.ref A.length),none,none,none,none] A0) A1 [q]:=xE (gU (eM rfl rfl (aB<|b7 As) s1) aj) (bO aj) (λ_ p=>fg<|ai p aj) λA' _=>⟨_,rfl,A',eM rfl rfl (aB<|b7 rA)<|MC h,aaE _⟩
 let⟨A3,b1,b2⟩:=gO (A:=A2) h.y;have s2:=Jr (A:=A3) (c:=32) (y:=[]) (l:=nK t.2) ⋯ () λh=>by have:=Dc _ _ h;lia
 let E:Y.Env:=[some<|.str<|T9<|wY t,some<|.ref A.length,some<|.str<|T9<|bu t.1,some<|.str<|T9 [58,32],some<|.str<|T9<|nK t.2,some<|.int t.1]
 obtain⟨A4,k2,c1,c2,c3,c4⟩:Nl (gm E A3) (A3++[.L [.str (T9 (nK t.2))]]) [cq t]:=xE (gU (eM rfl rfl (aB<|b7 iM) s2) aj) (bO aj) (λ_ p=>fg<|ai p aj) λA' _=>by let⟨A7,t1,t2⟩:=pJ (A:=A') t.1 h.a h.b;show⟨_,rfl,A7,al (ag rfl<|aB rfl) rfl t1,t2⟩
 have p1:A0 <+: A3:=(aap _ _).trans<|a2.trans b2;have p2:A3 <+: A4:=(aap _ _).trans c2;have l3:=ai p1<|aj (A:=A) (b:=.L []);have l4:=ai p2 l3;have x1:=lQ l4 c4 (abV 1 999999) rfl;have f1:ja (Bv 2 3 4) gj (.ls k1) 2 0 [some<|.str<|T9<|wY t,some<|.ref A.length,none,none,none,none] A2=some (.nx E,A4.set A.length<|.L [cq t]):=by
  have ne:A.length≠k1:=by rw[aat,aat] at a3;change A.length+1+1<=k1 at a3;lia
  show Ei (eL a4 rfl) rfl (bG (al (aB rfl) rfl b1)<|gS (eM rfl (cI l3) (aB c1) x1) rfl)<|x8<|eL (l:=[q]) (by rw[aav ne];show ai (b2.trans p2) a4) rfl
 show⟨_,A.length,aU rfl<|bG (d9 rfl rfl)<|cy (jA (gU a1 a4) (bO a4) f1)<|ay rfl,cW ((aap _ _).trans<|p1.trans p2)<|aaq _,aaq _,cF l4⟩
def No(h:TkL o):Tl rP [.str<|T9<|FG o] A<|ax (bo o):=by
 cases o with
 |none=>show⟨A,aU rfl<|cy (bQ (fh<|fi<|bn (ag rfl<|aB rfl) rfl)<|fV rfl rfl)<|eS (bQ (av<|bJ<|aS A oq ⋯)<|dh rfl<|ay<|bV rfl rfl rfl) rfl,aaE _⟩
 |some t=>
  let⟨A1,k1,a1,a2,a3,a4⟩:=Fd (A:=A)<|h t rfl;let⟨A2,b1,b2⟩:=AJ (o:=some t) a4 h.go;let⟨A3,e1,e2⟩:=Da (A:=A2) h;have ne:wY t≠Vz:=λz=>by have:=Bi (t:=t) 110 (by rw[z];show aaJ);lia
  show⟨A3,aU rfl<|cy (bQ (fh<|fi<|bn (ag rfl<|aB rfl) rfl)<|fV rfl rfl)<|eR (av<|bJ<|df A oq (sF (o:=some t)) ⋯ ne)<|bG (al (aB<|al (aB rfl) rfl a1) rfl b1)<|eR (av<|ao (al (aB rfl) rfl e1) rfl<|wj<|sF (o:=some t))<|ay rfl,(a2.trans b2).trans e2⟩
end
open L2 Y PySem.NumText StrLaws Builtin.Str
set_option tactic.hygienic true in
theorem vZ(s sub:Str)(hi limit lo:Nat)(hw:1<=sub.length):∀(m cur:Nat) (st:Array Nat×Nat),ChainG s sub hi lo st.fst.toList st.snd->(st.fst.size<limit->∀k,st.snd<=k->k<cur->¬At s sub hi k)->st.fst.size<=limit ->
  ∃z:Array Nat×Nat,(forIn (aky cur m) st<|occBody s sub hi limit).run=z/\ChainG s sub hi lo z.1.toList z.2/\z.1.size<=limit/\(z.1.size<limit->∀k,z.2<=k->k<cur+m->¬At s sub hi k)
 |0,cur,st,h,hn,hl=>⟨st,rfl,h,hl,hn⟩
 |m+1,cur,st,h,hn,hl=>by
  rw[List.range'_succ,adv,show cur+(m+1)=(cur+1)+m by lia];unfold occBody;split
  .rename_i hc;split vZ s sub hi limit lo hw m (cur+1) _ ?_ ?_ ?_
   .show ChainG s sub hi lo (st.fst.push cur).toList<|cur+sub.length;rw[Array.toList_push];show chainG_snoc h hc.1.1.2 ⟨hc.1.2,hc.2⟩<|hn hc.1.1.1
   .intro _ k h1 h2;have h1':cur+sub.length<=k:=h1;lia
   .show (st.fst.push cur).size<=limit;rw[Array.size_push];have:=hc.1.1.1;lia
  .rename_i hc;split vZ s sub hi limit lo hw m (cur+1) _ h ?_ hl;intro hs k h1 h2 hA;by_cases hk:k<cur
   .exact hn hs k h1 hk hA
   .have ek:k=cur:=()
    subst ek;show hc ⟨⟨⟨hs,h1⟩,hA.1⟩,hA.2⟩
def Mq(x y:Str)(limit:Nat)(hw:1<=y.length):∃f,ChainG x y x.length 0 (occurrences x y 0 x.length limit) f/\(occurrences x y 0 x.length limit).length<=limit/\((occurrences x y 0 x.length limit).length<limit->∀k,f<=k->¬At x y x.length k):=by rw[occ_eq];let⟨z,e,h1,h2,h3⟩:=vZ x y x.length limit 0 hw (x.length+1-0) 0 ((#[]:Array Nat),0) rfl (λ_ k _ h=>())<|aaL _;rw[e];show⟨z.2,h1,h2,λh k hk hA=>h3 h k hk (by have:=hA.1;lia) hA⟩
theorem uz(c:Nat)(l:LN)(rest:LN):∀(parts:List LN) (a:Nat) (cuts:LN) (f:Nat),(∀p∈parts,c∉p)->a<=l.length->l.drop a=jn [c] (parts++[rest]) ->
  ChainG (T9 l) (T9 [c]) (T9 l).length a cuts f->cuts.length<=parts.length->(cuts.length<parts.length->∀k,f<=k->¬At (T9 l) (T9 [c]) (T9 l).length k)->partsFrom (T9 l) (T9 [c]).length a cuts=parts.map T9++[T9 rest]
 |[],a,cuts,f,_,ha,e,hc,hl,_=>by
  have:cuts=[]:=ags.1<|Nat.le_zero.1 hl;subst this;have e:l.drop a=rest:=e;show [strSub (T9 l) a (T9 l).length]=[T9 rest]
  congr 1;split eg ?_;rw[adl];show (l.drop a).take (l.length-a)=rest;rw[e];show acs (by rw[<-e,acM];show aaq _)
 |p::r,a,cuts,f,hp,ha,e,hc,hl,hf=>by
  have e:l.drop a=p++([c]++jn [c] (r++[rest])):=by
   cases r with
   |nil|cons _ _=>show e
  have len:l.length=a+p.length+1+(jn [c]<|r++[rest]).length:=by have:=aaF ag7 e;rw[acM,aat,aat,acN] at this;lia
  have dr:l.drop (a+p.length)=[c]++jn [c] (r++[rest]):=by rw[<-adR,e,adm]
  have hat:At (T9 l) (T9 [c]) (T9 l).length<|a+p.length:=(vi l [c] _).mpr ⟨by rw[acN];lia,#v[dr,adn]⟩;have np:∀k,a<=k->k<a+p.length->l[k]?≠some c:=λk h1 h2 z=>by
   have:(l.drop a)[k-a]?=some c:=by rw[adH,show a+(k-a)=k by lia];show z
   rw[e,acq ()] at this;show hp p aaJ<|abp this
  cases cuts with
  |nil=>
   have:f=a:=hc;show absurd hat<|hf (Nat.succ_pos _) _ ()
  |cons d cs=>
   let⟨h1,h2,h3,h4⟩:=hc;have hd:d=a+p.length:=by have k1:¬a+p.length<d:=λz=>h3 _ () z hat;have k2:¬d<a+p.length:=λz=>np d h1 z<|mO h2;lia
   subst hd;have ih:=uz c l rest r (a+p.length+(T9 [c]).length) cs f (λx hx=>hp x<|aaK _ hx) (by rw[dg,acN];lia) (by
    rw[dg,<-adR,dr,adm]) h4 (Nat.le_of_succ_le_succ hl) λz=>hf<|Nat.succ_lt_succ z
   show strSub (T9 l) a (a+p.length)::partsFrom (T9 l) _ _ cs=T9 p::(r.map T9++[T9 rest]);rw[ih];congr 1;split eg ?_;rw[adl];show (l.drop a).take (a+p.length-a)=p;rw[e,show a+p.length-a=p.length by lia,adn]
def Fk(c:Nat)(hk:c<256)(parts:List LN)(rest:LN)(hp:∀p∈parts,c∉p):Txt.splitM (T9<|jn [c]<|parts++[rest]) (T9 [c]) (parts.length:Int)=parts.map T9++[T9 rest]:=by
 have hlm:limitOf (T9<|jn [c]<|parts++[rest]) (parts.length:Int)=parts.length:=by unfold limitOf;rw[aad (),acL]
 let⟨f,hc,hl,hf⟩:=Mq (T9<|jn [c]<|parts++[rest]) (T9 [c]) parts.length<|aaq 1;have key:=uz c (jn [c]<|parts++[rest]) rest parts 0 _ f hp (aaL _) rfl hc hl hf;have one:∀x:Str,partsFrom x (T9 [c]).length 0 []=[x]:=λx=>by show [strSub _ 0 _]=_;rw[afm]
 unfold Txt.splitM;rw[hlm];split
 .rename_i h;rw[ady,ab0,ab0] at h;have h:(T9<|jn [c]<|parts++[rest]).length<(T9 [c]).length:=h.resolve_right (by rw[OU (y:=[c])<|~~~hk];have:=Cm<|T9<|jn [c]<|parts++[rest];lia);cases q:occurrences (T9<|jn [c]<|parts++[rest]) (T9 [c]) 0 (T9<|jn [c]<|parts++[rest]).length parts.length with
  |nil=>rw[q,one] at key;show key
  |cons d cs=>rw[q] at hc;have:=hc.2.1.1;lia
 .split
  .rename_i h;rw[List.isEmpty_iff.1 h,one] at key;show key
  .rw[agr];show key
def aJ(p:LN):Prop:=(1<=p.length/\p.length<=8)/\∀c∈p,97<=c/\c<=122
def letters:(ZC "abcdefghijklmnopqrstuvwxyz").cps.toList=aky 97 26:=by rw[acI];decide
def WC{c:Nat}(h:97<=c/\c<=122):(agL (ZC "abcdefghijklmnopqrstuvwxyz") (T9 [c]) 0 (ZC "abcdefghijklmnopqrstuvwxyz").length 1).isEmpty=false:=by
 have:(!(agL (ZC "abcdefghijklmnopqrstuvwxyz") (T9 [c]) 0 (ZC "abcdefghijklmnopqrstuvwxyz").length 1).isEmpty)=true:=by rw[agq];split⟨c-97,(adQ _ c<|c-97).2 ?_⟩;rw[letters,List.getElem?_range' ()];congr 1;lia
 simpa using this
def Ak(h:aJ p):Tl eP [.str<|T9 p] A<|.B true:=by
 obtain⟨A1,k1,a1,a2,a3,a4⟩:Nl (oQ [some (.str (T9 p))] A) A (p.map λ_=>D.B true):=by split cj (enc:=λc=>D.str<|T9 [c]) (w:=.sq<|p.map λc=>D.str<|T9 [c]) (by simp[DP]) (by simp) (by have:=h.1;lia) (λ_ _=>eh) λc hc A6 _=>?_;have:=WC<|h.2 c hc;show⟨_,rfl,A6,by simp[this],aaE _⟩
 have e2:=f8<|p.map λ_=>true;rw[aaP] at e2;have e3:(p.map λ_=>D.B true)=p.map (D.B∘λ_=>true):=rfl;rw[e3] at a4;have h1:(1:Int)<=(p.length:Nat):=by have:=h.1;lia
 have h2:((p.length:Nat):Int)<=8:=by have:=h.1;lia
 have h3:p.length<=1000000:=by have:=h.1;lia
 show⟨A1,by simp[eP,bS,tO,h1,h2,h3,a1,a4,e2],a2⟩
def lS(k:Str):Bool:=ua (.str k) [.str "TEXT",.str "FORM"]
def lV(k:Str):db [.str k] A=some (.B<|lS k,A):=by simp[db,bS,tQ,fv,lS]
abbrev Vl(kp:Str×LN):D:=.T [.str kp.1,.str<|T9 kp.2]
abbrev cu(p:LN):D:=.str<|T9 p
def pN(ws:List LN):fv gZ (ws.map cu)=some (ws.map T9):=iJ (f:=gZ) (g:=cu) (k:=T9) (λ_=>rfl) ws
def Bs{A:Hh}{n:Nat}{ks:Zl}{ws:List LN}(hl:ks.length=ws.length)(ha:A[n]?=some (.L<|ws.map cu)):Kz (.zp (ks.map .str) n<|ws.map T9) ((ks.zip ws).map Vl) A:=by
 intro i hi;rw[aar,adP] at hi;show (if (A[n]?.bind B.ls).bind (fv gZ)=some (ws.map T9)/\i<=(ks.map D.str).length then zp1 (ks.map D.str)[i]? (ws.map T9)[i]? else none)=_;rw[ha];rw[aac ⟨pN ws,by rw[aar];lia⟩,aaX,aaX,aaX];by_cases h:i<ks.length
 .rw[ab8 h,ab8 (show i<ws.length by lia),ab8 (show i<(ks.zip ws).length by rw[adP];lia),List.getElem_zip];rfl
 .rw[acQ (show ks.length<=i by lia),acQ (show (ks.zip ws).length<=i by rw[adP];lia)];rfl
def r8{w:LN}{ws:List LN}(hw:32∉w):(ZZ (T9<|jn [32] (w::ws))<|T9 [32]).1=T9 w:=by
 cases ws with
 |cons q r=>
  have:=wu 32 [] w (jn [32] (q::r)) hw;show aaF (·.1) this
 |nil=>
  rcases ajT (T9 w) (T9 [32]) 1 (aaq _) with ⟨e,_⟩|⟨i,r,e,h1,h2⟩
  .show (ZZ (T9 w)<|T9 [32]).1=_;unfold ZZ;rw[e]
  .exact absurd (abp<|mO h1) hw
def wK{w:LN}{ks:Zl}{ws:List LN}(hw:32∉w)(hl:ks.length=ws.length)(hk:ks.length<=3)(h1:ks.any lS=true->∀p∈ws.dropLast,32∉p)(h2:ks.any lS=false->∀p∈ws,32∉p)(Zz:(jn [32] (w::ws)).length<=900000) :
  FA cB [.str<|T9<|jn [32] (w::ws),.mt<|ks.map .str] A ((w::ws).map cu):=by
 obtain⟨A1,k1,a1,a2,a3,a4⟩:Nl (ii [some (.str (T9 (jn [32] (w::ws)))),some (.mt (ks.map .str))] A) A (ks.map λk=>D.B (lS k)):=by split cj (enc:=D.str) (w:=.sq<|ks.map .str) rfl (aar _) () (λ_ _=>eh) λk _ A6 _=>?_;have:=lV (A:=A6) k;show⟨_,rfl,A6,by simp[this],aaE _⟩
 have e2:=f8<|ks.map lS;rw[aaP] at e2;have e3:(ks.map λk=>D.B<|lS k)=ks.map (D.B∘lS):=rfl;rw[e3] at a4;have e4:(ks.map lS).any id=ks.any lS:=by rw[akz];rfl
 have hz:(jn [32] (w::ws)).length+2<=ZF:=f7 ();have hks:ks.length<=1000000:=()
 by_cases h:ks.any lS=true
 .have hne:ws≠[]:=λz=>by
   rw[z] at hl;have:ks=[]:=ags.1 hl;rw[this] at h;ext h
  have es:ws=ws.dropLast++[ws.getLast hne]:=(List.dropLast_concat_getLast hne).symm;have hln:(w::ws.dropLast).length=ks.length:=by rw[aay,afK];have:=List.length_pos_iff.2 hne;lia
  have sp:=Fk 32 ⋯ (w::ws.dropLast) (ws.getLast hne) λp hp=>by
   rcases aau.1 hp with rfl|hp
   .exact hw
   .exact h1 h p hp
  rw[akt,<-es,hln] at sp;have sp2:(w::ws.dropLast).map T9++[T9<|ws.getLast hne]=(w::ws).map T9:=by
   conv=>rhs;rw[es]
   simp
  rw[sp2] at sp;have m1:bP [.str<|T9<|jn [32] (w::ws),.str<|T9 [32],.int (ks.length:Nat)] A1=some (.ref A1.length,A1++[.L<|(w::ws).map cu]):=by show (if (T9 [32]).length≠0/\(T9<|jn [32] (w::ws)).length+2<=ZF/\(0:Int)<=(ks.length:Nat)/\((ks.length:Nat):Int)<1000 then _ else none)=_;rw[aac ⟨⋯,hz,(),()⟩,sp,aaP];rfl
  split⟨_,_,?_,a2.trans<|aap _ _,a2.length_le,aj⟩;simp only[cB,bS,jV,iM];simp[-bP,a1,a4,e2,e4,h,m1,hks]
 .have h:ks.any lS=false:=by simpa using h
  have sp:=gR 32 [] ⋯ (w::ws) (by simp) λp hp=>by
   rcases aau.1 hp with rfl|hp
   .exact hw
   .exact h2 h p hp
  have m1:=gQ (A:=A1) (a:=jn [32] (w::ws)) (y:=[32]) ⋯ Zz;rw[sp,aaP] at m1;split⟨_,_,?_,a2.trans<|aap _ _,a2.length_le,aj⟩;simp only[cB,bS,jV,iM];simp[-bP,a1,a4,e2,e4,h,m1]
abbrev wE(w:LN)(ws:List LN)(k v3 v4:Zd):Y.Env:=[some<|.str<|T9<|jn [32] (w::ws),some<|.str<|T9 w,k,v3,v4]
def yY{A:Hh}{w:LN}{ks:Zl}{ws:List LN}(hw:32∉w)(hT:Zp.lookup (T9 w)=some (.mt<|ks.map .str))(hl:ks.length=ws.length)(hk:ks.length<=3)(hn:∀kp∈ks.zip ws,lS kp.1=true\/aJ kp.2)
  (h1:ks.any lS=true->∀p∈ws.dropLast,32∉p) (h2:ks.any lS=false->∀p∈ws,32∉p) (Zz:(jn [32] (w::ws)).length<=900000) :
  ∃A1 k1 A' v3 v4,cB [.str<|T9<|jn [32] (w::ws),.mt<|ks.map .str] A=some (.ref k1,A1)/\A <+: A1/\A.length<=k1/\A1[k1]?=some (.L<|(w::ws).map cu) /\
   ke [.str<|T9<|jn [32] (w::ws),.str<|T9 [32]] A=some (.T [.str<|T9 w,.str (ZZ (T9<|jn [32] (w::ws))<|T9 [32]).2.1,.str (ZZ (T9<|jn [32] (w::ws))<|T9 [32]).2.2],A) /\
   aw (az (eA true) (cc (Y.h1 b8)<|xU<|aa 2)<|az aN (rW 1)<|cc (Y.h1 b8)<|xU<|bg Zp<|aa 1) (wE w ws (some<|.ref k1) none none) A1=some (false,A1) /\
   nQ (af (bg Zp<|aa 1)<|xU<|tF (aa 2) (dP<|rW 1) wV) (wE w ws (some<|.ref k1) none none) A1=some (.zp (ks.map .str) A1.length<|ws.map T9,A1++[.L<|ws.map cu]) /\
   (Wk.zp (ks.map .str) A1.length<|ws.map T9).len (A1++[.L<|ws.map cu])=(ks.zip ws).length /\
   ja (kZ 3 4) iZ (.zp (ks.map .str) A1.length<|ws.map T9) ((ks.zip ws).length+1) 0 (wE w ws (some<|.ref k1) none none) (A1++[.L<|ws.map cu])=some (.nx<|wE w ws (some<|.ref k1) v3 v4,A')/\A1++[.L<|ws.map cu] <+: A':=by
 let⟨A1,k1,a1,a2,a3,a4⟩:=wK (A:=A) hw hl hk h1 h2 Zz
 let⟨U',A',g1,v3,v4,rfl,g2⟩:=kC (enc:=Vl) (g:=kZ 3 4) (x:=iZ) (w:=.zp (ks.map .str) A1.length<|ws.map T9) (as:=ks.zip ws) (U:=wE w ws (some<|.ref k1) none none) (A:=A1++[.L<|ws.map cu])
  (λpre U A'=>∃v3 v4,U=wE w ws (some<|.ref k1) v3 v4/\A1++[.L<|ws.map cu] <+: A')
  (λpre post U A' _ ⟨_,_,_,h⟩=>Bs hl<|ai h aj) (by
  rintro pre kp post _ A2 e ⟨v3,v4,rfl,q1⟩;have hm:kp∈ks.zip ws:=by rw[e];simp
  have r1:=lV (A:=A2) kp.1
  let U1:=wE w ws (some<|.ref k1) (some<|.str kp.1)<|some<|.str<|T9 kp.2
  have r2:cR (ah 1 db<|xU<|aa 3) U1 A2=some (lS kp.1,A2):=fi<|al (aB rfl) rfl r1;cases hr:lS kp.1 with
  |true=>
   rw[hr] at r2;show⟨_,A2,rfl,U1,A2,.inl<|bQ (lv (fh r2) rfl) rfl,_,_,rfl,q1⟩
  |false=>
   rw[hr] at r2;let⟨A3,n1,n2⟩:=Ak (A:=A2)<|(hn kp hm).resolve_left (by rw[hr];show aa1)
   show⟨_,A2,rfl,U1,A3,.inl<|bQ (lv (fh r2)<|fh<|fi<|al (aB rfl) rfl n1) rfl,_,_,rfl,q1.trans n2⟩)
  ⟨none,none,rfl,aaE _⟩
 have hz:(jn [32] (w::ws)).length<=ZF:=f7 ();have e5:(HT.dM (ws.length+1) 0<|some 1)=1:=by have:=HT.wF (ws.length+1) 0 1;rw[show ((1:Nat):Int)=1 from rfl] at this;rw[this];lia
 have e6:=pN ws;have e9:(ws.map cu).take ws.length=ws.map cu:=acs (by rw[aar];show aaq _);have e7:(ws.length:Int)+1=1+((ks.map D.str).length:Nat):=by rw[aar];lia
 have l4:Y.h1 b8 [.ref k1] A1=some (.int<|1+((ks.map D.str).length:Nat),A1):=ed a4 (by rw[<-e7,aar,aay];rfl);split⟨A1,k1,A',v3,v4,a1,a2,a3,a4,?_,av<|ao (bn (aB rfl) l4) (ao rfl (bn (aB<|Bn rfl hT) rfl) rfl)<|kh<|by rw[aaz rfl];rfl,?_,?_,g1,g2⟩
 .show (if (T9 [32]).length≠0/\(T9<|jn [32] (w::ws)).length<=ZF then _ else none)=_;rw[aac ⟨⋯,hz⟩,r8 hw]
 .simp[hT,a4,e5,HT.nG,e9,e6]
 .show (ks.map D.str).length=_;rw[aar,adP];lia
def kA{w:LN}{ks:Zl}{ws:List LN}(hw:32∉w)(hT:Zp.lookup (T9 w)=some (.mt<|ks.map .str))(hl:ks.length=ws.length)(hk:ks.length<=3)(hn:∀kp∈ks.zip ws,lS kp.1=true\/aJ kp.2)
  (h1:ks.any lS=true->∀p∈ws.dropLast,32∉p) (h2:ks.any lS=false->∀p∈ws,32∉p) (Zz:(jn [32] (w::ws)).length<=900000) :
  FA fk [.str<|T9<|jn [32] (w::ws)] A ((w::ws).map cu):=by
 let⟨A1,k1,A',v3,v4,a1,a2,a3,a4,m1,c2,i3,hl2,g1,g2⟩:=yY hw hT hl hk hn h1 h2 Zz (A:=A);have g2:=(aap A1 _).trans g2;show⟨A',k1,aU rfl<|cy (bQ (fh<|fi<|bn (ag rfl<|aB rfl) rfl)<|fV rfl rfl)<|bG (ao (eM rfl rfl (aB<|b7 iM) m1) rfl<|cD fY)<|eR (av<|Ve rfl hT)<|bG (al (ag rfl<|aB<|Bn rfl hT) rfl a1)<|eR c2<|cy (jA i3 hl2 g1)<|ay rfl,a2.trans g2,a3,ai g2 a4⟩
abbrev Kg:LN:=[98,111,120]
def Mh:ZC "box"=T9 Kg:=(cS "box").trans ⋯
def yA:AM f v []=[(f,v)]:=rfl
def Yi{A1:Hh}{s d:D}(h:eU [s] A=some (d,A1)):dJ [s] A=some (d,A1):=by simp[dJ,bS,oX,h]
abbrev Ej:LN:=[98,111,120,32,49,32,48,32,50,32,48]
section
variable {A A':Hh}{n:Nat}
def Ga(h:A[n]?=some (.ins (ZC "Box") [])):eT [.ref n,.int 1,.int 0,.int 2,.int 0] A=some (.N,A.set n<|.ins (ZC "Box") [(ZC "parts",.T [.T [bD]])]):=by
 have e:c7 [.ref n,.T [.T [bD]]] A=some (.N,A.set n<|.ins (ZC "Box") [(ZC "parts",.T [.T [bD]])]):=by simp[c7,bS,jx,h,yA]
 have mn:vj [.int 1,.int 0,.int 2,.int 0] A=some (.int 0,A):=by simp[fv,M.oz];decide
 show aaf rfl<|eR (av<|ao (bn (ag rfl<|ag rfl<|ag rfl<|aB rfl) mn) rfl<|aaR rfl)<|gS (al (ag rfl<|aB<|bV (aB<|bV (aB<|bV rfl rfl rfl) rfl rfl) rfl rfl) rfl e) rfl
def FB.mono(h:FB A n)(p:A <+: A'):FB A' n:=ai p h
def abr:bu 0=[48]/\bu 1=[49]/\bu 2=[50]:=by decide +kernel
def IX:∃A' n,dJ [.str<|T9 Ej] A=some (.ref n,A')/\A <+: A'/\FB A' n:=by
 let⟨n0,n1,n2⟩:=abr
 let ws:Zc:=[cu [49],cu [48],cu [50],cu [48]]
 let C:=A++[B.L (cu Kg::ws)]
 have m1:bP [.str<|T9 Ej,.str " "] A=some (.ref A.length,C):=by
  have d:=gQ (A:=A) (a:=Ej) (y:=[32]) ⋯ ⋯;have e:agM (T9 Ej) (T9 [32])=[T9 Kg,T9 [49],T9 [48],T9 [50],T9 [48]]:=by decide +kernel
  rw[e] at d;rw[iM];show d
 have b0:C[A.length]?=some (.L (cu Kg::ws)):=aj
 let E (o:Zd):Y.Env:=[some<|.str<|T9 Ej,some<|.ref A.length,o]
 have sl:tF (aa 1) (dP<|rW 1) wV (E none) C=some (.ref C.length,C++[.L ws]):=by simp[E,HT.dM,b0,ws]
 have ew:ws=[(1:Int),0,2,0].map λn=>cu (bu n):=by simp only[aax,abq,n0,n1,n2,ws]
 obtain⟨A3,k3,c1,c2,c3,c4⟩:Nl (iB (E none) C) (C++[B.L ws]) ([(1:Int),0,2,0].map D.int):=by
  have a0:=aj (A:=C) (b:=B.L ws);split cj (enc:=λn:Int=>cu<|bu n) (gU sl a0) (bO a0) ⋯ (λA' pr=>fg<|by rw[<-ew];show ai pr a0) λn hn A6 _=>?_;have nn:uU n:=by simp only[aau,aa3,aa4] at hn;rcases hn with rfl|rfl|rfl|rfl<;>(unfold uU;decide +kernel)
  let⟨A7,t1,t2⟩:=gO (A:=A6) nn;show⟨_,rfl,A7,al (aB rfl) rfl t1,t2⟩
 have z (i:Int) (x:D) (h:kT ([(1:Int),0,2,0].map D.int) i=some x):=bv c4 h;have q:=((aap A [B.L (cu Kg::ws)]).trans<|aap _ [B.L ws]).trans c2;split⟨_,A3.length,Yi<|aU rfl ?_,q.trans<|cW (aap A3 [B.ins "Box" []])<|aaq _,cF aj⟩;show bG (eM rfl rfl (aB rfl) m1)<|eS (bQ (lv (av<|ao (bJ<|bv b0 fY) rfl<|aS C Mh ⋯)<|dh rfl<|av<|ao (bn (aB rfl)<|ed b0 rfl) rfl<|bK rfl)<|dh rfl<|bG c1<|ay<|Kc (ag (bJ<|z 0 _ rfl)<|ag (bJ<|z 1 _ rfl)<|ag (bJ<|z 2 _ rfl)<|aB<|bJ<|z 3 _ rfl) rfl<|Ga aj) rfl
end
end P
namespace Y
open L2
def All2{O:Type}(P:O->D->Prop):List O->Zc->Prop
 |[],[]=>True
 |a::l,y::ys=>P a y/\All2 P l ys
 |_,_=>False
theorem All2.snoc{O:Type}{P:O->D->Prop}{a:O}{y:D}:∀ {l:List O} {ys:Zc},All2 P l ys->P a y->All2 P (l++[a]) (ys++[y])
 |[],[],_,h=>⟨h,trivial⟩
 |_::_,_::_,⟨h1,h2⟩,h=>⟨h1,h2.snoc h⟩
theorem All2.imp{O:Type}{P P':O->D->Prop}(k:∀a y,P a y->P' a y):∀ {l:List O} {ys:Zc},All2 P l ys->All2 P' l ys
 |[],[],_=>trivial
 |_::_,_::_,⟨h1,h2⟩=>⟨k _ _ h1,h2.imp k⟩
theorem All2.len{O:Type}{P:O->D->Prop}:∀ {l:List O} {ys:Zc},All2 P l ys->ys.length=l.length
 |[],[],_=>rfl
 |_::_,_::_,⟨_,h2⟩=>aaF Nat.succ h2.len
def Gm{O:Type}{enc:O->D}{js:List<|Option Nat}{it:XI}{g:XG}{e:XE}{w:Wk}{as:List O}{U:Env}{A A2:Hh}(Q:O->D->Hh->Prop)(hQ:∀(a:O) (y:D) (A3 A4:Hh) (n:Nat) (l:Zc),Q a y A3->A3[n]?=some (B.L l)->(∀(k:Nat) (b:B),k≠n->A3[k]?=some b->A4[k]?=some b)->Q a y A4)
  (hi:it U A=some (w,A2)) (hl:w.len A2=as.length) (hz:as.length<=1000000) (hw:∀A',A2 <+: A'->Kz w (as.map enc) A')
  (hs:∀a∈as,∀A',A2 <+: A'->∃U1,g (enc a) (iq js U) A'=some (U1,A')/\∃y A3,e U1 A'=some (y,A3)/\A' <+: A3/\Q a y A3) :
  ∃A' n ys,aL js it g cb e U A=some (.ref n,A')/\A2 <+: A'/\A2.length<=n/\A'[n]?=some (.L ys)/\All2 (λa y=>Q a y A') as ys:=by
 have key:∀(post pre:List O) (ys:Zc) (A':Hh),as=pre++post->A2 <+: A'->A'[A2.length]?=some (.L ys)->All2 (λa y=>Q a y A') pre ys->∃A3 ys',g9 g cb e w A2.length (iq js U) (post.length+1) pre.length A'=some A3/\A2 <+: A3/\A3[A2.length]?=some (.L ys')/\All2 (λa y=>Q a y A3) as ys':=by
  intro post;induction post with
  |nil=>
   intro pre ys A' ea hp ha hq;rw[abf] at ea;subst ea;have:=hw A' hp as.length (by rw[aar];show aaq _);rw[acQ<|by rw[aar];show aaq _] at this;show⟨A',ys,by unfold g9;rw[this],hp,ha,hq⟩
  |cons a post ih=>
   intro pre ys A' ea hp ha hq;have:=hw A' hp pre.length (by rw[aar,ea,aat];show acS _ _);rw[ea,ack,acK<|by rw[aar];show aaq _,aar,aes] at this;let⟨U1,q1,y,A3,q2,q3,q4⟩:=hs a (by rw[ea];simp) A' hp;have en:as=(pre++[a])++post:=by rw[ea,abY];rfl
   have el:(pre++[a]).length=pre.length+1:=by rw[aat];rfl
   have ha3:=ai q3 ha;have hfr:∀k b,k≠A2.length->A3[k]?=some b->(A3.set A2.length<|.L<|ys++[y])[k]?=some b:=λk b hk h=>by rw[aav<|aaI hk];show h
   let⟨A4,ys',k1,k2⟩:=ih (pre++[a]) (ys++[y]) (A3.set A2.length<|.L<|ys++[y]) en (cW (hp.trans q3)<|aaq _) (cF ha3)<|(hq.imp λa y h=>hQ a y A' _ A2.length _ h ha λk b hk h=>hfr k b hk<|ai q3 h).snoc<|hQ _ _ _ _ _ _ q4 ha3 hfr;split⟨A4,ys',?_,k2⟩;have hyl:=hq.len;have Zz:ys.length<ZF:=by
    have h2:pre.length<as.length:=by rw[ea,aat,aay];lia
    rw[aaS,hyl];lia
   have e1:(mm A3 (.ref A2.length) λl=>if l.length<ZF then some (l++[y],D.N) else none)=some (.N,A3.set A2.length<|.L<|ys++[y]):=by show ((A3[A2.length]?.bind B.ls).bind _)=_;rw[ha3];show ah3 _ (if _ then _ else _)=_;rw[aac Zz];rfl
   rw[aay];unfold g9;rw[this];show ((g (enc a) (iq js U) A').bind _)=_;rw[q1];show ((e U1 A').bind _)=_;rw[q2];show (ajd (mm A3 (.ref A2.length) _) _)=_;rw[e1];rw[el] at k1;show k1
 let⟨A3,ys,k1,k2,k3,k4⟩:=key as [] [] (A2++[.L []]) rfl (aap _ _) aj trivial;split⟨A3,A2.length,ys,?_,k2,aaq _,k3,k4⟩;unfold aL xb;rw[hi];show ah3 _ (g9 g _ e w A2.length (iq js U) (w.len A2+1) 0<|A2++[.L []])=_;rw[hl];show aaQ.2 ⟨A3,k1,rfl⟩
end Y
namespace P
open L2 Y PySem.NumText Rw
open M (bh)
section
variable {O:Type}(f:O->D)(n m:LN)(q:O)
abbrev vX(kv:LN×O):bH×D:=(.inr<|T9 kv.1,f kv.2)
def ng(kv:LN×O):((vX f kv).1=(.inr (T9 n):bH))↔kv.1=n:=⟨λz=>kq<|ado z,λz=>by rw[<-z]⟩
def LH(ps:List<|LN×O):(ps.map<|vX f).find? (λkv=>decide (kv.1=(.inr (T9 n):bH)))=(ps.find? λkv=>decide (kv.1=n)).map (vX f):=by
 rw[List.find?_map];congr 1;congr 1
 funext kv
 show aet.2<|ng f n kv
def yV(ps:List<|LN×O):val (ps.map<|vX f) (.inr<|T9 n)=(val ps n).map f:=by unfold val;rw[LH];cases ps.find? λkv=>decide (kv.1=n)<;>rfl
def Pi(ps:List<|LN×O):put (ps.map<|vX f) (.inr<|T9 n) (f q)=(put ps n q).map (vX f):=by
 have h2:(ps.map<|vX f).any (λkv=>decide (kv.1=.inr (T9 n)))=ps.any λkv=>decide (kv.1=n):=by
  rw[akz];congr 1
  funext kv
  show aet.2<|ng f n kv
 unfold put;rw[h2];split
 .rw[aaP,aaP];split aei λkv _=>?_;show (if (vX f kv).1=(.inr (T9 n):bH) then _ else _)=vX f (if _ then _ else _);by_cases h:kv.1=n
  .rw[aac h,aac<|(ng f n kv).mpr h]
  .rw[aad h,aad λz=>h<|(ng f n kv).mp z]
 .rw[ack];rfl
def Ol(ps:List<|LN×O):drp (ps.map<|vX f) (.inr<|T9 n)=(drp ps n).map (vX f):=by
 unfold drp;rw[akg];congr 2
 funext kv
 show aet.2<|not_congr<|ng f n kv
variable {n m q}{f}
def yX{ps:List<|LN×O}(h:val ps n=some q):(n,q)∈ps:=by unfold val at h;let⟨kv,h1,h2⟩:=aaQ.1 h;have:=List.find?_some h1;have e:kv.1=n:=abT this;subst e h2;show List.mem_of_find?_eq_some h1
def Ke{ps:List<|LN×O}:val ps n=none↔n∉ps.map (·.1):=by unfold val;rw[afp,agt,abm];show⟨λh ⟨kv,h1,h2⟩=>h kv h1<|aaz h2,λh kv h1 h2=>h ⟨kv,h1,abT h2⟩⟩
def IK{ps:List<|LN×O}:(put ps n q).map (·.1)=if n∈ps.map (·.1) then ps.map (·.1) else ps.map (·.1)++[n]:=by
 unfold put;by_cases h:n∈ps.map (·.1)
 .rw[aac h,aac (by
   let⟨kv,h1,h2⟩:=abm.1 h
   show adI.2 ⟨kv,h1,aaz h2⟩),aaP]
  split aei λkv _=>?_;show (if kv.1=n then (kv.1,q) else kv).1=kv.1;split<;>rfl
 .rw[aad h,aad λz=>h (by
   let⟨kv,h1,h2⟩:=adI.1 z
   show abm.2 ⟨kv,h1,abT h2⟩),ack]
  rfl
def GG{ps:List<|LN×O}:(drp ps n).map (·.1)=(ps.map (·.1)).filter λm=>decide (m≠n):=by unfold drp;rw[akg];rfl
def yW{ps:List<|LN×O}:val (put ps n q) m=if n=m then some q else val ps m:=by
 induction ps with
 |nil=>
  show (List.find? _ [(n,q)]).map _=_;rw[abt];by_cases h:n=m
  .simp[h]
  .simp[h,val]
 |cons s ps ih=>
  by_cases hs:s.1=n
  .have e:put (s::ps) n q=(s.1,q)::ps.map (λkv=>if kv.1=n then (kv.1,q) else kv):=by
    unfold put;rw[aac<|adI.2 ⟨s,aaJ,aaz hs⟩,aax,aac hs]
   rw[e];unfold val;rw[abt,abt];by_cases h:n=m
   .simp[hs,h]
   .have h':¬s.1=m:=λz=>h<|hs.symm.trans z;rw[aad h];simp only[h',adS];clear e ih;induction ps with
    |nil=>rfl
    |cons u ps ih=>
     rw[aax,abt,abt];by_cases hu:u.1=n
     .have hu':¬u.1=m:=λz=>h<|hu.symm.trans z;rw[aac hu];simp only[hu',adS];show ih
     .rw[aad hu];by_cases hu':u.1=m
      .simp[hu']
      .simp only[hu',adS];show ih
  .have e:put (s::ps) n q=s::put ps n q:=by
    unfold put;rw[ac8,aaA hs,aeX];split
    .rw[aax,aad hs]
    .rfl
   rw[e];unfold val at ih ⊢;rw[abt,abt];by_cases hm:s.1=m
   .have:¬n=m:=λz=>hs<|hm.trans z.symm;simp[hm,this]
   .simp only[hm,adS];show ih
def Dr{ps:List<|LN×O}:val (drp ps n) m=if n=m then none else val ps m:=by
 unfold val drp;rw[List.find?_filter];by_cases h:n=m
 .subst h;rw[aac rfl,afp,agt];intro kv _ z;simp at z
 .rw[aad h];congr 2
  funext kv
  by_cases e:kv.1=m
  .have:kv.1≠n:=λz=>h<|z.symm.trans e;simp[e,this,aaI h]
  .simp[e]
end
abbrev cY:=List<|LN×tL
abbrev An:LN×tL->bH×D:=vX ax
def Bq(n:LN)(ps:cY):val (ps.map An) (.inr<|T9 n)=(val ps n).map ax:=yV ax n ps
abbrev eN:=List<|LN×Option tL
abbrev FC(x:LN×Option tL):D:=.T [.str<|T9 x.1,(x.2.map ax).getD .N]
structure Dsk(A:Hh)(δ p d:Nat)(ps:cY)(ds:eN):Prop where
 at0:A[δ]?=some (.ins "Desk" [("pictures",.ref p),("deeds",.ref d)])
 atp:A[p]?=some (.K<|ps.map An)
 atd:A[d]?=some (.L<|ds.map FC)
def Fr(p d:Nat)(A A':Hh):Prop:=∀n b,n≠p->n≠d->A[n]?=some b->A'[n]?=some b
def ip{p d:Nat}{A A':Hh}(h:A <+: A'):Fr p d A A':=λ_ _ _ _ e=>ai h e
def Fr.trans{p d:Nat}{A' A2:Hh}(h:Fr p d A A')(k:Fr p d A' A2):Fr p d A A2:=λn b h1 h2 e=>k n b h1 h2<|h n b h1 h2 e
def Dsk.mono{A':Hh}{δ p d:Nat}{ps:cY}{ds:eN}(h:Dsk A δ p d ps ds)(k:A <+: A'):Dsk A' δ p d ps ds:=⟨ai k h.at0,ai k h.atp,ai k h.atd⟩
def Dsk.ne{δ p d:Nat}{ps:cY}{ds:eN}(h:Dsk A δ p d ps ds):δ≠p/\δ≠d/\p≠d:=by
 let⟨a,b,c⟩:=h;split⟨?_,?_,?_⟩
 .rintro rfl;rw[a] at b;ext b
 .rintro rfl;rw[a] at c;ext c
 .rintro rfl;rw[b] at c;ext c
def hX:ZC "NEW"=T9 [78,69,87]:=(cS "NEW").trans ⋯
def j9:ZC "TEXT"=T9 [84,69,88,84]:=(cS "TEXT").trans ⋯
def j8:ZC "FORM"=T9 [70,79,82,77]:=(cS "FORM").trans ⋯
abbrev bL:LN:=[78,69,87]
abbrev j6:LN:=[84,69,88,84]
abbrev hV:LN:=[70,79,82,77]
abbrev cw:LN:=[79,78,69]
abbrev fj:LN:=[79,84,72,69,82]
inductive Sg where
 |new|txt (o:Ln)|form|pic (q:tL)
abbrev BC:=(LN×LN)×Sg
def FL(ps:cY):BC->Prop
 | ((k,w),.new)=>k=bL/\aJ w
 | ((k,w),.txt o)=>k=j6/\w=FG o/\TkL o
 | ((k,w),.form)=>k=hV/\w=Ej
 | ((k,w),.pic q)=>(k=cw\/k=fj)/\aJ w/\val ps w=some q
def VG(a:BC)(y:D)(A:Hh):Prop:=match a with
 | ((_,w),.new)=>y=.str (T9 w)
 | (_,.txt o)=>y=ax (bo o)
 | (_,.form)=>∃n,y=.ref n/\FB A n
 | (_,.pic q)=>y=ax q
def kE{p d:Nat}:agD (ZC "pictures") [(ZC "pictures",D.ref p),(ZC "deeds",D.ref d)]=some (.ref p):=s!""
def yi{δ p d:Nat}{ps:cY}{ds:eN}(h:Dsk A δ p d ps ds) (ha:FL ps a):∃y A',cA [.ref δ,.str<|T9 a.1.1,.str<|T9 a.1.2] A=some (y,A')/\A <+: A'/\VG a y A':=by
 let⟨⟨k,w⟩,g⟩:=a;dsimp only;cases g with
 |new=>
  have hk:k=bL:=ha.1;subst hk;split⟨_,A,?_,aaE _,rfl⟩
  erw [aS A hX ⋯]
 |txt q=>
  let⟨hk,hw,hq⟩:=ha;subst hk hw;let⟨A1,r1,r2⟩:=No (A:=A) hq;split⟨_,A1,?_,r2,rfl⟩
  erw [bi A hX ⋯,aS A j9 ⋯,r1]
 |form=>
  let⟨hk,hw⟩:=ha;subst hk hw;let⟨A1,n,r1,r2,r3⟩:=IX (A:=A);split⟨_,A1,?_,r2,n,rfl,r3⟩
  erw [bi A hX ⋯,bi A j9 ⋯,aS A j8 ⋯,r1]
 |pic q=>
  let⟨hk,_,hv⟩:=ha;have v1:val (ps.map An) (.inr<|T9 w)=some (ax q):=by rw[Bq,hv];rfl
  have e1:=h.atp;have s1:im true (.str<|T9 w) (.ref p) A=some (.B false,A):=by simp[e1,v1]
  have s2:bI (.ref p) (.str<|T9 w) A=some (ax q,A):=by simp[e1,v1]
  have i0:=c9 h.at0;have l0:(ZC "Desk",[(ZC "pictures",D.ref p),(ZC "deeds",D.ref d)]).1∈[ZC "Desk"]:=adk _;have hc:∀c∈k,c<256:=by rcases hk with hk|hk<;>subst hk<;>decide
  have n1:k≠bL:=by rcases hk with hk|hk<;>subst hk<;>decide
  have n2:k≠j6:=by rcases hk with hk|hk<;>subst hk<;>decide
  have n3:k≠hV:=by rcases hk with hk|hk<;>subst hk<;>decide
  split⟨_,A,?_,aaE _,rfl⟩
  erw [df A hX hc ⋯ n1,df A j9 hc ⋯ n2,df A j8 hc ⋯ n3,i0,l0,kE,s1,s2]
def ya:lS (T9 j6)=true:=s!""
def Hm:lS (T9 hV)=true:=s!""
def LX:lS (T9 bL)=false:=s!""
def b9(h:aJ p):32∉p:=λz=>by have:=h.2 32 z;lia
abbrev dN:LN:=[112,117,116]
abbrev uN:LN:=[115,104,111,119]
abbrev wT:LN:=[110,97,109,101,115]
abbrev jB:LN:=[98,97,99,107]
abbrev cQ:LN:=[103,114,101,97,116,101,114]
abbrev cr:LN:=[115,109,97,108,108,101,114]
abbrev d5:LN:=[111,112,101,110,101,100]
abbrev jt:LN:=[99,108,111,115,101,100]
abbrev RD(a:BC):D:=.str<|T9 a.1.1
def lz(w:LN)(ks:List LN):Prop:=Zp.lookup (T9 w)=some (.mt<|ks.map λk=>D.str<|T9 k)/\32∉w
def mR:lz dN [bL,j6]:=⟨s!"",⋯⟩
def xy:lz uN [cw]:=⟨s!"",⋯⟩
def DR:lz wT []:=⟨s!"",⋯⟩
def qD:lz jB []:=⟨s!"",⋯⟩
def jX:lz cQ [bL,cw,hV]:=⟨s!"",⋯⟩
def jY:lz cr [bL,cw,hV]:=⟨s!"",⋯⟩
def lJ:lz d5 [bL,cw,hV]:=⟨s!"",⋯⟩
def lG:lz jt [bL,cw,hV]:=⟨s!"",⋯⟩
def kb{p d:Nat}:agD (ZC "meant") [(ZC "pictures",D.ref p),(ZC "deeds",D.ref d)]=none:=s!""
def OY{p d:Nat}:agD (ZC "do") [(ZC "pictures",D.ref p),(ZC "deeds",D.ref d)]=none:=s!""
def Cn{p d:Nat}:agD (ZC "take_back") [(ZC "pictures",D.ref p),(ZC "deeds",D.ref d)]=none:=s!""
def HB{p d:Nat}:agD (ZC "set_picture") [(ZC "pictures",D.ref p),(ZC "deeds",D.ref d)]=none:=s!""
def fT{p d:Nat}:agD (ZC "say") [(ZC "pictures",D.ref p),(ZC "deeds",D.ref d)]=none:=s!""
def rL{p d:Nat}:agD (ZC "deeds") [(ZC "pictures",D.ref p),(ZC "deeds",D.ref d)]=some (.ref d):=s!""
noncomputable abbrev Ky:=af (tF (aa 2) (dP<|rW 1) wV) aF
noncomputable abbrev NY:=af (aa 0)<|af (aa 1) aF
def Fp{δ p d k:Nat}{ps:cY}{ds:eN}(h:Dsk A δ p d ps ds){as:List BC}(ha:∀a∈as,FL ps a)(hl:as.length<=3) (hT:lz w<|as.map λa=>a.1.1)(hk:A[k]?=some (.L<|(w::as.map λa=>a.1.2).map cu))(row:Zd)(v4:Zd) :
  ∃A' n ys,mB [some<|.ref δ,row,some<|.ref k,some<|.str<|T9 w,v4] A=some (.ref n,A')/\A <+: A'/\A'[n]?=some (.L ys)/\All2 (λa y=>VG a y A') as ys:=by
 have Zz:(as.map λa=>a.1.2).length=as.length:=aar _;have e5:(HT.dM (as.length+1) 0<|some 1)=1:=by have:=HT.wF (as.length+1) 0 1;rw[show ((1:Nat):Int)=1 from rfl] at this;rw[this];lia
 have e6:=pN<|as.map λa=>a.1.2;have e9:((as.map λa=>a.1.2).map cu).take as.length=(as.map λa=>a.1.2).map cu:=acs (by rw[aar,aar];show aaq _);have hT1:=hT.1;have hw0:∀A',A++[B.L<|(as.map λa=>a.1.2).map cu] <+: A'->Kz (.zp (as.map RD) A.length<|(as.map λa=>a.1.2).map T9) (as.map λa=>Vl (T9 a.1.1,a.1.2)) A':=λA' pr=>by
  have:=Bs (ks:=as.map λa=>T9 a.1.1) (ws:=as.map λa=>a.1.2) (#v[aar,aar])<|ai pr aj;have e1:(as.map λa=>T9 a.1.1).map D.str=as.map RD:=by rw[aaP];rfl
  have e2:((as.map λa=>T9 a.1.1).zip<|as.map λa=>a.1.2).map Vl=as.map λa=>Vl (T9 a.1.1,a.1.2):=by rw[aj5,aaP];rfl
  rwa[e1,e2] at this
 have hi:nQ (af (bg Zp<|aa 3) Ky) [some<|.ref δ,row,some<|.ref k,some<|.str<|T9 w,v4] A=some (.zp (as.map RD) A.length<|(as.map λa=>a.1.2).map T9,A++[.L<|(as.map λa=>a.1.2).map cu]):=by
  have e1:(as.map λa=>a.1.1).map (λk=>D.str<|T9 k)=as.map RD:=by rw[aaP];rfl
  rw[e1] at hT1;generalize as.map RD=kd at *;simp at hk e6 e9;simp[hT1,hk,e5,e6,e9,HT.nG]
 let⟨A',n,ys,c1,c2,c3,c4,c5⟩:=Gm (enc:=λa:BC=>Vl (T9 a.1.1,a.1.2)) (js:=[none,none,some 0]) (it:=nQ<|af (bg Zp<|aa 3) Ky) (g:=kZ 0 1) (e:=bM ["Desk"] "meant" 3 cA (aa 2) NY) (w:=.zp (as.map RD) A.length<|(as.map λa=>a.1.2).map T9) (as:=as) (U:=[some<|.ref δ,row,some<|.ref k,some<|.str<|T9 w,v4]) (A:=A) (A2:=A++[.L<|(as.map λa=>a.1.2).map cu])
  (λa y A'=>VG a y A') (λa y A3 A4 n l hq hn hf=>by
   let⟨⟨k,w⟩,g⟩:=a;cases g with
   |new|txt _|pic _=>show hq
   |form=>
    let⟨m,e,h2⟩:=hq;split⟨m,e,hf m _ (λz=>?_) h2⟩;subst z;unfold FB at h2;rw[hn] at h2
    ext h2) hi (by show (as.map RD).length=_;rw[aar]) () hw0 λa hm A3 pr=>by
   let⟨y,A4,m1,m2,m3⟩:=yi (h.mono<|(aap _ _).trans pr)<|ha a hm;have e0:=ai ((aap _ _).trans pr) h.at0;show⟨_,rfl,y,A4,by simp[e0,m1,kb],m2,m3⟩
 show⟨A',n,ys,c1,(aap _ _).trans c2,c4,c5⟩
def Uy{δ p d:Nat}{ps:cY}{ds:eN}(h:Dsk A δ p d ps ds)(hp:ps.length<=1000)(nm:LN)(q:tL):aQ [.ref δ,.str<|T9 nm,ax q] A=some (.N,A.set p<|.K<|(put ps nm q).map An):=by
 have e0:=h.at0;have e1:=h.atp;have e2:=Pi ax nm q ps;have e3:ps.length<=1000000:=()
 simp only[ax] at e2;simp[aQ,bS,eF,e0,e1,kE,e2,e3]
def Dsk.put{δ p d:Nat}{ps:cY}{ds:eN}(h:Dsk A δ p d ps ds)(qs:cY):Dsk (A.set p<|.K<|qs.map An) δ p d qs ds/\Fr p d A (A.set p<|.K<|qs.map An):=by
 let⟨n1,n2,n3⟩:=h.ne;split⟨⟨?_,cF h.atp,?_⟩,λn b h1 _ e=>?_⟩
 .rw[aav<|aaI n1];show h.at0
 .rw[aav n3];show h.atd
 .rw[aav<|aaI h1];show e
def Dsk.deed{δ p d:Nat}{ps:cY}{ds:eN}(h:Dsk A δ p d ps ds)(es:eN):Dsk (A.set d<|.L<|es.map FC) δ p d ps es/\Fr p d A (A.set d<|.L<|es.map FC):=by
 let⟨n1,n2,n3⟩:=h.ne;split⟨⟨?_,?_,cF h.atd⟩,λn b _ h1 e=>?_⟩
 .rw[aav<|aaI n2];show h.at0
 .rw[aav<|aaI n3];show h.atp
 .rw[aav<|aaI h1];show e
def NN(q:tL):∃m,yP (ax q)=some m/\M.g6 48 m=true:=by let⟨m,h,_⟩:=cd_pic (n:=44);show⟨m q,h q⟩
theorem Dp:∀ {ds:eN},(∀x∈ds,aJ x.1)->∃ms,toPs (ds.map FC)=some ms/\M.okDs 49 ms=true/\ms.length=ds.length
 |[],_=>⟨[],by simp[toPs],by simp[M.okDs],rfl⟩
 | (nm,o)::ds,h=>by
  let⟨ms,h1,h2,h3⟩:=Dp (ds:=ds) λx hx=>h x<|aaK _ hx;have hs:ahf (T9 nm)=true:=okT λc hc=>by have:=(h _ aaJ).2 c hc;lia
  cases o with
  |none=>show⟨.mtp [.str<|T9 nm,.N]::ms,by simp[toPs,yP,h1],by simp[M.okDs,M.g6,h2,hs],by simp[h3]⟩
  |some q=>let⟨m,m1,m2⟩:=NN q;simp only[ax] at m1;show⟨.mtp [.str<|T9 nm,m]::ms,by simp[toPs,yP,h1,m1],by simp[M.okDs,M.g6,h2,hs,m2],by simp[h3]⟩
section
variable {A:Hh}{δ p d:Nat}{ps:cY}{ds:eN}
def lay(ps:cY)(nm:LN):Option tL->cY
 |none=>drp ps nm
 |some q=>put ps nm q
abbrev opD(o:Option tL):D:=(o.map ax).getD .N
def PF(h:Dsk A δ p d ps ds)(hp:ps.length<=1000)(nm:LN)(o:Option tL)(ho:o=none->val ps nm≠none):aQ [.ref δ,.str<|T9 nm,opD o] A=some (.N,A.set p<|.K<|(lay ps nm o).map An):=by
 cases o with
 |some q=>show Uy h hp nm q
 |none=>
  have e0:=h.at0;have e1:=h.atp;have e2:=Ol ax nm ps;have e3:=yV ax nm ps;cases e:val ps nm with
  |none=>show absurd e<|ho rfl
  |some q=>
   rw[e] at e3;simp only[ax,afj] at e2 e3;have e2:drp (ps.map An) (.inr<|T9 nm)=(drp ps nm).map An:=e2;have e3:val (ps.map An) (.inr<|T9 nm)=some (ax q):=e3;have s1:ll [.ref p,.str<|T9 nm] A=some (ax q,A.set p<|.K<|(drp ps nm).map An):=by simp only[ll,l2,vV,jZ,gZ,Jl,o6,e1,B.dc,Option.bind_some,Option.map_none,afj,Option.none_or,e3,e2]
   show aQ [.ref δ,.str<|T9 nm,.N] A=_;simp[-ll,aQ,bS,eF,e0,e1,kE,s1,lay]
def Wc(h:Dsk A δ p d ps ds)(hp:ps.length<=1000)(hd:ds.length<=1000)(nm:LN)(o:Option tL)(ho:o=none->val ps nm≠none):∃A',da [.ref δ,.str<|T9 nm,opD o] A=some (.N,A')/\Fr p d A A'/\Dsk A' δ p d (lay ps nm o) (ds++[(nm,val ps nm)]):=by
 let⟨k1,k2⟩:=h.deed<|ds++[(nm,val ps nm)];let⟨k3,k4⟩:=k1.put<|lay ps nm o;split⟨_,?_,k2.trans k4,k3⟩;have s1:=PF k1 hp nm o ho;have e0:=h.at0;have e1:=h.atp;have e2:=h.atd;have e3:=Bq nm ps;have e4:ds.length<=1000000:=()
 have e5:=k1.at0;rw[ack] at s1 e5;simp only[aax,abq] at s1 e5;simp[da,bS,tN,e0,e1,e2,kE,rL,HB,e3,e4,e5,s1]
def Qu{nm:LN}{o:Option tL}(h:Dsk A δ p d ps<|ds++[(nm,o)])(ho:o=none->val ps nm≠none)(hp:ps.length<=1000)(hn:∀x∈ds++[(nm,o)],aJ x.1):∃A',bC [.ref δ] A=some (.N,A')/\Fr p d A A'/\Dsk A' δ p d (lay ps nm o) ds:=by
 have h0:=h.mono<|aap A [B.L []];let⟨k1,k2⟩:=h0.deed ds;let⟨k3,k4⟩:=k1.put<|lay ps nm o;split⟨_,?_,(ip<|aap _ _).trans<|k2.trans k4,k3⟩;have s1:=PF k1 hp nm o ho;have e0:=h.at0;have e00:=h0.at0;have e2:=h0.atd;have e5:=k1.at0;let⟨ms,m1,m2,m3⟩:=Dp hn;have f1:eA false (.ref d) (.ref A.length) (A++[B.L []])=some (.B false,A++[B.L []]):=by
  have a1:Fs (A++[B.L []]) (.ref d)=some (.L ms):=by unfold Fs;rw[ack] at m1;simp only[aax,abq] at m1;simp[yP,e2,m1]
  have a2:Fs (A++[B.L []]) (.ref A.length)=some (.L []):=by unfold Fs;simp[yP,toPs]
  unfold eA;rw[a1,a2];have a3:M.g6 50 (.L ms)=true:=by rw[M.g6];show m2
  have a4:M.g6 50 (.L [])=true:=by simp[M.g6,M.okDs]
  show (if _ then _ else _)=_;rw[aac ⟨a3,a4⟩];cases ms with
  |nil=>rw[aat] at m3;simp at m3
  |cons m ms=>rfl
 rw[ack] at e2;simp only[aax,abq] at e2;have e6:(ds.map FC++[FC (nm,o)])[(ds.map FC++[FC (nm,o)]).length-1]?=some (FC (nm,o)):=by rw[aat,acN,Nat.add_sub_cancel];show aep
 have e7:(ds.map FC++[FC (nm,o)]).dropLast=ds.map FC:=List.dropLast_concat;simp at e6;simp[bC,bS,iE,e0,e00,e2,rL,f1,e5,HB,s1]
end
open M (bh)
def cT:ZC "greater"=T9 cQ:=(cS "greater").trans ⋯
def cz:ZC "smaller"=T9 cr:=(cS "smaller").trans ⋯
def gE:ZC "opened"=T9 d5:=(cS "opened").trans ⋯
def pQ:ZC "put"=T9 dN:=(cS "put").trans ⋯
def nh:ZC "thin"=T9 [116,104,105,110]:=(cS "thin").trans ⋯
def rH:ZC "fill"=T9 [102,105,108,108]:=(cS "fill").trans ⋯
def rF:ZC "drop"=T9 [100,114,111,112]:=(cS "drop").trans ⋯
def eO:ZC "names"=T9 wT:=(cS "names").trans ⋯
def fK:ZC "back"=T9 jB:=(cS "back").trans ⋯
def rJ:ZC "show"=T9 uN:=(cS "show").trans ⋯
def uh:ZC "count"=T9 [99,111,117,110,116]:=(cS "count").trans ⋯
def Ar:ZC "pieces"=T9 [112,105,101,99,101,115]:=(cS "pieces").trans ⋯
abbrev pi:LN:=[106,111,105,110]
abbrev ie:LN:=[99,111,109,109,111,110]
abbrev kx:LN:=[108,101,115,115]
abbrev ff:LN:=[101,105,116,104,101,114]
abbrev pj:LN:=[116,104,105,110]
abbrev ph:LN:=[102,105,108,108]
abbrev pf:LN:=[100,114,111,112]
abbrev wS:LN:=[99,111,117,110,116]
abbrev p7:LN:=[112,105,101,99,101,115]
def ka:ZC "join"=T9 pi:=(cS "join").trans ⋯
def jb:ZC "common"=T9 ie:=(cS "common").trans ⋯
def gD:ZC "less"=T9 kx:=(cS "less").trans ⋯
def gC:ZC "either"=T9 ff:=(cS "either").trans ⋯
def qF:lz pi [bL,cw,fj]:=⟨s!"",⋯⟩
def lH:lz ie [bL,cw,fj]:=⟨s!"",⋯⟩
def qG:lz kx [bL,cw,fj]:=⟨s!"",⋯⟩
def lI:lz ff [bL,cw,fj]:=⟨s!"",⋯⟩
def xz:lz pj [bL,cw]:=⟨s!"",⋯⟩
def xx:lz ph [bL,cw]:=⟨s!"",⋯⟩
def qE:lz pf [cw]:=⟨s!"",⋯⟩
def DQ:lz wS [cw]:=⟨s!"",⋯⟩
def zI:lz p7 [cw]:=⟨s!"",⋯⟩
def Ap:ZC "closed"=T9 jt:=(cS "closed").trans ⋯
def HQ{v:D}:(agD (ZC "greater") [(ZC "parts",v)]=none/\agD (ZC "smaller") [(ZC "parts",v)]=none)/\agD (ZC "opened") [(ZC "parts",v)]=none/\agD (ZC "closed") [(ZC "parts",v)]=none:=⟨⟨s!"",s!""⟩,s!"",s!""⟩
def fL(w:LN)(o:Ln):Ln:=if w=cQ then gL o else if w=cr then sL o else if w=d5 then gL (sL o) else sL (gL o)
section
variable {A A2:Hh}{k n:Nat}{o:Ln}
def LI(hf:FB A n)(g:Go o){w:LN}(hw:w=cQ\/w=cr\/w=d5\/w=jt):Tl dH [.str<|T9 w,ax<|bo o,.ref n] A<|ax (bo<|fL w o):=by
 have i0:=c9 hf;let⟨⟨l1,l2⟩,l3,l4⟩:=HQ (v:=.T [.T [bD]]);have me {m:Str} (h:agD m [(ZC "parts",D.T [.T [bD]])]=none):(ZC "Box",[(ZC "parts",D.T [.T [bD]])]).1∈[ZC "Box"]/\(ZC "Box",[(ZC "parts",D.T [.T [bD]])]).2.lookup m=none:=⟨adk _,h⟩
 rcases hw with rfl|rfl|rfl|rfl
 .let⟨A1,k1,k2⟩:=Ha hf g;show⟨A1,aU rfl<|eS (bQ (av<|bJ<|aS A cT ⋯)<|dh rfl<|ay<|cP rfl i0 (me l1) (aB rfl) rfl k1) rfl,k2⟩
 .let⟨A1,k1,k2⟩:=Jp (o:=o) hf;show⟨A1,aU rfl<|eR (av<|ao rfl rfl<|bi A cT ⋯)<|eS (bQ (av<|ao rfl rfl<|aS A cz ⋯)<|dh rfl<|ay<|cP rfl i0 (me l2) (aB rfl) rfl k1) rfl,k2⟩
 .let⟨A1,j1,j2⟩:=Jp (o:=o) hf;let⟨A2,k1,k2⟩:=Ha (hf.mono j2)<|Yo (o:=o);have o1:fD [.ref n,ax<|bo o] A=some (ax<|bo<|gL<|sL o,A2):=aU rfl<|ay<|cP rfl i0 (me l1) (aB<|cP rfl i0 (me l2) (aB rfl) rfl j1) rfl k1;show⟨A2,aU rfl<|eR (av<|ao rfl rfl<|bi A cT ⋯)<|eR (av<|ao rfl rfl<|bi A cz ⋯)<|eS (bQ (av<|ao rfl rfl<|aS A gE ⋯)<|dh rfl<|ay<|cP rfl i0 (me l3) (aB rfl) rfl o1) rfl,j2.trans k2⟩
 .let⟨A1,j1,j2⟩:=Ha hf g;let⟨A2,k1,k2⟩:=Jp (o:=gL o)<|hf.mono j2;have o1:fB [.ref n,ax<|bo o] A=some (ax<|bo<|sL<|gL o,A2):=aU rfl<|ay<|cP rfl i0 (me l2) (aB<|cP rfl i0 (me l1) (aB rfl) rfl j1) rfl k1;show⟨A2,aU rfl<|eR (av<|ao rfl rfl<|bi A cT ⋯)<|eR (av<|ao rfl rfl<|bi A cz ⋯)<|eR (av<|ao rfl rfl<|bi A gE ⋯)<|ay<|cP rfl i0 (me l4) (aB rfl) rfl o1,j2.trans k2⟩
def WM{w:LN}(hl:∀c∈w,c<256)(n:w≠dN/\w≠pj/\w≠ph){ks:List LN}{x d l:D}{b:Bool}(hT:lz w ks)(s1:bI (.mt<|ks.map λk=>D.str<|T9 k) (.int<|-1) A=some (x,A))(e:eA false x (.str "FORM") A=some (.B b,A))
  (k:(if b=true then aM (ah 3 dH<|af (aa 0)<|af (az bI (aa 1)<|rW 0)<|af (az bI (aa 1)<|rW 1) aF) [some<|.str<|T9 w,some l] A else aM (ah 3 ei<|af (aa 0)<|af (az bI (aa 1)<|rW 0)<|af (az bI (aa 1)<|rW 1) aF) [some<|.str<|T9 w,some l] A)=some (.rt d,A2)):fU [.str<|T9 w,l] A=some (d,A2):=
 aU rfl (eS (bQ (av<|bJ<|df A pQ hl ⋯ n.1)<|fV rfl rfl) (NO (eS (bQ (av<|bJ<|df A nh hl ⋯ n.2.1)<|fV rfl rfl) (NO (eS (bQ (av<|bJ<|df A rH hl ⋯ n.2.2)<|fV rfl rfl) (NO (by
  have c1:aw (az (eA false) (az bI (bg Zp<|aa 0)<|tG iK<|rW 1)<|xC<|.str "FORM") [some<|.str<|T9 w,some l] A=some (b,A):=av<|ao (ao (Bn rfl hT.1) rfl s1) rfl e;cases b with
  |true=>show eS (bQ c1 k) rfl
  |false=>show cy (bQ c1 rfl) k)))))))
def Ey(hf:FB A n)(g:Go o){w:LN}(hw:w=cQ\/w=cr\/w=d5\/w=jt)(hk:A[k]?=some (.L [ax<|bo o,.ref n])):Tl fU [.str<|T9 w,.ref k] A<|ax (bo<|fL w o):=by
 let⟨A1,k1,k2⟩:=LI hf g hw;obtain⟨hc,hl,n1⟩:lz w [bL,cw,hV]/\(∀c∈w,c<256)/\w≠dN/\w≠pj/\w≠ph:=by
  rcases hw with rfl|rfl|rfl|rfl
  .exact⟨jX,⋯,⋯,⋯,⋯⟩
  .exact⟨jY,⋯,⋯,⋯,⋯⟩
  .exact⟨lJ,⋯,⋯,⋯,⋯⟩
  .exact⟨lG,⋯,⋯,⋯,⋯⟩
 show⟨A1,WM (b:=true) hl n1 hc s!"" (aS A j8 ⋯)<|dh rfl<|ay<|al (ag rfl<|ag (bJ<|bv hk fY)<|aB<|bJ<|bv hk qz) rfl k1,k2⟩
def yh{x:D}(hk:A[k]?=some (.L [x])):Tl fU [.str<|T9 dN,.ref k] A x:=⟨A,aU rfl<|eS (bQ (av<|bJ<|aS A pQ ⋯)<|dh rfl<|ay<|bJ<|bv hk fY) rfl,aaE _⟩
def o2(w:LN)(o:Ln):Ln:=if w=pi\/w=ie then o else none
def UY(g:Go o){w:LN}(hw:w=pi\/w=ie\/w=kx\/w=ff):Tl ei [.str<|T9 w,ax<|bo o,ax<|bo o] A<|ax (bo<|o2 w o):=by
 rcases hw with rfl|rfl|rfl|rfl
 .let⟨A1,a1,a2⟩:=Ck (A:=A) g;show⟨A1,by erw [aS A ka ⋯,a1],a2⟩
 .let⟨A1,a1,a2⟩:=DS (A:=A) g;show⟨A1,by erw [bi A ka ⋯,aS A jb ⋯,a1],a2⟩
 .let⟨A1,a1,a2⟩:=vY (A:=A) g;show⟨A1,by erw [bi A ka ⋯,bi A jb ⋯,aS A gD ⋯,a1],a2⟩
 .let⟨A1,a1,a2⟩:=Ec (A:=A) g;show⟨A1,by erw [bi A ka ⋯,bi A jb ⋯,bi A gD ⋯,a1],a2⟩
def HH(g:Go o){w:LN}(hw:w=pi\/w=ie\/w=kx\/w=ff)(hk:A[k]?=some (.L [ax<|bo o,ax<|bo o])):Tl fU [.str<|T9 w,.ref k] A<|ax (bo<|o2 w o):=by
 let⟨A1,k1,k2⟩:=UY (A:=A) g hw;obtain⟨hc,hl,n1⟩:lz w [bL,cw,fj]/\(∀c∈w,c<256)/\w≠dN/\w≠pj/\w≠ph:=by
  rcases hw with rfl|rfl|rfl|rfl
  .exact⟨qF,⋯,⋯,⋯,⋯⟩
  .exact⟨lH,⋯,⋯,⋯,⋯⟩
  .exact⟨qG,⋯,⋯,⋯,⋯⟩
  .exact⟨lI,⋯,⋯,⋯,⋯⟩
 show⟨A1,WM (b:=false) hl n1 hc s!"" (bi (a:=fj) A j8 ⋯)<|fV rfl<|ay<|al (ag rfl<|ag (bJ<|bv hk fY)<|aB<|bJ<|bv hk qz) rfl k1,k2⟩
end
open M (bh)
def Rq:ua (.str<|T9 bL) ([T9 bL,T9 j6].map V.str)=true:=s!""
def LV:ua (.str<|T9 bL) ([T9 bL,T9 cw,T9 hV].map V.str)=true:=s!""
def Hg:ua (.str<|T9 bL) ([T9 cw].map V.str)=false:=s!""
def sl1(n:Nat):HT.dM (n+1) 0 (some 1)=1:=by have:=HT.wF (n+1) 0 1;rw[show ((1:Nat):Int)=1 from rfl] at this;rw[this];lia
def ml{U U1:Y.Env}{A A1:Hh}{s t:XS}{r:Option<|Out×Hh}(h1:s U A=some (.nx U1,A1))(h2:t U1 A1=r):ak s t U A=r:=by show (s U A).bind _=_;rw[h1];show h2
def Ot{j n:Nat}{x:XS}{xs:Zc}{A A':Hh}{r:D}(hl:xs.length=j)(h:x (xs.map some++agJ (n-j) none) A=some (.rt r,A')):bS j n x xs A=some (r,A'):=by unfold bS;rw[aac hl,h];rfl
section
variable {A A2 A3 A4:Hh}{δ p d k n:Nat}{ps:cY}{ds:eN}
def Hn{a:BC}(h:FL ps a):lS (T9 a.1.1)=true\/aJ a.1.2:=by
 let⟨⟨k,w⟩,g⟩:=a;cases g with
 |new=>show .inr h.2
 |txt q=>show .inl (by rw[h.1];show ya)
 |form=>show .inl (by rw[h.1];show Hm)
 |pic q=>show .inr h.2.1
def sr(h:Dsk A δ p d ps ds){w:LN}(as:List BC)(hc:lz w<|as.map λa=>a.1.1)(ha:∀a∈as,FL ps a)(hb:ahR as.length 3=true)(hd:∀a∈as.dropLast,aJ a.1.2)(lens:(jn [32] (w::as.map λa=>a.1.2)).length<=900000) :
  ∃A2 k n ys,A <+: A2/\A2[k]?=some (.L<|(w::as.map λa=>a.1.2).map cu)/\A2[n]?=some (.L ys)/\All2 (λa y=>VG a y A2) as ys /\
   ∀r A',(∀s,eG [some<|.ref δ,s,some<|.ref k,some<|.str<|T9 w,some<|.ref n] A2=some (.rt r,A'))->aA [.ref δ,.str<|T9<|jn [32] (w::as.map λa=>a.1.2)] A=some (r,A'):=by
 have hT:=hc.1;have hl:=adW hb;rw[aaP] at hT;let⟨A1,k,a1,a2,a3,a4⟩:=kA (A:=A) (w:=w) (ks:=as.map λa=>T9 a.1.1) (ws:=as.map λa=>a.1.2) hc.2 (by rw[aaP];show hT) (#v[aar,aar]) (by rw[aar];show hl) (λkp hk=>by
  rw[aj5] at hk;let⟨a,q,rfl⟩:=abm.1 hk
  show Hn<|ha a q) (λ_ x hx=>by
  rw[<-List.map_dropLast] at hx;let⟨a,q,rfl⟩:=abm.1 hx
  show b9<|hd a q) (λz x hx=>by
  let⟨a,q,rfl⟩:=abm.1 hx;rcases Hn (ha a q) with e|e
  .exact (afC.1 z _ (aeu q) e).elim
  .exact b9 e) lens
 generalize D.str (T9<|jn [32] (w::as.map λa=>a.1.2))=row at *;let⟨A2,n,ys,b1,b2,b3,b4⟩:=Fp (h.mono a2) ha hl hc a4 (some row) none;split⟨A2,k,n,ys,a2.trans b2,ai b2 a4,b3,b4,λr A' z=>Ot rfl<|ml (U1:=[some<|.ref δ,some row,some<|.ref k,none,none]) (A1:=A1) (by simp[a1])<|ml (U1:=[some<|.ref δ,some row,some<|.ref k,some<|.str<|T9 w,none]) (A1:=A1) (by rw[aax] at a4;simp[a4])<|ml (U1:=[some<|.ref δ,some row,some<|.ref k,some<|.str<|T9 w,some<|.ref n]) (A1:=A2) (by simp[b1])<|z _⟩
def Wd(w:LN):Prop:=(∀c∈w,c<256)/\w≠wT/\w≠jB/\w≠[100,114,111,112]
def BQ(ks:Zl):fv gZ (ks.map D.str)=some ks:=(iJ (f:=gZ) (g:=D.str) (k:=id) (λ_=>rfl) ks).trans<|#v[List.map_id]
def bN{l:List<|Str×D}{m:Str}(h:l.lookup m=none):(ZC "Desk",l).1∈[ZC "Desk"]/\(ZC "Desk",l).2.lookup m=none:=⟨adk _,h⟩
def OM{ks:Zl}{b:Bool}(i1:ua (.str<|T9 bL) (ks.map .str)=b):zZ (.str<|Str.ofString "NEW") (.mt<|ks.map .str) A=some (.B b,A):=by rw[hX];simp[BQ,i1]
def aao(h:Dsk A2 δ p d ps ds){w nm:LN}{ws:List LN}{ks:Zl}{y0 x u:D}{ys:Zc}(a5:A2[k]?=some (.L<|(w::nm::ws).map cu))(b3:A2[n]?=some (.L (y0::ys)))(hw:Wd w)(hT:Zp.lookup (T9 w)=some (.mt<|ks.map .str))(i1:ua (.str<|T9 bL) (ks.map .str)=true)
  (m1:fU [.str<|T9 w,.ref A2.length] (A2++[.L ys])=some (x,A3)) (d1:da [.ref δ,.str<|T9 nm,x] A3=some (u,A4)) (s:Zd) :
  eG [some<|.ref δ,s,some<|.ref k,some<|.str<|T9 w,some<|.ref n] A2=some (.rt<|.str "ok",A4):=by
 let⟨hc,n1,n2,n3⟩:=hw;have s2:bI (.ref k) (.int 1) A2=some (.str<|T9 nm,A2):=bv a5<|qz (a:=cu w) (b:=cu nm) (t:=ws.map cu);have s3:tF (aa 4) (dP<|rW 1) wV [some<|.ref δ,s,some<|.ref k,some<|.str<|T9 w,some<|.ref n] A2=some (.ref A2.length,A2++[.L ys]):=by simp[b3,sl1,HT.nG]
 erw [df A2 eO hc ⋯ n1,df A2 fK hc ⋯ n2,df A2 rF hc ⋯ n3,hT,OM i1,c9 h.at0,bN OY,s2,s3,m1,d1]
def Ku{w:LN}{ks:Zl}{x:D}(hw:Wd w)(hT:Zp.lookup (T9 w)=some (.mt<|ks.map .str))(i1:ua (.str<|T9 bL) (ks.map .str)=false)
  (m1:lZ [.str<|T9 w,.ref n] A2=some (x,A3)) (s:Zd) :
  eG [some<|.ref δ,s,some<|.ref k,some<|.str<|T9 w,some<|.ref n] A2=some (.rt x,A3):=by
 let⟨hc,n1,n2,n3⟩:=hw
 erw [df A2 eO hc ⋯ n1,df A2 fK hc ⋯ n2,df A2 rF hc ⋯ n3,hT,OM i1,m1]
def _root_.Y.All2.un{O:Type}{P:O->D->Prop}{a:O}{l:List O}{ys:Zc}(h:All2 P (a::l) ys):∃y t,ys=y::t/\P a y/\All2 P l t:=by
 cases ys with
 |nil=>show h.elim
 |cons y t=>show⟨y,t,rfl,h.1,h.2⟩
def _root_.Y.All2.nl{O:Type}{P:O->D->Prop}{ys:Zc}(h:All2 P [] ys):ys=[]:=by
 cases ys with
 |nil=>rfl
 |cons y t=>show h.elim
def zd{P:BC->Prop}:∀x∈([]:List BC),P x:=λ_ h=>nomatch h
def fm{P:BC->Prop}{a:BC}{l:List BC}(h:P a)(k:∀x∈l,P x):∀x∈a::l,P x:=afk.2 ⟨h,k⟩
def aab{a:D}{x:D}(b3:A2[n]?=some (.L [a]))(l1:kf [a] A2=some (x,A3)):lZ [.str<|T9 uN,.ref n] A2=some (x,A3):=by
 erw [aS A2 rJ ⋯,bv b3 rfl,l1]
def Vk{x:D}(h:Dsk A2 δ p d ps ds)(t1:bC [.ref δ] A2=some (x,A3))(s:Zd):eG [some<|.ref δ,s,some<|.ref k,some<|.str<|T9 jB,some<|.ref n] A2=some (.rt<|.str "ok",A3):=by
 erw [bi A2 eO ⋯,aS A2 fK ⋯,c9 h.at0,bN Cn,t1]
def Hi:ua (.str<|T9 bL) ([T9 bL,T9 cw,T9 fj].map V.str)=true:=s!""
def LW:ua (.str<|T9 bL) ([T9 bL,T9 cw].map V.str)=true:=s!""
def nH(h:Dsk A δ p d ps ds)(hp:ps.length<=1000)(hd:ds.length<=1000){nm w:LN}(hn:aJ nm)(hw:Wd w)(rest:List BC)(hc:lz w (bL::rest.map λa=>a.1.1)){ks:Zl}(hT:Zp.lookup (T9 w)=some (.mt<|ks.map .str))(i1:ua (.str<|T9 bL) (ks.map .str)=true)(ha:∀a∈rest,FL ps a)(hb:ahR (rest.length+1) 3=true)(hd':∀a∈((((bL,nm),.new)::rest:List BC)).dropLast,aJ a.1.2)(lens:(jn [32] (w::nm::rest.map λa=>a.1.2)).length<=900000){r:tL}(mk:∀A2 ys,All2 (λa y=>VG a y A2) rest ys->Tl fU [.str<|T9 w,.ref A2.length] (A2++[.L ys]) (ax r)) :
  ∃A',aA [.ref δ,.str<|T9<|jn [32] (w::nm::rest.map λa=>a.1.2)] A=some (.str "ok",A')/\Fr p d A A'/\Dsk A' δ p d (put ps nm r) (ds++[(nm,val ps nm)]):=by
 let⟨A2,k,n,ys,p2,a5,b3,b4,go⟩:=sr h (((bL,nm),.new)::rest) hc (fm ⟨rfl,hn⟩ ha) hb hd' lens;let⟨y1,t,rfl,g1,b5⟩:=b4.un;ext g1;let⟨A3,m1,m2⟩:=mk A2 t b5;have q:=p2.trans<|(aap _ _).trans m2;let⟨A4,d1,d2,d3⟩:=Wc (h.mono q) hp hd nm (some r) nofun;show⟨A4,go _ _<|aao (h.mono p2) a5 b3 hw hT i1 m1 d1,(ip q).trans d2,d3⟩
def ND(h:Dsk A δ p d ps ds)(hp:ps.length<=1000)(hd:ds.length<=1000){nm:LN}(hn:aJ nm) (ho:TkL o) :
  ∃A',aA [.ref δ,.str<|T9<|jn [32] [dN,nm,FG o]] A=some (.str "ok",A')/\Fr p d A A'/\Dsk A' δ p d (put ps nm<|bo o) (ds++[(nm,val ps nm)]):=by
 have hl:=JZ ho;have hln:=hn.1;split nH h hp hd hn ⟨⋯,⋯,⋯,⋯⟩ [((j6,FG o),.txt o)] mR (ks:=[T9 bL,T9 j6]) mR.1 Rq (fm ⟨rfl,rfl,ho⟩ zd) rfl (fm hn zd) ?_ λA2 ys b=>?_
 .simp only[jn,aat,aay,abP,aax,abq];lia
 .let⟨y1,t,rfl,g1,b⟩:=b.un;cases b.nl;ext g1;show yh aj
def Jh(h:Dsk A δ p d ps ds)(hp:ps.length<=1000)(hd:ds.length<=1000){nm on:LN}(hn:aJ nm)(ho:aJ on) (hv:val ps on=some (bo o))(g:Go o){w:LN}(hw:w=cQ\/w=cr\/w=d5\/w=jt) :
  ∃A',aA [.ref δ,.str<|T9<|jn [32] [w,nm,on,Ej]] A=some (.str "ok",A')/\Fr p d A A'/\Dsk A' δ p d (put ps nm<|bo<|fL w o) (ds++[(nm,val ps nm)]):=by
 obtain⟨hc,hwl,hwd⟩:lz w [bL,cw,hV]/\w.length<=7/\Wd w:=by
  rcases hw with rfl|rfl|rfl|rfl
  .exact⟨jX,⋯,⋯,⋯,⋯,⋯⟩
  .exact⟨jY,⋯,⋯,⋯,⋯,⋯⟩
  .exact⟨lJ,⋯,⋯,⋯,⋯,⋯⟩
  .exact⟨lG,⋯,⋯,⋯,⋯,⋯⟩
 have hln:=hn.1;have hlo:=ho.1;split nH h hp hd hn hwd [((cw,on),.pic<|bo o),((hV,Ej),.form)] hc (ks:=[T9 bL,T9 cw,T9 hV]) hc.1 LV (fm ⟨.inl rfl,ho,hv⟩<|fm ⟨rfl,rfl⟩ zd) rfl (fm hn<|fm ho zd) ?_ λA2 ys b=>?_
 .simp only[jn,aat,aay,abP,aax,abq];lia
 .let⟨y1,t,rfl,g1,b⟩:=b.un;let⟨y2,t,rfl,⟨m,rfl,hfm⟩,b5⟩:=b.un;cases b5.nl;ext g1;show Ey (hfm.mono<|aap _ _) g hw aj
def NB(h:Dsk A δ p d ps ds)(hp:ps.length<=1000)(hd:ds.length<=1000){nm on w:LN}(hn:aJ nm)(ho:aJ on){o:Ln}(hv:val ps on=some (bo o))(g:Go o)(hw:w=pi\/w=ie\/w=kx\/w=ff) :
  ∃A',aA [.ref δ,.str<|T9<|jn [32] [w,nm,on,on]] A=some (.str "ok",A')/\Fr p d A A'/\Dsk A' δ p d (put ps nm<|bo<|o2 w o) (ds++[(nm,val ps nm)]):=by
 have hln:=hn.1;have hlo:=ho.1;obtain⟨hc,hwl,hwd⟩:lz w [bL,cw,fj]/\w.length<=7/\Wd w:=by
  rcases hw with rfl|rfl|rfl|rfl
  .exact⟨qF,⋯,⋯,⋯,⋯,⋯⟩
  .exact⟨lH,⋯,⋯,⋯,⋯,⋯⟩
  .exact⟨qG,⋯,⋯,⋯,⋯,⋯⟩
  .exact⟨lI,⋯,⋯,⋯,⋯,⋯⟩
 split nH h hp hd hn hwd [((cw,on),.pic<|bo o),((fj,on),.pic<|bo o)] hc (ks:=[T9 bL,T9 cw,T9 fj]) hc.1 Hi (fm ⟨.inl rfl,ho,hv⟩<|fm ⟨.inr rfl,ho,hv⟩ zd) rfl (fm hn<|fm ho zd) ?_ λA2 ys b=>?_
 .simp only[jn,aat,aay,abP,aax,abq];lia
 .let⟨y1,t,rfl,g1,b⟩:=b.un;let⟨y2,t,rfl,g2,b⟩:=b.un;cases b.nl;ext g1;ext g2;show HH g hw aj
def Ji(h:Dsk A δ p d ps ds){on:LN}(ho:aJ on) (hv:val ps on=some (bo o))(hk:TkL o) :
  ∃A',aA [.ref δ,.str<|T9<|jn [32] [uN,on]] A=some (.str<|T9<|FG o,A')/\A <+: A':=by
 have hlo:=ho.1;have lens:(jn [32] [uN,on]).length<=900000:=by simp only[jn,aat,aay,abP];lia
 let⟨A2,k,n,ys,p2,a5,b3,b4,go⟩:=sr h [((cw,on),.pic<|bo o)] xy (fm ⟨.inl rfl,ho,hv⟩ zd) rfl zd lens;let⟨y1,t,rfl,g1,b4⟩:=b4.un;cases b4.nl;ext g1;let⟨A3,l1,l2⟩:=Da (A:=A2) hk;show⟨A3,go _ _<|Ku (ks:=[T9 cw]) ⟨⋯,⋯,⋯,⋯⟩ xy.1 Hg<|aab b3 l1,p2.trans l2⟩
end
theorem PH{O:Type}{f:O->Nat}{c:Nat}:∀ {l:List O},(∀a∈l,f a<=c)->(l.map f).sum<=l.length*c
 |[],_=>aaL _
 |a::l,h=>by have h1:=h a aaJ;have h2:=PH (l:=l) λb hb=>h b<|aaK _ hb;rw[aax,List.sum_cons,aay,Nat.add_mul,Nat.one_mul];lia
def sx(ps:cY):List LN:=(M.lm<|ps.map λkv=>T9 kv.1).map λx=>x.cps.toList
def Jv(ps:cY):(sx ps).map T9=M.lm (ps.map λkv=>T9 kv.1):=by unfold sx;rw[aaP];show List.map_id' _
def nJ(ps:cY):(sx ps).Perm<|ps.map λkv=>kv.1:=by have h:=(M.jr<|ps.map λkv=>T9 kv.1).map λx:Str=>x.cps.toList;rw[aaP] at h;show h
theorem km:∀ps:cY,nN (ps.map An)=some (ps.map λkv=>T9 kv.1)
 |[]=>rfl
 |kv::ps=>by rw[aax,nN,km ps];rfl
def Db{ps:cY}(hn:∀kv∈ps,aJ kv.1):((sx ps).map ag7).sum<=ps.length*8/\(sx ps).length=ps.length:=by
 have hl:(sx ps).length=ps.length:=by rw[(nJ ps).length_eq,aar]
 split⟨?_,hl⟩;rw[<-hl];show PH λx hx=>by let⟨kv,hk,rfl⟩:=abm.1<|(nJ ps).mem_iff.mp hx;show (hn kv hk).1.2
section
variable {A A2 A3:Hh}{δ p d k n:Nat}{ps:cY}{ds:eN}
def yK{w:LN}(h:Dsk A δ p d ps ds)(hc:lz w [])(lens:(jn [32] [w]).length<=900000):∃A2 k n,A <+: A2/\∀r A',(∀s,eG [some<|.ref δ,s,some<|.ref k,some<|.str<|T9 w,some<|.ref n] A2=some (.rt r,A'))->aA [.ref δ,.str<|T9 w] A=some (r,A'):=by let⟨A2,k,n,ys,p2,a5,b3,b4,go⟩:=sr h [] hc zd rfl zd lens;show⟨A2,k,n,p2,go⟩
def uF(h:Dsk A δ p d ps ds)(hp:ps.length<64)(hn:∀kv∈ps,aJ kv.1):∃A',aA [.ref δ,.str<|T9 wT] A=some (.str<|T9<|jn [32]<|sx ps,A')/\A <+: A':=by
 let⟨A2,k,n,p2,go⟩:=yK h DR ⋯;have h2:=h.mono p2;have s1:gw (.ref p) A2=some (.ref A2.length,A2++[.L<|(sx ps).map cu]):=by
  have e:=h2.atp;have e1:i4 (.ref p) A2=none:=by
   unfold i4;have:iR A2 (.ref p)=none:=by show A2[p]?.bind B.ls=_;rw[e];rfl
   rw[this];rfl
  have e2:iH (.ref p) A2=some (.ref A2.length,A2++[.L<|(sx ps).map cu]):=by
   unfold iH;have:og A2 (.ref p)=some (ps.map An):=by show A2[p]?.bind B.dc=_;rw[e];rfl
   rw[this];show ((nN<|ps.map An).bind _)=_;rw[km];show (if (ps.map λkv=>T9 kv.1).length<64 then _ else _)=_;rw[aar,aac hp,<-Jv,aaP];rfl
  unfold gw;rw[e1,e2];rfl
 let⟨l1,l2⟩:=Db hn;have j1:=vU (A:=A2++[.L<|(sx ps).map cu]) (k:=A2.length) (y:=[32]) (l:=sx ps) aj (by rw[l2];show _+_*1<=_;lia);split⟨A2++[.L<|(sx ps).map cu],go _ _ λs=>?_,p2.trans<|aap _ _⟩;have e0:=h2.at0;simp only[eG,eO,iM];simp[-lj,vJ,e0,kE,s1,j1]
def Jg(h:Dsk A δ p d ps ds)(hp:ps.length<=1000)(hd:ds.length<=1000){nm:LN}(hn:aJ nm){q:tL}(hv:val ps nm=some q) :
  ∃A',aA [.ref δ,.str<|T9<|jn [32] [pf,nm]] A=some (.str "ok",A')/\Fr p d A A'/\Dsk A' δ p d (drp ps nm) (ds++[(nm,val ps nm)]):=by
 have hln:=hn.1;have lens:(jn [32] [pf,nm]).length<=900000:=by simp only[jn,aat,aay,abP];lia
 let⟨A2,k,n,ys,p2,a5,b3,b4,go⟩:=sr h [((cw,nm),.pic q)] qE (fm ⟨.inl rfl,hn,hv⟩ zd) rfl zd lens;have h2:=h.mono p2;let⟨A3,d1,d2,d3⟩:=Wc h2 hp hd nm none λ_=>by rw[hv];show afq q
 split⟨A3,go _ _ λs=>?_,(ip p2).trans d2,d3⟩;have s2:bI (.ref k) (.int 1) A2=some (.str<|T9 nm,A2):=bv a5<|qz (a:=cu pf) (b:=cu nm) (t:=[]);have d1:da [.ref δ,.str<|T9 nm,.N] A2=some (.N,A3):=d1
 erw [bi A2 eO ⋯,bi A2 fK ⋯,aS A2 rF ⋯,c9 h2.at0,bN OY,s2,d1]
def AR{nm:LN}{o:Option tL}(h:Dsk A δ p d ps<|ds++[(nm,o)])(ho:o=none->val ps nm≠none)(hp:ps.length<=1000)(hn:∀x∈ds++[(nm,o)],aJ x.1):∃A',aA [.ref δ,.str<|T9 jB] A=some (.str "ok",A')/\Fr p d A A'/\Dsk A' δ p d (lay ps nm o) ds:=by let⟨A2,k,n,p2,go⟩:=yK h qD ⋯;have h2:=h.mono p2;let⟨A3,t1,t2,t3⟩:=Qu h2 ho hp hn;show⟨A3,go _ _<|Vk h2 t1,(ip p2).trans t2,t3⟩
end
open M (bh)
def BB:Int:=10000000000000000000000000000000000000000000000000000000000
def Lk(k:Nat):Ln->Prop
 |none=>True
 |some t=>t.2.1<=t.2.2/\t.2.2<=t.2.1+5+3*k/\(0<=t.1/\t.1<=BB) /\ -3-3*(k:Int)<=t.2.1/\t.2.1<=BB+3*k
def ni{k k':Nat} (h:Lk k o)(e:k<=k'):Lk k' o:=by
 cases o with
 |none=>trivial
 |some t=>let⟨h1,h2,h3,h4,h5⟩:=h;show⟨h1,(),h3,(),()⟩
def wn{n:Int}(h1:-1000<=n)(h2:n<=BB+2000):uU n:=by
 have e:BB+2000<1000000000000000000000000000000000000000000000000000000000000:=by decide +kernel
 have e2:(10:Nat)^60=1000000000000000000000000000000000000000000000000000000000000:=by decide +kernel
 unfold uU;rw[e2];lia
def Wt{k:Nat} (h:Lk k o):Lk (k+1)<|gL o:=by
 cases o with
 |none=>trivial
 |some t=>let⟨h1,h2,h3,h4,h5⟩:=h;show⟨show t.2.1-1<=t.2.2+2 by lia,show t.2.2+2<=t.2.1-1+5+3*((k+1:Nat):Int) by lia,h3,show _<=t.2.1-1 by lia,show t.2.1-1<=_ by lia⟩
def Yp{k:Nat} (h:Lk k o):Lk (k+1)<|sL o:=by
 cases o with
 |none=>trivial
 |some t=>
  let⟨h1,h2,h3,h4,h5⟩:=h;show Lk (k+1) (if t.2.2-t.2.1<3 then none else some (t.1,t.2.1+1,t.2.2-2));by_cases e:t.2.2-t.2.1<3
  .rw[aac e];trivial
  .rw[aad e];show⟨show t.2.1+1<=t.2.2-2 by lia,show t.2.2-2<=t.2.1+1+5+3*((k+1:Nat):Int) by lia,h3,show _<=t.2.1+1 by lia,show t.2.1+1<=_ by lia⟩
def Oy{k:Nat} (h:Lk k o):gL (sL o)=match (generalizing:=false) o with|none=>none|some t=>if t.2.2-t.2.1<3 then none else some t:=by
 cases o with
 |none=>rfl
 |some t=>
  show gL (if t.2.2-t.2.1<3 then none else some (t.1,t.2.1+1,t.2.2-2))=if t.2.2-t.2.1<3 then none else some t
  split
  .rfl
  .show some (t.1,t.2.1+1-1,t.2.2-2+2)=some t;rw[agu,agv]
def YN{k:Nat} (h:Lk k o):sL (gL o)=o:=by
 cases o with
 |none=>rfl
 |some t=>have:=h.1;show (if t.2.2+2-(t.2.1-1)<3 then none else some (t.1,t.2.1-1+1,t.2.2+2-2))=some t;rw[aad (),agv,agu]
def yf{k:Nat} (h:Lk k o)(hk:k<=200):TkL o:=λt e=>by subst e;let⟨h1,h2,⟨h3,h6⟩,h4,h5⟩:=h;show⟨wn () (),wn () (),wn () (),h1⟩
def Lk.go{k:Nat} (h:Lk k o):Go o:=λt e=>by subst e;show h.1
section
variable {A A2 A3:Hh}{k n:Nat}
def wD(s:Int×Int):Tl hσ [ef [s]] A<|.int (s.2-s.1+1):=by
 obtain⟨A1,n,c1,c2,c3,c4⟩:Nl (lf [some (ef [s])] A) A [.int (s.2-s.1+1)]:=ik (g8 rfl) λA' _=>⟨_,rfl,A',ao (ao rfl rfl rfl) rfl rfl,aaE _⟩
 have e:h1 (lh λns=>some<|.int ns.sum) [.ref n] A1=some (.int<|s.2-s.1+1,A1):=by simp[c4,fv,List.sum]
 show⟨A1,aU rfl<|ay<|bn (aB c1) e,c2⟩
def gy(o:Ln):Tl cG [ax<|bo o] A<|.int (o.elim 0 λt=>t.2.2-t.2.1+1):=by
 cases o with
 |none=>
  have e:h1 (lh λns=>some<|.int ns.sum) [.ref A.length] (A++[.L []])=some (.int 0,A++[.L []]):=by simp[fv]
  show⟨A++[B.L []],aU rfl<|ay<|bn (aB<|nZ<|g8 rfl) e,aap _ _⟩
 |some t=>
  obtain⟨A1,n,c1,c2,c3,c4⟩:Nl (jv [some (ax (bo (some t)))] A) A [.int (t.2.2-t.2.1+1)]:=ik (g8 rfl) λA' _=>by let⟨A2,r1,r2⟩:=wD (A:=A') t.2;show⟨_,rfl,A2,al (aB rfl) rfl r1,r2⟩
  have e:h1 (lh λns=>some<|.int ns.sum) [.ref n] A1=some (.int<|t.2.2-t.2.1+1,A1):=by simp[c4,fv,List.sum]
  show⟨A1,aU rfl<|ay<|bn (aB c1) e,c2⟩
def yH(s:Int×Int):jg [ef [s]] A=some (.T [],A++[.L []]):=by have c1:mE [some<|ef [s]] A=some (.ref A.length,A++[.L []]):=nZ (by simp);have t1:h1 i5 [.ref A.length] (A++[.L []])=some (.T [],A++[.L []]):=kt aj;show aU rfl<|ay<|bn (aB c1) t1
def LP(o:Ln):Tl dq [ax<|bo o] A<|.T []:=by
 cases o with
 |none=>
  let⟨A2,r1,r2⟩:=pU (A:=A++[.L []]) aj;show⟨A2,aU rfl<|ay<|al (aB<|nZ<|g8 rfl) rfl r1,(aap _ _).trans r2⟩
 |some t=>
  obtain⟨A1,n,c1,c2,c3,c4⟩:Nl (fW [some (ax (bo (some t)))] A) A [g7 (t.1,[])]:=ik (g8 rfl) λA' _=>⟨_,rfl,_,bV (ag rfl<|aB<|al (aB rfl) rfl<|yH t.2) rfl rfl,aap A' [.L []]⟩
  let⟨A2,r1,r2⟩:=pV c4;show⟨A2,aU rfl<|ay<|al (aB c1) rfl r1,c2.trans r2⟩
def xu(r:Int):FA dW [.T [],.int r] A []:=by let⟨A1,n,s1,s2,s3,s4⟩:=kj (A:=(A++[.L []])++[.dit []]) none;have s1:aO [.T []] ((A++[.L []])++[.dit []])=some (.ref n,A1):=s1;show⟨A1,A.length,aU rfl<|bG (d9 rfl rfl)<|bG rfl<|cy (BX (gU (al (aB rfl) rfl s1) s4) s4)<|ay rfl,(aap _ _).trans<|(aap _ _).trans s2,aaq _,ai s2<|ai (aap _ _) aj⟩
def He(o:Ln):FA nr [ax<|bo o] A []:=by let⟨A1,g1,g2⟩:=LP (A:=A) o;let⟨A2,n,c1,c2,c3,c4⟩:=xu (A:=A1) 0;have k1:tJ [some<|ax<|bo o,some<|.ref n] A2=some (.ref A2.length,A2++[.L []]):=qH (wU rfl c4) (bO c4)<|eL (ai (aap _ _) c4) rfl;have p2:=g2.trans c2;show⟨A2++[B.L []],A2.length,aU rfl<|bG (al (ag (al (aB rfl) rfl g1)<|aB rfl) rfl c1)<|ay k1,p2.trans<|aap _ _,p2.length_le,aj⟩
def Eh(g:Go o):Tl nq [ax<|bo o] A<|ax (bo o):=by let⟨A1,n,s1,s2,s3,s4⟩:=kj (A:=A) o;let⟨A2,m,h1,h2,h3,h4⟩:=He (A:=A1) o;let⟨A3,p1,p2⟩:=AJ (ai h2 s4) g;show⟨A3,aU rfl<|bG (al (aB rfl) rfl s1)<|cy (BX (gU (al (aB rfl) rfl h1) h4) h4)<|ay<|al (aB rfl) rfl p1,(s2.trans h2).trans p2⟩
def Gn(x:Int):bq [.T [],.int x] A=some (.int 0,A):=by have w:fu fQ fP [some<|.T [],some<|.int x,some<|.int 0,some<|.int 0,none] A=some (.nx [some<|.T [],some<|.int x,some<|.int 0,some<|.int 0,none],A):=Br rfl;show aU rfl<|cy rfl<|cy rfl<|cy w rfl
def Qv(f g:Int):eE [.T [],.int f,.int g] A=some (.T [],A):=by
 have m1:xm [.int 0,.int<|0-1] A=some (.int 0,A):=rfl;have s1:tF (aa 0) (dP<|cc xm<|af (rW 0)<|af (az d6 (ah 2 bq NY)<|rW 1) aF) (dP<|ah 2 bq<|af (aa 0)<|af (aa 2) aF) [some<|.T [],some<|.int f,some<|.int g] A=some (.T [],A):=by have c1:=Gn (A:=A) f;have c2:=Gn (A:=A) g;simp[c1,c2]
 show aU rfl<|ay s1
def AS{b:B}(h:A[k]?=some b):A.set k b=A:=by let⟨hk,e⟩:=aa0.1 h;subst e;show agh hk
def JQ{y:Int}{t:oW}(hy:t.1≠y)(d1 d2:D)(f g:Int){m:Nat}(hm:A[m]?=some (.L [])):iY [some<|ax<|bo<|some t,some d1,some d2,some<|.int f,some<|.int g,some<|.ref m,some<|.int y] A=some (.nx [some<|ax<|bo<|some t,some d1,some d2,some<|.int f,some<|.int g,some<|.ref m,some<|.int y],A++[.L []]):=by have r1:=CP (A:=A) (t:=t) y;rw[aad hy] at r1;have k1:mG [some<|ax<|bo<|some t,some d1,some d2,some<|.int f,some<|.int g,some<|.ref m,some<|.int y] A=some (.ref A.length,A++[.L []]):=qH (w:=.sq []) (g8<|al (ag (al (ag rfl<|aB rfl) rfl r1)<|ag rfl<|aB rfl) rfl<|Qv f g) rfl rfl;have hm2:=ai (aap A [B.L []]) hm;show gS (eM rfl (cI hm) (aB k1)<|lQ hm2 aj (aaL _)<|AS hm2) rfl
def yR{t:oW}:FA ji [ax<|bo<|some t,.T [.int t.1,.int t.2.1,.int t.2.2,.N],.int 1] A []:=by
 have a0:(A++[B.L []])[A.length]?=some (.L []):=aj;have a1:=ai (aap _ [B.L []]) a0;have a2:=ai (aap _ [B.L []]) a1
 let U (o:Zd):Y.Env:=[some<|ax<|bo<|some t,some<|.T [.int t.1,.int t.2.1,.int t.2.2,.N],some<|.int 1,some<|.int<|t.2.1-1,some<|.int<|t.2.2+1,some<|.ref A.length,o]
 have f1:ja (au 6) iY (.sq [.int<|t.1-1,.int<|t.1+1]) 3 0 (U none) (A++[.L []])=some (.nx<|U<|some<|.int<|t.1+1,A++[.L []]++[.L []]++[.L []]):=
  Ei rfl rfl (JQ () _ _ _ _ a0) (Ei rfl rfl (JQ () _ _ _ _ a1)<|x8 rfl)
 have w1:bc (bA<|af (az d6 (az bI (aa 1)<|rW 0)<|rW 1)<|af (az aN (az bI (aa 1)<|rW 0)<|rW 1) aF) (U none) (A++[.L []])=some (.sq [.int<|t.1-1,.int<|t.1+1],A++[.L []]):=g8<|bV rfl rfl rfl;show⟨_,A.length,Ot rfl<|ml rfl<|ml rfl<|ml rfl<|ml (jA w1 rfl f1) rfl,((aap _ _).trans<|aap _ _).trans<|aap _ _,aaq _,a2⟩
def NS{t:oW}:FA ia [ax<|bo<|some t,cq t,.int 1] A [.T [.int t.1,.int t.2.1,.int t.2.2,.N]]:=by
 let w0:D:=.T [.int t.1,.int t.2.1,.int t.2.2,.N]
 let A1:=A++[.L [w0]]
 let A2:=A1++[.dit [[t.1,t.2.1,t.2.2]]]
 have a1:A1[A.length]?=some (.L [w0]):=aj;have a2:A2[A.length]?=some (.L [w0]):=ai (aap _ _) a1;have p2:A <+: A2:=(aap _ _).trans<|aap _ _;have e1:ej (af (az aN (aa 1)<|bA<|af (xC .N) aF) aF) [some<|ax<|bo<|some t,some<|cq t,some<|.int 1,none,none,none,none] A=some (.ref A.length,A1):=d9 (aB<|ao rfl (bV rfl rfl rfl)<|BI<|abV 4 999996) rfl;have e2:y7 (aa 1) (xC<|.B true) [some<|ax<|bo<|some t,some<|cq t,some<|.int 1,some<|.ref A.length,none,none,none] A1=some (.ref A1.length,A2):=by simp[A2,fv]
 let⟨A3,n,t1,t2,t3,t4⟩:=yR (A:=A2) (t:=t)
 let U (i:Int):Y.Env:=[some<|ax<|bo<|some t,some<|cq t,some<|.int 1,some<|.ref A.length,some<|.ref A1.length,some<|.int i,none]
 have s0:bI (.ref A.length) (.int 0) A2=some (w0,A2):=bv a2 rfl;have f1:=x8 (n:=0) (U:=U 0) (g:=au 6) (x:=k8)<|eL (i:=0) t4 rfl;have hl:(Wk.ls n).len A3=0:=bO t4;have l2:=ed a2 (j:=1) rfl;have l3:=ed (ai t2 a2) (j:=1) rfl;have b1:ig (U 0) A2=some (.nx<|U 1,A3):=cy (jA (gU (al (ag rfl<|ag (bJ s0)<|aB rfl) rfl t1) t4) hl f1)<|Kb rfl rfl rfl rfl;have w1:fu k9 ig (U 0) A2=some (.nx<|U 1,A3):=Kj (av<|ao rfl (bn (aB rfl) l2) rfl) b1<|Br<|av<|ao rfl (bn (aB rfl) l3) rfl;show⟨A3,A.length,aU rfl<|bG e1<|bG e2<|bG rfl<|cy w1<|ay rfl,p2.trans t2,aaq _,ai t2 a2⟩
def Li{m:Nat}(h:A[m]?=some (.dit []))(t:oW):im true (cq t) (.ref m) A=some (.B true,A):=by simp[h,fv]
def Lj{m q:Nat} (h:A[m]?=some (.dit []))(k:A[q]?=some (.L [.T [cq t,.B true]])):Cq [.ref m,.ref q] A=some (.N,A.set m<|.dit [[t.1,t.2.1,t.2.2]]):=by simp[h,k,fv,nA,aaS,M.py]
def Rv{m:Nat}{l:Zm}(h:A[m]?=some (.dit l)):isT A (.ref m)=true:=by simp[h]
def E6(o:Ln):∃l,FA nu [ax<|bo o] A l/\(l.length:Int)=o.elim 0 λ_=>1:=by
 cases o with
 |none=>
  let⟨A1,n,c1,c2⟩:=xu (A:=A) 1;show⟨[],⟨A1,n,aU rfl<|ay<|al (ag rfl<|aB rfl) rfl c1,c2⟩,rfl⟩
 |some t=>
  let A0:=(A++[.L []])++[.dit []]
  have a0:A0[A.length]?=some (.L []):=ai (aap _ _) aj;have d0:A0[(A++[B.L []]).length]?=some (.dit []):=aj;let⟨A1,n,s1,s2,s3,s4⟩:=kj (A:=A0)<|some t;have s4:A1[n]?=some (.L [cq t]):=s4;let⟨A2,m,w1,w2,w3,w4⟩:=NS (A:=A1) (t:=t);have a2:=ai w2<|ai s2 a0;have d2:=ai w2<|ai s2 d0
  let l1:D:=.ref m
  let A3:=A2.set A.length<|.L [.ref m]
  have hne:A.length≠m:=by have:=s2.length_le;have:=gv a0;lia
  have hne2:A.length≠(A++[B.L []]).length:=by rw[aat];show aaC<|abo _
  have a3:A3[A.length]?=some (.L [.ref m]):=cF a2;have m3:A3[m]?=some (.L [.T [.int t.1,.int t.2.1,.int t.2.2,.N]]):=by rw[aav hne];show w4
  have d3:A3[(A++[B.L []]).length]?=some (.dit []):=by rw[aav hne2];show d2
  let U (o:Zd):Y.Env:=[some<|ax<|bo<|some t,some<|.int 1,some<|.ref A.length,some<|.ref (A++[B.L []]).length,o]
  obtain⟨A4,q,k1,k2,k3,k4⟩:Nl (jK (U (some (cq t))) A3) A3 [.T [cq t,.B true]]:=cj (as:=[t]) (enc:=λt:oW=>.T [.int t.1,.int t.2.1,.int t.2.2,.N]) (h:=λt:oW=>.T [cq t,.B true]) (gU (ao rfl (aai rfl rfl)<|bv a3 rfl) m3) (bO m3) (abV 1 999999) (λ_ p=>fg<|ai p m3) λa _ A' _=>⟨_,rfl,A',rfl,aaE _⟩
  have i1:=Li (ai s2 d0) t;have u1:=Lj (ai k2 d3) k4;have b1:jE (U<|some<|cq t) A1=some (.nx<|U<|some<|cq t,A4.set (A++[B.L []]).length<|.dit [[t.1,t.2.1,t.2.2]]):=by show bQ (av<|bJ i1)<|dh rfl<|NP (eM rfl (cI<|ai s2 a0) (aB<|al (ag rfl<|ag rfl<|aB rfl) rfl w1)<|lC a2 (aaL _) rfl)<|gS (eM rfl (Rv d3) (aB k1) u1) rfl
  have hn:(A++[B.L []]).length<n:=by rw[aat] at s3;show s3
  have hn1:A.length<n:=adh (by rw[aat];show acS _ _) hn;have n3:A3[n]?=some (.L [cq t]):=by rw[aav<|aaC hn1];show ai w2 s4
  have n5:(A4.set (A++[B.L []]).length<|.dit [[t.1,t.2.1,t.2.2]])[n]?=some (.L [cq t]):=by rw[aav<|aaC hn];show ai k2 n3
  have f1:=Ei (U:=U none) (g:=au 4) (eL (i:=0) s4 rfl) rfl b1<|x8 (n:=0)<|eL (i:=1) n5 rfl;have a5:(A4.set (A++[B.L []]).length<|.dit [[t.1,t.2.1,t.2.2]])[A.length]?=some (.L [.ref m]):=by rw[aav<|aaI hne2];show ai k2 a3
  have hl:(Wk.ls n).len A1=1:=bO s4;have c1:dW [ax<|bo<|some t,.int 1] A=some (.ref A.length,_):=aU rfl<|bG (d9 rfl rfl)<|bG rfl<|cy (jA (gU (al (aB rfl) rfl s1) s4) hl f1)<|ay rfl;split⟨[.ref m],⟨_,A.length,aU rfl<|ay<|al (ag rfl<|aB rfl) rfl c1,?_,aaq _,a5⟩,rfl⟩;have q0:A <+: A0:=(aap _ _).trans<|aap _ _;show cW ((cW (q0.trans<|s2.trans w2)<|aaq _).trans k2) (by rw[aat];show acS _ _)
end
open M (bh)
def pb(t:oW):Zm:=(ZV (t.2.2-t.2.1+1).toNat).map λk:Nat=>[t.2.1+k,t.1]
def LU(t:oW)(x y:Int):(pb t).contains [x,y]=decide (y=t.1/\t.2.1<=x/\x<=t.2.2):=by
 rw[adF,agw,ab0];unfold pb;rw[abm];constructor
 .rintro⟨k,hk,e⟩;have:=acd.1 hk;ext e;lia
 .rintro⟨rfl,h1,h2⟩;split⟨(x-t.2.1).toNat,acd.2 (),?_⟩;rw[show t.2.1+((x-t.2.1).toNat:Int)=x by lia]
def KT(A:Hh)(m:Nat)(ks:Zm):Prop:=A[m]?.bind B.dt=some ks
section
variable {A A' A2 A3:Hh}{k n m:Nat}{ks:Zm}
def KT.mono(h:KT A m ks)(p:A <+: A'):KT A' m ks:=by
 unfold KT at *;cases e:A[m]? with
 |none=>rw[e] at h;ext h
 |some b=>rw[ai p e];rw[e] at h;show h
def WD(h:KT A m ks)(x y:Int):zZ (.T [.int x,.int y]) (.ref m) A=some (.B<|ks.contains [x,y],A):=by
 unfold KT at h;cases e:A[m]? with
 |none=>rw[e] at h;ext h
 |some b=>rw[e] at h;cases b<;>cases h<;>simp[e,fv]
def RZ(h:KT A m ks)(x y:Int):im true (.T [.int x,.int y]) (.ref m) A=some (.B<|!ks.contains [x,y],A):=by
 unfold KT at h;cases e:A[m]? with
 |none=>rw[e] at h;ext h
 |some b=>rw[e] at h;cases b<;>cases h<;>simp[e,fv]
def Oj(h:KT A m ks){U:Y.Env}{i:Nat}(hi:U[i]?=some (some<|.ref m)):xDk (aa i) U A=some (.sq<|ks.map λk=>.T<|k.map .int,A.set m<|.fz ks)/\KT (A.set m<|.fz ks) m ks/\Fr m m A (A.set m<|.fz ks):=by
 unfold KT at h;cases e:A[m]? with
 |none=>rw[e] at h;ext h
 |some b=>
  rw[e] at h;have h:B.dt b=some ks:=h;split⟨by cases b<;>cases h<;>simp[hi,e],?_,λn b h1 _ q=>?_⟩
  .show ((A.set m<|.fz ks)[m]?).bind B.dt=_;rw[cF e];rfl
  .rw[aav<|aaI h1];show q
abbrev RND:List oW:=[(0,-1,1),(-1,-1,2),(-1,0,4),(-1,1,8),(0,1,16),(1,1,32),(1,0,64),(1,-1,128)]
abbrev STR:Zn:=[1,4,16,64]
def cml{i j:Int}(h:-1000000<i/\i<1000000):CMul i j:=.inl ⟨(),()⟩
def sG{a b:XE}{U:Y.Env}{q:Bool}{r:Option<|D×Hh}(h:a U A=some (.B q,A2))(k:(if q=true then b U A2 else some (.B false,A2))=r):lx a b U A=r:=bd h k
def aah{a b:XE}{U:Y.Env}{q:Bool}{r:Option<|D×Hh}(h:a U A=some (.B q,A2))(k:(if q=true then some (.B true,A2) else b U A2)=r):Bu a b U A=r:=bd h k
def tnF(N w:Int):Zd:=if ahK N w=0/\ahK (N+256*N) (2*w+4*w)≠0 then some (.int w) else none
def caF(N:Int)(r:oW):Zd:=if ahK N r.2.2≠0 then some (.int r.2.2) else none
def JY(N:Int):Tl kH [.int N] A<|.int ((STR.filterMap<|tnF N).length:Nat):=by
 obtain⟨A1,n,c1,c2,c3,c4⟩:Nl (tK [some (.int N),some (.int (N+256*N))] A) A (STR.filterMap (tnF N)):=hG (as:=STR) (enc:=.int) (w:=.sq<|STR.map .int) rfl rfl ⋯ (λ_ _=>eh) λw _ A' _=>by
  split⟨_,rfl,?_⟩;have m2:vK (.int 2) (.int w) A'=some (.int<|2*w,A'):=rY<|cml ⋯;have m4:vK (.int 4) (.int w) A'=some (.int<|4*w,A'):=rY<|cml ⋯;unfold tnF;by_cases h1:ahK N w=0
  .by_cases h2:ahK (N+256*N) (2*w+4*w)=0
   .refine .inl ⟨aad λz=>z.2 h2,?_⟩
    erw [m2,m4,bK<|aaz h1,kh (b:=false)<|by rw[aaz h2];rfl]
   .refine .inr ⟨_,A',aac ⟨h1,h2⟩,?_,rfl,aaE _⟩
    erw [m2,m4,bK<|aaz h1,kh (b:=true)<|by rw[aaA h2];rfl]
  .refine .inl ⟨aad λz=>h1 z.1,?_⟩
   erw [bK<|aaA h1]
 have l1:=ed c4 rfl;have m1:vK (.int 256) (.int N) A=some (.int<|256*N,A):=rY<|cml ⋯;split⟨A1,?_,c2⟩
 erw [m1,c1,l1]
def DC(N:Int):Tl dG [.int N] A<|.int ((RND.filterMap<|caF N).length:Nat):=by
 obtain⟨A1,n,c1,c2,c3,c4⟩:Nl (iA [some (.int N)] A) A (RND.filterMap (caF N)):=hG (as:=RND) (enc:=λr=>.mt [.int r.1,.int r.2.1,.int r.2.2]) (w:=.sq<|RND.map λr=>.mt [.int r.1,.int r.2.1,.int r.2.2]) rfl rfl ⋯ (λ_ _=>eh) λr _ A' _=>by
  split⟨_,rfl,?_⟩;unfold caF;by_cases h1:ahK N r.2.2=0
  .refine .inl ⟨aad λz=>z h1,?_⟩
   erw [kh (b:=false)<|by rw[aaz h1];rfl]
  .refine .inr ⟨_,A',aac h1,?_,rfl,aaE _⟩
   erw [kh (b:=true)<|by rw[aaA h1];rfl]
 have l1:=ed c4 rfl;split⟨A1,?_,c2⟩
 erw [c1,l1]
def gI(ks:Zm)(x y:Int):Zn:=RND.filterMap λr=>if ks.contains [x+r.1,y+r.2.1]=true then some r.2.2 else none
def rf(N:Int):Bool:=decide (((STR.filterMap<|tnF N).length:Int)=1)&&decide (2<=((RND.filterMap<|caF N).length:Int))
noncomputable abbrev Vm:=ah 1 dG<|af (aa 4) aF
def Ro(h:KT A m ks)(x y:Int):Tl rO [.ref m,.int x,.int y,.B true] A<|.B (rf (gI ks x y).sum):=by
 obtain⟨A1,n,c1,c2,c3,c4⟩:Nl (wZ [some (.ref m),some (.int x),some (.int y),some (.B true),none] A) A ((gI ks x y).map .int):=by
  have:=hG (js:=[none,none,none,some 0,some 1,some 2]) (U:=[some<|.ref m,some<|.int x,some<|.int y,some<|.B true,none]) (A:=A) (as:=RND) (f:=λr=>if ks.contains [x+r.1,y+r.2.1]=true then some (.int r.2.2) else none) (g:=Bv 0 1 2) (c:=aw<|az zZ (bA<|af (az aN (aa 4)<|aa 0)<|af (az aN (aa 5)<|aa 1) aF)<|aa 3) (e:=aa 2) (enc:=λr=>.mt [.int r.1,.int r.2.1,.int r.2.2]) (w:=.sq<|RND.map λr=>.mt [.int r.1,.int r.2.1,.int r.2.2]) (it:=bc<|xC<|.mt<|RND.map λr=>.mt [.int r.1,.int r.2.1,.int r.2.2]) rfl rfl ⋯ (λ_ _=>eh) λr _ A' p=>by
   split⟨_,rfl,?_⟩;have i1:=WD (h.mono p) (x+r.1)<|y+r.2.1;have i2:aN (.int x) (.int r.1) A'=some (.int<|x+r.1,A'):=rfl;have i3:aN (.int y) (.int r.2.1) A'=some (.int<|y+r.2.1,A'):=rfl;cases q:ks.contains [x+r.1,y+r.2.1] with
   |false=>
    rw[q] at i1;split .inl ⟨aad aa1,?_⟩
    erw [i2,i3,i1]
   |true=>
    rw[q] at i1;split .inr ⟨_,A',aac rfl,?_,rfl,aaE _⟩
    erw [i2,i3,i1]
  have e:(RND.filterMap λr=>if ks.contains [x+r.1,y+r.2.1]=true then some (D.int r.2.2) else none)=(gI ks x y).map .int:=by
   unfold gI;rw[agx];congr 1
   funext r
   split<;>rfl
  rwa[e] at this
 have s1:h1 (lh λns=>some<|.int ns.sum) [.ref n] A1=some (.int (gI ks x y).sum,A1):=by simp[c4,vp (f:=jZ) (g:=.int) λ_=>rfl]
 let⟨A2,t1,t2⟩:=JY (A:=A1) (gI ks x y).sum;by_cases h1:((STR.filterMap<|tnF (gI ks x y).sum).length:Int)=1
 .let⟨A3,u1,u2⟩:=DC (A:=A2) (gI ks x y).sum;split⟨A3,?_,(c2.trans t2).trans u2⟩;have e:Bu (uQ<|aa 3) (az Vr Vm<|rW 2) [some<|.ref m,some<|.int x,some<|.int y,some<|.B true,some<|.int (gI ks x y).sum] A2=some (.B<|rf (gI ks x y).sum,A3):=aah rfl (by
   unfold rf;rw[aaz h1]
   erw [u1])
  have e2:lx (az (eA false) (ah 1 kH<|af (aa 4) aF)<|rW 1) (Bu (uQ<|aa 3)<|az Vr Vm<|rW 2) [some<|.ref m,some<|.int x,some<|.int y,some<|.B true,some<|.int (gI ks x y).sum] A1=some (.B<|rf (gI ks x y).sum,A3):=sG (q:=true) (by erw [t1,bK<|aaz h1]) e
  erw [c1,s1,e2]
 .refine⟨A2,?_,c2.trans t2⟩;have e2:lx (az (eA false) (ah 1 kH<|af (aa 4) aF)<|rW 1) (Bu (uQ<|aa 3)<|az Vr Vm<|rW 2) [some<|.ref m,some<|.int x,some<|.int y,some<|.B true,some<|.int (gI ks x y).sum] A1=some (.B<|rf (gI ks x y).sum,A2):=sG (q:=false) (by erw [t1,bK<|aaA h1]) (by
   unfold rf;rw[aaA h1]
   rfl)
  erw [c1,s1,e2]
def LK{t:oW}{x:Int}(h1:t.2.1<=x)(h2:x<=t.2.2):rf (gI (pb t) x t.1).sum=false:=by
 have e:gI (pb t) x t.1=(if t.2.1<=x-1 then [4] else [])++(if x+1<=t.2.2 then [64] else []):=by
  unfold gI;simp only[acZ,List.filterMap_nil,LU];have z1:¬(t.1 + -1=t.1/\t.2.1<=x+0/\x+0<=t.2.2):=()
  have z2:¬(t.1 + -1=t.1/\t.2.1<=x + -1/\x + -1<=t.2.2):=()
  have z3:¬(t.1+1=t.1/\t.2.1<=x + -1/\x + -1<=t.2.2):=()
  have z4:¬(t.1+1=t.1/\t.2.1<=x+0/\x+0<=t.2.2):=()
  have z5:¬(t.1+1=t.1/\t.2.1<=x+1/\x+1<=t.2.2):=()
  have z6:¬(t.1 + -1=t.1/\t.2.1<=x+1/\x+1<=t.2.2):=()
  have z7:(t.1+0=t.1/\t.2.1<=x + -1/\x + -1<=t.2.2)↔t.2.1<=x-1:=()
  have z8:(t.1+0=t.1/\t.2.1<=x+1/\x+1<=t.2.2)↔x+1<=t.2.2:=()
  simp only[z1,z2,z3,z4,z5,z6,z7,z8,adS,ab0,adc,abZ];by_cases k1:t.2.1<=x-1<;>by_cases k2:x+1<=t.2.2<;>simp only[k1,k2,ab3,abZ]<;>rfl
 rw[e];split<;>split<;>decide +kernel
def LR{x:Int}(h:KT A m<|pb t)(h1:t.2.1<=x)(h2:x<=t.2.2):Tl rO [.ref m,.int x,.int t.1,.B true] A<|.B false:=by have:=Ro h x t.1;rwa[LK h1 h2] at this
end
open M (bh)
section
variable {A A' A2 A3:Hh}{k n m:Nat}{t:oW}
abbrev zG(t:oW)(x:Int):D:=.T [.int x,.int t.1]
def inL(t:oW)(xs:Zn):Prop:=∀x∈xs,t.2.1<=x/\x<=t.2.2
def MD{xs:Zn}(h:KT A m<|pb t)(hx:inL t xs)(hf:A[n]?=some (.L<|xs.map<|zG t)):FA h9 [.ref m,.ref n,.B true] A []:=by
 let R (o:Zd):Y.Env:=[some<|.ref m,some<|.ref n,some<|.B true,some<|.ref A.length,o]
 have p0:=aap A [B.L []];have h0:=ai p0 hf;let⟨U',A',k1,o,rfl,e1⟩:=kC (enc:=zG t) (g:=au 4) (x:=k7) (w:=.ls n) (as:=xs) (U:=R none) (A:=A++[.L []]) (λ_ U A'=>∃o,U=R o/\(A++[.L []]) <+: A') (λ_ _ _ _ _ ⟨_,_,p⟩=>fg<|ai p h0) (by
  rintro pre x post _ A1 e ⟨o,rfl,p⟩;let⟨h1,h2⟩:=hx x (by rw[e];simp);let⟨A2,g1,g2⟩:=LR (h.mono<|p0.trans p) h1 h2;split⟨_,A1,rfl,R<|some<|zG t x,A2,.inl ?_,_,rfl,p.trans g2⟩
  erw [g1]) ⟨none,rfl,aaE _⟩
 split⟨A',A.length,?_,p0.trans e1,aaq _,ai e1 aj⟩;have hl:(Wk.ls n).len (A++[.L []])=xs.length:=(bO h0).trans<|aar _
 erw [h0,hl,k1]
def Du(t:oW):Kz (.sq<|(pb t).map λk=>.T<|k.map .int) ((ZV (t.2.2-t.2.1+1).toNat).map λk:Nat=>zG t<|t.2.1+k) A:=by
 have e:(pb t).map (λk=>D.T<|k.map .int)=(ZV (t.2.2-t.2.1+1).toNat).map λk:Nat=>zG t (t.2.1+k):=by unfold pb;rw[aaP];rfl
 rw[e];show eh
def LJ(h:KT A m<|pb t)(hn:t.2.2<=t.2.1+900)(dx dy:Int):∃A' n xs,f9 [.ref m,.int dx,.int dy] A=some (.ref n,A')/\KT A' m (pb t)/\Fr m m A A'/\inL t xs/\A'[n]?=some (.L<|xs.map<|zG t):=by
 let⟨d1,d2,d3⟩:=Oj h (U:=[some<|.ref m,some<|.int dx,some<|.int dy]) (i:=0) rfl;obtain⟨A1,n,c1,c2,c3,c4⟩:Nl (jL [some (.ref m),some (.int dx),some (.int dy)] A) (A.set m (.fz (pb t))) (((ZV (t.2.2-t.2.1+1).toNat).filterMap λk:Nat=>if (pb t).contains [t.2.1+k+dx,t.1+dy]=true then none else some (t.2.1+(k:Int))).map (zG t)):=by
  rw[agx];split hG (enc:=λk:Nat=>.T [.int<|t.2.1+k,.int t.1]) d1 ?_ ?_ (λ_ _=>?_) λk hk A' p=>⟨_,rfl,?_⟩
  .show (aje _ _).length=_;rw[aar];unfold pb;rw[aar]
  .rw[acl];lia
  .exact Du t
  .have i1:=RZ (d2.mono p) (t.2.1+k+dx)<|t.1+dy;have i2:aN (.int<|t.2.1+k) (.int dx) A'=some (.int<|t.2.1+k+dx,A'):=rfl;have i3:aN (.int t.1) (.int dy) A'=some (.int<|t.1+dy,A'):=rfl;cases q:(pb t).contains [t.2.1+k+dx,t.1+dy] with
   |false=>
    rw[q] at i1;split .inr ⟨zG t<|t.2.1+k,A',rfl,?_,?_,aaE _⟩
    .erw [i2,i3,i1]
    .exact bV rfl rfl rfl
   |true=>
    rw[q] at i1;split .inl ⟨rfl,?_⟩
    erw [i2,i3,i1]
 split⟨A1,n,_,?_,d2.mono c2,d3.trans<|ip c2,?_,c4⟩
 .erw [c1]
 .intro x hx;let⟨k,hk,e⟩:=ad1.1 hx;have hk:=acd.1 hk;split at e
  .ext e
  .ext e;lia
def IZ(h:KT A m<|pb t)(hn:t.2.2<=t.2.1+900):∃A',gd [.ref m,.B true] A=some (.ref A.length,A')/\KT A' m (pb t)/\Fr m m A A'/\A'[A.length]?=some (.L []):=by
 let R (o1 o2:Zd):Y.Env:=[some<|.ref m,some<|.B true,some<|.ref A.length,o1,o2]
 have p0:=aap A [B.L []];have hm:m≠A.length:=by rintro rfl;unfold KT at h;rw[acQ<|aaq _] at h;ext h
 let⟨U',A',k1,o1,o2,rfl,e1,e2,e3⟩:=kC (enc:=λs:Int×Int=>.mt [.int s.1,.int s.2]) (g:=kZ 3 4) (x:=jI) (w:=.sq [.mt [.int 0,.int<|-1],.mt [.int<|-1,.int 0],.mt [.int 0,.int 1],.mt [.int 1,.int 0]]) (as:=[(0,-1),(-1,0),(0,1),(1,0)]) (U:=R none none) (A:=A++[.L []]) (λ_ U A'=>∃o1 o2,U=R o1 o2/\KT A' m (pb t)/\Fr m m (A++[.L []]) A'/\A'[A.length]?=some (.L [])) (λ_ _ _ _ _ _=>eh) (by
  rintro pre s post _ A1 e ⟨o1,o2,rfl,b1,b2,b3⟩;let⟨A2,n,xs,f1,f2,f3,f4,f5⟩:=LJ b1 hn s.1 s.2;let⟨A3,l,g1,g2,g3,g4⟩:=MD f2 f4 f5;have b4:=ai g2<|f3 _ _ (aaI hm) (aaI hm) b3;split⟨_,A1,rfl,R (some<|.int s.1)<|some<|.int s.2,A3,.inl ?_,_,_,rfl,f2.mono g2,b2.trans<|f3.trans<|ip g2,b4⟩;have x1:=lQ b4 g4 (aaL _)<|AS b4
  erw [cI b3,f1,g1,x1]) ⟨none,none,rfl,h.mono p0,ip<|aaE _,aj⟩
 have w1:bc (xC<|.mt [.mt [.int 0,.int<|-1],.mt [.int<|-1,.int 0],.mt [.int 0,.int 1],.mt [.int 1,.int 0]]) (R none none) (A++[.L []])=some (.sq [.mt [.int 0,.int<|-1],.mt [.int<|-1,.int 0],.mt [.int 0,.int 1],.mt [.int 1,.int 0]],A++[.L []]):=rfl;show⟨A',aU rfl<|bG (d9 rfl rfl)<|cy (jA w1 rfl k1)<|ay rfl,e1,(ip p0).trans e2,e3⟩
def SY{A0:Hh}(h:A0 <+: A)(hm:A0.length<=m)(k:Fr m m A A'):A0 <+: A':=by
 rw[List.prefix_iff_getElem?];intro i hi;have e:=ai h<|ab8 hi;have hn:i≠m:=()
 show k i _ hn hn e
def KB(t:oW):Zc:=(ZV (t.2.2-t.2.1+1).toNat).map λk:Nat=>zG t<|t.2.1+k
def Gk{j:Nat}(h:Lk j<|some t)(hj:j<=200):FA eI [ax<|bo<|some t] A<|KB t:=by
 let⟨h1,h2,_⟩:=h;let⟨A1,c1,c2⟩:=gy (A:=A)<|some t;have p1:=aap A1 [B.L []];let⟨A2,n,s1,s2,s3,s4⟩:=kj (A:=A1++[.L []])<|some t;have s4:A2[n]?=some (.L [cq t]):=s4;have a2:=ai s2<|aj (A:=A1) (b:=B.L [])
 let R (a b c:Zd):Y.Env:=[some<|ax<|bo<|some t,some<|.ref A1.length,a,b,c]
 let R1:=R (some<|.int t.1) (some<|.int t.2.1)<|some<|.int t.2.2
 obtain⟨A3,l,k1,k2,k3,k4⟩:Nl (mD R1 A2) A2 (KB t):=by
  split cj (as:=ZV (t.2.2-t.2.1+1).toNat) (enc:=λk:Nat=>.int<|t.2.1+k) (h:=λk:Nat=>zG t<|t.2.1+k) (w:=.sq ((ZV (t.2.2-t.2.1+1).toNat).map λk:Nat=>.int<|t.2.1+k)) ?_ (aar _) ?_ (λ_ _=>eh) λk _ A' _=>⟨_,rfl,A',bV rfl rfl rfl,aaE _⟩
  .simp[R1,R];congr 3;lia
  .rw[acl];lia
 have a3:=ai k2 a2;have hz:(KB t).length<=1000000:=by unfold KB;rw[aar,acl];lia
 have x1:=lQ a3 k4 (by rw[abP,acR];show hz) rfl;rw[aca] at x1;have hs:=eL (i:=0) s4 rfl;have hne:A1.length≠n:=by rw[aat] at s3;have:A1.length+1<=n:=s3;lia
 have he:=eL (A:=A3.set A1.length<|.L<|KB t) (i:=1) (by rw[aav hne];show ai k2 s4) (rfl:[cq t][1]?=none);have b1:iX R1 A2=some (.nx R1,A3.set A1.length<|.L<|KB t):=by erw [cI a2,k1,x1]
 have f1:=Ei (g:=Bv 2 3 4) (U:=R none none none) hs (by rfl:Bv 2 3 4 (cq t) (R none none none) A2=some (R1,A2)) b1<|x8 (n:=0) he;split⟨A3.set A1.length<|.L<|KB t,A1.length,?_,cW ((c2.trans p1).trans<|s2.trans k2) c2.length_le,c2.length_le,cF a3⟩;have c0:cG [ax<|bo<|some t] A=some (.int<|t.2.2-t.2.1+1,A1):=c1;have g1:Ef (.int<|t.2.2-t.2.1+1) (.int 1000) A1=some (.B false,A1):=acg<|aaA ();have l1:(Wk.ls n).len A2=1:=bO s4
 erw [c0,g1,s1,s4,l1,f1]
theorem BW:∀(l acc:Zm),(acc++l).Nodup->l.foldl M.py acc=acc++l
 |[],acc,_=>#v[List.foldl_nil,abf]
 |q::l,acc,h=>by
  have hq:acc.contains q=false:=by rw[<-Bool.not_eq_true,agw];show λz=>(ae7.1 h).2.2 q z q aaJ rfl
  rw[List.foldl_cons,show M.py acc q=acc++[q] by unfold M.py;rw[hq];rfl,BW l (acc++[q])<|by rw[abY];show h,abY];rfl
def RT(t:oW):(pb t).Nodup:=ae9.2<|List.nodup_range.imp λ{a b} h z=>h (by injection z with z;lia)
def cs(a:Int):Nat->R
 |0=>[]
 |n+1=>(a,a)::cs (a+1) n
theorem Og:∀(n:Nat) (a:Int),((ZV n).map λk:Nat=>((a+k,a+k):Int×Int))=cs a n
 |0,_=>rfl
 |n+1,a=>by
  rw[List.range_succ_eq_map,aax,aaP];show (a+0,a+0)::_=(a,a)::cs (a+1) n;rw[afl,<-Og n<|a+1];congr 1;split aei λk _=>?_;show (a+((k+1:Nat):Int),a+((k+1:Nat):Int))=(a+1+k,a+1+k)
  rw[show a+((k+1:Nat):Int)=a+1+k by lia]
theorem Gp:∀(n:Nat) (a:Int),NZ (a,a) (cs (a+1) n)
 |0,_=>trivial
 |n+1,a=>⟨⟨show a<=a+1 by lia,show a<=a+1 by lia,acO _⟩,Gp n<|a+1⟩
theorem Gs:∀(n:Nat) (a:Int),kc (a,a) (cs (a+1) n)=a+n
 |0,a=>(afl a).symm
 |n+1,a=>by show kc (a+1,a+1) (cs (a+1+1) n)=_;rw[Gs n<|a+1];lia
theorem Gq:∀(n:Nat) (a:Int),(cs a n).length=n
 |0,_=>rfl
 |n+1,a=>aaF (· + 1)<|Gq n<|a+1
theorem Oh:∀(n:Nat) (a:Int),∀p∈cs a n,p.1<=p.2
 |0,_,_,h=>nomatch h
 |n+1,a,p,h=>by
  rcases aau.1 h with rfl|h
  .exact acO _
  .exact Oh n (a+1) p h
def E4(h1:t.2.1<=t.2.2)(h2:t.2.2<=t.2.1+900)(h:A[n]?=some (.L ((ZV (t.2.2-t.2.1+1).toNat).map λk:Nat=>cq (t.1,t.2.1+k,t.2.1+k)))):Tl aV [.ref n] A<|ax (bo<|some t):=by
 obtain⟨m,hm⟩:∃m:Nat,(t.2.2-t.2.1+1).toNat=m+1:=⟨(t.2.2-t.2.1).toNat,()⟩
 have e:((ZV (t.2.2-t.2.1+1).toNat).map λk:Nat=>cq (t.1,t.2.1+k,t.2.1+k))=((t.2.1,t.2.1)::cs (t.2.1+1) m).map (KE t.1):=by rw[hm,show (t.2.1,t.2.1)::cs (t.2.1+1) m=cs t.2.1 (m+1) from rfl,<-Og,aaP];rfl
 rw[e] at h;have:=wx h (Gp m _) (Oh (m+1) t.2.1) (by rw[Gq];lia);rw[Gs,show t.2.1+(m:Int)=t.2.2 by lia] at this;show this
def sD(hp:∀A n,A[n]?=some (.L ((ZV (t.2.2-t.2.1+1).toNat).map λk:Nat=>cq (t.1,t.2.1+k,t.2.1+k)))->Tl aV [.ref n] A (ax p))(h2:t.2.2<=t.2.1+900)(hc:FA eI [ax p] A<|KB t):∃A' d,kG [ax p,.B true] A=some (.T [ax p,d],A')/\A <+: A':=by
 let⟨A1,n,c1,c2,c3,c4⟩:=hc;have hz:(KB t).length<=1000:=by unfold KB;rw[aar,acl];lia
 let R0:Y.Env:=[some<|ax p,some<|.B true,none,none,none]
 have w1:bc (ah 1 eI<|af (aa 0) aF) R0 A=some (.ls n,A1):=gU (by erw [c1]) c4;obtain⟨A2,n2,d1,d2,d3,d4⟩:Nl (oU R0 A) A1 ((ZV (t.2.2-t.2.1+1).toNat).map λk:Nat=>.T [zG t (t.2.1+k),.B true]):=cj (as:=ZV (t.2.2-t.2.1+1).toNat) (enc:=λk:Nat=>zG t<|t.2.1+k) (h:=λk:Nat=>.T [zG t<|t.2.1+k,.B true]) w1 ((bO c4).trans<|aar _) (by rw[acl];lia) (λ_ p=>fg<|ai p c4) λk _ A' _=>⟨_,rfl,A',bV rfl rfl rfl,aaE _⟩
 have b1:lF [.ref n2] A2=some (.ref A2.length,A2++[.dit<|pb t]):=by have e:fv nA ((ZV (t.2.2-t.2.1+1).toNat).map λk:Nat=>.T [zG t<|t.2.1+k,.B true])=some (pb t):=iJ (f:=nA) (λk:Nat=>by simp[nA,fv]) _;simp[d4,e,BW (pb t) []<|RT t,WK (show (t.2.2-t.2.1+1).toNat<=1000000 by lia)]
 let A3:=A2++[.dit<|pb t]
 have p2:=c2.trans d2;have p3:A2 <+: A3:=aap _ _;have t3:KT A3 A2.length<|pb t:=by unfold KT;rw[aj];rfl
 let A4:=A3++[.L []]
 have p4:A3 <+: A4:=aap _ _;let⟨A5,r1,r2,r3,r4⟩:=IZ (t3.mono p4) h2;have a4:A4[A3.length]?=some (.L []):=aj;have hne:A3.length≠A2.length:=by show (A2++[_]).length≠_;rw[aat];show acm<|abo _
 have a5:=r3 _ _ hne hne a4
 let R (i:Int):Y.Env:=[some<|ax p,some<|.B true,some<|.ref A2.length,some<|.ref A3.length,some<|.int i]
 have l4:=ed a4 (j:=0) rfl;have l5:=ed a5 (j:=0) rfl;have x1:=lQ a5 r4 (aaL _)<|AS a5;have w2:fu oP oO (R<|-1) A4=some (.nx<|R 0,A5):=Kj (by erw [l4,acg<|aaz (by decide:(-1:Int)<0)]) (by erw [l4,cI a4,r1,x1])<|Br (by erw [l5,acg<|aaA (by decide:¬(0:Int)<0)]);let⟨e1,e2,e3⟩:=Oj r2 (U:=R 0) (i:=2) rfl;obtain⟨A6,n6,g1,g2,g3,g4⟩:Nl (oV (R 0) A5) (A5.set A2.length (.fz (pb t))) ((ZV (t.2.2-t.2.1+1).toNat).map λk:Nat=>cq (t.1,t.2.1+k,t.2.1+k)):=by
  split cj (as:=ZV (t.2.2-t.2.1+1).toNat) (enc:=λk:Nat=>zG t<|t.2.1+k) (h:=λk:Nat=>cq (t.1,t.2.1+k,t.2.1+k)) e1 ?_ (by rw[acl];lia) (λ_ _=>?_) λk _ A' _=>⟨_,rfl,A',bV rfl rfl rfl,aaE _⟩
  .show (aje _ _).length=_;rw[aar];unfold pb;rw[aar]
  .exact Du t
 let⟨A7,q1,q2⟩:=hp _ _ g4;split⟨A7,.ref A3.length,?_,?_⟩
 .erw [d1,b1,w2,g1,q1]
 .exact (SY (p2.trans<|p3.trans p4) p2.length_le<|r3.trans<|e3.trans<|ip<|g2.trans q2)
def Bh{j:Nat} (h:Lk j o)(hj:j<=200):∃A' d,kG [ax<|bo o,.B true] A=some (.T [ax<|bo o,d],A')/\A <+: A':=by
 cases o with
 |some t=>
  show sD (λA n=>E4 h.1 (by have:=h.2.1;lia)) (by have:=h.2.1;lia)<|Gk h hj
 |none=>
  split sD (p:=[]) (t:=(0,0,-1)) (λA n=>wy) ⋯ ?_;let⟨A1,c1,c2⟩:=gy (A:=A) none;have c1:cG [.T []] A=some (.int 0,A1):=c1;let⟨A2,n,s1,s2,s3,s4⟩:=kj (A:=A1++[.L []]) none;have s1:aO [.T []] (A1++[.L []])=some (.ref n,A2):=s1;have g1:Ef (.int 0) (.int 1000) A1=some (.B false,A1):=rfl;have f1:=x8 (n:=0) (U:=[some<|.T [],some<|.ref A1.length,none,none,none]) (g:=Bv 2 3 4) (x:=iX)<|eL (i:=0) s4 rfl;have hl:(Wk.ls n).len A2=0:=bO s4;split⟨A2,A1.length,?_,c2.trans<|(aap _ _).trans s2,c2.length_le,ai s2 aj⟩;show eI [.T []] A=_
  erw [c1,g1,s1,s4,hl,f1]
end
open M (bh)
section
variable {A A2 A3:Hh}{δ p d k n:Nat}{ps:cY}{ds:eN}
def wd(h:Go o)(hk:A[k]?=some (.L [ax<|bo o])):Tl fU [.str<|T9 ph,.ref k] A<|ax (bo o):=by
 let⟨A1,f1,f2⟩:=Eh (A:=A) h;split⟨A1,?_,f2⟩
 erw [bi A pQ ⋯,bi A nh ⋯,aS A rH ⋯,bv hk rfl,f1]
def we{j:Nat} (h:Lk j o)(hj:j<=200)(hk:A[k]?=some (.L [ax<|bo o])):Tl fU [.str<|T9 pj,.ref k] A<|ax (bo o):=by
 let⟨A1,z,f1,f2⟩:=Bh (A:=A) h hj;have f1:n8 [ax<|bo o] A=some (.T [ax<|bo o,z],A1):=f1;have s1:bI (.T [ax<|bo o,z]) (.int 0) A1=some (ax<|bo o,A1):=cD rfl;split⟨A1,?_,f2⟩
 erw [bi A pQ ⋯,aS A nh ⋯,bv hk rfl,f1,s1]
def NC(h:Dsk A δ p d ps ds)(hp:ps.length<=1000)(hd:ds.length<=1000){nm on w:LN}(hn:aJ nm)(ho:aJ on) (hv:val ps on=some (bo o)){j:Nat}(hk:Lk j o)(hj:j<=200)(hw:w=pj\/w=ph) :
  ∃A',aA [.ref δ,.str<|T9<|jn [32] [w,nm,on]] A=some (.str "ok",A')/\Fr p d A A'/\Dsk A' δ p d (put ps nm<|bo o) (ds++[(nm,val ps nm)]):=by
 have hln:=hn.1;have hlo:=ho.1;obtain⟨hc,hwl,hwd⟩:lz w [bL,cw]/\w.length<=7/\Wd w:=by
  rcases hw with rfl|rfl
  .exact⟨xz,⋯,⋯,⋯,⋯,⋯⟩
  .exact⟨xx,⋯,⋯,⋯,⋯,⋯⟩
 split nH h hp hd hn hwd [((cw,on),.pic<|bo o)] hc (ks:=[T9 bL,T9 cw]) hc.1 LW (fm ⟨.inl rfl,ho,hv⟩ zd) rfl (fm hn zd) ?_ λA2 ys b=>?_
 .simp only[jn,aat,aay,abP,aax,abq];lia
 .let⟨y1,t,rfl,g1,b⟩:=b.un;cases b.nl;ext g1;rcases hw with rfl|rfl
  .exact we hk hj aj
  .exact wd hk.go aj
def ic{i:Int}(h:uU i):h1 mP [.int i] A=some (.str<|T9<|bu i,A):=by have e:=ou h;have e2:=kL i;show (if i.natAbs.log2<1920 then some (D.str<|Str.ofString<|toString i,A) else none)=_;rw[aac e,e2]
def CV(h:Dsk A δ p d ps ds){on w:LN}(ho:aJ on){q:tL}(hv:val ps on=some q)(hw:w=wS\/w=p7) (tl:∀A2 n,A2[n]?=some (.L [ax q])->Tl lZ [.str<|T9 w,.ref n] A2 x) :
  ∃A',aA [.ref δ,.str<|T9<|jn [32] [w,on]] A=some (x,A')/\A <+: A':=by
 have hlo:=ho.1;obtain⟨hc,hwl,hwd⟩:lz w [cw]/\w.length<=7/\Wd w:=by
  rcases hw with rfl|rfl
  .exact⟨DQ,⋯,⋯,⋯,⋯,⋯⟩
  .exact⟨zI,⋯,⋯,⋯,⋯,⋯⟩
 have lens:(jn [32] [w,on]).length<=900000:=by simp only[jn,aat,aay,abP];lia
 let⟨A2,k,n,ys,p2,a5,b3,b4,go⟩:=sr h [((cw,on),.pic q)] hc (fm ⟨.inl rfl,ho,hv⟩ zd) rfl zd lens;let⟨y1,t,rfl,g1,b4⟩:=b4.un;cases b4.nl;ext g1;let⟨A3,l1,l2⟩:=tl A2 n b3;show⟨A3,go _ _<|Ku (ks:=[T9 cw]) hwd hc.1 Hg l1,p2.trans l2⟩
def Ff(h:Dsk A δ p d ps ds){on:LN}(ho:aJ on) (hv:val ps on=some (bo o)){i:Int}(hi:(o.elim 0 λt=>t.2.2-t.2.1+1)=i)(hN:uU i) :
  ∃A',aA [.ref δ,.str<|T9<|jn [32] [wS,on]] A=some (.str<|T9<|bu i,A')/\A <+: A':=CV h ho hv (.inl rfl) λA2 n b3=>by
 let⟨A3,c1,c2⟩:=gy (A:=A2) o;rw[hi] at c1;split⟨A3,?_,c2⟩
 erw [bi A2 rJ ⋯,aS A2 uh ⋯,bv b3 rfl,c1,ic hN]
def ss(h:Dsk A δ p d ps ds){on:LN}(ho:aJ on) (hv:val ps on=some (bo o)){i:Int}(hi:(o.elim 0 λ_=>1)=i)(hN:uU i) :
  ∃A',aA [.ref δ,.str<|T9<|jn [32] [p7,on]] A=some (.str<|T9<|bu i,A')/\A <+: A':=CV h ho hv (.inr rfl) λA2 n b3=>by
 let⟨l,⟨A3,m,c1,c2,_,c4⟩,e⟩:=E6 (A:=A2) o;split⟨A3,?_,c2⟩
 erw [bi A2 rJ ⋯,bi A2 uh ⋯,aS A2 Ar ⋯,bv b3 rfl,c1,ed c4<|e.trans hi,ic hN]
end
end P
namespace Y
open L2
section
variable {U U1:Env}{A A1 A2:Hh}{r s k:XR}{x:XS}{a o:XE}{as:XA}{c:XT}{q:Bool}{z:Option<|Str×Hh}{p:Str×Hh}{κ:HR}{l:Zc}{d:D}{j n i f:Nat}{g:XG}{w:Wk}{Ns:Zl}{mn:Str}{e:XE}{I:XI}{js:List<|Option Nat}
def gf(h:r U A=none)(hx:x U A=some (.nx U1,A1))(hk:k U1 A1=z):cE r x k U A=z:=by unfold cE;rw[h];show bd hx hk
def tH(h:r U A=some p):cE r x k U A=some p:=by unfold cE;rw[h];rfl
def aan(h:r U A=none)(hx:x U A=some (.rt d,A1)):cE r x k U A=none:=by unfold cE;rw[h];show bd hx rfl
def Qd(h:r U A=none)(hk:∀U A,k U A=none):cE r x k U A=none:=by
 unfold cE;rw[h];show (x U A).bind _=none;cases x U A with
 |none=>rfl
 |some p=>
  show (p.1.isNx.bind λU1=>k U1 p.2)=none;cases p.1.isNx with
  |none=>rfl
  |some U1=>show hk _ _
def yF(h:r U A=some p):dj r s U A=some p:=by unfold dj;rw[h];rfl
def sk(h:r U A=none)(k:s U A=z):dj r s U A=z:=by unfold dj;rw[h];show k
def ri(h:c U A=some (q,A1))(k:(if q=true then r U A1 else s U A1)=z):k6 c r s U A=z:=bd h k
def rc(h:as U A=some (l,A1))(hl:l.length=j)(k:κ l A1=z):iz j κ as U A=z:=bd h<|(aac hl).trans k
def rm{p:Str×List (Str×D)}(ho:o U A=some (d,A1))(hi:pG A1 d=some p)(hn:p.1∈Ns/\p.2.lookup mn=none)(h:as U A1=some (l,A2))(hl:(d::l).length=j)(k:κ (d::l) A2=z):gY Ns mn j κ o as U A=z:=bd ho (by
 show (pG A1 d).bind _=_;rw[hi]
 show (aac hn).trans<|bd h<|(aac hl).trans k)
def rt_(h:a U A=some (d,A1))(k:r U A1=z):mw a r U A=z:=bd h k
def rb{kd:Hh->D->Bool}(h:a U A=some (d,A1))(hk:kd A1 d=true)(k:r U A1=z):Kt kd a r U A=z:=bd h<|(aac hk).trans k
def rw_(h:a U A=some (d,A1)):kO N a U A=some (N,A1):=by unfold kO;rw[h];rfl
def abB(hi:I U A=some (w,A1))(hw:w.stp 0 A1=some (some d))(hg:g d U A1=some (U1,A2))(h:r U1 A2=some p):uS I g r x U A=some p:=bd hi (by
 show x9 g r x w (w.len A1+1) 0 U A1=_;unfold x9;rw[hw]
 show bd hg<|by show (r U1 A2).or _=_;rw[h];rfl)
def QL(hw:w.stp i A=some (some d))(hg:g d U A=some (U1,A1))(h:r U1 A1=some p):iI g cb r e w n U (f+1) i A=some p:=by unfold iI;rw[hw];split bd hg<|bd rfl ?_;show (r U1 A1).or _=_;rw[h];rfl
def aa6(hw:w.stp i A=some (some d))(hg:g d U A=some (U1,A1))(h:r U1 A1=none){y:D}(he:e U1 A1=some (y,A2)){t:Zc}(ht:A2[n]?=some (.L t))(hz:t.length<=1000000)(k:iI g cb r e w n U f (i+1) (A2.set n<|.L<|t++[y])=z):iI g cb r e w n U (f+1) i A=z:=by unfold iI;rw[hw];split bd hg<|bd rfl ?_;show (r U1 A1).or _=_;rw[h];split bd he<|bd (A1:=A2.set n<|.L<|t++[y]) (x:=.N) ?_ k;show ((A2[n]?.bind B.ls).bind _)=_;rw[ht];show ah3 _ (if _ then _ else _)=_;rw[aac<|P.PK hz];rfl
def aa5(hw:w.stp i A=some none):iI g c r e w n U (f+1) i A=none:=by unfold iI;rw[hw];rfl
def xc{v:Option<|Str×Hh}(hi:I U A=some (w,A1))(hl:w.len A1=n)(k:iI g c r e w A1.length (iq js U) (n+1) 0 (A1++[.L []])=v):mq js I g c r e U A=v:=by subst hl;show bd hi k
theorem Ov{s:XR}{o:Out×Hh}:∀(f i:Nat) (U:Env) (A:Hh),ja g (gX c ac bx) w f i U A=some o->x9 g (k6 c s ac) (gX c ac bx) w f i U A=none
 |0,_,_,_,_=>rfl
 |f+1,i,U,A,h=>by
  unfold ja at h;unfold x9;cases hs:w.stp i A with
  |none=>rfl
  |some x=>
   rw[hs] at h;cases x with
   |none=>rfl
   |some x=>
    let⟨p,q1,h⟩:=bnd h;let⟨o1,q2,h⟩:=bnd h;let⟨q,q3,q2⟩:=bnd q2;rcases bf q2 with ⟨_,q2⟩|⟨hq,q2⟩
    .ext q2
    .ext q2;have e1:k6 c s ac p.1 p.2=none:=ri q3<|aad hq;have e2:gX c ac bx p.1 p.2=some (.nx p.1,q.2):=bQ q3<|aad hq;show (g x U A).bind _=none;rw[q1];show (k6 c s ac p.1 p.2).or ((gX c ac bx p.1 p.2).bind _)=none;rw[e1,e2];show Ov f (i+1) _ _ h
end
end Y
namespace P
open L2 Y PySem.NumText Rw
open M (bh)
section
variable {A:Hh}{p:Nat}
def MB{w:LN}{ws:List LN}(hw:32∉w)(hz:(jn [32] (w::ws)).length<=900000):ke [.str<|T9<|jn [32] (w::ws),.str<|T9 [32]] A=some (.T [.str<|T9 w,.str (ZZ (T9<|jn [32] (w::ws))<|T9 [32]).2.1,.str (ZZ (T9<|jn [32] (w::ws))<|T9 [32]).2.2],A):=by have hz:(jn [32] (w::ws)).length<=ZF:=f7 ();show (if (T9 [32]).length≠0/\(T9<|jn [32] (w::ws)).length<=ZF then _ else none)=_;rw[aac ⟨⋯,hz⟩,r8 hw]
def Ba{x:Str}:qA [.str x,.ty "str"] A=some (.B true,A):=rfl
def yZ{w:LN}{ks:Zl}{ws:List LN}(hw:32∉w)(hT:Zp.lookup (T9 w)=some (.mt<|ks.map .str))(hl:ks.length=ws.length)(hk:ks.length<=3)(hn:∀kp∈ks.zip ws,lS kp.1=true\/aJ kp.2)
  (h1:ks.any lS=true->∀p∈ws.dropLast,32∉p) (h2:ks.any lS=false->∀p∈ws,32∉p) (Zz:(jn [32] (w::ws)).length<=900000) :
  eK [.str<|T9<|jn [32] (w::ws)] A=none:=by
 let⟨A1,k1,A',v3,v4,a1,_,_,_,m1,c2,i3,hl2,g1,_⟩:=yY hw hT hl hk hn h1 h2 Zz (A:=A);have c1:aw (ju true Zp<|aa 1) (wE w ws none none none) A=some (false,A):=av<|Ve rfl hT;split (aac rfl:eK [.str<|T9<|jn [32] (w::ws)] A=_).trans ?_;split gf (U1:=[some<|.str<|T9<|jn [32] (w::ws),none,none,none,none]) (A1:=A) rfl rfl ?_;split gf (U1:=wE w ws none none none) (A1:=A) rfl (d8 (ao (eM rfl rfl (aB<|b7 iM) m1) rfl<|cD fY) rfl) ?_;split gf (A1:=A) (ri c1 rfl) (bQ c1 rfl) ?_;split gf (U1:=wE w ws (some<|.ref k1) none none) (A1:=A1) rfl (d8 (al (ag rfl<|aB<|Bn rfl hT) rfl a1) rfl) ?_;split gf (A1:=A1) (ri c2 rfl) (bQ c2 rfl) ?_;show Qd (bd i3 (by
  dsimp only;rw[hl2]
  show Ov _ _ _ _ g1)) λ_ _=>rfl
end
open M (bh)
section
variable {A A1 A2 A3:Hh}{δ p d k n:Nat}{ps:cY}{ds:eN}{N:Str}
def iQ{Y0:XR}{xs:Zc}{j m:Nat}{z:Option<|Str×Hh}(hl:xs.length=j)(h:Y0 (xs.map some++agJ m none) A=z):(if xs.length=j then Y0 (xs.map some++agJ m none) A else none)=z:=(aac hl).trans h
def Ez(w:LN):bZ [.ref δ,.str<|T9 bL,.str<|T9 w] A=none:=by have c:aw (az (eA false) (aa 1)<|xC<|.str "NEW") [some<|.ref δ,some<|.str<|T9 bL,some<|.str<|T9 w] A=some (true,A):=av<|bJ<|aS A hX ⋯;show iQ (m:=0) rfl<|aan (ri c rfl)<|bQ c<|dh rfl<|ay rfl
def jk(h:Dsk A δ p d ps ds) (hv:val ps w=none):bZ [.ref δ,.str<|T9 cw,.str<|T9 w] A=some (ZC "NoName",A):=by
 let R:Y.Env:=[some<|.ref δ,some<|.str<|T9 cw,some<|.str<|T9 w]
 have c1:aw (az (eA false) (aa 1)<|xC<|.str "NEW") R A=some (false,A):=av<|ao rfl rfl<|bi A hX ⋯;have c2:aw (az (eA false) (aa 1)<|xC<|.str "TEXT") R A=some (false,A):=av<|ao rfl rfl<|bi A j9 ⋯;have c3:aw (az (eA false) (aa 1)<|xC<|.str "FORM") R A=some (false,A):=av<|ao rfl rfl<|bi A j8 ⋯;have v1:val (ps.map An) (.inr<|T9 w)=none:=by rw[Bq,hv];rfl
 have e1:=h.atp;have s1:im true (.str<|T9 w) (.ref p) A=some (.B true,A):=by simp[e1,v1]
 have c4:aw (az (im true) (aa 2)<|gW ["Desk"] "pictures" (aa 0)) R A=some (true,A):=av<|ao rfl (Dq rfl (c9 h.at0) (adk _) kE) s1;show iQ (m:=0) rfl<|gf (ri c1 rfl) (bQ c1 rfl)<|gf (ri c2 rfl) (bQ c2 rfl)<|gf (ri c3 rfl) (bQ c3 rfl)<|tH<|ri c4<|rw_ rfl
def Az(h:sh [.str<|T9 w] A=some (N,A1)):bZ [.ref δ,.str<|T9 j6,.str<|T9 w] A=some (N,A1):=by
 let R:Y.Env:=[some<|.ref δ,some<|.str<|T9 j6,some<|.str<|T9 w]
 have c1:aw (az (eA false) (aa 1)<|xC<|.str "NEW") R A=some (false,A):=av<|ao rfl rfl<|bi A hX ⋯;have c2:aw (az (eA false) (aa 1)<|xC<|.str "TEXT") R A=some (true,A):=av<|bJ<|aS A j9 ⋯;show iQ (m:=0) rfl<|gf (ri c1 rfl) (bQ c1 rfl)<|tH<|ri c2<|yF<|yF<|rc (aB rfl) rfl h
abbrev RC:XR:=mq [none,none,some 0] (nQ<|af (bg Zp<|aa 3) Ky) (kZ 0 1) cb (gY ["Desk"] "meant" 3 bZ (aa 2) NY)<|bM ["Desk"] "meant" 3 cA (aa 2) NY
structure Row(w:LN)(ks:Zl)(ws:List LN):Prop where
 hw:32∉w
 hT:Zp.lookup (T9 w)=some (.mt<|ks.map .str)
 hl:ks.length=ws.length
 hk:ks.length<=3
 hn:∀kp∈ks.zip ws,lS kp.1=true\/aJ kp.2
 h1:ks.any lS=true->∀p∈ws.dropLast,32∉p
 h2:ks.any lS=false->∀p∈ws,32∉p
 hz:(jn [32] (w::ws)).length<=900000
def Bw{U:Y.Env} {ks:Zl} (r:Row w ks ws)(h2:U[2]?=some (some<|.ref k))(h3:U[3]?=some (some<|.str<|T9 w))(hk:A[k]?=some (.L<|(w::ws).map cu)):nQ (af (bg Zp<|aa 3) Ky) U A=some (.zp (ks.map .str) A.length<|ws.map T9,A++[.L<|ws.map cu]):=by have hT:=r.hT;have e5:(HT.dM (ws.length+1) 0<|some 1)=1:=sl1 _;have e6:=pN ws;have e9:(ws.map cu).take ws.length=ws.map cu:=acs (by rw[aar];show aaq _);simp[h2,h3,hT,hk,e5,HT.nG,e9,e6]
def PD{ks:Zl} (r:Row w ks ws)(K:∀A2 k,A <+: A2->A2[k]?=some (.L<|(w::ws).map cu)->∀s,∃A3,RC [some<|.ref δ,s,some<|.ref k,some<|.str<|T9 w,none] A2=some (N,A3)/\A <+: A3):∃A',aZ [.ref δ,.str<|T9<|jn [32] (w::ws)] A=some (N,A')/\A <+: A':=by let⟨A1,k,a1,a2,a3,a4⟩:=kA (A:=A) r.hw r.hT r.hl r.hk r.hn r.h1 r.h2 r.hz;have n1:=yZ (A:=A) r.hw r.hT r.hl r.hk r.hn r.h1 r.h2 r.hz;let⟨A3,k1,k2⟩:=K A1 k a2 a4<|some<|.str<|T9<|jn [32] (w::ws);show⟨A3,iQ (m:=3) rfl<|gf (sk (sk (rc (aB rfl) rfl n1) rfl) rfl) (d8 (al (aB rfl) rfl a1) rfl)<|gf rfl (d8 (bJ<|bv a4<|fY (a:=cu w) (t:=ws.map cu)) rfl)<|tH k1,k2⟩
def AZ{ks:Zl}{ws:List LN}(hl:ks.length=ws.length)(ha:A[n]?=some (.L<|ws.map cu)){i:Nat}{kp:Str×LN}(h:(ks.zip ws)[i]?=some kp):(Wk.zp (ks.map .str) n<|ws.map T9).stp i A=some (some<|Vl kp):=by have:=Bs hl ha i (by have:=(aa0.1 h).1;rw[aar];lia);rw[this,aaX,h];rfl
def HA{ks:Zl}{m:Nat} (h:ks.length=m):(Wk.zp (ks.map .str) n ws).len A=m:=(aar _).trans h
def TL(h:∀A',A <+: A'->Dsk A' δ p d ps ds){w1:LN}{k1:Str}{ks:Zl}{ws:List LN}(r:Row w (k1::ks) (w1::ws))(q:∀A',A <+: A'->∃A3,bZ [.ref δ,.str k1,.str<|T9 w1] A'=some (N,A3)/\A' <+: A3):∃A',aZ [.ref δ,.str<|T9<|jn [32] (w::w1::ws)] A=some (N,A')/\A <+: A':=PD r λA2 k p2 hk s=>by have p3:=p2.trans<|aap A2 [B.L<|(w1::ws).map cu];have p4:=p3.trans<|aap _ [B.L []];let⟨A3,q1,q2⟩:=q _ p4;have h4:=h _ p4;split⟨A3,xc (Bw r rfl rfl hk) (HA r.hl)<|QL (AZ r.hl (ai (aap _ _) aj) (i:=0) (kp:=(k1,w1)) rfl) rfl<|rm rfl (c9 h4.at0) (bN kb) (ag rfl<|aB rfl) rfl q1,p4.trans q2⟩
def wA(h:∀A',A <+: A'->Dsk A' δ p d ps ds){nm w1:LN}{k1:Str}{ks:Zl}{ws:List LN}(r:Row w (T9 bL::k1::ks) (nm::w1::ws))(hn:aJ nm)(q:∀A',A <+: A'->∃A3,bZ [.ref δ,.str k1,.str<|T9 w1] A'=some (N,A3)/\A' <+: A3):∃A',aZ [.ref δ,.str<|T9<|jn [32] (w::nm::w1::ws)] A=some (N,A')/\A <+: A':=PD r λA2 k p2 hk s=>by
 let A3:=A2++[B.L<|(nm::w1::ws).map cu]
 have p3:A <+: A3:=p2.trans<|aap A2 _;have p4:=p3.trans<|aap A3 [B.L []];have h4:=h _ p4;let⟨y,A4,m1,m2,m3⟩:=yi (a:=((bL,nm),.new)) h4 ⟨rfl,hn⟩;ext m3;have a4:=ai m2<|aj (A:=A3) (b:=.L []);have p5:A3 <+: A4.set A3.length (.L [.str<|T9 nm]):=cW ((aap _ _).trans m2)<|aaq _;let⟨A5,q1,q2⟩:=q _<|p3.trans p5;have h5:=h _<|p3.trans p5;have b3:A3[A2.length]?=some (.L<|(nm::w1::ws).map cu):=aj;show⟨A5,xc (Bw r rfl rfl hk) (HA r.hl)<|aa6 (AZ r.hl (ai (aap _ _) b3) (i:=0) (kp:=(T9 bL,nm)) rfl) rfl (rm rfl (c9 h4.at0) (bN kb) (ag rfl<|aB rfl) rfl<|Ez nm) (cP rfl (c9 h4.at0) (bN kb) (ag rfl<|aB rfl) rfl m1) a4 (aaL _)<|QL (AZ r.hl (ai p5 b3) (i:=1) (kp:=(k1,w1)) rfl) rfl<|rm rfl (c9 h5.at0) (bN kb) (ag rfl<|aB rfl) rfl q1,(p3.trans p5).trans q2⟩
def tS(h:Dsk A δ p d ps []):∃A',aZ [.ref δ,.str<|T9 jB] A=some (ZC "NoBack",A')/\A <+: A':=by
 have r:Row jB [] []:=⟨qD.2,qD.1,rfl,aaL _,λ_ h=>(nomatch h),λ_ _ h=>(nomatch h),λ_ _ h=>(nomatch h),⋯⟩
 let⟨A1,k,a1,a2,a3,a4⟩:=kA (A:=A) r.hw r.hT r.hl r.hk r.hn r.h1 r.h2 r.hz;have n1:=yZ (A:=A) r.hw r.hT r.hl r.hk r.hn r.h1 r.h2 r.hz;have a1:fk [.str<|T9 jB] A=some (.ref k,A1):=a1;have n1:eK [.str<|T9 jB] A=none:=n1
 let A2:=A1++[B.L []]++[B.L []]
 have p2:A1 <+: A2:=(aap _ _).trans<|aap _ _
 let R (o:Zd):Y.Env:=[some<|.ref δ,some<|.str<|T9 jB,some<|.ref k,some<|.str<|T9 jB,o]
 have z1:nQ (af (bg Zp<|aa 3) Ky) (R none) A1=some (.zp [] A1.length [],A1++[.L []]):=Bw r rfl rfl a4;have st (A':Hh) (h:A'[A1.length]?=some (.L [])):(Wk.zp [] A1.length []).stp 0 A'=some none:=by show (if _ then _ else _)=_;rw[h];rfl
 have b1:A2[A1.length]?=some (.L []):=ai (aap _ _) aj;have c1:RC (R none) A1=none:=xc z1 rfl<|aa5<|st _ b1;have c2:jN (R none) A1=some (.ref (A1++[B.L []]).length,A2):=qH z1 rfl<|st _ b1;have h2:Dsk A2 δ p d ps []:=h.mono<|a2.trans p2
 let R2:=R<|some<|.ref (A1++[B.L []]).length
 have d1:aw (az (eA false) (aa 3)<|xC<|.str "names") R2 A2=some (false,A2):=av<|ao rfl rfl<|bi A2 eO ⋯;have d2:aw (az (eA false) (aa 3)<|xC<|.str "back") R2 A2=some (true,A2):=av<|bJ<|aS A2 fK ⋯;have f1:eA false (.ref d) (.ref A2.length) (A2++[B.L []])=some (.B true,A2++[B.L []]):=by
  have a1:Fs (A2++[B.L []]) (.ref d)=some (.L []):=by unfold Fs;have:=ai (aap A2 [B.L []]) h2.atd;simp[yP,toPs,this]
  have a2:Fs (A2++[B.L []]) (.ref A2.length)=some (.L []):=by unfold Fs;simp[yP,toPs]
  unfold eA;rw[a1,a2];rfl
 have t0:aw (az (eA false) (gW ["Desk"] "deeds" (aa 0))<|ej aF) [some<|.ref δ,none] A2=some (true,A2++[B.L []]):=av<|ao (Dq rfl (c9 h2.at0) (adk _) rL) (d9 rfl rfl) f1;have t1:dX [.ref δ] A2=some (ZC "NoBack",A2++[B.L []]):=iQ (m:=1) rfl<|tH<|ri t0<|rw_ rfl;show⟨_,iQ (m:=3) rfl<|gf (sk (sk (rc (aB rfl) rfl n1) rfl) rfl) (d8 (al (aB rfl) rfl a1) rfl)<|gf rfl (d8 (bJ<|bv a4<|fY (a:=cu jB) (t:=[])) rfl)<|gf c1 (d8 c2 rfl)<|gf (ri d1 rfl) (bQ d1 rfl)<|tH<|ri d2<|yF<|yF<|rm rfl (c9 h2.at0) (bN Cn) rfl rfl t1,(a2.trans p2).trans<|aap _ _⟩
end
open M (bh)
section
variable {A A1 A2 A3:Hh}{p d k n:Nat}{ds:eN}
abbrev t00:LN:=[48,48]
abbrev t0:LN:=[48,58,32,48,48]
def aag{c:XT}{a b:XE}{U:Y.Env}{q:Bool}{r:Option<|D×Hh}(h:c U A=some (q,A1))(k:(if q=true then a U A1 else b U A1)=r):Kp c a b U A=r:=bd h k
def Mo:bu 0=[48]:=by decide +kernel
def aak:Tl aX [.str<|T9 t00] A<|.B false:=by
 have hv:ahO (T9 t00)=some 0:=by
  have d:AllDigits t00:=λc hc=>by simp at hc;lia
  have:=intText_digits (x:=T9 t00) d ⋯ ⋯;show this
 obtain⟨A1,k1,a1,a2,a3,a4⟩:Nl (dR [some (.str (T9 t00)),some (.str (T9 t00))] A) A (t00.map λc=>D.B (LG c)):=by split cj (enc:=λc=>D.str<|T9 [c]) (w:=.sq<|t00.map λc=>D.str<|T9 [c]) (by simp[DP]) (by simp) ⋯ (λ_ _=>eh) λc _ A6 _=>?_;have:=OL c;show⟨_,rfl,A6,by simp[this],aaE _⟩
 split⟨A1,?_,a2⟩;have b1:jc [.str<|T9 t00,.str<|Str.ofString "-"] A=some (.B false,A):=by have:=sA (l:=t00) (λr e=>by ext e);show some (D.B _,A)=_;rw[this]
 have e1:eA false (.str<|T9 t00) (.str<|Str.ofString "") A=some (.B false,A):=by rw[pO (Vx ⋯) okE,zV,aaA λz=>by cases kq z];rfl
 have ht:ZC (toString (0:Int))=T9 [48]:=(kL 0).trans<|#v[Mo];have e4:eA false (.str<|T9 [48]) (.str<|T9 t00) A1=some (.B false,A1):=bi A1 rfl ⋯;have i1:h1 F1 [.str<|T9 t00] A1=some (.int 0,A1):=by simp[hv]
 have i2:h1 mP [.int 0] A1=some (.str<|T9 [48],A1):=by show (if (0:Int).natAbs.log2<1920 then some (D.str<|Str.ofString<|toString (0:Int),A1) else none)=_;rw[aac ⋯,ht]
 have i3:h1 (pz λbs=>.B<|bs.all id) [.ref k1] A1=some (.B true,A1):=by simp[a4,fv,LG]
 have c1:Kp (cR<|dQ lU jc (aa 0)<|af (xC<|.str "-") aF) (tF (aa 0) (dP<|rW 1) wV) (aa 0) [some<|.str<|T9 t00,none] A=some (.str<|T9 t00,A):=aag (fi<|eM rfl rfl (aB rfl) b1) rfl;have g1:Ef (.int 2) (.int 60) A=some (.B false,A):=rfl;have l1:h1 b8 [.str<|T9 t00] A=some (.int 2,A):=by simp[f7]
 let R:Y.Env:=[some<|.str<|T9 t00,some<|.str<|T9 t00]
 have c2:tE (aw<|az (eA false) (aa 1)<|xC<|.str "") (aw<|az Ef (cc (h1 b8)<|af (aa 1) aF)<|rW 60) R A=some (false,A):=oJ (av<|bJ e1)<|fV rfl<|av<|ao (bn (aB rfl) l1) rfl g1;have c3:et (cR<|cc (h1<|pz λbs=>.B<|bs.all id)<|af dR aF) R A=some (false,A1):=fh<|fi<|bn (aB a1) i3;show aU rfl<|bG c1<|eR c2<|eR c3<|ay<|ao (bn (aB<|bn (aB rfl) i1) i2) rfl e4
def Ym:∃A',cX [.str<|T9 t00] A=some (ZC "NoText",A')/\A <+: A':=by let⟨A1,a1,a2⟩:=aak (A:=A);show⟨A1,iQ (m:=0) rfl<|tH<|ri (oJ (fh<|fi<|bn (ag rfl<|aB rfl) Ba)<|fV rfl<|fh<|fi<|al (aB rfl) rfl a1)<|dh rfl<|rw_ rfl,a2⟩
def abE:cX [.str<|T9 [48]] A=none:=by let⟨A1,a1,a2⟩:=(eY (n:=0) ⋯).2.1 A;rw[Mo] at a1;have c:tE (et<|cR<|cc qA<|af (aa 0)<|af (xC<|.ty "str") aF) (et<|cR<|ah 1 aX<|af (aa 0) aF) [some<|.str<|T9 [48]] A=some (false,A1):=oJ (fh<|fi<|bn (ag rfl<|aB rfl) Ba)<|fV rfl<|fh<|fi<|al (aB rfl) rfl a1;show iQ (m:=0) rfl<|Qd (ri c<|fV rfl rfl) λ_ _=>rfl
def Yk:∃A',fc [.int 0,.str<|T9 t00] A=some (ZC "NoText",A')/\A <+: A':=by have d:=gQ (A:=A) (a:=t00) (y:=[46,46]) ⋯ ⋯;have sp:agM (T9 t00) (T9 [46,46])=[T9 t00]:=gR 46 [46] ⋯ [t00] ⋯ ⋯;rw[sp] at d;let⟨A1,a1,a2⟩:=Ym (A:=A++[.L [.str<|T9 t00]]);have s1:bI (.ref A.length) (.int 0) (A++[.L [.str<|T9 t00]])=some (.str<|T9 t00,A++[.L [.str<|T9 t00]]):=bv aj rfl;show⟨A1,iQ (m:=1) rfl<|gf rfl (d8 (eM rfl rfl (aB<|b7 rD) d) rfl)<|sk rfl<|sk rfl<|rt_ rfl<|yF<|rc (aB<|bJ s1) rfl a1,(aap _ _).trans a2⟩
def Yl:∃A',dY [.str<|T9 t0] A=some (ZC "NoText",A')/\A <+: A':=by
 let A0:=A++[B.L []]
 have d:=gQ (A:=A0) (a:=t0) (y:=[59,32]) ⋯ ⋯;have sp:agM (T9 t0) (T9 [59,32])=[T9 t0]:=gR 59 [32] ⋯ [t0] ⋯ ⋯;rw[sp] at d
 let A1:=A0++[B.L [.str<|T9 t0]]
 let q:D:=.T [.str<|T9 [48],.str<|T9 [58,32],.str<|T9 t00]
 have pt (A':Hh):ke [.str<|T9 t0,.str<|T9 [58,32]] A'=some (q,A'):=by have e:ZZ (T9 t0) (T9 [58,32])=(T9 [48],T9 [58,32],T9 t00):=wu 58 [32] [48] t00 ⋯;show (if (T9 [58,32]).length≠0/\(T9 t0).length<=ZF then some (D.T [.str (ZZ (T9 t0)<|T9 [58,32]).1,.str (ZZ (T9 t0)<|T9 [58,32]).2.1,.str (ZZ (T9 t0)<|T9 [58,32]).2.2],A') else none)=_;rw[aac ⟨⋯,f7 ⋯⟩,e]
 let R (a b c e:Zd):Y.Env:=[some<|.str<|T9 t0,some<|.ref A.length,a,b,c,e]
 have w1:bc (dQ lU bP (aa 0)<|af (xC<|.str "; ") aF) (R none none none none) A0=some (.ls A0.length,A1):=gU (eM rfl rfl (aB<|b7 As) d) aj;obtain⟨A2,k1,a1,a2,a3,a4⟩:Nl (fH (R none none none none) A0) A1 [q]:=cj (as:=[t0]) (enc:=λt=>D.str<|T9 t) (h:=λ_=>q) w1 (bO aj) ⋯ (λ_ p=>fg<|ai p aj) λt ht A' _=>by cases aaG.1 ht;show⟨_,rfl,A',eM rfl rfl (aB<|b7 rA)<|pt A',aaE _⟩
 have p2:A0 <+: A2:=(aap _ _).trans a2;let⟨A3,b1,b2⟩:=gO (A:=A2) (n:=0) ⋯;rw[Mo] at b1;have ds:=gQ (A:=A3) (a:=t00) (y:=[32]) ⋯ ⋯;have sp2:agM (T9 t00) (T9 [32])=[T9 t00]:=gR 32 [] ⋯ [t00] ⋯ ⋯;rw[sp2] at ds
 let A4:=A3++[B.L [.str<|T9 t00]]++[B.L []]
 have p3:A3 <+: A4:=(aap _ _).trans<|aap _ _;let⟨A5,c1,c2⟩:=Yk (A:=A4)
 let R1:=R (some<|.str<|T9 [48]) (some<|.str<|T9 [58,32])<|some<|.str<|T9 t00
 have l3:A3[A.length]?=some (.L []):=ai b2<|ai p2 aj;have w2:bc (dQ lU bP (aa 4)<|af (xC<|.str " ") aF) (R1<|some<|.int 0) A3=some (.ls A3.length,A3++[B.L [.str<|T9 t00]]):=gU (eM rfl rfl (aB<|b7 iM) ds) aj;split⟨A5,?_,(((aap _ _).trans p2).trans<|b2.trans p3).trans c2⟩;split iQ (m:=5) rfl<|gf rfl (d8 (d9 rfl rfl) rfl)<|tH<|abB (gU a1 a4) (eL a4 rfl) (U1:=R1 none) (A2:=A2) rfl ?_;show gf (sk (sk (rc (aB rfl) rfl abE) rfl) rfl) (d8 (al (aB rfl) rfl b1) rfl)<|sk rfl<|rb rfl (cI l3)<|sk rfl<|xc w2 (bO aj)<|QL (eL (ai (aap _ _) aj) rfl) rfl<|rc (ag rfl<|aB rfl) rfl c1
def TQ:∃A',sh [.str<|T9 t0] A=some (ZC "NoText",A')/\A <+: A':=by let⟨A1,a1,a2⟩:=Yl (A:=A);have c1:et (cR<|cc qA<|af (aa 0)<|af (xC<|.ty "str") aF) [some<|.str<|T9 t0,none] A=some (false,A):=fh<|fi<|bn (ag rfl<|aB rfl) Ba;have c2:aw (az (eA false) (aa 0)<|xC<|.str "nothing") [some<|.str<|T9 t0,none] A=some (false,A):=av<|ao rfl rfl<|bi A oq ⋯;show⟨A1,iQ (m:=1) rfl<|gf (ri c1 rfl) (bQ c1 rfl)<|gf (ri c2 rfl) (bQ c2 rfl)<|tH<|sk rfl<|yF<|rc (aB rfl) rfl a1,a2⟩
end
open M (bh)
section
variable {A A1 A2:Hh}{δ p d k:Nat}{ps:cY}{ds:eN}{N:Str}
abbrev nm0:LN:=[97]
abbrev nm1:LN:=[97,98]
abbrev nm2:LN:=[98,97]
abbrev nm3:LN:=[122,122,122,122,122,122,122,122]
abbrev nms:List LN:=[nm0,nm1,nm2,nm3]
def iw{nm:LN}(h:nm∈nms):aJ nm:=by
 rcases aau.1 h with rfl|h
 .exact⟨⋯,⋯⟩
 rcases aau.1 h with rfl|h
 .exact⟨⋯,⋯⟩
 rcases aau.1 h with rfl|h
 .exact⟨⋯,⋯⟩
 .cases aaG.1 h;show⟨⋯,⋯⟩
def Js{nm:LN}(h:nm∈nms):Txt.splitM (T9<|jn [32] [dN,nm]) (T9 [32]) 2=[T9 dN,T9 nm]:=by
 rcases aau.1 h with rfl|h
 .decide +kernel
 rcases aau.1 h with rfl|h
 .decide +kernel
 rcases aau.1 h with rfl|h
 .decide +kernel
 .cases aaG.1 h;decide +kernel
def Fy{nm:LN}(h:nm∈nms):∃A',eK [.str<|T9<|jn [32] [dN,nm]] A=some (ZC "NoRow",A')/\A <+: A':=by
 have hl:(jn [32] [dN,nm]).length<=20:=by have:=(iw h).1;simp only[jn,aat,aay,abP];lia
 have m1:=MB (A:=A) (w:=dN) (ws:=[nm]) ⋯ ()
 let ks:Zl:=[T9 bL,T9 j6]
 have hT:Zp.lookup (T9 dN)=some (.mt<|ks.map .str):=mR.1;obtain⟨A1,k1,a1,a2,a3,a4⟩:Nl (ii [some (.str (T9 (jn [32] [dN,nm]))),some (.mt (ks.map .str))] A) A (ks.map λk=>D.B (lS k)):=by split cj (enc:=D.str) (w:=.sq<|ks.map .str) rfl rfl ⋯ (λ_ _=>eh) λk _ A6 _=>?_;show⟨_,rfl,A6,al (aB rfl) rfl<|lV k,aaE _⟩
 have a4:A1[k1]?=some (.L [.B false,.B true]):=by have e1:=LX;have e2:=ya;simp only[ks,aax,abq,e1,e2] at a4;show a4
 have i3:h1 (pz λbs=>.B<|bs.any id) [.ref k1] A1=some (.B true,A1):=by simp[a4,fv]
 have m2:bP [.str<|T9<|jn [32] [dN,nm],.str<|T9 [32],.int 2] A1=some (.ref A1.length,A1++[.L [.str<|T9 dN,.str<|T9 nm]]):=by show (if (T9 [32]).length≠0/\(T9<|jn [32] [dN,nm]).length+2<=ZF/\(0:Int)<=2/\(2:Int)<1000 then some (D.ref A1.length,A1++[B.L<|(Txt.splitM (T9<|jn [32] [dN,nm]) (T9 [32]) 2).map D.str]) else none)=_;rw[aac ⟨⋯,f7<|by rw[dg];lia,⋯,⋯⟩,Js h];rfl
 let A2:=A1++[B.L [.str<|T9 dN,.str<|T9 nm]]
 have s1:cB [.str<|T9<|jn [32] [dN,nm],.mt<|ks.map .str] A=some (.ref A1.length,A2):=aU rfl<|eS (bQ (fi<|bn (aB a1) i3)<|dh rfl<|ay<|eM rfl rfl (ag (b7 iM)<|aB<|bn (aB rfl) rfl) m2) rfl
 let R (a b:Zd):Y.Env:=[some<|.str<|T9<|jn [32] [dN,nm],a,b,none,none]
 have c1:aw (ju true Zp<|aa 1) (R (some<|.str<|T9 dN) none) A=some (false,A):=av<|Ve rfl hT;have c2:aw (az (eA true) (cc (h1 b8)<|af (aa 2) aF)<|az aN (rW 1)<|cc (h1 b8)<|af (bg Zp<|aa 1) aF) (R (some<|.str<|T9 dN)<|some<|.ref A1.length) A2=some (true,A2):=av<|ao (bn (aB rfl)<|ed aj rfl) (ao rfl (bn (aB<|Bn rfl hT) rfl) rfl)<|kh rfl;split⟨A2,?_,a2.trans<|aap _ _⟩;show iQ (m:=4) rfl<|gf (U1:=R none none) (A1:=A) rfl rfl<|gf (U1:=R (some<|.str<|T9 dN) none) (A1:=A) rfl (d8 (ao (eM rfl rfl (aB<|b7 iM) m1) rfl<|cD fY) rfl)<|gf (A1:=A) (ri c1 rfl) (bQ c1 rfl)<|gf (U1:=R (some<|.str<|T9 dN)<|some<|.ref A1.length) (A1:=A2) rfl (d8 (al (ag rfl<|aB<|Bn rfl hT) rfl s1) rfl)<|tH<|ri c2<|dh rfl<|rw_ rfl
def NA{nm:LN}(h:nm∈nms):∃A',aZ [.ref δ,.str<|T9<|jn [32] [dN,nm]] A=some (ZC "NoRow",A')/\A <+: A':=by let⟨A1,a1,a2⟩:=Fy (A:=A) h;show⟨A1,iQ (m:=3) rfl<|tH<|yF<|yF<|rc (aB rfl) rfl a1,a2⟩
def jq(h:Dsk A δ p d ps ds){row:Str}{bs:List Bool}{c:Nat}(hr:∃A',aZ [.ref δ,.str row] A=some (N,A')/\A <+: A')(hN:N∈l73)(hb:M.uk N (i73.map (·.2))=some bs)(h2:bs.count true=2)(h7:kT (bs.map D.B) 7=some (.B true))(hx:L2.ixL (.B true) (bs.map .B)=some c)(hl:bs.length<=1000):∃A',bE [.ref δ,.str row] A=some (.int (c:Nat),A')/\A <+: A':=by
 let⟨A1,r1,r2⟩:=hr
 let A2:=A1++[B.L<|bs.map .B]
 have a2:A2[A1.length]?=some (.L<|bs.map .B):=aj
 let R:Y.Env:=[some<|.ref δ,some<|.str row,some<|.ref A1.length,none]
 have t1:y9 l73 3 2 (gY ["Desk"] "say" 2 aZ (aa 0) (af (aa 1) aF)) (i73.map (·.2)) [some<|.ref δ,some<|.str row,some .N,none] A=some (.nx R,A2):=by split bd (rm rfl (c9 h.at0) (bN fT) (aB rfl) rfl r1) ?_;split (aac ⟨(by decide:3<4),hN⟩).trans ?_;show ((M.uk N<|i73.map (·.2)).bind _)=_;rw[hb];show aac hl
 have m1:rN [.ref A1.length,.B true] A2=some (.int 2,A2):=by simp[A2,f8,h2]
 have m2:wa [.ref A1.length,.B true] A2=some (.int (c:Nat),A2):=by simp[A2,f8,hl,hx]
 have c1:tE (aw<|az x5 (aa 2)<|xC .N) (tE (aw<|az (eA true) (dQ jD rN (aa 2)<|af (xC<|.B true) aF)<|rW 2)<|et<|cR<|az bI (aa 2)<|rW 7) R A2=some (false,A2):=oJ (av rfl)<|fV rfl<|oJ (av<|ao (eM rfl (cI a2) (aB rfl) m1) rfl<|kh ⋯)<|fV rfl<|fh<|fi<|bJ<|bv a2 h7;show⟨A2,aU rfl<|bG rfl<|cy t1<|eR c1<|ay<|eM rfl (cI a2) (aB rfl) m2,r2.trans<|aap _ _⟩
def Np(h:Dsk A δ p d ps ds){row:Str}(hr:∃A',aZ [.ref δ,.str row] A=some (ZC "NoRow",A')/\A <+: A'):∃A',bE [.ref δ,.str row] A=some (.int 0,A')/\A <+: A':=jq (c:=0) (bs:=[true,false,false,false,false,false,false,true]) h hr s!"" s!"" rfl rfl rfl ⋯
def yE(h:Dsk A δ p d ps ds){row:Str}(hr:∃A',aZ [.ref δ,.str row] A=some (ZC "NoName",A')/\A <+: A'):∃A',bE [.ref δ,.str row] A=some (.int 1,A')/\A <+: A':=jq (c:=1) (bs:=[false,true,false,false,false,false,false,true]) h hr s!"" s!"" rfl rfl rfl ⋯
def IY(h:Dsk A δ p d ps ds){row:Str}(hr:∃A',aZ [.ref δ,.str row] A=some (ZC "NoText",A')/\A <+: A'):∃A',bE [.ref δ,.str row] A=some (.int 2,A')/\A <+: A':=jq (c:=2) (bs:=[false,false,true,false,false,false,false,true]) h hr s!"" s!"" rfl rfl rfl ⋯
def yD(h:Dsk A δ p d ps ds){row:Str}(hr:∃A',aZ [.ref δ,.str row] A=some (ZC "NoBack",A')/\A <+: A'):∃A',bE [.ref δ,.str row] A=some (.int 5,A')/\A <+: A':=jq (c:=5) (bs:=[false,false,false,false,false,true,false,true]) h hr s!"" s!"" rfl rfl rfl ⋯
end
open M (bh)
def gu{a b:LN} (h:a.length+b.length<=1000000):aN (.str<|T9 a) (.str<|T9 b) A=some (.str<|T9<|a++b,A):=by show ((if (T9 a).length+(T9 b).length<=ZF then some (D.str<|T9 a++T9 b,A) else none).or _)=_;rw[dg,dg,aac<|f7 h,mo];rfl
def zF{w nm:LN}(h:ZC s=T9 (w++[32]))(hl:w.length+1+nm.length<=1000000)(A:Hh):aN (.str s) (.str<|T9 nm) A=some (.str<|T9<|jn [32] [w,nm],A):=by rw[h,gu<|by simp;lia];simp[jn]
def K8{v:LN}(hl:v.length+1<=1000000)(A:Hh):aN (.str<|T9 v) (.str " ") A=some (.str<|T9<|v++[32],A):=#v[iM,gu<|by simp;lia]
def VW{w nm t:LN}(hl:w.length+nm.length+t.length+2<=1000000)(A:Hh):aN (.str<|T9<|jn [32] [w,nm]++[32]) (.str<|T9 t) A=some (.str<|T9<|jn [32] [w,nm,t],A):=by rw[gu<|by simp[jn];lia];simp[jn]
def Eu:ZC "show "=T9 (uN++[32]):=(cS "show ").trans ⋯
def ye:ZC "put "=T9 (dN++[32]):=(cS "put ").trans ⋯
def RQ:ZC "ok"=T9 [111,107]:=(cS "ok").trans ⋯
def GC:∃A',(∀U,uP "Desk" 1 cZ aF U A=some (.ref A.length,A'))/\A <+: A'/\Dsk A' A.length (A.length+1) (A.length+2) [] []:=by
 split⟨A++[.ins "Desk" [("pictures",.ref<|A.length+1),("deeds",.ref<|A.length+2)],.K [],.L []],?_,aap _ _,?_,?_,?_⟩
 .have e:AM (ZC "deeds") (D.ref<|A.length+2) [(ZC "pictures",D.ref<|A.length+1)]=[(ZC "pictures",D.ref<|A.length+1),(ZC "deeds",D.ref<|A.length+2)]:=s!""
  intro U;simp[cZ,bS,jw,yA,e]
 .simp
 .simp
 .simp
open M (bh)
abbrev pL:=List<|LN×Ln
abbrev l7(m:pL):B:=.K<|m.map<|vX ze
structure Nk(k:Nat)(m:pL):Prop where
 nd:(m.map (·.1)).Nodup
 nm:∀kv∈m,kv.1∈nms
 ok:∀kv∈m,Lk k kv.2
structure Ent where
 n:LN
 m:pL
 a:Nat
def dd(e:Ent):LN×Option tL:=(e.n,(val e.m e.n).map bo)
def Ch:List Ent->pL->Prop
 |[],m=>m=[]
 |e::es,m=>(∀x,e.n≠x->val e.m x=val m x)/\(val e.m e.n=none->val m e.n≠none)/\Ch es e.m
def iL(m:pL)(n:LN):Option Ln->pL
 |none=>drp m n
 |some q=>put m n q
def pZ:val (iL m n o) x=if n=x then o else val m x:=by
 cases o with
 |none=>show Dr
 |some q=>show yW
def Kd:val (lay m n o) x=if n=x then o else val m x:=by
 cases o with
 |none=>show Dr
 |some q=>show yW
def Mm{O:Type}{l:List O}{a:O}(h:l.Nodup)(k:a∉l):(l++[a]).Nodup:=by rw[(List.perm_append_comm:(l++[a]).Perm<|[a]++l).nodup_iff];show aaM.2 ⟨k,h⟩
def HM{O:Type}{m:List<|LN×O}{n:LN}{q:O}(h:(m.map (·.1)).Nodup):((put m n q).map (·.1)).Nodup:=by
 rw[IK];split
 .exact h
 .rename_i k;show Mm h k
def HK{O:Type}{m:List<|LN×O} (h:(m.map (·.1)).Nodup):((drp m n).map (·.1)).Nodup:=by rw[GG];show h.filter _
def Cr{kv:LN×Ln}(h:kv∈put m n q):kv∈m\/kv.1=n/\kv.2=q:=by
 unfold put at h;split at h
 .let⟨x,hx,e⟩:=abm.1 h;split at e
  .rename_i e2;subst e;show .inr ⟨e2,rfl⟩
  .subst e;show .inl hx
 .rcases ab1.1 h with h|h
  .exact .inl h
  .rw[aaG] at h;subst h;show .inr ⟨rfl,rfl⟩
def Nk.mono{k k':Nat} (h:Nk k m)(e:k<=k'):Nk k' m:=⟨h.nd,h.nm,λkv hk=>ni (h.ok kv hk) e⟩
def Nk.lay{k:Nat}{m:pL}{n:LN}{o:Option Ln}(h:Nk k m)(hn:n∈nms)(ho:∀q,o=some q->Lk (k+1) q):Nk (k+1)<|iL m n o:=by
 cases o with
 |none=>show⟨HK h.nd,λkv hk=>h.nm kv<|(adY.1 hk).1,λkv hk=>ni (h.ok kv<|(adY.1 hk).1)<|aco k⟩
 |some q=>
  split⟨HM h.nd,λkv hk=>?_,λkv hk=>?_⟩
  .rcases Cr hk with hk|⟨e,_⟩
   .exact h.nm kv hk
   .rw[e];show hn
  .rcases Cr hk with hk|⟨_,e⟩
   .exact ni (h.ok kv hk)<|aco k
   .rw[e];show ho q rfl
theorem HL{O:Type}[DecidableEq O]:∀ {l s:List O},l.Nodup->(∀x∈l,x∈s)->l.length<=s.length
 |[],_,_,_=>aaL _
 |a::l,s,h,k=>by have h:=aaM.1 h;have ha:=k a aaJ;have:=HL (s:=s.erase a) h.2 λx hx=>(List.mem_erase_of_ne<|by rintro rfl;show h.1 hx).2<|k x<|aaK _ hx;rw[List.length_erase_of_mem ha] at this;have:=List.length_pos_of_mem ha;rw[aay];lia
def Nk.len{k:Nat} (h:Nk k m):m.length<=4:=by
 have:=HL (s:=nms) h.nd λx hx=>by let⟨kv,hk,rfl⟩:=abm.1 hx;show h.nm kv hk
 rwa[aar] at this
structure Rl(ps:cY)(m:pL):Prop where
 v:∀x,val ps x=(val m x).map bo
 nd:(ps.map (·.1)).Nodup
def Rl.lay{ps:cY}{m m':pL}{n:LN}{o:Option Ln}(h:Rl ps m)(k:∀x,val m' x=if n=x then o else val m x):Rl (lay ps n<|o.map bo) m':=by
 split⟨λx=>?_,?_⟩
 .rw[Kd,k x];split
  .rfl
  .exact h.v x
 .cases o with
  |none=>show HK h.nd
  |some q=>show HM h.nd
def mem_key{O:Type}{m:List<|LN×O}{x:LN}:x∈m.map (·.1)↔val m x≠none:=by have:=Ke (ps:=m) (n:=x);rw[ne_eq,this,Classical.not_not]
def Rl.perm{k:Nat}{ps:cY} (h:Rl ps m)(g:Nk k m):(ps.map (·.1)).Perm<|m.map (·.1):=(List.perm_ext_iff_of_nodup h.nd g.nd).mpr λx=>by rw[mem_key,mem_key,h.v x];cases val m x<;>simp
def Rl.len{k:Nat}{ps:cY} (h:Rl ps m)(g:Nk k m):ps.length<=4:=by have:=(h.perm g).length_eq;rw[aar,aar] at this;rw[this];show g.len
def Rl.names{k:Nat}{ps:cY} (h:Rl ps m)(g:Nk k m):∀kv∈ps,aJ kv.1:=λkv hk=>by have:=(h.perm g).mem_iff.mp<|aeu hk;let⟨x,hx,e⟩:=abm.1 this;rw[<-e];show iw<|g.nm x hx
structure Md(A:Hh)(p d μ π ν:Nat)(es:List Ent)(m:pL)(k:Nat):Prop where
 am:A[μ]?=some (.K [(.inr "now",.ref ν),(.inr "past",.ref π)])
 an:A[ν]?=some (l7 m)
 ap:A[π]?=some (.L (es.map λe=>D.ref e.a).reverse)
 ae:∀e∈es,A[e.a]?=some (l7 e.m)
 ne:(p::d::μ::π::ν::es.map (·.a)).Nodup
 ok:Nk k m
 oe:∀e∈es,Nk k e.m/\e.n∈nms
 ch:Ch es m
 le:es.length<=k
section
variable {A A':Hh}{δ p d μ π ν k:Nat}{es:List Ent}{m:pL}{ps:cY}{ds:eN}
def Md.out(h:Md A p d μ π ν es m k):∀x∈μ::π::ν::es.map (·.a),x≠p/\x≠d:=λx hx=>by let⟨h1,h2⟩:=aaM.1 h.ne;let⟨h3,h4⟩:=aaM.1 h2;show⟨by rintro rfl;show h1<|aaK _ hx,by rintro rfl;show h3 hx⟩
def Md.fr(h:Md A p d μ π ν es m k)(f:Fr p d A A'):Md A' p d μ π ν es m k:=by have o:=h.out;have q (x:Nat) (hx:x∈μ::π::ν::es.map (·.a)) (b:B) (e:A[x]?=some b):A'[x]?=some b:=f x b (o x hx).1 (o x hx).2 e;show⟨q μ (by simp) _ h.am,q ν (by simp) _ h.an,q π (by simp) _ h.ap,λe he=>q e.a (by simp;show .inr<|.inr<|.inr ⟨e,he,rfl⟩) _<|h.ae e he,h.ne,h.ok,h.oe,h.ch,h.le⟩
def Md.pre(h:Md A p d μ π ν es m k)(f:A <+: A'):Md A' p d μ π ν es m k:=h.fr<|ip f
def Dsk.st(h:Dsk A δ p d ps ds){n:Nat}{b:B}(hb:A[n]?=some b)(h0:∀N fs,b ≠ .ins N fs)(h1:n≠p)(h2:n≠d):Dsk (A.set n c) δ p d ps ds:=by
 have h3:n≠δ:=by rintro rfl;rw[h.at0] at hb;ext hb;show h0 _ _ rfl
 split⟨?_,?_,?_⟩
 .rw[aav h3];show h.at0
 .rw[aav h1];show h.atp
 .rw[aav h2];show h.atd
def RY{l r:LN}{a:Nat}(h:(l++r).Nodup)(k:a∉l++r):(l++a::r).Nodup:=by rw[(List.perm_middle:(l++a::r).Perm (a::(l++r))).nodup_iff];show aaM.2 ⟨k,h⟩
abbrev CH(A:Hh)(π ν:Nat)(es:List Ent)(m m':pL):Hh:=((A++[l7 m]).set π<|.L<|(es.map λe=>D.ref e.a).reverse++[.ref A.length]).set ν<|l7 m'
def Md.push(h:Md A p d μ π ν es m k)(lp:p<A.length)(ld:d<A.length){nm:LN}(hn:nm∈nms){o:Option Ln}(ho:o=none->val m nm≠none)(hk:∀q,o=some q->Lk (k+1) q):Md (CH A π ν es m<|iL m nm o) p d μ π ν (⟨nm,m,A.length⟩::es) (iL m nm o)<|k+1:=by
 have l1:=gv h.am;have l2:=gv h.an;have l3:=gv h.ap;have g:=h.pre<|aap A [l7 m];have nd:=h.ne;have n2:=(aaM.1 (aaM.1 nd).2).2;have n3:=aaM.1 n2;have n4:=aaM.1 n3.2;have n5:=aaM.1 n4.2;have mp:μ≠π:=by rintro rfl;show n3.1 (by simp)
 have mv:μ≠ν:=by rintro rfl;show n3.1 (by simp)
 have pv:π≠ν:=by rintro rfl;show n4.1 (by simp)
 have q (x:Nat) (h1:π≠x) (h2:ν≠x) (b:B) (e:(A++[l7 m])[x]?=some b):(CH A π ν es m<|iL m nm o)[x]?=some b:=by rw[aav h2,aav h1];show e
 split⟨q μ mp.symm mv.symm _ g.am,?_,?_,?_,?_,h.ok.lay hn hk,?_,⟨λx hx=>?_,λe=>?_,h.ch⟩,Nat.succ_le_succ h.le⟩
 .refine cF (c:=l7 m) ?_;rw[aav pv];show g.an
 .rw[aav pv.symm,cF g.ap,aax,adi]
 .intro e he;rcases aau.1 he with rfl|he
  .exact q A.length (aaC l3) (aaC l2) _ aj
  .have hm:e.a∈es.map (·.a):=aeu he;show q _ (by rintro e2;show n4.1<|by rw[e2];show aaK _ hm) (by rintro e2;show n5.1<|by rw[e2];show hm) _<|g.ae e he
 .refine RY (l:=[p,d,μ,π,ν]) nd λhx=>?_;simp only[akt,aca,aau,abm] at hx;rcases hx with e|e|e|e|e|⟨e,he,q⟩
  iterate 5 lia
  have:=gv<|h.ae e he;lia
 .intro e he;rcases aau.1 he with rfl|he
  .exact⟨h.ok.mono<|aco k,hn⟩
  .exact⟨(h.oe e he).1.mono<|aco k,(h.oe e he).2⟩
 .rw[pZ,aad hx]
 .rw[pZ,aac rfl];intro e2;show ho e2 e
end
end P
namespace Y
open L2
section
variable {A A2:Hh}{n:Nat}{kvs:List<|bH×D}{s:Str}{d c:D}{q:Bool}{a b:XE}
def DW(h:A[n]?=some (.K kvs))(e:val kvs (.inr s)=some d):bI (.ref n) (.str s) A=some (d,A):=by simp[h,e]
def Wb(h:A[n]?=some (.K kvs))(e:(!(val kvs<|.inr s).isSome)=q):im true (.str s) (.ref n) A=some (.B q,A):=by subst e;simp[h]
def We(h:A[n]?=some (.K kvs))(hl:kvs.length<=1000000)(e:A.set n (.K<|put kvs (.inr s) c)=A2):re c (.ref n) (.str s) A=some (.N,A2):=by subst e;simp[h,hl]
def abd(h:A[n]?=some (.K kvs)):h1 b8 [.ref n] A=some (.int kvs.length,A):=by simp[h]
def QR(h:A[n]?=some (.K kvs))(nd:(kvs.map (·.1)).Nodup):lF [.ref n] A=some (.ref A.length,A++[.K kvs]):=by simp[h,nd]
def abg(h:A[n]?=some (.K kvs))(e:val kvs (.inr s)=some d)(e2:A.set n (.K<|drp kvs<|.inr s)=A2):ll [.ref n,.str s] A=some (d,A2):=by subst e2;simp[h,e]
def Ry(h:A[n]?=some (.K kvs)):KD A (.ref n)=true:=by simp[h]
def abl{l:Zc}(h:A[n]?=some (.L<|l++[d]))(e:A.set n (.L l)=A2):Ew [.ref n] A=some (d,A2):=by subst e;simp[h]
def Ds{a b:D}:val [((.inr (ZC "now"):bH),a),(.inr<|Str.ofString "past",b)] (.inr<|Str.ofString "now")=some a:=s!""
def Kf{a b:D}:val [((.inr (ZC "now"):bH),a),(.inr<|Str.ofString "past",b)] (.inr<|Str.ofString "past")=some b:=s!""
def Na{a b:D}:put [((.inr (ZC "now"):bH),a),(.inr<|Str.ofString "past",b)] (.inr<|Str.ofString "now") c=[(.inr<|Str.ofString "now",c),(.inr<|Str.ofString "past",b)]:=s!""
end
end Y
namespace P
open L2 Y PySem.NumText Rw
open M (bh)
structure St(A:Hh)(δ p d μ π ν:Nat)(es:List Ent)(m:pL)(ps:cY)(k:Nat):Prop where
 md:Md A p d μ π ν es m k
 dk:Dsk A δ p d ps (es.map dd).reverse
 rl:Rl ps m
section
variable {A A':Hh}{δ p d μ π ν k:Nat}{es:List Ent}{e:Ent}{m:pL}{ps:cY}
def St.pre(h:St A δ p d μ π ν es m ps k)(f:A <+: A'):St A' δ p d μ π ν es m ps k:=⟨h.md.pre f,h.dk.mono f,h.rl⟩
def Md.now(h:Md A p d μ π ν es m k):bI (.ref μ) (.str "now") A=some (.ref ν,A):=DW h.am Ds
def Md.past(h:Md A p d μ π ν es m k):bI (.ref μ) (.str "past") A=some (.ref π,A):=DW h.am Kf
def Mw(A:Hh):eA false (.str "ok") (.str "ok") A=some (.B true,A):=aS A (a:=[111,107]) rfl ⋯ |> λh=>by rw[RQ];show h
def Md.pop(h:Md A p d μ π ν (e::es) m k):Md ((A.set π<|.L (es.map λe=>D.ref e.a).reverse).set μ<|.K [(.inr "now",.ref e.a),(.inr "past",.ref π)]) p d μ π e.a es e.m k:=by
 have n2:=(aaM.1 (aaM.1 h.ne).2).2;have n3:=aaM.1 n2;have n4:=aaM.1 n3.2;have mp:μ≠π:=by rintro rfl;show n3.1 (by simp)
 have q (x:Nat) (hx:x∈e.a::es.map (·.a)) (b:B) (g:A[x]?=some b):((A.set π<|.L (es.map λe=>D.ref e.a).reverse).set μ<|.K [(.inr "now",.ref e.a),(.inr "past",.ref π)])[x]?=some b:=by rw[aav<|by rintro rfl;show n3.1<|aaK _<|aaK _ hx,aav<|by rintro rfl;show n4.1<|aaK _ hx];show g
 split⟨?_,q _ (by simp) _<|h.ae e aaJ,?_,λx hx=>q _ (aaK _<|aeu hx) _<|h.ae x<|aaK _ hx,h.ne.sublist ?_,(h.oe e aaJ).1,λx hx=>h.oe x<|aaK _ hx,h.ch.2.2,Nat.le_of_succ_le h.le⟩
 .refine cF (c:=.K [(.inr "now",.ref ν),(.inr "past",.ref π)]) ?_;rw[aav mp.symm];show h.am
 .rw[aav mp,cF h.ap]
 .exact ((((akM _).cons ν).cons₂ π).cons₂ μ |>.cons₂ d).cons₂ p
def BJ(h:St A δ p d μ π ν (e::es) m ps k)(hk:k<=200):∃A' ps',jd [.ref δ,.ref μ] A=some (.B true,A')/\(∀x b,x≠p->x≠d->x≠μ->x≠π->A[x]?=some b->A'[x]?=some b)/\St A' δ p d μ π e.a es e.m ps' k:=by
 have o:=h.md.out;have le:=h.md.le;rw[aay] at le;have ap:=h.md.ap;rw[aax,adi] at ap;have dk:=h.dk;rw[aax,adi] at dk;have n2:=(aaM.1 (aaM.1 h.md.ne).2).2;have mp:μ≠π:=by rintro rfl;show (aaM.1 n2).1 (by simp)
 let A1:=A.set π<|.L (es.map λe=>D.ref e.a).reverse
 have g:=h.md.pop;have d1:=(dk.st ap (c:=.L (es.map λe=>D.ref e.a).reverse) nofun (o π<|by simp).1 (o π<|by simp).2)
 have am:A1[μ]?=some (.K [(.inr "now",.ref ν),(.inr "past",.ref π)]):=by rw[aav mp.symm];show h.md.am
 have d2:=d1.st am (c:=.K [(.inr "now",.ref e.a),(.inr "past",.ref π)]) nofun (o μ<|by simp).1 (o μ<|by simp).2;have pl:=h.rl.len h.md.ok;let⟨A3,s1,s2,s3⟩:=AR (nm:=e.n) (o:=(val e.m e.n).map bo) d2 (λq=>by
  rw[h.rl.v];have:=h.md.ch.2.1<|afp.1 q;cases w:val m e.n with
  |none=>show absurd w this
  |some _=>show afq _) () (λx hx=>by
   rcases ab1.1 hx with hx|hx
   .let⟨y,hy,rfl⟩:=abm.1<|List.mem_reverse.1 hx;show iw (h.md.oe y<|aaK _ hy).2
   .rw[aaG] at hx;subst hx
    show iw (h.md.oe e aaJ).2)
 split⟨A3,_,?_,λx b x1 x2 x3 x4 z=>s2 x b x1 x2<|by rw[aav<|aaI x3,aav<|aaI x4];show z,g.fr s2,s3,h.rl.lay λx=>?_⟩
 .rw[<-fK] at s1;have e1:=We am (c:=.ref e.a) (s := "now") (abV 2 999998) rfl;rw[Na] at e1
  erw [h.md.past,ed ap rfl,bK<|aaA (by simp;lia:¬_=(0:Int)),cI ap,abl ap rfl,e1,c9 d2.at0,bN fT,s1,Mw A3]
 .by_cases e2:e.n=x
  .rw[aac e2,e2]
  .rw[aad e2];show h.md.ch.1 x e2
def K5(h:St A δ p d μ π ν [] m ps k):∃A',jd [.ref δ,.ref μ] A=some (.B true,A')/\A <+: A':=by
 let⟨A1,r1,r2⟩:=yD h.dk<|tS h.dk;rw[<-fK] at r1;split⟨A1,?_,r2⟩
 erw [h.md.past,ed h.md.ap (j:=0) rfl,r1]
end
open M (bh)
section
variable {A A' A2:Hh}{δ p d μ π ν k n:Nat}{es:List Ent}{m:pL}{ps:cY}{c0 c1:Int}
def yg(h:TkL o):jf [ze o] A=some (.str<|T9<|FG o,A):=by
 cases o with
 |none=>
  have e:(D.str "nothing")=.str (T9 Vz):=by rw[oq]
  show jf [.N] A=some (.str<|T9 Vz,A);rw[<-e];rfl
 |some t=>
  let⟨ok1,ok2,ok3,_⟩:=h t rfl;have l1:=(eY ok1).1;have l2:=(eY ok2).1;have l3:=(eY ok3).1;have a1:=gu (A:=A) (a:=bu t.1) (b:=[58,32]) (by simp;lia);have a2:=gu (A:=A) (a:=bu t.1++[58,32]) (b:=bu t.2.1) (by simp;lia);show jf [.T [.int t.1,.int t.2.1,.int t.2.2]] A=some (.str<|T9<|bu t.1++([58,32]++nK t.2),A);unfold nK;by_cases e:t.2.1=t.2.2
  .rw[aac e,<-abY];show aU rfl<|eR (av rfl)<|cy (d8 rfl rfl)<|eS (bQ (av<|bJ<|bK<|aaz e)<|dh rfl<|ay<|ao (ao (bn (aB rfl)<|ic ok1) (b7 rA) a1) (bn (aB rfl)<|ic ok2) a2) rfl
  .rw[aad e,<-abY,<-abY,<-abY];have a3:=gu (A:=A) (a:=bu t.1++[58,32]++bu t.2.1) (b:=[46,46]) (by simp;lia);have a4:=gu (A:=A) (a:=bu t.1++[58,32]++bu t.2.1++[46,46]) (b:=bu t.2.2) (by simp;lia);show aU rfl<|eR (av rfl)<|cy (d8 rfl rfl)<|eR (av<|bJ<|bK<|aaA e)<|ay<|ao (ao (ao (ao (bn (aB rfl)<|ic ok1) (b7 rA) a1) (bn (aB rfl)<|ic ok2) a2) (b7 rD) a3) (bn (aB rfl)<|ic ok3) a4
def pR{m:pL}{n:LN}{o:Ln}(h:val m n=some o):val (m.map<|vX ze) (.inr<|T9 n)=some (ze o):=by rw[yV,h];rfl
def Md.keys(h:Md A p d μ π ν es m k):((m.map<|vX ze).map (·.1)).Nodup:=by
 rw[aaP];have e:m.map ((·.1)∘vX ze)=(m.map (·.1)).map λn=>(.inr (T9 n):bH):=by rw[aaP];rfl
 rw[e];show agi _ (λa b h z=>h<|kq<|ado z) h.ok.nd
def gP(c:Int):kT [D.int 5,.int BB] (c%2)=some (.int (if c%2=0 then 5 else BB)):=by rcases (by lia:c%2=0\/c%2=1) with h|h<;>rw[h]<;>rfl
def tP(c0 c1:Int):oW:=(c0%(if c1%2=0 then 5 else BB),c1%(if c0/2%2=0 then 5 else BB)-2,c1%(if c0/2%2=0 then 5 else BB)-2+c0/8%6)
def gB(c:Int):0<(if c%2=0 then 5 else BB)/\(if c%2=0 then 5 else BB)<=BB:=by
 have:(5:Int)<=BB:=by decide +kernel
 split<;>lia
def YY:Lk 0<|some (tP c0 c1):=by let⟨h1,h2⟩:=gB c1;let⟨h3,h4⟩:=gB<|c0/2;have a1:=adT c0<|Int.ne_of_gt h1;have a2:=adU c0 h1;have a3:=adT c1<|Int.ne_of_gt h3;have a4:=adU c1 h3;unfold tP;generalize c0%(if c1%2=0 then 5 else BB)=y at *;generalize c1%(if c0/2%2=0 then 5 else BB)=x at *;generalize (if c0/2%2=0 then 5 else BB)=b at *;generalize (if c1%2=0 then 5 else BB)=b' at *;show⟨show x-2<=x-2+c0/8%6 by lia,show x-2+c0/8%6<=x-2+5+3*((0:Nat):Int) by lia,⟨a1,show y<=BB by lia⟩,show -3-3*((0:Nat):Int)<=x-2 by lia,show x-2<=BB+3*((0:Nat):Int) by lia⟩
def Pg:LF (.int 10) (.int 58) A=some (.int BB,A):=s!""
def Fq(S:LN)(A A':Hh):Prop:=∀x b,x∉S->A[x]?=some b->A'[x]?=some b
def vN(h:A <+: A'):Fq S A A':=λ_ _ _ e=>ai h e
def Fq.trans(h:Fq S A A')(k:Fq S A' A2):Fq S A A2:=λx b hx e=>k x b hx<|h x b hx e
def psh_fq{m':pL}:Fq [p,d,μ,π,ν] A<|CH A π ν es m m':=λx b hx e=>by simp only[aau,aa3,aa4,not_or] at hx;rw[aav<|aaI hx.2.2.2.2,aav<|aaI hx.2.2.2.1];show ai (aap _ _) e
def Wr(h:Fr p d A A'):Fq [p,d,μ,π,ν] A A':=λx b hx e=>by simp only[aau,aa3,aa4,not_or] at hx;show h x b hx.1 hx.2.1 e
def St.deed(h:St A δ p d μ π ν es m ps k){nm:LN}(hn:nm∈nms){o:Option Ln}(ho:o=none->val m nm≠none)(hk:∀q,o=some q->Lk (k+1) q){row:Str}
  (say:∀A2,Dsk A2 δ p d ps (es.map dd).reverse->∃A3,aA [.ref δ,.str row] A2=some (.str "ok",A3)/\Fr p d A2 A3/\Dsk A3 δ p d (lay ps nm<|o.map bo) ((es.map dd).reverse++[(nm,val ps nm)])) :
  Md (CH A π ν es m<|iL m nm o) p d μ π ν (⟨nm,m,A.length⟩::es) (iL m nm o) (k+1)/\Dsk (CH A π ν es m<|iL m nm o) δ p d ps (es.map dd).reverse /\
  ∃A3,aA [.ref δ,.str row] (CH A π ν es m<|iL m nm o)=some (.str "ok",A3)/\Fq [p,d,μ,π,ν] A A3/\St A3 δ p d μ π ν (⟨nm,m,A.length⟩::es) (iL m nm o) (lay ps nm<|o.map bo) (k+1):=by
 have ot:=h.md.out;have g:=h.md.push (gv h.dk.atp) (gv h.dk.atd) hn ho hk;have h1:=h.pre<|aap A [l7 m];have d1:=h1.dk.st h1.md.ap (c:=.L<|(es.map λe=>D.ref e.a).reverse++[.ref A.length]) nofun (ot π<|by simp).1 (ot π<|by simp).2;have n2:=(aaM.1 (aaM.1 h.md.ne).2).2;have n4:=aaM.1 (aaM.1 n2).2;have pv:π≠ν:=by rintro rfl;show n4.1 (by simp)
 have an:((A++[l7 m]).set π<|.L<|(es.map λe=>D.ref e.a).reverse++[.ref A.length])[ν]?=some (l7 m):=by rw[aav pv];show h1.md.an
 have d2:=d1.st an (c:=l7<|iL m nm o) nofun (ot ν<|by simp).1 (ot ν<|by simp).2;let⟨A3,s1,s2,s3⟩:=say _ d2;split⟨g,d2,A3,s1,psh_fq.trans<|Wr s2,g.fr s2,?_,h.rl.lay λx=>pZ⟩;rw[aax,adi];have:dd ⟨nm,m,A.length⟩=(nm,val ps nm):=by unfold dd;rw[h.rl.v]
 rw[this];show s3
abbrev mid(A:Hh)(π:Nat)(es:List Ent)(m:pL):Hh:=(A++[l7 m]).set π<|.L<|(es.map λe=>D.ref e.a).reverse++[.ref A.length]
def Md.mid(h:Md A p d μ π ν es m k):bI (.ref μ) (.str "now") (mid A π es m)=some (.ref ν,mid A π es m)/\(mid A π es m)[ν]?=some (l7 m):=by
 have n2:=(aaM.1 (aaM.1 h.ne).2).2;have n3:=aaM.1 n2;have n4:=aaM.1 n3.2;have h1:=h.pre<|aap A [l7 m];split⟨DW (kvs:=[(.inr "now",.ref ν),(.inr "past",.ref π)]) ?_ Ds,?_⟩
 .rw[aav<|by rintro rfl;show n3.1<|by simp];show h1.am
 .rw[aav<|by rintro rfl;show n4.1<|by simp];show h1.an
def Md.cpy(h:Md A p d μ π ν es m k)(hk:k<=200):cU [.ref π,.ref A.length] (A++[l7 m])=some (.N,P.mid A π es m):=lC (ai (aap _ _) h.ap) (by have:=h.le;simp;lia) rfl
def Md.put(h:Md A p d μ π ν es m k){nm:LN} : re (ze q) (.ref ν) (.str<|T9 nm) (P.mid A π es m)=some (.N,CH A π ν es m<|iL m nm<|some q):=We h.mid.2 (by have:=h.ok.len;simp;lia) (by rw[Pi];rfl)
def Tg(h:St A δ p d μ π ν es m ps k)(hk:k<=190){nm:LN}(hn:nm∈nms)(hc:A[n]?=some (.L [.int c0,.int c1]))(hq:n≠π):∃A' es' m' ps',wc [.ref δ,.ref μ,.str<|T9 nm,.ref n] A=some (.B true,A')/\Fq [p,d,μ,π,ν] A A'/\St A' δ p d μ π ν es' m' ps' (k+1):=by
 let A1:=A++[B.L [.int 5,.int BB]]
 let A2:=A1++[B.L [.int 5,.int BB]]
 have p2:A <+: A2:=(aap _ _).trans<|aap _ _;have h2:=h.pre p2;have lk:=YY (c0:=c0) (c1:=c1);have pl:=h.rl.len h.md.ok;have el:=h.md.le;have kn:=iw hn;have kl:=kn.1
 let t:=tP c0 c1
 have tx:(FG<|some t).length<=856000:=aaN (JZ<|yf lk<|aaL 200) ⋯;let⟨g,D2,A3,s1,s3,s2⟩:=h2.deed hn (row:=T9<|jn [32] [dN,nm,FG<|some t]) (o:=some<|some t) nofun (λq e=>by ext e;show ni lk<|aaL _) λA2 D=>by let⟨A3,a1,a2,a3⟩:=ND D () (by rw[aeq,aar];lia) kn<|yf lk<|aaL 200;show⟨A3,a1,a2,a3⟩
 split⟨A3,_,_,_,?_,(vN p2).trans s3,s2⟩;have i0:bI (.ref n) (.int 0) A=some (.int c0,A):=bv hc rfl;have i1:bI (.ref n) (.int 1) A1=some (.int c1,A1):=bv (ai (aap _ _) hc) rfl;have j0:bI (.ref n) (.int 0) A2=some (.int c0,A2):=bv (ai p2 hc) rfl;have z0:bI (.ref n) (.int 0) (P.mid A2 π es m)=some (.int c0,P.mid A2 π es m):=bv (l:=[.int c0,.int c1]) (by rw[aav<|aaI hq];show ai (p2.trans<|aap _ _) hc) rfl;have u1:bI (.ref A.length) (.int<|c1%2) A1=some (.int (if c1%2=0 then 5 else BB),A1):=bv aj<|gP c1;have u2:bI (.ref A1.length) (.int<|c0/2%2) A2=some (.int (if c0/2%2=0 then 5 else BB),A2):=bv aj<|gP<|c0/2;have w1:=eX (A:=A1) (i:=c0)<|aaz (gB c1).1;have w2:=eX (A:=A2) (i:=c1)<|aaz (gB<|c0/2).1;have y1:=DW g.an<|pR (m:=iL m nm<|some<|some t) (o:=some t) (n:=nm)<|#v[pZ,aac rfl];have t1:=zF ye (nm:=nm) (by simp;lia)<|CH A2 π ν es m<|iL m nm<|some<|some t;have t2:=K8 (v:=jn [32] [dN,nm]) (by simp[jn];lia)<|CH A2 π ν es m<|iL m nm<|some<|some t;have t3:=VW (w:=dN) (nm:=nm) (t:=FG<|some t) (by simp;lia)<|CH A2 π ν es m<|iL m nm<|some<|some t;have x1:=yg (A:=CH A2 π ν es m<|iL m nm<|some<|some t)<|yf lk<|aaL 200;have e1:re (.T [.int t.1,.int t.2.1,.int t.2.2]) (.ref ν) (.str<|T9 nm) (P.mid A2 π es m)=some (.N,CH A2 π ν es m<|iL m nm<|some<|some t):=h2.md.put (nm:=nm) (q:=some t)
 show aU rfl (eS (d8 (ao (bJ i0) (ao (d9 (ag rfl<|aB<|bJ Pg) rfl) (ao (bJ i1) rfl<|eX rfl) u1) w1) rfl) (NO (eS (d8 (ao (ao (bJ i1) (ao (d9 (ag rfl<|aB<|bJ Pg) rfl) (ao (ao (bJ j0) rfl<|i8 rfl) rfl<|eX rfl) u2) w2) rfl rfl) rfl) (NO
  (eS (gS (eM (bJ h2.md.past) (cI h2.md.ap) (aB<|bn (aB<|bJ h2.md.now)<|QR h2.md.an h2.md.keys)<|h2.md.cpy ()) rfl) (NO (eS (Bo (bV (ag rfl<|ag rfl<|aB<|ao rfl (ao (ao (bJ z0) rfl<|i8 rfl) rfl<|eX rfl) rfl) rfl rfl) (bJ h2.md.mid.1) rfl e1 rfl) (NO
  (ay<|ao (cP rfl (c9 D2.at0) (bN fT) (aB<|ao (ao (bJ t1) rfl t2) (al (aB<|ao (bJ g.now) rfl y1) rfl x1) t3) rfl s1) rfl<|Mw A3)))))))))
end
open M (bh)
section
variable {A A' A2:Hh}{δ p d μ π ν k:Nat}{es:List Ent}{m:pL}{ps:cY}{ds:eN}
def uj:ZC "drop "=T9 (pf++[32]):=(cS "drop ").trans ⋯
def Ll(h:Dsk A δ p d ps ds){nm:LN}(hn:aJ nm)(hv:val ps nm=none):∃A',aZ [.ref δ,.str<|T9<|jn [32] [pf,nm]] A=some (ZC "NoName",A')/\A <+: A':=by
 have hl:=hn.1;have r:Row pf [T9 cw] [nm]:=⟨qE.2,qE.1,rfl,⋯,λkp hk=>by cases aaG.1 hk;show .inr hn,λ_ _ h=>(nomatch h),λ_ x hx=>by cases aaG.1 hx;show b9 hn,by simp[jn];lia⟩
 show TL (λA' q=>h.mono q) r λA' q=>⟨A',jk (h.mono q) hv,aaE _⟩
def Md.pop1(h:Md A p d μ π ν es m k){nm:LN}{o:Ln}(hv:val m nm=some o):ll [.ref ν,.str<|T9 nm] (P.mid A π es m)=some (ze o,CH A π ν es m<|iL m nm none):=abg h.mid.2 (pR hv) (by rw[Ol];rfl)
def CO(h:Rl ps m){nm:LN}(hv:val m nm=none):val ps nm=none:=by rw[h.v,hv];rfl
def wC(h:Rl ps m){nm:LN}{o:Ln}(hv:val m nm=some o):val ps nm=some (bo o):=by rw[h.v,hv];rfl
def OO(h:Md A p d μ π ν es m k){nm:LN}(hv:val m nm=none):im true (.str<|T9 nm) (.ref ν) A=some (.B true,A):=Wb h.an (by rw[yV,hv];rfl)
def Hj(h:Md A p d μ π ν es m k){nm:LN}{o:Ln}(hv:val m nm=some o):im true (.str<|T9 nm) (.ref ν) A=some (.B false,A):=Wb h.an (by rw[yV,hv];rfl)
def KQ(A:Hh)(δ p d μ π ν k:Nat)(r:Option<|D×Hh):Prop:=∃A' ν' es' m' ps',r=some (.B true,A')/\Fq [p,d,μ,π,ν] A A'/\St A' δ p d μ π ν' es' m' ps' (k+1)
def Md.le1(h:Md A p d μ π ν es m k):Md A p d μ π ν es m<|k+1:=⟨h.am,h.an,h.ap,h.ae,h.ne,h.ok.mono<|aco k,λe he=>⟨(h.oe e he).1.mono<|aco k,(h.oe e he).2⟩,h.ch,acX h.le⟩
def St.same(h:St A δ p d μ π ν es m ps k){r:Option<|D×Hh}(e:∃A',r=some (.B true,A')/\A <+: A'):KQ A δ p d μ π ν k r:=by let⟨A',e1,e2⟩:=e;show⟨A',ν,es,m,ps,e1,vN e2,h.md.le1.pre e2,h.dk.mono e2,h.rl⟩
def zK(h:St A δ p d μ π ν es m ps k)(hk:k<=190){nm:LN}(hn:nm∈nms):KQ A δ p d μ π ν k<|je [.ref δ,.ref μ,.str<|T9 nm] A:=by
 have kn:=iw hn;have kl:=kn.1;have pl:=h.rl.len h.md.ok;have el:=h.md.le;cases hv:val m nm with
 |none=>
  let⟨A1,r1,r2⟩:=yE h.dk<|Ll h.dk kn<|CO h.rl hv;have t1:=zF uj (nm:=nm) (by simp;lia) A;split h.same ⟨A1,?_,r2⟩;show aU rfl<|eS (bQ (av<|ao rfl (bJ h.md.now)<|OO h.md hv)<|dh rfl<|ay<|ao (al (ag rfl<|aB<|bJ t1) rfl r1) rfl<|bK rfl) rfl
 |some o=>
  let⟨g,D2,A3,s1,s3,s2⟩:=h.deed hn (row:=T9<|jn [32] [pf,nm]) (o:=none) (λ_=>by rw[hv];show afq o) nofun λA2 D=>by let⟨A3,a1,a2,a3⟩:=Jg D () (by rw[aeq,aar];lia) kn<|wC h.rl hv;show⟨A3,a1,a2,a3⟩
  split⟨A3,_,_,_,_,?_,s3,s2⟩;have t1:=zF uj (nm:=nm) (by simp;lia)<|CH A π ν es m<|iL m nm none;have y1:=eM (U:=[some<|.ref δ,some<|.ref μ,some<|.str<|T9 nm]) (o:=az bI (aa 1)<|xC<|.str "now") (as:=af (aa 2) aF) (bJ h.md.mid.1) (Ry h.md.mid.2) (aB rfl)<|h.md.pop1 hv;show aU rfl<|eR (av<|ao rfl (bJ h.md.now)<|Hj h.md hv)<|NP (eM (bJ h.md.past) (cI h.md.ap) (aB<|bn (aB<|bJ h.md.now)<|QR h.md.an h.md.keys)<|h.md.cpy ())<|NP y1<|ay<|ao (cP rfl (c9 D2.at0) (bN fT) (aB<|bJ t1) rfl s1) rfl<|Mw A3
def mN(w:LN)(o:Ln):Ln:=if w=kx\/w=ff then none else if w=cQ then gL o else if w=cr then sL o else if w=d5 then gL (sL o) else o
def kD{c:Bool}{x y:Str}(hx:x=T9 a)(hy:y=T9 b)(h:ua (.str<|T9 w) ([T9 a,T9 b].map V.str)=c):zZ (.str<|T9 w) (.T [.str x,.str y]) A=some (.B c,A):=by subst hx hy;have:=BQ [T9 a,T9 b];simp at this h;simp[this,h]
def uo(i1:ua (.str<|T9 w) ([T9 kx,T9 ff].map V.str)=true):eD [.str<|T9 w,cq t] A=some (.N,A):=by
 erw [kD (A:=A) gD gC i1]
def gH{w:LN}(hw:∀c∈w,c<256)(i1:ua (.str<|T9 w) ([T9 kx,T9 ff].map V.str)=false)(n1:w≠cQ)(i2:ua (.str<|T9 w) ([T9 cr,T9 d5].map V.str)=false)(n2:w≠cr):eD [.str<|T9 w,cq t] A=some (cq t,A):=by
 show eD [.str<|T9 w,.T [.int t.1,.int t.2.1,.int t.2.2]] A=some (.T [.int t.1,.int t.2.1,.int t.2.2],A)
 erw [kD (A:=A) gD gC i1,df A cT hw ⋯ n1,kD (A:=A) cz gE i2,df A cz hw ⋯ n2]
def Av:eD [.str<|T9 cQ,cq t] A=some (cq (t.1,t.2.1-1,t.2.2+2),A):=by
 show eD [.str<|T9 cQ,.T [.int t.1,.int t.2.1,.int t.2.2]] A=some (.T [.int t.1,.int<|t.2.1-1,.int<|t.2.2+2],A)
 erw [kD (A:=A) gD gC (c:=false) s!"",aS A cT ⋯]
def rQ{w:LN}(hw:∀c∈w,c<256)(i1:ua (.str<|T9 w) ([T9 kx,T9 ff].map V.str)=false)(n1:w≠cQ)(i2:ua (.str<|T9 w) ([T9 cr,T9 d5].map V.str)=true):eD [.str<|T9 w,cq t] A=some (ze (if t.2.2-t.2.1<3 then none else if w=cr then some (t.1,t.2.1+1,t.2.2-2) else some t),A):=by
 show eD [.str<|T9 w,.T [.int t.1,.int t.2.1,.int t.2.2]] A=_;have g1:=kD (A:=A) gD gC i1;have g2:=df A cT hw ⋯ n1;have g3:=kD (A:=A) cz gE i2;by_cases hc:t.2.2-t.2.1<3
 .rw[aac hc];show _=some (D.N,A)
  erw [g1,g2,g3,aaR<|aaz hc]
 .rw[aad hc];by_cases hs:w=cr
  .rw[aac hs];show _=some (D.T [.int t.1,.int<|t.2.1+1,.int<|t.2.2-2],A);subst hs
   erw [g1,g2,g3,aaR<|aaA hc,aS A cz ⋯]
  .rw[aad hs];show _=some (D.T [.int t.1,.int t.2.1,.int t.2.2],A)
   erw [g1,g2,g3,aaR<|aaA hc,df A cz hw ⋯ hs]
abbrev wsL:List LN:=[pi,ie,kx,ff,cQ,cr,d5,jt,pj,ph]
def Mi{w:LN}(hw:w∈wsL) (h:Lk k o):eD [.str<|T9 w,ze o] A=some (ze<|mN w o,A):=by
 cases o with
 |none=>
  have:mN w none=none:=by
   unfold mN;split
   .rfl
   .split
    .rfl
    .split
     .rfl
     .split<;>rfl
  rw[this];rfl
 |some t=>
  show eD [.str<|T9 w,cq t] A=_;simp only[aau,aa3,aa4] at hw;rcases hw with rfl|rfl|rfl|rfl|rfl|rfl|rfl|rfl|rfl|rfl
  .exact gH ⋯ s!"" ⋯ s!"" ⋯
  .exact gH ⋯ s!"" ⋯ s!"" ⋯
  .exact uo s!""
  .exact uo s!""
  .exact Av
  .exact rQ ⋯ s!"" ⋯ s!""
  .rw[rQ ⋯ s!"" ⋯ s!"",show mN d5 (some t)=gL (sL<|some t) from rfl,Oy h,aad (show ¬d5=cr by decide)]
  .exact gH ⋯ s!"" ⋯ s!"" ⋯
  .exact gH ⋯ s!"" ⋯ s!"" ⋯
  .exact gH ⋯ s!"" ⋯ s!"" ⋯
def WL(h:Lk k o):Lk (k+1)<|mN w o:=by
 have h1:=ni h<|aco k;unfold mN;split
 .trivial
 .split
  .exact Wt h
  .split
   .exact Yp h
   .split
    .rw[Oy h];cases o with
     |none=>trivial
     |some t=>
      show Lk (k+1) (if t.2.2-t.2.1<3 then none else some t);split
      .trivial
      .exact h1
    .exact h1
end
open M (bh)
abbrev S3:XS:=gX (aw<|az z9 (aa 4)<|rW 4) (gV (az aN (az aN (aa 6)<|xC<|.str " ")<|aa 3)<|au 6)<|gX (aw<|az z9 (aa 4)<|rW 8) (gV (az aN (aa 6)<|xC<|.str " box 1 0 2 0")<|au 6) bx
def RL:ZC " box 1 0 2 0"=T9 (32::Ej):=(cS " box 1 0 2 0").trans ⋯
structure Chg(i:Int)(w nm on R:LN):Prop where
 mem:w∈wsL
 ix:kT (wsL.map cu) i=some (cu w)
 s3:∀A d0 d1,S3 [d0,d1,some<|cu nm,some<|cu on,some<|.int i,some<|cu w,some<|cu<|jn [32] [w,nm,on]] A=some (.nx [d0,d1,some<|cu nm,some<|cu on,some<|.int i,some<|cu w,some<|cu R],A)
 no:∀ {A δ p d ps ds},Dsk A δ p d ps ds->val ps on=none->∃A',aZ [.ref δ,.str<|T9 R] A=some (ZC "NoName",A')/\A <+: A'
 yes:∀ {A δ p d ps ds} {k:Nat} {o:Ln},Dsk A δ p d ps ds->ps.length<=4->ds.length<=200->val ps on=some (bo o)->Lk k o->k<=190->∃A',aA [.ref δ,.str<|T9 R] A=some (.str "ok",A')/\Fr p d A A'/\Dsk A' δ p d (put ps nm<|bo<|mN w o) (ds++[(nm,val ps nm)])
def NU{w:LN}(hw:w∈wsL):w.length<=7:=by revert hw;revert w;decide
section
variable {nm on w:LN}{i:Int}
def abD(hn:aJ nm)(ho:aJ on)(hw:w.length<=7)(A:Hh):aN (.str<|T9<|jn [32] [w,nm,on]++[32]) (.str<|T9 on) A=some (.str<|T9<|jn [32] [w,nm,on,on],A):=by have:=hn.1;have:=ho.1;rw[gu<|by simp[jn];lia];simp[jn]
def pM(hn:aJ nm)(ho:aJ on)(hm:w∈wsL)(hi:i<4)(hw:w=pi\/w=ie\/w=kx\/w=ff)(ha:kT (wsL.map cu) i=some (cu w)):Chg i w nm on<|jn [32] [w,nm,on,on]:=by
 have n1:=hn.1;have n2:=ho.1;have lw:=NU hm;have hc:lz w [bL,cw,fj]:=by
  rcases hw with rfl|rfl|rfl|rfl
  .exact qF
  .exact lH
  .exact qG
  .exact lI
 split⟨hm,ha,λA d0 d1=>?_,λh hv=>?_,λh hp hd hv hk k1=>?_⟩
 .have t1:=K8 (v:=jn [32] [w,nm,on]) (by simp[jn];lia) A
  erw [aaR<|aaz hi,t1,abD hn ho lw A]
 .have r:Row w [T9 bL,T9 cw,T9 fj] [nm,on,on]:=⟨hc.2,hc.1,rfl,⋯,λkp hk=>by
   simp only[adO,adN,aau,aa3,aa4] at hk;rcases hk with rfl|rfl|rfl
   .exact .inr hn
   .exact .inr ho
   .exact .inr ho,λ_ x hx=>?_,λ_ x hx=>?_,by simp[jn];lia⟩
  .exact wA (λA' q=>h.mono q) r hn λA' q=>⟨A',jk (h.mono q) hv,aaE _⟩
  .simp at hx;rcases hx with rfl|rfl
   .exact b9 hn
   .exact b9 ho
  .simp at hx;rcases hx with rfl|rfl|rfl
   .exact b9 hn
   .exact b9 ho
 .rename_i o;let⟨A',a1,a2,a3⟩:=NB h () () hn ho hv hk.go hw;split⟨A',a1,a2,?_⟩;have:o2 w o=mN w o:=by rcases hw with rfl|rfl|rfl|rfl<;>rfl
  rwa[this] at a3
def mQ(hn:aJ nm)(ho:aJ on)(hm:w∈wsL)(hi:4<=i/\i<8)(hw:w=cQ\/w=cr\/w=d5\/w=jt)(ha:kT (wsL.map cu) i=some (cu w)):Chg i w nm on<|jn [32] [w,nm,on,Ej]:=by
 have n1:=hn.1;have n2:=ho.1;have lw:=NU hm;have hc:lz w [bL,cw,hV]:=by
  rcases hw with rfl|rfl|rfl|rfl
  .exact jX
  .exact jY
  .exact lJ
  .exact lG
 split⟨hm,ha,λA d0 d1=>?_,λh hv=>?_,λh hp hd hv hk k1=>?_⟩
 .have t1:aN (.str<|T9<|jn [32] [w,nm,on]) (.str<|T9 (32::Ej)) A=some (.str<|T9<|jn [32] [w,nm,on,Ej],A):=by
   rw[gu<|by simp[jn];lia];simp[jn]
  erw [aaR<|aaA<|Int.not_lt.2 hi.1,aaR<|aaz hi.2,b7 RL,t1]
 .have r:Row w [T9 bL,T9 cw,T9 hV] [nm,on,Ej]:=⟨hc.2,hc.1,rfl,⋯,λkp hk=>by
   simp only[adO,adN,aau,aa3,aa4] at hk;rcases hk with rfl|rfl|rfl
   .exact .inr hn
   .exact .inr ho
   .exact .inl s!"",λ_ x hx=>?_,λq=>absurd q s!"",by simp[jn];lia⟩
  .exact wA (λA' q=>h.mono q) r hn λA' q=>⟨A',jk (h.mono q) hv,aaE _⟩
  .simp at hx;rcases hx with rfl|rfl
   .exact b9 hn
   .exact b9 ho
 .rename_i o;let⟨A',a1,a2,a4⟩:=Jh h () () hn ho hv hk.go hw;split⟨A',a1,a2,?_⟩;have:fL w o=mN w o:=by
   rcases hw with rfl|rfl|rfl|rfl
   .rfl
   .rfl
   .rfl
   .exact YN hk
  rwa[this] at a4
def BK(hn:aJ nm)(ho:aJ on)(hm:w∈wsL)(hi:8<=i)(hw:w=pj\/w=ph)(ha:kT (wsL.map cu) i=some (cu w)):Chg i w nm on<|jn [32] [w,nm,on]:=by
 have n1:=hn.1;have n2:=ho.1;have lw:=NU hm;have hc:lz w [bL,cw]:=by
  rcases hw with rfl|rfl
  .exact xz
  .exact xx
 split⟨hm,ha,λA d0 d1=>?_,λh hv=>?_,λh hp hd hv hk k1=>?_⟩
 .erw [aaR<|aaA (by lia:¬i<4),aaR<|aaA (by lia:¬i<8)]
 .have r:Row w [T9 bL,T9 cw] [nm,on]:=⟨hc.2,hc.1,rfl,⋯,λkp hk=>by
   simp only[adO,adN,aau,aa3,aa4] at hk;rcases hk with rfl|rfl
   .exact .inr hn
   .exact .inr ho,λ_ x hx=>?_,λ_ x hx=>?_,by simp[jn];lia⟩
  .exact wA (λA' q=>h.mono q) r hn λA' q=>⟨A',jk (h.mono q) hv,aaE _⟩
  .simp at hx;subst hx;show b9 hn
  .simp at hx;rcases hx with rfl|rfl
   .exact b9 hn
   .exact b9 ho
 .rename_i o;let⟨A',a1,a2,a3⟩:=NC h () () hn ho hv hk () hw;split⟨A',a1,a2,?_⟩;have:mN w o=o:=by rcases hw with rfl|rfl<;>rfl
  rwa[this]
def aa2(hn:aJ nm)(ho:aJ on)(h:0<=i/\i<10):∃w R,Chg i w nm on R:=by
 rcases (by lia:i=0\/i=1\/i=2\/i=3\/i=4\/i=5\/i=6\/i=7\/i=8\/i=9) with rfl|rfl|rfl|rfl|rfl|rfl|rfl|rfl|rfl|rfl
 .exact⟨_,_,pM hn ho ⋯ ⋯ (.inl rfl) rfl⟩
 .exact⟨_,_,pM hn ho ⋯ ⋯ (.inr<|.inl rfl) rfl⟩
 .exact⟨_,_,pM hn ho ⋯ ⋯ (.inr<|.inr<|.inl rfl) rfl⟩
 .exact⟨_,_,pM hn ho ⋯ ⋯ (.inr<|.inr<|.inr rfl) rfl⟩
 .exact⟨_,_,mQ hn ho ⋯ ⋯ (.inl rfl) rfl⟩
 .exact⟨_,_,mQ hn ho ⋯ ⋯ (.inr<|.inl rfl) rfl⟩
 .exact⟨_,_,mQ hn ho ⋯ ⋯ (.inr<|.inr<|.inl rfl) rfl⟩
 .exact⟨_,_,mQ hn ho ⋯ ⋯ (.inr<|.inr<|.inr rfl) rfl⟩
 .exact⟨_,_,BK hn ho ⋯ ⋯ (.inl rfl) rfl⟩
 .exact⟨_,_,BK hn ho ⋯ ⋯ (.inr rfl) rfl⟩
end
section
variable {A A' A2:Hh}{δ p d μ π ν k:Nat}{es:List Ent}{m:pL}{ps:cY}{i:Int}
def zH(h:St A δ p d μ π ν es m ps k)(hk:k<=190){nm on:LN}(hn:nm∈nms)(ho:on∈nms)(hi:0<=i/\i<10):KQ A δ p d μ π ν k<|gF [.ref δ,.ref μ,.str<|T9 nm,.str<|T9 on,.int i] A:=by
 have kn:=iw hn;have ko:=iw ho;have kl:=kn.1;have kl2:=ko.1;have pl:=h.rl.len h.md.ok;have el:=h.md.le;let⟨w,R,c⟩:=aa2 (i:=i) kn ko hi;have lw:=NU c.mem;have p1:A <+: A++[B.L<|wsL.map cu]:=aap _ _;have h1:=h.pre p1;have w1:bI (.ref A.length) (.int i) (A++[B.L<|wsL.map cu])=some (cu w,A++[B.L<|wsL.map cu]):=bv aj c.ix;have t1:=K8 (v:=w) ()<|A++[B.L<|wsL.map cu];have t2:=gu (A:=A++[B.L<|wsL.map cu]) (a:=w++[32]) (b:=nm) (by simp;lia);rw[show w++[32]++nm=jn [32] [w,nm] by simp[jn]] at t2;have t3:=K8 (v:=jn [32] [w,nm]) (by simp[jn];lia)<|A++[B.L<|wsL.map cu];have t4:=VW (w:=w) (nm:=nm) (t:=on) ()<|A++[B.L<|wsL.map cu];have s3:=c.s3 (A++[B.L<|wsL.map cu]) (some<|.ref δ)<|some<|.ref μ;have hd:=λ(A':Hh) k=>(aU rfl (bG (ao (d9 (ag (b7 ka)<|ag (b7 jb)<|ag (b7 gD)<|ag (b7 gC)<|ag (b7 cT)<|ag (b7 cz)<|ag (b7 gE)<|ag (b7 Ap)<|ag (b7 nh)<|aB<|b7 rH) rfl) rfl w1)<|bG (ao (ao (ao (bJ t1) rfl t2) rfl t3) rfl t4)<|cy s3 k):gF [.ref δ,.ref μ,.str<|T9 nm,.str<|T9 on,.int i] A=some (.B true,A'))
 cases hv:val m on with
 |none=>
  let⟨A1,r1,r2⟩:=yE h1.dk<|c.no h1.dk<|CO h.rl hv;split h.same ⟨A1,?_,p1.trans r2⟩;show hd A1<|eS (bQ (av<|ao rfl (bJ h1.md.now)<|OO h1.md hv)<|dh rfl<|ay<|ao (al (ag rfl<|aB rfl) rfl r1) rfl<|bK rfl) rfl
 |some o=>have ok:=h.md.ok.ok _<|yX hv;let⟨g,D2,A3,s1,s4,s2⟩:=h1.deed hn (row:=T9 R) (o:=some<|mN w o) nofun (λq e=>by ext e;show WL ok) λA2 D=>c.yes D pl (by rw[aeq,aar];lia) (wC h.rl hv) ok hk;split⟨A3,_,_,_,_,?_,(vN p1).trans s4,s2⟩;have y1:=DW h1.md.mid.2<|pR hv;have m1:=Mi (A:=P.mid (A++[B.L<|wsL.map cu]) π es m) c.mem ok;have e1:=h1.md.put (nm:=nm) (q:=mN w o);show hd A3<|eR (av<|ao rfl (bJ h1.md.now)<|Hj h1.md hv)<|NP (eM (bJ h1.md.past) (cI h1.md.ap) (aB<|bn (aB<|bJ h1.md.now)<|QR h1.md.an h1.md.keys)<|h1.md.cpy ())<|cy (Bo (al (ag rfl<|aB<|ao (bJ h1.md.mid.1) rfl y1) rfl m1) (bJ h1.md.mid.1) rfl e1 rfl)<|ay<|ao (cP rfl (c9 D2.at0) (bN fT) (aB rfl) rfl s1) rfl<|Mw A3
end
open M (bh)
def RM:ZC "a"=T9 nm0:=(cS "a").trans ⋯
def RN:ZC "ab"=T9 nm1:=(cS "ab").trans ⋯
def RO:ZC "ba"=T9 nm2:=(cS "ba").trans ⋯
def RP:ZC "zzzzzzzz"=T9 nm3:=(cS "zzzzzzzz").trans ⋯
def RS:ZC " 0: 00"=T9 (32::t0):=(cS " 0: 00").trans ⋯
def OZ(i:Int):∃nm,nm∈nms/\kT (nms.map cu) (i%4)=some (cu nm):=by
 rcases (by lia:i%4=0\/i%4=1\/i%4=2\/i%4=3) with h|h|h|h<;>rw[h]
 .exact⟨nm0,⋯,rfl⟩
 .exact⟨nm1,⋯,rfl⟩
 .exact⟨nm2,⋯,rfl⟩
 .exact⟨nm3,⋯,rfl⟩
section
variable {A A' A2:Hh}{δ p d μ π ν k n:Nat}{es:List Ent}{m:pL}{ps:cY}{ds:eN}{c0 c1:Int}
def St.back(h:St A δ p d μ π ν es m ps k)(hk:k<=190):KQ A δ p d μ π ν k<|jd [.ref δ,.ref μ] A:=by
 cases es with
 |nil=>show h.same<|K5 h
 |cons e es=>let⟨A',ps',b1,b2,b3⟩:=BJ h ();split⟨A',_,_,_,_,b1,λx b hx=>?_,b3.md.le1,b3.dk,b3.rl⟩;simp only[aau,aa3,aa4,not_or] at hx;show b2 x b hx.1 hx.2.1 hx.2.2.1 hx.2.2.2.1
def IL(h:Dsk A δ p d ps ds){nm:LN}(hn:aJ nm):∃A',aZ [.ref δ,.str<|T9<|jn [32] [dN,nm,t0]] A=some (ZC "NoText",A')/\A <+: A':=by
 have n1:=hn.1;have r:Row dN [T9 bL,T9 j6] [nm,t0]:=⟨mR.2,mR.1,rfl,⋯,λkp hk=>by
  simp only[adO,adN,aau,aa3,aa4] at hk;rcases hk with rfl|rfl
  .exact .inr hn
  .exact .inl s!"",λ_ x hx=>by
   simp at hx;subst hx
   show b9 hn,λq=>absurd q s!"",by simp[jn];lia⟩
 show wA (λA' q=>h.mono q) r hn λA' q=>by let⟨A3,a1,a2⟩:=TQ (A:=A');show⟨A3,Az a1,a2⟩
abbrev oA:XT:=tE (aw<|az (eA false) (aa 7)<|rW 3)<|aw<|az (eA false) (cc (h1 b8)<|af (az bI (aa 1)<|xC<|.str "now") aF)<|rW 0
abbrev oB:XT:=tE (aw<|az (eA false) (aa 7)<|rW 6)<|aw<|az Ef (az i9 (az oj (aa 4)<|rW 128)<|rW 3)<|rW 0
def WN(h:Md A p d μ π ν es m k){U:Y.Env}{W:Int}(h7:U[7]?=some (some<|.int W))(h1:U[1]?=some (some<|.ref μ)):∃b,oA U A=some (b,A):=by
 by_cases hW:W=3
 .exact⟨true,oJ (av<|ao (Bp h7) rfl<|bK<|aaz hW)<|dh rfl rfl⟩
 .exact⟨_,oJ (av<|ao (Bp h7) rfl<|bK<|aaA hW)<|fV rfl<|av<|ao (bn (aB<|ao (Bp h1) rfl h.now)<|abd h.an) rfl<|bK rfl⟩
def WO{U:Y.Env}{W M:Int}(h7:U[7]?=some (some<|.int W))(h4:U[4]?=some (some<|.int M)):∃b,oB U A=some (b,A):=by
 by_cases hW:W=6
 .exact⟨true,oJ (av<|ao (Bp h7) rfl<|bK<|aaz hW)<|dh rfl rfl⟩
 .exact⟨_,oJ (av<|ao (Bp h7) rfl<|bK<|aaA hW)<|fV rfl<|av<|ao (ao (ao (Bp h4) rfl<|i8 rfl) rfl<|eX rfl) rfl<|acg rfl⟩
def NJ(h:St A δ p d μ π ν es m ps k)(hk:k<=190)(hc:A[n]?=some (.L [.int c0,.int c1]))(hq:n≠π):KQ A δ p d μ π ν k<|nj [.ref δ,.ref μ,.ref n] A:=by
 let A1:=A++[B.L<|nms.map cu]
 have p1:A <+: A1:=aap _ _;have h1:=h.pre p1;have hc1:=ai p1 hc;have c2:CMul c0 48271:=.inr ⟨⋯,⋯⟩;obtain⟨M,hM⟩:∃M,oj (.int (c0*48271%2147483647)) (.int 37) A1=some (.int M,A1):=⟨_,i8 rfl⟩
 have i0:bI (.ref n) (.int 0) A1=some (.int c0,A1):=bv hc1 rfl;let⟨nm,hn,e1⟩:=OZ<|M/8;let⟨on,ho,e2⟩:=OZ<|M/32;have f1:bI (.ref A.length) (.int<|M/8%4) A1=some (cu nm,A1):=bv aj e1;have f2:bI (.ref A.length) (.int<|M/32%4) A1=some (cu on,A1):=bv aj e2;have up {r:Option<|D×Hh} (s:KQ A1 δ p d μ π ν k r):KQ A δ p d μ π ν k r:=by let⟨A',ν',es',m',ps',s1,s2,s3⟩:=s;show⟨A',ν',es',m',ps',s1,(vN p1).trans s2,s3⟩
 have via {r r':Option<|D×Hh} (s:KQ A1 δ p d μ π ν k r) (e:∀A',r=some (.B true,A')->r'=some (.B true,A')):KQ A δ p d μ π ν k r':=by let⟨A',ν',es',m',ps',s1,s2,s3⟩:=s;show up ⟨A',ν',es',m',ps',e A' s1,s2,s3⟩
 let R:Y.Env:=[some<|.ref δ,some<|.ref μ,some<|.ref n,some<|.ref A.length,some<|.int M,some<|cu nm,some<|cu on,some<|.int<|M%8]
 let⟨qa,oa⟩:=WN (U:=R) h1.md rfl rfl;let⟨qb,ob⟩:=WO (U:=R) (A:=A1) rfl rfl;have a1:ej (af (xC<|.str "a")<|af (xC<|.str "ab")<|af (xC<|.str "ba")<|af (xC<|.str "zzzzzzzz") aF) [some<|.ref δ,some<|.ref μ,some<|.ref n,none,none,none,none,none] A=some (.ref A.length,A1):=d9 (ag (b7 RM)<|ag (b7 RN)<|ag (b7 RO)<|aB<|b7 RP) rfl;have hd:=λ(A':Hh) k=>(aU rfl (bG a1<|bG (ao (ao (ao (bJ i0) rfl<|rY c2) rfl<|eX rfl) rfl hM)<|bG (ao rfl (ao (bJ<|i8 rfl) rfl<|eX rfl) f1)<|bG (ao rfl (ao (bJ<|i8 rfl) rfl<|eX rfl) f2)<|bG (bJ<|eX rfl) k):nj [.ref δ,.ref μ,.ref n] A=some (.B true,A'))
 by_cases k1:M%8<3
 .exact via (h1.back hk) λA' s=>hd A'<|eS (bQ (av<|bJ<|aaR<|aaz k1)<|dh rfl<|ay<|al (ag rfl<|aB rfl) rfl s) rfl
 have hd:=λ(A':Hh) k=>hd A'<|eR (av<|bJ<|aaR<|aaA k1) k;cases qa with
 |true=>
  let⟨A',es',m',ps',s1,s2,s3⟩:=Tg h1 hk hn hc1 hq;show up ⟨A',_,_,_,_,hd A'<|eS (bQ oa<|dh rfl<|ay<|al (ag rfl<|ag rfl<|ag rfl<|aB rfl) rfl s1) rfl,s2,s3⟩
 |false=>
  have hd:=λ(A':Hh) k=>hd A'<|eR oa k;by_cases k4:M%8=4
  .exact via (zK h1 hk hn) λA' s=>hd A'<|eS (bQ (av<|bJ<|bK<|aaz k4)<|dh rfl<|ay<|al (ag rfl<|ag rfl<|aB rfl) rfl s) rfl
  have hd:=λ(A':Hh) k=>hd A'<|eR (av<|bJ<|bK<|aaA k4) k;cases qb with
  |true=>
   have h10:=adT (M/1024) (b:=10) ⋯;have h11:=adU (M/1024) (b:=10) ⋯;show via (zH h1 hk hn ho ⟨h10,h11⟩) λA' s=>hd A'<|eS (bQ ob<|dh rfl<|ay<|al (ag rfl<|ag rfl<|ag rfl<|ag rfl<|aB<|ao (bJ<|i8 rfl) rfl<|eX rfl) rfl s) rfl
  |false=>have kn:=iw hn;have kl:=kn.1;let⟨A2,r1,r2⟩:=IY h1.dk<|IL h1.dk kn;have h2:=h1.pre r2;let⟨A3,r3,r4⟩:=Np h2.dk<|NA hn;have t1:=λA=>zF ye (nm:=nm) (by simp;lia) A;have t2:=gu (A:=A1) (a:=jn [32] [dN,nm]) (b:=32::t0) (by simp[jn];lia);rw[show jn [32] [dN,nm]++32::t0=jn [32] [dN,nm,t0] by simp[jn]] at t2;show up<|h1.same ⟨A3,hd A3<|eR ob<|ay<|sG (q:=true) (ao (al (ag rfl<|aB<|ao (bJ<|t1 A1) (b7 RS) t2) rfl r1) rfl<|bK rfl)<|dh rfl<|ao (al (ag rfl<|aB<|bJ<|t1 A2) rfl r3) rfl<|bK rfl,r2.trans r4⟩
end
open M (bh)
section
variable {A A' A2:Hh}{δ p d μ π ν k:Nat}{es:List Ent}{m:pL}{ps:cY}
def AI{a b:Zl}(h:a.Perm b):M.lm a=M.lm b:=age (λ_ _ _ _ h k=>M.yc h k) (M.sv a) (M.sv b)<|((M.jr a).trans h).trans (M.jr b).symm
theorem yL:∀m:pL,nN (m.map<|vX ze)=some (m.map λkv=>T9 kv.1)
 |[]=>rfl
 |kv::m=>by rw[aax,nN,yL m];rfl
def Jq(h:St A δ p d μ π ν es m ps k):gw (.ref ν) A=some (.ref A.length,A++[.L<|(sx ps).map cu]):=by
 have e:=h.md.an;have e1:i4 (.ref ν) A=none:=by
  unfold i4;have:iR A (.ref ν)=none:=by show A[ν]?.bind B.ls=_;rw[e];rfl
  rw[this];rfl
 have pm:=(h.rl.perm h.md.ok).map T9;have e3:M.lm (m.map λkv=>T9 kv.1)=(sx ps).map T9:=by rw[Jv];split AI ?_;rw[aaP,aaP] at pm;show pm.symm
 have e2:iH (.ref ν) A=some (.ref A.length,A++[.L<|(sx ps).map cu]):=by
  unfold iH;have:og A (.ref ν)=some (m.map<|vX ze):=by show A[ν]?.bind B.dc=_;rw[e];rfl
  rw[this];show ((nN<|m.map<|vX ze).bind _)=_;rw[yL];show (if (m.map λkv=>T9 kv.1).length<64 then _ else _)=_;rw[aar,aac<|adh h.md.ok.len ⋯,e3,aaP];rfl
 unfold gw;rw[e1,e2];rfl
def Ht{l:List LN}(h:∀w∈l,∀c∈w,c<256):∀c∈jn [32] l,c<256:=λc hc=>by
 rcases Hs hc with hc|⟨x,hx,hc⟩
 .cases aaG.1 hc;decide
 .exact h x hx c hc
def yd:ZC "pieces "=T9 (p7++[32]):=(cS "pieces ").trans ⋯
def Aq:ZC "count "=T9 (wS++[32]):=(cS "count ").trans ⋯
def WI:ZC "0"=T9 (bu 0):=(cS "0").trans (by rw[Mo];decide)
def WJ:ZC "1"=T9 (bu 1):=(cS "1").trans (by rw[show bu 1=[49] by decide +kernel];decide)
def oE(i:Int):∀c∈bu i,c<256:=λc hc=>by rcases gN i c hc with h|h<;>lia
def CW(h:St A δ p d μ π ν es m ps k)(hk:k<=190)(c:Int):∃A',kF [.ref δ,.ref μ,.int c] A=some (.B true,A')/\A <+: A':=by
 have hs:=Jq h;have nn:=h.rl.names h.md.ok;have pl:=h.rl.len h.md.ok;let⟨l1,l2⟩:=Db nn
 let A1:=A++[B.L<|(sx ps).map cu]
 have p1:A <+: A1:=aap _ _;have h1:=h.pre p1;have a1:A1[A.length]?=some (.L<|(sx ps).map cu):=aj;let⟨A2,s1,s2⟩:=uF h1.dk () nn;rw[<-eO] at s1;have j1:=vU (A:=A2) (k:=A.length) (y:=[32]) (l:=sx ps) (ai s2 a1) (by rw[l2];show _+_*1<=_;lia);have sm:∀w∈sx ps,∀c∈w,c<256:=λw hw c hc=>by let⟨kv,hk,rfl⟩:=abm.1<|(nJ ps).mem_iff.mp hw;have:=(nn kv hk).2 c hc;lia
 have q1:=wj (A:=A2)<|Ht sm;have hd:=λ(A':Hh) k=>(aU rfl (bG (bn (aB<|bJ h.md.now) hs)<|eR (av<|ao (cP rfl (c9 h1.dk.at0) (bN fT) (aB rfl) rfl s1) (eM rfl rfl (aB rfl)<|by rw[iM];show j1) q1) k):kF [.ref δ,.ref μ,.int c] A=some (.B true,A'))
 have h2:=h1.pre s2;have a2:=ai s2 a1;have l3:Y.h1 b8 [.ref A.length] A2=some (.int (ps.length:Int),A2):=ed a2<|#v[aar,l2];by_cases h0:(ps.length:Int)=0
 .exact⟨A2,hd A2<|eS (bQ (av<|ao (bn (aB rfl) l3) rfl<|bK<|aaz h0)<|dh rfl<|ay rfl) rfl,p1.trans s2⟩
 have c1:=adT c h0;have c2:=adU c (b:=(ps.length:Int)) ();obtain⟨i,hi⟩:∃i:Nat,c%(ps.length:Int)=i:=⟨(c%(ps.length:Int)).toNat,()⟩
 rw[hi] at c2;have hi2:i<(sx ps).length:=()
 obtain⟨nm,hnm⟩:∃nm,(sx ps)[i]?=some nm:=⟨_,ab8 hi2⟩
 have ha:kT ((sx ps).map cu) (c%(ps.length:Int))=some (cu nm):=by rw[hi];show bh (by rw[aaX,hnm];rfl)
 have hk2:nm∈m.map (·.1):=(h.rl.perm h.md.ok).mem_iff.mp<|(nJ ps).mem_iff.mp<|abp hnm;let⟨o,hv⟩:=Option.ne_none_iff_exists'.1<|mem_key.1 hk2;have hP:=wC h.rl hv;have hm:=yX hv;have ok:Lk k o:=h.md.ok.ok _ hm;have kn:aJ nm:=iw<|h.md.ok.nm _ hm;have kl:=kn.1;have e0:i9 (.int c) (.int (ps.length:Int)) A2=some (.int<|c%(ps.length:Int),A2):=eX<|aaz ();have y1:=DW h2.md.an<|pR hv;have hd:=λ(A':Hh) k=>hd A'<|eR (av<|ao (bn (aB rfl) l3) rfl<|bK<|aaA h0)<|bG (ao rfl (ao rfl (bn (aB rfl) l3) e0)<|bv a2 ha)<|bG (ao (bJ h2.md.now) rfl y1) k;let⟨A3,t1,t2⟩:=Ji h2.dk kn hP<|yf ok ();have h3:=h2.pre t2;have w1:=zF Eu (nm:=nm) (by simp;lia) A2;have w2:=zF yd (nm:=nm) (by simp;lia) A3;cases o with
 |none=>
  let⟨A4,u1,u2⟩:=ss h3.dk kn hP (i:=0) rfl ⋯;split⟨A4,hd A4<|eS (bQ (av rfl)<|dh rfl<|ay<|sG (q:=true) (ao (cP rfl (c9 h2.dk.at0) (bN fT) (aB<|bJ w1) rfl t1) rfl<|aS A3 oq ⋯)<|dh rfl<|ao (cP rfl (c9 h3.dk.at0) (bN fT) (aB<|bJ w2) rfl u1) rfl<|aS A4 WI<|oE 0) rfl,((p1.trans s2).trans t2).trans u2⟩
 |some t=>
  let⟨A4,u1,u2⟩:=ss h3.dk kn hP (i:=1) rfl ⋯;have h4:=h3.pre u2;have b1:=ok.1;have b2:=ok.2.1;have bb:(0:Int)<BB:=by decide +kernel
  have kN:uU<|t.2.2-t.2.1+1:=wn () ();let⟨A5,v1,v2⟩:=Ff h4.dk kn hP (i:=t.2.2-t.2.1+1) rfl kN;have w3:=zF Aq (nm:=nm) (by simp;lia) A4;have x1:=yg (A:=A3)<|yf ok ();have g1:bI (ze<|some t) (.int 2) A5=some (.int t.2.2,A5):=cD rfl;have g2:bI (ze<|some t) (.int 1) A5=some (.int t.2.1,A5):=cD rfl;split⟨A5,hd A5<|eR (av rfl)<|eR (oJ (av<|ao (cP rfl (c9 h2.dk.at0) (bN fT) (aB<|bJ w1) rfl t1) (al (aB rfl) rfl x1)<|wj sF)<|fV rfl<|av<|ao (cP rfl (c9 h3.dk.at0) (bN fT) (aB<|bJ w2) rfl u1) rfl ?_)<|ay<|ao (cP rfl (c9 h4.dk.at0) (bN fT) (aB<|bJ w3) rfl v1) (bn (aB<|ao (ao (bJ g1) (bJ g2) rfl) rfl rfl)<|ic kN)<|aS A5 rfl<|oE _,(((p1.trans s2).trans t2).trans u2).trans v2⟩;rw[WJ];show wj<|oE 1
end
open M (bh)
section
variable {A A':Hh}{δ p d μ π ν k n:Nat}{es:List Ent}{m:pL}{ps:cY}
def EF(h:Dsk A δ p d [] []):∃A',(∀U,uO ["now", "past"] [sI,ej aF] U A=some (.ref A.length,A'))/\St A' δ p d A.length (A.length+2) (A.length+1) [] [] [] 0:=by
 have lp:=gv h.atp;have ld:=gv h.atd;have n1:=h.ne.2.2
 let A3:Hh:=A++[B.K []]++[B.K []]++[B.L []]
 let kv:List (bH×D):=[(.inr "now",.ref<|A.length+1),(.inr "past",.ref<|A.length+2)]
 have a0:A3[A.length]?=some (.K []):=ai (aap _ _)<|ai (aap _ _) aj;have a1:A3[A.length+1]?=some (.K []):=ai (aap _ _) (by
  have:=aj (A:=A++[B.K []]) (b:=.K [])
  rwa[aat] at this)
 have a2:A3[A.length+2]?=some (.L []):=by have:=aj (A:=A++[B.K []]++[B.K []]) (b:=.L []);rwa[aat,aat] at this
 have p3:A <+: A3:=((aap _ _).trans<|aap _ _).trans<|aap _ _;split⟨A3.set A.length<|.K kv,λU=>?_,⟨cF a0,?_,?_,nofun,?_,⟨.nil,nofun,nofun⟩,nofun,rfl,aaL _⟩,(h.mono p3).st a0 nofun () (),λ_=>rfl,.nil⟩
 .have v1:Dt [sI,ej aF] U (A++[.K []])=some ([.ref<|A.length+1,.ref<|A.length+2],A3):=by
   have e1:(A++[B.K []]).length=A.length+1:=aat;have e2:(A++[B.K []]++[B.K []]).length=A.length+2:=by rw[aat,aat];rfl
   have:=ag (a:=sI) (U:=U) (A:=A++[B.K []]) rfl<|ag (a:=ej aF) (A:=A++[B.K []]++[B.K []]) (d9 rfl rfl) (rfl:aF U _=_);rw[e1,e2] at this;show this
  unfold uO;rw[v1];show ((A3[A.length]?.bind B.dc).bind _)=_;rw[a0];show aac (e:=none) (c:=((0=0/\2=2)/\2<=15/\([ZC "now",ZC "past"]:Zl).Nodup)) ⟨⟨rfl,rfl⟩,⋯,s!""⟩
 .rw[aav ()];show a1
 .rw[aav ()];show a2
 .simp;lia
abbrev Bst(δ p d μ π k:Nat)(A:Hh):Prop:=∃ν es m ps,St A δ p d μ π ν es m ps k
def RV(n:Nat)(h:n<=63):vj [.int (n:Int),.int 98] A=some (.int (n:Int),A):=by
 have:¬(98:Int)<n:=()
 simp[this]
def Gj{ns:Zn}(hl:ns.length<=63)(h0:k<ns.length)(s1 s2 s4:Zd):∃c0 c1,Nl (BD [some<|.S<|ns.map D.int,s1,s2,some<|.int k,s4] A) A [.int c0,.int c1]:=by
 have ix (j:Nat):∃c,kT (ns.map D.int) (((k:Int)+(j:Int))%(ns.length:Int))=some (.int c):=by
  have b1:=adT ((k:Int)+(j:Int)) (b:=(ns.length:Int)) ();have b2:=adU ((k:Int)+(j:Int)) (b:=(ns.length:Int)) ();generalize ((k:Int)+(j:Int))%(ns.length:Int)=r at *;let⟨i,rfl⟩:=afo b1;have hi:i<ns.length:=()
  show⟨ns[i],bh<|by rw[aaX,ab8 hi];rfl⟩
 let⟨c0,e0⟩:=ix 0;let⟨c1,e1⟩:=ix 1;split⟨c0,c1,?_⟩;have hz:0<ns.length:=()
 have ln (A':Hh):h1 b8 [.S<|ns.map D.int] A'=some (.int (ns.length:Int),A'):=by simp
 have sb (A':Hh) (j:Nat) (c:Int) (e:kT (ns.map D.int) (((k:Int)+(j:Int))%(ns.length:Int))=some (.int c)):bI (.S<|ns.map D.int) (.int<|((k:Int)+(j:Int))%(ns.length:Int)) A'=some (.int c,A'):=by simp[e]
 have:=cj (it:=pk<|af (rW 2) aF) (js:=[none,some 3,some 0]) (g:=au 0) (e:=az bI (aa 2)<|az i9 (az aN (aa 1)<|aa 0)<|cc (h1 b8)<|af (aa 2) aF) (U:=[some<|.S<|ns.map D.int,s1,s2,some<|.int k,s4]) (A:=A) (as:=ZV 2) (enc:=λj:Nat=>D.int j) (h:=λj=>D.int (if j=0 then c0 else c1)) (PZ (aB rfl) ⋯) (by show Hz) ⋯ (λ_ _=>eh) λj hj A' _=>by
  have hj:=acd.1 hj;have md:i9 (.int<|(k:Int)+(j:Int)) (.int (ns.length:Int)) A'=some (.int<|((k:Int)+(j:Int))%(ns.length:Int),A'):=eX<|aaz ();have e:kT (ns.map D.int) (((k:Int)+(j:Int))%(ns.length:Int))=some (.int (if j=0 then c0 else c1)):=by
   rcases (by lia:j=0\/j=1) with rfl|rfl
   .exact e0
   .exact e1
  show⟨_,rfl,A',ao rfl (ao (ao rfl rfl rfl) (bn (aB rfl)<|ln A') md)<|sb A' j _ e,aaE _⟩
 show this
end
def RJ(ns:Zn)(hl:ns.length<=63):∃A',um [.S<|ns.map D.int] []=some (.B true,A'):=by
 let⟨A1,k1,k2,k3⟩:=GC (A:=[]);let⟨A2,m1,m2⟩:=EF k3;generalize ([]:Hh).length=δ at *;generalize δ+1=p at *;generalize δ+2=d at *;generalize A1.length+2=π at *;generalize A1.length+1=ν at *;generalize A1.length=μ at *
 let E (v3 v4:Zd):Y.Env:=[some<|.S<|ns.map D.int,some<|.ref δ,some<|.ref μ,v3,v4]
 have ln (A':Hh):h1 b8 [.S<|ns.map D.int] A'=some (.int (ns.length:Int),A'):=by simp
 -- forth
 let⟨U',A3,f1,v3,v4,rfl,ν3,es3,m3,ps3,f2⟩:=kC (enc:=λk:Nat=>D.int k) (g:=au 3) (x:=Bx) (w:=.sq ((ZV ns.length).map λk:Nat=>D.int k)) (as:=ZV ns.length) (U:=E none none) (A:=A2) (λpre U A=>∃v3 v4,U=E v3 v4/\Bst δ p d μ π pre.length A) (λ_ _ _ _ _ _=>eh) (by
  rintro pre k post _ A e ⟨v3,v4,rfl,ν,es,m,ps,h⟩;have hk:k<ns.length:=acd.1 (by rw[e];simp);have hp:pre.length<=63:=by have:=aaF ag7 e;rw[aat,acl] at this;lia
  let⟨c0,c1,A4,n,a1,a2,a3,a4⟩:=Gj (A:=A) hl hk (some<|.ref δ) (some<|.ref μ) v4;have h4:=h.pre a2;have l1:=gv h.dk.atp;have l2:=gv h.dk.atd;have l3:=gv h.md.am;have l4:=gv h.md.ap;have l5:=gv h.md.an;let⟨A5,ν5,es5,m5,ps5,s1,s2,s3⟩:=NJ h4 () a4 ();have a5:=s2 n _ (by simp;lia) a4;let⟨A6,t1,t2⟩:=CW s3 () c1;split⟨_,A,rfl,_,A6,.inl<|bG a1<|bQ (oJ (fh<|fi<|al (ag rfl<|ag rfl<|aB rfl) rfl s1)<|fV rfl<|fh<|fi<|al (ag rfl<|ag rfl<|aB<|bJ<|bv a5 rfl) rfl t1)<|fV rfl rfl,some<|.int k,some<|.ref n,rfl,ν5,es5,m5,ps5,?_⟩;rw[aat]
  show s3.pre t2) ⟨none,none,rfl,ν,[],[],[],m2⟩
 rw[acl] at f1 f2
 -- and back
 let⟨U'',A4,g1,v5,v6,rfl,ν4,m4,ps4,g2⟩:=Fx (c:=uT) (x:=Bz) (λU A=>∃v3 v4,U=E v3 v4/\Bst δ p d μ π ns.length A) (λ_ A=>((A[π]?.bind B.ls).getD []).length) (λU A=>∃v3 v4,U=E v3 v4/\∃ν m ps,St A δ p d μ π ν [] m ps ns.length) (by
  rintro _ A ⟨v3,v4,rfl,ν,es,m,ps,h⟩;have lp:=ed h.md.ap rfl;have c1 (b:Bool) (hb:decide ((0:Int)<(((es.map λe=>D.ref e.a).reverse.length:Nat):Int))=b):uT (E v3 v4) A=some (b,A):=av<|ao (bn (aB<|bJ h.md.past) lp) rfl<|acg hb;cases es with
  |nil=>show .inl ⟨A,c1 false rfl,v3,v4,rfl,ν,m,ps,h⟩
  |cons e es=>
   let⟨A5,ps5,b1,_,b3⟩:=BJ h ();let⟨A6,t1,t2⟩:=CW b3 () (((es.map λe=>D.ref e.a).reverse.length:Nat):Int);have h6:=b3.pre t2;split .inr ⟨A,c1 true<|by simp,E v3 v4,A6,bQ (oJ (fh<|fi<|al (ag rfl<|aB rfl) rfl b1)<|fV rfl<|fh<|fi<|al (ag rfl<|ag rfl<|aB<|bn (aB<|bJ b3.md.past)<|ed b3.md.ap rfl) rfl t1)<|fV rfl rfl,⟨v3,v4,rfl,_,_,_,_,h6⟩,?_⟩;show ((A6[π]?.bind B.ls).getD []).length<((A[π]?.bind B.ls).getD []).length;rw[h6.md.ap,h.md.ap];show (es.map _).reverse.length<((e::es).map _).reverse.length
   simp) ⟨v3,v4,rfl,ν3,es3,m3,ps3,f2⟩ (by
  rw[f2.md.ap];have:=f2.md.le;show (es3.map _).reverse.length<_;simp
  lia)
 let⟨A5,r1,r2⟩:=yD g2.dk<|tS g2.dk;rw[<-fK] at r1;have h5:=g2.pre r2;have e0:m4=[]:=h5.md.ch;have pl:=h5.rl.perm h5.md.ok;rw[e0] at pl;have e1:ps4=[]:=agp.1 pl.eq_nil;subst e1;let⟨A6,s1,s2⟩:=uF h5.dk ⋯ nofun;rw[<-eO] at s1;have w:=jA (I:=pk<|af (cc vj<|af (cc (h1 b8)<|af (aa 0) aF)<|af (rW 98) aF) aF) (U:=E none none) (A:=A2) (PZ (aB<|bn (ag (bn (aB rfl)<|ln A2)<|aB rfl)<|RV ns.length hl) ()) Hz f1;have q:eA false (.str<|T9<|jn [32]<|sx []) (.str "") A6=some (.B true,A6):=aS A6 zV nofun;show⟨A6,aU rfl<|bG (k1 _)<|bG (m1 _)<|cy w<|cy g1<|ay<|sG (q:=true) (ao (al (ag rfl<|aB rfl) rfl r1) rfl<|bK rfl)<|dh rfl<|ao (cP rfl (c9 h5.dk.at0) (bN fT) (aB rfl) rfl s1) rfl q⟩
end P
namespace Y
open L2
def HG(ns:Zn)(h:ns.length<=63):∃A',um [.S<|ns.map D.int] []=some (.B true,A'):=P.RJ ns h
end Y
namespace Lw
open PySem.W PyProof.Rows L2 Y
def Qr{l:aic}{w:ZI}{K:agN}{h:ZH}{mg:Zg}{fa:ZB}(X:K.In h)(κ:h.Ns ZK mg)(hfa:mg "law"=some (.ref fa))
  (A1:Cf K "Box" A8)
  (A0:Cf K "Desk" A7)
  (U8:ZR K ZK "Form"=some (some<|.ref B5))
  (A2:X4 K A6 A5 A4 A3)
  (U9:ZR K ZK "NoForm"=some (some<|.ref Q3))
  (W0:ZR K ZK "TooGreat"=some (some<|.ref Q4))
  (W1:ZR K ZK "TooMany"=some (some<|.ref Q5))
  (V9:ZR K ZK "ShapeError"=some (some<|.ref A9))
  (U7:agQ K (.ref A7) "__init__"=some (some<|.ref Q7))
  (Q0:findCls K (.ref B5) (.type "type") "__init__"=some (.val<|.ref R6))
  (U6:agQ K (.ref A8) "__init__"=some (some<|.ref Q6))
  (D5:agQ K (.ref A7) "meant"=some (some<|.ref Q9))
  (P9:agQ K (.ref A7) "set_picture"=some (some<|.ref R4))
  (D7:agQ K (.ref A7) "take_back"=some (some<|.ref R5))
  (P8:agQ K (.ref A7) "do"=some (some<|.ref Q8))
  (P7:agQ K (.ref A8) "smaller"=some (some<|.ref S1))
  (P3:agQ K (.ref A8) "greater"=some (some<|.ref R8))
  (P2:agQ K (.ref A8) "closed"=some (some<|.ref R7))
  (P4:agQ K (.ref A8) "opened"=some (some<|.ref R9))
  (D6:agQ K (.ref A7) "say"=some (some<|.ref R0))
  (A15:ZR K ZK "MOST_CELLS"=some (some<|.int (1000) B87))
  (A11:ZR K ZK "BY_EIGHT"=some (some<|.int (1) B83))
  (A12:ZR K ZK "BY_FOUR"=some (some<|.int (0) B84))
  (A13:ZR K ZK "FIGURES"=some (some<|.str (ZC "0123456789") B85))
  (A16:ZR K ZK "MOST_FIGURES"=some (some<|.int (60) B88))
  (A22:ZR K ZK "WITHOUT_CELLS"=some (some<|.str (ZC "nothing") C10))
  (A18:ZR K ZK "ROUND"=some (some<|.ref D8))
  (A21:ZR K ZK "STRAIGHT"=some (some<|.ref G4))
  (A20:ZR K ZK "SIDES"=some (some<|.ref G3))
  (A14:ZR K ZK "LETTERS"=some (some<|.str (ZC "abcdefghijklmnopqrstuvwxyz") B86))
  (A17:ZR K ZK "MOST_LETTERS"=some (some<|.int (8) B89))
  (A19:ZR K ZK "ROWS"=some (some<|.ref B6))
  (W5:Tv K D8 [.ref S4,.ref S5,.ref S6,.ref S7,.ref S8,.ref S9,.ref U0,.ref ρ1])
  (A10:Ti K G4 [1,4,16,64])
  (A05:Tv K G3 [.ref ρ2,.ref ρ3,.ref U4,.ref U5])
  (Y4:K.lookup B6=some ⟨.type "dict",none,.dict #[⟨agG w.params<|Str.ofString "put",.str (ZC "put") B90,.ref D9⟩,⟨agG w.params<|Str.ofString "join",.str (ZC "join") B91,.ref E1⟩,⟨agG w.params<|Str.ofString "common",.str (ZC "common") C02,.ref F5⟩,⟨agG w.params<|Str.ofString "less",.str (ZC "less") C03,.ref F6⟩,⟨agG w.params<|Str.ofString "either",.str (ZC "either") C04,.ref F7⟩,⟨agG w.params<|Str.ofString "greater",.str (ZC "greater") C05,.ref F8⟩,⟨agG w.params<|Str.ofString "smaller",.str (ZC "smaller") C06,.ref F9⟩,⟨agG w.params<|Str.ofString "opened",.str (ZC "opened") C07,.ref G0⟩,⟨agG w.params<|Str.ofString "closed",.str (ZC "closed") C08,.ref G1⟩,⟨agG w.params<|Str.ofString "thin",.str (ZC "thin") C09,.ref G2⟩,⟨agG w.params<|Str.ofString "fill",.str (ZC "fill") B92,.ref E2⟩,⟨agG w.params<|Str.ofString "drop",.str (ZC "drop") B93,.ref E3⟩,⟨agG w.params<|Str.ofString "back",.str (ZC "back") B94,.ref E5⟩,⟨agG w.params<|Str.ofString "show",.str (ZC "show") B95,.ref E7⟩,⟨agG w.params<|Str.ofString "count",.str (ZC "count") B96,.ref E8⟩,⟨agG w.params<|Str.ofString "pieces",.str (ZC "pieces") B97,.ref E9⟩,⟨agG w.params<|Str.ofString "holes",.str (ZC "holes") B98,.ref F0⟩,⟨agG w.params<|Str.ofString "same",.str (ZC "same") B99,.ref F2⟩,⟨agG w.params<|Str.ofString "within",.str (ZC "within") C00,.ref F3⟩,⟨agG w.params<|Str.ofString "names",.str (ZC "names") C01,.ref F4⟩] B82,#[]⟩)
  (B8:Dm K "__init__" "Desk.__init__" (a8 (aP 100) 0) Q7 B06)
  (J7:Dn K "is_read" (aP 89) A64 B42)
  (N3:Dn K "split_row" (aP 92) A94 B71)
  (J6:Dn K "is_name" (aP 90) A63 B41)
  (D2:Dn K "words_of" (aP 91) B03 B80)
  (M4:Dn K "row_of" (aP 10) A85 B62)
  (L4:Dn K "picture_of" (aP 21) A71 B48)
  (O3:Dn K "writes_whole" (aP 72) B04 B81)
  (D0:Dn K "read_whole" (aP 71) A78 B55)
  (C8:Dn K "read_stretch" (aP 70) A76 B53)
  (C9:Dn K "read_stretches" (aP 69) A77 B54)
  (M9:Dn K "show_stretch" (aP 67) A90 B67)
  (M8:Dn K "show_row" (aP 66) A89 B66)
  (M7:Dn K "show" (aP 65) A88 B65)
  (C7:Dn K "read" (aP 68) A74 B51)
  (B3:Dk K "__init__" "Form.__init__" (a8 (aP 45) 0) R6 B12)
  (Q2:specialIn K (.ref B5) "__getattribute__"=some (some<|.builtin "type.__getattribute__"))
  (Q1:readsIn K B5 (.type "type")=true)
  (B7:Dm K "__init__" "Box.__init__" (a8 (aP 46) 0) Q6 B05)
  (J0:Dn K "form_written" (aP 94) A57 B35)
  (L7:Dn K "read_form" (aP 93) A75 B52)
  (B0:Dm K "meant" "Desk.meant" (a8 (aP 100) 2) Q9 B08)
  (C0:Dm K "set_picture" "Desk.set_picture" (a8 (aP 100) 5) R4 B10)
  (B2:Dm K "take_back" "Desk.take_back" (a8 (aP 100) 4) R5 B11)
  (B9:Dm K "do" "Desk.do" (a8 (aP 100) 3) Q8 B07)
  (M0:Dn K "row_count" (aP 15) A81 B58)
  (I6:Dn K "count_cells" (aP 30) A53 B31)
  (N5:Dn K "stretches_of" (aP 22) A95 B72)
  (I7:Dn K "count_up_to" (aP 11) A54 B32)
  (H9:Dn K "begun_between" (aP 44) A48 B26)
  (L8:Dn K "row_at" (aP 23) A79 B56)
  (O0:Dn K "touching" (aP 52) B00 B77)
  (O2:Dn K "walk_from" (aP 53) B02 B79)
  (I3:Dn K "classes_of" (aP 54) A50 B28)
  (L6:Dn K "pieces" (aP 55) A73 B50)
  (M6:Dn K "rows_with_cells" (aP 24) A87 B64)
  (M2:Dn K "row_gaps" (aP 18) A83 B60)
  (L5:Dn K "picture_of_gaps" (aP 57) A72 B49)
  (J5:Dn K "holes" (aP 59) A62 B40)
  (N9:Dn K "told" (aP 98) A99 B76)
  (J8:Dn K "join" (aP 25) A65 B43)
  (M1:Dn K "row_either" (aP 14) A82 B59)
  (L9:Dn K "row_common" (aP 12) A80 B57)
  (M3:Dn K "row_less" (aP 13) A84 B61)
  (J9:Dn K "less" (aP 27) A67 B44)
  (I8:Dn K "either" (aP 28) A55 B33)
  (I4:Dn K "common" (aP 26) A51 B29)
  (L3:Dn K "made_of_two" (aP 95) A70 B47)
  (I9:Dn K "filled" (aP 60) A56 B34)
  (N0:Dn K "shrunk_down" (aP 38) A91 B68)
  (M5:Dn K "row_shrunk" (aP 17) A86 B63)
  (N1:Dn K "smaller_by_block" (aP 41) A92 B69)
  (N2:Dn K "smaller_by_part" (aP 42) A93 B70)
  (C5:Dm K "smaller" "Form.smaller" (a8 (aP 45) 3) S1 B16)
  (J3:Dn K "greater_by_block" (aP 39) A60 B38)
  (J4:Dn K "greater_by_part" (aP 40) A61 B39)
  (C3:Dm K "greater" "Form.greater" (a8 (aP 45) 2) R8 B14)
  (C1:Dm K "closed" "Form.closed" (a8 (aP 45) 5) R7 B13)
  (C4:Dm K "opened" "Form.opened" (a8 (aP 45) 4) R9 B15)
  (L1:Dn K "made_by_form" (aP 96) A69 B46)
  (O1:Dn K "turns" (aP 76) B01 B78)
  (I5:Dn K "count_around" (aP 77) A52 B30)
  (J2:Dn K "goes" (aP 84) A59 B37)
  (N6:Dn K "take_pass" (aP 83) A96 B73)
  (J1:Dn K "free_cells" (aP 82) A58 B36)
  (N7:Dn K "take_round" (aP 81) A97 B74)
  (I0:Dn K "cells_of" (aP 33) A49 B27)
  (D1:DkD K "thinned" (aP 80) A98 B75)
  (L0:Dn K "made" (aP 97) A68 B45)
  (B1:Dm K "say" "Desk.say" (a8 (aP 100) 1) R0 B09)
  (C6:Dn K "_law_refused" (aP 102) A44 B22)
  (G6:Dn K "_law_back" (aP 108) A39 B17)
  (H8:Dn K "_law_text" (aP 103) A47 B25)
  (H0:Dn K "_law_put" (aP 105) A43 B21)
  (G8:Dn K "_law_dropped" (aP 107) A41 B19)
  (G9:Dn K "_law_made" (aP 104) A42 B20)
  (G7:Dn K "_law_changed" (aP 106) A40 B18)
  (H7:Dn K "_law_step" (aP 109) A46 B24)
  (H6:Dn K "_law_seen" (aP 110) A45 B23)
  (B4:Dn K "law" (aP 111) A66 S2)
  (W4:agQ K (.ref A7) "pictures"=some none)
  (W3:agQ K (.ref A7) "deeds"=some none)
  (W2:agQ K (.ref A8) "parts"=some none)
  (W6:Ti K S4 [0,-1,1])
  (W7:Ti K S5 [-1,-1,2])
  (W8:Ti K S6 [-1,0,4])
  (W9:Ti K S7 [-1,1,8])
  (Y0:Ti K S8 [0,1,16])
  (Y1:Ti K S9 [1,1,32])
  (Y2:Ti K U0 [1,0,64])
  (Y3:Ti K ρ1 [1,-1,128])
  (A06:Ti K ρ2 [0,-1])
  (A07:Ti K ρ3 [-1,0])
  (A08:Ti K U4 [0,1])
  (A09:Ti K U5 [1,0])
  (Y5:Ts K D9 ["NEW", "TEXT"])
  (Y6:Ts K E1 ["NEW", "ONE", "OTHER"])
  (σ7:Ts K F5 ["NEW", "ONE", "OTHER"])
  (σ8:Ts K F6 ["NEW", "ONE", "OTHER"])
  (Z9:Ts K F7 ["NEW", "ONE", "OTHER"])
  (A00:Ts K F8 ["NEW", "ONE", "FORM"])
  (A01:Ts K F9 ["NEW", "ONE", "FORM"])
  (A02:Ts K G0 ["NEW", "ONE", "FORM"])
  (A03:Ts K G1 ["NEW", "ONE", "FORM"])
  (A04:Ts K G2 ["NEW", "ONE"])
  (Y7:Ts K E2 ["NEW", "ONE"])
  (Y8:Ts K E3 ["ONE"])
  (Y9:Ts K E5 [])
  (σ0:Ts K E7 ["ONE"])
  (σ1:Ts K E8 ["ONE"])
  (σ2:Ts K E9 ["ONE"])
  (σ3:Ts K F0 ["ONE"])
  (Z4:Ts K F2 ["ONE", "OTHER"])
  (σ5:Ts K F3 ["ONE", "OTHER"])
  (σ6:Ts K F4 [])
  (G5:B6≠agF)
  (A29:ZR K ZK "len"=some none)
  (A37:ZR K ZK "tuple"=some none)
  (A34:ZR K ZK "sorted"=some none)
  (A30:ZR K ZK "max"=some none)
  (A31:ZR K ZK "min"=some none)
  (A27:ZR K ZK "int"=some none)
  (A35:ZR K ZK "str"=some none)
  (A36:ZR K ZK "sum"=some none)
  (A24:ZR K ZK "all"=some none)
  (A25:ZR K ZK "any"=some none)
  (A28:ZR K ZK "isinstance"=some none)
  (A32:ZR K ZK "range"=some none)
  (A33:ZR K ZK "reversed"=some none)
  (A38:ZR K ZK "zip"=some none)
  (A26:ZR K ZK "dict"=some none)
  (A23:ZR K ZK "ValueError"=some none)
  (O7:KO K A6 A5 A4 A3 (.ref A5) false true false false)
  (O6:KO K A6 A5 A4 A3 (.ref A4) false false true false)
  (O8:KO K A6 A5 A4 A3 (.ref A6) true false false false)
  (O5:KO K A6 A5 A4 A3 (.ref Q3) false false false false)
  (O9:KO K A6 A5 A4 A3 (.ref Q4) false false false false)
  (O4:KO K A6 A5 A4 A3 (.ref A3) false false false true)
  (P0:KO K A6 A5 A4 A3 (.ref Q5) false false false false)
  (P1:KO K A6 A5 A4 A3 (.type "ValueError") true true true true)
  (D4:aig K (.ref A6) (.ref A9)=some true/\aig K (.ref A5) (.ref A9)=some true/\aig K (.ref A4) (.ref A9)=some true/\aig K (.ref A3) (.ref A9)=some true)
  : ∃fd:ZW,(∀(s:ZD) (v:ZE),ah1 s fd ⟨[v],[]⟩ [("_law_script",v)])/\∀base:ZH,K.In base->base.Ns ZK mg->Zs l.prog w K mg base my 88 fa fd ["_law_script"] (zf K 1 um):=by
 have e:=hfa.symm.trans<|abh X κ B4.n;ext e;let⟨_,_,_,_,_,_,_,_,_,hfd,_⟩:=B4.d.F.ex;split⟨S2,λs v=>.of_eq<|by rw[hfd];rfl,λbase _ _=>?_⟩;have t0:TOk T0 l.prog w K mg base 0:=by
  split⟨λ_ _ _ h=>(nomatch h),λ_ _ _ _ h=>(nomatch h),λ_ _ _ h=>(nomatch h),λ_ _ _ h=>(nomatch h),λf Ns h=>?_,λx d h=>?_,λx tab h=>?_,?_⟩
  ·
   rcases aE h with ⟨rfl,rfl⟩|h
   .exact bB A0.n ⟨A0.c,W4⟩<|cg
   rcases aE h with ⟨rfl,rfl⟩|h
   .exact bB A0.n ⟨A0.c,W3⟩<|cg
   rcases aE h with ⟨rfl,rfl⟩|h
   .exact bB A1.n ⟨A1.c,W2⟩<|cg
   ext h
  ·
   rcases aE h with ⟨rfl,rfl⟩|h
   .exact⟨_,.int<|1000,abh X κ A15,⟨_,rfl⟩,λ_ _=>.at rfl⟩
   rcases aE h with ⟨rfl,rfl⟩|h
   .exact⟨_,.int<|1,abh X κ A11,⟨_,rfl⟩,λ_ _=>.at rfl⟩
   rcases aE h with ⟨rfl,rfl⟩|h
   .exact⟨_,.int<|0,abh X κ A12,⟨_,rfl⟩,λ_ _=>.at rfl⟩
   rcases aE h with ⟨rfl,rfl⟩|h
   .exact⟨_,.str<|Str.ofString "0123456789",abh X κ A13,⟨_,rfl⟩,λ_ _=>.at rfl⟩
   rcases aE h with ⟨rfl,rfl⟩|h
   .exact⟨_,.int<|60,abh X κ A16,⟨_,rfl⟩,λ_ _=>.at rfl⟩
   rcases aE h with ⟨rfl,rfl⟩|h
   .exact⟨_,.str<|Str.ofString "nothing",abh X κ A22,⟨_,rfl⟩,λ_ _=>.at rfl⟩
   rcases aE h with ⟨rfl,rfl⟩|h
   .exact⟨_,.ref D8,abh X κ A18,rfl,wP W5<|fS (dZ W6)<|fS (dZ W7)<|fS (dZ W8)<|fS (dZ W9)<|fS (dZ Y0)<|fS (dZ Y1)<|fS (dZ Y2)<|fS (dZ Y3)<|GB⟩
   rcases aE h with ⟨rfl,rfl⟩|h
   .exact⟨_,.ref G4,abh X κ A21,rfl,dZ A10⟩
   rcases aE h with ⟨rfl,rfl⟩|h
   .exact⟨_,.ref G3,abh X κ A20,rfl,wP A05<|fS (dZ A06)<|fS (dZ A07)<|fS (dZ A08)<|fS (dZ A09)<|GB⟩
   rcases aE h with ⟨rfl,rfl⟩|h
   .exact⟨_,.str<|Str.ofString "abcdefghijklmnopqrstuvwxyz",abh X κ A14,⟨_,rfl⟩,λ_ _=>.at rfl⟩
   rcases aE h with ⟨rfl,rfl⟩|h
   .exact⟨_,.int<|8,abh X κ A17,⟨_,rfl⟩,λ_ _=>.at rfl⟩
   ext h
  ·
   rcases aE h with ⟨rfl,rfl⟩|h
   .exact⟨B6,[(ZC "put",.ref D9),(ZC "join",.ref E1),(ZC "common",.ref F5),(ZC "less",.ref F6),(ZC "either",.ref F7),(ZC "greater",.ref F8),(ZC "smaller",.ref F9),(ZC "opened",.ref G0),(ZC "closed",.ref G1),(ZC "thin",.ref G2),(ZC "fill",.ref E2),(ZC "drop",.ref E3),(ZC "back",.ref E5),(ZC "show",.ref E7),(ZC "count",.ref E8),(ZC "pieces",.ref E9),(ZC "holes",.ref F0),(ZC "same",.ref F2),(ZC "within",.ref F3),(ZC "names",.ref F4)],abh X κ A19,⟨_,_,Y4,by repeat (first|show .nil|split .cons rfl rfl ?_),show ([ZC "put",ZC "join",ZC "common",ZC "less",ZC "either",ZC "greater",ZC "smaller",ZC "opened",ZC "closed",ZC "thin",ZC "fill",ZC "drop",ZC "back",ZC "show",ZC "count",ZC "pieces",ZC "holes",ZC "same",ZC "within",ZC "names"]:Zl).Nodup by decide +kernel,G5⟩,TabZ.tab<|.cons (cO Y5)<|.cons (cO Y6)<|.cons (cO σ7)<|.cons (cO σ8)<|.cons (cO Z9)<|.cons (cO A00)<|.cons (cO A01)<|.cons (cO A02)<|.cons (cO A03)<|.cons (cO A04)<|.cons (cO Y7)<|.cons (cO Y8)<|.cons (cO Y9)<|.cons (cO σ0)<|.cons (cO σ1)<|.cons (cO σ2)<|.cons (cO σ3)<|.cons (cO Z4)<|.cons (cO σ5)<|.cons (cO σ6)<|.nil⟩
   ext h
  .simp only[K6,afk];show⟨abn X κ A29,abn X κ A37,abn X κ A34,abn X κ A30,abn X κ A31,abn X κ A27,abn X κ A35,abn X κ A36,abn X κ A24,abn X κ A25,abn X κ A28,abn X κ A32,abn X κ A33,abn X κ A38,abn X κ A26,λ_ h=>nomatch h⟩
 have gM {x v} (h:ZR K ZK x=some (some v)):=abh X κ h;have io:IOk i73 l73 "ShapeError" K mg:=by
  let⟨e1,e2,e3,e4⟩:=D4;split⟨λC a h=>?_,_,gM V9,λN hN C hC=>?_⟩
  ·
   rcases aE h with ⟨rfl,rfl⟩|h
   .exact .inl ⟨_,gM A2.b.n,O7.ans A2⟩
   rcases aE h with ⟨rfl,rfl⟩|h
   .exact .inl ⟨_,gM A2.c.n,O6.ans A2⟩
   rcases aE h with ⟨rfl,rfl⟩|h
   .exact .inl ⟨_,gM A2.a.n,O8.ans A2⟩
   rcases aE h with ⟨rfl,rfl⟩|h
   .exact .inl ⟨_,gM U9,O5.ans A2⟩
   rcases aE h with ⟨rfl,rfl⟩|h
   .exact .inl ⟨_,gM W0,O9.ans A2⟩
   rcases aE h with ⟨rfl,rfl⟩|h
   .exact .inl ⟨_,gM A2.d.n,O4.ans A2⟩
   rcases aE h with ⟨rfl,rfl⟩|h
   .exact .inl ⟨_,gM W1,P0.ans A2⟩
   rcases aE h with ⟨rfl,rfl⟩|h
   .exact .inr ⟨abn X κ A23,s!"",_,s!"",P1.ans A2⟩
   ext h
  .let⟨C2,h1,h2⟩:=A2.all (Q:=λ_ C=>aig K (.ref C) (.ref A9)=some true) e1 e2 e3 e4 N hN;cases hC.symm.trans h1.n;show h2
 have t1:=t0.mxA B8.d A0.n ⟨A0.m,U7,B8.i,A0.k⟩ (abh X κ A0.n) pB rfl;have t2:=t1.fnB gM J7 Ea rfl;have t3:=t2.fnB gM N3 xT rfl;have t4:=t3.fnB gM J6 D3 rfl;have t5:=t4.fnB gM D2 zU rfl;have t6:=t5.fnB gM M4 GN rfl;have t7:=t6.fnB gM L4 vB rfl;have t8:=t7.fnB gM O3 qX rfl;have t9:=t8.fnB gM D0 vC rfl;have t10:=t9.fnB gM C8 qU rfl;have t11:=t10.fnB gM C9 oi rfl;have t12:=t11.fnB gM M9 qV rfl;have t13:=t12.fnB gM M8 zS rfl;have t14:=t13.fnB gM M7 Ra rfl;have t15:=t14.fnB gM C7 QZ rfl;have t16:=t15.ciA B3 ⟨Q2,Q1,Q0,B3.F.kp⟩ (abh X κ U8) pC rfl;have t17:=t16.mxA B7.d A1.n ⟨A1.m,U6,B7.i,A1.k⟩ (abh X κ A1.n) qO rfl;have t18:=t17.fnB gM J0 qS rfl;have t19:=t18.fnB gM L7 xR rfl;have t20:=t19.meA B0.d (bB A0.n ⟨A0.c,B0.at D5⟩<|cg) vx rfl;have t21:=t20.meA C0.d (bB A0.n ⟨A0.c,C0.at P9⟩<|cg) lM rfl;have t22:=t21.meA B2.d (bB A0.n ⟨A0.c,B2.at D7⟩<|cg) oh rfl;have t23:=t22.meA B9.d (bB A0.n ⟨A0.c,B9.at P8⟩<|cg) DZ rfl;have t24:=t23.fnB gM M0 xS rfl;have t25:=t24.fnB gM I6 sX rfl;have t26:=t25.fnB gM N5 qW rfl;have t27:=t26.fnB gM I7 sY rfl;have t28:=t27.fnB gM H9 pD rfl;have t29:=t28.fnB gM L8 GM rfl;have t30:=t29.fnB gM O0 zT rfl;have t31:=t30.fnB gM O2 xW rfl;have t32:=t31.fnB gM I3 vz rfl;have t33:=t32.fnB gM L6 GL rfl;have t34:=t33.fnB gM M6 mX rfl;have t35:=t34.fnB gM M2 zQ rfl;have t36:=t35.fnB gM L5 mW rfl;have t37:=t36.fnB gM J5 Lu rfl;have t38:=t37.fnB gM N9 Rb rfl;have t39:=t38.fnB gM J8 QW rfl;have t40:=t39.fnB gM M1 vE rfl;have t41:=t40.fnB gM L9 vD rfl;have t42:=t41.fnB gM M3 zR rfl;have t43:=t42.fnB gM J9 QX rfl;have t44:=t43.fnB gM I8 GJ rfl;have t45:=t44.fnB gM I4 GI rfl;have t46:=t45.fnB gM L3 sZ rfl;have t47:=t46.fnB gM I9 GK rfl;have t48:=t47.fnB gM N0 tf rfl;have t49:=t48.fnB gM M5 vF rfl;have t50:=t49.fnB gM N1 lP rfl;have t51:=t50.fnB gM N2 mY rfl;have t52:=t51.meA C5.d (bB A1.n ⟨A1.c,C5.at P7⟩<|cg) qQ rfl;have t53:=t52.fnB gM J3 lN rfl;have t54:=t53.fnB gM J4 mV rfl;have t55:=t54.meA C3.d (bB A1.n ⟨A1.c,C3.at P3⟩<|cg) qP rfl;have t56:=t55.meA C1.d (bB A1.n ⟨A1.c,C1.at P2⟩<|cg) sV rfl;have t57:=t56.meA C4.d (bB A1.n ⟨A1.c,C4.at P4⟩<|cg) sW rfl;have t58:=t57.fnB gM L1 qT rfl;have t59:=t58.fnB gM O1 Lv rfl;have t60:=t59.fnB gM I5 qR rfl;have t61:=t60.fnB gM J2 QV rfl;have t62:=t61.fnB gM N6 xV rfl;have t63:=t62.fnB gM J1 vA rfl;have t64:=t63.fnB gM N7 vG rfl;have t65:=t64.fnB gM I0 zP rfl;have t66:=t65.fnD gM D1 Eb rfl;have t67:=t66.fnB gM L0 QY rfl;have t68:=t67.meA B1.d (bB A0.n ⟨A0.c,B1.at D6⟩<|cg) zL rfl;have v0:TV _ V0 l.prog w K mg base _:=⟨t68,A2.v0 gM⟩
 have v1:=v0.fnB gM D0 tq rfl;have v2:=v1.fnB gM C8 pE rfl;have v3:=v2.fnB gM C9 m6 rfl;have v4:=v3.fnB gM C7 Lz rfl;have v5:=v4.fnB gM D2 xZ rfl;have v6:=v5.meA B0.d (bB A0.n ⟨A0.c,B0.at D5⟩<|cg) tj rfl;have v7:=v6.meA B2.d (bB A0.n ⟨A0.c,B2.at D7⟩<|cg) mZ rfl;have v8:=v7.meA B1.d (bB A0.n ⟨A0.c,B1.at D6⟩<|cg) xY rfl;have t69:=v8.1.fnT v8.2 io C6.d (gM C6.n) zO rfl;have t70:=t69.fnB gM G6 Lm rfl;have t71:=t70.fnB gM H8 Ls rfl;have t72:=t71.fnB gM H0 QU rfl;have t73:=t72.fnB gM G8 zN rfl;have t74:=t73.fnB gM G9 Lp rfl;have t75:=t74.fnB gM G7 zM rfl;have t76:=t75.fnB gM H7 Lr rfl;have t77:=t76.fnB gM H6 Lq rfl;show (B4.d.ok t77 Wf rfl).1
def abX{l:aic}{q:ZL}{loose:Zl}{XP:(Zg)->ZH->Prop}{YP:ZI->ZH->Prop}{d:DefRec}{K:ahV->agN}(hn:l.most=some 63)(hdf:d.params.defaults=[])
  (hY:∀(w:ZI) (h:ZH),YP w h->(K w.params).In h)
  (F:∀(w:ZI) (mg:Zg) (fa:ZB) (h:ZH),(K w.params).In h->h.Ns ZK mg->mg d.name=some (.ref fa) ->
   ∃fd:ZW,(∀(s:ZD) (u:ZE),ah1 s fd ⟨[u],[]⟩ [("_law_script",u)])/\∀base:ZH,(K w.params).In base->base.Ns ZK mg->Zs l.prog w (K w.params) mg base my 88 fa fd ["_law_script"] (zf (K w.params) 1 um)) :
  WalkO q loose XP YP l.row.toRowW d [] (λf vs=>ajk f vs):=
 L2.NT (n:=63) (k:=88) (x := "_law_script") (CX:=λ_=>my) (sp:=λw=>zf (K w.params) 1 um) hn ⋯ hdf ⟨rfl,⋯,⋯⟩ hY F (λ_ H a ns hl hO hS=>UI hO hS<|HG ns hl) λ_ _ _ _ _ z=>z
end Lw
open PySem PySem.W PyProof.Rows L2 Y
set_option hygiene false in
local macro_rules | `(tactic| bv_omega)=>`(tactic| (intro _ _ _ _ _ _ us hl;first | (cases us0 hl;rfl) | (obtain ⟨_,rfl⟩:=us1 hl;rfl) | (obtain ⟨_,_,rfl⟩:=us2 hl;rfl) | (obtain ⟨_,_,_,rfl⟩:=us3 hl;rfl) | (obtain ⟨_,_,_,_,rfl⟩:=us4 hl;rfl) | (obtain ⟨_,_,_,_,_,rfl⟩:=us5 hl;rfl)))
set_option maxRecDepth 100000 in
set_option maxHeartbeats 0 in
theorem PySem.Challenge.cw_shapethin_k73_deeds_taken_back_holds : PySem.Challenge.rw_shapethin_k73_deeds_taken_back.Holds := by
 w_on;split holds_law Hd.e2 λsaid=>?_
 split holds_open (q:=Hd.q) (XP:=XL Hd.q []) (YP:=Hook.says Hd.H) (N:=100000) Hd.e1 (Hook.of Hd.H) (Hook.keeps Hd.H) (λs e=>xl_of s (acW.1 e).1) XL.keeps (by rfl) (by rfl) (by rfl) (λs e=>recFacts_of (acW.1 e).2) (by rfl) (by assumption) (by decide +kernel) ⟨rfl,rfl,rfl,rfl,rfl,by decide +kernel⟩ ?hw ?hc
 case hw=>w_witness2
 split Lw.abX (l := PySem.Challenge.rw_shapethin_k73_deeds_taken_back) rfl rfl (fun w h Y => kIn_of Y) ?F
 case F=>
  intro w mg fa h KX κ hmg;apply Lw.Qr KX κ hmg
  (case A1|A0=>show⟨by k_is,⟨by k_is,by k_is,by k_is,by k_is⟩,by k_is,by k_is⟩)
  (case A2=>constructor<;>show⟨by k_is,⟨by k_is,by k_is,by k_is,by k_is,by k_is,by k_is,by k_is,by k_is⟩,by k_exc⟩)
  all_goals try k_is
  all_goals try show⟨_,_,_,_,by k_is,by repeat (first|show .nil|split .cons rfl ?_|split .cons ⟨_,rfl⟩ ?_),by rfl⟩
  all_goals try show⟨⟨L2.Ac (by k_is) (by k_is) (by k_is),by bv_omega,by decide +kernel⟩,by k_is⟩
  all_goals try show⟨by k_is,⟨L2.Ac (by k_is) (by k_is) (by k_is),by bv_omega,by decide +kernel⟩⟩
  (case B3=>show⟨L2.Ac (by k_is) (by k_is) (by k_is),by bv_omega,by decide +kernel⟩)
  (case D1=>show DkD.mk' (by k_is) (by k_is) (by decide +kernel) (by k_is) (by k_is) (by k_is) (λus hl=>by obtain⟨_,rfl⟩:=us1 (adg (aat.symm.trans hl):us.length=1);show⟨_,rfl,rfl⟩))
  (case G5=>decide)
  all_goals try show⟨by kit_is,by kit_is,by kit_is,by kit_is⟩
  (case D4=>show⟨by kts_exm,by kts_exm,by kts_exm,by kts_exm⟩)

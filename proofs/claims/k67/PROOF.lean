import PyProof.Rows.All
import Wide.All
import OpenK.AllK
import PySem.Challenge.RW_hushrow_k67_walks_refused
local macro_rules|`(def $i:declId $s:optDeclSig $v:declVal)=>`(noncomputable def $i:declId $s:optDeclSig $v:declVal)
local macro_rules|`(abbrev $i:declId $s:optDeclSig $v:declVal)=>`(noncomputable abbrev $i:declId $s:optDeclSig $v:declVal)
local macro_rules|`($n:num∘$t)=>`((nat_lit $n,$t))
local macro_rules|`(tactic|rfl')=>`(tactic|try dsimp only)
local macro_rules|`({$x:term,$xs,*})=>`(⟨$x,$xs,*⟩)
open PySem renaming wpAny_bind->RA,Addr->RB,Value->RC,wpAny_pure->RD,Shared->RF,starEach->RJ,model->RK,World->RS,mainGlobals->RU,compareOp->RV,Stmt->RY,mem_of_lookup->R5,wpAny_newObj_type->R7,Heap->R8,treeTable->Sb,Around->Sd,importedModules->Sh,eval->Sj,backTo->Sk,Str->Sl,OsState->So,wpAny_Call_Name_kw->Sq,cellsFrom->Sv,binaryOp->Sw,attributeBase->Sx,wpAny_mono->Sz,wpAny_call_entry->SH,sysModules->SO,wpAny_setField->SU,codeAny_builtin->S0,rawInt->S6,cLine->S8,Params->S9,wpAny_passesOwn->Ta,bootBuiltins->Tb,wpAny_truthy_bool->Tc,sizeLine_eq->Td,FuncData->Te,codeAny_mono->Tf,keywordEach->Tg,wpAny_setState_of->Ti,NameKind->Tq,wpAny_callSpecial?_slot->Tr,wpAny_getItem_str_slice->Ts,Builtin->Tu,Spec->Tv,tupleKind_room_in1->Tx,unbindBehindTheSuite->TJ,behindInMarks->TU,plainId_quiet->TV,intKind->TX,Keyword->TY,pushCells_keeps->TZ,wpAny_call->T3,sliceBounds->T5,holding->Ua,wpAny_loadPart->Ub,backToKw->Ud,wpAny_typeOf->Ug,wpAny_pyIter_list->Uh,wpAny_dictEntries->Uk,setAddHashed->Ul,plainObj_wpAny_Assign_Attribute->Um,builtinLookup_eq_fast->Uq,pushCells->Uv,wpAny_standAt->Ux,GenState->UA,codeAny_call_builtin->UE,wpAny_execs_nil->UH,letOwnedTupleGo->UI,post_val_or_str->UK,wpAny_setEntries_of->UM,noteFrame->UR,Scope->UT,assignEach->UW,call_meets->U1,isSubtype_type->U3,getItem->U9,excClassObj->Vb,wpAny_pyIter_slot->Vc,evalPart_none->Ve,wpAny_getItem_list_slice->Vf,wpAny_attempt->Vh,tupleKind->Vm,swapsWith->Vn,getMethod->Vo,wpAny_lookBehind->Vp,pastItsLine_dict->Vq,wpAny_Call_method0_late->Vs,wpAny_isInstance->Vx,wpAny_askSetting->Vy,Within->VB,builtinsNs->VC,wpAny_pyNext_list_item->VD,call_meetsIn->VI,codeAny_of_tree->VN,typeLookup_type->VO,wpAny_storeName_local->VQ,wpAny_pyNext_list_end->VR,wpAny_notOrdered_dict->VT,wpAny_loadName_local->V1,pyNext->V2,PyData->V3,standAt->Wc,PassesOwn->We,BindsTo->Wg,callerA->Wh,wpAny_loadName_cell->Wl,evalArgs_none->Wn,evalPart_some->Wz,wpAny_Constant_int->WJ,wpAny_load->WK,IsPart->WM,typeIs_str->WQ,getattributeRaised->WW,wpAny_rule->WX,intKind_is->W2,getAttr->W8,wpAny_nsSet1->W9,wpAny_sequenceKey->Xe,seqIndex_neg->Xf,wpAny_Call_method->Xi,entryFor->Xj,DictEntry->Xq,wpAny_execs_cons->Xu,callGetattribute->Xz,entryFor_of_tree->XD,wpAny_pyIter_zip->XE,wpAny_setScan_of->XF,wpAny_Slice->XS,seqIndex_of->XT,atKey->XU,unsupported->XW,wpAny_specialOf->Yc,wpAny_dictEpoch->Yd,wpAny_updateSeq->Ye,wpAny_Name->Yi,pyIter->Yj,recursionLimit->Yl,bindL->Ym,bindC->Yn,typeIs_int->Yp,call->Yr,newFunctionEnv->Ys,compPost->Yt,refuseLoop_ref->Yv,boundAndCalled->Yw,isInstance->Yx,getAttr?->Yy,setAddHashedIn->YB,wpAny_runValue->YC,firstArgMember->YD,storeName->YH,inplaceOp->YI,getAttrBy->YK,joinParts->YL,pickOrder->YM,spliced->YQ,setAttr->YR,argsOk->YT
open PySem.Heap renaming get?_push_of_some->RE,lt_size->RH,get?_update_other->RI,get?_push_size->RL,get?_update_self->RR,size_push->SR,SameBut->S2,size_after_update->Ui,get?_none_of_le->UB,MadeExcOf->V5
open PySem.W renaming Frag->RG,findIn->RZ,kitOne->R0,mg_none_of->Ss,keepIn->SG,fnOf->SK,topStub->SN,specialIn->SQ,kia_one->To,emptyDict->Tt,takesIn->T4,openSeen->T8,Frag->T9,codeIn->Ue,boot_drawn->Ur,instObj->Us,cellsFrom_some->Ut,mg_of->Uz,hasDictIn->UC,callWith_K->UO,boot_toks->UQ,nsIn->Vg,boot_heap->Vk,plainGet->VE,isFn->VF,looks_mroIn->V4,subIn->Wi,fencedOpening->Ww,plainGet_of->Wy,handedIn->WL,looks_find->WU,kHook->W5,mroIn->Xb,OpenLaw->Xr,boot_o_0->Xs,makesIn->Xw,findObj->XA,methodObj->XN,plainOver->XQ,set_plain->XR,methodCall_KW->XX,namesBound->Yg,openGood->Yh,lookIn->Yk,staticsOk->YG,takerIn->YJ,absHeap->YN,clsIn->YS
open PySem.Value renaming ref->RM,none->RW,int->SW,type->SX,str->Vl,isStrOf_shape->Wj,isStrOf->Wx,builtin->WC,bool->WI,isInt_shape->W6,isInt->XJ,float->XM
open PySem.Paired renaming length->RN,snoc->T6
open PySem.PassesOwn renaming never->RO
open Option.some renaming inj->RQ,injEq->Xl
open List renaming replicate->RT,range->RX,Nodup->R9,lookup->S5,mem_or_eq_of_mem_set->U7,length->U8,length_erase_of_mem->Vj,getElem?_replicate->Vr,getElem?_cons_zero->Vw,getElem?_toArray->VY,filterMap_append->VZ,getElem?_of_mem->V9,length_reverse->Wr,getElem_of_mem->Ws,take_succ_cons->Wu,findIdx?_cons->WY,map_replicate->WZ,any_eq_false->W7,reverse_cons->Xg,foldl_append->Xk,flatMap_cons->Xo,cons_append->XC,flatMap_nil->XG,filter_map->XZ,foldl->Yq,filterMap->Yz
open PySem.SeqAt renaming shaped->Sa,EqAt->VH
open PySem.Builtin.Tuple renaming tupleExact->Se,tupleItemsOf->UZ
open PySem.Obj renaming isFreed_of_fields->Sf,mapFields->Sy,data_mapFields->SD,mapSeq->TF,dropNameByArray->TN,dropName_eq->UL,cls_mapFields->Xh,putSet->YA
open PySem.PyData renaming strOk->Sg,eqv->SY,eqvAll->TC,int->Uw,canLayAll0->Vd,depthAll->VP,canLay0->Wb,depth->Xp
open PySem.Builtin.Slice renaming slicePlaces->Si,sliceApplied->S7,sliceAdjust->TL,sliceFields->U4
open False renaming elim->Sn
open PySem.NameKind renaming cell->Sr,free->SJ
open PySem.Str renaming empty->Su,ofString->TK
open PySem.Builtin.Str renaming occurrences->SE,strKind->Wq
open PySem.Around renaming under_plainId->SI,under->Xc
open PyProof.Rows renaming slot_tuple_getitem->SM,callWith_type1->S3,envOfC->Tw,callWith_builtin1->Uu,AllBare->UN,slicePart_none->UY,IntsAre->Va,subscriptTail_builtinR->VG,entry_tuple_getitem->Wm,subscriptTail->WA,args_tuple_getitem->WN,Subscript_->WO,tail_any->Yo,drecsOf->YO,seqObj->YU
open Option renaming none->SS,getD_none->Xx,getD_some->Xy,some->YV,none->YW
open PyProof.Rows.F renaming plain_set_update_loop->S1,entry_set_update_loop->TQ
open PySem.Calls renaming callWith_builtin->S4,spliced_cons->T1,spliced_nil->Uc,evalArgs_plain->UD,Name_function_global->UU
open PySem.Builtin.List renaming listTooLong->Tj,listExtendWith->UP,listSameRef->Vi
open PySem.Heap.SameBut renaming update->Tn
open List.Nodup renaming sublist->Tz
open PySem.Builtin.Int renaming intBits->TM
open List.Perm renaming nodup_iff->TR,refl->YE
open PySem.F renaming plainAttrs_dict->T7,slot_dict_get->Up,slot_dict_itemiterator_iter->UG,plainAttrs_list->Vt,args_dict_get_2->Vu,plain_list_iadd->Vz,slot_dict_items->VA,entry_dict_get->VJ,slot_dict_pop->VS,plain_set_new->VW,slot_set_iter->VX,slot_dict_eq->V7,slot_int_rmul->XY
open PySem.Builtin.Dict renaming samePairs->Uj,dictSlotArgs->U6,updateFrom->Vv,pairItems->VL,showsAll->VU
open Array renaming getElem?_setIfInBounds_ne->Uo,getElem?_eq_none->VM,toArray_toList->V6,ext_getElem?->WV,size_append->Xm,all_toList->XB
open PySem.Builtin renaming bitOr->Uy
open ForInStep renaming yield->UJ
open Prod renaming ext->US
open Int renaming fdiv_eq_ediv_of_nonneg->UX
open PySem.Heap.IsSliceOf renaming new->U0
open PySem.Code renaming quiet_builtin->U2,isFrame->Xd
open PySem.Builtin.ObjectAttr renaming bindTo->U5
open PySem.SetTable renaming below->V8
open Nat renaming add_le_add_right->Wa,add_le_add_left->Wt,add_le_add->YF
open PySem.Data renaming cell->Wf,fields->XO
open PySem.EntryCells renaming newEntry->Wo
open PySem.BindsTo renaming of_defaults->Wv
open PySem.Value.ref renaming inj->WD
open PySem.Shared renaming TypeIs->WE
open PySem.SeqAt.EqAt renaming int_str->WG,str_int->WH,int_int->WS,str_str->WT
open PySem.Txt renaming slice_le->W3
open PySem.Heap.Ns1 renaming of_empty->Xa
open PySem.pickOrder renaming go->Xn
open PySem.DictEntry renaming refKey->Xv
open List.Sublist renaming map->XI
open PySem.Heap.DictOf renaming new->Yb
open PySem.Walks renaming strAscii->Yu
local macro_rules|`(())=>`(by first|lia|omega)
local macro_rules|`(∅)=>`(by decide)
open List renaming mem_singleton->OT,length_map->OU,getElem?_eq_getElem->OV,mem_cons_self->OX,mem_of_getElem?->OY,mem_cons_of_mem->O2,mem_cons->O4,length_append->O5,getElem?_map->O7,getElem?_eq_some_iff->O8,size_toArray->O9,mem_append->Pa,mem_append_right->Pb,length_cons->Pf,mem_map->Pj,take_length->Pk,length_singleton->Po,map_cons->Pp,length_take->Pq,getD_eq_getElem?_getD->Pr,mem_filter->Pu,not_mem_nil->Pw,mem_append_left->Px,mem_of_mem_take->Pz,take_add_one->PB,replicate_succ->PC,mem_map_of_mem->PD,append_nil->PH,nodup_cons->PK,map_append->PM,filterMap_cons->PQ,mem_filterMap->PR,length_filter_le->PX,filter_append->PZ,find?_cons->P2,nodup_append->P4,length_nil->P5,map_map->P6,length_replicate->P7,getElem?_append_right->Qh,getElem?_eq_none->Qj,take_append_drop->Ql,getElem?_append_left->Qm,nil_append->Qn,map_congr_left->Qo,lookup_cons->Qq,all_eq_true->Qr,length_range->Qs,mem_range->Qv,getElem?_take_of_lt->Qx,length_filterMap_le->Qy,any_eq_true->Qz,filter_cons_of_neg->QA,of_mem_zip->QB,foldl_cons->QD,filter_nil->QE,getElem?_set_self->QF,take_of_length_le->QG,take_sublist->QH,flatten_cons->QI,pairwise_map->QK,take_zero->QL,nodup_nil->QM,length_drop->QO,getElem?_range->QQ,length_set->QR,length_zip->QS,contains_cons->QW,eq_of_mem_replicate->QX,filter_cons_of_pos->QY,append_assoc->QZ,any_cons->Q1,filter_cons->Q4,getElem?_set_ne->Q5,range_succ->Q6,filter_sublist->Q9,ext_getElem?->Rf,getElem_inj->Rh,map_nil->Rj,getElem_mem->Rk
open Nat renaming le_refl->OW,le_trans->O6,zero_le->Pc,lt_of_lt_of_le->Pd,ne_of_lt->Ph,lt_irrefl->PU,ne_of_gt->P8,le_succ->Qb,lt_succ_of_lt->Qc,le_add_right->Qi,lt_succ_self->QN,le_of_lt->QT,lt_of_le_of_lt->QV,le_succ_of_le->Rg,le_of_eq->Ri,succ_le_succ->Rm,lt_trans->Rq,sub_self->Rt,lt_or_ge->Ru
open Or renaming inl->OZ,inr->Py
open Bool renaming false_ne_true->O3,false_eq_true->PY,eq_iff_iff->Qd,eq_false_iff->QJ,and_eq_true->QP,or_true->Q7,and_eq_true_iff->Q8,false_and->Rn,and_false->Ro,true_and->Rp
open Sum renaming inr->Pe,inl->Qu
open Ne renaming symm->Pm
open Int renaming toNat_natCast->PL,zero_add->Rr
open True renaming intro->PV
open Option renaming map_some->Qe,map_eq_some_iff->Qg,isSome_iff_exists->Qw,isSome_map->Q0,isSome_some->Rb,bind_some->Rl
open Array renaming length_toList->Qf,getElem?_toList->Qk,toList_append->Qp,getElem?_eq_getElem->Qt,find?_toList->QU,mk->Q3
set_option Elab.async false
set_option linter.all false
set_option maxRecDepth 100000
namespace Hd
open PySem PySem.W PySem.Calls PyProof.Rows
def gH(tb:String->Option Tu)(p:Program)(w:RS)(n₀:Nat)(ann:Option RC):Nat->SharedT->Thread->Option SharedT
 |0,_,_=>YW
 |n+1,s,t=>match through t with
  |true=>YV s
  |false=>match stepOk n₀ ann t with
   |false=>YW
   |true=>match stepT (denote tb) p w s t with
    |some (s',t')=>gH tb p w n₀ ann n s' t'
    |none=>YW
theorem EU{tb:String->Option Tu}{p:Program}{w:RS}{n₀:Nat}{ann:Option RC}:∀{n:Nat}{s s':SharedT}{t:Thread},
  gH tb p w n₀ ann n s t=YV s'->topRun tb p w n₀ ann n s.abs t=YV s'.abs
 |0,_,_,_,h=>by cases h
 |n+1,s,s',t,h=>by
  unfold gH at h;unfold topRun;cases he:through t with
  |true=>rw[he]at h;cases h;rfl
  |false=>
   rw[he]at h;cases hk:stepOk n₀ ann t with
   |false=>rw[hk]at h;cases h
   |true=>
    rw[hk]at h;cases hs:stepT (denote tb) p w s t with
    |none=>rw[hs]at h;cases h
    |some r=>obtain⟨s₂,t₂⟩:=r;rw[hs]at h;rw[stepT_spec hs];exact EU h
def Mt(p q:Program)(loose:List Str)(Xt:RF->Bool){α:Type}(Yf:RF->α)(g0:Bool)(H:R8)(s:RF):=
 (YG (Sh p.main.body) H s.heap&&Yg p s.heap&&gensDone s&&laidKept H s.heap,T8 q loose (Sh p.main.body) Xt g0 s,Yf s)
def AM(p:Program)(H:R8)(s:RF):=YG (Sh p.main.body) H s.heap&&Yg p s.heap&&gensDone s&&laidKept H s.heap
def treeOf:List Obj->Nat->BT->BT
 | [],_,t=>t
 |o::r,i,t=>treeOf r (i+1) (t.ins i o)
theorem G3{p q:Program}{loose:List Str}{Xt:RF->Bool}{α:Type}{Yf:RF->α}{Ya:RS->α}{N:Nat}{g0:Bool}{H₀:S9->R8}{Ā:Array UA}{d₀:Drawn}{k₀ m₀ n₀:Nat}{ann:Option RC}{T₀:S9->BT}{life:Life}
  (opn:∀w:RS,(Ww Sb p w N).map (λs=>(s.heap,s.gens,s.drawn,s.toks))=YV (H₀ w.params,Ā,d₀,k₀))
  (size:∀w:RS,((H₀ w.params).isNs RU&&Ā.size==0,(H₀ w.params).objs.size,(H₀ w.params).nsMap RU "__annotations__")=(true,m₀,ann))
  (tree:∀P:S9,YN (T₀ P) n₀ life=H₀ P)
  (look:∀(w:RS)(os:So),(gH Sb p w m₀ ann N ⟨T₀ w.params,n₀,life,Ā,d₀,k₀,os⟩ (SN p)).map (λs=>Mt p q loose Xt Yf g0 (H₀ w.params) s.abs)=YV (true,Yh q loose,Ya w)) :
  LeftO p q loose Xt Yf Ya N g0:=λw=>by
 obtain⟨⟨h,gs,d,k,os⟩,e,e'⟩:=Qg.mp (opn w)
 obtain⟨rfl,rfl,rfl,rfl⟩:h=H₀ w.params/\gs=Ā/\d=d₀/\k=k₀:=by simpa using e'
 obtain⟨z1,z2,z3⟩:_/\_/\_:=by simpa only[Prod.mk.injEq] using size w
 obtain⟨s,hs,hl⟩:=Qg.mp (look w os)
 obtain⟨l1,l23⟩:=Prod.mk.inj hl
 obtain⟨l2,l3⟩:=Prod.mk.inj l23
 have r:=EU hs
 have t:topFrom Sb p w N ⟨H₀ w.params,gs,d,k,os⟩=YV s.abs:=by
  unfold topFrom;dsimp only;rw[z1,z2,z3];unfold SharedT.abs at r;dsimp only at r;rw[tree w.params]at r;show(topRun Sb p w m₀ ann N ⟨H₀ w.params,gs,d,k,os⟩ (SN p)).bind _=_;rw[r];show(match YG (Sh p.main.body) (H₀ w.params) s.abs.heap&&Yg p s.abs.heap&&gensDone s.abs&&laidKept (H₀ w.params) s.abs.heap with|true=>_|false=>_)=_;rw[l1];rfl
 unfold openEnds
 rw[e]
 show(topFrom Sb p w N _).map _=_
 rw[t]
 exact congrArg YV (US l2 l3)
theorem Fd{p q:Program}{loose:List Str}{Xt:RF->Bool}{α:Type}{Yf:RF->α}{Ya:RS->α}{N:Nat}{g0:Bool}{H₀:S9->R8}{Ā:Array UA}{d₀:Drawn}{k₀ m₀ n₀:Nat}{ann:Option RC}{T₀:S9->BT}{life:Life}
  (opn:∀w:RS,(Ww Sb p w N).map (λs=>(s.heap,s.gens,s.drawn,s.toks))=YV (H₀ w.params,Ā,d₀,k₀))
  (size:∀w:RS,((H₀ w.params).isNs RU&&Ā.size==0,(H₀ w.params).objs.size,(H₀ w.params).nsMap RU "__annotations__")=(true,m₀,ann))
  (tree:∀P:S9,YN (T₀ P) n₀ life=H₀ P)
  (ū:∀(w:RS)(os:So),(gH Sb p w m₀ ann N ⟨T₀ w.params,n₀,life,Ā,d₀,k₀,os⟩ (SN p)).map (λs=>AM p (H₀ w.params) s.abs)=YV true)
  (ũ:∀(w:RS)(os:So),(gH Sb p w m₀ ann N ⟨T₀ w.params,n₀,life,Ā,d₀,k₀,os⟩ (SN p)).map (λs=>(T8 q loose (Sh p.main.body) Xt g0 s.abs).1)=YV (Yh q loose).1)
  (ť:∀(w:RS)(os:So),(gH Sb p w m₀ ann N ⟨T₀ w.params,n₀,life,Ā,d₀,k₀,os⟩ (SN p)).map (λs=>(T8 q loose (Sh p.main.body) Xt g0 s.abs).2.1)=YV (Yh q loose).2.1)
  (ŧ:∀(w:RS)(os:So),(gH Sb p w m₀ ann N ⟨T₀ w.params,n₀,life,Ā,d₀,k₀,os⟩ (SN p)).map (λs=>(T8 q loose (Sh p.main.body) Xt g0 s.abs).2.2.1)=YV true)
  (Ŧ:∀(w:RS)(os:So),(gH Sb p w m₀ ann N ⟨T₀ w.params,n₀,life,Ā,d₀,k₀,os⟩ (SN p)).map (λs=>(T8 q loose (Sh p.main.body) Xt g0 s.abs).2.2.2.1)=YV true)
  (Ũ:∀(w:RS)(os:So),(gH Sb p w m₀ ann N ⟨T₀ w.params,n₀,life,Ā,d₀,k₀,os⟩ (SN p)).map (λs=>(T8 q loose (Sh p.main.body) Xt g0 s.abs).2.2.2.2)=YV (Yh q loose).2.2.2.2)
  (Ū:∀(w:RS)(os:So),(gH Sb p w m₀ ann N ⟨T₀ w.params,n₀,life,Ā,d₀,k₀,os⟩ (SN p)).map (λs=>Yf s.abs)=YV (Ya w)) :
  LeftO p q loose Xt Yf Ya N g0:=G3 opn size tree λw os=>by
 obtain⟨s,hs,h1⟩:=Qg.mp (ū w os)
 have h2:=Ū w os
 have h3:=ũ w os
 have h4:=Ũ w os
 have h5:=ŧ w os
 have h6:=Ŧ w os
 have h7:=ť w os
 rw[hs]at h2 h3 h4 h5 h6 h7⊢
 exact congrArg YV (US h1 (US (US (RQ h3) (US (RQ h7) (US (RQ h5) (US (RQ h6) (RQ h4))))) (RQ h2)))
end Hd
namespace L2
open PySem PySem.Spec PyProof.Rows
def YY(s:RY)(j:Nat):RY:=match s with
 | .ClassDef _ _ _ body _ _ _ _ _ _ _=>body.getD j (.Pass ⟨0,0,0,0⟩)
 |_=>.Pass ⟨0,0,0,0⟩
def bg(s:RY):Arguments:=match s with
 | .FunctionDef _ a _ _ _ _ _ _ _ _=>a
 |_=>{ posonlyargs:=[],args:=[],vararg:=YW,kwonlyargs:=[],kw_defaults:=[],kwarg:=YW,defaults:=[] }
def aU(s:RY):List RY:=match s with
 | .FunctionDef _ _ b _ _ _ _ _ _ _=>b
 |_=>[]
def aq(s:RY):UT:=match s with
 | .FunctionDef _ _ _ _ _ _ sc _ _ _=>sc
 |_=>{ kind:=.function,names:=[],isGenerator:=false,isCoroutine:=false }
end L2
namespace K67
open PySem
def top(i:Nat):RY:=PySem.Challenge.pw_hushrow_k67_walks_refused.main.body.getD i (.Pass ⟨0,0,0,0⟩)
end K67
set_option genSizeOf false
set_option bootstrap.genMatcherCode false
set_option compiler.extract_closed false
set_option maxHeartbeats 0
namespace K67
open PySem L2 PySem.W PyProof.Rows
abbrev Ey(P:S9)(x:Str)(t:Nat)(v:RC):Xq:=⟨PyData.keyHash P x,.str x t,v⟩
abbrev FL(P:S9)(a:Nat)(l:Int)(b:Nat):=Ey P "__firstlineno__" a (.int l b)
abbrev SA(P:S9)(a b:Nat):=Ey P "__static_attributes__" a (.ref b)
abbrev DO(P:S9)(a:Nat):=Ey P "__doc__" a .none
abbrev M3O(P:S9)(a:Nat):=Ey P "__module__" a (.str "hushrow.errors" 194)
abbrev Ŋ(P:S9)(a:Nat):=Ey P "__module__" a (.str "hushrow.rows" 307)
abbrev ER(P:S9)(x:Str)(a b:Nat):=Ey P x a (.ref b)
abbrev DI(x:Array Xq)(n:Nat):Obj:={.type "dict",YW,.dict x n,#[]}
abbrev WR(x:Str)(a b:Nat)(y:String):Obj:={.type "getset_descriptor",YW,.fields #[.str x a,.ref b,.builtin y,.none],#[]}
abbrev CX(n:Str)(a c:Nat)(bs m s:List RC)(d:Option RC)(u v:Nat)(w:String):Obj:={.type "type",YW,.cls { name:=n,bases:=bs,mro:=.ref a::m,ns:=c,qualname:=n,hasDict:=true,slotNames:=[],subclasses:=s,abstract:=false,collection:=YW,hasDel:=false },#[d,YW,YV (.str n u),YV (.str n v),YV (.builtin w),YV (.bool true)]}
abbrev CO(n q:Str)(t:Nat)(l a:Int)(r:Nat)(m:Nat):Obj:={.type "code",YW,.fields #[.str n t,.str q (t+1),.str "/claim/cut.py" (t+2),.int l 0,.int a 0,.int 0 0,.int 0 0,.int 3 0,.ref r,.bool true,.int 181 0,.ref (r+1),.none,.ref (r+2),.ref (r+3),.ref (r+4),.int m 0,.int l 0,.str "/claim/cut.py" (m+1)],#[]}
abbrev FU(n q:Str)(s:RY)(m:Str)(t c:Nat):Obj:={.type "function",YW,.func (SK n q (bg s) (aU s) (aq s) .none .none .none (.str m t) YW (.ref c) .none),#[]}
abbrev FD(n q:Str)(s:RY)(d:Nat)(m:Str)(t c:Nat):Obj:={.type "function",YW,.func (SK n q (bg s) (aU s) (aq s) (.ref d) .none .none (.str m t) YW (.ref c) .none),#[]}
abbrev F8T(x:Str)(i c:Nat):=FU x x (top i) "hushrow.ranks" 264 c
abbrev Ω(x:Str)(i c:Nat):=FU x x (top i) "hushrow.places" 889 c
abbrev A2(x:Str)(i c:Nat):=FU x x (top i) "hushrow.costs" 963 c
abbrev EL(x:Str)(i c:Nat):=FU x x (top i) "hushrow.links" 1027 c
abbrev IE(x:Str)(i c:Nat):=FU x x (top i) "hushrow.reach" 1083 c
abbrev Es(x:Str)(i c:Nat):=FU x x (top i) "hushrow.gifts" 1160 c
abbrev Ax(x:Str)(i c:Nat):=FU x x (top i) "hushrow.pairs" 1367 c
abbrev pZ(x:Str)(i c:Nat):=FU x x (top i) "law_hushrow_k67_walks_refused" 1449 c
abbrev rA(x y:Str)(i j c:Nat):=FU x y (YY (top i) j) "hushrow.rows" 307 c
abbrev Au(x y:Str)(i j c:Nat):=FU x y (YY (top i) j) "hushrow.runner" 1226 c
def ð(P:S9):RG:=
 (nat_lit 2,{.none,YW,.dict #[] 0,#[]})::
 3∘DI #[Ey P "__name__" 165 (.str "law_hushrow_k67_walks_refused" 1449),DO P 166,Ey P "__package__" 167 .none,Ey P "__loader__" 168 (.builtin "__main__.__loader__#opaque"),Ey P "__spec__" 169 .none,ER P "__annotations__" 170 6,ER P "__builtins__" 171 4,Ey P "__file__" 173 (.str "/claim/cut.py" 172),Ey P "__cached__" 174 .none,ER P "_wall" 193 21,ER P "HushError" 213 31,ER P "NoGift" 238 51,ER P "NotAlike" 263 70,ER P "only" 272 79,ER P "joined" 280 86,ER P "top" 287 93,ER P "fits" 295 100,ER P "names_in" 306 107,ER P "each_once" 317 114,ER P "Row" 360 145,ER P "HandRow" 395 173,ER P "GivenRow" 432 199,ER P "OwnRow" 467 225,ER P "LetRow" 502 251,ER P "SetRow" 551 291,ER P "PutRow" 602 331,ER P "SendRow" 644 364,ER P "SayRow" 695 404,ER P "CallRow" 736 435,ER P "LastRow" 759 454,ER P "IfRow" 807 487,ER P "LoopRow" 855 520,ER P "Program" 888 539,Ey P "CLOCK" 892 (.str "the clock" 891),ER P "row_place" 899 550,ER P "laid_rows" 910 557,ER P "laid_inside" 919 564,ER P "laid_program" 928 571,ER P "is_place" 935 578,ER P "head_places" 944 585,ER P "places" 956 592,ER P "under" 962 597,ER P "exact_of" 975 604,ER P "exact_of_row" 983 611,ER P "one_more" 990 618,ER P "exact_of_if" 1000 625,ER P "exact_of_loop" 1009 632,ER P "balanced" 1017 639,ER P "exacts" 1026 646,ER P "drawn" 1034 651,ER P "row_links" 1045 658,ER P "said_links" 1054 665,ER P "called_links" 1067 672,ER P "step_links" 1076 679,ER P "links" 1082 685,ER P "sources" 1090 690,ER P "sources_of" 1096 695,ER P "ways_of" 1102 700,ER P "arrivals" 1108 705,ER P "table" 1114 711,ER P "ranks_told" 1125 718,ER P "Book" 1159 735,Ey P "MOST_NUMBER" 1163 (.int (999999999999) 1162),ER P "is_number" 1170 746,ER P "is_good" 1176 751,ER P "given_cell" 1185 758,ER P "own_cell" 1192 765,ER P "cells_of" 1204 772,Ey P "ROUND" 1208 (.int (1000000000000) 1207),ER P "reckon" 1217 779,ER P "round_place" 1225 786,ER P "Run" 1350 871,ER P "ends_of" 1356 880,ER P "run" 1366 887,ER P "unlike_given" 1379 894,ER P "common_rows" 1391 901,ER P "parting_rows" 1404 908,ER P "next_common" 1413 915,ER P "pairs_of" 1419 920,ER P "walk" 1432 927,ER P "walked" 1448 934,ER P "_law_cell_at" 1458 941,ER P "_law_mix" 1468 948,ER P "_law_name" 1482 955,ER P "_law_number" 1489 962,ER P "_law_heads" 1495 967,ER P "_law_tree" 1501 972,ER P "_law_gift" 1513 979,ER P "_law_gifts" 1526 986,ER P "_law_spoiled" 1537 993,ER P "_law_moved" 1548 1000,ER P "_law_turned" 1559 1007,ER P "_law_asked" 1572 1014,ER P "law" 1578 1019] 94::
 30∘DI #[M3O P 203,FL P 207 5 206,SA P 208 29,ER P "__weakref__" 210 32,DO P 211] 3::
 31∘CX "HushError" 31 30 [.type "ValueError"] [.type "ValueError",.type "Exception",.type "BaseException",.type "object"] [.ref 51,.ref 70] (YV (.ref 22)) 196 204 "ValueError.__new__"::
 32∘WR "__weakref__" 209 31 "ExceptionGroup.__weakref__"::
 47∘CO "__init__" "NoGift.__init__" 226 9 2 42 231::
 48∘FU "__init__" "NoGift.__init__" (YY (top 3) 0) "hushrow.errors" 194 47::
 50∘DI #[M3O P 221,FL P 225 7 224,ER P "__init__" 233 48,SA P 235 49,DO P 236] 2::
 51∘CX "NoGift" 51 50 [.ref 31] [.ref 31,.type "ValueError",.type "Exception",.type "BaseException",.type "object"] [] (YV (.ref 35)) 214 222 "ValueError.__new__"::
 66∘CO "__init__" "NotAlike.__init__" 251 13 2 61 256::
 67∘FU "__init__" "NotAlike.__init__" (YY (top 4) 0) "hushrow.errors" 194 66::
 69∘DI #[M3O P 246,FL P 250 11 249,ER P "__init__" 258 67,SA P 260 68,DO P 261] 2::
 70∘CX "NotAlike" 70 69 [.ref 31] [.ref 31,.type "ValueError",.type "Exception",.type "BaseException",.type "object"] [] (YV (.ref 54)) 239 247 "ValueError.__new__"::
 78∘CO "only" "only" 266 16 1 73 270::
 79∘F8T "only" 6 78::
 85∘CO "joined" "joined" 273 18 2 80 278::
 86∘F8T "joined" 7 85::
 92∘CO "top" "top" 281 20 1 87 285::
 93∘F8T "top" 8 92::
 99∘CO "fits" "fits" 288 22 2 94 293::
 100∘F8T "fits" 9 99::
 106∘CO "names_in" "names_in" 298 25 1 101 304::
 107∘FU "names_in" "names_in" (top 11) "hushrow.things" 296 106::
 113∘CO "each_once" "each_once" 309 32 1 108 315::
 114∘FU "each_once" "each_once" (top 13) "hushrow.rows" 307 113::
 127∘CO "__init__" "Row.__init__" 330 40 2 122 335::
 128∘rA "__init__" "Row.__init__" 14 0 127::
 144∘DI #[Ŋ P 325,FL P 329 38 328,ER P "__init__" 337 128,ER P "reads" 344 135,ER P "target" 351 142,SA P 353 143,ER P "__dict__" 355 146,ER P "__weakref__" 357 147,DO P 358] 4::
 145∘CX "Row" 145 144 [.type "object"] [.type "object"] [.ref 173,.ref 199,.ref 225,.ref 251,.ref 291,.ref 331,.ref 364,.ref 404,.ref 435,.ref 454,.ref 487,.ref 520] YW 318 326 "object.__new__"::
 (nat_lit 146,{(.type "getset_descriptor"),YW,.fields #[(.str "__dict__" 354),(.ref 145),(.builtin "function.__dict__"),(.builtin "function.__dict__#set")],#[]})::
 147∘WR "__weakref__" 356 145 "ExceptionGroup.__weakref__"::
 162∘CO "__init__" "HandRow.__init__" 373 50 4 157 380::
 163∘rA "__init__" "HandRow.__init__" 15 0 162::
 172∘DI #[Ŋ P 368,FL P 372 48 371,ER P "__init__" 382 163,ER P "shown" 389 170,SA P 392 171,DO P 393] 2::
 173∘CX "HandRow" 173 172 [.ref 145] [.ref 145,.type "object"] [] (YV (.ref 150)) 361 369 "object.__new__"::
 188∘CO "__init__" "GivenRow.__init__" 408 59 5 183 416::
 189∘rA "__init__" "GivenRow.__init__" 16 0 188::
 198∘DI #[Ŋ P 403,FL P 407 57 406,ER P "__init__" 418 189,ER P "shown" 425 196,SA P 429 197,DO P 430] 2::
 199∘CX "GivenRow" 199 198 [.ref 145] [.ref 145,.type "object"] [] (YV (.ref 176)) 396 404 "object.__new__"::
 214∘CO "__init__" "OwnRow.__init__" 445 69 4 209 452::
 215∘rA "__init__" "OwnRow.__init__" 17 0 214::
 224∘DI #[Ŋ P 440,FL P 444 67 443,ER P "__init__" 454 215,ER P "shown" 461 222,SA P 464 223,DO P 465] 2::
 225∘CX "OwnRow" 225 224 [.ref 145] [.ref 145,.type "object"] [] (YV (.ref 202)) 433 441 "object.__new__"::
 240∘CO "__init__" "LetRow.__init__" 480 78 4 235 487::
 241∘rA "__init__" "LetRow.__init__" 18 0 240::
 250∘DI #[Ŋ P 475,FL P 479 76 478,ER P "__init__" 489 241,ER P "shown" 496 248,SA P 499 249,DO P 500] 2::
 251∘CX "LetRow" 251 250 [.ref 145] [.ref 145,.type "object"] [] (YV (.ref 228)) 468 476 "object.__new__"::
 280∘CO "reads" "SetRow.reads" 532 95 1 275 536::
 281∘rA "reads" "SetRow.reads" 19 2 280::
 290∘DI #[Ŋ P 510,FL P 514 85 513,ER P "__init__" 524 267,ER P "shown" 531 274,ER P "reads" 538 281,ER P "target" 545 288,SA P 548 289,DO P 549] 2::
 291∘CX "SetRow" 291 290 [.ref 145] [.ref 145,.type "object"] [] (YV (.ref 254)) 503 511 "object.__new__"::
 320∘CO "reads" "PutRow.reads" 582 111 1 315 586::
 321∘rA "reads" "PutRow.reads" 20 2 320::
 330∘DI #[Ŋ P 559,FL P 563 100 562,ER P "__init__" 574 307,ER P "shown" 581 314,ER P "reads" 588 321,ER P "target" 595 328,SA P 599 329,DO P 600] 2::
 331∘CX "PutRow" 331 330 [.ref 145] [.ref 145,.type "object"] [] (YV (.ref 294)) 552 560 "object.__new__"::
 346∘CO "__init__" "SendRow.__init__" 615 118 4 341 622::
 347∘rA "__init__" "SendRow.__init__" 21 0 346::
 360∘CO "reads" "SendRow.reads" 632 126 1 355 636::
 361∘rA "reads" "SendRow.reads" 21 2 360::
 363∘DI #[Ŋ P 610,FL P 614 116 613,ER P "__init__" 624 347,ER P "shown" 631 354,ER P "reads" 638 361,SA P 641 362,DO P 642] 2::
 364∘CX "SendRow" 364 363 [.ref 145] [.ref 145,.type "object"] [] (YV (.ref 334)) 603 611 "object.__new__"::
 403∘DI #[Ŋ P 652,FL P 656 128 655,ER P "__init__" 667 380,ER P "shown" 674 387,ER P "reads" 681 394,ER P "target" 688 401,SA P 692 402,DO P 693] 2::
 404∘CX "SayRow" 404 403 [.ref 145] [.ref 145,.type "object"] [] (YV (.ref 367)) 645 653 "object.__new__"::
 434∘DI #[Ŋ P 703,FL P 707 144 706,ER P "__init__" 717 420,ER P "shown" 724 427,ER P "reads" 730 432,SA P 733 433,DO P 734] 2::
 435∘CX "CallRow" 435 434 [.ref 145] [.ref 145,.type "object"] [] (YV (.ref 407)) 696 704 "object.__new__"::
 453∘DI #[Ŋ P 744,FL P 748 156 747,ER P "shown" 755 451,SA P 756 452,DO P 757] 2::
 454∘CX "LastRow" 454 453 [.ref 145] [.ref 145,.type "object"] [] (YV (.ref 438)) 737 745 "object.__new__"::
 483∘CO "reads" "IfRow.reads" 792 173 1 478 796::
 484∘rA "reads" "IfRow.reads" 25 2 483::
 486∘DI #[Ŋ P 767,FL P 771 160 770,ER P "__init__" 784 470,ER P "shown" 791 477,ER P "reads" 798 484,SA P 804 485,DO P 805] 2::
 487∘CX "IfRow" 487 486 [.ref 145] [.ref 145,.type "object"] [] (YV (.ref 457)) 760 768 "object.__new__"::
 516∘CO "reads" "LoopRow.reads" 840 188 1 511 844::
 517∘rA "reads" "LoopRow.reads" 26 2 516::
 519∘DI #[Ŋ P 815,FL P 819 175 818,ER P "__init__" 832 503,ER P "shown" 839 510,ER P "reads" 846 517,SA P 852 518,DO P 853] 2::
 520∘CX "LoopRow" 520 519 [.ref 145] [.ref 145,.type "object"] [] (YV (.ref 490)) 808 816 "object.__new__"::
 535∘CO "__init__" "Program.__init__" 868 192 4 530 875::
 536∘rA "__init__" "Program.__init__" 27 0 535::
 538∘DI #[Ŋ P 863,FL P 867 190 866,ER P "__init__" 877 536,SA P 881 537,ER P "__dict__" 883 540,ER P "__weakref__" 885 541,DO P 886] 4::
 539∘CX "Program" 539 538 [.type "object"] [.type "object"] [] YW 856 864 "object.__new__"::
 (nat_lit 540,{(.type "getset_descriptor"),YW,.fields #[(.str "__dict__" 882),(.ref 539),(.builtin "function.__dict__"),(.builtin "function.__dict__#set")],#[]})::
 541∘WR "__weakref__" 884 539 "ExceptionGroup.__weakref__"::
 549∘CO "row_place" "row_place" 893 198 1 544 897::
 550∘Ω "row_place" 30 549::
 556∘CO "laid_rows" "laid_rows" 900 200 3 551 908::
 557∘Ω "laid_rows" 31 556::
 563∘CO "laid_inside" "laid_inside" 911 206 2 558 917::
 564∘Ω "laid_inside" 32 563::
 570∘CO "laid_program" "laid_program" 920 213 1 565 926::
 571∘Ω "laid_program" 33 570::
 577∘CO "is_place" "is_place" 929 218 1 572 933::
 578∘Ω "is_place" 34 577::
 584∘CO "head_places" "head_places" 936 220 1 579 942::
 585∘Ω "head_places" 35 584::
 591∘CO "places" "places" 945 226 1 586 954::
 592∘Ω "places" 36 591::
 (nat_lit 596,{(.type "code"),YW,.fields #[(.str "under" 957),(.str "under" 958),(.str "/claim/cut.py" 959),(.int (234) 0),(.int (1) 0),(.int (0) 0),(.int (0) 0),(.int (3) 0),(.ref 593),(.bool true),(.int (181) 0),(.ref 594),.none,.none,.none,(.ref 595),(.int (960) 0),(.int (234) 0),(.str "/claim/cut.py" 961)],#[]})::
 597∘Ω "under" 37 596::
 603∘CO "exact_of" "exact_of" 965 237 2 598 973::
 604∘A2 "exact_of" 39 603::
 610∘CO "exact_of_row" "exact_of_row" 976 245 2 605 981::
 611∘A2 "exact_of_row" 40 610::
 617∘CO "one_more" "one_more" 984 253 1 612 988::
 618∘A2 "one_more" 41 617::
 624∘CO "exact_of_if" "exact_of_if" 991 255 2 619 998::
 625∘A2 "exact_of_if" 42 624::
 631∘CO "exact_of_loop" "exact_of_loop" 1001 261 2 626 1007::
 632∘A2 "exact_of_loop" 43 631::
 638∘CO "balanced" "balanced" 1010 266 2 633 1015::
 639∘A2 "balanced" 44 638::
 645∘CO "exacts" "exacts" 1018 268 1 640 1024::
 646∘A2 "exacts" 45 645::
 (nat_lit 650,{(.type "code"),YW,.fields #[(.str "drawn" 1029),(.str "drawn" 1030),(.str "/claim/cut.py" 1031),(.int (274) 0),(.int (4) 0),(.int (0) 0),(.int (0) 0),(.int (3) 0),(.ref 647),(.bool true),(.int (181) 0),(.ref 648),.none,.none,.none,(.ref 649),(.int (1032) 0),(.int (274) 0),(.str "/claim/cut.py" 1033)],#[]})::
 651∘EL "drawn" 47 650::
 657∘CO "row_links" "row_links" 1035 276 4 652 1043::
 658∘EL "row_links" 48 657::
 664∘CO "said_links" "said_links" 1046 289 2 659 1052::
 665∘EL "said_links" 49 664::
 671∘CO "called_links" "called_links" 1055 293 3 666 1065::
 672∘EL "called_links" 50 671::
 678∘CO "step_links" "step_links" 1068 301 2 673 1074::
 679∘EL "step_links" 51 678::
 (nat_lit 680,{(.type "tuple"),YW,.seq #[(.bool false)] 0,#[]})::
 (nat_lit 684,{(.type "code"),YW,.fields #[(.str "links" 1077),(.str "links" 1078),(.str "/claim/cut.py" 1079),(.int (308) 0),(.int (2) 0),(.int (0) 0),(.int (0) 0),(.int (3) 0),(.ref 681),(.bool true),(.int (181) 0),(.ref 682),.none,.none,.none,(.ref 683),(.int (1080) 0),(.int (308) 0),(.str "/claim/cut.py" 1081)],#[]})::
 685∘FD "links" "links" (top 52) 680 "hushrow.links" 1027 684::
 (nat_lit 689,{(.type "code"),YW,.fields #[(.str "sources" 1085),(.str "sources" 1086),(.str "/claim/cut.py" 1087),(.int (318) 0),(.int (1) 0),(.int (0) 0),(.int (0) 0),(.int (3) 0),(.ref 686),(.bool true),(.int (181) 0),(.ref 687),.none,.none,.none,(.ref 688),(.int (1088) 0),(.int (318) 0),(.str "/claim/cut.py" 1089)],#[]})::
 690∘IE "sources" 54 689::
 (nat_lit 694,{(.type "code"),YW,.fields #[(.str "sources_of" 1091),(.str "sources_of" 1092),(.str "/claim/cut.py" 1093),(.int (320) 0),(.int (2) 0),(.int (0) 0),(.int (0) 0),(.int (3) 0),(.ref 691),(.bool true),(.int (181) 0),(.ref 692),.none,.none,.none,(.ref 693),(.int (1094) 0),(.int (320) 0),(.str "/claim/cut.py" 1095)],#[]})::
 695∘IE "sources_of" 55 694::
 (nat_lit 699,{(.type "code"),YW,.fields #[(.str "ways_of" 1097),(.str "ways_of" 1098),(.str "/claim/cut.py" 1099),(.int (322) 0),(.int (2) 0),(.int (0) 0),(.int (0) 0),(.int (3) 0),(.ref 696),(.bool true),(.int (181) 0),(.ref 697),.none,.none,.none,(.ref 698),(.int (1100) 0),(.int (322) 0),(.str "/claim/cut.py" 1101)],#[]})::
 700∘IE "ways_of" 56 699::
 (nat_lit 704,{(.type "code"),YW,.fields #[(.str "arrivals" 1103),(.str "arrivals" 1104),(.str "/claim/cut.py" 1105),(.int (327) 0),(.int (2) 0),(.int (0) 0),(.int (0) 0),(.int (3) 0),(.ref 701),(.bool true),(.int (181) 0),(.ref 702),.none,.none,.none,(.ref 703),(.int (1106) 0),(.int (327) 0),(.str "/claim/cut.py" 1107)],#[]})::
 705∘IE "arrivals" 57 704::
 (nat_lit 706,{(.type "tuple"),YW,.seq #[(.bool false)] 0,#[]})::
 (nat_lit 710,{(.type "code"),YW,.fields #[(.str "table" 1109),(.str "table" 1110),(.str "/claim/cut.py" 1111),(.int (339) 0),(.int (2) 0),(.int (0) 0),(.int (0) 0),(.int (3) 0),(.ref 707),(.bool true),(.int (181) 0),(.ref 708),.none,.none,.none,(.ref 709),(.int (1112) 0),(.int (339) 0),(.str "/claim/cut.py" 1113)],#[]})::
 711∘FD "table" "table" (top 58) 706 "hushrow.reach" 1083 710::
 717∘CO "ranks_told" "ranks_told" 1117 347 1 712 1123::
 718∘FU "ranks_told" "ranks_told" (top 60) "hushrow.looker" 1115 717::
 731∘CO "__init__" "Book.__init__" 1140 356 1 726 1144::
 732∘FU "__init__" "Book.__init__" (YY (top 62) 0) "hushrow.books" 1126 731::
 734∘DI #[Ey P "__module__" 1135 (.str "hushrow.books" 1126),FL P 1139 354 1138,ER P "__init__" 1146 732,SA P 1152 733,ER P "__dict__" 1154 736,ER P "__weakref__" 1156 737,DO P 1157] 4::
 735∘CX "Book" 735 734 [.type "object"] [.type "object"] [] YW 1128 1136 "object.__new__"::
 (nat_lit 736,{(.type "getset_descriptor"),YW,.fields #[(.str "__dict__" 1153),(.ref 735),(.builtin "function.__dict__"),(.builtin "function.__dict__#set")],#[]})::
 737∘WR "__weakref__" 1155 735 "ExceptionGroup.__weakref__"::
 745∘CO "is_number" "is_number" 1164 364 1 740 1168::
 746∘Es "is_number" 65 745::
 (nat_lit 750,{(.type "code"),YW,.fields #[(.str "is_good" 1171),(.str "is_good" 1172),(.str "/claim/cut.py" 1173),(.int (368) 0),(.int (2) 0),(.int (0) 0),(.int (0) 0),(.int (3) 0),(.ref 747),(.bool true),(.int (181) 0),(.ref 748),.none,.none,.none,(.ref 749),(.int (1174) 0),(.int (368) 0),(.str "/claim/cut.py" 1175)],#[]})::
 751∘Es "is_good" 66 750::
 757∘CO "given_cell" "given_cell" 1177 372 2 752 1183::
 758∘Es "given_cell" 67 757::
 764∘CO "own_cell" "own_cell" 1186 377 1 759 1190::
 765∘Es "own_cell" 68 764::
 771∘CO "cells_of" "cells_of" 1193 379 2 766 1202::
 772∘Es "cells_of" 69 771::
 799∘CO "__init__" "Run.__init__" 1240 411 3 794 1247::
 800∘Au "__init__" "Run.__init__" 75 0 799::
 806∘CO "number_at" "Run.number_at" 1250 418 2 801 1255::
 807∘Au "number_at" "Run.number_at" 75 1 806::
 813∘CO "number_for" "Run.number_for" 1258 421 2 808 1265::
 814∘Au "number_for" "Run.number_for" 75 2 813::
 820∘CO "number_told" "Run.number_told" 1268 430 2 815 1273::
 821∘Au "number_told" "Run.number_told" 75 3 820::
 827∘CO "pass_steps" "Run.pass_steps" 1276 435 2 822 1282::
 828∘Au "pass_steps" "Run.pass_steps" 75 4 827::
 834∘CO "do_rows" "Run.do_rows" 1285 439 2 829 1292::
 835∘Au "do_rows" "Run.do_rows" 75 5 834::
 841∘CO "do_row" "Run.do_row" 1295 446 2 836 1302::
 842∘Au "do_row" "Run.do_row" 75 6 841::
 870∘DI #[Ey P "__module__" 1235 (.str "hushrow.runner" 1226),FL P 1239 409 1238,ER P "__init__" 1249 800,ER P "number_at" 1257 807,ER P "number_for" 1267 814,ER P "number_told" 1275 821,ER P "pass_steps" 1284 828,ER P "do_rows" 1294 835,ER P "do_row" 1304 842,ER P "do_put" 1313 849,ER P "do_call" 1319 854,ER P "do_if" 1328 861,ER P "do_loop" 1339 868,SA P 1343 869,ER P "__dict__" 1345 872,ER P "__weakref__" 1347 873,DO P 1348] 4::
 871∘CX "Run" 871 870 [.type "object"] [.type "object"] [] YW 1228 1236 "object.__new__"::
 (nat_lit 872,{(.type "getset_descriptor"),YW,.fields #[(.str "__dict__" 1344),(.ref 871),(.builtin "function.__dict__"),(.builtin "function.__dict__#set")],#[]})::
 873∘WR "__weakref__" 1346 871 "ExceptionGroup.__weakref__"::
 (nat_lit 879,{(.type "code"),YW,.fields #[(.str "ends_of" 1351),(.str "ends_of" 1352),(.str "/claim/cut.py" 1353),(.int (498) 0),(.int (2) 0),(.int (0) 0),(.int (0) 0),(.int (3) 0),(.ref 876),(.bool true),(.int (181) 0),(.ref 877),.none,.none,.none,(.ref 878),(.int (1354) 0),(.int (498) 0),(.str "/claim/cut.py" 1355)],#[]})::
 880∘FU "ends_of" "ends_of" (top 76) "hushrow.runner" 1226 879::
 886∘CO "run" "run" 1357 500 2 881 1364::
 887∘FU "run" "run" (top 77) "hushrow.runner" 1226 886::
 893∘CO "unlike_given" "unlike_given" 1369 507 4 888 1377::
 894∘Ax "unlike_given" 79 893::
 900∘CO "common_rows" "common_rows" 1380 512 2 895 1389::
 901∘Ax "common_rows" 80 900::
 907∘CO "parting_rows" "parting_rows" 1392 518 2 902 1402::
 908∘Ax "parting_rows" 81 907::
 914∘CO "next_common" "next_common" 1405 525 3 909 1411::
 915∘Ax "next_common" 82 914::
 (nat_lit 919,{(.type "code"),YW,.fields #[(.str "pairs_of" 1414),(.str "pairs_of" 1415),(.str "/claim/cut.py" 1416),(.int (529) 0),(.int (2) 0),(.int (0) 0),(.int (0) 0),(.int (3) 0),(.ref 916),(.bool true),(.int (181) 0),(.ref 917),.none,.none,.none,(.ref 918),(.int (1417) 0),(.int (529) 0),(.str "/claim/cut.py" 1418)],#[]})::
 920∘Ax "pairs_of" 83 919::
 926∘CO "walk" "walk" 1420 531 4 921 1430::
 927∘Ax "walk" 84 926::
 933∘CO "walked" "walked" 1433 538 4 928 1446::
 934∘Ax "walked" 85 933::
 940∘CO "_law_cell_at" "_law_cell_at" 1451 555 2 935 1456::
 941∘pZ "_law_cell_at" 87 940::
 947∘CO "_law_mix" "_law_mix" 1459 559 3 942 1466::
 948∘pZ "_law_mix" 88 947::
 954∘CO "_law_name" "_law_name" 1469 565 2 949 1480::
 955∘pZ "_law_name" 89 954::
 961∘CO "_law_number" "_law_number" 1483 577 1 956 1487::
 962∘pZ "_law_number" 90 961::
 (nat_lit 966,{(.type "code"),YW,.fields #[(.str "_law_heads" 1490),(.str "_law_heads" 1491),(.str "/claim/cut.py" 1492),(.int (583) 0),(.int (2) 0),(.int (0) 0),(.int (0) 0),(.int (3) 0),(.ref 963),(.bool true),(.int (181) 0),(.ref 964),.none,.none,.none,(.ref 965),(.int (1493) 0),(.int (583) 0),(.str "/claim/cut.py" 1494)],#[]})::
 967∘pZ "_law_heads" 91 966::
 (nat_lit 971,{(.type "code"),YW,.fields #[(.str "_law_tree" 1496),(.str "_law_tree" 1497),(.str "/claim/cut.py" 1498),(.int (600) 0),(.int (2) 0),(.int (0) 0),(.int (0) 0),(.int (3) 0),(.ref 968),(.bool true),(.int (181) 0),(.ref 969),.none,.none,.none,(.ref 970),(.int (1499) 0),(.int (600) 0),(.str "/claim/cut.py" 1500)],#[]})::
 972∘pZ "_law_tree" 92 971::
 978∘CO "_law_gift" "_law_gift" 1502 618 3 973 1511::
 979∘pZ "_law_gift" 93 978::
 985∘CO "_law_gifts" "_law_gifts" 1514 626 4 980 1524::
 986∘pZ "_law_gifts" 94 985::
 992∘CO "_law_spoiled" "_law_spoiled" 1527 636 3 987 1535::
 993∘pZ "_law_spoiled" 95 992::
 999∘CO "_law_moved" "_law_moved" 1538 645 3 994 1546::
 1000∘pZ "_law_moved" 96 999::
 1006∘CO "_law_turned" "_law_turned" 1549 652 3 1001 1557::
 1007∘pZ "_law_turned" 97 1006::
 1013∘CO "_law_asked" "_law_asked" 1560 658 4 1008 1570::
 1014∘pZ "_law_asked" 98 1013::
 (nat_lit 1018,{(.type "code"),YW,.fields #[(.str "law" 1573),(.str "law" 1574),(.str "/claim/cut.py" 1575),(.int (670) 0),(.int (1) 0),(.int (0) 0),(.int (0) 0),(.int (3) 0),(.ref 1015),(.bool true),(.int (181) 0),(.ref 1016),.none,.none,.none,(.ref 1017),(.int (1576) 0),(.int (670) 0),(.str "/claim/cut.py" 1577)],#[]})::
 (nat_lit 1019,pZ "law" 99 1018)::[]
def qM:List RB:=[2,3,30,31,32,47,48,50,51,66,67,69,70,78,79,85,86,92,93,99,100,106,107,113,114,127,128,144,145,146,147,162,163,172,173,188,189,198,199,214,215,224,225,240,241,250,251,280,281,290,291,320,321,330,331,346,347,360,361,363,364,403,404,434,435,453,454,483,484,486,487,516,517,519,520,535,536,538,539,540,541,549,550,556,557,563,564,570,571,577,578,584,585,591,592,596,597,603,604,610,611,617,618,624,625,631,632,638,639,645,646,650,651,657,658,664,665,671,672,678,679,680,684,685,689,690,694,695,699,700,704,705,706,710,711,717,718,731,732,734,735,736,737,745,746,750,751,757,758,764,765,771,772,799,800,806,807,813,814,820,821,827,828,834,835,841,842,870,871,872,873,879,880,886,887,893,894,900,901,907,908,914,915,919,920,926,927,933,934,940,941,947,948,954,955,961,962,966,967,971,972,978,979,985,986,992,993,999,1000,1006,1007,1013,1014,1018,1019]
theorem kq(P:S9):qM=(ð P).map (·.1):=by kernel_rfl
abbrev prog:Program:=PySem.Challenge.pw_hushrow_k67_walks_refused
abbrev law:Xr:=PySem.Challenge.rw_hushrow_k67_walks_refused
def cq:Program:={ prog with main:={ prog.main with body:=[top 0,top 2,top 3,top 4,top 6,top 7,top 8,top 9,top 11,top 13,top 14,top 15,top 16,top 17,top 18,top 19,top 20,top 21,top 22,top 23,top 24,top 25,top 26,top 27,top 29,top 30,top 31,top 32,top 33,top 34,top 35,top 36,top 37,top 39,top 40,top 41,top 42,top 43,top 44,top 45,top 47,top 48,top 49,top 50,top 51,top 54,top 55,top 56,top 57,top 60,top 62,top 64,top 65,top 66,top 67,top 68,top 69,top 71,top 72,top 73,top 75,top 76,top 77,top 79,top 80,top 81,top 82,top 83,top 84,top 85,top 87,top 88,top 89,top 90,top 91,top 92,top 93,top 94,top 95,top 96,top 97,top 98,top 99] } }
abbrev hook:W.Hook:=W5 ð qM kq
abbrev test:RF->Bool:=λs=>xlAt cq [] s&&recOk (RowW.records law.row.toRowW) s
abbrev Mo:RF->List (Option Obj):=λs=>qM.map s.heap.get?
abbrev OL:RS->List (Option Obj):=λw=>(ð w.params).map λp=>YV p.2
def T₀(P:S9):BT:=Hd.treeOf (Vk P).objs.toList 0 .nil
def lookL(w:RS)(os:So):=(Hd.gH Sb prog w 11 (YV (.ref 6)) 15498 {T₀ w.params,11,{},Q3 [],Ur,UQ,os} (SN prog)).map λs=>Hd.AM prog (Vk w.params) s.abs
def lookO(w:RS)(os:So):=(Hd.gH Sb prog w 11 (YV (.ref 6)) 15498 {T₀ w.params,11,{},Q3 [],Ur,UQ,os} (SN prog)).map λs=>seen ((recsOf cq).map (·.name)) (ownsOf cq) [] { s.abs with gens:=#[] }
def lookY(w:RS)(os:So):=(Hd.gH Sb prog w 11 (YV (.ref 6)) 15498 {T₀ w.params,11,{},Q3 [],Ur,UQ,os} (SN prog)).map λs=>s.abs.heap.bltView
def lookW(w:RS)(os:So):=(Hd.gH Sb prog w 11 (YV (.ref 6)) 15498 {T₀ w.params,11,{},Q3 [],Ur,UQ,os} (SN prog)).map λs=>(T8 cq ["links","table"] (Sh prog.main.body) test true s.abs).2.2.1
def lookX(w:RS)(os:So):=(Hd.gH Sb prog w 11 (YV (.ref 6)) 15498 {T₀ w.params,11,{},Q3 [],Ur,UQ,os} (SN prog)).map λs=>(T8 cq ["links","table"] (Sh prog.main.body) test true s.abs).2.2.2.1
def lookU(w:RS)(os:So):=(Hd.gH Sb prog w 11 (YV (.ref 6)) 15498 {T₀ w.params,11,{},Q3 [],Ur,UQ,os} (SN prog)).map λs=>(pinSeenD cq (YO cq) s.abs,plainSeenE cq (looseW cq ["links","table"]) s.abs,plainSeenD cq ["links","table"] s.abs,wideSeen cq s.abs,clsSeenW cq ["links","table"] s.abs)
def lookM(w:RS)(os:So):=(Hd.gH Sb prog w 11 (YV (.ref 6)) 15498 {T₀ w.params,11,{},Q3 [],Ur,UQ,os} (SN prog)).map λs=>Mo s.abs
def lookS(w:RS)(os:So):=YV (OL w)
def vo(w:RS)(os:So):=YV true
def lookQ(w:RS)(os:So):=YV (expectedOf cq)
def lookB(w:RS)(os:So):=YV bltViewBooted
def lookV(w:RS)(os:So):=YV (pinGoodD (YO cq),plainGoodE cq (looseW cq ["links","table"]),plainGoodD cq ["links","table"],wideGood cq,clsGoodW cq ["links","table"])
theorem lookQ_self:lookQ=lookQ:=rfl
theorem lookB_self:lookB=lookB:=rfl
theorem lookV_self:lookV=lookV:=rfl
theorem lookL_self:lookL=lookL:=rfl
theorem lookO_self:lookO=lookO:=rfl
theorem lookY_self:lookY=lookY:=rfl
theorem lookW_self:lookW=lookW:=rfl
theorem lookX_self:lookX=lookX:=rfl
theorem lookU_self:lookU=lookU:=rfl
theorem lookM_self:lookM=lookM:=rfl
theorem lookS_self:lookS=lookS:=rfl
end K67
def PySem.W.Fast.tw14598715356260435866:PySem.Params->PySem.Obj:=Xs
theorem PySem.W.Fast.te14598715356260435866:Xs=PySem.W.Fast.tw14598715356260435866:=rfl
def PySem.W.Fast.tw3154044116559298900:PySem.Program:=PySem.Challenge.pw_hushrow_k67_walks_refused
theorem PySem.W.Fast.te3154044116559298900:PySem.Challenge.pw_hushrow_k67_walks_refused=PySem.W.Fast.tw3154044116559298900:=rfl
def PySem.W.Fast.tw376337330720994333:PySem.Params->T9:=K67.ð
theorem PySem.W.Fast.te376337330720994333:K67.ð=PySem.W.Fast.tw376337330720994333:=rfl
lay_quick K67.lookQ K67.lookB K67.lookV K67.lookL K67.lookO K67.lookY K67.lookW K67.lookX K67.lookU K67.lookM K67.lookS
name_quick K67lookQ for K67.lookQ by K67.lookQ_self
name_quick K67lookB for K67.lookB by K67.lookB_self
name_quick K67lookV for K67.lookV by K67.lookV_self
name_quick K67lookL for K67.lookL by K67.lookL_self
name_quick K67lookO for K67.lookO by K67.lookO_self
name_quick K67lookY for K67.lookY by K67.lookY_self
name_quick K67lookW for K67.lookW by K67.lookW_self
name_quick K67lookX for K67.lookX by K67.lookX_self
name_quick K67lookU for K67.lookU by K67.lookU_self
name_quick K67lookM for K67.lookM by K67.lookM_self
name_quick K67lookS for K67.lookS by K67.lookS_self
namespace K67
open PySem L2 PySem.W PyProof.Rows
theorem wB:W.Fast.K67lookY=W.Fast.K67lookB:=by kernel_rfl
theorem yw:lookY=lookB:=W.Fast.K67lookY_eq.trans (wB.trans W.Fast.K67lookB_eq.symm)
theorem xv:W.Fast.K67lookM=W.Fast.K67lookS:=by kernel_rfl
theorem yq:lookM=lookS:=W.Fast.K67lookM_eq.trans (xv.trans W.Fast.K67lookS_eq.symm)
theorem xD:W.Fast.K67lookO=W.Fast.K67lookQ:=by kernel_rfl
theorem yT:lookO=lookQ:=W.Fast.K67lookO_eq.trans (xD.trans W.Fast.K67lookQ_eq.symm)
theorem wM:W.Fast.K67lookU=W.Fast.K67lookV:=by kernel_rfl
theorem xG:lookU=lookV:=W.Fast.K67lookU_eq.trans (wM.trans W.Fast.K67lookV_eq.symm)
theorem zj:W.Fast.K67lookL=vo:=by kernel_rfl
theorem AR:lookL=vo:=W.Fast.K67lookL_eq.trans zj
theorem xh:W.Fast.K67lookW=vo:=by kernel_rfl
theorem zl:lookW=vo:=W.Fast.K67lookW_eq.trans xh
theorem wo:W.Fast.K67lookX=vo:=by kernel_rfl
theorem yA:lookX=vo:=W.Fast.K67lookX_eq.trans wo
theorem II(P:S9):YN (T₀ P) 11 {}=Vk P:=by kernel_rfl
theorem HF(w:RS):((Vk w.params).isNs RU&&(Q3 []:Array UA).size==0,(Vk w.params).objs.size,(Vk w.params).nsMap RU "__annotations__")=(true,11,YV (.ref 6)):=by kernel_rfl
theorem Mn{p q:Program}{loose:List Str}{Xt:RF->Bool}{α:Type}{Yf:RF->α}{Ya:RS->α}{N:Nat}{g0:Bool}{H₀:S9->R8}{Ā:Array UA}{d₀:Drawn}{k₀ m₀ n₀:Nat}{ann:Option RC}{T₀:S9->BT}{life:Life}
  (opn:∀w:RS,(Ww Sb p w N).map (λs=>(s.heap,s.gens,s.drawn,s.toks))=YV (H₀ w.params,Ā,d₀,k₀))
  (size:∀w:RS,((H₀ w.params).isNs RU&&Ā.size==0,(H₀ w.params).objs.size,(H₀ w.params).nsMap RU "__annotations__")=(true,m₀,ann))
  (tree:∀P:S9,YN (T₀ P) n₀ life=H₀ P)
  (ū:∀(w:RS)(os:So),(Hd.gH Sb p w m₀ ann N ⟨T₀ w.params,n₀,life,Ā,d₀,k₀,os⟩ (SN p)).map (λs=>Hd.AM p (H₀ w.params) s.abs)=YV true)
  (ũ:∀(w:RS)(os:So),(Hd.gH Sb p w m₀ ann N ⟨T₀ w.params,n₀,life,Ā,d₀,k₀,os⟩ (SN p)).map (λs=>seen ((recsOf q).map (·.name)) (ownsOf q) [] { s.abs with gens:=#[] })=YV (expectedOf q))
  (ť:∀(w:RS)(os:So),(Hd.gH Sb p w m₀ ann N ⟨T₀ w.params,n₀,life,Ā,d₀,k₀,os⟩ (SN p)).map (λs=>s.abs.heap.bltView)=YV bltViewBooted)
  (ŧ:∀(w:RS)(os:So),(Hd.gH Sb p w m₀ ann N ⟨T₀ w.params,n₀,life,Ā,d₀,k₀,os⟩ (SN p)).map (λs=>(T8 q loose (Sh p.main.body) Xt g0 s.abs).2.2.1)=YV true)
  (Ŧ:∀(w:RS)(os:So),(Hd.gH Sb p w m₀ ann N ⟨T₀ w.params,n₀,life,Ā,d₀,k₀,os⟩ (SN p)).map (λs=>(T8 q loose (Sh p.main.body) Xt g0 s.abs).2.2.2.1)=YV true)
  (Ũ:∀(w:RS)(os:So),(Hd.gH Sb p w m₀ ann N ⟨T₀ w.params,n₀,life,Ā,d₀,k₀,os⟩ (SN p)).map (λs=>(pinSeenD q (YO q) s.abs,plainSeenE q (looseW q loose) s.abs,plainSeenD q loose s.abs,wideSeen q s.abs,clsSeenW q loose s.abs))=YV (pinGoodD (YO q),plainGoodE q (looseW q loose),plainGoodD q loose,wideGood q,clsGoodW q loose))
  (Ū:∀(w:RS)(os:So),(Hd.gH Sb p w m₀ ann N ⟨T₀ w.params,n₀,life,Ā,d₀,k₀,os⟩ (SN p)).map (λs=>Yf s.abs)=YV (Ya w)) :
  LeftO p q loose Xt Yf Ya N g0:=Hd.Fd opn size tree ū ũ ť ŧ Ŧ Ũ Ū
theorem left:LeftO prog cq ["links","table"] test hook.obs hook.val 15498:=Mn (boot_open (p:=prog) (N:=15498) (by kernel_rfl) rfl (λ_=>rfl)) HF II (λw os=>congrFun (congrFun AR w) os) (λw os=>congrFun (congrFun yT w) os) (λw os=>congrFun (congrFun yw w) os) (λw os=>congrFun (congrFun zl w) os) (λw os=>congrFun (congrFun yA w) os) (λw os=>congrFun (congrFun xG w) os) (λw os=>congrFun (congrFun yq w) os)
end K67
namespace L2
open PySem PySem.Spec PyProof.Rows
abbrev Key:=Sum Int Str
def vN:Key->RC->Bool
 | .inl k,v=>XJ k v
 | .inr x,v=>Wx x v
def NJ(w:RS):Key->Int
 | .inl k=>hashInt k
 | .inr x=>hashStr w x
theorem cB:∀{k:Key}{v:RC},vN k v=true->(∃i t,k=Qu i/\v=SW i t)\/(∃x t,k=Pe x/\v=Vl x t)
 | .inl i,v,h=>by
  obtain⟨t,e⟩:=W6 (k:=i) (v:=v) h;exact .inl ⟨i,t,rfl,e⟩
 | .inr x,v,h=>by
  obtain⟨t,e⟩:=Wj (x:=x) (v:=v) h;exact .inr ⟨x,t,rfl,e⟩
theorem Dx(i:Int)(t:Tok):vN (.inl i) (.int i t)=true:=by simp[vN,XJ]
theorem Dj(x:Str)(t:Tok):vN (.inr x) (.str x t)=true:=by simp[vN,Wx]
theorem KH(a b:Int):decide ((Qu a:Key)=Qu b)=(a==b):=by
 by_cases e:a=b
 ·subst e;simp
 have h:¬ (Qu a:Key)=Qu b:=λq=>e (Qu.inj q);rw[decide_eq_false h];exact(beq_eq_false_iff_ne.mpr e).symm
theorem LD(a b:Str):decide ((Pe a:Key)=Pe b)=decide (a=b):=by
 by_cases e:a=b
 ·subst e;simp
 have h:¬ (Pe a:Key)=Pe b:=λq=>e (Pe.inj q);rw[decide_eq_false h,decide_eq_false e]
theorem KA(a:Int)(b:Str):decide ((Qu a:Key)=Pe b)=false:=decide_eq_false (λq=>nomatch q)
theorem Lf(a:Str)(b:Int):decide ((Pe a:Key)=Qu b)=false:=decide_eq_false (λq=>nomatch q)
def aZ(prog:Program)(w:RS):PySem.KeyKind prog w Key where
 is:=vN
 hash:=NJ w
 inj:=λv a b ha hb=>by
  rcases cB ha with⟨i,t,rfl,rfl⟩|⟨x,t,rfl,rfl⟩
  ·rcases cB hb with⟨j,u,rfl,e⟩|⟨y,u,rfl,e⟩
   ·injection e with e1 _;rw[e1]
   exact nomatch e
  rcases cB hb with⟨j,u,rfl,e⟩|⟨y,u,rfl,e⟩
  ·exact nomatch e
  injection e with e1 _;rw[e1]
 byValue:=λk v h=>by
  rcases cB h with⟨i,t,rfl,rfl⟩|⟨x,t,rfl,rfl⟩<;>rfl
 pyHash:=λhv h=>by
  rcases cB hv with⟨i,t,rfl,rfl⟩|⟨x,t,rfl,rfl⟩
  ·exact wpAny_pyHash_int h
  exact wpAny_pyHash_str h
 eqBool:=λhu hv h=>by
  rcases cB hu with⟨i,t,rfl,rfl⟩|⟨x,t,rfl,rfl⟩
  ·rcases cB hv with⟨j,u,rfl,rfl⟩|⟨y,u,rfl,rfl⟩
   ·rw[KH]at h;exact wpAny_eqBool_int h
   rw[KA]at h;exact WG i t y u _ _ _ _ h
  rcases cB hv with⟨j,u,rfl,rfl⟩|⟨y,u,rfl,rfl⟩
  ·rw[Lf]at h;exact WH x t j u _ _ _ _ h
  rw[LD]at h;exact wpAny_eqBool_str h
 «strs»:=λk x t v h=>by
  rcases cB h with⟨i,u,rfl,e⟩|⟨y,u,rfl,e⟩
  ·exact nomatch e
  injection e with e1 _;subst e1;cases v<;>rfl
theorem xW(prog:Program)(w:RS)(i:Int)(t:Tok):(aZ prog w).is (.inl i) (.int i t)=true:=Dx i t
theorem x8(prog:Program)(w:RS)(x:Str)(t:Tok):(aZ prog w).is (.inr x) (.str x t)=true:=Dj x t
inductive V where
 |Ä|bl (b:Bool)|int (i:Int)|str (x:Str)|ğ (b:Array UInt8)|ϭ (b:UInt64)|ref (a:RB)|ty (n:String)
 deriving DecidableEq
def Y0:V->RC->Prop
 | .Ä,u=>u=RW
 | .bl b,u=>u=WI b
 | .int i,u=>∃t,u=SW i t
 | .str x,u=>∃t,u=Vl x t
 | .ğ b,u=>∃t,u=Value.bytes b t
 | .ϭ b,u=>∃t,u=XM b t
 | .ref a,u=>u=RM a
 | .ty n,u=>u=SX n
abbrev Y1:List V->List RC->Prop:=Paired Y0
theorem Y1.length(r:Y1 xs us):xs.length=us.length:=RN r
theorem bR{α β:Type}{F:α->β->Prop}{l:List α}{m:List β}(h:Paired F l m):∀{i:Nat}{a:α},l[i]?=YV a->∃b,m[i]?=YV b/\F a b:=by
 induction h with
 |nil=>intro i a e;cases e
 |cons r _ ih=>
  intro i a e;cases i with
  |zero=>cases e;exact{_,rfl,r}
  |succ i=>exact ih (i:=i) e
theorem Dm(h:F x y)(r:Paired F xs ys):Paired F (xs.set i x) (ys.set i y):=by
 induction r generalizing i with
 |nil=>exact .nil
 |cons q t ih=>
  cases i with
  |zero=>exact .cons h t
  |succ i=>exact .cons q ih
theorem zi(t:Nat)(h:Paired F l m):Paired F (l.take t) (m.take t):=by
 induction h generalizing t with
 |nil=>cases t<;>exact .nil
 |cons q _ ih=>
  cases t with
  |zero=>exact .nil
  |succ t=>exact .cons q (ih t)
theorem zm(t:Nat)(h:Paired F l m):Paired F (l.drop t) (m.drop t):=by
 induction h generalizing t with
 |nil=>cases t<;>exact .nil
 |cons q r ih=>
  cases t with
  |zero=>exact .cons q r
  |succ t=>exact ih t
theorem zE(h:Paired F xs ys)(g:Paired F zs ws):Paired F (xs++zs) (ys++ws):=by
 induction h with
 |nil=>exact g
 |cons q _ ih=>exact .cons q ih
theorem Y1.get{i:Nat}(h:Y1 xs us)(e:xs[i]?=YV x):∃u,us[i]?=YV u/\Y0 x u:=bR h e
theorem Y1.set(r:Y0 x u)(i:Nat)(h:Y1 xs us):Y1 (xs.set i x) (us.set i u):=Dm r h
theorem Y1.append(h:Y1 xs us)(g:Y1 ys ws):Y1 (xs++ys) (us++ws):=zE h g
theorem Y1.take(n:Nat)(h:Y1 xs us):Y1 (xs.take n) (us.take n):=zi n h
theorem Y1.drop(n:Nat)(h:Y1 xs us):Y1 (xs.drop n) (us.drop n):=zm n h
theorem Y1.none_of:∀{xs:List V}{us:List RC}{i:Nat},Y1 xs us->xs[i]?=YW->us[i]?=YW:=λ{xs us i} r e=>by
 have h1:=r.length;have h2:xs.length<=i:=List.getElem?_eq_none_iff.mp e;exact List.getElem?_eq_none_iff.mpr ()
def iH:Option V->Option RC->Prop
 |some v,YV u=>Y0 v u
 |none,YW=>True
 |_,_=>False
def KV{κ:Type}:List (κ×V)->List (κ×RC)->Prop:=Paired λ(p:κ×V)(q:κ×RC)=>p.1=q.1/\Y0 p.2 q.2
def kV:Key->V
 | .inl i=>.int i
 | .inr x=>.str x
inductive HO where
 |lst (xs:List V)
 |tup (xs:List V)
 |dK (kvs:List (Key×V))|dT (kvs:List (List Key×V))
 |set (S:Int->Bool) (n:Nat)
 |ins (C dx:RB) (fs:List (Str×V))
 |own (x:RB)
 |xd (fs:List (Str×V))
 |met (f x:RB)
 |rng (lo hi:Int)
 |ß (o:Obj) (u:HO)
 |ϸ (ps:Array RC)
 |ext (φ:R8->Prop)
abbrev Hp:=RB->Option HO
def upd(H:Hp)(a:RB)(o:HO):Hp:=λb=>if b=a then YV o else H b
theorem ao:upd H a o a=YV o:=by unfold upd;rw[if_pos rfl]
theorem ay(h:b≠a):upd H a o b=H b:=by unfold upd;rw[if_neg h]
theorem IL:upd (upd H a o) a u=upd H a u:=by
 funext b;unfold upd;split<;>rfl
theorem ua{H:Hp}(h:H a=YV o)(h':H b=YV u)(d:o≠u):a≠b:=by
 intro e;subst e;rw[h]at h';exact d (RQ h')
theorem bZ{H:Hp}(h:H a=YV o)(h':H b=YW):a≠b:=by
 intro e;subst e;rw[h]at h';cases h'
section
variable(P:Program)(w:RS)
def bO(H:Hp)(h:R8)(a:RB):HO->Prop
 | .lst xs=>xs.length<=sizeLine/\∃(Á:List RC)(n:Nat),Y1 xs Á/\h.get? a=YV { cls:=.type "list",data:=.seq Á.toArray n }
 | .tup xs=>xs.length<=sizeLine/\∃Á:List RC,Y1 xs Á/\IsTup h a Á.toArray
 | .dK kvs=>kvs.length<=sizeLine/\(a==SO)=false/\∃vs,KV kvs vs/\h.DictOf (aZ P w) a vs
 | .dT kvs=>kvs.length<=sizeLine/\(a==SO)=false/\∃xs:List (List Key×RB×RC),
   Paired (λ(p:List Key×V)(q:List Key×RB×RC)=>p.1=q.1/\H q.2.1=YV (.tup (p.1.map kV))/\Y0 p.2 q.2.2) kvs xs/\
   ∃o es ep,h.get? a=YV o/\o.ExactDict/\o.data=.dict es ep/\es.toList=xs.map (entryOfKey (Vm (aZ P w)))/\(xs.map (·.1)).Nodup
 | .set S n=>h.SetOf (TX P w) a S n
 | .ins C dx fs=>H dx=YV (.own a)/\fs.length<=1000/\dx≠a/\h.get? a=YV (Us C dx)/\
   ∃mA,h.Ns1 dx mA/\(∀f,iH (fs.lookup f) (mA f))/\VB mA (fs.map (·.1))
 | .own _=>∃o,h.get? a=YV o
 | .xd fs=>∃mA,h.Ns1 a mA/\∀f,iH (fs.lookup f) (mA f)
 | .rng lo hi=>∃t u v,h.get? a=YV { cls:=.type "range",data:=.fields #[.int lo t,.int hi u,.int 1 v] }
 | .ß o u=>h.get? a=YV o/\bO H h a u
 | .ϸ ps=>h.get? a=YV { cls:=.none,data:=.fields ps }
 | .met f x=>h.get? a=YV (XN (.ref f) (.ref x))
 | .ext φ=>φ h/\(∃o,h.get? a=YV o)/\∀h1 h2:R8,φ h1->(∀o,h1.get? a=YV o->h2.get? a=YV o)->φ h2
def ó(H:Hp)(h:R8):Prop:=∀a o,H a=YV o->bO P w H h a o
end
section
variable{P:Program}{w:RS}{H H':Hp}{h h':R8}{a:RB}{o:HO}
theorem bO.lt(x:bO P w H h a o):a<h.objs.size:=by
 cases o with
 |lst xs=>obtain⟨_,_,_,_,e⟩:=x;exact RH e
 |tup xs=>obtain⟨_,_,_,p⟩:=x;exact p.lt
 |dK kvs=>obtain⟨_,_,_,_,o,_,_,e,_⟩:=x;exact RH e
 |dT kvs=>obtain⟨_,_,_,_,o,_,_,e,_⟩:=x;exact RH e
 |set S n=>obtain⟨o,_,_,_,e,_⟩:=x;exact RH e
 |ins C dx fs=>obtain⟨_,_,_,e,_⟩:=x;exact RH e
 |own y=>obtain⟨_,e⟩:=x;exact RH e
 |xd fs=>obtain⟨_,⟨_,_,_,e,_⟩,_⟩:=x;exact RH e
 |rng lo hi=>obtain⟨_,_,_,e⟩:=x;exact RH e
 |ß ob u=>obtain⟨e,_⟩:=x;exact RH e
 |ϸ ps=>exact RH (show h.get? a=YV _ from x)
 |met f y=>exact RH (show h.get? a=YV _ from x)
 |ext φ=>obtain⟨_,⟨_,e⟩,_⟩:=x;exact RH e
theorem Paired.gR(h:Paired F l₁ l₂)(f:∀a b,F a b->G a b):Paired G l₁ l₂:=by
 induction h with
 |nil=>exact .nil
 |cons q _ ih=>exact .cons (f _ _ q) ih
theorem bO.o4(x:bO P w H h a o)(k:∀b u,(b=a\/H b=YV (.own a))->h.get? b=YV u->h'.get? b=YV u)
  (ho:∀b,H b=YV (.own a)->H' b=YV (.own a)) (ht:∀b xs,H b=YV (.tup xs)->H' b=YV (.tup xs)):bO P w H' h' a o:=by
 induction o with
 |lst xs=>obtain⟨z,Á,n,r,e⟩:=x;exact{z,Á,n,r,k _ _ (.inl rfl) e}
 |tup xs=>obtain⟨z,Á,r,ob,e,c⟩:=x;exact{z,Á,r,ob,k _ _ (.inl rfl) e,c}
 |dK kvs=>obtain⟨z,y,vs,r,ob,es,ep,e,c⟩:=x;exact{z,y,vs,r,ob,es,ep,k _ _ (.inl rfl) e,c}
 |dT kvs=>
  obtain⟨z,y,xs,r,ob,es,ep,e,c⟩:=x
  exact{z,y,xs,Paired.gR r λp q z=>{z.1,ht _ _ z.2.1,z.2.2},ob,es,ep,k _ _ (.inl rfl) e,c}
 |set S n=>obtain⟨ob,es,ep,t,e,c⟩:=x;exact{ob,es,ep,t,k _ _ (.inl rfl) e,c}
 |ins C dx fs=>
  obtain⟨d,z,ne,e,mA,⟨od,es,ep,e2,c⟩,r⟩:=x
  exact{ho _ d,z,ne,k _ _ (.inl rfl) e,mA,{od,es,ep,k _ _ (.inr d) e2,c},r}
 |own y=>obtain⟨ob,e⟩:=x;exact{ob,k _ _ (.inl rfl) e}
 |xd fs=>obtain⟨mA,⟨od,es,ep,e,c⟩,r⟩:=x;exact{mA,{od,es,ep,k _ _ (.inl rfl) e,c},r}
 |rng lo hi=>obtain⟨t,u,v,e⟩:=x;exact{t,u,v,k _ _ (.inl rfl) e}
 |ß ob u ih=>obtain⟨e,q⟩:=x;exact{k _ _ (.inl rfl) e,ih q}
 |ϸ ps=>
  have e:h.get? a=YV { cls:=.none,data:=.fields ps }:=x
  show h'.get? a=YV { cls:=.none,data:=.fields ps }
  exact k a _ (.inl rfl) e
 |met f y=>
  have e:h.get? a=YV (XN (.ref f) (.ref y)):=x
  show h'.get? a=YV (XN (.ref f) (.ref y))
  exact k a _ (.inl rfl) e
 |ext φ=>obtain⟨p,⟨o,e⟩,st⟩:=x;exact{st _ _ p λo q=>k _ _ (.inl rfl) q,{o,k _ _ (.inl rfl) e},st}
theorem ó.lt(x:ó P w H h)(e:H a=YV o):a<h.objs.size:=(x a o e).lt
theorem ó.fresh(x:ó P w H h)(e:h.objs.size<=a):H a=YW:=by
 cases q:H a with
 |none=>rfl
 |some u=>exact absurd (Pd (x.lt q) e) (PU _)
theorem ó.kept(x:ó P w H h)(k:∀b u,h.get? b=YV u->h'.get? b=YV u):ó P w H h':=λa o e=>
 (x a o e).o4 (λb u _ q=>k b u q) (λ_ q=>q) λ_ _ q=>q
theorem ó.laid(x:ó P w H h)(k:∀b u,h.get? b=YV u->h'.get? b=YV u)(hp:h.objs.size<=a)(new:bO P w (upd H a o) h' a o):ó P w (upd H a o) h':=λb u e=>by
 have hn:=x.fresh hp;by_cases hb:b=a
 ·subst hb;rw[ao]at e;cases e;exact new
 rw[ay hb]at e;exact(x b u e).o4 (λc v _ q=>k c v q) (λc q=>by rw[ay (bZ q hn)];exact q) λc xs q=>by rw[ay (bZ q hn)];exact q
end
def Rd(H:Hp)(a:RB)(u:HO):Prop:=H a=YV u\/∃o,H a=YV (.ß o u)
theorem Rd.of(h:H a=YV u):Rd H a u:=.inl h
theorem Rd.ok(r:Rd H a u)(x:ó P w H h):bO P w H h a u:=by
 rcases r with r|⟨o,r⟩
 ·exact x a u r
 obtain⟨_,q⟩:=x a _ r;exact q
def Mut:Option HO->Prop
 |some (.lst _)=>True
 |some (.dK _)=>True
 |some (.dT _)=>True
 |some (.set _ _)=>True
 |some (.ins _ _ _)=>True
 |some (.ext _)=>True
 |_=>False
section
variable{P:Program}{w:RS}{H:Hp}{h h':R8}{x e:RB}{o':HO}
theorem ó.write(ok:ó P w H h)(mu:Mut (H x))(he:e=x\/H e=YV (.own x))(k:∀b u,b≠e->h.get? b=YV u->h'.get? b=YV u)(heo:∃u,h'.get? e=YV u)
  (new:bO P w (upd H x o') h' x o'):ó P w (upd H x o') h':=λb u q=>by
 have nown:∀c y,H c=YV (.own y)->c≠x:=λc y r z=>by subst z;rw[r]at mu;exact mu
 have ntup:∀c xs,H c=YV (.tup xs)->c≠x:=λc xs r z=>by subst z;rw[r]at mu;exact mu
 by_cases hb:b=x
 ·subst hb;rw[ao]at q;cases q;exact new
 rw[ay hb]at q
 by_cases ñ:b=e
 ·have q':H b=YV (.own x):=by
   rcases he with z|z
   ·exact absurd (ñ.trans z) hb
   rw[ñ];exact z
  rw[q]at q';cases q';obtain⟨v,hv⟩:=heo;exact{v,by rw[ñ];exact hv}
 refine(ok b u q).o4 (λc v hc r=>k c v ?_ r) (λc r=>by rw[ay (nown c b r)];exact r) λc xs r=>by rw[ay (ntup c xs r)];exact r
 rcases hc with rfl|hc
 ·exact ñ
 rintro rfl
 rcases he with z|z
 ·exact nown c b hc z
 rw[hc]at z;cases z;exact hb rfl
end
structure Un(fs ex:List RB)(H H':Hp)(h h':R8):Prop where
 keep:∀b o,h.get? b=YV o->H b=YW->b∉fs->b∉ex->h'.get? b=YV o
 slot:∀b o,h.get? b=YV o->H b=YW->b∈fs->b∉ex->∃sl,h'.get? b=YV { o with slots:=sl }
 free:∀b o,h.get? b=YV o->H b=YW->b∉ex->H' b=YW
 there:∀b o,h.get? b=YV o->b∉ex->∃o',h'.get? b=YV o'
 tw:∀b xs,H b=YV (.tup xs)->H' b=YV (.tup xs)
 qu:∀b o u,H b=YV (.ß o u)->H' b=YV (.ß o u)
 uB:∀b ps,H b=YV (.ϸ ps)->∃more,H' b=YV (.ϸ (ps++more))
section
variable{fs fs' ex ex':List RB}{H H1 H2:Hp}{h h1 h2 h':R8}{a x e:RB}{o:HO}
theorem Un.any(u:Un fs ex H H1 h h1)(q:h.get? b=YV ob)(n:H b=YW)(hx:b∉ex):∃sl,h1.get? b=YV { ob with slots:=sl }:=by
 by_cases hb:b∈fs
 ·exact u.slot b ob q n hb hx
 exact⟨ob.slots,u.keep b ob q n hb hx⟩
theorem Un.kept(k:∀b u,h.get? b=YV u->h'.get? b=YV u):Un fs ex H H h h':=
 {λb ob q _ _ _=>k b ob q,λb ob q _ _ _=>⟨ob.slots,k b ob q⟩,λ_ _ _ n _=>n,λb ob q _=>⟨ob,k b ob q⟩,λ_ _ q=>q,λ_ _ _ q=>q,λ_ ps q=>{#[],by rw[q];simp}}
theorem Un.refl:Un fs ex H H h h:=Un.kept λ_ _ q=>q
theorem Un.laid(k:∀b u,h.get? b=YV u->h'.get? b=YV u)(hp:h.objs.size<=a)(hn:H a=YW):Un fs ex H (upd H a o) h h' where
 keep:=λb u q _ _ _=>k b u q
 slot:=λb u q _ _ _=>⟨u.slots,k b u q⟩
 free:=λb u q n _=>by rw[ay (Ph (Pd (RH q) hp))];exact n
 there:=λb u q _=>⟨u,k b u q⟩
 tw:=λb xs q=>by rw[ay (bZ q hn)];exact q
 qu:=λb u xs q=>by rw[ay (bZ q hn)];exact q
 uB:=λb ps q=>{#[],by rw[ay (bZ q hn),q];simp}
theorem Un.write(mu:Mut (H x))(he:e=x\/H e=YV (.own x))(k:∀b u,b≠e->h.get? b=YV u->h'.get? b=YV u)(heo:∃u,h'.get? e=YV u):Un fs ex H (upd H x o) h h':=by
 have hx:∀b,H b=YW->b≠x:=λb n z=>by subst z;rw[n]at mu;exact mu
 have hb:∀b,H b=YW->b≠e:=λb n z=>by
  subst z;rcases he with r|r
  ·exact hx b n r
  rw[n]at r;cases r
 have hm:∀b u,H b=YV u->¬ Mut (YV u)->b≠x:=λb u q nm z=>by subst z;rw[q]at mu;exact nm mu
 refine⟨λb u q n _ _=>k b u (hb b n) q,λb u q n _ _=>{u.slots,k b u (hb b n) q},λb u q n _=>by rw[ay (hx b n)];exact n,λb u q _=>?_,
  λb xs q=>by rw[ay (hm b _ q λz=>z)];exact q,λb u xs q=>by rw[ay (hm b _ q λz=>z)];exact q,λb ps q=>{#[],by rw[ay (hm b _ q λz=>z),q];simp}⟩
 by_cases ñ:b=e
 ·subst ñ;exact heo
 exact⟨u,k b u ñ q⟩
end
def trk(h:R8)(H:Hp):List RB:=(RX h.objs.size).filter λa=>(H a).isSome
def vY(h:R8)(H:Hp):R8:=W.hideAll h (trk h H)
theorem CF(h:R8)(H:Hp):(vY h H).objs.size=h.objs.size:=W.hideAll_size _ _
theorem Eh(e:h.get? b=YV o)(n:H b=YW):(vY h H).get? b=YV o:=
 W.hideAll_get _ e λhm=>by
  have q:(H b).isSome=true:=(Pu.mp hm).2;rw[n]at q;simp at q
theorem Iy(e:(vY h H).get? b=YV o):h.get? b=YV o/\H b=YW:=by
 have e':h.get? b=YV o:=W.of_hideAll (trk h H) e;refine{e',?_};cases q:H b with
 |none=>rfl
 |some x=>
  have hm:b∈trk h H:=Pu.mpr {Qv.mpr (RH e'),by simp[q]};have z:(vY h H).get? b=YW:=W.hideAll_none (trk h H) hm;rw[z]at e;cases e
structure Mod(K:RG)(mg:Str->Option RC)(base:R8):Prop where
 Ζ:K.In base
 glob:base.Ns RU mg
 blt:∃mb,base.Ns VC mb/\∀x:Str,x≠"__name__"->mb x=Tb x
 nolimit:base.NoLimit
structure Cx where
 prog:Program
 w:RS
 K:RG
 mg:Str->Option RC
 base:R8
 A:Sd
 N:List Str
 s₀:RF
 H₀:Hp
 env:Env
 outer:List Env
 stack:List Env
 ex:List RB
 fn:Str->Bool
 calm:Bool
 pn:List (RB×Obj)
 xe:RC->RF->Prop
def å(l:List Env):List RB:=l.filterMap (·.frame)
abbrev Cx.fs(X:Cx):List RB:=å X.outer
def Vis(sc:UT)(x:Str):Prop:=sc.names.lookup x=YV .local\/sc.names.lookup x=YV .cell\/sc.names.lookup x=YV .free
def Loc(sc:UT)(x:Str):Prop:=sc.names.lookup x=YV .local\/sc.names.lookup x=YV .cell
def Zj(env:Env)(h:R8)(m:Str->Option RC)(x:Str)(u:RC):Prop:=
 (env.kindOf x=YV .local/\m x=YV u)\/((env.kindOf x=YV .cell\/env.kindOf x=YV .free)/\∃c,env.cells.lookup x=YV c/\h.IsCell c (YV u))
structure Cx.Ok(X:Cx):Prop where
 mod:Mod X.K X.mg X.base
 kind:X.env.scope.kind=.function
 glob:X.env.globals=RU
 blt:X.env.builtins=VC
 above:X.s₀.heap.objs.size<=X.env.locals
 inj:∀x y c,X.env.cells.lookup x=YV c->X.env.cells.lookup y=YV c->x=y
 has:∀x,(X.env.kindOf x=YV .cell\/X.env.kindOf x=YV .free)->∃c,X.env.cells.lookup x=YV c
 Ο:∀x c,X.fn x=true->X.env.cells.lookup x=YV c->X.s₀.heap.objs.size<=c
 hd:X.calm=true->X.A.handled=YW
 frames:X.A.frames=YV X.stack
 stk:X.stack=X.outer\/(X.stack=X.env::X.outer/\X.env.frame=YV X.env.locals)
 exf:∀b∈X.ex,b≠X.env.locals/\∀x c,X.env.cells.lookup x=YV c->c≠b
 bs:∀b o,X.base.get? b=YV o->X.s₀.heap.get? b=YV o/\X.H₀ b=YW
 ŝ:X.base.objs.size<=X.s₀.heap.objs.size
 yp:∀b o,X.base.get? b=YV o->b∉X.ex
 yt:∀b∈X.ex,b∉X.fs
 o3:X.s₀.heap.FunFrames X.base X.outer
 ϖ:∀b∈X.fs,X.H₀ b=YW
structure Inv(X:Cx)(pins:List (RB×Obj))(B:List (Option V))(H:Hp)(s:RF):Prop where
 ok:X.Ok
 os:s.os=X.s₀.os
 bare:UN s.gens
 base:Un X.fs X.ex X.H₀ H X.s₀.heap s.heap
 loc:∃m,s.heap.Ns X.env.locals m/\∀(i:Nat)(x:Str)(v:V),X.N[i]?=YV x->B[i]?=YV (YV v)->Vis X.env.scope x->∃u,Y0 v u/\Zj X.env s.heap m x u
 cell:∀x c,X.env.cells.lookup x=YV c->∃v,s.heap.IsCell c v
 free:H X.env.locals=YW
 fu:∀x c,X.env.cells.lookup x=YV c->H c=YW
 pin:∀p∈X.pn++pins,s.heap.get? p.1=YV p.2/\H p.1=YW/\p.1≠X.env.locals/\p.1∉X.fs/\∀v,p.2.data≠ .cell v
 Å:ó X.prog X.w H s.heap
 len:B.length=X.N.length
section
variable{X:Cx}{pins:List (RB×Obj)}{B:List (Option V)}{H H':Hp}{s:RF}{h':R8}
theorem Cx.Ok.Ov(ok:X.Ok)(e:X.base.get? b=YV o):b∉X.fs:=λhb=>by
 have:=(ok.o3.mem hb).1;rw[e]at this;cases this
theorem Inv.bs(I:Inv X pins B H s):∀b o,X.base.get? b=YV o->s.heap.get? b=YV o/\H b=YW:=λb o e=>
 {I.base.keep b o (I.ok.bs b o e).1 (I.ok.bs b o e).2 (I.ok.Ov e) (I.ok.yp b o e),I.base.free b o (I.ok.bs b o e).1 (I.ok.bs b o e).2 (I.ok.yp b o e)}
theorem Inv.bk(I:Inv X pins B H s):∀b o,X.base.get? b=YV o->s.heap.get? b=YV o:=λb o e=>(I.bs b o e).1
theorem Inv.mod(I:Inv X pins B H s):Mod X.K X.mg X.base:=I.ok.mod
theorem Inv.Þ(I:Inv X pins B H s):X.K.In s.heap:=I.ok.mod.Ζ.keeps I.bk
theorem Inv.lt(I:Inv X pins B H s):X.env.locals<s.heap.objs.size:=let ⟨_,hn,_⟩:=I.loc;hn.lt
theorem Inv.sz(I:Inv X pins B H s):X.s₀.heap.objs.size<=s.heap.objs.size:=O6 I.ok.above (QT I.lt)
theorem Inv.Nl(I:Inv X pins B H s)(h:s.heap.objs.size<=a):a∉X.fs:=λhb=>by
 obtain⟨_,o,ho,_⟩:=I.ok.o3.mem hb;exact absurd (Pd (RH ho) (O6 I.sz h)) (PU _)
theorem Inv.ź(I:Inv X pins B H s):∀x c,X.env.cells.lookup x=YV c->c≠X.env.locals:=λx c e z=>by
 obtain⟨v,o,ho,hd⟩:=I.cell x c e;obtain⟨m,⟨o',es,ep,ů,Ϩ,_⟩,_⟩:=I.loc;rw[z,ů]at ho;cases ho;rw[Ϩ]at hd;cases hd
theorem Inv.o3(I:Inv X pins B H s):s.heap.FunFrames X.base X.outer:=by
 have all:∀(l:List Env),(∀b∈å l,b∈X.fs)->X.s₀.heap.FunFrames X.base l->s.heap.FunFrames X.base l:=by
  intro l;induction l with
  |nil=>intro _ _;trivial
  |cons env r ih=>
   intro hs hl;obtain⟨hk,⟨L,o,hf,hn,ho,hd⟩,hr⟩:=hl;have hL:L∈X.fs:=hs L (by unfold å;rw[PQ,hf];exact OX);obtain⟨sl,e⟩:=I.base.slot L o ho (I.ok.ϖ L hL) hL λz=>I.ok.yt L z hL;exact{hk,{L,_,hf,hn,e,hd},ih (λb hb=>hs b (by unfold å;rw[PQ,hf];exact O2 _ hb)) hr}
 exact all X.outer (λ_ hb=>hb) I.ok.o3
theorem Inv.stack(I:Inv X pins B H s):s.heap.FunFrames X.base X.stack:=by
 rcases I.ok.stk with e|⟨e,hf⟩
 ·rw[e];exact I.o3
 rw[e];obtain⟨m,hn,_⟩:=I.loc;refine .cons (by rw[I.ok.kind];decide) hf hn ?_ I.o3;exact UB (O6 I.ok.ŝ I.ok.above)
theorem Inv.AL(I:Inv X pins B H s):∀b∈å X.stack,b∈X.env.locals::X.fs:=λb hb=>by
 rcases I.ok.stk with e|⟨e,hf⟩
 ·rw[e]at hb;exact O2 _ hb
 rw[e]at hb;unfold å at hb;rw[PQ,hf]at hb;exact hb
theorem Inv.wX(I:Inv X pins B H s):∀b∈å X.stack,H b=YW:=λb hb=>by
 rcases O4.mp (I.AL b hb)with e|hb
 ·rw[e];exact I.free
 obtain⟨_,o,ho,_⟩:=I.ok.o3.mem hb;exact I.base.free b o ho (I.ok.ϖ b hb) λz=>I.ok.yt b z hb
theorem Inv.step{g':Array UA}{t':Nat}{d':Drawn}{ch:List RB}(I:Inv X pins B H s)
  (ϒ:∀b∈ch,(b∈X.ex\/X.s₀.heap.objs.size<=b)/\b≠X.env.locals/\(∀x c,X.env.cells.lookup x=YV c->c≠b)/\∀p∈X.pn++pins,p.1≠b)
  (keep:∀b o,b≠X.env.locals->b∉X.fs->b∉ch->s.heap.get? b=YV o->H b=YW->h'.get? b=YV o)
  (slot:∀b o,b≠X.env.locals->b∈X.fs->b∉ch->s.heap.get? b=YV o->H b=YW->∃sl,h'.get? b=YV { o with slots:=sl }) (free:∀b o,b∉ch->s.heap.get? b=YV o->H b=YW->H' b=YW)
  (there:∀b o,b∉ch->s.heap.get? b=YV o->∃o',h'.get? b=YV o')
  (tw:∀b xs,H b=YV (.tup xs)->H' b=YV (.tup xs)) (qu:∀b o u,H b=YV (.ß o u)->H' b=YV (.ß o u)) (uB:∀b ps,H b=YV (.ϸ ps)->∃more,H' b=YV (.ϸ (ps++more)))
  (ns:∀m,s.heap.Ns X.env.locals m->h'.Ns X.env.locals m) (Å:ó X.prog X.w H' h') (hg:UN g') :
  Inv X pins B H' { s with heap:=h',gens:=g',drawn:=d',toks:=t' }:=by
 have neL:∀b o,X.s₀.heap.get? b=YV o->b≠X.env.locals:=λb o e=>Ph (Pd (RH e) I.ok.above)
 have neC:∀b o,X.s₀.heap.get? b=YV o->b∉X.ex->b∉ch:=λb o e hx hb=>by
  rcases(ϒ b hb).1 with z|z
  ·exact hx z
  exact absurd (Pd (RH e) z) (PU _)
 have cellK:∀x c,X.env.cells.lookup x=YV c->∀v,s.heap.IsCell c v->h'.IsCell c v:=λx c e v ⟨o,ho,hd⟩=>by
  have nch:c∉ch:=λz=>(ϒ c z).2.2.1 x c e rfl;by_cases hc:c∈X.fs
  ·obtain⟨sl,q⟩:=slot c o (I.ź x c e) hc nch ho (I.fu x c e);exact{_,q,hd}
  exact{o,keep c o (I.ź x c e) hc nch ho (I.fu x c e),hd}
 refine{I.ok,I.os,hg,{λb o e n hb hx=>?_,λb o e n hb hx=>?_,λb o e n hx=>?_,λb o e hx=>?_,λb xs e=>tw b xs (I.base.tw b xs e),λb o xs e=>qu b o xs (I.base.qu b o xs e),λb ps e=>?_},?_,λx c e=>?_,?_,λx c e=>?_,λp hp=>?_,Å,I.len}
 ·exact keep b o (neL b o e) hb (neC b o e hx) (I.base.keep b o e n hb hx) (I.base.free b o e n hx)
 ·obtain⟨sl,e1⟩:=I.base.slot b o e n hb hx;obtain⟨sl',e2⟩:=slot b _ (neL b o e) hb (neC b o e hx) e1 (I.base.free b o e n hx);exact⟨sl',e2⟩
 ·obtain⟨o',e1⟩:=I.base.there b o e hx;exact free b o' (neC b o e hx) e1 (I.base.free b o e n hx)
 ·obtain⟨o',e1⟩:=I.base.there b o e hx;exact there b o' (neC b o e hx) e1
 ·obtain⟨m1,e1⟩:=I.base.uB b ps e;obtain⟨m2,e2⟩:=uB b _ e1;exact{m1++m2,by rw[e2,Array.append_assoc]}
 ·obtain⟨m,hn,hl⟩:=I.loc;refine{m,ns m hn,λi x v e1 e2 e3=>?_};obtain⟨u,r,l⟩:=hl i x v e1 e2 e3;refine{u,r,?_};rcases l with l|⟨k,c,e,z⟩
  ·exact .inl l
  exact .inr {k,c,e,cellK x c e _ z}
 ·obtain⟨v,z⟩:=I.cell x c e;exact⟨v,cellK x c e v z⟩
 ·obtain⟨m,⟨o,_,_,ho,_⟩,_⟩:=I.loc;exact free _ o (λz=>(ϒ _ z).2.1 rfl) ho I.free
 ·obtain⟨v,o,ho,hd⟩:=I.cell x c e;exact free c o (λz=>(ϒ c z).2.2.1 x c e rfl) ho (I.fu x c e)
 obtain⟨e,n,ne,nf,d⟩:=I.pin p hp
 have nch:p.1∉ch:=λz=>(ϒ p.1 z).2.2.2 p hp rfl
 exact⟨keep p.1 p.2 ne nf nch e n,free p.1 p.2 nch e n,ne,nf,d⟩
theorem Inv.un(I:Inv X pins B H s)(u:Un X.fs [] H H' s.heap h')(Å:ó X.prog X.w H' h'):Inv X pins B H' { s with heap:=h',toks:=t' }:=by
 obtain⟨m,⟨o,es,ep,ho,r⟩,_⟩:=id I.loc;obtain⟨sl,hL⟩:=u.any ho I.free (by simp);exact I.step (g':=s.gens) (d':=s.drawn) (ch:=[]) (λ_ z=>nomatch z) (λb o _ hb _ e n=>u.keep b o e n hb (by simp)) (λb o _ hb _ e n=>u.slot b o e n hb (by simp)) (λb o _ e n=>u.free b o e n (by simp)) (λb o _ e=>u.there b o e (by simp)) u.tw u.qu u.uB (λm' hm=>by
  obtain⟨o',es',ŵ,ů,r'⟩:=hm;rw[ho]at ů;cases ů;exact{_,es',ŵ,hL,r'}) Å I.bare
theorem Inv.call(I:Inv X pins B H s)(u:Un (å X.stack) ch H H' s.heap h')(Å:ó X.prog X.w H' h')(hg:UN g')
  (ϒ:∀b∈ch,(b∈X.ex\/X.s₀.heap.objs.size<=b)/\b≠X.env.locals/\(∀x c,X.env.cells.lookup x=YV c->c≠b)/\∀p∈X.pn++pins,p.1≠b) :
  Inv X pins B H' { s with heap:=h',gens:=g',drawn:=d',toks:=t' }:=by
 obtain⟨m,⟨o,es,ep,ho,r⟩,_⟩:=id I.loc
 obtain⟨sl,hL⟩:=u.any ho I.free λz=>(ϒ _ z).2.1 rfl
 exact I.step (ch:=ch) ϒ (λb o hL hb hc e n=>u.keep b o e n (λz=>(O4.mp (I.AL b z)).elim hL hb) hc) (λb o _ _ hc e n=>u.any e n hc) (λb o hc e n=>u.free b o e n hc) (λb o hc e=>u.there b o e hc) u.tw u.qu u.uB (λm' hm=>by
  obtain⟨o',es',ŵ,ů,r'⟩:=hm;rw[ho]at ů;cases ů;exact{_,es',ŵ,hL,r'}) Å hg
theorem Inv.turned(I:Inv X pins B H s)(k:∀b o,b≠it->s.heap.get? b=YV o->h'.get? b=YV o)(hn:H it=YW)(hL:it≠X.env.locals)
  (h1:it∈X.ex\/X.s₀.heap.objs.size<=it) (h2:∀x c,X.env.cells.lookup x=YV c->c≠it) (h3:∀p∈X.pn++pins,p.1≠it):Inv X pins B H { s with heap:=h',toks:=t' }:=by
 have nit:∀b u,H b=YV u->b≠it:=λb u e z=>by rw[z,hn]at e;cases e
 refine I.step (g':=s.gens) (d':=s.drawn) (ch:=[it]) (λb hb=>?_) (λb o _ _ hc e _=>k b o (λz=>hc (by simp[z])) e) (λb o _ _ hc e _=>{o.slots,k b o (λz=>hc (by simp[z])) e}) (λ_ _ _ _ n=>n)
  (λb o hc e=>{o,k b o (λz=>hc (by simp[z])) e}) (λ_ _ e=>e) (λ_ _ _ e=>e) (λb ps e=>{#[],by rw[e];simp}) (λm hm=>?_) (λb u e=>?_) I.bare
 ·have e:b=it:=by simpa using hb
  subst e;exact⟨h1,hL,h2,h3⟩
 ·obtain⟨o,es,ep,ho,r⟩:=hm;exact{o,es,ep,k _ o (Pm hL) ho,r}
 refine(I.Å b u e).o4 (λc v hc q=>k c v ?_ q) (λ_ q=>q) λ_ _ q=>q
 rcases hc with z|z
 ·rw[z];exact nit b u e
 exact nit c _ z
theorem Inv.tok(I:Inv X pins B H s)(t:Nat):Inv X pins B H { s with toks:=t }:=I.un (h':=s.heap) (t':=t) Un.refl I.Å
theorem Inv.kept(I:Inv X pins B H s)(k:∀b u,s.heap.get? b=YV u->h'.get? b=YV u):Inv X pins B H { s with heap:=h',toks:=t' }:=I.un (Un.kept k) (I.Å.kept k)
theorem Inv.laid(I:Inv X pins B H s)(k:∀b u,s.heap.get? b=YV u->h'.get? b=YV u)(hp:s.heap.objs.size<=a)(new:bO X.prog X.w (upd H a o) h' a o) :
  Inv X pins B (upd H a o) { s with heap:=h',toks:=t' }:=I.un (Un.laid k hp (I.Å.fresh hp)) (I.Å.laid k hp new)
theorem Inv.write(I:Inv X pins B H s)(mu:Mut (H x))(he:e=x\/H e=YV (.own x))(k:∀b u,b≠e->s.heap.get? b=YV u->h'.get? b=YV u)(heo:∃u,h'.get? e=YV u)
  (new:bO X.prog X.w (upd H x o) h' x o):Inv X pins B (upd H x o) { s with heap:=h',toks:=t' }:=I.un (Un.write mu he k heo) (I.Å.write mu he k heo new)
theorem Inv.wd(I:Inv X pins B H s)(h:∀p∈pins',s.heap.get? p.1=YV p.2/\H p.1=YW/\p.1≠X.env.locals/\p.1∉X.fs/\∀v,p.2.data≠ .cell v):Inv X pins' B H s:=
 {I.ok,I.os,I.bare,I.base,I.loc,I.cell,I.free,I.fu,λp hp=>(Pa.mp hp).elim (λz=>I.pin p (Px _ z)) (h p),I.Å,I.len}
theorem tU{N:List Str}(hN:N.Nodup){i j:Nat}{x:Str}(a:N[i]?=YV x)(b:N[j]?=YV x):i=j:=by
 obtain⟨h1,e1⟩:=O8.mp a;obtain⟨h2,e2⟩:=O8.mp b;exact(Rh hN).mp (e1.trans e2.symm)
theorem Dr(I:Inv X pins B H s)(hN:X.N.Nodup)(hi:X.N[i]?=YV x)(hx:Loc X.env.scope x)(r:Y0 v u)
  (h:∀s',Inv X pins (B.set i (YV v)) H s'->(∃a,S2 a s.heap s'.heap/\(a=X.env.locals\/X.env.cells.lookup x=YV a))->Q Unit.unit s') (hf:X.fn x=true\/X.env.scope.names.lookup x=YV .local:=by first|exact .inl rfl|exact .inr rfl|assumption):wpAny M A (YH X.env x u) Q E s:=by
 obtain⟨m,hn,hl⟩:=id I.loc
 have hcls:(X.env.scope.kind== .class||(X.env.scope.kind== .module&&X.env.locals !=X.env.globals))=false:=by rw[I.ok.kind];rfl
 have hiσ:i<B.length:=by rw[I.len];exact(O8.mp hi).1
 have ź:=I.ź
 have tracked:∀{a:RB}{h':R8},(∃o,s.heap.get? a=YV o/\H a=YW)->S2 a s.heap h'->ó X.prog X.w H h':=λ{a h'} ha hs b ob e=>by
  obtain⟨_,_,ĩ⟩:=ha;refine(I.Å b ob e).o4 (λc w' hc q=>(hs.2 c ?_).trans q) (λ_ q=>q) λ_ _ q=>q;rintro rfl;rcases hc with rfl|hc
  ·rw[ĩ]at e;cases e
  rw[ĩ]at hc;cases hc
 rcases hx with hk|hk
 ·refine VQ hk hn (λh' ϥ hs=>?_) hcls;obtain⟨oL,_,_,hoL,_⟩:=id hn;refine h _ {I.ok,I.os,I.bare,{λb o e n hb hx=>?_,λb o e n hb hx=>?_,I.base.free,λb o e hx=>?_,I.base.tw,I.base.qu,I.base.uB},{_,ϥ,λj y v' e1 e2 e3=>?_},λy c e=>?_,I.free,I.fu,λp hp=>?_,tracked ⟨oL,hoL,I.free⟩ hs,by simpa using I.len} {_,hs,.inl rfl}
  ·exact(hs.2 b (Ph (Pd (RH e) I.ok.above))).trans (I.base.keep b o e n hb hx)
  ·obtain⟨sl,e1⟩:=I.base.slot b o e n hb hx;exact{sl,(hs.2 b (Ph (Pd (RH e) I.ok.above))).trans e1}
  ·obtain⟨o',e1⟩:=I.base.there b o e hx;exact{o',(hs.2 b (Ph (Pd (RH e) I.ok.above))).trans e1}
  ·by_cases hj:j=i
   ·subst hj;rw[hi]at e1;cases e1;rw[QF hiσ]at e2;cases e2;exact{u,r,.inl ⟨hk,by simp⟩}
   rw[Q5 (Pm hj)]at e2;obtain⟨u',r',q⟩:=hl j y v' e1 e2 e3;refine{u',r',?_};rcases q with⟨k,e⟩|⟨k,c,e,z⟩
   ·refine .inl {k,?_};have:y≠x:=λe=>hj (tU hN e1 (e▸hi));simp[this,e]
   exact .inr {k,c,e,z.sameBut hs (ź y c e)}
  ·obtain⟨w',z⟩:=I.cell y c e;exact{w',z.sameBut hs (ź y c e)}
  obtain⟨e,n,ne,nf,d⟩:=I.pin p hp;exact{(hs.2 p.1 ne).trans e,n,ne,nf,d}
 have hfn:X.fn x=true:=by
  rcases hf with z|z
  ·exact z
  rw[z]at hk;cases hk
 obtain⟨c,hc⟩:=I.ok.has x (.inl hk)
 obtain⟨w',z⟩:=I.cell x c hc
 refine wpAny_storeName_cell I.ok.kind hk hc z (λh' hc' hs=>?_)
 obtain⟨oc,hoc,hocd⟩:=id z
 refine h { s with heap:=h' } ⟨I.ok,I.os,I.bare,⟨λb o e n hb hx=>?_,λb o e n hb hx=>?_,I.base.free,λb o e hx=>?_,I.base.tw,I.base.qu,I.base.uB⟩,⟨m,hn.sameBut hs (Pm (ź x c hc)),λj y v' e1 e2 e3=>?_⟩,λy c' e=>?_,I.free,I.fu,λp hp=>?_,tracked ⟨oc,hoc,I.fu x c hc⟩ hs,by simpa using I.len⟩ ⟨c,hs,.inr hc⟩
 ·exact(hs.2 b (Ph (Pd (RH e) (I.ok.Ο x c hfn hc)))).trans (I.base.keep b o e n hb hx)
 ·obtain⟨sl,e1⟩:=I.base.slot b o e n hb hx;exact{sl,(hs.2 b (Ph (Pd (RH e) (I.ok.Ο x c hfn hc)))).trans e1}
 ·obtain⟨o',e1⟩:=I.base.there b o e hx;exact{o',(hs.2 b (Ph (Pd (RH e) (I.ok.Ο x c hfn hc)))).trans e1}
 ·by_cases hj:j=i
  ·subst hj;rw[hi]at e1;cases e1;rw[QF hiσ]at e2;cases e2;exact{u,r,.inr ⟨.inl hk,c,hc,hc'⟩}
  rw[Q5 (Pm hj)]at e2;obtain⟨u',r',q⟩:=hl j y v' e1 e2 e3;refine{u',r',?_};rcases q with q|⟨k,c',e,z'⟩
  ·exact .inl q
  refine .inr {k,c',e,z'.sameBut hs ?_};rintro rfl;exact hj (tU hN e1 (I.ok.inj _ _ _ e hc▸hi))
 ·by_cases hcc:c'=c
  ·subst hcc;exact{_,hc'}
  obtain⟨w2,z2⟩:=I.cell y c' e;exact⟨w2,z2.sameBut hs hcc⟩
 obtain⟨e,n,ne,nf,d⟩:=I.pin p hp
 refine{(hs.2 p.1 ?_).trans e,n,ne,nf,d}
 intro q
 rw[q,hoc]at e
 have q':oc=p.2:=RQ e
 exact d w' (by rw[<-q'];exact hocd)
theorem pA(I:Inv X pins B H s)(hN:X.N.Nodup)(hi:X.N[i]?=YV x)(hx:Loc X.env.scope x)(r:Y0 v u)
  (h:∀s',Inv X pins (B.set i (YV v)) H s'->Q Unit.unit s') (hf:X.fn x=true\/X.env.scope.names.lookup x=YV .local:=by first|exact .inl rfl|exact .inr rfl|assumption):wpAny M A (YH X.env x u) Q E s:=
 Dr I hN hi hx r (λs' I' _=>h s' I') hf
theorem Inv.IS(I:Inv X pins B H s)(ho:s'.os=s.os)(u:Un (å X.stack) ch H H' s.heap s'.heap)(Å:ó X.prog X.w H' s'.heap)(hg:UN s'.gens)
  (ϒ:∀b∈ch,(b∈X.ex\/X.s₀.heap.objs.size<=b)/\b≠X.env.locals/\(∀x c,X.env.cells.lookup x=YV c->c≠b)/\∀p∈X.pn++pins,p.1≠b):Inv X pins B H' s':=by
 obtain⟨h',g',d',t',o'⟩:=s'
 have e:o'=s.os:=ho
 subst e
 exact I.call (g':=g') (t':=t') (d':=d') u Å hg ϒ
end
abbrev XK:=RC->Option RB->Hp->Prop
abbrev St:=List (Option V)
abbrev VK:=V->Hp->Prop
abbrev TE:=St->Hp->VK->Prop
abbrev TT:=St->Hp->(Bool->Hp->Prop)->Prop
abbrev TA:=St->Hp->(List V->Hp->Prop)->Prop
structure Zc where
 nx:St->Hp->Prop
 rt:VK
 bk:St->Hp->Prop:=λ_ _=>False
 ct:St->Hp->Prop:=λ_ _=>False
abbrev TS:=Zc->St->Hp->Prop
inductive EP(X:Cx)(pins:List (RB×Obj))(B:St)(Q:VK)(u:RC)(s':RF):Prop
 |mk(v:V)(H':Hp)(h0:Inv X pins B H' s')(h1:Y0 v u)(h2:Q v H'):EP X pins B Q u s'
inductive TP(X:Cx)(pins:List (RB×Obj))(B:St)(Q:Bool->Hp->Prop)(b:Bool)(s':RF):Prop
 |mk(H':Hp)(h0:Inv X pins B H' s')(h1:Q b H'):TP X pins B Q b s'
inductive AP(X:Cx)(pins:List (RB×Obj))(B:St)(Q:List V->Hp->Prop)(us:List RC)(s':RF):Prop
 |mk(vs:List V)(H':Hp)(h0:Inv X pins B H' s')(h1:Y1 vs us)(h2:Q vs H'):AP X pins B Q us s'
inductive NP(X:Cx)(pins:List (RB×Obj))(q:St->Hp->Prop)(s':RF):Prop
 |mk(B':St)(H':Hp)(h0:Inv X pins B' H' s')(h1:q B' H'):NP X pins q s'
inductive RP(X:Cx)(pins:List (RB×Obj))(q:VK)(u:RC)(s':RF):Prop
 |mk(v:V)(B':St)(H':Hp)(h0:Inv X pins B' H' s')(h1:Y0 v u)(h2:q v H'):RP X pins q u s'
def SP(X:Cx)(pins:List (RB×Obj))(D:Zc)(f:Flow)(s':RF):Prop:=
 match f with
 | .next=>NP X pins D.nx s'
 | .brk=>NP X pins D.bk s'
 | .cont=>NP X pins D.ct s'
 | .ret u=>RP X pins D.rt u s'
def PE(X:Cx)(e:Expr)(t:TE):Prop:=
 ∀(pins:List (RB×Obj))(s:RF)(B:St)(H:Hp)(Q:VK),Inv X pins B H s->t B H Q->wpAny (RK X.prog X.w) X.A (Sj e X.env) (EP X pins B Q) X.xe s
def PT(X:Cx)(e:Expr)(t:TT):Prop:=
 ∀(pins:List (RB×Obj))(s:RF)(B:St)(H:Hp)(Q:Bool->Hp->Prop),Inv X pins B H s->t B H Q->wpAny (RK X.prog X.w) X.A (isTrue e X.env (Sj e X.env)) (TP X pins B Q) X.xe s
def PW(X:Cx)(e:Expr)(t:TT):Prop:=
 ∀(whole:Sem RC)(pins:List (RB×Obj))(s:RF)(B:St)(H:Hp)(Q:Bool->Hp->Prop),Inv X pins B H s->t B H Q->wpAny (RK X.prog X.w) X.A (isTrue e X.env whole) (TP X pins B Q) X.xe s
theorem PW.pt(h:PW X e t):PT X e t:=h _
def PA(X:Cx)(es:List Expr)(t:TA):Prop:=
 ∀(pos:Pos)(pins:List (RB×Obj))(s:RF)(B:St)(H:Hp)(Q:List V->Hp->Prop),Inv X pins B H s->t B H Q->wpAny (RK X.prog X.w) X.A (YQ (Sk pos (RJ es X.env))) (AP X pins B Q) X.xe s
def PS(X:Cx)(st:RY)(t:TS):Prop:=
 ∀(pins:List (RB×Obj))(s:RF)(B:St)(H:Hp)(D:Zc),Inv X pins B H s->t D B H->wpAny (RK X.prog X.w) X.A (exec st X.env) (SP X pins D) X.xe s
def ü(X:Cx)(st:List RY)(t:TS):Prop:=
 ∀(pins:List (RB×Obj))(s:RF)(B:St)(H:Hp)(D:Zc),Inv X pins B H s->t D B H->wpAny (RK X.prog X.w) X.A (execs st X.env) (SP X pins D) X.xe s
theorem È(h:wpAny M A t Q E s)(hQ:∀a s,Q a s->Q' a s):wpAny M A t Q' E s:=Sz h hQ λ_ _ x=>x
section
variable{X:Cx}
def NZ(i:Nat):TE:=λB H Q=>∃v,B[i]?=YV (YV v)/\Q v H
def tC(v:V):TE:=λ_ H Q=>Q v H
theorem J4(hN:X.N[i]?=YV x)(hv:Vis X.env.scope x)(hd:(x==("__debug__":Str))=false:=by decide)(Į:(x==("__classdict__":Str))=false:=by decide):PE X (.Name x pos) (NZ i):=by
 intro pins s B H Q I h;obtain⟨v,e,h⟩:=h;obtain⟨m,hn,hl⟩:=I.loc;obtain⟨u,r,l⟩:=hl i x v hN e hv;have fin:EP X pins B Q u s:=⟨v,H,I,r,h⟩;rcases l with⟨hk,hm⟩|⟨hk,c,hc,ö⟩
 ·exact Yi (V1 I.ok.kind hk hn hm fin) hd
 rcases hk with hk|hk
 ·exact Yi (Wl I.ok.kind hk hc ö fin) hd
 exact Yi (wpAny_loadName_free I.ok.kind hk hc ö fin Į) hd
theorem ag{i j pos}:PE X (.Constant (.int i) j pos) (tC (.int i)):=λ_ _ _ H _ I h=>WJ {.int i,H,I.tok _,{_,rfl},h}
theorem og{b j pos}:PE X (.Constant (.bool b) j pos) (tC (.bl b)):=λ_ _ _ H _ I h=>Constant_bool ⟨.bl b,H,I,rfl,h⟩
theorem bU{j pos}:PE X (.Constant .none j pos) (tC .Ä):=λ_ _ _ H _ I h=>Constant_none ⟨.Ä,H,I,rfl,h⟩
theorem aK{x j pos}:PE X (.Constant (.str x) j pos) (tC (.str x)):=λ_ _ _ H _ I h=>Calls.Constant_str {.str x,H,I.tok _,{_,rfl},h}
def Gl(X:Cx)(x:Str):Prop:=X.env.kindOf x=YV .globalImplicit
theorem jo(I:Inv X pins B H s)(hg:Gl X x)(hm:X.mg x=YV u)(h:Q u s)
  (hd:(x==("__debug__":Str))=false:=by decide):wpAny (RK X.prog X.w) X.A (Sj (.Name x pos) X.env) Q E s:=
 UU I.ok.kind hg (Calls.loadGlobal_global (by rw[I.ok.glob];exact I.mod.glob.keeps I.bk) hm h) hd
theorem o5(I:Inv X pins B H s)(hg:Gl X x)(hm:X.mg x=YW)(hv:Tb x=YV u)(h:Q u s)
  (hn:x≠"__name__":=by decide) (hd:(x==("__debug__":Str))=false:=by decide):wpAny (RK X.prog X.w) X.A (Sj (.Name x pos) X.env) Q E s:=by
 obtain⟨mb,h1,h2⟩:=I.mod.blt
 exact UU I.ok.kind hg (Calls.loadGlobal_builtin (by rw[I.ok.glob];exact I.mod.glob.keeps I.bk) hm (by rw[I.ok.blt];exact h1.keeps I.bk) ((h2 x hn).trans hv) h) hd
theorem wc(hg:Gl X x)(hm:X.mg x=YV u)(r:Y0 v u)(hd:(x==("__debug__":Str))=false:=by decide):PE X (.Name x pos) (tC v):=
 λ_ _ _ H _ I h=>jo I hg hm ⟨v,H,I,r,h⟩ hd
theorem kM(hg:Gl X x)(hm:X.mg x=YW)(hv:Tb x=YV u)(r:Y0 v u)(hn:x≠"__name__":=by decide)(hd:(x==("__debug__":Str))=false:=by decide):PE X (.Name x pos) (tC v):=
 λ_ _ _ H _ I h=>o5 I hg hm hv ⟨v,H,I,r,h⟩ hn hd
variable{a b:Expr}{ta tb:TE}{pos:Pos}
variable{tA tB':TT}{rest:List Expr}
def OS(t u:TT):TT:=λB H Q=>t B H λc H1=>if c=true then u B H1 Q else Q false H1
def tOr(t u:TT):TT:=λB H Q=>t B H λc H1=>if c=true then Q true H1 else u B H1 Q
def Oz(t:TT):TT:=λB H Q=>t B H λc H1=>Q (!c) H1
theorem pw_and1(ha:PT X a tA):PW X (.BoolOp .And [a] pos) tA:=by
 intro wh pins s B H Q I h;refine isTrue_and (È (ha pins s B H Q I h) λc s1 e=>?_);cases c with
 |true=>exact isTrue_and_nil e
 |false=>exact e
theorem pw_or1(ha:PT X a tA):PW X (.BoolOp .Or [a] pos) tA:=by
 intro wh pins s B H Q I h;refine isTrue_or (È (ha pins s B H Q I h) λc s1 e=>?_);cases c with
 |false=>exact isTrue_or_nil e
 |true=>exact e
theorem pw_and(ha:PT X a tA)(hb:PW X (.BoolOp .And (b::rest) pos) tB'):PW X (.BoolOp .And (a::b::rest) pos) (OS tA tB'):=by
 intro wh pins s B H Q I h;refine isTrue_and (È (ha pins s B H _ I h) λc s1 z9=>?_);obtain⟨H1,I1,q1⟩:=z9;cases c with
 |true=>exact hb wh pins s1 B H1 Q I1 q1
 |false=>exact⟨H1,I1,q1⟩
theorem pw_or(ha:PT X a tA)(hb:PW X (.BoolOp .Or (b::rest) pos) tB'):PW X (.BoolOp .Or (a::b::rest) pos) (tOr tA tB'):=by
 intro wh pins s B H Q I h;refine isTrue_or (È (ha pins s B H _ I h) λc s1 z9=>?_);obtain⟨H1,I1,q1⟩:=z9;cases c with
 |true=>exact⟨H1,I1,q1⟩
 |false=>exact hb wh pins s1 B H1 Q I1 q1
theorem wq(ha:PT X a tA):PT X (.UnaryOp .Not a pos) (Oz tA):=by
 intro pins s B H Q I h;exact isTrue_not (È (ha pins s B H (λc H1=>Q (!c) H1) I h) λc s1 ⟨H1,I1,q1⟩=>⟨H1,I1,q1⟩)
def Mg(ta tb:TE):TE:=λB H Q=>ta B H λx H1=>∃c,x=.bl c/\if c=true then tb B H1 Q else Q (.bl false) H1
def NU(ta tb:TE):TE:=λB H Q=>ta B H λx H1=>∃c,x=.bl c/\if c=true then Q (.bl true) H1 else tb B H1 Q
theorem wR{op}(h:PE X a t):PE X (.BoolOp op [a] pos) t:=λpins s B H Q I hw=>BoolOp_one (h pins s B H Q I hw)
theorem Af(ha:PE X a ta)(hb:PE X (.BoolOp .And (b::rest) pos) tb):PE X (.BoolOp .And (a::b::rest) pos) (Mg ta tb):=by
 intro pins s B H Q I h;refine BoolOp_and (È (ha pins s B H _ I h) λv s1 z9=>?_);obtain⟨x,H1,I1,r1,q1⟩:=z9;obtain⟨c,rfl,q1⟩:=q1;cases r1;refine Tc ?_;cases c with
 |true=>exact hb pins s1 B H1 Q I1 q1
 |false=>exact⟨.bl false,H1,I1,rfl,q1⟩
theorem B4(ha:PE X a ta)(hb:PE X (.BoolOp .Or (b::rest) pos) tb):PE X (.BoolOp .Or (a::b::rest) pos) (NU ta tb):=by
 intro pins s B H Q I h;refine BoolOp_or (È (ha pins s B H _ I h) λv s1 z9=>?_);obtain⟨x,H1,I1,r1,q1⟩:=z9;obtain⟨c,rfl,q1⟩:=q1;cases r1;refine Tc ?_;cases c with
 |false=>exact hb pins s1 B H1 Q I1 q1
 |true=>exact⟨.bl true,H1,I1,rfl,q1⟩
def tIf(t:TT)(ta tb:TE):TE:=λB H Q=>t B H λc H1=>if c=true then ta B H1 Q else tb B H1 Q
theorem pK(hc:PT X c tA)(ha:PE X a ta)(hb:PE X b tb):PE X (.IfExp c a b pos) (tIf tA ta tb):=by
 intro pins s B H Q I h;refine wpAny_IfExp (È (hc pins s B H _ I h) λd s1 z9=>?_);obtain⟨H1,I1,q1⟩:=z9;cases d with
 |true=>exact ha pins s1 B H1 Q I1 q1
 |false=>exact hb pins s1 B H1 Q I1 q1
end
def À(K:RG)(H:Hp)(a:RB)(xs:List V):Prop:=
 Rd H a (.lst xs)\/
  ∃(o:Obj)(Á:Array RC)(n:Nat),K.lookup a=YV o/\o.cls=.type "list"/\o.dict=YW/\o.data=.seq Á n/\Á.size<=sizeLine/\Y1 xs Á.toList
def Æ(K:RG)(H:Hp)(a:RB)(xs:List V):Prop:=
 Rd H a (.tup xs)\/
  ∃(o:Obj)(Á:Array RC)(n:Nat),K.lookup a=YV o/\o.cls=.type "tuple"/\o.data=.seq Á n/\Á.size<=sizeLine/\Y1 xs Á.toList
def NI:RC->Option V
 | .none=>YV .Ä
 | .bool b=>YV (.bl b)
 | .int i _=>YV (.int i)
 | .str x _=>YV (.str x)
 | .bytes b _=>YV (.ğ b)
 | .float b _=>YV (.ϭ b)
 | .ref a=>YV (.ref a)
 | .type n=>YV (.ty n)
 |_=>YW
theorem Y0.abs(r:Y0 x u):NI u=YV x:=by
 cases x with
 |Ä=>cases r;rfl
 |bl _=>cases r;rfl
 |int _=>obtain⟨t,rfl⟩:=r;rfl
 |str _=>obtain⟨t,rfl⟩:=r;rfl
 |ğ _=>obtain⟨t,rfl⟩:=r;rfl
 |ϭ _=>obtain⟨t,rfl⟩:=r;rfl
 |ref _=>cases r;rfl
 |ty _=>cases r;rfl
theorem Y0.inj(r:Y0 x u)(q:Y0 y u):x=y:=RQ (r.abs.symm.trans q.abs)
theorem Y1.inj:∀{xs ys:List V}{us:List RC},Y1 xs us->Y1 ys us->xs=ys:=by
 intro xs ys us h;induction h generalizing ys with
 |nil=>intro g;cases g;rfl
 |cons r _ ih=>intro g;cases g with
  |cons r' t'=>rw[r.inj r',ih t']
section
variable{X:Cx}{pins:List (RB×Obj)}{B:St}{H:Hp}{s:RF}{a:RB}{xs ys:List V}
theorem À.of{K:RG}(h:H a=YV (.lst xs)):À K H a xs:=.inl (.inl h)
theorem Æ.of{K:RG}(h:H a=YV (.tup xs)):Æ K H a xs:=.inl (.inl h)
theorem Inv.list(I:Inv X pins B H s)(h:À X.K H a xs):∃Á:List RC,Y1 xs Á/\PlainL s.heap a Á.toArray/\xs.length<=sizeLine:=by
 rcases h with h|⟨o,Á,n,hk,hc,hd,hs,hz,r⟩
 ·obtain⟨z,Á,n,r,e⟩:=h.ok I.Å;exact{Á,r,{_,n,e,rfl,rfl,rfl},z}
 refine{Á.toList,r,⟨o,n,I.Þ a o hk,hc,hd,by simpa using hs⟩,?_};have e:=r.length;simp only[Qf]at e;lia
theorem Inv.tuple(I:Inv X pins B H s)(h:Æ X.K H a xs):∃Á:List RC,Y1 xs Á/\IsTup s.heap a Á.toArray/\xs.length<=sizeLine:=by
 rcases h with h|⟨o,Á,n,hk,hc,hs,hz,r⟩
 ·obtain⟨z,Á,r,p⟩:=h.ok I.Å;exact⟨Á,r,p,z⟩
 refine{Á.toList,r,⟨o,I.Þ a o hk,hc,n,by simpa using hs⟩,?_};have e:=r.length;simp only[Qf]at e;lia
theorem Inv.sU(I:Inv X pins B H s)(h:À X.K H a xs)(h':À X.K H a ys):xs=ys:=by
 obtain⟨Á,r,⟨o,n,e,_,_,d⟩,_⟩:=I.list h;obtain⟨its',r',⟨o',n',e',_,_,d'⟩,_⟩:=I.list h';rw[e]at e';cases e';rw[d]at d';injection d' with d1 _;have:Á=its':=by simpa using congrArg Array.toList d1
 subst this;exact r.inj r'
theorem Inv.C9(I:Inv X pins B H s)(h:Æ X.K H a xs)(h':Æ X.K H a ys):xs=ys:=by
 obtain⟨Á,r,⟨o,e,_,n,d⟩,_⟩:=I.tuple h;obtain⟨its',r',⟨o',e',_,n',d'⟩,_⟩:=I.tuple h';rw[e]at e';cases e';rw[d]at d';injection d' with d1 _;have:Á=its':=by simpa using congrArg Array.toList d1
 subst this;exact r.inj r'
end
abbrev Cx.uK(X:Cx)(E:RC->RF->Prop):Cx:={ X with xe:=E }
abbrev Cx.ό(X:Cx):Cx:=X.uK λ_ _=>False
theorem Cx.Ok.uK{X:Cx}(ok:X.Ok)(E:RC->RF->Prop):(X.uK E).Ok:=
 ⟨ok.mod,ok.kind,ok.glob,ok.blt,ok.above,ok.inj,ok.has,ok.Ο,ok.hd,ok.frames,ok.stk,ok.exf,ok.bs,ok.ŝ,ok.yp,ok.yt,ok.o3,ok.ϖ⟩
theorem Cx.Ok.mY{X:Cx}{E:RC->RF->Prop}(ok:(X.uK E).Ok):X.Ok:=
 ⟨ok.mod,ok.kind,ok.glob,ok.blt,ok.above,ok.inj,ok.has,ok.Ο,ok.hd,ok.frames,ok.stk,ok.exf,ok.bs,ok.ŝ,ok.yp,ok.yt,ok.o3,ok.ϖ⟩
section
variable{X:Cx}{pins:List (RB×Obj)}{B:St}{H:Hp}{s:RF}{E:RC->RF->Prop}
theorem Inv.uK(I:Inv X pins B H s)(E:RC->RF->Prop):Inv (X.uK E) pins B H s:=⟨I.ok.uK E,I.os,I.bare,I.base,I.loc,I.cell,I.free,I.fu,I.pin,I.Å,I.len⟩
theorem Inv.mY(I:Inv (X.uK E) pins B H s):Inv X pins B H s:=⟨I.ok.mY,I.os,I.bare,I.base,I.loc,I.cell,I.free,I.fu,I.pin,I.Å,I.len⟩
theorem SP.mY(h:SP (X.uK E) pins D f s'):SP X pins D f s':=by
 cases f with
 |next=>obtain⟨B',H',I,q⟩:=h;exact⟨B',H',I.mY,q⟩
 |brk=>obtain⟨B',H',I,q⟩:=h;exact⟨B',H',I.mY,q⟩
 |cont=>obtain⟨B',H',I,q⟩:=h;exact⟨B',H',I.mY,q⟩
 |ret u=>obtain⟨v,B',H',I,r,q⟩:=h;exact⟨v,B',H',I.mY,r,q⟩
theorem ü.ό{st:List RY}{t:TS}(h:ü X.ό st t):ü X st t:=λpins s B H D I hw=>
 Sz (h pins s B H D (I.uK _) hw) (λ_ _ q=>q.mY) λ_ _ z=>Sn z
end
section
variable{X:Cx}{st:RY}{rest:List RY}{t u:TS}{e:Expr}{te:TE}{pos:Pos}
def ML:TS:=λD B H=>D.nx B H
def Mb(t u:TS):TS:=λD B H=>t { D with nx:=u D } B H
theorem aH:ü X [] ML:=λ_ _ B H _ I h=>UH ⟨B,H,I,h⟩
theorem af(h1:PS X st t)(h2:ü X rest u):ü X (st::rest) (Mb t u):=by
 intro pins s B H D I h;refine Xu (È (h1 pins s B H { D with nx:=u D } I h) λf s1 q=>?_);cases f with
 |next=>
  obtain⟨B',H',I',q⟩:=q;exact h2 pins s1 B' H' D I' q
 |ret v=>exact q
 |brk=>exact q
 |cont=>exact q
theorem aj(h1:PS X st t):ü X [st] t:=by
 intro pins s B H D I h;refine Xu (È (h1 pins s B H D I h) λf s1 q=>?_);cases f with
 |next=>exact UH q
 |ret v=>exact q
 |brk=>exact q
 |cont=>exact q
theorem Inv.quiet(I:Inv X pins B H s):interactive X.env=false:=by simp[interactive,I.ok.kind]
def ND(te:TE):TS:=λD B H=>te B H λ_ H1=>D.nx B H1
theorem aT(he:PE X e te)(hs:Vn e YW pos.line X.env=pure false:=by rfl):PS X (.Expr e pos) (ND te):=by
 intro pins s B H D I h;exact wpAny_Expr_any (È (he pins s B H _ I h) λv s1 ⟨x,H1,I1,r1,q1⟩=>⟨B,H1,I1,q1⟩) I.quiet hs
def OR(te:TE):TS:=λD B H=>te B H D.rt
theorem aD(he:PE X e te):PS X (.Return (YV e) pos) (OR te):=by
 intro pins s B H D I h;exact wpAny_Return_some (È (he pins s B H _ I h) λv s1 ⟨x,H1,I1,r1,q1⟩=>⟨x,B,H1,I1,r1,q1⟩)
def Og(c:TT)(t u:TS):TS:=λD B H=>c B H λb H1=>if b=true then t D B H1 else u D B H1
theorem aN(hc:PT X c tc)(ha:ü X a t)(hb:ü X b u):PS X (.If c a b pos) (Og tc t u):=by
 intro pins s B H D I h;refine wpAny_If (È (hc pins s B H _ I h) λd s1 z9=>?_);obtain⟨H1,I1,q1⟩:=z9;cases d with
 |true=>exact ha pins s1 B H1 D I1 q1
 |false=>exact hb pins s1 B H1 D I1 q1
def KN:TS:=λ_ _ _=>False
theorem dC:ü X sts KN:=λ_ _ _ _ _ _ h=>h.elim
end
abbrev TG:=V->St->Hp->(St->Hp->Prop)->Prop
abbrev TGs:=List V->St->Hp->(St->Hp->Prop)->Prop
def PG(X:Cx)(target:Expr)(t:TG):Prop:=
 ∀(pins:List (RB×Obj))(s:RF)(B:St)(H:Hp)(v:V)(u:RC)(Q:St->Hp->Prop),Inv X pins B H s->Y0 v u->t v B H Q->
  wpAny (RK X.prog X.w) X.A (assign target X.env u) (λ_ s'=>NP X pins Q s') X.xe s
def PGs(X:Cx)(ts:List Expr)(t:TGs):Prop:=
 ∀(pins:List (RB×Obj))(s:RF)(B:St)(H:Hp)(vs:List V)(us:List RC)(Q:St->Hp->Prop),Inv X pins B H s->Y1 vs us->t vs B H Q->
  wpAny (RK X.prog X.w) X.A (assignInOrder ((UW ts X.env).map (·.2)) us) (λ_ s'=>NP X pins Q s') X.xe s
abbrev J9:=V->V->V->Hp->(Hp->Prop)->Prop
def DZ(X:Cx)(t:J9):Prop:=
 ∀(pins:List (RB×Obj))(s:RF)(B:St)(H:Hp)(o i v:V)(ov iv u:RC)(Q:Hp->Prop),Inv X pins B H s->Y0 o ov->Y0 i iv->Y0 v u->t o i v H Q->
  wpAny (RK X.prog X.w) X.A (setItem ov iv u) (λ_ s'=>∃H',Inv X pins B H' s'/\Q H') X.xe s
abbrev TIp:=V->V->Hp->VK->Prop
def PIp(X:Cx)(op:Operator)(t:TIp):Prop:=
 ∀(pins:List (RB×Obj))(s:RF)(B:St)(H:Hp)(x y:V)(v u:RC)(Q:VK),Inv X pins B H s->Y0 x v->Y0 y u->t x y H Q->
  wpAny (RK X.prog X.w) X.A (YI op v u) (EP X pins B Q) X.xe s
section
variable{X:Cx}{pos:Pos}
def qT(i:Nat):TG:=λv B H Q=>Q (B.set i (YV v)) H
theorem B8(hN:X.N.Nodup)(hi:X.N[i]?=YV x)(hx:Loc X.env.scope x)(hf:X.fn x=true\/X.env.scope.names.lookup x=YV .local:=by first|exact .inl rfl|exact .inr rfl|assumption):PG X (.Name x pos) (qT i):=by
 intro pins s B H v u Q I r h;exact wpAny_assign_Name (pA I hN hi hx r (λs' I'=>{_,H,I',h}) hf)
def Oc:TGs:=λvs B H Q=>vs=[]/\Q B H
def MG(t:TG)(u:TGs):TGs:=λvs B H Q=>∃v r,vs=v::r/\t v B H λB' H'=>u r B' H' Q
theorem gU:PGs X [] Oc:=by
 intro pins s B H vs us Q I r h;obtain⟨e,h⟩:=h;subst e;cases r;exact assignInOrder_nil ⟨B,H,I,h⟩
theorem bj(h1:PG X e t)(h2:PGs X es u)
  (hs:(UW (e::es) X.env).map (·.2)=assign e X.env::(UW es X.env).map (·.2):=by rfl):PGs X (e::es) (MG t u):=by
 intro pins s B H vs us Q I r h
 obtain⟨v,vr,e1,h⟩:=h
 subst e1
 cases r with
 |cons r rr=>
  rw[hs]
  refine assignInOrder_cons (È (h1 pins s B H _ _ _ I r h) λ_ s1 z9=>?_);obtain⟨σ1,H1,I1,q1⟩:=z9
  exact h2 pins s1 σ1 H1 _ _ Q I1 rr q1
inductive Nx(K:RG)(n:Nat)(v:V)(H:Hp)(R:List V->Prop):Prop
 |mk(a:RB)(xs:List V)(h0:v=.ref a)(h1:Æ K H a xs)(h2:xs.length=n)(q:R xs):Nx K n v H R
def OE(K:RG)(n:Nat)(t:TGs):TG:=λv B H Q=>Nx K n v H (λxs=>t xs B H Q)
theorem kR(hc:X.calm=true)(h:PGs X es t)
  (hn:(UW es X.env).length=n:=by rfl) (ħ:(UW es X.env).findIdx? (·.1)=YW:=by rfl):PG X (.Tuple es k pos) (OE X.K n t):=by
 intro pins s B H v u Q I r hw
 obtain⟨a,xs,e1,hq,hl,hw⟩:=hw
 subst e1
 cases r
 obtain⟨Á,rv,ht,hz⟩:=I.tuple hq
 refine assign_Tuple_tuple (I.ok.hd hc) ht (by simp[hn,<-hl,rv.length]) ħ λh' hx=>?_
 have I1:Inv X pins B H { s with heap:=h' }:=I.kept (t':=s.toks) λb o e=>hx b o (Ph (RH e)) e
 exact h pins _ B H xs _ Q I1 (by simpa using rv) hw
def Oe(to ti:TE)(t:J9):TG:=λv B H Q=>to B H λo H1=>ti B H1 λi H2=>t o i v H2 λH3=>Q B H3
theorem cF(ho:PE X o to)(hi:PE X i ti)(hs:DZ X t)
  (ha:∀v,assign (.Subscript o i pos) X.env v=(do
   let ov<-Ua [v] (Sj o X.env)
   let iv<-Ua [v,ov] (Sj i X.env)
   Wc pos
   Ua [v,ov,iv] (setItem ov iv v)
   release [v,ov,iv] []):=by intro _;rfl):PG X (.Subscript o i pos) (Oe to ti t):=by
 intro pins s B H v u Q I r h
 rw[ha]
 refine RA (wpAny_holding (È (ho pins s B H _ I h) λov s1 z9=>?_));obtain⟨x,H1,I1,r1,q1⟩:=z9
 refine RA (wpAny_holding (È (hi pins s1 B H1 _ I1 q1) λiv s2 z9=>?_));obtain⟨y,H2,I2,r2,q2⟩:=z9
 refine RA (Ux (RA (wpAny_holding (È (hs pins s2 B H2 x y v ov iv u _ I2 r1 r2 r q2) λ_ s3 z9=>?_))));obtain⟨H3,I3,q3⟩:=z9
 exact wpAny_release ⟨B,H3,I3,q3⟩
def HM(te:TE)(g:TG):TS:=λD B H=>te B H λx H1=>g x B H1 D.nx
theorem cE(he:PE X e te)(hg:PG X tg g)(hs:swapsWithSole [tg] e pos.line X.env=pure false:=by rfl)(hw:swappedStores [tg] e X.env=pure YW:=by rfl)
  (h1:(UW [tg] X.env).map (·.2)=[assign tg X.env]:=by rfl):PS X (.Assign [tg] e pos) (HM te g):=by
 intro pins s B H D I h
 refine wpAny_Assign_stores (È (he pins s B H _ I h) λv s1 ⟨x,H1,I1,r1,q1⟩=>?_) hs hw
 rw[h1]
 exact È (hg pins s1 B H1 x v _ I1 r1 q1) λ_ s2 q=>q
theorem AU(hN:X.N.Nodup)(hi:X.N[i]?=YV x)(hx:Loc X.env.scope x)(he:PE X e te)(hs:Vn e (YV (.Name x pos')) pos.line X.env=pure false:=by rfl)(hf:X.fn x=true\/X.env.scope.names.lookup x=YV .local:=by first|exact .inl rfl|exact .inr rfl|assumption) :
  PS X (.Assign [.Name x pos'] e pos) (HM te (qT i)):=by
 intro pins s B H D I h
 refine wpAny_Assign_Name (È (he pins s B H _ I h) λv s1 ⟨y,H1,I1,r1,q1⟩=>?_) hs
 exact pA I1 hN hi hx r1 (λs2 I2=>{_,H1,I2,q1}) hf
def NW(i:Nat)(te:TE)(ti:TIp):TS:=λD B H=>∃x,B[i]?=YV (YV x)/\te B H λy H1=>ti x y H1 λz H2=>D.nx (B.set i (YV z)) H2
theorem zI(hN:X.N.Nodup)(hi:X.N[i]?=YV x)(hx:Loc X.env.scope x)(he:PE X e te)(ho:PIp X op ti)(hf:X.fn x=true\/X.env.scope.names.lookup x=YV .local:=by first|exact .inl rfl|exact .inr rfl|assumption) :
  PS X (.AugAssign (.Name x pos') op e pos) (NW i te ti):=by
 intro pins s B H D I h
 obtain⟨v,e1,h⟩:=h
 obtain⟨m,hn,hl⟩:=I.loc
 have vis:Vis X.env.scope x:=by rcases hx with k|k;exact .inl k;exact .inr (.inl k)
 obtain⟨u,r,l⟩:=hl i x v hi e1 vis
 refine wpAny_AugAssign_Name ?_
 have go:wpAny (RK X.prog X.w) X.A (Sj e X.env) (λw s₂=>wpAny (RK X.prog X.w) X.A (YI op u w) (λr s₃=>wpAny (RK X.prog X.w) X.A (YH X.env x r) (λ_=>SP X pins D .next) X.xe s₃) X.xe s₂) X.xe s:=by
  refine È (he pins s B H _ I h) λw s1 z9=>?_;obtain⟨y,H1,I1,r1,q1⟩:=z9;refine È (ho pins s1 B H1 v y u w _ I1 r r1 q1) λz s2 z9=>?_;obtain⟨zv,H2,I2,r2,q2⟩:=z9;exact pA I2 hN hi hx r2 (λs3 I3=>{_,H2,I3,q2}) hf
 rcases l with⟨hk,hm⟩|⟨hk,c,hc,ö⟩
 ·exact V1 I.ok.kind hk hn hm go
 rcases hk with hk|hk
 ·exact Wl I.ok.kind hk hc ö go
 rcases hx with k|k
 ·have:X.env.scope.names.lookup x=YV .free:=hk;rw[k]at this;cases this
 have:X.env.scope.names.lookup x=YV .free:=hk
 rw[k]at this;cases this
def ipI(f:Int->Int->Int):TIp:=λx y H Q=>∃i j,x=.int i/\y=.int j/\Q (.int (f i j)) H
theorem Am:PIp X .Add (ipI λi j=>i+j):=by
 intro pins s B H x y v u Q I r1 r2 h;obtain⟨i,j,e1,e2,q⟩:=h;subst e1;subst e2;obtain⟨t,rfl⟩:=r1;obtain⟨t',rfl⟩:=r2;exact iadd_int {.int _,H,I.tok _,{_,rfl},q}
def Kc(c:TT)(tb:TS):TS:=λD B H=>∃W:Nat->St->Hp->Prop,(∃m,W m B H)/\∀m B H,W m B H->
 c B H λb H1=>if b=true then ∃N:St->Hp->Prop,(∀B' H',N B' H'->∃m',m'<m/\W m' B' H')/\tb { D with nx:=N,ct:=N,bk:=D.nx } B H1 else D.nx B H1
theorem tV(hp:We (RK X.prog X.w) X.A X.env X.xe)(hc:PT X c tc)(hb:ü X body tb):PS X (.While c body [] pos) (Kc tc tb):=by
 intro pins s B H D I h;obtain⟨W,⟨m0,w0⟩,turn⟩:=h;refine wpAny_While (codeAny_whileLoop (λn s'=>NP X pins (W n) s') ?_ m0 ⟨B,H,I,w0⟩);rintro n s1 ⟨σ1,H1,I1,w1⟩;refine Ta hp (È (hc pins s1 σ1 H1 _ I1 (turn n σ1 H1 w1)) λb s2 z9=>?_);obtain⟨H2,I2,q2⟩:=z9;cases b with
 |true=>
  obtain⟨N,hN,q2⟩:=q2;rw[if_pos rfl];refine Ta hp (È (hb pins s2 σ1 H2 _ I2 q2) λf s3 q3=>?_);cases f with
  |next=>
   obtain⟨σ3,H3,I3,n3⟩:=q3;obtain⟨m',hm,w3⟩:=hN σ3 H3 n3;exact⟨m',hm,σ3,H3,I3,w3⟩
  |cont=>
   obtain⟨σ3,H3,I3,n3⟩:=q3;obtain⟨m',hm,w3⟩:=hN σ3 H3 n3;exact⟨m',hm,σ3,H3,I3,w3⟩
  |brk=>exact q3
  |ret v=>exact q3
 |false=>
  rw[if_neg O3];exact UH ⟨σ1,H2,I2,q2⟩
end
structure It where
 go:Nat->Hp->Prop
 ń:Nat->Hp->V->Hp->Prop
 stop:Nat->Hp->Prop
def sD(X:Cx)(pins:List (RB×Obj))(H:Hp)(b:RB):Prop:=
 H b=YW/\b≠X.env.locals/\b∉X.fs/\(b∈X.ex\/X.s₀.heap.objs.size<=b)/\(∀x c,X.env.cells.lookup x=YV c->c≠b)/\∀p∈X.pn++pins,p.1≠b
theorem Inv.uC(I:Inv X pins B H s)(hb:s.heap.objs.size<=b)(hn:H' b=YW):sD X pins H' b:=by
 refine{hn,P8 (Pd I.lt hb),I.Nl hb,.inr (O6 I.sz hb),λx c e z=>?_,λp hp z=>?_}
 ·obtain⟨v,q⟩:=I.cell x c e;exact absurd (Pd q.lt (by rw[z];exact hb)) (PU _)
 exact absurd (Pd (RH (I.pin p hp).1) (by rw[z];exact hb)) (PU _)
structure Zf(P:Program)(w:RS)(K:RG)(tg:Expr)(J:It)(fp:List RB)(it:RB)(tn:Nat->R8->Prop):Prop where
 mem:it∈fp
 obj:∀i h,tn i h->∀b∈fp,∃o,h.get? b=YV o/\∀v,o.data≠ .cell v
 keep:∀i h h',tn i h->(∀b∈fp,∀o,h.get? b=YV o->h'.get? b=YV o)->tn i h'
 item:∀(X:Cx),X.prog=P->X.w=w->X.K=K->X.calm=true->∀(i:Nat)(pins:List (RB×Obj))(s:RF)(B:St)(H:Hp)(E:RC->RF->Prop),Inv X pins B H s->(∀b∈fp,sD X pins H b)->tn i s.heap->J.go i H->
  wpAny (RK P w) X.A (V2 (.ref it)) (λr s1=>∃u,r=YV u/\
   wpAny (RK P w) X.A (UI tg (.ref it) u) (λ_ s2=>∃x H',Inv X pins B H' s2/\Y0 x u/\J.ń i H x H'/\tn (i+1) s2.heap/\∀b∈fp,H' b=YW) E s1) E s
 done:∀(X:Cx),X.prog=P->X.w=w->X.K=K->X.calm=true->∀(i:Nat)(pins:List (RB×Obj))(s:RF)(B:St)(H:Hp)(E:RC->RF->Prop),Inv X pins B H s->(∀b∈fp,sD X pins H b)->tn i s.heap->J.stop i H->
  wpAny (RK P w) X.A (V2 (.ref it)) (λr s1=>r=YW/\Inv X pins B H s1) E s
 self:∀(A:Sd)(i:Nat)(s:RF)(Q:RC->RF->Prop)(E:RC->RF->Prop),tn i s.heap->Q (.ref it) s->wpAny (RK P w) A (Yj (.ref it)) Q E s
abbrev TI:=St->Hp->(It->Hp->Prop)->Prop
def PIE(X:Cx)(pins:List (RB×Obj))(B:St)(tg:Expr)(R:It->Hp->Prop)(itv:RC)(s2:RF):Prop:=
 ∃(it:RB)(fp:List RB)(tn:Nat->R8->Prop)(J:It)(H':Hp),itv=.ref it/\Inv X pins B H' s2/\Zf X.prog X.w X.K tg J fp it tn/\tn 0 s2.heap/\(∀b∈fp,sD X pins H' b)/\R J H'
def PI(X:Cx)(tg iter:Expr)(wi:TI):Prop:=
 ∀(pins:List (RB×Obj))(s:RF)(B:St)(H:Hp)(R:It->Hp->Prop),Inv X pins B H s->wi B H R->
  wpAny (RK X.prog X.w) X.A (Sj iter X.env) (λv s1=>wpAny (RK X.prog X.w) X.A (Yj v) (PIE X pins B tg R) X.xe s1) X.xe s
theorem yl(ho:s.heap.get? it=YV o)(hc:o.cls=.type n)(hd:o.data=.fields vs)
    (hn:["enumerate","zip","dict_itemiterator","dict_reverseitemiterator","odict_iterator","itertools.zip_longest","itertools.pairwise"].contains n=false) (hQ:Q Unit.unit s):wpAny M A (UI tg (.ref it) u) Q E s:=by
  unfold UI
  cases tg<;>first
    |exact RD hQ
    | (cases u<;>first
        |exact RD hQ
        | (refine RA (WK ho ?_)
           rw[hc,hd]
           show wpAny M A (if(["enumerate","zip","dict_itemiterator","dict_reverseitemiterator","odict_iterator","itertools.zip_longest","itertools.pairwise"].contains n&&vs[0]?==YV (S6 _))=true then _ else _) Q E s
           rw[if_neg (by intro h;rw[hn,Rn]at h;cases h)]
           exact RD hQ))
def Φ(K:RG)(a:RB):It:=
 {λi H=>∃xs x,À K H a xs/\xs[i]?=YV x,λi H x H'=>H'=H/\∀xs,À K H a xs->xs[i]?=YV x,λi H=>∃xs,À K H a xs/\xs.length<=i}
def Itt(K:RG)(a:RB):It:=
 {λi H=>∃xs x,Æ K H a xs/\xs[i]?=YV x,λi H x H'=>H'=H/\∀xs,Æ K H a xs->xs[i]?=YV x,λi H=>∃xs,Æ K H a xs/\xs.length<=i}
def ϳ(lo:Int)(n:Nat):It:={λi _=>i<n,λi H x H'=>H'=H/\x=.int (lo+i),λi _=>n<=i}
theorem CI{P:Program}{w:RS}{K:RG}{tg:Expr}(a it:RB):Zf P w K tg (Φ K a) [it] it (λi h=>h.IsListIter it a i) where
 mem:=by simp
 obj:=λi h st b hb=>by
  have e:b=it:=by simpa using hb
  subst e;obtain⟨o,e,c,d⟩:=st;exact{o,e,λv z=>by rw[d]at z;cases z}
 keep:=λi h h' st k=>st.at λo e=>k it (by simp) o e
 item:=by
  intro X hP hw hK hc i pins s B H E I hf st hg;subst hP hw hK;obtain⟨xs,x,hq,hx⟩:=hg;obtain⟨Á,rv,p,hz⟩:=I.list hq;obtain⟨u,hu,ru⟩:=rv.get hx;obtain⟨f0,f1,f2,f3,f4,f5⟩:=hf it (by simp);refine VD st p.isList (x:=u) (by simpa using hu) λh' ċ sb=>?_;have I1:Inv X pins B H { s with heap:=h' }:=I.turned (t':=s.toks) (λb o hb e=>(sb.2 b hb).trans e) f0 f1 f3 f4 f5;obtain⟨o,e,c,d⟩:=id ċ;exact{u,rfl,yl (s:={ s with heap:=h' }) e c d ∅ ⟨x,H,I1,ru,⟨rfl,λys hy=>by rw[I.sU hy hq];exact hx⟩,ċ,λb hb=>(hf b hb).1⟩}
 done:=by
  intro X hP hw hK hc i pins s B H E I hf st hg;subst hP hw hK;obtain⟨xs,hq,hx⟩:=hg;obtain⟨Á,rv,p,hz⟩:=I.list hq;obtain⟨f0,f1,f2,f3,f4,f5⟩:=hf it (by simp);have hl:=rv.length;exact VR (I.ok.hd hc) st p.isList (by simp;lia) λh' eb=>{rfl,I.turned (t':=s.toks) (λb o hb e=>eb b o hb e) f0 f1 f3 f4 f5}
 self:=λ_ _ _ _ _ st h=>wpAny_pyIter_listiter st h
theorem zQ{P:Program}{w:RS}{K:RG}{tg:Expr}(a it:RB):Zf P w K tg (Itt K a) [it] it (λi h=>h.IsTupleIter it a i) where
 mem:=by simp
 obj:=λi h st b hb=>by
  have e:b=it:=by simpa using hb
  subst e;obtain⟨o,e,c,d⟩:=st;exact{o,e,λv z=>by rw[d]at z;cases z}
 keep:=λi h h' st k=>st.at λo e=>k it (by simp) o e
 item:=by
  intro X hP hw hK hc i pins s B H E I hf st hg;subst hP hw hK;obtain⟨xs,x,hq,hx⟩:=hg;obtain⟨Á,rv,p,hz⟩:=I.tuple hq;obtain⟨u,hu,ru⟩:=rv.get hx;obtain⟨f0,f1,f2,f3,f4,f5⟩:=hf it (by simp);refine wpAny_pyNext_tuple_item st (show s.heap.IsTuple a Á.toArray from p) (x:=u) (by simpa using hu) λh' ċ sb=>?_;have I1:Inv X pins B H { s with heap:=h' }:=I.turned (t':=s.toks) (λb o hb e=>(sb.2 b hb).trans e) f0 f1 f3 f4 f5;obtain⟨o,e,c,d⟩:=id ċ;exact{u,rfl,yl (s:={ s with heap:=h' }) e c d ∅ ⟨x,H,I1,ru,⟨rfl,λys hy=>by rw[I.C9 hy hq];exact hx⟩,ċ,λb hb=>(hf b hb).1⟩}
 done:=by
  intro X hP hw hK hc i pins s B H E I hf st hg;subst hP hw hK;obtain⟨xs,hq,hx⟩:=hg;obtain⟨Á,rv,p,hz⟩:=I.tuple hq;obtain⟨f0,f1,f2,f3,f4,f5⟩:=hf it (by simp);have hl:=rv.length;exact wpAny_pyNext_tuple_end (I.ok.hd hc) st (show s.heap.IsTuple a Á.toArray from p) (by simp;lia) λh' eb=>{rfl,I.turned (t':=s.toks) (λb o hb e=>eb b o hb e) f0 f1 f3 f4 f5}
 self:=λ_ _ _ _ _ st h=>wpAny_pyIter_tupleiter st h
theorem Ak{P:Program}{w:RS}{K:T9}{tg:Expr}(it:RB)(lo:Int)(n:Nat):Zf P w K tg (ϳ lo n) [it] it (λi h=>IsRangeIter h it (lo+(i:Nat)*1) ((n:Int)-(i:Nat)) 1) where
 mem:=by simp
 obj:=λi h st b hb=>by
  have e:b=it:=by simpa using hb
  subst e;exact⟨_,st,λv z=>by
   have z':XO _=Wf v:=z;cases z'⟩
 keep:=λi h h' st k=>k it (by simp) _ st
 item:=by
  intro X hP hw hK hc i pins s B H E I hf st hg;subst hP hw hK;obtain⟨f0,f1,f2,f3,f4,f5⟩:=hf it (by simp);have W:=Walks.range (prog:=X.prog) (w:=X.w) (I.ok.hd hc) it lo 1 n;refine W.item i s _ _ hg st λv h' tk hv ċ kk=>?_;obtain⟨t,rfl⟩:=hv;have I1:Inv X pins B H { s with heap:=h',toks:=tk }:=I.turned (λb o hb e=>kk b o (by simpa using hb) e) f0 f1 f3 f4 f5;refine⟨_,rfl,yl (s:={ s with heap:=h',toks:=tk }) (n:="range_iterator") ċ rfl rfl ∅ ⟨.int (lo+i),H,I1,⟨t,?_⟩,⟨rfl,rfl⟩,ċ,λb hb=>(hf b hb).1⟩⟩;rw[Int.mul_one]
 done:=by
  intro X hP hw hK hc i pins s B H E I hf st hg;subst hP hw hK;obtain⟨f0,f1,f2,f3,f4,f5⟩:=hf it (by simp);exact wpAny_pyNext_range_end (I.ok.hd hc) st (by have:n<=i:=hg;lia) λh' eb=>{rfl,I.turned (t':=s.toks) (λb o hb e=>eb b o hb e) f0 f1 f3 f4 f5}
 self:=λ_ _ _ _ _ st h=>wpAny_pyIter_rangeiter st h
section
variable{X:Cx}{tg:Expr}
theorem Gm{pins:List (RB×Obj)}{B:St}{H:Hp}{s:RF}{R:It->Hp->Prop}{E:RC->RF->Prop}{lo hi:Int}{t u v:Tok}{tk:Nat}(I:Inv X pins B H s)(h1:-(2^62)<=lo)(h2:lo<2^62)(h3:-(2^62)<=hi)(h4:hi<2^62)
  (q:R (ϳ lo (hi-lo).toNat) H):wpAny (RK X.prog X.w) X.A (Yj (.ref s.heap.objs.size)) (PIE X pins B tg R) E { s with heap:=s.heap.push { cls:=.type "range",data:=.fields #[.int lo t,.int hi u,.int 1 v] },toks:=tk }:=by
 refine wpAny_pyIter_range (IsRange.new ..) (small_one h1 h2 h3 h4) ?_
 have I1:Inv X pins B H { s with heap:=s.heap.push { cls:=.type "range",data:=.fields #[.int lo t,.int hi u,.int 1 v] },toks:=tk }:=I.kept λb o e=>RE _ e
 refine⟨(s.heap.push { cls:=.type "range",data:=.fields #[.int lo t,.int hi u,.int 1 v] }).objs.size,[(s.heap.push { cls:=.type "range",data:=.fields #[.int lo t,.int hi u,.int 1 v] }).objs.size],_,_,H,rfl,
  I1.kept (t':=tk) λb o e=>RE _ e,Ak _ lo (hi-lo).toNat,?_,λb hb=>?_,q⟩
 ·have e1:lo+((0:Nat):Int)*1=lo:=by simp
  have e2:(((hi-lo).toNat:Nat):Int)-((0:Nat):Int)=Builtin.Range.rangeSize lo hi 1:=by rw[rangeSize_one];split<;>lia
  show IsRangeIter _ _ (lo+((0:Nat):Int)*1) ((((hi-lo).toNat:Nat):Int)-((0:Nat):Int)) 1;rw[e1,e2];exact RL _ rfl
 have e:b=(s.heap.push { cls:=.type "range",data:=.fields #[.int lo t,.int hi u,.int 1 v] }).objs.size:=by simpa using hb
 subst e
 exact I1.uC (OW _) (I1.Å.fresh (OW _))
inductive Mq(vs:List V)(H:Hp)(R:It->Hp->Prop):Prop
 |mk(j:Int)(h0:vs=[.int j])(h1:-(2^62)<=j)(h2:j<2^62)(q:R (ϳ 0 j.toNat) H):Mq vs H R
def MD(ta:TA):TI:=λB H R=>ta B H λvs H1=>Mq vs H1 R
theorem ee(hg:Gl X "range")(hm:X.mg "range"=YW)(ha:PA X [a] ta)(hs:RJ [a] X.env=[(false,Sj a X.env)]:=by rfl):PI X tg (.Call (.Name "range" p) [a] [] pos) (MD ta):=by
 intro pins s B H R I h;refine Call_ (o5 I hg hm boot_range (S3 (È (ha pos pins s B H _ I h) λus s1 ⟨vs,H1,I1,r1,q1⟩=>?_) hs rfl));obtain⟨j,e,q1,q2,q⟩:=q1;subst e;cases r1 with
 |cons r rr=>
  cases rr;obtain⟨t,rfl⟩:=r;exact call_range_1 (Gm I1 () () q1 q2 (by simpa using q))
def N7(wi:TI)(g:TG)(tb:TS):TS:=λD B H=>wi B H λJ H1=>∃W:Nat->Nat->St->Hp->Prop,(∃m,W 0 m B H1)/\∀i m B H,W i m B H->
 (J.stop i H/\D.nx B H)\/(J.go i H/\∃N:St->Hp->Prop,(∀B' H',N B' H'->∃m',m'<m/\W (i+1) m' B' H')/\∀x H',J.ń i H x H'->g x B H' λσ2 H2=>tb { D with nx:=N,ct:=N,bk:=D.nx } σ2 H2)
def tI(fp:List RB)(h:R8):List (RB×Obj):=fp.filterMap λb=>(h.get? b).map λo=>(b,o)
theorem kF(hb:b∈fp)(e:h.get? b=YV o):(b,o)∈tI fp h:=PR.mpr {b,hb,by rw[e];rfl}
theorem Dh(hp:p∈tI fp h):p.1∈fp/\h.get? p.1=YV p.2:=by
 obtain⟨b,hb,e⟩:=PR.mp hp;cases q:h.get? b with
 |none=>rw[q]at e;cases e
 |some o=>
  rw[q]at e;have e':(b,o)=p:=RQ e;subst e';exact⟨hb,q⟩
theorem Inv.pinned(I:Inv X pins B H s)(hf:∀b∈fp,sD X pins H b)(ho:∀b∈fp,∃o,s.heap.get? b=YV o/\∀v,o.data≠ .cell v):Inv X (pins++tI fp s.heap) B H s:=
 I.wd λp hp=>(Pa.mp hp).elim (λz=>I.pin p (Pb _ z)) λz=>by
  obtain⟨hb,e⟩:=Dh z;obtain⟨f0,f1,f2,_⟩:=hf p.1 hb;obtain⟨o,e',d⟩:=ho p.1 hb;rw[e]at e';cases e';exact⟨e,f0,f1,f2,d⟩
theorem Inv.lT(I:Inv X (pins++pl) B H s):Inv X pins B H s:=I.wd λp hp=>I.pin p (Pb _ (Px _ hp))
theorem bc(hp:We (RK X.prog X.w) X.A X.env X.xe)(hc:X.calm=true)(hi:PI X tg iter wi)(hg:PG X tg g)(hb:ü X body tb)
  (hs:∀x,foldedSetIterable iter X.env x=pure x:=by intro _;rfl):PS X (.For tg iter body [] pos) (N7 wi g tb):=by
 intro pins s B H D I h
 refine wpAny_For (È (hi pins s B H _ I h) λv s1 h1=>È h1 λitv s2 h2=>?_) hs
 obtain⟨it,fp,tn,J,H2,e,I2,T,st2,f2,W,⟨m0,w0⟩,turn⟩:=h2
 subst e
 have ĳ:∀{H':Hp},(∀b∈fp,H' b=YW)->∀b∈fp,sD X pins H' b:=λhn b hb=>{hn b hb,(f2 b hb).2}
 refine codeAny_forLoop_any (λn s'=>∃i B' H',Inv X pins B' H' s'/\tn i s'.heap/\(∀b∈fp,H' b=YW)/\W i n B' H') ?_ m0 {0,B,H2,I2,st2,λb hb=>(f2 b hb).1,w0}
 rintro n s3 ⟨i,σ3,H3,I3,st3,fr3,w3⟩
 rcases turn i n σ3 H3 w3 with⟨stop,qn⟩|⟨go,N,hN,step⟩
 ·refine Ta hp (È (T.done X rfl rfl rfl hc i pins s3 σ3 H3 X.xe I3 (ĳ fr3) st3 stop) λr s4 z9=>?_);obtain⟨hr,I4⟩:=z9;subst hr;exact UH ⟨σ3,H3,I4,qn⟩
 refine Ta hp (È (T.item X rfl rfl rfl hc i pins s3 σ3 H3 X.xe I3 (ĳ fr3) st3 go) λr s4 z9=>?_);obtain⟨u,hr,h4⟩:=z9
 subst hr
 refine Ta hp (È h4 λ_ s5 z9=>?_);obtain⟨x,H5,I5,r5,y5,ą,fr5⟩:=z9
 have I5':=I5.pinned (ĳ fr5) (T.obj _ _ ą)
 refine Ta hp (È (hg _ s5 σ3 H5 x u _ I5' r5 (step x H5 y5)) λ_ s6 z9=>?_);obtain⟨σ6,H6,I6,q6⟩:=z9
 refine Ta hp (È (hb _ s6 σ6 H6 _ I6 q6) λf s7 q7=>?_)
 have again:∀{σ7:St}{H7:Hp},Inv X (pins++tI fp s5.heap) σ7 H7 s7->N σ7 H7->∃m,m<n/\∃i B' H',Inv X pins B' H' s7/\tn i s7.heap/\(∀b∈fp,H' b=YW)/\W i m B' H':=λ{σ7 H7} I7 n7=>by
  obtain⟨m',hm,w7⟩:=hN σ7 H7 n7;refine{m',hm,i+1,σ7,H7,I7.lT,T.keep _ _ _ ą λb hb o e=>(I7.pin (b,o) (Pb _ (Pb _ (kF hb e)))).1,λb hb=>?_,w7};obtain⟨o,e,d⟩:=T.obj _ _ ą b hb;exact(I7.pin (b,o) (Pb _ (Pb _ (kF hb e)))).2.1
 cases f with
 |next=>obtain⟨σ7,H7,I7,n7⟩:=q7;exact again I7 n7
 |cont=>obtain⟨σ7,H7,I7,n7⟩:=q7;exact again I7 n7
 |brk=>obtain⟨σ7,H7,I7,q7⟩:=q7;exact⟨σ7,H7,I7.lT,q7⟩
 |ret v=>obtain⟨x7,σ7,H7,I7,r7,q7⟩:=q7;exact⟨x7,σ7,H7,I7.lT,r7,q7⟩
end
theorem a9{K:T9}{a:RB}{xs:List V}{g:TG}{tb:TS}{D:Zc}{B:St}{H:Hp}(Pv:Nat->St->Hp->Prop)(h0:Pv 0 B H)(hl:∀i B H,i<=xs.length->Pv i B H->À K H a xs)
  (hs:∀i x B H,xs[i]?=YV x->Pv i B H->g x B H λσ2 H2=>tb { D with nx:=Pv (i+1),ct:=Pv (i+1),bk:=D.nx } σ2 H2) (hd:∀B H,Pv xs.length B H->D.nx B H) :
  ∃W:Nat->Nat->St->Hp->Prop,(∃m,W 0 m B H)/\∀i m B H,W i m B H->
   ((Φ K a).stop i H/\D.nx B H)\/((Φ K a).go i H/\∃N:St->Hp->Prop,(∀B' H',N B' H'->∃m',m'<m/\W (i+1) m' B' H')/\∀x H',(Φ K a).ń i H x H'->g x B H' λσ2 H2=>tb { D with nx:=N,ct:=N,bk:=D.nx } σ2 H2):=by
 refine{λi m B H=>m=xs.length-i/\i<=xs.length/\Pv i B H,{xs.length,by simp,Pc _,h0},?_}
 rintro i m B H ⟨rfl,hi,p⟩
 have q:=hl i B H hi p
 by_cases Û:i<xs.length
 ·refine .inr {{xs,xs[i],q,by simp[Û]},Pv (i+1),λB' H' p'=>{xs.length-(i+1),(),rfl,Û,p'},λx H' y=>?_};obtain⟨e,y⟩:=y;subst e;exact hs i x B _ (y xs q) p
 have e:i=xs.length:=()
 subst e
 exact .inl {{xs,q,OW _},hd B H p}
theorem BE{K:T9}{a:RB}{xs:List V}{g:TG}{tb:TS}{D:Zc}{B:St}{H:Hp}(Pv:Nat->St->Hp->Prop)(h0:Pv 0 B H)(hl:∀i B H,i<=xs.length->Pv i B H->Æ K H a xs)
  (hs:∀i x B H,xs[i]?=YV x->Pv i B H->g x B H λσ2 H2=>tb { D with nx:=Pv (i+1),ct:=Pv (i+1),bk:=D.nx } σ2 H2) (hd:∀B H,Pv xs.length B H->D.nx B H) :
  ∃W:Nat->Nat->St->Hp->Prop,(∃m,W 0 m B H)/\∀i m B H,W i m B H->
   ((Itt K a).stop i H/\D.nx B H)\/((Itt K a).go i H/\∃N:St->Hp->Prop,(∀B' H',N B' H'->∃m',m'<m/\W (i+1) m' B' H')/\∀x H',(Itt K a).ń i H x H'->g x B H' λσ2 H2=>tb { D with nx:=N,ct:=N,bk:=D.nx } σ2 H2):=by
 refine{λi m B H=>m=xs.length-i/\i<=xs.length/\Pv i B H,{xs.length,by simp,Pc _,h0},?_}
 rintro i m B H ⟨rfl,hi,p⟩
 have q:=hl i B H hi p
 by_cases Û:i<xs.length
 ·refine .inr {{xs,xs[i],q,by simp[Û]},Pv (i+1),λB' H' p'=>{xs.length-(i+1),(),rfl,Û,p'},λx H' y=>?_};obtain⟨e,y⟩:=y;subst e;exact hs i x B _ (y xs q) p
 have e:i=xs.length:=()
 subst e
 exact .inl {{xs,q,OW _},hd B H p}
theorem j8{lo:Int}{n:Nat}{g:TG}{tb:TS}{D:Zc}{B:St}{H:Hp}(Pv:Nat->St->Hp->Prop)(h0:Pv 0 B H)
  (hs:∀i B H,i<n->Pv i B H->g (.int (lo+i)) B H λσ2 H2=>tb { D with nx:=Pv (i+1),ct:=Pv (i+1),bk:=D.nx } σ2 H2) (hd:∀B H,Pv n B H->D.nx B H) :
  ∃W:Nat->Nat->St->Hp->Prop,(∃m,W 0 m B H)/\∀i m B H,W i m B H->
   ((ϳ lo n).stop i H/\D.nx B H)\/((ϳ lo n).go i H/\∃N:St->Hp->Prop,(∀B' H',N B' H'->∃m',m'<m/\W (i+1) m' B' H')/\∀x H',(ϳ lo n).ń i H x H'->g x B H' λσ2 H2=>tb { D with nx:=N,ct:=N,bk:=D.nx } σ2 H2):=by
 refine{λi m B H=>m=n-i/\i<=n/\Pv i B H,{n,by simp,Pc _,h0},?_}
 rintro i m B H ⟨rfl,hi,p⟩
 by_cases Û:i<n
 ·refine .inr {Û,Pv (i+1),λB' H' p'=>{n-(i+1),(),rfl,Û,p'},λx H' y=>?_};obtain⟨e,y⟩:=y;subst e y;exact hs i B _ Û p
 have e:i=n:=()
 subst e
 exact .inl {OW _,hd B H p}
abbrev R2:=V->V->Hp->VK->Prop
def Ñ(X:Cx)(f:RC->RC->Sem RC)(r:R2):Prop:=
 ∀(pins:List (RB×Obj))(s:RF)(B:St)(H:Hp)(x y:V)(v u:RC)(Q:VK),Inv X pins B H s->Y0 x v->Y0 y u->r x y H Q->
  wpAny (RK X.prog X.w) X.A (f v u) (EP X pins B Q) X.xe s
def UnR(X:Cx)(f:RC->Sem RC)(r:V->Hp->VK->Prop):Prop:=
 ∀(pins:List (RB×Obj))(s:RF)(B:St)(H:Hp)(x:V)(v:RC)(Q:VK),Inv X pins B H s->Y0 x v->r x H Q->
  wpAny (RK X.prog X.w) X.A (f v) (EP X pins B Q) X.xe s
def cO(X:Cx)(f:RC)(r:List V->Hp->VK->Prop):Prop:=
 ∀(pins:List (RB×Obj))(s:RF)(B:St)(H:Hp)(xs:List V)(us:List RC)(Q:VK),Inv X pins B H s->Y1 xs us->r xs H Q->
  wpAny (RK X.prog X.w) X.A (call f us) (EP X pins B Q) X.xe s
def Oo(X:Cx)(r:V->Hp->(Bool->Hp->Prop)->Prop):Prop:=
 ∀(pins:List (RB×Obj))(s:RF)(B:St)(H:Hp)(x:V)(v:RC)(Q:Bool->Hp->Prop),Inv X pins B H s->Y0 x v->r x H Q->
  wpAny (RK X.prog X.w) X.A (truthy v) (TP X pins B Q) X.xe s
def tOp(r:R2)(ta tb:TE):TE:=λB H Q=>ta B H λx H1=>tb B H1 λy H2=>r x y H2 Q
def tUn(r:V->Hp->VK->Prop)(ta:TE):TE:=λB H Q=>ta B H λx H1=>r x H1 Q
def rI(C:Int->Int->Prop)(g:Int->Int->V):R2:=λx y H Q=>∃i j,x=.int i/\y=.int j/\C i j/\Q (g i j) H
def Ϟ(g:Int->Int->V):R2:=λx y H Q=>∃i j,x=.int i/\y=.int j/\Q (g i j) H
def rU(g:Int->V):V->Hp->VK->Prop:=λx H Q=>∃i,x=.int i/\Q (g i) H
section
variable{X:Cx}{a b c:Expr}{ta tb tc:TE}{pos:Pos}
theorem J7(ha:PE X a ta)(hb:PE X b tb){B:St}{H:Hp}{R:V->V->Hp->Prop}(I:Inv X pins B H s)
  (h:ta B H λx H1=>tb B H1 λy H2=>R x y H2) {Q:RC->RF->Prop}{f:RC->RC->Sem RC}
  (hf:∀v u s2 x y H2,Inv X pins B H2 s2->Y0 x v->Y0 y u->R x y H2->wpAny (RK X.prog X.w) X.A (f v u) Q X.xe s2) :
  wpAny (RK X.prog X.w) X.A (Sj a X.env) (λv s₁=>wpAny (RK X.prog X.w) X.A (Sj b X.env) (λu s₂=>wpAny (RK X.prog X.w) X.A (f v u) Q X.xe s₂) X.xe s₁) X.xe s:=by
 refine È (ha pins s B H _ I h) λv s1 z9=>?_;obtain⟨x,H1,I1,r1,q1⟩:=z9
 refine È (hb pins s1 B H1 _ I1 q1) λu s2 z9=>?_;obtain⟨y,H2,I2,r2,q2⟩:=z9
 exact hf v u s2 x y H2 I2 r1 r2 q2
theorem aE(ho:Ñ X (Sw op) r)(ha:PE X a ta)(hb:PE X b tb):PE X (.BinOp a op b pos) (tOp r ta tb):=by
 intro pins s B H Q I h;exact wpAny_BinOp (J7 ha hb I h λv u s2 x y H2 I2 rx ry q=>ho pins s2 B H2 x y v u Q I2 rx ry q)
theorem En(ho:UnR X (unaryOp op) r)(ha:PE X a ta):PE X (.UnaryOp op a pos) (tUn r ta):=by
 intro pins s B H Q I h;exact UnaryOp_ (È (ha pins s B H _ I h) λv s1 ⟨x,H1,I1,r1,q1⟩=>ho pins s1 B H1 x v Q I1 r1 q1)
theorem opI{f:RC->RC->Sem RC}{C:Int->Int->Prop}{g:Int->Int->Int}
  (rule:∀(i j:Int)(t u:Tok)(s:RF)(Q:RC->RF->Prop)(E:RC->RF->Prop),C i j->Q (.int (g i j) s.toks) { s with toks:=s.toks+1 }->wpAny (RK X.prog X.w) X.A (f (.int i t) (.int j u)) Q E s) :
  Ñ X f (rI C λi j=>.int (g i j)):=by
 intro pins s B H x y v u Q I rx ry h
 obtain⟨i,j,rfl,rfl,hc,q⟩:=h
 obtain⟨t,rfl⟩:=rx
 obtain⟨t',rfl⟩:=ry
 exact rule i j t t' s _ _ hc {.int (g i j),H,I.tok _,{_,rfl},q}
theorem LC{f:RC->RC->Sem RC}{g:Int->Int->Int}
  (rule:∀(i j:Int)(t u:Tok)(s:RF)(Q:RC->RF->Prop)(E:RC->RF->Prop),Q (.int (g i j) s.toks) { s with toks:=s.toks+1 }->wpAny (RK X.prog X.w) X.A (f (.int i t) (.int j u)) Q E s) :
  Ñ X f (Ϟ λi j=>.int (g i j)):=by
 intro pins s B H x y v u Q I rx ry h
 obtain⟨i,j,rfl,rfl,q⟩:=h
 obtain⟨t,rfl⟩:=rx
 obtain⟨t',rfl⟩:=ry
 exact rule i j t t' s _ _ {.int (g i j),H,I.tok _,{_,rfl},q}
theorem J3{f:RC->RC->Sem RC}{g:Int->Int->Bool}
  (rule:∀(i j:Int)(t u:Tok)(s:RF)(Q:RC->RF->Prop)(E:RC->RF->Prop),Q (.bool (g i j)) s->wpAny (RK X.prog X.w) X.A (f (.int i t) (.int j u)) Q E s) :
  Ñ X f (Ϟ λi j=>.bl (g i j)):=by
 intro pins s B H x y v u Q I rx ry h
 obtain⟨i,j,rfl,rfl,q⟩:=h
 obtain⟨t,rfl⟩:=rx
 obtain⟨t',rfl⟩:=ry
 exact rule i j t t' s _ _ {.bl (g i j),H,I,rfl,q}
def EZ(i j:Int):Prop:=0<=j/\j<=1000000/\i.natAbs<2^64
def Df(i j:Int):Prop:=(-(2^64)<i/\i<2^64)\/(-(2^64)<j/\j<2^64)
theorem Df.ok(h:Df i j):IntMulOk i j:=by
 rcases h with⟨h1,h2⟩|⟨h1,h2⟩
 ·exact .of_left (intBits_le_64 h1 h2)
 exact .of_right (intBits_le_64 h1 h2)
theorem Ai(k:Nat):(0:Int)<=2^k:=by
 rw[two_pow_cast];exact Int.natCast_nonneg _
theorem LL:Ñ X (Sw .Add) (Ϟ λi j=>.int (i+j)):=LC λ_ _ _ _ _ _ _ q=>add_int q
theorem KG:Ñ X (Sw .Sub) (Ϟ λi j=>.int (i-j)):=LC λ_ _ _ _ _ _ _ q=>sub_int q
theorem Kn:Ñ X (Sw .Mult) (rI Df λi j=>.int (i*j)):=opI λ_ _ _ _ _ _ _ hc q=>mul_int q hc.ok
theorem Lu:Ñ X (Sw .Mod) (rI (λ_ j=>0<j) λi j=>.int (i%j)):=opI λi j _ _ _ _ _ hc q=>by
 have h1:(0:Int)<j:=hc;exact mod_int' () (by rw[Int.fmod_eq_emod_of_nonneg i ()];exact q)
theorem Km:Ñ X (Sw .Pow) (rI EZ λi j=>.int (i^j.toNat)):=opI λ_ _ _ _ _ _ _ hc q=>pow_int_small hc.1 hc.2.1 hc.2.2 q
theorem KO:Ñ X (Sw .LShift) (rI EZ λi j=>.int (i*2^j.toNat)):=opI λ_ _ _ _ _ _ _ hc q=>lshift_int_small hc.1 hc.2.1 hc.2.2 q
theorem JQ:Ñ X (Sw .RShift) (rI (λ_ j=>0<=j) λi j=>.int (i/2^j.toNat)):=opI λi j _ _ _ _ _ hc q=>
 rshift_int hc (by rw[UX i (Ai _)];exact q)
theorem Mu:Ñ X (Sw .BitOr) (Ϟ λi j=>.int (Uy i j)):=LC λ_ _ _ _ _ _ _ q=>or_int q
theorem unI{f:RC->Sem RC}{g:Int->Int}
  (rule:∀(i:Int)(t:Tok)(s:RF)(Q:RC->RF->Prop)(E:RC->RF->Prop),Q (.int (g i) s.toks) { s with toks:=s.toks+1 }->wpAny (RK X.prog X.w) X.A (f (.int i t)) Q E s) :
  UnR X f (rU λi=>.int (g i)):=by
 intro pins s B H x v Q I rx h
 obtain⟨i,rfl,q⟩:=h
 obtain⟨t,rfl⟩:=rx
 exact rule i t s _ _ {.int (g i),H,I.tok _,{_,rfl},q}
theorem zO:UnR X (unaryOp .USub) (rU λi=>.int (-i)):=unI λ_ _ _ _ _ q=>neg_int q
def C4:V->V->Bool
 | .Ä,.Ä=>true| .Ä,.int _=>true| .int _,.Ä=>true| .Ä,.bl _=>true| .bl _,.Ä=>true| .Ä,.str _=>true| .str _,.Ä=>true
 | .int _,.int _=>true| .bl _,.bl _=>true| .str _,.str _=>true| .ğ _,.ğ _=>true
 | .int _,.str _=>true| .str _,.int _=>true| .bl _,.str _=>true| .str _,.bl _=>true
 |_,_=>false
def rEq:R2:=λx y H Q=>C4 x y=true/\Q (.bl (decide (x=y))) H
def rNe:R2:=λx y H Q=>C4 x y=true/\Q (.bl (!decide (x=y))) H
theorem A7:decide (V.int i=V.int j)=(i==j):=by
 rw[Qd];simp
theorem EV:decide (V.bl i=V.bl j)=(i==j):=by
 rw[Qd];simp
theorem B7:decide (V.str i=V.str j)=(i==j):=by
 rw[Qd];simp
theorem Cy:decide (V.ğ i=V.ğ j)=(i.toList==j.toList):=by
 rw[Qd];cases i;cases j;simp
theorem bo(I:Inv X pins B H s)(q:Q (.bl k) H)(e:k=k'):EP X pins B Q (.bool k') s:=by
 subst e;exact⟨.bl k,H,I,rfl,q⟩
theorem MS:Ñ X (RV .Eq) rEq:=by
 intro pins s B H x y v u Q I rx ry h;obtain⟨hs,q⟩:=h;cases x with
 |Ä=>
  cases rx;cases y with
  |Ä=>cases ry;exact PySem.EqNone.eq_none_none (bo I q (by simp))
  |bl j=>cases ry;exact PySem.EqNone.eq_none_bool (bo I q (by simp))
  |int j=>obtain⟨t',rfl⟩:=ry;exact PySem.EqNone.eq_none_int (bo I q (by simp))
  |str j=>obtain⟨t',rfl⟩:=ry;exact PySem.EqNone.eq_none_str (bo I q (by simp))
  |_=>exact absurd (show false=true from hs) O3
 |bl i=>
  cases rx;cases y with
  |Ä=>cases ry;exact PySem.EqNone.eq_bool_none (bo I q (by simp))
  |bl j=>cases ry;exact eq_bool (bo I q EV)
  |str j=>obtain⟨t',rfl⟩:=ry;exact PySem.EqMixed.eq_bool_str (bo I q (by simp))
  |_=>exact absurd (show false=true from hs) O3
 |int i=>
  obtain⟨t,rfl⟩:=rx;cases y with
  |Ä=>cases ry;exact PySem.EqNone.eq_int_none (bo I q (by simp))
  |int j=>obtain⟨t',rfl⟩:=ry;exact eq_int (bo I q A7)
  |str j=>obtain⟨t',rfl⟩:=ry;exact PySem.EqMixed.eq_int_str (bo I q (by simp))
  |_=>exact absurd (show false=true from hs) O3
 |str i=>
  obtain⟨t,rfl⟩:=rx;cases y with
  |Ä=>cases ry;exact PySem.EqNone.eq_str_none (bo I q (by simp))
  |bl j=>cases ry;exact PySem.EqMixed.eq_str_bool (bo I q (by simp))
  |int j=>obtain⟨t',rfl⟩:=ry;exact PySem.EqMixed.eq_str_int (bo I q (by simp))
  |str j=>obtain⟨t',rfl⟩:=ry;exact eq_str (bo I q B7)
  |_=>exact absurd (show false=true from hs) O3
 |ğ i=>
  obtain⟨t,rfl⟩:=rx;cases y with
  |ğ j=>obtain⟨t',rfl⟩:=ry;exact W.eq_bytes (bo I q Cy)
  |_=>exact absurd (show false=true from hs) O3
 |_=>cases y<;>exact absurd (show false=true from hs) O3
theorem Nk:Ñ X (RV .NotEq) rNe:=by
 intro pins s B H x y v u Q I rx ry h;obtain⟨hs,q⟩:=h;cases x with
 |Ä=>
  cases rx;cases y with
  |Ä=>cases ry;exact PySem.EqNone.ne_none_none (bo I q (by simp))
  |bl j=>cases ry;exact PySem.EqNone.ne_none_bool (bo I q (by simp))
  |int j=>obtain⟨t',rfl⟩:=ry;exact PySem.EqNone.ne_none_int (bo I q (by simp))
  |str j=>obtain⟨t',rfl⟩:=ry;exact PySem.EqNone.ne_none_str (bo I q (by simp))
  |_=>exact absurd (show false=true from hs) O3
 |bl i=>
  cases rx;cases y with
  |Ä=>cases ry;exact PySem.EqNone.ne_bool_none (bo I q (by simp))
  |bl j=>cases ry;exact ne_bool (bo I q (congrArg not EV))
  |str j=>obtain⟨t',rfl⟩:=ry;exact PySem.EqMixed.ne_bool_str (bo I q (by simp))
  |_=>exact absurd (show false=true from hs) O3
 |int i=>
  obtain⟨t,rfl⟩:=rx;cases y with
  |Ä=>cases ry;exact PySem.EqNone.ne_int_none (bo I q (by simp))
  |int j=>obtain⟨t',rfl⟩:=ry;exact ne_int (bo I q (congrArg not A7))
  |str j=>obtain⟨t',rfl⟩:=ry;exact PySem.EqMixed.ne_int_str (bo I q (by simp))
  |_=>exact absurd (show false=true from hs) O3
 |str i=>
  obtain⟨t,rfl⟩:=rx;cases y with
  |Ä=>cases ry;exact PySem.EqNone.ne_str_none (bo I q (by simp))
  |bl j=>cases ry;exact PySem.EqMixed.ne_str_bool (bo I q (by simp))
  |int j=>obtain⟨t',rfl⟩:=ry;exact PySem.EqMixed.ne_str_int (bo I q (by simp))
  |str j=>obtain⟨t',rfl⟩:=ry;exact ne_str (bo I q (congrArg not B7))
  |_=>exact absurd (show false=true from hs) O3
 |ğ i=>
  obtain⟨t,rfl⟩:=rx;cases y with
  |ğ j=>obtain⟨t',rfl⟩:=ry;exact W.ne_bytes (bo I q (congrArg not Cy))
  |_=>exact absurd (show false=true from hs) O3
 |_=>cases y<;>exact absurd (show false=true from hs) O3
theorem MC:Ñ X (RV .Lt) (Ϟ λi j=>.bl (decide (i<j))):=J3 λ_ _ _ _ _ _ _ q=>lt_int q
theorem Mm:Ñ X (RV .LtE) (Ϟ λi j=>.bl (decide (i<=j))):=J3 λ_ _ _ _ _ _ _ q=>le_int q
theorem Np:Ñ X (RV .Gt) (Ϟ λi j=>.bl (decide (j<i))):=J3 λ_ _ _ _ _ _ _ q=>gt_int q
theorem Ds:Ñ X (RV .In) (λx y H Q=>∃i j,x=.str i/\y=.str j/\Q (.bl (!(SE j i 0 j.length 1).isEmpty)) H):=by
 intro pins s B H x y v u Q I rx ry h;obtain⟨i,j,rfl,rfl,q⟩:=h;obtain⟨t,rfl⟩:=rx;obtain⟨t',rfl⟩:=ry;exact in_str (bo I q rfl)
theorem KZ:Ñ X (RV .Is) (λx y H Q=>y=.Ä/\Q (.bl (decide (x=.Ä))) H):=by
 intro pins s B H x y v u Q I rx ry h;obtain⟨rfl,q⟩:=h;cases ry;refine is_none_gen (bo I q ?_);cases x<;>first
  | (cases rx;rfl)
  | (obtain⟨t,rfl⟩:=rx;rfl)
theorem Ip:Ñ X (RV .IsNot) (λx y H Q=>y=.Ä/\Q (.bl (!decide (x=.Ä))) H):=by
 intro pins s B H x y v u Q I rx ry h;obtain⟨rfl,q⟩:=h;cases ry;refine isnot_none_gen (bo I q ?_);cases x<;>first
  | (cases rx;rfl)
  | (obtain⟨t,rfl⟩:=rx;rfl)
theorem Ñ.or(h:Ñ X f r)(h':Ñ X f r'):Ñ X f (λx y H Q=>r x y H Q\/r' x y H Q):=by
 intro pins s B H x y v u Q I rx ry q;rcases q with q|q
 ·exact h pins s B H x y v u Q I rx ry q
 exact h' pins s B H x y v u Q I rx ry q
theorem Gg(b:Expr)(h:op≠ .In:=by decide)(h2:op≠ .NotIn:=by decide):TU op b=false:=by
 have e1:(op==CmpOp.In)=false:=by cases op<;>first|rfl|exact absurd rfl h
 have e2:(op==CmpOp.NotIn)=false:=by cases op<;>first|rfl|exact absurd rfl h2
 cases b<;>simp[TU,e1,e2]
theorem GH(ho:Ñ X (RV op) r)(ha:PE X a ta)(hb:PE X b tb)(hm:TU op b=false):PE X (.Compare a [op] [b] pos) (tOp r ta tb):=by
 intro pins s B H Q I h;exact wpAny_Compare1 (J7 ha hb I h λv u s2 x y H2 I2 rx ry q=>ho pins s2 B H2 x y v u Q I2 rx ry q) hm
inductive blI(x:V)(H:Hp)(Q:Bool->Hp->Prop):Prop
 |mk(k:Bool)(h:x=.bl k)(q:Q k H):blI x H Q
def IU(t:TE):TT:=λB H Q=>t B H λx H'=>blI x H' Q
theorem GI(ho:Ñ X (RV op) r)(ha:PE X a ta)(hb:PE X b tb)(hm:TU op b=false):PT X (.Compare a [op] [b] pos) (IU (tOp r ta tb)):=by
 intro pins s B H Q I h;refine wpAny_isTrue_Compare1 (È (ha pins s B H _ I h) λv s1 ⟨x,H1,I1,r1,q1⟩=>È (hb pins s1 B H1 _ I1 q1) λu s2 ⟨y,H2,I2,r2,q2⟩=>
  È (ho pins s2 B H2 x y v u _ I2 r1 r2 q2) λc s3 ⟨z,H3,I3,r3,k,e,q3⟩=>?_) hm
 subst e;cases r3;exact Tc ⟨H3,I3,q3⟩
def Kq(r r':R2)(ta tb tc:TE):TE:=λB H Q=>ta B H λx H1=>tb B H1 λy H2=>r x y H2 λz H3=>∃k,z=.bl k/\
 (if k=true then tc B H3 λw' H4=>r' y w' H4 Q else Q (.bl false) H3)
theorem Ea(ho:Ñ X (RV op) r)(ů:Ñ X (RV op') r')(ha:PE X a ta)(hb:PE X b tb)(hc:PE X c tc)
  (hm:lastMarks [op,op'] [b,c]=false:=by with_unfolding_all rfl):PE X (.Compare a [op,op'] [b,c] pos) (Kq r r' ta tb tc):=by
 intro pins s B H Q I h
 refine Compare_chain (È (ha pins s B H _ I h) λv s1 ⟨x,H1,I1,r1,q1⟩=>chain_link (È (hb pins s1 B H1 _ I1 q1) λu s2 ⟨y,H2,I2,r2,q2⟩=>
  È (ho pins s2 B H2 x y v u _ I2 r1 r2 q2) λd s3 ⟨z,H3,I3,r3,k,e,q3⟩=>?_)) hm
 subst e
 cases r3
 refine Tc ?_
 cases k with
 |false=>exact ite_ff ⟨.bl false,H3,I3,rfl,q3⟩
 |true=>exact ite_tt (chain_last (È (hc pins s3 B H3 _ I3 q3) λw' s4 ⟨z',H4,I4,r4,q4⟩=>ů pins s4 B H4 y z' u w' Q I4 r2 r4 q4))
def OO(K:RG)(x:V)(H:Hp)(k:Bool):Prop:=
 match x with
 | .Ä=>k=false
 | .bl b=>k=b
 | .int i=>k=(i !=0)
 | .str y=>y.length<=sizeLine/\k=((y.length:Int)!=0)
 | .ğ y=>y.size<=sizeLine/\k=((y.size:Int)!=0)
 | .ref p=>(∃xs,À K H p xs/\k=!xs.isEmpty)\/(∃xs,Æ K H p xs/\k=!xs.isEmpty)\/∃kvs,H p=YV (.dK kvs)/\k=!kvs.isEmpty
 |_=>False
theorem AS(r:KV kvs vs):(!vs.isEmpty)=!kvs.isEmpty:=by
 cases r<;>rfl
theorem tm(r:Y1 xs Á):(!Á.toArray.isEmpty)=!xs.isEmpty:=by
 cases r<;>simp
theorem qI:(sizeLine:Nat)<2^63:=by rw[Td];decide
inductive yP(K:RG)(x:V)(H:Hp)(Q:Bool->Hp->Prop):Prop
 |mk(k:Bool)(h:OO K x H k)(q:Q k H):yP K x H Q
theorem Lq:Oo X (yP X.K):=by
 intro pins s B H x v Q I rx h;obtain⟨k,e,q⟩:=h;have hl:=qI;have hs:sizeLine=16777216:=Td;cases x with
 |Ä=>
  cases rx;have e':k=false:=e;subst e';exact truthy_none ⟨H,I,q⟩
 |bl b=>
  cases rx;have e':k=b:=e;subst e';exact Tc ⟨H,I,q⟩
 |int i=>
  obtain⟨t,rfl⟩:=rx;have e':k=(i !=0):=e;subst e';exact PySem.P.truthy_int ⟨H,I,q⟩
 |str y=>
  obtain⟨t,rfl⟩:=rx;obtain⟨hy,e'⟩:y.length<=sizeLine/\k=((y.length:Int)!=0):=e;subst e';exact PySem.P.truthy_str () {H,I.tok _,q}
 |ğ y=>
  obtain⟨t,rfl⟩:=rx;obtain⟨hy,e'⟩:y.size<=sizeLine/\k=((y.size:Int)!=0):=e;subst e';exact W.truthy_bytes () {H,I.tok _,q}
 |ref p=>
  cases rx;have e':(∃xs,À X.K H p xs/\k=!xs.isEmpty)\/(∃xs,Æ X.K H p xs/\k=!xs.isEmpty)\/∃kvs,H p=YV (.dK kvs)/\k=!kvs.isEmpty:=e;rcases e' with⟨xs,hx,e'⟩|⟨xs,hx,e'⟩|⟨kvs,hx,e'⟩
  ·subst e';obtain⟨Á,r,pl,hz⟩:=I.list hx;have hlen:=r.length;exact wpAny_truthy_list pl.isList (by simp only[O9];lia) {H,I.tok _,by rw[tm r];exact q}
  ·subst e';obtain⟨Á,r,pl,hz⟩:=I.tuple hx;have hlen:=r.length;exact truthy_tuple pl (by simp only[O9];lia) {H,I.tok _,by rw[tm r];exact q}
  subst e';obtain⟨hz,hS,vs,r,m⟩:kvs.length<=sizeLine/\(p==SO)=false/\∃vs,KV kvs vs/\s.heap.DictOf (aZ X.prog X.w) p vs:=I.Å p _ hx;have hlen:kvs.length=vs.length:=RN r;exact wpAny_truthy_dict hS m () {H,I.tok _,by rw[AS r];exact q}
 |_=>exact(show False from e).elim
theorem Fm(ha:PE X a ta)(he:∀whole,isTrue a X.env whole=(do let v<-whole;Wc a.pos;Ua [v] (truthy v))) :
  PT X a (λB H Q=>ta B H λx H'=>yP X.K x H' Q):=by
 intro pins s B H Q I h
 exact isTrue_plain (È (ha pins s B H _ I h) λv s1 ⟨x,H1,I1,r1,q1⟩=>Lq pins s1 B H1 x v Q I1 r1 q1) (he _)
theorem zC:Ñ X (Sw .Add) (λx y H Q=>∃i j,x=.str i/\y=.str j/\i.length+j.length<=sizeLine/\Q (.str (i++j)) H):=by
 intro pins s B H x y v u Q I rx ry h;obtain⟨i,j,rfl,rfl,hz,q⟩:=h;obtain⟨t,rfl⟩:=rx;obtain⟨t',rfl⟩:=ry;exact add_str (λt' tk=>{.str (i++j),H,I.tok _,{_,rfl},q}) hz
theorem Y9(r:Y1 [x] us):∃u,us=[u]/\Y0 x u:=by
 cases r with
 |cons r1 r2=>cases r2;exact{_,rfl,r1}
theorem Ze(r:Y1 [x,y] us):∃u w',us=[u,w']/\Y0 x u/\Y0 y w':=by
 cases r with
 |cons r1 r2=>
  cases r2 with
  |cons r3 r4=>cases r4;exact{_,_,rfl,r1,r3}
theorem CG(hc:X.calm=true):cO X (.builtin "max") (λxs H Q=>∃i j,xs=[.int i,.int j]/\Q (.int (if j>i then j else i)) H):=by
 intro pins s B H xs us Q I r h;obtain⟨i,j,rfl,q⟩:=h;obtain⟨u,w',rfl,⟨t,rfl⟩,⟨t',rfl⟩⟩:=Ze r;refine max_two_ints (I.ok.hd hc) λh' tk k=>{_,H,I.kept k,?_,q};by_cases hj:j>i
 ·rw[if_pos hj,if_pos hj];exact{_,rfl}
 rw[if_neg hj,if_neg hj];exact{_,rfl}
def Nh(K:RG)(x:V)(H:Hp)(n:Nat):Prop:=
 match x with
 | .str y=>y.length<=sizeLine/\n=y.length
 | .ğ y=>y.size<=sizeLine/\n=y.size
 | .ref p=>(∃xs,À K H p xs/\n=xs.length)\/∃xs,Æ K H p xs/\n=xs.length
 |_=>False
theorem Fn:cO X (.builtin "len") (λxs H Q=>∃x n,xs=[x]/\Nh X.K x H n/\Q (.int n) H):=by
 intro pins s B H xs us Q I r h;obtain⟨x,n,rfl,e,q⟩:=h;obtain⟨u,rfl,rx⟩:=Y9 r;have hl:=qI;have hs:sizeLine=16777216:=Td;cases x with
 |str y=>
  obtain⟨t,rfl⟩:=rx;obtain⟨hy,e'⟩:y.length<=sizeLine/\n=y.length:=e;subst e';exact len_str () {.int _,H,I.tok _,{_,rfl},q}
 |ğ y=>
  obtain⟨t,rfl⟩:=rx;obtain⟨hy,e'⟩:y.size<=sizeLine/\n=y.size:=e;subst e';exact W.len_bytes () {.int _,H,I.tok _,{_,rfl},q}
 |ref p=>
  cases rx;have e':(∃xs,À X.K H p xs/\n=xs.length)\/∃xs,Æ X.K H p xs/\n=xs.length:=e;rcases e' with⟨xs,hx,e'⟩|⟨xs,hx,e'⟩
  ·subst e';obtain⟨Á,r',pl,hz⟩:=I.list hx;have hlen:=r'.length;exact Calls.call_len_list pl.isList (by simp only[O9];lia) {.int xs.length,H,I.tok _,{_,by simp only[O9];rw[hlen]},q}
  subst e';obtain⟨Á,r',pl,hz⟩:=I.tuple hx;have hlen:=r'.length;exact len_tuple pl (by simp only[O9];lia) {.int xs.length,H,I.tok _,{_,by simp only[O9];rw[hlen]},q}
 |_=>exact(show False from e).elim
end
structure zF(h:R8)(x dx C:RB)(mA:Str->Option RC):Prop where
 obj:h.get? x=YV (Us C dx)
 ns:h.Ns1 dx mA
 ne:dx≠x
theorem qv{h:R8}{mA:Str->Option RC}(n:h.Ns1 dx mA):∃od,h.get? dx=YV od/\∀name,Yk name od=YV (mA name):=by
 obtain⟨o,es,ep,ho,hd,hk,_,hm⟩:=n;refine{o,ho,λname=>?_};have e:=hm name;unfold nsFind findBy at e;rw[<-QU]at e;unfold Yk;rw[hd];dsimp only;split
 ·rename_i y q;rw[q]at e;exact congrArg YV e
 rename_i q;rw[q]at e;have a:es.toList.any (·.refKey)=false:=by
  rw[W7];intro y hy;obtain⟨z,t,Ĩ⟩:=hk y (Array.mem_toList_iff.mp hy);simp[Xv,Ĩ]
 have a':¬ es.toList.any (·.refKey)=true:=by rw[a];exact O3
 rw[if_neg a'];exact congrArg YV e
theorem zF.look(I:zF h x dx C mA):∃od,W.InstAt h x (Us C dx) C (YV od)/\∀name,Yk name od=YV (mA name):=
 let ⟨od,ho,hl⟩:=qv I.ns
 {od,⟨I.obj,rfl,rfl,ho⟩,hl}
section
variable{prog:Program}{w:RS}{A:Sd}{E:RC->RF->Prop}{s:RF}{K:RG}{x dx C f:RB}{mA:Str->Option RC}{name:Str}{v:RC}
theorem get_map(X:K.In s.heap)(I:zF s.heap x dx C mA)(hg:VE K C name=true)(hh:UC K C=true)
  (ha:RZ K (.ref C) name=YV YW) (hv:mA name=YV v) (hv':WL v=true) (h:Q v { s with toks:=s.toks+1 }) :
  wpAny (RK prog w) A (W8 (.ref x) name expr) Q E s:=by
 obtain⟨od,J,hl⟩:=I.look
 exact W.get_value X J (Wy hg).1 (W.findObj_own hh ha rfl (by rw[hl,hv])) hv' h
theorem Fj(X:K.In s.heap)(I:zF s.heap x dx C mA)(hg:VE K C name=true)
  (hf:RZ K (.ref C) name=YV (YV (.ref f))) (ht:VF K (.ref f)=true) (hv:mA name=YW) (h:Q (.ref f,[.ref x]) s) :
  wpAny (RK prog w) A (Vo (.ref x) name pl) Q E s:=by
 obtain⟨od,J,hl⟩:=I.look
 exact W.method_fn X J (Wy hg).1 (Wy hg).2 hf (beq_iff_eq.mp ht) (by show(Yk name od).map (·.isSome)=YV false;rw[hl,hv];rfl) h
theorem Iw(X:K.In s.heap)(I:zF s.heap x dx C mA)
  (hs:RZ K (.ref C) "__setattr__"=YV (YV (.builtin "object.__setattr__"))) (hp:XQ K C=true) (ht:YJ K C name=YV YW) (hh:UC K C=true)
  (hw:VB mA ns) (hsz:ns.length<=sizeLine)
  (h:∀h',zF h' x dx C (λy=>if y=name then YV v else mA y)->S2 dx s.heap h'->Q Unit.unit { s with heap:=h',toks:=s.toks+2 }) :
  wpAny (RK prog w) A (YR (.ref x) name v) Q E s:=by
 obtain⟨od,J,hl⟩:=I.look
 refine XR X J hs (W.osa_open (s:={ s with toks:=s.toks+1 }) (r:=YW) X J hp ht λb=>?_)
 obtain⟨cd,hc,Ϩ⟩:=W.any_some hh
 have hx:s.heap.get? x=YV {.ref C,YV dx,.plain,#[]}:=I.obj
 refine RA (RD (RA (RA (Ub hx (RA (W.Looks.here (s:={ s with toks:=s.toks+1 }) (W.looks_clsIn X hc) ?_))))))
 rw[Ϩ]
 refine RD (a:=YV dx) (RA (RD (RA ?_)))
 refine W9 (s:={ s with toks:=s.toks+1 }) I.ns λh' hn2 Ķ=>?_
 obtain⟨oD,esD,epD,hoD,hdD,hcD⟩:=hn2.count (PySem.Within.cons name v hw)
 refine RA (Vp hoD (by rw[hdD];exact Vq (O6 hcD (by rw[Pf];lia))) ?_)
 exact RD (h _ {(Ķ.2 _ (Pm I.ne)).trans I.obj,hn2,I.ne} Ķ)
theorem Gb(X:K.In s.heap)(hm:Xw K C=true)
  (hi:RZ K (.ref C) "__init__"=YV (YV (.ref f))) (hf:W.typeIn K (.ref f)=YV (.type "function"))
  (h:codeAny (RK prog w) (A.under (.builtin "type.__call__" {.ref C::vs,kw})) (.call (.ref f) {.ref (s.heap.objs.size+1)::vs,kw}) (W.InitBack (s.heap.objs.size+1) R)
   { s with heap:=(s.heap.push Tt).push (Us C s.heap.objs.size) }) :
  codeAny (RK prog w) A (.call (.ref C) ⟨vs,kw⟩) R s:=by
 obtain⟨hh,g,d,t,os⟩:=s
 exact W.make_core (W.makes_of X hm) (W.looks_findIn X hi) (λself=>W.bind_fn X self hf) (.inl rfl) h
end
def bN(f:Str)(v:V):List (Str×V)->List (Str×V)
 | []=>[(f,v)]
 | (g,x)::r=>if g=f then(g,v)::r else(g,x)::bN f v r
theorem mI(f g:Str)(v:V):∀fs:List (Str×V),(bN f v fs).lookup g=if g=f then YV v else fs.lookup g
 | []=>by
  show S5 g [(f,v)]=_;by_cases h:g=f
  ·have hb:(g==f)=true:=beq_iff_eq.mpr h;simp only[S5,hb,if_pos h]
  have hb:(g==f)=false:=beq_eq_false_iff_ne.mpr h;simp only[S5,hb,if_neg h]
 | (k,x)::r=>by
  have ih:=mI f g v r;rw[show bN f v ((k,x)::r)=(if k=f then(k,v)::r else(k,x)::bN f v r)from rfl];by_cases hk:k=f
  ·rw[if_pos hk];by_cases h:g=k
   ·have hb:(g==k)=true:=beq_iff_eq.mpr h;simp only[S5,hb,if_pos (h.trans hk)]
   have hb:(g==k)=false:=beq_eq_false_iff_ne.mpr h;simp only[S5,hb,if_neg (λe:g=f=>h (e.trans hk.symm))]
  rw[if_neg hk];by_cases h:g=k
  ·have hb:(g==k)=true:=beq_iff_eq.mpr h;simp only[S5,hb,if_neg (λe:g=f=>hk (h.symm.trans e))]
  have hb:(g==k)=false:=beq_eq_false_iff_ne.mpr h;simp only[S5,hb];exact ih
theorem ko(f:Str)(v:V):∀fs:List (Str×V),f∈(bN f v fs).map (·.1)/\∀g,g∈fs.map (·.1)->g∈(bN f v fs).map (·.1)
 | []=>{by simp[bN],λg h=>by simp at h}
 | (k,x)::r=>by
  obtain⟨i1,i2⟩:=ko f v r;rw[show bN f v ((k,x)::r)=(if k=f then(k,v)::r else(k,x)::bN f v r)from rfl];by_cases hk:k=f
  ·rw[if_pos hk];subst hk;exact{by simp,λg h=>by simpa using h}
  rw[if_neg hk];refine{?_,λg h=>?_}
  ·rw[Pp];exact O2 _ i1
  rw[Pp]at h⊢;rcases O4.mp h with e|e
  ·exact O4.mpr (.inl e)
  exact O2 _ (i2 g e)
theorem lY(f:Str)(v:V):∀fs:List (Str×V),(bN f v fs).length<=fs.length+1
 | []=>by simp[bN]
 | (k,x)::r=>by
  have ih:=lY f v r;rw[show bN f v ((k,x)::r)=(if k=f then(k,v)::r else(k,x)::bN f v r)from rfl];by_cases hk:k=f
  ·rw[if_pos hk,Pf,Pf];lia
  rw[if_neg hk,Pf,Pf];lia
theorem iH.some_of(r:iH (YV v) o):∃u,o=YV u/\Y0 v u:=by
 cases o with
 |none=>exact(show False from r).elim
 |some u=>exact⟨u,rfl,r⟩
theorem iH.none_of(r:iH YW o):o=YW:=by
 cases o with
 |none=>rfl
 |some u=>exact(show False from r).elim
theorem uZ(r:Y0 v u):WL u=true:=by
 cases v with
 |Ä=>cases (show u=RW from r);rfl
 |bl b=>cases (show u=WI b from r);rfl
 |int i=>obtain⟨t,e⟩:=(show ∃t,u=SW i t from r);cases e;rfl
 |str x=>obtain⟨t,e⟩:=(show ∃t,u=Vl x t from r);cases e;rfl
 |ğ b=>obtain⟨t,e⟩:=(show ∃t,u=Value.bytes b t from r);cases e;rfl
 |ϭ b=>obtain⟨t,e⟩:=(show ∃t,u=XM b t from r);cases e;rfl
 |ref a=>cases (show u=RM a from r);rfl
 |ty n=>cases (show u=SX n from r);rfl
section
variable{P:Program}{w:RS}{H H':Hp}{h h':R8}{a C dx:RB}{fs fs':List (Str×V)}
theorem rK(Å:ó P w H h)(e:H a=YV (.ins C dx fs)):∃mA,zF h a dx C mA/\(∀f,iH (fs.lookup f) (mA f))/\VB mA (fs.map (·.1))/\fs.length<=1000/\H dx=YV (.own a):=by
 obtain⟨d,z,ne,ob,mA,n,r,q⟩:=(show bO P w H h a (.ins C dx fs)from Å a _ e);exact{mA,⟨ob,n,ne⟩,r,q,z,d}
end
structure Ě(K:RG)(C:RB):Prop where
 pg:VE K C Su=true
 hd:UC K C=true
 po:XQ K C=true
 sa:RZ K (.ref C) "__setattr__"=YV (YV (.builtin "object.__setattr__"))
theorem Ě.get{K:RG}{C:RB}(c:Ě K C)(f:Str):VE K C f=true:=c.pg
def aJ(K:RG)(C:RB)(f:Str):Prop:=RZ K (.ref C) f=YV YW
theorem aJ.Mh{K:RG}{C:RB}{f:Str}(n:aJ K C f):YJ K C f=YV YW:=by
 unfold YJ;rw[show RZ K (.ref C) f=YV YW from n];rfl
structure Con(K:RG)(C:RB)(f:Str)(v:V)(u:RC):Prop where
 at_:RZ K (.ref C) f=YV (YV u)
 rel:Y0 v u
 get:SQ K u "__get__"=YV YW
 cp:W.copiedNames.contains f=false
structure Zi(K:RG)(C:RB)(m:Str)(f:RB):Prop where
 at_:RZ K (.ref C) m=YV (YV (.ref f))
 fn:VF K (.ref f)=true
 kp:SG K (.ref f)=true
section
variable{X:Cx}{pins:List (RB×Obj)}{B:St}{H:Hp}{s:RF}{a C dx:RB}{fs:List (Str×V)}{f:Str}{v:V}{A:Sd}{E:RC->RF->Prop}
theorem sZ(I:Inv X pins B H s)(e:H a=YV (.ins C dx fs))(c:Ě X.K C)(n:aJ X.K C f)(l:fs.lookup f=YV v)
  (h:∀u s',Inv X pins B H s'->Y0 v u->Q u s'):wpAny (RK X.prog X.w) A (W8 (.ref a) f b) Q E s:=by
 obtain⟨mA,O,r,_,_,_⟩:=rK I.Å e
 obtain⟨u,hu,ru⟩:=iH.some_of (v:=v) (o:=mA f) (by rw[<-l];exact r f)
 exact get_map I.Þ O (c.get f) c.hd n hu (uZ ru) (h u _ (I.tok _) ru)
theorem uo(I:Inv X pins B H s)(e:H a=YV (.ins C dx fs))(c:Ě X.K C)(k:Zi X.K C m g)(l:fs.lookup m=YW)
  (h:Q (.ref g,[.ref a]) s):wpAny (RK X.prog X.w) A (Vo (.ref a) m pl) Q E s:=by
 obtain⟨mA,O,r,_,_,_⟩:=rK I.Å e
 have hn:mA m=YW:=iH.none_of (by rw[<-l];exact r m)
 exact Fj I.Þ O (c.get m) k.at_ k.fn hn h
theorem tH(I:Inv X pins B H s)(e:H a=YV (.ins C dx fs))(c:Ě X.K C)(n:aJ X.K C f)(hl:fs.length<1000)(ry:Y0 y u)
  (h:∀s',Inv X pins B (upd H a (.ins C dx (bN f y fs))) s'->Q Unit.unit s'):wpAny (RK X.prog X.w) A (YR (.ref a) f u) Q E s:=by
 obtain⟨mA,O,r,wi,_,ho⟩:=rK I.Å e
 have hz:(fs.map (·.1)).length<=sizeLine:=by rw[OU,Td];lia
 refine Iw I.Þ O c.sa c.po n.Mh c.hd wi hz λh' O' sb=>h _ ?_
 have hd:∃o,h'.get? dx=YV o:=let ⟨o,_,_,e',_⟩:=O'.ns;⟨o,e'⟩
 refine I.write (x:=a) (e:=dx) (by rw[e];exact PV) (.inr ho) (λb q hb z=>(sb.2 b hb).trans z) hd ?_
 refine{by rw[ay O.ne];exact ho,?_,O.ne,O'.obj,_,O'.ns,λg=>?_,λg hg=>?_}
 ·have:=lY f y fs;lia
 ·show iH ((bN f y fs).lookup g) (if g=f then YV u else mA g);rw[mI];by_cases q:g=f
  ·rw[if_pos q,if_pos q];exact ry
  rw[if_neg q,if_neg q];exact r g
 by_cases q:g=f
 ·rw[q];exact(ko f y fs).1
 refine(ko f y fs).2 g (wi g λz=>hg ?_)
 show(if g=f then YV u else mA g)=YW
 rw[if_neg q];exact z
theorem Inv.made(I:Inv X pins B H s):Inv X pins B (upd (upd H s.heap.objs.size (.own (s.heap.objs.size+1))) (s.heap.objs.size+1) (.ins C s.heap.objs.size []))
  { s with heap:=(s.heap.push Tt).push (Us C s.heap.objs.size) }:=by
 have e1:(s.heap.push Tt).get? s.heap.objs.size=YV Tt:=RL s.heap rfl
 have e2:((s.heap.push Tt).push (Us C s.heap.objs.size)).get? (s.heap.objs.size+1)=YV (Us C s.heap.objs.size):=by
  have:=RL (s.heap.push Tt) (o:=Us C s.heap.objs.size) rfl;rwa [SR]at this
 have e3:(s.heap.push Tt).Ns s.heap.objs.size (λ_=>YW):={Tt,#[],_,e1,rfl,(λe he=>absurd he (by simp)),λ_=>rfl}
 have I1:=I.laid (a:=s.heap.objs.size) (o:=.own (s.heap.objs.size+1)) (h':=s.heap.push Tt) (t':=s.toks) (λb u q=>RE _ q) (OW _) {_,e1}
 refine I1.laid (a:=s.heap.objs.size+1) (o:=.ins C s.heap.objs.size []) (t':=s.toks) (λb u q=>RE _ q) (Ri (SR _ _)) ?_
 have ne:s.heap.objs.size≠s.heap.objs.size+1:=Ph (QN _)
 refine{by rw[ay ne,ao],Pc _,ne,e2,λ_=>YW,(Xa e3).at λo q=>RE _ q,λ_=>PV,λy hy=>absurd rfl hy}
theorem BN(hb:Sx e f env (Sj e env)=Sj e env)
  (h:wpAny (RK prog w) A (Sj e env) (λo s₁=>wpAny (RK prog w) A (W8 o f true) Q E s₁) E s):wpAny (RK prog w) A (Sj (.Attribute e f pos) env) Q E s:=
 Attribute_any_ h (by rw[arm_eval_Attribute,hb])
end
inductive lN(K:RG)(f:Str)(x:V)(H:Hp)(Q:VK):Prop
 |mk(a C dx:RB)(fs:List (Str×V))(v:V)(h0:x=.ref a)(h1:H a=YV (.ins C dx fs))(h2:Ě K C)(h3:aJ K C f)(h4:fs.lookup f=YV v)(q:Q v H):lN K f x H Q
def Ob(K:RG)(ta:TE)(f:Str):TE:=λB H Q=>ta B H λx H1=>lN K f x H1 Q
inductive JA(K:RG)(f:Str)(y x:V)(H:Hp)(Q:Hp->Prop):Prop
 |mk(a C dx:RB)(fs:List (Str×V))(h0:x=.ref a)(h1:H a=YV (.ins C dx fs))(h2:Ě K C)(h3:aJ K C f)(h4:fs.length<1000)(q:Q (upd H a (.ins C dx (bN f y fs)))):JA K f y x H Q
def NN(K:RG)(ta tv:TE)(f:Str):TS:=λD B H=>tv B H λy H1=>ta B H1 λx H2=>JA K f y x H2 (D.nx B)
def MZ(X:Cx)(op:Operator)(rd:V->V->Hp->VK->Prop):Prop:=
 ∀(pins:List (RB×Obj))(s:RF)(B:St)(H:Hp)(x y:V)(u v:RC)(Q:VK),Inv X pins B H s->Y0 x u->Y0 y v->rd x y H Q->wpAny (RK X.prog X.w) X.A (YI op u v) (EP X pins B Q) X.xe s
def Ii(K:RG)(ta tv:TE)(rd:V->V->Hp->VK->Prop)(f:Str):TS:=λD B H=>ta B H λx H1=>∃a C dx fs v,x=.ref a/\H1 a=YV (.ins C dx fs)/\Ě K C/\aJ K C f/\fs.lookup f=YV v/\
 tv B H1 λy H2=>rd v y H2 λz H3=>∃ϗ fs',H3 a=YV (.ins C ϗ fs')/\fs'.length<1000/\D.nx B (upd H3 a (.ins C ϗ (bN f z fs')))
section
variable{X:Cx}{o e value:Expr}{f:Str}{pos pos' tpos:Pos}{ta tv:TE}
theorem aA(he:PE X e ta)(hb:Sx e f X.env (Sj e X.env)=Sj e X.env):PE X (.Attribute e f pos) (Ob X.K ta f):=by
 intro pins s B H Q I h;refine BN hb (È (he pins s B H _ I h) λu s1 z9=>?_);obtain⟨x,H1,I1,rx,a,C,dx,fs,v,ex,ea,c,n,l,q⟩:=z9;subst ex;obtain rfl:u=RM a:=rx;exact sZ I1 ea c n l λu' s2 I2 ru=>⟨v,H1,I2,ru,q⟩
theorem bW(ha:PE X o ta)(hv:PE X value tv)(hs:Vn value (YV (.Attribute o f pos')) pos.line X.env=pure false):PS X (.Assign [.Attribute o f pos'] value pos) (NN X.K ta tv f):=by
 intro pins s B H D I h;refine Um (È (hv pins s B H _ I h) λu s1 ⟨y,H1,I1,ry,q⟩=>È (ha pins s1 B H1 _ I1 q) λov s2 ⟨x,H2,I2,rx,a,C,dx,fs,ex,ea,c,n,l,q2⟩=>?_) hs;subst ex;obtain rfl:ov=RM a:=rx;exact tH I2 ea c n l ry λs3 I3=>{B,_,I3,q2}
theorem Dz(ha:PE X o ta)(hv:PE X value tv)(hop:MZ X op rd):PS X (.AugAssign (.Attribute o f tpos) op value pos) (Ii X.K ta tv rd f):=by
 intro pins s B H D I h;refine wpAny_AugAssign_AttributeAny (È (ha pins s B H _ I h) λov s1 z9=>?_);obtain⟨x,H1,I1,rx,a,C,dx,fs,v,ex,ea,c,n,l,q⟩:=z9;subst ex;obtain rfl:ov=RM a:=rx;refine sZ I1 ea c n l λu s2 I2 ru=>È (hv pins s2 B H1 _ I2 q) λw3 s3 ⟨y,H2,I3,ry,q3⟩=>È (hop pins s3 B H2 v y u w3 _ I3 ru ry q3) λw4 s4 z9=>?_;obtain⟨z,H3,I4,rz,ϗ,fs',ea',l',q4⟩:=z9;exact tH I4 ea' c n l' rz λs5 I5=>{B,_,I5,q4}
def Ox:V->V->Hp->VK->Prop:=λx y H Q=>∃i j,x=.int i/\y=.int j/\Q (.int (i+j)) H
theorem Kj:MZ X .Add Ox:=by
 rintro pins s B H x y u v Q I rx ry ⟨i,j,rfl,rfl,q⟩;obtain⟨t,rfl⟩:=(show ∃t,u=SW i t from rx);obtain⟨t',rfl⟩:=(show ∃t',v=SW j t' from ry);exact PyProof.Rows.iadd_int {.int (i+j),H,I.tok _,{_,rfl},q}
end
section
variable{X:Cx}{pins:List (RB×Obj)}{B:St}{H:Hp}{s:RF}{A:Sd}{E:RC->RF->Prop}{Q:RC->RF->Prop}{c:RC}{b:Bool}
inductive o7(K:RG)(H:Hp):V->RC->Prop where
 |Ä:o7 K H .Ä (.type "NoneType")
 |bl (x:Bool):o7 K H (.bl x) (.type "bool")
 |int (i:Int):o7 K H (.int i) (.type "int")
 |str (x:Str):o7 K H (.str x) (.type "str")
 |ϭ (x:UInt64):o7 K H (.ϭ x) (.type "float")
 |lst {a:RB}{xs:List V} (e:H a=YV (.lst xs)):o7 K H (.ref a) (.type "list")
 |ß {a:RB}{o:Obj}{xs:List V} (e:H a=YV (.ß o (.lst xs))):o7 K H (.ref a) (.type "list")
 |tup {a:RB}{xs:List V} (e:H a=YV (.tup xs)):o7 K H (.ref a) (.type "tuple")
 |dK {a:RB}{kvs:List (Key×V)} (e:H a=YV (.dK kvs)):o7 K H (.ref a) (.type "dict")
 |dT {a:RB}{kvs:List (List Key×V)} (e:H a=YV (.dT kvs)):o7 K H (.ref a) (.type "dict")
 |ins {a C dx:RB}{fs:List (Str×V)} (e:H a=YV (.ins C dx fs)) (cl:Ě K C) (ha:RZ K (.ref C) "__class__"=YV (YV (.builtin "object.__class__")))
   (hn:SQ K (.builtin "object.__class__") "__get__"=YV (YV (.builtin "getset_descriptor.__get__"))) (htk:T4 K (.builtin "object.__class__")=YV true)
   (hm:Xb K C (.type "object")=YV true):o7 K H (.ref a) (.ref C)
theorem CJ(I:Inv X pins B H s)(rx:Y0 x u)(ty:o7 X.K H x t)(e:R0 X.K t c=YV b)(h:∀tk,Q (.bool b) { s with toks:=tk }) :
  wpAny (RK X.prog X.w) A (call (.builtin "isinstance") [u,c]) Q E s:=by
 cases ty with
 |Ä=>cases (show u=RW from rx);exact To W.kitx_none I.Þ PV e (λz=>nomatch z) h
 |bl y=>cases (show u=WI y from rx);exact To W.kitx_bool I.Þ PV e (λz=>nomatch z) h
 |int i=>obtain⟨t,q⟩:=(show ∃t,u=SW i t from rx);cases q;exact To W.kitx_int I.Þ PV e (λz=>nomatch z) h
 |str y=>obtain⟨t,q⟩:=(show ∃t,u=Vl y t from rx);cases q;exact To W.kitx_str I.Þ PV e (λz=>nomatch z) h
 |ϭ y=>obtain⟨t,q⟩:=(show ∃t,u=XM y t from rx);cases q;exact To W.kitx_float I.Þ PV e (λz=>nomatch z) h
 |@lst a xs ea=>
  cases (show u=RM a from rx)
  obtain⟨_,_,n,_,h1⟩:=(show bO X.prog X.w H s.heap a (.lst xs)from I.Å a _ ea)
  exact To W.kitx_list I.Þ {_,h1,rfl} e (λz=>nomatch z) h
 |@ß a ob xs ea=>
  cases (show u=RM a from rx)
  obtain⟨_,_,_,n,_,h1⟩:=(show bO X.prog X.w H s.heap a (.ß ob (.lst xs))from I.Å a _ ea)
  exact To W.kitx_list I.Þ {_,h1,rfl} e (λz=>nomatch z) h
 |@tup a xs ea=>
  cases (show u=RM a from rx)
  obtain⟨_,_,_,p⟩:=(show bO X.prog X.w H s.heap a (.tup xs)from I.Å a _ ea)
  obtain⟨o,h1,h2,_⟩:=p
  exact To W.kitx_tuple I.Þ ⟨o,h1,h2⟩ e (λz=>nomatch z) h
 |@dK a kvs ea=>
  cases (show u=RM a from rx)
  obtain⟨_,_,vs,_,p⟩:=(show bO X.prog X.w H s.heap a (.dK kvs)from I.Å a _ ea)
  obtain⟨o,es,ep,h1,h2,_⟩:=p
  exact To W.kitx_dict I.Þ ⟨o,h1,h2.1⟩ e (λz=>nomatch z) h
 |@dT a kvs ea=>
  cases (show u=RM a from rx)
  obtain⟨_,_,xs,_,o,es,ep,h1,h2,_⟩:=(show bO X.prog X.w H s.heap a (.dT kvs)from I.Å a _ ea)
  exact To W.kitx_dict I.Þ ⟨o,h1,h2.1⟩ e (λz=>nomatch z) h
 |@ins a C dx fs ea cl ha hn htk hm=>
  cases (show u=RM a from rx)
  obtain⟨mA,O,_⟩:=rK I.Å ea
  obtain⟨od,J,_⟩:=O.look
  exact To (W.kitx_own (cl.get _) cl.hd ha hn htk hm) I.Þ J e (λz=>nomatch z) h
end
structure cN(k:Nat)(A:Sd):Prop where
 hd:A.handled=YW
 dp:A.depth+3*k+5<Yl
 un:A.units+16*k+200<S8
theorem cN.mono(r:cN k A)(h:j<=k):cN j A:={r.hd,by have:=r.dp;lia,by have:=r.un;lia}
theorem cN.deeper(r:cN (k+1) A)(env:Env):cN k (A.deeper env):=
 {r.hd,by have:=r.dp;show A.depth+1+3*k+5<_;lia,by have:=r.un;show A.units+3+16*k+200<_;lia}
theorem zS{A:Sd}{C:RB}{us:List RC}{kw:List (Str×RC)}:(A.under (.builtin "type.__call__" {.ref C::us,kw})).depth=A.depth+1:=by
 first|rfl|simp[Xc,Code.weight,Code.isCreation,Code.isGuard,Code.isCaller,Code.frames,Xd,guardIds]
theorem zX{A:Sd}{C:RB}{us:List RC}{kw:List (Str×RC)}:(A.under (.builtin "type.__call__" {.ref C::us,kw})).units=A.units+1:=by
 first|rfl|simp[Xc,Code.cUnits,Code.frames,Xd]
theorem cN.make(r:cN (k+1) A)(C:RB)(us:List RC)(kw:List (Str×RC)):cN k (A.under (.builtin "type.__call__" {.ref C::us,kw})):=
 {r.hd,by have:=r.dp;rw[zS];lia,by have:=r.un;rw[zX];lia}
theorem cN.depth(r:cN k A):A.depth<Yl:=by have:=r.dp;lia
theorem cN.units(r:cN k A):A.units+64<S8:=by have:=r.un;lia
def DD:TA:=λ_ H Q=>Q [] H
def Gk(ta:TE)(tr:TA):TA:=λB H Q=>ta B H λx H1=>tr B H1 λxs H2=>Q (x::xs) H2
section
variable{X:Cx}{e:Expr}{es:List Expr}{te:TE}{t:TA}{pos:Pos}
theorem ae:PA X [] DD:=λ_ _ _ _ H Q I h=>Uc {[],H,I,.nil,h}
theorem aa(ha:PE X e te)(hr:PA X es t)(hs:RJ (e::es) X.env=(false,Sj e X.env)::RJ es X.env:=by rfl):PA X (e::es) (Gk te t):=by
 intro pos pins s B H Q I h;rw[hs];show wpAny _ _ (YQ ((false,Sj e X.env)::Sk pos (RJ es X.env))) _ _ s;refine T1 (È (ha pins s B H _ I h) λu s1 z9=>?_);obtain⟨x,H1,I1,r1,q1⟩:=z9;exact È (hr pos pins s1 B H1 _ I1 q1) λus s2 ⟨xs,H2,I2,r2,q2⟩=>{x::xs,H2,I2,.cons r1 r2,q2}
def OQ(t:TA):TE:=λB H Q=>t B H λxs H1=>xs.length<=sizeLine/\∀p,H1 p=YW->Q (.ref p) (upd H1 p (.tup xs))
def OG(t:TA):TE:=λB H Q=>t B H λxs H1=>xs.length<=sizeLine/\∀p,H1 p=YW->Q (.ref p) (upd H1 p (.lst xs))
theorem aQ{x1}(h:PA X es t):PE X (.Tuple es x1 pos) (OQ t):=by
 intro pins s B H Q I hq;refine wpAny_Tuple_spliced (È (h pos pins s B H _ I hq) λus s1 ⟨xs,H1,I1,r,z,q⟩=>{by rw[<-r.length];exact z,?_});have hf:H1 s1.heap.objs.size=YW:=I1.Å.fresh (OW _);refine{.ref s1.heap.objs.size,upd H1 s1.heap.objs.size (.tup xs),I1.laid (t':=s1.toks) (λb u e=>RE _ e) (OW _) ?_,rfl,q _ hf};exact{z,us,r,{_,RL _ rfl,rfl,_,rfl}}
theorem aP(h:PA X es t):PE X (.List es pos) (OG t):=by
 intro pins s B H Q I hq;refine wpAny_List_spliced (È (h pos pins s B H _ I hq) λus s1 ⟨xs,H1,I1,r,z,q⟩=>{by rw[<-r.length];exact z,?_});have hf:H1 s1.heap.objs.size=YW:=I1.Å.fresh (OW _);refine{.ref s1.heap.objs.size,upd H1 s1.heap.objs.size (.lst xs),I1.laid (t':=s1.toks) (λb u e=>RE _ e) (OW _) ?_,rfl,q _ hf};exact{z,us,0,r,RL _ rfl}
end
abbrev Sp:=List V->Hp->VK->XK->Prop
abbrev Ŗ:=List Env->Hp->RF->XK->RC->RF->Prop
structure AK(P:Program)(w:RS)(K:RG)(mg:Str->Option RC)(base:R8)(A:Sd)(outer:List Env)(s:RF)(H:Hp):Prop where
 frames:A.frames=YV outer
 mod:Mod K mg base
 bs:∀b o,base.get? b=YV o->s.heap.get? b=YV o/\H b=YW
 ŝ:base.objs.size<=s.heap.objs.size
 o3:s.heap.FunFrames base outer
 ϖ:∀b∈å outer,H b=YW
 Å:ó P w H s.heap
 bare:UN s.gens
inductive CE(outer:List Env)(P:Program)(w:RS)(H:Hp)(s:RF)(Q:VK)(u:RC)(s':RF):Prop
 |mk(v:V)(H':Hp)(h0:s'.os=s.os)(h1:UN s'.gens)(h2:Un (å outer) [] H H' s.heap s'.heap)(h3:ó P w H' s'.heap)(h4:Y0 v u)(h5:Q v H'):CE outer P w H s Q u s'
def CR(CX:Ŗ)(outer:List Env)(P:Program)(w:RS)(H:Hp)(s:RF)(Q:VK)(E:XK)(r:Result)(s':RF):Prop:=
 match r with
 | .ok (.ret u)=>CE outer P w H s Q u s'
 | .ok _=>False
 | .error e=>CX outer H s E e s'
structure hZ(P:Program)(w:RS)(K:RG)(mg:Str->Option RC)(base:R8)(CX:Ŗ)(k:Nat)(f:RB)(fd:Te)(ps:List Str)(sp:Sp):Prop where
 len:∀vs H Q E,sp vs H Q E->vs.length=ps.length
 run:∀(A:Sd)(outer:List Env)(s:RF)(H:Hp)(args:Args)(us:List RC)(vs:List V)(Q:VK)(E:XK),cN k A->AK P w K mg base A outer s H->Wg s fd args (ps.zip us)->Y1 vs us->sp vs H Q E->
  codeAny (RK P w) A (.call (.ref f) args) (CR CX outer P w H s Q E) s
theorem hZ.mono{P:Program}{w:RS}{K:RG}{mg:Str->Option RC}{base:R8}{CX:Ŗ}{j k:Nat}{f:RB}{fd:Te}{ps:List Str}{sp:Sp}(F:hZ P w K mg base CX j f fd ps sp)(h:j<=k) :
  hZ P w K mg base CX k f fd ps sp:={F.len,λA outer s H args us vs Q E hr=>F.run A outer s H args us vs Q E (hr.mono h)}
theorem AK.make{P:Program}{w:RS}{K:RG}{mg:Str->Option RC}{base:R8}{A:Sd}{outer:List Env}{s:RF}{H:Hp}(e:AK P w K mg base A outer s H)(C:RB)(us:List RC)(kw:List (Str×RC)) :
  AK P w K mg base (A.under (.builtin "type.__call__" {.ref C::us,kw})) outer s H:={by first|exact e.frames|(simpa [Xc,Code.envs,Xd,pushEnvs] using e.frames),e.mod,e.bs,e.ŝ,e.o3,e.ϖ,e.Å,e.bare}
section
variable{X:Cx}{pins:List (RB×Obj)}{B:St}{H:Hp}{s s':RF}
theorem Inv.Dg(I:Inv X pins B H s):AK X.prog X.w X.K X.mg X.base X.A X.stack s H:=
 ⟨I.ok.frames,I.ok.mod,I.bs,O6 I.ok.ŝ I.sz,I.stack,I.wX,I.Å,I.bare⟩
theorem Inv.after(I:Inv X pins B H s)(h:CE X.stack X.prog X.w H s Q u s'):EP X pins B Q u s':=by
 obtain⟨v,H',os,bare,un,Å,r,q⟩:=h;obtain⟨hh,g,d,t,os'⟩:=s';obtain rfl:os'=s.os:=os;exact{v,H',I.call (h':=hh) (g':=g) (d':=d) (t':=t) (ch:=[]) un Å bare (λb z=>absurd z (by simp)),r,q}
end
def vn(sp:Sp)(dvs:List V)(E:XK)(t:TA):TE:=λB H Q=>t B H λvs H1=>sp (vs++dvs) H1 Q E
inductive Mf(C:RB)(m:Str)(x:V)(H:Hp)(R:Prop):Prop
 |mk(a dx:RB)(fs:List (Str×V))(h0:x=.ref a)(h1:H a=YV (.ins C dx fs))(h2:fs.lookup m=YW)(q:R):Mf C m x H R
def IQ(C:RB)(m:Str)(sp:Sp)(dvs:List V)(E:XK)(ta:TE)(t:TA):TE:=λB H Q=>ta B H λx H1=>Mf C m x H1 (t B H1 λvs H2=>sp (x::(vs++dvs)) H2 Q E)
def Bu(C:RB)(sp:Sp)(dvs:List V)(E:XK)(t:TA):TE:=λB H Q=>t B H λvs H1=>∀x dx,H1 x=YW->H1 dx=YW->dx≠x->
 sp (.ref x::(vs++dvs)) (upd (upd H1 dx (.own x)) x (.ins C dx [])) (λv H2=>v=.Ä/\Q (.ref x) H2) E
def Y3(K:RG)(fd:Te)(ps:List Str)(ds:List RC):Prop:=
 ∀(s:RF)(us:List RC),K.In s.heap->(us++ds).length=ps.length->Wg s fd {us,[]} (ps.zip (us++ds))
theorem Y3.all{K:RG}{fd:Te}{ps:List Str}(h:∀us:List RC,us.length=ps.length->bindArgs fd {us,[]}=pure (ps.zip us)):Y3 K fd ps []:=λs us _ hl=>by
 rw[PH]at hl⊢;exact .of_eq (h us hl)
def Y5(CX:Ŗ)(X:Cx)(E:XK):Prop:=∀(pins:List (RB×Obj))(B:St)(H:Hp)(s:RF)(e:RC)(s':RF),Inv X pins B H s->CX X.stack H s E e s'->X.xe e s'
section
variable{X:Cx}{CX:Ŗ}{k:Nat}{f C:RB}{fd:Te}{ps:List Str}{sp:Sp}{dvs:List V}{ds:List RC}{E:XK}{x m:Str}{p pos apos:Pos}{e o:Expr}{es:List Expr}{ta:TE}{t:TA}
theorem xt(F:hZ X.prog X.w X.K X.mg X.base CX k f fd ps sp)(hr:cN k X.A)(hb:Y3 X.K fd ps ds)(hd:Y1 dvs ds)(hx:Y5 CX X E)
  (I:Inv X pins B H s) (r:Y1 vs us) (h:sp (vs++dvs) H Q E):wpAny (RK X.prog X.w) X.A (call (.ref f) us) (EP X pins B Q) X.xe s:=by
 have r2:Y1 (vs++dvs) (us++ds):=r.append hd
 have hl:(us++ds).length=ps.length:=by rw[<-r2.length];exact F.len _ _ _ _ h
 refine T3 (Tf (F.run X.A X.stack s H {us,[]} (us++ds) (vs++dvs) Q E hr I.Dg (hb s us I.Þ hl) r2 h) λr s' hq=>?_)
 cases r with
 |error e=>exact hx pins B H s e s' I hq
 |ok fl=>
  cases fl with
  |ret u=>exact I.after hq
  |next=>exact Sn hq
  |brk=>exact Sn hq
  |cont=>exact Sn hq
theorem Cm(F:hZ X.prog X.w X.K X.mg X.base CX k f fd ps sp)(hr:cN k X.A)(hg:Gl X x)(hm:X.mg x=YV (.ref f))(hk:SG X.K (.ref f)=true)(hb:Y3 X.K fd ps ds)(hd:Y1 dvs ds)(hx:Y5 CX X E)
  (ha:PA X (e::es) t) (ì:(x==("__debug__":Str))=false:=by decide) (he:RJ (e::es) X.env=(false,Sj e X.env)::RJ es X.env:=by rfl) (ê:(Sk pos (RJ es X.env)).any (·.1)=false:=by rfl) :
  PE X (.Call (.Name x p) (e::es) [] pos) (vn sp dvs E t):=by
 intro pins s B H Q I h
 refine Sq (jo I hg hm ?_ ì)
 refine UO (h₀:=X.base) I.ok.mod.Ζ hk (È (ha pos pins s B H _ I h) λus s1 ⟨vs,H1,I1,r,q⟩=>{I1.Þ,?_}) he ê
 exact xt F hr hb hd hx I1 r q
theorem G5(he:PE X o ta)(c:Ě X.K C)(hm:Zi X.K C m f)(F:hZ X.prog X.w X.K X.mg X.base CX k f fd ps sp)(hr:cN k X.A)(hb:Y3 X.K fd ps ds)(hd:Y1 dvs ds)(hx:Y5 CX X E)(ha:PA X (e::es) t)
  (ħ:RJ (e::es) X.env=(false,Sj e X.env)::RJ es X.env:=by rfl) (ê:(Sk pos (RJ es X.env)).any (·.1)=false:=by rfl)
  (ht:Sj (.Call (.Attribute o m apos) (e::es) [] pos) X.env=(do
   let ov<-Sj o X.env
   Wc apos.atName
   let (f,first)<-Ua [ov] (Vo ov m pl)
   callWith pos f first (Sk pos (RJ (e::es) X.env)) (Ud pos (Tg [] X.env))):=by rfl) :
  PE X (.Call (.Attribute o m apos) (e::es) [] pos) (IQ C m sp dvs E ta t):=by
 intro pins s B H Q I h
 refine XX (pl:=pl) (È (he pins s B H _ I h) λu s1 ⟨x,H1,I1,rx,a,dx,fs,ex,ea,l,q⟩=>?_) ht
 subst ex
 obtain rfl:u=RM a:=rx
 refine uo I1 ea c hm l ?_
 refine UO (first:=[.ref a]) (h₀:=X.base) I.ok.mod.Ζ hm.kp (È (ha pos pins s1 B H1 _ I1 q) λus s2 ⟨vs,H2,I2,r,q2⟩=>{I2.Þ,?_}) ħ ê
 exact xt (us:=.ref a::us) (vs:=.ref a::vs) F hr hb hd hx I2 (.cons rfl r) q2
structure Mk(K:RG)(C f:RB):Prop where
 makes:Xw K C=true
 init:RZ K (.ref C) "__init__"=YV (YV (.ref f))
 fn:VF K (.ref f)=true
 kp:SG K (.ref C)=true
theorem yM(M:Mk X.K C f)(F:hZ X.prog X.w X.K X.mg X.base CX k f fd ps sp)(hr:cN (k+1) X.A)(hb:Y3 X.K fd ps ds)(hd:Y1 dvs ds)
  (hx:Y5 CX X E) (I:Inv X pins B H s) (r:Y1 vs us)
  (h:∀x dx,H x=YW->H dx=YW->dx≠x->sp (.ref x::(vs++dvs)) (upd (upd H dx (.own x)) x (.ins C dx [])) (λv H2=>v=.Ä/\Q (.ref x) H2) E) :
  wpAny (RK X.prog X.w) X.A (call (.ref C) us) (EP X pins B Q) X.xe s:=by
 have hq:=h (s.heap.objs.size+1) s.heap.objs.size (I.Å.fresh (Qb _)) (I.Å.fresh (OW _)) (Ph (QN _))
 have I2:=Inv.made (C:=C) I
 have r2:Y1 (V.ref (s.heap.objs.size+1)::(vs++dvs)) (RM (s.heap.objs.size+1)::(us++ds)):=.cons rfl (r.append hd)
 have hl:(RM (s.heap.objs.size+1)::us++ds).length=ps.length:=by
  have e:=r2.length;rw[F.len _ _ _ _ hq]at e;exact e.symm
 refine T3 (Gb (f:=f) I.Þ M.makes M.init (beq_iff_eq.mp M.fn) (Tf (F.run _ X.stack _ _ {RM (s.heap.objs.size+1)::us,[]} (RM (s.heap.objs.size+1)::(us++ds)) _ _ E (hr.make C us [])
  (I2.Dg.make C us []) (hb _ (RM (s.heap.objs.size+1)::us) I2.Þ hl) r2 hq) λr s' Ĝ=>?_))
 cases r with
 |error e=>exact hx pins B _ _ e s' I2 Ĝ
 |ok fl=>
  cases fl with
  |ret u=>
   obtain⟨v,H',I3,rv,ev,q3⟩:=I2.after Ĝ
   subst ev
   exact{rv,{V.ref (s.heap.objs.size+1),H',I3,rfl,q3}}
  |next=>exact Sn Ĝ
  |brk=>exact Sn Ĝ
  |cont=>exact Sn Ĝ
theorem IC(M:Mk X.K C f)(F:hZ X.prog X.w X.K X.mg X.base CX k f fd ps sp)(hr:cN (k+1) X.A)(hg:Gl X x)(hm:X.mg x=YV (.ref C))(hb:Y3 X.K fd ps ds)(hd:Y1 dvs ds)(hx:Y5 CX X E)
  (ha:PA X (e::es) t) (ì:(x==("__debug__":Str))=false:=by decide) (he:RJ (e::es) X.env=(false,Sj e X.env)::RJ es X.env:=by rfl) (ê:(Sk pos (RJ es X.env)).any (·.1)=false:=by rfl) :
  PE X (.Call (.Name x p) (e::es) [] pos) (Bu C sp dvs E t):=by
 intro pins s B H Q I h
 refine Sq (jo I hg hm ?_ ì)
 refine UO (h₀:=X.base) I.ok.mod.Ζ M.kp (È (ha pos pins s B H _ I h) λus s1 ⟨vs,H1,I1,r,q⟩=>{I1.Þ,?_}) he ê
 exact yM M F hr hb hd hx I1 r q
theorem E8(M:Mk X.K C f)(F:hZ X.prog X.w X.K X.mg X.base CX k f fd ps sp)(hr:cN (k+1) X.A)(hg:Gl X x)(hm:X.mg x=YV (.ref C))(hb:Y3 X.K fd ps ds)(hd:Y1 dvs ds)(hx:Y5 CX X E)
  (ì:(x==("__debug__":Str))=false:=by decide):PE X (.Call (.Name x p) [] [] pos) (Bu C sp dvs E DD):=by
 intro pins s B H Q I h
 refine Sq (jo I hg hm ?_ ì)
 exact W.callWith_K0 I.Þ M.kp (yM (us:=[]) M F hr hb hd hx I .nil h)
end
section
variable{X:Cx}{CX:Ŗ}{k:Nat}{f C:RB}{fd:Te}{ps ks:List Str}{sp:Sp}{E:XK}{x m:Str}{p pos apos kpos:Pos}{e o:Expr}{es:List Expr}{kws:List TY}{te ta:TE}{t tk:TA}{nm:Option Str}
structure JR(K:RG)(fd:Te)(ps ks:List Str)(g:List RC->List RC->List RC)(gV:List V->List V->List V):Prop where
 to:∀(s:RF)(us ws:List RC),K.In s.heap->(g us ws).length=ps.length->Wg s fd ⟨us,ks.zip ws⟩ (ps.zip (g us ws))
 rel:∀{vs:List V}{us:List RC}{zs:List V}{ws:List RC},Y1 vs us->Y1 zs ws->Y1 (gV vs zs) (g us ws)
variable{g:List RC->List RC->List RC}{gV:List V->List V->List V}
end
structure aw(N P:List Str)(sc:UT):Prop where
 kind:sc.kind=.function
 co:sc.isCoroutine=false
 gen:sc.isGenerator=false
 nd:N.Nodup
 pre:N.take P.length=P
 par:∀x∈P,sc.names.lookup x=YV .local\/sc.names.lookup x=YV .cell
 Ma:∀y∈sc.names,y.2≠ .free
theorem vz{kindOf:Str->Option Tq}:∀{binds:List (Str×RC)}{m:Str->Option RC},(∀v,(x,v)∉binds)->Ym kindOf binds m x=m x
 | [],_,_=>rfl
 | (n,v)::r,m,h=>by
  unfold Ym;rw[vz λw hw=>h w (O2 _ hw)];split
  ·have:x≠n:=by rintro rfl;exact h v OX
   simp[this]
  rfl
theorem vR{kindOf:Str->Option Tq}:∀{binds:List (Str×RC)}{m:Str->Option RC},(∀v,(x,v)∉binds)->Yn kindOf binds m x=m x
 | [],_,_=>rfl
 | (n,v)::r,m,h=>by
  unfold Yn;rw[vR λw hw=>h w (O2 _ hw)];split
  ·rfl
  have:x≠n:=by rintro rfl;exact h v OX
  simp[this]
theorem vS{kindOf:Str->Option Tq}:∀{P:List Str}{vs:List RC}{i:Nat}{m:Str->Option RC},P.Nodup->P[i]?=YV x->vs[i]?=YV v->kindOf x=YV .local->
  Ym kindOf (P.zip vs) m x=YV v
 | [],_,_,_,_,h,_,_=>by simp at h
 |_::_,[],_,_,_,_,h,_=>by simp at h
 |p::P,w::vs,0,m,nd,h1,h2,hk=>by
  simp at h1 h2;subst h1;subst h2;show Ym kindOf ((p,w)::P.zip vs) m p=_;unfold Ym;rw[vz λv hv=>(PK.mp nd).1 (QB hv).1,if_pos hk];simp
 |p::P,w::vs,i+1,m,nd,h1,h2,hk=>by
  show Ym kindOf ((p,w)::P.zip vs) m x=_;unfold Ym;exact vS (i:=i) (PK.mp nd).2 (by simpa using h1) (by simpa using h2) hk
theorem u9{kindOf:Str->Option Tq}:∀{P:List Str}{vs:List RC}{i:Nat}{m:Str->Option RC},P.Nodup->P[i]?=YV x->vs[i]?=YV v->kindOf x≠YV .local->
  Yn kindOf (P.zip vs) m x=YV v
 | [],_,_,_,_,h,_,_=>by simp at h
 |_::_,[],_,_,_,_,h,_=>by simp at h
 |p::P,w::vs,0,m,nd,h1,h2,hk=>by
  simp at h1 h2;subst h1;subst h2;show Yn kindOf ((p,w)::P.zip vs) m p=_;unfold Yn;rw[vR λv hv=>(PK.mp nd).1 (QB hv).1,if_neg hk];simp
 |p::P,w::vs,i+1,m,nd,h1,h2,hk=>by
  show Yn kindOf ((p,w)::P.zip vs) m x=_;unfold Yn;exact u9 (i:=i) (PK.mp nd).2 (by simpa using h1) (by simpa using h2) hk
def Y4(N:List Str)(vs:List V):St:=vs.map YV++RT (N.length-vs.length) YW
def nG(CX:Ŗ)(P:Program)(w:RS)(K:RG)(mg:Str->Option RC)(base:R8)(N:List Str)(qual:Str)(scope:UT)(f:RB)(cd:RC)(A:Sd)(outer:List Env)(s:RF)(H:Hp)(E:XK):Cx where
 prog:=P
 w:=w
 K:=K
 mg:=mg
 base:=base
 A:=A.deeper (Tw qual scope s.heap.objs.size f cd)
 N:=N
 s₀:=s
 H₀:=H
 env:=Tw qual scope s.heap.objs.size f cd
 outer:=outer
 stack:=Tw qual scope s.heap.objs.size f cd::outer
 ex:=[]
 calm:=true
 fn:=λ_=>true
 pn:=[]
 xe:=λe s'=>wpAny (RK P w) (A.deeper (Tw qual scope s.heap.objs.size f cd)) (leaving (Tw qual scope s.heap.objs.size f cd) e) (λ_ s''=>CX outer H s E e s'') (λe' s''=>CX outer H s E e' s'') s'
theorem yD{sc:UT}{n:Nat}{x:Str}(h:sc.names.lookup x=YV .cell):∃c,(Sv n sc.names []).lookup x=YV c:=by
 have q:=Ut sc.names n [] (.inl h);exact Qw.mp q
theorem Dc{CX:Ŗ}{P:Program}{w:RS}{K:RG}{mg:Str->Option RC}{base:R8}{N ps:List Str}{qual:Str}{scope:UT}{f:RB}{cd:RC}{A:Sd}{outer:List Env}{s s1:RF}{H:Hp}{E:XK}{us:List RC}{vs:List V}
  (S:aw N ps scope) (hd:A.handled=YW) (e0:AK P w K mg base A outer s H) (hl:vs.length=ps.length) (r:Y1 vs us)
  (x:InCallC s s.heap.objs.size (Ym (Tw qual scope s.heap.objs.size f cd).kindOf (ps.zip us) λ_=>YW) (Sv (s.heap.objs.size+1) scope.names []) (Yn (Tw qual scope s.heap.objs.size f cd).kindOf (ps.zip us) λ_=>YW) s1) :
  Inv (nG CX P w K mg base N qual scope f cd A outer s H E) [] (Y4 N vs) H s1:=by
 have ê:ps.length<=N.length:=by have:=congrArg U8 S.pre;rw[Pq]at this;lia
 obtain⟨h1,tk,rfl,hk⟩:=x.done
 have noA:∀b:RB,b∉(nG CX P w K mg base N qual scope f cd A outer s H E).ex:=λb z=>absurd (show b∈([]:List RB)from z) (by simp)
 refine⟨{e0.mod,S.kind,rfl,rfl,OW _,λy z c h1 h2=>?_,λy hy=>?_,λy c _ h=>?_,λ_=>hd,Around.frames_deeper e0.frames,.inr ⟨rfl,rfl⟩,λb z=>absurd z (noA b),e0.bs,e0.ŝ,λb _ _=>noA b,λb z=>absurd z (noA b),e0.o3,e0.ϖ},
  rfl,e0.bare,Un.kept hk,{_,x.toInCall.ns,λi y v h1 h2 h3=>?_},λy c h=>{_,x.cell y c h},e0.Å.fresh (OW _),λy c h=>?_,λp hp=>absurd (show p∈([]:List (RB×Obj))from hp) (by simp),e0.Å.kept hk,?_⟩
 ·exact name_of_addr x.apart (R5 h1) (R5 h2)
 ·have hy:scope.names.lookup y=YV .cell\/scope.names.lookup y=YV .free:=hy;rcases hy with hy|hy
  ·exact yD hy
  exact absurd rfl (S.Ma _ (R5 hy))
 ·exact QT (x.above y c (R5 h))
 ·have hi:i<vs.length:=by
   unfold Y4 at h2;by_cases hi:i<vs.length
   ·exact hi
   rw[Qh (by simpa using hi)]at h2;rw[Vr]at h2;split at h2<;>cases h2
  have ha:vs[i]?=YV v:=by
   unfold Y4 at h2;rw[Qm (by simpa using hi),O7]at h2;cases e:vs[i]? with
   |none=>rw[e]at h2;cases h2
   |some a=>rw[e]at h2;cases h2;rfl
  obtain⟨u,hu,rv⟩:=r.get ha;have hp:ps[i]?=YV y:=by
   rw[<-S.pre,Qx ()];exact h1
  have ndP:ps.Nodup:=by rw[<-S.pre];exact S.nd.sublist (QH _ _)
  refine{u,rv,?_};rcases S.par y (OY hp)with k|k
  ·exact .inl ⟨k,vS ndP hp hu k⟩
  obtain⟨c,e⟩:=yD (n:=s.heap.objs.size+1) k;refine .inr {.inl k,c,e,?_};have q:=x.cell y c e;rw[u9 ndP hp hu (by show scope.names.lookup y≠_;rw[k];decide)]at q;exact q
 ·exact e0.Å.fresh (QT (x.above y c (R5 h)))
 unfold Y4
 show _=N.length
 rw[O5,OU,P7]
 lia
theorem DQ{CX:Ŗ}{P:Program}{w:RS}{K:RG}{mg:Str->Option RC}{base:R8}{k:Nat}{f:RB}{name qual:Str}{params:Arguments}{body:List RY}{scope:UT}{dV kV doc pm Â ct oc:RC}{an od:Option RB}
  {æ:Array (Option RC)}{N ps:List Str}{sp:Sp} (lk:K.lookup f=YV {oc,od,.func (SK name qual params body scope dV kV doc pm an Â ct),æ}) (Į:Ue K Â qual=true) (S:aw N ps scope)
  (len:∀vs H Q E,sp vs H Q E->vs.length=ps.length)
  (â:∀(A:Sd)(outer:List Env)(s:RF)(H:Hp)(vs:List V)(Q:VK)(E:XK),cN k (A.deeper (Tw qual scope s.heap.objs.size f Â))->sp vs H Q E->
   ∃t,ü (nG CX P w K mg base N qual scope f Â A outer s H E) body t/\t { nx:=λ_ H'=>Q .Ä H',rt:=Q } (Y4 N vs) H) :
  hZ P w K mg base CX (k+1) f (SK name qual params body scope dV kV doc pm an Â ct) ps sp:=by
 refine{len,λA outer s H args us vs Q E hr e0 hb r ř=>?_}
 have hl:=len _ _ _ _ ř
 have KX:K.In s.heap:=e0.mod.Ζ.keeps λb o e=>(e0.bs b o e).1
 have lim:s.heap.NoLimit:=e0.mod.nolimit.keeps λb o e=>(e0.bs b o e).1
 have hkind:∀y∈ps.zip us,scope.names.lookup y.1=YV .local\/(scope.names.lookup y.1=YV .cell/\((Sv (s.heap.objs.size+1) scope.names []).lookup y.1).isSome=true):=λ⟨n,v⟩ hy=>by
  rcases S.par n (QB hy).1 with q|q
  ·exact .inl q
  exact .inr {q,Ut _ _ _ (.inl q)}
 refine codeAny_call_function hr.depth (KX _ _ lk) rfl S.co S.gen rfl (W.codeRec_of KX Į) (hb _ _ _ _ ?_)
 refine wpAny_newFunctionEnv_cells S.kind hkind λenv he s1 x=>?_
 subst he
 refine{lim.keeps x.toInCall.keep,codeAny_func ?_}
 obtain⟨t,ht,hq⟩:=â A outer s H vs Q E (hr.deeper _) ř
 have I:Inv (nG CX P w K mg base N qual scope f Â A outer s H E) [] (Y4 N vs) H s1:=Dc S hr.hd e0 hl r x
 refine Sz (ht [] s1 (Y4 N vs) H _ I hq) (λfl s' hs=>?_) λe s' hs=>hs
 have fin:∀{B':St}{H':Hp}{v:V}{u:RC},Inv (nG CX P w K mg base N qual scope f Â A outer s H E) [] B' H' s'->Y0 v u->Q v H'->CE outer P w H s Q u s':=
  λ{B' H' v u} J rv q=>⟨v,H',J.os,J.bare,J.base,J.Å,rv,q⟩
 cases fl with
 |ret u=>
  obtain⟨v,B',H',J,rv,q⟩:=hs
  exact fin J rv q
 |next=>
  obtain⟨B',H',J,q⟩:=hs
  exact fin (v:=V.Ä) (u:=RW) J rfl q
 |brk=>
  obtain⟨_,_,_,q⟩:=hs
  exact Sn q
 |cont=>
  obtain⟨_,_,_,q⟩:=hs
  exact Sn q
section
variable{X:Cx}{x:Str}{p pos:Pos}{e:Expr}{es:List Expr}{t:TA}{id T:String}{r:List V->Hp->VK->Prop}
def tCB(r:List V->Hp->VK->Prop)(t:TA):TE:=λB H Q=>t B H λvs H1=>r vs H1 Q
theorem pS(hc:cO X (.builtin id) r)(hg:Gl X x)(hm:X.mg x=YW)(hv:Tb x=YV (.builtin id))(ha:PA X (e::es) t)(hn:x≠"__name__":=by decide)(ì:(x==("__debug__":Str))=false:=by decide)
  (he:RJ (e::es) X.env=(false,Sj e X.env)::RJ es X.env:=by rfl) (ê:(Sk pos (RJ es X.env)).any (·.1)=false:=by rfl):PE X (.Call (.Name x p) (e::es) [] pos) (tCB r t):=by
 intro pins s B H Q I h
 refine Sq (o5 I hg hm hv ?_ hn ì)
 exact Uu (È (ha pos pins s B H _ I h) λus s1 ⟨vs,H1,I1,r1,q1⟩=>hc pins s1 B H1 vs us Q I1 r1 q1) he ê
theorem DF(hc:cO X (.type T) r)(hg:Gl X x)(hm:X.mg x=YW)(hv:Tb x=YV (.type T))(ha:PA X (e::es) t)(hn:x≠"__name__":=by decide)(ì:(x==("__debug__":Str))=false:=by decide)
  (he:RJ (e::es) X.env=(false,Sj e X.env)::RJ es X.env:=by rfl) (ê:(Sk pos (RJ es X.env)).any (·.1)=false:=by rfl):PE X (.Call (.Name x p) (e::es) [] pos) (tCB r t):=by
 intro pins s B H Q I h
 refine Sq (o5 I hg hm hv ?_ hn ì)
 exact S3 (È (ha pos pins s B H _ I h) λus s1 ⟨vs,H1,I1,r1,q1⟩=>hc pins s1 B H1 vs us Q I1 r1 q1) he ê
end
end L2
namespace HT
open PySem PyProof.Rows
section
open PySem.SeqAt
open PySem.AutoSeq1 (wpAny_loadPart')
open PySem.MeetsSeq PySem.MeetsSeq2 PySem.MeetsSeq3
end
section
variable{prog:Program}{w:RS}{A:Sd}{E:RC->RF->Prop}{s:RF}
def Õ(n d:Nat):Option Int->Nat
 |none=>d
 |some v=>if v<0 then(v+(n:Int)).toNat else min v.toNat n
theorem kQ(n d k:Nat):Õ n d (YV (k:Int))=min k n:=by
 show(if(k:Int)<0 then((k:Int)+(n:Int)).toNat else min (k:Int).toNat n)=min k n;rw[if_neg (),PL]
theorem Kd(n d:Nat)(hd:d<=n)(o:Option Int):Õ n d o<=n:=by
 cases o with
 |none=>exact hd
 |some v=>
  show(if v<0 then(v+(n:Int)).toNat else min v.toNat n)<=n;by_cases hv:v<0
  ·rw[if_pos hv];lia
  rw[if_neg hv];exact Nat.min_le_right _ _
theorem BP(v:Int)(n d:Nat):(if v<0 then max (v+(n:Int)) 0 else min v (n:Int))=((Õ n d (YV v):Nat):Int):=by
 show(if v<0 then max (v+(n:Int)) 0 else min v (n:Int))=(((if v<0 then(v+(n:Int)).toNat else min v.toNat n):Nat):Int);by_cases hv:v<0
 ·simp only[if_pos hv];lia
 simp only[if_neg hv];lia
theorem AB(lo hi:Option Int)(n:Nat):TL lo hi 1 (n:Int)=(((Õ n 0 lo:Nat):Int),((Õ n n hi:Nat):Int)):=by
 have h1:¬ ((1:Int)<0):=()
 unfold TL;simp only[h1,if_false];refine US ?_ ?_
 ·cases lo with
  |none=>rfl
  |some v=>exact BP v n 0
 cases hi with
 |none=>rfl
 |some v=>exact BP v n n
theorem Ae(i j:Nat):Si (i:Int) (j:Int) 1=j-i:=by
 unfold Si;have h1:(1:Int)>0:=()
 simp only[h1,if_true,Int.ediv_one];split<;>lia
theorem tN(p:WM v o)(h:Q o s):wpAny (RK prog w) A (Builtin.Slice.slicePartIndex v) Q E s:=by
 cases p with
 |none=>exact UY h
 |int i t=>exact slicePart_int h
theorem qf{sl:RB}{vl vu:RC}{lo hi:Option Int}{n:Nat}{Q:Int×Int×Nat->RF->Prop}(hs:s.heap.IsSliceOf sl vl vu .none)(pl:WM vl lo)(pu:WM vu hi)
  (h:Q (((Õ n 0 lo:Nat):Int),1,Õ n n hi-Õ n 0 lo) s):wpAny (RK prog w) A (S7 (.ref sl) (pure (n:Int))) Q E s:=by
 obtain⟨os,Ő,Ś,ç⟩:=id hs
 unfold S7 U4
 refine RA (RA (wpAny_field Ő ç (x:=vl) rfl (RA (wpAny_field Ő ç (x:=vu) rfl (RA (wpAny_field Ő ç (x:=.none) rfl (RD ?_)))))))
 refine RA (UY ?_)
 show wpAny _ _ (if((1:Int)==0)=true then _ else _) _ _ s
 rw[if_neg ∅]
 refine RA (tN pl (RA (tN pu (RA (RD ?_)))))
 show wpAny _ _ (match TL lo hi 1 (n:Int)with|(lo,hi)=>pure (lo,(1:Int),Si lo hi 1)) _ _ s
 rw[AB lo hi n]
 show wpAny _ _ (pure (((Õ n 0 lo:Nat):Int),(1:Int),Si ((Õ n 0 lo:Nat):Int) ((Õ n n hi:Nat):Int) 1)) _ _ s
 rw[Ae]
 exact RD h
theorem DV(xs:Array RC)(i k:Nat):((RX k).filterMap λ(m:Nat)=>xs[((i:Int)+(m:Int)*1).toNat]?).toArray=((xs.toList.drop i).take k).toArray:=by
 have e:(λ(m:Nat)=>xs[((i:Int)+(m:Int)*1).toNat]?)=λm=>xs[i+m]?:=by
  funext m
  have:((i:Int)+(m:Int)*1).toNat=i+m:=()
  rw[this]
 rw[e];have:=pick_run xs i k;rw[List.filterMap_map]at this;have e2:((λx=>xs[x]?)∘λx=>i+x)=λm=>xs[i+m]?:=rfl;rw[e2]at this;rw[this]
theorem pW{t sl:RB}{items:Array RC}{vl vu:RC}{lo hi:Option Int}{Q:RC->RF->Prop}(ht:IsTup s.heap t items)(hs:s.heap.IsSliceOf sl vl vu .none)(pl:WM vl lo)(pu:WM vu hi)
  (hw:¬ (Õ items.size 0 lo=0/\Õ items.size items.size hi=items.size))
  (h:Q (.ref s.heap.objs.size) { s with heap:=s.heap.push { cls:=.type "tuple",data:=.seq ((items.toList.drop (Õ items.size 0 lo)).take (Õ items.size items.size hi-Õ items.size 0 lo)).toArray } })
  (hsz:items.size<=sizeLine):wpAny (RK prog w) A (U9 (.ref t) (.ref sl)) Q E s:=by
 have õ:sizeOk (.seq ((items.toList.drop (Õ items.size 0 lo)).take (Õ items.size items.size hi-Õ items.size 0 lo)).toArray):=by
  show((items.toList.drop (Õ items.size 0 lo)).take (Õ items.size items.size hi-Õ items.size 0 lo)).toArray.size<=sizeLine;rw[O9,Pq,QO,Qf];lia
 have hj:Õ items.size items.size hi<=items.size:=Kd _ _ (OW _) hi
 obtain⟨os,Ő,Ś,ç⟩:=id hs
 have hTs:s.TypeIs (.ref sl) "slice":=⟨os,Ő,Ś⟩
 unfold U9
 try with_reducible refine wpAny_holding ?_
 first|refine RA (RD ?_)|skip
 refine RA (Xe ht.typeIs ∅ ?_)
 refine RA (Tr (name:=TK "__getitem__") ht.typeIs SM
  (SH SM ht.typeIs Wm ?_ (WN _ _)))
 show wpAny _ _ (UZ (.ref t)>>=_) _ _ s
 refine RA (tupleItemsOf_ ht ?_)
 refine RA (Ug hTs ?_)
 rw[if_pos ∅]
 refine RA (qf hs pl pu ?_)
 have hno:¬ ((((Õ items.size 0 lo:Nat):Int)==0&&(1:Int)==1&&(Õ items.size items.size hi-Õ items.size 0 lo)==items.size)=true):=by
  intro q;rw[QP,QP]at q;have q1:((Õ items.size 0 lo:Nat):Int)=0:=eq_of_beq q.1.1;have q2:Õ items.size items.size hi-Õ items.size 0 lo=items.size:=eq_of_beq q.2;exact hw {(),()}
 show wpAny _ _ (if(((Õ items.size 0 lo:Nat):Int)==0&&(1:Int)==1&&(Õ items.size items.size hi-Õ items.size 0 lo)==items.size)=true then _ else _) _ _ s
 rw[if_neg hno,DV]
 first
  |exact RA (m:=Se _) (R7 (RD {_,rfl,RD h}) õ)
  |exact RA (m:=Se _) (R7 (RA (RD (RD {_,rfl,RD h}))) õ)
  |exact RA (RA (m:=Se _) (R7 (RD (RD {_,rfl,RD h})) õ))
  |exact RA (RA (m:=Se _) (R7 (RD {_,rfl,RD h}) õ))
end
end HT
namespace L2
open PySem PySem.Spec PyProof.Rows
abbrev TO:=St->Hp->(Option Int->Hp->Prop)->Prop
def PO(X:Cx)(e:Option Expr)(t:TO):Prop:=
 ∀(pins:List (RB×Obj))(s:RF)(B:St)(H:Hp)(Q:Option Int->Hp->Prop),Inv X pins B H s->t B H Q->
  wpAny (RK X.prog X.w) X.A (evalPart e X.env) (λu s'=>∃o H',Inv X pins B H' s'/\WM u o/\Q o H') X.xe s
def HW:TO:=λ_ H Q=>Q YW H
inductive Mw(x:V)(H:Hp)(Q:Option Int->Hp->Prop):Prop
 |mk(i:Int)(h:x=.int i)(q:Q (YV i) H):Mw x H Q
def NH(t:TE):TO:=λB H Q=>t B H λx H1=>Mw x H1 Q
section
variable{X:Cx}{e:Expr}{te:TE}{lo hi:Option Expr}{tl th:TO}{pos p2:Pos}
theorem rQ:PO X YW HW:=by
 intro pins s B H Q I h;rw[Ve];exact RD ⟨YW,H,I,.none,h⟩
theorem dj(h:PE X e te):PO X (YV e) (NH te):=by
 intro pins s B H Q I hw;rw[Wz];refine È (h pins s B H _ I hw) λu s1 z9=>?_;obtain⟨x,H1,I1,r1,q1⟩:=z9;obtain⟨i,rfl,q⟩:=q1;obtain⟨t,rfl⟩:=r1;exact⟨YV i,H1,I1,.int i t,q⟩
def Ϛ(X:Cx)(r:V->Option Int->Option Int->Hp->VK->Prop):Prop:=
 ∀(pins:List (RB×Obj))(s:RF)(B:St)(H:Hp)(x:V)(v vl vu:RC)(lo hi:Option Int)(sl:RB)(Q:VK),Inv X pins B H s->Y0 x v->s.heap.IsSliceOf sl vl vu .none->WM vl lo->WM vu hi->r x lo hi H Q->
  ∃T id,typeLookup (.type T) "__getitem__"=pure (YV (.builtin id))/\s.TypeIs v T/\wpAny (RK X.prog X.w) X.A (U9 v (.ref sl)) (EP X pins B Q) X.xe s
theorem Ϛ.or(h:Ϛ X r)(h':Ϛ X r'):Ϛ X (λx lo hi H Q=>r x lo hi H Q\/r' x lo hi H Q):=by
 intro pins s B H x v vl vu lo hi sl Q I rx hs pl pu q;rcases q with q|q
 ·exact h pins s B H x v vl vu lo hi sl Q I rx hs pl pu q
 exact h' pins s B H x v vl vu lo hi sl Q I rx hs pl pu q
def tSl(r:V->Option Int->Option Int->Hp->VK->Prop)(te:TE)(tl th:TO):TE:=λB H Q=>te B H λx H1=>tl B H1 λl H2=>th B H2 λu H3=>r x l u H3 Q
theorem eY(hr:Ϛ X r)(he:PE X e te)(hl:PO X lo tl)(hu:PO X hi th):PE X (.Subscript e (.Slice lo hi YW p2) pos) (tSl r te tl th):=by
 intro pins s B H Q I h;refine WO (È (he pins s B H _ I h) λv s1 z9=>?_);obtain⟨x,H1,I1,r1,q1⟩:=z9;refine XS (È (hl pins s1 B H1 _ I1 q1) λvl s2 ⟨l,H2,I2,pl,q2⟩=>È (hu pins s2 B H2 _ I2 q2) λvu s3 z9=>?_);obtain⟨u,H3,I3,pu,q3⟩:=z9;rw[Ve];refine RD ?_;have I4:Inv X pins B H3 { s3 with heap:=s3.heap.push { cls:=.type "slice",data:=.fields #[vl,vu,.none] } }:=I3.kept (t':=s3.toks) λb ob q=>RE _ q;obtain⟨T,id,hT,ht,hg⟩:=hr pins { s3 with heap:=s3.heap.push { cls:=.type "slice",data:=.fields #[vl,vu,.none] } } B H3 x v vl vu l u s3.heap.objs.size Q I4 r1 (U0 ..) pl pu q3;show wpAny (RK X.prog X.w) X.A (WA e (.Slice lo hi YW p2) v (.ref s3.heap.objs.size)) (EP X pins B Q) X.xe { s3 with heap:=s3.heap.push { cls:=.type "slice",data:=.fields #[vl,vu,.none] } };exact Yo (ops:=[.ref s3.heap.objs.size,v]) ht hT hg (by with_unfolding_all rfl)
def lI(xs:List V)(lo hi:Option Int):List V:=(xs.drop (HT.Õ xs.length 0 lo)).take (HT.Õ xs.length xs.length hi-HT.Õ xs.length 0 lo)
theorem qS(xs:List V)(lo hi:Option Int):(lI xs lo hi).length<=xs.length:=by
 unfold lI;rw[Pq,QO];lia
def Kp(K:RG):V->Option Int->Option Int->Hp->VK->Prop:=λx lo hi H Q=>∃a xs,x=.ref a/\Æ K H a xs/\
 ¬ (HT.Õ xs.length 0 lo=0/\HT.Õ xs.length xs.length hi=xs.length)/\∀p,H p=YW->Q (.ref p) (upd H p (.tup (lI xs lo hi)))
theorem LS:Ϛ X (Kp X.K):=by
 intro pins s B H x v vl vu lo hi sl Q I rx hs pl pu h;obtain⟨a,xs,rfl,hx,hw,q⟩:=h;cases rx;obtain⟨Á,r,ht,hz⟩:=I.tuple hx;have hlen:Á.toArray.size=xs.length:=by rw[O9];exact r.length.symm
 refine{"tuple",_,PyProof.Rows.slot_tuple_getitem.lookup,ht.typeIs,?_};refine HT.pW ht hs pl pu (by rw[hlen];exact hw) ?_ (by rw[hlen];exact hz);rw[hlen];refine{.ref s.heap.objs.size,_,I.laid (t':=s.toks) (o:=.tup (lI xs lo hi)) (λb ob q=>RE _ q) (OW _) ?_,rfl,q _ (I.Å.fresh (OW _))};exact{O6 (qS xs lo hi) hz,_,(r.drop (HT.Õ xs.length 0 lo)).take (HT.Õ xs.length xs.length hi-HT.Õ xs.length 0 lo),IsTup.new _ _}
end
def ώ(n:Nat)(i:Int):Option Nat:=if 0<=i then(if i<n then YV i.toNat else YW)else if -(n:Int)<=i then YV (i+n).toNat else YW
def ô{α:Type}(xs:List α)(i:Int):Option α:=(ώ xs.length i).bind λj=>xs[j]?
theorem Ba(h:ώ n i=YV j):seqIndex? i n=YV j/\j<n/\-(n:Int)<=i/\i<n:=by
 unfold ώ at h;by_cases h0:0<=i
 ·rw[if_pos h0]at h;by_cases h1:i<n
  ·rw[if_pos h1]at h;have e:i.toNat=j:=RQ h;exact{by rw[XT h0 h1,e],(),(),h1}
  rw[if_neg h1]at h;cases h
 rw[if_neg h0]at h;by_cases h1:-(n:Int)<=i
 ·rw[if_pos h1]at h;have e:(i+n).toNat=j:=RQ h;exact{by rw[Xf () h1,e],(),h1,()}
 rw[if_neg h1]at h;cases h
theorem w6(h:ô xs i=YV v):∃j,seqIndex? i xs.length=YV j/\xs[j]?=YV v/\j<xs.length/\-(xs.length:Int)<=i/\i<xs.length:=by
 unfold ô at h;cases e:ώ xs.length i with
 |none=>rw[e]at h;cases h
 |some j=>
  rw[e]at h;obtain⟨h1,h2,h3,h4⟩:=Ba e;exact⟨j,h1,h,h2,h3,h4⟩
theorem dY{α:Type}{xs:List α}{j:Nat}{v:α}(h:xs[j]?=YV v):ô xs (j:Int)=YV v:=by
 have hj:j<xs.length:=(O8.mp h).1;have e:ώ xs.length (j:Int)=YV j:=by
  unfold ώ;rw[if_pos (),if_pos ()];simp
 unfold ô;rw[e];exact h
def Bp(b:Expr):Prop:=∀o i,subscripted b false o i=operate [o,i] (U9 o i)
def IxR(X:Cx)(r:R2):Prop:=
 ∀(value slice:Expr)(pins:List (RB×Obj))(s:RF)(B:St)(H:Hp)(x y:V)(v u:RC)(Q:VK),Inv X pins B H s->Y0 x v->Y0 y u->r x y H Q->
  subscripted slice false v u=operate [v,u] (U9 v u)->wpAny (RK X.prog X.w) X.A (WA value slice v u) (EP X pins B Q) X.xe s
def MtR(X:Cx)(id:String)(r:V->List V->Hp->VK->Prop):Prop:=
 ∀(pins:List (RB×Obj))(s:RF)(B:St)(H:Hp)(x:V)(xs:List V)(v:RC)(us:List RC)(Q:VK),Inv X pins B H s->Y0 x v->Y1 xs us->r x xs H Q->
  wpAny (RK X.prog X.w) X.A (call (.builtin id) (v::us)) (EP X pins B Q) X.xe s
section
variable{X:Cx}{a b:Expr}{ta tb:TE}{pos:Pos}
theorem MK(hr:IxR X r)(ha:PE X a ta)(hb:PE X b tb)(hs:Bp b):PE X (.Subscript a b pos) (tOp r ta tb):=by
 intro pins s B H Q I h;exact WO (J7 ha hb I h λv u s2 x y H2 I2 rx ry q=>hr a b pins s2 B H2 x y v u Q I2 rx ry q (hs _ _))
def OI(K:RG):R2:=λx y H Q=>∃p xs i v,x=.ref p/\y=.int i/\À K H p xs/\ô xs i=YV v/\Q v H
def NL(K:RG):R2:=λx y H Q=>∃p xs i v,x=.ref p/\y=.int i/\Æ K H p xs/\ô xs i=YV v/\Q v H
def Oa:R2:=λx y H Q=>∃z i c,x=.str z/\y=.int i/\z.length<=sizeLine/\ô z.cps.toList i=YV c/\Q (.str ⟨#[c]⟩) H
theorem GR:IxR X (OI X.K):=by
 intro value slice pins s B H x y v u Q I rx ry h hs;obtain⟨p,xs,i,z,rfl,rfl,hq,he,q⟩:=h;cases rx;obtain⟨t,rfl⟩:=ry;obtain⟨Á,r,pl,hz⟩:=I.list hq;obtain⟨j,h1,h2,h3,h4,h5⟩:=w6 he;obtain⟨w,ew,Ĥ⟩:=r.get h2;have hl:=r.length;have hn:=qI;have fin:EP X pins B Q w s:=⟨z,H,I,Ĥ,q⟩;by_cases h0:0<=i
 ·have hj:i.toNat=j:=by
   rw[XT h0 h5]at h1;exact RQ h1
  exact item_listR pl.isList h0 () (by rw[hj];simpa using ew) fin hs
 have hj:(i+(Á.toArray.size:Int)).toNat=j:=by
  rw[Xf () h4]at h1;rw[O9,<-hl];exact RQ h1
 exact VG (x:=w) pl.isList.typeIs slot_list_getitem.lookup
  (wpAny_getItem_list_neg (Q:=λr s'=>r=w/\EP X pins B Q r s') pl.isList () (by rw[O9]<;>lia) () (by rw[hj];simpa using ew) ⟨rfl,fin⟩) hs
theorem JH:IxR X (NL X.K):=by
 intro value slice pins s B H x y v u Q I rx ry h hs;obtain⟨p,xs,i,z,rfl,rfl,hq,he,q⟩:=h;cases rx;obtain⟨t,rfl⟩:=ry;obtain⟨Á,r,pl,hz⟩:=I.tuple hq;obtain⟨j,h1,h2,h3,h4,h5⟩:=w6 he;obtain⟨w,ew,Ĥ⟩:=r.get h2;have hl:=r.length;have hn:=qI;have fin:EP X pins B Q w s:=⟨z,H,I,Ĥ,q⟩;exact VG (x:=w) pl.typeIs slot_tuple_getitem.lookup
  (getItem_tuple (j:=j) (Q:=λr s'=>r=w/\EP X pins B Q r s') pl () () (by rw[O9,<-hl];exact h1) (by simpa using ew) ⟨rfl,fin⟩) hs
theorem Lm:IxR X Oa:=by
 intro value slice pins s B H x y v u Q I rx ry h hs;obtain⟨z,i,c,rfl,rfl,hz,he,q⟩:=h;obtain⟨t,rfl⟩:=rx;obtain⟨t',rfl⟩:=ry;obtain⟨j,h1,h2,h3,h4,h5⟩:=w6 he;have hl:z.cps.toList.length=z.length:=by simp[Str.length]
 rw[hl]at h1 h4 h5;have hn:=qI;exact Yo (WQ s z t) slot_str_getitem.lookup (getItem_str (c:=c) (by
  have e1:decide (i< -(2^63:Int))=false:=decide_eq_false ();have e2:decide (i ≥ 2^63)=false:=decide_eq_false ();rw[e1,e2,Bool.or_false]) (by rw[h1];simpa using h2) {.str ⟨#[c]⟩,H,I.tok _,{_,rfl},q}) hs
theorem AY(Á:List RC)(n j:Nat)(u:RC):TF (·.setIfInBounds j u) { cls:=.type "list",data:=.seq Á.toArray n }={ cls:=.type "list",data:=.seq (Á.set j u).toArray n }:=by
 simp[TF]
theorem Inv.lst(I:Inv X pins B H s)(h:H p=YV (.lst xs)) :
  ∃(Á:List RC)(n:Nat),Y1 xs Á/\s.heap.get? p=YV { cls:=.type "list",data:=.seq Á.toArray n }/\xs.length<=sizeLine:=by
 obtain⟨z,Á,n,r,e⟩:=I.Å p _ h
 exact⟨Á,n,r,e,z⟩
theorem Inv.Jw{pins:List (RB×Obj)}{B:St}{H:Hp}{s:RF}{p:RB}{xs ys:List V}{Á its':List RC}{n n':Nat}{f:Obj->Obj}(I:Inv X pins B H s)(h:H p=YV (.lst xs))
  (ho:s.heap.get? p=YV { cls:=.type "list",data:=.seq Á.toArray n }) (hf:f { cls:=.type "list",data:=.seq Á.toArray n }={ cls:=.type "list",data:=.seq its'.toArray n' }) (r:Y1 ys its') (hz:ys.length<=sizeLine) (t:Nat) :
  Inv X pins B (upd H p (.lst ys)) { s with heap:=s.heap.update p f,toks:=t }:=by
 have e:(s.heap.update p f).get? p=YV { cls:=.type "list",data:=.seq its'.toArray n' }:=by
  rw[RR f ho (by rw[hf]<;>rfl),hf]
 refine I.write (x:=p) (e:=p) (by rw[h];trivial) (.inl rfl) (λb u hb q=>(RI _ _ (Pm hb)).trans q) {_,e} ?_
 exact⟨hz,its',n',r,e⟩
def Jn:V->V->V->Hp->(Hp->Prop)->Prop:=λo i v H Q=>∃p xs k j,o=.ref p/\i=.int k/\H p=YV (.lst xs)/\ώ xs.length k=YV j/\Q (upd H p (.lst (xs.set j v)))
theorem YZ:DZ X Jn:=by
 intro pins s B H o i v ov iv u Q I ro ri rv h;obtain⟨p,xs,k,j,rfl,rfl,hp,hj,q⟩:=h;cases ro;obtain⟨t,rfl⟩:=ri;obtain⟨Á,n,r,ho,hz⟩:=I.lst hp;obtain⟨h1,h2,h3,h4⟩:=Ba hj;have hl:=r.length;have hn:=qI;have I':Inv X pins B (upd H p (.lst (xs.set j v))) { s with heap:=s.heap.update p (TF (·.setIfInBounds j u)) }:=
  I.Jw hp ho (AY Á n j u) (r.set rv j) (by rw[QR];exact hz) s.toks
 by_cases h0:0<=k
 ·have hk:k.toNat=j:=by
   rw[XT h0 h4]at h1;exact RQ h1
  exact W.ki_setAt ho h0 () (by rw[O9,<-hl];exact h4) (by rw[hk];exact{_,I',q})
 have hk:(k+(Á.toArray.size:Int)).toNat=j:=by
  rw[Xf () h3]at h1;rw[O9,<-hl];exact RQ h1
 exact W.ki_setBack ho () (by rw[O9,<-hl];exact h3) () (by rw[hk];exact{_,I',q})
theorem wx(lo hi:Option Int)(n:Nat):(T5 lo hi YW n).1=((HT.Õ n 0 lo:Nat):Int)/\(T5 lo hi YW n).2.1=((HT.Õ n n hi:Nat):Int)/\(T5 lo hi YW n).2.2=1:=by
 refine{?_,?_,rfl}
 ·cases lo with
  |none=>simp[T5,HT.Õ]
  |some i=>
   simp only[T5,HT.Õ,Xx,show(1:Int)>0 by decide,if_true];by_cases h:i<0
   ·simp only[h,if_true]<;>lia
   simp only[h,if_false]<;>lia
 cases hi with
 |none=>simp[T5,HT.Õ]
 |some i=>
  simp only[T5,HT.Õ,Xx,show(1:Int)>0 by decide,if_true];by_cases h:i<0
  ·simp only[h,if_true]<;>lia
  simp only[h,if_false]<;>lia
theorem uJ(Á:List RC)(lo hi:Option Int):slicePick Á.toArray lo hi YW=((Á.drop (HT.Õ Á.length 0 lo)).take (HT.Õ Á.length Á.length hi-HT.Õ Á.length 0 lo)).toArray:=by
 obtain⟨h1,h2,h3⟩:=wx lo hi Á.toArray.size;unfold slicePick;rw[h1,h2,h3];simp only[sliceRange_one,pick_run,O9]<;>rfl
def Ka(K:RG):V->Option Int->Option Int->Hp->VK->Prop:=λx lo hi H Q=>∃a xs,x=.ref a/\À K H a xs/\∀p,H p=YW->Q (.ref p) (upd H p (.lst (lI xs lo hi)))
theorem HU:Ϛ X (Ka X.K):=by
 intro pins s B H x v vl vu lo hi sl Q I rx hs pl pu h;obtain⟨a,xs,rfl,hx,q⟩:=h;cases rx;obtain⟨Á,r,ht,hz⟩:=I.list hx;have hlen:=r.length;refine{"list",_,slot_list_getitem.lookup,ht.isList.typeIs,?_};refine Vf ht.isList hs pl pu .none (by simp) ?_ (by rw[O9]<;>lia);rw[uJ,<-hlen];refine{.ref s.heap.objs.size,_,I.laid (t':=s.toks) (o:=.lst (lI xs lo hi)) (λb ob q=>RE _ q) (OW _) ?_,rfl,q _ (I.Å.fresh (OW _))};exact{O6 (qS xs lo hi) hz,_,0,(r.drop (HT.Õ xs.length 0 lo)).take (HT.Õ xs.length xs.length hi-HT.Õ xs.length 0 lo),RL _ rfl}
def mZ:V->Bool
 | .Ä=>true
 | .bl _=>true
 | .int _=>true
 | .str _=>true
 |_=>false
def Μ:V->V->Bool
 | .Ä,.Ä=>true
 | .bl a,.bl b=>a==b
 | .bl a,.int b=>(if a then 1 else 0)==b
 | .int a,.bl b=>a==(if b then 1 else 0)
 | .int a,.int b=>a==b
 | .str a,.str b=>a==b
 |_,_=>false
theorem JD(ry:Y0 y u)(rx:Y0 x v)(fy:mZ y=true)(fx:mZ x=true):VH A s u v (Μ y x):=by
 cases y with
 |Ä=>
  cases ry;cases x with
  |Ä=>cases rx;exact SeqAt.EqAt.same _
  |bl b=>cases rx;exact SeqAt.EqAt.none_bool b
  |int b=>obtain⟨t,rfl⟩:=rx;exact SeqAt.EqAt.none_int b t
  |str b=>obtain⟨t,rfl⟩:=rx;exact SeqAt.EqAt.none_str b t
  |_=>exact absurd (show false=true from fx) O3
 |bl a=>
  cases ry;cases x with
  |Ä=>cases rx;exact SeqAt.EqAt.bool_none a
  |bl b=>cases rx;exact SeqAt.EqAt.bool_bool a b
  |int b=>obtain⟨t,rfl⟩:=rx;exact SeqAt.EqAt.bool_int a b t
  |str b=>obtain⟨t,rfl⟩:=rx;exact SeqAt.EqAt.bool_str a b t
  |_=>exact absurd (show false=true from fx) O3
 |int a=>
  obtain⟨t',rfl⟩:=ry;cases x with
  |Ä=>cases rx;exact SeqAt.EqAt.int_none a t'
  |bl b=>cases rx;exact SeqAt.EqAt.int_bool a t' b
  |int b=>obtain⟨t,rfl⟩:=rx;exact WS a t' b t
  |str b=>obtain⟨t,rfl⟩:=rx;exact WG a t' b t
  |_=>exact absurd (show false=true from fx) O3
 |str a=>
  obtain⟨t',rfl⟩:=ry;cases x with
  |Ä=>cases rx;exact SeqAt.EqAt.str_none a t'
  |bl b=>cases rx;exact SeqAt.EqAt.str_bool a t' b
  |int b=>obtain⟨t,rfl⟩:=rx;exact WH a t' b t
  |str b=>obtain⟨t,rfl⟩:=rx;exact WT a t' b t
  |_=>exact absurd (show false=true from fx) O3
 |_=>exact absurd (show false=true from fy) O3
def Ľ(x:V)(u:RC):Bool:=match u with
 | .none=>Μ .Ä x
 | .bool b=>Μ (.bl b) x
 | .int i _=>Μ (.int i) x
 | .str z _=>Μ (.str z) x
 |_=>false
theorem DN(r:Y0 y u)(f:mZ y=true):Ľ x u=Μ y x:=by
 cases y with
 |Ä=>cases r;rfl
 |bl b=>cases r;rfl
 |int i=>obtain⟨t,rfl⟩:=r;rfl
 |str z=>obtain⟨t,rfl⟩:=r;rfl
 |_=>exact absurd (show false=true from f) O3
theorem rZ:∀{xs:List V}{us:List RC},Y1 xs us->xs.all mZ=true->us.any (Ľ x)=xs.any λy=>Μ y x:=by
 intro xs us h;induction h with
 |nil=>intro _;rfl
 |cons r _ ih=>
  intro f;rw[List.all_cons,QP]at f;rw[Q1,Q1,DN r f.1,ih f.2]
theorem pI(rx:Y0 x v)(fx:mZ x=true):∀{xs:List V}{us:List RC},Y1 xs us->xs.all mZ=true->∀u∈us,VH A s u v (Ľ x u):=by
 intro xs us h;induction h with
 |nil=>intro _ u hu;cases hu
 |cons r _ ih=>
  intro f u' hu;rw[List.all_cons,QP]at f;rcases O4.mp hu with rfl|hu
  ·rw[DN r f.1];exact JD r rx f.1 fx
  exact ih f.2 u' hu
def ϐ(x:V)(xs:List V):Bool:=xs.any λy=>Μ y x
def rIn(K:RG)(neg:Bool):R2:=λx y H Q=>∃p xs,y=.ref p/\(À K H p xs\/Æ K H p xs)/\mZ x=true/\xs.all mZ=true/\Q (.bl (if neg then !ϐ x xs else ϐ x xs)) H
theorem CM:Ñ X (RV .In) (rIn X.K false):=by
 intro pins s B H x y v u Q I rx ry h;obtain⟨p,xs,rfl,hq,fx,fs,q⟩:=h;cases ry;rcases hq with hq|hq
 ·obtain⟨Á,r,pl,hz⟩:=I.list hq;refine SeqAt.in_listAt (Ľ x) pl.isList (λw hw=>pI rx fx r fs w (by simpa using hw)) {.bl _,H,I,rfl,?_};rw[show Á.toArray.any (Ľ x)=Á.any (Ľ x) by simp,rZ r fs];exact q
 obtain⟨Á,r,pl,hz⟩:=I.tuple hq;refine SeqAt.in_tupleAt (Ľ x) pl (λw hw=>pI rx fx r fs w (by simpa using hw)) {.bl _,H,I,rfl,?_};rw[show Á.toArray.any (Ľ x)=Á.any (Ľ x) by simp,rZ r fs];exact q
theorem xA:Ñ X (RV .NotIn) (rIn X.K true):=by
 intro pins s B H x y v u Q I rx ry h;obtain⟨p,xs,rfl,hq,fx,fs,q⟩:=h;cases ry;rcases hq with hq|hq
 ·obtain⟨Á,r,pl,hz⟩:=I.list hq;refine SeqAt.notIn_listAt (Ľ x) pl.isList (λw hw=>pI rx fx r fs w (by simpa using hw)) {.bl _,H,I,rfl,?_};rw[show Á.toArray.any (Ľ x)=Á.any (Ľ x) by simp,rZ r fs];exact q
 obtain⟨Á,r,pl,hz⟩:=I.tuple hq;refine SeqAt.notIn_tupleAt (Ľ x) pl (λw hw=>pI rx fx r fs w (by simpa using hw)) {.bl _,H,I,rfl,?_};rw[show Á.toArray.any (Ľ x)=Á.any (Ľ x) by simp,rZ r fs];exact q
theorem xj:Ñ X (RV .NotIn) (λx y H Q=>∃i j,x=.str i/\y=.str j/\Q (.bl (!(!(SE j i 0 j.length 1).isEmpty))) H):=by
 intro pins s B H x y v u Q I rx ry h;obtain⟨i,j,rfl,rfl,q⟩:=h;obtain⟨t,rfl⟩:=rx;obtain⟨t',rfl⟩:=ry;exact notIn_str {.bl _,H,I,rfl,q}
theorem cO.or(h:cO X f r)(h':cO X f r'):cO X f (λxs H Q=>r xs H Q\/r' xs H Q):=by
 intro pins s B H xs us Q I rs q;rcases q with q|q
 ·exact h pins s B H xs us Q I rs q
 exact h' pins s B H xs us Q I rs q
theorem xC:cO X (.type "list") (λxs H Q=>∃p ys,xs=[.ref p]/\(À X.K H p ys\/Æ X.K H p ys)/\∀l,H l=YW->Q (.ref l) (upd H l (.lst ys))):=by
 intro pins s B H xs us Q I r h;obtain⟨p,ys,rfl,hq,q⟩:=h;obtain⟨u,rfl,rx⟩:=Y9 r;cases rx;have fin:∀(Á:List RC),Y1 ys Á->ys.length<=sizeLine->∀(h':R8)(c':Nat),(∀b o',s.heap.get? b=YV o'->h'.get? b=YV o')->
   h'.get? s.heap.objs.size=YV { cls:=.type "list",dict:=YW,data:=.seq Á.toArray c',slots:=#[] }->EP X pins B Q (.ref s.heap.objs.size) { s with heap:=h' }:=λÁ r' hz h' c' kp e=>
  {.ref s.heap.objs.size,_,I.laid (t':=s.toks) kp (OW _) (show bO X.prog X.w _ h' _ (.lst ys)from⟨hz,Á,c',r',e⟩),rfl,q _ (I.Å.fresh (OW _))}
 rcases hq with hq|hq
 ·obtain⟨Á,r',pl,hz⟩:=I.list hq;have hlen:=r'.length;obtain⟨o,ho,hc,n,hd⟩:=pl.isList;exact call_list_seq p (.inl rfl) ho hc hd (λh' c' kp e=>fin Á r' hz h' c' kp e) (by simp only[O9]<;>lia)
 obtain⟨Á,r',pl,hz⟩:=I.tuple hq;have hlen:=r'.length;obtain⟨o,ho,hc,n,hd⟩:=pl;exact call_list_seq p (.inr rfl) ho hc hd (λh' c' kp e=>fin Á r' hz h' c' kp e) (by simp only[O9]<;>lia)
def tyV(K:RG)(T:String)(x:V)(H:Hp):Prop:=match x with
 | .str _=>T="str"
 | .int _=>T="int"
 | .ref p=>(T="list"/\∃xs,À K H p xs)\/(T="tuple"/\∃o,K.lookup p=YV o/\o.cls=.type "tuple"/\o.dict=YW)\/
   (T="dict"/\((∃kvs,H p=YV (.dK kvs))\/∃kvs,H p=YV (.dT kvs)))\/(T="set"/\∃S n,H p=YV (.set S n))
 |_=>False
theorem zR(I:Inv X pins B H s)(r:Y0 x v)(ty:tyV X.K T x H) :
  s.TypeIs v T/\∀a,v=.ref a->∃ob,s.heap.get? a=YV ob/\ob.dict=YW:=by
 cases x with
 |str z=>
  obtain⟨t,rfl⟩:=r
  cases (show T="str" from ty)
  exact{WQ s z t,λ_ e=>nomatch e}
 |int i=>
  obtain⟨t,rfl⟩:=r
  cases (show T="int" from ty)
  exact{Yp s i t,λ_ e=>nomatch e}
 |ref p=>
  cases r
  rcases ty with⟨rfl,xs,hq⟩|⟨rfl,o,hk,hc,hd⟩|⟨rfl,hk⟩|⟨rfl,S,n,hk⟩
  ·obtain⟨Á,_,pl,_⟩:=I.list hq;refine{pl.isList.typeIs,λa e=>?_};cases e;obtain⟨o,n,e,c,hd,_⟩:=pl;exact⟨o,e,hd⟩
  ·refine{⟨o,I.Þ p o hk,hc⟩,λa e=>?_};cases e;exact{o,I.Þ _ o hk,hd}
  ·have z:∃o,s.heap.get? p=YV o/\o.ExactDict:=by
    rcases hk with⟨kvs,hk⟩|⟨kvs,hk⟩
    ·obtain⟨_,_,_,_,o,_,_,e,ex,_⟩:=I.Å p _ hk;exact⟨o,e,ex⟩
    obtain⟨_,_,_,_,o,_,_,e,ex,_⟩:=I.Å p _ hk;exact⟨o,e,ex⟩
   obtain⟨o,e,ex⟩:=z;refine{⟨o,e,ex.1⟩,λa e2=>?_};cases e2;exact⟨o,e,ex.2.1⟩
  obtain⟨o,_,_,_,e,ex,_⟩:=I.Å p _ hk
  refine{⟨o,e,ex.1⟩,λa e2=>?_}
  cases e2
  exact⟨o,e,ex.2.1⟩
 |_=>exact Sn ty
def MT(K:RG)(T:String)(r:V->List V->Hp->VK->Prop)(to:TE):TE:=λB H Q=>to B H λx H1=>tyV K T x H1/\r x [] H1 Q
def tBM(K:RG)(T:String)(r:V->List V->Hp->VK->Prop)(to:TE)(t:TA):TE:=λB H Q=>to B H λx H1=>tyV K T x H1/\t B H1 λxs H2=>r x xs H2 Q
variable{o e:Expr}{es:List Expr}{to:TE}{t:TA}{name:Str}{apos Ë:Pos}{T id:String}{r:V->List V->Hp->VK->Prop}
theorem LM(pa:PlainAttrs T)(slot:Slot T name id)(hty:typeOf (.builtin id)=pure (.type "method_descriptor"))(hm:MtR X id r)(ho:PE X o to)
  (ã:Sx o name X.env (Sj o X.env)=Sj o X.env:=by rfl) (á:(apos.endLine==Ë.line)=true:=by rfl):PE X (.Call (.Attribute o name apos) [] [] Ë) (MT X.K T r to):=by
 intro pins s B H Q I h
 refine Vs ã á (È (ho pins s B H _ I h) λv s1 z9=>?_);obtain⟨x,H1,I1,r1,ty,q1⟩:=z9
 obtain⟨h1,h2⟩:=zR I1 r1 ty
 exact{T,id,pa,slot,hty,h1,h2,S4 rfl (Wn (hm pins s1 B H1 x [] v [] Q I1 r1 .nil q1))}
theorem Ez(pa:PlainAttrs T)(slot:Slot T name id)(hty:typeOf (.builtin id)=pure (.type "method_descriptor"))(hm:MtR X id r)(ho:PE X o to)(ha:PA X (e::es) t)
  (ã:Sx o name X.env (Sj o X.env)=Sj o X.env:=by rfl)
  (Ĺ:((Sk Ë (RJ (e::es) X.env)).all (λx=>!x.1)&&(Ud Ë (Tg [] X.env)).all (λx=>x.1.isSome)
   &&decide ((e::es).length+([]:List TY).length+(if([]:List TY).isEmpty then 0 else 1)<30))=true:=by rfl)
  (á:(apos.endLine==Ë.line)=true:=by rfl) (hs:RJ (e::es) X.env=(false,Sj e X.env)::RJ es X.env:=by rfl) (ò:(Sk Ë (RJ es X.env)).any (·.1)=false:=by rfl) :
  PE X (.Call (.Attribute o name apos) (e::es) [] Ë) (tBM X.K T r to t):=by
 intro pins s B H Q I h
 refine wpAny_Call_method_late ã Ĺ á rfl (È (ho pins s B H _ I h) λv s1 z9=>?_);obtain⟨x,H1,I1,r1,ty,q1⟩:=z9
 obtain⟨h1,h2⟩:=zR I1 r1 ty
 refine{T,id,pa,slot,hty,h1,h2,?_}
 have hA:=ha Ë pins s1 B H1 _ I1 q1
 rw[hs]at hA⊢
 refine S4 (by show(false||(Sk Ë (RJ es X.env)).any (·.1))=false;rw[ò]<;>rfl) (UD ?_)
 exact È hA λus s2 ⟨vs,H2,I2,r2,q2⟩=>hm pins s2 B H2 x vs v us Q I2 r1 r2 q2
end
def MtM(X:Cx)(id:String)(r:V->List V->Hp->VK->Prop):Prop:=
 ∀(pins:List (RB×Obj))(s:RF)(B:St)(H:Hp)(x:V)(xs:List V)(v:RC)(us:List RC)(Q:VK),Inv X pins B H s->Y0 x v->Y1 xs us->r x xs H Q->
  wpAny (RK X.prog X.w) X.A (call (.builtin id) (v::us)) (EP X pins B Q) X.xe s
theorem Y1.one(h:Y1 [x] us):∃u,us=[u]/\Y0 x u:=by
 cases h with
 |cons r t=>cases t;exact{_,rfl,r}
theorem Y1.reverse(h:Y1 xs us):Y1 xs.reverse us.reverse:=by
 induction h with
 |nil=>exact .nil
 |cons r t ih=>rw[Xg,Xg];exact Y1.append ih (.cons r .nil)
theorem Y1.rep(h:Y1 xs us):∀k:Nat,Y1 (RT k xs).flatten (RT k us).flatten
 |0=>.nil
 |k+1=>by
  rw[PC,PC,QI,QI];exact Y1.append h (Y1.rep h k)
theorem Za(Á:List RC):∀(k:Nat)(acc:List RC),
  Yq (λx1 x2=>x1++x2) acc.toArray (RT k Á.toArray)=(acc++(RT k Á).flatten).toArray
 |0,acc=>by simp
 |k+1,acc=>by
  have e:acc.toArray++Á.toArray=(acc++Á).toArray:=by simp
  have e2:(acc++Á)++(RT k Á).flatten=acc++(RT (k+1) Á).flatten:=by
   rw[PC,QI,QZ]
  rw[<-e2,<-Za Á k (acc++Á),<-e,PC,QD]
section
variable{X:Cx}{pins:List (RB×Obj)}{B:St}{H:Hp}{s:RF}{l b:RB}{xs ys zs:List V}
theorem Inv.MH{Á its':List RC}{n:Nat}{f:Array RC->Array RC}{t':Nat}(I:Inv X pins B H s)(hH:H l=YV (.lst xs))
  (e:s.heap.get? l=YV { cls:=.type "list",data:=.seq Á.toArray n }) (hf:f Á.toArray=its'.toArray) (hv:Y1 ys its') (hz:ys.length<=sizeLine) :
  Inv X pins B (upd H l (.lst ys)) { s with heap:=s.heap.update l (TF f),toks:=t' }:=by
 have q:=PySem.IsL.update e f
 rw[hf]at q
 refine I.write (x:=l) (e:=l) (by rw[hH];exact trivial) (.inl rfl) (λb' u hb hu=>(RI s.heap (TF f) (Pm hb)).trans hu) {_,q} ?_
 exact{hz,its',_,hv,q}
theorem Inv.Lh(I:Inv X pins B H s)(hv:Y1 ys Á)(hz:ys.length<=sizeLine) :
  Inv X pins B (upd H s.heap.objs.size (.lst ys)) { s with heap:=s.heap.push { cls:=.type "list",data:=.seq Á.toArray },toks:=t' }:=
 I.laid (λ_ _ q=>RE _ q) (OW _) {hz,Á,0,hv,RL _ rfl}
theorem Inv.fresh(I:Inv X pins B H s):H s.heap.objs.size=YW:=I.Å.fresh (OW _)
theorem Inv.C6(I:Inv X pins B H s)(hH:H l=YV (.lst xs)):xs.length<=sizeLine/\∃(Á:List RC)(n:Nat),Y1 xs Á/\xs.length=Á.length/\s.heap.get? l=YV { cls:=.type "list",data:=.seq Á.toArray n }:=by
 obtain⟨z,Á,n,r,e⟩:=I.Å l _ hH;exact⟨z,Á,n,r,r.length,e⟩
theorem zd(h:n<=sizeLine):Tj n=false:=by
 unfold Tj;exact decide_eq_false ()
end
section
variable{X:Cx}
inductive wD(x:V)(vs:List V)(H:Hp)(Q:VK):Prop
 |mk(l:RB)(xs:List V)(y:V)(h0:x=.ref l)(h1:vs=[y])(h2:H l=YV (.lst xs))(h3:xs.length<sizeLine)(q:Q .Ä (upd H l (.lst (xs++[y])))):wD x vs H Q
theorem vb:MtM X "list.append" wD:=by
 intro pins s B H x vs v us Q I rx rv h;obtain⟨l,xs,y,rfl,rfl,hH,hz,q⟩:=h;cases rx;obtain⟨u,rfl,ru⟩:=rv.one;obtain⟨z,Á,n,r,hl,e⟩:=I.C6 hH;refine U1 F.slot_list_append {_,e,rfl} F.entry_list_append (F.args_list_append_2 _ _) (PySem.list_append l Á.toArray n u (by rw[O9];lia)) {e,?_};refine{.Ä,_,I.MH (its':=Á++[u]) hH e (by simp) (r.append (.cons ru .nil)) ?_,rfl,q};rw[O5,Po];lia
def A9:V->List V->Hp->VK->Prop:=λx vs H Q=>∃l b xs zs,x=.ref l/\vs=[.ref b]/\H l=YV (.lst xs)/\H b=YV (.lst zs)/\xs.length+zs.length<=sizeLine/\Q .Ä (upd H l (.lst (xs++zs)))
theorem Dq:MtM X "list.extend" A9:=by
 intro pins s B H x vs v us Q I rx rv h;obtain⟨l,b,xs,zs,rfl,rfl,hH,hB,hz,q⟩:=h;cases rx;obtain⟨u,rfl,ru⟩:=rv.one;cases ru;obtain⟨z,Á,n,r,hl,e⟩:=I.C6 hH;obtain⟨z2,Ħ,n2,r2,Ų,e2⟩:=I.C6 hB;have hsz:Á.toArray.size+Ħ.toArray.size<=sizeLine:=by rw[O9,O9];lia
 have ű:¬ (!Á.toArray.isEmpty&&Tj (Á.toArray.size+Ħ.toArray.size))=true:=by
  rw[zd hsz,Ro];exact O3
 refine U1 F.slot_list_extend {_,e,rfl} F.entry_list_extend (F.args_list_extend_2 _ _)
  (AutoSeq1.list_extend_list_list_0 l Á.toArray n b Ħ.toArray n2 ű (by rw[O9];lia) ()) {e,e2,?_}
 refine{.Ä,_,I.MH (its':=Á++Ħ) hH e (by simp) (r.append r2) ?_,rfl,q};rw[O5];lia
inductive Oj(x:V)(vs:List V)(H:Hp)(Q:VK):Prop
 |mk(l:RB)(xs:List V)(y:V)(h0:x=.ref l)(h1:vs=[])(h2:H l=YV (.lst xs))(h3:xs[xs.length-1]?=YV y)(q:Q y (upd H l (.lst xs.dropLast))):Oj x vs H Q
def Mv:R2:=λx y H Q=>∃l b xs zs,x=.ref l/\y=.ref b/\H l=YV (.lst xs)/\H b=YV (.lst zs)/\xs.length+zs.length<=sizeLine/\∀p,H p=YW->Q (.ref p) (upd H p (.lst (xs++zs)))
theorem J5:Ñ X (Sw .Add) Mv:=by
 intro pins s B H x y v u Q I rx ry h;obtain⟨l,b,xs,zs,rfl,rfl,hH,hB,hz,q⟩:=h;cases rx;cases ry;obtain⟨z,Á,n,r,hl,e⟩:=I.C6 hH;obtain⟨z2,Ħ,n2,r2,Ų,e2⟩:=I.C6 hB;refine PySem.P.add_list e e2 ?_ (by rw[O9,O9];lia);have ea:Á.toArray++Ħ.toArray=(Á++Ħ).toArray:=by simp
 rw[ea];exact{.ref _,_,I.Lh (t':=s.toks) (r.append r2) (by rw[O5];lia),rfl,q _ I.fresh}
def NV:R2:=λx y H Q=>∃l k xs,x=.ref l/\y=.int k/\H l=YV (.lst xs)/\-(2^63)<=k/\k<2^63/\xs.length*k.toNat<=sizeLine/\
 ∀p,H p=YW->Q (.ref p) (upd H p (.lst (RT k.toNat xs).flatten))
theorem len_rep{α:Type}(xs:List α)(k:Nat):(RT k xs).flatten.length=k*xs.length:=by
 induction k with
 |zero=>simp
 |succ k ih=>rw[PC,QI,O5,ih,Nat.succ_mul,Nat.add_comm]
theorem LQ:Ñ X (Sw .Mult) NV:=by
 intro pins s B H x y v u Q I rx ry h;obtain⟨l,k,xs,rfl,rfl,hH,h1,h2,hz,q⟩:=h;cases rx;obtain⟨t,rfl⟩:=ry;obtain⟨z,Á,n,r,hl,e⟩:=I.C6 hH;have hlen:Á.toArray.size*k.toNat<=sizeLine:=by rw[O9,<-hl];exact hz
 have hcap:¬ Á.toArray.size*k.toNat>(2^63-1)/8:=by
  have:(sizeLine:Nat)<=(2^63-1)/8:=∅
  lia
 have hfit:¬ (!Builtin.List.listFitsIndex k)=true:=by
  rw[fitsIndex_both h1 h2];exact O3
 have ű:¬ Tj (Á.toArray.size*k.toNat)=true:=by
  rw[zd hlen];exact O3
 have Ϥ:Yq (λx1 x2=>x1++x2) #[] (RT (if Á.toArray.isEmpty=true then 0 else k.toNat) Á.toArray)=(RT k.toNat Á).flatten.toArray:=by
  have f0:∀m:Nat,Yq (λx1 x2=>x1++x2) #[] (RT m Á.toArray)=(RT m Á).flatten.toArray:=λm=>by
   have:=Za Á m [];rw[Qn]at this;exact this
  rw[f0];cases Á with
  |nil=>simp
  |cons a r'=>rw[if_neg (by simp)]
 refine wpAny_binaryOp_repeat_ref (T:="list") (U:="int") ∅ {_,e,rfl} (λs'=>Yp s' k t) noFill_list_mul F.fills_int_mul XY repeat_list F.slot_int_index.lookup
  (U1 XY (Yp s k t) F.entry_int_rmul (F.args_int_rmul_2 _ _) (int___rmul___int_list k t l Á.toArray n)
   {e,rfl,{_,e,rfl},U1 F.slot_list_mul {_,e,rfl} F.entry_list_mul (F.args_list_mul_2 _ _) (AutoListH.list___mul___list_int_3 l Á.toArray n k t hfit hcap ű) {e,?_}})
 rw[Ϥ];exact{.ref _,_,I.Lh (t':=s.toks) (r.rep k.toNat) (by rw[len_rep,Nat.mul_comm];exact hz),rfl,q _ I.fresh}
end
section
variable{prog:Program}{w:RS}{A:Sd}{E:RC->RF->Prop}{s:RF}
end
section
variable{X:Cx}
end
end L2
namespace Att
open PySem PySem.W PySem.Calls PyProof.Rows
theorem ra:∀(ns:List Int)(vs:List RC),WellAll P h vs (ns.map WData.int)->Va vs ns:=by
 intro ns;induction ns with
 |nil=>
  intro vs w;rw[Rj]at w;cases w;exact .nil
 |cons n ns ih=>
  intro vs w;rw[Pp]at w;cases w with
  |cons a b=>
   cases a;exact .cons _ _ (ih _ b)
theorem CV{l:OpenLaw}{n:Nat}(hn:l.most=YV n){P:S9}{h:R8}{args:List WData}{vals:List RC}
  (ϣ:l.row.toRowW.claim.pre args=true) (hwl:WellAll P h vals args) :
  ∃a vs ns,vals=[RM a]/\args=[WData.list (ns.map WData.int)]/\h.get? a=YV { cls:=.type "list",data:=.seq vs.toArray }/\Va vs ns/\ns.length<=n:=by
 have hsh:WShape.hasAll [] args [.list .int]=true:=(pre_splitW ϣ).1
 have hc:l.pre.holds [] { args:=args }=true:=(pre_splitW ϣ).2
 obtain⟨d,r,rfl,h1,h2⟩:=hasAllW_cons hsh
 obtain rfl:=hasAllW_nil h2
 obtain⟨xs,rfl,h3⟩:=hasW_list h1
 obtain⟨ns,rfl⟩:=items_int h3
 have hlen:ns.length<=n:=by
  unfold OpenLaw.pre at hc;have h4:(WTm.not (.lt (.lit (.int (n:Int))) (.len (.arg 0)))).holds [] { args:=[.list (ns.map .int)] }=true:=by
   have h4:=(holds_andW hc).1;rw[hn]at h4;exact h4
  have h5:=condW_of h4 (w_not (w_lt w_lit (w_len_list (w_arg rfl))));rw[OU]at h5;refine Nat.le_of_not_lt λq=>?_;have q':(n:Int)<((ns.length:Nat):Int):=()
  first
   | (rw[decide_eq_true q']at h5;exact absurd h5 ∅)
   | (simp at h5;lia)
 cases hwl with
 |cons w1 w2=>
  cases w2
  cases w1 with
  |list ho hall=>exact{_,_,ns,rfl,rfl,ho,ra ns _ hall,hlen}
theorem DB(l:OpenLaw)(args:List WData):l.row.toRowW.claim.post args (.bool true) args=true:=
 postW_of (r:=l.row.toRowW) (X:=(true==true))
  (show WShape.has [] (.bool true) .bool=true by first|rfl|decide|simp[WShape.has,WShape.arms,WShape.armsAll])
  (show(WTm.eq .res (.lit (.bool true))).value [] { args:=args,res:=YV (.bool true),after:=args }=YV (.bool (true==true))from w_eq_bool (w_res rfl) w_lit) rfl
theorem yI{l:OpenLaw}{n:Nat}{q:Program}{loose:List Str}{XP:(Str->Option RC)->R8->Prop}{YP:RS->R8->Prop}{d:DefRec}
  (hn:l.most=YV n) (hdf:d.params.defaults=[])
  (call:∀(w:RS)(s₀ s₁:RF)(mg mb:Str->Option RC)(fa:RB)(o:Obj)(pm cd doc:RC)(a:RB)(vs:List RC)(ns:List Int),
   Ground q loose [] XP w s₀ mg mb s₁.heap->YP w s₁.heap->
   s₁.heap.get? fa=YV o->o.data=.func (docDef d.name d.params d.body d.scope pm cd doc)->s₁.heap.CodeRec cd d.name->mg d.name=YV (.ref fa)->
   s₁.heap.get? a=YV { cls:=.type "list",data:=.seq vs.toArray }->Va vs ns->ns.length<=n->s₁.gens=#[]->
   codeAny (RK l.prog w) Wh (.call (.ref fa) {[.ref a],[]}) (λr s'=>r=.ok (.ret (.bool true))/\OldK s₁.heap s'.heap/\s'.os=s₁.os/\UN s'.gens) s₁) :
  WalkO q loose XP YP l.row.toRowW d [] (λf vs=>Yr f vs):=by
 intro w s₀ s₁ mg mb G Y fa o pm cd doc dV kV ho hd Į hD hmg hg args vals as ϣ hlay hrd hwl hlo
 obtain rfl:dV=.none:=Dflts.none hD hdf
 obtain rfl:kV=.none:=Dflts.noKw hD
 obtain⟨a,vs,ns,rfl,rfl,hobj,hints,hlen⟩:=CV hn ϣ hwl
 refine enter_call (Tf (call w s₀ s₁ mg mb fa o pm cd doc a vs ns G Y ho (fd_plain hd) Į hmg hobj hints hlen hg) λr s' hq=>?_)
 obtain⟨rfl,h2,h3,h4⟩:=hq
 exact{.inl {.bool true,.bool true,[],rfl,λ_=>rfl,.bool true,DB l _,λ_=>{List.Pairwise.nil,λ_ hm=>(nomatch hm)}},h2,h3,h4}
section
variable{prog:Program}{w:RS}{A:Sd}{E:RC->RF->Prop}{s:RF}{K:Frag}
end
end Att
namespace L2
open PySem PySem.Spec PyProof.Rows
theorem vT:∀{vs:List RC}{ns:List Int},Va vs ns->Y1 (ns.map V.int) vs:=by
 intro vs ns h;induction h with
 |nil=>exact .nil
 |cons n t _ ih=>exact .cons ⟨t,rfl⟩ ih
def LX(H:Hp):Prop:=∀b,H b=YW\/∃o xs,H b=YV (.ß o (.lst xs))
theorem EF{P:Program}{w:RS}{K:RG}{mg mb:Str->Option RC}{CX:Ŗ}{k:Nat}{fa a:RB}{fd:Te}{x:Str}{sp:Sp}{s₁:RF}{vs:List RC}{ns:List Int}
  (KX:K.In s₁.heap) (hns:s₁.heap.Ns RU mg) (hb:s₁.heap.Ns VC mb) (hbb:∀x:Str,x≠"__name__"->mb x=Tb x) (hlim:s₁.heap.NoLimit) (hg:s₁.gens=#[])
  (ha:s₁.heap.get? a=YV { cls:=.type "list",data:=.seq vs.toArray }) (hi:Va vs ns) (hl:ns.length<=sizeLine) (hr:cN k Wh)
  (F:∀base:R8,K.In base->base.Ns RU mg->hZ P w K mg base CX k fa fd [x] sp) (hbind:∀(s:RF)(u:RC),Wg s fd {[u],[]} [(x,u)])
  (ř:∀H:Hp,LX H->À K H a (ns.map V.int)->sp [.ref a] H (λv _=>v=.bl true) λ_ _ _=>False)
  (hCX:∀H e s',CX [] H s₁ (λ_ _ _=>False) e s'->False) :
  codeAny (RK P w) Wh (.call (.ref fa) {[.ref a],[]}) (λr s'=>r=.ok (.ret (.bool true))/\OldK s₁.heap s'.heap/\s'.os=s₁.os/\UN s'.gens) s₁:=by
 have rv:=vT hi
 have lenV:=hi.length
 have core:∀H:Hp,LX H->À K H a (ns.map V.int)->ó P w H s₁.heap->(∀b,H b≠YW->b=a)->(H a≠YW->K.lookup a=YW)->
   codeAny (RK P w) Wh (.call (.ref fa) {[.ref a],[]}) (λr s'=>r=.ok (.ret (.bool true))/\OldK s₁.heap s'.heap/\s'.os=s₁.os/\UN s'.gens) s₁:=by
  intro H hO hS Å hA hK
  have base_of:∀{b:RB}{o:Obj},s₁.heap.get? b=YV o->H b=YW->(vY s₁.heap H).get? b=YV o:=λe n=>Eh e n
  have noA:∀{b:RB}{o:Obj}{es:Array Xq}{ep:Nat},s₁.heap.get? b=YV o->o.data=.dict es ep->H b=YW:=λ{b o es ep} e d=>by
   cases q:H b with
   |none=>rfl
   |some u=>
    have e':b=a:=hA b (by rw[q];simp);subst e';rw[ha]at e;cases e;have d':Data.seq vs.toArray _=Data.dict es ep:=d;cases d'
  have nsK:∀{b:RB}{m:Str->Option RC},s₁.heap.Ns b m->(vY s₁.heap H).Ns b m:=λ{b m} ⟨o,es,ep,e,d,r⟩=>{o,es,ep,base_of e (noA e d),d,r}
  have hKb:K.In (vY s₁.heap H):=λb o e=>base_of (KX b o e) (by
   cases q:H b with
   |none=>rfl
   |some u=>
    have e':b=a:=hA b (by rw[q];simp);subst e';rw[hK (by rw[q];simp)]at e;cases e)
  have hM:Mod K mg (vY s₁.heap H):={hKb,nsK hns,⟨mb,nsK hb,hbb⟩,let ⟨mc,h1,h2⟩:=hlim;⟨mc,nsK h1,h2⟩}
  have e0:AK P w K mg (vY s₁.heap H) Wh [] s₁ H:={rfl,hM,λb o e=>Iy e,Ri (CF _ _),trivial,λb hb=>absurd (show b∈([]:List RB)from hb) (by simp),Å,.of_eq hg}
  refine Tf ((F _ hKb (nsK hns)).run Wh [] s₁ H {[.ref a],[]} [.ref a] [.ref a] _ _ hr e0 (hbind s₁ (.ref a)) (.cons rfl .nil) (ř H hO hS)) λr s' h=>?_
  cases r with
  |error e=>exact(hCX H e s' h).elim
  |ok fl=>
   cases fl with
   |next=>exact Sn h
   |brk=>exact Sn h
   |cont=>exact Sn h
   |ret u=>
    obtain⟨v,H',os,bare,un,hok',r',q⟩:=h
    have q':v=.bl true:=q
    subst q'
    obtain rfl:u=WI true:=r'
    refine{rfl,OldK.of_keep λb o e=>?_,os,bare}
    cases q:H b with
    |none=>exact un.keep b o e q (by intro z;exact absurd (show b∈([]:List RB)from z) (by simp)) (by simp)
    |some u=>
     rcases hO b with z|⟨ob,xs,z⟩
     ·rw[q]at z;cases z
     have z2:=un.qu b ob _ z
     obtain⟨e1,_⟩:=Å b _ z
     obtain⟨e2,_⟩:=hok' b _ z2
     rw[e]at e1;cases e1
     exact e2
 cases hk:K.lookup a with
 |some o=>
  have e:=KX a o hk
  rw[ha]at e
  cases e
  refine core (λ_=>YW) (λ_=>.inl rfl) (.inr {_,vs.toArray,_,hk,rfl,rfl,rfl,by rw[O9,lenV];exact hl,by simpa using rv}) (λb u z=>by have z':(YW:Option HO)=YV u:=z;cases z') (λb z=>absurd rfl z) λz=>absurd rfl z
 |none=>
  refine core (λb=>if b=a then YV (.ß { cls:=.type "list",data:=.seq vs.toArray } (.lst (ns.map V.int)))else YW) (λb=>?_) (.inl (.inr {{ cls:=.type "list",data:=.seq vs.toArray },if_pos rfl})) (λb u z=>?_) (λb z=>?_) λ_=>hk
  ·by_cases hb:b=a
   ·exact .inr {_,_,if_pos hb}
   exact .inl (if_neg hb)
  ·by_cases hb:b=a
   ·have z':=(if_pos hb).symm.trans z;cases z';subst hb;exact{ha,by rw[OU];exact hl,vs,_,rv,ha}
   have z':=(if_neg hb).symm.trans z;cases z'
  by_cases hb:b=a
  ·exact hb
  exact absurd (if_neg hb) z
theorem HQ{l:Xr}{n k:Nat}{q:Program}{loose:List Str}{XP:(Str->Option RC)->R8->Prop}{YP:RS->R8->Prop}{d:DefRec}{K:S9->RG}{CX:RS->Ŗ}{sp:RS->Sp}{x:Str}
  (hn:l.most=YV n) (hn2:n<=sizeLine) (hdf:d.params.defaults=[]) (hr:cN k Wh)
  (hY:∀(w:RS)(h:R8),YP w h->(K w.params).In h)
  (F:∀(w:RS)(mg:Str->Option RC)(fa:RB)(h:R8),(K w.params).In h->h.Ns RU mg->mg d.name=YV (.ref fa)->
   ∃fd:Te,(∀(s:RF)(u:RC),Wg s fd {[u],[]} [(x,u)])/\
    ∀base:R8,(K w.params).In base->base.Ns RU mg->hZ l.prog w (K w.params) mg base (CX w) k fa fd [x] (sp w))
  (ř:∀(w:RS)(H:Hp)(a:RB)(ns:List Int),ns.length<=n->LX H->À (K w.params) H a (ns.map V.int)->sp w [.ref a] H (λv _=>v=.bl true) λ_ _ _=>False)
  (hCX:∀(w:RS)(H:Hp)(s:RF)(e:RC)(s':RF),CX w [] H s (λ_ _ _=>False) e s'->False) :
  W.WalkO q loose XP YP l.row.toRowW d [] (λf vs=>Yr f vs):=by
 refine Att.yI hn hdf λw s₀ s₁ mg mb fa o pm cd doc a vs ns G Y ho hd Į hmg hobj hints hlen hg=>?_
 have KX:=hY w _ Y
 obtain⟨fd,hb,hF⟩:=F w mg fa _ KX G.T.g hmg
 exact EF KX G.T.g G.T.b G.T.builtins G.T.nolimit hg hobj hints (O6 hlen hn2) hr hF hb (λH hO hS=>ř w H a ns hlen hO hS) λH e s'=>hCX w H s₁ e s'
abbrev ġ:Ŗ:=λ_ _ _ _ _ _=>False
abbrev E0:XK:=λ_ _ _=>False
theorem sJ:Y5 ġ X E0:=λ_ _ _ _ _ _ _ h=>h.elim
structure Χ(K:RG)(x qual:Str)(st:RY)(f:RB)(fd:Te):Prop where
 ex:∃(oc:RC)(od:Option RB)(kV doc pm:RC)(an:Option RB)(Â ct:RC)(æ:Array (Option RC)),
  fd=SK x qual (bg st) (aU st) (aq st) .none kV doc pm an Â ct/\K.lookup f=YV ⟨oc,od,.func fd,æ⟩/\Ue K Â qual=true
 kp:SG K (.ref f)=true
section
variable{P:Program}{w:RS}{K:RG}{mg:Str->Option RC}{base:R8}
theorem Χ.ok{x qual:Str}{st:RY}{f:RB}{fd:Te}{N ps:List Str}{k:Nat}{sp:Sp}(F:Χ K x qual st f fd)(S:aw N ps (aq st))(len:∀vs H Q E,sp vs H Q E->vs.length=ps.length)
  (â:∀(Â:RC)(A:Sd)(outer:List Env)(s:RF)(H:Hp)(vs:List V)(Q:VK)(E:XK),cN k (A.deeper (Tw qual (aq st) s.heap.objs.size f Â))->sp vs H Q E->
   ∃t,ü (nG ġ P w K mg base N qual (aq st) f Â A outer s H E).ό (aU st) t/\t { nx:=λ_ H'=>Q .Ä H',rt:=Q } (Y4 N vs) H):hZ P w K mg base ġ (k+1) f fd ps sp:=by
 obtain⟨oc,od,kV,doc,pm,an,Â,ct,æ,rfl,lk,Į⟩:=F.ex
 refine DQ lk Į S len λA outer s H vs Q E hr ř=>?_
 obtain⟨t,h,q⟩:=â Â A outer s H vs Q E hr ř
 exact⟨t,h.ό,q⟩
theorem Χ.binds{x qual:Str}{st:RY}{f:RB}{fd:Te}{ps:List Str}(F:Χ K x qual st f fd)
  (h:∀(kV doc pm:RC)(an:Option RB)(Â ct:RC)(us:List RC),us.length=ps.length->bindArgs (SK x qual (bg st) (aU st) (aq st) .none kV doc pm an Â ct) {us,[]}=pure (ps.zip us)):Y3 K fd ps []:=by
 obtain⟨oc,od,kV,doc,pm,an,Â,ct,æ,rfl,lk,Į⟩:=F.ex
 exact .all (h kV doc pm an Â ct)
theorem qg{x qual:Str}{st:RY}{f:RB}{oc:RC}{od an:Option RB}{æ:Array (Option RC)}{kV doc pm Â ct:RC}(l:K.lookup f=YV {oc,od,.func (SK x qual (bg st) (aU st) (aq st) .none kV doc pm an Â ct),æ})
  (c:Ue K Â qual=true) (k:SG K (.ref f)=true):Χ K x qual st f (SK x qual (bg st) (aU st) (aq st) .none kV doc pm an Â ct):={⟨oc,od,kV,doc,pm,an,Â,ct,æ,rfl,l,c⟩,k}
end
theorem aG(h:n<=1000):n<sizeLine:=QV h ∅
section
variable{X:Cx}
end
theorem aV{A Ô:Prop}(h:Ô):if false=true then A else Ô:=by
 rw[if_neg O3];exact h
theorem bK{A Ô:Prop}(h:A):if true=true then A else Ô:=by
 rw[if_pos rfl];exact h
theorem bh{c A Ô:Prop}[Decidable c](h1:c->A)(h2:¬ c->Ô):if c then A else Ô:=by
 by_cases h:c
 ·rw[if_pos h];exact h1 h
 rw[if_neg h];exact h2 h
def ak(H H':Hp):Prop:=∀b o,H b=YV o->H' b=YV o
theorem ak.refl(H:Hp):ak H H:=λ_ _ h=>h
theorem ak.trans(a:ak H H1)(b:ak H1 H2):ak H H2:=λc o h=>b c o (a c o h)
theorem ak.free(e:ak H H')(h:H' l=SS):H l=SS:=by
 cases q:H l with
 |none=>rfl
 |some o=>
  rw[e l o q]at h;cases h
theorem ak.seq{K:RG}{H H':Hp}{a:RB}{xs:List V}(e:ak H H')(h:À K H a xs):À K H' a xs:=by
 rcases h with(h|⟨o,h⟩)|h
 ·exact .inl (.inl (e _ _ h))
 ·exact .inl (.inr {o,e _ _ h})
 exact .inr h
theorem qe{α β:Type}{l:List α}{f:α->β->Sem (ForInStep β)}(g:β->α->β)(c:β)(h:∀x∈l,∀c,f x c=pure (.yield (g c x))) :
  forIn l c f=pure (l.foldl g c):=by
 induction l generalizing c with
 |nil=>rfl
 |cons x l ih=>
  rw[List.forIn_cons,h x OX,pure_bind]
  exact ih _ λy hy=>h y (O2 _ hy)
def fD(env:Env)(cs:List (Str×RB))(x:Str×Tq):List (Str×RB):=
 if x.2== .free then(x.1,(env.cells.lookup x.1).getD 0)::cs else cs
def sW(env:Env)(names:List (Str×Tq)):List (Str×RB):=names.foldl (fD env) []
theorem qX(h:∀x∈scope.names,x.2=.free->∃c,env.cells.lookup x.1=YV c):closureFor scope env=pure (sW env scope.names):=by
 simp only[closureFor];rw[qe (fD env) [] (λx hx c=>by
  obtain⟨n,kind⟩:=x;cases hk:kind==SJ with
  |false=>simp only[fD,hk,PY,if_false]
  |true=>
   obtain⟨a,ha⟩:=h (n,kind) hx (by simpa using hk);have ϓ:env.cells.lookup n=YV a:=ha;simp only[fD,hk,if_true,cellOf,ϓ,Xy,pure_bind])]
 rfl
theorem uf:∀{names:List (Str×Tq)}{cs:List (Str×RB)}{n:Str}{c:RB},(n,c)∈names.foldl (fD env) cs->(n,c)∈cs\/((n,SJ)∈names/\c=(env.cells.lookup n).getD 0)
 | [],_,_,_,h=>.inl h
 | (m,k)::r,cs,n,c,h=>by
  rcases uf (names:=r) (cs:=fD env cs (m,k)) h with h|⟨h,e⟩
  ·unfold fD at h;by_cases hk:(k==SJ)=true
   ·rw[if_pos hk]at h;rcases O4.mp h with e|h
    ·cases e;have Ϧ:k=.free:=by simpa using hk
     subst Ϧ;exact .inr ⟨OX,rfl⟩
    exact .inl h
   rw[if_neg hk]at h;exact .inl h
  exact .inr {O2 _ h,e}
theorem vi:∀{names:List (Str×Tq)}{cs:List (Str×RB)},p∈cs->p∈names.foldl (fD env) cs
 | [],_,h=>h
 |x::r,cs,h=>vi (names:=r) (cs:=fD env cs x) (by
  unfold fD;split
  ·exact O2 _ h
  exact h)
theorem xy:∀{names:List (Str×Tq)}{cs:List (Str×RB)},(n,SJ)∈names->(n,(env.cells.lookup n).getD 0)∈names.foldl (fD env) cs
 |x::r,cs,h=>by
  rcases O4.mp h with e|h
  ·subst e;refine vi (names:=r) (cs:=fD env cs (n,.free)) ?_;unfold fD;rw[if_pos (by rfl)];exact OX
  exact xy (names:=r) h
theorem jR{α:Type}:∀{l:List (Str×α)}{n:Str}{c:α},(n,c)∈l->∃c',l.lookup n=YV c'
 | (k,v)::r,n,c,h=>by
  rw[Qq];cases hb:n==k with
  |true=>exact⟨v,rfl⟩
  |false=>
   rcases O4.mp h with e|h
   ·cases e;simp at hb
   exact jR h
theorem fU:∀{names:List (Str×Tq)}{k:Nat}{acc:List (Str×RB)}{n:Str}{c:RB},(n,c)∈Sv k names acc->(n,c)∈acc\/(k<=c/\(n,Sr)∈names)
 | [],_,_,_,_,h=>.inl h
 | (m,kd)::r,k,acc,n,c,h=>by
  unfold Sv at h;by_cases hk:(kd==Sr)=true
  ·rw[if_pos hk]at h;have Ϧ:kd=.cell:=by simpa using hk
   subst Ϧ;rcases fU (names:=r) h with h|⟨h1,h2⟩
   ·rcases O4.mp h with e|h
    ·cases e;exact .inr {OW _,OX}
    exact .inl h
   exact .inr {(),O2 _ h2}
  rw[if_neg hk]at h;rcases fU (names:=r) h with h|⟨h1,h2⟩
  ·exact .inl h
  exact .inr {h1,O2 _ h2}
theorem jx:∀{names:List (Str×Tq)}{k:Nat}{acc:List (Str×RB)},(∀n c,(n,c)∈acc->c<k)->(∀n n' c,(n,c)∈acc->(n',c)∈acc->n=n')->
  ∀{n n':Str}{c:RB},(n,c)∈Sv k names acc->(n',c)∈Sv k names acc->n=n'
 | [],_,_,_,hi,_,_,_,h,h'=>hi _ _ _ h h'
 | (m,kd)::r,k,acc,hl,hi,n,n',c,h,h'=>by
  unfold Sv at h h';by_cases hk:(kd==Sr)=true
  ·rw[if_pos hk]at h h';refine jx (names:=r) (acc:=(m,k)::acc) (λa b hab=>?_) (λa a' b ha ϓ=>?_) h h'
   ·rcases O4.mp hab with e|e
    ·cases e;exact QN _
    exact Qc (hl _ _ e)
   rcases O4.mp ha with e|e<;>rcases O4.mp ϓ with e'|e'
   ·cases e;cases e';rfl
   ·cases e;exact absurd (hl _ _ e') (PU _)
   ·cases e';exact absurd (hl _ _ e) (PU _)
   exact hi _ _ _ e e'
  rw[if_neg hk]at h h';exact jx (names:=r) hl hi h h'
theorem ir:∀{names:List (Str×Tq)}{h:R8}{acc:List (Str×RB)}{n:Str}{c:RB},(n,c)∈Sv h.objs.size names acc->(n,c)∈acc\/(Uv h names).IsCell c YW
 | [],_,_,_,_,q=>.inl q
 | (m,kd)::r,h,acc,n,c,q=>by
  unfold Sv at q;unfold Uv;by_cases hk:(kd==Sr)=true
  ·rw[if_pos hk]at q;rw[if_pos hk];have e:h.objs.size+1=(h.push { cls:=.type "cell",data:=.cell YW }).objs.size:=(SR ..).symm;rw[e]at q;rcases ir (names:=r) q with q|q
   ·rcases O4.mp q with e'|q
    ·cases e';exact .inr {_,TZ r _ _ _ (RL _ rfl),rfl}
    exact .inl q
   exact .inr q
  rw[if_neg hk]at q;rw[if_neg hk];exact ir (names:=r) q
theorem jV:∀{names:List (Str×Tq)}{k:Nat}{acc:List (Str×RB)},(x,Sr)∉names->(Sv k names acc).lookup x=acc.lookup x
 | [],_,_,_=>rfl
 | (m,kd)::r,k,acc,h=>by
  unfold Sv;have hr:(x,Sr)∉r:=λz=>h (O2 _ z);by_cases hk:(kd==Sr)=true
  ·have Ϧ:kd=.cell:=by simpa using hk
   subst Ϧ;rw[if_pos hk,jV hr,Qq];have ne:(x==m)=false:=by
    cases hb:x==m with
    |false=>rfl
    |true=>exact absurd (by rw[beq_iff_eq.mp hb];exact OX) h
   rw[ne]
  rw[if_neg hk];exact jV hr
section
variable{M:Model}{A:Sd}{E:RC->RF->Prop}{s:RF}
theorem yW
  (h:Q (newEnv scope s.heap.objs.size globals (Sv (s.heap.objs.size+1) scope.names cl) qual YW .none (YV Dg) VC) { s with heap:=Uv (s.heap.push { cls:=.type "dict",data:=.dict #[] }) scope.names }) :
  wpAny M A (Ys scope globals cl [] qual YW .none (YV Dg)) Q E s:=by
 simp only[Ys,Rb,if_true]
 refine RA (wpAny_alloc ?_)
 refine RA (wpAny_layCells _ (λname kind cells=>by cases hkc:kind==Sr<;>simp[hkc]) _ _ _ _ ?_)
 rw[show({ s with heap:=s.heap.push { cls:=.type "dict",data:=.dict #[] } }:RF).heap.objs.size=s.heap.objs.size+1 from SR ..]
 refine RA ?_
 rw[List.forIn_nil]
 exact RD (RD h)
end
structure CB where
 C:RB
 ex:List RB
 s:RF
 H:Hp
def ā(X:Cx)(N:List Str)(scope:UT)(b:CB):Cx:={ X with
 N:=N
 s₀:=b.s
 H₀:=b.H
 env:=compEnvC scope (Sv (b.C+1) scope.names (sW X.env scope.names)) b.C X.env
 outer:=X.stack
 ex:=b.ex
 fn:=λx=>scope.names.lookup x==YV .cell
 pn:=[]
 xe:=λ_ _=>False }
theorem mR{env:Env}{x:Str}:∀{names:List (Str×Tq)},
  (names.map λ(n,k)=>if(k==SJ&&env.scope.kind== .function&&env.kindOf n==YV .cell)then(n,Sr)else(n,k)).lookup x=
   (names.lookup x).map λk=>if(k==SJ&&env.scope.kind== .function&&env.kindOf x==YV .cell)then Sr else k
 | []=>rfl
 | (n,k)::r=>by
  have ih:=@mR env x r;show S5 x ((if(k==SJ&&env.scope.kind== .function&&env.kindOf n==YV .cell)=true then(n,Sr)else(n,k))::_)=_;cases hx:x==n with
  |true=>
   have e:x=n:=beq_iff_eq.mp hx;subst e;by_cases hc:(k==SJ&&env.scope.kind== .function&&env.kindOf x==YV .cell)=true
   ·rw[if_pos hc];simp only[Qq,hx,Qe,hc,if_true]
   rw[if_neg hc];simp only[Qq,hx,Qe];rw[if_neg hc]
  |false=>
   by_cases hc:(k==SJ&&env.scope.kind== .function&&env.kindOf n==YV .cell)=true
   ·rw[if_pos hc];simp only[Qq,hx];exact ih
   rw[if_neg hc];simp only[Qq,hx];exact ih
structure bI(psc:UT)(PN N:List Str)(own:Nat)(fr:List Nat)(scope:UT):Prop where
 kind:scope.kind=.function
 nd:(scope.names.map (·.1)).Nodup
 free:∀x∈scope.names,x.2=.free->psc.names.lookup x.1=YV .cell\/psc.names.lookup x.1=YV .free
 len:N.length=own+fr.length
 frn:∀i,i<fr.length->N[own+i]?=(fr[i]?).bind λj=>PN[j]?
 frk:∀i,i<fr.length->∀y,N[own+i]?=YV y->scope.names.lookup y=YV .free
def Bg(psc:UT)(PN N:List Str)(own:Nat)(fr:List Nat)(scope:UT):Bool:=
 scope.kind== .function&&decide (scope.names.map (·.1)).Nodup&&scope.names.all (λx=>x.2 != .free||(psc.names.lookup x.1==YV .cell||psc.names.lookup x.1==YV .free))&&
  (N.length==own+fr.length)&&((fr.map λj=>PN[j]?)==(N.drop own).map YV)&&(N.drop own).all (λy=>scope.names.lookup y==YV .free)
theorem bI.of(h:Bg psc PN N own fr scope=true):bI psc PN N own fr scope:=by
 unfold Bg at h;simp only[QP]at h;obtain⟨⟨⟨⟨⟨h1,h2⟩,h3⟩,h4⟩,h5⟩,h6⟩:=h;have h4':N.length=own+fr.length:=eq_of_beq h4;have h5':(fr.map λj=>PN[j]?)=(N.drop own).map YV:=eq_of_beq h5;have dr:∀i,N[own+i]?=(N.drop own)[i]?:=λi=>by rw[List.getElem?_drop]
 refine{eq_of_beq h1,of_decide_eq_true h2,λx hx hk=>?_,h4',λi hi=>?_,λi hi y hy=>?_}
 ·have q:=Qr.mp h3 x hx;rw[hk]at q;simpa using q
 ·have q:=congrArg (λl=>l[i]?) h5';simp only[O7]at q;rw[dr];have ej:fr[i]?=YV fr[i]:=OV hi;rw[ej]at q⊢;cases e:(N.drop own)[i]? with
  |none=>rw[e]at q;cases q
  |some y=>
   rw[e]at q;exact(RQ q).symm
 rw[dr]at hy;have q:=Qr.mp h6 y (OY hy);simpa using q
def Ρ(own:Nat)(fr:List Nat)(B:St):St:=RT own YW++fr.map λj=>(B[j]?).getD YW
theorem gO{α:Type}:∀{l:List (Str×α)}{n:Str}{k:α},(l.map (·.1)).Nodup->(n,k)∈l->l.lookup n=YV k
 | (m,v)::r,n,k,nd,h=>by
  rw[Pp,PK]at nd;rw[Qq];rcases O4.mp h with e|h
  ·cases e;simp
  have ne:(n==m)=false:=by
   cases hb:n==m with
   |false=>rfl
   |true=>exact absurd (Pj.mpr {(n,k),h,beq_iff_eq.mp hb}) nd.1
  rw[ne];exact gO nd.2 h
section
variable{X:Cx}{pins:List (RB×Obj)}{B:St}{H:Hp}{s:RF}{N:List Str}{own:Nat}{fr:List Nat}{scope:UT}
theorem bI.cells(S:bI X.env.scope X.N N own fr scope)(ok:X.Ok):∀x∈scope.names,x.2=.free->∃c,X.env.cells.lookup x.1=YV c:=λx hx hk=>
 ok.has x.1 (S.free x hx hk)
theorem bI.cl(S:bI X.env.scope X.N N own fr scope)(ok:X.Ok)(h:(n,c)∈sW X.env scope.names):X.env.cells.lookup n=YV c:=by
 rcases uf h with h|⟨h,e⟩
 ·cases h
 obtain⟨c',e'⟩:=S.cells ok (n,.free) h rfl;have e2:X.env.cells.lookup n=YV c':=e';rw[e2]at e;rw[e,e2];rfl
theorem FG(S:bI X.env.scope X.N N own fr scope)(I:Inv X pins B H s)(hD:D=s.heap.objs.size)(hC:C=s.heap.objs.size+1)
  (hh:h'=Uv ((s.heap.push { cls:=.type "list",data:=.seq #[] }).push { cls:=.type "dict",data:=.dict #[] }) scope.names) (hfp:∀b∈fp,sD X pins H b) (Û:∀b∈fp,b<s.heap.objs.size) :
  Inv (ā X N scope ⟨C,fp,s,H⟩) [] (Ρ own fr B) (upd H D (.lst [])) { s with heap:=h' }:=by
 subst hD hC
 have eD:(s.heap.push { cls:=.type "list",data:=.seq #[] }).objs.size=s.heap.objs.size+1:=SR ..
 have eC:((s.heap.push { cls:=.type "list",data:=.seq #[] }).push { cls:=.type "dict",data:=.dict #[] }).objs.size=s.heap.objs.size+2:=by rw[SR,eD]
 have keep:∀b o,s.heap.get? b=YV o->h'.get? b=YV o:=λb o e=>by
  rw[hh];exact TZ _ _ _ _ (RE _ (RE _ e))
 have lst:h'.get? s.heap.objs.size=YV { cls:=.type "list",data:=.seq #[] }:=by
  rw[hh];exact TZ _ _ _ _ (RE _ (RL _ rfl))
 have dct:h'.get? (s.heap.objs.size+1)=YV { cls:=.type "dict",data:=.dict #[] }:=by
  rw[hh];refine TZ _ _ _ _ ?_;have:=RL (s.heap.push { cls:=.type "list",data:=.seq #[] }) (o:={ cls:=.type "dict",data:=.dict #[] }) rfl;rw[eD]at this;exact this
 have hnD:H s.heap.objs.size=YW:=I.Å.fresh (OW _)
 have hnC:H (s.heap.objs.size+1)=YW:=I.Å.fresh (Qb _)
 have ŏ:∀{n:Str}{c:RB},(n,c)∈sW X.env scope.names->X.env.cells.lookup n=YV c:=λh=>S.cl I.ok h
 have clt:∀{n:Str}{c:RB},X.env.cells.lookup n=YV c->c<s.heap.objs.size:=λh=>by
  obtain⟨v,z⟩:=I.cell _ _ h;exact z.lt
 have cases_:∀{n:Str}{c:RB},(Sv (s.heap.objs.size+1+1) scope.names (sW X.env scope.names)).lookup n=YV c->X.env.cells.lookup n=YV c\/(s.heap.objs.size+2<=c/\(n,Sr)∈scope.names/\h'.IsCell c YW):=λ{n c} h=>by
  have hm:=R5 h;have ö:=hm;rw[show s.heap.objs.size+1+1=((s.heap.push { cls:=.type "list",data:=.seq #[] }).push { cls:=.type "dict",data:=.dict #[] }).objs.size from eC.symm]at ö;rcases fU hm with h1|⟨h1,h2⟩
  ·exact .inl (ŏ h1)
  rcases ir ö with h3|h3
  ·exact .inl (ŏ h3)
  exact .inr {h1,h2,by rw[hh];exact h3}
 have kindOf:∀x,(ā X N scope {s.heap.objs.size+1,fp,s,H}).env.kindOf x=(scope.names.lookup x).map λk=>if(k==SJ&&X.env.scope.kind== .function&&X.env.kindOf x==YV .cell)then Sr else k:=λx=>mR
 have ϩ:∀x,((ā X N scope {s.heap.objs.size+1,fp,s,H}).env.kindOf x=YV .cell\/(ā X N scope {s.heap.objs.size+1,fp,s,H}).env.kindOf x=YV .free)->∃c,(Sv (s.heap.objs.size+1+1) scope.names (sW X.env scope.names)).lookup x=YV c:=λx hx=>by
  rw[kindOf]at hx;have h2:scope.names.lookup x=YV .cell\/scope.names.lookup x=YV .free:=by
   cases e:scope.names.lookup x with
   |none=>rw[e]at hx;rcases hx with z|z<;>cases z
   |some k=>
    rw[e]at hx;by_cases hk:k=.free
    ·exact .inr (by rw[hk])
    have Ϧ:(k==SJ)=false:=by simpa using hk
    simp only[Qe,Ϧ,Rn,PY,if_false]at hx;rcases hx with z|z
    ·exact .inl z
    exact .inr z
  rcases h2 with h2|h2
  ·exact Qw.mp (Ut scope.names _ _ (.inl h2))
  obtain⟨c,hc⟩:=jR (xy (env:=X.env) (cs:=[]) (R5 h2));exact Qw.mp (Ut scope.names _ _ (.inr (by rw[show(sW X.env scope.names).lookup x=YV c from hc];rfl)))
 have cellAt:∀x c,(Sv (s.heap.objs.size+1+1) scope.names (sW X.env scope.names)).lookup x=YV c->∃v,h'.IsCell c v:=λx c e=>by
  rcases cases_ e with q|⟨_,_,q⟩
  ·obtain⟨v,o,ho,hd⟩:=I.cell x c q;exact⟨v,o,keep c o ho,hd⟩
  exact⟨YW,q⟩
 refine⟨{I.ok.mod,S.kind,I.ok.glob,I.ok.blt,Qb _,λy z c h1 h2=>?_,ϩ,λy c hy h=>?_,I.ok.hd,I.ok.frames,.inl rfl,λb hb=>{?_,λx c e z=>?_},λb o e=>I.bs b o e,O6 I.ok.ŝ I.sz,λb o e hb=>?_,λb hb hf=>?_,I.stack,I.wX},
  rfl,I.bare,?_,{λ_=>YW,{_,#[],_,dct,rfl,λe he=>absurd he (by simp),λ_=>rfl},λi x v h1 h2 h3=>?_},cellAt,?_,λx c e=>?_,λp hp=>absurd (show p∈([]:List (RB×Obj))from hp) (by simp),?_,?_⟩
 ·
  refine jx (λn c hm=>?_) (λn n' c hm hm'=>I.ok.inj n n' c (ŏ hm) (ŏ hm')) (R5 h1) (R5 h2);exact Qc (Qc (clt (ŏ hm)))
 ·
  have hy':scope.names.lookup y=YV .cell:=by simpa using (show(scope.names.lookup y==YV .cell)=true from hy)
  rcases cases_ h with q|⟨q,_⟩
  ·rcases fU (R5 h)with q2|⟨q2,_⟩
   ·rcases uf q2 with z|⟨z,_⟩
    ·cases z
    have:=gO S.nd z;rw[hy']at this;cases this
   exact O6 (Qi _ 2) q2
  exact O6 (Qi _ 2) q
 ·exact Ph (Qc (Û b hb))
 ·rcases cases_ e with q|⟨q,_⟩
  ·exact(hfp b hb).2.2.2.2.1 x c q z
  have hb':=Û b hb;rw[<-z]at hb';exact absurd (Pd hb' (O6 (Qi _ 2) q)) (PU _)
 ·rcases(hfp b hb).2.2.2.1 with z|z
  ·exact I.ok.yp b o e z
  exact PU _ (Pd (RH e) (O6 I.ok.ŝ z))
 ·rcases O4.mp (I.AL b hf)with z|z
  ·exact(hfp b hb).2.1 z
  exact(hfp b hb).2.2.1 z
 ·exact Un.laid keep (OW _) hnD
 ·
  have h1:N[i]?=YV x:=h1;have hlen:i<N.length:=(O8.mp h1).1;by_cases hi:i<own
  ·exfalso;have ϕ:(Ρ own fr B)[i]?=YV YW:=by
    unfold Ρ;rw[Qm (by simpa using hi),Vr,if_pos hi]
   rw[ϕ]at h2;cases h2
  have hfi:i-own<fr.length:=by have:=S.len;lia
  have ei:own+(i-own)=i:=()
  have hk:=S.frk (i-own) hfi x (by rw[ei];exact h1);have hn:=S.frn (i-own) hfi;rw[ei,h1]at hn;have ej:fr[i-own]?=YV fr[i-own]:=OV hfi;rw[ej]at hn;have ϥ:X.N[fr[i-own]]?=YV x:=hn.symm;have ϕ:(Ρ own fr B)[i]?=YV ((B[fr[i-own]]?).getD YW):=by
   unfold Ρ;rw[Qh (by simpa using Nat.not_lt.mp hi),P7,O7,ej];rfl
  rw[ϕ]at h2;have ϫ:(B[fr[i-own]]?).getD YW=YV v:=RQ h2;have hσ:B[fr[i-own]]?=YV (YV v):=by
   cases e:B[fr[i-own]]? with
   |none=>rw[e]at ϫ;cases ϫ
   |some w=>rw[e]at ϫ;exact congrArg YV ϫ
  obtain⟨m,hm,hl⟩:=I.loc;have ĩ:=S.free (x,.free) (R5 hk) rfl;obtain⟨u,r,l⟩:=hl _ x v ϥ hσ (ĩ.elim (λz=>.inr (.inl z)) λz=>.inr (.inr z));refine{u,r,.inr ?_};have ö:∃c,X.env.cells.lookup x=YV c/\s.heap.IsCell c (YV u):=by
   rcases l with⟨l,_⟩|⟨_,c,e,z⟩
   ·exfalso;rcases ĩ with z|z
    ·have l':X.env.scope.names.lookup x=YV .local:=l
     have z':X.env.scope.names.lookup x=YV .cell:=z;rw[l']at z';cases z'
    have l':X.env.scope.names.lookup x=YV .local:=l
    have z':X.env.scope.names.lookup x=YV .free:=z;rw[l']at z';cases z'
   exact⟨c,e,z⟩
  obtain⟨c,e,o,ho,hd⟩:=ö;refine{?_,c,?_,o,keep c o ho,hd}
  ·rw[kindOf,hk];by_cases z:(X.env.scope.kind== .function&&X.env.kindOf x==YV .cell)=true
   ·left
    simp only[Qe,beq_self_eq_true,Rp,z,if_true]
   right
   simp only[Qe,beq_self_eq_true,Rp];rw[if_neg z]
  show(Sv (s.heap.objs.size+1+1) scope.names (sW X.env scope.names)).lookup x=YV c;rw[jV λz=>by
   have:=gO S.nd z;rw[hk]at this;cases this]
  obtain⟨c',hc'⟩:=jR (xy (env:=X.env) (cs:=[]) (R5 hk));have hc2:(sW X.env scope.names).lookup x=YV c':=hc';rw[hc2];have:=ŏ (R5 hc2);rw[e]at this;exact this.symm
 ·show upd H s.heap.objs.size (.lst []) (s.heap.objs.size+1)=YW;rw[ay (P8 (QN _))];exact hnC
 ·rcases cases_ e with q|⟨q,_⟩
  ·have:=clt q;rw[ay (Ph this)];exact I.fu x c q
  rw[ay (P8 (Pd (Nat.lt_add_of_pos_right ∅) q))];exact I.Å.fresh (O6 (Qi _ 2) q)
 ·exact I.Å.laid keep (OW _) {Pc _,[],0,.nil,lst}
 show(Ρ own fr B).length=N.length
 unfold Ρ
 rw[O5,P7,OU,S.len]
end
def PF(X:Cx)(ifs:List Expr)(t:TT):Prop:=
 ∀(pins:List (RB×Obj))(s:RF)(B:St)(H:Hp)(Q:Bool->Hp->Prop),Inv X pins B H s->t B H Q->
  wpAny (RK X.prog X.w) X.A (forIn ifs true λc r=>if r=true then do let ok<-isTrue c X.env (Sj c X.env);pure (UJ ok)else pure (UJ r)) (TP X pins B Q) X.xe s
def Mp:TT:=λ_ H Q=>Q true H
theorem iR:PF X [] Mp:=λ_ _ _ H _ I h=>wpAny_tests_nil ⟨H,I,h⟩
theorem oK(h:PT X c t):PF X [c] t:=λpins s B H Q I hw=>wpAny_tests_one (h pins s B H Q I hw)
theorem xm(I:Nat->RF->Prop)
  (turn:∀n s,I n s->wpAny (RK prog w) A (V2 it) (λr s₁=>match r with
   |none=>R (.ok .next) s₁
   |some v=>wpAny (RK prog w) A (UI target it v) (λ_ s₁'=>wpAny (RK prog w) A (assign target env v) (λ_ s₂=>
     wpAny (RK prog w) A (forIn ifs true λc r=>if r=true then do let ok<-isTrue c env (Sj c env);pure (UJ ok)else pure (UJ r)) (λok s₃=>
      if ok=true then wpAny (RK prog w) A (Sj elt env) (λx s₄=>
       wpAny (RK prog w) A (call (.builtin "list.append") [acc,x]) (λ_ s₅=>∃m,m<n/\I m s₅) (λ_ _=>False) s₄) (λ_ _=>False) s₃
      else ∃m,m<n/\I m s₃) (λ_ _=>False) s₂) (λ_ _=>False) s₁') (λ_ _=>False) s₁) (λ_ _=>False) s)
  (n:Nat) (h:I n s) :
  codeAny (RK prog w) A (.compLoop (.ListComp elt [⟨target,iter,ifs,0⟩] scope pos) 0 it acc env) R s:=by
 refine codeAny_loop rfl I (λn s hI=>?_) n h
 show wpAny _ A ((compTurn (.ListComp elt [⟨target,iter,ifs,0⟩] scope pos) 0 it acc env).onRaise (λx=>do UR x env;theTreesLotGoes x)) _ _ s
 refine wpAny_noted ?_
 rw[compTurn_list]
 have no:∀{α:Type}{t:Sem α}{Q:α->RF->Prop}{E':RC->RF->Prop}{s':RF},wpAny (RK prog w) A t Q (λ_ _=>False) s'->wpAny (RK prog w) A t Q E' s':=λh=>Sz h (λ_ _ q=>q) λ_ _ z=>z.elim
 refine RA (Ux (RA (no (Sz (turn n s hI) (λr s₁ h₁=>?_) λ_ _ h'=>h'))))
 cases r with
 |none=>exact RD h₁
 |some v=>
  refine RA (no (Sz h₁ (λ_ s₁' h₁'=>?_) λ_ _ h'=>h'))
  refine RA (no (Sz h₁' (λ_ s₂ h₂=>RA (no (Sz h₂ (λok s₃ h₃=>?_) λ_ _ h'=>h'))) λ_ _ h'=>h'))
  cases ok with
  |false=>exact RD ⟨rfl,h₃⟩
  |true=>
   exact RA (RA (no (Sz h₃ (λx s₄ h₄=>RA (no (Sz h₄ (λ_ s₅ h₅=>RD (RD ⟨rfl,h₅⟩)) λ_ _ h'=>h'))) λ_ _ h'=>h')))
structure qG(J:It)(own:Nat)(fr:List Nat)(g:CB->TG)(tf:CB->TT)(te:CB->TE)(Q:VK)(B:St)(H1:Hp):Prop where
 go:∀(b:CB)(D:RB),H1 D=YW->∃W:Nat->Nat->St->Hp->Prop,(∃m,W 0 m (Ρ own fr B) (upd H1 D (.lst [])))/\∀i m B' H',W i m B' H'->
  (J.stop i H'/\Q (.ref D) H')\/(J.go i H'/\∃M:St->Hp->Prop,(∀σ2 H2,M σ2 H2->∃m',m'<m/\W (i+1) m' σ2 H2)/\∀x H2,J.ń i H' x H2->g b x B' H2 λσ3 H3=>tf b σ3 H3 λk H4=>
   if k=true then te b σ3 H4 λy H5=>∃ys,H5 D=YV (.lst ys)/\ys.length<sizeLine/\M σ3 (upd H5 D (.lst (ys++[y])))else M σ3 H4)
def F0(wi:TI)(own:Nat)(fr:List Nat)(g:CB->TG)(tf:CB->TT)(te:CB->TE):TE:=λB H Q=>wi B H λJ H1=>qG J own fr g tf te Q B H1
section
variable{X:Cx}{tg iter elt:Expr}{ifs:List Expr}{scope:UT}{pos:Pos}{N:List Str}{own:Nat}{fr:List Nat}{wi:TI}{g:CB->TG}{tf:CB->TT}{te:CB->TE}
theorem zy(S:bI X.env.scope X.N N own fr scope)(hc:X.calm=true)(hi:PI X tg iter wi)
  (hg:∀b,PG (ā X N scope b) tg (g b)) (hf:∀b,PF (ā X N scope b) ifs (tf b)) (he:∀b,PE (ā X N scope b) elt (te b)) (hs:∀x,foldedSetIterable iter X.env x=pure x) (I:Inv X pins B H s) (h:F0 wi own fr g tf te B H Q)
  (fin:∀(D C:RB)(oC:Obj)(m:Str->Option RC)(H':Hp)(s':RF),Inv X (pins++[(C,oC)]) B H' s'->X.s₀.heap.objs.size<=C->(∀p∈X.pn++pins,p.1≠C)->(∀h':R8,h'.get? C=YV oC->h'.Ns C m)->Q (.ref D) H'->Yt (RK X.prog X.w) X.A X.xe use R (.ref D) C (.ok .next) s') :
  wpAny (RK X.prog X.w) X.A (comprehension (.ListComp elt [⟨tg,iter,ifs,0⟩] scope pos) scope X.env (firstIterPos [⟨tg,iter,ifs,0⟩] pos) (newList []) false (Sj iter X.env) use) R X.xe s:=by
 refine wpAny_comprehension_free rfl hs (qX (S.cells I.ok)) S.kind (λx hx hk=>?_) (È (hi pins s B H _ I h) λv s1 h1=>È h1 λitv s2 h2=>?_)
 ·have:=gO S.nd (show(x.1,x.2)∈scope.names from hx);rw[this,hk]
 obtain⟨it,fp,tn,J,H2,e,I2,T,st2,f2,q⟩:=h2
 subst e
 refine R7 ?_
 refine yW ?_
 have eD:(s2.heap.push { cls:=.type "list",data:=.seq #[] }).objs.size=s2.heap.objs.size+1:=SR ..
 have hD:H2 s2.heap.objs.size=YW:=I2.Å.fresh (OW _)
 have Û:∀b∈fp,b<s2.heap.objs.size:=λb hb=>by
  obtain⟨o,ho,_⟩:=T.obj 0 _ st2 b hb;exact RH ho
 obtain⟨W,⟨m0,w0⟩,turn⟩:=q.go {s2.heap.objs.size+1,fp,s2,H2} s2.heap.objs.size hD
 have IX:=FG (fp:=fp) S I2 rfl rfl rfl f2 Û
 have st4:tn 0 (Uv ((s2.heap.push { cls:=.type "list",data:=.seq #[] }).push { cls:=.type "dict",data:=.dict #[] }) scope.names):=
  T.keep 0 _ _ st2 λb _ o e=>TZ _ _ _ _ (RE _ (RE _ e))
 have fr0:∀b∈fp,upd H2 s2.heap.objs.size (.lst []) b=YW:=λb hb=>by
  rw[ay (Ph (Û b hb))];exact(f2 b hb).1
 have ź:∀b∈fp,∀x c,(ā X N scope {s2.heap.objs.size+1,fp,s2,H2}).env.cells.lookup x=YV c->c≠b:=λb hb=>((IX.ok.exf b hb).2)
 have ĳ:∀{H':Hp},(∀b∈fp,H' b=YW)->∀b∈fp,sD (ā X N scope {s2.heap.objs.size+1,fp,s2,H2}) [] H' b:=λhn b hb=>
  {hn b hb,(IX.ok.exf b hb).1,IX.ok.yt b hb,.inl hb,ź b hb,λp hp=>absurd (show p∈([]:List (RB×Obj))from hp) (by simp)}
 have e4:∀ϱ:Env,ϱ=newEnv scope (s2.heap.push { cls:=.type "list",data:=.seq #[] }).objs.size X.env.globals (Sv ((s2.heap.push { cls:=.type "list",data:=.seq #[] }).objs.size+1) scope.names (sW X.env scope.names)) X.env.qual YW .none (YV X.env) VC->
   ({ ϱ with scope:=relabel scope X.env }:Env)=(ā X N scope ⟨s2.heap.objs.size+1,fp,s2,H2⟩).env/\ϱ.locals=s2.heap.objs.size+1:=λϱ e=>by
  subst e
  rw[eD]
  exact⟨rfl,rfl⟩
 obtain⟨e5,e6⟩:=e4 _ rfl
 have loop:codeAny (RK X.prog X.w) X.A (.compLoop (.ListComp elt [⟨tg,iter,ifs,0⟩] scope pos) 0 (.ref it) (.ref s2.heap.objs.size) (ā X N scope {s2.heap.objs.size+1,fp,s2,H2}).env)
   (Yt (RK X.prog X.w) X.A X.xe use R (.ref s2.heap.objs.size) (s2.heap.objs.size+1)) { s2 with heap:=Uv ((s2.heap.push { cls:=.type "list",data:=.seq #[] }).push { cls:=.type "dict",data:=.dict #[] }) scope.names }:=by
  refine xm (λn s'=>∃i B' H',Inv (ā X N scope {s2.heap.objs.size+1,fp,s2,H2}) [] B' H' s'/\tn i s'.heap/\(∀b∈fp,H' b=YW)/\W i n B' H') ?_ m0 {0,_,_,IX,st4,fr0,w0}
  rintro n s5 ⟨i,σ5,H5,I5,ą,fr5,w5⟩
  rcases turn i n σ5 H5 w5 with⟨stop,qn⟩|⟨go,M,hM,step⟩
  ·refine È (T.done (ā X N scope {s2.heap.objs.size+1,fp,s2,H2}) rfl rfl rfl hc i [] s5 σ5 H5 (λ_ _=>False) I5 (ĳ fr5) ą stop) λr s6 z9=>?_;obtain⟨hr,I6⟩:=z9;subst hr;obtain⟨m,hn,_⟩:=I6.loc;obtain⟨oC,es,ep,hoC,hd,hk,hm⟩:=id hn;have IB:Inv X pins B H5 s6:=I2.IS (ch:=fp) I6.os I6.base I6.Å I6.bare λb hb=>{(f2 b hb).2.2.2.1,(f2 b hb).2.1,(f2 b hb).2.2.2.2.1,(f2 b hb).2.2.2.2.2};have young:s2.heap.objs.size<=s2.heap.objs.size+1:=Qb _;refine fin s2.heap.objs.size (s2.heap.objs.size+1) oC m H5 s6 (IB.wd λp hp=>?_) (O6 I2.sz young) (λp hp=>Ph (Pd (RH (I2.pin p hp).1) young)) (λh' e=>⟨oC,es,ep,e,hd,hk,hm⟩) qn;rcases Pa.mp hp with z|z
   ·exact IB.pin p (Pb _ z)
   have ŵ:p=(s2.heap.objs.size+1,oC):=by simpa using z
   subst ŵ;exact{hoC,I6.free,P8 (Pd I2.lt young),I2.Nl young,λv z=>by rw[hd]at z;cases z}
  refine È (T.item (ā X N scope {s2.heap.objs.size+1,fp,s2,H2}) rfl rfl rfl hc i [] s5 σ5 H5 (λ_ _=>False) I5 (ĳ fr5) ą go) λr s6 z9=>?_;obtain⟨u,hr,h6⟩:=z9
  subst hr
  refine È h6 λ_ s7 z9=>?_;obtain⟨x,H7,I7,r7,y7,Ĵ,fr7⟩:=z9
  have I7':=I7.pinned (ĳ fr7) (T.obj _ _ Ĵ)
  refine È (hg _ _ s7 σ5 H7 x u _ I7' r7 (step x H7 y7)) λ_ s8 z9=>?_;obtain⟨σ8,H8,I8,q8⟩:=z9
  refine È (hf _ _ s8 σ8 H8 _ I8 q8) λk s9 z9=>?_;obtain⟨H9,I9,q9⟩:=z9
  have again:∀{ę:Hp}{ģ:RF},Inv (ā X N scope {s2.heap.objs.size+1,fp,s2,H2}) ([]++tI fp s7.heap) σ8 ę ģ->M σ8 ę->
    ∃m,m<n/\∃i B' H',Inv (ā X N scope {s2.heap.objs.size+1,fp,s2,H2}) [] B' H' ģ/\tn i ģ.heap/\(∀b∈fp,H' b=YW)/\W i m B' H':=λ{ę ģ} I10 q10=>by
   obtain⟨m',hm,w10⟩:=hM σ8 ę q10
   refine{m',hm,i+1,σ8,ę,I10.lT,T.keep _ _ _ Ĵ λb hb o e=>(I10.pin (b,o) (Pb _ (Pb _ (kF hb e)))).1,λb hb=>?_,w10}
   obtain⟨o,e,d⟩:=T.obj _ _ Ĵ b hb
   exact(I10.pin (b,o) (Pb _ (Pb _ (kF hb e)))).2.1
  cases k with
  |false=>exact again I9 q9
  |true=>
   refine È (he _ _ s9 σ8 H9 _ I9 q9) λw10 ģ z9=>?_;obtain⟨y,ę,I10,r10,ys,hys,hz,q10⟩:=z9
   refine È (vb _ ģ σ8 ę (.ref s2.heap.objs.size) [y] (.ref s2.heap.objs.size) [w10] (λ_ H'=>M σ8 H') I10 rfl (.cons r10 .nil) {_,ys,y,rfl,rfl,hys,hz,q10}) λ_ s11 z9=>?_;obtain⟨_,H11,I11,_,q11⟩:=z9
   exact again I11 q11
 have go:codeAny (RK X.prog X.w) X.A (.compStart (.ListComp elt [⟨tg,iter,ifs,0⟩] scope pos) 0 (.ref it) (.ref s2.heap.objs.size) (ā X N scope {s2.heap.objs.size+1,fp,s2,H2}).env)
   (Yt (RK X.prog X.w) X.A X.xe use R (.ref s2.heap.objs.size) (s2.heap.objs.size+1)) { s2 with heap:=Uv ((s2.heap.push { cls:=.type "list",data:=.seq #[] }).push { cls:=.type "dict",data:=.dict #[] }) scope.names }:=
  codeAny_compStart_list loop (T.self _ 0 _ _ _ st4 loop)
 have fin2:∀(env':Env)(L:RB),env'=(ā X N scope {s2.heap.objs.size+1,fp,s2,H2}).env->L=s2.heap.objs.size+1->
   codeAny (RK X.prog X.w) X.A (.compStart (.ListComp elt [⟨tg,iter,ifs,0⟩] scope pos) 0 (.ref it) (.ref s2.heap.objs.size) env') (Yt (RK X.prog X.w) X.A X.xe use R (.ref s2.heap.objs.size) L)
    { s2 with heap:=Uv ((s2.heap.push { cls:=.type "list",data:=.seq #[] }).push { cls:=.type "dict",data:=.dict #[] }) scope.names }:=by
  intro env' L h1 h2
  subst h1 h2
  exact go
 exact fin2 _ _ e5 e6
theorem vG(I:Inv X (pins++[(C,oC)]) B' H' s')(hy:X.s₀.heap.objs.size<=C)(hp:∀p∈X.pn++pins,p.1≠C)(sb:S2 C s'.heap h') :
  Inv X pins B' H' { s' with heap:=h' }:=by
 have pC:=I.pin (C,oC) (Pb _ (Pb _ (by simp)))
 have I2:Inv X pins B' H' s':=I.lT
 refine I2.turned (it:=C) (t':=s'.toks) (λb o hb e=>(sb.2 b hb).trans e) pC.2.1 pC.2.2.1 (.inr hy) (λx c e z=>?_) hp
 obtain⟨v,o,ho,hd⟩:=I2.cell x c e
 rw[z,pC.1]at ho
 cases ho
 exact pC.2.2.2.2 v hd
theorem dD(S:bI X.env.scope X.N N own fr scope)(hc:X.calm=true)(hi:PI X tg iter wi)(hg:∀b,PG (ā X N scope b) tg (g b))(hf:∀b,PF (ā X N scope b) ifs (tf b))(he:∀b,PE (ā X N scope b) elt (te b))
  (hs:∀x,foldedSetIterable iter X.env x=pure x:=by intro _;rfl):PE X (.ListComp elt [⟨tg,iter,ifs,0⟩] scope pos) (F0 wi own fr g tf te):=by
 intro pins s B H Q I h
 rw[eval_ListComp]
 refine zy (use:=YW) S hc hi hg hf he hs I h λD C oC m H' s' I' hy hp hm q=>?_
 have pC:=I'.pin (C,oC) (Pb _ (Pb _ (by simp)))
 exact{m,hm _ pC.1,λh' sb=>⟨.ref D,H',vG I' hy hp sb,rfl,q⟩}
theorem iT(S:bI X.env.scope X.N N own fr scope)(hc:X.calm=true)(hN:X.N.Nodup)(hj:X.N[j]?=YV y)(hy:Loc X.env.scope y)(hi:PI X tg iter wi)(hg:∀b,PG (ā X N scope b) tg (g b))(hf:∀b,PF (ā X N scope b) ifs (tf b))
  (he:∀b,PE (ā X N scope b) elt (te b)) (hfn:X.fn y=true\/X.env.scope.names.lookup y=YV .local:=by first|exact .inl rfl|exact .inr rfl|assumption) (hs:∀x,foldedSetIterable iter X.env x=pure x:=by intro _;rfl)
  (hsw:Vn (.ListComp elt [⟨tg,iter,ifs,0⟩] scope pos) (YV (.Name y py)) spos.line X.env=pure true:=by rfl) :
  PS X (.Assign [.Name y py] (.ListComp elt [⟨tg,iter,ifs,0⟩] scope pos) spos) (HM (F0 wi own fr g tf te) (qT j)):=by
 intro pins s B H D I h
 rw[exec_Assign_Name_used _ _ _ _ hsw]
 refine RA (Ux (RA ?_))
 show wpAny _ _ (do let _<-comprehension (.ListComp elt [⟨tg,iter,ifs,0⟩] scope pos) scope X.env _ (newList []) false (Sj iter X.env) (YV (assign (.Name y py) X.env))) _ _ s
 refine RA (È (zy (use:=YV (assign (.Name y py) X.env)) (R:=λ_ s'=>SP X pins D .next s') S hc hi hg hf he hs I h λD' C oC m H' s' I' hy' hp hm q=>?_) λ_ s' q=>RD (RD q))
 show wpAny _ _ (assign (.Name y py) X.env (.ref D')) _ _ s'
 refine È (B8 hN hj hy hfn _ s' B H' (.ref D') (.ref D') _ I' rfl q) λ_ s'' z9=>?_;obtain⟨σ2,H2,I2,q2⟩:=z9
 have pC:=I2.pin (C,oC) (Pb _ (Pb _ (by simp)))
 exact{m,hm _ pC.1,λh' sb=>⟨σ2,H2,vG I2 hy' hp sb,q2⟩}
end
theorem PE.imp(h:PE X e t)(k:∀B H Q,t' B H Q->t B H Q):PE X e t':=λpins s B H Q I q=>h pins s B H Q I (k B H Q q)
theorem Ñ.imp(h:Ñ X f r)(k:∀x y H Q,r' x y H Q->r x y H Q):Ñ X f r':=λpins s B H x y v u Q I rx ry q=>h pins s B H x y v u Q I rx ry (k x y H Q q)
def Fq(i:Nat):TE:=λB H Q=>match B[i]? with
 |some (YV v)=>Q v H
 |_=>False
section
variable{X:Cx}
theorem fv (i) (hN:X.N[i]?=YV x:=by rfl) (hv:Vis X.env.scope x:=by first|exact OZ rfl|exact Py (OZ rfl)|exact Py (Py rfl)) (hd:(x==("__debug__":Str))=false:=by decide)
  (Į:(x==("__classdict__":Str))=false:=by decide):PE X (.Name x pos) (Fq i):=(J4 hN hv hd Į).imp λB H Q q=>by
 unfold Fq at q
 cases e:B[i]? with
 |none=>rw[e]at q;exact q.elim
 |some o=>
  cases o with
  |none=>rw[e]at q;exact q.elim
  |some v=>rw[e]at q;exact⟨v,e,q⟩
def HH:R2:=λx y H Q=>match x,y with
 | .int i,.int j=>Q (.int (i+j)) H
 | .str a,.str b=>a.length+b.length<=sizeLine/\Q (.str (a++b)) H
 | .ref p,.ref q=>Mv (.ref p) (.ref q) H Q
 |_,_=>False
theorem aX:Ñ X (Sw .Add) HH:=by
 intro pins s B H x y v u Q I rx ry h;cases x with
 |int i=>
  cases y with
  |int j=>exact LL pins s B H _ _ v u Q I rx ry ⟨i,j,rfl,rfl,h⟩
  |_=>exact(show False from h).elim
 |str a=>
  cases y with
  |str b=>exact zC pins s B H _ _ v u Q I rx ry ⟨a,b,rfl,rfl,h.1,h.2⟩
  |_=>exact(show False from h).elim
 |ref p=>
  cases y with
  |ref q=>exact J5 pins s B H _ _ v u Q I rx ry h
  |_=>exact(show False from h).elim
 |_=>cases y<;>exact(show False from h).elim
def pj(C:Int->Int->Prop)(g:Int->Int->V):R2:=λx y H Q=>match x,y with
 | .int i,.int j=>C i j/\Q (g i j) H
 |_,_=>False
def lG(g:Int->Int->V):R2:=λx y H Q=>match x,y with
 | .int i,.int j=>Q (g i j) H
 |_,_=>False
theorem Ñ.pj(h:Ñ X f (rI C g)):Ñ X f (pj C g):=h.imp λx y H Q q=>by
 cases x with
 |int i=>
  cases y with
  |int j=>exact⟨i,j,rfl,rfl,q.1,q.2⟩
  |_=>exact(show False from q).elim
 |_=>cases y<;>exact(show False from q).elim
theorem Ñ.lG(h:Ñ X f (Ϟ g)):Ñ X f (lG g):=h.imp λx y H Q q=>by
 cases x with
 |int i=>
  cases y with
  |int j=>exact⟨i,j,rfl,rfl,q⟩
  |_=>exact(show False from q).elim
 |_=>cases y<;>exact(show False from q).elim
theorem uT:Ñ X (Sw .Sub) (lG λi j=>.int (i-j)):=KG.lG
theorem Md:Ñ X (Sw .Mult) (pj Df λi j=>.int (i*j)):=Kn.pj
def IY(_ j:Int):Prop:=0<j/\j<2^64
theorem HB(h:IY 0 j):j.natAbs.log2<9000:=by
 have h1:j.natAbs<2^64:=by
  have h2:j<2^64:=h.2;have h3:0<j:=h.1;lia
 have h0:j.natAbs≠0:=by have h3:0<j:=h.1;lia
 have:=(Nat.log2_lt h0).mpr h1;lia
theorem de:Ñ X (Sw .FloorDiv) (pj IY λi j=>.int (i/j)):=(opI λi j _ _ _ _ _ hc q=>by
 have h1:(0:Int)<j:=hc.1;exact floordiv_int () (by rw[UX i ()];exact q) (.inl (PyProof.noPylong_of_log2 (HB hc)))).pj
theorem bM:Ñ X (Sw .Mod) (pj (λ_ j=>0<j) λi j=>.int (i%j)):=Lu.pj
theorem pF:Ñ X (Sw .Pow) (pj EZ λi j=>.int (i^j.toNat)):=Km.pj
theorem MY:Ñ X (Sw .LShift) (pj EZ λi j=>.int (i*2^j.toNat)):=KO.pj
theorem OD:Ñ X (Sw .BitOr) (lG λi j=>.int (Uy i j)):=Mu.lG
theorem GK:Ñ X (RV .Lt) (lG λi j=>.bl (decide (i<j))):=MC.lG
theorem DE:Ñ X (RV .LtE) (lG λi j=>.bl (decide (i<=j))):=Mm.lG
theorem NR:Ñ X (RV .Gt) (lG λi j=>.bl (decide (j<i))):=Np.lG
mutual
inductive ja(K:RG)(H:Hp):V->V3->Prop where
 |Ä:ja K H .Ä .none
 |bl (b:Bool):ja K H (.bl b) (.bool b)
 |int (i:Int):ja K H (.int i) (.int i)
 |str (x:Str):ja K H (.str x) (.str x)
 |lst {a:RB}{xs:List V}{ds:List V3} (h:À K H a xs) (r:kP K H xs ds):ja K H (.ref a) (.list ds)
 |tup {a:RB}{xs:List V}{ds:List V3} (h:Æ K H a xs) (r:kP K H xs ds):ja K H (.ref a) (.tuple ds)
inductive kP(K:RG)(H:Hp):List V->List V3->Prop where
 |nil:kP K H [] []
 |cons {x:V}{xs:List V}{d:V3}{ds:List V3} (h:ja K H x d) (r:kP K H xs ds):kP K H (x::xs) (d::ds)
end
mutual
theorem Inv.reads(I:Inv X pins B H s):∀{x:V}{d:V3}{u:RC},ja X.K H x d->Y0 x u->∃as,Reads s.heap u d as
 |_,_,_,.Ä,r=>by cases r;exact{_,.none}
 |_,_,_,.bl b,r=>by cases r;exact{_,.bool b}
 |_,_,_,.int i,r=>by obtain⟨t,rfl⟩:=r;exact{_,.int i t}
 |_,_,_,.str x,r=>by obtain⟨t,rfl⟩:=r;exact{_,.str x t}
 |_,_,_,.lst h q,r=>by
  cases r;obtain⟨Á,rv,⟨o,n,e,hc,_,hd⟩,_⟩:=I.list h;obtain⟨as,z⟩:=I.readsAll q rv;exact{_,.list e hc hd (by simpa using z)}
 |_,_,_,.tup h q,r=>by
  cases r;obtain⟨Á,rv,⟨o,e,hc,n,hd⟩,_⟩:=I.tuple h;obtain⟨as,z⟩:=I.readsAll q rv;exact{_,.tuple e hc hd (by simpa using z)}
theorem Inv.readsAll(I:Inv X pins B H s):∀{xs:List V}{ds:List V3}{us:List RC},kP X.K H xs ds->Y1 xs us->∃as,ReadsAll s.heap us ds as
 |_,_,_,.nil,r=>by cases r;exact{_,.nil}
 |_,_,_,.cons h q,r=>by
  cases r with
  |cons r1 r2=>
   obtain⟨as,z⟩:=I.reads h r1;obtain⟨bs,z2⟩:=I.readsAll q r2;exact{_,.cons z z2}
end
def fEq(K:RG):R2:=λx y H Q=>match x,y with
 | .ref p,.ref q=>∃d e,ja K H (.ref p) d/\ja K H (.ref q) e/\Sa d=true/\Sa e=true/\Q (.bl (SY d e)) H
 |x,y=>C4 x y=true/\Q (.bl (decide (x=y))) H
def fNe(K:RG):R2:=λx y H Q=>match x,y with
 | .ref p,.ref q=>∃d e,ja K H (.ref p) d/\ja K H (.ref q) e/\Sa d=true/\Sa e=true/\Q (.bl (!PyData.eqv d e)) H
 |x,y=>C4 x y=true/\Q (.bl (!decide (x=y))) H
theorem Oq(hu:X.A.units+64<S8):Ñ X (RV .Eq) (fEq X.K):=by
 intro pins s B H x y v u Q I rx ry h;by_cases hr:∃p q,x=V.ref p/\y=V.ref q
 ·obtain⟨p,q,rfl,rfl⟩:=hr;obtain⟨d,e,hd,he,sd,se,hq⟩:=h;obtain⟨as,z1⟩:=I.reads hd rx;obtain⟨bs,z2⟩:=I.reads he ry;exact eq_dataH z1 z2 sd se hu {.bl _,H,I,rfl,hq}
 refine MS pins s B H x y v u Q I rx ry ?_;cases x<;>cases y<;>first|exact h|exact absurd {_,_,rfl,rfl} hr
theorem CW(hu:X.A.units+64<S8):Ñ X (RV .NotEq) (fNe X.K):=by
 intro pins s B H x y v u Q I rx ry h;by_cases hr:∃p q,x=V.ref p/\y=V.ref q
 ·obtain⟨p,q,rfl,rfl⟩:=hr;obtain⟨d,e,hd,he,sd,se,hq⟩:=h;obtain⟨as,z1⟩:=I.reads hd rx;obtain⟨bs,z2⟩:=I.reads he ry;exact ne_dataH z1 z2 sd se hu {.bl _,H,I,rfl,hq}
 refine Nk pins s B H x y v u Q I rx ry ?_;cases x<;>cases y<;>first|exact h|exact absurd {_,_,rfl,rfl} hr
def fIn(K:RG)(neg:Bool):R2:=λx y H Q=>match y with
 | .str j=>∃i,x=.str i/\Q (.bl (if neg then !(!(SE j i 0 j.length 1).isEmpty)else !(SE j i 0 j.length 1).isEmpty)) H
 | .ref p=>∃xs,(À K H p xs\/Æ K H p xs)/\mZ x=true/\xs.all mZ=true/\Q (.bl (if neg then !ϐ x xs else ϐ x xs)) H
 |_=>False
theorem N8:Ñ X (RV .In) (fIn X.K false):=by
 intro pins s B H x y v u Q I rx ry h;cases y with
 |str j=>
  obtain⟨i,rfl,q⟩:=h;exact Ds pins s B H _ _ v u Q I rx ry ⟨i,j,rfl,rfl,q⟩
 |ref p=>
  obtain⟨xs,h1,h2,h3,q⟩:=h;exact CM pins s B H _ _ v u Q I rx ry ⟨p,xs,rfl,h1,h2,h3,q⟩
 |_=>exact(show False from h).elim
theorem Hw:Ñ X (RV .NotIn) (fIn X.K true):=by
 intro pins s B H x y v u Q I rx ry h;cases y with
 |str j=>
  obtain⟨i,rfl,q⟩:=h;exact xj pins s B H _ _ v u Q I rx ry ⟨i,j,rfl,rfl,q⟩
 |ref p=>
  obtain⟨xs,h1,h2,h3,q⟩:=h;exact xA pins s B H _ _ v u Q I rx ry ⟨p,xs,rfl,h1,h2,h3,q⟩
 |_=>exact(show False from h).elim
theorem zW:Ñ X (RV .Is) (λx y H Q=>y=.Ä/\Q (.bl (decide (x=.Ä))) H):=KZ
theorem xg:Ñ X (RV .IsNot) (λx y H Q=>y=.Ä/\Q (.bl (!decide (x=.Ä))) H):=Ip
inductive ixS(K:RG)(p:RB)(i:Int)(H:Hp)(Q:VK):Prop
 |mk (xs v) (h0:À K H p xs\/Æ K H p xs) (h1:ô xs i=YV v) (q:Q v H):ixS K p i H Q
def fIx(K:RG):R2:=λx y H Q=>match x,y with
 | .ref p,.int i=>ixS K p i H Q
 | .str z,.int i=>∃c,z.length<=sizeLine/\ô z.cps.toList i=YV c/\Q (.str ⟨#[c]⟩) H
 |_,_=>False
theorem EE:IxR X (fIx X.K):=by
 intro value slice pins s B H x y v u Q I rx ry h hs;cases x with
 |ref p=>
  cases y with
  |int i=>
   obtain⟨xs,w,h1|h1,h2,q⟩:=h
   ·exact GR value slice pins s B H _ _ v u Q I rx ry ⟨p,xs,i,w,rfl,rfl,h1,h2,q⟩ hs
   exact JH value slice pins s B H _ _ v u Q I rx ry ⟨p,xs,i,w,rfl,rfl,h1,h2,q⟩ hs
  |_=>exact(show False from h).elim
 |str z=>
  cases y with
  |int i=>
   obtain⟨c,h1,h2,q⟩:=h;exact Lm value slice pins s B H _ _ v u Q I rx ry ⟨z,i,c,rfl,rfl,h1,h2,q⟩ hs
  |_=>exact(show False from h).elim
 |_=>cases y<;>exact(show False from h).elim
def OK:V->Option Int->Option Int->Hp->VK->Prop:=λx lo hi H Q=>∃z,x=.str z/\z.length<=sizeLine/\Q (.str (Txt.slice z lo hi)) H
def Its(x:Str):It:={λi _=>i<x.cps.size,λi H v H'=>H'=H/\∃c,x.cps[i]?=YV c/\v=.str ⟨#[c]⟩,λi _=>x.cps.size<=i}
theorem Eu{P:Program}{w:RS}{K:T9}{tg:Expr}{T:String}(hT:T="str_ascii_iterator"\/T="str_iterator")(it:RB)(x:Str)(t:Tok):Zf P w K tg (Its x) [it] it (λi h=>i<=x.cps.size/\h.IsStrIter it T x t i) where
 mem:=by simp
 obj:=λi h st b hb=>by
  have e:b=it:=by simpa using hb
  subst e;obtain⟨_,o,e,c,d⟩:=st;exact{o,e,λv z=>by rw[d]at z;cases z}
 keep:=λi h h' st k=>by
  obtain⟨hi,o,e,r⟩:=st;exact{hi,o,k it (by simp) o e,r}
 item:=by
  intro X hP hw hK hc i pins s B H E I hf st hg;subst hP hw hK;obtain⟨f0,f1,f2,f3,f4,f5⟩:=hf it (by simp);have W:Walks X.prog X.w X.A it [it] [it] x.cps.size (SignAt x) (λi h=>h.IsStrIter it T x t i):=by
   rcases hT with rfl|rfl
   ·exact Yu (I.ok.hd hc) it x t
   exact Walks.strWide (I.ok.hd hc) it x t
  refine W.item i s _ _ hg st.2 λv h' tk hv ċ kk=>?_;obtain⟨c,u,hcp,rfl⟩:=hv;have I1:Inv X pins B H { s with heap:=h',toks:=tk }:=I.turned (λb o hb e=>kk b o (by simpa using hb) e) f0 f1 f3 f4 f5;obtain⟨o,e,c',d⟩:=id ċ;refine{_,rfl,yl (s:={ s with heap:=h',toks:=tk }) e c' d (by rcases hT with rfl|rfl<;>decide) ⟨.str ⟨#[c]⟩,H,I1,⟨u,rfl⟩,⟨rfl,c,hcp,rfl⟩,⟨hg,ċ⟩,λb hb=>(hf b hb).1⟩}
 done:=by
  intro X hP hw hK hc i pins s B H E I hf st hg;subst hP hw hK;obtain⟨f0,f1,f2,f3,f4,f5⟩:=hf it (by simp);have W:Walks X.prog X.w X.A it [it] [it] x.cps.size (SignAt x) (λi h=>h.IsStrIter it T x t i):=by
   rcases hT with rfl|rfl
   ·exact Yu (I.ok.hd hc) it x t
   exact Walks.strWide (I.ok.hd hc) it x t
  have e:i=x.cps.size:=Nat.le_antisymm st.1 hg;subst e;exact W.done s _ _ st.2 λh' tk kk=>{rfl,I.turned (λb o hb e=>kk b o (by simpa using hb) e) f0 f1 f3 f4 f5}
 self:=λA i s Q E st h=>by
  rcases hT with rfl|rfl
  ·exact wpAny_pyIter_striter_ascii st.2 h
  exact wpAny_pyIter_striter_wide st.2 h
def NO(K:RG)(tl:TE):TI:=λB H R=>tl B H λx H1=>match x with
 | .ref a=>((∃xs,À K H1 a xs)/\R (Φ K a) H1)\/((∃xs,Æ K H1 a xs)/\R (Itt K a) H1)
 | .str z=>R (Its z) H1
 |_=>False
theorem aW(hl:PE X l tl):PI X tg l (NO X.K tl):=by
 intro pins s B H R I h;refine È (hl pins s B H _ I h) λv s1 z9=>?_;obtain⟨x,H1,I1,r1,q1⟩:=z9;cases x with
 |ref a=>
  cases r1;rcases q1 with⟨⟨xs,hq⟩,q⟩|⟨⟨xs,hq⟩,q⟩
  ·obtain⟨Á,rv,p,hz⟩:=I1.list hq;refine Uh p.isList ?_;refine{s1.heap.objs.size,[s1.heap.objs.size],_,_,H1,rfl,I1.kept (t':=s1.toks) λb o e=>RE _ e,CI a _,{_,RL _ rfl,rfl,rfl},λb hb=>?_,q};have e:b=s1.heap.objs.size:=by simpa using hb
   subst e;exact I1.uC (OW _) (I1.Å.fresh (OW _))
  obtain⟨Á,rv,p,hz⟩:=I1.tuple hq;refine wpAny_pyIter_tuple (show s1.heap.IsTuple a Á.toArray from p) ?_;refine{s1.heap.objs.size,[s1.heap.objs.size],_,_,H1,rfl,I1.kept (t':=s1.toks) λb o e=>RE _ e,zQ a _,{_,RL _ rfl,rfl,rfl},λb hb=>?_,q};have e:b=s1.heap.objs.size:=by simpa using hb
  subst e;exact I1.uC (OW _) (I1.Å.fresh (OW _))
 |str z=>
  obtain⟨t,rfl⟩:=r1;refine wpAny_pyIter_strU ?_;refine{s1.heap.objs.size,[s1.heap.objs.size],_,_,H1,rfl,I1.kept (t':=s1.toks) λb o e=>RE _ e,Eu (T:=strIterType z) ?_ _ z t,{Pc _,_,RL _ rfl,rfl,rfl},λb hb=>?_,q1}
  ·unfold strIterType;split
   ·exact .inl rfl
   exact .inr rfl
  have e:b=s1.heap.objs.size:=by simpa using hb
  subst e;exact I1.uC (OW _) (I1.Å.fresh (OW _))
 |_=>exact(show False from q1).elim
theorem aO(ha:PE X a ta)(he:∀whole,isTrue a X.env whole=(do let v<-whole;Wc a.pos;Ua [v] (truthy v))) :
  PT X a (λB H Q=>ta B H λx H'=>yP X.K x H' Q):=Fm ha he
inductive HY(K:RG)(xs:List V)(H:Hp)(Q:VK):Prop
 |mk (x n) (h0:xs=[x]) (h1:Nh K x H n) (q:Q (.int n) H):HY K xs H Q
theorem Mj:cO X (.builtin "len") (HY X.K):=λpins s B H xs us Q I r ⟨x,n,h0,h1,q⟩=>Fn pins s B H xs us Q I r ⟨x,n,h0,h1,q⟩
theorem xn:cO X (.type "list") (λxs H Q=>∃p ys,xs=[.ref p]/\(À X.K H p ys\/Æ X.K H p ys)/\∀l,H l=YW->Q (.ref l) (upd H l (.lst ys))):=xC
theorem DK{bs:List Bool}{Á:List RC}(r:Y1 (bs.map V.bl) Á){i:Nat}{v:RC}(h:Á[i]?=YV v):∃b,bs[i]?=YV b/\v=.bool b:=by
 have hi:i<Á.length:=(O8.mp h).1;have hl:=r.length;rw[OU]at hl;have hb:bs[i]?=YV bs[i]:=OV ();obtain⟨u,hu,ru⟩:=r.get (i:=i) (x:=V.bl bs[i]) (by rw[O7,hb];rfl);rw[h]at hu;cases hu;exact{_,hb,ru}
theorem Nf(hc:X.calm=true:=by rfl):cO X (.builtin "all") (λxs H Q=>∃(p:RB)(bs:List Bool),xs=[.ref p]/\À X.K H p (bs.map V.bl)/\Q (.bl (bs.all id)) H):=by
 intro pins s B H xs us Q I r h;obtain⟨p,bs,rfl,hq,q⟩:=h;obtain⟨u,rfl,rx⟩:=Y9 r;cases rx;obtain⟨Á,rv,pl,hz⟩:=I.list hq;have hl:=pl.isList;have Û:p<s.heap.objs.size:=by obtain⟨_,e,_⟩:=hl;exact RH e
 have hlen:Á.toArray.size=bs.length:=by have:=rv.length;rw[OU]at this;rw[O9];lia
 refine call_all_walk (Uh hl ?_);refine⟨s.heap.objs.size,[s.heap.objs.size,p],[s.heap.objs.size],Á.toArray.size,_,_,λi=>(bs[i]?).getD true,rfl,Walks.list (A:=X.A.in1) (I.ok.hd hc) _ p (Ph Û) Á.toArray,
  {{_,RL _ rfl,rfl,rfl},hl.push _},λi v s' Q' E' hP hQ=>?_,λh' tk hk=>?_⟩
 ·obtain⟨b,e,rfl⟩:=DK rv (by simpa using hP);simp only[e,Xy]at hQ;exact Tc hQ
 rw[hlen,LSm.range_all bs];exact{.bl _,H,I.kept (LSm.kept_iter hk),rfl,q}
def uG:V->RC
 | .ty n=>.type n
 | .ref a=>.ref a
 |_=>.none
theorem zw(r:Y0 y u)(h:uG y≠ .none):u=uG y:=by
 cases y with
 |ty n=>exact r
 |ref a=>exact r
 |_=>exact absurd rfl h
inductive wV(K:RG)(xs:List V)(H:Hp)(Q:VK):Prop
 |mk (x y t b) (h0:xs=[x,y]) (h1:uG y≠ .none) (h2:o7 K H x t) (h3:R0 K t (uG y)=YV b) (q:Q (.bl b) H):wV K xs H Q
theorem aI:cO X (.builtin "isinstance") (wV X.K):=by
 intro pins s B H xs us Q I r h;obtain⟨x,y,t,b,rfl,hy,ty,e,q⟩:=h;obtain⟨u,w',rfl,rx,ry⟩:=Ze r;rw[zw ry hy];exact CJ I rx ty e λtk=>{.bl b,H,I.tok _,rfl,q}
theorem bP(ho:PE X o to)(ha:PA X [e] t)(ã:Sx o "append" X.env (Sj o X.env)=Sj o X.env:=by rfl)
  (Ĺ:((Sk Ë (RJ [e] X.env)).all (λx=>!x.1)&&(Ud Ë (Tg [] X.env)).all (λx=>x.1.isSome)
   &&decide ([e].length+([]:List TY).length+(if([]:List TY).isEmpty then 0 else 1)<30))=true:=by rfl)
  (á:(apos.endLine==Ë.line)=true:=by rfl) (hs:RJ [e] X.env=(false,Sj e X.env)::RJ [] X.env:=by rfl) (ò:(Sk Ë (RJ [] X.env)).any (·.1)=false:=by rfl) :
  PE X (.Call (.Attribute o "append" apos) [e] [] Ë) (tBM X.K "list" wD to t):=Ez Vt PySem.F.slot_list_append PySem.F.type_list_append vb ho ha ã Ĺ á hs ò
theorem G7:MtR X "int.bit_length" (λx xs H Q=>∃i,x=.int i/\xs=[]/\Q (.int (TM i)) H):=by
 intro pins s B H x xs v us Q I rx rs h;obtain⟨i,rfl,rfl,q⟩:=h;obtain⟨t,rfl⟩:=rx;cases rs;exact call_int_bit_length {.int _,H,I.tok _,{_,rfl},q}
theorem xE(ho:PE X o to)(ã:Sx o "bit_length" X.env (Sj o X.env)=Sj o X.env:=by rfl)(á:(apos.endLine==Ë.line)=true:=by rfl) :
  PE X (.Call (.Attribute o "bit_length" apos) [] [] Ë) (MT X.K "int" (λx xs H Q=>∃i,x=.int i/\xs=[]/\Q (.int (TM i)) H) to):=
 LM PySem.F.plainAttrs_int PySem.F.slot_int_bit_length PySem.F.type_int_bit_length G7 ho ã á
end
def ϴ(P:Program)(w:RS)(K:RG)(mg:Str->Option RC)(base:R8)(k:Nat)(x:Str)(ps:List Str)(sp:Sp):Prop:=
 ∃f fd,hZ P w K mg base ġ k f fd ps sp/\Y3 K fd ps []/\SG K (.ref f)=true/\mg x=YV (.ref f)/\∃oc od æ,K.lookup f=YV ⟨oc,od,.func fd,æ⟩
structure aM(K:RG)(mg:Str->Option RC)(x:Str)(st:RY)(ps:List Str):Prop where
 ex:∃f fd,Χ K x x st f fd/\Y3 K fd ps []/\mg x=YV (.ref f)
theorem au(D:ϴ X.prog X.w X.K X.mg X.base j x ps sp)(hr:cN k X.A)(ha:PA X (e::es) t)(hj:j<=k:=by decide)(hg:Gl X x:=by rfl)
  (ì:(x==("__debug__":Str))=false:=by decide) (he:RJ (e::es) X.env=(false,Sj e X.env)::RJ es X.env:=by rfl) (ê:(Sk pos (RJ es X.env)).any (·.1)=false:=by rfl) :
  PE X (.Call (.Name x p) (e::es) [] pos) (vn sp [] E0 t):=by
 obtain⟨f,fd,F,b,kp,m,_⟩:=D
 exact Cm F (hr.mono hj) hg m kp b .nil sJ ha ì he ê
abbrev aM.Hz{K:RG}{mg:Str->Option RC}{x:Str}{st:RY}{ps:List Str}(_:aM K mg x st ps)(P:Program)(w:RS)(base:R8)(k:Nat)(sp:Sp):Prop:=L2.ϴ P w K mg base k x ps sp
theorem aM.hs{P w K mg base x st N ps k sp}(F:aM K mg x st ps)(S:aw N ps (aq st))
  (â:∀f Â A outer s H vs Q E,cN k (A.deeper (Tw x (aq st) s.heap.objs.size f Â))->(A.deeper (Tw x (aq st) s.heap.objs.size f Â)).units+64<S8->sp vs H Q E->
   ∃t,ü (nG ġ P w K mg base N x (aq st) f Â A outer s H E).ό (aU st) t/\t { nx:=λ_ H'=>Q .Ä H',rt:=Q } (Y4 N vs) H) (len:∀vs H Q E,sp vs H Q E->vs.length=ps.length:=by intro _ _ _ _ h;cases h;subst_vars;rfl):ϴ P w K mg base (k+1) x ps sp:=by
 obtain⟨f,fd,F,b,m⟩:=F.ex
 obtain⟨oc,od,kV,doc,pm,an,Â,ct,æ,e,lk,Į⟩:=F.ex
 exact{f,fd,F.ok S len λÂ A outer s H vs Q E hr h=>â f Â A outer s H vs Q E hr hr.units h,b,F.kp,m,oc,od,æ,lk}
theorem ak.upd(h:H p=YW) (o):ak H (upd H p o):=λb u q=>by rw[ay (bZ q h)];exact q
theorem ak.tup{K H H' a xs}(e:ak H H')(h:Æ K H a xs):Æ K H' a xs:=by
 rcases h with(h|⟨o,h⟩)|h
 ·exact .inl (.inl (e _ _ h))
 ·exact .inl (.inr {o,e _ _ h})
 exact .inr h
def Ē(fr:List Nat)(B:St):St:=fr.map λj=>(B[j]?).getD YW
theorem AQ{x:Nat->V}{tf:CB->TT}{te:CB->TE}{Q:VK}{B:St}{H1:Hp}(p:Nat->Bool)(f:Nat->V)(hn:n<sizeLine)
  (stop:∀H,ak H1 H->J.stop n H) (go:∀i H,i<n->ak H1 H->J.go i H) (ń:∀i H v H',i<n->ak H1 H->J.ń i H v H'->H'=H/\v=x i)
  (hf:∀b i H (R:Bool->Hp->Prop),i<n->ak H1 H->(∀H',ak H H'->R (p i) H')->tf b (YV (x i)::Ē fr B) H R)
  (he:∀b i H (R:VK),i<n->p i=true->ak H1 H->(∀H',ak H H'->R (f i) H')->te b (YV (x i)::Ē fr B) H R)
  (fin:∀D H,H1 D=YW->ak H1 H->H D=YV (.lst (((RX n).filter p).map f))->Q (.ref D) H):qG J 1 fr (λ_=>qT 0) tf te Q B H1:=by
 refine⟨λb D hD=>?_⟩
 have lenf:∀i,(((RX i).filter p).map f).length<=i:=λi=>by
  rw[OU];exact O6 (PX _ _) (Ri Qs)
 refine{λi m B' H'=>m=n-i/\i<=n/\(∃v0,B'=v0::Ē fr B)/\ak H1 H'/\H' D=YV (.lst (((RX i).filter p).map f)),{n,rfl,Pc _,⟨YW,rfl⟩,ak.upd hD _,ao},?_}
 rintro i m B' H' ⟨rfl,hi,⟨v0,rfl⟩,sm,hl⟩
 by_cases Û:i<n
 ·refine .inr {go i H' Û sm,λσ2 H2=>(∃v0,σ2=v0::Ē fr B)/\ak H1 H2/\H2 D=YV (.lst (((RX (i+1)).filter p).map f)),λσ2 H2 q=>{n-(i+1),(),rfl,Û,q},λv H2 y=>?_};obtain⟨rfl,rfl⟩:=ń i H' v H2 Û sm y;show tf b (YV (x i)::Ē fr B) _ _;refine hf b i _ _ Û sm λH3 s3=>?_;have e1:(RX (i+1)).filter p=(RX i).filter p++(if p i then[i]else[]):=by
   rw[Q6,PZ];congr 1;cases hp:p i<;>simp[hp]
  cases hp:p i with
  |false=>
   rw[if_neg O3];refine{{_,rfl},sm.trans s3,?_};rw[s3 _ _ hl,e1,hp];simp
  |true=>
   rw[if_pos rfl];refine he b i _ _ Û hp (sm.trans s3) λH4 s4=>{_,s4 _ _ (s3 _ _ hl),?_,{_,rfl},?_,?_}
   ·exact QV (lenf i) (Rq Û hn)
   ·have sm4:ak H1 H4:=sm.trans (s3.trans s4);intro c o q;by_cases hc:c=D
    ·rw[hc,hD]at q;cases q
    rw[ay hc];exact sm4 c o q
   rw[ao,e1,hp];simp
 have e:i=n:=()
 subst e
 exact .inl ⟨stop H' sm,fin D H' hD sm hl⟩
theorem map_range{α:Type}{β:Type}(xs:List α)(d:α)(f:α->β):(RX xs.length).map (λi=>f (xs.getD i d))=xs.map f:=by
 apply Rf;intro i;rw[O7,O7];by_cases h:i<xs.length
 ·rw[QQ h,OV h];simp[List.getD,OV h]
 rw[Qj (by simpa using h),Qj (by simpa using h)];rfl
theorem wz{α:Type}{β:Type}(p:α->Bool)(f:α->β)(d:α):∀(xs:List α),((RX xs.length).filter λi=>p (xs.getD i d)).map (λi=>f (xs.getD i d))=(xs.filter p).map f:=by
 intro xs;have e:=map_range xs d id;have e2:xs=(RX xs.length).map λi=>xs.getD i d:=by simpa using e.symm
 have e3:xs.filter p=((RX xs.length).filter λi=>p (xs.getD i d)).map λi=>xs.getD i d:=by
  conv=>lhs;rw[e2]
  rw[XZ];rfl
 rw[e3,P6];rfl
theorem C8{K a xs fr tf te Q B H1} (p f) (hx:À K H1 a xs) (hn:xs.length<sizeLine)
  (hf:∀b x H (R:Bool->Hp->Prop),x∈xs->ak H1 H->(∀H',ak H H'->R (p x) H')->tf b (YV x::Ē fr B) H R)
  (he:∀b x H (R:VK),x∈xs->p x=true->ak H1 H->(∀H',ak H H'->R (f x) H')->te b (YV x::Ē fr B) H R)
  (fin:∀D H,H1 D=YW->ak H1 H->H D=YV (.lst ((xs.filter p).map f))->Q (.ref D) H):qG (Φ K a) 1 fr (λ_=>qT 0) tf te Q B H1:=by
 have mem:∀i,i<xs.length->xs.getD i .Ä∈xs:=λi h=>by
  rw[Pr,OV h];exact Rk h
 refine AQ (x:=λi=>xs.getD i .Ä) (λi=>p (xs.getD i .Ä)) (λi=>f (xs.getD i .Ä)) hn (λH s=>{xs,s.seq hx,OW _}) (λi H h s=>{xs,xs[i],s.seq hx,OV h})
  (λi H v H' h s y=>{y.1,?_}) (λb i H R h s k=>hf b _ H R (mem i h) s k) (λb i H R h hp s k=>he b _ H R (mem i h) hp s k) λD H hD s e=>fin D H hD s ?_
 ·have:=y.2 xs (s.seq hx);rw[Pr,this];rfl
 rw[e,wz p f]
section
variable{X:Cx}
def JB(K:RG):V->Option Int->Option Int->Hp->VK->Prop:=λx lo hi H Q=>Ka K x lo hi H Q\/Kp K x lo hi H Q
theorem Ko:Ϛ X (JB X.K):=HU.or LS
end
theorem Fy{α:Type} (f) (xs:List α) (lo hi):lI (xs.map f) lo hi=((xs.drop (HT.Õ xs.length 0 lo)).take (HT.Õ xs.length xs.length hi-HT.Õ xs.length 0 lo)).map f:=by
 unfold lI;rw[OU,List.map_take,List.map_drop]
theorem F5{K:RG}{mg:Str->Option RC}{h:R8}{x:Str}{st:RY}{ps:List Str}{f:RB}{oc:RC}{od an:Option RB}{æ:Array (Option RC)}{kV doc pm Â ct:RC}(X:K.In h)(G:h.Ns RU mg)
  (a:Vg K RU x=YV (YV (.ref f))) (l:K.lookup f=YV {oc,od,.func (SK x x (bg st) (aU st) (aq st) .none kV doc pm an Â ct),æ}) (c:Ue K Â x=true) (k:SG K (.ref f)=true)
  (hb:∀(kV doc pm:RC)(an:Option RB)(Â ct:RC)(us:List RC),us.length=ps.length->bindArgs (SK x x (bg st) (aU st) (aq st) .none kV doc pm an Â ct) {us,[]}=pure (ps.zip us)):aM K mg x st ps:=
 {f,_,qg l c k,(qg l c k).binds hb,Uz X G a}
theorem JK{P w K mg base k x ps sp f oc od æ fd}(D:ϴ P w K mg base k x ps sp)(m:mg x=YV (.ref f))
  (l:K.lookup f=YV ⟨oc,od,.func fd,æ⟩):hZ P w K mg base ġ k f fd ps sp:=by
 obtain⟨g,gd,F,b,kp,mg',_,_,_,l'⟩:=id D
 rw[m]at mg'
 cases mg'
 rw[l]at l'
 cases l'
 exact F
section
variable{prog:Program}{w:RS}{A:Sd}{R:Result->RF->Prop}{I l:RB}{Á:Array RC}{ns:List Int}{St:Nat->R8->Prop}{fp wr:List RB}{d:RC}
end
section
variable{X:Cx}
theorem KS:Ϛ X OK:=by
 intro pins s B H x v vl vu lo hi sl Q I rx hs pl pu h;obtain⟨z,rfl,hz,q⟩:=h;obtain⟨t,rfl⟩:=rx;have fin:∀t' k,EP X pins B Q (.str (Txt.slice z lo hi) t') { s with toks:=k }:=λt' k=>⟨.str _,H,I.tok _,⟨_,rfl⟩,q⟩;have len:=O6 (Txt.slice_le z lo hi) hz;obtain⟨o,ho,hc,hd⟩:=hs;refine{"str",_,PySem.F.slot_str_getitem.lookup,WQ _ _ _,?_};cases pl with
 |none=>
  cases pu with
  |none=>exact Ts (l:=SS) (u:=SS) (st:=SS) ⟨o,ho,hc,hd⟩ rfl (UK {len,λt' k=>fin t' k})
  |int j uj=>exact Ts (l:=SS) (u:=YV (j,uj)) (st:=SS) ⟨o,ho,hc,hd⟩ rfl (UK {len,λt' k=>fin t' k})
 |int i ui=>
  cases pu with
  |none=>exact Ts (l:=YV (i,ui)) (u:=SS) (st:=SS) ⟨o,ho,hc,hd⟩ rfl (UK {len,λt' k=>fin t' k})
  |int j uj=>exact Ts (l:=YV (i,ui)) (u:=YV (j,uj)) (st:=SS) ⟨o,ho,hc,hd⟩ rfl (UK {len,λt' k=>fin t' k})
def fSl(K:RG):V->Option Int->Option Int->Hp->VK->Prop:=λx lo hi H Q=>match x with
 | .str z=>z.length<=sizeLine/\Q (.str (Txt.slice z lo hi)) H
 |x=>Ka K x lo hi H Q\/Kp K x lo hi H Q
theorem kC:Ϛ X (fSl X.K):=by
 intro pins s B H x v vl vu lo hi sl Q I rx hs pl pu h;by_cases hx:∃z,x=.str z
 ·obtain⟨z,rfl⟩:=hx;exact KS pins s B H _ v vl vu lo hi sl Q I rx hs pl pu ⟨z,rfl,h.1,h.2⟩
 refine Ko pins s B H x v vl vu lo hi sl Q I rx hs pl pu ?_;cases x<;>first|exact h|exact absurd {_,rfl} hx
theorem Mi(hc:X.calm=true:=by rfl):cO X (.builtin "max") (λxs H Q=>∃i j,xs=[.int i,.int j]/\Q (.int (if j>i then j else i)) H):=CG hc
theorem wH(h:∃t,X.mg x=YV (.str z t))(hg:Gl X x:=by rfl)(hd:(x==("__debug__":Str))=false:=by decide):PE X (.Name x pos) (tC (.str z)):=by
 obtain⟨t,e⟩:=h;exact wc hg e ⟨t,rfl⟩ hd
theorem Iz(h:∃t,X.mg x=YV (.int z t))(hg:Gl X x:=by rfl)(hd:(x==("__debug__":Str))=false:=by decide):PE X (.Name x pos) (tC (.int z)):=by
 obtain⟨t,e⟩:=h;exact wc hg e ⟨t,rfl⟩ hd
end
section
variable{X:Cx}{tg:Expr}
def gJ{α:Type}(xs:List α):List α:=(RX ((xs.length+1)/2)).filterMap λm=>xs[m*2]?
theorem yG{α:Type}(xs:List α):(gJ xs).length<=xs.length:=by
 unfold gJ;refine O6 (Qy _ _) ?_;rw[Qs];lia
theorem Y1.gJ(r:Y1 xs us):Y1 (gJ xs) (gJ us):=by
 have hl:=r.length;unfold L2.gJ;rw[hl];have gen:∀l:List Nat,Y1 (l.filterMap λm=>xs[m*2]?) (l.filterMap λm=>us[m*2]?):=by
  intro l;induction l with
  |nil=>exact .nil
  |cons m l ih=>
   rw[PQ,PQ];cases e:xs[m*2]? with
   |none=>rw[r.none_of e];exact ih
   |some x=>
    obtain⟨u,hu,ru⟩:=r.get e;rw[hu];exact .cons ru ih
 exact gen _
theorem G9(n:Nat):Si 0 (n:Int) 2=(n+1)/2:=by
 unfold Si;have h1:(2:Int)>0:=()
 simp only[h1,if_true];split<;>lia
theorem Nt(xs:Array RC):((RX ((xs.size+1)/2)).filterMap λ(m:Nat)=>xs[((0:Int)+(m:Int)*2).toNat]?).toArray=(gJ xs.toList).toArray:=by
 unfold gJ;have e:(λ(m:Nat)=>xs[((0:Int)+(m:Int)*2).toNat]?)=λm=>xs.toList[m*2]?:=by
  funext m
  have:((0:Int)+(m:Int)*2).toNat=m*2:=()
  rw[this,Qk]
 rw[e,Qf]
theorem FR{prog w E}{Q:Int×Int×Nat->RF->Prop}(hs:s.heap.IsSliceOf sl .none .none (.int 2 t2))(h:Q (0,2,(n+1)/2) s) :
  wpAny (RK prog w) A (S7 (.ref sl) (pure (n:Int))) Q E s:=by
 obtain⟨os,Ő,Ś,ç⟩:=id hs
 unfold S7 U4
 refine RA (RA (wpAny_field Ő ç (x:=.none) rfl (RA (wpAny_field Ő ç (x:=.none) rfl (RA (wpAny_field Ő ç (x:=.int 2 t2) rfl (RD ?_)))))))
 refine RA (slicePart_int ?_)
 show wpAny _ _ (if((2:Int)==0)=true then _ else _) _ _ s
 rw[if_neg ∅]
 refine RA (UY (RA (UY (RA (RD ?_)))))
 show wpAny _ _ (pure ((0:Int),(2:Int),Si 0 (n:Int) 2)) _ _ s
 rw[G9]
 exact RD h
theorem pV(ht:IsTup s.heap t items)(hs:s.heap.IsSliceOf sl .none .none (.int 2 t2))
  (h:Q (.ref s.heap.objs.size) { s with heap:=s.heap.push { cls:=.type "tuple",data:=.seq (gJ items.toList).toArray } }) (hsz:items.size<=sizeLine):wpAny (RK prog w) A (U9 (.ref t) (.ref sl)) Q E s:=by
 have õ:sizeOk (.seq (gJ items.toList).toArray):=by
  show(gJ items.toList).toArray.size<=sizeLine;rw[O9];exact O6 (yG _) (by rw[Qf];exact hsz)
 obtain⟨os,Ő,Ś,ç⟩:=id hs
 have hTs:s.TypeIs (.ref sl) "slice":=⟨os,Ő,Ś⟩
 unfold U9
 try with_reducible refine wpAny_holding ?_
 first|refine RA (RD ?_)|skip
 refine RA (Xe ht.typeIs ∅ ?_)
 refine RA (Tr (name:=TK "__getitem__") ht.typeIs SM
  (SH SM ht.typeIs Wm ?_ (WN _ _)))
 show wpAny _ _ (UZ (.ref t)>>=_) _ _ s
 refine RA (tupleItemsOf_ ht ?_)
 refine RA (Ug hTs ?_)
 rw[if_pos ∅]
 refine RA (FR hs ?_)
 show wpAny _ _ (if((0:Int)==0&&(2:Int)==1&&((items.size+1)/2)==items.size)=true then _ else _) _ _ s
 rw[if_neg (by simp),Nt]
 first
  |exact RA (m:=Se _) (R7 (RD {_,rfl,RD h}) õ)
  |exact RA (m:=Se _) (R7 (RA (RD (RD {_,rfl,RD h}))) õ)
  |exact RA (RA (m:=Se _) (R7 (RD (RD {_,rfl,RD h})) õ))
  |exact RA (RA (m:=Se _) (R7 (RD {_,rfl,RD h}) õ))
def Ln(K:RG)(te:TE):TE:=λB H Q=>te B H λx H1=>∃a xs,x=.ref a/\Æ K H1 a xs/\∀p,H1 p=YW->Q (.ref p) (upd H1 p (.tup (gJ xs)))
theorem FN(he:PE X e te):PE X (.Subscript e (.Slice YW YW (YV (.Constant (.int 2) j p3)) p2) pos) (Ln X.K te):=by
 intro pins s B H Q I h;refine WO (È (he pins s B H _ I h) λv s1 z9=>?_);obtain⟨x,H1,I1,r1,a,xs,ex,hx,q⟩:=z9;subst ex;cases r1;refine XS ?_;rw[Ve];refine RD ?_;refine RD ?_;rw[Wz];refine WJ ?_;obtain⟨Á,r,ht,hz⟩:=I1.tuple hx;have hlen:Á.toArray.size=xs.length:=by rw[O9];exact r.length.symm
 have I4:Inv X pins B H1 { s1 with heap:=s1.heap.push { cls:=.type "slice",data:=.fields #[.none,.none,.int 2 s1.toks] },toks:=s1.toks+1 }:=I1.kept λb ob q=>RE _ q;have Η:IsTup (s1.heap.push { cls:=.type "slice",data:=.fields #[.none,.none,.int 2 s1.toks] }) a Á.toArray:=by
  obtain⟨o,e,r⟩:=ht;exact{o,RE _ e,r}
 refine Yo (ops:=[.ref a,.ref s1.heap.objs.size]) (s:={ s1 with heap:=s1.heap.push { cls:=.type "slice",data:=.fields #[.none,.none,.int 2 s1.toks] },toks:=s1.toks+1 }) Η.typeIs PyProof.Rows.slot_tuple_getitem.lookup (pV Η (U0 ..) ?_ (by rw[hlen];exact hz)) (by with_unfolding_all rfl);refine{.ref _,_,I4.laid (t':=s1.toks+1) (o:=.tup (gJ xs)) (λb ob q=>RE _ q) (OW _) ?_,rfl,q _ (I4.Å.fresh (OW _))};exact{O6 (yG xs) hz,_,r.gJ,IsTup.new _ _}
theorem aL(h:X.mg x=YV (.ref a))(hg:Gl X x:=by rfl)(hd:(x==("__debug__":Str))=false:=by decide):PE X (.Name x pos) (tC (.ref a)):=wc hg h rfl hd
end
end L2
set_option maxHeartbeats 4000000
namespace L2
open PySem PySem.Spec PyProof.Rows
open PySem.W (Looks InstAt looks_findIn looks_mroIn looks_clsIn looks_find)
abbrev ł:List RC:=[.type "ValueError",.type "Exception",.type "BaseException",.type "object"]
def rg:List RC->Bool
 | []=>false
 |v::r=>(v::r)==ł||(match v with| .ref _=>rg r|_=>false)
theorem wN(hT:ł.contains (.type T)=true):∀{l:List RC},rg l=true->l.contains (.type T)=true
 | [],h=>by cases h
 |v::r,h=>by
  unfold rg at h;rcases Bool.or_eq_true_iff.mp h with q|q
  ·rw[beq_iff_eq.mp q];exact hT
  split at q
  ·rw[QW,wN hT q,Q7]
  cases q
theorem Cj (self):∀{l:List RC},rg l=true->refuseLoop self "__setattr__" l=pure Unit.unit
 | [],h=>by cases h
 |v::r,h=>by
  unfold rg at h;rcases Bool.or_eq_true_iff.mp h with q|q
  ·rw[beq_iff_eq.mp q];exact PySem.F.store_ValueError.passes self
  split at q
  ·rw[Yv];exact Cj self q
  cases q
structure ä(K:RG)(C:RB):Prop where
 ex:∃(nm q:Str)(N:RB)(bs bm:List RC)(sn:List Str)(sub:List RC)(ab:Bool)(col:Option Bool)(dd:Option RB)(k0 k1 k2 k3 k5:Option RC),
  K.lookup C=YV (Vb nm q C N bs bm true sn sub ab col dd k0 k1 k2 k3 k5 "ValueError.__new__")/\rg bm=true/\∀h:R8,K.In h->OwnTail h ł bm
 ga:RZ K (.ref C) "__getattribute__"=YV (YV (.builtin "BaseException.__getattribute__"))
 gh:RZ K (.ref C) "__getattr__"=YV YW
 sa:RZ K (.ref C) "__setattr__"=YV (YV (.builtin "object.__setattr__"))
 cl:RZ K (.ref C) "__class__"=YV (YV (.builtin "object.__class__"))
 cg:SQ K (.builtin "object.__class__") "__get__"=YV (YV (.builtin "getset_descriptor.__get__"))
 ct:T4 K (.builtin "object.__class__")=YV true
 kp:SG K (.ref C)=true
section
variable{K:RG}{C:RB}
theorem ä.cls(c:ä K C):∃cd bm,YS K C=YV cd/\cd.mro=.ref C::bm/\rg bm=true/\cd.hasDict=true:=by
 obtain⟨nm,q,N,bs,bm,sn,sub,ab,col,dd,k0,k1,k2,k3,k5,lk,up,_⟩:=c.ex;exact{_,bm,by unfold YS;rw[lk],rfl,up,rfl}
theorem ä.mro(c:ä K C)(hT:ł.contains (.type T)=true):Xb K C (.type T)=YV true:=by
 obtain⟨cd,bm,h1,h2,up,_⟩:=c.cls;unfold Xb;rw[h1,Rl,h2,QW,wN hT up,Q7];rfl
theorem ä.at(c:ä K C)(X:K.In h):∃nm q N bs bm sn sub ab col dd k0 k1 k2 k3 k5,
  h.get? C=YV (Vb nm q C N bs bm true sn sub ab col dd k0 k1 k2 k3 k5 "ValueError.__new__")/\rg bm=true/\OwnTail h ł bm:=by
 obtain⟨nm,q,N,bs,bm,sn,sub,ab,col,dd,k0,k1,k2,k3,k5,lk,up,tl⟩:=c.ex
 exact{nm,q,N,bs,bm,sn,sub,ab,col,dd,k0,k1,k2,k3,k5,X _ _ lk,up,tl h X}
end
section
variable{prog:Program}{w:RS}{A:Sd}{E:RC->RF->Prop}{s:RF}{K:RG}{x C:RB}{ox:Obj}{od:Option Obj}{name:Str}
theorem Gr:builtinKind "BaseException.__getattribute__"=YV .slot:=by decide+kernel
theorem DJ:splitId "BaseException.__getattribute__"=YV ("BaseException","__getattribute__"):=by decide+kernel
theorem BL{fill expr tk Q}(X:K.In s.heap)(c:ä K C)(I:InstAt s.heap x ox C od)
  (h:codeAny (RK prog w) A (.call (.builtin "BaseException.__getattribute__") {[.ref x,.str name tk],[]}) (λr s'=>match r with| .ok (.ret v)=>WL v=true/\Q v s'|_=>False) s) :
  wpAny (RK prog w) A (YK (.ref x) (.str name tk) fill expr) Q E s:=by
 obtain⟨hp,g,d,t,os⟩:=s
 have L0:=I.type (M:=RK prog w)
 have L1:=looks_findIn (M:=RK prog w) X c.ga
 have L2:=looks_findIn (M:=RK prog w) X c.gh
 unfold YK
 refine wpAny_holding (RA (L0.at (RA (L1.at ?_))))
 have e0:(WC "BaseException.__getattribute__"==WC "object.__getattribute__")=false:=by decide+kernel
 dsimp only
 rw[if_neg (by rw[e0,Ro];exact O3)]
 unfold getAttrByItsOwn
 refine RA (show wpAny _ _ (typeLookup (.ref C) "__getattr__") _ _ _ from L2.at ?_)
 refine RA (Vh (wpAny_holding ?_))
 have e:Xz (.ref x) (.str name tk) (.builtin "BaseException.__getattribute__") expr=Yw (.builtin "BaseException.__getattribute__") (.ref x) (.str name tk):=by
  unfold Xz;cases expr<;>rfl
 rw[e]
 unfold Yw
 rw[PySem.F.attr_ValueError.ga.bind]
 refine RA (RD (T3 (Tf h λr s' z=>?_)))
 cases r with
 |error q=>exact z.elim
 |ok fl=>
  cases fl with
  |ret v=>
   show wpAny _ _ (handedOut v) _ _ _
   rw[W.handedOut_of z.1]
   exact RD z.2
  |next=>exact z.elim
  |brk=>exact z.elim
  |cont=>exact z.elim
theorem uY(X:K.In s.heap)(c:ä K C)(I:InstAt s.heap x ox C od)
  (h:wpAny (RK prog w) A.in1 (Tu.«object.__getattribute__» {[.ref x,.str name tk],[]}) (λfin s'=>match fin with| .done f=>R (.ok f) s'| .again c'=>c'.quiet=true/\codeAny (RK prog w) A c' R s') (λe s'=>R (.error e) s') s) :
  codeAny (RK prog w) A (.call (.builtin "BaseException.__getattribute__") {[.ref x,.str name tk],[]}) R s:=by
 have sub:Looks (RK prog w) s.heap (Yx (.ref x) (.type "BaseException")) true:=I.type.andThen (V4 X (c.mro (by decide+kernel)))
 exact UE PySem.F.attr_ValueError.ga.plain PySem.F.entry_bexc_ga (@W.check_slot (RK prog w) _ _ s "BaseException.__getattribute__" "BaseException" "__getattribute__" (.ref x) [.str name tk] [] _ Gr DJ sub (PySem.F.args_bexc_ga _ _) h)
theorem EC(X:K.In s.heap)(c:ä K C)(I:InstAt s.heap x ox C od)(hf:XA K C od name=YV (.value v))(h:R (.ok (.ret v)) s) :
  codeAny (RK prog w) A (.call (.builtin "BaseException.__getattribute__") {[.ref x,.str name tk],[]}) R s:=by
 refine uY X c I ?_
 obtain⟨hp,g,d,t,os⟩:=s
 have L0:=I.type (M:=RK prog w)
 have L1:=WU (M:=RK prog w) X I hf
 refine RA (RD (RA (RD (RA (L0.at (RA (L1.at ?_)))))))
 exact RD h
theorem NX(X:K.In s.heap)(c:ä K C)(I:InstAt s.heap x ox C od)(hf:XA K C od name=YV (.value v))(hh:WL v=true)(h:Q v { s with toks:=s.toks+1 }) :
  wpAny (RK prog w) A (W8 (.ref x) name expr) Q E s:=by
 unfold W8
 refine RA (wpAny_mkText ?_)
 exact BL (s:={ s with toks:=s.toks+1 }) X c I (EC (s:={ s with toks:=s.toks+1 }) X c I hf ⟨hh,h⟩)
theorem OM(X:K.In s.heap)(c:ä K C)(I:InstAt s.heap x ox C od)(h:Q (YV (.ref C)) { s with toks:=s.toks+1 }):wpAny (RK prog w) A (Yy (.ref x) "__class__") Q E s:=by
 obtain⟨cd,bm,hc,_⟩:=c.cls;have hf:XA K C od "__class__"=YV (.bind (.builtin "getset_descriptor.__get__") (.builtin "object.__class__")):=by
  unfold XA;rw[hc,Rl,c.cl,Rl];simp[c.cg,c.ct]
 unfold Yy getAttrBy?;refine RA (wpAny_mkText (RA (Vh ?_)));refine BL (s:={ s with toks:=s.toks+1 }) X c I (uY (s:={ s with toks:=s.toks+1 }) X c I ?_);obtain⟨hp,g,d,t,os⟩:=s;have L0:=I.type (M:=RK prog w);have L1:=WU (M:=RK prog w) X I hf;refine RA (RD (RA (RD (RA (L0.at (RA (L1.at ?_)))))));show wpAny _ _ (U5 _ _ _ _) _ _ _;unfold U5;refine RA (wpAny_holding (T3 (W.class_get (ox:=ox) (od:=od) X I (c.mro (by decide+kernel)) ?_)));exact RD ⟨rfl,RD h⟩
theorem FQ(c:ä K C):W.KitX K (.ref x) (.ref C) (λh=>InstAt h x ox C od) where
 ty:=λ_ _ _ I=>I.type
 it:=λ_ _ X _=>by
  obtain⟨nm,q,N,bs,bm,sn,sub,ab,col,dd,k0,k1,k2,k3,k5,lk,_⟩:=c.ex;intro A' Q' E' s' k z;unfold isType loadHead;exact RA (Ub (k _ _ (X _ _ lk)) (RD z))
 ne:=λh tp dd Á n sl X é=>by
  refine QJ.mpr λq=>?_;obtain⟨nm,q',N,bs,bm,sn,sub,ab,col,dd,k0,k1,k2,k3,k5,lk,_⟩:=c.ex;have e:C=tp:=WD (beq_iff_eq.mp q);subst e;have z:=congrArg (λo:Obj=>o.data) (RQ ((X _ _ lk).symm.trans é));cases z
 ca:=λX I k=>OM X c I k
theorem Ni(X:K.In s.heap)(c:ä K C)(I:InstAt s.heap x ox C od)(n:aJ K C name)
  (h:wpAny (RK prog w) A.in1 (Builtin.ObjectAttr.storeInOwnDict (.ref x) (.ref C) (.str name tk) name v false)
   (λfin s'=>match fin with| .done f=>R (.ok f) s'| .again c'=>c'.quiet=true/\codeAny (RK prog w) A c' R s') (λe s'=>R (.error e) s') s) :
  codeAny (RK prog w) A (.call (.builtin "object.__setattr__") {[.ref x,.str name tk,v],[]}) R s:=by
 have SF:=PySem.F.store_object
 obtain⟨cd,bm,hc,hm,up,_⟩:=c.cls
 have sub:Looks (RK prog w) s.heap (Yx (.ref x) (.type "object")) true:=I.type.andThen (V4 X (c.mro (by decide+kernel)))
 refine UE SF.slot.plain SF.entry (@W.check_slot (RK prog w) _ _ s "object.__setattr__" "object" "__setattr__" (.ref x) [.str name tk,v] [] _ SF.kind SF.split sub (SF.args (.ref x) (.str name tk) v) ?_)
 have hmro:Looks (RK prog w) s.heap (mroOf (.ref C)) (.ref C::bm):=by rw[<-hm];exact(looks_clsIn X hc).andThen .now
 have hfind:Looks (RK prog w) s.heap (typeLookup (.ref C) name) YW:=looks_findIn X n
 rw[W.osa_eq,refuse_eq]
 refine RA (RA (I.type.here (RA (hmro.here ?_))))
 rw[Yv,Cj _ up]
 refine RD (RA (I.type.here (RA (hfind.here (RA (RD ?_))))))
 exact h
end
def yX(e C:RB)(od:Option RB)(fl:Bool)(h:R8):Prop:=∃ob vs,h.get? e=YV ob/\ob.cls=.ref C/\ob.dict=od/\ob.data=.fields vs/\5<vs.size/\(fl=false->vs[1]?=YV .none)
def xo(e C:RB)(od:Option RB)(fl:Bool):HO:=.ext (yX e C od fl)
def JF(dx:RB)(fs:List (Str×V))(h:R8):Prop:=fs.length<=1000/\∃mA,h.Ns1 dx mA/\(∀f,iH (fs.lookup f) (mA f))/\VB mA (fs.map (·.1))
def xf(dx:RB)(fs:List (Str×V)):HO:=.ext (JF dx fs)
section
variable{P:Program}{w:RS}{H:Hp}{h:R8}{e C dx:RB}{od:Option RB}{fl:Bool}{fs:List (Str×V)}
theorem Fo(x:yX e C od fl h):bO P w H h e (xo e C od fl):=by
 obtain⟨ob,vs,h1,r⟩:=id x;exact{x,⟨ob,h1⟩,λh1 h2 ⟨ob,vs,g,r⟩ k=>{ob,vs,k _ g,r}}
theorem Jh(x:JF dx fs h):bO P w H h dx (xf dx fs):=by
 obtain⟨_,mA,⟨o,_,_,h1,_⟩,_⟩:=id x;exact{x,⟨o,h1⟩,λh1 h2 ⟨z,mA,n,r⟩ k=>⟨z,mA,n.at k,r⟩}
end
section
variable{X:Cx}{pins:List (RB×Obj)}{B:St}{H:Hp}{s:RF}{a C dx:RB}{od:Option RB}{fl:Bool}{fs:List (Str×V)}{f:Str}{v:V}{A:Sd}{E:RC->RF->Prop}
theorem Inv.xc(I:Inv X pins B H s)(e:H a=YV (xo a C od fl)):yX a C od fl s.heap:=(show bO X.prog X.w H s.heap a (xo a C od fl)from I.Å a _ e).1
theorem Inv.xf(I:Inv X pins B H s)(e:H dx=YV (L2.xf dx fs)):JF dx fs s.heap:=(show bO X.prog X.w H s.heap dx (L2.xf dx fs)from I.Å dx _ e).1
theorem yX.inst(x:yX a C (YV dx) fl h)(q:h.get? dx=YV o):∃ox,InstAt h a ox C (YV o)/\ox.dict=YV dx:=by
 obtain⟨ob,vs,h1,h2,h3,h4,_⟩:=x;exact{ob,{h1,h2,by unfold W.notCls;rw[h4],by rw[h3];exact q},h3}
theorem yX.Jg(x:yX a C YW fl h):∃ox,InstAt h a ox C YW/\ox.dict=YW:=by
 obtain⟨ob,vs,h1,h2,h3,h4,_⟩:=x;exact{ob,{h1,h2,by unfold W.notCls;rw[h4],by rw[h3];trivial},h3}
theorem ä.hd{K}(c:ä K C):UC K C=true:=by
 obtain⟨cd,bm,h1,_,_,h4⟩:=c.cls;unfold UC;rw[h1];exact h4
theorem Inv.NY(I:Inv X pins B H s)(ea:H a=YV (xo a C od fl))(ed:∀dx,od=YV dx->∃fs,H dx=YV (L2.xf dx fs)):∃ox oo,InstAt s.heap a ox C oo:=by
 cases od with
 |none=>obtain⟨ox,J,_⟩:=(I.xc ea).Jg;exact⟨ox,YW,J⟩
 |some dx=>
  obtain⟨fs,q⟩:=ed dx rfl;obtain⟨_,mA,⟨o,_,_,h1,_⟩,_⟩:=I.xf q;obtain⟨ox,J,_⟩:=(I.xc ea).inst h1;exact⟨ox,YV o,J⟩
theorem yS(I:Inv X pins B H s)(ea:H a=YV (xo a C (YV dx) fl))(ed:H dx=YV (L2.xf dx fs))(c:ä X.K C)(n:aJ X.K C f)(l:fs.lookup f=YV v)
  (h:∀u s',Inv X pins B H s'->Y0 v u->Q u s'):wpAny (RK X.prog X.w) A (W8 (.ref a) f b) Q E s:=by
 obtain⟨_,mA,ns,r,_⟩:=I.xf ed
 obtain⟨od,ho,hl⟩:=qv ns
 obtain⟨ox,J,_⟩:=(I.xc ea).inst ho
 obtain⟨u,hu,ru⟩:=iH.some_of (v:=v) (o:=mA f) (by rw[<-l];exact r f)
 exact NX I.Þ c J (W.findObj_own c.hd n rfl (by rw[hl,hu])) (uZ ru) (h u _ (I.tok _) ru)
theorem xr(I:Inv X pins B H s)(ea:H a=YV (xo a C YW fl))(c:ä X.K C)(n:aJ X.K C f)(ry:Y0 y u)
  (h:∀dx s',H dx=YW->dx≠a->Inv X pins B (upd (upd H a (xo a C (YV dx) fl)) dx (L2.xf dx [(f,y)])) s'->Q Unit.unit s'):wpAny (RK X.prog X.w) A (YR (.ref a) f u) Q E s:=by
 obtain⟨ob,vs,h1,h2,h3,h4,h5,h6⟩:=id (I.xc ea)
 obtain⟨ox,J,_⟩:=(I.xc ea).Jg
 obtain⟨cd,bm,hc,hm,up,hd⟩:=c.cls
 refine XR I.Þ J c.sa (Ni (s:={ s with toks:=s.toks+1 }) I.Þ c J n ?_)
 obtain⟨hp,g,d,t,os⟩:=s
 obtain⟨oc,od,Β,æ⟩:=ob
 dsimp only at h2 h3 h4
 subst h2 h3 h4
 have ne:hp.objs.size≠a:=P8 (RH h1)
 refine RA (RD (RA (RA (Ub h1 (RA (Looks.here (s:={hp,g,d,t+1,os}) (looks_clsIn I.Þ hc) ?_))))))
 rw[hd]
 have ĝ:(hp.push { cls:=.type "dict",data:=.dict #[] }).get? a=YV ⟨.ref C,YW,.fields vs,æ⟩:=RE _ h1
 refine RA (wpAny_alloc' (RA (wpAny_update' ĝ (RD ?_))))
 refine RA (RD (RA ?_))
 have hgd:((hp.push { cls:=.type "dict",data:=.dict #[] }).update a λo=>{ o with dict:=YV hp.objs.size }).get? hp.objs.size=YV { cls:=.type "dict",data:=.dict #[] }:=
  (RI _ _ (Pm ne)).trans (RL _ rfl)
 have hnd:((hp.push { cls:=.type "dict",data:=.dict #[] }).update a λo=>{ o with dict:=YV hp.objs.size }).Ns hp.objs.size (λ_=>YW):=⟨_,#[],_,hgd,rfl,λe he=>absurd he (by simp),λ_=>rfl⟩
 refine W9 (Xa hnd) λh' ϥ hs=>?_
 obtain⟨oD,esD,epD,hoD,hdD,hcD⟩:=ϥ.count (Within.cons f u Within.nil)
 refine RA (Vp hoD (by rw[hdD];exact Vq (O6 hcD (by rw[Td,Pf,P5];lia))) ?_)
 refine RD (h hp.objs.size _ (I.Å.fresh (OW _)) ne ?_)
 have ha2:∀k,(hp.update a k).objs.size=hp.objs.size:=λk=>Ui ..
 have I1:=I.write (x:=a) (e:=a) (o:=xo a C (YV hp.objs.size) fl) (h':=hp.update a λo=>{ o with dict:=YV hp.objs.size }) (t':=t) (by rw[ea];exact PV) (.inl rfl)
  (λb q hb z=>(RI _ _ (Pm hb)).trans z) {_,RR _ h1 rfl} (Fo {_,vs,RR _ h1 rfl,rfl,rfl,rfl,h5,h6})
 have I2:=I1.laid (a:=hp.objs.size) (o:=L2.xf hp.objs.size [(f,y)]) (h':=h') (t':=t+1+1) (λb q z=>?_) (Ri (ha2 _)) (Jh {(by show 1<=1000;decide),_,ϥ,λg=>?_,λg hg=>?_})
 ·exact I2
 ·by_cases hb:b=a
  ·subst hb;rw[RR _ h1 rfl]at z;cases z;exact(hs.2 b (Pm ne)).trans (RR _ ĝ rfl)
  rw[RI _ _ (Pm hb)]at z;have nb:b≠hp.objs.size:=Ph (RH z);exact(hs.2 b nb).trans ((RI _ _ (Pm hb)).trans (RE _ z))
 ·show iH (S5 g [(f,y)]) (if g=f then YV u else YW);by_cases q:g=f
  ·subst q;rw[if_pos rfl];simp only[S5,beq_self_eq_true];exact ry
  rw[if_neg q];simp only[S5,beq_eq_false_iff_ne.mpr q];trivial
 have q:g=f:=by
  by_cases q:g=f
  ·exact q
  exact absurd (if_neg q) hg
 simp[q]
theorem yr(I:Inv X pins B H s)(ea:H a=YV (xo a C (YV dx) fl))(ed:H dx=YV (L2.xf dx fs))(c:ä X.K C)(n:aJ X.K C f)(hl:fs.length<1000)(ry:Y0 y u)
  (h:∀s',Inv X pins B (upd H dx (L2.xf dx (bN f y fs))) s'->Q Unit.unit s'):wpAny (RK X.prog X.w) A (YR (.ref a) f u) Q E s:=by
 obtain⟨_,mA,ns,r,wi⟩:=I.xf ed
 obtain⟨od,ho,_⟩:=qv ns
 obtain⟨ob,vs,h1,h2,h3,h4,h5,h6⟩:=id (I.xc ea)
 obtain⟨ox,J,_⟩:=(I.xc ea).inst ho
 obtain⟨cd,bm,hc,hm,up,hd⟩:=c.cls
 refine XR I.Þ J c.sa (Ni (s:={ s with toks:=s.toks+1 }) I.Þ c J n ?_)
 obtain⟨hp,g,d,t,os⟩:=s
 obtain⟨oc,od,Β,æ⟩:=ob
 dsimp only at h2 h3 h4
 subst h2 h3 h4
 refine RA (RD (RA (RA (Ub h1 (RA (Looks.here (s:={hp,g,d,t+1,os}) (looks_clsIn I.Þ hc) ?_))))))
 rw[hd]
 refine RD (a:=YV dx) (RA (RD (RA ?_)))
 refine W9 (s:={hp,g,d,t+1,os}) ns λh' ϥ hs=>?_
 obtain⟨oD,esD,epD,hoD,hdD,hcD⟩:=ϥ.count (Within.cons f u wi)
 refine RA (Vp hoD (by rw[hdD];exact Vq (O6 hcD (by rw[Pf,OU,Td];lia))) ?_)
 refine RD (h _ ?_)
 refine I.write (x:=dx) (e:=dx) (t':=t+1+1) (by rw[ed];exact PV) (.inl rfl) (λb q hb z=>(hs.2 b hb).trans z) ⟨oD,hoD⟩ (Jh {?_,_,ϥ,λg=>?_,λg hg=>?_})
 ·have:=lY f y fs;lia
 ·show iH ((bN f y fs).lookup g) (if g=f then YV u else mA g);rw[mI];by_cases q:g=f
  ·rw[if_pos q,if_pos q];exact ry
  rw[if_neg q,if_neg q];exact r g
 by_cases q:g=f
 ·rw[q];exact(ko f y fs).1
 refine(ko f y fs).2 g (wi g λz=>hg ?_)
 show(if g=f then YV u else mA g)=YW
 rw[if_neg q];exact z
end
def ME(K:RG)(ta:TE)(f:Str):TE:=λB H Q=>ta B H λx H1=>∃a C dx fl fs v,x=.ref a/\H1 a=YV (xo a C (YV dx) fl)/\H1 dx=YV (L2.xf dx fs)/\ä K C/\aJ K C f/\fs.lookup f=YV v/\Q v H1
def Mz(K:RG)(ta tv:TE)(f:Str):TS:=λD B H=>tv B H λy H1=>ta B H1 λx H2=>∃a C fl,x=.ref a/\ä K C/\aJ K C f/\
  ((H2 a=YV (xo a C YW fl)/\∀dx,H2 dx=YW->dx≠a->D.nx B (upd (upd H2 a (xo a C (YV dx) fl)) dx (L2.xf dx [(f,y)])))\/
   ∃dx fs,H2 a=YV (xo a C (YV dx) fl)/\H2 dx=YV (L2.xf dx fs)/\fs.length<1000/\D.nx B (upd H2 dx (L2.xf dx (bN f y fs))))
section
variable{X:Cx}{o e value:Expr}{f:Str}{pos pos':Pos}{ta tv:TE}
theorem GS(he:PE X e ta)(hb:Sx e f X.env (Sj e X.env)=Sj e X.env):PE X (.Attribute e f pos) (ME X.K ta f):=by
 intro pins s B H Q I h;refine BN hb (È (he pins s B H _ I h) λu s1 z9=>?_);obtain⟨x,H1,I1,rx,a,C,dx,fl,fs,v,ex,ea,ed,c,n,l,q⟩:=z9;subst ex;obtain rfl:u=RM a:=rx;exact yS I1 ea ed c n l λu' s2 I2 ru=>⟨v,H1,I2,ru,q⟩
theorem Bi(ha:PE X o ta)(hv:PE X value tv)(hs:Vn value (YV (.Attribute o f pos')) pos.line X.env=pure false):PS X (.Assign [.Attribute o f pos'] value pos) (Mz X.K ta tv f):=by
 intro pins s B H D I h;refine Um (È (hv pins s B H _ I h) λu s1 ⟨y,H1,I1,ry,q⟩=>È (ha pins s1 B H1 _ I1 q) λov s2 ⟨x,H2,I2,rx,a,C,fl,ex,c,n,z⟩=>?_) hs;subst ex;obtain rfl:ov=RM a:=rx;rcases z with⟨ea,q2⟩|⟨dx,fs,ea,ed,l,q2⟩
 ·exact xr I2 ea c n ry λdx s3 h1 h2 I3=>{B,_,I3,q2 dx h1 h2}
 exact yr I2 ea ed c n l ry λs3 I3=>{B,_,I3,q2}
theorem DM:cO X (.builtin "isinstance") (λxs H Q=>∃a C od fl b y,xs=[.ref a,y]/\H a=YV (xo a C od fl)/\(∀dx,od=YV dx->∃fs,H dx=YV (L2.xf dx fs))/\ä X.K C/\uG y≠ .none/\R0 X.K (.ref C) (uG y)=YV b/\Q (.bl b) H):=by
 rintro pins s B H xs us Q I r ⟨a,C,od,fl,b,y,rfl,ea,ed,c,hy,hk,q⟩;obtain⟨u,w',rfl,ru,Ĥ⟩:=Ze r;obtain rfl:u=RM a:=ru;obtain rfl:=zw Ĥ hy;obtain⟨ox,oo,J⟩:=I.NY ea ed;exact To (FQ c) I.Þ J hk (λz=>nomatch z) λtk=>{.bl b,H,I.tok _,rfl,q}
end
section
variable{prog:Program}{w:RS}{A:Sd}{E:RC->RF->Prop}{h:R8}{g:Array UA}{d:Drawn}{t:Nat}{os:So}{K:RG}{C fI:RB}{rest:List RC}
theorem FJ(X:K.In h)(c:ä K C)(hi:RZ K (.ref C) "__init__"=YV (YV (.ref fI)))(hf:VF K (.ref fI)=true)(Ů:rest.length<=sizeLine)
  (hq:∀h' e,h.objs.size<=e->V5 h h' e (.ref C) rest->wpAny (RK prog w) A (call (.ref fI) (.ref e::rest)) (λr s'=>r=.none/\Q (.done (.ret (.ref e))) s') E ⟨h',g,d,t,os⟩) :
  wpAny (RK prog w) A (Tu.«type.__call__» {.ref C::rest,[]}) Q E ⟨h,g,d,t,os⟩:=by
 obtain⟨nm,q,N,bs,bm,sn,sub,ab,col,dd,k0,k1,k2,k3,k5,hC,up,T⟩:=c.at X
 have BF:=PySem.F.excBase_ValueError
 repeat (first|with_reducible refine wpAny_loadPart_at hC ?_|with_reducible refine wpAny_madeBy_exc hC ?_|wp_step)
 refine codeAny_call_builtin_code (U2 _ BF.quiet) (wpAny_check_new_subT BF T hC (codeAny_exc_new_subT BF T hC ?_ Ů))
 generalize hx:(h.push { cls:=.type "tuple",data:=.seq rest.toArray }).push { cls:=.ref C,data:=.fields #[.ref h.objs.size,.none,.none,.none,.bool false,.none] }=hh
 have keep:∀b o,h.get? b=YV o->hh.get? b=YV o:=λb o z=>by rw[<-hx];exact RE _ (RE _ z)
 have hgt:hh.get? (h.objs.size+1)=YV { cls:=.ref C,data:=.fields #[.ref h.objs.size,.none,.none,.none,.bool false,.none] }:=by rw[<-hx];heap_get
 have hgt0:hh.get? h.objs.size=YV { cls:=.type "tuple",data:=.seq rest.toArray }:=by rw[<-hx];exact RE _ (Heap.get?_push_at rfl rfl)
 have X1:K.In hh:=X.keeps keep
 have L1:=looks_findIn (M:=RK prog w) X1 hi
 have L2:=W.bind_fn (M:=RK prog w) X1 (.ref (h.objs.size+1)) (beq_iff_eq.mp hf)
 have hC1:=keep _ _ hC
 have hself:(RM C::bm).contains (.ref C)=true:=by simp
 have M:V5 h hh (h.objs.size+1) (.ref C) rest:={keep,UB (Qb _),h.objs.size,hgt,UB (OW _),hgt0}
 show wpAny _ _ _ _ _ _
 unfold Yx
 repeat (first|with_reducible refine wpAny_loadPart_at hgt ?_|(with_reducible refine wpAny_isSubtype_exc hC1 ?_;rw[hself])|wp_step)
 show wpAny _ _ (typeLookup (.ref C) _) _ _ _
 refine L1.at (wpAny_holding (RA (L2.at (RA (Sz (hq hh _ (Qb _) M) (λr s' z=>?_) λ_ _ z=>z)))))
 obtain⟨rfl,z⟩:=z
 wp_walk
 exact z
theorem NG(X:K.In h)(c:ä K C)(hi:RZ K (.ref C) "__init__"=YV (YV (.ref fI)))(hf:VF K (.ref fI)=true)(Ů:rest.length<=sizeLine)
  (hq:∀h' e,h.objs.size<=e->V5 h h' e (.ref C) rest->wpAny (RK prog w) (A.under (.builtin "type.__call__" {.ref C::rest,[]})) (call (.ref fI) (.ref e::rest)) (λr s'=>r=.none/\Q (.ref e) s') E ⟨h',g,d,t,os⟩) :
  wpAny (RK prog w) A (call (.ref C) rest) Q E ⟨h,g,d,t,os⟩:=by
 obtain⟨nm,q,N,bs,bm,sn,sub,ab,col,dd,k0,k1,k2,k3,k5,hC,up,T⟩:=c.at X
 have f1:=tc_lookup
 have f2:=tc_bind (.ref C)
 have hT:(⟨h,g,d,t,os⟩:RF).TypeIs (.ref C) "type":={_,hC,rfl}
 refine T3 (VN (show wpAny _ _ (callAny (.ref C) _) _ _ _ from ?_))
 repeat (any_goals (first|assumption|with_reducible refine wpAny_loadPart_at hC ?_|wp_step))
 exact{rfl,codeAny_call_builtin_at (U2 _ (by decide+kernel)) entry_typeCall (wpAny_check_type_call_sub hC (FJ X c hi hf Ů hq))}
end
structure XMk(K:RG)(C f:RB):Prop where
 cl:ä K C
 init:RZ K (.ref C) "__init__"=YV (YV (.ref f))
 fn:VF K (.ref f)=true
def Gn(C:RB)(sp:Sp)(t:TA):TE:=λB H Q=>t B H λvs H1=>vs.length<=sizeLine/\∀x,H1 x=YW->sp (.ref x::vs) (upd H1 x (xo x C YW false)) (λv H2=>v=.Ä/\Q (.ref x) H2) E0
section
variable{X:Cx}{k:Nat}{f C:RB}{fd:Te}{ps:List Str}{sp:Sp}{x:Str}{p pos:Pos}{e:Expr}{es:List Expr}{t:TA}
theorem C5(M:XMk X.K C f)(F:hZ X.prog X.w X.K X.mg X.base ġ k f fd ps sp)(hr:cN (k+1) X.A)(hb:Y3 X.K fd ps [])
  (I:Inv X pins B H s) (r:Y1 vs us) (hz:vs.length<=sizeLine) (h:∀x,H x=YW->sp (.ref x::vs) (upd H x (xo x C YW false)) (λv H2=>v=.Ä/\Q (.ref x) H2) E0) :
  wpAny (RK X.prog X.w) X.A (call (.ref C) us) (EP X pins B Q) X.xe s:=by
 obtain⟨hh,g,d,tk,os⟩:=s
 refine NG I.Þ M.cl M.init M.fn (by rw[<-r.length];exact hz) λh' e hle m=>?_
 obtain⟨t0,ht,_,_⟩:=m.there
 have I2:Inv X pins B (upd H e (xo e C YW false)) ⟨h',g,d,tk,os⟩:=I.laid (h':=h') (t':=tk) m.keeps hle (Fo {_,_,ht,rfl,rfl,rfl,(by decide:5<6),λ_=>rfl})
 have hq:=h e (I.Å.fresh hle)
 have r2:Y1 (V.ref e::vs) (RM e::us):=.cons rfl r
 have hl:(RM e::us++[]).length=ps.length:=by
  have z:=r2.length;rw[F.len _ _ _ _ hq]at z;rw[PH];exact z.symm
 have ų:=hb ⟨h',g,d,tk,os⟩ (RM e::us) I2.Þ hl
 rw[PH]at ų
 refine T3 (Tf (F.run _ X.stack _ _ {RM e::us,[]} (RM e::us) _ _ E0 (hr.make C us []) (I2.Dg.make C us []) ų r2 hq) λr s' Ĝ=>?_)
 cases r with
 |error e=>exact Ĝ.elim
 |ok fl=>
  cases fl with
  |ret u=>
   obtain⟨v,H',I3,rv,ev,q3⟩:=I2.after Ĝ
   subst ev
   exact{rv,⟨V.ref e,H',I3,rfl,q3⟩}
  |next=>exact Sn Ĝ
  |brk=>exact Sn Ĝ
  |cont=>exact Sn Ĝ
theorem EK(M:XMk X.K C f)(F:hZ X.prog X.w X.K X.mg X.base ġ k f fd ps sp)(hr:cN (k+1) X.A)(hm:X.mg x=YV (.ref C))(hb:Y3 X.K fd ps [])
  (ha:PA X (e::es) t) (hg:Gl X x:=by rfl) (ì:(x==("__debug__":Str))=false:=by decide) (he:RJ (e::es) X.env=(false,Sj e X.env)::RJ es X.env:=by rfl) (ê:(Sk pos (RJ es X.env)).any (·.1)=false:=by rfl) :
  PE X (.Call (.Name x p) (e::es) [] pos) (Gn C sp t):=by
 intro pins s B H Q I h
 refine Sq (jo I hg hm ?_ ì)
 refine UO (h₀:=X.base) I.ok.mod.Ζ M.cl.kp (È (ha pos pins s B H _ I h) λus s1 ⟨vs,H1,I1,r,z,q⟩=>{I1.Þ,?_}) he ê
 exact C5 M F hr hb I1 r z q
end
section
variable{M:Model}{A:Sd}{E:RC->RF->Prop}{s:RF}{env:Env}{K:RG}
theorem JG(hh:A.handled=YW)
  (h:wpAny M A x (λv s₁=>∃e C ob vs,v=.ref e/\K.In s₁.heap/\ä K C/\s₁.heap.get? e=YV ob/\ob.cls=.ref C/\ob.data=.fields vs/\vs[1]?=YV .none/\E (.ref e) s₁) E s) :
  wpAny M A (raiseStmt env (YV x) YW) Q E s:=by
 unfold raiseStmt
 refine RA (Sz h (λv s₁ z=>?_) λ_ _ z=>z)
 obtain⟨e,C,⟨oc,od,Β,æ⟩,vs,rfl,X,c,he,hc,hd,h1,hE⟩:=z
 dsimp only at hc hd
 subst hc hd
 obtain⟨nm,q,N,bs,bm,sn,sub,ab,col,dd,k0,k1,k2,k3,k5,hC,up,T⟩:=c.at X
 obtain⟨hp,g,d,tk,os⟩:=s₁
 have hcB:(RM C::bm).contains (.type "BaseException")=true:=by rw[QW,wN (by decide+kernel) up,Q7]
 repeat (first|with_reducible refine wpAny_loadPart_at he ?_|with_reducible refine wpAny_loadPart_at hC ?_|with_reducible refine wpAny_field he rfl h1 ?_|(with_reducible refine wpAny_isSubtype_exc hC ?_;rw[hcB])|wp_step)
 exact wpAny_raiseNew_none hh hE
end
section
variable{M:Model}{A:Sd}{E:RC->RF->Prop}{s:RF}{env:Env}{outer:List Env}{base:R8}{L e:RB}{oe:Obj}{vs:Array RC}
theorem rY(ϧ:A.frames=YV (env::outer))(hl:s.heap.FunFrames base (env::outer))(hf:env.frame=YV L)
  (he:s.heap.get? e=YV oe) (hd:oe.data=.fields vs) (hsz:1<vs.size)
  (h:∀h' oT ts,(∀b o,b∉å (env::outer)->b≠e->s.heap.get? b=YV o->h'.get? b=YV o)->(∀b o,b∈å (env::outer)->s.heap.get? b=YV o->∃sl,h'.get? b=YV { o with slots:=sl })->
   h'.get? e=YV (oe.mapFields (·.setIfInBounds 1 (.ref s.heap.objs.size)))->s.heap.objs.size≠e->h'.get? s.heap.objs.size=YV oT->oT.data=.fields ts->3<ts.size->Q Unit.unit { s with heap:=h' }) :
  wpAny M A (do let a<-frameOf env;let pl<-entryPlaceOf L hadNext;let b<-Wo head a .none (S6 L) .none pl;setField (.ref e) 1 b) Q E s:=by
 have ene:e∉å (env::outer):=λz=>by
  obtain⟨_,o,ho,nf⟩:=hl.mem z;rw[he]at ho;cases ho;exact nf vs hd
 refine RA (wpAny_frameOf_fun ϧ hl hf λh1 so=>RA (wpAny_entryPlaceOf λpl ê=>?_))
 unfold Wo newFields
 refine RA (R7 ?_ (ê.sizeOk5 _ _ _ _ _))
 generalize hT:({ cls:=.type "traceback",dict:=YW,data:=.fields ([head,.ref L,.none,S6 L,.none]++(if pl.isEmpty then RT 6 RW else pl)).toArray }:Obj)=oT
 have dT:∃ts,oT.data=.fields ts/\3<ts.size:=by
  rw[<-hT];exact{_,rfl,by simp only[O9,O5,Pf,P5];lia}
 obtain⟨ts,dT,zT⟩:=dT
 have he1:h1.get? e=YV oe:=(so.2.1 e ene).trans he
 have he2:(h1.push oT).get? e=YV oe:=RE _ he1
 have sz:h1.objs.size=s.heap.objs.size:=so.1
 have ne:h1.objs.size≠e:=P8 (RH he1)
 refine SU he2 hd hsz ?_
 have d3:=SD hd (·.setIfInBounds 1 (RM h1.objs.size))
 have fT:oT.isFreed=false:=Sf dT
 rw[<-sz]at h
 refine h _ oT ts (λb o hb ñ z=>?_) (λb o hb z=>?_) (RR _ he2 (Sf d3)) ne ?_ dT zT
 ·rw[RI _ _ (Pm ñ)];exact RE _ ((so.2.1 b hb).trans z)
 ·obtain⟨sl,q⟩:=so.2.2 b o z;have ñ:b≠e:=λw=>ene (w▸hb);exact{sl,by rw[RI _ _ (Pm ñ)];exact RE _ q}
 rw[RI _ _ (Pm ne)]
 exact RL _ fT
def Trc(h:R8)(L e:RB)(vs:Array RC):Prop:=
 vs[1]?=YV .none\/∃T oT ts,vs[1]?=YV (.ref T)/\T≠e/\h.get? T=YV oT/\oT.data=.fields ts/\3<ts.size/\(ts[3]?=YV .none\/ts[3]?=YV (S6 L))
theorem dH{h:R8}(hl:h.FunFrames base l)(hb:b∈å l)(z:h.get? b=YV o)(d:o.data=.fields vs):False:=by
 obtain⟨_,o',ho,nf⟩:=hl.mem hb;rw[z]at ho;cases ho;exact nf vs d
theorem Gp(ϧ:A.frames=YV (env::outer))(hl:s.heap.FunFrames base (env::outer))(hf:env.frame=YV L)
  (he:s.heap.get? e=YV oe) (hd:oe.data=.fields vs) (hsz:5<vs.size) (hT:Trc s.heap L e vs)
  (h:∀h' T ĥ ē oT ts,(∀b o,b∉å (env::outer)->b≠e->vs[1]?≠YV (.ref b)->s.heap.get? b=YV o->h'.get? b=YV o)->(∀b o,b∈å (env::outer)->s.heap.get? b=YV o->∃sl,h'.get? b=YV { o with slots:=sl })->
   (∀b o,vs[1]?=YV (.ref b)->s.heap.get? b=YV o->∃o',h'.get? b=YV o')->
   h'.get? e=YV ĥ->ĥ.cls=oe.cls->ĥ.dict=oe.dict->ĥ.data=.fields ē->ē.size=vs.size->ē[1]?=YV (.ref T)->T≠e->(s.heap.objs.size<=T\/vs[1]?=YV (.ref T))->
   h'.get? T=YV oT->oT.data=.fields ts->3<ts.size->ts[3]?=YV .none->Q Unit.unit { s with heap:=h' }) :
  wpAny M A (UR (.ref e) env) (λ_ s2=>wpAny M A (setFlight (.ref e) YW) Q E s2) E s:=by
 have ene:e∉å (env::outer):=λz=>dH hl z he hd
 have fin:∀{h1:R8}{oT:Obj}{ts:Array RC}{T:RB},h1.get? e=YV (oe.mapFields (·.setIfInBounds 1 (.ref T)))->T≠e->h1.get? T=YV oT->oT.data=.fields ts->3<ts.size->(s.heap.objs.size<=T\/vs[1]?=YV (.ref T))->T∉å (env::outer)->
   (∀b o,b∉å (env::outer)->b≠e->vs[1]?≠YV (.ref b)->s.heap.get? b=YV o->b≠T->h1.get? b=YV o)->(∀b o,b∈å (env::outer)->s.heap.get? b=YV o->∃sl,h1.get? b=YV { o with slots:=sl })->
   (∀b o,vs[1]?=YV (.ref b)->s.heap.get? b=YV o->∃o',h1.get? b=YV o')->(∀b o,s.heap.get? b=YV o->b=T->vs[1]?=YV (.ref b))->
   wpAny M A (setFlight (.ref e) YW) Q E { s with heap:=h1 }:=by
  intro h1 oT ts T g1 ne g2 g3 g4 fr Ŏ k1 k2 k3 k4
  have d3:=SD hd (·.setIfInBounds 1 (RM T))
  have q1:1<vs.size:=()
  have v1:(vs.setIfInBounds 1 (RM T))[1]?=YV (.ref T):=by simp[q1]
  unfold setFlight
  refine RA (wpAny_field g1 d3 v1 ?_)
  rw[if_pos (show(RM T !=RW)=true from by simp)]
  have fT:=SD g3 (·.setIfInBounds 3 ((YW:Option RB).elim RW λf=>S6 f))
  refine SU g2 g3 g4 (h _ T (oe.mapFields (·.setIfInBounds 1 (.ref T))) (vs.setIfInBounds 1 (.ref T)) _ _ (λb o hb ñ ď z=>?_) (λb o hb z=>?_) (λb o hb z=>?_) ?_ (Xh _ _) ?_ d3 (by simp) v1 ne fr (RR _ g2 (Sf fT)) fT (by simpa using g4) (by simp[g4]))
  ·have ĺ:b≠T:=λw=>ď (k4 b o z w);rw[RI _ _ (Pm ĺ)];exact k1 b o hb ñ ď z ĺ
  ·obtain⟨sl,q⟩:=k2 b o hb z;have ĺ:b≠T:=λw=>Ŏ (w▸hb);exact{sl,by rw[RI _ _ (Pm ĺ)];exact q}
  ·obtain⟨o',q⟩:=k3 b o hb z;by_cases ĺ:b=T
   ·exact{_,by rw[ĺ];exact RR _ g2 (Sf fT)}
   exact{o',by rw[RI _ _ (Pm ĺ)];exact q}
  ·rw[RI _ _ ne];exact g1
  obtain⟨oc,od,Β,æ⟩:=oe
  cases Β<;>rfl
 have fresh:∀b o,s.heap.get? b=YV o->b≠s.heap.objs.size:=λb o z=>Ph (RH z)
 have nfr:s.heap.objs.size∉å (env::outer):=λz=>by
  obtain⟨_,o,ho,_⟩:=hl.mem z;exact absurd (RH ho) (PU _)
 unfold UR
 simp only[hf]
 rcases hT with h1|⟨T,oT,ts,h1,ϔ,hT,dT,zT,fl⟩
 ·refine RA (wpAny_field he hd h1 ?_);rw[if_neg ∅];refine rY ϧ hl hf he hd () λh' oT ts k1 k2 k3 ne k4 k5 k6=>?_;exact fin k3 ne k4 k5 k6 (.inl (OW _)) nfr (λb o hb ñ _ z _=>k1 b o hb ñ z) k2 (λb o hb _=>by rw[h1]at hb;cases hb) λb o z w=>absurd w (fresh b o z)
 refine RA (wpAny_field he hd h1 ?_)
 rw[if_pos (show(RM T !=RW)=true from by simp)]
 have Ŏ:T∉å (env::outer):=λz=>dH hl z hT dT
 rcases fl with fl|fl
 ·refine RA (wpAny_field hT dT fl ?_);rw[if_neg (show ¬ ((RW==S6 L)=true)from by simp[S6])];refine RA (SU hT dT zT ?_);have fT:=SD dT (·.setIfInBounds 3 RW);have ō:∀b,b≠T->(s.heap.update T (Sy (·.setIfInBounds 3 RW))).get? b=s.heap.get? b:=λb hb=>RI _ _ (Pm hb);have sz:(s.heap.update T (Sy (·.setIfInBounds 3 RW))).objs.size=s.heap.objs.size:=Ui ..;have Ų:(s.heap.update T (Sy (·.setIfInBounds 3 RW))).FunFrames base (env::outer):=hl.of_keeps λb o z nf=>{o,(ō b λw=>by subst w;rw[hT]at z;cases z;exact nf ts dT).trans z,rfl};refine rY (s:={ s with heap:=s.heap.update T (Sy (·.setIfInBounds 3 RW)) }) ϧ Ų hf ((ō e (Pm ϔ)).trans he) hd () λh' oT' ts' k1 k2 k3 ne k4 k5 k6=>?_;dsimp only at k1 k2 k3 ne k4;rw[sz]at k3 ne k4;refine fin k3 ne k4 k5 k6 (.inl (OW _)) nfr (λb o hb ñ ď z _=>k1 b o hb ñ ((ō b λw=>ď (by rw[w];exact h1)).trans z)) (λb o hb z=>k2 b o hb ((ō b λw=>Ŏ (w▸hb)).trans z)) (λb o hb z=>?_) λb o z w=>absurd w (fresh b o z);rw[h1]at hb;cases hb;exact{_,k1 T _ Ŏ ϔ (RR _ hT (Sf fT))}
 refine RA (wpAny_field hT dT fl ?_)
 rw[if_pos (beq_self_eq_true _)]
 refine RD ?_
 have same:oe.mapFields (·.setIfInBounds 1 (.ref T))=oe:=by
  obtain⟨oc,od,Β,æ⟩:=oe;dsimp only at hd;subst hd;have:vs.setIfInBounds 1 (.ref T)=vs:=by
   have lt:1<vs.size:=()
   refine WV λi=>?_;by_cases w:1=i
   ·subst w;rw[h1];simp[lt]
   rw[Uo w]
  show({oc,od,.fields (vs.setIfInBounds 1 (.ref T)),æ}:Obj)=_;rw[this]
 exact fin (h1:=s.heap) (by rw[same];exact he) ϔ hT dT zT (.inr h1) Ŏ (λb o _ _ _ z _=>z) (λb o _ z=>⟨o.slots,z⟩) (λb o _ z=>⟨o,z⟩) λb o z w=>by rw[w];exact h1
end
def Ψ(X:Cx)(pins:List (RB×Obj))(H:Hp)(h:R8)(e:RB):Prop:=∃ob vs,h.get? e=YV ob/\ob.data=.fields vs/\Trc h X.env.locals e vs/\
 ∀T,vs[1]?=YV (.ref T)->H T=YW/\X.s₀.heap.objs.size<=T/\∀p∈X.pn++pins,p.1≠T
def D7(vs:Array RC):List RB:=match vs[1]? with
 |some (RM T)=>[T]
 |_=>[]
theorem Ct:b∈D7 vs↔vs[1]?=YV (.ref b):=by
 unfold D7;split
 ·rename_i T h;rw[h];constructor
  ·intro w;rw[OT.mp w]
  intro w;cases w;exact OT.mpr rfl
 rename_i h;constructor
 ·intro w;cases w
 intro w;exact absurd w (h b)
section
variable{X:Cx}{pins:List (RB×Obj)}{B:St}{H:Hp}{s:RF}{e C:RB}{od:Option RB}{fl:Bool}
theorem Inv.Ge{h':R8}{vs:Array RC}(I:Inv X pins B H s)(ea:H e=YV (xo e C od fl))(hs:X.stack=X.env::X.outer)(ķ:X.env.frame=YV X.env.locals)
  (hv:∀T,vs[1]?=YV (.ref T)->H T=YW/\X.s₀.heap.objs.size<=T/\(∀p∈X.pn++pins,p.1≠T)/\∃oT ts,s.heap.get? T=YV oT/\oT.data=.fields ts)
  (k1:∀b o,b∉å (X.env::X.outer)->b≠e->vs[1]?≠YV (.ref b)->s.heap.get? b=YV o->h'.get? b=YV o) (k2:∀b o,b∈å (X.env::X.outer)->s.heap.get? b=YV o->∃sl,h'.get? b=YV { o with slots:=sl })
  (k3:∀b o,vs[1]?=YV (.ref b)->s.heap.get? b=YV o->∃o',h'.get? b=YV o') (k4:yX e C od true h') :
  Inv X pins B (upd H e (xo e C od true)) { s with heap:=h' }:=by
 have memL:X.env.locals∈å (X.env::X.outer):=by unfold å;rw[PQ,ķ];exact OX
 have memF:∀b,b∈å (X.env::X.outer)↔b=X.env.locals\/b∈X.fs:=λb=>by
  show b∈Yz _ _↔_;rw[PQ,ķ];exact O4
 have freeF:∀b∈å (X.env::X.outer),H b=YW:=λb hb=>I.wX b (by rw[hs];exact hb)
 have neE:∀b,H b=YW->b≠e:=λb hb w=>by rw[w,ea]at hb;cases hb
 have eoe:∃ob,h'.get? e=YV ob:=let ⟨ob,_,q,_⟩:=k4;⟨ob,q⟩
 have neTL:∀T,vs[1]?=YV (.ref T)->T≠X.env.locals:=λT hT w=>by
  obtain⟨_,_,_,oT,ts,z,d⟩:=hv T hT;exact dH (h:=s.heap) (base:=X.base) (l:=X.stack) I.stack (by rw[hs];exact memL) (w▸z) d
 have neTC:∀T,vs[1]?=YV (.ref T)->∀x c,X.env.cells.lookup x=YV c->c≠T:=λT hT x c q w=>by
  obtain⟨_,_,_,oT,ts,z,d⟩:=hv T hT;obtain⟨v,o,ho,hd⟩:=I.cell x c q;rw[w,z]at ho;cases ho;rw[d]at hd;cases hd
 refine I.step (g':=s.gens) (d':=s.drawn) (t':=s.toks) (ch:=D7 vs) (λb hb=>?_) (λb o hL hb hc z n=>?_) (λb o hL hb hc z n=>?_) (λb o hc z n=>?_) (λb o hc z=>?_) (λb xs z=>?_) (λb o u z=>?_) (λb ps z=>?_) (λm hm=>?_) (λb u z=>?_) I.bare
 ·have hT:=Ct.mp hb;obtain⟨_,h2,h3,_⟩:=hv b hT;exact⟨.inr h2,neTL b hT,neTC b hT,h3⟩
 ·refine k1 b o (λw=>?_) (neE b n) (λw=>hc ?_) z
  ·rcases(memF b).mp w with w|w
   ·exact hL w
   exact hb w
  exact Ct.mpr w
 ·exact k2 b o ((memF b).mpr (.inr hb)) z
 ·rw[ay (neE b n)];exact n
 ·by_cases w:b=e
  ·rw[w];exact eoe
  by_cases q:b∈å (X.env::X.outer)
  ·obtain⟨sl,q⟩:=k2 b o q z;exact{_,q}
  by_cases q2:vs[1]?=YV (.ref b)
  ·exact k3 b o q2 z
  exact⟨o,k1 b o q w q2 z⟩
 ·rw[ay (ua z ea (by intro w;cases w))];exact z
 ·rw[ay (ua z ea (by intro w;cases w))];exact z
 ·exact{#[],by rw[ay (ua z ea (by intro w;cases w)),z];simp}
 ·obtain⟨o,es,ep,ho,r⟩:=hm;obtain⟨sl,q⟩:=k2 _ o memL ho;exact{_,es,ep,q,r}
 by_cases w:b=e
 ·subst w;rw[ao]at z;cases z;exact Fo k4
 rw[ay w]at z
 refine(I.Å b u z).o4 (λc v hc q=>?_) (λc q=>by rw[ay (ua q ea (by intro w;cases w))];exact q) λc xs q=>by rw[ay (ua q ea (by intro w;cases w))];exact q
 have Ś:∃x,H c=YV x:=by
  rcases hc with rfl|hc
  ·exact{_,z}
  exact{_,hc}
 obtain⟨x,Ś⟩:=Ś
 have nce:c≠e:=by
  rcases hc with rfl|hc
  ·exact w
  exact ua hc ea (by intro w;cases w)
 refine k1 c v (λw=>?_) nce (λw=>?_) q
 ·rw[freeF c w]at Ś;cases Ś
 rw[(hv c w).1]at Ś;cases Ś
theorem Inv.left(I:Inv X pins B H s)(ea:H e=YV (xo e C od fl))(F:Ψ X pins H s.heap e)(hA:A.frames=X.A.frames)(hs:X.stack=X.env::X.outer)(ķ:X.env.frame=YV X.env.locals)
  (h:∀s',s'.os=s.os->Inv X pins B (upd H e (xo e C od true)) s'->Ψ X pins (upd H e (xo e C od true)) s'.heap e->(∃ob vs T oT ts,s'.heap.get? e=YV ob/\ob.data=.fields vs/\vs[1]?=YV (.ref T)/\T≠e/\s'.heap.get? T=YV oT/\oT.data=.fields ts/\3<ts.size/\ts[3]?=YV .none)->Q Unit.unit s') :
  wpAny (RK X.prog X.w) A (UR (.ref e) X.env) (λ_ s2=>wpAny (RK X.prog X.w) A (setFlight (.ref e) YW) Q E s2) E s:=by
 obtain⟨ob,vs,he,hd,ht,hv⟩:=F
 obtain⟨ob',ē,ő,hc,hdi,Ϩ,hz,_⟩:=id (I.xc ea)
 rw[he]at ő;cases ő
 rw[hd]at Ϩ;cases Ϩ
 have fr:X.A.frames=YV (X.env::X.outer):=by rw[I.ok.frames,hs]
 have st:s.heap.FunFrames X.base (X.env::X.outer):=by rw[<-hs];exact I.stack
 have hv2:∀T,vs[1]?=YV (.ref T)->H T=YW/\X.s₀.heap.objs.size<=T/\(∀p∈X.pn++pins,p.1≠T)/\∃oT ts,s.heap.get? T=YV oT/\oT.data=.fields ts:=λT hT=>by
  obtain⟨a1,a2,a3⟩:=hv T hT;rcases ht with w|⟨T',oT,ts,w,_,z,d,_⟩
  ·rw[w]at hT;cases hT
  rw[w]at hT;cases hT;exact⟨a1,a2,a3,oT,ts,z,d⟩
 refine Gp (hA.trans fr) st ķ he hd hz ht λh' T ĥ ē oT ts k1 k2 k3 g1 g2 g3 g4 g5 g6 g7 g8 g9 Λ g11 g12=>?_
 have I2:Inv X pins B (upd H e (xo e C od true)) { s with heap:=h' }:=I.Ge ea hs ķ hv2 k1 k2 k3 ⟨ĥ,ē,g1,g2.trans hc,g3.trans hdi,g4,by rw[g5];exact hz,λw=>nomatch w⟩
 refine h { s with heap:=h' } rfl I2 ⟨ĥ,ē,g1,g4,.inr ⟨T,oT,ts,g6,g7,g9,Λ,g11,.inl g12⟩,λT2 w=>?_⟩ ⟨ĥ,ē,T,oT,ts,g1,g4,g6,g7,g9,Λ,g11,g12⟩
 rw[g6]at w
 cases w
 rw[ay g7]
 rcases g8 with w|w
 ·refine{I.Å.fresh w,O6 I.sz w,λp hp q=>?_};obtain⟨z,_⟩:=I.pin p hp;exact absurd (Pd (RH z) w) (by rw[q];exact PU _)
 obtain⟨a1,a2,a3,_⟩:=hv2 T w
 exact⟨a1,a2,a3⟩
end
abbrev XH:=St->XK
def eU(X:Cx)(Hd:XH):Prop:=∀(pins:List (RB×Obj))(B:St)(H:Hp)(s:RF)(e C:RB)(od:Option RB)(fl:Bool),Inv X pins B H s->H e=YV (xo e C od fl)->Ψ X pins H s.heap e->Hd B (.ref e) od (upd H e (xo e C od true))->X.xe (.ref e) s
theorem zY(h:H a=YV o):upd H a o=H:=by
 funext b
 unfold upd;split
 ·rename_i w;rw[w,h]
 rfl
def CXE(P:Program)(w:RS):Ŗ:=λouter H s E ev s'=>∃e C od H',ev=.ref e/\s'.os=s.os/\UN s'.gens/\Un (å outer) [] H H' s.heap s'.heap/\ó P w H' s'.heap/\H' e=YV (xo e C od true)/\
 (∃ob vs T oT ts,s'.heap.get? e=YV ob/\ob.data=.fields vs/\vs[1]?=YV (.ref T)/\T≠e/\s'.heap.get? T=YV oT/\oT.data=.fields ts/\3<ts.size/\ts[3]?=YV .none/\H' T=YW/\s.heap.objs.size<=T)/\E ev od H'
theorem eU.pass(cat:eU X Hd)(I:Inv X pins B H s)(h:CXE X.prog X.w X.stack H s (Hd B) ev s'):X.xe ev s':=by
 obtain⟨e,C,od,H',rfl,os,bare,un,Å,ea,⟨ob,vs,T,oT,ts,g1,g2,g3,g4,g5,g6,g7,g8,g9,Λ⟩,q⟩:=h;have I2:Inv X pins B H' s':=I.IS (ch:=[]) os un Å bare λb z=>absurd z (by simp);refine cat pins B H' s' e C od true I2 ea {ob,vs,g1,g2,.inr ⟨T,oT,ts,g3,g4,g5,g6,g7,.inl g8⟩,λT2 w=>?_} (by rw[zY ea];exact q);rw[g3]at w;cases w;refine{g9,O6 I.sz Λ,λp hp z=>?_};obtain⟨y,_⟩:=I.pin p hp;exact absurd (Pd (RH y) Λ) (by rw[z];exact PU _)
theorem Aq{P w K mg base N qual scope f cd A outer s H E} :
  eU (nG (CXE P w) P w K mg base N qual scope f cd A outer s H E) (λ_=>E):=by
 intro pins B H' s' e C od fl I ea F q
 show wpAny _ _ (leaving _ _) _ _ _
 unfold leaving
 refine RA (I.left (A:=A.deeper (Tw qual scope s.heap.objs.size f cd)) ea F rfl rfl rfl λs2 os I2 F2 z9=>?_);obtain⟨ob,vs,T,oT,ts,g1,g2,g3,g4,g5,g6,g7,g8⟩:=z9
 obtain⟨ob',ē,h1,h2,_,h4⟩:=F2
 rw[g1]at h1;cases h1
 rw[g2]at h2;cases h2
 obtain⟨a1,a2,_⟩:=h4 T g3
 exact{e,C,od,upd H' e (xo e C od true),rfl,I2.os,I2.bare,I2.base,I2.Å,ao,⟨ob,vs,T,oT,ts,g1,g2,g3,g4,g5,g6,g7,g8,a1,a2⟩,q}
def CK(P:Program)(w:RS)(K:RG)(mg:Str->Option RC)(base:R8)(k:Nat)(x:Str)(ps:List Str)(sp:Sp):Prop:=
 ∃f fd,hZ P w K mg base (CXE P w) k f fd ps sp/\Y3 K fd ps []/\SG K (.ref f)=true/\mg x=YV (.ref f)
theorem aM.Ih{P w K mg base x st N ps k sp}(F:aM K mg x st ps)(S:aw N ps (aq st))(len:∀vs H Q E,sp vs H Q E->vs.length=ps.length)
  (â:∀X f Â A outer s H vs Q E,X=nG (CXE P w) P w K mg base N x (aq st) f Â A outer s H E->eU X (λ_=>E)->cN k (A.deeper (Tw x (aq st) s.heap.objs.size f Â))->(A.deeper (Tw x (aq st) s.heap.objs.size f Â)).units+64<S8->sp vs H Q E->
   ∃t,ü (nG (CXE P w) P w K mg base N x (aq st) f Â A outer s H E) (aU st) t/\t { nx:=λ_ H'=>Q .Ä H',rt:=Q } (Y4 N vs) H):CK P w K mg base (k+1) x ps sp:=by
 obtain⟨f,fd,F,b,m⟩:=F.ex
 obtain⟨oc,od,kV,doc,pm,an,Â,ct,æ,rfl,lk,Į⟩:=F.ex
 exact{f,_,DQ lk Į S len λA outer s H vs Q E hr ř=>â _ f Â A outer s H vs Q E rfl Aq hr hr.units ř,b,F.kp,m}
def KU(sp:Sp)(Hd:XH)(t:TA):TE:=λB H Q=>t B H λvs H1=>sp vs H1 Q (Hd B)
theorem lQ(cat:eU X Hd)(D:CK X.prog X.w X.K X.mg X.base j x ps sp)(hr:cN k X.A)(ha:PA X (e::es) t)(hj:j<=k:=by decide)(hg:Gl X x:=by rfl)
  (ì:(x==("__debug__":Str))=false:=by decide) (he:RJ (e::es) X.env=(false,Sj e X.env)::RJ es X.env:=by rfl) (ê:(Sk pos (RJ es X.env)).any (·.1)=false:=by rfl) :
  PE X (.Call (.Name x p) (e::es) [] pos) (KU sp Hd t):=by
 obtain⟨f,fd,F,hb,kp,m⟩:=D
 intro pins s B H Q I h
 refine Sq (jo I hg m ?_ ì)
 refine UO (h₀:=X.base) I.ok.mod.Ζ kp (È (ha pos pins s B H _ I h) λus s1 ⟨vs,H1,I1,r,q⟩=>{I1.Þ,?_}) he ê
 have hl:(us++[]).length=ps.length:=by rw[PH,<-r.length];exact F.len _ _ _ _ q
 have ų:=hb s1 us I1.Þ hl
 rw[PH]at ų
 refine T3 (Tf (F.run X.A X.stack s1 H1 {[]++us,[]} us vs Q (Hd B) (hr.mono hj) I1.Dg ų r q) λr s' hq=>?_)
 cases r with
 |error e=>exact cat.pass I1 hq
 |ok fl=>
  cases fl with
  |ret u=>exact I1.after hq
  |next=>exact Sn hq
  |brk=>exact Sn hq
  |cont=>exact Sn hq
def Mc(K:RG)(te:TE)(Hd:XH):TS:=λ_ B H=>te B H λv H1=>∃e C od,v=.ref e/\H1 e=YV (xo e C od false)/\ä K C/\Hd B (.ref e) od (upd H1 e (xo e C od true))
theorem yL(cat:eU X Hd)(hc:X.calm=true)(he:PE X x te):PS X (.Raise (YV x) YW pos) (Mc X.K te Hd):=by
 intro pins s B H D I h;rw[arm_exec_Raise];refine RA (Ux (JG (K:=X.K) (I.ok.hd hc) ?_));refine RA (È (he pins s B H _ I h) λv s1 ⟨y,H1,I1,r,e,C,od,ey,ea,c,q⟩=>RA (Ux (RD ?_)));subst ey;obtain rfl:v=RM e:=r;obtain⟨ob,vs,h1,h2,h3,h4,h5,h6⟩:=id (I1.xc ea);refine{e,C,ob,vs,rfl,I1.Þ,c,h1,h2,h4,h6 rfl,cat pins B H1 s1 e C od false I1 ea {ob,vs,h1,h4,.inl (h6 rfl),λT w=>?_} q};rw[h6 rfl]at w;cases w
theorem Y7{α:Type}{p}:∀(l:List α)(i:Nat),(∀y,l[i]?=YV y->p y=false)->(l.eraseIdx i).find? p=l.find? p
 | [],_,_=>rfl
 |y::r,0,h=>by
  have:=h y rfl;simp[List.eraseIdx,this]
 |y::r,i+1,h=>by
  simp only[List.eraseIdx,List.find?];rw[Y7 r i λz hz=>h z (by simpa using hz)]
theorem DG{v:RC}{x y:Str}(h:v.isStr x=true)(h2:v.isStr y=true):x=y:=by
 cases v<;>simp_all [Value.isStr]
section
variable{M:Model}{A:Sd}{E:RC->RF->Prop}{s:RF}{env:Env}
theorem zA(hn:s.heap.Ns a m)
  (hQ:∀h' m',h'.Ns a m'->(∀x,x≠name->m' x=m x)->S2 a s.heap h'->Q (m name).isSome { s with heap:=h' }):wpAny M A (nsDel a name) Q E s:=by
 obtain⟨o,es,ep,ho,hd,hk,hm⟩:=id hn
 have noRef:es.any (·.refKey)=false:=by
  rw[Array.any_eq_false'];intro y hy;obtain⟨n,t,q⟩:=hk y hy;simp[Xv,q]
 have hsome:(m name).isSome=es.any (·.key.isStr name):=by
  rw[<-hm name];simp only[nsFind,findBy,Q0];rw[<-QU,<-Array.any_toList,Qd,List.find?_isSome,Qz]
 have hhas:nsHas name o=pure (es.any (·.key.isStr name)):=by
  rw[nsHas_eq];unfold nsHasByArray;rw[hd];show(if(es.any λx=>x.key.isStr name)=true then _ else _)=_;generalize (es.any λx=>x.key.isStr name)=b;cases b<;>simp[noRef]
 unfold nsDel
 refine RA (Ub ho ?_)
 rw[hhas]
 refine RA (RD ?_)
 rw[<-hsome]
 cases hmn:(m name).isSome with
 |false=>
  have z:=hQ s.heap m hn (λ_ _=>rfl) (.refl ..)
  rw[hmn]at z
  exact RD z
 |true=>
  refine RA (wpAny_updatePart ho (RD ?_))
  have key:∃m',(s.heap.update a (Obj.dropName name)).Ns a m'/\∀x,x≠name->m' x=m x:=by
   obtain⟨cl,dd,dt,sl⟩:=o;subst hd;cases hi:es.findIdx? (·.key.isStr name)with
   |some i=>
    refine{_,{_,_,ep+1,RR _ ho (by simp only[UL,TN,hi]<;>rfl),(by simp only[UL,TN,hi]<;>rfl),hk.erase i,λ_=>rfl},λx hx=>?_};rw[<-hm x];simp only[nsFind,findBy];rw[<-QU,<-QU];have e:(es.eraseIdxIfInBounds i).toList=es.toList.eraseIdx i:=by simp
    rw[e,Y7];intro y hy;obtain⟨lt,h1,_⟩:=Array.findIdx?_eq_some_iff_getElem.mp hi;have:y=es[i]:=by
     rw[Qk]at hy;rw[Qt lt]at hy;exact(RQ hy).symm
    subst this;cases q:es[i].key.isStr x with
    |false=>rfl
    |true=>exact absurd (DG q h1) hx
   |none=>exact{_,{_,_,ep,RR _ ho (by simp only[UL,TN,hi]<;>rfl),(by simp only[UL,TN,hi]<;>rfl),hk,λ_=>rfl},λx _=>hm x}
  obtain⟨m',hm',hx⟩:=key
  have z:=hQ _ m' hm' hx (Tn ..)
  rw[hmn]at z
  exact z
theorem Dl(hl:env.kindOf n=YV .local)(hn:s.heap.Ns env.locals m)(hkd:env.scope.kind=.function)
  (h:∀h' m',h'.Ns env.locals m'->(∀x,x≠n->m' x=m x)->S2 env.locals s.heap h'->Q Unit.unit { s with heap:=h',toks:=s.toks+1 }) :
  wpAny M A (do bindName env n .none;TJ env n pos) Q E s:=by
 have hp:(env.scope.kind== .class||(env.scope.kind== .module&&env.locals !=env.globals))=false:=by rw[hkd];rfl
 refine RA (wpAny_bindName (VQ hl hn (λh1 n1 s1=>?_) hp))
 unfold TJ unbindName
 refine wpAny_onRaise (RA (wpAny_point (RA ?_)))
 unfold deleteName
 simp only[hl,hp]
 rw[if_neg ∅]
 refine RA (zA n1 λh2 m2 n2 k2 s2=>?_)
 simp only[if_true,Rb,Bool.not_true,PY,if_false]
 exact RD (wpAny_point (h h2 m2 n2 (λx hx=>by rw[k2 x hx,if_neg hx]) (s1.trans s2)))
end
section
variable{X:Cx}{pins:List (RB×Obj)}{B:St}{H:Hp}{s:RF}
theorem Inv.Ed(I:Inv X pins B H s)(hN:X.N.Nodup)(hi:X.N[i]?=YV n)(hl:X.env.scope.names.lookup n=YV .local)
  (h:∀s',Inv X pins (B.set i YW) H s'->Q Unit.unit s'):wpAny M A (do bindName X.env n .none;TJ X.env n pos) Q E s:=by
 obtain⟨m,hn,hv⟩:=id I.loc
 obtain⟨oL,esL,epL,hoL,hdL,_⟩:=id hn
 refine Dl hl hn I.ok.kind λh' m' n' k' sb=>h _ ?_
 have nL:∀b o,X.s₀.heap.get? b=YV o->b≠X.env.locals:=λb o z=>Ph (Pd (RH z) I.ok.above)
 refine{I.ok,I.os,I.bare,{λb o z n hb hx=>(sb.2 b (nL b o z)).trans (I.base.keep b o z n hb hx),λb o z n hb hx=>?_,I.base.free,λb o z hx=>?_,I.base.tw,I.base.qu,I.base.uB},{m',n',λj y v e1 e2 e3=>?_},λx c z=>?_,I.free,I.fu,λp hp=>?_,λb u z=>?_,by rw[QR];exact I.len}
 ·obtain⟨sl,q⟩:=I.base.slot b o z n hb hx;exact{sl,(sb.2 b (nL b o z)).trans q}
 ·obtain⟨o',q⟩:=I.base.there b o z hx;exact{o',(sb.2 b (nL b o z)).trans q}
 ·by_cases hj:j=i
  ·subst hj;rw[List.getElem?_set_self']at e2;cases q:B[j]? with
   |none=>rw[q]at e2;cases e2
   |some w=>rw[q]at e2;cases e2
  rw[Q5 (Pm hj)]at e2;obtain⟨u,r,q⟩:=hv j y v e1 e2 e3;refine{u,r,?_};rcases q with⟨k,q⟩|⟨k,c,q,z⟩
  ·have:y≠n:=λw=>hj (tU hN e1 (w▸hi));exact .inl {k,(k' y this).trans q}
  exact .inr {k,c,q,z.sameBut sb (I.ź y c q)}
 ·obtain⟨v,q⟩:=I.cell x c z;exact{v,q.sameBut sb (I.ź x c z)}
 ·obtain⟨z,q,ne,nf,d⟩:=I.pin p hp;exact{(sb.2 p.1 ne).trans z,q,ne,nf,d}
 refine(I.Å b u z).o4 (λc v hc q=>(sb.2 c ?_).trans q) (λ_ q=>q) λ_ _ q=>q
 rintro rfl
 rcases hc with rfl|hc
 ·rw[I.free]at z;cases z
 rw[I.free]at hc;cases hc
end
structure TB where
 pins:List (RB×Obj)
 xe:RC->RF->Prop
def Ÿ(X:Cx)(b:TB):Cx:={ X with pn:=X.pn++b.pins,xe:=b.xe }
def cxS(X:Cx)(e:RB):Cx:={ X with A:=X.A.mark (YV (.ref e)),calm:=false,xe:=λ_ _=>False }
section
variable{X:Cx}{pins:List (RB×Obj)}{B:St}{H:Hp}{s:RF}
theorem Inv.IW(I:Inv X pins B H s) (xe):Inv (Ÿ X ⟨pins,xe⟩) [] B H s:=
 ⟨⟨I.ok.mod,I.ok.kind,I.ok.glob,I.ok.blt,I.ok.above,I.ok.inj,I.ok.has,I.ok.Ο,I.ok.hd,I.ok.frames,I.ok.stk,I.ok.exf,I.ok.bs,I.ok.ŝ,I.ok.yp,I.ok.yt,I.ok.o3,I.ok.ϖ⟩,
  I.os,I.bare,I.base,I.loc,I.cell,I.free,I.fu,λp hp=>I.pin p (by simpa [Ÿ] using hp),I.Å,I.len⟩
theorem Inv.fQ(I:Inv (Ÿ X ⟨pins,xe⟩) pl B H s):Inv X pins B H s:=
 ⟨⟨I.ok.mod,I.ok.kind,I.ok.glob,I.ok.blt,I.ok.above,I.ok.inj,I.ok.has,I.ok.Ο,I.ok.hd,I.ok.frames,I.ok.stk,I.ok.exf,I.ok.bs,I.ok.ŝ,I.ok.yp,I.ok.yt,I.ok.o3,I.ok.ϖ⟩,
  I.os,I.bare,I.base,I.loc,I.cell,I.free,I.fu,λp hp=>I.pin p (Px _ hp),I.Å,I.len⟩
theorem Inv.y6(I:Inv X pins B H s) (e):Inv (cxS X e) pins B H s:=
 ⟨{I.ok.mod,I.ok.kind,I.ok.glob,I.ok.blt,I.ok.above,I.ok.inj,I.ok.has,I.ok.Ο,(λz=>nomatch z),I.ok.frames,I.ok.stk,I.ok.exf,I.ok.bs,I.ok.ŝ,I.ok.yp,I.ok.yt,I.ok.o3,I.ok.ϖ},
  I.os,I.bare,I.base,I.loc,I.cell,I.free,I.fu,I.pin,I.Å,I.len⟩
theorem Inv.GQ(I:Inv (cxS X e) pins B H s)(ok:X.Ok):Inv X pins B H s:=
 ⟨ok,I.os,I.bare,I.base,I.loc,I.cell,I.free,I.fu,I.pin,I.Å,I.len⟩
end
abbrev TH:=Zc->St->RB->RB->Option RB->Hp->Prop
def PHs(X:Cx)(hs:List ExceptHandler)(th:TH):Prop:=∀(pins:List (RB×Obj))(s:RF)(B:St)(H:Hp)(D:Zc)(e C:RB)(od:Option RB),Inv X pins B H s->H e=YV (xo e C od true)->Ψ X pins H s.heap e->
 (∃ob vs T,s.heap.get? e=YV ob/\ob.data=.fields vs/\vs[1]?=YV (.ref T))->th D B e C od H->wpAny (RK X.prog X.w) X.A (handleBy (.ref e) X.env hs) (SP X pins D) X.xe s
def IF:TH:=λ_ _ _ _ _ _=>False
theorem E3:PHs X hs IF:=λ_ _ _ _ _ _ _ _ _ _ _ _ h=>h.elim
def Oy(D:Zc)(i:Nat):Zc:={ nx:=λB H=>D.nx (B.set i YW) H,rt:=D.rt,bk:=λB H=>D.bk (B.set i YW) H,ct:=λB H=>D.ct (B.set i YW) H }
def N3(K:RG)(CH:RB)(i:Nat)(ts:TS)(th:TH):TH:=λD B e C od H=>∃b,ä K C/\Wi K (.ref C) (.ref CH)=YV b/\if b=true then ts (Oy D i) (B.set i (YV (.ref e))) H else th D B e C od H
section
variable{X:Cx}
theorem zL(I:Inv X pins B H s)(ea:H e=YV (xo e C od fl))(c:ä X.K C)(ch:ä X.K CH)(hs:Wi X.K (.ref C) (.ref CH)=YV b)(h:Q b s) :
  wpAny (RK X.prog X.w) A (excMatches (.ref e) (.ref CH)) Q E s:=by
 obtain⟨ob,vs,h1,h2,_⟩:=I.xc ea
 obtain⟨nm,q,N,bs,bm,sn,sub,ab,col,dd,k0,k1,k2,k3,k5,hC,up,T⟩:=ch.at I.Þ
 have hcB:(RM CH::bm).contains (.type "BaseException")=true:=by rw[QW,wN (by decide+kernel) up,Q7]
 have Ls:=W.looks_subIn (M:=RK X.prog X.w) I.Þ hs
 have ft:=tc_notTuple
 obtain⟨hp,g,d,tk,os⟩:=s
 unfold excMatches
 repeat (first|(with_reducible refine wpAny_loadPart_at h1 ?_;rw[h2])|with_reducible refine wpAny_loadPart_at hC ?_|(with_reducible refine wpAny_isSubtype_exc hC ?_;rw[hcB])|with_reducible refine Ls.at ?_|wp_step)
 cases b<;>(wp_walk;exact h)
theorem NA{cn n p hpos i CH b₀ y6 rest ts th}(hm:X.mg cn=YV (.ref CH))(ch:ä X.K CH)(hN:X.N.Nodup)(hi:X.N[i]?=YV n)(hl:X.env.scope.names.lookup n=YV .local)(hsu:∀e,ü (cxS X e) (b₀::y6) ts)(hre:PHs X rest th)
  (hg:Gl X cn:=by rfl) (ì:(cn==("__debug__":Str))=false:=by decide) (hs:X.stack=X.env::X.outer:=by rfl) (ķ:X.env.frame=YV X.env.locals:=by rfl) :
  PHs X (.ExceptHandler (YV (.Name cn p)) (YV n) (b₀::y6) hpos::rest) (N3 X.K CH i ts th):=by
 intro pins s B H D e C od I ea F tr h
 obtain⟨b,c,sb,h⟩:=h
 refine wpAny_handleBy_cons (codeAny_handlers_test ?_) (by intro q;cases q)
 refine jo (X:=cxS X e) (E:=_) (I.y6 e) hg hm (zL (A:=(cxS X e).A) I ea c ch sb ?_) ì
 cases b with
 |false=>exact hre pins s B H D e C od I ea F tr h
 |true=>
  refine codeAny_handlers_suite_as ?_
  obtain⟨ob,vs,he,hd,ht,hv⟩:=F
  obtain⟨ob',ē,T,g1,g2,g3⟩:=tr
  rw[he]at g1;cases g1
  rw[hd]at g2;cases g2
  obtain⟨a1,a2,a3⟩:=hv T g3
  obtain⟨oT,ts',hT,dT,zT,ϔ⟩:∃oT ts,s.heap.get? T=YV oT/\oT.data=.fields ts/\3<ts.size/\T≠e:=by
   rcases ht with w|⟨T',oT,ts,w,ne,z,d,q,_⟩
   ·rw[w]at g3;cases g3
   rw[w]at g3;cases g3;exact⟨oT,ts,z,d,q,ne⟩
  unfold setFlight
  refine RA (wpAny_field he hd g3 ?_)
  rw[if_pos (show(RM T !=RW)=true from by simp)]
  have fT:=SD dT (·.setIfInBounds 3 ((YW:Option RB).elim RW λf=>S6 f))
  refine SU hT dT zT ?_
  have st:s.heap.FunFrames X.base (X.env::X.outer):=by rw[<-hs];exact I.stack
  have Ŏ:T∉å (X.env::X.outer):=λz=>dH st z hT dT
  obtain⟨ob2,vs2,q1,q2,q3,q4,q5,q6⟩:=id (I.xc ea)
  have I2:Inv X pins B H { s with heap:=s.heap.update T (Sy (·.setIfInBounds 3 ((YW:Option RB).elim RW λf=>S6 f))) }:=by
   have z:=I.Ge (h':=s.heap.update T (Sy (·.setIfInBounds 3 ((YW:Option RB).elim RW λf=>S6 f)))) (vs:=vs) ea hs ķ (λT2 w=>by rw[g3]at w;cases w;exact⟨a1,a2,a3,oT,ts',hT,dT⟩)
    (λb o hb ñ ď z=>(RI _ _ (λw=>ď (by rw[<-w];exact g3))).trans z) (λb o hb z=>{o.slots,(RI _ _ (λw=>Ŏ (by rw[w];exact hb))).trans z})
    (λb o w z=>by rw[g3]at w;cases w;exact{_,RR _ hT (Sf fT)}) {ob2,vs2,(RI _ _ ϔ).trans q1,q2,q3,q4,q5,λw=>nomatch w}
   rw[zY ea]at z;exact z
  refine pA I2 hN hi (.inl hl) (show Y0 (.ref e) (.ref e)from rfl) (λs2 I3=>?_) (.inr hl)
  refine Sz (hsu e pins s2 _ H _ (I3.y6 e) h) (λf s3 z=>?_) λ_ _ z=>z.elim
  have back:∀{B':St}{H':Hp},Inv (cxS X e) pins B' H' s3->(∀s',Inv X pins (B'.set i YW) H' s'->SP X pins D f s')->wpAny (RK X.prog X.w) X.A (do bindName X.env n .none;TJ X.env n hpos) (λ_ s'=>SP X pins D f s') X.xe s3:=
   λJ k=>(J.GQ I.ok).Ed hN hi hl k
  cases f with
  |next=>obtain⟨B',H',J,q⟩:=z;exact back J λs' J'=>{_,H',J',q}
  |brk=>obtain⟨B',H',J,q⟩:=z;exact back J λs' J'=>{_,H',J',q}
  |cont=>obtain⟨B',H',J,q⟩:=z;exact back J λs' J'=>{_,H',J',q}
  |ret u=>obtain⟨v,B',H',J,r,q⟩:=z;exact back J λs' J'=>{v,_,H',J',r,q}
def OB(tb:XH->TS)(to:TS)(th:TH):TS:=λD B H=>tb (λB' ev od H'=>∃e C,ev=.ref e/\H' e=YV (xo e C od true)/\th D B' e C od H') { D with nx:=to D } B H
theorem KP(hb:∀b Hd,eU (Ÿ X b) Hd->ü (Ÿ X b) body (tb Hd))(ho:ü X orelse to)(hh:PHs X (h₀::hs) th)
  (ħ:X.stack=X.env::X.outer:=by rfl) (ķ:X.env.frame=YV X.env.locals:=by rfl):PS X (.Try body (h₀::hs) orelse [] pos) (OB tb to th):=by
 intro pins s B H D I h
 let Hd:XH:=λB' ev od H'=>∃e C,ev=.ref e/\H' e=YV (xo e C od true)/\th D B' e C od H'
 let xe:RC->RF->Prop:=λev s'=>∃B' H' e C od fl,ev=.ref e/\Inv X pins B' H' s'/\H' e=YV (xo e C od fl)/\Ψ X pins H' s'.heap e/\Hd B' (.ref e) od (upd H' e (xo e C od true))
 have cat:eU (Ÿ X ⟨pins,xe⟩) Hd:=λpl B' H' s' e C od fl J ea F q=>by
  obtain⟨ob,vs,h1,h2,h3,h4⟩:=F;exact{B',H',e,C,od,fl,rfl,J.fQ,ea,{ob,vs,h1,h2,h3,λT w=>{(h4 T w).1,(h4 T w).2.1,λp hp=>(h4 T w).2.2 p (Px _ hp)}},q}
 refine wpAny_Try_except (Sz (hb ⟨pins,xe⟩ Hd cat [] s B H _ (I.IW xe) h) (λf s1 z=>?_) λev s1 z=>?_)
 ·cases f with
  |next=>obtain⟨B',H',J,q⟩:=z;exact ho pins s1 B' H' D J.fQ q
  |brk=>obtain⟨B',H',J,q⟩:=z;exact⟨B',H',J.fQ,q⟩
  |cont=>obtain⟨B',H',J,q⟩:=z;exact⟨B',H',J.fQ,q⟩
  |ret u=>obtain⟨v,B',H',J,r,q⟩:=z;exact⟨v,B',H',J.fQ,r,q⟩
 obtain⟨B',H',e,C,od,fl,rfl,J,ea,F,e2,C2,w,ea2,q⟩:=z
 cases w
 have same:upd H' e (xo e C od true)=upd H' e (xo e C od true):=rfl
 refine J.left ea F rfl ħ ķ λs2 os J2 F2 z9=>?_;obtain⟨ob,vs,T,oT,ts,g1,g2,g3,_⟩:=z9
 exact hh pins s2 B' _ D e C2 od J2 ea2 F2 ⟨ob,vs,T,g1,g2,g3⟩ q
end
theorem HZ{K N c d es n sl}(l:K.lookup N=YV ⟨c,d,.dict es n,sl⟩)(k:(es.toList.all λe=>match e.key with| .str _ _=>true|_=>false)=true):W.nsOkIn K N=true:=by
 unfold W.nsOkIn;rw[l];dsimp only;rw[<-XB];exact k
theorem Hl{K C nm q N bs sn sub ab col dd k0 k1 k2 k3 k5}(lk:K.lookup C=YV (Vb nm q C N bs ł true sn sub ab col dd k0 k1 k2 k3 k5 "ValueError.__new__"))
  (ga:RZ K (.ref C) "__getattribute__"=YV (YV (.builtin "BaseException.__getattribute__"))) (gh:RZ K (.ref C) "__getattr__"=YV YW) (sa:RZ K (.ref C) "__setattr__"=YV (YV (.builtin "object.__setattr__"))) (cl:RZ K (.ref C) "__class__"=YV (YV (.builtin "object.__class__")))
  (cg:SQ K (.builtin "object.__class__") "__get__"=YV (YV (.builtin "getset_descriptor.__get__"))) (ct:T4 K (.builtin "object.__class__")=YV true) (kp:SG K (.ref C)=true):ä K C:=
 {{nm,q,N,bs,ł,sn,sub,ab,col,dd,k0,k1,k2,k3,k5,lk,by decide+kernel,λ_ _=>.base},ga,gh,sa,cl,cg,ct,kp}
theorem LH:rg ł=true:=by decide+kernel
theorem LO(h:rg l=true):rg (.ref Ĳ::l)=true:=by
 unfold rg;rw[Bool.or_eq_true];exact .inr h
theorem Dd{K C Ĳ nm q N bs sn sub ab col dd k0 k1 k2 k3 k5 uc ud ucd usl}
  (lk:K.lookup C=YV (Vb nm q C N bs (.ref Ĳ::ł) true sn sub ab col dd k0 k1 k2 k3 k5 "ValueError.__new__")) (lU:K.lookup Ĳ=YV ⟨uc,ud,.cls ucd,usl⟩) (nU:W.nsOkIn K ucd.ns=true) (iU:Vg K ucd.ns "__init__"=YV YW)
  (ga:RZ K (.ref C) "__getattribute__"=YV (YV (.builtin "BaseException.__getattribute__"))) (gh:RZ K (.ref C) "__getattr__"=YV YW) (sa:RZ K (.ref C) "__setattr__"=YV (YV (.builtin "object.__setattr__"))) (cl:RZ K (.ref C) "__class__"=YV (YV (.builtin "object.__class__")))
  (cg:SQ K (.builtin "object.__class__") "__get__"=YV (YV (.builtin "getset_descriptor.__get__"))) (ct:T4 K (.builtin "object.__class__")=YV true) (kp:SG K (.ref C)=true):ä K C:=
 {{nm,q,N,bs,.ref Ĳ::ł,sn,sub,ab,col,dd,k0,k1,k2,k3,k5,lk,LO LH,λ_ X=>.own (X _ _ lU) (.of_isNs (W.isNs_of_in X nU)) (W.nsMap_none_of_in X nU iU) .base},ga,gh,sa,cl,cg,ct,kp}
structure nc(K:RG)(mg:Str->Option RC)(C:RB)(x qual:Str)(st:RY)(ps:List Str):Prop where
 ex:∃f fd,XMk K C f/\Χ K "__init__" qual st f fd/\Y3 K fd ps []/\mg x=YV (.ref C)
def GN(P:Program)(w:RS)(K:RG)(mg:Str->Option RC)(base:R8)(k:Nat)(x:Str)(C:RB)(ps:List Str)(sp:Sp):Prop:=
 ∃f fd,XMk K C f/\hZ P w K mg base ġ k f fd ps sp/\Y3 K fd ps []/\mg x=YV (.ref C)
theorem nc.has{P w K mg base C x qual st N ps k sp}(F:nc K mg C x qual st ps)(S:aw N ps (aq st))(len:∀vs H Q E,sp vs H Q E->vs.length=ps.length)
  (â:∀f Â A outer s H vs Q E,cN k (A.deeper (Tw qual (aq st) s.heap.objs.size f Â))->(A.deeper (Tw qual (aq st) s.heap.objs.size f Â)).units+64<S8->sp vs H Q E->
   ∃t,ü (nG ġ P w K mg base N qual (aq st) f Â A outer s H E).ό (aU st) t/\t { nx:=λ_ H'=>Q .Ä H',rt:=Q } (Y4 N vs) H):GN P w K mg base (k+1) x C ps sp:=by
 obtain⟨f,fd,M,F,b,m⟩:=F.ex
 exact{f,fd,M,F.ok S len λÂ A outer s H vs Q E hr h=>â f Â A outer s H vs Q E hr hr.units h,b,m}
theorem vO(D:GN X.prog X.w X.K X.mg X.base j x C ps sp)(hr:cN k X.A)(ha:PA X (e::es) t)(hj:j+1<=k:=by decide)(hg:Gl X x:=by rfl)
  (ì:(x==("__debug__":Str))=false:=by decide) (he:RJ (e::es) X.env=(false,Sj e X.env)::RJ es X.env:=by rfl) (ê:(Sk pos (RJ es X.env)).any (·.1)=false:=by rfl) :
  PE X (.Call (.Name x p) (e::es) [] pos) (Gn C sp t):=by
 obtain⟨f,fd,M,F,b,m⟩:=D
 exact EK M F (hr.mono hj) m b ha hg ì he ê
theorem CY{K:RG}{mg:Str->Option RC}{h:R8}{C:RB}{x qual:Str}{st:RY}{ps:List Str}{f:RB}{oc:RC}{od an:Option RB}{æ:Array (Option RC)}{kV doc pm Â ct:RC}(X:K.In h)(G:h.Ns RU mg)(c:ä K C)
  (a:Vg K RU x=YV (YV (.ref C))) (i:RZ K (.ref C) "__init__"=YV (YV (.ref f))) (n:VF K (.ref f)=true) (l:K.lookup f=YV {oc,od,.func (SK "__init__" qual (bg st) (aU st) (aq st) .none kV doc pm an Â ct),æ})
  (cd:Ue K Â qual=true) (k:SG K (.ref f)=true)
  (hb:∀(kV doc pm:RC)(an:Option RB)(Â ct:RC)(us:List RC),us.length=ps.length->bindArgs (SK "__init__" qual (bg st) (aU st) (aq st) .none kV doc pm an Â ct) {us,[]}=pure (ps.zip us)):nc K mg C x qual st ps:=
 {f,_,⟨c,i,n⟩,qg l cd k,(qg l cd k).binds hb,Uz X G a}
section
variable{X:Cx}
theorem MA:cO X (.builtin "isinstance") (λxs H Q=>wV X.K xs H Q\/
  (∃a C od fl b y,xs=[.ref a,y]/\H a=YV (xo a C od fl)/\(∀dx,od=YV dx->∃fs,H dx=YV (L2.xf dx fs))/\ä X.K C/\uG y≠ .none/\R0 X.K (.ref C) (uG y)=YV b/\Q (.bl b) H)):=aI.or DM
end
section
variable{prog:Program}{w:RS}{A:Sd}{E:RC->RF->Prop}{h:R8}{g:Array UA}{d:Drawn}{t:Nat}{os:So}{K:RG}{C:RB}
end
theorem tF{x:Nat->V}{te:CB->TE}{Q:VK}{B:St}{H1:Hp}(R:Nat->V->Hp->Prop)(hn:n<sizeLine)
  (stop:∀H,ak H1 H->J.stop n H) (go:∀i H,i<n->ak H1 H->J.go i H) (ń:∀i H v H',i<n->ak H1 H->J.ń i H v H'->H'=H/\v=x i)
  (he:∀b i H (G:VK),i<n->ak H1 H->(∀y H',ak H H'->R i y H'->G y H')->te b (YV (x i)::Ē fr B) H G)
  (mono:∀i y H H',ak H H'->R i y H->R i y H') (st:∀i y H D ys zs,H D=YV (.lst ys)->R i y H->R i y (upd H D (.lst zs)))
  (fin:∀D H ys,H1 D=YW->ak H1 H->H D=YV (.lst ys)->ys.length=n->(∀(i:Nat) y,ys[i]?=YV y->R i y H)->Q (.ref D) H):qG J 1 fr (λ_=>qT 0) (λ_=>Mp) te Q B H1:=by
 refine⟨λb D hD=>?_⟩
 refine{λi m B' H'=>m=n-i/\i<=n/\(∃v0,B'=v0::Ē fr B)/\ak H1 H'/\∃ys,H' D=YV (.lst ys)/\ys.length=i/\∀(j:Nat) y,ys[j]?=YV y->R j y H',{n,rfl,Pc _,⟨YW,rfl⟩,ak.upd hD _,[],ao,rfl,λj y h=>by cases h},?_}
 rintro i m B' H' ⟨rfl,hi,⟨v0,rfl⟩,sm,ys,hl,hy,hR⟩
 by_cases Û:i<n
 ·refine .inr {go i H' Û sm,λσ2 H2=>(∃v0,σ2=v0::Ē fr B)/\ak H1 H2/\∃ys,H2 D=YV (.lst ys)/\ys.length=i+1/\∀(j:Nat) y,ys[j]?=YV y->R j y H2,λσ2 H2 q=>{n-(i+1),(),rfl,Û,q},λv H2 y=>?_};obtain⟨rfl,rfl⟩:=ń i H' v H2 Û sm y;refine he b i _ _ Û sm λz H4 s4 rz=>{ys,s4 _ _ hl,(),{_,rfl},?_,ys++[z],ao,by simp[hy],λj y' hj=>?_}
  ·intro c o q;by_cases hc:c=D
   ·rw[hc,hD]at q;cases q
   rw[ay hc];exact(sm.trans s4) c o q
  have hD4:=s4 _ _ hl;by_cases hji:j<ys.length
  ·rw[Qm hji]at hj;exact st _ _ _ _ _ _ hD4 (mono _ _ _ _ s4 (hR j y' hj))
  by_cases e:j=ys.length
  ·subst e;rw[Qh (OW _)]at hj;simp at hj;subst hj;rw[hy];exact st _ _ _ _ _ _ hD4 rz
  rw[Qj (by simp;lia)]at hj;cases hj
 have e:i=n:=()
 subst e
 exact .inl ⟨stop H' sm,fin D H' ys hD sm hl hy hR⟩
end L2
namespace L2
open PySem PySem.Spec PyProof.Rows
section
variable{P:Program}{w:RS}{K:RG}{mg:Str->Option RC}{base:R8}
structure ý(K:RG)(C:RB)(m qual:Str)(st:RY)(ps:List Str):Prop where
 ex:∃f fd,Χ K m qual st f fd/\Y3 K fd ps []/\Zi K C m f
def uP(P:Program)(w:RS)(K:RG)(mg:Str->Option RC)(base:R8)(k:Nat)(C:RB)(m:Str)(ps:List Str)(sp:Sp):Prop:=
 ∃f fd,hZ P w K mg base ġ k f fd ps sp/\Y3 K fd ps []/\Zi K C m f
abbrev ý.Hz{C:RB}{m qual:Str}{st:RY}{ps:List Str}(_:ý K C m qual st ps)(P:Program)(w:RS)(mg:Str->Option RC)(base:R8)(k:Nat)(sp:Sp):Prop:=uP P w K mg base k C m ps sp
theorem ý.hs{C m qual st N ps k sp}(F:ý K C m qual st ps)(S:aw N ps (aq st))
  (â:∀f Â A outer s H vs Q E,cN k (A.deeper (Tw qual (aq st) s.heap.objs.size f Â))->(A.deeper (Tw qual (aq st) s.heap.objs.size f Â)).units+64<S8->sp vs H Q E->
   ∃t,ü (nG ġ P w K mg base N qual (aq st) f Â A outer s H E).ό (aU st) t/\t { nx:=λ_ H'=>Q .Ä H',rt:=Q } (Y4 N vs) H) (len:∀vs H Q E,sp vs H Q E->vs.length=ps.length:=by intro _ _ _ _ h;cases h;subst_vars;rfl):uP P w K mg base (k+1) C m ps sp:=by
 obtain⟨f,fd,F,b,m⟩:=F.ex
 exact{f,fd,F.ok S len λÂ A outer s H vs Q E hr h=>â f Â A outer s H vs Q E hr hr.units h,b,m}
theorem ϴ.mono(D:ϴ P w K mg base j x ps sp)(h:j<=k):ϴ P w K mg base k x ps sp:=by
 obtain⟨f,fd,F,b⟩:=D;exact⟨f,fd,F.mono h,b⟩
structure d5(K:RG)(mg:Str->Option RC)(C:RB)(x:Str)(up:List RB):Prop where
 mg:mg x=YV (.ref C)
 cl:Ě K C
 mro:∃cd,YS K C=YV cd/\cd.mro=up.map RM++[SX "object"]
 ty:W.typeIn K (.ref C)=YV (.type "type")
 kc:RZ K (.ref C) "__class__"=YV (YV (.builtin "object.__class__"))
 cg:SQ K (.builtin "object.__class__") "__get__"=YV (YV (.builtin "getset_descriptor.__get__"))
 ct:T4 K (.builtin "object.__class__")=YV true
 mks:Xw K C=true
 kp:SG K (.ref C)=true
variable{C D:RB}{x y:Str}{up vp:List RB}
theorem d5.sub(O:d5 K mg C x up) (b):Xb K C b=YV ((up.map RM++[SX "object"]).contains b):=by
 obtain⟨cd,h1,h2⟩:=O.mro;unfold Xb;rw[h1];show(if cd.mro.isEmpty=true then YW else YV (cd.mro.contains b))=_;rw[h2,if_neg (by cases up<;>simp)]
theorem uF(up:List RB)(D:RB):(up.map RM++[SX "object"]).contains (RM D)=decide (D∈up):=by
 induction up with
 |nil=>rfl
 |cons a r ih=>
  show((RM D==RM a)||(r.map RM++[SX "object"]).contains (RM D))=_;rw[ih];by_cases h:D=a
  ·subst h;simp
  have:(RM D==RM a)=false:=by
   rw[QJ];intro z;exact h (WD (beq_iff_eq.mp z))
  rw[this,Bool.false_or];simp[h]
theorem d5.kit(O:d5 K mg C x up)(Ĳ:d5 K mg D y vp)(hs:C∈up):R0 K (.ref C) (.ref D)=YV (decide (D∈up)):=by
 unfold R0;split
 ·rename_i q;have:C=D:=WD (beq_iff_eq.mp q);rw[<-this,decide_eq_true hs]
 obtain⟨cd,h1,_⟩:=Ĳ.mro;unfold W.kitCls;dsimp only;rw[h1,Ĳ.ty];rw[if_pos (by rfl)];show Xb K C (.ref D)=_;rw[O.sub,uF]
theorem d5.Na(O:d5 K mg C x up)(e:H a=YV (.ins C dx fs)):o7 K H (.ref a) (.ref C):=
 .ins e O.cl O.kc O.cg O.ct ((O.sub _).trans (by simp))
end
section
variable{X:Cx}{k j:Nat}{C:RB}{x m:Str}{ps:List Str}{sp:Sp}{o e:Expr}{es:List Expr}{ta:TE}{t:TA}{p apos pos:Pos}{up:List RB}
theorem i6(O:d5 X.K X.mg C x up)(D:uP X.prog X.w X.K X.mg X.base j C "__init__" ps sp)(hr:cN k X.A)(ha:PA X (e::es) t)(hj:j+1<=k:=by decide)(hg:Gl X x:=by rfl)(ì:(x==("__debug__":Str))=false:=by decide)
  (he:RJ (e::es) X.env=(false,Sj e X.env)::RJ es X.env:=by rfl) (ê:(Sk pos (RJ es X.env)).any (·.1)=false:=by rfl):PE X (.Call (.Name x p) (e::es) [] pos) (Bu C sp [] E0 t):=by
 obtain⟨f,fd,F,b,m⟩:=D
 exact IC ⟨O.mks,m.at_,m.fn,O.kp⟩ F (hr.mono hj) hg O.mg b .nil sJ ha ì he ê
theorem DL(O:d5 X.K X.mg C x up)(D:uP X.prog X.w X.K X.mg X.base j C "__init__" ps sp)(hr:cN k X.A)(hj:j+1<=k:=by decide)(hg:Gl X x:=by rfl)(ì:(x==("__debug__":Str))=false:=by decide):PE X (.Call (.Name x p) [] [] pos) (Bu C sp [] E0 DD):=by
 obtain⟨f,fd,F,b,m⟩:=D;exact E8 ⟨O.mks,m.at_,m.fn,O.kp⟩ F (hr.mono hj) hg O.mg b .nil sJ ì
theorem kh(he:PE X o ta)(c:Ě X.K C)(D:uP X.prog X.w X.K X.mg X.base j C m ps sp)(hr:cN k X.A)(ha:PA X (e::es) t)(hj:j<=k:=by decide)
  (ħ:RJ (e::es) X.env=(false,Sj e X.env)::RJ es X.env:=by rfl) (ê:(Sk pos (RJ es X.env)).any (·.1)=false:=by rfl)
  (ht:Sj (.Call (.Attribute o m apos) (e::es) [] pos) X.env=(do
   let ov<-Sj o X.env
   Wc apos.atName
   let (f,first)<-Ua [ov] (Vo ov m pl)
   callWith pos f first (Sk pos (RJ (e::es) X.env)) (Ud pos (Tg [] X.env))):=by rfl) :
  PE X (.Call (.Attribute o m apos) (e::es) [] pos) (IQ C m sp [] E0 ta t):=by
 obtain⟨f,fd,F,b,hm⟩:=D
 exact G5 (pl:=pl) he c hm F (hr.mono hj) b .nil sJ ha ħ ê ht
def Lz(M:RB->Sp->Prop)(m:Str)(ta:TE)(t:TA):TE:=λB H Q=>ta B H λx H1=>∃a C dx fs sp,x=.ref a/\H1 a=YV (.ins C dx fs)/\fs.lookup m=YW/\M C sp/\t B H1 λvs H2=>sp (x::vs) H2 Q E0
theorem qA(he:PE X o ta)(hM:∀C sp,M C sp->Ě X.K C/\∃ps,uP X.prog X.w X.K X.mg X.base j C m ps sp)(hr:cN k X.A)(hj:j<=k:=by decide)
  (ht:Sj (.Call (.Attribute o m apos) [] [] pos) X.env=(do
   let ov<-Sj o X.env
   Wc apos.atName
   let (f,first)<-Ua [ov] (Vo ov m pl)
   callWith pos f first (Sk pos (RJ [] X.env)) (Ud pos (Tg [] X.env))):=by rfl) :
  PE X (.Call (.Attribute o m apos) [] [] pos) (Lz M m ta DD):=by
 intro pins s B H Q I h
 refine XX (pl:=pl) (È (he pins s B H _ I h) λu s1 ⟨x,H1,I1,rx,a,C,dx,fs,sp,ex,ea,l,hm,q⟩=>?_) ht
 obtain⟨c,ps,f,fd,F,b,hm⟩:=hM C sp hm
 subst ex
 obtain rfl:u=RM a:=rx
 refine uo I1 ea c hm l ?_
 exact W.callWith_K0 (first:=[.ref a]) I1.Þ hm.kp (xt (us:=[.ref a]) (vs:=[.ref a]) (dvs:=[]) F (hr.mono hj) b .nil sJ I1 (.cons rfl .nil) q)
structure OfC(K:RG)(C:RB)(m:Str):Prop where
 ga:SQ K (.ref C) "__getattribute__"=YV (YV (.builtin "type.__getattribute__"))
 rd:W.readsIn K C (.type "type")=true
 fc:∃f,RZ K (.ref C) m=YV (YV (.ref f))/\W.findCls K (.ref C) (.type "type") m=YV (.val (.ref f))
theorem kj(O:d5 X.K X.mg C x up)(W:OfC X.K C m)(D:uP X.prog X.w X.K X.mg X.base j C m ps sp)(hr:cN k X.A)(ha:PA X (e::es) t)(hj:j<=k:=by decide)(hg:Gl X x:=by rfl)(ì:(x==("__debug__":Str))=false:=by decide)
  (ħ:RJ (e::es) X.env=(false,Sj e X.env)::RJ es X.env:=by rfl) (ê:(Sk pos (RJ es X.env)).any (·.1)=false:=by rfl)
  (ht:Sj (.Call (.Attribute (.Name x p) m apos) (e::es) [] pos) X.env=(do
   let ov<-Sj (.Name x p) X.env
   Wc apos.atName
   let (f,first)<-Ua [ov] (Vo ov m pl)
   callWith pos f first (Sk pos (RJ (e::es) X.env)) (Ud pos (Tg [] X.env))):=by rfl) :
  PE X (.Call (.Attribute (.Name x p) m apos) (e::es) [] pos) (vn sp [] E0 t):=by
 obtain⟨f,fd,F,b,hm⟩:=D
 intro pins s B H Q I h
 refine PySem.W.methodCall_KW (pl:=pl) (jo I hg O.mg ?_ ì) ht
 obtain⟨f',h1,h2⟩:=W.fc
 have ef:f=f':=by
  have:=hm.at_.symm.trans h1;cases this;rfl
 subst ef
 refine PySem.W.method_cls I.Þ W.ga (PySem.W.cls_value I.Þ W.rd h2 rfl ?_)
 refine PySem.W.callWith_K (h₀:=X.base) I.ok.mod.Ζ hm.kp (È (ha pos pins _ B H _ (I.tok _) h) λus s2 ⟨vs,H2,I2,r,q2⟩=>{I2.Þ,?_}) ħ ê
 exact xt (us:=us) (vs:=vs) F (hr.mono hj) b .nil sJ I2 r q2
end
theorem Lx{K:RG}{C:RB}{m qual:Str}{st:RY}{ps:List Str}{f:RB}{oc:RC}{od an:Option RB}{æ:Array (Option RC)}{kV doc pm Â ct:RC}
  (a:RZ K (.ref C) m=YV (YV (.ref f))) (fn:VF K (.ref f)=true) (l:K.lookup f=YV {oc,od,.func (SK m qual (bg st) (aU st) (aq st) .none kV doc pm an Â ct),æ}) (c:Ue K Â qual=true) (k:SG K (.ref f)=true)
  (hb:∀(kV doc pm:RC)(an:Option RB)(Â ct:RC)(us:List RC),us.length=ps.length->bindArgs (SK m qual (bg st) (aU st) (aq st) .none kV doc pm an Â ct) {us,[]}=pure (ps.zip us)):ý K C m qual st ps:=
 {f,_,qg l c k,(qg l c k).binds hb,⟨a,fn,k⟩}
def Ý(x:RB)(H H':Hp):Prop:=∀b,b≠x->∀o,H b=YV o->H' b=YV o
theorem Ý.refl (x H):Ý x H H:=λ_ _ _ h=>h
theorem Ý.trans(a:Ý x H H1)(b:Ý x H1 H2):Ý x H H2:=λc hc o h=>b c hc o (a c hc o h)
theorem Ý.at (x H o):Ý x H (upd H x o):=λb hb u q=>by rw[ay hb];exact q
theorem Ý.new(h:H p=YW) (o):Ý x H (upd H p o):=λb _ u q=>by rw[ay (bZ q h)];exact q
theorem Ý.of(s:ak H H'):Ý x H H':=λb _ o h=>s b o h
theorem Ý.same(b:Ý x (upd (upd H dx o) x o') H')(hx:H x=YW)(hd:H dx=YW):ak H H':=λa u q=>by
 have h1:a≠x:=λz=>by rw[z,hx]at q;cases q
 have h2:a≠dx:=λz=>by rw[z,hd]at q;cases q
 exact b a h1 u (by rw[ay h1,ay h2];exact q)
end L2
namespace L2
open PySem
theorem Fz(hx:H x=YW)(hd:H dx=YW)(h:upd (upd H dx o) x o' p=YW):H p=YW:=by
 unfold upd at h;split at h
 ·cases h
 split at h
 ·cases h
 exact h
theorem Ý.none(b:Ý x H H')(e:p≠x)(h:H' p=SS):H p=SS:=by
 cases z:H p with
 |none=>rfl
 |some o=>exact absurd (h.symm.trans (b _ e _ z)) (by intro w;cases w)
end L2
namespace L2
open PySem PySem.Spec PyProof.Rows
section
variable{X:Cx}
def vj:V->Bool
 | .ϭ _=>false
 | .ğ _=>false
 |_=>true
theorem p8(hx:vj x=true)(ru:Y0 x u)(rv:Y0 x v) (A s):VH A s u v true:=by
 cases x with
 |Ä=>cases ru;cases rv;exact .same _
 |bl b=>cases ru;cases rv;exact .same _
 |int i=>
  obtain⟨t,rfl⟩:=ru;obtain⟨t',rfl⟩:=rv;have:=WS (A:=A) (s:=s) i t i t';rwa [beq_self_eq_true]at this
 |str y=>
  obtain⟨t,rfl⟩:=ru;obtain⟨t',rfl⟩:=rv;have:=WT (A:=A) (s:=s) y t y t';rwa [beq_self_eq_true]at this
 |ğ _=>cases hx
 |ϭ _=>cases hx
 |ref a=>cases ru;cases rv;exact .same _
 |ty n=>cases ru;cases rv;exact .same _
theorem MB(hu:X.A.units+64<S8):Ñ X (RV .Eq) (λx y H Q=>∃p q xs,x=.ref p/\y=.ref q/\À X.K H p xs/\À X.K H q xs/\xs.all vj=true/\Q (.bl true) H):=by
 intro pins s B H x y v u Q I rx ry h;obtain⟨p,q,xs,rfl,rfl,hp,hq,hf,k⟩:=h;cases rx;cases ry;obtain⟨Á,r1,⟨o,n,e1,c1,_,d1⟩,_⟩:=I.list hp;obtain⟨jts,r2,⟨o2,n2,e2,c2,_,d2⟩,_⟩:=I.list hq;have l1:=r1.length;have l2:=r2.length;refine SeqAt.eq_listAt (e:=λ_=>true) ⟨o,e1,c1,n,d1⟩ ⟨o2,e2,c2,n2,d2⟩ (by simp;lia) () (λj h1 h2=>?_) ?_
 ·simp at h1 h2;obtain⟨x,hx⟩:∃x,xs[j]?=YV x:={xs[j]'(()),OV ()};obtain⟨u1,g1,w1⟩:=r1.get hx;obtain⟨u2,g2,w2⟩:=r2.get hx;have z1:Á.toArray[j]'(by simpa using h1)=u1:=by
   have:=OV h1;rw[g1]at this;simpa using (RQ this).symm
  have z2:jts.toArray[j]'(by simpa using h2)=u2:=by
   have:=OV h2;rw[g2]at this;simpa using (RQ this).symm
  rw[z1,z2];exact p8 (Qr.mp hf x (OY hx)) w1 w2 _ _
 have:((RX Á.toArray.size).all λ_=>true)=true:=by simp
 rw[this];exact⟨.bl true,H,I,rfl,k⟩
def N6(K:RG):R2:=λx y H Q=>match x,y with
 | .ref p,.ref q=>(∃d e,ja K H (.ref p) d/\ja K H (.ref q) e/\Sa d=true/\Sa e=true/\Q (.bl (SY d e)) H)\/(∃xs,À K H p xs/\À K H q xs/\xs.all vj=true/\Q (.bl true) H)
 |x,y=>C4 x y=true/\Q (.bl (decide (x=y))) H
theorem MQ(hu:X.A.units+64<S8):Ñ X (RV .Eq) (N6 X.K):=((Oq hu).or (MB hu)).imp λx y H Q q=>by
 by_cases hr:∃p q,x=V.ref p/\y=V.ref q
 ·obtain⟨p,q',rfl,rfl⟩:=hr;rcases q with q|⟨xs,h1,h2,h3,h4⟩
  ·exact .inl q
  exact .inr ⟨p,q',xs,rfl,rfl,h1,h2,h3,h4⟩
 refine .inl ?_;cases x<;>cases y<;>first|exact q|exact absurd {_,_,rfl,rfl} hr
theorem EN:cO X (.type "int") (λxs H Q=>∃b,xs=[.bl b]/\Q (.int (if b=true then 1 else 0)) H):=by
 intro pins s B H xs us Q I r h;obtain⟨b,rfl,q⟩:=h;obtain⟨u,rfl,rfl⟩:=Y9 r;exact PySem.call_int_bool {.int _,H,I.tok _,{_,rfl},q}
end
section
variable{κ:Type}[DecidableEq κ]
def bx(kvs:List (κ×V))(k:κ):Option V:=(kvs.find? λkv=>decide (kv.1=k)).map (·.2)
def Y2(kvs:List (κ×V))(k:κ)(v:V):List (κ×V):=
 if(kvs.any λkv=>decide (kv.1=k))=true then kvs.map (λkv=>if kv.1=k then(kv.1,v)else kv)else kvs++[(k,v)]
def pM(kvs:List (κ×V))(k:κ):List (κ×V):=kvs.filter λkv=>decide (kv.1≠k)
theorem cL{p:κ×V}{r:List (κ×V)}{k:κ}(e:p.1=k):bx (p::r) k=YV p.2:=by simp[bx,P2,e]
theorem cy{p:κ×V}{r:List (κ×V)}{k:κ}(e:¬ p.1=k):bx (p::r) k=bx r k:=by simp[bx,P2,e]
theorem iO(k:κ):∀kvs:List (κ×V),(kvs.any λkv=>decide (kv.1=k))=(bx kvs k).isSome
 | []=>rfl
 |p::r=>by
  rw[Q1];by_cases e:p.1=k
  ·simp only[cL e,decide_eq_true e,Bool.true_or,Rb]
  rw[cy e,decide_eq_false e,Bool.false_or];exact iO k r
theorem yB(k j:κ)(y:V):∀kvs:List (κ×V),bx (kvs.map λkv=>if kv.1=k then(kv.1,y)else kv) j=(bx kvs j).map λx=>if j=k then y else x
 | []=>rfl
 |p::r=>by
  have ih:=yB k j y r;rw[Pp];by_cases h:p.1=k
  ·rw[if_pos h];by_cases e:p.1=j
   ·rw[cL (p:=(p.1,y)) e,cL e,Qe,if_pos (e.symm.trans h)]
   rw[cy (p:=(p.1,y)) e,cy e,ih]
  rw[if_neg h];by_cases e:p.1=j
  ·rw[cL (p:=p) e,cL e,Qe,if_neg (λz=>h (e.trans z))]
  rw[cy (p:=p) e,cy e,ih]
theorem uV(k j:κ)(y:V):∀kvs:List (κ×V),bx kvs k=YW->bx (kvs++[(k,y)]) j=if j=k then YV y else bx kvs j
 | [],_=>by
  by_cases e:k=j
  ·rw[if_pos e.symm];exact cL (p:=(k,y)) e
  rw[if_neg (λz=>e z.symm)];exact cy (p:=(k,y)) e
 |p::r,hn=>by
  rw[XC];have hk:¬ p.1=k:=λz=>by rw[cL z]at hn;cases hn
  rw[cy hk]at hn;have ih:=uV k j y r hn;by_cases e:p.1=j
  ·rw[cL e,cL e,if_neg (λz=>hk (e.trans z))]
  rw[cy e,cy e,ih]
theorem yi(kvs:List (κ×V))(k j:κ)(y:V):bx (Y2 kvs k y) j=if j=k then YV y else bx kvs j:=by
 unfold Y2;by_cases a:(kvs.any λkv=>decide (kv.1=k))=true
 ·rw[if_pos a,yB];rw[iO]at a;by_cases e:j=k
  ·obtain⟨x,hx⟩:=Qw.mp a;rw[if_pos e,e,hx,Qe,if_pos rfl]
  rw[if_neg e];cases bx kvs j with
  |none=>rfl
  |some x=>rw[Qe,if_neg e]
 rw[if_neg a];refine uV k j y kvs ?_;rw[iO]at a;cases q:bx kvs k with
 |none=>rfl
 |some x=>rw[q]at a;exact(a rfl).elim
theorem jh(kvs:List (κ×V))(k:κ)(v:V):(Y2 kvs k v).length<=kvs.length+1:=by
 unfold Y2;split
 ·rw[OU];lia
 rw[O5,Pf,P5];lia
theorem xX{kvs:List (κ×V)}{k:κ}(v:V)(h:bx kvs k=YW):Y2 kvs k v=kvs++[(k,v)]:=by
 unfold Y2;rw[iO,h];exact if_neg ∅
theorem iH.jZ(r:iH o u):o.isSome=u.isSome:=by
 cases o with
 |none=>cases u with
  |none=>rfl
  |some _=>exact(show False from r).elim
 |some _=>cases u with
  |none=>exact(show False from r).elim
  |some _=>rfl
theorem iH.getD(r:iH o u)(rd:Y0 d d'):Y0 (o.getD d) (u.getD d'):=by
 cases o with
 |none=>cases u with
  |none=>exact rd
  |some _=>exact(show False from r).elim
 |some _=>cases u with
  |none=>exact(show False from r).elim
  |some _=>exact r
theorem KV.val(r:KV kvs vs)(k:κ):iH (bx kvs k) (valueAt vs k):=by
 unfold KV at r;induction r with
 |nil=>exact PV
 |@cons p q ps qs h t ih=>
  obtain⟨h1,h2⟩:=h;by_cases e:p.1=k
  ·have e':q.1=k:=h1.symm.trans e;have b:valueAt (q::qs) k=YV q.2:=by simp[valueAt,P2,e']
   rw[cL e,b];exact h2
  have e':¬ q.1=k:=λz=>e (h1.trans z);have b:valueAt (q::qs) k=valueAt qs k:=by simp[valueAt,P2,e']
  rw[cy e,b];exact ih
theorem KV.any(r:KV kvs vs)(k:κ):(kvs.any λkv=>decide (kv.1=k))=vs.any λkv=>decide (kv.1=k):=by
 unfold KV at r;induction r with
 |nil=>rfl
 |cons h t ih=>rw[Q1,Q1,ih,h.1]
theorem KV.KR(r:KV kvs vs)(k:κ)(ry:Y0 y u) :
  KV (kvs.map λkv=>if kv.1=k then(kv.1,y)else kv) (vs.map λkv=>if kv.1=k then(kv.1,u)else kv):=by
 unfold KV at r⊢
 induction r with
 |nil=>exact .nil
 |@cons p q ps qs h t ih=>
  rw[Pp,Pp]
  refine .cons ?_ ih
  obtain⟨h1,h2⟩:=h
  by_cases e:p.1=k
  ·rw[if_pos e,if_pos (h1.symm.trans e)];exact⟨h1,ry⟩
  rw[if_neg e,if_neg (λz=>e (h1.trans z))];exact⟨h1,h2⟩
theorem KV.put(r:KV kvs vs)(k:κ)(ry:Y0 y u):KV (Y2 kvs k y) (stored vs k u):=by
 unfold Y2 stored;rw[r.any k];by_cases e:(vs.any λkv=>decide (kv.1=k))=true
 ·rw[if_pos e,if_pos e];exact r.KR k ry
 rw[if_neg e,if_neg e];exact T6 r ⟨rfl,ry⟩
theorem KV.drop(r:KV kvs vs)(k:κ):KV (pM kvs k) (without vs k):=by
 unfold KV at r⊢;unfold pM without;induction r with
 |nil=>exact .nil
 |@cons p q ps qs h t ih=>
  obtain⟨h1,h2⟩:=h;rw[Q4,Q4];by_cases e:p.1=k
  ·have a:¬ decide (p.1≠k)=true:=by simp[e]
   have b:¬ decide (q.1≠k)=true:=by simp[h1.symm.trans e]
   rw[if_neg a,if_neg b];exact ih
  have e':¬ q.1=k:=λz=>e (h1.trans z);have a:decide (p.1≠k)=true:=by simp[e]
  have b:decide (q.1≠k)=true:=by simp[e']
  rw[if_pos a,if_pos b];exact .cons ⟨h1,h2⟩ ih
theorem KV.keys{kvs:List (κ×V)}{vs:List (κ×RC)}(r:KV kvs vs):kvs.map (·.1)=vs.map (·.1):=by
 unfold KV at r;induction r with
 |nil=>rfl
 |cons h t ih=>rw[Pp,Pp,ih,h.1]
theorem KV.length(r:KV kvs vs):kvs.length=vs.length:=RN r
theorem Ek(kvs:List (κ×V))(k:κ):(pM kvs k).length<=kvs.length:=PX _ _
end
theorem pL(r:Y0 (kV k) u):(aZ P w).is k u=true:=by
 cases k with
 |inl i=>obtain⟨t,e⟩:=(show ∃t,u=SW i t from r);subst e;exact xW P w i t
 |inr x=>obtain⟨t,e⟩:=(show ∃t,u=Vl x t from r);subst e;exact x8 P w x t
theorem uR:∀{ks:List Key}{us:List RC},Y1 (ks.map kV) us->ItemsAre (aZ P w) ks us
 | [],_,r=>by rw[Rj]at r;cases r;exact .nil
 |k::ks,_,r=>by
  rw[Pp]at r;cases r with
  |cons h t=>exact .cons (pL h) (uR t)
abbrev KT(H:Hp):List (List Key×V)->List (List Key×RB×RC)->Prop:=Paired λp q=>p.1=q.1/\H q.2.1=YV (.tup (p.1.map kV))/\Y0 p.2 q.2.2
theorem KT.val(r:KT H kvs xs)(k:List Key):iH (bx kvs k) ((XU xs k).map (·.2)):=by
 induction r with
 |nil=>exact PV
 |@cons p q ps qs h t ih=>
  obtain⟨h1,_,h2⟩:=h;by_cases e:p.1=k
  ·have e':q.1=k:=h1.symm.trans e;have b:XU (q::qs) k=YV q.2:=by simp[XU,P2,e']
   rw[cL e,b];exact h2
  have e':¬ q.1=k:=λz=>e (h1.trans z);have b:XU (q::qs) k=XU qs k:=by simp[XU,P2,e']
  rw[cy e,b];exact ih
theorem KT.KR(r:KT H kvs xs)(k:List Key)(ry:Y0 y u) :
  KT H (kvs.map λkv=>if kv.1=k then(kv.1,y)else kv) (xs.map (putAt k u)):=by
 induction r with
 |nil=>exact .nil
 |@cons p q ps qs h t ih=>
  rw[Pp,Pp]
  refine .cons ?_ ih
  obtain⟨h1,h2,h3⟩:=h
  unfold putAt
  by_cases e:p.1=k
  ·rw[if_pos e,if_pos (h1.symm.trans e)];exact⟨h1,h2,ry⟩
  rw[if_neg e,if_neg (λz=>e (h1.trans z))];exact⟨h1,h2,h3⟩
theorem KT.put(r:KT H kvs xs)(k:List Key)(hb:H b=YV (.tup (k.map kV)))(ry:Y0 y u) :
  KT H (Y2 kvs k y) (storedH xs k b u):=by
 have e:(kvs.any λkv=>decide (kv.1=k))=(XU xs k).isSome:=by
  rw[iO,(r.val k).jZ,Q0]
 unfold Y2 storedH
 rw[e]
 by_cases q:(XU xs k).isSome=true
 ·rw[if_pos q,if_pos q];exact r.KR k ry
 rw[if_neg q,if_neg q];exact T6 r ⟨rfl,hb,ry⟩
theorem KT.keeps(r:KT H kvs xs)(ht:∀b ys,H b=YV (.tup ys)->H' b=YV (.tup ys)):KT H' kvs xs:=
 Paired.gR r λ_ _ z=>{z.1,ht _ _ z.2.1,z.2.2}
section
variable{P:Program}{w:RS}{H:Hp}{h:R8}{a:RB}
theorem Jl(ok:ó P w H h)(e:Rd H a u):bO P w H h a u:=e.ok ok
theorem k7(ok:ó P w H h)(e:Rd H a (.dK kvs)):kvs.length<=sizeLine/\(a==SO)=false/\∃vs,KV kvs vs/\h.DictOf (aZ P w) a vs:=
 show bO P w H h a (.dK kvs)from Jl ok e
theorem vk(ok:ó P w H h)(e:H a=YV (.dK kvs)):kvs.length<=sizeLine/\(a==SO)=false/\∃vs,KV kvs vs/\h.DictOf (aZ P w) a vs:=k7 ok (.inl e)
theorem qi(ok:ó P w H h)(e:H a=YV (.tup (ks.map kV))):(Vm (aZ P w)).is h ks a:=by
 obtain⟨_,Á,r,o,h1,h2,n,h3⟩:=(show bO P w H h a (.tup (ks.map kV))from ok a _ e);exact⟨o,Á.toArray,n,h1,h2,h3,by simpa using uR r⟩
theorem tj(ok:ó P w H h)(e:Rd H a (.dT kvs)):kvs.length<=sizeLine/\(a==SO)=false/\
  ∃xs,KT H kvs xs/\h.DictOfH (Vm (aZ P w)) a xs:=by
 obtain⟨z,y,xs,r,o,es,ep,h1,h2,h3,h4,h5⟩:=(show bO P w H h a (.dT kvs)from Jl ok e)
 refine{z,y,xs,r,o,es,ep,h1,h2,h3,h4,λx hx=>?_,h5}
 have all:∀{l:List (List Key×V)}{m:List (List Key×RB×RC)},KT H l m->∀x∈m,(Vm (aZ P w)).is h x.1 x.2.1:=by
  intro l m q;induction q with
  |nil=>intro x hx;exact nomatch hx
  |@cons p q ps qs hq t ih=>
   intro x hx;rcases O4.mp hx with e|hx
   ·subst e;exact qi ok (by rw[<-hq.1];exact hq.2.1)
   exact ih x hx
 exact all r x hx
theorem Nz(ok:ó P w H h)(e:H a=YV (.dT kvs)):kvs.length<=sizeLine/\(a==SO)=false/\
  ∃xs,KT H kvs xs/\h.DictOfH (Vm (aZ P w)) a xs:=tj ok (.inl e)
end
def lH(H:Hp)(a:RB)(y:V)(r:Option V):Prop:=
 (∃kvs k,Rd H a (.dK kvs)/\y=kV k/\r=bx kvs k)\/∃kvs k b,Rd H a (.dT kvs)/\y=.ref b/\H b=YV (.tup (k.map kV))/\r=bx kvs k
def gQ(H:Hp)(a:RB)(y v:V)(H':Hp):Prop:=
 (∃kvs k,H a=YV (.dK kvs)/\y=kV k/\kvs.length<sizeLine/\H'=upd H a (.dK (Y2 kvs k v)))\/
 ∃kvs k b,H a=YV (.dT kvs)/\y=.ref b/\H b=YV (.tup (k.map kV))/\kvs.length<sizeLine/\H'=upd H a (.dT (Y2 kvs k v))
theorem lH.k{H:Hp}{a:RB}{kvs:List (Key×V)}{k:Key}(e:H a=YV (.dK kvs)):lH H a (kV k) (bx kvs k):=.inl ⟨kvs,k,.inl e,rfl,rfl⟩
theorem gQ.k{H:Hp}{a:RB}{kvs:List (Key×V)}{k:Key}{v:V}(e:H a=YV (.dK kvs))(hl:kvs.length<sizeLine):gQ H a (kV k) v (upd H a (.dK (Y2 kvs k v))):=.inl ⟨kvs,k,e,rfl,hl,rfl⟩
section
variable{X:Cx}{pins:List (RB×Obj)}{B:St}{H:Hp}{s:RF}{a:RB}{y v:V}{u r:RC}{o:Option V}{A:Sd}{E:RC->RF->Prop}
theorem Inv.big(I:Inv X pins B H s):SO<s.heap.objs.size:=by
 have h:RU<s.heap.objs.size:=(I.mod.glob.keeps I.bk).lt;exact Rq ∅ h
theorem CZ(hu:A.units+1<S8)(I:Inv X pins B H s)(g:lH H a y (YV v))(ry:Y0 y u)(h:∀w' s',Inv X pins B H s'->Y0 v w'->Q w' s') :
  wpAny (RK X.prog X.w) A (U9 (.ref a) u) Q E s:=by
 rcases g with⟨kvs,k,e,ey,l⟩|⟨kvs,k,b,e,ey,eb,l⟩
 ·subst ey;obtain⟨z,hd,vs,rel,dd⟩:=k7 I.Å e;obtain⟨w',hw,Ĥ⟩:=iH.some_of (v:=v) (o:=valueAt vs k) (by rw[l];exact rel.val k);exact wpAny_getItem_of (pL ry) dd.mapOf hw (h w' _ (I.tok _) Ĥ)
 subst ey
 cases (show u=RM b from ry)
 obtain⟨z,hd,xs,rel,dd⟩:=tj I.Å e
 obtain⟨w',hw,Ĥ⟩:=iH.some_of (v:=v) (o:=(XU xs k).map (·.2)) (by rw[l];exact rel.val k)
 obtain⟨p,hp,hp2⟩:=Qg.mp hw
 refine wpAny_getItem_heap (Tx hu) (qi I.Å eb) dd hp ?_
 rw[hp2]
 exact h w' _ (I.tok _) Ĥ
theorem OA(hu:A.units+1<S8)(I:Inv X pins B H s)(g:lH H a y o)(ry:Y0 y u)(h:∀s',Inv X pins B H s'->Q (.bool o.isSome) s') :
  wpAny (RK X.prog X.w) A (RV .In u (.ref a)) Q E s:=by
 rcases g with⟨kvs,k,e,ey,l⟩|⟨kvs,k,b,e,ey,eb,l⟩
 ·subst ey;obtain⟨z,hd,vs,rel,dd⟩:=k7 I.Å e;refine wpAny_in_of (pL ry) hd dd.mapOf ?_;rw[<-(rel.val k).jZ,<-l];exact h _ (I.tok _)
 subst ey
 cases (show u=RM b from ry)
 obtain⟨z,hd,xs,rel,dd⟩:=tj I.Å e
 refine wpAny_in_heap (Tx hu) (qi I.Å eb) hd dd ?_
 have q:=(rel.val k).jZ
 rw[Q0]at q
 rw[<-q,<-l]
 exact h _ (I.tok _)
theorem Im(hu:A.units+1<S8)(I:Inv X pins B H s)(g:lH H a y o)(ry:Y0 y u)(h:∀s',Inv X pins B H s'->Q (.bool (!o.isSome)) s') :
  wpAny (RK X.prog X.w) A (RV .NotIn u (.ref a)) Q E s:=by
 rcases g with⟨kvs,k,e,ey,l⟩|⟨kvs,k,b,e,ey,eb,l⟩
 ·subst ey;obtain⟨z,hd,vs,rel,dd⟩:=k7 I.Å e;refine wpAny_notIn_of (pL ry) hd dd.mapOf ?_;rw[<-(rel.val k).jZ,<-l];exact h _ (I.tok _)
 subst ey
 cases (show u=RM b from ry)
 obtain⟨z,hd,xs,rel,dd⟩:=tj I.Å e
 refine wpAny_notIn_heap (Tx hu) (qi I.Å eb) hd dd ?_
 have q:=(rel.val k).jZ
 rw[Q0]at q
 rw[<-q,<-l]
 exact h _ (I.tok _)
theorem nv(I:Inv X pins B H s)(mu:Mut (H a))(hs:S2 a s.heap h')(he:∃q,h'.get? a=YV q)(new:bO X.prog X.w (upd H a ob) h' a ob) :
  Inv X pins B (upd H a ob) { s with heap:=h',toks:=t' }:=
 I.write (x:=a) (e:=a) mu (.inl rfl) (λb q hb z=>(hs.2 b hb).trans z) he new
theorem iQ(z:kvs.length<=sizeLine)(hd:(a==SO)=false)(rel:KV kvs vs)(dd:h'.DictOf (aZ P w) a vs) :
  bO P w H' h' a (.dK kvs):=⟨z,hd,vs,rel,dd⟩
theorem CU(hu:A.units+1<S8)(I:Inv X pins B H s)(g:gQ H a y v H')(ry:Y0 y u)(rv:Y0 v r)(h:∀s',Inv X pins B H' s'->Q Unit.unit s') :
  wpAny (RK X.prog X.w) A (setItem (.ref a) u r) Q E s:=by
 rcases g with⟨kvs,k,e,ey,l,eH⟩|⟨kvs,k,b,e,ey,eb,l,eH⟩
 ·subst ey eH;obtain⟨z,hd,vs,rel,dd⟩:=vk I.Å e;have hz:vs.length<=sizeLine:=by rw[<-rel.length];exact z
  have hl:(Y2 kvs k v).length<=sizeLine:=by have:=jh kvs k v;lia
  refine wpAny_setItem_pairs (hsz:=hz) (pL ry) dd λh' ŀ hs=>h _ ?_;have he:∃q,h'.get? a=YV q:=let ⟨q,_,_,hq,_⟩:=ŀ;⟨q,hq⟩
  exact nv I (by rw[e];exact PV) hs he (iQ hl hd (rel.put k rv) ŀ)
 subst ey eH
 cases (show u=RM b from ry)
 obtain⟨z,hd,xs,rel,dd⟩:=Nz I.Å e
 have hz:xs.length<=sizeLine:=by rw[<-RN rel];exact z
 have hl:(Y2 kvs k v).length<=sizeLine:=by have:=jh kvs k v;lia
 refine wpAny_setItem_heap (hsz:=hz) (Tx hu) (qi I.Å eb) dd λh' ŀ hs=>h _ ?_
 obtain⟨q,es,ep,hq,h2,h3,h4,_,h5⟩:=ŀ
 refine nv I (by rw[e];exact PV) hs ⟨q,hq⟩ {hl,hd,_,(rel.put k eb rv).keeps λc ys ec=>?_,q,es,ep,hq,h2,h3,h4,h5}
 rw[ay (ua ec e (λz=>nomatch z))]
 exact ec
end
section
variable{X:Cx}{pins:List (RB×Obj)}{B:St}{H:Hp}{s:RF}{a:RB}{kvs:List (Key×V)}{k:Key}{u:RC}{A:Sd}{E:RC->RF->Prop}
theorem Nv(I:Inv X pins B H s)(e:H a=YV (.dK kvs))(ry:Y0 (kV k) u)(l:bx kvs k=YV v)(hm:more=[]\/∃x,more=[x])
  (h:∀w' s',Inv X pins B (upd H a (.dK (pM kvs k))) s'->Y0 v w'->Q w' s'):wpAny (RK X.prog X.w) A (call (.builtin "dict.pop") (.ref a::u::more)) Q E s:=by
 obtain⟨z,hd,vs,rel,dd⟩:=vk I.Å e
 obtain⟨w',hw,Ĥ⟩:=iH.some_of (v:=v) (o:=valueAt vs k) (by rw[<-l];exact rel.val k)
 have hp:(keyPart u).isSome=true:=by
  cases k with
  |inl i=>obtain⟨t,q⟩:=(show ∃t,u=SW i t from ry);subst q;rfl
  |inr x=>obtain⟨t,q⟩:=(show ∃t,u=Vl x t from ry);subst q;rfl
 have ha:YT "dict.pop" {.ref a::u::more,[]}:=by
  rcases hm with q|⟨x,q⟩
  ·subst q;exact PySem.F.args_dict_pop_2 _ _
  subst q;exact PySem.F.args_dict_pop_3 _ _ _
 refine VI VS dd.typeIs PySem.F.entry_dict_pop ha (meets_dict_pop_there (aZ X.prog X.w) a (pL ry) more hm hp)
  {vs,w',dd,by rw[<-rel.length];exact z,hw,λh' ŀ hs=>h w' _ ?_ Ĥ}
 have he:∃q,h'.get? a=YV q:=let ⟨q,_,_,hq,_⟩:=ŀ;⟨q,hq⟩
 exact nv I (by rw[e];exact PV) hs he (iQ (O6 (Ek kvs k) z) hd (rel.drop k) ŀ)
theorem Ng(I:Inv X pins B H s)(e:Rd H a (.dK kvs))(h:∀t s',Inv X pins B H s'->Q (.int kvs.length t) s'):wpAny (RK X.prog X.w) A (call (.builtin "len") [.ref a]) Q E s:=by
 obtain⟨z,hd,vs,rel,dd⟩:=k7 I.Å e;refine call_len_dict hd dd (by rw[<-rel.length];rw[Td]at z;lia) ?_;rw[<-rel.length];exact h _ _ (I.tok _)
end
theorem zx(I:Inv X pins B H s)(g:lH H a y o):s.TypeIs (.ref a) "dict":=by
 rcases g with⟨kvs,k,e,_,_⟩|⟨kvs,k,b,e,_,_,_⟩
 ·obtain⟨_,_,vs,_,dd⟩:=k7 I.Å e;exact dd.typeIs
 obtain⟨_,_,xs,_,dd⟩:=tj I.Å e;exact dd.typeIs
section
variable{X:Cx}{o i e value:Expr}{pos pos' tpos:Pos}{td ty tv:TE}
end
theorem uw(h:R8)(hb:SO<h.objs.size):bO P w H (h.push { cls:=.type "dict",data:=.dict #[] }) h.objs.size (.dK []):=
 {Pc _,beq_eq_false_iff_ne.mpr (Pm (Ph hb)),[],.nil,Yb h}
def Ll:TE:=λ_ H Q=>∀p,H p=YW->Q (.ref p) (upd H p (.dK []))
section
variable{X:Cx}{pos:Pos}
theorem dW:PE X (.Dict [] [] pos) Ll:=λpins s B H Q I h=>
 wpAny_Dict_empty {.ref s.heap.objs.size,_,I.laid (a:=s.heap.objs.size) (o:=.dK []) (t':=s.toks) (λ_ _ q=>RE _ q) (OW _) (uw s.heap I.big),rfl,h _ (I.Å.fresh (OW _))}
end
def Ay:List (TE×TE)->St->Hp->(List (V×V)->Hp->Prop)->Prop
 | [],_,H,Q=>Q [] H
 | (tk,tv)::r,B,H,Q=>tk B H λx H1=>tv B H1 λy H2=>Ay r B H2 λps H3=>Q ((x,y)::ps) H3
abbrev VV:List (V×V)->List (RC×RC)->Prop:=Paired λp q=>Y0 p.1 q.1/\Y0 p.2 q.2
def PPs(X:Cx)(pos:Pos)(keys:List (Option Expr))(values:List Expr)(trs:List (TE×TE)):Prop:=
 ∀(pins:List (RB×Obj))(s:RF)(B:St)(H:Hp)(Q:List (V×V)->Hp->Prop),Inv X pins B H s->Ay trs B H Q->
  wpAny (RK X.prog X.w) X.A (evalPairs (pairTrees keys values X.env pos)) (λvs s'=>∃ps H',Inv X pins B H' s'/\VV ps vs/\Q ps H') X.xe s
theorem IK:PPs X pos [] [] []:=λpins s B H Q I h=>pairTrees_nil_walk {[],H,I,.nil,h}
theorem Fx(hk:PE X k tk)(hv:PE X v tv)(hr:PPs X pos ks vs trs) :
  PPs X pos (YV k::ks) (v::vs) ((tk,tv)::trs):=λpins s B H Q I h=>
 pairTrees_cons_walk (È (hk pins s B H _ I h) λu s1 ⟨x,H1,I1,rx,q1⟩=>È (hv pins s1 B H1 _ I1 q1) λw2 s2 ⟨y,H2,I2,ry,q2⟩=>
  È (hr pins s2 B H2 _ I2 q2) λws s3 ⟨ps,H3,I3,rel,q3⟩=>{(x,y)::ps,H3,I3,.cons ⟨rx,ry⟩ rel,q3})
def bf(kvs more:List (Key×V)):List (Key×V):=more.foldl (λacc kv=>Y2 acc kv.1 kv.2) kvs
theorem KV.merge:∀{more:List (Key×V)}{rs:List (Key×RC)}{kvs:List (Key×V)}{vs:List (Key×RC)},KV more rs->KV kvs vs->KV (bf kvs more) (merged vs rs):=by
 intro more rs kvs vs r;unfold KV at r;induction r generalizing kvs vs with
 |nil=>intro q;exact q
 |@cons p q ps qs h t ih=>
  intro r0;have e:KV (Y2 kvs p.1 p.2) (stored vs q.1 q.2):=by
   have:=r0.put p.1 h.2;rw[<-h.1];exact this
  exact ih e
theorem jK:∀(more kvs:List (Key×V)),(bf kvs more).length<=kvs.length+more.length
 | [],kvs=>by show kvs.length<=kvs.length+0;lia
 |p::r,kvs=>by
  have h1:=jK r (Y2 kvs p.1 p.2);have h2:=jh kvs p.1 p.2;show(bf (Y2 kvs p.1 p.2) r).length<=_;rw[Pf];lia
theorem uz:∀{kvs:List (Key×V)}{ws:List (RC×RC)},VV (kvs.map λkv=>(kV kv.1,kv.2)) ws->∃rs,Carries (aZ P w) ws rs/\KV kvs rs
 | [],_,r=>by rw[Rj]at r;cases r;exact{[],PV,.nil}
 |p::kvs,_,r=>by
  rw[Pp]at r;cases r with
  |@cons a b as bs h t=>
   obtain⟨rs,c,q⟩:=uz (P:=P) (w:=w) t;obtain⟨b1,b2⟩:=b;exact{(p.1,b2)::rs,⟨pL h.1,rfl,c⟩,.cons ⟨rfl,h.2⟩ q}
def Nj(trs:List (TE×TE)):TE:=λB H Q=>∀p,H p=YW->Ay trs B (upd H p (.dK [])) λps H2=>H2 p=YV (.dK [])/\∃kvs:List (Key×V),ps=kvs.map (λkv=>(kV kv.1,kv.2))/\kvs.length<=15/\Q (.ref p) (upd H2 p (.dK (bf [] kvs)))
theorem HI(h:PPs X pos keys values trs)(hall:keys.all (·.isSome)=true)(hl:keys.length=values.length)(h0:keys≠[])
  (h15:keys.length<=15):PE X (.Dict keys values pos) (Nj trs):=by
 intro pins s B H Q I q
 have hn:=I.Å.fresh (OW s.heap.objs.size)
 have I1:=I.laid (a:=s.heap.objs.size) (o:=.dK []) (h':=s.heap.push { cls:=.type "dict",data:=.dict #[] }) (t':=s.toks) (λ_ _ q=>RE _ q) (OW _) (uw s.heap I.big)
 refine wpAny_Dict_walk (knd:=aZ X.prog X.w) hall hl h0 h15 (È (h pins _ B _ _ I1 (q _ hn)) λws s2 z9=>?_);obtain⟨ps,H2,I2,rel,e,kvs,ep,lk,q2⟩:=z9
 subst ep
 obtain⟨rs,c,rk⟩:=uz (P:=X.prog) (w:=X.w) rel
 obtain⟨z,hd,vs0,r0,dd⟩:=vk I2.Å e
 cases r0
 refine{rs,c,dd,λh' ŀ hs=>{.ref s.heap.objs.size,_,?_,rfl,q2}}
 have hz:(bf [] kvs).length<=sizeLine:=by
  have h1:=jK kvs [];rw[P5]at h1;rw[Td];lia
 have he:∃q,h'.get? s.heap.objs.size=YV q:=let ⟨q,_,_,hq,_⟩:=ŀ;⟨q,hq⟩
 exact nv I2 (by rw[e];exact PV) hs he (iQ hz hd (rk.merge .nil) ŀ)
structure M1(X:Cx)(o:Expr)(m:Str)(apos:Pos)(e:Expr)(Ë:Pos):Prop where
 base:Sx o m X.env (Sj o X.env)=Sj o X.env
 few:((Sk Ë (RJ [e] X.env)).all (λx=>!x.1)&&(Ud Ë (Tg [] X.env)).all (λx=>x.1.isSome)
  &&decide (([e]:List Expr).length+([]:List TY).length+(if([]:List TY).isEmpty then 0 else 1)<30))=true
 line:(apos.endLine==Ë.line)=true
 trees:Sk Ë (RJ [e] X.env)=[(false,Sj e X.env)]
structure M2(X:Cx)(o:Expr)(m:Str)(apos:Pos)(e f:Expr)(Ë:Pos):Prop where
 base:Sx o m X.env (Sj o X.env)=Sj o X.env
 few:((Sk Ë (RJ [e,f] X.env)).all (λx=>!x.1)&&(Ud Ë (Tg [] X.env)).all (λx=>x.1.isSome)
  &&decide (([e,f]:List Expr).length+([]:List TY).length+(if([]:List TY).isEmpty then 0 else 1)<30))=true
 line:(apos.endLine==Ë.line)=true
 trees:Sk Ë (RJ [e,f] X.env)=[(false,Sj e X.env),(false,Sj f X.env)]
def IsD(H:Hp)(a:RB):Prop:=(∃kvs,Rd H a (.dK kvs))\/∃kvs,Rd H a (.dT kvs)
theorem FO(I:Inv X pins B H s)(d:IsD H a) :
  s.TypeIs (.ref a) "dict"/\(∀b,RM a=.ref b->∃ob,s.heap.get? b=YV ob/\ob.dict=YW)/\(a==SO)=false:=by
 rcases d with⟨kvs,e⟩|⟨kvs,e⟩
 ·obtain⟨_,hd,vs,_,dd⟩:=k7 I.Å e;refine{dd.typeIs,λb q=>?_,hd};cases q;obtain⟨ob,_,_,h1,h2,_⟩:=dd;exact⟨ob,h1,h2.2.1⟩
 obtain⟨_,hd,xs,_,dd⟩:=tj I.Å e
 refine{dd.typeIs,λb q=>?_,hd}
 cases q
 obtain⟨ob,_,_,h1,h2,_⟩:=dd
 exact⟨ob,h1,h2.2.1⟩
section
variable{X:Cx}{pins:List (RB×Obj)}{B:St}{H:Hp}{s:RF}{a:RB}{y d:V}{u r:RC}{o:Option V}{A:Sd}{E:RC->RF->Prop}
theorem Ky(hu:A.units+1<S8)(I:Inv X pins B H s)(g:lH H a y o)(ry:Y0 y u)(h:∀w' s',Inv X pins B H s'->Y0 (o.getD .Ä) w'->Q w' s') :
  wpAny (RK X.prog X.w) A (call (.builtin "dict.get") [.ref a,u]) Q E s:=by
 rcases g with⟨kvs,k,e,ey,l⟩|⟨kvs,k,b,e,ey,eb,l⟩
 ·subst ey;obtain⟨z,hd,vs,rel,dd⟩:=k7 I.Å e;refine VI Up dd.typeIs VJ (Vu _ _) (meets_dict_get (aZ X.prog X.w) a (pL ry) hd) {_,dd.mapOf,h _ _ (I.tok _) ?_};rw[l];exact(rel.val k).getD rfl
 subst ey
 cases (show u=RM b from ry)
 obtain⟨z,hd,xs,rel,dd⟩:=tj I.Å e
 refine VI Up dd.typeIs VJ (Vu _ _) (meetsH_dict_get (Vm (aZ X.prog X.w)) a b hd) {Tx hu,k,xs,qi I.Å eb,dd,h _ _ (I.tok _) ?_}
 rw[l]
 exact(rel.val k).getD rfl
end
def Jr(td ty:TE):TE:=λB H Q=>td B H λx H1=>∃a,x=.ref a/\IsD H1 a/\ty B H1 λy H2=>∃o,lH H2 a y o/\Q (o.getD .Ä) H2
def Ke(td ty:TE):TE:=λB H Q=>td B H λx H1=>∃a,x=.ref a/\IsD H1 a/\ty B H1 λy H2=>∃kvs k v,H2 a=YV (.dK kvs)/\y=kV k/\bx kvs k=YV v/\Q v (upd H2 a (.dK (pM kvs k)))
section
variable{X:Cx}{o e f:Expr}{apos Ë:Pos}{td ty tx:TE}
theorem EM(hu:X.A.units+1<S8)(ho:PE X o td)(he:PE X e ty)(m:M1 X o "get" apos e Ë):PE X (.Call (.Attribute o "get" apos) [e] [] Ë) (Jr td ty):=by
 intro pins s B H Q I h;refine Xi m.base m.few m.line T7 Up PySem.F.type_dict_get (È (ho pins s B H _ I h) λu s1 z9=>?_);obtain⟨x,H1,I1,rx,a,ex,d,q1⟩:=z9;subst ex;obtain rfl:u=RM a:=rx;obtain⟨t1,t2,_⟩:=FO I1 d;refine{t1,t2,?_};rw[m.trees];refine S4 rfl (UD (T1 (È (he pins s1 B H1 _ I1 q1) λiv s2 ⟨y,H2,I2,ry,ov,g,q2⟩=>Uc ?_)));exact Ky hu I2 g ry λw' s3 I3 Ĥ=>{_,H2,I3,Ĥ,q2}
theorem Eo(ho:PE X o td)(he:PE X e ty)(m:M1 X o "pop" apos e Ë):PE X (.Call (.Attribute o "pop" apos) [e] [] Ë) (Ke td ty):=by
 intro pins s B H Q I h;refine Xi m.base m.few m.line T7 VS PySem.F.type_dict_pop (È (ho pins s B H _ I h) λu s1 z9=>?_);obtain⟨x,H1,I1,rx,a,ex,d,q1⟩:=z9;subst ex;obtain rfl:u=RM a:=rx;obtain⟨t1,t2,_⟩:=FO I1 d;refine{t1,t2,?_};rw[m.trees];refine S4 rfl (UD (T1 (È (he pins s1 B H1 _ I1 q1) λiv s2 ⟨y,H2,I2,ry,kvs,k,v,ea,ey,l,q2⟩=>Uc ?_)));subst ey;exact Nv I2 ea ry l (.inl rfl) λw' s3 I3 Ĥ=>{v,_,I3,Ĥ,q2}
end
section
variable{X:Cx}{pins:List (RB×Obj)}{B:St}{H:Hp}{s:RF}{a:RB}{kvs:List (Key×V)}{A:Sd}{E:RC->RF->Prop}
theorem F7(I:Inv X pins B H s)(e:Rd H a (.dK kvs))(h:∀p s',H p=YW->Inv X pins B (upd H p (.dK kvs)) s'->Q (.ref p) s'):wpAny (RK X.prog X.w) A (call (.type "dict") [.ref a]) Q E s:=by
 obtain⟨z,hd,vs,rel,dd⟩:=k7 I.Å e;refine kt_call_dict hd dd (by rw[<-rel.length];exact z) λh' ŀ hs=>?_;refine h _ _ (I.Å.fresh (OW _)) (I.laid (a:=s.heap.objs.size) (o:=.dK kvs) (t':=s.toks) (λb q hq=>?_) (OW _) (iQ z (beq_eq_false_iff_ne.mpr (Pm (Ph I.big))) rel ŀ));exact(hs.2 b (Ph (RH hq))).trans (RE _ hq)
end
section
variable{X:Cx}{pins:List (RB×Obj)}{B:St}{H:Hp}{s:RF}{a:RB}{y:V}{u:RC}{A:Sd}{E:RC->RF->Prop}
end
section
variable{X:Cx}
theorem zq(hu:X.A.units+64<S8):IxR X (λx y H Q=>∃a v,x=.ref a/\lH H a y (YV v)/\Q v H):=by
 intro value slice pins s B H x y v u Q I rx ry h hs;obtain⟨a,z,rfl,g,q⟩:=h;cases rx;have hT:=zx I g;unfold WA;refine RA ?_;rw[getitemInPython_of_ne hT.not_modules];refine RA (Yc hT PySem.F.slot_dict_getitem.lookup ?_);have h₂:wpAny (RK X.prog X.w) X.A (U9 (.ref a) u) (EP X pins B Q) X.xe s:=CZ () I g ry λw' s3 I3 Ĥ=>⟨z,H,I3,Ĥ,q⟩;have fin:wpAny (RK X.prog X.w) X.A (subscripted slice false (.ref a) u) (λr s₃=>wpAny (RK X.prog X.w) X.A (letTemporaryGo value (.ref a) r>>=λ_=>pure r) (EP X pins B Q) X.xe s₃) X.xe s:=by
  rw[hs];exact wpAny_operating (Sz h₂ (λr s₃ h₃=>RA (wpAny_letTemporaryGo (RD h₃))) λ_ _ x=>x)
 first
  |exact RD (RA fin)
  |exact RA (RD (RA fin))
  |exact RA fin
inductive dgI(p:RB)(y:V)(H:Hp)(Q:VK):Prop
 |mk (v) (h:lH H p y (YV v)) (q:Q v H):dgI p y H Q
def HK(K:RG):R2:=λx y H Q=>match x,y with
 | .ref p,.int i=>ixS K p i H Q\/dgI p (.int i) H Q
 | .ref p,.str k=>dgI p (.str k) H Q
 | .str z,.int i=>∃c,z.length<=sizeLine/\ô z.cps.toList i=YV c/\Q (.str ⟨#[c]⟩) H
 |_,_=>False
theorem LU(hu:X.A.units+64<S8):IxR X (HK X.K):=by
 intro value slice pins s B H x y v u Q I rx ry h hs;cases x with
 |ref p=>
  cases y with
  |int i=>
   rcases h with h|⟨w,g,q⟩
   ·exact EE value slice pins s B H _ _ v u Q I rx ry h hs
   exact zq hu value slice pins s B H _ _ v u Q I rx ry ⟨p,w,rfl,g,q⟩ hs
  |str k=>
   obtain⟨w,g,q⟩:=h;exact zq hu value slice pins s B H _ _ v u Q I rx ry ⟨p,w,rfl,g,q⟩ hs
  |_=>exact(show False from h).elim
 |str z=>
  cases y with
  |int i=>exact EE value slice pins s B H _ _ v u Q I rx ry h hs
  |_=>exact(show False from h).elim
 |_=>cases y<;>exact(show False from h).elim
theorem sC(hu:X.A.units+64<S8):DZ X (λo i v H Q=>∃a H',o=.ref a/\gQ H a i v H'/\Q H'):=by
 intro pins s B H o i v ov iv u Q I ro ri rv h;obtain⟨a,H',rfl,g,q⟩:=h;cases ro;exact CU () I g ri rv λs4 I4=>⟨H',I4,q⟩
inductive dpI(p:RB)(y v:V)(H:Hp)(Q:Hp->Prop):Prop
 |mk (H') (h:gQ H p y v H') (q:Q H'):dpI p y v H Q
inductive stL(p:RB)(k:Int)(v:V)(H:Hp)(Q:Hp->Prop):Prop
 |mk (xs j) (h0:H p=YV (.lst xs)) (h1:ώ xs.length k=YV j) (q:Q (upd H p (.lst (xs.set j v)))):stL p k v H Q
def MM:J9:=λo i v H Q=>match o,i with
 | .ref p,.int k=>stL p k v H Q\/dpI p (.int k) v H Q
 | .ref p,.str k=>dpI p (.str k) v H Q
 |_,_=>False
theorem cU(hu:X.A.units+64<S8)(hl:DZ X Jn):DZ X MM:=by
 intro pins s B H o i v ov iv u Q I ro ri rv h;cases o with
 |ref p=>
  cases i with
  |int k=>
   rcases h with⟨xs,j,h1,h2,q⟩|⟨H',g,q⟩
   ·exact hl pins s B H _ _ v ov iv u Q I ro ri rv ⟨p,xs,k,j,rfl,rfl,h1,h2,q⟩
   exact sC hu pins s B H _ _ v ov iv u Q I ro ri rv ⟨p,H',rfl,g,q⟩
  |str k=>
   obtain⟨H',g,q⟩:=h;exact sC hu pins s B H _ _ v ov iv u Q I ro ri rv ⟨p,H',rfl,g,q⟩
  |_=>exact(show False from h).elim
 |_=>cases i<;>exact(show False from h).elim
theorem NF(hu:X.A.units+64<S8):Ñ X (RV .In) (λx y H Q=>∃a o,y=.ref a/\lH H a x o/\Q (.bl o.isSome) H):=by
 intro pins s B H x y v u Q I rx ry h;obtain⟨a,o,rfl,g,q⟩:=h;cases ry;exact OA () I g rx λs3 I3=>⟨.bl o.isSome,H,I3,rfl,q⟩
theorem Em(hu:X.A.units+64<S8):Ñ X (RV .NotIn) (λx y H Q=>∃a o,y=.ref a/\lH H a x o/\Q (.bl (!o.isSome)) H):=by
 intro pins s B H x y v u Q I rx ry h;obtain⟨a,o,rfl,g,q⟩:=h;cases ry;exact Im () I g rx λs3 I3=>{.bl (!o.isSome),H,I3,rfl,q}
theorem I0(hu:X.A.units+64<S8):Ñ X (RV .In) (λx y H Q=>fIn X.K false x y H Q\/∃a o,y=.ref a/\lH H a x o/\Q (.bl o.isSome) H):=N8.or (NF hu)
theorem uk(hu:X.A.units+64<S8):Ñ X (RV .NotIn) (λx y H Q=>fIn X.K true x y H Q\/∃a o,y=.ref a/\lH H a x o/\Q (.bl (!o.isSome)) H):=Hw.or (Em hu)
theorem Kl:cO X (.builtin "len") (λxs H Q=>∃a kvs,xs=[.ref a]/\Rd H a (.dK kvs)/\Q (.int (kvs.length:Nat)) H):=by
 intro pins s B H xs us Q I r h;obtain⟨a,kvs,rfl,e,q⟩:=h;obtain⟨u,rfl,rfl⟩:=Y9 r;exact Ng I e λt s' I'=>{.int _,H,I',{_,rfl},q}
theorem B3:cO X (.type "dict") (λxs H Q=>∃a kvs,xs=[.ref a]/\Rd H a (.dK kvs)/\∀p,H p=YW->Q (.ref p) (upd H p (.dK kvs))):=by
 intro pins s B H xs us Q I r h;obtain⟨a,kvs,rfl,e,q⟩:=h;obtain⟨u,rfl,rfl⟩:=Y9 r;exact F7 I e λp s' hp I'=>{.ref p,_,I',rfl,q p hp}
end
end L2
namespace PySem
open Sem (wp)
section
variable{prog:Program}{w:RS}{A:Sd}{E:RC->RF->Prop}{s:RF}
theorem wG:typeLookup (.type "list") "keys"=pure YW:=am_miss_of_fast (by kernel_rfl)
theorem wu(hx:s.heap.get? a=YV o)(hc:o.cls=.type "list")(hdat:o.data=.seq xs k)(hd:o.dict=YW)(hA:A.handled=YW)
  (h:∀h' tk,(∀b ob,s.heap.get? b=YV ob->h'.get? b=YV ob)->Q YW { s with heap:=h',toks:=tk }):wpAny (RK prog w) A (Yy (.ref a) "keys") Q E s:=by
 obtain⟨c,dct,dat,sl⟩:=o
 simp only at hc hdat hd
 subst hc hdat hd
 obtain⟨hp,g,d,tk,os⟩:=s
 have hT:∀tk',(⟨hp,g,d,tk',os⟩:RF).TypeIs (.ref a) "list":=λ_=>{_,hx,rfl}
 have f1:=sub_AttributeError
 have f3:=F.slot_list_getattribute.lookup
 have f4:=F.slot_list_getattribute.bind (.ref a)
 have f5:=am_list_getattr_none
 have hmiss:=wG
 have hname:(["__module__","__name__","__qualname__","__doc__","__annotations__"]:List Str).contains "keys"=false:=by decide+kernel
 unfold Yy getAttrBy? YK
 repeat (any_goals (first|assumption|exact hT _|((with_reducible show wpAny _ _ (call (WC "list.__getattribute__") _ _) _ _ _);refine U1 F.slot_list_getattribute (hT _) am_entry_list_getattribute (F.args_list_getattribute_2 _ _) (meets_getattribute_miss_list a xs k sl "keys" _ hmiss hname ∅) ⟨hx,hA,λh' tk' e ņ=>?_⟩)|wp_step))
 obtain⟨t',u',he⟩:=ņ.there
 have ϔ:(⟨h',g,d,tk',os⟩:RF).TypeIs (.ref e) "AttributeError":={_,he,rfl}
 show wpAny _ _ (WW _ _ _ _ _ _ _) _ _ _
 unfold WW
 repeat (any_goals (first|assumption|wp_step))
 exact h _ _ ņ.keeps
end
end PySem
namespace L2
open PySem PySem.Spec PyProof.Rows
theorem mE:Xj table "dict.update.loop"=YV Tu.«dict.update.loop»:=XD (by kernel_rfl)
theorem fq:plainId "dict.update.loop"=true:=by decide+kernel
section
variable{X:Cx}{pins:List (RB×Obj)}{B:St}{H0:Hp}{A:Sd}
theorem pair_items(h:s.heap.IsTuple t Á)(q:Q Á.toList s):wpAny (RK prog w) A (VL (.ref t)) Q E s:=by
 obtain⟨o,ho,hc,n,hd⟩:=h;unfold VL;refine RA (Ug ⟨o,ho,hc⟩ ?_);rw[if_pos ∅];refine RA ?_;obtain⟨c,dct,dat,sl⟩:=o;simp only at hc hd;subst hc hd;obtain⟨hp,g,d,tk,os⟩:=s;repeat (any_goals (first|assumption|wp_step))
theorem AD(kvs:List (Key×V))(i:Nat)(h:kvs[i]?=YV (k,v)):bf [] (kvs.take (i+1))=Y2 (bf [] (kvs.take i)) k v:=by
 unfold bf;rw[PB,h,Xk];rfl
theorem E7(hc:X.calm=true){l p it:RB}{ps:List RB}{kvs:List (Key×V)}{R:Result->RF->Prop}(hA:A.handled=YW)(hl:À X.K H0 l (ps.map V.ref))(hlen:ps.length=kvs.length)(hn:kvs.length<=1000)
  (hps:∀(i:Nat) t k v,ps[i]?=YV t->kvs[i]?=YV (k,v)->Æ X.K H0 t [kV k,v]) (hp:H0 p=YW)
  (fin:∀s',Inv X pins B (upd H0 p (.dK (bf [] kvs))) s'->R (.ok (.ret .none)) s') :
  ∀n i s,n+i=ps.length->Inv X pins B (upd H0 p (.dK (bf [] (kvs.take i)))) s->sD X pins (upd H0 p (.dK (bf [] (kvs.take i)))) it->s.heap.IsListIter it l i->
   codeAny (RK X.prog X.w) A (.builtin "dict.update.loop" {[.ref p,.ref it,S6 i,.none],[]}) R s:=by
 intro n
 induction n with
 |zero=>
  intro i s hi I hf st
  refine S0 mE ?_
  rw[SI fq _]
  have sm:=ak.upd hp (.dK (bf [] (kvs.take i)))
  obtain⟨Á,rv,pl,hz⟩:=I.list (sm.seq hl)
  have hll:=rv.length
  rw[OU]at hll
  obtain⟨f0,f1,f2,f3,f4,f5⟩:=hf
  unfold Tu.«dict.update.loop»
  refine RA (VR hA st pl.isList (by simp;lia) λh' eb=>?_)
  have I':Inv X pins B (upd H0 p (.dK (bf [] (kvs.take i)))) { s with heap:=h' }:=I.turned (t':=s.toks) (λb o hb e=>eb b o hb e) f0 f1 f3 f4 f5
  rw[QG ()]at I'
  exact RA (RD (RD (fin _ I')))
 |succ n ih=>
  intro i s hi I hf st
  refine S0 mE ?_
  rw[SI fq _]
  have sm:=ak.upd hp (.dK (bf [] (kvs.take i)))
  obtain⟨Á,rv,pl,hz⟩:=I.list (sm.seq hl)
  have hll:=rv.length
  rw[OU]at hll
  obtain⟨t,ht⟩:∃t,ps[i]?=YV t:={ps[i]'(()),OV ()}
  obtain⟨⟨k,v⟩,hk⟩:∃kv,kvs[i]?=YV kv:={kvs[i]'(()),OV ()}
  obtain⟨u,hu1,hu2⟩:=rv.get (x:=.ref t) (i:=i) (by rw[O7,ht];rfl)
  cases hu2
  obtain⟨f0,f1,f2,f3,f4,f5⟩:=hf
  unfold Tu.«dict.update.loop»
  refine RA (VD st pl.isList (x:=.ref t) (by simpa using hu1) λh' ċ sb=>?_)
  have I1:Inv X pins B (upd H0 p (.dK (bf [] (kvs.take i)))) { s with heap:=h' }:=I.turned (t':=s.toks) (λb o hb e=>(sb.2 b hb).trans e) f0 f1 f3 f4 f5
  obtain⟨jts,rj,pt,_⟩:=I1.tuple (sm.tup (hps i t k v ht hk))
  obtain⟨u1,u2,e12,r1,r2⟩:∃u1 u2,jts=[u1,u2]/\Y0 (kV k) u1/\Y0 v u2:=by
   cases rj with
   |cons r1 q=>cases q with
    |cons r2 q=>cases q;exact{_,_,rfl,r1,r2}
  subst e12
  refine RA (wpAny_holding (RA (wpAny_tryCatch (pair_items pt ?_))))
  show wpAny _ _ (Ua [u1,u2] (dictSet p u1 u2)) _ _ _
  refine wpAny_holding ?_
  obtain⟨z,hd,vs,rel,dd⟩:=vk I1.Å (ao (H:=H0) (a:=p) (o:=.dK (bf [] (kvs.take i))))
  have hz':vs.length<=sizeLine:=by rw[<-rel.length];exact z
  have hlk:(bf [] (kvs.take i)).length<=1000:=by
   have:=jK (kvs.take i) [];rw[Pq,P5]at this;lia
  have hlp:(Y2 (bf [] (kvs.take i)) k v).length<=sizeLine:=by
   have h1:=jh (bf [] (kvs.take i)) k v;have h2:=aG hlk;lia
  refine wpAny_dictSet_pairs (hsz:=hz') (pL r1) dd λh2 ŀ hs=>?_
  have he:∃q,h2.get? p=YV q:=let ⟨q,_,_,hq,_⟩:=ŀ;⟨q,hq⟩
  have I2:=nv (t':=s.toks+1) (ob:=.dK (Y2 (bf [] (kvs.take i)) k v)) I1 (by rw[ao];exact PV) hs he (iQ hlp hd (rel.put k r2) ŀ)
  rw[IL,<-AD kvs i hk]at I2
  have Ű:it≠p:=λz=>by rw[z,ao]at f0;cases f0
  have f0':upd H0 p (.dK (bf [] (kvs.take (i+1)))) it=YW:=by
   rw[ay Ű]at f0⊢;exact f0
  refine RD {TV fq _,?_}
  have ec:((i:Int)+1)=((i+1:Nat):Int):=by push_cast;rfl
  rw[ec]
  exact ih (i+1) _ () I2 ⟨f0',f1,f2,f3,f4,f5⟩ (ċ.at λo e=>(hs.2 it Ű).trans e)
theorem ni(hc:X.calm=true:=by rfl):cO X (.type "dict") (λxs H Q=>∃(l:RB)(ps:List RB)(kvs:List (Key×V)),xs=[.ref l]/\À X.K H l (ps.map V.ref)/\ps.length=kvs.length/\kvs.length<=1000/\
  (∀(i:Nat) t k v,ps[i]?=YV t->kvs[i]?=YV (k,v)->Æ X.K H t [kV k,v])/\∀p,H p=YW->Q (.ref p) (upd H p (.dK (bf [] kvs)))):=by
 intro pins s B H xs us Q I r h
 obtain⟨l,ps,kvs,rfl,hl,hlen,hn,hps,q⟩:=h
 obtain⟨u,rfl,rfl⟩:=Y9 r
 have hA:=I.ok.hd hc
 have hp:=I.Å.fresh (OW s.heap.objs.size)
 have I1:=I.laid (a:=s.heap.objs.size) (o:=.dK []) (t':=s.toks) (h':=s.heap.push { cls:=.type "dict",data:=.dict #[] }) (λ_ _ q=>RE _ q) (OW _) (uw s.heap I.big)
 refine callType_codes (Q₁:=λobj s₁=>obj=.ref s.heap.objs.size/\s₁={ s with heap:=s.heap.push { cls:=.type "dict",data:=.dict #[] } }) F.kt_called_dict (F.kt_typeCall_dict_1 _) F.entry_dict_init (kt_code_dict_new _ ⟨rfl,rfl⟩) ?_
 rintro obj s₁ ⟨rfl,rfl⟩
 have Ϥ:(s.heap.push { cls:=.type "dict",data:=.dict #[] }).DictOf (aZ X.prog X.w) s.heap.objs.size []:=Yb s.heap
 have sm:=ak.upd hp (.dK [])
 obtain⟨Á,rv,pl,hz⟩:=I1.list (sm.seq hl)
 obtain⟨o,n,ho,hoc,hod,Ő⟩:=id pl
 refine{Ϥ.typeIs,F.args_dict_init_2 _ _,?_}
 unfold Tu.«dict.__init__»
 refine RA ?_
 unfold Builtin.Dict.selfAndRest
 refine RA (VT Ϥ.typeIs ?_)
 show wpAny _ _ (pure (s.heap.objs.size,[RM l])) _ _ _
 refine RD ?_
 show wpAny _ _ (Vv "dict.__init__" s.heap.objs.size (.ref l) [] .none) _ _ _
 unfold Vv
 refine RA (Ug ⟨o,ho,hoc⟩ ?_)
 rw[if_pos ∅]
 refine RA (wu ho hoc Ő hod hA λh2 tk2 k2=>?_)
 have I2:Inv X pins B (upd H s.heap.objs.size (.dK [])) { s with heap:=h2,toks:=tk2 }:=I1.kept (t':=tk2) k2
 rw[if_pos (show(YW:Option RC).isNone=true from rfl)]
 obtain⟨Ħ,rv2,pl2,_⟩:=I2.list (sm.seq hl)
 refine RA (WX (RA (Uh pl2.isList ?_)))
 refine RD {TV fq _,?_}
 have I3:=I2.kept (h':=h2.push { cls:=.type "list_iterator",data:=.fields #[.ref l,.int 0 0] }) (t':=tk2) λb o e=>RE _ e
 have fp:=I2.uC (H':=upd H s.heap.objs.size (.dK [])) (OW _) (I2.Å.fresh (OW _))
 refine E7 (X:=X) (H0:=H) (A:=X.A.in1) (p:=s.heap.objs.size) (kvs:=kvs) hc hA hl hlen hn hps hp (λs' I'=>?_) ps.length 0 _ rfl I3 fp {_,RL _ rfl,rfl,rfl}
 exact{rfl,.ref s.heap.objs.size,_,I',rfl,q _ hp}
end
section
variable{X:Cx}{pins:List (RB×Obj)}{B:St}{H:Hp}{s:RF}
theorem Inv.wF{h':R8}{t':Nat}{ch:List RB}(I:Inv X pins B H s)(hf:∀b∈ch,sD X pins H b)(k:∀b o,b∉ch->s.heap.get? b=YV o->h'.get? b=YV o):Inv X pins B H { s with heap:=h',toks:=t' }:=by
 have nit:∀b u,H b=YV u->b∉ch:=λb u e z=>by rw[(hf b z).1]at e;cases e
 refine I.step (g':=s.gens) (d':=s.drawn) (ch:=ch) (λb hb=>{(hf b hb).2.2.2.1,(hf b hb).2.1,(hf b hb).2.2.2.2.1,(hf b hb).2.2.2.2.2}) (λb o _ _ hc e _=>k b o hc e) (λb o _ _ hc e _=>⟨o.slots,k b o hc e⟩) (λ_ _ _ _ n=>n)
  (λb o hc e=>⟨o,k b o hc e⟩) (λ_ _ e=>e) (λ_ _ _ e=>e) (λb ps e=>{#[],by rw[e];simp}) (λm hm=>?_) (λb u e=>?_) I.bare
 ·obtain⟨o,es,ep,ho,r⟩:=hm;exact{o,es,ep,k _ o (λz=>(hf _ z).2.1 rfl) ho,r}
 refine(I.Å b u e).o4 (λc v hc q=>k c v ?_ q) (λ_ q=>q) λ_ _ q=>q;rcases hc with rfl|hc
 ·exact nit _ _ e
 exact nit _ _ hc
theorem Inv.Jk(I:Inv X pins B H s)(hf:sD X pins H T)(hz:X.s₀.heap.objs.size<=T)(new:bO X.prog X.w (upd H T u) s.heap T u):Inv X pins B (upd H T u) s:=by
 obtain⟨f0,f1,f2,f3,f4,f5⟩:=hf;have ne0:∀b o,X.s₀.heap.get? b=YV o->b≠T:=λb o e=>Ph (Pd (RH e) hz);have neS:∀b v,H b=YV v->b≠T:=λb v e z=>by rw[z,f0]at e;cases e
 refine⟨I.ok,I.os,I.bare,⟨I.base.keep,I.base.slot,λb o e n hx=>by rw[ay (ne0 b o e)];exact I.base.free b o e n hx,I.base.there,λb xs e=>by
   have:=I.base.tw b xs e;rw[ay (neS b _ this)];exact this,λb o v e=>by
   have:=I.base.qu b o v e;rw[ay (neS b _ this)];exact this,λb ps e=>by
   obtain⟨more,q⟩:=I.base.uB b ps e;exact{more,by rw[ay (neS b _ q)];exact q}⟩,I.loc,I.cell,by rw[ay (Pm f1)];exact I.free,λx c e=>by rw[ay (f4 x c e)];exact I.fu x c e,
  λp hp=>by rw[ay (f5 p hp)];exact I.pin p hp,λb v e=>?_,I.len⟩
 by_cases hb:b=T
 ·subst hb;rw[ao]at e;cases e;exact new
 rw[ay hb]at e;exact(I.Å b v e).o4 (λ_ _ _ q=>q) (λc q=>by rw[ay (neS c _ q)];exact q) λc xs q=>by rw[ay (neS c _ q)];exact q
theorem Inv.N9(I:Inv X pins B H s)(e:H a=YV (.ß o u))(hn:∀o u,X.H₀ a≠YV (.ß o u)):Inv X pins B (upd H a u) s:=by
 have nn:∀b,H b=YW->b≠a:=λb q z=>by rw[z,e]at q;cases q
 have nt:∀b xs,H b=YV (.tup xs)->b≠a:=λb xs q z=>by rw[z,e]at q;cases q
 have nw:∀b x,H b=YV (.own x)->b≠a:=λb x q z=>by rw[z,e]at q;cases q
 have nb:∀b ps,H b=YV (.ϸ ps)->b≠a:=λb x q z=>by rw[z,e]at q;cases q
 refine⟨I.ok,I.os,I.bare,⟨I.base.keep,I.base.slot,λb o q n hx=>by
   have:=I.base.free b o q n hx;rw[ay (nn b this)];exact this,I.base.there,λb xs q=>by
   have:=I.base.tw b xs q;rw[ay (nt b xs this)];exact this,λb o v q=>by
   have hb:b≠a:=λz=>hn o v (by rw[<-z];exact q);rw[ay hb];exact I.base.qu b o v q,λb ps q=>by
   obtain⟨more,r⟩:=I.base.uB b ps q;exact{more,by rw[ay (nb b _ r)];exact r}⟩,I.loc,I.cell,by rw[ay (nn _ I.free)];exact I.free,λx c q=>by rw[ay (nn _ (I.fu x c q))];exact I.fu x c q,
  λp hp=>by rw[ay (nn _ (I.pin p hp).2.1)];exact I.pin p hp,λb v q=>?_,I.len⟩
 by_cases hb:b=a
 ·subst hb;rw[ao]at q;cases q;exact(I.Å b _ e).2.o4 (λ_ _ _ q=>q) (λc q=>by rw[ay (nw c _ q)];exact q) λc xs q=>by rw[ay (nt c _ q)];exact q
 rw[ay hb]at q;exact(I.Å b v q).o4 (λ_ _ _ q=>q) (λc q=>by rw[ay (nw c _ q)];exact q) λc xs q=>by rw[ay (nt c _ q)];exact q
theorem Inv.freeze(I:Inv X pins B H s)(e:H a=YV u)(mu:Mut (H a))(ho:s.heap.get? a=YV o):Inv X pins B (upd H a (.ß o u)) s:=by
 have hk:=I.Å a u e;have:=nv (a:=a) (h':=s.heap) (t':=s.toks) (ob:=.ß o u) I mu {rfl,λ_ _=>rfl} ⟨o,ho⟩ {ho,?_}
 ·exact this
 have nw:∀b x,H b=YV (.own x)->b≠a:=λb x q z=>by rw[z]at q;rw[q]at mu;exact mu
 have nt:∀b xs,H b=YV (.tup xs)->b≠a:=λb xs q z=>by rw[z]at q;rw[q]at mu;exact mu
 exact hk.o4 (λ_ _ _ q=>q) (λc q=>by rw[ay (nw c _ q)];exact q) λc xs q=>by rw[ay (nt c _ q)];exact q
end
def Itd(d:RB)(o:Obj)(kvs:List (Key×V)):It:=
 {λi H=>H d=YV (.ß o (.dK kvs))/\i<kvs.length,λi H x H'=>H'=H/\∃k v,kvs[i]?=YV (k,v)/\x=kV k,λi H=>H d=YV (.ß o (.dK kvs))/\kvs.length<=i}
theorem E5(h:(aZ P w).is k u=true):Y0 (kV k) u:=by
 cases k with
 |inl i=>obtain⟨t,e⟩:=W6 (show XJ i u=true from h);exact⟨t,e⟩
 |inr x=>obtain⟨t,e⟩:=Wj (show Wx x u=true from h);exact⟨t,e⟩
theorem p7{P:Program}{w:RS}{H:Hp}{h:R8}{d:RB}{o:Obj}{kvs:List (Key×V)}{vs:List (Key×RC)}{ep:Nat}(dd:h.DictAt (aZ P w) d vs ep)(ho:h.get? d=YV o){h':R8}(ů:h'.get? d=YV o):h'.DictAt (aZ P w) d vs ep:=by
 obtain⟨o2,es,e,r⟩:=dd;rw[ho]at e;cases e;exact⟨o,es,ů,r⟩
section
variable{X:Cx}
theorem Dy{P:Program}{w:RS}{K:RG}{tg:Expr}(d it:RB)(o:Obj)(kvs:List (Key×V))(vs:List (Key×RC))(ep:Nat)(rel:KV kvs vs)(Ŵ:∀h:R8,h.get? d=YV o->h.DictAt (aZ P w) d vs ep) :
  Zf P w K tg (Itd d o kvs) [it] it (λi h=>h.IsKeyIter it d i vs.length ep) where
 mem:=by simp
 obj:=λi h st b hb=>by
  have e:b=it:=by simpa using hb
  subst e;obtain⟨o,e,c,d⟩:=st;exact{o,e,λv z=>by rw[d]at z;cases z}
 keep:=λi h h' st k=>by
  obtain⟨o,e,r⟩:=st;exact{o,k it (by simp) o e,r}
 item:=by
  intro X hP hw hK hc i pins s B H E I hf st hg;subst hP hw hK;obtain⟨e,Û⟩:=hg;have hd:=(show bO X.prog X.w H s.heap d (.ß o (.dK kvs))from I.Å d _ e).1;have hl:=rel.length;obtain⟨f0,f1,f2,f3,f4,f5⟩:=hf it (by simp);obtain⟨⟨k,v⟩,hx⟩:∃kv,vs[i]?=YV kv:={vs[i]'(()),OV ()};obtain⟨⟨k',v'⟩,ņ⟩:∃kv,kvs[i]?=YV kv:={kvs[i]'(()),OV ()};have hkk:k'=k:=by
   have:=congrArg (λl=>l[i]?) rel.keys;simp only[O7,hx,ņ]at this;simpa using this
  subst hkk;refine wpAny_pyNext_dict_item st (Ŵ _ hd) hx λkey h' Ĩ ċ sb=>?_;have I1:Inv X pins B H { s with heap:=h' }:=I.turned (t':=s.toks) (λb o hb e=>(sb.2 b hb).trans e) f0 f1 f3 f4 f5;obtain⟨oi,ei,ci,di⟩:=id ċ;exact⟨key,rfl,yl (s:={ s with heap:=h' }) ei ci di ∅ ⟨kV k',H,I1,E5 Ĩ,⟨rfl,k',v',ņ,rfl⟩,ċ,λb hb=>(hf b hb).1⟩⟩
 done:=by
  intro X hP hw hK hc i pins s B H E I hf st hg;subst hP hw hK;obtain⟨e,Û⟩:=hg;have hd:=(show bO X.prog X.w H s.heap d (.ß o (.dK kvs))from I.Å d _ e).1;have hl:=rel.length;obtain⟨f0,f1,f2,f3,f4,f5⟩:=hf it (by simp);exact wpAny_pyNext_dict_end (I.ok.hd hc) st (Ŵ _ hd) (by simp;lia) λh' eb=>{rfl,I.turned (t':=s.toks) (λb o hb e=>eb b o hb e) f0 f1 f3 f4 f5}
 self:=λ_ _ _ _ _ st h=>wpAny_pyIter_keyiter st h
end
theorem nP{α β:Type}{F}:∀{l₁:List α}{l₂:List β},l₁.length=l₂.length->(∀(i:Nat) a b,l₁[i]?=YV a->l₂[i]?=YV b->F a b)->Paired F l₁ l₂
 | [],[],_,_=>.nil
 | [],_::_,h,_=>by simp at h
 |_::_,[],h,_=>by simp at h
 |x::xs,y::ys,h,f=>.cons (f 0 x y rfl rfl) (nP (by simpa using h) λi a b ha hb=>f (i+1) a b (by simpa using ha) (by simpa using hb))
theorem vq{α β:Type}{F}{l₁:List α}{l₂:List β}(h:Paired F l₁ l₂):∀{i:Nat}{a:α}{b:β},l₁[i]?=YV a->l₂[i]?=YV b->F a b:=by
 induction h with
 |nil=>intro i a b h;simp at h
 |cons r t ih=>
  intro i a b ha hb;cases i with
  |zero=>simp only[Vw,Xl]at ha hb;subst ha hb;exact r
  |succ j=>exact ih (by simpa using ha) (by simpa using hb)
section
variable{X:Cx}{tg:Expr}
def BK(X:Cx)(d:RB):Prop:=∀o u,X.H₀ d≠YV (.ß o u)
def NC(X:Cx)(tl:TE):TI:=λB H R=>tl B H λx H1=>∃d kvs,x=.ref d/\H1 d=YV (.dK kvs)/\∀o,BK X d->(kvs.map (·.1)).Nodup->R (Itd d o kvs) (upd H1 d (.ß o (.dK kvs)))
theorem GG(hl:PE X l tl):PI X tg l (NC X tl):=by
 intro pins s B H R I h;refine È (hl pins s B H _ I h) λv s1 z9=>?_;obtain⟨x,H1,I1,r1,q1⟩:=z9;obtain⟨d,kvs,e,hd,q⟩:=q1;subst e;cases r1;obtain⟨z,hs,vs,rel,dd⟩:=vk I1.Å hd;obtain⟨ep,dat⟩:=dd.dictAt;obtain⟨o,es,ho,r⟩:=id dat;have hn:BK X d:=λo u z=>by
  have:=I1.base.qu d o u z;rw[hd]at this;cases this
 refine wpAny_pyIter_dict hs dat ?_;have I2:=I1.freeze hd (by rw[hd];exact PV) ho;have ϧ:upd H1 d (.ß o (.dK kvs)) s1.heap.objs.size=YW:=by
  rw[ay (P8 (RH ho))];exact I1.Å.fresh (OW _)
 refine⟨s1.heap.objs.size,[s1.heap.objs.size],_,_,_,rfl,I2.kept (t':=s1.toks) λb o e=>RE _ e,
  Dy d _ o kvs vs ep rel (λh' h2=>p7 (H:=H1) (kvs:=kvs) dat ho h2),{_,RL _ rfl,rfl,rfl},λb hb=>?_,q o hn (by rw[rel.keys];exact dat.nodup)⟩
 have e:b=s1.heap.objs.size:=by simpa using hb
 subst e;exact I1.uC (OW _) ϧ
def Ja(X:Cx)(D:Zc):St->Hp->Prop:=λB H=>∃d o kvs,BK X d/\H d=YV (.ß o (.dK kvs))/\D.nx B (upd H d (.dK kvs))
def MX(X:Cx)(tl:TE)(g:TG)(tb:TS):TS:=λD B H=>tl B H λx H1=>∃d kvs,x=.ref d/\H1 d=YV (.dK kvs)/\∀o,BK X d->(kvs.map (·.1)).Nodup->∃Pv:Nat->St->Hp->Prop,Pv 0 B (upd H1 d (.ß o (.dK kvs)))/\
 (∀i B H,i<=kvs.length->Pv i B H->H d=YV (.ß o (.dK kvs)))/\
 (∀i k v B H,kvs[i]?=YV (k,v)->Pv i B H->g (kV k) B H λσ2 H2=>tb { D with nx:=Pv (i+1),ct:=Pv (i+1),bk:=Ja X D } σ2 H2)/\∀B H,Pv kvs.length B H->D.nx B (upd H d (.dK kvs))
theorem Ia(hp:We (RK X.prog X.w) X.A X.env X.xe)(hc:X.calm=true)(hl:PE X l tl)(mono:∀B H (Q Q':V->Hp->Prop),(∀v H,Q v H->Q' v H)->tl B H Q->tl B H Q')
  (hg:PG X tg g) (hb:ü X body tb) (hs:∀x,foldedSetIterable l X.env x=pure x:=by intro _;rfl):PS X (.For tg l body [] pos) (MX X tl g tb):=by
 intro pins s B H D I h
 refine È (bc hp hc (GG hl) hg hb hs pins s B H { D with nx:=Ja X D } I ?_) λf s1 q=>?_
 ·refine mono B H _ _ (λx H1 q=>?_) h;obtain⟨d,kvs,e,hd,q⟩:=q;refine{d,kvs,e,hd,λo hn hnd=>?_};obtain⟨Pv,h0,hk,st,fin⟩:=q o hn hnd;refine{λi m B H=>m=kvs.length-i/\i<=kvs.length/\Pv i B H,{kvs.length,by simp,Pc _,h0},?_};rintro i m B H ⟨rfl,hi,p⟩;by_cases Û:i<kvs.length
  ·refine .inr {⟨hk i B H hi p,Û⟩,Pv (i+1),λB' H' p'=>{kvs.length-(i+1),(),rfl,Û,p'},λx H' y=>?_};obtain⟨e,k,v,hx,y⟩:=y;subst e y;exact st i k v B _ hx p
  have e:i=kvs.length:=()
  subst e;exact .inl {{hk _ B H hi p,OW _},d,o,kvs,hn,hk _ B H hi p,fin B H p}
 cases f with
 |next=>
  obtain⟨σ1,H1,I1,d,o,kvs,hn,e,q⟩:=q
  exact{σ1,_,I1.N9 e hn,q}
 |cont=>exact q
 |brk=>exact q
 |ret v=>exact q
theorem GU(hc:X.calm=true:=by rfl):cO X (.type "list") (λxs H Q=>∃d kvs,xs=[.ref d]/\Rd H d (.dK kvs)/\∀l,H l=YW->Q (.ref l) (upd H l (.lst (kvs.map λkv=>kV kv.1)))):=by
 intro pins s B H xs us Q I r h;obtain⟨d,kvs,rfl,e,q⟩:=h;obtain⟨u,rfl,rfl⟩:=Y9 r;obtain⟨z,hs,vs,rel,dd⟩:=k7 I.Å e;obtain⟨ep,dat⟩:=dd.dictAt;have hl:=rel.length;refine W.kdl_call (W.kdl_dict (knd:=aZ X.prog X.w) (kvs:=vs) (ep:=ep) hs) (I.ok.hd hc) dat () λh' tk acc c hk hS Ļ=>?_;have hp:=I.Å.fresh (OW s.heap.objs.size);refine{.ref s.heap.objs.size,_,I.laid (a:=s.heap.objs.size) (o:=.lst (kvs.map λkv=>kV kv.1)) (t':=tk) hk (OW _) {by rw[OU];exact z,acc.toList,c,?_,by simpa using hS},rfl,q _ hp};have hsz:acc.size=vs.length:=Ļ.1;refine nP (by simp[hsz,hl]) λi x y hx hy=>?_;rw[O7]at hx;obtain⟨k,v,hv,hk⟩:=Ļ.2 i y (by rw[<-Qk];exact hy);cases ĭ:kvs[i]? with
 |none=>rw[ĭ]at hx;cases hx
 |some kv=>
  rw[ĭ]at hx;have ņ:kV kv.1=x:=RQ hx;have:=congrArg (λl=>l[i]?) rel.keys;simp only[O7,ĭ,hv]at this;have hkk:kv.1=k:=by simpa using this
  rw[<-ņ,hkk];exact E5 hk
end
section
variable{prog:Program}{w:RS}{K:Type}[DecidableEq K]{knd:KeyKind prog w K}{A:Sd}{E:RC->RF->Prop}{s:RF}
theorem vP(hd:(d==SO)=false)(q:Q Unit.unit s):wpAny (RK prog w) A (VU d) Q E s:=by
 unfold VU;rw[if_neg (by rw[hd];exact O3)];exact RD q
theorem Ar(h:Pairs knd es ĉ):valueAt ĉ k=YV v->∃j e,(es.findIdx? λe=>knd.is k e.key)=YV j/\es[j]?=YV e/\e.val=v:=by
 induction h with
 |nil=>intro z;cases z
 |@cons e kv es ĉ h1 h2 t ih=>
  intro z;by_cases hk:kv.1=k
  ·subst hk;have:valueAt (kv::ĉ) kv.1=YV kv.2:=by simp[valueAt,P2]
   rw[this]at z;exact{0,e,by rw[WY,if_pos h1],rfl,by rw[h2];exact RQ z}
  have:valueAt (kv::ĉ) k=valueAt ĉ k:=by simp[valueAt,P2,hk]
  rw[this]at z;obtain⟨j,f,hj,hf,hv⟩:=ih z;have hn:¬ knd.is k e.key=true:=λq=>hk (knd.inj _ _ _ h1 q);exact{j+1,f,by rw[WY,if_neg hn,hj];rfl,hf,hv}
theorem AA{id a b kvs ĉ Q}(hda:(a==SO)=false)(ì:(b==SO)=false)(ha:s.heap.DictOf knd a kvs)(hb:s.heap.DictOf knd b ĉ)(hl:kvs.length=ĉ.length)
  (hv:∀(i:Nat) k v,kvs[i]?=YV (k,v)->∃v',valueAt ĉ k=YV v'/\VH A s v v' true) (q:Q true s):wpAny (RK prog w) A (Uj id a b) Q E s:=by
 obtain⟨o,es,ep,ho,hx,hd,hk,hp,hn⟩:=ha
 obtain⟨o2,es2,ep2,ho2,hx2,hd2,hk2,hp2,hn2⟩:=hb
 have hz:es.size=kvs.length:=by rw[<-hp.length];simp
 have hz2:es2.size=ĉ.length:=by rw[<-hp2.length];simp
 unfold Uj
 refine RA (vP hda ?_)
 refine RA (vP ì ?_)
 refine RA (Uk ho hd ?_)
 refine RA (Uk ho2 hd2 ?_)
 rw[if_neg (by simp;lia)]
 refine RA (Yd ho hd ?_)
 refine RA ?_
 rw[Std.Legacy.Range.forIn_eq_forIn_range']
 simp only[Std.Legacy.Range.size,Nat.sub_zero,Nat.add_sub_cancel,Nat.div_one]
 refine wpAny_forIn_list _ (λrest b s'=>b=(YW,Unit.unit)/\s'=s/\∀i∈rest,i<es.size) _ ?_ ?_ _ _ {rfl,rfl,λi hi=>?_}
 ·rintro i rest c s' ⟨rfl,rfl,hr⟩;have hi:i<es.size:=hr i (by simp);refine RA (Uk ho hd ?_);rw[Qt hi];obtain⟨⟨k,v⟩,ĭ⟩:∃kv,kvs[i]?=YV kv:={kvs[i]'(()),OV ()};obtain⟨Ĩ,ĕ⟩:=hp.get? (e:=es[i]) (by simp[hi]) ĭ;obtain⟨k',Ϧ,hh⟩:=hk es[i] (Array.getElem_mem hi);obtain⟨v',hv',he⟩:=hv i k v ĭ;have hkk:k'=k:=knd.inj _ _ _ Ϧ Ĩ;subst hkk;show wpAny _ _ (Ua [es[i].key,es[i].val] _>>=_) _ _ _;refine RA (wpAny_holding ?_);rw[hh,ĕ];refine RA (wpAny_dictFind_of Ĩ ho2 hd2 hk2 ?_);obtain⟨j,f,hj,hf,hfv⟩:=Ar hp2 hv';rw[<-List.findIdx?_toArray,V6]at hj;rw[Qk]at hf;rw[hj];refine RA (Uk ho2 hd2 ?_);rw[hf];show wpAny _ _ (Ua [f.val] (eqBool v f.val)) _ _ _;rw[hfv];refine wpAny_holding (he _ _ _ _ ?_);rw[if_neg ∅];refine RA (Yd ho hd ?_);rw[if_neg (by simp)];exact RD {rfl,rfl,λz hz=>hr z (O2 _ hz)}
 ·rintro c s' ⟨rfl,rfl,_⟩;exact RD q
 have:=(List.mem_range'_1.mp hi).2
 lia
end
theorem wA{κ:Type}[DecidableEq κ]:∀{kvs:List (κ×V)}{i:Nat}{k:κ}{v:V},(kvs.map (·.1)).Nodup->kvs[i]?=YV (k,v)->bx kvs k=YV v
 | [],i,k,v,_,h=>by simp at h
 |p::r,0,k,v,_,h=>by
  simp only[Vw,Xl]at h;subst h;exact cL (p:=(k,v)) rfl
 |p::r,i+1,k,v,hn,h=>by
  rw[Pp]at hn;have hr:=PK.mp hn;have hi:r[i]?=YV (k,v):=by simpa using h
  have Ű:¬ p.1=k:=λz=>hr.1 (by rw[z];exact PD (f:=(·.1)) (OY hi));rw[cy Ű];exact wA hr.2 hi
section
variable{X:Cx}
def Ep(K:RG)(H:Hp)(v v':V):Prop:=(v=v'/\vj v=true)\/∃p q xs,v=.ref p/\v'=.ref q/\À K H p xs/\À K H q xs/\xs.all vj=true
theorem G8(I:Inv X pins B H s)(hu:A.units<S8)(h:Ep X.K H v v')(r:Y0 v u)(r':Y0 v' u'):VH A s u u' true:=by
 rcases h with⟨rfl,hf⟩|⟨p,q,xs,rfl,rfl,hp,hq,hf⟩
 ·exact p8 hf r r' A s
 cases r;cases r';by_cases hpq:p=q
 ·subst hpq;exact .same _
 obtain⟨Á,r1,⟨o,n,e1,c1,_,d1⟩,_⟩:=I.list hp;obtain⟨jts,r2,⟨o2,n2,e2,c2,_,d2⟩,_⟩:=I.list hq;have l1:=r1.length;have l2:=r2.length;have hR:=SeqAt.RcAt.lists (A:=A) (s:=s) (e:=λ_=>true) (l:=p) (b:=q) (items:=Á.toArray) (items2:=jts.toArray) ⟨o,e1,c1,n,d1⟩ ⟨o2,e2,c2,n2,d2⟩ (by simp;lia) hu (λj h1 h2=>by
  simp at h1 h2;obtain⟨x,hx⟩:∃x,xs[j]?=YV x:={xs[j]'(()),OV ()};obtain⟨u1,g1,w1⟩:=r1.get hx;obtain⟨u2,g2,w2⟩:=r2.get hx;have z1:Á.toArray[j]'(by simpa using h1)=u1:=by
   have:=OV h1;rw[g1]at this;simpa using (RQ this).symm
  have z2:jts.toArray[j]'(by simpa using h2)=u2:=by
   have:=OV h2;rw[g2]at this;simpa using (RQ this).symm
  rw[z1,z2];exact p8 (Qr.mp hf x (OY hx)) w1 w2 _ _)
 have:((RX Á.toArray.size).all λ_=>true)=true:=by simp
 rw[this]at hR;exact .of_refs hpq hR
theorem MN(hu:X.A.units+64<S8):Ñ X (RV .Eq) (λx y H Q=>∃a b kvs ĉ,x=.ref a/\y=.ref b/\Rd H a (.dK kvs)/\Rd H b (.dK ĉ)/\kvs.length=ĉ.length/\
  (∀k v,bx kvs k=YV v->∃v',bx ĉ k=YV v'/\Ep X.K H v v')/\Q (.bl true) H):=by
 intro pins s B H x y v u Q I rx ry h
 obtain⟨a,b,kvs,ĉ,rfl,rfl,ha,hb,hl,hv,q⟩:=h
 cases rx
 cases ry
 obtain⟨z,hs,vs,rel,dd⟩:=k7 I.Å ha
 obtain⟨z2,Ķ,vs2,rel2,dd2⟩:=k7 I.Å hb
 have e1:=rel.length
 have e2:=rel2.length
 refine wpAny_richCompare_same_room (op:=.Eq) dd.typeIs dd2.typeIs V7 (SH V7 dd.typeIs PySem.F.entry_dict_eq ?_ (PySem.F.args_dict_eq_2 _ _)) ()
 show wpAny _ _ (U6 "__eq__" {[.ref a,.ref b],[]}>>=_) _ _ _
 refine RA ?_
 unfold U6
 refine RA (VT dd.typeIs ?_)
 show wpAny _ _ (pure (RM a,RM b)) _ _ _
 refine RD ?_
 refine RA (Vx (T:="dict") (b:=true) dd2.typeIs (by rw[U3];kernel_rfl) ?_)
 show wpAny _ _ (Uj "dict.__eq__" a b>>=_) _ _ _
 refine RA (AA hs Ķ dd dd2 () (λi k v hi=>?_) ?_)
 ·obtain⟨⟨k',v'⟩,ĭ⟩:∃kv,kvs[i]?=YV kv:={kvs[i]'(by have:=(O8.mp hi).1;lia),OV _};have hr:k'=k/\Y0 v' v:=vq rel ĭ hi;obtain⟨rfl,hrv⟩:=hr;obtain⟨w',hw,hq⟩:=hv k' v' (wA (by rw[rel.keys];exact(dd.dictAt.choose_spec).nodup) ĭ);have ĕ:=rel2.val k';rw[hw]at ĕ;cases hvv:valueAt vs2 k' with
  |none=>rw[hvv]at ĕ;exact(show False from ĕ).elim
  |some u'=>
   rw[hvv]at ĕ;exact{u',rfl,G8 I (show X.A.units+1<S8 by lia) hq hrv ĕ}
 show wpAny _ _ (ret (.bool true)) _ _ _
 exact RD {.bool true,rfl,(λz=>nomatch z),.bl true,H,I,rfl,q}
structure wZ(z y:Str)(ws:List Str):Prop where
 h1:(decide (z.length<y.length)||decide (Wq z<Wq y))=false
 hy:(y.length==0)=false
 hf:(SE z y 0 z.length (z.length+1)).isEmpty=false
 hx:z.length<=sizeLine
 hn:ws.length<=sizeLine
 e:Builtin.Str.partsBetween z (SE z y 0 z.length (z.length+1)) y.length=ws
theorem vE:∀tk ws,Y1 (ws.map V.str) (strsFrom tk ws)
 |_,[]=>.nil
 |tk,x::r=>.cons {_,rfl} (vE (tk+1) r)
theorem FY:MtR X "str.split" (λx xs H Q=>∃z y ws,x=.str z/\xs=[.str y]/\wZ z y ws/\∀l,H l=YW->Q (.ref l) (upd H l (.lst (ws.map V.str)))):=by
 intro pins s B H x xs v us Q I rx rs h;obtain⟨z,y,ws,rfl,rfl,ok,q⟩:=h;obtain⟨t,rfl⟩:=rx;obtain⟨u,rfl,ru⟩:=rs.one;obtain⟨t2,rfl⟩:=ru;obtain⟨h1,hy,hf,hx,hn,e⟩:=ok;subst e;refine U1 F.slot_str_split (WQ _ _ _) F.entry_str_split (F.args_str_split_2 _ _) (meets_str_split_sep z y t t2 h1 hy hf hx hn) ?_;exact{.ref _,_,I.Lh (vE _ _) (by rw[OU];exact hn),rfl,q _ I.fresh}
theorem m_split(ho:PE X o to)(ha:PA X [e] t)(ã:Sx o "split" X.env (Sj o X.env)=Sj o X.env:=by rfl)
  (Ĺ:((Sk Ë (RJ [e] X.env)).all (λx=>!x.1)&&(Ud Ë (Tg [] X.env)).all (λx=>x.1.isSome)
   &&decide ([e].length+([]:List TY).length+(if([]:List TY).isEmpty then 0 else 1)<30))=true:=by rfl)
  (á:(apos.endLine==Ë.line)=true:=by rfl) (hs:RJ [e] X.env=(false,Sj e X.env)::RJ [] X.env:=by rfl) (ò:(Sk Ë (RJ [] X.env)).any (·.1)=false:=by rfl) :
  PE X (.Call (.Attribute o "split" apos) [e] [] Ë) (tBM X.K "str" (λx xs H Q=>∃z y ws,x=.str z/\xs=[.str y]/\wZ z y ws/\∀l,H l=YW->Q (.ref l) (upd H l (.lst (ws.map V.str)))) to t):=
 Ez PySem.F.plainAttrs_str PySem.F.slot_str_split PySem.F.type_str_split FY ho ha ã Ĺ á hs ò
def lJ(z:Str)(n:Int):Str:=if n<1 then Su else if(n==1||z.length==0)=true then z else⟨(RT n.toNat z.cps).foldl (· ++ ·) #[]⟩
def Ml:R2:=λx y H Q=>match x,y with
 | .int i,.int j=>Df i j/\Q (.int (i*j)) H
 | .str z,.int n=>n<1000/\-1000<n/\z.length<=1000/\Q (.str (lJ z n)) H
 | .ref p,.int k=>∃xs,H p=YV (.lst xs)/\-(2^63)<=k/\k<2^63/\xs.length*k.toNat<=sizeLine/\∀l,H l=YW->Q (.ref l) (upd H l (.lst (RT k.toNat xs).flatten))
 |_,_=>False
theorem Dv(xs:List (Array Nat)):∀acc,(xs.foldl (· ++ ·) acc).size=acc.size+(xs.map (·.size)).sum:=by
 induction xs with
 |nil=>intro acc;simp
 |cons x r ih=>intro acc;rw[QD,ih,Xm,Pp,List.sum_cons];lia
theorem yk(z:Str)(n:Nat):(⟨(RT n z.cps).foldl (· ++ ·) #[]⟩:Str).length=n*z.length:=by
 show((RT n z.cps).foldl (· ++ ·) #[]).size=_;rw[Dv,WZ];have:∀m k:Nat,(RT m k).sum=m*k:=λm k=>by
  induction m with
  |zero=>simp
  |succ m ih=>rw[PC,List.sum_cons,ih,Nat.succ_mul];lia
 rw[this];simp[Str.length]
theorem kO:Ñ X (Sw .Mult) Ml:=by
 intro pins s B H x y v u Q I rx ry h;cases x with
 |int i=>
  cases y with
  |int j=>exact Md pins s B H _ _ v u Q I rx ry h
  |_=>exact(show False from h).elim
 |str z=>
  cases y with
  |int n=>
   obtain⟨h1,h2,h3,q⟩:=h;obtain⟨t,rfl⟩:=rx;obtain⟨t2,rfl⟩:=ry;have hb:¬ n<1->n.toNat*z.length<=1000000:=λhn=>by
    have e1:n.toNat<=1000:=()
    exact O6 (Nat.mul_le_mul e1 h3) ∅
   refine P.mul_str (by rw[decide_eq_false (),decide_eq_false ()];rfl) (λhn _=>?_) (λhn _=>?_) ?_
   ·intro z1;have h0:(0:Int)<n:=()
    have:=Int.lt_mul_of_ediv_lt h0 z1;have e2:((z.length:Int))*n<=1000*1000:=Int.mul_le_mul () () () ∅;lia
   ·unfold Builtin.Str.tooLong;have:=hb hn;rw[Nat.mul_comm]at this;refine decide_eq_false ?_;rw[Td];lia
   unfold lJ at q;by_cases c1:n<1
   ·rw[if_pos c1]at q⊢;exact{∅,.str _,H,I.tok _,{_,rfl},q}
   rw[if_neg c1]at q⊢;by_cases c2:(n==1||z.length==0)=true
   ·rw[if_pos c2]at q⊢;exact{.str _,H,I,{_,rfl},q}
   rw[if_neg c2]at q⊢;refine{?_,.str _,H,I.tok _,{_,rfl},q};rw[yk];have:=hb c1;rw[Td];lia
  |_=>exact(show False from h).elim
 |ref p=>
  cases y with
  |int k=>
   obtain⟨xs,h1,h2,h3,h4,q⟩:=h;exact LQ pins s B H _ _ v u Q I rx ry ⟨p,k,xs,rfl,rfl,h1,h2,h3,h4,q⟩
  |_=>exact(show False from h).elim
 |_=>cases y<;>exact(show False from h).elim
def Kr(K:RG)(H:Hp)(a b:RB):Prop:=∃kvs ĉ,Rd H a (.dK kvs)/\Rd H b (.dK ĉ)/\kvs.length=ĉ.length/\∀k v,bx kvs k=YV v->∃v',bx ĉ k=YV v'/\Ep K H v v'
def Of(K:RG):R2:=λx y H Q=>match x,y with
 | .ref p,.ref q=>((∃d e,ja K H (.ref p) d/\ja K H (.ref q) e/\Sa d=true/\Sa e=true/\Q (.bl (SY d e)) H)\/(∃xs,À K H p xs/\À K H q xs/\xs.all vj=true/\Q (.bl true) H))\/(Kr K H p q/\Q (.bl true) H)
 |x,y=>C4 x y=true/\Q (.bl (decide (x=y))) H
theorem bY(hu:X.A.units+64<S8):Ñ X (RV .Eq) (Of X.K):=((MQ hu).or (MN hu)).imp λx y H Q q=>by
 by_cases hr:∃p q,x=V.ref p/\y=V.ref q
 ·obtain⟨p,q',rfl,rfl⟩:=hr;rcases q with q|⟨⟨kvs,ĉ,h1,h2,h3,h4⟩,h5⟩
  ·exact .inl q
  exact .inr ⟨p,q',kvs,ĉ,rfl,rfl,h1,h2,h3,h4,h5⟩
 refine .inl ?_;cases x<;>cases y<;>first|exact q|exact absurd {_,_,rfl,rfl} hr
inductive Kf(xs:List V)(H:Hp)(Q:VK):Prop
 |mk (a kvs) (h0:xs=[.ref a]) (h1:Rd H a (.dK kvs)) (q:Q (.int (kvs.length:Nat)) H):Kf xs H Q
theorem eZ:cO X (.builtin "len") (λxs H Q=>HY X.K xs H Q\/Kf xs H Q):=Mj.or λpins s B H xs us Q I r ⟨a,kvs,h0,h1,q⟩=>Kl pins s B H xs us Q I r ⟨a,kvs,h0,h1,q⟩
theorem kY(hc:X.calm=true:=by rfl):cO X (.type "list") (λxs H Q=>(∃p ys,xs=[.ref p]/\(À X.K H p ys\/Æ X.K H p ys)/\∀l,H l=YW->Q (.ref l) (upd H l (.lst ys)))\/∃d kvs,xs=[.ref d]/\Rd H d (.dK kvs)/\∀l,H l=YW->Q (.ref l) (upd H l (.lst (kvs.map λkv=>kV kv.1)))):=xn.or (GU hc)
end
section
variable{X:Cx}{pins:List (RB×Obj)}{B:St}{H:Hp}{s:RF}
def Itz(K:RG)(a b:RB):It:=
  ⟨λi H=>∃xs ys x y,À K H a xs/\À K H b ys/\xs[i]?=YV x/\ys[i]?=YV y,
   λi H v H'=>∃T x y,v=.ref T/\H T=YW/\H'=upd H T (.tup [x,y])/\∀xs ys,À K H a xs->À K H b ys->xs[i]?=YV x/\ys[i]?=YV y,
   λi H=>∃xs ys,À K H a xs/\À K H b ys/\(xs.length<=i\/ys.length<=i)⟩
def Nr(z TI TO i1 i2 a b:RB)(i:Nat)(h:R8):Prop:=IsZip h z TI TO .none/\IsPair h TI (.ref i1) (.ref i2)/\(∃u v,IsPair h TO u v)/\h.IsListIter i1 a i/\h.IsListIter i2 b i
theorem Eb{P:Program}{w:RS}{K:RG}{elts:List Expr}{x1}{pos:Pos}{a b z TI TO i1 i2:RB}(D:ZipApart z TI TO i1 i2 a b) :
  Zf P w K (.Tuple elts x1 pos) (Itz K a b) [z,TI,TO,i1,i2] z (Nr z TI TO i1 i2 a b) where
 mem:=by simp
 obj:=λi h st c hc=>by
  obtain⟨hz,hI,⟨u,v,hO⟩,⟨o1,e1,_,d1⟩,⟨o2,e2,_,d2⟩⟩:=st;simp only[O4,Pw,or_false]at hc;rcases hc with rfl|rfl|rfl|rfl|rfl
  ·exact{_,hz,λv q=>by cases (show XO _=Wf v from q)}
  ·exact{_,hI,λv q=>by cases (show Data.seq _ _=Wf v from q)}
  ·exact{_,hO,λv q=>by cases (show Data.seq _ _=Wf v from q)}
  ·exact{o1,e1,λv q=>by rw[d1]at q;cases q}
  exact{o2,e2,λv q=>by rw[d2]at q;cases q}
 keep:=λi h h' st k=>by
  obtain⟨hz,hI,⟨u,v,hO⟩,h1,h2⟩:=st;exact{k z (by simp) _ hz,k TI (by simp) _ hI,{u,v,k TO (by simp) _ hO},h1.at λo e=>k i1 (by simp) o e,h2.at λo e=>k i2 (by simp) o e}
 item:=by
  intro X hP hw hK hc i pins s B H E I hf st hg;subst hP hw hK;obtain⟨xs,ys,x,y,hq,Ĝ,hx,hy⟩:=hg;obtain⟨Á,rv,p,hz'⟩:=I.list hq;obtain⟨its',rv',p',hz''⟩:=I.list Ĝ;obtain⟨u,hu,ru⟩:=rv.get hx;obtain⟨v,hv,rv2⟩:=rv'.get hy;obtain⟨hz,hI,⟨u0,v0,hO⟩,h1,h2⟩:=st;have hT:=I.uC (H':=H) (OW s.heap.objs.size) (I.Å.fresh (OW _));have lt:∀{c:RB}{o:Obj},s.heap.get? c=YV o->s.heap.objs.size≠c:=λe=>P8 (RH e);refine wpAny_pyNext_zip_item D hz hI hO h1 h2 p.isList p'.isList (x:=u) (y:=v) (by simpa using hu) (by simpa using hv) λh' a1 a2 a3 a4 a5 a6 a7=>?_;have I1:Inv X pins B H { s with heap:=h',toks:=s.toks }:=I.wF (ch:=[z,TI,TO,i1,i2]) hf λc o hc q=>a7 c o (λe=>hc (by simp[e])) (λe=>hc (by simp[e])) (λe=>hc (by simp[e])) (λe=>hc (by simp[e])) q;have I2:=I1.Jk (u:=.tup [x,y]) hT I.sz {by show 2<=sizeLine;decide,[u,v],.cons ru (.cons rv2 .nil),{_,a5,rfl,_,rfl}};refine⟨_,rfl,wpAny_letOwnedTupleGo_zip (s:={ s with heap:=h' }) a1 λϕ hz2 Ķ=>?_⟩;have f0:=hf z (by simp);have hI':h'.get? TI=_:=a7 TI _ D.TIz D.TITO D.TIi1 D.TIi2 hI;have zT:z≠s.heap.objs.size:=Pm (lt hz);refine⟨.ref s.heap.objs.size,_,I2.turned (t':=s.toks) (it:=z) (λc o hc q=>(Ķ.2 c hc).trans q) (by rw[ay zT];exact f0.1) f0.2.1 f0.2.2.2.1 f0.2.2.2.2.1 f0.2.2.2.2.2,rfl,
   {_,x,y,rfl,hT.1,rfl,λxs' ys' q q'=>by rw[I.sU q hq,I.sU q' Ĝ];exact⟨hx,hy⟩},{hz2,(Ķ.2 TI D.TIz).trans hI',{u,v,(Ķ.2 TO D.TOz).trans a2},a3.at λo q=>(Ķ.2 i1 D.i1z).trans q,a4.at λo q=>(Ķ.2 i2 D.i2z).trans q},λc hc=>?_⟩
  have cT:c≠s.heap.objs.size:=by
   simp only[O4,Pw,or_false]at hc;rcases hc with rfl|rfl|rfl|rfl|rfl
   ·exact zT
   ·exact Pm (lt hI)
   ·exact Pm (lt hO)
   ·obtain⟨o,e,_⟩:=h1;exact Pm (lt e)
   obtain⟨o,e,_⟩:=h2;exact Pm (lt e)
  rw[ay cT];exact(hf c hc).1
 done:=by
  intro X hP hw hK hc i pins s B H E I hf st hg;subst hP hw hK;obtain⟨xs,ys,hq,Ĝ,hx⟩:=hg;obtain⟨Á,rv,p,hz'⟩:=I.list hq;obtain⟨its',rv',p',hz''⟩:=I.list Ĝ;obtain⟨hz,hI,⟨u0,v0,hO⟩,h1,h2⟩:=st;have hl:=rv.length;have hl':=rv'.length;refine wpAny_pyNext_zip_end (I.ok.hd hc) D hz hI hO h1 h2 p.isList p'.isList (by simp;lia) λh' eb=>{rfl,?_};exact I.wF (ch:=[z,TI,TO,i1,i2]) hf λc o hc q=>eb c o (λe=>hc (by simp[e])) (λe=>hc (by simp[e])) (λe=>hc (by simp[e])) (λe=>hc (by simp[e])) q
 self:=λ_ _ _ _ _ st h=>XE st.1 h
def Oh(K:RG)(ta:TA):TI:=λB H R=>ta B H λvs H1=>∃a b,vs=[.ref a,.ref b]/\(∃xs,À K H1 a xs)/\(∃ys,À K H1 b ys)/\R (Itz K a b) H1
theorem CP:Tb "zip"=YV (.type "zip"):=by decide+kernel
theorem F9{x1}(hg:Gl X "zip")(hm:X.mg "zip"=YW)(ha:PA X [a,b] ta)(he:RJ [a,b] X.env=(false,Sj a X.env)::RJ [b] X.env:=by rfl)
  (ê:(Sk pos (RJ [b] X.env)).any (·.1)=false:=by rfl):PI X (.Tuple elts x1 pos2) (.Call (.Name "zip" p) [a,b] [] pos) (Oh X.K ta):=by
 intro pins s B H R I h
 refine Call_ (o5 I hg hm CP (S3 (È (ha pos pins s B H _ I h) λus s1 ⟨vs,H1,I1,r1,q1⟩=>?_) he ê))
 obtain⟨a,b,e,⟨xs,hq⟩,⟨ys,Ĝ⟩,q⟩:=q1
 subst e
 obtain⟨u,v,rfl,ru,rv⟩:=Ze r1
 cases ru
 cases rv
 obtain⟨Á,rv1,p1,hz1⟩:=I1.list hq
 obtain⟨its',rv2,p2,hz2⟩:=I1.list Ĝ
 have lt:∀{c:RB}{zs:Array RC},s1.heap.IsList c zs->c<s1.heap.objs.size:=λh=>by obtain⟨o,e,_⟩:=h;exact RH e
 refine call_zip_2 p1.isList p2.isList λh' hz hI hO h1 h2 hsz hk=>?_
 refine XE hz ?_
 refine{s1.heap.objs.size+4,[s1.heap.objs.size+4,s1.heap.objs.size+2,s1.heap.objs.size+3,s1.heap.objs.size,s1.heap.objs.size+1],_,_,H1,rfl,I1.kept (t':=s1.toks) hk,Eb (zipApart_new (lt p1.isList) (lt p2.isList)),{hz,hI,{_,_,hO},h1,h2},λc hc=>?_,q}
 have le:s1.heap.objs.size<=c:=by
  simp only[O4,Pw,or_false]at hc;rcases hc with h|h|h|h|h
  ·rw[h];exact Qi _ _
  ·rw[h];exact Qi _ _
  ·rw[h];exact Qi _ _
  ·rw[h];exact OW _
  rw[h];exact Qi _ _
 exact I1.uC le (I1.Å.fresh le)
end
theorem Cv{K:T9}{a b:RB}{xs ys:List V}{g:TG}{tb:TS}{D:Zc}{B:St}{H:Hp}(Pv:Nat->St->Hp->Prop)(h0:Pv 0 B H)(hl:∀i B H,i<=xs.length->Pv i B H->À K H a xs/\À K H b ys)(hle:xs.length=ys.length)
  (hs:∀i x y B H T,xs[i]?=YV x->ys[i]?=YV y->Pv i B H->H T=YW->g (.ref T) B (upd H T (.tup [x,y])) λσ2 H2=>tb { D with nx:=Pv (i+1),ct:=Pv (i+1),bk:=D.nx } σ2 H2) (hd:∀B H,Pv xs.length B H->D.nx B H) :
  ∃W:Nat->Nat->St->Hp->Prop,(∃m,W 0 m B H)/\∀i m B H,W i m B H->
   ((Itz K a b).stop i H/\D.nx B H)\/((Itz K a b).go i H/\∃N,(∀B' H',N B' H'->∃m',m'<m/\W (i+1) m' B' H')/\∀x H',(Itz K a b).ń i H x H'->g x B H' λσ2 H2=>tb { D with nx:=N,ct:=N,bk:=D.nx } σ2 H2):=by
 refine{λi m B H=>m=xs.length-i/\i<=xs.length/\Pv i B H,{xs.length,by simp,Pc _,h0},?_}
 rintro i m B H ⟨rfl,hi,p⟩
 obtain⟨q,q'⟩:=hl i B H hi p
 by_cases Û:i<xs.length
 ·have hlt':i<ys.length:=()
  refine .inr {{xs,ys,xs[i],ys[i],q,q',by simp[Û],by simp[hlt']},Pv (i+1),λB' H' p'=>{xs.length-(i+1),(),rfl,Û,p'},λv H' y=>?_};obtain⟨T,x,y,rfl,hT,rfl,h⟩:=y;obtain⟨e1,e2⟩:=h xs ys q q';exact hs i x y B _ T e1 e2 p hT
 have e:i=xs.length:=()
 subst e
 exact .inl {{xs,ys,q,q',OZ (OW _)},hd B H p}
section
variable{X:Cx}
end
end L2
namespace L2
open PySem PySem.Spec PyProof.Rows
open PySem.W (Looks InstAt looks_findIn looks_mroIn looks_clsIn looks_find)
section
variable{M:Model}{A:Sd}{E:RC->RF->Prop}{s:RF}{env:Env}{outer:List Env}{base:R8}{L e:RB}{oe:Obj}{vs:Array RC}
theorem Ik(ϧ:A.frames=YV (env::outer))(hl:s.heap.FunFrames base (env::outer))(hf:env.frame=YV L)
  (he:s.heap.get? e=YV oe) (hd:oe.data=.fields vs) (hsz:5<vs.size) (hT:Trc s.heap L e vs)
  (h:∀h' T ĥ ē oT ts,(∀b o,b∉å (env::outer)->b≠e->vs[1]?≠YV (.ref b)->s.heap.get? b=YV o->h'.get? b=YV o)->(∀b o,b∈å (env::outer)->s.heap.get? b=YV o->∃sl,h'.get? b=YV { o with slots:=sl })->
   (∀b o,vs[1]?=YV (.ref b)->s.heap.get? b=YV o->∃o',h'.get? b=YV o')->
   h'.get? e=YV ĥ->ĥ.cls=oe.cls->ĥ.dict=oe.dict->ĥ.data=.fields ē->ē.size=vs.size->ē[1]?=YV (.ref T)->T≠e->(s.heap.objs.size<=T\/vs[1]?=YV (.ref T))->
   h'.get? T=YV oT->oT.data=.fields ts->3<ts.size->ts[3]?=YV (fo.elim RW λf=>S6 f)->Q Unit.unit { s with heap:=h' }) :
  wpAny M A (UR (.ref e) env) (λ_ s2=>wpAny M A (do
   if(<-field (.ref e) 1)== .none then XW "frame.own-activation:exception-without-traceback"
   setFlight (.ref e) fo) Q E' s2) E s:=by
 have ene:e∉å (env::outer):=λz=>dH hl z he hd
 have fin:∀{h1:R8}{oT:Obj}{ts:Array RC}{T:RB},h1.get? e=YV (oe.mapFields (·.setIfInBounds 1 (.ref T)))->T≠e->h1.get? T=YV oT->oT.data=.fields ts->3<ts.size->(s.heap.objs.size<=T\/vs[1]?=YV (.ref T))->T∉å (env::outer)->
   (∀b o,b∉å (env::outer)->b≠e->vs[1]?≠YV (.ref b)->s.heap.get? b=YV o->b≠T->h1.get? b=YV o)->(∀b o,b∈å (env::outer)->s.heap.get? b=YV o->∃sl,h1.get? b=YV { o with slots:=sl })->
   (∀b o,vs[1]?=YV (.ref b)->s.heap.get? b=YV o->∃o',h1.get? b=YV o')->(∀b o,s.heap.get? b=YV o->b=T->vs[1]?=YV (.ref b))->
   wpAny M A (do
    if(<-field (.ref e) 1)== .none then XW "frame.own-activation:exception-without-traceback"
    setFlight (.ref e) fo) Q E' { s with heap:=h1 }:=by
  intro h1 oT ts T g1 ne g2 g3 g4 fr Ŏ k1 k2 k3 k4
  have d3:=SD hd (·.setIfInBounds 1 (RM T))
  have q1:1<vs.size:=()
  have v1:(vs.setIfInBounds 1 (RM T))[1]?=YV (.ref T):=by simp[q1]
  refine RA (wpAny_field g1 d3 v1 ?_)
  rw[if_neg (show ¬ ((RM T==RW)=true)from by simp)]
  unfold setFlight
  refine RA (wpAny_field g1 d3 v1 ?_)
  rw[if_pos (show(RM T !=RW)=true from by simp)]
  have fT:=SD g3 (·.setIfInBounds 3 (fo.elim RW λf=>S6 f))
  refine SU g2 g3 g4 (h _ T (oe.mapFields (·.setIfInBounds 1 (.ref T))) (vs.setIfInBounds 1 (.ref T)) _ _ (λb o hb ñ ď z=>?_) (λb o hb z=>?_) (λb o hb z=>?_) ?_ (Xh _ _) ?_ d3 (by simp) v1 ne fr (RR _ g2 (Sf fT)) fT (by simpa using g4) (by simp[g4]))
  ·have ĺ:b≠T:=λw=>ď (k4 b o z w);rw[RI _ _ (Pm ĺ)];exact k1 b o hb ñ ď z ĺ
  ·obtain⟨sl,q⟩:=k2 b o hb z;have ĺ:b≠T:=λw=>Ŏ (w▸hb);exact{sl,by rw[RI _ _ (Pm ĺ)];exact q}
  ·obtain⟨o',q⟩:=k3 b o hb z;by_cases ĺ:b=T
   ·exact{_,by rw[ĺ];exact RR _ g2 (Sf fT)}
   exact{o',by rw[RI _ _ (Pm ĺ)];exact q}
  ·rw[RI _ _ ne];exact g1
  obtain⟨oc,od,Β,æ⟩:=oe
  cases Β<;>rfl
 have fresh:∀b o,s.heap.get? b=YV o->b≠s.heap.objs.size:=λb o z=>Ph (RH z)
 have nfr:s.heap.objs.size∉å (env::outer):=λz=>by
  obtain⟨_,o,ho,_⟩:=hl.mem z;exact absurd (RH ho) (PU _)
 unfold UR
 simp only[hf]
 rcases hT with h1|⟨T,oT,ts,h1,ϔ,hT,dT,zT,fl⟩
 ·refine RA (wpAny_field he hd h1 ?_);rw[if_neg ∅];refine rY ϧ hl hf he hd () λh' oT ts k1 k2 k3 ne k4 k5 k6=>?_;exact fin k3 ne k4 k5 k6 (.inl (OW _)) nfr (λb o hb ñ _ z _=>k1 b o hb ñ z) k2 (λb o hb _=>by rw[h1]at hb;cases hb) λb o z w=>absurd w (fresh b o z)
 refine RA (wpAny_field he hd h1 ?_)
 rw[if_pos (show(RM T !=RW)=true from by simp)]
 have Ŏ:T∉å (env::outer):=λz=>dH hl z hT dT
 rcases fl with fl|fl
 ·refine RA (wpAny_field hT dT fl ?_);rw[if_neg (show ¬ ((RW==S6 L)=true)from by simp[S6])];refine RA (SU hT dT zT ?_);have fT:=SD dT (·.setIfInBounds 3 RW);have ō:∀b,b≠T->(s.heap.update T (Sy (·.setIfInBounds 3 RW))).get? b=s.heap.get? b:=λb hb=>RI _ _ (Pm hb);have sz:(s.heap.update T (Sy (·.setIfInBounds 3 RW))).objs.size=s.heap.objs.size:=Ui ..;have Ų:(s.heap.update T (Sy (·.setIfInBounds 3 RW))).FunFrames base (env::outer):=hl.of_keeps λb o z nf=>{o,(ō b λw=>by subst w;rw[hT]at z;cases z;exact nf ts dT).trans z,rfl};refine rY (s:={ s with heap:=s.heap.update T (Sy (·.setIfInBounds 3 RW)) }) ϧ Ų hf ((ō e (Pm ϔ)).trans he) hd () λh' oT' ts' k1 k2 k3 ne k4 k5 k6=>?_;dsimp only at k1 k2 k3 ne k4;rw[sz]at k3 ne k4;refine fin k3 ne k4 k5 k6 (.inl (OW _)) nfr (λb o hb ñ ď z _=>k1 b o hb ñ ((ō b λw=>ď (by rw[w];exact h1)).trans z)) (λb o hb z=>k2 b o hb ((ō b λw=>Ŏ (w▸hb)).trans z)) (λb o hb z=>?_) λb o z w=>absurd w (fresh b o z);rw[h1]at hb;cases hb;exact{_,k1 T _ Ŏ ϔ (RR _ hT (Sf fT))}
 refine RA (wpAny_field hT dT fl ?_)
 rw[if_pos (beq_self_eq_true _)]
 refine RD ?_
 have same:oe.mapFields (·.setIfInBounds 1 (.ref T))=oe:=by
  obtain⟨oc,od,Β,æ⟩:=oe;dsimp only at hd;subst hd;have:vs.setIfInBounds 1 (.ref T)=vs:=by
   have lt:1<vs.size:=()
   refine WV λi=>?_;by_cases w:1=i
   ·subst w;rw[h1];simp[lt]
   rw[Uo w]
  show({oc,od,.fields (vs.setIfInBounds 1 (.ref T)),æ}:Obj)=_;rw[this]
 exact fin (h1:=s.heap) (by rw[same];exact he) ϔ hT dT zT (.inr h1) Ŏ (λb o _ _ _ z _=>z) (λb o _ z=>⟨o.slots,z⟩) (λb o _ z=>⟨o,z⟩) λb o z w=>by rw[w];exact h1
end
section
variable{X:Cx}{pins:List (RB×Obj)}{B:St}{H:Hp}{s:RF}{e C:RB}{od:Option RB}{fl:Bool}
theorem Inv.Lo(I:Inv X pins B H s)(ea:H e=YV (xo e C od fl))(F:Ψ X pins H s.heap e)(hA:A.frames=X.A.frames)(hs:X.stack=X.env::X.outer)(ķ:X.env.frame=YV X.env.locals)
  (h:∀s',s'.os=s.os->Inv X pins B (upd H e (xo e C od true)) s'->Ψ X pins (upd H e (xo e C od true)) s'.heap e->(∃ob vs T oT ts,s'.heap.get? e=YV ob/\ob.data=.fields vs/\vs[1]?=YV (.ref T)/\T≠e/\s'.heap.get? T=YV oT/\oT.data=.fields ts/\3<ts.size/\True)->Q Unit.unit s') :
  wpAny (RK X.prog X.w) A (UR (.ref e) X.env) (λ_ s2=>wpAny (RK X.prog X.w) A (do
   if(<-field (.ref e) 1)== .none then XW "frame.own-activation:exception-without-traceback"
   setFlight (.ref e) X.env.frame) Q E' s2) E s:=by
 obtain⟨ob,vs,he,hd,ht,hv⟩:=F
 obtain⟨ob',ē,ő,hc,hdi,Ϩ,hz,_⟩:=id (I.xc ea)
 rw[he]at ő;cases ő
 rw[hd]at Ϩ;cases Ϩ
 have fr:X.A.frames=YV (X.env::X.outer):=by rw[I.ok.frames,hs]
 have st:s.heap.FunFrames X.base (X.env::X.outer):=by rw[<-hs];exact I.stack
 have hv2:∀T,vs[1]?=YV (.ref T)->H T=YW/\X.s₀.heap.objs.size<=T/\(∀p∈X.pn++pins,p.1≠T)/\∃oT ts,s.heap.get? T=YV oT/\oT.data=.fields ts:=λT hT=>by
  obtain⟨a1,a2,a3⟩:=hv T hT;rcases ht with w|⟨T',oT,ts,w,_,z,d,_⟩
  ·rw[w]at hT;cases hT
  rw[w]at hT;cases hT;exact⟨a1,a2,a3,oT,ts,z,d⟩
 refine Ik (hA.trans fr) st ķ he hd hz ht λh' T ĥ ē oT ts k1 k2 k3 g1 g2 g3 g4 g5 g6 g7 g8 g9 Λ g11 g12=>?_
 have g12':ts[3]?=YV (S6 X.env.locals):=by rw[g12,ķ];rfl
 have I2:Inv X pins B (upd H e (xo e C od true)) { s with heap:=h' }:=I.Ge ea hs ķ hv2 k1 k2 k3 ⟨ĥ,ē,g1,g2.trans hc,g3.trans hdi,g4,by rw[g5];exact hz,λw=>nomatch w⟩
 refine h { s with heap:=h' } rfl I2 ⟨ĥ,ē,g1,g4,.inr ⟨T,oT,ts,g6,g7,g9,Λ,g11,.inr g12'⟩,λT2 w=>?_⟩ ⟨ĥ,ē,T,oT,ts,g1,g4,g6,g7,g9,Λ,g11,trivial⟩
 rw[g6]at w
 cases w
 rw[ay g7]
 rcases g8 with w|w
 ·refine{I.Å.fresh w,O6 I.sz w,λp hp q=>?_};obtain⟨z,_⟩:=I.pin p hp;exact absurd (Pd (RH z) w) (by rw[q];exact PU _)
 obtain⟨a1,a2,a3,_⟩:=hv2 T w
 exact⟨a1,a2,a3⟩
end
def OJ(t:TB->TS):TS:=λD B H=>∀b,t b D B H
theorem EH{X Hd st t}(cat:eU X Hd)(hf:∀b,eU (Ÿ X b) Hd->We (RK X.prog X.w) X.A X.env b.xe->PS (Ÿ X b) st (t b))
  (ħ:X.stack=X.env::X.outer:=by rfl) (ķ:X.env.frame=YV X.env.locals:=by rfl):PS X st (OJ t):=by
 intro pins s B H D I h
 let xe:RC->RF->Prop:=λev s'=>∃B' H' e C od fl,ev=.ref e/\Inv X pins B' H' s'/\H' e=YV (xo e C od fl)/\Ψ X pins H' s'.heap e/\Hd B' (.ref e) od (upd H' e (xo e C od true))
 have cat':eU (Ÿ X ⟨pins,xe⟩) Hd:=λpl B' H' s' e C od fl J ea F q=>by
  obtain⟨ob,vs,h1,h2,h3,h4⟩:=F;exact{B',H',e,C,od,fl,rfl,J.fQ,ea,{ob,vs,h1,h2,h3,λT w=>{(h4 T w).1,(h4 T w).2.1,λp hp=>(h4 T w).2.2 p (Px _ hp)}},q}
 have po:We (RK X.prog X.w) X.A X.env xe:=by
  rintro ev s' ⟨B',H',e,C,od,fl,rfl,J,ea,F,q⟩;refine J.Lo ea F rfl ħ ķ λs2 os J2 F2 _=>?_;exact{B',_,e,C,od,true,rfl,J2,ao,F2,by rw[zY (H:=upd H' e (xo e C od true)) ao];exact q}
 refine Sz (hf ⟨pins,xe⟩ cat' po [] s B H D (I.IW xe) (h _)) (λf s1 z=>?_) λev s1 z=>?_
 ·cases f with
  |next=>obtain⟨B',H',J,q⟩:=z;exact⟨B',H',J.fQ,q⟩
  |brk=>obtain⟨B',H',J,q⟩:=z;exact⟨B',H',J.fQ,q⟩
  |cont=>obtain⟨B',H',J,q⟩:=z;exact⟨B',H',J.fQ,q⟩
  |ret u=>obtain⟨v,B',H',J,r,q⟩:=z;exact⟨v,B',H',J.fQ,r,q⟩
 obtain⟨B',H',e,C,od,fl,rfl,J,ea,F,q⟩:=z
 exact cat pins B' H' s1 e C od fl J ea F q
end L2
namespace L2
open PySem PySem.Spec PyProof.Rows
section
variable{X:Cx}
theorem Y1.rev{xs us}(h:Y1 xs us):Y1 xs.reverse us.reverse:=Y1.reverse h
def Oi(K:RG)(te:TE):TE:=λB H Q=>te B H λx H1=>∃a xs,x=.ref a/\À K H1 a xs/\∀p,H1 p=YW->Q (.ref p) (upd H1 p (.lst xs.reverse))
theorem Kx(he:PE X e te):PE X (.Subscript e (.Slice YW YW (YV (.UnaryOp .USub (.Constant (.int 1) j p3) p4)) p2) pos) (Oi X.K te):=by
 intro pins s B H Q I h;refine WO (È (he pins s B H _ I h) λv s1 z9=>?_);obtain⟨x,H1,I1,r1,a,xs,ex,hx,q⟩:=z9;subst ex;cases r1;refine XS ?_;rw[Ve];refine RD ?_;refine RD ?_;rw[Wz];refine È ((En zO (ag (X:=X))) pins s1 B H1 (λy H2=>H2=H1/\y=.int (-1)) I1 {_,rfl,rfl,rfl}) λv2 s2 z9=>?_;obtain⟨y,H2,I2,r2,e2,e3⟩:=z9;subst e2 e3;obtain⟨t2,rfl⟩:=r2;obtain⟨Á,r,ht,hz⟩:=I2.list hx;have hlen:Á.toArray.size=xs.length:=by rw[O9];exact r.length.symm
 have I4:Inv X pins B H2 { s2 with heap:=s2.heap.push { cls:=.type "slice",data:=.fields #[.none,.none,.int (-1) t2] } }:=I2.kept λb ob q=>RE _ q;obtain⟨its4,r4,Η,hz4⟩:=I4.list hx;have hlen4:its4.toArray.size=xs.length:=by rw[O9];exact r4.length.symm
 refine Yo (ops:=[.ref a,.ref s2.heap.objs.size]) (s:={ s2 with heap:=s2.heap.push { cls:=.type "slice",data:=.fields #[.none,.none,.int (-1) t2] } }) Η.isList.typeIs slot_list_getitem.lookup (Vf Η.isList (U0 ..) .none .none (.int (-1) t2) (by simp) ?_ (by rw[hlen4];exact hz4)) (by with_unfolding_all rfl);rw[W.krv_pick];refine{.ref _,_,I4.laid (t':=s2.toks) (o:=.lst xs.reverse) (λb ob q=>RE _ q) (OW _) ?_,rfl,q _ (I4.Å.fresh (OW _))};exact{by rw[Wr];exact hz4,_,0,r4.rev,RL _ rfl}
end
section
variable{X:Cx}{e:Expr}{te:TE}{es:List Expr}{t:Str->TE}{pos:Pos}
def PJ(X:Cx)(es:List Expr)(t:Str->TE):Prop:=
 ∀(acc:Str)(pins:List (RB×Obj))(s:RF)(B:St)(H:Hp)(Q:VK),Inv X pins B H s->t acc B H Q->wpAny (RK X.prog X.w) X.A (YL acc (evalEach es X.env)) (EP X pins B Q) X.xe s
theorem Lg:PJ X [] (λacc _ H Q=>acc.length<=sizeLine/\Q (.str acc) H):=λacc pins s B H Q I h=>by
 show wpAny _ _ (YL acc []) _ _ _;exact joinParts_nil (Q:=EP X pins B Q) {.str acc,H,I.tok _,{_,rfl},h.2} h.1
theorem Cd(he:PE X e te)(ht:PJ X es t):PJ X (e::es) (λacc B H Q=>te B H λv H'=>∃x,v=.str x/\(acc++x).length<=sizeLine/\t (acc++x) B H' Q):=λacc pins s B H Q I h=>by
 show wpAny _ _ (YL acc (Sj e X.env::evalEach es X.env)) _ _ _;refine joinParts_cons (È (he pins s B H _ I h) λv s1 z9=>?_);obtain⟨x,H1,I1,r1,y,e1,l1,q1⟩:=z9;subst e1;obtain⟨tk,rfl⟩:=r1;exact{l1,ht _ pins s1 B H1 Q I1 q1}
theorem GJ(h:PJ X (a::b::es) t):PE X (.JoinedStr (a::b::es) pos) (λB H Q=>t Su B H Q):=λpins s B H Q I q=>JoinedStr_many (h Su pins s B H Q I q)
theorem JO(he:PE X e te):PE X (.FormattedValue e (-1) YW pos) (λB H Q=>te B H λv H'=>(∃i,v=.int i/\i.natAbs.log2<1920/\Q (.str (toString i:String)) H')\/∃x,v=.str x/\x.length<=sizeLine/\Q (.str x) H'):=λpins s B H Q I h=>by
 refine FormattedValue_plain (È (he pins s B H _ I h) λv s1 z9=>?_);obtain⟨x,H1,I1,r1,q1⟩:=z9;rcases q1 with⟨i,rfl,hi,q1⟩|⟨y,rfl,hy,q1⟩
 ·obtain⟨tk,rfl⟩:=r1;exact formatField_int_small hi {.str (toString i:String),H1,I1.tok _,{_,rfl},q1}
 obtain⟨tk,rfl⟩:=r1;exact formatField_str (λt' tk=>{.str y,H1,I1.tok _,{_,rfl},q1}) hy
end
section
variable{X:Cx}
theorem IT:Ñ X (Sw .RShift) (pj (λ_ j=>0<=j) λi j=>.int (i/2^j.toNat)):=JQ.pj
theorem er(ho:PE X o to)(ha:PA X [e] t)(ã:Sx o "extend" X.env (Sj o X.env)=Sj o X.env:=by rfl)
  (Ĺ:((Sk Ë (RJ [e] X.env)).all (λx=>!x.1)&&(Ud Ë (Tg [] X.env)).all (λx=>x.1.isSome)
   &&decide ([e].length+([]:List TY).length+(if([]:List TY).isEmpty then 0 else 1)<30))=true:=by rfl)
  (á:(apos.endLine==Ë.line)=true:=by rfl) (hs:RJ [e] X.env=(false,Sj e X.env)::RJ [] X.env:=by rfl) (ò:(Sk Ë (RJ [] X.env)).any (·.1)=false:=by rfl) :
  PE X (.Call (.Attribute o "extend" apos) [e] [] Ë) (tBM X.K "list" A9 to t):=
 Ez Vt PySem.F.slot_list_extend PySem.F.type_list_extend Dq ho ha ã Ĺ á hs ò
end
section
variable{prog:Program}{w:RS}{K:Type}[DecidableEq K]{knd:KeyKind prog w K}{A:Sd}{E:RC->RF->Prop}{s:RF}
end
section
variable{X:Cx}
end
section
variable{prog:Program}{w:RS}{A:Sd}{E:RC->RF->Prop}{s:RF}
end
section
variable{X:Cx}
end
section
variable{K:RG}{H:Hp}{Q:VK}
theorem Ø{p:RB}{xs:List V}{v:V}{j:Nat}(h:Æ K H p xs)(e:xs[j]?=YV v)(q:Q v H):ixS K p (j:Int) H Q\/dgI p (.int (j:Int)) H Q:=.inl ⟨xs,v,.inr h,dY e,q⟩
theorem Ì(h:À K H p xs)(e:ô xs i=YV v)(q:Q v H):ixS K p i H Q\/dgI p (.int i) H Q:=.inl ⟨xs,v,.inl h,e,q⟩
theorem Ŀ(h:H d=YV (.dK kvs))(e:bx kvs (.inr x)=YV v)(q:Q v H):dgI d (.str x) H Q:={v,e▸lH.k (k:=.inr x) h,q}
theorem Ê(h:H a=YV (.ins C dx fs))(c:Ě K C)(n:aJ K C f)(e:fs.lookup f=YV v)(q:Q v H):lN K f (.ref a) H Q:=⟨a,C,dx,fs,v,rfl,h,c,n,e,q⟩
theorem Ŭ(h:H p=YV (.lst xs))(q:Q (.int (xs.length:Nat)) H):HY K [.ref p] H Q\/Kf [.ref p] H Q:=.inl {_,_,rfl,.inl {_,À.of h,rfl},q}
theorem isB(ty:o7 K H x t)(k:R0 K t (.ref D)=YV b)(q:R b H):wV K [x,.ref D] H λv H1=>yP K v H1 R:={x,.ref D,t,b,rfl,(λz=>by cases z),ty,k,b,rfl,q}
end
section
variable{X:Cx}
theorem E2(hu:X.A.units+64<S8):Ñ X (RV .NotEq) (λx y H Q=>∃d e,ja X.K H x d/\ja X.K H y e/\Sa d=true/\Sa e=true/\Q (.bl (!PyData.eqv d e)) H):=by
 intro pins s B H x y v u Q I rx ry h;obtain⟨d,e,hd,he,sd,se,hq⟩:=h;obtain⟨as,z1⟩:=I.reads hd rx;obtain⟨bs,z2⟩:=I.reads he ry;exact ne_dataH z1 z2 sd se hu {.bl _,H,I,rfl,hq}
end
def Du(P:Program)(w:RS)(K:RG)(mg:Str->Option RC)(base:R8)(k:Nat)(x:Str)(ps:List Str)(dvs:List V)(sp:Sp):Prop:=
 ∃f fd ds,hZ P w K mg base ġ k f fd ps sp/\Y3 K fd ps []/\Y3 K fd ps ds/\Y1 dvs ds/\SG K (.ref f)=true/\mg x=YV (.ref f)/\∃oc od æ,K.lookup f=YV ⟨oc,od,.func fd,æ⟩
section
variable{P:Program}{w:RS}{K:RG}{mg:Str->Option RC}{base:R8}{k:Nat}{x:Str}{ps:List Str}{dvs:List V}{sp:Sp}
theorem Du.has(D:Du P w K mg base k x ps dvs sp):ϴ P w K mg base k x ps sp:=by
 obtain⟨f,fd,ds,F,b,_,_,kp,m,l⟩:=D;exact⟨f,fd,F,b,kp,m,l⟩
structure oO(K:RG)(mg:Str->Option RC)(x:Str)(st:RY)(ps:List Str)(dvs:List V):Prop where
 ex:∃(f:RB)(oc:RC)(od:Option RB)(dV kV doc pm:RC)(an:Option RB)(Â ct:RC)(æ:Array (Option RC))(ds:List RC),K.lookup f=YV {oc,od,.func (SK x x (bg st) (aU st) (aq st) dV kV doc pm an Â ct),æ}/\Ue K Â x=true/\SG K (.ref f)=true/\mg x=YV (.ref f)/\Y1 dvs ds/\
  Y3 K (SK x x (bg st) (aU st) (aq st) dV kV doc pm an Â ct) ps []/\Y3 K (SK x x (bg st) (aU st) (aq st) dV kV doc pm an Â ct) ps ds
abbrev oO.Hz{st:RY}(_:oO K mg x st ps dvs)(P:Program)(w:RS)(base:R8)(k:Nat)(sp:Sp):Prop:=Du P w K mg base k x ps dvs sp
theorem oO.hs{st N}(F:oO K mg x st ps dvs)(S:aw N ps (aq st))
  (â:∀f Â A outer s H vs Q E,cN k (A.deeper (Tw x (aq st) s.heap.objs.size f Â))->(A.deeper (Tw x (aq st) s.heap.objs.size f Â)).units+64<S8->sp vs H Q E->
   ∃t,ü (nG ġ P w K mg base N x (aq st) f Â A outer s H E).ό (aU st) t/\t { nx:=λ_ H'=>Q .Ä H',rt:=Q } (Y4 N vs) H) (len:∀vs H Q E,sp vs H Q E->vs.length=ps.length:=by intro _ _ _ _ h;cases h;subst_vars;rfl):Du P w K mg base (k+1) x ps dvs sp:=by
 obtain⟨f,oc,od,dV,kV,doc,pm,an,Â,ct,æ,ds,lk,Į,kp,m,hv,b1,b2⟩:=F.ex
 refine{f,_,ds,DQ lk Į S len λA outer s H vs Q E hr ř=>?_,b1,b2,hv,kp,m,oc,od,æ,lk}
 obtain⟨t,h,q⟩:=â f Â A outer s H vs Q E hr hr.units ř
 exact⟨t,h.ό,q⟩
end
theorem DY(D:Du X.prog X.w X.K X.mg X.base j x ps dvs sp)(hr:cN k X.A)(ha:PA X (e::es) t)(hj:j<=k:=by decide)(hg:Gl X x:=by rfl)
  (ì:(x==("__debug__":Str))=false:=by decide) (he:RJ (e::es) X.env=(false,Sj e X.env)::RJ es X.env:=by rfl) (ê:(Sk pos (RJ es X.env)).any (·.1)=false:=by rfl) :
  PE X (.Call (.Name x p) (e::es) [] pos) (vn sp dvs E0 t):=by
 obtain⟨f,fd,ds,F,_,b,hv,kp,m,_⟩:=D
 exact Cm F (hr.mono hj) hg m kp b hv sJ ha ì he ê
def b9(a b c:Option Tok):Array (Int×RC):=((a.map λt=>((0:Int),SW 0 t)).toList++((b.map λt=>((1:Int),SW 1 t)).toList++(c.map λt=>((2:Int),SW 2 t)).toList)).toArray
def y9(a b c:Option Tok):Array Nat:=((a.map λ_=>0).toList++((b.map λ_=>1).toList++(c.map λ_=>2).toList)).toArray
def Ř(a b c:Option Tok)(led:Bool):SetTable:={ mask:=7,place:=y9 a b c,dummies:=#[],finger:=0,led:=led,moves:=0,plain:=true }
abbrev ÿ(a b c:Option Tok)(ep:Nat)(led:Bool):Obj:={ cls:=.type "set",dict:=YW,data:=.set (b9 a b c) ep (Ř a b c led) }
theorem lay0(b c:Option Tok)(led:Bool)(t:Tok):layNew (Ř YW b c led) (b9 YW b c) 0 (.int 0 t)=(b9 (YV t) b c,Ř (YV t) b c led,false,false):=by cases b<;>cases c<;>kernel_rfl
theorem N0(a c:Option Tok)(led:Bool)(t:Tok):layNew (Ř a YW c led) (b9 a YW c) 1 (.int 1 t)=(b9 a (YV t) c,Ř a (YV t) c led,false,false):=by cases a<;>cases c<;>kernel_rfl
theorem NT(a b:Option Tok)(led:Bool)(t:Tok):layNew (Ř a b YW led) (b9 a b YW) 2 (.int 2 t)=(b9 a b (YV t),Ř a b (YV t) led,false,false):=by cases a<;>cases b<;>kernel_rfl
theorem xq (a b c led):(Ř a b c led).tooFull=false:=by cases a<;>cases b<;>cases c<;>kernel_rfl
theorem fk (a b c led):(Ř a b c led).fits (b9 a b c).size=true:=by cases a<;>cases b<;>cases c<;>kernel_rfl
theorem jr (a b c):(b9 a b c).size<=3:=by cases a<;>cases b<;>cases c<;>simp[b9]
section
variable{prog:Program}{w:RS}{A:Sd}{E:RC->RF->Prop}{s:RF}{S:RB}{a b c:Option Tok}{ep:Nat}{led:Bool}
theorem pT:ElemsOf (TX prog w) (b9 a b c).toList:=λe he=>by
 have:e.2=.int e.1 (match e.2 with| .int _ t=>t|_=>0):=by
  cases a<;>cases b<;>cases c<;>simp[b9]at he<;>rcases he with rfl|rfl|rfl<;>rfl
 rw[this];exact{{e.1,W2 _ _ _ _,by cases a<;>cases b<;>cases c<;>simp[b9]at he<;>rcases he with rfl|rfl|rfl<;>rfl},rfl}
theorem Aj(ho:s.heap.get? S=YV (ÿ a b c ep led))(lay:layNew (Ř a b c led) (b9 a b c) ((TX prog w).hash r) (.int r t)=(es',t',false,false))(pl:t'.plain=true)(tf:t'.tooFull=false)(sz:es'.size<=3)
  (nf:(b9 a b c).toList.findIdx? (λe=>(TX prog w).is r e.2)=YW) (q:Q true { s with heap:=s.heap.update S (YA es' t') }):wpAny (RK prog w) A (Ul S (.int r t) ((TX prog w).hash r)) Q E s:=by
 have h4:=jr a b c
 unfold Ul YB
 refine wpAny_holding (RA (Ti ho rfl (fk a b c led) ?_))
 dsimp only
 rw[byScan_of (knd:=TX prog w) rfl (by unfold scanBound;lia) pT]
 simp only[if_true]
 unfold setAddByScan
 refine RA (RA (WX (RA (XF (W2 prog w r t) ho rfl (fk a b c led) pT ?_))))
 rw[nf]
 dsimp only
 rw[lay]
 refine RA (RD ?_)
 dsimp only
 rw[if_pos pl]
 refine RA (RD (a:=true) ?_)
 simp only[if_true]
 refine RA (wpAny_storeSet_of ho rfl ?_ (O6 sz ∅))
 rw[tf]
 exact RD (RD q)
theorem Jy(ho:s.heap.get? S=YV (ÿ a b c ep led))(nf:(b9 a b c).toList.findIdx? (λe=>(TX prog w).is r e.2)=YV j)(q:Q false s):wpAny (RK prog w) A (Ul S (.int r t) ((TX prog w).hash r)) Q E s:=by
 have h4:=jr a b c;unfold Ul YB;refine wpAny_holding (RA (Ti ho rfl (fk a b c led) ?_));dsimp only;rw[byScan_of (knd:=TX prog w) rfl (by unfold scanBound;lia) pT];simp only[if_true];unfold setAddByScan;refine RA (RA (WX (RA (XF (W2 prog w r t) ho rfl (fk a b c led) pT ?_))));rw[nf];exact RD (RD q)
theorem qH(ho:s.heap.get? S=YV (ÿ a b c ep led)):S2 S s.heap (s.heap.update S (YA (b9 x y z) (Ř x y z led)))/\(s.heap.update S (YA (b9 x y z) (Ř x y z led))).get? S=YV (ÿ x y z (ep+1) led):={Tn ..,RR _ ho rfl}
theorem J8(hr:r=0\/r=1\/r=2)(ho:s.heap.get? S=YV (ÿ a b c ep led))
  (q:∀bl h' ŵ x y z,S2 S s.heap h'->h'.get? S=YV (ÿ x y z ŵ led)->x.isSome=(a.isSome||decide (r=0))->y.isSome=(b.isSome||decide (r=1))->z.isSome=(c.isSome||decide (r=2))->Q bl { s with heap:=h' }):wpAny (RK prog w) A (Ul S (.int r t) ((TX prog w).hash r)) Q E s:=by
 have old:∀j,(b9 a b c).toList.findIdx? (λe=>(TX prog w).is r e.2)=YV j->a.isSome=(a.isSome||decide (r=0))->b.isSome=(b.isSome||decide (r=1))->c.isSome=(c.isSome||decide (r=2))->wpAny (RK prog w) A (Ul S (.int r t) ((TX prog w).hash r)) Q E s:=λj nf h1 h2 h3=>Jy ho nf (q false s.heap ep a b c (Heap.SameBut.refl S s.heap) ho h1 h2 h3)
 rcases hr with rfl|rfl|rfl
 ·cases a with
  |some u=>exact old 0 rfl rfl (by simp) (by simp)
  |none=>exact Aj ho (lay0 b c led t) rfl (xq ..) (jr ..) (by cases b<;>cases c<;>rfl) (q true _ _ _ _ _ (qH ho).1 (qH ho).2 rfl (by simp) (by simp))
 ·cases b with
  |some u=>cases a with
   |none=>exact old 0 rfl (by simp) rfl (by simp)
   |some v=>exact old 1 rfl (by simp) rfl (by simp)
  |none=>exact Aj ho (N0 a c led t) rfl (xq ..) (jr ..) (by cases a<;>cases c<;>rfl) (q true _ _ _ _ _ (qH ho).1 (qH ho).2 (by simp) rfl (by simp))
 cases c with
 |some u=>cases a with
  |none=>cases b with
   |none=>exact old 0 rfl (by simp) (by simp) rfl
   |some v=>exact old 1 rfl (by simp) (by simp) rfl
  |some v=>cases b with
   |none=>exact old 1 rfl (by simp) (by simp) rfl
   |some v=>exact old 2 rfl (by simp) (by simp) rfl
 |none=>exact Aj ho (NT a b led t) rfl (xq ..) (jr ..) (by cases a<;>cases b<;>rfl) (q true _ _ _ _ _ (qH ho).1 (qH ho).2 (by simp) (by simp) rfl)
end
structure Ei(val:Nat->Int)(i:Nat)(a b c:Option Tok):Prop where
 a:a.isSome=(RX i).any λj=>decide (val j=0)
 b:b.isSome=(RX i).any λj=>decide (val j=1)
 c:c.isSome=(RX i).any λj=>decide (val j=2)
theorem sG (f i):(RX (i+1)).any f=((RX i).any f||f i):=by
 rw[Q6,List.any_append];simp
section
variable{prog:Program}{w:RS}{A:Sd}{R:Result->RF->Prop}{I:RB}{fp wr:List RB}{G:Array UA->Array UA->Prop}{n:Nat}{P:Nat->RC->Prop}{St:Nat->RF->Prop}{led:Bool}
theorem GB(W:WalksS prog w A.in1 I fp wr G n P St) (S) (hSf:S∉fp) (val) (ĕ:∀i v,P i v->∃t,v=.int (val i) t) (h3:∀i v,P i v->val i=0\/val i=1\/val i=2) :
  ∀k i s a b c ep,n-i=k->i<=n->St i s->s.heap.get? S=YV (ÿ a b c ep led)->Ei val i a b c->
   (∀s' x y z ŵ,Moved (S::wr) G s s'->s'.heap.get? S=YV (ÿ x y z ŵ led)->Ei val n x y z->R (.ok (.ret .none)) s')->codeAny (RK prog w) A (.builtin "set.update.loop" {[.ref S,.ref I],[]}) R s:=by
 have sw:S∉wr:=λh=>hSf (W.sub _ h)
 have sub:∀b∈wr,b∈S::wr:=λb hb=>O2 _ hb
 intro k
 induction k with
 |zero=>
  intro i s a b c ep hk hi st hS hm q
  obtain rfl:i=n:=()
  refine S0 TQ ?_
  rw[SI S1 _]
  refine RA (m:=V2 (.ref I)) (W.done s _ _ st λs' mv=>?_)
  exact RD (q s' a b c ep (mv.mono sub) (mv.heap S _ sw hS) hm)
 |succ k ih=>
  intro i s a b c ep hk hi st hS hm q
  have lt:i<n:=()
  refine S0 TQ ?_
  rw[SI S1 _]
  refine RA (m:=V2 (.ref I)) (W.item i s _ _ lt st λv s' hP ċ mv=>?_)
  obtain⟨t,rfl⟩:=ĕ i v hP
  refine RA (wpAny_holding (m:=setAdd S (.int (val i) t)) ?_)
  unfold setAdd
  refine wpAny_holding (RA ((TX prog w).pyHash (k:=val i) (W2 _ _ _ _) ?_))
  refine J8 (s:={ s' with toks:=s'.toks+1 }) (h3 i _ hP) (mv.heap S _ sw hS) λbl h' ŵ x y z sb hS' e1 e2 e3=>?_
  refine RD {TV S1 _,ih (i+1) _ x y z ŵ () lt (W.frame _ s' _ _ ċ (Qb _) λb hb o e=>?_) hS' {by rw[e1,hm.a,sG],by rw[e2,hm.b,sG],by rw[e3,hm.c,sG]} λs'' x y z ep'' mv' hS'' hm'=>?_}
  ·rw[sb.2 b (λh=>hSf (by rw[<-h];exact hb))];exact e
  refine q s'' x y z ep'' (Moved.trans W.gtrans ((mv.mono sub).then_heap (Qb _) λb o hb e=>?_) mv') hS'' hm'
  rw[sb.2 b (λh=>hb (by rw[h];exact OX))]
  exact e
end
section
variable{prog:Program}{w:RS}{A:Sd}{E:RC->RF->Prop}{s:RF}
theorem oY(q:Q (w.params.followText "set-order") s):wpAny (RK prog w) A setsByText Q E s:=RA (Vy (RD q))
theorem Ib (u) (q:Q (.ref s.heap.objs.size) { s with heap:=s.heap.push (ÿ YW YW YW 0 (!w.params.followText "set-order")) }) :
  codeAny (RK prog w) A (.call (.builtin "set.__new__") {[.type "set",u],[]}) (wants Q E) s:=by
 refine VN (RA (wpAny_of_eq (PySem.F.newCall_set_1 u) (RD {TV VW _,S0 PySem.F.entry_set_new ?_})))
 rw[SI VW _]
 unfold Tu.«set.__new__» Builtin.Frozenset.newClass
 have hsub:=PySem.sub_set_self
 obtain⟨hp,g,d,tk,os⟩:=s
 dsimp only
 wp_walk
 refine Vy (RD ?_)
 dsimp only
 simp only[newObj]
 exact RA (wpAny_alloc (RD (RD q)))
set_option maxHeartbeats 3200000 in
theorem yJ(hh:A.handled=YW)(hl:s.heap.IsList l items)(hv:∀i v,items[i]?=YV v->∃t,v=SW (val i) t)(h3:∀i v,items[i]?=YV v->val i=0\/val i=1\/val i=2)
  (q:∀h' tk x y z ep,h'.get? s.heap.objs.size=YV (ÿ x y z ep (!w.params.followText "set-order"))->Ei val items.size x y z->(∀b o,b<s.heap.objs.size->s.heap.get? b=YV o->h'.get? b=YV o)->Q (.ref s.heap.objs.size) { s with heap:=h',toks:=tk }) :
  wpAny (RK prog w) A (call (.type "set") [.ref l]) Q E s:=by
 obtain⟨c,tl,hmro⟩:=PySem.F.called_set.mro
 have m1:=PySem.F.called_set.made
 have m2:=PySem.F.called_set.sub
 refine T3 (VN ?_)
 show wpAny _ _ (callAny (.type "set") _) _ _ _
 refine RD {U2 _ (by decide+kernel),S0 PySem.F.entry_type_call ?_}
 rw[Around.under_plain (weight_type_call_type "set" [.ref l] []) rfl]
 have m3:=PySem.F.called_set.notType
 have m4:=PySem.F.called_set.canCreate
 have m5:=PySem.F.typeCall_set_1 (.ref l)
 repeat (any_goals (first|assumption|wp_step))
 refine Tf (Ib (.ref l) (E:=E) (Q:=λobj s₁=>obj=.ref s.heap.objs.size/\s₁={ s with heap:=s.heap.push (ÿ YW YW YW 0 (!w.params.followText "set-order")) }) ⟨rfl,rfl⟩) λr s₁ hr=>?_
 cases r with
 |error e=>exact hr
 |ok fl=>
  cases fl with
  |ret obj=>
   obtain⟨rfl,rfl⟩:=hr
   have hS:(s.heap.push (ÿ YW YW YW 0 (!w.params.followText "set-order"))).get? s.heap.objs.size=YV (ÿ YW YW YW 0 (!w.params.followText "set-order")):=RL _ rfl
   have hT:WE { s with heap:=s.heap.push (ÿ YW YW YW 0 (!w.params.followText "set-order")) } (.ref s.heap.objs.size) "set":=⟨_,hS,rfl⟩
   have n1:=PySem.F.called_set.init.lookup
   have n2:=PySem.F.called_set.init.bind (.ref s.heap.objs.size)
   repeat (any_goals (first|assumption|wp_step))
   refine Tf (UE (R:=wants (λr s₂=>r=.none/\∃h' tk x y z ep,s₂={ s with heap:=h',toks:=tk }/\h'.get? s.heap.objs.size=YV (ÿ x y z ep (!w.params.followText "set-order"))/\Ei val items.size x y z/\∀b o,b<s.heap.objs.size->s.heap.get? b=YV o->h'.get? b=YV o) E) PySem.F.called_set.init.plain PySem.F.entry_set_init (PySem.check_set_init_1 hT ?_)) λr₂ s₂ hr₂=>?_
   ·obtain⟨ol,hol,hcl,nl,hdl⟩:=hl;obtain⟨ocls,odict,odata,oslots⟩:=ol;simp only at hcl hdl;subst hcl;subst hdl;have hol':(s.heap.push (ÿ YW YW YW 0 (!w.params.followText "set-order"))).get? l=YV { cls:=.type "list",dict:=odict,data:=.seq items nl,slots:=oslots }:=RE _ hol;have k1:=PySem.F.sub_list_set;have k2:=PySem.F.sub_list_frozenset;have k3:(SX "list"==SX "dict")=false:=∅
    have hl1:(s.heap.push (ÿ YW YW YW 0 (!w.params.followText "set-order"))).IsList l items:={_,hol',rfl,nl,rfl};unfold Tu.«set.__init__» noKeywords Builtin.Frozenset.updateFrom;generalize hPI:Yj=PI;wp_walk
    subst hPI;refine Uh hl1 (RA (YC ?_));have lS:l<s.heap.objs.size:=RH hol;have zs:(s.heap.push (ÿ YW YW YW 0 (!w.params.followText "set-order"))).objs.size=s.heap.objs.size+1:=SR ..;refine GB ((Walks.list (A:=A.in1.in1.in1) (by simp[hh]) _ l (by rw[zs];exact Ph (Qc lS)) items).toS) s.heap.objs.size (by rw[zs];simp only[O4,Pw,or_false,not_or];exact{Ph (QN _),P8 lS}) val hv h3 items.size 0 _ YW YW YW 0 () (Pc _) {{_,RL _ rfl,rfl,rfl},hl1.push _} (RE _ hS) ⟨rfl,rfl,rfl⟩ ?_;intro s' x y z ep mv hS' hm;obtain⟨h',g',d',tk',os'⟩:=s';have e1:g'=s.gens:=mv.gens;have e2:d'=s.drawn:=mv.drawn;have e3:os'=s.os:=mv.os;subst e1;subst e2;subst e3;refine RD (RD {rfl,h',tk',x,y,z,ep,rfl,hS',hm,λb o hb e=>?_});refine mv.heap b o (by rw[zs];simp only[O4,Pw,or_false,not_or];exact{Ph hb,Ph (Qc hb)}) (RE _ (RE _ e))
   cases r₂ with
   |error e=>exact hr₂
   |ok fl₂=>
    cases fl₂ with
    |ret r=>
     obtain⟨rfl,h',tk,x,y,z,ep,rfl,g1,g2,g3⟩:=hr₂
     repeat (any_goals (first|assumption|wp_step))
     exact q h' tk x y z ep g1 g2 g3
    |_=>exact hr₂.elim
  |_=>exact hr.elim
end
theorem km:Slot "set_iterator" "__next__" "set_iterator.__next__":=.of (owner:="set_iterator") (n:="__next__") (by rw[VO,Uq];kernel_rfl) (by decide+kernel) (by decide+kernel) (by decide+kernel) (by first|exact .inl (by decide+kernel)|exact .inr (by decide+kernel)) (by rw[U3];kernel_rfl)
theorem yv:Slot "set_iterator" "__iter__" "set_iterator.__iter__":=.of (owner:="set_iterator") (n:="__iter__") (by rw[VO,Uq];kernel_rfl) (by decide+kernel) (by decide+kernel) (by decide+kernel) (by first|exact .inl (by decide+kernel)|exact .inr (by decide+kernel)) (by rw[U3];kernel_rfl)
theorem u7:Xj table "set_iterator.__next__"=YV Tu.«set_iterator.__next__»:=XD (by kernel_rfl)
theorem xP (a):YT "set_iterator.__next__" {[a],[]}:=by unfold YT;kernel_rfl
theorem A3:Xj table "set.__iter__"=YV Tu.«frozenset.__iter__»:=entryFor_alias (id':="frozenset.__iter__") (by kernel_rfl) rfl (by decide+kernel) (by kernel_rfl)
def Ō(tx:Bool)(ord:Nat->Nat)(a b c:Option Tok):Array (Int×RC):=if tx=true then YM ord (b9 a b c)else b9 a b c
def jT(tx:Bool)(a b c:Option Tok)(i:Nat):Nat:=if tx=true then 0 else match i with
 |0=>0
 |j+1=>(y9 a b c).getD j 0+1
abbrev Ϡ(slot i:Nat)(S:RB)(n ep:Nat):Obj:={ cls:=.type "set_iterator",data:=.fields #[S6 slot,S6 i,.ref S,S6 n,S6 ep] }
section
variable{prog:Program}{w:RS}{A:Sd}{E:RC->RF->Prop}{s:RF}{S:RB}{a b c:Option Tok}{ep:Nat}
theorem FK(h:i<=(b9 a b c).size):V8 (y9 a b c) (jT false a b c i)=i/\(y9 a b c)[i]?=(b9 a b c)[i]?.map λ_=>(y9 a b c).getD i 0:=by
 have h3:=jr a b c;have i3:i=0\/i=1\/i=2\/i=3:=()
 rcases i3 with rfl|rfl|rfl|rfl<;>cases a<;>cases b<;>cases c<;>first|(simp[b9]at h;done)|(refine{?_,?_}<;>kernel_rfl)
theorem Cz(ho:s.heap.get? S=YV (ÿ a b c ep (!w.params.followText "set-order")))(h:i<=(b9 a b c).size)
  (q:Q ((Ō (w.params.followText "set-order") (w.params.setOrder S ep) a b c)[i]?.map λe=>(e.2,jT (w.params.followText "set-order") a b c (i+1))) s):wpAny (RK prog w) A (setNext S (jT (w.params.followText "set-order") a b c i) i ep) Q E s:=by
 unfold setNext
 refine RA (Ti ho rfl (fk ..) ?_)
 refine RA (oY ?_)
 cases hx:w.params.followText "set-order" with
 |true=>
  rw[hx]at ho q
  simp only[if_true,bne_self_eq_false,PY,if_false]
  unfold setWalk
  refine RA (RA (Ti ho rfl (fk ..) (RA (oY ?_))))
  rw[hx]
  simp only[if_true]
  refine RA (Vy (RD (RD ?_)))
  exact q
 |false=>
  rw[hx]at ho q
  simp only[PY,if_false]
  show wpAny _ _ (if false=true then _ else _) _ _ _
  simp only[PY,if_false]
  refine RA (show wpAny _ _ (pure Unit.unit) _ _ _ from RD ?_)
  obtain⟨e1,e2⟩:=FK h
  refine RD ?_
  show Q (match (b9 a b c)[V8 (y9 a b c) (jT false a b c i)]?,(y9 a b c)[V8 (y9 a b c) (jT false a b c i)]? with|some (_,x),YV j=>YV (x,j+1)|_,_=>YW) s
  rw[e1,e2]
  rw[show Ō false (w.params.setOrder S ep) a b c=b9 a b c from rfl]at q
  cases he:(b9 a b c)[i]? with
  |none=>rw[he]at q;exact q
  |some e=>rw[he]at q;exact q
def zK(w:RS)(I S:RB)(a b c:Option Tok)(ep i:Nat)(h:R8):Prop:=h.get? I=YV (Ϡ (jT (w.params.followText "set-order") a b c i) i S (b9 a b c).size ep)/\h.get? S=YV (ÿ a b c ep (!w.params.followText "set-order"))
theorem GZ(ne:S≠I)(st:zK w I S a b c ep i s.heap)(h:i<=(b9 a b c).size)(he:(Ō (w.params.followText "set-order") (w.params.setOrder S ep) a b c)[i]?=YV e)
  (q:∀h',zK w I S a b c ep (i+1) h'->S2 I s.heap h'->Q (YV e.2) { s with heap:=h' }):wpAny (RK prog w) A (V2 (.ref I)) Q E s:=by
 obtain⟨hI,hS⟩:=st
 have ty:s.TypeIs (.ref I) "set_iterator":={_,hI,rfl}
 unfold V2
 refine RA (Vh (Tr (name:=TK "__next__") ty km (SH km ty u7 ?_ (xP _))))
 show wpAny _ _ (fieldsOf (.ref I)>>=_) _ _ s
 refine RA (RA (WK hI (RD ?_)))
 dsimp only[S6]
 refine RA (UM hS rfl (fk ..) ?_)
 simp only[bne_self_eq_false,PY,if_false,PL]
 refine RA (Cz hS h ?_)
 rw[he]
 dsimp only[Option.map]
 refine RA (SU hI rfl (by simp) ?_)
 have h1:(s.heap.update I (Sy (·.setIfInBounds 0 (S6 (jT (w.params.followText "set-order") a b c (i+1):Nat))))).get? I=YV (Ϡ (jT (w.params.followText "set-order") a b c (i+1)) i S (b9 a b c).size ep):=RR _ hI rfl
 refine RA (SU h1 rfl (by simp) ?_)
 have h2:=RR (Sy (·.setIfInBounds 1 (S6 ((i:Int)+1)))) h1 rfl
 refine RD {_,rfl,RD (q _ {h2,?_} ?_)}
 ·exact(RI _ _ ne.symm).trans ((RI _ _ ne.symm).trans hS)
 exact(Tn ..).trans (Tn ..)
theorem Lb(hh:A.handled=YW)(st:zK w I S a b c ep (b9 a b c).size s.heap)(he:(Ō (w.params.followText "set-order") (w.params.setOrder S ep) a b c)[(b9 a b c).size]?=YW)
  (q:∀h',Heap.ExtBut I s.heap h'->Q YW { s with heap:=h' }):wpAny (RK prog w) A (V2 (.ref I)) Q E s:=by
 obtain⟨hI,hS⟩:=st
 have ty:s.TypeIs (.ref I) "set_iterator":={_,hI,rfl}
 unfold V2
 refine RA (Vh (Tr (name:=TK "__next__") ty km (SH km ty u7 ?_ (xP _))))
 show wpAny _ _ (fieldsOf (.ref I)>>=_) _ _ s
 refine RA (RA (WK hI (RD ?_)))
 dsimp only[S6]
 refine RA (UM hS rfl (fk ..) ?_)
 simp only[bne_self_eq_false,PY,if_false,PL]
 refine RA (Cz hS (OW _) ?_)
 rw[he]
 dsimp only[Option.map]
 refine RA (SU hI rfl (by simp) (RA ?_))
 simp only[newExc,newTuple]
 refine RA (R7 (RA (m:=YD _ _) (wpAny_of_eq (a:=RW) (by first|rfl|(simp only[YD];rfl)) (R7 ?_ (by size_fits)))) (by size_fits))
 simp only[raiseNew]
 refine RA (wpAny_handled ?_)
 rw[show A.in1.handled=YW from hh]
 refine RA (RD (wpAny_throw ?_))
 refine RA (Vx (T:="StopIteration") (b:=true) {_,RL _ rfl,rfl} isSubtype_stop ?_)
 exact RD (q _ (((Tn ..).extBut.push _).push _))
end
theorem uu{α:Type}:∀{l:List α}{i:Nat}(h:i<l.length),(l[i]::l.eraseIdx i).Perm l
 |x::l,0,_=>YE _
 |x::l,i+1,h=>((List.Perm.swap _ _ _).trans ((uu (l:=l) (i:=i) (by simpa using h)).cons x))
theorem Bq{α:Type} (next):∀(n k:Nat)(left:List α)(out:Array α),left.length=n->(Xn next n k left out).toList.Perm (out.toList++left)
 |0,k,left,out,h=>by
  rw[List.length_eq_zero_iff.mp h];unfold Xn;simp
 |n+1,k,left,out,h=>by
  have lt:next k%left.length<left.length:=Nat.mod_lt _ ()
  unfold Xn;rw[OV lt];dsimp only;refine(Bq next n (k+1) _ _ (by rw[List.length_eraseIdx_of_lt lt];lia)).trans ?_;rw[Array.toList_push,QZ];exact List.Perm.append_left _ (uu lt)
theorem CS{α:Type} (next) (xs:Array α):(YM next xs).toList.Perm xs.toList:=by
 have:=Bq next xs.size 0 xs.toList #[] (Qf ..)
 simpa [YM] using this
theorem De:Xj table "set_iterator.__iter__"=YV Tu.«dict_keyiterator.__iter__»:=entryFor_alias (id':="dict_keyiterator.__iter__") (by kernel_rfl) rfl (by decide+kernel) (by kernel_rfl)
theorem DT (a):YT "set_iterator.__iter__" {[a],[]}:=by unfold YT;kernel_rfl
section
variable{prog:Program}{w:RS}{A:Sd}{E:RC->RF->Prop}{s:RF}{S:RB}{a b c:Option Tok}{ep:Nat}
theorem uy (tx ord):(Ō tx ord a b c).toList.Perm (b9 a b c).toList:=by
 cases tx
 ·exact YE _
 exact CS _ _
theorem pO (tx ord):(Ō tx ord a b c).size=(b9 a b c).size:=by
 have:=(uy (a:=a) (b:=b) (c:=c) tx ord).length_eq;simpa using this
theorem zK.at(x:zK w I S a b c ep i h)(e:∀b∈[I,S],∀o,h.get? b=YV o->h'.get? b=YV o):zK w I S a b c ep i h':={e I (by simp) _ x.1,e S (by simp) _ x.2}
theorem Fw(hh:A.handled=YW)(I:RB)(ne:S≠I):Walks prog w A I [I,S] [I] (b9 a b c).size (λi v=>(Ō (w.params.followText "set-order") (w.params.setOrder S ep) a b c)[i]?.map (·.2)=YV v) (λi h=>zK w I S a b c ep i h) where
 sub:=λb hb=>by simp at hb;simp[hb]
 frame:=λi h h' st k=>st.at k
 item:=λi s Q E hi st q=>by
  have lt:i<(Ō (w.params.followText "set-order") (w.params.setOrder S ep) a b c).size:=by rw[pO];exact hi
  refine GZ ne st (QT hi) (Qt lt) λh' ċ sb=>?_;exact q _ h' s.toks (by rw[Qt lt];rfl) ċ λb o hb e=>by rw[sb.2 b (λz=>hb (by rw[z];simp))];exact e
 done:=λs Q E st q=>Lb hh st (VM (by rw[pO];exact OW _)) λh' x=>q h' s.toks λb o hb e=>x b o (λz=>hb (by rw[z];simp)) e
 self:=λi s Q E st q=>by
  have ty:s.TypeIs (.ref I) "set_iterator":={_,st.1,rfl};refine Vc ty yv (SH yv ty De ?_ (DT _));exact RD {_,rfl,"set_iterator",_,ty,km.lookup,q}
theorem Ad:typeLookup (.type "set") "__len__"=pure (YV (.builtin "set.__len__")):=by rw[VO,Uq];kernel_rfl
theorem GO(ho:s.heap.get? S=YV (ÿ a b c ep (!w.params.followText "set-order")))(q:Q (.ref s.heap.objs.size) { s with heap:=s.heap.push (Ϡ 0 0 S (b9 a b c).size ep) }):wpAny (RK prog w) A (Yj (.ref S)) Q E s:=by
 have ty:s.TypeIs (.ref S) "set":={_,ho,rfl};refine Vc ty VX (SH VX ty A3 ?_ (PySem.F.args_set_iter_1 _));unfold Tu.«frozenset.__iter__»;refine RA (show wpAny _ _ (pure S) _ _ _ from RD ?_);refine RA (RA (UM ho rfl (fk ..) (RD ?_)));refine RA (RA (Ti ho rfl (fk ..) (RA (oY ?_))));refine RD ?_;have e:(!w.params.followText "set-order"&&false)=false:=Ro _;show wpAny _ _ (if(!w.params.followText "set-order"&&false)=true then _ else _) _ _ _;rw[e];simp only[PY,if_false];refine RA (RD (RA (RA (Ti ho rfl (fk ..) (RD ?_)))));refine RA (R7 (RD {_,rfl,"set_iterator",_,{_,RL _ rfl,rfl},km.lookup,q}))
theorem AW(hh:A.handled=YW)(ho:s.heap.get? S=YV (ÿ a b c ep (!w.params.followText "set-order")))
  (q:∀(s':RF)(acc:Array RC),s'.gens=s.gens->s'.drawn=s.drawn->s'.os=s.os->(∀b o,s.heap.get? b=YV o->s'.heap.get? b=YV o)->s.heap.objs.size<=s'.heap.objs.size->acc.toList=(Ō (w.params.followText "set-order") (w.params.setOrder S ep) a b c).toList.map (·.2)->Q acc.toList s'):wpAny (RK prog w) A (collect (.ref S)) Q E s:=by
 have lS:S<s.heap.objs.size:=RH ho
 unfold collect
 refine RA (YC (S0 PySem.F.entry_proto_collect ?_))
 rw[SI PySem.F.plain_proto_collect _]
 refine RA (m:=newList []) (R7 ?_)
 refine RD {TV Vz _,S0 PySem.F.entry_list_iadd ?_}
 rw[SI Vz _]
 show wpAny _ A.in1 (UP (.ref s.heap.objs.size) (.ref S) (.ref s.heap.objs.size)) _ _ _
 have h1:(s.heap.push { cls:=.type "list",data:=.seq ([]:List RC).toArray }).get? S=YV (ÿ a b c ep (!w.params.followText "set-order")):=RE _ ho
 have h0:(s.heap.push { cls:=.type "list",data:=.seq ([]:List RC).toArray }).get? s.heap.objs.size=YV { cls:=.type "list",data:=.seq ([]:List RC).toArray }:=RL _ rfl
 have z1:(s.heap.push { cls:=.type "list",data:=.seq ([]:List RC).toArray }).objs.size=s.heap.objs.size+1:=SR ..
 generalize hH:s.heap.push { cls:=.type "list",data:=.seq ([]:List RC).toArray }=H at h1 h0 z1⊢
 have ty:WE { s with heap:=H } (.ref S) "set":=⟨_,h1,rfl⟩
 unfold UP
 refine RA (Ug ty ?_)
 have k1:Vi (.ref s.heap.objs.size) (.ref S)=false:=by simp[Vi,P8 lS]
 have k2:(SX "set"==SX "list")=false:=∅
 have k3:(SX "set"==SX "tuple")=false:=∅
 simp only[k1,k2,k3,Bool.or_false,PY,if_false]
 refine RA (GO h1 ?_)
 have ĝ:=RE (Ϡ 0 0 S (b9 a b c).size ep) h1
 have ty':WE { s with heap:=H.push (Ϡ 0 0 S (b9 a b c).size ep) } (.ref S) "set":=⟨_,ĝ,rfl⟩
 refine RA (wpAny_holding ?_)
 unfold Builtin.List.listLengthHint
 refine RA (Yc ty' Ad ?_)
 wp_delta
 refine RA (Vx (b:=true) ty' (by rw[U3];kernel_rfl) ?_)
 show wpAny _ A.in1 (typeOf (RM S)>>=_) _ _ _
 refine RA (Ug ty' (RD ?_))
 show wpAny _ A.in1 (rule "list.extend.makes-room">>=λ_=>Builtin.List.listTouch (.ref s.heap.objs.size)>>=λ_=>again (.builtin "list.extend.loop" {[.ref s.heap.objs.size,.ref H.objs.size,.ref s.heap.objs.size],[]})) _ _ _
 refine RA (WX (RA ?_))
 have h0':=RE (Ϡ 0 0 S (b9 a b c).size ep) h0
 have hI:(H.push (Ϡ 0 0 S (b9 a b c).size ep)).get? H.objs.size=YV (Ϡ 0 0 S (b9 a b c).size ep):=RL _ rfl
 generalize hH2:H.push (Ϡ 0 0 S (b9 a b c).size ep)=H2 at h0' hI ĝ⊢
 show wpAny _ A.in1 (updateSeq s.heap.objs.size (·.push .none)>>=λ_=>updateSeq s.heap.objs.size (·.pop)) _ _ _
 refine RA (Ye h0' rfl ?_)
 have g2:=RR (TF (·.push RW)) h0' rfl
 refine Ye (hz:=by seq_fits) g2 rfl ?_
 have g3:=RR (TF (·.pop)) g2 rfl
 have ō:∀b o,b≠s.heap.objs.size->H2.get? b=YV o->((H2.update s.heap.objs.size (TF (·.push RW))).update s.heap.objs.size (TF (·.pop))).get? b=YV o:=λb o hb e=>(RI _ _ (Pm hb)).trans ((RI _ _ (Pm hb)).trans e)
 have nS:S≠s.heap.objs.size:=Ph lS
 have nI:H.objs.size≠s.heap.objs.size:=by rw[z1];exact Nat.succ_ne_self _
 have nSI:S≠H.objs.size:=by rw[z1];exact Ph (Qc lS)
 have e0:jT (w.params.followText "set-order") a b c 0=0:=by unfold jT;split<;>rfl
 have W:=Fw (prog:=prog) (w:=w) (A:=A.in1) (a:=a) (b:=b) (c:=c) (ep:=ep) (by simp[hh]) H.objs.size nSI
 refine RD {TV PySem.F.plain_extend_loop _,codeAny_extend_loopS W.toS (O6 (jr a b c) ∅) _ ?_ _ (b9 a b c).size 0 _ _ _ rfl (Pc _) {?_,ō _ _ nS ĝ} g3 (ItemsOf.nil _) λs' acc' c' mv hL Ļ=>?_}
 ·simp only[O4,Pw,or_false,not_or];exact⟨nI.symm,nS.symm⟩
 ·rw[e0];exact ō _ _ nI hI
 show wpAny _ A (load s.heap.objs.size>>=_) _ _ s'
 refine RA (WK hL (RD ?_))
 have old:∀b o,s.heap.get? b=YV o->s'.heap.get? b=YV o:=λb o e=>by
  have lt:=RH e;refine mv.heap b o (λm=>?_) (ō b o (Ph lt) (by rw[<-hH2,<-hH];exact RE _ (RE _ e)));simp only[O4,Pw,or_false]at m;rcases m with m|m
  ·exact absurd lt (by rw[m];exact PU _)
  rw[m,z1]at lt;exact absurd lt (Nat.not_lt.mpr (Qb _))
 refine q s' acc' mv.gens mv.drawn mv.os old ?_ ?_
 ·exact QT (RH hL)
 refine Rf λi=>?_
 rw[O7,Qk,Qk]
 cases e:acc'[i]? with
 |some v=>exact(Ļ.2 i v e).symm
 |none=>
  have:=Array.getElem?_eq_none_iff.mp e
  rw[VM (by rw[pO,<-Ļ.1];exact this)]
  rfl
theorem Dt(hh:A.handled=YW)(ho:s.heap.get? S=YV (ÿ a b c ep (!w.params.followText "set-order")))(hn:Va ((Ō (w.params.followText "set-order") (w.params.setOrder S ep) a b c).toList.map (·.2)) ns)
  (q:∀h' tk L e out ns',(∀b o,s.heap.get? b=YV o->h'.get? b=YV o)->s.heap.objs.size<=L->h'.get? L=YV (YU "list" out e)->Va out.toList ns'->ns'.Perm ns->ns'.Pairwise (· <= ·)->Q (.ref L) { s with heap:=h',toks:=tk }) :
  wpAny (RK prog w) A (call (.builtin "sorted") [.ref S]) Q E s:=by
 refine Calls.call_function_entry kind_sorted plain_sorted entry_sorted (args_sorted1 _) ?_
 unfold Tu.«sorted»
 refine RA (m:=checkCount "sorted" 1 1 _) (RD ?_)
 refine RA (AW (by simp[hh]) ho λs1 acc g1 g2 g3 old sz Ļ=>?_)
 obtain⟨h1,gn,dr,tk,os⟩:=s1
 obtain rfl:gn=s.gens:=g1
 obtain rfl:dr=s.drawn:=g2
 obtain rfl:os=s.os:=g3
 rw[Ļ]
 have l4:((Ō (w.params.followText "set-order") (w.params.setOrder S ep) a b c).toList.map (·.2)).length<64:=by
  have h3:=jr a b c;rw[OU,Qf,pO];lia
 generalize (Ō (w.params.followText "set-order") (w.params.setOrder S ep) a b c).toList.map (·.2)=vs at hn l4
 refine RA (wpAny_newList ?_)
 have hL:(h1.push (YU "list" vs.toArray 0)).get? h1.objs.size=YV (YU "list" vs.toArray 0):=RL _ rfl
 refine RA (wpAny_holding (SH slot_list_sort {_,hL,rfl} entry_list_sort (list_sort_tree hL hn l4 λout ns' a1 a2 a3=>{_,rfl,?_}) (args_list_sort _)))
 have lt:h1.objs.size<(h1.push (YU "list" vs.toArray 0)).objs.size:=RH hL
 obtain⟨e,he⟩:=sortedHeap_at (out:=out) hL
 refine RD {_,rfl,q (sortedHeap (h1.push (YU "list" vs.toArray 0)) h1.objs.size vs out) tk h1.objs.size e out ns' (λb o hb=>?_) sz he a1 a2 a3}
 have ď:=old b o hb
 have lb:=RH ď
 exact(sortedHeap_old (Ph lb) (Rq lb lt)).trans (RE _ ď)
end
theorem Paired.N4{α β:Type}{F}{x:α}{y:β}(h:F x y){a:List α}{b:List β}(r:Paired F a b):Paired F (a++[x]) (b++[y]):=r.snoc h
theorem cI{α:Type}{K a xs own fr g tf te Q B H1}(src:List α) (p) (R:α->V->Hp->Prop) (hx:À K H1 a xs) (hl:xs.length=src.length) (hn:xs.length<sizeLine)
  (he:∀(b:CB)(i:Nat)(x:V)(e:α)(v0:St)(H:Hp)(N:St->Hp->Prop)(Y:St->V->Hp->Prop),xs[i]?=YV x->src[i]?=YV e->v0.length=own->ak H1 H->
   (p e=false->∀v1 H',v1.length=own->ak H H'->N (v1++Ē fr B) H')->(p e=true->∀v1 y H',v1.length=own->ak H H'->R e y H'->Y (v1++Ē fr B) y H')->
   g b x (v0++Ē fr B) H λσ3 H3=>tf b σ3 H3 λk H4=>if k=true then te b σ3 H4 λy H5=>Y σ3 y H5 else N σ3 H4)
  (mono:∀e y H H',ak H H'->R e y H->R e y H') (st:∀e y H D ys zs,H D=YV (.lst ys)->R e y H->R e y (upd H D (.lst zs)))
  (fin:∀D H ys,H1 D=YW->ak H1 H->H D=YV (.lst ys)->Paired (λe y=>R e y H) (src.filter p) ys->Q (.ref D) H):qG (Φ K a) own fr g tf te Q B H1:=by
 refine⟨λb D hD=>?_⟩
 refine{λi m B' H'=>m=xs.length-i/\i<=xs.length/\(∃v0,B'=v0++Ē fr B/\v0.length=own)/\ak H1 H'/\∃ys,H' D=YV (.lst ys)/\ys.length<=i/\Paired (λe y=>R e y H') ((src.take i).filter p) ys,{xs.length,rfl,Pc _,⟨RT own YW,rfl,P7 ..⟩,ak.upd hD _,[],ao,OW _,.nil},?_}
 rintro i m B' H' ⟨rfl,hi,⟨v0,rfl,hv⟩,sm,ys,hL,hy,hR⟩
 by_cases Û:i<xs.length
 ·have hs:i<src.length:=()
  refine .inr {{xs,xs[i],sm.seq hx,OV Û},λσ2 H2=>(∃v0,σ2=v0++Ē fr B/\v0.length=own)/\ak H1 H2/\∃ys,H2 D=YV (.lst ys)/\ys.length<=i+1/\Paired (λe y=>R e y H2) ((src.take (i+1)).filter p) ys,λσ2 H2 q=>{xs.length-(i+1),(),rfl,Û,q},λv H2 y=>?_};obtain⟨rfl,y2⟩:=y;have e:=y2 xs (sm.seq hx);have tk:src.take (i+1)=src.take i++[src[i]]:=by rw[PB,OV hs];rfl
  refine he b i v src[i] v0 _ _ _ e (OV hs) hv sm (λpf v1 H3 h1 s3=>?_) (λpt v1 y H3 h1 s3 r3=>?_)
  ·refine{⟨v1,rfl,h1⟩,sm.trans s3,ys,s3 _ _ hL,(),?_};rw[tk,PZ,QA (by rw[pf];exact O3),QE,PH];exact Paired.gR hR λe y z=>mono _ _ _ _ s3 z
  have hD4:=s3 _ _ hL;refine{ys,hD4,(),⟨v1,rfl,h1⟩,?_,ys++[y],ao,by simp;lia,?_}
  ·intro c o q;by_cases hc:c=D
   ·rw[hc,hD]at q;cases q
   rw[ay hc];exact(sm.trans s3) c o q
  rw[tk,PZ,QY pt,QE];exact Paired.N4 (F:=λe y'=>R e y' (upd H3 D (.lst (ys++[y])))) (st _ _ _ _ _ _ hD4 r3) (Paired.gR hR λe y z=>st _ _ _ _ _ _ hD4 (mono _ _ _ _ s3 z))
 have e:i=xs.length:=()
 subst e
 rw[hl,Pk]at hR
 exact .inl {{xs,sm.seq hx,OW _},fin D H' ys hD sm hL hR}
theorem Fb{K a xs own fr g tf te Q B H1}(Pv:RB->Nat->List V->Hp->Prop)(hx:À K H1 a xs)(hn:xs.length<sizeLine)(h0:∀D,H1 D=YW->Pv D 0 [] (upd H1 D (.lst [])))
  (he:∀(b:CB)(D:RB)(i:Nat)(x:V)(v0:St)(H:Hp)(ys:List V)(N:St->Hp->Prop)(Y:St->V->Hp->Prop),xs[i]?=YV x->v0.length=own->H1 D=YW->ak H1 H->H D=YV (.lst ys)->Pv D i ys H->
   (∀v1 H',v1.length=own->ak H H'->Pv D (i+1) ys H'->N (v1++Ē fr B) H')->(∀v1 y H',v1.length=own->ak H H'->Pv D (i+1) (ys++[y]) (upd H' D (.lst (ys++[y])))->Y (v1++Ē fr B) y H')->
   g b x (v0++Ē fr B) H λσ3 H3=>tf b σ3 H3 λk H4=>if k=true then te b σ3 H4 λy H5=>Y σ3 y H5 else N σ3 H4)
  (fin:∀D H ys,H1 D=YW->ak H1 H->H D=YV (.lst ys)->Pv D xs.length ys H->Q (.ref D) H):qG (Φ K a) own fr g tf te Q B H1:=by
 refine⟨λb D hD=>?_⟩
 refine{λi m B' H'=>m=xs.length-i/\i<=xs.length/\(∃v0,B'=v0++Ē fr B/\v0.length=own)/\ak H1 H'/\∃ys,H' D=YV (.lst ys)/\ys.length<=i/\Pv D i ys H',{xs.length,rfl,Pc _,⟨RT own YW,rfl,P7 ..⟩,ak.upd hD _,[],ao,OW _,h0 D hD},?_}
 rintro i m B' H' ⟨rfl,hi,⟨v0,rfl,hv⟩,sm,ys,hL,hy,hR⟩
 by_cases Û:i<xs.length
 ·refine .inr {{xs,xs[i],sm.seq hx,OV Û},λσ2 H2=>(∃v0,σ2=v0++Ē fr B/\v0.length=own)/\ak H1 H2/\∃ys,H2 D=YV (.lst ys)/\ys.length<=i+1/\Pv D (i+1) ys H2,λσ2 H2 q=>{xs.length-(i+1),(),rfl,Û,q},λv H2 y=>?_};obtain⟨rfl,y2⟩:=y;have e:=y2 xs (sm.seq hx);refine he b D i v v0 _ ys _ _ e hv hD sm hL hR (λv1 H3 h1 s3 p3=>?_) (λv1 y H3 h1 s3 p3=>?_)
  ·exact{⟨v1,rfl,h1⟩,sm.trans s3,ys,s3 _ _ hL,(),p3}
  refine{ys,s3 _ _ hL,(),⟨v1,rfl,h1⟩,?_,ys++[y],ao,by simp;lia,p3};intro c o q;by_cases hc:c=D
  ·rw[hc,hD]at q;cases q
  rw[ay hc];exact(sm.trans s3) c o q
 have e:i=xs.length:=()
 subst e
 exact .inl {{xs,sm.seq hx,OW _},fin D H' ys hD sm hL hR}
def Ť(ns:List Int):List Int:=[0,1,2].filter λr=>decide (r∈ns)
theorem nZ:∀{l:List (Int×RC)},(∀e∈l,∃t,e.2=SW e.1 t)->Va (l.map (·.2)) (l.map (·.1))
 | [],_=>.nil
 | (n,v)::l,h=>by
  obtain⟨t,e⟩:=h (n,v) OX;have e:v=.int n t:=e;subst e;exact .cons _ _ (nZ λe he=>h e (O2 _ he))
theorem JL (a b c):(∀e∈(b9 a b c).toList,∃t,e.2=SW e.1 t):=by
 intro e he;cases a<;>cases b<;>cases c<;>simp[b9]at he<;>rcases he with rfl|rfl|rfl<;>exact{_,rfl}
theorem G4(ns:List Int)(r:Int):((RX ns.length).any λj=>decide (ns.getD j 0=r))=decide (r∈ns):=by
 rw[Qd,Qz,decide_eq_true_iff];constructor
 ·rintro⟨j,hj,e⟩;have hj:=Qv.mp hj;have e:=of_decide_eq_true e;rw[Pr,OV hj]at e;exact e▸Rk hj
 intro m;obtain⟨j,hj,e⟩:=Ws m;refine{j,Qv.mpr hj,decide_eq_true ?_};rw[Pr,OV hj];exact e
theorem MF(h:Ei (λi=>ns.getD i 0) ns.length a b c):(b9 a b c).toList.map (·.1)=Ť ns:=by
 obtain⟨h0,h1,h2⟩:=h;rw[G4]at h0 h1 h2;unfold Ť;simp only[Q4,QE,<-h0,<-h1,<-h2];cases a<;>cases b<;>cases c<;>rfl
theorem zZ (ns):(Ť ns).Pairwise (· <= ·):=List.Pairwise.filter _ ∅
theorem HG{a b:List Int}(p:a.Perm b)(h:a.Pairwise (· <= ·))(h':b.Pairwise (· <= ·)):a=b:=p.eq_of_pairwise (λ_ _ _ _ x y=>Int.le_antisymm x y) h h'
theorem vK:∀{ns:List Int}{us:List RC},Y1 (ns.map V.int) us->Va us ns
 | [],_,h=>by cases h;exact .nil
 |n::ns,_,h=>by
  cases h with
  |cons h r=>
   obtain⟨t,rfl⟩:=h;exact .cons _ _ (vK r)
section
variable{X:Cx}
def AG(K:RG)(t:TA):TE:=λB H Q=>t B H λxs H1=>∃(p:RB)(ns:List Int),xs=[.ref p]/\À K H1 p (ns.map V.int)/\(∀n∈ns,n=0\/n=1\/n=2)/\∀l,H1 l=YW->Q (.ref l) (upd H1 l (.lst ((Ť ns).map V.int)))
theorem wW(hm:X.mg "sorted"=YW)(hm':X.mg "set"=YW)(ha:PA X [e] t)(hc:X.calm=true:=by rfl)(hg:Gl X "sorted":=by rfl)(hg':Gl X "set":=by rfl)
  (he:RJ [.Call (.Name "set" p') [e] [] pos'] X.env=(false,Sj (.Call (.Name "set" p') [e] [] pos') X.env)::RJ [] X.env:=by rfl) (ê:(Sk pos (RJ [] X.env)).any (·.1)=false:=by rfl)
  (ő:RJ [e] X.env=(false,Sj e X.env)::RJ [] X.env:=by rfl) (hpl':(Sk pos' (RJ [] X.env)).any (·.1)=false:=by rfl):PE X (.Call (.Name "sorted" p) [.Call (.Name "set" p') [e] [] pos'] [] pos) (AG X.K t):=by
 intro pins s B H Q I h
 refine Sq (o5 I hg hm (by boot_by_name) ?_)
 refine Uu ?_ he ê
 rw[he]
 show wpAny _ _ (YQ ((false,Sj (.Call (.Name "set" p') [e] [] pos') X.env)::Sk pos (RJ [] X.env))) _ _ s
 refine T1 ?_
 refine Sq (o5 I hg' hm' (by boot_by_name) ?_)
 refine S3 (È (ha pos' pins s B H _ I h) λus s1 ⟨vs,H1,I1,r1,q1⟩=>?_) ő hpl'
 obtain⟨l,ns,rfl,hl,h3,q⟩:=q1
 obtain⟨u,rfl,rx⟩:=Y9 r1
 cases rx
 obtain⟨Á,rv,pl,hz⟩:=I1.list hl
 have el:=rv.length
 rw[OU]at el
 have hA:=I.ok.hd hc
 have iv:=vK rv
 refine yJ (val:=λi=>ns.getD i 0) hA pl.isList (λi v hi=>?_) (λi v hi=>?_) λh' tk x y z ep hS rk old=>?_
 ·rw[VY]at hi;obtain⟨n,t,e,en⟩:=iv.at i v hi;refine{t,?_};rw[e];show _=SW (ns.getD i 0) t;rw[Pr,en];rfl
 ·rw[VY]at hi;obtain⟨n,t,e,en⟩:=iv.at i v hi;have:=h3 n (OY en);rw[Pr,en];exact this
 have I2:Inv X pins B H1 { s1 with heap:=h',toks:=tk }:=I1.kept λb o e=>old b o (RH e) e
 show wpAny _ _ (YQ (Sk pos (RJ [] X.env))) _ _ _
 refine Uc ?_
 have sz:Á.toArray.size=ns.length:=by simp[el]
 rw[sz]at rk
 have hn:=nZ (l:=(Ō (X.w.params.followText "set-order") (X.w.params.setOrder s1.heap.objs.size ep) x y z).toList) (λe he=>JL x y z e ((List.Perm.mem_iff (uy _ _)).mp he))
 refine Dt hA hS hn λh2 tk2 L e2 out ns' old2 sL hL ia pm pw=>?_
 have en:ns'=Ť ns:=by
  refine HG ?_ pw (zZ ns);rw[<-MF rk];exact pm.trans (List.Perm.map _ (uy _ _))
 subst en
 have hf:H1 L=YW:=I2.Å.fresh sL
 refine{.ref L,upd H1 L (.lst ((Ť ns).map V.int)),I2.laid (t':=tk2) old2 sL ?_,rfl,q L hf}
 have l3:(Ť ns).length<=3:=PX _ _
 exact{by rw[OU];exact O6 l3 ∅,out.toList,e2,vT ia,by rw[V6];exact hL}
end
section
variable{prog:Program}{w:RS}{A:Sd}{E:RC->RF->Prop}{s:RF}
end
section
variable{X:Cx}{pins:List (RB×Obj)}{B:St}{H:Hp}{s:RF}
end
section
variable{X:Cx}{tg:Expr}
end
section
variable{P:Program}{w:RS}{K:RG}{mg:Str->Option RC}{base:R8}{k:Nat}{x:Str}{ps:List Str}{dvs:List V}{sp:Sp}
structure TopFnE(K:RG)(mg:Str->Option RC)(x:Str)(st:RY)(ps:List Str)(dvs:List V):Prop where
 ex:∃(f:RB)(oc:RC)(od:Option RB)(dV kV doc pm:RC)(an:Option RB)(Â ct:RC)(æ:Array (Option RC))(ds:List RC),K.lookup f=YV {oc,od,.func (SK x x (bg st) (aU st) (aq st) dV kV doc pm an Â ct),æ}/\Ue K Â x=true/\SG K (.ref f)=true/\mg x=YV (.ref f)/\Y1 dvs ds/\
  Y3 K (SK x x (bg st) (aU st) (aq st) dV kV doc pm an Â ct) ps []/\Y3 K (SK x x (bg st) (aU st) (aq st) dV kV doc pm an Â ct) ps ds/\JR K (SK x x (bg st) (aU st) (aq st) dV kV doc pm an Â ct) ps [ps.getLastD Su] gK gKV
end
def Iti(d:RB)(o:Obj)(kvs:List (Key×V)):It:=
 {λi H=>H d=YV (.ß o (.dK kvs))/\i<kvs.length,λi H x H'=>∃T k v,x=.ref T/\H T=YW/\H'=upd H T (.tup [kV k,v])/\kvs[i]?=YV (k,v),λi H=>H d=YV (.ß o (.dK kvs))/\kvs.length<=i}
section
variable{prog:Program}{w:RS}{A:Sd}{E:RC->RF->Prop}{s:RF}
theorem nK:Xj table "dict_itemiterator.__iter__"=YV Tu.«dict_keyiterator.__iter__»:=
 entryFor_alias (id':="dict_keyiterator.__iter__") (by kernel_rfl) rfl (by decide+kernel) (by kernel_rfl)
theorem rG{it d:RB}{i n ep:Nat}{ok ov:RC}{Q:RC->RF->Prop}(hit:IsItemIter s.heap it d i n ep ok ov)(h:Q (.ref it) s):wpAny (RK prog w) A (Yj (.ref it)) Q E s:=by
 have hT:s.TypeIs (.ref it) "dict_itemiterator":={_,hit,rfl};refine Vc hT UG (SH UG hT nK ?_ (F.args_dict_itemiterator_iter_1 _));show wpAny _ _ (ret (.ref it)) _ _ s;exact RD {_,rfl,"dict_itemiterator",_,hT,F.slot_dict_itemiterator_next.lookup,h}
end
section
variable{X:Cx}
theorem Ab{P:Program}{w:RS}{K:RG}{elts:List Expr}{x1}{pos:Pos}(d it:RB)(o:Obj)(kvs:List (Key×V))(vs:List (Key×RC))(ep:Nat)(rel:KV kvs vs)(Ŵ:∀h:R8,h.get? d=YV o->h.DictAt (aZ P w) d vs ep) :
  Zf P w K (.Tuple elts x1 pos) (Iti d o kvs) [it] it (λi h=>∃ok ov,IsItemIter h it d i vs.length ep ok ov) where
 mem:=by simp
 obj:=λi h st b hb=>by
  have e:b=it:=by simpa using hb
  subst e;obtain⟨ok,ov,e⟩:=st;exact⟨_,e,λv z=>by
   have z':XO _=Wf v:=z;cases z'⟩
 keep:=λi h h' st k=>by
  obtain⟨ok,ov,e⟩:=st;exact{ok,ov,k it (by simp) _ e}
 item:=by
  intro X hP hw hK hc i pins s B H E I hf st hg;subst hP hw hK;obtain⟨e,Û⟩:=hg;obtain⟨ok,ov,he⟩:=st;have hd:=(show bO X.prog X.w H s.heap d (.ß o (.dK kvs))from I.Å d _ e).1;have hl:=rel.length;have hT:=I.uC (H':=H) (OW s.heap.objs.size) (I.Å.fresh (OW _));have hTi:s.heap.objs.size≠it:=P8 (RH he);obtain⟨⟨k,v⟩,hx⟩:∃kv,vs[i]?=YV kv:={vs[i]'(()),OV ()};obtain⟨⟨k',v'⟩,ņ⟩:∃kv,kvs[i]?=YV kv:={kvs[i]'(()),OV ()};have hkk:k'=k:=by
   have:=congrArg (λl=>l[i]?) rel.keys;simp only[O7,hx,ņ]at this;simpa using this
  subst hkk;have rv:Y0 v' v:=(vq rel ņ hx).2;refine wpAny_pyNext_items_item he (Ŵ _ hd) hx λkey h' Ĩ ho hTo hsz hk=>?_;have I1:Inv X pins B H { s with heap:=h' }:=I.wF (t':=s.toks) (ch:=[it]) hf λb o hb q=>hk b o (λz=>hb (by simp[z])) q;have I2:=I1.Jk (u:=.tup [kV k',v']) hT I.sz {by show 2<=sizeLine;decide,[key,v],.cons (E5 Ĩ) (.cons rv .nil),{_,hTo,rfl,_,rfl}};refine⟨_,rfl,wpAny_letOwnedTupleGo_items (s:={ s with heap:=h' }) ho λh2 he2 Ķ=>?_⟩;have f0:=hf it (by simp);refine{.ref s.heap.objs.size,_,I2.turned (t':=s.toks) (it:=it) (λb o hb q=>(Ķ.2 b hb).trans q) (by rw[ay (Pm hTi)];exact f0.1) f0.2.1 f0.2.2.2.1 f0.2.2.2.2.1 f0.2.2.2.2.2,rfl,{_,k',v',rfl,hT.1,rfl,ņ},{_,_,he2},λb hb=>?_};have e:b=it:=by simpa using hb
  subst e;rw[ay (Pm hTi)];exact f0.1
 done:=by
  intro X hP hw hK hc i pins s B H E I hf st hg;subst hP hw hK;obtain⟨e,Û⟩:=hg;obtain⟨ok,ov,he⟩:=st;have hd:=(show bO X.prog X.w H s.heap d (.ß o (.dK kvs))from I.Å d _ e).1;have hl:=rel.length;obtain⟨f0,f1,f2,f3,f4,f5⟩:=hf it (by simp);exact wpAny_pyNext_items_end (I.ok.hd hc) he (Ŵ _ hd) (by simp;lia) λh' eb=>{rfl,I.turned (t':=s.toks) (λb o hb e=>eb b o hb e) f0 f1 f3 f4 f5}
 self:=λ_ _ _ _ _ st h=>by
  obtain⟨ok,ov,he⟩:=st;exact rG he h
def Jz(X:Cx)(tl:TE):TI:=λB H R=>tl B H λx H1=>∃d kvs,x=.ref d/\H1 d=YV (.dK kvs)/\∀o,R (Iti d o kvs) (upd H1 d (.ß o (.dK kvs)))
theorem Gd{x1}(ho:PE X l tl)(ã:Sx l "items" X.env (Sj l X.env)=Sj l X.env:=by rfl)(á:(apos.endLine==Ë.line)=true:=by rfl):PI X (.Tuple elts x1 pos2) (.Call (.Attribute l "items" apos) [] [] Ë) (Jz X tl):=by
 intro pins s B H R I h;refine Vs ã á (È (ho pins s B H _ I h) λv s1 z9=>?_);obtain⟨x,H1,I1,r1,q1⟩:=z9;obtain⟨d,kvs,e,hd,q⟩:=q1;subst e;have ty:tyV X.K "dict" (.ref d) H1:=Py (Py (OZ {rfl,OZ ⟨kvs,hd⟩}));obtain⟨h1,h2⟩:=zR I1 r1 ty;cases r1;obtain⟨z,hs,vs,rel,dd⟩:=vk I1.Å hd;obtain⟨ep,dat⟩:=dd.dictAt;obtain⟨o,es,ho,r⟩:=id dat;refine{"dict",_,T7,VA,PySem.F.type_dict_items,h1,h2,?_};refine S4 rfl (Wn ?_);refine VI VA dd.typeIs PySem.F.entry_dict_items (PySem.F.args_dict_items_1 _) (meets_dict_items (aZ X.prog X.w) d hs) {⟨vs,dd⟩,?_};refine wpAny_pyIter_items (kvs:=vs) (ep:=ep) (knd:=aZ X.prog X.w) {_,RL _ rfl,rfl,rfl} (p7 (H:=H1) (kvs:=kvs) dat ho (RE _ ho)) ?_;have I2:=I1.freeze hd (by rw[hd];exact PV) ho;have I3:=I2.kept (t':=s1.toks) (h':=s1.heap.push { cls:=.type "dict_items",data:=.fields #[.ref d] }) λb o e=>RE _ e;have I4:=I3.kept (t':=s1.toks) (h':=(s1.heap.push { cls:=.type "dict_items",data:=.fields #[.ref d] }).push { cls:=.type "dict_itemiterator",data:=.fields #[.none,.bool false,.ref d,.int 0 0,.int vs.length 0,.int ep 0,.none,.none] }) λb o e=>RE _ e;have lt:=RH ho;have sz:(s1.heap.push { cls:=.type "dict_items",data:=.fields #[.ref d] }).objs.size=s1.heap.objs.size+1:=by simp[Heap.push]
 have fr:upd H1 d (.ß o (.dK kvs)) (s1.heap.objs.size+1)=YW:=by
  rw[ay (P8 (Qc lt))];exact I1.Å.fresh (Qb _)
 refine{s1.heap.objs.size+1,[s1.heap.objs.size+1],_,_,_,by rw[sz],I4,Ab d _ o kvs vs ep rel (λh' h2=>p7 (H:=H1) (kvs:=kvs) dat ho h2),{.none,.none,?_},λb hb=>?_,q o}
 ·rw[<-sz];exact RL _ rfl
 have e:b=s1.heap.objs.size+1:=by simpa using hb
 subst e;exact I1.uC (Qb _) fr
end
theorem C3{d:RB}{o:Obj}{kvs:List (Key×V)}{g:TG}{tb:TS}{D:Zc}{B:St}{H:Hp}(Pv:Nat->St->Hp->Prop)(h0:Pv 0 B H)(hl:∀i B H,i<=kvs.length->Pv i B H->H d=YV (.ß o (.dK kvs)))
  (hs:∀i k v B H T,kvs[i]?=YV (k,v)->Pv i B H->H T=YW->g (.ref T) B (upd H T (.tup [kV k,v])) λσ2 H2=>tb { D with nx:=Pv (i+1),ct:=Pv (i+1),bk:=D.nx } σ2 H2) (hd:∀B H,Pv kvs.length B H->D.nx B H) :
  ∃W:Nat->Nat->St->Hp->Prop,(∃m,W 0 m B H)/\∀i m B H,W i m B H->
   ((Iti d o kvs).stop i H/\D.nx B H)\/((Iti d o kvs).go i H/\∃N,(∀B' H',N B' H'->∃m',m'<m/\W (i+1) m' B' H')/\∀x H',(Iti d o kvs).ń i H x H'->g x B H' λσ2 H2=>tb { D with nx:=N,ct:=N,bk:=D.nx } σ2 H2):=by
 refine{λi m B H=>m=kvs.length-i/\i<=kvs.length/\Pv i B H,{kvs.length,by simp,Pc _,h0},?_}
 rintro i m B H ⟨rfl,hi,p⟩
 have q:=hl i B H hi p
 by_cases Û:i<kvs.length
 ·refine .inr {⟨q,Û⟩,Pv (i+1),λB' H' p'=>{kvs.length-(i+1),(),rfl,Û,p'},λx H' y=>?_};obtain⟨T,k,v,rfl,hT,rfl,y⟩:=y;exact hs i k v B _ T y p hT
 have e:i=kvs.length:=()
 subst e
 exact .inl {{q,OW _},hd B H p}
end L2
namespace K67
open PySem L2
local macro_rules|`($a^ae)=>`(aa $a ae)
local macro_rules|`($a^$b^$c)=>`(aa $a ($b^$c))
theorem Í{N P:List Str}{sc:UT}(k:sc.kind=.function:=by rfl)(c:sc.isCoroutine=false:=by rfl)(g:sc.isGenerator=false:=by rfl)(n:N.Nodup:=by decide+kernel)(p:N.take P.length=P:=by rfl)(q:∀x∈P,sc.names.lookup x=YV .local\/sc.names.lookup x=YV .cell:=by decide+kernel)(f:∀y∈sc.names,y.2≠ .free:=by decide+kernel):aw N P sc:=⟨k,c,g,n,p,q,f⟩
theorem px{X:Cx}{a b:Expr}{ta tb:TE}{pos:Pos}(hu:X.A.units+64<S8)(ha:PE X a ta)(hb:PE X b tb)(hs:Bp b:=by exact λ_ _=>rfl):PE X (.Subscript a b pos) (tOp (HK X.K) ta tb):=MK (LU hu) ha hb hs
theorem Ò{X:Cx}{pos:Pos}{i:Nat}{x:Str}(hN:X.N.Nodup)(hi:X.N[i]?=YV x)(hx:Loc X.env.scope x:=by first|exact OZ rfl|exact Py rfl)(hf:X.fn x=true\/X.env.scope.names.lookup x=YV .local:=by first|exact .inl rfl|exact .inr rfl|assumption):PG X (.Name x pos) (qT i):=B8 hN hi hx hf
theorem É{X:Cx}(i:Nat){x:Str}{e:Expr}{te:TE}{pos pos':Pos}(hN:X.N.Nodup)(he:PE X e te)(hi:X.N[i]?=YV x:=by rfl)(hx:Loc X.env.scope x:=by first|exact OZ rfl|exact Py rfl)(hs:Vn e (YV (.Name x pos')) pos.line X.env=pure false:=by rfl)(hf:X.fn x=true\/X.env.scope.names.lookup x=YV .local:=by first|exact .inl rfl|exact .inr rfl|assumption):PS X (.Assign [.Name x pos'] e pos) (HM te (qT i)):=AU hN hi hx he hs hf
theorem Ó{X:Cx}{id:String}{r:List V->Hp->VK->Prop}{x:Str}{e:Expr}{es:List Expr}{t:TA}{p pos:Pos}(hc:cO X (.builtin id) r)(hm:X.mg x=YW)(ha:PA X (e::es) t)(hg:Gl X x:=by rfl)(hv:Tb x=YV (.builtin id):=by boot_by_name)(hn:x≠"__name__":=by decide)(ì:(x==("__debug__":Str))=false:=by decide)(he:RJ (e::es) X.env=(false,Sj e X.env)::RJ es X.env:=by rfl)(ê:(Sk pos (RJ es X.env)).any (·.1)=false:=by rfl):PE X (.Call (.Name x p) (e::es) [] pos) (tCB r t):=pS hc hg hm hv ha hn ì he ê
theorem Ď{X:Cx}{T:String}{r:List V->Hp->VK->Prop}{x:Str}{e:Expr}{es:List Expr}{t:TA}{p pos:Pos}(hc:cO X (.type T) r)(hm:X.mg x=YW)(ha:PA X (e::es) t)(hg:Gl X x:=by rfl)(hv:Tb x=YV (.type T):=by boot_by_name)(hn:x≠"__name__":=by decide)(ì:(x==("__debug__":Str))=false:=by decide)(he:RJ (e::es) X.env=(false,Sj e X.env)::RJ es X.env:=by rfl)(ê:(Sk pos (RJ es X.env)).any (·.1)=false:=by rfl):PE X (.Call (.Name x p) (e::es) [] pos) (tCB r t):=DF hc hg hm hv ha hn ì he ê
theorem Ö{X:Cx}{a b:Expr}{ta tb:TE}{pos:Pos}{op:CmpOp}{r:R2}(ho:Ñ X (RV op) r)(ha:PE X a ta)(hb:PE X b tb)(hm:TU op b=false:=by exact Gg _):PT X (.Compare a [op] [b] pos) (IU (tOp r ta tb)):=GI ho ha hb hm
theorem pec{X:Cx}{a b:Expr}{ta tb:TE}{pos:Pos}{op:CmpOp}{r:R2}(ho:Ñ X (RV op) r)(ha:PE X a ta)(hb:PE X b tb)(hm:TU op b=false:=by exact Gg _):PE X (.Compare a [op] [b] pos) (tOp r ta tb):=GH ho ha hb hm
abbrev A0:RY:=top 6
theorem Il:aw ["rank"] ["rank"] (aq A0):=Í
abbrev tE:RY:=top 7
theorem C7:aw ["one","other"] ["one","other"] (aq tE):=Í
abbrev FV:RY:=top 8
theorem LY:aw ["bits"] ["bits"] (aq FV):=Í
abbrev zV:RY:=top 9
theorem HJ:aw ["bits","rank"] ["bits","rank"] (aq zV):=Í
abbrev oU:RY:=top 11
theorem lZ:aw ["value","names","thing"] ["value"] (aq oU):=Í
abbrev mV:RY:=top 13
theorem kN:aw ["names","found","name"] ["names"] (aq mV):=Í
abbrev lV:RY:=top 30
theorem we:aw ["number"] ["number"] (aq lV):=Í
abbrev mC:RY:=top 31
theorem gM:aw ["rows","place","loop","found","row"] ["rows","place","loop"] (aq mC):=Í
abbrev jw:RY:=top 32
theorem mP:aw ["row","loop","here"] ["row","loop"] (aq jw):=Í
abbrev iM:RY:=top 33
theorem gq:aw ["program","found","deed"] ["program"] (aq iM):=Í
abbrev oZ:RY:=top 34
theorem y8:aw ["row"] ["row"] (aq oZ):=Í
abbrev jQ:RY:=top 35
theorem hG:aw ["heads","found","head"] ["heads"] (aq jQ):=Í
abbrev sQ:RY:=top 36
theorem gZ:aw ["program","found","deed","row","place","loop"] ["program"] (aq sQ):=Í
abbrev w8:RY:=top 37
theorem EJ:aw ["program"] ["program"] (aq w8):=Í
abbrev o9:RY:=top 39
theorem cQ:aw ["rows","known","steps","row","more"] ["rows","known"] (aq o9):=Í
abbrev iI:RY:=top 40
theorem rb:aw ["row","known"] ["row","known"] (aq iI):=Í
abbrev oP:RY:=top 41
theorem xT:aw ["steps"] ["steps"] (aq oP):=Í
abbrev jU:RY:=top 42
theorem iF:aw ["row","known","one","other"] ["row","known"] (aq jU):=Í
abbrev gj:RY:=top 43
theorem kr:aw ["row","known","steps"] ["row","known"] (aq gj):=Í
abbrev oB:RY:=top 44
theorem yO:aw ["row","known"] ["row","known"] (aq oB):=Í
abbrev tY:RY:=top 45
theorem qD:aw ["program","known","deed"] ["program"] (aq tY):=Í
abbrev xB:RY:=top 47
theorem FF:aw ["froms","into","kind","number"] ["froms","into","kind","number"] (aq xB):=Í
abbrev lX:RY:=top 48
theorem pe:aw ["row","place","loop","parts_of","here"] ["row","place","loop","parts_of"] (aq lX):=Í
abbrev kG:RY:=top 49
theorem nY:aw ["row","place","found"] ["row","place"] (aq kG):=Í
abbrev ig:RY:=top 50
theorem cY:aw ["row","place","parts","found","thing","part","into"] ["row","place","parts"] (aq ig):=Í
abbrev kU:RY:=top 51
theorem nN:aw ["row","known","here"] ["row","known"] (aq kU):=Í
abbrev wC:RY:=top 52
theorem iD:aw ["program","steps","parts_of","known","found","row","place","loop"] ["program","steps"] (aq wC):=Í
abbrev qJ:RY:=top 54
theorem AX:aw ["program"] ["program"] (aq qJ):=Í
abbrev kT:RY:=top 55
theorem uI:aw ["program","rank"] ["program","rank"] (aq kT):=Í
abbrev qF:RY:=top 56
theorem o8:aw ["program","steps","ways","link"] ["program","steps"] (aq qF):=Í
abbrev oW:RY:=top 57
theorem dy:aw ["ways","starts","came","waiting","at","here","link"] ["ways","starts"] (aq oW):=Í
abbrev wI:RY:=top 58
theorem mN:aw ["program","steps","ways","bits","rank","place"] ["program","steps"] (aq wI):=Í
abbrev kW:RY:=top 60
theorem jY:aw ["program","ranks","head"] ["program"] (aq kW):=Í
abbrev mW:RY:=top 65
theorem wK:aw ["thing"] ["thing"] (aq mW):=Í
abbrev qx:RY:=top 66
theorem AE:aw ["gift","size"] ["gift","size"] (aq qx):=Í
abbrev kS:RY:=top 67
theorem oa:aw ["given","gifts","gift"] ["given","gifts"] (aq kS):=Í
abbrev oJ:RY:=top 68
theorem yx:aw ["own"] ["own"] (aq oJ):=Í
abbrev i5:RY:=top 69
theorem jt:aw ["program","gifts","cells","head","deed","part"] ["program","gifts"] (aq i5):=Í
abbrev qm:RY:=top 76
theorem Al:aw ["program","cells"] ["program","cells"] (aq qm):=Í
abbrev EY:RY:=top 77
theorem Ah:aw ["program","gifts","state","book"] ["program","gifts"] (aq EY):=Í
abbrev iG:RY:=top 79
theorem k8:aw ["program","rank","one","other","head"] ["program","rank","one","other"] (aq iG):=Í
abbrev jy:RY:=top 80
theorem dq:aw ["program","rank","bits","common","number","place"] ["program","rank"] (aq jy):=Í
abbrev iK:RY:=top 81
theorem cu:aw ["program","rank","ranks","found","row","place","loop"] ["program","rank"] (aq iK):=Í
abbrev jI:RY:=top 82
theorem mr:aw ["trace","at","common"] ["trace","at","common"] (aq jI):=Í
abbrev oz:RY:=top 83
theorem xO:aw ["word","entries"] ["word","entries"] (aq oz):=Í
abbrev AF:RY:=top 84
theorem rR:aw ["program","rank","one","other","first","second","name"] ["program","rank","one","other"] (aq AF):=Í
abbrev tT:RY:=top 85
theorem dG:aw ["first","second","common","parting","pairs","left","right","here","there","number"] ["first","second","common","parting"] (aq tT):=Í
abbrev jD:RY:=top 87
theorem tO:aw ["_law_script","_law_k"] ["_law_script","_law_k"] (aq jD):=Í
abbrev qc:RY:=top 88
theorem oH:aw ["_law_cell","_law_way","_law_many","_law_number_here"] ["_law_cell","_law_way","_law_many"] (aq qc):=Í
abbrev oN:RY:=top 89
theorem dv:aw ["_law_cell","_law_k","_law_letters","_law_way","_law_words","_law_size","_law_at","_law_stem"] ["_law_cell","_law_k"] (aq oN):=Í
abbrev ky:RY:=top 90
theorem uE:aw ["_law_cell"] ["_law_cell"] (aq ky):=Í
abbrev mz:RY:=top 91
theorem bb:aw ["_law_script","_law_state","_law_names","_law_ranks","_law_size","_law_heads_here","_law_turn","_law_row","_law_name_here","_law_rank"] ["_law_script","_law_state"] (aq mz):=Í
abbrev oR:RY:=top 92
theorem cR:aw ["_law_script","_law_rows","_law_heads_here","_law_k","_law_hands","_law_numbers","_law_body","_law_cell","_law_name_here"] ["_law_script","_law_rows"] (aq oR):=Í
abbrev o6:RY:=top 93
theorem ju:aw ["_law_cell","_law_k","_law_size","_law_some","_law_j","_law_far"] ["_law_cell","_law_k","_law_size"] (aq o6):=Í
abbrev mJ:RY:=top 94
theorem gT:aw ["_law_rows","_law_cell","_law_more","_law_rank","_law_one","_law_other","_law_k"] ["_law_rows","_law_cell","_law_more","_law_rank"] (aq mJ):=Í
abbrev jG:RY:=top 95
theorem i8:aw ["_law_row","_law_gift_here","_law_cell","_law_bad","_law_some"] ["_law_row","_law_gift_here","_law_cell"] (aq jG):=Í
abbrev mh:RY:=top 96
theorem kZ:aw ["_law_row","_law_gift_here","_law_cell","_law_some","_law_at"] ["_law_row","_law_gift_here","_law_cell"] (aq mh):=Í
abbrev kK:RY:=top 97
theorem jP:aw ["_law_gifts_here","_law_turn","_law_number_here","_law_made","_law_name_here"] ["_law_gifts_here","_law_turn","_law_number_here"] (aq kK):=Í
abbrev je:RY:=top 98
theorem dz:aw ["_law_program","_law_rank","_law_one","_law_other","_law_caught","_law_found","e"] ["_law_program","_law_rank","_law_one","_law_other"] (aq je):=Í
abbrev uh:RY:=top 99
theorem dg:aw ["_law_script","_law_state","_law_rows","_law_program","_law_rank","_law_gifts_here","_law_due","_law_givens","_law_odd","_law_cell","_law_k","_law_row","_law_side"] ["_law_script"] (aq uh):=Í
abbrev kH:RY:=YY (top 14) 0
theorem yE:aw ["self","number"] ["self","number"] (aq kH):=Í
abbrev iq:RY:=YY (top 15) 0
theorem rD:aw ["self","number","name","rank"] ["self","number","name","rank"] (aq iq):=Í
abbrev gE:RY:=YY (top 16) 0
theorem qy:aw ["self","number","name","rank","size"] ["self","number","name","rank","size"] (aq gE):=Í
abbrev jL:RY:=YY (top 17) 0
theorem sF:aw ["self","number","name","size"] ["self","number","name","size"] (aq jL):=Í
abbrev jB:RY:=YY (top 18) 0
theorem sR:aw ["self","number","name","rank"] ["self","number","name","rank"] (aq jB):=Í
abbrev iP:RY:=YY (top 19) 2
theorem rC:aw ["self"] ["self"] (aq iP):=Í
abbrev ip:RY:=YY (top 20) 2
theorem rn:aw ["self"] ["self"] (aq ip):=Í
abbrev h9:RY:=YY (top 21) 0
theorem qY:aw ["self","number","name","value"] ["self","number","name","value"] (aq h9):=Í
abbrev gx:RY:=YY (top 21) 2
theorem qo:aw ["self"] ["self"] (aq gx):=Í
abbrev jS:RY:=YY (top 25) 2
theorem sy:aw ["self"] ["self"] (aq jS):=Í
abbrev gr:RY:=YY (top 26) 2
theorem qt:aw ["self"] ["self"] (aq gr):=Í
abbrev hJ:RY:=YY (top 27) 0
theorem rq:aw ["self","heads","deeds","main"] ["self","heads","deeds","main"] (aq hJ):=Í
abbrev mO:RY:=YY (top 62) 0
theorem xF:aw ["self"] ["self"] (aq mO):=Í
abbrev oX:RY:=YY (top 75) 0
theorem qQ:aw ["self","program","cells","deed"] ["self","program","cells"] (aq oX):=Í
abbrev gu:RY:=YY (top 75) 1
theorem pY:aw ["self","thing"] ["self","thing"] (aq gu):=Í
abbrev fM:RY:=YY (top 75) 2
theorem pU:aw ["self","value","behind","numbers"] ["self","value"] (aq fM):=Í
abbrev fg:RY:=YY (top 75) 3
theorem oQ:aw ["self","row"] ["self","row"] (aq fg):=Í
abbrev fw:RY:=YY (top 75) 4
theorem jq:aw ["self","count","book"] ["self","count"] (aq fw):=Í
abbrev jE:RY:=YY (top 75) 5
theorem eX:aw ["self","rows","ending","row"] ["self","rows"] (aq jE):=Í
abbrev kA:RY:=YY (top 75) 6
theorem jC:aw ["self","row","book","told"] ["self","row"] (aq kA):=Í
abbrev jN:RY:=YY (top 3) 0
theorem tX:aw ["self","name"] ["self","name"] (aq jN):=Í
abbrev gG:RY:=YY (top 4) 0
theorem qd:aw ["self","name"] ["self","name"] (aq gG):=Í
structure Ï where
 Row:RB
 cb:RB
 bq:RB
 cV:RB
 dh:RB
 d6:RB
 dw:RB
 bQ:RB
 fC:RB
 dI:RB
 gL:RB
 dM:RB
 bJ:RB
 Program:RB
 bL:RB
 Run:RB
 cJ:RB
 bC:RB
 aY:RB
structure Txt(K:RG)(mg:Str->Option RC)(A:Ï):Prop where
 only:aM K mg "only" A0 ["rank"]
 joined:aM K mg "joined" tE ["one","other"]
 top:aM K mg "top" FV ["bits"]
 fits:aM K mg "fits" zV ["bits","rank"]
 tL:aM K mg "names_in" oU ["value"]
 qB:aM K mg "each_once" mV ["names"]
 qz:aM K mg "row_place" lV ["number"]
 gX:aM K mg "laid_rows" mC ["rows","place","loop"]
 jg:aM K mg "laid_inside" jw ["row","loop"]
 kD:aM K mg "laid_program" iM ["program"]
 tG:aM K mg "is_place" oZ ["row"]
 mL:aM K mg "head_places" jQ ["heads"]
 places:aM K mg "places" sQ ["program"]
 under:aM K mg "under" w8 ["program"]
 dX:aM K mg "exact_of" o9 ["rows","known"]
 eJ:aM K mg "exact_of_row" iI ["row","known"]
 tW:aM K mg "one_more" oP ["steps"]
 jd:aM K mg "exact_of_if" jU ["row","known"]
 fP:aM K mg "exact_of_loop" gj ["row","known"]
 balanced:aM K mg "balanced" oB ["row","known"]
 zD:aM K mg "exacts" tY ["program"]
 drawn:aM K mg "drawn" xB ["froms","into","kind","number"]
 qb:aM K mg "row_links" lX ["row","place","loop","parts_of"]
 oq:aM K mg "said_links" kG ["row","place"]
 kE:aM K mg "called_links" ig ["row","place","parts"]
 oF:aM K mg "step_links" kU ["row","known"]
 links:oO K mg "links" wC ["program","steps"] [.bl false]
 sources:aM K mg "sources" qJ ["program"]
 ou:aM K mg "sources_of" kT ["program","rank"]
 xw:aM K mg "ways_of" qF ["program","steps"]
 tu:aM K mg "arrivals" oW ["ways","starts"]
 table:oO K mg "table" wI ["program","steps"] [.bl false]
 ow:aM K mg "ranks_told" kW ["program"]
 qh:aM K mg "is_number" mW ["thing"]
 wj:aM K mg "is_good" qx ["gift","size"]
 sM:aM K mg "given_cell" kS ["given","gifts"]
 ub:aM K mg "own_cell" oJ ["own"]
 yg:aM K mg "cells_of" i5 ["program","gifts"]
 xa:aM K mg "ends_of" qm ["program","cells"]
 run:aM K mg "run" EY ["program","gifts"]
 kI:aM K mg "unlike_given" iG ["program","rank","one","other"]
 mQ:aM K mg "common_rows" jy ["program","rank"]
 kz:aM K mg "parting_rows" iK ["program","rank"]
 mX:aM K mg "next_common" jI ["trace","at","common"]
 ur:aM K mg "pairs_of" oz ["word","entries"]
 walk:aM K mg "walk" AF ["program","rank","one","other"]
 walked:aM K mg "walked" tT ["first","second","common","parting"]
 nh:aM K mg "_law_cell_at" jD ["_law_script","_law_k"]
 wb:aM K mg "_law_mix" qc ["_law_cell","_law_way","_law_many"]
 sj:aM K mg "_law_name" oN ["_law_cell","_law_k"]
 oy:aM K mg "_law_number" ky ["_law_cell"]
 qw:aM K mg "_law_heads" mz ["_law_script","_law_state"]
 sv:aM K mg "_law_tree" oR ["_law_script","_law_rows"]
 uA:aM K mg "_law_gift" o6 ["_law_cell","_law_k","_law_size"]
 qk:aM K mg "_law_gifts" mJ ["_law_rows","_law_cell","_law_more","_law_rank"]
 lR:aM K mg "_law_spoiled" jG ["_law_row","_law_gift_here","_law_cell"]
 qC:aM K mg "_law_moved" mh ["_law_row","_law_gift_here","_law_cell"]
 oG:aM K mg "_law_turned" kK ["_law_gifts_here","_law_turn","_law_number_here"]
 ql:aM K mg "_law_asked" je ["_law_program","_law_rank","_law_one","_law_other"]
 BI:mg "all"=YW
 xi:mg "bool"=YW
 iW:mg "dict"=YW
 uW:mg "int"=YW
 av:mg "isinstance"=YW
 fY:mg "len"=YW
 eO:mg "list"=YW
 Cp:mg "max"=YW
 fj:mg "range"=YW
 A5:mg "set"=YW
 pd:mg "sorted"=YW
 vH:mg "str"=YW
 rH:mg "tuple"=YW
 zc:mg "zip"=YW
 rV:∃t,mg "CLOCK"=YV (.str "the clock" t)
 nW:∃t,mg "MOST_NUMBER"=YV (.int 999999999999 t)
 vL:d5 K mg A.Row "Row" [A.Row]
 sI:ý K A.Row "__init__" "Row.__init__" kH ["self","number"]
 d7:d5 K mg A.cb "HandRow" [A.cb,A.Row]
 ib:ý K A.cb "__init__" "HandRow.__init__" iq ["self","number","name","rank"]
 ic:aJ K A.cb "name"
 iZ:aJ K A.cb "rank"
 fG:aJ K A.cb "number"
 aR:d5 K mg A.bq "GivenRow" [A.bq,A.Row]
 gw:ý K A.bq "__init__" "GivenRow.__init__" gE ["self","number","name","rank","size"]
 ba:aJ K A.bq "name"
 dZ:aJ K A.bq "rank"
 cW:aJ K A.bq "size"
 eG:aJ K A.bq "number"
 cC:d5 K mg A.cV "OwnRow" [A.cV,A.Row]
 jX:ý K A.cV "__init__" "OwnRow.__init__" jL ["self","number","name","size"]
 cZ:aJ K A.cV "name"
 fS:aJ K A.cV "size"
 gD:aJ K A.cV "number"
 cG:d5 K mg A.dh "LetRow" [A.dh,A.Row]
 jW:ý K A.dh "__init__" "LetRow.__init__" jB ["self","number","name","rank"]
 dS:aJ K A.dh "name"
 fR:aJ K A.dh "rank"
 gB:aJ K A.dh "number"
 fX:d5 K mg A.d6 "SetRow" [A.d6,A.Row]
 iu:ý K A.d6 "reads" "SetRow.reads" iP ["self"]
 nO:aJ K A.d6 "name"
 mU:aJ K A.d6 "value"
 lF:aJ K A.d6 "number"
 eI:d5 K mg A.dw "PutRow" [A.dw,A.Row]
 iL:ý K A.dw "reads" "PutRow.reads" ip ["self"]
 oh:aJ K A.dw "name"
 mK:aJ K A.dw "place"
 mG:aJ K A.dw "value"
 lj:aJ K A.dw "number"
 bE:d5 K mg A.bQ "SendRow" [A.bQ,A.Row]
 iV:ý K A.bQ "__init__" "SendRow.__init__" h9 ["self","number","name","value"]
 gp:ý K A.bQ "reads" "SendRow.reads" gx ["self"]
 iN:aJ K A.bQ "name"
 d4:aJ K A.bQ "value"
 cK:aJ K A.bQ "number"
 bS:d5 K mg A.fC "SayRow" [A.fC,A.Row]
 jF:aJ K A.fC "name"
 oj:aJ K A.fC "mark"
 cv:aJ K A.fC "number"
 cM:d5 K mg A.dI "CallRow" [A.dI,A.Row]
 eM:aJ K A.dI "name"
 kx:aJ K A.dI "things"
 dF:aJ K A.dI "number"
 j7:d5 K mg A.gL "LastRow" [A.gL,A.Row]
 j3:aJ K A.gL "number"
 cf:d5 K mg A.dM "IfRow" [A.dM,A.Row]
 jH:ý K A.dM "reads" "IfRow.reads" jS ["self"]
 nT:aJ K A.dM "value"
 jv:aJ K A.dM "first"
 jz:aJ K A.dM "other"
 kL:aJ K A.dM "left"
 om:aJ K A.dM "right"
 mF:aJ K A.dM "number"
 br:d5 K mg A.bJ "LoopRow" [A.bJ,A.Row]
 gk:ý K A.bJ "reads" "LoopRow.reads" gr ["self"]
 lE:aJ K A.bJ "thing"
 mw:aJ K A.bJ "most"
 iy:aJ K A.bJ "body"
 lP:aJ K A.bJ "left"
 gy:aJ K A.bJ "right"
 ku:aJ K A.bJ "number"
 bu:d5 K mg A.Program "Program" [A.Program]
 i7:ý K A.Program "__init__" "Program.__init__" hJ ["self","heads","deeds","main"]
 bG:aJ K A.Program "heads"
 bH:aJ K A.Program "deeds"
 eE:aJ K A.Program "main"
 da:d5 K mg A.bL "Book" [A.bL]
 lO:ý K A.bL "__init__" "Book.__init__" mO ["self"]
 iJ:aJ K A.bL "letters"
 qP:aJ K A.bL "said"
 cA:aJ K A.bL "trace"
 eK:aJ K A.bL "steps"
 mH:aJ K A.bL "ends"
 gI:d5 K mg A.Run "Run" [A.Run]
 oM:ý K A.Run "__init__" "Run.__init__" oX ["self","program","cells"]
 gC:ý K A.Run "number_at" "Run.number_at" gu ["self","thing"]
 fO:ý K A.Run "number_for" "Run.number_for" fM ["self","value"]
 fe:ý K A.Run "number_told" "Run.number_told" fg ["self","row"]
 fE:ý K A.Run "pass_steps" "Run.pass_steps" fw ["self","count"]
 jJ:ý K A.Run "do_rows" "Run.do_rows" jE ["self","rows"]
 kB:ý K A.Run "do_row" "Run.do_row" kA ["self","row"]
 qU:aJ K A.Run "deeds"
 jk:aJ K A.Run "cells"
 h8:aJ K A.Run "book"
 pq:ä K A.cJ
 pX:mg "HushError"=YV (.ref A.cJ)
 bX:ä K A.bC
 qp:mg "NoGift"=YV (.ref A.bC)
 vD:nc K mg A.bC "NoGift" "NoGift.__init__" jN ["self","name"]
 fh:aJ K A.bC "name"
 cS:ä K A.aY
 qV:mg "NotAlike"=YV (.ref A.aY)
 qO:nc K mg A.aY "NotAlike" "NotAlike.__init__" gG ["self","name"]
 fF:aJ K A.aY "name"
 d8:OfC K A.Row "__init__"
 nd:[A.Row,A.cb,A.bq,A.cV,A.dh,A.d6,A.dw,A.bQ,A.fC,A.dI,A.gL,A.dM,A.bJ,A.Program,A.bL,A.Run].Nodup
 xJ:R0 K (.ref A.bC) (.ref A.aY)=YV false
 yj:R0 K (.ref A.aY) (.ref A.bC)=YV false
 yo:Wi K (.ref A.bC) (.ref A.cJ)=YV true
 Ci:Wi K (.ref A.aY) (.ref A.cJ)=YV true
section
variable{P:Program}{w:RS}{K:RG}{mg:Str->Option RC}{base:R8}{A:Ï}
theorem Ð{H:Hp}{p:RB}(h:H p=YW)(o:HO):ak H (upd H p o)/\upd H p o p=YV o:=⟨ak.upd h o,ao⟩
theorem JE:R0 K (.type "int") (.type "int")=YV true:=by kernel_rfl!
theorem Kh:R0 K (.type "int") (.type "bool")=YV false:=by kernel_rfl!
theorem Lj:R0 K (.type "int") (.type "list")=YV false:=by kernel_rfl!
theorem Lv:R0 K (.type "tuple") (.type "tuple")=YV true:=by kernel_rfl!
theorem J6:R0 K (.type "list") (.type "list")=YV true:=by kernel_rfl!
theorem JT:R0 K (.type "NoneType") (.type "bool")=YV false:=by kernel_rfl!
theorem KI:R0 K (.type "NoneType") (.type "int")=YV false:=by kernel_rfl!
theorem Jt:R0 K (.type "bool") (.type "bool")=YV true:=by kernel_rfl!
theorem Kz:R0 K (.type "str") (.type "bool")=YV false:=by kernel_rfl!
theorem JP:R0 K (.type "str") (.type "int")=YV false:=by kernel_rfl!
theorem KL:R0 K (.type "list") (.type "bool")=YV false:=by kernel_rfl!
theorem KQ:R0 K (.type "list") (.type "int")=YV false:=by kernel_rfl!
theorem JU:R0 K (.type "tuple") (.type "bool")=YV false:=by kernel_rfl!
theorem J0:R0 K (.type "tuple") (.type "int")=YV false:=by kernel_rfl!
theorem LP:R0 K (.type "NoneType") (.type "list")=YV false:=by kernel_rfl!
theorem LK:R0 K (.type "bool") (.type "list")=YV false:=by kernel_rfl!
theorem Ju:R0 K (.type "str") (.type "list")=YV false:=by kernel_rfl!
theorem Kb:R0 K (.type "tuple") (.type "list")=YV false:=by kernel_rfl!
theorem sz{n:Nat}(h:n<=1000):n<=sizeLine:=QT (aG h)
theorem bz(x:Int){m:Int}(hm:0<m):0<=x%m/\x%m<m:={Int.emod_nonneg x (show m≠0 by lia),Int.emod_lt_of_pos x hm}
theorem w9(i j:Int):decide (V.int i=V.int j)=decide (i=j):=decide_eq_decide.mpr {λh=>V.int.inj h,λh=>by rw[h]}
theorem OH(i j:Str):decide (V.str i=V.str j)=decide (i=j):=decide_eq_decide.mpr {λh=>V.str.inj h,λh=>by rw[h]}
theorem d9{α:Type}(xs:List α):xs.filter (λ_=>true)=xs:=List.filter_eq_self.mpr λ_ _=>rfl
theorem DH{a b:Int}(h0:-(2^64)<a)(h1:a<2^64):Df a b:=OZ ⟨h0,h1⟩
theorem ak.out{H0 H:Hp}(s:ak H0 H){x:RB}(h:H0 x=YW)(u:HO):ak H0 (upd H x u):=λa o q=>by
 rw[ay (λz=>by rw[z,h]at q;cases q)];exact s a o q
theorem aF{H:Hp}{x a:RB}{u o:HO}(n:a≠x)(e:H a=YV o):upd H x u a=YV o:=by rw[ay n];exact e
theorem YX{H:Hp}{x y:RB}{o:HO}(h:H x=YW)(e:H y=YV o):x≠y:=λz=>by rw[z,e]at h;cases h
def Ks(H0:Hp)(x:RB)(H:Hp):List (RB×HO)->Prop
 | []=>True
 |p::ks=>(H p.1=YV p.2/\p.1≠x/\H0 p.1=YW)/\Ks H0 x H ks
theorem Ks.imp{H0 H H':Hp}{x:RB}(f:∀a o,a≠x->H a=YV o->H' a=YV o):∀{ks:List (RB×HO)},Ks H0 x H ks->Ks H0 x H' ks
 | [],_=>trivial
 |_::_,⟨⟨h1,h2,h3⟩,t⟩=>{{f _ _ h2 h1,h2,h3},Ks.imp f t}
structure IA(K:RG)(H0:Hp)(x C dx:RB)(fs:List (Str×V))(m:Nat)(ks:List (RB×HO))(H:Hp):Prop where
 s:ak H0 H
 i:H x=YV (.ins C dx fs)
 k:Ks H0 x H ks
 x:H0 x=YW
 c:Ě K C
 l:fs.length<=m
theorem IA.one{H:Hp}{x C dx:RB}(hx:H x=YW)(hd:H dx=YW)(c:Ě K C):IA K H x C dx [] 0 [] (upd (upd H dx (.own x)) x (.ins C dx [])):={ak.out (ak.upd hd _) hx _,ao,trivial,hx,c,OW _}
section
variable{H0 H:Hp}{x C dx:RB}{fs:List (Str×V)}{m:Nat}{ks:List (RB×HO)}
theorem Cq(f:Str)(v:V):∀fs:List (Str×V),(bN f v fs).length<=fs.length+1
 | []=>OW _
 | (g,x)::r=>by
  unfold bN;split
  ·exact Qb _
  exact Rm (Cq f v r)
theorem IA.put(a:IA K H0 x C dx fs m ks H)(f:Str)(v:V):IA K H0 x C dx (bN f v fs) (m+1) ks (upd H x (.ins C dx (bN f v fs))):={ak.out a.s a.x _,ao,a.k.imp λ_ _ h e=>aF h e,a.x,a.c,O6 (Cq f v fs) (Rm a.l)}
theorem IA.fld{f:Str}{v:V}{Q:Hp->Prop}(a:IA K H0 x C dx fs m ks H)(n:aJ K C f)(k:∀H',IA K H0 x C dx (bN f v fs) (m+1) ks H'->Q H')(l:m<1000:=by decide):JA K f v (.ref x) H Q:={x,C,dx,fs,rfl,a.i,a.c,n,QV a.l l,k _ (a.put _ _)}
theorem IA.nw{n:RB}(a:IA K H0 x C dx fs m ks H)(hn:H n=YW)(o:HO):IA K H0 x C dx fs m ((n,o)::ks) (upd H n o):=
 have e:n≠x:=λz=>by rw[z,a.i]at hn;cases hn
 {a.s.trans (ak.upd hn _),aF e.symm a.i,{⟨ao,e,ak.free a.s hn⟩,a.k.imp λ_ _ _ h=>ak.upd hn _ _ _ h},a.x,a.c,a.l}
end
inductive jm(K:RG)(A:Ï)(vs:List V)(H:Hp)(Q:VK)(Ã:XK):Prop
 |mk(x C dx:RB)(fs:List (Str×V))(n:V):vs=[.ref x,n]->H x=YV (.ins C dx fs)->Ě K C->aJ K C "number"->fs.length<1000->Q .Ä (upd H x (.ins C dx (bN "number" n fs)))->jm K A vs H Q Ã
theorem uO{C:RB}(F:ý K C "__init__" "Row.__init__" kH ["self","number"]):uP P w K mg base 2 C "__init__" ["self","number"] (jm K A):=by
 refine F.hs (k:=1) yE (λf Â A' outer s H vs Q E hr hu h=>?_);obtain⟨x,C,dx,fs,n,rfl,hx,c,na,hl,q⟩:=h;exact{_,(aj (bW (fv 0) (fv 1) rfl)),⟨x,C,dx,fs,rfl,hx,c,na,hl,q⟩}
theorem iY(T:Txt K mg A):uP P w K mg base 2 A.Row "__init__" ["self","number"] (jm K A):=uO T.sI
theorem IA.row{H0 H:Hp}{x C dx:RB}{ks:List (RB×HO)}{v:V}{Q:VK}(a:IA K H0 x C dx [] 0 ks H)(n:aJ K C "number")(k:∀H',IA K H0 x C dx (bN "number" v []) 1 ks H'->Q .Ä H'):jm K A [.ref x,v] H Q E0:={x,C,dx,[],v,rfl,a.i,a.c,n,∅,k _ (a.put _ _)}
inductive lh(K:RG)(A:Ï)(vs:List V)(G:Hp)(R:VK)(Ã:XK):Prop
 |mk(x dx:RB)(v0 v1 v2:V)(H:Hp):vs=[.ref x,v0,v1,v2]->G=upd (upd H dx (.own x)) x (.ins A.cb dx [])->H x=YW->H dx=YW->(∀(H':Hp),ak H H'->H' x=YV (.ins A.cb dx [("number",v0),("name",v1),("rank",v2)])->R .Ä H')->lh K A vs G R Ã
theorem ue(T:Txt K mg A):T.ib.Hz P w mg base 3 (lh K A):=by
 refine T.ib.hs (k:=2) rD (λf Â A' outer s G vs R E hr hu h=>?_);obtain⟨x,dx,v0,v1,v2,H,rfl,rfl,hx,hd,q⟩:=h;refine⟨_,(af (aT (kj T.vL T.d8 (iY T) hr (fv 0^fv 1^ae)))
 (af (bW (fv 0) (fv 2) rfl)
 (aj (bW (fv 0) (fv 3) rfl)))),?_⟩
 exact(IA.one (C:=A.cb) hx hd T.d7.cl).row T.fG λH a=>a.fld T.ic λH a=>a.fld T.iZ λH a=>q _ a.s a.i
inductive j4(K:RG)(A:Ï)(vs:List V)(G:Hp)(R:VK)(Ã:XK):Prop
 |mk(x dx:RB)(v0 v1 v2 v3:V)(H:Hp):vs=[.ref x,v0,v1,v2,v3]->G=upd (upd H dx (.own x)) x (.ins A.bq dx [])->H x=YW->H dx=YW->(∀(H':Hp),ak H H'->H' x=YV (.ins A.bq dx [("number",v0),("name",v1),("rank",v2),("size",v3)])->R .Ä H')->j4 K A vs G R Ã
theorem rh(T:Txt K mg A):T.gw.Hz P w mg base 3 (j4 K A):=by
 refine T.gw.hs (k:=2) qy (λf Â A' outer s G vs R E hr hu h=>?_);obtain⟨x,dx,v0,v1,v2,v3,H,rfl,rfl,hx,hd,q⟩:=h;refine⟨_,(af (aT (kj T.vL T.d8 (iY T) hr (fv 0^fv 1^ae)))
 (af (bW (fv 0) (fv 2) rfl)
 (af (bW (fv 0) (fv 3) rfl)
 (aj (bW (fv 0) (fv 4) rfl))))),?_⟩
 exact(IA.one (C:=A.bq) hx hd T.aR.cl).row T.eG λH a=>a.fld T.ba λH a=>a.fld T.dZ λH a=>a.fld T.cW λH a=>q _ a.s a.i
inductive mT(K:RG)(A:Ï)(vs:List V)(G:Hp)(R:VK)(Ã:XK):Prop
 |mk(x dx:RB)(v0 v1 v2:V)(H:Hp):vs=[.ref x,v0,v1,v2]->G=upd (upd H dx (.own x)) x (.ins A.cV dx [])->H x=YW->H dx=YW->(∀(H':Hp),ak H H'->H' x=YV (.ins A.cV dx [("number",v0),("name",v1),("size",v2)])->R .Ä H')->mT K A vs G R Ã
theorem uQ(T:Txt K mg A):T.jX.Hz P w mg base 3 (mT K A):=by
 refine T.jX.hs (k:=2) sF (λf Â A' outer s G vs R E hr hu h=>?_);obtain⟨x,dx,v0,v1,v2,H,rfl,rfl,hx,hd,q⟩:=h;refine⟨_,(af (aT (kj T.vL T.d8 (iY T) hr (fv 0^fv 1^ae)))
 (af (bW (fv 0) (fv 2) rfl)
 (aj (bW (fv 0) (fv 3) rfl)))),?_⟩
 exact(IA.one (C:=A.cV) hx hd T.cC.cl).row T.gD λH a=>a.fld T.cZ λH a=>a.fld T.fS λH a=>q _ a.s a.i
inductive lW(K:RG)(A:Ï)(vs:List V)(G:Hp)(R:VK)(Ã:XK):Prop
 |mk(x dx:RB)(v0 v1 v2:V)(H:Hp):vs=[.ref x,v0,v1,v2]->G=upd (upd H dx (.own x)) x (.ins A.dh dx [])->H x=YW->H dx=YW->(∀(H':Hp),ak H H'->H' x=YV (.ins A.dh dx [("number",v0),("name",v1),("rank",v2)])->R .Ä H')->lW K A vs G R Ã
theorem uM(T:Txt K mg A):T.jW.Hz P w mg base 3 (lW K A):=by
 refine T.jW.hs (k:=2) sR (λf Â A' outer s G vs R E hr hu h=>?_);obtain⟨x,dx,v0,v1,v2,H,rfl,rfl,hx,hd,q⟩:=h;refine⟨_,(af (aT (kj T.vL T.d8 (iY T) hr (fv 0^fv 1^ae)))
 (af (bW (fv 0) (fv 2) rfl)
 (aj (bW (fv 0) (fv 3) rfl)))),?_⟩
 exact(IA.one (C:=A.dh) hx hd T.cG.cl).row T.gB λH a=>a.fld T.dS λH a=>a.fld T.fR λH a=>q _ a.s a.i
inductive lC(K:RG)(A:Ï)(vs:List V)(G:Hp)(R:VK)(Ã:XK):Prop
 |mk(x dx:RB)(v0 v1 v2:V)(H:Hp):vs=[.ref x,v0,v1,v2]->G=upd (upd H dx (.own x)) x (.ins A.bQ dx [])->H x=YW->H dx=YW->(∀(H':Hp),ak H H'->H' x=YV (.ins A.bQ dx [("number",v0),("name",v1),("value",v2)])->R .Ä H')->lC K A vs G R Ã
theorem sY(T:Txt K mg A):T.iV.Hz P w mg base 3 (lC K A):=by
 refine T.iV.hs (k:=2) qY (λf Â A' outer s G vs R E hr hu h=>?_);obtain⟨x,dx,v0,v1,v2,H,rfl,rfl,hx,hd,q⟩:=h;refine⟨_,(af (aT (kj T.vL T.d8 (iY T) hr (fv 0^fv 1^ae)))
 (af (bW (fv 0) (fv 2) rfl)
 (aj (bW (fv 0) (fv 3) rfl)))),?_⟩
 exact(IA.one (C:=A.bQ) hx hd T.bE.cl).row T.cK λH a=>a.fld T.iN λH a=>a.fld T.d4 λH a=>q _ a.s a.i
inductive k9(K:RG)(A:Ï)(vs:List V)(G:Hp)(R:VK)(Ã:XK):Prop
 |mk(x dx:RB)(t0 t1 t2:RB)(l0 l1 l2:List V)(H:Hp):vs=[.ref x,.ref t0,.ref t1,.ref t2]->G=upd (upd H dx (.own x)) x (.ins A.Program dx [])->H x=YW->H dx=YW->À K H t0 l0->À K H t1 l1->À K H t2 l2->(∀(n0 n1 n2:RB)(H':Hp),H n0=YW->H n1=YW->H n2=YW->ak H H'->H' n0=YV (.lst l0)->H' n1=YV (.lst l1)->H' n2=YV (.lst l2)->H' x=YV (.ins A.Program dx [("heads",.ref n0),("deeds",.ref n1),("main",.ref n2)])->R .Ä H')->k9 K A vs G R Ã
theorem tS(T:Txt K mg A):T.i7.Hz P w mg base 3 (k9 K A):=by
 refine T.i7.hs (k:=2) rq (λf Â A' outer s G vs R E hr hu h=>?_);obtain⟨x,dx,t0,t1,t2,l0,l1,l2,H,rfl,rfl,hx,hd,s0,s1,s2,q⟩:=h;refine⟨_,(af (bW (fv 0) (Ď xn T.eO (fv 1^ae)) rfl)
 (af (bW (fv 0) (Ď xn T.eO (fv 2^ae)) rfl)
 (aj (bW (fv 0) (Ď xn T.eO (fv 3^ae)) rfl)))),?_⟩
 have a:=IA.one (C:=A.Program) hx hd T.bu.cl;refine{_,l0,rfl,.inl (a.s.seq s0),λn0 f=>?_};replace a:=a.nw f (.lst l0);refine a.fld T.bG λH a=>{_,l1,rfl,.inl (a.s.seq s1),λn1 f=>?_};replace a:=a.nw f (.lst l1);refine a.fld T.bH λH a=>{_,l2,rfl,.inl (a.s.seq s2),λn2 f=>?_};replace a:=a.nw f (.lst l2);exact a.fld T.eE λH a=>q n0 n1 n2 _ a.k.2.2.1.2.2 a.k.2.1.2.2 a.k.1.2.2 a.s a.k.2.2.1.1 a.k.2.1.1 a.k.1.1 a.i
end
section
variable{P:Program}{w:RS}{K:RG}{mg:Str->Option RC}{base:R8}{A:Ï}{N:Nat->Str}
theorem ah{t u:TS}{D:Zc}{B:St}{H:Hp}(h:∀N:St->Hp->Prop,(∀B H,u D B H->N B H)->t { D with nx:=N } B H):Mb t u D B H:=h (u D) λ_ _ z=>z
theorem bR{α β:Type}{F:α->β->Prop}:∀{l₁:List α}{l₂:List β}{i:Nat}{a:α},Paired F l₁ l₂->l₁[i]?=YV a->∃b,l₂[i]?=YV b/\F a b
 |_,_,_,_,.nil,h=>by cases h
 |_,_,0,_,.cons h _,e=>by cases e;exact{_,rfl,h}
 |_,_,i+1,_,.cons _ r,e=>by
  have:∃b,_:=bR (i:=i) r e;exact this
theorem cx{α β:Type}{F:α->β->Prop}:∀{l₁:List α}{l₂:List β}{i:Nat}{b:β},Paired F l₁ l₂->l₂[i]?=YV b->∃a,l₁[i]?=YV a/\F a b
 |_,_,_,_,.nil,h=>by cases h
 |_,_,0,_,.cons h _,e=>by cases e;exact{_,rfl,h}
 |_,_,i+1,_,.cons _ r,e=>by
  have:∃a,_:=cx (i:=i) r e;exact this
theorem gY{α β:Type}(f:β->α->β)(b:β){xs:List α}{i:Nat}{x:α}(h:xs[i]?=YV x):(xs.take (i+1)).foldl f b=f ((xs.take i).foldl f b) x:=by
 rw[PB,h,Xk];rfl
abbrev cls(A:Ï):List RB:=[A.Row,A.cb,A.bq,A.cV,A.dh,A.d6,A.dw,A.bQ,A.fC,A.dI,A.gL,A.dM,A.bJ,A.Program,A.bL,A.Run]
theorem Aw(T:Txt K mg A)(i j:Nat)(hi:i<16:=by decide)(hj:j<16:=by decide)(h:i≠j:=by decide):(cls A)[i]'hi≠(cls A)[j]'hj:=λe=>h ((Rh T.nd).mp e)
theorem OF{C:RB}{x:Str}{up:List RB}(O:d5 K mg C x up)(hs:C∈up:=by exact OX):R0 K (.ref C) (.ref C)=YV true:=by
 rw[O.kit O hs,decide_eq_true hs]
theorem N2{C D R:RB}{x y:Str}{vp:List RB}(O:d5 K mg C x [C,R])(Ĳ:d5 K mg D y vp)(h1:D≠C)(h2:D≠R):R0 K (.ref C) (.ref D)=YV false:=by
 rw[O.kit Ĳ OX,decide_eq_false];intro m;rcases O4.mp m with e|m
 ·exact h1 e
 rcases O4.mp m with e|m
 ·exact h2 e
 cases m
theorem lt4:∀i,i<4->i=0\/i=1\/i=2\/i=3:=∅
theorem lt7:∀i,i<7->i=0\/i=1\/i=2\/i=3\/i=4\/i=5\/i=6:=∅
def sk(ks:List Key)(f:Key->V):List (Key×V):=ks.map λk=>(k,f k)
theorem AN{f:Key->V}{k:Key}:∀{ks:List Key},k∈ks->L2.bx (sk ks f) k=YV (f k)
 |j::r,m=>by
  by_cases e:j=k
  ·subst e;exact cL rfl
  refine(cy (r:=sk r f) e).trans (AN ?_);rcases O4.mp m with z|z
  ·exact absurd z.symm e
  exact z
theorem Jo{f:Key->V}{k:Key}:∀{ks:List Key},k∉ks->L2.bx (sk ks f) k=YW
 | [],_=>rfl
 |j::r,m=>by
  have e:¬ j=k:=λe=>m (by rw[e];exact OX);exact(cy (p:=(j,f j)) (r:=sk r f) e).trans (Jo λz=>m (O2 _ z))
instance memK(k:Key)(ks:List Key):Decidable (k∈ks):=decidable_of_iff ((ks.any λj=>decide (j=k))=true) (by
 rw[Qz];exact{λ⟨j,m,e⟩=>of_decide_eq_true e▸m,λm=>⟨k,m,decide_eq_true rfl⟩})
theorem Nu{f:Key->V}(k:Key)(ks:List Key):(L2.bx (sk ks f) k).isSome=decide (k∈ks):=by
 by_cases m:k∈ks
 ·rw[AN m,decide_eq_true m];rfl
 rw[Jo m,decide_eq_false m];rfl
def uH(f:Key->V)(k:Key)(v:V):Key->V:=λj=>if j=k then v else f j
def pk(ks:List Key)(k:Key):List Key:=if k∈ks then ks else ks++[k]
theorem Fi{f g:Key->V}{ks:List Key}(h:∀k∈ks,f k=g k):sk ks f=sk ks g:=Qo λk hk=>by rw[h k hk]
theorem FT{f:Key->V}{k:Key}{v:V}{ks:List Key}:Y2 (sk ks f) k v=sk (pk ks k) (uH f k v):=by
 unfold Y2 pk;rw[iO,Nu];by_cases m:k∈ks
 ·rw[if_pos (decide_eq_true m),if_pos m];unfold sk;rw[P6];refine Qo λj _=>?_;show(if j=k then(j,v)else(j,f j))=(j,uH f k v j);unfold uH;split<;>rfl
 rw[if_neg (by rw[decide_eq_false m];exact O3),if_neg m];unfold sk;rw[PM];show _=_++[(k,uH f k v k)];rw[show uH f k v k=v from if_pos rfl];congr 1;refine Qo λj hj=>?_;show(j,f j)=(j,uH f k v j);rw[show uH f k v j=f j from if_neg λ(e:j=k)=>m (e▸hj)]
theorem Io{f:Key->V}{k:Key}{ks:List Key}:Y2 (sk ks f) k (f k)=sk (pk ks k) f:=by
 rw[FT];refine Fi λj _=>?_;unfold uH;split
 ·next e=>rw[e]
 rfl
def zk(ks:List Key):List Key:=ks.foldl pk []
theorem xU(f:Key->V):∀(ks acc:List Key),bf (sk acc f) (sk ks f)=sk (ks.foldl pk acc) f
 | [],acc=>rfl
 |k::ks,acc=>by
  show bf (Y2 (sk acc f) k (f k)) (sk ks f)=_;rw[Io];exact xU f ks (pk acc k)
theorem Ac(f:Key->V)(ks:List Key):(sk ks f).length=ks.length:=OU _
theorem HL{ks:List Key}{k j:Key}:j∈pk ks k↔j=k\/j∈ks:=by
 unfold pk;split
 ·next m=>exact{.inr,λh=>h.elim (λe=>e▸m) id}
 rw[Pa,OT];exact or_comm
theorem IJ(ks:List Key)(k:Key):(pk ks k).length<=ks.length+1:=by
 unfold pk;split
 ·lia
 simp
theorem xY{j:Key}:∀(ks acc:List Key),j∈ks.foldl pk acc↔j∈ks\/j∈acc
 | [],acc=>by simp
 |k::ks,acc=>by
  rw[QD,xY ks,HL,O4];constructor
  ·rintro(h|h|h)
   ·exact .inl (.inr h)
   ·exact .inl (.inl h)
   exact .inr h
  rintro((h|h)|h)
  ·exact .inr (.inl h)
  ·exact .inl h
  exact .inr (.inr h)
theorem zp{j:Key}{ks:List Key}:j∈zk ks↔j∈ks:=by
 unfold zk;rw[xY];simp
theorem yH:∀(ks acc:List Key),(ks.foldl pk acc).length<=ks.length+acc.length
 | [],acc=>by simp
 |k::ks,acc=>by
  have h1:=yH ks (pk acc k);have h2:=IJ acc k;rw[QD,Pf];lia
theorem DP(ks:List Key):(zk ks).length<=ks.length:=by
 have:=yH ks [];unfold zk;simpa using this
theorem ux(kvs:List (Key×V))(k:Key)(v:V):(Y2 kvs k v).length<=kvs.length+1:=by
 unfold Y2;split
 ·rw[OU];lia
 simp
def Ğ(A:Ï)(i:Nat):RB:=(cls A).getD i 0
theorem FZ(T:Txt K mg A){i j:Nat}(hi:i<16)(hj:j<16)(h:i≠j):Ğ A i≠Ğ A j:=by
 unfold Ğ;rw[Pr,Pr,OV (show i<(cls A).length from hi),OV (show j<(cls A).length from hj)];exact Aw T i j hi hj h
theorem wy(T:Txt K mg A)(i:Nat)(h:i<13)(h0:0<i):∃x,d5 K mg (Ğ A i) x [Ğ A i,A.Row]:=by
 match i,h,h0 with
 |1,_,_=>exact{_,T.d7}
 |2,_,_=>exact{_,T.aR}
 |3,_,_=>exact{_,T.cC}
 |4,_,_=>exact{_,T.cG}
 |5,_,_=>exact{_,T.fX}
 |6,_,_=>exact{_,T.eI}
 |7,_,_=>exact{_,T.bE}
 |8,_,_=>exact{_,T.bS}
 |9,_,_=>exact{_,T.cM}
 |10,_,_=>exact{_,T.j7}
 |11,_,_=>exact{_,T.cf}
 |12,_,_=>exact{_,T.br}
theorem Gw(T:Txt K mg A)(i j:Nat)(hi:i<13)(hj:j<13)(i0:0<i)(j0:0<j):R0 K (.ref (Ğ A i)) (.ref (Ğ A j))=YV (decide (i=j)):=by
 obtain⟨x,O⟩:=wy T i hi i0;obtain⟨y,Ĳ⟩:=wy T j hj j0;by_cases e:i=j
 ·subst e;rw[decide_eq_true rfl];exact OF O
 rw[decide_eq_false e];exact N2 O Ĳ (FZ T () () (λz=>e z.symm)) (FZ T (j:=0) () () ())
seal PE PA PS ü PT PW
inductive Th where
 |i (n:Int)|x (a:Nat)
inductive Val where
 |one (a:Th)|op (a:Th) (w:Str) (b:Th)
def Th.v(N:Nat->Str):Th->V
 | .i n=>.int n
 | .x a=>.str (N a)
def vV(N:Nat->Str):Val->List V
 | .one a=>[a.v N]
 | .op a w b=>[a.v N,.str w,b.v N]
inductive Lr where
 |hand (i:Nat) (r:Int)|Ç (i:Nat) (r z:Int)|own (i:Nat) (z:Int)|lt (i:Nat) (r:Int)
 |set (x:Nat) (v:Val)|put (x:Nat) (p:Th) (v:Val)|snd (h:Nat) (v:Val)|say (x:Nat) (v:Val) (m:Nat)
 |call (i:Nat) (ts:List Th)|last
def Lr.ci:Lr->Nat
 | .hand _ _=>1| .Ç _ _ _=>2| .own _ _=>3| .lt _ _=>4| .set _ _=>5| .put _ _ _=>6| .snd _ _=>7| .say _ _ _=>8
 | .call _ _=>9| .last=>10
abbrev nV(N:Nat->Str)(ns:List Nat):List V:=ns.map λi=>V.str (N i)
def Lr.fs(N:Nat->Str)(p:RB):Lr->List (Str×V)
 | .hand i r=>[("name",.str (N i)),("rank",.int r)]
 | .Ç i r z=>[("name",.str (N i)),("rank",.int r),("size",.int z)]
 | .own i z=>[("name",.str (N i)),("size",.int z)]
 | .lt i r=>[("name",.str (N i)),("rank",.int r)]
 | .set x _=>[("name",.str (N x)),("value",.ref p)]
 | .put x t _=>[("name",.str (N x)),("place",t.v N),("value",.ref p)]
 | .snd h _=>[("name",.str (N h)),("value",.ref p)]
 | .say x _ m=>[("name",.str (N x)),("value",.ref p),("mark",.str (N m))]
 | .call i _=>[("name",.str (N i)),("things",.ref p)]
 | .last=>[]
def Lr.ob(N:Nat->Str):Lr->Option HO
 | .set _ v=>YV (.tup (vV N v))
 | .put _ _ v=>YV (.tup (vV N v))
 | .snd _ v=>YV (.tup (vV N v))
 | .say _ v _=>YV (.tup (vV N v))
 | .call _ ts=>YV (.lst (ts.map (Th.v N)))
 |_=>YW
inductive Pt where
 |leaf (n:Int) (r:Lr)
 |iff (n:Int) (v:Val) (l r:Int) (f o:List Pt)
 |loop (n:Int) (t:Th) (m l r:Int) (b:List Pt)
 |dU (n:Int) (i:Nat) (ps:List Nat) (b:List Pt)
def Pt.no:Pt->Int
 | .leaf n _=>n
 | .iff n _ _ _ _ _=>n
 | .loop n _ _ _ _ _=>n
 | .dU n _ _ _=>n
def Pt.ci:Pt->Nat
 | .leaf _ r=>r.ci
 | .iff _ _ _ _ _ _=>11
 | .loop _ _ _ _ _ _=>12
 | .dU _ _ _ _=>13
def NS(A:Ï)(N:Nat->Str)(X:Hp)(v:V)(n:Int)(r:Lr):Prop:=∃a dx p,v=.ref a/\X a=YV (.ins (Ğ A r.ci) dx (("number",.int n)::r.fs N p))/\∀o,r.ob N=YV o->X p=YV o
mutual
noncomputable def aS(A:Ï)(N:Nat->Str)(X:Hp):V->Pt->Prop
 |v,.leaf n r=>NS A N X v n r
 |v,.iff n val l r f o=>∃a dx p pf po xf xo,v=.ref a/\X a=YV (.ins A.dM dx [("number",.int n),("value",.ref p),("first",.ref pf),("other",.ref po),("left",.int l),("right",.int r)])/\X p=YV (.tup (vV N val))/\X pf=YV (.lst xf)/\X po=YV (.lst xo)/\a8 A N X xf f/\a8 A N X xo o
 |v,.loop n t m l r b=>∃a dx pb xb,v=.ref a/\X a=YV (.ins A.bJ dx [("number",.int n),("thing",t.v N),("most",.int m),("body",.ref pb),("left",.int l),("right",.int r)])/\X pb=YV (.lst xb)/\a8 A N X xb b
 |_,.dU _ _ _ _=>False
noncomputable def a8(A:Ï)(N:Nat->Str)(X:Hp):List V->List Pt->Prop
 |vs,[]=>vs=[]
 |vs,t::ts=>∃x xs,vs=x::xs/\aS A N X x t/\a8 A N X xs ts
end
mutual
theorem aS.same{X X':Hp}(s:ak X X'):∀(t:Pt)(v:V),aS A N X v t->aS A N X' v t
 | .leaf n r,v,h=>by
  unfold aS at h⊢;obtain⟨a,dx,p,e,h1,h2⟩:=h;exact{a,dx,p,e,s _ _ h1,λo ho=>s _ _ (h2 o ho)}
 | .iff n val l r f o,v,h=>by
  unfold aS at h⊢;obtain⟨a,dx,p,pf,po,xf,xo,e,h1,h2,h3,h4,h5,h6⟩:=h;exact{a,dx,p,pf,po,xf,xo,e,s _ _ h1,s _ _ h2,s _ _ h3,s _ _ h4,a8.same s f _ h5,a8.same s o _ h6}
 | .loop n t m l r b,v,h=>by
  unfold aS at h⊢;obtain⟨a,dx,pb,xb,e,h1,h2,h3⟩:=h;exact{a,dx,pb,xb,e,s _ _ h1,s _ _ h2,a8.same s b _ h3}
 | .dU n i ps b,v,h=>by
  unfold aS at h;exact h.elim
theorem a8.same{X X':Hp}(s:ak X X'):∀(ts:List Pt)(vs:List V),a8 A N X vs ts->a8 A N X' vs ts
 | [],vs,h=>by
  unfold a8 at h⊢;exact h
 |t::ts,vs,h=>by
  unfold a8 at h⊢;obtain⟨x,xs,e,h1,h2⟩:=h;exact{x,xs,e,aS.same s t _ h1,a8.same s ts _ h2}
end
theorem a8.nil{X:Hp}:a8 A N X [] []:=by
 unfold a8;rfl
theorem a8.cons{X:Hp}{x:V}{t:Pt}{ts:List Pt}{vs:List V}(h:aS A N X x t)(h':a8 A N X vs ts):a8 A N X (x::vs) (t::ts):=by
 unfold a8;exact⟨x,vs,rfl,h,h'⟩
theorem a8.len{X:Hp}:∀{ts:List Pt}{vs:List V},a8 A N X vs ts->vs.length=ts.length
 | [],vs,h=>by
  unfold a8 at h;rw[h];rfl
 |t::ts,vs,h=>by
  unfold a8 at h;obtain⟨y,ys,e,h1,h2⟩:=h;subst e;simp[a8.len h2]
theorem a8.get{X:Hp}:∀{ts:List Pt}{vs:List V}{i:Nat}{v:V},a8 A N X vs ts->vs[i]?=YV v->∃t,ts[i]?=YV t/\aS A N X v t
 | [],vs,i,v,h,e=>by
  unfold a8 at h;rw[h]at e;cases e
 |t::ts,vs,i,v,h,e=>by
  unfold a8 at h;obtain⟨y,ys,e',h1,h2⟩:=h;subst e';cases i with
  |zero=>cases e;exact⟨t,rfl,h1⟩
  |succ i=>exact a8.get (i:=i) h2 e
theorem a8.of{X:Hp}:∀{ts:List Pt}{vs:List V},Paired (λt v=>aS A N X v t) ts vs->a8 A N X vs ts
 |_,_,.nil=>a8.nil
 |_,_,.cons h r=>a8.cons h (a8.of r)
theorem yf(p:Pt):0<p.ci/\p.ci<14:=by
 cases p with
 |leaf n r=>cases r<;>simp[Pt.ci,Lr.ci]
 |_=>simp[Pt.ci]
theorem BY{X:Hp}{v:V}{p:Pt}(h:aS A N X v p):p.ci<13:=by
 cases p with
 |leaf n r=>cases r<;>simp[Pt.ci,Lr.ci]
 |dU _ _ _ _=>
  unfold aS at h;exact h.elim
 |_=>simp[Pt.ci]
theorem MI(T:Txt K mg A)(p:Pt)(hp:p.ci<13):Ě K (Ğ A p.ci)/\aJ K (Ğ A p.ci) "number":=by
 cases p with
 |leaf n r=>
  cases r with
  |hand _ _=>exact⟨T.d7.cl,T.fG⟩
  |Ç _ _ _=>exact⟨T.aR.cl,T.eG⟩
  |own _ _=>exact⟨T.cC.cl,T.gD⟩
  |lt _ _=>exact⟨T.cG.cl,T.gB⟩
  |set _ _=>exact⟨T.fX.cl,T.lF⟩
  |put _ _ _=>exact⟨T.eI.cl,T.lj⟩
  |snd _ _=>exact⟨T.bE.cl,T.cK⟩
  |say _ _ _=>exact⟨T.bS.cl,T.cv⟩
  |call _ _=>exact⟨T.cM.cl,T.dF⟩
  |_=>exact⟨T.j7.cl,T.j3⟩
 |iff _ _ _ _ _ _=>exact⟨T.cf.cl,T.mF⟩
 |loop _ _ _ _ _ _=>exact⟨T.br.cl,T.ku⟩
 |dU _ _ _ _=>exact absurd hp (by simp[Pt.ci])
theorem Ew{X:Hp}{v:V}{p:Pt}(h:aS A N X v p):∃a dx fs,v=.ref a/\X a=YV (.ins (Ğ A p.ci) dx (("number",.int p.no)::fs)):=by
 cases p with
 |leaf n r=>
  unfold aS at h;obtain⟨a,dx,p,e,h1,h2⟩:=h;exact{a,dx,_,e,h1}
 |iff n val l r f o=>
  unfold aS at h;obtain⟨a,dx,p,pf,po,xf,xo,e,h1,_⟩:=h;exact{a,dx,_,e,h1}
 |loop n t m l r b=>
  unfold aS at h;obtain⟨a,dx,pb,xb,e,h1,_⟩:=h;exact{a,dx,_,e,h1}
 |dU n i ps b=>
  unfold aS at h;exact h.elim
theorem tK(T:Txt K mg A){X H:Hp}(s:ak X H){v:V}{p:Pt}(h:aS A N X v p)(j:Nat)(j0:0<j)(hj:j<13){R:Bool->Hp->Prop}(q:R (decide (p.ci=j)) H):wV K [v,.ref (Ğ A j)] H λv H1=>yP K v H1 R:=by
 have hl:=BY h;obtain⟨a,dx,fs,rfl,ha⟩:=Ew h;obtain⟨x,O⟩:=wy T p.ci hl (yf p).1;exact isB (O.Na (s _ _ ha)) (Gw T p.ci j hl hj (yf p).1 j0) q
theorem fW(T:Txt K mg A){X H:Hp}(s:ak X H){v:V}{p:Pt}(h:aS A N X v p){j:Nat}(e:p.ci=j){R:Bool->Hp->Prop}(q:R true H):wV K [v,.ref (Ğ A j)] H λv H1=>yP K v H1 R:=tK T s h j (e▸(yf p).1) (e▸(BY h)) (by rw[decide_eq_true e];exact q)
theorem cH(T:Txt K mg A){X H:Hp}(s:ak X H){v:V}{p:Pt}(h:aS A N X v p){j:Nat}(e:p.ci≠j){R:Bool->Hp->Prop}(q:R false H)(j0:0<j:=by decide)(hj:j<13:=by decide):wV K [v,.ref (Ğ A j)] H λv H1=>yP K v H1 R:=tK T s h j j0 hj (by rw[decide_eq_false e];exact q)
theorem tP(T:Txt K mg A){X H:Hp}(s:ak X H){v:V}{p:Pt}(h:aS A N X v p)(j:Nat)(j0:0<j)(hj:j<13){Q:VK}(q:Q (.bl (decide (p.ci=j))) H):wV K [v,.ref (Ğ A j)] H Q:=by
 have hl:=BY h;obtain⟨a,dx,fs,rfl,ha⟩:=Ew h;obtain⟨x,O⟩:=wy T p.ci hl (yf p).1;exact{_,_,_,_,rfl,(λz=>by cases z),O.Na (s _ _ ha),Gw T p.ci j hl hj (yf p).1 j0,q}
theorem dN(T:Txt K mg A){X H:Hp}(s:ak X H){v:V}{p:Pt}(h:aS A N X v p){Q:VK}(q:Q (.int p.no) H):lN K "number" v H Q:=by
 have hl:=BY h;obtain⟨a,dx,fs,rfl,ha⟩:=Ew h;obtain⟨c1,c2⟩:=MI T p hl;exact Ê (s _ _ ha) c1 c2 rfl q
def bw(n:Int):Str:=Su++("row ":Str)++TK (toString n)
def JW(s:Str):Nat:=(s.cps.toList.drop 4).foldl (λa c=>10*a+(c-48)) 0
theorem nA:∀n:Fin 1001,((n.val:Int).natAbs.log2<1920)/\(TK (toString (n.val:Int))).length<=20/\JW (bw (n.val:Int))=n.val/\(bw (n.val:Int)).cps[0]?=YV 114:=by decide+kernel
theorem Hv{a b:Int}(a0:0<=a)(a1:a<=1000)(b0:0<=b)(b1:b<=1000)(h:bw a=bw b):a=b:=by
 obtain⟨a,rfl⟩:∃k:Nat,a=(k:Int):={a.toNat,()};obtain⟨b,rfl⟩:∃k:Nat,b=(k:Int):={b.toNat,()};have h1:=(nA {a,()}).2.2.1;have h2:=(nA {b,()}).2.2.1;rw[show JW (bw (a:Int))=JW (bw (b:Int)) by rw[h]]at h1;have:b=a:=h2.symm.trans h1;rw[this]
theorem GC{a:Int}(a0:0<=a)(a1:a<=1000){x:Str}(hx:x.cps[0]?≠YV 114):bw a≠x:=by
 obtain⟨a,rfl⟩:∃k:Nat,a=(k:Int):={a.toNat,()};intro e;exact hx (e▸(nA {a,()}).2.2.2)
theorem qK(a b:Str):(a++b).length=a.length+b.length:=Xm
inductive xQ(vs:List V)(H:Hp)(Q:VK)(Ã:XK):Prop
 |mk(n:Int):vs=[.int n]->0<=n->n<=1000->Q (.str (bw n)) H->xQ vs H Q Ã
theorem pP(T:Txt K mg A):T.qz.Hz P w base 1 xQ:=by
 refine T.qz.hs we (λf Â A' outer s H vs Q E' hr hu h=>?_);obtain⟨n,rfl,h0,h1,q⟩:=h;obtain⟨n,rfl⟩:∃k:Nat,n=(k:Int):={n.toNat,()};obtain⟨k1,k2,_⟩:=nA {n,()};refine{_,(aj (aD (GJ (Cd aK (Cd (JO (fv 0)) Lg))))),{_,rfl,∅,OZ {_,rfl,k1,_,rfl,?_}}};have l:(bw (n:Int)).length<=sizeLine:=by
  unfold bw;rw[qK];exact O6 (Wt k2 _) ∅
 exact⟨l,l,q⟩
theorem Paired.two{α β:Type}{F:α->β->Prop}:∀{xs zs:List α}{ys ws:List β},Paired F xs ys->Paired F zs ws->Paired F (xs++zs) (ys++ws)
 |_,_,_,_,.nil,h=>h
 |_,_,_,_,.cons g r,h=>.cons g (Paired.two r h)
abbrev Le:=Pt×Option Str×Option Str
def oS:Option Str->V
 |none=>.Ä
 |some x=>.str x
mutual
noncomputable def lK(lp:Option Str):Pt->List Le
 | .leaf _ _=>[]
 | .iff n _ _ _ f o=>cD (YV (bw n)) lp f++cD (YV (bw n)) lp o
 | .loop n _ _ _ _ b=>cD (YV (bw n)) (YV (bw n)) b
 | .dU _ _ _ _=>[]
noncomputable def cD(pl lp:Option Str):List Pt->List Le
 | []=>[]
 |t::ts=>(t,pl,lp)::(lK lp t++cD pl lp ts)
end
mutual
noncomputable def dep:Pt->Nat
 | .leaf _ _=>0
 | .iff _ _ _ _ f o=>max (pE f) (pE o)+1
 | .loop _ _ _ _ _ b=>pE b+1
 | .dU _ _ _ b=>0
noncomputable def pE:List Pt->Nat
 | []=>0
 |t::ts=>max (dep t) (pE ts)
end
theorem uq{t:Pt}:∀{ts:List Pt},t∈ts->dep t<=pE ts
 |t'::ts,m=>by
  unfold pE;rcases O4.mp m with rfl|m
  ·exact Nat.le_max_left _ _
  exact O6 (uq m) (Nat.le_max_right _ _)
theorem um{pl lp:Option Str}:∀(a b:List Pt),cD pl lp (a++b)=cD pl lp a++cD pl lp b
 | [],b=>by simp[cD]
 |t::a,b=>by
  have h1:cD pl lp (t::(a++b))=(t,pl,lp)::(lK lp t++cD pl lp (a++b)):=by rw[cD]
  have h2:cD pl lp (t::a)=(t,pl,lp)::(lK lp t++cD pl lp a):=by rw[cD]
  show cD pl lp (t::(a++b))=_;rw[h1,h2,um a b];simp
theorem vI{pl lp:Option Str}{ts:List Pt}{t:Pt}{i:Nat}(h:ts[i]?=YV t):cD pl lp (ts.take (i+1))=cD pl lp (ts.take i)++(t,pl,lp)::lK lp t:=by
 rw[PB,h,um];show cD pl lp (ts.take i)++cD pl lp [t]=_;rw[show cD pl lp [t]=(t,pl,lp)::lK lp t by simp[cD]]
theorem Fv{pl lp:Option Str}{ts:List Pt}{t:Pt}{i:Nat}(h:ts[i]?=YV t):cD pl lp ts=cD pl lp (ts.take i)++((t,pl,lp)::lK lp t)++cD pl lp (ts.drop (i+1)):=by
 rw[<-vI h,<-um,Ql]
def Nb(es:List Le):Prop:=∀e∈es,0<=e.1.no/\e.1.no<=1000
def LyE(A:Ï)(N:Nat->Str)(X:Hp)(e:Le)(y:V)(H:Hp):Prop:=∃tp v,y=V.ref tp/\H tp=YV (.tup [v,oS e.2.1,oS e.2.2])/\aS A N X v e.1
def Ly(A:Ï)(N:Nat->Str)(X H:Hp)(es:List Le)(ys:List V):Prop:=Paired (λe y=>LyE A N X e y H) es ys
theorem Ly.same{X H H':Hp}(s:∀x w,H x=YV (.tup w)->H' x=YV (.tup w)){es:List Le}{ys:List V}(h:Ly A N X H es ys):Ly A N X H' es ys:=Paired.gR h λ_ _ ⟨tp,v,e,h1,h2⟩=>{tp,v,e,s _ _ h1,h2}
inductive rS(A:Ï)(d:Nat)(vs:List V)(H:Hp)(Q:VK)(Ã:XK):Prop
 |mk(N:Nat->Str)(X:Hp)(L:RB)(xs:List V)(pl lp:Option Str)(ts:List Pt)(z0:vs=[.ref L,oS pl,oS lp])(z1:ak X H)(z2:X L=YV (.lst xs))(z3:a8 A N X xs ts)(z4:pE ts<=d)(z5:Nb (cD pl lp ts))(z6:(cD pl lp ts).length<=900)
  (z7:∀(R:RB)(ys:List V)(H':Hp),ak H H'->H R=YW->H' R=YV (.lst ys)->Ly A N X H' (cD pl lp ts) ys->Q (.ref R) H'):rS A d vs H Q Ã
inductive qE(A:Ï)(d:Nat)(vs:List V)(H:Hp)(Q:VK)(Ã:XK):Prop
 |mk(N:Nat->Str)(X:Hp)(v:V)(lp:Option Str)(t:Pt)(z0:vs=[v,oS lp])(z1:ak X H)(z2:aS A N X v t)(z3:dep t<=d)(z4:0<=t.no/\t.no<=1000)(z5:Nb (lK lp t))(z6:(lK lp t).length<=900)
  (z7:∀(R:RB)(ys:List V)(H':Hp),ak H H'->H R=YW->H' R=YV (.lst ys)->Ly A N X H' (lK lp t) ys->Q (.ref R) H'):qE A d vs H Q Ã
def Fu(A:Ï):Nat->Sp
 |0=>λ_ _ _ _=>False
 |d+1=>rS A d
theorem Bt(T:Txt K mg A)(d j:Nat)(Ry:T.jg.Hz P w base j (qE A d)):T.gX.Hz P w base (j+1) (rS A d):=by
 refine T.gX.hs (k:=j) gM (λf Â A' outer s H vs Q E' hr hu h=>?_);obtain⟨N,X,L,xs,pl,lp,ts,rfl,s0,hL,pt,dp,nb,ln,q⟩:=h;refine⟨_,(af (É 3 gM.nd (aP ae))
  (af (bc RO rfl (aW (fv 0)) (Ò (i:=4) gM.nd rfl)
   (af (aT (bP (fv 3) (aQ (fv 4^fv 1^fv 2^ae)^ae)))
   (aj (aT (er (fv 3) ((au (hj:=by lia) Ry hr (fv 4^fv 2^ae))^ae))))))
  (aj (aD (fv 3))))),?_⟩
 refine ah λM1 K1=>{Pc _,λR hR=>?_};obtain⟨s1,e1⟩:=Ð hR (HO.lst []);generalize upd H R _=H1 at s1 e1⊢;refine K1 _ _ ?_;clear K1 M1;rfl'
 refine ah λM1 K1=>OZ {{_,À.of ((s0.trans s1) _ _ hL)},a9 (K:=K) (xs:=xs) (λi B Hc=>∃(ys:List V)(v4:Option V),B=[YV (.ref L),YV (oS pl),YV (oS lp),YV (.ref R),v4]/\ak H Hc/\Hc R=YV (.lst ys)/\Ly A N X Hc (cD pl lp (ts.take i)) ys) {[],YW,rfl,s1,e1,by rw[show cD pl lp (ts.take 0)=[] by show cD pl lp []=[];rw[cD]];exact .nil} (λi B Hc _ ⟨_,_,_,z,_⟩=>À.of ((s0.trans z) _ _ hL)) ?_ ?_}
 ·rintro i v B Hc hv ⟨ys,v4,rfl,sc,è,ly⟩;obtain⟨t,ht,pa⟩:=pt.get hv;have mt:t∈ts:=OY ht;have e:=Fv (pl:=pl) (lp:=lp) ht;have le:(cD pl lp (ts.take i)).length+(1+(lK lp t).length)<=900:=by
   rw[e]at ln;simp at ln;lia
  have n1:∀z∈((t,pl,lp)::lK lp t),0<=z.1.no/\z.1.no<=1000:=λz hz=>nb z (by rw[e];exact Px _ (Pb _ hz));have Δ:=RN ly;rfl'
  refine ah λN1 J1=>{OZ {rfl,_,À.of è},by show 3<=sizeLine;decide,λtp é=>?_};have tpR:tp≠R:=YX é è;refine{_,_,_,rfl,rfl,aF tpR.symm è,aG (),?_};have s2:ak H (upd (upd Hc tp (.tup [v,oS pl,oS lp])) R (.lst (ys++[.ref tp]))):=ak.out (sc.trans (ak.upd é _)) hR _;have e2:upd (upd Hc tp (.tup [v,oS pl,oS lp])) R (.lst (ys++[.ref tp])) R=YV (.lst (ys++[.ref tp])):=ao;have l2:Ly A N X (upd (upd Hc tp (.tup [v,oS pl,oS lp])) R (.lst (ys++[.ref tp]))) (cD pl lp (ts.take i)++[(t,pl,lp)]) (ys++[.ref tp]):=by
   refine Paired.two (ly.same λx w e=>?_) (.cons ⟨tp,v,rfl,aF tpR ao,pa⟩ .nil);exact aF (λy=>by rw[y,è]at e;cases e) (aF (λy=>by rw[y,é]at e;cases e) e)
  generalize upd (upd Hc tp (.tup [v,oS pl,oS lp])) R (.lst (ys++[.ref tp]))=Hd at s2 e2 l2⊢;refine J1 _ _ ?_;clear J1 N1;rfl'
  refine{OZ {rfl,_,À.of e2},N,X,v,lp,t,rfl,s0.trans s2,pa,O6 (uq mt) dp,n1 _ OX,λz hz=>n1 z (O2 _ hz),(),λR2 zs He s3 hR2 ϰ l3=>?_};have lz:=RN l3;refine{_,_,_,_,rfl,rfl,s3 _ _ e2,ϰ,sz (by rw[O5,<-lz,<-Δ];simp;lia),{_,_,rfl,ak.out (s2.trans s3) hR _,ao,?_}};rw[vI ht,show cD pl lp (ts.take i)++(t,pl,lp)::lK lp t=cD pl lp (ts.take i)++[(t,pl,lp)]++lK lp t by simp];have dR:∀x w,He x=YV (.tup w)->upd He R (.lst (ys++[.ref tp]++zs)) x=YV (.tup w):=λx w e=>aF (λy=>by rw[y,s3 _ _ e2]at e;cases e) e;exact Paired.two (l2.same λx w e=>dR x w (s3 _ _ e)) (l3.same dR)
 rintro B Hc ⟨ys,v4,rfl,sc,è,ly⟩;rw[show ts.take xs.length=ts by rw[pt.len];exact Pk]at ly;exact K1 _ _ (q R ys Hc sc hR è ly)
theorem vm(T:Txt K mg A)(d j:Nat)(M7:T.gX.Hz P w base (j+1) (Fu A d)):T.jg.Hz P w base (j+2) (qE A d):=by
 refine T.jg.hs (k:=j+1) mP (λf Â A' outer s H vs Q E' hr hu h=>?_);obtain⟨N,X,v,lp,t,rfl,s0,pa,dp,nt,nb,ln,q⟩:=h;refine⟨_,(af (É 2 mP.nd (au (hj:=by lia) (pP T) hr (aA (fv 0) rfl^ae)))
  (af (aN (aO (Ó aI T.av (fv 0^aL T.cf.mg^ae)) (λ_=>rfl))
   (aj (aD (aE aX (au (hj:=by lia) M7 hr (aA (fv 0) rfl^fv 2^fv 1^ae)) (au (hj:=by lia) M7 hr (aA (fv 0) rfl^fv 2^fv 1^ae)))))
   aH)
  (af (aN (aO (Ó aI T.av (fv 0^aL T.br.mg^ae)) (λ_=>rfl))
   (aj (aD (au (hj:=by lia) M7 hr (aA (fv 0) rfl^fv 2^fv 2^ae))))
   aH)
  (aj (aD (aP ae)))))),?_⟩
 refine ah λM1 K1=>dN T s0 pa {_,rfl,nt.1,nt.2,K1 _ _ ?_};clear K1 M1;rfl'
 refine ah λM1 K1=>tK T s0 pa 11 ∅ ∅ ?_;cases t with
 |iff n val l r f o=>
  refine bK ?_;unfold aS at pa;obtain⟨a,dx,p,pf,po,xf,xo,rfl,h1,h2,h3,h4,h5,h6⟩:=pa;unfold dep at dp;cases d with
  |zero=>lia
  |succ d=>
  unfold lK at nb ln q;have nf:Nb (cD (YV (bw n)) lp f):=λy hy=>nb y (Px _ hy);have no:Nb (cD (YV (bw n)) lp o):=λy hy=>nb y (Pb _ hy);rw[O5]at ln;refine Ê (s0 _ _ h1) T.cf.cl T.jv rfl {N,X,pf,xf,YV (bw n),lp,f,rfl,s0,h3,h5,(),nf,(),λR1 y1 H1 s1 n1 e1 l1=>Ê ((s0.trans s1) _ _ h1) T.cf.cl T.jz rfl {N,X,po,xo,YV (bw n),lp,o,rfl,s0.trans s1,h4,h6,(),no,(),λR2 y2 H2 s2 n2 e2 l2=>?_}};have z1:=RN l1;have z2:=RN l2;refine{R1,R2,_,_,rfl,rfl,s2 _ _ e1,e2,sz (),λR hR=>?_};have s3:ak H2 (upd H2 R (.lst (y1++y2))):=ak.upd hR _;exact q R _ _ ((s1.trans s2).trans s3) (ak.free (s1.trans s2) hR) ao (Paired.two (l1.same λx w e=>s3 _ _ (s2 _ _ e)) (l2.same λx w e=>s3 _ _ e))
 |loop n t m l r b=>
  refine aV (K1 _ _ ?_);clear K1 M1;rfl'
  refine ah λM1 K1=>tK T s0 pa 12 ∅ ∅ (bK ?_);unfold aS at pa;obtain⟨a,dx,pb,xb,rfl,h1,h2,h3⟩:=pa;unfold dep at dp;cases d with
  |zero=>lia
  |succ d=>
  unfold lK at nb ln q;exact Ê (s0 _ _ h1) T.br.cl T.iy rfl {N,X,pb,xb,YV (bw n),YV (bw n),b,rfl,s0,h2,h3,(),nb,ln,λR1 y1 H1 s1 n1 e1 l1=>q R1 y1 H1 s1 n1 e1 l1}
 |leaf n r=>
  have e11:decide ((Pt.leaf n r).ci=11)=false:=by cases r<;>rfl
  have e12:decide ((Pt.leaf n r).ci=12)=false:=by cases r<;>rfl
  rw[e11];refine aV (K1 _ _ ?_);clear K1 M1;rfl'
  refine ah λM1 K1=>tK T s0 pa 12 ∅ ∅ ?_;rw[e12];refine aV (K1 _ _ ?_);clear K1 M1;refine{Pc _,λR hR=>q R [] _ (ak.upd hR _) hR ao ?_};unfold lK;exact .nil
 |dU n i ps b=>
  refine aV (K1 _ _ ?_);clear K1 M1;rfl'
  refine ah λM1 K1=>tK T s0 pa 12 ∅ ∅ (aV (K1 _ _ ?_));clear K1 M1;refine{Pc _,λR hR=>q R [] _ (ak.upd hR _) hR ao ?_};unfold lK;exact .nil
theorem zJ(T:Txt K mg A):∀d,T.gX.Hz P w base (2*d+3) (rS A d)
 |0=>Bt T 0 2 (vm T 0 0 (T.gX.hs (k:=0) gM (λ_ _ _ _ _ _ _ _ _ _ _ h=>h.elim) (λ_ _ _ _ h=>h.elim)))
 |d+1=>Bt T (d+1) (2*d+4) (vm T (d+1) (2*d+2) (zJ T d))
def vy:Pt->List Pt
 | .dU _ _ _ b=>b
 |_=>[]
def Ċ(N:Nat->Str):Pt->Str
 | .dU _ i _ _=>N i
 |_=>Su
def Ϙ(N:Nat->Str):Pt->List Str
 | .dU _ _ ps _=>ps.map N
 |_=>[]
def Gj:Pt->Prop
 | .dU _ _ _ _=>True
 |_=>False
def E6(N:Nat->Str)(ds:List Pt):List Le:=ds.flatMap λp=>cD (YV (Ċ N p)) YW (vy p)
def ka(A:Ï)(N:Nat->Str)(X:Hp)(v:V)(hs ds ms:List Pt):Prop:=∃a dx n0 n1 n2 x0 x1 x2,v=.ref a/\X a=YV (.ins A.Program dx [("heads",.ref n0),("deeds",.ref n1),("main",.ref n2)])/\X n0=YV (.lst x0)/\X n1=YV (.lst x1)/\X n2=YV (.lst x2)/\a8 A N X x0 hs/\a8 A N X x1 ds/\a8 A N X x2 ms
def dJ(N:Nat->Str)(ds ms:List Pt):List Le:=E6 N ds++cD YW YW ms
def Đ(N:Nat->Str):Pt->Option Str
 | .leaf _ (.Ç i _ _)=>YV (N i)
 | .leaf _ (.own i _)=>YV (N i)
 | .leaf _ (.lt i _)=>YV (N i)
 |_=>YW
def Dw(p:Pt):Bool:=decide (p.ci=11)||(decide (p.ci=12)||(decide (p.ci=7)||decide (p.ci=8)))
def iw(es:List Le):List Str:=(es.filter λe=>Dw e.1).map λe=>bw e.1.no
def cz(N:Nat->Str)(hs ds ms:List Pt):List Str:=hs.filterMap (Đ N)++(ds.flatMap λp=>Ċ N p::Ϙ N p)++iw (dJ N ds ms)++[("the clock":Str)]
structure Ok(N:Nat->Str)(d:Nat)(hs ds ms:List Pt):Prop where
 dU:∀p∈ds,Gj p/\pE (vy p)<=d
 main:pE ms<=d
 nb:Nb (dJ N ds ms)
 ln:(dJ N ds ms).length<=300
 hl:hs.length<=300
 pl:(cz N hs ds ms).length<=900
 nd:(cz N hs ds ms).Nodup
abbrev sS(xs:List Str):List V:=xs.map V.str
inductive yh(A:Ï)(d:Nat)(vs:List V)(H:Hp)(Q:VK)(Ã:XK):Prop
 |mk(N:Nat->Str)(X:Hp)(v:V)(hs ds ms:List Pt)(z0:vs=[v])(z1:ak X H)(z2:ka A N X v hs ds ms)(z3:Ok N d hs ds ms)
  (z7:∀(R:RB)(ys:List V)(H':Hp),ak H H'->H R=YW->H' R=YV (.lst ys)->Ly A N X H' (dJ N ds ms) ys->Q (.ref R) H'):yh A d vs H Q Ã
theorem rO(T:Txt K mg A)(d:Nat):T.kD.Hz P w base (2*d+4) (yh A d):=by
 refine T.kD.hs (k:=2*d+3) gq (λf Â A' outer s H vs Q E' hr hu h=>?_);obtain⟨N,X,v,hs,ds,ms,rfl,s0,⟨a,dx,n0,n1,n2,x0,x1,x2,rfl,ha,e0,e1,e2,p0,p1,p2⟩,ok,q⟩:=h;have ln:=ok.ln;have nb:=ok.nb;unfold dJ at ln nb;rw[O5]at ln;refine⟨_,(af (É 1 gq.nd (aP ae))
  (af (bc RO rfl (aW (aA (fv 0) rfl)) (Ò (i:=2) gq.nd rfl)
   (aj (aT (er (fv 1) ((au (hj:=by lia) (zJ T d) hr (aA (fv 2) rfl^aA (fv 2) rfl^bU^ae))^ae)))))
  (aj (aD (aE aX (fv 1) (au (hj:=by lia) (zJ T d) hr (aA (fv 0) rfl^bU^bU^ae))))))),?_⟩
 refine ah λM1 K1=>{Pc _,λR hR=>?_};obtain⟨s1,eR⟩:=Ð hR (HO.lst []);generalize upd H R _=H1 at s1 eR⊢;refine K1 _ _ ?_;clear K1 M1;rfl'
 refine ah λM1 K1=>Ê ((s0.trans s1) _ _ ha) T.bu.cl T.bH rfl (OZ {{_,À.of ((s0.trans s1) _ _ e1)},a9 (K:=K) (xs:=x1) (λi B Hc=>∃(ys:List V)(v2:Option V),B=[YV (.ref a),YV (.ref R),v2]/\ak H Hc/\Hc R=YV (.lst ys)/\Ly A N X Hc (E6 N (ds.take i)) ys) {[],YW,rfl,s1,eR,.nil} (λi B Hc _ ⟨_,_,_,z,_⟩=>À.of ((s0.trans z) _ _ e1)) ?_ ?_})
 ·rintro i v B Hc hv ⟨ys,v2,rfl,sc,è,ly⟩;obtain⟨t,ht,pa⟩:=p1.get hv;have mt:t∈ds:=OY ht;obtain⟨dt,dd⟩:=ok.dU t mt;cases t with
  |dU n i' ps b=>
   unfold aS at pa;exact pa.elim
  |_=>exact dt.elim
 rintro B Hc ⟨ys,v2,rfl,sc,è,ly⟩;rw[show ds.take x1.length=ds by rw[p1.len];exact Pk]at ly;refine K1 _ _ ?_;have Δ:=RN ly;rfl'
 refine Ê ((s0.trans sc) _ _ ha) T.bu.cl T.eE rfl {N,X,n2,x2,YW,YW,ms,rfl,s0.trans sc,e2,p2,ok.main,λy hy=>nb y (Pb _ hy),(),λR2 zs He s3 hR2 ϰ l3=>?_};have lz:=RN l3;refine{R,R2,_,_,rfl,rfl,s3 _ _ è,ϰ,sz (),λR3 hR3=>?_};have s4:ak He (upd He R3 (.lst (ys++zs))):=ak.upd hR3 _;exact q R3 _ _ ((sc.trans s3).trans s4) (ak.free (sc.trans s3) hR3) ao (Paired.two (ly.same λx w e=>s4 _ _ (s3 _ _ e)) (l3.same λx w e=>s4 _ _ e))
inductive sE(A:Ï)(vs:List V)(H:Hp)(Q:VK)(Ã:XK):Prop
 |mk(N:Nat->Str)(X:Hp)(v:V)(t:Pt):vs=[v]->ak X H->aS A N X v t->Q (.bl (Dw t)) H->sE A vs H Q Ã
theorem Dp(T:Txt K mg A):T.tG.Hz P w base 1 (sE A):=by
 refine T.tG.hs y8 (λf Â A' outer s H vs Q E' hr hu h=>?_);obtain⟨N,X,v,t,rfl,s0,pa,q⟩:=h;refine{_,(aj (aD (B4 (Ó aI T.av (fv 0^aL T.cf.mg^ae)) (B4 (Ó aI T.av (fv 0^aL T.br.mg^ae)) (B4 (Ó aI T.av (fv 0^aL T.bE.mg^ae)) (wR (Ó aI T.av (fv 0^aL T.bS.mg^ae)))))))),?_};unfold Dw at q;refine tP T s0 pa 11 ∅ ∅ {_,rfl,?_};cases e1:decide (t.ci=11)with
 |true=>rw[e1]at q;exact bK q
 |false=>
 rw[e1]at q;refine aV (tP T s0 pa 12 ∅ ∅ {_,rfl,?_});cases e2:decide (t.ci=12)with
 |true=>rw[e2]at q;exact bK q
 |false=>
 rw[e2]at q;refine aV (tP T s0 pa 7 ∅ ∅ {_,rfl,?_});cases e3:decide (t.ci=7)with
 |true=>rw[e3]at q;exact bK q
 |false=>
 rw[e3]at q;exact aV (tP T s0 pa 8 ∅ ∅ q)
def Sm(M:List RB)(H H':Hp):Prop:=∀a o,a∉M->H a=YV o->H' a=YV o
theorem Sm.refl(M:List RB)(H:Hp):Sm M H H:=λ_ _ _ h=>h
theorem Sm.trans{M:List RB}{H H' H'':Hp}(h:Sm M H H')(h':Sm M H' H''):Sm M H H'':=λa o m e=>h' a o m (h a o m e)
theorem Sm.new{M:List RB}{H H':Hp}(s:ak H H'):Sm M H H':=λa o _ e=>s a o e
theorem Sm.at{M:List RB}{H:Hp}{a:RB}(m:a∈M)(o:HO):Sm M H (upd H a o):=λb u hb e=>aF (λz=>hb (z▸m)) e
theorem Sm.same{M:List RB}{X H H':Hp}(h:Sm M H H')(s:ak X H)(n:∀m∈M,X m=YW):ak X H':=λa o e=>h a o (λm=>by rw[n a m]at e;cases e) (s a o e)
theorem Li(N:Nat->Str)(t:Pt):(Đ N t).isSome=(decide (t.ci=2)||(decide (t.ci=3)||decide (t.ci=4))):=by
 cases t with
 |leaf n r=>cases r<;>rfl
 |_=>rfl
theorem zH(T:Txt K mg A){X H:Hp}(s:ak X H){v:V}{t:Pt}(h:aS A N X v t){x:Str}(e:Đ N t=YV x){Q:VK}(q:Q (.str x) H):lN K "name" v H Q:=by
 cases t with
 |leaf n r=>
  unfold aS at h;obtain⟨a,dx,p,rfl,h1,h2⟩:=h;cases r with
  |Ç i _ _=>cases e;exact Ê (s _ _ h1) T.aR.cl T.ba rfl q
  |own i _=>cases e;exact Ê (s _ _ h1) T.cC.cl T.cZ rfl q
  |lt i _=>cases e;exact Ê (s _ _ h1) T.cG.cl T.dS rfl q
  |_=>cases e
 |_=>cases e
theorem HE{α β:Type}(f:α->Option β){xs:List α}{i:Nat}{x:α}(h:xs[i]?=YV x):(xs.take (i+1)).filterMap f=(xs.take i).filterMap f++(f x).toList:=by
 rw[PB,h,VZ];show _++Yz f [x]=_;rw[PQ];cases f x<;>rfl
inductive vU(A:Ï)(vs:List V)(H:Hp)(Q:VK)(Ã:XK):Prop
 |mk(N:Nat->Str)(X:Hp)(L:RB)(xs:List V)(hs:List Pt)(z0:vs=[.ref L])(z1:ak X H)(z2:X L=YV (.lst xs))(z3:a8 A N X xs hs)(z4:hs.length<=900)
  (z5:∀(R:RB)(H':Hp),ak H H'->H R=YW->H' R=YV (.lst (sS (hs.filterMap (Đ N))))->Q (.ref R) H'):vU A vs H Q Ã
theorem F3(T:Txt K mg A):T.mL.Hz P w base 1 (vU A):=by
 refine T.mL.hs hG (λf Â A' outer s H vs Q E' hr hu h=>?_);obtain⟨N,X,L,xs,hs,rfl,s0,hL,pt,ln,q⟩:=h;refine⟨_,(af (É 1 hG.nd (aP ae))
  (af (bc RO rfl (aW (fv 0)) (Ò (i:=2) hG.nd rfl)
   (aj (aN (PW.pt (pw_or (aO (Ó aI T.av (fv 2^aL T.aR.mg^ae)) (λ_=>rfl)) (pw_or (aO (Ó aI T.av (fv 2^aL T.cC.mg^ae)) (λ_=>rfl)) (pw_or1 (aO (Ó aI T.av (fv 2^aL T.cG.mg^ae)) (λ_=>rfl))))))
    (aj (aT (bP (fv 1) (aA (fv 2) rfl^ae))))
    aH)))
  (aj (aD (fv 1))))),?_⟩
 refine ah λM1 K1=>{Pc _,λR hR=>?_};obtain⟨s1,e1⟩:=Ð hR (HO.lst []);generalize upd H R _=H1 at s1 e1⊢;refine K1 _ _ ?_;clear K1 M1;rfl'
 refine ah λM1 K1=>OZ {{_,À.of ((s0.trans s1) _ _ hL)},a9 (K:=K) (xs:=xs) (λi B Hc=>∃(v2:Option V),B=[YV (.ref L),YV (.ref R),v2]/\ak H Hc/\Hc R=YV (.lst (sS ((hs.take i).filterMap (Đ N))))) ⟨YW,rfl,s1,e1⟩ (λi B Hc _ ⟨_,_,z,_⟩=>À.of ((s0.trans z) _ _ hL)) ?_ ?_}
 ·rintro i v B Hc hv ⟨v2,rfl,sc,è⟩;obtain⟨t,ht,pa⟩:=pt.get hv;have hi:=Li N t;have st:=HE (Đ N) ht;have il:i<hs.length:=(O8.mp ht).1;have l1:=Qy (Đ N) (hs.take i);rw[Pq]at l1;have yes:∀x,Đ N t=YV x->upd Hc R (.lst (sS ((hs.take i).filterMap (Đ N))++[.str x])) R=YV (.lst (sS ((hs.take (i+1)).filterMap (Đ N)))):=λx e=>by
   rw[ao,st,e];simp[sS]
  have no:Đ N t=YW->Hc R=YV (.lst (sS ((hs.take (i+1)).filterMap (Đ N)))):=λe=>by
   rw[st,e];simpa using è
  rfl'
  have s2:=s0.trans sc;cases e:Đ N t with
  |none=>
   rw[e]at hi;have c2:t.ci≠2:=λz=>by rw[z]at hi;cases hi
   have c3:t.ci≠3:=λz=>by rw[z]at hi;cases hi
   have c4:t.ci≠4:=λz=>by rw[z]at hi;cases hi
   exact cH T s2 pa c2 (aV (cH T s2 pa c3 (aV (cH T s2 pa c4 (aV {_,rfl,sc,no e})))))
  |some x=>
   rw[e]at hi;have lz:(sS ((hs.take i).filterMap (Đ N))).length<sizeLine:=aG (by rw[OU];lia);by_cases c2:t.ci=2
   ·exact fW T s2 pa c2 (bK {OZ {rfl,_,À.of è},zH T s2 pa e {_,_,_,rfl,rfl,è,lz,_,rfl,ak.out sc hR _,yes x e}})
   by_cases c3:t.ci=3
   ·exact cH T s2 pa c2 (aV (fW T s2 pa c3 (bK {OZ {rfl,_,À.of è},zH T s2 pa e {_,_,_,rfl,rfl,è,lz,_,rfl,ak.out sc hR _,yes x e}})))
   by_cases c4:t.ci=4
   ·exact cH T s2 pa c2 (aV (cH T s2 pa c3 (aV (fW T s2 pa c4 (bK {OZ {rfl,_,À.of è},zH T s2 pa e {_,_,_,rfl,rfl,è,lz,_,rfl,ak.out sc hR _,yes x e}})))))
   rw[decide_eq_false c2,decide_eq_false c3,decide_eq_false c4]at hi;cases hi
 rintro B Hc ⟨v2,rfl,sc,è⟩;rw[show hs.take xs.length=hs by rw[pt.len];exact Pk]at è;exact K1 _ _ (q R Hc sc hR è)
theorem pJ{α β:Type}(f:α->List β){xs:List α}{i:Nat}{x:α}(h:xs[i]?=YV x):(xs.take (i+1)).flatMap f=(xs.take i).flatMap f++f x:=by
 rw[PB,h];simp
theorem FP{α β:Type}(f:α->List β){xs:List α}{i:Nat}{x:α}(h:xs[i]?=YV x):((xs.take i).flatMap f).length+(f x).length<=(xs.flatMap f).length:=by
 have e:xs.flatMap f=(xs.take (i+1)).flatMap f++(xs.drop (i+1)).flatMap f:=by rw[<-List.flatMap_append,Ql]
 rw[e,pJ f h];simp only[O5];lia
theorem Az{es:List Le}{i:Nat}{e:Le}(h:es[i]?=YV e):iw (es.take (i+1))=iw (es.take i)++(if Dw e.1=true then[bw e.1.no]else[]):=by
 unfold iw;rw[PB,h,PZ,PM];congr 1;show List.map _ (List.filter _ [e])=_;rw[Q4,QE];split<;>rfl
theorem CN(es:List Le):(iw es).length<=es.length:=by
 unfold iw;rw[OU];exact PX _ _
inductive uS(A:Ï)(d:Nat)(vs:List V)(H:Hp)(Q:VK)(Ã:XK):Prop
 |mk(N:Nat->Str)(X:Hp)(v:V)(hs ds ms:List Pt)(z0:vs=[v])(z1:ak X H)(z2:ka A N X v hs ds ms)(z3:Ok N d hs ds ms)
  (z7:∀(R:RB)(H':Hp),ak H H'->H R=YW->H' R=YV (.lst (sS (cz N hs ds ms)))->Q (.ref R) H'):uS A d vs H Q Ã
theorem yQ(T:Txt K mg A)(d:Nat):T.places.Hz P w base (2*d+5) (uS A d):=by
 refine T.places.hs (k:=2*d+4) gZ (λf Â A' outer s H vs Q E' hr hu h=>?_);obtain⟨N,X,v,hs,ds,ms,rfl,s0,pg,ok,q⟩:=h;obtain⟨a,dx,n0,n1,n2,x0,x1,x2,rfl,ha,e0,e1,e2,p0,p1,p2⟩:=id pg;refine⟨_,(af (É 1 gZ.nd (au (hj:=by lia) (F3 T) hr (aA (fv 0) rfl^ae)))
  (af (bc RO rfl (aW (aA (fv 0) rfl)) (Ò (i:=2) gZ.nd rfl)
   (aj (aT (er (fv 1) (aE aX (aP (aA (fv 2) rfl^ae)) (aA (fv 2) rfl)^ae)))))
  (af (bc RO rfl (aW (au (hj:=by lia) (rO T d) hr (fv 0^ae))) (kR rfl (bj (Ò (i:=3) gZ.nd rfl) (bj (Ò (i:=4) gZ.nd rfl) (bj (Ò (i:=5) gZ.nd rfl) gU))))
   (aj (aN (aO (au (hj:=by lia) (Dp T) hr (fv 3^ae)) (λ_=>rfl))
    (aj (aT (bP (fv 1) ((au (hj:=by lia) (pP T) hr (aA (fv 3) rfl^ae))^ae))))
    aH)))
  (aj (aD (aE aX (fv 1) (aP (wH T.rV^ae)))))))),?_⟩
 have pl:=ok.pl;unfold cz at pl q;simp only[O5,Po]at pl;have hl:=ok.hl;refine ah λM1 K1=>Ê (s0 _ _ ha) T.bu.cl T.bG rfl {N,X,n0,x0,hs,rfl,s0,e0,p0,(),λR H1 s1 hR eR=>K1 _ _ ?_};clear K1 M1;rfl'
 generalize hs.filterMap (Đ N)=B0 at eR pl q;refine ah λM1 K1=>Ê ((s0.trans s1) _ _ ha) T.bu.cl T.bH rfl (OZ {{_,À.of ((s0.trans s1) _ _ e1)},a9 (K:=K) (xs:=x1) (λi B Hc=>∃(v2:Option V),B=[YV (.ref a),YV (.ref R),v2,YW,YW,YW]/\ak H Hc/\Hc R=YV (.lst (sS (B0++(ds.take i).flatMap λp=>Ċ N p::Ϙ N p)))) {YW,rfl,s1,by rw[QL,XG,PH];exact eR} (λi B Hc _ ⟨_,_,z,_⟩=>À.of ((s0.trans z) _ _ e1)) ?_ ?_})
 ·rintro i v B Hc hv ⟨v2,rfl,sc,è⟩;obtain⟨t,ht,pa⟩:=p1.get hv;have mt:t∈ds:=OY ht;obtain⟨dt,dd⟩:=ok.dU t mt;have st:=pJ (λp=>Ċ N p::Ϙ N p) ht;have sl:=FP (λp=>Ċ N p::Ϙ N p) ht;cases t with
  |dU n i' ps b=>
   unfold aS at pa;exact pa.elim
  |_=>exact dt.elim
 rintro B Hc ⟨v2,rfl,sc,è⟩;rw[show ds.take x1.length=ds by rw[p1.len];exact Pk]at è;refine K1 _ _ ?_;clear K1 M1;rfl'
 rw[<-O5]at pl;generalize B0++(ds.flatMap λp=>Ċ N p::Ϙ N p)=B1 at è pl q;refine ah λM1 K1=>{N,X,.ref a,hs,ds,ms,rfl,s0.trans sc,pg,ok,λL ys H2 s2 hL eL ly=>?_};have nL:L≠R:=YX hL è;have nb:=ok.nb;generalize dJ N ds ms=es at ly nb pl q;have Δ:=RN ly;refine OZ {{_,À.of eL},a9 (K:=K) (xs:=ys) (λi B Hd=>∃(v3 v4 v5:Option V),B=[YV (.ref a),YV (.ref R),v2,v3,v4,v5]/\Sm [R] H2 Hd/\Hd R=YV (.lst (sS (B1++iw (es.take i))))) {YW,YW,YW,rfl,Sm.refl _ _,by rw[QL];show _=YV (HO.lst (sS (B1++[])));rw[PH];exact s2 _ _ è} (λi B Hd _ ⟨_,_,_,_,z,_⟩=>À.of (z _ _ (λm=>nL (OT.mp m)) eL)) ?_ ?_}
 ·rintro i y B Hd hy ⟨v3,v4,v5,rfl,sd,ś⟩;obtain⟨e,he,tp,v,rfl,ļ,pa⟩:=cx ly hy;have etp':=sd _ _ (λm=>by rw[OT.mp m,s2 _ _ è]at ļ;cases ļ) ļ;have sX:ak X Hd:=sd.same ((s0.trans sc).trans s2) (λm hm=>by
   rw[OT.mp hm];exact ak.free s0 hR)
  have ne:=nb e (OY he);have st:=Az he;have rl:=CN (es.take i);have rl2:(iw (es.take i)).length<=(iw es).length:=by
   have:iw es=iw (es.take i)++iw (es.drop i):=by
    unfold iw;rw[<-PM,<-PZ,Ql]
   rw[this];simp
  rfl'
  refine{tp,_,rfl,Æ.of etp',rfl,_,_,rfl,_,_,rfl,_,_,rfl,rfl,{N,X,v,e.1,rfl,sX,pa,_,rfl,?_}};cases c:Dw e.1 with
  |true=>
   rw[c,if_pos rfl]at st;refine bK {OZ {rfl,_,À.of ś},dN T sX pa {_,rfl,ne.1,ne.2,{_,_,_,rfl,rfl,ś,aG (by simp only[sS,OU,O5];lia),{_,_,_,rfl,sd.trans (Sm.at (OT.mpr rfl) _),?_}}}};rw[ao,st];simp[sS]
  |false=>
   rw[c,if_neg O3,PH]at st;exact aV {_,_,_,rfl,sd,by rw[st];exact ś}
 rintro B Hd ⟨v3,v4,v5,rfl,sd,ś⟩;rw[show es.take ys.length=es by rw[<-Δ];exact Pk]at ś;refine K1 _ _ ?_;have s3:ak H Hd:=sd.same (sc.trans s2) (λm hm=>by rw[OT.mp hm];exact hR);refine{by show 1<=sizeLine;decide,λq1 hq1=>?_};have sq:ak Hd (upd Hd q1 (.lst [.str "the clock"])):=ak.upd hq1 _;refine{R,q1,_,_,rfl,rfl,sq _ _ ś,ao,sz (by simp only[sS,OU,O5,Po];lia),λq2 hq2=>q q2 _ ((s3.trans sq).trans (ak.upd hq2 _)) (ak.free (s3.trans sq) hq2) ?_};rw[ao];simp[sS]
theorem AZ:R0 K (.type "str") (.type "str")=YV true:=by kernel_rfl!
theorem Fh:R0 K (.type "int") (.type "str")=YV false:=by kernel_rfl!
def Ĉ(N:Nat->Str)(acc:List Str):Th->List Str
 | .i _=>acc
 | .x a=>if N a∈acc then acc else acc++[N a]
def Ù(N:Nat->Str)(ts:List Th):List Str:=ts.foldl (Ĉ N) []
theorem nq(N:Nat->Str):∀(ts:List Th)(acc:List Str),(ts.foldl (Ĉ N) acc).length<=ts.length+acc.length
 | [],acc=>by simp
 |t::ts,acc=>by
  have h:=nq N ts (Ĉ N acc t);have h2:(Ĉ N acc t).length<=acc.length+1:=by
   cases t with
   |i n=>exact Qb _
   |x a=>unfold Ĉ;dsimp only;split<;>simp
  rw[QD,Pf];lia
theorem rW(x:Str)(acc:List Str):ϐ (.str x) (sS acc)=decide (x∈acc):=by
 unfold ϐ sS;rw[List.any_map,Qd,Qz,decide_eq_true_iff];constructor
 ·rintro⟨y,m,e⟩;have e:decide (y=x)=true:=e;exact of_decide_eq_true e▸m
 intro m;exact⟨x,m,decide_eq_true rfl⟩
theorem vA(acc:List Str):(sS acc).all mZ=true:=by
 unfold sS;rw[List.all_map,Qr];exact λ_ _=>rfl
def ï:Val->List Th
 | .one a=>[a]
 | .op a _ b=>[a,b]
theorem p9(N:Nat->Str)(v:Val):gJ (vV N v)=(ï v).map (Th.v N):=by
 cases v<;>kernel_rfl
inductive yF(K:RG)(vs:List V)(H:Hp)(Q:VK)(Ã:XK):Prop
 |mk(N:Nat->Str)(t:RB)(xs:List V)(ts:List Th)(z0:vs=[.ref t])(z1:Æ K H t xs)(z2:gJ xs=ts.map (Th.v N))(z3:ts.length<=100)
  (z4:∀(p:RB)(H':Hp),H p=YW->ak H H'->H' p=YV (.lst (sS (Ù N ts)))->Q (.ref p) H'):yF K vs H Q Ã
theorem nr(T:Txt K mg A):T.tL.Hz P w base 1 (yF K):=by
 refine T.tL.hs lZ (λf Â A' outer s H vs Q E' hr hu h=>?_);obtain⟨N,t,xs,ts,rfl,hT,ev,hl,q⟩:=h;refine⟨_,(af (É 1 lZ.nd (aP ae))
  (af (bc RO rfl (aW (FN (fv 0))) (Ò (i:=2) lZ.nd rfl)
   (aj (aN (PW.pt (pw_and (aO (Ó aI T.av (fv 2^(kM (v:=.ty "str") rfl T.vH (by boot_by_name) rfl)^ae)) (λ_=>rfl)) (pw_and1 (Ö (uk hu) (fv 2) (fv 1) ((by with_unfolding_all rfl))))))
    (aj (aT (bP (fv 1) (fv 2^ae))))
    aH)))
  (aj (aD (fv 1))))),?_⟩
 refine{(by decide:0<=sizeLine),λp hp=>{t,xs,rfl,(ak.upd hp _).tup hT,λe he=>Py {{_,Æ.of ao},?_}}};have hpe:p≠e:=λz=>by
  rw[<-z,ao]at he;cases he
 rw[ev];refine BE (K:=K) (xs:=ts.map (Th.v N)) (λi B H3=>ak H H3/\H3 e=YV (.tup (ts.map (Th.v N)))/\H3 p=YV (.lst (sS (Ù N (ts.take i))))/\∃v,B=[YV (.ref t),YV (.ref p),v]) {(ak.upd hp _).trans (ak.upd he _),ao,?_,YW,rfl} (λi B H3 _ h=>Æ.of h.2.1) ?_ ?_
 ·rw[ay hpe,ao];rfl
 ·rintro i x B H3 hi ⟨s3,h3e,į,v,rfl⟩;rw[O7]at hi;cases ht:ts[i]? with
  |none=>rw[ht]at hi;cases hi
  |some th=>
  rw[ht]at hi;cases hi;have nx:Ù N (ts.take (i+1))=Ĉ N (Ù N (ts.take i)) th:=gY (Ĉ N) [] ht;have ll:=nq N (ts.take i) [];rw[Pq,P5]at ll;cases th with
  |i n=>
   exact{_,_,_,false,rfl,(λz=>by cases z),.int n,Fh,false,rfl,aV (aV {s3,h3e,by rw[į,nx];rfl,_,rfl})}
  |x a=>
   refine{_,_,_,true,rfl,(λz=>by cases z),.str _,AZ,true,rfl,bK (OZ {_,OZ (À.of į),rfl,vA _,_,rfl,?_})};have nx:Ù N (ts.take (i+1))=if N a∈Ù N (ts.take i)then Ù N (ts.take i)else Ù N (ts.take i)++[N a]:=nx
   by_cases m:N a∈Ù N (ts.take i)
   ·rw[if_pos m]at nx;exact bh (λc=>absurd c (by show ¬ (!ϐ (V.str (N a)) (sS (Ù N (ts.take i))))=true;rw[rW,decide_eq_true m];decide)) (λ_=>{s3,h3e,by rw[į,nx],_,rfl})
   rw[if_neg m]at nx;refine bh (λ_=>?_) (λc=>absurd (by show(!ϐ (V.str (N a)) (sS (Ù N (ts.take i))))=true;rw[rW,decide_eq_false m];rfl) c);refine{OZ {rfl,_,À.of į},_,_,_,rfl,rfl,į,aG (by rw[OU];unfold Ù;lia),{ak.out s3 hp _,aF hpe.symm h3e,?_,_,rfl}};rw[ao,nx];simp[sS,Th.v]
 rintro B H3 ⟨s3,h3e,į,v,rfl⟩;rw[show ts.take (ts.map (Th.v N)).length=ts by rw[OU];exact Pk]at į;exact q p H3 hp s3 į
def ć:Pt->List Th
 | .leaf _ (.set _ v)=>ï v
 | .leaf _ (.snd _ v)=>ï v
 | .leaf _ (.put _ t v)=>t::ï v
 | .iff _ v _ _ _ _=>ï v
 | .loop _ t _ _ _ _=>[t]
 |_=>[]
theorem gS(v:Val):(ï v).length<=2:=by cases v<;>simp[ï]
theorem BD(t:Pt):(ć t).length<=3:=by
 cases t with
 |leaf n r=>
  cases r with
  |set _ v=>exact Rg (gS v)
  |snd _ v=>exact Rg (gS v)
  |put _ _ v=>exact Rm (gS v)
  |_=>simp[ć]
 |iff n v _ _ _ _=>exact Rg (gS v)
 |_=>simp[ć]
def i9(acc:List Str)(x:Str):List Str:=if x∈acc then acc else acc++[x]
def cP(acc xs:List Str):List Str:=xs.foldl i9 acc
theorem vM:∀(xs acc:List Str),(cP acc xs).length<=xs.length+acc.length
 | [],acc=>by simp[cP]
 |x::xs,acc=>by
  have h:=vM xs (i9 acc x);have h2:(i9 acc x).length<=acc.length+1:=by
   unfold i9;split<;>simp
  show(cP (i9 acc x) xs).length<=_;rw[Pf];lia
theorem FA(N:Nat->Str)(t:Th)(v:Val):cP [] (Ù N [t]++Ù N (ï v))=Ù N (t::ï v):=by
 cases t with
 |i n=>
  show cP [] ([]++Ù N (ï v))=Ù N (ï v);rw[Qn];cases v with
  |one b=>cases b<;>simp[ï,Ù,Ĉ,cP,i9]
  |op b x c=>
   cases b with
   |i m=>cases c<;>simp[ï,Ù,Ĉ,cP,i9]
   |x b=>
    cases c with
    |i m=>simp[ï,Ù,Ĉ,cP,i9]
    |x c=>
     by_cases e:N c=N b
     ·simp[ï,Ù,Ĉ,cP,i9,e]
     simp[ï,Ù,Ĉ,cP,i9,e]
 |x a=>
  cases v with
  |one b=>
   cases b with
   |i m=>simp[ï,Ù,Ĉ,cP,i9]
   |x b=>simp[ï,Ù,Ĉ,cP,i9]
  |op b y c=>
   cases b with
   |i m=>cases c<;>simp[ï,Ù,Ĉ,cP,i9]
   |x b=>
    cases c with
    |i m=>simp[ï,Ù,Ĉ,cP,i9]
    |x c=>
     by_cases e:N c=N b
     ·by_cases e2:N b=N a
      ·simp[ï,Ù,Ĉ,cP,i9,e,e2]
      simp[ï,Ù,Ĉ,cP,i9,e,e2]
     by_cases e2:N b=N a
     ·have e3:¬ N c=N a:=λz=>e (z.trans e2.symm);simp[ï,Ù,Ĉ,cP,i9,e2,e3]
     by_cases e3:N c=N a
     ·have e4:¬ N a=N b:=λz=>e2 z.symm;simp[ï,Ù,Ĉ,cP,i9,e2,e3,e4]
     simp[ï,Ù,Ĉ,cP,i9,e,e2,e3]
inductive cX(A:Ï)(i:Nat)(vs:List V)(H:Hp)(Q:VK)(Ã:XK):Prop
 |mk(N:Nat->Str)(X:Hp)(v:V)(t:Pt)(z0:vs=[v])(z1:ak X H)(z2:aS A N X v t)(z3:t.ci=i)
  (z4:∀(p:RB)(H':Hp),H p=YW->ak H H'->H' p=YV (.lst (sS (Ù N (ć t))))->Q (.ref p) H'):cX A i vs H Q Ã
inductive BB(K:RG)(vs:List V)(H:Hp)(Q:VK)(Ã:XK):Prop
 |mk(t:RB)(xs:List Str)(z0:vs=[.ref t])(z1:À K H t (sS xs))(z3:xs.length<=100)
  (z4:∀(p:RB)(H':Hp),H p=YW->ak H H'->H' p=YV (.lst (sS (cP [] xs)))->Q (.ref p) H'):BB K vs H Q Ã
theorem JY(T:Txt K mg A):T.qB.Hz P w base 1 (BB K):=by
 refine T.qB.hs kN (λf Â A' outer s H vs Q E' hr hu h=>?_);obtain⟨t,xs,rfl,hT,hl,q⟩:=h;refine⟨_,(af (É 1 kN.nd (aP ae))
  (af (bc RO rfl (aW (fv 0)) (Ò (i:=2) kN.nd rfl)
   (aj (aN (Ö (uk hu) (fv 2) (fv 1) ((by with_unfolding_all rfl)))
    (aj (aT (bP (fv 1) (fv 2^ae))))
    aH)))
  (aj (aD (fv 1))))),?_⟩
 refine ah λM1 K1=>{Pc _,λp hp=>?_};obtain⟨s1,e1⟩:=Ð hp (HO.lst []);generalize upd H p _=H1 at s1 e1⊢;refine K1 _ _ ?_;clear K1 M1;rfl'
 refine ah λM1 K1=>OZ {{_,s1.seq hT},a9 (K:=K) (xs:=sS xs) (λi B H3=>ak H H3/\H3 p=YV (.lst (sS (cP [] (xs.take i))))/\∃v,B=[YV (.ref t),YV (.ref p),v]) ⟨s1,e1,YW,rfl⟩ (λi B H3 _ h=>h.1.seq hT) ?_ ?_}
 ·rintro i x B H3 hi ⟨s3,į,v,rfl⟩;rw[O7]at hi;cases ht:xs[i]? with
  |none=>rw[ht]at hi;cases hi
  |some y=>
  rw[ht]at hi;cases hi;have nx:cP [] (xs.take (i+1))=i9 (cP [] (xs.take i)) y:=gY i9 [] ht;have ll:=vM (xs.take i) [];rw[Pq,P5]at ll;rfl'
  refine OZ {_,OZ (À.of į),rfl,vA _,_,rfl,?_};unfold i9 at nx;by_cases m:y∈cP [] (xs.take i)
  ·rw[if_pos m]at nx;exact bh (λc=>absurd c (by show ¬ (!ϐ (V.str y) (sS (cP [] (xs.take i))))=true;rw[rW,decide_eq_true m];decide)) (λ_=>{s3,by rw[į,nx],_,rfl})
  rw[if_neg m]at nx;refine bh (λ_=>?_) (λc=>absurd (by show(!ϐ (V.str y) (sS (cP [] (xs.take i))))=true;rw[rW,decide_eq_false m];rfl) c);refine{OZ {rfl,_,À.of į},_,_,_,rfl,rfl,į,aG (by rw[OU];lia),{ak.out s3 hp _,?_,_,rfl}};rw[ao,nx];simp[sS]
 rintro B H3 ⟨s3,į,v,rfl⟩;rw[show xs.take (sS xs).length=xs by rw[OU];exact Pk]at į;exact K1 _ _ (q p H3 hp s3 į)
theorem tM(T:Txt K mg A):T.iu.Hz P w mg base 2 (cX A 5):=by
 refine T.iu.hs (k:=1) rC (λf Â A' outer s H vs Q E' hr hu h=>?_);obtain⟨N,X,v,t,rfl,s0,pa,ec,q⟩:=h;refine{_,(aj (aD (au (nr T) hr (aA (fv 0) rfl^ae)))),?_};cases t with
 |leaf n r=>
  unfold aS at pa;obtain⟨a,dx,p,rfl,h1,h2⟩:=pa;cases r with
  |set h val=>exact Ê (s0 _ _ h1) T.fX.cl T.mU rfl {N,p,_,ï val,rfl,Æ.of (s0 _ _ (h2 _ rfl)),p9 N val,O6 (gS val) ∅,q}
  |_=>cases ec
 |_=>cases ec
theorem tQ(T:Txt K mg A):T.iL.Hz P w mg base 2 (cX A 6):=by
 refine T.iL.hs (k:=1) rn (λf Â A' outer s H vs Q E' hr hu h=>?_);obtain⟨N,X,v,t,rfl,s0,pa,ec,q⟩:=h;refine{_,(aj (aD (au (JY T) hr (aE aX (au (nr T) hr (aQ (aA (fv 0) rfl^ae)^ae)) (au (nr T) hr (aA (fv 0) rfl^ae))^ae)))),?_};cases t with
 |leaf n r=>
  unfold aS at pa;obtain⟨a,dx,p,rfl,h1,h2⟩:=pa;cases r with
  |put h pl val=>
   refine Ê (s0 _ _ h1) T.eI.cl T.mK rfl {by show 1<=sizeLine;decide,λtp é=>?_};obtain⟨s1,e1⟩:=Ð é (HO.tup [pl.v N]);generalize upd H tp _=H1 at s1 e1⊢;refine{N,tp,_,[pl],rfl,Æ.of e1,p9 N (.one pl),by simp,λL1 H2 f2 s2 e2=>?_};have þ:=s1.trans s2;refine Ê ((s0.trans þ) _ _ h1) T.eI.cl T.mG rfl {N,p,_,ï val,rfl,Æ.of ((s0.trans þ) _ _ (h2 _ rfl)),p9 N val,O6 (gS val) ∅,λL2 H3 f3 s3 e3=>?_};have l1:=nq N [pl] [];have l2:=nq N (ï val) [];have l3:=gS val;simp only[Po,P5]at l1 l2;refine{L1,L2,_,_,rfl,rfl,s3 _ _ e2,e3,sz (by rw[OU,OU];unfold Ù;lia),λL3 hL3=>?_};obtain⟨s4,e4⟩:=Ð hL3 (HO.lst (sS (Ù N [pl])++sS (Ù N (ï val))));generalize upd H3 L3 _=H4 at s4 e4⊢;have t4:=þ.trans (s3.trans s4);refine{L3,Ù N [pl]++Ù N (ï val),rfl,À.of (by rw[e4];simp[sS]),by rw[O5];unfold Ù;lia,λR H5 f5 s5 e5=>q R H5 (ak.free t4 f5) (t4.trans s5) (by rw[e5,FA];rfl)}
  |_=>cases ec
 |_=>cases ec
theorem rE(T:Txt K mg A):T.gp.Hz P w mg base 2 (cX A 7):=by
 refine T.gp.hs (k:=1) qo (λf Â A' outer s H vs Q E' hr hu h=>?_);obtain⟨N,X,v,t,rfl,s0,pa,ec,q⟩:=h;refine{_,(aj (aD (au (nr T) hr (aA (fv 0) rfl^ae)))),?_};cases t with
 |leaf n r=>
  unfold aS at pa;obtain⟨a,dx,p,rfl,h1,h2⟩:=pa;cases r with
  |snd h val=>exact Ê (s0 _ _ h1) T.bE.cl T.d4 rfl {N,p,_,ï val,rfl,Æ.of (s0 _ _ (h2 _ rfl)),p9 N val,O6 (gS val) ∅,q}
  |_=>cases ec
 |_=>cases ec
theorem uL(T:Txt K mg A):T.jH.Hz P w mg base 2 (cX A 11):=by
 refine T.jH.hs (k:=1) sy (λf Â A' outer s H vs Q E' hr hu h=>?_);obtain⟨N,X,v,t,rfl,s0,pa,ec,q⟩:=h;refine{_,(aj (aD (au (nr T) hr (aA (fv 0) rfl^ae)))),?_};cases t with
 |iff n val l r f o=>
  unfold aS at pa;obtain⟨a,dx,p,pf,po,xf,xo,rfl,h1,h2,_⟩:=pa;exact Ê (s0 _ _ h1) T.cf.cl T.nT rfl {N,p,_,ï val,rfl,Æ.of (s0 _ _ h2),p9 N val,O6 (gS val) ∅,q}
 |leaf n r=>cases r<;>cases ec
 |_=>cases ec
theorem rF(T:Txt K mg A):T.gk.Hz P w mg base 2 (cX A 12):=by
 refine T.gk.hs (k:=1) qt (λf Â A' outer s H vs Q E' hr hu h=>?_);obtain⟨N,X,v,t,rfl,s0,pa,ec,q⟩:=h;refine{_,(aj (aD (au (nr T) hr (aQ (aA (fv 0) rfl^ae)^ae)))),?_};cases t with
 |loop n t m l r b=>
  unfold aS at pa;obtain⟨a,dx,pb,xb,rfl,h1,_⟩:=pa;exact Ê (s0 _ _ h1) T.br.cl T.lE rfl {by show 1<=sizeLine;decide,λtp é=>{N,tp,_,[t],rfl,Æ.of ao,p9 N (.one t),by simp,λp H' hp s1 e1=>q p H' (ak.free (ak.upd é _) hp) ((ak.upd é _).trans s1) e1}}
 |leaf n r=>cases r<;>cases ec
 |_=>cases ec
def KW(A:Ï)(C:RB)(sp:Sp):Prop:=∃i,(i=5\/i=6\/i=7\/i=11\/i=12)/\C=Ğ A i/\sp=cX A i
theorem GL(T:Txt K mg A):∀C sp,KW A C sp->Ě K C/\∃ps,uP P w K mg base 2 C "reads" ps sp:=by
 rintro C sp ⟨i,rfl|rfl|rfl|rfl|rfl,rfl,rfl⟩
 ·exact{T.fX.cl,_,tM T}
 ·exact{T.eI.cl,_,tQ T}
 ·exact{T.bE.cl,_,rE T}
 ·exact{T.cf.cl,_,uL T}
 exact{T.br.cl,_,rF T}
structure Lk where
 fr:Str
 to:Str
 kd:Str
 no:Int
def Lk.vs(l:Lk):List V:=[.str l.fr,.str l.to,.str l.kd,.int l.no]
def LkR(l:Lk)(y:V)(H:Hp):Prop:=∃t,y=V.ref t/\H t=YV (.tup l.vs)
def ă(H:Hp)(ls:List Lk)(ys:List V):Prop:=Paired (λl y=>LkR l y H) ls ys
theorem ă.same{H H':Hp}(s:∀x w,H x=YV (.tup w)->H' x=YV (.tup w)){ls:List Lk}{ys:List V}(h:ă H ls ys):ă H' ls ys:=Paired.gR h λ_ _ ⟨t,e,h1⟩=>{t,e,s _ _ h1}
theorem oV{α β γ:Type}{F:α->β->Prop}(g:γ->α):∀{l:List γ}{m:List β},Paired (λx y=>F (g x) y) l m->Paired F (l.map g) m
 |_,_,.nil=>.nil
 |_,_,.cons h r=>.cons h (oV g r)
def drP(into:Str):Option Str->Bool
 |none=>false
 |some x=>!decide (x=into)
def Ė(fs:List (Option Str))(into kd:Str)(n:Int):List Lk:=(fs.filter (drP into)).map λf=>⟨f.getD Su,into,kd,n⟩
theorem gW(fs:List (Option Str))(into kd:Str)(n:Int):(Ė fs into kd n).length<=fs.length:=by
 unfold Ė;rw[OU];exact PX _ _
inductive kg(K:RG)(vs:List V)(H:Hp)(Q:VK)(Ã:XK):Prop
 |mk(L:RB)(fs:List (Option Str))(into kd:Str)(n:Int)(z0:vs=[.ref L,.str into,.str kd,.int n])(z1:À K H L (fs.map oS))(z2:fs.length<=100)
  (z3:∀(R:RB)(ys:List V)(H':Hp),ak H H'->H R=YW->H' R=YV (.lst ys)->ă H' (Ė fs into kd n) ys->Q (.ref R) H'):kg K vs H Q Ã
theorem rP(T:Txt K mg A):T.drawn.Hz P w base 1 (kg K):=by
 refine T.drawn.hs FF (λf Â A' outer s H vs Q E' hr hu h=>?_);obtain⟨L,fs,into,kd,n,rfl,hL,hl,q⟩:=h;refine{_,(aj (aD (dD (N:=["one","into","kind","number"]) (own:=1) (fr:=[1,2,3]) (bI.of (by kernel_rfl!)) rfl (aW (fv 0)) (λb=>Ò (i:=0) (show R9 (["one","into","kind","number"]:List Sl) by decide+kernel) rfl) (λb=>oK (PW.pt (pw_and (Ö xg (fv 0) bU) (pw_and1 (Ö (CW hu) (fv 0) (fv 1)))))) (λb=>aQ (fv 0^fv 1^fv 2^fv 3^ae))))),OZ {{_,hL},cI (K:=K) (own:=1) fs (drP into) (λf y H=>LkR ⟨f.getD Su,into,kd,n⟩ y H) hL (OU _) (by rw[OU];exact aG ()) ?_ ?_ ?_ ?_}}
 ·intro b i x e v0 H1 Nn Y hx he hv s1 no yes;obtain⟨u0,rfl⟩:∃u0,v0=[u0]:=by
   match v0,hv with
   | [u],_=>exact⟨u,rfl⟩
  rw[O7,he]at hx;cases hx;cases e with
  |none=>exact{rfl,_,rfl,aV (aV (no rfl [YV .Ä] _ rfl (ak.refl _)))}
  |some x=>
   refine{rfl,_,rfl,bK {rfl,_,rfl,?_}};by_cases c:x=into
   ·subst c;exact bh (λz=>absurd z (by show ¬ (!decide (V.str x=V.str x))=true;rw[decide_eq_true rfl];decide)) (λ_=>no (by show(!decide (x=x))=false;rw[decide_eq_true rfl];rfl) [YV (.str x)] _ rfl (ak.refl _))
   refine bh (λ_=>?_) (λz=>absurd (by show(!decide (V.str x=V.str into))=true;rw[OH,decide_eq_false c];rfl) z);exact{by show 4<=sizeLine;decide,λtp é=>yes (by show(!decide (x=into))=true;rw[decide_eq_false c];rfl) [YV (.str x)] _ _ rfl (ak.upd é _) ⟨tp,rfl,ao⟩}
 ·rintro e y H1 H2 s1 ⟨t,e1,h1⟩;exact{t,e1,s1 _ _ h1}
 ·rintro e y H1 D ys zs hD ⟨t,e1,h1⟩;exact{t,e1,aF (λz=>by rw[z,hD]at h1;cases h1) h1}
 intro D H1 ys hD s1 e1 pr;exact q D ys H1 s1 hD e1 (oV _ pr)
def AV(N:Nat->Str)(n:Int)(tp:Th×Str):List Lk:=match tp.1 with
 | .i _=>[]
 | .x a=>Ė [YV (N a)] tp.2 "value" n
def Ξ(N:Nat->Str)(n:Int)(l:List (Th×Str)):List Lk:=l.flatMap (AV N n)
def clB(pl:Option Str)(n:Int)(l:List Str):List Lk:=l.flatMap λinto=>Ė [pl] into "under" n
theorem Bm{α β:Type}(f:α->List β)(h:∀x,(f x).length<=1):∀l:List α,(l.flatMap f).length<=l.length
 | []=>OW _
 |x::l=>by
  have h1:=Bm f h l;have h2:=h x;rw[Xo,O5,Pf];lia
theorem Bw(n:Int)(tp:Th×Str):(AV N n tp).length<=1:=by
 unfold AV;split
 ·simp
 exact gW _ _ _ _
theorem pR{H Hc He:Hp}{R R2:RB}{ls ms:List Lk}{ys zs:List V}(s3:ak Hc He)(è:Hc R=YV (.lst ys))(ly:ă Hc ls ys)(l3:ă He ms zs):ă (upd He R (.lst (ys++zs))) (ls++ms) (ys++zs):=by
 have dR:∀x w,He x=YV (.tup w)->upd He R (.lst (ys++zs)) x=YV (.tup w):=λx w e=>aF (λy=>by rw[y,s3 _ _ è]at e;cases e) e;exact Paired.two (ly.same λx w e=>dR x w (s3 _ _ e)) (l3.same dR)
inductive vB(A:Ï)(vs:List V)(H:Hp)(Q:VK)(Ã:XK):Prop
 |mk(N:Nat->Str)(X:Hp)(v:V)(n:Int)(i:Nat)(ts:List Th)(pl:Option Str)(pp:RB)(ps:List Str)(z0:vs=[v,oS pl,.ref pp])(z1:ak X H)(z2:aS A N X v (.leaf n (.call i ts)))(z3:X pp=YV (.lst (sS ps)))(z4:ts.length=ps.length)(z5:ps.length<=100)
  (z6:∀(R:RB)(ys:List V)(H':Hp),ak H H'->H R=YW->H' R=YV (.lst ys)->ă H' (Ξ N n (ts.zip ps)++clB pl n (ps++[N i])) ys->Q (.ref R) H'):vB A vs H Q Ã
theorem Et(T:Txt K mg A):T.kE.Hz P w base 2 (vB A):=by
 refine T.kE.hs (k:=1) cY (λf Â A' outer s H vs Q E' hr hu h=>?_);obtain⟨N,X,v,n,i,ts,pl,pp,ps,rfl,s0,pa,hpp,tl,pl1,q⟩:=h;unfold aS at pa;obtain⟨a,dx,p,rfl,h1,h2⟩:=pa;have h2:=h2 _ rfl;refine⟨_,(af (É 3 cY.nd (aP ae))
  (af (bc RO rfl (F9 rfl T.zc (aA (fv 0) rfl^fv 2^ae)) (kR rfl (bj (Ò (i:=4) cY.nd rfl) (bj (Ò (i:=5) cY.nd rfl) gU)))
   (aj (aN (aO (Ó aI T.av (fv 4^(kM (v:=.ty "str") rfl T.vH (by boot_by_name) rfl)^ae)) (λ_=>rfl))
    (aj (aT (er (fv 3) (au (rP T) hr (aP (fv 4^ae)^fv 5^aK^aA (fv 0) rfl^ae)^ae))))
    aH)))
  (af (bc RO rfl (aW (aE aX (fv 2) (aP (aA (fv 0) rfl^ae)))) (Ò (i:=6) cY.nd rfl)
   (aj (aT (er (fv 3) (au (rP T) hr (aP (fv 1^ae)^fv 6^aK^aA (fv 0) rfl^ae)^ae)))))
  (aj (aD (fv 3)))))),?_⟩
 refine ah λM1 K1=>{Pc _,λR hR=>?_};obtain⟨s1,e1⟩:=Ð hR (HO.lst []);generalize upd H R _=H1 at s1 e1⊢;refine K1 _ _ ?_;clear K1 M1;rfl'
 refine ah λM1 K1=>?_;have Ϻ:=s0.trans s1;refine Ê (Ϻ _ _ h1) T.cM.cl T.kx rfl {_,_,rfl,{_,À.of (Ϻ _ _ h2)},{_,À.of (Ϻ _ _ hpp)},Cv (K:=K) (xs:=ts.map (Th.v N)) (ys:=sS ps) (λj B Hc=>∃(ys:List V)(v4 v5:Option V),B=[YV (.ref a),YV (oS pl),YV (.ref pp),YV (.ref R),v4,v5,YW]/\ak H Hc/\Hc R=YV (.lst ys)/\ă Hc (Ξ N n ((ts.zip ps).take j)) ys) {[],YW,YW,rfl,s1,e1,.nil} (λj B Hc _ ⟨_,_,_,_,z,_⟩=>{À.of ((s0.trans z) _ _ h2),À.of ((s0.trans z) _ _ hpp)}) (by rw[OU,OU];exact tl) ?_ ?_}
 ·rintro j x y B Hc tp hx hy ⟨ys,v4,v5,rfl,sc,è,ly⟩ é;rw[O7]at hx hy;cases ht:ts[j]? with
  |none=>rw[ht]at hx;cases hx
  |some th=>
  cases hp:ps[j]? with
  |none=>rw[hp]at hy;cases hy
  |some pn=>
  rw[ht]at hx;rw[hp]at hy;cases hx;cases hy;have hz:(ts.zip ps)[j]?=YV (th,pn):=List.getElem?_zip_eq_some.mpr ⟨ht,hp⟩;have st:Ξ N n ((ts.zip ps).take (j+1))=Ξ N n ((ts.zip ps).take j)++AV N n (th,pn):=pJ (AV N n) hz;have sl:=Bm (AV N n) (Bw n) ((ts.zip ps).take j);rw[Pq,QS]at sl;have Δ:=RN ly;unfold Ξ at Δ;have sp:=ak.upd é (.tup [th.v N,.str pn]);have tR:tp≠R:=YX é è;rfl'
  refine{tp,_,rfl,Æ.of ao,rfl,_,_,rfl,_,_,rfl,rfl,?_};cases th with
  |i m=>
   refine{_,_,_,false,rfl,(λz=>by cases z),.int m,Fh,false,rfl,aV {ys,_,_,rfl,sc.trans sp,sp _ _ è,?_}};rw[st];show ă _ (_++[]) ys;rw[PH];exact ly.same λx w e=>sp _ _ e
  |x b=>
   refine{_,_,_,true,rfl,(λz=>by cases z),.str _,AZ,true,rfl,bK {OZ {rfl,_,À.of (sp _ _ è)},by show 1<=sizeLine;decide,λq1 hq1=>?_}};have sq:=ak.upd hq1 (.lst [Th.v N (.x b)]);refine Ê ((((s0.trans sc).trans sp).trans sq) _ _ h1) T.cM.cl T.dF rfl {q1,[YV (N b)],pn,"value",n,rfl,À.of ao,by simp,λR2 zs He s3 hR2 ϰ l3=>?_};have lz:=RN l3;have dl:=gW [YV (N b)] pn "value" n;have s4:=(sp.trans sq).trans s3;refine{_,_,_,_,rfl,rfl,s4 _ _ è,ϰ,sz (by simp only[Po]at dl;lia),{_,_,_,rfl,ak.out (sc.trans s4) hR _,ao,?_}};rw[st];exact pR (H:=H) (R2:=R2) s4 è ly l3
 rintro B Hc ⟨ys,v4,v5,rfl,sc,è,ly⟩;rw[show(ts.zip ps).take (ts.map (Th.v N)).length=ts.zip ps by rw[OU];exact QG (by rw[QS];lia)]at ly;have l1:(Ξ N n (ts.zip ps)).length<=100:=O6 (Bm (AV N n) (Bw n) _) (by rw[QS];lia);refine K1 _ _ ?_;clear K1 M1;generalize Ξ N n (ts.zip ps)=LA at ly l1 q;rfl'
 refine ah λM1 K1=>?_;have sX:=s0.trans sc;refine Ê (sX _ _ h1) T.cM.cl T.eM rfl {by show 1<=sizeLine;decide,λq1 hq1=>?_};have sq:=ak.upd hq1 (.lst [.str (N i)]);refine{pp,q1,_,_,rfl,rfl,(sX.trans sq) _ _ hpp,ao,sz (by rw[OU,Po];lia),λq2 hq2=>?_};have sq2:=ak.upd hq2 (.lst (sS ps++[.str (N i)]));have es:sS ps++[V.str (N i)]=sS (ps++[N i]):=by simp[sS]
 rw[es]at sq2⊢;have eq2:upd (upd Hc q1 (.lst [.str (N i)])) q2 (.lst (sS (ps++[N i]))) q2=YV (.lst (sS (ps++[N i]))):=ao;have sc2:=sq.trans sq2;have q2R:q2≠R:=YX hq2 (sq _ _ è);generalize upd (upd Hc q1 (.lst [.str (N i)])) q2 (.lst (sS (ps++[N i])))=H2 at sc2 eq2⊢;have is1:(ps++[N i]).length<=101:=by simp;lia
 generalize ps++[N i]=is at eq2 is1 q;refine OZ {{_,À.of eq2},a9 (K:=K) (xs:=sS is) (λj B Hd=>∃(zs:List V)(v6:Option V),B=[YV (.ref a),YV (oS pl),YV (.ref pp),YV (.ref R),v4,v5,v6]/\Sm [R] H2 Hd/\Hd R=YV (.lst zs)/\ă Hd (LA++clB pl n (is.take j)) zs) {ys,YW,rfl,Sm.refl _ _,sc2 _ _ è,by show ă _ (_++[]) _;rw[PH];exact ly.same λx w e=>sc2 _ _ e} (λj B Hd _ ⟨_,_,_,z,_⟩=>À.of (z _ _ (λm=>q2R (OT.mp m)) eq2)) ?_ ?_}
 ·rintro j x B Hd hx ⟨zs,v6,rfl,sd,ś,lz⟩;rw[O7]at hx;cases hi:is[j]? with
  |none=>rw[hi]at hx;cases hx
  |some into=>
  rw[hi]at hx;cases hx;have st:clB pl n (is.take (j+1))=clB pl n (is.take j)++Ė [pl] into "under" n:=pJ _ hi;have sl:=Bm (λinto=>Ė [pl] into "under" n) (λx=>gW _ _ _ _) (is.take j);rw[Pq]at sl;have llz:=RN lz;unfold clB at llz;rw[O5]at llz;have sX2:ak H Hd:=sd.same (sc.trans sc2) (λm hm=>by rw[OT.mp hm];exact hR);rfl'
  refine{OZ {rfl,_,À.of ś},by show 1<=sizeLine;decide,λq3 Ϣ=>?_};have ŗ:=ak.upd Ϣ (.lst [oS pl]);refine Ê (((s0.trans sX2).trans ŗ) _ _ h1) T.cM.cl T.dF rfl {q3,[pl],into,"under",n,rfl,À.of ao,by simp,λR2 ws He s3 hR2 ϰ l3=>?_};have lw:=RN l3;have dl:=gW [pl] into "under" n;have s4:=ŗ.trans s3;refine{_,_,_,_,rfl,rfl,s4 _ _ ś,ϰ,sz (by simp only[Po]at dl;lia),{_,_,rfl,(sd.trans (Sm.new s4)).trans (Sm.at (OT.mpr rfl) _),ao,?_}};rw[st,<-QZ];exact pR (H:=H) (R2:=R2) s4 ś lz l3
 rintro B Hd ⟨zs,v6,rfl,sd,ś,lz⟩;rw[show is.take (sS is).length=is by rw[OU];exact Pk]at lz;exact K1 _ _ (q R zs Hd (sd.same (sc.trans sc2) (λm hm=>by rw[OT.mp hm];exact hR)) hR ś lz)
def k5:Pt->Bool
 | .leaf _ (.set _ _)=>true
 | .leaf _ (.put _ _ _)=>true
 | .leaf _ (.snd _ _)=>true
 | .leaf _ (.say _ _ _)=>true
 | .leaf _ (.call _ _)=>true
 | .leaf _ .last=>true
 | .iff _ _ _ _ _ _=>true
 | .loop _ _ _ _ _ _=>true
 |_=>false
def ŷ(N:Nat->Str)(t:Pt)(into kd:Str)(pl:Option Str):List Lk:=Ė ((Ù N (ć t)).map YV) into kd t.no++Ė [pl] into "under" t.no
def saL(pl:Option Str)(x m:Str)(n:Int):List Lk:=Ė [YV m] x "value" n++Ė [pl] x "under" n++Ė [pl] (bw n) "under" n
def zP(N:Nat->Str)(po:Str->List Str)(t:Pt)(pl lp:Option Str):List Lk:=match t with
 | .leaf n (.set x v)=>ŷ N (.leaf n (.set x v)) (N x) "value" pl
 | .leaf n (.put x p v)=>ŷ N (.leaf n (.put x p v)) (N x) "value" pl
 | .leaf n (.call i ts)=>Ξ N n (ts.zip (po (N i)))++clB pl n (po (N i)++[N i])
 | .leaf n (.snd h v)=>ŷ N (.leaf n (.snd h v)) (bw n) "value" pl
 | .leaf n (.say x _ m)=>saL pl (N x) (N m) n
 | .leaf n .last=>Ė [pl] (lp.getD Su) "under" n
 | .iff n v l r f o=>ŷ N (.iff n v l r f o) (bw n) "test" pl
 | .loop n t m l r b=>ŷ N (.loop n t m l r b) (bw n) "test" pl
 |_=>[]
theorem BO(t:Pt)(into kd:Str)(pl:Option Str):(ŷ N t into kd pl).length<=4:=by
 unfold ŷ;have h1:=gW ((Ù N (ć t)).map YV) into kd t.no;have h2:=gW [pl] into "under" t.no;have h3:=nq N (ć t) [];have h4:=BD t;rw[OU]at h1;rw[O5];simp only[Po,P5]at h2 h3;unfold Ù at h1⊢;lia
def lOk(t:Pt)(lp:Option Str):Prop:=t.ci=10->lp.isSome=true
def Fp(X H:Hp)(D:RB)(po:Str->List Str)(nm:List Str):Prop:=∃kvs,H D=YV (.dK kvs)/\∀x∈nm,(po x).length<=100/\∃pp,L2.bx kvs (.inr x)=YV (.ref pp)/\X pp=YV (.lst (sS (po x)))
theorem Fp.same{X H H':Hp}{D:RB}{po:Str->List Str}{nm:List Str}(h:Fp X H D po nm)(e:∀kvs,H D=YV (.dK kvs)->H' D=YV (.dK kvs)):Fp X H' D po nm:=by
 obtain⟨kvs,h1,h2⟩:=h;exact{kvs,e _ h1,h2}
def Jb(N:Nat->Str)(po:Str->List Str)(nm:List Str):Pt->Prop
 | .leaf _ (.call i ts)=>N i∈nm/\ts.length=(po (N i)).length
 |_=>True
inductive CC(A:Ï)(vs:List V)(H:Hp)(Q:VK)(Ã:XK):Prop
 |mk(N:Nat->Str)(X:Hp)(v:V)(t:Pt)(pl lp:Option Str)(D:RB)(po:Str->List Str)(nm:List Str)(z0:vs=[v,oS pl,oS lp,.ref D])(z1:ak X H)(z2:aS A N X v t)(z3:k5 t=true)(z4:0<=t.no/\t.no<=1000)(z8:lOk t lp)(z5:Fp X H D po nm)(z6:Jb N po nm t)
  (z7:∀(R:RB)(ys:List V)(H':Hp),ak H H'->H R=YW->H' R=YV (.lst ys)->ă H' (zP N po t pl lp) ys->Q (.ref R) H'):CC A vs H Q Ã
inductive Bz(A:Ï)(vs:List V)(H:Hp)(Q:VK)(Ã:XK):Prop
 |mk(N:Nat->Str)(X:Hp)(v:V)(n:Int)(x m:Nat)(val:Val)(pl:Option Str)(z0:vs=[v,oS pl])(z1:ak X H)(z2:aS A N X v (.leaf n (.say x val m)))(z4:0<=n/\n<=1000)
  (z7:∀(R:RB)(ys:List V)(H':Hp),ak H H'->H R=YW->H' R=YV (.lst ys)->ă H' (saL pl (N x) (N m) n) ys->Q (.ref R) H'):Bz A vs H Q Ã
theorem KY(T:Txt K mg A):T.oq.Hz P w base 2 (Bz A):=by
 have M5:=@rP P w _ _ base _ T;refine T.oq.hs (k:=1) nY (λf Â A' outer s H vs Q E' hr hu h=>?_);obtain⟨N,X,v,n,x,m,val,pl,rfl,s0,pa,nt,q⟩:=h;unfold aS at pa;obtain⟨a,dx,p,rfl,h1,_⟩:=pa;refine⟨_,(af (É 2 nY.nd (au M5 hr (aP (aA (fv 0) rfl^ae)^aA (fv 0) rfl^aK^aA (fv 0) rfl^ae)))
  (af (aT (er (fv 2) (au M5 hr (aP (fv 1^ae)^aA (fv 0) rfl^aK^aA (fv 0) rfl^ae)^ae)))
  (aj (aD (aE aX (fv 2) (au M5 hr (aP (fv 1^ae)^au (pP T) hr (aA (fv 0) rfl^ae)^aK^aA (fv 0) rfl^ae))))))),?_⟩
 refine ah λM1 K1=>Ê (s0 _ _ h1) T.bS.cl T.oj rfl {by show 1<=sizeLine;decide,λq1 hq1=>?_};have s1:=ak.upd hq1 (.lst [V.str (N m)]);have Ϻ:=s0.trans s1;refine Ê (Ϻ _ _ h1) T.bS.cl T.jF rfl (Ê (Ϻ _ _ h1) T.bS.cl T.cv rfl {q1,[YV (N m)],N x,"value",n,rfl,À.of ao,by simp,λR y1 H2 s2 n2 e2 l2=>K1 _ _ ?_});clear K1 M1;have t2:=s1.trans s2;have hR:H R=YW:=ak.free s1 n2;have a1:=RN l2;have b1:=gW [YV (N m)] (N x) "value" n;rfl'
 refine ah λM1 K1=>{OZ {rfl,_,À.of e2},by show 1<=sizeLine;decide,λq3 Ϣ=>?_};have s3:=ak.upd Ϣ (.lst [oS pl]);have sX3:=s0.trans (t2.trans s3);refine Ê (sX3 _ _ h1) T.bS.cl T.jF rfl (Ê (sX3 _ _ h1) T.bS.cl T.cv rfl {q3,[pl],N x,"under",n,rfl,À.of ao,by simp,λR2 y2 H4 s4 n4 e4 l4=>?_});have ţ:=s3.trans s4;have a2:=RN l4;have b2:=gW [pl] (N x) "under" n;simp only[Po]at b1 b2;refine{_,_,_,_,rfl,rfl,ţ _ _ e2,e4,sz (),?_};have l5:=pR (H:=H) (R2:=R2) ţ e2 l2 l4;have s5:ak H (upd H4 R (.lst (y1++y2))):=ak.out (t2.trans ţ) hR _;have e5:upd H4 R (.lst (y1++y2)) R=YV (.lst (y1++y2)):=ao;generalize upd H4 R (.lst (y1++y2))=H5 at l5 s5 e5⊢;refine K1 _ _ ?_;clear K1 M1;rfl'
 refine{by show 1<=sizeLine;decide,λq6 hq6=>?_};have s6:=ak.upd hq6 (.lst [oS pl]);have sX6:=s0.trans (s5.trans s6);refine Ê (sX6 _ _ h1) T.bS.cl T.cv rfl {_,rfl,nt.1,nt.2,Ê (sX6 _ _ h1) T.bS.cl T.cv rfl {q6,[pl],bw n,"under",n,rfl,À.of ao,by simp,λR3 y3 H7 s7 n7 e7 l7=>?_}};have Α:=s6.trans s7;have a3:=RN l7;have b3:=gW [pl] (bw n) "under" n;simp only[Po]at b3;refine{R,R3,_,_,rfl,rfl,Α _ _ e5,e7,sz (by rw[O5];lia),λR4 hR4=>?_};have s8:=ak.upd hR4 (.lst (y1++y2++y3));exact q R4 _ _ (s5.trans (Α.trans s8)) (ak.free (s5.trans Α) hR4) ao (Paired.two (l5.same λz w e=>(Α.trans s8) _ _ e) (l7.same λz w e=>s8 _ _ e))
theorem Ny{X:Hp}{v:V}{p:Pt}(h:aS A N X v p):∃a dx fs,v=.ref a/\X a=YV (.ins (Ğ A p.ci) dx fs)/\fs.lookup ("reads":Str)=YW:=by
 cases p with
 |leaf n r=>
  unfold aS at h;obtain⟨a,dx,p,e,h1,h2⟩:=h;exact{a,dx,_,e,h1,by cases r<;>rfl}
 |iff n val l r f o=>
  unfold aS at h;obtain⟨a,dx,p,pf,po,xf,xo,e,h1,_⟩:=h;exact{a,dx,_,e,h1,rfl}
 |loop n t m l r b=>
  unfold aS at h;obtain⟨a,dx,pb,xb,e,h1,_⟩:=h;exact{a,dx,_,e,h1,rfl}
 |dU n i ps b=>
  unfold aS at h;exact h.elim
theorem Ku(T:Txt K mg A):T.qb.Hz P w base 3 (CC A):=by
 have M5:=@rP P w _ _ base _ T;have M_reads:=GL (P:=P) (w:=w) (mg:=mg) (base:=base) T;refine T.qb.hs (k:=2) pe (λf Â A' outer s H vs Q E' hr hu h=>?_);obtain⟨N,X,v,t,pl,lp,D,po,nm,rfl,s0,pa,hk,nt,hlp,hD,hc,q⟩:=h;refine⟨_,(af (É 4 pe.nd (au (pP T) hr (aA (fv 0) rfl^ae)))
  (af (aN (PW.pt (pw_or (aO (Ó aI T.av (fv 0^aL T.fX.mg^ae)) (λ_=>rfl)) (pw_or1 (aO (Ó aI T.av (fv 0^aL T.eI.mg^ae)) (λ_=>rfl)))))
   (aj (aD (aE aX (au M5 hr (qA (fv 0) M_reads hr^aA (fv 0) rfl^aK^aA (fv 0) rfl^ae)) (au M5 hr (aP (fv 1^ae)^aA (fv 0) rfl^aK^aA (fv 0) rfl^ae)))))
   aH)
  (af (aN (aO (Ó aI T.av (fv 0^aL T.bE.mg^ae)) (λ_=>rfl))
   (aj (aD (aE aX (au M5 hr (qA (fv 0) M_reads hr^fv 4^aK^aA (fv 0) rfl^ae)) (au M5 hr (aP (fv 1^ae)^fv 4^aK^aA (fv 0) rfl^ae)))))
   aH)
  (af (aN (aO (Ó aI T.av (fv 0^aL T.bS.mg^ae)) (λ_=>rfl))
   (aj (aD (au (KY T) hr (fv 0^fv 1^ae))))
   aH)
  (af (aN (PW.pt (pw_or (aO (Ó aI T.av (fv 0^aL T.cf.mg^ae)) (λ_=>rfl)) (pw_or1 (aO (Ó aI T.av (fv 0^aL T.br.mg^ae)) (λ_=>rfl)))))
   (aj (aD (aE aX (au M5 hr (qA (fv 0) M_reads hr^fv 4^aK^aA (fv 0) rfl^ae)) (au M5 hr (aP (fv 1^ae)^fv 4^aK^aA (fv 0) rfl^ae)))))
   aH)
  (af (aN (aO (Ó aI T.av (fv 0^aL T.j7.mg^ae)) (λ_=>rfl))
   (aj (aD (au M5 hr (aP (fv 1^ae)^fv 2^aK^aA (fv 0) rfl^ae))))
   aH)
  (aj (aD (au (Et T) hr (fv 0^fv 1^px hu (fv 3) (aA (fv 0) rfl)^ae)))))))))),?_⟩
 refine ah λM1 K1=>dN T s0 pa {_,rfl,nt.1,nt.2,K1 _ _ ?_};clear K1 M1;rfl'
 have ob:=Ny pa;have jn:∀(kd into:Str)(R:VK),(∀(R':RB)(ys:List V)(H':Hp),ak H H'->H R'=YW->H' R'=YV (.lst ys)->ă H' (ŷ N t into kd pl) ys->R (.ref R') H')->
   ∀(R1 R2:RB)(y1 y2:List V)(H2 H3:Hp),ak H H2->H2 R1=YV (.lst y1)->ă H2 (Ė ((Ù N (ć t)).map YV) into kd t.no) y1->ak H2 H3->H3 R2=YV (.lst y2)->ă H3 (Ė [pl] into "under" t.no) y2->HH (.ref R1) (.ref R2) H3 R:=by
  intro kd into R qq R1 R2 y1 y2 H2 H3 s2 e2 l2 s3 e3 l3
  have d:=BO (N:=N) t into kd pl
  have a1:=RN l2
  have a2:=RN l3
  unfold ŷ at d
  rw[O5]at d
  refine{R1,R2,_,_,rfl,rfl,s3 _ _ e2,e3,sz (),λR hR=>?_}
  have s5:=ak.upd hR (.lst (y1++y2))
  exact qq R _ _ ((s2.trans s3).trans s5) (ak.free (s2.trans s3) hR) ao (Paired.two (l2.same λx w e=>s5 _ _ (s3 _ _ e)) (l3.same λx w e=>s5 _ _ e))
 have rl:∀{p:RB}{H1:Hp},H1 p=YV (.lst (sS (Ù N (ć t))))->À K H1 p (((Ù N (ć t)).map YV).map oS)/\((Ù N (ć t)).map YV).length<=100:=λe1=>by
  have h3:=nq N (ć t) [];have h4:=BD t;simp only[P5]at h3;exact{À.of (by rw[e1,P6];rfl),by rw[OU];unfold Ù;lia}
 have two:∀(kd:Str)(R:VK),(∀(R':RB)(ys:List V)(H':Hp),ak H H'->H R'=YW->H' R'=YV (.lst ys)->ă H' (ŷ N t (bw t.no) kd pl) ys->R (.ref R') H')->∀(p:RB)(H1:Hp),H p=YW->ak H H1->H1 p=YV (.lst (sS (Ù N (ć t))))->
   kg K [.ref p,.str (bw t.no),.str kd,.int t.no] H1 (λx H2=>1<=sizeLine/\∀q3,H2 q3=YW->lN K "number" v (upd H2 q3 (.lst [oS pl])) λu H3=>kg K [.ref q3,.str (bw t.no),.str "under",u] H3 (λy H4=>HH x y H4 R) E0) E0:=by
  intro kd R qq p H1 hp s1 e1
  refine{p,(Ù N (ć t)).map YV,bw t.no,kd,t.no,rfl,(rl e1).1,(rl e1).2,λR1 y1 H2 s2 n2 e2 l2=>{∅,λq3 Ϣ=>?_}}
  have ŗ:=ak.upd Ϣ (.lst [oS pl])
  exact dN T (((s0.trans s1).trans s2).trans ŗ) pa {q3,[pl],bw t.no,"under",t.no,rfl,À.of ao,by simp,λR2 y2 H3 s3 n3 e3 l3=>jn kd _ R qq R1 R2 y1 y2 H2 H3 (s1.trans s2) e2 l2 (ŗ.trans s3) e3 l3}
 have twoN:∀(into:Str)(R:VK),(∀(H':Hp){Q:VK},ak X H'->Q (.str into) H'->lN K "name" v H' Q)->(∀(R':RB)(ys:List V)(H':Hp),ak H H'->H R'=YW->H' R'=YV (.lst ys)->ă H' (ŷ N t into "value" pl) ys->R (.ref R') H')->∀(p:RB)(H1:Hp),H p=YW->ak H H1->H1 p=YV (.lst (sS (Ù N (ć t))))->
   lN K "name" v H1 λi1 H1'=>lN K "number" v H1' λm1 H1''=>kg K [.ref p,i1,.str "value",m1] H1'' (λx H2=>1<=sizeLine/\∀q3,H2 q3=YW->lN K "name" v (upd H2 q3 (.lst [oS pl])) λi2 H3'=>lN K "number" v H3' λu H3=>kg K [.ref q3,i2,.str "under",u] H3 (λy H4=>HH x y H4 R) E0) E0:=by
  intro into R nf qq p H1 hp s1 e1
  refine nf H1 (s0.trans s1) (dN T (s0.trans s1) pa {p,(Ù N (ć t)).map YV,into,"value",t.no,rfl,(rl e1).1,(rl e1).2,λR1 y1 H2 s2 n2 e2 l2=>{∅,λq3 Ϣ=>?_}})
  have ŗ:=ak.upd Ϣ (.lst [oS pl])
  have sX3:=((s0.trans s1).trans s2).trans ŗ
  exact nf _ sX3 (dN T sX3 pa {q3,[pl],into,"under",t.no,rfl,À.of ao,by simp,λR2 y2 H3 s3 n3 e3 l3=>jn "value" _ R qq R1 R2 y1 y2 H2 H3 (s1.trans s2) e2 l2 (ŗ.trans s3) e3 l3})
 obtain⟨a,dx,fs,rfl,h1,hno⟩:=ob;refine ah λM1 K1=>?_;by_cases c5:t.ci=5
 ·refine fW T s0 pa c5 (bK ?_);have rr:∀{Q:VK},(∀(p:RB)(H':Hp),H p=YW->ak H H'->H' p=YV (.lst (sS (Ù N (ć t))))->Q (.ref p) H')->cX A 5 [.ref a] H Q E0:=λk=>{N,X,_,_,rfl,s0,pa,c5,k};refine{a,_,dx,_,_,rfl,s0 _ _ h1,hno,{5,∅,by rw[c5],rfl},rr ?_};clear two jn rl rr;cases t with
  |leaf n r=>
   cases r with
   |set x val=>
    have ú:=pa;unfold aS at ú;obtain⟨a',ϗ,p',e',ĝ,_⟩:=ú;cases e';exact twoN (N x) _ (λH' Q sx k=>Ê (sx _ _ ĝ) T.fX.cl T.nO rfl k) q
   |_=>cases c5
  |_=>cases c5
 refine cH T s0 pa c5 (aV ?_);by_cases c6:t.ci=6
 ·refine fW T s0 pa c6 (bK ?_);have rr:∀{Q:VK},(∀(p:RB)(H':Hp),H p=YW->ak H H'->H' p=YV (.lst (sS (Ù N (ć t))))->Q (.ref p) H')->cX A 6 [.ref a] H Q E0:=λk=>{N,X,_,_,rfl,s0,pa,c6,k};refine{a,_,dx,_,_,rfl,s0 _ _ h1,hno,{6,∅,by rw[c6],rfl},rr ?_};clear two jn rl rr;cases t with
  |leaf n r=>
   cases r with
   |put x pt val=>
    have ú:=pa;unfold aS at ú;obtain⟨a',ϗ,p',e',ĝ,_⟩:=ú;cases e';exact twoN (N x) _ (λH' Q sx k=>Ê (sx _ _ ĝ) T.eI.cl T.oh rfl k) q
   |_=>cases c6
  |_=>cases c6
 refine cH T s0 pa c6 (aV (K1 _ _ ?_));clear K1 M1 twoN;refine ah λM1 K1=>?_;by_cases c7:t.ci=7
 ·refine fW T s0 pa c7 (bK ?_);have rr:∀{Q:VK},(∀(p:RB)(H':Hp),H p=YW->ak H H'->H' p=YV (.lst (sS (Ù N (ć t))))->Q (.ref p) H')->cX A 7 [.ref a] H Q E0:=λk=>{N,X,_,_,rfl,s0,pa,c7,k};refine{a,_,dx,_,_,rfl,s0 _ _ h1,hno,{7,∅,by rw[c7],rfl},rr λp H1 hp s1 e1=>dN T (s0.trans s1) pa (two "value" _ ?_ p H1 hp s1 e1)};clear two jn rl rr;cases t with
  |leaf n r=>
   cases r with
   |snd x val=>exact q
   |_=>cases c7
  |_=>cases c7
 refine cH T s0 pa c7 (aV (K1 _ _ ?_));clear K1 M1;refine ah λM1 K1=>?_;by_cases c8:t.ci=8
 ·refine fW T s0 pa c8 (bK ?_);clear two jn rl;cases t with
  |leaf n r=>
   cases r with
   |say x val m=>exact{N,X,_,n,x,m,val,pl,rfl,s0,pa,nt,q}
   |_=>cases c8
  |_=>cases c8
 refine cH T s0 pa c8 (aV (K1 _ _ ?_));clear K1 M1;refine ah λM1 K1=>?_;by_cases Ę:t.ci=11
 ·refine fW T s0 pa Ę (bK ?_);have rr:∀{Q:VK},(∀(p:RB)(H':Hp),H p=YW->ak H H'->H' p=YV (.lst (sS (Ù N (ć t))))->Q (.ref p) H')->cX A 11 [.ref a] H Q E0:=λk=>{N,X,_,_,rfl,s0,pa,Ę,k};refine{a,_,dx,_,_,rfl,s0 _ _ h1,hno,{11,∅,by rw[Ę],rfl},rr λp H1 hp s1 e1=>dN T (s0.trans s1) pa (two "test" _ ?_ p H1 hp s1 e1)};clear two jn rl rr;cases t with
  |leaf n r=>cases r<;>cases Ę
  |iff n val l r fs os=>exact q
  |_=>cases Ę
 refine cH T s0 pa Ę (aV ?_);by_cases Ĭ:t.ci=12
 ·refine fW T s0 pa Ĭ (bK ?_);have rr:∀{Q:VK},(∀(p:RB)(H':Hp),H p=YW->ak H H'->H' p=YV (.lst (sS (Ù N (ć t))))->Q (.ref p) H')->cX A 12 [.ref a] H Q E0:=λk=>{N,X,_,_,rfl,s0,pa,Ĭ,k};refine{a,_,dx,_,_,rfl,s0 _ _ h1,hno,{12,∅,by rw[Ĭ],rfl},rr λp H1 hp s1 e1=>dN T (s0.trans s1) pa (two "test" _ ?_ p H1 hp s1 e1)};clear two jn rl rr;cases t with
  |leaf n r=>cases r<;>cases Ĭ
  |loop n th m l r b=>exact q
  |_=>cases Ĭ
 refine cH T s0 pa Ĭ (aV (K1 _ _ ?_));clear K1 M1 two jn rl;refine ah λM1 K1=>?_;by_cases c10:t.ci=10
 ·refine fW T s0 pa c10 (bK ?_);cases lp with
  |none=>exact absurd (hlp c10) ∅
  |some lq=>
  refine{by show 1<=sizeLine;decide,λq3 Ϣ=>?_};have ŗ:=ak.upd Ϣ (.lst [oS pl]);refine dN T (s0.trans ŗ) pa {q3,[pl],lq,"under",t.no,rfl,À.of ao,by simp,λR2 y2 H3 s3 n3 e3 l3=>q R2 y2 H3 (ŗ.trans s3) (ak.free ŗ n3) e3 ?_};cases t with
  |leaf n r=>
   cases r with
   |last=>exact l3
   |_=>cases c10
  |_=>cases c10
 refine cH T s0 pa c10 (aV (K1 _ _ ?_));clear K1 M1;cases t with
 |leaf n r=>
  cases r with
  |call i ts=>
   have ú:=pa;unfold aS at ú;obtain⟨a',ϗ,p,e',ĝ,_⟩:=ú;cases e';obtain⟨kvs,eD,hd⟩:=hD;obtain⟨c1,c2⟩:=hc;obtain⟨l1,pp,e1,e2⟩:=hd _ c1;exact Ê (s0 _ _ ĝ) T.cM.cl T.eM rfl (Ŀ eD e1 {N,X,_,n,i,ts,pl,pp,po (N i),rfl,s0,pa,e2,c2,l1,q})
  |set _ _=>exact absurd rfl c5
  |put _ _ _=>exact absurd rfl c6
  |snd _ _=>exact absurd rfl c7
  |say _ _ _=>exact absurd rfl c8
  |last=>exact absurd rfl c10
  |_=>cases hk
 |iff _ _ _ _ _ _=>exact absurd rfl Ę
 |loop _ _ _ _ _ _=>exact absurd rfl Ĭ
 |dU n i ps b=>cases hk
def oI:Option Int->V
 |none=>.Ä
 |some n=>.int n
def Ow(l r:Int):Option Int->Option Int->Option Int
 |some a,YV b=>if l+a=r+b then YV (1+l+a)else YW
 |_,_=>YW
def OP(m l r:Int):Option Int->Option Int
 |some a=>if l+a=r then YV (1+m*r)else YW
 |none=>YW
def LZ(a:Int):Option Int->Option Int
 |some b=>YV (a+b)
 |none=>YW
def pH:Option Int->Option Int->Option Int
 |some a,x=>LZ a x
 |none,_=>YW
mutual
noncomputable def Ć(kn:Nat->Option Int):Pt->Option Int
 | .leaf _ (.call i _)=>LZ 1 (kn i)
 | .leaf _ _=>YV 1
 | .iff _ _ l r f o=>Ow l r (dn kn f) (dn kn o)
 | .loop _ _ m l r b=>OP m l r (dn kn b)
 | .dU _ _ _ _=>YV 1
noncomputable def dn(kn:Nat->Option Int):List Pt->Option Int
 | []=>YV 0
 |t::ts=>pH (Ć kn t) (dn kn ts)
end
theorem yV(a b c:Option Int):pH (pH a b) c=pH a (pH b c):=by
 cases a with
 |none=>rfl
 |some a=>cases b with
  |none=>rfl
  |some b=>cases c with
   |none=>rfl
   |some c=>show YV (a+b+c)=YV (a+(b+c));rw[Int.add_assoc]
theorem A1(a:Option Int):pH (YV 0) a=a:=by
 cases a with
 |none=>rfl
 |some a=>show YV (0+a)=YV a;rw[Rr]
theorem sV(kn:Nat->Option Int):∀(a b:List Pt),dn kn (a++b)=pH (dn kn a) (dn kn b)
 | [],b=>by rw[Qn,show dn kn []=YV 0 by rw[dn],A1]
 |t::a,b=>by
  rw[XC,dn,dn,sV kn a b,yV]
theorem EA(kn:Nat->Option Int)(t:Pt):dn kn [t]=Ć kn t:=by
 rw[dn,dn];cases Ć kn t with
 |none=>rfl
 |some a=>show YV (a+0)=YV a;rw[Int.add_zero]
theorem vw(kn:Nat->Option Int){ts:List Pt}{i:Nat}{t:Pt}(h:ts[i]?=YV t):dn kn (ts.take (i+1))=pH (dn kn (ts.take i)) (Ć kn t):=by
 rw[PB,h,sV];show pH _ (dn kn [t])=_;rw[EA]
theorem EW(kn:Nat->Option Int){ts:List Pt}{i:Nat}{t:Pt}(h:ts[i]?=YV t)(e:Ć kn t=YW):dn kn ts=YW:=by
 have:=sV kn (ts.take (i+1)) (ts.drop (i+1));rw[Ql,vw kn h,e]at this;rw[this];cases dn kn (ts.take i)<;>rfl
mutual
noncomputable def Ż(idx:List Nat):Pt->Prop
 | .leaf _ (.call i _)=>i∈idx
 | .leaf _ _=>True
 | .iff _ _ _ _ f o=>ye idx f/\ye idx o
 | .loop _ _ m _ _ b=>0<=m/\m<=1000/\ye idx b
 | .dU _ _ _ _=>True
noncomputable def ye(idx:List Nat):List Pt->Prop
 | []=>True
 |t::ts=>Ż idx t/\ye idx ts
end
theorem ze{idx:List Nat}{t:Pt}:∀{ts:List Pt},ye idx ts->t∈ts->Ż idx t
 |t'::ts,h,m=>by
  unfold ye at h;rcases O4.mp m with rfl|m
  ·exact h.1
  exact ze h.2 m
def yN(N:Nat->Str)(H:Hp)(D:RB)(idx:List Nat)(kn:Nat->V):Prop:=∃kvs,H D=YV (.dK kvs)/\∀i∈idx,L2.bx kvs (.inr (N i))=YV (kn i)
inductive A6(vs:List V)(H:Hp)(Q:VK)(Ã:XK):Prop
 |mk(x:Option Int):vs=[oI x]->Q (oI (LZ 1 x)) H->A6 vs H Q Ã
theorem KJ(T:Txt K mg A):T.tW.Hz P w base 1 A6:=by
 refine T.tW.hs xT (λf Â A' outer s H vs Q E' hr hu h=>?_);obtain⟨x,rfl,q⟩:=h;refine{_,(aj (aD (pK (Ö zW (fv 0) bU) bU (aE aX ag (fv 0))))),?_};cases x with
 |none=>exact{rfl,_,rfl,bK q}
 |some n=>exact{rfl,_,rfl,aV q}
inductive ke(A:Ï)(d:Nat)(vs:List V)(H:Hp)(Q:VK)(Ã:XK):Prop
 |mk(N:Nat->Str)(X:Hp)(L D:RB)(xs:List V)(ts:List Pt)(idx:List Nat)(kn:Nat->Option Int):vs=[.ref L,.ref D]->ak X H->X L=YV (.lst xs)->a8 A N X xs ts->pE ts<=d->ye idx ts->(yN N H D idx λi=>oI (kn i))->Q (oI (dn kn ts)) H->ke A d vs H Q Ã
inductive nC(A:Ï)(d:Nat)(vs:List V)(H:Hp)(Q:VK)(Ã:XK):Prop
 |mk(N:Nat->Str)(X:Hp)(v:V)(D:RB)(t:Pt)(idx:List Nat)(kn:Nat->Option Int):vs=[v,.ref D]->ak X H->aS A N X v t->dep t<=d->Ż idx t->(yN N H D idx λi=>oI (kn i))->Q (oI (Ć kn t)) H->nC A d vs H Q Ã
def spN(sp:Nat->Sp):Nat->Sp
 |0=>λ_ _ _ _=>False
 |d+1=>sp d
inductive j9(A:Ï)(d c:Nat)(vs:List V)(H:Hp)(Q:VK)(Ã:XK):Prop
 |mk(N:Nat->Str)(X:Hp)(v:V)(D:RB)(t:Pt)(idx:List Nat)(kn:Nat->Option Int):vs=[v,.ref D]->ak X H->aS A N X v t->dep t<=d->Ż idx t->(yN N H D idx λi=>oI (kn i))->t.ci=c->Q (oI (Ć kn t)) H->j9 A d c vs H Q Ã
theorem yU(T:Txt K mg A)(d j:Nat)(Rx:T.eJ.Hz P w base j (nC A d)):T.dX.Hz P w base (j+1) (ke A d):=by
 refine T.dX.hs (k:=j) cQ (λf Â A' outer s H vs Q E' hr hu h=>?_);obtain⟨N,X,L,D,xs,ts,idx,kn,rfl,s0,hL,pt,dp,ck,hD,q⟩:=h;refine⟨_,(af (É 2 cQ.nd ag)
  (af (bc RO rfl (aW (fv 0)) (Ò (i:=3) cQ.nd rfl)
   (af (É 4 cQ.nd (au (hj:=by lia) Rx hr (fv 3^fv 1^ae)))
   (af (aN (Ö zW (fv 4) bU)
    (aj (aD bU))
    aH)
   (aj (zI (i:=2) cQ.nd rfl (by first|exact OZ rfl|exact Py rfl) (fv 4) Am)))))
  (aj (aD (fv 2))))),?_⟩
 refine ah λM1 K1=>K1 _ _ ?_;clear K1 M1;rfl'
 refine ah λM1 K1=>OZ {{_,À.of (s0 _ _ hL)},a9 (K:=K) (xs:=xs) (λi B Hc=>∃(a:Int)(v3 v4:Option V),B=[YV (.ref L),YV (.ref D),YV (.int a),v3,v4]/\Hc=H/\dn kn (ts.take i)=YV a) {0,YW,YW,rfl,rfl,by rw[QL,dn]} (λi B Hc _ ⟨_,_,_,_,z,_⟩=>z▸À.of (s0 _ _ hL)) ?_ ?_}
 ·rintro i v B Hc hv ⟨a,v3,v4,rfl,rfl,ea⟩;obtain⟨t,ht,pa⟩:=pt.get hv;have mt:t∈ts:=OY ht;rfl'
  refine ah λN1 J1=>{N,X,v,D,t,idx,kn,rfl,s0,pa,O6 (uq mt) dp,ze ck mt,hD,?_};have st:=vw kn ht;rw[ea]at st;refine J1 _ _ ?_;clear J1 N1;rfl'
  refine ah λN1 J1=>?_;cases e:Ć kn t with
  |none=>
   rw[EW kn ht e]at q;exact{rfl,_,rfl,bK q}
  |some b=>
   rw[e]at st;exact{rfl,_,rfl,aV (J1 _ _ {_,rfl,a,b,rfl,rfl,a+b,_,_,rfl,rfl,st})}
 rintro B Hc ⟨a,v3,v4,rfl,rfl,ea⟩;rw[show ts.take xs.length=ts by rw[pt.len];exact Pk]at ea;rw[ea]at q;exact K1 _ _ q
theorem wL(T:Txt K mg A)(d j:Nat)(M6:T.dX.Hz P w base j (spN (ke A) d)):T.jd.Hz P w base (j+1) (j9 A d 11):=by
 refine T.jd.hs (k:=j) iF (λf Â A' outer s H vs Q E' hr hu h=>?_);obtain⟨N,X,v,D,t,idx,kn,rfl,s0,pa,dp,ck,hD,ec,q⟩:=h;refine⟨_,(af (É 2 iF.nd (au (hj:=by lia) M6 hr (aA (fv 0) rfl^fv 1^ae)))
  (af (É 3 iF.nd (au (hj:=by lia) M6 hr (aA (fv 0) rfl^fv 1^ae)))
  (af (aN (PW.pt (pw_or (Ö zW (fv 2) bU) (pw_or (Ö zW (fv 3) bU) (pw_or1 (Ö (CW hu) (aE aX (aA (fv 0) rfl) (fv 2)) (aE aX (aA (fv 0) rfl) (fv 3)))))))
   (aj (aD bU))
   aH)
  (aj (aD (aE aX (aE aX ag (aA (fv 0) rfl)) (fv 2))))))),?_⟩
 cases t with
 |leaf n r=>cases r<;>cases ec
 |loop _ _ _ _ _ _=>cases ec
 |dU _ _ _ _=>cases ec
 |iff n val l r fs os=>
 unfold aS at pa;obtain⟨a,dx,p,pf,po,xf,xo,rfl,h1,h2,h3,h4,h5,h6⟩:=pa;unfold dep at dp;unfold Ż at ck;unfold Ć at q;cases d with
 |zero=>lia
 |succ d=>
 refine ah λM1 K1=>Ê (s0 _ _ h1) T.cf.cl T.jv rfl {N,X,pf,D,xf,fs,idx,kn,rfl,s0,h3,h5,(),ck.1,hD,K1 _ _ ?_};clear K1 M1;rfl'
 refine ah λM1 K1=>Ê (s0 _ _ h1) T.cf.cl T.jz rfl {N,X,po,D,xo,os,idx,kn,rfl,s0,h4,h6,(),ck.2,hD,?_};generalize dn kn fs=ef at q;generalize dn kn os=eo at q;refine K1 _ _ ?_;clear K1 M1;rfl'
 refine ah λM1 K1=>?_;cases ef with
 |none=>exact{rfl,_,rfl,bK q}
 |some b=>
 refine{rfl,_,rfl,aV ?_};cases eo with
 |none=>exact{rfl,_,rfl,bK q}
 |some c=>
 refine{rfl,_,rfl,aV (Ê (s0 _ _ h1) T.cf.cl T.kL rfl (Ê (s0 _ _ h1) T.cf.cl T.om rfl {rfl,_,rfl,?_}))};by_cases e:l+b=r+c
 ·refine bh (λz=>absurd z (by show ¬ (!decide (V.int (l+b)=V.int (r+c)))=true;rw[w9,decide_eq_true e];decide)) (λ_=>K1 _ _ ?_);have q:Q (oI (if l+b=r+c then YV (1+l+b)else YW)) H:=q;rw[if_pos e]at q;exact Ê (s0 _ _ h1) T.cf.cl T.kL rfl q
 refine bh (λ_=>?_) (λz=>absurd (by show(!decide (V.int (l+b)=V.int (r+c)))=true;rw[w9,decide_eq_false e];rfl) z);have q:Q (oI (if l+b=r+c then YV (1+l+b)else YW)) H:=q;rw[if_neg e]at q;exact q
theorem xk(T:Txt K mg A)(d j:Nat)(M6:T.dX.Hz P w base j (spN (ke A) d)):T.fP.Hz P w base (j+1) (j9 A d 12):=by
 refine T.fP.hs (k:=j) kr (λf Â A' outer s H vs Q E' hr hu h=>?_);obtain⟨N,X,v,D,t,idx,kn,rfl,s0,pa,dp,ck,hD,ec,q⟩:=h;refine⟨_,(af (É 2 kr.nd (au (hj:=by lia) M6 hr (aA (fv 0) rfl^fv 1^ae)))
  (af (aN (PW.pt (pw_or (Ö zW (fv 2) bU) (pw_or1 (Ö (CW hu) (aE aX (aA (fv 0) rfl) (fv 2)) (aA (fv 0) rfl)))))
   (aj (aD bU))
   aH)
  (aj (aD (aE aX ag (aE kO (aA (fv 0) rfl) (aA (fv 0) rfl))))))),?_⟩
 cases t with
 |leaf n r=>cases r<;>cases ec
 |iff _ _ _ _ _ _=>cases ec
 |dU _ _ _ _=>cases ec
 |loop n th m l r b=>
 unfold aS at pa;obtain⟨a,dx,pb,xb,rfl,h1,h2,h3⟩:=pa;unfold dep at dp;unfold Ż at ck;unfold Ć at q;cases d with
 |zero=>lia
 |succ d=>
 refine ah λM1 K1=>Ê (s0 _ _ h1) T.br.cl T.iy rfl {N,X,pb,D,xb,b,idx,kn,rfl,s0,h2,h3,(),ck.2.2,hD,?_};generalize dn kn b=ef at q;refine K1 _ _ ?_;clear K1 M1;rfl'
 refine ah λM1 K1=>?_;cases ef with
 |none=>exact{rfl,_,rfl,bK q}
 |some b=>
 refine{rfl,_,rfl,aV (Ê (s0 _ _ h1) T.br.cl T.lP rfl (Ê (s0 _ _ h1) T.br.cl T.gy rfl {rfl,_,rfl,?_}))};have q:Q (oI (if l+b=r then YV (1+m*r)else YW)) H:=q;by_cases e:l+b=r
 ·refine bh (λz=>absurd z (by show ¬ (!decide (V.int (l+b)=V.int r))=true;rw[w9,decide_eq_true e];decide)) (λ_=>K1 _ _ ?_);rw[if_pos e]at q;exact Ê (s0 _ _ h1) T.br.cl T.mw rfl (Ê (s0 _ _ h1) T.br.cl T.gy rfl {DH () (),q})
 refine bh (λ_=>?_) (λz=>absurd (by show(!decide (V.int (l+b)=V.int r))=true;rw[w9,decide_eq_false e];rfl) z);rw[if_neg e]at q;exact q
theorem Ap(T:Txt K mg A)(d j:Nat)(Rz:T.jd.Hz P w base (j+1) (j9 A d 11))(Rw:T.fP.Hz P w base (j+1) (j9 A d 12)):T.eJ.Hz P w base (j+2) (nC A d):=by
 refine T.eJ.hs (k:=j+1) rb (λf Â A' outer s H vs Q E' hr hu h=>?_);obtain⟨N,X,v,D,t,idx,kn,rfl,s0,pa,dp,ck,hD,q⟩:=h;refine⟨_,(af (aN (aO (Ó aI T.av (fv 0^aL T.cM.mg^ae)) (λ_=>rfl))
   (aj (aD (au (hj:=by lia) (KJ T) hr (px hu (fv 1) (aA (fv 0) rfl)^ae))))
   aH)
  (af (aN (aO (Ó aI T.av (fv 0^aL T.cf.mg^ae)) (λ_=>rfl))
   (aj (aD (au (hj:=by lia) Rz hr (fv 0^fv 1^ae))))
   aH)
  (af (aN (aO (Ó aI T.av (fv 0^aL T.br.mg^ae)) (λ_=>rfl))
   (aj (aD (au (hj:=by lia) Rw hr (fv 0^fv 1^ae))))
   aH)
  (aj (aD ag))))),?_⟩
 by_cases c9:t.ci=9
 ·refine ah λM1 K1=>fW T s0 pa c9 (bK ?_);cases t with
  |leaf n r=>
   cases r with
   |call i ts=>
    unfold aS at pa;obtain⟨a,dx,p,rfl,h1,_⟩:=pa;unfold Ż at ck;unfold Ć at q;obtain⟨kvs,e1,e2⟩:=hD;exact Ê (s0 _ _ h1) T.cM.cl T.eM rfl (Ŀ e1 (e2 i ck) ⟨kn i,rfl,q⟩)
   |_=>cases c9
  |_=>cases c9
 refine ah λM1 K1=>cH T s0 pa c9 (aV (K1 _ _ ?_));clear K1 M1;by_cases Ę:t.ci=11
 ·exact ah λM1 K1=>fW T s0 pa Ę (bK ⟨N,X,v,D,t,idx,kn,rfl,s0,pa,dp,ck,hD,Ę,q⟩)
 refine ah λM1 K1=>cH T s0 pa Ę (aV (K1 _ _ ?_));clear K1 M1;by_cases Ĭ:t.ci=12
 ·exact ah λM1 K1=>fW T s0 pa Ĭ (bK ⟨N,X,v,D,t,idx,kn,rfl,s0,pa,dp,ck,hD,Ĭ,q⟩)
 refine ah λM1 K1=>cH T s0 pa Ĭ (aV (?_));have e:Ć kn t=YV 1:=by
  cases t with
  |leaf n r=>
   cases r with
   |call i ts=>exact absurd rfl c9
   |_=>simp[Ć]
  |iff _ _ _ _ _ _=>exact absurd rfl Ę
  |loop _ _ _ _ _ _=>exact absurd rfl Ĭ
  |dU _ _ _ _=>rw[Ć]
 rw[e]at q;exact K1 _ _ q
theorem rX(T:Txt K mg A):∀d,T.dX.Hz P w base (3*d+4) (ke A d)
 |0=>yU T 0 3 (Ap T 0 1 (wL T 0 1 (T.dX.hs (k:=0) cQ (λ_ _ _ _ _ _ _ _ _ _ _ h=>h.elim) (λ_ _ _ _ h=>h.elim))) (xk T 0 1 (T.dX.hs (k:=0) cQ (λ_ _ _ _ _ _ _ _ _ _ _ h=>h.elim) (λ_ _ _ _ h=>h.elim))))
 |d+1=>yU T (d+1) (3*d+6) (Ap T (d+1) (3*d+4) (wL T (d+1) (3*d+4) (rX T d)) (xk T (d+1) (3*d+4) (rX T d)))
theorem Je(T:Txt K mg A):∀d,T.dX.Hz P w base (3*d+4) (spN (ke A) d)
 |0=>T.dX.hs (k:=3) cQ (λ_ _ _ _ _ _ _ _ _ _ _ h=>h.elim) (λ_ _ _ _ h=>h.elim)
 |d+1=>(rX T d).mono ()
theorem Gx(T:Txt K mg A)(d:Nat):T.eJ.Hz P w base (3*d+6) (nC A d):=
 Ap T d (3*d+4) (wL T d (3*d+4) (Je T d)) (xk T d (3*d+4) (Je T d))
inductive Gi(A:Ï)(d:Nat)(vs:List V)(H:Hp)(Q:VK)(Ã:XK):Prop
 |mk(N:Nat->Str)(X:Hp)(v:V)(D:RB)(t:Pt)(idx:List Nat)(kn:Nat->Option Int):vs=[v,.ref D]->ak X H->aS A N X v t->dep t<=d->Ż idx t->(yN N H D idx λi=>oI (kn i))->Q (.bl (Ć kn t).isSome) H->Gi A d vs H Q Ã
theorem M0(T:Txt K mg A)(d:Nat):T.balanced.Hz P w base (3*d+7) (Gi A d):=by
 refine T.balanced.hs (k:=3*d+6) yO (λf Â A' outer s H vs Q E' hr hu h=>?_);obtain⟨N,X,v,D,t,idx,kn,rfl,s0,pa,dp,ck,hD,q⟩:=h;refine{_,(aj (aD (pec xg (au (hj:=by lia) (Gx T d) hr (fv 0^fv 1^ae)) bU))),{N,X,v,D,t,idx,kn,rfl,s0,pa,dp,ck,hD,rfl,?_}};cases e:Ć kn t with
 |none=>rw[e]at q;exact q
 |some n=>rw[e]at q;exact q
def Ī:Pt->Nat
 | .dU _ i _ _=>i
 |_=>0
def knF{α:Type}(g:(Nat->α)->List Pt->α)(kn:Nat->α)(p:Pt):Nat->α:=λj=>if j=Ī p then g kn (vy p)else kn j
def ĵ{α:Type}(g:(Nat->α)->List Pt->α)(z:α)(ds:List Pt):Nat->α:=ds.foldl (knF g) λ_=>z
structure Lp(N:Nat->Str)(d:Nat)(ds:List Pt):Prop where
 dU:∀p∈ds,Gj p
 dp:∀p∈ds,pE (vy p)<=d
 ck:∀(i:Nat)(p:Pt),ds[i]?=YV p->ye ((ds.take i).map Ī) (vy p)
 nm:∀(i j:Nat)(p q:Pt),ds[i]?=YV p->ds[j]?=YV q->N (Ī p)=N (Ī q)->i=j
 ln:ds.length<=900
theorem Ic{α:Type}(g:(Nat->α)->List Pt->α)(z:α)(vl:α->V){ds:List Pt}{d i:Nat}{p:Pt}(O:Lp N d ds)(hp:ds[i]?=YV p){kvs:List (Key×V)}(h:∀k∈(ds.take i).map Ī,L2.bx kvs (.inr (N k))=YV (vl (ĵ g z (ds.take i) k))) :
  ∀k∈(ds.take (i+1)).map Ī,L2.bx (Y2 kvs (.inr (N (Ī p))) (vl (g (ĵ g z (ds.take i)) (vy p)))) (.inr (N k))=YV (vl (ĵ g z (ds.take (i+1)) k)):=by
 intro k hk
 have st:ĵ g z (ds.take (i+1))=knF g (ĵ g z (ds.take i)) p:=gY (knF g) (λ_=>z) hp
 rw[yi,st]
 rw[PB,hp,PM]at hk
 show(if(Pe (N k):Key)=Pe (N (Ī p))then _ else _)=YV (vl (if k=Ī p then _ else _))
 by_cases e:k=Ī p
 ·rw[if_pos (by rw[e]),if_pos e]
 have m:k∈(ds.take i).map Ī:=by
  rcases Pa.mp hk with m|m
  ·exact m
  exact absurd (OT.mp m) e
 rw[if_neg e,if_neg,h k m]
 intro z
 obtain⟨q,mq,rfl⟩:=Pj.mp m
 obtain⟨j,hj⟩:=V9 mq
 have jl:j<i:=by
  have:=(O8.mp hj).1;rw[Pq]at this;lia
 rw[Qx jl]at hj
 have:=O.nm j i q p hj hp (Pe.inj z)
 lia
inductive va(A:Ï)(d:Nat)(vs:List V)(H:Hp)(Q:VK)(Ã:XK):Prop
 |mk(N:Nat->Str)(X:Hp)(v:V)(hs ds ms:List Pt)(z0:vs=[v])(z1:ak X H)(z2:ka A N X v hs ds ms)(z3:Lp N d ds)
  (z4:∀(D:RB)(H':Hp),ak H H'->H D=YW->yN N H' D (ds.map Ī) (λi=>oI (ĵ dn YW ds i))->Q (.ref D) H'):va A d vs H Q Ã
theorem E1(T:Txt K mg A)(d:Nat):T.zD.Hz P w base (3*d+5) (va A d):=by
 refine T.zD.hs (k:=3*d+4) qD (λf Â A' outer s H vs Q E' hr hu h=>?_);obtain⟨N,X,v,hs,ds,ms,rfl,s0,⟨a,dx,n0,n1,n2,x0,x1,x2,rfl,ha,e0,e1,e2,p0,p1,p2⟩,O,q⟩:=h;refine⟨_,(af (É 1 qD.nd (dW))
  (af (bc RO rfl (aW (aA (fv 0) rfl)) (Ò (i:=2) qD.nd rfl)
   (aj (cE (au (hj:=by lia) (rX T d) hr (aA (fv 2) rfl^fv 1^ae)) (cF (fv 1) (aA (fv 2) rfl) (cU hu YZ)))))
  (aj (aD (fv 1))))),?_⟩
 refine ah λM1 K1 D hD=>?_;obtain⟨s1,eD⟩:=Ð hD (HO.dK []);generalize upd H D _=H1 at s1 eD⊢;refine K1 _ _ ?_;clear K1 M1;rfl'
 refine ah λM1 K1=>Ê ((s0.trans s1) _ _ ha) T.bu.cl T.bH rfl (OZ {{_,À.of ((s0.trans s1) _ _ e1)},a9 (K:=K) (xs:=x1) (λi B Hc=>∃(v2:Option V)(kvs:List (Key×V)),B=[YV (.ref a),YV (.ref D),v2]/\ak H Hc/\Hc D=YV (.dK kvs)/\kvs.length<=i/\∀k∈(ds.take i).map Ī,L2.bx kvs (.inr (N k))=YV (oI (ĵ dn YW (ds.take i) k))) {YW,[],rfl,s1,eD,OW _,by simp} (λi B Hc _ ⟨_,_,_,z,_⟩=>À.of ((s0.trans z) _ _ e1)) ?_ ?_})
 ·rintro i v B Hc hv ⟨v2,kvs,rfl,sc,Ŷ,kl,hk⟩;obtain⟨t,ht,pa⟩:=p1.get hv;have mt:t∈ds:=OY ht;have il:i<ds.length:=(O8.mp ht).1;have dt:=O.dU t mt;have st:=Ic dn YW oI O ht hk;have ln:=O.ln;cases t with
  |dU n i' ps b=>
   unfold aS at pa;exact pa.elim
  |_=>exact dt.elim
 rintro B Hc ⟨v2,kvs,rfl,sc,Ŷ,kl,hk⟩;rw[show ds.take x1.length=ds by rw[p1.len];exact Pk]at hk;exact K1 _ _ (q D Hc sc hD ⟨kvs,Ŷ,hk⟩)
theorem Fe{kvs:List (Key×V)}{k:Key}(h:k∉kvs.map (·.1)):L2.bx kvs k=YW:=by
 unfold L2.bx;rw[List.find?_eq_none.mpr λkv m=>by
  rw[decide_eq_true_iff];exact λe=>h (e▸PD m)]
 rfl
theorem mM:∀(kvs acc:List (Key×V)),((acc++kvs).map (·.1)).Nodup->bf acc kvs=acc++kvs
 | [],acc,_=>by rw[PH];rfl
 | (k,v)::kvs,acc,h=>by
  have nk:k∉acc.map (·.1):=λm=>by
   rw[PM,Pp]at h;exact(P4.mp h).2.2 k m k OX rfl
  show bf (Y2 acc k v) kvs=_;rw[xX v (Fe nk),mM kvs (acc++[(k,v)]) (by simpa using h)];simp
def ϋ(N:Nat->Str)(ds:List Pt)(x:Str):List Str:=match ds.find? (λp=>decide (Ċ N p=x))with
 |some p=>Ϙ N p
 |none=>[]
def Dk(t:Pt):Bool:=decide (t.ci=7)||decide (t.ci=8)
def zB(t:Pt):Bool:=decide (t.ci=11)||decide (t.ci=12)
def wO(kn:Nat->Option Int)(t:Pt):List Lk:=if Dk t=true then[{"the clock",bw t.no,"steps",t.no}]else if zB t=true/\(Ć kn t).isSome=false then[{bw t.no,"the clock","steps",t.no}]else[]
theorem FX(kn:Nat->Option Int)(t:Pt):(wO kn t).length<=1:=by
 unfold wO;split
 ·exact OW _
 split<;>simp
def DS(b:Bool)(kn:Nat->Option Int)(t:Pt):List Lk:=if b=true then wO kn t else[]
def uN(N:Nat->Str)(b:Bool)(ds:List Pt)(e:Le):List Lk:=zP N (ϋ N ds) e.1 e.2.1 e.2.2++DS b (ĵ dn YW ds) e.1
def gF(N:Nat->Str)(b:Bool)(ds ms:List Pt):List Lk:=(dJ N ds ms).flatMap (uN N b ds)
structure OkL(N:Nat->Str)(d:Nat)(hs ds ms:List Pt):Prop where
 ok:Ok N d hs ds ms
 dk:Lp N d ds
 nn:(ds.map (Ċ N)).Nodup
 pn:∀p∈ds,(Ϙ N p).length<=100
 k5:∀e∈dJ N ds ms,k5 e.1=true
 lo:∀e∈dJ N ds ms,lOk e.1 e.2.2
 cal:∀e∈dJ N ds ms,Jb N (ϋ N ds) (ds.map (Ċ N)) e.1
 ll:∀b,(gF N b ds ms).length<=900
 ck:∀e∈dJ N ds ms,Ż (ds.map Ī) e.1/\dep e.1<=d
def PoE(N:Nat->Str)(X:Hp)(p:Pt)(y:V)(H:Hp):Prop:=∃t pp,y=V.ref t/\H t=YV (.tup [.str (Ċ N p),.ref pp])/\X pp=YV (.lst (sS (Ϙ N p)))
theorem ET{X H:Hp}:∀{ds:List Pt}{ys:List V},Paired (λp y=>PoE N X p y H) ds ys->∃(ps:List RB)(kvs:List (Key×V)),ys=ps.map V.ref/\ps.length=kvs.length/\kvs.map (·.1)=ds.map (λp=>Pe (Ċ N p))/\(∀(i:Nat) t k v,ps[i]?=YV t->kvs[i]?=YV (k,v)->H t=YV (.tup [kV k,v]))/\∀p∈ds,∃pp,(Pe (Ċ N p),V.ref pp)∈kvs/\X pp=YV (.lst (sS (Ϙ N p)))
 |_,_,.nil=>{[],[],rfl,rfl,rfl,(λi t k v h=>by simp at h),(λp m=>by cases m)}
 |_,_,.cons (b:=y) (a:=p) h r=>by
  obtain⟨t,pp,rfl,h1,h2⟩:=h;obtain⟨ps,kvs,e1,e2,e3,e4,e5⟩:=ET r;refine{t::ps,(Pe (Ċ N p),V.ref pp)::kvs,by rw[e1];rfl,by simp[e2],by rw[Pp,Pp,e3],λi t' k v ht hk=>?_,λq hq=>?_}
  ·cases i with
   |zero=>cases ht;cases hk;exact h1
   |succ i=>exact e4 i t' k v ht hk
  rcases O4.mp hq with rfl|hq
  ·exact⟨pp,OX,h2⟩
  obtain⟨pp',m,z⟩:=e5 q hq;exact{pp',O2 _ m,z}
theorem Bf{kvs:List (Key×V)}{k:Key}{v:V}(nd:(kvs.map (·.1)).Nodup)(m:(k,v)∈kvs):L2.bx kvs k=YV v:=by
 obtain⟨i,hi⟩:=V9 m;exact wA nd hi
theorem HS{ds:List Pt}(nn:(ds.map (Ċ N)).Nodup){p:Pt}(m:p∈ds):ϋ N ds (Ċ N p)=Ϙ N p:=by
 have:ds.find? (λq=>decide (Ċ N q=Ċ N p))=YV p:=by
  induction ds with
  |nil=>cases m
  |cons q r ih=>
   rw[Pp,PK]at nn;rw[P2];by_cases e:Ċ N q=Ċ N p
   ·rw[decide_eq_true e];rcases O4.mp m with z|z
    ·rw[z]
    exact absurd (e▸PD z) nn.1
   rw[decide_eq_false e];rcases O4.mp m with z|z
   ·exact absurd (by rw[z]) e
   exact ih nn.2 z
 unfold ϋ;rw[this]
inductive Cw(A:Ï)(d:Nat)(vs:List V)(H:Hp)(Q:VK)(Ã:XK):Prop
 |mk(N:Nat->Str)(X:Hp)(v:V)(D:RB)(t:Pt)(idx:List Nat)(kn:Nat->Option Int)(z0:vs=[v,.ref D])(z1:ak X H)(z2:aS A N X v t)(z3:0<=t.no/\t.no<=1000)(z4:dep t<=d)(z5:Ż idx t)(z6:yN N H D idx λi=>oI (kn i))
  (z7:∀(R:RB)(ys:List V)(H':Hp),ak H H'->H R=YW->H' R=YV (.lst ys)->ă H' (wO kn t) ys->Q (.ref R) H'):Cw A d vs H Q Ã
theorem Lw(T:Txt K mg A)(d:Nat):T.oF.Hz P w base (3*d+8) (Cw A d):=by
 refine T.oF.hs (k:=3*d+7) nN (λf Â A' outer s H vs Q E' hr hu h=>?_);obtain⟨N,X,v,D,t,idx,kn,rfl,s0,pa,nt,dp,ck,hD,q⟩:=h;refine⟨_,(af (É 2 nN.nd (au (hj:=by lia) (pP T) hr (aA (fv 0) rfl^ae)))
  (af (aN (PW.pt (pw_or (aO (Ó aI T.av (fv 0^aL T.bE.mg^ae)) (λ_=>rfl)) (pw_or1 (aO (Ó aI T.av (fv 0^aL T.bS.mg^ae)) (λ_=>rfl)))))
   (aj (aD (aP (aQ (wH T.rV^fv 2^aK^aA (fv 0) rfl^ae)^ae))))
   aH)
  (af (aN (PW.pt (pw_and (PW.pt (pw_or (aO (Ó aI T.av (fv 0^aL T.cf.mg^ae)) (λ_=>rfl)) (pw_or1 (aO (Ó aI T.av (fv 0^aL T.br.mg^ae)) (λ_=>rfl))))) (pw_and1 (wq (aO (au (hj:=by lia) (M0 T d) hr (fv 0^fv 1^ae)) (λ_=>rfl))))))
   (aj (aD (aP (aQ (fv 2^wH T.rV^aK^aA (fv 0) rfl^ae)^ae))))
   aH)
  (aj (aD (aP ae)))))),?_⟩
 refine ah λM1 K1=>dN T s0 pa {_,rfl,nt.1,nt.2,K1 _ _ ?_};clear K1 M1;rfl'
 refine ah λM1 K1=>?_;have sd:Dk t=true->4<=sizeLine/\∀p,H p=YW->1<=sizeLine/\∀l,upd H p (.tup [V.str "the clock",V.str (bw t.no),V.str "steps",V.int t.no]) l=YW->Q (.ref l) (upd (upd H p (.tup [V.str "the clock",V.str (bw t.no),V.str "steps",V.int t.no])) l (.lst [V.ref p])):=λz=>by
  refine{∅,λp hp=>{∅,λl hl=>?_}};have s1:=ak.upd hp (HO.tup [V.str "the clock",V.str (bw t.no),V.str "steps",V.int t.no]);have s2:=ak.upd hl (HO.lst [V.ref p]);refine q l [V.ref p] _ (s1.trans s2) (ak.free s1 hl) ao ?_;unfold wO;rw[if_pos z];exact .cons {p,rfl,s2 _ _ ao} .nil
 have no:Dk t=false->M1 [YV v,YV (.ref D),YV (.str (bw t.no))] H:=λz=>K1 _ _ (by
  clear K1 M1 sd;rfl'
  refine ah λM1 K1=>?_;have un:zB t=true->(Ć kn t).isSome=false->4<=sizeLine/\∀p,H p=YW->1<=sizeLine/\∀l,upd H p (.tup [V.str (bw t.no),V.str "the clock",V.str "steps",V.int t.no]) l=YW->Q (.ref l) (upd (upd H p (.tup [V.str (bw t.no),V.str "the clock",V.str "steps",V.int t.no])) l (.lst [V.ref p])):=λy ex=>by
   refine{∅,λp hp=>{∅,λl hl=>?_}};have s1:=ak.upd hp (HO.tup [V.str (bw t.no),V.str "the clock",V.str "steps",V.int t.no]);have s2:=ak.upd hl (HO.lst [V.ref p]);refine q l [V.ref p] _ (s1.trans s2) (ak.free s1 hl) ao ?_;unfold wO;rw[z,if_neg O3,if_pos ⟨y,ex⟩];exact .cons {p,rfl,s2 _ _ ao} .nil
  have nil:¬ (zB t=true/\(Ć kn t).isSome=false)->M1 [YV v,YV (.ref D),YV (.str (bw t.no))] H:=λy=>K1 _ _ (by
   refine{Pc _,λR hR=>q R [] _ (ak.upd hR _) hR ao ?_};unfold wO;rw[z,if_neg O3,if_neg y];exact .nil)
  have bal:∀b,b=(Ć kn t).isSome->zB t=true->(b=true->M1 [YV v,YV (.ref D),YV (.str (bw t.no))] H)/\(b=false->4<=sizeLine/\∀p,H p=YW->1<=sizeLine/\∀l,upd H p (.tup [V.str (bw t.no),V.str "the clock",V.str "steps",V.int t.no]) l=YW->Q (.ref l) (upd (upd H p (.tup [V.str (bw t.no),V.str "the clock",V.str "steps",V.int t.no])) l (.lst [V.ref p]))):=λb eb y=>{λz=>nil λw=>(by rw[<-eb,z]at w;cases w.2),λz=>un y (by rw[<-eb,z])};clear K1;by_cases Ę:t.ci=11
  ·have b:=bal _ rfl (by unfold zB;rw[decide_eq_true Ę];rfl);refine fW T s0 pa Ę (bK {N,X,v,D,t,idx,kn,rfl,s0,pa,dp,ck,hD,_,rfl,?_});cases e:(Ć kn t).isSome with
   |true=>exact aV (b.1 e)
   |false=>exact bK (dN T s0 pa (b.2 e))
  by_cases Ĭ:t.ci=12
  ·have b:=bal _ rfl (by unfold zB;rw[decide_eq_true Ĭ,decide_eq_false Ę];rfl);refine cH T s0 pa Ę (aV (fW T s0 pa Ĭ (bK {N,X,v,D,t,idx,kn,rfl,s0,pa,dp,ck,hD,_,rfl,?_})));cases e:(Ć kn t).isSome with
   |true=>exact aV (b.1 e)
   |false=>exact bK (dN T s0 pa (b.2 e))
  exact cH T s0 pa Ę (aV (cH T s0 pa Ĭ (aV (nil λw=>by
   have w:=w.1;unfold zB at w;rw[decide_eq_false Ę,decide_eq_false Ĭ]at w;cases w)))))
 clear K1;by_cases c7:t.ci=7
 ·exact fW T s0 pa c7 (bK (dN T s0 pa (sd (by unfold Dk;rw[decide_eq_true c7];rfl))))
 by_cases c8:t.ci=8
 ·exact cH T s0 pa c7 (aV (fW T s0 pa c8 (bK (dN T s0 pa (sd (by unfold Dk;rw[decide_eq_true c8,decide_eq_false c7];rfl))))))
 exact cH T s0 pa c7 (aV (cH T s0 pa c8 (aV (no (by unfold Dk;rw[decide_eq_false c7,decide_eq_false c8];rfl)))))
inductive xM(A:Ï)(d:Nat)(vs:List V)(H:Hp)(Q:VK)(Ã:XK):Prop
 |mk(N:Nat->Str)(X:Hp)(v:V)(b:Bool)(hs ds ms:List Pt)(z0:vs=[v,.bl b])(z1:ak X H)(z2:ka A N X v hs ds ms)(z3:OkL N d hs ds ms)
  (z4:∀(R:RB)(ys:List V)(H':Hp),ak H H'->H R=YW->H' R=YV (.lst ys)->ă H' (gF N b ds ms) ys->Q (.ref R) H'):xM A d vs H Q Ã
theorem HV(T:Txt K mg A)(d:Nat):T.links.Hz P w base (3*d+9) (xM A d):=by
 refine T.links.hs (k:=3*d+8) iD (λf Â A' outer s H vs Q E' hr hu h=>?_);obtain⟨N,X,v,b,hs,ds,ms,rfl,s0,pg,O,q⟩:=h;obtain⟨a,dx,n0,n1,n2,x0,x1,x2,rfl,ha,e0,e1,e2,p0,p1,p2⟩:=id pg;have pn:∀i p,ds[i]?=YV p->∀v,x1[i]?=YV v->aS A N X v p:=λi p hp v hv=>by
  obtain⟨t,ht,pa⟩:=p1.get hv;rw[hp]at ht;cases ht;exact pa
 refine⟨_,(af (É 2 iD.nd (Ď ni T.iW ((dD (N:=["deed"]) (own:=1) (fr:=[]) (bI.of (by kernel_rfl!)) rfl (aW (aA (fv 0) rfl)) (λb=>Ò (i:=0) (show R9 (["deed"]:List Sl) by decide+kernel) rfl) (λb=>iR) (λb=>aQ (aA (fv 0) rfl^aA (fv 0) rfl^ae)))^ae)))
  (af (É 3 iD.nd (au (hj:=by lia) (E1 T d) hr (fv 0^ae)))
  (af (É 4 iD.nd (aP ae))
  (af (bc RO rfl (aW (au (hj:=by lia) (rO T d) hr (fv 0^ae))) (kR rfl (bj (Ò (i:=5) iD.nd rfl) (bj (Ò (i:=6) iD.nd rfl) (bj (Ò (i:=7) iD.nd rfl) gU))))
   (af (aT (er (fv 4) ((au (hj:=by lia) (Ku T) hr (fv 5^fv 6^fv 7^fv 2^ae))^ae)))
   (aj (aN (aO (fv 1) (λ_=>rfl))
    (aj (aT (er (fv 4) ((au (hj:=by lia) (Lw T d) hr (fv 5^fv 3^ae))^ae))))
    aH))))
  (aj (aD (fv 4))))))),?_⟩
 have lx:=p1.len;have dln:=O.dk.ln;refine ah λM1 K1=>Ê (s0 _ _ ha) T.bu.cl T.bH rfl (OZ {{_,À.of (s0 _ _ e1)},cI (K:=K) (own:=1) ds (λ_=>true) (PoE N X) (À.of (s0 _ _ e1)) lx (aG ()) ?_ ?_ ?_ ?_})
 ·intro b i x p v0 H1 Nn Y hx he hv s1 no yes;obtain⟨u0,rfl⟩:∃u0,v0=[u0]:=by
   match v0,hv with
   | [u],_=>exact⟨u,rfl⟩
  have pa:=pn i p he x hx;have dt:=O.dk.dU p (OY he);cases p with
  |dU n i' ps b'=>
   unfold aS at pa;exact pa.elim
  |_=>exact dt.elim
 ·rintro e y H1 H2 s1 ⟨t,pp,e1,h1,h2⟩;exact{t,pp,e1,s1 _ _ h1,h2}
 ·rintro e y H1 D ys zs hD ⟨t,pp,e1,h1,h2⟩;exact{t,pp,e1,aF (λz=>by rw[z,hD]at h1;cases h1) h1,h2}
 intro L1 H1 ys Ϫ s1 ľ pr;rw[d9]at pr;obtain⟨ps,kvs,rfl,k2,k3,k4,k5'⟩:=ET pr;have kl:kvs.length=ds.length:=by
  have:=congrArg U8 k3;simpa using this
 have knd:(kvs.map (·.1)).Nodup:=by
  rw[k3];have h:=O.nn;unfold R9 at h⊢;rw[QK]at h⊢;exact h.imp λn e=>n (Pe.inj e)
 refine{L1,ps,kvs,rfl,À.of ľ,k2,(),λi t k v ht hk=>Æ.of (k4 i t k v ht hk),λD hD=>?_};obtain⟨s2,eD⟩:=Ð hD (HO.dK (bf [] kvs));generalize upd H1 D _=H2 at s2 eD⊢;rw[mM kvs [] (by simpa using knd),Qn]at eD;have PO:Fp X H2 D (ϋ N ds) (ds.map (Ċ N)):=by
  refine{kvs,eD,λx hx=>?_};obtain⟨p,mp,rfl⟩:=Pj.mp hx;rw[HS O.nn mp];obtain⟨pp,m,z⟩:=k5' p mp;exact⟨O.pn p mp,pp,Bf knd m,z⟩
 have t2:=s1.trans s2;refine K1 _ _ ?_;clear K1 M1;rfl'
 refine ah λM1 K1=>{N,X,.ref a,hs,ds,ms,rfl,s0.trans t2,pg,O.dk,λD2 H3 s3 hD2 kD2=>K1 _ _ ?_};clear K1 M1;rfl'
 refine ah λM1 K1=>{Pc _,λF hF=>?_};obtain⟨s4,eF⟩:=Ð hF (HO.lst []);generalize upd H3 F _=H4 at s4 eF⊢;have t4:=(t2.trans s3).trans s4;have hF0:H F=YW:=ak.free (t2.trans s3) hF;have eD4:=s4 _ _ (s3 _ _ eD);have FD:F≠D:=YX hF (s3 _ _ eD);refine K1 _ _ ?_;clear K1 M1;rfl'
 refine ah λM1 K1=>{N,X,.ref a,hs,ds,ms,rfl,s0.trans t4,pg,O.ok,λL zs H5 s5 hL eL ly=>?_};have LF:L≠F:=YX hL eF;have nb:=O.ok.nb;have ok5:=O.k5;have okc:=O.cal;have okl:=O.lo;have oll:=O.ll b;have ock:=O.ck;unfold gF at oll q;generalize dJ N ds ms=es at ly nb ok5 okc okl oll ock q;have Δ:=RN ly;refine OZ {{_,À.of eL},a9 (K:=K) (xs:=zs) (λi B Hd=>∃(ws:List V)(v5 v6 v7:Option V),B=[YV (.ref a),YV (.bl b),YV (.ref D),YV (.ref D2),YV (.ref F),v5,v6,v7]/\Sm [F] H5 Hd/\Hd F=YV (.lst ws)/\ă Hd ((es.take i).flatMap (uN N b ds)) ws) {[],YW,YW,YW,rfl,Sm.refl _ _,s5 _ _ eF,.nil} (λi B Hd _ ⟨_,_,_,_,_,z,_⟩=>À.of (z _ _ (λm=>LF (OT.mp m)) eL)) ?_ ?_}
 ·rintro i y B Hd hy ⟨ws,v5,v6,v7,rfl,sd,hFd,lw⟩;obtain⟨e,he,tp,v,rfl,ļ,pa⟩:=cx ly hy;have etp':=sd _ _ (λm=>by rw[OT.mp m,s5 _ _ eF]at ļ;cases ļ) ļ;have sX:ak X Hd:=sd.same ((s0.trans t4).trans s5) (λm hm=>by
   rw[OT.mp hm];exact ak.free s0 hF0)
  have me:=OY he;have ne:=nb e me;have eDd:Hd D=YV (.dK kvs):=sd _ _ (λm=>FD (OT.mp m).symm) (s5 _ _ eD4);have st:=pJ (uN N b ds) he;have sl:=FP (uN N b ds) he;have llw:=RN lw;have kDd:yN N Hd D2 (ds.map Ī) λi=>oI (ĵ dn YW ds i):=by
   obtain⟨kw,k1,k2⟩:=kD2;exact{kw,sd _ _ (λm=>by rw[OT.mp m]at k1;rw[k1]at hF;cases hF) ((s4.trans s5) _ _ k1),k2}
  have slB:(uN N b ds e).length=(zP N (ϋ N ds) e.1 e.2.1 e.2.2).length+(DS b (ĵ dn YW ds) e.1).length:=O5;rfl'
  refine{tp,_,rfl,Æ.of etp',rfl,_,_,rfl,_,_,rfl,_,_,rfl,rfl,ah λN1 J1=>{OZ {rfl,_,À.of hFd},N,X,v,e.1,e.2.1,e.2.2,D,ϋ N ds,ds.map (Ċ N),rfl,sX,pa,ok5 e me,ne,okl e me,PO.same (λĄ h=>by rw[eD]at h;cases h;exact eDd),okc e me,λR2 us He s6 hR2 ϰ l6=>?_}};have lu:=RN l6;refine{_,_,_,_,rfl,rfl,s6 _ _ hFd,ϰ,sz (),J1 _ _ ?_};clear J1 N1;have sd1:=(sd.trans (Sm.new s6)).trans (Sm.at (H:=He) (OT.mpr rfl) (.lst (ws++us)));have hF1:upd He F (.lst (ws++us)) F=YV (.lst (ws++us)):=ao;have lw1:=pR (H:=H) (R2:=R2) s6 hFd lw l6;have kD1:yN N (upd He F (.lst (ws++us))) D2 (ds.map Ī) λi=>oI (ĵ dn YW ds i):=by
   obtain⟨kw,k1,k2⟩:=kDd;exact{kw,aF (λz=>by rw[z,hFd]at k1;cases k1) (s6 _ _ k1),k2}
  generalize upd He F (.lst (ws++us))=H6 at sd1 hF1 lw1 kD1⊢;have Ϻ:ak X H6:=sd1.same ((s0.trans t4).trans s5) (λm hm=>by
   rw[OT.mp hm];exact ak.free s0 hF0)
  obtain⟨oc1,oc2⟩:=ock e me;cases b with
  |false=>
   refine{_,rfl,aV {_,_,_,_,rfl,sd1,hF1,?_}};rw[st,show uN N false ds e=zP N (ϋ N ds) e.1 e.2.1 e.2.2 from PH _];exact lw1
  |true=>
   refine{_,rfl,bK {OZ {rfl,_,À.of hF1},N,X,v,D2,e.1,ds.map Ī,ĵ dn YW ds,rfl,Ϻ,pa,ne,oc2,oc1,kD1,λR3 u3 H7 s7 hR3 eR3 l7=>?_}};have lu3:=RN l7;have slB':(DS true (ĵ dn YW ds) e.1).length=(wO (ĵ dn YW ds) e.1).length:=rfl;refine{_,_,_,_,rfl,rfl,s7 _ _ hF1,eR3,sz (by rw[O5];lia),{_,_,_,_,rfl,(sd1.trans (Sm.new s7)).trans (Sm.at (OT.mpr rfl) _),ao,?_}};rw[st,show uN N true ds e=zP N (ϋ N ds) e.1 e.2.1 e.2.2++wO (ĵ dn YW ds) e.1 from rfl,<-QZ];exact pR (H:=H) (R2:=R3) s7 hF1 lw1 l7
 rintro B Hd ⟨ws,v5,v6,v7,rfl,sd,hFd,lw⟩;rw[show es.take zs.length=es by rw[<-Δ];exact Pk]at lw;exact K1 _ _ (q F ws Hd (sd.same (t4.trans s5) (λm hm=>by rw[OT.mp hm];exact hF0)) hF0 hFd lw)
def qN(t:Pt):Bool:=decide (t.ci=2)||decide (t.ci=4)
def sOf(N:Nat->Str):Pt->Str×Int
 | .leaf _ (.Ç i r _)=>(N i,r)
 | .leaf _ (.lt i r)=>(N i,r)
 |_=>(Su,0)
def jO(N:Nat->Str)(hs:List Pt):List (Str×Int):=(hs.filter qN).map (sOf N)
def SrE(s:Str×Int)(y:V)(H:Hp):Prop:=∃t,y=V.ref t/\H t=YV (.tup [.str s.1,.int s.2])
theorem JZ(T:Txt K mg A){X H:Hp}(s:ak X H){v:V}{t:Pt}(h:aS A N X v t)(e:qN t=true){Q Q2:VK}(q:(∀{R:VK},R (.int (sOf N t).2) H->lN K "rank" v H R)->Q (.str (sOf N t).1) H):lN K "name" v H Q:=by
 cases t with
 |leaf n r=>
  unfold aS at h;obtain⟨a,dx,p,rfl,h1,h2⟩:=h;cases r with
  |Ç i _ _=>exact Ê (s _ _ h1) T.aR.cl T.ba rfl (q λr=>Ê (s _ _ h1) T.aR.cl T.dZ rfl r)
  |lt i _=>exact Ê (s _ _ h1) T.cG.cl T.dS rfl (q λr=>Ê (s _ _ h1) T.cG.cl T.fR rfl r)
  |_=>cases e
 |_=>cases e
inductive ug(A:Ï)(vs:List V)(H:Hp)(Q:VK)(Ã:XK):Prop
 |mk(N:Nat->Str)(X:Hp)(v:V)(hs ds ms:List Pt)(z0:vs=[v])(z1:ak X H)(z2:ka A N X v hs ds ms)(z3:hs.length<=300)
  (z4:∀(R:RB)(ys:List V)(H':Hp),ak H H'->H R=YW->H' R=YV (.lst ys)->Paired (λs y=>SrE s y H') (jO N hs) ys->Q (.ref R) H'):ug A vs H Q Ã
theorem vh(T:Txt K mg A):T.sources.Hz P w base 1 (ug A):=by
 refine T.sources.hs AX (λf Â A' outer s H vs Q E' hr hu h=>?_);obtain⟨N,X,v,hs,ds,ms,rfl,s0,⟨a,dx,n0,n1,n2,x0,x1,x2,rfl,ha,e0,e1,e2,p0,p1,p2⟩,hl,q⟩:=h;refine{_,(aj (aD (dD (N:=["head"]) (own:=1) (fr:=[]) (bI.of (by kernel_rfl!)) rfl (aW (aA (fv 0) rfl)) (λb=>Ò (i:=0) (show R9 (["head"]:List Sl) by decide+kernel) rfl) (λb=>oK (PW.pt (pw_or (aO (Ó aI T.av (fv 0^aL T.aR.mg^ae)) (λ_=>rfl)) (pw_or1 (aO (Ó aI T.av (fv 0^aL T.cG.mg^ae)) (λ_=>rfl)))))) (λb=>aQ (aA (fv 0) rfl^aA (fv 0) rfl^ae))))),Ê (s0 _ _ ha) T.bu.cl T.bG rfl (OZ {{_,À.of (s0 _ _ e0)},cI (K:=K) (own:=1) hs qN (λt y H=>SrE (sOf N t) y H) (À.of (s0 _ _ e0)) p0.len (aG (by rw[p0.len];lia)) ?_ ?_ ?_ ?_})}
 ·intro b i x t v0 H1 Nn Y hx he hv s1 no yes;obtain⟨u0,rfl⟩:∃u0,v0=[u0]:=by
   match v0,hv with
   | [u],_=>exact⟨u,rfl⟩
  obtain⟨t',ht,pa⟩:=p0.get hx;rw[he]at ht;cases ht;have sX:=s0.trans s1;have go:qN t=true->lN K "name" x H1 λv1 H2=>lN K "rank" x H2 λv2 H3=>2<=sizeLine/\∀p,H3 p=YW->Y [YV x] (.ref p) (upd H3 p (.tup [v1,v2])):=λe=>by
   exact JZ T sX pa e (Q2:=Q) λrk=>rk {∅,λtp é=>yes e [YV x] _ _ rfl (ak.upd é _) ⟨tp,rfl,ao⟩}
  by_cases c2:t.ci=2
  ·exact fW T sX pa c2 (bK (bK (go (by unfold qN;rw[decide_eq_true c2];rfl))))
  by_cases c4:t.ci=4
  ·exact cH T sX pa c2 (aV (fW T sX pa c4 (bK (go (by unfold qN;rw[decide_eq_true c4,Q7])))))
  exact cH T sX pa c2 (aV (cH T sX pa c4 (aV (no (by unfold qN;rw[decide_eq_false c2,decide_eq_false c4];rfl) [YV x] _ rfl (ak.refl _)))))
 ·rintro e y H1 H2 s1 ⟨t,e1,h1⟩;exact{t,e1,s1 _ _ h1}
 ·rintro e y H1 D ys zs hD ⟨t,e1,h1⟩;exact{t,e1,aF (λz=>by rw[z,hD]at h1;cases h1) h1}
 intro R H1 ys hR s1 e1 pr;exact q R ys H1 s1 hR e1 (oV _ pr)
def Y6(N:Nat->Str)(hs:List Pt)(rk:Int):List Str:=((jO N hs).filter λs=>decide (s.2=rk)).map (·.1)
theorem B5{α:Type}{f:α->Str}{src:List α}:∀{ys:List V},Paired (λt y=>y=V.str (f t)) src ys->ys=sS (src.map f)
 |_,.nil=>rfl
 |_,.cons h r=>by rw[h,B5 r];rfl
inductive gP(A:Ï)(vs:List V)(H:Hp)(Q:VK)(Ã:XK):Prop
 |mk(N:Nat->Str)(X:Hp)(v:V)(rk:Int)(hs ds ms:List Pt)(z0:vs=[v,.int rk])(z1:ak X H)(z2:ka A N X v hs ds ms)(z3:hs.length<=300)
  (z4:∀(R:RB)(H':Hp),ak H H'->H R=YW->H' R=YV (.lst (sS (Y6 N hs rk)))->Q (.ref R) H'):gP A vs H Q Ã
theorem xN(T:Txt K mg A):T.ou.Hz P w base 2 (gP A):=by
 refine T.ou.hs (k:=1) uI (λf Â A' outer s H vs Q E' hr hu h=>?_);obtain⟨N,X,v,rk,hs,ds,ms,rfl,s0,pg,hl,q⟩:=h;refine{_,(aj (aD (dD (N:=["place","its_rank","rank"]) (own:=2) (fr:=[1]) (bI.of (by kernel_rfl!)) rfl (aW (au (vh T) hr (fv 0^ae))) (λb=>kR rfl (bj (Ò (i:=0) (show R9 (["place","its_rank","rank"]:List Sl) by decide+kernel) rfl) (bj (Ò (i:=1) (show R9 (["place","its_rank","rank"]:List Sl) by decide+kernel) rfl) gU))) (λb=>oK (Ö (bY hu) (fv 1) (fv 2))) (λb=>fv 0)))),{N,X,v,hs,ds,ms,rfl,s0,pg,hl,λL ys H1 s1 hL eL pr=>?_}};have ln:=RN pr;have l2:(jO N hs).length<=hs.length:=by
  unfold jO;rw[OU];exact PX _ _
 refine OZ {{_,À.of eL},cI (K:=K) (own:=2) (jO N hs) (λs=>decide (s.2=rk)) (λs y _=>y=.str s.1) (À.of eL) ln.symm (aG ()) ?_ (λ_ _ _ _ _ h=>h) (λ_ _ _ _ _ _ _ h=>h) ?_}
 ·intro b i x t v0 H2 Nn Y hx he hv s2 no yes;obtain⟨u0,u1,rfl⟩:∃u0 u1,v0=[u0,u1]:=by
   match v0,hv with
   | [u,u'],_=>exact⟨u,u',rfl⟩
  obtain⟨t',ht,tp,rfl,ļ⟩:=cx pr hx;rw[he]at ht;cases ht;refine{tp,_,rfl,Æ.of (s2 _ _ ļ),rfl,_,_,rfl,_,_,rfl,rfl,{rfl,_,rfl,bh (λc=>?_) (λc=>?_)}}
  ·have e:t.2=rk:=V.int.inj (of_decide_eq_true c);exact yes (decide_eq_true e) [YV (.str t.1),YV (.int t.2)] _ _ rfl (ak.refl _) rfl
  have e:¬ t.2=rk:=λz=>c (decide_eq_true (by rw[z]));exact no (decide_eq_false e) [YV (.str t.1),YV (.int t.2)] _ rfl (ak.refl _)
 intro R H2 zs hR s2 e2 pz;refine q R H2 (s1.trans s2) (ak.free s1 hR) ?_;rw[e2,B5 pz];rfl
def kX(ls:List Lk)(x:Str):List Lk:=ls.filter λl=>decide (l.fr=x)
structure fL(H:Hp)(W:RB)(kvs:List (Key×V))(pls:List Str)(wa:Str->RB)(ls:List Lk):Prop where
 d:H W=YV (.dK kvs)
 v:∀x∈pls,L2.bx kvs (.inr x)=YV (.ref (wa x))
 i:∀x∈pls,∀y∈pls,wa x=wa y->x=y
 l:∀x∈pls,∃ys,H (wa x)=YV (.lst ys)/\ă H (kX ls x) ys
theorem fL.same{H H':Hp}{W:RB}{kvs:List (Key×V)}{pls:List Str}{wa:Str->RB}{ls:List Lk}(h:fL H W kvs pls wa ls)(s:ak H H'):fL H' W kvs pls wa ls:=
 ⟨s _ _ h.d,h.v,h.i,λx hx=>by
  obtain⟨ys,e,l⟩:=h.l x hx;exact{ys,s _ _ e,l.same λ_ _ z=>s _ _ z}⟩
theorem fL.push{H:Hp}{W:RB}{kvs:List (Key×V)}{pls:List Str}{wa:Str->RB}{ls:List Lk}(h:fL H W kvs pls wa ls){l:Lk}{t:RB}(ht:H t=YV (.tup l.vs))(hl:l.fr∈pls){ys:List V}(e:H (wa l.fr)=YV (.lst ys))(pr:ă H (kX ls l.fr) ys) :
  fL (upd H (wa l.fr) (.lst (ys++[.ref t]))) W kvs pls wa (ls++[l]):=by
 have kp:∀x w,H x=YV (.tup w)->upd H (wa l.fr) (.lst (ys++[.ref t])) x=YV (.tup w):=λx w z=>aF (λy=>by rw[y,e]at z;cases z) z
 refine{aF (λz=>by have:=h.d;rw[z,e]at this;cases this) h.d,h.v,h.i,λx hx=>?_}
 by_cases c:x=l.fr
 ·subst c;refine{_,ao,?_};have:kX (ls++[l]) l.fr=kX ls l.fr++[l]:=by
   unfold kX;rw[PZ,QY (by exact decide_eq_true rfl),QE]
  rw[this];exact Paired.two (pr.same kp) (.cons {t,rfl,kp _ _ ht} .nil)
 obtain⟨zs,e2,p2⟩:=h.l x hx
 have:kX (ls++[l]) x=kX ls x:=by
  unfold kX;rw[PZ,QA (by simp;exact λz=>c z.symm),QE,PH]
 rw[this]
 exact{zs,aF (λz=>c (h.i x hx _ hl z)) e2,p2.same kp}
structure WyP(G:Hp)(pls:List Str)(D:RB)(i:Nat)(ys:List V)(H:Hp)(ls:List RB):Prop where
 n:ls.length=i
 m:ys.length=i
 nd:ls.Nodup
 nD:D∉ls
 e:∀l∈ls,H l=YV (.lst [])
 f:∀l∈ls,G l=YW
 t:∀(j:Nat) y x l,ys[j]?=YV y->pls[j]?=YV x->ls[j]?=YV l->∃t,y=V.ref t/\H t=YV (.tup [.str x,.ref l])
theorem EG{H:Hp}:∀{pls:List Str}{ls:List RB}{ys:List V},ls.length=pls.length->ys.length=pls.length->(∀(j:Nat) y x l,ys[j]?=YV y->pls[j]?=YV x->ls[j]?=YV l->∃t,y=V.ref t/\H t=YV (.tup [.str x,.ref l]))->
  ∃ps:List RB,ys=ps.map V.ref/\ps.length=pls.length/\∀(i:Nat) t k v,ps[i]?=YV t->((pls.zip ls).map λxl=>((Pe xl.1:Key),V.ref xl.2))[i]?=YV (k,v)->H t=YV (.tup [kV k,v])
 | [],ls,ys,h1,h2,h3=>by
  cases ys with
  |nil=>exact{[],rfl,rfl,λi t k v h=>by simp at h}
  |cons y r=>cases h2
 |x::pls,l::ls,y::ys,h1,h2,h3=>by
  obtain⟨t,e,ht⟩:=h3 0 y x l rfl rfl rfl;obtain⟨ps,e1,e2,e3⟩:=EG (pls:=pls) (ls:=ls) (ys:=ys) (by simpa using h1) (by simpa using h2) (λj y' x' l' a b c=>h3 (j+1) y' x' l' a b c);refine{t::ps,by rw[e,e1];rfl,by simp[e2],λi t' k v a b=>?_};cases i with
  |zero=>cases a;cases b;exact ht
  |succ i=>exact e3 i t' k v a b
 |x::pls,[],ys,h1,_,_=>by cases h1
 |x::pls,l::ls,[],_,h2,_=>by cases h2
theorem Zd{x y:Str}{l:RB}:∀{pls:List Str}{ls:List RB},ls.Nodup->(x,l)∈pls.zip ls->(y,l)∈pls.zip ls->x=y
 |p::pls,q::ls,nd,h1,h2=>by
  rw[PK]at nd;rw[List.zip_cons_cons,O4]at h1 h2;rcases h1 with h1|h1<;>rcases h2 with h2|h2
  ·cases h1;cases h2;rfl
  ·cases h1;exact absurd (QB h2).2 nd.1
  ·cases h2;exact absurd (QB h1).2 nd.1
  exact Zd nd.2 h1 h2
 | [],_,_,h1,_=>by simp at h1
 |_::_,[],_,h1,_=>by simp at h1
def waO(kvs:List (Key×V))(x:Str):RB:=match L2.bx kvs (.inr x)with
 |some (.ref l)=>l
 |_=>0
inductive Bd(A:Ï)(d:Nat)(vs:List V)(H:Hp)(Q:VK)(Ã:XK):Prop
 |mk(N:Nat->Str)(X:Hp)(v:V)(b:Bool)(hs ds ms:List Pt)(z0:vs=[v,.bl b])(z1:ak X H)(z2:ka A N X v hs ds ms)(z3:OkL N d hs ds ms)(z5:∀l∈gF N b ds ms,l.fr∈cz N hs ds ms)
  (z4:∀(W:RB)(kvs:List (Key×V))(wa:Str->RB)(H':Hp),ak H H'->fL H' W kvs (cz N hs ds ms) wa (gF N b ds ms)->Q (.ref W) H'):Bd A d vs H Q Ã
theorem Kt(T:Txt K mg A)(d:Nat):T.xw.Hz P w base (3*d+10) (Bd A d):=by
 refine T.xw.hs (k:=3*d+9) o8 (λf Â A' outer s H vs Q E' hr hu h=>?_);obtain⟨N,X,v,b,hs,ds,ms,rfl,s0,pg,O,frp,q⟩:=h;refine⟨_,(af (É 2 o8.nd (Ď ni T.iW ((dD (N:=["place"]) (own:=1) (fr:=[]) (bI.of (by kernel_rfl!)) rfl (aW (au (hj:=by lia) (yQ T d) hr (fv 0^ae))) (λb=>Ò (i:=0) (show R9 (["place"]:List Sl) by decide+kernel) rfl) (λb=>iR) (λb=>aQ (fv 0^aP ae^ae)))^ae)))
  (af (bc RO rfl (aW (au (hj:=by lia) (Du.has (HV T d)) hr (fv 0^fv 1^ae))) (Ò (i:=3) o8.nd rfl)
   (aj (aT (bP (px hu (fv 2) (px hu (fv 3) ag)) (fv 3^ae)))))
  (aj (aD (fv 2))))),?_⟩
 have pln:=O.ok.pl;have pnd:=O.ok.nd;refine ah λM1 K1=>{N,X,v,hs,ds,ms,rfl,s0,pg,O.ok,λL1 H1 s1 Ϫ ľ=>?_};generalize cz N hs ds ms=pls at ľ pln pnd frp q;refine OZ {{_,À.of ľ},Fb (K:=K) (own:=1) (λD i ys H=>∃ls,WyP H1 pls D i ys H ls) (À.of ľ) (aG (by rw[OU];lia)) (λD hD=>{[],rfl,rfl,QM,by simp,by simp,by simp,λj y x l h=>by simp at h}) ?_ ?_}
 ·rintro b D i x v0 Hc ys Nn Y hx hv hD sc eD ⟨ls,w⟩ no yes;obtain⟨u0,rfl⟩:∃u0,v0=[u0]:=by
   match v0,hv with
   | [u],_=>exact⟨u,rfl⟩
  refine show _/\∀p,Hc p=YW->_ from{by show 0<=sizeLine;decide,λl hl=>?_};obtain⟨s2,el⟩:=Ð hl (HO.lst []);refine{by show 2<=sizeLine;decide,λtp é=>?_};obtain⟨s3,et⟩:=Ð é (HO.tup [x,.ref l]);refine yes [YV x] _ _ rfl (s2.trans s3) {ls++[l],?_};have lD:l≠D:=YX hl eD;have tD:tp≠D:=YX é (s2 _ _ eD);have lls:l∉ls:=λm=>by rw[w.e l m]at hl;cases hl
  rw[O7]at hx;have tk:∀z u,Hc z=YV u->z≠D->upd (upd (upd Hc l (.lst [])) tp (.tup [x,.ref l])) D (.lst (ys++[.ref tp])) z=YV u:=λz u h n=>aF n (s3 _ _ (s2 _ _ h));refine{by simp[w.n],by simp[w.m],P4.mpr {w.nd,by simp,λa ma b mb e=>by rw[OT]at mb;exact lls (mb▸e▸ma)},λm=>?_,λa ma=>?_,λa ma=>?_,λj y x' l' hy ņ hl'=>?_}
  ·rcases Pa.mp m with m|m
   ·exact w.nD m
   exact lD (OT.mp m).symm
  ·rcases Pa.mp ma with m|m
   ·exact tk _ _ (w.e a m) (λz=>w.nD (z▸m))
   rw[OT.mp m];exact aF lD (s3 _ _ el)
  ·rcases Pa.mp ma with m|m
   ·exact w.f a m
   rw[OT.mp m];exact ak.free sc hl
  by_cases jl:j<i
  ·rw[Qm (by rw[w.m];exact jl)]at hy;rw[Qm (by rw[w.n];exact jl)]at hl';obtain⟨t,e,ht⟩:=w.t j y x' l' hy ņ hl';exact{t,e,tk _ _ ht (λz=>by rw[z,eD]at ht;cases ht)}
  have ji:j=i:=by
   have:=(O8.mp hy).1;rw[O5,w.m,Po]at this;lia
  subst ji;rw[Qh (by rw[w.m];exact OW _),w.m,Rt]at hy;rw[Qh (by rw[w.n];exact OW _),w.n,Rt]at hl';cases hy;cases hl';rw[ņ]at hx;cases hx;exact⟨tp,rfl,aF tD et⟩
 rintro D H2 ys hD s2 eD ⟨ls,w⟩;have wn:=w.n;have wm:=w.m;rw[OU]at wn wm;obtain⟨ps,rfl,k1,k2⟩:=EG wn wm w.t;generalize ĭ:((pls.zip ls).map λxl=>((Pe xl.1:Key),V.ref xl.2))=kvs at k2;have kl:kvs.length=pls.length:=by rw[<-ĭ,OU,QS,wn,Nat.min_self]
 have kf:kvs.map (·.1)=pls.map Pe:=by
  rw[<-ĭ,P6];show(pls.zip ls).map (λxl=>(Pe xl.1:Key))=_;rw[show(λxl:Str×RB=>(Pe xl.1:Key))=Pe∘Prod.fst from rfl,<-P6,List.map_fst_zip ()]
 have knd:(kvs.map (·.1)).Nodup:=by
  rw[kf];unfold R9 at pnd⊢;rw[QK];exact pnd.imp λn e=>n (Pe.inj e)
 refine{D,ps,kvs,rfl,À.of eD,(),(),λi t k v ht hk=>Æ.of (k2 i t k v ht hk),λW hW=>?_};obtain⟨s3,eW⟩:=Ð hW (HO.dK (bf [] kvs));generalize upd H2 W _=H3 at s3 eW⊢;rw[mM kvs [] (by simpa using knd),Qn]at eW;have inj:∀x∈pls,∃l∈ls,L2.bx kvs (.inr x)=YV (.ref l)/\(x,l)∈pls.zip ls:=λx hx=>by
  obtain⟨j,hj,e⟩:=Ws hx;have hl:j<ls.length:=()
  have m:(x,ls[j])∈pls.zip ls:=List.mem_iff_getElem.mpr {j,by rw[QS];lia,by rw[List.getElem_zip,e]};exact{ls[j],Rk hl,Bf knd (by rw[<-ĭ];exact Pj.mpr {(x,ls[j]),m,rfl}),m}
 have wv:∀x∈pls,L2.bx kvs (.inr x)=YV (.ref (waO kvs x))/\(x,waO kvs x)∈pls.zip ls:=λx hx=>by
  obtain⟨l,ml,e,m⟩:=inj x hx;have:waO kvs x=l:=by unfold waO;rw[e]
  rw[this];exact⟨e,m⟩
 have wl:∀x∈pls,waO kvs x∈ls:=λx hx=>(QB (wv x hx).2).2;have t3:=(s1.trans s2).trans s3;have W0:fL H3 W kvs pls (waO kvs) []:={eW,λx hx=>(wv x hx).1,λx hx y hy e=>Zd w.nd (wv x hx).2 (e▸(wv y hy).2),λx hx=>{[],s3 _ _ (w.e _ (wl x hx)),.nil}};generalize waO kvs=wa at wl W0;have wf:∀m∈pls.map wa,H m=YW:=λm hm=>by
  obtain⟨x,hx,rfl⟩:=Pj.mp hm;exact ak.free s1 (w.f _ (wl x hx))
 refine K1 _ _ ?_;clear K1 M1;rfl'
 refine ah λM1 K1=>{N,X,v,b,hs,ds,ms,rfl,s0.trans t3,pg,O,λR zs H4 s4 hR eR lk=>?_};have W4:=W0.same s4;have nR:R∉pls.map wa:=λm=>by
  obtain⟨x,hx,rfl⟩:=Pj.mp m;obtain⟨ys,e,_⟩:=W0.l x hx;rw[hR]at e;cases e
 have nt:∀t u,H4 t=YV (.tup u)->t∉pls.map wa:=λt u e m=>by
  obtain⟨x,hx,rfl⟩:=Pj.mp m;obtain⟨ys,e2,_⟩:=W4.l x hx;rw[e]at e2;cases e2
 have ll:=O.ll b;generalize gF N b ds ms=ks at lk frp ll q;have lln:=RN lk;refine OZ {{_,À.of eR},a9 (K:=K) (xs:=zs) (λi B Hd=>∃(v3:Option V),B=[YV v,YV (.bl b),YV (.ref W),v3]/\Sm (pls.map wa) H4 Hd/\fL Hd W kvs pls wa (ks.take i)) {YW,rfl,Sm.refl _ _,W4} (λi B Hd _ ⟨_,_,z,_⟩=>À.of (z _ _ nR eR)) ?_ ?_}
 ·rintro i y B Hd hy ⟨v3,rfl,sd,Wd⟩;obtain⟨l,hl,t,rfl,et⟩:=cx lk hy;have ml:=OY hl;have et':=sd _ _ (nt _ _ et) et;obtain⟨us,eu,pu⟩:=Wd.l _ (frp l ml);have lu:=RN pu;have lw:(kX (ks.take i) l.fr).length<=900:=by
   have:=PX (λm:Lk=>decide (m.fr=l.fr)) (ks.take i);rw[Pq]at this;unfold kX;lia
  rfl'
  refine Ø (j:=0) (Æ.of et') rfl (Ŀ Wd.d (Wd.v _ (frp l ml)) {OZ {rfl,_,À.of eu},{_,_,_,rfl,rfl,eu,aG (),{_,rfl,sd.trans (Sm.at (PD (frp l ml)) _),?_}}});rw[PB,hl];exact Wd.push et' (frp l ml) eu pu
 rintro B Hd ⟨v3,rfl,sd,Wd⟩;rw[show ks.take zs.length=ks by rw[<-lln];exact Pk]at Wd;exact K1 _ _ (q W kvs wa Hd (sd.same (t3.trans s4) wf) Wd)
def Ņ(cs:List Str)(l:Lk):List Str:=if l.to∈cs then cs else cs++[l.to]
def lM(ls:List Lk):Nat->Nat->List Str->List Str
 |0,_,cs=>cs
 |n+1,i,cs=>match cs[i]? with
  |none=>cs
  |some x=>lM ls n (i+1) ((kX ls x).foldl Ņ cs)
theorem Ij(ls:List Lk)(n i:Nat)(cs:List Str)(h:cs.length<=i):lM ls n i cs=cs:=by
 cases n with
 |zero=>rfl
 |succ n=>
  unfold lM;rw[Qj h]
theorem tJ:∀{cs pls:List Str},cs.Nodup->(∀x∈cs,x∈pls)->cs.length<=pls.length
 | [],_,_,_=>Pc _
 |x::r,pls,nd,h=>by
  rw[PK]at nd;have m:=h x OX;have:=tJ (cs:=r) (pls:=pls.erase x) nd.2 λy hy=>by
   rw[List.mem_erase_of_ne λ(e:y=x)=>nd.1 (e▸hy)];exact h y (O2 _ hy)
  rw[Vj m]at this;have:=List.length_pos_of_mem m;rw[Pf];lia
theorem Bc:∀(l:List Lk)(cs:List Str),cs.length<=(l.foldl Ņ cs).length
 | [],cs=>OW _
 |k::l,cs=>by
  refine O6 ?_ (Bc l (Ņ cs k));unfold Ņ;split
  ·exact OW _
  simp
structure tZ(H:Hp)(C Q:RB)(pls cs:List Str)(kvs:List (Key×V)):Prop where
 c:H C=YV (.dK kvs)
 k:kvs.map (·.1)=cs.map Pe
 q:H Q=YV (.lst (sS cs))
 nd:cs.Nodup
 s:∀x∈cs,x∈pls
theorem tZ.has{H:Hp}{C Q:RB}{pls cs:List Str}{kvs:List (Key×V)}(h:tZ H C Q pls cs kvs)(x:Str):(L2.bx kvs (.inr x)).isSome=decide (x∈cs):=by
 rw[<-iO,Qd,Qz,decide_eq_true_iff];constructor
 ·rintro⟨kv,m,e⟩;have:kv.1∈cs.map Pe:=h.k▸PD m;rw[of_decide_eq_true e]at this;obtain⟨y,my,ey⟩:=Pj.mp this;exact Pe.inj ey▸my
 intro m;have:(Pe x:Key)∈kvs.map (·.1):=by rw[h.k];exact PD m
 obtain⟨kv,mk,e⟩:=Pj.mp this;exact⟨kv,mk,decide_eq_true e⟩
theorem tZ.len{H:Hp}{C Q:RB}{pls cs:List Str}{kvs:List (Key×V)}(h:tZ H C Q pls cs kvs):kvs.length=cs.length/\cs.length<=pls.length:=by
 have:=congrArg U8 h.k;simp only[OU]at this;exact⟨this,tJ h.nd h.s⟩
theorem tZ.put{H:Hp}{C Q:RB}{pls cs:List Str}{kvs:List (Key×V)}(h:tZ H C Q pls cs kvs){x:Str}{v:V}(n:x∉cs)(hp:x∈pls):tZ (upd (upd H C (.dK (Y2 kvs (.inr x) v))) Q (.lst (sS cs++[.str x]))) C Q pls (cs++[x]) (kvs++[((Pe x:Key),v)]):=by
 have CQ:C≠Q:=λe=>by have:=h.c;rw[e,h.q]at this;cases this
 have hv:L2.bx kvs (.inr x)=YW:=by
  have:=h.has x;rw[decide_eq_false n]at this;exact Option.isSome_eq_false_iff.mp this |> Option.isNone_iff_eq_none.mp
 refine{?_,by rw[PM,h.k,PM];rfl,?_,?_,λy hy=>?_}
 ·rw[ay CQ,ao,xX v hv]
 ·rw[ao];simp[sS]
 ·exact P4.mpr {h.nd,by simp,λa ma b mb e=>by rw[OT]at mb;exact n (mb▸e▸ma)}
 rcases Pa.mp hy with m|m
 ·exact h.s y m
 rw[OT.mp m];exact hp
inductive wt(A:Ï)(vs:List V)(H:Hp)(Q:VK)(Ã:XK):Prop
 |mk(W S:RB)(kw:List (Key×V))(pls:List Str)(wa:Str->RB)(ls:List Lk)(st:List Str)(z0:vs=[.ref W,.ref S])(z1:fL H W kw pls wa ls)(z2:H S=YV (.lst (sS st)))(z3:st.Nodup)(z4:∀x∈st,x∈pls)(z5:∀l∈ls,l.to∈pls)(z6:pls.length<=900)
  (z7:∀(C:RB)(kvs:List (Key×V))(H':Hp),ak H H'->H C=YW->H' C=YV (.dK kvs)->kvs.map (·.1)=(lM ls pls.length 0 st).map Pe->Q (.ref C) H'):wt A vs H Q Ã
theorem Be{H:Hp}:∀{st:List Str}{ys:List V},Paired (λx y=>∃t,y=V.ref t/\H t=YV (.tup [.str x,.Ä])) st ys->∃ps:List RB,ys=ps.map V.ref/\ps.length=st.length/\∀(i:Nat) t k v,ps[i]?=YV t->(st.map λx=>((Pe x:Key),V.Ä))[i]?=YV (k,v)->H t=YV (.tup [kV k,v])
 |_,_,.nil=>{[],rfl,rfl,(λi t k v h=>by simp at h)}
 |_,_,.cons h r=>by
  obtain⟨t,rfl,h1⟩:=h;obtain⟨ps,e1,e2,e3⟩:=Be r;refine{t::ps,by rw[e1];rfl,by simp[e2],λi t' k v ht hk=>?_};cases i with
  |zero=>cases ht;cases hk;exact h1
  |succ i=>exact e3 i t' k v ht hk
inductive Cf(pls:List Str)(W:RB)(S:RB)(C:RB)(Qa:RB)(H3:Hp)(ls:List Lk)(st:List Str)(m:Nat)(B:St)(Hd:Hp):Prop
 |mk(i:Nat)(cs:List Str)(kvs:List (Key×V))(v5 v6:Option V):m=pls.length-i->B=[YV (.ref W),YV (.ref S),YV (.ref C),YV (.ref Qa),YV (.int i),v5,v6]->Sm [C,Qa] H3 Hd->tZ Hd C Qa pls cs kvs->i<=cs.length->lM ls (pls.length-i) i cs=lM ls pls.length 0 st->Cf pls W S C Qa H3 ls st m B Hd
inductive BH(W:RB)(S:RB)(C:RB)(Qa:RB)(i:Nat)(H3:Hp)(pls:List Str)(ls:List Lk)(st:List Str)(B':St)(H':Hp):Prop
 |mk(Ź:List Str)(Ą:List (Key×V))(v5 v6:Option V):B'=[YV (.ref W),YV (.ref S),YV (.ref C),YV (.ref Qa),YV (.int ((i:Int)+1)),v5,v6]->Sm [C,Qa] H3 H'->tZ H' C Qa pls Ź Ą->i+1<=Ź.length->lM ls (pls.length-(i+1)) (i+1) Ź=lM ls pls.length 0 st->BH W S C Qa i H3 pls ls st B' H'
inductive BA(W:RB)(S:RB)(C:RB)(Qa:RB)(i:Nat)(x:Str)(H3:Hp)(pls:List Str)(ls:List Lk)(cs:List Str)(j:Nat)(B:St)(He:Hp):Prop
 |mk(Ź:List Str)(Ą:List (Key×V))(v6:Option V):B=[YV (.ref W),YV (.ref S),YV (.ref C),YV (.ref Qa),YV (.int (i:Int)),YV (.str x),v6]->Sm [C,Qa] H3 He->tZ He C Qa pls Ź Ą->Ź=((kX ls x).take j).foldl Ņ cs->BA W S C Qa i x H3 pls ls cs j B He
theorem MV(T:Txt K mg A):T.tu.Hz P w base 1 (wt A):=by
 refine T.tu.hs dy (λf Â A' outer s H vs Q E' hr hu h=>?_);obtain⟨W,S,kw,pls,wa,ls,st,rfl,hW,hS,snd,š,tos,pln,q⟩:=h;have stl:=tJ snd š;refine⟨_,(af (É 2 dy.nd (Ď ni T.iW ((dD (N:=["place"]) (own:=1) (fr:=[]) (bI.of (by kernel_rfl!)) rfl (aW (fv 1)) (λb=>Ò (i:=0) (show R9 (["place"]:List Sl) by decide+kernel) rfl) (λb=>iR) (λb=>aQ (fv 0^bU^ae)))^ae)))
  (af (É 3 dy.nd (Ď kY T.eO (fv 1^ae)))
  (af (É 4 dy.nd ag)
  (af (tV RO (Ö GK (fv 4) (Ó eZ T.fY (fv 3^ae)))
   (af (É 5 dy.nd (px hu (fv 3) (fv 4)))
   (af (bc RO rfl (aW (px hu (fv 0) (fv 5))) (Ò (i:=6) dy.nd rfl)
    (aj (aN (Ö (uk hu) (px hu (fv 6) ag) (fv 2) ((by with_unfolding_all rfl)))
     (af (cE (fv 6) (cF (fv 2) (px hu (fv 6) ag) (cU hu YZ)))
     (aj (aT (bP (fv 3) (px hu (fv 6) ag^ae)))))
     aH)))
   (aj (zI (i:=4) dy.nd rfl (by first|exact OZ rfl|exact Py rfl) ag Am)))))
  (aj (aD (fv 2))))))),?_⟩
 refine ah λM1 K1=>OZ {{_,À.of hS},cI (K:=K) (own:=1) st (λ_=>true) (λx y H=>∃t,y=V.ref t/\H t=YV (.tup [.str x,.Ä])) (À.of hS) (OU _) (aG (by rw[OU];lia)) ?_ ?_ ?_ ?_}
 ·intro b i x e v0 H1 Nn Y hx he hv s1 no yes;obtain⟨u0,rfl⟩:∃u0,v0=[u0]:=by
   match v0,hv with
   | [u],_=>exact⟨u,rfl⟩
  rw[O7,he]at hx;cases hx;refine show _/\∀p,H1 p=YW->_ from{by show 2<=sizeLine;decide,λtp é=>?_};exact yes rfl [YV (.str e)] _ _ rfl (ak.upd é _) ⟨tp,rfl,ao⟩
 ·rintro e y H1 H2 s1 ⟨t,e1,h1⟩;exact{t,e1,s1 _ _ h1}
 ·rintro e y H1 D ys zs hD ⟨t,e1,h1⟩;exact{t,e1,aF (λz=>by rw[z,hD]at h1;cases h1) h1}
 intro L1 H1 ys Ϫ s1 ľ pr;rw[d9]at pr;obtain⟨ps,rfl,k1,k2⟩:=Be pr;generalize ĭ:(st.map λx=>((Pe x:Key),V.Ä))=Ε at k2;have kf:Ε.map (·.1)=st.map Pe:=by rw[<-ĭ,P6];rfl
 have kl:Ε.length=st.length:=by rw[<-ĭ,OU]
 have knd:(Ε.map (·.1)).Nodup:=by
  rw[kf];have h:=snd;unfold R9 at h⊢;rw[QK];exact h.imp λn e=>n (Pe.inj e)
 refine{L1,ps,Ε,rfl,À.of ľ,(),(),λi t k v ht hk=>Æ.of (k2 i t k v ht hk),λC hC=>?_};obtain⟨s2,eC⟩:=Ð hC (HO.dK (bf [] Ε));generalize upd H1 C _=H2 at s2 eC⊢;rw[mM Ε [] (by simpa using knd),Qn]at eC;have t2:=s1.trans s2;have hC0:H C=YW:=ak.free s1 hC;refine K1 _ _ ?_;clear K1 M1;rfl'
 refine ah λM1 K1=>OZ {S,_,rfl,OZ (À.of (t2 _ _ hS)),λQa hQ=>?_};obtain⟨s3,eQ⟩:=Ð hQ (HO.lst (sS st));generalize upd H2 Qa _=H3 at s3 eQ⊢;have t3:=t2.trans s3;have hQ0:H Qa=YW:=ak.free t2 hQ;have nf:∀m∈[C,Qa],H m=YW:=λm hm=>by
  rcases O4.mp hm with e|hm
  ·rw[e];exact hC0
  rw[OT.mp hm];exact hQ0
 have hm:C∈[C,Qa]/\Qa∈[C,Qa]:={OX,O2 _ OX};have cm3:tZ H3 C Qa pls st Ε:={s3 _ _ eC,kf,eQ,snd,š};refine K1 _ _ ?_;clear K1 M1;rfl'
 refine ah λM1 K1=>K1 _ _ ?_;clear K1 M1;rfl'
 refine ah λM1 K1=>{Cf pls W S C Qa H3 ls st,{_,0,st,Ε,YW,YW,rfl,rfl,Sm.refl _ _,cm3,Pc _,rfl},?_};rintro m B Hd ⟨i,cs,kvs,v5,v6,rfl,rfl,sd,cm,il,ar⟩;have cl:=cm.len;refine Ŭ cm.q ?_;rw[OU];refine{_,rfl,bh (λc=>?_) (λc=>?_)}
 ·have il2:i<cs.length:=by have:=of_decide_eq_true c;lia
  obtain⟨x,hx⟩:∃x,cs[i]?=YV x:={_,OV il2};have mx:x∈pls:=cm.s x (OY hx);refine{BH W S C Qa i H3 pls ls st,?_,?_}
  ·rintro B' H' ⟨Ź,Ą,v5,v6,rfl,a1,a2,a3,a4⟩;exact{pls.length-(i+1),(),i+1,Ź,Ą,v5,v6,rfl,rfl,a1,a2,a3,a4}
  have ë:lM ls (pls.length-(i+1)) (i+1) ((kX ls x).foldl Ņ cs)=lM ls pls.length 0 st:=by
   rw[<-ar,show pls.length-i=pls.length-(i+1)+1 by lia];conv=>rhs;unfold lM
   rw[hx]
  rfl'
  refine ah λN1 J1=>Ì (À.of cm.q) (dY (by rw[O7,hx];rfl)) (?_);have sH:ak H Hd:=sd.same t3 nf;have hWd:=hW.same sH;obtain⟨us,eu,pu⟩:=hW.l x mx;have lus:=RN pu;refine J1 _ _ ?_;clear J1 N1;rfl'
  refine ah λN1 J1=>Ŀ hWd.d (hWd.v x mx) (OZ {{_,À.of (sH _ _ eu)},a9 (K:=K) (xs:=us) (BA W S C Qa i x H3 pls ls cs) ⟨cs,kvs,v6,rfl,sd,cm,rfl⟩ (λj B He _ ⟨_,_,_,_,z,_,_⟩=>À.of ((z.same t3 nf) _ _ eu)) ?_ ?_})
  ·rintro j y B He hy ⟨Ź,Ą,v6,rfl,se,ce,rfl⟩;obtain⟨l,hl,t,rfl,et⟩:=cx pu hy;have ml:l∈ls:=(Pu.mp (OY hl)).1;have sHe:=se.same t3 nf;have et':=Æ.of (K:=K) (sHe _ _ et);have ϊ:((kX ls x).take (j+1)).foldl Ņ cs=Ņ (((kX ls x).take j).foldl Ņ cs) l:=gY Ņ cs hl;generalize ((kX ls x).take j).foldl Ņ cs=cj at ce ϊ;have ī:=ce.len;rfl'
   refine Ø (j:=1) et' rfl (Py {C,_,rfl,lH.k (k:=.inr l.to) ce.c,_,rfl,?_});rw[ce.has];unfold Ņ at ϊ;by_cases m:l.to∈cj
   ·rw[if_pos m]at ϊ;rw[decide_eq_true m];exact aV {_,_,_,rfl,se,ce,ϊ.symm}
   rw[if_neg m]at ϊ;rw[decide_eq_false m];refine bK (ah λO1 I1=>Ø (j:=1) et' rfl {_,gQ.k (k:=.inr l.to) ce.c (aG ()),I1 _ _ ?_});clear I1 O1;have tC:t≠C:=λz=>by have:=sHe _ _ et;rw[z,ce.c]at this;cases this
   have QC:Qa≠C:=λz=>by have:=ce.q;rw[z,ce.c]at this;cases this
   have eq2:upd He C (.dK (Y2 Ą (.inr l.to) (.ref t))) Qa=YV (.lst (sS cj)):=aF QC ce.q;have et2:Æ K (upd He C (.dK (Y2 Ą (.inr l.to) (.ref t)))) t l.vs:=Æ.of (aF tC (sHe _ _ et));rfl'
   exact{OZ {rfl,_,À.of eq2},Ø (j:=1) et2 rfl {_,_,_,rfl,rfl,eq2,aG (by rw[OU];lia),{_,_,_,rfl,(se.trans (Sm.at hm.1 _)).trans (Sm.at hm.2 _),ce.put m (tos l ml),ϊ.symm}}}
  rintro B He ⟨Ź,Ą,v6,rfl,se,ce,ecs⟩;rw[show(kX ls x).take us.length=kX ls x by rw[<-lus];exact Pk]at ecs;refine J1 _ _ ?_;have sl:=Bc (kX ls x) cs;rw[<-ecs]at sl ë;exact{_,rfl,i,1,rfl,rfl,Ź,Ą,_,_,rfl,se,ce,(),ë}
 have ie:i=cs.length:=by
  have:¬ ((i:Int)<(cs.length:Int)):=λz=>c (decide_eq_true z);lia
 rw[Ij ls _ i cs ()]at ar;exact K1 _ _ (q C kvs Hd (sd.same t3 nf) hC0 cm.c (by rw[cm.k,ar]))
inductive Bh(vs:List V)(H:Hp)(Q:VK)(Ã:XK):Prop
 |mk(r:Int):vs=[.int r]->0<=r/\r<=2->Q (.int (1*2^r.toNat)) H->Bh vs H Q Ã
theorem LW(T:Txt K mg A):T.only.Hz P w base 1 Bh:=by
 refine T.only.hs Il (λf Â A' outer s H vs Q E' hr hu h=>?_);obtain⟨r,rfl,Θ,q⟩:=h;exact{_,(aj (aD (aE MY ag (fv 0)))),{by unfold EZ;lia,q}}
inductive u4(vs:List V)(H:Hp)(Q:VK)(Ã:XK):Prop
 |mk(a b:Int):vs=[.int a,.int b]->Q (.int (Uy a b)) H->u4 vs H Q Ã
theorem FC(T:Txt K mg A):T.joined.Hz P w base 1 u4:=by
 refine T.joined.hs C7 (λf Â A' outer s H vs Q E' hr hu h=>?_);obtain⟨a,b,rfl,q⟩:=h;exact{_,(aj (aD (aE OD (fv 0) (fv 1)))),q}
theorem uU{sp:Sp}{dvs:List V}{E:XK}{t:TA}(hs:∀vs H (Q Q':VK),(∀v H,Q v H->Q' v H)->sp vs H Q E->sp vs H Q' E)(ht:∀B H (R R':List V->Hp->Prop),(∀vs H,R vs H->R' vs H)->t B H R->t B H R'):∀B H (Q Q':VK),(∀v H,Q v H->Q' v H)->vn sp dvs E t B H Q->vn sp dvs E t B H Q':=λB H Q Q' h hh=>ht B H _ _ (λvs H1 z=>hs _ _ _ _ h z) hh
theorem nB{te:TE}{t:TA}(he:∀B H (Q Q':VK),(∀v H,Q v H->Q' v H)->te B H Q->te B H Q')(ht:∀B H (R R':List V->Hp->Prop),(∀vs H,R vs H->R' vs H)->t B H R->t B H R'):∀B H (R R':List V->Hp->Prop),(∀vs H,R vs H->R' vs H)->Gk te t B H R->Gk te t B H R':=λB H R R' h hh=>he B H _ _ (λv H1 z=>ht B H1 _ _ (λvs H2 y=>h _ _ y) z) hh
theorem zr:∀B H (R R':List V->Hp->Prop),(∀vs H,R vs H->R' vs H)->DD B H R->DD B H R':=λB H R R' h hh=>h _ _ hh
theorem Ej:∀vs H (Q Q':VK),(∀v H,Q v H->Q' v H)->wt A vs H Q E0->wt A vs H Q' E0:=by
 rintro vs H Q Q' h ⟨W,S,kw,pls,wa,ls,st,z0,z1,z2,z3,z4,z5,z6,z7⟩;exact{W,S,kw,pls,wa,ls,st,z0,z1,z2,z3,z4,z5,z6,λC kvs H' a b c d=>h _ _ (z7 C kvs H' a b c d)}
theorem DR:∀vs H (Q Q':VK),(∀v H,Q v H->Q' v H)->gP A vs H Q E0->gP A vs H Q' E0:=by
 rintro vs H Q Q' h ⟨N,X,v,rk,hs,ds,ms,z0,z1,z2,z3,z4⟩;exact{N,X,v,rk,hs,ds,ms,z0,z1,z2,z3,λR H' a b c=>h _ _ (z4 R H' a b c)}
def bV(g:Str->Int):Key->V
 | .inr x=>.int (g x)
 | .inl _=>.Ä
def bOr(r:Int)(g:Str->Int)(x:Str):Str->Int:=λy=>if y=x then Uy (g x) (1*2^r.toNat)else g y
theorem KD(g:Str->Int)(x:Str)(v:Int):uH (bV g) (.inr x) (.int v)=bV λy=>if y=x then v else g y:=by
 funext k
 unfold uH;cases k with
 |inl i=>rw[if_neg (by intro e;cases e)];rfl
 |inr y=>
  by_cases e:y=x
  ·rw[if_pos (by rw[e])];show V.int v=V.int (if y=x then v else g y);rw[if_pos e]
  rw[if_neg λz=>e (Pe.inj z)];show V.int (g y)=V.int (if y=x then v else g y);rw[if_neg e]
theorem JC{pls:List Str}{g:Str->Int}{x:Str}{r:Int}(m:x∈pls):Y2 (sk (pls.map Pe) (bV g)) (.inr x) (.int (Uy (g x) (1*2^r.toNat)))=sk (pls.map Pe) (bV (bOr r g x)):=by
 rw[FT,KD,show pk (pls.map Pe) (Pe x)=pls.map Pe from if_pos (PD m)];rfl
def Nm(N:Nat->Str)(b:Bool)(hs ds ms:List Pt)(r:Int):List Str:=lM (gF N b ds ms) (cz N hs ds ms).length 0 (Y6 N hs r)
def Mr(N:Nat->Str)(b:Bool)(hs ds ms:List Pt):Str->Int:=(Ť ((jO N hs).map (·.2))).foldl (λg r=>(Nm N b hs ds ms r).foldl (bOr r) g) λ_=>0
structure OkT(N:Nat->Str)(d:Nat)(hs ds ms:List Pt):Prop where
 l:OkL N d hs ds ms
 fr:∀b,∀l∈gF N b ds ms,l.fr∈cz N hs ds ms
 to:∀b,∀l∈gF N b ds ms,l.to∈cz N hs ds ms
 rk:∀s∈jO N hs,s.2=0\/s.2=1\/s.2=2
 sn:((jO N hs).map (·.1)).Nodup
 ss:∀s∈jO N hs,s.1∈cz N hs ds ms
theorem fL.sm{H H':Hp}{W Ô:RB}{kvs kb:List (Key×V)}{pls:List Str}{wa:Str->RB}{ls:List Lk}(h:fL H W kvs pls wa ls)(s:Sm [Ô] H H')(eB:H Ô=YV (.dK kb))(n:W≠Ô):fL H' W kvs pls wa ls:=by
 have t:∀a o,a≠Ô->H a=YV o->H' a=YV o:=λa o m e=>s a o (λz=>m (OT.mp z)) e;refine{t _ _ n h.d,h.v,h.i,λx hx=>?_};obtain⟨ys,e,l⟩:=h.l x hx;exact{ys,t _ _ (λz=>by rw[z,eB]at e;cases e) e,l.same λa u z=>t _ _ (λy=>by rw[y,eB]at z;cases z) z}
theorem yy{H:Hp}:∀{st:List Str}{ys:List V},Paired (λx y=>∃t,y=V.ref t/\H t=YV (.tup [.str x,.int 0])) st ys->∃ps:List RB,ys=ps.map V.ref/\ps.length=st.length/\∀(i:Nat) t k v,ps[i]?=YV t->(sk (st.map Pe) (bV λ_=>0))[i]?=YV (k,v)->H t=YV (.tup [kV k,v])
 |_,_,.nil=>{[],rfl,rfl,(λi t k v h=>by simp at h)}
 |_,_,.cons h r=>by
  obtain⟨t,rfl,h1⟩:=h;obtain⟨ps,e1,e2,e3⟩:=yy r;refine{t::ps,by rw[e1];rfl,by simp[e2],λi t' k v ht hk=>?_};cases i with
  |zero=>cases ht;cases hk;exact h1
  |succ i=>exact e3 i t' k v ht hk
theorem Cu{ls:List Lk}{pls:List Str}(to:∀l∈ls,l.to∈pls):∀(n i:Nat)(cs:List Str),(∀x∈cs,x∈pls)->∀x∈lM ls n i cs,x∈pls
 |0,_,cs,h=>h
 |n+1,i,cs,h=>by
  unfold lM;split
  ·exact h
  next x hx=>
  refine Cu to n (i+1) _ ?_;have:∀(l:List Lk),(∀k∈l,k∈ls)->∀cs:List Str,(∀x∈cs,x∈pls)->∀x∈l.foldl Ņ cs,x∈pls:=by
   intro l;induction l with
   |nil=>exact λ_ cs h=>h
   |cons k l ih=>
    intro hl cs h;refine ih (λk' m=>hl k' (O2 _ m)) _ λx hx=>?_;unfold Ņ at hx;split at hx
    ·exact h x hx
    rcases Pa.mp hx with m|m
    ·exact h x m
    rw[OT.mp m];exact to k (hl k OX)
  exact this _ (λk m=>(Pu.mp m).1) cs h
inductive zu(A:Ï)(d:Nat)(vs:List V)(H:Hp)(Q:VK)(Ã:XK):Prop
 |mk(N:Nat->Str)(X:Hp)(v:V)(b:Bool)(hs ds ms:List Pt)(z0:vs=[v,.bl b])(z1:ak X H)(z2:ka A N X v hs ds ms)(z3:OkT N d hs ds ms)
  (z4:∀(Ô:RB)(H':Hp),ak H H'->H Ô=YW->H' Ô=YV (.dK (sk ((cz N hs ds ms).map Pe) (bV (Mr N b hs ds ms))))->Q (.ref Ô) H'):zu A d vs H Q Ã
theorem AJ(i:Nat):∀B H (Q Q':VK),(∀v H,Q v H->Q' v H)->Fq i B H Q->Fq i B H Q':=λB H Q Q' h hh=>by
 unfold Fq at hh⊢;split at hh
 ·exact h _ _ hh
 exact hh
theorem zf{α:Type}{f:α->Int}{src:List α}:∀{ys:List V},Paired (λt y=>y=V.int (f t)) src ys->ys=(src.map f).map V.int
 |_,.nil=>rfl
 |_,.cons h r=>by rw[h,zf r];rfl
theorem GD(T:Txt K mg A)(d:Nat):T.table.Hz P w base (3*d+11) (zu A d):=by
 refine T.table.hs (k:=3*d+10) mN (λf Â A' outer s H vs Q E' hr hu h=>?_);obtain⟨N,X,v,b,hs,ds,ms,rfl,s0,pg,O,q⟩:=h;refine⟨_,(af (É 2 mN.nd (au (hj:=by lia) (Kt T d) hr (fv 0^fv 1^ae)))
  (af (É 3 mN.nd (Ď ni T.iW ((dD (N:=["place"]) (own:=1) (fr:=[]) (bI.of (by kernel_rfl!)) rfl (aW (au (hj:=by lia) (yQ T d) hr (fv 0^ae))) (λb=>Ò (i:=0) (show R9 (["place"]:List Sl) by decide+kernel) rfl) (λb=>iR) (λb=>aQ (fv 0^ag^ae)))^ae)))
  (af (bc RO rfl (aW (wW T.pd T.A5 ((dD (N:=["place","rank"]) (own:=2) (fr:=[]) (bI.of (by kernel_rfl!)) rfl (aW (au (hj:=by lia) (vh T) hr (fv 0^ae))) (λb=>kR rfl (bj (Ò (i:=0) (show R9 (["place","rank"]:List Sl) by decide+kernel) rfl) (bj (Ò (i:=1) (show R9 (["place","rank"]:List Sl) by decide+kernel) rfl) gU))) (λb=>iR) (λb=>fv 1))^ae))) (Ò (i:=4) mN.nd rfl)
   (aj (Ia RO rfl (au (hj:=by lia) (MV T) hr (fv 2^(au (hj:=by lia) (xN T) hr (fv 0^fv 4^ae))^ae)) (uU Ej (nB (AJ 2) (nB (uU DR (nB (AJ 0) (nB (AJ 4) zr))) zr))) (Ò (i:=5) mN.nd rfl)
    (aj (cE (au (hj:=by lia) (FC T) hr (px hu (fv 3) (fv 5)^(au (hj:=by lia) (LW T) hr (fv 4^ae))^ae)) (cF (fv 3) (fv 5) (cU hu YZ)))))))
  (aj (aD (fv 3)))))),?_⟩
 have pln:=O.l.ok.pl;have pnd:=O.l.ok.nd;refine ah λM1 K1=>{N,X,v,b,hs,ds,ms,rfl,s0,pg,O.l,O.fr b,λW kw wa H1 s1 hW=>K1 _ _ ?_};clear K1 M1;rfl'
 refine ah λM1 K1=>{N,X,v,hs,ds,ms,rfl,s0.trans s1,pg,O.l.ok,λL1 H2 s2 Ϫ ľ=>?_};have Oto:=O.to b;have Oss:=O.ss;unfold Mr Nm at q;generalize gF N b ds ms=ls at hW Oto q;generalize ê:cz N hs ds ms=pls at hW Oto ľ pln pnd Oss q;refine OZ {{_,À.of ľ},cI (K:=K) (own:=1) pls (λ_=>true) (λx y H=>∃t,y=V.ref t/\H t=YV (.tup [.str x,.int 0])) (À.of ľ) (OU _) (aG (by rw[OU];lia)) ?_ ?_ ?_ ?_}
 ·intro b i x e v0 H1 Nn Y hx he hv s1 no yes;obtain⟨u0,rfl⟩:∃u0,v0=[u0]:=by
   match v0,hv with
   | [u],_=>exact⟨u,rfl⟩
  rw[O7,he]at hx;cases hx;refine show _/\∀p,H1 p=YW->_ from{by show 2<=sizeLine;decide,λtp é=>?_};exact yes rfl [YV (.str e)] _ _ rfl (ak.upd é _) ⟨tp,rfl,ao⟩
 ·rintro e y H1 H2 s1 ⟨t,e1,h1⟩;exact{t,e1,s1 _ _ h1}
 ·rintro e y H1 D ys zs hD ⟨t,e1,h1⟩;exact{t,e1,aF (λz=>by rw[z,hD]at h1;cases h1) h1}
 intro L2' H3 ys hL2 s3 eL2 pr;rw[d9]at pr;obtain⟨ps,rfl,k1,k2⟩:=yy pr;have kl:(sk (pls.map Pe) (bV λ_=>0)).length=pls.length:=by rw[Ac,OU]
 have knd:((sk (pls.map Pe) (bV λ_=>0)).map (·.1)).Nodup:=by
  rw[show(sk (pls.map Pe) (bV λ_=>0)).map (·.1)=pls.map Pe by unfold sk;rw[P6];exact List.map_id' _];have h:=pnd;unfold R9 at h⊢;rw[QK];exact h.imp λn e=>n (Pe.inj e)
 refine{L2',ps,_,rfl,À.of eL2,(),(),λi t k v ht hk=>Æ.of (k2 i t k v ht hk),λÔ hB=>?_};obtain⟨s4,eB⟩:=Ð hB (HO.dK (bf [] (sk (pls.map Pe) (bV λ_=>0))));generalize upd H3 Ô _=H4 at s4 eB⊢;rw[mM _ [] (by simpa using knd),Qn]at eB;have t3:=(s1.trans s2).trans s3;have t4:=t3.trans s4;have hB0:H Ô=YW:=ak.free t3 hB;have WB:W≠Ô:=(YX hB ((s2.trans s3) _ _ hW.d)).symm;have hW4:=hW.same ((s2.trans s3).trans s4);refine K1 _ _ ?_;clear K1 M1;rfl'
 refine ah λM1 K1=>{N,X,v,hs,ds,ms,rfl,s0.trans t4,pg,O.l.ok.hl,λL3 ss H5 s5 hL3 eL3 pr3=>?_};have hl3:=O.l.ok.hl;have ln3:=RN pr3;have l3:(jO N hs).length<=hs.length:=by
  unfold jO;rw[OU];exact PX _ _
 refine OZ {{_,À.of eL3},cI (K:=K) (own:=2) (jO N hs) (λ_=>true) (λs y _=>y=.int s.2) (À.of eL3) ln3.symm (aG ()) ?_ (λ_ _ _ _ _ h=>h) (λ_ _ _ _ _ _ _ h=>h) ?_}
 ·intro b i x t v0 H2 Nn Y hx he hv s2 no yes;obtain⟨u0,u1,rfl⟩:∃u0 u1,v0=[u0,u1]:=by
   match v0,hv with
   | [u,u'],_=>exact⟨u,u',rfl⟩
  obtain⟨t',ht,tp,rfl,ļ⟩:=cx pr3 hx;rw[he]at ht;cases ht;exact{tp,_,rfl,Æ.of (s2 _ _ ļ),rfl,_,_,rfl,_,_,rfl,rfl,yes rfl [YV (.str t.1),YV (.int t.2)] _ _ rfl (ak.refl _) rfl}
 intro L4 H6 zs hL4 s6 eL4 pz;rw[d9]at pz;have ez:=zf pz;refine{L4,(jO N hs).map (·.2),rfl,À.of (by rw[eL4,ez]),λn hn=>?_,λLr hLr=>?_}
 ·obtain⟨s,m,rfl⟩:=Pj.mp hn;exact O.rk s m
 obtain⟨s7,eLr⟩:=Ð hLr (HO.lst ((Ť ((jO N hs).map (·.2))).map V.int));generalize upd H6 Lr _=H7 at s7 eLr⊢;have t57:=(s5.trans s6).trans s7;have t7:=t4.trans t57;have eB7:=t57 _ _ eB;have LrB:Lr≠Ô:=YX hLr ((s5.trans s6) _ _ eB);have hW7:=hW4.same t57;have rk3m:∀r∈Ť ((jO N hs).map (·.2)),0<=r/\r<=2:=λr hr=>by
  have:=(Pu.mp hr).1;simp only[O4,Pw,or_false]at this;rcases this with h|h|h<;>rw[h]<;>decide
 generalize Ť ((jO N hs).map (·.2))=rks at eLr rk3m q;refine OZ {{_,À.of eLr},a9 (K:=K) (xs:=rks.map V.int) (λj B Hd=>∃(v4 v5:Option V),B=[YV v,YV (.bl b),YV (.ref W),YV (.ref Ô),v4,v5]/\Sm [Ô] H7 Hd/\Hd Ô=YV (.dK (sk (pls.map Pe) (bV ((rks.take j).foldl (λg r=>(lM ls pls.length 0 (Y6 N hs r)).foldl (bOr r) g) λ_=>0))))) {YW,YW,rfl,Sm.refl _ _,eB7} (λj B Hd _ ⟨_,_,_,z,_⟩=>À.of (z _ _ (λm=>LrB (OT.mp m)) eLr)) ?_ ?_}
 ·rintro j y B Hd hy ⟨v4,v5,rfl,sd,eBd⟩;rw[O7]at hy;cases Θ:rks[j]? with
  |none=>rw[Θ]at hy;cases hy
  |some r=>
  rw[Θ]at hy;cases hy;have r02:=rk3m r (OY Θ);have ϊ:=gY (λg r=>(lM ls pls.length 0 (Y6 N hs r)).foldl (bOr r) g) (λ_:Str=>(0:Int)) Θ;generalize (rks.take j).foldl (λg r=>(lM ls pls.length 0 (Y6 N hs r)).foldl (bOr r) g) (λ_=>0)=g0 at eBd ϊ;have sX:ak H Hd:=sd.same t7 (λm hm=>by rw[OT.mp hm];exact hB0);have hWd:=hW7.sm sd eB7 WB;rfl'
  refine{N,X,v,r,hs,ds,ms,rfl,s0.trans sX,pg,O.l.ok.hl,λS H8 s8 hS eS=>?_};have snd:(Y6 N hs r).Nodup:=by
   unfold Y6;exact List.Sublist.nodup (XI _ Q9) O.sn
  have š:∀x∈Y6 N hs r,x∈pls:=λx hx=>by
   obtain⟨s,m,rfl⟩:=Pj.mp hx;exact Oss s (Pu.mp m).1
  refine{W,S,kw,pls,wa,ls,Y6 N hs r,rfl,hWd.same s8,eS,snd,š,Oto,(),λC kc H9 s9 hC eC kk=>?_};have asub:=Cu Oto pls.length 0 _ š;generalize lM ls pls.length 0 (Y6 N hs r)=ar at kk ϊ asub;have t9:=s8.trans s9;have eB9:=t9 _ _ eBd;have CB:C≠Ô:=YX hC (s8 _ _ eBd);have hC0:Hd C=YW:=ak.free s8 hC;have kcl:kc.length=ar.length:=by
   have:=congrArg U8 kk;simpa using this
  refine{C,kc,rfl,eC,λo nfz knd=>{λi B Hf=>∃v5,B=[YV v,YV (.bl b),YV (.ref W),YV (.ref Ô),YV (.int r),v5]/\Sm [Ô,C] H9 Hf/\Hf C=YV (.ß o (.dK kc))/\Hf Ô=YV (.dK (sk (pls.map Pe) (bV ((ar.take i).foldl (bOr r) g0)))),{v5,rfl,Sm.at (O2 _ OX) _,ao,aF CB.symm eB9},λi B Hf _ ⟨_,_,_,z,_⟩=>z,?_,?_}}
  ·rintro i k u B Hf hk ⟨v5,rfl,sf,eCf,eBf⟩;have hx:(ar.map (Pe:Str->Key))[i]?=YV k:=by rw[<-kk,O7,hk];rfl
   rw[O7]at hx;cases ha:ar[i]? with
   |none=>rw[ha]at hx;cases hx
   |some x=>
   rw[ha]at hx;cases hx;have mx:x∈pls:=asub x (OY ha);have st2:=gY (bOr r) g0 ha;rfl'
   refine Ŀ eBf (AN (PD mx)) {r,rfl,r02,_,_,rfl,{_,gQ.k (k:=.inr x) eBf (aG (by rw[Ac,OU];lia)),{_,rfl,sf.trans (Sm.at OX _),aF CB eCf,?_}}};rw[ao,st2];exact congrArg (λz=>YV (HO.dK z)) (JC mx)
  rintro B Hf ⟨v5,rfl,sf,eCf,eBf⟩;rw[kcl,Pk]at eBf;refine{_,_,rfl,λa u na e=>?_,aF CB.symm (by rw[ϊ];exact eBf)};have ed:=sd a u na e;have aC:a≠C:=λz=>by rw[z,hC0]at ed;cases ed
  have aB:a≠Ô:=λz=>na (OT.mpr z);refine aF aC (sf a u (λm=>?_) (t9 _ _ ed));rcases O4.mp m with z|m
  ·exact aB z
  exact aC (OT.mp m)
 rintro B Hd ⟨v4,v5,rfl,sd,eBd⟩;rw[OU,Pk]at eBd;exact K1 _ _ (q Ô Hd (sd.same t7 (λm hm=>by rw[OT.mp hm];exact hB0)) hB0 eBd)
def dO(N:Nat->Str):Prop:=∀i j,i<25->j<25->N i=N j->i=j
def dk(N:Nat->Str)(idx:List Nat)(f:Nat->V):List (Key×V):=idx.map λi=>(Pe (N i),f i)
theorem Zb(D:dO N){i j:Nat}(hi:i<25)(hj:j<25)(h:i≠j):(Pe (N i):Key)≠Pe (N j):=λe=>h (D i j hi hj (Pe.inj e))
theorem jA(D:dO N){f:Nat->V}{i:Nat}:∀{idx:List Nat},(∀j∈idx,j<25)->i∈idx->L2.bx (dk N idx f) (.inr (N i))=YV (f i)
 |j::r,hb,m=>by
  by_cases e:j=i
  ·subst e;unfold L2.bx dk;rw[Pp,P2];simp
  have hj:=hb j OX;have m':i∈r:=by
   rcases O4.mp m with z|z
   ·exact absurd z.symm e
   exact z
  have hi:=hb i m;have ih:=jA D (f:=f) (i:=i) (idx:=r) (λk hk=>hb k (O2 _ hk)) m';unfold L2.bx dk at ih⊢;rw[Pp,P2,decide_eq_false (Zb D hj hi e)];exact ih
theorem Jf(D:dO N){f:Nat->V}{i:Nat}(hi:i<25):∀{idx:List Nat},(∀j∈idx,j<25)->i∉idx->L2.bx (dk N idx f) (.inr (N i))=YW
 | [],_,_=>rfl
 |j::r,hb,m=>by
  have e:j≠i:=λz=>m (by rw[z];exact OX);have ih:=Jf D (f:=f) hi (idx:=r) (λk hk=>hb k (O2 _ hk)) (λz=>m (O2 _ z));unfold L2.bx dk at ih⊢;rw[Pp,P2,decide_eq_false (Zb D (hb j OX) hi e)];exact ih
theorem Eg(D:dO N){f:Nat->V}{i:Nat}(hi:i<25){idx:List Nat}(hb:∀j∈idx,j<25):((dk N idx f).any λkv=>decide (kv.1=(Pe (N i):Key)))=decide (i∈idx):=by
 unfold dk;rw[List.any_map];by_cases m:i∈idx
 ·rw[decide_eq_true m,Qz];exact⟨i,m,decide_eq_true rfl⟩
 rw[decide_eq_false m,W7];intro j hj;show ¬ decide ((Pe (N j):Key)=Pe (N i))=true;rw[decide_eq_false (Zb D (hb j hj) hi (λz=>m (z▸hj)))];exact O3
theorem xI{f g:Nat->V}{idx:List Nat}(h:∀i∈idx,f i=g i):dk N idx f=dk N idx g:=Qo λi hi=>by rw[h i hi]
def p6(f:Nat->V)(i:Nat)(v:V):Nat->V:=λj=>if j=i then v else f j
theorem dE(f:Nat->V)(i:Nat)(v:V):p6 f i v i=v:=if_pos rfl
theorem fV(f:Nat->V){i j:Nat}(v:V)(h:j≠i):p6 f i v j=f j:=if_neg h
theorem Aa(D:dO N){f:Nat->V}{i:Nat}{v:V}{idx:List Nat}(hb:∀j∈idx,j<25)(m:i∈idx):Y2 (dk N idx f) (.inr (N i)) v=dk N idx (p6 f i v):=by
 unfold Y2;rw[Eg D (hb i m) hb,decide_eq_true m,if_pos rfl];unfold dk;rw[P6];refine Qo λj hj=>?_;show(if(Pe (N j):Key)=Pe (N i)then((Pe (N j):Key),v)else(Pe (N j),f j))=(Pe (N j),p6 f i v j);by_cases e:j=i
 ·rw[e,if_pos rfl,dE]
 rw[if_neg (Zb D (hb j hj) (hb i m) e),fV _ _ e]
theorem iQ(D:dO N){f:Nat->V}{i:Nat}{v:V}{idx:List Nat}(hi:i<25)(hb:∀j∈idx,j<25)(m:i∉idx):Y2 (dk N idx f) (.inr (N i)) v=dk N (idx++[i]) (p6 f i v):=by
 unfold Y2;rw[Eg D hi hb,decide_eq_false m,if_neg O3];unfold dk;rw[PM,Pp,Rj,dE];congr 1;refine Qo λj hj=>?_;rw[fV _ _ (λz=>m (by rw[<-z];exact hj))]
def ins(idx:List Nat)(i:Nat):List Nat:=if i∈idx then idx else idx++[i]
theorem Kw{idx:List Nat}{i:Nat}(hb:∀j∈idx,j<25)(hi:i<25):∀j∈ins idx i,j<25:=by
 unfold ins;split
 ·exact hb
 intro j hj;rcases Pa.mp hj with z|z
 ·exact hb j z
 rw[OT.mp z];exact hi
theorem F6(idx:List Nat)(i:Nat):(ins idx i).length<=idx.length+1:=by
 unfold ins;split
 ·lia
 simp
theorem Ca{idx:List Nat}{i j:Nat}(h:j∈ins idx i):j=i\/j∈idx:=by
 unfold ins at h;split at h
 ·exact Py h
 rcases Pa.mp h with z|z
 ·exact Py z
 exact OZ (OT.mp z)
theorem Av(idx:List Nat)(i:Nat):i∈ins idx i:=by
 unfold ins;split
 ·assumption
 simp
theorem ym{idx:List Nat}{i j:Nat}(h:j∈idx):j∈ins idx i:=by
 unfold ins;split
 ·exact h
 exact Px _ h
theorem Gf(D:dO N){f:Nat->V}{i:Nat}{v:V}{idx:List Nat}(hi:i<25)(hb:∀j∈idx,j<25):Y2 (dk N idx f) (.inr (N i)) v=dk N (ins idx i) (p6 f i v):=by
 unfold ins;by_cases m:i∈idx
 ·rw[if_pos m];exact Aa D hb m
 rw[if_neg m];exact iQ D hi hb m
theorem IM(D:dO N){f:Nat->V}{i:Nat}{idx:List Nat}(hi:i<25)(hb:∀j∈idx,j<25):pM (dk N idx f) (.inr (N i))=dk N (idx.filter λj=>decide (j≠i)) f:=by
 unfold pM dk;rw[XZ];congr 1;refine List.filter_congr λj hj=>?_;show decide ((Pe (N j):Key)≠Pe (N i))=decide (j≠i);by_cases e:j=i
 ·rw[e];simp
 rw[decide_eq_true e,decide_eq_true (Zb D (hb j hj) hi e)]
theorem kJ(f:Nat->V)(idx:List Nat):(dk N idx f).length=idx.length:=OU _
def In(n:Int):Prop:=0<=n/\n<1000000000000
theorem ON:∀i,i<13->i=0\/i=1\/i=2\/i=3\/i=4\/i=5\/i=6\/i=7\/i=8\/i=9\/i=10\/i=11\/i=12:=∅
abbrev LET:Str:="abcdefghijklmnopqrstuvwxyz"
def fZ(k:Int):Nat:=(97+k).toNat
theorem Ag{k:Int}(h0:0<=k)(h1:k<26):ô LET.cps.toList k=YV (fZ k):=by
 obtain⟨n,rfl⟩:∃n:Nat,k=(n:Int):={k.toNat,()};have h:∀m:Fin 26,ô LET.cps.toList ((m.val:Nat):Int)=YV (fZ ((m.val:Nat):Int)):=by decide+kernel
 exact h {n,()}
theorem Gz{z:Str}{n:Int}(hz:z.length<=1)(h1:n<1000):(lJ z n).length<=1000:=by
 unfold lJ;split
 ·decide
 split
 ·lia
 rw[yk];have:n.toNat*z.length<=n.toNat*1:=Nat.mul_le_mul_left _ hz;lia
abbrev La:Str:="set put send say by if else end loop most idle last call deed main at over rest"
abbrev LJ:Str:=" hand given own let open house closed"
def words:List Str:=["set","put","send","say","by","if","else","end","loop","most","idle","last","call","deed","main","at","over","rest","hand","given","own","let","open","house","closed"]
theorem Ff:wZ (La++LJ) " " words:={by decide+kernel,by decide+kernel,by decide+kernel,by decide+kernel,∅,by decide+kernel}
theorem zt:words.Nodup:=by decide+kernel
theorem qr:words.length=25:=rfl
def ù(c:Int)(k:Nat):Str:=
 if decide (V.int (c%4)=V.int 0)=true then words.getD ((c/4%25+k)%25).toNat Su
 else if decide (V.int (c%4)=V.int 1)=true then lJ ⟨#[fZ ((c/4%26+(k:Int)/8)%26)]⟩ ((k:Int)%8+1)
 else Txt.slice (lJ ⟨#[fZ (c/288%26)]⟩ (c/4%8)) YW (YV (c/32%(c/4%8+1)))++⟨#[fZ ((k+c/7488%26)%26)]⟩++Txt.slice (lJ ⟨#[fZ (c/288%26)]⟩ (c/4%8)) (YV (c/32%(c/4%8+1))) YW
theorem mS(c:Nat){n:Int}(hn:1<=n):(lJ ⟨#[c]⟩ n).cps.toList=RT n.toNat c:=by
 unfold lJ;rw[if_neg ()];by_cases e:n=1
 ·subst e;rfl
 have h1:¬ (n==1||(⟨#[c]⟩:Str).length==0)=true:=by
  rw[Bool.or_eq_true];rintro(h|h)
  ·exact e (eq_of_beq h)
  exact absurd h (show ¬ ((1:Nat)==0)=true by decide)
 rw[if_neg h1];have f:∀(m:Nat)(acc:Array Nat),((RT m #[c]).foldl (· ++ ·) acc).toList=acc.toList++RT m c:=by
  intro m;induction m with
  |zero=>intro acc;simp
  |succ m ih=>
   intro acc;rw[PC,QD,ih,PC];simp
 have:=f n.toNat #[];simpa using this
theorem yC{a b:Int}(ha:0<=a)(hb:0<=b)(h:fZ a=fZ b):a=b:=by
 unfold fZ at h;lia
theorem Hk{a b:Str}{x y:Nat}(h:a++⟨#[x]⟩++b=a++⟨#[y]⟩++b):x=y:=by
 have h1:((a.cps++ #[x])++b.cps).toList=((a.cps++ #[y])++b.cps).toList:=congrArg (λz:Str=>z.cps.toList) h;simp only[Qp]at h1;have h2:=List.append_inj_left' h1 rfl;have h3:=List.append_inj_right h2 rfl;simpa using h3
theorem Ce(c:Int):dO (ù c):=by
 intro i j hi hj e;unfold ù at e;split at e
 ·have m1:=bz (c/4%25+i) (show(0:Int)<25 by decide);have m2:=bz (c/4%25+j) (show(0:Int)<25 by decide);have b1:((c/4%25+i)%25).toNat<words.length:=by rw[qr];lia
  have b2:((c/4%25+j)%25).toNat<words.length:=by rw[qr];lia
  rw[Pr,Pr,OV b1,OV b2]at e;have:=(Rh zt).mp (show words[((c/4%25+i)%25).toNat]=words[((c/4%25+j)%25).toNat]from e);lia
 split at e
 ·have m1:=bz (c/4%26+(i:Int)/8) (show(0:Int)<26 by decide);have m2:=bz (c/4%26+(j:Int)/8) (show(0:Int)<26 by decide);have h1:=congrArg (λz:Str=>z.cps.toList) e;rw[mS _ (),mS _ ()]at h1;have h2:=congrArg U8 h1;rw[P7,P7]at h2;obtain⟨n,hn⟩:∃n,((i:Int)%8+1).toNat=n+1:={((i:Int)%8).toNat,()};rw[<-h2,hn,PC,PC]at h1;have h3:=yC m1.1 m2.1 (List.cons.inj h1).1;lia
 have m1:=bz ((i:Int)+c/7488%26) (show(0:Int)<26 by decide);have m2:=bz ((j:Int)+c/7488%26) (show(0:Int)<26 by decide);have h3:=yC m1.1 m2.1 (Hk e);lia
theorem nF{x:Str}{lo hi:Option Int}{c:Nat}(h:c∈(Txt.slice x lo hi).cps.toList):c∈x.cps.toList:=by
 unfold Txt.slice at h;split at h
 ·exact h
 obtain⟨i,_,q⟩:=PR.mp (by simpa using h);exact Array.mem_toList_iff.mpr (Array.mem_of_getElem? q)
theorem fK{x:Str}:Sg x=true↔∀c∈x.cps.toList,c<0x110000:=by
 unfold Sg;rw[<-XB,Qr];exact{λh c hc=>of_decide_eq_true (h c hc),λh c hc=>decide_eq_true (h c hc)}
theorem vd{x:Str}(h:Sg x=true)(lo hi:Option Int):Sg (Txt.slice x lo hi)=true:=fK.mpr λc hc=>fK.mp h c (nF hc)
theorem vx{x y:Str}(h:Sg x=true)(h2:Sg y=true):Sg (x++y)=true:=fK.mpr λc hc=>by
 have e:(x++y).cps=x.cps++y.cps:=rfl;rw[e,Qp]at hc;rcases Pa.mp hc with q|q
 ·exact fK.mp h c q
 exact fK.mp h2 c q
theorem GX{k:Int}(h:k<26):Sg ⟨#[fZ k]⟩=true:=fK.mpr λc hc=>by
 have e:c=fZ k:=by simpa using hc
 rw[e];unfold fZ;lia
theorem An{k n:Int}(h:k<26):Sg (lJ ⟨#[fZ k]⟩ n)=true:=by
 by_cases hn:1<=n
 ·refine fK.mpr λc hc=>?_;rw[mS _ hn]at hc;rw[QX hc];unfold fZ;lia
 unfold lJ;rw[if_pos ()];decide+kernel
theorem Me(c:Int)(k:Nat):Sg (ù c k)=true:=by
 unfold ù;split
 ·have h:∀i:Fin 25,Sg (words.getD i.val Su)=true:=by decide+kernel
  have:=bz (c/4%25+k) (show(0:Int)<25 by decide);exact h {((c/4%25+k)%25).toNat,()}
 have h1:=bz (c/288) (show(0:Int)<26 by decide);have h2:=bz ((k:Int)+c/7488%26) (show(0:Int)<26 by decide);have h3:=bz (c/4%26+(k:Int)/8) (show(0:Int)<26 by decide);split
 ·exact An h3.2
 exact vx (vx (vd (An h1.2) _ _) (GX h2.2)) (vd (An h1.2) _ _)
inductive Cs(vs:List V)(H:Hp)(Q:VK)(Ã:XK):Prop
 |mk(c:Int)(k:Nat):vs=[.int c,.int k]->k<=100->(∀(H':Hp),ak H H'->Q (.str (ù c k)) H')->Cs vs H Q Ã
theorem Js(T:Txt K mg A):T.sj.Hz P w base 1 Cs:=by
 refine T.sj.hs dv (λf Â A' outer s H vs Q E hr hu h=>?_);obtain⟨c,k,rfl,h1,q⟩:=h;unfold ù at q;refine⟨_,(af (É 2 dv.nd aK)
 (af (É 3 dv.nd (aE bM (fv 0) ag))
 (af (aN (Ö (bY hu) (fv 3) ag)
  (af (É 4 dv.nd aK)
  (aj (aD (px hu (m_split (aE aX (fv 4) aK) (aK^ae)) (aE bM (aE aX (aE bM (aE de (fv 0) ag) ag) (fv 1)) ag)))))
  aH)
 (af (aN (Ö (bY hu) (fv 3) ag)
  (aj (aD (aE kO (px hu (fv 2) (aE bM (aE aX (aE bM (aE de (fv 0) ag) ag) (aE de (fv 1) ag)) ag)) (aE aX (aE bM (fv 1) ag) ag))))
  aH)
 (af (É 5 dv.nd (aE bM (aE de (fv 0) ag) ag))
 (af (É 6 dv.nd (aE bM (aE de (fv 0) ag) (aE aX (fv 5) ag)))
 (af (É 7 dv.nd (aE kO (px hu (fv 2) (aE bM (aE de (fv 0) ag) ag)) (fv 5)))
 (aj (aD (aE aX (aE aX (eY kC (fv 7) rQ (dj (fv 6))) (px hu (fv 2) (aE bM (aE aX (fv 1) (aE bM (aE de (fv 0) ag) ag)) ag))) (eY kC (fv 7) (dj (fv 6)) rQ))))))))))),?_⟩
 refine{(by show(0:Int)<4;decide),rfl,_,rfl,bh (λb1=>?_) (λb1=>?_)}
 ·rw[if_pos b1]at q;refine{(by decide+kernel),rfl,_,_,words,rfl,rfl,Ff,λl hl=>?_};obtain⟨s1,e1⟩:=Ð hl (HO.lst (words.map V.str));generalize upd H l _=H1 at s1 e1⊢;obtain⟨j0,j1⟩:=bz (c/4%25+k) (show(0:Int)<25 by decide);have hk:((c/4%25+k)%25).toNat<words.length:=by rw[qr];lia
  have e:ô (words.map V.str) ((c/4%25+k)%25)=YV (.str (words.getD ((c/4%25+k)%25).toNat Su)):=by
   have e:=dY (xs:=words.map V.str) (j:=((c/4%25+k)%25).toNat) (v:=.str (words.getD ((c/4%25+k)%25).toNat Su)) (by rw[O7,OV hk,Pr,OV hk];rfl);rw[show((((c/4%25+k)%25).toNat:Nat):Int)=(c/4%25+k)%25 by lia]at e;exact e
  exact{{∅,∅},(by show(0:Int)<25;decide),(by show(0:Int)<25;decide),(Ì (À.of e1) e (q _ s1))}
 rw[if_neg b1]at q;refine{rfl,_,rfl,bh (λb2=>?_) (λb2=>?_)}
 ·rw[if_pos b2]at q;obtain⟨j0,j1⟩:=bz (c/4%26+(k:Int)/8) (show(0:Int)<26 by decide);obtain⟨m0,m1⟩:=bz (k:Int) (show(0:Int)<8 by decide);exact{{∅,∅},(by show(0:Int)<26;decide),{∅,∅},(by show(0:Int)<26;decide),_,by decide+kernel,Ag j0 j1,(by show(0:Int)<8;decide),(),(),by show 1<=1000;decide,q _ (ak.refl _)}
 rw[if_neg b2]at q;obtain⟨m0,m1⟩:=bz (c/4) (show(0:Int)<8 by decide);obtain⟨j0,j1⟩:=bz (c/288) (show(0:Int)<26 by decide);obtain⟨i0,i1⟩:=bz (k+c/7488%26) (show(0:Int)<26 by decide);have rl:(lJ ⟨#[fZ (c/288%26)]⟩ (c/4%8)).length<=1000:=Gz (OW _) ();refine{{∅,∅},(by show(0:Int)<8;decide),{∅,∅},(by show(0:Int)<c/4%8+1;lia),{∅,∅},(by show(0:Int)<26;decide),_,by decide+kernel,Ag j0 j1,(),(),by show 1<=1000;decide,?_};have s1:=W3 (lJ ⟨#[fZ (c/288%26)]⟩ (c/4%8)) YW (YV (c/32%(c/4%8+1)));have s2:=W3 (lJ ⟨#[fZ (c/288%26)]⟩ (c/4%8)) (YV (c/32%(c/4%8+1))) YW;refine{_,rfl,sz rl,{∅,∅},(by show(0:Int)<26;decide),(by show(0:Int)<26;decide),_,by decide+kernel,Ag i0 i1,{O6 (m:=1000+1) (Wa (O6 s1 rl) 1) ∅,_,rfl,sz rl,{?_,q _ (ak.refl _)}}};rw[qK];exact O6 (m:=1000+1+1000) (YF (Wa (O6 s1 rl) 1) (O6 s2 rl)) ∅
def cellAt(ns:List Int)(k:Int):Int:=if k<(ns.length:Int)then ns.getD k.toNat 0 else 0
theorem Jv{ns:List Int}{k:Int}(h0:0<=k)(h1:k<(ns.length:Int)):ô (ns.map V.int) k=YV (.int (ns.getD k.toNat 0)):=by
 have hk:k.toNat<ns.length:=()
 have e:=dY (xs:=ns.map V.int) (j:=k.toNat) (v:=.int (ns.getD k.toNat 0)) (by rw[O7,OV hk,Pr,OV hk];rfl);rw[show((k.toNat:Nat):Int)=k by lia]at e;exact e
inductive A8(K:RG)(vs:List V)(H:Hp)(Q:VK)(Ã:XK):Prop
 |mk(a:RB)(ns:List Int)(k:Int):vs=[.ref a,.int k]->À K H a (ns.map V.int)->0<=k->Q (.int (cellAt ns k)) H->A8 K vs H Q Ã
theorem Fl(T:Txt K mg A):T.nh.Hz P w base 1 (A8 K):=by
 refine T.nh.hs tO (λf Â A' outer s H vs Q E hr hu h=>?_);obtain⟨a,ns,k,rfl,hS,h0,q⟩:=h;unfold cellAt at q;have el:(((ns.map V.int).length:Nat):Int)=(ns.length:Int):=by rw[OU]
 refine⟨_,(af (aN (Ö GK (fv 1) (Ó eZ T.fY (fv 0^ae)))
  (aj (aD (px hu (fv 0) (fv 1))))
  aH)
 (aj (aD ag))),?_⟩
 refine OZ {_,_,rfl,OZ {_,hS,rfl},_,rfl,bh (λc=>?_) (λc=>?_)}
 ·have c':k<(((ns.map V.int).length:Nat):Int):=of_decide_eq_true c;rw[el]at c';rw[if_pos c']at q;exact Ì hS (Jv h0 c') q
 have c':¬ k<(((ns.map V.int).length:Nat):Int):=of_decide_eq_false (QJ.mpr c);rw[el]at c';rw[if_neg c']at q;exact q
theorem Cn:((10:Int)^(12:Int).toNat)=1000000000000:=∅
def Ho:List Int:=[48271,69621,39373,16807,40692,30323,51749]
def Hj:List Int:=[1000033,999983,999979,1000037,999961,1000039,999959]
theorem JJ(w:Nat)(h:w<=6):∃a b:Int,ô (Ho.map V.int) (w:Int)=YV (.int a)/\ô (Hj.map V.int) (w:Int)=YV (.int b)/\0<a/\a<100000/\0<b:=by
 have:=lt7 w ();rcases this with rfl|rfl|rfl|rfl|rfl|rfl|rfl<;>exact{_,_,rfl,rfl,∅,∅,∅}
inductive Gu(vs:List V)(H:Hp)(Q:VK)(Ã:XK):Prop
 |mk(c:Int)(k:Nat)(n:Int):vs=[.int c,.int k,.int n]->k<=6->0<n->(∀(m:Int)(H':Hp),0<=m->m<n->ak H H'->Q (.int m) H')->Gu vs H Q Ã
theorem Cb(T:Txt K mg A):T.wb.Hz P w base 1 Gu:=by
 refine T.wb.hs oH (λf Â A' outer s H vs Q E hr hu h=>?_);obtain⟨c,k,n,rfl,hk,n0,q⟩:=h;refine⟨_,(af (aN (Ö (CW hu) (aE de (fv 0) (aE pF ag ag)) ag)
  (aj (aD (aE bM (aE IT (fv 0) (aE aX (aE kO ag (fv 1)) ag)) (fv 2))))
  aH)
 (af (É 3 oH.nd (aE aX (aE bM (fv 0) ag) ag))
 (af (É 3 oH.nd (aE kO (fv 3) (px hu (aP (ag^ag^ag^ag^ag^ag^ag^ae)) (fv 1))))
 (aj (aD (aE bM (aE bM (fv 3) (px hu (aP (ag^ag^ag^ag^ag^ag^ag^ae)) (fv 1))) (fv 2))))))),?_⟩
 refine{{∅,∅,∅},{∅,∅},rfl,_,rfl,bh (λ_=>?_) (λ_=>?_)}
 ·have m:=bz (c/2^(12*(k:Int)+1).toNat) n0;exact{.inl {∅,∅},(by show(0:Int)<=12*(k:Int)+1;lia),n0,q _ _ m.1 m.2 (ak.refl _)}
 obtain⟨a,b,ea,eb,a0,a1,b0⟩:=JJ k hk;refine{(by show(0:Int)<1000003;decide),{by show 7<=sizeLine;decide,λl hl=>?_}};obtain⟨s1,e1⟩:=Ð hl (HO.lst (Ho.map V.int));change upd H l (HO.lst (Ho.map V.int)) l=_ at e1;refine Ì (À.of e1) ea {.inr {(),()},{by show 7<=sizeLine;decide,λl2 Ų=>?_}};have s2:=ak.upd Ų (HO.lst (Hj.map V.int));have e2:upd (upd H l (HO.lst (Ho.map V.int))) l2 (HO.lst (Hj.map V.int)) l2=YV (.lst (Hj.map V.int)):=ao;have m:=bz ((c%1000003+1)*a%b) n0;exact Ì (À.of e2) eb {b0,n0,q _ _ m.1 m.2 (s1.trans s2)}
def Gv(c:Int):Int:=if c%4<2 then c/4%4 else if c%4=2 then 1000000000000-1-c/4%3 else c/4%1000000000000
theorem Bs(c:Int):In (Gv c):=by
 have m4:=bz (c/4) (show(0:Int)<4 by decide);have m3:=bz (c/4) (show(0:Int)<3 by decide);have mm:=bz (c/4) (show(0:Int)<1000000000000 by decide);unfold Gv In;split
 ·lia
 split<;>lia
inductive Bx(vs:List V)(H:Hp)(Q:VK)(Ã:XK):Prop
 |mk(c:Int):vs=[.int c]->Q (.int (Gv c)) H->Bx vs H Q Ã
theorem LB(T:Txt K mg A):T.oy.Hz P w base 1 Bx:=by
 refine T.oy.hs uE (λf Â A' outer s H vs Q E hr hu h=>?_);obtain⟨c,rfl,q⟩:=h;refine⟨_,(af (aN (Ö GK (aE bM (fv 0) ag) ag)
  (aj (aD (aE bM (aE de (fv 0) ag) ag)))
  aH)
 (af (aN (Ö (bY hu) (aE bM (fv 0) ag) ag)
  (aj (aD (aE uT (aE uT (aE pF ag ag) ag) (aE bM (aE de (fv 0) ag) ag))))
  aH)
 (aj (aD (aE bM (aE de (fv 0) ag) (aE pF ag ag)))))),?_⟩
 unfold Gv at q;refine{(by show(0:Int)<4;decide),_,rfl,bh (λz=>?_) (λz=>?_)}
 ·rw[if_pos (of_decide_eq_true z)]at q;exact{{∅,∅},(by show(0:Int)<4;decide),q}
 rw[if_neg (λy=>z (decide_eq_true y))]at q;refine{(by show(0:Int)<4;decide),rfl,_,rfl,bh (λz=>?_) (λz=>?_)}
 ·rw[if_pos (V.int.inj (of_decide_eq_true z))]at q;exact{{∅,∅,∅},{∅,∅},(by show(0:Int)<3;decide),by rw[Cn];exact q}
 rw[if_neg (λy=>z (decide_eq_true (congrArg V.int y)))]at q;exact{{∅,∅},{∅,∅,∅},(by show(0:Int)<10^(12:Int).toNat;decide),by rw[Cn];exact q}
inductive Cl where
 |num (n:Int)|lst (rs:List Int)
def Cl.fits(z:Nat):Cl->Prop
 | .num n=>z=0/\In n
 | .lst rs=>rs.length=z/\0<z/\∀a∈rs,In a
def df(H:Hp)(v:V):Cl->Prop
 | .num n=>v=.int n
 | .lst rs=>∃a,v=.ref a/\H a=YV (.lst (rs.map V.int))
def IZ(H H':Hp)(v:V):Cl->Prop
 | .num n=>v=.int n
 | .lst rs=>∃a,v=.ref a/\H a=YW/\H' a=YV (.lst (rs.map V.int))
theorem df.same{H H':Hp}{v:V}{c:Cl}(h:df H v c)(s:ak H H'):df H' v c:=by
 cases c with
 |num n=>exact h
 |lst rs=>obtain⟨a,e,h⟩:=h;exact{a,e,s _ _ h}
inductive Y8(H:Hp):V->Bool->Prop where
 |int (a:Int):Y8 H (.int a) (decide (0<=a)&&decide (a<=999999999999))
 |bl (x:Bool):Y8 H (.bl x) false
 |str (x:Str):Y8 H (.str x) false
 |Ä:Y8 H .Ä false
 |tup {p:RB}{xs:List V} (h:H p=YV (.tup xs)):Y8 H (.ref p) false
 |lst {p:RB}{xs:List V} (h:H p=YV (.lst xs)):Y8 H (.ref p) false
theorem Y8.same{H H':Hp}{v:V}{b:Bool}(h:Y8 H v b)(s:ak H H'):Y8 H' v b:=by
 cases h with
 |int a=>exact .int a
 |bl x=>exact .bl x
 |str x=>exact .str x
 |Ä=>exact .Ä
 |tup h=>exact .tup (s _ _ h)
 |lst h=>exact .lst (s _ _ h)
inductive Ŕ(H:Hp):V->Prop where
 |int (a:Int):Ŕ H (.int a)
 |bl (x:Bool):Ŕ H (.bl x)
 |str (x:Str):Ŕ H (.str x)
 |Ä:Ŕ H .Ä
 |tup {p:RB}{xs:List V} (h:H p=YV (.tup xs)):Ŕ H (.ref p)
theorem Ŕ.same{H H':Hp}{v:V}(h:Ŕ H v)(s:ak H H'):Ŕ H' v:=by
 cases h with
 |int a=>exact .int a
 |bl x=>exact .bl x
 |str x=>exact .str x
 |Ä=>exact .Ä
 |tup h=>exact .tup (s _ _ h)
def dQ(H:Hp)(v:V)(z:Nat)(b:Bool):Prop:=(z=0/\Y8 H v b)\/(0<z/\((Ŕ H v/\b=false)\/∃p xs,v=.ref p/\H p=YV (.lst xs)/\xs.length<=1000/\((xs.length≠z/\b=false)\/(xs.length=z/\∃g:V->Bool,(∀x∈xs,Y8 H x (g x))/\b=xs.all g))))
theorem dQ.same{H H':Hp}{v:V}{z:Nat}{b:Bool}(h:dQ H v z b)(s:ak H H'):dQ H' v z b:=by
 rcases h with⟨h0,h⟩|⟨h0,⟨h,hb⟩|⟨p,xs,e,h,hl,h2⟩⟩
 ·exact .inl ⟨h0,h.same s⟩
 ·exact .inr {h0,.inl ⟨h.same s,hb⟩}
 refine .inr {h0,.inr {p,xs,e,s _ _ h,hl,?_}};rcases h2 with h2|⟨h2,g,h3,h4⟩
 ·exact .inl h2
 exact .inr {h2,g,λx hx=>(h3 x hx).same s,h4}
theorem Ee{H:Hp}{a:Int}(h:In a):Y8 H (.int a) true:=by
 have:(decide (0<=a)&&decide (a<=999999999999))=true:=by
  rw[decide_eq_true h.1,decide_eq_true (by have:=h.2;lia)];rfl
 rw[<-this];exact .int a
theorem GF{H:Hp}{v:V}{z:Nat}{c:Cl}(h:df H v c)(f:c.fits z)(hz:z<=1000):dQ H v z true:=by
 cases c with
 |num n=>
  obtain⟨h0,hn⟩:=f;rw[show v=.int n from h];exact .inl ⟨h0,Ee hn⟩
 |lst rs=>
  obtain⟨a,rfl,h⟩:=h;obtain⟨fl,f0,fi⟩:=f;refine .inr {f0,.inr {a,_,rfl,h,by rw[OU];lia,.inr {by rw[OU];exact fl,λ_=>true,λx hx=>?_,?_}}}
  ·obtain⟨y,hy,rfl⟩:=Pj.mp hx;exact Ee (fi y hy)
  rw[eq_comm,Qr];exact λ_ _=>rfl
inductive yu(vs:List V)(H:Hp)(Q:VK)(Ã:XK):Prop
 |mk(v:_)(b:_):vs=[v]->Y8 H v b->Q (.bl b) H->yu vs H Q Ã
theorem By(T:Txt K mg A):T.qh.Hz P w base 1 yu:=by
 refine T.qh.hs wK (λf Â A outer s H vs Q E hr hu h=>?_);obtain⟨v,b,rfl,h,q⟩:=h;refine⟨_,(af (aN (PW.pt (pw_or (aO (Ó aI T.av (fv 0^(kM (v:=.ty "bool") rfl T.xi (by boot_by_name) rfl)^ae)) (λ_=>rfl)) (pw_or1 (wq (aO (Ó aI T.av (fv 0^(kM (v:=.ty "int") rfl T.uW (by boot_by_name) rfl)^ae)) (λ_=>rfl))))))
  (aj (aD og))
  aH)
 (aj (aD (Ea DE DE ag (fv 0) (Iz T.nW))))),?_⟩
 cases h with
 |int a=>
  refine{_,_,_,false,rfl,(λz=>by cases z),.int a,Kh,false,rfl,aV {_,_,_,true,rfl,(λz=>by cases z),.int a,JE,true,rfl,aV {_,rfl,bh (λc=>?_) (λc=>?_)}}}
  ·have c:decide (0<=a)=true:=c;rw[c,Rp]at q;exact q
  have c:¬ decide (0<=a)=true:=c;rw[QJ.mpr c,Rn]at q;exact q
 |bl x=>exact{_,_,_,true,rfl,(λz=>by cases z),.bl x,Jt,true,rfl,bK q}
 |str x=>exact{_,_,_,false,rfl,(λz=>by cases z),.str x,Kz,false,rfl,aV {_,_,_,false,rfl,(λz=>by cases z),.str x,JP,false,rfl,bK q}}
 |Ä=>exact{_,_,_,false,rfl,(λz=>by cases z),.Ä,JT,false,rfl,aV {_,_,_,false,rfl,(λz=>by cases z),.Ä,KI,false,rfl,bK q}}
 |tup h=>exact{_,_,_,false,rfl,(λz=>by cases z),.tup h,JU,false,rfl,aV {_,_,_,false,rfl,(λz=>by cases z),.tup h,J0,false,rfl,bK q}}
 |lst h=>exact{_,_,_,false,rfl,(λz=>by cases z),.lst h,KL,false,rfl,aV {_,_,_,false,rfl,(λz=>by cases z),.lst h,KQ,false,rfl,bK q}}
inductive u6(vs:List V)(H:Hp)(Q:VK)(Ã:XK):Prop
 |mk(v:V)(z:Nat)(b:Bool):vs=[v,.int z]->dQ H v z b->(∀H',ak H H'->Q (.bl b) H')->u6 vs H Q Ã
theorem E4(T:Txt K mg A):T.wj.Hz P w base 2 u6:=by
 refine T.wj.hs AE (λf Â A outer s H vs Q E hr hu h=>?_);obtain⟨v,z,b,rfl,h,q⟩:=h;refine⟨_,(af (aN (Ö (bY hu) (fv 1) ag)
  (aj (aD (au (By T) hr (fv 0^ae))))
  aH)
 (aj (aD (Af (Ó aI T.av (fv 0^(kM (v:=.ty "list") rfl T.eO (by boot_by_name) rfl)^ae)) (Af (pec (bY hu) (Ó eZ T.fY (fv 0^ae)) (fv 1)) (wR (Ó Nf T.BI ((dD (N:=["thing"]) (own:=1) (fr:=[]) (bI.of (by kernel_rfl!)) rfl (aW (fv 0)) (λb=>Ò (i:=0) (show R9 (["thing"]:List Sl) by decide+kernel) rfl) (λb=>iR) (λb=>au (By T) hr (fv 0^ae)))^ae)))))))),?_⟩
 rcases h with⟨rfl,h⟩|⟨h0,h⟩
 ·exact{rfl,_,rfl,bh (λc=>{v,b,rfl,h,q _ (ak.refl _)}) (λc=>absurd rfl c)}
 refine{rfl,_,rfl,bh (λc=>absurd c ?_) (λc=>?_)}
 ·rw[w9,decide_eq_true_iff];lia
 rcases h with⟨h,rfl⟩|⟨p,xs,rfl,hS,hl,h2⟩
 ·have q:=q _ (ak.refl _);cases h with
  |int a=>exact{_,_,_,false,rfl,(λz=>by cases z),.int a,Lj,_,rfl,aV q}
  |bl x=>exact{_,_,_,false,rfl,(λz=>by cases z),.bl x,LK,_,rfl,aV q}
  |str x=>exact{_,_,_,false,rfl,(λz=>by cases z),.str x,Ju,_,rfl,aV q}
  |Ä=>exact{_,_,_,false,rfl,(λz=>by cases z),.Ä,LP,_,rfl,aV q}
  |tup h=>exact{_,_,_,false,rfl,(λz=>by cases z),.tup h,Kb,_,rfl,aV q}
 refine{_,_,_,true,rfl,(λz=>by cases z),.lst hS,J6,_,rfl,bK (Ŭ hS {rfl,_,rfl,?_})};rw[w9];rcases h2 with⟨h2,rfl⟩|⟨h2,g,h3,rfl⟩
 ·rw[decide_eq_false (show ¬ ((xs.length:Nat):Int)=(z:Int) by lia)];exact aV (q _ (ak.refl _))
 rw[decide_eq_true (show((xs.length:Nat):Int)=(z:Int) by lia)];refine bK (OZ {{_,À.of hS},C8 (K:=K) (λ_=>true) (λx=>.bl (g x)) (À.of hS) (aG hl) (λb x H2 R _ _ k=>k _ (ak.refl _)) (λb x H2 R hx _ s2 k=>{x,_,rfl,(h3 x hx).same s2,k _ (ak.refl _)}) (λD H2 hD s2 e=>?_)});rw[d9]at e;refine{D,xs.map g,rfl,À.of (by rw[e,P6];rfl),?_};rw[List.all_map];exact q _ s2
def Zg(n:Nat):List Int:=RT n 0
theorem Ao(n:Nat):(RT n [V.int 0]).flatten=(Zg n).map V.int:=by
 unfold Zg;rw[WZ];induction n with
 |zero=>rfl
 |succ n ih=>rw[PC,PC,QI,ih];rfl
def Gh(z:Nat):Cl:=if z=0 then .num 0 else .lst (Zg z)
def look(idx:List Nat)(f:Nat->V)(k:Nat):V:=if k∈idx then f k else .Ä
theorem F4(D:dO N){H:Hp}{d:RB}{idx:List Nat}{f:Nat->V}(h:Rd H d (.dK (dk N idx f)))(hb:∀j∈idx,j<25){k:Nat}(hk:k<25):∃o:Option V,lH H d (.str (N k)) o/\o.getD .Ä=look idx f k:=by
 refine{L2.bx (dk N idx f) (.inr (N k)),.inl {_,_,h,rfl,rfl},?_};unfold look;split
 ·rw[jA D hb (by assumption)];rfl
 rw[Jf D hk hb (by assumption)];rfl
inductive vv(A:Ï)(vs:List V)(H:Hp)(Q:VK)(Ã:XK):Prop
 |mk(e:_)(v:_):vs=[.ref e,v]->H e=YV (xo e A.bC YW false)->(∀dx H',dx≠e->(∀b o,b≠e->H b=YV o->H' b=YV o)->H' e=YV (xo e A.bC (YV dx) false)->H' dx=YV (L2.xf dx [("name",v)])->Q .Ä H')->vv A vs H Q Ã
theorem EO(T:Txt K mg A):GN P w K mg base 1 "NoGift" A.bC ["self","name"] (vv A):=by
 refine nc.has T.vD tX (λvs H Q E h=>?_) (λf Â A' outer s H vs Q E hr hu h=>?_)
 ·obtain⟨e,v,rfl,_⟩:=h;rfl
 obtain⟨e,v,rfl,he,q⟩:=h;refine{_,(aj (Bi (fv 0) (fv 1) rfl)),{e,_,false,rfl,T.bX,T.fh,.inl {he,λdx h1 h2=>q dx _ h2 (λb o hb hq=>?_) ?_ ao}}}
 ·rw[ay (bZ hq h1),ay hb];exact hq
 rw[ay (Pm h2),ao]
def jj(A:Ï)(E:XK)(H:Hp)(x:Str):Prop:=∀e dx H',ak H H'->H' e=YV (xo e A.bC (YV dx) true)->H' dx=YV (L2.xf dx [("name",.str x)])->E (.ref e) (YV dx) H'
theorem jj.same{E:XK}{H H':Hp}{x:Str}(h:jj A E H x)(s:ak H H'):jj A E H' x:=λe dx H2 s2=>h e dx H2 (s.trans s2)
inductive yK(A:Ï)(N:Nat->Str)(vs:List V)(H:Hp)(Q:VK)(E:XK):Prop
 |mk(a g dx:RB)(m rk:Int)(k z:Nat)(gi:List Nat)(gf:Nat->V):vs=[.ref a,.ref g]->H a=YV (.ins A.bq dx [("number",.int m),("name",.str (N k)),("rank",.int rk),("size",.int z)])->k<25->z<=1000->Rd H g (.dK (dk N gi gf))->(∀j∈gi,j<25)->((∃c,df H (look gi gf k) c/\c.fits z/\∀v H',ak H H'->IZ H H' v c->Q v H')\/(dQ H (look gi gf k) z false/\jj A E H (N k)))->yK A N vs H Q E
theorem Iq(T:Txt K mg A)(Di:dO N):CK P w K mg base 3 "given_cell" ["given","gifts"] (yK A N):=by
 refine T.sM.Ih oa (λvs H Q E h=>?_) (λX f Â A' outer s H vs Q E hX cat hr hu h=>?_)
 ·obtain⟨a,g,dx,m,rk,k,z,gi,gf,rfl,_⟩:=h;rfl
 subst hX;obtain⟨a,g,dx,m,rk,k,z,gi,gf,rfl,ha,hk,hz,G,gb,q⟩:=h;obtain⟨o,d1,d2⟩:=F4 Di G gb hk;refine⟨_,(af (É 2 oa.nd (EM (QV (Wt (show 1<=64 by decide) _) hu) (fv 1) (aA (fv 0) rfl) ⟨rfl,rfl,rfl,rfl⟩))
 (af (aN (wq (aO (au (E4 T) hr (fv 2^aA (fv 0) rfl^ae)) (λ_=>rfl)))
  (aj (yL cat rfl (vO (EO T) hr (aA (fv 0) rfl^ae))))
  aH)
 (aj (aD (pK (Ö (bY hu) (aA (fv 0) rfl) ag) (fv 2) (Ď kY T.eO (fv 2^ae))))))),?_⟩
 refine{g,rfl,OZ {_,G},Ê ha T.aR.cl T.ba rfl {_,d1,?_}};show Mb _ _ _ _ _;generalize hv:look gi gf k=v at q d2;rcases q with⟨c,hc,fit,q⟩|⟨bad,q⟩
 ·refine Ê ha T.aR.cl T.cW rfl {v,z,true,by rw[<-d2];rfl,GF hc fit hz,λH2 s2=>{true,rfl,aV (Ê (s2 _ _ ha) T.aR.cl T.cW rfl {rfl,_,rfl,?_})}};rw[w9];cases c with
  |num n=>
   rw[decide_eq_true (show(z:Int)=0 by have:=fit.1;lia)];refine bK ?_;show Q (o.getD .Ä) H2;rw[d2];exact q _ _ s2 hc
  |lst rs=>
   rw[decide_eq_false (show ¬ (z:Int)=0 by have:=fit.2.1;lia)];refine aV ?_;obtain⟨l,rfl,hl⟩:=hc;exact OZ {l,_,by show[o.getD .Ä]=_;rw[d2],OZ (À.of (s2 _ _ hl)),λp hp=>q _ _ (s2.trans (ak.upd hp _)) ⟨p,rfl,ak.free s2 hp,ao⟩}
 refine Ê ha T.aR.cl T.cW rfl {v,z,false,by rw[<-d2];rfl,bad,λH1 s1=>{false,rfl,bK (Ê (s1 _ _ ha) T.aR.cl T.ba rfl {by show 1<=sizeLine;decide,λe he=>{e,_,rfl,ao,λdd H2 ne s2 e2 d2=>{rfl,e,A.bC,YV dd,rfl,e2,T.bX,q e dd _ (λb o hb=>?_) ao ?_}}})}}
 ·have hb:=s1 _ _ hb;have ñ:b≠e:=bZ hb he;rw[ay ñ];exact s2 b o ñ (by rw[ay ñ];exact hb)
 rw[ay ne];exact d2
inductive FW(A:Ï)(N:Nat->Str)(vs:List V)(H:Hp)(Q:VK)(Ã:XK):Prop
 |mk(a dx:RB)(m:Int)(n k:Nat):vs=[.ref a]->n<=1000->H a=YV (.ins A.cV dx [("number",.int m),("name",.str (N k)),("size",.int n)])->(∀v H',ak H H'->IZ H H' v (Gh n)->Q v H')->FW A N vs H Q Ã
theorem MR(T:Txt K mg A):T.ub.Hz P w base 1 (FW A N):=by
 refine T.ub.hs yx (λf Â A' outer s H vs Q E hr hu h=>?_);obtain⟨a,dx,m,n,k,rfl,hn,ha,q⟩:=h;refine{_,(aj (aD (pK (Ö (bY hu) (aA (fv 0) rfl) ag) ag (aE kO (aP (ag^ae)) (aA (fv 0) rfl))))),Ê ha T.cC.cl T.fS rfl {rfl,_,rfl,bh (λc=>?_) (λc=>?_)}}
 ·rw[w9,decide_eq_true_iff]at c;refine q _ _ (ak.refl _) ?_;unfold Gh;rw[if_pos ()];rfl
 rw[w9,decide_eq_true_iff]at c;refine{by show 1<=sizeLine;decide,λl hl=>?_};have s1:=ak.upd hl (HO.lst [V.int 0]);have e1:(upd H l (HO.lst [V.int 0])) l=YV (.lst [V.int 0]):=ao;generalize upd H l (HO.lst [V.int 0])=H1 at s1 e1⊢;refine Ê (s1 _ _ ha) T.cC.cl T.fS rfl {_,e1,(),(),?_,λp hp=>?_}
 ·show 1*((n:Int)).toNat<=sizeLine;have:=sz hn;lia
 refine q _ _ (s1.trans (ak.upd hp _)) ?_;unfold Gh;rw[if_neg ()];refine{p,rfl,ak.free s1 hp,?_};rw[ao,<-Ao];rfl
inductive qL(A:Ï)(vs:List V)(H:Hp)(Q:VK)(Ã:XK):Prop
 |mk(e:_)(v:_):vs=[.ref e,v]->H e=YV (xo e A.aY YW false)->(∀dx H',dx≠e->(∀b o,b≠e->H b=YV o->H' b=YV o)->H' e=YV (xo e A.aY (YV dx) false)->H' dx=YV (L2.xf dx [("name",v)])->Q .Ä H')->qL A vs H Q Ã
theorem zM(T:Txt K mg A):GN P w K mg base 1 "NotAlike" A.aY ["self","name"] (qL A):=by
 refine nc.has T.qO qd (λvs H Q E h=>?_) (λf Â A' outer s H vs Q E hr hu h=>?_)
 ·obtain⟨e,v,rfl,_⟩:=h;rfl
 obtain⟨e,v,rfl,he,q⟩:=h;refine{_,(aj (Bi (fv 0) (fv 1) rfl)),{e,_,false,rfl,T.cS,T.fF,.inl {he,λdx h1 h2=>q dx _ h2 (λb o hb hq=>?_) ?_ ao}}}
 ·rw[ay (bZ hq h1),ay hb];exact hq
 rw[ay (Pm h2),ao]
def MW:V->Bool
 | .int a=>decide (0<=a)&&decide (a<=999999999999)
 |_=>false
theorem Y8.g{H:Hp}{v:V}{b:Bool}(h:Y8 H v b):MW v=b:=by
 cases h<;>rfl
def HX(H:Hp)(v:V):Prop:=Y8 H v false/\Ŕ H v
theorem za{H:Hp}{v:V}(h:HX H v)(z:Nat):dQ H v z false:=by
 by_cases z0:z=0
 ·exact .inl ⟨z0,h.1⟩
 exact .inr {(),.inl ⟨h.2,rfl⟩}
theorem wU{H:Hp}{a:Int}(h:(decide (0<=a)&&decide (a<=999999999999))=false):HX H (.int a):={by rw[<-h];exact .int a,.int a}
def î:Pt->Nat
 | .leaf _ (.hand i _)=>i
 | .leaf _ (.Ç i _ _)=>i
 | .leaf _ (.own i _)=>i
 | .leaf _ (.lt i _)=>i
 |_=>0
inductive Hd1:Pt->Prop
 |hand (n:Int) (i:Nat) (r:Int) (h:i<25):Hd1 (.leaf n (.hand i r))
 |Ç (n:Int) (i:Nat) (r:Int) (z:Nat) (h:i<25) (hz:z<=20):Hd1 (.leaf n (.Ç i r z))
 |own (n:Int) (i z:Nat) (h:i<25) (hz:z<=20):Hd1 (.leaf n (.own i z))
 |lt (n:Int) (i:Nat) (r:Int) (h:i<25):Hd1 (.leaf n (.lt i r))
structure xp(hs:List Pt):Prop where
 hd:∀p∈hs,Hd1 p
 nd:(hs.map î).Nodup
 ln:hs.length<=13
def dP(N:Nat->Str)(H2:Hp)(c:RB)(hs:List Pt):Prop:=∃(l:List Nat)(f:Nat->V),H2 c=YV (.dK (dk N l f))/\(∀j∈l,j<25)/\l.length<=hs.length/\∀p∈hs,(p.ci=2\/p.ci=3)->î p∈l/\∀n i r,p=.leaf n (.Ç i r 0)->∃m,f i=.int m
theorem dP.same{H H':Hp}{c:RB}{hs:List Pt}(s:ak H H')(h:dP N H c hs):dP N H' c hs:=by
 obtain⟨l,f,e,r⟩:=h;exact{l,f,s _ _ e,r}
theorem dP.skip{H:Hp}{c:RB}{hs:List Pt}{p:Pt}(h:dP N H c hs)(n2:p.ci≠2)(n3:p.ci≠3):dP N H c (hs++[p]):=by
 obtain⟨l,f,e,b,ll,a⟩:=h;refine{l,f,e,b,by rw[O5];lia,λq m c=>?_};rcases Pa.mp m with m|m
 ·exact a q m c
 rw[OT.mp m]at c;exact(c.elim n2 n3).elim
theorem dP.put(Di:dO N){H:Hp}{c:RB}{hs:List Pt}{p:Pt}{v:V}(h:dP N H c hs)(hl:hs.length<=100)(hi:î p<25)(nw:î p∉hs.map î)(hv:∀n i r,p=.leaf n (.Ç i r 0)->∃m,v=.int m) :
  ∃o,gQ H c (.str (N (î p))) v (upd H c o)/\dP N (upd H c o) c (hs++[p]):=by
 obtain⟨l,f,e,b,ll,a⟩:=h
 have li:=F6 l (î p)
 refine{_,gQ.k (k:=.inr (N (î p))) e (aG (by rw[kJ];lia)),ins l (î p),p6 f (î p) v,by rw[ao,Gf Di hi b],Kw b hi,by rw[O5,Po];lia,λq m cc=>?_}
 rcases Pa.mp m with m|m
 ·obtain⟨a1,a2⟩:=a q m cc;refine{ym a1,λn i r e=>?_};have ne:i≠î p:=λz=>nw (by rw[<-z,show i=î q by rw[e];rfl];exact PD m);rw[fV _ _ ne];exact a2 n i r e
 rw[OT.mp m]
 refine{Av _ _,λn i r e=>?_}
 rw[show i=î p by rw[e];rfl,dE]
 exact hv n i r e
def í(H:Hp)(gi:List Nat)(gf:Nat->V)(b:Bool):Pt->Prop
 | .leaf _ (.Ç i _ z)=>if b=true then ∃c,df H (look gi gf i) c/\c.fits z.toNat else dQ H (look gi gf i) z.toNat false
 |_=>b=true
theorem í.same{H H':Hp}{gi:List Nat}{gf:Nat->V}{b:Bool}{p:Pt}(s:ak H H')(h:í H gi gf b p):í H' gi gf b p:=by
 unfold í at h⊢;split
 ·cases b with
  |true=>
   obtain⟨c,h1,h2⟩:=h;exact⟨c,h1.same s,h2⟩
  |false=>exact dQ.same h s
 next ne=>
 cases p with
 |leaf n r=>
  cases r with
  |Ç i r z=>exact(ne _ _ _ _ rfl).elim
  |_=>exact h
 |_=>exact h
inductive Gs(A:Ï)(N:Nat->Str)(H:Hp)(hs:List Pt)(gi:List Nat)(gf:Nat->V)(E:XK)(k:Prop):Prop
 |mk(j:Nat)(h:∀p∈hs.take j,í H gi gf true p)(q:(j=hs.length/\k)\/∃p,hs[j]?=YV p/\í H gi gf false p/\jj A E H (N (î p))):Gs A N H hs gi gf E k
inductive y4(A:Ï)(vs:List V)(H:Hp)(Q:VK)(Ã:XK):Prop
 |mk(N:Nat->Str)(X:Hp)(v:V)(hs ms:List Pt)(g:RB)(gi:List Nat)(gf:Nat->V)(z0:vs=[v,.ref g])(z1:ak X H)(z2:ka A N X v hs [] ms)(z3:dO N)(z4:xp hs)(z5:H g=YV (.dK (dk N gi gf)))(z6:∀i∈gi,i<25)
  (z7:Gs A N H hs gi gf Ã (∀c H',ak H H'->H c=YW->dP N H' c hs->Q (.ref c) H')):y4 A vs H Q Ã
theorem GV(T:Txt K mg A):CK P w K mg base 4 "cells_of" ["program","gifts"] (y4 A):=by
 have M9:=λN:Nat->Str=>MR (P:=P) (w:=w) (base:=base) (N:=N) T;refine aM.Ih T.yg jt (λvs H Q E h=>?_) (λX f Â A' outer s H vs Q E hX cat hr hu h=>?_)
 ·obtain⟨N,X,v,hs,ms,g,gi,gf,rfl,_⟩:=h;rfl
 subst hX;obtain⟨N,X,v,hs,ms,g,gi,gf,rfl,s0,pg,Di,ho,hg,gb,gs⟩:=h;obtain⟨a,dx,n0,n1,n2,x0,x1,x2,rfl,ha,e0,e1,e2,p0,p1,p2⟩:=pg;have M9:=M9 N;obtain⟨j,G,gs⟩:=gs;refine⟨_,(af (É 2 jt.nd (dW))
  (af (EH cat λb cat hp=>bc (X:=Ÿ (nG (CXE P w) P w K mg base ["program","gifts","cells","head","deed","part"] "cells_of" (aq i5) f Â A' outer s H E) b) hp rfl (aW (aA (fv 0) rfl)) (Ò (i:=3) jt.nd rfl)
   (aj (aN (aO (Ó aI T.av (fv 3^aL T.aR.mg^ae)) (λ_=>rfl))
    (aj (cE (lQ cat (Iq T Di) hr (fv 3^fv 1^ae)) (cF (fv 2) (aA (fv 3) rfl) (cU hu YZ))))
    (aj (aN (aO (Ó aI T.av (fv 3^aL T.cC.mg^ae)) (λ_=>rfl))
     (aj (cE (au M9 hr (fv 3^ae)) (cF (fv 2) (aA (fv 3) rfl) (cU hu YZ))))
     aH)))))
  (af (EH cat λb cat hp=>bc (X:=Ÿ (nG (CXE P w) P w K mg base ["program","gifts","cells","head","deed","part"] "cells_of" (aq i5) f Â A' outer s H E) b) hp rfl (aW (aA (fv 0) rfl)) (Ò (i:=4) jt.nd rfl)
   dC)
  (aj (aD (fv 2)))))),?_⟩
 refine λc hc=>?_;have s1:=ak.upd hc (HO.dK []);have f1:(upd H c (HO.dK [])) c=YV (.dK []):=ao;generalize upd H c (HO.dK [])=H1 at s1 f1⊢;refine λ_=>Ê ((s0.trans s1) _ _ ha) T.bu.cl T.bG rfl (OZ {{_,À.of ((s0.trans s1) _ _ e0)},a9 (K:=K) (xs:=x0) (λi B Hc=>ak H Hc/\i<=j/\dP N Hc c (hs.take i)/\∃v,B=[YV (.ref a),YV (.ref g),YV (.ref c),v,YW,YW]) {s1,Pc _,{[],λ_=>.Ä,f1,(λ_ h=>absurd h Pw),Pc _,(λ_ h=>by rw[QL]at h;cases h)},YW,rfl} (λi B Hc _ h=>À.of ((s0.trans h.1) _ _ e0)) ?_ ?_})
 ·rintro i y B Hc hy ⟨sc,ij,C,z,rfl⟩;obtain⟨p,hp,pa⟩:=p0.get hy;have mp:p∈hs:=OY hp;have il:i<hs.length:=(O8.mp hp).1;have sX:=s0.trans sc;have tk:hs.take (i+1)=hs.take i++[p]:=by rw[PB,hp];rfl
  have hl:=ho.ln;have tl:(hs.take i).length<=100:=by rw[Pq];lia
  have nw:î p∉(hs.take i).map î:=λm=>by
   have h:=(XI î (QH (i+1) hs)).nodup ho.nd;rw[tk,PM]at h;exact(P4.mp h).2.2 _ m _ (OT.mpr rfl) rfl
  rw[tk];have nj:í H gi gf true p->∀(Ű:¬ í H gi gf false p),i+1<=j:=λ_ Ű=>by
   rcases Ru i j with z|z
   ·exact z
   have e:j=i:=()
   subst e;rcases gs with⟨q,_⟩|⟨p',q,b,_⟩
   ·lia
   rw[hp]at q;cases q;exact absurd b Ű
  have step:∀{v:V}{H2:Hp},ak Hc H2->î p<25->(∀n i r,p=.leaf n (.Ç i r 0)->∃m,v=.int m)->∃o,gQ H2 c (.str (N (î p))) v (upd H2 c o)/\dP N (upd H2 c o) c (hs.take i++[p]):=λs2 h h2=>(C.same s2).put Di tl h nw h2;have hc0:∀{H2:Hp}{o:HO},ak Hc H2->ak H (upd H2 c o):=λs2=>ak.out (sc.trans s2) hc _;cases ho.hd p mp with
  |Ç n k r zz hk hz=>
   unfold aS at pa;obtain⟨b,dx,_,rfl,h1,_⟩:=id pa;have ú:aS A N X (.ref b) (.leaf n (.Ç k r (zz:Int))):=by unfold aS;exact pa
   refine fW T sX ú (j:=2) rfl (bK ?_);have ϓ:=sX _ _ h1;have cases2:(i+1<=j/\í H gi gf true (.leaf n (.Ç k r (zz:Int))))\/(dQ H (look gi gf k) zz false/\jj A E H (N k)):=by
    rcases Ru i j with lt|ge
    ·exact OZ {lt,G _ (OY (i:=i) (by rw[Qx lt];exact hp))}
    have e:j=i:=()
    subst e;rcases gs with⟨q,_⟩|⟨p',q,b,rf⟩
    ·lia
    rw[hp]at q;cases q;exact Py ⟨b,rf⟩
   rcases cases2 with⟨lt,cl,c1,c2⟩|⟨bad,rf⟩
   ·refine{b,g,dx,n,r,k,zz,gi,gf,rfl,ϓ,hk,O6 hz ∅,OZ (sc _ _ hg),gb,OZ {cl,c1.same sc,c2,λv H3 s3 hn=>?_}};obtain⟨o,dp,C'⟩:=step (v:=v) s3 hk (λn' i' r' e=>by
     cases e;cases cl with
     |num m=>exact⟨m,hn⟩
     |lst rs=>exact(by simp[Cl.fits]at c2))
    exact Ê (s3 _ _ ϓ) T.aR.cl T.ba rfl {_,dp,{hc0 s3,lt,C',_,rfl}}
   exact{b,g,dx,n,r,k,zz,gi,gf,rfl,ϓ,hk,O6 hz ∅,OZ (sc _ _ hg),gb,Py ⟨bad.same sc,rf.same sc⟩}
  |own n k zz hk hz=>
   unfold aS at pa;obtain⟨b,dx,_,rfl,h1,_⟩:=id pa;have ú:aS A N X (.ref b) (.leaf n (.own k (zz:Int))):=by unfold aS;exact pa
   refine cH T sX ú (j:=2) (by simp[Pt.ci,Lr.ci]) (aV (fW T sX ú (j:=3) rfl (bK ?_)));have ϓ:=sX _ _ h1;refine{b,dx,n,zz,k,rfl,O6 hz ∅,ϓ,λv H3 s3 hn=>?_};obtain⟨o,dp,C'⟩:=step (v:=v) s3 hk (λn' i' r' e=>by cases e);exact Ê (s3 _ _ ϓ) T.cC.cl T.cZ rfl {_,dp,{hc0 s3,nj rfl (λz=>by cases z),C',_,rfl}}
  |hand n k r hk=>
   exact cH T sX pa (j:=2) (by simp[Pt.ci,Lr.ci]) (aV (cH T sX pa (j:=3) (by simp[Pt.ci,Lr.ci]) (aV {sc,nj rfl (λz=>by cases z),C.skip (by simp[Pt.ci,Lr.ci]) (by simp[Pt.ci,Lr.ci]),_,rfl})))
  |lt n k r hk=>
   exact cH T sX pa (j:=2) (by simp[Pt.ci,Lr.ci]) (aV (cH T sX pa (j:=3) (by simp[Pt.ci,Lr.ci]) (aV {sc,nj rfl (λz=>by cases z),C.skip (by simp[Pt.ci,Lr.ci]) (by simp[Pt.ci,Lr.ci]),_,rfl})))
 rintro B Hc ⟨sc,ij,C,z,rfl⟩;rw[p0.len]at ij C;rw[Pk]at C;obtain⟨_,q2⟩:j=hs.length/\∀c H',ak H H'->H c=YW->dP N H' c hs->Q (.ref c) H':=by
  rcases gs with q|⟨p,q,_⟩
  ·exact q
  have:=(O8.mp q).1;lia
 have x1e:x1=[]:=by unfold a8 at p1;exact p1
 subst x1e;refine λ_=>Ê ((s0.trans sc) _ _ ha) T.bu.cl T.bH rfl (OZ {{_,À.of ((s0.trans sc) _ _ e1)},a9 (K:=K) (xs:=[]) (λi B H3=>H3=Hc/\∃v3,B=[YV (.ref a),YV (.ref g),YV (.ref c),v3,YW,YW]) {rfl,_,rfl} (λi B H3 _ h=>À.of (by rw[h.1];exact(s0.trans sc) _ _ e1)) ?_ ?_})
 ·rintro i y B H3 hy _;cases hy
 rintro B H3 ⟨rfl,v3,rfl⟩;exact q2 c H3 sc hc C
structure HP(A:Ï)(H:Hp)(x dx l sd t e:RB):Prop where
 b:H x=YV (.ins A.bL dx [("letters",.ref l),("said",.ref sd),("trace",.ref t),("steps",.int 0),("ends",.ref e)])
 hl:H l=YV (.lst [])
 hs:H sd=YV (.lst [])
 ht:H t=YV (.lst [])
 tl:t≠l
 dt:sd≠t
 dl:sd≠l
inductive pQ(A:Ï)(vs:List V)(H:Hp)(Q:VK)(Ã:XK):Prop
 |mk(x:_)(dx:_):vs=[.ref x]->H x=YV (.ins A.bL dx [])->(∀(l sd t e:RB)(H':Hp),H l=YW->H sd=YW->H t=YW->Ý x H H'->HP A H' x dx l sd t e->Q .Ä H')->pQ A vs H Q Ã
theorem zo(T:Txt K mg A):T.lO.Hz P w mg base 1 (pQ A):=by
 refine T.lO.hs (k:=0) xF (λf Â A' outer s H vs Q E hr hu h=>?_);obtain⟨x,dx,rfl,hx,q⟩:=h;refine⟨_,(af (bW (fv 0) (aP ae) rfl)
 (af (bW (fv 0) (aP ae) rfl)
 (af (bW (fv 0) (aP ae) rfl)
 (af (bW (fv 0) ag rfl)
 (aj (bW (fv 0) (dW) rfl)))))),?_⟩
 refine{Pc _,λl hl=>?_};have lx:l≠x:=λz=>by rw[z,hx]at hl;cases hl
 have b1:Ý x H (upd H l (HO.lst [])):=Ý.new hl _;have x1:(upd H l (HO.lst [])) x=YV (.ins A.bL dx []):=by rw[ay (Pm lx)];exact hx
 have l1:(upd H l (HO.lst [])) l=YV (.lst []):=ao;generalize upd H l (HO.lst [])=H1 at b1 x1 l1⊢;refine{x,_,dx,_,rfl,x1,T.da.cl,T.iJ,∅,?_};have b2:Ý x H (upd H1 x (.ins A.bL dx (bN "letters" (.ref l) []))):=b1.trans (Ý.at x _ _);have x2:(upd H1 x (.ins A.bL dx (bN "letters" (.ref l) []))) x=YV (.ins A.bL dx [("letters",.ref l)]):=ao;have l2:(upd H1 x (.ins A.bL dx (bN "letters" (.ref l) []))) l=YV (.lst []):=by rw[ay lx];exact l1
 generalize upd H1 x (.ins A.bL dx (bN "letters" (.ref l) []))=H2 at b2 x2 l2⊢;refine{Pc _,λsd hsd=>?_};have sx:sd≠x:=λz=>by rw[z,x2]at hsd;cases hsd
 have dl:sd≠l:=λz=>by rw[z,l2]at hsd;cases hsd
 have sd0:H sd=YW:=b2.none sx hsd;have b3:Ý x H (upd H2 sd (HO.lst [])):=b2.trans (Ý.new hsd _);have x3:(upd H2 sd (HO.lst [])) x=YV (.ins A.bL dx [("letters",.ref l)]):=by rw[ay (Pm sx)];exact x2
 have l3:(upd H2 sd (HO.lst [])) l=YV (.lst []):=by rw[ay (Pm dl)];exact l2
 have s3:(upd H2 sd (HO.lst [])) sd=YV (.lst []):=ao;generalize upd H2 sd (HO.lst [])=H3 at b3 x3 l3 s3⊢;refine{x,_,dx,_,rfl,x3,T.da.cl,T.qP,by simp,?_};have b4:Ý x H (upd H3 x (.ins A.bL dx (bN "said" (.ref sd) [("letters",.ref l)]))):=b3.trans (Ý.at x _ _);have x4:(upd H3 x (.ins A.bL dx (bN "said" (.ref sd) [("letters",.ref l)]))) x=YV (.ins A.bL dx [("letters",.ref l),("said",.ref sd)]):=ao;have l4:(upd H3 x (.ins A.bL dx (bN "said" (.ref sd) [("letters",.ref l)]))) l=YV (.lst []):=by rw[ay lx];exact l3
 have s4:(upd H3 x (.ins A.bL dx (bN "said" (.ref sd) [("letters",.ref l)]))) sd=YV (.lst []):=by rw[ay sx];exact s3
 generalize upd H3 x (.ins A.bL dx (bN "said" (.ref sd) [("letters",.ref l)]))=H4 at b4 x4 l4 s4⊢;refine{Pc _,λt ht=>?_};have tx:t≠x:=λz=>by rw[z,x4]at ht;cases ht
 have tl:t≠l:=λz=>by rw[z,l4]at ht;cases ht
 have ts:t≠sd:=λz=>by rw[z,s4]at ht;cases ht
 have t0:H t=YW:=b4.none tx ht;have b5:Ý x H (upd H4 t (HO.lst [])):=b4.trans (Ý.new ht _);have x5:(upd H4 t (HO.lst [])) x=YV (.ins A.bL dx [("letters",.ref l),("said",.ref sd)]):=by rw[ay (Pm tx)];exact x4
 have l5:(upd H4 t (HO.lst [])) l=YV (.lst []):=by rw[ay (Pm tl)];exact l4
 have s5:(upd H4 t (HO.lst [])) sd=YV (.lst []):=by rw[ay (Pm ts)];exact s4
 have t5:(upd H4 t (HO.lst [])) t=YV (.lst []):=ao;generalize upd H4 t (HO.lst [])=H5 at b5 x5 l5 s5 t5⊢;refine{x,_,dx,_,rfl,x5,T.da.cl,T.cA,by simp,?_};have b6:Ý x H (upd H5 x (.ins A.bL dx (bN "trace" (.ref t) [("letters",.ref l),("said",.ref sd)]))):=b5.trans (Ý.at x _ _);have x6:(upd H5 x (.ins A.bL dx (bN "trace" (.ref t) [("letters",.ref l),("said",.ref sd)]))) x=YV (.ins A.bL dx [("letters",.ref l),("said",.ref sd),("trace",.ref t)]):=ao;have l6:(upd H5 x (.ins A.bL dx (bN "trace" (.ref t) [("letters",.ref l),("said",.ref sd)]))) l=YV (.lst []):=by rw[ay lx];exact l5
 have s6:(upd H5 x (.ins A.bL dx (bN "trace" (.ref t) [("letters",.ref l),("said",.ref sd)]))) sd=YV (.lst []):=by rw[ay sx];exact s5
 have t6:(upd H5 x (.ins A.bL dx (bN "trace" (.ref t) [("letters",.ref l),("said",.ref sd)]))) t=YV (.lst []):=by rw[ay tx];exact t5
 generalize upd H5 x (.ins A.bL dx (bN "trace" (.ref t) [("letters",.ref l),("said",.ref sd)]))=H6 at b6 x6 l6 s6 t6⊢;refine{x,_,dx,_,rfl,x6,T.da.cl,T.eK,by simp,?_};have b7:Ý x H (upd H6 x (.ins A.bL dx (bN "steps" (.int 0) [("letters",.ref l),("said",.ref sd),("trace",.ref t)]))):=b6.trans (Ý.at x _ _);have x7:(upd H6 x (.ins A.bL dx (bN "steps" (.int 0) [("letters",.ref l),("said",.ref sd),("trace",.ref t)]))) x=YV (.ins A.bL dx [("letters",.ref l),("said",.ref sd),("trace",.ref t),("steps",.int 0)]):=ao;have l7:(upd H6 x (.ins A.bL dx (bN "steps" (.int 0) [("letters",.ref l),("said",.ref sd),("trace",.ref t)]))) l=YV (.lst []):=by rw[ay lx];exact l6
 have s7:(upd H6 x (.ins A.bL dx (bN "steps" (.int 0) [("letters",.ref l),("said",.ref sd),("trace",.ref t)]))) sd=YV (.lst []):=by rw[ay sx];exact s6
 have t7:(upd H6 x (.ins A.bL dx (bN "steps" (.int 0) [("letters",.ref l),("said",.ref sd),("trace",.ref t)]))) t=YV (.lst []):=by rw[ay tx];exact t6
 generalize upd H6 x (.ins A.bL dx (bN "steps" (.int 0) [("letters",.ref l),("said",.ref sd),("trace",.ref t)]))=H7 at b7 x7 l7 s7 t7⊢;refine λe he=>?_;have ex:e≠x:=λz=>by rw[z,x7]at he;cases he
 have n8:=ak.upd he (HO.dK []);refine{x,_,dx,_,rfl,n8 _ _ x7,T.da.cl,T.mH,by simp,q l sd t e _ hl sd0 t0 ((b7.trans (Ý.of n8)).trans (Ý.at x _ _)) {ao,?_,?_,?_,tl,Pm ts,dl}}
 ·rw[ay lx];exact n8 _ _ l7
 ·rw[ay sx];exact n8 _ _ s7
 rw[ay tx];exact n8 _ _ t7
structure Ra where
 s:RB
 ds:RB
 d:RB
 b:RB
 db:RB
 c:RB
 l:RB
 sd:RB
 t:RB
 e:RB
def Υ(H:Hp)(n:Int)(y:V):Prop:=∃p a b,y=.ref p/\H p=YV (.tup [.int n,a,b])
structure qZ(A:Ï)(N:Nat->Str)(H:Hp)(r:Ra)(hs:List Pt)(nums:List Int):Prop where
 rs:H r.s=YV (.ins A.Run r.ds [("deeds",.ref r.d),("cells",.ref r.c),("book",.ref r.b)])
 hb:∃n,H r.b=YV (.ins A.bL r.db [("letters",.ref r.l),("said",.ref r.sd),("trace",.ref r.t),("steps",.int n),("ends",.ref r.e)])
 hl:∃xs,H r.l=YV (.lst xs)/\xs.length<=nums.length
 ht:∃ys,H r.t=YV (.lst ys)/\Paired (Υ H) nums ys
 cw:dP N H r.c hs
 tl:r.t≠r.l
def rM(r:Ra):List RB:=[r.b,r.l,r.t]
inductive BM(A:Ï)(vs:List V)(H:Hp)(Q:VK)(Ã:XK):Prop
 |mk(N:Nat->Str)(r:Ra)(n:Int)(hs:List Pt)(nums:List Int):vs=[.ref r.s,.int n]->qZ A N H r hs nums->(∀H',Sm (rM r) H H'->qZ A N H' r hs nums->Q .Ä H')->BM A vs H Q Ã
theorem K0(T:Txt K mg A):T.fE.Hz P w mg base 1 (BM A):=by
 refine T.fE.hs (k:=0) jq (λf Â A' outer s' H vs Q E hr hu h=>?_);obtain⟨N,r,n,hs,nums,rfl,R,q⟩:=h;obtain⟨st,hb⟩:=R.hb;refine⟨_,(af (É 2 jq.nd (aA (fv 0) rfl))
  (aj (Dz (fv 2) (fv 1) Kj))),?_⟩
 refine Ê R.rs T.gI.cl T.h8 rfl {r.b,A.bL,r.db,_,_,rfl,hb,T.da.cl,T.eK,rfl,_,_,rfl,rfl,r.db,_,hb,by simp,?_};have kp:∀{a:RB}{o:HO}{u:HO},H a=YV o->(∀fs,o≠ .ins A.bL r.db fs)->(upd H r.b u) a=YV o:=λ{a o u} e n=>aF (λz=>by rw[z,hb]at e;cases e;exact n _ rfl) e;refine q _ (Sm.at OX _) ?_;obtain⟨xs,hl,ll⟩:=R.hl;obtain⟨ys,ht,tt⟩:=R.ht;obtain⟨l,ff,e,cr⟩:=R.cw;refine{kp R.rs (λfs z=>?_),{st+n,ao},{xs,kp hl (λ_ z=>by cases z),ll},{ys,kp ht (λ_ z=>by cases z),Paired.gR tt λ_ _ h=>h.elim λp h=>h.elim λa h=>h.elim λb h=>{p,a,b,h.1,kp h.2 (λ_ z=>by cases z)}},{l,ff,kp e (λ_ z=>by cases z),cr},R.tl};exact absurd (HO.ins.inj z).1 (Aw T 15 14)
def CL(hs:List Pt)(i:Nat):Prop:=∃n r,Pt.leaf n (.Ç i r 0)∈hs
inductive Jd(A:Ï)(vs:List V)(H:Hp)(Q:VK)(Ã:XK):Prop
 |mk(N:Nat->Str)(r:Ra)(hs:List Pt)(nums:List Int)(i:Nat):vs=[.ref r.s,.str (N i)]->qZ A N H r hs nums->dO N->CL hs i->i<25->(∀m:Int,Q (.int m) H)->Jd A vs H Q Ã
theorem Ot(T:Txt K mg A):T.gC.Hz P w mg base 1 (Jd A):=by
 refine T.gC.hs (k:=0) pY (λf Â A' outer s' H vs Q E hr hu h=>?_);obtain⟨N,r,hs,nums,i,rfl,R,Di,⟨n,rk,mp⟩,hi,q⟩:=h;obtain⟨l,ff,e,lb,ll,a⟩:=R.cw;obtain⟨a1,a2⟩:=a _ mp (OZ (show(2:Nat)=2 from rfl));obtain⟨m,em⟩:=a2 _ _ _ rfl;have gv:L2.bx (dk N l ff) (.inr (N i))=YV (ff i):=jA Di lb a1;rw[em]at gv;exact{_,(aj (aD (pK (aO (Ó aI T.av (fv 1^(kM (v:=.ty "str") rfl T.vH (by boot_by_name) rfl)^ae)) (λ_=>rfl)) (px hu (aA (fv 0) rfl) (fv 1)) (fv 1)))),{_,_,_,true,rfl,(λz=>by cases z),.str (N i),AZ,true,rfl,bK (Ê R.rs T.gI.cl T.jk rfl (Ŀ e gv (q m)))}}
inductive FH(A:Ï)(vs:List V)(H:Hp)(Q:VK)(Ã:XK):Prop
 |mk(N:Nat->Str)(r:Ra)(hs:List Pt)(nums:List Int)(i:Nat)(p:RB):vs=[.ref r.s,.ref p]->qZ A N H r hs nums->dO N->CL hs i->i<25->H p=YV (.tup [.str (N i)])->(∀m:Int,Q (.int m) H)->FH A vs H Q Ã
theorem MO(T:Txt K mg A):T.fO.Hz P w mg base 2 (FH A):=by
 refine T.fO.hs (k:=1) pU (λf Â A' outer s' H vs Q E hr hu h=>?_);obtain⟨N,r,hs,nums,i,p,rfl,R,Di,ng,hi,hp,q⟩:=h;refine⟨_,(af (aN (Ö (bY hu) (Ó eZ T.fY (fv 1^ae)) ag)
   (aj (aD (kh (hj:=by lia) (fv 0) T.gI.cl (Ot T) hr (px hu (fv 1) ag^ae))))
   aH)
  dC),?_⟩
 refine ah λM1 K1=>OZ {_,_,rfl,Py {_,Æ.of hp,rfl},rfl,_,rfl,bh (λc=>?_) (λc=>absurd rfl c)};exact{r.s,r.ds,_,rfl,R.rs,rfl,Ø (j:=0) (Æ.of hp) rfl ⟨N,r,hs,nums,i,rfl,R,Di,ng,hi,q⟩}
inductive Bn(A:Ï)(vs:List V)(H:Hp)(Q:VK)(Ã:XK):Prop
 |mk(N:Nat->Str)(X:Hp)(r:Ra)(hs:List Pt)(nums:List Int)(v:V)(n:Int)(x i:Nat):vs=[.ref r.s,v]->qZ A N H r hs nums->dO N->CL hs i->i<25->ak X H->aS A N X v (.leaf n (.snd x (.one (.x i))))->(∀m:Int,Q (.int m) H)->Bn A vs H Q Ã
theorem Kk(T:Txt K mg A):T.fe.Hz P w mg base 3 (Bn A):=by
 refine T.fe.hs (k:=2) oQ (λf Â A' outer s' H vs Q E hr hu h=>?_);obtain⟨N,X,r,hs,nums,v,n,x,i,rfl,R,Di,ng,hi,s0,pa,q⟩:=h;have ú:=pa;unfold aS at ú;obtain⟨a,dx,p,rfl,h1,h2⟩:=ú;refine⟨_,(af (aN (PW.pt (pw_or (aO (Ó aI T.av (fv 1^aL T.bE.mg^ae)) (λ_=>rfl)) (pw_or1 (aO (Ó aI T.av (fv 1^aL T.bS.mg^ae)) (λ_=>rfl)))))
   (aj (aD (kh (hj:=by lia) (fv 0) T.gI.cl (MO T) hr (aA (fv 1) rfl^ae))))
   aH)
  (aj (aD bU))),?_⟩
 exact ah λM1 K1=>fW T s0 pa (j:=7) rfl (bK {r.s,r.ds,_,rfl,R.rs,rfl,Ê (s0 _ _ h1) T.bE.cl T.d4 rfl {N,r,hs,nums,i,p,rfl,R,Di,ng,hi,s0 _ _ (h2 _ rfl),q}})
inductive yZ(A:Ï)(vs:List V)(H:Hp)(Q:VK)(Ã:XK):Prop
 |mk(N:Nat->Str)(X:Hp)(r:Ra)(hs:List Pt)(nums:List Int)(v:V)(n:Int)(x i:Nat):vs=[.ref r.s,v]->qZ A N H r hs nums->dO N->CL hs i->i<25->ak X H->aS A N X v (.leaf n (.snd x (.one (.x i))))->(∀m∈rM r,X m=YW)->nums.length<=100->(∀H',Sm (rM r) H H'->qZ A N H' r hs (nums++[n])->Q (.bl false) H')->yZ A vs H Q Ã
theorem Iu(T:Txt K mg A):T.kB.Hz P w mg base 4 (yZ A):=by
 refine T.kB.hs (k:=3) jC (λf Â A' outer s' H vs Q E hr hu h=>?_);obtain⟨N,X,r,hs,nums,v,n,x,i,rfl,R,Di,ng,hi,s0,pa,nX,ln,q⟩:=h;have ú:=pa;unfold aS at ú;obtain⟨a,dx,p,rfl,h1,h2⟩:=ú;refine⟨_,(af (aT (kh (hj:=by lia) (fv 0) T.gI.cl (K0 T) hr (ag^ae)))
  (af (É 2 jC.nd (aA (fv 0) rfl))
  (af (É 3 jC.nd (kh (hj:=by lia) (fv 0) T.gI.cl (Kk T) hr (fv 1^ae)))
  (af (aT (bP (aA (fv 2) rfl) (aQ (aA (fv 1) rfl^aA (fv 2) rfl^fv 3^ae)^ae)))
  (af (aN (aO (Ó aI T.av (fv 1^aL T.fX.mg^ae)) (λ_=>rfl))
   dC
   (aj (aN (aO (Ó aI T.av (fv 1^aL T.eI.mg^ae)) (λ_=>rfl))
    dC
    (aj (aN (aO (Ó aI T.av (fv 1^aL T.bE.mg^ae)) (λ_=>rfl))
     (aj (aT (bP (aA (fv 2) rfl) (aQ (aA (fv 2) rfl^aA (fv 1) rfl^aA (fv 1) rfl^fv 3^ae)^ae))))
     (aj (aN (aO (Ó aI T.av (fv 1^aL T.bS.mg^ae)) (λ_=>rfl))
      dC
      (aj (aN (aO (Ó aI T.av (fv 1^aL T.cM.mg^ae)) (λ_=>rfl))
       dC
       (aj (aN (aO (Ó aI T.av (fv 1^aL T.cf.mg^ae)) (λ_=>rfl))
        dC
        (aj (aN (aO (Ó aI T.av (fv 1^aL T.br.mg^ae)) (λ_=>rfl))
         dC
         aH)))))))))))))
  (aj (aD (Ó aI T.av (fv 1^aL T.j7.mg^ae))))))))),?_⟩
 refine ah λM1 K1=>{r.s,r.ds,_,rfl,R.rs,rfl,N,r,1,hs,nums,rfl,R,λH2 m2 R2=>?_};have sX2:=m2.same s0 nX;obtain⟨st,hb⟩:=R2.hb;obtain⟨ys,ht,tt⟩:=R2.ht;obtain⟨xs,hl,ll⟩:=R2.hl;have lt:=RN tt;refine K1 _ _ ?_;clear K1 M1;rfl'
 refine ah λM1 K1=>Ê R2.rs T.gI.cl T.h8 rfl (K1 _ _ ?_);clear K1 M1;rfl'
 refine ah λM1 K1=>{r.s,r.ds,_,rfl,R2.rs,rfl,N,X,r,hs,nums,.ref a,n,x,i,rfl,R2,Di,ng,hi,sX2,pa,λm=>K1 _ _ ?_};clear K1 M1;rfl'
 refine ah λM1 K1=>Ê hb T.da.cl T.cA rfl {OZ {rfl,_,À.of ht},Ê (sX2 _ _ h1) T.bE.cl T.cK rfl (Ê hb T.da.cl T.eK rfl {by show 3<=sizeLine;decide,λp3 hp3=>{_,_,_,rfl,rfl,ak.upd hp3 _ _ _ ht,aG (),?_}})};have s3:=ak.upd hp3 (HO.tup [.int n,.int st,.int m]);have e3:(upd H2 p3 (HO.tup [.int n,.int st,.int m])) p3=_:=ao;generalize upd H2 p3 _=H3 at s3 e3⊢;have m4:Sm (rM r) H (upd H3 r.t (.lst (ys++[.ref p3]))):=(m2.trans (Sm.new s3)).trans (Sm.at (O2 _ (O2 _ OX)) _);have kp:∀{z:RB}{o:HO},H2 z=YV o->(∀us,o≠ .lst us)->(upd H3 r.t (.lst (ys++[.ref p3]))) z=YV o:=λ{z o} e n=>aF (λw=>by rw[w,ht]at e;cases e;exact n _ rfl) (s3 _ _ e);have b4:=kp hb (λ_ z=>by cases z);have r4:=kp R2.rs (λ_ z=>by cases z);have l4:(upd H3 r.t (.lst (ys++[.ref p3]))) r.l=YV (.lst xs):=aF (λz=>R2.tl z.symm) (s3 _ _ hl);have t4:(upd H3 r.t (.lst (ys++[.ref p3]))) r.t=YV (.lst (ys++[.ref p3])):=ao;have tt4:Paired (Υ (upd H3 r.t (.lst (ys++[.ref p3])))) (nums++[n]) (ys++[.ref p3]):=Paired.two (Paired.gR tt λ_ _ h=>h.elim λp h=>h.elim λa h=>h.elim λb h=>{p,a,b,h.1,kp h.2 (λ_ z=>by cases z)}) (.cons {p3,_,_,rfl,aF (λz=>by rw[z,s3 _ _ ht]at e3;cases e3) e3} .nil);have c4:dP N (upd H3 r.t (.lst (ys++[.ref p3]))) r.c hs:=by
  obtain⟨l,ff,e,cr⟩:=R2.cw;exact{l,ff,kp e (λ_ z=>by cases z),cr}
 generalize upd H3 r.t (.lst (ys++[.ref p3]))=H4 at m4 b4 r4 l4 t4 tt4 c4⊢;clear kp e3 s3 hb ht hl tt;have sX4:=m4.same s0 nX;refine K1 _ _ ?_;clear K1 M1;rfl'
 refine ah λM1 K1=>cH T sX4 pa (j:=5) (by simp[Pt.ci,Lr.ci]) (aV (cH T sX4 pa (j:=6) (by simp[Pt.ci,Lr.ci]) (aV (fW T sX4 pa (j:=7) rfl (bK (Ê b4 T.da.cl T.iJ rfl {OZ {rfl,_,À.of l4},Ê b4 T.da.cl T.eK rfl (Ê (sX4 _ _ h1) T.bE.cl T.cK rfl (Ê (sX4 _ _ h1) T.bE.cl T.iN rfl {by show 4<=sizeLine;decide,λp5 hp5=>{_,_,_,rfl,rfl,ak.upd hp5 _ _ _ l4,aG (),?_}}))}))))));have s5:=ak.upd hp5 (HO.tup [.int st,.int n,.str (N x),.int m]);generalize upd H4 p5 _=H5 at s5⊢;have m6:Sm (rM r) H (upd H5 r.l (.lst (xs++[.ref p5]))):=(m4.trans (Sm.new s5)).trans (Sm.at (O2 _ OX) _);have kp:∀{z:RB}{o:HO},H4 z=YV o->(∀us,o≠ .lst us)->(upd H5 r.l (.lst (xs++[.ref p5]))) z=YV o:=λ{z o} e n=>aF (λw=>by rw[w,l4]at e;cases e;exact n _ rfl) (s5 _ _ e);have R6:qZ A N (upd H5 r.l (.lst (xs++[.ref p5]))) r hs (nums++[n]):=by
  refine{kp r4 (λ_ z=>by cases z),{st,kp b4 (λ_ z=>by cases z)},{_,ao,by rw[O5,O5,Po,Po];lia},{_,aF R2.tl (s5 _ _ t4),Paired.gR tt4 λ_ _ h=>h.elim λp h=>h.elim λa h=>h.elim λb h=>{p,a,b,h.1,kp h.2 (λ_ z=>by cases z)}},?_,R2.tl};obtain⟨l,ff,e,cr⟩:=c4;exact{l,ff,kp e (λ_ z=>by cases z),cr}
 generalize upd H5 r.l (.lst (xs++[.ref p5]))=H6 at m6 R6⊢;have sX6:=m6.same s0 nX;refine K1 _ _ ?_;clear K1 M1;exact tP T sX6 pa 10 ∅ ∅ (q H6 m6 R6)
inductive vF(A:Ï)(vs:List V)(H:Hp)(Q:VK)(Ã:XK):Prop
 |mk(N:Nat->Str)(X:Hp)(r:Ra)(hs:List Pt)(L:RB)(xs:List V)(ms:List Pt):vs=[.ref r.s,.ref L]->qZ A N H r hs []->dO N->ak X H->X L=YV (.lst xs)->a8 A N X xs ms->(∀p∈ms,∃n x i,p=.leaf n (.snd x (.one (.x i)))/\CL hs i/\i<25)->ms.length<=40->(∀m∈rM r,X m=YW)->(∀H',Sm (rM r) H H'->qZ A N H' r hs (ms.map Pt.no)->Q (.bl false) H')->vF A vs H Q Ã
theorem EI(T:Txt K mg A):T.jJ.Hz P w mg base 5 (vF A):=by
 refine T.jJ.hs (k:=4) eX (λf Â A' outer s' H vs Q E hr hu h=>?_);obtain⟨N,X,r,hs,L,xs,ms,rfl,R,Di,s0,hL,pm,hm,ln,nX,q⟩:=h;refine⟨_,(af (É 2 eX.nd og)
  (af (bc RO rfl (aW (fv 1)) (Ò (i:=3) eX.nd rfl)
   (aj (aN (aO (kh (hj:=by lia) (fv 0) T.gI.cl (Iu T) hr (fv 3^ae)) (λ_=>rfl))
    (aj (É 2 eX.nd og))
    aH)))
  (aj (aD (fv 2))))),?_⟩
 refine ah λM1 K1=>K1 _ _ ?_;clear K1 M1;rfl'
 refine ah λM1 K1=>OZ {{_,À.of (s0 _ _ hL)},a9 (K:=K) (xs:=xs) (λi B Hc=>∃v3:Option V,B=[YV (.ref r.s),YV (.ref L),YV (.bl false),v3]/\Sm (rM r) H Hc/\qZ A N Hc r hs ((ms.take i).map Pt.no)) {YW,rfl,Sm.refl _ _,R} (λi B Hc _ ⟨_,_,z,_⟩=>À.of (z.same s0 nX _ _ hL)) ?_ ?_}
 ·rintro i y B Hc hy ⟨v3,rfl,mc,Rc⟩;obtain⟨p,hp,pa⟩:=pm.get hy;obtain⟨n,x,k,rfl,ng,hk⟩:=hm p (OY hp);have tk:(ms.take (i+1)).map Pt.no=(ms.take i).map Pt.no++[n]:=by rw[PB,hp,PM];rfl
  rfl'
  refine{r.s,r.ds,_,rfl,Rc.rs,rfl,N,X,r,hs,(ms.take i).map Pt.no,y,n,x,k,rfl,Rc,Di,ng,hk,mc.same s0 nX,pa,nX,by rw[OU,Pq];lia,λH2 m2 R2=>?_};rw[tk];exact{_,rfl,aV {_,rfl,mc.trans m2,R2}}
 rintro B Hc ⟨v3,rfl,mc,Rc⟩;rw[show ms.take xs.length=ms by rw[pm.len];exact Pk]at Rc;exact K1 _ _ (q Hc mc Rc)
theorem vt{H:Hp}:∀{es:List Pt}{ys:List V},Paired (λ(e:Pt) y=>∃t v,y=V.ref t/\H t=YV (.tup [.str (N (î e)),v])) es ys->∃(ps:List RB)(kvs:List (Key×V)),ys=ps.map V.ref/\kvs.length=ps.length/\ps.length=es.length/\∀(i:Nat) t k v,ps[i]?=YV t->kvs[i]?=YV (k,v)->H t=YV (.tup [kV k,v])
 |_,_,.nil=>{[],[],rfl,rfl,rfl,λi t k v h=>by cases h}
 |e::es,_,.cons ⟨t,v,e1,h1⟩ r=>by
  obtain⟨ps,kvs,rfl,l1,l2,h⟩:=vt r;subst e1;refine{t::ps,(.inr (N (î e)),v)::kvs,rfl,by rw[Pf,Pf,l1],by rw[Pf,Pf,l2],λi t' k v' ĝ ϕ=>?_};cases i with
  |zero=>
   cases ĝ;cases ϕ;exact h1
  |succ i=>exact h i t' k v' ĝ ϕ
inductive Cr(A:Ï)(vs:List V)(H:Hp)(Q:VK)(Ã:XK):Prop
 |mk(N:Nat->Str)(X:Hp)(v:V)(hs ms:List Pt)(c:RB):vs=[v,.ref c]->ak X H->ka A N X v hs [] ms->dO N->xp hs->dP N H c hs->(∀e H',ak H H'->Q (.ref e) H')->Cr A vs H Q Ã
theorem JS(T:Txt K mg A):T.xa.Hz P w base 1 (Cr A):=by
 refine T.xa.hs (k:=0) Al (λf Â A' outer s' H vs Q E hr hu h=>?_);obtain⟨N,X,v,hs,ms,c,rfl,s0,⟨a,dx,n0,n1,n2,x0,x1,x2,rfl,ha,e0,e1,e2,p0,p1,p2⟩,Di,ho,⟨l,ff,ec,lb,ll,cw⟩,q⟩:=h;refine{_,(aj (aD (Ď ni T.iW ((dD (N:=["head","cells"]) (own:=1) (fr:=[1]) (bI.of (by kernel_rfl!)) rfl (aW (aA (fv 0) rfl)) (λb=>Ò (i:=0) (show R9 (["head","cells"]:List Sl) by decide+kernel) rfl) (λb=>oK (aO (Ó aI T.av (fv 0^aL T.cC.mg^ae)) (λ_=>rfl))) (λb=>aQ (aA (fv 0) rfl^px hu (fv 1) (aA (fv 0) rfl)^ae)))^ae)))),?_};have hl:=ho.ln;have lx:=p0.len;refine Ê (s0 _ _ ha) T.bu.cl T.bG rfl (OZ {{_,À.of (s0 _ _ e0)},cI (K:=K) (own:=1) hs (λe=>decide (e.ci=3)) (λe y H=>∃t v,y=V.ref t/\H t=YV (.tup [.str (N (î e)),v])) (À.of (s0 _ _ e0)) lx (aG ()) ?_ ?_ ?_ ?_})
 ·intro b i x e v0 H3 Nn Y hx he hv s3 no yes;obtain⟨u0,rfl⟩:∃u0,v0=[u0]:=by
   match v0,hv with
   | [u],_=>exact⟨u,rfl⟩
  obtain⟨e',ő,pa⟩:=p0.get hx;rw[he]at ő;cases ő;have sX:=s0.trans s3;refine tK T sX pa 3 ∅ ∅ ?_;by_cases c3:e.ci=3
  ·rw[decide_eq_true c3];refine(if_pos rfl).mpr ?_;have yes:=yes (decide_eq_true c3);cases ho.hd e (OY he)with
   |own n k zz hk hz=>
    unfold aS at pa;obtain⟨b',ϗ,_,rfl,h1,_⟩:=pa;obtain⟨a1,_⟩:=cw _ (OY he) (Py c3);have gv:L2.bx (dk N l ff) (.inr (N k))=YV (ff k):=jA Di lb a1;exact Ê (sX _ _ h1) T.cC.cl T.cZ rfl (Ê (sX _ _ h1) T.cC.cl T.cZ rfl (Ŀ (s3 _ _ ec) gv {by show 2<=sizeLine;decide,λt ht=>yes [YV (.ref b')] _ _ rfl (ak.upd ht _) {t,_,rfl,ao}}))
   |Ç _ _ _ _ _ _=>cases c3
   |hand _ _ _ _=>cases c3
   |lt _ _ _ _=>cases c3
  rw[decide_eq_false c3];exact(if_neg O3).mpr (no (decide_eq_false c3) [YV x] _ rfl (ak.refl _))
 ·rintro e y H2 H3 s ⟨t,v,e1,e2⟩;exact{t,v,e1,s _ _ e2}
 ·rintro e y H2 D ys zs hD ⟨t,v,e1,e2⟩;exact{t,v,e1,aF (λz=>by rw[z,hD]at e2;cases e2) e2}
 intro L H2 ys hL s2 eL pr;obtain⟨ps,kvs,rfl,l1,l2,h⟩:=vt pr;have fl:=PX (λe:Pt=>decide (e.ci=3)) hs;exact{L,ps,kvs,rfl,À.of eL,(),(),λi t k v ht hk=>Æ.of (h i t k v ht hk),λDA hDA=>q DA _ (s2.trans (ak.upd hDA _))}
inductive qR(A:Ï)(vs:List V)(H:Hp)(Q:VK)(Ã:XK):Prop
 |mk(N:Nat->Str)(X:Hp)(v:V)(hs ms:List Pt)(s ds c:RB)(z0:vs=[.ref s,v,.ref c])(z1:H s=YV (.ins A.Run ds []))(z2:ak X H)(z3:ka A N X v hs [] ms)
  (z4:∀(d b db l sd t e:RB)(H':Hp),Ý s H H'->H b=YW->H l=YW->H t=YW->H' s=YV (.ins A.Run ds [("deeds",.ref d),("cells",.ref c),("book",.ref b)])->H' b=YV (.ins A.bL db [("letters",.ref l),("said",.ref sd),("trace",.ref t),("steps",.int 0),("ends",.ref e)])->H' l=YV (.lst [])->H' t=YV (.lst [])->t≠l->Q .Ä H'):qR A vs H Q Ã
theorem AH(T:Txt K mg A):T.oM.Hz P w mg base 3 (qR A):=by
 refine T.oM.hs (k:=2) qQ (λf Â A' outer s' H vs Q E hr hu h=>?_);obtain⟨N,X,v,hs,ms,s,ds,c,rfl,es,s0,⟨a,dx,n0,n1,n2,x0,x1,x2,rfl,ha,e0,e1,e2,p0,p1,p2⟩,q⟩:=h;have x1e:x1=[]:=by unfold a8 at p1;exact p1
 subst x1e;have ps:a≠s:=λz=>by have:=s0 _ _ ha;rw[z,es]at this;exact absurd (HO.ins.inj (RQ this)).1 (Aw T 15 13)
 have dds:n1≠s:=λz=>by have:=s0 _ _ e1;rw[z,es]at this;cases this
 refine⟨_,(af (bW (fv 0) (dW) rfl)
  (af (bc RO rfl (aW (aA (fv 1) rfl)) (Ò (i:=3) qQ.nd rfl)
   dC)
  (af (bW (fv 0) (fv 2) rfl)
  (aj (bW (fv 0) (DL T.da (zo T) hr) rfl))))),?_⟩
 refine λd hd0=>?_;have sm1:=ak.upd hd0 (HO.dK []);have ds0:d≠s:=λz=>by rw[z,es]at hd0;cases hd0
 refine{s,_,ds,_,rfl,sm1 _ _ es,T.gI.cl,T.qU,by simp,?_};have b2:Ý s H (upd (upd H d (HO.dK [])) s (.ins A.Run ds (bN "deeds" (.ref d) []))):=(Ý.of sm1).trans (Ý.at s _ _);have f2:(upd (upd H d (HO.dK [])) s (.ins A.Run ds (bN "deeds" (.ref d) []))) s=YV (.ins A.Run ds [("deeds",.ref d)]):=ao;generalize upd (upd H d (HO.dK [])) s (.ins A.Run ds (bN "deeds" (.ref d) []))=H2 at b2 f2⊢;refine Ê (b2 _ ps _ (s0 _ _ ha)) T.bu.cl T.bH rfl (OZ {{_,À.of (b2 _ dds _ (s0 _ _ e1))},a9 (K:=K) (xs:=[]) (λi B H3=>H3=H2/\∃v,B=[YV (.ref s),YV (.ref a),YV (.ref c),v]) {rfl,_,rfl} (λi B H3 _ h=>À.of (by rw[h.1];exact b2 _ dds _ (s0 _ _ e1))) ?_ ?_})
 ·rintro i y B H3 hy _;cases hy
 rintro B H3 ⟨rfl,z,rfl⟩;refine{s,_,ds,_,rfl,f2,T.gI.cl,T.jk,by simp,?_};have b4:Ý s H (upd H3 s (.ins A.Run ds (bN "cells" (.ref c) [("deeds",.ref d)]))):=b2.trans (Ý.at s _ _);have f4:(upd H3 s (.ins A.Run ds (bN "cells" (.ref c) [("deeds",.ref d)]))) s=YV (.ins A.Run ds [("deeds",.ref d),("cells",.ref c)]):=ao;generalize upd H3 s (.ins A.Run ds (bN "cells" (.ref c) [("deeds",.ref d)]))=H4 at b4 f4⊢;refine λb db hb ì Ű=>{b,db,rfl,ao,λl sd t e H5 nl ns nt bt nb=>{rfl,?_}};have sm5:ak H4 H5:=Ý.same bt hb ì;have bs:b≠s:=λz=>by rw[z,f4]at hb;cases hb
 refine{s,_,ds,_,rfl,sm5 _ _ f4,T.gI.cl,T.h8,by simp,?_};have ls:l≠s:=λz=>by have:=sm5 _ _ f4;rw[<-z,nb.hl]at this;cases this
 have ts:t≠s:=λz=>by have:=sm5 _ _ f4;rw[<-z,nb.ht]at this;cases this
 have kn:∀{x:RB},x≠s->(upd (upd H4 db (.own b)) b (.ins A.bL db [])) x=YW->H x=YW:=λ{x} n h=>by
  refine b4.none n ?_;cases h4:H4 x with
  |none=>rfl
  |some o=>rw[Ý.same (Ý.refl _ _) hb ì _ _ h4]at h;cases h
 refine q d b db l sd t e _ ((b4.trans (Ý.of sm5)).trans (Ý.at s _ _)) (b4.none bs hb) (kn ls nl) (kn ts nt) ao ?_ ?_ ?_ nb.tl
 ·rw[ay bs];exact nb.b
 ·rw[ay ls];exact nb.hl
 rw[ay ts];exact nb.ht
def Mx(A:Ï)(H:Hp)(b:RB)(nums:List Int):Prop:=∃db fs t ys,H b=YV (.ins A.bL db fs)/\fs.lookup ("trace":Str)=YV (.ref t)/\H t=YV (.lst ys)/\Paired (Υ H) nums ys
def rJ(hs ms:List Pt):Prop:=(∀p∈ms,∃n x i,p=.leaf n (.snd x (.one (.x i)))/\CL hs i/\i<25)/\ms.length<=40
inductive Gy(A:Ï)(vs:List V)(H:Hp)(Q:VK)(Ã:XK):Prop
 |mk(N:Nat->Str)(X:Hp)(v:V)(hs ms:List Pt)(g:RB)(gi:List Nat)(gf:Nat->V)(z0:vs=[v,.ref g])(z1:ak X H)(z2:ka A N X v hs [] ms)(z3:dO N)(z4:xp hs)(z8:rJ hs ms)(z5:H g=YV (.dK (dk N gi gf)))(z6:∀i∈gi,i<25)
  (z7:Gs A N H hs gi gf Ã (∀b H',ak H H'->Mx A H' b (ms.map Pt.no)->Q (.ref b) H')):Gy A vs H Q Ã
theorem IP(T:Txt K mg A):CK P w K mg base 7 "run" ["program","gifts"] (Gy A):=by
 refine aM.Ih (k:=6) T.run Ah (λvs H Q E h=>?_) (λX f Â A' outer s' H vs Q E hX cat hr hu h=>?_)
 ·obtain⟨N,X,v,hs,ms,g,gi,gf,rfl,_⟩:=h;rfl
 subst hX;obtain⟨N,X,v,hs,ms,g,gi,gf,rfl,s0,pg,Di,ho,⟨hm,lm⟩,hg,gb,gs⟩:=h;obtain⟨a,dx,n0,n1,n2,x0,x1,x2,rfl,ha,e0,e1,e2,p0,p1,p2⟩:=id pg;obtain⟨j,G,gs⟩:=gs;refine⟨_,(af (É 2 Ah.nd (i6 T.gI (AH T) hr (fv 0^lQ cat (GV T) hr (fv 0^fv 1^ae)^ae)))
  (af (aT (kh (fv 2) T.gI.cl (EI T) hr (aA (fv 0) rfl^ae)))
  (af (É 3 Ah.nd (aA (fv 2) rfl))
  (af (bW (fv 3) (au (JS T) hr (fv 0^aA (fv 2) rfl^ae)) rfl)
  (aj (aD (fv 3))))))),?_⟩
 refine ah λM1 K1=>{N,X,.ref a,hs,ms,g,gi,gf,rfl,s0,pg,Di,ho,hg,gb,j,G,?_};rcases gs with⟨ej,q⟩|bad
 ·refine OZ {ej,λc H1 s1 c0 C s ds' hs1 ç Ű=>?_};have sm:ak H1 (upd (upd H1 ds' (.own s)) s (.ins A.Run ds' [])):=Ý.same (Ý.refl _ _) hs1 ç;refine{N,X,.ref a,hs,ms,s,ds',c,rfl,ao,(s0.trans s1).trans sm,pg,λd b db l sd t e H2 b2 nb nl nt Ķ ų Ų ht2 tl=>{rfl,K1 _ _ ?_}};clear K1 M1;have þ:ak H1 H2:=Ý.same b2 hs1 ç;have s2:ak H H2:=s1.trans þ;have sX2:=s0.trans s2;have nn:∀{x:RB},(upd (upd H1 ds' (.own s)) s (.ins A.Run ds' [])) x=YW->H x=YW:=λ{x} h=>ak.free s1 (Fz hs1 ç h);let r:Ra:=⟨s,ds',d,b,db,c,l,sd,t,e⟩
  have R:qZ A N H2 r hs []:={Ķ,⟨0,ų⟩,{[],Ų,OW _},{[],ht2,.nil},C.same þ,tl};have nX:∀m∈rM r,X m=YW:=λm hm=>by
   simp only[rM,O4,Pw,or_false]at hm;rcases hm with rfl|rfl|rfl
   ·exact ak.free s0 (nn nb)
   ·exact ak.free s0 (nn nl)
   exact ak.free s0 (nn nt)
  have nH:∀m∈rM r,H m=YW:=λm hm=>by
   simp only[rM,O4,Pw,or_false]at hm;rcases hm with rfl|rfl|rfl
   ·exact nn nb
   ·exact nn nl
   exact nn nt
  rfl'
  refine ah λM1 K1=>{s,ds',_,rfl,Ķ,rfl,Ê (sX2 _ _ ha) T.bu.cl T.eE rfl {N,X,r,hs,n2,x2,ms,rfl,R,Di,sX2,e2,p2,hm,lm,nX,λH3 m3 R3=>?_}};obtain⟨st,hb3⟩:=R3.hb;obtain⟨ys,ht3,tt⟩:=R3.ht;have s3:ak H H3:=m3.same s2 nH;refine K1 _ _ ?_;clear K1 M1;rfl'
  refine ah λM1 K1=>Ê R3.rs T.gI.cl T.h8 rfl (K1 _ _ ?_);clear K1 M1;rfl'
  refine ah λM1 K1=>Ê R3.rs T.gI.cl T.jk rfl {N,X,.ref a,hs,ms,c,rfl,s0.trans s3,pg,Di,ho,R3.cw,λe' H4 s4=>{b,_,db,_,rfl,s4 _ _ hb3,T.da.cl,T.mH,by simp,K1 _ _ ?_}};clear K1 M1;have kp:∀{z:RB}{o:HO}{u:HO},H4 z=YV o->(∀fs,o≠ .ins A.bL db fs)->(upd H4 b u) z=YV o:=λ{z o u} e n=>aF (λw=>by rw[w,s4 _ _ hb3]at e;cases e;exact n _ rfl) e;refine q b _ (ak.out (s3.trans s4) (nn nb) _) {db,_,t,ys,ao,rfl,kp (s4 _ _ ht3) (λ_ z=>by cases z),Paired.gR tt λ_ _ h=>h.elim λp h=>h.elim λa h=>h.elim λb h=>{p,a,b,h.1,kp (s4 _ _ h.2) (λ_ z=>by cases z)}}
 exact Py bad
inductive ES(vs:List V)(H:Hp)(Q:VK)(Ã:XK):Prop
 |mk(a:Int):vs=[.int a]->Q (.int ((TM a:Int)-1)) H->ES vs H Q Ã
theorem MU(T:Txt K mg A):T.top.Hz P w base 1 ES:=by
 refine T.top.hs LY (λf Â A' outer s H vs Q E' hr hu h=>?_);obtain⟨a,rfl,q⟩:=h;exact{_,(aj (aD (aE uT (xE (fv 0)) ag))),⟨rfl,a,rfl,rfl,q⟩}
def Ol(b r:Int):Bool:=decide ((TM b:Int)-1<=r)
inductive CA(vs:List V)(H:Hp)(Q:VK)(Ã:XK):Prop
 |mk(a b:Int):vs=[.int a,.int b]->Q (.bl (Ol a b)) H->CA vs H Q Ã
theorem LI(T:Txt K mg A):T.fits.Hz P w base 2 CA:=by
 refine T.fits.hs (k:=1) HJ (λf Â A' outer s H vs Q E' hr hu h=>?_);obtain⟨a,b,rfl,q⟩:=h;exact{_,(aj (aD (pec DE (au (MU T) hr (fv 0^ae)) (fv 1)))),⟨a,rfl,q⟩}
def Lfs(ms:List Pt):Prop:=∀p∈ms,∃n l,p=.leaf n l
theorem BV:∀(ms:List Pt),Lfs ms->cD YW YW ms=ms.map λp=>(p,YW,YW)
 | [],_=>by rw[cD];rfl
 |p::ms,h=>by
  obtain⟨n,l,rfl⟩:=h p OX;rw[cD,lK,BV ms λq m=>h q (O2 _ m)];rfl
theorem zU{ms:List Pt}(h:Lfs ms):dJ N [] ms=ms.map λp=>(p,YW,YW):=by
 unfold dJ E6;rw[XG,Qn];exact BV ms h
def Ģ(ms:List Pt):List (Key×V):=sk (zk ((ms.map Pt.no).map Qu)) λ_=>.Ä
theorem HC(ms:List Pt):(Ģ ms).length<=ms.length:=by
 unfold Ģ;rw[Ac];have:=DP ((ms.map Pt.no).map Qu);rw[OU,OU]at this;exact this
theorem Er{H:Hp}:∀{es:List Le}{ys:List V},Paired (λ(e:Le) y=>∃t,y=V.ref t/\H t=YV (.tup [.int e.1.no,.Ä])) es ys->∃(ps:List RB)(kvs:List (Key×V)),ys=ps.map V.ref/\kvs=sk ((es.map λe=>e.1.no).map Qu) (λ_=>V.Ä)/\kvs.length=ps.length/\ps.length=es.length/\∀(i:Nat) t k v,ps[i]?=YV t->kvs[i]?=YV (k,v)->H t=YV (.tup [kV k,v])
 |_,_,.nil=>{[],[],rfl,rfl,rfl,rfl,λi t k v h=>by cases h}
 |e::es,_,.cons ⟨t,e1,h1⟩ r=>by
  obtain⟨ps,kvs,rfl,hk,l0,l,h⟩:=Er r;subst e1;refine{t::ps,(.inl e.1.no,.Ä)::kvs,rfl,by rw[hk];rfl,by rw[Pf,Pf,l0],by rw[Pf,Pf,l],λi t' k v ĝ ϕ=>?_};cases i with
  |zero=>
   cases ĝ;cases ϕ;exact h1
  |succ i=>exact h i t' k v ĝ ϕ
inductive ya(A:Ï)(vs:List V)(H:Hp)(Q:VK)(Ã:XK):Prop
 |mk(N:Nat->Str)(X:Hp)(v:V)(hs ms:List Pt):vs=[v]->ak X H->ka A N X v hs [] ms->Ok N 0 hs [] ms->Lfs ms->(∀D H',ak H H'->H D=YW->H' D=YV (.dK (Ģ ms))->Q (.ref D) H')->ya A vs H Q Ã
theorem GA(T:Txt K mg A):T.under.Hz P w base 5 (ya A):=by
 refine T.under.hs (k:=4) EJ (λf Â A' outer s' H vs Q E' hr hu h=>?_);obtain⟨N,X,v,hs,ms,rfl,s0,pg,ok,lf,q⟩:=h;refine{_,(aj (aD (Ď ni T.iW ((dD (N:=["row","place","loop"]) (own:=3) (fr:=[]) (bI.of (by kernel_rfl!)) rfl (aW (au (hj:=by lia) (rO T 0) hr (fv 0^ae))) (λb=>kR rfl (bj (Ò (i:=0) (show R9 (["row","place","loop"]:List Sl) by decide+kernel) rfl) (bj (Ò (i:=1) (show R9 (["row","place","loop"]:List Sl) by decide+kernel) rfl) (bj (Ò (i:=2) (show R9 (["row","place","loop"]:List Sl) by decide+kernel) rfl) gU)))) (λb=>iR) (λb=>aQ (aA (fv 0) rfl^fv 1^ae)))^ae)))),{N,X,v,hs,[],ms,rfl,s0,pg,ok,λL ys H1 s1 hL eL pr=>?_}};have ll:=zU (N:=N) lf;have lnn:=ok.ln;rw[ll]at pr lnn;have ln:=RN pr;refine OZ {{_,À.of eL},cI (K:=K) (own:=3) (ms.map λp=>((p,YW,YW):Le)) (λ_=>true) (λe y H=>∃t,y=V.ref t/\H t=YV (.tup [.int e.1.no,.Ä])) (À.of eL) ln.symm (aG ()) ?_ ?_ ?_ ?_}
 ·intro b i x e v0 H3 Nn Y hx he hv s3 no yes;obtain⟨u0,u1,u2,rfl⟩:∃u0 u1 u2,v0=[u0,u1,u2]:=by
   match v0,hv with
   | [u,v,w],_=>exact⟨u,v,w,rfl⟩
  obtain⟨e',ő,tp,u,rfl,ļ,pa⟩:=cx pr hx;rw[he]at ő;cases ő;rw[O7]at he;cases hp:ms[i]? with
  |none=>rw[hp]at he;cases he
  |some p=>
  rw[hp]at he;cases he;exact{tp,_,rfl,Æ.of (s3 _ _ ļ),rfl,_,_,rfl,_,_,rfl,_,_,rfl,rfl,dN T ((s0.trans s1).trans s3) pa {by show 2<=sizeLine;decide,λt ht=>yes rfl [YV u,YV .Ä,YV .Ä] _ _ rfl (ak.upd ht _) ⟨t,rfl,ao⟩}}
 ·rintro e y H2 H3 s ⟨t,e1,e2⟩;exact{t,e1,s _ _ e2}
 ·rintro e y H2 D ys zs hD ⟨t,e1,e2⟩;exact{t,e1,aF (λz=>by rw[z,hD]at e2;cases e2) e2}
 intro L2' H2 zs hL2 s2 eL2 pz;rw[d9]at pz;obtain⟨ps,kvs,rfl,hk,k0,k1,k2⟩:=Er pz;rw[OU]at k1 lnn;refine{L2',ps,kvs,rfl,À.of eL2,(),(),λi t k v ht hk=>Æ.of (k2 i t k v ht hk),λDA hDA=>?_};have em:bf [] kvs=Ģ ms:=by
  rw[hk,show((ms.map λp=>((p,YW,YW):Le)).map λe=>e.1.no)=ms.map Pt.no by rw[P6];rfl];exact xU _ _ []
 rw[em];exact q DA _ (s1.trans (s2.trans (ak.upd hDA _))) (ak.free (s1.trans s2) hDA) ao
def Ms(H:Hp)(C:RB)(ms:List Pt):Prop:=∃kvs,H C=YV (.dK kvs)/\∀p∈ms,L2.bx kvs (.inl p.no)=YV (.bl true)
inductive vW(A:Ï)(vs:List V)(H:Hp)(Q:VK)(Ã:XK):Prop
 |mk(N:Nat->Str)(X:Hp)(v:V)(r:Int)(hs ms:List Pt):vs=[v,.int r]->ak X H->ka A N X v hs [] ms->OkT N 0 hs [] ms->Lfs ms->ms.length<=40->(∀C H',ak H H'->Ms H' C ms->Q (.ref C) H')->vW A vs H Q Ã
theorem EB(T:Txt K mg A):T.mQ.Hz P w base 13 (vW A):=by
 refine T.mQ.hs (k:=12) dq (λf Â A' outer s' H vs Q E' hr hu h=>?_);obtain⟨N,X,v,r,hs,ms,rfl,s0,pg,O,lf,ml,q⟩:=h;refine⟨_,(af (É 2 dq.nd (DY (hj:=by lia) (GD T 0) hr (fv 0^ae)))
  (af (É 3 dq.nd (dW))
  (af (bc RO rfl (Gd (au (hj:=by lia) (GA T) hr (fv 0^ae))) (kR rfl (bj (Ò (i:=4) dq.nd rfl) (bj (Ò (i:=5) dq.nd rfl) gU)))
   (aj (cE (B4 (pec zW (fv 5) bU) (wR (au (hj:=by lia) (LI T) hr (px hu (fv 2) (fv 5)^fv 1^ae)))) (cF (fv 3) (fv 4) (sC hu)))))
  (aj (aD (fv 3)))))),?_⟩
 refine ah λM1 K1=>{N,X,v,false,hs,[],ms,rfl,s0,pg,O,λÔ H1 s1 hB eB=>K1 _ _ ?_};clear K1 M1;rfl'
 refine ah λM1 K1 C hC=>?_;obtain⟨s2,eC⟩:=Ð hC (HO.dK []);generalize upd H1 C _=H2 at s2 eC⊢;have C0:H C=YW:=ak.free s1 hC;have t2:=s1.trans s2;refine K1 _ _ ?_;clear K1 M1;rfl'
 refine ah λM1 K1=>{N,X,v,hs,ms,rfl,s0.trans t2,pg,O.l.ok,lf,λD H3 s3 hD eD=>{D,Ģ ms,rfl,eD,λo=>?_}};have DC:D≠C:=YX hD eC;have D0:H D=YW:=ak.free t2 hD;have kl:=HC ms;have fz:ak H (upd H3 D (.ß o (.dK (Ģ ms)))):=ak.out (t2.trans s3) D0 _;have eC3:(upd H3 D (.ß o (.dK (Ģ ms)))) C=YV (.dK []):=aF (Pm DC) (s3 _ _ eC);have eD3:(upd H3 D (.ß o (.dK (Ģ ms)))) D=YV (.ß o (.dK (Ģ ms))):=ao;generalize upd H3 D (.ß o (.dK (Ģ ms)))=H4 at fz eC3 eD3⊢;clear eC eD s3;refine C3 (d:=D) (o:=o) (kvs:=Ģ ms) (λi B Hc=>∃(v4 v5:Option V)(kvs:List (Key×V)),B=[YV v,YV (.int r),YV (.ref Ô),YV (.ref C),v4,v5]/\ak H Hc/\Hc D=YV (.ß o (.dK (Ģ ms)))/\Hc C=YV (.dK kvs)/\kvs.length<=i/\∀k∈((Ģ ms).take i).map (·.1),L2.bx kvs k=YV (.bl true)) {YW,YW,[],rfl,fz,eD3,eC3,OW _,λk m=>by rw[QL]at m;cases m} (λi B Hc _ ⟨_,_,_,_,_,z,_⟩=>z) ?_ ?_
 ·rintro i k y B Hc Tp hk ⟨v4,v5,kvs,rfl,sc,Ŷ,eCc,lk,hv⟩ hT;have il:i<(Ģ ms).length:=(O8.mp hk).1;obtain⟨n,rfl,rfl⟩:∃n,k=Qu n/\y=.Ä:=by
   have m:=OY hk;unfold Ģ sk at m;obtain⟨k',mk,e⟩:=Pj.mp m;cases e;obtain⟨n,_,rfl⟩:=Pj.mp (zp.mp mk);exact⟨n,rfl,rfl⟩
  have sT:=ak.upd hT (HO.tup [kV (Qu n),.Ä]);have eT:(upd Hc Tp (HO.tup [kV (Qu n),.Ä])) Tp=YV (.tup [.int n,.Ä]):=ao;generalize upd Hc Tp _=H5 at sT eT⊢;rfl'
  refine{Tp,_,rfl,Æ.of eT,rfl,_,_,rfl,_,_,rfl,rfl,{rfl,true,congrArg V.bl (decide_eq_true rfl),?_}};have tD:=aF (o:=HO.ß o (.dK (Ģ ms))) (H:=H5) (a:=D) (x:=C) (u:=.dK (Y2 kvs (.inl n) (.bl true))) DC (sT _ _ Ŷ);refine{C,_,rfl,gQ.k (k:=.inl n) (sT _ _ eCc) (aG ()),?_};have l9:=ux kvs (.inl n) (.bl true);refine{_,_,_,rfl,ak.out (sc.trans sT) C0 _,tD,ao,(),λk m=>?_};rw[yi];by_cases e:k=.inl n
  ·rw[if_pos e]
  rw[if_neg e];refine hv k ?_;rw[PB,hk,PM]at m;rcases Pa.mp m with m|m
  ·exact m
  exact absurd (OT.mp m) e
 rintro B Hc ⟨v4,v5,kvs,rfl,sc,Ŷ,eCc,lk,hv⟩;rw[Pk]at hv;refine K1 _ _ (q C Hc sc {kvs,eCc,λp m=>hv _ ?_});unfold Ģ sk;rw[P6];exact Pj.mpr {.inl p.no,zp.mpr (PD (PD m)),rfl}
theorem BX{H:Hp}:∀ns:List Int,kP K H (ns.map V.int) (ns.map Uw)
 | []=>.nil
 |n::ns=>.cons (.int _) (BX ns)
theorem Br:∀ns:List Int,Vd (ns.map Uw)=true/\VP (ns.map Uw)=0
 | []=>⟨rfl,rfl⟩
 |n::ns=>by
  obtain⟨h1,h2⟩:=Br ns;constructor
  ·simp[Vd,Wb,h1]
  simp[VP,Xp,h2]
theorem zG(ns:List Int):Sa (.list (ns.map Uw))=true:=by
 obtain⟨h1,h2⟩:=Br ns;simp[Sa,Wb,Xp,h1,h2]
inductive yc(A:Ï)(vs:List V)(H:Hp)(Q:VK)(Ã:XK):Prop
 |mk(N:Nat->Str)(X:Hp)(v:V)(hs ms:List Pt):vs=[v]->ak X H->ka A N X v hs [] ms->xp hs->(∀D H',ak H H'->Q (.ref D) H')->yc A vs H Q Ã
theorem Hm(T:Txt K mg A):T.ow.Hz P w base 1 (yc A):=by
 refine T.ow.hs (k:=0) jY (λf Â A' outer s' H vs Q E' hr hu h=>?_);obtain⟨N,X,v,hs,ms,rfl,s0,⟨a,dx,n0,n1,n2,x0,x1,x2,rfl,ha,e0,e1,e2,p0,p1,p2⟩,ho,q⟩:=h;refine⟨_,(af (É 1 jY.nd (dW))
  (af (bc RO rfl (aW (aA (fv 0) rfl)) (Ò (i:=2) jY.nd rfl)
   (aj (aN (PW.pt (pw_or (aO (Ó aI T.av (fv 2^aL T.d7.mg^ae)) (λ_=>rfl)) (pw_or1 (aO (Ó aI T.av (fv 2^aL T.cG.mg^ae)) (λ_=>rfl)))))
    (aj (cE (aA (fv 2) rfl) (cF (fv 1) (aA (fv 2) rfl) (cU hu YZ))))
    aH)))
  (aj (aD (fv 1))))),?_⟩
 refine ah λM1 K1 D hD=>?_;obtain⟨s1,eD⟩:=Ð hD (HO.dK []);generalize upd H D _=H1 at s1 eD⊢;refine K1 _ _ ?_;clear K1 M1;rfl'
 refine ah λM1 K1=>?_;have hl:=ho.ln;have lx:=p0.len;refine Ê ((s0.trans s1) _ _ ha) T.bu.cl T.bG rfl (OZ {{_,À.of ((s0.trans s1) _ _ e0)},a9 (K:=K) (xs:=x0) (λi B Hc=>∃(v2:Option V)(kvs:List (Key×V)),B=[YV (.ref a),YV (.ref D),v2]/\ak H Hc/\Hc D=YV (.dK kvs)/\kvs.length<=i) {YW,[],rfl,s1,eD,OW _} (λi B Hc _ ⟨_,_,_,z,_⟩=>À.of ((s0.trans z) _ _ e0)) ?_ ?_})
 ·rintro i y B Hc hy ⟨v2,kvs,rfl,sc,Ŷ,lk⟩;obtain⟨p,hp,pa⟩:=p0.get hy;have il:i<hs.length:=(O8.mp hp).1;have sX:=s0.trans sc;have ú:=pa;cases ho.hd p (OY hp)with
  |Ç n k r zz hk hz=>exact cH T sX pa (j:=1) (by simp[Pt.ci,Lr.ci]) (aV (cH T sX pa (j:=4) (by simp[Pt.ci,Lr.ci]) (aV {_,kvs,rfl,sc,Ŷ,()})))
  |own n k zz hk hz=>exact cH T sX pa (j:=1) (by simp[Pt.ci,Lr.ci]) (aV (cH T sX pa (j:=4) (by simp[Pt.ci,Lr.ci]) (aV {_,kvs,rfl,sc,Ŷ,()})))
  |hand n k r hk=>
   unfold aS at ú;obtain⟨b,ϗ,_,rfl,h1,_⟩:=ú;refine fW T sX pa (j:=1) rfl (bK ?_);have l9:=ux kvs (.inr (N k)) (.int r);exact Ê (sX _ _ h1) T.d7.cl T.iZ rfl (Ê (sX _ _ h1) T.d7.cl T.ic rfl {_,gQ.k (k:=.inr (N k)) Ŷ (aG ()),{_,_,rfl,ak.out sc hD _,ao,()}})
  |lt n k r hk=>
   unfold aS at ú;obtain⟨b,ϗ,_,rfl,h1,_⟩:=ú;refine cH T sX pa (j:=1) (by simp[Pt.ci,Lr.ci]) (aV (fW T sX pa (j:=4) rfl (bK ?_)));have l9:=ux kvs (.inr (N k)) (.int r);exact Ê (sX _ _ h1) T.cG.cl T.fR rfl (Ê (sX _ _ h1) T.cG.cl T.dS rfl {_,gQ.k (k:=.inr (N k)) Ŷ (aG ()),{_,_,rfl,ak.out sc hD _,ao,()}})
 rintro B Hc ⟨v2,kvs,rfl,sc,Ŷ,lk⟩;exact K1 _ _ (q D Hc sc)
inductive uv(A:Ï)(vs:List V)(H:Hp)(Q:VK)(Ã:XK):Prop
 |mk(N:Nat->Str)(X:Hp)(v:V)(r:Int)(hs ms:List Pt):vs=[v,.int r]->ak X H->ka A N X v hs [] ms->Ok N 0 hs [] ms->xp hs->(∀p∈ms,p.ci=7)->Lfs ms->(∀R H',ak H H'->H' R=YV (.lst [])->Q (.ref R) H')->uv A vs H Q Ã
theorem CD(T:Txt K mg A):T.kz.Hz P w base 5 (uv A):=by
 refine T.kz.hs (k:=4) cu (λf Â A' outer s' H vs Q E' hr hu h=>?_);obtain⟨N,X,v,r,hs,ms,rfl,s0,pg,ok,ho,c7,lf,q⟩:=h;refine⟨_,(af (É 2 cu.nd (au (hj:=by lia) (Hm T) hr (fv 0^ae)))
  (af (É 3 cu.nd (aP ae))
  (af (bc RO rfl (aW (au (hj:=by lia) (rO T 0) hr (fv 0^ae))) (kR rfl (bj (Ò (i:=4) cu.nd rfl) (bj (Ò (i:=5) cu.nd rfl) (bj (Ò (i:=6) cu.nd rfl) gU))))
   (aj (aN (PW.pt (pw_and (aO (Ó aI T.av (fv 4^aL T.bS.mg^ae)) (λ_=>rfl)) (pw_and1 (Ö DE (px hu (fv 2) (aA (fv 4) rfl)) (fv 1)))))
    (aj (aT (bP (fv 3) (aA (fv 4) rfl^ae))))
    aH)))
  (aj (aD (fv 3)))))),?_⟩
 refine ah λM1 K1=>{N,X,v,hs,ms,rfl,s0,pg,ho,λD H1 s1=>K1 _ _ ?_};clear K1 M1;rfl'
 refine ah λM1 K1=>{Pc _,λR hR=>?_};obtain⟨s2,eR⟩:=Ð hR (HO.lst []);generalize upd H1 R _=H2 at s2 eR⊢;refine K1 _ _ ?_;clear K1 M1;rfl'
 refine ah λM1 K1=>{N,X,v,hs,[],ms,rfl,s0.trans (s1.trans s2),pg,ok,λL ys H3 s3 hL eL pr=>?_};rw[zU lf]at pr;refine OZ {{_,À.of eL},a9 (K:=K) (xs:=ys) (λi B Hc=>∃v4 v5 v6:Option V,B=[YV v,YV (.int r),YV (.ref D),YV (.ref R),v4,v5,v6]/\ak H3 Hc) {YW,YW,YW,rfl,ak.refl _} (λi B Hc _ ⟨_,_,_,_,z⟩=>À.of (z _ _ eL)) ?_ ?_}
 ·rintro i y B Hc hy ⟨v4,v5,v6,rfl,sc⟩;obtain⟨e,he,tp,u,rfl,ļ,pa⟩:=cx pr hy;rw[O7]at he;cases hp:ms[i]? with
  |none=>rw[hp]at he;cases he
  |some p=>
  rw[hp]at he;cases he;have c8:p.ci≠8:=by rw[c7 p (OY hp)];decide
  have pa:aS A N X u p:=pa;rfl'
  exact{tp,_,rfl,Æ.of (sc _ _ ļ),rfl,_,_,rfl,_,_,rfl,_,_,rfl,rfl,cH T ((s0.trans (s1.trans s2)).trans (s3.trans sc)) pa (j:=8) c8 (aV {_,_,_,rfl,sc})}
 rintro B Hc ⟨v4,v5,v6,rfl,sc⟩;exact K1 _ _ (q R Hc ((s1.trans s2).trans (s3.trans sc)) (sc _ _ (s3 _ _ eR)))
def ϙ:Cl->V3
 | .num n=>.int n
 | .lst rs=>.list (rs.map Uw)
theorem yb:∀as bs:List Int,TC (as.map Uw) (bs.map Uw)=decide (as=bs)
 | [],[]=>by simp[TC]
 | [],b::bs=>by simp[TC]
 |a::as,[]=>by simp[TC]
 |a::as,b::bs=>by
  have h:=yb as bs;rw[Qd]at h⊢;simp[TC,SY,h]
theorem Ef{z:Nat}{c d:Cl}(hc:c.fits z)(hd:d.fits z):SY (ϙ c) (ϙ d)=true↔c=d:=by
 cases c with
 |num a=>
  cases d with
  |num b=>simp[ϙ,SY]
  |lst bs=>
   obtain⟨h,_⟩:=hc;obtain⟨_,h2,_⟩:=hd;lia
 |lst as=>
  cases d with
  |num b=>
   obtain⟨_,h2,_⟩:=hc;obtain⟨h,_⟩:=hd;lia
  |lst bs=>
   simp only[ϙ,SY];rw[yb as bs];simp
theorem Ec{H:Hp}{v:V}{c:Cl}(h:df H v c):ja K H v (ϙ c):=by
 cases c with
 |num n=>
  rw[show v=.int n from h];exact .int n
 |lst rs=>
  obtain⟨a,rfl,e⟩:=h;exact .lst (À.of e) (BX rs)
theorem vQ(c:Cl):Sa (ϙ c)=true:=by
 cases c with
 |num n=>rfl
 |lst rs=>exact zG rs
def đ(H:Hp)(r:Int)(gi:List Nat)(gf:Nat->V)(ji:List Nat)(jf:Nat->V)(b:Bool):Pt->Prop
 | .leaf _ (.Ç i rk z)=>if b=true then(rk<=r->∃c,df H (look gi gf i) c/\df H (look ji jf i) c/\c.fits z.toNat)else rk<=r/\∃c d,df H (look gi gf i) c/\df H (look ji jf i) d/\c.fits z.toNat/\d.fits z.toNat/\c≠d
 |_=>b=true
theorem Ck{H:Hp}{gi:List Nat}{gf:Nat->V}{i:Nat}{c:Cl}(h:df H (look gi gf i) c):i∈gi/\df H (gf i) c:=by
 unfold look at h;by_cases m:i∈gi
 ·rw[if_pos m]at h;exact⟨m,h⟩
 rw[if_neg m]at h;cases c with
 |num n=>cases h
 |lst rs=>obtain⟨a,e,_⟩:=h;cases e
inductive vJ(A:Ï)(vs:List V)(H:Hp)(Q:VK)(Ã:XK):Prop
 |mk(N:Nat->Str)(X:Hp)(v:V)(r:Int)(hs ms:List Pt)(g j:RB)(gi:List Nat)(gf:Nat->V)(ji:List Nat)(jf:Nat->V)(z0:vs=[v,.int r,.ref g,.ref j])(z1:ak X H)(z2:ka A N X v hs [] ms)(z3:dO N)(z4:xp hs)(z5:H g=YV (.dK (dk N gi gf)))(z6:∀i∈gi,i<25)(z7:H j=YV (.dK (dk N ji jf)))(z8:∀i∈ji,i<25)
  (k:Nat) (z9:∀p∈hs.take k,đ H r gi gf ji jf true p) (z10:(k=hs.length/\Q .Ä H)\/∃p,hs[k]?=YV p/\đ H r gi gf ji jf false p/\Q (.str (N (î p))) H):vJ A vs H Q Ã
theorem Fs(T:Txt K mg A):T.kI.Hz P w base 1 (vJ A):=by
 refine T.kI.hs (k:=0) k8 (λf Â A' outer s' H vs Q E' hr hu h=>?_);obtain⟨N,X,v,r,hs,ms,g,j,gi,gf,ji,jf,rfl,s0,⟨a,dx,n0,n1,n2,x0,x1,x2,rfl,ha,e0,e1,e2,p0,p1,p2⟩,Di,ho,eg,gb,ej,jb,k,G,q⟩:=h;refine⟨_,(af (bc RO rfl (aW (aA (fv 0) rfl)) (Ò (i:=4) k8.nd rfl)
   (aj (aN (PW.pt (pw_and (aO (Ó aI T.av (fv 4^aL T.aR.mg^ae)) (λ_=>rfl)) (pw_and (Ö DE (aA (fv 4) rfl) (fv 1)) (pw_and1 (Ö (E2 hu) (px hu (fv 2) (aA (fv 4) rfl)) (px hu (fv 3) (aA (fv 4) rfl)))))))
    (aj (aD (aA (fv 4) rfl)))
    aH)))
  (aj (aD bU))),?_⟩
 refine ah λM1 K1=>Ê (s0 _ _ ha) T.bu.cl T.bG rfl (OZ {{_,À.of (s0 _ _ e0)},a9 (K:=K) (xs:=x0) (λi B Hc=>∃v4:Option V,B=[YV (.ref a),YV (.int r),YV (.ref g),YV (.ref j),v4]/\Hc=H/\i<=k) {YW,rfl,rfl,Pc _} (λi B Hc _ ⟨_,_,z,_⟩=>À.of (by rw[z];exact s0 _ _ e0)) ?_ ?_})
 ·rintro i y B Hc hy ⟨v4,rfl,rfl,ik⟩;obtain⟨p,hp,pa⟩:=p0.get hy;have mp:p∈hs:=OY hp;have il:i<hs.length:=(O8.mp hp).1;have at':(i+1<=k/\đ Hc r gi gf ji jf true p)\/(đ Hc r gi gf ji jf false p/\Q (.str (N (î p))) Hc):=by
   rcases Ru i k with lt|ge
   ·exact OZ {lt,G _ (OY (i:=i) (by rw[Qx lt];exact hp))}
   have e:k=i:=()
   subst e;rcases q with⟨q,_⟩|⟨p',q,b,rf⟩
   ·lia
   rw[hp]at q;cases q;exact Py ⟨b,rf⟩
  have nj:đ Hc r gi gf ji jf true p->¬ đ Hc r gi gf ji jf false p->i+1<=k:=λ_ Ű=>at'.elim (·.1) λh=>absurd h.1 Ű;have ú:=pa;rfl'
  cases ho.hd p mp with
  |Ç n i' rk zz hk hz=>
   unfold aS at ú;obtain⟨b,ϗ,_,rfl,h1,_⟩:=ú;refine fW T s0 pa (j:=2) rfl (bK (Ê (s0 _ _ h1) T.aR.cl T.dZ rfl ?_));have both:∀c d:Cl,df Hc (look gi gf i') c->df Hc (look ji jf i') d->c.fits zz->d.fits zz->∀{R:Bool->Hp->Prop},R (!PyData.eqv (ϙ c) (ϙ d)) Hc->lN K "name" (.ref b) Hc λy H1=>HK K (.ref g) y H1 λv2 H2=>lN K "name" (.ref b) H2 λy H3=>HK K (.ref j) y H3 λv3 H4=>∃d e,ja K H4 v2 d/\ja K H4 v3 e/\Sa d=true/\Sa e=true/\blI (.bl (!PyData.eqv d e)) H4 R:=λc d hc hd fc fd R k=>by
    obtain⟨m1,c1⟩:=Ck hc;obtain⟨m2,c2⟩:=Ck hd;have gv1:L2.bx (dk N gi gf) (.inr (N i'))=YV (gf i'):=jA Di gb m1;have gv2:L2.bx (dk N ji jf) (.inr (N i'))=YV (jf i'):=jA Di jb m2;exact Ê (s0 _ _ h1) T.aR.cl T.ba rfl (Ŀ eg gv1 (Ê (s0 _ _ h1) T.aR.cl T.ba rfl (Ŀ ej gv2 {ϙ c,ϙ d,Ec c1,Ec c2,vQ _,vQ _,{_,rfl,k}})))
   refine{_,rfl,bh (λc=>?_) (λc=>?_)}
   ·have hr:=of_decide_eq_true c;rcases at' with⟨lt,ge⟩|⟨⟨_,c,d,c1,c2,f1,f2,ne⟩,qq⟩
    ·obtain⟨c,c1,c2,f1⟩:=ge hr;refine both c c c1 c2 f1 f1 ?_;rw[(Ef f1 f1).mpr rfl];exact aV {_,rfl,rfl,lt}
    refine both c d c1 c2 f1 f2 ?_;rw[QJ.mpr λz=>ne ((Ef f1 f2).mp z)];exact bK (Ê (s0 _ _ h1) T.aR.cl T.ba rfl qq)
   rcases at' with⟨lt,_⟩|⟨⟨hr,_⟩,_⟩
   ·exact{_,rfl,rfl,lt}
   exact absurd (decide_eq_true hr) c
  |own n k' zz hk hz=>exact cH T s0 pa (j:=2) (by simp[Pt.ci,Lr.ci]) (aV {_,rfl,rfl,nj rfl (λz=>by cases z)})
  |hand n k' r' hk=>exact cH T s0 pa (j:=2) (by simp[Pt.ci,Lr.ci]) (aV {_,rfl,rfl,nj rfl (λz=>by cases z)})
  |lt n k' r' hk=>exact cH T s0 pa (j:=2) (by simp[Pt.ci,Lr.ci]) (aV {_,rfl,rfl,nj rfl (λz=>by cases z)})
 rintro B Hc ⟨v4,rfl,rfl,ik⟩;refine K1 _ _ ?_;rcases q with⟨_,q⟩|⟨p,hp,_⟩
 ·exact q
 have:=(O8.mp hp).1;rw[p0.len]at ik;lia
theorem dgn{H:Hp}{D:RB}{kvs:List (Key×V)}{n:Int}{v:V}{Q:VK}(h:H D=YV (.dK kvs))(e:L2.bx kvs (.inl n)=YV v)(q:Q v H):dgI D (.int n) H Q:={v,e▸lH.k (k:=.inl n) h,q}
structure uD(H:Hp)(t:RB)(ys:List V)(nums:List Int):Prop where
 e:H t=YV (.lst ys)
 p:Paired (Υ H) nums ys
theorem Υ.same{H H':Hp}{n:Int}{y:V}(s:ak H H')(h:Υ H n y):Υ H' n y:=by
 obtain⟨p,a,b,e,h⟩:=h;exact{p,a,b,e,s _ _ h}
theorem uD.same{H H':Hp}{t:RB}{ys:List V}{nums:List Int}(s:ak H H')(h:uD H t ys nums):uD H' t ys nums:={s _ _ h.e,Paired.gR h.p λ_ _=>Υ.same s}
theorem uD.at{H:Hp}{t:RB}{ys:List V}{nums:List Int}(h:uD H t ys nums){i:Nat}(hi:i<nums.length):∃n p a b,nums[i]?=YV n/\ô ys (i:Int)=YV (.ref p)/\H p=YV (.tup [.int n,a,b]):=by
 have hn:=OV hi;obtain⟨y,hy,p,a,b,rfl,hp⟩:=bR h.p hn;exact{nums[i],p,a,b,hn,dY hy,hp}
def Ga(H:Hp)(C:RB)(nums:List Int):Prop:=∃kvs,H C=YV (.dK kvs)/\∀n∈nums,L2.bx kvs (.inl n)=YV (.bl true)
theorem Ga.same{H H':Hp}{C:RB}{nums:List Int}(s:ak H H')(h:Ga H C nums):Ga H' C nums:=by
 obtain⟨kvs,e,h⟩:=h;exact{kvs,s _ _ e,h}
inductive BR(vs:List V)(H:Hp)(Q:VK)(Ã:XK):Prop
 |mk(t C:RB)(i:Nat)(ys:List V)(nums:List Int):vs=[.ref t,.int i,.ref C]->uD H t ys nums->Ga H C nums->i<=nums.length->Q (.int i) H->BR vs H Q Ã
theorem Ex(T:Txt K mg A):T.mX.Hz P w base 1 BR:=by
 refine T.mX.hs (k:=0) mr (λf Â A' outer s' H vs Q E' hr hu h=>?_);obtain⟨t,C,i,ys,nums,rfl,tr,⟨kvs,eC,hC⟩,hi,q⟩:=h;have ly:=RN tr.p;refine⟨_,(af (tV RO (PW.pt (pw_and (Ö GK (fv 1) (Ó eZ T.fY (fv 0^ae))) (pw_and1 (wq (aO (px hu (fv 2) (px hu (px hu (fv 0) (fv 1)) ag)) (λ_=>rfl))))))
   (aj (zI (i:=1) mr.nd rfl (by first|exact OZ rfl|exact Py rfl) ag Am)))
  (aj (aD (fv 1)))),?_⟩
 refine ah λM1 K1=>{λ_ B' H'=>B'=[YV (.ref t),YV (.int i),YV (.ref C)]/\H'=H,⟨0,rfl,rfl⟩,?_};rintro m B' H' ⟨rfl,rfl⟩;refine Ŭ tr.e {_,rfl,bh (λc=>?_) (λc=>?_)}
 ·have lt:i<nums.length:=by have:=of_decide_eq_true c;lia
  obtain⟨n,p,a,b,hn,Ŵ,hp⟩:=tr.at lt;exact Ì (À.of tr.e) Ŵ (Ø (j:=0) (Æ.of hp) rfl (Py (dgn eC (hC n (OY hn)) {true,rfl,K1 _ _ q})))
 exact K1 _ _ q
inductive xH(vs:List V)(H:Hp)(Q:VK)(Ã:XK):Prop
 |mk(L:RB)(x:Str):vs=[.str x,.ref L]->H L=YV (.lst [])->(∀D H',ak H H'->H' D=YV (.lst [])->Q (.ref D) H')->xH vs H Q Ã
theorem A4(T:Txt K mg A):T.ur.Hz P w base 1 xH:=by
 refine T.ur.hs (k:=0) xO (λf Â A' outer s' H vs Q E' hr hu h=>?_);obtain⟨L,x,rfl,eL,q⟩:=h;refine{_,(aj (aD (dD (N:=["entry","word"]) (own:=1) (fr:=[0]) (bI.of (by kernel_rfl!)) rfl (aW (fv 1)) (λb=>Ò (i:=0) (show R9 (["entry","word"]:List Sl) by decide+kernel) rfl) (λb=>iR) (λb=>aQ (fv 1^px hu (fv 0) ag^ae))))),OZ {{_,À.of eL},cI (K:=K) (own:=1) ([]:List Pt) (λ_=>true) (λ_ _ _=>True) (À.of eL) rfl (by show 0<sizeLine;decide) ?_ ?_ ?_ ?_}}
 ·intro b i x e v0 H3 Nn Y hx;cases hx
 ·exact λ_ _ _ _ _ h=>h
 ·exact λ_ _ _ _ _ _ _ h=>h
 intro D H2 zs hD s2 eD pr;cases pr;exact q D H2 s2 eD
theorem yn{xs:List V}{i:Nat}:lI xs (YV (i:Int)) (YV (i:Int))=[]:=by
 unfold lI;rw[HT.kQ,HT.kQ,Rt,QL]
inductive vc(vs:List V)(H:Hp)(Q:VK)(Ã:XK):Prop
 |mk(t1 t2 C Pg:RB)(ž ϵ:List V)(nums:List Int):vs=[.ref t1,.ref t2,.ref C,.ref Pg]->uD H t1 ž nums->uD H t2 ϵ nums->Ga H C nums->H Pg=YV (.lst [])->nums.length<=40->(∀u a b H',ak H H'->H' u=YV (.tup [a,b])->Q (.ref u) H')->vc vs H Q Ã
theorem FE(T:Txt K mg A):T.walked.Hz P w base 2 vc:=by
 refine T.walked.hs (k:=1) dG (λf Â A' outer s' H vs Q E' hr hu h=>?_);obtain⟨t1,t2,C,Pg,ž,ϵ,nums,rfl,tr1,tr2,cm,eP,ln,q⟩:=h;have l1:=RN tr1.p;have l2:=RN tr2.p;refine⟨_,(af (É 4 dG.nd (aP ae))
  (af (É 5 dG.nd ag)
  (af (É 6 dG.nd ag)
  (aj (tV RO (aO og (λ_=>rfl))
   (af (É 7 dG.nd (au (hj:=by lia) (Ex T) hr (fv 0^fv 5^fv 2^ae)))
   (af (É 8 dG.nd (au (hj:=by lia) (Ex T) hr (fv 1^fv 6^fv 2^ae)))
   (af (aT (er (fv 4) ((aE aX (au (hj:=by lia) (A4 T) hr (aK^eY kC (fv 0) (dj (fv 5)) (dj (fv 7))^ae)) (au (hj:=by lia) (A4 T) hr (aK^eY kC (fv 1) (dj (fv 6)) (dj (fv 8))^ae)))^ae)))
   (af (aN (PW.pt (pw_or (Ö (bY hu) (fv 7) (Ó eZ T.fY (fv 0^ae))) (pw_or1 (Ö (bY hu) (fv 8) (Ó eZ T.fY (fv 1^ae))))))
    (aj (aD (aQ (fv 4^bU^ae))))
    aH)
   (af (É 9 dG.nd (px hu (px hu (fv 0) (fv 7)) ag))
   (af (aT (bP (fv 4) (aQ (aK^fv 9^ae)^ae)))
   (af (aN (PW.pt (pw_and (Ö (I0 hu) (fv 9) (fv 3) ((by with_unfolding_all rfl))) (pw_and1 (Ö (CW hu) (px hu (px hu (fv 0) (fv 7)) ag) (px hu (px hu (fv 1) (fv 8)) ag)))))
    (aj (aD (aQ (fv 4^aQ (fv 9^px hu (px hu (fv 0) (fv 7)) ag^px hu (px hu (fv 1) (fv 8)) ag^ae)^ae))))
    aH)
   (af (É 5 dG.nd (aE aX (fv 7) ag))
   (aj (É 6 dG.nd (aE aX (fv 8) ag)))))))))))))))),?_⟩
 refine ah λM1 K1=>{Pc _,λPl Đ=>?_};obtain⟨s1,e1⟩:=Ð Đ (HO.lst []);generalize upd H Pl _=H1 at s1 e1⊢;refine K1 _ _ ?_;clear K1 M1;rfl'
 refine ah λM1 K1=>K1 _ _ ?_;clear K1 M1;rfl'
 refine ah λM1 K1=>K1 _ _ ?_;clear K1 M1;rfl'
 refine{λm B' H'=>∃(i:Nat)(ps:List V)(v7 v8 v9:Option V),m=nums.length-i/\i<=nums.length/\B'=[YV (.ref t1),YV (.ref t2),YV (.ref C),YV (.ref Pg),YV (.ref Pl),YV (.int i),YV (.int i),v7,v8,v9]/\ak H H'/\H' Pl=YV (.lst ps)/\ps.length<=i,{nums.length,0,[],YW,YW,YW,rfl,Pc _,rfl,s1,e1,OW _},?_};rintro m B' Hc ⟨i,ps,v7,v8,v9,rfl,hi,rfl,sc,ePl,lp⟩;refine{true,rfl,?_};have Ϸ:=tr1.same sc;have tc2:=tr2.same sc;have cc:=cm.same sc;refine(if_pos rfl).mpr {λB' H'=>∃(j:Nat)(ps:List V)(v7 v8 v9:Option V),j=i+1/\j<=nums.length/\B'=[YV (.ref t1),YV (.ref t2),YV (.ref C),YV (.ref Pg),YV (.ref Pl),YV (.int j),YV (.int j),v7,v8,v9]/\ak H H'/\H' Pl=YV (.lst ps)/\ps.length<=j,?_,?_}
 ·rintro σ2 H2 ⟨j,ps,v7,v8,v9,rfl,hj,rfl,s2,e2,l2⟩;exact{nums.length-(i+1),(),i+1,ps,v7,v8,v9,rfl,hj,rfl,s2,e2,l2}
 rfl'
 refine ah λM1 K1=>{t1,C,i,ž,nums,rfl,Ϸ,cc,hi,K1 _ _ ?_};clear K1 M1;rfl'
 refine ah λM1 K1=>{t2,C,i,ϵ,nums,rfl,tc2,cc,hi,K1 _ _ ?_};clear K1 M1;rfl'
 refine ah λM1 K1=>?_;have X0:H Pl=YW:=Đ;refine{OZ {rfl,_,À.of ePl},{_,rfl,_,rfl,OZ {t1,_,rfl,À.of Ϸ.e,λL1 Ϫ=>?_}}};rw[yn];obtain⟨s2,f2⟩:=Ð Ϫ (HO.lst []);generalize upd Hc L1 _=H2 at s2 f2⊢;refine{L1,"one",rfl,f2,λD1 H3 s3 g3=>?_};have t3:=s2.trans s3;refine{_,rfl,_,rfl,OZ {t2,_,rfl,À.of (t3 _ _ tc2.e),λL2 hL2=>?_}};rw[yn];obtain⟨s4,f4⟩:=Ð hL2 (HO.lst []);generalize upd H3 L2 _=H4 at s4 f4⊢;refine{L2,"other",rfl,f4,λD2 H5 s5 g5=>{D1,D2,_,_,rfl,rfl,s5 _ _ (s4 _ _ g3),g5,Pc _,λL6 hL6=>?_}};obtain⟨s6,f6⟩:=Ð hL6 (HO.lst ([]++[]:List V));generalize upd H5 L6 _=H6 at s6 f6⊢;have t6:=t3.trans (s4.trans (s5.trans s6));refine{Pl,L6,ps,[],rfl,rfl,t6 _ _ ePl,f6,sz (by rw[P5];lia),K1 _ _ ?_};clear K1 M1;rw[PH];have s7:ak H (upd H6 Pl (.lst ps)):=ak.out (sc.trans t6) X0 _;have e7:(upd H6 Pl (.lst ps)) Pl=YV (.lst ps):=ao;generalize upd H6 Pl (.lst ps)=H7 at s7 e7⊢;clear f6 g5 g3 f4 f2 hL6 hL2 Ϫ t6 t3 s6 s5 s4 s3 s2 Ϸ tc2 cc ePl sc;have Ϸ:=tr1.same s7;have tc2:=tr2.same s7;have cc:=cm.same s7;rfl'
 refine ah λM1 K1=>?_;by_cases lt:i<nums.length
 ·have ne1:¬ (decide (V.int (i:Int)=V.int (ž.length:Int))=true):=λz=>by have:=V.int.inj (of_decide_eq_true z);lia
  have ne2:¬ (decide (V.int (i:Int)=V.int (ϵ.length:Int))=true):=λz=>by have:=V.int.inj (of_decide_eq_true z);lia
  obtain⟨n,p,a,b,hn,Ŵ,hp⟩:=Ϸ.at lt;refine Ŭ Ϸ.e {rfl,_,rfl,bh (λc=>absurd c ne1) (λ_=>Ŭ tc2.e {rfl,_,rfl,bh (λc=>absurd c ne2) (λ_=>K1 _ _ ?_)})};clear K1 M1;rfl'
  refine ah λM1 K1=>Ì (À.of Ϸ.e) Ŵ (Ø (j:=0) (Æ.of hp) rfl (K1 _ _ ?_));clear K1 M1;rfl'
  refine ah λM1 K1=>{OZ {rfl,_,À.of e7},{by show 2<=sizeLine;decide,λtp é=>{_,_,_,rfl,rfl,(ak.upd é _) _ _ e7,aG (),?_}}};have s8:ak H (upd (upd H7 tp (.tup [.str "both",.int n])) Pl (.lst (ps++[.ref tp]))):=ak.out (s7.trans (ak.upd é _)) X0 _;have e8:(upd (upd H7 tp (.tup [.str "both",.int n])) Pl (.lst (ps++[.ref tp]))) Pl=YV (.lst (ps++[.ref tp])):=ao;generalize upd (upd H7 tp (.tup [.str "both",.int n])) Pl (.lst (ps++[.ref tp]))=H8 at s8 e8⊢;refine K1 _ _ ?_;clear K1 M1;rfl'
  refine ah λM1 K1=>OZ {_,OZ (À.of (s8 _ _ eP)),rfl,rfl,{_,rfl,aV (K1 _ _ ?_)}};clear K1 M1;rfl'
  refine ah λM1 K1=>K1 _ _ ?_;clear K1 M1;rfl'
  exact{i+1,ps++[.ref tp],YV (.int i),YV (.int i),YV (.int n),rfl,lt,rfl,s8,e8,by rw[O5,Po];lia}
 have ei:i=nums.length:=()
 have eq1:decide (V.int (i:Int)=V.int (ž.length:Int))=true:=decide_eq_true (by rw[ei,l1]);refine Ŭ Ϸ.e {rfl,_,rfl,bh (λ_=>?_) (λc=>absurd eq1 c)};exact{by show 2<=sizeLine;decide,λu hu=>q u _ _ _ (s7.trans (ak.upd hu _)) ao}
def pG(C:RB)(E:XK)(H:Hp)(x:Str):Prop:=∀e dx H',ak H H'->H' e=YV (xo e C (YV dx) true)->H' dx=YV (L2.xf dx [("name",.str x)])->E (.ref e) (YV dx) H'
theorem pG.same{C:RB}{E:XK}{H H':Hp}{x:Str}(h:pG C E H x)(s:ak H H'):pG C E H' x:=λe dx H2 s2=>h e dx H2 (s.trans s2)
theorem đ.same{H H':Hp}{r:Int}{gi ji:List Nat}{gf jf:Nat->V}{b:Bool}{p:Pt}(s:ak H H')(h:đ H r gi gf ji jf b p):đ H' r gi gf ji jf b p:=by
 cases p with
 |leaf n l=>
  cases l with
  |Ç i rk z=>
   cases b with
   |true=>
    refine λhr=>?_;obtain⟨c,c1,c2,f⟩:=h hr;exact⟨c,c1.same s,c2.same s,f⟩
   |false=>
    obtain⟨hr,c,d,c1,c2,f1,f2,ne⟩:=h;exact⟨hr,c,d,c1.same s,c2.same s,f1,f2,ne⟩
  |_=>exact h
 |_=>exact h
inductive Wk(A:Ï)(N:Nat->Str)(H:Hp)(r:Int)(hs:List Pt)(gi:List Nat)(gf:Nat->V)(ji:List Nat)(jf:Nat->V)(E:XK)(k:Prop):Prop
 |one (j:Nat) (p:Pt) (a:∀p∈hs.take j,í H gi gf true p) (hp:hs[j]?=YV p) (b:í H gi gf false p) (q:jj A E H (N (î p))):Wk A N H r hs gi gf ji jf E k
 |two (j:Nat) (p:Pt) (a:∀p∈hs,í H gi gf true p) (c:∀p∈hs.take j,í H ji jf true p) (hp:hs[j]?=YV p) (b:í H ji jf false p) (q:jj A E H (N (î p))):Wk A N H r hs gi gf ji jf E k
 |un (j:Nat) (p:Pt) (a:∀p∈hs,í H gi gf true p) (c:∀p∈hs,í H ji jf true p) (d:∀p∈hs.take j,đ H r gi gf ji jf true p) (hp:hs[j]?=YV p) (b:đ H r gi gf ji jf false p) (q:pG A.aY E H (N (î p))):Wk A N H r hs gi gf ji jf E k
 |ok (a:∀p∈hs,í H gi gf true p) (c:∀p∈hs,í H ji jf true p) (d:∀p∈hs,đ H r gi gf ji jf true p) (q:k):Wk A N H r hs gi gf ji jf E k
inductive BC(A:Ï)(vs:List V)(H:Hp)(Q:VK)(Ã:XK):Prop
 |mk(N:Nat->Str)(X:Hp)(v:V)(r:Int)(hs ms:List Pt)(g j:RB)(gi:List Nat)(gf:Nat->V)(ji:List Nat)(jf:Nat->V)(z0:vs=[v,.int r,.ref g,.ref j])(z1:ak X H)(z2:ka A N X v hs [] ms)(z3:dO N)(z4:xp hs)(z11:OkT N 0 hs [] ms)(z12:rJ hs ms)(z5:H g=YV (.dK (dk N gi gf)))(z6:∀i∈gi,i<25)(z7:H j=YV (.dK (dk N ji jf)))(z8:∀i∈ji,i<25)
  (z9:Wk A N H r hs gi gf ji jf Ã (∀u a b H',ak H H'->H' u=YV (.tup [a,b])->Q (.ref u) H')):BC A vs H Q Ã
theorem Kv(T:Txt K mg A):CK P w K mg base 14 "walk" ["program","rank","one","other"] (BC A):=by
 refine aM.Ih (k:=13) T.walk rR (λvs H Q E h=>?_) (λX f Â A' outer s' H vs Q E hX cat hr hu h=>?_)
 ·obtain⟨N,X,v,r,hs,ms,g,j,gi,gf,ji,jf,rfl,_⟩:=h;rfl
 subst hX;obtain⟨N,X,v,r,hs,ms,g,j,gi,gf,ji,jf,rfl,s0,pg,Di,ho,O,so,eg,gb,ej,jb,wk⟩:=h;have lf:Lfs ms:=λp m=>by obtain⟨n,x,i,e,_⟩:=so.1 p m;exact{n,_,e}
 have c7:∀p∈ms,p.ci=7:=λp m=>by obtain⟨n,x,i,rfl,_⟩:=so.1 p m;rfl
 have tl:∀{q:Pt->Prop},(∀p∈hs,q p)->∀p∈hs.take hs.length,q p:=λh p m=>h p (by rw[Pk]at m;exact m);refine⟨_,(af (É 4 rR.nd (aA (lQ cat (IP T) hr (fv 0^fv 2^ae)) rfl))
  (af (É 5 rR.nd (aA (lQ cat (IP T) hr (fv 0^fv 3^ae)) rfl))
  (af (É 6 rR.nd (au (Fs T) hr (fv 0^fv 1^fv 2^fv 3^ae)))
  (af (aN (Ö xg (fv 6) bU)
   (aj (yL cat rfl (vO (zM T) hr (fv 6^ae))))
   aH)
  (aj (aD (au (FE T) hr (fv 4^fv 5^au (EB T) hr (fv 0^fv 1^ae)^au (CD T) hr (fv 0^fv 1^ae)^ae)))))))),?_⟩
 refine ah λM1 K1=>?_;have first:(∀b H1,ak H H1->Mx A H1 b (ms.map Pt.no)->(∀p∈hs,í H gi gf true p)->lN K "trace" (.ref b) H1 λv' H2=>(λB H=>M1 B H) ([YV v,YV (.int r),YV (.ref g),YV (.ref j),YV v',YW,YW]) H2)->True:=λ_=>trivial
 clear first
 cases wk with
 |one k p a hp b rf=>exact{N,X,v,hs,ms,g,gi,gf,rfl,s0,pg,Di,ho,so,eg,gb,k,a,Py ⟨p,hp,b,rf⟩}
 |two k p a c hp b rf=>
  refine{N,X,v,hs,ms,g,gi,gf,rfl,s0,pg,Di,ho,so,eg,gb,hs.length,tl a,OZ {rfl,λb1 H1 s1 bk=>?_}};obtain⟨db,fs,t1,ž,ď,lk1,et1,tp1⟩:=bk;refine Ê ď T.da.cl T.cA lk1 (K1 _ _ ?_);clear K1 M1;rfl'
  exact ah λM1 K1=>{N,X,v,hs,ms,j,ji,jf,rfl,s0.trans s1,pg,Di,ho,so,s1 _ _ ej,jb,k,λp m=>(c p m).same s1,Py ⟨p,hp,b.same s1,rf.same s1⟩}
 |un k p a c d hp b rf=>
  refine{N,X,v,hs,ms,g,gi,gf,rfl,s0,pg,Di,ho,so,eg,gb,hs.length,tl a,OZ {rfl,λb1 H1 s1 bk=>?_}};obtain⟨db,fs,t1,ž,ď,lk1,et1,tp1⟩:=bk;refine Ê ď T.da.cl T.cA lk1 (K1 _ _ ?_);clear K1 M1;rfl'
  refine ah λM1 K1=>{N,X,v,hs,ms,j,ji,jf,rfl,s0.trans s1,pg,Di,ho,so,s1 _ _ ej,jb,hs.length,tl λp m=>(c p m).same s1,OZ {rfl,λb2 H2 s2 bk2=>?_}};obtain⟨db2,fs2,t2,ϵ,ų,lk2,et2,tp2⟩:=bk2;refine Ê ų T.da.cl T.cA lk2 (K1 _ _ ?_);clear K1 M1;have þ:=s1.trans s2;rfl'
  refine ah λM1 K1=>{N,X,v,r,hs,ms,g,j,gi,gf,ji,jf,rfl,s0.trans þ,pg,Di,ho,þ _ _ eg,gb,þ _ _ ej,jb,k,λp m=>(d p m).same þ,Py {p,hp,b.same þ,K1 _ _ ?_}};clear K1 M1;rfl'
  refine ah λM1 K1=>{rfl,_,rfl,bh (λ_=>?_) (λc=>absurd rfl c)};refine{by show 1<=sizeLine;decide,λe he=>{e,_,rfl,ao,λdd H3 ne s3 e3 d3=>{rfl,e,A.aY,YV dd,rfl,e3,T.cS,(rf.same þ) e dd _ (λb o hb=>?_) ao ?_}}}
  ·have ñ:b≠e:=bZ hb he;rw[ay ñ];exact s3 b o ñ (by rw[ay ñ];exact hb)
  rw[ay ne];exact d3
 |ok a c d q=>
  refine{N,X,v,hs,ms,g,gi,gf,rfl,s0,pg,Di,ho,so,eg,gb,hs.length,tl a,OZ {rfl,λb1 H1 s1 bk=>?_}};obtain⟨db,fs,t1,ž,ď,lk1,et1,tp1⟩:=bk;refine Ê ď T.da.cl T.cA lk1 (K1 _ _ ?_);clear K1 M1;have tr1:uD H1 t1 ž (ms.map Pt.no):=⟨et1,tp1⟩;rfl'
  refine ah λM1 K1=>{N,X,v,hs,ms,j,ji,jf,rfl,s0.trans s1,pg,Di,ho,so,s1 _ _ ej,jb,hs.length,tl λp m=>(c p m).same s1,OZ {rfl,λb2 H2 s2 bk2=>?_}};obtain⟨db2,fs2,t2,ϵ,ų,lk2,et2,tp2⟩:=bk2;refine Ê ų T.da.cl T.cA lk2 (K1 _ _ ?_);clear K1 M1;have tr2:uD H2 t2 ϵ (ms.map Pt.no):=⟨et2,tp2⟩;have þ:=s1.trans s2;rfl'
  refine ah λM1 K1=>{N,X,v,r,hs,ms,g,j,gi,gf,ji,jf,rfl,s0.trans þ,pg,Di,ho,þ _ _ eg,gb,þ _ _ ej,jb,hs.length,tl λp m=>(d p m).same þ,OZ {rfl,K1 _ _ ?_}};clear K1 M1;rfl'
  refine ah λM1 K1=>{rfl,_,rfl,bh (λc=>absurd c ∅) (λ_=>K1 _ _ ?_)};clear K1 M1;rfl'
  refine{N,X,v,r,hs,ms,rfl,s0.trans þ,pg,O,lf,so.2,λC H3 s3 cm=>?_};have s13:=þ.trans s3;refine{N,X,v,r,hs,ms,rfl,s0.trans s13,pg,O.l.ok,ho,c7,lf,λPg H4 s4 ep=>{t1,t2,C,Pg,ž,ϵ,ms.map Pt.no,rfl,tr1.same (s2.trans (s3.trans s4)),tr2.same (s3.trans s4),?_,ep,by rw[OU];exact so.2,λu a b H' s' e'=>q u a b H' (s13.trans (s4.trans s')) e'}};obtain⟨kvs,ec,hc⟩:=cm;refine{kvs,s4 _ _ ec,λn m=>?_};obtain⟨p,mp,rfl⟩:=Pj.mp m;exact hc p mp
end
section
variable{K:RG}{mg:Str->Option RC}{base:R8}{A:Ï}{N:Nat->Str}
seal PE PA PS ü PT PW
end
section
variable{K:RG}{N:Nat->Str}
def Lr.w:Lr->Str
 | .hand _ _=>"hand"| .Ç _ _ _=>"given"| .own _ _=>"own"| .lt _ _=>"let"| .set _ _=>"set"| .put _ _ _=>"put"| .snd _ _=>"send"| .say _ _ _=>"say"
 | .call _ _=>"call"| .last=>"last"
def Lr.tl(N:Nat->Str)(p:RB):Lr->List V
 | .hand i r=>[.str (N i),.int r]
 | .Ç i r z=>[.str (N i),.int r,.int z]
 | .own i z=>[.str (N i),.int z]
 | .lt i r=>[.str (N i),.int r]
 | .set x _=>[.str (N x),.ref p]
 | .put x t _=>[.str (N x),t.v N,.ref p]
 | .snd h _=>[.str (N h),.ref p]
 | .say x _ m=>[.str (N x),.ref p,.str (N m)]
 | .call i _=>[.str (N i),.ref p]
 | .last=>[]
end
section
variable{P:Program}{w:RS}{K:RG}{mg:Str->Option RC}{base:R8}{A:Ï}{N:Nat->Str}
seal PE PA PS ü PT PW
def del(X:List RB)(H:Hp):Hp:=λa=>if a∈X then YW else H a
theorem iz{X:List RB}{H:Hp}:ak (del X H) H:=λa o h=>by
 unfold del at h;split at h
 ·cases h
 exact h
theorem bT{X:List RB}{H:Hp}{a:RB}{o:HO}(h:a∉X)(e:H a=YV o):del X H a=YV o:=by
 unfold del;rw[if_neg h];exact e
theorem nE{X:List RB}{H:Hp}{a:RB}{o:HO}(h:del X H a=YV o):a∉X/\H a=YV o:=by
 unfold del at h;split at h
 ·cases h
 exact⟨by assumption,h⟩
structure Go(M:List RB)(H:Hp)(M':List RB)(H':Hp):Prop where
 o:∀a o,a∉M->H a=YV o->H' a=YV o
 m:∀a∈M',a∈M\/H a=YW
theorem Go.trans{M M1 M2:List RB}{H H1 H2:Hp}(g:Go M H M1 H1)(g':Go M1 H1 M2 H2):Go M H M2 H2:=by
 refine{λa o h e=>g'.o a o (λm=>?_) (g.o a o h e),λa m=>?_}
 ·rcases g.m a m with z|z
  ·exact h z
  rw[z]at e;cases e
 rcases g'.m a m with z|z
 ·exact g.m a z
 by_cases h:a∈M
 ·exact .inl h
 refine .inr ?_;cases e:H a with
 |none=>rfl
 |some o=>rw[g.o a o h e]at z;cases z
theorem Go.refl(M:List RB)(H:Hp):Go M H M H:={λ_ _ _ h=>h,λ_ h=>.inl h}
theorem Go.new{M:List RB}{H H':Hp}(s:ak H H'):Go M H M H':={λa o _ h=>s a o h,λ_ h=>.inl h}
theorem Go.at{M:List RB}{H:Hp}{x:RB}(h:x∈M)(u:HO):Go M H M (upd H x u):={λa o m e=>(ay (λz:a=x=>m (by rw[z];exact h))).trans e,λ_ h=>.inl h}
theorem Go.keep{M:List RB}{H0 H H':Hp}(g:Go M H M H')(s:ak H0 H)(f:∀a∈M,H0 a=YW):ak H0 H':=λa o h=>g.o a o (λm=>by rw[f a m]at h;cases h) (s a o h)
theorem T6{α β:Type}{F:α->β->Prop}{x:α}{y:β}(h:F x y):∀{xs:List α}{ys:List β},Paired F xs ys->Paired F (xs++[x]) (ys++[y])
 |_,_,.nil=>.cons h .nil
 |_,_,.cons g r=>.cons g (T6 h r)
def fJ(N:Nat->Str)(X:Hp)(v:V)(r:Lr):Prop:=∃a p,v=.ref a/\X a=YV (.tup (.str r.w::r.tl N p))/\∀o,r.ob N=YV o->X p=YV o
theorem fJ.same{N:Nat->Str}{X X':Hp}(s:ak X X'){v:V}{r:Lr}(h:fJ N X v r):fJ N X' v r:=by
 obtain⟨a,p,e,h1,h2⟩:=h;exact{a,p,e,s _ _ h1,λo ho=>s _ _ (h2 o ho)}
def nmL(N:Nat->Str):List V:=(RX 25).map λi=>.str (N i)
theorem j6(N:Nat->Str){i:Nat}(h:i<25):ô (nmL N) (i:Int)=YV (.str (N i)):=by
 refine dY ?_;unfold nmL;rw[O7,QQ h];rfl
theorem DW{n:Nat}{ys:List V}{f:Nat->V}(ly:ys.length=n)(hy:∀(i:Nat) y,ys[i]?=YV y->y=f i):ys=(RX n).map f:=by
 refine Rf λi=>?_;by_cases h:i<n
 ·have lt:i<ys.length:=()
  rw[O7,QQ h,OV lt,hy i _ (OV lt)];rfl
 rw[Qj (),Qj (by simp;lia)]
def rkL(rk:Nat->Int):List V:=(RX 7).map λi=>.int (rk i)
theorem sO(rk:Nat->Int){i:Nat}(h:i<7):ô (rkL rk) (i:Int)=YV (.int (rk i)):=by
 refine dY ?_;unfold rkL;rw[O7,QQ h];rfl
theorem Nq{ys:List V}(ly:ys.length=7)(hy:∀(i:Nat) y,ys[i]?=YV y->∃n:Int,y=.int n/\0<=n/\n<3):∃rk:Nat->Int,ys=rkL rk/\∀i,0<=rk i/\rk i<=2:=by
 have h:∀i:Nat,∃n:Int,(∀y,ys[i]?=YV y->y=.int n)/\0<=n/\n<=2:=λi=>by
  cases e:ys[i]? with
  |none=>exact{0,λ_ z=>(by cases z),∅,∅}
  |some y=>
   obtain⟨n,e1,e2,e3⟩:=hy i y e;exact{n,λ_ z=>(by cases z;exact e1),e2,()}
 exact{λi=>(h i).choose,DW ly λi y e=>(h i).choose_spec.1 y e,λi=>(h i).choose_spec.2}
def gz(rk:Nat->Int)(z:Int):List Lr:=[.hand 0 0,.hand 1 1,.hand 2 2,.Ç 3 (2-rk 0%2) 0,.Ç 4 (rk 1) 0,.Ç 5 0 0,.Ç 6 (rk 2) z,.own 7 0,.own 8 0,.own 9 0,.own 10 z,.lt 11 (rk 3),.lt 12 (rk 4%2)]
def v1(rk:Nat->Int)(z:Int)(j:Nat):Int:=[0,1,2,2-rk 0%2,rk 1,0,rk 2,0,0,0,z,rk 3,rk 4%2].getD j 0
def w4(rk:Nat->Int):List Int:=[0,rk 5,2,rk 6]
def v2(rk:Nat->Int)(z:Int)(i j:Nat):Int:=if 7<=j/\j<7+i then(w4 rk).getD (j-7) 0 else v1 rk z j
theorem Go.to'{S LV:RB}{H H':Hp}(g:Go [LV] H [LV] H')(_:S≠LV):Go [S,LV] H [S,LV] H':={λa o m e=>g.o a o (λz=>m (O2 _ z)) e,λ_ m=>.inl m}
theorem Paired.IV{α β:Type}{F:α->β->Prop}:∀(t:Nat){xs:List α}{ys:List β},Paired F xs ys->Paired F (xs.drop t) (ys.drop t)
 |0,_,_,h=>h
 |_+1,_,_,.nil=>.nil
 |t+1,_,_,.cons _ r=>Paired.IV t r
theorem Paired.Jc{α β:Type}{F:α->β->Prop}:∀(t:Nat){xs:List α}{ys:List β},Paired F xs ys->Paired F (xs.take t) (ys.take t)
 |0,_,_,_=>.nil
 |_+1,_,_,.nil=>.nil
 |t+1,_,_,.cons h r=>.cons h (Paired.Jc t r)
def ě(t:Nat)(xs:List Lr):List Lr:=xs.drop t++xs.take t
structure Hs(N:Nat->Str)(H0 Hc:Hp)(xs:List V)(hs:List Lr):Prop where
 s:ak H0 Hc
 p:Paired (fJ N Hc) xs hs
theorem Hs.to{H0 Hc H':Hp}{xs:List V}{hs:List Lr}(D:Hs N H0 Hc xs hs)(s:ak Hc H'):Hs N H0 H' xs hs:={D.s.trans s,Paired.gR D.p λ_ _=>fJ.same s}
theorem Hs.add{H0 Hc:Hp}{t:RB}{xs:List V}{hs:List Lr}(D:Hs N H0 Hc xs hs)(ht:Hc t=YW)(h:Lr)(ho:h.ob N=YW)(ys:List V)(e:ys=.str h.w::h.tl N t):Hs N H0 (upd Hc t (.tup ys)) (xs++[.ref t]) (hs++[h]):=by
 subst e;refine{D.s.trans (ak.upd ht _),T6 {t,t,rfl,ao,λo z=>by rw[ho]at z;cases z} (Paired.gR D.p λ_ _=>fJ.same (ak.upd ht _))}
theorem Hs.qW{H0 Hc:Hp}{t L:RB}{o:HO}{xs:List V}{hs:List Lr}(D:Hs N H0 Hc xs hs)(eL:Hc L=YV o)(ht:Hc t=YW)(h:Lr)(ho:h.ob N=YW)(ys:List V)(e:ys=.str h.w::h.tl N t):Hs N H0 (upd Hc t (.tup ys)) (xs++[.ref t]) (hs++[h])/\upd Hc t (.tup ys) L=YV o:={D.add ht h ho ys e,ak.upd ht _ _ _ eL}
theorem Hs.len{H0 Hc:Hp}{xs:List V}{hs:List Lr}(D:Hs N H0 Hc xs hs):xs.length=hs.length:=RN D.p
theorem kQ{n t:Nat}(d:Nat)(h:t<=n):HT.Õ n d (YV (t:Int))=t:=by
 unfold HT.Õ;show(if(t:Int)<0 then((t:Int)+n).toNat else min (t:Int).toNat n)=t;rw[if_neg (),PL];lia
theorem LG{xs:List V}{t:Nat}(h:t<=xs.length):lI xs (YV (t:Int)) YW=xs.drop t:=by
 unfold lI;rw[kQ _ h,show HT.Õ xs.length xs.length YW=xs.length from rfl];exact QG (by rw[QO];lia)
theorem Ld{xs:List V}{t:Nat}(h:t<=xs.length):lI xs YW (YV (t:Int))=xs.take t:=by
 unfold lI;rw[kQ _ h,show HT.Õ xs.length 0 YW=0 from rfl];rfl
def st0(LV:RB):List (Key×V):=[(.inr "view",.ref LV)]
def ą(LR LV:RB):List (Key×V):=[(.inr "view",.ref LV),(.inr "rows",.ref LR)]
def st6(LR LV lm:RB):List (Key×V):=[(.inr "view",.ref LV),(.inr "rows",.ref LR),(.inr "marks",.ref lm)]
theorem MP{H:Hp}{v:V}{rk:Nat->Int}{z:Int}{i:Nat}{h:Lr}(hi:(gz rk z)[i]?=YV h)(a:fJ N H v h):∃t xs,v=.ref t/\H t=YV (.tup xs)/\ô xs 1=YV (.str (N i))/\ô xs 2=YV (.int (v1 rk z i)):=by
 obtain⟨t,p,e,h1,_⟩:=a;have hb:i<13:=(O8.mp hi).1;have:=ON i ();rcases this with rfl|rfl|rfl|rfl|rfl|rfl|rfl|rfl|rfl|rfl|rfl|rfl|rfl<;>(cases hi;exact{t,_,e,h1,rfl,rfl})
inductive xZ(K:RG)(vs:List V)(H:Hp)(Q:VK)(Ã:XK):Prop
 |mk(a S LV:RB)(ns:List Int)(z0:vs=[.ref a,.ref S])(z1:À K H a (ns.map V.int))(z2:H S=YV (.dK (st0 LV)))(z3:H LV=YV (.dK (dk (ù (cellAt ns 1)) [] λ_=>.int 0)))(z4:∀(ln LR lm:RB)(rk:Nat->Int)(z:Int)(t:Nat)(rows:List V)(H':Hp),(∀i,0<=rk i/\rk i<=2)->1<=z->z<=4->Go [S,LV] H [S,LV] H'->H ln=YW->H LR=YW->H lm=YW->ln≠LR->lm≠LR->
  H' S=YV (.dK (st6 LR LV lm))->H' LV=YV (.dK (dk (ù (cellAt ns 1)) (RX 13) λi=>.int (v2 rk z 4 i)))->H' LR=YV (.lst rows)->H' lm=YV (.lst (nV (ù (cellAt ns 1)) [11,12]))->H' ln=YV (.lst (nmL (ù (cellAt ns 1))))->
  Paired (fJ (ù (cellAt ns 1)) (del [S,LR,LV] H')) rows (ě t (gz rk z))->Q (.ref ln) H'):xZ K vs H Q Ã
theorem Hy(T:Txt K mg A):T.qw.Hz P w base 2 (xZ K):=by
 have oA:=@Fl P w _ _ base _ T;have E9:=@Cb P w _ _ base _ T;refine T.qw.hs (k:=1) bb (λf Â A' outer s H vs Q E' hr hu h=>?_);obtain⟨a,S,LV,ns,rfl,hA,hS,hV,q⟩:=h;have D:=Ce (cellAt ns 1);obtain⟨N,eN⟩:∃N,N=ù (cellAt ns 1):={_,rfl};rw[<-eN]at D q hV;refine⟨_,(af (iT (j:=2) (N:=["_law_k","_law_script"]) (own:=1) (fr:=[0]) (bI.of (by kernel_rfl!)) rfl bb.nd rfl (OZ rfl) (ee rfl T.fj (ag^ae)) (λb=>Ò (i:=0) (show R9 (["_law_k","_law_script"]:List Sl) by decide+kernel) rfl) (λb=>iR) (λb=>au (Js T) hr (au oA hr (fv 1^ag^ae)^fv 0^ae)))
 (af (iT (j:=3) (N:=["_law_way","_law_script"]) (own:=1) (fr:=[0]) (bI.of (by kernel_rfl!)) rfl bb.nd rfl (OZ rfl) (ee rfl T.fj (ag^ae)) (λb=>Ò (i:=0) (show R9 (["_law_way","_law_script"]:List Sl) by decide+kernel) rfl) (λb=>iR) (λb=>au E9 hr (au oA hr (fv 1^ag^ae)^fv 0^ag^ae)))
 (af (É 4 bb.nd (aE aX ag (au E9 hr (au oA hr (fv 0^ag^ae)^ag^ag^ae))))
 (af (É 5 bb.nd (aP (aQ (aK^px hu (fv 2) ag^ag^ae)^aQ (aK^px hu (fv 2) ag^ag^ae)^aQ (aK^px hu (fv 2) ag^ag^ae)^ae)))
 (af (É 5 bb.nd (aE aX (fv 5) (aP (aQ (aK^px hu (fv 2) ag^aE uT ag (aE bM (px hu (fv 3) ag) ag)^ag^ae)^aQ (aK^px hu (fv 2) ag^px hu (fv 3) ag^ag^ae)^ae))))
 (af (É 5 bb.nd (aE aX (fv 5) (aP (aQ (aK^px hu (fv 2) ag^ag^ag^ae)^aQ (aK^px hu (fv 2) ag^px hu (fv 3) ag^fv 4^ae)^ae))))
 (af (É 5 bb.nd (aE aX (fv 5) (aP (aQ (aK^px hu (fv 2) ag^ag^ae)^aQ (aK^px hu (fv 2) ag^ag^ae)^aQ (aK^px hu (fv 2) ag^ag^ae)^aQ (aK^px hu (fv 2) ag^fv 4^ae)^ae))))
 (af (É 5 bb.nd (aE aX (fv 5) (aP (aQ (aK^px hu (fv 2) ag^px hu (fv 3) ag^ae)^aQ (aK^px hu (fv 2) ag^aE bM (px hu (fv 3) ag) ag^ae)^ae))))
 (af (É 6 bb.nd (au E9 hr (au oA hr (fv 0^ag^ae)^ag^ag^ae)))
 (af (cE (aE aX (eY kC (fv 5) (dj (fv 6)) rQ) (eY kC (fv 5) rQ (dj (fv 6)))) (cF (fv 1) aK (cU hu YZ)))
 (af (bc RO rfl (aW (fv 5)) (Ò (i:=7) bb.nd rfl)
  (aj (cE (px hu (fv 7) ag) (cF (px hu (fv 1) aK) (px hu (fv 7) ag) (cU hu YZ)))))
 (af (bc RO rfl (F9 rfl T.zc (eY kC (fv 2) (dj ag) (dj ag)^aP (ag^px hu (fv 3) ag^ag^px hu (fv 3) ag^ae)^ae)) (kR rfl (bj (Ò (i:=8) bb.nd rfl) (bj (Ò (i:=9) bb.nd rfl) gU)))
  (aj (cE (fv 9) (cF (px hu (fv 1) aK) (fv 8) (cU hu YZ)))))
 (af (cE (eY kC (fv 2) (dj ag) (dj ag)) (cF (fv 1) aK (cU hu YZ)))
 (aj (aD (fv 2)))))))))))))))),?_⟩
 refine ah λM1 K1=>{_,rfl,∅,∅,tF (J:=ϳ 0 25) (n:=25) (x:=λj=>.int (0+j)) (λj y _=>y=.str (N j)) (aG ∅) (λ_ _=>OW _) (λ_ _ h _=>h) (λ_ _ _ _ _ _ y=>y) (λb j H1 G hj s1 kk=>{a,ns,1,rfl,s1.seq hA,∅,cellAt ns 1,j,(by rw[Rr];rfl),(),λH2 s2=>kk _ _ s2 (by rw[eN])}) (λ_ _ _ _ _ h=>h) (λ_ _ _ _ _ _ _ h=>h) (λln H1 ys ln0 s1 eln ly hy=>K1 _ _ ?_)};rw[DW ly hy,show((RX 25).map λi=>V.str (N i))=nmL N from rfl]at eln;clear hy ly;rfl'
 refine ah λM2 K2=>{_,rfl,∅,∅,tF (J:=ϳ 0 7) (n:=7) (x:=λj=>.int (0+j)) (λj y _=>∃n:Int,y=.int n/\0<=n/\n<3) (aG ∅) (λ_ _=>OW _) (λ_ _ h _=>h) (λ_ _ _ _ _ _ y=>y) (λb j H2 G hj s2 kk=>{a,ns,2,rfl,(s1.trans s2).seq hA,∅,cellAt ns 2,j,3,(by rw[Rr];rfl),(),∅,λm H3 m0 m1 s3=>kk _ _ s3 ⟨m,rfl,m0,m1⟩}) (λ_ _ _ _ _ h=>h) (λ_ _ _ _ _ _ _ h=>h) (λlk H2 ys lk0 s2 elk ly hy=>K2 _ _ ?_)};obtain⟨rk,rfl,hrk⟩:=Nq ly hy;clear hy ly;have þ:=s1.trans s2;have eln2:=s2 _ _ eln;rfl'
 refine ah λM3 K3=>{a,ns,2,rfl,þ.seq hA,∅,cellAt ns 2,0,4,rfl,∅,∅,λm H3 m0 m1 s3=>K3 _ _ ?_};obtain⟨z,hz⟩:∃z:Int,z=1+m:={_,rfl};rw[<-hz];have z1:1<=z:=()
 have z4:z<=4:=()
 have s13:=þ.trans s3;have eln3:=s3 _ _ eln2;have elk3:=s3 _ _ elk;have ln1:H ln=YW:=ln0;clear s1 s2 s3 þ eln eln2 elk lk0 ln0 hz m0 m1;have nm:∀(Hc:Hp),ak H3 Hc->À K Hc ln (nmL N):=λHc z=>À.of (z _ _ eln3);have rm:∀(Hc:Hp),ak H3 Hc->À K Hc lk (rkL rk):=λHc z=>À.of (z _ _ elk3);rfl'
 refine ah λM4 K4=>?_;have D0:Hs N H3 H3 [] []:={ak.refl _,.nil};refine Ì (nm _ D0.s) (j6 N (i:=0) ∅) {by show 3<=sizeLine;decide,λt0 ht0=>?_};have D1:=D0.add ht0 (.hand 0 0) rfl [V.str "hand",.str (N 0),.int 0] rfl;generalize upd H3 t0 _=X1 at D1⊢;refine Ì (nm _ D1.s) (j6 N (i:=1) ∅) {by show 3<=sizeLine;decide,λt1 ht1=>?_};have D2:=D1.add ht1 (.hand 1 1) rfl [V.str "hand",.str (N 1),.int 1] rfl;generalize upd X1 t1 _=X2 at D2⊢;refine Ì (nm _ D2.s) (j6 N (i:=2) ∅) {by show 3<=sizeLine;decide,λt2 ht2=>?_};have D3:=D2.add ht2 (.hand 2 2) rfl [V.str "hand",.str (N 2),.int 2] rfl;generalize upd X2 t2 _=X3 at D3⊢;refine{by show 3<=sizeLine;decide,λL1 Ϫ=>?_};obtain⟨sL1,ľ⟩:=Ð Ϫ (HO.lst [V.ref t0,.ref t1,.ref t2]);generalize upd X3 L1 _=X4 at sL1 ľ⊢;have D4:=D3.to sL1;clear D0 D1 D2 D3 sL1 Ϫ ht0 ht1 ht2;refine K4 _ _ ?_;rfl'
 refine ah λM5 K5=>Ì (nm _ D4.s) (j6 N (i:=3) ∅) (Ì (rm _ D4.s) (sO rk (i:=0) ∅) {(by show(0:Int)<2;decide),by show 4<=sizeLine;decide,λt3 ht3=>?_});obtain⟨D5,x5⟩:=D4.qW ľ ht3 (.Ç 3 (2-rk 0%2) 0) rfl [V.str "given",.str (N 3),.int (2-rk 0%2),.int 0] rfl;generalize upd X4 t3 _=X5 at D5 x5⊢;refine Ì (nm _ D5.s) (j6 N (i:=4) ∅) (Ì (rm _ D5.s) (sO rk (i:=1) ∅) {by show 4<=sizeLine;decide,λt4 Η=>?_});obtain⟨D6,x6⟩:=D5.qW x5 Η (.Ç 4 (rk 1) 0) rfl [V.str "given",.str (N 4),.int (rk 1),.int 0] rfl;generalize upd X5 t4 _=X6 at D6 x6⊢;refine{by show 2<=sizeLine;decide,λL2 hL2=>?_};obtain⟨sL2,eL2⟩:=Ð hL2 (HO.lst [V.ref t3,.ref t4]);generalize upd X6 L2 _=X7 at sL2 eL2⊢;refine{L1,L2,_,_,rfl,rfl,sL2 _ _ x6,eL2,(show 5<=sizeLine by decide),λL3 hL3=>?_};obtain⟨sL3,eL3⟩:=Ð hL3 (HO.lst ([V.ref t0,.ref t1,.ref t2]++[V.ref t3,.ref t4]));generalize upd X7 L3 _=X8 at sL3 eL3⊢;have D8:=D6.to (sL2.trans sL3);clear D4 D5 D6 x5 x6 sL2 eL2 sL3 hL2 hL3 ht3 Η ľ;refine K5 _ _ ?_;rfl'
 refine ah λM6 K6=>Ì (nm _ D8.s) (j6 N (i:=5) ∅) {by show 4<=sizeLine;decide,λt5 ht5=>?_};obtain⟨D9,x9⟩:=D8.qW eL3 ht5 (.Ç 5 0 0) rfl [V.str "given",.str (N 5),.int 0,.int 0] rfl;generalize upd X8 t5 _=X9 at D9 x9⊢;refine Ì (nm _ D9.s) (j6 N (i:=6) ∅) (Ì (rm _ D9.s) (sO rk (i:=2) ∅) {by show 4<=sizeLine;decide,λt6 ht6=>?_});obtain⟨D10,x10⟩:=D9.qW x9 ht6 (.Ç 6 (rk 2) z) rfl [V.str "given",.str (N 6),.int (rk 2),.int z] rfl;generalize upd X9 t6 _=X10 at D10 x10⊢;refine{by show 2<=sizeLine;decide,λL4 hL4=>?_};obtain⟨sL4,eL4⟩:=Ð hL4 (HO.lst [V.ref t5,.ref t6]);generalize upd X10 L4 _=X11 at sL4 eL4⊢;refine{L3,L4,_,_,rfl,rfl,sL4 _ _ x10,eL4,(show 7<=sizeLine by decide),λL5 hL5=>?_};obtain⟨sL5,eL5⟩:=Ð hL5 (HO.lst ([V.ref t0,.ref t1,.ref t2]++[V.ref t3,.ref t4]++[V.ref t5,.ref t6]));generalize upd X11 L5 _=X12 at sL5 eL5⊢;have D12:=D10.to (sL4.trans sL5);clear D8 D9 D10 x9 x10 sL4 eL4 sL5 hL4 hL5 ht5 ht6 eL3;refine K6 _ _ ?_;rfl'
 refine ah λM7 K7=>Ì (nm _ D12.s) (j6 N (i:=7) ∅) {by show 3<=sizeLine;decide,λt7 ht7=>?_};obtain⟨D13,϶⟩:=D12.qW eL5 ht7 (.own 7 0) rfl [V.str "own",.str (N 7),.int 0] rfl;generalize upd X12 t7 _=X13 at D13 ϶⊢;refine Ì (nm _ D13.s) (j6 N (i:=8) ∅) {by show 3<=sizeLine;decide,λt8 ht8=>?_};obtain⟨D14,x14⟩:=D13.qW ϶ ht8 (.own 8 0) rfl [V.str "own",.str (N 8),.int 0] rfl;generalize upd X13 t8 _=X14 at D14 x14⊢;refine Ì (nm _ D14.s) (j6 N (i:=9) ∅) {by show 3<=sizeLine;decide,λt9 ht9=>?_};obtain⟨D15,x15⟩:=D14.qW x14 ht9 (.own 9 0) rfl [V.str "own",.str (N 9),.int 0] rfl;generalize upd X14 t9 _=X15 at D15 x15⊢;refine Ì (nm _ D15.s) (j6 N (i:=10) ∅) {by show 3<=sizeLine;decide,λϜ ht10=>?_};obtain⟨D16,x16⟩:=D15.qW x15 ht10 (.own 10 z) rfl [V.str "own",.str (N 10),.int z] rfl;generalize upd X15 Ϝ _=X16 at D16 x16⊢;refine{by show 4<=sizeLine;decide,λL6 hL6=>?_};obtain⟨sL6,eL6⟩:=Ð hL6 (HO.lst [V.ref t7,.ref t8,.ref t9,.ref Ϝ]);generalize upd X16 L6 _=X17 at sL6 eL6⊢;refine{L5,L6,_,_,rfl,rfl,sL6 _ _ x16,eL6,(show 11<=sizeLine by decide),λL7 hL7=>?_};obtain⟨sL7,eL7⟩:=Ð hL7 (HO.lst ([V.ref t0,.ref t1,.ref t2]++[V.ref t3,.ref t4]++[V.ref t5,.ref t6]++[V.ref t7,.ref t8,.ref t9,.ref Ϝ]));generalize upd X17 L7 _=X18 at sL7 eL7⊢;have D18:=D16.to (sL6.trans sL7);clear D12 D13 D14 D15 D16 ϶ x14 x15 x16 sL6 eL6 sL7 hL6 hL7 ht7 ht8 ht9 ht10 eL5;refine K7 _ _ ?_;rfl'
 refine ah λM8 K8=>Ì (nm _ D18.s) (j6 N (i:=11) ∅) (Ì (rm _ D18.s) (sO rk (i:=3) ∅) {by show 3<=sizeLine;decide,λt11 ht11=>?_});obtain⟨D19,x19⟩:=D18.qW eL7 ht11 (.lt 11 (rk 3)) rfl [V.str "let",.str (N 11),.int (rk 3)] rfl;generalize upd X18 t11 _=X19 at D19 x19⊢;refine Ì (nm _ D19.s) (j6 N (i:=12) ∅) (Ì (rm _ D19.s) (sO rk (i:=4) ∅) {(by show(0:Int)<2;decide),by show 3<=sizeLine;decide,λt12 ht12=>?_});obtain⟨D20,x20⟩:=D19.qW x19 ht12 (.lt 12 (rk 4%2)) rfl [V.str "let",.str (N 12),.int (rk 4%2)] rfl;generalize upd X19 t12 _=X20 at D20 x20⊢;refine{by show 2<=sizeLine;decide,λL8 hL8=>?_};obtain⟨sL8,eL8⟩:=Ð hL8 (HO.lst [V.ref t11,.ref t12]);generalize upd X20 L8 _=X21 at sL8 eL8⊢;refine{L7,L8,_,_,rfl,rfl,sL8 _ _ x20,eL8,(show 13<=sizeLine by decide),λL9 hL9=>K8 _ _ ?_};have L90':H L9=YW:=ak.free (s13.trans (D20.to sL8).s) hL9;obtain⟨xs,hxs⟩:∃xs,xs=[V.ref t0,.ref t1,.ref t2]++[V.ref t3,.ref t4]++[V.ref t5,.ref t6]++[V.ref t7,.ref t8,.ref t9,.ref Ϝ]++[V.ref t11,.ref t12]:={_,rfl};rw[<-hxs];obtain⟨sL9,eL9⟩:=Ð hL9 (HO.lst xs);generalize upd X21 L9 _=X22 at sL9 eL9⊢;have D22:Hs N H3 X22 xs (gz rk z):=by
  rw[hxs];exact D20.to (sL8.trans sL9)
 clear D18 D19 D20 x19 x20 sL8 eL8 sL9 hL8 hL9 ht11 ht12 eL7 hxs;have s3:=D22.s;have ſ:=s13.trans s3;have lx:xs.length=13:=by rw[D22.len];rfl
 have e22:=s3 _ _ eln3;have k22:=s3 _ _ elk3;have L90:H L9=YW:=L90';rfl'
 refine ah λM9 K9=>{a,ns,2,rfl,ſ.seq hA,∅,cellAt ns 2,5,13,rfl,∅,∅,λm X23 m0 m1 ŋ=>?_};obtain⟨t,rfl⟩:∃t:Nat,m=(t:Int):={m.toNat,()};have tx:t<=xs.length:=()
 refine K9 _ _ ?_;rfl'
 refine ah λM10 K10=>{_,rfl,OZ {L9,_,rfl,À.of (ŋ _ _ eL9),λp1 hp1=>?_}};rw[LG tx];obtain⟨ţ,e24⟩:=Ð hp1 (HO.lst (xs.drop t));generalize upd X23 p1 _=X24 at ţ e24⊢;refine{_,rfl,OZ {L9,_,rfl,À.of ((ŋ.trans ţ) _ _ eL9),λp2 hp2=>?_}};rw[Ld tx];obtain⟨ϝ,e25⟩:=Ð hp2 (HO.lst (xs.take t));generalize upd X24 p2 _=X25 at ϝ e25⊢;refine{p1,p2,_,_,rfl,rfl,ϝ _ _ e24,e25,sz (by rw[QO,Pq];lia),λLR Κ=>?_};obtain⟨s26,e26⟩:=Ð Κ (HO.lst (xs.drop t++xs.take t));generalize upd X25 LR _=X26 at s26 e26⊢;have č:=((ŋ.trans ţ).trans ϝ).trans s26;have t26:=ſ.trans č;have Ϲ:=ſ.trans ((ŋ.trans ţ).trans ϝ);refine{_,gQ.k (k:=.inr "rows") (t26 _ _ hS) (show 1<sizeLine by decide),K10 _ _ ?_};rw[show Y2 (st0 LV) (.inr "rows") (.ref LR)=ą LR LV from rfl];have LR0':H LR=YW:=ak.free Ϲ Κ;have LRS:LR≠S:=YX LR0' hS;have LRV:LR≠LV:=YX LR0' hV;have lnR:ln≠LR:=λz=>by
  have:=((ŋ.trans ţ).trans ϝ) _ _ e22;rw[z,Κ]at this;cases this
 have lnS:ln≠S:=YX ln1 hS;have lnV:ln≠LV:=YX ln1 hV;have SV:S≠LV:=λz=>by
  rw[z,hV]at hS;have:=congrArg (λo:Option HO=>match o with|some (.dK l)=>l.length|_=>0) hS;revert this
  show ¬ (0=1);decide
 have LkS:lk≠S:=λz=>by
  have:=ſ _ _ hS;rw[<-z,k22]at this;cases this
 have LkV:lk≠LV:=λz=>by
  have:=ſ _ _ hV;rw[<-z,k22]at this;cases this
 have L9S:L9≠S:=YX L90 hS;have L9V:L9≠LV:=YX L90 hV;have g27:Go [S,LV] H [S,LV] (upd X26 S (.dK (ą LR LV))):=(Go.new t26).trans (Go.at OX _);have lr27:Paired (fJ N (del [S,LR,LV] (upd X26 S (.dK (ą LR LV))))) xs (gz rk z):=by
  refine Paired.gR D22.p λv h e=>?_;obtain⟨b,p,e1,e2,e3⟩:=e;have k:∀(x:RB)(o:HO),X22 x=YV o->(∀y,o≠ .dK y)->del [S,LR,LV] (upd X26 S (.dK (ą LR LV))) x=YV o:=λx o e nd=>by
   have xS:x≠S:=λz=>by rw[z,ſ _ _ hS]at e;cases e;exact nd _ rfl
   have xV:x≠LV:=λz=>by rw[z,ſ _ _ hV]at e;cases e;exact nd _ rfl
   have xR:x≠LR:=λz=>by
    have:=((ŋ.trans ţ).trans ϝ) _ _ e;rw[z,Κ]at this;cases this
   refine bT (λm=>?_) (aF xS (č _ _ e));simp only[O4,Pw,or_false]at m;rcases m with m|m|m
   ·exact xS m
   ·exact xR m
   exact xV m
  refine{b,p,e1,k _ _ e2 (λy z=>by cases z),λo ho=>k _ _ (e3 o ho) (λy z=>?_)};subst z;cases h<;>cases ho
 have S27:upd X26 S (.dK (ą LR LV)) S=YV (.dK (ą LR LV)):=ao;have V27:=aF (u:=.dK (ą LR LV)) SV.symm (t26 _ _ hV);have R27:=aF (u:=.dK (ą LR LV)) LRS e26;have n27:=aF (u:=.dK (ą LR LV)) lnS (č _ _ e22);have k27:=aF (u:=.dK (ą LR LV)) LkS (č _ _ k22);have x27:=aF (u:=.dK (ą LR LV)) L9S (č _ _ eL9);generalize upd X26 S (.dK (ą LR LV))=X27 at g27 lr27 S27 V27 R27 n27 k27 x27⊢;clear č s26 ϝ ţ ŋ e26 e25 e24 hp1 hp2 Κ t26 Ϲ ſ e22 k22 D22 s3 s13 eL9 nm rm eln3 elk3;rfl'
 refine ah λM11 K11=>OZ {{_,À.of x27},a9 (K:=K) (xs:=xs) (λi B Hc=>∃v7,B=[YV (.ref a),YV (.ref S),YV (.ref ln),YV (.ref lk),YV (.int z),YV (.ref L9),YV (.int t),v7,YW,YW]/\Go [LV] X27 [LV] Hc/\Hc LV=YV (.dK (dk N (RX i) λj=>.int (v1 rk z j)))) {YW,rfl,Go.refl _ _,V27} (λi B Hc _ ⟨_,_,gc,_⟩=>À.of (gc.o _ _ (λm=>L9V (OT.mp m)) x27)) ?_ ?_}
 ·rintro i v B Hc hv ⟨v7,rfl,gc,eV⟩;obtain⟨h,hh,Ŵ⟩:=bR lr27 hv;obtain⟨tt,ys,rfl,ey,a1,a2⟩:=MP hh Ŵ;obtain⟨ny,ey⟩:=nE ey;have ty:Hc tt=YV (.tup ys):=gc.o _ _ (λm=>ny (by rw[OT.mp m];simp)) ey;have i13:i<13:=(O8.mp hh).1;have Sc:Hc S=YV (.dK (ą LR LV)):=gc.o _ _ (λm=>SV (OT.mp m)) S27;rfl'
  refine OZ {_,_,Py (Æ.of ty),a2,Ŀ Sc rfl (OZ {_,_,Py (Æ.of ty),a1,{_,gQ.k (k:=.inr (N i)) eV (aG (by rw[kJ,Qs];lia)),_,rfl,gc.trans (Go.at OX _),?_}})};rw[iQ D () (λj hj=>by have:=Qv.mp hj;lia) (λm=>by have:=Qv.mp m;lia),<-Q6];rw[ao];congr 2;refine xI λj hj=>?_;by_cases e:j=i
  ·rw[e,dE]
  rw[fV _ _ e]
 rintro B X28 ⟨v7,rfl,g28,V28⟩;rw[lx]at V28;refine K11 _ _ ?_;have ύ:∀x:RB,x≠LV->x∉[LV]:=λx h m=>h (OT.mp m);have n28:=g28.o _ _ (ύ _ lnV) n27;have k28:=g28.o _ _ (ύ _ LkV) k27;have S28:=g28.o _ _ (ύ _ SV) S27;rfl'
 refine ah λM12 K12=>{_,rfl,_,rfl,OZ {ln,_,rfl,À.of n28,λp3 hp3=>?_}};rw[show lI (nmL N) (YV 7) (YV 11)=nV N [7,8,9,10]from rfl];obtain⟨s29,e29⟩:=Ð hp3 (HO.lst (nV N [7,8,9,10]));generalize upd X28 p3 _=X29 at s29 e29⊢;refine Ì (À.of (s29 _ _ k28)) (sO rk (i:=5) ∅) (Ì (À.of (s29 _ _ k28)) (sO rk (i:=6) ∅) {by show 4<=sizeLine;decide,λp4 hp4=>?_});rw[show[V.int 0,V.int (rk 5),V.int 2,V.int (rk 6)]=(w4 rk).map V.int from rfl];obtain⟨s30,e30⟩:=Ð hp4 (HO.lst ((w4 rk).map V.int));generalize upd X29 p4 _=X30 at s30 e30⊢;have Č:=s29.trans s30;have V30:=Č _ _ V28;have S30:=Č _ _ S28;have n30:=Č _ _ n28;have e29':=s30 _ _ e29;have p3V:p3≠LV:=YX hp3 V28;have p4V:p4≠LV:=YX hp4 (s29 _ _ V28);have gA:Go [S,LV] H [S,LV] X30:=(g27.trans (g28.to' SV)).trans (Go.new Č);refine{_,_,rfl,{_,À.of e29'},{_,À.of e30},Cv (K:=K) (xs:=nV N [7,8,9,10]) (ys:=(w4 rk).map V.int) (λi B Hc=>∃v8 v9,B=[YV (.ref a),YV (.ref S),YV (.ref ln),YV (.ref lk),YV (.int z),YV (.ref L9),YV (.int t),v7,v8,v9]/\Go [LV] X30 [LV] Hc/\Hc LV=YV (.dK (dk N (RX 13) λj=>.int (v2 rk z i j)))) {YW,YW,rfl,Go.refl _ _,?_} (λi B Hc _ ⟨_,_,_,gc,_⟩=>{À.of (gc.o _ _ (ύ _ p3V) e29'),À.of (gc.o _ _ (ύ _ p4V) e30)}) rfl ?_ ?_}
 ·rw[V30,show(λj:Nat=>V.int (v2 rk z 0 j))=λj=>.int (v1 rk z j)from funext λj=>by unfold v2;rw[if_neg ()]]
 ·rintro i x y B Hc tp hx hy ⟨v8,v9,rfl,gc,eV⟩ é;have i4:i<4:=(O8.mp hx).1;have ex:x=.str (N (7+i)):=by
   have:=lt4 i ();rcases this with rfl|rfl|rfl|rfl<;>(cases hx;rfl)
  have ey:y=.int ((w4 rk).getD i 0):=by
   have:=lt4 i ();rcases this with rfl|rfl|rfl|rfl<;>(cases hy;rfl)
  subst ex ey;obtain⟨s4,e4⟩:=Ð é (HO.tup [V.str (N (7+i)),.int ((w4 rk).getD i 0)]);generalize upd Hc tp _=Hd at s4 e4⊢;have Sc:Hd S=YV (.dK (ą LR LV)):=s4 _ _ (gc.o _ _ (ύ _ SV) S30);refine{tp,_,rfl,Æ.of e4,rfl,_,_,rfl,_,_,rfl,rfl,Ŀ Sc rfl {_,gQ.k (k:=.inr (N (7+i))) (s4 _ _ eV) (aG (by rw[kJ,Qs];decide)),_,_,rfl,(gc.trans (Go.new s4)).trans (Go.at OX _),?_}};rw[Aa D (λj hj=>by have:=Qv.mp hj;lia) (Qv.mpr ()),ao];congr 2;refine xI λj hj=>?_;unfold v2;by_cases e:j=7+i
  ·rw[e,dE,if_pos (),show 7+i-7=i by lia]
  rw[fV _ _ e];by_cases e2:7<=j/\j<7+i
  ·rw[if_pos e2,if_pos ()]
  rw[if_neg e2,if_neg ()]
 rintro B X31 ⟨v8,v9,rfl,g31,V31⟩;have V31:X31 LV=YV (.dK (dk N (RX 13) λj=>.int (v2 rk z 4 j))):=V31;refine K12 _ _ ?_;have S31:=g31.o _ _ (ύ _ SV) S30;have n31:=g31.o _ _ (ύ _ lnV) n30;rfl'
 refine ah λM13 K13=>{_,rfl,_,rfl,OZ {ln,_,rfl,À.of n31,λlm hlm=>?_}};rw[show lI (nmL N) (YV 11) (YV 13)=nV N [11,12]from rfl];obtain⟨s32,e32⟩:=Ð hlm (HO.lst (nV N [11,12]));generalize upd X31 lm _=X32 at s32 e32⊢;refine{_,gQ.k (k:=.inr "marks") (s32 _ _ S31) (show 2<sizeLine by decide),K13 _ _ ?_};rw[show Y2 (ą LR LV) (.inr "marks") (.ref lm)=st6 LR LV lm from rfl];have R31:=g31.o _ _ (ύ _ LRV) (Č _ _ (g28.o _ _ (ύ _ LRV) R27));have lmS:lm≠S:=YX hlm S31;have lmR:lm≠LR:=YX hlm R31;have g32:=(gA.trans (g31.to' SV)).trans (Go.new s32);have lm0:H lm=YW:=by
  cases e:H lm with
  |none=>rfl
  |some o=>
   have lmV:lm≠LV:=YX hlm V31;have:=(gA.trans (g31.to' SV)).o lm o (λm=>by
    simp only[O4,Pw,or_false]at m;rcases m with m|m
    ·exact lmS m
    exact lmV m) e
   rw[hlm]at this;cases this
 have g2731:Go [LV] X27 [LV] X32:=((g28.trans (Go.new Č)).trans g31).trans (Go.new s32);refine q ln LR lm rk z t (xs.drop t++xs.take t) _ hrk z1 z4 (g32.trans (Go.at OX _)) ln1 LR0' lm0 lnR lmR ao (aF SV.symm (s32 _ _ V31)) (aF LRS (s32 _ _ R31)) (aF lmS e32) (aF lnS (s32 _ _ n31)) ?_;have lrZ:Paired (fJ N (del [S,LR,LV] (upd X32 S (.dK (st6 LR LV lm))))) xs (gz rk z):=Paired.gR lr27 λ_ _=>fJ.same λx o e=>by
  obtain⟨m,e⟩:=nE e;refine bT m (aF (λy=>m (by rw[y];exact OX)) (g2731.o _ _ (λy=>m ?_) e));rw[OT.mp y];simp
 exact Paired.two (Paired.IV t lrZ) (Paired.Jc t lrZ)
theorem zg{r:Lr}(h:r.w="given"):∃i m z,r=.Ç i m z:=by
 cases r with
 |Ç i m z=>exact⟨i,m,z,rfl⟩
 |hand _ _=>exact absurd h (show ¬ ("hand":Str)="given" by decide)
 |own _ _=>exact absurd h (show ¬ ("own":Str)="given" by decide)
 |lt _ _=>exact absurd h (show ¬ ("let":Str)="given" by decide)
 |set _ _=>exact absurd h (show ¬ ("set":Str)="given" by decide)
 |put _ _ _=>exact absurd h (show ¬ ("put":Str)="given" by decide)
 |snd _ _=>exact absurd h (show ¬ ("send":Str)="given" by decide)
 |say _ _ _=>exact absurd h (show ¬ ("say":Str)="given" by decide)
 |call _ _=>exact absurd h (show ¬ ("call":Str)="given" by decide)
 |last=>exact absurd h (show ¬ ("last":Str)="given" by decide)
theorem Bb{X:Hp}{r dx:RB}{n:Int}{l:Lr}(o:l.ob N=YW)(h:X r=YV (.ins (Ğ A l.ci) dx (("number",.int n)::l.fs N dx))):aS A N X (.ref r) (.leaf n l):=by
 unfold aS;exact{r,dx,dx,rfl,h,λo' e=>by rw[o]at e;cases e}
structure ŕ(A:Ï)(N:Nat->Str)(H:Hp)(L:RB)(Hc:Hp)(xs:List V)(hs:List Pt):Prop where
 s:ak H Hc
 e:Hc L=YV (.lst xs)
 p:Paired (aS A N (del [L] Hc)) xs hs
theorem ŕ.add{H Hc H6:Hp}{L r:RB}{xs:List V}{hs:List Pt}{h:Pt}(D:ŕ A N H L Hc xs hs)(L0:H L=YW)(s:ak Hc H6)(hr:Hc r=YW)(hx:∀X:Hp,(∀o,H6 r=YV o->X r=YV o)->aS A N X (.ref r) h):H6 L=YV (.lst xs)/\ŕ A N H L (upd H6 L (.lst (xs++[.ref r]))) (xs++[.ref r]) (hs++[h]):=by
 have rL:r≠L:=λz=>by rw[z,D.e]at hr;cases hr
 have z:ak (del [L] Hc) (del [L] (upd H6 L (.lst (xs++[.ref r])))):=λa o e=>by
  obtain⟨h1,h2⟩:=nE e;exact bT h1 (aF (λz=>h1 (by rw[z];exact OX)) (s _ _ h2))
 refine{s _ _ D.e,ak.out (D.s.trans s) L0 _,ao,T6 (hx _ λo e=>?_) (Paired.gR D.p λ_ _=>aS.same z _ _)};exact bT (λm=>rL (OT.mp m)) (aF rL e)
theorem ŕ.len{H Hc:Hp}{L:RB}{xs:List V}{hs:List Pt}(D:ŕ A N H L Hc xs hs):xs.length=hs.length:=RN D.p
def Lr.ix:Lr->Nat
 | .hand i _=>i| .Ç i _ _=>i| .own i _=>i| .lt i _=>i|_=>0
theorem js{α β:Type}{F:α->β->Prop}{xs:List α}{ys:List β}(h:Paired F xs ys):Paired (λy x=>F x y) ys xs:=by
 induction h with
 |nil=>exact .nil
 |cons h _ ih=>exact .cons h ih
theorem ŕ.qW{H Hc H6:Hp}{L r:RB}{xs:List V}{hs:List Pt}{h:Pt}(D:ŕ A N H L Hc xs hs)(L0:H L=YW)(s:ak Hc H6)(hx:aS A N (del [L] H6) (.ref r) h):H6 L=YV (.lst xs)/\ŕ A N H L (upd H6 L (.lst (xs++[.ref r]))) (xs++[.ref r]) (hs++[h]):=by
 have z:ak (del [L] H6) (del [L] (upd H6 L (.lst (xs++[.ref r])))):=λa o e=>by
  obtain⟨h1,h2⟩:=nE e;exact bT h1 (aF (λz=>h1 (by rw[z];exact OX)) h2)
 have z2:ak (del [L] Hc) (del [L] H6):=λa o e=>by
  obtain⟨h1,h2⟩:=nE e;exact bT h1 (s _ _ h2)
 exact{s _ _ D.e,ak.out (D.s.trans s) L0 _,ao,T6 (aS.same z _ _ hx) (Paired.gR D.p λ_ _=>aS.same (z2.trans z) _ _)}
theorem HN(ns:List Int){i j:Nat}(h:i<=j):∃ci:List Int,lI (ns.map V.int) (YV (i:Int)) (YV (j:Int))=ci.map V.int/\ci.length<=j-i:=⟨_,Fy _ _ _ _,by
 rw[Pq,HT.kQ,HT.kQ];lia⟩
theorem Ji{N:Nat->Str}{ls:List Lr}{q:Lr->Bool}{ys:List V}{m:Int}(p:Paired (λ(e:Lr) y=>y=V.str (N e.ix)) (ls.filter q) ys)(l:ys.length=3)(h0:0<=m)(h1:m<3):∃e,e∈ls/\q e=true/\ô ys m=YV (.str (N e.ix)):=by
 obtain⟨k,rfl⟩:∃k:Nat,m=(k:Int):={m.toNat,()};have hk:k<ys.length:=()
 obtain⟨y,hy⟩:∃y,ys[k]?=YV y:={_,OV hk};obtain⟨e,he,r⟩:=bR (js p) hy;obtain⟨m1,m2⟩:=Pu.mp (OY he);exact{e,m1,m2,by rw[<-r];exact dY hy}
inductive Ž:Lr->Prop
 |hand (k:Nat) (r:Int) (h:k<25):Ž (.hand k r)
 |Ç (k:Nat) (r:Int) (z:Nat) (h:k<25) (hz:z<=4):Ž (.Ç k r z)
 |own (k z:Nat) (h:k<25) (hz:z<=4):Ž (.own k z)
 |lt (k:Nat) (r:Int) (h:k<25):Ž (.lt k r)
theorem Fg(rk:Nat->Int){z:Nat}(hz:z<=4)(t:Nat):∀l∈ě t (gz rk z),Ž l:=λl m=>by
 have m:l∈gz rk z:=by
  unfold ě at m;rcases Pa.mp m with m|m
  ·exact List.mem_of_mem_drop m
  exact Pz m
 unfold gz at m;simp only[O4,Pw,or_false]at m;rcases m with rfl|rfl|rfl|rfl|rfl|rfl|rfl|rfl|rfl|rfl|rfl|rfl|rfl
 ·exact .hand _ _ ∅
 ·exact .hand _ _ ∅
 ·exact .hand _ _ ∅
 ·exact .Ç _ _ 0 ∅ ∅
 ·exact .Ç _ _ 0 ∅ ∅
 ·exact .Ç _ _ 0 ∅ ∅
 ·exact .Ç _ _ z ∅ hz
 ·exact .own _ 0 ∅ ∅
 ·exact .own _ 0 ∅ ∅
 ·exact .own _ 0 ∅ ∅
 ·exact .own _ z ∅ hz
 ·exact .lt _ _ ∅
 exact .lt _ _ ∅
def bp:Nat->List Lr->List Pt
 |_,[]=>[]
 |n,l::r=>.leaf (n:Int) l::bp (n+1) r
theorem fb:∀(n:Nat)(ls:List Lr),(bp n ls).length=ls.length
 |_,[]=>rfl
 |n,l::r=>congrArg Nat.succ (fb (n+1) r)
theorem pD:∀(n:Nat)(ls:List Lr)(i:Nat)(l:Lr),ls[i]?=YV l->(bp n ls)[i]?=YV (.leaf ((n+i:Nat):Int) l)
 |_,[],_,_,h=>by cases h
 |n,_::r,0,l,h=>by cases h;rfl
 |n,_::r,i+1,l,h=>by
  rw[show n+(i+1)=n+1+i by lia];exact pD (n+1) r i l h
theorem f7:∀(n:Nat)(ls:List Lr)(p:Pt),p∈bp n ls->∃(m:Int)(l:Lr),l∈ls/\p=.leaf m l
 |_,[],_,h=>by cases h
 |n,l::r,p,h=>by
  rcases O4.mp h with h|h
  ·exact{_,l,OX,h}
  obtain⟨m,l2,a,b⟩:=f7 (n+1) r p h;exact{m,l2,O2 _ a,b}
theorem vg:∀(n:Nat)(a:List Lr)(l:Lr),bp n (a++[l])=bp n a++[.leaf ((n+a.length:Nat):Int) l]
 |n,[],l=>rfl
 |n,b::a,l=>by
  show Pt.leaf (n:Int) b::bp (n+1) (a++[l])=_;rw[vg (n+1) a l,Pf,show n+1+a.length=n+(a.length+1) by lia];rfl
theorem rN{α:Type}{xs:List α}{i:Nat}{x:α}(h:xs[i]?=YV x):xs.take (i+1)=xs.take i++[x]:=by
 rw[PB,h];rfl
theorem BW(t:Nat)(xs:List Lr):(ě t xs).length=xs.length:=by
 unfold ě;rw[O5,QO,Pq];lia
theorem oE(q:Lr->Bool)(t:Nat)(xs:List Lr):((ě t xs).filter q).length=(xs.filter q).length:=by
 unfold ě;rw[PZ,O5,Nat.add_comm,<-O5,<-PZ,Ql]
def isH(l:Lr):Bool:=decide (l.w="hand")
def ϡ(l:Lr):Bool:=decide (l.w="given")&&(match l with| .Ç _ _ z=>decide (z=0)|_=>true)
theorem Hn(rk:Nat->Int)(z:Int):((gz rk z).filter isH).length=3:=rfl
theorem LN(rk:Nat->Int){z:Int}(hz:1<=z):((gz rk z).filter ϡ).length=3:=by
 have:decide (z=0)=false:=decide_eq_false ();show((([.hand 0 0,.hand 1 1,.hand 2 2,.Ç 3 (2-rk 0%2) 0,.Ç 4 (rk 1) 0,.Ç 5 0 0]:List Lr)++(Lr.Ç 6 (rk 2) z::([.own 7 0,.own 8 0,.own 9 0,.own 10 z,.lt 11 (rk 3),.lt 12 (rk 4%2)]:List Lr))).filter ϡ).length=3;rw[PZ,QA (a:=Lr.Ç 6 (rk 2) z) (by show ¬ (decide (("given":Str)="given")&&decide (z=0))=true;rw[this];simp)];rfl
def nQ(ls rs:List Lr):Prop:=rs.length<=30/\∀r∈rs,∃x y:Lr,x∈ls/\isH x=true/\y∈ls/\ϡ y=true/\r=.snd x.ix (.one (.x y.ix))
inductive BQ(A:Ï)(K:RG)(vs:List V)(H:Hp)(Q:VK)(Ã:XK):Prop
 |mk(a LR:RB)(ns:List Int)(rows:List V)(N:Nat->Str)(rk:Nat->Int)(z t:Nat):vs=[.ref a,.ref LR]->À K H a (ns.map V.int)->H LR=YV (.lst rows)->Paired (fJ N H) rows (ě t (gz rk z))->1<=z->z<=4->(∀(v:V)(H':Hp)(rs:List Lr),ak H H'->ka A N H' v (bp 1 (ě t (gz rk z))) [] (bp 15 rs)->nQ (ě t (gz rk z)) rs->Q v H')->BQ A K vs H Q Ã
theorem Kg(T:Txt K mg A):T.sv.Hz P w base 6 (BQ A K):=by
 refine T.sv.hs (k:=5) cR (λf Â A' outer s H vs Q E' hr hu h=>?_);obtain⟨a,LR,ns,rows,N,rk,z,t,rfl,hA,hR,hP,z1,z4,q⟩:=h;have h4:=Fg rk z4 t;obtain⟨ls,Ν⟩:∃ls,ls=ě t (gz rk z):={_,rfl};have l13:ls.length=13:=by rw[Ν,BW];rfl
 have fH:(ls.filter isH).length=3:=by rw[Ν,oE,Hn]
 have fN:(ls.filter ϡ).length=3:=by rw[Ν,oE,LN rk ()]
 rw[<-Ν]at h4 hP q;have lr:rows.length=13:=by rw[RN hP,l13]
 have at_:∀{X:Hp},ak H X->À K X LR rows:=λz=>À.of (z _ _ hR);clear Ν z1 z4;refine⟨_,(af (É 2 cR.nd (aP ae))
 (af (bc RO rfl (ee rfl T.fj (Ó eZ T.fY (fv 1^ae)^ae)) (Ò (i:=3) cR.nd rfl)
  (af (aN (Ö (bY hu) (px hu (px hu (fv 1) (fv 3)) ag) aK)
   (aj (aT (bP (fv 2) (i6 T.d7 (ue T) hr (aE aX (fv 3) ag^px hu (px hu (fv 1) (fv 3)) ag^px hu (px hu (fv 1) (fv 3)) ag^ae)^ae))))
   aH)
  (af (aN (Ö (bY hu) (px hu (px hu (fv 1) (fv 3)) ag) aK)
   (aj (aT (bP (fv 2) (i6 T.aR (rh T) hr (aE aX (fv 3) ag^px hu (px hu (fv 1) (fv 3)) ag^px hu (px hu (fv 1) (fv 3)) ag^px hu (px hu (fv 1) (fv 3)) ag^ae)^ae))))
   aH)
  (af (aN (Ö (bY hu) (px hu (px hu (fv 1) (fv 3)) ag) aK)
   (aj (aT (bP (fv 2) (i6 T.cC (uQ T) hr (aE aX (fv 3) ag^px hu (px hu (fv 1) (fv 3)) ag^px hu (px hu (fv 1) (fv 3)) ag^ae)^ae))))
   aH)
  (aj (aN (Ö (bY hu) (px hu (px hu (fv 1) (fv 3)) ag) aK)
   (aj (aT (bP (fv 2) (i6 T.cG (uM T) hr (aE aX (fv 3) ag^px hu (px hu (fv 1) (fv 3)) ag^px hu (px hu (fv 1) (fv 3)) ag^ae)^ae))))
   aH))))))
 (af (iT (j:=4) (N:=["_law_row"]) (own:=1) (fr:=[]) (bI.of (by kernel_rfl!)) rfl cR.nd rfl (OZ rfl) (aW (fv 1)) (λb=>Ò (i:=0) (show R9 (["_law_row"]:List Sl) by decide+kernel) rfl) (λb=>oK (Ö (bY hu) (px hu (fv 0) ag) aK)) (λb=>px hu (fv 0) ag))
 (af (iT (j:=5) (N:=["_law_row"]) (own:=1) (fr:=[]) (bI.of (by kernel_rfl!)) rfl cR.nd rfl (OZ rfl) (aW (fv 1)) (λb=>Ò (i:=0) (show R9 (["_law_row"]:List Sl) by decide+kernel) rfl) (λb=>oK (PW.pt (pw_and (Ö (bY hu) (px hu (fv 0) ag) aK) (pw_and1 (Ö (bY hu) (px hu (fv 0) ag) ag))))) (λb=>px hu (fv 0) ag))
 (af (É 6 cR.nd (aP ae))
 (af (bc RO rfl (aW (eY kC (fv 0) (dj ag) (dj ag))) (Ò (i:=7) cR.nd rfl)
  (af (É 8 cR.nd (px hu (fv 4) (au (Cb T) hr (fv 7^ag^ag^ae))))
  (aj (aT (bP (fv 6) (i6 T.bE (sY T) hr (aE aX (aE aX (Ó eZ T.fY (fv 1^ae)) ag) (Ó eZ T.fY (fv 6^ae))^fv 8^aQ (px hu (fv 5) (au (Cb T) hr (fv 7^ag^ag^ae))^ae)^ae)^ae))))))
 (aj (aD (i6 T.bu (tS T) hr (fv 2^aP ae^fv 6^ae)))))))))),?_⟩
 refine ah λM1 K1=>{Pc _,λL hL=>K1 _ _ ?_};obtain⟨s1,e1⟩:=Ð hL (HO.lst []);have D0:ŕ A N H L (upd H L (.lst [])) [] ((bp 1 ls).take 0):=⟨s1,e1,.nil⟩;have L0:=hL;generalize upd H L _=H1 at D0⊢;clear K1 M1 s1 e1 hL;rfl'
 refine ah λM1 K1=>OZ {_,_,rfl,OZ {_,at_ D0.s,rfl},_,rfl,(),(),?_};rw[PL];refine j8 (lo:=0) (λi B Hc=>∃(xs:List V)(v3:Option V),B=[YV (.ref a),YV (.ref LR),YV (.ref L),v3,YW,YW,YW,YW,YW]/\ŕ A N H L Hc xs ((bp 1 ls).take i)) {_,YW,rfl,D0} ?_ ?_
 ·rintro i B Hc hi' ⟨xs,v3,rfl,D⟩;rfl'
  rw[show(0:Int)+(i:Int)=(i:Int) by lia];have lx:xs.length<=13:=by rw[D.len,Pq,fb,l13];lia
  obtain⟨v,hv⟩:∃v,rows[i]?=YV v:={_,OV hi'};obtain⟨l,hl,b,p,rfl,et,_⟩:=bR hP hv;have ai:ô rows (i:Int)=YV (.ref b):=dY hv;have tk:=rN (pD 1 ls i l hl);cases h4 l (OY hl)with
  |hand k r kb=>
   refine ah λM2 K2=>Ì (at_ D.s) ai (Ø (j:=0) (Æ.of (D.s _ _ et)) rfl {rfl,_,rfl,bh (λ_=>?_) (λy=>absurd (decide_eq_true rfl) y)});refine{OZ {rfl,_,À.of D.e},(Ì (at_ D.s) ai (Ø (j:=1) (Æ.of (D.s _ _ et)) rfl (Ì (at_ D.s) ai (Ø (j:=2) (Æ.of (D.s _ _ et)) rfl (λr6 dx Ň hd_ hne_=>{_,_,_,_,_,_,rfl,rfl,Ň,hd_,λH6 s6 hx=>{rfl,?_}})))))};obtain⟨h5,D6⟩:=D.add (h:=.leaf ((1+i:Nat):Int) (.hand k r)) L0 s6 Ň (λX hX=>Bb rfl (by rw[show((1+i:Nat):Int)=(i:Int)+1 by lia];exact hX _ hx));refine{_,_,_,rfl,rfl,h5,aG (),K2 _ _ ?_};clear K2 M2;rfl'
   refine ah λM2 K2=>Ì (at_ D6.s) ai (Ø (j:=0) (Æ.of (D6.s _ _ et)) rfl {rfl,_,rfl,bh (λy=>absurd (V.str.inj (of_decide_eq_true y)) (show ¬ ("hand":Str)="given" by decide)) (λ_=>K2 _ _ ?_)});clear K2 M2;rfl'
   refine ah λM2 K2=>Ì (at_ D6.s) ai (Ø (j:=0) (Æ.of (D6.s _ _ et)) rfl {rfl,_,rfl,bh (λy=>absurd (V.str.inj (of_decide_eq_true y)) (show ¬ ("hand":Str)="own" by decide)) (λ_=>K2 _ _ ?_)});clear K2 M2;rfl'
   exact Ì (at_ D6.s) ai (Ø (j:=0) (Æ.of (D6.s _ _ et)) rfl {rfl,_,rfl,bh (λy=>absurd (V.str.inj (of_decide_eq_true y)) (show ¬ ("hand":Str)="let" by decide)) (λ_=>{_,_,rfl,by rw[tk];exact D6})})
  |Ç k r z kb zb=>
   refine ah λM2 K2=>Ì (at_ D.s) ai (Ø (j:=0) (Æ.of (D.s _ _ et)) rfl {rfl,_,rfl,bh (λy=>absurd (V.str.inj (of_decide_eq_true y)) (show ¬ ("given":Str)="hand" by decide)) (λ_=>K2 _ _ ?_)});clear K2 M2;rfl'
   refine ah λM2 K2=>Ì (at_ D.s) ai (Ø (j:=0) (Æ.of (D.s _ _ et)) rfl {rfl,_,rfl,bh (λ_=>?_) (λy=>absurd (decide_eq_true rfl) y)});refine{OZ {rfl,_,À.of D.e},(Ì (at_ D.s) ai (Ø (j:=1) (Æ.of (D.s _ _ et)) rfl (Ì (at_ D.s) ai (Ø (j:=2) (Æ.of (D.s _ _ et)) rfl (Ì (at_ D.s) ai (Ø (j:=3) (Æ.of (D.s _ _ et)) rfl (λr6 dx Ň hd_ hne_=>{_,_,_,_,_,_,_,rfl,rfl,Ň,hd_,λH6 s6 hx=>{rfl,?_}})))))))};obtain⟨h5,D6⟩:=D.add (h:=.leaf ((1+i:Nat):Int) (.Ç k r z)) L0 s6 Ň (λX hX=>Bb rfl (by rw[show((1+i:Nat):Int)=(i:Int)+1 by lia];exact hX _ hx));refine{_,_,_,rfl,rfl,h5,aG (),K2 _ _ ?_};clear K2 M2;rfl'
   refine ah λM2 K2=>Ì (at_ D6.s) ai (Ø (j:=0) (Æ.of (D6.s _ _ et)) rfl {rfl,_,rfl,bh (λy=>absurd (V.str.inj (of_decide_eq_true y)) (show ¬ ("given":Str)="own" by decide)) (λ_=>K2 _ _ ?_)});clear K2 M2;rfl'
   exact Ì (at_ D6.s) ai (Ø (j:=0) (Æ.of (D6.s _ _ et)) rfl {rfl,_,rfl,bh (λy=>absurd (V.str.inj (of_decide_eq_true y)) (show ¬ ("given":Str)="let" by decide)) (λ_=>{_,_,rfl,by rw[tk];exact D6})})
  |own k z kb zb=>
   refine ah λM2 K2=>Ì (at_ D.s) ai (Ø (j:=0) (Æ.of (D.s _ _ et)) rfl {rfl,_,rfl,bh (λy=>absurd (V.str.inj (of_decide_eq_true y)) (show ¬ ("own":Str)="hand" by decide)) (λ_=>K2 _ _ ?_)});clear K2 M2;rfl'
   refine ah λM2 K2=>Ì (at_ D.s) ai (Ø (j:=0) (Æ.of (D.s _ _ et)) rfl {rfl,_,rfl,bh (λy=>absurd (V.str.inj (of_decide_eq_true y)) (show ¬ ("own":Str)="given" by decide)) (λ_=>K2 _ _ ?_)});clear K2 M2;rfl'
   refine ah λM2 K2=>Ì (at_ D.s) ai (Ø (j:=0) (Æ.of (D.s _ _ et)) rfl {rfl,_,rfl,bh (λ_=>?_) (λy=>absurd (decide_eq_true rfl) y)});refine{OZ {rfl,_,À.of D.e},(Ì (at_ D.s) ai (Ø (j:=1) (Æ.of (D.s _ _ et)) rfl (Ì (at_ D.s) ai (Ø (j:=2) (Æ.of (D.s _ _ et)) rfl (λr6 dx Ň hd_ hne_=>{_,_,_,_,_,_,rfl,rfl,Ň,hd_,λH6 s6 hx=>{rfl,?_}})))))};obtain⟨h5,D6⟩:=D.add (h:=.leaf ((1+i:Nat):Int) (.own k z)) L0 s6 Ň (λX hX=>Bb rfl (by rw[show((1+i:Nat):Int)=(i:Int)+1 by lia];exact hX _ hx));refine{_,_,_,rfl,rfl,h5,aG (),K2 _ _ ?_};clear K2 M2;rfl'
   exact Ì (at_ D6.s) ai (Ø (j:=0) (Æ.of (D6.s _ _ et)) rfl {rfl,_,rfl,bh (λy=>absurd (V.str.inj (of_decide_eq_true y)) (show ¬ ("own":Str)="let" by decide)) (λ_=>{_,_,rfl,by rw[tk];exact D6})})
  |lt k r kb=>
   refine ah λM2 K2=>Ì (at_ D.s) ai (Ø (j:=0) (Æ.of (D.s _ _ et)) rfl {rfl,_,rfl,bh (λy=>absurd (V.str.inj (of_decide_eq_true y)) (show ¬ ("let":Str)="hand" by decide)) (λ_=>K2 _ _ ?_)});clear K2 M2;rfl'
   refine ah λM2 K2=>Ì (at_ D.s) ai (Ø (j:=0) (Æ.of (D.s _ _ et)) rfl {rfl,_,rfl,bh (λy=>absurd (V.str.inj (of_decide_eq_true y)) (show ¬ ("let":Str)="given" by decide)) (λ_=>K2 _ _ ?_)});clear K2 M2;rfl'
   refine ah λM2 K2=>Ì (at_ D.s) ai (Ø (j:=0) (Æ.of (D.s _ _ et)) rfl {rfl,_,rfl,bh (λy=>absurd (V.str.inj (of_decide_eq_true y)) (show ¬ ("let":Str)="own" by decide)) (λ_=>K2 _ _ ?_)});clear K2 M2;rfl'
   refine Ì (at_ D.s) ai (Ø (j:=0) (Æ.of (D.s _ _ et)) rfl {rfl,_,rfl,bh (λ_=>?_) (λy=>absurd (decide_eq_true rfl) y)});refine{OZ {rfl,_,À.of D.e},(Ì (at_ D.s) ai (Ø (j:=1) (Æ.of (D.s _ _ et)) rfl (Ì (at_ D.s) ai (Ø (j:=2) (Æ.of (D.s _ _ et)) rfl (λr6 dx Ň hd_ hne_=>{_,_,_,_,_,_,rfl,rfl,Ň,hd_,λH6 s6 hx=>{rfl,?_}})))))};obtain⟨h5,D6⟩:=D.add (h:=.leaf ((1+i:Nat):Int) (.lt k r)) L0 s6 Ň (λX hX=>Bb rfl (by rw[show((1+i:Nat):Int)=(i:Int)+1 by lia];exact hX _ hx));exact{_,_,_,rfl,rfl,h5,aG (),{_,_,rfl,by rw[tk];exact D6}}
 rintro B H2 ⟨xs,v3,rfl,D⟩;rw[lr]at D;rw[show(bp 1 ls).take 13=bp 1 ls from QG (by rw[fb,l13];exact OW _)]at D;refine K1 _ _ ?_;clear K1 M1 D0;rfl'
 have nt:∀{u v:Str},u≠v->¬ decide (V.str u=V.str v)=true:=λh y=>h (V.str.inj (of_decide_eq_true y));refine ah λM1 K1=>OZ {{_,at_ D.s},cI (K:=K) (own:=1) ls isH (λe y _=>y=.str (N e.ix)) (at_ D.s) (by rw[lr,l13]) (aG ()) ?_ (λ_ _ _ _ _ h=>h) (λ_ _ _ _ _ _ _ h=>h) ?_}
 ·intro b i x e v0 H3 Nn Y hx he hv s3 no yes;obtain⟨u0,rfl⟩:∃u0,v0=[u0]:=by
   match v0,hv with
   | [u],_=>exact⟨u,rfl⟩
  obtain⟨l,hl,b',p,rfl,et,_⟩:=bR hP hx;rw[he]at hl;cases hl;have t3:Æ K H3 b' _:=Æ.of ((D.s.trans s3) _ _ et);refine Ø (j:=0) t3 rfl {rfl,_,rfl,?_};cases h4 e (OY he)with
  |hand k r kb=>exact(if_pos (decide_eq_true rfl)).mpr ((Ø (j:=1) t3 rfl (yes rfl [YV (.ref b')] _ _ rfl (ak.refl _) rfl)))
  |Ç k r z kb zb=>exact(if_neg (nt (show("given":Str)≠"hand" by decide))).mpr (no (decide_eq_false (show("given":Str)≠"hand" by decide)) [YV (.ref b')] _ rfl (ak.refl _))
  |own k z kb zb=>exact(if_neg (nt (show("own":Str)≠"hand" by decide))).mpr (no (decide_eq_false (show("own":Str)≠"hand" by decide)) [YV (.ref b')] _ rfl (ak.refl _))
  |lt k r kb=>exact(if_neg (nt (show("let":Str)≠"hand" by decide))).mpr (no (decide_eq_false (show("let":Str)≠"hand" by decide)) [YV (.ref b')] _ rfl (ak.refl _))
 intro hl H3 y1 _ s3 el ph;refine K1 _ _ ?_;clear K1 M1;rfl'
 refine ah λM1 K1=>?_;have ŋ:=D.s.trans s3;refine OZ {{_,at_ ŋ},cI (K:=K) (own:=1) ls ϡ (λe y _=>y=.str (N e.ix)) (at_ ŋ) (by rw[lr,l13]) (aG ()) ?_ (λ_ _ _ _ _ h=>h) (λ_ _ _ _ _ _ _ h=>h) ?_}
 ·intro b i x e v0 H4 Nn Y hx he hv s4 no yes;obtain⟨u0,rfl⟩:∃u0,v0=[u0]:=by
   match v0,hv with
   | [u],_=>exact⟨u,rfl⟩
  obtain⟨l,hl,b',p,rfl,et,_⟩:=bR hP hx;rw[he]at hl;cases hl;have t3:Æ K H4 b' _:=Æ.of ((ŋ.trans s4) _ _ et);have nz:∀{u:Str}{c:Bool},u≠"given"->(decide (u="given")&&c)=false:=λh=>by rw[decide_eq_false h];rfl
  refine Ø (j:=0) t3 rfl {rfl,_,rfl,?_};cases h4 e (OY he)with
  |hand k r kb=>exact(if_neg (nt (show("hand":Str)≠"given" by decide))).mpr ((if_neg O3).mpr (no (nz (show("hand":Str)≠"given" by decide)) [YV (.ref b')] _ rfl (ak.refl _)))
  |Ç k r z kb zb=>
   refine(if_pos (decide_eq_true rfl)).mpr ((Ø (j:=3) t3 rfl {rfl,_,rfl,?_}));by_cases z0:(z:Int)=0
   ·exact(if_pos (decide_eq_true (by rw[z0]))).mpr ((Ø (j:=1) t3 rfl (yes (by show(decide (("given":Str)="given")&&decide ((z:Int)=0))=true;rw[decide_eq_true z0];rfl) [YV (.ref b')] _ _ rfl (ak.refl _) rfl)))
   exact(if_neg (λy=>z0 (V.int.inj (of_decide_eq_true y)))).mpr (no (by show(decide (("given":Str)="given")&&decide ((z:Int)=0))=false;rw[decide_eq_false z0];rfl) [YV (.ref b')] _ rfl (ak.refl _))
  |own k z kb zb=>exact(if_neg (nt (show("own":Str)≠"given" by decide))).mpr ((if_neg O3).mpr (no (nz (show("own":Str)≠"given" by decide)) [YV (.ref b')] _ rfl (ak.refl _)))
  |lt k r kb=>exact(if_neg (nt (show("let":Str)≠"given" by decide))).mpr ((if_neg O3).mpr (no (nz (show("let":Str)≠"given" by decide)) [YV (.ref b')] _ rfl (ak.refl _)))
 intro nl H4 y2 _ s4 en pn;refine K1 _ _ ?_;clear K1 M1;rfl'
 have el:=s4 _ _ el;have ph3:y1.length=3:=by rw[<-RN ph,fH]
 have pn3:y2.length=3:=by rw[<-RN pn,fN]
 refine ah λM1 K1=>{Pc _,λÔ hB=>K1 _ _ ?_};obtain⟨s5,e5⟩:=Ð hB (HO.lst []);have B0:ŕ A N H4 Ô (upd H4 Ô (.lst [])) [] ([]:List Pt):=⟨s5,e5,.nil⟩;generalize upd H4 Ô _=H5 at B0 s5⊢;clear K1 M1 e5;rfl'
 refine ah λM1 K1=>{_,rfl,_,rfl,OZ {a,_,rfl,((ŋ.trans s4).trans s5).seq hA,λpc hpc=>?_}};obtain⟨ci,eci,lci⟩:=HN ns (i:=8) (j:=38) ∅;have eci:lI (ns.map V.int) (YV 8) (YV 38)=ci.map V.int:=eci;rw[eci];obtain⟨s6,e6⟩:=Ð hpc (HO.lst (ci.map V.int));have pB:pc≠Ô:=YX hpc B0.e;have b6:=s6 _ _ B0.e;have t6:=B0.s.trans s6;generalize upd H5 pc _=H6 at b6 e6 t6⊢;have dB:∀{x:RB}{o:HO},H4 x=YV o->x≠Ô:=λe z=>by rw[z,hB]at e;cases e
 have t46:ak H4 (del [Ô] H6):=λx o e=>bT (λm=>dB e (OT.mp m)) (t6 _ _ e);have e6':del [Ô] H6 pc=YV (.lst (ci.map V.int)):=bT (λm=>pB (OT.mp m)) e6;have dB0:del [Ô] H6 Ô=YW:=if_pos (OT.mpr rfl);have B6:ŕ A N (del [Ô] H6) Ô H6 [] ([]:List Pt):=⟨iz,b6,.nil⟩;clear B0 s5 s6 b6 hpc hB;refine OZ {{_,À.of e6},a9 (K:=K) (xs:=ci.map V.int) (λi B Hc=>∃(ys:List V)(rs:List Lr)(v7 v8:Option V),B=[YV (.ref a),YV (.ref LR),YV (.ref L),v3,YV (.ref hl),YV (.ref nl),YV (.ref Ô),v7,v8]/\ŕ A N (del [Ô] H6) Ô Hc ys (bp 15 rs)/\rs.length=i/\∀r∈rs,∃x y:Lr,x∈ls/\isH x=true/\y∈ls/\ϡ y=true/\r=.snd x.ix (.one (.x y.ix))) {[],[],YW,YW,rfl,B6,rfl,λp m=>by cases m} (λi B Hc _ ⟨_,_,_,_,_,Db,_⟩=>À.of (Db.s _ _ e6')) ?_ ?_}
 ·rintro i v B Hc hx ⟨ys,rs,v7,v8,rfl,Db,lm,sd⟩;have li:i<30:=by
   have:=(O8.mp hx).1;rw[OU]at this;lia
  have ly:ys.length=i:=by rw[Db.len,fb,lm]
  rw[O7]at hx;obtain⟨c,_,rfl⟩:=Qg.mp hx;refine ah λM2 K2=>{c,0,3,rfl,∅,∅,λm H7 m0 m1 s7=>?_};obtain⟨x,mx,hx1,ex⟩:=Ji ph ph3 m0 m1;have t7:=(t46.trans Db.s).trans s7;refine Ì (À.of (t7 _ _ el)) ex (K2 _ _ ?_);clear K2 M2;rfl'
  have b7:=s7 _ _ Db.e;refine{OZ {rfl,_,À.of b7},Ŭ ((ŋ.trans (s4.trans t7)) _ _ hR) (Ŭ b7 {c,1,3,rfl,∅,∅,λm' H8 m0' m1' s8=>?_})};obtain⟨y,my,hy1,ey⟩:=Ji pn pn3 m0' m1';refine Ì (À.of ((t7.trans s8) _ _ en)) ey {by show 1<=sizeLine;decide,λtp é=>?_};obtain⟨s9,e9⟩:=Ð é (HO.tup [V.str (N y.ix)]);generalize upd H8 tp _=H9 at s9 e9⊢;refine λr6 dx Ň hd_ hne_=>{_,_,_,_,_,_,rfl,rfl,Ň,hd_,λHA sA hxA=>{rfl,?_}};have s7A:=(s7.trans s8).trans (s9.trans sA);have b8:=(s7.trans s8) _ _ Db.e;have tB:tp≠Ô:=YX é b8;have rB:r6≠Ô:=YX Ň (s9 _ _ b8);have en:((rows.length:Nat):Int)+2+((ys.length:Nat):Int)=((15+rs.length:Nat):Int):=()
  rw[en]at hxA;obtain⟨h5,D6⟩:=Db.qW (h:=.leaf ((15+rs.length:Nat):Int) (.snd x.ix (.one (.x y.ix)))) dB0 s7A (r:=r6) (by
   unfold aS;exact{r6,dx,tp,rfl,bT (λm=>rB (OT.mp m)) hxA,λo e=>by cases e;exact bT (λm=>tB (OT.mp m)) (sA _ _ e9)})
  refine{_,_,_,rfl,rfl,h5,aG (),_,rs++[.snd x.ix (.one (.x y.ix))],_,_,rfl,by rw[vg];exact D6,by rw[O5,lm];rfl,λp m=>?_};rcases Pa.mp m with m|m
  ·exact sd p m
  exact⟨x,y,mx,hx1,my,hy1,OT.mp m⟩
 rintro B H9 ⟨ys,rs,v7,v8,rfl,Db,lm,sd⟩;refine K1 _ _ ?_;clear K1 M1;rfl'
 refine{Pc _,λp0 hp0=>?_};obtain⟨ģ,e10⟩:=Ð hp0 (HO.lst []);generalize upd H9 p0 _=ę at ģ e10⊢;have t4:=s3.trans s4;have t9:=t46.trans Db.s;have t29:=(t4.trans t9).trans ģ;refine λrp dxp hrp hd_ hne_=>{_,_,_,_,_,_,_,_,_,rfl,rfl,hrp,hd_,(À.of (t29 _ _ D.e)),(À.of e10),(À.of (ģ _ _ Db.e)),λn1 n2 n3 H11 f1 f2 f3 s11 h1 h2 h3 hxp=>{rfl,q (.ref rp) H11 rs ((D.s.trans t29).trans s11) {rp,dxp,n1,n2,n3,_,_,_,rfl,hxp,h1,h2,h3,a8.of (js (Paired.gR D.p λ_ _=>aS.same (iz.trans (t29.trans s11)) _ _)),by unfold a8;rfl,a8.of (js (Paired.gR Db.p λ_ _=>aS.same (iz.trans (ģ.trans s11)) _ _))} {?_,sd}}};rw[OU]at lm;lia
def Ki(c:Int)(k j:Nat):Int:=if c/10^(18:Int).toNat=0 then c%10^(15:Int).toNat*((k:Int)+3)/((j:Int)+2)else c/2^(44*(4*(k:Int)+(j:Int))+1).toNat
def gnm(c:Int)(k j:Nat):Int:=Gv (Ki c k j)
def Ϭ(c:Int)(k z:Nat):List Int:=(RX z).map (gnm c k)
theorem JN{c n:Int}{k z:Nat}(h:n∈Ϭ c k z):In n:=by
 obtain⟨j,_,rfl⟩:=Pj.mp h;exact Bs _
def gCl(c:Int)(k z:Nat):Cl:=if z=0 then .num (gnm c k 0)else .lst (Ϭ c k z)
theorem EX(c:Int)(k z:Nat):(gCl c k z).fits z:=by
 unfold gCl;split
 ·next h=>exact{h,Bs _}
 exact{by unfold Ϭ;rw[OU,Qs],(),λa h=>JN h}
inductive Bk(vs:List V)(H:Hp)(Q:VK)(Ã:XK):Prop
 |mk(c:Int)(k z:Nat):vs=[.int c,.int k,.int z]->k<=500->z<=4->(∀v H',ak H H'->df H' v (gCl c k z)->Q v H')->Bk vs H Q Ã
theorem Jq(T:Txt K mg A):T.uA.Hz P w base 2 Bk:=by
 refine T.uA.hs (k:=1) ju (λf Â A' outer s H vs Q E hr hu h=>?_);obtain⟨c,k,z,rfl,hk,hz,q⟩:=h;refine⟨_,(af (É 3 ju.nd (aP ae))
 (af (bc RO rfl (ee rfl T.fj (Ó Mi T.Cp (ag^fv 2^ae)^ae)) (Ò (i:=4) ju.nd rfl)
  (af (É 5 ju.nd (Ď EN T.uW (pec (CW hu) (aE de (fv 0) (aE pF ag ag)) ag^ae)))
  (aj (aT (bP (fv 3) (au (LB T) hr (px hu (aP (aE de (aE kO (aE bM (fv 0) (aE pF ag ag)) (aE aX (fv 1) ag)) (aE aX (fv 4) ag)^aE IT (fv 0) (aE aX (aE kO ag (aE aX (aE kO ag (fv 1)) (fv 4))) ag)^ae)) (fv 5)^ae)^ae))))))
 (af (aN (Ö (bY hu) (fv 2) ag)
  (aj (aD (px hu (fv 3) ag)))
  aH)
 (aj (aD (fv 3)))))),?_⟩
 refine ah λM1 K1=>{Pc _,λL hL=>?_};obtain⟨s1,e1⟩:=Ð hL (HO.lst []);generalize upd H L _=H1 at s1 e1⊢;refine K1 _ _ ?_;clear K1 M1;rfl'
 refine ah λM1 K1=>{_,_,rfl,?_};rw[show(if(z:Int)>1 then(z:Int)else 1)=((max 1 z:Nat):Int) by split<;>lia];refine{_,rfl,(),(),?_};rw[PL];refine j8 (lo:=0) (λi B Hc=>∃(v4 v5:Option V),B=[YV (.int c),YV (.int k),YV (.int z),YV (.ref L),v4,v5]/\ak H Hc/\Hc L=YV (.lst ((Ϭ c k i).map V.int))) ⟨YW,YW,rfl,s1,e1⟩ ?_ ?_
 ·rintro i B Hc hi ⟨v4,v5,rfl,sc,Ι⟩;rfl'
  rw[show(0:Int)+(i:Int)=(i:Int) by lia];refine ah λM2 K2=>{{∅,∅,∅},{∅,∅},rfl,_,rfl,K2 _ _ ?_};clear K2 M2;rfl'
  refine{OZ {rfl,_,À.of Ι},{∅,∅,∅},(by show(0:Int)<10^(15:Int).toNat;decide),.inr {(),()},{(),()},.inl {∅,∅},.inl {∅,∅},(by show(0:Int)<=44*(4*(k:Int)+(i:Int))+1;lia),{by show 2<=sizeLine;decide,λl hl=>?_}};obtain⟨s3,e3⟩:=Ð hl (HO.lst [V.int (c%10^(15:Int).toNat*((k:Int)+3)/((i:Int)+2)),V.int (c/2^(44*(4*(k:Int)+(i:Int))+1).toNat)]);have lL:l≠L:=YX hl Ι;have ll:(Ϭ c k i).length<=1000:=by
   unfold Ϭ;rw[OU,Qs];lia
  have eg:Ϭ c k (i+1)=Ϭ c k i++[gnm c k i]:=by
   unfold Ϭ;rw[Q6,PM];rfl
  refine OZ ?_;by_cases c0:c/10^(18:Int).toNat=0
  ·rw[show decide (V.int (c/10^(18:Int).toNat)=V.int 0)=true from decide_eq_true (by rw[c0])];refine{_,_,OZ (À.of e3),rfl,_,rfl,{_,_,_,rfl,rfl,aF lL.symm Ι,aG (by rw[OU];exact ll),{_,_,rfl,ak.out (sc.trans s3) hL _,?_}}};rw[ao,eg,PM];unfold gnm Ki;rw[if_pos c0];rfl
  rw[show decide (V.int (c/10^(18:Int).toNat)=V.int 0)=false from decide_eq_false (λy=>c0 (V.int.inj y))];refine{_,_,OZ (À.of e3),rfl,_,rfl,{_,_,_,rfl,rfl,aF lL.symm Ι,aG (by rw[OU];exact ll),{_,_,rfl,ak.out (sc.trans s3) hL _,?_}}};rw[ao,eg,PM];unfold gnm Ki;rw[if_neg c0];rfl
 rintro B Hc ⟨v4,v5,rfl,sc,Ι⟩;refine K1 _ _ ?_;clear K1 M1;rfl'
 refine ah λM1 K1=>{rfl,_,rfl,bh (λy=>?_) (λy=>K1 _ _ ?_)}
 ·have y:(z:Int)=0:=V.int.inj (of_decide_eq_true y);have y:z=0:=()
  subst y;exact Ì (À.of Ι) rfl (q _ _ sc rfl)
 have y:z≠0:=λe=>y (decide_eq_true (by rw[e];rfl));rw[show max 1 z=z by lia]at Ι;exact q _ Hc sc (by unfold gCl;rw[if_neg y];exact⟨L,rfl,Ι⟩)
def gi1:Lr->Option Nat
 | .Ç i _ _=>YV i
 |_=>YW
def Ü(ls:List Lr):List Nat:=ls.filterMap gi1
theorem vX{ls:List Lr}{i:Nat}(h:i∈Ü ls):∃r z,Lr.Ç i r z∈ls:=by
 obtain⟨l,m,e⟩:=PR.mp h;cases l with
 |Ç i' r z=>cases e;exact⟨r,z,m⟩
 |_=>cases e
theorem jc{ls:List Lr}{i:Nat}{r z:Int}(h:Lr.Ç i r z∈ls):i∈Ü ls:=PR.mpr {_,h,rfl}
theorem pN(ls:List Lr)(l:Lr):Ü (ls++[l])=Ü ls++(match gi1 l with|some i=>[i]|none=>[]):=by
 unfold Ü;rw[VZ];congr 1;cases h:gi1 l<;>simp[h]
theorem Bv(ls:List Lr):(Ü ls).length<=ls.length:=Qy _ _
def nM(f:Nat->Cl)(i:Nat)(v:Cl):Nat->Cl:=λj=>if j=i then v else f j
def gN(N:Nat->Str)(H:Hp)(g:RB)(ls:List Lr)(cl:Nat->Cl):Prop:=∃f,H g=YV (.dK (dk N (Ü ls) f))/\∀x r y,Lr.Ç x r y∈ls->df H (f x) (cl x)/\(cl x).fits y.toNat
theorem gN.same{H H':Hp}{g:RB}{ls:List Lr}{cl:Nat->Cl}(s:ak H H')(h:gN N H g ls cl):gN N H' g ls cl:=by
 obtain⟨f,e,h⟩:=h;exact{f,s _ _ e,λx r y m=>{(h x r y m).1.same s,(h x r y m).2}}
theorem df.but{H:Hp}{g:RB}{v:V}{c:Cl}{o:HO}{kvs:List (Key×V)}(h:df H v c)(e:H g=YV (.dK kvs)):df (upd H g o) v c:=by
 cases c with
 |num n=>exact h
 |lst rs=>
  obtain⟨a,e1,e2⟩:=h;exact{a,e1,aF (λz=>by rw[z,e]at e2;cases e2) e2}
theorem gN.but{H:Hp}{g g':RB}{ls:List Lr}{cl:Nat->Cl}{o:HO}{kvs:List (Key×V)}(h:gN N H g ls cl)(ne:g≠g')(e:H g'=YV (.dK kvs)):gN N (upd H g' o) g ls cl:=by
 obtain⟨f,e1,h⟩:=h;exact{f,aF ne e1,λx r y m=>{(h x r y m).1.but e,(h x r y m).2}}
theorem gN.skip{H:Hp}{g:RB}{ls:List Lr}{cl:Nat->Cl}{l:Lr}(h:gN N H g ls cl)(n:gi1 l=YW):gN N H g (ls++[l]) cl:=by
 obtain⟨f,e,h⟩:=h;refine{f,by rw[pN,n];simpa using e,λx r y m=>?_};rcases Pa.mp m with m|m
 ·exact h x r y m
 rw[<-OT.mp m]at n;cases n
theorem gN.put{H:Hp}{g:RB}{ls:List Lr}{cl:Nat->Cl}{f:Nat->V}{x:Nat}{r:Int}{y:Int}{v:V}{c:Cl}(D:dO N)(hx:x<25)(hb:∀j∈Ü ls,j<25)(nw:x∉Ü ls)(e:H g=YV (.dK (dk N (Ü ls) f)))(h:∀x r y,Lr.Ç x r y∈ls->df H (f x) (cl x)/\(cl x).fits y.toNat)(hc:df H v c)(hf:c.fits y.toNat):gN N (upd H g (.dK (Y2 (dk N (Ü ls) f) (.inr (N x)) v))) g (ls++[.Ç x r y]) (nM cl x c):=by
 refine{p6 f x v,?_,λx' r' y' m=>?_}
 ·rw[pN,ao,iQ D hx hb nw];rfl
 rcases Pa.mp m with m|m
 ·have ne:x'≠x:=λz=>nw (by rw[<-z];exact jc m);rw[fV _ _ ne,show nM cl x c x'=cl x' from if_neg ne];exact{(h _ _ _ m).1.but e,(h _ _ _ m).2}
 cases OT.mp m;rw[dE,show nM cl x c x=c from if_pos rfl];exact⟨hc.but e,hf⟩
theorem gN.put2{H:Hp}{g:RB}{ls:List Lr}{cl:Nat->Cl}{f:Nat->V}{x:Nat}{r:Int}{y:Int}{v:V}{c:Cl}(D:dO N)(hx:x<25)(hb:∀j∈Ü ls,j<25)(nw:x∉Ü ls)(e:H g=YV (.dK (dk N (Ü (ls++[.Ç x r y])) f)))(h:∀x' r' y',Lr.Ç x' r' y'∈ls++[.Ç x r y]->df H (f x') (cl x')/\(cl x').fits y'.toNat)(hc:df H v c)(hf:c.fits y.toNat):gN N (upd H g (.dK (Y2 (dk N (Ü (ls++[.Ç x r y])) f) (.inr (N x)) v))) g (ls++[.Ç x r y]) (nM cl x c):=by
 have eg:Ü (ls++[.Ç x r y])=Ü ls++[x]:=pN _ _;refine{p6 f x v,?_,λx' r' y' m=>?_}
 ·rw[ao,Aa D (by rw[eg];intro j m;rcases Pa.mp m with m|m;exact hb j m;rw[OT.mp m];exact hx) (by rw[eg];simp)]
 rcases Pa.mp m with m'|m'
 ·have ne:x'≠x:=λz=>nw (by rw[<-z];exact jc m');rw[fV _ _ ne,show nM cl x c x'=cl x' from if_neg ne];exact{(h _ _ _ m).1.but e,(h _ _ _ m).2}
 cases OT.mp m';rw[dE,show nM cl x c x=c from if_pos rfl];exact⟨hc.but e,hf⟩
inductive xK(K:RG)(vs:List V)(H:Hp)(Q:VK)(Ã:XK):Prop
 |mk(N:Nat->Str)(LR:RB)(rows:List V)(ls:List Lr)(c m hi:Int):vs=[.ref LR,.int c,.int m,.int hi]->dO N->H LR=YV (.lst rows)->Paired (fJ N H) rows ls->ls.length=13->(∀l∈ls,Ž l)->(Ü ls).Nodup->(∀(g1 g2 t:RB)(H':Hp)(ø ī:Nat->Cl),ak H H'->H' t=YV (.tup [.ref g1,.ref g2])->gN N H' g1 ls ø->gN N H' g2 ls ī->(∀x r y,Lr.Ç x r y∈ls->r<=hi->ø x=ī x)->Q (.ref t) H')->xK K vs H Q Ã
theorem G6(T:Txt K mg A):T.qk.Hz P w base 3 (xK K):=by
 have Rv:=@Jq P w _ _ base _ T;refine T.qk.hs (k:=2) gT (λf Â A' outer s H vs Q E hr hu h=>?_);obtain⟨N,LR,rows,ls,c,m,hi,rfl,d,Κ,pr,ln,h4,nd,q⟩:=h;have lr:rows.length=ls.length:=RN pr;refine⟨_,(af (É 4 gT.nd (dW))
 (af (É 5 gT.nd (dW))
 (af (bc RO rfl (ee rfl T.fj (Ó eZ T.fY (fv 0^ae)^ae)) (Ò (i:=6) gT.nd rfl)
  (aj (aN (Ö (bY hu) (px hu (px hu (fv 0) (fv 6)) ag) aK)
   (af (cE (au Rv hr (fv 1^fv 6^px hu (px hu (fv 0) (fv 6)) ag^ae)) (cF (fv 4) (px hu (px hu (fv 0) (fv 6)) ag) (cU hu YZ)))
   (af (cE (au Rv hr (fv 1^fv 6^px hu (px hu (fv 0) (fv 6)) ag^ae)) (cF (fv 5) (px hu (px hu (fv 0) (fv 6)) ag) (cU hu YZ)))
   (aj (aN (Ö NR (px hu (px hu (fv 0) (fv 6)) ag) (fv 3))
    (aj (cE (au Rv hr (fv 2^fv 6^px hu (px hu (fv 0) (fv 6)) ag^ae)) (cF (fv 5) (px hu (px hu (fv 0) (fv 6)) ag) (cU hu YZ))))
    aH))))
   aH)))
 (aj (aD (aQ (fv 4^fv 5^ae))))))),?_⟩
 refine ah λM1 K1 g1 hg1=>?_;obtain⟨s1,e1⟩:=Ð hg1 (HO.dK []);generalize upd H g1 _=H1 at s1 e1⊢;refine K1 _ _ ?_;clear K1 M1;rfl'
 refine ah λM1 K1 g2 hg2=>?_;have n12:g2≠g1:=YX hg2 e1;have hg2':=ak.free s1 hg2;obtain⟨s2,e2⟩:=Ð hg2 (HO.dK []);generalize upd H1 g2 _=H2 at s2 e2⊢;have e1:=s2 _ _ e1;have s02:=s1.trans s2;clear s1 s2 hg2;refine K1 _ _ ?_;clear K1 M1;rfl'
 refine ah λM1 K1=>Ŭ (s02 _ _ Κ) {_,rfl,(),(),?_};rw[PL];have G0:∀{g:RB},H2 g=YV (.dK [])->gN N H2 g (ls.take 0) (λ_=>.num 0):=λe=>{λ_=>.Ä,e,λx r y m=>by cases m};refine j8 (lo:=0) (λi B Hc=>∃(v6:Option V)(ø ī:Nat->Cl),B=[YV (.ref LR),YV (.int c),YV (.int m),YV (.int hi),YV (.ref g1),YV (.ref g2),v6]/\ak H Hc/\gN N Hc g1 (ls.take i) ø/\gN N Hc g2 (ls.take i) ī/\∀x r y,Lr.Ç x r y∈ls.take i->r<=hi->ø x=ī x) {YW,_,_,rfl,s02,G0 e1,G0 e2,λx r y m=>by cases m} ?_ ?_
 ·rintro i B Hc hi' ⟨v6,ø,ī,rfl,sc,G1,G2,eq⟩;rfl'
  rw[show(0:Int)+(i:Int)=(i:Int) by lia];have il:i<ls.length:=()
  obtain⟨v,hv⟩:∃v,rows[i]?=YV v:={_,OV hi'};obtain⟨r,Θ,t,p,rfl,et,_⟩:=bR pr hv;have at_:∀{X:Hp},ak H X->À K X LR rows:=λz=>À.of (z _ _ Κ);have ai:ô rows (i:Int)=YV (.ref t):=dY hv;have tk:=rN Θ;have ml:=OY Θ;refine Ì (at_ sc) ai (Ø (j:=0) (Æ.of (sc _ _ et)) rfl {rfl,_,rfl,bh (λy=>?_) (λy=>?_)})
  ·obtain⟨x,rk,yz,rfl⟩:=zg (V.str.inj (of_decide_eq_true y));cases h4 _ ml with
   |Ç _ _ z x25 zb=>
   have et:H t=YV (.tup [.str "given",.str (N x),.int rk,.int (z:Int)]):=et;have hb:∀j∈Ü (ls.take i),j<25:=λj mj=>by
    obtain⟨r',z',m'⟩:=vX mj;cases h4 _ (Pz m')with
    |Ç _ _ _ hj _=>exact hj
   have nw:x∉Ü (ls.take i):=λmj=>by
    have e:Ü (ls.take (i+1))=Ü (ls.take i)++[x]:=by rw[tk];exact pN _ _
    have:(Ü (ls.take (i+1))).Nodup:=Tz ((QH _ _).filterMap _) nd;rw[e,P4]at this;exact this.2.2 x mj x (by simp) rfl
   have dl:∀{f:Nat->V},(dk N (Ü (ls.take i)) f).length<=1000:=λ{f}=>by
    rw[kJ];have:=Bv (ls.take i);rw[Pq]at this;lia
   have dl':∀{f:Nat->V},(dk N (Ü (ls.take i++[.Ç x rk z])) f).length<=1000:=λ{f}=>by
    rw[kJ];have:=Bv (ls.take i++[.Ç x rk z]);rw[O5,Pq]at this;simp only[Po]at this;lia
   have ft:∀c:Int,(gCl c i z).fits ((z:Int).toNat):=λc=>by rw[PL];exact EX c i z
   rw[tk];refine ah λM2 K2=>Ì (at_ sc) ai (Ø (j:=3) (Æ.of (sc _ _ et)) rfl {c,i,z,rfl,(),zb,λw1 Ha sa w10=>?_});have sca:=sc.trans sa;obtain⟨f1,a1,a2⟩:=G1.same sa;have G2a:=G2.same sa;refine Ì (at_ sca) ai (Ø (j:=1) (Æ.of (sca _ _ et)) rfl {_,gQ.k (k:=.inr (N x)) a1 (aG dl),?_});have G1b:=gN.put (r:=rk) d x25 hb nw a1 a2 w10 (ft c);have G2b:=G2a.but (o:=.dK (Y2 (dk N (Ü (ls.take i)) f1) (.inr (N x)) w1)) n12 a1;have scb:ak H (upd Ha g1 (.dK (Y2 (dk N (Ü (ls.take i)) f1) (.inr (N x)) w1))):=ak.out sca hg1 _;generalize upd Ha g1 (.dK (Y2 (dk N (Ü (ls.take i)) f1) (.inr (N x)) w1))=Hb at G1b G2b scb⊢;clear G2a a1 w10;refine K2 _ _ ?_;clear K2 M2;rfl'
   refine ah λM2 K2=>Ì (at_ scb) ai (Ø (j:=3) (Æ.of (scb _ _ et)) rfl {c,i,z,rfl,(),zb,λw2 Hd sd w20=>?_});have scd:=scb.trans sd;obtain⟨f2,b1,b2⟩:=G2b.same sd;have G1d:=G1b.same sd;refine Ì (at_ scd) ai (Ø (j:=1) (Æ.of (scd _ _ et)) rfl {_,gQ.k (k:=.inr (N x)) b1 (aG dl),?_});have G2e:=gN.put (r:=rk) d x25 hb nw b1 b2 w20 (ft c);have G1e:=G1d.but (o:=.dK (Y2 (dk N (Ü (ls.take i)) f2) (.inr (N x)) w2)) n12.symm b1;have sce:ak H (upd Hd g2 (.dK (Y2 (dk N (Ü (ls.take i)) f2) (.inr (N x)) w2))):=ak.out scd hg2' _;generalize upd Hd g2 (.dK (Y2 (dk N (Ü (ls.take i)) f2) (.inr (N x)) w2))=He at G1e G2e sce⊢;refine K2 _ _ ?_;clear K2 M2;rfl'
   have old:∀{v:Cl}{x':Nat}{r' y':Int}(cl:Nat->Cl),Lr.Ç x' r' y'∈ls.take i->nM cl x v x'=cl x':=λcl m=>if_neg λz=>nw (by rw[<-z];exact jc m);refine Ì (at_ sce) ai (Ø (j:=2) (Æ.of (sce _ _ et)) rfl {_,rfl,bh (λy=>?_) (λy=>?_)})
   ·have y:rk>hi:=of_decide_eq_true y;refine Ì (at_ sce) ai (Ø (j:=3) (Æ.of (sce _ _ et)) rfl {m,i,z,rfl,(),zb,λw3 Hf sf w30=>?_});have scf:=sce.trans sf;obtain⟨f4,k1,k2⟩:=G2e.same sf;have G1f:=G1e.same sf;refine Ì (at_ scf) ai (Ø (j:=1) (Æ.of (scf _ _ et)) rfl {_,gQ.k (k:=.inr (N x)) k1 (aG dl'),?_});have G2g:=gN.put2 (r:=rk) d x25 hb nw k1 k2 w30 (ft m);have G1g:=G1f.but (o:=.dK (Y2 (dk N (Ü (ls.take i++[.Ç x rk z])) f4) (.inr (N x)) w3)) n12.symm k1;refine{_,_,_,rfl,ak.out scf hg2' _,G1g,G2g,λx' r' y' m' le=>?_};rcases Pa.mp m' with m'|m'
    ·rw[old _ m',old _ m',old _ m'];exact eq _ _ _ m' le
    cases OT.mp m';exact absurd le ()
   have y:¬ hi<rk:=λh=>y (decide_eq_true h);refine{_,_,_,rfl,sce,G1e,G2e,λx' r' y' m' le=>?_};rcases Pa.mp m' with m'|m'
   ·rw[old _ m',old _ m'];exact eq _ _ _ m' le
   cases OT.mp m';exact(if_pos rfl).trans (if_pos rfl).symm
  have n:gi1 r=YW:=by
   cases r with
   |Ç i m z=>exact absurd (decide_eq_true rfl) y
   |_=>rfl
  rw[tk];refine{_,_,_,rfl,sc,G1.skip n,G2.skip n,λx' r' y' m' le=>?_};rcases Pa.mp m' with m'|m'
  ·exact eq _ _ _ m' le
  rw[<-OT.mp m']at n;cases n
 rintro B Hc ⟨v6,ø,ī,rfl,sc,G1,G2,eq⟩;refine K1 _ _ ?_;rw[lr,Pk]at G1 G2 eq;exact{by show 2<=sizeLine;decide,λt ht=>q g1 g2 t _ ø ī (sc.trans (ak.upd ht _)) ao (G1.same (ak.upd ht _)) (G2.same (ak.upd ht _)) eq}
theorem Ou(j:Int)(h0:0<=j)(h1:j<6):∃b,ô [V.bl true,V.int (-1),V.int (10^(12:Int).toNat),V.str "7",V.Ä,V.int (-(10^(12:Int).toNat))] j=YV b/\∀H,HX H b:=by
 have:j=0\/j=1\/j=2\/j=3\/j=4\/j=5:=()
 rcases this with rfl|rfl|rfl|rfl|rfl|rfl
 ·exact{_,rfl,λH=>{.bl _,.bl _}}
 ·exact{_,rfl,λH=>wU ∅}
 ·exact{_,rfl,λH=>wU ∅}
 ·exact{_,rfl,λH=>{.str _,.str _}}
 ·exact{_,rfl,λH=>⟨.Ä,.Ä⟩}
 exact{_,rfl,λH=>wU ∅}
theorem Ig{H:Hp}{l:RB}{rs:List Int}{b:V}{j:Nat}(hb:HX H b)(hj:j<rs.length)(hz:rs.length<=1000)(h:H l=YV (.lst ((rs.map V.int).set j b))):dQ H (.ref l) rs.length false:=by
 refine .inr {(),.inr {l,_,rfl,h,by rw[QR,OU];exact hz,.inr {by rw[QR,OU],MW,λx hx=>?_,?_}}}
 ·rcases U7 hx with hx|hx
  ·obtain⟨y,_,rfl⟩:=Pj.mp hx;exact .int y
  rw[hx,hb.1.g];exact hb.1
 rw[eq_comm,List.all_eq_false];refine{b,OY (i:=j) (by rw[QF (by rw[OU];exact hj)]),?_};rw[hb.1.g];exact O3
theorem DU{n:Nat}{k:Int}(h0:0<=k)(h1:k<n):ώ n k=YV k.toNat:=by
 unfold ώ;rw[if_pos h0,if_pos h1]
inductive sN(vs:List V)(H:Hp)(Q:VK)(Ã:XK):Prop
 |mk(N:Nat->Str)(t:RB)(x z:Nat)(rk:Int)(v:V)(cl:Cl)(c:Int):vs=[.ref t,v,.int c]->H t=YV (.tup [.str "given",.str (N x),.int rk,.int (z:Int)])->z<=4->df H v cl->cl.fits z->(∀v' H',ak H H'->dQ H' v' z false->Q v' H')->sN vs H Q Ã
theorem C1(T:Txt K mg A):T.lR.Hz P w base 1 sN:=by
 refine T.lR.hs (k:=0) i8 (λf Â A' outer s H vs Q E' hr hu h=>?_);obtain⟨N,t,x,z,rk,v,cl,c,rfl,ht,hz,hc,fc,q⟩:=h;refine⟨_,(af (É 3 i8.nd (px hu (aP (og^En zO ag^aE pF ag ag^aK^bU^En zO (aE pF ag ag)^ae)) (aE bM (fv 2) ag)))
 (af (aN (PW.pt (pw_or (Ö (bY hu) (px hu (fv 0) ag) ag) (pw_or1 (Ö (bY hu) (aE bM (aE de (fv 2) ag) ag) ag))))
  (aj (aD (fv 3)))
  aH)
 (af (aN (Ö (bY hu) (aE bM (aE de (fv 2) ag) ag) ag)
  (aj (aD (aE aX (fv 1) (aP (ag^ae)))))
  aH)
 (af (É 4 i8.nd (Ď kY T.eO (fv 1^ae)))
 (af (cE (fv 3) (cF (fv 4) (aE bM (aE de (fv 2) ag) (Ó eZ T.fY (fv 4^ae))) (cU hu YZ)))
 (aj (aD (fv 4)))))))),?_⟩
 refine ah λM1 K1=>?_;have m6:=bz c (show(0:Int)<6 by decide);obtain⟨b,eb,bad⟩:=Ou (c%6) m6.1 m6.2;refine{_,rfl,{∅,∅,∅},{∅,∅,∅},_,rfl,by show 6<=sizeLine;decide,λL hL=>?_};obtain⟨s1,e1⟩:=Ð hL (HO.lst [V.bl true,V.int (-1),V.int (10^(12:Int).toNat),V.str "7",V.Ä,V.int (-(10^(12:Int).toNat))]);refine{(by show(0:Int)<6;decide),(Ì (À.of e1) eb (K1 _ _ ?_))};generalize upd H L _=H1 at s1⊢;clear K1 M1 e1 hL;have ht:=s1 _ _ ht;have hc:=hc.same s1;rfl'
 refine ah λM1 K1=>?_;have ret:∀{H2:Hp},ak H1 H2->Q b H2:=λs2=>q b _ (s1.trans s2) (za (bad _) z);refine Ø (j:=3) (Æ.of ht) rfl {rfl,_,rfl,bh (λ_=>bh (λ_=>ret (ak.refl _)) (λh=>absurd rfl h)) (λz0=>?_)};have z0:z≠0:=λe=>z0 (decide_eq_true (by rw[e];rfl));refine{{∅,∅},(by show(0:Int)<3;decide),rfl,_,rfl,bh (λ_=>ret (ak.refl _)) (λ_=>K1 _ _ ?_)};clear K1 M1;cases cl with
 |num n=>exact absurd fc.1 z0
 |lst rs=>
 obtain⟨a,rfl,ha⟩:=hc;obtain⟨lz,_,ins⟩:=fc;rfl'
 refine ah λM1 K1=>{{∅,∅},(by show(0:Int)<3;decide),rfl,_,rfl,bh (λ_=>?_) (λ_=>K1 _ _ ?_)}
 ·refine{by show 1<=sizeLine;decide,λp hp=>?_};obtain⟨s2,e2⟩:=Ð hp (HO.lst [V.int 0]);refine{a,p,_,_,rfl,rfl,s2 _ _ ha,e2,sz (by rw[OU];simp;lia),λl hl=>q (.ref l) _ (s1.trans (s2.trans (ak.upd hl _))) (.inr {(),.inr {l,_,rfl,ao,by rw[O5,OU];simp;lia,.inl {by rw[O5,OU];simp;lia,rfl}}})}
 clear K1 M1;rfl'
 refine ah λM1 K1=>OZ {a,_,rfl,OZ (À.of ha),λl hl=>?_};obtain⟨s2,e2⟩:=Ð hl (HO.lst (rs.map V.int));generalize upd H1 l _=H2 at s2 e2⊢;refine K1 _ _ ?_;clear K1 M1;rfl'
 refine ah λM1 K1=>?_;have lm:(rs.map V.int).length=rs.length:=OU _;have lp:(0:Int)<((rs.map V.int).length:Nat):=()
 have md:=bz (c/18) lp;have hj:(c/18%((rs.map V.int).length:Nat)).toNat<rs.length:=()
 refine{{∅,∅},Ŭ e2 {lp,OZ {_,_,e2,DU md.1 md.2,K1 _ _ (q (.ref l) _ (s1.trans (ak.out s2 hl _)) ?_)}}};rw[<-lz];exact Ig (bad _) hj () ao
inductive yY(vs:List V)(H:Hp)(Q:VK)(Ã:XK):Prop
 |mk(N:Nat->Str)(t:RB)(x z:Nat)(rk:Int)(v:V)(cl:Cl)(c:Int):vs=[.ref t,v,.int c]->H t=YV (.tup [.str "given",.str (N x),.int rk,.int (z:Int)])->z<=4->df H v cl->cl.fits z->(∀v' H' û,ak H H'->df H' v' û->û.fits z->û≠cl->Q v' H')->yY vs H Q Ã
theorem yd{n c:Int}(h:In n):(n+1+c%5)%1000000000000≠n/\In ((n+1+c%5)%1000000000000):=by
 obtain⟨h0,h1⟩:=h;unfold In;lia
theorem HR(T:Txt K mg A):T.qC.Hz P w base 1 yY:=by
 refine T.qC.hs (k:=0) kZ (λf Â A' outer s H vs Q E' hr hu h=>?_);obtain⟨N,t,x,z,rk,v,cl,c,rfl,ht,hz,hc,fc,q⟩:=h;refine⟨_,(af (aN (Ö (bY hu) (px hu (fv 0) ag) ag)
  (aj (aD (aE bM (aE aX (aE aX (fv 1) ag) (aE bM (fv 2) ag)) (aE pF ag ag))))
  aH)
 (af (É 3 kZ.nd (Ď kY T.eO (fv 1^ae)))
 (af (É 4 kZ.nd (aE bM (aE de (fv 2) ag) (Ó eZ T.fY (fv 3^ae))))
 (af (cE (aE bM (aE aX (aE aX (px hu (fv 3) (fv 4)) ag) (aE bM (fv 2) ag)) (aE pF ag ag)) (cF (fv 3) (fv 4) (cU hu YZ)))
 (aj (aD (fv 3))))))),?_⟩
 refine ah λM1 K1=>Ø (j:=3) (Æ.of ht) rfl {rfl,_,rfl,bh (λz0=>?_) (λz0=>K1 _ _ ?_)}
 ·have z0:(z:Int)=0:=V.int.inj (of_decide_eq_true z0);cases cl with
  |lst rs=>exact absurd fc.2.1 ()
  |num n=>
  cases show v=.int n from hc;refine{(by show(0:Int)<5;decide),{∅,∅,∅},(by show(0:Int)<10^(12:Int).toNat;decide),?_};rw[Cn];have mn:=yd (c:=c) fc.2;exact q _ H (.num _) (ak.refl _) rfl ⟨fc.1,mn.2⟩ λe=>mn.1 (Cl.num.inj e)
 have z0:z≠0:=λe=>z0 (decide_eq_true (by rw[e];rfl));clear K1 M1;cases cl with
 |num n=>exact absurd fc.1 z0
 |lst rs=>
 obtain⟨a,rfl,ha⟩:=hc;obtain⟨lz,_,ins⟩:=fc;rfl'
 refine ah λM1 K1=>OZ {a,_,rfl,OZ (À.of ha),λl hl=>?_};obtain⟨s2,e2⟩:=Ð hl (HO.lst (rs.map V.int));generalize upd H l _=H2 at s2 e2⊢;refine K1 _ _ ?_;clear K1 M1;rfl'
 refine ah λM1 K1=>?_;have lm:(rs.map V.int).length=rs.length:=OU _;have lp:(0:Int)<((rs.map V.int).length:Nat):=()
 have md:=bz (c/5) lp;refine{{∅,∅},Ŭ e2 {lp,?_}};obtain⟨j,ej⟩:∃j:Nat,c/5%((rs.map V.int).length:Nat)=(j:Int):={(c/5%((rs.map V.int).length:Nat)).toNat,()};rw[ej]at md;have hj:j<rs.length:=()
 obtain⟨n,hn⟩:∃n,rs[j]?=YV n:={_,OV hj};have mn:=yd (c:=c) (ins n (OY hn));refine K1 _ _ ?_;clear K1 M1;rfl'
 rw[ej];refine ah λM1 K1=>OZ {_,.int n,OZ (À.of e2),dY (j:=j) (by rw[O7,hn];rfl),{(by show(0:Int)<5;decide),{∅,∅,∅},(by show(0:Int)<10^(12:Int).toNat;decide),OZ {_,_,e2,DU md.1 md.2,K1 _ _ ?_}}};rw[Cn,PL];refine q (.ref l) _ (.lst (rs.set j ((n+1+c%5)%1000000000000))) (ak.out s2 hl _) {l,rfl,by rw[ao,List.map_set]} {by rw[QR];exact lz,(),λy hy=>?_} λe=>?_
 ·rcases U7 hy with hy|hy
  ·exact ins y hy
  rw[hy];exact mn.2
 have e:=congrArg (λl:List Int=>l[j]?) (Cl.lst.inj e);simp only[QF hj,hn]at e;exact mn.1 (RQ e)
inductive ve(vs:List V)(H:Hp)(Q:VK)(Ã:XK):Prop
 |mk(N:Nat->Str)(g:RB)(tn c:Int)(idx:List Nat)(f:Nat->V):vs=[.ref g,.int tn,.int c]->H g=YV (.dK (dk N idx f))->dO N->N 24="nobodyhas"->(∀j∈idx,j<24)->idx.length<=100->idx.Nodup->0<=tn->tn<2->(∀(r:RB)(H':Hp)(ϟ:List Nat)(f':Nat->V),ak H H'->H' r=YV (.dK (dk N ϟ f'))->(∀j∈ϟ,j<25)->(∀j,j<24->look ϟ f' j=look idx f j)->Q (.ref r) H')->ve vs H Q Ã
theorem DX(T:Txt K mg A):T.oG.Hz P w base 1 ve:=by
 refine T.oG.hs (k:=0) jP (λf Â A' outer s H vs Q E' hr hu h=>?_);obtain⟨N,g,tn,c,idx,ff,rfl,hg,D,h24,hb,il,nd,t0,t1,q⟩:=h;have ek:(dk N idx ff).map (λkv=>kV kv.1)=idx.map λi=>.str (N i):=by
  unfold dk;rw[P6];rfl
 refine⟨_,(af (É 3 jP.nd (dW))
 (af (bc RO rfl (aW (px hu (aP (Ď kY T.eO (fv 0^ae)^Kx (Ď kY T.eO (fv 0^ae))^ae)) (fv 1))) (Ò (i:=4) jP.nd rfl)
  (aj (cE (px hu (fv 0) (fv 4)) (cF (fv 3) (fv 4) (cU hu YZ)))))
 (af (cE (fv 2) (cF (fv 3) aK (cU hu YZ)))
 (aj (aD (fv 3)))))),?_⟩
 refine ah λM1 K1 mD hmD=>K1 _ _ ?_;obtain⟨s1,e1⟩:=Ð hmD (HO.dK []);have hm0:=hmD;generalize upd H mD _=H1 at s1 e1⊢;clear K1 M1 hmD;rfl'
 refine ah λM1 K1=>Py {g,_,rfl,Rd.of (s1 _ _ hg),λl1 hl1=>?_};rw[ek];obtain⟨s2,e2⟩:=Ð hl1 (HO.lst (idx.map λi=>V.str (N i)));have n1:l1≠mD:=YX hl1 e1;generalize upd H1 l1 _=H2 at s2 e2⊢;refine Py {g,_,rfl,Rd.of ((s1.trans s2) _ _ hg),λl2 Ų=>?_};rw[ek];obtain⟨s3,e3⟩:=Ð Ų (HO.lst (idx.map λi=>V.str (N i)));generalize upd H2 l2 _=H3 at s3 e3⊢;refine{l2,_,rfl,À.of e3,λl3 hl3=>?_};obtain⟨s4,e4⟩:=Ð hl3 (HO.lst (idx.map λi=>V.str (N i)).reverse);have n3:l3≠mD:=YX hl3 ((s2.trans s3) _ _ e1);generalize upd H3 l3 _=H4 at s4 e4⊢;refine{by show 2<=sizeLine;decide,λL hL=>?_};obtain⟨s5,e5⟩:=Ð hL (HO.lst [V.ref l1,.ref l3]);generalize upd H4 L _=H5 at s5 e5⊢;have Ϲ:=(s2.trans s3).trans (s4.trans s5);have e1:=Ϲ _ _ e1;have hg5:=(s1.trans Ϲ) _ _ hg;have s05:=s1.trans Ϲ;obtain⟨lx,od,ax,hx,nx,mo,lo,no⟩:∃(lx:RB)(od:List Nat),ô [V.ref l1,.ref l3] tn=YV (.ref lx)/\H5 lx=YV (.lst (od.map λi=>.str (N i)))/\lx≠mD/\(∀j,j∈od↔j∈idx)/\od.length=idx.length/\od.Nodup:=by
  have:tn=0\/tn=1:=()
  rcases this with rfl|rfl
  ·exact{l1,idx,rfl,(s3.trans (s4.trans s5)) _ _ e2,n1,λ_=>Iff.rfl,rfl,nd}
  exact{l3,idx.reverse,rfl,by rw[s5 _ _ e4,List.map_reverse],n3,λ_=>List.mem_reverse,Wr,List.pairwise_reverse.mpr (List.Pairwise.imp (λh=>Pm h) nd)}
 refine Ì (À.of e5) ax ?_;have dm:∀{x:RB}{o:HO},x≠mD->H5 x=YV o->del [mD] H5 x=YV o:=λn e=>bT (λm=>n (OT.mp m)) e;have gm:g≠mD:=λz=>by rw[z,hm0]at hg;cases hg
 have dB0:del [mD] H5 mD=YW:=if_pos (OT.mpr rfl);refine OZ {{_,À.of hx},a9 (K:=K) (xs:=od.map λi=>.str (N i)) (λi B Hc=>∃(v4:Option V)(f':Nat->V),B=[YV (.ref g),YV (.int tn),YV (.int c),YV (.ref mD),v4]/\ak (del [mD] H5) Hc/\Hc mD=YV (.dK (dk N (od.take i) f'))/\∀j∈od.take i,f' j=ff j) {YW,ff,rfl,iz,e1,λ_ _=>rfl} (λi B Hc _ ⟨_,_,_,sc,_⟩=>À.of (sc _ _ (dm nx hx))) ?_ ?_}
 ·rintro i v B Hc hv ⟨v4,f',rfl,sc,em,hf⟩;rw[O7]at hv;obtain⟨j,hj,rfl⟩:=Qg.mp hv;have ji:j∈idx:=(mo j).mp (OY hj);have tk:=rN hj;have nj:j∉od.take i:=λm=>by
   have:(od.take (i+1)).Nodup:=Tz (QH _ _) no;rw[tk,P4]at this;exact this.2.2 j m j (by simp) rfl
  have hb':∀k∈od.take i,k<25:=λk m=>by have:=hb k ((mo k).mp (Pz m));lia
  have j25:j<25:=by have:=hb j ji;lia
  rfl'
  refine Ŀ (sc _ _ (dm gm hg5)) (jA D (λk m=>by have:=hb k m;lia) ji) {_,gQ.k (k:=.inr (N j)) em (aG (by rw[kJ,Pq];lia)),{_,p6 f' j (ff j),rfl,ak.out sc dB0 _,?_,?_}}
  ·rw[ao,tk,iQ D j25 hb' nj]
  rw[tk];intro k m;rcases Pa.mp m with m|m
  ·rw[fV _ _ (λz=>nj (by rw[<-z];exact m))];exact hf k m
  rw[OT.mp m,dE]
 rintro B Hc ⟨v4,f',rfl,sc,em,hf⟩;rw[OU,Pk]at em hf;refine K1 _ _ ?_;clear K1 M1;rfl'
 refine ah λM1 K1=>?_;have ho:∀j∈od,j<24:=λj m=>hb j ((mo j).mp m);refine{_,gQ.k (k:=.inr "nobodyhas") em (aG (by rw[kJ];lia)),K1 _ _ ?_};rw[show Y2 (dk N od f') (.inr "nobodyhas") (.int c)=dk N (od++[24]) (p6 f' 24 (.int c))from by rw[<-h24];exact iQ D ∅ (λj m=>by have:=ho j m;lia) (λm=>absurd (ho _ m) ∅)];refine q mD _ (od++[24]) (p6 f' 24 (.int c)) (ak.out ((λx o e=>sc _ _ (dm (λz=>by rw[z,hm0]at e;cases e) (s05 _ _ e))):ak H Hc) hm0 _) ao (λj m=>?_) (λj h=>?_)
 ·rcases Pa.mp m with m|m
  ·have:=ho j m;lia
  rw[OT.mp m];decide
 unfold look;have Γ:j≠24:=()
 by_cases m:j∈idx
 ·have m':=(mo j).mpr m;rw[if_pos (Px _ m'),if_pos m,fV _ _ Γ,hf j m']
 rw[if_neg (λz=>by rcases Pa.mp z with z|z;exact m ((mo j).mp z);exact Γ (OT.mp z)),if_neg m]
end
section
variable{N:Nat->Str}
def ş(x:Str):Prop:=∀c∈x.cps.toList,97<=c/\c<=122
theorem BU{x:Str}(h:ş x)(lo hi:Option Int):ş (Txt.slice x lo hi):=λc hc=>h c (nF hc)
theorem B9{x y:Str}(h:ş x)(h2:ş y):ş (x++y):=λc hc=>by
 have e:(x++y).cps=x.cps++y.cps:=rfl;rw[e,Qp]at hc;rcases Pa.mp hc with q|q
 ·exact h c q
 exact h2 c q
theorem Ir{k:Int}(h0:0<=k)(h:k<26):ş ⟨#[fZ k]⟩:=λc hc=>by
 have e:c=fZ k:=by simpa using hc
 rw[e];unfold fZ;lia
theorem wY{k n:Int}(h0:0<=k)(h:k<26):ş (lJ ⟨#[fZ k]⟩ n):=by
 by_cases hn:1<=n
 ·intro c hc;rw[mS _ hn]at hc;rw[QX hc];unfold fZ;lia
 unfold lJ;rw[if_pos ()];exact λc hc=>by cases hc
theorem JI(c:Int)(k:Nat):ş (ù c k):=by
 unfold ù;split
 ·have h:∀i:Fin 25,∀c∈(words.getD i.val Su).cps.toList,97<=c/\c<=122:=by decide+kernel
  have:=bz (c/4%25+k) (show(0:Int)<25 by decide);exact h {((c/4%25+k)%25).toNat,()}
 have h1:=bz (c/288) (show(0:Int)<26 by decide);have h2:=bz ((k:Int)+c/7488%26) (show(0:Int)<26 by decide);have h3:=bz (c/4%26+(k:Int)/8) (show(0:Int)<26 by decide);split
 ·exact wY h3.1 h3.2
 exact B9 (B9 (BU (wY h1.1 h1.2) _ _) (Ir h2.1 h2.2)) (BU (wY h1.1 h1.2) _ _)
theorem Bl{x y:Str}(h:ş x)(m:32∈y.cps.toList):x≠y:=λe=>by
 have:=h 32 (e▸m);lia
theorem JV(n:Int):32∈(bw n).cps.toList:=by
 unfold bw;show 32∈(((Su++("row ":Str)).cps++(TK (toString n)).cps)).toList;rw[Qp];exact Px _ ∅
theorem FI:32∈("the clock":Str).cps.toList:=∅
theorem AO(D:dO N):∀{idx:List Nat},idx.Nodup->(∀i∈idx,i<25)->(idx.map N).Nodup
 | [],_,_=>QM
 |i::idx,h,b=>by
  rw[PK]at h;rw[Pp,PK];refine{λm=>?_,AO D h.2 λj m=>b j (O2 _ m)};obtain⟨j,mj,e⟩:=Pj.mp m;exact h.1 (D j i (b j (O2 _ mj)) (b i OX) e▸mj)
def ϑ:Lr->Option Nat
 | .Ç i _ _=>YV i
 | .own i _=>YV i
 | .lt i _=>YV i
 |_=>YW
def srI:Lr->Option Nat
 | .Ç i _ _=>YV i
 | .lt i _=>YV i
 |_=>YW
def N5:Lr->Prop
 | .Ç _ r _=>r=0\/r=1\/r=2
 | .lt _ r=>r=0\/r=1\/r=2
 |_=>True
structure Ġ(ls:List Lr):Prop where
 h4:∀l∈ls,Ž l
 len:ls.length=13
 ix:(ls.map Lr.ix).Nodup
 pl:(ls.filterMap ϑ).Nodup
 sr:(ls.filterMap srI).Nodup
 gv:(Ü ls).Nodup
 Τ:∀l∈ls,l.ix<13
 rk:∀l∈ls,N5 l
theorem F8(t:Nat)(xs:List Lr):(ě t xs).Perm xs:=by
 have h:(xs.drop t++xs.take t).Perm (xs.take t++xs.drop t):=List.perm_append_comm;rw[Ql]at h;exact h
theorem GP{rk:Nat->Int}{z:Nat}(hr:∀i,0<=rk i/\rk i<=2)(hz:z<=4)(t:Nat):Ġ (ě t (gz rk z)):=by
 have p:=F8 t (gz rk z);have r3:∀i,rk i=0\/rk i=1\/rk i=2:=λi=>by have:=hr i;lia
 refine{Fg rk hz t,by rw[BW];rfl,(TR (p.map Lr.ix)).mpr (show([0,1,2,3,4,5,6,7,8,9,10,11,12]:List Nat).Nodup by decide),(TR (p.filterMap ϑ)).mpr (show([3,4,5,6,7,8,9,10,11,12]:List Nat).Nodup by decide),(TR (p.filterMap srI)).mpr (show([3,4,5,6,11,12]:List Nat).Nodup by decide),(TR (p.filterMap gi1)).mpr (show([3,4,5,6]:List Nat).Nodup by decide),λl m=>?_,λl m=>?_}
 ·have m:l∈gz rk z:=p.mem_iff.mp m;unfold gz at m;simp only[O4,Pw,or_false]at m;rcases m with rfl|rfl|rfl|rfl|rfl|rfl|rfl|rfl|rfl|rfl|rfl|rfl|rfl<;>simp[Lr.ix]
 have m:l∈gz rk z:=p.mem_iff.mp m;have e0:=hr 0;have e4:=hr 4;unfold gz at m;simp only[O4,Pw,or_false]at m;rcases m with rfl|rfl|rfl|rfl|rfl|rfl|rfl|rfl|rfl|rfl|rfl|rfl|rfl
 ·exact trivial
 ·exact trivial
 ·exact trivial
 ·show 2-rk 0%2=0\/2-rk 0%2=1\/2-rk 0%2=2;lia
 ·exact r3 1
 ·exact OZ rfl
 ·exact r3 2
 ·exact trivial
 ·exact trivial
 ·exact trivial
 ·exact trivial
 ·exact r3 3
 show rk 4%2=0\/rk 4%2=1\/rk 4%2=2;lia
theorem BJ(N:Nat->Str):∀(n:Nat)(ls:List Lr),(∀l∈ls,Ž l)->(bp n ls).filterMap (Đ N)=(ls.filterMap ϑ).map N
 |_,[],_=>rfl
 |n,l::r,h=>by
  have ih:=BJ N (n+1) r λx m=>h x (O2 _ m);show(Pt.leaf (n:Int) l::bp (n+1) r).filterMap (Đ N)=_;rw[PQ,PQ,ih];cases h l OX<;>rfl
theorem sP(N:Nat->Str):∀(n:Nat)(ls:List Lr),(∀l∈ls,Ž l)->(jO N (bp n ls)).map (·.1)=(ls.filterMap srI).map N
 |_,[],_=>rfl
 |n,l::r,h=>by
  have ih:=sP N (n+1) r λx m=>h x (O2 _ m);show(((Pt.leaf (n:Int) l::bp (n+1) r).filter qN).map (sOf N)).map (·.1)=_;unfold jO at ih;rw[PQ];cases h l OX with
  |hand k r h=>exact ih
  |own k z h hz=>exact ih
  |Ç k r z h hz=>exact congrArg (N k:: ·) ih
  |lt k r h=>exact congrArg (N k:: ·) ih
theorem Cc{l:Lr}{i:Nat}(h:srI l=YV i):ϑ l=YV i:=by
 cases l<;>first|exact h|cases h
theorem BS:∀(n:Nat)(ls:List Lr),(∀l∈ls,Ž l)->(bp n ls).map î=ls.map Lr.ix
 |_,[],_=>rfl
 |n,l::r,h=>by
  have ih:=BS (n+1) r λx m=>h x (O2 _ m);show î (.leaf (n:Int) l)::(bp (n+1) r).map î=l.ix::r.map Lr.ix;rw[ih];cases h l OX<;>rfl
theorem r8:∀(n:Nat)(rs:List Lr)(p:Pt),p∈bp n rs->(n:Int)<=p.no/\p.no<(n:Int)+(rs.length:Nat)
 |_,[],_,m=>by cases m
 |n,l::r,p,m=>by
  rw[Pf];rcases O4.mp m with m|m
  ·rw[m];show(n:Int)<=(n:Int)/\(n:Int)<(n:Int)+((r.length+1:Nat):Int);lia
  have:=r8 (n+1) r p m;lia
theorem vf:∀(n:Nat)(rs:List Lr),n+rs.length<=1000->((bp n rs).map λp=>bw p.no).Nodup
 |_,[],_=>QM
 |n,l::r,h=>by
  rw[Pf]at h;show(bw (n:Int)::(bp (n+1) r).map λp=>bw p.no).Nodup;refine PK.mpr {λm=>?_,vf (n+1) r ()};obtain⟨p,mp,e⟩:=Pj.mp m;have:=r8 (n+1) r p mp;have:=Hv (a:=p.no) (b:=(n:Int)) () () () () e;lia
theorem Ġ.ok{ls:List Lr}(h:Ġ ls)(n:Nat):xp (bp n ls):=by
 refine{λp m=>?_,by rw[BS n ls h.h4];exact h.ix,by rw[fb,h.len];exact OW _};obtain⟨k,l,ml,rfl⟩:=f7 _ _ _ m;cases h.h4 l ml with
 |hand i r hi=>exact .hand _ _ _ hi
 |Ç i r z hi hz=>exact .Ç _ _ _ _ hi ()
 |own i z hi hz=>exact .own _ _ _ hi ()
 |lt i r hi=>exact .lt _ _ _ hi
theorem Bo{l:Lr}(h:ϡ l=true):∃r,l=.Ç l.ix r 0:=by
 obtain⟨h1,h2⟩:=Q8.mp h;obtain⟨i,r,z,rfl⟩:=zg (of_decide_eq_true h1);have h2:decide (z=0)=true:=h2;exact{r,by rw[of_decide_eq_true h2];rfl}
theorem Co:∀(n:Nat)(ls:List Lr)(l:Lr),l∈ls->∃m,Pt.leaf m l∈bp n ls
 |_,[],_,m=>by cases m
 |n,x::r,l,m=>by
  rcases O4.mp m with m|m
  ·exact{n,by rw[m];exact OX}
  obtain⟨k,e⟩:=Co (n+1) r l m;exact{k,O2 _ e}
theorem nQ.ok{ls rs:List Lr}(h:Ġ ls)(s:nQ ls rs)(n k:Nat):rJ (bp n ls) (bp k rs):=by
 refine{λp m=>?_,by rw[fb];have:=s.1;lia};obtain⟨q,l,ml,rfl⟩:=f7 _ _ _ m;obtain⟨x,y,_,_,my,ny,rfl⟩:=s.2 l ml;obtain⟨r,e⟩:=Bo ny;obtain⟨m',em⟩:=Co n ls y my;exact{q,x.ix,y.ix,rfl,{m',r,by rw[<-e];exact em},by have:=h.Τ y my;lia}
theorem Ft{fs:List (Option Str)}{into kd:Str}{n:Int}{l:Lk}(m:l∈Ė fs into kd n):YV l.fr∈fs/\l.to=into:=by
 unfold Ė at m;obtain⟨f,mf,rfl⟩:=Pj.mp m;obtain⟨m1,m2⟩:=Pu.mp mf;cases f with
 |none=>cases m2
 |some x=>exact⟨m1,rfl⟩
theorem CT{po:Nat->Option Int}{p2:Str->List Str}{b:Bool}{n:Int}{x y:Nat}{l:Lk}(m:l∈zP N p2 (.leaf n (.snd x (.one (.x y)))) YW YW++DS b po (.leaf n (.snd x (.one (.x y))))):(l.fr=N y\/l.fr="the clock")/\l.to=bw n:=by
 rcases Pa.mp m with m|m
 ·have m:l∈Ė ((Ù N [.x y]).map YV) (bw n) "value" n++Ė [YW] (bw n) "under" n:=m;rcases Pa.mp m with m|m
  ·obtain⟨h1,h2⟩:=Ft m;have h1:YV l.fr∈[YV (N y)]:=h1;exact{.inl (RQ (OT.mp h1)),h2}
  obtain⟨h1,h2⟩:=Ft m;cases OT.mp h1
 cases b with
 |false=>cases m
 |true=>
  have m:l∈[({"the clock",bw n,"steps",n}:Lk)]:=m;rw[OT.mp m];exact⟨.inr rfl,rfl⟩
def Two(x:Str):Prop:=∃a b:Nat,∀c∈x.cps.toList,c=a\/c=b
theorem Cg{x:Str}(h:Two x):x≠"nobodyhas":=λe=>by
 obtain⟨a,b,h⟩:=h;rw[e]at h;have h1:=h 110 ∅;have h2:=h 111 ∅;have h3:=h 98 ∅;lia
theorem wQ{k n:Int}{c:Nat}(m:c∈(lJ ⟨#[fZ k]⟩ n).cps.toList):c=fZ k:=by
 by_cases hn:1<=n
 ·rw[mS _ hn]at m;exact QX m
 unfold lJ at m;rw[if_pos ()]at m;cases m
theorem uX(c:Int)(k:Nat):ù c k≠"nobodyhas":=by
 unfold ù;split
 ·have h:∀i:Fin 25,words.getD i.val Su≠"nobodyhas":=by decide+kernel
  have:=bz (c/4%25+k) (show(0:Int)<25 by decide);exact h {((c/4%25+k)%25).toNat,()}
 split
 ·exact Cg {_,0,λc m=>.inl (wQ m)}
 refine Cg {fZ (c/288%26),fZ ((k+c/7488%26)%26),λd m=>?_};rw[show ∀a b:Str,(a++b).cps=a.cps++b.cps from λ_ _=>rfl,show ∀a b:Str,(a++b).cps=a.cps++b.cps from λ_ _=>rfl,Qp,Qp]at m;rcases Pa.mp m with m|m
 ·rcases Pa.mp m with m|m
  ·exact .inl (wQ (nF m))
  exact .inr (by simpa using m)
 exact .inl (wQ (nF m))
end
section
variable{N:Nat->Str}{ls rs:List Lr}
theorem HD(n:Nat)(rs:List Lr):Lfs (bp n rs):=λp m=>by
 obtain⟨k,l,_,e⟩:=f7 _ _ _ m;exact⟨k,l,e⟩
theorem u5:∀(n:Nat)(rs:List Lr),pE (bp n rs)=0
 |_,[]=>by unfold bp pE;rfl
 |n,l::r=>by
  have ih:=u5 (n+1) r;unfold bp pE;rw[ih];unfold dep;rfl
theorem wJ(N:Nat->Str)(rs:List Lr):dJ N [] (bp 15 rs)=(bp 15 rs).map λp=>(p,YW,YW):=zU (HD _ _)
theorem nQ.at(s:nQ ls rs){e:Le}(m:e∈dJ N [] (bp 15 rs)):∃(n:Int)(x y:Lr),e=(.leaf n (.snd x.ix (.one (.x y.ix))),YW,YW)/\15<=n/\n<45/\y∈ls/\ϡ y=true:=by
 rw[wJ]at m;obtain⟨p,mp,rfl⟩:=Pj.mp m;have hn:=r8 _ _ _ mp;have:=s.1;obtain⟨n,l,ml,rfl⟩:=f7 _ _ _ mp;obtain⟨x,y,_,_,my,ny,rfl⟩:=s.2 l ml;have hn:((15:Nat):Int)<=n/\n<((15:Nat):Int)+(rs.length:Nat):=hn;exact{n,x,y,rfl,(),(),my,ny}
theorem GY(s:nQ ls rs):iw (dJ N [] (bp 15 rs))=(bp 15 rs).map λp=>bw p.no:=by
 have a:∀e∈dJ N [] (bp 15 rs),Dw e.1=true:=λe m=>by
  obtain⟨n,x,y,rfl,_⟩:=s.at m;rfl
 unfold iw;rw[List.filter_eq_self.mpr a,wJ,P6];rfl
theorem mB(h:Ġ ls)(s:nQ ls rs):cz N (bp 1 ls) [] (bp 15 rs)=(ls.filterMap ϑ).map N++((bp 15 rs).map λp=>bw p.no)++[("the clock":Str)]:=by
 unfold cz;rw[GY s,BJ N 1 ls h.h4];simp
theorem zh(h:Ġ ls)(s:nQ ls rs){i:Nat}(m:i∈ls.filterMap ϑ):N i∈cz N (bp 1 ls) [] (bp 15 rs):=by
 rw[mB h s];exact Px _ (Px _ (PD m))
theorem Gq(h:Ġ ls){i:Nat}(m:i∈ls.filterMap ϑ):i<13:=by
 obtain⟨l,ml,e⟩:=PR.mp m;have b:=h.Τ l ml;cases h.h4 l ml with
 |hand _ _ _=>cases e
 |Ç _ _ _ _ _=>cases e;exact b
 |own _ _ _ _=>cases e;exact b
 |lt _ _ _=>cases e;exact b
theorem BZ(s:nQ ls rs){b:Bool}{l:Lk}(m:l∈gF N b [] (bp 15 rs)):(∃y,y∈ls/\ϡ y=true/\l.fr=N y.ix\/l.fr="the clock")/\l.to∈(bp 15 rs).map λp=>bw p.no:=by
 unfold gF at m;obtain⟨e,me,ml⟩:=List.mem_flatMap.mp m;have mp:=me;rw[wJ]at mp;obtain⟨p,mp,ep⟩:=Pj.mp mp;obtain⟨n,x,y,rfl,_,_,my,ny⟩:=s.at me;cases ep;obtain⟨a,c⟩:=CT ml;refine{{y,?_},by rw[c];exact Pj.mpr {_,mp,rfl}};rcases a with a|a
 ·exact .inl ⟨my,ny,a⟩
 exact .inr a
theorem Bj{α β:Type}{f:α->List β}{k:Nat}:∀{xs:List α},(∀x∈xs,(f x).length<=k)->(xs.flatMap f).length<=k*xs.length
 | [],_=>by simp
 |x::xs,h=>by
  have:=Bj (k:=k) λy m=>h y (O2 _ m);have:=h x OX;rw[Xo,O5,Pf,Nat.mul_add];lia
theorem JX(h:Ġ ls)(n:Nat):∀s∈jO N (bp n ls),s.2=0\/s.2=1\/s.2=2:=λs m=>by
 unfold jO at m;obtain⟨p,mp,rfl⟩:=Pj.mp m;obtain⟨m1,m2⟩:=Pu.mp mp;obtain⟨k,l,ml,rfl⟩:=f7 _ _ _ m1;have r:=h.rk l ml;cases h.h4 l ml with
 |hand _ _ _=>cases m2
 |Ç _ _ _ _ _=>exact r
 |own _ _ _ _=>cases m2
 |lt _ _ _=>exact r
theorem Od(D:dO N)(L:∀i,i<25->ş (N i))(h:Ġ ls)(s:nQ ls rs):OkT N 0 (bp 1 ls) [] (bp 15 rs):=by
 have lr:=s.1;have ll:(dJ N [] (bp 15 rs)).length<=30:=by rw[wJ,OU,fb];exact lr
 have nb:Nb (dJ N [] (bp 15 rs)):=λe m=>by
  obtain⟨n,x,y,rfl,n0,n1,_⟩:=s.at m;show 0<=n/\n<=1000;lia
 have pl:(ls.filterMap ϑ).length<=13:=by
  have:=Qy ϑ ls;rw[h.len]at this;exact this
 have ltr:∀a∈(ls.filterMap ϑ).map N,ş a:=λa m=>by
  obtain⟨i,mi,rfl⟩:=Pj.mp m;exact L i (by have:=Gq h mi;lia)
 have rows:∀a∈(bp 15 rs).map λp=>bw p.no,∃n:Int,a=bw n/\0<=n/\n<=1000:=λa m=>by
  obtain⟨p,mp,rfl⟩:=Pj.mp m;have:=r8 _ _ _ mp;exact{p.no,rfl,(),()}
 have ck:("the clock":Str)∈cz N (bp 1 ls) [] (bp 15 rs):=by
  rw[mB h s];exact Pb _ (OT.mpr rfl)
 refine{{{λp m=>(by cases m),by rw[u5];exact OW _,nb,(),by rw[fb,h.len];decide,?_,?_},{λp m=>(by cases m),λp m=>(by cases m),λi p e=>(by cases e),λi j p q e=>(by cases e),∅},QM,λp m=>(by cases m),λe m=>?_,λe m=>?_,λe m=>?_,λb=>?_,λe m=>?_},λb l m=>?_,λb l m=>?_,JX h 1,?_,λx m=>?_}
 ·rw[mB h s,O5,O5,OU,OU,fb];show _+1<=900;lia
 ·rw[mB h s];refine P4.mpr {P4.mpr {AO D h.pl λi m=>(by have:=Gq h m;lia),vf 15 rs (),λa ma b mb z=>?_},PK.mpr ⟨Pw,QM⟩,λa ma b mb z=>?_}
  ·obtain⟨n,rfl,_⟩:=rows b mb;exact Bl (ltr a ma) (JV n) z
  rw[OT]at mb;rw[mb]at z;rcases Pa.mp ma with m|m
  ·exact Bl (ltr a m) FI z
  obtain⟨n,rfl,n0,n1⟩:=rows a m;exact GC n0 n1 ∅ z
 ·obtain⟨n,x,y,rfl,_⟩:=s.at m;rfl
 ·obtain⟨n,x,y,rfl,_⟩:=s.at m;exact λz=>by cases z
 ·obtain⟨n,x,y,rfl,_⟩:=s.at m;exact trivial
 ·have:=Bj (f:=uN N b []) (k:=20) (xs:=dJ N [] (bp 15 rs)) λe m=>by
   obtain⟨n,x,y,rfl,_⟩:=s.at m;unfold uN;rw[O5];have h1:(zP N (ϋ N []) (.leaf n (.snd x.ix (.one (.x y.ix)))) YW YW).length<=4:=BO _ _ _ _;have h3:∀kn t,(DS b kn t).length<=1:=λkn t=>by
    cases b
    ·exact Pc _
    exact FX kn t
   exact O6 (YF h1 (h3 _ _)) ∅
  show((dJ N [] (bp 15 rs)).flatMap (uN N b [])).length<=900;lia
 ·obtain⟨n,x,y,rfl,_⟩:=s.at m;refine{by unfold Ż;exact trivial,by unfold dep;exact OW _}
 ·obtain⟨⟨y,hy⟩,_⟩:=BZ s m;rcases hy with⟨my,ny,e⟩|e
  ·rw[e];obtain⟨r,ey⟩:=Bo ny;exact zh h s (PR.mpr {y,my,by rw[ey];rfl})
  rw[e];exact ck
 ·obtain⟨_,e⟩:=BZ s m;rw[mB h s];exact Px _ (Pb _ e)
 ·rw[sP N 1 ls h.h4];refine AO D h.sr λi m=>?_;obtain⟨l,ml,e⟩:=PR.mp m;have:=Gq h (PR.mpr ⟨l,ml,Cc e⟩);lia
 have m':x.1∈(jO N (bp 1 ls)).map (·.1):=Pj.mpr ⟨x,m,rfl⟩;rw[sP N 1 ls h.h4]at m';obtain⟨i,mi,e⟩:=Pj.mp m';rw[<-e];obtain⟨l,ml,e⟩:=PR.mp mi;exact zh h s (PR.mpr ⟨l,ml,Cc e⟩)
end
section
variable{P:Program}{w:RS}{K:RG}{mg:Str->Option RC}{base:R8}{A:Ï}{N:Nat->Str}
seal PE PA PS ü PT PW
def NQ(K:RG):List V->Hp->VK->Prop:=λxs H Q=>wV K xs H Q\/
  (∃(a C:RB)(od:Option RB)(fl b:Bool)(y:V),xs=[.ref a,y]/\H a=YV (xo a C od fl)/\(∀dx,od=YV dx->∃fs,H dx=YV (L2.xf dx fs))/\ä K C/\uG y≠ .none/\R0 K (.ref C) (uG y)=YV b/\Q (.bl b) H)
theorem Fc{X:Cx}:cO X (.builtin "isinstance") (NQ X.K):=MA
theorem r9{C:RB}:R0 K (.ref C) (.ref C)=YV true:=by
 unfold R0;rw[if_pos (by simp)]
inductive As(N:Nat->Str)(H:Hp)(r:Int)(hs:List Pt)(gi:List Nat)(gf:Nat->V)(ji:List Nat)(jf:Nat->V)(Î:List V):Prop
 |one (j:Nat) (p:Pt) (a:∀p∈hs.take j,í H gi gf true p) (hp:hs[j]?=YV p) (b:í H gi gf false p) (q:Î=[.str "bad",.str (N (î p))])
 |two (j:Nat) (p:Pt) (a:∀p∈hs,í H gi gf true p) (c:∀p∈hs.take j,í H ji jf true p) (hp:hs[j]?=YV p) (b:í H ji jf false p) (q:Î=[.str "bad",.str (N (î p))])
 |un (j:Nat) (p:Pt) (a:∀p∈hs,í H gi gf true p) (c:∀p∈hs,í H ji jf true p) (d:∀p∈hs.take j,đ H r gi gf ji jf true p) (hp:hs[j]?=YV p) (b:đ H r gi gf ji jf false p) (q:Î=[.str "unlike",.str (N (î p))])
 |ok (a:∀p∈hs,í H gi gf true p) (c:∀p∈hs,í H ji jf true p) (d:∀p∈hs,đ H r gi gf ji jf true p) (q:Î=[.str "told",.bl true])
inductive yR(A:Ï)(vs:List V)(H:Hp)(Q:VK)(Ã:XK):Prop
 |mk(N:Nat->Str)(X:Hp)(v:V)(r:Int)(hs ms:List Pt)(g j:RB)(gi:List Nat)(gf:Nat->V)(ji:List Nat)(jf:Nat->V)(Î:List V)(z0:vs=[v,.int r,.ref g,.ref j])(z1:ak X H)(z2:ka A N X v hs [] ms)(z3:dO N)(z4:xp hs)(z11:OkT N 0 hs [] ms)(z12:rJ hs ms)(z5:H g=YV (.dK (dk N gi gf)))(z6:∀i∈gi,i<25)(z7:H j=YV (.dK (dk N ji jf)))(z8:∀i∈ji,i<25)
  (z9:As N H r hs gi gf ji jf Î) (z10:∀t H',ak H H'->H' t=YV (.tup Î)->Q (.ref t) H'):yR A vs H Q Ã
theorem ID(T:Txt K mg A):T.ql.Hz P w base 15 (yR A):=by
 refine T.ql.hs (k:=14) dz (λf Â A' outer s H vs Q E' hr hu h=>?_);obtain⟨N,X,v,r,hs,ms,g,j,gi,gf,ji,jf,Î,rfl,s0,pg,Di,ho,O,so,eg,gb,ej,jb,az,q⟩:=h;refine⟨_,(af (É 4 dz.nd bU)
 (af (É 5 dz.nd bU)
 (af (KP (λb Hd cat=>(aj (AU (i:=5) dz.nd rfl (OZ rfl) (lQ cat (Kv T) hr (fv 0^fv 1^fv 2^fv 3^ae)))))
  aH
  (NA T.pX T.pq (i:=6) dz.nd rfl rfl (λe=>(aj (AU (X:=(cxS (nG ġ P w K mg base ["_law_program","_law_rank","_law_one","_law_other","_law_caught","_law_found","e"] "_law_asked" (aq je) f Â A' outer s H E').ό e)) (i:=4) dz.nd rfl (OZ rfl) (fv 6)))) E3))
 (af (aN (Ö zW (fv 4) bU)
  (aj (aD (aQ (aK^(Af (Ó aI T.av (fv 5^(kM (v:=.ty "tuple") rfl T.rH (by boot_by_name) rfl)^ae)) (wR (pec (bY hu) (Ó eZ T.fY (fv 5^ae)) ag)))^ae))))
  aH)
 (af (aN (Ö (bY hu) (pS Fc rfl T.av (by boot_by_name) (fv 4^aL T.qp^ae)) (pS Fc rfl T.av (by boot_by_name) (fv 4^aL T.qV^ae)))
  (aj (aD (aQ (aK^fv 4^ae))))
  aH)
 (aj (aD (aQ ((px hu (aP (aK^aK^ae)) (Ď EN T.uW ((pS Fc rfl T.av (by boot_by_name) (fv 4^aL T.qp^ae))^ae)))^GS (fv 4) rfl^ae))))))))),?_⟩
 refine ah λM1 K1=>K1 _ _ ?_;clear K1 M1;rfl'
 refine ah λM1 K1=>K1 _ _ ?_;clear K1 M1;rfl'
 refine ah λM3 K3=>?_;cases az with
 |one k p a hp b qa=>
  refine{N,X,v,r,hs,ms,g,j,gi,gf,ji,jf,rfl,s0,pg,Di,ho,O,so,eg,gb,ej,jb,Wk.one k p a hp b (λe dx H1 s1 he hd=>{e,A.bC,rfl,he,true,T.bX,T.yo,(if_pos rfl).mpr (K3 _ _ ?_)})};clear K3 M3;rfl'
  refine ah λM4 K4=>{rfl,_,rfl,bh (λc=>absurd (of_decide_eq_true c) (λz=>by cases z)) (λ_=>K4 _ _ ?_)};clear K4 M4;rfl'
  refine ah λM4 K4=>Py {e,A.bC,YV dx,true,true,_,rfl,he,(λd h=>by cases h;exact{_,hd}),T.bX,(λz=>by cases z),r9,Py {e,A.bC,YV dx,true,false,_,rfl,he,(λd h=>by cases h;exact{_,hd}),T.bX,(λz=>by cases z),T.xJ,rfl,_,rfl,bh (λc=>absurd c ∅) (λ_=>K4 _ _ ?_)}};clear K4 M4;rfl'
  refine{by show 2<=sizeLine;decide,λL hL=>?_};obtain⟨s2,e2⟩:=Ð hL (HO.lst [V.str "unlike",V.str "bad"]);have he:=s2 _ _ he;have hd:=s2 _ _ hd;generalize upd H1 L _=H2 at s2 e2 he hd⊢;exact Py {e,A.bC,YV dx,true,true,_,rfl,he,(λd h=>by cases h;exact{_,hd}),T.bX,(λz=>by cases z),r9,true,rfl,Ì (À.of e2) rfl {e,A.bC,dx,true,_,_,rfl,he,hd,T.bX,T.fh,rfl,by show 2<=sizeLine;decide,λt ht=>q t _ (s1.trans (s2.trans (ak.upd ht _))) (by rw[qa];exact ao)}}
 |two k p a c hp b qa=>
  refine{N,X,v,r,hs,ms,g,j,gi,gf,ji,jf,rfl,s0,pg,Di,ho,O,so,eg,gb,ej,jb,Wk.two k p a c hp b (λe dx H1 s1 he hd=>{e,A.bC,rfl,he,true,T.bX,T.yo,(if_pos rfl).mpr (K3 _ _ ?_)})};clear K3 M3;rfl'
  refine ah λM4 K4=>{rfl,_,rfl,bh (λc=>absurd (of_decide_eq_true c) (λz=>by cases z)) (λ_=>K4 _ _ ?_)};clear K4 M4;rfl'
  refine ah λM4 K4=>Py {e,A.bC,YV dx,true,true,_,rfl,he,(λd h=>by cases h;exact{_,hd}),T.bX,(λz=>by cases z),r9,Py {e,A.bC,YV dx,true,false,_,rfl,he,(λd h=>by cases h;exact{_,hd}),T.bX,(λz=>by cases z),T.xJ,rfl,_,rfl,bh (λc=>absurd c ∅) (λ_=>K4 _ _ ?_)}};clear K4 M4;rfl'
  refine{by show 2<=sizeLine;decide,λL hL=>?_};obtain⟨s2,e2⟩:=Ð hL (HO.lst [V.str "unlike",V.str "bad"]);have he:=s2 _ _ he;have hd:=s2 _ _ hd;generalize upd H1 L _=H2 at s2 e2 he hd⊢;exact Py {e,A.bC,YV dx,true,true,_,rfl,he,(λd h=>by cases h;exact{_,hd}),T.bX,(λz=>by cases z),r9,true,rfl,Ì (À.of e2) rfl {e,A.bC,dx,true,_,_,rfl,he,hd,T.bX,T.fh,rfl,by show 2<=sizeLine;decide,λt ht=>q t _ (s1.trans (s2.trans (ak.upd ht _))) (by rw[qa];exact ao)}}
 |un k p a c d hp b qa=>
  refine{N,X,v,r,hs,ms,g,j,gi,gf,ji,jf,rfl,s0,pg,Di,ho,O,so,eg,gb,ej,jb,Wk.un k p a c d hp b (λe dx H1 s1 he hd=>{e,A.aY,rfl,he,true,T.cS,T.Ci,(if_pos rfl).mpr (K3 _ _ ?_)})};clear K3 M3;rfl'
  refine ah λM4 K4=>{rfl,_,rfl,bh (λc=>absurd (of_decide_eq_true c) (λz=>by cases z)) (λ_=>K4 _ _ ?_)};clear K4 M4;rfl'
  refine ah λM4 K4=>Py {e,A.aY,YV dx,true,false,_,rfl,he,(λd h=>by cases h;exact{_,hd}),T.cS,(λz=>by cases z),T.yj,Py {e,A.aY,YV dx,true,true,_,rfl,he,(λd h=>by cases h;exact{_,hd}),T.cS,(λz=>by cases z),r9,rfl,_,rfl,bh (λc=>absurd c ∅) (λ_=>K4 _ _ ?_)}};clear K4 M4;rfl'
  refine{by show 2<=sizeLine;decide,λL hL=>?_};obtain⟨s2,e2⟩:=Ð hL (HO.lst [V.str "unlike",V.str "bad"]);have he:=s2 _ _ he;have hd:=s2 _ _ hd;generalize upd H1 L _=H2 at s2 e2 he hd⊢;exact Py {e,A.aY,YV dx,true,false,_,rfl,he,(λd h=>by cases h;exact{_,hd}),T.cS,(λz=>by cases z),T.yj,false,rfl,Ì (À.of e2) rfl {e,A.aY,dx,true,_,_,rfl,he,hd,T.cS,T.fF,rfl,by show 2<=sizeLine;decide,λt ht=>q t _ (s1.trans (s2.trans (ak.upd ht _))) (by rw[qa];exact ao)}}
 |ok a c d qa=>
  refine{N,X,v,r,hs,ms,g,j,gi,gf,ji,jf,rfl,s0,pg,Di,ho,O,so,eg,gb,ej,jb,Wk.ok a c d (λu x y H1 s1 eu=>K3 _ _ ?_)};clear K3 M3;rfl'
  refine ah λM4 K4=>{rfl,_,rfl,bh (λ_=>?_) (λc=>absurd rfl c)};exact{_,_,_,_,rfl,(λz=>by cases z),.tup eu,Lv,true,rfl,(if_pos rfl).mpr (OZ {_,_,rfl,Py {_,Æ.of eu,rfl},rfl,{by show 2<=sizeLine;decide,λt ht=>q t _ (s1.trans (ak.upd ht _)) (by rw[qa];exact ao)}})}
theorem qj:∀(n:Nat)(l:List Nat),l.Nodup->(∀j∈l,j<n)->l.length<=n
 |0,l,_,h=>by
  cases l with
  |nil=>exact OW _
  |cons a l=>exact absurd (h a OX) (Nat.not_lt_zero _)
 |n+1,l,d,h=>by
  by_cases m:n∈l
  ·have:=qj n (l.erase n) (d.erase n) λj mj=>by
    obtain⟨ne,mj⟩:=d.mem_erase_iff.mp mj;have:=h j mj;lia
   rw[Vj m]at this;lia
  have:=qj n l d λj mj=>by
   have:=h j mj;have:j≠n:=λe=>m (e▸mj);lia
  lia
theorem vZ{α β:Type}{f:α->β}:∀{l:List α},(l.map f).Nodup->∀{a b:α},a∈l->b∈l->f a=f b->a=b
 | [],_,_,_,h,_,_=>by cases h
 |x::l,d,a,b,ha,hb,e=>by
  rw[Pp,PK]at d;rcases O4.mp ha with ha|ha<;>rcases O4.mp hb with hb|hb
  ·rw[ha,hb]
  ·exact absurd (Pj.mpr {b,hb,by rw[<-e,ha]}) d.1
  ·exact absurd (Pj.mpr {a,ha,by rw[e,hb]}) d.1
  exact vZ d.2 ha hb e
theorem Zh{H:Hp}{g p:RB}{o:HO}{kvs:List (Key×V)}(hg:H g=YV (.dK kvs))(h:H p=YV o)(n:∀k,o≠ .dK k):del [g] H p=YV o:=bT (λm=>by
 rw[OT.mp m,hg]at h;exact n _ (RQ h).symm) h
theorem Y8.del{H:Hp}{v:V}{b:Bool}{g:RB}{kvs:List (Key×V)}(h:Y8 H v b)(hg:H g=YV (.dK kvs)):Y8 (del [g] H) v b:=by
 cases h with
 |int a=>exact .int a
 |bl x=>exact .bl x
 |str x=>exact .str x
 |Ä=>exact .Ä
 |tup h=>exact .tup (Zh hg h λk z=>by cases z)
 |lst h=>exact .lst (Zh hg h λk z=>by cases z)
theorem Ŕ.del{H:Hp}{v:V}{g:RB}{kvs:List (Key×V)}(h:Ŕ H v)(hg:H g=YV (.dK kvs)):Ŕ (del [g] H) v:=by
 cases h with
 |int a=>exact .int a
 |bl x=>exact .bl x
 |str x=>exact .str x
 |Ä=>exact .Ä
 |tup h=>exact .tup (Zh hg h λk z=>by cases z)
theorem dQ.del{H:Hp}{v:V}{z:Nat}{b:Bool}{g:RB}{kvs:List (Key×V)}(h:dQ H v z b)(hg:H g=YV (.dK kvs)):dQ (del [g] H) v z b:=by
 rcases h with⟨h0,h⟩|⟨h0,⟨h,hb⟩|⟨p,xs,e,h,hl,h2⟩⟩
 ·exact .inl ⟨h0,h.del hg⟩
 ·exact .inr {h0,.inl ⟨h.del hg,hb⟩}
 refine .inr {h0,.inr {p,xs,e,Zh hg h (λk z=>by cases z),hl,?_}};rcases h2 with h2|⟨h2,g',h3,h4⟩
 ·exact .inl h2
 exact .inr {h2,g',λx hx=>(h3 x hx).del hg,h4}
def Ń(H:Hp)(v:V)(z:Nat):Option Cl->Prop
 |some c=>df H v c/\c.fits z
 |none=>dQ H v z false
theorem Ń.same{H H':Hp}{v:V}{z:Nat}{s:Option Cl}(h:Ń H v z s)(sm:ak H H'):Ń H' v z s:=by
 cases s with
 |some c=>exact⟨h.1.same sm,h.2⟩
 |none=>exact dQ.same h sm
theorem Ń.but{H:Hp}{v:V}{z:Nat}{s:Option Cl}{g:RB}{o:HO}{kvs:List (Key×V)}(h:Ń H v z s)(hg:H g=YV (.dK kvs)):Ń (upd H g o) v z s:=by
 cases s with
 |some c=>exact⟨h.1.but hg,h.2⟩
 |none=>
  refine dQ.same (dQ.del h hg) λx u e=>?_;obtain⟨e1,e2⟩:=nE e;exact aF (λz=>e1 (by rw[z];exact OX)) e2
def iX(f:Nat->Option Cl)(i:Nat)(v:Option Cl):Nat->Option Cl:=λj=>if j=i then v else f j
def eh(N:Nat->Str)(H:Hp)(d:RB)(ls:List Lr)(st:Nat->Option Cl):Prop:=∃idx f,H d=YV (.dK (dk N idx f))/\(∀j∈idx,j<24)/\idx.Nodup/\∀x r y,Lr.Ç x r y∈ls->Ń H (look idx f x) y.toNat (st x)
theorem eh.same{H H':Hp}{d:RB}{ls:List Lr}{st:Nat->Option Cl}(s:ak H H')(h:eh N H d ls st):eh N H' d ls st:=by
 obtain⟨idx,f,e,h1,h2,h3⟩:=h;exact{idx,f,s _ _ e,h1,h2,λx r y m=>(h3 x r y m).same s}
theorem eh.but{H:Hp}{d g:RB}{ls:List Lr}{st:Nat->Option Cl}{o:HO}{kvs:List (Key×V)}(h:eh N H d ls st)(ne:d≠g)(hg:H g=YV (.dK kvs)):eh N (upd H g o) d ls st:=by
 obtain⟨idx,f,e,h1,h2,h3⟩:=h;exact{idx,f,aF ne e,h1,h2,λx r y m=>(h3 x r y m).but hg}
theorem GW{ls:List Lr}(h:Ġ ls){x:Nat}{r r' y y':Int}(a:Lr.Ç x r y∈ls)(b:Lr.Ç x r' y'∈ls):r'=r/\y'=y:=by
 have e:=vZ h.ix a b rfl;cases e;exact⟨rfl,rfl⟩
theorem eh.put(D:dO N){H:Hp}{d:RB}{ls:List Lr}{st:Nat->Option Cl}{idx:List Nat}{f:Nat->V}{x:Nat}{r y:Int}{v:V}{s:Option Cl}(h:Ġ ls)(m:Lr.Ç x r y∈ls)(e:H d=YV (.dK (dk N idx f)))(h1:∀j∈idx,j<24)(h2:idx.Nodup)(h3:∀x r y,Lr.Ç x r y∈ls->Ń H (look idx f x) y.toNat (st x))(hv:Ń H v y.toNat s):∃ŭ f',upd H d (.dK (Y2 (dk N idx f) (.inr (N x)) v)) d=YV (.dK (dk N ŭ f'))/\(∀j∈ŭ,j<24)/\ŭ.Nodup/\x∈ŭ/\∀x' r y,Lr.Ç x' r y∈ls->Ń (upd H d (.dK (Y2 (dk N idx f) (.inr (N x)) v))) (look ŭ f' x') y.toNat (iX st x s x'):=by
 have ϶:x<13:=h.Τ _ m;refine{ins idx x,p6 f x v,by rw[ao,Gf D () (λj mj=>by have:=h1 j mj;lia)],λj mj=>?_,?_,Av _ _,λx' r' y' m'=>?_}
 ·rcases Ca mj with z|z
  ·lia
  exact h1 j z
 ·unfold ins;split
  ·exact h2
  next n=>
  refine P4.mpr {h2,PK.mpr ⟨Pw,QM⟩,λa ma b mb z=>n ?_};rw[OT]at mb;rw[<-mb,<-z];exact ma
 unfold iX look;by_cases c:x'=x
 ·subst c;obtain⟨_,rfl⟩:=GW h m m';rw[if_pos rfl,if_pos (Av _ _),dE];exact hv.but e
 rw[if_neg c,fV _ _ c];have k:=(h3 x' r' y' m').but (o:=.dK (Y2 (dk N idx f) (.inr (N x)) v)) e;unfold look at k;by_cases mi:x'∈idx
 ·rw[if_pos mi]at k;rw[if_pos (ym mi)];exact k
 rw[if_neg mi]at k;rw[if_neg (λz=>(Ca z).elim c mi)];exact k
theorem IH(H:Hp)(z:Nat):dQ H .Ä z false:=za ⟨.Ä,.Ä⟩ z
theorem eh.pop(D:dO N){H:Hp}{d:RB}{ls:List Lr}{st:Nat->Option Cl}{idx:List Nat}{f:Nat->V}{x:Nat}(϶:x<13)(e:H d=YV (.dK (dk N idx f)))(h1:∀j∈idx,j<24)(h2:idx.Nodup)(h3:∀x r y,Lr.Ç x r y∈ls->Ń H (look idx f x) y.toNat (st x)):eh N (upd H d (.dK (pM (dk N idx f) (.inr (N x))))) d ls (iX st x YW):=by
 refine{idx.filter λj=>decide (j≠x),f,by rw[ao,IM D () (λj mj=>by have:=h1 j mj;lia)],λj mj=>h1 j (Pu.mp mj).1,Tz Q9 h2,λx' r' y' m'=>?_};unfold iX look;by_cases c:x'=x
 ·have nf:x'∉idx.filter λj=>decide (j≠x):=λz=>by
   have:=(Pu.mp z).2;simp only[ne_eq,decide_not,Bool.not_eq_eq_eq_not,Bool.not_true,decide_eq_false_iff_not]at this;exact this c
  rw[if_pos c,if_neg nf];exact IH _ _
 rw[if_neg c];have k:=(h3 x' r' y' m').but (o:=.dK (pM (dk N idx f) (.inr (N x)))) e;unfold look at k;by_cases mi:x'∈idx
 ·rw[if_pos mi]at k;rw[if_pos (Pu.mpr ⟨mi,decide_eq_true c⟩)];exact k
 rw[if_neg mi]at k;rw[if_neg (λz=>mi (Pu.mp z).1)];exact k
theorem gN.od{H:Hp}{d:RB}{ls:List Lr}{cl:Nat->Cl}{f:Nat->V}(h:Ġ ls)(e:H d=YV (.dK (dk N (Ü ls) f)))(k:∀x r y,Lr.Ç x r y∈ls->df H (f x) (cl x)/\(cl x).fits y.toNat):eh N H d ls λx=>YV (cl x):=by
 refine{Ü ls,f,e,λj mj=>?_,h.gv,λx r y m=>?_}
 ·obtain⟨r,z,m⟩:=vX mj;have:j<13:=h.Τ _ m;lia
 unfold look;rw[if_pos (jc m)];exact k x r y m
inductive Due(N:Nat->Str)(gv:List Lr)(b0 b1 un:Lr->Prop)(Î:List V):Prop
 |zero (i:Nat) (g:Lr) (h:gv[i]?=YV g) (b:b0 g) (a:∀g'∈gv.take i,¬ b0 g') (q:Î=[.str "bad",.str (N g.ix)]):Due N gv b0 b1 un Î
 |one (z:∀g∈gv,¬ b0 g) (i:Nat) (g:Lr) (h:gv[i]?=YV g) (b:b1 g) (a:∀g'∈gv.take i,¬ b1 g') (q:Î=[.str "bad",.str (N g.ix)]):Due N gv b0 b1 un Î
 |two (z:∀g∈gv,¬ b0 g) (y:∀g∈gv,¬ b1 g) (i:Nat) (g:Lr) (h:gv[i]?=YV g) (b:un g) (a:∀g'∈gv.take i,¬ un g') (q:Î=[.str "unlike",.str (N g.ix)]):Due N gv b0 b1 un Î
 |Ä (z:∀g∈gv,¬ b0 g) (y:∀g∈gv,¬ b1 g) (x:∀g∈gv,¬ un g) (q:Î=[.str "told",.bl true]):Due N gv b0 b1 un Î
def à(l:Lr):Bool:=decide (l.w="given")
def Lr.rk:Lr->Int
 | .Ç _ r _=>r
 |_=>0
theorem hU{α:Type}{p:α->Bool}{g:α}:∀{ls:List α}{i:Nat},(ls.filter p)[i]?=YV g->∃j,ls[j]?=YV g/\∀l∈ls.take j,p l=true->l∈(ls.filter p).take i
 | [],i,h=>by simp at h
 |x::ls,i,h=>by
  by_cases c:p x=true
  ·rw[QY c]at h⊢;cases i with
   |zero=>exact{0,h,λl m=>by cases m}
   |succ i=>
    obtain⟨j,e,k⟩:=hU (ls:=ls) (i:=i) h;refine{j+1,e,λl m pl=>?_};rw[Wu]at m⊢;rcases O4.mp m with m|m
    ·rw[m];exact OX
    exact O2 _ (k l m pl)
  rw[QA c]at h⊢;obtain⟨j,e,k⟩:=hU (ls:=ls) (i:=i) h;refine{j+1,e,λl m pl=>?_};rw[Wu]at m;rcases O4.mp m with m|m
  ·rw[m]at pl;exact absurd pl c
  exact k l m pl
theorem vC:∀(n:Nat)(ls:List Lr)(j:Nat),(bp n ls).take j=bp n (ls.take j)
 |_,_,0=>by unfold bp;rfl
 |_,[],j+1=>rfl
 |n,l::r,j+1=>congrArg (Pt.leaf (n:Int) l:: ·) (vC (n+1) r j)
theorem Jj{H:Hp}{gi:List Nat}{gf:Nat->V}{m r z:Int}{i:Nat}(h:∃c,df H (look gi gf i) c/\c.fits z.toNat):í H gi gf true (.leaf m (.Ç i r z)):=by
 unfold í;exact(if_pos rfl).mpr h
theorem Jp{H:Hp}{gi:List Nat}{gf:Nat->V}{m r z:Int}{i:Nat}(h:dQ H (look gi gf i) z.toNat false):í H gi gf false (.leaf m (.Ç i r z)):=by
 unfold í;exact(if_neg O3).mpr h
theorem MJ{H:Hp}{gi ji:List Nat}{gf jf:Nat->V}{m r rk z:Int}{i:Nat}(h:rk<=r->∃c,df H (look gi gf i) c/\df H (look ji jf i) c/\c.fits z.toNat):đ H r gi gf ji jf true (.leaf m (.Ç i rk z)):=by
 unfold đ;exact(if_pos rfl).mpr h
theorem Nd{H:Hp}{gi ji:List Nat}{gf jf:Nat->V}{m r rk z:Int}{i:Nat}(h:rk<=r/\∃c d,df H (look gi gf i) c/\df H (look ji jf i) d/\c.fits z.toNat/\d.fits z.toNat/\c≠d):đ H r gi gf ji jf false (.leaf m (.Ç i rk z)):=by
 unfold đ;exact(if_neg O3).mpr h
theorem ED{N:Nat->Str}{H:Hp}{r:Int}{ls:List Lr}{gi ji:List Nat}{gf jf:Nat->V}{st0 st1:Nat->Option Cl}{c1 c2:Nat->Cl}{Î:List V}(h:Ġ ls)
  (l0:∀x r y,Lr.Ç x r y∈ls->Ń H (look gi gf x) y.toNat (st0 x)) (l1:∀x r y,Lr.Ç x r y∈ls->Ń H (look ji jf x) y.toNat (st1 x)) (s0:∀x,st0 x≠YW->st0 x=YV (c1 x)) (s1:∀x,st1 x≠YW->st1 x=YV (c2 x))
  (d:Due N (ls.filter à) (λg=>st0 g.ix=YW) (λg=>st1 g.ix=YW) (λg=>g.rk<=r/\c2 g.ix≠c1 g.ix) Î):As N H r (bp 1 ls) gi gf ji jf Î:=by
 have ok0:∀{m:Int}{l:Lr},l∈ls->(à l=true->¬ st0 l.ix=YW)->í H gi gf true (.leaf m l):=λ{m l} ml nb=>by
  cases h.h4 l ml with
  |Ç i rr z hi hz=>
   have k:=l0 i rr z ml;rw[s0 i (nb rfl)]at k;exact Jj {_,k}
  |_=>rfl
 have ok1:∀{m:Int}{l:Lr},l∈ls->(à l=true->¬ st1 l.ix=YW)->í H ji jf true (.leaf m l):=λ{m l} ml nb=>by
  cases h.h4 l ml with
  |Ç i rr z hi hz=>
   have k:=l1 i rr z ml;rw[s1 i (nb rfl)]at k;exact Jj {_,k}
  |_=>rfl
 have eq1:∀{m:Int}{l:Lr},l∈ls->(à l=true->¬ st0 l.ix=YW)->(à l=true->¬ st1 l.ix=YW)->(à l=true->¬ (l.rk<=r/\c2 l.ix≠c1 l.ix))->đ H r gi gf ji jf true (.leaf m l):=λ{m l} ml n0 n1 nu=>by
  cases h.h4 l ml with
  |Ç i rr z hi hz=>
   have k0:=l0 i rr z ml;have k1:=l1 i rr z ml;rw[s0 i (n0 rfl)]at k0;rw[s1 i (n1 rfl)]at k1;refine MJ λle=>{c1 i,k0.1,?_,k0.2};have e:c2 i=c1 i:=Classical.byContradiction λne=>nu rfl ⟨le,ne⟩;rw[<-e];exact k1.1
  |_=>rfl
 have Ϗ:∀{l:Lr},l∈ls->à l=true->l∈ls.filter à:=λm e=>Pu.mpr ⟨m,e⟩
 have gg:∀{i:Nat}{g:Lr},(ls.filter à)[i]?=YV g->g∈ls/\∃x rr z,g=.Ç x rr z:=λe=>by
  obtain⟨m,w⟩:=Pu.mp (OY e);exact{m,zg (of_decide_eq_true w)}
 have all:∀{q:Pt->Prop},(∀(m:Int)(l:Lr),l∈ls->q (.leaf m l))->∀p∈bp 1 ls,q p:=λk p m=>by
  obtain⟨n,l,ml,rfl⟩:=f7 _ _ _ m;exact k n l ml
 have tak:∀{q:Pt->Prop}{j:Nat},(∀(m:Int)(l:Lr),l∈ls.take j->q (.leaf m l))->∀p∈(bp 1 ls).take j,q p:=λk p m=>by
  rw[vC]at m;obtain⟨n,l,ml,rfl⟩:=f7 _ _ _ m;exact k n l ml
 cases d with
 |zero i g e b a q=>
  obtain⟨j,ej,k⟩:=hU e
  obtain⟨mg,x,rr,z,rfl⟩:=gg e
  refine .one j _ (tak λm l ml=>ok0 (Pz ml) λw=>a l (k l ml w)) (pD 1 ls j _ ej) (Jp ?_) q
  have v:=l0 x rr z mg
  rw[show st0 x=YW from b]at v
  exact v
 |one z0 i g e b a q=>
  obtain⟨j,ej,k⟩:=hU e
  obtain⟨mg,x,rr,z,rfl⟩:=gg e
  refine .two j _ (all λm l ml=>ok0 ml λw=>z0 l (Ϗ ml w)) (tak λm l ml=>ok1 (Pz ml) λw=>a l (k l ml w)) (pD 1 ls j _ ej) (Jp ?_) q
  have v:=l1 x rr z mg
  rw[show st1 x=YW from b]at v
  exact v
 |two z0 y0 i g e b a q=>
  obtain⟨j,ej,k⟩:=hU e
  obtain⟨mg,x,rr,z,rfl⟩:=gg e
  refine .un j _ (all λm l ml=>ok0 ml λw=>z0 l (Ϗ ml w)) (all λm l ml=>ok1 ml λw=>y0 l (Ϗ ml w)) (tak λm l ml=>?_) (pD 1 ls j _ ej) (Nd ?_) q
  ·have ml':=Pz ml;exact eq1 ml' (λw=>z0 l (Ϗ ml' w)) (λw=>y0 l (Ϗ ml' w)) (λw=>a l (k l ml w))
  have v0:=l0 x rr z mg
  have v1:=l1 x rr z mg
  have mf:Lr.Ç x rr z∈ls.filter à:=OY e
  rw[s0 x (z0 _ mf)]at v0
  rw[s1 x (y0 _ mf)]at v1
  exact{b.1,_,_,v0.1,v1.1,v0.2,v1.2,λe=>b.2 e.symm}
 |Ä z0 y0 x0 q=>exact .ok (all λm l ml=>ok0 ml λw=>z0 l (Ϗ ml w)) (all λm l ml=>ok1 ml λw=>y0 l (Ϗ ml w)) (all λm l ml=>eq1 ml (λw=>z0 l (Ϗ ml w)) (λw=>y0 l (Ϗ ml w)) (λw=>x0 l (Ϗ ml w))) q
def Ĕ(c:Int)(i:Nat):Str:=if i=24 then "nobodyhas" else ù c i
theorem Ie(c:Int):dO (Ĕ c):=λi j hi hj e=>by
 unfold Ĕ at e;by_cases a:i=24<;>by_cases b:j=24
 ·rw[a,b]
 ·rw[if_pos a,if_neg b]at e;exact absurd e.symm (uX c j)
 ·rw[if_neg a,if_pos b]at e;exact absurd e (uX c i)
 rw[if_neg a,if_neg b]at e;exact Ce c i j hi hj e
theorem Jx(c:Int):∀i,i<25->ş (Ĕ c i):=λi _=>by
 unfold Ĕ;split
 ·exact(by decide+kernel:∀d∈("nobodyhas":Str).cps.toList,97<=d/\d<=122)
 exact JI c i
theorem JM{c:Int}{X:Hp}{v:V}{l:Lr}(h:fJ (ù c) X v l)(b:l.ix<13)(h4:Ž l):fJ (Ĕ c) X v l:=by
 obtain⟨a,p,e,h1,h2⟩:=h;have en:Ĕ c l.ix=ù c l.ix:=if_neg ();refine{a,p,e,?_,?_}
 ·cases h4 with
  |hand k r _=>rw[h1];have en:Ĕ c k=ù c k:=en;show YV (HO.tup [_,.str (ù c k),_])=YV (.tup [_,.str (Ĕ c k),_]);rw[en]
  |Ç k r z _ _=>rw[h1];have en:Ĕ c k=ù c k:=en;show YV (HO.tup [_,.str (ù c k),_,_])=YV (.tup [_,.str (Ĕ c k),_,_]);rw[en]
  |own k z _ _=>rw[h1];have en:Ĕ c k=ù c k:=en;show YV (HO.tup [_,.str (ù c k),_])=YV (.tup [_,.str (Ĕ c k),_]);rw[en]
  |lt k r _=>rw[h1];have en:Ĕ c k=ù c k:=en;show YV (HO.tup [_,.str (ù c k),_])=YV (.tup [_,.str (Ĕ c k),_]);rw[en]
 cases h4<;>exact λo ho=>by cases ho
theorem zN{α β:Type}{F G:α->β->Prop}{xs:List α}{ys:List β}(p:Paired F xs ys)(h:∀x y,y∈ys->F x y->G x y):Paired G xs ys:=by
 induction p with
 |nil=>exact .nil
 |cons a _ ih=>exact .cons (h _ _ OX a) (ih λx y m=>h x y (O2 _ m))
theorem F1{α:Type}{l:List α}{i:Nat}{g:α}(d:l.Nodup)(h:l[i]?=YV g):g∉l.take i:=λm=>by
 have:(l.take (i+1)).Nodup:=Tz (QH _ _) d;rw[rN h,P4]at this;exact this.2.2 g m g (by simp) rfl
theorem Ġ.gnd{ls:List Lr}(h:Ġ ls):(ls.filter à).Nodup:=by
 have:ls.Nodup:=(QK.mp h.ix).imp λn e=>n (by rw[e]);exact Tz Q9 this
theorem Ġ.AI{ls:List Lr}(h:Ġ ls){i:Nat}{g g':Lr}(e:(ls.filter à)[i]?=YV g)(m:g'∈(ls.filter à).take i):g'.ix≠g.ix:=λz=>by
 have a:=(Pu.mp (OY e)).1;have b:=(Pu.mp (Pz m)).1;have:=vZ h.ix b a z;rw[this]at m;exact F1 h.gnd e m
theorem Lc{rk:Nat->Int}{z:Int}(t:Nat):((ě t (gz rk z)).filter à).length=4:=by
 rw[oE];rfl
def ϛ(r:Int)(c1 c2:Nat->Cl)(g:Lr):Prop:=g.rk<=r/\c2 g.ix≠c1 g.ix
theorem Due.NK{gv:List Lr}{b0 b1 b1' un un':Lr->Prop}{Î:List V}(h1:∀g∈gv,b1 g↔b1' g)(h:∀g∈gv,un g↔un' g)(d:Due N gv b0 b1 un Î):Due N gv b0 b1' un' Î:=by
 cases d with
 |zero i g e b a q=>exact .zero i g e b a q
 |one z i g e b a q=>exact .one z i g e ((h1 g (OY e)).mp b) (λg' m k=>a g' m ((h1 g' (Pz m)).mpr k)) q
 |two z y i g e b a q=>exact .two z (λg m k=>y g m ((h1 g m).mpr k)) i g e ((h g (OY e)).mp b) (λg' m k=>a g' m ((h g' (Pz m)).mpr k)) q
 |Ä z y x q=>exact .Ä z (λg m k=>y g m ((h1 g m).mpr k)) (λg m k=>x g m ((h g m).mpr k)) q
theorem j5{α:Type}{l:List α}{m n:Nat}{x:α}(h:m<=n)(k:x∈l.take m):x∈l.take n:=by
 have e:l.take m=(l.take n).take m:=by rw[List.take_take,Nat.min_eq_left h]
 rw[e]at k;exact Pz k
theorem Dn(f:Nat->Cl)(x:Nat)(c:Cl):iX (λy=>YV (f y)) x (YV c)=λy=>YV (nM f x c y):=funext λj=>by
 unfold iX nM;split<;>rfl
theorem NB(c:Int)(i:Nat):Sg (Ĕ c i)=true:=by
 unfold Ĕ;split
 ·decide+kernel
 exact Me c i
theorem BG{x y:Str}(hx:Sg x=true)(hy:Sg y=true):Sa (.tuple [.str x,.str y])=true/\SY (.tuple [.str x,.str y]) (.tuple [.str x,.str y])=true:={by simp[Sa,Wb,Vd,Xp,VP,hx,hy],by simp[SY,TC]}
theorem f9:Sa (.tuple [.str "told",.bool true])=true/\SY (.tuple [.str "told",.bool true]) (.tuple [.str "told",.bool true])=true:={by decide+kernel,by simp[SY,TC]}
theorem Due.dat{gv:List Lr}{b0 b1 un:Lr->Prop}{Î:List V}(hN:∀i,Sg (N i)=true)(d:Due N gv b0 b1 un Î):∃ds,Sa (.tuple ds)=true/\SY (.tuple ds) (.tuple ds)=true/\∀(K:RG)(H:Hp),kP K H Î ds:=by
 have two:∀{x y:Str},Sg x=true->Sg y=true->Î=[.str x,.str y]->∃ds,Sa (.tuple ds)=true/\SY (.tuple ds) (.tuple ds)=true/\∀(K:RG)(H:Hp),kP K H Î ds:=λ{x y} hx hy e=>{[.str x,.str y],(BG hx hy).1,(BG hx hy).2,λK H=>by rw[e];exact .cons (.str _) (.cons (.str _) .nil)};cases d with
 |zero i g e b a q=>exact two (by decide+kernel) (hN _) q
 |one z i g e b a q=>exact two (by decide+kernel) (hN _) q
 |two z y i g e b a q=>exact two (by decide+kernel) (hN _) q
 |Ä z y x q=>exact{[.str "told",.bool true],f9.1,f9.2,λK H=>by rw[q];exact .cons (.str _) (.cons (.bl _) .nil)}
theorem My(f:Nat->Option Cl)(x:Nat)(a b:Option Cl):iX (iX f x a) x b=iX f x b:=funext λj=>by
 unfold iX;split<;>rfl
theorem eh.NM(D:dO N){H:Hp}{d:RB}{ls:List Lr}{st:Nat->Option Cl}{idx:List Nat}{f:Nat->V}{x:Nat}{r y:Int}{v:V}{s:Option Cl}(h:Ġ ls)(m:Lr.Ç x r y∈ls)(e:H d=YV (.dK (dk N idx f)))(h1:∀j∈idx,j<24)(h2:idx.Nodup)(h3:∀x r y,Lr.Ç x r y∈ls->Ń H (look idx f x) y.toNat (st x))(hv:Ń H v y.toNat s):eh N (upd H d (.dK (Y2 (dk N idx f) (.inr (N x)) v))) d ls (iX st x s):=by
 obtain⟨i,f',a,b,c,_,k⟩:=eh.put D h m e h1 h2 h3 hv;exact⟨i,f',a,b,c,k⟩
def xu(K:RG):Sp:=λvs H Q _=>∃(a:RB)(ns:List Int),vs=[.ref a]/\À K H a (ns.map V.int)/\ns.length<=63/\∀H',Q (.bl true) H'
theorem Nw(T:Txt K mg A)(F:aM K mg "law" uh ["_law_script"]):ϴ P w K mg base 16 "law" ["_law_script"] (xu K):=by
 have oA:=@Fl P w _ _ base _ T;have E9:=@Cb P w _ _ base _ T;have M8:=@ID P w _ _ base _ T;refine F.hs (k:=15) dg (λf Â A' outer s H vs Q E' hr hu h=>?_) (λvs H Q E h=>by obtain⟨a,ns,rfl,_⟩:=h;rfl);obtain⟨a,ns,rfl,hA,_,q⟩:=h;refine⟨_,(af (É 1 dg.nd (HI (Fx aK (dW) (IK)) rfl rfl (by intro z;cases z) ∅))
 (af (aT (au (Hy T) hr (fv 0^fv 1^ae)))
 (af (É 2 dg.nd (px hu (fv 1) aK))
 (af (É 3 dg.nd (au (Kg T) hr (fv 0^fv 2^ae)))
 (af (É 4 dg.nd (aE bM (au oA hr (fv 0^ag^ae)) ag))
 (af (É 5 dg.nd (Ď kY T.eO (au (G6 T) hr (fv 2^au oA hr (fv 0^ag^ae)^au oA hr (fv 0^ag^ae)^fv 4^ae)^ae)))
 (af (É 6 dg.nd (aQ (aK^og^ae)))
 (af (iT (j:=7) (N:=["_law_row"]) (own:=1) (fr:=[]) (bI.of (by kernel_rfl!)) rfl dg.nd rfl (OZ rfl) (aW (fv 2)) (λb=>Ò (i:=0) (show R9 (["_law_row"]:List Sl) by decide+kernel) rfl) (λb=>oK (Ö (bY hu) (px hu (fv 0) ag) aK)) (λb=>fv 0))
 (af (É 8 dg.nd (aP (Ď B3 T.iW (px hu (fv 5) ag^ae)^Ď B3 T.iW (px hu (fv 5) ag^ae)^ae)))
 (af (É 9 dg.nd (aE bM (au oA hr (fv 0^ag^ae)) ag))
 (af (bc RO rfl (ee rfl T.fj (ag^ae)) (Ò (i:=10) dg.nd rfl)
  (aj (aN (Ö (bY hu) (au E9 hr (fv 9^fv 10^ag^ae)) ag)
   (af (É 11 dg.nd (px hu (fv 7) (aE uT ag (fv 10))))
   (af (cE (au (HR T) hr (fv 11^px hu (px hu (fv 5) ag) (px hu (fv 11) ag)^au E9 hr (fv 9^ag^ag^ae)^ae)) (cF (px hu (fv 8) ag) (px hu (fv 11) ag) (cU hu YZ)))
   (aj (aN (Ö DE (px hu (fv 11) ag) (fv 4))
    (aj (É 6 dg.nd (aQ (aK^px hu (fv 11) ag^ae))))
    aH))))
   aH)))
 (af (bc RO rfl (aW (aQ (ag^ag^ae))) (Ò (i:=12) dg.nd rfl)
  (aj (bc RO rfl (ee rfl T.fj (ag^ae)) (Ò (i:=10) dg.nd rfl)
   (aj (aN (PW.pt (pw_and (Ö (I0 hu) (au E9 hr (fv 9^ag^ag^ae)) (aQ (fv 12^ag^ae)) ((by with_unfolding_all rfl))) (pw_and1 (Ö (bY hu) (au E9 hr (fv 9^aE bM (aE aX (fv 10) (fv 12)) ag^ag^ae)) ag))))
    (af (É 11 dg.nd (px hu (fv 7) (aE uT ag (fv 10))))
    (af (É 6 dg.nd (aQ (aK^px hu (fv 11) ag^ae)))
    (af (cE (au (C1 T) hr (fv 11^px hu (px hu (fv 5) (fv 12)) (px hu (fv 11) ag)^au E9 hr (fv 9^ag^ag^ae)^ae)) (cF (px hu (fv 8) (fv 12)) (px hu (fv 11) ag) (cU hu YZ)))
    (aj (aN (Ö (bY hu) (au E9 hr (fv 9^ag^ag^ae)) ag)
     (aj (aT (Eo (px hu (fv 8) (fv 12)) (px hu (fv 11) ag) ⟨rfl,rfl,rfl,rfl⟩)))
     aH)))))
    aH)))))
 (af (aN (Ö (E2 hu) (au M8 hr (fv 3^fv 4^px hu (fv 5) ag^px hu (fv 5) ag^ae)) (aQ (aK^og^ae)))
  (aj (aD og))
  aH)
 (af (É 8 dg.nd (dD (N:=["_law_k","_law_odd","_law_cell"]) (own:=1) (fr:=[8,9]) (bI.of (by kernel_rfl!)) rfl (ee rfl T.fj (ag^ae)) (λb=>Ò (i:=0) (show R9 (["_law_k","_law_odd","_law_cell"]:List Sl) by decide+kernel) rfl) (λb=>iR) (λb=>au (DX T) hr (px hu (fv 1) (fv 0)^aE bM (aE de (fv 2) (aE aX (fv 0) ag)) ag^fv 0^ae))))
 (af (aN (Ö (E2 hu) (au M8 hr (fv 3^fv 4^px hu (fv 8) ag^px hu (fv 8) ag^ae)) (fv 6))
  (aj (aD og))
  aH)
 (aj (aD (pec (bY hu) (au M8 hr (fv 3^fv 4^px hu (fv 5) ag^px hu (fv 5) ag^ae)) (aQ (aK^og^ae)))))))))))))))))))),?_⟩
 refine ah λM1 K1 S hS LV hLV=>?_;have nLS:LV≠S:=YX hLV ao;refine{aF nLS.symm ao,[(.inr "view",.ref LV)],rfl,by show 1<=15;decide,K1 _ _ ?_};have s01:ak H (upd (upd (upd H S (.dK [])) LV (.dK [])) S (.dK (bf [] [(.inr "view",.ref LV)]))):=ak.out ((ak.upd hS _).trans (ak.upd hLV _)) hS _;have eS1:(upd (upd (upd H S (.dK [])) LV (.dK [])) S (.dK (bf [] [(.inr "view",.ref LV)]))) S=YV (.dK (st0 LV)):=ao;have eV1:(upd (upd (upd H S (.dK [])) LV (.dK [])) S (.dK (bf [] [(.inr "view",.ref LV)]))) LV=YV (.dK []):=aF nLS ao;have V0:H LV=YW:=by
  cases e:H LV with
  |none=>rfl
  |some o=>rw[ak.upd hS _ _ _ e]at hLV;cases hLV
 generalize upd (upd (upd H S (.dK [])) LV (.dK [])) S _=H1 at s01 eS1 eV1⊢;clear K1 M1 hLV;rfl'
 refine ah λM1 K1=>{a,S,LV,ns,rfl,s01.seq hA,eS1,eV1,λln LR lm rk z t rows H2 hrk z1 z4 g2 _ _ _ _ _ eS eV eR _ _ pr=>K1 _ _ ?_};have t2:ak H H2:=g2.keep s01 (λx m=>by
  rcases O4.mp m with m|m
  ·rw[m];exact hS
  rw[OT.mp m];exact V0)
 obtain⟨zn,rfl⟩:∃k:Nat,z=(k:Int):={z.toNat,()};have ç:=GP hrk (show zn<=4 by lia) t;have l4:((ě t (gz rk zn)).filter à).length=4:=Lc t;have pr:Paired (fJ (ù (cellAt ns 1)) H2) rows (ě t (gz rk zn)):=Paired.gR pr λ_ _=>fJ.same iz;have pr:Paired (fJ (Ĕ (cellAt ns 1)) H2) rows (ě t (gz rk zn)):=zN pr λv l m k=>JM k (ç.Τ l m) (ç.h4 l m);have D:=Ie (cellAt ns 1);have nl:=Jx (cellAt ns 1);have nk:=NB (cellAt ns 1);have Γ:Ĕ (cellAt ns 1) 24="nobodyhas":=rfl;generalize Ĕ (cellAt ns 1)=N at pr D nl nk Γ;clear K1 M1 g2 s01 eS1 eV1;rfl'
 refine ah λM1 K1=>Ŀ eS rfl (K1 _ _ ?_);clear K1 M1;rfl'
 refine ah λM1 K1=>{a,LR,ns,rows,N,rk,zn,t,rfl,t2.seq hA,eR,pr,(),(),λpv H3 rs s3 pg sd=>?_};obtain⟨ls,Ν⟩:∃ls,ls=ě t (gz rk zn):={_,rfl};rw[<-Ν]at ç l4 pr pg sd;clear Ν;have ot:=Od D nl ç sd;have ho:=ç.ok 1;have so:=sd.ok ç 1 15;generalize bp 15 rs=ms at pg ot so;clear sd;refine K1 _ _ ?_;clear K1 M1;rfl'
 refine ah λM1 K1=>?_;have t3:=t2.trans s3;refine{a,ns,4,rfl,t3.seq hA,∅,by show(0:Int)<3;decide,K1 _ _ ?_};clear K1 M1;rfl'
 generalize cellAt ns 4%3=r;have eR:=s3 _ _ eR;have pr:Paired (fJ N H3) rows ls:=Paired.gR pr λ_ _=>fJ.same s3;clear s3 eS eV;refine ah λM1 K1=>{a,ns,5,rfl,t3.seq hA,∅,a,ns,6,rfl,t3.seq hA,∅,N,LR,rows,ls,_,_,r,rfl,D,eR,pr,ç.len,ç.h4,ç.gv,λg1 g2 tg H4 ø ī s4 et G1 G2 eq=>OZ {tg,_,rfl,Py (Æ.of et),λgl hgl=>?_}};obtain⟨s5,Ϯ⟩:=Ð hgl (HO.lst [V.ref g1,.ref g2]);generalize upd H4 gl _=H5 at s5 Ϯ⊢;have G1:=G1.same s5;have G2:=G2.same s5;have s35:=s4.trans s5;clear s4 s5 et hgl;refine K1 _ _ ?_;clear K1 M1;rfl'
 refine ah λM1 K1=>{by show 2<=sizeLine;decide,λu hu=>?_};obtain⟨s6,eu⟩:=Ð hu (HO.tup [V.str "told",.bl true]);generalize upd H5 u _=H6 at s6 eu⊢;have G1:=G1.same s6;have G2:=G2.same s6;have Ϯ:=s6 _ _ Ϯ;have s36:=s35.trans s6;have eR:=s36 _ _ eR;have pr:Paired (fJ N H6) rows ls:=Paired.gR pr λ_ _=>fJ.same s36;clear s35 s6 hu;refine K1 _ _ ?_;clear K1 M1;rfl'
 refine ah λM1 K1=>?_;have lr:rows.length=13:=by rw[RN pr,ç.len]
 refine OZ {{_,À.of eR},cI (K:=K) (own:=1) ls à (λe y _=>fJ N H6 y e) (À.of eR) (by rw[lr,ç.len]) (aG ()) ?_ (λ_ _ _ _ _ h=>h) (λ_ _ _ _ _ _ _ h=>h) ?_}
 ·intro b i x e v0 H3 Nn Y hx he hv s3 no yes;obtain⟨u0,rfl⟩:∃u0,v0=[u0]:=by
   match v0,hv with
   | [u],_=>exact⟨u,rfl⟩
  obtain⟨l,hl,la⟩:=bR pr hx;rw[he]at hl;cases hl;obtain⟨b',p,rfl,et,eo⟩:=la;have t3:Æ K H3 b' _:=Æ.of (s3 _ _ et);refine Ø (j:=0) t3 rfl {rfl,_,rfl,?_};by_cases c:e.w="given"
  ·exact(if_pos (decide_eq_true (by rw[c]))).mpr (yes (decide_eq_true c) [YV (.ref b')] _ _ rfl (ak.refl _) ⟨b',p,rfl,et,eo⟩)
  exact(if_neg (λy=>c (V.str.inj (of_decide_eq_true y)))).mpr (no (decide_eq_false c) [YV (.ref b')] _ rfl (ak.refl _))
 intro gvA H7 gys _ s7 egv pgv;refine K1 _ _ ?_;clear K1 M1;have s37:=s36.trans s7;have pgv:Paired (λ(e:Lr) y=>fJ N H7 y e) (ls.filter à) gys:=Paired.gR pgv λ_ _=>fJ.same s7;have G1:=G1.same s7;have G2:=G2.same s7;have Ϯ:=s7 _ _ Ϯ;have eu:=s7 _ _ eu;have lg:gys.length=4:=by rw[<-RN pgv,l4]
 clear pr eR s36 s7;rfl'
 refine ah λM1 K1=>?_;obtain⟨f1,eg1,k1⟩:=G1;obtain⟨f2,eg2,k2⟩:=G2;refine Ì (À.of Ϯ) rfl {g1,_,rfl,Rd.of eg1,λd0 hd0=>?_};obtain⟨s8,ed0⟩:=Ð hd0 (HO.dK (dk N (Ü ls) f1));generalize upd H7 d0 _=H8 at s8 ed0⊢;refine Ì (À.of (s8 _ _ Ϯ)) rfl {g2,_,rfl,Rd.of (s8 _ _ eg2),λd1 hd1=>?_};have n01:d1≠d0:=YX hd1 ed0;obtain⟨s9,ed1⟩:=Ð hd1 (HO.dK (dk N (Ü ls) f2));have d10:H7 d1=YW:=ak.free s8 hd1;generalize upd H8 d1 _=H9 at s9 ed1⊢;refine{by show 2<=sizeLine;decide,λod hod=>K1 _ _ ?_};obtain⟨ģ,eod⟩:=Ð hod (HO.lst [V.ref d0,.ref d1]);have o0:od≠d0:=YX hod (s9 _ _ ed0);have o1:od≠d1:=YX hod ed1;generalize upd H9 od _=ę at ģ eod⊢;clear K1 M1;have ed0:=(s9.trans ģ) _ _ ed0;have ed1:=ģ _ _ ed1;have Ţ:=(s8.trans s9).trans ģ;clear s8 s9 ģ hod hd1;have O0:eh N ę d0 ls λx=>YV (ø x):=gN.od ç ed0 λx r y m=>{(k1 x r y m).1.same Ţ,(k1 x r y m).2};have O1:eh N ę d1 ls λx=>YV (ī x):=gN.od ç ed1 λx r y m=>{(k2 x r y m).1.same Ţ,(k2 x r y m).2};have Ĵ:ak H7 (del [d0,d1] ę):=λx o e=>bT (λm=>by
  rcases O4.mp m with m|m
  ·rw[m,hd0]at e;cases e
  rw[OT.mp m,d10]at e;cases e) (Ţ _ _ e)
 have b0:del [d0,d1] ę d0=YW:=if_pos OX;have b1:del [d0,d1] ę d1=YW:=if_pos (O2 _ OX);have Œ:del [d0,d1] ę od=YV (.lst [V.ref d0,.ref d1]):=bT (λm=>by
  rcases O4.mp m with m|m
  ·exact o0 m
  exact o1 (OT.mp m)) eod
 have du:ak (del [d0,d1] ę) ę:=iz;have Ϝ:ak H (del [d0,d1] ę):=(t3.trans s37).trans Ĵ;rfl'
 refine ah λM1 K1=>{a,ns,7,rfl,(Ϝ.trans du).seq hA,∅,by show(0:Int)<1000003;decide,K1 _ _ ?_};clear K1 M1;rfl'
 generalize cellAt ns 7%1000003=c;generalize del [d0,d1] ę=Ô at Ĵ b0 b1 Œ du Ϝ;have t3B:=s37.trans Ĵ;have œ:=Ĵ _ _ Ϯ;have egvB:=Ĵ _ _ egv;have ϯ:=Ĵ _ _ eg1;have eg2B:=Ĵ _ _ eg2;have pgB:Paired (λ(e:Lr) y=>fJ N Ô y e) (ls.filter à) gys:=Paired.gR pgv λ_ _=>fJ.same Ĵ;have k1B:∀x r y,Lr.Ç x r y∈ls->df Ô (f1 x) (ø x)/\(ø x).fits y.toNat:=λx r y m=>{(k1 x r y m).1.same Ĵ,(k1 x r y m).2};have k2B:∀x r y,Lr.Ç x r y∈ls->df Ô (f2 x) (ī x)/\(ī x).fits y.toNat:=λx r y m=>{(k2 x r y m).1.same Ĵ,(k2 x r y m).2};have eu10:=Ţ _ _ eu;clear Ĵ Ϯ egv eg1 eg2 pgv k1 k2 eu ed0 ed1 eod Ţ s37 hd0 d10 o0 o1;refine ah λM1 K1=>?_;have gb:∀j∈Ü ls,j<25:=λj mj=>by
  obtain⟨r,z,m⟩:=vX mj;have:j<13:=ç.Τ _ m;lia
 have nu:∀g∈ls.filter à,¬ ϛ r ø ī g:=λg m k=>by
  obtain⟨mg,wg⟩:=Pu.mp m;obtain⟨x,rr,z',rfl⟩:=zg (of_decide_eq_true wg);exact k.2 (eq x rr z' mg k.1).symm
 have row:∀i:Nat,i<4->∃(x:Nat)(rr:Int)(zz:Nat)(tg:RB),(ls.filter à)[3-i]?=YV (.Ç x rr zz)/\Lr.Ç x rr zz∈ls/\zz<=4/\x<13/\Ô tg=YV (.tup [.str "given",.str (N x),.int rr,.int (zz:Int)])/\ô gys (3-(i:Int))=YV (.ref tg):=λi hi=>by
  obtain⟨y,hy⟩:∃y,gys[3-i]?=YV y:={_,OV ()};obtain⟨g,hg,lat⟩:=bR (js pgB) hy;obtain⟨mg,wg⟩:=Pu.mp (OY hg);obtain⟨x,rr,z',rfl⟩:=zg (of_decide_eq_true wg);obtain⟨zz,hz,rfl⟩:∃k:Nat,k<=4/\z'=(k:Int):=by
   cases ç.h4 _ mg with
   |Ç _ _ z _ hz=>exact⟨z,hz,rfl⟩
  obtain⟨tg,p,rfl,et,_⟩:=lat;exact{x,rr,zz,tg,hg,mg,hz,ç.Τ _ mg,et,by rw[show(3:Int)-(i:Int)=((3-i:Nat):Int) by lia];exact dY hy}
 refine{4,rfl,∅,∅,j8 (lo:=0) (n:=4) (λi B Hc=>∃(u:RB)(Î:List V)(û:Nat->Cl)(v10 v11:Option V),B=[YV (.ref a),YV (.ref S),YV (.ref LR),YV pv,YV (.int r),YV (.ref gl),YV (.ref u),YV (.ref gvA),YV (.ref od),YV (.int c),v10,v11,YW]/\ak Ô Hc/\Hc u=YV (.tup Î)/\eh N Hc d0 ls (λx=>YV (ø x))/\eh N Hc d1 ls (λx=>YV (û x))/\Due N (ls.filter à) (λg=>YV (ø g.ix)=YW) (λg=>YV (û g.ix)=YW) (ϛ r ø û) Î/\∀g∈(ls.filter à).take (4-i),¬ ϛ r ø û g) {u,_,ī,YW,YW,rfl,du,eu10,O0,O1,.Ä (λg m k=>by cases k) (λg m k=>by cases k) nu rfl,λg m=>nu g (Pz m)} ?_ ?_}
 ·rintro i B Hc hi ⟨u,Î,û,v10,v11,rfl,sc,eu,P0,P1,Ŝ,un1⟩;have hi4:i<4:=hi;rfl'
  rw[show(0:Int)+(i:Int)=(i:Int) by lia];refine{c,i,3,rfl,(),∅,λm Ha m0 m1 sa=>{rfl,_,rfl,bh (λ_=>?_) (λ_=>{u,Î,û,_,_,rfl,sc.trans sa,sa _ _ eu,P0.same sa,P1.same sa,Ŝ,λg m=>un1 g (j5 () m)})}};obtain⟨x,rr,zz,tg,hg,mg,hz,϶,et,at3⟩:=row i hi4;have s1:=sc.trans sa;refine ah λM2 K2=>Ì (À.of (s1 _ _ egvB)) at3 (K2 _ _ ?_);clear K2 M2;rfl'
  refine ah λM2 K2=>Ì (À.of (s1 _ _ œ)) rfl (Ø (j:=1) (Æ.of (s1 _ _ et)) rfl (Ŀ (s1 _ _ ϯ) (jA D gb (jc mg)) {c,5,1000,rfl,∅,∅,λm' Hb m0' m1' sb=>?_}));have s2:=s1.trans sb;have kk:=k1B x rr zz mg;rw[PL]at kk;refine{N,tg,x,zz,rr,_,ø x,m',rfl,s2 _ _ et,hz,kk.1.same s2,kk.2,λv' Hd ė sd hv' fv' ne=>?_};have s3:=s2.trans sd;have sad:=(sa.trans sb).trans sd;obtain⟨ix,ff,ed,x1,x2,x3⟩:=P1.same sad;have x24:=qj 24 ix x2 x1;refine Ì (À.of (s3 _ _ Œ)) rfl (Ø (j:=1) (Æ.of (s3 _ _ et)) rfl {_,gQ.k (k:=.inr (N x)) ed (aG (by rw[kJ];lia)),?_});have P1':=eh.NM D ç mg ed x1 x2 x3 (v:=v') (s:=YV ė) {hv',by rw[PL];exact fv'};have P0':=(P0.same sad).but (o:=.dK (Y2 (dk N ix ff) (.inr (N x)) v')) n01.symm ed;have s4:ak Ô (upd Hd d1 (.dK (Y2 (dk N ix ff) (.inr (N x)) v'))):=ak.out s3 b1 _;have eu':(upd Hd d1 (.dK (Y2 (dk N ix ff) (.inr (N x)) v'))) u=YV (.tup Î):=aF (λz=>by rw[z]at eu;rw[sad _ _ eu]at ed;cases ed) (sad _ _ eu);generalize upd Hd d1 (.dK (Y2 (dk N ix ff) (.inr (N x)) v'))=He at P1' P0' s4 eu'⊢;rw[Dn]at P1';refine K2 _ _ ?_;clear K2 M2;rfl'
  have nn:∀g'∈(ls.filter à).take (3-i),nM û x ė g'.ix=û g'.ix:=λg' m=>if_neg (ç.AI hg m);have xx:nM û x ė x=ė:=if_pos rfl;have un2:∀g'∈(ls.filter à).take (4-(i+1)),¬ ϛ r ø (nM û x ė) g':=λg' m k=>by
   rw[show 4-(i+1)=3-i by lia]at m;exact un1 g' (j5 () m) {k.1,by rw[<-nn g' m];exact k.2}
  refine Ø (j:=2) (Æ.of (s4 _ _ et)) rfl {_,rfl,bh (λy=>?_) (λy=>?_)}
  ·have le:rr<=r:=of_decide_eq_true y;refine Ø (j:=1) (Æ.of (s4 _ _ et)) rfl {by show 2<=sizeLine;decide,λu2 hu2=>?_};obtain⟨s5,eu2⟩:=Ð hu2 (HO.tup [V.str "unlike",.str (N x)]);exact{u2,_,nM û x ė,_,_,rfl,s4.trans s5,eu2,P0'.same s5,P1'.same s5,.two (λg m k=>by cases k) (λg m k=>by cases k) (3-i) _ hg {le,by show nM û x ė x≠ø x;rw[xx];exact ne} (λg' m=>un2 g' (by rw[show 4-(i+1)=3-i by lia];exact m)) rfl,un2}
  have nle:¬ rr<=r:=λh=>y (decide_eq_true h);refine{u,Î,nM û x ė,_,_,rfl,s4,eu',P0',P1',Ŝ.NK (λg m=>{λk=>(by cases k),λk=>(by cases k)}) (λg m=>?_),un2};by_cases c:g.ix=x
  ·have:=vZ ç.ix (Pu.mp m).1 mg c;rw[this];exact{λk=>absurd k.1 nle,λk=>absurd k.1 nle}
  have:nM û x ė g.ix=û g.ix:=if_neg c;unfold ϛ;rw[this]
 rintro B Hc ⟨u,Î,û,v10,v11,rfl,sc,eu,P0,P1,Ŝ,_⟩;refine K1 _ _ ?_;clear K1 M1;rfl'
 refine ah λM1 K1=>{by show 2<=sizeLine;decide,λtp é=>?_};obtain⟨sT,eT⟩:=Ð é (HO.tup [V.int 1,.int 0]);have p0:tp≠d0:=by
  obtain⟨_,_,e,_⟩:=P0;exact YX é e
 have p1:tp≠d1:=by
  obtain⟨_,_,e,_⟩:=P1;exact YX é e
 have P0:=P0.same sT;have P1:=P1.same sT;have eu:=sT _ _ eu;have sBT:=sc.trans sT;generalize upd Hc tp _=HT at eT P0 P1 eu sBT⊢;obtain⟨B2,eB2⟩:∃B2,B2=del [d0,d1] HT:={_,rfl};have sB:ak Ô B2:=λx o e=>by
  rw[eB2];refine bT (λm=>?_) (sBT _ _ e);rcases O4.mp m with m|m
  ·rw[m,b0]at e;cases e
  rw[OT.mp m,b1]at e;cases e
 have du2:ak B2 HT:=by rw[eB2];exact iz
 have c0:B2 d0=YW:=by rw[eB2];exact if_pos OX
 have c1:B2 d1=YW:=by rw[eB2];exact if_pos (O2 _ OX)
 have eT2:B2 tp=YV (.tup [V.int 1,.int 0]):=by
  rw[eB2];refine bT (λm=>?_) eT;rcases O4.mp m with m|m
  ·exact p0 m
  exact p1 (OT.mp m)
 clear eB2 sBT sT sc b0 b1 p0 p1 é;refine Py {{_,Æ.of eT},BE (K:=K) (xs:=[V.int 1,.int 0]) (λj B Hc=>∃(u:RB)(Î:List V)(st0 st1:Nat->Option Cl)(v10 v11 Š:Option V),B=[YV (.ref a),YV (.ref S),YV (.ref LR),YV pv,YV (.int r),YV (.ref gl),YV (.ref u),YV (.ref gvA),YV (.ref od),YV (.int c),v10,v11,Š]/\ak B2 Hc/\Hc u=YV (.tup Î)/\eh N Hc d0 ls st0/\eh N Hc d1 ls st1/\(∀x,st0 x≠YW->st0 x=YV (ø x))/\(∀x,st1 x≠YW->st1 x=YV (û x))/\Due N (ls.filter à) (λg=>st0 g.ix=YW) (λg=>st1 g.ix=YW) (ϛ r ø û) Î/\(j<=1->∀g∈ls.filter à,st0 g.ix≠YW)/\(j=0->∀g∈ls.filter à,st1 g.ix≠YW)) {u,Î,_,_,_,_,_,rfl,du2,eu,P0,P1,λx _=>rfl,λx _=>rfl,Ŝ,λ_ g m k=>(by cases k),λ_ g m k=>(by cases k)} (λi B Hc _ ⟨_,_,_,_,_,_,_,_,sc,_⟩=>Æ.of (sc _ _ eT2)) ?_ ?_}
 ·rintro j y B Hc hy ⟨u,Î,st0,st1,v10,v11,Š,rfl,sc,eu,P0,P1,q0,q1,Ŝ,z0,z1⟩;obtain⟨Pn,ePn⟩:∃Pn:St->Hp->Prop,Pn=λB Hc=>∃(u:RB)(Î:List V)(st0 st1:Nat->Option Cl)(v10 v11 Š:Option V),B=[YV (.ref a),YV (.ref S),YV (.ref LR),YV pv,YV (.int r),YV (.ref gl),YV (.ref u),YV (.ref gvA),YV (.ref od),YV (.int c),v10,v11,Š]/\ak B2 Hc/\Hc u=YV (.tup Î)/\eh N Hc d0 ls st0/\eh N Hc d1 ls st1/\(∀x,st0 x≠YW->st0 x=YV (ø x))/\(∀x,st1 x≠YW->st1 x=YV (û x))/\Due N (ls.filter à) (λg=>st0 g.ix=YW) (λg=>st1 g.ix=YW) (ϛ r ø û) Î/\(j+1<=1->∀g∈ls.filter à,st0 g.ix≠YW)/\(j+1=0->∀g∈ls.filter à,st1 g.ix≠YW):={_,rfl};have bado:∀{st:Nat->Option Cl}{cl:Nat->Cl}{x:Nat},(∀x,st x≠YW->st x=YV (cl x))->∀y,iX st x YW y≠YW->iX st x YW y=YV (cl y):=λ{st cl x} h y n=>by
   unfold iX at n⊢;by_cases c:y=x
   ·rw[if_pos c]at n;exact absurd rfl n
   rw[if_neg c]at n⊢;exact h y n
  have ż:∀{st:Nat->Option Cl}{k:Nat}{g:Lr},(ls.filter à)[k]?=YV g->(∀g'∈(ls.filter à).take k,st g'.ix≠YW)->iX st g.ix YW g.ix=YW/\∀g'∈(ls.filter à).take k,¬ iX st g.ix YW g'.ix=YW:=λ{st k g} e h=>⟨if_pos rfl,λg' m z=>by
   unfold iX at z;rw[if_neg (ç.AI e m)]at z;exact h g' m z⟩
  obtain⟨sd,dm,gm,fm,clg,st,Iv,rfl,adm,agm,egm,kgm,cm,Om,iv,ħ,sd0,sd1,iS,iC,iB,iE⟩:∃(sd:Int)(dm gm:RB)(fm:Nat->V)(clg:Nat->Cl)(st:Nat->Option Cl)(Iv:(Nat->Option Cl)->List V->Hp->Prop),y=.int sd/\ô [V.ref d0,.ref d1] sd=YV (.ref dm)/\ô [V.ref g1,.ref g2] sd=YV (.ref gm)/\Ô gm=YV (.dK (dk N (Ü ls) fm))/\(∀x r y,Lr.Ç x r y∈ls->df Ô (fm x) (clg x)/\(clg x).fits y.toNat)/\B2 dm=YW/\eh N Hc dm ls st/\Iv st Î Hc/\(∀g∈ls.filter à,st g.ix≠YW)/\0<=sd/\sd<=1/\
    (∀st Î Hc Hd,Iv st Î Hc->ak Hc Hd->Iv st Î Hd)/\(∀st Î Hc kvs o,Iv st Î Hc->Hc dm=YV (.dK kvs)->Iv st Î (upd Hc dm o))/\
    (∀st Î Hc k g,Iv st Î Hc->(ls.filter à)[k]?=YV g->(∀g'∈(ls.filter à).take k,st g'.ix≠YW)->Iv (iX st g.ix YW) [.str "bad",.str (N g.ix)] Hc)/\
    (∀st Î Hc u v10 v11 Š,Iv st Î Hc->ak B2 Hc->Hc u=YV (.tup Î)->eh N Hc dm ls st->Pn [YV (.ref a),YV (.ref S),YV (.ref LR),YV pv,YV (.int r),YV (.ref gl),YV (.ref u),YV (.ref gvA),YV (.ref od),YV (.int c),v10,v11,Š] Hc):=by
   have j2:j=0\/j=1:=by
    have:=(O8.mp hy).1;simp at this;lia
   rcases j2 with rfl|rfl
   ·cases hy;have z0:=z0 ∅;refine{1,d1,g2,f2,ī,st1,λst Î H=>eh N H d0 ls st0/\(∀x,st x≠YW->st x=YV (û x))/\Due N (ls.filter à) (λg=>st0 g.ix=YW) (λg=>st g.ix=YW) (ϛ r ø û) Î,rfl,rfl,rfl,eg2B,k2B,c1,P1,⟨P0,q1,Ŝ⟩,z1 rfl,∅,∅,λst Î Hc Hd h s=>⟨h.1.same s,h.2⟩,λst Î Hc kvs o h e=>⟨h.1.but n01.symm e,h.2⟩,λst Î Hc k g h e t=>{h.1,bado h.2.1,.one z0 k g e (ż e t).1 (ż e t).2 rfl},λst Î Hc u v10 v11 Š h s e O=>?_};rw[ePn];exact{u,Î,st0,st,v10,v11,Š,rfl,s,e,h.1,O,q0,h.2.1,h.2.2,λ_=>z0,λz=>(by cases z)}
   cases hy
   have z0:=z0 (OW _)
   refine{0,d0,g1,f1,ø,st0,λst Î H=>eh N H d1 ls st1/\(∀x,st x≠YW->st x=YV (ø x))/\Due N (ls.filter à) (λg=>st g.ix=YW) (λg=>st1 g.ix=YW) (ϛ r ø û) Î,rfl,rfl,rfl,ϯ,k1B,c0,P0,⟨P1,q0,Ŝ⟩,z0,∅,∅,λst Î Hc Hd h s=>⟨h.1.same s,h.2⟩,λst Î Hc kvs o h e=>⟨h.1.but n01 e,h.2⟩,λst Î Hc k g h e t=>{h.1,bado h.2.1,.zero k g e (ż e t).1 (ż e t).2 rfl},λst Î Hc u v10 v11 Š h s e O=>?_}
   rw[ePn]
   exact{u,Î,st,st1,v10,v11,Š,rfl,s,e,O,h.1,h.2.1,q1,h.2.2,λz=>absurd z ∅,λz=>(by cases z)}
  rw[<-ePn];clear ePn P0 P1 q0 q1 Ŝ z0 z1 bado ż hy;rfl'
  refine{4,rfl,∅,∅,j8 (lo:=0) (n:=4) (λi B Hd=>∃(u:RB)(Î:List V)(st:Nat->Option Cl)(v10 v11:Option V),B=[YV (.ref a),YV (.ref S),YV (.ref LR),YV pv,YV (.int r),YV (.ref gl),YV (.ref u),YV (.ref gvA),YV (.ref od),YV (.int c),v10,v11,YV (.int sd)]/\ak B2 Hd/\Hd u=YV (.tup Î)/\eh N Hd dm ls st/\Iv st Î Hd/\∀g∈(ls.filter à).take (4-i),st g.ix≠YW) {u,Î,st,_,_,rfl,sc,eu,Om,iv,λg m=>ħ g (Pz m)} ?_ ?_}
  ·rintro i B Hd hi ⟨u,Î,st,v10,v11,rfl,sc,eu,Om,iv,ħ⟩;have hi4:i<4:=hi;rfl'
   rw[show(0:Int)+(i:Int)=(i:Int) by lia];have o4:∀{He:Hp},ak Hd He->∀g∈(ls.filter à).take (4-(i+1)),st g.ix≠YW:=λ_ g m=>ħ g (j5 () m);refine{c,6,4,rfl,∅,∅,λm Ha m0 m1 sa=>{by show 2<=sizeLine;decide,λtq htq=>?_}};obtain⟨sq,eq2⟩:=Ð htq (HO.tup [V.int sd,.int 2]);generalize upd Ha tq _=Hq at sq eq2⊢;have s1:=sa.trans sq;refine OZ {_,Py (Æ.of eq2),rfl,rfl,_,rfl,bh (λ_=>?_) (λ_=>(if_neg O3).mpr {u,Î,st,_,_,rfl,sc.trans s1,s1 _ _ eu,Om.same s1,iS _ _ _ _ iv s1,o4 s1})};obtain⟨kk,ek,hk⟩:∃kk:Nat,((i:Int)+sd)%4=(kk:Int)/\kk<=6:={(((i:Int)+sd)%4).toNat,(),()};refine{by show(0:Int)<4;decide,c,kk,5,(by show[V.int c,V.int (((i:Int)+sd)%4),V.int 5]=[V.int c,V.int (kk:Int),V.int 5];rw[ek]),hk,∅,λm2 Hb m0' m1' sb=>?_};have s2:=s1.trans sb;refine{rfl,_,rfl,bh (λ_=>?_) (λ_=>{u,Î,st,_,_,rfl,sc.trans s2,s2 _ _ eu,Om.same s2,iS _ _ _ _ iv s2,o4 s2})};obtain⟨x,rr,zz,tg,hg,mg,hz,϶,et,at3⟩:=row i hi4;have t2:=(sB.trans sc).trans s2;rfl'
   refine ah λM2 K2=>Ì (À.of (t2 _ _ egvB)) at3 (K2 _ _ ?_);clear K2 M2;rfl'
   refine ah λM2 K2=>Ø (j:=1) (Æ.of (t2 _ _ et)) rfl {by show 2<=sizeLine;decide,λu2 hu2=>?_};obtain⟨s5,eu2⟩:=Ð hu2 (HO.tup [V.str "bad",.str (N x)]);generalize upd Hb u2 _=He at s5 eu2⊢;have ϝ:=s2.trans s5;have t5:=t2.trans s5;refine K2 _ _ ?_;clear K2 M2;rfl'
   refine ah λM2 K2=>Ì (À.of (t5 _ _ œ)) agm (Ø (j:=1) (Æ.of (t5 _ _ et)) rfl (Ŀ (t5 _ _ egm) (jA D gb (jc mg)) {c,5,997,rfl,∅,∅,λm' Hf m0'' m1'' sf=>?_}));have kk:=kgm x rr zz mg;rw[PL]at kk;have t6:=t5.trans sf;refine{N,tg,x,zz,rr,_,clg x,m',rfl,t6 _ _ et,hz,kk.1.same t6,kk.2,λv' Hg sg hv'=>?_};have t7:=t6.trans sg;have Α:=sf.trans sg;have s27:=ϝ.trans Α;obtain⟨ix,ff,ed,x1,x2,x3⟩:=Om.same s27;have x24:=qj 24 ix x2 x1;refine Ì (À.of (t7 _ _ Œ)) adm (Ø (j:=1) (Æ.of (t7 _ _ et)) rfl {_,gQ.k (k:=.inr (N x)) ed (aG (by rw[kJ];lia)),?_});have i2:=iC _ _ _ _ (.dK (Y2 (dk N ix ff) (.inr (N x)) v')) (iB _ _ _ _ _ (iS _ _ _ _ iv s27) hg (λg' m=>ħ g' (j5 () m))) ed;have s8:ak B2 (upd Hg dm (.dK (Y2 (dk N ix ff) (.inr (N x)) v'))):=ak.out (sc.trans s27) cm _;have eu3:(upd Hg dm (.dK (Y2 (dk N ix ff) (.inr (N x)) v'))) u2=YV (.tup [V.str "bad",.str (N x)]):=aF (λz=>by rw[z]at eu2;rw[Α _ _ eu2]at ed;cases ed) (Α _ _ eu2);obtain⟨ϟ,ff',ed',y1,y2,y0,y3⟩:=eh.put D ç mg ed x1 x2 x3 (v:=v') (s:=YW) (by rw[PL];exact hv');generalize upd Hg dm (.dK (Y2 (dk N ix ff) (.inr (N x)) v'))=Hh at i2 s8 eu3 ed' y3⊢;have rest:∀g'∈(ls.filter à).take (4-(i+1)),iX st x YW g'.ix≠YW:=λg' m z=>by
    rw[show 4-(i+1)=3-i by lia]at m;have ne:g'.ix≠x:=ç.AI hg m;unfold iX at z;rw[if_neg ne]at z;exact ħ g' (j5 () m) z
   refine K2 _ _ ?_;clear K2 M2;rfl'
   refine{c,4,3,rfl,∅,∅,λm'' Hi m5 m6 si=>{rfl,_,rfl,bh (λ_=>?_) (λ_=>{u2,_,iX st x YW,_,_,rfl,s8.trans si,si _ _ eu3,eh.same si ⟨ϟ,ff',ed',y1,y2,y3⟩,iS _ _ _ _ i2 si,rest})}};have s9:=s8.trans si;have t9:=sB.trans s9;have ed9:=si _ _ ed';have P9:=eh.pop D (st:=iX st x YW) ϶ ed9 y1 y2 λx r y m=>(y3 x r y m).same si;rw[My]at P9;exact Ì (À.of (t9 _ _ Œ)) adm {dm,rfl,OZ {_,Rd.of ed9},(Ø (j:=1) (Æ.of (t9 _ _ et)) rfl {_,.inr (N x),_,ed9,rfl,jA D (λj m=>by have:=y1 j m;lia) y0,{u2,_,iX st x YW,_,_,rfl,ak.out s9 cm _,aF (λz=>by rw[z]at eu3;rw[ed']at eu3;cases eu3) (si _ _ eu3),P9,iC _ _ _ _ _ (iS _ _ _ _ i2 si) ed9,rest}})}
  rintro B Hd ⟨u,Î,st,v10,v11,rfl,sc,eu,Om,iv,_⟩;exact iE _ _ _ _ _ _ _ iv sc eu Om
 rintro B Hc ⟨u,Î,st0,st1,v10,v11,Š,rfl,sc,eu,P0,P1,q0,q1,Ŝ,_,_⟩;refine K1 _ _ ?_;clear K1 M1 row eT eT2 c0 c1;have ϻ:=sB.trans sc;rfl'
 refine ah λM1 K1=>?_;have hg1:∀x r y,Lr.Ç x r y∈ls->look (Ü ls) f1 x=f1 x:=λx r y m=>if_pos (jc m);have hg2:∀x r y,Lr.Ç x r y∈ls->look (Ü ls) f2 x=f2 x:=λx r y m=>if_pos (jc m);have askG:∀{Hx:Hp},ak Ô Hx->As N Hx r (bp 1 ls) (Ü ls) f1 (Ü ls) f2 [.str "told",.bl true]:=λ{Hx} s=>ED (st0:=λx=>YV (ø x)) (st1:=λx=>YV (ī x)) ç (λx r y m=>by rw[hg1 x r y m];exact{(k1B x r y m).1.same s,(k1B x r y m).2}) (λx r y m=>by rw[hg2 x r y m];exact{(k2B x r y m).1.same s,(k2B x r y m).2}) (λ_ _=>rfl) (λ_ _=>rfl) (.Ä (λg m k=>(by cases k)) (λg m k=>(by cases k)) nu rfl);have rT:∀{Hx:Hp}{p:RB},Hx p=YV (.tup [.str "told",.bl true])->ja K Hx (.ref p) (.tuple [.str "told",.bool true]):=λe=>.tup (Æ.of e) (.cons (.str _) (.cons (.bl _) .nil));refine Ì (À.of (ϻ _ _ œ)) rfl (Ì (À.of (ϻ _ _ œ)) rfl {N,H3,pv,r,bp 1 ls,ms,g1,g2,Ü ls,f1,Ü ls,f2,_,rfl,t3B.trans ϻ,pg,D,ho,ot,so,ϻ _ _ ϯ,gb,ϻ _ _ eg2B,gb,askG ϻ,λtt Ht st et=>{by show 2<=sizeLine;decide,λp hp=>?_}});obtain⟨sp,ep⟩:=Ð hp (HO.tup [V.str "told",.bl true]);generalize upd Ht p _=Hp1 at sp ep⊢;refine{_,_,rT (sp _ _ et),rT ep,f9.1,f9.1,?_};rw[f9.2];refine{_,rfl,bh (λz=>absurd z ∅) (λ_=>K1 _ _ ?_)};clear K1 M1;have s1:=st.trans sp;have P0:=P0.same s1;have P1:=P1.same s1;have eu:=s1 _ _ eu;have sB1:=ϻ.trans s1;clear st sp et ep s1 hp ϻ sc;rfl'
 refine ah λM1 K1=>?_;obtain⟨i0,h0,e0,a0,n0,l0⟩:=P0;obtain⟨i1,h1,e1,a1,n1,l1⟩:=P1;have len0:=qj 24 i0 n0 a0;have len1:=qj 24 i1 n1 a1;refine{_,rfl,∅,∅,tF (J:=ϳ 0 2) (n:=2) (x:=λj=>.int (0+j)) (λj y H=>∃d idx f,y=V.ref d/\H d=YV (.dK (dk N idx f))/\(∀i∈idx,i<25)/\∀i,i<24->look idx f i=if j=0 then look i0 h0 i else look i1 h1 i) (aG ∅) (λ_ _=>OW _) (λ_ _ h _=>h) (λ_ _ _ _ _ _ y=>y) (λb j Hq G hj sq kk=>?_) (λj y H H' s h=>?_) (λj y H Da ys zs e h=>?_) (λoA HA ys _ sA eA ly hy=>K1 _ _ ?_)}
 ·have sBq:=sB1.trans sq;have mo:∀k:Int,0<=k%2/\k%2<2:=λk=>()
  have j2:j=0\/j=1:=()
  rcases j2 with rfl|rfl
  ·exact OZ {_,.ref d0,OZ (À.of (sBq _ _ Œ)),rfl,{∅,∅},(by show(0:Int)<2;decide),N,d0,_,_,i0,h0,rfl,sq _ _ e0,D,Γ,a0,(),n0,(mo _).1,(mo _).2,λrr Hr ϟ f' s' e' b' lk=>kk _ _ s' {rr,ϟ,f',rfl,e',b',λi hi=>by rw[lk i hi];rfl}}
  exact OZ {_,.ref d1,OZ (À.of (sBq _ _ Œ)),rfl,{∅,∅},(by show(0:Int)<2;decide),N,d1,_,_,i1,h1,rfl,sq _ _ e1,D,Γ,a1,(),n1,(mo _).1,(mo _).2,λrr Hr ϟ f' s' e' b' lk=>kk _ _ s' {rr,ϟ,f',rfl,e',b',λi hi=>by rw[lk i hi];rfl}}
 ·obtain⟨d,idx,f,e,h1,h2,h3⟩:=h;exact{d,idx,f,e,s _ _ h1,h2,h3}
 ·obtain⟨d,idx,f,e',h1,h2,h3⟩:=h;exact{d,idx,f,e',aF (λz=>by rw[z,e]at h1;cases h1) h1,h2,h3}
 clear K1 M1;obtain⟨y0,y1,rfl⟩:∃y0 y1,ys=[y0,y1]:=by
  match ys,ly with
  | [y0,y1],_=>exact⟨y0,y1,rfl⟩
 obtain⟨dA,iA,fA,rfl,eA0,bA,lA⟩:=hy 0 _ rfl;obtain⟨dB,iB,fB,rfl,eB0,bB,lB⟩:=hy 1 _ rfl;have eu:=sA _ _ eu;have sBA:=sB1.trans sA;have m13:∀{x:Nat}{r y:Int},Lr.Ç x r y∈ls->x<24:=λm=>by
  have:=ç.Τ _ m;have:Lr.ix (.Ç _ _ _)<13:=this;exact Pd this ∅
 have ask:As N HA r (bp 1 ls) iA fA iB fB Î:=ED (st0:=st0) (st1:=st1) ç (λx r y m=>by rw[lA x (m13 m)];exact(l0 x r y m).same sA) (λx r y m=>by rw[lB x (m13 m)];exact(l1 x r y m).same sA) q0 q1 Ŝ;obtain⟨ds,sh,ev,rp⟩:=Ŝ.dat nk;clear hy l0 l1 q0 q1 Ŝ lA lB sB1 e0 e1;rfl'
 refine ah λM1 K1=>Ì (À.of eA) rfl (Ì (À.of eA) rfl {N,H3,pv,r,bp 1 ls,ms,dA,dB,iA,fA,iB,fB,_,rfl,t3B.trans sBA,pg,D,ho,ot,so,eA0,bA,eB0,bB,ask,λtt Ht st et=>{_,_,.tup (Æ.of et) (rp _ _),.tup (Æ.of (st _ _ eu)) (rp _ _),sh,sh,?_}});rw[ev];refine{_,rfl,bh (λz=>absurd z ∅) (λ_=>K1 _ _ ?_)};clear K1 M1;have sBt:=sBA.trans st;rfl'
 refine Ì (À.of (sBt _ _ œ)) rfl (Ì (À.of (sBt _ _ œ)) rfl {N,H3,pv,r,bp 1 ls,ms,g1,g2,Ü ls,f1,Ü ls,f2,_,rfl,t3B.trans sBt,pg,D,ho,ot,so,sBt _ _ ϯ,gb,sBt _ _ eg2B,gb,askG sBt,λt2 Hu su et2=>{by show 2<=sizeLine;decide,λp hp=>?_}});obtain⟨sp,ep⟩:=Ð hp (HO.tup [V.str "told",.bl true]);generalize upd Hu p _=Hp1 at sp ep⊢;refine OZ (OZ {_,_,rT (sp _ _ et2),rT ep,f9.1,f9.1,?_});rw[f9.2];exact q _
end
inductive FnI(K:RG)(f:RB)(x y:Str)(s:RY):Prop
 |mk(oc:RC)(od:Option RB)(kV dc pm:RC)(an:Option RB)(cd ct:RC)(sl:Array (Option RC))(l:K.lookup f=YV {oc,od,.func (SK x y (bg s) (aU s) (aq s) .none kV dc pm an cd ct),sl})(c:Ue K cd y=true)(k:SG K (.ref f)=true):FnI K f x y s
abbrev bD(K:RG)(x:Str)(s:RY):Prop:=∃f,Vg K RU x=YV (YV (.ref f))/\FnI K f x x s
abbrev jM(K:RG)(C:RB)(m q:Str)(s:RY):Prop:=∃f,RZ K (.ref C) m=YV (YV (.ref f))/\VF K (.ref f)=true/\FnI K f m q s
abbrev l8(K:RG)(C:RB)(x:Str)(up:List RB):Prop:=Vg K RU x=YV (YV (.ref C))/\(∃cd,YS K C=YV cd/\cd.mro=up.map RM++[SX "object"])/\VE K C Su=true/\UC K C=true/\XQ K C=true/\RZ K (.ref C) "__setattr__"=YV (YV (.builtin "object.__setattr__"))/\W.typeIn K (.ref C)=YV (.type "type")/\RZ K (.ref C) "__class__"=YV (YV (.builtin "object.__class__"))/\Xw K C=true/\SG K (.ref C)=true
abbrev ň(K:RG)(x:Str):Prop:=Vg K RU x=YV YW
abbrev Ú(K:RG)(C:RB)(x:Str):Prop:=RZ K (.ref C) x=YV YW
section
variable{K:RG}{mg:Str->Option RC}{h:R8}{x m q:Str}{s:RY}{ps:List Str}{C:RB}{up:List RB}
theorem bF(X:K.In h)(G:h.Ns RU mg)(t:bD K x s)(b:∀(kV doc pm:RC)(an:Option RB)(Â ct:RC)(us:List RC),us.length=ps.length->bindArgs (SK x x (bg s) (aU s) (aq s) .none kV doc pm an Â ct) {us,[]}=pure (ps.zip us)):aM K mg x s ps:=by
 obtain⟨f,a,_,_,_,_,_,_,_,_,_,l,c,k⟩:=t;exact F5 X G a l c k b
theorem ki(t:jM K C m q s)(b:∀(kV doc pm:RC)(an:Option RB)(Â ct:RC)(us:List RC),us.length=ps.length->bindArgs (SK m q (bg s) (aU s) (aq s) .none kV doc pm an Â ct) {us,[]}=pure (ps.zip us)):ý K C m q s ps:=by
 obtain⟨f,a,i,_,_,_,_,_,_,_,_,_,l,c,k⟩:=t;exact Lx a i l c k b
theorem nJ(X:K.In h)(G:h.Ns RU mg)(cg:SQ K (.builtin "object.__class__") "__get__"=YV (YV (.builtin "getset_descriptor.__get__")))(ct:T4 K (.builtin "object.__class__")=YV true)(t:l8 K C x up):d5 K mg C x up:=by
 obtain⟨a,b,c,d,e,f,g,i,j,k⟩:=t;exact{Uz X G a,⟨c,d,e,f⟩,b,g,i,cg,ct,j,k}
end
theorem ar0{p:List RC->Prop}(h:p []):∀us:List RC,us.length=0->p us:=λus e=>by
 cases us with
 |nil=>exact h
 |cons b t=>cases e
theorem Ł{p:List RC->Prop}{n:Nat}(h:∀a,∀us:List RC,us.length=n->p (a::us)):∀us:List RC,us.length=n+1->p us:=λus e=>by
 cases us with
 |nil=>cases e
 |cons b t=>exact h b t (Nat.succ.inj e)
abbrev El(K:RG)(x:Str)(s:RY)(d:V):Prop:=∃(f T:RB)(v oc:RC)(od:Option RB)(kV dc pm:RC)(an:Option RB)(cd ct:RC)(sl tl:Array (Option RC))(n:Nat),Vg K RU x=YV (YV (.ref f))/\K.lookup f=YV {oc,od,.func (SK x x (bg s) (aU s) (aq s) (.ref T) kV dc pm an cd ct),sl}/\Ue K cd x=true/\SG K (.ref f)=true/\K.lookup T=YV {.type "tuple",YW,.seq #[v] n,tl}/\Y0 d v
theorem Jm{K:RG}{mg:Str->Option RC}{h:R8}{x a b:Str}{s:RY}{d:V}(X:K.In h)(G:h.Ns RU mg)(t:El K x s d)
  (b1:∀(T:RB)(v kV dc pm:RC)(an:Option RB)(cd ct u u':RC),∃k,bindArgs (SK x x (bg s) (aU s) (aq s) (.ref T) kV dc pm an cd ct) {[u,u'],[]}=seqItems? (.ref T)>>=k/\k (YV #[v])=pure [(a,u),(b,u')])
  (b2:∀(T:RB)(v kV dc pm:RC)(an:Option RB)(cd ct u:RC),∃k,bindArgs (SK x x (bg s) (aU s) (aq s) (.ref T) kV dc pm an cd ct) {[u],[]}=seqItems? (.ref T)>>=k/\k (YV #[v])=pure [(a,u),(b,v)]):oO K mg x s [a,b] [d]:=by
 obtain⟨f,T,v,oc,od,kV,dc,pm,an,cd,ct,sl,tl,n,q,l,c,k,lt,r⟩:=t
 refine{f,oc,od,.ref T,kV,dc,pm,an,cd,ct,sl,[v],l,c,k,Uz X G q,.cons r .nil,λs' us hi hl=>?_,λs' us hi hl=>?_}
 ·rcases us with _|⟨u,_|⟨u',_|⟨_,_⟩⟩⟩
  ·cases hl
  ·cases hl
  ·obtain⟨g,e1,e2⟩:=b1 T v kV dc pm an cd ct u u';exact Wv rfl (hi T _ lt) rfl e1 e2
  simp at hl
 rcases us with _|⟨u,_|⟨_,_⟩⟩
 ·cases hl
 ·obtain⟨g,e1,e2⟩:=b2 T v kV dc pm an cd ct u;exact Wv rfl (hi T _ lt) rfl e1 e2
 simp at hl
abbrev ExI(K:RG)(C:RB)(x:Str):Prop:=Vg K RU x=YV (YV (.ref C))/\RZ K (.ref C) "__getattribute__"=YV (YV (.builtin "BaseException.__getattribute__"))/\RZ K (.ref C) "__getattr__"=YV YW/\RZ K (.ref C) "__setattr__"=YV (YV (.builtin "object.__setattr__"))/\RZ K (.ref C) "__class__"=YV (YV (.builtin "object.__class__"))/\SG K (.ref C)=true/\Wi K (.ref C) (.ref C)=YV true
abbrev ExT(K:RG)(C:RB)(up:List RC):Prop:=∃(nm q:Str)(N:RB)(bs:List RC)(sn:List Str)(sub:List RC)(ab:Bool)(col:Option Bool)(dd:Option RB)(k0 k1 k2 k3 k5:Option RC),K.lookup C=YV (Vb nm q C N bs up true sn sub ab col dd k0 k1 k2 k3 k5 "ValueError.__new__")
abbrev ExU(K:RG)(Ĳ:RB):Prop:=∃(uc:RC)(ud:Option RB)(ucd:ClassData)(usl:Array (Option RC)),K.lookup Ĳ=YV ⟨uc,ud,.cls ucd,usl⟩/\(∃(c:RC)(d:Option RB)(es:Array Xq)(n:Nat)(sl:Array (Option RC)),K.lookup ucd.ns=YV ⟨c,d,.dict es n,sl⟩/\(es.toList.all λe=>match e.key with| .str _ _=>true|_=>false)=true)/\Vg K ucd.ns "__init__"=YV YW
abbrev KC(K:RG)(C:RB)(q:Str)(s:RY):Prop:=∃f,RZ K (.ref C) "__init__"=YV (YV (.ref f))/\VF K (.ref f)=true/\FnI K f "__init__" q s
section
variable{K:RG}{mg:Str->Option RC}{h:R8}{x q:Str}{s:RY}{ps:List Str}{C Ĳ:RB}
theorem OC(cg:SQ K (.builtin "object.__class__") "__get__"=YV (YV (.builtin "getset_descriptor.__get__")))(ct:T4 K (.builtin "object.__class__")=YV true)(t:ExI K C x)(l:ExT K C ł):ä K C:=by
 obtain⟨_,_,_,_,_,_,_,_,_,_,_,_,_,_,lk⟩:=l;exact Hl lk t.2.1 t.2.2.1 t.2.2.2.1 t.2.2.2.2.1 cg ct t.2.2.2.2.2.1
theorem IG(cg:SQ K (.builtin "object.__class__") "__get__"=YV (YV (.builtin "getset_descriptor.__get__")))(ct:T4 K (.builtin "object.__class__")=YV true)(t:ExI K C x)(l:ExT K C (.ref Ĳ::ł))(u:ExU K Ĳ):ä K C:=by
 obtain⟨_,_,_,_,_,_,_,_,_,_,_,_,_,_,lk⟩:=l;obtain⟨_,_,_,_,lU,⟨_,_,_,_,_,ln,kn⟩,iU⟩:=u;exact Dd lk lU (HZ ln kn) iU t.2.1 t.2.2.1 t.2.2.2.1 t.2.2.2.2.1 cg ct t.2.2.2.2.2.1
theorem Nc(X:K.In h)(G:h.Ns RU mg)(c:ä K C)(t:ExI K C x)(i:KC K C q s)(b:∀(kV doc pm:RC)(an:Option RB)(Â ct:RC)(us:List RC),us.length=ps.length->bindArgs (SK "__init__" q (bg s) (aU s) (aq s) .none kV doc pm an Â ct) {us,[]}=pure (ps.zip us)):nc K mg C x q s ps:=by
 obtain⟨f,a,n,_,_,_,_,_,_,_,_,_,l,cd,k⟩:=i;exact CY X G c t.1 a n l cd k b
end
theorem Ă{p:List RC->Prop}(h:∀a0,p [a0]):∀us:List RC,us.length=1->p us:=Ł λa0=>ar0 (h a0)
theorem ë{p:List RC->Prop}(h:∀a0 a1,p [a0,a1]):∀us:List RC,us.length=2->p us:=Ł λa0=>Ł λa1=>ar0 (h a0 a1)
theorem ϲ{p:List RC->Prop}(h:∀a0 a1 a2,p [a0,a1,a2]):∀us:List RC,us.length=3->p us:=Ł λa0=>Ł λa1=>Ł λa2=>ar0 (h a0 a1 a2)
theorem Ş{p:List RC->Prop}(h:∀a0 a1 a2 a3,p [a0,a1,a2,a3]):∀us:List RC,us.length=4->p us:=Ł λa0=>Ł λa1=>Ł λa2=>Ł λa3=>ar0 (h a0 a1 a2 a3)
theorem ar5{p:List RC->Prop}(h:∀a0 a1 a2 a3 a4,p [a0,a1,a2,a3,a4]):∀us:List RC,us.length=5->p us:=Ł λa0=>Ł λa1=>Ł λa2=>Ł λa3=>Ł λa4=>ar0 (h a0 a1 a2 a3 a4)
theorem all_mk{l:Xr}{w:RS}{K:RG}{h:R8}{mg:Str->Option RC}{fa:RB}(A:Ï)(X:K.In h)(G:h.Ns RU mg)(hfa:mg "law"=YV (.ref fa))
 (t1:bD K "only" A0) (t2:bD K "joined" tE) (t3:bD K "top" FV) (t4:bD K "fits" zV)
 (t5:bD K "names_in" oU) (t6:bD K "each_once" mV) (t7:bD K "row_place" lV) (t8:bD K "laid_rows" mC)
 (t9:bD K "laid_inside" jw) (Ϝ:bD K "laid_program" iM) (t11:bD K "is_place" oZ) (t12:bD K "head_places" jQ)
 (t13:bD K "places" sQ) (t14:bD K "under" w8) (t15:bD K "exact_of" o9) (t16:bD K "exact_of_row" iI)
 (t17:bD K "one_more" oP) (t18:bD K "exact_of_if" jU) (t19:bD K "exact_of_loop" gj) (t20:bD K "balanced" oB)
 (t21:bD K "exacts" tY) (ſ:bD K "drawn" xB) (t23:bD K "row_links" lX) (t24:bD K "said_links" kG)
 (Ϲ:bD K "called_links" ig) (t26:bD K "step_links" kU) (t27:El K "links" wC (.bl false)) (t28:bD K "sources" qJ)
 (t29:bD K "sources_of" kT) (t30:bD K "ways_of" qF) (t31:bD K "arrivals" oW) (t32:El K "table" wI (.bl false))
 (t33:bD K "ranks_told" kW) (t34:bD K "is_number" mW) (t35:bD K "is_good" qx) (t36:bD K "given_cell" kS)
 (t37:bD K "own_cell" oJ) (t38:bD K "cells_of" i5) (t41:bD K "ends_of" qm) (t42:bD K "run" EY)
 (t43:bD K "unlike_given" iG) (t44:bD K "common_rows" jy) (t45:bD K "parting_rows" iK) (t46:bD K "next_common" jI)
 (t47:bD K "pairs_of" oz) (t48:bD K "walk" AF) (t49:bD K "walked" tT) (t50:bD K "_law_cell_at" jD)
 (t51:bD K "_law_mix" qc) (t52:bD K "_law_name" oN) (t53:bD K "_law_number" ky) (t54:bD K "_law_heads" mz)
 (t55:bD K "_law_tree" oR) (t56:bD K "_law_gift" o6) (t57:bD K "_law_gifts" mJ) (t58:bD K "_law_spoiled" jG)
 (t59:bD K "_law_moved" mh) (t60:bD K "_law_turned" kK) (t61:bD K "_law_asked" je) (t62:bD K "law" uh)
 (BI:ň K "all") (xi:ň K "bool") (iW:ň K "dict") (uW:ň K "int")
 (av:ň K "isinstance") (fY:ň K "len") (eO:ň K "list") (Cp:ň K "max")
 (fj:ň K "range") (A5:ň K "set") (pd:ň K "sorted") (vH:ň K "str")
 (rH:ň K "tuple") (zc:ň K "zip") (g_CLOCK:∃k:Tok,Vg K RU "CLOCK"=YV (YV (.str "the clock" k))) (g_MOST_NUMBER:∃k:Tok,Vg K RU "MOST_NUMBER"=YV (YV (.int 999999999999 k)))
 (cg:SQ K (.builtin "object.__class__") "__get__"=YV (YV (.builtin "getset_descriptor.__get__"))) (ct:T4 K (.builtin "object.__class__")=YV true) (x_Row:l8 K A.Row "Row" [A.Row]) (x_HandRow:l8 K A.cb "HandRow" [A.cb,A.Row])
 (x_GivenRow:l8 K A.bq "GivenRow" [A.bq,A.Row]) (x_OwnRow:l8 K A.cV "OwnRow" [A.cV,A.Row]) (x_LetRow:l8 K A.dh "LetRow" [A.dh,A.Row]) (x_SetRow:l8 K A.d6 "SetRow" [A.d6,A.Row])
 (x_PutRow:l8 K A.dw "PutRow" [A.dw,A.Row]) (x_SendRow:l8 K A.bQ "SendRow" [A.bQ,A.Row]) (x_SayRow:l8 K A.fC "SayRow" [A.fC,A.Row]) (x_CallRow:l8 K A.dI "CallRow" [A.dI,A.Row])
 (x_LastRow:l8 K A.gL "LastRow" [A.gL,A.Row]) (x_IfRow:l8 K A.dM "IfRow" [A.dM,A.Row]) (x_LoopRow:l8 K A.bJ "LoopRow" [A.bJ,A.Row]) (x_Program:l8 K A.Program "Program" [A.Program])
 (x_Book:l8 K A.bL "Book" [A.bL]) (x_Run:l8 K A.Run "Run" [A.Run]) (e_HushError:ExI K A.cJ "HushError") (el_HushError:ExT K A.cJ ł)
 (e_NoGift:ExI K A.bC "NoGift") (el_NoGift:ExT K A.bC (.ref A.cJ::ł)) (eu_HushError:ExU K A.cJ) (ei_NoGift:KC K A.bC "NoGift.__init__" jN)
 (en_NoGift_name:Ú K A.bC "name") (e_NotAlike:ExI K A.aY "NotAlike") (el_NotAlike:ExT K A.aY (.ref A.cJ::ł)) (ei_NotAlike:KC K A.aY "NotAlike.__init__" gG)
 (en_NotAlike_name:Ú K A.aY "name") (m1:jM K A.Row "__init__" "Row.__init__" kH) (m2:jM K A.cb "__init__" "HandRow.__init__" iq) (m3:jM K A.bq "__init__" "GivenRow.__init__" gE)
 (m4:jM K A.cV "__init__" "OwnRow.__init__" jL) (m5:jM K A.dh "__init__" "LetRow.__init__" jB) (m6:jM K A.d6 "reads" "SetRow.reads" iP) (m7:jM K A.dw "reads" "PutRow.reads" ip)
 (m8:jM K A.bQ "__init__" "SendRow.__init__" h9) (m9:jM K A.bQ "reads" "SendRow.reads" gx) (m10:jM K A.dM "reads" "IfRow.reads" jS) (m11:jM K A.bJ "reads" "LoopRow.reads" gr)
 (m12:jM K A.Program "__init__" "Program.__init__" hJ) (m13:jM K A.bL "__init__" "Book.__init__" mO) (m14:jM K A.Run "__init__" "Run.__init__" oX) (m15:jM K A.Run "number_at" "Run.number_at" gu)
 (m16:jM K A.Run "number_for" "Run.number_for" fM) (m17:jM K A.Run "number_told" "Run.number_told" fg) (m18:jM K A.Run "pass_steps" "Run.pass_steps" fw) (m19:jM K A.Run "do_rows" "Run.do_rows" jE)
 (m20:jM K A.Run "do_row" "Run.do_row" kA) (n1:Ú K A.cb "name") (n2:Ú K A.cb "rank") (n3:Ú K A.cb "number")
 (n4:Ú K A.bq "name") (n5:Ú K A.bq "rank") (n6:Ú K A.bq "size") (n7:Ú K A.bq "number")
 (n8:Ú K A.cV "name") (n9:Ú K A.cV "size") (n10:Ú K A.cV "number") (n11:Ú K A.dh "name")
 (n12:Ú K A.dh "rank") (n13:Ú K A.dh "number") (n14:Ú K A.d6 "name") (n15:Ú K A.d6 "value")
 (n16:Ú K A.d6 "number") (n17:Ú K A.dw "name") (n18:Ú K A.dw "place") (n19:Ú K A.dw "value")
 (n20:Ú K A.dw "number") (n21:Ú K A.bQ "name") (n22:Ú K A.bQ "value") (n23:Ú K A.bQ "number")
 (Γ:Ú K A.fC "name") (n25:Ú K A.fC "mark") (n26:Ú K A.fC "number") (n27:Ú K A.dI "name")
 (n28:Ú K A.dI "things") (n29:Ú K A.dI "number") (n30:Ú K A.gL "number") (n31:Ú K A.dM "value")
 (n32:Ú K A.dM "first") (n33:Ú K A.dM "other") (n34:Ú K A.dM "left") (n35:Ú K A.dM "right")
 (n36:Ú K A.dM "number") (n37:Ú K A.bJ "thing") (n38:Ú K A.bJ "most") (n39:Ú K A.bJ "body")
 (n40:Ú K A.bJ "left") (n41:Ú K A.bJ "right") (n42:Ú K A.bJ "number") (n43:Ú K A.Program "heads")
 (n44:Ú K A.Program "deeds") (n45:Ú K A.Program "main") (n46:Ú K A.bL "letters") (n47:Ú K A.bL "said")
 (n48:Ú K A.bL "trace") (n49:Ú K A.bL "steps") (n50:Ú K A.bL "ends") (n51:Ú K A.Run "deeds")
 (n52:Ú K A.Run "cells") (n53:Ú K A.Run "book") (y_Row_init:SQ K (.ref A.Row) "__getattribute__"=YV (YV (.builtin "type.__getattribute__"))/\W.readsIn K A.Row (.type "type")=true/\∃f,RZ K (.ref A.Row) "__init__"=YV (YV (.ref f))/\W.findCls K (.ref A.Row) (.type "type") "__init__"=YV (.val (.ref f))) (nod:[A.Row,A.cb,A.bq,A.cV,A.dh,A.d6,A.dw,A.bQ,A.fC,A.dI,A.gL,A.dM,A.bJ,A.Program,A.bL,A.Run].Nodup)
 (xJ:R0 K (.ref A.bC) (.ref A.aY)=YV false) (yj:R0 K (.ref A.aY) (.ref A.bC)=YV false) (yo:Wi K (.ref A.bC) (.ref A.cJ)=YV true) (Ci:Wi K (.ref A.aY) (.ref A.cJ)=YV true)
:∃fd:Te,(∀(s:RF)(v:RC),Wg s fd {[v],[]} [("_law_script",v)])/\∀base:R8,K.In base->base.Ns RU mg->hZ l.prog w K mg base ġ 16 fa fd ["_law_script"] (xu K):=by
 have T:Txt K mg A:={
  only:=bF X G t1 λ_ _ _ _ _ _=>Ă λ_=>rfl,joined:=bF X G t2 λ_ _ _ _ _ _=>ë λ_ _=>rfl,top:=bF X G t3 λ_ _ _ _ _ _=>Ă λ_=>rfl,
  fits:=bF X G t4 λ_ _ _ _ _ _=>ë λ_ _=>rfl,tL:=bF X G t5 λ_ _ _ _ _ _=>Ă λ_=>rfl,qB:=bF X G t6 λ_ _ _ _ _ _=>Ă λ_=>rfl,
  qz:=bF X G t7 λ_ _ _ _ _ _=>Ă λ_=>rfl,gX:=bF X G t8 λ_ _ _ _ _ _=>ϲ λ_ _ _=>rfl,jg:=bF X G t9 λ_ _ _ _ _ _=>ë λ_ _=>rfl,
  kD:=bF X G Ϝ λ_ _ _ _ _ _=>Ă λ_=>rfl,tG:=bF X G t11 λ_ _ _ _ _ _=>Ă λ_=>rfl,mL:=bF X G t12 λ_ _ _ _ _ _=>Ă λ_=>rfl,
  places:=bF X G t13 λ_ _ _ _ _ _=>Ă λ_=>rfl,under:=bF X G t14 λ_ _ _ _ _ _=>Ă λ_=>rfl,dX:=bF X G t15 λ_ _ _ _ _ _=>ë λ_ _=>rfl,
  eJ:=bF X G t16 λ_ _ _ _ _ _=>ë λ_ _=>rfl,tW:=bF X G t17 λ_ _ _ _ _ _=>Ă λ_=>rfl,jd:=bF X G t18 λ_ _ _ _ _ _=>ë λ_ _=>rfl,
  fP:=bF X G t19 λ_ _ _ _ _ _=>ë λ_ _=>rfl,balanced:=bF X G t20 λ_ _ _ _ _ _=>ë λ_ _=>rfl,zD:=bF X G t21 λ_ _ _ _ _ _=>Ă λ_=>rfl,
  drawn:=bF X G ſ λ_ _ _ _ _ _=>Ş λ_ _ _ _=>rfl,qb:=bF X G t23 λ_ _ _ _ _ _=>Ş λ_ _ _ _=>rfl,oq:=bF X G t24 λ_ _ _ _ _ _=>ë λ_ _=>rfl,
  kE:=bF X G Ϲ λ_ _ _ _ _ _=>ϲ λ_ _ _=>rfl,oF:=bF X G t26 λ_ _ _ _ _ _=>ë λ_ _=>rfl,links:=Jm X G t27 (λ_ _ _ _ _ _ _ _ _ _=>{_,rfl,rfl}) (λ_ _ _ _ _ _ _ _ _=>{_,rfl,rfl}),
  sources:=bF X G t28 λ_ _ _ _ _ _=>Ă λ_=>rfl,ou:=bF X G t29 λ_ _ _ _ _ _=>ë λ_ _=>rfl,xw:=bF X G t30 λ_ _ _ _ _ _=>ë λ_ _=>rfl,
  tu:=bF X G t31 λ_ _ _ _ _ _=>ë λ_ _=>rfl,table:=Jm X G t32 (λ_ _ _ _ _ _ _ _ _ _=>{_,rfl,rfl}) (λ_ _ _ _ _ _ _ _ _=>{_,rfl,rfl}),ow:=bF X G t33 λ_ _ _ _ _ _=>Ă λ_=>rfl,
  qh:=bF X G t34 λ_ _ _ _ _ _=>Ă λ_=>rfl,wj:=bF X G t35 λ_ _ _ _ _ _=>ë λ_ _=>rfl,sM:=bF X G t36 λ_ _ _ _ _ _=>ë λ_ _=>rfl,
  ub:=bF X G t37 λ_ _ _ _ _ _=>Ă λ_=>rfl,yg:=bF X G t38 λ_ _ _ _ _ _=>ë λ_ _=>rfl,xa:=bF X G t41 λ_ _ _ _ _ _=>ë λ_ _=>rfl,
  run:=bF X G t42 λ_ _ _ _ _ _=>ë λ_ _=>rfl,kI:=bF X G t43 λ_ _ _ _ _ _=>Ş λ_ _ _ _=>rfl,mQ:=bF X G t44 λ_ _ _ _ _ _=>ë λ_ _=>rfl,
  kz:=bF X G t45 λ_ _ _ _ _ _=>ë λ_ _=>rfl,mX:=bF X G t46 λ_ _ _ _ _ _=>ϲ λ_ _ _=>rfl,ur:=bF X G t47 λ_ _ _ _ _ _=>ë λ_ _=>rfl,
  walk:=bF X G t48 λ_ _ _ _ _ _=>Ş λ_ _ _ _=>rfl,walked:=bF X G t49 λ_ _ _ _ _ _=>Ş λ_ _ _ _=>rfl,nh:=bF X G t50 λ_ _ _ _ _ _=>ë λ_ _=>rfl,
  wb:=bF X G t51 λ_ _ _ _ _ _=>ϲ λ_ _ _=>rfl,sj:=bF X G t52 λ_ _ _ _ _ _=>ë λ_ _=>rfl,oy:=bF X G t53 λ_ _ _ _ _ _=>Ă λ_=>rfl,
  qw:=bF X G t54 λ_ _ _ _ _ _=>ë λ_ _=>rfl,sv:=bF X G t55 λ_ _ _ _ _ _=>ë λ_ _=>rfl,uA:=bF X G t56 λ_ _ _ _ _ _=>ϲ λ_ _ _=>rfl,
  qk:=bF X G t57 λ_ _ _ _ _ _=>Ş λ_ _ _ _=>rfl,lR:=bF X G t58 λ_ _ _ _ _ _=>ϲ λ_ _ _=>rfl,qC:=bF X G t59 λ_ _ _ _ _ _=>ϲ λ_ _ _=>rfl,
  oG:=bF X G t60 λ_ _ _ _ _ _=>ϲ λ_ _ _=>rfl,ql:=bF X G t61 λ_ _ _ _ _ _=>Ş λ_ _ _ _=>rfl,BI:=Ss X G BI,
  xi:=Ss X G xi,iW:=Ss X G iW,uW:=Ss X G uW,
  av:=Ss X G av,fY:=Ss X G fY,eO:=Ss X G eO,
  Cp:=Ss X G Cp,fj:=Ss X G fj,A5:=Ss X G A5,
  pd:=Ss X G pd,vH:=Ss X G vH,rH:=Ss X G rH,
  zc:=Ss X G zc,rV:=g_CLOCK.imp λ_ e=>Uz X G e,nW:=g_MOST_NUMBER.imp λ_ e=>Uz X G e,
  vL:=nJ X G cg ct x_Row,sI:=ki m1 λ_ _ _ _ _ _=>ë λ_ _=>rfl,d7:=nJ X G cg ct x_HandRow,
  ib:=ki m2 λ_ _ _ _ _ _=>Ş λ_ _ _ _=>rfl,ic:=n1,iZ:=n2,
  fG:=n3,aR:=nJ X G cg ct x_GivenRow,gw:=ki m3 λ_ _ _ _ _ _=>ar5 λ_ _ _ _ _=>rfl,
  ba:=n4,dZ:=n5,cW:=n6,
  eG:=n7,cC:=nJ X G cg ct x_OwnRow,jX:=ki m4 λ_ _ _ _ _ _=>Ş λ_ _ _ _=>rfl,
  cZ:=n8,fS:=n9,gD:=n10,
  cG:=nJ X G cg ct x_LetRow,jW:=ki m5 λ_ _ _ _ _ _=>Ş λ_ _ _ _=>rfl,dS:=n11,
  fR:=n12,gB:=n13,fX:=nJ X G cg ct x_SetRow,
  iu:=ki m6 λ_ _ _ _ _ _=>Ă λ_=>rfl,nO:=n14,mU:=n15,
  lF:=n16,eI:=nJ X G cg ct x_PutRow,iL:=ki m7 λ_ _ _ _ _ _=>Ă λ_=>rfl,
  oh:=n17,mK:=n18,mG:=n19,
  lj:=n20,bE:=nJ X G cg ct x_SendRow,iV:=ki m8 λ_ _ _ _ _ _=>Ş λ_ _ _ _=>rfl,
  gp:=ki m9 λ_ _ _ _ _ _=>Ă λ_=>rfl,iN:=n21,d4:=n22,
  cK:=n23,bS:=nJ X G cg ct x_SayRow,jF:=Γ,
  oj:=n25,cv:=n26,cM:=nJ X G cg ct x_CallRow,
  eM:=n27,kx:=n28,dF:=n29,
  j7:=nJ X G cg ct x_LastRow,j3:=n30,cf:=nJ X G cg ct x_IfRow,
  jH:=ki m10 λ_ _ _ _ _ _=>Ă λ_=>rfl,nT:=n31,jv:=n32,
  jz:=n33,kL:=n34,om:=n35,
  mF:=n36,br:=nJ X G cg ct x_LoopRow,gk:=ki m11 λ_ _ _ _ _ _=>Ă λ_=>rfl,
  lE:=n37,mw:=n38,iy:=n39,
  lP:=n40,gy:=n41,ku:=n42,
  bu:=nJ X G cg ct x_Program,i7:=ki m12 λ_ _ _ _ _ _=>Ş λ_ _ _ _=>rfl,bG:=n43,
  bH:=n44,eE:=n45,da:=nJ X G cg ct x_Book,
  lO:=ki m13 λ_ _ _ _ _ _=>Ă λ_=>rfl,iJ:=n46,qP:=n47,
  cA:=n48,eK:=n49,mH:=n50,
  gI:=nJ X G cg ct x_Run,oM:=ki m14 λ_ _ _ _ _ _=>ϲ λ_ _ _=>rfl,gC:=ki m15 λ_ _ _ _ _ _=>ë λ_ _=>rfl,
  fO:=ki m16 λ_ _ _ _ _ _=>ë λ_ _=>rfl,fe:=ki m17 λ_ _ _ _ _ _=>ë λ_ _=>rfl,fE:=ki m18 λ_ _ _ _ _ _=>ë λ_ _=>rfl,
  jJ:=ki m19 λ_ _ _ _ _ _=>ë λ_ _=>rfl,kB:=ki m20 λ_ _ _ _ _ _=>ë λ_ _=>rfl,qU:=n51,
  jk:=n52,h8:=n53,pq:=OC cg ct e_HushError el_HushError,
  pX:=Uz X G e_HushError.1,bX:=IG cg ct e_NoGift el_NoGift eu_HushError,qp:=Uz X G e_NoGift.1,
  vD:=Nc X G (IG cg ct e_NoGift el_NoGift eu_HushError) e_NoGift ei_NoGift λ_ _ _ _ _ _=>ë λ_ _=>rfl,fh:=en_NoGift_name,cS:=IG cg ct e_NotAlike el_NotAlike eu_HushError,
  qV:=Uz X G e_NotAlike.1,qO:=Nc X G (IG cg ct e_NotAlike el_NotAlike eu_HushError) e_NotAlike ei_NotAlike λ_ _ _ _ _ _=>ë λ_ _=>rfl,fF:=en_NotAlike_name,
  d8:=⟨y_Row_init.1,y_Row_init.2.1,y_Row_init.2.2⟩,nd:=nod,xJ:=xJ,
  yj:=yj,yo:=yo,Ci:=Ci }
 have F:aM K mg "law" uh ["_law_script"]:=bF X G t62 λ_ _ _ _ _ _=>Ă λ_=>rfl;obtain⟨f,a,oc,od,kV,dc,pm,an,cd,ct,sl,lk,_,_⟩:=t62;refine{SK "law" "law" (bg uh) (aU uh) (aq uh) .none kV dc pm an cd ct,λs v=>.of_eq rfl,λbase _ _=>?_};have e:=hfa.symm.trans (Uz X G a);cases e;exact JK (Nw (P:=l.prog) (w:=w) (base:=base) T F) (Uz X G a) lk
theorem walk{l:Xr}{q:Program}{loose:List Str}{XP:(Str->Option RC)->R8->Prop}{YP:RS->R8->Prop}{d:DefRec}{K:S9->RG}(hn:l.most=YV 63)(hdf:d.params.defaults=[])(hY:∀(w:RS)(h:R8),YP w h->(K w.params).In h)
  (F:∀(w:RS)(mg:Str->Option RC)(fa:RB)(h:R8),(K w.params).In h->h.Ns RU mg->mg d.name=YV (.ref fa)->∃fd:Te,(∀(s:RF)(u:RC),Wg s fd {[u],[]} [("_law_script",u)])/\∀base:R8,(K w.params).In base->base.Ns RU mg->hZ l.prog w (K w.params) mg base ġ 16 fa fd ["_law_script"] (xu (K w.params))) :
  W.WalkO q loose XP YP l.row.toRowW d [] (λf vs=>Yr f vs):=
 L2.HQ (n:=63) (k:=16) (x:="_law_script") (CX:=λ_=>ġ) (sp:=λw=>xu (K w.params)) hn ∅ hdf {rfl,∅,∅} hY F (λ_ _ a ns hl _ hS=>{a,ns,rfl,hS,hl,λ_=>rfl}) λ_ _ _ _ _ z=>z
end K67
open PySem PySem.W PyProof.Rows
set_option maxRecDepth 100000 in
set_option maxHeartbeats 0 in
theorem PySem.Challenge.cw_hushrow_k67_walks_refused_holds : PySem.Challenge.rw_hushrow_k67_walks_refused.Holds := by
 w_on;o_law
 refine W.holds_open (q:=K67.cq) (loose:=["links","table"]) (Xt:=K67.test) (XP:=W.XL K67.cq []) (Yf:=(W5 K67.ð K67.qM K67.kq).obs) (Ya:=(W5 K67.ð K67.qM K67.kq).val) (YP:=(W5 K67.ð K67.qM K67.kq).says) (N:=15498) K67.left (W5 K67.ð K67.qM K67.kq).of (W5 K67.ð K67.qM K67.kq).keeps
  (λs e=>W.xl_of s (Q8.mp e).1) W.XL.keeps (by rfl) (by rfl) (by rfl) (λs e=>W.recFacts_of (Q8.mp e).2) ?h4 ?h5 ?h6 {rfl,rfl,rfl,rfl,rfl,by decide+kernel} ?hw ?hc
 (case h4=>rfl);(case h5=>first|assumption|decide+kernel);(case h6=>decide+kernel);(case hw=>w_witness2)
 k_fill
 refine K67.walk (l:=PySem.Challenge.rw_hushrow_k67_walks_refused) rfl rfl (λw h Y=>W.kIn_of Y) ?F;case F=>
  intro w mg fa h KX G hmg;refine K67.all_mk ⟨145,173,199,225,251,291,331,364,404,435,454,487,520,539,735,871,31,51,70⟩ KX G hmg ?_ ?_ ?_ ?_ ?_ ?_ ?_ ?_ ?_ ?_ ?_ ?_ ?_ ?_ ?_ ?_ ?_ ?_ ?_ ?_ ?_ ?_ ?_ ?_ ?_ ?_ ?_ ?_ ?_ ?_ ?_ ?_ ?_ ?_ ?_ ?_ ?_ ?_ ?_ ?_ ?_ ?_ ?_ ?_ ?_ ?_ ?_ ?_ ?_ ?_ ?_ ?_ ?_ ?_ ?_ ?_ ?_ ?_ ?_ ?_ ?_ ?_ ?_ ?_ ?_ ?_ ?_ ?_ ?_ ?_ ?_ ?_ ?_ ?_ ?_ ?_ ?_ ?_ ?_ ?_ ?_ ?_ ?_ ?_ ?_ ?_ ?_ ?_ ?_ ?_ ?_ ?_ ?_ ?_ ?_ ?_ ?_ ?_ ?_ ?_ ?_ ?_ ?_ ?_ ?_ ?_ ?_ ?_ ?_ ?_ ?_ ?_ ?_ ?_ ?_ ?_ ?_ ?_ ?_ ?_ ?_ ?_ ?_ ?_ ?_ ?_ ?_ ?_ ?_ ?_ ?_ ?_ ?_ ?_ ?_ ?_ ?_ ?_ ?_ ?_ ?_ ?_ ?_ ?_ ?_ ?_ ?_ ?_ ?_ ?_ ?_ ?_ ?_ ?_ ?_ ?_ ?_ ?_ ?_ ?_ ?_ ?_ ?_ ?_ ?_ ?_ ?_ ?_ ?_ ?_ ?_ ?_ ?_ ?_ ?_ ?_ ?_ ?_ ?_ ?_ ?_ ?_ ?_ ?_;iterate 26 exact{_,by k_is,_,_,_,_,_,_,_,_,_,by k_is,by k_is,by k_is}
  iterate 1 exact{_,_,_,_,_,_,_,_,_,_,_,_,_,_,by k_is,by k_is,by k_is,by k_is,by k_is,by first|rfl|exact{_,rfl}}
  iterate 4 exact{_,by k_is,_,_,_,_,_,_,_,_,_,by k_is,by k_is,by k_is}
  iterate 1 exact{_,_,_,_,_,_,_,_,_,_,_,_,_,_,by k_is,by k_is,by k_is,by k_is,by k_is,by first|rfl|exact{_,rfl}}
  iterate 28 exact{_,by k_is,_,_,_,_,_,_,_,_,_,by k_is,by k_is,by k_is}
  iterate 14 (show _=_;k_is)
  iterate 2 exact{_,by k_is}
  iterate 2 (show _=_;k_is)
  iterate 16 exact{by k_is,{_,by k_is,rfl},by k_is,by k_is,by k_is,by k_is,by k_is,by k_is,by k_is,by k_is}
  iterate 1 exact⟨by k_is,by k_is,by k_is,by k_is,by k_is,by k_is,by k_is⟩
  iterate 1 exact{_,_,_,_,_,_,_,_,_,_,_,_,_,_,by k_is}
  iterate 1 exact⟨by k_is,by k_is,by k_is,by k_is,by k_is,by k_is,by k_is⟩
  iterate 1 exact{_,_,_,_,_,_,_,_,_,_,_,_,_,_,by k_is}
  iterate 1 exact{_,_,_,_,by k_is,{_,_,_,_,_,by k_is,by rfl},by k_is}
  iterate 1 exact{_,by k_is,by k_is,_,_,_,_,_,_,_,_,_,by k_is,by k_is,by k_is}
  iterate 1 (show _=_;k_is)
  iterate 1 exact⟨by k_is,by k_is,by k_is,by k_is,by k_is,by k_is,by k_is⟩
  iterate 1 exact{_,_,_,_,_,_,_,_,_,_,_,_,_,_,by k_is}
  iterate 1 exact{_,by k_is,by k_is,_,_,_,_,_,_,_,_,_,by k_is,by k_is,by k_is}
  iterate 1 (show _=_;k_is)
  iterate 20 exact{_,by k_is,by k_is,_,_,_,_,_,_,_,_,_,by k_is,by k_is,by k_is}
  iterate 53 (show _=_;k_is)
  iterate 1 exact{by k_is,by k_is,_,by k_is,by k_is}
  iterate 1 decide
  iterate 4 first|k_is|rfl|kernel_rfl

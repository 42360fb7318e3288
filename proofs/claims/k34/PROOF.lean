import PyProof.Rows.All
import Wide.All
import OpenK.AllK
import PySem.Challenge.RW_hushrow_k34_table
local macro_rules|`({$x:term,$xs,*})=>`(⟨$x,$xs,*⟩)
open PySem renaming wpAny_bind->E9,Value->RI,Addr->RJ,wpAny_pure->RK,Shared->RN,starEach->RV,model->RY,World->R5,mainGlobals->R9,compareOp->Sf,Stmt->Si,mem_of_lookup->Sj,wpAny_newObj_type->Sk,Heap->So,Around->Sq,importedModules->Sr,eval->SD,treeTable->SH,backTo->SJ,cellsFrom->SK,codeAny_builtin->SN,keywordEach->SR,wpAny_call_entry->SS,attributeBase->SV,binaryOp->SX,wpAny_Call_Name_kw->Tb,Str->Ti,sysModules->Tn,OsState->Tu,wpAny_mono->Tw,wpAny_passesOwn->Tz,bootBuiltins->TB,FuncData->TC,wpAny_setState_of->TJ,backToKw->TM,NameKind->TN,wpAny_callSpecial?_slot->TQ,wpAny_getItem_str_slice->TR,cLine->TX,wpAny_rule->T1,plainId_quiet->T5,Params->T6,Builtin->T8,sizeLine_eq->Ua,codeAny_mono->Ud,Keyword->Ue,behindInMarks->Um,intKind->Up,pushCells_keeps->Uq,tupleKind_room_in1->Us,sliceBounds->Uu,wpAny_typeOf->Uw,wpAny_dictEntries->Uy,setAddHashed->Uz,builtinLookup_eq_fast->UD,Spec->UE,call_meets->UL,pushCells->UM,wpAny_field->UQ,wpAny_execs_nil->UR,letOwnedTupleGo->US,post_val_or_str->UU,wpAny_setEntries_of->UW,holding->UY,Scope->U5,assignEach->U7,isSubtype_type->Va,wpAny_truthy_bool->Vi,getItem->Vj,wpAny_pyIter_list->Vl,wpAny_standAt->Vm,wpAny_isInstance->Vv,wpAny_askSetting->Vw,builtinsNs->VD,wpAny_load->VE,rawInt->VF,wpAny_pyNext_list_item->VG,wpAny_pyNext_range_end->VH,wpAny_pyIter_rangeiter->VI,BindsTo->VL,typeLookup_type->VS,wpAny_pyNext_list_end->VT,wpAny_notOrdered_dict->VU,GenState->V1,wpAny_loadName_local->V3,pyNext->V4,IsRangeIter->V5,PyData->V7,wpAny_runValue->Wa,wpAny_setField->Wc,tupleKind->Wk,swapsWith->Wl,callerA->Wn,seqItems?->Wr,wpAny_loadName_cell->Wt,evalPart_none->WA,wpAny_attempt->WE,wpAny_newList->WG,wpAny_Constant_int->WL,wpAny_pyIter_range->WM,wpAny_call->WO,IsPart->WQ,typeIs_str->WU,getattributeRaised->W2,intKind_is->W5,Within->Xb,standAt->Xc,wpAny_sequenceKey->Xh,seqIndex_neg->Xi,wpAny_pyIter_slot->Xn,wpAny_execs_cons->Xr,getMethod->Xs,entryFor_of_tree->Xx,wpAny_pyIter_zip->Xy,wpAny_setScan_of->Xz,seqIndex_of->XM,atKey->XN,wpAny_specialOf->XS,wpAny_dictEpoch->XT,codeAny_of_tree->XU,wpAny_updateSeq->XW,wpAny_Name->X1,recursionLimit->X3,bindL->X4,bindC->X5,typeIs_int->X7,call->X9,newFunctionEnv->Yb,compPost->Yc,entryFor->Yg,setAddHashedIn->Yi,entryFor_alias->Yj,firstArgMember->Yk,DictEntry->Yv,storeName->Yw,PassesOwn->Yx,joinParts->Yz,pickOrder->YA,spliced->YB,pyIter->YC,newList->YF,collect->YG
open PySem.Heap renaming get?_push_of_some->RL,lt_size->RX,get?_push_size->RZ,get?_update_other->SI,get?_update_self->Ta,size_push->Tf,SameBut->TZ,get?_push_ne->UB,size_update->UN
open PyProof.Rows renaming wpS_bind->RO,wpS_pure->RU,SortSt->Sh,arrOf->Sl,Keyed->Su,pendingOf->Sx,wpS_forRange->Sy,callWith_type1->SU,slot_tuple_getitem->S8,wpS_modify->Tc,wpS_mono->Tg,seqObj->T7,envOfC->Ui,failedOf->Uo,SortKind->UA,callWith_builtin1->UK,wpS_get->UO,slicePart_none->U8,AllBare->Vh,IntsAre->Vk,wpS_lift->VA,subscriptTail_builtinR->VM,elem'->Wf,gallopOf->Wh,mirror_perm->Wi,StrsAre->Wq,entry_tuple_getitem->Wu,subscriptTail->WC,listUpdate_at->WH,args_tuple_getitem->WS,seqEpoch_at->XO,entry_list_sort->XX,pairsOf->XZ,Subscript_->X6,slot_list_sort->Yl,args_list_sort->Ym,sortedHeap->Yn,sortedHeap_old->Yo
open PySem.W renaming Frag->RS,mg_none_of->S0,findIn->S9,fnOf->Te,keepIn->Tq,emptyDict->TV,topStub->TY,kitOne->T3,kia_one->T4,Frag->Uc,openSeen->Ul,specialIn->Ut,boot_drawn->UG,instObj->UI,cellsFrom_some->UJ,codeIn->UP,boot_toks->U3,openGood->Vp,boot_heap->Vq,plainGet->VJ,hasDictIn->V6,mg_of->Wo,plainGet_of->Wz,kHook->W9,OpenLaw->Xp,boot_o_0->Xq,makesIn->Xu,takesIn->Xv,methodObj->XH,plainOver->XJ,namesBound->X0,lookIn->X2,nsIn->Ye,staticsOk->Yu,takerIn->Yy,isFn->YD,mroIn->YE
open PySem.Paired renaming length->RT
open PySem.PassesOwn renaming never->RW
open Option.some renaming inj->R6,injEq->Xk
open PySem.Str renaming empty->R7,ofString->Ug
open List renaming range->R8,replicate->Se,Nodup->Sz,length->TF,lookup->Ub,length_filterMap_le->Vn,getElem?_replicate->Vr,getElem?_cons_zero->Vu,filter_cons_of_neg->Vy,filter_cons_of_pos->Vz,drop_of_length_le->VR,getElem?_toArray->VZ,getElem?_set_ne->V2,getElem_of_mem->Ww,take_succ_cons->Wx,getElem?_drop->WY,findIdx?_cons->W3,take_sublist->Xg,flatMap_nil->XA,mem_reverse->XB,take_append->XC,take_left'->XY,foldl->X8
open PySem.Value renaming ref->Sd,type->Tj,int->TL,none->UH,str->Wj,isStrOf_shape->Ws,isStrOf->Wy,bool->WK,isInt_shape->Xa,isInt->XD,float->XE
open PySem.Builtin.Tuple renaming tupleExact->Ss,tupleItemsOf->U9
open PySem.Around renaming under_plainId->Sv,under->Xd
open PySem.Builtin.Slice renaming slicePlaces->Sw,sliceApplied->Tx,sliceAdjust->Uh,sliceFields->Vd
open PySem.Builtin.Range renaming rangeSize->SE,small->UX,rangeFitsLong->U1
open PySem.Builtin renaming bitOr->SF
open PySem.NameKind renaming cell->SG,free->SW
open List.Perm renaming append_left->SM,append_right->T2,flatMap_right->VC,refl->We,cons->Yp
open False renaming elim->SO
open PySem.Builtin.Str renaming occurrences->SQ,strKind->Wv
open PySem.PyData renaming canLayAll0->SY,depthAll->Tp,strOk->Tv,canLay0->UC,depth->U2,eqv->WZ,int->Yr,str->Ys
open PySem.SeqAt renaming shaped->Td,EqAt->VN
open PySem.Obj renaming mapSeq->To,putSet->Yh
open PyProof.Rows.F renaming plain_set_update_loop->Ts,entry_set_update_loop->Uk
open PySem.BindsTo renaming of_defaults->Tt
open Option renaming none->TH,isSome_some->WX,getD_none->Xw,some->YH,none->YI
open PySem.Builtin.List renaming listTooLong->TK,listExtendWith->T9,listSameRef->Vo
open PySem.F renaming plain_list_iadd->TU,plainAttrs_list->Uv,entry_proto_collect->UZ,plain_proto_collect->U0,slot_dict_clear->Vs,entry_list_iadd->Vx,plain_set_new->VX,slot_set_iter->VY,slot_dict_eq->V9,slot_int_rmul->XQ
open PySem.Heap.SameBut renaming update->Uj
open Array.Perm renaming refl->Ur
open PySem.Builtin.Dict renaming samePairs->Ux,dictSlotArgs->Ve,updateFrom->Vt,pairItems->VP,showsAll->VW
open ForInStep renaming yield->UT
open Prod renaming ext->U4
open PySem.Calls renaming Name_function_global->U6,call_function_entry->Vf,callWith_builtin->VO,spliced_cons->WN,spliced_nil->Xf
open Array renaming toList_setIfInBounds->Vb,getElem?_eq_none->VQ,reverse_reverse->V0,toArray_toList->V8,reverse_append->Wg,reverse_push->W7,size_extract->W8,size_append->Xl,size_map->Yq
open List.Sublist renaming nodup->Vc,map->VB
open Prod.mk renaming inj->Vg
open PySem.SetTable renaming below->Wb
open PySem.Data renaming cell->Wm,fields->XI
open PySem.Shared renaming TypeIs->WD
open PySem.SeqAt.EqAt renaming int_str->WI,str_int->WJ,int_int->WV,str_str->WW
open PySem.Heap.IsSliceOf renaming new->WT
open PyProof.Rows.SortSt renaming mk'->W6
open PySem.Code renaming isFrame->Xe
open List.Pairwise renaming nil->Xj
open PySem.pickOrder renaming go->Xm
open Function renaming comp_def->Xo
open PySem.Heap.DictOf renaming new->XR
open PySem.Walks renaming strAscii->Yd
open Int renaming mul_nonneg->Yt
local macro_rules|`(())=>`(by first|lia|omega)
local macro_rules|`(∅)=>`(by decide)
open List renaming length_append->OX,mem_singleton->OY,length_map->OZ,mem_cons->O2,length_singleton->O3,mem_append->O5,length_cons->O6,getElem?_eq_getElem->O7,mem_cons_of_mem->O8,mem_cons_self->O9,mem_map->Pb,mem_append_right->Pc,mem_append_left->Ph,mem_of_getElem?->Pj,getElem?_map->Pk,getElem?_eq_some_iff->Pl,map_cons->Pm,append_assoc->Pn,not_mem_nil->Po,size_toArray->Pp,append_nil->Pu,getElem?_of_mem->Py,nil_append->Pz,map_append->PB,getD_eq_getElem?_getD->PD,take_length->PM,take_append_drop->PQ,getElem?_append_right->PU,length_take->PV,mem_filter->PX,getElem?_append_left->PY,cons_append->PZ,mem_map_of_mem->P0,nodup_cons->P1,length_nil->P2,take_add_one->P4,flatMap_cons->P5,take_of_length_le->P6,filter_append->P8,foldl_cons->P9,mem_flatMap->Qb,length_filter_le->Qd,getElem?_eq_none->Qe,find?_cons->Qf,length_range->Qi,flatMap_append->Qj,perm_append_comm->Qk,filter_cons->Qm,mem_of_mem_take->Qo,nodup_append->Qp,filterMap_cons->Qr,length_drop->Qu,of_mem_zip->Qx,filter_nil->Qz,replicate_succ->QA,lookup_cons->QD,map_map->QE,length_replicate->QF,pairwise_map->QG,drop_eq_getElem_cons->QH,getElem?_range->QL,length_zip->QN,take_append_of_le_length->QP,dropLast_concat_getLast->QV,all_eq_true->QW,mem_of_mem_drop->QX,sum_cons->QY,map_congr_left->Q0,getElem?_eq_none_iff->Q1,getElem?_take_of_lt->Q6,nodup_nil->Q7,length_eq_zero_iff->Q8,flatten_cons->Q9,ext_getElem?->Ra,getElem?_set_self->Rb,any_cons->Rc,any_eq_true->Rh,set_append_right->Ri,filter_sublist->Rj,map_take->Rp,foldl_append->Rr,getElem_inj->Rt,getElem_mem->Rv,range_succ->Ry,mem_range->Rz,take_zero->RB,take_add->RE,map_nil->RG
open Nat renaming le_refl->O4,zero_le->Pd,le_trans->Pf,ne_of_lt->Pw,lt_of_lt_of_le->Px,lt_succ_of_lt->Qh,le_add_right->Ql,sub_self->Qn,lt_irrefl->Qt,ne_of_gt->Qv,le_succ->QI,le_of_lt->QJ,lt_succ_self->QK,add_sub_cancel_left->QM,le_succ_of_le->QT,le_of_eq->QU,add_assoc->Rf,lt_of_le_of_lt->Rm,lt_trans->Ru,succ_le_succ->Rx,not_lt->RC
open Bool renaming false_ne_true->Pa,false_eq_true->P7,eq_iff_iff->Qw,and_eq_true->QB,eq_false_iff->QQ,false_or->Ro,true_and->RD
open Or renaming inl->Pg,inr->Qs
open Sum renaming inr->Pq,inl->Rk
open Ne renaming symm->Pr
open Array renaming toList_append->PC,length_toList->PH,getElem?_toList->Qc,toList_push->QS,perm_iff_toList_perm->QZ,getElem?_eq_getElem->Q4,mk->Rg
open True renaming intro->Qg
open Option renaming map_some->Qq,isSome_iff_exists->Qy,map_eq_some_iff->QO,isNone_iff_eq_none->Q5,isSome_map->Rq
open Int renaming toNat_natCast->QR,le_refl->Rl,mul_le_mul->RA,add_assoc->RF,zero_add->RH
set_option Elab.async false
set_option linter.all false
set_option maxRecDepth 100000
namespace Hd
open PySem PySem.W PySem.Calls PyProof.Rows
noncomputable def lE(tb:String->Option T8)(p:Program)(w:R5)(n₀:Nat)(ann:Option RI):Nat->SharedT->Thread->Option SharedT
 |0,_,_=>YI
 |n+1,s,t=>match through t with
  |true=>YH s
  |false=>match stepOk n₀ ann t with
   |false=>YI
   |true=>match stepT (denote tb) p w s t with
    |some (s',t')=>lE tb p w n₀ ann n s' t'
    |none=>YI
theorem GR{tb:String->Option T8}{p:Program}{w:R5}{n₀:Nat}{ann:Option RI}:∀{n:Nat}{s s':SharedT}{t:Thread},
  lE tb p w n₀ ann n s t=YH s'->topRun tb p w n₀ ann n s.abs t=YH s'.abs
 |0,_,_,_,h=>by cases h
 |n+1,s,s',t,h=>by
  unfold lE at h;unfold topRun;cases he:through t with
  |true=>rw[he]at h;cases h;rfl
  |false=>
   rw[he]at h;cases hk:stepOk n₀ ann t with
   |false=>rw[hk]at h;cases h
   |true=>
    rw[hk]at h;cases hs:stepT (denote tb) p w s t with
    |none=>rw[hs]at h;cases h
    |some r=>obtain⟨s₂,t₂⟩:=r;rw[hs]at h;rw[stepT_spec hs];exact GR h
noncomputable def MT(p q:Program)(loose:List Str)(Xt:RN->Bool){α:Type}(Yf:RN->α)(g0:Bool)(H:So)(s:RN):=
 (Yu (Sr p.main.body) H s.heap&&X0 p s.heap&&gensDone s&&laidKept H s.heap,Ul q loose (Sr p.main.body) Xt g0 s,Yf s)
noncomputable def Fy(p:Program)(H:So)(s:RN):=Yu (Sr p.main.body) H s.heap&&X0 p s.heap&&gensDone s&&laidKept H s.heap
noncomputable def treeOf:List Obj->Nat->BT->BT
 | [],_,t=>t
 |o::r,i,t=>treeOf r (i+1) (t.ins i o)
theorem Im{p q:Program}{loose:List Str}{Xt:RN->Bool}{α:Type}{Yf:RN->α}{Ya:R5->α}{N:Nat}{g0:Bool}{H₀:T6->So}{ś:Array V1}{d₀:Drawn}{k₀ m₀ n₀:Nat}{ann:Option RI}{T₀:T6->BT}{life:Life}
  (opn:∀w:R5,(fencedOpening SH p w N).map (λs=>(s.heap,s.gens,s.drawn,s.toks))=YH (H₀ w.params,ś,d₀,k₀))
  (size:∀w:R5,((H₀ w.params).isNs R9&&ś.size==0,(H₀ w.params).objs.size,(H₀ w.params).nsMap R9 "__annotations__")=(true,m₀,ann))
  (tree:∀P:T6,absHeap (T₀ P) n₀ life=H₀ P)
  (look:∀(w:R5)(os:Tu),(lE SH p w m₀ ann N ⟨T₀ w.params,n₀,life,ś,d₀,k₀,os⟩ (TY p)).map (λs=>MT p q loose Xt Yf g0 (H₀ w.params) s.abs)=YH (true,Vp q loose,Ya w)) :
  LeftO p q loose Xt Yf Ya N g0:=λw=>by
 obtain⟨⟨h,gs,d,k,os⟩,e,e'⟩:=QO.mp (opn w)
 obtain⟨rfl,rfl,rfl,rfl⟩:h=H₀ w.params/\gs=ś/\d=d₀/\k=k₀:=by simpa using e'
 obtain⟨z1,z2,z3⟩:_/\_/\_:=by simpa only[Prod.mk.injEq] using size w
 obtain⟨s,hs,hl⟩:=QO.mp (look w os)
 obtain⟨l1,l23⟩:=Vg hl
 obtain⟨l2,l3⟩:=Vg l23
 have r:=GR hs
 have t:topFrom SH p w N ⟨H₀ w.params,gs,d,k,os⟩=YH s.abs:=by
  unfold topFrom;dsimp only;rw[z1,z2,z3];unfold SharedT.abs at r;dsimp only at r;rw[tree w.params]at r;show(topRun SH p w m₀ ann N ⟨H₀ w.params,gs,d,k,os⟩ (TY p)).bind _=_;rw[r];show(match Yu (Sr p.main.body) (H₀ w.params) s.abs.heap&&X0 p s.abs.heap&&gensDone s.abs&&laidKept (H₀ w.params) s.abs.heap with|true=>_|false=>_)=_;rw[l1];rfl
 unfold openEnds
 rw[e]
 show(topFrom SH p w N _).map _=_
 rw[t]
 exact congrArg YH (U4 l2 l3)
theorem Ei{p q:Program}{loose:List Str}{Xt:RN->Bool}{α:Type}{Yf:RN->α}{Ya:R5->α}{N:Nat}{g0:Bool}{H₀:T6->So}{ś:Array V1}{d₀:Drawn}{k₀ m₀ n₀:Nat}{ann:Option RI}{T₀:T6->BT}{life:Life}
  (opn:∀w:R5,(fencedOpening SH p w N).map (λs=>(s.heap,s.gens,s.drawn,s.toks))=YH (H₀ w.params,ś,d₀,k₀))
  (size:∀w:R5,((H₀ w.params).isNs R9&&ś.size==0,(H₀ w.params).objs.size,(H₀ w.params).nsMap R9 "__annotations__")=(true,m₀,ann))
  (tree:∀P:T6,absHeap (T₀ P) n₀ life=H₀ P)
  (look1:∀(w:R5)(os:Tu),(lE SH p w m₀ ann N ⟨T₀ w.params,n₀,life,ś,d₀,k₀,os⟩ (TY p)).map (λs=>Fy p (H₀ w.params) s.abs)=YH true)
  (look3:∀(w:R5)(os:Tu),(lE SH p w m₀ ann N ⟨T₀ w.params,n₀,life,ś,d₀,k₀,os⟩ (TY p)).map (λs=>(Ul q loose (Sr p.main.body) Xt g0 s.abs).1)=YH (Vp q loose).1)
  (look7:∀(w:R5)(os:Tu),(lE SH p w m₀ ann N ⟨T₀ w.params,n₀,life,ś,d₀,k₀,os⟩ (TY p)).map (λs=>(Ul q loose (Sr p.main.body) Xt g0 s.abs).2.1)=YH (Vp q loose).2.1)
  (look5:∀(w:R5)(os:Tu),(lE SH p w m₀ ann N ⟨T₀ w.params,n₀,life,ś,d₀,k₀,os⟩ (TY p)).map (λs=>(Ul q loose (Sr p.main.body) Xt g0 s.abs).2.2.1)=YH true)
  (look6:∀(w:R5)(os:Tu),(lE SH p w m₀ ann N ⟨T₀ w.params,n₀,life,ś,d₀,k₀,os⟩ (TY p)).map (λs=>(Ul q loose (Sr p.main.body) Xt g0 s.abs).2.2.2.1)=YH true)
  (look4:∀(w:R5)(os:Tu),(lE SH p w m₀ ann N ⟨T₀ w.params,n₀,life,ś,d₀,k₀,os⟩ (TY p)).map (λs=>(Ul q loose (Sr p.main.body) Xt g0 s.abs).2.2.2.2)=YH (Vp q loose).2.2.2.2)
  (look2:∀(w:R5)(os:Tu),(lE SH p w m₀ ann N ⟨T₀ w.params,n₀,life,ś,d₀,k₀,os⟩ (TY p)).map (λs=>Yf s.abs)=YH (Ya w)) :
  LeftO p q loose Xt Yf Ya N g0:=Im opn size tree λw os=>by
 obtain⟨s,hs,h1⟩:=QO.mp (look1 w os)
 have h2:=look2 w os
 have h3:=look3 w os
 have h4:=look4 w os
 have h5:=look5 w os
 have h6:=look6 w os
 have h7:=look7 w os
 rw[hs]at h2 h3 h4 h5 h6 h7⊢
 exact congrArg YH (U4 h1 (U4 (U4 (R6 h3) (U4 (R6 h7) (U4 (R6 h5) (U4 (R6 h6) (R6 h4))))) (R6 h2)))
end Hd
namespace L2
open PySem PySem.Spec PyProof.Rows
noncomputable def YL(s:Si)(j:Nat):Si:=match s with
 | .ClassDef _ _ _ body _ _ _ _ _ _ _=>body.getD j (.Pass ⟨0,0,0,0⟩)
 |_=>.Pass ⟨0,0,0,0⟩
noncomputable def bG(s:Si):Arguments:=match s with
 | .FunctionDef _ a _ _ _ _ _ _ _ _=>a
 |_=>{ posonlyargs:=[],args:=[],vararg:=YI,kwonlyargs:=[],kw_defaults:=[],kwarg:=YI,defaults:=[] }
noncomputable def bp(s:Si):List Si:=match s with
 | .FunctionDef _ _ b _ _ _ _ _ _ _=>b
 |_=>[]
noncomputable def aq(s:Si):U5:=match s with
 | .FunctionDef _ _ _ _ _ _ sc _ _ _=>sc
 |_=>{ kind:=.function,names:=[],isGenerator:=false,isCoroutine:=false }
end L2
namespace K34
open PySem
noncomputable def top(i:Nat):Si:=PySem.Challenge.pw_hushrow_k34_table.main.body.getD i (.Pass ⟨0,0,0,0⟩)
end K34
set_option genSizeOf false
set_option bootstrap.genMatcherCode false
set_option compiler.extract_closed false
set_option maxHeartbeats 0
namespace K34
open PySem L2 PySem.W
noncomputable abbrev Ey(P:T6)(x:Str)(t:Nat)(v:RI):Yv:=⟨PyData.keyHash P x,.str x t,v⟩
noncomputable abbrev FL(P:T6)(a:Nat)(l:Int)(b:Nat):=Ey P "__firstlineno__" a (.int l b)
noncomputable abbrev SA(P:T6)(a b:Nat):=Ey P "__static_attributes__" a (.ref b)
noncomputable abbrev DO(P:T6)(a:Nat):=Ey P "__doc__" a .none
noncomputable abbrev Ŗ(P:T6)(a:Nat):=Ey P "__module__" a (.str "hushrow.rows" 222)
noncomputable abbrev ER(P:T6)(x:Str)(a b:Nat):=Ey P x a (.ref b)
noncomputable abbrev DI(x:Array Yv)(n:Nat):Obj:={.type "dict",YI,.dict x n,#[]}
noncomputable abbrev WR(x:Str)(a b:Nat)(y:String):Obj:={.type "getset_descriptor",YI,.fields #[.str x a,.ref b,.builtin y,.none],#[]}
noncomputable abbrev CX(n:Str)(a c:Nat)(bs m s:List RI)(d:Option RI)(u v:Nat)(w:String):Obj:={.type "type",YI,.cls { name:=n,bases:=bs,mro:=.ref a::m,ns:=c,qualname:=n,hasDict:=true,slotNames:=[],subclasses:=s,abstract:=false,collection:=YI,hasDel:=false },#[d,YI,YH (.str n u),YH (.str n v),YH (.builtin w),YH (.bool true)]}
noncomputable abbrev CO(n q:Str)(t:Nat)(l a:Int)(r:Nat)(m:Nat):Obj:={.type "code",YI,.fields #[.str n t,.str q (t+1),.str "/claim/cut.py" (t+2),.int l 0,.int a 0,.int 0 0,.int 0 0,.int 3 0,.ref r,.bool true,.int 181 0,.ref (r+1),.none,.ref (r+2),.ref (r+3),.ref (r+4),.int m 0,.int l 0,.str "/claim/cut.py" (m+1)],#[]}
noncomputable abbrev FU(n q:Str)(s:Si)(m:Str)(t c:Nat):Obj:={.type "function",YI,.func (Te n q (bG s) (bp s) (aq s) .none .none .none (.str m t) YI (.ref c) .none),#[]}
noncomputable abbrev FD(n q:Str)(s:Si)(d:Nat)(m:Str)(t c:Nat):Obj:={.type "function",YI,.func (Te n q (bG s) (bp s) (aq s) (.ref d) .none .none (.str m t) YI (.ref c) .none),#[]}
noncomputable abbrev F7T(x:Str)(i c:Nat):=FU x x (top i) "hushrow.costs" 841 c
noncomputable abbrev F8T(x:Str)(i c:Nat):=FU x x (top i) "hushrow.places" 905 c
noncomputable abbrev F9T(x:Str)(i c:Nat):=FU x x (top i) "hushrow.links" 973 c
noncomputable abbrev HW(x:Str)(i c:Nat):=FU x x (top i) "hushrow.reach" 1029 c
noncomputable abbrev gz(x:Str)(i c:Nat):=FU x x (top i) "law_hushrow_k34_table" 1070 c
noncomputable abbrev kQ(x y:Str)(i j c:Nat):=FU x y (YL (top i) j) "hushrow.rows" 222 c
noncomputable def ô(P:T6):RS:=
 (nat_lit 2,{.none,YI,.dict #[] 0,#[]})::
 (nat_lit 3,DI #[Ey P "__name__" 165 (.str "law_hushrow_k34_table" 1070),DO P 166,Ey P "__package__" 167 .none,Ey P "__loader__" 168 (.builtin "__main__.__loader__#opaque"),Ey P "__spec__" 169 .none,ER P "__annotations__" 170 6,ER P "__builtins__" 171 4,Ey P "__file__" 173 (.str "/claim/cut.py" 172),Ey P "__cached__" 174 .none,ER P "_wall" 193 21,ER P "only" 202 28,ER P "joined" 210 35,ER P "names_in" 221 42,ER P "each_once" 232 49,ER P "Row" 275 80,ER P "HandRow" 310 108,ER P "GivenRow" 347 134,ER P "OwnRow" 382 160,ER P "LetRow" 417 186,ER P "SetRow" 466 226,ER P "PutRow" 517 266,ER P "SendRow" 559 299,ER P "SayRow" 610 339,ER P "CallRow" 651 370,ER P "LastRow" 674 389,ER P "IfRow" 722 422,ER P "LoopRow" 770 455,ER P "DeedRow" 807 481,ER P "Program" 840 500,ER P "exact_of" 853 511,ER P "exact_of_row" 861 518,ER P "one_more" 868 525,ER P "exact_of_if" 878 532,ER P "exact_of_loop" 887 539,ER P "balanced" 895 546,ER P "exacts" 904 553,Ey P "CLOCK" 908 (.str "the clock" 907),ER P "row_place" 915 560,ER P "laid_rows" 926 567,ER P "laid_inside" 935 574,ER P "laid_program" 944 581,ER P "is_place" 951 588,ER P "head_places" 960 595,ER P "places" 972 602,ER P "drawn" 980 607,ER P "row_links" 991 614,ER P "said_links" 1000 621,ER P "called_links" 1013 628,ER P "step_links" 1022 635,ER P "links" 1028 641,ER P "sources" 1036 646,ER P "sources_of" 1042 651,ER P "ways_of" 1048 656,ER P "arrivals" 1054 661,ER P "reached" 1063 669,ER P "table" 1069 675,ER P "_law_cell_at" 1080 682,ER P "_law_more" 1086 687,ER P "_law_mix" 1097 694,ER P "_law_names" 1103 699,ER P "_law_pick" 1111 706,ER P "_law_heads" 1117 711,ER P "_law_scope" 1127 718,ER P "_law_thing" 1135 725,ER P "_law_value" 1146 732,ER P "_law_plain" 1159 739,ER P "_law_opened" 1173 746,ER P "_law_closed" 1180 753,ER P "_law_row" 1186 758,ER P "_law_body" 1198 765,ER P "_law_flat" 1216 772,ER P "_law_row_made" 1224 779,ER P "_law_rows_made" 1238 786,ER P "_law_program" 1252 793,ER P "_law_exact" 1266 800,ER P "_law_even_row" 1280 807,ER P "_law_evened_by" 1286 812,ER P "_law_due" 1298 819,ER P "_law_table" 1308 826,ER P "_law_bare" 1318 833,ER P "law" 1334 840] 81)::
 (nat_lit 27,CO "only" "only" 196 5 1 22 200)::
 (nat_lit 28,FU "only" "only" (top 2) "hushrow.ranks" 194 27)::
 (nat_lit 34,CO "joined" "joined" 203 7 2 29 208)::
 (nat_lit 35,FU "joined" "joined" (top 3) "hushrow.ranks" 194 34)::
 (nat_lit 41,CO "names_in" "names_in" 213 10 1 36 219)::
 (nat_lit 42,FU "names_in" "names_in" (top 5) "hushrow.things" 211 41)::
 (nat_lit 48,CO "each_once" "each_once" 224 17 1 43 230)::
 (nat_lit 49,FU "each_once" "each_once" (top 7) "hushrow.rows" 222 48)::
 (nat_lit 62,CO "__init__" "Row.__init__" 245 25 2 57 250)::
 (nat_lit 63,kQ "__init__" "Row.__init__" 8 0 62)::
 (nat_lit 79,DI #[Ŗ P 240,FL P 244 23 243,ER P "__init__" 252 63,ER P "reads" 259 70,ER P "target" 266 77,SA P 268 78,ER P "__dict__" 270 81,ER P "__weakref__" 272 82,DO P 273] 4)::
 (nat_lit 80,CX "Row" 80 79 [.type "object"] [.type "object"] [.ref 108,.ref 134,.ref 160,.ref 186,.ref 226,.ref 266,.ref 299,.ref 339,.ref 370,.ref 389,.ref 422,.ref 455,.ref 481] YI 233 241 "object.__new__")::
 (nat_lit 81,{(.type "getset_descriptor"),YI,.fields #[(.str "__dict__" 269),(.ref 80),(.builtin "function.__dict__"),(.builtin "function.__dict__#set")],#[]})::
 (nat_lit 82,WR "__weakref__" 271 80 "ExceptionGroup.__weakref__")::
 (nat_lit 97,CO "__init__" "HandRow.__init__" 288 35 4 92 295)::
 (nat_lit 98,kQ "__init__" "HandRow.__init__" 9 0 97)::
 (nat_lit 107,DI #[Ŗ P 283,FL P 287 33 286,ER P "__init__" 297 98,ER P "shown" 304 105,SA P 307 106,DO P 308] 2)::
 (nat_lit 108,CX "HandRow" 108 107 [.ref 80] [.ref 80,.type "object"] [] (YH (.ref 85)) 276 284 "object.__new__")::
 (nat_lit 123,CO "__init__" "GivenRow.__init__" 323 44 5 118 331)::
 (nat_lit 124,kQ "__init__" "GivenRow.__init__" 10 0 123)::
 (nat_lit 133,DI #[Ŗ P 318,FL P 322 42 321,ER P "__init__" 333 124,ER P "shown" 340 131,SA P 344 132,DO P 345] 2)::
 (nat_lit 134,CX "GivenRow" 134 133 [.ref 80] [.ref 80,.type "object"] [] (YH (.ref 111)) 311 319 "object.__new__")::
 (nat_lit 149,CO "__init__" "OwnRow.__init__" 360 54 4 144 367)::
 (nat_lit 150,kQ "__init__" "OwnRow.__init__" 11 0 149)::
 (nat_lit 159,DI #[Ŗ P 355,FL P 359 52 358,ER P "__init__" 369 150,ER P "shown" 376 157,SA P 379 158,DO P 380] 2)::
 (nat_lit 160,CX "OwnRow" 160 159 [.ref 80] [.ref 80,.type "object"] [] (YH (.ref 137)) 348 356 "object.__new__")::
 (nat_lit 175,CO "__init__" "LetRow.__init__" 395 63 4 170 402)::
 (nat_lit 176,kQ "__init__" "LetRow.__init__" 12 0 175)::
 (nat_lit 185,DI #[Ŗ P 390,FL P 394 61 393,ER P "__init__" 404 176,ER P "shown" 411 183,SA P 414 184,DO P 415] 2)::
 (nat_lit 186,CX "LetRow" 186 185 [.ref 80] [.ref 80,.type "object"] [] (YH (.ref 163)) 383 391 "object.__new__")::
 (nat_lit 201,CO "__init__" "SetRow.__init__" 430 72 4 196 437)::
 (nat_lit 202,kQ "__init__" "SetRow.__init__" 13 0 201)::
 (nat_lit 215,CO "reads" "SetRow.reads" 447 80 1 210 451)::
 (nat_lit 216,kQ "reads" "SetRow.reads" 13 2 215)::
 (nat_lit 225,DI #[Ŗ P 425,FL P 429 70 428,ER P "__init__" 439 202,ER P "shown" 446 209,ER P "reads" 453 216,ER P "target" 460 223,SA P 463 224,DO P 464] 2)::
 (nat_lit 226,CX "SetRow" 226 225 [.ref 80] [.ref 80,.type "object"] [] (YH (.ref 189)) 418 426 "object.__new__")::
 (nat_lit 241,CO "__init__" "PutRow.__init__" 479 87 5 236 487)::
 (nat_lit 242,kQ "__init__" "PutRow.__init__" 14 0 241)::
 (nat_lit 255,CO "reads" "PutRow.reads" 497 96 1 250 501)::
 (nat_lit 256,kQ "reads" "PutRow.reads" 14 2 255)::
 (nat_lit 265,DI #[Ŗ P 474,FL P 478 85 477,ER P "__init__" 489 242,ER P "shown" 496 249,ER P "reads" 503 256,ER P "target" 510 263,SA P 514 264,DO P 515] 2)::
 (nat_lit 266,CX "PutRow" 266 265 [.ref 80] [.ref 80,.type "object"] [] (YH (.ref 229)) 467 475 "object.__new__")::
 (nat_lit 281,CO "__init__" "SendRow.__init__" 530 103 4 276 537)::
 (nat_lit 282,kQ "__init__" "SendRow.__init__" 15 0 281)::
 (nat_lit 295,CO "reads" "SendRow.reads" 547 111 1 290 551)::
 (nat_lit 296,kQ "reads" "SendRow.reads" 15 2 295)::
 (nat_lit 298,DI #[Ŗ P 525,FL P 529 101 528,ER P "__init__" 539 282,ER P "shown" 546 289,ER P "reads" 553 296,SA P 556 297,DO P 557] 2)::
 (nat_lit 299,CX "SendRow" 299 298 [.ref 80] [.ref 80,.type "object"] [] (YH (.ref 269)) 518 526 "object.__new__")::
 (nat_lit 314,CO "__init__" "SayRow.__init__" 572 115 5 309 580)::
 (nat_lit 315,kQ "__init__" "SayRow.__init__" 16 0 314)::
 (nat_lit 338,DI #[Ŗ P 567,FL P 571 113 570,ER P "__init__" 582 315,ER P "shown" 589 322,ER P "reads" 596 329,ER P "target" 603 336,SA P 607 337,DO P 608] 2)::
 (nat_lit 339,CX "SayRow" 339 338 [.ref 80] [.ref 80,.type "object"] [] (YH (.ref 302)) 560 568 "object.__new__")::
 (nat_lit 354,CO "__init__" "CallRow.__init__" 623 131 4 349 630)::
 (nat_lit 355,kQ "__init__" "CallRow.__init__" 17 0 354)::
 (nat_lit 369,DI #[Ŗ P 618,FL P 622 129 621,ER P "__init__" 632 355,ER P "shown" 639 362,ER P "reads" 645 367,SA P 648 368,DO P 649] 2)::
 (nat_lit 370,CX "CallRow" 370 369 [.ref 80] [.ref 80,.type "object"] [] (YH (.ref 342)) 611 619 "object.__new__")::
 (nat_lit 388,DI #[Ŗ P 659,FL P 663 141 662,ER P "shown" 670 386,SA P 671 387,DO P 672] 2)::
 (nat_lit 389,CX "LastRow" 389 388 [.ref 80] [.ref 80,.type "object"] [] (YH (.ref 373)) 652 660 "object.__new__")::
 (nat_lit 404,CO "__init__" "IfRow.__init__" 687 147 7 399 697)::
 (nat_lit 405,kQ "__init__" "IfRow.__init__" 19 0 404)::
 (nat_lit 418,CO "reads" "IfRow.reads" 707 158 1 413 711)::
 (nat_lit 419,kQ "reads" "IfRow.reads" 19 2 418)::
 (nat_lit 421,DI #[Ŗ P 682,FL P 686 145 685,ER P "__init__" 699 405,ER P "shown" 706 412,ER P "reads" 713 419,SA P 719 420,DO P 720] 2)::
 (nat_lit 422,CX "IfRow" 422 421 [.ref 80] [.ref 80,.type "object"] [] (YH (.ref 392)) 675 683 "object.__new__")::
 (nat_lit 437,CO "__init__" "LoopRow.__init__" 735 162 7 432 745)::
 (nat_lit 438,kQ "__init__" "LoopRow.__init__" 20 0 437)::
 (nat_lit 451,CO "reads" "LoopRow.reads" 755 173 1 446 759)::
 (nat_lit 452,kQ "reads" "LoopRow.reads" 20 2 451)::
 (nat_lit 454,DI #[Ŗ P 730,FL P 734 160 733,ER P "__init__" 747 438,ER P "shown" 754 445,ER P "reads" 761 452,SA P 767 453,DO P 768] 2)::
 (nat_lit 455,CX "LoopRow" 455 454 [.ref 80] [.ref 80,.type "object"] [] (YH (.ref 425)) 723 731 "object.__new__")::
 (nat_lit 470,CO "__init__" "DeedRow.__init__" 783 177 5 465 791)::
 (nat_lit 471,kQ "__init__" "DeedRow.__init__" 21 0 470)::
 (nat_lit 480,DI #[Ŗ P 778,FL P 782 175 781,ER P "__init__" 793 471,ER P "shown" 800 478,SA P 804 479,DO P 805] 2)::
 (nat_lit 481,CX "DeedRow" 481 480 [.ref 80] [.ref 80,.type "object"] [] (YH (.ref 458)) 771 779 "object.__new__")::
 (nat_lit 496,CO "__init__" "Program.__init__" 820 187 4 491 827)::
 (nat_lit 497,kQ "__init__" "Program.__init__" 22 0 496)::
 (nat_lit 499,DI #[Ŗ P 815,FL P 819 185 818,ER P "__init__" 829 497,SA P 833 498,ER P "__dict__" 835 501,ER P "__weakref__" 837 502,DO P 838] 4)::
 (nat_lit 500,CX "Program" 500 499 [.type "object"] [.type "object"] [] YI 808 816 "object.__new__")::
 (nat_lit 501,{(.type "getset_descriptor"),YI,.fields #[(.str "__dict__" 834),(.ref 500),(.builtin "function.__dict__"),(.builtin "function.__dict__#set")],#[]})::
 (nat_lit 502,WR "__weakref__" 836 500 "ExceptionGroup.__weakref__")::
 (nat_lit 510,CO "exact_of" "exact_of" 843 192 2 505 851)::
 (nat_lit 511,F7T "exact_of" 24 510)::
 (nat_lit 517,CO "exact_of_row" "exact_of_row" 854 200 2 512 859)::
 (nat_lit 518,F7T "exact_of_row" 25 517)::
 (nat_lit 524,CO "one_more" "one_more" 862 208 1 519 866)::
 (nat_lit 525,F7T "one_more" 26 524)::
 (nat_lit 531,CO "exact_of_if" "exact_of_if" 869 210 2 526 876)::
 (nat_lit 532,F7T "exact_of_if" 27 531)::
 (nat_lit 538,CO "exact_of_loop" "exact_of_loop" 879 216 2 533 885)::
 (nat_lit 539,F7T "exact_of_loop" 28 538)::
 (nat_lit 545,CO "balanced" "balanced" 888 221 2 540 893)::
 (nat_lit 546,F7T "balanced" 29 545)::
 (nat_lit 552,CO "exacts" "exacts" 896 223 1 547 902)::
 (nat_lit 553,F7T "exacts" 30 552)::
 (nat_lit 559,CO "row_place" "row_place" 909 230 1 554 913)::
 (nat_lit 560,F8T "row_place" 33 559)::
 (nat_lit 566,CO "laid_rows" "laid_rows" 916 232 3 561 924)::
 (nat_lit 567,F8T "laid_rows" 34 566)::
 (nat_lit 573,CO "laid_inside" "laid_inside" 927 238 2 568 933)::
 (nat_lit 574,F8T "laid_inside" 35 573)::
 (nat_lit 580,CO "laid_program" "laid_program" 936 245 1 575 942)::
 (nat_lit 581,F8T "laid_program" 36 580)::
 (nat_lit 587,CO "is_place" "is_place" 945 250 1 582 949)::
 (nat_lit 588,F8T "is_place" 37 587)::
 (nat_lit 594,CO "head_places" "head_places" 952 252 1 589 958)::
 (nat_lit 595,F8T "head_places" 38 594)::
 (nat_lit 601,CO "places" "places" 961 258 1 596 970)::
 (nat_lit 602,F8T "places" 39 601)::
 (nat_lit 606,{(.type "code"),YI,.fields #[(.str "drawn" 975),(.str "drawn" 976),(.str "/claim/cut.py" 977),(.int (267) 0),(.int (4) 0),(.int (0) 0),(.int (0) 0),(.int (3) 0),(.ref 603),(.bool true),(.int (181) 0),(.ref 604),.none,.none,.none,(.ref 605),(.int (978) 0),(.int (267) 0),(.str "/claim/cut.py" 979)],#[]})::
 (nat_lit 607,F9T "drawn" 41 606)::
 (nat_lit 613,CO "row_links" "row_links" 981 269 4 608 989)::
 (nat_lit 614,F9T "row_links" 42 613)::
 (nat_lit 620,CO "said_links" "said_links" 992 282 2 615 998)::
 (nat_lit 621,F9T "said_links" 43 620)::
 (nat_lit 627,CO "called_links" "called_links" 1001 286 3 622 1011)::
 (nat_lit 628,F9T "called_links" 44 627)::
 (nat_lit 634,CO "step_links" "step_links" 1014 294 2 629 1020)::
 (nat_lit 635,F9T "step_links" 45 634)::
 (nat_lit 636,{(.type "tuple"),YI,.seq #[(.bool false)] 0,#[]})::
 (nat_lit 640,{(.type "code"),YI,.fields #[(.str "links" 1023),(.str "links" 1024),(.str "/claim/cut.py" 1025),(.int (301) 0),(.int (2) 0),(.int (0) 0),(.int (0) 0),(.int (3) 0),(.ref 637),(.bool true),(.int (181) 0),(.ref 638),.none,.none,.none,(.ref 639),(.int (1026) 0),(.int (301) 0),(.str "/claim/cut.py" 1027)],#[]})::
 (nat_lit 641,FD "links" "links" (top 46) 636 "hushrow.links" 973 640)::
 (nat_lit 645,{(.type "code"),YI,.fields #[(.str "sources" 1031),(.str "sources" 1032),(.str "/claim/cut.py" 1033),(.int (311) 0),(.int (1) 0),(.int (0) 0),(.int (0) 0),(.int (3) 0),(.ref 642),(.bool true),(.int (181) 0),(.ref 643),.none,.none,.none,(.ref 644),(.int (1034) 0),(.int (311) 0),(.str "/claim/cut.py" 1035)],#[]})::
 (nat_lit 646,HW "sources" 48 645)::
 (nat_lit 650,{(.type "code"),YI,.fields #[(.str "sources_of" 1037),(.str "sources_of" 1038),(.str "/claim/cut.py" 1039),(.int (313) 0),(.int (2) 0),(.int (0) 0),(.int (0) 0),(.int (3) 0),(.ref 647),(.bool true),(.int (181) 0),(.ref 648),.none,.none,.none,(.ref 649),(.int (1040) 0),(.int (313) 0),(.str "/claim/cut.py" 1041)],#[]})::
 (nat_lit 651,HW "sources_of" 49 650)::
 (nat_lit 655,{(.type "code"),YI,.fields #[(.str "ways_of" 1043),(.str "ways_of" 1044),(.str "/claim/cut.py" 1045),(.int (315) 0),(.int (2) 0),(.int (0) 0),(.int (0) 0),(.int (3) 0),(.ref 652),(.bool true),(.int (181) 0),(.ref 653),.none,.none,.none,(.ref 654),(.int (1046) 0),(.int (315) 0),(.str "/claim/cut.py" 1047)],#[]})::
 (nat_lit 656,HW "ways_of" 50 655)::
 (nat_lit 660,{(.type "code"),YI,.fields #[(.str "arrivals" 1049),(.str "arrivals" 1050),(.str "/claim/cut.py" 1051),(.int (320) 0),(.int (2) 0),(.int (0) 0),(.int (0) 0),(.int (3) 0),(.ref 657),(.bool true),(.int (181) 0),(.ref 658),.none,.none,.none,(.ref 659),(.int (1052) 0),(.int (320) 0),(.str "/claim/cut.py" 1053)],#[]})::
 (nat_lit 661,HW "arrivals" 51 660)::
 (nat_lit 662,{(.type "tuple"),YI,.seq #[(.bool false)] 0,#[]})::
 (nat_lit 668,CO "reached" "reached" 1055 332 3 663 1061)::
 (nat_lit 669,FD "reached" "reached" (top 52) 662 "hushrow.reach" 1029 668)::
 (nat_lit 670,{(.type "tuple"),YI,.seq #[(.bool false)] 0,#[]})::
 (nat_lit 674,{(.type "code"),YI,.fields #[(.str "table" 1064),(.str "table" 1065),(.str "/claim/cut.py" 1066),(.int (334) 0),(.int (2) 0),(.int (0) 0),(.int (0) 0),(.int (3) 0),(.ref 671),(.bool true),(.int (181) 0),(.ref 672),.none,.none,.none,(.ref 673),(.int (1067) 0),(.int (334) 0),(.str "/claim/cut.py" 1068)],#[]})::
 (nat_lit 675,FD "table" "table" (top 53) 670 "hushrow.reach" 1029 674)::
 (nat_lit 681,CO "_law_cell_at" "_law_cell_at" 1072 342 2 676 1078)::
 (nat_lit 682,gz "_law_cell_at" 55 681)::
 (nat_lit 686,{(.type "code"),YI,.fields #[(.str "_law_more" 1081),(.str "_law_more" 1082),(.str "/claim/cut.py" 1083),(.int (349) 0),(.int (3) 0),(.int (0) 0),(.int (0) 0),(.int (3) 0),(.ref 683),(.bool true),(.int (181) 0),(.ref 684),.none,.none,.none,(.ref 685),(.int (1084) 0),(.int (349) 0),(.str "/claim/cut.py" 1085)],#[]})::
 (nat_lit 687,gz "_law_more" 56 686)::
 (nat_lit 693,CO "_law_mix" "_law_mix" 1087 351 2 688 1095)::
 (nat_lit 694,gz "_law_mix" 57 693)::
 (nat_lit 698,{(.type "code"),YI,.fields #[(.str "_law_names" 1098),(.str "_law_names" 1099),(.str "/claim/cut.py" 1100),(.int (360) 0),(.int (3) 0),(.int (0) 0),(.int (0) 0),(.int (3) 0),(.ref 695),(.bool true),(.int (181) 0),(.ref 696),.none,.none,.none,(.ref 697),(.int (1101) 0),(.int (360) 0),(.str "/claim/cut.py" 1102)],#[]})::
 (nat_lit 699,gz "_law_names" 58 698)::
 (nat_lit 705,CO "_law_pick" "_law_pick" 1104 376 2 700 1109)::
 (nat_lit 706,gz "_law_pick" 59 705)::
 (nat_lit 710,{(.type "code"),YI,.fields #[(.str "_law_heads" 1112),(.str "_law_heads" 1113),(.str "/claim/cut.py" 1114),(.int (378) 0),(.int (2) 0),(.int (0) 0),(.int (0) 0),(.int (3) 0),(.ref 707),(.bool true),(.int (181) 0),(.ref 708),.none,.none,.none,(.ref 709),(.int (1115) 0),(.int (378) 0),(.str "/claim/cut.py" 1116)],#[]})::
 (nat_lit 711,gz "_law_heads" 60 710)::
 (nat_lit 717,CO "_law_scope" "_law_scope" 1118 386 2 712 1125)::
 (nat_lit 718,gz "_law_scope" 61 717)::
 (nat_lit 724,CO "_law_thing" "_law_thing" 1128 391 2 719 1133)::
 (nat_lit 725,gz "_law_thing" 62 724)::
 (nat_lit 731,CO "_law_value" "_law_value" 1136 395 2 726 1144)::
 (nat_lit 732,gz "_law_value" 63 731)::
 (nat_lit 738,CO "_law_plain" "_law_plain" 1147 404 3 733 1157)::
 (nat_lit 739,gz "_law_plain" 64 738)::
 (nat_lit 745,CO "_law_opened" "_law_opened" 1160 416 4 740 1171)::
 (nat_lit 746,gz "_law_opened" 65 745)::
 (nat_lit 752,CO "_law_closed" "_law_closed" 1174 431 1 747 1178)::
 (nat_lit 753,gz "_law_closed" 66 752)::
 (nat_lit 757,{(.type "code"),YI,.fields #[(.str "_law_row" 1181),(.str "_law_row" 1182),(.str "/claim/cut.py" 1183),(.int (438) 0),(.int (3) 0),(.int (0) 0),(.int (0) 0),(.int (3) 0),(.ref 754),(.bool true),(.int (181) 0),(.ref 755),.none,.none,.none,(.ref 756),(.int (1184) 0),(.int (438) 0),(.str "/claim/cut.py" 1185)],#[]})::
 (nat_lit 758,gz "_law_row" 67 757)::
 (nat_lit 764,CO "_law_body" "_law_body" 1187 453 4 759 1196)::
 (nat_lit 765,gz "_law_body" 68 764)::
 (nat_lit 771,CO "_law_flat" "_law_flat" 1199 461 2 766 1214)::
 (nat_lit 772,gz "_law_flat" 69 771)::
 (nat_lit 778,CO "_law_row_made" "_law_row_made" 1217 478 2 773 1222)::
 (nat_lit 779,gz "_law_row_made" 70 778)::
 (nat_lit 785,CO "_law_rows_made" "_law_rows_made" 1225 498 2 780 1236)::
 (nat_lit 786,gz "_law_rows_made" 71 785)::
 (nat_lit 792,CO "_law_program" "_law_program" 1239 514 1 787 1250)::
 (nat_lit 793,gz "_law_program" 72 792)::
 (nat_lit 799,CO "_law_exact" "_law_exact" 1253 528 3 794 1264)::
 (nat_lit 800,gz "_law_exact" 73 799)::
 (nat_lit 806,CO "_law_even_row" "_law_even_row" 1267 552 3 801 1278)::
 (nat_lit 807,gz "_law_even_row" 74 806)::
 (nat_lit 811,{(.type "code"),YI,.fields #[(.str "_law_evened_by" 1281),(.str "_law_evened_by" 1282),(.str "/claim/cut.py" 1283),(.int (565) 0),(.int (2) 0),(.int (0) 0),(.int (0) 0),(.int (3) 0),(.ref 808),(.bool true),(.int (181) 0),(.ref 809),.none,.none,.none,(.ref 810),(.int (1284) 0),(.int (565) 0),(.str "/claim/cut.py" 1285)],#[]})::
 (nat_lit 812,gz "_law_evened_by" 75 811)::
 (nat_lit 818,CO "_law_due" "_law_due" 1287 577 3 813 1296)::
 (nat_lit 819,gz "_law_due" 76 818)::
 (nat_lit 825,CO "_law_table" "_law_table" 1299 586 2 820 1306)::
 (nat_lit 826,gz "_law_table" 77 825)::
 (nat_lit 832,CO "_law_bare" "_law_bare" 1309 596 1 827 1316)::
 (nat_lit 833,gz "_law_bare" 78 832)::
 (nat_lit 839,CO "law" "law" 1319 603 1 834 1332)::
 (nat_lit 840,gz "law" 79 839)::[]
noncomputable def qU:List RJ:=[2,3,27,28,34,35,41,42,48,49,62,63,79,80,81,82,97,98,107,108,123,124,133,134,149,150,159,160,175,176,185,186,201,202,215,216,225,226,241,242,255,256,265,266,281,282,295,296,298,299,314,315,338,339,354,355,369,370,388,389,404,405,418,419,421,422,437,438,451,452,454,455,470,471,480,481,496,497,499,500,501,502,510,511,517,518,524,525,531,532,538,539,545,546,552,553,559,560,566,567,573,574,580,581,587,588,594,595,601,602,606,607,613,614,620,621,627,628,634,635,636,640,641,645,646,650,651,655,656,660,661,662,668,669,670,674,675,681,682,686,687,693,694,698,699,705,706,710,711,717,718,724,725,731,732,738,739,745,746,752,753,757,758,764,765,771,772,778,779,785,786,792,793,799,800,806,807,811,812,818,819,825,826,832,833,839,840]
theorem j7(P:T6):qU=(ô P).map (·.1):=by kernel_rfl
noncomputable abbrev prog:Program:=PySem.Challenge.pw_hushrow_k34_table
noncomputable abbrev law:Xp:=PySem.Challenge.rw_hushrow_k34_table
noncomputable def gF:Program:={ prog with main:={ prog.main with body:=[top 0,top 2,top 3,top 5,top 7,top 8,top 9,top 10,top 11,top 12,top 13,top 14,top 15,top 16,top 17,top 18,top 19,top 20,top 21,top 22,top 24,top 25,top 26,top 27,top 28,top 29,top 30,top 32,top 33,top 34,top 35,top 36,top 37,top 38,top 39,top 41,top 42,top 43,top 44,top 45,top 48,top 49,top 50,top 51,top 55,top 56,top 57,top 58,top 59,top 60,top 61,top 62,top 63,top 64,top 65,top 66,top 67,top 68,top 69,top 70,top 71,top 72,top 73,top 74,top 75,top 76,top 77,top 78,top 79] } }
noncomputable abbrev hook:W.Hook:=W9 ô qU j7
noncomputable abbrev test:RN->Bool:=λs=>xlAt gF [] s&&recOk (RowW.records law.row.toRowW) s
noncomputable abbrev MU:RN->List (Option Obj):=λs=>qU.map s.heap.get?
noncomputable abbrev Oz:R5->List (Option Obj):=λw=>(ô w.params).map λp=>YH p.2
noncomputable def T₀(P:T6):BT:=Hd.treeOf (Vq P).objs.toList 0 .nil
noncomputable def lookL(w:R5)(os:Tu):=(Hd.lE SH prog w 11 (YH (.ref 6)) 12610 {T₀ w.params,11,{},Rg [],UG,U3,os} (TY prog)).map λs=>Hd.Fy prog (Vq w.params) s.abs
noncomputable def lookO(w:R5)(os:Tu):=(Hd.lE SH prog w 11 (YH (.ref 6)) 12610 {T₀ w.params,11,{},Rg [],UG,U3,os} (TY prog)).map λs=>(Ul gF ["links","reached","table"] (Sr prog.main.body) test true s.abs).1
noncomputable def lookY(w:R5)(os:Tu):=(Hd.lE SH prog w 11 (YH (.ref 6)) 12610 {T₀ w.params,11,{},Rg [],UG,U3,os} (TY prog)).map λs=>(Ul gF ["links","reached","table"] (Sr prog.main.body) test true s.abs).2.1
noncomputable def lookW(w:R5)(os:Tu):=(Hd.lE SH prog w 11 (YH (.ref 6)) 12610 {T₀ w.params,11,{},Rg [],UG,U3,os} (TY prog)).map λs=>(Ul gF ["links","reached","table"] (Sr prog.main.body) test true s.abs).2.2.1
noncomputable def lookX(w:R5)(os:Tu):=(Hd.lE SH prog w 11 (YH (.ref 6)) 12610 {T₀ w.params,11,{},Rg [],UG,U3,os} (TY prog)).map λs=>(Ul gF ["links","reached","table"] (Sr prog.main.body) test true s.abs).2.2.2.1
noncomputable def lookU(w:R5)(os:Tu):=(Hd.lE SH prog w 11 (YH (.ref 6)) 12610 {T₀ w.params,11,{},Rg [],UG,U3,os} (TY prog)).map λs=>(Ul gF ["links","reached","table"] (Sr prog.main.body) test true s.abs).2.2.2.2
noncomputable def lookM(w:R5)(os:Tu):=(Hd.lE SH prog w 11 (YH (.ref 6)) 12610 {T₀ w.params,11,{},Rg [],UG,U3,os} (TY prog)).map λs=>MU s.abs
noncomputable def lookS(w:R5)(os:Tu):=YH (Oz w)
noncomputable def vN(w:R5)(os:Tu):=YH true
noncomputable def lookQ(w:R5)(os:Tu):=YH (Vp gF ["links","reached","table"]).1
noncomputable def lookB(w:R5)(os:Tu):=YH (Vp gF ["links","reached","table"]).2.1
noncomputable def lookV(w:R5)(os:Tu):=YH (Vp gF ["links","reached","table"]).2.2.2.2
theorem lookQ_self:lookQ=lookQ:=rfl
theorem lookB_self:lookB=lookB:=rfl
theorem lookV_self:lookV=lookV:=rfl
theorem lookL_self:lookL=lookL:=rfl
theorem lookO_self:lookO=lookO:=rfl
theorem lookY_self:lookY=lookY:=rfl
theorem lookW_self:lookW=lookW:=rfl
theorem lookX_self:lookX=lookX:=rfl
theorem lookU_self:lookU=lookU:=rfl
theorem lookM_self:lookM=lookM:=rfl
theorem lookS_self:lookS=lookS:=rfl
end K34
noncomputable def PySem.W.Fast.tw14598715356260435866:PySem.Params->PySem.Obj:=Xq
theorem PySem.W.Fast.te14598715356260435866:Xq=PySem.W.Fast.tw14598715356260435866:=rfl
noncomputable def PySem.W.Fast.tw7529638326764893915:PySem.Program:=PySem.Challenge.pw_hushrow_k34_table
theorem PySem.W.Fast.te7529638326764893915:PySem.Challenge.pw_hushrow_k34_table=PySem.W.Fast.tw7529638326764893915:=rfl
noncomputable def PySem.W.Fast.tw5718604661290138801:PySem.Params->Uc:=K34.ô
theorem PySem.W.Fast.te5718604661290138801:K34.ô=PySem.W.Fast.tw5718604661290138801:=rfl
lay_quick K34.lookQ K34.lookB K34.lookV K34.lookL K34.lookO K34.lookY K34.lookW K34.lookX K34.lookU K34.lookM K34.lookS
name_quick K34lookQ for K34.lookQ by K34.lookQ_self
name_quick K34lookB for K34.lookB by K34.lookB_self
name_quick K34lookV for K34.lookV by K34.lookV_self
name_quick K34lookL for K34.lookL by K34.lookL_self
name_quick K34lookO for K34.lookO by K34.lookO_self
name_quick K34lookY for K34.lookY by K34.lookY_self
name_quick K34lookW for K34.lookW by K34.lookW_self
name_quick K34lookX for K34.lookX by K34.lookX_self
name_quick K34lookU for K34.lookU by K34.lookU_self
name_quick K34lookM for K34.lookM by K34.lookM_self
name_quick K34lookS for K34.lookS by K34.lookS_self
namespace K34
open PySem L2 PySem.W
theorem wR:W.Fast.K34lookY=W.Fast.K34lookB:=by kernel_rfl
theorem zC:lookY=lookB:=W.Fast.K34lookY_eq.trans (wR.trans W.Fast.K34lookB_eq.symm)
theorem xw:W.Fast.K34lookM=W.Fast.K34lookS:=by kernel_rfl
theorem yR:lookM=lookS:=W.Fast.K34lookM_eq.trans (xw.trans W.Fast.K34lookS_eq.symm)
theorem xV:W.Fast.K34lookO=W.Fast.K34lookQ:=by kernel_rfl
theorem zo:lookO=lookQ:=W.Fast.K34lookO_eq.trans (xV.trans W.Fast.K34lookQ_eq.symm)
theorem xx:W.Fast.K34lookU=W.Fast.K34lookV:=by kernel_rfl
theorem zk:lookU=lookV:=W.Fast.K34lookU_eq.trans (xx.trans W.Fast.K34lookV_eq.symm)
theorem zc:W.Fast.K34lookL=vN:=by kernel_rfl
theorem AU:lookL=vN:=W.Fast.K34lookL_eq.trans zc
theorem xG:W.Fast.K34lookW=vN:=by kernel_rfl
theorem yS:lookW=vN:=W.Fast.K34lookW_eq.trans xG
theorem xZ:W.Fast.K34lookX=vN:=by kernel_rfl
theorem zI:lookX=vN:=W.Fast.K34lookX_eq.trans xZ
theorem IY(P:T6):absHeap (T₀ P) 11 {}=Vq P:=by kernel_rfl
theorem HG(w:R5):((Vq w.params).isNs R9&&(Rg []:Array V1).size==0,(Vq w.params).objs.size,(Vq w.params).nsMap R9 "__annotations__")=(true,11,YH (.ref 6)):=by kernel_rfl
theorem left:LeftO prog gF ["links","reached","table"] test hook.obs hook.val 12610:=Hd.Ei (boot_open (p:=prog) (N:=12610) (by kernel_rfl) rfl (λ_=>rfl)) HG IY (λw os=>congrFun (congrFun AU w) os) (λw os=>congrFun (congrFun zo w) os) (λw os=>congrFun (congrFun zC w) os) (λw os=>congrFun (congrFun yS w) os) (λw os=>congrFun (congrFun zI w) os) (λw os=>congrFun (congrFun zk w) os) (λw os=>congrFun (congrFun yR w) os)
end K34
namespace L2
open PySem PySem.Spec PyProof.Rows
noncomputable abbrev Key:=Sum Int Str
noncomputable def wB:Key->RI->Bool
 | .inl k,v=>XD k v
 | .inr x,v=>Wy x v
noncomputable def NS(w:R5):Key->Int
 | .inl k=>hashInt k
 | .inr x=>hashStr w x
theorem cO:∀{k:Key}{v:RI},wB k v=true->(∃i t,k=Rk i/\v=TL i t)\/(∃x t,k=Pq x/\v=Wj x t)
 | .inl i,v,h=>by
  obtain⟨t,e⟩:=Xa (k:=i) (v:=v) h;exact .inl ⟨i,t,rfl,e⟩
 | .inr x,v,h=>by
  obtain⟨t,e⟩:=Ws (x:=x) (v:=v) h;exact .inr ⟨x,t,rfl,e⟩
theorem Dp(i:Int)(t:Tok):wB (.inl i) (.int i t)=true:=by simp[wB,XD]
theorem DF(x:Str)(t:Tok):wB (.inr x) (.str x t)=true:=by simp[wB,Wy]
theorem Ko(a b:Int):decide ((Rk a:Key)=Rk b)=(a==b):=by
 by_cases e:a=b
 ·subst e;simp
 have h:¬ (Rk a:Key)=Rk b:=λq=>e (Rk.inj q);rw[decide_eq_false h];exact(beq_eq_false_iff_ne.mpr e).symm
theorem KG(a b:Str):decide ((Pq a:Key)=Pq b)=decide (a=b):=by
 by_cases e:a=b
 ·subst e;simp
 have h:¬ (Pq a:Key)=Pq b:=λq=>e (Pq.inj q);rw[decide_eq_false h,decide_eq_false e]
theorem LY(a:Int)(b:Str):decide ((Rk a:Key)=Pq b)=false:=decide_eq_false (λq=>nomatch q)
theorem Mj(a:Str)(b:Int):decide ((Pq a:Key)=Rk b)=false:=decide_eq_false (λq=>nomatch q)
noncomputable def bN(prog:Program)(w:R5):PySem.KeyKind prog w Key where
 is:=wB
 hash:=NS w
 inj:=λv a b ha hb=>by
  rcases cO ha with⟨i,t,rfl,rfl⟩|⟨x,t,rfl,rfl⟩
  ·rcases cO hb with⟨j,u,rfl,e⟩|⟨y,u,rfl,e⟩
   ·injection e with e1 _;rw[e1]
   exact nomatch e
  rcases cO hb with⟨j,u,rfl,e⟩|⟨y,u,rfl,e⟩
  ·exact nomatch e
  injection e with e1 _;rw[e1]
 byValue:=λk v h=>by
  rcases cO h with⟨i,t,rfl,rfl⟩|⟨x,t,rfl,rfl⟩<;>rfl
 pyHash:=λhv h=>by
  rcases cO hv with⟨i,t,rfl,rfl⟩|⟨x,t,rfl,rfl⟩
  ·exact wpAny_pyHash_int h
  exact wpAny_pyHash_str h
 eqBool:=λhu hv h=>by
  rcases cO hu with⟨i,t,rfl,rfl⟩|⟨x,t,rfl,rfl⟩
  ·rcases cO hv with⟨j,u,rfl,rfl⟩|⟨y,u,rfl,rfl⟩
   ·rw[Ko]at h;exact wpAny_eqBool_int h
   rw[LY]at h;exact WI i t y u _ _ _ _ h
  rcases cO hv with⟨j,u,rfl,rfl⟩|⟨y,u,rfl,rfl⟩
  ·rw[Mj]at h;exact WJ x t j u _ _ _ _ h
  rw[KG]at h;exact wpAny_eqBool_str h
 «strs»:=λk x t v h=>by
  rcases cO h with⟨i,u,rfl,e⟩|⟨y,u,rfl,e⟩
  ·exact nomatch e
  injection e with e1 _;subst e1;cases v<;>rfl
theorem zt(prog:Program)(w:R5)(i:Int)(t:Tok):(bN prog w).is (.inl i) (.int i t)=true:=Dp i t
theorem ym(prog:Program)(w:R5)(x:Str)(t:Tok):(bN prog w).is (.inr x) (.str x t)=true:=DF x t
inductive V where
 |Ë|bl (b:Bool)|int (i:Int)|str (x:Str)|Ļ (b:Array UInt8)|flt (b:UInt64)|ref (a:RJ)|ty (n:String)
 deriving DecidableEq
noncomputable def YM:V->RI->Prop
 | .Ë,u=>u=UH
 | .bl b,u=>u=WK b
 | .int i,u=>∃t,u=TL i t
 | .str x,u=>∃t,u=Wj x t
 | .Ļ b,u=>∃t,u=Value.bytes b t
 | .flt b,u=>∃t,u=XE b t
 | .ref a,u=>u=Sd a
 | .ty n,u=>u=Tj n
abbrev YK:List V->List RI->Prop:=Paired YM
theorem YK.length(r:YK xs us):xs.length=us.length:=RT r
theorem oW{α β:Type}{F:α->β->Prop}{l:List α}{m:List β}(h:Paired F l m):∀{i:Nat}{a:α},l[i]?=YH a->∃b,m[i]?=YH b/\F a b:=by
 induction h with
 |nil=>intro i a e;cases e
 |cons r _ ih=>
  intro i a e;cases i with
  |zero=>cases e;exact{_,rfl,r}
  |succ i=>exact ih (i:=i) e
theorem wj{α β:Type}{F:α->β->Prop}{x:α}{y:β}(h:F x y){i:Nat}{xs:List α}{ys:List β}(r:Paired F xs ys):Paired F (xs.set i x) (ys.set i y):=by
 induction r generalizing i with
 |nil=>exact .nil
 |cons q t ih=>
  cases i with
  |zero=>exact .cons h t
  |succ i=>exact .cons q ih
theorem mS{α β:Type}{F:α->β->Prop}{l:List α}{m:List β}(t:Nat)(h:Paired F l m):Paired F (l.take t) (m.take t):=by
 induction h generalizing t with
 |nil=>cases t<;>exact .nil
 |cons q _ ih=>
  cases t with
  |zero=>exact .nil
  |succ t=>exact .cons q (ih t)
theorem qT{α β:Type}{F:α->β->Prop}{l:List α}{m:List β}(t:Nat)(h:Paired F l m):Paired F (l.drop t) (m.drop t):=by
 induction h generalizing t with
 |nil=>cases t<;>exact .nil
 |cons q r ih=>
  cases t with
  |zero=>exact .cons q r
  |succ t=>exact ih t
theorem tV{α β:Type}{F:α->β->Prop}{xs zs:List α}{ys ws:List β}(h:Paired F xs ys)(g:Paired F zs ws):Paired F (xs++zs) (ys++ws):=by
 induction h with
 |nil=>exact g
 |cons q _ ih=>exact .cons q ih
theorem YK.get{i:Nat}(h:YK xs us)(e:xs[i]?=YH x):∃u,us[i]?=YH u/\YM x u:=oW h e
theorem YK.set(r:YM x u){xs:List V}{us:List RI}(i:Nat)(h:YK xs us):YK (xs.set i x) (us.set i u):=wj r h
theorem YK.append(h:YK xs us)(g:YK ys ws):YK (xs++ys) (us++ws):=tV h g
theorem YK.take{xs:List V}{us:List RI}(n:Nat)(h:YK xs us):YK (xs.take n) (us.take n):=mS n h
theorem YK.drop{xs:List V}{us:List RI}(n:Nat)(h:YK xs us):YK (xs.drop n) (us.drop n):=qT n h
theorem YK.none_of:∀{xs:List V}{us:List RI}{i:Nat},YK xs us->xs[i]?=YI->us[i]?=YI:=λ{xs us i} r e=>by
 have h1:=r.length;have h2:xs.length<=i:=Q1.mp e;exact Q1.mpr ()
noncomputable def nQ:Option V->Option RI->Prop
 |some v,YH u=>YM v u
 |none,YI=>True
 |_,_=>False
def KV{κ:Type}:List (κ×V)->List (κ×RI)->Prop:=Paired λ(p:κ×V)(q:κ×RI)=>p.1=q.1/\YM p.2 q.2
noncomputable def kV:Key->V
 | .inl i=>.int i
 | .inr x=>.str x
inductive HO where
 |lst (xs:List V)
 |tup (xs:List V)
 |dK (kvs:List (Key×V))|dT (kvs:List (List Key×V))
 |set (S:Int->Bool) (n:Nat)
 |ins (C dx:RJ) (fs:List (Str×V))
 |own (x:RJ)
 |xd (fs:List (Str×V))
 |met (f x:RJ)
 |rng (lo hi:Int)
 |ë (o:Obj) (u:HO)
 |tbl (ps:Array RI)
 |ext (φ:So->Prop)
noncomputable abbrev Hp:=RJ->Option HO
noncomputable def upd(H:Hp)(a:RJ)(o:HO):Hp:=λb=>if b=a then YH o else H b
theorem ao:upd H a o a=YH o:=by unfold upd;rw[if_pos rfl]
theorem aL(h:b≠a):upd H a o b=H b:=by unfold upd;rw[if_neg h]
theorem Hq:upd (upd H a o) a u=upd H a u:=by
 funext b;unfold upd;split<;>rfl
theorem Nl{H:Hp}(h:H a=YH o)(h':H b=YH u)(d:o≠u):a≠b:=by
 intro e;subst e;rw[h]at h';exact d (R6 h')
theorem fP{H:Hp}(h:H a=YH o)(h':H b=YI):a≠b:=by
 intro e;subst e;rw[h]at h';cases h'
section
variable(P:Program)(w:R5)
noncomputable def cL(H:Hp)(h:So)(a:RJ):HO->Prop
 | .lst xs=>xs.length<=sizeLine/\∃(Â:List RI)(n:Nat),YK xs Â/\h.get? a=YH { cls:=.type "list",data:=.seq Â.toArray n }
 | .tup xs=>xs.length<=sizeLine/\∃Â:List RI,YK xs Â/\IsTup h a Â.toArray
 | .dK kvs=>kvs.length<=sizeLine/\(a==Tn)=false/\∃vs,KV kvs vs/\h.DictOf (bN P w) a vs
 | .dT kvs=>kvs.length<=sizeLine/\(a==Tn)=false/\∃xs:List (List Key×RJ×RI),
   Paired (λ(p:List Key×V)(q:List Key×RJ×RI)=>p.1=q.1/\H q.2.1=YH (.tup (p.1.map kV))/\YM p.2 q.2.2) kvs xs/\
   ∃o es ep,h.get? a=YH o/\o.ExactDict/\o.data=.dict es ep/\es.toList=xs.map (entryOfKey (Wk (bN P w)))/\(xs.map (·.1)).Nodup
 | .set S n=>h.SetOf (Up P w) a S n
 | .ins C dx fs=>H dx=YH (.own a)/\fs.length<=1000/\dx≠a/\h.get? a=YH (UI C dx)/\
   ∃mA,h.Ns1 dx mA/\(∀f,nQ (fs.lookup f) (mA f))/\Xb mA (fs.map (·.1))
 | .own _=>∃o,h.get? a=YH o
 | .xd fs=>∃mA,h.Ns1 a mA/\∀f,nQ (fs.lookup f) (mA f)
 | .rng lo hi=>∃t u v,h.get? a=YH { cls:=.type "range",data:=.fields #[.int lo t,.int hi u,.int 1 v] }
 | .ë o u=>h.get? a=YH o/\cL H h a u
 | .tbl ps=>h.get? a=YH { cls:=.none,data:=.fields ps }
 | .met f x=>h.get? a=YH (XH (.ref f) (.ref x))
 | .ext φ=>φ h/\(∃o,h.get? a=YH o)/\∀h1 h2:So,φ h1->(∀o,h1.get? a=YH o->h2.get? a=YH o)->φ h2
def ü(H:Hp)(h:So):Prop:=∀a o,H a=YH o->cL P w H h a o
end
section
variable{P:Program}{w:R5}{H H':Hp}{h h':So}{a:RJ}{o:HO}
theorem cL.lt(x:cL P w H h a o):a<h.objs.size:=by
 cases o with
 |lst xs=>obtain⟨_,_,_,_,e⟩:=x;exact RX e
 |tup xs=>obtain⟨_,_,_,p⟩:=x;exact p.lt
 |dK kvs=>obtain⟨_,_,_,_,o,_,_,e,_⟩:=x;exact RX e
 |dT kvs=>obtain⟨_,_,_,_,o,_,_,e,_⟩:=x;exact RX e
 |set S n=>obtain⟨o,_,_,_,e,_⟩:=x;exact RX e
 |ins C dx fs=>obtain⟨_,_,_,e,_⟩:=x;exact RX e
 |own y=>obtain⟨_,e⟩:=x;exact RX e
 |xd fs=>obtain⟨_,⟨_,_,_,e,_⟩,_⟩:=x;exact RX e
 |rng lo hi=>obtain⟨_,_,_,e⟩:=x;exact RX e
 |ë ob u=>obtain⟨e,_⟩:=x;exact RX e
 |tbl ps=>exact RX (show h.get? a=YH _ from x)
 |met f y=>exact RX (show h.get? a=YH _ from x)
 |ext φ=>obtain⟨_,⟨_,e⟩,_⟩:=x;exact RX e
theorem Paired.vb{α β:Type}{F G:α->β->Prop}{l₁:List α}{l₂:List β}(h:Paired F l₁ l₂)(f:∀a b,F a b->G a b):Paired G l₁ l₂:=by
 induction h with
 |nil=>exact .nil
 |cons q _ ih=>exact .cons (f _ _ q) ih
theorem cL.vm(x:cL P w H h a o)(k:∀b u,(b=a\/H b=YH (.own a))->h.get? b=YH u->h'.get? b=YH u)
  (ho:∀b,H b=YH (.own a)->H' b=YH (.own a)) (ht:∀b xs,H b=YH (.tup xs)->H' b=YH (.tup xs)):cL P w H' h' a o:=by
 induction o with
 |lst xs=>obtain⟨z,Â,n,r,e⟩:=x;exact{z,Â,n,r,k _ _ (.inl rfl) e}
 |tup xs=>obtain⟨z,Â,r,ob,e,c⟩:=x;exact{z,Â,r,ob,k _ _ (.inl rfl) e,c}
 |dK kvs=>obtain⟨z,y,vs,r,ob,es,ep,e,c⟩:=x;exact{z,y,vs,r,ob,es,ep,k _ _ (.inl rfl) e,c}
 |dT kvs=>
  obtain⟨z,y,xs,r,ob,es,ep,e,c⟩:=x
  exact{z,y,xs,Paired.vb r λp q z=>{z.1,ht _ _ z.2.1,z.2.2},ob,es,ep,k _ _ (.inl rfl) e,c}
 |set S n=>obtain⟨ob,es,ep,t,e,c⟩:=x;exact{ob,es,ep,t,k _ _ (.inl rfl) e,c}
 |ins C dx fs=>
  obtain⟨d,z,ne,e,mA,⟨od,es,ep,e2,c⟩,r⟩:=x
  exact{ho _ d,z,ne,k _ _ (.inl rfl) e,mA,{od,es,ep,k _ _ (.inr d) e2,c},r}
 |own y=>obtain⟨ob,e⟩:=x;exact{ob,k _ _ (.inl rfl) e}
 |xd fs=>obtain⟨mA,⟨od,es,ep,e,c⟩,r⟩:=x;exact{mA,{od,es,ep,k _ _ (.inl rfl) e,c},r}
 |rng lo hi=>obtain⟨t,u,v,e⟩:=x;exact{t,u,v,k _ _ (.inl rfl) e}
 |ë ob u ih=>obtain⟨e,q⟩:=x;exact{k _ _ (.inl rfl) e,ih q}
 |tbl ps=>
  have e:h.get? a=YH { cls:=.none,data:=.fields ps }:=x
  show h'.get? a=YH { cls:=.none,data:=.fields ps }
  exact k a _ (.inl rfl) e
 |met f y=>
  have e:h.get? a=YH (XH (.ref f) (.ref y)):=x
  show h'.get? a=YH (XH (.ref f) (.ref y))
  exact k a _ (.inl rfl) e
 |ext φ=>obtain⟨p,⟨o,e⟩,st⟩:=x;exact{st _ _ p λo q=>k _ _ (.inl rfl) q,{o,k _ _ (.inl rfl) e},st}
theorem ü.lt(x:ü P w H h)(e:H a=YH o):a<h.objs.size:=(x a o e).lt
theorem ü.fresh(x:ü P w H h)(e:h.objs.size<=a):H a=YI:=by
 cases q:H a with
 |none=>rfl
 |some u=>exact absurd (Px (x.lt q) e) (Qt _)
theorem ü.kept(x:ü P w H h)(k:∀b u,h.get? b=YH u->h'.get? b=YH u):ü P w H h':=λa o e=>
 (x a o e).vm (λb u _ q=>k b u q) (λ_ q=>q) λ_ _ q=>q
theorem ü.laid(x:ü P w H h)(k:∀b u,h.get? b=YH u->h'.get? b=YH u)(hp:h.objs.size<=a)(new:cL P w (upd H a o) h' a o):ü P w (upd H a o) h':=λb u e=>by
 have hn:=x.fresh hp;by_cases hb:b=a
 ·subst hb;rw[ao]at e;cases e;exact new
 rw[aL hb]at e;exact(x b u e).vm (λc v _ q=>k c v q) (λc q=>by rw[aL (fP q hn)];exact q) λc xs q=>by rw[aL (fP q hn)];exact q
end
def Rd(H:Hp)(a:RJ)(u:HO):Prop:=H a=YH u\/∃o,H a=YH (.ë o u)
theorem Rd.ok(r:Rd H a u)(x:ü P w H h):cL P w H h a u:=by
 rcases r with r|⟨o,r⟩
 ·exact x a u r
 obtain⟨_,q⟩:=x a _ r;exact q
noncomputable def Mut:Option HO->Prop
 |some (.lst _)=>True
 |some (.dK _)=>True
 |some (.dT _)=>True
 |some (.set _ _)=>True
 |some (.ins _ _ _)=>True
 |some (.ext _)=>True
 |_=>False
section
variable{P:Program}{w:R5}{H:Hp}{h h':So}{x e:RJ}{o':HO}
theorem ü.write(ok:ü P w H h)(mu:Mut (H x))(he:e=x\/H e=YH (.own x))(k:∀b u,b≠e->h.get? b=YH u->h'.get? b=YH u)(heo:∃u,h'.get? e=YH u)
  (new:cL P w (upd H x o') h' x o'):ü P w (upd H x o') h':=λb u q=>by
 have nown:∀c y,H c=YH (.own y)->c≠x:=λc y r z=>by subst z;rw[r]at mu;exact mu
 have ntup:∀c xs,H c=YH (.tup xs)->c≠x:=λc xs r z=>by subst z;rw[r]at mu;exact mu
 by_cases hb:b=x
 ·subst hb;rw[ao]at q;cases q;exact new
 rw[aL hb]at q
 by_cases hbe:b=e
 ·have q':H b=YH (.own x):=by
   rcases he with z|z
   ·exact absurd (hbe.trans z) hb
   rw[hbe];exact z
  rw[q]at q';cases q';obtain⟨v,hv⟩:=heo;exact{v,by rw[hbe];exact hv}
 refine(ok b u q).vm (λc v hc r=>k c v ?_ r) (λc r=>by rw[aL (nown c b r)];exact r) λc xs r=>by rw[aL (ntup c xs r)];exact r
 rcases hc with rfl|hc
 ·exact hbe
 rintro rfl
 rcases he with z|z
 ·exact nown c b hc z
 rw[hc]at z;cases z;exact hb rfl
end
structure Un(fs ex:List RJ)(H H':Hp)(h h':So):Prop where
 keep:∀b o,h.get? b=YH o->H b=YI->b∉fs->b∉ex->h'.get? b=YH o
 slot:∀b o,h.get? b=YH o->H b=YI->b∈fs->b∉ex->∃sl,h'.get? b=YH { o with slots:=sl }
 free:∀b o,h.get? b=YH o->H b=YI->b∉ex->H' b=YI
 there:∀b o,h.get? b=YH o->b∉ex->∃o',h'.get? b=YH o'
 ve:∀b xs,H b=YH (.tup xs)->H' b=YH (.tup xs)
 rH:∀b o u,H b=YH (.ë o u)->H' b=YH (.ë o u)
 vg:∀b ps,H b=YH (.tbl ps)->∃more,H' b=YH (.tbl (ps++more))
section
variable{fs fs' ex ex':List RJ}{H H1 H2:Hp}{h h1 h2 h':So}{a x e:RJ}{o:HO}
theorem Un.any(u:Un fs ex H H1 h h1)(q:h.get? b=YH ob)(n:H b=YI)(hx:b∉ex):∃sl,h1.get? b=YH { ob with slots:=sl }:=by
 by_cases hb:b∈fs
 ·exact u.slot b ob q n hb hx
 exact⟨ob.slots,u.keep b ob q n hb hx⟩
theorem Un.kept(k:∀b u,h.get? b=YH u->h'.get? b=YH u):Un fs ex H H h h':=
 {λb ob q _ _ _=>k b ob q,λb ob q _ _ _=>⟨ob.slots,k b ob q⟩,λ_ _ _ n _=>n,λb ob q _=>⟨ob,k b ob q⟩,λ_ _ q=>q,λ_ _ _ q=>q,λ_ ps q=>{#[],by rw[q];simp}}
theorem Un.refl:Un fs ex H H h h:=Un.kept λ_ _ q=>q
theorem Un.laid(k:∀b u,h.get? b=YH u->h'.get? b=YH u)(hp:h.objs.size<=a)(hn:H a=YI):Un fs ex H (upd H a o) h h' where
 keep:=λb u q _ _ _=>k b u q
 slot:=λb u q _ _ _=>⟨u.slots,k b u q⟩
 free:=λb u q n _=>by rw[aL (Pw (Px (RX q) hp))];exact n
 there:=λb u q _=>⟨u,k b u q⟩
 ve:=λb xs q=>by rw[aL (fP q hn)];exact q
 rH:=λb u xs q=>by rw[aL (fP q hn)];exact q
 vg:=λb ps q=>{#[],by rw[aL (fP q hn),q];simp}
theorem Un.write(mu:Mut (H x))(he:e=x\/H e=YH (.own x))(k:∀b u,b≠e->h.get? b=YH u->h'.get? b=YH u)(heo:∃u,h'.get? e=YH u):Un fs ex H (upd H x o) h h':=by
 have hx:∀b,H b=YI->b≠x:=λb n z=>by subst z;rw[n]at mu;exact mu
 have hb:∀b,H b=YI->b≠e:=λb n z=>by
  subst z;rcases he with r|r
  ·exact hx b n r
  rw[n]at r;cases r
 have hm:∀b u,H b=YH u->¬ Mut (YH u)->b≠x:=λb u q nm z=>by subst z;rw[q]at mu;exact nm mu
 refine⟨λb u q n _ _=>k b u (hb b n) q,λb u q n _ _=>{u.slots,k b u (hb b n) q},λb u q n _=>by rw[aL (hx b n)];exact n,λb u q _=>?_,
  λb xs q=>by rw[aL (hm b _ q λz=>z)];exact q,λb u xs q=>by rw[aL (hm b _ q λz=>z)];exact q,λb ps q=>{#[],by rw[aL (hm b _ q λz=>z),q];simp}⟩
 by_cases hbe:b=e
 ·subst hbe;exact heo
 exact⟨u,k b u hbe q⟩
end
noncomputable def trk(h:So)(H:Hp):List RJ:=(R8 h.objs.size).filter λa=>(H a).isSome
noncomputable def wQ(h:So)(H:Hp):So:=W.hideAll h (trk h H)
theorem Dk(h:So)(H:Hp):(wQ h H).objs.size=h.objs.size:=W.hideAll_size _ _
theorem F2(e:h.get? b=YH o)(n:H b=YI):(wQ h H).get? b=YH o:=
 W.hideAll_get _ e λhm=>by
  have q:(H b).isSome=true:=(PX.mp hm).2;rw[n]at q;simp at q
theorem HJ(e:(wQ h H).get? b=YH o):h.get? b=YH o/\H b=YI:=by
 have e':h.get? b=YH o:=W.of_hideAll (trk h H) e;refine{e',?_};cases q:H b with
 |none=>rfl
 |some x=>
  have hm:b∈trk h H:=PX.mpr {Rz.mpr (RX e'),by simp[q]};have z:(wQ h H).get? b=YI:=W.hideAll_none (trk h H) hm;rw[z]at e;cases e
structure Mod(K:RS)(mg:Str->Option RI)(base:So):Prop where
 á:K.In base
 glob:base.Ns R9 mg
 blt:∃mb,base.Ns VD mb/\∀x:Str,x≠"__name__"->mb x=TB x
 nolimit:base.NoLimit
structure Cx where
 prog:Program
 w:R5
 K:RS
 mg:Str->Option RI
 base:So
 A:Sq
 N:List Str
 s₀:RN
 H₀:Hp
 env:Env
 outer:List Env
 stack:List Env
 ex:List RJ
 fn:Str->Bool
 calm:Bool
 pn:List (RJ×Obj)
 xe:RI->RN->Prop
noncomputable def frs(l:List Env):List RJ:=l.filterMap (·.frame)
noncomputable abbrev Cx.fs(X:Cx):List RJ:=frs X.outer
def Vis(sc:U5)(x:Str):Prop:=sc.names.lookup x=YH .local\/sc.names.lookup x=YH .cell\/sc.names.lookup x=YH .free
def Loc(sc:U5)(x:Str):Prop:=sc.names.lookup x=YH .local\/sc.names.lookup x=YH .cell
def Y5(env:Env)(h:So)(m:Str->Option RI)(x:Str)(u:RI):Prop:=
 (env.kindOf x=YH .local/\m x=YH u)\/((env.kindOf x=YH .cell\/env.kindOf x=YH .free)/\∃c,env.cells.lookup x=YH c/\h.IsCell c (YH u))
structure Cx.Ok(X:Cx):Prop where
 mod:Mod X.K X.mg X.base
 kind:X.env.scope.kind=.function
 glob:X.env.globals=R9
 blt:X.env.builtins=VD
 above:X.s₀.heap.objs.size<=X.env.locals
 inj:∀x y c,X.env.cells.lookup x=YH c->X.env.cells.lookup y=YH c->x=y
 has:∀x,(X.env.kindOf x=YH .cell\/X.env.kindOf x=YH .free)->∃c,X.env.cells.lookup x=YH c
 cab:∀x c,X.fn x=true->X.env.cells.lookup x=YH c->X.s₀.heap.objs.size<=c
 hd:X.calm=true->X.A.handled=YI
 frames:X.A.frames=YH X.stack
 stk:X.stack=X.outer\/(X.stack=X.env::X.outer/\X.env.frame=YH X.env.locals)
 exf:∀b∈X.ex,b≠X.env.locals/\∀x c,X.env.cells.lookup x=YH c->c≠b
 bs:∀b o,X.base.get? b=YH o->X.s₀.heap.get? b=YH o/\X.H₀ b=YI
 bsz:X.base.objs.size<=X.s₀.heap.objs.size
 Fq:∀b o,X.base.get? b=YH o->b∉X.ex
 FN:∀b∈X.ex,b∉X.fs
 rG:X.s₀.heap.FunFrames X.base X.outer
 frf:∀b∈X.fs,X.H₀ b=YI
structure Inv(X:Cx)(pins:List (RJ×Obj))(B:List (Option V))(H:Hp)(s:RN):Prop where
 ok:X.Ok
 os:s.os=X.s₀.os
 bare:Vh s.gens
 base:Un X.fs X.ex X.H₀ H X.s₀.heap s.heap
 loc:∃m,s.heap.Ns X.env.locals m/\∀(i:Nat)(x:Str)(v:V),X.N[i]?=YH x->B[i]?=YH (YH v)->Vis X.env.scope x->∃u,YM v u/\Y5 X.env s.heap m x u
 cell:∀x c,X.env.cells.lookup x=YH c->∃v,s.heap.IsCell c v
 free:H X.env.locals=YI
 j8:∀x c,X.env.cells.lookup x=YH c->H c=YI
 pin:∀p∈X.pn++pins,s.heap.get? p.1=YH p.2/\H p.1=YI/\p.1≠X.env.locals/\p.1∉X.fs/\∀v,p.2.data≠ .cell v
 Æ:ü X.prog X.w H s.heap
 len:B.length=X.N.length
section
variable{X:Cx}{pins:List (RJ×Obj)}{B:List (Option V)}{H H':Hp}{s:RN}{h':So}
theorem Cx.Ok.OS(ok:X.Ok)(e:X.base.get? b=YH o):b∉X.fs:=λhb=>by
 have:=(ok.rG.mem hb).1;rw[e]at this;cases this
theorem Inv.bs(I:Inv X pins B H s):∀b o,X.base.get? b=YH o->s.heap.get? b=YH o/\H b=YI:=λb o e=>
 {I.base.keep b o (I.ok.bs b o e).1 (I.ok.bs b o e).2 (I.ok.OS e) (I.ok.Fq b o e),I.base.free b o (I.ok.bs b o e).1 (I.ok.bs b o e).2 (I.ok.Fq b o e)}
theorem Inv.bk(I:Inv X pins B H s):∀b o,X.base.get? b=YH o->s.heap.get? b=YH o:=λb o e=>(I.bs b o e).1
theorem Inv.mod(I:Inv X pins B H s):Mod X.K X.mg X.base:=I.ok.mod
theorem Inv.ý(I:Inv X pins B H s):X.K.In s.heap:=I.ok.mod.á.keeps I.bk
theorem Inv.lt(I:Inv X pins B H s):X.env.locals<s.heap.objs.size:=let ⟨_,hn,_⟩:=I.loc;hn.lt
theorem Inv.sz(I:Inv X pins B H s):X.s₀.heap.objs.size<=s.heap.objs.size:=Pf I.ok.above (QJ I.lt)
theorem Inv.Nw(I:Inv X pins B H s)(h:s.heap.objs.size<=a):a∉X.fs:=λhb=>by
 obtain⟨_,o,ho,_⟩:=I.ok.rG.mem hb;exact absurd (Px (RX ho) (Pf I.sz h)) (Qt _)
theorem Inv.cne(I:Inv X pins B H s):∀x c,X.env.cells.lookup x=YH c->c≠X.env.locals:=λx c e z=>by
 obtain⟨v,o,ho,hd⟩:=I.cell x c e;obtain⟨m,⟨o',es,ep,ho',hd',_⟩,_⟩:=I.loc;rw[z,ho']at ho;cases ho;rw[hd']at hd;cases hd
theorem Inv.rG(I:Inv X pins B H s):s.heap.FunFrames X.base X.outer:=by
 have all:∀(l:List Env),(∀b∈frs l,b∈X.fs)->X.s₀.heap.FunFrames X.base l->s.heap.FunFrames X.base l:=by
  intro l;induction l with
  |nil=>intro _ _;trivial
  |cons env r ih=>
   intro hs hl;obtain⟨hk,⟨L,o,hf,hn,ho,hd⟩,hr⟩:=hl;have hL:L∈X.fs:=hs L (by unfold frs;rw[Qr,hf];exact O9);obtain⟨sl,e⟩:=I.base.slot L o ho (I.ok.frf L hL) hL λz=>I.ok.FN L z hL;exact{hk,{L,_,hf,hn,e,hd},ih (λb hb=>hs b (by unfold frs;rw[Qr,hf];exact O8 _ hb)) hr}
 exact all X.outer (λ_ hb=>hb) I.ok.rG
theorem Inv.stack(I:Inv X pins B H s):s.heap.FunFrames X.base X.stack:=by
 rcases I.ok.stk with e|⟨e,hf⟩
 ·rw[e];exact I.rG
 rw[e];obtain⟨m,hn,_⟩:=I.loc;refine .cons (by rw[I.ok.kind];decide) hf hn ?_ I.rG;exact Heap.get?_none_of_le (Pf I.ok.bsz I.ok.above)
theorem Inv.AG(I:Inv X pins B H s):∀b∈frs X.stack,b∈X.env.locals::X.fs:=λb hb=>by
 rcases I.ok.stk with e|⟨e,hf⟩
 ·rw[e]at hb;exact O8 _ hb
 rw[e]at hb;unfold frs at hb;rw[Qr,hf]at hb;exact hb
theorem Inv.C8(I:Inv X pins B H s):∀b∈frs X.stack,H b=YI:=λb hb=>by
 rcases O2.mp (I.AG b hb)with e|hb
 ·rw[e];exact I.free
 obtain⟨_,o,ho,_⟩:=I.ok.rG.mem hb;exact I.base.free b o ho (I.ok.frf b hb) λz=>I.ok.FN b z hb
theorem Inv.step{g':Array V1}{t':Nat}{d':Drawn}{ch:List RJ}(I:Inv X pins B H s)
  (hch:∀b∈ch,(b∈X.ex\/X.s₀.heap.objs.size<=b)/\b≠X.env.locals/\(∀x c,X.env.cells.lookup x=YH c->c≠b)/\∀p∈X.pn++pins,p.1≠b)
  (keep:∀b o,b≠X.env.locals->b∉X.fs->b∉ch->s.heap.get? b=YH o->H b=YI->h'.get? b=YH o)
  (slot:∀b o,b≠X.env.locals->b∈X.fs->b∉ch->s.heap.get? b=YH o->H b=YI->∃sl,h'.get? b=YH { o with slots:=sl }) (free:∀b o,b∉ch->s.heap.get? b=YH o->H b=YI->H' b=YI)
  (there:∀b o,b∉ch->s.heap.get? b=YH o->∃o',h'.get? b=YH o')
  (ve:∀b xs,H b=YH (.tup xs)->H' b=YH (.tup xs)) (rH:∀b o u,H b=YH (.ë o u)->H' b=YH (.ë o u)) (vg:∀b ps,H b=YH (.tbl ps)->∃more,H' b=YH (.tbl (ps++more)))
  (ns:∀m,s.heap.Ns X.env.locals m->h'.Ns X.env.locals m) (Æ:ü X.prog X.w H' h') (hg:Vh g') :
  Inv X pins B H' { s with heap:=h',gens:=g',drawn:=d',toks:=t' }:=by
 have neL:∀b o,X.s₀.heap.get? b=YH o->b≠X.env.locals:=λb o e=>Pw (Px (RX e) I.ok.above)
 have neC:∀b o,X.s₀.heap.get? b=YH o->b∉X.ex->b∉ch:=λb o e hx hb=>by
  rcases(hch b hb).1 with z|z
  ·exact hx z
  exact absurd (Px (RX e) z) (Qt _)
 have cellK:∀x c,X.env.cells.lookup x=YH c->∀v,s.heap.IsCell c v->h'.IsCell c v:=λx c e v ⟨o,ho,hd⟩=>by
  have nch:c∉ch:=λz=>(hch c z).2.2.1 x c e rfl;by_cases hc:c∈X.fs
  ·obtain⟨sl,q⟩:=slot c o (I.cne x c e) hc nch ho (I.j8 x c e);exact{_,q,hd}
  exact{o,keep c o (I.cne x c e) hc nch ho (I.j8 x c e),hd}
 refine{I.ok,I.os,hg,{λb o e n hb hx=>?_,λb o e n hb hx=>?_,λb o e n hx=>?_,λb o e hx=>?_,λb xs e=>ve b xs (I.base.ve b xs e),λb o xs e=>rH b o xs (I.base.rH b o xs e),λb ps e=>?_},?_,λx c e=>?_,?_,λx c e=>?_,λp hp=>?_,Æ,I.len}
 ·exact keep b o (neL b o e) hb (neC b o e hx) (I.base.keep b o e n hb hx) (I.base.free b o e n hx)
 ·obtain⟨sl,e1⟩:=I.base.slot b o e n hb hx;obtain⟨sl',e2⟩:=slot b _ (neL b o e) hb (neC b o e hx) e1 (I.base.free b o e n hx);exact⟨sl',e2⟩
 ·obtain⟨o',e1⟩:=I.base.there b o e hx;exact free b o' (neC b o e hx) e1 (I.base.free b o e n hx)
 ·obtain⟨o',e1⟩:=I.base.there b o e hx;exact there b o' (neC b o e hx) e1
 ·obtain⟨m1,e1⟩:=I.base.vg b ps e;obtain⟨m2,e2⟩:=vg b _ e1;exact{m1++m2,by rw[e2,Array.append_assoc]}
 ·obtain⟨m,hn,hl⟩:=I.loc;refine{m,ns m hn,λi x v e1 e2 e3=>?_};obtain⟨u,r,l⟩:=hl i x v e1 e2 e3;refine{u,r,?_};rcases l with l|⟨k,c,e,z⟩
  ·exact .inl l
  exact .inr {k,c,e,cellK x c e _ z}
 ·obtain⟨v,z⟩:=I.cell x c e;exact⟨v,cellK x c e v z⟩
 ·obtain⟨m,⟨o,_,_,ho,_⟩,_⟩:=I.loc;exact free _ o (λz=>(hch _ z).2.1 rfl) ho I.free
 ·obtain⟨v,o,ho,hd⟩:=I.cell x c e;exact free c o (λz=>(hch c z).2.2.1 x c e rfl) ho (I.j8 x c e)
 obtain⟨e,n,ne,nf,d⟩:=I.pin p hp
 have nch:p.1∉ch:=λz=>(hch p.1 z).2.2.2 p hp rfl
 exact⟨keep p.1 p.2 ne nf nch e n,free p.1 p.2 nch e n,ne,nf,d⟩
theorem Inv.un(I:Inv X pins B H s)(u:Un X.fs [] H H' s.heap h')(Æ:ü X.prog X.w H' h'):Inv X pins B H' { s with heap:=h',toks:=t' }:=by
 obtain⟨m,⟨o,es,ep,ho,r⟩,_⟩:=id I.loc;obtain⟨sl,hL⟩:=u.any ho I.free (by simp);exact I.step (g':=s.gens) (d':=s.drawn) (ch:=[]) (λ_ z=>nomatch z) (λb o _ hb _ e n=>u.keep b o e n hb (by simp)) (λb o _ hb _ e n=>u.slot b o e n hb (by simp)) (λb o _ e n=>u.free b o e n (by simp)) (λb o _ e=>u.there b o e (by simp)) u.ve u.rH u.vg (λm' hm=>by
  obtain⟨o',es',ep',ho',r'⟩:=hm;rw[ho]at ho';cases ho';exact{_,es',ep',hL,r'}) Æ I.bare
theorem Inv.call(I:Inv X pins B H s)(u:Un (frs X.stack) ch H H' s.heap h')(Æ:ü X.prog X.w H' h')(hg:Vh g')
  (hch:∀b∈ch,(b∈X.ex\/X.s₀.heap.objs.size<=b)/\b≠X.env.locals/\(∀x c,X.env.cells.lookup x=YH c->c≠b)/\∀p∈X.pn++pins,p.1≠b) :
  Inv X pins B H' { s with heap:=h',gens:=g',drawn:=d',toks:=t' }:=by
 obtain⟨m,⟨o,es,ep,ho,r⟩,_⟩:=id I.loc
 obtain⟨sl,hL⟩:=u.any ho I.free λz=>(hch _ z).2.1 rfl
 exact I.step (ch:=ch) hch (λb o hL hb hc e n=>u.keep b o e n (λz=>(O2.mp (I.AG b z)).elim hL hb) hc) (λb o _ _ hc e n=>u.any e n hc) (λb o hc e n=>u.free b o e n hc) (λb o hc e=>u.there b o e hc) u.ve u.rH u.vg (λm' hm=>by
  obtain⟨o',es',ep',ho',r'⟩:=hm;rw[ho]at ho';cases ho';exact{_,es',ep',hL,r'}) Æ hg
theorem Inv.turned(I:Inv X pins B H s)(k:∀b o,b≠it->s.heap.get? b=YH o->h'.get? b=YH o)(hn:H it=YI)(hL:it≠X.env.locals)
  (h1:it∈X.ex\/X.s₀.heap.objs.size<=it) (h2:∀x c,X.env.cells.lookup x=YH c->c≠it) (h3:∀p∈X.pn++pins,p.1≠it):Inv X pins B H { s with heap:=h',toks:=t' }:=by
 have nit:∀b u,H b=YH u->b≠it:=λb u e z=>by rw[z,hn]at e;cases e
 refine I.step (g':=s.gens) (d':=s.drawn) (ch:=[it]) (λb hb=>?_) (λb o _ _ hc e _=>k b o (λz=>hc (by simp[z])) e) (λb o _ _ hc e _=>{o.slots,k b o (λz=>hc (by simp[z])) e}) (λ_ _ _ _ n=>n)
  (λb o hc e=>{o,k b o (λz=>hc (by simp[z])) e}) (λ_ _ e=>e) (λ_ _ _ e=>e) (λb ps e=>{#[],by rw[e];simp}) (λm hm=>?_) (λb u e=>?_) I.bare
 ·have e:b=it:=by simpa using hb
  subst e;exact⟨h1,hL,h2,h3⟩
 ·obtain⟨o,es,ep,ho,r⟩:=hm;exact{o,es,ep,k _ o (Pr hL) ho,r}
 refine(I.Æ b u e).vm (λc v hc q=>k c v ?_ q) (λ_ q=>q) λ_ _ q=>q
 rcases hc with z|z
 ·rw[z];exact nit b u e
 exact nit c _ z
theorem Inv.tok(I:Inv X pins B H s)(t:Nat):Inv X pins B H { s with toks:=t }:=I.un (h':=s.heap) (t':=t) Un.refl I.Æ
theorem Inv.kept(I:Inv X pins B H s)(k:∀b u,s.heap.get? b=YH u->h'.get? b=YH u):Inv X pins B H { s with heap:=h',toks:=t' }:=I.un (Un.kept k) (I.Æ.kept k)
theorem Inv.laid(I:Inv X pins B H s)(k:∀b u,s.heap.get? b=YH u->h'.get? b=YH u)(hp:s.heap.objs.size<=a)(new:cL X.prog X.w (upd H a o) h' a o) :
  Inv X pins B (upd H a o) { s with heap:=h',toks:=t' }:=I.un (Un.laid k hp (I.Æ.fresh hp)) (I.Æ.laid k hp new)
theorem Inv.write(I:Inv X pins B H s)(mu:Mut (H x))(he:e=x\/H e=YH (.own x))(k:∀b u,b≠e->s.heap.get? b=YH u->h'.get? b=YH u)(heo:∃u,h'.get? e=YH u)
  (new:cL X.prog X.w (upd H x o) h' x o):Inv X pins B (upd H x o) { s with heap:=h',toks:=t' }:=I.un (Un.write mu he k heo) (I.Æ.write mu he k heo new)
theorem Inv.wI(I:Inv X pins B H s)(h:∀p∈pins',s.heap.get? p.1=YH p.2/\H p.1=YI/\p.1≠X.env.locals/\p.1∉X.fs/\∀v,p.2.data≠ .cell v):Inv X pins' B H s:=
 {I.ok,I.os,I.bare,I.base,I.loc,I.cell,I.free,I.j8,λp hp=>(O5.mp hp).elim (λz=>I.pin p (Ph _ z)) (h p),I.Æ,I.len}
theorem zw{N:List Str}(hN:N.Nodup){i j:Nat}{x:Str}(a:N[i]?=YH x)(b:N[j]?=YH x):i=j:=by
 obtain⟨h1,e1⟩:=Pl.mp a;obtain⟨h2,e2⟩:=Pl.mp b;exact(Rt hN).mp (e1.trans e2.symm)
theorem DK(I:Inv X pins B H s)(hN:X.N.Nodup)(hi:X.N[i]?=YH x)(hx:Loc X.env.scope x)(r:YM v u)
  (h:∀s',Inv X pins (B.set i (YH v)) H s'->(∃a,TZ a s.heap s'.heap/\(a=X.env.locals\/X.env.cells.lookup x=YH a))->Q Unit.unit s') (hf:X.fn x=true\/X.env.scope.names.lookup x=YH .local:=by first|exact .inl rfl|exact .inr rfl|assumption):wpAny M A (Yw X.env x u) Q E s:=by
 obtain⟨m,hn,hl⟩:=id I.loc
 have hcls:(X.env.scope.kind== .class||(X.env.scope.kind== .module&&X.env.locals !=X.env.globals))=false:=by rw[I.ok.kind];rfl
 have hiσ:i<B.length:=by rw[I.len];exact(Pl.mp hi).1
 have cne:=I.cne
 have tracked:∀{a:RJ}{h':So},(∃o,s.heap.get? a=YH o/\H a=YI)->TZ a s.heap h'->ü X.prog X.w H h':=λ{a h'} ha hs b ob e=>by
  obtain⟨_,_,Ľ⟩:=ha;refine(I.Æ b ob e).vm (λc w' hc q=>(hs.2 c ?_).trans q) (λ_ q=>q) λ_ _ q=>q;rintro rfl;rcases hc with rfl|hc
  ·rw[Ľ]at e;cases e
  rw[Ľ]at hc;cases hc
 rcases hx with hk|hk
 ·refine wpAny_storeName_local hk hn (λh' hn' hs=>?_) hcls;obtain⟨oL,_,_,hoL,_⟩:=id hn;refine h _ {I.ok,I.os,I.bare,{λb o e n hb hx=>?_,λb o e n hb hx=>?_,I.base.free,λb o e hx=>?_,I.base.ve,I.base.rH,I.base.vg},{_,hn',λj y v' e1 e2 e3=>?_},λy c e=>?_,I.free,I.j8,λp hp=>?_,tracked ⟨oL,hoL,I.free⟩ hs,by simpa using I.len} {_,hs,.inl rfl}
  ·exact(hs.2 b (Pw (Px (RX e) I.ok.above))).trans (I.base.keep b o e n hb hx)
  ·obtain⟨sl,e1⟩:=I.base.slot b o e n hb hx;exact{sl,(hs.2 b (Pw (Px (RX e) I.ok.above))).trans e1}
  ·obtain⟨o',e1⟩:=I.base.there b o e hx;exact{o',(hs.2 b (Pw (Px (RX e) I.ok.above))).trans e1}
  ·by_cases hj:j=i
   ·subst hj;rw[hi]at e1;cases e1;rw[Rb hiσ]at e2;cases e2;exact{u,r,.inl ⟨hk,by simp⟩}
   rw[V2 (Pr hj)]at e2;obtain⟨u',r',q⟩:=hl j y v' e1 e2 e3;refine{u',r',?_};rcases q with⟨k,e⟩|⟨k,c,e,z⟩
   ·refine .inl {k,?_};have:y≠x:=λe=>hj (zw hN e1 (e▸hi));simp[this,e]
   exact .inr {k,c,e,z.sameBut hs (cne y c e)}
  ·obtain⟨w',z⟩:=I.cell y c e;exact{w',z.sameBut hs (cne y c e)}
  obtain⟨e,n,ne,nf,d⟩:=I.pin p hp;exact{(hs.2 p.1 ne).trans e,n,ne,nf,d}
 have hfn:X.fn x=true:=by
  rcases hf with z|z
  ·exact z
  rw[z]at hk;cases hk
 obtain⟨c,hc⟩:=I.ok.has x (.inl hk)
 obtain⟨w',z⟩:=I.cell x c hc
 refine wpAny_storeName_cell I.ok.kind hk hc z (λh' hc' hs=>?_)
 obtain⟨oc,hoc,hocd⟩:=id z
 refine h { s with heap:=h' } ⟨I.ok,I.os,I.bare,⟨λb o e n hb hx=>?_,λb o e n hb hx=>?_,I.base.free,λb o e hx=>?_,I.base.ve,I.base.rH,I.base.vg⟩,⟨m,hn.sameBut hs (Pr (cne x c hc)),λj y v' e1 e2 e3=>?_⟩,λy c' e=>?_,I.free,I.j8,λp hp=>?_,tracked ⟨oc,hoc,I.j8 x c hc⟩ hs,by simpa using I.len⟩ ⟨c,hs,.inr hc⟩
 ·exact(hs.2 b (Pw (Px (RX e) (I.ok.cab x c hfn hc)))).trans (I.base.keep b o e n hb hx)
 ·obtain⟨sl,e1⟩:=I.base.slot b o e n hb hx;exact{sl,(hs.2 b (Pw (Px (RX e) (I.ok.cab x c hfn hc)))).trans e1}
 ·obtain⟨o',e1⟩:=I.base.there b o e hx;exact{o',(hs.2 b (Pw (Px (RX e) (I.ok.cab x c hfn hc)))).trans e1}
 ·by_cases hj:j=i
  ·subst hj;rw[hi]at e1;cases e1;rw[Rb hiσ]at e2;cases e2;exact{u,r,.inr ⟨.inl hk,c,hc,hc'⟩}
  rw[V2 (Pr hj)]at e2;obtain⟨u',r',q⟩:=hl j y v' e1 e2 e3;refine{u',r',?_};rcases q with q|⟨k,c',e,z'⟩
  ·exact .inl q
  refine .inr {k,c',e,z'.sameBut hs ?_};rintro rfl;exact hj (zw hN e1 (I.ok.inj _ _ _ e hc▸hi))
 ·by_cases hcc:c'=c
  ·subst hcc;exact{_,hc'}
  obtain⟨w2,z2⟩:=I.cell y c' e;exact⟨w2,z2.sameBut hs hcc⟩
 obtain⟨e,n,ne,nf,d⟩:=I.pin p hp
 refine{(hs.2 p.1 ?_).trans e,n,ne,nf,d}
 intro q
 rw[q,hoc]at e
 have q':oc=p.2:=R6 e
 exact d w' (by rw[<-q'];exact hocd)
theorem sI(I:Inv X pins B H s)(hN:X.N.Nodup)(hi:X.N[i]?=YH x)(hx:Loc X.env.scope x)(r:YM v u)
  (h:∀s',Inv X pins (B.set i (YH v)) H s'->Q Unit.unit s') (hf:X.fn x=true\/X.env.scope.names.lookup x=YH .local:=by first|exact .inl rfl|exact .inr rfl|assumption):wpAny M A (Yw X.env x u) Q E s:=
 DK I hN hi hx r (λs' I' _=>h s' I') hf
theorem Inv.Ni(I:Inv X pins B H s)(ho:s'.os=s.os)(u:Un (frs X.stack) ch H H' s.heap s'.heap)(Æ:ü X.prog X.w H' s'.heap)(hg:Vh s'.gens)
  (hch:∀b∈ch,(b∈X.ex\/X.s₀.heap.objs.size<=b)/\b≠X.env.locals/\(∀x c,X.env.cells.lookup x=YH c->c≠b)/\∀p∈X.pn++pins,p.1≠b):Inv X pins B H' s':=by
 obtain⟨h',g',d',t',o'⟩:=s'
 have e:o'=s.os:=ho
 subst e
 exact I.call (g':=g') (t':=t') (d':=d') u Æ hg hch
end
noncomputable abbrev XK:=RI->Option RJ->Hp->Prop
noncomputable abbrev St:=List (Option V)
noncomputable abbrev VK:=V->Hp->Prop
noncomputable abbrev TE:=St->Hp->VK->Prop
noncomputable abbrev TT:=St->Hp->(Bool->Hp->Prop)->Prop
noncomputable abbrev TA:=St->Hp->(List V->Hp->Prop)->Prop
structure Y1 where
 nx:St->Hp->Prop
 rt:VK
 bk:St->Hp->Prop:=λ_ _=>False
 ct:St->Hp->Prop:=λ_ _=>False
noncomputable abbrev TS:=Y1->St->Hp->Prop
inductive EP(X:Cx)(pins:List (RJ×Obj))(B:St)(Q:VK)(u:RI)(s':RN):Prop
 |mk(v:V)(H':Hp)(h0:Inv X pins B H' s')(h1:YM v u)(h2:Q v H'):EP X pins B Q u s'
inductive TP(X:Cx)(pins:List (RJ×Obj))(B:St)(Q:Bool->Hp->Prop)(b:Bool)(s':RN):Prop
 |mk(H':Hp)(h0:Inv X pins B H' s')(h1:Q b H'):TP X pins B Q b s'
inductive AP(X:Cx)(pins:List (RJ×Obj))(B:St)(Q:List V->Hp->Prop)(us:List RI)(s':RN):Prop
 |mk(vs:List V)(H':Hp)(h0:Inv X pins B H' s')(h1:YK vs us)(h2:Q vs H'):AP X pins B Q us s'
inductive NP(X:Cx)(pins:List (RJ×Obj))(q:St->Hp->Prop)(s':RN):Prop
 |mk(B':St)(H':Hp)(h0:Inv X pins B' H' s')(h1:q B' H'):NP X pins q s'
inductive RP(X:Cx)(pins:List (RJ×Obj))(q:VK)(u:RI)(s':RN):Prop
 |mk(v:V)(B':St)(H':Hp)(h0:Inv X pins B' H' s')(h1:YM v u)(h2:q v H'):RP X pins q u s'
def SP(X:Cx)(pins:List (RJ×Obj))(D:Y1)(f:Flow)(s':RN):Prop:=
 match f with
 | .next=>NP X pins D.nx s'
 | .brk=>NP X pins D.bk s'
 | .cont=>NP X pins D.ct s'
 | .ret u=>RP X pins D.rt u s'
def PE(X:Cx)(e:Expr)(t:TE):Prop:=
 ∀(pins:List (RJ×Obj))(s:RN)(B:St)(H:Hp)(Q:VK),Inv X pins B H s->t B H Q->wpAny (RY X.prog X.w) X.A (SD e X.env) (EP X pins B Q) X.xe s
def PT(X:Cx)(e:Expr)(t:TT):Prop:=
 ∀(pins:List (RJ×Obj))(s:RN)(B:St)(H:Hp)(Q:Bool->Hp->Prop),Inv X pins B H s->t B H Q->wpAny (RY X.prog X.w) X.A (isTrue e X.env (SD e X.env)) (TP X pins B Q) X.xe s
def PW(X:Cx)(e:Expr)(t:TT):Prop:=
 ∀(whole:Sem RI)(pins:List (RJ×Obj))(s:RN)(B:St)(H:Hp)(Q:Bool->Hp->Prop),Inv X pins B H s->t B H Q->wpAny (RY X.prog X.w) X.A (isTrue e X.env whole) (TP X pins B Q) X.xe s
theorem PW.pt(h:PW X e t):PT X e t:=h _
def PA(X:Cx)(es:List Expr)(t:TA):Prop:=
 ∀(pos:Pos)(pins:List (RJ×Obj))(s:RN)(B:St)(H:Hp)(Q:List V->Hp->Prop),Inv X pins B H s->t B H Q->wpAny (RY X.prog X.w) X.A (YB (SJ pos (RV es X.env))) (AP X pins B Q) X.xe s
def PS(X:Cx)(st:Si)(t:TS):Prop:=
 ∀(pins:List (RJ×Obj))(s:RN)(B:St)(H:Hp)(D:Y1),Inv X pins B H s->t D B H->wpAny (RY X.prog X.w) X.A (exec st X.env) (SP X pins D) X.xe s
def Ĳ(X:Cx)(st:List Si)(t:TS):Prop:=
 ∀(pins:List (RJ×Obj))(s:RN)(B:St)(H:Hp)(D:Y1),Inv X pins B H s->t D B H->wpAny (RY X.prog X.w) X.A (execs st X.env) (SP X pins D) X.xe s
theorem Ì(h:wpAny M A t Q E s)(hQ:∀a s,Q a s->Q' a s):wpAny M A t Q' E s:=Tw h hQ λ_ _ x=>x
section
variable{X:Cx}
noncomputable def OU(i:Nat):TE:=λB H Q=>∃v,B[i]?=YH (YH v)/\Q v H
noncomputable def tC(v:V):TE:=λ_ H Q=>Q v H
theorem J6(hN:X.N[i]?=YH x)(hv:Vis X.env.scope x)(hd:(x==("__debug__":Str))=false:=by decide)(ņ:(x==("__classdict__":Str))=false:=by decide):PE X (.Name x pos) (OU i):=by
 intro pins s B H Q I h;obtain⟨v,e,h⟩:=h;obtain⟨m,hn,hl⟩:=I.loc;obtain⟨u,r,l⟩:=hl i x v hN e hv;have fin:EP X pins B Q u s:=⟨v,H,I,r,h⟩;rcases l with⟨hk,hm⟩|⟨hk,c,hc,ÿ⟩
 ·exact X1 (V3 I.ok.kind hk hn hm fin) hd
 rcases hk with hk|hk
 ·exact X1 (Wt I.ok.kind hk hc ÿ fin) hd
 exact X1 (wpAny_loadName_free I.ok.kind hk hc ÿ fin ņ) hd
theorem af{i j pos}:PE X (.Constant (.int i) j pos) (tC (.int i)):=λ_ _ _ H _ I h=>WL {.int i,H,I.tok _,{_,rfl},h}
theorem dQ{b j pos}:PE X (.Constant (.bool b) j pos) (tC (.bl b)):=λ_ _ _ H _ I h=>Constant_bool ⟨.bl b,H,I,rfl,h⟩
theorem bX{j pos}:PE X (.Constant .none j pos) (tC .Ë):=λ_ _ _ H _ I h=>Constant_none ⟨.Ë,H,I,rfl,h⟩
theorem aw{x j pos}:PE X (.Constant (.str x) j pos) (tC (.str x)):=λ_ _ _ H _ I h=>Calls.Constant_str {.str x,H,I.tok _,{_,rfl},h}
def Gl(X:Cx)(x:Str):Prop:=X.env.kindOf x=YH .globalImplicit
theorem pU(I:Inv X pins B H s)(hg:Gl X x)(hm:X.mg x=YH u)(h:Q u s)
  (hd:(x==("__debug__":Str))=false:=by decide):wpAny (RY X.prog X.w) X.A (SD (.Name x pos) X.env) Q E s:=
 U6 I.ok.kind hg (Calls.loadGlobal_global (by rw[I.ok.glob];exact I.mod.glob.keeps I.bk) hm h) hd
theorem lP(I:Inv X pins B H s)(hg:Gl X x)(hm:X.mg x=YI)(hv:TB x=YH u)(h:Q u s)
  (hn:x≠"__name__":=by decide) (hd:(x==("__debug__":Str))=false:=by decide):wpAny (RY X.prog X.w) X.A (SD (.Name x pos) X.env) Q E s:=by
 obtain⟨mb,h1,h2⟩:=I.mod.blt
 exact U6 I.ok.kind hg (Calls.loadGlobal_builtin (by rw[I.ok.glob];exact I.mod.glob.keeps I.bk) hm (by rw[I.ok.blt];exact h1.keeps I.bk) ((h2 x hn).trans hv) h) hd
theorem BY(hg:Gl X x)(hm:X.mg x=YH u)(r:YM v u)(hd:(x==("__debug__":Str))=false:=by decide):PE X (.Name x pos) (tC v):=
 λ_ _ _ H _ I h=>pU I hg hm ⟨v,H,I,r,h⟩ hd
theorem pY(hg:Gl X x)(hm:X.mg x=YI)(hv:TB x=YH u)(r:YM v u)(hn:x≠"__name__":=by decide)(hd:(x==("__debug__":Str))=false:=by decide):PE X (.Name x pos) (tC v):=
 λ_ _ _ H _ I h=>lP I hg hm hv ⟨v,H,I,r,h⟩ hn hd
variable{a b:Expr}{ta tb:TE}{pos:Pos}
variable{tA tB':TT}{rest:List Expr}
noncomputable def NV(t u:TT):TT:=λB H Q=>t B H λc H1=>if c=true then u B H1 Q else Q false H1
noncomputable def tOr(t u:TT):TT:=λB H Q=>t B H λc H1=>if c=true then Q true H1 else u B H1 Q
noncomputable def OI(t:TT):TT:=λB H Q=>t B H λc H1=>Q (!c) H1
theorem pw_and1(ha:PT X a tA):PW X (.BoolOp .And [a] pos) tA:=by
 intro wh pins s B H Q I h;refine isTrue_and (Ì (ha pins s B H Q I h) λc s1 e=>?_);cases c with
 |true=>exact isTrue_and_nil e
 |false=>exact e
theorem pw_or1(ha:PT X a tA):PW X (.BoolOp .Or [a] pos) tA:=by
 intro wh pins s B H Q I h;refine isTrue_or (Ì (ha pins s B H Q I h) λc s1 e=>?_);cases c with
 |false=>exact isTrue_or_nil e
 |true=>exact e
theorem pw_and(ha:PT X a tA)(hb:PW X (.BoolOp .And (b::rest) pos) tB'):PW X (.BoolOp .And (a::b::rest) pos) (NV tA tB'):=by
 intro wh pins s B H Q I h;refine isTrue_and (Ì (ha pins s B H _ I h) λc s1 z9=>?_);obtain⟨H1,I1,q1⟩:=z9;cases c with
 |true=>exact hb wh pins s1 B H1 Q I1 q1
 |false=>exact⟨H1,I1,q1⟩
theorem pw_or(ha:PT X a tA)(hb:PW X (.BoolOp .Or (b::rest) pos) tB'):PW X (.BoolOp .Or (a::b::rest) pos) (tOr tA tB'):=by
 intro wh pins s B H Q I h;refine isTrue_or (Ì (ha pins s B H _ I h) λc s1 z9=>?_);obtain⟨H1,I1,q1⟩:=z9;cases c with
 |true=>exact⟨H1,I1,q1⟩
 |false=>exact hb wh pins s1 B H1 Q I1 q1
theorem i5(ha:PT X a tA):PT X (.UnaryOp .Not a pos) (OI tA):=by
 intro pins s B H Q I h;exact isTrue_not (Ì (ha pins s B H (λc H1=>Q (!c) H1) I h) λc s1 ⟨H1,I1,q1⟩=>⟨H1,I1,q1⟩)
noncomputable def OM(ta tb:TE):TE:=λB H Q=>ta B H λx H1=>∃c,x=.bl c/\if c=true then Q (.bl true) H1 else tb B H1 Q
theorem L8{op}(h:PE X a t):PE X (.BoolOp op [a] pos) t:=λpins s B H Q I hw=>BoolOp_one (h pins s B H Q I hw)
theorem Gr(ha:PE X a ta)(hb:PE X (.BoolOp .Or (b::rest) pos) tb):PE X (.BoolOp .Or (a::b::rest) pos) (OM ta tb):=by
 intro pins s B H Q I h;refine BoolOp_or (Ì (ha pins s B H _ I h) λv s1 z9=>?_);obtain⟨x,H1,I1,r1,q1⟩:=z9;obtain⟨c,rfl,q1⟩:=q1;cases r1;refine Vi ?_;cases c with
 |false=>exact hb pins s1 B H1 Q I1 q1
 |true=>exact⟨.bl true,H1,I1,rfl,q1⟩
noncomputable def tIf(t:TT)(ta tb:TE):TE:=λB H Q=>t B H λc H1=>if c=true then ta B H1 Q else tb B H1 Q
theorem Eg(hc:PT X c tA)(ha:PE X a ta)(hb:PE X b tb):PE X (.IfExp c a b pos) (tIf tA ta tb):=by
 intro pins s B H Q I h;refine wpAny_IfExp (Ì (hc pins s B H _ I h) λd s1 z9=>?_);obtain⟨H1,I1,q1⟩:=z9;cases d with
 |true=>exact ha pins s1 B H1 Q I1 q1
 |false=>exact hb pins s1 B H1 Q I1 q1
end
def À(K:RS)(H:Hp)(a:RJ)(xs:List V):Prop:=
 Rd H a (.lst xs)\/
  ∃(o:Obj)(Â:Array RI)(n:Nat),K.lookup a=YH o/\o.cls=.type "list"/\o.dict=YI/\o.data=.seq Â n/\Â.size<=sizeLine/\YK xs Â.toList
def È(K:RS)(H:Hp)(a:RJ)(xs:List V):Prop:=
 Rd H a (.tup xs)\/
  ∃(o:Obj)(Â:Array RI)(n:Nat),K.lookup a=YH o/\o.cls=.type "tuple"/\o.data=.seq Â n/\Â.size<=sizeLine/\YK xs Â.toList
noncomputable def Oh:RI->Option V
 | .none=>YH .Ë
 | .bool b=>YH (.bl b)
 | .int i _=>YH (.int i)
 | .str x _=>YH (.str x)
 | .bytes b _=>YH (.Ļ b)
 | .float b _=>YH (.flt b)
 | .ref a=>YH (.ref a)
 | .type n=>YH (.ty n)
 |_=>YI
theorem YM.abs(r:YM x u):Oh u=YH x:=by
 cases x with
 |Ë=>cases r;rfl
 |bl _=>cases r;rfl
 |int _=>obtain⟨t,rfl⟩:=r;rfl
 |str _=>obtain⟨t,rfl⟩:=r;rfl
 |Ļ _=>obtain⟨t,rfl⟩:=r;rfl
 |flt _=>obtain⟨t,rfl⟩:=r;rfl
 |ref _=>cases r;rfl
 |ty _=>cases r;rfl
theorem YM.inj(r:YM x u)(q:YM y u):x=y:=R6 (r.abs.symm.trans q.abs)
theorem YK.inj:∀{xs ys:List V}{us:List RI},YK xs us->YK ys us->xs=ys:=by
 intro xs ys us h;induction h generalizing ys with
 |nil=>intro g;cases g;rfl
 |cons r _ ih=>intro g;cases g with
  |cons r' t'=>rw[r.inj r',ih t']
section
variable{X:Cx}{pins:List (RJ×Obj)}{B:St}{H:Hp}{s:RN}{a:RJ}{xs ys:List V}
theorem À.of{K:RS}(h:H a=YH (.lst xs)):À K H a xs:=.inl (.inl h)
theorem È.of{K:RS}(h:H a=YH (.tup xs)):È K H a xs:=.inl (.inl h)
theorem Inv.list(I:Inv X pins B H s)(h:À X.K H a xs):∃Â:List RI,YK xs Â/\PlainL s.heap a Â.toArray/\xs.length<=sizeLine:=by
 rcases h with h|⟨o,Â,n,hk,hc,hd,hs,hz,r⟩
 ·obtain⟨z,Â,n,r,e⟩:=h.ok I.Æ;exact{Â,r,{_,n,e,rfl,rfl,rfl},z}
 refine{Â.toList,r,⟨o,n,I.ý a o hk,hc,hd,by simpa using hs⟩,?_};have e:=r.length;simp only[PH]at e;lia
theorem Inv.tuple(I:Inv X pins B H s)(h:È X.K H a xs):∃Â:List RI,YK xs Â/\IsTup s.heap a Â.toArray/\xs.length<=sizeLine:=by
 rcases h with h|⟨o,Â,n,hk,hc,hs,hz,r⟩
 ·obtain⟨z,Â,r,p⟩:=h.ok I.Æ;exact⟨Â,r,p,z⟩
 refine{Â.toList,r,⟨o,I.ý a o hk,hc,n,by simpa using hs⟩,?_};have e:=r.length;simp only[PH]at e;lia
theorem Inv.tB(I:Inv X pins B H s)(h:À X.K H a xs)(h':À X.K H a ys):xs=ys:=by
 obtain⟨Â,r,⟨o,n,e,_,_,d⟩,_⟩:=I.list h;obtain⟨its',r',⟨o',n',e',_,_,d'⟩,_⟩:=I.list h';rw[e]at e';cases e';rw[d]at d';injection d' with d1 _;have:Â=its':=by simpa using congrArg Array.toList d1
 subst this;exact r.inj r'
theorem Inv.Dv(I:Inv X pins B H s)(h:È X.K H a xs)(h':È X.K H a ys):xs=ys:=by
 obtain⟨Â,r,⟨o,e,_,n,d⟩,_⟩:=I.tuple h;obtain⟨its',r',⟨o',e',_,n',d'⟩,_⟩:=I.tuple h';rw[e]at e';cases e';rw[d]at d';injection d' with d1 _;have:Â=its':=by simpa using congrArg Array.toList d1
 subst this;exact r.inj r'
end
noncomputable abbrev Cx.u9(X:Cx)(E:RI->RN->Prop):Cx:={ X with xe:=E }
noncomputable abbrev Cx.nox(X:Cx):Cx:=X.u9 λ_ _=>False
theorem Cx.Ok.u9{X:Cx}(ok:X.Ok)(E:RI->RN->Prop):(X.u9 E).Ok:=
 ⟨ok.mod,ok.kind,ok.glob,ok.blt,ok.above,ok.inj,ok.has,ok.cab,ok.hd,ok.frames,ok.stk,ok.exf,ok.bs,ok.bsz,ok.Fq,ok.FN,ok.rG,ok.frf⟩
theorem Cx.Ok.mI{X:Cx}{E:RI->RN->Prop}(ok:(X.u9 E).Ok):X.Ok:=
 ⟨ok.mod,ok.kind,ok.glob,ok.blt,ok.above,ok.inj,ok.has,ok.cab,ok.hd,ok.frames,ok.stk,ok.exf,ok.bs,ok.bsz,ok.Fq,ok.FN,ok.rG,ok.frf⟩
section
variable{X:Cx}{pins:List (RJ×Obj)}{B:St}{H:Hp}{s:RN}{E:RI->RN->Prop}
theorem Inv.u9(I:Inv X pins B H s)(E:RI->RN->Prop):Inv (X.u9 E) pins B H s:=⟨I.ok.u9 E,I.os,I.bare,I.base,I.loc,I.cell,I.free,I.j8,I.pin,I.Æ,I.len⟩
theorem Inv.mI(I:Inv (X.u9 E) pins B H s):Inv X pins B H s:=⟨I.ok.mI,I.os,I.bare,I.base,I.loc,I.cell,I.free,I.j8,I.pin,I.Æ,I.len⟩
theorem SP.mI(h:SP (X.u9 E) pins D f s'):SP X pins D f s':=by
 cases f with
 |next=>obtain⟨B',H',I,q⟩:=h;exact⟨B',H',I.mI,q⟩
 |brk=>obtain⟨B',H',I,q⟩:=h;exact⟨B',H',I.mI,q⟩
 |cont=>obtain⟨B',H',I,q⟩:=h;exact⟨B',H',I.mI,q⟩
 |ret u=>obtain⟨v,B',H',I,r,q⟩:=h;exact⟨v,B',H',I.mI,r,q⟩
theorem Ĳ.nox{st:List Si}{t:TS}(h:Ĳ X.nox st t):Ĳ X st t:=λpins s B H D I hw=>
 Tw (h pins s B H D (I.u9 _) hw) (λ_ _ q=>q.mI) λ_ _ z=>SO z
end
section
variable{X:Cx}{st:Si}{rest:List Si}{t u:TS}{e:Expr}{te:TE}{pos:Pos}
noncomputable def MZ:TS:=λD B H=>D.nx B H
noncomputable def Mr(t u:TS):TS:=λD B H=>t { D with nx:=u D } B H
theorem aF:Ĳ X [] MZ:=λ_ _ B H _ I h=>UR ⟨B,H,I,h⟩
theorem ae(h1:PS X st t)(h2:Ĳ X rest u):Ĳ X (st::rest) (Mr t u):=by
 intro pins s B H D I h;refine Xr (Ì (h1 pins s B H { D with nx:=u D } I h) λf s1 q=>?_);cases f with
 |next=>
  obtain⟨B',H',I',q⟩:=q;exact h2 pins s1 B' H' D I' q
 |ret v=>exact q
 |brk=>exact q
 |cont=>exact q
theorem ai(h1:PS X st t):Ĳ X [st] t:=by
 intro pins s B H D I h;refine Xr (Ì (h1 pins s B H D I h) λf s1 q=>?_);cases f with
 |next=>exact UR q
 |ret v=>exact q
 |brk=>exact q
 |cont=>exact q
theorem Inv.quiet(I:Inv X pins B H s):interactive X.env=false:=by simp[interactive,I.ok.kind]
noncomputable def MF(te:TE):TS:=λD B H=>te B H λ_ H1=>D.nx B H1
theorem aR(he:PE X e te)(hs:Wl e YI pos.line X.env=pure false:=by rfl):PS X (.Expr e pos) (MF te):=by
 intro pins s B H D I h;exact wpAny_Expr_any (Ì (he pins s B H _ I h) λv s1 ⟨x,H1,I1,r1,q1⟩=>⟨B,H1,I1,q1⟩) I.quiet hs
noncomputable def ON(te:TE):TS:=λD B H=>te B H D.rt
theorem aD(he:PE X e te):PS X (.Return (YH e) pos) (ON te):=by
 intro pins s B H D I h;exact wpAny_Return_some (Ì (he pins s B H _ I h) λv s1 ⟨x,H1,I1,r1,q1⟩=>⟨x,B,H1,I1,r1,q1⟩)
noncomputable def Ot(c:TT)(t u:TS):TS:=λD B H=>c B H λb H1=>if b=true then t D B H1 else u D B H1
theorem aS(hc:PT X c tc)(ha:Ĳ X a t)(hb:Ĳ X b u):PS X (.If c a b pos) (Ot tc t u):=by
 intro pins s B H D I h;refine wpAny_If (Ì (hc pins s B H _ I h) λd s1 z9=>?_);obtain⟨H1,I1,q1⟩:=z9;cases d with
 |true=>exact ha pins s1 B H1 D I1 q1
 |false=>exact hb pins s1 B H1 D I1 q1
end
noncomputable abbrev TG:=V->St->Hp->(St->Hp->Prop)->Prop
noncomputable abbrev TGs:=List V->St->Hp->(St->Hp->Prop)->Prop
def PG(X:Cx)(target:Expr)(t:TG):Prop:=
 ∀(pins:List (RJ×Obj))(s:RN)(B:St)(H:Hp)(v:V)(u:RI)(Q:St->Hp->Prop),Inv X pins B H s->YM v u->t v B H Q->
  wpAny (RY X.prog X.w) X.A (assign target X.env u) (λ_ s'=>NP X pins Q s') X.xe s
def PGs(X:Cx)(ts:List Expr)(t:TGs):Prop:=
 ∀(pins:List (RJ×Obj))(s:RN)(B:St)(H:Hp)(vs:List V)(us:List RI)(Q:St->Hp->Prop),Inv X pins B H s->YK vs us->t vs B H Q->
  wpAny (RY X.prog X.w) X.A (assignInOrder ((U7 ts X.env).map (·.2)) us) (λ_ s'=>NP X pins Q s') X.xe s
noncomputable abbrev K7:=V->V->V->Hp->(Hp->Prop)->Prop
def Fb(X:Cx)(t:K7):Prop:=
 ∀(pins:List (RJ×Obj))(s:RN)(B:St)(H:Hp)(o i v:V)(ov iv u:RI)(Q:Hp->Prop),Inv X pins B H s->YM o ov->YM i iv->YM v u->t o i v H Q->
  wpAny (RY X.prog X.w) X.A (setItem ov iv u) (λ_ s'=>∃H',Inv X pins B H' s'/\Q H') X.xe s
noncomputable abbrev TIp:=V->V->Hp->VK->Prop
def PIp(X:Cx)(op:Operator)(t:TIp):Prop:=
 ∀(pins:List (RJ×Obj))(s:RN)(B:St)(H:Hp)(x y:V)(v u:RI)(Q:VK),Inv X pins B H s->YM x v->YM y u->t x y H Q->
  wpAny (RY X.prog X.w) X.A (inplaceOp op v u) (EP X pins B Q) X.xe s
section
variable{X:Cx}{pos:Pos}
noncomputable def pO(i:Nat):TG:=λv B H Q=>Q (B.set i (YH v)) H
theorem BG(hN:X.N.Nodup)(hi:X.N[i]?=YH x)(hx:Loc X.env.scope x)(hf:X.fn x=true\/X.env.scope.names.lookup x=YH .local:=by first|exact .inl rfl|exact .inr rfl|assumption):PG X (.Name x pos) (pO i):=by
 intro pins s B H v u Q I r h;exact wpAny_assign_Name (sI I hN hi hx r (λs' I'=>{_,H,I',h}) hf)
noncomputable def Oo:TGs:=λvs B H Q=>vs=[]/\Q B H
noncomputable def Nf(t:TG)(u:TGs):TGs:=λvs B H Q=>∃v r,vs=v::r/\t v B H λB' H'=>u r B' H' Q
theorem cc:PGs X [] Oo:=by
 intro pins s B H vs us Q I r h;obtain⟨e,h⟩:=h;subst e;cases r;exact assignInOrder_nil ⟨B,H,I,h⟩
theorem aN(h1:PG X e t)(h2:PGs X es u)
  (hs:(U7 (e::es) X.env).map (·.2)=assign e X.env::(U7 es X.env).map (·.2):=by rfl):PGs X (e::es) (Nf t u):=by
 intro pins s B H vs us Q I r h
 obtain⟨v,vr,e1,h⟩:=h
 subst e1
 cases r with
 |cons r rr=>
  rw[hs]
  refine assignInOrder_cons (Ì (h1 pins s B H _ _ _ I r h) λ_ s1 z9=>?_);obtain⟨σ1,H1,I1,q1⟩:=z9
  exact h2 pins s1 σ1 H1 _ _ Q I1 rr q1
inductive MS(K:RS)(n:Nat)(v:V)(H:Hp)(R:List V->Prop):Prop
 |mk(a:RJ)(xs:List V)(h0:v=.ref a)(h1:È K H a xs)(h2:xs.length=n)(q:R xs):MS K n v H R
noncomputable def OO(K:RS)(n:Nat)(t:TGs):TG:=λv B H Q=>MS K n v H (λxs=>t xs B H Q)
theorem dj(hc:X.calm=true)(h:PGs X es t)
  (hn:(U7 es X.env).length=n:=by rfl) (hst:(U7 es X.env).findIdx? (·.1)=YI:=by rfl):PG X (.Tuple es k pos) (OO X.K n t):=by
 intro pins s B H v u Q I r hw
 obtain⟨a,xs,e1,hq,hl,hw⟩:=hw
 subst e1
 cases r
 obtain⟨Â,rv,ht,hz⟩:=I.tuple hq
 refine assign_Tuple_tuple (I.ok.hd hc) ht (by simp[hn,<-hl,rv.length]) hst λh' hx=>?_
 have I1:Inv X pins B H { s with heap:=h' }:=I.kept (t':=s.toks) λb o e=>hx b o (Pw (RX e)) e
 exact h pins _ B H xs _ Q I1 (by simpa using rv) hw
noncomputable def OG(to ti:TE)(t:K7):TG:=λv B H Q=>to B H λo H1=>ti B H1 λi H2=>t o i v H2 λH3=>Q B H3
theorem fD(ho:PE X o to)(hi:PE X i ti)(hs:Fb X t)
  (ha:∀v,assign (.Subscript o i pos) X.env v=(do
   let ov<-UY [v] (SD o X.env)
   let iv<-UY [v,ov] (SD i X.env)
   Xc pos
   UY [v,ov,iv] (setItem ov iv v)
   release [v,ov,iv] []):=by intro _;rfl):PG X (.Subscript o i pos) (OG to ti t):=by
 intro pins s B H v u Q I r h
 rw[ha]
 refine E9 (wpAny_holding (Ì (ho pins s B H _ I h) λov s1 z9=>?_));obtain⟨x,H1,I1,r1,q1⟩:=z9
 refine E9 (wpAny_holding (Ì (hi pins s1 B H1 _ I1 q1) λiv s2 z9=>?_));obtain⟨y,H2,I2,r2,q2⟩:=z9
 refine E9 (Vm (E9 (wpAny_holding (Ì (hs pins s2 B H2 x y v ov iv u _ I2 r1 r2 r q2) λ_ s3 z9=>?_))));obtain⟨H3,I3,q3⟩:=z9
 exact wpAny_release ⟨B,H3,I3,q3⟩
noncomputable def IW(te:TE)(g:TG):TS:=λD B H=>te B H λx H1=>g x B H1 D.nx
theorem bR(he:PE X e te)(hg:PG X tg g)(hs:swapsWithSole [tg] e pos.line X.env=pure false:=by rfl)(hw:swappedStores [tg] e X.env=pure YI:=by rfl)
  (h1:(U7 [tg] X.env).map (·.2)=[assign tg X.env]:=by rfl):PS X (.Assign [tg] e pos) (IW te g):=by
 intro pins s B H D I h
 refine wpAny_Assign_stores (Ì (he pins s B H _ I h) λv s1 ⟨x,H1,I1,r1,q1⟩=>?_) hs hw
 rw[h1]
 exact Ì (hg pins s1 B H1 x v _ I1 r1 q1) λ_ s2 q=>q
theorem Lp(hN:X.N.Nodup)(hi:X.N[i]?=YH x)(hx:Loc X.env.scope x)(he:PE X e te)(hs:Wl e (YH (.Name x pos')) pos.line X.env=pure false:=by rfl)(hf:X.fn x=true\/X.env.scope.names.lookup x=YH .local:=by first|exact .inl rfl|exact .inr rfl|assumption) :
  PS X (.Assign [.Name x pos'] e pos) (IW te (pO i)):=by
 intro pins s B H D I h
 refine wpAny_Assign_Name (Ì (he pins s B H _ I h) λv s1 ⟨y,H1,I1,r1,q1⟩=>?_) hs
 exact sI I1 hN hi hx r1 (λs2 I2=>{_,H1,I2,q1}) hf
noncomputable def OE(i:Nat)(te:TE)(ti:TIp):TS:=λD B H=>∃x,B[i]?=YH (YH x)/\te B H λy H1=>ti x y H1 λz H2=>D.nx (B.set i (YH z)) H2
theorem Gf(hN:X.N.Nodup)(hi:X.N[i]?=YH x)(hx:Loc X.env.scope x)(he:PE X e te)(ho:PIp X op ti)(hf:X.fn x=true\/X.env.scope.names.lookup x=YH .local:=by first|exact .inl rfl|exact .inr rfl|assumption) :
  PS X (.AugAssign (.Name x pos') op e pos) (OE i te ti):=by
 intro pins s B H D I h
 obtain⟨v,e1,h⟩:=h
 obtain⟨m,hn,hl⟩:=I.loc
 have vis:Vis X.env.scope x:=by rcases hx with k|k;exact .inl k;exact .inr (.inl k)
 obtain⟨u,r,l⟩:=hl i x v hi e1 vis
 refine wpAny_AugAssign_Name ?_
 have go:wpAny (RY X.prog X.w) X.A (SD e X.env) (λw s₂=>wpAny (RY X.prog X.w) X.A (inplaceOp op u w) (λr s₃=>wpAny (RY X.prog X.w) X.A (Yw X.env x r) (λ_=>SP X pins D .next) X.xe s₃) X.xe s₂) X.xe s:=by
  refine Ì (he pins s B H _ I h) λw s1 z9=>?_;obtain⟨y,H1,I1,r1,q1⟩:=z9;refine Ì (ho pins s1 B H1 v y u w _ I1 r r1 q1) λz s2 z9=>?_;obtain⟨zv,H2,I2,r2,q2⟩:=z9;exact sI I2 hN hi hx r2 (λs3 I3=>{_,H2,I3,q2}) hf
 rcases l with⟨hk,hm⟩|⟨hk,c,hc,ÿ⟩
 ·exact V3 I.ok.kind hk hn hm go
 rcases hk with hk|hk
 ·exact Wt I.ok.kind hk hc ÿ go
 rcases hx with k|k
 ·have:X.env.scope.names.lookup x=YH .free:=hk;rw[k]at this;cases this
 have:X.env.scope.names.lookup x=YH .free:=hk
 rw[k]at this;cases this
noncomputable def ipI(f:Int->Int->Int):TIp:=λx y H Q=>∃i j,x=.int i/\y=.int j/\Q (.int (f i j)) H
theorem Ef:PIp X .Add (ipI λi j=>i+j):=by
 intro pins s B H x y v u Q I r1 r2 h;obtain⟨i,j,e1,e2,q⟩:=h;subst e1;subst e2;obtain⟨t,rfl⟩:=r1;obtain⟨t',rfl⟩:=r2;exact iadd_int {.int _,H,I.tok _,{_,rfl},q}
noncomputable def Lc(c:TT)(tb:TS):TS:=λD B H=>∃W:Nat->St->Hp->Prop,(∃m,W m B H)/\∀m B H,W m B H->
 c B H λb H1=>if b=true then ∃N:St->Hp->Prop,(∀B' H',N B' H'->∃m',m'<m/\W m' B' H')/\tb { D with nx:=N,ct:=N,bk:=D.nx } B H1 else D.nx B H1
theorem ir(hp:Yx (RY X.prog X.w) X.A X.env X.xe)(hc:PT X c tc)(hb:Ĳ X body tb):PS X (.While c body [] pos) (Lc tc tb):=by
 intro pins s B H D I h;obtain⟨W,⟨m0,w0⟩,turn⟩:=h;refine wpAny_While (codeAny_whileLoop (λn s'=>NP X pins (W n) s') ?_ m0 ⟨B,H,I,w0⟩);rintro n s1 ⟨σ1,H1,I1,w1⟩;refine Tz hp (Ì (hc pins s1 σ1 H1 _ I1 (turn n σ1 H1 w1)) λb s2 z9=>?_);obtain⟨H2,I2,q2⟩:=z9;cases b with
 |true=>
  obtain⟨N,hN,q2⟩:=q2;rw[if_pos rfl];refine Tz hp (Ì (hb pins s2 σ1 H2 _ I2 q2) λf s3 q3=>?_);cases f with
  |next=>
   obtain⟨σ3,H3,I3,n3⟩:=q3;obtain⟨m',hm,w3⟩:=hN σ3 H3 n3;exact⟨m',hm,σ3,H3,I3,w3⟩
  |cont=>
   obtain⟨σ3,H3,I3,n3⟩:=q3;obtain⟨m',hm,w3⟩:=hN σ3 H3 n3;exact⟨m',hm,σ3,H3,I3,w3⟩
  |brk=>exact q3
  |ret v=>exact q3
 |false=>
  rw[if_neg Pa];exact UR ⟨σ1,H2,I2,q2⟩
end
structure It where
 go:Nat->Hp->Prop
 Ř:Nat->Hp->V->Hp->Prop
 stop:Nat->Hp->Prop
def sO(X:Cx)(pins:List (RJ×Obj))(H:Hp)(b:RJ):Prop:=
 H b=YI/\b≠X.env.locals/\b∉X.fs/\(b∈X.ex\/X.s₀.heap.objs.size<=b)/\(∀x c,X.env.cells.lookup x=YH c->c≠b)/\∀p∈X.pn++pins,p.1≠b
theorem Inv.yc(I:Inv X pins B H s)(hb:s.heap.objs.size<=b)(hn:H' b=YI):sO X pins H' b:=by
 refine{hn,Qv (Px I.lt hb),I.Nw hb,.inr (Pf I.sz hb),λx c e z=>?_,λp hp z=>?_}
 ·obtain⟨v,q⟩:=I.cell x c e;exact absurd (Px q.lt (by rw[z];exact hb)) (Qt _)
 exact absurd (Px (RX (I.pin p hp).1) (by rw[z];exact hb)) (Qt _)
structure Y2(P:Program)(w:R5)(K:RS)(tg:Expr)(J:It)(fp:List RJ)(it:RJ)(tn:Nat->So->Prop):Prop where
 mem:it∈fp
 obj:∀i h,tn i h->∀b∈fp,∃o,h.get? b=YH o/\∀v,o.data≠ .cell v
 keep:∀i h h',tn i h->(∀b∈fp,∀o,h.get? b=YH o->h'.get? b=YH o)->tn i h'
 item:∀(X:Cx),X.prog=P->X.w=w->X.K=K->X.calm=true->∀(i:Nat)(pins:List (RJ×Obj))(s:RN)(B:St)(H:Hp)(E:RI->RN->Prop),Inv X pins B H s->(∀b∈fp,sO X pins H b)->tn i s.heap->J.go i H->
  wpAny (RY P w) X.A (V4 (.ref it)) (λr s1=>∃u,r=YH u/\
   wpAny (RY P w) X.A (US tg (.ref it) u) (λ_ s2=>∃x H',Inv X pins B H' s2/\YM x u/\J.Ř i H x H'/\tn (i+1) s2.heap/\∀b∈fp,H' b=YI) E s1) E s
 done:∀(X:Cx),X.prog=P->X.w=w->X.K=K->X.calm=true->∀(i:Nat)(pins:List (RJ×Obj))(s:RN)(B:St)(H:Hp)(E:RI->RN->Prop),Inv X pins B H s->(∀b∈fp,sO X pins H b)->tn i s.heap->J.stop i H->
  wpAny (RY P w) X.A (V4 (.ref it)) (λr s1=>r=YI/\Inv X pins B H s1) E s
 self:∀(A:Sq)(i:Nat)(s:RN)(Q:RI->RN->Prop)(E:RI->RN->Prop),tn i s.heap->Q (.ref it) s->wpAny (RY P w) A (YC (.ref it)) Q E s
noncomputable abbrev TI:=St->Hp->(It->Hp->Prop)->Prop
def PIE(X:Cx)(pins:List (RJ×Obj))(B:St)(tg:Expr)(R:It->Hp->Prop)(itv:RI)(s2:RN):Prop:=
 ∃(it:RJ)(fp:List RJ)(tn:Nat->So->Prop)(J:It)(H':Hp),itv=.ref it/\Inv X pins B H' s2/\Y2 X.prog X.w X.K tg J fp it tn/\tn 0 s2.heap/\(∀b∈fp,sO X pins H' b)/\R J H'
def PI(X:Cx)(tg iter:Expr)(wi:TI):Prop:=
 ∀(pins:List (RJ×Obj))(s:RN)(B:St)(H:Hp)(R:It->Hp->Prop),Inv X pins B H s->wi B H R->
  wpAny (RY X.prog X.w) X.A (SD iter X.env) (λv s1=>wpAny (RY X.prog X.w) X.A (YC v) (PIE X pins B tg R) X.xe s1) X.xe s
theorem wg(ho:s.heap.get? it=YH o)(hc:o.cls=.type n)(hd:o.data=.fields vs)
    (hn:["enumerate","zip","dict_itemiterator","dict_reverseitemiterator","odict_iterator","itertools.zip_longest","itertools.pairwise"].contains n=false) (hQ:Q Unit.unit s):wpAny M A (US tg (.ref it) u) Q E s:=by
  unfold US
  cases tg<;>first
    |exact RK hQ
    | (cases u<;>first
        |exact RK hQ
        | (refine E9 (VE ho ?_)
           rw[hc,hd]
           show wpAny M A (if(["enumerate","zip","dict_itemiterator","dict_reverseitemiterator","odict_iterator","itertools.zip_longest","itertools.pairwise"].contains n&&vs[0]?==YH (VF _))=true then _ else _) Q E s
           rw[if_neg (by intro h;rw[hn,Bool.false_and]at h;cases h)]
           exact RK hQ))
noncomputable def Itl(K:RS)(a:RJ):It:=
 {λi H=>∃xs x,À K H a xs/\xs[i]?=YH x,λi H x H'=>H'=H/\∀xs,À K H a xs->xs[i]?=YH x,λi H=>∃xs,À K H a xs/\xs.length<=i}
noncomputable def Itt(K:RS)(a:RJ):It:=
 {λi H=>∃xs x,È K H a xs/\xs[i]?=YH x,λi H x H'=>H'=H/\∀xs,È K H a xs->xs[i]?=YH x,λi H=>∃xs,È K H a xs/\xs.length<=i}
noncomputable def Itr(lo:Int)(n:Nat):It:={λi _=>i<n,λi H x H'=>H'=H/\x=.int (lo+i),λi _=>n<=i}
theorem DN{P:Program}{w:R5}{K:RS}{tg:Expr}(a it:RJ):Y2 P w K tg (Itl K a) [it] it (λi h=>h.IsListIter it a i) where
 mem:=by simp
 obj:=λi h st b hb=>by
  have e:b=it:=by simpa using hb
  subst e;obtain⟨o,e,c,d⟩:=st;exact{o,e,λv z=>by rw[d]at z;cases z}
 keep:=λi h h' st k=>st.at λo e=>k it (by simp) o e
 item:=by
  intro X hP hw hK hc i pins s B H E I hf st hg;subst hP hw hK;obtain⟨xs,x,hq,hx⟩:=hg;obtain⟨Â,rv,p,hz⟩:=I.list hq;obtain⟨u,hu,ru⟩:=rv.get hx;obtain⟨f0,f1,f2,f3,f4,f5⟩:=hf it (by simp);refine VG st p.isList (x:=u) (by simpa using hu) λh' Å sb=>?_;have I1:Inv X pins B H { s with heap:=h' }:=I.turned (t':=s.toks) (λb o hb e=>(sb.2 b hb).trans e) f0 f1 f3 f4 f5;obtain⟨o,e,c,d⟩:=id Å;exact{u,rfl,wg (s:={ s with heap:=h' }) e c d ∅ ⟨x,H,I1,ru,⟨rfl,λys hy=>by rw[I.tB hy hq];exact hx⟩,Å,λb hb=>(hf b hb).1⟩}
 done:=by
  intro X hP hw hK hc i pins s B H E I hf st hg;subst hP hw hK;obtain⟨xs,hq,hx⟩:=hg;obtain⟨Â,rv,p,hz⟩:=I.list hq;obtain⟨f0,f1,f2,f3,f4,f5⟩:=hf it (by simp);have hl:=rv.length;exact VT (I.ok.hd hc) st p.isList (by simp;lia) λh' eb=>{rfl,I.turned (t':=s.toks) (λb o hb e=>eb b o hb e) f0 f1 f3 f4 f5}
 self:=λ_ _ _ _ _ st h=>wpAny_pyIter_listiter st h
theorem AF{P:Program}{w:R5}{K:RS}{tg:Expr}(a it:RJ):Y2 P w K tg (Itt K a) [it] it (λi h=>h.IsTupleIter it a i) where
 mem:=by simp
 obj:=λi h st b hb=>by
  have e:b=it:=by simpa using hb
  subst e;obtain⟨o,e,c,d⟩:=st;exact{o,e,λv z=>by rw[d]at z;cases z}
 keep:=λi h h' st k=>st.at λo e=>k it (by simp) o e
 item:=by
  intro X hP hw hK hc i pins s B H E I hf st hg;subst hP hw hK;obtain⟨xs,x,hq,hx⟩:=hg;obtain⟨Â,rv,p,hz⟩:=I.tuple hq;obtain⟨u,hu,ru⟩:=rv.get hx;obtain⟨f0,f1,f2,f3,f4,f5⟩:=hf it (by simp);refine wpAny_pyNext_tuple_item st (show s.heap.IsTuple a Â.toArray from p) (x:=u) (by simpa using hu) λh' Å sb=>?_;have I1:Inv X pins B H { s with heap:=h' }:=I.turned (t':=s.toks) (λb o hb e=>(sb.2 b hb).trans e) f0 f1 f3 f4 f5;obtain⟨o,e,c,d⟩:=id Å;exact{u,rfl,wg (s:={ s with heap:=h' }) e c d ∅ ⟨x,H,I1,ru,⟨rfl,λys hy=>by rw[I.Dv hy hq];exact hx⟩,Å,λb hb=>(hf b hb).1⟩}
 done:=by
  intro X hP hw hK hc i pins s B H E I hf st hg;subst hP hw hK;obtain⟨xs,hq,hx⟩:=hg;obtain⟨Â,rv,p,hz⟩:=I.tuple hq;obtain⟨f0,f1,f2,f3,f4,f5⟩:=hf it (by simp);have hl:=rv.length;exact wpAny_pyNext_tuple_end (I.ok.hd hc) st (show s.heap.IsTuple a Â.toArray from p) (by simp;lia) λh' eb=>{rfl,I.turned (t':=s.toks) (λb o hb e=>eb b o hb e) f0 f1 f3 f4 f5}
 self:=λ_ _ _ _ _ st h=>wpAny_pyIter_tupleiter st h
theorem Aw{P:Program}{w:R5}{K:Uc}{tg:Expr}(it:RJ)(lo:Int)(n:Nat):Y2 P w K tg (Itr lo n) [it] it (λi h=>V5 h it (lo+(i:Nat)*1) ((n:Int)-(i:Nat)) 1) where
 mem:=by simp
 obj:=λi h st b hb=>by
  have e:b=it:=by simpa using hb
  subst e;exact⟨_,st,λv z=>by
   have z':XI _=Wm v:=z;cases z'⟩
 keep:=λi h h' st k=>k it (by simp) _ st
 item:=by
  intro X hP hw hK hc i pins s B H E I hf st hg;subst hP hw hK;obtain⟨f0,f1,f2,f3,f4,f5⟩:=hf it (by simp);have W:=Walks.range (prog:=X.prog) (w:=X.w) (I.ok.hd hc) it lo 1 n;refine W.item i s _ _ hg st λv h' tk hv Å kk=>?_;obtain⟨t,rfl⟩:=hv;have I1:Inv X pins B H { s with heap:=h',toks:=tk }:=I.turned (λb o hb e=>kk b o (by simpa using hb) e) f0 f1 f3 f4 f5;refine⟨_,rfl,wg (s:={ s with heap:=h',toks:=tk }) (n:="range_iterator") Å rfl rfl ∅ ⟨.int (lo+i),H,I1,⟨t,?_⟩,⟨rfl,rfl⟩,Å,λb hb=>(hf b hb).1⟩⟩;rw[Int.mul_one]
 done:=by
  intro X hP hw hK hc i pins s B H E I hf st hg;subst hP hw hK;obtain⟨f0,f1,f2,f3,f4,f5⟩:=hf it (by simp);exact VH (I.ok.hd hc) st (by have:n<=i:=hg;lia) λh' eb=>{rfl,I.turned (t':=s.toks) (λb o hb e=>eb b o hb e) f0 f1 f3 f4 f5}
 self:=λ_ _ _ _ _ st h=>VI st h
section
variable{X:Cx}{tg:Expr}
theorem Eh{pins:List (RJ×Obj)}{B:St}{H:Hp}{s:RN}{R:It->Hp->Prop}{E:RI->RN->Prop}{lo hi:Int}{t u v:Tok}{tk:Nat}(I:Inv X pins B H s)(h1:-(2^62)<=lo)(h2:lo<2^62)(h3:-(2^62)<=hi)(h4:hi<2^62)
  (q:R (Itr lo (hi-lo).toNat) H):wpAny (RY X.prog X.w) X.A (YC (.ref s.heap.objs.size)) (PIE X pins B tg R) E { s with heap:=s.heap.push { cls:=.type "range",data:=.fields #[.int lo t,.int hi u,.int 1 v] },toks:=tk }:=by
 refine WM (IsRange.new ..) (small_one h1 h2 h3 h4) ?_
 have I1:Inv X pins B H { s with heap:=s.heap.push { cls:=.type "range",data:=.fields #[.int lo t,.int hi u,.int 1 v] },toks:=tk }:=I.kept λb o e=>RL _ e
 refine⟨(s.heap.push { cls:=.type "range",data:=.fields #[.int lo t,.int hi u,.int 1 v] }).objs.size,[(s.heap.push { cls:=.type "range",data:=.fields #[.int lo t,.int hi u,.int 1 v] }).objs.size],_,_,H,rfl,
  I1.kept (t':=tk) λb o e=>RL _ e,Aw _ lo (hi-lo).toNat,?_,λb hb=>?_,q⟩
 ·have e1:lo+((0:Nat):Int)*1=lo:=by simp
  have e2:(((hi-lo).toNat:Nat):Int)-((0:Nat):Int)=SE lo hi 1:=by rw[rangeSize_one];split<;>lia
  show V5 _ _ (lo+((0:Nat):Int)*1) ((((hi-lo).toNat:Nat):Int)-((0:Nat):Int)) 1;rw[e1,e2];exact RZ _ rfl
 have e:b=(s.heap.push { cls:=.type "range",data:=.fields #[.int lo t,.int hi u,.int 1 v] }).objs.size:=by simpa using hb
 subst e
 exact I1.yc (O4 _) (I1.Æ.fresh (O4 _))
inductive MM(vs:List V)(H:Hp)(R:It->Hp->Prop):Prop
 |mk(j:Int)(h0:vs=[.int j])(h1:-(2^62)<=j)(h2:j<2^62)(q:R (Itr 0 j.toNat) H):MM vs H R
noncomputable def ML(ta:TA):TI:=λB H R=>ta B H λvs H1=>MM vs H1 R
theorem dA(hg:Gl X "range")(hm:X.mg "range"=YI)(ha:PA X [a] ta)(hs:RV [a] X.env=[(false,SD a X.env)]:=by rfl):PI X tg (.Call (.Name "range" p) [a] [] pos) (ML ta):=by
 intro pins s B H R I h;refine Call_ (lP I hg hm boot_range (SU (Ì (ha pos pins s B H _ I h) λus s1 ⟨vs,H1,I1,r1,q1⟩=>?_) hs rfl));obtain⟨j,e,q1,q2,q⟩:=q1;subst e;cases r1 with
 |cons r rr=>
  cases rr;obtain⟨t,rfl⟩:=r;exact call_range_1 (Eh I1 () () q1 q2 (by simpa using q))
noncomputable def Ow(wi:TI)(g:TG)(tb:TS):TS:=λD B H=>wi B H λJ H1=>∃W:Nat->Nat->St->Hp->Prop,(∃m,W 0 m B H1)/\∀i m B H,W i m B H->
 (J.stop i H/\D.nx B H)\/(J.go i H/\∃N:St->Hp->Prop,(∀B' H',N B' H'->∃m',m'<m/\W (i+1) m' B' H')/\∀x H',J.Ř i H x H'->g x B H' λσ2 H2=>tb { D with nx:=N,ct:=N,bk:=D.nx } σ2 H2)
noncomputable def uo(fp:List RJ)(h:So):List (RJ×Obj):=fp.filterMap λb=>(h.get? b).map λo=>(b,o)
theorem kP(hb:b∈fp)(e:h.get? b=YH o):(b,o)∈uo fp h:=List.mem_filterMap.mpr {b,hb,by rw[e];rfl}
theorem Dm(hp:p∈uo fp h):p.1∈fp/\h.get? p.1=YH p.2:=by
 obtain⟨b,hb,e⟩:=List.mem_filterMap.mp hp;cases q:h.get? b with
 |none=>rw[q]at e;cases e
 |some o=>
  rw[q]at e;have e':(b,o)=p:=R6 e;subst e';exact⟨hb,q⟩
theorem Inv.pinned(I:Inv X pins B H s)(hf:∀b∈fp,sO X pins H b)(ho:∀b∈fp,∃o,s.heap.get? b=YH o/\∀v,o.data≠ .cell v):Inv X (pins++uo fp s.heap) B H s:=
 I.wI λp hp=>(O5.mp hp).elim (λz=>I.pin p (Pc _ z)) λz=>by
  obtain⟨hb,e⟩:=Dm z;obtain⟨f0,f1,f2,_⟩:=hf p.1 hb;obtain⟨o,e',d⟩:=ho p.1 hb;rw[e]at e';cases e';exact⟨e,f0,f1,f2,d⟩
theorem Inv.ng(I:Inv X (pins++pl) B H s):Inv X pins B H s:=I.wI λp hp=>I.pin p (Pc _ (Ph _ hp))
theorem bS(hp:Yx (RY X.prog X.w) X.A X.env X.xe)(hc:X.calm=true)(hi:PI X tg iter wi)(hg:PG X tg g)(hb:Ĳ X body tb)
  (hs:∀x,foldedSetIterable iter X.env x=pure x:=by intro _;rfl):PS X (.For tg iter body [] pos) (Ow wi g tb):=by
 intro pins s B H D I h
 refine wpAny_For (Ì (hi pins s B H _ I h) λv s1 h1=>Ì h1 λitv s2 h2=>?_) hs
 obtain⟨it,fp,tn,J,H2,e,I2,T,Ń,f2,W,⟨m0,w0⟩,turn⟩:=h2
 subst e
 have ŏ:∀{H':Hp},(∀b∈fp,H' b=YI)->∀b∈fp,sO X pins H' b:=λhn b hb=>{hn b hb,(f2 b hb).2}
 refine codeAny_forLoop_any (λn s'=>∃i B' H',Inv X pins B' H' s'/\tn i s'.heap/\(∀b∈fp,H' b=YI)/\W i n B' H') ?_ m0 {0,B,H2,I2,Ń,λb hb=>(f2 b hb).1,w0}
 rintro n s3 ⟨i,σ3,H3,I3,st3,fr3,w3⟩
 rcases turn i n σ3 H3 w3 with⟨stop,qn⟩|⟨go,N,hN,step⟩
 ·refine Tz hp (Ì (T.done X rfl rfl rfl hc i pins s3 σ3 H3 X.xe I3 (ŏ fr3) st3 stop) λr s4 z9=>?_);obtain⟨hr,I4⟩:=z9;subst hr;exact UR ⟨σ3,H3,I4,qn⟩
 refine Tz hp (Ì (T.item X rfl rfl rfl hc i pins s3 σ3 H3 X.xe I3 (ŏ fr3) st3 go) λr s4 z9=>?_);obtain⟨u,hr,h4⟩:=z9
 subst hr
 refine Tz hp (Ì h4 λ_ s5 z9=>?_);obtain⟨x,H5,I5,r5,y5,st5,fr5⟩:=z9
 have I5':=I5.pinned (ŏ fr5) (T.obj _ _ st5)
 refine Tz hp (Ì (hg _ s5 σ3 H5 x u _ I5' r5 (step x H5 y5)) λ_ s6 z9=>?_);obtain⟨σ6,H6,I6,q6⟩:=z9
 refine Tz hp (Ì (hb _ s6 σ6 H6 _ I6 q6) λf s7 q7=>?_)
 have again:∀{σ7:St}{H7:Hp},Inv X (pins++uo fp s5.heap) σ7 H7 s7->N σ7 H7->∃m,m<n/\∃i B' H',Inv X pins B' H' s7/\tn i s7.heap/\(∀b∈fp,H' b=YI)/\W i m B' H':=λ{σ7 H7} I7 n7=>by
  obtain⟨m',hm,w7⟩:=hN σ7 H7 n7;refine{m',hm,i+1,σ7,H7,I7.ng,T.keep _ _ _ st5 λb hb o e=>(I7.pin (b,o) (Pc _ (Pc _ (kP hb e)))).1,λb hb=>?_,w7};obtain⟨o,e,d⟩:=T.obj _ _ st5 b hb;exact(I7.pin (b,o) (Pc _ (Pc _ (kP hb e)))).2.1
 cases f with
 |next=>obtain⟨σ7,H7,I7,n7⟩:=q7;exact again I7 n7
 |cont=>obtain⟨σ7,H7,I7,n7⟩:=q7;exact again I7 n7
 |brk=>obtain⟨σ7,H7,I7,q7⟩:=q7;exact⟨σ7,H7,I7.ng,q7⟩
 |ret v=>obtain⟨x7,σ7,H7,I7,r7,q7⟩:=q7;exact⟨x7,σ7,H7,I7.ng,r7,q7⟩
end
theorem bQ{K:Uc}{a:RJ}{xs:List V}{g:TG}{tb:TS}{D:Y1}{B:St}{H:Hp}(Pv:Nat->St->Hp->Prop)(h0:Pv 0 B H)(hl:∀i B H,i<=xs.length->Pv i B H->À K H a xs)
  (hs:∀i x B H,xs[i]?=YH x->Pv i B H->g x B H λσ2 H2=>tb { D with nx:=Pv (i+1),ct:=Pv (i+1),bk:=D.nx } σ2 H2) (hd:∀B H,Pv xs.length B H->D.nx B H) :
  ∃W:Nat->Nat->St->Hp->Prop,(∃m,W 0 m B H)/\∀i m B H,W i m B H->
   ((Itl K a).stop i H/\D.nx B H)\/((Itl K a).go i H/\∃N:St->Hp->Prop,(∀B' H',N B' H'->∃m',m'<m/\W (i+1) m' B' H')/\∀x H',(Itl K a).Ř i H x H'->g x B H' λσ2 H2=>tb { D with nx:=N,ct:=N,bk:=D.nx } σ2 H2):=by
 refine{λi m B H=>m=xs.length-i/\i<=xs.length/\Pv i B H,{xs.length,by simp,Pd _,h0},?_}
 rintro i m B H ⟨rfl,hi,p⟩
 have q:=hl i B H hi p
 by_cases Ý:i<xs.length
 ·refine .inr {{xs,xs[i],q,by simp[Ý]},Pv (i+1),λB' H' p'=>{xs.length-(i+1),(),rfl,Ý,p'},λx H' y=>?_};obtain⟨e,y⟩:=y;subst e;exact hs i x B _ (y xs q) p
 have e:i=xs.length:=()
 subst e
 exact .inl {{xs,q,O4 _},hd B H p}
theorem IP{K:Uc}{a:RJ}{xs:List V}{g:TG}{tb:TS}{D:Y1}{B:St}{H:Hp}(Pv:Nat->St->Hp->Prop)(h0:Pv 0 B H)(hl:∀i B H,i<=xs.length->Pv i B H->È K H a xs)
  (hs:∀i x B H,xs[i]?=YH x->Pv i B H->g x B H λσ2 H2=>tb { D with nx:=Pv (i+1),ct:=Pv (i+1),bk:=D.nx } σ2 H2) (hd:∀B H,Pv xs.length B H->D.nx B H) :
  ∃W:Nat->Nat->St->Hp->Prop,(∃m,W 0 m B H)/\∀i m B H,W i m B H->
   ((Itt K a).stop i H/\D.nx B H)\/((Itt K a).go i H/\∃N:St->Hp->Prop,(∀B' H',N B' H'->∃m',m'<m/\W (i+1) m' B' H')/\∀x H',(Itt K a).Ř i H x H'->g x B H' λσ2 H2=>tb { D with nx:=N,ct:=N,bk:=D.nx } σ2 H2):=by
 refine{λi m B H=>m=xs.length-i/\i<=xs.length/\Pv i B H,{xs.length,by simp,Pd _,h0},?_}
 rintro i m B H ⟨rfl,hi,p⟩
 have q:=hl i B H hi p
 by_cases Ý:i<xs.length
 ·refine .inr {{xs,xs[i],q,by simp[Ý]},Pv (i+1),λB' H' p'=>{xs.length-(i+1),(),rfl,Ý,p'},λx H' y=>?_};obtain⟨e,y⟩:=y;subst e;exact hs i x B _ (y xs q) p
 have e:i=xs.length:=()
 subst e
 exact .inl {{xs,q,O4 _},hd B H p}
theorem j5{lo:Int}{n:Nat}{g:TG}{tb:TS}{D:Y1}{B:St}{H:Hp}(Pv:Nat->St->Hp->Prop)(h0:Pv 0 B H)
  (hs:∀i B H,i<n->Pv i B H->g (.int (lo+i)) B H λσ2 H2=>tb { D with nx:=Pv (i+1),ct:=Pv (i+1),bk:=D.nx } σ2 H2) (hd:∀B H,Pv n B H->D.nx B H) :
  ∃W:Nat->Nat->St->Hp->Prop,(∃m,W 0 m B H)/\∀i m B H,W i m B H->
   ((Itr lo n).stop i H/\D.nx B H)\/((Itr lo n).go i H/\∃N:St->Hp->Prop,(∀B' H',N B' H'->∃m',m'<m/\W (i+1) m' B' H')/\∀x H',(Itr lo n).Ř i H x H'->g x B H' λσ2 H2=>tb { D with nx:=N,ct:=N,bk:=D.nx } σ2 H2):=by
 refine{λi m B H=>m=n-i/\i<=n/\Pv i B H,{n,by simp,Pd _,h0},?_}
 rintro i m B H ⟨rfl,hi,p⟩
 by_cases Ý:i<n
 ·refine .inr {Ý,Pv (i+1),λB' H' p'=>{n-(i+1),(),rfl,Ý,p'},λx H' y=>?_};obtain⟨e,y⟩:=y;subst e y;exact hs i B _ Ý p
 have e:i=n:=()
 subst e
 exact .inl {O4 _,hd B H p}
noncomputable abbrev R2:=V->V->Hp->VK->Prop
def Ó(X:Cx)(f:RI->RI->Sem RI)(r:R2):Prop:=
 ∀(pins:List (RJ×Obj))(s:RN)(B:St)(H:Hp)(x y:V)(v u:RI)(Q:VK),Inv X pins B H s->YM x v->YM y u->r x y H Q->
  wpAny (RY X.prog X.w) X.A (f v u) (EP X pins B Q) X.xe s
def UnR(X:Cx)(f:RI->Sem RI)(r:V->Hp->VK->Prop):Prop:=
 ∀(pins:List (RJ×Obj))(s:RN)(B:St)(H:Hp)(x:V)(v:RI)(Q:VK),Inv X pins B H s->YM x v->r x H Q->
  wpAny (RY X.prog X.w) X.A (f v) (EP X pins B Q) X.xe s
def dU(X:Cx)(f:RI)(r:List V->Hp->VK->Prop):Prop:=
 ∀(pins:List (RJ×Obj))(s:RN)(B:St)(H:Hp)(xs:List V)(us:List RI)(Q:VK),Inv X pins B H s->YK xs us->r xs H Q->
  wpAny (RY X.prog X.w) X.A (call f us) (EP X pins B Q) X.xe s
def N8(X:Cx)(r:V->Hp->(Bool->Hp->Prop)->Prop):Prop:=
 ∀(pins:List (RJ×Obj))(s:RN)(B:St)(H:Hp)(x:V)(v:RI)(Q:Bool->Hp->Prop),Inv X pins B H s->YM x v->r x H Q->
  wpAny (RY X.prog X.w) X.A (truthy v) (TP X pins B Q) X.xe s
noncomputable def tOp(r:R2)(ta tb:TE):TE:=λB H Q=>ta B H λx H1=>tb B H1 λy H2=>r x y H2 Q
noncomputable def tUn(r:V->Hp->VK->Prop)(ta:TE):TE:=λB H Q=>ta B H λx H1=>r x H1 Q
noncomputable def rI(C:Int->Int->Prop)(g:Int->Int->V):R2:=λx y H Q=>∃i j,x=.int i/\y=.int j/\C i j/\Q (g i j) H
noncomputable def rI0(g:Int->Int->V):R2:=λx y H Q=>∃i j,x=.int i/\y=.int j/\Q (g i j) H
def rU(g:Int->V):V->Hp->VK->Prop:=λx H Q=>∃i,x=.int i/\Q (g i) H
section
variable{X:Cx}{a b c:Expr}{ta tb tc:TE}{pos:Pos}
theorem LV(ha:PE X a ta)(hb:PE X b tb){B:St}{H:Hp}{R:V->V->Hp->Prop}(I:Inv X pins B H s)
  (h:ta B H λx H1=>tb B H1 λy H2=>R x y H2) {Q:RI->RN->Prop}{f:RI->RI->Sem RI}
  (hf:∀v u s2 x y H2,Inv X pins B H2 s2->YM x v->YM y u->R x y H2->wpAny (RY X.prog X.w) X.A (f v u) Q X.xe s2) :
  wpAny (RY X.prog X.w) X.A (SD a X.env) (λv s₁=>wpAny (RY X.prog X.w) X.A (SD b X.env) (λu s₂=>wpAny (RY X.prog X.w) X.A (f v u) Q X.xe s₂) X.xe s₁) X.xe s:=by
 refine Ì (ha pins s B H _ I h) λv s1 z9=>?_;obtain⟨x,H1,I1,r1,q1⟩:=z9
 refine Ì (hb pins s1 B H1 _ I1 q1) λu s2 z9=>?_;obtain⟨y,H2,I2,r2,q2⟩:=z9
 exact hf v u s2 x y H2 I2 r1 r2 q2
theorem az(ho:Ó X (SX op) r)(ha:PE X a ta)(hb:PE X b tb):PE X (.BinOp a op b pos) (tOp r ta tb):=by
 intro pins s B H Q I h;exact wpAny_BinOp (LV ha hb I h λv u s2 x y H2 I2 rx ry q=>ho pins s2 B H2 x y v u Q I2 rx ry q)
theorem oa(ho:UnR X (unaryOp op) r)(ha:PE X a ta):PE X (.UnaryOp op a pos) (tUn r ta):=by
 intro pins s B H Q I h;exact UnaryOp_ (Ì (ha pins s B H _ I h) λv s1 ⟨x,H1,I1,r1,q1⟩=>ho pins s1 B H1 x v Q I1 r1 q1)
theorem opI{f:RI->RI->Sem RI}{C:Int->Int->Prop}{g:Int->Int->Int}
  (rule:∀(i j:Int)(t u:Tok)(s:RN)(Q:RI->RN->Prop)(E:RI->RN->Prop),C i j->Q (.int (g i j) s.toks) { s with toks:=s.toks+1 }->wpAny (RY X.prog X.w) X.A (f (.int i t) (.int j u)) Q E s) :
  Ó X f (rI C λi j=>.int (g i j)):=by
 intro pins s B H x y v u Q I rx ry h
 obtain⟨i,j,rfl,rfl,hc,q⟩:=h
 obtain⟨t,rfl⟩:=rx
 obtain⟨t',rfl⟩:=ry
 exact rule i j t t' s _ _ hc {.int (g i j),H,I.tok _,{_,rfl},q}
theorem Kj{f:RI->RI->Sem RI}{g:Int->Int->Int}
  (rule:∀(i j:Int)(t u:Tok)(s:RN)(Q:RI->RN->Prop)(E:RI->RN->Prop),Q (.int (g i j) s.toks) { s with toks:=s.toks+1 }->wpAny (RY X.prog X.w) X.A (f (.int i t) (.int j u)) Q E s) :
  Ó X f (rI0 λi j=>.int (g i j)):=by
 intro pins s B H x y v u Q I rx ry h
 obtain⟨i,j,rfl,rfl,q⟩:=h
 obtain⟨t,rfl⟩:=rx
 obtain⟨t',rfl⟩:=ry
 exact rule i j t t' s _ _ {.int (g i j),H,I.tok _,{_,rfl},q}
theorem Kb{f:RI->RI->Sem RI}{g:Int->Int->Bool}
  (rule:∀(i j:Int)(t u:Tok)(s:RN)(Q:RI->RN->Prop)(E:RI->RN->Prop),Q (.bool (g i j)) s->wpAny (RY X.prog X.w) X.A (f (.int i t) (.int j u)) Q E s) :
  Ó X f (rI0 λi j=>.bl (g i j)):=by
 intro pins s B H x y v u Q I rx ry h
 obtain⟨i,j,rfl,rfl,q⟩:=h
 obtain⟨t,rfl⟩:=rx
 obtain⟨t',rfl⟩:=ry
 exact rule i j t t' s _ _ {.bl (g i j),H,I,rfl,q}
def Fc(i j:Int):Prop:=0<=j/\j<=1000000/\i.natAbs<2^64
def Dl(i j:Int):Prop:=(-(2^64)<i/\i<2^64)\/(-(2^64)<j/\j<2^64)
theorem Dl.ok(h:Dl i j):IntMulOk i j:=by
 rcases h with⟨h1,h2⟩|⟨h1,h2⟩
 ·exact .of_left (intBits_le_64 h1 h2)
 exact .of_right (intBits_le_64 h1 h2)
theorem Km:Ó X (SX .Add) (rI0 λi j=>.int (i+j)):=Kj λ_ _ _ _ _ _ _ q=>add_int q
theorem Kx:Ó X (SX .Sub) (rI0 λi j=>.int (i-j)):=Kj λ_ _ _ _ _ _ _ q=>sub_int q
theorem LZ:Ó X (SX .Mult) (rI Dl λi j=>.int (i*j)):=opI λ_ _ _ _ _ _ _ hc q=>mul_int q hc.ok
theorem LO:Ó X (SX .Mod) (rI (λ_ j=>0<j) λi j=>.int (i%j)):=opI λi j _ _ _ _ _ hc q=>by
 have h1:(0:Int)<j:=hc;exact mod_int' () (by rw[Int.fmod_eq_emod_of_nonneg i ()];exact q)
theorem JT:Ó X (SX .Pow) (rI Fc λi j=>.int (i^j.toNat)):=opI λ_ _ _ _ _ _ _ hc q=>pow_int_small hc.1 hc.2.1 hc.2.2 q
theorem LS:Ó X (SX .LShift) (rI Fc λi j=>.int (i*2^j.toNat)):=opI λ_ _ _ _ _ _ _ hc q=>lshift_int_small hc.1 hc.2.1 hc.2.2 q
theorem Mv:Ó X (SX .BitOr) (rI0 λi j=>.int (SF i j)):=Kj λ_ _ _ _ _ _ _ q=>or_int q
theorem unI{f:RI->Sem RI}{g:Int->Int}
  (rule:∀(i:Int)(t:Tok)(s:RN)(Q:RI->RN->Prop)(E:RI->RN->Prop),Q (.int (g i) s.toks) { s with toks:=s.toks+1 }->wpAny (RY X.prog X.w) X.A (f (.int i t)) Q E s) :
  UnR X f (rU λi=>.int (g i)):=by
 intro pins s B H x v Q I rx h
 obtain⟨i,rfl,q⟩:=h
 obtain⟨t,rfl⟩:=rx
 exact rule i t s _ _ {.int (g i),H,I.tok _,{_,rfl},q}
theorem jm:UnR X (unaryOp .USub) (rU λi=>.int (-i)):=unI λ_ _ _ _ _ q=>neg_int q
noncomputable def Dz:V->V->Bool
 | .Ë,.Ë=>true| .Ë,.int _=>true| .int _,.Ë=>true| .Ë,.bl _=>true| .bl _,.Ë=>true| .Ë,.str _=>true| .str _,.Ë=>true
 | .int _,.int _=>true| .bl _,.bl _=>true| .str _,.str _=>true| .Ļ _,.Ļ _=>true
 | .int _,.str _=>true| .str _,.int _=>true| .bl _,.str _=>true| .str _,.bl _=>true
 |_,_=>false
noncomputable def rEq:R2:=λx y H Q=>Dz x y=true/\Q (.bl (decide (x=y))) H
noncomputable def rNe:R2:=λx y H Q=>Dz x y=true/\Q (.bl (!decide (x=y))) H
theorem CA:decide (V.int i=V.int j)=(i==j):=by
 rw[Qw];simp
theorem FZ:decide (V.bl i=V.bl j)=(i==j):=by
 rw[Qw];simp
theorem BS:decide (V.str i=V.str j)=(i==j):=by
 rw[Qw];simp
theorem Cw:decide (V.Ļ i=V.Ļ j)=(i.toList==j.toList):=by
 rw[Qw];cases i;cases j;simp
theorem bC(I:Inv X pins B H s)(q:Q (.bl k) H)(e:k=k'):EP X pins B Q (.bool k') s:=by
 subst e;exact⟨.bl k,H,I,rfl,q⟩
theorem MD:Ó X (Sf .Eq) rEq:=by
 intro pins s B H x y v u Q I rx ry h;obtain⟨hs,q⟩:=h;cases x with
 |Ë=>
  cases rx;cases y with
  |Ë=>cases ry;exact PySem.EqNone.eq_none_none (bC I q (by simp))
  |bl j=>cases ry;exact PySem.EqNone.eq_none_bool (bC I q (by simp))
  |int j=>obtain⟨t',rfl⟩:=ry;exact PySem.EqNone.eq_none_int (bC I q (by simp))
  |str j=>obtain⟨t',rfl⟩:=ry;exact PySem.EqNone.eq_none_str (bC I q (by simp))
  |_=>exact absurd (show false=true from hs) Pa
 |bl i=>
  cases rx;cases y with
  |Ë=>cases ry;exact PySem.EqNone.eq_bool_none (bC I q (by simp))
  |bl j=>cases ry;exact eq_bool (bC I q FZ)
  |str j=>obtain⟨t',rfl⟩:=ry;exact PySem.EqMixed.eq_bool_str (bC I q (by simp))
  |_=>exact absurd (show false=true from hs) Pa
 |int i=>
  obtain⟨t,rfl⟩:=rx;cases y with
  |Ë=>cases ry;exact PySem.EqNone.eq_int_none (bC I q (by simp))
  |int j=>obtain⟨t',rfl⟩:=ry;exact eq_int (bC I q CA)
  |str j=>obtain⟨t',rfl⟩:=ry;exact PySem.EqMixed.eq_int_str (bC I q (by simp))
  |_=>exact absurd (show false=true from hs) Pa
 |str i=>
  obtain⟨t,rfl⟩:=rx;cases y with
  |Ë=>cases ry;exact PySem.EqNone.eq_str_none (bC I q (by simp))
  |bl j=>cases ry;exact PySem.EqMixed.eq_str_bool (bC I q (by simp))
  |int j=>obtain⟨t',rfl⟩:=ry;exact PySem.EqMixed.eq_str_int (bC I q (by simp))
  |str j=>obtain⟨t',rfl⟩:=ry;exact eq_str (bC I q BS)
  |_=>exact absurd (show false=true from hs) Pa
 |Ļ i=>
  obtain⟨t,rfl⟩:=rx;cases y with
  |Ļ j=>obtain⟨t',rfl⟩:=ry;exact W.eq_bytes (bC I q Cw)
  |_=>exact absurd (show false=true from hs) Pa
 |_=>cases y<;>exact absurd (show false=true from hs) Pa
theorem NI:Ó X (Sf .NotEq) rNe:=by
 intro pins s B H x y v u Q I rx ry h;obtain⟨hs,q⟩:=h;cases x with
 |Ë=>
  cases rx;cases y with
  |Ë=>cases ry;exact PySem.EqNone.ne_none_none (bC I q (by simp))
  |bl j=>cases ry;exact PySem.EqNone.ne_none_bool (bC I q (by simp))
  |int j=>obtain⟨t',rfl⟩:=ry;exact PySem.EqNone.ne_none_int (bC I q (by simp))
  |str j=>obtain⟨t',rfl⟩:=ry;exact PySem.EqNone.ne_none_str (bC I q (by simp))
  |_=>exact absurd (show false=true from hs) Pa
 |bl i=>
  cases rx;cases y with
  |Ë=>cases ry;exact PySem.EqNone.ne_bool_none (bC I q (by simp))
  |bl j=>cases ry;exact ne_bool (bC I q (congrArg not FZ))
  |str j=>obtain⟨t',rfl⟩:=ry;exact PySem.EqMixed.ne_bool_str (bC I q (by simp))
  |_=>exact absurd (show false=true from hs) Pa
 |int i=>
  obtain⟨t,rfl⟩:=rx;cases y with
  |Ë=>cases ry;exact PySem.EqNone.ne_int_none (bC I q (by simp))
  |int j=>obtain⟨t',rfl⟩:=ry;exact ne_int (bC I q (congrArg not CA))
  |str j=>obtain⟨t',rfl⟩:=ry;exact PySem.EqMixed.ne_int_str (bC I q (by simp))
  |_=>exact absurd (show false=true from hs) Pa
 |str i=>
  obtain⟨t,rfl⟩:=rx;cases y with
  |Ë=>cases ry;exact PySem.EqNone.ne_str_none (bC I q (by simp))
  |bl j=>cases ry;exact PySem.EqMixed.ne_str_bool (bC I q (by simp))
  |int j=>obtain⟨t',rfl⟩:=ry;exact PySem.EqMixed.ne_str_int (bC I q (by simp))
  |str j=>obtain⟨t',rfl⟩:=ry;exact ne_str (bC I q (congrArg not BS))
  |_=>exact absurd (show false=true from hs) Pa
 |Ļ i=>
  obtain⟨t,rfl⟩:=rx;cases y with
  |Ļ j=>obtain⟨t',rfl⟩:=ry;exact W.ne_bytes (bC I q (congrArg not Cw))
  |_=>exact absurd (show false=true from hs) Pa
 |_=>cases y<;>exact absurd (show false=true from hs) Pa
theorem Mu:Ó X (Sf .Lt) (rI0 λi j=>.bl (decide (i<j))):=Kb λ_ _ _ _ _ _ _ q=>lt_int q
theorem MP:Ó X (Sf .Gt) (rI0 λi j=>.bl (decide (j<i))):=Kb λ_ _ _ _ _ _ _ q=>gt_int q
theorem M7:Ó X (Sf .GtE) (rI0 λi j=>.bl (decide (j<=i))):=Kb λ_ _ _ _ _ _ _ q=>ge_int q
theorem Eb:Ó X (Sf .In) (λx y H Q=>∃i j,x=.str i/\y=.str j/\Q (.bl (!(SQ j i 0 j.length 1).isEmpty)) H):=by
 intro pins s B H x y v u Q I rx ry h;obtain⟨i,j,rfl,rfl,q⟩:=h;obtain⟨t,rfl⟩:=rx;obtain⟨t',rfl⟩:=ry;exact in_str (bC I q rfl)
theorem Ka:Ó X (Sf .Is) (λx y H Q=>y=.Ë/\Q (.bl (decide (x=.Ë))) H):=by
 intro pins s B H x y v u Q I rx ry h;obtain⟨rfl,q⟩:=h;cases ry;refine is_none_gen (bC I q ?_);cases x<;>first
  | (cases rx;rfl)
  | (obtain⟨t,rfl⟩:=rx;rfl)
theorem Hu:Ó X (Sf .IsNot) (λx y H Q=>y=.Ë/\Q (.bl (!decide (x=.Ë))) H):=by
 intro pins s B H x y v u Q I rx ry h;obtain⟨rfl,q⟩:=h;cases ry;refine isnot_none_gen (bC I q ?_);cases x<;>first
  | (cases rx;rfl)
  | (obtain⟨t,rfl⟩:=rx;rfl)
theorem Ó.or(h:Ó X f r)(h':Ó X f r'):Ó X f (λx y H Q=>r x y H Q\/r' x y H Q):=by
 intro pins s B H x y v u Q I rx ry q;rcases q with q|q
 ·exact h pins s B H x y v u Q I rx ry q
 exact h' pins s B H x y v u Q I rx ry q
theorem GL(b:Expr)(h:op≠ .In:=by decide)(h2:op≠ .NotIn:=by decide):Um op b=false:=by
 have e1:(op==CmpOp.In)=false:=by cases op<;>first|rfl|exact absurd rfl h
 have e2:(op==CmpOp.NotIn)=false:=by cases op<;>first|rfl|exact absurd rfl h2
 cases b<;>simp[Um,e1,e2]
theorem G6(ho:Ó X (Sf op) r)(ha:PE X a ta)(hb:PE X b tb)(hm:Um op b=false):PE X (.Compare a [op] [b] pos) (tOp r ta tb):=by
 intro pins s B H Q I h;exact wpAny_Compare1 (LV ha hb I h λv u s2 x y H2 I2 rx ry q=>ho pins s2 B H2 x y v u Q I2 rx ry q) hm
inductive blI(x:V)(H:Hp)(Q:Bool->Hp->Prop):Prop
 |mk(k:Bool)(h:x=.bl k)(q:Q k H):blI x H Q
noncomputable def Jr(t:TE):TT:=λB H Q=>t B H λx H'=>blI x H' Q
theorem IE(ho:Ó X (Sf op) r)(ha:PE X a ta)(hb:PE X b tb)(hm:Um op b=false):PT X (.Compare a [op] [b] pos) (Jr (tOp r ta tb)):=by
 intro pins s B H Q I h;refine wpAny_isTrue_Compare1 (Ì (ha pins s B H _ I h) λv s1 ⟨x,H1,I1,r1,q1⟩=>Ì (hb pins s1 B H1 _ I1 q1) λu s2 ⟨y,H2,I2,r2,q2⟩=>
  Ì (ho pins s2 B H2 x y v u _ I2 r1 r2 q2) λc s3 ⟨z,H3,I3,r3,k,e,q3⟩=>?_) hm
 subst e;cases r3;exact Vi ⟨H3,I3,q3⟩
def NT(K:RS)(x:V)(H:Hp)(k:Bool):Prop:=
 match x with
 | .Ë=>k=false
 | .bl b=>k=b
 | .int i=>k=(i !=0)
 | .str y=>y.length<=sizeLine/\k=((y.length:Int)!=0)
 | .Ļ y=>y.size<=sizeLine/\k=((y.size:Int)!=0)
 | .ref p=>(∃xs,À K H p xs/\k=!xs.isEmpty)\/(∃xs,È K H p xs/\k=!xs.isEmpty)\/∃kvs,H p=YH (.dK kvs)/\k=!kvs.isEmpty
 |_=>False
theorem As(r:KV kvs vs):(!vs.isEmpty)=!kvs.isEmpty:=by
 cases r<;>rfl
theorem uv(r:YK xs Â):(!Â.toArray.isEmpty)=!xs.isEmpty:=by
 cases r<;>simp
theorem qz:(sizeLine:Nat)<2^63:=by rw[Ua];decide
inductive zH(K:RS)(x:V)(H:Hp)(Q:Bool->Hp->Prop):Prop
 |mk(k:Bool)(h:NT K x H k)(q:Q k H):zH K x H Q
theorem Kg:N8 X (zH X.K):=by
 intro pins s B H x v Q I rx h;obtain⟨k,e,q⟩:=h;have hl:=qz;have hs:sizeLine=16777216:=Ua;cases x with
 |Ë=>
  cases rx;have e':k=false:=e;subst e';exact truthy_none ⟨H,I,q⟩
 |bl b=>
  cases rx;have e':k=b:=e;subst e';exact Vi ⟨H,I,q⟩
 |int i=>
  obtain⟨t,rfl⟩:=rx;have e':k=(i !=0):=e;subst e';exact PySem.P.truthy_int ⟨H,I,q⟩
 |str y=>
  obtain⟨t,rfl⟩:=rx;obtain⟨hy,e'⟩:y.length<=sizeLine/\k=((y.length:Int)!=0):=e;subst e';exact PySem.P.truthy_str () {H,I.tok _,q}
 |Ļ y=>
  obtain⟨t,rfl⟩:=rx;obtain⟨hy,e'⟩:y.size<=sizeLine/\k=((y.size:Int)!=0):=e;subst e';exact W.truthy_bytes () {H,I.tok _,q}
 |ref p=>
  cases rx;have e':(∃xs,À X.K H p xs/\k=!xs.isEmpty)\/(∃xs,È X.K H p xs/\k=!xs.isEmpty)\/∃kvs,H p=YH (.dK kvs)/\k=!kvs.isEmpty:=e;rcases e' with⟨xs,hx,e'⟩|⟨xs,hx,e'⟩|⟨kvs,hx,e'⟩
  ·subst e';obtain⟨Â,r,pl,hz⟩:=I.list hx;have hlen:=r.length;exact wpAny_truthy_list pl.isList (by simp only[Pp];lia) {H,I.tok _,by rw[uv r];exact q}
  ·subst e';obtain⟨Â,r,pl,hz⟩:=I.tuple hx;have hlen:=r.length;exact truthy_tuple pl (by simp only[Pp];lia) {H,I.tok _,by rw[uv r];exact q}
  subst e';obtain⟨hz,hS,vs,r,m⟩:kvs.length<=sizeLine/\(p==Tn)=false/\∃vs,KV kvs vs/\s.heap.DictOf (bN X.prog X.w) p vs:=I.Æ p _ hx;have hlen:kvs.length=vs.length:=RT r;exact wpAny_truthy_dict hS m () {H,I.tok _,by rw[As r];exact q}
 |_=>exact(show False from e).elim
theorem FO(ha:PE X a ta)(he:∀whole,isTrue a X.env whole=(do let v<-whole;Xc a.pos;UY [v] (truthy v))) :
  PT X a (λB H Q=>ta B H λx H'=>zH X.K x H' Q):=by
 intro pins s B H Q I h
 exact isTrue_plain (Ì (ha pins s B H _ I h) λv s1 ⟨x,H1,I1,r1,q1⟩=>Kg pins s1 B H1 x v Q I1 r1 q1) (he _)
theorem Bd:Ó X (SX .Add) (λx y H Q=>∃i j,x=.str i/\y=.str j/\i.length+j.length<=sizeLine/\Q (.str (i++j)) H):=by
 intro pins s B H x y v u Q I rx ry h;obtain⟨i,j,rfl,rfl,hz,q⟩:=h;obtain⟨t,rfl⟩:=rx;obtain⟨t',rfl⟩:=ry;exact add_str (λt' tk=>{.str (i++j),H,I.tok _,{_,rfl},q}) hz
theorem YW(r:YK [x] us):∃u,us=[u]/\YM x u:=by
 cases r with
 |cons r1 r2=>cases r2;exact{_,rfl,r1}
theorem Y3(r:YK [x,y] us):∃u w',us=[u,w']/\YM x u/\YM y w':=by
 cases r with
 |cons r1 r2=>
  cases r2 with
  |cons r3 r4=>cases r4;exact{_,_,rfl,r1,r3}
theorem Dr(hc:X.calm=true):dU X (.builtin "max") (λxs H Q=>∃i j,xs=[.int i,.int j]/\Q (.int (if j>i then j else i)) H):=by
 intro pins s B H xs us Q I r h;obtain⟨i,j,rfl,q⟩:=h;obtain⟨u,w',rfl,⟨t,rfl⟩,⟨t',rfl⟩⟩:=Y3 r;refine max_two_ints (I.ok.hd hc) λh' tk k=>{_,H,I.kept k,?_,q};by_cases hj:j>i
 ·rw[if_pos hj,if_pos hj];exact{_,rfl}
 rw[if_neg hj,if_neg hj];exact{_,rfl}
def My(K:RS)(x:V)(H:Hp)(n:Nat):Prop:=
 match x with
 | .str y=>y.length<=sizeLine/\n=y.length
 | .Ļ y=>y.size<=sizeLine/\n=y.size
 | .ref p=>(∃xs,À K H p xs/\n=xs.length)\/∃xs,È K H p xs/\n=xs.length
 |_=>False
theorem Fj:dU X (.builtin "len") (λxs H Q=>∃x n,xs=[x]/\My X.K x H n/\Q (.int n) H):=by
 intro pins s B H xs us Q I r h;obtain⟨x,n,rfl,e,q⟩:=h;obtain⟨u,rfl,rx⟩:=YW r;have hl:=qz;have hs:sizeLine=16777216:=Ua;cases x with
 |str y=>
  obtain⟨t,rfl⟩:=rx;obtain⟨hy,e'⟩:y.length<=sizeLine/\n=y.length:=e;subst e';exact len_str () {.int _,H,I.tok _,{_,rfl},q}
 |Ļ y=>
  obtain⟨t,rfl⟩:=rx;obtain⟨hy,e'⟩:y.size<=sizeLine/\n=y.size:=e;subst e';exact W.len_bytes () {.int _,H,I.tok _,{_,rfl},q}
 |ref p=>
  cases rx;have e':(∃xs,À X.K H p xs/\n=xs.length)\/∃xs,È X.K H p xs/\n=xs.length:=e;rcases e' with⟨xs,hx,e'⟩|⟨xs,hx,e'⟩
  ·subst e';obtain⟨Â,r',pl,hz⟩:=I.list hx;have hlen:=r'.length;exact Calls.call_len_list pl.isList (by simp only[Pp];lia) {.int xs.length,H,I.tok _,{_,by simp only[Pp];rw[hlen]},q}
  subst e';obtain⟨Â,r',pl,hz⟩:=I.tuple hx;have hlen:=r'.length;exact len_tuple pl (by simp only[Pp];lia) {.int xs.length,H,I.tok _,{_,by simp only[Pp];rw[hlen]},q}
 |_=>exact(show False from e).elim
end
structure AY(h:So)(x dx C:RJ)(mA:Str->Option RI):Prop where
 obj:h.get? x=YH (UI C dx)
 ns:h.Ns1 dx mA
 ne:dx≠x
theorem DA{h:So}{mA:Str->Option RI}(n:h.Ns1 dx mA):∃od,h.get? dx=YH od/\∀name,X2 name od=YH (mA name):=by
 obtain⟨o,es,ep,ho,hd,hk,_,hm⟩:=n;refine{o,ho,λname=>?_};have e:=hm name;unfold nsFind findBy at e;rw[<-Array.find?_toList]at e;unfold X2;rw[hd];dsimp only;split
 ·rename_i y q;rw[q]at e;exact congrArg YH e
 rename_i q;rw[q]at e;have a:es.toList.any (·.refKey)=false:=by
  rw[List.any_eq_false];intro y hy;obtain⟨z,t,Ũ⟩:=hk y (Array.mem_toList_iff.mp hy);simp[DictEntry.refKey,Ũ]
 have a':¬ es.toList.any (·.refKey)=true:=by rw[a];exact Pa
 rw[if_neg a'];exact congrArg YH e
theorem AY.look(I:AY h x dx C mA):∃od,W.InstAt h x (UI C dx) C (YH od)/\∀name,X2 name od=YH (mA name):=
 let ⟨od,ho,hl⟩:=DA I.ns
 {od,⟨I.obj,rfl,rfl,ho⟩,hl}
section
variable{prog:Program}{w:R5}{A:Sq}{E:RI->RN->Prop}{s:RN}{K:RS}{x dx C f:RJ}{mA:Str->Option RI}{name:Str}{v:RI}
theorem get_map(X:K.In s.heap)(I:AY s.heap x dx C mA)(hg:VJ K C name=true)(hh:V6 K C=true)
  (ha:S9 K (.ref C) name=YH YI) (hv:mA name=YH v) (hv':W.handedIn v=true) (h:Q v { s with toks:=s.toks+1 }) :
  wpAny (RY prog w) A (getAttr (.ref x) name expr) Q E s:=by
 obtain⟨od,J,hl⟩:=I.look
 exact W.get_value X J (Wz hg).1 (W.findObj_own hh ha rfl (by rw[hl,hv])) hv' h
theorem EK(X:K.In s.heap)(I:AY s.heap x dx C mA)(hg:VJ K C name=true)
  (hf:S9 K (.ref C) name=YH (YH (.ref f))) (ht:YD K (.ref f)=true) (hv:mA name=YI) (h:Q (.ref f,[.ref x]) s) :
  wpAny (RY prog w) A (Xs (.ref x) name pl) Q E s:=by
 obtain⟨od,J,hl⟩:=I.look
 exact W.method_fn X J (Wz hg).1 (Wz hg).2 hf (beq_iff_eq.mp ht) (by show(X2 name od).map (·.isSome)=YH false;rw[hl,hv];rfl) h
theorem Ht(X:K.In s.heap)(I:AY s.heap x dx C mA)
  (hs:S9 K (.ref C) "__setattr__"=YH (YH (.builtin "object.__setattr__"))) (hp:XJ K C=true) (ht:Yy K C name=YH YI) (hh:V6 K C=true)
  (hw:Xb mA ns) (hsz:ns.length<=sizeLine)
  (h:∀h',AY h' x dx C (λy=>if y=name then YH v else mA y)->TZ dx s.heap h'->Q Unit.unit { s with heap:=h',toks:=s.toks+2 }) :
  wpAny (RY prog w) A (setAttr (.ref x) name v) Q E s:=by
 obtain⟨od,J,hl⟩:=I.look
 refine W.set_plain X J hs (W.osa_open (s:={ s with toks:=s.toks+1 }) (r:=YI) X J hp ht λb=>?_)
 obtain⟨cd,hc,hd'⟩:=W.any_some hh
 have hx:s.heap.get? x=YH {.ref C,YH dx,.plain,#[]}:=I.obj
 refine E9 (RK (E9 (E9 (wpAny_loadPart hx (E9 (W.Looks.here (s:={ s with toks:=s.toks+1 }) (W.looks_clsIn X hc) ?_))))))
 rw[hd']
 refine RK (a:=YH dx) (E9 (RK (E9 ?_)))
 refine wpAny_nsSet1 (s:={ s with toks:=s.toks+1 }) I.ns λh' hn2 ť=>?_
 obtain⟨oD,esD,epD,hoD,hdD,hcD⟩:=hn2.count (PySem.Within.cons name v hw)
 refine E9 (wpAny_lookBehind hoD (by rw[hdD];exact pastItsLine_dict (Pf hcD (by rw[O6];lia))) ?_)
 exact RK (h _ {(ť.2 _ (Pr I.ne)).trans I.obj,hn2,I.ne} ť)
theorem Gq(X:K.In s.heap)(hm:Xu K C=true)
  (hi:S9 K (.ref C) "__init__"=YH (YH (.ref f))) (hf:W.typeIn K (.ref f)=YH (.type "function"))
  (h:codeAny (RY prog w) (A.under (.builtin "type.__call__" {.ref C::vs,kw})) (.call (.ref f) {.ref (s.heap.objs.size+1)::vs,kw}) (W.InitBack (s.heap.objs.size+1) R)
   { s with heap:=(s.heap.push TV).push (UI C s.heap.objs.size) }) :
  codeAny (RY prog w) A (.call (.ref C) ⟨vs,kw⟩) R s:=by
 obtain⟨hh,g,d,t,os⟩:=s
 exact W.make_core (W.makes_of X hm) (W.looks_findIn X hi) (λself=>W.bind_fn X self hf) (.inl rfl) h
end
noncomputable def iG(f:Str)(v:V):List (Str×V)->List (Str×V)
 | []=>[(f,v)]
 | (g,x)::r=>if g=f then(g,v)::r else(g,x)::iG f v r
theorem qX(f g:Str)(v:V):∀fs:List (Str×V),(iG f v fs).lookup g=if g=f then YH v else fs.lookup g
 | []=>by
  show Ub g [(f,v)]=_;by_cases h:g=f
  ·have hb:(g==f)=true:=beq_iff_eq.mpr h;simp only[Ub,hb,if_pos h]
  have hb:(g==f)=false:=beq_eq_false_iff_ne.mpr h;simp only[Ub,hb,if_neg h]
 | (k,x)::r=>by
  have ih:=qX f g v r;rw[show iG f v ((k,x)::r)=(if k=f then(k,v)::r else(k,x)::iG f v r)from rfl];by_cases hk:k=f
  ·rw[if_pos hk];by_cases h:g=k
   ·have hb:(g==k)=true:=beq_iff_eq.mpr h;simp only[Ub,hb,if_pos (h.trans hk)]
   have hb:(g==k)=false:=beq_eq_false_iff_ne.mpr h;simp only[Ub,hb,if_neg (λe:g=f=>h (e.trans hk.symm))]
  rw[if_neg hk];by_cases h:g=k
  ·have hb:(g==k)=true:=beq_iff_eq.mpr h;simp only[Ub,hb,if_neg (λe:g=f=>hk (h.symm.trans e))]
  have hb:(g==k)=false:=beq_eq_false_iff_ne.mpr h;simp only[Ub,hb];exact ih
theorem p9(f:Str)(v:V):∀fs:List (Str×V),f∈(iG f v fs).map (·.1)/\∀g,g∈fs.map (·.1)->g∈(iG f v fs).map (·.1)
 | []=>{by simp[iG],λg h=>by simp at h}
 | (k,x)::r=>by
  obtain⟨i1,i2⟩:=p9 f v r;rw[show iG f v ((k,x)::r)=(if k=f then(k,v)::r else(k,x)::iG f v r)from rfl];by_cases hk:k=f
  ·rw[if_pos hk];subst hk;exact{by simp,λg h=>by simpa using h}
  rw[if_neg hk];refine{?_,λg h=>?_}
  ·rw[Pm];exact O8 _ i1
  rw[Pm]at h⊢;rcases O2.mp h with e|e
  ·exact O2.mpr (.inl e)
  exact O8 _ (i2 g e)
theorem qS(f:Str)(v:V):∀fs:List (Str×V),(iG f v fs).length<=fs.length+1
 | []=>by simp[iG]
 | (k,x)::r=>by
  have ih:=qS f v r;rw[show iG f v ((k,x)::r)=(if k=f then(k,v)::r else(k,x)::iG f v r)from rfl];by_cases hk:k=f
  ·rw[if_pos hk,O6,O6];lia
  rw[if_neg hk,O6,O6];lia
theorem nQ.some_of(r:nQ (YH v) o):∃u,o=YH u/\YM v u:=by
 cases o with
 |none=>exact(show False from r).elim
 |some u=>exact⟨u,rfl,r⟩
theorem nQ.none_of(r:nQ YI o):o=YI:=by
 cases o with
 |none=>rfl
 |some u=>exact(show False from r).elim
theorem DE(r:YM v u):W.handedIn u=true:=by
 cases v with
 |Ë=>cases (show u=UH from r);rfl
 |bl b=>cases (show u=WK b from r);rfl
 |int i=>obtain⟨t,e⟩:=(show ∃t,u=TL i t from r);cases e;rfl
 |str x=>obtain⟨t,e⟩:=(show ∃t,u=Wj x t from r);cases e;rfl
 |Ļ b=>obtain⟨t,e⟩:=(show ∃t,u=Value.bytes b t from r);cases e;rfl
 |flt b=>obtain⟨t,e⟩:=(show ∃t,u=XE b t from r);cases e;rfl
 |ref a=>cases (show u=Sd a from r);rfl
 |ty n=>cases (show u=Tj n from r);rfl
section
variable{P:Program}{w:R5}{H H':Hp}{h h':So}{a C dx:RJ}{fs fs':List (Str×V)}
theorem rV(Æ:ü P w H h)(e:H a=YH (.ins C dx fs)):∃mA,AY h a dx C mA/\(∀f,nQ (fs.lookup f) (mA f))/\Xb mA (fs.map (·.1))/\fs.length<=1000/\H dx=YH (.own a):=by
 obtain⟨d,z,ne,ob,mA,n,r,q⟩:=(show cL P w H h a (.ins C dx fs)from Æ a _ e);exact{mA,⟨ob,n,ne⟩,r,q,z,d}
end
structure ō(K:RS)(C:RJ):Prop where
 pg:VJ K C R7=true
 hd:V6 K C=true
 po:XJ K C=true
 sa:S9 K (.ref C) "__setattr__"=YH (YH (.builtin "object.__setattr__"))
theorem ō.get{K:RS}{C:RJ}(c:ō K C)(f:Str):VJ K C f=true:=c.pg
def aO(K:RS)(C:RJ)(f:Str):Prop:=S9 K (.ref C) f=YH YI
theorem aO.Nc{K:RS}{C:RJ}{f:Str}(n:aO K C f):Yy K C f=YH YI:=by
 unfold Yy;rw[show S9 K (.ref C) f=YH YI from n];rfl
structure Con(K:RS)(C:RJ)(f:Str)(v:V)(u:RI):Prop where
 at_:S9 K (.ref C) f=YH (YH u)
 rel:YM v u
 get:Ut K u "__get__"=YH YI
 cp:W.copiedNames.contains f=false
structure Y4(K:RS)(C:RJ)(m:Str)(f:RJ):Prop where
 at_:S9 K (.ref C) m=YH (YH (.ref f))
 fn:YD K (.ref f)=true
 kp:Tq K (.ref f)=true
section
variable{X:Cx}{pins:List (RJ×Obj)}{B:St}{H:Hp}{s:RN}{a C dx:RJ}{fs:List (Str×V)}{f:Str}{v:V}{A:Sq}{E:RI->RN->Prop}
theorem AN(I:Inv X pins B H s)(e:H a=YH (.ins C dx fs))(c:ō X.K C)(n:aO X.K C f)(l:fs.lookup f=YH v)
  (h:∀u s',Inv X pins B H s'->YM v u->Q u s'):wpAny (RY X.prog X.w) A (getAttr (.ref a) f b) Q E s:=by
 obtain⟨mA,O,r,_,_,_⟩:=rV I.Æ e
 obtain⟨u,hu,ru⟩:=nQ.some_of (v:=v) (o:=mA f) (by rw[<-l];exact r f)
 exact get_map I.ý O (c.get f) c.hd n hu (DE ru) (h u _ (I.tok _) ru)
theorem zX(I:Inv X pins B H s)(e:H a=YH (.ins C dx fs))(c:ō X.K C)(k:Y4 X.K C m g)(l:fs.lookup m=YI)
  (h:Q (.ref g,[.ref a]) s):wpAny (RY X.prog X.w) A (Xs (.ref a) m pl) Q E s:=by
 obtain⟨mA,O,r,_,_,_⟩:=rV I.Æ e
 have hn:mA m=YI:=nQ.none_of (by rw[<-l];exact r m)
 exact EK I.ý O (c.get m) k.at_ k.fn hn h
theorem Ap(I:Inv X pins B H s)(e:H a=YH (.ins C dx fs))(c:ō X.K C)(n:aO X.K C f)(hl:fs.length<1000)(ry:YM y u)
  (h:∀s',Inv X pins B (upd H a (.ins C dx (iG f y fs))) s'->Q Unit.unit s'):wpAny (RY X.prog X.w) A (setAttr (.ref a) f u) Q E s:=by
 obtain⟨mA,O,r,wi,_,ho⟩:=rV I.Æ e
 have hz:(fs.map (·.1)).length<=sizeLine:=by rw[OZ,Ua];lia
 refine Ht I.ý O c.sa c.po n.Nc c.hd wi hz λh' O' sb=>h _ ?_
 have hd:∃o,h'.get? dx=YH o:=let ⟨o,_,_,e',_⟩:=O'.ns;⟨o,e'⟩
 refine I.write (x:=a) (e:=dx) (by rw[e];exact Qg) (.inr ho) (λb q hb z=>(sb.2 b hb).trans z) hd ?_
 refine{by rw[aL O.ne];exact ho,?_,O.ne,O'.obj,_,O'.ns,λg=>?_,λg hg=>?_}
 ·have:=qS f y fs;lia
 ·show nQ ((iG f y fs).lookup g) (if g=f then YH u else mA g);rw[qX];by_cases q:g=f
  ·rw[if_pos q,if_pos q];exact ry
  rw[if_neg q,if_neg q];exact r g
 by_cases q:g=f
 ·rw[q];exact(p9 f y fs).1
 refine(p9 f y fs).2 g (wi g λz=>hg ?_)
 show(if g=f then YH u else mA g)=YI
 rw[if_neg q];exact z
theorem Inv.made(I:Inv X pins B H s):Inv X pins B (upd (upd H s.heap.objs.size (.own (s.heap.objs.size+1))) (s.heap.objs.size+1) (.ins C s.heap.objs.size []))
  { s with heap:=(s.heap.push TV).push (UI C s.heap.objs.size) }:=by
 have e1:(s.heap.push TV).get? s.heap.objs.size=YH TV:=RZ s.heap rfl
 have e2:((s.heap.push TV).push (UI C s.heap.objs.size)).get? (s.heap.objs.size+1)=YH (UI C s.heap.objs.size):=by
  have:=RZ (s.heap.push TV) (o:=UI C s.heap.objs.size) rfl;rwa [Tf]at this
 have e3:(s.heap.push TV).Ns s.heap.objs.size (λ_=>YI):={TV,#[],_,e1,rfl,(λe he=>absurd he (by simp)),λ_=>rfl}
 have I1:=I.laid (a:=s.heap.objs.size) (o:=.own (s.heap.objs.size+1)) (h':=s.heap.push TV) (t':=s.toks) (λb u q=>RL _ q) (O4 _) {_,e1}
 refine I1.laid (a:=s.heap.objs.size+1) (o:=.ins C s.heap.objs.size []) (t':=s.toks) (λb u q=>RL _ q) (QU (Tf _ _)) ?_
 have ne:s.heap.objs.size≠s.heap.objs.size+1:=Pw (QK _)
 refine{by rw[aL ne,ao],Pd _,ne,e2,λ_=>YI,(Heap.Ns1.of_empty e3).at λo q=>RL _ q,λ_=>Qg,λy hy=>absurd rfl hy}
theorem Jc(hb:SV e f env (SD e env)=SD e env)
  (h:wpAny (RY prog w) A (SD e env) (λo s₁=>wpAny (RY prog w) A (getAttr o f true) Q E s₁) E s):wpAny (RY prog w) A (SD (.Attribute e f pos) env) Q E s:=
 Attribute_any_ h (by rw[arm_eval_Attribute,hb])
end
inductive om(K:RS)(f:Str)(x:V)(H:Hp)(Q:VK):Prop
 |mk(a C dx:RJ)(fs:List (Str×V))(v:V)(h0:x=.ref a)(h1:H a=YH (.ins C dx fs))(h2:ō K C)(h3:aO K C f)(h4:fs.lookup f=YH v)(q:Q v H):om K f x H Q
noncomputable def Ob(K:RS)(ta:TE)(f:Str):TE:=λB H Q=>ta B H λx H1=>om K f x H1 Q
inductive L5(K:RS)(f:Str)(y x:V)(H:Hp)(Q:Hp->Prop):Prop
 |mk(a C dx:RJ)(fs:List (Str×V))(h0:x=.ref a)(h1:H a=YH (.ins C dx fs))(h2:ō K C)(h3:aO K C f)(h4:fs.length<1000)(q:Q (upd H a (.ins C dx (iG f y fs)))):L5 K f y x H Q
noncomputable def OC(K:RS)(ta tv:TE)(f:Str):TS:=λD B H=>tv B H λy H1=>ta B H1 λx H2=>L5 K f y x H2 (D.nx B)
section
variable{X:Cx}{o e value:Expr}{f:Str}{pos pos' tpos:Pos}{ta tv:TE}
theorem aK(he:PE X e ta)(hb:SV e f X.env (SD e X.env)=SD e X.env):PE X (.Attribute e f pos) (Ob X.K ta f):=by
 intro pins s B H Q I h;refine Jc hb (Ì (he pins s B H _ I h) λu s1 z9=>?_);obtain⟨x,H1,I1,rx,a,C,dx,fs,v,ex,ea,c,n,l,q⟩:=z9;subst ex;obtain rfl:u=Sd a:=rx;exact AN I1 ea c n l λu' s2 I2 ru=>⟨v,H1,I2,ru,q⟩
theorem bj(ha:PE X o ta)(hv:PE X value tv)(hs:Wl value (YH (.Attribute o f pos')) pos.line X.env=pure false):PS X (.Assign [.Attribute o f pos'] value pos) (OC X.K ta tv f):=by
 intro pins s B H D I h;refine plainObj_wpAny_Assign_Attribute (Ì (hv pins s B H _ I h) λu s1 ⟨y,H1,I1,ry,q⟩=>Ì (ha pins s1 B H1 _ I1 q) λov s2 ⟨x,H2,I2,rx,a,C,dx,fs,ex,ea,c,n,l,q2⟩=>?_) hs;subst ex;obtain rfl:ov=Sd a:=rx;exact Ap I2 ea c n l ry λs3 I3=>{B,_,I3,q2}
end
section
variable{X:Cx}{pins:List (RJ×Obj)}{B:St}{H:Hp}{s:RN}{A:Sq}{E:RI->RN->Prop}{Q:RI->RN->Prop}{c:RI}{b:Bool}
inductive oj(K:RS)(H:Hp):V->RI->Prop where
 |Ë:oj K H .Ë (.type "NoneType")
 |bl (x:Bool):oj K H (.bl x) (.type "bool")
 |int (i:Int):oj K H (.int i) (.type "int")
 |str (x:Str):oj K H (.str x) (.type "str")
 |flt (x:UInt64):oj K H (.flt x) (.type "float")
 |lst {a:RJ}{xs:List V} (e:H a=YH (.lst xs)):oj K H (.ref a) (.type "list")
 |ë {a:RJ}{o:Obj}{xs:List V} (e:H a=YH (.ë o (.lst xs))):oj K H (.ref a) (.type "list")
 |tup {a:RJ}{xs:List V} (e:H a=YH (.tup xs)):oj K H (.ref a) (.type "tuple")
 |dK {a:RJ}{kvs:List (Key×V)} (e:H a=YH (.dK kvs)):oj K H (.ref a) (.type "dict")
 |dT {a:RJ}{kvs:List (List Key×V)} (e:H a=YH (.dT kvs)):oj K H (.ref a) (.type "dict")
 |ins {a C dx:RJ}{fs:List (Str×V)} (e:H a=YH (.ins C dx fs)) (cl:ō K C) (ha:S9 K (.ref C) "__class__"=YH (YH (.builtin "object.__class__")))
   (hn:Ut K (.builtin "object.__class__") "__get__"=YH (YH (.builtin "getset_descriptor.__get__"))) (htk:Xv K (.builtin "object.__class__")=YH true)
   (hm:YE K C (.type "object")=YH true):oj K H (.ref a) (.ref C)
theorem DH(I:Inv X pins B H s)(rx:YM x u)(ty:oj X.K H x t)(e:T3 X.K t c=YH b)(h:∀tk,Q (.bool b) { s with toks:=tk }) :
  wpAny (RY X.prog X.w) A (call (.builtin "isinstance") [u,c]) Q E s:=by
 cases ty with
 |Ë=>cases (show u=UH from rx);exact T4 W.kitx_none I.ý Qg e (λz=>nomatch z) h
 |bl y=>cases (show u=WK y from rx);exact T4 W.kitx_bool I.ý Qg e (λz=>nomatch z) h
 |int i=>obtain⟨t,q⟩:=(show ∃t,u=TL i t from rx);cases q;exact T4 W.kitx_int I.ý Qg e (λz=>nomatch z) h
 |str y=>obtain⟨t,q⟩:=(show ∃t,u=Wj y t from rx);cases q;exact T4 W.kitx_str I.ý Qg e (λz=>nomatch z) h
 |flt y=>obtain⟨t,q⟩:=(show ∃t,u=XE y t from rx);cases q;exact T4 W.kitx_float I.ý Qg e (λz=>nomatch z) h
 |@lst a xs ea=>
  cases (show u=Sd a from rx)
  obtain⟨_,_,n,_,h1⟩:=(show cL X.prog X.w H s.heap a (.lst xs)from I.Æ a _ ea)
  exact T4 W.kitx_list I.ý {_,h1,rfl} e (λz=>nomatch z) h
 |@ë a ob xs ea=>
  cases (show u=Sd a from rx)
  obtain⟨_,_,_,n,_,h1⟩:=(show cL X.prog X.w H s.heap a (.ë ob (.lst xs))from I.Æ a _ ea)
  exact T4 W.kitx_list I.ý {_,h1,rfl} e (λz=>nomatch z) h
 |@tup a xs ea=>
  cases (show u=Sd a from rx)
  obtain⟨_,_,_,p⟩:=(show cL X.prog X.w H s.heap a (.tup xs)from I.Æ a _ ea)
  obtain⟨o,h1,h2,_⟩:=p
  exact T4 W.kitx_tuple I.ý ⟨o,h1,h2⟩ e (λz=>nomatch z) h
 |@dK a kvs ea=>
  cases (show u=Sd a from rx)
  obtain⟨_,_,vs,_,p⟩:=(show cL X.prog X.w H s.heap a (.dK kvs)from I.Æ a _ ea)
  obtain⟨o,es,ep,h1,h2,_⟩:=p
  exact T4 W.kitx_dict I.ý ⟨o,h1,h2.1⟩ e (λz=>nomatch z) h
 |@dT a kvs ea=>
  cases (show u=Sd a from rx)
  obtain⟨_,_,xs,_,o,es,ep,h1,h2,_⟩:=(show cL X.prog X.w H s.heap a (.dT kvs)from I.Æ a _ ea)
  exact T4 W.kitx_dict I.ý ⟨o,h1,h2.1⟩ e (λz=>nomatch z) h
 |@ins a C dx fs ea cl ha hn htk hm=>
  cases (show u=Sd a from rx)
  obtain⟨mA,O,_⟩:=rV I.Æ ea
  obtain⟨od,J,_⟩:=O.look
  exact T4 (W.kitx_own (cl.get _) cl.hd ha hn htk hm) I.ý J e (λz=>nomatch z) h
end
structure dO(k:Nat)(A:Sq):Prop where
 hd:A.handled=YI
 dp:A.depth+3*k+5<X3
 un:A.units+16*k+200<TX
theorem dO.mono(r:dO k A)(h:j<=k):dO j A:={r.hd,by have:=r.dp;lia,by have:=r.un;lia}
theorem dO.deeper(r:dO (k+1) A)(env:Env):dO k (A.deeper env):=
 {r.hd,by have:=r.dp;show A.depth+1+3*k+5<_;lia,by have:=r.un;show A.units+3+16*k+200<_;lia}
theorem zS{A:Sq}{C:RJ}{us:List RI}{kw:List (Str×RI)}:(A.under (.builtin "type.__call__" {.ref C::us,kw})).depth=A.depth+1:=by
 first|rfl|simp[Xd,Code.weight,Code.isCreation,Code.isGuard,Code.isCaller,Code.frames,Xe,guardIds]
theorem AX{A:Sq}{C:RJ}{us:List RI}{kw:List (Str×RI)}:(A.under (.builtin "type.__call__" {.ref C::us,kw})).units=A.units+1:=by
 first|rfl|simp[Xd,Code.cUnits,Code.frames,Xe]
theorem dO.make(r:dO (k+1) A)(C:RJ)(us:List RI)(kw:List (Str×RI)):dO k (A.under (.builtin "type.__call__" {.ref C::us,kw})):=
 {r.hd,by have:=r.dp;rw[zS];lia,by have:=r.un;rw[AX];lia}
theorem dO.depth(r:dO k A):A.depth<X3:=by have:=r.dp;lia
theorem dO.units(r:dO k A):A.units+64<TX:=by have:=r.un;lia
noncomputable def DZ:TA:=λ_ H Q=>Q [] H
noncomputable def zh(ta:TE)(tr:TA):TA:=λB H Q=>ta B H λx H1=>tr B H1 λxs H2=>Q (x::xs) H2
section
variable{X:Cx}{e:Expr}{es:List Expr}{te:TE}{t:TA}{pos:Pos}
theorem ab:PA X [] DZ:=λ_ _ _ _ H Q I h=>Xf {[],H,I,.nil,h}
theorem aa(ha:PE X e te)(hr:PA X es t)(hs:RV (e::es) X.env=(false,SD e X.env)::RV es X.env:=by rfl):PA X (e::es) (zh te t):=by
 intro pos pins s B H Q I h;rw[hs];show wpAny _ _ (YB ((false,SD e X.env)::SJ pos (RV es X.env))) _ _ s;refine WN (Ì (ha pins s B H _ I h) λu s1 z9=>?_);obtain⟨x,H1,I1,r1,q1⟩:=z9;exact Ì (hr pos pins s1 B H1 _ I1 q1) λus s2 ⟨xs,H2,I2,r2,q2⟩=>{x::xs,H2,I2,.cons r1 r2,q2}
noncomputable def N3(t:TA):TE:=λB H Q=>t B H λxs H1=>xs.length<=sizeLine/\∀p,H1 p=YI->Q (.ref p) (upd H1 p (.tup xs))
noncomputable def Og(t:TA):TE:=λB H Q=>t B H λxs H1=>xs.length<=sizeLine/\∀p,H1 p=YI->Q (.ref p) (upd H1 p (.lst xs))
theorem aV{x1}(h:PA X es t):PE X (.Tuple es x1 pos) (N3 t):=by
 intro pins s B H Q I hq;refine wpAny_Tuple_spliced (Ì (h pos pins s B H _ I hq) λus s1 ⟨xs,H1,I1,r,z,q⟩=>{by rw[<-r.length];exact z,?_});have hf:H1 s1.heap.objs.size=YI:=I1.Æ.fresh (O4 _);refine{.ref s1.heap.objs.size,upd H1 s1.heap.objs.size (.tup xs),I1.laid (t':=s1.toks) (λb u e=>RL _ e) (O4 _) ?_,rfl,q _ hf};exact{z,us,r,{_,RZ _ rfl,rfl,_,rfl}}
theorem aI(h:PA X es t):PE X (.List es pos) (Og t):=by
 intro pins s B H Q I hq;refine wpAny_List_spliced (Ì (h pos pins s B H _ I hq) λus s1 ⟨xs,H1,I1,r,z,q⟩=>{by rw[<-r.length];exact z,?_});have hf:H1 s1.heap.objs.size=YI:=I1.Æ.fresh (O4 _);refine{.ref s1.heap.objs.size,upd H1 s1.heap.objs.size (.lst xs),I1.laid (t':=s1.toks) (λb u e=>RL _ e) (O4 _) ?_,rfl,q _ hf};exact{z,us,0,r,RZ _ rfl}
end
noncomputable abbrev Sp:=List V->Hp->VK->XK->Prop
noncomputable abbrev ź:=List Env->Hp->RN->XK->RI->RN->Prop
structure Al(P:Program)(w:R5)(K:RS)(mg:Str->Option RI)(base:So)(A:Sq)(outer:List Env)(s:RN)(H:Hp):Prop where
 frames:A.frames=YH outer
 mod:Mod K mg base
 bs:∀b o,base.get? b=YH o->s.heap.get? b=YH o/\H b=YI
 bsz:base.objs.size<=s.heap.objs.size
 rG:s.heap.FunFrames base outer
 frf:∀b∈frs outer,H b=YI
 Æ:ü P w H s.heap
 bare:Vh s.gens
inductive CE(outer:List Env)(P:Program)(w:R5)(H:Hp)(s:RN)(Q:VK)(u:RI)(s':RN):Prop
 |mk(v:V)(H':Hp)(h0:s'.os=s.os)(h1:Vh s'.gens)(h2:Un (frs outer) [] H H' s.heap s'.heap)(h3:ü P w H' s'.heap)(h4:YM v u)(h5:Q v H'):CE outer P w H s Q u s'
def CR(CX:ź)(outer:List Env)(P:Program)(w:R5)(H:Hp)(s:RN)(Q:VK)(E:XK)(r:Result)(s':RN):Prop:=
 match r with
 | .ok (.ret u)=>CE outer P w H s Q u s'
 | .ok _=>False
 | .error e=>CX outer H s E e s'
structure j2(P:Program)(w:R5)(K:RS)(mg:Str->Option RI)(base:So)(CX:ź)(k:Nat)(f:RJ)(fd:TC)(ps:List Str)(sp:Sp):Prop where
 len:∀vs H Q E,sp vs H Q E->vs.length=ps.length
 run:∀(A:Sq)(outer:List Env)(s:RN)(H:Hp)(args:Args)(us:List RI)(vs:List V)(Q:VK)(E:XK),dO k A->Al P w K mg base A outer s H->VL s fd args (ps.zip us)->YK vs us->sp vs H Q E->
  codeAny (RY P w) A (.call (.ref f) args) (CR CX outer P w H s Q E) s
theorem j2.mono{P:Program}{w:R5}{K:RS}{mg:Str->Option RI}{base:So}{CX:ź}{j k:Nat}{f:RJ}{fd:TC}{ps:List Str}{sp:Sp}(F:j2 P w K mg base CX j f fd ps sp)(h:j<=k) :
  j2 P w K mg base CX k f fd ps sp:={F.len,λA outer s H args us vs Q E hr=>F.run A outer s H args us vs Q E (hr.mono h)}
theorem Al.make{P:Program}{w:R5}{K:RS}{mg:Str->Option RI}{base:So}{A:Sq}{outer:List Env}{s:RN}{H:Hp}(e:Al P w K mg base A outer s H)(C:RJ)(us:List RI)(kw:List (Str×RI)) :
  Al P w K mg base (A.under (.builtin "type.__call__" {.ref C::us,kw})) outer s H:={by first|exact e.frames|(simpa [Xd,Code.envs,Xe,pushEnvs] using e.frames),e.mod,e.bs,e.bsz,e.rG,e.frf,e.Æ,e.bare}
section
variable{X:Cx}{pins:List (RJ×Obj)}{B:St}{H:Hp}{s s':RN}
theorem Inv.EI(I:Inv X pins B H s):Al X.prog X.w X.K X.mg X.base X.A X.stack s H:=
 ⟨I.ok.frames,I.ok.mod,I.bs,Pf I.ok.bsz I.sz,I.stack,I.C8,I.Æ,I.bare⟩
theorem Inv.after(I:Inv X pins B H s)(h:CE X.stack X.prog X.w H s Q u s'):EP X pins B Q u s':=by
 obtain⟨v,H',os,bare,un,Æ,r,q⟩:=h;obtain⟨hh,g,d,t,os'⟩:=s';obtain rfl:os'=s.os:=os;exact{v,H',I.call (h':=hh) (g':=g) (d':=d) (t':=t) (ch:=[]) un Æ bare (λb z=>absurd z (by simp)),r,q}
end
noncomputable def vH(sp:Sp)(dvs:List V)(E:XK)(t:TA):TE:=λB H Q=>t B H λvs H1=>sp (vs++dvs) H1 Q E
inductive Oy(C:RJ)(m:Str)(x:V)(H:Hp)(R:Prop):Prop
 |mk(a dx:RJ)(fs:List (Str×V))(h0:x=.ref a)(h1:H a=YH (.ins C dx fs))(h2:fs.lookup m=YI)(q:R):Oy C m x H R
noncomputable def JH(C:RJ)(sp:Sp)(dvs:List V)(E:XK)(t:TA):TE:=λB H Q=>t B H λvs H1=>∀x dx,H1 x=YI->H1 dx=YI->dx≠x->
 sp (.ref x::(vs++dvs)) (upd (upd H1 dx (.own x)) x (.ins C dx [])) (λv H2=>v=.Ë/\Q (.ref x) H2) E
def YO(K:RS)(fd:TC)(ps:List Str)(ds:List RI):Prop:=
 ∀(s:RN)(us:List RI),K.In s.heap->(us++ds).length=ps.length->VL s fd {us,[]} (ps.zip (us++ds))
theorem YO.all{K:RS}{fd:TC}{ps:List Str}(h:∀us:List RI,us.length=ps.length->bindArgs fd {us,[]}=pure (ps.zip us)):YO K fd ps []:=λs us _ hl=>by
 rw[Pu]at hl⊢;exact .of_eq (h us hl)
def YU(CX:ź)(X:Cx)(E:XK):Prop:=∀(pins:List (RJ×Obj))(B:St)(H:Hp)(s:RN)(e:RI)(s':RN),Inv X pins B H s->CX X.stack H s E e s'->X.xe e s'
section
variable{X:Cx}{CX:ź}{k:Nat}{f C:RJ}{fd:TC}{ps:List Str}{sp:Sp}{dvs:List V}{ds:List RI}{E:XK}{x m:Str}{p pos apos:Pos}{e o:Expr}{es:List Expr}{ta:TE}{t:TA}
theorem AH(F:j2 X.prog X.w X.K X.mg X.base CX k f fd ps sp)(hr:dO k X.A)(hb:YO X.K fd ps ds)(hd:YK dvs ds)(hx:YU CX X E)
  (I:Inv X pins B H s) (r:YK vs us) (h:sp (vs++dvs) H Q E):wpAny (RY X.prog X.w) X.A (call (.ref f) us) (EP X pins B Q) X.xe s:=by
 have r2:YK (vs++dvs) (us++ds):=r.append hd
 have hl:(us++ds).length=ps.length:=by rw[<-r2.length];exact F.len _ _ _ _ h
 refine WO (Ud (F.run X.A X.stack s H {us,[]} (us++ds) (vs++dvs) Q E hr I.EI (hb s us I.ý hl) r2 h) λr s' hq=>?_)
 cases r with
 |error e=>exact hx pins B H s e s' I hq
 |ok fl=>
  cases fl with
  |ret u=>exact I.after hq
  |next=>exact SO hq
  |brk=>exact SO hq
  |cont=>exact SO hq
theorem Cz(F:j2 X.prog X.w X.K X.mg X.base CX k f fd ps sp)(hr:dO k X.A)(hg:Gl X x)(hm:X.mg x=YH (.ref f))(hk:Tq X.K (.ref f)=true)(hb:YO X.K fd ps ds)(hd:YK dvs ds)(hx:YU CX X E)
  (ha:PA X (e::es) t) (Ď:(x==("__debug__":Str))=false:=by decide) (he:RV (e::es) X.env=(false,SD e X.env)::RV es X.env:=by rfl) (ò:(SJ pos (RV es X.env)).any (·.1)=false:=by rfl) :
  PE X (.Call (.Name x p) (e::es) [] pos) (vH sp dvs E t):=by
 intro pins s B H Q I h
 refine Tb (pU I hg hm ?_ Ď)
 refine W.callWith_K (h₀:=X.base) I.ok.mod.á hk (Ì (ha pos pins s B H _ I h) λus s1 ⟨vs,H1,I1,r,q⟩=>{I1.ý,?_}) he ò
 exact AH F hr hb hd hx I1 r q
structure Mk(K:RS)(C f:RJ):Prop where
 makes:Xu K C=true
 init:S9 K (.ref C) "__init__"=YH (YH (.ref f))
 fn:YD K (.ref f)=true
 kp:Tq K (.ref C)=true
theorem Fm(M:Mk X.K C f)(F:j2 X.prog X.w X.K X.mg X.base CX k f fd ps sp)(hr:dO (k+1) X.A)(hb:YO X.K fd ps ds)(hd:YK dvs ds)
  (hx:YU CX X E) (I:Inv X pins B H s) (r:YK vs us)
  (h:∀x dx,H x=YI->H dx=YI->dx≠x->sp (.ref x::(vs++dvs)) (upd (upd H dx (.own x)) x (.ins C dx [])) (λv H2=>v=.Ë/\Q (.ref x) H2) E) :
  wpAny (RY X.prog X.w) X.A (call (.ref C) us) (EP X pins B Q) X.xe s:=by
 have hq:=h (s.heap.objs.size+1) s.heap.objs.size (I.Æ.fresh (QI _)) (I.Æ.fresh (O4 _)) (Pw (QK _))
 have I2:=Inv.made (C:=C) I
 have r2:YK (V.ref (s.heap.objs.size+1)::(vs++dvs)) (Sd (s.heap.objs.size+1)::(us++ds)):=.cons rfl (r.append hd)
 have hl:(Sd (s.heap.objs.size+1)::us++ds).length=ps.length:=by
  have e:=r2.length;rw[F.len _ _ _ _ hq]at e;exact e.symm
 refine WO (Gq (f:=f) I.ý M.makes M.init (beq_iff_eq.mp M.fn) (Ud (F.run _ X.stack _ _ {Sd (s.heap.objs.size+1)::us,[]} (Sd (s.heap.objs.size+1)::(us++ds)) _ _ E (hr.make C us [])
  (I2.EI.make C us []) (hb _ (Sd (s.heap.objs.size+1)::us) I2.ý hl) r2 hq) λr s' ű=>?_))
 cases r with
 |error e=>exact hx pins B _ _ e s' I2 ű
 |ok fl=>
  cases fl with
  |ret u=>
   obtain⟨v,H',I3,rv,ev,q3⟩:=I2.after ű
   subst ev
   exact{rv,{V.ref (s.heap.objs.size+1),H',I3,rfl,q3}}
  |next=>exact SO ű
  |brk=>exact SO ű
  |cont=>exact SO ű
theorem Hw(M:Mk X.K C f)(F:j2 X.prog X.w X.K X.mg X.base CX k f fd ps sp)(hr:dO (k+1) X.A)(hg:Gl X x)(hm:X.mg x=YH (.ref C))(hb:YO X.K fd ps ds)(hd:YK dvs ds)(hx:YU CX X E)
  (ha:PA X (e::es) t) (Ď:(x==("__debug__":Str))=false:=by decide) (he:RV (e::es) X.env=(false,SD e X.env)::RV es X.env:=by rfl) (ò:(SJ pos (RV es X.env)).any (·.1)=false:=by rfl) :
  PE X (.Call (.Name x p) (e::es) [] pos) (JH C sp dvs E t):=by
 intro pins s B H Q I h
 refine Tb (pU I hg hm ?_ Ď)
 refine W.callWith_K (h₀:=X.base) I.ok.mod.á M.kp (Ì (ha pos pins s B H _ I h) λus s1 ⟨vs,H1,I1,r,q⟩=>{I1.ý,?_}) he ò
 exact Fm M F hr hb hd hx I1 r q
end
def PK(X:Cx)(kws:List Ue)(t:TA):Prop:=
 ∀(pos:Pos)(pins:List (RJ×Obj))(s:RN)(B:St)(H:Hp)(Q:List V->Hp->Prop),Inv X pins B H s->t B H Q->wpAny (RY X.prog X.w) X.A (evalAll ((TM pos (SR kws X.env)).map (·.2))) (AP X pins B Q) X.xe s
section
variable{X:Cx}{CX:ź}{k:Nat}{f C:RJ}{fd:TC}{ps ks:List Str}{sp:Sp}{E:XK}{x m:Str}{p pos apos kpos:Pos}{e o:Expr}{es:List Expr}{kws:List Ue}{te ta:TE}{t tk:TA}{nm:Option Str}
theorem KY:PK X [] DZ:=λ_ _ _ _ H Q I h=>wpAny_evalAll_nil {[],H,I,.nil,h}
theorem IZ(ha:PE X e te)(hr:PK X kws t):PK X (⟨nm,e,kpos⟩::kws) (zh te t):=by
 intro pos pins s B H Q I h;show wpAny _ _ (evalAll ((do let v<-SD e X.env;Xc pos;pure v)::(TM pos (SR kws X.env)).map (·.2))) _ _ s;refine wpAny_evalAll_cons (E9 (Ì (ha pins s B H _ I h) λu s1 ⟨x,H1,I1,r1,q1⟩=>E9 (Vm (RK ?_))));exact Ì (hr pos pins s1 B H1 _ I1 q1) λus s2 ⟨xs,H2,I2,r2,q2⟩=>{x::xs,H2,I2,.cons r1 r2,q2}
structure xu(K:RS)(fd:TC)(ps ks:List Str)(g:List RI->List RI->List RI)(gV:List V->List V->List V):Prop where
 to:∀(s:RN)(us ws:List RI),K.In s.heap->(g us ws).length=ps.length->VL s fd ⟨us,ks.zip ws⟩ (ps.zip (g us ws))
 rel:∀{vs:List V}{us:List RI}{zs:List V}{ws:List RI},YK vs us->YK zs ws->YK (gV vs zs) (g us ws)
noncomputable def Er(sp:Sp)(gV:List V->List V->List V)(E:XK)(t tk:TA):TE:=λB H Q=>t B H λvs H1=>tk B H1 λzs H2=>sp (gV vs zs) H2 Q E
variable{g:List RI->List RI->List RI}{gV:List V->List V->List V}
theorem HH(F:j2 X.prog X.w X.K X.mg X.base CX k f fd ps sp)(hr:dO k X.A)(hb:xu X.K fd ps ks g gV)(hx:YU CX X E)
  (I:Inv X pins B H s) (r:YK vs us) (rz:YK zs ws) (h:sp (gV vs zs) H Q E):wpAny (RY X.prog X.w) X.A (call (.ref f) us (ks.zip ws)) (EP X pins B Q) X.xe s:=by
 have r2:=hb.rel r rz
 have hl:(g us ws).length=ps.length:=by rw[<-r2.length];exact F.len _ _ _ _ h
 refine WO (Ud (F.run X.A X.stack s H ⟨us,ks.zip ws⟩ (g us ws) (gV vs zs) Q E hr I.EI (hb.to s us ws I.ý hl) r2 h) λr s' hq=>?_)
 cases r with
 |error e=>exact hx pins B H s e s' I hq
 |ok fl=>
  cases fl with
  |ret u=>exact I.after hq
  |next=>exact SO hq
  |brk=>exact SO hq
  |cont=>exact SO hq
theorem FJ(F:j2 X.prog X.w X.K X.mg X.base CX k f fd ps sp)(hr:dO k X.A)(hg:Gl X x)(hm:X.mg x=YH (.ref f))(hk:Tq X.K (.ref f)=true)(hb:xu X.K fd ps ks g gV)(hx:YU CX X E)
  (ha:PA X (e::es) t) (hkw:PK X kws tk) (hall:(TM pos (SR kws X.env)).all (·.1.isSome)=true:=by rfl) (hks:(TM pos (SR kws X.env)).filterMap (·.1)=ks:=by rfl)
  (Ď:(x==("__debug__":Str))=false:=by decide) (he:RV (e::es) X.env=(false,SD e X.env)::RV es X.env:=by rfl)
  (ò:((SJ pos (RV (e::es) X.env)).any (·.1)||(TM pos (SR kws X.env)).any (·.1.isNone))=false:=by rfl) :
  PE X (.Call (.Name x p) (e::es) kws pos) (Er sp gV E t tk):=by
 intro pins s B H Q I h
 refine Tb (pU I hg hm ?_ Ď)
 refine W.callWith_KW (h₀:=X.base) I.ok.mod.á hk hall (Ì (ha pos pins s B H _ I h) λus s1 ⟨vs,H1,I1,r,q⟩=>?_) ò he
 refine Ì (hkw pos pins s1 B H1 _ I1 q) λws s2 ⟨zs,H2,I2,rz,q2⟩=>{I2.ý,?_}
 rw[hks]
 exact HH F hr hb hx I2 r rz q2
end
structure aE(N P:List Str)(sc:U5):Prop where
 kind:sc.kind=.function
 co:sc.isCoroutine=false
 gen:sc.isGenerator=false
 nd:N.Nodup
 pre:N.take P.length=P
 par:∀x∈P,sc.names.lookup x=YH .local\/sc.names.lookup x=YH .cell
 KS:∀y∈sc.names,y.2≠ .free
theorem vK{kindOf:Str->Option TN}:∀{binds:List (Str×RI)}{m:Str->Option RI},(∀v,(x,v)∉binds)->X4 kindOf binds m x=m x
 | [],_,_=>rfl
 | (n,v)::r,m,h=>by
  unfold X4;rw[vK λw hw=>h w (O8 _ hw)];split
  ·have:x≠n:=by rintro rfl;exact h v O9
   simp[this]
  rfl
theorem vR{kindOf:Str->Option TN}:∀{binds:List (Str×RI)}{m:Str->Option RI},(∀v,(x,v)∉binds)->X5 kindOf binds m x=m x
 | [],_,_=>rfl
 | (n,v)::r,m,h=>by
  unfold X5;rw[vR λw hw=>h w (O8 _ hw)];split
  ·rfl
  have:x≠n:=by rintro rfl;exact h v O9
  simp[this]
theorem vT{kindOf:Str->Option TN}:∀{P:List Str}{vs:List RI}{i:Nat}{m:Str->Option RI},P.Nodup->P[i]?=YH x->vs[i]?=YH v->kindOf x=YH .local->
  X4 kindOf (P.zip vs) m x=YH v
 | [],_,_,_,_,h,_,_=>by simp at h
 |_::_,[],_,_,_,_,h,_=>by simp at h
 |p::P,w::vs,0,m,nd,h1,h2,hk=>by
  simp at h1 h2;subst h1;subst h2;show X4 kindOf ((p,w)::P.zip vs) m p=_;unfold X4;rw[vK λv hv=>(P1.mp nd).1 (Qx hv).1,if_pos hk];simp
 |p::P,w::vs,i+1,m,nd,h1,h2,hk=>by
  show X4 kindOf ((p,w)::P.zip vs) m x=_;unfold X4;exact vT (i:=i) (P1.mp nd).2 (by simpa using h1) (by simpa using h2) hk
theorem vP{kindOf:Str->Option TN}:∀{P:List Str}{vs:List RI}{i:Nat}{m:Str->Option RI},P.Nodup->P[i]?=YH x->vs[i]?=YH v->kindOf x≠YH .local->
  X5 kindOf (P.zip vs) m x=YH v
 | [],_,_,_,_,h,_,_=>by simp at h
 |_::_,[],_,_,_,_,h,_=>by simp at h
 |p::P,w::vs,0,m,nd,h1,h2,hk=>by
  simp at h1 h2;subst h1;subst h2;show X5 kindOf ((p,w)::P.zip vs) m p=_;unfold X5;rw[vR λv hv=>(P1.mp nd).1 (Qx hv).1,if_neg hk];simp
 |p::P,w::vs,i+1,m,nd,h1,h2,hk=>by
  show X5 kindOf ((p,w)::P.zip vs) m x=_;unfold X5;exact vP (i:=i) (P1.mp nd).2 (by simpa using h1) (by simpa using h2) hk
noncomputable def YT(N:List Str)(vs:List V):St:=vs.map YH++Se (N.length-vs.length) YI
noncomputable def uX(CX:ź)(P:Program)(w:R5)(K:RS)(mg:Str->Option RI)(base:So)(N:List Str)(qual:Str)(scope:U5)(f:RJ)(cd:RI)(A:Sq)(outer:List Env)(s:RN)(H:Hp)(E:XK):Cx where
 prog:=P
 w:=w
 K:=K
 mg:=mg
 base:=base
 A:=A.deeper (Ui qual scope s.heap.objs.size f cd)
 N:=N
 s₀:=s
 H₀:=H
 env:=Ui qual scope s.heap.objs.size f cd
 outer:=outer
 stack:=Ui qual scope s.heap.objs.size f cd::outer
 ex:=[]
 calm:=true
 fn:=λ_=>true
 pn:=[]
 xe:=λe s'=>wpAny (RY P w) (A.deeper (Ui qual scope s.heap.objs.size f cd)) (leaving (Ui qual scope s.heap.objs.size f cd) e) (λ_ s''=>CX outer H s E e s'') (λe' s''=>CX outer H s E e' s'') s'
theorem zf{sc:U5}{n:Nat}{x:Str}(h:sc.names.lookup x=YH .cell):∃c,(SK n sc.names []).lookup x=YH c:=by
 have q:=UJ sc.names n [] (.inl h);exact Qy.mp q
theorem Dq{CX:ź}{P:Program}{w:R5}{K:RS}{mg:Str->Option RI}{base:So}{N ps:List Str}{qual:Str}{scope:U5}{f:RJ}{cd:RI}{A:Sq}{outer:List Env}{s s1:RN}{H:Hp}{E:XK}{us:List RI}{vs:List V}
  (S:aE N ps scope) (hd:A.handled=YI) (e0:Al P w K mg base A outer s H) (hl:vs.length=ps.length) (r:YK vs us)
  (x:InCallC s s.heap.objs.size (X4 (Ui qual scope s.heap.objs.size f cd).kindOf (ps.zip us) λ_=>YI) (SK (s.heap.objs.size+1) scope.names []) (X5 (Ui qual scope s.heap.objs.size f cd).kindOf (ps.zip us) λ_=>YI) s1) :
  Inv (uX CX P w K mg base N qual scope f cd A outer s H E) [] (YT N vs) H s1:=by
 have ò:ps.length<=N.length:=by have:=congrArg TF S.pre;rw[PV]at this;lia
 obtain⟨h1,tk,rfl,hk⟩:=x.done
 have noA:∀b:RJ,b∉(uX CX P w K mg base N qual scope f cd A outer s H E).ex:=λb z=>absurd (show b∈([]:List RJ)from z) (by simp)
 refine⟨{e0.mod,S.kind,rfl,rfl,O4 _,λy z c h1 h2=>?_,λy hy=>?_,λy c _ h=>?_,λ_=>hd,Around.frames_deeper e0.frames,.inr ⟨rfl,rfl⟩,λb z=>absurd z (noA b),e0.bs,e0.bsz,λb _ _=>noA b,λb z=>absurd z (noA b),e0.rG,e0.frf},
  rfl,e0.bare,Un.kept hk,{_,x.toInCall.ns,λi y v h1 h2 h3=>?_},λy c h=>{_,x.cell y c h},e0.Æ.fresh (O4 _),λy c h=>?_,λp hp=>absurd (show p∈([]:List (RJ×Obj))from hp) (by simp),e0.Æ.kept hk,?_⟩
 ·exact name_of_addr x.apart (Sj h1) (Sj h2)
 ·have hy:scope.names.lookup y=YH .cell\/scope.names.lookup y=YH .free:=hy;rcases hy with hy|hy
  ·exact zf hy
  exact absurd rfl (S.KS _ (Sj hy))
 ·exact QJ (x.above y c (Sj h))
 ·have hi:i<vs.length:=by
   unfold YT at h2;by_cases hi:i<vs.length
   ·exact hi
   rw[PU (by simpa using hi)]at h2;rw[Vr]at h2;split at h2<;>cases h2
  have ha:vs[i]?=YH v:=by
   unfold YT at h2;rw[PY (by simpa using hi),Pk]at h2;cases e:vs[i]? with
   |none=>rw[e]at h2;cases h2
   |some a=>rw[e]at h2;cases h2;rfl
  obtain⟨u,hu,rv⟩:=r.get ha;have hp:ps[i]?=YH y:=by
   rw[<-S.pre,Q6 ()];exact h1
  have ndP:ps.Nodup:=by rw[<-S.pre];exact S.nd.sublist (Xg _ _)
  refine{u,rv,?_};rcases S.par y (Pj hp)with k|k
  ·exact .inl ⟨k,vT ndP hp hu k⟩
  obtain⟨c,e⟩:=zf (n:=s.heap.objs.size+1) k;refine .inr {.inl k,c,e,?_};have q:=x.cell y c e;rw[vP ndP hp hu (by show scope.names.lookup y≠_;rw[k];decide)]at q;exact q
 ·exact e0.Æ.fresh (QJ (x.above y c (Sj h)))
 unfold YT
 show _=N.length
 rw[OX,OZ,QF]
 lia
theorem GO{CX:ź}{P:Program}{w:R5}{K:RS}{mg:Str->Option RI}{base:So}{k:Nat}{f:RJ}{name qual:Str}{params:Arguments}{body:List Si}{scope:U5}{dV kV doc pm Ã ct oc:RI}{an od:Option RJ}
  {ú:Array (Option RI)}{N ps:List Str}{sp:Sp} (lk:K.lookup f=YH {oc,od,.func (Te name qual params body scope dV kV doc pm an Ã ct),ú}) (ņ:UP K Ã qual=true) (S:aE N ps scope)
  (len:∀vs H Q E,sp vs H Q E->vs.length=ps.length)
  (í:∀(A:Sq)(outer:List Env)(s:RN)(H:Hp)(vs:List V)(Q:VK)(E:XK),dO k (A.deeper (Ui qual scope s.heap.objs.size f Ã))->sp vs H Q E->
   ∃t,Ĳ (uX CX P w K mg base N qual scope f Ã A outer s H E) body t/\t { nx:=λ_ H'=>Q .Ë H',rt:=Q } (YT N vs) H) :
  j2 P w K mg base CX (k+1) f (Te name qual params body scope dV kV doc pm an Ã ct) ps sp:=by
 refine{len,λA outer s H args us vs Q E hr e0 hb r Ű=>?_}
 have hl:=len _ _ _ _ Ű
 have KX:K.In s.heap:=e0.mod.á.keeps λb o e=>(e0.bs b o e).1
 have lim:s.heap.NoLimit:=e0.mod.nolimit.keeps λb o e=>(e0.bs b o e).1
 have hkind:∀y∈ps.zip us,scope.names.lookup y.1=YH .local\/(scope.names.lookup y.1=YH .cell/\((SK (s.heap.objs.size+1) scope.names []).lookup y.1).isSome=true):=λ⟨n,v⟩ hy=>by
  rcases S.par n (Qx hy).1 with q|q
  ·exact .inl q
  exact .inr {q,UJ _ _ _ (.inl q)}
 refine codeAny_call_function hr.depth (KX _ _ lk) rfl S.co S.gen rfl (W.codeRec_of KX ņ) (hb _ _ _ _ ?_)
 refine wpAny_newFunctionEnv_cells S.kind hkind λenv he s1 x=>?_
 subst he
 refine{lim.keeps x.toInCall.keep,codeAny_func ?_}
 obtain⟨t,ht,hq⟩:=í A outer s H vs Q E (hr.deeper _) Ű
 have I:Inv (uX CX P w K mg base N qual scope f Ã A outer s H E) [] (YT N vs) H s1:=Dq S hr.hd e0 hl r x
 refine Tw (ht [] s1 (YT N vs) H _ I hq) (λfl s' hs=>?_) λe s' hs=>hs
 have fin:∀{B':St}{H':Hp}{v:V}{u:RI},Inv (uX CX P w K mg base N qual scope f Ã A outer s H E) [] B' H' s'->YM v u->Q v H'->CE outer P w H s Q u s':=
  λ{B' H' v u} J rv q=>⟨v,H',J.os,J.bare,J.base,J.Æ,rv,q⟩
 cases fl with
 |ret u=>
  obtain⟨v,B',H',J,rv,q⟩:=hs
  exact fin J rv q
 |next=>
  obtain⟨B',H',J,q⟩:=hs
  exact fin (v:=V.Ë) (u:=UH) J rfl q
 |brk=>
  obtain⟨_,_,_,q⟩:=hs
  exact SO q
 |cont=>
  obtain⟨_,_,_,q⟩:=hs
  exact SO q
section
variable{X:Cx}{x:Str}{p pos:Pos}{e:Expr}{es:List Expr}{t:TA}{id T:String}{r:List V->Hp->VK->Prop}
noncomputable def tCB(r:List V->Hp->VK->Prop)(t:TA):TE:=λB H Q=>t B H λvs H1=>r vs H1 Q
theorem E5(hc:dU X (.builtin id) r)(hg:Gl X x)(hm:X.mg x=YI)(hv:TB x=YH (.builtin id))(ha:PA X (e::es) t)(hn:x≠"__name__":=by decide)(Ď:(x==("__debug__":Str))=false:=by decide)
  (he:RV (e::es) X.env=(false,SD e X.env)::RV es X.env:=by rfl) (ò:(SJ pos (RV es X.env)).any (·.1)=false:=by rfl):PE X (.Call (.Name x p) (e::es) [] pos) (tCB r t):=by
 intro pins s B H Q I h
 refine Tb (lP I hg hm hv ?_ hn Ď)
 exact UK (Ì (ha pos pins s B H _ I h) λus s1 ⟨vs,H1,I1,r1,q1⟩=>hc pins s1 B H1 vs us Q I1 r1 q1) he ò
theorem Du(hc:dU X (.type T) r)(hg:Gl X x)(hm:X.mg x=YI)(hv:TB x=YH (.type T))(ha:PA X (e::es) t)(hn:x≠"__name__":=by decide)(Ď:(x==("__debug__":Str))=false:=by decide)
  (he:RV (e::es) X.env=(false,SD e X.env)::RV es X.env:=by rfl) (ò:(SJ pos (RV es X.env)).any (·.1)=false:=by rfl):PE X (.Call (.Name x p) (e::es) [] pos) (tCB r t):=by
 intro pins s B H Q I h
 refine Tb (lP I hg hm hv ?_ hn Ď)
 exact SU (Ì (ha pos pins s B H _ I h) λus s1 ⟨vs,H1,I1,r1,q1⟩=>hc pins s1 B H1 vs us Q I1 r1 q1) he ò
end
end L2
namespace HT
open PySem PyProof.Rows
section
open PySem.SeqAt
open PySem.AutoSeq1 (wpAny_loadPart')
open PySem.MeetsSeq PySem.MeetsSeq2 PySem.MeetsSeq3
end
section
variable{prog:Program}{w:R5}{A:Sq}{E:RI->RN->Prop}{s:RN}
noncomputable def Ù(n d:Nat):Option Int->Nat
 |none=>d
 |some v=>if v<0 then(v+(n:Int)).toNat else min v.toNat n
theorem J8(n d:Nat)(hd:d<=n)(o:Option Int):Ù n d o<=n:=by
 cases o with
 |none=>exact hd
 |some v=>
  show(if v<0 then(v+(n:Int)).toNat else min v.toNat n)<=n;by_cases hv:v<0
  ·rw[if_pos hv];lia
  rw[if_neg hv];exact Nat.min_le_right _ _
theorem Cj(v:Int)(n d:Nat):(if v<0 then max (v+(n:Int)) 0 else min v (n:Int))=((Ù n d (YH v):Nat):Int):=by
 show(if v<0 then max (v+(n:Int)) 0 else min v (n:Int))=(((if v<0 then(v+(n:Int)).toNat else min v.toNat n):Nat):Int);by_cases hv:v<0
 ·simp only[if_pos hv];lia
 simp only[if_neg hv];lia
theorem Ah(lo hi:Option Int)(n:Nat):Uh lo hi 1 (n:Int)=(((Ù n 0 lo:Nat):Int),((Ù n n hi:Nat):Int)):=by
 have h1:¬ ((1:Int)<0):=()
 unfold Uh;simp only[h1,if_false];refine U4 ?_ ?_
 ·cases lo with
  |none=>rfl
  |some v=>exact Cj v n 0
 cases hi with
 |none=>rfl
 |some v=>exact Cj v n n
theorem AZ(i j:Nat):Sw (i:Int) (j:Int) 1=j-i:=by
 unfold Sw;have h1:(1:Int)>0:=()
 simp only[h1,if_true,Int.ediv_one];split<;>lia
theorem tF(p:WQ v o)(h:Q o s):wpAny (RY prog w) A (Builtin.Slice.slicePartIndex v) Q E s:=by
 cases p with
 |none=>exact U8 h
 |int i t=>exact slicePart_int h
theorem qd{sl:RJ}{vl vu:RI}{lo hi:Option Int}{n:Nat}{Q:Int×Int×Nat->RN->Prop}(hs:s.heap.IsSliceOf sl vl vu .none)(pl:WQ vl lo)(pu:WQ vu hi)
  (h:Q (((Ù n 0 lo:Nat):Int),1,Ù n n hi-Ù n 0 lo) s):wpAny (RY prog w) A (Tx (.ref sl) (pure (n:Int))) Q E s:=by
 obtain⟨os,ŧ,hcs,hds⟩:=id hs
 unfold Tx Vd
 refine E9 (E9 (UQ ŧ hds (x:=vl) rfl (E9 (UQ ŧ hds (x:=vu) rfl (E9 (UQ ŧ hds (x:=.none) rfl (RK ?_)))))))
 refine E9 (U8 ?_)
 show wpAny _ _ (if((1:Int)==0)=true then _ else _) _ _ s
 rw[if_neg ∅]
 refine E9 (tF pl (E9 (tF pu (E9 (RK ?_)))))
 show wpAny _ _ (match Uh lo hi 1 (n:Int)with|(lo,hi)=>pure (lo,(1:Int),Sw lo hi 1)) _ _ s
 rw[Ah lo hi n]
 show wpAny _ _ (pure (((Ù n 0 lo:Nat):Int),(1:Int),Sw ((Ù n 0 lo:Nat):Int) ((Ù n n hi:Nat):Int) 1)) _ _ s
 rw[AZ]
 exact RK h
theorem EY(xs:Array RI)(i k:Nat):((R8 k).filterMap λ(m:Nat)=>xs[((i:Int)+(m:Int)*1).toNat]?).toArray=((xs.toList.drop i).take k).toArray:=by
 have e:(λ(m:Nat)=>xs[((i:Int)+(m:Int)*1).toNat]?)=λm=>xs[i+m]?:=by
  funext m
  have:((i:Int)+(m:Int)*1).toNat=i+m:=()
  rw[this]
 rw[e];have:=pick_run xs i k;rw[List.filterMap_map]at this;have e2:((λx=>xs[x]?)∘λx=>i+x)=λm=>xs[i+m]?:=rfl;rw[e2]at this;rw[this]
theorem p5{t sl:RJ}{items:Array RI}{vl vu:RI}{lo hi:Option Int}{Q:RI->RN->Prop}(ht:IsTup s.heap t items)(hs:s.heap.IsSliceOf sl vl vu .none)(pl:WQ vl lo)(pu:WQ vu hi)
  (hw:¬ (Ù items.size 0 lo=0/\Ù items.size items.size hi=items.size))
  (h:Q (.ref s.heap.objs.size) { s with heap:=s.heap.push { cls:=.type "tuple",data:=.seq ((items.toList.drop (Ù items.size 0 lo)).take (Ù items.size items.size hi-Ù items.size 0 lo)).toArray } })
  (hsz:items.size<=sizeLine):wpAny (RY prog w) A (Vj (.ref t) (.ref sl)) Q E s:=by
 have þ:sizeOk (.seq ((items.toList.drop (Ù items.size 0 lo)).take (Ù items.size items.size hi-Ù items.size 0 lo)).toArray):=by
  show((items.toList.drop (Ù items.size 0 lo)).take (Ù items.size items.size hi-Ù items.size 0 lo)).toArray.size<=sizeLine;rw[Pp,PV,Qu,PH];lia
 have hj:Ù items.size items.size hi<=items.size:=J8 _ _ (O4 _) hi
 obtain⟨os,ŧ,hcs,hds⟩:=id hs
 have hTs:s.TypeIs (.ref sl) "slice":=⟨os,ŧ,hcs⟩
 unfold Vj
 try with_reducible refine wpAny_holding ?_
 first|refine E9 (RK ?_)|skip
 refine E9 (Xh ht.typeIs ∅ ?_)
 refine E9 (TQ (name:=Ug "__getitem__") ht.typeIs S8
  (SS S8 ht.typeIs Wu ?_ (WS _ _)))
 show wpAny _ _ (U9 (.ref t)>>=_) _ _ s
 refine E9 (tupleItemsOf_ ht ?_)
 refine E9 (Uw hTs ?_)
 rw[if_pos ∅]
 refine E9 (qd hs pl pu ?_)
 have hno:¬ ((((Ù items.size 0 lo:Nat):Int)==0&&(1:Int)==1&&(Ù items.size items.size hi-Ù items.size 0 lo)==items.size)=true):=by
  intro q;rw[QB,QB]at q;have q1:((Ù items.size 0 lo:Nat):Int)=0:=eq_of_beq q.1.1;have q2:Ù items.size items.size hi-Ù items.size 0 lo=items.size:=eq_of_beq q.2;exact hw {(),()}
 show wpAny _ _ (if(((Ù items.size 0 lo:Nat):Int)==0&&(1:Int)==1&&(Ù items.size items.size hi-Ù items.size 0 lo)==items.size)=true then _ else _) _ _ s
 rw[if_neg hno,EY]
 first
  |exact E9 (m:=Ss _) (Sk (RK {_,rfl,RK h}) þ)
  |exact E9 (m:=Ss _) (Sk (E9 (RK (RK {_,rfl,RK h}))) þ)
  |exact E9 (E9 (m:=Ss _) (Sk (RK (RK {_,rfl,RK h})) þ))
  |exact E9 (E9 (m:=Ss _) (Sk (RK {_,rfl,RK h}) þ))
end
end HT
namespace L2
open PySem PySem.Spec PyProof.Rows
noncomputable abbrev TO:=St->Hp->(Option Int->Hp->Prop)->Prop
def PO(X:Cx)(e:Option Expr)(t:TO):Prop:=
 ∀(pins:List (RJ×Obj))(s:RN)(B:St)(H:Hp)(Q:Option Int->Hp->Prop),Inv X pins B H s->t B H Q->
  wpAny (RY X.prog X.w) X.A (evalPart e X.env) (λu s'=>∃o H',Inv X pins B H' s'/\WQ u o/\Q o H') X.xe s
noncomputable def Ie:TO:=λ_ H Q=>Q YI H
inductive NQ(x:V)(H:Hp)(Q:Option Int->Hp->Prop):Prop
 |mk(i:Int)(h:x=.int i)(q:Q (YH i) H):NQ x H Q
noncomputable def M9(t:TE):TO:=λB H Q=>t B H λx H1=>NQ x H1 Q
section
variable{X:Cx}{e:Expr}{te:TE}{lo hi:Option Expr}{tl th:TO}{pos p2:Pos}
theorem Ce:PO X YI Ie:=by
 intro pins s B H Q I h;rw[WA];exact RK ⟨YI,H,I,.none,h⟩
theorem rX(h:PE X e te):PO X (YH e) (M9 te):=by
 intro pins s B H Q I hw;rw[evalPart_some];refine Ì (h pins s B H _ I hw) λu s1 z9=>?_;obtain⟨x,H1,I1,r1,q1⟩:=z9;obtain⟨i,rfl,q⟩:=q1;obtain⟨t,rfl⟩:=r1;exact⟨YH i,H1,I1,.int i t,q⟩
def SlR(X:Cx)(r:V->Option Int->Option Int->Hp->VK->Prop):Prop:=
 ∀(pins:List (RJ×Obj))(s:RN)(B:St)(H:Hp)(x:V)(v vl vu:RI)(lo hi:Option Int)(sl:RJ)(Q:VK),Inv X pins B H s->YM x v->s.heap.IsSliceOf sl vl vu .none->WQ vl lo->WQ vu hi->r x lo hi H Q->
  ∃T id,typeLookup (.type T) "__getitem__"=pure (YH (.builtin id))/\s.TypeIs v T/\wpAny (RY X.prog X.w) X.A (Vj v (.ref sl)) (EP X pins B Q) X.xe s
theorem SlR.or(h:SlR X r)(h':SlR X r'):SlR X (λx lo hi H Q=>r x lo hi H Q\/r' x lo hi H Q):=by
 intro pins s B H x v vl vu lo hi sl Q I rx hs pl pu q;rcases q with q|q
 ·exact h pins s B H x v vl vu lo hi sl Q I rx hs pl pu q
 exact h' pins s B H x v vl vu lo hi sl Q I rx hs pl pu q
noncomputable def tSl(r:V->Option Int->Option Int->Hp->VK->Prop)(te:TE)(tl th:TO):TE:=λB H Q=>te B H λx H1=>tl B H1 λl H2=>th B H2 λu H3=>r x l u H3 Q
theorem uN(hr:SlR X r)(he:PE X e te)(hl:PO X lo tl)(hu:PO X hi th):PE X (.Subscript e (.Slice lo hi YI p2) pos) (tSl r te tl th):=by
 intro pins s B H Q I h;refine X6 (Ì (he pins s B H _ I h) λv s1 z9=>?_);obtain⟨x,H1,I1,r1,q1⟩:=z9;refine wpAny_Slice (Ì (hl pins s1 B H1 _ I1 q1) λvl s2 ⟨l,H2,I2,pl,q2⟩=>Ì (hu pins s2 B H2 _ I2 q2) λvu s3 z9=>?_);obtain⟨u,H3,I3,pu,q3⟩:=z9;rw[WA];refine RK ?_;have I4:Inv X pins B H3 { s3 with heap:=s3.heap.push { cls:=.type "slice",data:=.fields #[vl,vu,.none] } }:=I3.kept (t':=s3.toks) λb ob q=>RL _ q;obtain⟨T,id,hT,ht,hg⟩:=hr pins { s3 with heap:=s3.heap.push { cls:=.type "slice",data:=.fields #[vl,vu,.none] } } B H3 x v vl vu l u s3.heap.objs.size Q I4 r1 (WT ..) pl pu q3;show wpAny (RY X.prog X.w) X.A (WC e (.Slice lo hi YI p2) v (.ref s3.heap.objs.size)) (EP X pins B Q) X.xe { s3 with heap:=s3.heap.push { cls:=.type "slice",data:=.fields #[vl,vu,.none] } };exact tail_any (ops:=[.ref s3.heap.objs.size,v]) ht hT hg (by with_unfolding_all rfl)
noncomputable def rB(xs:List V)(lo hi:Option Int):List V:=(xs.drop (HT.Ù xs.length 0 lo)).take (HT.Ù xs.length xs.length hi-HT.Ù xs.length 0 lo)
theorem qV(xs:List V)(lo hi:Option Int):(rB xs lo hi).length<=xs.length:=by
 unfold rB;rw[PV,Qu];lia
def Mi(K:RS):V->Option Int->Option Int->Hp->VK->Prop:=λx lo hi H Q=>∃a xs,x=.ref a/\È K H a xs/\
 ¬ (HT.Ù xs.length 0 lo=0/\HT.Ù xs.length xs.length hi=xs.length)/\∀p,H p=YI->Q (.ref p) (upd H p (.tup (rB xs lo hi)))
theorem Kv:SlR X (Mi X.K):=by
 intro pins s B H x v vl vu lo hi sl Q I rx hs pl pu h;obtain⟨a,xs,rfl,hx,hw,q⟩:=h;cases rx;obtain⟨Â,r,ht,hz⟩:=I.tuple hx;have hlen:Â.toArray.size=xs.length:=by rw[Pp];exact r.length.symm
 refine{"tuple",_,PyProof.Rows.slot_tuple_getitem.lookup,ht.typeIs,?_};refine HT.p5 ht hs pl pu (by rw[hlen];exact hw) ?_ (by rw[hlen];exact hz);rw[hlen];refine{.ref s.heap.objs.size,_,I.laid (t':=s.toks) (o:=.tup (rB xs lo hi)) (λb ob q=>RL _ q) (O4 _) ?_,rfl,q _ (I.Æ.fresh (O4 _))};exact{Pf (qV xs lo hi) hz,_,(r.drop (HT.Ù xs.length 0 lo)).take (HT.Ù xs.length xs.length hi-HT.Ù xs.length 0 lo),IsTup.new _ _}
end
noncomputable def Ś(n:Nat)(i:Int):Option Nat:=if 0<=i then(if i<n then YH i.toNat else YI)else if -(n:Int)<=i then YH (i+n).toNat else YI
noncomputable def į{α:Type}(xs:List α)(i:Int):Option α:=(Ś xs.length i).bind λj=>xs[j]?
theorem Cb(h:Ś n i=YH j):seqIndex? i n=YH j/\j<n/\-(n:Int)<=i/\i<n:=by
 unfold Ś at h;by_cases h0:0<=i
 ·rw[if_pos h0]at h;by_cases h1:i<n
  ·rw[if_pos h1]at h;have e:i.toNat=j:=R6 h;exact{by rw[XM h0 h1,e],(),(),h1}
  rw[if_neg h1]at h;cases h
 rw[if_neg h0]at h;by_cases h1:-(n:Int)<=i
 ·rw[if_pos h1]at h;have e:(i+n).toNat=j:=R6 h;exact{by rw[Xi () h1,e],(),h1,()}
 rw[if_neg h1]at h;cases h
theorem xH(h:į xs i=YH v):∃j,seqIndex? i xs.length=YH j/\xs[j]?=YH v/\j<xs.length/\-(xs.length:Int)<=i/\i<xs.length:=by
 unfold į at h;cases e:Ś xs.length i with
 |none=>rw[e]at h;cases h
 |some j=>
  rw[e]at h;obtain⟨h1,h2,h3,h4⟩:=Cb e;exact⟨j,h1,h,h2,h3,h4⟩
theorem jh{α:Type}{xs:List α}{j:Nat}{v:α}(h:xs[j]?=YH v):į xs (j:Int)=YH v:=by
 have hj:j<xs.length:=(Pl.mp h).1;have e:Ś xs.length (j:Int)=YH j:=by
  unfold Ś;rw[if_pos (),if_pos ()];simp
 unfold į;rw[e];exact h
def CZ(b:Expr):Prop:=∀o i,subscripted b false o i=operate [o,i] (Vj o i)
def IxR(X:Cx)(r:R2):Prop:=
 ∀(value slice:Expr)(pins:List (RJ×Obj))(s:RN)(B:St)(H:Hp)(x y:V)(v u:RI)(Q:VK),Inv X pins B H s->YM x v->YM y u->r x y H Q->
  subscripted slice false v u=operate [v,u] (Vj v u)->wpAny (RY X.prog X.w) X.A (WC value slice v u) (EP X pins B Q) X.xe s
def MtR(X:Cx)(id:String)(r:V->List V->Hp->VK->Prop):Prop:=
 ∀(pins:List (RJ×Obj))(s:RN)(B:St)(H:Hp)(x:V)(xs:List V)(v:RI)(us:List RI)(Q:VK),Inv X pins B H s->YM x v->YK xs us->r x xs H Q->
  wpAny (RY X.prog X.w) X.A (call (.builtin id) (v::us)) (EP X pins B Q) X.xe s
section
variable{X:Cx}{a b:Expr}{ta tb:TE}{pos:Pos}
theorem M6(hr:IxR X r)(ha:PE X a ta)(hb:PE X b tb)(hs:CZ b):PE X (.Subscript a b pos) (tOp r ta tb):=by
 intro pins s B H Q I h;exact X6 (LV ha hb I h λv u s2 x y H2 I2 rx ry q=>hr a b pins s2 B H2 x y v u Q I2 rx ry q (hs _ _))
noncomputable def N4(K:RS):R2:=λx y H Q=>∃p xs i v,x=.ref p/\y=.int i/\À K H p xs/\į xs i=YH v/\Q v H
noncomputable def NZ(K:RS):R2:=λx y H Q=>∃p xs i v,x=.ref p/\y=.int i/\È K H p xs/\į xs i=YH v/\Q v H
noncomputable def Oc:R2:=λx y H Q=>∃z i c,x=.str z/\y=.int i/\z.length<=sizeLine/\į z.cps.toList i=YH c/\Q (.str ⟨#[c]⟩) H
theorem G1:IxR X (N4 X.K):=by
 intro value slice pins s B H x y v u Q I rx ry h hs;obtain⟨p,xs,i,z,rfl,rfl,hq,he,q⟩:=h;cases rx;obtain⟨t,rfl⟩:=ry;obtain⟨Â,r,pl,hz⟩:=I.list hq;obtain⟨j,h1,h2,h3,h4,h5⟩:=xH he;obtain⟨w,ew,rw'⟩:=r.get h2;have hl:=r.length;have hn:=qz;have fin:EP X pins B Q w s:=⟨z,H,I,rw',q⟩;by_cases h0:0<=i
 ·have hj:i.toNat=j:=by
   rw[XM h0 h5]at h1;exact R6 h1
  exact item_listR pl.isList h0 () (by rw[hj];simpa using ew) fin hs
 have hj:(i+(Â.toArray.size:Int)).toNat=j:=by
  rw[Xi () h4]at h1;rw[Pp,<-hl];exact R6 h1
 exact VM (x:=w) pl.isList.typeIs slot_list_getitem.lookup
  (wpAny_getItem_list_neg (Q:=λr s'=>r=w/\EP X pins B Q r s') pl.isList () (by rw[Pp]<;>lia) () (by rw[hj];simpa using ew) ⟨rfl,fin⟩) hs
theorem J0:IxR X (NZ X.K):=by
 intro value slice pins s B H x y v u Q I rx ry h hs;obtain⟨p,xs,i,z,rfl,rfl,hq,he,q⟩:=h;cases rx;obtain⟨t,rfl⟩:=ry;obtain⟨Â,r,pl,hz⟩:=I.tuple hq;obtain⟨j,h1,h2,h3,h4,h5⟩:=xH he;obtain⟨w,ew,rw'⟩:=r.get h2;have hl:=r.length;have hn:=qz;have fin:EP X pins B Q w s:=⟨z,H,I,rw',q⟩;exact VM (x:=w) pl.typeIs slot_tuple_getitem.lookup
  (getItem_tuple (j:=j) (Q:=λr s'=>r=w/\EP X pins B Q r s') pl () () (by rw[Pp,<-hl];exact h1) (by simpa using ew) ⟨rfl,fin⟩) hs
theorem Mc:IxR X Oc:=by
 intro value slice pins s B H x y v u Q I rx ry h hs;obtain⟨z,i,c,rfl,rfl,hz,he,q⟩:=h;obtain⟨t,rfl⟩:=rx;obtain⟨t',rfl⟩:=ry;obtain⟨j,h1,h2,h3,h4,h5⟩:=xH he;have hl:z.cps.toList.length=z.length:=by simp[Str.length]
 rw[hl]at h1 h4 h5;have hn:=qz;exact tail_any (WU s z t) slot_str_getitem.lookup (getItem_str (c:=c) (by
  have e1:decide (i< -(2^63:Int))=false:=decide_eq_false ();have e2:decide (i ≥ 2^63)=false:=decide_eq_false ();rw[e1,e2,Bool.or_false]) (by rw[h1];simpa using h2) {.str ⟨#[c]⟩,H,I.tok _,{_,rfl},q}) hs
theorem A4(Â:List RI)(n j:Nat)(u:RI):To (·.setIfInBounds j u) { cls:=.type "list",data:=.seq Â.toArray n }={ cls:=.type "list",data:=.seq (Â.set j u).toArray n }:=by
 simp[To]
theorem Inv.lst(I:Inv X pins B H s)(h:H p=YH (.lst xs)) :
  ∃(Â:List RI)(n:Nat),YK xs Â/\s.heap.get? p=YH { cls:=.type "list",data:=.seq Â.toArray n }/\xs.length<=sizeLine:=by
 obtain⟨z,Â,n,r,e⟩:=I.Æ p _ h
 exact⟨Â,n,r,e,z⟩
theorem Inv.Ls{pins:List (RJ×Obj)}{B:St}{H:Hp}{s:RN}{p:RJ}{xs ys:List V}{Â its':List RI}{n n':Nat}{f:Obj->Obj}(I:Inv X pins B H s)(h:H p=YH (.lst xs))
  (ho:s.heap.get? p=YH { cls:=.type "list",data:=.seq Â.toArray n }) (hf:f { cls:=.type "list",data:=.seq Â.toArray n }={ cls:=.type "list",data:=.seq its'.toArray n' }) (r:YK ys its') (hz:ys.length<=sizeLine) (t:Nat) :
  Inv X pins B (upd H p (.lst ys)) { s with heap:=s.heap.update p f,toks:=t }:=by
 have e:(s.heap.update p f).get? p=YH { cls:=.type "list",data:=.seq its'.toArray n' }:=by
  rw[Ta f ho (by rw[hf]<;>rfl),hf]
 refine I.write (x:=p) (e:=p) (by rw[h];trivial) (.inl rfl) (λb u hb q=>(SI _ _ (Pr hb)).trans q) {_,e} ?_
 exact⟨hz,its',n',r,e⟩
def Jp:V->V->V->Hp->(Hp->Prop)->Prop:=λo i v H Q=>∃p xs k j,o=.ref p/\i=.int k/\H p=YH (.lst xs)/\Ś xs.length k=YH j/\Q (upd H p (.lst (xs.set j v)))
theorem YN:Fb X Jp:=by
 intro pins s B H o i v ov iv u Q I ro ri rv h;obtain⟨p,xs,k,j,rfl,rfl,hp,hj,q⟩:=h;cases ro;obtain⟨t,rfl⟩:=ri;obtain⟨Â,n,r,ho,hz⟩:=I.lst hp;obtain⟨h1,h2,h3,h4⟩:=Cb hj;have hl:=r.length;have hn:=qz;have I':Inv X pins B (upd H p (.lst (xs.set j v))) { s with heap:=s.heap.update p (To (·.setIfInBounds j u)) }:=
  I.Ls hp ho (A4 Â n j u) (r.set rv j) (by rw[List.length_set];exact hz) s.toks
 by_cases h0:0<=k
 ·have hk:k.toNat=j:=by
   rw[XM h0 h4]at h1;exact R6 h1
  exact W.ki_setAt ho h0 () (by rw[Pp,<-hl];exact h4) (by rw[hk];exact{_,I',q})
 have hk:(k+(Â.toArray.size:Int)).toNat=j:=by
  rw[Xi () h3]at h1;rw[Pp,<-hl];exact R6 h1
 exact W.ki_setBack ho () (by rw[Pp,<-hl];exact h3) () (by rw[hk];exact{_,I',q})
theorem yd(lo hi:Option Int)(n:Nat):(Uu lo hi YI n).1=((HT.Ù n 0 lo:Nat):Int)/\(Uu lo hi YI n).2.1=((HT.Ù n n hi:Nat):Int)/\(Uu lo hi YI n).2.2=1:=by
 refine{?_,?_,rfl}
 ·cases lo with
  |none=>simp[Uu,HT.Ù]
  |some i=>
   simp only[Uu,HT.Ù,Xw,show(1:Int)>0 by decide,if_true];by_cases h:i<0
   ·simp only[h,if_true]<;>lia
   simp only[h,if_false]<;>lia
 cases hi with
 |none=>simp[Uu,HT.Ù]
 |some i=>
  simp only[Uu,HT.Ù,Xw,show(1:Int)>0 by decide,if_true];by_cases h:i<0
  ·simp only[h,if_true]<;>lia
  simp only[h,if_false]<;>lia
theorem uY(Â:List RI)(lo hi:Option Int):slicePick Â.toArray lo hi YI=((Â.drop (HT.Ù Â.length 0 lo)).take (HT.Ù Â.length Â.length hi-HT.Ù Â.length 0 lo)).toArray:=by
 obtain⟨h1,h2,h3⟩:=yd lo hi Â.toArray.size;unfold slicePick;rw[h1,h2,h3];simp only[sliceRange_one,pick_run,Pp]<;>rfl
def KA(K:RS):V->Option Int->Option Int->Hp->VK->Prop:=λx lo hi H Q=>∃a xs,x=.ref a/\À K H a xs/\∀p,H p=YI->Q (.ref p) (upd H p (.lst (rB xs lo hi)))
theorem Ir:SlR X (KA X.K):=by
 intro pins s B H x v vl vu lo hi sl Q I rx hs pl pu h;obtain⟨a,xs,rfl,hx,q⟩:=h;cases rx;obtain⟨Â,r,ht,hz⟩:=I.list hx;have hlen:=r.length;refine{"list",_,slot_list_getitem.lookup,ht.isList.typeIs,?_};refine wpAny_getItem_list_slice ht.isList hs pl pu .none (by simp) ?_ (by rw[Pp]<;>lia);rw[uY,<-hlen];refine{.ref s.heap.objs.size,_,I.laid (t':=s.toks) (o:=.lst (rB xs lo hi)) (λb ob q=>RL _ q) (O4 _) ?_,rfl,q _ (I.Æ.fresh (O4 _))};exact{Pf (qV xs lo hi) hz,_,0,(r.drop (HT.Ù xs.length 0 lo)).take (HT.Ù xs.length xs.length hi-HT.Ù xs.length 0 lo),RZ _ rfl}
noncomputable def lN:V->Bool
 | .Ë=>true
 | .bl _=>true
 | .int _=>true
 | .str _=>true
 |_=>false
noncomputable def eqV:V->V->Bool
 | .Ë,.Ë=>true
 | .bl a,.bl b=>a==b
 | .bl a,.int b=>(if a then 1 else 0)==b
 | .int a,.bl b=>a==(if b then 1 else 0)
 | .int a,.int b=>a==b
 | .str a,.str b=>a==b
 |_,_=>false
theorem KN(ry:YM y u)(rx:YM x v)(fy:lN y=true)(fx:lN x=true):VN A s u v (eqV y x):=by
 cases y with
 |Ë=>
  cases ry;cases x with
  |Ë=>cases rx;exact SeqAt.EqAt.same _
  |bl b=>cases rx;exact SeqAt.EqAt.none_bool b
  |int b=>obtain⟨t,rfl⟩:=rx;exact SeqAt.EqAt.none_int b t
  |str b=>obtain⟨t,rfl⟩:=rx;exact SeqAt.EqAt.none_str b t
  |_=>exact absurd (show false=true from fx) Pa
 |bl a=>
  cases ry;cases x with
  |Ë=>cases rx;exact SeqAt.EqAt.bool_none a
  |bl b=>cases rx;exact SeqAt.EqAt.bool_bool a b
  |int b=>obtain⟨t,rfl⟩:=rx;exact SeqAt.EqAt.bool_int a b t
  |str b=>obtain⟨t,rfl⟩:=rx;exact SeqAt.EqAt.bool_str a b t
  |_=>exact absurd (show false=true from fx) Pa
 |int a=>
  obtain⟨t',rfl⟩:=ry;cases x with
  |Ë=>cases rx;exact SeqAt.EqAt.int_none a t'
  |bl b=>cases rx;exact SeqAt.EqAt.int_bool a t' b
  |int b=>obtain⟨t,rfl⟩:=rx;exact WV a t' b t
  |str b=>obtain⟨t,rfl⟩:=rx;exact WI a t' b t
  |_=>exact absurd (show false=true from fx) Pa
 |str a=>
  obtain⟨t',rfl⟩:=ry;cases x with
  |Ë=>cases rx;exact SeqAt.EqAt.str_none a t'
  |bl b=>cases rx;exact SeqAt.EqAt.str_bool a t' b
  |int b=>obtain⟨t,rfl⟩:=rx;exact WJ a t' b t
  |str b=>obtain⟨t,rfl⟩:=rx;exact WW a t' b t
  |_=>exact absurd (show false=true from fx) Pa
 |_=>exact absurd (show false=true from fy) Pa
noncomputable def œ(x:V)(u:RI):Bool:=match u with
 | .none=>eqV .Ë x
 | .bool b=>eqV (.bl b) x
 | .int i _=>eqV (.int i) x
 | .str z _=>eqV (.str z) x
 |_=>false
theorem GW(r:YM y u)(f:lN y=true):œ x u=eqV y x:=by
 cases y with
 |Ë=>cases r;rfl
 |bl b=>cases r;rfl
 |int i=>obtain⟨t,rfl⟩:=r;rfl
 |str z=>obtain⟨t,rfl⟩:=r;rfl
 |_=>exact absurd (show false=true from f) Pa
theorem rR:∀{xs:List V}{us:List RI},YK xs us->xs.all lN=true->us.any (œ x)=xs.any λy=>eqV y x:=by
 intro xs us h;induction h with
 |nil=>intro _;rfl
 |cons r _ ih=>
  intro f;rw[List.all_cons,QB]at f;rw[Rc,Rc,GW r f.1,ih f.2]
theorem pI(rx:YM x v)(fx:lN x=true):∀{xs:List V}{us:List RI},YK xs us->xs.all lN=true->∀u∈us,VN A s u v (œ x u):=by
 intro xs us h;induction h with
 |nil=>intro _ u hu;cases hu
 |cons r _ ih=>
  intro f u' hu;rw[List.all_cons,QB]at f;rcases O2.mp hu with rfl|hu
  ·rw[GW r f.1];exact KN r rx f.1 fx
  exact ih f.2 u' hu
noncomputable def č(x:V)(xs:List V):Bool:=xs.any λy=>eqV y x
noncomputable def rIn(K:RS)(neg:Bool):R2:=λx y H Q=>∃p xs,y=.ref p/\(À K H p xs\/È K H p xs)/\lN x=true/\xs.all lN=true/\Q (.bl (if neg then !č x xs else č x xs)) H
theorem DU:Ó X (Sf .In) (rIn X.K false):=by
 intro pins s B H x y v u Q I rx ry h;obtain⟨p,xs,rfl,hq,fx,fs,q⟩:=h;cases ry;rcases hq with hq|hq
 ·obtain⟨Â,r,pl,hz⟩:=I.list hq;refine SeqAt.in_listAt (œ x) pl.isList (λw hw=>pI rx fx r fs w (by simpa using hw)) {.bl _,H,I,rfl,?_};rw[show Â.toArray.any (œ x)=Â.any (œ x) by simp,rR r fs];exact q
 obtain⟨Â,r,pl,hz⟩:=I.tuple hq;refine SeqAt.in_tupleAt (œ x) pl (λw hw=>pI rx fx r fs w (by simpa using hw)) {.bl _,H,I,rfl,?_};rw[show Â.toArray.any (œ x)=Â.any (œ x) by simp,rR r fs];exact q
theorem wG:Ó X (Sf .NotIn) (rIn X.K true):=by
 intro pins s B H x y v u Q I rx ry h;obtain⟨p,xs,rfl,hq,fx,fs,q⟩:=h;cases ry;rcases hq with hq|hq
 ·obtain⟨Â,r,pl,hz⟩:=I.list hq;refine SeqAt.notIn_listAt (œ x) pl.isList (λw hw=>pI rx fx r fs w (by simpa using hw)) {.bl _,H,I,rfl,?_};rw[show Â.toArray.any (œ x)=Â.any (œ x) by simp,rR r fs];exact q
 obtain⟨Â,r,pl,hz⟩:=I.tuple hq;refine SeqAt.notIn_tupleAt (œ x) pl (λw hw=>pI rx fx r fs w (by simpa using hw)) {.bl _,H,I,rfl,?_};rw[show Â.toArray.any (œ x)=Â.any (œ x) by simp,rR r fs];exact q
theorem xO:Ó X (Sf .NotIn) (λx y H Q=>∃i j,x=.str i/\y=.str j/\Q (.bl (!(!(SQ j i 0 j.length 1).isEmpty))) H):=by
 intro pins s B H x y v u Q I rx ry h;obtain⟨i,j,rfl,rfl,q⟩:=h;obtain⟨t,rfl⟩:=rx;obtain⟨t',rfl⟩:=ry;exact notIn_str {.bl _,H,I,rfl,q}
theorem dU.or(h:dU X f r)(h':dU X f r'):dU X f (λxs H Q=>r xs H Q\/r' xs H Q):=by
 intro pins s B H xs us Q I rs q;rcases q with q|q
 ·exact h pins s B H xs us Q I rs q
 exact h' pins s B H xs us Q I rs q
theorem xy:dU X (.type "list") (λxs H Q=>∃p ys,xs=[.ref p]/\(À X.K H p ys\/È X.K H p ys)/\∀l,H l=YI->Q (.ref l) (upd H l (.lst ys))):=by
 intro pins s B H xs us Q I r h;obtain⟨p,ys,rfl,hq,q⟩:=h;obtain⟨u,rfl,rx⟩:=YW r;cases rx;have fin:∀(Â:List RI),YK ys Â->ys.length<=sizeLine->∀(h':So)(c':Nat),(∀b o',s.heap.get? b=YH o'->h'.get? b=YH o')->
   h'.get? s.heap.objs.size=YH { cls:=.type "list",dict:=YI,data:=.seq Â.toArray c',slots:=#[] }->EP X pins B Q (.ref s.heap.objs.size) { s with heap:=h' }:=λÂ r' hz h' c' kp e=>
  {.ref s.heap.objs.size,_,I.laid (t':=s.toks) kp (O4 _) (show cL X.prog X.w _ h' _ (.lst ys)from⟨hz,Â,c',r',e⟩),rfl,q _ (I.Æ.fresh (O4 _))}
 rcases hq with hq|hq
 ·obtain⟨Â,r',pl,hz⟩:=I.list hq;have hlen:=r'.length;obtain⟨o,ho,hc,n,hd⟩:=pl.isList;exact call_list_seq p (.inl rfl) ho hc hd (λh' c' kp e=>fin Â r' hz h' c' kp e) (by simp only[Pp]<;>lia)
 obtain⟨Â,r',pl,hz⟩:=I.tuple hq;have hlen:=r'.length;obtain⟨o,ho,hc,n,hd⟩:=pl;exact call_list_seq p (.inr rfl) ho hc hd (λh' c' kp e=>fin Â r' hz h' c' kp e) (by simp only[Pp]<;>lia)
def tyV(K:RS)(T:String)(x:V)(H:Hp):Prop:=match x with
 | .str _=>T="str"
 | .int _=>T="int"
 | .ref p=>(T="list"/\∃xs,À K H p xs)\/(T="tuple"/\∃o,K.lookup p=YH o/\o.cls=.type "tuple"/\o.dict=YI)\/
   (T="dict"/\((∃kvs,H p=YH (.dK kvs))\/∃kvs,H p=YH (.dT kvs)))\/(T="set"/\∃S n,H p=YH (.set S n))
 |_=>False
theorem Eo(I:Inv X pins B H s)(r:YM x v)(ty:tyV X.K T x H) :
  s.TypeIs v T/\∀a,v=.ref a->∃ob,s.heap.get? a=YH ob/\ob.dict=YI:=by
 cases x with
 |str z=>
  obtain⟨t,rfl⟩:=r
  cases (show T="str" from ty)
  exact{WU s z t,λ_ e=>nomatch e}
 |int i=>
  obtain⟨t,rfl⟩:=r
  cases (show T="int" from ty)
  exact{X7 s i t,λ_ e=>nomatch e}
 |ref p=>
  cases r
  rcases ty with⟨rfl,xs,hq⟩|⟨rfl,o,hk,hc,hd⟩|⟨rfl,hk⟩|⟨rfl,S,n,hk⟩
  ·obtain⟨Â,_,pl,_⟩:=I.list hq;refine{pl.isList.typeIs,λa e=>?_};cases e;obtain⟨o,n,e,c,hd,_⟩:=pl;exact⟨o,e,hd⟩
  ·refine{⟨o,I.ý p o hk,hc⟩,λa e=>?_};cases e;exact{o,I.ý _ o hk,hd}
  ·have z:∃o,s.heap.get? p=YH o/\o.ExactDict:=by
    rcases hk with⟨kvs,hk⟩|⟨kvs,hk⟩
    ·obtain⟨_,_,_,_,o,_,_,e,ex,_⟩:=I.Æ p _ hk;exact⟨o,e,ex⟩
    obtain⟨_,_,_,_,o,_,_,e,ex,_⟩:=I.Æ p _ hk;exact⟨o,e,ex⟩
   obtain⟨o,e,ex⟩:=z;refine{⟨o,e,ex.1⟩,λa e2=>?_};cases e2;exact⟨o,e,ex.2.1⟩
  obtain⟨o,_,_,_,e,ex,_⟩:=I.Æ p _ hk
  refine{⟨o,e,ex.1⟩,λa e2=>?_}
  cases e2
  exact⟨o,e,ex.2.1⟩
 |_=>exact SO ty
noncomputable def JU(K:RS)(T:String)(r:V->List V->Hp->VK->Prop)(to:TE):TE:=λB H Q=>to B H λx H1=>tyV K T x H1/\r x [] H1 Q
noncomputable def tBM(K:RS)(T:String)(r:V->List V->Hp->VK->Prop)(to:TE)(t:TA):TE:=λB H Q=>to B H λx H1=>tyV K T x H1/\t B H1 λxs H2=>r x xs H2 Q
variable{o e:Expr}{es:List Expr}{to:TE}{t:TA}{name:Str}{apos Ï:Pos}{T id:String}{r:V->List V->Hp->VK->Prop}
theorem GN(pa:PlainAttrs T)(slot:Slot T name id)(hty:typeOf (.builtin id)=pure (.type "method_descriptor"))(hm:MtR X id r)(ho:PE X o to)
  (ã:SV o name X.env (SD o X.env)=SD o X.env:=by rfl) (â:(apos.endLine==Ï.line)=true:=by rfl):PE X (.Call (.Attribute o name apos) [] [] Ï) (JU X.K T r to):=by
 intro pins s B H Q I h
 refine wpAny_Call_method0_late ã â (Ì (ho pins s B H _ I h) λv s1 z9=>?_);obtain⟨x,H1,I1,r1,ty,q1⟩:=z9
 obtain⟨h1,h2⟩:=Eo I1 r1 ty
 exact{T,id,pa,slot,hty,h1,h2,VO rfl (PySem.evalArgs_none (hm pins s1 B H1 x [] v [] Q I1 r1 .nil q1))}
theorem Gw(pa:PlainAttrs T)(slot:Slot T name id)(hty:typeOf (.builtin id)=pure (.type "method_descriptor"))(hm:MtR X id r)(ho:PE X o to)(ha:PA X (e::es) t)
  (ã:SV o name X.env (SD o X.env)=SD o X.env:=by rfl)
  (Œ:((SJ Ï (RV (e::es) X.env)).all (λx=>!x.1)&&(TM Ï (SR [] X.env)).all (λx=>x.1.isSome)
   &&decide ((e::es).length+([]:List Ue).length+(if([]:List Ue).isEmpty then 0 else 1)<30))=true:=by rfl)
  (â:(apos.endLine==Ï.line)=true:=by rfl) (hs:RV (e::es) X.env=(false,SD e X.env)::RV es X.env:=by rfl) (ö:(SJ Ï (RV es X.env)).any (·.1)=false:=by rfl) :
  PE X (.Call (.Attribute o name apos) (e::es) [] Ï) (tBM X.K T r to t):=by
 intro pins s B H Q I h
 refine wpAny_Call_method_late ã Œ â rfl (Ì (ho pins s B H _ I h) λv s1 z9=>?_);obtain⟨x,H1,I1,r1,ty,q1⟩:=z9
 obtain⟨h1,h2⟩:=Eo I1 r1 ty
 refine{T,id,pa,slot,hty,h1,h2,?_}
 have hA:=ha Ï pins s1 B H1 _ I1 q1
 rw[hs]at hA⊢
 refine VO (by show(false||(SJ Ï (RV es X.env)).any (·.1))=false;rw[ö]<;>rfl) (Calls.evalArgs_plain ?_)
 exact Ì hA λus s2 ⟨vs,H2,I2,r2,q2⟩=>hm pins s2 B H2 x vs v us Q I2 r1 r2 q2
end
def MtM(X:Cx)(id:String)(r:V->List V->Hp->VK->Prop):Prop:=
 ∀(pins:List (RJ×Obj))(s:RN)(B:St)(H:Hp)(x:V)(xs:List V)(v:RI)(us:List RI)(Q:VK),Inv X pins B H s->YM x v->YK xs us->r x xs H Q->
  wpAny (RY X.prog X.w) X.A (call (.builtin id) (v::us)) (EP X pins B Q) X.xe s
theorem YK.one(h:YK [x] us):∃u,us=[u]/\YM x u:=by
 cases h with
 |cons r t=>cases t;exact{_,rfl,r}
theorem YK.zero:∀{us:List RI},YK [] us->us=[]
 |_,.nil=>rfl
theorem YK.dropLast(h:YK xs us):YK xs.dropLast us.dropLast:=by
 induction h with
 |nil=>exact .nil
 |cons r t ih=>
  cases t with
  |nil=>exact .nil
  |cons q t'=>exact .cons r ih
theorem YK.rep(h:YK xs us):∀k:Nat,YK (Se k xs).flatten (Se k us).flatten
 |0=>.nil
 |k+1=>by
  rw[QA,QA,Q9,Q9];exact YK.append h (YK.rep h k)
theorem AD{α:Type}(l:List α):l.eraseIdx (l.length-1)=l.dropLast:=by
 induction l with
 |nil=>rfl
 |cons a r ih=>
  cases r with
  |nil=>rfl
  |cons b r=>
   have e:(a::b::r).length-1=((b::r).length-1)+1:=by
    have h1:(a::b::r).length=r.length+2:=rfl;have h2:(b::r).length=r.length+1:=rfl;lia
   rw[e,List.eraseIdx_cons_succ,ih];all_goals rfl
theorem YX(Â:List RI):∀(k:Nat)(acc:List RI),
  X8 (λx1 x2=>x1++x2) acc.toArray (Se k Â.toArray)=(acc++(Se k Â).flatten).toArray
 |0,acc=>by simp
 |k+1,acc=>by
  have e:acc.toArray++Â.toArray=(acc++Â).toArray:=by simp
  have e2:(acc++Â)++(Se k Â).flatten=acc++(Se (k+1) Â).flatten:=by
   rw[QA,Q9,Pn]
  rw[<-e2,<-YX Â k (acc++Â),<-e,QA,P9]
section
variable{X:Cx}{pins:List (RJ×Obj)}{B:St}{H:Hp}{s:RN}{l b:RJ}{xs ys zs:List V}
theorem Inv.KI{Â its':List RI}{n:Nat}{f:Array RI->Array RI}{t':Nat}(I:Inv X pins B H s)(hH:H l=YH (.lst xs))
  (e:s.heap.get? l=YH { cls:=.type "list",data:=.seq Â.toArray n }) (hf:f Â.toArray=its'.toArray) (hv:YK ys its') (hz:ys.length<=sizeLine) :
  Inv X pins B (upd H l (.lst ys)) { s with heap:=s.heap.update l (To f),toks:=t' }:=by
 have q:=PySem.IsL.update e f
 rw[hf]at q
 refine I.write (x:=l) (e:=l) (by rw[hH];exact trivial) (.inl rfl) (λb' u hb hu=>(SI s.heap (To f) (Pr hb)).trans hu) {_,q} ?_
 exact{hz,its',_,hv,q}
theorem Inv.Ld(I:Inv X pins B H s)(hv:YK ys Â)(hz:ys.length<=sizeLine) :
  Inv X pins B (upd H s.heap.objs.size (.lst ys)) { s with heap:=s.heap.push { cls:=.type "list",data:=.seq Â.toArray },toks:=t' }:=
 I.laid (λ_ _ q=>RL _ q) (O4 _) {hz,Â,0,hv,RZ _ rfl}
theorem Inv.fresh(I:Inv X pins B H s):H s.heap.objs.size=YI:=I.Æ.fresh (O4 _)
theorem Inv.Ax(I:Inv X pins B H s)(hH:H l=YH (.lst xs)):xs.length<=sizeLine/\∃(Â:List RI)(n:Nat),YK xs Â/\xs.length=Â.length/\s.heap.get? l=YH { cls:=.type "list",data:=.seq Â.toArray n }:=by
 obtain⟨z,Â,n,r,e⟩:=I.Æ l _ hH;exact⟨z,Â,n,r,r.length,e⟩
theorem yi(h:n<=sizeLine):TK n=false:=by
 unfold TK;exact decide_eq_false ()
end
section
variable{X:Cx}
inductive xn(x:V)(vs:List V)(H:Hp)(Q:VK):Prop
 |mk(l:RJ)(xs:List V)(y:V)(h0:x=.ref l)(h1:vs=[y])(h2:H l=YH (.lst xs))(h3:xs.length<sizeLine)(q:Q .Ë (upd H l (.lst (xs++[y])))):xn x vs H Q
theorem wA:MtM X "list.append" xn:=by
 intro pins s B H x vs v us Q I rx rv h;obtain⟨l,xs,y,rfl,rfl,hH,hz,q⟩:=h;cases rx;obtain⟨u,rfl,ru⟩:=rv.one;obtain⟨z,Â,n,r,hl,e⟩:=I.Ax hH;refine UL F.slot_list_append {_,e,rfl} F.entry_list_append (F.args_list_append_2 _ _) (PySem.list_append l Â.toArray n u (by rw[Pp];lia)) {e,?_};refine{.Ë,_,I.KI (its':=Â++[u]) hH e (by simp) (r.append (.cons ru .nil)) ?_,rfl,q};rw[OX,O3];lia
def Cq:V->List V->Hp->VK->Prop:=λx vs H Q=>∃l b xs zs,x=.ref l/\vs=[.ref b]/\H l=YH (.lst xs)/\H b=YH (.lst zs)/\xs.length+zs.length<=sizeLine/\Q .Ë (upd H l (.lst (xs++zs)))
theorem DJ:MtM X "list.extend" Cq:=by
 intro pins s B H x vs v us Q I rx rv h;obtain⟨l,b,xs,zs,rfl,rfl,hH,hB,hz,q⟩:=h;cases rx;obtain⟨u,rfl,ru⟩:=rv.one;cases ru;obtain⟨z,Â,n,r,hl,e⟩:=I.Ax hH;obtain⟨z2,ļ,n2,r2,hl2,e2⟩:=I.Ax hB;have hsz:Â.toArray.size+ļ.toArray.size<=sizeLine:=by rw[Pp,Pp];lia
 have hlong:¬ (!Â.toArray.isEmpty&&TK (Â.toArray.size+ļ.toArray.size))=true:=by
  rw[yi hsz,Bool.and_false];exact Pa
 refine UL F.slot_list_extend {_,e,rfl} F.entry_list_extend (F.args_list_extend_2 _ _)
  (AutoSeq1.list_extend_list_list_0 l Â.toArray n b ļ.toArray n2 hlong (by rw[Pp];lia) ()) {e,e2,?_}
 refine{.Ë,_,I.KI (its':=Â++ļ) hH e (by simp) (r.append r2) ?_,rfl,q};rw[OX];lia
inductive Ik(x:V)(vs:List V)(H:Hp)(Q:VK):Prop
 |mk(l:RJ)(xs:List V)(y:V)(h0:x=.ref l)(h1:vs=[])(h2:H l=YH (.lst xs))(h3:xs[xs.length-1]?=YH y)(q:Q y (upd H l (.lst xs.dropLast))):Ik x vs H Q
theorem Kf:MtM X "list.pop" Ik:=by
 intro pins s B H x vs v us Q I rx rv h;obtain⟨l,xs,y,rfl,rfl,hH,hy,q⟩:=h;cases rx;have hus:=rv.zero;subst hus;obtain⟨z,Â,n,r,hl,e⟩:=I.Ax hH;obtain⟨u,hu,ru⟩:=r.get hy;have hy':Â.toArray[Â.toArray.size-1]?=YH u:=by
  show Â.toArray[Â.length-1]?=YH u;rw[<-Qc,<-hl];exact hu
 refine UL F.slot_list_pop {_,e,rfl} F.entry_list_pop (F.args_list_pop_1 _) (MeetsSeq.list_pop_last l Â.toArray n u hy' (by rw[Pp];lia)) {e,?_};refine{y,_,I.KI (its':=Â.dropLast) hH e ?_ r.dropLast ?_,ru,q}
 ·show Â.toArray.eraseIdxIfInBounds (Â.toArray.size-1)=Â.dropLast.toArray;rw[Pp,List.eraseIdxIfInBounds_toArray,AD]
 rw[List.length_dropLast];lia
noncomputable def Nk:R2:=λx y H Q=>∃l b xs zs,x=.ref l/\y=.ref b/\H l=YH (.lst xs)/\H b=YH (.lst zs)/\xs.length+zs.length<=sizeLine/\∀p,H p=YI->Q (.ref p) (upd H p (.lst (xs++zs)))
theorem JX:Ó X (SX .Add) Nk:=by
 intro pins s B H x y v u Q I rx ry h;obtain⟨l,b,xs,zs,rfl,rfl,hH,hB,hz,q⟩:=h;cases rx;cases ry;obtain⟨z,Â,n,r,hl,e⟩:=I.Ax hH;obtain⟨z2,ļ,n2,r2,hl2,e2⟩:=I.Ax hB;refine PySem.P.add_list e e2 ?_ (by rw[Pp,Pp];lia);have ea:Â.toArray++ļ.toArray=(Â++ļ).toArray:=by simp
 rw[ea];exact{.ref _,_,I.Ld (t':=s.toks) (r.append r2) (by rw[OX];lia),rfl,q _ I.fresh}
noncomputable def Of:R2:=λx y H Q=>∃l k xs,x=.ref l/\y=.int k/\H l=YH (.lst xs)/\-(2^63)<=k/\k<2^63/\xs.length*k.toNat<=sizeLine/\
 ∀p,H p=YI->Q (.ref p) (upd H p (.lst (Se k.toNat xs).flatten))
theorem len_rep{α:Type}(xs:List α)(k:Nat):(Se k xs).flatten.length=k*xs.length:=by
 induction k with
 |zero=>simp
 |succ k ih=>rw[QA,Q9,OX,ih,Nat.succ_mul,Nat.add_comm]
theorem J3:Ó X (SX .Mult) Of:=by
 intro pins s B H x y v u Q I rx ry h;obtain⟨l,k,xs,rfl,rfl,hH,h1,h2,hz,q⟩:=h;cases rx;obtain⟨t,rfl⟩:=ry;obtain⟨z,Â,n,r,hl,e⟩:=I.Ax hH;have hlen:Â.toArray.size*k.toNat<=sizeLine:=by rw[Pp,<-hl];exact hz
 have hcap:¬ Â.toArray.size*k.toNat>(2^63-1)/8:=by
  have:(sizeLine:Nat)<=(2^63-1)/8:=∅
  lia
 have hfit:¬ (!Builtin.List.listFitsIndex k)=true:=by
  rw[fitsIndex_both h1 h2];exact Pa
 have hlong:¬ TK (Â.toArray.size*k.toNat)=true:=by
  rw[yi hlen];exact Pa
 have hnew:X8 (λx1 x2=>x1++x2) #[] (Se (if Â.toArray.isEmpty=true then 0 else k.toNat) Â.toArray)=(Se k.toNat Â).flatten.toArray:=by
  have f0:∀m:Nat,X8 (λx1 x2=>x1++x2) #[] (Se m Â.toArray)=(Se m Â).flatten.toArray:=λm=>by
   have:=YX Â m [];rw[Pz]at this;exact this
  rw[f0];cases Â with
  |nil=>simp
  |cons a r'=>rw[if_neg (by simp)]
 refine wpAny_binaryOp_repeat_ref (T:="list") (U:="int") ∅ {_,e,rfl} (λs'=>X7 s' k t) noFill_list_mul F.fills_int_mul XQ repeat_list F.slot_int_index.lookup
  (UL XQ (X7 s k t) F.entry_int_rmul (F.args_int_rmul_2 _ _) (int___rmul___int_list k t l Â.toArray n)
   {e,rfl,{_,e,rfl},UL F.slot_list_mul {_,e,rfl} F.entry_list_mul (F.args_list_mul_2 _ _) (AutoListH.list___mul___list_int_3 l Â.toArray n k t hfit hcap hlong) {e,?_}})
 rw[hnew];exact{.ref _,_,I.Ld (t':=s.toks) (r.rep k.toNat) (by rw[len_rep,Nat.mul_comm];exact hz),rfl,q _ I.fresh}
end
section
variable{prog:Program}{w:R5}{A:Sq}{E:RI->RN->Prop}{s:RN}
end
section
variable{X:Cx}
end
end L2
namespace Att
open PySem PySem.W PySem.Calls PyProof.Rows
theorem rC:∀(ns:List Int)(vs:List RI),WellAll P h vs (ns.map WData.int)->Vk vs ns:=by
 intro ns;induction ns with
 |nil=>
  intro vs w;rw[RG]at w;cases w;exact .nil
 |cons n ns ih=>
  intro vs w;rw[Pm]at w;cases w with
  |cons a b=>
   cases a;exact .cons _ _ (ih _ b)
theorem Dy{l:OpenLaw}{n:Nat}(hn:l.most=YH n){P:T6}{h:So}{args:List WData}{vals:List RI}
  (hpre:l.row.toRowW.claim.pre args=true) (hwl:WellAll P h vals args) :
  ∃a vs ns,vals=[Sd a]/\args=[WData.list (ns.map WData.int)]/\h.get? a=YH { cls:=.type "list",data:=.seq vs.toArray }/\Vk vs ns/\ns.length<=n:=by
 have hsh:WShape.hasAll [] args [.list .int]=true:=(pre_splitW hpre).1
 have hc:l.pre.holds [] { args:=args }=true:=(pre_splitW hpre).2
 obtain⟨d,r,rfl,h1,h2⟩:=hasAllW_cons hsh
 obtain rfl:=hasAllW_nil h2
 obtain⟨xs,rfl,h3⟩:=hasW_list h1
 obtain⟨ns,rfl⟩:=items_int h3
 have hlen:ns.length<=n:=by
  unfold OpenLaw.pre at hc;have h4:(WTm.not (.lt (.lit (.int (n:Int))) (.len (.arg 0)))).holds [] { args:=[.list (ns.map .int)] }=true:=by
   have h4:=(holds_andW hc).1;rw[hn]at h4;exact h4
  have h5:=condW_of h4 (w_not (w_lt w_lit (w_len_list (w_arg rfl))));rw[OZ]at h5;refine Nat.le_of_not_lt λq=>?_;have q':(n:Int)<((ns.length:Nat):Int):=()
  first
   | (rw[decide_eq_true q']at h5;exact absurd h5 ∅)
   | (simp at h5;lia)
 cases hwl with
 |cons w1 w2=>
  cases w2
  cases w1 with
  |list ho hall=>exact{_,_,ns,rfl,rfl,ho,rC ns _ hall,hlen}
theorem DB(l:OpenLaw)(args:List WData):l.row.toRowW.claim.post args (.bool true) args=true:=
 postW_of (r:=l.row.toRowW) (X:=(true==true))
  (show WShape.has [] (.bool true) .bool=true by first|rfl|decide|simp[WShape.has,WShape.arms,WShape.armsAll])
  (show(WTm.eq .res (.lit (.bool true))).value [] { args:=args,res:=YH (.bool true),after:=args }=YH (.bool (true==true))from w_eq_bool (w_res rfl) w_lit) rfl
theorem zP{l:OpenLaw}{n:Nat}{q:Program}{loose:List Str}{XP:(Str->Option RI)->So->Prop}{YP:R5->So->Prop}{d:DefRec}
  (hn:l.most=YH n) (hdf:d.params.defaults=[])
  (call:∀(w:R5)(s₀ s₁:RN)(mg mb:Str->Option RI)(fa:RJ)(o:Obj)(pm cd doc:RI)(a:RJ)(vs:List RI)(ns:List Int),
   Ground q loose [] XP w s₀ mg mb s₁.heap->YP w s₁.heap->
   s₁.heap.get? fa=YH o->o.data=.func (docDef d.name d.params d.body d.scope pm cd doc)->s₁.heap.CodeRec cd d.name->mg d.name=YH (.ref fa)->
   s₁.heap.get? a=YH { cls:=.type "list",data:=.seq vs.toArray }->Vk vs ns->ns.length<=n->s₁.gens=#[]->
   codeAny (RY l.prog w) Wn (.call (.ref fa) {[.ref a],[]}) (λr s'=>r=.ok (.ret (.bool true))/\OldK s₁.heap s'.heap/\s'.os=s₁.os/\Vh s'.gens) s₁) :
  WalkO q loose XP YP l.row.toRowW d [] (λf vs=>X9 f vs):=by
 intro w s₀ s₁ mg mb G Y fa o pm cd doc dV kV ho hd ņ hD hmg hg args vals as hpre hlay hrd hwl hlo
 obtain rfl:dV=.none:=Dflts.none hD hdf
 obtain rfl:kV=.none:=Dflts.noKw hD
 obtain⟨a,vs,ns,rfl,rfl,hobj,hints,hlen⟩:=Dy hn hpre hwl
 refine enter_call (Ud (call w s₀ s₁ mg mb fa o pm cd doc a vs ns G Y ho (fd_plain hd) ņ hmg hobj hints hlen hg) λr s' hq=>?_)
 obtain⟨rfl,h2,h3,h4⟩:=hq
 exact{.inl {.bool true,.bool true,[],rfl,λ_=>rfl,.bool true,DB l _,λ_=>{Xj,λ_ hm=>(nomatch hm)}},h2,h3,h4}
section
variable{prog:Program}{w:R5}{A:Sq}{E:RI->RN->Prop}{s:RN}{K:Frag}
end
end Att
namespace L2
open PySem PySem.Spec PyProof.Rows
theorem wu:∀{vs:List RI}{ns:List Int},Vk vs ns->YK (ns.map V.int) vs:=by
 intro vs ns h;induction h with
 |nil=>exact .nil
 |cons n t _ ih=>exact .cons ⟨t,rfl⟩ ih
def Kq(H:Hp):Prop:=∀b,H b=YI\/∃o xs,H b=YH (.ë o (.lst xs))
theorem E1{P:Program}{w:R5}{K:RS}{mg mb:Str->Option RI}{CX:ź}{k:Nat}{fa a:RJ}{fd:TC}{x:Str}{sp:Sp}{s₁:RN}{vs:List RI}{ns:List Int}
  (KX:K.In s₁.heap) (hns:s₁.heap.Ns R9 mg) (hb:s₁.heap.Ns VD mb) (hbb:∀x:Str,x≠"__name__"->mb x=TB x) (hlim:s₁.heap.NoLimit) (hg:s₁.gens=#[])
  (ha:s₁.heap.get? a=YH { cls:=.type "list",data:=.seq vs.toArray }) (hi:Vk vs ns) (hl:ns.length<=sizeLine) (hr:dO k Wn)
  (F:∀base:So,K.In base->base.Ns R9 mg->j2 P w K mg base CX k fa fd [x] sp) (hbind:∀(s:RN)(u:RI),VL s fd {[u],[]} [(x,u)])
  (Ű:∀H:Hp,Kq H->À K H a (ns.map V.int)->sp [.ref a] H (λv _=>v=.bl true) λ_ _ _=>False)
  (hCX:∀H e s',CX [] H s₁ (λ_ _ _=>False) e s'->False) :
  codeAny (RY P w) Wn (.call (.ref fa) {[.ref a],[]}) (λr s'=>r=.ok (.ret (.bool true))/\OldK s₁.heap s'.heap/\s'.os=s₁.os/\Vh s'.gens) s₁:=by
 have rv:=wu hi
 have lenV:=hi.length
 have core:∀H:Hp,Kq H->À K H a (ns.map V.int)->ü P w H s₁.heap->(∀b,H b≠YI->b=a)->(H a≠YI->K.lookup a=YI)->
   codeAny (RY P w) Wn (.call (.ref fa) {[.ref a],[]}) (λr s'=>r=.ok (.ret (.bool true))/\OldK s₁.heap s'.heap/\s'.os=s₁.os/\Vh s'.gens) s₁:=by
  intro H hO hS Æ hA hK
  have base_of:∀{b:RJ}{o:Obj},s₁.heap.get? b=YH o->H b=YI->(wQ s₁.heap H).get? b=YH o:=λe n=>F2 e n
  have noA:∀{b:RJ}{o:Obj}{es:Array Yv}{ep:Nat},s₁.heap.get? b=YH o->o.data=.dict es ep->H b=YI:=λ{b o es ep} e d=>by
   cases q:H b with
   |none=>rfl
   |some u=>
    have e':b=a:=hA b (by rw[q];simp);subst e';rw[ha]at e;cases e;have d':Data.seq vs.toArray _=Data.dict es ep:=d;cases d'
  have nsK:∀{b:RJ}{m:Str->Option RI},s₁.heap.Ns b m->(wQ s₁.heap H).Ns b m:=λ{b m} ⟨o,es,ep,e,d,r⟩=>{o,es,ep,base_of e (noA e d),d,r}
  have hKb:K.In (wQ s₁.heap H):=λb o e=>base_of (KX b o e) (by
   cases q:H b with
   |none=>rfl
   |some u=>
    have e':b=a:=hA b (by rw[q];simp);subst e';rw[hK (by rw[q];simp)]at e;cases e)
  have hM:Mod K mg (wQ s₁.heap H):={hKb,nsK hns,⟨mb,nsK hb,hbb⟩,let ⟨mc,h1,h2⟩:=hlim;⟨mc,nsK h1,h2⟩}
  have e0:Al P w K mg (wQ s₁.heap H) Wn [] s₁ H:={rfl,hM,λb o e=>HJ e,QU (Dk _ _),trivial,λb hb=>absurd (show b∈([]:List RJ)from hb) (by simp),Æ,.of_eq hg}
  refine Ud ((F _ hKb (nsK hns)).run Wn [] s₁ H {[.ref a],[]} [.ref a] [.ref a] _ _ hr e0 (hbind s₁ (.ref a)) (.cons rfl .nil) (Ű H hO hS)) λr s' h=>?_
  cases r with
  |error e=>exact(hCX H e s' h).elim
  |ok fl=>
   cases fl with
   |next=>exact SO h
   |brk=>exact SO h
   |cont=>exact SO h
   |ret u=>
    obtain⟨v,H',os,bare,un,hok',r',q⟩:=h
    have q':v=.bl true:=q
    subst q'
    obtain rfl:u=WK true:=r'
    refine{rfl,OldK.of_keep λb o e=>?_,os,bare}
    cases q:H b with
    |none=>exact un.keep b o e q (by intro z;exact absurd (show b∈([]:List RJ)from z) (by simp)) (by simp)
    |some u=>
     rcases hO b with z|⟨ob,xs,z⟩
     ·rw[q]at z;cases z
     have z2:=un.rH b ob _ z
     obtain⟨e1,_⟩:=Æ b _ z
     obtain⟨e2,_⟩:=hok' b _ z2
     rw[e]at e1;cases e1
     exact e2
 cases hk:K.lookup a with
 |some o=>
  have e:=KX a o hk
  rw[ha]at e
  cases e
  refine core (λ_=>YI) (λ_=>.inl rfl) (.inr {_,vs.toArray,_,hk,rfl,rfl,rfl,by rw[Pp,lenV];exact hl,by simpa using rv}) (λb u z=>by have z':(YI:Option HO)=YH u:=z;cases z') (λb z=>absurd rfl z) λz=>absurd rfl z
 |none=>
  refine core (λb=>if b=a then YH (.ë { cls:=.type "list",data:=.seq vs.toArray } (.lst (ns.map V.int)))else YI) (λb=>?_) (.inl (.inr {{ cls:=.type "list",data:=.seq vs.toArray },if_pos rfl})) (λb u z=>?_) (λb z=>?_) λ_=>hk
  ·by_cases hb:b=a
   ·exact .inr {_,_,if_pos hb}
   exact .inl (if_neg hb)
  ·by_cases hb:b=a
   ·have z':=(if_pos hb).symm.trans z;cases z';subst hb;exact{ha,by rw[OZ];exact hl,vs,_,rv,ha}
   have z':=(if_neg hb).symm.trans z;cases z'
  by_cases hb:b=a
  ·exact hb
  exact absurd (if_neg hb) z
theorem IQ{l:Xp}{n k:Nat}{q:Program}{loose:List Str}{XP:(Str->Option RI)->So->Prop}{YP:R5->So->Prop}{d:DefRec}{K:T6->RS}{CX:R5->ź}{sp:R5->Sp}{x:Str}
  (hn:l.most=YH n) (hn2:n<=sizeLine) (hdf:d.params.defaults=[]) (hr:dO k Wn)
  (hY:∀(w:R5)(h:So),YP w h->(K w.params).In h)
  (F:∀(w:R5)(mg:Str->Option RI)(fa:RJ)(h:So),(K w.params).In h->h.Ns R9 mg->mg d.name=YH (.ref fa)->
   ∃fd:TC,(∀(s:RN)(u:RI),VL s fd {[u],[]} [(x,u)])/\
    ∀base:So,(K w.params).In base->base.Ns R9 mg->j2 l.prog w (K w.params) mg base (CX w) k fa fd [x] (sp w))
  (Ű:∀(w:R5)(H:Hp)(a:RJ)(ns:List Int),ns.length<=n->Kq H->À (K w.params) H a (ns.map V.int)->sp w [.ref a] H (λv _=>v=.bl true) λ_ _ _=>False)
  (hCX:∀(w:R5)(H:Hp)(s:RN)(e:RI)(s':RN),CX w [] H s (λ_ _ _=>False) e s'->False) :
  W.WalkO q loose XP YP l.row.toRowW d [] (λf vs=>X9 f vs):=by
 refine Att.zP hn hdf λw s₀ s₁ mg mb fa o pm cd doc a vs ns G Y ho hd ņ hmg hobj hints hlen hg=>?_
 have KX:=hY w _ Y
 obtain⟨fd,hb,hF⟩:=F w mg fa _ KX G.T.g hmg
 exact E1 KX G.T.g G.T.b G.T.builtins G.T.nolimit hg hobj hints (Pf hlen hn2) hr hF hb (λH hO hS=>Ű w H a ns hlen hO hS) λH e s'=>hCX w H s₁ e s'
noncomputable abbrev ŗ:ź:=λ_ _ _ _ _ _=>False
noncomputable abbrev E0:XK:=λ_ _ _=>False
theorem wx:YU ŗ X E0:=λ_ _ _ _ _ _ _ h=>h.elim
structure Fun(K:RS)(x qual:Str)(st:Si)(f:RJ)(fd:TC):Prop where
 ex:∃(oc:RI)(od:Option RJ)(kV doc pm:RI)(an:Option RJ)(Ã ct:RI)(ú:Array (Option RI)),
  fd=Te x qual (bG st) (bp st) (aq st) .none kV doc pm an Ã ct/\K.lookup f=YH ⟨oc,od,.func fd,ú⟩/\UP K Ã qual=true
 kp:Tq K (.ref f)=true
section
variable{P:Program}{w:R5}{K:RS}{mg:Str->Option RI}{base:So}
theorem Fun.ok{x qual:Str}{st:Si}{f:RJ}{fd:TC}{N ps:List Str}{k:Nat}{sp:Sp}(F:Fun K x qual st f fd)(S:aE N ps (aq st))(len:∀vs H Q E,sp vs H Q E->vs.length=ps.length)
  (í:∀(Ã:RI)(A:Sq)(outer:List Env)(s:RN)(H:Hp)(vs:List V)(Q:VK)(E:XK),dO k (A.deeper (Ui qual (aq st) s.heap.objs.size f Ã))->sp vs H Q E->
   ∃t,Ĳ (uX ŗ P w K mg base N qual (aq st) f Ã A outer s H E).nox (bp st) t/\t { nx:=λ_ H'=>Q .Ë H',rt:=Q } (YT N vs) H):j2 P w K mg base ŗ (k+1) f fd ps sp:=by
 obtain⟨oc,od,kV,doc,pm,an,Ã,ct,ú,rfl,lk,ņ⟩:=F.ex
 refine GO lk ņ S len λA outer s H vs Q E hr Ű=>?_
 obtain⟨t,h,q⟩:=í Ã A outer s H vs Q E hr Ű
 exact⟨t,h.nox,q⟩
theorem Fun.binds{x qual:Str}{st:Si}{f:RJ}{fd:TC}{ps:List Str}(F:Fun K x qual st f fd)
  (h:∀(kV doc pm:RI)(an:Option RJ)(Ã ct:RI)(us:List RI),us.length=ps.length->bindArgs (Te x qual (bG st) (bp st) (aq st) .none kV doc pm an Ã ct) {us,[]}=pure (ps.zip us)):YO K fd ps []:=by
 obtain⟨oc,od,kV,doc,pm,an,Ã,ct,ú,rfl,lk,ņ⟩:=F.ex
 exact .all (h kV doc pm an Ã ct)
theorem xK{x qual:Str}{st:Si}{f:RJ}{oc:RI}{od an:Option RJ}{ú:Array (Option RI)}{kV doc pm Ã ct:RI}(l:K.lookup f=YH {oc,od,.func (Te x qual (bG st) (bp st) (aq st) .none kV doc pm an Ã ct),ú})
  (c:UP K Ã qual=true) (k:Tq K (.ref f)=true):Fun K x qual st f (Te x qual (bG st) (bp st) (aq st) .none kV doc pm an Ã ct):={⟨oc,od,kV,doc,pm,an,Ã,ct,ú,rfl,l,c⟩,k}
end
theorem aH(h:n<=1000):n<sizeLine:=Rm h ∅
section
variable{X:Cx}
end
theorem aY{A Á:Prop}(h:Á):if false=true then A else Á:=by
 rw[if_neg Pa];exact h
theorem bW{A Á:Prop}(h:A):if true=true then A else Á:=by
 rw[if_pos rfl];exact h
theorem bg{c A Á:Prop}[Decidable c](h1:c->A)(h2:¬ c->Á):if c then A else Á:=by
 by_cases h:c
 ·rw[if_pos h];exact h1 h
 rw[if_neg h];exact h2 h
def aj(H H':Hp):Prop:=∀b o,H b=YH o->H' b=YH o
theorem aj.refl(H:Hp):aj H H:=λ_ _ h=>h
theorem aj.trans(a:aj H H1)(b:aj H1 H2):aj H H2:=λc o h=>b c o (a c o h)
theorem aj.free(e:aj H H')(h:H' l=TH):H l=TH:=by
 cases q:H l with
 |none=>rfl
 |some o=>
  rw[e l o q]at h;cases h
theorem aj.seq{K:RS}{H H':Hp}{a:RJ}{xs:List V}(e:aj H H')(h:À K H a xs):À K H' a xs:=by
 rcases h with(h|⟨o,h⟩)|h
 ·exact .inl (.inl (e _ _ h))
 ·exact .inl (.inr {o,e _ _ h})
 exact .inr h
theorem qM{α β:Type}{l:List α}{f:α->β->Sem (ForInStep β)}(g:β->α->β)(c:β)(h:∀x∈l,∀c,f x c=pure (.yield (g c x))) :
  forIn l c f=pure (l.foldl g c):=by
 induction l generalizing c with
 |nil=>rfl
 |cons x l ih=>
  rw[List.forIn_cons,h x O9,pure_bind]
  exact ih _ λy hy=>h y (O8 _ hy)
noncomputable def fQ(env:Env)(cs:List (Str×RJ))(x:Str×TN):List (Str×RJ):=
 if x.2== .free then(x.1,(env.cells.lookup x.1).getD 0)::cs else cs
noncomputable def ub(env:Env)(names:List (Str×TN)):List (Str×RJ):=names.foldl (fQ env) []
theorem q0(h:∀x∈scope.names,x.2=.free->∃c,env.cells.lookup x.1=YH c):closureFor scope env=pure (ub env scope.names):=by
 simp only[closureFor];rw[qM (fQ env) [] (λx hx c=>by
  obtain⟨n,kind⟩:=x;cases hk:kind==SW with
  |false=>simp only[fQ,hk,P7,if_false]
  |true=>
   obtain⟨a,ha⟩:=h (n,kind) hx (by simpa using hk);have ha':env.cells.lookup n=YH a:=ha;simp only[fQ,hk,if_true,cellOf,ha',Option.getD_some,pure_bind])]
 rfl
theorem tT:∀{names:List (Str×TN)}{cs:List (Str×RJ)}{n:Str}{c:RJ},(n,c)∈names.foldl (fQ env) cs->(n,c)∈cs\/((n,SW)∈names/\c=(env.cells.lookup n).getD 0)
 | [],_,_,_,h=>.inl h
 | (m,k)::r,cs,n,c,h=>by
  rcases tT (names:=r) (cs:=fQ env cs (m,k)) h with h|⟨h,e⟩
  ·unfold fQ at h;by_cases hk:(k==SW)=true
   ·rw[if_pos hk]at h;rcases O2.mp h with e|h
    ·cases e;have hk':k=.free:=by simpa using hk
     subst hk';exact .inr ⟨O9,rfl⟩
    exact .inl h
   rw[if_neg hk]at h;exact .inl h
  exact .inr {O8 _ h,e}
theorem wC:∀{names:List (Str×TN)}{cs:List (Str×RJ)},p∈cs->p∈names.foldl (fQ env) cs
 | [],_,h=>h
 |x::r,cs,h=>wC (names:=r) (cs:=fQ env cs x) (by
  unfold fQ;split
  ·exact O8 _ h
  exact h)
theorem xJ:∀{names:List (Str×TN)}{cs:List (Str×RJ)},(n,SW)∈names->(n,(env.cells.lookup n).getD 0)∈names.foldl (fQ env) cs
 |x::r,cs,h=>by
  rcases O2.mp h with e|h
  ·subst e;refine wC (names:=r) (cs:=fQ env cs (n,.free)) ?_;unfold fQ;rw[if_pos (by rfl)];exact O9
  exact xJ (names:=r) h
theorem jw{α:Type}:∀{l:List (Str×α)}{n:Str}{c:α},(n,c)∈l->∃c',l.lookup n=YH c'
 | (k,v)::r,n,c,h=>by
  rw[QD];cases hb:n==k with
  |true=>exact⟨v,rfl⟩
  |false=>
   rcases O2.mp h with e|h
   ·cases e;simp at hb
   exact jw h
theorem fY:∀{names:List (Str×TN)}{k:Nat}{acc:List (Str×RJ)}{n:Str}{c:RJ},(n,c)∈SK k names acc->(n,c)∈acc\/(k<=c/\(n,SG)∈names)
 | [],_,_,_,_,h=>.inl h
 | (m,kd)::r,k,acc,n,c,h=>by
  unfold SK at h;by_cases hk:(kd==SG)=true
  ·rw[if_pos hk]at h;have hk':kd=.cell:=by simpa using hk
   subst hk';rcases fY (names:=r) h with h|⟨h1,h2⟩
   ·rcases O2.mp h with e|h
    ·cases e;exact .inr {O4 _,O9}
    exact .inl h
   exact .inr {(),O8 _ h2}
  rw[if_neg hk]at h;rcases fY (names:=r) h with h|⟨h1,h2⟩
  ·exact .inl h
  exact .inr {h1,O8 _ h2}
theorem jN:∀{names:List (Str×TN)}{k:Nat}{acc:List (Str×RJ)},(∀n c,(n,c)∈acc->c<k)->(∀n n' c,(n,c)∈acc->(n',c)∈acc->n=n')->
  ∀{n n':Str}{c:RJ},(n,c)∈SK k names acc->(n',c)∈SK k names acc->n=n'
 | [],_,_,_,hi,_,_,_,h,h'=>hi _ _ _ h h'
 | (m,kd)::r,k,acc,hl,hi,n,n',c,h,h'=>by
  unfold SK at h h';by_cases hk:(kd==SG)=true
  ·rw[if_pos hk]at h h';refine jN (names:=r) (acc:=(m,k)::acc) (λa b hab=>?_) (λa a' b ha ha'=>?_) h h'
   ·rcases O2.mp hab with e|e
    ·cases e;exact QK _
    exact Qh (hl _ _ e)
   rcases O2.mp ha with e|e<;>rcases O2.mp ha' with e'|e'
   ·cases e;cases e';rfl
   ·cases e;exact absurd (hl _ _ e') (Qt _)
   ·cases e';exact absurd (hl _ _ e) (Qt _)
   exact hi _ _ _ e e'
  rw[if_neg hk]at h h';exact jN (names:=r) hl hi h h'
theorem iX:∀{names:List (Str×TN)}{h:So}{acc:List (Str×RJ)}{n:Str}{c:RJ},(n,c)∈SK h.objs.size names acc->(n,c)∈acc\/(UM h names).IsCell c YI
 | [],_,_,_,_,q=>.inl q
 | (m,kd)::r,h,acc,n,c,q=>by
  unfold SK at q;unfold UM;by_cases hk:(kd==SG)=true
  ·rw[if_pos hk]at q;rw[if_pos hk];have e:h.objs.size+1=(h.push { cls:=.type "cell",data:=.cell YI }).objs.size:=(Tf ..).symm;rw[e]at q;rcases iX (names:=r) q with q|q
   ·rcases O2.mp q with e'|q
    ·cases e';exact .inr {_,Uq r _ _ _ (RZ _ rfl),rfl}
    exact .inl q
   exact .inr q
  rw[if_neg hk]at q;rw[if_neg hk];exact iX (names:=r) q
theorem jH:∀{names:List (Str×TN)}{k:Nat}{acc:List (Str×RJ)},(x,SG)∉names->(SK k names acc).lookup x=acc.lookup x
 | [],_,_,_=>rfl
 | (m,kd)::r,k,acc,h=>by
  unfold SK;have hr:(x,SG)∉r:=λz=>h (O8 _ z);by_cases hk:(kd==SG)=true
  ·have hk':kd=.cell:=by simpa using hk
   subst hk';rw[if_pos hk,jH hr,QD];have ne:(x==m)=false:=by
    cases hb:x==m with
    |false=>rfl
    |true=>exact absurd (by rw[beq_iff_eq.mp hb];exact O9) h
   rw[ne]
  rw[if_neg hk];exact jH hr
section
variable{M:Model}{A:Sq}{E:RI->RN->Prop}{s:RN}
theorem zG
  (h:Q (newEnv scope s.heap.objs.size globals (SK (s.heap.objs.size+1) scope.names cl) qual YI .none (YH EI) VD) { s with heap:=UM (s.heap.push { cls:=.type "dict",data:=.dict #[] }) scope.names }) :
  wpAny M A (Yb scope globals cl [] qual YI .none (YH EI)) Q E s:=by
 simp only[Yb,WX,if_true]
 refine E9 (wpAny_alloc ?_)
 refine E9 (wpAny_layCells _ (λname kind cells=>by cases hkc:kind==SG<;>simp[hkc]) _ _ _ _ ?_)
 rw[show({ s with heap:=s.heap.push { cls:=.type "dict",data:=.dict #[] } }:RN).heap.objs.size=s.heap.objs.size+1 from Tf ..]
 refine E9 ?_
 rw[List.forIn_nil]
 exact RK (RK h)
end
structure CB where
 C:RJ
 ex:List RJ
 s:RN
 H:Hp
noncomputable def Ė(X:Cx)(N:List Str)(scope:U5)(b:CB):Cx:={ X with
 N:=N
 s₀:=b.s
 H₀:=b.H
 env:=compEnvC scope (SK (b.C+1) scope.names (ub X.env scope.names)) b.C X.env
 outer:=X.stack
 ex:=b.ex
 fn:=λx=>scope.names.lookup x==YH .cell
 pn:=[]
 xe:=λ_ _=>False }
theorem nh{env:Env}{x:Str}:∀{names:List (Str×TN)},
  (names.map λ(n,k)=>if(k==SW&&env.scope.kind== .function&&env.kindOf n==YH .cell)then(n,SG)else(n,k)).lookup x=
   (names.lookup x).map λk=>if(k==SW&&env.scope.kind== .function&&env.kindOf x==YH .cell)then SG else k
 | []=>rfl
 | (n,k)::r=>by
  have ih:=@nh env x r;show Ub x ((if(k==SW&&env.scope.kind== .function&&env.kindOf n==YH .cell)=true then(n,SG)else(n,k))::_)=_;cases hx:x==n with
  |true=>
   have e:x=n:=beq_iff_eq.mp hx;subst e;by_cases hc:(k==SW&&env.scope.kind== .function&&env.kindOf x==YH .cell)=true
   ·rw[if_pos hc];simp only[QD,hx,Qq,hc,if_true]
   rw[if_neg hc];simp only[QD,hx,Qq];rw[if_neg hc]
  |false=>
   by_cases hc:(k==SW&&env.scope.kind== .function&&env.kindOf n==YH .cell)=true
   ·rw[if_pos hc];simp only[QD,hx];exact ih
   rw[if_neg hc];simp only[QD,hx];exact ih
structure cw(psc:U5)(PN N:List Str)(own:Nat)(fr:List Nat)(scope:U5):Prop where
 kind:scope.kind=.function
 nd:(scope.names.map (·.1)).Nodup
 free:∀x∈scope.names,x.2=.free->psc.names.lookup x.1=YH .cell\/psc.names.lookup x.1=YH .free
 len:N.length=own+fr.length
 frn:∀i,i<fr.length->N[own+i]?=(fr[i]?).bind λj=>PN[j]?
 frk:∀i,i<fr.length->∀y,N[own+i]?=YH y->scope.names.lookup y=YH .free
noncomputable def Bh(psc:U5)(PN N:List Str)(own:Nat)(fr:List Nat)(scope:U5):Bool:=
 scope.kind== .function&&decide (scope.names.map (·.1)).Nodup&&scope.names.all (λx=>x.2 != .free||(psc.names.lookup x.1==YH .cell||psc.names.lookup x.1==YH .free))&&
  (N.length==own+fr.length)&&((fr.map λj=>PN[j]?)==(N.drop own).map YH)&&(N.drop own).all (λy=>scope.names.lookup y==YH .free)
theorem cw.of(h:Bh psc PN N own fr scope=true):cw psc PN N own fr scope:=by
 unfold Bh at h;simp only[QB]at h;obtain⟨⟨⟨⟨⟨h1,h2⟩,h3⟩,h4⟩,h5⟩,h6⟩:=h;have h4':N.length=own+fr.length:=eq_of_beq h4;have h5':(fr.map λj=>PN[j]?)=(N.drop own).map YH:=eq_of_beq h5;have dr:∀i,N[own+i]?=(N.drop own)[i]?:=λi=>by rw[WY]
 refine{eq_of_beq h1,of_decide_eq_true h2,λx hx hk=>?_,h4',λi hi=>?_,λi hi y hy=>?_}
 ·have q:=QW.mp h3 x hx;rw[hk]at q;simpa using q
 ·have q:=congrArg (λl=>l[i]?) h5';simp only[Pk]at q;rw[dr];have ej:fr[i]?=YH fr[i]:=O7 hi;rw[ej]at q⊢;cases e:(N.drop own)[i]? with
  |none=>rw[e]at q;cases q
  |some y=>
   rw[e]at q;exact(R6 q).symm
 rw[dr]at hy;have q:=QW.mp h6 y (Pj hy);simpa using q
noncomputable def cSt(own:Nat)(fr:List Nat)(B:St):St:=Se own YI++fr.map λj=>(B[j]?).getD YI
theorem gN{α:Type}:∀{l:List (Str×α)}{n:Str}{k:α},(l.map (·.1)).Nodup->(n,k)∈l->l.lookup n=YH k
 | (m,v)::r,n,k,nd,h=>by
  rw[Pm,P1]at nd;rw[QD];rcases O2.mp h with e|h
  ·cases e;simp
  have ne:(n==m)=false:=by
   cases hb:n==m with
   |false=>rfl
   |true=>exact absurd (Pb.mpr {(n,k),h,beq_iff_eq.mp hb}) nd.1
  rw[ne];exact gN nd.2 h
section
variable{X:Cx}{pins:List (RJ×Obj)}{B:St}{H:Hp}{s:RN}{N:List Str}{own:Nat}{fr:List Nat}{scope:U5}
theorem cw.cells(S:cw X.env.scope X.N N own fr scope)(ok:X.Ok):∀x∈scope.names,x.2=.free->∃c,X.env.cells.lookup x.1=YH c:=λx hx hk=>
 ok.has x.1 (S.free x hx hk)
theorem cw.cl(S:cw X.env.scope X.N N own fr scope)(ok:X.Ok)(h:(n,c)∈ub X.env scope.names):X.env.cells.lookup n=YH c:=by
 rcases tT h with h|⟨h,e⟩
 ·cases h
 obtain⟨c',e'⟩:=S.cells ok (n,.free) h rfl;have e2:X.env.cells.lookup n=YH c':=e';rw[e2]at e;rw[e,e2];rfl
theorem GX(S:cw X.env.scope X.N N own fr scope)(I:Inv X pins B H s)(hD:D=s.heap.objs.size)(hC:C=s.heap.objs.size+1)
  (hh:h'=UM ((s.heap.push { cls:=.type "list",data:=.seq #[] }).push { cls:=.type "dict",data:=.dict #[] }) scope.names) (hfp:∀b∈fp,sO X pins H b) (Ý:∀b∈fp,b<s.heap.objs.size) :
  Inv (Ė X N scope ⟨C,fp,s,H⟩) [] (cSt own fr B) (upd H D (.lst [])) { s with heap:=h' }:=by
 subst hD hC
 have eD:(s.heap.push { cls:=.type "list",data:=.seq #[] }).objs.size=s.heap.objs.size+1:=Tf ..
 have eC:((s.heap.push { cls:=.type "list",data:=.seq #[] }).push { cls:=.type "dict",data:=.dict #[] }).objs.size=s.heap.objs.size+2:=by rw[Tf,eD]
 have keep:∀b o,s.heap.get? b=YH o->h'.get? b=YH o:=λb o e=>by
  rw[hh];exact Uq _ _ _ _ (RL _ (RL _ e))
 have lst:h'.get? s.heap.objs.size=YH { cls:=.type "list",data:=.seq #[] }:=by
  rw[hh];exact Uq _ _ _ _ (RL _ (RZ _ rfl))
 have dct:h'.get? (s.heap.objs.size+1)=YH { cls:=.type "dict",data:=.dict #[] }:=by
  rw[hh];refine Uq _ _ _ _ ?_;have:=RZ (s.heap.push { cls:=.type "list",data:=.seq #[] }) (o:={ cls:=.type "dict",data:=.dict #[] }) rfl;rw[eD]at this;exact this
 have hnD:H s.heap.objs.size=YI:=I.Æ.fresh (O4 _)
 have hnC:H (s.heap.objs.size+1)=YI:=I.Æ.fresh (QI _)
 have Ť:∀{n:Str}{c:RJ},(n,c)∈ub X.env scope.names->X.env.cells.lookup n=YH c:=λh=>S.cl I.ok h
 have clt:∀{n:Str}{c:RJ},X.env.cells.lookup n=YH c->c<s.heap.objs.size:=λh=>by
  obtain⟨v,z⟩:=I.cell _ _ h;exact z.lt
 have cases_:∀{n:Str}{c:RJ},(SK (s.heap.objs.size+1+1) scope.names (ub X.env scope.names)).lookup n=YH c->X.env.cells.lookup n=YH c\/(s.heap.objs.size+2<=c/\(n,SG)∈scope.names/\h'.IsCell c YI):=λ{n c} h=>by
  have hm:=Sj h;have ÿ:=hm;rw[show s.heap.objs.size+1+1=((s.heap.push { cls:=.type "list",data:=.seq #[] }).push { cls:=.type "dict",data:=.dict #[] }).objs.size from eC.symm]at ÿ;rcases fY hm with h1|⟨h1,h2⟩
  ·exact .inl (Ť h1)
  rcases iX ÿ with h3|h3
  ·exact .inl (Ť h3)
  exact .inr {h1,h2,by rw[hh];exact h3}
 have kindOf:∀x,(Ė X N scope {s.heap.objs.size+1,fp,s,H}).env.kindOf x=(scope.names.lookup x).map λk=>if(k==SW&&X.env.scope.kind== .function&&X.env.kindOf x==YH .cell)then SG else k:=λx=>nh
 have hasName:∀x,((Ė X N scope {s.heap.objs.size+1,fp,s,H}).env.kindOf x=YH .cell\/(Ė X N scope {s.heap.objs.size+1,fp,s,H}).env.kindOf x=YH .free)->∃c,(SK (s.heap.objs.size+1+1) scope.names (ub X.env scope.names)).lookup x=YH c:=λx hx=>by
  rw[kindOf]at hx;have h2:scope.names.lookup x=YH .cell\/scope.names.lookup x=YH .free:=by
   cases e:scope.names.lookup x with
   |none=>rw[e]at hx;rcases hx with z|z<;>cases z
   |some k=>
    rw[e]at hx;by_cases hk:k=.free
    ·exact .inr (by rw[hk])
    have hk':(k==SW)=false:=by simpa using hk
    simp only[Qq,hk',Bool.false_and,P7,if_false]at hx;rcases hx with z|z
    ·exact .inl z
    exact .inr z
  rcases h2 with h2|h2
  ·exact Qy.mp (UJ scope.names _ _ (.inl h2))
  obtain⟨c,hc⟩:=jw (xJ (env:=X.env) (cs:=[]) (Sj h2));exact Qy.mp (UJ scope.names _ _ (.inr (by rw[show(ub X.env scope.names).lookup x=YH c from hc];rfl)))
 have cellAt:∀x c,(SK (s.heap.objs.size+1+1) scope.names (ub X.env scope.names)).lookup x=YH c->∃v,h'.IsCell c v:=λx c e=>by
  rcases cases_ e with q|⟨_,_,q⟩
  ·obtain⟨v,o,ho,hd⟩:=I.cell x c q;exact⟨v,o,keep c o ho,hd⟩
  exact⟨YI,q⟩
 refine⟨{I.ok.mod,S.kind,I.ok.glob,I.ok.blt,QI _,λy z c h1 h2=>?_,hasName,λy c hy h=>?_,I.ok.hd,I.ok.frames,.inl rfl,λb hb=>{?_,λx c e z=>?_},λb o e=>I.bs b o e,Pf I.ok.bsz I.sz,λb o e hb=>?_,λb hb hf=>?_,I.stack,I.C8},
  rfl,I.bare,?_,{λ_=>YI,{_,#[],_,dct,rfl,λe he=>absurd he (by simp),λ_=>rfl},λi x v h1 h2 h3=>?_},cellAt,?_,λx c e=>?_,λp hp=>absurd (show p∈([]:List (RJ×Obj))from hp) (by simp),?_,?_⟩
 ·
  refine jN (λn c hm=>?_) (λn n' c hm ő=>I.ok.inj n n' c (Ť hm) (Ť ő)) (Sj h1) (Sj h2);exact Qh (Qh (clt (Ť hm)))
 ·
  have hy':scope.names.lookup y=YH .cell:=by simpa using (show(scope.names.lookup y==YH .cell)=true from hy)
  rcases cases_ h with q|⟨q,_⟩
  ·rcases fY (Sj h)with q2|⟨q2,_⟩
   ·rcases tT q2 with z|⟨z,_⟩
    ·cases z
    have:=gN S.nd z;rw[hy']at this;cases this
   exact Pf (Ql _ 2) q2
  exact Pf (Ql _ 2) q
 ·exact Pw (Qh (Ý b hb))
 ·rcases cases_ e with q|⟨q,_⟩
  ·exact(hfp b hb).2.2.2.2.1 x c q z
  have hb':=Ý b hb;rw[<-z]at hb';exact absurd (Px hb' (Pf (Ql _ 2) q)) (Qt _)
 ·rcases(hfp b hb).2.2.2.1 with z|z
  ·exact I.ok.Fq b o e z
  exact Qt _ (Px (RX e) (Pf I.ok.bsz z))
 ·rcases O2.mp (I.AG b hf)with z|z
  ·exact(hfp b hb).2.1 z
  exact(hfp b hb).2.2.1 z
 ·exact Un.laid keep (O4 _) hnD
 ·
  have h1:N[i]?=YH x:=h1;have hlen:i<N.length:=(Pl.mp h1).1;by_cases hi:i<own
  ·exfalso;have h2':(cSt own fr B)[i]?=YH YI:=by
    unfold cSt;rw[PY (by simpa using hi),Vr,if_pos hi]
   rw[h2']at h2;cases h2
  have hfi:i-own<fr.length:=by have:=S.len;lia
  have ei:own+(i-own)=i:=()
  have hk:=S.frk (i-own) hfi x (by rw[ei];exact h1);have hn:=S.frn (i-own) hfi;rw[ei,h1]at hn;have ej:fr[i-own]?=YH fr[i-own]:=O7 hfi;rw[ej]at hn;have hn':X.N[fr[i-own]]?=YH x:=hn.symm;have h2':(cSt own fr B)[i]?=YH ((B[fr[i-own]]?).getD YI):=by
   unfold cSt;rw[PU (by simpa using RC.mp hi),QF,Pk,ej];rfl
  rw[h2']at h2;have h2'':(B[fr[i-own]]?).getD YI=YH v:=R6 h2;have hσ:B[fr[i-own]]?=YH (YH v):=by
   cases e:B[fr[i-own]]? with
   |none=>rw[e]at h2'';cases h2''
   |some w=>rw[e]at h2'';exact congrArg YH h2''
  obtain⟨m,hm,hl⟩:=I.loc;have Ľ:=S.free (x,.free) (Sj hk) rfl;obtain⟨u,r,l⟩:=hl _ x v hn' hσ (Ľ.elim (λz=>.inr (.inl z)) λz=>.inr (.inr z));refine{u,r,.inr ?_};have ÿ:∃c,X.env.cells.lookup x=YH c/\s.heap.IsCell c (YH u):=by
   rcases l with⟨l,_⟩|⟨_,c,e,z⟩
   ·exfalso;rcases Ľ with z|z
    ·have l':X.env.scope.names.lookup x=YH .local:=l
     have z':X.env.scope.names.lookup x=YH .cell:=z;rw[l']at z';cases z'
    have l':X.env.scope.names.lookup x=YH .local:=l
    have z':X.env.scope.names.lookup x=YH .free:=z;rw[l']at z';cases z'
   exact⟨c,e,z⟩
  obtain⟨c,e,o,ho,hd⟩:=ÿ;refine{?_,c,?_,o,keep c o ho,hd}
  ·rw[kindOf,hk];by_cases z:(X.env.scope.kind== .function&&X.env.kindOf x==YH .cell)=true
   ·left
    simp only[Qq,beq_self_eq_true,RD,z,if_true]
   right
   simp only[Qq,beq_self_eq_true,RD];rw[if_neg z]
  show(SK (s.heap.objs.size+1+1) scope.names (ub X.env scope.names)).lookup x=YH c;rw[jH λz=>by
   have:=gN S.nd z;rw[hk]at this;cases this]
  obtain⟨c',hc'⟩:=jw (xJ (env:=X.env) (cs:=[]) (Sj hk));have hc2:(ub X.env scope.names).lookup x=YH c':=hc';rw[hc2];have:=Ť (Sj hc2);rw[e]at this;exact this.symm
 ·show upd H s.heap.objs.size (.lst []) (s.heap.objs.size+1)=YI;rw[aL (Qv (QK _))];exact hnC
 ·rcases cases_ e with q|⟨q,_⟩
  ·have:=clt q;rw[aL (Pw this)];exact I.j8 x c q
  rw[aL (Qv (Px (Nat.lt_add_of_pos_right ∅) q))];exact I.Æ.fresh (Pf (Ql _ 2) q)
 ·exact I.Æ.laid keep (O4 _) {Pd _,[],0,.nil,lst}
 show(cSt own fr B).length=N.length
 unfold cSt
 rw[OX,QF,OZ,S.len]
end
def PF(X:Cx)(ifs:List Expr)(t:TT):Prop:=
 ∀(pins:List (RJ×Obj))(s:RN)(B:St)(H:Hp)(Q:Bool->Hp->Prop),Inv X pins B H s->t B H Q->
  wpAny (RY X.prog X.w) X.A (forIn ifs true λc r=>if r=true then do let ok<-isTrue c X.env (SD c X.env);pure (UT ok)else pure (UT r)) (TP X pins B Q) X.xe s
noncomputable def NJ:TT:=λ_ H Q=>Q true H
theorem kz:PF X [] NJ:=λ_ _ _ H _ I h=>wpAny_tests_nil ⟨H,I,h⟩
theorem ye(h:PT X c t):PF X [c] t:=λpins s B H Q I hw=>wpAny_tests_one (h pins s B H Q I hw)
theorem xm(I:Nat->RN->Prop)
  (turn:∀n s,I n s->wpAny (RY prog w) A (V4 it) (λr s₁=>match r with
   |none=>R (.ok .next) s₁
   |some v=>wpAny (RY prog w) A (US target it v) (λ_ s₁'=>wpAny (RY prog w) A (assign target env v) (λ_ s₂=>
     wpAny (RY prog w) A (forIn ifs true λc r=>if r=true then do let ok<-isTrue c env (SD c env);pure (UT ok)else pure (UT r)) (λok s₃=>
      if ok=true then wpAny (RY prog w) A (SD elt env) (λx s₄=>
       wpAny (RY prog w) A (call (.builtin "list.append") [acc,x]) (λ_ s₅=>∃m,m<n/\I m s₅) (λ_ _=>False) s₄) (λ_ _=>False) s₃
      else ∃m,m<n/\I m s₃) (λ_ _=>False) s₂) (λ_ _=>False) s₁') (λ_ _=>False) s₁) (λ_ _=>False) s)
  (n:Nat) (h:I n s) :
  codeAny (RY prog w) A (.compLoop (.ListComp elt [⟨target,iter,ifs,0⟩] scope pos) 0 it acc env) R s:=by
 refine codeAny_loop rfl I (λn s hI=>?_) n h
 show wpAny _ A ((compTurn (.ListComp elt [⟨target,iter,ifs,0⟩] scope pos) 0 it acc env).onRaise (λx=>do noteFrame x env;theTreesLotGoes x)) _ _ s
 refine wpAny_noted ?_
 rw[compTurn_list]
 have no:∀{α:Type}{t:Sem α}{Q:α->RN->Prop}{E':RI->RN->Prop}{s':RN},wpAny (RY prog w) A t Q (λ_ _=>False) s'->wpAny (RY prog w) A t Q E' s':=λh=>Tw h (λ_ _ q=>q) λ_ _ z=>z.elim
 refine E9 (Vm (E9 (no (Tw (turn n s hI) (λr s₁ h₁=>?_) λ_ _ h'=>h'))))
 cases r with
 |none=>exact RK h₁
 |some v=>
  refine E9 (no (Tw h₁ (λ_ s₁' h₁'=>?_) λ_ _ h'=>h'))
  refine E9 (no (Tw h₁' (λ_ s₂ h₂=>E9 (no (Tw h₂ (λok s₃ h₃=>?_) λ_ _ h'=>h'))) λ_ _ h'=>h'))
  cases ok with
  |false=>exact RK ⟨rfl,h₃⟩
  |true=>
   exact E9 (E9 (no (Tw h₃ (λx s₄ h₄=>E9 (no (Tw h₄ (λ_ s₅ h₅=>RK (RK ⟨rfl,h₅⟩)) λ_ _ h'=>h'))) λ_ _ h'=>h')))
structure qo(J:It)(own:Nat)(fr:List Nat)(g:CB->TG)(tf:CB->TT)(te:CB->TE)(Q:VK)(B:St)(H1:Hp):Prop where
 go:∀(b:CB)(D:RJ),H1 D=YI->∃W:Nat->Nat->St->Hp->Prop,(∃m,W 0 m (cSt own fr B) (upd H1 D (.lst [])))/\∀i m B' H',W i m B' H'->
  (J.stop i H'/\Q (.ref D) H')\/(J.go i H'/\∃M:St->Hp->Prop,(∀σ2 H2,M σ2 H2->∃m',m'<m/\W (i+1) m' σ2 H2)/\∀x H2,J.Ř i H' x H2->g b x B' H2 λσ3 H3=>tf b σ3 H3 λk H4=>
   if k=true then te b σ3 H4 λy H5=>∃ys,H5 D=YH (.lst ys)/\ys.length<sizeLine/\M σ3 (upd H5 D (.lst (ys++[y])))else M σ3 H4)
noncomputable def EA(wi:TI)(own:Nat)(fr:List Nat)(g:CB->TG)(tf:CB->TT)(te:CB->TE):TE:=λB H Q=>wi B H λJ H1=>qo J own fr g tf te Q B H1
section
variable{X:Cx}{tg iter elt:Expr}{ifs:List Expr}{scope:U5}{pos:Pos}{N:List Str}{own:Nat}{fr:List Nat}{wi:TI}{g:CB->TG}{tf:CB->TT}{te:CB->TE}
theorem zM(S:cw X.env.scope X.N N own fr scope)(hc:X.calm=true)(hi:PI X tg iter wi)
  (hg:∀b,PG (Ė X N scope b) tg (g b)) (hf:∀b,PF (Ė X N scope b) ifs (tf b)) (he:∀b,PE (Ė X N scope b) elt (te b)) (hs:∀x,foldedSetIterable iter X.env x=pure x) (I:Inv X pins B H s) (h:EA wi own fr g tf te B H Q)
  (fin:∀(D C:RJ)(oC:Obj)(m:Str->Option RI)(H':Hp)(s':RN),Inv X (pins++[(C,oC)]) B H' s'->X.s₀.heap.objs.size<=C->(∀p∈X.pn++pins,p.1≠C)->(∀h':So,h'.get? C=YH oC->h'.Ns C m)->Q (.ref D) H'->Yc (RY X.prog X.w) X.A X.xe use R (.ref D) C (.ok .next) s') :
  wpAny (RY X.prog X.w) X.A (comprehension (.ListComp elt [⟨tg,iter,ifs,0⟩] scope pos) scope X.env (firstIterPos [⟨tg,iter,ifs,0⟩] pos) (YF []) false (SD iter X.env) use) R X.xe s:=by
 refine wpAny_comprehension_free rfl hs (q0 (S.cells I.ok)) S.kind (λx hx hk=>?_) (Ì (hi pins s B H _ I h) λv s1 h1=>Ì h1 λitv s2 h2=>?_)
 ·have:=gN S.nd (show(x.1,x.2)∈scope.names from hx);rw[this,hk]
 obtain⟨it,fp,tn,J,H2,e,I2,T,Ń,f2,q⟩:=h2
 subst e
 refine Sk ?_
 refine zG ?_
 have eD:(s2.heap.push { cls:=.type "list",data:=.seq #[] }).objs.size=s2.heap.objs.size+1:=Tf ..
 have hD:H2 s2.heap.objs.size=YI:=I2.Æ.fresh (O4 _)
 have Ý:∀b∈fp,b<s2.heap.objs.size:=λb hb=>by
  obtain⟨o,ho,_⟩:=T.obj 0 _ Ń b hb;exact RX ho
 obtain⟨W,⟨m0,w0⟩,turn⟩:=q.go {s2.heap.objs.size+1,fp,s2,H2} s2.heap.objs.size hD
 have IX:=GX (fp:=fp) S I2 rfl rfl rfl f2 Ý
 have Ċ:tn 0 (UM ((s2.heap.push { cls:=.type "list",data:=.seq #[] }).push { cls:=.type "dict",data:=.dict #[] }) scope.names):=
  T.keep 0 _ _ Ń λb _ o e=>Uq _ _ _ _ (RL _ (RL _ e))
 have Ĕ:∀b∈fp,upd H2 s2.heap.objs.size (.lst []) b=YI:=λb hb=>by
  rw[aL (Pw (Ý b hb))];exact(f2 b hb).1
 have cne:∀b∈fp,∀x c,(Ė X N scope {s2.heap.objs.size+1,fp,s2,H2}).env.cells.lookup x=YH c->c≠b:=λb hb=>((IX.ok.exf b hb).2)
 have ŏ:∀{H':Hp},(∀b∈fp,H' b=YI)->∀b∈fp,sO (Ė X N scope {s2.heap.objs.size+1,fp,s2,H2}) [] H' b:=λhn b hb=>
  {hn b hb,(IX.ok.exf b hb).1,IX.ok.FN b hb,.inl hb,cne b hb,λp hp=>absurd (show p∈([]:List (RJ×Obj))from hp) (by simp)}
 have e4:∀cenv:Env,cenv=newEnv scope (s2.heap.push { cls:=.type "list",data:=.seq #[] }).objs.size X.env.globals (SK ((s2.heap.push { cls:=.type "list",data:=.seq #[] }).objs.size+1) scope.names (ub X.env scope.names)) X.env.qual YI .none (YH X.env) VD->
   ({ cenv with scope:=relabel scope X.env }:Env)=(Ė X N scope ⟨s2.heap.objs.size+1,fp,s2,H2⟩).env/\cenv.locals=s2.heap.objs.size+1:=λcenv e=>by
  subst e
  rw[eD]
  exact⟨rfl,rfl⟩
 obtain⟨e5,e6⟩:=e4 _ rfl
 have loop:codeAny (RY X.prog X.w) X.A (.compLoop (.ListComp elt [⟨tg,iter,ifs,0⟩] scope pos) 0 (.ref it) (.ref s2.heap.objs.size) (Ė X N scope {s2.heap.objs.size+1,fp,s2,H2}).env)
   (Yc (RY X.prog X.w) X.A X.xe use R (.ref s2.heap.objs.size) (s2.heap.objs.size+1)) { s2 with heap:=UM ((s2.heap.push { cls:=.type "list",data:=.seq #[] }).push { cls:=.type "dict",data:=.dict #[] }) scope.names }:=by
  refine xm (λn s'=>∃i B' H',Inv (Ė X N scope {s2.heap.objs.size+1,fp,s2,H2}) [] B' H' s'/\tn i s'.heap/\(∀b∈fp,H' b=YI)/\W i n B' H') ?_ m0 {0,_,_,IX,Ċ,Ĕ,w0}
  rintro n s5 ⟨i,σ5,H5,I5,st5,fr5,w5⟩
  rcases turn i n σ5 H5 w5 with⟨stop,qn⟩|⟨go,M,hM,step⟩
  ·refine Ì (T.done (Ė X N scope {s2.heap.objs.size+1,fp,s2,H2}) rfl rfl rfl hc i [] s5 σ5 H5 (λ_ _=>False) I5 (ŏ fr5) st5 stop) λr s6 z9=>?_;obtain⟨hr,I6⟩:=z9;subst hr;obtain⟨m,hn,_⟩:=I6.loc;obtain⟨oC,es,ep,hoC,hd,hk,hm⟩:=id hn;have IB:Inv X pins B H5 s6:=I2.Ni (ch:=fp) I6.os I6.base I6.Æ I6.bare λb hb=>{(f2 b hb).2.2.2.1,(f2 b hb).2.1,(f2 b hb).2.2.2.2.1,(f2 b hb).2.2.2.2.2};have young:s2.heap.objs.size<=s2.heap.objs.size+1:=QI _;refine fin s2.heap.objs.size (s2.heap.objs.size+1) oC m H5 s6 (IB.wI λp hp=>?_) (Pf I2.sz young) (λp hp=>Pw (Px (RX (I2.pin p hp).1) young)) (λh' e=>⟨oC,es,ep,e,hd,hk,hm⟩) qn;rcases O5.mp hp with z|z
   ·exact IB.pin p (Pc _ z)
   have ep':p=(s2.heap.objs.size+1,oC):=by simpa using z
   subst ep';exact{hoC,I6.free,Qv (Px I2.lt young),I2.Nw young,λv z=>by rw[hd]at z;cases z}
  refine Ì (T.item (Ė X N scope {s2.heap.objs.size+1,fp,s2,H2}) rfl rfl rfl hc i [] s5 σ5 H5 (λ_ _=>False) I5 (ŏ fr5) st5 go) λr s6 z9=>?_;obtain⟨u,hr,h6⟩:=z9
  subst hr
  refine Ì h6 λ_ s7 z9=>?_;obtain⟨x,H7,I7,r7,y7,st7,fr7⟩:=z9
  have I7':=I7.pinned (ŏ fr7) (T.obj _ _ st7)
  refine Ì (hg _ _ s7 σ5 H7 x u _ I7' r7 (step x H7 y7)) λ_ s8 z9=>?_;obtain⟨σ8,H8,I8,q8⟩:=z9
  refine Ì (hf _ _ s8 σ8 H8 _ I8 q8) λk s9 z9=>?_;obtain⟨H9,I9,q9⟩:=z9
  have again:∀{Š:Hp}{Ő:RN},Inv (Ė X N scope {s2.heap.objs.size+1,fp,s2,H2}) ([]++uo fp s7.heap) σ8 Š Ő->M σ8 Š->
    ∃m,m<n/\∃i B' H',Inv (Ė X N scope {s2.heap.objs.size+1,fp,s2,H2}) [] B' H' Ő/\tn i Ő.heap/\(∀b∈fp,H' b=YI)/\W i m B' H':=λ{Š Ő} I10 q10=>by
   obtain⟨m',hm,w10⟩:=hM σ8 Š q10
   refine{m',hm,i+1,σ8,Š,I10.ng,T.keep _ _ _ st7 λb hb o e=>(I10.pin (b,o) (Pc _ (Pc _ (kP hb e)))).1,λb hb=>?_,w10}
   obtain⟨o,e,d⟩:=T.obj _ _ st7 b hb
   exact(I10.pin (b,o) (Pc _ (Pc _ (kP hb e)))).2.1
  cases k with
  |false=>exact again I9 q9
  |true=>
   refine Ì (he _ _ s9 σ8 H9 _ I9 q9) λw10 Ő z9=>?_;obtain⟨y,Š,I10,r10,ys,hys,hz,q10⟩:=z9
   refine Ì (wA _ Ő σ8 Š (.ref s2.heap.objs.size) [y] (.ref s2.heap.objs.size) [w10] (λ_ H'=>M σ8 H') I10 rfl (.cons r10 .nil) {_,ys,y,rfl,rfl,hys,hz,q10}) λ_ s11 z9=>?_;obtain⟨_,H11,I11,_,q11⟩:=z9
   exact again I11 q11
 have go:codeAny (RY X.prog X.w) X.A (.compStart (.ListComp elt [⟨tg,iter,ifs,0⟩] scope pos) 0 (.ref it) (.ref s2.heap.objs.size) (Ė X N scope {s2.heap.objs.size+1,fp,s2,H2}).env)
   (Yc (RY X.prog X.w) X.A X.xe use R (.ref s2.heap.objs.size) (s2.heap.objs.size+1)) { s2 with heap:=UM ((s2.heap.push { cls:=.type "list",data:=.seq #[] }).push { cls:=.type "dict",data:=.dict #[] }) scope.names }:=
  codeAny_compStart_list loop (T.self _ 0 _ _ _ Ċ loop)
 have ķ:∀(env':Env)(L:RJ),env'=(Ė X N scope {s2.heap.objs.size+1,fp,s2,H2}).env->L=s2.heap.objs.size+1->
   codeAny (RY X.prog X.w) X.A (.compStart (.ListComp elt [⟨tg,iter,ifs,0⟩] scope pos) 0 (.ref it) (.ref s2.heap.objs.size) env') (Yc (RY X.prog X.w) X.A X.xe use R (.ref s2.heap.objs.size) L)
    { s2 with heap:=UM ((s2.heap.push { cls:=.type "list",data:=.seq #[] }).push { cls:=.type "dict",data:=.dict #[] }) scope.names }:=by
  intro env' L h1 h2
  subst h1 h2
  exact go
 exact ķ _ _ e5 e6
theorem vW(I:Inv X (pins++[(C,oC)]) B' H' s')(hy:X.s₀.heap.objs.size<=C)(hp:∀p∈X.pn++pins,p.1≠C)(sb:TZ C s'.heap h') :
  Inv X pins B' H' { s' with heap:=h' }:=by
 have pC:=I.pin (C,oC) (Pc _ (Pc _ (by simp)))
 have I2:Inv X pins B' H' s':=I.ng
 refine I2.turned (it:=C) (t':=s'.toks) (λb o hb e=>(sb.2 b hb).trans e) pC.2.1 pC.2.2.1 (.inr hy) (λx c e z=>?_) hp
 obtain⟨v,o,ho,hd⟩:=I2.cell x c e
 rw[z,pC.1]at ho
 cases ho
 exact pC.2.2.2.2 v hd
theorem eA(S:cw X.env.scope X.N N own fr scope)(hc:X.calm=true)(hi:PI X tg iter wi)(hg:∀b,PG (Ė X N scope b) tg (g b))(hf:∀b,PF (Ė X N scope b) ifs (tf b))(he:∀b,PE (Ė X N scope b) elt (te b))
  (hs:∀x,foldedSetIterable iter X.env x=pure x:=by intro _;rfl):PE X (.ListComp elt [⟨tg,iter,ifs,0⟩] scope pos) (EA wi own fr g tf te):=by
 intro pins s B H Q I h
 rw[eval_ListComp]
 refine zM (use:=YI) S hc hi hg hf he hs I h λD C oC m H' s' I' hy hp hm q=>?_
 have pC:=I'.pin (C,oC) (Pc _ (Pc _ (by simp)))
 exact{m,hm _ pC.1,λh' sb=>⟨.ref D,H',vW I' hy hp sb,rfl,q⟩}
theorem Av(S:cw X.env.scope X.N N own fr scope)(hc:X.calm=true)(hN:X.N.Nodup)(hj:X.N[j]?=YH y)(hy:Loc X.env.scope y)(hi:PI X tg iter wi)(hg:∀b,PG (Ė X N scope b) tg (g b))(hf:∀b,PF (Ė X N scope b) ifs (tf b))
  (he:∀b,PE (Ė X N scope b) elt (te b)) (hfn:X.fn y=true\/X.env.scope.names.lookup y=YH .local:=by first|exact .inl rfl|exact .inr rfl|assumption) (hs:∀x,foldedSetIterable iter X.env x=pure x:=by intro _;rfl)
  (hsw:Wl (.ListComp elt [⟨tg,iter,ifs,0⟩] scope pos) (YH (.Name y py)) spos.line X.env=pure true:=by rfl) :
  PS X (.Assign [.Name y py] (.ListComp elt [⟨tg,iter,ifs,0⟩] scope pos) spos) (IW (EA wi own fr g tf te) (pO j)):=by
 intro pins s B H D I h
 rw[exec_Assign_Name_used _ _ _ _ hsw]
 refine E9 (Vm (E9 ?_))
 show wpAny _ _ (do let _<-comprehension (.ListComp elt [⟨tg,iter,ifs,0⟩] scope pos) scope X.env _ (YF []) false (SD iter X.env) (YH (assign (.Name y py) X.env))) _ _ s
 refine E9 (Ì (zM (use:=YH (assign (.Name y py) X.env)) (R:=λ_ s'=>SP X pins D .next s') S hc hi hg hf he hs I h λD' C oC m H' s' I' hy' hp hm q=>?_) λ_ s' q=>RK (RK q))
 show wpAny _ _ (assign (.Name y py) X.env (.ref D')) _ _ s'
 refine Ì (BG hN hj hy hfn _ s' B H' (.ref D') (.ref D') _ I' rfl q) λ_ s'' z9=>?_;obtain⟨σ2,H2,I2,q2⟩:=z9
 have pC:=I2.pin (C,oC) (Pc _ (Pc _ (by simp)))
 exact{m,hm _ pC.1,λh' sb=>⟨σ2,H2,vW I2 hy' hp sb,q2⟩}
end
theorem PE.imp(h:PE X e t)(k:∀B H Q,t' B H Q->t B H Q):PE X e t':=λpins s B H Q I q=>h pins s B H Q I (k B H Q q)
theorem Ó.imp(h:Ó X f r)(k:∀x y H Q,r' x y H Q->r x y H Q):Ó X f r':=λpins s B H x y v u Q I rx ry q=>h pins s B H x y v u Q I rx ry (k x y H Q q)
noncomputable def zO(i:Nat):TE:=λB H Q=>match B[i]? with
 |some (YH v)=>Q v H
 |_=>False
section
variable{X:Cx}
theorem fv (i) (hN:X.N[i]?=YH x:=by rfl) (hv:Vis X.env.scope x:=by first|exact Pg rfl|exact Qs (Pg rfl)|exact Qs (Qs rfl)) (hd:(x==("__debug__":Str))=false:=by decide)
  (ņ:(x==("__classdict__":Str))=false:=by decide):PE X (.Name x pos) (zO i):=(J6 hN hv hd ņ).imp λB H Q q=>by
 unfold zO at q
 cases e:B[i]? with
 |none=>rw[e]at q;exact q.elim
 |some o=>
  cases o with
  |none=>rw[e]at q;exact q.elim
  |some v=>rw[e]at q;exact⟨v,e,q⟩
noncomputable def Ja:R2:=λx y H Q=>match x,y with
 | .int i,.int j=>Q (.int (i+j)) H
 | .str a,.str b=>a.length+b.length<=sizeLine/\Q (.str (a++b)) H
 | .ref p,.ref q=>Nk (.ref p) (.ref q) H Q
 |_,_=>False
theorem aQ:Ó X (SX .Add) Ja:=by
 intro pins s B H x y v u Q I rx ry h;cases x with
 |int i=>
  cases y with
  |int j=>exact Km pins s B H _ _ v u Q I rx ry ⟨i,j,rfl,rfl,h⟩
  |_=>exact(show False from h).elim
 |str a=>
  cases y with
  |str b=>exact Bd pins s B H _ _ v u Q I rx ry ⟨a,b,rfl,rfl,h.1,h.2⟩
  |_=>exact(show False from h).elim
 |ref p=>
  cases y with
  |ref q=>exact JX pins s B H _ _ v u Q I rx ry h
  |_=>exact(show False from h).elim
 |_=>cases y<;>exact(show False from h).elim
noncomputable def rf(C:Int->Int->Prop)(g:Int->Int->V):R2:=λx y H Q=>match x,y with
 | .int i,.int j=>C i j/\Q (g i j) H
 |_,_=>False
noncomputable def lC(g:Int->Int->V):R2:=λx y H Q=>match x,y with
 | .int i,.int j=>Q (g i j) H
 |_,_=>False
theorem Ó.rf(h:Ó X f (rI C g)):Ó X f (rf C g):=h.imp λx y H Q q=>by
 cases x with
 |int i=>
  cases y with
  |int j=>exact⟨i,j,rfl,rfl,q.1,q.2⟩
  |_=>exact(show False from q).elim
 |_=>cases y<;>exact(show False from q).elim
theorem Ó.lC(h:Ó X f (rI0 g)):Ó X f (lC g):=h.imp λx y H Q q=>by
 cases x with
 |int i=>
  cases y with
  |int j=>exact⟨i,j,rfl,rfl,q⟩
  |_=>exact(show False from q).elim
 |_=>cases y<;>exact(show False from q).elim
theorem pN:Ó X (SX .Sub) (lC λi j=>.int (i-j)):=Kx.lC
theorem NF:Ó X (SX .Mult) (rf Dl λi j=>.int (i*j)):=LZ.rf
def JA(_ j:Int):Prop:=0<j/\j<2^64
theorem I0(h:JA 0 j):j.natAbs.log2<9000:=by
 have h1:j.natAbs<2^64:=by
  have h2:j<2^64:=h.2;have h3:0<j:=h.1;lia
 have h0:j.natAbs≠0:=by have h3:0<j:=h.1;lia
 have:=(Nat.log2_lt h0).mpr h1;lia
theorem eZ:Ó X (SX .FloorDiv) (rf JA λi j=>.int (i/j)):=(opI λi j _ _ _ _ _ hc q=>by
 have h1:(0:Int)<j:=hc.1;exact floordiv_int () (by rw[Int.fdiv_eq_ediv_of_nonneg i ()];exact q) (.inl (PyProof.noPylong_of_log2 (I0 hc)))).rf
theorem bK:Ó X (SX .Mod) (rf (λ_ j=>0<j) λi j=>.int (i%j)):=LO.rf
theorem tL:Ó X (SX .Pow) (rf Fc λi j=>.int (i^j.toNat)):=JT.rf
theorem Mz:Ó X (SX .LShift) (rf Fc λi j=>.int (i*2^j.toNat)):=LS.rf
theorem Ol:Ó X (SX .BitOr) (lC λi j=>.int (SF i j)):=Mv.lC
theorem zE:Ó X (Sf .Lt) (lC λi j=>.bl (decide (i<j))):=Mu.lC
theorem Ak:Ó X (Sf .Gt) (lC λi j=>.bl (decide (j<i))):=MP.lC
theorem OP:Ó X (Sf .GtE) (lC λi j=>.bl (decide (j<=i))):=M7.lC
mutual
inductive lQ(K:RS)(H:Hp):V->V7->Prop where
 |Ë:lQ K H .Ë .none
 |bl (b:Bool):lQ K H (.bl b) (.bool b)
 |int (i:Int):lQ K H (.int i) (.int i)
 |str (x:Str):lQ K H (.str x) (.str x)
 |lst {a:RJ}{xs:List V}{ds:List V7} (h:À K H a xs) (r:gJ K H xs ds):lQ K H (.ref a) (.list ds)
 |tup {a:RJ}{xs:List V}{ds:List V7} (h:È K H a xs) (r:gJ K H xs ds):lQ K H (.ref a) (.tuple ds)
inductive gJ(K:RS)(H:Hp):List V->List V7->Prop where
 |nil:gJ K H [] []
 |cons {x:V}{xs:List V}{d:V7}{ds:List V7} (h:lQ K H x d) (r:gJ K H xs ds):gJ K H (x::xs) (d::ds)
end
mutual
theorem Inv.reads(I:Inv X pins B H s):∀{x:V}{d:V7}{u:RI},lQ X.K H x d->YM x u->∃as,Reads s.heap u d as
 |_,_,_,.Ë,r=>by cases r;exact{_,.none}
 |_,_,_,.bl b,r=>by cases r;exact{_,.bool b}
 |_,_,_,.int i,r=>by obtain⟨t,rfl⟩:=r;exact{_,.int i t}
 |_,_,_,.str x,r=>by obtain⟨t,rfl⟩:=r;exact{_,.str x t}
 |_,_,_,.lst h q,r=>by
  cases r;obtain⟨Â,rv,⟨o,n,e,hc,_,hd⟩,_⟩:=I.list h;obtain⟨as,z⟩:=I.readsAll q rv;exact{_,.list e hc hd (by simpa using z)}
 |_,_,_,.tup h q,r=>by
  cases r;obtain⟨Â,rv,⟨o,e,hc,n,hd⟩,_⟩:=I.tuple h;obtain⟨as,z⟩:=I.readsAll q rv;exact{_,.tuple e hc hd (by simpa using z)}
theorem Inv.readsAll(I:Inv X pins B H s):∀{xs:List V}{ds:List V7}{us:List RI},gJ X.K H xs ds->YK xs us->∃as,ReadsAll s.heap us ds as
 |_,_,_,.nil,r=>by cases r;exact{_,.nil}
 |_,_,_,.cons h q,r=>by
  cases r with
  |cons r1 r2=>
   obtain⟨as,z⟩:=I.reads h r1;obtain⟨bs,z2⟩:=I.readsAll q r2;exact{_,.cons z z2}
end
noncomputable def fEq(K:RS):R2:=λx y H Q=>match x,y with
 | .ref p,.ref q=>∃d e,lQ K H (.ref p) d/\lQ K H (.ref q) e/\Td d=true/\Td e=true/\Q (.bl (WZ d e)) H
 |x,y=>Dz x y=true/\Q (.bl (decide (x=y))) H
noncomputable def fNe(K:RS):R2:=λx y H Q=>match x,y with
 | .ref p,.ref q=>∃d e,lQ K H (.ref p) d/\lQ K H (.ref q) e/\Td d=true/\Td e=true/\Q (.bl (!PyData.eqv d e)) H
 |x,y=>Dz x y=true/\Q (.bl (!decide (x=y))) H
theorem OD(hu:X.A.units+64<TX):Ó X (Sf .Eq) (fEq X.K):=by
 intro pins s B H x y v u Q I rx ry h;by_cases hr:∃p q,x=V.ref p/\y=V.ref q
 ·obtain⟨p,q,rfl,rfl⟩:=hr;obtain⟨d,e,hd,he,sd,se,hq⟩:=h;obtain⟨as,z1⟩:=I.reads hd rx;obtain⟨bs,z2⟩:=I.reads he ry;exact eq_dataH z1 z2 sd se hu {.bl _,H,I,rfl,hq}
 refine MD pins s B H x y v u Q I rx ry ?_;cases x<;>cases y<;>first|exact h|exact absurd {_,_,rfl,rfl} hr
theorem rn(hu:X.A.units+64<TX):Ó X (Sf .NotEq) (fNe X.K):=by
 intro pins s B H x y v u Q I rx ry h;by_cases hr:∃p q,x=V.ref p/\y=V.ref q
 ·obtain⟨p,q,rfl,rfl⟩:=hr;obtain⟨d,e,hd,he,sd,se,hq⟩:=h;obtain⟨as,z1⟩:=I.reads hd rx;obtain⟨bs,z2⟩:=I.reads he ry;exact ne_dataH z1 z2 sd se hu {.bl _,H,I,rfl,hq}
 refine NI pins s B H x y v u Q I rx ry ?_;cases x<;>cases y<;>first|exact h|exact absurd {_,_,rfl,rfl} hr
noncomputable def fIn(K:RS)(neg:Bool):R2:=λx y H Q=>match y with
 | .str j=>∃i,x=.str i/\Q (.bl (if neg then !(!(SQ j i 0 j.length 1).isEmpty)else !(SQ j i 0 j.length 1).isEmpty)) H
 | .ref p=>∃xs,(À K H p xs\/È K H p xs)/\lN x=true/\xs.all lN=true/\Q (.bl (if neg then !č x xs else č x xs)) H
 |_=>False
theorem Oq:Ó X (Sf .In) (fIn X.K false):=by
 intro pins s B H x y v u Q I rx ry h;cases y with
 |str j=>
  obtain⟨i,rfl,q⟩:=h;exact Eb pins s B H _ _ v u Q I rx ry ⟨i,j,rfl,rfl,q⟩
 |ref p=>
  obtain⟨xs,h1,h2,h3,q⟩:=h;exact DU pins s B H _ _ v u Q I rx ry ⟨p,xs,rfl,h1,h2,h3,q⟩
 |_=>exact(show False from h).elim
theorem Hn:Ó X (Sf .NotIn) (fIn X.K true):=by
 intro pins s B H x y v u Q I rx ry h;cases y with
 |str j=>
  obtain⟨i,rfl,q⟩:=h;exact xO pins s B H _ _ v u Q I rx ry ⟨i,j,rfl,rfl,q⟩
 |ref p=>
  obtain⟨xs,h1,h2,h3,q⟩:=h;exact wG pins s B H _ _ v u Q I rx ry ⟨p,xs,rfl,h1,h2,h3,q⟩
 |_=>exact(show False from h).elim
theorem FP:Ó X (Sf .Is) (λx y H Q=>y=.Ë/\Q (.bl (decide (x=.Ë))) H):=Ka
theorem fS:Ó X (Sf .IsNot) (λx y H Q=>y=.Ë/\Q (.bl (!decide (x=.Ë))) H):=Hu
inductive ixS(K:RS)(p:RJ)(i:Int)(H:Hp)(Q:VK):Prop
 |mk (xs v) (h0:À K H p xs\/È K H p xs) (h1:į xs i=YH v) (q:Q v H):ixS K p i H Q
noncomputable def fIx(K:RS):R2:=λx y H Q=>match x,y with
 | .ref p,.int i=>ixS K p i H Q
 | .str z,.int i=>∃c,z.length<=sizeLine/\į z.cps.toList i=YH c/\Q (.str ⟨#[c]⟩) H
 |_,_=>False
theorem Fs:IxR X (fIx X.K):=by
 intro value slice pins s B H x y v u Q I rx ry h hs;cases x with
 |ref p=>
  cases y with
  |int i=>
   obtain⟨xs,w,h1|h1,h2,q⟩:=h
   ·exact G1 value slice pins s B H _ _ v u Q I rx ry ⟨p,xs,i,w,rfl,rfl,h1,h2,q⟩ hs
   exact J0 value slice pins s B H _ _ v u Q I rx ry ⟨p,xs,i,w,rfl,rfl,h1,h2,q⟩ hs
  |_=>exact(show False from h).elim
 |str z=>
  cases y with
  |int i=>
   obtain⟨c,h1,h2,q⟩:=h;exact Mc value slice pins s B H _ _ v u Q I rx ry ⟨z,i,c,rfl,rfl,h1,h2,q⟩ hs
  |_=>exact(show False from h).elim
 |_=>cases y<;>exact(show False from h).elim
def Om:V->Option Int->Option Int->Hp->VK->Prop:=λx lo hi H Q=>∃z,x=.str z/\z.length<=sizeLine/\Q (.str (Txt.slice z lo hi)) H
noncomputable def Its(x:Str):It:={λi _=>i<x.cps.size,λi H v H'=>H'=H/\∃c,x.cps[i]?=YH c/\v=.str ⟨#[c]⟩,λi _=>x.cps.size<=i}
theorem F8{P:Program}{w:R5}{K:Uc}{tg:Expr}{T:String}(hT:T="str_ascii_iterator"\/T="str_iterator")(it:RJ)(x:Str)(t:Tok):Y2 P w K tg (Its x) [it] it (λi h=>i<=x.cps.size/\h.IsStrIter it T x t i) where
 mem:=by simp
 obj:=λi h st b hb=>by
  have e:b=it:=by simpa using hb
  subst e;obtain⟨_,o,e,c,d⟩:=st;exact{o,e,λv z=>by rw[d]at z;cases z}
 keep:=λi h h' st k=>by
  obtain⟨hi,o,e,r⟩:=st;exact{hi,o,k it (by simp) o e,r}
 item:=by
  intro X hP hw hK hc i pins s B H E I hf st hg;subst hP hw hK;obtain⟨f0,f1,f2,f3,f4,f5⟩:=hf it (by simp);have W:Walks X.prog X.w X.A it [it] [it] x.cps.size (SignAt x) (λi h=>h.IsStrIter it T x t i):=by
   rcases hT with rfl|rfl
   ·exact Yd (I.ok.hd hc) it x t
   exact Walks.strWide (I.ok.hd hc) it x t
  refine W.item i s _ _ hg st.2 λv h' tk hv Å kk=>?_;obtain⟨c,u,hcp,rfl⟩:=hv;have I1:Inv X pins B H { s with heap:=h',toks:=tk }:=I.turned (λb o hb e=>kk b o (by simpa using hb) e) f0 f1 f3 f4 f5;obtain⟨o,e,c',d⟩:=id Å;refine{_,rfl,wg (s:={ s with heap:=h',toks:=tk }) e c' d (by rcases hT with rfl|rfl<;>decide) ⟨.str ⟨#[c]⟩,H,I1,⟨u,rfl⟩,⟨rfl,c,hcp,rfl⟩,⟨hg,Å⟩,λb hb=>(hf b hb).1⟩}
 done:=by
  intro X hP hw hK hc i pins s B H E I hf st hg;subst hP hw hK;obtain⟨f0,f1,f2,f3,f4,f5⟩:=hf it (by simp);have W:Walks X.prog X.w X.A it [it] [it] x.cps.size (SignAt x) (λi h=>h.IsStrIter it T x t i):=by
   rcases hT with rfl|rfl
   ·exact Yd (I.ok.hd hc) it x t
   exact Walks.strWide (I.ok.hd hc) it x t
  have e:i=x.cps.size:=Nat.le_antisymm st.1 hg;subst e;exact W.done s _ _ st.2 λh' tk kk=>{rfl,I.turned (λb o hb e=>kk b o (by simpa using hb) e) f0 f1 f3 f4 f5}
 self:=λA i s Q E st h=>by
  rcases hT with rfl|rfl
  ·exact wpAny_pyIter_striter_ascii st.2 h
  exact wpAny_pyIter_striter_wide st.2 h
noncomputable def Ov(K:RS)(tl:TE):TI:=λB H R=>tl B H λx H1=>match x with
 | .ref a=>((∃xs,À K H1 a xs)/\R (Itl K a) H1)\/((∃xs,È K H1 a xs)/\R (Itt K a) H1)
 | .str z=>R (Its z) H1
 |_=>False
theorem bT(hl:PE X l tl):PI X tg l (Ov X.K tl):=by
 intro pins s B H R I h;refine Ì (hl pins s B H _ I h) λv s1 z9=>?_;obtain⟨x,H1,I1,r1,q1⟩:=z9;cases x with
 |ref a=>
  cases r1;rcases q1 with⟨⟨xs,hq⟩,q⟩|⟨⟨xs,hq⟩,q⟩
  ·obtain⟨Â,rv,p,hz⟩:=I1.list hq;refine Vl p.isList ?_;refine{s1.heap.objs.size,[s1.heap.objs.size],_,_,H1,rfl,I1.kept (t':=s1.toks) λb o e=>RL _ e,DN a _,{_,RZ _ rfl,rfl,rfl},λb hb=>?_,q};have e:b=s1.heap.objs.size:=by simpa using hb
   subst e;exact I1.yc (O4 _) (I1.Æ.fresh (O4 _))
  obtain⟨Â,rv,p,hz⟩:=I1.tuple hq;refine wpAny_pyIter_tuple (show s1.heap.IsTuple a Â.toArray from p) ?_;refine{s1.heap.objs.size,[s1.heap.objs.size],_,_,H1,rfl,I1.kept (t':=s1.toks) λb o e=>RL _ e,AF a _,{_,RZ _ rfl,rfl,rfl},λb hb=>?_,q};have e:b=s1.heap.objs.size:=by simpa using hb
  subst e;exact I1.yc (O4 _) (I1.Æ.fresh (O4 _))
 |str z=>
  obtain⟨t,rfl⟩:=r1;refine wpAny_pyIter_strU ?_;refine{s1.heap.objs.size,[s1.heap.objs.size],_,_,H1,rfl,I1.kept (t':=s1.toks) λb o e=>RL _ e,F8 (T:=strIterType z) ?_ _ z t,{Pd _,_,RZ _ rfl,rfl,rfl},λb hb=>?_,q1}
  ·unfold strIterType;split
   ·exact .inl rfl
   exact .inr rfl
  have e:b=s1.heap.objs.size:=by simpa using hb
  subst e;exact I1.yc (O4 _) (I1.Æ.fresh (O4 _))
 |_=>exact(show False from q1).elim
theorem bh(ha:PE X a ta)(he:∀whole,isTrue a X.env whole=(do let v<-whole;Xc a.pos;UY [v] (truthy v))) :
  PT X a (λB H Q=>ta B H λx H'=>zH X.K x H' Q):=FO ha he
inductive HV(K:RS)(xs:List V)(H:Hp)(Q:VK):Prop
 |mk (x n) (h0:xs=[x]) (h1:My K x H n) (q:Q (.int n) H):HV K xs H Q
theorem Nd:dU X (.builtin "len") (HV X.K):=λpins s B H xs us Q I r ⟨x,n,h0,h1,q⟩=>Fj pins s B H xs us Q I r ⟨x,n,h0,h1,q⟩
theorem jt:dU X (.type "list") (λxs H Q=>∃p ys,xs=[.ref p]/\(À X.K H p ys\/È X.K H p ys)/\∀l,H l=YI->Q (.ref l) (upd H l (.lst ys))):=xy
noncomputable def G2:V->RI
 | .ty n=>.type n
 | .ref a=>.ref a
 |_=>.none
theorem Ez(r:YM y u)(h:G2 y≠ .none):u=G2 y:=by
 cases y with
 |ty n=>exact r
 |ref a=>exact r
 |_=>exact absurd rfl h
inductive zQ(K:RS)(xs:List V)(H:Hp)(Q:VK):Prop
 |mk (x y t b) (h0:xs=[x,y]) (h1:G2 y≠ .none) (h2:oj K H x t) (h3:T3 K t (G2 y)=YH b) (q:Q (.bl b) H):zQ K xs H Q
theorem aX:dU X (.builtin "isinstance") (zQ X.K):=by
 intro pins s B H xs us Q I r h;obtain⟨x,y,t,b,rfl,hy,ty,e,q⟩:=h;obtain⟨u,w',rfl,rx,ry⟩:=Y3 r;rw[Ez ry hy];exact DH I rx ty e λtk=>{.bl b,H,I.tok _,rfl,q}
theorem bB(ho:PE X o to)(ha:PA X [e] t)(ã:SV o "append" X.env (SD o X.env)=SD o X.env:=by rfl)
  (Œ:((SJ Ï (RV [e] X.env)).all (λx=>!x.1)&&(TM Ï (SR [] X.env)).all (λx=>x.1.isSome)
   &&decide ([e].length+([]:List Ue).length+(if([]:List Ue).isEmpty then 0 else 1)<30))=true:=by rfl)
  (â:(apos.endLine==Ï.line)=true:=by rfl) (hs:RV [e] X.env=(false,SD e X.env)::RV [] X.env:=by rfl) (ö:(SJ Ï (RV [] X.env)).any (·.1)=false:=by rfl) :
  PE X (.Call (.Attribute o "append" apos) [e] [] Ï) (tBM X.K "list" xn to t):=Gw Uv PySem.F.slot_list_append PySem.F.type_list_append wA ho ha ã Œ â hs ö
end
def Has(P:Program)(w:R5)(K:RS)(mg:Str->Option RI)(base:So)(k:Nat)(x:Str)(ps:List Str)(sp:Sp):Prop:=
 ∃f fd,j2 P w K mg base ŗ k f fd ps sp/\YO K fd ps []/\Tq K (.ref f)=true/\mg x=YH (.ref f)/\∃oc od ú,K.lookup f=YH ⟨oc,od,.func fd,ú⟩
structure a9(K:RS)(mg:Str->Option RI)(x:Str)(st:Si)(ps:List Str):Prop where
 ex:∃f fd,Fun K x x st f fd/\YO K fd ps []/\mg x=YH (.ref f)
theorem ak(D:Has X.prog X.w X.K X.mg X.base j x ps sp)(hr:dO k X.A)(ha:PA X (e::es) t)(hj:j<=k:=by decide)(hg:Gl X x:=by rfl)
  (Ď:(x==("__debug__":Str))=false:=by decide) (he:RV (e::es) X.env=(false,SD e X.env)::RV es X.env:=by rfl) (ò:(SJ pos (RV es X.env)).any (·.1)=false:=by rfl) :
  PE X (.Call (.Name x p) (e::es) [] pos) (vH sp [] E0 t):=by
 obtain⟨f,fd,F,b,kp,m,_⟩:=D
 exact Cz F (hr.mono hj) hg m kp b .nil wx ha Ď he ò
abbrev a9.Hz{K:RS}{mg:Str->Option RI}{x:Str}{st:Si}{ps:List Str}(_:a9 K mg x st ps)(P:Program)(w:R5)(base:So)(k:Nat)(sp:Sp):Prop:=L2.Has P w K mg base k x ps sp
theorem a9.hs{P w K mg base x st N ps k sp}(F:a9 K mg x st ps)(S:aE N ps (aq st))
  (í:∀f Ã A outer s H vs Q E,dO k (A.deeper (Ui x (aq st) s.heap.objs.size f Ã))->(A.deeper (Ui x (aq st) s.heap.objs.size f Ã)).units+64<TX->sp vs H Q E->
   ∃t,Ĳ (uX ŗ P w K mg base N x (aq st) f Ã A outer s H E).nox (bp st) t/\t { nx:=λ_ H'=>Q .Ë H',rt:=Q } (YT N vs) H) (len:∀vs H Q E,sp vs H Q E->vs.length=ps.length:=by intro _ _ _ _ h;cases h;subst_vars;rfl):Has P w K mg base (k+1) x ps sp:=by
 obtain⟨f,fd,F,b,m⟩:=F.ex
 obtain⟨oc,od,kV,doc,pm,an,Ã,ct,ú,e,lk,ņ⟩:=F.ex
 exact{f,fd,F.ok S len λÃ A outer s H vs Q E hr h=>í f Ã A outer s H vs Q E hr hr.units h,b,F.kp,m,oc,od,ú,lk}
theorem aj.upd(h:H p=YI) (o):aj H (upd H p o):=λb u q=>by rw[aL (fP q h)];exact q
theorem aj.tup{K H H' a xs}(e:aj H H')(h:È K H a xs):È K H' a xs:=by
 rcases h with(h|⟨o,h⟩)|h
 ·exact .inl (.inl (e _ _ h))
 ·exact .inl (.inr {o,e _ _ h})
 exact .inr h
noncomputable def Į(fr:List Nat)(B:St):St:=fr.map λj=>(B[j]?).getD YI
theorem zR{x:Nat->V}{tf:CB->TT}{te:CB->TE}{Q:VK}{B:St}{H1:Hp}(p:Nat->Bool)(f:Nat->V)(hn:n<sizeLine)
  (stop:∀H,aj H1 H->J.stop n H) (go:∀i H,i<n->aj H1 H->J.go i H) (Ř:∀i H v H',i<n->aj H1 H->J.Ř i H v H'->H'=H/\v=x i)
  (hf:∀b i H (R:Bool->Hp->Prop),i<n->aj H1 H->(∀H',aj H H'->R (p i) H')->tf b (YH (x i)::Į fr B) H R)
  (he:∀b i H (R:VK),i<n->p i=true->aj H1 H->(∀H',aj H H'->R (f i) H')->te b (YH (x i)::Į fr B) H R)
  (fin:∀D H,H1 D=YI->aj H1 H->H D=YH (.lst (((R8 n).filter p).map f))->Q (.ref D) H):qo J 1 fr (λ_=>pO 0) tf te Q B H1:=by
 refine⟨λb D hD=>?_⟩
 have lenf:∀i,(((R8 i).filter p).map f).length<=i:=λi=>by
  rw[OZ];exact Pf (Qd _ _) (QU Qi)
 refine{λi m B' H'=>m=n-i/\i<=n/\(∃v0,B'=v0::Į fr B)/\aj H1 H'/\H' D=YH (.lst (((R8 i).filter p).map f)),{n,rfl,Pd _,⟨YI,rfl⟩,aj.upd hD _,ao},?_}
 rintro i m B' H' ⟨rfl,hi,⟨v0,rfl⟩,sm,hl⟩
 by_cases Ý:i<n
 ·refine .inr {go i H' Ý sm,λσ2 H2=>(∃v0,σ2=v0::Į fr B)/\aj H1 H2/\H2 D=YH (.lst (((R8 (i+1)).filter p).map f)),λσ2 H2 q=>{n-(i+1),(),rfl,Ý,q},λv H2 y=>?_};obtain⟨rfl,rfl⟩:=Ř i H' v H2 Ý sm y;show tf b (YH (x i)::Į fr B) _ _;refine hf b i _ _ Ý sm λH3 s3=>?_;have e1:(R8 (i+1)).filter p=(R8 i).filter p++(if p i then[i]else[]):=by
   rw[Ry,P8];congr 1;cases hp:p i<;>simp[hp]
  cases hp:p i with
  |false=>
   rw[if_neg Pa];refine{{_,rfl},sm.trans s3,?_};rw[s3 _ _ hl,e1,hp];simp
  |true=>
   rw[if_pos rfl];refine he b i _ _ Ý hp (sm.trans s3) λH4 s4=>{_,s4 _ _ (s3 _ _ hl),?_,{_,rfl},?_,?_}
   ·exact Rm (lenf i) (Ru Ý hn)
   ·have sm4:aj H1 H4:=sm.trans (s3.trans s4);intro c o q;by_cases hc:c=D
    ·rw[hc,hD]at q;cases q
    rw[aL hc];exact sm4 c o q
   rw[ao,e1,hp];simp
 have e:i=n:=()
 subst e
 exact .inl ⟨stop H' sm,fin D H' hD sm hl⟩
theorem uy{lo n fr tf te Q B H1} (p f) (hn:n<sizeLine)
  (hf:∀b i H (R:Bool->Hp->Prop),i<n->aj H1 H->(∀H',aj H H'->R (p i) H')->tf b (YH (.int (lo+i))::Į fr B) H R)
  (he:∀b i H (R:VK),i<n->p i=true->aj H1 H->(∀H',aj H H'->R (f i) H')->te b (YH (.int (lo+i))::Į fr B) H R)
  (fin:∀D H,H1 D=YI->aj H1 H->H D=YH (.lst (((R8 n).filter p).map f))->Q (.ref D) H):qo (Itr lo n) 1 fr (λ_=>pO 0) tf te Q B H1:=
 zR (x:=λi=>.int (lo+i)) p f hn (λ_ _=>O4 _) (λ_ _ h _=>h) (λ_ _ _ _ _ _ y=>y) hf he fin
section
variable{X:Cx}
def Lq(K:RS):V->Option Int->Option Int->Hp->VK->Prop:=λx lo hi H Q=>KA K x lo hi H Q\/Mi K x lo hi H Q
theorem KO:SlR X (Lq X.K):=Ir.or Kv
end
theorem Gz{K:RS}{mg:Str->Option RI}{h:So}{x:Str}{st:Si}{ps:List Str}{f:RJ}{oc:RI}{od an:Option RJ}{ú:Array (Option RI)}{kV doc pm Ã ct:RI}(X:K.In h)(G:h.Ns R9 mg)
  (a:Ye K R9 x=YH (YH (.ref f))) (l:K.lookup f=YH {oc,od,.func (Te x x (bG st) (bp st) (aq st) .none kV doc pm an Ã ct),ú}) (c:UP K Ã x=true) (k:Tq K (.ref f)=true)
  (hb:∀(kV doc pm:RI)(an:Option RJ)(Ã ct:RI)(us:List RI),us.length=ps.length->bindArgs (Te x x (bG st) (bp st) (aq st) .none kV doc pm an Ã ct) {us,[]}=pure (ps.zip us)):a9 K mg x st ps:=
 {f,_,xK l c k,(xK l c k).binds hb,Wo X G a}
theorem Kr{P w K mg base k x ps sp f oc od ú fd}(D:Has P w K mg base k x ps sp)(m:mg x=YH (.ref f))
  (l:K.lookup f=YH ⟨oc,od,.func fd,ú⟩):j2 P w K mg base ŗ k f fd ps sp:=by
 obtain⟨g,gd,F,b,kp,mg',_,_,_,l'⟩:=id D
 rw[m]at mg'
 cases mg'
 rw[l]at l'
 cases l'
 exact F
section
variable{prog:Program}{w:R5}{A:Sq}{R:Result->RN->Prop}{I l:RJ}{Â:Array RI}{ns:List Int}{St:Nat->So->Prop}{fp wr:List RJ}{d:RI}
end
section
variable{X:Cx}
theorem J9:SlR X Om:=by
 intro pins s B H x v vl vu lo hi sl Q I rx hs pl pu h;obtain⟨z,rfl,hz,q⟩:=h;obtain⟨t,rfl⟩:=rx;have fin:∀t' k,EP X pins B Q (.str (Txt.slice z lo hi) t') { s with toks:=k }:=λt' k=>⟨.str _,H,I.tok _,⟨_,rfl⟩,q⟩;have len:=Pf (Txt.slice_le z lo hi) hz;obtain⟨o,ho,hc,hd⟩:=hs;refine{"str",_,PySem.F.slot_str_getitem.lookup,WU _ _ _,?_};cases pl with
 |none=>
  cases pu with
  |none=>exact TR (l:=TH) (u:=TH) (st:=TH) ⟨o,ho,hc,hd⟩ rfl (UU {len,λt' k=>fin t' k})
  |int j uj=>exact TR (l:=TH) (u:=YH (j,uj)) (st:=TH) ⟨o,ho,hc,hd⟩ rfl (UU {len,λt' k=>fin t' k})
 |int i ui=>
  cases pu with
  |none=>exact TR (l:=YH (i,ui)) (u:=TH) (st:=TH) ⟨o,ho,hc,hd⟩ rfl (UU {len,λt' k=>fin t' k})
  |int j uj=>exact TR (l:=YH (i,ui)) (u:=YH (j,uj)) (st:=TH) ⟨o,ho,hc,hd⟩ rfl (UU {len,λt' k=>fin t' k})
def fSl(K:RS):V->Option Int->Option Int->Hp->VK->Prop:=λx lo hi H Q=>match x with
 | .str z=>z.length<=sizeLine/\Q (.str (Txt.slice z lo hi)) H
 |x=>KA K x lo hi H Q\/Mi K x lo hi H Q
theorem A5:SlR X (fSl X.K):=by
 intro pins s B H x v vl vu lo hi sl Q I rx hs pl pu h;by_cases hx:∃z,x=.str z
 ·obtain⟨z,rfl⟩:=hx;exact J9 pins s B H _ v vl vu lo hi sl Q I rx hs pl pu ⟨z,rfl,h.1,h.2⟩
 refine KO pins s B H x v vl vu lo hi sl Q I rx hs pl pu ?_;cases x<;>first|exact h|exact absurd {_,rfl} hx
theorem Na(hc:X.calm=true:=by rfl):dU X (.builtin "max") (λxs H Q=>∃i j,xs=[.int i,.int j]/\Q (.int (if j>i then j else i)) H):=Dr hc
theorem xE(h:∃t,X.mg x=YH (.str z t))(hg:Gl X x:=by rfl)(hd:(x==("__debug__":Str))=false:=by decide):PE X (.Name x pos) (tC (.str z)):=by
 obtain⟨t,e⟩:=h;exact BY hg e ⟨t,rfl⟩ hd
end
noncomputable def EU(lo c:Int)(n:Nat):It:={λi _=>i<n,λi H x H'=>H'=H/\x=.int (lo+i*c),λi _=>n<=i}
noncomputable def ni(lo hi c:Int):Nat:=(SE lo hi c).toNat
theorem yp{P:Program}{w:R5}{K:Uc}{tg:Expr}(it:RJ)(lo c:Int)(n:Nat):Y2 P w K tg (EU lo c n) [it] it (λi h=>V5 h it (lo+(i:Nat)*c) ((n:Int)-(i:Nat)) c) where
 mem:=by simp
 obj:=λi h st b hb=>by
  have e:b=it:=by simpa using hb
  subst e;exact⟨_,st,λv z=>by
   have z':XI _=Wm v:=z;cases z'⟩
 keep:=λi h h' st k=>k it (by simp) _ st
 item:=by
  intro X hP hw hK hc i pins s B H E I hf st hg;subst hP hw hK;obtain⟨f0,f1,f2,f3,f4,f5⟩:=hf it (by simp);have W:=Walks.range (prog:=X.prog) (w:=X.w) (I.ok.hd hc) it lo c n;refine W.item i s _ _ hg st λv h' tk hv Å kk=>?_;obtain⟨t,rfl⟩:=hv;have I1:Inv X pins B H { s with heap:=h',toks:=tk }:=I.turned (λb o hb e=>kk b o (by simpa using hb) e) f0 f1 f3 f4 f5;exact⟨_,rfl,wg (s:={ s with heap:=h',toks:=tk }) (n:="range_iterator") Å rfl rfl ∅ ⟨.int (lo+i*c),H,I1,⟨t,rfl⟩,⟨rfl,rfl⟩,Å,λb hb=>(hf b hb).1⟩⟩
 done:=by
  intro X hP hw hK hc i pins s B H E I hf st hg;subst hP hw hK;obtain⟨f0,f1,f2,f3,f4,f5⟩:=hf it (by simp);exact VH (I.ok.hd hc) st (by have:n<=i:=hg;lia) λh' eb=>{rfl,I.turned (t':=s.toks) (λb o hb e=>eb b o hb e) f0 f1 f3 f4 f5}
 self:=λ_ _ _ _ _ st h=>VI st h
section
variable{X:Cx}{tg:Expr}
noncomputable def gM{α:Type}(xs:List α):List α:=(R8 ((xs.length+1)/2)).filterMap λm=>xs[m*2]?
theorem yv{α:Type}(xs:List α):(gM xs).length<=xs.length:=by
 unfold gM;refine Pf (Vn _ _) ?_;rw[Qi];lia
theorem YK.gM(r:YK xs us):YK (gM xs) (gM us):=by
 have hl:=r.length;unfold L2.gM;rw[hl];have gen:∀l:List Nat,YK (l.filterMap λm=>xs[m*2]?) (l.filterMap λm=>us[m*2]?):=by
  intro l;induction l with
  |nil=>exact .nil
  |cons m l ih=>
   rw[Qr,Qr];cases e:xs[m*2]? with
   |none=>rw[r.none_of e];exact ih
   |some x=>
    obtain⟨u,hu,ru⟩:=r.get e;rw[hu];exact .cons ru ih
 exact gen _
theorem IG(n:Nat):Sw 0 (n:Int) 2=(n+1)/2:=by
 unfold Sw;have h1:(2:Int)>0:=()
 simp only[h1,if_true];split<;>lia
theorem Nr(xs:Array RI):((R8 ((xs.size+1)/2)).filterMap λ(m:Nat)=>xs[((0:Int)+(m:Int)*2).toNat]?).toArray=(gM xs.toList).toArray:=by
 unfold gM;have e:(λ(m:Nat)=>xs[((0:Int)+(m:Int)*2).toNat]?)=λm=>xs.toList[m*2]?:=by
  funext m
  have:((0:Int)+(m:Int)*2).toNat=m*2:=()
  rw[this,Qc]
 rw[e,PH]
theorem EJ{prog w E}{Q:Int×Int×Nat->RN->Prop}(hs:s.heap.IsSliceOf sl .none .none (.int 2 t2))(h:Q (0,2,(n+1)/2) s) :
  wpAny (RY prog w) A (Tx (.ref sl) (pure (n:Int))) Q E s:=by
 obtain⟨os,ŧ,hcs,hds⟩:=id hs
 unfold Tx Vd
 refine E9 (E9 (UQ ŧ hds (x:=.none) rfl (E9 (UQ ŧ hds (x:=.none) rfl (E9 (UQ ŧ hds (x:=.int 2 t2) rfl (RK ?_)))))))
 refine E9 (slicePart_int ?_)
 show wpAny _ _ (if((2:Int)==0)=true then _ else _) _ _ s
 rw[if_neg ∅]
 refine E9 (U8 (E9 (U8 (E9 (RK ?_)))))
 show wpAny _ _ (pure ((0:Int),(2:Int),Sw 0 (n:Int) 2)) _ _ s
 rw[IG]
 exact RK h
theorem pq(ht:IsTup s.heap t items)(hs:s.heap.IsSliceOf sl .none .none (.int 2 t2))
  (h:Q (.ref s.heap.objs.size) { s with heap:=s.heap.push { cls:=.type "tuple",data:=.seq (gM items.toList).toArray } }) (hsz:items.size<=sizeLine):wpAny (RY prog w) A (Vj (.ref t) (.ref sl)) Q E s:=by
 have þ:sizeOk (.seq (gM items.toList).toArray):=by
  show(gM items.toList).toArray.size<=sizeLine;rw[Pp];exact Pf (yv _) (by rw[PH];exact hsz)
 obtain⟨os,ŧ,hcs,hds⟩:=id hs
 have hTs:s.TypeIs (.ref sl) "slice":=⟨os,ŧ,hcs⟩
 unfold Vj
 try with_reducible refine wpAny_holding ?_
 first|refine E9 (RK ?_)|skip
 refine E9 (Xh ht.typeIs ∅ ?_)
 refine E9 (TQ (name:=Ug "__getitem__") ht.typeIs S8
  (SS S8 ht.typeIs Wu ?_ (WS _ _)))
 show wpAny _ _ (U9 (.ref t)>>=_) _ _ s
 refine E9 (tupleItemsOf_ ht ?_)
 refine E9 (Uw hTs ?_)
 rw[if_pos ∅]
 refine E9 (EJ hs ?_)
 show wpAny _ _ (if((0:Int)==0&&(2:Int)==1&&((items.size+1)/2)==items.size)=true then _ else _) _ _ s
 rw[if_neg (by simp),Nr]
 first
  |exact E9 (m:=Ss _) (Sk (RK {_,rfl,RK h}) þ)
  |exact E9 (m:=Ss _) (Sk (E9 (RK (RK {_,rfl,RK h}))) þ)
  |exact E9 (E9 (m:=Ss _) (Sk (RK (RK {_,rfl,RK h})) þ))
  |exact E9 (E9 (m:=Ss _) (Sk (RK {_,rfl,RK h}) þ))
noncomputable def Kl(K:RS)(te:TE):TE:=λB H Q=>te B H λx H1=>∃a xs,x=.ref a/\È K H1 a xs/\∀p,H1 p=YI->Q (.ref p) (upd H1 p (.tup (gM xs)))
theorem EL(he:PE X e te):PE X (.Subscript e (.Slice YI YI (YH (.Constant (.int 2) j p3)) p2) pos) (Kl X.K te):=by
 intro pins s B H Q I h;refine X6 (Ì (he pins s B H _ I h) λv s1 z9=>?_);obtain⟨x,H1,I1,r1,a,xs,ex,hx,q⟩:=z9;subst ex;cases r1;refine wpAny_Slice ?_;rw[WA];refine RK ?_;refine RK ?_;rw[evalPart_some];refine WL ?_;obtain⟨Â,r,ht,hz⟩:=I1.tuple hx;have hlen:Â.toArray.size=xs.length:=by rw[Pp];exact r.length.symm
 have I4:Inv X pins B H1 { s1 with heap:=s1.heap.push { cls:=.type "slice",data:=.fields #[.none,.none,.int 2 s1.toks] },toks:=s1.toks+1 }:=I1.kept λb ob q=>RL _ q;have ht4:IsTup (s1.heap.push { cls:=.type "slice",data:=.fields #[.none,.none,.int 2 s1.toks] }) a Â.toArray:=by
  obtain⟨o,e,r⟩:=ht;exact{o,RL _ e,r}
 refine tail_any (ops:=[.ref a,.ref s1.heap.objs.size]) (s:={ s1 with heap:=s1.heap.push { cls:=.type "slice",data:=.fields #[.none,.none,.int 2 s1.toks] },toks:=s1.toks+1 }) ht4.typeIs PyProof.Rows.slot_tuple_getitem.lookup (pq ht4 (WT ..) ?_ (by rw[hlen];exact hz)) (by with_unfolding_all rfl);refine{.ref _,_,I4.laid (t':=s1.toks+1) (o:=.tup (gM xs)) (λb ob q=>RL _ q) (O4 _) ?_,rfl,q _ (I4.Æ.fresh (O4 _))};exact{Pf (yv xs) hz,_,r.gM,IsTup.new _ _}
theorem bF(h:X.mg x=YH (.ref a))(hg:Gl X x:=by rfl)(hd:(x==("__debug__":Str))=false:=by decide):PE X (.Name x pos) (tC (.ref a)):=BY hg h rfl hd
end
theorem AQ{lo c:Int}{n:Nat}{g:TG}{tb:TS}{D:Y1}{B:St}{H:Hp}(Pv:Nat->St->Hp->Prop)(h0:Pv 0 B H)
  (hs:∀i B H,i<n->Pv i B H->g (.int (lo+i*c)) B H λσ2 H2=>tb { D with nx:=Pv (i+1),ct:=Pv (i+1),bk:=D.nx } σ2 H2) (hd:∀B H,Pv n B H->D.nx B H) :
  ∃W:Nat->Nat->St->Hp->Prop,(∃m,W 0 m B H)/\∀i m B H,W i m B H->
   ((EU lo c n).stop i H/\D.nx B H)\/((EU lo c n).go i H/\∃N,(∀B' H',N B' H'->∃m',m'<m/\W (i+1) m' B' H')/\∀x H',(EU lo c n).Ř i H x H'->g x B H' λσ2 H2=>tb { D with nx:=N,ct:=N,bk:=D.nx } σ2 H2):=by
 refine{λi m B H=>m=n-i/\i<=n/\Pv i B H,{n,by simp,Pd _,h0},?_}
 rintro i m B H ⟨rfl,hi,p⟩
 by_cases Ý:i<n
 ·refine .inr {Ý,Pv (i+1),λB' H' p'=>{n-(i+1),(),rfl,Ý,p'},λx H' y=>?_};obtain⟨e,y⟩:=y;subst e y;exact hs i B _ Ý p
 have e:i=n:=()
 subst e
 exact .inl {O4 _,hd B H p}
theorem uI{J:It}{n:Nat}{x:Nat->V}{fr:List Nat}{te:CB->TE}{Q:VK}{B:St}{H1:Hp}(R:Nat->V->Hp->Prop)(hn:n<sizeLine)
  (stop:∀H,aj H1 H->J.stop n H) (go:∀i H,i<n->aj H1 H->J.go i H) (Ř:∀i H v H',i<n->aj H1 H->J.Ř i H v H'->H'=H/\v=x i)
  (he:∀b i H (G:VK),i<n->aj H1 H->(∀y H',aj H H'->R i y H'->G y H')->te b (YH (x i)::Į fr B) H G)
  (mono:∀i y H H',aj H H'->R i y H->R i y H') (st:∀i y H D ys zs,H D=YH (.lst ys)->R i y H->R i y (upd H D (.lst zs)))
  (fin:∀D H ys,H1 D=YI->aj H1 H->H D=YH (.lst ys)->ys.length=n->(∀(i:Nat) y,ys[i]?=YH y->R i y H)->Q (.ref D) H):qo J 1 fr (λ_=>pO 0) (λ_=>NJ) te Q B H1:=by
 refine⟨λb D hD=>?_⟩
 refine{λi m B' H'=>m=n-i/\i<=n/\(∃v0,B'=v0::Į fr B)/\aj H1 H'/\∃ys,H' D=YH (.lst ys)/\ys.length=i/\∀(j:Nat) y,ys[j]?=YH y->R j y H',{n,rfl,Pd _,⟨YI,rfl⟩,aj.upd hD _,[],ao,rfl,λj y h=>by cases h},?_}
 rintro i m B' H' ⟨rfl,hi,⟨v0,rfl⟩,sm,ys,hl,hy,hR⟩
 by_cases Ý:i<n
 ·refine .inr {go i H' Ý sm,λσ2 H2=>(∃v0,σ2=v0::Į fr B)/\aj H1 H2/\∃ys,H2 D=YH (.lst ys)/\ys.length=i+1/\∀(j:Nat) y,ys[j]?=YH y->R j y H2,λσ2 H2 q=>{n-(i+1),(),rfl,Ý,q},λv H2 y=>?_};obtain⟨rfl,rfl⟩:=Ř i H' v H2 Ý sm y;refine he b i _ _ Ý sm λz H4 s4 rz=>{ys,s4 _ _ hl,(),{_,rfl},?_,ys++[z],ao,by simp[hy],λj y' hj=>?_}
  ·intro c o q;by_cases hc:c=D
   ·rw[hc,hD]at q;cases q
   rw[aL hc];exact(sm.trans s4) c o q
  have hD4:=s4 _ _ hl;by_cases hji:j<ys.length
  ·rw[PY hji]at hj;exact st _ _ _ _ _ _ hD4 (mono _ _ _ _ s4 (hR j y' hj))
  by_cases e:j=ys.length
  ·subst e;rw[PU (O4 _)]at hj;simp at hj;subst hj;rw[hy];exact st _ _ _ _ _ _ hD4 rz
  rw[Qe (by simp;lia)]at hj;cases hj
 have e:i=n:=()
 subst e
 exact .inl ⟨stop H' sm,fin D H' ys hD sm hl hy hR⟩
section
variable{P:Program}{w:R5}{K:RS}{mg:Str->Option RI}{base:So}
structure ć(K:RS)(C:RJ)(m qual:Str)(st:Si)(ps:List Str):Prop where
 ex:∃f fd,Fun K m qual st f fd/\YO K fd ps []/\Y4 K C m f
def yM(P:Program)(w:R5)(K:RS)(mg:Str->Option RI)(base:So)(k:Nat)(C:RJ)(m:Str)(ps:List Str)(sp:Sp):Prop:=
 ∃f fd,j2 P w K mg base ŗ k f fd ps sp/\YO K fd ps []/\Y4 K C m f
abbrev ć.Hz{C:RJ}{m qual:Str}{st:Si}{ps:List Str}(_:ć K C m qual st ps)(P:Program)(w:R5)(mg:Str->Option RI)(base:So)(k:Nat)(sp:Sp):Prop:=yM P w K mg base k C m ps sp
theorem ć.hs{C m qual st N ps k sp}(F:ć K C m qual st ps)(S:aE N ps (aq st))
  (í:∀f Ã A outer s H vs Q E,dO k (A.deeper (Ui qual (aq st) s.heap.objs.size f Ã))->(A.deeper (Ui qual (aq st) s.heap.objs.size f Ã)).units+64<TX->sp vs H Q E->
   ∃t,Ĳ (uX ŗ P w K mg base N qual (aq st) f Ã A outer s H E).nox (bp st) t/\t { nx:=λ_ H'=>Q .Ë H',rt:=Q } (YT N vs) H) (len:∀vs H Q E,sp vs H Q E->vs.length=ps.length:=by intro _ _ _ _ h;cases h;subst_vars;rfl):yM P w K mg base (k+1) C m ps sp:=by
 obtain⟨f,fd,F,b,m⟩:=F.ex
 exact{f,fd,F.ok S len λÃ A outer s H vs Q E hr h=>í f Ã A outer s H vs Q E hr hr.units h,b,m}
theorem Has.mono(D:Has P w K mg base j x ps sp)(h:j<=k):Has P w K mg base k x ps sp:=by
 obtain⟨f,fd,F,b⟩:=D;exact⟨f,fd,F.mono h,b⟩
structure fB(K:RS)(mg:Str->Option RI)(C:RJ)(x:Str)(up:List RJ):Prop where
 mg:mg x=YH (.ref C)
 cl:ō K C
 mro:∃cd,W.clsIn K C=YH cd/\cd.mro=up.map Sd++[Tj "object"]
 ty:W.typeIn K (.ref C)=YH (.type "type")
 kc:S9 K (.ref C) "__class__"=YH (YH (.builtin "object.__class__"))
 cg:Ut K (.builtin "object.__class__") "__get__"=YH (YH (.builtin "getset_descriptor.__get__"))
 ct:Xv K (.builtin "object.__class__")=YH true
 mks:Xu K C=true
 kp:Tq K (.ref C)=true
variable{C D:RJ}{x y:Str}{up vp:List RJ}
theorem fB.sub(O:fB K mg C x up) (b):YE K C b=YH ((up.map Sd++[Tj "object"]).contains b):=by
 obtain⟨cd,h1,h2⟩:=O.mro;unfold YE;rw[h1];show(if cd.mro.isEmpty=true then YI else YH (cd.mro.contains b))=_;rw[h2,if_neg (by cases up<;>simp)]
theorem va(up:List RJ)(D:RJ):(up.map Sd++[Tj "object"]).contains (Sd D)=decide (D∈up):=by
 induction up with
 |nil=>rfl
 |cons a r ih=>
  show((Sd D==Sd a)||(r.map Sd++[Tj "object"]).contains (Sd D))=_;rw[ih];by_cases h:D=a
  ·subst h;simp
  have:(Sd D==Sd a)=false:=by
   rw[QQ];intro z;exact h (Value.ref.inj (beq_iff_eq.mp z))
  rw[this,Ro];simp[h]
theorem fB.kit(O:fB K mg C x up)(U0z:fB K mg D y vp)(hs:C∈up):T3 K (.ref C) (.ref D)=YH (decide (D∈up)):=by
 unfold T3;split
 ·rename_i q;have:C=D:=Value.ref.inj (beq_iff_eq.mp q);rw[<-this,decide_eq_true hs]
 obtain⟨cd,h1,_⟩:=U0z.mro;unfold W.kitCls;dsimp only;rw[h1,U0z.ty];rw[if_pos (by rfl)];show YE K C (.ref D)=_;rw[O.sub,va]
theorem fB.NL(O:fB K mg C x up)(e:H a=YH (.ins C dx fs)):oj K H (.ref a) (.ref C):=
 .ins e O.cl O.kc O.cg O.ct ((O.sub _).trans (by simp))
end
section
variable{X:Cx}{k j:Nat}{C:RJ}{x m:Str}{ps:List Str}{sp:Sp}{o e:Expr}{es:List Expr}{ta:TE}{t:TA}{p apos pos:Pos}{up:List RJ}
theorem bZ(O:fB X.K X.mg C x up)(D:yM X.prog X.w X.K X.mg X.base j C "__init__" ps sp)(hr:dO k X.A)(ha:PA X (e::es) t)(hj:j+1<=k:=by decide)(hg:Gl X x:=by rfl)(Ď:(x==("__debug__":Str))=false:=by decide)
  (he:RV (e::es) X.env=(false,SD e X.env)::RV es X.env:=by rfl) (ò:(SJ pos (RV es X.env)).any (·.1)=false:=by rfl):PE X (.Call (.Name x p) (e::es) [] pos) (JH C sp [] E0 t):=by
 obtain⟨f,fd,F,b,m⟩:=D
 exact Hw ⟨O.mks,m.at_,m.fn,O.kp⟩ F (hr.mono hj) hg O.mg b .nil wx ha Ď he ò
noncomputable def Lg(M:RJ->Sp->Prop)(m:Str)(ta:TE)(t:TA):TE:=λB H Q=>ta B H λx H1=>∃a C dx fs sp,x=.ref a/\H1 a=YH (.ins C dx fs)/\fs.lookup m=YI/\M C sp/\t B H1 λvs H2=>sp (x::vs) H2 Q E0
theorem qD(he:PE X o ta)(hM:∀C sp,M C sp->ō X.K C/\∃ps,yM X.prog X.w X.K X.mg X.base j C m ps sp)(hr:dO k X.A)(hj:j<=k:=by decide)
  (ht:SD (.Call (.Attribute o m apos) [] [] pos) X.env=(do
   let ov<-SD o X.env
   Xc apos.atName
   let (f,first)<-UY [ov] (Xs ov m pl)
   callWith pos f first (SJ pos (RV [] X.env)) (TM pos (SR [] X.env))):=by rfl) :
  PE X (.Call (.Attribute o m apos) [] [] pos) (Lg M m ta DZ):=by
 intro pins s B H Q I h
 refine W.methodCall_KW (pl:=pl) (Ì (he pins s B H _ I h) λu s1 ⟨x,H1,I1,rx,a,C,dx,fs,sp,ex,ea,l,hm,q⟩=>?_) ht
 obtain⟨c,ps,f,fd,F,b,hm⟩:=hM C sp hm
 subst ex
 obtain rfl:u=Sd a:=rx
 refine zX I1 ea c hm l ?_
 exact W.callWith_K0 (first:=[.ref a]) I1.ý hm.kp (AH (us:=[.ref a]) (vs:=[.ref a]) (dvs:=[]) F (hr.mono hj) b .nil wx I1 (.cons rfl .nil) q)
structure OfC(K:RS)(C:RJ)(m:Str):Prop where
 ga:Ut K (.ref C) "__getattribute__"=YH (YH (.builtin "type.__getattribute__"))
 rd:W.readsIn K C (.type "type")=true
 fc:∃f,S9 K (.ref C) m=YH (YH (.ref f))/\W.findCls K (.ref C) (.type "type") m=YH (.val (.ref f))
theorem cI(O:fB X.K X.mg C x up)(W:OfC X.K C m)(D:yM X.prog X.w X.K X.mg X.base j C m ps sp)(hr:dO k X.A)(ha:PA X (e::es) t)(hj:j<=k:=by decide)(hg:Gl X x:=by rfl)(Ď:(x==("__debug__":Str))=false:=by decide)
  (hst:RV (e::es) X.env=(false,SD e X.env)::RV es X.env:=by rfl) (ò:(SJ pos (RV es X.env)).any (·.1)=false:=by rfl)
  (ht:SD (.Call (.Attribute (.Name x p) m apos) (e::es) [] pos) X.env=(do
   let ov<-SD (.Name x p) X.env
   Xc apos.atName
   let (f,first)<-UY [ov] (Xs ov m pl)
   callWith pos f first (SJ pos (RV (e::es) X.env)) (TM pos (SR [] X.env))):=by rfl) :
  PE X (.Call (.Attribute (.Name x p) m apos) (e::es) [] pos) (vH sp [] E0 t):=by
 obtain⟨f,fd,F,b,hm⟩:=D
 intro pins s B H Q I h
 refine PySem.W.methodCall_KW (pl:=pl) (pU I hg O.mg ?_ Ď) ht
 obtain⟨f',h1,h2⟩:=W.fc
 have ef:f=f':=by
  have:=hm.at_.symm.trans h1;cases this;rfl
 subst ef
 refine PySem.W.method_cls I.ý W.ga (PySem.W.cls_value I.ý W.rd h2 rfl ?_)
 refine PySem.W.callWith_K (h₀:=X.base) I.ok.mod.á hm.kp (Ì (ha pos pins _ B H _ (I.tok _) h) λus s2 ⟨vs,H2,I2,r,q2⟩=>{I2.ý,?_}) hst ò
 exact AH (us:=us) (vs:=vs) F (hr.mono hj) b .nil wx I2 r q2
end
theorem K4{K:RS}{C:RJ}{m qual:Str}{st:Si}{ps:List Str}{f:RJ}{oc:RI}{od an:Option RJ}{ú:Array (Option RI)}{kV doc pm Ã ct:RI}
  (a:S9 K (.ref C) m=YH (YH (.ref f))) (fn:YD K (.ref f)=true) (l:K.lookup f=YH {oc,od,.func (Te m qual (bG st) (bp st) (aq st) .none kV doc pm an Ã ct),ú}) (c:UP K Ã qual=true) (k:Tq K (.ref f)=true)
  (hb:∀(kV doc pm:RI)(an:Option RJ)(Ã ct:RI)(us:List RI),us.length=ps.length->bindArgs (Te m qual (bG st) (bp st) (aq st) .none kV doc pm an Ã ct) {us,[]}=pure (ps.zip us)):ć K C m qual st ps:=
 {f,_,xK l c k,(xK l c k).binds hb,⟨a,fn,k⟩}
end L2
namespace L2
open PySem
end L2
namespace L2
open PySem PySem.Spec PyProof.Rows
section
variable{X:Cx}
noncomputable def wb:V->Bool
 | .flt _=>false
 | .Ļ _=>false
 |_=>true
theorem qp(hx:wb x=true)(ru:YM x u)(rv:YM x v) (A s):VN A s u v true:=by
 cases x with
 |Ë=>cases ru;cases rv;exact .same _
 |bl b=>cases ru;cases rv;exact .same _
 |int i=>
  obtain⟨t,rfl⟩:=ru;obtain⟨t',rfl⟩:=rv;have:=WV (A:=A) (s:=s) i t i t';rwa [beq_self_eq_true]at this
 |str y=>
  obtain⟨t,rfl⟩:=ru;obtain⟨t',rfl⟩:=rv;have:=WW (A:=A) (s:=s) y t y t';rwa [beq_self_eq_true]at this
 |Ļ _=>cases hx
 |flt _=>cases hx
 |ref a=>cases ru;cases rv;exact .same _
 |ty n=>cases ru;cases rv;exact .same _
theorem NG(hu:X.A.units+64<TX):Ó X (Sf .Eq) (λx y H Q=>∃p q xs,x=.ref p/\y=.ref q/\À X.K H p xs/\À X.K H q xs/\xs.all wb=true/\Q (.bl true) H):=by
 intro pins s B H x y v u Q I rx ry h;obtain⟨p,q,xs,rfl,rfl,hp,hq,hf,k⟩:=h;cases rx;cases ry;obtain⟨Â,r1,⟨o,n,e1,c1,_,d1⟩,_⟩:=I.list hp;obtain⟨jts,r2,⟨o2,n2,e2,c2,_,d2⟩,_⟩:=I.list hq;have l1:=r1.length;have l2:=r2.length;refine SeqAt.eq_listAt (e:=λ_=>true) ⟨o,e1,c1,n,d1⟩ ⟨o2,e2,c2,n2,d2⟩ (by simp;lia) () (λj h1 h2=>?_) ?_
 ·simp at h1 h2;obtain⟨x,hx⟩:∃x,xs[j]?=YH x:={xs[j]'(()),O7 ()};obtain⟨u1,g1,w1⟩:=r1.get hx;obtain⟨u2,g2,w2⟩:=r2.get hx;have z1:Â.toArray[j]'(by simpa using h1)=u1:=by
   have:=O7 h1;rw[g1]at this;simpa using (R6 this).symm
  have z2:jts.toArray[j]'(by simpa using h2)=u2:=by
   have:=O7 h2;rw[g2]at this;simpa using (R6 this).symm
  rw[z1,z2];exact qp (QW.mp hf x (Pj hx)) w1 w2 _ _
 have:((R8 Â.toArray.size).all λ_=>true)=true:=by simp
 rw[this];exact⟨.bl true,H,I,rfl,k⟩
noncomputable def Oj(K:RS):R2:=λx y H Q=>match x,y with
 | .ref p,.ref q=>(∃d e,lQ K H (.ref p) d/\lQ K H (.ref q) e/\Td d=true/\Td e=true/\Q (.bl (WZ d e)) H)\/(∃xs,À K H p xs/\À K H q xs/\xs.all wb=true/\Q (.bl true) H)
 |x,y=>Dz x y=true/\Q (.bl (decide (x=y))) H
theorem M5(hu:X.A.units+64<TX):Ó X (Sf .Eq) (Oj X.K):=((OD hu).or (NG hu)).imp λx y H Q q=>by
 by_cases hr:∃p q,x=V.ref p/\y=V.ref q
 ·obtain⟨p,q',rfl,rfl⟩:=hr;rcases q with q|⟨xs,h1,h2,h3,h4⟩
  ·exact .inl q
  exact .inr ⟨p,q',xs,rfl,rfl,h1,h2,h3,h4⟩
 refine .inl ?_;cases x<;>cases y<;>first|exact q|exact absurd {_,_,rfl,rfl} hr
theorem wN:dU X (.type "int") (λxs H Q=>∃b,xs=[.bl b]/\Q (.int (if b=true then 1 else 0)) H):=by
 intro pins s B H xs us Q I r h;obtain⟨b,rfl,q⟩:=h;obtain⟨u,rfl,rfl⟩:=YW r;exact PySem.call_int_bool {.int _,H,I.tok _,{_,rfl},q}
end
section
variable{κ:Type}[DecidableEq κ]
noncomputable def cf(kvs:List (κ×V))(k:κ):Option V:=(kvs.find? λkv=>decide (kv.1=k)).map (·.2)
noncomputable def YQ(kvs:List (κ×V))(k:κ)(v:V):List (κ×V):=
 if(kvs.any λkv=>decide (kv.1=k))=true then kvs.map (λkv=>if kv.1=k then(kv.1,v)else kv)else kvs++[(k,v)]
theorem cR{p:κ×V}{r}{k:κ}(e:p.1=k):cf (p::r) k=YH p.2:=by simp[cf,Qf,e]
theorem cK{p:κ×V}{r}{k:κ}(e:¬ p.1=k):cf (p::r) k=cf r k:=by simp[cf,Qf,e]
theorem i7(k:κ):∀kvs,(kvs.any λkv=>decide (kv.1=k))=(cf kvs k).isSome
 | []=>rfl
 |p::r=>by
  rw[Rc];by_cases e:p.1=k
  ·simp only[cR e,decide_eq_true e,Bool.true_or,WX]
  rw[cK e,decide_eq_false e,Ro];exact i7 k r
theorem yu(k j:κ) (y):∀kvs,cf (kvs.map λkv=>if kv.1=k then(kv.1,y)else kv) j=(cf kvs j).map λx=>if j=k then y else x
 | []=>rfl
 |p::r=>by
  have ih:=yu k j y r;rw[Pm];by_cases h:p.1=k
  ·rw[if_pos h];by_cases e:p.1=j
   ·rw[cR (p:=(p.1,y)) e,cR e,Qq,if_pos (e.symm.trans h)]
   rw[cK (p:=(p.1,y)) e,cK e,ih]
  rw[if_neg h];by_cases e:p.1=j
  ·rw[cR (p:=p) e,cR e,Qq,if_neg (λz=>h (e.trans z))]
  rw[cK (p:=p) e,cK e,ih]
theorem vS(k j:κ) (y):∀kvs,cf kvs k=YI->cf (kvs++[(k,y)]) j=if j=k then YH y else cf kvs j
 | [],_=>by
  by_cases e:k=j
  ·rw[if_pos e.symm];exact cR (p:=(k,y)) e
  rw[if_neg (λz=>e z.symm)];exact cK (p:=(k,y)) e
 |p::r,hn=>by
  rw[PZ];have hk:¬ p.1=k:=λz=>by rw[cR z]at hn;cases hn
  rw[cK hk]at hn;have ih:=vS k j y r hn;by_cases e:p.1=j
  ·rw[cR e,cR e,if_neg (λz=>hk (e.trans z))]
  rw[cK e,cK e,ih]
theorem uG (kvs) (k j:κ) (y):cf (YQ kvs k y) j=if j=k then YH y else cf kvs j:=by
 unfold YQ;by_cases a:(kvs.any λkv=>decide (kv.1=k))=true
 ·rw[if_pos a,yu];rw[i7]at a;by_cases e:j=k
  ·obtain⟨x,hx⟩:=Qy.mp a;rw[if_pos e,e,hx,Qq,if_pos rfl]
  rw[if_neg e];cases cf kvs j with
  |none=>rfl
  |some x=>rw[Qq,if_neg e]
 rw[if_neg a];refine vS k j y kvs ?_;rw[i7]at a;cases q:cf kvs k with
 |none=>rfl
 |some x=>rw[q]at a;exact(a rfl).elim
theorem jd (kvs) (k:κ) (v):(YQ kvs k v).length<=kvs.length+1:=by
 unfold YQ;split
 ·rw[OZ];lia
 rw[OX,O6,P2];lia
theorem uf{kvs}{k:κ} (v) (h:cf kvs k=YI):YQ kvs k v=kvs++[(k,v)]:=by
 unfold YQ;rw[i7,h];exact if_neg ∅
theorem nQ.kg(r:nQ o u):o.isSome=u.isSome:=by
 cases o with
 |none=>cases u with
  |none=>rfl
  |some _=>exact(show False from r).elim
 |some _=>cases u with
  |none=>exact(show False from r).elim
  |some _=>rfl
theorem KV.val(r:KV kvs vs)(k:κ):nQ (cf kvs k) (valueAt vs k):=by
 unfold KV at r;induction r with
 |nil=>exact Qg
 |@cons p q ps qs h t ih=>
  obtain⟨h1,h2⟩:=h;by_cases e:p.1=k
  ·have e':q.1=k:=h1.symm.trans e;have b:valueAt (q::qs) k=YH q.2:=by simp[valueAt,Qf,e']
   rw[cR e,b];exact h2
  have e':¬ q.1=k:=λz=>e (h1.trans z);have b:valueAt (q::qs) k=valueAt qs k:=by simp[valueAt,Qf,e']
  rw[cK e,b];exact ih
theorem KV.any(r:KV kvs vs)(k:κ):(kvs.any λkv=>decide (kv.1=k))=vs.any λkv=>decide (kv.1=k):=by
 unfold KV at r;induction r with
 |nil=>rfl
 |cons h t ih=>rw[Rc,Rc,ih,h.1]
theorem KV.LQ(r:KV kvs vs)(k:κ)(ry:YM y u) :
  KV (kvs.map λkv=>if kv.1=k then(kv.1,y)else kv) (vs.map λkv=>if kv.1=k then(kv.1,u)else kv):=by
 unfold KV at r⊢
 induction r with
 |nil=>exact .nil
 |@cons p q ps qs h t ih=>
  rw[Pm,Pm]
  refine .cons ?_ ih
  obtain⟨h1,h2⟩:=h
  by_cases e:p.1=k
  ·rw[if_pos e,if_pos (h1.symm.trans e)];exact⟨h1,ry⟩
  rw[if_neg e,if_neg (λz=>e (h1.trans z))];exact⟨h1,h2⟩
theorem KV.put(r:KV kvs vs)(k:κ)(ry:YM y u):KV (YQ kvs k y) (stored vs k u):=by
 unfold YQ stored;rw[r.any k];by_cases e:(vs.any λkv=>decide (kv.1=k))=true
 ·rw[if_pos e,if_pos e];exact r.LQ k ry
 rw[if_neg e,if_neg e];exact Paired.snoc r ⟨rfl,ry⟩
theorem KV.keys{kvs:List (κ×V)}{vs:List (κ×RI)}(r:KV kvs vs):kvs.map (·.1)=vs.map (·.1):=by
 unfold KV at r;induction r with
 |nil=>rfl
 |cons h t ih=>rw[Pm,Pm,ih,h.1]
theorem KV.length(r:KV kvs vs):kvs.length=vs.length:=RT r
end
theorem uB(r:YM (kV k) u):(bN P w).is k u=true:=by
 cases k with
 |inl i=>obtain⟨t,e⟩:=(show ∃t,u=TL i t from r);subst e;exact zt P w i t
 |inr x=>obtain⟨t,e⟩:=(show ∃t,u=Wj x t from r);subst e;exact ym P w x t
theorem vt:∀{ks:List Key}{us:List RI},YK (ks.map kV) us->ItemsAre (bN P w) ks us
 | [],_,r=>by rw[RG]at r;cases r;exact .nil
 |k::ks,_,r=>by
  rw[Pm]at r;cases r with
  |cons h t=>exact .cons (uB h) (vt t)
abbrev KT(H:Hp):List (List Key×V)->List (List Key×RJ×RI)->Prop:=Paired λp q=>p.1=q.1/\H q.2.1=YH (.tup (p.1.map kV))/\YM p.2 q.2.2
theorem KT.val(r:KT H kvs xs) (k):nQ (cf kvs k) ((XN xs k).map (·.2)):=by
 induction r with
 |nil=>exact Qg
 |@cons p q ps qs h t ih=>
  obtain⟨h1,_,h2⟩:=h;by_cases e:p.1=k
  ·have e':q.1=k:=h1.symm.trans e;have b:XN (q::qs) k=YH q.2:=by simp[XN,Qf,e']
   rw[cR e,b];exact h2
  have e':¬ q.1=k:=λz=>e (h1.trans z);have b:XN (q::qs) k=XN qs k:=by simp[XN,Qf,e']
  rw[cK e,b];exact ih
theorem KT.LQ(r:KT H kvs xs) (k) (ry:YM y u) :
  KT H (kvs.map λkv=>if kv.1=k then(kv.1,y)else kv) (xs.map (putAt k u)):=by
 induction r with
 |nil=>exact .nil
 |@cons p q ps qs h t ih=>
  rw[Pm,Pm]
  refine .cons ?_ ih
  obtain⟨h1,h2,h3⟩:=h
  unfold putAt
  by_cases e:p.1=k
  ·rw[if_pos e,if_pos (h1.symm.trans e)];exact⟨h1,h2,ry⟩
  rw[if_neg e,if_neg (λz=>e (h1.trans z))];exact⟨h1,h2,h3⟩
theorem KT.put(r:KT H kvs xs)(k:List Key)(hb:H b=YH (.tup (k.map kV)))(ry:YM y u) :
  KT H (YQ kvs k y) (storedH xs k b u):=by
 have e:(kvs.any λkv=>decide (kv.1=k))=(XN xs k).isSome:=by
  rw[i7,(r.val k).kg,Rq]
 unfold YQ storedH
 rw[e]
 by_cases q:(XN xs k).isSome=true
 ·rw[if_pos q,if_pos q];exact r.LQ k ry
 rw[if_neg q,if_neg q];exact Paired.snoc r ⟨rfl,hb,ry⟩
theorem KT.keeps(r:KT H kvs xs)(ht:∀b ys,H b=YH (.tup ys)->H' b=YH (.tup ys)):KT H' kvs xs:=
 Paired.vb r λ_ _ z=>{z.1,ht _ _ z.2.1,z.2.2}
section
variable{P:Program}{w:R5}{H:Hp}{h:So}{a:RJ}
theorem JR(ok:ü P w H h)(e:Rd H a u):cL P w H h a u:=e.ok ok
theorem nY(ok:ü P w H h)(e:Rd H a (.dK kvs)):kvs.length<=sizeLine/\(a==Tn)=false/\∃vs,KV kvs vs/\h.DictOf (bN P w) a vs:=
 show cL P w H h a (.dK kvs)from JR ok e
theorem zr(ok:ü P w H h)(e:H a=YH (.dK kvs)):kvs.length<=sizeLine/\(a==Tn)=false/\∃vs,KV kvs vs/\h.DictOf (bN P w) a vs:=nY ok (.inl e)
theorem uq(ok:ü P w H h)(e:H a=YH (.tup (ks.map kV))):(Wk (bN P w)).is h ks a:=by
 obtain⟨_,Â,r,o,h1,h2,n,h3⟩:=(show cL P w H h a (.tup (ks.map kV))from ok a _ e);exact⟨o,Â.toArray,n,h1,h2,h3,by simpa using vt r⟩
theorem yW(ok:ü P w H h)(e:Rd H a (.dT kvs)):kvs.length<=sizeLine/\(a==Tn)=false/\
  ∃xs,KT H kvs xs/\h.DictOfH (Wk (bN P w)) a xs:=by
 obtain⟨z,y,xs,r,o,es,ep,h1,h2,h3,h4,h5⟩:=(show cL P w H h a (.dT kvs)from JR ok e)
 refine{z,y,xs,r,o,es,ep,h1,h2,h3,h4,λx hx=>?_,h5}
 have all:∀{l:List (List Key×V)}{m:List (List Key×RJ×RI)},KT H l m->∀x∈m,(Wk (bN P w)).is h x.1 x.2.1:=by
  intro l m q;induction q with
  |nil=>intro x hx;exact nomatch hx
  |@cons p q ps qs hq t ih=>
   intro x hx;rcases O2.mp hx with e|hx
   ·subst e;exact uq ok (by rw[<-hq.1];exact hq.2.1)
   exact ih x hx
 exact all r x hx
theorem MR(ok:ü P w H h)(e:H a=YH (.dT kvs)):kvs.length<=sizeLine/\(a==Tn)=false/\
  ∃xs,KT H kvs xs/\h.DictOfH (Wk (bN P w)) a xs:=yW ok (.inl e)
end
def j4(H:Hp)(a:RJ)(y:V)(r:Option V):Prop:=
 (∃kvs k,Rd H a (.dK kvs)/\y=kV k/\r=cf kvs k)\/∃kvs k b,Rd H a (.dT kvs)/\y=.ref b/\H b=YH (.tup (k.map kV))/\r=cf kvs k
def ou(H:Hp)(a:RJ)(y v:V)(H':Hp):Prop:=
 (∃kvs k,H a=YH (.dK kvs)/\y=kV k/\kvs.length<sizeLine/\H'=upd H a (.dK (YQ kvs k v)))\/
 ∃kvs k b,H a=YH (.dT kvs)/\y=.ref b/\H b=YH (.tup (k.map kV))/\kvs.length<sizeLine/\H'=upd H a (.dT (YQ kvs k v))
theorem j4.k{H:Hp}{a:RJ}{kvs:List (Key×V)}{k:Key}(e:H a=YH (.dK kvs)):j4 H a (kV k) (cf kvs k):=.inl ⟨kvs,k,.inl e,rfl,rfl⟩
theorem ou.k{H a kvs k v}(e:H a=YH (.dK kvs))(hl:kvs.length<sizeLine):ou H a (kV k) v (upd H a (.dK (YQ kvs k v))):=.inl ⟨kvs,k,e,rfl,hl,rfl⟩
section
variable{X:Cx}{pins:List (RJ×Obj)}{B:St}{H:Hp}{s:RN}{a:RJ}{y v:V}{u r:RI}{o:Option V}{A:Sq}{E:RI->RN->Prop}
theorem Inv.big(I:Inv X pins B H s):Tn<s.heap.objs.size:=by
 have h:R9<s.heap.objs.size:=(I.mod.glob.keeps I.bk).lt;exact Ru ∅ h
theorem D8(hu:A.units+1<TX)(I:Inv X pins B H s)(g:j4 H a y (YH v))(ry:YM y u)(h:∀w' s',Inv X pins B H s'->YM v w'->Q w' s') :
  wpAny (RY X.prog X.w) A (Vj (.ref a) u) Q E s:=by
 rcases g with⟨kvs,k,e,ey,l⟩|⟨kvs,k,b,e,ey,eb,l⟩
 ·subst ey;obtain⟨z,hd,vs,rel,dd⟩:=nY I.Æ e;obtain⟨w',hw,rw'⟩:=nQ.some_of (v:=v) (o:=valueAt vs k) (by rw[l];exact rel.val k);exact wpAny_getItem_of (uB ry) dd.mapOf hw (h w' _ (I.tok _) rw')
 subst ey
 cases (show u=Sd b from ry)
 obtain⟨z,hd,xs,rel,dd⟩:=yW I.Æ e
 obtain⟨w',hw,rw'⟩:=nQ.some_of (v:=v) (o:=(XN xs k).map (·.2)) (by rw[l];exact rel.val k)
 obtain⟨p,hp,hp2⟩:=QO.mp hw
 refine wpAny_getItem_heap (Us hu) (uq I.Æ eb) dd hp ?_
 rw[hp2]
 exact h w' _ (I.tok _) rw'
theorem Oe(hu:A.units+1<TX)(I:Inv X pins B H s)(g:j4 H a y o)(ry:YM y u)(h:∀s',Inv X pins B H s'->Q (.bool o.isSome) s') :
  wpAny (RY X.prog X.w) A (Sf .In u (.ref a)) Q E s:=by
 rcases g with⟨kvs,k,e,ey,l⟩|⟨kvs,k,b,e,ey,eb,l⟩
 ·subst ey;obtain⟨z,hd,vs,rel,dd⟩:=nY I.Æ e;refine wpAny_in_of (uB ry) hd dd.mapOf ?_;rw[<-(rel.val k).kg,<-l];exact h _ (I.tok _)
 subst ey
 cases (show u=Sd b from ry)
 obtain⟨z,hd,xs,rel,dd⟩:=yW I.Æ e
 refine wpAny_in_heap (Us hu) (uq I.Æ eb) hd dd ?_
 have q:=(rel.val k).kg
 rw[Rq]at q
 rw[<-q,<-l]
 exact h _ (I.tok _)
theorem Iy(hu:A.units+1<TX)(I:Inv X pins B H s)(g:j4 H a y o)(ry:YM y u)(h:∀s',Inv X pins B H s'->Q (.bool (!o.isSome)) s') :
  wpAny (RY X.prog X.w) A (Sf .NotIn u (.ref a)) Q E s:=by
 rcases g with⟨kvs,k,e,ey,l⟩|⟨kvs,k,b,e,ey,eb,l⟩
 ·subst ey;obtain⟨z,hd,vs,rel,dd⟩:=nY I.Æ e;refine wpAny_notIn_of (uB ry) hd dd.mapOf ?_;rw[<-(rel.val k).kg,<-l];exact h _ (I.tok _)
 subst ey
 cases (show u=Sd b from ry)
 obtain⟨z,hd,xs,rel,dd⟩:=yW I.Æ e
 refine wpAny_notIn_heap (Us hu) (uq I.Æ eb) hd dd ?_
 have q:=(rel.val k).kg
 rw[Rq]at q
 rw[<-q,<-l]
 exact h _ (I.tok _)
theorem nM(I:Inv X pins B H s)(mu:Mut (H a))(hs:TZ a s.heap h')(he:∃q,h'.get? a=YH q)(new:cL X.prog X.w (upd H a ob) h' a ob) :
  Inv X pins B (upd H a ob) { s with heap:=h',toks:=t' }:=
 I.write (x:=a) (e:=a) mu (.inl rfl) (λb q hb z=>(hs.2 b hb).trans z) he new
theorem wU(z:kvs.length<=sizeLine)(hd:(a==Tn)=false)(rel:KV kvs vs)(dd:h'.DictOf (bN P w) a vs) :
  cL P w H' h' a (.dK kvs):=⟨z,hd,vs,rel,dd⟩
theorem DW(hu:A.units+1<TX)(I:Inv X pins B H s)(g:ou H a y v H')(ry:YM y u)(rv:YM v r)(h:∀s',Inv X pins B H' s'->Q Unit.unit s') :
  wpAny (RY X.prog X.w) A (setItem (.ref a) u r) Q E s:=by
 rcases g with⟨kvs,k,e,ey,l,eH⟩|⟨kvs,k,b,e,ey,eb,l,eH⟩
 ·subst ey eH;obtain⟨z,hd,vs,rel,dd⟩:=zr I.Æ e;have hz:vs.length<=sizeLine:=by rw[<-rel.length];exact z
  have hl:(YQ kvs k v).length<=sizeLine:=by have:=jd kvs k v;lia
  refine wpAny_setItem_pairs (hsz:=hz) (uB ry) dd λh' Ū hs=>h _ ?_;have he:∃q,h'.get? a=YH q:=let ⟨q,_,_,hq,_⟩:=Ū;⟨q,hq⟩
  exact nM I (by rw[e];exact Qg) hs he (wU hl hd (rel.put k rv) Ū)
 subst ey eH
 cases (show u=Sd b from ry)
 obtain⟨z,hd,xs,rel,dd⟩:=MR I.Æ e
 have hz:xs.length<=sizeLine:=by rw[<-RT rel];exact z
 have hl:(YQ kvs k v).length<=sizeLine:=by have:=jd kvs k v;lia
 refine wpAny_setItem_heap (hsz:=hz) (Us hu) (uq I.Æ eb) dd λh' Ū hs=>h _ ?_
 obtain⟨q,es,ep,hq,h2,h3,h4,_,h5⟩:=Ū
 refine nM I (by rw[e];exact Qg) hs ⟨q,hq⟩ {hl,hd,_,(rel.put k eb rv).keeps λc ys ec=>?_,q,es,ep,hq,h2,h3,h4,h5}
 rw[aL (Nl ec e (λz=>nomatch z))]
 exact ec
end
section
variable{X:Cx}{pins:List (RJ×Obj)}{B:St}{H:Hp}{s:RN}{a:RJ}{kvs:List (Key×V)}{k:Key}{u:RI}{A:Sq}{E:RI->RN->Prop}
theorem IF(I:Inv X pins B H s)(e:H a=YH (.dK kvs))(h:∀s',Inv X pins B (upd H a (.dK [])) s'->Q .none s'):wpAny (RY X.prog X.w) A (call (.builtin "dict.clear") [.ref a]) Q E s:=by
 obtain⟨z,hd,vs,rel,dd⟩:=zr I.Æ e;refine call_meetsIn Vs dd.typeIs PySem.F.entry_dict_clear (PySem.F.args_dict_clear_1 _) (meets_dict_clear (bN X.prog X.w) a) {vs,dd,by rw[<-rel.length];exact z,λh' Ū hs=>h _ ?_};have he:∃q,h'.get? a=YH q:=let ⟨q,_,_,hq,_⟩:=Ū;⟨q,hq⟩
 exact nM (t':=s.toks) I (by rw[e];exact Qg) hs he (wU (Pd _) hd .nil Ū)
theorem ND(I:Inv X pins B H s)(e:Rd H a (.dK kvs))(h:∀t s',Inv X pins B H s'->Q (.int kvs.length t) s'):wpAny (RY X.prog X.w) A (call (.builtin "len") [.ref a]) Q E s:=by
 obtain⟨z,hd,vs,rel,dd⟩:=nY I.Æ e;refine call_len_dict hd dd (by rw[<-rel.length];rw[Ua]at z;lia) ?_;rw[<-rel.length];exact h _ _ (I.tok _)
end
theorem yr(I:Inv X pins B H s)(g:j4 H a y o):s.TypeIs (.ref a) "dict":=by
 rcases g with⟨kvs,k,e,_,_⟩|⟨kvs,k,b,e,_,_,_⟩
 ·obtain⟨_,_,vs,_,dd⟩:=nY I.Æ e;exact dd.typeIs
 obtain⟨_,_,xs,_,dd⟩:=yW I.Æ e;exact dd.typeIs
section
variable{X:Cx}{o i e value:Expr}{pos pos' tpos:Pos}{td ty tv:TE}
end
theorem tM(h:So)(hb:Tn<h.objs.size):cL P w H (h.push { cls:=.type "dict",data:=.dict #[] }) h.objs.size (.dK []):=
 {Pd _,beq_eq_false_iff_ne.mpr (Pr (Pw hb)),[],.nil,XR h}
noncomputable def KQ:TE:=λ_ H Q=>∀p,H p=YI->Q (.ref p) (upd H p (.dK []))
section
variable{X:Cx}{pos:Pos}
theorem sP:PE X (.Dict [] [] pos) KQ:=λpins s B H Q I h=>
 wpAny_Dict_empty {.ref s.heap.objs.size,_,I.laid (a:=s.heap.objs.size) (o:=.dK []) (t':=s.toks) (λ_ _ q=>RL _ q) (O4 _) (tM s.heap I.big),rfl,h _ (I.Æ.fresh (O4 _))}
end
noncomputable def Ay:List (TE×TE)->St->Hp->(List (V×V)->Hp->Prop)->Prop
 | [],_,H,Q=>Q [] H
 | (tk,tv)::r,B,H,Q=>tk B H λx H1=>tv B H1 λy H2=>Ay r B H2 λps H3=>Q ((x,y)::ps) H3
abbrev VV:List (V×V)->List (RI×RI)->Prop:=Paired λp q=>YM p.1 q.1/\YM p.2 q.2
def PPs(X:Cx)(pos:Pos)(keys:List (Option Expr))(values:List Expr)(trs:List (TE×TE)):Prop:=
 ∀(pins:List (RJ×Obj))(s:RN)(B:St)(H:Hp)(Q:List (V×V)->Hp->Prop),Inv X pins B H s->Ay trs B H Q->
  wpAny (RY X.prog X.w) X.A (evalPairs (pairTrees keys values X.env pos)) (λvs s'=>∃ps H',Inv X pins B H' s'/\VV ps vs/\Q ps H') X.xe s
theorem xj:PPs X pos [] [] []:=λpins s B H Q I h=>pairTrees_nil_walk {[],H,I,.nil,h}
theorem dX(hk:PE X k tk)(hv:PE X v tv)(hr:PPs X pos ks vs trs) :
  PPs X pos (YH k::ks) (v::vs) ((tk,tv)::trs):=λpins s B H Q I h=>
 pairTrees_cons_walk (Ì (hk pins s B H _ I h) λu s1 ⟨x,H1,I1,rx,q1⟩=>Ì (hv pins s1 B H1 _ I1 q1) λw2 s2 ⟨y,H2,I2,ry,q2⟩=>
  Ì (hr pins s2 B H2 _ I2 q2) λws s3 ⟨ps,H3,I3,rel,q3⟩=>{(x,y)::ps,H3,I3,.cons ⟨rx,ry⟩ rel,q3})
noncomputable def bu(kvs more:List (Key×V)):List (Key×V):=more.foldl (λacc kv=>YQ acc kv.1 kv.2) kvs
theorem KV.merge:∀{more:List (Key×V)}{rs:List (Key×RI)}{kvs:List (Key×V)}{vs:List (Key×RI)},KV more rs->KV kvs vs->KV (bu kvs more) (merged vs rs):=by
 intro more rs kvs vs r;unfold KV at r;induction r generalizing kvs vs with
 |nil=>intro q;exact q
 |@cons p q ps qs h t ih=>
  intro r0;have e:KV (YQ kvs p.1 p.2) (stored vs q.1 q.2):=by
   have:=r0.put p.1 h.2;rw[<-h.1];exact this
  exact ih e
theorem jA:∀more kvs,(bu kvs more).length<=kvs.length+more.length
 | [],kvs=>by show kvs.length<=kvs.length+0;lia
 |p::r,kvs=>by
  have h1:=jA r (YQ kvs p.1 p.2);have h2:=jd kvs p.1 p.2;show(bu (YQ kvs p.1 p.2) r).length<=_;rw[O6];lia
theorem uA:∀{kvs:List (Key×V)}{ws:List (RI×RI)},VV (kvs.map λkv=>(kV kv.1,kv.2)) ws->∃rs,Carries (bN P w) ws rs/\KV kvs rs
 | [],_,r=>by rw[RG]at r;cases r;exact{[],Qg,.nil}
 |p::kvs,_,r=>by
  rw[Pm]at r;cases r with
  |@cons a b as bs h t=>
   obtain⟨rs,c,q⟩:=uA (P:=P) (w:=w) t;obtain⟨b1,b2⟩:=b;exact{(p.1,b2)::rs,⟨uB h.1,rfl,c⟩,.cons ⟨rfl,h.2⟩ q}
noncomputable def Mt(trs:List (TE×TE)):TE:=λB H Q=>∀p,H p=YI->Ay trs B (upd H p (.dK [])) λps H2=>H2 p=YH (.dK [])/\∃kvs:List (Key×V),ps=kvs.map (λkv=>(kV kv.1,kv.2))/\kvs.length<=15/\Q (.ref p) (upd H2 p (.dK (bu [] kvs)))
theorem xW(h:PPs X pos keys values trs)(hall:keys.all (·.isSome)=true)(hl:keys.length=values.length)(h0:keys≠[])
  (h15:keys.length<=15):PE X (.Dict keys values pos) (Mt trs):=by
 intro pins s B H Q I q
 have hn:=I.Æ.fresh (O4 s.heap.objs.size)
 have I1:=I.laid (a:=s.heap.objs.size) (o:=.dK []) (h':=s.heap.push { cls:=.type "dict",data:=.dict #[] }) (t':=s.toks) (λ_ _ q=>RL _ q) (O4 _) (tM s.heap I.big)
 refine wpAny_Dict_walk (knd:=bN X.prog X.w) hall hl h0 h15 (Ì (h pins _ B _ _ I1 (q _ hn)) λws s2 z9=>?_);obtain⟨ps,H2,I2,rel,e,kvs,ep,lk,q2⟩:=z9
 subst ep
 obtain⟨rs,c,rk⟩:=uA (P:=X.prog) (w:=X.w) rel
 obtain⟨z,hd,vs0,r0,dd⟩:=zr I2.Æ e
 cases r0
 refine{rs,c,dd,λh' Ū hs=>{.ref s.heap.objs.size,_,?_,rfl,q2}}
 have hz:(bu [] kvs).length<=sizeLine:=by
  have h1:=jA kvs [];rw[P2]at h1;rw[Ua];lia
 have he:∃q,h'.get? s.heap.objs.size=YH q:=let ⟨q,_,_,hq,_⟩:=Ū;⟨q,hq⟩
 exact nM I2 (by rw[e];exact Qg) hs he (wU hz hd (rk.merge .nil) Ū)
structure M1(X:Cx)(o:Expr)(m:Str)(apos:Pos)(e:Expr)(Ï:Pos):Prop where
 base:SV o m X.env (SD o X.env)=SD o X.env
 few:((SJ Ï (RV [e] X.env)).all (λx=>!x.1)&&(TM Ï (SR [] X.env)).all (λx=>x.1.isSome)
  &&decide (([e]:List Expr).length+([]:List Ue).length+(if([]:List Ue).isEmpty then 0 else 1)<30))=true
 line:(apos.endLine==Ï.line)=true
 trees:SJ Ï (RV [e] X.env)=[(false,SD e X.env)]
structure M2(X:Cx)(o:Expr)(m:Str)(apos:Pos)(e f:Expr)(Ï:Pos):Prop where
 base:SV o m X.env (SD o X.env)=SD o X.env
 few:((SJ Ï (RV [e,f] X.env)).all (λx=>!x.1)&&(TM Ï (SR [] X.env)).all (λx=>x.1.isSome)
  &&decide (([e,f]:List Expr).length+([]:List Ue).length+(if([]:List Ue).isEmpty then 0 else 1)<30))=true
 line:(apos.endLine==Ï.line)=true
 trees:SJ Ï (RV [e,f] X.env)=[(false,SD e X.env),(false,SD f X.env)]
section
variable{X:Cx}{pins:List (RJ×Obj)}{B:St}{H:Hp}{s:RN}{a:RJ}{y d:V}{u r:RI}{o:Option V}{A:Sq}{E:RI->RN->Prop}
end
section
variable{X:Cx}{o e f:Expr}{apos Ï:Pos}{td ty tx:TE}
end
section
variable{X:Cx}{pins:List (RJ×Obj)}{B:St}{H:Hp}{s:RN}{a:RJ}{kvs:List (Key×V)}{A:Sq}{E:RI->RN->Prop}
end
section
variable{X:Cx}{pins:List (RJ×Obj)}{B:St}{H:Hp}{s:RN}{a:RJ}{y:V}{u:RI}{A:Sq}{E:RI->RN->Prop}
end
section
variable{X:Cx}
theorem yk(hu:X.A.units+64<TX):IxR X (λx y H Q=>∃a v,x=.ref a/\j4 H a y (YH v)/\Q v H):=by
 intro value slice pins s B H x y v u Q I rx ry h hs;obtain⟨a,z,rfl,g,q⟩:=h;cases rx;have hT:=yr I g;unfold WC;refine E9 ?_;rw[getitemInPython_of_ne hT.not_modules];refine E9 (XS hT PySem.F.slot_dict_getitem.lookup ?_);have h₂:wpAny (RY X.prog X.w) X.A (Vj (.ref a) u) (EP X pins B Q) X.xe s:=D8 () I g ry λw' s3 I3 rw'=>⟨z,H,I3,rw',q⟩;have fin:wpAny (RY X.prog X.w) X.A (subscripted slice false (.ref a) u) (λr s₃=>wpAny (RY X.prog X.w) X.A (letTemporaryGo value (.ref a) r>>=λ_=>pure r) (EP X pins B Q) X.xe s₃) X.xe s:=by
  rw[hs];exact wpAny_operating (Tw h₂ (λr s₃ h₃=>E9 (wpAny_letTemporaryGo (RK h₃))) λ_ _ x=>x)
 first
  |exact RK (E9 fin)
  |exact E9 (RK (E9 fin))
  |exact E9 fin
inductive dgI(p:RJ)(y:V)(H:Hp)(Q:VK):Prop
 |mk (v) (h:j4 H p y (YH v)) (q:Q v H):dgI p y H Q
noncomputable def NC(K:RS):R2:=λx y H Q=>match x,y with
 | .ref p,.int i=>ixS K p i H Q\/dgI p (.int i) H Q
 | .ref p,.str k=>dgI p (.str k) H Q
 | .str z,.int i=>∃c,z.length<=sizeLine/\į z.cps.toList i=YH c/\Q (.str ⟨#[c]⟩) H
 |_,_=>False
theorem Kc(hu:X.A.units+64<TX):IxR X (NC X.K):=by
 intro value slice pins s B H x y v u Q I rx ry h hs;cases x with
 |ref p=>
  cases y with
  |int i=>
   rcases h with h|⟨w,g,q⟩
   ·exact Fs value slice pins s B H _ _ v u Q I rx ry h hs
   exact yk hu value slice pins s B H _ _ v u Q I rx ry ⟨p,w,rfl,g,q⟩ hs
  |str k=>
   obtain⟨w,g,q⟩:=h;exact yk hu value slice pins s B H _ _ v u Q I rx ry ⟨p,w,rfl,g,q⟩ hs
  |_=>exact(show False from h).elim
 |str z=>
  cases y with
  |int i=>exact Fs value slice pins s B H _ _ v u Q I rx ry h hs
  |_=>exact(show False from h).elim
 |_=>cases y<;>exact(show False from h).elim
theorem yI(hu:X.A.units+64<TX):Fb X (λo i v H Q=>∃a H',o=.ref a/\ou H a i v H'/\Q H'):=by
 intro pins s B H o i v ov iv u Q I ro ri rv h;obtain⟨a,H',rfl,g,q⟩:=h;cases ro;exact DW () I g ri rv λs4 I4=>⟨H',I4,q⟩
inductive dpI(p:RJ)(y v:V)(H:Hp)(Q:Hp->Prop):Prop
 |mk (H') (h:ou H p y v H') (q:Q H'):dpI p y v H Q
inductive stL(p:RJ)(k:Int)(v:V)(H:Hp)(Q:Hp->Prop):Prop
 |mk (xs j) (h0:H p=YH (.lst xs)) (h1:Ś xs.length k=YH j) (q:Q (upd H p (.lst (xs.set j v)))):stL p k v H Q
noncomputable def NR:K7:=λo i v H Q=>match o,i with
 | .ref p,.int k=>stL p k v H Q\/dpI p (.int k) v H Q
 | .ref p,.str k=>dpI p (.str k) v H Q
 |_,_=>False
theorem fG(hu:X.A.units+64<TX)(hl:Fb X Jp):Fb X NR:=by
 intro pins s B H o i v ov iv u Q I ro ri rv h;cases o with
 |ref p=>
  cases i with
  |int k=>
   rcases h with⟨xs,j,h1,h2,q⟩|⟨H',g,q⟩
   ·exact hl pins s B H _ _ v ov iv u Q I ro ri rv ⟨p,xs,k,j,rfl,rfl,h1,h2,q⟩
   exact yI hu pins s B H _ _ v ov iv u Q I ro ri rv ⟨p,H',rfl,g,q⟩
  |str k=>
   obtain⟨H',g,q⟩:=h;exact yI hu pins s B H _ _ v ov iv u Q I ro ri rv ⟨p,H',rfl,g,q⟩
  |_=>exact(show False from h).elim
 |_=>cases i<;>exact(show False from h).elim
theorem MX(hu:X.A.units+64<TX):Ó X (Sf .In) (λx y H Q=>∃a o,y=.ref a/\j4 H a x o/\Q (.bl o.isSome) H):=by
 intro pins s B H x y v u Q I rx ry h;obtain⟨a,o,rfl,g,q⟩:=h;cases ry;exact Oe () I g rx λs3 I3=>⟨.bl o.isSome,H,I3,rfl,q⟩
theorem EH(hu:X.A.units+64<TX):Ó X (Sf .NotIn) (λx y H Q=>∃a o,y=.ref a/\j4 H a x o/\Q (.bl (!o.isSome)) H):=by
 intro pins s B H x y v u Q I rx ry h;obtain⟨a,o,rfl,g,q⟩:=h;cases ry;exact Iy () I g rx λs3 I3=>{.bl (!o.isSome),H,I3,rfl,q}
theorem EE(hu:X.A.units+64<TX):Ó X (Sf .In) (λx y H Q=>fIn X.K false x y H Q\/∃a o,y=.ref a/\j4 H a x o/\Q (.bl o.isSome) H):=Oq.or (MX hu)
theorem iy(hu:X.A.units+64<TX):Ó X (Sf .NotIn) (λx y H Q=>fIn X.K true x y H Q\/∃a o,y=.ref a/\j4 H a x o/\Q (.bl (!o.isSome)) H):=Hn.or (EH hu)
theorem LL:dU X (.builtin "len") (λxs H Q=>∃a kvs,xs=[.ref a]/\Rd H a (.dK kvs)/\Q (.int (kvs.length:Nat)) H):=by
 intro pins s B H xs us Q I r h;obtain⟨a,kvs,rfl,e,q⟩:=h;obtain⟨u,rfl,rfl⟩:=YW r;exact ND I e λt s' I'=>{.int _,H,I',{_,rfl},q}
end
end L2
namespace PySem
open Sem (wp)
section
variable{prog:Program}{w:R5}{A:Sq}{E:RI->RN->Prop}{s:RN}
theorem xh:typeLookup (.type "list") "keys"=pure YI:=am_miss_of_fast (by kernel_rfl)
theorem xq(hx:s.heap.get? a=YH o)(hc:o.cls=.type "list")(hdat:o.data=.seq xs k)(hd:o.dict=YI)(hA:A.handled=YI)
  (h:∀h' tk,(∀b ob,s.heap.get? b=YH ob->h'.get? b=YH ob)->Q YI { s with heap:=h',toks:=tk }):wpAny (RY prog w) A (getAttr? (.ref a) "keys") Q E s:=by
 obtain⟨c,dct,dat,sl⟩:=o
 simp only at hc hdat hd
 subst hc hdat hd
 obtain⟨hp,g,d,tk,os⟩:=s
 have hT:∀tk',(⟨hp,g,d,tk',os⟩:RN).TypeIs (.ref a) "list":=λ_=>{_,hx,rfl}
 have f1:=sub_AttributeError
 have f3:=F.slot_list_getattribute.lookup
 have f4:=F.slot_list_getattribute.bind (.ref a)
 have f5:=am_list_getattr_none
 have hmiss:=xh
 have hname:(["__module__","__name__","__qualname__","__doc__","__annotations__"]:List Str).contains "keys"=false:=by decide+kernel
 unfold getAttr? getAttrBy? getAttrBy
 repeat (any_goals (first|assumption|exact hT _|((with_reducible show wpAny _ _ (call (Value.builtin "list.__getattribute__") _ _) _ _ _);refine UL F.slot_list_getattribute (hT _) am_entry_list_getattribute (F.args_list_getattribute_2 _ _) (meets_getattribute_miss_list a xs k sl "keys" _ hmiss hname ∅) ⟨hx,hA,λh' tk' e Ĩ=>?_⟩)|wp_step))
 obtain⟨t',u',he⟩:=Ĩ.there
 have hTe:(⟨h',g,d,tk',os⟩:RN).TypeIs (.ref e) "AttributeError":={_,he,rfl}
 show wpAny _ _ (W2 _ _ _ _ _ _ _) _ _ _
 unfold W2
 repeat (any_goals (first|assumption|wp_step))
 exact h _ _ Ĩ.keeps
end
end PySem
namespace L2
open PySem PySem.Spec PyProof.Rows
theorem mE:Yg table "dict.update.loop"=YH T8.«dict.update.loop»:=Xx (by kernel_rfl)
theorem fw:plainId "dict.update.loop"=true:=by decide+kernel
section
variable{X:Cx}{pins:List (RJ×Obj)}{B:St}{H0:Hp}{A:Sq}
theorem pair_items(h:s.heap.IsTuple t Â)(q:Q Â.toList s):wpAny (RY prog w) A (VP (.ref t)) Q E s:=by
 obtain⟨o,ho,hc,n,hd⟩:=h;unfold VP;refine E9 (Uw ⟨o,ho,hc⟩ ?_);rw[if_pos ∅];refine E9 ?_;obtain⟨c,dct,dat,sl⟩:=o;simp only at hc hd;subst hc hd;obtain⟨hp,g,d,tk,os⟩:=s;repeat (any_goals (first|assumption|wp_step))
theorem zU(kvs:List (Key×V))(i:Nat)(h:kvs[i]?=YH (k,v)):bu [] (kvs.take (i+1))=YQ (bu [] (kvs.take i)) k v:=by
 unfold bu;rw[P4,h,Rr];rfl
theorem EV(hc:X.calm=true){l p it:RJ}{ps:List RJ}{kvs:List (Key×V)}{R:Result->RN->Prop}(hA:A.handled=YI)(hl:À X.K H0 l (ps.map V.ref))(hlen:ps.length=kvs.length)(hn:kvs.length<=1000)
  (hps:∀(i:Nat) t k v,ps[i]?=YH t->kvs[i]?=YH (k,v)->È X.K H0 t [kV k,v]) (hp:H0 p=YI)
  (fin:∀s',Inv X pins B (upd H0 p (.dK (bu [] kvs))) s'->R (.ok (.ret .none)) s') :
  ∀n i s,n+i=ps.length->Inv X pins B (upd H0 p (.dK (bu [] (kvs.take i)))) s->sO X pins (upd H0 p (.dK (bu [] (kvs.take i)))) it->s.heap.IsListIter it l i->
   codeAny (RY X.prog X.w) A (.builtin "dict.update.loop" {[.ref p,.ref it,VF i,.none],[]}) R s:=by
 intro n
 induction n with
 |zero=>
  intro i s hi I hf st
  refine SN mE ?_
  rw[Sv fw _]
  have sm:=aj.upd hp (.dK (bu [] (kvs.take i)))
  obtain⟨Â,rv,pl,hz⟩:=I.list (sm.seq hl)
  have hll:=rv.length
  rw[OZ]at hll
  obtain⟨f0,f1,f2,f3,f4,f5⟩:=hf
  unfold T8.«dict.update.loop»
  refine E9 (VT hA st pl.isList (by simp;lia) λh' eb=>?_)
  have I':Inv X pins B (upd H0 p (.dK (bu [] (kvs.take i)))) { s with heap:=h' }:=I.turned (t':=s.toks) (λb o hb e=>eb b o hb e) f0 f1 f3 f4 f5
  rw[P6 ()]at I'
  exact E9 (RK (RK (fin _ I')))
 |succ n ih=>
  intro i s hi I hf st
  refine SN mE ?_
  rw[Sv fw _]
  have sm:=aj.upd hp (.dK (bu [] (kvs.take i)))
  obtain⟨Â,rv,pl,hz⟩:=I.list (sm.seq hl)
  have hll:=rv.length
  rw[OZ]at hll
  obtain⟨t,ht⟩:∃t,ps[i]?=YH t:={ps[i]'(()),O7 ()}
  obtain⟨⟨k,v⟩,hk⟩:∃kv,kvs[i]?=YH kv:={kvs[i]'(()),O7 ()}
  obtain⟨u,hu1,hu2⟩:=rv.get (x:=.ref t) (i:=i) (by rw[Pk,ht];rfl)
  cases hu2
  obtain⟨f0,f1,f2,f3,f4,f5⟩:=hf
  unfold T8.«dict.update.loop»
  refine E9 (VG st pl.isList (x:=.ref t) (by simpa using hu1) λh' Å sb=>?_)
  have I1:Inv X pins B (upd H0 p (.dK (bu [] (kvs.take i)))) { s with heap:=h' }:=I.turned (t':=s.toks) (λb o hb e=>(sb.2 b hb).trans e) f0 f1 f3 f4 f5
  obtain⟨jts,rj,pt,_⟩:=I1.tuple (sm.tup (hps i t k v ht hk))
  obtain⟨u1,u2,e12,r1,r2⟩:∃u1 u2,jts=[u1,u2]/\YM (kV k) u1/\YM v u2:=by
   cases rj with
   |cons r1 q=>cases q with
    |cons r2 q=>cases q;exact{_,_,rfl,r1,r2}
  subst e12
  refine E9 (wpAny_holding (E9 (wpAny_tryCatch (pair_items pt ?_))))
  show wpAny _ _ (UY [u1,u2] (dictSet p u1 u2)) _ _ _
  refine wpAny_holding ?_
  obtain⟨z,hd,vs,rel,dd⟩:=zr I1.Æ (ao (H:=H0) (a:=p) (o:=.dK (bu [] (kvs.take i))))
  have hz':vs.length<=sizeLine:=by rw[<-rel.length];exact z
  have hlk:(bu [] (kvs.take i)).length<=1000:=by
   have:=jA (kvs.take i) [];rw[PV,P2]at this;lia
  have hlp:(YQ (bu [] (kvs.take i)) k v).length<=sizeLine:=by
   have h1:=jd (bu [] (kvs.take i)) k v;have h2:=aH hlk;lia
  refine wpAny_dictSet_pairs (hsz:=hz') (uB r1) dd λh2 Ū hs=>?_
  have he:∃q,h2.get? p=YH q:=let ⟨q,_,_,hq,_⟩:=Ū;⟨q,hq⟩
  have I2:=nM (t':=s.toks+1) (ob:=.dK (YQ (bu [] (kvs.take i)) k v)) I1 (by rw[ao];exact Qg) hs he (wU hlp hd (rel.put k r2) Ū)
  rw[Hq,<-zU kvs i hk]at I2
  have hne:it≠p:=λz=>by rw[z,ao]at f0;cases f0
  have f0':upd H0 p (.dK (bu [] (kvs.take (i+1)))) it=YI:=by
   rw[aL hne]at f0⊢;exact f0
  refine RK {T5 fw _,?_}
  have ec:((i:Int)+1)=((i+1:Nat):Int):=by push_cast;rfl
  rw[ec]
  exact ih (i+1) _ () I2 ⟨f0',f1,f2,f3,f4,f5⟩ (Å.at λo e=>(hs.2 it hne).trans e)
theorem r9(hc:X.calm=true:=by rfl):dU X (.type "dict") (λxs H Q=>∃(l:RJ)(ps:List RJ)(kvs:List (Key×V)),xs=[.ref l]/\À X.K H l (ps.map V.ref)/\ps.length=kvs.length/\kvs.length<=1000/\
  (∀(i:Nat) t k v,ps[i]?=YH t->kvs[i]?=YH (k,v)->È X.K H t [kV k,v])/\∀p,H p=YI->Q (.ref p) (upd H p (.dK (bu [] kvs)))):=by
 intro pins s B H xs us Q I r h
 obtain⟨l,ps,kvs,rfl,hl,hlen,hn,hps,q⟩:=h
 obtain⟨u,rfl,rfl⟩:=YW r
 have hA:=I.ok.hd hc
 have hp:=I.Æ.fresh (O4 s.heap.objs.size)
 have I1:=I.laid (a:=s.heap.objs.size) (o:=.dK []) (t':=s.toks) (h':=s.heap.push { cls:=.type "dict",data:=.dict #[] }) (λ_ _ q=>RL _ q) (O4 _) (tM s.heap I.big)
 refine callType_codes (Q₁:=λobj s₁=>obj=.ref s.heap.objs.size/\s₁={ s with heap:=s.heap.push { cls:=.type "dict",data:=.dict #[] } }) F.kt_called_dict (F.kt_typeCall_dict_1 _) F.entry_dict_init (kt_code_dict_new _ ⟨rfl,rfl⟩) ?_
 rintro obj s₁ ⟨rfl,rfl⟩
 have hnew:(s.heap.push { cls:=.type "dict",data:=.dict #[] }).DictOf (bN X.prog X.w) s.heap.objs.size []:=XR s.heap
 have sm:=aj.upd hp (.dK [])
 obtain⟨Â,rv,pl,hz⟩:=I1.list (sm.seq hl)
 obtain⟨o,n,ho,hoc,hod,ŧ⟩:=id pl
 refine{hnew.typeIs,F.args_dict_init_2 _ _,?_}
 unfold T8.«dict.__init__»
 refine E9 ?_
 unfold Builtin.Dict.selfAndRest
 refine E9 (VU hnew.typeIs ?_)
 show wpAny _ _ (pure (s.heap.objs.size,[Sd l])) _ _ _
 refine RK ?_
 show wpAny _ _ (Vt "dict.__init__" s.heap.objs.size (.ref l) [] .none) _ _ _
 unfold Vt
 refine E9 (Uw ⟨o,ho,hoc⟩ ?_)
 rw[if_pos ∅]
 refine E9 (xq ho hoc ŧ hod hA λh2 tk2 k2=>?_)
 have I2:Inv X pins B (upd H s.heap.objs.size (.dK [])) { s with heap:=h2,toks:=tk2 }:=I1.kept (t':=tk2) k2
 rw[if_pos (show(YI:Option RI).isNone=true from rfl)]
 obtain⟨ļ,rv2,pl2,_⟩:=I2.list (sm.seq hl)
 refine E9 (T1 (E9 (Vl pl2.isList ?_)))
 refine RK {T5 fw _,?_}
 have I3:=I2.kept (h':=h2.push { cls:=.type "list_iterator",data:=.fields #[.ref l,.int 0 0] }) (t':=tk2) λb o e=>RL _ e
 have fp:=I2.yc (H':=upd H s.heap.objs.size (.dK [])) (O4 _) (I2.Æ.fresh (O4 _))
 refine EV (X:=X) (H0:=H) (A:=X.A.in1) (p:=s.heap.objs.size) (kvs:=kvs) hc hA hl hlen hn hps hp (λs' I'=>?_) ps.length 0 _ rfl I3 fp {_,RZ _ rfl,rfl,rfl}
 exact{rfl,.ref s.heap.objs.size,_,I',rfl,q _ hp}
end
section
variable{X:Cx}{pins:List (RJ×Obj)}{B:St}{H:Hp}{s:RN}
theorem Inv.Cn{h':So}{t':Nat}{ch:List RJ}(I:Inv X pins B H s)(hf:∀b∈ch,sO X pins H b)(k:∀b o,b∉ch->s.heap.get? b=YH o->h'.get? b=YH o):Inv X pins B H { s with heap:=h',toks:=t' }:=by
 have nit:∀b u,H b=YH u->b∉ch:=λb u e z=>by rw[(hf b z).1]at e;cases e
 refine I.step (g':=s.gens) (d':=s.drawn) (ch:=ch) (λb hb=>{(hf b hb).2.2.2.1,(hf b hb).2.1,(hf b hb).2.2.2.2.1,(hf b hb).2.2.2.2.2}) (λb o _ _ hc e _=>k b o hc e) (λb o _ _ hc e _=>⟨o.slots,k b o hc e⟩) (λ_ _ _ _ n=>n)
  (λb o hc e=>⟨o,k b o hc e⟩) (λ_ _ e=>e) (λ_ _ _ e=>e) (λb ps e=>{#[],by rw[e];simp}) (λm hm=>?_) (λb u e=>?_) I.bare
 ·obtain⟨o,es,ep,ho,r⟩:=hm;exact{o,es,ep,k _ o (λz=>(hf _ z).2.1 rfl) ho,r}
 refine(I.Æ b u e).vm (λc v hc q=>k c v ?_ q) (λ_ q=>q) λ_ _ q=>q;rcases hc with rfl|hc
 ·exact nit _ _ e
 exact nit _ _ hc
theorem Inv.NM(I:Inv X pins B H s)(hf:sO X pins H T)(hz:X.s₀.heap.objs.size<=T)(new:cL X.prog X.w (upd H T u) s.heap T u):Inv X pins B (upd H T u) s:=by
 obtain⟨f0,f1,f2,f3,f4,f5⟩:=hf;have ne0:∀b o,X.s₀.heap.get? b=YH o->b≠T:=λb o e=>Pw (Px (RX e) hz);have neS:∀b v,H b=YH v->b≠T:=λb v e z=>by rw[z,f0]at e;cases e
 refine⟨I.ok,I.os,I.bare,⟨I.base.keep,I.base.slot,λb o e n hx=>by rw[aL (ne0 b o e)];exact I.base.free b o e n hx,I.base.there,λb xs e=>by
   have:=I.base.ve b xs e;rw[aL (neS b _ this)];exact this,λb o v e=>by
   have:=I.base.rH b o v e;rw[aL (neS b _ this)];exact this,λb ps e=>by
   obtain⟨more,q⟩:=I.base.vg b ps e;exact{more,by rw[aL (neS b _ q)];exact q}⟩,I.loc,I.cell,by rw[aL (Pr f1)];exact I.free,λx c e=>by rw[aL (f4 x c e)];exact I.j8 x c e,
  λp hp=>by rw[aL (f5 p hp)];exact I.pin p hp,λb v e=>?_,I.len⟩
 by_cases hb:b=T
 ·subst hb;rw[ao]at e;cases e;exact new
 rw[aL hb]at e;exact(I.Æ b v e).vm (λ_ _ _ q=>q) (λc q=>by rw[aL (neS c _ q)];exact q) λc xs q=>by rw[aL (neS c _ q)];exact q
theorem Inv.OR(I:Inv X pins B H s)(e:H a=YH (.ë o u))(hn:∀o u,X.H₀ a≠YH (.ë o u)):Inv X pins B (upd H a u) s:=by
 have nn:∀b,H b=YI->b≠a:=λb q z=>by rw[z,e]at q;cases q
 have nt:∀b xs,H b=YH (.tup xs)->b≠a:=λb xs q z=>by rw[z,e]at q;cases q
 have nw:∀b x,H b=YH (.own x)->b≠a:=λb x q z=>by rw[z,e]at q;cases q
 have nb:∀b ps,H b=YH (.tbl ps)->b≠a:=λb x q z=>by rw[z,e]at q;cases q
 refine⟨I.ok,I.os,I.bare,⟨I.base.keep,I.base.slot,λb o q n hx=>by
   have:=I.base.free b o q n hx;rw[aL (nn b this)];exact this,I.base.there,λb xs q=>by
   have:=I.base.ve b xs q;rw[aL (nt b xs this)];exact this,λb o v q=>by
   have hb:b≠a:=λz=>hn o v (by rw[<-z];exact q);rw[aL hb];exact I.base.rH b o v q,λb ps q=>by
   obtain⟨more,r⟩:=I.base.vg b ps q;exact{more,by rw[aL (nb b _ r)];exact r}⟩,I.loc,I.cell,by rw[aL (nn _ I.free)];exact I.free,λx c q=>by rw[aL (nn _ (I.j8 x c q))];exact I.j8 x c q,
  λp hp=>by rw[aL (nn _ (I.pin p hp).2.1)];exact I.pin p hp,λb v q=>?_,I.len⟩
 by_cases hb:b=a
 ·subst hb;rw[ao]at q;cases q;exact(I.Æ b _ e).2.vm (λ_ _ _ q=>q) (λc q=>by rw[aL (nw c _ q)];exact q) λc xs q=>by rw[aL (nt c _ q)];exact q
 rw[aL hb]at q;exact(I.Æ b v q).vm (λ_ _ _ q=>q) (λc q=>by rw[aL (nw c _ q)];exact q) λc xs q=>by rw[aL (nt c _ q)];exact q
theorem Inv.freeze(I:Inv X pins B H s)(e:H a=YH u)(mu:Mut (H a))(ho:s.heap.get? a=YH o):Inv X pins B (upd H a (.ë o u)) s:=by
 have hk:=I.Æ a u e;have:=nM (a:=a) (h':=s.heap) (t':=s.toks) (ob:=.ë o u) I mu {rfl,λ_ _=>rfl} ⟨o,ho⟩ {ho,?_}
 ·exact this
 have nw:∀b x,H b=YH (.own x)->b≠a:=λb x q z=>by rw[z]at q;rw[q]at mu;exact mu
 have nt:∀b xs,H b=YH (.tup xs)->b≠a:=λb xs q z=>by rw[z]at q;rw[q]at mu;exact mu
 exact hk.vm (λ_ _ _ q=>q) (λc q=>by rw[aL (nw c _ q)];exact q) λc xs q=>by rw[aL (nt c _ q)];exact q
end
noncomputable def Itd(d:RJ)(o:Obj)(kvs:List (Key×V)):It:=
 {λi H=>H d=YH (.ë o (.dK kvs))/\i<kvs.length,λi H x H'=>H'=H/\∃k v,kvs[i]?=YH (k,v)/\x=kV k,λi H=>H d=YH (.ë o (.dK kvs))/\kvs.length<=i}
theorem FQ(h:(bN P w).is k u=true):YM (kV k) u:=by
 cases k with
 |inl i=>obtain⟨t,e⟩:=Xa (show XD i u=true from h);exact⟨t,e⟩
 |inr x=>obtain⟨t,e⟩:=Ws (show Wy x u=true from h);exact⟨t,e⟩
theorem Ea{P:Program}{w:R5}{H:Hp}{h:So}{d:RJ}{o:Obj}{kvs:List (Key×V)}{vs:List (Key×RI)}{ep:Nat}(dd:h.DictAt (bN P w) d vs ep)(ho:h.get? d=YH o){h':So}(ho':h'.get? d=YH o):h'.DictAt (bN P w) d vs ep:=by
 obtain⟨o2,es,e,r⟩:=dd;rw[ho]at e;cases e;exact⟨o,es,ho',r⟩
section
variable{X:Cx}
theorem Dx{P:Program}{w:R5}{K:RS}{tg:Expr}(d it:RJ)(o:Obj)(kvs:List (Key×V))(vs:List (Key×RI))(ep:Nat)(rel:KV kvs vs)(hat:∀h:So,h.get? d=YH o->h.DictAt (bN P w) d vs ep) :
  Y2 P w K tg (Itd d o kvs) [it] it (λi h=>h.IsKeyIter it d i vs.length ep) where
 mem:=by simp
 obj:=λi h st b hb=>by
  have e:b=it:=by simpa using hb
  subst e;obtain⟨o,e,c,d⟩:=st;exact{o,e,λv z=>by rw[d]at z;cases z}
 keep:=λi h h' st k=>by
  obtain⟨o,e,r⟩:=st;exact{o,k it (by simp) o e,r}
 item:=by
  intro X hP hw hK hc i pins s B H E I hf st hg;subst hP hw hK;obtain⟨e,Ý⟩:=hg;have hd:=(show cL X.prog X.w H s.heap d (.ë o (.dK kvs))from I.Æ d _ e).1;have hl:=rel.length;obtain⟨f0,f1,f2,f3,f4,f5⟩:=hf it (by simp);obtain⟨⟨k,v⟩,hx⟩:∃kv,vs[i]?=YH kv:={vs[i]'(()),O7 ()};obtain⟨⟨k',v'⟩,Ĩ⟩:∃kv,kvs[i]?=YH kv:={kvs[i]'(()),O7 ()};have hkk:k'=k:=by
   have:=congrArg (λl=>l[i]?) rel.keys;simp only[Pk,hx,Ĩ]at this;simpa using this
  subst hkk;refine wpAny_pyNext_dict_item st (hat _ hd) hx λkey h' Ũ Å sb=>?_;have I1:Inv X pins B H { s with heap:=h' }:=I.turned (t':=s.toks) (λb o hb e=>(sb.2 b hb).trans e) f0 f1 f3 f4 f5;obtain⟨oi,ei,ci,di⟩:=id Å;exact⟨key,rfl,wg (s:={ s with heap:=h' }) ei ci di ∅ ⟨kV k',H,I1,FQ Ũ,⟨rfl,k',v',Ĩ,rfl⟩,Å,λb hb=>(hf b hb).1⟩⟩
 done:=by
  intro X hP hw hK hc i pins s B H E I hf st hg;subst hP hw hK;obtain⟨e,Ý⟩:=hg;have hd:=(show cL X.prog X.w H s.heap d (.ë o (.dK kvs))from I.Æ d _ e).1;have hl:=rel.length;obtain⟨f0,f1,f2,f3,f4,f5⟩:=hf it (by simp);exact wpAny_pyNext_dict_end (I.ok.hd hc) st (hat _ hd) (by simp;lia) λh' eb=>{rfl,I.turned (t':=s.toks) (λb o hb e=>eb b o hb e) f0 f1 f3 f4 f5}
 self:=λ_ _ _ _ _ st h=>wpAny_pyIter_keyiter st h
end
theorem jT{α β:Type}{F}:∀{l₁:List α}{l₂:List β},l₁.length=l₂.length->(∀(i:Nat) a b,l₁[i]?=YH a->l₂[i]?=YH b->F a b)->Paired F l₁ l₂
 | [],[],_,_=>.nil
 | [],_::_,h,_=>by simp at h
 |_::_,[],h,_=>by simp at h
 |x::xs,y::ys,h,f=>.cons (f 0 x y rfl rfl) (jT (by simpa using h) λi a b ha hb=>f (i+1) a b (by simpa using ha) (by simpa using hb))
theorem DQ{α β:Type}{F}{l₁:List α}{l₂:List β}(h:Paired F l₁ l₂):∀{i:Nat}{a:α}{b:β},l₁[i]?=YH a->l₂[i]?=YH b->F a b:=by
 induction h with
 |nil=>intro i a b h;simp at h
 |cons r t ih=>
  intro i a b ha hb;cases i with
  |zero=>simp only[Vu,Xk]at ha hb;subst ha hb;exact r
  |succ j=>exact ih (by simpa using ha) (by simpa using hb)
section
variable{X:Cx}{tg:Expr}
def Cs(X:Cx)(d:RJ):Prop:=∀o u,X.H₀ d≠YH (.ë o u)
noncomputable def Nv(X:Cx)(tl:TE):TI:=λB H R=>tl B H λx H1=>∃d kvs,x=.ref d/\H1 d=YH (.dK kvs)/\∀o,Cs X d->(kvs.map (·.1)).Nodup->R (Itd d o kvs) (upd H1 d (.ë o (.dK kvs)))
theorem Iw(hl:PE X l tl):PI X tg l (Nv X tl):=by
 intro pins s B H R I h;refine Ì (hl pins s B H _ I h) λv s1 z9=>?_;obtain⟨x,H1,I1,r1,q1⟩:=z9;obtain⟨d,kvs,e,hd,q⟩:=q1;subst e;cases r1;obtain⟨z,hs,vs,rel,dd⟩:=zr I1.Æ hd;obtain⟨ep,dat⟩:=dd.dictAt;obtain⟨o,es,ho,r⟩:=id dat;have hn:Cs X d:=λo u z=>by
  have:=I1.base.rH d o u z;rw[hd]at this;cases this
 refine wpAny_pyIter_dict hs dat ?_;have I2:=I1.freeze hd (by rw[hd];exact Qg) ho;have hfr:upd H1 d (.ë o (.dK kvs)) s1.heap.objs.size=YI:=by
  rw[aL (Qv (RX ho))];exact I1.Æ.fresh (O4 _)
 refine⟨s1.heap.objs.size,[s1.heap.objs.size],_,_,_,rfl,I2.kept (t':=s1.toks) λb o e=>RL _ e,
  Dx d _ o kvs vs ep rel (λh' h2=>Ea (H:=H1) (kvs:=kvs) dat ho h2),{_,RZ _ rfl,rfl,rfl},λb hb=>?_,q o hn (by rw[rel.keys];exact dat.nodup)⟩
 have e:b=s1.heap.objs.size:=by simpa using hb
 subst e;exact I1.yc (O4 _) hfr
def JJ(X:Cx)(D:Y1):St->Hp->Prop:=λB H=>∃d o kvs,Cs X d/\H d=YH (.ë o (.dK kvs))/\D.nx B (upd H d (.dK kvs))
noncomputable def Nu(X:Cx)(tl:TE)(g:TG)(tb:TS):TS:=λD B H=>tl B H λx H1=>∃d kvs,x=.ref d/\H1 d=YH (.dK kvs)/\∀o,Cs X d->(kvs.map (·.1)).Nodup->∃Pv:Nat->St->Hp->Prop,Pv 0 B (upd H1 d (.ë o (.dK kvs)))/\
 (∀i B H,i<=kvs.length->Pv i B H->H d=YH (.ë o (.dK kvs)))/\
 (∀i k v B H,kvs[i]?=YH (k,v)->Pv i B H->g (kV k) B H λσ2 H2=>tb { D with nx:=Pv (i+1),ct:=Pv (i+1),bk:=JJ X D } σ2 H2)/\∀B H,Pv kvs.length B H->D.nx B (upd H d (.dK kvs))
theorem Bn(hp:Yx (RY X.prog X.w) X.A X.env X.xe)(hc:X.calm=true)(hl:PE X l tl)(mono:∀B H (Q Q':V->Hp->Prop),(∀v H,Q v H->Q' v H)->tl B H Q->tl B H Q')
  (hg:PG X tg g) (hb:Ĳ X body tb) (hs:∀x,foldedSetIterable l X.env x=pure x:=by intro _;rfl):PS X (.For tg l body [] pos) (Nu X tl g tb):=by
 intro pins s B H D I h
 refine Ì (bS hp hc (Iw hl) hg hb hs pins s B H { D with nx:=JJ X D } I ?_) λf s1 q=>?_
 ·refine mono B H _ _ (λx H1 q=>?_) h;obtain⟨d,kvs,e,hd,q⟩:=q;refine{d,kvs,e,hd,λo hn hnd=>?_};obtain⟨Pv,h0,hk,st,fin⟩:=q o hn hnd;refine{λi m B H=>m=kvs.length-i/\i<=kvs.length/\Pv i B H,{kvs.length,by simp,Pd _,h0},?_};rintro i m B H ⟨rfl,hi,p⟩;by_cases Ý:i<kvs.length
  ·refine .inr {⟨hk i B H hi p,Ý⟩,Pv (i+1),λB' H' p'=>{kvs.length-(i+1),(),rfl,Ý,p'},λx H' y=>?_};obtain⟨e,k,v,hx,y⟩:=y;subst e y;exact st i k v B _ hx p
  have e:i=kvs.length:=()
  subst e;exact .inl {{hk _ B H hi p,O4 _},d,o,kvs,hn,hk _ B H hi p,fin B H p}
 cases f with
 |next=>
  obtain⟨σ1,H1,I1,d,o,kvs,hn,e,q⟩:=q
  exact{σ1,_,I1.OR e hn,q}
 |cont=>exact q
 |brk=>exact q
 |ret v=>exact q
theorem Ip(hc:X.calm=true:=by rfl):dU X (.type "list") (λxs H Q=>∃d kvs,xs=[.ref d]/\Rd H d (.dK kvs)/\∀l,H l=YI->Q (.ref l) (upd H l (.lst (kvs.map λkv=>kV kv.1)))):=by
 intro pins s B H xs us Q I r h;obtain⟨d,kvs,rfl,e,q⟩:=h;obtain⟨u,rfl,rfl⟩:=YW r;obtain⟨z,hs,vs,rel,dd⟩:=nY I.Æ e;obtain⟨ep,dat⟩:=dd.dictAt;have hl:=rel.length;refine W.kdl_call (W.kdl_dict (knd:=bN X.prog X.w) (kvs:=vs) (ep:=ep) hs) (I.ok.hd hc) dat () λh' tk acc c hk hS ø=>?_;have hp:=I.Æ.fresh (O4 s.heap.objs.size);refine{.ref s.heap.objs.size,_,I.laid (a:=s.heap.objs.size) (o:=.lst (kvs.map λkv=>kV kv.1)) (t':=tk) hk (O4 _) {by rw[OZ];exact z,acc.toList,c,?_,by simpa using hS},rfl,q _ hp};have hsz:acc.size=vs.length:=ø.1;refine jT (by simp[hsz,hl]) λi x y hx hy=>?_;rw[Pk]at hx;obtain⟨k,v,hv,hk⟩:=ø.2 i y (by rw[<-Qc];exact hy);cases Ķ:kvs[i]? with
 |none=>rw[Ķ]at hx;cases hx
 |some kv=>
  rw[Ķ]at hx;have Ĩ:kV kv.1=x:=R6 hx;have:=congrArg (λl=>l[i]?) rel.keys;simp only[Pk,Ķ,hv]at this;have hkk:kv.1=k:=by simpa using this
  rw[<-Ĩ,hkk];exact FQ hk
end
section
variable{prog:Program}{w:R5}{K:Type}[DecidableEq K]{knd:KeyKind prog w K}{A:Sq}{E:RI->RN->Prop}{s:RN}
theorem we(hd:(d==Tn)=false)(q:Q Unit.unit s):wpAny (RY prog w) A (VW d) Q E s:=by
 unfold VW;rw[if_neg (by rw[hd];exact Pa)];exact RK q
theorem A7(h:Pairs knd es Ħ):valueAt Ħ k=YH v->∃j e,(es.findIdx? λe=>knd.is k e.key)=YH j/\es[j]?=YH e/\e.val=v:=by
 induction h with
 |nil=>intro z;cases z
 |@cons e kv es Ħ h1 h2 t ih=>
  intro z;by_cases hk:kv.1=k
  ·subst hk;have:valueAt (kv::Ħ) kv.1=YH kv.2:=by simp[valueAt,Qf]
   rw[this]at z;exact{0,e,by rw[W3,if_pos h1],rfl,by rw[h2];exact R6 z}
  have:valueAt (kv::Ħ) k=valueAt Ħ k:=by simp[valueAt,Qf,hk]
  rw[this]at z;obtain⟨j,f,hj,hf,hv⟩:=ih z;have hn:¬ knd.is k e.key=true:=λq=>hk (knd.inj _ _ _ h1 q);exact{j+1,f,by rw[W3,if_neg hn,hj];rfl,hf,hv}
theorem Ac{id a b kvs Ħ Q}(hda:(a==Tn)=false)(Ď:(b==Tn)=false)(ha:s.heap.DictOf knd a kvs)(hb:s.heap.DictOf knd b Ħ)(hl:kvs.length=Ħ.length)
  (hv:∀(i:Nat) k v,kvs[i]?=YH (k,v)->∃v',valueAt Ħ k=YH v'/\VN A s v v' true) (q:Q true s):wpAny (RY prog w) A (Ux id a b) Q E s:=by
 obtain⟨o,es,ep,ho,hx,hd,hk,hp,hn⟩:=ha
 obtain⟨o2,es2,ep2,ho2,hx2,hd2,hk2,hp2,hn2⟩:=hb
 have hz:es.size=kvs.length:=by rw[<-hp.length];simp
 have hz2:es2.size=Ħ.length:=by rw[<-hp2.length];simp
 unfold Ux
 refine E9 (we hda ?_)
 refine E9 (we Ď ?_)
 refine E9 (Uy ho hd ?_)
 refine E9 (Uy ho2 hd2 ?_)
 rw[if_neg (by simp;lia)]
 refine E9 (XT ho hd ?_)
 refine E9 ?_
 rw[Std.Legacy.Range.forIn_eq_forIn_range']
 simp only[Std.Legacy.Range.size,Nat.sub_zero,Nat.add_sub_cancel,Nat.div_one]
 refine wpAny_forIn_list _ (λrest b s'=>b=(YI,Unit.unit)/\s'=s/\∀i∈rest,i<es.size) _ ?_ ?_ _ _ {rfl,rfl,λi hi=>?_}
 ·rintro i rest c s' ⟨rfl,rfl,hr⟩;have hi:i<es.size:=hr i (by simp);refine E9 (Uy ho hd ?_);rw[Q4 hi];obtain⟨⟨k,v⟩,Ķ⟩:∃kv,kvs[i]?=YH kv:={kvs[i]'(()),O7 ()};obtain⟨Ũ,ĵ⟩:=hp.get? (e:=es[i]) (by simp[hi]) Ķ;obtain⟨k',hk',hh⟩:=hk es[i] (Array.getElem_mem hi);obtain⟨v',hv',he⟩:=hv i k v Ķ;have hkk:k'=k:=knd.inj _ _ _ hk' Ũ;subst hkk;show wpAny _ _ (UY [es[i].key,es[i].val] _>>=_) _ _ _;refine E9 (wpAny_holding ?_);rw[hh,ĵ];refine E9 (wpAny_dictFind_of Ũ ho2 hd2 hk2 ?_);obtain⟨j,f,hj,hf,hfv⟩:=A7 hp2 hv';rw[<-List.findIdx?_toArray,V8]at hj;rw[Qc]at hf;rw[hj];refine E9 (Uy ho2 hd2 ?_);rw[hf];show wpAny _ _ (UY [f.val] (eqBool v f.val)) _ _ _;rw[hfv];refine wpAny_holding (he _ _ _ _ ?_);rw[if_neg ∅];refine E9 (XT ho hd ?_);rw[if_neg (by simp)];exact RK {rfl,rfl,λz hz=>hr z (O8 _ hz)}
 ·rintro c s' ⟨rfl,rfl,_⟩;exact RK q
 have:=(List.mem_range'_1.mp hi).2
 lia
end
theorem xg{κ:Type}[DecidableEq κ]:∀{kvs:List (κ×V)}{i:Nat}{k:κ}{v:V},(kvs.map (·.1)).Nodup->kvs[i]?=YH (k,v)->cf kvs k=YH v
 | [],i,k,v,_,h=>by simp at h
 |p::r,0,k,v,_,h=>by
  simp only[Vu,Xk]at h;subst h;exact cR (p:=(k,v)) rfl
 |p::r,i+1,k,v,hn,h=>by
  rw[Pm]at hn;have hr:=P1.mp hn;have hi:r[i]?=YH (k,v):=by simpa using h
  have hne:¬ p.1=k:=λz=>hr.1 (by rw[z];exact P0 (f:=(·.1)) (Pj hi));rw[cK hne];exact xg hr.2 hi
section
variable{X:Cx}
def FR(K:RS)(H:Hp)(v v':V):Prop:=(v=v'/\wb v=true)\/∃p q xs,v=.ref p/\v'=.ref q/\À K H p xs/\À K H q xs/\xs.all wb=true
theorem Jl(I:Inv X pins B H s)(hu:A.units<TX)(h:FR X.K H v v')(r:YM v u)(r':YM v' u'):VN A s u u' true:=by
 rcases h with⟨rfl,hf⟩|⟨p,q,xs,rfl,rfl,hp,hq,hf⟩
 ·exact qp hf r r' A s
 cases r;cases r';by_cases hpq:p=q
 ·subst hpq;exact .same _
 obtain⟨Â,r1,⟨o,n,e1,c1,_,d1⟩,_⟩:=I.list hp;obtain⟨jts,r2,⟨o2,n2,e2,c2,_,d2⟩,_⟩:=I.list hq;have l1:=r1.length;have l2:=r2.length;have hR:=SeqAt.RcAt.lists (A:=A) (s:=s) (e:=λ_=>true) (l:=p) (b:=q) (items:=Â.toArray) (items2:=jts.toArray) ⟨o,e1,c1,n,d1⟩ ⟨o2,e2,c2,n2,d2⟩ (by simp;lia) hu (λj h1 h2=>by
  simp at h1 h2;obtain⟨x,hx⟩:∃x,xs[j]?=YH x:={xs[j]'(()),O7 ()};obtain⟨u1,g1,w1⟩:=r1.get hx;obtain⟨u2,g2,w2⟩:=r2.get hx;have z1:Â.toArray[j]'(by simpa using h1)=u1:=by
   have:=O7 h1;rw[g1]at this;simpa using (R6 this).symm
  have z2:jts.toArray[j]'(by simpa using h2)=u2:=by
   have:=O7 h2;rw[g2]at this;simpa using (R6 this).symm
  rw[z1,z2];exact qp (QW.mp hf x (Pj hx)) w1 w2 _ _)
 have:((R8 Â.toArray.size).all λ_=>true)=true:=by simp
 rw[this]at hR;exact .of_refs hpq hR
theorem Np(hu:X.A.units+64<TX):Ó X (Sf .Eq) (λx y H Q=>∃a b kvs Ħ,x=.ref a/\y=.ref b/\Rd H a (.dK kvs)/\Rd H b (.dK Ħ)/\kvs.length=Ħ.length/\
  (∀k v,cf kvs k=YH v->∃v',cf Ħ k=YH v'/\FR X.K H v v')/\Q (.bl true) H):=by
 intro pins s B H x y v u Q I rx ry h
 obtain⟨a,b,kvs,Ħ,rfl,rfl,ha,hb,hl,hv,q⟩:=h
 cases rx
 cases ry
 obtain⟨z,hs,vs,rel,dd⟩:=nY I.Æ ha
 obtain⟨z2,ť,vs2,rel2,dd2⟩:=nY I.Æ hb
 have e1:=rel.length
 have e2:=rel2.length
 refine wpAny_richCompare_same_room (op:=.Eq) dd.typeIs dd2.typeIs V9 (SS V9 dd.typeIs PySem.F.entry_dict_eq ?_ (PySem.F.args_dict_eq_2 _ _)) ()
 show wpAny _ _ (Ve "__eq__" {[.ref a,.ref b],[]}>>=_) _ _ _
 refine E9 ?_
 unfold Ve
 refine E9 (VU dd.typeIs ?_)
 show wpAny _ _ (pure (Sd a,Sd b)) _ _ _
 refine RK ?_
 refine E9 (Vv (T:="dict") (b:=true) dd2.typeIs (by rw[Va];kernel_rfl) ?_)
 show wpAny _ _ (Ux "dict.__eq__" a b>>=_) _ _ _
 refine E9 (Ac hs ť dd dd2 () (λi k v hi=>?_) ?_)
 ·obtain⟨⟨k',v'⟩,Ķ⟩:∃kv,kvs[i]?=YH kv:={kvs[i]'(by have:=(Pl.mp hi).1;lia),O7 _};have hr:k'=k/\YM v' v:=DQ rel Ķ hi;obtain⟨rfl,hrv⟩:=hr;obtain⟨w',hw,hq⟩:=hv k' v' (xg (by rw[rel.keys];exact(dd.dictAt.choose_spec).nodup) Ķ);have ĵ:=rel2.val k';rw[hw]at ĵ;cases hvv:valueAt vs2 k' with
  |none=>rw[hvv]at ĵ;exact(show False from ĵ).elim
  |some u'=>
   rw[hvv]at ĵ;exact{u',rfl,Jl I (show X.A.units+1<TX by lia) hq hrv ĵ}
 show wpAny _ _ (ret (.bool true)) _ _ _
 exact RK {.bool true,rfl,(λz=>nomatch z),.bl true,H,I,rfl,q}
structure sy(z y:Str)(ws:List Str):Prop where
 h1:(decide (z.length<y.length)||decide (Wv z<Wv y))=false
 hy:(y.length==0)=false
 hf:(SQ z y 0 z.length (z.length+1)).isEmpty=false
 hx:z.length<=sizeLine
 hn:ws.length<=sizeLine
 e:Builtin.Str.partsBetween z (SQ z y 0 z.length (z.length+1)) y.length=ws
theorem vL:∀tk ws,YK (ws.map V.str) (strsFrom tk ws)
 |_,[]=>.nil
 |tk,x::r=>.cons {_,rfl} (vL (tk+1) r)
theorem GU:MtR X "str.split" (λx xs H Q=>∃z y ws,x=.str z/\xs=[.str y]/\sy z y ws/\∀l,H l=YI->Q (.ref l) (upd H l (.lst (ws.map V.str)))):=by
 intro pins s B H x xs v us Q I rx rs h;obtain⟨z,y,ws,rfl,rfl,ok,q⟩:=h;obtain⟨t,rfl⟩:=rx;obtain⟨u,rfl,ru⟩:=rs.one;obtain⟨t2,rfl⟩:=ru;obtain⟨h1,hy,hf,hx,hn,e⟩:=ok;subst e;refine UL F.slot_str_split (WU _ _ _) F.entry_str_split (F.args_str_split_2 _ _) (meets_str_split_sep z y t t2 h1 hy hf hx hn) ?_;exact{.ref _,_,I.Ld (vL _ _) (by rw[OZ];exact hn),rfl,q _ I.fresh}
theorem Y0(ho:PE X o to)(ha:PA X [e] t)(ã:SV o "split" X.env (SD o X.env)=SD o X.env:=by rfl)
  (Œ:((SJ Ï (RV [e] X.env)).all (λx=>!x.1)&&(TM Ï (SR [] X.env)).all (λx=>x.1.isSome)
   &&decide ([e].length+([]:List Ue).length+(if([]:List Ue).isEmpty then 0 else 1)<30))=true:=by rfl)
  (â:(apos.endLine==Ï.line)=true:=by rfl) (hs:RV [e] X.env=(false,SD e X.env)::RV [] X.env:=by rfl) (ö:(SJ Ï (RV [] X.env)).any (·.1)=false:=by rfl) :
  PE X (.Call (.Attribute o "split" apos) [e] [] Ï) (tBM X.K "str" (λx xs H Q=>∃z y ws,x=.str z/\xs=[.str y]/\sy z y ws/\∀l,H l=YI->Q (.ref l) (upd H l (.lst (ws.map V.str)))) to t):=
 Gw PySem.F.plainAttrs_str PySem.F.slot_str_split PySem.F.type_str_split GU ho ha ã Œ â hs ö
noncomputable def MW(z:Str)(n:Int):Str:=if n<1 then R7 else if(n==1||z.length==0)=true then z else⟨(Se n.toNat z.cps).foldl (· ++ ·) #[]⟩
noncomputable def Mq:R2:=λx y H Q=>match x,y with
 | .int i,.int j=>Dl i j/\Q (.int (i*j)) H
 | .str z,.int n=>n<1000/\-1000<n/\z.length<=1000/\Q (.str (MW z n)) H
 | .ref p,.int k=>∃xs,H p=YH (.lst xs)/\-(2^63)<=k/\k<2^63/\xs.length*k.toNat<=sizeLine/\∀l,H l=YI->Q (.ref l) (upd H l (.lst (Se k.toNat xs).flatten))
 |_,_=>False
theorem DG(xs:List (Array Nat)):∀acc,(xs.foldl (· ++ ·) acc).size=acc.size+(xs.map (·.size)).sum:=by
 induction xs with
 |nil=>intro acc;simp
 |cons x r ih=>intro acc;rw[P9,ih,Xl,Pm,QY];lia
theorem F1(z:Str)(n:Nat):(⟨(Se n z.cps).foldl (· ++ ·) #[]⟩:Str).length=n*z.length:=by
 show((Se n z.cps).foldl (· ++ ·) #[]).size=_;rw[DG,List.map_replicate];have:∀m k:Nat,(Se m k).sum=m*k:=λm k=>by
  induction m with
  |zero=>simp
  |succ m ih=>rw[QA,QY,ih,Nat.succ_mul];lia
 rw[this];simp[Str.length]
theorem dh:Ó X (SX .Mult) Mq:=by
 intro pins s B H x y v u Q I rx ry h;cases x with
 |int i=>
  cases y with
  |int j=>exact NF pins s B H _ _ v u Q I rx ry h
  |_=>exact(show False from h).elim
 |str z=>
  cases y with
  |int n=>
   obtain⟨h1,h2,h3,q⟩:=h;obtain⟨t,rfl⟩:=rx;obtain⟨t2,rfl⟩:=ry;have hb:¬ n<1->n.toNat*z.length<=1000000:=λhn=>by
    have e1:n.toNat<=1000:=()
    exact Pf (Nat.mul_le_mul e1 h3) ∅
   refine P.mul_str (by rw[decide_eq_false (),decide_eq_false ()];rfl) (λhn _=>?_) (λhn _=>?_) ?_
   ·intro z1;have h0:(0:Int)<n:=()
    have:=Int.lt_mul_of_ediv_lt h0 z1;have e2:((z.length:Int))*n<=1000*1000:=RA () () () ∅;lia
   ·unfold Builtin.Str.tooLong;have:=hb hn;rw[Nat.mul_comm]at this;refine decide_eq_false ?_;rw[Ua];lia
   unfold MW at q;by_cases c1:n<1
   ·rw[if_pos c1]at q⊢;exact{∅,.str _,H,I.tok _,{_,rfl},q}
   rw[if_neg c1]at q⊢;by_cases c2:(n==1||z.length==0)=true
   ·rw[if_pos c2]at q⊢;exact{.str _,H,I,{_,rfl},q}
   rw[if_neg c2]at q⊢;refine{?_,.str _,H,I.tok _,{_,rfl},q};rw[F1];have:=hb c1;rw[Ua];lia
  |_=>exact(show False from h).elim
 |ref p=>
  cases y with
  |int k=>
   obtain⟨xs,h1,h2,h3,h4,q⟩:=h;exact J3 pins s B H _ _ v u Q I rx ry ⟨p,k,xs,rfl,rfl,h1,h2,h3,h4,q⟩
  |_=>exact(show False from h).elim
 |_=>cases y<;>exact(show False from h).elim
theorem MN (i):∀B H (Q Q':V->Hp->Prop),(∀v H,Q v H->Q' v H)->zO i B H Q->zO i B H Q':=by
 intro B H Q Q' h q;unfold zO at q⊢;split at q
 ·exact h _ _ q
 exact q.elim
def Mp(K:RS)(H:Hp)(a b:RJ):Prop:=∃kvs Ħ,Rd H a (.dK kvs)/\Rd H b (.dK Ħ)/\kvs.length=Ħ.length/\∀k v,cf kvs k=YH v->∃v',cf Ħ k=YH v'/\FR K H v v'
noncomputable def NY(K:RS):R2:=λx y H Q=>match x,y with
 | .ref p,.ref q=>((∃d e,lQ K H (.ref p) d/\lQ K H (.ref q) e/\Td d=true/\Td e=true/\Q (.bl (WZ d e)) H)\/(∃xs,À K H p xs/\À K H q xs/\xs.all wb=true/\Q (.bl true) H))\/(Mp K H p q/\Q (.bl true) H)
 |x,y=>Dz x y=true/\Q (.bl (decide (x=y))) H
theorem cn(hu:X.A.units+64<TX):Ó X (Sf .Eq) (NY X.K):=((M5 hu).or (Np hu)).imp λx y H Q q=>by
 by_cases hr:∃p q,x=V.ref p/\y=V.ref q
 ·obtain⟨p,q',rfl,rfl⟩:=hr;rcases q with q|⟨⟨kvs,Ħ,h1,h2,h3,h4⟩,h5⟩
  ·exact .inl q
  exact .inr ⟨p,q',kvs,Ħ,rfl,rfl,h1,h2,h3,h4,h5⟩
 refine .inl ?_;cases x<;>cases y<;>first|exact q|exact absurd {_,_,rfl,rfl} hr
inductive JZ(xs:List V)(H:Hp)(Q:VK):Prop
 |mk (a kvs) (h0:xs=[.ref a]) (h1:Rd H a (.dK kvs)) (q:Q (.int (kvs.length:Nat)) H):JZ xs H Q
theorem gI:dU X (.builtin "len") (λxs H Q=>HV X.K xs H Q\/JZ xs H Q):=Nd.or λpins s B H xs us Q I r ⟨a,kvs,h0,h1,q⟩=>LL pins s B H xs us Q I r ⟨a,kvs,h0,h1,q⟩
theorem sr(hc:X.calm=true:=by rfl):dU X (.type "list") (λxs H Q=>(∃p ys,xs=[.ref p]/\(À X.K H p ys\/È X.K H p ys)/\∀l,H l=YI->Q (.ref l) (upd H l (.lst ys)))\/∃d kvs,xs=[.ref d]/\Rd H d (.dK kvs)/\∀l,H l=YI->Q (.ref l) (upd H l (.lst (kvs.map λkv=>kV kv.1)))):=jt.or (Ip hc)
end
section
variable{X:Cx}{pins:List (RJ×Obj)}{B:St}{H:Hp}{s:RN}
noncomputable def Itz(K:RS)(a b:RJ):It:=
  ⟨λi H=>∃xs ys x y,À K H a xs/\À K H b ys/\xs[i]?=YH x/\ys[i]?=YH y,
   λi H v H'=>∃T x y,v=.ref T/\H T=YI/\H'=upd H T (.tup [x,y])/\∀xs ys,À K H a xs->À K H b ys->xs[i]?=YH x/\ys[i]?=YH y,
   λi H=>∃xs ys,À K H a xs/\À K H b ys/\(xs.length<=i\/ys.length<=i)⟩
def MI(z TI TO i1 i2 a b:RJ)(i:Nat)(h:So):Prop:=IsZip h z TI TO .none/\IsPair h TI (.ref i1) (.ref i2)/\(∃u v,IsPair h TO u v)/\h.IsListIter i1 a i/\h.IsListIter i2 b i
theorem EG{P:Program}{w:R5}{K:RS}{elts:List Expr}{x1}{pos:Pos}{a b z TI TO i1 i2:RJ}(D:ZipApart z TI TO i1 i2 a b) :
  Y2 P w K (.Tuple elts x1 pos) (Itz K a b) [z,TI,TO,i1,i2] z (MI z TI TO i1 i2 a b) where
 mem:=by simp
 obj:=λi h st c hc=>by
  obtain⟨hz,hI,⟨u,v,hO⟩,⟨o1,e1,_,d1⟩,⟨o2,e2,_,d2⟩⟩:=st;simp only[O2,Po,or_false]at hc;rcases hc with rfl|rfl|rfl|rfl|rfl
  ·exact{_,hz,λv q=>by cases (show XI _=Wm v from q)}
  ·exact{_,hI,λv q=>by cases (show Data.seq _ _=Wm v from q)}
  ·exact{_,hO,λv q=>by cases (show Data.seq _ _=Wm v from q)}
  ·exact{o1,e1,λv q=>by rw[d1]at q;cases q}
  exact{o2,e2,λv q=>by rw[d2]at q;cases q}
 keep:=λi h h' st k=>by
  obtain⟨hz,hI,⟨u,v,hO⟩,h1,h2⟩:=st;exact{k z (by simp) _ hz,k TI (by simp) _ hI,{u,v,k TO (by simp) _ hO},h1.at λo e=>k i1 (by simp) o e,h2.at λo e=>k i2 (by simp) o e}
 item:=by
  intro X hP hw hK hc i pins s B H E I hf st hg;subst hP hw hK;obtain⟨xs,ys,x,y,hq,ű,hx,hy⟩:=hg;obtain⟨Â,rv,p,hz'⟩:=I.list hq;obtain⟨its',rv',p',hz''⟩:=I.list ű;obtain⟨u,hu,ru⟩:=rv.get hx;obtain⟨v,hv,rv2⟩:=rv'.get hy;obtain⟨hz,hI,⟨u0,v0,hO⟩,h1,h2⟩:=st;have hT:=I.yc (H':=H) (O4 s.heap.objs.size) (I.Æ.fresh (O4 _));have lt:∀{c:RJ}{o:Obj},s.heap.get? c=YH o->s.heap.objs.size≠c:=λe=>Qv (RX e);refine wpAny_pyNext_zip_item D hz hI hO h1 h2 p.isList p'.isList (x:=u) (y:=v) (by simpa using hu) (by simpa using hv) λh' a1 a2 a3 a4 a5 a6 a7=>?_;have I1:Inv X pins B H { s with heap:=h',toks:=s.toks }:=I.Cn (ch:=[z,TI,TO,i1,i2]) hf λc o hc q=>a7 c o (λe=>hc (by simp[e])) (λe=>hc (by simp[e])) (λe=>hc (by simp[e])) (λe=>hc (by simp[e])) q;have I2:=I1.NM (u:=.tup [x,y]) hT I.sz {by show 2<=sizeLine;decide,[u,v],.cons ru (.cons rv2 .nil),{_,a5,rfl,_,rfl}};refine⟨_,rfl,wpAny_letOwnedTupleGo_zip (s:={ s with heap:=h' }) a1 λh2' hz2 ť=>?_⟩;have f0:=hf z (by simp);have hI':h'.get? TI=_:=a7 TI _ D.TIz D.TITO D.TIi1 D.TIi2 hI;have zT:z≠s.heap.objs.size:=Pr (lt hz);refine⟨.ref s.heap.objs.size,_,I2.turned (t':=s.toks) (it:=z) (λc o hc q=>(ť.2 c hc).trans q) (by rw[aL zT];exact f0.1) f0.2.1 f0.2.2.2.1 f0.2.2.2.2.1 f0.2.2.2.2.2,rfl,
   {_,x,y,rfl,hT.1,rfl,λxs' ys' q q'=>by rw[I.tB q hq,I.tB q' ű];exact⟨hx,hy⟩},{hz2,(ť.2 TI D.TIz).trans hI',{u,v,(ť.2 TO D.TOz).trans a2},a3.at λo q=>(ť.2 i1 D.i1z).trans q,a4.at λo q=>(ť.2 i2 D.i2z).trans q},λc hc=>?_⟩
  have cT:c≠s.heap.objs.size:=by
   simp only[O2,Po,or_false]at hc;rcases hc with rfl|rfl|rfl|rfl|rfl
   ·exact zT
   ·exact Pr (lt hI)
   ·exact Pr (lt hO)
   ·obtain⟨o,e,_⟩:=h1;exact Pr (lt e)
   obtain⟨o,e,_⟩:=h2;exact Pr (lt e)
  rw[aL cT];exact(hf c hc).1
 done:=by
  intro X hP hw hK hc i pins s B H E I hf st hg;subst hP hw hK;obtain⟨xs,ys,hq,ű,hx⟩:=hg;obtain⟨Â,rv,p,hz'⟩:=I.list hq;obtain⟨its',rv',p',hz''⟩:=I.list ű;obtain⟨hz,hI,⟨u0,v0,hO⟩,h1,h2⟩:=st;have hl:=rv.length;have hl':=rv'.length;refine wpAny_pyNext_zip_end (I.ok.hd hc) D hz hI hO h1 h2 p.isList p'.isList (by simp;lia) λh' eb=>{rfl,?_};exact I.Cn (ch:=[z,TI,TO,i1,i2]) hf λc o hc q=>eb c o (λe=>hc (by simp[e])) (λe=>hc (by simp[e])) (λe=>hc (by simp[e])) (λe=>hc (by simp[e])) q
 self:=λ_ _ _ _ _ st h=>Xy st.1 h
noncomputable def OA(K:RS)(ta:TA):TI:=λB H R=>ta B H λvs H1=>∃a b,vs=[.ref a,.ref b]/\(∃xs,À K H1 a xs)/\(∃ys,À K H1 b ys)/\R (Itz K a b) H1
theorem D9:TB "zip"=YH (.type "zip"):=by decide+kernel
theorem KW{x1}(hg:Gl X "zip")(hm:X.mg "zip"=YI)(ha:PA X [a,b] ta)(he:RV [a,b] X.env=(false,SD a X.env)::RV [b] X.env:=by rfl)
  (ò:(SJ pos (RV [b] X.env)).any (·.1)=false:=by rfl):PI X (.Tuple elts x1 pos2) (.Call (.Name "zip" p) [a,b] [] pos) (OA X.K ta):=by
 intro pins s B H R I h
 refine Call_ (lP I hg hm D9 (SU (Ì (ha pos pins s B H _ I h) λus s1 ⟨vs,H1,I1,r1,q1⟩=>?_) he ò))
 obtain⟨a,b,e,⟨xs,hq⟩,⟨ys,ű⟩,q⟩:=q1
 subst e
 obtain⟨u,v,rfl,ru,rv⟩:=Y3 r1
 cases ru
 cases rv
 obtain⟨Â,rv1,p1,hz1⟩:=I1.list hq
 obtain⟨its',rv2,p2,hz2⟩:=I1.list ű
 have lt:∀{c:RJ}{zs:Array RI},s1.heap.IsList c zs->c<s1.heap.objs.size:=λh=>by obtain⟨o,e,_⟩:=h;exact RX e
 refine call_zip_2 p1.isList p2.isList λh' hz hI hO h1 h2 hsz hk=>?_
 refine Xy hz ?_
 refine{s1.heap.objs.size+4,[s1.heap.objs.size+4,s1.heap.objs.size+2,s1.heap.objs.size+3,s1.heap.objs.size,s1.heap.objs.size+1],_,_,H1,rfl,I1.kept (t':=s1.toks) hk,EG (zipApart_new (lt p1.isList) (lt p2.isList)),{hz,hI,{_,_,hO},h1,h2},λc hc=>?_,q}
 have le:s1.heap.objs.size<=c:=by
  simp only[O2,Po,or_false]at hc;rcases hc with h|h|h|h|h
  ·rw[h];exact Ql _ _
  ·rw[h];exact Ql _ _
  ·rw[h];exact Ql _ _
  ·rw[h];exact O4 _
  rw[h];exact Ql _ _
 exact I1.yc le (I1.Æ.fresh le)
end
theorem Jd{K:Uc}{a b:RJ}{xs ys:List V}{g:TG}{tb:TS}{D:Y1}{B:St}{H:Hp}(Pv:Nat->St->Hp->Prop)(h0:Pv 0 B H)(hl:∀i B H,i<=xs.length->Pv i B H->À K H a xs/\À K H b ys)(hle:xs.length=ys.length)
  (hs:∀i x y B H T,xs[i]?=YH x->ys[i]?=YH y->Pv i B H->H T=YI->g (.ref T) B (upd H T (.tup [x,y])) λσ2 H2=>tb { D with nx:=Pv (i+1),ct:=Pv (i+1),bk:=D.nx } σ2 H2) (hd:∀B H,Pv xs.length B H->D.nx B H) :
  ∃W:Nat->Nat->St->Hp->Prop,(∃m,W 0 m B H)/\∀i m B H,W i m B H->
   ((Itz K a b).stop i H/\D.nx B H)\/((Itz K a b).go i H/\∃N,(∀B' H',N B' H'->∃m',m'<m/\W (i+1) m' B' H')/\∀x H',(Itz K a b).Ř i H x H'->g x B H' λσ2 H2=>tb { D with nx:=N,ct:=N,bk:=D.nx } σ2 H2):=by
 refine{λi m B H=>m=xs.length-i/\i<=xs.length/\Pv i B H,{xs.length,by simp,Pd _,h0},?_}
 rintro i m B H ⟨rfl,hi,p⟩
 obtain⟨q,q'⟩:=hl i B H hi p
 by_cases Ý:i<xs.length
 ·have hlt':i<ys.length:=()
  refine .inr {{xs,ys,xs[i],ys[i],q,q',by simp[Ý],by simp[hlt']},Pv (i+1),λB' H' p'=>{xs.length-(i+1),(),rfl,Ý,p'},λv H' y=>?_};obtain⟨T,x,y,rfl,hT,rfl,h⟩:=y;obtain⟨e1,e2⟩:=h xs ys q q';exact hs i x y B _ T e1 e2 p hT
 have e:i=xs.length:=()
 subst e
 exact .inl {{xs,ys,q,q',Pg (O4 _)},hd B H p}
set_option maxHeartbeats 4000000
section
variable{X:Cx}
theorem FC(ho:PE X o to)(ã:SV o "pop" X.env (SD o X.env)=SD o X.env:=by rfl)(â:(apos.endLine==Ï.line)=true:=by rfl) :
  PE X (.Call (.Attribute o "pop" apos) [] [] Ï) (JU X.K "list" Ik to):=
 GN Uv PySem.F.slot_list_pop PySem.F.type_list_pop Kf ho ã â
theorem DY:MtR X "dict.clear" (λx xs H Q=>∃a kvs,x=.ref a/\xs=[]/\H a=YH (.dK kvs)/\Q .Ë (upd H a (.dK []))):=by
 intro pins s B H x xs v us Q I rx rs h;obtain⟨a,kvs,rfl,rfl,e,q⟩:=h;cases rx;obtain rfl:=YK.zero rs;exact IF I e λs' I'=>{.Ë,_,I',rfl,q}
theorem FH(ho:PE X o to)(ã:SV o "clear" X.env (SD o X.env)=SD o X.env:=by rfl)(â:(apos.endLine==Ï.line)=true:=by rfl) :
  PE X (.Call (.Attribute o "clear" apos) [] [] Ï) (JU X.K "dict" (λx xs H Q=>∃a kvs,x=.ref a/\xs=[]/\H a=YH (.dK kvs)/\Q .Ë (upd H a (.dK []))) to):=
 GN PySem.F.plainAttrs_dict Vs PySem.F.type_dict_clear DY ho ã â
end
section
variable{X:Cx}{e:Expr}{te:TE}{es:List Expr}{t:Str->TE}{pos:Pos}
def PJ(X:Cx)(es:List Expr)(t:Str->TE):Prop:=
 ∀(acc:Str)(pins:List (RJ×Obj))(s:RN)(B:St)(H:Hp)(Q:VK),Inv X pins B H s->t acc B H Q->wpAny (RY X.prog X.w) X.A (Yz acc (evalEach es X.env)) (EP X pins B Q) X.xe s
theorem Mn:PJ X [] (λacc _ H Q=>acc.length<=sizeLine/\Q (.str acc) H):=λacc pins s B H Q I h=>by
 show wpAny _ _ (Yz acc []) _ _ _;exact joinParts_nil (Q:=EP X pins B Q) {.str acc,H,I.tok _,{_,rfl},h.2} h.1
theorem BU(he:PE X e te)(ht:PJ X es t):PJ X (e::es) (λacc B H Q=>te B H λv H'=>∃x,v=.str x/\(acc++x).length<=sizeLine/\t (acc++x) B H' Q):=λacc pins s B H Q I h=>by
 show wpAny _ _ (Yz acc (SD e X.env::evalEach es X.env)) _ _ _;refine joinParts_cons (Ì (he pins s B H _ I h) λv s1 z9=>?_);obtain⟨x,H1,I1,r1,y,e1,l1,q1⟩:=z9;subst e1;obtain⟨tk,rfl⟩:=r1;exact{l1,ht _ pins s1 B H1 Q I1 q1}
theorem Jm(h:PJ X (a::b::es) t):PE X (.JoinedStr (a::b::es) pos) (λB H Q=>t R7 B H Q):=λpins s B H Q I q=>JoinedStr_many (h R7 pins s B H Q I q)
theorem KH(he:PE X e te):PE X (.FormattedValue e (-1) YI pos) (λB H Q=>te B H λv H'=>(∃i,v=.int i/\i.natAbs.log2<1920/\Q (.str (toString i:String)) H')\/∃x,v=.str x/\x.length<=sizeLine/\Q (.str x) H'):=λpins s B H Q I h=>by
 refine FormattedValue_plain (Ì (he pins s B H _ I h) λv s1 z9=>?_);obtain⟨x,H1,I1,r1,q1⟩:=z9;rcases q1 with⟨i,rfl,hi,q1⟩|⟨y,rfl,hy,q1⟩
 ·obtain⟨tk,rfl⟩:=r1;exact formatField_int_small hi {.str (toString i:String),H1,I1.tok _,{_,rfl},q1}
 obtain⟨tk,rfl⟩:=r1;exact formatField_str (λt' tk=>{.str y,H1,I1.tok _,{_,rfl},q1}) hy
end
section
variable{X:Cx}
theorem gc(ho:PE X o to)(ha:PA X [e] t)(ã:SV o "extend" X.env (SD o X.env)=SD o X.env:=by rfl)
  (Œ:((SJ Ï (RV [e] X.env)).all (λx=>!x.1)&&(TM Ï (SR [] X.env)).all (λx=>x.1.isSome)
   &&decide ([e].length+([]:List Ue).length+(if([]:List Ue).isEmpty then 0 else 1)<30))=true:=by rfl)
  (â:(apos.endLine==Ï.line)=true:=by rfl) (hs:RV [e] X.env=(false,SD e X.env)::RV [] X.env:=by rfl) (ö:(SJ Ï (RV [] X.env)).any (·.1)=false:=by rfl) :
  PE X (.Call (.Attribute o "extend" apos) [e] [] Ï) (tBM X.K "list" Cq to t):=
 Gw Uv PySem.F.slot_list_extend PySem.F.type_list_extend DJ ho ha ã Œ â hs ö
end
section
variable{prog:Program}{w:R5}{K:Type}[DecidableEq K]{knd:KeyKind prog w K}{A:Sq}{E:RI->RN->Prop}{s:RN}
end
section
variable{X:Cx}
end
section
variable{prog:Program}{w:R5}{A:Sq}{E:RI->RN->Prop}{s:RN}
end
section
variable{X:Cx}
end
section
variable{K:RS}{H:Hp}{Q:VK}
theorem Ê{p:RJ}{xs:List V}{v:V}{j:Nat}(h:È K H p xs)(e:xs[j]?=YH v)(q:Q v H):ixS K p (j:Int) H Q\/dgI p (.int (j:Int)) H Q:=.inl ⟨xs,v,.inr h,jh e,q⟩
theorem ï(h:À K H p xs)(e:į xs i=YH v)(q:Q v H):ixS K p i H Q\/dgI p (.int i) H Q:=.inl ⟨xs,v,.inl h,e,q⟩
theorem ä(h:H d=YH (.dK kvs))(e:cf kvs (.inr x)=YH v)(q:Q v H):dgI d (.str x) H Q:={v,e▸j4.k (k:=.inr x) h,q}
theorem Ø(h:H a=YH (.ins C dx fs))(c:ō K C)(n:aO K C f)(e:fs.lookup f=YH v)(q:Q v H):om K f (.ref a) H Q:=⟨a,C,dx,fs,v,rfl,h,c,n,e,q⟩
theorem lnl(h:H p=YH (.lst xs))(q:Q (.int (xs.length:Nat)) H):HV K [.ref p] H Q\/JZ [.ref p] H Q:=.inl {_,_,rfl,.inl {_,À.of h,rfl},q}
theorem isB(ty:oj K H x t)(k:T3 K t (.ref D)=YH b)(q:R b H):zQ K [x,.ref D] H λv H1=>zH K v H1 R:={x,.ref D,t,b,rfl,(λz=>by cases z),ty,k,b,rfl,q}
end
section
variable{X:Cx}
end
def x8(P:Program)(w:R5)(K:RS)(mg:Str->Option RI)(base:So)(k:Nat)(x:Str)(ps:List Str)(dvs:List V)(sp:Sp):Prop:=
 ∃f fd ds,j2 P w K mg base ŗ k f fd ps sp/\YO K fd ps []/\YO K fd ps ds/\YK dvs ds/\Tq K (.ref f)=true/\mg x=YH (.ref f)/\∃oc od ú,K.lookup f=YH ⟨oc,od,.func fd,ú⟩
section
variable{P:Program}{w:R5}{K:RS}{mg:Str->Option RI}{base:So}{k:Nat}{x:Str}{ps:List Str}{dvs:List V}{sp:Sp}
theorem x8.has(D:x8 P w K mg base k x ps dvs sp):Has P w K mg base k x ps sp:=by
 obtain⟨f,fd,ds,F,b,_,_,kp,m,l⟩:=D;exact⟨f,fd,F,b,kp,m,l⟩
structure qA(K:RS)(mg:Str->Option RI)(x:Str)(st:Si)(ps:List Str)(dvs:List V):Prop where
 ex:∃(f:RJ)(oc:RI)(od:Option RJ)(dV kV doc pm:RI)(an:Option RJ)(Ã ct:RI)(ú:Array (Option RI))(ds:List RI),K.lookup f=YH {oc,od,.func (Te x x (bG st) (bp st) (aq st) dV kV doc pm an Ã ct),ú}/\UP K Ã x=true/\Tq K (.ref f)=true/\mg x=YH (.ref f)/\YK dvs ds/\
  YO K (Te x x (bG st) (bp st) (aq st) dV kV doc pm an Ã ct) ps []/\YO K (Te x x (bG st) (bp st) (aq st) dV kV doc pm an Ã ct) ps ds
abbrev qA.Hz{st:Si}(_:qA K mg x st ps dvs)(P:Program)(w:R5)(base:So)(k:Nat)(sp:Sp):Prop:=x8 P w K mg base k x ps dvs sp
theorem qA.hs{st N}(F:qA K mg x st ps dvs)(S:aE N ps (aq st))
  (í:∀f Ã A outer s H vs Q E,dO k (A.deeper (Ui x (aq st) s.heap.objs.size f Ã))->(A.deeper (Ui x (aq st) s.heap.objs.size f Ã)).units+64<TX->sp vs H Q E->
   ∃t,Ĳ (uX ŗ P w K mg base N x (aq st) f Ã A outer s H E).nox (bp st) t/\t { nx:=λ_ H'=>Q .Ë H',rt:=Q } (YT N vs) H) (len:∀vs H Q E,sp vs H Q E->vs.length=ps.length:=by intro _ _ _ _ h;cases h;subst_vars;rfl):x8 P w K mg base (k+1) x ps dvs sp:=by
 obtain⟨f,oc,od,dV,kV,doc,pm,an,Ã,ct,ú,ds,lk,ņ,kp,m,hv,b1,b2⟩:=F.ex
 refine{f,_,ds,GO lk ņ S len λA outer s H vs Q E hr Ű=>?_,b1,b2,hv,kp,m,oc,od,ú,lk}
 obtain⟨t,h,q⟩:=í f Ã A outer s H vs Q E hr hr.units Ű
 exact⟨t,h.nox,q⟩
end
theorem tO(D:x8 X.prog X.w X.K X.mg X.base j x ps dvs sp)(hr:dO k X.A)(ha:PA X (e::es) t)(hj:j<=k:=by decide)(hg:Gl X x:=by rfl)
  (Ď:(x==("__debug__":Str))=false:=by decide) (he:RV (e::es) X.env=(false,SD e X.env)::RV es X.env:=by rfl) (ò:(SJ pos (RV es X.env)).any (·.1)=false:=by rfl) :
  PE X (.Call (.Name x p) (e::es) [] pos) (vH sp dvs E0 t):=by
 obtain⟨f,fd,ds,F,_,b,hv,kp,m,_⟩:=D
 exact Cz F (hr.mono hj) hg m kp b hv wx ha Ď he ò
noncomputable def cv(a b c:Option Tok):Array (Int×RI):=((a.map λt=>((0:Int),TL 0 t)).toList++((b.map λt=>((1:Int),TL 1 t)).toList++(c.map λt=>((2:Int),TL 2 t)).toList)).toArray
noncomputable def zJ(a b c:Option Tok):Array Nat:=((a.map λ_=>0).toList++((b.map λ_=>1).toList++(c.map λ_=>2).toList)).toArray
noncomputable def Ů(a b c:Option Tok)(led:Bool):SetTable:={ mask:=7,place:=zJ a b c,dummies:=#[],finger:=0,led:=led,moves:=0,plain:=true }
noncomputable abbrev Ē(a b c:Option Tok)(ep:Nat)(led:Bool):Obj:={ cls:=.type "set",dict:=YI,data:=.set (cv a b c) ep (Ů a b c led) }
theorem lay0(b c:Option Tok)(led:Bool)(t:Tok):layNew (Ů YI b c led) (cv YI b c) 0 (.int 0 t)=(cv (YH t) b c,Ů (YH t) b c led,false,false):=by cases b<;>cases c<;>kernel_rfl
theorem OQ(a c:Option Tok)(led:Bool)(t:Tok):layNew (Ů a YI c led) (cv a YI c) 1 (.int 1 t)=(cv a (YH t) c,Ů a (YH t) c led,false,false):=by cases a<;>cases c<;>kernel_rfl
theorem Oi(a b:Option Tok)(led:Bool)(t:Tok):layNew (Ů a b YI led) (cv a b YI) 2 (.int 2 t)=(cv a b (YH t),Ů a b (YH t) led,false,false):=by cases a<;>cases b<;>kernel_rfl
theorem xD (a b c led):(Ů a b c led).tooFull=false:=by cases a<;>cases b<;>cases c<;>kernel_rfl
theorem fu (a b c led):(Ů a b c led).fits (cv a b c).size=true:=by cases a<;>cases b<;>cases c<;>kernel_rfl
theorem jj (a b c):(cv a b c).size<=3:=by cases a<;>cases b<;>cases c<;>simp[cv]
section
variable{prog:Program}{w:R5}{A:Sq}{E:RI->RN->Prop}{s:RN}{S:RJ}{a b c:Option Tok}{ep:Nat}{led:Bool}
theorem pW:ElemsOf (Up prog w) (cv a b c).toList:=λe he=>by
 have:e.2=.int e.1 (match e.2 with| .int _ t=>t|_=>0):=by
  cases a<;>cases b<;>cases c<;>simp[cv]at he<;>rcases he with rfl|rfl|rfl<;>rfl
 rw[this];exact{{e.1,W5 _ _ _ _,by cases a<;>cases b<;>cases c<;>simp[cv]at he<;>rcases he with rfl|rfl|rfl<;>rfl},rfl}
theorem Ab(ho:s.heap.get? S=YH (Ē a b c ep led))(lay:layNew (Ů a b c led) (cv a b c) ((Up prog w).hash r) (.int r t)=(es',t',false,false))(pl:t'.plain=true)(tf:t'.tooFull=false)(sz:es'.size<=3)
  (nf:(cv a b c).toList.findIdx? (λe=>(Up prog w).is r e.2)=YI) (q:Q true { s with heap:=s.heap.update S (Yh es' t') }):wpAny (RY prog w) A (Uz S (.int r t) ((Up prog w).hash r)) Q E s:=by
 have h4:=jj a b c
 unfold Uz Yi
 refine wpAny_holding (E9 (TJ ho rfl (fu a b c led) ?_))
 dsimp only
 rw[byScan_of (knd:=Up prog w) rfl (by unfold scanBound;lia) pW]
 simp only[if_true]
 unfold setAddByScan
 refine E9 (E9 (T1 (E9 (Xz (W5 prog w r t) ho rfl (fu a b c led) pW ?_))))
 rw[nf]
 dsimp only
 rw[lay]
 refine E9 (RK ?_)
 dsimp only
 rw[if_pos pl]
 refine E9 (RK (a:=true) ?_)
 simp only[if_true]
 refine E9 (wpAny_storeSet_of ho rfl ?_ (Pf sz ∅))
 rw[tf]
 exact RK (RK q)
theorem JV(ho:s.heap.get? S=YH (Ē a b c ep led))(nf:(cv a b c).toList.findIdx? (λe=>(Up prog w).is r e.2)=YH j)(q:Q false s):wpAny (RY prog w) A (Uz S (.int r t) ((Up prog w).hash r)) Q E s:=by
 have h4:=jj a b c;unfold Uz Yi;refine wpAny_holding (E9 (TJ ho rfl (fu a b c led) ?_));dsimp only;rw[byScan_of (knd:=Up prog w) rfl (by unfold scanBound;lia) pW];simp only[if_true];unfold setAddByScan;refine E9 (E9 (T1 (E9 (Xz (W5 prog w r t) ho rfl (fu a b c led) pW ?_))));rw[nf];exact RK (RK q)
theorem qR(ho:s.heap.get? S=YH (Ē a b c ep led)):TZ S s.heap (s.heap.update S (Yh (cv x y z) (Ů x y z led)))/\(s.heap.update S (Yh (cv x y z) (Ů x y z led))).get? S=YH (Ē x y z (ep+1) led):={Uj ..,Ta _ ho rfl}
theorem KJ(hr:r=0\/r=1\/r=2)(ho:s.heap.get? S=YH (Ē a b c ep led))
  (q:∀bl h' ep' x y z,TZ S s.heap h'->h'.get? S=YH (Ē x y z ep' led)->x.isSome=(a.isSome||decide (r=0))->y.isSome=(b.isSome||decide (r=1))->z.isSome=(c.isSome||decide (r=2))->Q bl { s with heap:=h' }):wpAny (RY prog w) A (Uz S (.int r t) ((Up prog w).hash r)) Q E s:=by
 have old:∀j,(cv a b c).toList.findIdx? (λe=>(Up prog w).is r e.2)=YH j->a.isSome=(a.isSome||decide (r=0))->b.isSome=(b.isSome||decide (r=1))->c.isSome=(c.isSome||decide (r=2))->wpAny (RY prog w) A (Uz S (.int r t) ((Up prog w).hash r)) Q E s:=λj nf h1 h2 h3=>JV ho nf (q false s.heap ep a b c (Heap.SameBut.refl S s.heap) ho h1 h2 h3)
 rcases hr with rfl|rfl|rfl
 ·cases a with
  |some u=>exact old 0 rfl rfl (by simp) (by simp)
  |none=>exact Ab ho (lay0 b c led t) rfl (xD ..) (jj ..) (by cases b<;>cases c<;>rfl) (q true _ _ _ _ _ (qR ho).1 (qR ho).2 rfl (by simp) (by simp))
 ·cases b with
  |some u=>cases a with
   |none=>exact old 0 rfl (by simp) rfl (by simp)
   |some v=>exact old 1 rfl (by simp) rfl (by simp)
  |none=>exact Ab ho (OQ a c led t) rfl (xD ..) (jj ..) (by cases a<;>cases c<;>rfl) (q true _ _ _ _ _ (qR ho).1 (qR ho).2 (by simp) rfl (by simp))
 cases c with
 |some u=>cases a with
  |none=>cases b with
   |none=>exact old 0 rfl (by simp) (by simp) rfl
   |some v=>exact old 1 rfl (by simp) (by simp) rfl
  |some v=>cases b with
   |none=>exact old 1 rfl (by simp) (by simp) rfl
   |some v=>exact old 2 rfl (by simp) (by simp) rfl
 |none=>exact Ab ho (Oi a b led t) rfl (xD ..) (jj ..) (by cases a<;>cases b<;>rfl) (q true _ _ _ _ _ (qR ho).1 (qR ho).2 (by simp) (by simp) rfl)
end
structure Ex(val:Nat->Int)(i:Nat)(a b c:Option Tok):Prop where
 a:a.isSome=(R8 i).any λj=>decide (val j=0)
 b:b.isSome=(R8 i).any λj=>decide (val j=1)
 c:c.isSome=(R8 i).any λj=>decide (val j=2)
theorem sG (f i):(R8 (i+1)).any f=((R8 i).any f||f i):=by
 rw[Ry,List.any_append];simp
section
variable{prog:Program}{w:R5}{A:Sq}{R:Result->RN->Prop}{I:RJ}{fp wr:List RJ}{G:Array V1->Array V1->Prop}{n:Nat}{P:Nat->RI->Prop}{St:Nat->RN->Prop}{led:Bool}
theorem Hv(W:WalksS prog w A.in1 I fp wr G n P St) (S) (hSf:S∉fp) (val) (ĵ:∀i v,P i v->∃t,v=.int (val i) t) (h3:∀i v,P i v->val i=0\/val i=1\/val i=2) :
  ∀k i s a b c ep,n-i=k->i<=n->St i s->s.heap.get? S=YH (Ē a b c ep led)->Ex val i a b c->
   (∀s' x y z ep',Moved (S::wr) G s s'->s'.heap.get? S=YH (Ē x y z ep' led)->Ex val n x y z->R (.ok (.ret .none)) s')->codeAny (RY prog w) A (.builtin "set.update.loop" {[.ref S,.ref I],[]}) R s:=by
 have sw:S∉wr:=λh=>hSf (W.sub _ h)
 have sub:∀b∈wr,b∈S::wr:=λb hb=>O8 _ hb
 intro k
 induction k with
 |zero=>
  intro i s a b c ep hk hi st hS hm q
  obtain rfl:i=n:=()
  refine SN Uk ?_
  rw[Sv Ts _]
  refine E9 (m:=V4 (.ref I)) (W.done s _ _ st λs' mv=>?_)
  exact RK (q s' a b c ep (mv.mono sub) (mv.heap S _ sw hS) hm)
 |succ k ih=>
  intro i s a b c ep hk hi st hS hm q
  have lt:i<n:=()
  refine SN Uk ?_
  rw[Sv Ts _]
  refine E9 (m:=V4 (.ref I)) (W.item i s _ _ lt st λv s' hP Å mv=>?_)
  obtain⟨t,rfl⟩:=ĵ i v hP
  refine E9 (wpAny_holding (m:=setAdd S (.int (val i) t)) ?_)
  unfold setAdd
  refine wpAny_holding (E9 ((Up prog w).pyHash (k:=val i) (W5 _ _ _ _) ?_))
  refine KJ (s:={ s' with toks:=s'.toks+1 }) (h3 i _ hP) (mv.heap S _ sw hS) λbl h' ep' x y z sb hS' e1 e2 e3=>?_
  refine RK {T5 Ts _,ih (i+1) _ x y z ep' () lt (W.frame _ s' _ _ Å (QI _) λb hb o e=>?_) hS' {by rw[e1,hm.a,sG],by rw[e2,hm.b,sG],by rw[e3,hm.c,sG]} λs'' x y z ep'' mv' hS'' ő=>?_}
  ·rw[sb.2 b (λh=>hSf (by rw[<-h];exact hb))];exact e
  refine q s'' x y z ep'' (Moved.trans W.gtrans ((mv.mono sub).then_heap (QI _) λb o hb e=>?_) mv') hS'' ő
  rw[sb.2 b (λh=>hb (by rw[h];exact O9))]
  exact e
end
section
variable{prog:Program}{w:R5}{A:Sq}{E:RI->RN->Prop}{s:RN}
theorem oy(q:Q (w.params.followText "set-order") s):wpAny (RY prog w) A setsByText Q E s:=E9 (Vw (RK q))
theorem Ih (u) (q:Q (.ref s.heap.objs.size) { s with heap:=s.heap.push (Ē YI YI YI 0 (!w.params.followText "set-order")) }) :
  codeAny (RY prog w) A (.call (.builtin "set.__new__") {[.type "set",u],[]}) (wants Q E) s:=by
 refine XU (E9 (wpAny_of_eq (PySem.F.newCall_set_1 u) (RK {T5 VX _,SN PySem.F.entry_set_new ?_})))
 rw[Sv VX _]
 unfold T8.«set.__new__» Builtin.Frozenset.newClass
 have hsub:=PySem.sub_set_self
 obtain⟨hp,g,d,tk,os⟩:=s
 dsimp only
 wp_walk
 refine Vw (RK ?_)
 dsimp only
 simp only[newObj]
 exact E9 (wpAny_alloc (RK (RK q)))
set_option maxHeartbeats 3200000 in
theorem yg(hh:A.handled=YI)(hl:s.heap.IsList l items)(hv:∀i v,items[i]?=YH v->∃t,v=TL (val i) t)(h3:∀i v,items[i]?=YH v->val i=0\/val i=1\/val i=2)
  (q:∀h' tk x y z ep,h'.get? s.heap.objs.size=YH (Ē x y z ep (!w.params.followText "set-order"))->Ex val items.size x y z->(∀b o,b<s.heap.objs.size->s.heap.get? b=YH o->h'.get? b=YH o)->Q (.ref s.heap.objs.size) { s with heap:=h',toks:=tk }) :
  wpAny (RY prog w) A (call (.type "set") [.ref l]) Q E s:=by
 obtain⟨c,tl,hmro⟩:=PySem.F.called_set.mro
 have m1:=PySem.F.called_set.made
 have m2:=PySem.F.called_set.sub
 refine WO (XU ?_)
 show wpAny _ _ (callAny (.type "set") _) _ _ _
 refine RK {Code.quiet_builtin _ (by decide+kernel),SN PySem.F.entry_type_call ?_}
 rw[Around.under_plain (weight_type_call_type "set" [.ref l] []) rfl]
 have m3:=PySem.F.called_set.notType
 have m4:=PySem.F.called_set.canCreate
 have m5:=PySem.F.typeCall_set_1 (.ref l)
 repeat (any_goals (first|assumption|wp_step))
 refine Ud (Ih (.ref l) (E:=E) (Q:=λobj s₁=>obj=.ref s.heap.objs.size/\s₁={ s with heap:=s.heap.push (Ē YI YI YI 0 (!w.params.followText "set-order")) }) ⟨rfl,rfl⟩) λr s₁ hr=>?_
 cases r with
 |error e=>exact hr
 |ok fl=>
  cases fl with
  |ret obj=>
   obtain⟨rfl,rfl⟩:=hr
   have hS:(s.heap.push (Ē YI YI YI 0 (!w.params.followText "set-order"))).get? s.heap.objs.size=YH (Ē YI YI YI 0 (!w.params.followText "set-order")):=RZ _ rfl
   have hT:WD { s with heap:=s.heap.push (Ē YI YI YI 0 (!w.params.followText "set-order")) } (.ref s.heap.objs.size) "set":=⟨_,hS,rfl⟩
   have n1:=PySem.F.called_set.init.lookup
   have n2:=PySem.F.called_set.init.bind (.ref s.heap.objs.size)
   repeat (any_goals (first|assumption|wp_step))
   refine Ud (codeAny_call_builtin (R:=wants (λr s₂=>r=.none/\∃h' tk x y z ep,s₂={ s with heap:=h',toks:=tk }/\h'.get? s.heap.objs.size=YH (Ē x y z ep (!w.params.followText "set-order"))/\Ex val items.size x y z/\∀b o,b<s.heap.objs.size->s.heap.get? b=YH o->h'.get? b=YH o) E) PySem.F.called_set.init.plain PySem.F.entry_set_init (PySem.check_set_init_1 hT ?_)) λr₂ s₂ hr₂=>?_
   ·obtain⟨ol,hol,hcl,nl,hdl⟩:=hl;obtain⟨ocls,odict,odata,oslots⟩:=ol;simp only at hcl hdl;subst hcl;subst hdl;have hol':(s.heap.push (Ē YI YI YI 0 (!w.params.followText "set-order"))).get? l=YH { cls:=.type "list",dict:=odict,data:=.seq items nl,slots:=oslots }:=RL _ hol;have k1:=PySem.F.sub_list_set;have k2:=PySem.F.sub_list_frozenset;have k3:(Tj "list"==Tj "dict")=false:=∅
    have hl1:(s.heap.push (Ē YI YI YI 0 (!w.params.followText "set-order"))).IsList l items:={_,hol',rfl,nl,rfl};unfold T8.«set.__init__» noKeywords Builtin.Frozenset.updateFrom;generalize hPI:YC=PI;wp_walk
    subst hPI;refine Vl hl1 (E9 (Wa ?_));have lS:l<s.heap.objs.size:=RX hol;have zs:(s.heap.push (Ē YI YI YI 0 (!w.params.followText "set-order"))).objs.size=s.heap.objs.size+1:=Tf ..;refine Hv ((Walks.list (A:=A.in1.in1.in1) (by simp[hh]) _ l (by rw[zs];exact Pw (Qh lS)) items).toS) s.heap.objs.size (by rw[zs];simp only[O2,Po,or_false,not_or];exact{Pw (QK _),Qv lS}) val hv h3 items.size 0 _ YI YI YI 0 () (Pd _) {{_,RZ _ rfl,rfl,rfl},hl1.push _} (RL _ hS) ⟨rfl,rfl,rfl⟩ ?_;intro s' x y z ep mv hS' hm;obtain⟨h',g',d',tk',os'⟩:=s';have e1:g'=s.gens:=mv.gens;have e2:d'=s.drawn:=mv.drawn;have e3:os'=s.os:=mv.os;subst e1;subst e2;subst e3;refine RK (RK {rfl,h',tk',x,y,z,ep,rfl,hS',hm,λb o hb e=>?_});refine mv.heap b o (by rw[zs];simp only[O2,Po,or_false,not_or];exact{Pw hb,Pw (Qh hb)}) (RL _ (RL _ e))
   cases r₂ with
   |error e=>exact hr₂
   |ok fl₂=>
    cases fl₂ with
    |ret r=>
     obtain⟨rfl,h',tk,x,y,z,ep,rfl,g1,g2,g3⟩:=hr₂
     repeat (any_goals (first|assumption|wp_step))
     exact q h' tk x y z ep g1 g2 g3
    |_=>exact hr₂.elim
  |_=>exact hr.elim
end
theorem kh:Slot "set_iterator" "__next__" "set_iterator.__next__":=.of (owner:="set_iterator") (n:="__next__") (by rw[VS,UD];kernel_rfl) (by decide+kernel) (by decide+kernel) (by decide+kernel) (by first|exact .inl (by decide+kernel)|exact .inr (by decide+kernel)) (by rw[Va];kernel_rfl)
theorem yz:Slot "set_iterator" "__iter__" "set_iterator.__iter__":=.of (owner:="set_iterator") (n:="__iter__") (by rw[VS,UD];kernel_rfl) (by decide+kernel) (by decide+kernel) (by decide+kernel) (by first|exact .inl (by decide+kernel)|exact .inr (by decide+kernel)) (by rw[Va];kernel_rfl)
theorem vq:Yg table "set_iterator.__next__"=YH T8.«set_iterator.__next__»:=Xx (by kernel_rfl)
theorem yn (a):argsOk "set_iterator.__next__" {[a],[]}:=by unfold argsOk;kernel_rfl
theorem Ad:Yg table "set.__iter__"=YH T8.«frozenset.__iter__»:=Yj (id':="frozenset.__iter__") (by kernel_rfl) rfl (by decide+kernel) (by kernel_rfl)
noncomputable def Ţ(tx:Bool)(ord:Nat->Nat)(a b c:Option Tok):Array (Int×RI):=if tx=true then YA ord (cv a b c)else cv a b c
noncomputable def ju(tx:Bool)(a b c:Option Tok)(i:Nat):Nat:=if tx=true then 0 else match i with
 |0=>0
 |j+1=>(zJ a b c).getD j 0+1
noncomputable abbrev itO(slot i:Nat)(S:RJ)(n ep:Nat):Obj:={ cls:=.type "set_iterator",data:=.fields #[VF slot,VF i,.ref S,VF n,VF ep] }
section
variable{prog:Program}{w:R5}{A:Sq}{E:RI->RN->Prop}{s:RN}{S:RJ}{a b c:Option Tok}{ep:Nat}
theorem Fg(h:i<=(cv a b c).size):Wb (zJ a b c) (ju false a b c i)=i/\(zJ a b c)[i]?=(cv a b c)[i]?.map λ_=>(zJ a b c).getD i 0:=by
 have h3:=jj a b c;have i3:i=0\/i=1\/i=2\/i=3:=()
 rcases i3 with rfl|rfl|rfl|rfl<;>cases a<;>cases b<;>cases c<;>first|(simp[cv]at h;done)|(refine{?_,?_}<;>kernel_rfl)
theorem BJ(ho:s.heap.get? S=YH (Ē a b c ep (!w.params.followText "set-order")))(h:i<=(cv a b c).size)
  (q:Q ((Ţ (w.params.followText "set-order") (w.params.setOrder S ep) a b c)[i]?.map λe=>(e.2,ju (w.params.followText "set-order") a b c (i+1))) s):wpAny (RY prog w) A (setNext S (ju (w.params.followText "set-order") a b c i) i ep) Q E s:=by
 unfold setNext
 refine E9 (TJ ho rfl (fu ..) ?_)
 refine E9 (oy ?_)
 cases hx:w.params.followText "set-order" with
 |true=>
  rw[hx]at ho q
  simp only[if_true,bne_self_eq_false,P7,if_false]
  unfold setWalk
  refine E9 (E9 (TJ ho rfl (fu ..) (E9 (oy ?_))))
  rw[hx]
  simp only[if_true]
  refine E9 (Vw (RK (RK ?_)))
  exact q
 |false=>
  rw[hx]at ho q
  simp only[P7,if_false]
  show wpAny _ _ (if false=true then _ else _) _ _ _
  simp only[P7,if_false]
  refine E9 (show wpAny _ _ (pure Unit.unit) _ _ _ from RK ?_)
  obtain⟨e1,e2⟩:=Fg h
  refine RK ?_
  show Q (match (cv a b c)[Wb (zJ a b c) (ju false a b c i)]?,(zJ a b c)[Wb (zJ a b c) (ju false a b c i)]? with|some (_,x),YH j=>YH (x,j+1)|_,_=>YI) s
  rw[e1,e2]
  rw[show Ţ false (w.params.setOrder S ep) a b c=cv a b c from rfl]at q
  cases he:(cv a b c)[i]? with
  |none=>rw[he]at q;exact q
  |some e=>rw[he]at q;exact q
def AO(w:R5)(I S:RJ)(a b c:Option Tok)(ep i:Nat)(h:So):Prop:=h.get? I=YH (itO (ju (w.params.followText "set-order") a b c i) i S (cv a b c).size ep)/\h.get? S=YH (Ē a b c ep (!w.params.followText "set-order"))
theorem G0(ne:S≠I)(st:AO w I S a b c ep i s.heap)(h:i<=(cv a b c).size)(he:(Ţ (w.params.followText "set-order") (w.params.setOrder S ep) a b c)[i]?=YH e)
  (q:∀h',AO w I S a b c ep (i+1) h'->TZ I s.heap h'->Q (YH e.2) { s with heap:=h' }):wpAny (RY prog w) A (V4 (.ref I)) Q E s:=by
 obtain⟨hI,hS⟩:=st
 have ty:s.TypeIs (.ref I) "set_iterator":={_,hI,rfl}
 unfold V4
 refine E9 (WE (TQ (name:=Ug "__next__") ty kh (SS kh ty vq ?_ (yn _))))
 show wpAny _ _ (fieldsOf (.ref I)>>=_) _ _ s
 refine E9 (E9 (VE hI (RK ?_)))
 dsimp only[VF]
 refine E9 (UW hS rfl (fu ..) ?_)
 simp only[bne_self_eq_false,P7,if_false,QR]
 refine E9 (BJ hS h ?_)
 rw[he]
 dsimp only[Option.map]
 refine E9 (Wc hI rfl (by simp) ?_)
 have h1:(s.heap.update I (Obj.mapFields (·.setIfInBounds 0 (VF (ju (w.params.followText "set-order") a b c (i+1):Nat))))).get? I=YH (itO (ju (w.params.followText "set-order") a b c (i+1)) i S (cv a b c).size ep):=Ta _ hI rfl
 refine E9 (Wc h1 rfl (by simp) ?_)
 have h2:=Ta (Obj.mapFields (·.setIfInBounds 1 (VF ((i:Int)+1)))) h1 rfl
 refine RK {_,rfl,RK (q _ {h2,?_} ?_)}
 ·exact(SI _ _ ne.symm).trans ((SI _ _ ne.symm).trans hS)
 exact(Uj ..).trans (Uj ..)
theorem LH(hh:A.handled=YI)(st:AO w I S a b c ep (cv a b c).size s.heap)(he:(Ţ (w.params.followText "set-order") (w.params.setOrder S ep) a b c)[(cv a b c).size]?=YI)
  (q:∀h',Heap.ExtBut I s.heap h'->Q YI { s with heap:=h' }):wpAny (RY prog w) A (V4 (.ref I)) Q E s:=by
 obtain⟨hI,hS⟩:=st
 have ty:s.TypeIs (.ref I) "set_iterator":={_,hI,rfl}
 unfold V4
 refine E9 (WE (TQ (name:=Ug "__next__") ty kh (SS kh ty vq ?_ (yn _))))
 show wpAny _ _ (fieldsOf (.ref I)>>=_) _ _ s
 refine E9 (E9 (VE hI (RK ?_)))
 dsimp only[VF]
 refine E9 (UW hS rfl (fu ..) ?_)
 simp only[bne_self_eq_false,P7,if_false,QR]
 refine E9 (BJ hS (O4 _) ?_)
 rw[he]
 dsimp only[Option.map]
 refine E9 (Wc hI rfl (by simp) (E9 ?_))
 simp only[newExc,newTuple]
 refine E9 (Sk (E9 (m:=Yk _ _) (wpAny_of_eq (a:=UH) (by first|rfl|(simp only[Yk];rfl)) (Sk ?_ (by size_fits)))) (by size_fits))
 simp only[raiseNew]
 refine E9 (wpAny_handled ?_)
 rw[show A.in1.handled=YI from hh]
 refine E9 (RK (wpAny_throw ?_))
 refine E9 (Vv (T:="StopIteration") (b:=true) {_,RZ _ rfl,rfl} isSubtype_stop ?_)
 exact RK (q _ (((Uj ..).extBut.push _).push _))
end
theorem ur{α:Type}:∀{l:List α}{i:Nat}(h:i<l.length),(l[i]::l.eraseIdx i).Perm l
 |x::l,0,_=>We _
 |x::l,i+1,h=>((List.Perm.swap _ _ _).trans ((ur (l:=l) (i:=i) (by simpa using h)).cons x))
theorem BB{α:Type} (next):∀(n k:Nat)(left:List α)(out:Array α),left.length=n->(Xm next n k left out).toList.Perm (out.toList++left)
 |0,k,left,out,h=>by
  rw[Q8.mp h];unfold Xm;simp
 |n+1,k,left,out,h=>by
  have lt:next k%left.length<left.length:=Nat.mod_lt _ ()
  unfold Xm;rw[O7 lt];dsimp only;refine(BB next n (k+1) _ _ (by rw[List.length_eraseIdx_of_lt lt];lia)).trans ?_;rw[QS,Pn];exact SM _ (ur lt)
theorem Dc{α:Type} (next) (xs:Array α):(YA next xs).toList.Perm xs.toList:=by
 have:=BB next xs.size 0 xs.toList #[] (PH ..)
 simpa [YA] using this
theorem Dj:Yg table "set_iterator.__iter__"=YH T8.«dict_keyiterator.__iter__»:=Yj (id':="dict_keyiterator.__iter__") (by kernel_rfl) rfl (by decide+kernel) (by kernel_rfl)
theorem GS (a):argsOk "set_iterator.__iter__" {[a],[]}:=by unfold argsOk;kernel_rfl
section
variable{prog:Program}{w:R5}{A:Sq}{E:RI->RN->Prop}{s:RN}{S:RJ}{a b c:Option Tok}{ep:Nat}
theorem uw (tx ord):(Ţ tx ord a b c).toList.Perm (cv a b c).toList:=by
 cases tx
 ·exact We _
 exact Dc _ _
theorem oZ (tx ord):(Ţ tx ord a b c).size=(cv a b c).size:=by
 have:=(uw (a:=a) (b:=b) (c:=c) tx ord).length_eq;simpa using this
theorem AO.at(x:AO w I S a b c ep i h)(e:∀b∈[I,S],∀o,h.get? b=YH o->h'.get? b=YH o):AO w I S a b c ep i h':={e I (by simp) _ x.1,e S (by simp) _ x.2}
theorem E7(hh:A.handled=YI)(I:RJ)(ne:S≠I):Walks prog w A I [I,S] [I] (cv a b c).size (λi v=>(Ţ (w.params.followText "set-order") (w.params.setOrder S ep) a b c)[i]?.map (·.2)=YH v) (λi h=>AO w I S a b c ep i h) where
 sub:=λb hb=>by simp at hb;simp[hb]
 frame:=λi h h' st k=>st.at k
 item:=λi s Q E hi st q=>by
  have lt:i<(Ţ (w.params.followText "set-order") (w.params.setOrder S ep) a b c).size:=by rw[oZ];exact hi
  refine G0 ne st (QJ hi) (Q4 lt) λh' Å sb=>?_;exact q _ h' s.toks (by rw[Q4 lt];rfl) Å λb o hb e=>by rw[sb.2 b (λz=>hb (by rw[z];simp))];exact e
 done:=λs Q E st q=>LH hh st (VQ (by rw[oZ];exact O4 _)) λh' x=>q h' s.toks λb o hb e=>x b o (λz=>hb (by rw[z];simp)) e
 self:=λi s Q E st q=>by
  have ty:s.TypeIs (.ref I) "set_iterator":={_,st.1,rfl};refine Xn ty yz (SS yz ty Dj ?_ (GS _));exact RK {_,rfl,"set_iterator",_,ty,kh.lookup,q}
theorem A9:typeLookup (.type "set") "__len__"=pure (YH (.builtin "set.__len__")):=by rw[VS,UD];kernel_rfl
theorem HX(ho:s.heap.get? S=YH (Ē a b c ep (!w.params.followText "set-order")))(q:Q (.ref s.heap.objs.size) { s with heap:=s.heap.push (itO 0 0 S (cv a b c).size ep) }):wpAny (RY prog w) A (YC (.ref S)) Q E s:=by
 have ty:s.TypeIs (.ref S) "set":={_,ho,rfl};refine Xn ty VY (SS VY ty Ad ?_ (PySem.F.args_set_iter_1 _));unfold T8.«frozenset.__iter__»;refine E9 (show wpAny _ _ (pure S) _ _ _ from RK ?_);refine E9 (E9 (UW ho rfl (fu ..) (RK ?_)));refine E9 (E9 (TJ ho rfl (fu ..) (E9 (oy ?_))));refine RK ?_;have e:(!w.params.followText "set-order"&&false)=false:=Bool.and_false _;show wpAny _ _ (if(!w.params.followText "set-order"&&false)=true then _ else _) _ _ _;rw[e];simp only[P7,if_false];refine E9 (RK (E9 (E9 (TJ ho rfl (fu ..) (RK ?_)))));refine E9 (Sk (RK {_,rfl,"set_iterator",_,{_,RZ _ rfl,rfl},kh.lookup,q}))
theorem Ao(hh:A.handled=YI)(ho:s.heap.get? S=YH (Ē a b c ep (!w.params.followText "set-order")))
  (q:∀(s':RN)(acc:Array RI),s'.gens=s.gens->s'.drawn=s.drawn->s'.os=s.os->(∀b o,s.heap.get? b=YH o->s'.heap.get? b=YH o)->s.heap.objs.size<=s'.heap.objs.size->acc.toList=(Ţ (w.params.followText "set-order") (w.params.setOrder S ep) a b c).toList.map (·.2)->Q acc.toList s'):wpAny (RY prog w) A (YG (.ref S)) Q E s:=by
 have lS:S<s.heap.objs.size:=RX ho
 unfold YG
 refine E9 (Wa (SN UZ ?_))
 rw[Sv U0 _]
 refine E9 (m:=YF []) (Sk ?_)
 refine RK {T5 TU _,SN Vx ?_}
 rw[Sv TU _]
 show wpAny _ A.in1 (T9 (.ref s.heap.objs.size) (.ref S) (.ref s.heap.objs.size)) _ _ _
 have h1:(s.heap.push { cls:=.type "list",data:=.seq ([]:List RI).toArray }).get? S=YH (Ē a b c ep (!w.params.followText "set-order")):=RL _ ho
 have h0:(s.heap.push { cls:=.type "list",data:=.seq ([]:List RI).toArray }).get? s.heap.objs.size=YH { cls:=.type "list",data:=.seq ([]:List RI).toArray }:=RZ _ rfl
 have z1:(s.heap.push { cls:=.type "list",data:=.seq ([]:List RI).toArray }).objs.size=s.heap.objs.size+1:=Tf ..
 generalize hH:s.heap.push { cls:=.type "list",data:=.seq ([]:List RI).toArray }=H at h1 h0 z1⊢
 have ty:WD { s with heap:=H } (.ref S) "set":=⟨_,h1,rfl⟩
 unfold T9
 refine E9 (Uw ty ?_)
 have k1:Vo (.ref s.heap.objs.size) (.ref S)=false:=by simp[Vo,Qv lS]
 have k2:(Tj "set"==Tj "list")=false:=∅
 have k3:(Tj "set"==Tj "tuple")=false:=∅
 simp only[k1,k2,k3,Bool.or_false,P7,if_false]
 refine E9 (HX h1 ?_)
 have ŵ:=RL (itO 0 0 S (cv a b c).size ep) h1
 have ty':WD { s with heap:=H.push (itO 0 0 S (cv a b c).size ep) } (.ref S) "set":=⟨_,ŵ,rfl⟩
 refine E9 (wpAny_holding ?_)
 unfold Builtin.List.listLengthHint
 refine E9 (XS ty' A9 ?_)
 wp_delta
 refine E9 (Vv (b:=true) ty' (by rw[Va];kernel_rfl) ?_)
 show wpAny _ A.in1 (typeOf (Sd S)>>=_) _ _ _
 refine E9 (Uw ty' (RK ?_))
 show wpAny _ A.in1 (rule "list.extend.makes-room">>=λ_=>Builtin.List.listTouch (.ref s.heap.objs.size)>>=λ_=>again (.builtin "list.extend.loop" {[.ref s.heap.objs.size,.ref H.objs.size,.ref s.heap.objs.size],[]})) _ _ _
 refine E9 (T1 (E9 ?_))
 have h0':=RL (itO 0 0 S (cv a b c).size ep) h0
 have hI:(H.push (itO 0 0 S (cv a b c).size ep)).get? H.objs.size=YH (itO 0 0 S (cv a b c).size ep):=RZ _ rfl
 generalize hH2:H.push (itO 0 0 S (cv a b c).size ep)=H2 at h0' hI ŵ⊢
 show wpAny _ A.in1 (updateSeq s.heap.objs.size (·.push .none)>>=λ_=>updateSeq s.heap.objs.size (·.pop)) _ _ _
 refine E9 (XW h0' rfl ?_)
 have g2:=Ta (To (·.push UH)) h0' rfl
 refine XW (hz:=by seq_fits) g2 rfl ?_
 have g3:=Ta (To (·.pop)) g2 rfl
 have oth:∀b o,b≠s.heap.objs.size->H2.get? b=YH o->((H2.update s.heap.objs.size (To (·.push UH))).update s.heap.objs.size (To (·.pop))).get? b=YH o:=λb o hb e=>(SI _ _ (Pr hb)).trans ((SI _ _ (Pr hb)).trans e)
 have nS:S≠s.heap.objs.size:=Pw lS
 have nI:H.objs.size≠s.heap.objs.size:=by rw[z1];exact Nat.succ_ne_self _
 have nSI:S≠H.objs.size:=by rw[z1];exact Pw (Qh lS)
 have e0:ju (w.params.followText "set-order") a b c 0=0:=by unfold ju;split<;>rfl
 have W:=E7 (prog:=prog) (w:=w) (A:=A.in1) (a:=a) (b:=b) (c:=c) (ep:=ep) (by simp[hh]) H.objs.size nSI
 refine RK {T5 PySem.F.plain_extend_loop _,codeAny_extend_loopS W.toS (Pf (jj a b c) ∅) _ ?_ _ (cv a b c).size 0 _ _ _ rfl (Pd _) {?_,oth _ _ nS ŵ} g3 (ItemsOf.nil _) λs' acc' c' mv hL ø=>?_}
 ·simp only[O2,Po,or_false,not_or];exact⟨nI.symm,nS.symm⟩
 ·rw[e0];exact oth _ _ nI hI
 show wpAny _ A (load s.heap.objs.size>>=_) _ _ s'
 refine E9 (VE hL (RK ?_))
 have old:∀b o,s.heap.get? b=YH o->s'.heap.get? b=YH o:=λb o e=>by
  have lt:=RX e;refine mv.heap b o (λm=>?_) (oth b o (Pw lt) (by rw[<-hH2,<-hH];exact RL _ (RL _ e)));simp only[O2,Po,or_false]at m;rcases m with m|m
  ·exact absurd lt (by rw[m];exact Qt _)
  rw[m,z1]at lt;exact absurd lt (RC.mpr (QI _))
 refine q s' acc' mv.gens mv.drawn mv.os old ?_ ?_
 ·exact QJ (RX hL)
 refine Ra λi=>?_
 rw[Pk,Qc,Qc]
 cases e:acc'[i]? with
 |some v=>exact(ø.2 i v e).symm
 |none=>
  have:=Array.getElem?_eq_none_iff.mp e
  rw[VQ (by rw[oZ,<-ø.1];exact this)]
  rfl
theorem D7(hh:A.handled=YI)(ho:s.heap.get? S=YH (Ē a b c ep (!w.params.followText "set-order")))(hn:Vk ((Ţ (w.params.followText "set-order") (w.params.setOrder S ep) a b c).toList.map (·.2)) ns)
  (q:∀h' tk L e out ns',(∀b o,s.heap.get? b=YH o->h'.get? b=YH o)->s.heap.objs.size<=L->h'.get? L=YH (T7 "list" out e)->Vk out.toList ns'->ns'.Perm ns->ns'.Pairwise (· <= ·)->Q (.ref L) { s with heap:=h',toks:=tk }) :
  wpAny (RY prog w) A (call (.builtin "sorted") [.ref S]) Q E s:=by
 refine Vf kind_sorted plain_sorted entry_sorted (args_sorted1 _) ?_
 unfold T8.«sorted»
 refine E9 (m:=checkCount "sorted" 1 1 _) (RK ?_)
 refine E9 (Ao (by simp[hh]) ho λs1 acc g1 g2 g3 old sz ø=>?_)
 obtain⟨h1,gn,dr,tk,os⟩:=s1
 obtain rfl:gn=s.gens:=g1
 obtain rfl:dr=s.drawn:=g2
 obtain rfl:os=s.os:=g3
 rw[ø]
 have l4:((Ţ (w.params.followText "set-order") (w.params.setOrder S ep) a b c).toList.map (·.2)).length<64:=by
  have h3:=jj a b c;rw[OZ,PH,oZ];lia
 generalize (Ţ (w.params.followText "set-order") (w.params.setOrder S ep) a b c).toList.map (·.2)=vs at hn l4
 refine E9 (WG ?_)
 have hL:(h1.push (T7 "list" vs.toArray 0)).get? h1.objs.size=YH (T7 "list" vs.toArray 0):=RZ _ rfl
 refine E9 (wpAny_holding (SS Yl {_,hL,rfl} XX (list_sort_tree hL hn l4 λout ns' a1 a2 a3=>{_,rfl,?_}) (Ym _)))
 have lt:h1.objs.size<(h1.push (T7 "list" vs.toArray 0)).objs.size:=RX hL
 obtain⟨e,he⟩:=sortedHeap_at (out:=out) hL
 refine RK {_,rfl,q (Yn (h1.push (T7 "list" vs.toArray 0)) h1.objs.size vs out) tk h1.objs.size e out ns' (λb o hb=>?_) sz he a1 a2 a3}
 have hb1:=old b o hb
 have lb:=RX hb1
 exact(Yo (Pw lb) (Ru lb lt)).trans (RL _ hb1)
end
theorem Paired.NU{α β:Type}{F}{x:α}{y:β}(h:F x y){a:List α}{b:List β}(r:Paired F a b):Paired F (a++[x]) (b++[y]):=r.snoc h
theorem iD{α:Type}{K a xs own fr g tf te Q B H1}(src:List α) (p) (R:α->V->Hp->Prop) (hx:À K H1 a xs) (hl:xs.length=src.length) (hn:xs.length<sizeLine)
  (he:∀(b:CB)(i:Nat)(x:V)(e:α)(v0:St)(H:Hp)(N:St->Hp->Prop)(Y:St->V->Hp->Prop),xs[i]?=YH x->src[i]?=YH e->v0.length=own->aj H1 H->
   (p e=false->∀v1 H',v1.length=own->aj H H'->N (v1++Į fr B) H')->(p e=true->∀v1 y H',v1.length=own->aj H H'->R e y H'->Y (v1++Į fr B) y H')->
   g b x (v0++Į fr B) H λσ3 H3=>tf b σ3 H3 λk H4=>if k=true then te b σ3 H4 λy H5=>Y σ3 y H5 else N σ3 H4)
  (mono:∀e y H H',aj H H'->R e y H->R e y H') (st:∀e y H D ys zs,H D=YH (.lst ys)->R e y H->R e y (upd H D (.lst zs)))
  (fin:∀D H ys,H1 D=YI->aj H1 H->H D=YH (.lst ys)->Paired (λe y=>R e y H) (src.filter p) ys->Q (.ref D) H):qo (Itl K a) own fr g tf te Q B H1:=by
 refine⟨λb D hD=>?_⟩
 refine{λi m B' H'=>m=xs.length-i/\i<=xs.length/\(∃v0,B'=v0++Į fr B/\v0.length=own)/\aj H1 H'/\∃ys,H' D=YH (.lst ys)/\ys.length<=i/\Paired (λe y=>R e y H') ((src.take i).filter p) ys,{xs.length,rfl,Pd _,⟨Se own YI,rfl,QF ..⟩,aj.upd hD _,[],ao,O4 _,.nil},?_}
 rintro i m B' H' ⟨rfl,hi,⟨v0,rfl,hv⟩,sm,ys,hL,hy,hR⟩
 by_cases Ý:i<xs.length
 ·have hs:i<src.length:=()
  refine .inr {{xs,xs[i],sm.seq hx,O7 Ý},λσ2 H2=>(∃v0,σ2=v0++Į fr B/\v0.length=own)/\aj H1 H2/\∃ys,H2 D=YH (.lst ys)/\ys.length<=i+1/\Paired (λe y=>R e y H2) ((src.take (i+1)).filter p) ys,λσ2 H2 q=>{xs.length-(i+1),(),rfl,Ý,q},λv H2 y=>?_};obtain⟨rfl,y2⟩:=y;have e:=y2 xs (sm.seq hx);have tk:src.take (i+1)=src.take i++[src[i]]:=by rw[P4,O7 hs];rfl
  refine he b i v src[i] v0 _ _ _ e (O7 hs) hv sm (λpf v1 H3 h1 s3=>?_) (λpt v1 y H3 h1 s3 r3=>?_)
  ·refine{⟨v1,rfl,h1⟩,sm.trans s3,ys,s3 _ _ hL,(),?_};rw[tk,P8,Vy (by rw[pf];exact Pa),Qz,Pu];exact Paired.vb hR λe y z=>mono _ _ _ _ s3 z
  have hD4:=s3 _ _ hL;refine{ys,hD4,(),⟨v1,rfl,h1⟩,?_,ys++[y],ao,by simp;lia,?_}
  ·intro c o q;by_cases hc:c=D
   ·rw[hc,hD]at q;cases q
   rw[aL hc];exact(sm.trans s3) c o q
  rw[tk,P8,Vz pt,Qz];exact Paired.NU (F:=λe y'=>R e y' (upd H3 D (.lst (ys++[y])))) (st _ _ _ _ _ _ hD4 r3) (Paired.vb hR λe y z=>st _ _ _ _ _ _ hD4 (mono _ _ _ _ s3 z))
 have e:i=xs.length:=()
 subst e
 rw[hl,PM]at hR
 exact .inl {{xs,sm.seq hx,O4 _},fin D H' ys hD sm hL hR}
theorem FX{K a xs own fr g tf te Q B H1}(Pv:RJ->Nat->List V->Hp->Prop)(hx:À K H1 a xs)(hn:xs.length<sizeLine)(h0:∀D,H1 D=YI->Pv D 0 [] (upd H1 D (.lst [])))
  (he:∀(b:CB)(D:RJ)(i:Nat)(x:V)(v0:St)(H:Hp)(ys:List V)(N:St->Hp->Prop)(Y:St->V->Hp->Prop),xs[i]?=YH x->v0.length=own->H1 D=YI->aj H1 H->H D=YH (.lst ys)->Pv D i ys H->
   (∀v1 H',v1.length=own->aj H H'->Pv D (i+1) ys H'->N (v1++Į fr B) H')->(∀v1 y H',v1.length=own->aj H H'->Pv D (i+1) (ys++[y]) (upd H' D (.lst (ys++[y])))->Y (v1++Į fr B) y H')->
   g b x (v0++Į fr B) H λσ3 H3=>tf b σ3 H3 λk H4=>if k=true then te b σ3 H4 λy H5=>Y σ3 y H5 else N σ3 H4)
  (fin:∀D H ys,H1 D=YI->aj H1 H->H D=YH (.lst ys)->Pv D xs.length ys H->Q (.ref D) H):qo (Itl K a) own fr g tf te Q B H1:=by
 refine⟨λb D hD=>?_⟩
 refine{λi m B' H'=>m=xs.length-i/\i<=xs.length/\(∃v0,B'=v0++Į fr B/\v0.length=own)/\aj H1 H'/\∃ys,H' D=YH (.lst ys)/\ys.length<=i/\Pv D i ys H',{xs.length,rfl,Pd _,⟨Se own YI,rfl,QF ..⟩,aj.upd hD _,[],ao,O4 _,h0 D hD},?_}
 rintro i m B' H' ⟨rfl,hi,⟨v0,rfl,hv⟩,sm,ys,hL,hy,hR⟩
 by_cases Ý:i<xs.length
 ·refine .inr {{xs,xs[i],sm.seq hx,O7 Ý},λσ2 H2=>(∃v0,σ2=v0++Į fr B/\v0.length=own)/\aj H1 H2/\∃ys,H2 D=YH (.lst ys)/\ys.length<=i+1/\Pv D (i+1) ys H2,λσ2 H2 q=>{xs.length-(i+1),(),rfl,Ý,q},λv H2 y=>?_};obtain⟨rfl,y2⟩:=y;have e:=y2 xs (sm.seq hx);refine he b D i v v0 _ ys _ _ e hv hD sm hL hR (λv1 H3 h1 s3 p3=>?_) (λv1 y H3 h1 s3 p3=>?_)
  ·exact{⟨v1,rfl,h1⟩,sm.trans s3,ys,s3 _ _ hL,(),p3}
  refine{ys,s3 _ _ hL,(),⟨v1,rfl,h1⟩,?_,ys++[y],ao,by simp;lia,p3};intro c o q;by_cases hc:c=D
  ·rw[hc,hD]at q;cases q
  rw[aL hc];exact(sm.trans s3) c o q
 have e:i=xs.length:=()
 subst e
 exact .inl {{xs,sm.seq hx,O4 _},fin D H' ys hD sm hL hR}
noncomputable def ů(ns:List Int):List Int:=[0,1,2].filter λr=>decide (r∈ns)
theorem oe:∀{l:List (Int×RI)},(∀e∈l,∃t,e.2=TL e.1 t)->Vk (l.map (·.2)) (l.map (·.1))
 | [],_=>.nil
 | (n,v)::l,h=>by
  obtain⟨t,e⟩:=h (n,v) O9;have e:v=.int n t:=e;subst e;exact .cons _ _ (oe λe he=>h e (O8 _ he))
theorem Kk (a b c):(∀e∈(cv a b c).toList,∃t,e.2=TL e.1 t):=by
 intro e he;cases a<;>cases b<;>cases c<;>simp[cv]at he<;>rcases he with rfl|rfl|rfl<;>exact{_,rfl}
theorem Ji(ns:List Int)(r:Int):((R8 ns.length).any λj=>decide (ns.getD j 0=r))=decide (r∈ns):=by
 rw[Qw,Rh,decide_eq_true_iff];constructor
 ·rintro⟨j,hj,e⟩;have hj:=Rz.mp hj;have e:=of_decide_eq_true e;rw[PD,O7 hj]at e;exact e▸Rv hj
 intro m;obtain⟨j,hj,e⟩:=Ww m;refine{j,Rz.mpr hj,decide_eq_true ?_};rw[PD,O7 hj];exact e
theorem Ms(h:Ex (λi=>ns.getD i 0) ns.length a b c):(cv a b c).toList.map (·.1)=ů ns:=by
 obtain⟨h0,h1,h2⟩:=h;rw[Ji]at h0 h1 h2;unfold ů;simp only[Qm,Qz,<-h0,<-h1,<-h2];cases a<;>cases b<;>cases c<;>rfl
theorem Aq (ns):(ů ns).Pairwise (· <= ·):=List.Pairwise.filter _ ∅
theorem Hx{a b:List Int}(p:a.Perm b)(h:a.Pairwise (· <= ·))(h':b.Pairwise (· <= ·)):a=b:=p.eq_of_pairwise (λ_ _ _ _ x y=>Int.le_antisymm x y) h h'
theorem vX:∀{ns:List Int}{us:List RI},YK (ns.map V.int) us->Vk us ns
 | [],_,h=>by cases h;exact .nil
 |n::ns,_,h=>by
  cases h with
  |cons h r=>
   obtain⟨t,rfl⟩:=h;exact .cons _ _ (vX r)
section
variable{X:Cx}
noncomputable def zY(K:RS)(t:TA):TE:=λB H Q=>t B H λxs H1=>∃(p:RJ)(ns:List Int),xs=[.ref p]/\À K H1 p (ns.map V.int)/\(∀n∈ns,n=0\/n=1\/n=2)/\∀l,H1 l=YI->Q (.ref l) (upd H1 l (.lst ((ů ns).map V.int)))
theorem xR(hm:X.mg "sorted"=YI)(ő:X.mg "set"=YI)(ha:PA X [e] t)(hc:X.calm=true:=by rfl)(hg:Gl X "sorted":=by rfl)(hg':Gl X "set":=by rfl)
  (he:RV [.Call (.Name "set" p') [e] [] pos'] X.env=(false,SD (.Call (.Name "set" p') [e] [] pos') X.env)::RV [] X.env:=by rfl) (ò:(SJ pos (RV [] X.env)).any (·.1)=false:=by rfl)
  (he':RV [e] X.env=(false,SD e X.env)::RV [] X.env:=by rfl) (hpl':(SJ pos' (RV [] X.env)).any (·.1)=false:=by rfl):PE X (.Call (.Name "sorted" p) [.Call (.Name "set" p') [e] [] pos'] [] pos) (zY X.K t):=by
 intro pins s B H Q I h
 refine Tb (lP I hg hm (by boot_by_name) ?_)
 refine UK ?_ he ò
 rw[he]
 show wpAny _ _ (YB ((false,SD (.Call (.Name "set" p') [e] [] pos') X.env)::SJ pos (RV [] X.env))) _ _ s
 refine WN ?_
 refine Tb (lP I hg' ő (by boot_by_name) ?_)
 refine SU (Ì (ha pos' pins s B H _ I h) λus s1 ⟨vs,H1,I1,r1,q1⟩=>?_) he' hpl'
 obtain⟨l,ns,rfl,hl,h3,q⟩:=q1
 obtain⟨u,rfl,rx⟩:=YW r1
 cases rx
 obtain⟨Â,rv,pl,hz⟩:=I1.list hl
 have el:=rv.length
 rw[OZ]at el
 have hA:=I.ok.hd hc
 have iv:=vX rv
 refine yg (val:=λi=>ns.getD i 0) hA pl.isList (λi v hi=>?_) (λi v hi=>?_) λh' tk x y z ep hS rk old=>?_
 ·rw[VZ]at hi;obtain⟨n,t,e,en⟩:=iv.at i v hi;refine{t,?_};rw[e];show _=TL (ns.getD i 0) t;rw[PD,en];rfl
 ·rw[VZ]at hi;obtain⟨n,t,e,en⟩:=iv.at i v hi;have:=h3 n (Pj en);rw[PD,en];exact this
 have I2:Inv X pins B H1 { s1 with heap:=h',toks:=tk }:=I1.kept λb o e=>old b o (RX e) e
 show wpAny _ _ (YB (SJ pos (RV [] X.env))) _ _ _
 refine Xf ?_
 have sz:Â.toArray.size=ns.length:=by simp[el]
 rw[sz]at rk
 have hn:=oe (l:=(Ţ (X.w.params.followText "set-order") (X.w.params.setOrder s1.heap.objs.size ep) x y z).toList) (λe he=>Kk x y z e ((List.Perm.mem_iff (uw _ _)).mp he))
 refine D7 hA hS hn λh2 tk2 L e2 out ns' old2 sL hL ia pm pw=>?_
 have en:ns'=ů ns:=by
  refine Hx ?_ pw (Aq ns);rw[<-Ms rk];exact pm.trans (List.Perm.map _ (uw _ _))
 subst en
 have hf:H1 L=YI:=I2.Æ.fresh sL
 refine{.ref L,upd H1 L (.lst ((ů ns).map V.int)),I2.laid (t':=tk2) old2 sL ?_,rfl,q L hf}
 have l3:(ů ns).length<=3:=Qd _ _
 exact{by rw[OZ];exact Pf l3 ∅,out.toList,e2,wu ia,by rw[V8];exact hL}
end
section
variable{prog:Program}{w:R5}{A:Sq}{E:RI->RN->Prop}{s:RN}
end
section
variable{X:Cx}{pins:List (RJ×Obj)}{B:St}{H:Hp}{s:RN}
end
end L2
set_option maxRecDepth 100001
namespace L2
open PySem PyProof.Rows
noncomputable def gal:Bool->Su->Array Su->Nat->Nat->Nat->StateT Sh Sem (Option Nat):=sortPriv%PySem.Builtin.gallop
def Ł(prog:Program)(w:R5)(A:Sq)(s:RN)(κ:KeyKind)(á:UA):Prop:=∀(E:RI->RN->Prop)(x y:RI)(a b:κ.α){Q:Bool->RN->Prop},κ.keyOf x=YH a->κ.keyOf y=YH b->Q (κ.blt a b) s->wpAny (RY prog w) A (keyLt' á x y) Q E s
def Ky(κ:KeyKind)(x:Su):Prop:=∃a,κ.keyOf x.1=YH a
section
variable{prog:Program}{w:R5}{A:Sq}{E:RI->RN->Prop}{s:RN}{κ:KeyKind}{á:UA}
theorem tW(hO:Ł prog w A s κ á){st x y}{Q:Option Bool->Sh->Prop}(hk:kindOf st=á)(ha:Ky κ x)(hb:Ky κ y)(h:∀b,Q (YH b) st):wpS (RY prog w) A E s (lt' x y) Q st:=by
 obtain⟨a,ha⟩:=ha
 obtain⟨b,hb⟩:=hb
 rw[lt'_eq]
 refine RO (UO ?_)
 rw[hk]
 exact RO (VA (WE (hO _ x.1 y.1 a b ha hb {rfl,RU (h _)})))
theorem bw{st xs i x Q}(e:xs[i]?=YH x)(h:Q x st):wpS (RY prog w) A E s (Wf xs i) Q st:=by
 rw[elem'_eq,e]
 exact RU h
theorem gR{xs}(hk:KeysOf κ xs){i}(h:i<xs.size):∃x,xs[i]?=YH x/\Ky κ x/\xs.toList.drop i=x::xs.toList.drop (i+1):=by
 refine{xs[i],getElem?_pos _ i h,hk _ (by simp),?_}
 rw[QH (by rw[PH];exact h)]
 simp
inductive GI(n:Nat)(st:Sh):Option (Option Nat)×Nat×Nat->Sh->Prop
 |mk{l o:Nat}(h1:l<=n)(h2:o<=n):GI n st (YI,l,o) st
inductive GJ(n hint:Nat)(st:Sh):Option (Option Nat)×Nat×Nat->Sh->Prop
 |mk{l o:Nat}(h1:l<o)(h2:hint+l<n):GJ n hint st (YI,l,o) st
inductive GH(hint:Nat)(st:Sh):Option (Option Nat)×Nat×Nat->Sh->Prop
 |mk{l o:Nat}(h1:l<o)(h2:l<=hint):GH hint st (YI,l,o) st
theorem nP(hO:Ł prog w A s κ á){st left key xs base n hint}{Q:Option Nat->Sh->Prop}(hk:kindOf st=á)(hx:∀i,i<n->∃x,xs[base+i]?=YH x/\Ky κ x)(ha:Ky κ key)(hh:hint<n)(h:∀r,r<=n->Q (YH r) st):wpS (RY prog w) A E s (gal left key xs base n hint) Q st:=by
 have bd:∀(i:Nat){R:Option Bool->Sh->Prop},i<n->(∀b,R (YH b) st)->wpS (RY prog w) A E s (do let x<-Wf xs (base+i);if left=true then lt' x key else do let r<-lt' key x;pure (r.map (!·))) R st:=by
  intro i R hi hR
  obtain⟨x,e,hxa⟩:=hx i hi
  refine RO (bw e ?_)
  cases left with
  |true=>exact tW hO hk hxa ha hR
  |false=>exact RO (tW hO hk ha hxa λb=>RU (hR _))
 have bin:∀(f:Nat->Option (Option Nat)×Nat×Nat->StateT Sh Sem (ForInStep (Option (Option Nat)×Nat×Nat))),(∀(x l o:Nat)(R:ForInStep (Option (Option Nat)×Nat×Nat)->Sh->Prop),o<=n->(l ≥ o->R (.done (YI,l,o)) st)->(l<o->R (.yield (YI,l+(o-l)/2+1,o)) st)->(l<o->R (.yield (YI,l,l+(o-l)/2)) st)->wpS (RY prog w) A E s (f x (YI,l,o)) R st)->
   ∀lo hi,lo<=n->hi<=n->wpS (RY prog w) A E s (forIn [:n] (YI,lo,hi) f) (GI n st) st:=by
  intro f hf lo hi h1 h2
  refine Sy (λ_=>GI n st) (λx c Å _ _ q=>?_) (λc Å q=>q) (.mk h1 h2)
  obtain @⟨l,o,h1,h2⟩:=q
  exact hf x l o _ h2 (λ_=>.mk h1 h2) (λg=>.mk () h2) λg=>.mk h1 ()
 refine RO (bd hint hh λb=>?_)
 dsimp only
 cases b with
 |true=>
  rw[if_pos rfl]
  refine RO (Tg (Sy (λ_=>GJ n hint st) (Q:=GJ n hint st) (λx c Å _ _ q=>?_) (λc Å q=>q) (.mk () ())) λc Å q=>?_)
  ·obtain @⟨l,o,h1,h2⟩:=q
   dsimp only
   by_cases g:o ≥ n-hint
   ·rw[if_pos g]
    exact RU (.mk h1 h2)
   ·rw[if_neg g]
    refine RO (bd (hint+o) () λb=>?_)
    cases b with
    |false=>exact RU (.mk h1 h2)
    |true=>exact RU (.mk () ())
  ·obtain @⟨l,o,h1,h2⟩:=q
   dsimp only
   refine RO (Tg (bin _ (by
    intro x l o R h0 h1 h2 h3
    dsimp only
    by_cases g:l ≥ o
    ·rw[if_pos g]
     exact RU (h1 g)
    ·rw[if_neg g]
     refine RO (bd (l+(o-l)/2) () λb=>?_)
     cases b with
     |true=>exact RU (h2 ())
     |false=>exact RU (h3 ())) (hint+l+1) (hint+min o (n-hint)) () ()) λc st'' q=>?_)
   obtain @⟨l,o,h1,h2⟩:=q
   first|exact RU (h l h1)|exact RU (h o h2)
 |false=>
  rw[if_neg Pa]
  refine RO (Tg (Sy (λ_=>GH hint st) (Q:=GH hint st) (λx c Å _ _ q=>?_) (λc Å q=>q) (.mk () ())) λc Å q=>?_)
  ·obtain @⟨l,o,h1,h2⟩:=q
   dsimp only
   by_cases g:o ≥ hint+1
   ·rw[if_pos g]
    exact RU (.mk h1 h2)
   ·rw[if_neg g]
    refine RO (bd (hint-o) () λb=>?_)
    cases b with
    |true=>exact RU (.mk h1 h2)
    |false=>exact RU (.mk () ())
  ·obtain @⟨l,o,h1,h2⟩:=q
   dsimp only
   refine RO (Tg (bin _ (by
    intro x l o R h0 h1 h2 h3
    dsimp only
    by_cases g:l ≥ o
    ·rw[if_pos g]
     exact RU (h1 g)
    ·rw[if_neg g]
     refine RO (bd (l+(o-l)/2) () λb=>?_)
     cases b with
     |true=>exact RU (h2 ())
     |false=>exact RU (h3 ())) (hint+1-min o (hint+1)) (hint-l) () ()) λc st'' q=>?_)
   obtain @⟨l,o,h1,h2⟩:=q
   first|exact RU (h l h1)|exact RU (h o h2)
end
end L2
namespace L2
open PySem PyProof.Rows
noncomputable abbrev sGr(st:Sh)(g:Nat):Sh:=W6 (kindOf st) (Sl st) (Sx st) g (Uo st)
theorem lZ(xs:Array Su)(i j:Nat):(xs.extract i j).toList=(xs.toList.drop i).take (j-i):=by
 rw[Array.toList_extract]
theorem JM(xs:Array Su)(i:Nat):(xs.extract i xs.size).toList=xs.toList.drop i:=by
 rw[lZ]
 exact P6 (by rw[Qu,PH];exact O4 _)
theorem Js(xs:Array Su)(i:Nat):(xs.extract 0 i).toList=xs.toList.take i:=by
 rw[lZ,List.drop_zero,Nat.sub_zero]
theorem tk_split{l:List Su}{t i:Nat}(h:t<=i):l.take i=l.take t++(l.drop t).take (i-t):=by
 have:=RE (l:=l) (i:=t) (j:=i-t)
 rwa [show t+(i-t)=i by lia]at this
theorem pQ{l:List Su}{t i:Nat}(h:t<=i):l.drop t=(l.drop t).take (i-t)++l.drop i:=by
 have:=PQ (i-t) (l.drop t)
 rw[List.drop_drop,show t+(i-t)=i by lia]at this
 exact this.symm
abbrev Gd(a b r:Array Su):Prop:=r.toList.Perm (a.toList++b.toList)
theorem pm4{a b c d:List Su}:(a++b++(c++d)).Perm (a++c++(b++d)):=by
 rw[Pn,Pn]
 refine SM _ ?_
 rw[<-Pn,<-Pn]
 exact T2 _ Qk
abbrev Mg(a b o:Array Su)(i j:Nat):Prop:=o.toList.Perm (a.toList.take i++b.toList.take j)
theorem Mg.chA{a b o i j}(h:Mg a b o i j)(k:Nat):Mg a b (o++a.extract i (i+k)) (i+k) j:=by
 show(o++a.extract i (i+k)).toList.Perm _
 rw[PC,lZ,QM,RE]
 refine(h.append_right _).trans ?_
 rw[Pn,Pn]
 exact SM _ Qk
theorem Mg.chB{a b o i j}(h:Mg a b o i j)(k:Nat):Mg a b (o++b.extract j (j+k)) i (j+k):=by
 show(o++b.extract j (j+k)).toList.Perm _
 rw[PC,lZ,QM,RE,<-Pn]
 exact h.append_right _
theorem Mg.pA{a b o i j x}(h:Mg a b o i j)(e:a.toList.drop i=x::a.toList.drop (i+1)):Mg a b (o.push x) (i+1) j:=by
 have:=h.chA 1
 unfold Mg at this⊢
 rw[PC,lZ,QM,e]at this
 rw[QS]
 exact this
theorem Mg.pB{a b o j i x}(h:Mg a b o i j)(e:b.toList.drop j=x::b.toList.drop (j+1)):Mg a b (o.push x) i (j+1):=by
 have:=h.chB 1
 unfold Mg at this⊢
 rw[PC,lZ,QM,e]at this
 rw[QS]
 exact this
theorem Mg.d1{a b o i j}(h:Mg a b o i j):Gd a b (o++a.extract i++b.extract j):=by
 unfold Gd
 rw[PC,PC,JM,JM,Pn]
 refine(h.append_right _).trans (pm4.trans ?_)
 rw[PQ,PQ]
theorem Mg.d2{a b o i j}(h:Mg a b o i j):Gd a b (o++b.extract j++a.extract i):=by
 have:=h.d1
 unfold Gd at this⊢
 rw[PC,PC,Pn]at this⊢
 exact(SM _ Qk).trans this
abbrev Mh(a b o:Array Su)(i j:Nat):Prop:=o.reverse.toList.Perm (a.toList.drop i++b.toList.drop j)
theorem Mh.chA{a b o i j}(h:Mh a b o i j)(t:Nat)(ht:t<=i):Mh a b (o++(a.extract t i).reverse) t j:=by
 show(o++(a.extract t i).reverse).reverse.toList.Perm _
 rw[Wg,V0,PC,lZ]
 refine(SM _ h).trans ?_
 rw[<-Pn,<-pQ ht]
theorem Mh.chB{a b o i j}(h:Mh a b o i j)(t:Nat)(ht:t<=j):Mh a b (o++(b.extract t j).reverse) i t:=by
 show(o++(b.extract t j).reverse).reverse.toList.Perm _
 rw[Wg,V0,PC,lZ]
 have e:=pQ (l:=b.toList) ht
 refine(SM _ h).trans ?_
 rw[<-Pn]
 refine(T2 _ Qk).trans ?_
 rw[Pn,<-e]
theorem EF{xs:Array Su}{i:Nat}{x:Su}(hi:1<=i)(e:xs[i-1]?=YH x):xs.toList.drop (i-1)=x::xs.toList.drop i:=by
 obtain⟨l,e⟩:=Array.getElem?_eq_some_iff.mp e
 rw[QH (by rw[PH];exact l),show i-1+1=i by lia]
 simp[e]
theorem Mh.pA{a b o i j x}(h:Mh a b o i j)(hi:1<=i)(e:a[i-1]?=YH x):Mh a b (o.push x) (i-1) j:=by
 show(o.push x).reverse.toList.Perm _
 rw[EF hi e,W7,PC]
 exact Yp _ h
theorem Mh.pB{a b o i j x}(h:Mh a b o i j)(hj:1<=j)(e:b[j-1]?=YH x):Mh a b (o.push x) i (j-1):=by
 show(o.push x).reverse.toList.Perm _
 rw[EF hj e,W7,PC]
 exact(Yp x h).trans List.perm_middle.symm
theorem Mh.d1{a b o i j}(h:Mh a b o i j):Gd a b (a.extract 0 i++b.extract 0 j++o.reverse):=by
 unfold Gd
 rw[PC,PC,Js,Js]
 refine(SM _ h).trans (pm4.trans ?_)
 rw[PQ,PQ]
theorem Mh.d2{a b o i j}(h:Mh a b o i j):Gd a b (b.extract 0 j++a.extract 0 i++o.reverse):=by
 have:=h.d1
 unfold Gd at this⊢
 rw[PC,PC]at this⊢
 exact(T2 _ Qk).trans this
end L2
namespace L2
open PySem PyProof.Rows
noncomputable def mlo:Array Su->Array Su->StateT Sh Sem (Array Su):=sortPriv%PySem.Builtin.mergeLo
noncomputable abbrev MSt:=Option (Array Su)×Array Su×Nat×Nat×Nat×Nat×Nat
noncomputable def lo2(a b o:Array Su)(i j mg k k2:Nat):StateT Sh Sem (ForInStep MSt):=do
 let d<-Wf a i
 if(i+1+1==a.size)=true then pure (.done (YH (o.push d++b.extract j++a.extract (i+1)),o.push d,i+1,j,mg,k,k2))
 else if(decide (k<7)&&decide (k2<7))=true then pure (.done (YI,o.push d,i+1,j,mg,k,k2))
 else pure (.yield (YI,o.push d,i+1,j,mg,k,k2))
noncomputable def lo1(a b o:Array Su)(i j mg k bc:Nat):StateT Sh Sem (ForInStep MSt):=do
 let y<-Wf b j
 if(j+1==b.size)=true then pure (.done (YH (o.push y++a.extract i++b.extract (j+1)),o.push y,i,j+1,mg,k,bc))
 else do
  let x<-Wf a i
  let r<-gal true x b (j+1) (b.size-(j+1)) 0
  match r with
  |some k2=>
   if k2>0 then
    if(j+1+k2==b.size)=true then pure (.done (YH (o.push y++b.extract (j+1) (j+1+k2)++a.extract i++b.extract (j+1+k2)),o.push y++b.extract (j+1) (j+1+k2),i,j+1+k2,mg,k,k2))
    else lo2 a b (o.push y++b.extract (j+1) (j+1+k2)) i (j+1+k2) mg k k2
   else lo2 a b (o.push y) i (j+1) mg k k2
  |_=>pure (.done (YH (o.push y++a.extract i++b.extract (j+1)),o.push y,i,j+1,mg,k,bc))
noncomputable def lo0(a b o:Array Su)(i j mg ac bc:Nat):StateT Sh Sem (ForInStep MSt):=do
 let y<-Wf b j
 let r<-gal false y a i (a.size-i) 0
 match r with
 |some k=>
  if k>0 then
   if(i+k+1==a.size)=true then pure (.done (YH (o++a.extract i (i+k)++b.extract j++a.extract (i+k)),o++a.extract i (i+k),i+k,j,mg,k,bc))
   else if(i+k==a.size)=true then pure (.done (YH (o++a.extract i (i+k)++a.extract (i+k)++b.extract j),o++a.extract i (i+k),i+k,j,mg,k,bc))
   else lo1 a b (o++a.extract i (i+k)) (i+k) j mg k bc
  else lo1 a b o i j mg k bc
 |_=>pure (.done (YH (o++a.extract i++b.extract j),o,i,j,mg,ac,bc))
section
variable(a b:Array Su)(st:Sh)
structure LI(o:Array Su)(i j n:Nat):Prop where
 M:Mg a b o i j
 hi:i+1<a.size
 hj:j<b.size
 hx:n<=i+j
inductive LA(x:Nat):Option (Array Su)×Array Su×Nat×Nat×Nat->Sh->Prop
 |mk{i j:Nat}(g:Nat)(h:LI a b o i j (x+1)):LA x (YI,o,i,j,mg) (sGr st g)
inductive LB(g n:Nat):Option (Array Su)×Array Su×Nat×Nat×Nat×Nat->Sh->Prop
 |mk{i j:Nat}(h:LI a b o i j n):LB g n (YI,o,i,j,k,l) (sGr st g)
inductive LC(n:Nat):MSt->Sh->Prop
 |mk{i j mg:Nat}(g:Nat)(h:LI a b o i j n):LC n (YI,o,i,j,mg,k,l) (sGr st g)
inductive HD{β:Type}(I:Option (Array Su)×β->Sh->Prop):Option (Array Su)×β->Sh->Prop
 |dn (g:Nat) (h:Gd a b r):HD I (YH r,c) (sGr st g)
 |go (h:I c s):HD I c s
inductive LR(n:Nat)(st:Sh)(Q:ForInStep MSt->Sh->Prop):Prop
 |mk(q1:∀r c,Gd a b r->Q (.done (YH r,c)) st)(q2:∀o i j mg k l,LI a b o i j n->Q (.done (YI,o,i,j,mg,k,l)) st/\Q (.yield (YI,o,i,j,mg,k,l)) st):LR n st Q
end
section
variable{prog:Program}{w:R5}{A:Sq}{E:RI->RN->Prop}{s:RN}{κ:KeyKind}{á:UA}{st:Sh}{a b o:Array Su}{i j mg k bc n:Nat}
theorem JP{Q:ForInStep MSt->Sh->Prop}(ka:KeysOf κ a)(M:Mg a b o i j)(hi:i+1<a.size)(hj:j<b.size)(hx:n<=i+1+j)(q:LR a b n st Q):wpS (RY prog w) A E s (lo2 a b o i j mg k k2) Q st:=by
 obtain⟨x,e,kx,dx⟩:=gR ka (show i<a.size by lia)
 have M4:=M.pA dx
 unfold lo2
 refine RO (bw e ?_)
 by_cases c:(i+1+1==a.size)=true
 ·rw[if_pos c]
  exact RU (q.1 _ _ M4.d2)
 rw[if_neg c]
 have c:¬ i+1+1=a.size:=by simpa using c
 have z:=q.2 _ _ _ mg k k2 {M4,(),hj,hx}
 split
 ·exact RU z.1
 ·exact RU z.2
theorem JD(hO:Ł prog w A s κ á){Q:ForInStep MSt->Sh->Prop}(hk:kindOf st=á)(ka:KeysOf κ a)(kb:KeysOf κ b)(M:Mg a b o i j)(hi:i+1<a.size)(hj:j<b.size)(hx:n<=i+j+2)(q:LR a b n st Q):wpS (RY prog w) A E s (lo1 a b o i j mg k bc) Q st:=by
 obtain⟨y,ey,ky,dy⟩:=gR kb hj
 obtain⟨x,ex,kx,_⟩:=gR ka (show i<a.size by lia)
 have M2:=M.pB dy
 unfold lo1
 refine RO (bw ey ?_)
 by_cases c:(j+1==b.size)=true
 ·rw[if_pos c]
  exact RU (q.1 _ _ M2.d1)
 rw[if_neg c]
 have c:¬ j+1=b.size:=by simpa using c
 refine RO (bw ex (RO (nP hO hk (λm hm=>?_) kx () λk2 h2=>?_)))
 ·obtain⟨x,e,kx,_⟩:=gR kb (show j+1+m<b.size by lia)
  exact⟨x,e,kx⟩
 dsimp only
 split
 ·have M3:=M2.chB k2
  by_cases c:(j+1+k2==b.size)=true
  ·rw[if_pos c]
   exact RU (q.1 _ _ M3.d1)
  rw[if_neg c]
  have c:¬ j+1+k2=b.size:=by simpa using c
  exact JP ka M3 hi () () q
 ·exact JP ka M2 hi () () q
theorem MJ(hO:Ł prog w A s κ á){Q:ForInStep MSt->Sh->Prop}(hk:kindOf st=á)(ka:KeysOf κ a)(kb:KeysOf κ b)(L:LI a b o i j n)(q:LR a b n st Q):wpS (RY prog w) A E s (lo0 a b o i j mg ac bc) Q st:=by
 obtain⟨M,hi,hj,hx⟩:=L
 obtain⟨y,ey,ky,dy⟩:=gR kb hj
 unfold lo0
 refine RO (bw ey (RO (nP hO hk (λm hm=>?_) ky () λk h2=>?_)))
 ·obtain⟨x,e,kx,_⟩:=gR ka (show i+m<a.size by lia)
  exact⟨x,e,kx⟩
 dsimp only
 split
 ·have M1:=M.chA k
  by_cases c1:(i+k+1==a.size)=true
  ·rw[if_pos c1]
   exact RU (q.1 _ _ M1.d2)
  rw[if_neg c1]
  by_cases c2:(i+k==a.size)=true
  ·rw[if_pos c2]
   exact RU (q.1 _ _ M1.d1)
  rw[if_neg c2]
  have c1:¬ i+k+1=a.size:=by simpa using c1
  have c2:¬ i+k=a.size:=by simpa using c2
  exact JD hO hk ka kb M1 () hj () q
 ·exact JD hO hk ka kb M hi hj () q
theorem II(hO:Ł prog w A s κ á){Q:Array Su->Sh->Prop}(hk:kindOf st=á)(ka:KeysOf κ a)(kb:KeysOf κ b)(a1:1<=a.size)(b1:1<=b.size)(h:∀r g,Gd a b r->Q r (sGr st g)):wpS (RY prog w) A E s (mlo a b) Q st:=by
 obtain⟨y0,ey0,_,dy0⟩:=gR kb (show 0<b.size by lia)
 have M0:Mg a b (#[y0]:Array Su) 0 1:=Mg.pB (o:=#[]) (i:=0) (j:=0) (We []) dy0
 refine RO (VA (T1 {rfl,?_}))
 dsimp only
 refine RO (bw ey0 ?_)
 by_cases c1:(1==b.size)=true
 ·rw[if_pos c1]
  exact RU (h _ (Wh st) M0.d1)
 rw[if_neg c1]
 by_cases c2:(0+1==a.size)=true
 ·rw[if_pos c2]
  exact RU (h _ (Wh st) M0.d2)
 rw[if_neg c2]
 have c1:¬ 1=b.size:=by simpa using c1
 have c2:¬ 1=a.size:=by simpa using c2
 refine RO (UO ?_)
 refine RO (Tg (Sy (LA a b st) (Q:=HD a b st λ_ _=>False) (λx c Å _ hx q=>?_) (λc Å q=>?_) (.mk (Wh st) {M0,(),(),()})) λc Å q=>?_)
 ·obtain⟨g,⟨M,hi,hj,Ĩ⟩⟩:=q
  dsimp only
  refine RO (Tg (Sy (λy=>LB a b st g (x+1+min y 1)) (Q:=HD a b st (LB a b st g (x+2))) (λy c Å _ hy q=>?_) (λc Å q=>?_) (.mk {M,hi,hj,()})) λc Å q=>?_)
  ·clear M hi hj Ĩ
   obtain @⟨_,_,_,i,j,M,hi,hj,Ĩ⟩:=q
   obtain⟨yb,eyb,kyb,dyb⟩:=gR kb hj
   obtain⟨xa,exa,kxa,dxa⟩:=gR ka (show i<a.size by lia)
   dsimp only
   refine RO (bw eyb (RO (bw exa (RO (tW hO hk kyb kxa λz=>?_)))))
   dsimp only
   cases z with
   |true=>
    rw[if_pos rfl]
    have M':=M.pB dyb
    refine RO (bw eyb ?_)
    split<;>rename_i e1
    ·exact RU (.dn _ M'.d1)
    ·have e1:¬ j+1=b.size:=by simpa using e1
     split
     ·exact RU (.go (.mk {M',hi,(),()}))
     ·exact RU (.mk {M',hi,(),()})
   |false=>
    rw[if_neg Pa]
    have M':=M.pA dxa
    refine RO (bw exa ?_)
    split<;>rename_i e1
    ·exact RU (.dn _ M'.d2)
    ·have e1:¬ i+1+1=a.size:=by simpa using e1
     split
     ·exact RU (.go (.mk {M',(),hj,()}))
     ·exact RU (.mk {M',(),hj,()})
  ·obtain⟨⟨M,hi,hj,Ĩ⟩⟩:=q
   exact .go (.mk {M,hi,hj,()})
  ·clear M hi hj Ĩ
   cases q with
   |dn g hg=>exact RU (.dn g hg)
   |go q=>
   obtain⟨q⟩:=q
   dsimp only
   refine RO (VA (T1 {rfl,?_}))
   refine RO (Tg (Sy (λ_=>LC a b st (x+2)) (Q:=HD a b st (LC a b st (x+2))) (λy c Å _ hy q=>?_) (λc Å q=>.go q) (.mk g q)) λc Å q=>?_)
   ·obtain @⟨_,_,_,i,j,mg,g,L⟩:=q
    dsimp only
    rcases Nat.lt_or_ge 1 mg with mc|mc
    all_goals
     first|rw[if_pos (show mg>1 from mc)]|rw[if_neg (show ¬ mg>1 from RC.mpr mc)]
     exact RO (Tc (MJ hO hk ka kb L {λr c g=>.dn _ g,λo i j mg k l L=>{.go (.mk _ L),.mk _ L}}))
   ·cases q with
    |dn g hg=>exact RU (.dn g hg)
    |go q=>
    obtain⟨g,⟨M,hi,hj,hx⟩⟩:=q
    dsimp only
    exact RO (Tc (RU (.mk _ {M,hi,hj,()})))
 ·obtain⟨g,⟨M,hi,hj,hx⟩⟩:=q
  lia
 ·cases q with
  |dn g hg=>exact RU (h _ g hg)
  |go q=>exact q.elim
end
end L2
namespace L2
open PySem PyProof.Rows
noncomputable def mhi:Array Su->Array Su->StateT Sh Sem (Array Su):=sortPriv%PySem.Builtin.mergeHi
noncomputable abbrev MHt:=Option (Array Su)×Nat×Nat×Array Su×Nat×Nat×Nat
noncomputable def hi2(a b o:Array Su)(i j mg k k2:Nat):StateT Sh Sem (ForInStep MHt):=do
 let d<-Wf a (i-1)
 if(i-1==0)=true then pure (.done (YH (a.extract 0 (i-1)++b.extract 0 j++(o.push d).reverse),i-1,j,o.push d,mg,k,k2))
 else if(decide (k<7)&&decide (k2<7))=true then pure (.done (YI,i-1,j,o.push d,mg,k,k2))
 else pure (.yield (YI,i-1,j,o.push d,mg,k,k2))
noncomputable def hi1(a b o:Array Su)(i j mg k bc:Nat):StateT Sh Sem (ForInStep MHt):=do
 let y<-Wf b (j-1)
 if(j-1==1)=true then pure (.done (YH (b.extract 0 (j-1)++a.extract 0 i++(o.push y).reverse),i,j-1,o.push y,mg,k,bc))
 else do
  let x<-Wf a (i-1)
  let r<-gal true x b 0 (j-1) (j-1-1)
  match r with
  |some u=>
   if j-1-u>0 then
    if(u==1)=true then pure (.done (YH (b.extract 0 u++a.extract 0 i++(o.push y++(b.extract u (j-1)).reverse).reverse),i,u,o.push y++(b.extract u (j-1)).reverse,mg,k,j-1-u))
    else if(u==0)=true then pure (.done (YH (a.extract 0 i++b.extract 0 u++(o.push y++(b.extract u (j-1)).reverse).reverse),i,u,o.push y++(b.extract u (j-1)).reverse,mg,k,j-1-u))
    else hi2 a b (o.push y++(b.extract u (j-1)).reverse) i u mg k (j-1-u)
   else hi2 a b (o.push y) i (j-1) mg k (j-1-u)
  |_=>pure (.done (YH (a.extract 0 i++b.extract 0 (j-1)++(o.push y).reverse),i,j-1,o.push y,mg,k,bc))
noncomputable def hi0(a b o:Array Su)(i j mg ac bc:Nat):StateT Sh Sem (ForInStep MHt):=do
 let y<-Wf b (j-1)
 let r<-gal false y a 0 i (i-1)
 match r with
 |some t=>
  if i-t>0 then
   if(t==0)=true then pure (.done (YH (a.extract 0 t++b.extract 0 j++(o++(a.extract t i).reverse).reverse),t,j,o++(a.extract t i).reverse,mg,i-t,bc))
   else hi1 a b (o++(a.extract t i).reverse) t j mg (i-t) bc
  else hi1 a b o i j mg (i-t) bc
 |_=>pure (.done (YH (a.extract 0 i++b.extract 0 j++o.reverse),i,j,o,mg,ac,bc))
section
variable(a b:Array Su)(st:Sh)
structure HI(o:Array Su)(i j n:Nat):Prop where
 M:Mh a b o i j
 hi:1<=i
 ia:i<=a.size
 hj:2<=j
 jb:j<=b.size
 hx:n+i+j<=a.size+b.size
inductive HA(x:Nat):Option (Array Su)×Nat×Nat×Array Su×Nat->Sh->Prop
 |mk{i j:Nat}(g:Nat)(h:HI a b o i j (x+1)):HA x (YI,i,j,o,mg) (sGr st g)
inductive HB(g n:Nat):Option (Array Su)×Nat×Nat×Array Su×Nat×Nat->Sh->Prop
 |mk{i j:Nat}(h:HI a b o i j n):HB g n (YI,i,j,o,k,l) (sGr st g)
inductive HC(n:Nat):MHt->Sh->Prop
 |mk{i j mg:Nat}(g:Nat)(h:HI a b o i j n):HC n (YI,i,j,o,mg,k,l) (sGr st g)
inductive HR(n:Nat)(st:Sh)(Q:ForInStep MHt->Sh->Prop):Prop
 |mk(q1:∀r c,Gd a b r->Q (.done (YH r,c)) st)(q2:∀o i j mg k l,HI a b o i j n->Q (.done (YI,i,j,o,mg,k,l)) st/\Q (.yield (YI,i,j,o,mg,k,l)) st):HR n st Q
end
section
variable{prog:Program}{w:R5}{A:Sq}{E:RI->RN->Prop}{s:RN}{κ:KeyKind}{á:UA}{st:Sh}{a b o:Array Su}{i j mg k bc n:Nat}
theorem Jw{Q:ForInStep MHt->Sh->Prop}(ka:KeysOf κ a)(L:HI a b o i j (n-1))(hn:1<=n)(q:HR a b n st Q):wpS (RY prog w) A E s (hi2 a b o i j mg k k2) Q st:=by
 obtain⟨M,hi,ia,hj,jb,hx⟩:=L
 obtain⟨x,e,kx,_⟩:=gR ka (show i-1<a.size by lia)
 have M4:=M.pA hi e
 unfold hi2
 refine RO (bw e ?_)
 by_cases c:(i-1==0)=true
 ·rw[if_pos c]
  exact RU (q.1 _ _ M4.d1)
 rw[if_neg c]
 have c:¬ i-1=0:=by simpa using c
 have z:=q.2 _ _ _ mg k k2 {M4,(),(),hj,jb,()}
 split
 ·exact RU z.1
 ·exact RU z.2
theorem JN(hO:Ł prog w A s κ á){Q:ForInStep MHt->Sh->Prop}(hk:kindOf st=á)(ka:KeysOf κ a)(kb:KeysOf κ b)(M:Mh a b o i j)(hi:1<=i)(ia:i<=a.size)(hj:2<=j)(jb:j<=b.size)(hx:n+i+j<=a.size+b.size+2)(hn:1<=n)(q:HR a b n st Q):wpS (RY prog w) A E s (hi1 a b o i j mg k bc) Q st:=by
 obtain⟨y,ey,ky,_⟩:=gR kb (show j-1<b.size by lia)
 obtain⟨x,ex,kx,_⟩:=gR ka (show i-1<a.size by lia)
 have M2:=M.pB () ey
 unfold hi1
 refine RO (bw ey ?_)
 by_cases c:(j-1==1)=true
 ·rw[if_pos c]
  exact RU (q.1 _ _ M2.d2)
 rw[if_neg c]
 have c:¬ j-1=1:=by simpa using c
 refine RO (bw ex (RO (nP hO hk (λm hm=>?_) kx () λu hu=>?_)))
 ·obtain⟨x,e,kx,_⟩:=gR kb (show 0+m<b.size by lia)
  exact⟨x,e,kx⟩
 dsimp only
 split
 ·have M3:=M2.chB u hu
  by_cases c4:(u==1)=true
  ·rw[if_pos c4]
   exact RU (q.1 _ _ M3.d2)
  rw[if_neg c4]
  by_cases c5:(u==0)=true
  ·rw[if_pos c5]
   exact RU (q.1 _ _ M3.d1)
  rw[if_neg c5]
  have c4:¬ u=1:=by simpa using c4
  have c5:¬ u=0:=by simpa using c5
  exact Jw ka {M3,hi,ia,(),(),()} hn q
 ·exact Jw ka {M2,hi,ia,(),(),()} hn q
theorem Nm(hO:Ł prog w A s κ á){Q:ForInStep MHt->Sh->Prop}(hk:kindOf st=á)(ka:KeysOf κ a)(kb:KeysOf κ b)(L:HI a b o i j n)(hn:1<=n)(q:HR a b n st Q):wpS (RY prog w) A E s (hi0 a b o i j mg ac bc) Q st:=by
 obtain⟨M,hi,ia,hj,jb,hx⟩:=L
 obtain⟨y,ey,ky,_⟩:=gR kb (show j-1<b.size by lia)
 unfold hi0
 refine RO (bw ey (RO (nP hO hk (λm hm=>?_) ky () λt ht=>?_)))
 ·obtain⟨x,e,kx,_⟩:=gR ka (show 0+m<a.size by lia)
  exact⟨x,e,kx⟩
 dsimp only
 split
 ·have M1:=M.chA t ht
  by_cases c:(t==0)=true
  ·rw[if_pos c]
   exact RU (q.1 _ _ M1.d1)
  rw[if_neg c]
  have c:¬ t=0:=by simpa using c
  exact JN hO hk ka kb M1 () () hj jb () hn q
 ·exact JN hO hk ka kb M hi ia hj jb () hn q
theorem Jf(hO:Ł prog w A s κ á){Q:Array Su->Sh->Prop}(hk:kindOf st=á)(ka:KeysOf κ a)(kb:KeysOf κ b)(a1:1<=a.size)(b1:1<=b.size)(h:∀r g,Gd a b r->Q r (sGr st g)):wpS (RY prog w) A E s (mhi a b) Q st:=by
 obtain⟨x0,ex0,_,_⟩:=gR ka (show a.size-1<a.size by lia)
 have M0:Mh a b (#[x0]:Array Su) (a.size-1) b.size:=by
  refine Mh.pA (o:=#[]) (i:=a.size) (j:=b.size) ?_ a1 ex0
  show([]:List Su).Perm _
  rw[VR (QU PH),VR (QU PH)]
  exact .refl _
 refine RO (VA (T1 {rfl,?_}))
 dsimp only
 refine RO (bw ex0 ?_)
 by_cases c1:(a.size-1==0)=true
 ·rw[if_pos c1]
  exact RU (h _ (Wh st) M0.d1)
 rw[if_neg c1]
 by_cases c2:(b.size==1)=true
 ·rw[if_pos c2]
  exact RU (h _ (Wh st) M0.d2)
 rw[if_neg c2]
 have c1:¬ a.size-1=0:=by simpa using c1
 have c2:¬ b.size=1:=by simpa using c2
 refine RO (UO ?_)
 refine RO (Tg (Sy (HA a b st) (Q:=HD a b st λ_ _=>False) (λx c Å _ hx q=>?_) (λc Å q=>?_) (.mk (Wh st) {M0,(),(),(),O4 _,()})) λc Å q=>?_)
 ·obtain⟨g,⟨M,hi,ia,hj,jb,Ĩ⟩⟩:=q
  dsimp only
  refine RO (Tg (Sy (λy=>HB a b st g (x+1+min y 1)) (Q:=HD a b st (HB a b st g (x+2))) (λy c Å _ hy q=>?_) (λc Å q=>?_) (.mk {M,hi,ia,hj,jb,()})) λc Å q=>?_)
  ·clear M hi ia hj jb Ĩ
   obtain @⟨_,_,_,i,j,M,hi,ia,hj,jb,Ĩ⟩:=q
   obtain⟨yb,eyb,kyb,_⟩:=gR kb (show j-1<b.size by lia)
   obtain⟨xa,exa,kxa,_⟩:=gR ka (show i-1<a.size by lia)
   dsimp only
   refine RO (bw eyb (RO (bw exa (RO (tW hO hk kyb kxa λz=>?_)))))
   dsimp only
   cases z with
   |true=>
    rw[if_pos rfl]
    have M':=M.pA hi exa
    refine RO (bw exa ?_)
    split<;>rename_i e1
    ·exact RU (.dn _ M'.d1)
    ·have e1:¬ i-1=0:=by simpa using e1
     split
     ·exact RU (.go (.mk {M',(),(),hj,jb,()}))
     ·exact RU (.mk {M',(),(),hj,jb,()})
   |false=>
    rw[if_neg Pa]
    have M':=M.pB () eyb
    refine RO (bw eyb ?_)
    split<;>rename_i e1
    ·exact RU (.dn _ M'.d2)
    ·have e1:¬ j-1=1:=by simpa using e1
     split
     ·exact RU (.go (.mk {M',hi,ia,(),(),()}))
     ·exact RU (.mk {M',hi,ia,(),(),()})
  ·obtain⟨⟨M,hi,ia,hj,jb,Ĩ⟩⟩:=q
   exact .go (.mk {M,hi,ia,hj,jb,()})
  ·clear M hi ia hj jb Ĩ
   cases q with
   |dn g hg=>exact RU (.dn g hg)
   |go q=>
   obtain⟨q⟩:=q
   dsimp only
   refine RO (VA (T1 {rfl,?_}))
   refine RO (Tg (Sy (λ_=>HC a b st (x+2)) (Q:=HD a b st (HC a b st (x+2))) (λy c Å _ hy q=>?_) (λc Å q=>.go q) (.mk g q)) λc Å q=>?_)
   ·obtain @⟨_,_,_,i,j,mg,g,L⟩:=q
    dsimp only
    rcases Nat.lt_or_ge 1 mg with mc|mc
    all_goals
     first|rw[if_pos (show mg>1 from mc)]|rw[if_neg (show ¬ mg>1 from RC.mpr mc)]
     exact RO (Tc (Nm hO hk ka kb L () {λr c g=>.dn _ g,λo i j mg k l L=>{.go (.mk _ L),.mk _ L}}))
   ·cases q with
    |dn g hg=>exact RU (.dn g hg)
    |go q=>
    obtain⟨g,⟨M,hi,ia,hj,jb,hx⟩⟩:=q
    dsimp only
    exact RO (Tc (RU (.mk _ {M,hi,ia,hj,jb,()})))
 ·obtain⟨g,⟨M,hi,ia,hj,jb,hx⟩⟩:=q
  lia
 ·cases q with
  |dn g hg=>exact RU (h _ g hg)
  |go q=>exact q.elim
end
end L2
namespace L2
open PySem PyProof.Rows
section
variable{prog:Program}{w:R5}{A:Sq}{E:RI->RN->Prop}{s:RN}{κ:KeyKind}{á:UA}
noncomputable def BH(xs:Array Su)(i:Nat)(m:List (Su×Nat)):Array Su:=m.foldl (λa p=>a.setIfInBounds (i+p.2) p.1) xs
theorem Cr (i):∀m k xs,i+k+m.length<=xs.size->(BH xs i (m.zipIdx k)).toList=xs.toList.take (i+k)++m++xs.toList.drop (i+k+m.length)
 | [],k,xs,h=>by
  show xs.toList=_
  simp
 |x::m,k,xs,h=>by
  rw[O6]at h
  rw[List.zipIdx_cons]
  show(BH (xs.setIfInBounds (i+k) x) i (m.zipIdx (k+1))).toList=_
  rw[Cr i m (k+1) _ (by rw[Array.size_setIfInBounds];lia),Vb]
  have hl:i+k<xs.toList.length:=by rw[PH];lia
  have e1:(xs.toList.set (i+k) x).take (i+(k+1))=xs.toList.take (i+k)++[x]:=by
   rw[show i+(k+1)=i+k+1 by lia,P4,List.take_set_of_le (O4 _),Rb hl]
   rfl
  have e2:(xs.toList.set (i+k) x).drop (i+(k+1)+m.length)=xs.toList.drop (i+k+(m.length+1)):=by
   rw[List.drop_set_of_lt ()]
   congr 1
   lia
  rw[e1,e2,O6]
  simp
theorem Io{B:Type}{M Q}{st Å:B}(h:Q ⟨⟩ Å):wpS M A E s (set Å:StateT B Sem PUnit) Q st:=by
 unfold wpS
 rw[StateT.run_set]
 exact RK ⟨rfl,h⟩
theorem yT{xs}(hk:KeysOf κ xs) (i j):KeysOf κ (xs.extract i j):=λp hp=>by
 rw[lZ]at hp
 exact hk p (QX (Qo hp))
theorem wD{xs ys}(h:KeysOf κ ys)(p:xs.Perm ys):KeysOf κ xs:=λq hq=>h q ((QZ.mp p).mem_iff.mp hq)
theorem Hs(hO:Ł prog w A s κ á){st i sa na pw nb pw2 Q}(hk:kindOf st=á)(hf:Uo st=YI)(kx:KeysOf κ (Sl st))(h1:(Sx st)[i]?=YH (sa,na,pw))(h2:(Sx st)[i+1]?=YH (sa+na,nb,pw2))(a1:1<=na)(b1:1<=nb)(hsz:sa+na+nb<=(Sl st).size)
  (h:∀Å,kindOf Å=á->Uo Å=YI->Sx Å=((Sx st).setIfInBounds i (sa,na+nb,pw)).eraseIdxIfInBounds (i+1)->(Sl Å).Perm (Sl st)->Q true Å):wpS (RY prog w) A E s (mergeAt' i) Q st:=by
 refine RO (UO ?_)
 dsimp only
 rw[h1,h2]
 dsimp only
 refine RO (Io ?_)
 obtain⟨y0,ey0,ky0,_⟩:=gR kx (show sa+na<(Sl st).size by lia)
 refine RO (bw ey0 (RO (nP hO hk (λm hm=>?_) ky0 () λk hk1=>?_)))
 ·obtain⟨x,e,kx,_⟩:=gR kx (show sa+m<(Sl st).size by lia)
  exact⟨x,e,kx⟩
 dsimp only
 by_cases c1:(na-k==0)=true
 ·rw[if_pos c1]
  exact RU (h _ hk hf rfl (Ur _))
 rw[if_neg c1]
 have c1:¬ na-k=0:=by simpa using c1
 obtain⟨x1,ex1,kx1,_⟩:=gR kx (show sa+k+(na-k)-1<(Sl st).size by lia)
 refine RO (bw ex1 (RO (nP hO hk (λm hm=>?_) kx1 () λu hu1=>?_)))
 ·obtain⟨x,e,kx,_⟩:=gR kx (show sa+na+m<(Sl st).size by lia)
  exact⟨x,e,kx⟩
 dsimp only
 by_cases c2:(u==0)=true
 ·rw[if_pos c2]
  exact RU (h _ hk hf rfl (Ur _))
 rw[if_neg c2]
 have c2:¬ u=0:=by simpa using c2
 have za:((Sl st).extract (sa+k) (sa+na)).size=na-k:=by rw[W8];lia
 have zb:((Sl st).extract (sa+na) (sa+na+u)).size=u:=by rw[W8];lia
 have kA:=yT kx (sa+k) (sa+na)
 have kB:=yT kx (sa+na) (sa+na+u)
 have out:∀(r:Array Su)(g:Nat),Gd ((Sl st).extract (sa+k) (sa+na)) ((Sl st).extract (sa+na) (sa+na+u)) r->Q true (W6 (kindOf st) (BH (Sl st) (sa+k) r.toList.zipIdx) (((Sx st).setIfInBounds i (sa,na+nb,pw)).eraseIdxIfInBounds (i+1)) g (Uo st)):=by
  intro r g p
  have rl:r.toList.length=na-k+u:=by rw[p.length_eq,OX,PH,PH,za,zb]
  refine h _ hk hf rfl (QZ.mpr ?_)
  show(BH (Sl st) (sa+k) r.toList.zipIdx).toList.Perm _
  rw[Cr (sa+k) r.toList 0 (Sl st) (by rw[rl];lia),rl,show sa+k+0=sa+k by lia,show sa+k+(na-k+u)=sa+na+u by lia]
  refine((p.append_left _).append_right _).trans (List.Perm.of_eq ?_)
  have e1:=pQ (l:=(Sl st).toList) (show sa+k<=sa+na by lia)
  have e2:=pQ (l:=(Sl st).toList) (show sa+na<=sa+na+u by lia)
  rw[lZ,lZ,Pn,Pn,<-e2,<-e1,PQ]
 by_cases c3:na-k<=u
 ·rw[if_pos c3]
  refine RO (II hO hk kA kB (by rw[za];lia) (by rw[zb];lia) λr g hg=>RO (Tc (RO (UO (RU ?_)))))
  have:=out r g hg
  rw[show(Uo st).isNone=true by rw[hf];rfl]
  exact this
 ·rw[if_neg c3]
  refine RO (Jf hO hk kA kB (by rw[za];lia) (by rw[zb];lia) λr g hg=>RO (Tc (RO (UO (RU ?_)))))
  have:=out r g hg
  rw[show(Uo st).isNone=true by rw[hf];rfl]
  exact this
end
end L2
namespace L2
open PySem PyProof.Rows
section
variable{prog:Program}{w:R5}{A:Sq}{E:RI->RN->Prop}{s:RN}{κ:KeyKind}{á:UA}{st0 st:Sh}
structure ł(st0 st:Sh):Prop where
 kd:kindOf st=kindOf st0
 fl:Uo st=YI
 pd:Sx st=Sx st0
 pm:(Sl st).Perm (Sl st0)
theorem ł.sz(C:ł st0 st):(Sl st).size=(Sl st0).size:=C.pm.size_eq
theorem ł.set(C:ł st0 st){xs}(p:xs.Perm (Sl st)):ł st0 (setArr st xs):=⟨C.kd,C.fl,C.pd,p.trans C.pm⟩
theorem Dg(hO:Ł prog w A s κ (kindOf st0)){i j}{Q:Option Bool->Sh->Prop}(C:ł st0 st)(k0:KeysOf κ (Sl st0))(hi:i<(Sl st0).size)(hj:j<(Sl st0).size)(h:∀b,Q (YH b) st):wpS (RY prog w) A E s (ltAt' i j) Q st:=by
 have kx:=wD k0 C.pm
 obtain⟨x,ex,kx1,_⟩:=gR kx (show i<(Sl st).size by rw[C.sz];exact hi)
 obtain⟨y,ey,ky1,_⟩:=gR kx (show j<(Sl st).size by rw[C.sz];exact hj)
 rw[ltAt'_eq]
 refine RO (UO ?_)
 show wpS _ _ _ _ (do let x<-Wf (Sl st) i;let y<-Wf (Sl st) j;lt' x y) Q st
 exact RO (bw ex (RO (bw ey (tW hO C.kd kx1 ky1 h))))
theorem Hr(hO:Ł prog w A s κ (kindOf st0)){lo n ok Q}(k0:KeysOf κ (Sl st0))(hn:lo+n<=(Sl st0).size)(C:ł st0 st)(h:∀Å,ł st0 Å->Q true Å):wpS (RY prog w) A E s (binarySort' lo n ok) Q st:=by
 refine RO (Tg (Sy (I:=λk c Å=>c=(YI,Unit.unit)/\ł st0 Å) (Q:=λc Å=>c=(YI,Unit.unit)/\ł st0 Å) ?s1 (λ_ _ q=>q) ⟨rfl,C⟩) ?p1)
 case p1=>
  rintro c Å ⟨rfl,C'⟩
  exact RU (h Å C')
 case s1=>
  rintro k c st1 hak hkn ⟨rfl,C1⟩
  refine RO (Tg (Sy (I:=λx c Ń=>Ń=st1/\∃l r,c=(YI,l,r)/\l<=r/\r<=k) (Q:=λc Ń=>Ń=st1/\∃l r,c=(YI,l,r)) ?s2 (λc Ń q=>by obtain⟨e,l,r,e2,_⟩:=q;exact⟨e,l,r,e2⟩) {rfl,0,k,rfl,Pd _,O4 _}) ?p2)
  case s2=>
   rintro x c Ń _ hx ⟨rfl,l,r,rfl,h1,h2⟩
   dsimp only
   by_cases z:l ≥ r
   ·rw[if_pos z]
    exact RU ⟨rfl,l,r,rfl⟩
   ·rw[if_neg z]
    refine RO (Dg hO C1 k0 (show lo+k<_ by lia) (show lo+(l+r)/2<_ by lia) λb=>?_)
    cases b with
    |true=>exact RU {rfl,l,(l+r)/2,rfl,(),()}
    |false=>exact RU {rfl,(l+r)/2+1,r,rfl,(),()}
  case p2=>
   rintro c Ń ⟨rfl,l,r,rfl⟩
   exact RO (Tc (RU {rfl,C1.set (bubble_perm _ _ _)}))
theorem JE{a ñ}{f:Nat->Option (Option Nat)×Nat->StateT Sh Sem (ForInStep (Option (Option Nat)×Nat))}(ha:1<=a)(han:a<=ñ)
  (hf:∀(x:Nat)(R:ForInStep (Option (Option Nat)×Nat)->Sh->Prop),1<=x->x<ñ->R (.done (YI,x)) st->R (.yield (YI,x+1)) st->wpS (RY prog w) A E s (f x (YI,x)) R st) :
  wpS (RY prog w) A E s (forIn [a:ñ] (YI,a) f) (λc Å=>Å=st/\∃m,c=(YI,m)/\a<=m/\m<=ñ) st:=by
 refine Sy (I:=λx c Å=>Å=st/\c=(YI,x)) ?s1 ?f1 ⟨rfl,rfl⟩
 case f1=>
  rintro c Å ⟨rfl,rfl⟩
  exact{rfl,_,rfl,(),()}
 case s1=>
  rintro x c Å hax hx ⟨rfl,rfl⟩
  exact hf x _ () hx {rfl,x,rfl,hax,()} ⟨rfl,rfl⟩
theorem K3{n ñ}{f:Nat->Option (Option Nat)×Nat×Nat->StateT Sh Sem (ForInStep (Option (Option Nat)×Nat×Nat))}(h1:1<=n)(hn:n<=ñ)(C:ł st0 st)
  (hf:∀(x e:Nat)(st:Sh)(R:ForInStep (Option (Option Nat)×Nat×Nat)->Sh->Prop),ł st0 st->1<=x->x<ñ->(∀Å,ł st0 Å->R (.yield (YI,x+1,0)) Å)->R (.done (YI,x,e)) st->R (.yield (YI,x+1,e+1)) st->wpS (RY prog w) A E s (f x (YI,x,e)) R st) :
  wpS (RY prog w) A E s (forIn [n:ñ] (YI,n,0) f) (λc Å=>∃m e,c=(YI,m,e)/\ł st0 Å/\n<=m/\m<=ñ) st:=by
 refine Sy (I:=λx c Å=>∃e,c=(YI,x,e)/\ł st0 Å) ?s1 ?f1 ⟨0,rfl,C⟩
 case f1=>
  rintro c Å ⟨e,rfl,C'⟩
  exact{_,e,rfl,C',(),()}
 case s1=>
  rintro x c Å hax hx ⟨e,rfl,C'⟩
  exact hf x e Å _ C' () hx (λÅ C'=>⟨0,rfl,C'⟩) {x,e,rfl,C',hax,()} {e+1,rfl,C'}
theorem Hm(hO:Ł prog w A s κ (kindOf st0)){lo ñ}{Q:Option Nat->Sh->Prop}(k0:KeysOf κ (Sl st0))(h1:1<=ñ)(hl:lo+ñ<=(Sl st0).size)(C:ł st0 st)
  (h:∀m Å,ł st0 Å->1<=m->m<=ñ->Q (YH m) Å):wpS (RY prog w) A E s (countRun' lo ñ) Q st:=by
 refine RO (Tg (JE (O4 1) h1 ?_) ?_)
 ·intro x R n1 nr a1 a2
  dsimp only
  refine RO (Dg hO C k0 (show lo+x<_ by lia) (show lo+x-1<_ by lia) λb=>?_)
  cases b with
  |true=>exact RU a1
  |false=>exact RU a2
 rintro c Å ⟨rfl,m,rfl,m1,m2⟩
 dsimp only
 by_cases e:(m==ñ)=true
 ·rw[if_pos e]
  exact RU (h m _ C m1 m2)
 rw[if_neg e]
 have e:¬ m=ñ:=by simpa using e
 by_cases mm:m>1
 case' pos=>
  rw[if_pos mm]
  refine RO (Dg hO C k0 (show lo<_ by lia) (show lo+m-1<_ by lia) λb=>?_)
  cases b
  case true=>exact RU (h m _ C m1 m2)
  dsimp only
  rw[if_neg Pa]
  have C:=C.set (Wi (Sl Å) lo (lo+m) ((lo+m-lo)/2))
  refine RO (Tc ?_)
 case' neg=>rw[if_neg mm]
 all_goals
  refine RO (VA (T1 {rfl,?_}))
  refine RO (Tg (K3 (st0:=st0) () () C ?_) ?_)
  ·intro x e st R C n1 nr a1 a2 a3
   dsimp only
   refine RO (Dg hO C k0 (show lo+x<_ by lia) (show lo+x-1<_ by lia) λb=>?_)
   cases b with
   |true=>
    dsimp only
    rw[if_pos rfl]
    split
    ·exact RO (Tc (RU (a1 _ (C.set (Wi _ _ _ _)))))
    ·exact RU (a1 _ C)
   |false=>
    dsimp only
    rw[if_neg Pa]
    refine RO (Dg hO C k0 (show lo+x-1<_ by lia) (show lo+x<_ by lia) λb=>?_)
    cases b with
    |true=>exact RU a2
    |false=>exact RU a3
  ·rintro c Ń ⟨r,e,rfl,C2,r1,r2⟩
   dsimp only
   by_cases e0:e>0
   case' pos=>
    rw[if_pos e0]
    have C2:=C2.set (Wi (Sl Ń) (lo+r-(e+1)) (lo+r) ((lo+r-(lo+r-(e+1)))/2))
    refine RO (Tc ?_)
   case' neg=>rw[if_neg e0]
   all_goals
    have C4:=C2.set (Wi _ lo (lo+r) ((lo+r-lo)/2))
    refine RO (Tc (RO (Tg (JE (show 1<=r by lia) r2 ?_) ?_)))
    ·intro x R n1 nr a1 a2
     dsimp only
     refine RO (Dg hO C4 k0 (show lo+x<_ by lia) (show lo+x-1<_ by lia) λb=>?_)
     cases b with
     |true=>exact RU a1
     |false=>exact RU a2
    ·rintro c st3 ⟨rfl,v,rfl,v1,v2⟩
     exact RU (h v _ C4 () v2)
end
end L2
namespace L2
open PySem PyProof.Rows
section
variable{prog:Program}{w:R5}{A:Sq}{E:RI->RN->Prop}{s:RN}{κ:KeyKind}{á:UA}{st0 st:Sh}
noncomputable def Rn:Nat->List (Nat×Nat×Nat)->Nat->Prop
 |a,[],lo=>a=lo
 |a,(b,n,_)::r,lo=>b=a/\1<=n/\Rn (a+n) r lo
theorem Rn.le:∀{r:List (Nat×Nat×Nat)}{a lo:Nat},Rn a r lo->a+r.length<=lo
 | [],a,lo,h=>QU h
 | (b,n,p)::r,a,lo,h=>by
  have:=h.2.2.le
  have:=h.2.1
  rw[O6]
  lia
theorem Rn.app{v lo}:∀{u:List (Nat×Nat×Nat)}{a:Nat},Rn a (u++v) lo->∃m,Rn a u m/\Rn m v lo
 | [],a,h=>⟨a,rfl,h⟩
 | (b,n,p)::u,a,h=>by
  obtain⟨m,h1,h2⟩:=Rn.app (u:=u) h.2.2
  exact{m,⟨h.1,h.2.1,h1⟩,h2}
theorem Rn.cat{v m lo}:∀{u:List (Nat×Nat×Nat)}{a:Nat},Rn a u m->Rn m v lo->Rn a (u++v) lo
 | [],a,h,h2=>by rw[show a=m from h];exact h2
 | (b,n,p)::u,a,h,h2=>⟨h.1,h.2.1,Rn.cat h.2.2 h2⟩
theorem Rn.mod{f:Nat×Nat×Nat->Nat×Nat×Nat}:∀{r:List (Nat×Nat×Nat)}{a lo:Nat}(i:Nat),(∀y,(f y).1=y.1/\(f y).2.1=y.2.1)->Rn a r lo->Rn a (r.modify i f) lo
 | [],a,lo,0,hf,h=>h
 | [],a,lo,i+1,hf,h=>h
 | (b,n,p)::r,a,lo,0,hf,h=>by
  obtain⟨e1,e2⟩:=hf (b,n,p)
  show Rn a (f (b,n,p)::r) lo
  rcases hy:f (b,n,p)with⟨b',n',p'⟩
  rw[hy]at e1 e2
  cases e1
  cases e2
  exact h
 | (b,n,p)::r,a,lo,i+1,hf,h=>⟨h.1,h.2.1,Rn.mod i hf h.2.2⟩
theorem ET{α:Type}{a b x:α}:∀(u v:List α),((u++a::b::v).set u.length x).eraseIdx (u.length+1)=u++x::v
 | [],v=>rfl
 |c::u,v=>by
  show c::((u++a::b::v).set u.length x).eraseIdx (u.length+1)=_
  rw[ET u v]
  rfl
structure Sb(st0 st:Sh)(rs:List (Nat×Nat×Nat))(lo:Nat):Prop where
 kd:kindOf st=kindOf st0
 fl:Uo st=YI
 pm:(Sl st).Perm (Sl st0)
 pe:(Sx st).toList=rs
 R:Rn 0 rs lo
 le:lo<=(Sl st0).size
theorem Sb.len{rs lo}(S:Sb st0 st rs lo):(Sx st).size=rs.length:=by rw[<-S.pe,PH]
theorem Ju(hO:Ł prog w A s κ (kindOf st0)){lo i rs Q}(k0:KeysOf κ (Sl st0))(S:Sb st0 st rs lo)(hi:i+1<rs.length)
  (h:∀Å rs',Sb st0 Å rs' lo->rs'.length+1=rs.length->Q true Å):wpS (RY prog w) A E s (mergeAt' i) Q st:=by
 have sz:(Sl st).size=(Sl st0).size:=S.pm.size_eq
 obtain⟨⟨sa,na,pw⟩,ea⟩:∃x,rs[i]?=YH x:={_,O7 ()}
 obtain⟨⟨sb,nb,pw2⟩,eb⟩:∃x,rs[i+1]?=YH x:={_,O7 hi}
 have es:rs=rs.take i++(sa,na,pw)::(sb,nb,pw2)::rs.drop (i+2):=by
  have e1:=QH (l:=rs) (i:=i) ()
  have e2:=QH (l:=rs) (i:=i+1) hi
  rw[(Pl.mp ea).2]at e1
  rw[(Pl.mp eb).2]at e2
  conv=>lhs;rw[<-PQ i rs,e1,e2]
 have R':=S.R
 rw[es]at R'
 obtain⟨m,R1,z1,n1,z2,n2,R3⟩:=R'.app
 subst z1
 subst z2
 have l3:=R3.le
 have ll:=S.le
 refine Hs hO S.kd S.fl (wD k0 S.pm) (by rw[<-Qc,S.pe];exact ea) (by rw[<-Qc,S.pe];exact eb) n1 n2 (by rw[sz];lia) λÅ h1 h2 h3 h4=>?_
 have il:(rs.take i).length=i:=by rw[PV];lia
 refine h Å (rs.take i++(sa,na+nb,pw)::rs.drop (i+2)) {h1,h2,h4.trans S.pm,?_,Rn.cat R1 {rfl,(),by rw[<-Rf];exact R3},S.le} ?_
 ·rw[h3,Array.toList_eraseIdxIfInBounds,Vb,S.pe]
  have e:=ET (a:=(sa,na,pw)) (b:=(sa+na,nb,pw2)) (x:=(sa,na+nb,pw)) (rs.take i) (rs.drop (i+2))
  rwa [il,<-es]at e
 ·rw[OX,O6,il,Qu]
  lia
theorem Jj(hO:Ł prog w A s κ á){Q:Unit->Sh->Prop}(kd:kindOf st=á)(fl:Uo st=YI)(pd:Sx st=#[])(k0:KeysOf κ (Sl st))
  (h:∀Å,(Sl Å).Perm (Sl st)->Uo Å=YI->Q Unit.unit Å):wpS (RY prog w) A E s sortRuns' Q st:=by
 subst kd
 rw[sortRuns'_eq]
 refine RO (UO ?_)
 dsimp only
 refine RO (Tg (Sy (I:=λx c Å=>∃lo rs,c=(YI,lo)/\Sb st Å rs lo/\x<=lo)
  (Q:=λc Å=>∃rs,c=(YI,(Sl st).size)/\Sb st Å rs (Sl st).size) ?s1 ?f1 {0,[],rfl,{rfl,fl,Ur _,by rw[pd],rfl,Pd _},Pd _}) ?p1)
 case f1=>
  rintro c Å ⟨lo,rs,rfl,S,h2⟩
  have:lo=(Sl st).size:=by
   have:max 0 (Sl st).size<=lo:=h2
   have:=S.le
   lia
  subst this
  exact⟨rs,rfl,S⟩
 case p1=>
  rintro c Å ⟨rs,rfl,S⟩
  dsimp only
  refine RO (Tg (Sy (I:=λx c Ċ=>c=(YI,Unit.unit)/\∃Ĵ,Sb st Ċ Ĵ (Sl st).size/\(Ĵ.length<=1\/Ĵ.length+x<=(Sl st).size))
   (Q:=λc Ċ=>c=(YI,Unit.unit)/\∃Ĵ,Sb st Ċ Ĵ (Sl st).size) ?s2 (λc Ċ q=>by obtain⟨e,Ĵ,S4,_⟩:=q;exact⟨e,Ĵ,S4⟩) {rfl,rs,S,.inr (by have:=S.R.le;lia)}) ?p2)
  case s2=>
   rintro x c Ċ _ hx ⟨rfl,Ĵ,S4,l4⟩
   have z4:=S4.len
   refine RO (UO ?_)
   by_cases c4:(Sx Ċ).size<=1
   ·rw[if_pos c4]
    exact RU ⟨rfl,Ĵ,S4⟩
   ·rw[if_neg c4]
    refine RO (Ju hO k0 S4 ?_ λst5 rs5 S5 l5=>?_)
    ·have hh:∀(P:Prop) [Decidable P],(if P then(Sx Ċ).size-2-1 else(Sx Ċ).size-2)+1<Ĵ.length:=λP _=>by split<;>lia
     exact hh _
    ·rw[if_neg ∅]
     exact RU {rfl,rs5,S5,()}
  case p2=>
   rintro c Ċ ⟨rfl,Ĵ,S4⟩
   exact RU (h Ċ S4.pm S4.fl)
 case s1=>
  rintro x c Å _ hx ⟨lo,rs,rfl,S,h2⟩
  dsimp only
  by_cases c1:lo ≥ (Sl st).size
  ·rw[if_pos c1]
   have:lo=(Sl st).size:=by have:=S.le;lia
   subst this
   exact RU ⟨rs,rfl,S⟩
  rw[if_neg c1]
  have z':(Sl Å).size=(Sl st).size:=S.pm.size_eq
  have k':=wD k0 S.pm
  have hO':Ł prog w A s κ (kindOf Å):=by rw[S.kd];exact hO
  refine RO (Hm (st0:=Å) hO' k' () (by rw[z'];lia) {rfl,S.fl,rfl,Ur _} λm Ń C2 m1 m2=>?_)
  dsimp only
  split
  case' isTrue Ý=>
   refine RO (VA (T1 {rfl,?_}))
   refine RO (Hr (st0:=Å) hO' k' (by rw[z'];lia) C2 λst3 C3=>?_)
   rw[if_neg ∅]
   generalize hN:min ((Sl st).size-lo) (minRun' (Sl st).size (Sl st).size 0)=N
   have hn1:1<=N:=()
   have hn2:lo+N<=(Sl st).size:=()
  case' isFalse=>
   have C3:=C2
   generalize hN:m=N
   have hn1:1<=N:=()
   have hn2:lo+N<=(Sl st).size:=()
  all_goals
   have S3:Sb st _ rs lo:={C3.kd.trans S.kd,C3.fl,C3.pm.trans S.pm,by rw[C3.pd];exact S.pe,S.R,S.le}
   refine RO (UO ?_)
   rcases eb:(Sx _).back? with _|⟨s1,n1,p1⟩
   ·dsimp only
    refine RO (Tc (RU {lo+N,rs++[(lo,N,0)],rfl,{S3.kd,S3.fl,S3.pm,?_,Rn.cat S3.R ⟨rfl,hn1,rfl⟩,hn2},()}))
    show((Sx _).push (lo,N,0)).toList=_
    rw[QS,S3.pe]
   ·dsimp only
    refine RO (Tg (Sy (I:=λ_ c Ċ=>c=(YI,Unit.unit)/\∃Ĵ,Sb st Ċ Ĵ lo) (Q:=λc Ċ=>c=(YI,Unit.unit)/\∃Ĵ,Sb st Ċ Ĵ lo) ?_ (λc Ċ z=>z) ⟨rfl,rs,S3⟩) ?_)
    ·rintro x4 c Ċ _ _ ⟨rfl,Ĵ,S4⟩
     refine RO (UO ?_)
     have l4:=S4.len
     by_cases c4:(Sx Ċ).size>1
     ·rw[if_pos c4,getElem?_pos (Sx Ċ) ((Sx Ċ).size-2) ()]
      rcases(Sx Ċ)[(Sx Ċ).size-2]'(())with⟨o1,o2,o3⟩
      dsimp only
      split
      ·exact RU ⟨rfl,Ĵ,S4⟩
      ·refine RO (Ju hO k0 S4 (show(Sx Ċ).size-2+1<Ĵ.length by lia) λst5 rs5 S5 _=>?_)
       rw[if_neg ∅]
       exact RU ⟨rfl,rs5,S5⟩
     ·rw[if_neg c4]
      exact RU ⟨rfl,Ĵ,S4⟩
    ·rintro c st6 ⟨rfl,rs6,S6⟩
     dsimp only
     refine RO (Tc (RO (Tc (RU {lo+N,_,rfl,{S6.kd,S6.fl,S6.pm,rfl,?_,hn2},()}))))
     show Rn 0 (((Sx st6).modify _ (λy:Nat×Nat×Nat=>(y.1,y.2.1,power' (Sl st).size (2*s1+n1) (2*s1+n1+n1+N) (Sl st).size))).push (lo,N,0)).toList _
     rw[QS,Array.toList_modify,S6.pe]
     exact Rn.cat (S6.R.mod _ λy=>⟨rfl,rfl⟩) ⟨rfl,hn1,rfl⟩
end
end L2
namespace L2
open PySem PyProof.Rows
section
variable{prog:Program}{w:R5}{A:Sq}{E:RI->RN->Prop}{s:RN}{κ:KeyKind}{á:UA}
def KKi(prog:Program)(w:R5)(A:Sq)(s:RN)(á:UA)(xs:List RI):Prop:=∀(E:RI->RN->Prop) x y r {Q:UA->RN->Prop},xs=x::y::r->Q á s->wpAny (RY prog w) A (keyKind' (x::y::r).toArray) Q E s
theorem EO{q:RJ}{xs:List RI}(hO:∀h',(∀b o,b≠q->s.heap.get? b=YH o->h'.get? b=YH o)->Ł prog w A { s with heap:=h' } κ á/\KKi prog w A { s with heap:=h' } á xs){n:Nat}{P:Fin->RN->Prop}(hq:s.heap.get? q=YH (T7 "list" xs.toArray n))(k0:KeysOf κ (XZ xs))(hs:xs.length<=sizeLine)
  (fin:∀Å:Sh,(Sl Å).Perm (XZ xs)->P (.done (.ret .none)) { s with heap:=Yn s.heap q xs ((Sl Å).map (·.2)) }):wpAny (RY prog w) A (T8.«list.sort» ⟨[.ref q],[]⟩) P E s:=by
 have lt:=RX hq
 obtain⟨e1,h1⟩:∃e1,(s.heap.update q (To λ_=>#[])).get? q=YH (T7 "list" #[] e1):={_,get?_update_seq hq (λ_=>#[])}
 have h6:(((s.heap.update q (To λ_=>#[])).push (T7 "tuple" xs.toArray 0)).push (T7 "list" #[] 0)).get? q=YH (T7 "list" #[] e1):=(UB _ _ _ (by rw[size_push',UN];exact Pw (Qh lt))).trans ((UB _ _ _ (by rw[UN];exact Pw lt)).trans h1)
 have hK:=hO (((s.heap.update q (To λ_=>#[])).push (T7 "tuple" xs.toArray 0)).push (T7 "list" #[] 0)) λb o hb hg=>by
  have lb:=RX hg
  exact(UB _ _ _ (by rw[size_push',UN];exact Pw (Qh lb))).trans ((UB _ _ _ (by rw[UN];exact Pw lb)).trans ((SI _ _ (Pr hb)).trans hg))
 clear hO
 rw[list_sort_plain]
 refine E9 (listItems_at hq rfl (E9 (WH hq rfl (E9 (XO h1 rfl (E9 (wpAny_newTuple (E9 (WG (wpAny_holding ?_))))))))))
 show wpAny (RY prog w) A _ P E { s with heap:=((s.heap.update q (To λ_=>#[])).push (T7 "tuple" xs.toArray 0)).push (T7 "list" #[] 0) }
 dsimp only
 by_cases c:xs.toArray.size<2
 ·rw[if_pos c,if_pos c]
  refine E9 (RK ?_)
  rw[StateT.run_pure]
  refine E9 (RK (E9 (XO h6 rfl (E9 (WH h6 rfl ?_ (hsz2:=by rw[Yq];show(XZ xs).size<=_;rw[pairsOf_size];exact QT hs))))))
  simp only[bne_self_eq_false,P7,if_false]
  exact RK (fin (W6 general' (xs.toArray.zip xs.toArray) #[] 7 YI) (Ur _))
 ·rw[if_neg c,if_neg c]
  cases xs with
  |nil=>exact absurd ∅ c
  |cons x r=>
  cases r with
  |nil=>exact absurd (by simp) c
  |cons y r=>
   refine E9 (hK.2 _ _ _ _ rfl (E9 (Tw (Jj (κ:=κ) hK.1 (st:=W6 á ((x::y::r).toArray.zip (x::y::r).toArray) #[] 7 YI) (Q:=λ_ Å=>(Sl Å).Perm (XZ (x::y::r))/\Uo Å=YI) rfl rfl rfl k0 λÅ a1 a2=>⟨a1,a2⟩) ?_ λ_ _ e=>e)))
   rintro⟨⟨⟩,Å⟩ s' ⟨rfl,hp,hf⟩
   dsimp only
   refine E9 (XO h6 rfl (E9 (WH h6 rfl ?_ (hsz2:=Pf (QU ((Yq ..).trans (hp.size_eq.trans (pairsOf_size _)))) (QT hs)))))
   rw[hf]
   simp only[bne_self_eq_false,P7,if_false]
   exact RK (fin Å hp)
end
end L2
namespace L2
open PySem PySem.Spec PyProof.Rows
set_option maxRecDepth 100000
theorem wk:∀{ss:List Str}{us:List RI},YK (ss.map V.str) us->Wq us ss
 | [],_,h=>by cases h;exact .nil
 |n::ss,_,h=>by
  cases h with
  |cons h r=>
   obtain⟨t,rfl⟩:=h;exact .cons _ _ (wk r)
theorem Dn:∀{us:List RI}{ss:List Str},Wq us ss->YK (ss.map V.str) us:=by
 intro us ss h;induction h with
 |nil=>exact .nil
 |cons _ t _ ih=>exact .cons ⟨t,rfl⟩ ih
theorem Il{vs:List RI}{ss:List Str}(hS:Wq vs ss){xs:Array Su}(hp:xs.Perm (XZ vs)):∃ç,Wq (xs.map (·.2)).toList ç/\ç.Perm ss:=by
 have hl:xs.toList.Perm (vs.zip vs):=by rw[<-pairsOf_toList];exact QZ.mp hp
 have hm:=hl.map (·.2);rw[List.map_snd_zip (O4 _)]at hm;rw[Array.toList_map];refine{_,strsAre_map _ λv hv=>hS.all _ (hm.mem_iff.mp hv),?_};have:=hm.map strOf;rwa [hS.strs]at this
section
variable{prog:Program}{w:R5}{A:Sq}{s:RN}{κ:KeyKind}
theorem Iv(h:κ.OneLt):Ł prog w A s κ oneType':=λE x y a b Q ha hb q=>h prog w A E s x y a b ha hb q
theorem GA(h:Wq xs ss):KKi prog w A s oneType' xs:=λE x y r Q e q=>by
 rw[keyKind_strs (by rw[<-e];exact h)];exact RK q
end
set_option maxHeartbeats 1000000
section
variable{prog:Program}{w:R5}{A:Sq}{E:RI->RN->Prop}{s:RN}{T:String}{r d:RJ}{n:Nat}{P:Nat->RI->Prop}{OK:So->Prop}
theorem Au(K:W.KdlSrc prog w T r d n P OK)(hh:A.handled=YI)(Æ:OK s.heap)(hn:n<=sizeLine)
  (q:∀h' tk acc,(∀b o,s.heap.get? b=YH o->h'.get? b=YH o)->s.heap.objs.size<=h'.objs.size->ItemsOf P acc n->Q acc.toList { s with heap:=h',toks:=tk }):wpAny (RY prog w) A (YG (.ref r)) Q E s:=by
 have lt:=K.there _ Æ
 unfold YG
 refine E9 (Wa (SN UZ ?_))
 rw[Sv U0 _]
 refine E9 (m:=YF []) (Sk ?_)
 refine RK {T5 TU _,SN Vx ?_}
 rw[Sv TU _]
 show wpAny _ A.in1 (T9 (.ref s.heap.objs.size) (.ref r) (.ref s.heap.objs.size)) _ _ _
 have hS:(s.heap.push { cls:=.type "list",data:=.seq #[] }).get? s.heap.objs.size=YH { cls:=.type "list",data:=.seq #[] }:=RZ _ rfl
 refine W.kdl_extend (R:=λr s'=>match r with
  | .ok (.ret v)=>wpAny (RY prog w) A (match v with| .ref a=>(do let o<-load a;match o.data with| .seq xs _=>pure xs.toList|_=>unsupported "internal:collect")|_=>unsupported "internal:collect") Q E s'
  | .ok _=>False
  | .error e=>E e s') (s:={ s with heap:=s.heap.push { cls:=.type "list",data:=.seq #[] } }) K hh (K.keep _ _ Æ λb _ o e=>RL _ e) _ (Qv lt.1) (Qv lt.2) _ 0 hS (λh' tk acc' c' hk hL ø=>?_) hn
 show wpAny _ A (load s.heap.objs.size>>=_) _ _ { s with heap:=h',toks:=tk }
 refine E9 (VE hL (RK ?_))
 exact q h' tk acc' (λb o e=>hk b o (Pw (RX e)) (RL _ e)) (QJ (RX hL)) ø
theorem D6(K:W.KdlSrc prog w T r d n P OK)(hh:A.handled=YI)(Æ:OK s.heap)(hn:n<=sizeLine)(hP:∀acc,ItemsOf P acc n->Wq acc.toList ss)
  (q:∀h' tk L e out ç,(∀b o,s.heap.get? b=YH o->h'.get? b=YH o)->s.heap.objs.size<=L->h'.get? L=YH (T7 "list" out e)->Wq out.toList ç->ç.Perm ss->Q (.ref L) { s with heap:=h',toks:=tk }) :
  wpAny (RY prog w) A (call (.builtin "sorted") [.ref r]) Q E s:=by
 refine Vf kind_sorted plain_sorted entry_sorted (args_sorted1 _) ?_
 unfold T8.«sorted»
 refine E9 (m:=checkCount "sorted" 1 1 _) (RK ?_)
 refine E9 (Au K (by simp[hh]) Æ hn λh1 tk acc old sz ø=>?_)
 have hI:=hP acc ø
 have hz:acc.toList.length<=sizeLine:=by
  rw[PH,ø.1];exact hn
 generalize acc.toList=vs at hI hz
 refine E9 (WG ?_)
 have hL:(h1.push (T7 "list" vs.toArray 0)).get? h1.objs.size=YH (T7 "list" vs.toArray 0):=RZ _ rfl
 refine E9 (wpAny_holding (SS Yl {_,hL,rfl} XX (EO (λ_ _=>⟨Iv strKind_oneLt,GA hI⟩) hL hI.keysOf hz λÅ p1=>{_,rfl,?_}) (Ym _)))
 obtain⟨ç,a1,a2⟩:=Il hI p1
 have lt:h1.objs.size<(h1.push (T7 "list" vs.toArray 0)).objs.size:=RX hL
 generalize (Sl Å).map (·.2)=out at a1⊢
 obtain⟨e,he⟩:=sortedHeap_at (out:=out) hL
 refine RK {_,rfl,?_}
 refine q (Yn (h1.push (T7 "list" vs.toArray 0)) h1.objs.size vs out) tk h1.objs.size e out ç (λb o hb=>?_) sz he a1 a2
 have hb1:=old b o hb
 have lb:=RX hb1
 exact(Yo (Pw lb) (Ru lb lt)).trans (RL _ hb1)
end
section
variable{X:Cx}
theorem DC(hc:X.calm=true:=by rfl):dU X (.builtin "sorted") (λxs H Q=>∃d kvs,∃ss:List Str,xs=[.ref d]/\Rd H d (.dK kvs)/\kvs.map (·.1)=ss.map Pq/\∀(l) (ç:List Str),ç.Perm ss->H l=YI->Q (.ref l) (upd H l (.lst (ç.map V.str)))):=by
 intro pins s B H xs us Q I r h;obtain⟨d,kvs,ss,rfl,e,ks,q⟩:=h;obtain⟨u,rfl,rfl⟩:=YW r;obtain⟨z,hs,vs,rel,dd⟩:=nY I.Æ e;obtain⟨ep,dat⟩:=dd.dictAt;have hl:=rel.length;have lk:kvs.length=ss.length:=by
  have:=congrArg TF ks;simpa using this
 refine D6 (ss:=ss) (W.kdl_dict (knd:=bN X.prog X.w) (kvs:=vs) (ep:=ep) hs) (I.ok.hd hc) dat () (λacc ø=>?_) λh' tk L e out ç hk sz hL a1 a2=>?_
 ·refine wk (jT ?_ λi x y hx hy=>?_)
  ·have h1:acc.size=vs.length:=ø.1;rw[OZ];show ss.length=acc.toList.length;simp[h1];lia
  obtain⟨k,v,hv,hk⟩:=ø.2 i y (by rw[<-Qc];exact hy);have:=congrArg (λl=>l[i]?) rel.keys;have h2:=congrArg (λl=>l[i]?) ks;simp only[Pk,hv]at this h2 hx;cases Ŧ:ss[i]? with
  |none=>rw[Ŧ]at hx;cases hx
  |some t=>
   rw[Ŧ]at hx h2;cases hx;cases Ķ:kvs[i]? with
   |none=>rw[Ķ]at h2;cases h2
   |some kv=>
    rw[Ķ]at this h2;have e1:kv.1=k:=by simpa using this
    have e2:kv.1=Pq t:=by simpa using h2
    have:=FQ hk;rw[<-e1,e2]at this;exact this
 have hN:H L=YI:=I.Æ.fresh sz;refine{.ref L,_,I.laid (a:=L) (o:=.lst (ç.map V.str)) (t':=tk) hk sz {by rw[OZ,a2.length_eq,<-lk];exact z,out.toList,e,Dn a1,by simpa using hL},rfl,q L ç a2 hN}
end
noncomputable def Mb(ta:TA):TI:=λB H R=>ta B H λvs H1=>∃i j c:Int,vs=[.int i,.int j,.int c]/\UX i j c=true/\-1000<c/\c≠0/\c<1000/\0<=SE i j c/\R (EU i c (ni i j c)) H1
theorem ints3(r:YK [.int i,.int j,.int k] us):∃t t' t'',us=[.int i t,.int j t',.int k t'']:=by
 cases r with
 |cons r rr=>cases rr with
  |cons r' rr=>cases rr with
   |cons r'' rr=>cases rr;obtain⟨t,rfl⟩:=r;obtain⟨t',rfl⟩:=r';obtain⟨t'',rfl⟩:=r'';exact{_,_,_,rfl}
section
variable{X:Cx}{tg:Expr}
theorem Az(hg:Gl X "range")(hm:X.mg "range"=YI)(ha:PA X [a,b,c] ta)(hs:RV [a,b,c] X.env=[(false,SD a X.env),(false,SD b X.env),(false,SD c X.env)]:=by rfl)(ť:RV [b,c] X.env=[(false,SD b X.env),(false,SD c X.env)]:=by rfl) :
  PI X tg (.Call (.Name "range" p) [a,b,c] [] pos) (Mb ta):=by
 intro pins s B H R I h
 refine Call_ (lP I hg hm boot_range (SU (Ì (ha pos pins s B H _ I h) λus s1 ⟨vs,H1,I1,r1,q1⟩=>?_) (by rw[hs,ť]) (by rw[ť];rfl)))
 obtain⟨i,j,k,e,sm,k2,k0,k1,z0,q⟩:=q1
 subst e
 obtain⟨t,t',t'',rfl⟩:=ints3 r1
 refine call_range_3 () ?_ (Pg (PyProof.noPylong_small ()))
 refine WM (IsRange.new ..) sm ?_
 have I2:Inv X pins B H1 { s1 with heap:=s1.heap.push { cls:=.type "range",data:=.fields #[.int i t,.int j t',.int k t''] },toks:=s1.toks }:=I1.kept λb o z=>RL _ z
 refine{(s1.heap.push { cls:=.type "range",data:=.fields #[.int i t,.int j t',.int k t''] }).objs.size,[(s1.heap.push { cls:=.type "range",data:=.fields #[.int i t,.int j t',.int k t''] }).objs.size],_,_,H1,rfl,I2.kept (t':=s1.toks) λb o z=>RL _ z,yp _ i k (ni i j k),?_,λb hb=>?_,q}
 ·have e1:i+((0:Nat):Int)*k=i:=by simp
  have e2:((ni i j k:Nat):Int)-((0:Nat):Int)=SE i j k:=by unfold ni;lia
  show V5 _ _ (i+((0:Nat):Int)*k) (((ni i j k:Nat):Int)-((0:Nat):Int)) k;rw[e1,e2];exact RZ _ rfl
 have e:b=(s1.heap.push { cls:=.type "range",data:=.fields #[.int i t,.int j t',.int k t''] }).objs.size:=by simpa using hb
 subst e
 exact I2.yc (O4 _) (I2.Æ.fresh (O4 _))
end
theorem Ai(h:j<=i)(h0:-1<=j)(h1:i<1000):UX i j (-1)=true/\0<=SE i j (-1)/\ni i j (-1)=(i-j).toNat:=by
 have e:SE i j (-1)=i-j:=by
  unfold SE;simp;lia
 refine{?_,by rw[e];lia,by unfold ni;rw[e]};have sm:∀x:Int,-1000<=x->x<=1001->U1 x=true:=λx a b=>by
  unfold U1;rw[QB,decide_eq_true_iff,decide_eq_true_iff];lia
 unfold UX;rw[e];simp only[sm i () (),sm j () (),sm (i-j) () (),sm (-1) ∅ ∅,sm (j+(-1+1)) () (),RD,Bool.and_true];simp
noncomputable abbrev gK(us ws:List RI):List RI:=us++ws.take 1
noncomputable abbrev gKV(vs zs:List V):List V:=vs++zs.take 1
def rA(P:Program)(w:R5)(K:RS)(mg:Str->Option RI)(base:So)(k:Nat)(x:Str)(ps:List Str)(dvs:List V)(sp:Sp):Prop:=
 ∃f fd ds,j2 P w K mg base ŗ k f fd ps sp/\YO K fd ps []/\YO K fd ps ds/\YK dvs ds/\Tq K (.ref f)=true/\mg x=YH (.ref f)/\(∃oc od ú,K.lookup f=YH ⟨oc,od,.func fd,ú⟩)/\xu K fd ps [ps.getLastD R7] gK gKV
section
variable{P:Program}{w:R5}{K:RS}{mg:Str->Option RI}{base:So}{k:Nat}{x:Str}{ps:List Str}{dvs:List V}{sp:Sp}
theorem rA.d(D:rA P w K mg base k x ps dvs sp):x8 P w K mg base k x ps dvs sp:=by
 obtain⟨f,fd,ds,F,b,b2,v,kp,m,l,_⟩:=D;exact⟨f,fd,ds,F,b,b2,v,kp,m,l⟩
theorem rA.has(D:rA P w K mg base k x ps dvs sp):Has P w K mg base k x ps sp:=D.d.has
structure oM(K:RS)(mg:Str->Option RI)(x:Str)(st:Si)(ps:List Str)(dvs:List V):Prop where
 ex:∃(f:RJ)(oc:RI)(od:Option RJ)(dV kV doc pm:RI)(an:Option RJ)(Ã ct:RI)(ú:Array (Option RI))(ds:List RI),K.lookup f=YH {oc,od,.func (Te x x (bG st) (bp st) (aq st) dV kV doc pm an Ã ct),ú}/\UP K Ã x=true/\Tq K (.ref f)=true/\mg x=YH (.ref f)/\YK dvs ds/\
  YO K (Te x x (bG st) (bp st) (aq st) dV kV doc pm an Ã ct) ps []/\YO K (Te x x (bG st) (bp st) (aq st) dV kV doc pm an Ã ct) ps ds/\xu K (Te x x (bG st) (bp st) (aq st) dV kV doc pm an Ã ct) ps [ps.getLastD R7] gK gKV
abbrev oM.Hz{st:Si}(_:oM K mg x st ps dvs)(P:Program)(w:R5)(base:So)(k:Nat)(sp:Sp):Prop:=rA P w K mg base k x ps dvs sp
theorem oM.hs{st N}(F:oM K mg x st ps dvs)(S:aE N ps (aq st))
  (í:∀f Ã A outer s H vs Q E,dO k (A.deeper (Ui x (aq st) s.heap.objs.size f Ã))->(A.deeper (Ui x (aq st) s.heap.objs.size f Ã)).units+64<TX->sp vs H Q E->
   ∃t,Ĳ (uX ŗ P w K mg base N x (aq st) f Ã A outer s H E).nox (bp st) t/\t { nx:=λ_ H'=>Q .Ë H',rt:=Q } (YT N vs) H) (len:∀vs H Q E,sp vs H Q E->vs.length=ps.length:=by intro _ _ _ _ h;cases h;subst_vars;rfl):rA P w K mg base (k+1) x ps dvs sp:=by
 obtain⟨f,oc,od,dV,kV,doc,pm,an,Ã,ct,ú,ds,lk,ņ,kp,m,hv,b1,b2,b3⟩:=F.ex
 refine{f,_,ds,GO lk ņ S len λA outer s H vs Q E hr Ű=>?_,b1,b2,hv,kp,m,⟨oc,od,ú,lk⟩,b3}
 obtain⟨t,h,q⟩:=í f Ã A outer s H vs Q E hr hr.units Ű
 exact⟨t,h.nox,q⟩
end
theorem DX(D:rA X.prog X.w X.K X.mg X.base j x ps dvs sp)(hr:dO k X.A)(ha:PA X (e::es) t)(hv:PE X v tv)(hj:j<=k:=by decide)(hn:ps.getLastD R7=nm:=by rfl)(hg:Gl X x:=by rfl)
  (Ď:(x==("__debug__":Str))=false:=by decide) (he:RV (e::es) X.env=(false,SD e X.env)::RV es X.env:=by rfl) (ò:((SJ pos (RV (e::es) X.env)).any (·.1)||(TM pos (SR [⟨YH nm,v,kpos⟩] X.env)).any (·.1.isNone))=false:=by rfl) :
  PE X (.Call (.Name x p) (e::es) [⟨YH nm,v,kpos⟩] pos) (Er sp gKV E0 t (zh tv DZ)):=by
 obtain⟨f,fd,ds,F,_,_,_,kp,m,_,b⟩:=D
 subst hn
 exact FJ F (hr.mono hj) hg m kp b wx ha (IZ hv KY) rfl rfl Ď he ò
end L2
set_option maxHeartbeats 4000000
namespace K34
open PySem L2
local macro_rules|`($a^ab)=>`(aa $a ab)
local macro_rules|`($a^$b^$c)=>`(aa $a ($b^$c))
theorem Ñ{N P:List Str}{sc:U5}(k:sc.kind=.function:=by rfl)(c:sc.isCoroutine=false:=by rfl)(g:sc.isGenerator=false:=by rfl)(n:N.Nodup:=by decide+kernel)(p:N.take P.length=P:=by rfl)(q:∀x∈P,sc.names.lookup x=YH .local\/sc.names.lookup x=YH .cell:=by decide+kernel)(f:∀y∈sc.names,y.2≠ .free:=by decide+kernel):aE N P sc:=⟨k,c,g,n,p,q,f⟩
theorem px{X:Cx}{a b:Expr}{ta tb:TE}{pos:Pos}(hu:X.A.units+64<TX)(ha:PE X a ta)(hb:PE X b tb)(hs:CZ b:=by exact λ_ _=>rfl):PE X (.Subscript a b pos) (tOp (NC X.K) ta tb):=M6 (Kc hu) ha hb hs
theorem Ð{X:Cx}{pos:Pos}{i:Nat}{x:Str}(hN:X.N.Nodup)(hi:X.N[i]?=YH x)(hx:Loc X.env.scope x:=by first|exact Pg rfl|exact Qs rfl)(hf:X.fn x=true\/X.env.scope.names.lookup x=YH .local:=by first|exact .inl rfl|exact .inr rfl|assumption):PG X (.Name x pos) (pO i):=BG hN hi hx hf
theorem Ç{X:Cx}(i:Nat){x:Str}{e:Expr}{te:TE}{pos pos':Pos}(hN:X.N.Nodup)(he:PE X e te)(hi:X.N[i]?=YH x:=by rfl)(hx:Loc X.env.scope x:=by first|exact Pg rfl|exact Qs rfl)(hs:Wl e (YH (.Name x pos')) pos.line X.env=pure false:=by rfl)(hf:X.fn x=true\/X.env.scope.names.lookup x=YH .local:=by first|exact .inl rfl|exact .inr rfl|assumption):PS X (.Assign [.Name x pos'] e pos) (IW te (pO i)):=Lp hN hi hx he hs hf
theorem Þ{X:Cx}{id:String}{r:List V->Hp->VK->Prop}{x:Str}{e:Expr}{es:List Expr}{t:TA}{p pos:Pos}(hc:dU X (.builtin id) r)(hm:X.mg x=YI)(ha:PA X (e::es) t)(hg:Gl X x:=by rfl)(hv:TB x=YH (.builtin id):=by boot_by_name)(hn:x≠"__name__":=by decide)(Ď:(x==("__debug__":Str))=false:=by decide)(he:RV (e::es) X.env=(false,SD e X.env)::RV es X.env:=by rfl)(ò:(SJ pos (RV es X.env)).any (·.1)=false:=by rfl):PE X (.Call (.Name x p) (e::es) [] pos) (tCB r t):=E5 hc hg hm hv ha hn Ď he ò
theorem ĥ{X:Cx}{T:String}{r:List V->Hp->VK->Prop}{x:Str}{e:Expr}{es:List Expr}{t:TA}{p pos:Pos}(hc:dU X (.type T) r)(hm:X.mg x=YI)(ha:PA X (e::es) t)(hg:Gl X x:=by rfl)(hv:TB x=YH (.type T):=by boot_by_name)(hn:x≠"__name__":=by decide)(Ď:(x==("__debug__":Str))=false:=by decide)(he:RV (e::es) X.env=(false,SD e X.env)::RV es X.env:=by rfl)(ò:(SJ pos (RV es X.env)).any (·.1)=false:=by rfl):PE X (.Call (.Name x p) (e::es) [] pos) (tCB r t):=Du hc hg hm hv ha hn Ď he ò
theorem Í{X:Cx}{a b:Expr}{ta tb:TE}{pos:Pos}{op:CmpOp}{r:R2}(ho:Ó X (Sf op) r)(ha:PE X a ta)(hb:PE X b tb)(hm:Um op b=false:=by exact GL _):PT X (.Compare a [op] [b] pos) (Jr (tOp r ta tb)):=IE ho ha hb hm
theorem pec{X:Cx}{a b:Expr}{ta tb:TE}{pos:Pos}{op:CmpOp}{r:R2}(ho:Ó X (Sf op) r)(ha:PE X a ta)(hb:PE X b tb)(hm:Um op b=false:=by exact GL _):PE X (.Compare a [op] [b] pos) (tOp r ta tb):=G6 ho ha hb hm
noncomputable abbrev Ar:Si:=top 2
theorem Iz:aE ["rank"] ["rank"] (aq Ar):=Ñ
noncomputable abbrev uH:Si:=top 3
theorem Di:aE ["one","other"] ["one","other"] (aq uH):=Ñ
noncomputable abbrev ox:Si:=top 5
theorem nE:aE ["value","names","thing"] ["value"] (aq ox):=Ñ
noncomputable abbrev mC:Si:=top 7
theorem kH:aE ["names","found","name"] ["names"] (aq mC):=Ñ
noncomputable abbrev oU:Si:=top 24
theorem da:aE ["rows","known","steps","row","more"] ["rows","known"] (aq oU):=Ñ
noncomputable abbrev iH:Si:=top 25
theorem ra:aE ["row","known"] ["row","known"] (aq iH):=Ñ
noncomputable abbrev oH:Si:=top 26
theorem yt:aE ["steps"] ["steps"] (aq oH):=Ñ
noncomputable abbrev jM:Si:=top 27
theorem iI:aE ["row","known","one","other"] ["row","known"] (aq jM):=Ñ
noncomputable abbrev gv:Si:=top 28
theorem j6:aE ["row","known","steps"] ["row","known"] (aq gv):=Ñ
noncomputable abbrev oV:Si:=top 29
theorem y4:aE ["row","known"] ["row","known"] (aq oV):=Ñ
noncomputable abbrev tJ:Si:=top 30
theorem qu:aE ["program","known","deed"] ["program"] (aq tJ):=Ñ
noncomputable abbrev nu:Si:=top 33
theorem ya:aE ["number"] ["number"] (aq nu):=Ñ
noncomputable abbrev nB:Si:=top 34
theorem gT:aE ["rows","place","loop","found","row"] ["rows","place","loop"] (aq nB):=Ñ
noncomputable abbrev jk:Si:=top 35
theorem lT:aE ["row","loop","here"] ["row","loop"] (aq jk):=Ñ
noncomputable abbrev iK:Si:=top 36
theorem gx:aE ["program","found","deed"] ["program"] (aq iK):=Ñ
noncomputable abbrev oE:Si:=top 37
theorem zj:aE ["row"] ["row"] (aq oE):=Ñ
noncomputable abbrev jr:Si:=top 38
theorem gZ:aE ["heads","found","head"] ["heads"] (aq jr):=Ñ
noncomputable abbrev uT:Si:=top 39
theorem gW:aE ["program","found","deed","row","place","loop"] ["program"] (aq uT):=Ñ
noncomputable abbrev xF:Si:=top 41
theorem Gs:aE ["froms","into","kind","number"] ["froms","into","kind","number"] (aq xF):=Ñ
noncomputable abbrev lM:Si:=top 42
theorem pM:aE ["row","place","loop","parts_of","here"] ["row","place","loop","parts_of"] (aq lM):=Ñ
noncomputable abbrev kE:Si:=top 43
theorem nU:aE ["row","place","found"] ["row","place"] (aq kE):=Ñ
noncomputable abbrev iS:Si:=top 44
theorem dq:aE ["row","place","parts","found","thing","part","into"] ["row","place","parts"] (aq iS):=Ñ
noncomputable abbrev kJ:Si:=top 45
theorem oh:aE ["row","known","here"] ["row","known"] (aq kJ):=Ñ
noncomputable abbrev wM:Si:=top 46
theorem hU:aE ["program","steps","parts_of","known","found","row","place","loop"] ["program","steps"] (aq wM):=Ñ
noncomputable abbrev qf:Si:=top 48
theorem AE:aE ["program"] ["program"] (aq qf):=Ñ
noncomputable abbrev kK:Si:=top 49
theorem vi:aE ["program","rank"] ["program","rank"] (aq kK):=Ñ
noncomputable abbrev qL:Si:=top 50
theorem oO:aE ["program","steps","ways","link"] ["program","steps"] (aq qL):=Ñ
noncomputable abbrev oA:Si:=top 51
theorem dJ:aE ["ways","starts","came","waiting","at","here","link"] ["ways","starts"] (aq oA):=Ñ
noncomputable abbrev ql:Si:=top 52
theorem AB:aE ["program","name","steps"] ["program","name","steps"] (aq ql):=Ñ
noncomputable abbrev wL:Si:=top 53
theorem mW:aE ["program","steps","ways","bits","rank","place"] ["program","steps"] (aq wL):=Ñ
noncomputable abbrev jS:Si:=top 55
theorem iY:aE ["_law_script","_law_k","_law_cell"] ["_law_script","_law_k"] (aq jS):=Ñ
noncomputable abbrev oN:Si:=top 56
theorem yq:aE ["_law_script","_law_at","_law_many"] ["_law_script","_law_at","_law_many"] (aq oN):=Ñ
noncomputable abbrev qQ:Si:=top 57
theorem iN:aE ["_law_cell","_law_k","_law_digits","_law_ahead","_law_number"] ["_law_cell","_law_k"] (aq qQ):=Ñ
noncomputable abbrev mZ:Si:=top 58
theorem bO:aE ["_law_cell","_law_other","_law_many","_law_words","_law_letters","_law_step","_law_found","_law_k","_law_number","_law_word"] ["_law_cell","_law_other","_law_many"] (aq mZ):=Ñ
noncomputable abbrev oF:Si:=top 59
theorem yU:aE ["_law_some","_law_number"] ["_law_some","_law_number"] (aq oF):=Ñ
noncomputable abbrev nj:Si:=top 60
theorem df:aE ["_law_names_here","_law_cell","_law_ranks","_law_rows","_law_turn"] ["_law_names_here","_law_cell"] (aq nj):=Ñ
noncomputable abbrev lV:Si:=top 61
theorem kO:aE ["_law_names_here","_law_parts","_law_targets","_law_found"] ["_law_names_here","_law_parts"] (aq lV):=Ñ
noncomputable abbrev lK:Si:=top 62
theorem xU:aE ["_law_number","_law_scope_here"] ["_law_number","_law_scope_here"] (aq lK):=Ñ
noncomputable abbrev lR:Si:=top 63
theorem gS:aE ["_law_cell","_law_scope_here","_law_one","_law_other","_law_number"] ["_law_cell","_law_scope_here"] (aq lR):=Ñ
noncomputable abbrev mM:Si:=top 64
theorem fo:aE ["_law_state","_law_cell","_law_scope_here","_law_way","_law_value_here","_law_number","_law_target"] ["_law_state","_law_cell","_law_scope_here"] (aq mM):=Ñ
noncomputable abbrev kS:Si:=top 65
theorem dz:aE ["_law_state","_law_cell","_law_scope_here","_law_loop","_law_number","_law_left","_law_right","_law_many"] ["_law_state","_law_cell","_law_scope_here","_law_loop"] (aq kS):=Ñ
noncomputable abbrev kq:Si:=top 66
theorem uU:aE ["_law_state"] ["_law_state"] (aq kq):=Ñ
noncomputable abbrev qa:Si:=top 67
theorem hZ:aE ["_law_state","_law_cell","_law_scope_here","_law_way","_law_name","_law_many","_law_cost"] ["_law_state","_law_cell","_law_scope_here"] (aq qa):=Ñ
noncomputable abbrev ow:Si:=top 68
theorem nC:aE ["_law_state","_law_cells","_law_scope_here","_law_room","_law_found","_law_cell"] ["_law_state","_law_cells","_law_scope_here","_law_room"] (aq ow):=Ñ
noncomputable abbrev oB:Si:=top 69
theorem bI:aE ["_law_script","_law_names_here","_law_cell","_law_state","_law_rows","_law_at","_law_k","_law_start","_law_name","_law_parts","_law_many","_law_cells"] ["_law_script","_law_names_here"] (aq oB):=Ñ
noncomputable abbrev iL:Si:=top 70
theorem rN:aE ["_law_row_here","_law_number"] ["_law_row_here","_law_number"] (aq iL):=Ñ
noncomputable abbrev gA:Si:=top 71
theorem aZ:aE ["_law_flat_here","_law_at","_law_found","_law_row_here","_law_number","_law_first","_law_other","_law_body_here"] ["_law_flat_here","_law_at"] (aq gA):=Ñ
noncomputable abbrev jB:Si:=top 72
theorem bx:aE ["_law_flat_here","_law_heads_here","_law_deeds","_law_at","_law_number","_law_body_here","_law_end","_law_main"] ["_law_flat_here"] (aq jB):=Ñ
noncomputable abbrev mn:Si:=top 73
theorem aW:aE ["_law_flat_here","_law_at","_law_known","_law_total","_law_row_here","_law_more_here","_law_one","_law_other"] ["_law_flat_here","_law_at","_law_known"] (aq mn):=Ñ
noncomputable abbrev iq:Si:=top 74
theorem bH:aE ["_law_flat_here","_law_at","_law_known","_law_row_here","_law_one","_law_end","_law_other","_law_high"] ["_law_flat_here","_law_at","_law_known"] (aq iq):=Ñ
noncomputable abbrev gi:Si:=top 75
theorem bL:aE ["_law_flat_here","_law_cell","_law_known","_law_begins","_law_k","_law_at","_law_total","_law_end"] ["_law_flat_here","_law_cell"] (aq gi):=Ñ
noncomputable abbrev qk:Si:=top 76
theorem iU:aE ["_law_program_here","_law_flat_here","_law_by","_law_due_here","_law_place","_law_row_here"] ["_law_program_here","_law_flat_here","_law_by"] (aq qk):=Ñ
noncomputable abbrev mB:Si:=top 77
theorem kC:aE ["_law_found","_law_due_here","_law_place","_law_bits"] ["_law_found","_law_due_here"] (aq mB):=Ñ
noncomputable abbrev oq:Si:=top 78
theorem jg:aE ["_law_cell","_law_program_here","_law_due_here","_law_steps_told"] ["_law_cell"] (aq oq):=Ñ
noncomputable abbrev tZ:Si:=top 79
theorem jo:aE ["_law_script","_law_names_here","_law_flat_here","_law_known","_law_program_here","_law_by","_law_due_here","_law_found","_law_link","_law_k"] ["_law_script"] (aq tZ):=Ñ
noncomputable abbrev fH:Si:=YL (top 8) 0
theorem zy:aE ["self","number"] ["self","number"] (aq fH):=Ñ
noncomputable abbrev hJ:Si:=YL (top 9) 0
theorem q4:aE ["self","number","name","rank"] ["self","number","name","rank"] (aq hJ):=Ñ
noncomputable abbrev gC:Si:=YL (top 10) 0
theorem qb:aE ["self","number","name","rank","size"] ["self","number","name","rank","size"] (aq gC):=Ñ
noncomputable abbrev jR:Si:=YL (top 11) 0
theorem sD:aE ["self","number","name","size"] ["self","number","name","size"] (aq jR):=Ñ
noncomputable abbrev jq:Si:=YL (top 12) 0
theorem tq:aE ["self","number","name","rank"] ["self","number","name","rank"] (aq jq):=Ñ
noncomputable abbrev jU:Si:=YL (top 13) 0
theorem tS:aE ["self","number","name","value"] ["self","number","name","value"] (aq jU):=Ñ
noncomputable abbrev i4:Si:=YL (top 13) 2
theorem rL:aE ["self"] ["self"] (aq i4):=Ñ
noncomputable abbrev jx:Si:=YL (top 14) 0
theorem ua:aE ["self","number","name","place","value"] ["self","number","name","place","value"] (aq jx):=Ñ
noncomputable abbrev iC:Si:=YL (top 14) 2
theorem rh:aE ["self"] ["self"] (aq iC):=Ñ
noncomputable abbrev ib:Si:=YL (top 15) 0
theorem q5:aE ["self","number","name","value"] ["self","number","name","value"] (aq ib):=Ñ
noncomputable abbrev gu:Si:=YL (top 15) 2
theorem qw:aE ["self"] ["self"] (aq gu):=Ñ
noncomputable abbrev jy:Si:=YL (top 16) 0
theorem sM:aE ["self","number","name","value","mark"] ["self","number","name","value","mark"] (aq jy):=Ñ
noncomputable abbrev iR:Si:=YL (top 17) 0
theorem rg:aE ["self","number","name","things"] ["self","number","name","things"] (aq iR):=Ñ
noncomputable abbrev kG:Si:=YL (top 19) 0
theorem uW:aE ["self","number","value","first","other","left","right"] ["self","number","value","first","other","left","right"] (aq kG):=Ñ
noncomputable abbrev jI:Si:=YL (top 19) 2
theorem sW:aE ["self"] ["self"] (aq jI):=Ñ
noncomputable abbrev iT:Si:=YL (top 20) 0
theorem rO:aE ["self","number","thing","most","body","left","right"] ["self","number","thing","most","body","left","right"] (aq iT):=Ñ
noncomputable abbrev gE:Si:=YL (top 20) 2
theorem qP:aE ["self"] ["self"] (aq gE):=Ñ
noncomputable abbrev iP:Si:=YL (top 21) 0
theorem rE:aE ["self","number","name","parts","body"] ["self","number","name","parts","body"] (aq iP):=Ñ
noncomputable abbrev hE:Si:=YL (top 22) 0
theorem rQ:aE ["self","heads","deeds","main"] ["self","heads","deeds","main"] (aq hE):=Ñ
structure Ö where
 Row:RJ
 cE:RJ
 bJ:RJ
 dE:RJ
 dD:RJ
 cS:RJ
 cG:RJ
 b7:RJ
 cY:RJ
 cD:RJ
 dG:RJ
 cX:RJ
 bz:RJ
 bU:RJ
 Program:RJ
structure Txt(K:RS)(mg:Str->Option RI)(A:Ö):Prop where
 only:a9 K mg "only" Ar ["rank"]
 joined:a9 K mg "joined" uH ["one","other"]
 tE:a9 K mg "names_in" ox ["value"]
 qO:a9 K mg "each_once" mC ["names"]
 dY:a9 K mg "exact_of" oU ["rows","known"]
 fb:a9 K mg "exact_of_row" iH ["row","known"]
 tX:a9 K mg "one_more" oH ["steps"]
 ja:a9 K mg "exact_of_if" jM ["row","known"]
 fT:a9 K mg "exact_of_loop" gv ["row","known"]
 balanced:a9 K mg "balanced" oV ["row","known"]
 AL:a9 K mg "exacts" tJ ["program"]
 qt:a9 K mg "row_place" nu ["number"]
 gU:a9 K mg "laid_rows" nB ["rows","place","loop"]
 jc:a9 K mg "laid_inside" jk ["row","loop"]
 ku:a9 K mg "laid_program" iK ["program"]
 sV:a9 K mg "is_place" oE ["row"]
 mH:a9 K mg "head_places" jr ["heads"]
 places:a9 K mg "places" uT ["program"]
 drawn:a9 K mg "drawn" xF ["froms","into","kind","number"]
 qC:a9 K mg "row_links" lM ["row","place","loop","parts_of"]
 oT:a9 K mg "said_links" kE ["row","place"]
 kT:a9 K mg "called_links" iS ["row","place","parts"]
 oQ:a9 K mg "step_links" kJ ["row","known"]
 links:qA K mg "links" wM ["program","steps"] [.bl false]
 sources:a9 K mg "sources" qf ["program"]
 oG:a9 K mg "sources_of" kK ["program","rank"]
 wV:a9 K mg "ways_of" qL ["program","steps"]
 uK:a9 K mg "arrivals" oA ["ways","starts"]
 x6:oM K mg "reached" ql ["program","name","steps"] [.bl false]
 table:oM K mg "table" wL ["program","steps"] [.bl false]
 lI:a9 K mg "_law_cell_at" jS ["_law_script","_law_k"]
 uu:a9 K mg "_law_more" oN ["_law_script","_law_at","_law_many"]
 xS:a9 K mg "_law_mix" qQ ["_law_cell","_law_k"]
 qv:a9 K mg "_law_names" mZ ["_law_cell","_law_other","_law_many"]
 sZ:a9 K mg "_law_pick" oF ["_law_some","_law_number"]
 qE:a9 K mg "_law_heads" nj ["_law_names_here","_law_cell"]
 qN:a9 K mg "_law_scope" lV ["_law_names_here","_law_parts"]
 qy:a9 K mg "_law_thing" lK ["_law_number","_law_scope_here"]
 p7:a9 K mg "_law_value" lR ["_law_cell","_law_scope_here"]
 qK:a9 K mg "_law_plain" mM ["_law_state","_law_cell","_law_scope_here"]
 oX:a9 K mg "_law_opened" kS ["_law_state","_law_cell","_law_scope_here","_law_loop"]
 oP:a9 K mg "_law_closed" kq ["_law_state"]
 wW:a9 K mg "_law_row" qa ["_law_state","_law_cell","_law_scope_here"]
 uc:a9 K mg "_law_body" ow ["_law_state","_law_cells","_law_scope_here","_law_room"]
 tu:a9 K mg "_law_flat" oB ["_law_script","_law_names_here"]
 kI:a9 K mg "_law_row_made" iL ["_law_row_here","_law_number"]
 dB:a9 K mg "_law_rows_made" gA ["_law_flat_here","_law_at"]
 mJ:a9 K mg "_law_program" jB ["_law_flat_here"]
 gY:a9 K mg "_law_exact" mn ["_law_flat_here","_law_at","_law_known"]
 kF:a9 K mg "_law_even_row" iq ["_law_flat_here","_law_at","_law_known"]
 jJ:a9 K mg "_law_evened_by" gi ["_law_flat_here","_law_cell"]
 wX:a9 K mg "_law_due" qk ["_law_program_here","_law_flat_here","_law_by"]
 qF:a9 K mg "_law_table" mB ["_law_found","_law_due_here"]
 tK:a9 K mg "_law_bare" oq ["_law_cell"]
 xk:mg "bool"=YI
 mT:mg "dict"=YI
 qW:mg "int"=YI
 aG:mg "isinstance"=YI
 iw:mg "len"=YI
 dW:mg "list"=YI
 Bz:mg "max"=YI
 dF:mg "range"=YI
 BF:mg "set"=YI
 mQ:mg "sorted"=YI
 zD:mg "str"=YI
 BC:mg "zip"=YI
 rY:∃t,mg "CLOCK"=YH (.str "the clock" t)
 jZ:fB K mg A.Row "Row" [A.Row]
 sN:ć K A.Row "__init__" "Row.__init__" fH ["self","number"]
 jY:fB K mg A.cE "HandRow" [A.cE,A.Row]
 iJ:ć K A.cE "__init__" "HandRow.__init__" hJ ["self","number","name","rank"]
 l8:aO K A.cE "name"
 lX:aO K A.cE "rank"
 fI:aO K A.cE "number"
 cP:fB K mg A.bJ "GivenRow" [A.bJ,A.Row]
 gr:ć K A.bJ "__init__" "GivenRow.__init__" gC ["self","number","name","rank","size"]
 eG:aO K A.bJ "name"
 gG:aO K A.bJ "rank"
 kY:aO K A.bJ "size"
 fA:aO K A.bJ "number"
 iF:fB K mg A.dE "OwnRow" [A.dE,A.Row]
 jW:ć K A.dE "__init__" "OwnRow.__init__" jR ["self","number","name","size"]
 jG:aO K A.dE "name"
 nZ:aO K A.dE "size"
 gp:aO K A.dE "number"
 eg:fB K mg A.dD "LetRow" [A.dD,A.Row]
 jP:ć K A.dD "__init__" "LetRow.__init__" jq ["self","number","name","rank"]
 fZ:aO K A.dD "name"
 jL:aO K A.dD "rank"
 gk:aO K A.dD "number"
 ft:fB K mg A.cS "SetRow" [A.cS,A.Row]
 jX:ć K A.cS "__init__" "SetRow.__init__" jU ["self","number","name","value"]
 iV:ć K A.cS "reads" "SetRow.reads" i4 ["self"]
 jC:aO K A.cS "name"
 hX:aO K A.cS "value"
 gq:aO K A.cS "number"
 dZ:fB K mg A.cG "PutRow" [A.cG,A.Row]
 jO:ć K A.cG "__init__" "PutRow.__init__" jx ["self","number","name","place","value"]
 ik:ć K A.cG "reads" "PutRow.reads" iC ["self"]
 jK:aO K A.cG "name"
 iW:aO K A.cG "place"
 iM:aO K A.cG "value"
 gj:aO K A.cG "number"
 dw:fB K mg A.b7 "SendRow" [A.b7,A.Row]
 i6:ć K A.b7 "__init__" "SendRow.__init__" ib ["self","number","name","value"]
 gw:ć K A.b7 "reads" "SendRow.reads" gu ["self"]
 mw:aO K A.b7 "name"
 gy:aO K A.b7 "value"
 fJ:aO K A.b7 "number"
 cy:fB K mg A.cY "SayRow" [A.cY,A.Row]
 jz:ć K A.cY "__init__" "SayRow.__init__" jy ["self","number","name","value","mark"]
 fU:aO K A.cY "name"
 mO:aO K A.cY "value"
 jv:aO K A.cY "mark"
 b9:aO K A.cY "number"
 cH:fB K mg A.cD "CallRow" [A.cD,A.Row]
 iu:ć K A.cD "__init__" "CallRow.__init__" iR ["self","number","name","things"]
 dM:aO K A.cD "name"
 fF:aO K A.cD "things"
 cU:aO K A.cD "number"
 fL:fB K mg A.dG "LastRow" [A.dG,A.Row]
 iE:ć K A.dG "__init__" "Row.__init__" fH ["self","number"]
 fK:aO K A.dG "number"
 cb:fB K mg A.cX "IfRow" [A.cX,A.Row]
 kL:ć K A.cX "__init__" "IfRow.__init__" kG ["self","number","value","first","other","left","right"]
 jV:ć K A.cX "reads" "IfRow.reads" jI ["self"]
 jD:aO K A.cX "value"
 fW:aO K A.cX "first"
 fV:aO K A.cX "other"
 gO:aO K A.cX "left"
 jE:aO K A.cX "right"
 iB:aO K A.cX "number"
 bA:fB K mg A.bz "LoopRow" [A.bz,A.Row]
 ip:ć K A.bz "__init__" "LoopRow.__init__" iT ["self","number","thing","most","body","left","right"]
 gH:ć K A.bz "reads" "LoopRow.reads" gE ["self"]
 gm:aO K A.bz "thing"
 hV:aO K A.bz "most"
 fz:aO K A.bz "body"
 iQ:aO K A.bz "left"
 eJ:aO K A.bz "right"
 fO:aO K A.bz "number"
 cu:fB K mg A.bU "DeedRow" [A.bU,A.Row]
 ic:ć K A.bU "__init__" "DeedRow.__init__" iP ["self","number","name","parts","body"]
 cV:aO K A.bU "name"
 eE:aO K A.bU "parts"
 fC:aO K A.bU "body"
 fE:aO K A.bU "number"
 cW:fB K mg A.Program "Program" [A.Program]
 iO:ć K A.Program "__init__" "Program.__init__" hE ["self","heads","deeds","main"]
 eI:aO K A.Program "heads"
 cJ:aO K A.Program "deeds"
 iZ:aO K A.Program "main"
 bM:OfC K A.Row "__init__"
 nd:[A.Row,A.cE,A.bJ,A.dE,A.dD,A.cS,A.cG,A.b7,A.cY,A.cD,A.dG,A.cX,A.bz,A.bU,A.Program].Nodup
section
variable{P:Program}{w:R5}{K:RS}{mg:Str->Option RI}{base:So}{A:Ö}
theorem É(h:H p=YI) (o):aj H (upd H p o)/\upd H p o p=YH o:=⟨aj.upd h o,ao⟩
theorem L6:T3 K (.type "int") (.type "int")=YH true:=by kernel_rfl!
theorem Lu:T3 K (.type "int") (.type "bool")=YH false:=by kernel_rfl!
theorem LW:T3 K (.type "dict") (.type "dict")=YH true:=by kernel_rfl!
theorem sz(h:n<=1000):n<=sizeLine:=QJ (aH h)
theorem bY(x:Int)(hm:0<m):0<=x%m/\x%m<m:={Int.emod_nonneg x (show m≠0 by lia),Int.emod_lt_of_pos x hm}
theorem Je(h0:0<=k)(h1:k<(xs.length:Int)):∃x,xs[k.toNat]?=YH x/\į xs k=YH x:=by
 have hk:k.toNat<xs.length:=()
 have e:=jh (xs:=xs) (j:=k.toNat) (O7 hk);rw[show((k.toNat:Nat):Int)=k by lia]at e;exact{_,O7 hk,e}
theorem IV (i j):decide (V.int i=V.int j)=decide (i=j):=decide_eq_decide.mpr {λh=>V.int.inj h,λh=>by rw[h]}
theorem NX (i j):decide (V.str i=V.str j)=decide (i=j):=decide_eq_decide.mpr {λh=>V.str.inj h,λh=>by rw[h]}
theorem gb{α:Type}(xs:List α):xs.filter (λ_=>true)=xs:=List.filter_eq_self.mpr λ_ _=>rfl
theorem Dh(h0:-(2^64)<a)(h1:a<2^64):Dl a b:=Pg ⟨h0,h1⟩
theorem aj.out(s:aj H0 H)(h:H0 x=YI) (u):aj H0 (upd H x u):=λa o q=>by
 rw[aL (λz=>by rw[z,h]at q;cases q)];exact s a o q
theorem au(n:a≠x)(e:H a=YH o):upd H x u a=YH o:=by rw[aL n];exact e
theorem YJ{H:Hp}(h:H x=YI)(e:H y=YH o):x≠y:=λz=>by rw[z,e]at h;cases h
noncomputable def Ks(H0:Hp)(x:RJ)(H:Hp):List (RJ×HO)->Prop
 | []=>True
 |p::ks=>(H p.1=YH p.2/\p.1≠x/\H0 p.1=YI)/\Ks H0 x H ks
theorem Ks.imp(f:∀a o,a≠x->H a=YH o->H' a=YH o):∀{ks:List (RJ×HO)},Ks H0 x H ks->Ks H0 x H' ks
 | [],_=>trivial
 |_::_,⟨⟨h1,h2,h3⟩,t⟩=>{{f _ _ h2 h1,h2,h3},Ks.imp f t}
structure IA(K:RS)(H0:Hp)(x C dx:RJ)(fs:List (Str×V))(m:Nat)(ks:List (RJ×HO))(H:Hp):Prop where
 s:aj H0 H
 i:H x=YH (.ins C dx fs)
 k:Ks H0 x H ks
 x:H0 x=YI
 c:ō K C
 l:fs.length<=m
theorem IA.one{H x C dx}(hx:H x=YI)(hd:H dx=YI)(c:ō K C):IA K H x C dx [] 0 [] (upd (upd H dx (.own x)) x (.ins C dx [])):={aj.out (aj.upd hd _) hx _,ao,trivial,hx,c,O4 _}
section
variable{H0 H:Hp}{x C dx:RJ}{fs:List (Str×V)}{m:Nat}{ks:List (RJ×HO)}
theorem Bp (f v):∀fs,(iG f v fs).length<=fs.length+1
 | []=>O4 _
 | (g,x)::r=>by
  unfold iG;split
  ·exact QI _
  exact Rx (Bp f v r)
theorem IA.put(a:IA K H0 x C dx fs m ks H) (f v):IA K H0 x C dx (iG f v fs) (m+1) ks (upd H x (.ins C dx (iG f v fs))):={aj.out a.s a.x _,ao,a.k.imp λ_ _ h e=>au h e,a.x,a.c,Pf (Bp f v fs) (Rx a.l)}
theorem IA.fld(a:IA K H0 x C dx fs m ks H)(n:aO K C f)(k:∀H',IA K H0 x C dx (iG f v fs) (m+1) ks H'->Q H')(l:m<1000:=by decide):L5 K f v (.ref x) H Q:={x,C,dx,fs,rfl,a.i,a.c,n,Rm a.l l,k _ (a.put _ _)}
theorem IA.nw(a:IA K H0 x C dx fs m ks H)(hn:H n=YI) (o):IA K H0 x C dx fs m ((n,o)::ks) (upd H n o):=
 have e:n≠x:=YJ hn (a.i)
 {a.s.trans (aj.upd hn _),au e.symm a.i,{⟨ao,e,aj.free a.s hn⟩,a.k.imp λ_ _ _ h=>aj.upd hn _ _ _ h},a.x,a.c,a.l}
end
inductive f9(K:RS)(A:Ö)(vs:List V)(H:Hp)(Q:VK)(Ä:XK):Prop
 |mk (x C dx fs n):vs=[.ref x,n]->H x=YH (.ins C dx fs)->ō K C->aO K C "number"->fs.length<1000->Q .Ë (upd H x (.ins C dx (iG "number" n fs)))->f9 K A vs H Q Ä
theorem js(F:ć K C "__init__" "Row.__init__" fH ["self","number"]):yM P w K mg base 2 C "__init__" ["self","number"] (f9 K A):=by
 refine F.hs (k:=1) zy (λf Ã A' outer s H vs Q E hr hu h=>?_);obtain⟨x,C,dx,fs,n,rfl,hx,c,na,hl,q⟩:=h;exact{_,(ai (bj (fv 0) (fv 1) rfl)),⟨x,C,dx,fs,rfl,hx,c,na,hl,q⟩}
theorem b8(T:Txt K mg A):yM P w K mg base 2 A.Row "__init__" ["self","number"] (f9 K A):=js T.sN
theorem IA.row{H0 H x C dx ks v Q}(a:IA K H0 x C dx [] 0 ks H)(n:aO K C "number")(k:∀H',IA K H0 x C dx (iG "number" v []) 1 ks H'->Q .Ë H'):f9 K A [.ref x,v] H Q E0:={x,C,dx,[],v,rfl,a.i,a.c,n,∅,k _ (a.put _ _)}
inductive kX(K:RS)(A:Ö)(vs:List V)(G:Hp)(R:VK)(Ä:XK):Prop
 |mk (x dx v0 v1 v2 H):vs=[.ref x,v0,v1,v2]->G=upd (upd H dx (.own x)) x (.ins A.cE dx [])->H x=YI->H dx=YI->(∀(H'),aj H H'->H' x=YH (.ins A.cE dx [("number",v0),("name",v1),("rank",v2)])->R .Ë H')->kX K A vs G R Ä
theorem sJ(T:Txt K mg A):T.iJ.Hz P w mg base 3 (kX K A):=by
 refine T.iJ.hs (k:=2) q4 (λf Ã A' outer s G vs R E hr hu h=>?_);obtain⟨x,dx,v0,v1,v2,H,rfl,rfl,hx,hd,q⟩:=h;refine⟨_,(ae (aR (cI T.jZ T.bM (b8 T) hr (fv 0^fv 1^ab)))
 (ae (bj (fv 0) (fv 2) rfl)
 (ai (bj (fv 0) (fv 3) rfl)))),?_⟩
 exact(IA.one (C:=A.cE) hx hd T.jY.cl).row T.fI λH a=>a.fld T.l8 λH a=>a.fld T.lX λH a=>q _ a.s a.i
inductive kj(K:RS)(A:Ö)(vs:List V)(G:Hp)(R:VK)(Ä:XK):Prop
 |mk (x dx v0 v1 v2 v3 H):vs=[.ref x,v0,v1,v2,v3]->G=upd (upd H dx (.own x)) x (.ins A.bJ dx [])->H x=YI->H dx=YI->(∀(H'),aj H H'->H' x=YH (.ins A.bJ dx [("number",v0),("name",v1),("rank",v2),("size",v3)])->R .Ë H')->kj K A vs G R Ä
theorem rq(T:Txt K mg A):T.gr.Hz P w mg base 3 (kj K A):=by
 refine T.gr.hs (k:=2) qb (λf Ã A' outer s G vs R E hr hu h=>?_);obtain⟨x,dx,v0,v1,v2,v3,H,rfl,rfl,hx,hd,q⟩:=h;refine⟨_,(ae (aR (cI T.jZ T.bM (b8 T) hr (fv 0^fv 1^ab)))
 (ae (bj (fv 0) (fv 2) rfl)
 (ae (bj (fv 0) (fv 3) rfl)
 (ai (bj (fv 0) (fv 4) rfl))))),?_⟩
 exact(IA.one (C:=A.bJ) hx hd T.cP.cl).row T.fA λH a=>a.fld T.eG λH a=>a.fld T.gG λH a=>a.fld T.kY λH a=>q _ a.s a.i
inductive nz(K:RS)(A:Ö)(vs:List V)(G:Hp)(R:VK)(Ä:XK):Prop
 |mk (x dx v0 v1 v2 H):vs=[.ref x,v0,v1,v2]->G=upd (upd H dx (.own x)) x (.ins A.dE dx [])->H x=YI->H dx=YI->(∀(H'),aj H H'->H' x=YH (.ins A.dE dx [("number",v0),("name",v1),("size",v2)])->R .Ë H')->nz K A vs G R Ä
theorem vc(T:Txt K mg A):T.jW.Hz P w mg base 3 (nz K A):=by
 refine T.jW.hs (k:=2) sD (λf Ã A' outer s G vs R E hr hu h=>?_);obtain⟨x,dx,v0,v1,v2,H,rfl,rfl,hx,hd,q⟩:=h;refine⟨_,(ae (aR (cI T.jZ T.bM (b8 T) hr (fv 0^fv 1^ab)))
 (ae (bj (fv 0) (fv 2) rfl)
 (ai (bj (fv 0) (fv 3) rfl)))),?_⟩
 exact(IA.one (C:=A.dE) hx hd T.iF.cl).row T.gp λH a=>a.fld T.jG λH a=>a.fld T.nZ λH a=>q _ a.s a.i
inductive mV(K:RS)(A:Ö)(vs:List V)(G:Hp)(R:VK)(Ä:XK):Prop
 |mk (x dx v0 v1 v2 H):vs=[.ref x,v0,v1,v2]->G=upd (upd H dx (.own x)) x (.ins A.dD dx [])->H x=YI->H dx=YI->(∀(H'),aj H H'->H' x=YH (.ins A.dD dx [("number",v0),("name",v1),("rank",v2)])->R .Ë H')->mV K A vs G R Ä
theorem vd(T:Txt K mg A):T.jP.Hz P w mg base 3 (mV K A):=by
 refine T.jP.hs (k:=2) tq (λf Ã A' outer s G vs R E hr hu h=>?_);obtain⟨x,dx,v0,v1,v2,H,rfl,rfl,hx,hd,q⟩:=h;refine⟨_,(ae (aR (cI T.jZ T.bM (b8 T) hr (fv 0^fv 1^ab)))
 (ae (bj (fv 0) (fv 2) rfl)
 (ai (bj (fv 0) (fv 3) rfl)))),?_⟩
 exact(IA.one (C:=A.dD) hx hd T.eg.cl).row T.gk λH a=>a.fld T.fZ λH a=>a.fld T.jL λH a=>q _ a.s a.i
inductive mY(K:RS)(A:Ö)(vs:List V)(G:Hp)(R:VK)(Ä:XK):Prop
 |mk (x dx v0 v1 v2 H):vs=[.ref x,v0,v1,v2]->G=upd (upd H dx (.own x)) x (.ins A.cS dx [])->H x=YI->H dx=YI->(∀(H'),aj H H'->H' x=YH (.ins A.cS dx [("number",v0),("name",v1),("value",v2)])->R .Ë H')->mY K A vs G R Ä
theorem uV(T:Txt K mg A):T.jX.Hz P w mg base 3 (mY K A):=by
 refine T.jX.hs (k:=2) tS (λf Ã A' outer s G vs R E hr hu h=>?_);obtain⟨x,dx,v0,v1,v2,H,rfl,rfl,hx,hd,q⟩:=h;refine⟨_,(ae (aR (cI T.jZ T.bM (b8 T) hr (fv 0^fv 1^ab)))
 (ae (bj (fv 0) (fv 2) rfl)
 (ai (bj (fv 0) (fv 3) rfl)))),?_⟩
 exact(IA.one (C:=A.cS) hx hd T.ft.cl).row T.gq λH a=>a.fld T.jC λH a=>a.fld T.hX λH a=>q _ a.s a.i
inductive ny(K:RS)(A:Ö)(vs:List V)(G:Hp)(R:VK)(Ä:XK):Prop
 |mk (x dx v0 v1 v2 v3 H):vs=[.ref x,v0,v1,v2,v3]->G=upd (upd H dx (.own x)) x (.ins A.cG dx [])->H x=YI->H dx=YI->(∀(H'),aj H H'->H' x=YH (.ins A.cG dx [("number",v0),("name",v1),("place",v2),("value",v3)])->R .Ë H')->ny K A vs G R Ä
theorem vj(T:Txt K mg A):T.jO.Hz P w mg base 3 (ny K A):=by
 refine T.jO.hs (k:=2) ua (λf Ã A' outer s G vs R E hr hu h=>?_);obtain⟨x,dx,v0,v1,v2,v3,H,rfl,rfl,hx,hd,q⟩:=h;refine⟨_,(ae (aR (cI T.jZ T.bM (b8 T) hr (fv 0^fv 1^ab)))
 (ae (bj (fv 0) (fv 2) rfl)
 (ae (bj (fv 0) (fv 3) rfl)
 (ai (bj (fv 0) (fv 4) rfl))))),?_⟩
 exact(IA.one (C:=A.cG) hx hd T.dZ.cl).row T.gj λH a=>a.fld T.jK λH a=>a.fld T.iW λH a=>a.fld T.iM λH a=>q _ a.s a.i
inductive kZ(K:RS)(A:Ö)(vs:List V)(G:Hp)(R:VK)(Ä:XK):Prop
 |mk (x dx v0 v1 v2 H):vs=[.ref x,v0,v1,v2]->G=upd (upd H dx (.own x)) x (.ins A.b7 dx [])->H x=YI->H dx=YI->(∀(H'),aj H H'->H' x=YH (.ins A.b7 dx [("number",v0),("name",v1),("value",v2)])->R .Ë H')->kZ K A vs G R Ä
theorem ug(T:Txt K mg A):T.i6.Hz P w mg base 3 (kZ K A):=by
 refine T.i6.hs (k:=2) q5 (λf Ã A' outer s G vs R E hr hu h=>?_);obtain⟨x,dx,v0,v1,v2,H,rfl,rfl,hx,hd,q⟩:=h;refine⟨_,(ae (aR (cI T.jZ T.bM (b8 T) hr (fv 0^fv 1^ab)))
 (ae (bj (fv 0) (fv 2) rfl)
 (ai (bj (fv 0) (fv 3) rfl)))),?_⟩
 exact(IA.one (C:=A.b7) hx hd T.dw.cl).row T.fJ λH a=>a.fld T.mw λH a=>a.fld T.gy λH a=>q _ a.s a.i
inductive mj(K:RS)(A:Ö)(vs:List V)(G:Hp)(R:VK)(Ä:XK):Prop
 |mk (x dx v0 v1 v2 v3 H):vs=[.ref x,v0,v1,v2,v3]->G=upd (upd H dx (.own x)) x (.ins A.cY dx [])->H x=YI->H dx=YI->(∀(H'),aj H H'->H' x=YH (.ins A.cY dx [("number",v0),("name",v1),("value",v2),("mark",v3)])->R .Ë H')->mj K A vs G R Ä
theorem uZ(T:Txt K mg A):T.jz.Hz P w mg base 3 (mj K A):=by
 refine T.jz.hs (k:=2) sM (λf Ã A' outer s G vs R E hr hu h=>?_);obtain⟨x,dx,v0,v1,v2,v3,H,rfl,rfl,hx,hd,q⟩:=h;refine⟨_,(ae (aR (cI T.jZ T.bM (b8 T) hr (fv 0^fv 1^ab)))
 (ae (bj (fv 0) (fv 2) rfl)
 (ae (bj (fv 0) (fv 3) rfl)
 (ai (bj (fv 0) (fv 4) rfl))))),?_⟩
 exact(IA.one (C:=A.cY) hx hd T.cy.cl).row T.b9 λH a=>a.fld T.fU λH a=>a.fld T.mO λH a=>a.fld T.jv λH a=>q _ a.s a.i
inductive lr(K:RS)(A:Ö)(vs:List V)(G:Hp)(R:VK)(Ä:XK):Prop
 |mk (x dx v0 v1 t0 l0 H):vs=[.ref x,v0,v1,.ref t0]->G=upd (upd H dx (.own x)) x (.ins A.cD dx [])->H x=YI->H dx=YI->À K H t0 l0->(∀(n0 H'),H n0=YI->aj H H'->H' n0=YH (.lst l0)->H' x=YH (.ins A.cD dx [("number",v0),("name",v1),("things",.ref n0)])->R .Ë H')->lr K A vs G R Ä
theorem uh(T:Txt K mg A):T.iu.Hz P w mg base 3 (lr K A):=by
 refine T.iu.hs (k:=2) rg (λf Ã A' outer s G vs R E hr hu h=>?_);obtain⟨x,dx,v0,v1,t0,l0,H,rfl,rfl,hx,hd,s0,q⟩:=h;refine⟨_,(ae (aR (cI T.jZ T.bM (b8 T) hr (fv 0^fv 1^ab)))
 (ae (bj (fv 0) (fv 2) rfl)
 (ai (bj (fv 0) (ĥ jt T.dW (fv 3^ab)) rfl)))),?_⟩
 refine(IA.one (C:=A.cD) hx hd T.cH.cl).row T.cU λH a=>a.fld T.dM λH a=>{_,l0,rfl,.inl (a.s.seq s0),λn0 f=>?_};replace a:=a.nw f (.lst l0);exact a.fld T.fF λH a=>q n0 _ a.k.1.2.2 a.s a.k.1.1 a.i
inductive nX(K:RS)(A:Ö)(vs:List V)(G:Hp)(R:VK)(Ä:XK):Prop
 |mk (x dx v0 v1 v2 v3 t0 t1 l0 l1 H):vs=[.ref x,v0,v1,.ref t0,.ref t1,v2,v3]->G=upd (upd H dx (.own x)) x (.ins A.cX dx [])->H x=YI->H dx=YI->À K H t0 l0->À K H t1 l1->(∀(n0 n1 H'),H n0=YI->H n1=YI->aj H H'->H' n0=YH (.lst l0)->H' n1=YH (.lst l1)->H' x=YH (.ins A.cX dx [("number",v0),("value",v1),("first",.ref n0),("other",.ref n1),("left",v2),("right",v3)])->R .Ë H')->nX K A vs G R Ä
theorem xB(T:Txt K mg A):T.kL.Hz P w mg base 3 (nX K A):=by
 refine T.kL.hs (k:=2) uW (λf Ã A' outer s G vs R E hr hu h=>?_);obtain⟨x,dx,v0,v1,v2,v3,t0,t1,l0,l1,H,rfl,rfl,hx,hd,s0,s1,q⟩:=h;refine⟨_,(ae (aR (cI T.jZ T.bM (b8 T) hr (fv 0^fv 1^ab)))
 (ae (bj (fv 0) (fv 2) rfl)
 (ae (bj (fv 0) (ĥ jt T.dW (fv 3^ab)) rfl)
 (ae (bj (fv 0) (ĥ jt T.dW (fv 4^ab)) rfl)
 (ae (bj (fv 0) (fv 5) rfl)
 (ai (bj (fv 0) (fv 6) rfl))))))),?_⟩
 refine(IA.one (C:=A.cX) hx hd T.cb.cl).row T.iB λH a=>a.fld T.jD λH a=>{_,l0,rfl,.inl (a.s.seq s0),λn0 f=>?_};replace a:=a.nw f (.lst l0);refine a.fld T.fW λH a=>{_,l1,rfl,.inl (a.s.seq s1),λn1 f=>?_};replace a:=a.nw f (.lst l1);exact a.fld T.fV λH a=>a.fld T.gO λH a=>a.fld T.jE λH a=>q n0 n1 _ a.k.2.1.2.2 a.k.1.2.2 a.s a.k.2.1.1 a.k.1.1 a.i
inductive lg(K:RS)(A:Ö)(vs:List V)(G:Hp)(R:VK)(Ä:XK):Prop
 |mk (x dx v0 v1 v2 v3 v4 t0 l0 H):vs=[.ref x,v0,v1,v2,.ref t0,v3,v4]->G=upd (upd H dx (.own x)) x (.ins A.bz dx [])->H x=YI->H dx=YI->À K H t0 l0->(∀(n0 H'),H n0=YI->aj H H'->H' n0=YH (.lst l0)->H' x=YH (.ins A.bz dx [("number",v0),("thing",v1),("most",v2),("body",.ref n0),("left",v3),("right",v4)])->R .Ë H')->lg K A vs G R Ä
theorem lL(T:Txt K mg A):T.ip.Hz P w mg base 3 (lg K A):=by
 refine T.ip.hs (k:=2) rO (λf Ã A' outer s G vs R E hr hu h=>?_);obtain⟨x,dx,v0,v1,v2,v3,v4,t0,l0,H,rfl,rfl,hx,hd,s0,q⟩:=h;refine⟨_,(ae (aR (cI T.jZ T.bM (b8 T) hr (fv 0^fv 1^ab)))
 (ae (bj (fv 0) (fv 2) rfl)
 (ae (bj (fv 0) (fv 3) rfl)
 (ae (bj (fv 0) (ĥ jt T.dW (fv 4^ab)) rfl)
 (ae (bj (fv 0) (fv 5) rfl)
 (ai (bj (fv 0) (fv 6) rfl))))))),?_⟩
 refine(IA.one (C:=A.bz) hx hd T.bA.cl).row T.fO λH a=>a.fld T.gm λH a=>a.fld T.hV λH a=>{_,l0,rfl,.inl (a.s.seq s0),λn0 f=>?_};replace a:=a.nw f (.lst l0);exact a.fld T.fz λH a=>a.fld T.iQ λH a=>a.fld T.eJ λH a=>q n0 _ a.k.1.2.2 a.s a.k.1.1 a.i
inductive lj(K:RS)(A:Ö)(vs:List V)(G:Hp)(R:VK)(Ä:XK):Prop
 |mk (x dx v0 v1 t0 t1 l0 l1 H):vs=[.ref x,v0,v1,.ref t0,.ref t1]->G=upd (upd H dx (.own x)) x (.ins A.bU dx [])->H x=YI->H dx=YI->À K H t0 l0->À K H t1 l1->(∀(n0 n1 H'),H n0=YI->H n1=YI->aj H H'->H' n0=YH (.lst l0)->H' n1=YH (.lst l1)->H' x=YH (.ins A.bU dx [("number",v0),("name",v1),("parts",.ref n0),("body",.ref n1)])->R .Ë H')->lj K A vs G R Ä
theorem uE(T:Txt K mg A):T.ic.Hz P w mg base 3 (lj K A):=by
 refine T.ic.hs (k:=2) rE (λf Ã A' outer s G vs R E hr hu h=>?_);obtain⟨x,dx,v0,v1,t0,t1,l0,l1,H,rfl,rfl,hx,hd,s0,s1,q⟩:=h;refine⟨_,(ae (aR (cI T.jZ T.bM (b8 T) hr (fv 0^fv 1^ab)))
 (ae (bj (fv 0) (fv 2) rfl)
 (ae (bj (fv 0) (ĥ jt T.dW (fv 3^ab)) rfl)
 (ai (bj (fv 0) (ĥ jt T.dW (fv 4^ab)) rfl))))),?_⟩
 refine(IA.one (C:=A.bU) hx hd T.cu.cl).row T.fE λH a=>a.fld T.cV λH a=>{_,l0,rfl,.inl (a.s.seq s0),λn0 f=>?_};replace a:=a.nw f (.lst l0);refine a.fld T.eE λH a=>{_,l1,rfl,.inl (a.s.seq s1),λn1 f=>?_};replace a:=a.nw f (.lst l1);exact a.fld T.fC λH a=>q n0 n1 _ a.k.2.1.2.2 a.k.1.2.2 a.s a.k.2.1.1 a.k.1.1 a.i
inductive kW(K:RS)(A:Ö)(vs:List V)(G:Hp)(R:VK)(Ä:XK):Prop
 |mk (x dx t0 t1 t2 l0 l1 l2 H):vs=[.ref x,.ref t0,.ref t1,.ref t2]->G=upd (upd H dx (.own x)) x (.ins A.Program dx [])->H x=YI->H dx=YI->À K H t0 l0->À K H t1 l1->À K H t2 l2->(∀(n0 n1 n2 H'),H n0=YI->H n1=YI->H n2=YI->aj H H'->H' n0=YH (.lst l0)->H' n1=YH (.lst l1)->H' n2=YH (.lst l2)->H' x=YH (.ins A.Program dx [("heads",.ref n0),("deeds",.ref n1),("main",.ref n2)])->R .Ë H')->kW K A vs G R Ä
theorem lW(T:Txt K mg A):T.iO.Hz P w mg base 3 (kW K A):=by
 refine T.iO.hs (k:=2) rQ (λf Ã A' outer s G vs R E hr hu h=>?_);obtain⟨x,dx,t0,t1,t2,l0,l1,l2,H,rfl,rfl,hx,hd,s0,s1,s2,q⟩:=h;refine⟨_,(ae (bj (fv 0) (ĥ jt T.dW (fv 1^ab)) rfl)
 (ae (bj (fv 0) (ĥ jt T.dW (fv 2^ab)) rfl)
 (ai (bj (fv 0) (ĥ jt T.dW (fv 3^ab)) rfl)))),?_⟩
 have a:=IA.one (C:=A.Program) hx hd T.cW.cl;refine{_,l0,rfl,.inl (a.s.seq s0),λn0 f=>?_};replace a:=a.nw f (.lst l0);refine a.fld T.eI λH a=>{_,l1,rfl,.inl (a.s.seq s1),λn1 f=>?_};replace a:=a.nw f (.lst l1);refine a.fld T.cJ λH a=>{_,l2,rfl,.inl (a.s.seq s2),λn2 f=>?_};replace a:=a.nw f (.lst l2);exact a.fld T.iZ λH a=>q n0 n1 n2 _ a.k.2.2.1.2.2 a.k.2.1.2.2 a.k.1.2.2 a.s a.k.2.2.1.1 a.k.2.1.1 a.k.1.1 a.i
end
section
variable{P:Program}{w:R5}{K:RS}{mg:Str->Option RI}{base:So}{A:Ö}{N:Nat->Str}
theorem ag(h:∀N,(∀B H,u D B H->N B H)->t { D with nx:=N } B H):Mr t u D B H:=h (u D) λ_ _ z=>z
theorem cq{α β:Type}{F}:∀{l₁:List α}{l₂:List β}{i:Nat}{b:β},Paired F l₁ l₂->l₂[i]?=YH b->∃a,l₁[i]?=YH a/\F a b:=by
 intro l₁ l₂ i b h;induction h generalizing i with
 |nil=>intro e;cases e
 |cons h _ ih=>
  intro e;cases i with
  |zero=>cases e;exact{_,rfl,h}
  |succ i=>exact ih (i:=i) e
theorem gX{α β:Type}(f:β->α->β)(b:β){xs:List α}{i}{x:α}(h:xs[i]?=YH x):(xs.take (i+1)).foldl f b=f ((xs.take i).foldl f b) x:=by
 rw[P4,h,Rr];rfl
noncomputable abbrev cls(A:Ö):List RJ:=[A.Row,A.cE,A.bJ,A.dE,A.dD,A.cS,A.cG,A.b7,A.cY,A.cD,A.dG,A.cX,A.bz,A.bU,A.Program]
theorem LU(T:Txt K mg A) (i j) (hi:i<15:=by decide) (hj:j<15:=by decide) (h:i≠j:=by decide):(cls A)[i]'hi≠(cls A)[j]'hj:=λe=>h ((Rt T.nd).mp e)
theorem NW(O:fB K mg C x up)(hs:C∈up:=by exact O9):T3 K (.ref C) (.ref C)=YH true:=by
 rw[O.kit O hs,decide_eq_true hs]
theorem Ou(O:fB K mg C x [C,R])(U0z:fB K mg D y vp)(h1:D≠C)(h2:D≠R):T3 K (.ref C) (.ref D)=YH false:=by
 rw[O.kit U0z O9,decide_eq_false];intro m;rcases O2.mp m with e|m
 ·exact h1 e
 rcases O2.mp m with e|m
 ·exact h2 e
 cases m
theorem lt3:∀i,i<3->i=0\/i=1\/i=2:=∅
noncomputable def sk(ks:List Key)(f:Key->V):List (Key×V):=ks.map λk=>(k,f k)
theorem wY:∀{ks:List Key},k∈ks->L2.cf (sk ks f) k=YH (f k)
 |j::r,m=>by
  by_cases e:j=k
  ·subst e;exact cR rfl
  refine(cK (r:=sk r f) e).trans (wY ?_);rcases O2.mp m with z|z
  ·exact absurd z.symm e
  exact z
theorem Jz:∀{ks:List Key},k∉ks->L2.cf (sk ks f) k=YI
 | [],_=>rfl
 |j::r,m=>by
  have e:¬ j=k:=λe=>m (by rw[e];exact O9);exact(cK (p:=(j,f j)) (r:=sk r f) e).trans (Jz λz=>m (O8 _ z))
instance memK(k:Key)(ks:List Key):Decidable (k∈ks):=decidable_of_iff ((ks.any λj=>decide (j=k))=true) (by
 rw[Rh];exact{λ⟨j,m,e⟩=>of_decide_eq_true e▸m,λm=>⟨k,m,decide_eq_true rfl⟩})
theorem Mw (k ks):(L2.cf (sk ks f) k).isSome=decide (k∈ks):=by
 by_cases m:k∈ks
 ·rw[wY m,decide_eq_true m];rfl
 rw[Jz m,decide_eq_false m];rfl
noncomputable def xi(f:Key->V)(k:Key)(v:V):Key->V:=λj=>if j=k then v else f j
noncomputable def Lx(ks:List Key)(k:Key):List Key:=if k∈ks then ks else ks++[k]
theorem KD:YQ (sk ks f) k v=sk (Lx ks k) (xi f k v):=by
 unfold YQ Lx;rw[i7,Mw];by_cases m:k∈ks
 ·rw[if_pos (decide_eq_true m),if_pos m];unfold sk;rw[QE];refine Q0 λj _=>?_;show(if j=k then(j,v)else(j,f j))=(j,xi f k v j);unfold xi;split<;>rfl
 rw[if_neg (by rw[decide_eq_false m];exact Pa),if_neg m];unfold sk;rw[PB];show _=_++[(k,xi f k v k)];rw[show xi f k v k=v from if_pos rfl];congr 1;refine Q0 λj hj=>?_;show(j,f j)=(j,xi f k v j);rw[show xi f k v j=f j from if_neg λ(e:j=k)=>m (e▸hj)]
theorem AW (f ks):(sk ks f).length=ks.length:=OZ _
theorem yH(kvs:List (Key×V))(k:Key)(v:V):(YQ kvs k v).length<=kvs.length+1:=by
 unfold YQ;split
 ·rw[OZ];lia
 simp
theorem MG(h:H d=YH (.dK (sk ks f)))(m:k∈ks):j4 H d (kV k) (YH (f k)):=by
 rw[<-wY (f:=f) m];exact j4.k h
noncomputable def Ŀ(A:Ö)(i:Nat):RJ:=(cls A).getD i 0
theorem Es(T:Txt K mg A)(hi:i<15)(hj:j<15)(h:i≠j):Ŀ A i≠Ŀ A j:=by
 unfold Ŀ;rw[PD,PD,O7 (show i<(cls A).length from hi),O7 (show j<(cls A).length from hj)];exact LU T i j hi hj h
theorem Af{α:Type}{l:List α}(h:l.length=1):∃a,l=[a]:=by
 cases l with
 |nil=>cases h
 |cons a r=>cases r with
  |nil=>exact⟨a,rfl⟩
  |cons _ _=>cases h
theorem MA{α:Type}{l:List α}(h:l.length=2):∃a b,l=[a,b]:=by
 cases l with
 |nil=>cases h
 |cons a r=>
  obtain⟨b,rfl⟩:=Af (Nat.succ.inj h);exact⟨a,b,rfl⟩
theorem xt(T:Txt K mg A) (i) (h:i<14) (h0:0<i):∃x,fB K mg (Ŀ A i) x [Ŀ A i,A.Row]:=by
 obtain _|_|_|_|_|_|_|_|_|_|_|_|_|_|i:=i
 ·cases h0
 ·exact{_,T.jY}
 ·exact{_,T.cP}
 ·exact{_,T.iF}
 ·exact{_,T.eg}
 ·exact{_,T.ft}
 ·exact{_,T.dZ}
 ·exact{_,T.dw}
 ·exact{_,T.cy}
 ·exact{_,T.cH}
 ·exact{_,T.fL}
 ·exact{_,T.cb}
 ·exact{_,T.bA}
 ·exact{_,T.cu}
 lia
theorem E3(T:Txt K mg A) (i j) (hi:i<14) (hj:j<14) (i0:0<i) (j0:0<j):T3 K (.ref (Ŀ A i)) (.ref (Ŀ A j))=YH (decide (i=j)):=by
 obtain⟨x,O⟩:=xt T i hi i0;obtain⟨y,U0z⟩:=xt T j hj j0;by_cases e:i=j
 ·subst e;rw[decide_eq_true rfl];exact NW O
 rw[decide_eq_false e];exact Ou O U0z (Es T () () (λz=>e z.symm)) (Es T (j:=0) () () ())
seal PE PA PS Ĳ PT PW
inductive Th where
 |i (n:Int)|x (a:Nat)
inductive Val where
 |one (a:Th)|op (a:Th) (w:Str) (b:Th)
noncomputable def Th.v(N:Nat->Str):Th->V
 | .i n=>.int n
 | .x a=>.str (N a)
noncomputable def vV(N:Nat->Str):Val->List V
 | .one a=>[a.v N]
 | .op a w b=>[a.v N,.str w,b.v N]
inductive Lr where
 |hand (i:Nat) (r:Int)|Ŋ (i:Nat) (r z:Int)|own (i:Nat) (z:Int)|lt (i:Nat) (r:Int)
 |set (x:Nat) (v:Val)|put (x:Nat) (p:Th) (v:Val)|snd (h:Nat) (v:Val)|say (x:Nat) (v:Val) (m:Nat)
 |call (i:Nat) (ts:List Th)|last
noncomputable def Lr.ci:Lr->Nat
 | .hand _ _=>1| .Ŋ _ _ _=>2| .own _ _=>3| .lt _ _=>4| .set _ _=>5| .put _ _ _=>6| .snd _ _=>7| .say _ _ _=>8
 | .call _ _=>9| .last=>10
noncomputable abbrev nV(N:Nat->Str)(ns:List Nat):List V:=ns.map λi=>V.str (N i)
noncomputable def Lr.fs(N:Nat->Str)(p:RJ):Lr->List (Str×V)
 | .hand i r=>[("name",.str (N i)),("rank",.int r)]
 | .Ŋ i r z=>[("name",.str (N i)),("rank",.int r),("size",.int z)]
 | .own i z=>[("name",.str (N i)),("size",.int z)]
 | .lt i r=>[("name",.str (N i)),("rank",.int r)]
 | .set x _=>[("name",.str (N x)),("value",.ref p)]
 | .put x t _=>[("name",.str (N x)),("place",t.v N),("value",.ref p)]
 | .snd h _=>[("name",.str (N h)),("value",.ref p)]
 | .say x _ m=>[("name",.str (N x)),("value",.ref p),("mark",.str (N m))]
 | .call i _=>[("name",.str (N i)),("things",.ref p)]
 | .last=>[]
noncomputable def Lr.ob(N:Nat->Str):Lr->Option HO
 | .set _ v=>YH (.tup (vV N v))
 | .put _ _ v=>YH (.tup (vV N v))
 | .snd _ v=>YH (.tup (vV N v))
 | .say _ v _=>YH (.tup (vV N v))
 | .call _ ts=>YH (.lst (ts.map (Th.v N)))
 |_=>YI
inductive Pt where
 |leaf (n:Int) (r:Lr)
 |iff (n:Int) (v:Val) (l r:Int) (f o:List Pt)
 |loop (n:Int) (t:Th) (m l r:Int) (b:List Pt)
 |bq (n:Int) (i:Nat) (ps:List Nat) (b:List Pt)
noncomputable def Pt.no:Pt->Int
 | .leaf n _=>n
 | .iff n _ _ _ _ _=>n
 | .loop n _ _ _ _ _=>n
 | .bq n _ _ _=>n
noncomputable def Pt.ci:Pt->Nat
 | .leaf _ r=>r.ci
 | .iff _ _ _ _ _ _=>11
 | .loop _ _ _ _ _ _=>12
 | .bq _ _ _ _=>13
def OJ(A:Ö)(N:Nat->Str)(X:Hp)(v:V)(n:Int)(r:Lr):Prop:=∃a dx p,v=.ref a/\X a=YH (.ins (Ŀ A r.ci) dx (("number",.int n)::r.fs N p))/\∀o,r.ob N=YH o->X p=YH o
mutual
noncomputable def bf(A:Ö)(N:Nat->Str)(X:Hp):V->Pt->Prop
 |v,.leaf n r=>OJ A N X v n r
 |v,.iff n val l r f o=>∃a dx p pf po xf xo,v=.ref a/\X a=YH (.ins A.cX dx [("number",.int n),("value",.ref p),("first",.ref pf),("other",.ref po),("left",.int l),("right",.int r)])/\X p=YH (.tup (vV N val))/\X pf=YH (.lst xf)/\X po=YH (.lst xo)/\aJ A N X xf f/\aJ A N X xo o
 |v,.loop n t m l r b=>∃a dx pb xb,v=.ref a/\X a=YH (.ins A.bz dx [("number",.int n),("thing",t.v N),("most",.int m),("body",.ref pb),("left",.int l),("right",.int r)])/\X pb=YH (.lst xb)/\aJ A N X xb b
 |v,.bq n i ps b=>∃a dx pp pb xb,v=.ref a/\X a=YH (.ins A.bU dx [("number",.int n),("name",.str (N i)),("parts",.ref pp),("body",.ref pb)])/\X pp=YH (.lst (nV N ps))/\X pb=YH (.lst xb)/\aJ A N X xb b
noncomputable def aJ(A:Ö)(N:Nat->Str)(X:Hp):List V->List Pt->Prop
 |vs,[]=>vs=[]
 |vs,t::ts=>∃x xs,vs=x::xs/\bf A N X x t/\aJ A N X xs ts
end
mutual
theorem bf.same(s:aj X X'):∀(t:Pt)(v:V),bf A N X v t->bf A N X' v t
 | .leaf n r,v,h=>by
  unfold bf at h⊢;obtain⟨a,dx,p,e,h1,h2⟩:=h;exact{a,dx,p,e,s _ _ h1,λo ho=>s _ _ (h2 o ho)}
 | .iff n val l r f o,v,h=>by
  unfold bf at h⊢;obtain⟨a,dx,p,pf,po,xf,xo,e,h1,h2,h3,h4,h5,h6⟩:=h;exact{a,dx,p,pf,po,xf,xo,e,s _ _ h1,s _ _ h2,s _ _ h3,s _ _ h4,aJ.same s f _ h5,aJ.same s o _ h6}
 | .loop n t m l r b,v,h=>by
  unfold bf at h⊢;obtain⟨a,dx,pb,xb,e,h1,h2,h3⟩:=h;exact{a,dx,pb,xb,e,s _ _ h1,s _ _ h2,aJ.same s b _ h3}
 | .bq n i ps b,v,h=>by
  unfold bf at h⊢;obtain⟨a,dx,pp,pb,xb,e,h1,h2,h3,h4⟩:=h;exact{a,dx,pp,pb,xb,e,s _ _ h1,s _ _ h2,s _ _ h3,aJ.same s b _ h4}
theorem aJ.same(s:aj X X'):∀(ts:List Pt)(vs:List V),aJ A N X vs ts->aJ A N X' vs ts
 | [],vs,h=>by
  unfold aJ at h⊢;exact h
 |t::ts,vs,h=>by
  unfold aJ at h⊢;obtain⟨x,xs,e,h1,h2⟩:=h;exact{x,xs,e,bf.same s t _ h1,aJ.same s ts _ h2}
end
theorem aJ.nil:aJ A N X [] []:=by
 unfold aJ;rfl
theorem aJ.cons(h:bf A N X x t)(h':aJ A N X vs ts):aJ A N X (x::vs) (t::ts):=by
 unfold aJ;exact⟨x,vs,rfl,h,h'⟩
theorem aJ.one(h:bf A N X x t):aJ A N X [x] [t]:=aJ.cons h aJ.nil
theorem aJ.len:∀{ts:List Pt}{vs:List V},aJ A N X vs ts->vs.length=ts.length
 | [],vs,h=>by
  unfold aJ at h;rw[h];rfl
 |t::ts,vs,h=>by
  unfold aJ at h;obtain⟨y,ys,e,h1,h2⟩:=h;subst e;simp[aJ.len h2]
theorem aJ.get:∀{ts:List Pt}{vs:List V}{i:Nat}{v:V},aJ A N X vs ts->vs[i]?=YH v->∃t,ts[i]?=YH t/\bf A N X v t
 | [],vs,i,v,h,e=>by
  unfold aJ at h;rw[h]at e;cases e
 |t::ts,vs,i,v,h,e=>by
  unfold aJ at h;obtain⟨y,ys,e',h1,h2⟩:=h;subst e';cases i with
  |zero=>cases e;exact⟨t,rfl,h1⟩
  |succ i=>exact aJ.get (i:=i) h2 e
theorem nW(p:Pt):0<p.ci/\p.ci<14:=by
 cases p with
 |leaf n r=>cases r<;>simp[Pt.ci,Lr.ci]
 |_=>simp[Pt.ci]
theorem Ny(T:Txt K mg A)(p:Pt):ō K (Ŀ A p.ci)/\aO K (Ŀ A p.ci) "number":=by
 cases p with
 |leaf n r=>
  cases r with
  |hand _ _=>exact⟨T.jY.cl,T.fI⟩
  |Ŋ _ _ _=>exact⟨T.cP.cl,T.fA⟩
  |own _ _=>exact⟨T.iF.cl,T.gp⟩
  |lt _ _=>exact⟨T.eg.cl,T.gk⟩
  |set _ _=>exact⟨T.ft.cl,T.gq⟩
  |put _ _ _=>exact⟨T.dZ.cl,T.gj⟩
  |snd _ _=>exact⟨T.dw.cl,T.fJ⟩
  |say _ _ _=>exact⟨T.cy.cl,T.b9⟩
  |call _ _=>exact⟨T.cH.cl,T.cU⟩
  |_=>exact⟨T.fL.cl,T.fK⟩
 |iff _ _ _ _ _ _=>exact⟨T.cb.cl,T.iB⟩
 |loop _ _ _ _ _ _=>exact⟨T.bA.cl,T.fO⟩
 |bq _ _ _ _=>exact⟨T.cu.cl,T.fE⟩
theorem Ek(h:bf A N X v p):∃a dx fs,v=.ref a/\X a=YH (.ins (Ŀ A p.ci) dx (("number",.int p.no)::fs)):=by
 cases p with
 |leaf n r=>
  unfold bf at h;obtain⟨a,dx,p,e,h1,h2⟩:=h;exact{a,dx,_,e,h1}
 |iff n val l r f o=>
  unfold bf at h;obtain⟨a,dx,p,pf,po,xf,xo,e,h1,_⟩:=h;exact{a,dx,_,e,h1}
 |loop n t m l r b=>
  unfold bf at h;obtain⟨a,dx,pb,xb,e,h1,_⟩:=h;exact{a,dx,_,e,h1}
 |bq n i ps b=>
  unfold bf at h;obtain⟨a,dx,pp,pb,xb,e,h1,_⟩:=h;exact{a,dx,_,e,h1}
theorem vo(T:Txt K mg A)(s:aj X H)(h:bf A N X v p) (j) (j0:0<j) (hj:j<14) (q:R (decide (p.ci=j)) H):zQ K [v,.ref (Ŀ A j)] H λv H1=>zH K v H1 R:=by
 obtain⟨a,dx,fs,rfl,ha⟩:=Ek h;obtain⟨x,O⟩:=xt T p.ci (nW p).2 (nW p).1;exact isB (O.NL (s _ _ ha)) (E3 T p.ci j (nW p).2 hj (nW p).1 j0) q
theorem kD(T:Txt K mg A)(s:aj X H)(h:bf A N X v p)(e:p.ci=j)(q:R true H):zQ K [v,.ref (Ŀ A j)] H λv H1=>zH K v H1 R:=vo T s h j (e▸(nW p).1) (e▸(nW p).2) (by rw[decide_eq_true e];exact q)
theorem gL(T:Txt K mg A)(s:aj X H)(h:bf A N X v p)(e:p.ci≠j)(q:R false H)(j0:0<j:=by decide)(hj:j<14:=by decide):zQ K [v,.ref (Ŀ A j)] H λv H1=>zH K v H1 R:=vo T s h j j0 hj (by rw[decide_eq_false e];exact q)
theorem xY(T:Txt K mg A)(s:aj X H)(h:bf A N X v p) (j) (j0:0<j) (hj:j<14) (q:Q (.bl (decide (p.ci=j))) H):zQ K [v,.ref (Ŀ A j)] H Q:=by
 obtain⟨a,dx,fs,rfl,ha⟩:=Ek h;obtain⟨x,O⟩:=xt T p.ci (nW p).2 (nW p).1;exact{_,_,_,_,rfl,(λz=>by cases z),O.NL (s _ _ ha),E3 T p.ci j (nW p).2 hj (nW p).1 j0,q}
theorem eO(T:Txt K mg A)(s:aj X H)(h:bf A N X v p)(q:Q (.int p.no) H):om K "number" v H Q:=by
 obtain⟨a,dx,fs,rfl,ha⟩:=Ek h;obtain⟨c1,c2⟩:=Ny T p;exact Ø (s _ _ ha) c1 c2 rfl q
noncomputable def aU(n:Int):Str:=R7++("row ":Str)++Ug (toString n)
noncomputable def LM(s:Str):Nat:=(s.cps.toList.drop 4).foldl (λa c=>10*a+(c-48)) 0
theorem nG:∀n:Fin 1001,((n.val:Int).natAbs.log2<1920)/\(Ug (toString (n.val:Int))).length<=20/\LM (aU (n.val:Int))=n.val/\(aU (n.val:Int)).cps[0]?=YH 114:=by decide+kernel
theorem Iq(a0:0<=a)(a1:a<=1000)(b0:0<=b)(b1:b<=1000)(h:aU a=aU b):a=b:=by
 obtain⟨a,rfl⟩:∃k:Nat,a=(k:Int):={a.toNat,()};obtain⟨b,rfl⟩:∃k:Nat,b=(k:Int):={b.toNat,()};have h1:=(nG {a,()}).2.2.1;have h2:=(nG {b,()}).2.2.1;rw[show LM (aU (a:Int))=LM (aU (b:Int)) by rw[h]]at h1;have:b=a:=h2.symm.trans h1;rw[this]
theorem Ho(a0:0<=a)(a1:a<=1000)(hx:x.cps[0]?≠YH 114):aU a≠x:=by
 obtain⟨a,rfl⟩:∃k:Nat,a=(k:Int):={a.toNat,()};intro e;exact hx (e▸(nG {a,()}).2.2.2)
theorem je(a b:Str):(a++b).length=a.length+b.length:=Xl
inductive yA(vs:List V)(H:Hp)(Q:VK)(Ä:XK):Prop
 |mk (n):vs=[.int n]->0<=n->n<=1000->Q (.str (aU n)) H->yA vs H Q Ä
theorem pJ(T:Txt K mg A):T.qt.Hz P w base 1 yA:=by
 refine T.qt.hs ya (λf Ã A' outer s H vs Q E' hr hu h=>?_);obtain⟨n,rfl,h0,h1,q⟩:=h;obtain⟨n,rfl⟩:∃k:Nat,n=(k:Int):={n.toNat,()};obtain⟨k1,k2,_⟩:=nG {n,()};refine{_,(ai (aD (Jm (BU aw (BU (KH (fv 0)) Mn))))),{_,rfl,∅,Pg {_,rfl,k1,_,rfl,?_}}};have l:(aU (n:Int)).length<=sizeLine:=by
  unfold aU;rw[je];exact Pf (Nat.add_le_add_left k2 _) ∅
 exact⟨l,l,q⟩
theorem Paired.two{α β:Type}{F}{xs zs:List α}{ys ws:List β}(h:Paired F xs ys)(g:Paired F zs ws):Paired F (xs++zs) (ys++ws):=tV h g
noncomputable abbrev Le:=Pt×Option Str×Option Str
noncomputable def oS:Option Str->V
 |none=>.Ë
 |some x=>.str x
mutual
noncomputable def dm(lp:Option Str):Pt->List Le
 | .leaf _ _=>[]
 | .iff n _ _ _ f o=>bD (YH (aU n)) lp f++bD (YH (aU n)) lp o
 | .loop n _ _ _ _ b=>bD (YH (aU n)) (YH (aU n)) b
 | .bq _ _ _ _=>[]
noncomputable def bD(pl lp:Option Str):List Pt->List Le
 | []=>[]
 |t::ts=>(t,pl,lp)::(dm lp t++bD pl lp ts)
end
mutual
noncomputable def dep:Pt->Nat
 | .leaf _ _=>0
 | .iff _ _ _ _ f o=>max (lH f) (lH o)+1
 | .loop _ _ _ _ _ b=>lH b+1
 | .bq _ _ _ b=>0
noncomputable def lH:List Pt->Nat
 | []=>0
 |t::ts=>max (dep t) (lH ts)
end
theorem uk:∀{ts:List Pt},t∈ts->dep t<=lH ts
 |t'::ts,m=>by
  unfold lH;rcases O2.mp m with rfl|m
  ·exact Nat.le_max_left _ _
  exact Pf (uk m) (Nat.le_max_right _ _)
theorem ue:∀a b,bD pl lp (a++b)=bD pl lp a++bD pl lp b
 | [],b=>by simp[bD]
 |t::a,b=>by
  have h1:bD pl lp (t::(a++b))=(t,pl,lp)::(dm lp t++bD pl lp (a++b)):=by rw[bD]
  have h2:bD pl lp (t::a)=(t,pl,lp)::(dm lp t++bD pl lp a):=by rw[bD]
  show bD pl lp (t::(a++b))=_;rw[h1,h2,ue a b];simp
theorem vQ{pl lp:Option Str}{ts:List Pt}{t:Pt}{i:Nat}(h:ts[i]?=YH t):bD pl lp (ts.take (i+1))=bD pl lp (ts.take i)++(t,pl,lp)::dm lp t:=by
 rw[P4,h,ue];show bD pl lp (ts.take i)++bD pl lp [t]=_;rw[show bD pl lp [t]=(t,pl,lp)::dm lp t by simp[bD]]
theorem E8(h:ts[i]?=YH t):bD pl lp ts=bD pl lp (ts.take i)++((t,pl,lp)::dm lp t)++bD pl lp (ts.drop (i+1)):=by
 rw[<-vQ h,<-ue,PQ]
def Nb(es:List Le):Prop:=∀e∈es,0<=e.1.no/\e.1.no<=1000
def LyE(A:Ö)(N:Nat->Str)(X:Hp)(e:Le)(y:V)(H:Hp):Prop:=∃tp v,y=V.ref tp/\H tp=YH (.tup [v,oS e.2.1,oS e.2.2])/\bf A N X v e.1
def Ly(A:Ö)(N:Nat->Str)(X H:Hp)(es:List Le)(ys:List V):Prop:=Paired (λe y=>LyE A N X e y H) es ys
theorem Ly.same(s:∀x w,H x=YH (.tup w)->H' x=YH (.tup w))(h:Ly A N X H es ys):Ly A N X H' es ys:=Paired.vb h λ_ _ ⟨tp,v,e,h1,h2⟩=>{tp,v,e,s _ _ h1,h2}
inductive sA(A:Ö)(d:Nat)(vs:List V)(H:Hp)(Q:VK)(Ä:XK):Prop
 |mk (N X L xs pl lp ts) (z0:vs=[.ref L,oS pl,oS lp]) (z1:aj X H) (z2:X L=YH (.lst xs)) (z3:aJ A N X xs ts) (z4:lH ts<=d) (z5:Nb (bD pl lp ts)) (z6:(bD pl lp ts).length<=900)
  (z7:∀(R ys H'),aj H H'->H R=YI->H' R=YH (.lst ys)->Ly A N X H' (bD pl lp ts) ys->Q (.ref R) H'):sA A d vs H Q Ä
inductive qx(A:Ö)(d:Nat)(vs:List V)(H:Hp)(Q:VK)(Ä:XK):Prop
 |mk (N X v lp t) (z0:vs=[v,oS lp]) (z1:aj X H) (z2:bf A N X v t) (z3:dep t<=d) (z4:0<=t.no/\t.no<=1000) (z5:Nb (dm lp t)) (z6:(dm lp t).length<=900)
  (z7:∀(R ys H'),aj H H'->H R=YI->H' R=YH (.lst ys)->Ly A N X H' (dm lp t) ys->Q (.ref R) H'):qx A d vs H Q Ä
noncomputable def Fi(A:Ö):Nat->Sp
 |0=>λ_ _ _ _=>False
 |d+1=>sA A d
inductive BR(L:RJ)(pl:Option Str)(lp:Option Str)(R:RJ)(H:Hp)(X:Hp)(ts:List Pt)(i:Nat)(B:St)(Hc:Hp):Prop
 |mk(ys:List V)(v4:Option V):B=[YH (.ref L),YH (oS pl),YH (oS lp),YH (.ref R),v4]->aj H Hc->Hc R=YH (.lst ys)->Ly A N X Hc (bD pl lp (ts.take i)) ys->BR L pl lp R H X ts i B Hc
theorem CU(T:Txt K mg A) (d j) (nr:T.jc.Hz P w base j (qx A d)):T.gU.Hz P w base (j+1) (sA A d):=by
 refine T.gU.hs (k:=j) gT (λf Ã A' outer s H vs Q E' hr hu h=>?_);obtain⟨N,X,L,xs,pl,lp,ts,rfl,s0,hL,pt,dp,nb,ln,q⟩:=h;refine⟨_,(ae (Ç 3 gT.nd (aI ab))
  (ae (bS RW rfl (bT (fv 0)) (Ð (i:=4) gT.nd rfl)
   (ae (aR (bB (fv 3) (aV (fv 4^fv 1^fv 2^ab)^ab)))
   (ai (aR (gc (fv 3) ((ak (hj:=by lia) nr hr (fv 4^fv 2^ab))^ab))))))
  (ai (aD (fv 3))))),?_⟩
 refine ag λM1 K1=>{Pd _,λR hR=>?_};obtain⟨s1,e1⟩:=É hR (HO.lst []);generalize upd H R _=H1 at s1 e1⊢;refine K1 _ _ ?_;clear K1 M1;try dsimp only
 refine ag λM1 K1=>Pg {{_,À.of ((s0.trans s1) _ _ hL)},bQ (K:=K) (xs:=xs) ((BR (A:=A) (N:=N) L pl lp R H X ts)) {[],YI,rfl,s1,e1,by rw[show bD pl lp (ts.take 0)=[] by show bD pl lp []=[];rw[bD]];exact .nil} (λi B Hc _ zz=>by obtain⟨_,_,_,z,_⟩:=zz;exact À.of ((s0.trans z) _ _ hL)) ?_ ?_}
 ·rintro i v B Hc hv ⟨ys,v4,rfl,sc,Û,ly⟩;obtain⟨t,ht,pa⟩:=pt.get hv;have mt:t∈ts:=Pj ht;have e:=E8 (pl:=pl) (lp:=lp) ht;have le:(bD pl lp (ts.take i)).length+(1+(dm lp t).length)<=900:=by
   rw[e]at ln;simp at ln;lia
  have n1:∀z∈((t,pl,lp)::dm lp t),0<=z.1.no/\z.1.no<=1000:=λz hz=>nb z (by rw[e];exact Ph _ (Pc _ hz));have lly:=RT ly;try dsimp only
  refine ag λN1 J1=>{Pg {rfl,_,À.of Û},by show 3<=sizeLine;decide,λtp ß=>?_};have tpR:tp≠R:=YJ ß Û;refine{_,_,_,rfl,rfl,au tpR.symm Û,aH (),?_};have s2:aj H (upd (upd Hc tp (.tup [v,oS pl,oS lp])) R (.lst (ys++[.ref tp]))):=aj.out (sc.trans (aj.upd ß _)) hR _;have e2:upd (upd Hc tp (.tup [v,oS pl,oS lp])) R (.lst (ys++[.ref tp])) R=YH (.lst (ys++[.ref tp])):=ao;have l2:Ly A N X (upd (upd Hc tp (.tup [v,oS pl,oS lp])) R (.lst (ys++[.ref tp]))) (bD pl lp (ts.take i)++[(t,pl,lp)]) (ys++[.ref tp]):=by
   refine Paired.two (ly.same λx w e=>?_) (.cons ⟨tp,v,rfl,au tpR ao,pa⟩ .nil);exact au (λy=>by rw[y,Û]at e;cases e) (au (λy=>by rw[y,ß]at e;cases e) e)
  generalize upd (upd Hc tp (.tup [v,oS pl,oS lp])) R (.lst (ys++[.ref tp]))=Hd at s2 e2 l2⊢;refine J1 _ _ ?_;clear J1 N1;try dsimp only
  refine{Pg {rfl,_,À.of e2},N,X,v,lp,t,rfl,s0.trans s2,pa,Pf (uk mt) dp,n1 _ O9,λz hz=>n1 z (O8 _ hz),(),λR2 zs He s3 hR2 ī l3=>?_};have lz:=RT l3;refine{_,_,_,_,rfl,rfl,s3 _ _ e2,ī,sz (by rw[OX,<-lz,<-lly];simp;lia),{_,_,rfl,aj.out (s2.trans s3) hR _,ao,?_}};rw[vQ ht,show bD pl lp (ts.take i)++(t,pl,lp)::dm lp t=bD pl lp (ts.take i)++[(t,pl,lp)]++dm lp t by simp];have dR:∀x w,He x=YH (.tup w)->upd He R (.lst (ys++[.ref tp]++zs)) x=YH (.tup w):=λx w e=>au (λy=>by rw[y,s3 _ _ e2]at e;cases e) e;exact Paired.two (l2.same λx w e=>dR x w (s3 _ _ e)) (l3.same dR)
 rintro B Hc ⟨ys,v4,rfl,sc,Û,ly⟩;rw[show ts.take xs.length=ts by rw[pt.len];exact PM]at ly;exact K1 _ _ (q R ys Hc sc hR Û ly)
theorem vG(T:Txt K mg A) (d j) (ky:T.gU.Hz P w base (j+1) (Fi A d)):T.jc.Hz P w base (j+2) (qx A d):=by
 refine T.jc.hs (k:=j+1) lT (λf Ã A' outer s H vs Q E' hr hu h=>?_);obtain⟨N,X,v,lp,t,rfl,s0,pa,dp,nt,nb,ln,q⟩:=h;refine⟨_,(ae (Ç 2 lT.nd (ak (hj:=by lia) (pJ T) hr (aK (fv 0) rfl^ab)))
  (ae (aS (bh (Þ aX T.aG (fv 0^bF T.cb.mg^ab)) (λ_=>rfl))
   (ai (aD (az aQ (ak (hj:=by lia) ky hr (aK (fv 0) rfl^fv 2^fv 1^ab)) (ak (hj:=by lia) ky hr (aK (fv 0) rfl^fv 2^fv 1^ab)))))
   aF)
  (ae (aS (bh (Þ aX T.aG (fv 0^bF T.bA.mg^ab)) (λ_=>rfl))
   (ai (aD (ak (hj:=by lia) ky hr (aK (fv 0) rfl^fv 2^fv 2^ab))))
   aF)
  (ai (aD (aI ab)))))),?_⟩
 refine ag λM1 K1=>eO T s0 pa {_,rfl,nt.1,nt.2,K1 _ _ ?_};clear K1 M1;try dsimp only
 refine ag λM1 K1=>vo T s0 pa 11 ∅ ∅ ?_;cases t with
 |iff n val l r f o=>
  refine bW ?_;unfold bf at pa;obtain⟨a,dx,p,pf,po,xf,xo,rfl,h1,h2,h3,h4,h5,h6⟩:=pa;unfold dep at dp;cases d with
  |zero=>lia
  |succ d=>
  unfold dm at nb ln q;have nf:Nb (bD (YH (aU n)) lp f):=λy hy=>nb y (Ph _ hy);have no:Nb (bD (YH (aU n)) lp o):=λy hy=>nb y (Pc _ hy);rw[OX]at ln;refine Ø (s0 _ _ h1) T.cb.cl T.fW rfl {N,X,pf,xf,YH (aU n),lp,f,rfl,s0,h3,h5,(),nf,(),λR1 y1 H1 s1 n1 e1 l1=>Ø ((s0.trans s1) _ _ h1) T.cb.cl T.fV rfl {N,X,po,xo,YH (aU n),lp,o,rfl,s0.trans s1,h4,h6,(),no,(),λR2 y2 H2 s2 n2 e2 l2=>?_}};have z1:=RT l1;have z2:=RT l2;refine{R1,R2,_,_,rfl,rfl,s2 _ _ e1,e2,sz (),λR hR=>?_};have s3:aj H2 (upd H2 R (.lst (y1++y2))):=aj.upd hR _;exact q R _ _ ((s1.trans s2).trans s3) (aj.free (s1.trans s2) hR) ao (Paired.two (l1.same λx w e=>s3 _ _ (s2 _ _ e)) (l2.same λx w e=>s3 _ _ e))
 |loop n t m l r b=>
  refine aY (K1 _ _ ?_);clear K1 M1;try dsimp only
  refine ag λM1 K1=>vo T s0 pa 12 ∅ ∅ (bW ?_);unfold bf at pa;obtain⟨a,dx,pb,xb,rfl,h1,h2,h3⟩:=pa;unfold dep at dp;cases d with
  |zero=>lia
  |succ d=>
  unfold dm at nb ln q;exact Ø (s0 _ _ h1) T.bA.cl T.fz rfl {N,X,pb,xb,YH (aU n),YH (aU n),b,rfl,s0,h2,h3,(),nb,ln,λR1 y1 H1 s1 n1 e1 l1=>q R1 y1 H1 s1 n1 e1 l1}
 |leaf n r=>
  have e11:decide ((Pt.leaf n r).ci=11)=false:=by cases r<;>rfl
  have e12:decide ((Pt.leaf n r).ci=12)=false:=by cases r<;>rfl
  rw[e11];refine aY (K1 _ _ ?_);clear K1 M1;try dsimp only
  refine ag λM1 K1=>vo T s0 pa 12 ∅ ∅ ?_;rw[e12];refine aY (K1 _ _ ?_);clear K1 M1;refine{Pd _,λR hR=>q R [] _ (aj.upd hR _) hR ao ?_};unfold dm;exact .nil
 |bq n i ps b=>
  refine aY (K1 _ _ ?_);clear K1 M1;try dsimp only
  refine ag λM1 K1=>vo T s0 pa 12 ∅ ∅ (aY (K1 _ _ ?_));clear K1 M1;refine{Pd _,λR hR=>q R [] _ (aj.upd hR _) hR ao ?_};unfold dm;exact .nil
theorem zW(T:Txt K mg A):∀d,T.gU.Hz P w base (2*d+3) (sA A d)
 |0=>CU T 0 2 (vG T 0 0 (T.gU.hs (k:=0) gT (λ_ _ _ _ _ _ _ _ _ _ _ h=>h.elim) (λ_ _ _ _ h=>h.elim)))
 |d+1=>CU T (d+1) (2*d+4) (vG T (d+1) (2*d+2) (zW T d))
noncomputable def og:Pt->List Pt
 | .bq _ _ _ b=>b
 |_=>[]
noncomputable def ù(N:Nat->Str):Pt->Str
 | .bq _ i _ _=>N i
 |_=>R7
noncomputable def ŋ(N:Nat->Str):Pt->List Str
 | .bq _ _ ps _=>ps.map N
 |_=>[]
noncomputable def Ej:Pt->Prop
 | .bq _ _ _ _=>True
 |_=>False
noncomputable def fe(N:Nat->Str)(ds:List Pt):List Le:=ds.flatMap λp=>bD (YH (ù N p)) YI (og p)
theorem ud{ts:List Pt}{t:Pt}{i:Nat}(h:ts[i]?=YH t):fe N (ts.take (i+1))=fe N (ts.take i)++bD (YH (ù N t)) YI (og t):=by
 unfold fe;rw[P4,h];simp
theorem DP(h:ts[i]?=YH t):fe N ts=fe N (ts.take i)++bD (YH (ù N t)) YI (og t)++fe N (ts.drop (i+1)):=by
 rw[<-ud h];unfold fe;rw[<-Qj,PQ]
def rK(A:Ö)(N:Nat->Str)(X:Hp)(v:V)(hs ds ms:List Pt):Prop:=∃a dx n0 n1 n2 x0 x1 x2,v=.ref a/\X a=YH (.ins A.Program dx [("heads",.ref n0),("deeds",.ref n1),("main",.ref n2)])/\X n0=YH (.lst x0)/\X n1=YH (.lst x1)/\X n2=YH (.lst x2)/\aJ A N X x0 hs/\aJ A N X x1 ds/\aJ A N X x2 ms
noncomputable def b4(N:Nat->Str)(ds ms:List Pt):List Le:=fe N ds++bD YI YI ms
noncomputable def Ň(N:Nat->Str):Pt->Option Str
 | .leaf _ (.Ŋ i _ _)=>YH (N i)
 | .leaf _ (.own i _)=>YH (N i)
 | .leaf _ (.lt i _)=>YH (N i)
 |_=>YI
noncomputable def pR(p:Pt):Bool:=decide (p.ci=11)||(decide (p.ci=12)||(decide (p.ci=7)||decide (p.ci=8)))
noncomputable def fm(es:List Le):List Str:=(es.filter λe=>pR e.1).map λe=>aU e.1.no
noncomputable def aT(N:Nat->Str)(hs ds ms:List Pt):List Str:=hs.filterMap (Ň N)++(ds.flatMap λp=>ù N p::ŋ N p)++fm (b4 N ds ms)++[("the clock":Str)]
structure Ok(N:Nat->Str)(d:Nat)(hs ds ms:List Pt):Prop where
 bq:∀p∈ds,Ej p/\lH (og p)<=d
 main:lH ms<=d
 nb:Nb (b4 N ds ms)
 ln:(b4 N ds ms).length<=300
 hl:hs.length<=300
 pl:(aT N hs ds ms).length<=900
 nd:(aT N hs ds ms).Nodup
noncomputable abbrev sS(xs:List Str):List V:=xs.map V.str
inductive yx(A:Ö)(d:Nat)(vs:List V)(H:Hp)(Q:VK)(Ä:XK):Prop
 |mk (N X v hs ds ms) (z0:vs=[v]) (z1:aj X H) (z2:rK A N X v hs ds ms) (z3:Ok N d hs ds ms)
  (z7:∀(R ys H'),aj H H'->H R=YI->H' R=YH (.lst ys)->Ly A N X H' (b4 N ds ms) ys->Q (.ref R) H'):yx A d vs H Q Ä
inductive Ck(a:RJ)(R:RJ)(H:Hp)(X:Hp)(ds:List Pt)(i:Nat)(B:St)(Hc:Hp):Prop
 |mk (ys v2):B=[YH (.ref a),YH (.ref R),v2]->aj H Hc->Hc R=YH (.lst ys)->Ly A N X Hc (fe N (ds.take i)) ys->Ck a R H X ds i B Hc
theorem Bx(T:Txt K mg A) (d):T.ku.Hz P w base (2*d+4) (yx A d):=by
 refine T.ku.hs (k:=2*d+3) gx (λf Ã A' outer s H vs Q E' hr hu h=>?_);obtain⟨N,X,v,hs,ds,ms,rfl,s0,⟨a,dx,n0,n1,n2,x0,x1,x2,rfl,ha,e0,e1,e2,p0,p1,p2⟩,ok,q⟩:=h;have ln:=ok.ln;have nb:=ok.nb;unfold b4 at ln nb;rw[OX]at ln;refine⟨_,(ae (Ç 1 gx.nd (aI ab))
  (ae (bS RW rfl (bT (aK (fv 0) rfl)) (Ð (i:=2) gx.nd rfl)
   (ai (aR (gc (fv 1) ((ak (hj:=by lia) (zW T d) hr (aK (fv 2) rfl^aK (fv 2) rfl^bX^ab))^ab)))))
  (ai (aD (az aQ (fv 1) (ak (hj:=by lia) (zW T d) hr (aK (fv 0) rfl^bX^bX^ab))))))),?_⟩
 refine ag λM1 K1=>{Pd _,λR hR=>?_};obtain⟨s1,eR⟩:=É hR (HO.lst []);generalize upd H R _=H1 at s1 eR⊢;refine K1 _ _ ?_;clear K1 M1;try dsimp only
 refine ag λM1 K1=>Ø ((s0.trans s1) _ _ ha) T.cW.cl T.cJ rfl (Pg {{_,À.of ((s0.trans s1) _ _ e1)},bQ (K:=K) (xs:=x1) ((Ck (A:=A) (N:=N) a R H X ds)) {[],YI,rfl,s1,eR,.nil} (λi B Hc _ zz=>by obtain⟨_,_,_,z,_,_⟩:=zz;exact À.of ((s0.trans z) _ _ e1)) ?_ ?_})
 ·rintro i v B Hc hv ⟨ys,v2,rfl,sc,Û,ly⟩;obtain⟨t,ht,pa⟩:=p1.get hv;have mt:t∈ds:=Pj ht;obtain⟨dt,dd⟩:=ok.bq t mt;cases t with
  |bq n i' ps b=>
   unfold bf at pa;obtain⟨a',dx',pp,pb,xb,rfl,h1,h2,h3,h4⟩:=pa;have e:=DP (N:=N) ht;have le:(fe N (ds.take i)).length+(bD (YH (N i')) YI b).length<=300:=by
    have:=congrArg TF e;simp only[OX]at this;have z:bD (YH (ù N (.bq n i' ps b))) YI (og (.bq n i' ps b))=bD (YH (N i')) YI b:=rfl;rw[z]at this;lia
   have nbb:Nb (bD (YH (N i')) YI b):=λy hy=>nb y (Ph _ (by rw[e];exact Ph _ (Pc _ hy)));have lly:=RT ly;refine{Pg {rfl,_,À.of Û},Ø ((s0.trans sc) _ _ h1) T.cu.cl T.fC rfl (Ø ((s0.trans sc) _ _ h1) T.cu.cl T.cV rfl {N,X,pb,xb,YH (N i'),YI,b,rfl,s0.trans sc,h3,h4,dd,nbb,(),λR2 zs He s3 hR2 ī l3=>?_})};have lz:=RT l3;refine{_,_,_,_,rfl,rfl,s3 _ _ Û,ī,sz (),{_,_,rfl,aj.out (sc.trans s3) hR _,ao,?_}};rw[ud ht];have dR:∀x w,He x=YH (.tup w)->upd He R (.lst (ys++zs)) x=YH (.tup w):=λx w e=>au (λy=>by rw[y,s3 _ _ Û]at e;cases e) e;exact Paired.two (ly.same λx w e=>dR x w (s3 _ _ e)) (l3.same dR)
  |_=>exact dt.elim
 rintro B Hc ⟨ys,v2,rfl,sc,Û,ly⟩;rw[show ds.take x1.length=ds by rw[p1.len];exact PM]at ly;refine K1 _ _ ?_;have lly:=RT ly;try dsimp only
 refine Ø ((s0.trans sc) _ _ ha) T.cW.cl T.iZ rfl {N,X,n2,x2,YI,YI,ms,rfl,s0.trans sc,e2,p2,ok.main,λy hy=>nb y (Pc _ hy),(),λR2 zs He s3 hR2 ī l3=>?_};have lz:=RT l3;refine{R,R2,_,_,rfl,rfl,s3 _ _ Û,ī,sz (),λR3 hR3=>?_};have s4:aj He (upd He R3 (.lst (ys++zs))):=aj.upd hR3 _;exact q R3 _ _ ((sc.trans s3).trans s4) (aj.free (sc.trans s3) hR3) ao (Paired.two (ly.same λx w e=>s4 _ _ (s3 _ _ e)) (l3.same λx w e=>s4 _ _ e))
inductive uL(A:Ö)(vs:List V)(H:Hp)(Q:VK)(Ä:XK):Prop
 |mk (N X v t):vs=[v]->aj X H->bf A N X v t->Q (.bl (pR t)) H->uL A vs H Q Ä
theorem D3(T:Txt K mg A):T.sV.Hz P w base 1 (uL A):=by
 refine T.sV.hs zj (λf Ã A' outer s H vs Q E' hr hu h=>?_);obtain⟨N,X,v,t,rfl,s0,pa,q⟩:=h;refine{_,(ai (aD (Gr (Þ aX T.aG (fv 0^bF T.cb.mg^ab)) (Gr (Þ aX T.aG (fv 0^bF T.bA.mg^ab)) (Gr (Þ aX T.aG (fv 0^bF T.dw.mg^ab)) (L8 (Þ aX T.aG (fv 0^bF T.cy.mg^ab)))))))),?_};unfold pR at q;refine xY T s0 pa 11 ∅ ∅ {_,rfl,?_};cases e1:decide (t.ci=11)with
 |true=>rw[e1]at q;exact bW q
 |false=>
 rw[e1]at q;refine aY (xY T s0 pa 12 ∅ ∅ {_,rfl,?_});cases e2:decide (t.ci=12)with
 |true=>rw[e2]at q;exact bW q
 |false=>
 rw[e2]at q;refine aY (xY T s0 pa 7 ∅ ∅ {_,rfl,?_});cases e3:decide (t.ci=7)with
 |true=>rw[e3]at q;exact bW q
 |false=>
 rw[e3]at q;exact aY (xY T s0 pa 8 ∅ ∅ q)
def Sm(M:List RJ)(H H':Hp):Prop:=∀a o,a∉M->H a=YH o->H' a=YH o
theorem Sm.refl (M H):Sm M H H:=λ_ _ _ h=>h
theorem Sm.trans(h:Sm M H H')(h':Sm M H' H''):Sm M H H'':=λa o m e=>h' a o m (h a o m e)
theorem Sm.new(s:aj H H'):Sm M H H':=λa o _ e=>s a o e
theorem Sm.at(m:a∈M) (o):Sm M H (upd H a o):=λb u hb e=>au (λz=>hb (z▸m)) e
theorem Sm.same(h:Sm M H H')(s:aj X H)(n:∀m∈M,X m=YI):aj X H':=λa o e=>h a o (λm=>by rw[n a m]at e;cases e) (s a o e)
theorem Md (N t):(Ň N t).isSome=(decide (t.ci=2)||(decide (t.ci=3)||decide (t.ci=4))):=by
 cases t with
 |leaf n r=>cases r<;>rfl
 |_=>rfl
theorem AV(T:Txt K mg A)(s:aj X H)(h:bf A N X v t)(e:Ň N t=YH x)(q:Q (.str x) H):om K "name" v H Q:=by
 cases t with
 |leaf n r=>
  unfold bf at h;obtain⟨a,dx,p,rfl,h1,h2⟩:=h;cases r with
  |Ŋ i _ _=>cases e;exact Ø (s _ _ h1) T.cP.cl T.eG rfl q
  |own i _=>cases e;exact Ø (s _ _ h1) T.iF.cl T.jG rfl q
  |lt i _=>cases e;exact Ø (s _ _ h1) T.eg.cl T.fZ rfl q
  |_=>cases e
 |_=>cases e
theorem IU{α β:Type}(f:α->Option β){xs:List α}{i}{x:α}(h:xs[i]?=YH x):(xs.take (i+1)).filterMap f=(xs.take i).filterMap f++(f x).toList:=by
 rw[P4,h,List.filterMap_append];show _++List.filterMap f [x]=_;rw[Qr];cases f x<;>rfl
inductive vO(A:Ö)(vs:List V)(H:Hp)(Q:VK)(Ä:XK):Prop
 |mk (N X L xs hs) (z0:vs=[.ref L]) (z1:aj X H) (z2:X L=YH (.lst xs)) (z3:aJ A N X xs hs) (z4:hs.length<=900)
  (z5:∀(R H'),aj H H'->H R=YI->H' R=YH (.lst (sS (hs.filterMap (Ň N))))->Q (.ref R) H'):vO A vs H Q Ä
inductive Br(L:RJ)(R:RJ)(H:Hp)(hs:List Pt)(i:Nat)(B:St)(Hc:Hp):Prop
 |mk (v2):B=[YH (.ref L),YH (.ref R),v2]->aj H Hc->Hc R=YH (.lst (sS ((hs.take i).filterMap (Ň N))))->Br L R H hs i B Hc
theorem Gy(T:Txt K mg A):T.mH.Hz P w base 1 (vO A):=by
 refine T.mH.hs gZ (λf Ã A' outer s H vs Q E' hr hu h=>?_);obtain⟨N,X,L,xs,hs,rfl,s0,hL,pt,ln,q⟩:=h;refine⟨_,(ae (Ç 1 gZ.nd (aI ab))
  (ae (bS RW rfl (bT (fv 0)) (Ð (i:=2) gZ.nd rfl)
   (ai (aS (PW.pt (pw_or (bh (Þ aX T.aG (fv 2^bF T.cP.mg^ab)) (λ_=>rfl)) (pw_or (bh (Þ aX T.aG (fv 2^bF T.iF.mg^ab)) (λ_=>rfl)) (pw_or1 (bh (Þ aX T.aG (fv 2^bF T.eg.mg^ab)) (λ_=>rfl))))))
    (ai (aR (bB (fv 1) (aK (fv 2) rfl^ab))))
    aF)))
  (ai (aD (fv 1))))),?_⟩
 refine ag λM1 K1=>{Pd _,λR hR=>?_};obtain⟨s1,e1⟩:=É hR (HO.lst []);generalize upd H R _=H1 at s1 e1⊢;refine K1 _ _ ?_;clear K1 M1;try dsimp only
 refine ag λM1 K1=>Pg {{_,À.of ((s0.trans s1) _ _ hL)},bQ (K:=K) (xs:=xs) ((Br (N:=N) L R H hs)) ⟨YI,rfl,s1,e1⟩ (λi B Hc _ zz=>by obtain⟨_,_,z,_⟩:=zz;exact À.of ((s0.trans z) _ _ hL)) ?_ ?_}
 ·rintro i v B Hc hv ⟨v2,rfl,sc,Û⟩;obtain⟨t,ht,pa⟩:=pt.get hv;have hi:=Md N t;have st:=IU (Ň N) ht;have il:i<hs.length:=(Pl.mp ht).1;have l1:=Vn (Ň N) (hs.take i);rw[PV]at l1;have yes:∀x,Ň N t=YH x->upd Hc R (.lst (sS ((hs.take i).filterMap (Ň N))++[.str x])) R=YH (.lst (sS ((hs.take (i+1)).filterMap (Ň N)))):=λx e=>by
   rw[ao,st,e];simp[sS]
  have no:Ň N t=YI->Hc R=YH (.lst (sS ((hs.take (i+1)).filterMap (Ň N)))):=λe=>by
   rw[st,e];simpa using Û
  try dsimp only
  have s2:=s0.trans sc;cases e:Ň N t with
  |none=>
   rw[e]at hi;have c2:t.ci≠2:=λz=>by rw[z]at hi;cases hi
   have c3:t.ci≠3:=λz=>by rw[z]at hi;cases hi
   have c4:t.ci≠4:=λz=>by rw[z]at hi;cases hi
   exact gL T s2 pa c2 (aY (gL T s2 pa c3 (aY (gL T s2 pa c4 (aY {_,rfl,sc,no e})))))
  |some x=>
   rw[e]at hi;have lz:(sS ((hs.take i).filterMap (Ň N))).length<sizeLine:=aH (by rw[OZ];lia);by_cases c2:t.ci=2
   ·exact kD T s2 pa c2 (bW {Pg {rfl,_,À.of Û},AV T s2 pa e {_,_,_,rfl,rfl,Û,lz,_,rfl,aj.out sc hR _,yes x e}})
   by_cases c3:t.ci=3
   ·exact gL T s2 pa c2 (aY (kD T s2 pa c3 (bW {Pg {rfl,_,À.of Û},AV T s2 pa e {_,_,_,rfl,rfl,Û,lz,_,rfl,aj.out sc hR _,yes x e}})))
   by_cases c4:t.ci=4
   ·exact gL T s2 pa c2 (aY (gL T s2 pa c3 (aY (kD T s2 pa c4 (bW {Pg {rfl,_,À.of Û},AV T s2 pa e {_,_,_,rfl,rfl,Û,lz,_,rfl,aj.out sc hR _,yes x e}})))))
   rw[decide_eq_false c2,decide_eq_false c3,decide_eq_false c4]at hi;cases hi
 rintro B Hc ⟨v2,rfl,sc,Û⟩;rw[show hs.take xs.length=hs by rw[pt.len];exact PM]at Û;exact K1 _ _ (q R Hc sc hR Û)
theorem pK{α β:Type}(f:α->List β){xs:List α}{i}{x:α}(h:xs[i]?=YH x):(xs.take (i+1)).flatMap f=(xs.take i).flatMap f++f x:=by
 rw[P4,h];simp
theorem Ep{α β:Type}(f:α->List β){xs:List α}{i}{x:α}(h:xs[i]?=YH x):((xs.take i).flatMap f).length+(f x).length<=(xs.flatMap f).length:=by
 have e:xs.flatMap f=(xs.take (i+1)).flatMap f++(xs.drop (i+1)).flatMap f:=by rw[<-Qj,PQ]
 rw[e,pK f h];simp only[OX];lia
theorem An{es:List Le}{i:Nat}{e:Le}(h:es[i]?=YH e):fm (es.take (i+1))=fm (es.take i)++(if pR e.1=true then[aU e.1.no]else[]):=by
 unfold fm;rw[P4,h,P8,PB];congr 1;show List.map _ (List.filter _ [e])=_;rw[Qm,Qz];split<;>rfl
theorem vA (es):(fm es).length<=es.length:=by
 unfold fm;rw[OZ];exact Qd _ _
inductive wc(A:Ö)(d:Nat)(vs:List V)(H:Hp)(Q:VK)(Ä:XK):Prop
 |mk (N X v hs ds ms) (z0:vs=[v]) (z1:aj X H) (z2:rK A N X v hs ds ms) (z3:Ok N d hs ds ms)
  (z7:∀(R H'),aj H H'->H R=YI->H' R=YH (.lst (sS (aT N hs ds ms)))->Q (.ref R) H'):wc A d vs H Q Ä
inductive Cc(a:RJ)(R:RJ)(H:Hp)(B0:List Str)(ds:List Pt)(i:Nat)(B:St)(Hc:Hp):Prop
 |mk (v2):B=[YH (.ref a),YH (.ref R),v2,YI,YI,YI]->aj H Hc->Hc R=YH (.lst (sS (B0++(ds.take i).flatMap λp=>ù N p::ŋ N p)))->Cc a R H B0 ds i B Hc
inductive Bt(a:RJ)(R:RJ)(v2:Option V)(H2:Hp)(B1:List Str)(es:List Le)(i:Nat)(B:St)(Hd:Hp):Prop
 |mk (v3 v4 v5):B=[YH (.ref a),YH (.ref R),v2,v3,v4,v5]->Sm [R] H2 Hd->Hd R=YH (.lst (sS (B1++fm (es.take i))))->Bt a R v2 H2 B1 es i B Hd
theorem tU(T:Txt K mg A) (d):T.places.Hz P w base (2*d+5) (wc A d):=by
 refine T.places.hs (k:=2*d+4) gW (λf Ã A' outer s H vs Q E' hr hu h=>?_);obtain⟨N,X,v,hs,ds,ms,rfl,s0,pg,ok,q⟩:=h;obtain⟨a,dx,n0,n1,n2,x0,x1,x2,rfl,ha,e0,e1,e2,p0,p1,p2⟩:=id pg;refine⟨_,(ae (Ç 1 gW.nd (ak (hj:=by lia) (Gy T) hr (aK (fv 0) rfl^ab)))
  (ae (bS RW rfl (bT (aK (fv 0) rfl)) (Ð (i:=2) gW.nd rfl)
   (ai (aR (gc (fv 1) (az aQ (aI (aK (fv 2) rfl^ab)) (aK (fv 2) rfl)^ab)))))
  (ae (bS RW rfl (bT (ak (hj:=by lia) (Bx T d) hr (fv 0^ab))) (dj rfl (aN (Ð (i:=3) gW.nd rfl) (aN (Ð (i:=4) gW.nd rfl) (aN (Ð (i:=5) gW.nd rfl) cc))))
   (ai (aS (bh (ak (hj:=by lia) (D3 T) hr (fv 3^ab)) (λ_=>rfl))
    (ai (aR (bB (fv 1) ((ak (hj:=by lia) (pJ T) hr (aK (fv 3) rfl^ab))^ab))))
    aF)))
  (ai (aD (az aQ (fv 1) (aI (xE T.rY^ab)))))))),?_⟩
 have pl:=ok.pl;unfold aT at pl q;simp only[OX,O3]at pl;have hl:=ok.hl;refine ag λM1 K1=>Ø (s0 _ _ ha) T.cW.cl T.eI rfl {N,X,n0,x0,hs,rfl,s0,e0,p0,(),λR H1 s1 hR eR=>K1 _ _ ?_};clear K1 M1;try dsimp only
 generalize hs.filterMap (Ň N)=B0 at eR pl q;refine ag λM1 K1=>Ø ((s0.trans s1) _ _ ha) T.cW.cl T.cJ rfl (Pg {{_,À.of ((s0.trans s1) _ _ e1)},bQ (K:=K) (xs:=x1) ((Cc (N:=N) a R H B0 ds)) {YI,rfl,s1,by rw[RB,XA,Pu];exact eR} (λi B Hc _ zz=>by obtain⟨_,_,z,_⟩:=zz;exact À.of ((s0.trans z) _ _ e1)) ?_ ?_})
 ·rintro i v B Hc hv ⟨v2,rfl,sc,Û⟩;obtain⟨t,ht,pa⟩:=p1.get hv;have mt:t∈ds:=Pj ht;obtain⟨dt,dd⟩:=ok.bq t mt;have st:=pK (λp=>ù N p::ŋ N p) ht;have sl:=Ep (λp=>ù N p::ŋ N p) ht;cases t with
  |bq n i' ps b=>
   unfold bf at pa;obtain⟨a',dx',pp,pb,xb,rfl,h1,h2,h3,h4⟩:=pa;have sX:=s0.trans sc;have lp:B0.length+((ds.take i).flatMap λp=>ù N p::ŋ N p).length+(1+ps.length)<=900:=by
    have z:(ù N (Pt.bq n i' ps b)::ŋ N (Pt.bq n i' ps b)).length=ps.length+1:=by simp[ŋ]
    rw[z]at sl;lia
   refine{Pg {rfl,_,À.of Û},Ø (sX _ _ h1) T.cu.cl T.cV rfl {by show 1<=sizeLine;decide,λq1 hq1=>?_}};have n1:q1≠R:=YJ hq1 Û;have sq:aj Hc (upd Hc q1 (.lst [.str (N i')])):=aj.upd hq1 _;refine Ø ((sX.trans sq) _ _ h1) T.cu.cl T.eE rfl {q1,pp,_,_,rfl,rfl,ao,(sX.trans sq) _ _ h2,sz (by rw[OZ,O3];lia),λq2 hq2=>?_};have sq2:=aj.upd hq2 (.lst ([V.str (N i')]++nV N ps));have n2:q2≠R:=YJ hq2 (sq _ _ Û);refine{_,_,_,_,rfl,rfl,sq2 _ _ (sq _ _ Û),ao,sz (by simp only[OX,OZ,O3];lia),{_,rfl,aj.out ((sc.trans sq).trans sq2) hR _,?_}};rw[ao,st];simp[sS,ù,ŋ,nV,Xo]
  |_=>exact dt.elim
 rintro B Hc ⟨v2,rfl,sc,Û⟩;rw[show ds.take x1.length=ds by rw[p1.len];exact PM]at Û;refine K1 _ _ ?_;clear K1 M1;try dsimp only
 rw[<-OX]at pl;generalize B0++(ds.flatMap λp=>ù N p::ŋ N p)=B1 at Û pl q;refine ag λM1 K1=>{N,X,.ref a,hs,ds,ms,rfl,s0.trans sc,pg,ok,λL ys H2 s2 hL eL ly=>?_};have nL:L≠R:=YJ hL Û;have nb:=ok.nb;generalize b4 N ds ms=es at ly nb pl q;have lly:=RT ly;refine Pg {{_,À.of eL},bQ (K:=K) (xs:=ys) ((Bt a R v2 H2 B1 es)) {YI,YI,YI,rfl,Sm.refl _ _,by rw[RB];show _=YH (HO.lst (sS (B1++[])));rw[Pu];exact s2 _ _ Û} (λi B Hd _ zz=>by obtain⟨_,_,_,_,z,_⟩:=zz;exact À.of (z _ _ (λm=>nL (OY.mp m)) eL)) ?_ ?_}
 ·rintro i y B Hd hy ⟨v3,v4,v5,rfl,sd,Ŵ⟩;obtain⟨e,he,tp,v,rfl,ũ,pa⟩:=cq ly hy;have etp':=sd _ _ (λm=>by rw[OY.mp m,s2 _ _ Û]at ũ;cases ũ) ũ;have sX:aj X Hd:=sd.same ((s0.trans sc).trans s2) (λm hm=>by
   rw[OY.mp hm];exact aj.free s0 hR)
  have ne:=nb e (Pj he);have st:=An he;have rl:=vA (es.take i);have rl2:(fm (es.take i)).length<=(fm es).length:=by
   have:fm es=fm (es.take i)++fm (es.drop i):=by
    unfold fm;rw[<-PB,<-P8,PQ]
   rw[this];simp
  try dsimp only
  refine{tp,_,rfl,È.of etp',rfl,_,_,rfl,_,_,rfl,_,_,rfl,rfl,{N,X,v,e.1,rfl,sX,pa,_,rfl,?_}};cases c:pR e.1 with
  |true=>
   rw[c,if_pos rfl]at st;refine bW {Pg {rfl,_,À.of Ŵ},eO T sX pa {_,rfl,ne.1,ne.2,{_,_,_,rfl,rfl,Ŵ,aH (by simp only[sS,OZ,OX];lia),{_,_,_,rfl,sd.trans (Sm.at (OY.mpr rfl) _),?_}}}};rw[ao,st];simp[sS]
  |false=>
   rw[c,if_neg Pa,Pu]at st;exact aY {_,_,_,rfl,sd,by rw[st];exact Ŵ}
 rintro B Hd ⟨v3,v4,v5,rfl,sd,Ŵ⟩;rw[show es.take ys.length=es by rw[<-lly];exact PM]at Ŵ;refine K1 _ _ ?_;have s3:aj H Hd:=sd.same (sc.trans s2) (λm hm=>by rw[OY.mp hm];exact hR);refine{by show 1<=sizeLine;decide,λq1 hq1=>?_};have sq:aj Hd (upd Hd q1 (.lst [.str "the clock"])):=aj.upd hq1 _;refine{R,q1,_,_,rfl,rfl,sq _ _ Ŵ,ao,sz (by simp only[sS,OZ,OX,O3];lia),λq2 hq2=>q q2 _ ((s3.trans sq).trans (aj.upd hq2 _)) (aj.free (s3.trans sq) hq2) ?_};rw[ao];simp[sS]
theorem Ga:T3 K (.type "str") (.type "str")=YH true:=by kernel_rfl!
theorem Ff:T3 K (.type "int") (.type "str")=YH false:=by kernel_rfl!
noncomputable def ę(N:Nat->Str)(acc:List Str):Th->List Str
 | .i _=>acc
 | .x a=>if N a∈acc then acc else acc++[N a]
noncomputable def Õ(N:Nat->Str)(ts:List Th):List Str:=ts.foldl (ę N) []
theorem nO(N:Nat->Str):∀(ts:List Th)(acc:List Str),(ts.foldl (ę N) acc).length<=ts.length+acc.length
 | [],acc=>by simp
 |t::ts,acc=>by
  have h:=nO N ts (ę N acc t);have h2:(ę N acc t).length<=acc.length+1:=by
   cases t with
   |i n=>exact QI _
   |x a=>unfold ę;dsimp only;split<;>simp
  rw[P9,O6];lia
theorem pk (x acc):č (.str x) (sS acc)=decide (x∈acc):=by
 unfold č sS;rw[List.any_map,Qw,Rh,decide_eq_true_iff];constructor
 ·rintro⟨y,m,e⟩;have e:decide (y=x)=true:=e;exact of_decide_eq_true e▸m
 intro m;exact⟨x,m,decide_eq_true rfl⟩
theorem qi (acc):(sS acc).all lN=true:=by
 unfold sS;rw[List.all_map,QW];exact λ_ _=>rfl
noncomputable def æ:Val->List Th
 | .one a=>[a]
 | .op a _ b=>[a,b]
theorem qr (N v):gM (vV N v)=(æ v).map (Th.v N):=by
 cases v<;>kernel_rfl
inductive yQ(K:RS)(vs:List V)(H:Hp)(Q:VK)(Ä:XK):Prop
 |mk (N t xs ts) (z0:vs=[.ref t]) (z1:È K H t xs) (z2:gM xs=ts.map (Th.v N)) (z3:ts.length<=100)
  (z4:∀(p H'),H p=YI->aj H H'->H' p=YH (.lst (sS (Õ N ts)))->Q (.ref p) H'):yQ K vs H Q Ä
theorem nF(T:Txt K mg A):T.tE.Hz P w base 1 (yQ K):=by
 refine T.tE.hs nE (λf Ã A' outer s H vs Q E' hr hu h=>?_);obtain⟨N,t,xs,ts,rfl,hT,ev,hl,q⟩:=h;refine⟨_,(ae (Ç 1 nE.nd (aI ab))
  (ae (bS RW rfl (bT (EL (fv 0))) (Ð (i:=2) nE.nd rfl)
   (ai (aS (PW.pt (pw_and (bh (Þ aX T.aG (fv 2^(pY (v:=.ty "str") rfl T.zD (by boot_by_name) rfl)^ab)) (λ_=>rfl)) (pw_and1 (Í (iy hu) (fv 2) (fv 1) ((by with_unfolding_all rfl))))))
    (ai (aR (bB (fv 1) (fv 2^ab))))
    aF)))
  (ai (aD (fv 1))))),?_⟩
 refine{(by decide:0<=sizeLine),λp hp=>{t,xs,rfl,(aj.upd hp _).tup hT,λe he=>Qs {{_,È.of ao},?_}}};have hpe:p≠e:=λz=>by
  rw[<-z,ao]at he;cases he
 rw[ev];refine IP (K:=K) (xs:=ts.map (Th.v N)) (λi B H3=>aj H H3/\H3 e=YH (.tup (ts.map (Th.v N)))/\H3 p=YH (.lst (sS (Õ N (ts.take i))))/\∃v,B=[YH (.ref t),YH (.ref p),v]) {(aj.upd hp _).trans (aj.upd he _),ao,?_,YI,rfl} (λi B H3 _ h=>È.of h.2.1) ?_ ?_
 ·rw[aL hpe,ao];rfl
 ·rintro i x B H3 hi ⟨s3,h3e,ň,v,rfl⟩;rw[Pk]at hi;cases ht:ts[i]? with
  |none=>rw[ht]at hi;cases hi
  |some th=>
  rw[ht]at hi;cases hi;have nx:Õ N (ts.take (i+1))=ę N (Õ N (ts.take i)) th:=gX (ę N) [] ht;have ll:=nO N (ts.take i) [];rw[PV,P2]at ll;cases th with
  |i n=>
   exact{_,_,_,false,rfl,(λz=>by cases z),.int n,Ff,false,rfl,aY (aY {s3,h3e,by rw[ň,nx];rfl,_,rfl})}
  |x a=>
   refine{_,_,_,true,rfl,(λz=>by cases z),.str _,Ga,true,rfl,bW (Pg {_,Pg (À.of ň),rfl,qi _,_,rfl,?_})};have nx:Õ N (ts.take (i+1))=if N a∈Õ N (ts.take i)then Õ N (ts.take i)else Õ N (ts.take i)++[N a]:=nx
   by_cases m:N a∈Õ N (ts.take i)
   ·rw[if_pos m]at nx;exact bg (λc=>absurd c (by show ¬ (!č (V.str (N a)) (sS (Õ N (ts.take i))))=true;rw[pk,decide_eq_true m];decide)) (λ_=>{s3,h3e,by rw[ň,nx],_,rfl})
   rw[if_neg m]at nx;refine bg (λ_=>?_) (λc=>absurd (by show(!č (V.str (N a)) (sS (Õ N (ts.take i))))=true;rw[pk,decide_eq_false m];rfl) c);refine{Pg {rfl,_,À.of ň},_,_,_,rfl,rfl,ň,aH (by rw[OZ];unfold Õ;lia),{aj.out s3 hp _,au hpe.symm h3e,?_,_,rfl}};rw[ao,nx];simp[sS,Th.v]
 rintro B H3 ⟨s3,h3e,ň,v,rfl⟩;rw[show ts.take (ts.map (Th.v N)).length=ts by rw[OZ];exact PM]at ň;exact q p H3 hp s3 ň
noncomputable def Ĥ:Pt->List Th
 | .leaf _ (.set _ v)=>æ v
 | .leaf _ (.snd _ v)=>æ v
 | .leaf _ (.put _ t v)=>t::æ v
 | .iff _ v _ _ _ _=>æ v
 | .loop _ t _ _ _ _=>[t]
 |_=>[]
theorem gP (v):(æ v).length<=2:=by cases v<;>simp[æ]
theorem CP (t):(Ĥ t).length<=3:=by
 cases t with
 |leaf n r=>
  cases r with
  |set _ v=>exact QT (gP v)
  |snd _ v=>exact QT (gP v)
  |put _ _ v=>exact Rx (gP v)
  |_=>simp[Ĥ]
 |iff n v _ _ _ _=>exact QT (gP v)
 |_=>simp[Ĥ]
noncomputable def i9(acc:List Str)(x:Str):List Str:=if x∈acc then acc else acc++[x]
noncomputable def cZ(acc xs:List Str):List Str:=xs.foldl i9 acc
theorem vY:∀xs acc,(cZ acc xs).length<=xs.length+acc.length
 | [],acc=>by simp[cZ]
 |x::xs,acc=>by
  have h:=vY xs (i9 acc x);have h2:(i9 acc x).length<=acc.length+1:=by
   unfold i9;split<;>simp
  show(cZ (i9 acc x) xs).length<=_;rw[O6];lia
theorem Fw (N t v):cZ [] (Õ N [t]++Õ N (æ v))=Õ N (t::æ v):=by
 cases t with
 |i n=>
  show cZ [] ([]++Õ N (æ v))=Õ N (æ v);rw[Pz];cases v with
  |one b=>cases b<;>simp[æ,Õ,ę,cZ,i9]
  |op b x c=>
   cases b with
   |i m=>cases c<;>simp[æ,Õ,ę,cZ,i9]
   |x b=>
    cases c with
    |i m=>simp[æ,Õ,ę,cZ,i9]
    |x c=>
     by_cases e:N c=N b
     ·simp[æ,Õ,ę,cZ,i9,e]
     simp[æ,Õ,ę,cZ,i9,e]
 |x a=>
  cases v with
  |one b=>
   cases b with
   |i m=>simp[æ,Õ,ę,cZ,i9]
   |x b=>simp[æ,Õ,ę,cZ,i9]
  |op b y c=>
   cases b with
   |i m=>cases c<;>simp[æ,Õ,ę,cZ,i9]
   |x b=>
    cases c with
    |i m=>simp[æ,Õ,ę,cZ,i9]
    |x c=>
     by_cases e:N c=N b
     ·by_cases e2:N b=N a
      ·simp[æ,Õ,ę,cZ,i9,e,e2]
      simp[æ,Õ,ę,cZ,i9,e,e2]
     by_cases e2:N b=N a
     ·have e3:¬ N c=N a:=λz=>e (z.trans e2.symm);simp[æ,Õ,ę,cZ,i9,e2,e3]
     by_cases e3:N c=N a
     ·have e4:¬ N a=N b:=λz=>e2 z.symm;simp[æ,Õ,ę,cZ,i9,e2,e3,e4]
     simp[æ,Õ,ę,cZ,i9,e,e2,e3]
inductive dv(A:Ö)(i:Nat)(vs:List V)(H:Hp)(Q:VK)(Ä:XK):Prop
 |mk (N X v t) (z0:vs=[v]) (z1:aj X H) (z2:bf A N X v t) (z3:t.ci=i)
  (z4:∀(p H'),H p=YI->aj H H'->H' p=YH (.lst (sS (Õ N (Ĥ t))))->Q (.ref p) H'):dv A i vs H Q Ä
inductive CS(K:RS)(vs:List V)(H:Hp)(Q:VK)(Ä:XK):Prop
 |mk (t xs) (z0:vs=[.ref t]) (z1:À K H t (sS xs)) (z3:xs.length<=100)
  (z4:∀(p H'),H p=YI->aj H H'->H' p=YH (.lst (sS (cZ [] xs)))->Q (.ref p) H'):CS K vs H Q Ä
theorem KL(T:Txt K mg A):T.qO.Hz P w base 1 (CS K):=by
 refine T.qO.hs kH (λf Ã A' outer s H vs Q E' hr hu h=>?_);obtain⟨t,xs,rfl,hT,hl,q⟩:=h;refine⟨_,(ae (Ç 1 kH.nd (aI ab))
  (ae (bS RW rfl (bT (fv 0)) (Ð (i:=2) kH.nd rfl)
   (ai (aS (Í (iy hu) (fv 2) (fv 1) ((by with_unfolding_all rfl)))
    (ai (aR (bB (fv 1) (fv 2^ab))))
    aF)))
  (ai (aD (fv 1))))),?_⟩
 refine ag λM1 K1=>{Pd _,λp hp=>?_};obtain⟨s1,e1⟩:=É hp (HO.lst []);generalize upd H p _=H1 at s1 e1⊢;refine K1 _ _ ?_;clear K1 M1;try dsimp only
 refine ag λM1 K1=>Pg {{_,s1.seq hT},bQ (K:=K) (xs:=sS xs) (λi B H3=>aj H H3/\H3 p=YH (.lst (sS (cZ [] (xs.take i))))/\∃v,B=[YH (.ref t),YH (.ref p),v]) ⟨s1,e1,YI,rfl⟩ (λi B H3 _ h=>h.1.seq hT) ?_ ?_}
 ·rintro i x B H3 hi ⟨s3,ň,v,rfl⟩;rw[Pk]at hi;cases ht:xs[i]? with
  |none=>rw[ht]at hi;cases hi
  |some y=>
  rw[ht]at hi;cases hi;have nx:cZ [] (xs.take (i+1))=i9 (cZ [] (xs.take i)) y:=gX i9 [] ht;have ll:=vY (xs.take i) [];rw[PV,P2]at ll;try dsimp only
  refine Pg {_,Pg (À.of ň),rfl,qi _,_,rfl,?_};unfold i9 at nx;by_cases m:y∈cZ [] (xs.take i)
  ·rw[if_pos m]at nx;exact bg (λc=>absurd c (by show ¬ (!č (V.str y) (sS (cZ [] (xs.take i))))=true;rw[pk,decide_eq_true m];decide)) (λ_=>{s3,by rw[ň,nx],_,rfl})
  rw[if_neg m]at nx;refine bg (λ_=>?_) (λc=>absurd (by show(!č (V.str y) (sS (cZ [] (xs.take i))))=true;rw[pk,decide_eq_false m];rfl) c);refine{Pg {rfl,_,À.of ň},_,_,_,rfl,rfl,ň,aH (by rw[OZ];lia),{aj.out s3 hp _,?_,_,rfl}};rw[ao,nx];simp[sS]
 rintro B H3 ⟨s3,ň,v,rfl⟩;rw[show xs.take (sS xs).length=xs by rw[OZ];exact PM]at ň;exact K1 _ _ (q p H3 hp s3 ň)
theorem tI(T:Txt K mg A):T.iV.Hz P w mg base 2 (dv A 5):=by
 refine T.iV.hs (k:=1) rL (λf Ã A' outer s H vs Q E' hr hu h=>?_);obtain⟨N,X,v,t,rfl,s0,pa,ec,q⟩:=h;refine{_,(ai (aD (ak (nF T) hr (aK (fv 0) rfl^ab)))),?_};cases t with
 |leaf n r=>
  unfold bf at pa;obtain⟨a,dx,p,rfl,h1,h2⟩:=pa;cases r with
  |set h val=>exact Ø (s0 _ _ h1) T.ft.cl T.hX rfl {N,p,_,æ val,rfl,È.of (s0 _ _ (h2 _ rfl)),qr N val,Pf (gP val) ∅,q}
  |_=>cases ec
 |_=>cases ec
theorem tP(T:Txt K mg A):T.ik.Hz P w mg base 2 (dv A 6):=by
 refine T.ik.hs (k:=1) rh (λf Ã A' outer s H vs Q E' hr hu h=>?_);obtain⟨N,X,v,t,rfl,s0,pa,ec,q⟩:=h;refine{_,(ai (aD (ak (KL T) hr (az aQ (ak (nF T) hr (aV (aK (fv 0) rfl^ab)^ab)) (ak (nF T) hr (aK (fv 0) rfl^ab))^ab)))),?_};cases t with
 |leaf n r=>
  unfold bf at pa;obtain⟨a,dx,p,rfl,h1,h2⟩:=pa;cases r with
  |put h pl val=>
   refine Ø (s0 _ _ h1) T.dZ.cl T.iW rfl {by show 1<=sizeLine;decide,λtp ß=>?_};obtain⟨s1,e1⟩:=É ß (HO.tup [pl.v N]);generalize upd H tp _=H1 at s1 e1⊢;refine{N,tp,_,[pl],rfl,È.of e1,qr N (.one pl),by simp,λL1 H2 f2 s2 e2=>?_};have ż:=s1.trans s2;refine Ø ((s0.trans ż) _ _ h1) T.dZ.cl T.iM rfl {N,p,_,æ val,rfl,È.of ((s0.trans ż) _ _ (h2 _ rfl)),qr N val,Pf (gP val) ∅,λL2 H3 f3 s3 e3=>?_};have l1:=nO N [pl] [];have l2:=nO N (æ val) [];have l3:=gP val;simp only[O3,P2]at l1 l2;refine{L1,L2,_,_,rfl,rfl,s3 _ _ e2,e3,sz (by rw[OZ,OZ];unfold Õ;lia),λL3 hL3=>?_};obtain⟨s4,e4⟩:=É hL3 (HO.lst (sS (Õ N [pl])++sS (Õ N (æ val))));generalize upd H3 L3 _=H4 at s4 e4⊢;have t4:=ż.trans (s3.trans s4);refine{L3,Õ N [pl]++Õ N (æ val),rfl,À.of (by rw[e4];simp[sS]),by rw[OX];unfold Õ;lia,λR H5 f5 s5 e5=>q R H5 (aj.free t4 f5) (t4.trans s5) (by rw[e5,Fw];rfl)}
  |_=>cases ec
 |_=>cases ec
theorem rP(T:Txt K mg A):T.gw.Hz P w mg base 2 (dv A 7):=by
 refine T.gw.hs (k:=1) qw (λf Ã A' outer s H vs Q E' hr hu h=>?_);obtain⟨N,X,v,t,rfl,s0,pa,ec,q⟩:=h;refine{_,(ai (aD (ak (nF T) hr (aK (fv 0) rfl^ab)))),?_};cases t with
 |leaf n r=>
  unfold bf at pa;obtain⟨a,dx,p,rfl,h1,h2⟩:=pa;cases r with
  |snd h val=>exact Ø (s0 _ _ h1) T.dw.cl T.gy rfl {N,p,_,æ val,rfl,È.of (s0 _ _ (h2 _ rfl)),qr N val,Pf (gP val) ∅,q}
  |_=>cases ec
 |_=>cases ec
theorem vf(T:Txt K mg A):T.jV.Hz P w mg base 2 (dv A 11):=by
 refine T.jV.hs (k:=1) sW (λf Ã A' outer s H vs Q E' hr hu h=>?_);obtain⟨N,X,v,t,rfl,s0,pa,ec,q⟩:=h;refine{_,(ai (aD (ak (nF T) hr (aK (fv 0) rfl^ab)))),?_};cases t with
 |iff n val l r f o=>
  unfold bf at pa;obtain⟨a,dx,p,pf,po,xf,xo,rfl,h1,h2,_⟩:=pa;exact Ø (s0 _ _ h1) T.cb.cl T.jD rfl {N,p,_,æ val,rfl,È.of (s0 _ _ h2),qr N val,Pf (gP val) ∅,q}
 |leaf n r=>cases r<;>cases ec
 |_=>cases ec
theorem rJ(T:Txt K mg A):T.gH.Hz P w mg base 2 (dv A 12):=by
 refine T.gH.hs (k:=1) qP (λf Ã A' outer s H vs Q E' hr hu h=>?_);obtain⟨N,X,v,t,rfl,s0,pa,ec,q⟩:=h;refine{_,(ai (aD (ak (nF T) hr (aV (aK (fv 0) rfl^ab)^ab)))),?_};cases t with
 |loop n t m l r b=>
  unfold bf at pa;obtain⟨a,dx,pb,xb,rfl,h1,_⟩:=pa;exact Ø (s0 _ _ h1) T.bA.cl T.gm rfl {by show 1<=sizeLine;decide,λtp ß=>{N,tp,_,[t],rfl,È.of ao,qr N (.one t),by simp,λp H' hp s1 e1=>q p H' (aj.free (aj.upd ß _) hp) ((aj.upd ß _).trans s1) e1}}
 |leaf n r=>cases r<;>cases ec
 |_=>cases ec
def Kz(A:Ö)(C:RJ)(sp:Sp):Prop:=∃i,(i=5\/i=6\/i=7\/i=11\/i=12)/\C=Ŀ A i/\sp=dv A i
theorem Ii(T:Txt K mg A):∀C sp,Kz A C sp->ō K C/\∃ps,yM P w K mg base 2 C "reads" ps sp:=by
 rintro C sp ⟨i,rfl|rfl|rfl|rfl|rfl,rfl,rfl⟩
 ·exact{T.ft.cl,_,tI T}
 ·exact{T.dZ.cl,_,tP T}
 ·exact{T.dw.cl,_,rP T}
 ·exact{T.cb.cl,_,vf T}
 exact{T.bA.cl,_,rJ T}
structure Lk where
 fr:Str
 to:Str
 kd:Str
 no:Int
noncomputable def Lk.vs(l:Lk):List V:=[.str l.fr,.str l.to,.str l.kd,.int l.no]
def LkR(l:Lk)(y:V)(H:Hp):Prop:=∃t,y=V.ref t/\H t=YH (.tup l.vs)
def ė(H:Hp)(ls:List Lk)(ys:List V):Prop:=Paired (λl y=>LkR l y H) ls ys
theorem ė.same(s:∀x w,H x=YH (.tup w)->H' x=YH (.tup w))(h:ė H ls ys):ė H' ls ys:=Paired.vb h λ_ _ ⟨t,e,h1⟩=>{t,e,s _ _ h1}
theorem uQ{α β γ:Type}{F}(g:γ->α){l:List γ}{m:List β}(h:Paired (λx y=>F (g x) y) l m):Paired F (l.map g) m:=by
 induction h with
 |nil=>exact .nil
 |cons h _ ih=>exact .cons h ih
noncomputable def drP(into:Str):Option Str->Bool
 |none=>false
 |some x=>!decide (x=into)
noncomputable def ó(fs:List (Option Str))(into kd:Str)(n:Int):List Lk:=(fs.filter (drP into)).map λf=>⟨f.getD R7,into,kd,n⟩
theorem cB (fs into kd n):(ó fs into kd n).length<=fs.length:=by
 unfold ó;rw[OZ];exact Qd _ _
inductive km(K:RS)(vs:List V)(H:Hp)(Q:VK)(Ä:XK):Prop
 |mk (L fs into kd n) (z0:vs=[.ref L,.str into,.str kd,.int n]) (z1:À K H L (fs.map oS)) (z2:fs.length<=100)
  (z3:∀(R ys H'),aj H H'->H R=YI->H' R=YH (.lst ys)->ė H' (ó fs into kd n) ys->Q (.ref R) H'):km K vs H Q Ä
theorem sv(T:Txt K mg A):T.drawn.Hz P w base 1 (km K):=by
 refine T.drawn.hs Gs (λf Ã A' outer s H vs Q E' hr hu h=>?_);obtain⟨L,fs,into,kd,n,rfl,hL,hl,q⟩:=h;refine{_,(ai (aD (eA (N:=["one","into","kind","number"]) (own:=1) (fr:=[1,2,3]) (cw.of (by kernel_rfl!)) rfl (bT (fv 0)) (λb=>Ð (i:=0) (show Sz (["one","into","kind","number"]:List Ti) by decide+kernel) rfl) (λb=>ye (PW.pt (pw_and (Í fS (fv 0) bX) (pw_and1 (Í (rn hu) (fv 0) (fv 1)))))) (λb=>aV (fv 0^fv 1^fv 2^fv 3^ab))))),Pg {{_,hL},iD (K:=K) (own:=1) fs (drP into) (λf y H=>LkR ⟨f.getD R7,into,kd,n⟩ y H) hL (OZ _) (by rw[OZ];exact aH ()) ?_ ?_ ?_ ?_}}
 ·intro b i x e v0 H1 Nn Y hx he hv s1 no yes;obtain⟨u0,rfl⟩:=Af hv;rw[Pk,he]at hx;cases hx;cases e with
  |none=>exact{rfl,_,rfl,aY (aY (no rfl [YH .Ë] _ rfl (aj.refl _)))}
  |some x=>
   refine{rfl,_,rfl,bW {rfl,_,rfl,?_}};by_cases c:x=into
   ·subst c;exact bg (λz=>absurd z (by show ¬ (!decide (V.str x=V.str x))=true;rw[decide_eq_true rfl];decide)) (λ_=>no (by show(!decide (x=x))=false;rw[decide_eq_true rfl];rfl) [YH (.str x)] _ rfl (aj.refl _))
   refine bg (λ_=>?_) (λz=>absurd (by show(!decide (V.str x=V.str into))=true;rw[NX,decide_eq_false c];rfl) z);exact{by show 4<=sizeLine;decide,λtp ß=>yes (by show(!decide (x=into))=true;rw[decide_eq_false c];rfl) [YH (.str x)] _ _ rfl (aj.upd ß _) ⟨tp,rfl,ao⟩}
 ·rintro e y H1 H2 s1 ⟨t,e1,h1⟩;exact{t,e1,s1 _ _ h1}
 ·rintro e y H1 D ys zs hD ⟨t,e1,h1⟩;exact{t,e1,au (λz=>by rw[z,hD]at h1;cases h1) h1}
 intro D H1 ys hD s1 e1 pr;exact q D ys H1 s1 hD e1 (uQ _ pr)
noncomputable def yw(N:Nat->Str)(n:Int)(tp:Th×Str):List Lk:=match tp.1 with
 | .i _=>[]
 | .x a=>ó [YH (N a)] tp.2 "value" n
noncomputable def Ŷ(N:Nat->Str)(n:Int)(l:List (Th×Str)):List Lk:=l.flatMap (yw N n)
noncomputable def clB(pl:Option Str)(n:Int)(l:List Str):List Lk:=l.flatMap λinto=>ó [pl] into "under" n
theorem vn{α β:Type}(f:α->List β)(h:∀x,(f x).length<=1):∀l:List α,(l.flatMap f).length<=l.length
 | []=>O4 _
 |x::l=>by
  have h1:=vn f h l;have h2:=h x;rw[P5,OX,O6];lia
theorem xT (n) (tp:Th×Str):(yw N n tp).length<=1:=by
 unfold yw;split
 ·simp
 exact cB _ _ _ _
theorem pS{H Hc He:Hp}{R R2:RJ}{ls ms:List Lk}{ys zs:List V}(s3:aj Hc He)(Û:Hc R=YH (.lst ys))(ly:ė Hc ls ys)(l3:ė He ms zs):ė (upd He R (.lst (ys++zs))) (ls++ms) (ys++zs):=by
 have dR:∀x w,He x=YH (.tup w)->upd He R (.lst (ys++zs)) x=YH (.tup w):=λx w e=>au (λy=>by rw[y,s3 _ _ Û]at e;cases e) e;exact Paired.two (ly.same λx w e=>dR x w (s3 _ _ e)) (l3.same dR)
inductive wz(A:Ö)(vs:List V)(H:Hp)(Q:VK)(Ä:XK):Prop
 |mk (N X v n i ts pl pp ps) (z0:vs=[v,oS pl,.ref pp]) (z1:aj X H) (z2:bf A N X v (.leaf n (.call i ts))) (z3:X pp=YH (.lst (sS ps))) (z4:ts.length=ps.length) (z5:ps.length<=100)
  (z6:∀(R ys H'),aj H H'->H R=YI->H' R=YH (.lst ys)->ė H' (Ŷ N n (ts.zip ps)++clB pl n (ps++[N i])) ys->Q (.ref R) H'):wz A vs H Q Ä
inductive C7(a:RJ)(pl:Option Str)(pp:RJ)(R:RJ)(H:Hp)(n:Int)(ts:List Th)(ps:List Str)(j:Nat)(B:St)(Hc:Hp):Prop
 |mk (ys v4 v5):B=[YH (.ref a),YH (oS pl),YH (.ref pp),YH (.ref R),v4,v5,YI]->aj H Hc->Hc R=YH (.lst ys)->ė Hc (Ŷ N n ((ts.zip ps).take j)) ys->C7 a pl pp R H n ts ps j B Hc
inductive Bj(a:RJ)(pl:Option Str)(pp:RJ)(R:RJ)(v4:Option V)(v5:Option V)(H2:Hp)(LA:List Lk)(n:Int)(is:List Str)(j:Nat)(B:St)(Hd:Hp):Prop
 |mk (zs v6):B=[YH (.ref a),YH (oS pl),YH (.ref pp),YH (.ref R),v4,v5,v6]->Sm [R] H2 Hd->Hd R=YH (.lst zs)->ė Hd (LA++clB pl n (is.take j)) zs->Bj a pl pp R v4 v5 H2 LA n is j B Hd
theorem FF(T:Txt K mg A):T.kT.Hz P w base 2 (wz A):=by
 refine T.kT.hs (k:=1) dq (λf Ã A' outer s H vs Q E' hr hu h=>?_);obtain⟨N,X,v,n,i,ts,pl,pp,ps,rfl,s0,pa,Ų,tl,pl1,q⟩:=h;unfold bf at pa;obtain⟨a,dx,p,rfl,h1,h2⟩:=pa;have h2:=h2 _ rfl;refine⟨_,(ae (Ç 3 dq.nd (aI ab))
  (ae (bS RW rfl (KW rfl T.BC (aK (fv 0) rfl^fv 2^ab)) (dj rfl (aN (Ð (i:=4) dq.nd rfl) (aN (Ð (i:=5) dq.nd rfl) cc)))
   (ai (aS (bh (Þ aX T.aG (fv 4^(pY (v:=.ty "str") rfl T.zD (by boot_by_name) rfl)^ab)) (λ_=>rfl))
    (ai (aR (gc (fv 3) (ak (sv T) hr (aI (fv 4^ab)^fv 5^aw^aK (fv 0) rfl^ab)^ab))))
    aF)))
  (ae (bS RW rfl (bT (az aQ (fv 2) (aI (aK (fv 0) rfl^ab)))) (Ð (i:=6) dq.nd rfl)
   (ai (aR (gc (fv 3) (ak (sv T) hr (aI (fv 1^ab)^fv 6^aw^aK (fv 0) rfl^ab)^ab)))))
  (ai (aD (fv 3)))))),?_⟩
 refine ag λM1 K1=>{Pd _,λR hR=>?_};obtain⟨s1,e1⟩:=É hR (HO.lst []);generalize upd H R _=H1 at s1 e1⊢;refine K1 _ _ ?_;clear K1 M1;try dsimp only
 refine ag λM1 K1=>?_;have sX1:=s0.trans s1;refine Ø (sX1 _ _ h1) T.cH.cl T.fF rfl {_,_,rfl,{_,À.of (sX1 _ _ h2)},{_,À.of (sX1 _ _ Ų)},Jd (K:=K) (xs:=ts.map (Th.v N)) (ys:=sS ps) ((C7 (N:=N) a pl pp R H n ts ps)) {[],YI,YI,rfl,s1,e1,.nil} (λj B Hc _ zz=>by obtain⟨_,_,_,_,z,_,_⟩:=zz;exact{À.of ((s0.trans z) _ _ h2),À.of ((s0.trans z) _ _ Ų)}) (by rw[OZ,OZ];exact tl) ?_ ?_}
 ·rintro j x y B Hc tp hx hy ⟨ys,v4,v5,rfl,sc,Û,ly⟩ ß;rw[Pk]at hx hy;cases ht:ts[j]? with
  |none=>rw[ht]at hx;cases hx
  |some th=>
  cases hp:ps[j]? with
  |none=>rw[hp]at hy;cases hy
  |some pn=>
  rw[ht]at hx;rw[hp]at hy;cases hx;cases hy;have hz:(ts.zip ps)[j]?=YH (th,pn):=List.getElem?_zip_eq_some.mpr ⟨ht,hp⟩;have st:Ŷ N n ((ts.zip ps).take (j+1))=Ŷ N n ((ts.zip ps).take j)++yw N n (th,pn):=pK (yw N n) hz;have sl:=vn (yw N n) (xT n) ((ts.zip ps).take j);rw[PV,QN]at sl;have lly:=RT ly;unfold Ŷ at lly;have sp:=aj.upd ß (.tup [th.v N,.str pn]);have tR:tp≠R:=YJ ß Û;try dsimp only
  refine{tp,_,rfl,È.of ao,rfl,_,_,rfl,_,_,rfl,rfl,?_};cases th with
  |i m=>
   refine{_,_,_,false,rfl,(λz=>by cases z),.int m,Ff,false,rfl,aY {ys,_,_,rfl,sc.trans sp,sp _ _ Û,?_}};rw[st];show ė _ (_++[]) ys;rw[Pu];exact ly.same λx w e=>sp _ _ e
  |x b=>
   refine{_,_,_,true,rfl,(λz=>by cases z),.str _,Ga,true,rfl,bW {Pg {rfl,_,À.of (sp _ _ Û)},by show 1<=sizeLine;decide,λq1 hq1=>?_}};have sq:=aj.upd hq1 (.lst [Th.v N (.x b)]);refine Ø ((((s0.trans sc).trans sp).trans sq) _ _ h1) T.cH.cl T.cU rfl {q1,[YH (N b)],pn,"value",n,rfl,À.of ao,by simp,λR2 zs He s3 hR2 ī l3=>?_};have lz:=RT l3;have dl:=cB [YH (N b)] pn "value" n;have s4:=(sp.trans sq).trans s3;refine{_,_,_,_,rfl,rfl,s4 _ _ Û,ī,sz (by simp only[O3]at dl;lia),{_,_,_,rfl,aj.out (sc.trans s4) hR _,ao,?_}};rw[st];exact pS (H:=H) (R2:=R2) s4 Û ly l3
 rintro B Hc ⟨ys,v4,v5,rfl,sc,Û,ly⟩;rw[show(ts.zip ps).take (ts.map (Th.v N)).length=ts.zip ps by rw[OZ];exact P6 (by rw[QN];lia)]at ly;have l1:(Ŷ N n (ts.zip ps)).length<=100:=Pf (vn (yw N n) (xT n) _) (by rw[QN];lia);refine K1 _ _ ?_;clear K1 M1;generalize Ŷ N n (ts.zip ps)=LA at ly l1 q;try dsimp only
 refine ag λM1 K1=>?_;have sX:=s0.trans sc;refine Ø (sX _ _ h1) T.cH.cl T.dM rfl {by show 1<=sizeLine;decide,λq1 hq1=>?_};have sq:=aj.upd hq1 (.lst [.str (N i)]);refine{pp,q1,_,_,rfl,rfl,(sX.trans sq) _ _ Ų,ao,sz (by rw[OZ,O3];lia),λq2 hq2=>?_};have sq2:=aj.upd hq2 (.lst (sS ps++[.str (N i)]));have es:sS ps++[V.str (N i)]=sS (ps++[N i]):=by simp[sS]
 rw[es]at sq2⊢;have eq2:upd (upd Hc q1 (.lst [.str (N i)])) q2 (.lst (sS (ps++[N i]))) q2=YH (.lst (sS (ps++[N i]))):=ao;have sc2:=sq.trans sq2;have q2R:q2≠R:=YJ hq2 (sq _ _ Û);generalize upd (upd Hc q1 (.lst [.str (N i)])) q2 (.lst (sS (ps++[N i])))=H2 at sc2 eq2⊢;have is1:(ps++[N i]).length<=101:=by simp;lia
 generalize ps++[N i]=is at eq2 is1 q;refine Pg {{_,À.of eq2},bQ (K:=K) (xs:=sS is) ((Bj a pl pp R v4 v5 H2 LA n is)) {ys,YI,rfl,Sm.refl _ _,sc2 _ _ Û,by show ė _ (_++[]) _;rw[Pu];exact ly.same λx w e=>sc2 _ _ e} (λj B Hd _ zz=>by obtain⟨_,_,_,z,_,_⟩:=zz;exact À.of (z _ _ (λm=>q2R (OY.mp m)) eq2)) ?_ ?_}
 ·rintro j x B Hd hx ⟨zs,v6,rfl,sd,Ŵ,lz⟩;rw[Pk]at hx;cases hi:is[j]? with
  |none=>rw[hi]at hx;cases hx
  |some into=>
  rw[hi]at hx;cases hx;have st:clB pl n (is.take (j+1))=clB pl n (is.take j)++ó [pl] into "under" n:=pK _ hi;have sl:=vn (λinto=>ó [pl] into "under" n) (λx=>cB _ _ _ _) (is.take j);rw[PV]at sl;have llz:=RT lz;unfold clB at llz;rw[OX]at llz;have š:aj H Hd:=sd.same (sc.trans sc2) (λm hm=>by rw[OY.mp hm];exact hR);try dsimp only
  refine{Pg {rfl,_,À.of Ŵ},by show 1<=sizeLine;decide,λq3 hq3=>?_};have ŭ:=aj.upd hq3 (.lst [oS pl]);refine Ø (((s0.trans š).trans ŭ) _ _ h1) T.cH.cl T.cU rfl {q3,[pl],into,"under",n,rfl,À.of ao,by simp,λR2 ws He s3 hR2 ī l3=>?_};have lw:=RT l3;have dl:=cB [pl] into "under" n;have s4:=ŭ.trans s3;refine{_,_,_,_,rfl,rfl,s4 _ _ Ŵ,ī,sz (by simp only[O3]at dl;lia),{_,_,rfl,(sd.trans (Sm.new s4)).trans (Sm.at (OY.mpr rfl) _),ao,?_}};rw[st,<-Pn];exact pS (H:=H) (R2:=R2) s4 Ŵ lz l3
 rintro B Hd ⟨zs,v6,rfl,sd,Ŵ,lz⟩;rw[show is.take (sS is).length=is by rw[OZ];exact PM]at lz;exact K1 _ _ (q R zs Hd (sd.same (sc.trans sc2) (λm hm=>by rw[OY.mp hm];exact hR)) hR Ŵ lz)
noncomputable def k5:Pt->Bool
 | .leaf _ (.set _ _)=>true
 | .leaf _ (.put _ _ _)=>true
 | .leaf _ (.snd _ _)=>true
 | .leaf _ (.say _ _ _)=>true
 | .leaf _ (.call _ _)=>true
 | .leaf _ .last=>true
 | .iff _ _ _ _ _ _=>true
 | .loop _ _ _ _ _ _=>true
 |_=>false
noncomputable def drI(N:Nat->Str)(t:Pt)(into kd:Str)(pl:Option Str):List Lk:=ó ((Õ N (Ĥ t)).map YH) into kd t.no++ó [pl] into "under" t.no
noncomputable def saL(pl:Option Str)(x m:Str)(n:Int):List Lk:=ó [YH m] x "value" n++ó [pl] x "under" n++ó [pl] (aU n) "under" n
noncomputable def p8(N:Nat->Str)(po:Str->List Str)(t:Pt)(pl lp:Option Str):List Lk:=match t with
 | .leaf n (.set x v)=>drI N (.leaf n (.set x v)) (N x) "value" pl
 | .leaf n (.put x p v)=>drI N (.leaf n (.put x p v)) (N x) "value" pl
 | .leaf n (.call i ts)=>Ŷ N n (ts.zip (po (N i)))++clB pl n (po (N i)++[N i])
 | .leaf n (.snd h v)=>drI N (.leaf n (.snd h v)) (aU n) "value" pl
 | .leaf n (.say x _ m)=>saL pl (N x) (N m) n
 | .leaf n .last=>ó [pl] (lp.getD R7) "under" n
 | .iff n v l r f o=>drI N (.iff n v l r f o) (aU n) "test" pl
 | .loop n t m l r b=>drI N (.loop n t m l r b) (aU n) "test" pl
 |_=>[]
theorem wZ (t into kd pl):(drI N t into kd pl).length<=4:=by
 unfold drI;have h1:=cB ((Õ N (Ĥ t)).map YH) into kd t.no;have h2:=cB [pl] into "under" t.no;have h3:=nO N (Ĥ t) [];have h4:=CP t;rw[OZ]at h1;rw[OX];simp only[O3,P2]at h2 h3;unfold Õ at h1⊢;lia
def lOk(t:Pt)(lp:Option Str):Prop:=t.ci=10->lp.isSome=true
def FY(X H:Hp)(D:RJ)(po:Str->List Str)(nm:List Str):Prop:=∃kvs,H D=YH (.dK kvs)/\∀x∈nm,(po x).length<=100/\∃pp,L2.cf kvs (.inr x)=YH (.ref pp)/\X pp=YH (.lst (sS (po x)))
theorem FY.same(h:FY X H D po nm)(e:∀kvs,H D=YH (.dK kvs)->H' D=YH (.dK kvs)):FY X H' D po nm:=by
 obtain⟨kvs,h1,h2⟩:=h;exact{kvs,e _ h1,h2}
noncomputable def GB(N:Nat->Str)(po:Str->List Str)(nm:List Str):Pt->Prop
 | .leaf _ (.call i ts)=>N i∈nm/\ts.length=(po (N i)).length
 |_=>True
theorem Ln{t:Pt}(h:t.ci=5):∃n a b,t=(.leaf n (.set a b)):=by
 cases t with
 |leaf n r=>cases r<;>first|(cases h;done)|exact{_,_,_,rfl}
 |_=>first|(cases h;done)|exact{_,_,_,rfl}
theorem Mf{t:Pt}(h:t.ci=6):∃n a b c,t=(.leaf n (.put a b c)):=by
 cases t with
 |leaf n r=>cases r<;>first|(cases h;done)|exact{_,_,_,_,rfl}
 |_=>first|(cases h;done)|exact{_,_,_,_,rfl}
theorem LN{t:Pt}(h:t.ci=7):∃n a b,t=(.leaf n (.snd a b)):=by
 cases t with
 |leaf n r=>cases r<;>first|(cases h;done)|exact{_,_,_,rfl}
 |_=>first|(cases h;done)|exact{_,_,_,rfl}
theorem KZ{t:Pt}(h:t.ci=8):∃n a b c,t=(.leaf n (.say a b c)):=by
 cases t with
 |leaf n r=>cases r<;>first|(cases h;done)|exact{_,_,_,_,rfl}
 |_=>first|(cases h;done)|exact{_,_,_,_,rfl}
theorem G5{t:Pt}(h:t.ci=10):∃n,t=(.leaf n .last):=by
 cases t with
 |leaf n r=>cases r<;>first|(cases h;done)|exact{_,rfl}
 |_=>first|(cases h;done)|exact{_,rfl}
theorem Lw{t:Pt}(h:t.ci=11):∃n a b c d e,t=(.iff n a b c d e):=by
 cases t with
 |leaf n r=>cases r<;>first|(cases h;done)|exact{_,_,_,_,_,_,rfl}
 |_=>first|(cases h;done)|exact{_,_,_,_,_,_,rfl}
theorem Ig{t:Pt}(h:t.ci=12):∃n a b c d e,t=(.loop n a b c d e):=by
 cases t with
 |leaf n r=>cases r<;>first|(cases h;done)|exact{_,_,_,_,_,_,rfl}
 |_=>first|(cases h;done)|exact{_,_,_,_,_,_,rfl}
inductive CK(A:Ö)(vs:List V)(H:Hp)(Q:VK)(Ä:XK):Prop
 |mk (N X v t pl lp D) (po:Str->List Str) (nm) (z0:vs=[v,oS pl,oS lp,.ref D]) (z1:aj X H) (z2:bf A N X v t) (z3:k5 t=true) (z4:0<=t.no/\t.no<=1000) (z8:lOk t lp) (z5:FY X H D po nm) (z6:GB N po nm t)
  (z7:∀(R ys H'),aj H H'->H R=YI->H' R=YH (.lst ys)->ė H' (p8 N po t pl lp) ys->Q (.ref R) H'):CK A vs H Q Ä
inductive CN(A:Ö)(vs:List V)(H:Hp)(Q:VK)(Ä:XK):Prop
 |mk(N:Nat->Str)(X:Hp)(v:V)(n:Int)(x m:Nat)(val:Val)(pl:Option Str)(z0:vs=[v,oS pl])(z1:aj X H)(z2:bf A N X v (.leaf n (.say x val m)))(z4:0<=n/\n<=1000)
  (z7:∀(R:RJ)(ys:List V)(H':Hp),aj H H'->H R=YI->H' R=YH (.lst ys)->ė H' (saL pl (N x) (N m) n) ys->Q (.ref R) H'):CN A vs H Q Ä
theorem La(T:Txt K mg A):T.oT.Hz P w base 2 (CN A):=by
 have gR:=@sv P w _ _ base _ T;refine T.oT.hs (k:=1) nU (λf Ã A' outer s H vs Q E' hr hu h=>?_);obtain⟨N,X,v,n,x,m,val,pl,rfl,s0,pa,nt,q⟩:=h;unfold bf at pa;obtain⟨a,dx,p,rfl,h1,_⟩:=pa;refine⟨_,(ae (Ç 2 nU.nd (ak gR hr (aI (aK (fv 0) rfl^ab)^aK (fv 0) rfl^aw^aK (fv 0) rfl^ab)))
  (ae (aR (gc (fv 2) (ak gR hr (aI (fv 1^ab)^aK (fv 0) rfl^aw^aK (fv 0) rfl^ab)^ab)))
  (ai (aD (az aQ (fv 2) (ak gR hr (aI (fv 1^ab)^ak (pJ T) hr (aK (fv 0) rfl^ab)^aw^aK (fv 0) rfl^ab))))))),?_⟩
 refine ag λM1 K1=>Ø (s0 _ _ h1) T.cy.cl T.jv rfl {by show 1<=sizeLine;decide,λq1 hq1=>?_};have s1:=aj.upd hq1 (.lst [V.str (N m)]);have sX1:=s0.trans s1;refine Ø (sX1 _ _ h1) T.cy.cl T.fU rfl (Ø (sX1 _ _ h1) T.cy.cl T.b9 rfl {q1,[YH (N m)],N x,"value",n,rfl,À.of ao,by simp,λR y1 H2 s2 n2 e2 l2=>K1 _ _ ?_});clear K1 M1;have t2:=s1.trans s2;have hR:H R=YI:=aj.free s1 n2;have a1:=RT l2;have b1:=cB [YH (N m)] (N x) "value" n;try dsimp only
 refine ag λM1 K1=>{Pg {rfl,_,À.of e2},by show 1<=sizeLine;decide,λq3 hq3=>?_};have s3:=aj.upd hq3 (.lst [oS pl]);have ń:=s0.trans (t2.trans s3);refine Ø (ń _ _ h1) T.cy.cl T.fU rfl (Ø (ń _ _ h1) T.cy.cl T.b9 rfl {q3,[pl],N x,"under",n,rfl,À.of ao,by simp,λR2 y2 H4 s4 n4 e4 l4=>?_});have s24:=s3.trans s4;have a2:=RT l4;have b2:=cB [pl] (N x) "under" n;simp only[O3]at b1 b2;refine{_,_,_,_,rfl,rfl,s24 _ _ e2,e4,sz (),?_};have l5:=pS (H:=H) (R2:=R2) s24 e2 l2 l4;have s5:aj H (upd H4 R (.lst (y1++y2))):=aj.out (t2.trans s24) hR _;have e5:upd H4 R (.lst (y1++y2)) R=YH (.lst (y1++y2)):=ao;generalize upd H4 R (.lst (y1++y2))=H5 at l5 s5 e5⊢;refine K1 _ _ ?_;clear K1 M1;try dsimp only
 refine{by show 1<=sizeLine;decide,λq6 hq6=>?_};have s6:=aj.upd hq6 (.lst [oS pl]);have sX6:=s0.trans (s5.trans s6);refine Ø (sX6 _ _ h1) T.cy.cl T.b9 rfl {_,rfl,nt.1,nt.2,Ø (sX6 _ _ h1) T.cy.cl T.b9 rfl {q6,[pl],aU n,"under",n,rfl,À.of ao,by simp,λR3 y3 H7 s7 n7 e7 l7=>?_}};have s57:=s6.trans s7;have a3:=RT l7;have b3:=cB [pl] (aU n) "under" n;simp only[O3]at b3;refine{R,R3,_,_,rfl,rfl,s57 _ _ e5,e7,sz (by rw[OX];lia),λR4 hR4=>?_};have s8:=aj.upd hR4 (.lst (y1++y2++y3));exact q R4 _ _ (s5.trans (s57.trans s8)) (aj.free (s5.trans s57) hR4) ao (Paired.two (l5.same λz w e=>(s57.trans s8) _ _ e) (l7.same λz w e=>s8 _ _ e))
theorem MC(h:bf A N X v p):∃a dx fs,v=.ref a/\X a=YH (.ins (Ŀ A p.ci) dx fs)/\fs.lookup ("reads":Str)=YI:=by
 cases p with
 |leaf n r=>
  unfold bf at h;obtain⟨a,dx,p,e,h1,h2⟩:=h;exact{a,dx,_,e,h1,by cases r<;>rfl}
 |iff n val l r f o=>
  unfold bf at h;obtain⟨a,dx,p,pf,po,xf,xo,e,h1,_⟩:=h;exact{a,dx,_,e,h1,rfl}
 |loop n t m l r b=>
  unfold bf at h;obtain⟨a,dx,pb,xb,e,h1,_⟩:=h;exact{a,dx,_,e,h1,rfl}
 |bq n i ps b=>
  unfold bf at h;obtain⟨a,dx,pp,pb,xb,e,h1,_⟩:=h;exact{a,dx,_,e,h1,rfl}
theorem Lv(T:Txt K mg A):T.qC.Hz P w base 3 (CK A):=by
 have gR:=@sv P w _ _ base _ T;have M_reads:=Ii (P:=P) (w:=w) (mg:=mg) (base:=base) T;refine T.qC.hs (k:=2) pM (λf Ã A' outer s H vs Q E' hr hu h=>?_);obtain⟨N,X,v,t,pl,lp,D,po,nm,rfl,s0,pa,hk,nt,hlp,hD,hc,q⟩:=h;refine⟨_,(ae (Ç 4 pM.nd (ak (pJ T) hr (aK (fv 0) rfl^ab)))
  (ae (aS (PW.pt (pw_or (bh (Þ aX T.aG (fv 0^bF T.ft.mg^ab)) (λ_=>rfl)) (pw_or1 (bh (Þ aX T.aG (fv 0^bF T.dZ.mg^ab)) (λ_=>rfl)))))
   (ai (aD (az aQ (ak gR hr (qD (fv 0) M_reads hr^aK (fv 0) rfl^aw^aK (fv 0) rfl^ab)) (ak gR hr (aI (fv 1^ab)^aK (fv 0) rfl^aw^aK (fv 0) rfl^ab)))))
   aF)
  (ae (aS (bh (Þ aX T.aG (fv 0^bF T.dw.mg^ab)) (λ_=>rfl))
   (ai (aD (az aQ (ak gR hr (qD (fv 0) M_reads hr^fv 4^aw^aK (fv 0) rfl^ab)) (ak gR hr (aI (fv 1^ab)^fv 4^aw^aK (fv 0) rfl^ab)))))
   aF)
  (ae (aS (bh (Þ aX T.aG (fv 0^bF T.cy.mg^ab)) (λ_=>rfl))
   (ai (aD (ak (La T) hr (fv 0^fv 1^ab))))
   aF)
  (ae (aS (PW.pt (pw_or (bh (Þ aX T.aG (fv 0^bF T.cb.mg^ab)) (λ_=>rfl)) (pw_or1 (bh (Þ aX T.aG (fv 0^bF T.bA.mg^ab)) (λ_=>rfl)))))
   (ai (aD (az aQ (ak gR hr (qD (fv 0) M_reads hr^fv 4^aw^aK (fv 0) rfl^ab)) (ak gR hr (aI (fv 1^ab)^fv 4^aw^aK (fv 0) rfl^ab)))))
   aF)
  (ae (aS (bh (Þ aX T.aG (fv 0^bF T.fL.mg^ab)) (λ_=>rfl))
   (ai (aD (ak gR hr (aI (fv 1^ab)^fv 2^aw^aK (fv 0) rfl^ab))))
   aF)
  (ai (aD (ak (FF T) hr (fv 0^fv 1^px hu (fv 3) (aK (fv 0) rfl)^ab)))))))))),?_⟩
 refine ag λM1 K1=>eO T s0 pa {_,rfl,nt.1,nt.2,K1 _ _ ?_};clear K1 M1;try dsimp only
 have ob:=MC pa;have jn:∀(kd into:Str)(R:VK),(∀(R':RJ)(ys:List V)(H':Hp),aj H H'->H R'=YI->H' R'=YH (.lst ys)->ė H' (drI N t into kd pl) ys->R (.ref R') H')->
   ∀(R1 R2:RJ)(y1 y2:List V)(H2 H3:Hp),aj H H2->H2 R1=YH (.lst y1)->ė H2 (ó ((Õ N (Ĥ t)).map YH) into kd t.no) y1->aj H2 H3->H3 R2=YH (.lst y2)->ė H3 (ó [pl] into "under" t.no) y2->Ja (.ref R1) (.ref R2) H3 R:=by
  intro kd into R qq R1 R2 y1 y2 H2 H3 s2 e2 l2 s3 e3 l3
  have d:=wZ (N:=N) t into kd pl
  have a1:=RT l2
  have a2:=RT l3
  unfold drI at d
  rw[OX]at d
  refine{R1,R2,_,_,rfl,rfl,s3 _ _ e2,e3,sz (),λR hR=>?_}
  have s5:=aj.upd hR (.lst (y1++y2))
  exact qq R _ _ ((s2.trans s3).trans s5) (aj.free (s2.trans s3) hR) ao (Paired.two (l2.same λx w e=>s5 _ _ (s3 _ _ e)) (l3.same λx w e=>s5 _ _ e))
 have rl:∀{p:RJ}{H1:Hp},H1 p=YH (.lst (sS (Õ N (Ĥ t))))->À K H1 p (((Õ N (Ĥ t)).map YH).map oS)/\((Õ N (Ĥ t)).map YH).length<=100:=λe1=>by
  have h3:=nO N (Ĥ t) [];have h4:=CP t;simp only[P2]at h3;exact{À.of (by rw[e1,QE];rfl),by rw[OZ];unfold Õ;lia}
 have two:∀(kd:Str)(R:VK),(∀(R':RJ)(ys:List V)(H':Hp),aj H H'->H R'=YI->H' R'=YH (.lst ys)->ė H' (drI N t (aU t.no) kd pl) ys->R (.ref R') H')->∀(p:RJ)(H1:Hp),H p=YI->aj H H1->H1 p=YH (.lst (sS (Õ N (Ĥ t))))->
   km K [.ref p,.str (aU t.no),.str kd,.int t.no] H1 (λx H2=>1<=sizeLine/\∀q3,H2 q3=YI->om K "number" v (upd H2 q3 (.lst [oS pl])) λu H3=>km K [.ref q3,.str (aU t.no),.str "under",u] H3 (λy H4=>Ja x y H4 R) E0) E0:=by
  intro kd R qq p H1 hp s1 e1
  refine{p,(Õ N (Ĥ t)).map YH,aU t.no,kd,t.no,rfl,(rl e1).1,(rl e1).2,λR1 y1 H2 s2 n2 e2 l2=>{∅,λq3 hq3=>?_}}
  have ŭ:=aj.upd hq3 (.lst [oS pl])
  exact eO T (((s0.trans s1).trans s2).trans ŭ) pa {q3,[pl],aU t.no,"under",t.no,rfl,À.of ao,by simp,λR2 y2 H3 s3 n3 e3 l3=>jn kd _ R qq R1 R2 y1 y2 H2 H3 (s1.trans s2) e2 l2 (ŭ.trans s3) e3 l3}
 have twoN:∀(into:Str)(R:VK),(∀(H':Hp){Q:VK},aj X H'->Q (.str into) H'->om K "name" v H' Q)->(∀(R':RJ)(ys:List V)(H':Hp),aj H H'->H R'=YI->H' R'=YH (.lst ys)->ė H' (drI N t into "value" pl) ys->R (.ref R') H')->∀(p:RJ)(H1:Hp),H p=YI->aj H H1->H1 p=YH (.lst (sS (Õ N (Ĥ t))))->
   om K "name" v H1 λi1 H1'=>om K "number" v H1' λm1 H1''=>km K [.ref p,i1,.str "value",m1] H1'' (λx H2=>1<=sizeLine/\∀q3,H2 q3=YI->om K "name" v (upd H2 q3 (.lst [oS pl])) λi2 H3'=>om K "number" v H3' λu H3=>km K [.ref q3,i2,.str "under",u] H3 (λy H4=>Ja x y H4 R) E0) E0:=by
  intro into R nf qq p H1 hp s1 e1
  refine nf H1 (s0.trans s1) (eO T (s0.trans s1) pa {p,(Õ N (Ĥ t)).map YH,into,"value",t.no,rfl,(rl e1).1,(rl e1).2,λR1 y1 H2 s2 n2 e2 l2=>{∅,λq3 hq3=>?_}})
  have ŭ:=aj.upd hq3 (.lst [oS pl])
  have ń:=((s0.trans s1).trans s2).trans ŭ
  exact nf _ ń (eO T ń pa {q3,[pl],into,"under",t.no,rfl,À.of ao,by simp,λR2 y2 H3 s3 n3 e3 l3=>jn "value" _ R qq R1 R2 y1 y2 H2 H3 (s1.trans s2) e2 l2 (ŭ.trans s3) e3 l3})
 obtain⟨a,dx,fs,rfl,h1,hno⟩:=ob;refine ag λM1 K1=>?_;by_cases c5:t.ci=5
 ·refine kD T s0 pa c5 (bW ?_);have rr:∀{Q:VK},(∀(p:RJ)(H':Hp),H p=YI->aj H H'->H' p=YH (.lst (sS (Õ N (Ĥ t))))->Q (.ref p) H')->dv A 5 [.ref a] H Q E0:=λk=>{N,X,_,_,rfl,s0,pa,c5,k};refine{a,_,dx,_,_,rfl,s0 _ _ h1,hno,{5,∅,by rw[c5],rfl},rr ?_};clear two jn rl rr;obtain⟨n,x,val,rfl⟩:=Ln c5;have ž:=pa;unfold bf at ž;obtain⟨a',dx',p',e',ŵ,_⟩:=ž;cases e';exact twoN (N x) _ (λH' Q sx k=>Ø (sx _ _ ŵ) T.ft.cl T.jC rfl k) q
 refine gL T s0 pa c5 (aY ?_);by_cases c6:t.ci=6
 ·refine kD T s0 pa c6 (bW ?_);have rr:∀{Q:VK},(∀(p:RJ)(H':Hp),H p=YI->aj H H'->H' p=YH (.lst (sS (Õ N (Ĥ t))))->Q (.ref p) H')->dv A 6 [.ref a] H Q E0:=λk=>{N,X,_,_,rfl,s0,pa,c6,k};refine{a,_,dx,_,_,rfl,s0 _ _ h1,hno,{6,∅,by rw[c6],rfl},rr ?_};clear two jn rl rr;obtain⟨n,x,pt,val,rfl⟩:=Mf c6;have ž:=pa;unfold bf at ž;obtain⟨a',dx',p',e',ŵ,_⟩:=ž;cases e';exact twoN (N x) _ (λH' Q sx k=>Ø (sx _ _ ŵ) T.dZ.cl T.jK rfl k) q
 refine gL T s0 pa c6 (aY (K1 _ _ ?_));clear K1 M1 twoN;refine ag λM1 K1=>?_;by_cases c7:t.ci=7
 ·refine kD T s0 pa c7 (bW ?_);have rr:∀{Q:VK},(∀(p:RJ)(H':Hp),H p=YI->aj H H'->H' p=YH (.lst (sS (Õ N (Ĥ t))))->Q (.ref p) H')->dv A 7 [.ref a] H Q E0:=λk=>{N,X,_,_,rfl,s0,pa,c7,k};refine{a,_,dx,_,_,rfl,s0 _ _ h1,hno,{7,∅,by rw[c7],rfl},rr λp H1 hp s1 e1=>eO T (s0.trans s1) pa (two "value" _ ?_ p H1 hp s1 e1)};clear two jn rl rr;obtain⟨n,x,val,rfl⟩:=LN c7;exact q
 refine gL T s0 pa c7 (aY (K1 _ _ ?_));clear K1 M1;refine ag λM1 K1=>?_;by_cases c8:t.ci=8
 ·refine kD T s0 pa c8 (bW ?_);clear two jn rl;obtain⟨n,x,val,m,rfl⟩:=KZ c8;exact{N,X,_,n,x,m,val,pl,rfl,s0,pa,nt,q}
 refine gL T s0 pa c8 (aY (K1 _ _ ?_));clear K1 M1;refine ag λM1 K1=>?_;by_cases û:t.ci=11
 ·refine kD T s0 pa û (bW ?_);have rr:∀{Q:VK},(∀(p:RJ)(H':Hp),H p=YI->aj H H'->H' p=YH (.lst (sS (Õ N (Ĥ t))))->Q (.ref p) H')->dv A 11 [.ref a] H Q E0:=λk=>{N,X,_,_,rfl,s0,pa,û,k};refine{a,_,dx,_,_,rfl,s0 _ _ h1,hno,{11,∅,by rw[û],rfl},rr λp H1 hp s1 e1=>eO T (s0.trans s1) pa (two "test" _ ?_ p H1 hp s1 e1)};clear two jn rl rr;obtain⟨n,val,l,r,fs,os,rfl⟩:=Lw û;exact q
 refine gL T s0 pa û (aY ?_);by_cases ă:t.ci=12
 ·refine kD T s0 pa ă (bW ?_);have rr:∀{Q:VK},(∀(p:RJ)(H':Hp),H p=YI->aj H H'->H' p=YH (.lst (sS (Õ N (Ĥ t))))->Q (.ref p) H')->dv A 12 [.ref a] H Q E0:=λk=>{N,X,_,_,rfl,s0,pa,ă,k};refine{a,_,dx,_,_,rfl,s0 _ _ h1,hno,{12,∅,by rw[ă],rfl},rr λp H1 hp s1 e1=>eO T (s0.trans s1) pa (two "test" _ ?_ p H1 hp s1 e1)};clear two jn rl rr;obtain⟨n,th,m,l,r,b,rfl⟩:=Ig ă;exact q
 refine gL T s0 pa ă (aY (K1 _ _ ?_));clear K1 M1 two jn rl;refine ag λM1 K1=>?_;by_cases Ō:t.ci=10
 ·refine kD T s0 pa Ō (bW ?_);cases lp with
  |none=>exact absurd (hlp Ō) ∅
  |some lq=>
  refine{by show 1<=sizeLine;decide,λq3 hq3=>?_};have ŭ:=aj.upd hq3 (.lst [oS pl]);refine eO T (s0.trans ŭ) pa {q3,[pl],lq,"under",t.no,rfl,À.of ao,by simp,λR2 y2 H3 s3 n3 e3 l3=>q R2 y2 H3 (ŭ.trans s3) (aj.free ŭ n3) e3 ?_};obtain⟨n,rfl⟩:=G5 Ō;exact l3
 refine gL T s0 pa Ō (aY (K1 _ _ ?_));clear K1 M1;cases t with
 |leaf n r=>
  cases r with
  |call i ts=>
   have ž:=pa;unfold bf at ž;obtain⟨a',dx',p,e',ŵ,_⟩:=ž;cases e';obtain⟨kvs,eD,hd⟩:=hD;obtain⟨c1,c2⟩:=hc;obtain⟨l1,pp,e1,e2⟩:=hd _ c1;exact Ø (s0 _ _ ŵ) T.cH.cl T.dM rfl (ä eD e1 {N,X,_,n,i,ts,pl,pp,po (N i),rfl,s0,pa,e2,c2,l1,q})
  |set _ _=>exact absurd rfl c5
  |put _ _ _=>exact absurd rfl c6
  |snd _ _=>exact absurd rfl c7
  |say _ _ _=>exact absurd rfl c8
  |last=>exact absurd rfl Ō
  |_=>cases hk
 |iff _ _ _ _ _ _=>exact absurd rfl û
 |loop _ _ _ _ _ _=>exact absurd rfl ă
 |bq n i ps b=>cases hk
noncomputable def oI:Option Int->V
 |none=>.Ë
 |some n=>.int n
noncomputable def MO(l r:Int):Option Int->Option Int->Option Int
 |some a,YH b=>if l+a=r+b then YH (1+l+a)else YI
 |_,_=>YI
noncomputable def Mo(m l r:Int):Option Int->Option Int
 |some a=>if l+a=r then YH (1+m*r)else YI
 |none=>YI
noncomputable def Bb(a:Int):Option Int->Option Int
 |some b=>YH (a+b)
 |none=>YI
noncomputable def iA:Option Int->Option Int->Option Int
 |some a,x=>Bb a x
 |none,_=>YI
mutual
noncomputable def ĕ(kn:Nat->Option Int):Pt->Option Int
 | .leaf _ (.call i _)=>Bb 1 (kn i)
 | .leaf _ _=>YH 1
 | .iff _ _ l r f o=>MO l r (cz kn f) (cz kn o)
 | .loop _ _ m l r b=>Mo m l r (cz kn b)
 | .bq _ _ _ _=>YH 1
noncomputable def cz(kn:Nat->Option Int):List Pt->Option Int
 | []=>YH 0
 |t::ts=>iA (ĕ kn t) (cz kn ts)
end
theorem qZ (a b c):iA (iA a b) c=iA a (iA b c):=by
 cases a with
 |none=>rfl
 |some a=>cases b with
  |none=>rfl
  |some b=>cases c with
   |none=>rfl
   |some c=>show YH (a+b+c)=YH (a+(b+c));rw[RF]
theorem AI (a):iA (YH 0) a=a:=by
 cases a with
 |none=>rfl
 |some a=>show YH (0+a)=YH a;rw[RH]
theorem uO(kn:Nat->Option Int):∀(a b:List Pt),cz kn (a++b)=iA (cz kn a) (cz kn b)
 | [],b=>by rw[Pz,show cz kn []=YH 0 by rw[cz],AI]
 |t::a,b=>by
  rw[PZ,cz,cz,uO kn a b,qZ]
theorem Em(kn:Nat->Option Int) (t):cz kn [t]=ĕ kn t:=by
 rw[cz,cz];cases ĕ kn t with
 |none=>rfl
 |some a=>show YH (a+0)=YH a;rw[Int.add_zero]
theorem vx(kn:Nat->Option Int){ts:List Pt}{i:Nat}{t:Pt}(h:ts[i]?=YH t):cz kn (ts.take (i+1))=iA (cz kn (ts.take i)) (ĕ kn t):=by
 rw[P4,h,uO];show iA _ (cz kn [t])=_;rw[Em]
theorem GG(kn:Nat->Option Int){ts:List Pt}{i:Nat}{t:Pt}(h:ts[i]?=YH t)(e:ĕ kn t=YI):cz kn ts=YI:=by
 have:=uO kn (ts.take (i+1)) (ts.drop (i+1));rw[PQ,vx kn h,e]at this;rw[this];cases cz kn (ts.take i)<;>rfl
mutual
noncomputable def ħ(idx:List Nat):Pt->Prop
 | .leaf _ (.call i _)=>i∈idx
 | .leaf _ _=>True
 | .iff _ _ _ _ f o=>rp idx f/\rp idx o
 | .loop _ _ m _ _ b=>0<=m/\m<=1000/\rp idx b
 | .bq _ _ _ _=>True
noncomputable def rp(idx:List Nat):List Pt->Prop
 | []=>True
 |t::ts=>ħ idx t/\rp idx ts
end
theorem yV:∀{ts:List Pt},rp idx ts->t∈ts->ħ idx t
 |t'::ts,h,m=>by
  unfold rp at h;rcases O2.mp m with rfl|m
  ·exact h.1
  exact yV h.2 m
def lF(N:Nat->Str)(H:Hp)(D:RJ)(idx:List Nat)(kn:Nat->V):Prop:=∃kvs,H D=YH (.dK kvs)/\∀i∈idx,L2.cf kvs (.inr (N i))=YH (kn i)
inductive Cm(vs:List V)(H:Hp)(Q:VK)(Ä:XK):Prop
 |mk (x):vs=[oI x]->Q (oI (Bb 1 x)) H->Cm vs H Q Ä
theorem Lh(T:Txt K mg A):T.tX.Hz P w base 1 Cm:=by
 refine T.tX.hs yt (λf Ã A' outer s H vs Q E' hr hu h=>?_);obtain⟨x,rfl,q⟩:=h;refine{_,(ai (aD (Eg (Í FP (fv 0) bX) bX (az aQ af (fv 0))))),?_};cases x with
 |none=>exact{rfl,_,rfl,bW q}
 |some n=>exact{rfl,_,rfl,aY q}
inductive j9(A:Ö)(d:Nat)(vs:List V)(H:Hp)(Q:VK)(Ä:XK):Prop
 |mk (N X L D xs ts idx) (kn:Nat->Option Int):vs=[.ref L,.ref D]->aj X H->X L=YH (.lst xs)->aJ A N X xs ts->lH ts<=d->rp idx ts->(lF N H D idx λi=>oI (kn i))->Q (oI (cz kn ts)) H->j9 A d vs H Q Ä
inductive nJ(A:Ö)(d:Nat)(vs:List V)(H:Hp)(Q:VK)(Ä:XK):Prop
 |mk (N X v D t idx) (kn:Nat->Option Int):vs=[v,.ref D]->aj X H->bf A N X v t->dep t<=d->ħ idx t->(lF N H D idx λi=>oI (kn i))->Q (oI (ĕ kn t)) H->nJ A d vs H Q Ä
noncomputable def spN(sp:Nat->Sp):Nat->Sp
 |0=>λ_ _ _ _=>False
 |d+1=>sp d
inductive j1(A:Ö)(d c:Nat)(vs:List V)(H:Hp)(Q:VK)(Ä:XK):Prop
 |mk (N X v D t idx) (kn:Nat->Option Int):vs=[v,.ref D]->aj X H->bf A N X v t->dep t<=d->ħ idx t->(lF N H D idx λi=>oI (kn i))->t.ci=c->Q (oI (ĕ kn t)) H->j1 A d c vs H Q Ä
inductive CY(L:RJ)(D:RJ)(H:Hp)(kn:Nat->Option Int)(ts:List Pt)(i:Nat)(B:St)(Hc:Hp):Prop
 |mk (a v3 v4):B=[YH (.ref L),YH (.ref D),YH (.int a),v3,v4]->Hc=H->cz kn (ts.take i)=YH a->CY L D H kn ts i B Hc
theorem yB(T:Txt K mg A) (d j) (lZ:T.fb.Hz P w base j (nJ A d)):T.dY.Hz P w base (j+1) (j9 A d):=by
 refine T.dY.hs (k:=j) da (λf Ã A' outer s H vs Q E' hr hu h=>?_);obtain⟨N,X,L,D,xs,ts,idx,kn,rfl,s0,hL,pt,dp,ck,hD,q⟩:=h;refine⟨_,(ae (Ç 2 da.nd af)
  (ae (bS RW rfl (bT (fv 0)) (Ð (i:=3) da.nd rfl)
   (ae (Ç 4 da.nd (ak (hj:=by lia) lZ hr (fv 3^fv 1^ab)))
   (ae (aS (Í FP (fv 4) bX)
    (ai (aD bX))
    aF)
   (ai (Gf (i:=2) da.nd rfl (by first|exact Pg rfl|exact Qs rfl) (fv 4) Ef)))))
  (ai (aD (fv 2))))),?_⟩
 refine ag λM1 K1=>K1 _ _ ?_;clear K1 M1;try dsimp only
 refine ag λM1 K1=>Pg {{_,À.of (s0 _ _ hL)},bQ (K:=K) (xs:=xs) ((CY L D H kn ts)) {0,YI,YI,rfl,rfl,by rw[RB,cz]} (λi B Hc _ zz=>by obtain⟨_,_,_,_,z,_⟩:=zz;exact z▸À.of (s0 _ _ hL)) ?_ ?_}
 ·rintro i v B Hc hv ⟨a,v3,v4,rfl,rfl,ea⟩;obtain⟨t,ht,pa⟩:=pt.get hv;have mt:t∈ts:=Pj ht;try dsimp only
  refine ag λN1 J1=>{N,X,v,D,t,idx,kn,rfl,s0,pa,Pf (uk mt) dp,yV ck mt,hD,?_};have st:=vx kn ht;rw[ea]at st;refine J1 _ _ ?_;clear J1 N1;try dsimp only
  refine ag λN1 J1=>?_;cases e:ĕ kn t with
  |none=>
   rw[GG kn ht e]at q;exact{rfl,_,rfl,bW q}
  |some b=>
   rw[e]at st;exact{rfl,_,rfl,aY (J1 _ _ {_,rfl,a,b,rfl,rfl,a+b,_,_,rfl,rfl,st})}
 rintro B Hc ⟨a,v3,v4,rfl,rfl,ea⟩;rw[show ts.take xs.length=ts by rw[pt.len];exact PM]at ea;rw[ea]at q;exact K1 _ _ q
theorem wO(T:Txt K mg A) (d j) (kx:T.dY.Hz P w base j (spN (j9 A) d)):T.ja.Hz P w base (j+1) (j1 A d 11):=by
 refine T.ja.hs (k:=j) iI (λf Ã A' outer s H vs Q E' hr hu h=>?_);obtain⟨N,X,v,D,t,idx,kn,rfl,s0,pa,dp,ck,hD,ec,q⟩:=h;refine⟨_,(ae (Ç 2 iI.nd (ak (hj:=by lia) kx hr (aK (fv 0) rfl^fv 1^ab)))
  (ae (Ç 3 iI.nd (ak (hj:=by lia) kx hr (aK (fv 0) rfl^fv 1^ab)))
  (ae (aS (PW.pt (pw_or (Í FP (fv 2) bX) (pw_or (Í FP (fv 3) bX) (pw_or1 (Í (rn hu) (az aQ (aK (fv 0) rfl) (fv 2)) (az aQ (aK (fv 0) rfl) (fv 3)))))))
   (ai (aD bX))
   aF)
  (ai (aD (az aQ (az aQ af (aK (fv 0) rfl)) (fv 2))))))),?_⟩
 cases t with
 |leaf n r=>cases r<;>cases ec
 |loop _ _ _ _ _ _=>cases ec
 |bq _ _ _ _=>cases ec
 |iff n val l r fs os=>
 unfold bf at pa;obtain⟨a,dx,p,pf,po,xf,xo,rfl,h1,h2,h3,h4,h5,h6⟩:=pa;unfold dep at dp;unfold ħ at ck;unfold ĕ at q;cases d with
 |zero=>lia
 |succ d=>
 refine ag λM1 K1=>Ø (s0 _ _ h1) T.cb.cl T.fW rfl {N,X,pf,D,xf,fs,idx,kn,rfl,s0,h3,h5,(),ck.1,hD,K1 _ _ ?_};clear K1 M1;try dsimp only
 refine ag λM1 K1=>Ø (s0 _ _ h1) T.cb.cl T.fV rfl {N,X,po,D,xo,os,idx,kn,rfl,s0,h4,h6,(),ck.2,hD,?_};generalize cz kn fs=ef at q;generalize cz kn os=eo at q;refine K1 _ _ ?_;clear K1 M1;try dsimp only
 refine ag λM1 K1=>?_;cases ef with
 |none=>exact{rfl,_,rfl,bW q}
 |some b=>
 refine{rfl,_,rfl,aY ?_};cases eo with
 |none=>exact{rfl,_,rfl,bW q}
 |some c=>
 refine{rfl,_,rfl,aY (Ø (s0 _ _ h1) T.cb.cl T.gO rfl (Ø (s0 _ _ h1) T.cb.cl T.jE rfl {rfl,_,rfl,?_}))};by_cases e:l+b=r+c
 ·refine bg (λz=>absurd z (by show ¬ (!decide (V.int (l+b)=V.int (r+c)))=true;rw[IV,decide_eq_true e];decide)) (λ_=>K1 _ _ ?_);have q:Q (oI (if l+b=r+c then YH (1+l+b)else YI)) H:=q;rw[if_pos e]at q;exact Ø (s0 _ _ h1) T.cb.cl T.gO rfl q
 refine bg (λ_=>?_) (λz=>absurd (by show(!decide (V.int (l+b)=V.int (r+c)))=true;rw[IV,decide_eq_false e];rfl) z);have q:Q (oI (if l+b=r+c then YH (1+l+b)else YI)) H:=q;rw[if_neg e]at q;exact q
theorem xA(T:Txt K mg A) (d j) (kx:T.dY.Hz P w base j (spN (j9 A) d)):T.fT.Hz P w base (j+1) (j1 A d 12):=by
 refine T.fT.hs (k:=j) j6 (λf Ã A' outer s H vs Q E' hr hu h=>?_);obtain⟨N,X,v,D,t,idx,kn,rfl,s0,pa,dp,ck,hD,ec,q⟩:=h;refine⟨_,(ae (Ç 2 j6.nd (ak (hj:=by lia) kx hr (aK (fv 0) rfl^fv 1^ab)))
  (ae (aS (PW.pt (pw_or (Í FP (fv 2) bX) (pw_or1 (Í (rn hu) (az aQ (aK (fv 0) rfl) (fv 2)) (aK (fv 0) rfl)))))
   (ai (aD bX))
   aF)
  (ai (aD (az aQ af (az dh (aK (fv 0) rfl) (aK (fv 0) rfl))))))),?_⟩
 cases t with
 |leaf n r=>cases r<;>cases ec
 |iff _ _ _ _ _ _=>cases ec
 |bq _ _ _ _=>cases ec
 |loop n th m l r b=>
 unfold bf at pa;obtain⟨a,dx,pb,xb,rfl,h1,h2,h3⟩:=pa;unfold dep at dp;unfold ħ at ck;unfold ĕ at q;cases d with
 |zero=>lia
 |succ d=>
 refine ag λM1 K1=>Ø (s0 _ _ h1) T.bA.cl T.fz rfl {N,X,pb,D,xb,b,idx,kn,rfl,s0,h2,h3,(),ck.2.2,hD,?_};generalize cz kn b=ef at q;refine K1 _ _ ?_;clear K1 M1;try dsimp only
 refine ag λM1 K1=>?_;cases ef with
 |none=>exact{rfl,_,rfl,bW q}
 |some b=>
 refine{rfl,_,rfl,aY (Ø (s0 _ _ h1) T.bA.cl T.iQ rfl (Ø (s0 _ _ h1) T.bA.cl T.eJ rfl {rfl,_,rfl,?_}))};have q:Q (oI (if l+b=r then YH (1+m*r)else YI)) H:=q;by_cases e:l+b=r
 ·refine bg (λz=>absurd z (by show ¬ (!decide (V.int (l+b)=V.int r))=true;rw[IV,decide_eq_true e];decide)) (λ_=>K1 _ _ ?_);rw[if_pos e]at q;exact Ø (s0 _ _ h1) T.bA.cl T.hV rfl (Ø (s0 _ _ h1) T.bA.cl T.eJ rfl {Dh () (),q})
 refine bg (λ_=>?_) (λz=>absurd (by show(!decide (V.int (l+b)=V.int r))=true;rw[IV,decide_eq_false e];rfl) z);rw[if_neg e]at q;exact q
theorem AA(T:Txt K mg A) (d j) (nP:T.ja.Hz P w base (j+1) (j1 A d 11)) (kB:T.fT.Hz P w base (j+1) (j1 A d 12)):T.fb.Hz P w base (j+2) (nJ A d):=by
 refine T.fb.hs (k:=j+1) ra (λf Ã A' outer s H vs Q E' hr hu h=>?_);obtain⟨N,X,v,D,t,idx,kn,rfl,s0,pa,dp,ck,hD,q⟩:=h;refine⟨_,(ae (aS (bh (Þ aX T.aG (fv 0^bF T.cH.mg^ab)) (λ_=>rfl))
   (ai (aD (ak (hj:=by lia) (Lh T) hr (px hu (fv 1) (aK (fv 0) rfl)^ab))))
   aF)
  (ae (aS (bh (Þ aX T.aG (fv 0^bF T.cb.mg^ab)) (λ_=>rfl))
   (ai (aD (ak (hj:=by lia) nP hr (fv 0^fv 1^ab))))
   aF)
  (ae (aS (bh (Þ aX T.aG (fv 0^bF T.bA.mg^ab)) (λ_=>rfl))
   (ai (aD (ak (hj:=by lia) kB hr (fv 0^fv 1^ab))))
   aF)
  (ai (aD af))))),?_⟩
 by_cases c9:t.ci=9
 ·refine ag λM1 K1=>kD T s0 pa c9 (bW ?_);cases t with
  |leaf n r=>
   cases r with
   |call i ts=>
    unfold bf at pa;obtain⟨a,dx,p,rfl,h1,_⟩:=pa;unfold ħ at ck;unfold ĕ at q;obtain⟨kvs,e1,e2⟩:=hD;exact Ø (s0 _ _ h1) T.cH.cl T.dM rfl (ä e1 (e2 i ck) ⟨kn i,rfl,q⟩)
   |_=>cases c9
  |_=>cases c9
 refine ag λM1 K1=>gL T s0 pa c9 (aY (K1 _ _ ?_));clear K1 M1;by_cases û:t.ci=11
 ·exact ag λM1 K1=>kD T s0 pa û (bW ⟨N,X,v,D,t,idx,kn,rfl,s0,pa,dp,ck,hD,û,q⟩)
 refine ag λM1 K1=>gL T s0 pa û (aY (K1 _ _ ?_));clear K1 M1;by_cases ă:t.ci=12
 ·exact ag λM1 K1=>kD T s0 pa ă (bW ⟨N,X,v,D,t,idx,kn,rfl,s0,pa,dp,ck,hD,ă,q⟩)
 refine ag λM1 K1=>gL T s0 pa ă (aY (?_));have e:ĕ kn t=YH 1:=by
  cases t with
  |leaf n r=>
   cases r with
   |call i ts=>exact absurd rfl c9
   |_=>simp[ĕ]
  |iff _ _ _ _ _ _=>exact absurd rfl û
  |loop _ _ _ _ _ _=>exact absurd rfl ă
  |bq _ _ _ _=>rw[ĕ]
 rw[e]at q;exact K1 _ _ q
theorem rW(T:Txt K mg A):∀d,T.dY.Hz P w base (3*d+4) (j9 A d)
 |0=>yB T 0 3 (AA T 0 1 (wO T 0 1 (T.dY.hs (k:=0) da (λ_ _ _ _ _ _ _ _ _ _ _ h=>h.elim) (λ_ _ _ _ h=>h.elim))) (xA T 0 1 (T.dY.hs (k:=0) da (λ_ _ _ _ _ _ _ _ _ _ _ h=>h.elim) (λ_ _ _ _ h=>h.elim))))
 |d+1=>yB T (d+1) (3*d+6) (AA T (d+1) (3*d+4) (wO T (d+1) (3*d+4) (rW T d)) (xA T (d+1) (3*d+4) (rW T d)))
theorem Jt(T:Txt K mg A):∀d,T.dY.Hz P w base (3*d+4) (spN (j9 A) d)
 |0=>T.dY.hs (k:=3) da (λ_ _ _ _ _ _ _ _ _ _ _ h=>h.elim) (λ_ _ _ _ h=>h.elim)
 |d+1=>(rW T d).mono ()
theorem Gk(T:Txt K mg A) (d):T.fb.Hz P w base (3*d+6) (nJ A d):=
 AA T d (3*d+4) (wO T d (3*d+4) (Jt T d)) (xA T d (3*d+4) (Jt T d))
inductive Gj(A:Ö)(d:Nat)(vs:List V)(H:Hp)(Q:VK)(Ä:XK):Prop
 |mk (N X v D t idx) (kn:Nat->Option Int):vs=[v,.ref D]->aj X H->bf A N X v t->dep t<=d->ħ idx t->(lF N H D idx λi=>oI (kn i))->Q (.bl (ĕ kn t).isSome) H->Gj A d vs H Q Ä
theorem MV(T:Txt K mg A) (d):T.balanced.Hz P w base (3*d+7) (Gj A d):=by
 refine T.balanced.hs (k:=3*d+6) y4 (λf Ã A' outer s H vs Q E' hr hu h=>?_);obtain⟨N,X,v,D,t,idx,kn,rfl,s0,pa,dp,ck,hD,q⟩:=h;refine{_,(ai (aD (pec fS (ak (hj:=by lia) (Gk T d) hr (fv 0^fv 1^ab)) bX))),{N,X,v,D,t,idx,kn,rfl,s0,pa,dp,ck,hD,rfl,?_}};cases e:ĕ kn t with
 |none=>rw[e]at q;exact q
 |some n=>rw[e]at q;exact q
noncomputable def ĭ:Pt->Nat
 | .bq _ i _ _=>i
 |_=>0
noncomputable def knF{α:Type}(g:(Nat->α)->List Pt->α)(kn:Nat->α)(p:Pt):Nat->α:=λj=>if j=ĭ p then g kn (og p)else kn j
noncomputable def ē{α:Type}(g:(Nat->α)->List Pt->α)(z:α)(ds:List Pt):Nat->α:=ds.foldl (knF g) λ_=>z
structure Kp(N:Nat->Str)(d:Nat)(ds:List Pt):Prop where
 bq:∀p∈ds,Ej p
 dp:∀p∈ds,lH (og p)<=d
 ck:∀(i:Nat)(p:Pt),ds[i]?=YH p->rp ((ds.take i).map ĭ) (og p)
 nm:∀(i j:Nat)(p q:Pt),ds[i]?=YH p->ds[j]?=YH q->N (ĭ p)=N (ĭ q)->i=j
 ln:ds.length<=900
theorem Jb{α:Type}(g:(Nat->α)->List Pt->α)(z:α)(vl:α->V){ds:List Pt}{d i:Nat}{p:Pt}(O:Kp N d ds)(hp:ds[i]?=YH p){kvs:List (Key×V)}(h:∀k∈(ds.take i).map ĭ,L2.cf kvs (.inr (N k))=YH (vl (ē g z (ds.take i) k))) :
  ∀k∈(ds.take (i+1)).map ĭ,L2.cf (YQ kvs (.inr (N (ĭ p))) (vl (g (ē g z (ds.take i)) (og p)))) (.inr (N k))=YH (vl (ē g z (ds.take (i+1)) k)):=by
 intro k hk
 have st:ē g z (ds.take (i+1))=knF g (ē g z (ds.take i)) p:=gX (knF g) (λ_=>z) hp
 rw[uG,st]
 rw[P4,hp,PB]at hk
 show(if(Pq (N k):Key)=Pq (N (ĭ p))then _ else _)=YH (vl (if k=ĭ p then _ else _))
 by_cases e:k=ĭ p
 ·rw[if_pos (by rw[e]),if_pos e]
 have m:k∈(ds.take i).map ĭ:=by
  rcases O5.mp hk with m|m
  ·exact m
  exact absurd (OY.mp m) e
 rw[if_neg e,if_neg,h k m]
 intro z
 obtain⟨q,mq,rfl⟩:=Pb.mp m
 obtain⟨j,hj⟩:=Py mq
 have jl:j<i:=by
  have:=(Pl.mp hj).1;rw[PV]at this;lia
 rw[Q6 jl]at hj
 have:=O.nm j i q p hj hp (Pq.inj z)
 lia
inductive wo(A:Ö)(d:Nat)(vs:List V)(H:Hp)(Q:VK)(Ä:XK):Prop
 |mk (N X v hs ds ms) (z0:vs=[v]) (z1:aj X H) (z2:rK A N X v hs ds ms) (z3:Kp N d ds)
  (z4:∀(D H'),aj H H'->H D=YI->lF N H' D (ds.map ĭ) (λi=>oI (ē cz YI ds i))->Q (.ref D) H'):wo A d vs H Q Ä
inductive Cv(a:RJ)(D:RJ)(H:Hp)(ds:List Pt)(i:Nat)(B:St)(Hc:Hp):Prop
 |mk (v2 kvs):B=[YH (.ref a),YH (.ref D),v2]->aj H Hc->Hc D=YH (.dK kvs)->kvs.length<=i->(∀k∈(ds.take i).map ĭ,L2.cf kvs (.inr (N k))=YH (oI (ē cz YI (ds.take i) k)))->Cv a D H ds i B Hc
theorem GK(T:Txt K mg A) (d):T.AL.Hz P w base (3*d+5) (wo A d):=by
 refine T.AL.hs (k:=3*d+4) qu (λf Ã A' outer s H vs Q E' hr hu h=>?_);obtain⟨N,X,v,hs,ds,ms,rfl,s0,⟨a,dx,n0,n1,n2,x0,x1,x2,rfl,ha,e0,e1,e2,p0,p1,p2⟩,O,q⟩:=h;refine⟨_,(ae (Ç 1 qu.nd (sP))
  (ae (bS RW rfl (bT (aK (fv 0) rfl)) (Ð (i:=2) qu.nd rfl)
   (ai (bR (ak (hj:=by lia) (rW T d) hr (aK (fv 2) rfl^fv 1^ab)) (fD (fv 1) (aK (fv 2) rfl) (fG hu YN)))))
  (ai (aD (fv 1))))),?_⟩
 refine ag λM1 K1 D hD=>?_;obtain⟨s1,eD⟩:=É hD (HO.dK []);generalize upd H D _=H1 at s1 eD⊢;refine K1 _ _ ?_;clear K1 M1;try dsimp only
 refine ag λM1 K1=>Ø ((s0.trans s1) _ _ ha) T.cW.cl T.cJ rfl (Pg {{_,À.of ((s0.trans s1) _ _ e1)},bQ (K:=K) (xs:=x1) ((Cv (N:=N) a D H ds)) {YI,[],rfl,s1,eD,O4 _,by simp} (λi B Hc _ zz=>by obtain⟨_,_,_,z,_,_,_⟩:=zz;exact À.of ((s0.trans z) _ _ e1)) ?_ ?_})
 ·rintro i v B Hc hv ⟨v2,kvs,rfl,sc,eDc,kl,hk⟩;obtain⟨t,ht,pa⟩:=p1.get hv;have mt:t∈ds:=Pj ht;have il:i<ds.length:=(Pl.mp ht).1;have dt:=O.bq t mt;have st:=Jb cz YI oI O ht hk;have ln:=O.ln;cases t with
  |bq n i' ps b=>
   have ž:=pa;unfold bf at ž;obtain⟨a',dx',pp,pb,xb,rfl,h1,h2,h3,h4⟩:=ž;have sX:=s0.trans sc;refine Ø (sX _ _ h1) T.cu.cl T.fC rfl {N,X,pb,D,xb,b,(ds.take i).map ĭ,ē cz YI (ds.take i),rfl,sX,h3,h4,O.dp _ mt,O.ck i _ ht,⟨kvs,eDc,hk⟩,Ø (sX _ _ h1) T.cu.cl T.cV rfl {_,ou.k (k:=.inr (N i')) eDc (aH ()),{_,_,rfl,aj.out sc hD _,ao,?_,st}}};have:(YQ kvs (.inr (N i')) (oI (cz (ē cz YI (ds.take i)) b))).length<=kvs.length+1:=yH _ _ _;lia
  |_=>exact dt.elim
 rintro B Hc ⟨v2,kvs,rfl,sc,eDc,kl,hk⟩;rw[show ds.take x1.length=ds by rw[p1.len];exact PM]at hk;exact K1 _ _ (q D Hc sc hD ⟨kvs,eDc,hk⟩)
theorem yL{kvs:List (Key×V)}{k:Key}(h:k∉kvs.map (·.1)):L2.cf kvs k=YI:=by
 unfold L2.cf;rw[List.find?_eq_none.mpr λkv m=>by
  rw[decide_eq_true_iff];exact λe=>h (e▸P0 m)]
 rfl
theorem lJ:∀kvs acc,((acc++kvs).map (·.1)).Nodup->bu acc kvs=acc++kvs
 | [],acc,_=>by rw[Pu];rfl
 | (k,v)::kvs,acc,h=>by
  have nk:k∉acc.map (·.1):=λm=>by
   rw[PB,Pm]at h;exact(Qp.mp h).2.2 k m k O9 rfl
  show bu (YQ acc k v) kvs=_;rw[uf v (yL nk),lJ kvs (acc++[(k,v)]) (by simpa using h)];simp
noncomputable def ě(N:Nat->Str)(ds:List Pt)(x:Str):List Str:=match ds.find? (λp=>decide (ù N p=x))with
 |some p=>ŋ N p
 |none=>[]
noncomputable def yX(t:Pt):Bool:=decide (t.ci=7)||decide (t.ci=8)
noncomputable def y6(t:Pt):Bool:=decide (t.ci=11)||decide (t.ci=12)
noncomputable def rF(kn:Nat->Option Int)(t:Pt):List Lk:=if yX t=true then[{"the clock",aU t.no,"steps",t.no}]else if y6 t=true/\(ĕ kn t).isSome=false then[{aU t.no,"the clock","steps",t.no}]else[]
theorem EX(kn:Nat->Option Int) (t):(rF kn t).length<=1:=by
 unfold rF;split
 ·exact O4 _
 split<;>simp
noncomputable def qe(b:Bool)(kn:Nat->Option Int)(t:Pt):List Lk:=if b=true then rF kn t else[]
noncomputable def rD(N:Nat->Str)(b:Bool)(ds:List Pt)(e:Le):List Lk:=p8 N (ě N ds) e.1 e.2.1 e.2.2++qe b (ē cz YI ds) e.1
noncomputable def cA(N:Nat->Str)(b:Bool)(ds ms:List Pt):List Lk:=(b4 N ds ms).flatMap (rD N b ds)
structure OkL(N:Nat->Str)(d:Nat)(hs ds ms:List Pt):Prop where
 ok:Ok N d hs ds ms
 dk:Kp N d ds
 nn:(ds.map (ù N)).Nodup
 pn:∀p∈ds,(ŋ N p).length<=100
 k5:∀e∈b4 N ds ms,k5 e.1=true
 lo:∀e∈b4 N ds ms,lOk e.1 e.2.2
 cal:∀e∈b4 N ds ms,GB N (ě N ds) (ds.map (ù N)) e.1
 ll:∀b,(cA N b ds ms).length<=900
 ck:∀e∈b4 N ds ms,ħ (ds.map ĭ) e.1/\dep e.1<=d
def PoE(N:Nat->Str)(X:Hp)(p:Pt)(y:V)(H:Hp):Prop:=∃t pp,y=V.ref t/\H t=YH (.tup [.str (ù N p),.ref pp])/\X pp=YH (.lst (sS (ŋ N p)))
theorem L9:∀{ds:List Pt}{ys:List V},Paired (λp y=>PoE N X p y H) ds ys->∃(ps:List RJ)(kvs:List (Key×V)),ys=ps.map V.ref/\ps.length=kvs.length/\kvs.map (·.1)=ds.map (λp=>Pq (ù N p))/\(∀(i:Nat) t k v,ps[i]?=YH t->kvs[i]?=YH (k,v)->H t=YH (.tup [kV k,v]))/\∀p∈ds,∃pp,(Pq (ù N p),V.ref pp)∈kvs/\X pp=YH (.lst (sS (ŋ N p))):=by
 intro ds ys h;induction h with
 |nil=>exact{[],[],rfl,rfl,rfl,(λi t k v h=>by simp at h),(λp m=>by cases m)}
 |@cons p y _ _ h _ ih=>
  obtain⟨t,pp,rfl,h1,h2⟩:=h;obtain⟨ps,kvs,e1,e2,e3,e4,e5⟩:=ih;refine{t::ps,(Pq (ù N p),V.ref pp)::kvs,by rw[e1];rfl,by simp[e2],by rw[Pm,Pm,e3],λi t' k v ht hk=>?_,λq hq=>?_}
  ·cases i with
   |zero=>cases ht;cases hk;exact h1
   |succ i=>exact e4 i t' k v ht hk
  rcases O2.mp hq with rfl|hq
  ·exact⟨pp,O9,h2⟩
  obtain⟨pp',m,z⟩:=e5 q hq;exact{pp',O8 _ m,z}
theorem BX{kvs:List (Key×V)}{k:Key}{v:V}(nd:(kvs.map (·.1)).Nodup)(m:(k,v)∈kvs):L2.cf kvs k=YH v:=by
 obtain⟨i,hi⟩:=Py m;exact xg nd hi
theorem BZ(nn:(ds.map (ù N)).Nodup)(m:p∈ds):ě N ds (ù N p)=ŋ N p:=by
 have:ds.find? (λq=>decide (ù N q=ù N p))=YH p:=by
  induction ds with
  |nil=>cases m
  |cons q r ih=>
   rw[Pm,P1]at nn;rw[Qf];by_cases e:ù N q=ù N p
   ·rw[decide_eq_true e];rcases O2.mp m with z|z
    ·rw[z]
    exact absurd (e▸P0 z) nn.1
   rw[decide_eq_false e];rcases O2.mp m with z|z
   ·exact absurd (by rw[z]) e
   exact ih nn.2 z
 unfold ě;rw[this]
inductive C6(A:Ö)(d:Nat)(vs:List V)(H:Hp)(Q:VK)(Ä:XK):Prop
 |mk (N X v D t idx) (kn:Nat->Option Int) (z0:vs=[v,.ref D]) (z1:aj X H) (z2:bf A N X v t) (z3:0<=t.no/\t.no<=1000) (z4:dep t<=d) (z5:ħ idx t) (z6:lF N H D idx λi=>oI (kn i))
  (z7:∀(R ys H'),aj H H'->H R=YI->H' R=YH (.lst ys)->ė H' (rF kn t) ys->Q (.ref R) H'):C6 A d vs H Q Ä
theorem Lj(T:Txt K mg A) (d):T.oQ.Hz P w base (3*d+8) (C6 A d):=by
 refine T.oQ.hs (k:=3*d+7) oh (λf Ã A' outer s H vs Q E' hr hu h=>?_);obtain⟨N,X,v,D,t,idx,kn,rfl,s0,pa,nt,dp,ck,hD,q⟩:=h;refine⟨_,(ae (Ç 2 oh.nd (ak (hj:=by lia) (pJ T) hr (aK (fv 0) rfl^ab)))
  (ae (aS (PW.pt (pw_or (bh (Þ aX T.aG (fv 0^bF T.dw.mg^ab)) (λ_=>rfl)) (pw_or1 (bh (Þ aX T.aG (fv 0^bF T.cy.mg^ab)) (λ_=>rfl)))))
   (ai (aD (aI (aV (xE T.rY^fv 2^aw^aK (fv 0) rfl^ab)^ab))))
   aF)
  (ae (aS (PW.pt (pw_and (PW.pt (pw_or (bh (Þ aX T.aG (fv 0^bF T.cb.mg^ab)) (λ_=>rfl)) (pw_or1 (bh (Þ aX T.aG (fv 0^bF T.bA.mg^ab)) (λ_=>rfl))))) (pw_and1 (i5 (bh (ak (hj:=by lia) (MV T d) hr (fv 0^fv 1^ab)) (λ_=>rfl))))))
   (ai (aD (aI (aV (fv 2^xE T.rY^aw^aK (fv 0) rfl^ab)^ab))))
   aF)
  (ai (aD (aI ab)))))),?_⟩
 refine ag λM1 K1=>eO T s0 pa {_,rfl,nt.1,nt.2,K1 _ _ ?_};clear K1 M1;try dsimp only
 refine ag λM1 K1=>?_;have sd:yX t=true->4<=sizeLine/\∀p,H p=YI->1<=sizeLine/\∀l,upd H p (.tup [V.str "the clock",V.str (aU t.no),V.str "steps",V.int t.no]) l=YI->Q (.ref l) (upd (upd H p (.tup [V.str "the clock",V.str (aU t.no),V.str "steps",V.int t.no])) l (.lst [V.ref p])):=λz=>by
  refine{∅,λp hp=>{∅,λl hl=>?_}};have s1:=aj.upd hp (HO.tup [V.str "the clock",V.str (aU t.no),V.str "steps",V.int t.no]);have s2:=aj.upd hl (HO.lst [V.ref p]);refine q l [V.ref p] _ (s1.trans s2) (aj.free s1 hl) ao ?_;unfold rF;rw[if_pos z];exact .cons {p,rfl,s2 _ _ ao} .nil
 have no:yX t=false->M1 [YH v,YH (.ref D),YH (.str (aU t.no))] H:=λz=>K1 _ _ (by
  clear K1 M1 sd;try dsimp only
  refine ag λM1 K1=>?_;have un:y6 t=true->(ĕ kn t).isSome=false->4<=sizeLine/\∀p,H p=YI->1<=sizeLine/\∀l,upd H p (.tup [V.str (aU t.no),V.str "the clock",V.str "steps",V.int t.no]) l=YI->Q (.ref l) (upd (upd H p (.tup [V.str (aU t.no),V.str "the clock",V.str "steps",V.int t.no])) l (.lst [V.ref p])):=λy ex=>by
   refine{∅,λp hp=>{∅,λl hl=>?_}};have s1:=aj.upd hp (HO.tup [V.str (aU t.no),V.str "the clock",V.str "steps",V.int t.no]);have s2:=aj.upd hl (HO.lst [V.ref p]);refine q l [V.ref p] _ (s1.trans s2) (aj.free s1 hl) ao ?_;unfold rF;rw[z,if_neg Pa,if_pos ⟨y,ex⟩];exact .cons {p,rfl,s2 _ _ ao} .nil
  have nil:¬ (y6 t=true/\(ĕ kn t).isSome=false)->M1 [YH v,YH (.ref D),YH (.str (aU t.no))] H:=λy=>K1 _ _ (by
   refine{Pd _,λR hR=>q R [] _ (aj.upd hR _) hR ao ?_};unfold rF;rw[z,if_neg Pa,if_neg y];exact .nil)
  have bal:∀b,b=(ĕ kn t).isSome->y6 t=true->(b=true->M1 [YH v,YH (.ref D),YH (.str (aU t.no))] H)/\(b=false->4<=sizeLine/\∀p,H p=YI->1<=sizeLine/\∀l,upd H p (.tup [V.str (aU t.no),V.str "the clock",V.str "steps",V.int t.no]) l=YI->Q (.ref l) (upd (upd H p (.tup [V.str (aU t.no),V.str "the clock",V.str "steps",V.int t.no])) l (.lst [V.ref p]))):=λb eb y=>{λz=>nil λw=>(by rw[<-eb,z]at w;cases w.2),λz=>un y (by rw[<-eb,z])};clear K1;by_cases û:t.ci=11
  ·have b:=bal _ rfl (by unfold y6;rw[decide_eq_true û];rfl);refine kD T s0 pa û (bW {N,X,v,D,t,idx,kn,rfl,s0,pa,dp,ck,hD,_,rfl,?_});cases e:(ĕ kn t).isSome with
   |true=>exact aY (b.1 e)
   |false=>exact bW (eO T s0 pa (b.2 e))
  by_cases ă:t.ci=12
  ·have b:=bal _ rfl (by unfold y6;rw[decide_eq_true ă,decide_eq_false û];rfl);refine gL T s0 pa û (aY (kD T s0 pa ă (bW {N,X,v,D,t,idx,kn,rfl,s0,pa,dp,ck,hD,_,rfl,?_})));cases e:(ĕ kn t).isSome with
   |true=>exact aY (b.1 e)
   |false=>exact bW (eO T s0 pa (b.2 e))
  exact gL T s0 pa û (aY (gL T s0 pa ă (aY (nil λw=>by
   have w:=w.1;unfold y6 at w;rw[decide_eq_false û,decide_eq_false ă]at w;cases w)))))
 clear K1;by_cases c7:t.ci=7
 ·exact kD T s0 pa c7 (bW (eO T s0 pa (sd (by unfold yX;rw[decide_eq_true c7];rfl))))
 by_cases c8:t.ci=8
 ·exact gL T s0 pa c7 (aY (kD T s0 pa c8 (bW (eO T s0 pa (sd (by unfold yX;rw[decide_eq_true c8,decide_eq_false c7];rfl))))))
 exact gL T s0 pa c7 (aY (gL T s0 pa c8 (aY (no (by unfold yX;rw[decide_eq_false c7,decide_eq_false c8];rfl)))))
inductive yD(A:Ö)(d:Nat)(vs:List V)(H:Hp)(Q:VK)(Ä:XK):Prop
 |mk (N X v b hs ds ms) (z0:vs=[v,.bl b]) (z1:aj X H) (z2:rK A N X v hs ds ms) (z3:OkL N d hs ds ms)
  (z4:∀(R ys H'),aj H H'->H R=YI->H' R=YH (.lst ys)->ė H' (cA N b ds ms) ys->Q (.ref R) H'):yD A d vs H Q Ä
inductive Cy(a:RJ)(b:Bool)(D:RJ)(D2:RJ)(F:RJ)(H5:Hp)(es:List Le)(ds:List Pt)(i:Nat)(B:St)(Hd:Hp):Prop
 |mk(ws:List V)(v5 v6 v7:Option V):B=[YH (.ref a),YH (.bl b),YH (.ref D),YH (.ref D2),YH (.ref F),v5,v6,v7]->Sm [F] H5 Hd->Hd F=YH (.lst ws)->ė Hd ((es.take i).flatMap (rD N b ds)) ws->Cy a b D D2 F H5 es ds i B Hd
theorem rS(T:Txt K mg A) (d):T.links.Hz P w base (3*d+9) (yD A d):=by
 refine T.links.hs (k:=3*d+8) hU (λf Ã A' outer s H vs Q E' hr hu h=>?_);obtain⟨N,X,v,b,hs,ds,ms,rfl,s0,pg,O,q⟩:=h;obtain⟨a,dx,n0,n1,n2,x0,x1,x2,rfl,ha,e0,e1,e2,p0,p1,p2⟩:=id pg;have pn:∀i p,ds[i]?=YH p->∀v,x1[i]?=YH v->bf A N X v p:=λi p hp v hv=>by
  obtain⟨t,ht,pa⟩:=p1.get hv;rw[hp]at ht;cases ht;exact pa
 refine⟨_,(ae (Ç 2 hU.nd (ĥ r9 T.mT ((eA (N:=["deed"]) (own:=1) (fr:=[]) (cw.of (by kernel_rfl!)) rfl (bT (aK (fv 0) rfl)) (λb=>Ð (i:=0) (show Sz (["deed"]:List Ti) by decide+kernel) rfl) (λb=>kz) (λb=>aV (aK (fv 0) rfl^aK (fv 0) rfl^ab)))^ab)))
  (ae (Ç 3 hU.nd (ak (hj:=by lia) (GK T d) hr (fv 0^ab)))
  (ae (Ç 4 hU.nd (aI ab))
  (ae (bS RW rfl (bT (ak (hj:=by lia) (Bx T d) hr (fv 0^ab))) (dj rfl (aN (Ð (i:=5) hU.nd rfl) (aN (Ð (i:=6) hU.nd rfl) (aN (Ð (i:=7) hU.nd rfl) cc))))
   (ae (aR (gc (fv 4) ((ak (hj:=by lia) (Lv T) hr (fv 5^fv 6^fv 7^fv 2^ab))^ab)))
   (ai (aS (bh (fv 1) (λ_=>rfl))
    (ai (aR (gc (fv 4) ((ak (hj:=by lia) (Lj T d) hr (fv 5^fv 3^ab))^ab))))
    aF))))
  (ai (aD (fv 4))))))),?_⟩
 have lx:=p1.len;have dln:=O.dk.ln;refine ag λM1 K1=>Ø (s0 _ _ ha) T.cW.cl T.cJ rfl (Pg {{_,À.of (s0 _ _ e1)},iD (K:=K) (own:=1) ds (λ_=>true) (PoE N X) (À.of (s0 _ _ e1)) lx (aH ()) ?_ ?_ ?_ ?_})
 ·intro b i x p v0 H1 Nn Y hx he hv s1 no yes;obtain⟨u0,rfl⟩:=Af hv;have pa:=pn i p he x hx;have dt:=O.dk.bq p (Pj he);cases p with
  |bq n i' ps b'=>
   unfold bf at pa;obtain⟨a',dx',pp,pb,xb,rfl,h1,h2,h3,h4⟩:=pa;have sX:=s0.trans s1;exact Ø (sX _ _ h1) T.cu.cl T.cV rfl (Ø (sX _ _ h1) T.cu.cl T.eE rfl {by show 2<=sizeLine;decide,λtp ß=>yes rfl [YH (.ref a')] _ _ rfl (aj.upd ß _) {tp,pp,rfl,ao,by rw[h2];simp[sS,ŋ,nV,Xo]}})
  |_=>exact dt.elim
 ·rintro e y H1 H2 s1 ⟨t,pp,e1,h1,h2⟩;exact{t,pp,e1,s1 _ _ h1,h2}
 ·rintro e y H1 D ys zs hD ⟨t,pp,e1,h1,h2⟩;exact{t,pp,e1,au (λz=>by rw[z,hD]at h1;cases h1) h1,h2}
 intro L1 H1 ys hL1 s1 Ŕ pr;rw[gb]at pr;obtain⟨ps,kvs,rfl,k2,k3,k4,k5'⟩:=L9 pr;have kl:kvs.length=ds.length:=by
  have:=congrArg TF k3;simpa using this
 have knd:(kvs.map (·.1)).Nodup:=by
  rw[k3];have h:=O.nn;unfold Sz at h⊢;rw[QG]at h⊢;exact h.imp λn e=>n (Pq.inj e)
 refine{L1,ps,kvs,rfl,À.of Ŕ,k2,(),λi t k v ht hk=>È.of (k4 i t k v ht hk),λD hD=>?_};obtain⟨s2,eD⟩:=É hD (HO.dK (bu [] kvs));generalize upd H1 D _=H2 at s2 eD⊢;rw[lJ kvs [] (by simpa using knd),Pz]at eD;have PO:FY X H2 D (ě N ds) (ds.map (ù N)):=by
  refine{kvs,eD,λx hx=>?_};obtain⟨p,mp,rfl⟩:=Pb.mp hx;rw[BZ O.nn mp];obtain⟨pp,m,z⟩:=k5' p mp;exact⟨O.pn p mp,pp,BX knd m,z⟩
 have t2:=s1.trans s2;refine K1 _ _ ?_;clear K1 M1;try dsimp only
 refine ag λM1 K1=>{N,X,.ref a,hs,ds,ms,rfl,s0.trans t2,pg,O.dk,λD2 H3 s3 hD2 kD2=>K1 _ _ ?_};clear K1 M1;try dsimp only
 refine ag λM1 K1=>{Pd _,λF hF=>?_};obtain⟨s4,eF⟩:=É hF (HO.lst []);generalize upd H3 F _=H4 at s4 eF⊢;have t4:=(t2.trans s3).trans s4;have hF0:H F=YI:=aj.free (t2.trans s3) hF;have eD4:=s4 _ _ (s3 _ _ eD);have FD:F≠D:=YJ hF (s3 _ _ eD);refine K1 _ _ ?_;clear K1 M1;try dsimp only
 refine ag λM1 K1=>{N,X,.ref a,hs,ds,ms,rfl,s0.trans t4,pg,O.ok,λL zs H5 s5 hL eL ly=>?_};have LF:L≠F:=YJ hL eF;have nb:=O.ok.nb;have ok5:=O.k5;have okc:=O.cal;have okl:=O.lo;have oll:=O.ll b;have ock:=O.ck;unfold cA at oll q;generalize b4 N ds ms=es at ly nb ok5 okc okl oll ock q;have lly:=RT ly;refine Pg {{_,À.of eL},bQ (K:=K) (xs:=zs) ((Cy (N:=N) a b D D2 F H5 es ds)) {[],YI,YI,YI,rfl,Sm.refl _ _,s5 _ _ eF,.nil} (λi B Hd _ zz=>by obtain⟨_,_,_,_,_,z,_⟩:=zz;exact À.of (z _ _ (λm=>LF (OY.mp m)) eL)) ?_ ?_}
 ·rintro i y B Hd hy ⟨ws,v5,v6,v7,rfl,sd,hFd,lw⟩;obtain⟨e,he,tp,v,rfl,ũ,pa⟩:=cq ly hy;have etp':=sd _ _ (λm=>by rw[OY.mp m,s5 _ _ eF]at ũ;cases ũ) ũ;have sX:aj X Hd:=sd.same ((s0.trans t4).trans s5) (λm hm=>by
   rw[OY.mp hm];exact aj.free s0 hF0)
  have me:=Pj he;have ne:=nb e me;have eDd:Hd D=YH (.dK kvs):=sd _ _ (λm=>FD (OY.mp m).symm) (s5 _ _ eD4);have st:=pK (rD N b ds) he;have sl:=Ep (rD N b ds) he;have llw:=RT lw;have kDd:lF N Hd D2 (ds.map ĭ) λi=>oI (ē cz YI ds i):=by
   obtain⟨kw,k1,k2⟩:=kD2;exact{kw,sd _ _ (λm=>by rw[OY.mp m]at k1;rw[k1]at hF;cases hF) ((s4.trans s5) _ _ k1),k2}
  have slB:(rD N b ds e).length=(p8 N (ě N ds) e.1 e.2.1 e.2.2).length+(qe b (ē cz YI ds) e.1).length:=OX;try dsimp only
  refine{tp,_,rfl,È.of etp',rfl,_,_,rfl,_,_,rfl,_,_,rfl,rfl,ag λN1 J1=>{Pg {rfl,_,À.of hFd},N,X,v,e.1,e.2.1,e.2.2,D,ě N ds,ds.map (ù N),rfl,sX,pa,ok5 e me,ne,okl e me,PO.same (λĝ h=>by rw[eD]at h;cases h;exact eDd),okc e me,λR2 us He s6 hR2 ī l6=>?_}};have lu:=RT l6;refine{_,_,_,_,rfl,rfl,s6 _ _ hFd,ī,sz (),J1 _ _ ?_};clear J1 N1;have sd1:=(sd.trans (Sm.new s6)).trans (Sm.at (H:=He) (OY.mpr rfl) (.lst (ws++us)));have hF1:upd He F (.lst (ws++us)) F=YH (.lst (ws++us)):=ao;have lw1:=pS (H:=H) (R2:=R2) s6 hFd lw l6;have kD1:lF N (upd He F (.lst (ws++us))) D2 (ds.map ĭ) λi=>oI (ē cz YI ds i):=by
   obtain⟨kw,k1,k2⟩:=kDd;exact{kw,au (λz=>by rw[z,hFd]at k1;cases k1) (s6 _ _ k1),k2}
  generalize upd He F (.lst (ws++us))=H6 at sd1 hF1 lw1 kD1⊢;have sX1:aj X H6:=sd1.same ((s0.trans t4).trans s5) (λm hm=>by
   rw[OY.mp hm];exact aj.free s0 hF0)
  obtain⟨oc1,oc2⟩:=ock e me;cases b with
  |false=>
   refine{_,rfl,aY {_,_,_,_,rfl,sd1,hF1,?_}};rw[st,show rD N false ds e=p8 N (ě N ds) e.1 e.2.1 e.2.2 from Pu _];exact lw1
  |true=>
   refine{_,rfl,bW {Pg {rfl,_,À.of hF1},N,X,v,D2,e.1,ds.map ĭ,ē cz YI ds,rfl,sX1,pa,ne,oc2,oc1,kD1,λR3 u3 H7 s7 hR3 eR3 l7=>?_}};have lu3:=RT l7;have slB':(qe true (ē cz YI ds) e.1).length=(rF (ē cz YI ds) e.1).length:=rfl;refine{_,_,_,_,rfl,rfl,s7 _ _ hF1,eR3,sz (by rw[OX];lia),{_,_,_,_,rfl,(sd1.trans (Sm.new s7)).trans (Sm.at (OY.mpr rfl) _),ao,?_}};rw[st,show rD N true ds e=p8 N (ě N ds) e.1 e.2.1 e.2.2++rF (ē cz YI ds) e.1 from rfl,<-Pn];exact pS (H:=H) (R2:=R3) s7 hF1 lw1 l7
 rintro B Hd ⟨ws,v5,v6,v7,rfl,sd,hFd,lw⟩;rw[show es.take zs.length=es by rw[<-lly];exact PM]at lw;exact K1 _ _ (q F ws Hd (sd.same (t4.trans s5) (λm hm=>by rw[OY.mp hm];exact hF0)) hF0 hFd lw)
noncomputable def qY(t:Pt):Bool:=decide (t.ci=2)||decide (t.ci=4)
noncomputable def sOf(N:Nat->Str):Pt->Str×Int
 | .leaf _ (.Ŋ i r _)=>(N i,r)
 | .leaf _ (.lt i r)=>(N i,r)
 |_=>(R7,0)
noncomputable def eY(N:Nat->Str)(hs:List Pt):List (Str×Int):=(hs.filter qY).map (sOf N)
def SrE(s:Str×Int)(y:V)(H:Hp):Prop:=∃t,y=V.ref t/\H t=YH (.tup [.str s.1,.int s.2])
theorem Lz(T:Txt K mg A){X H:Hp}(s:aj X H){v:V}{t:Pt}(h:bf A N X v t)(e:qY t=true){Q Q2:VK}(q:(∀{R:VK},R (.int (sOf N t).2) H->om K "rank" v H R)->Q (.str (sOf N t).1) H):om K "name" v H Q:=by
 cases t with
 |leaf n r=>
  unfold bf at h;obtain⟨a,dx,p,rfl,h1,h2⟩:=h;cases r with
  |Ŋ i _ _=>exact Ø (s _ _ h1) T.cP.cl T.eG rfl (q λr=>Ø (s _ _ h1) T.cP.cl T.gG rfl r)
  |lt i _=>exact Ø (s _ _ h1) T.eg.cl T.fZ rfl (q λr=>Ø (s _ _ h1) T.eg.cl T.jL rfl r)
  |_=>cases e
 |_=>cases e
inductive tY(A:Ö)(vs:List V)(H:Hp)(Q:VK)(Ä:XK):Prop
 |mk (N X v hs ds ms) (z0:vs=[v]) (z1:aj X H) (z2:rK A N X v hs ds ms) (z3:hs.length<=300)
  (z4:∀(R ys H'),aj H H'->H R=YI->H' R=YH (.lst ys)->Paired (λs y=>SrE s y H') (eY N hs) ys->Q (.ref R) H'):tY A vs H Q Ä
theorem vJ(T:Txt K mg A):T.sources.Hz P w base 1 (tY A):=by
 refine T.sources.hs AE (λf Ã A' outer s H vs Q E' hr hu h=>?_);obtain⟨N,X,v,hs,ds,ms,rfl,s0,⟨a,dx,n0,n1,n2,x0,x1,x2,rfl,ha,e0,e1,e2,p0,p1,p2⟩,hl,q⟩:=h;refine{_,(ai (aD (eA (N:=["head"]) (own:=1) (fr:=[]) (cw.of (by kernel_rfl!)) rfl (bT (aK (fv 0) rfl)) (λb=>Ð (i:=0) (show Sz (["head"]:List Ti) by decide+kernel) rfl) (λb=>ye (PW.pt (pw_or (bh (Þ aX T.aG (fv 0^bF T.cP.mg^ab)) (λ_=>rfl)) (pw_or1 (bh (Þ aX T.aG (fv 0^bF T.eg.mg^ab)) (λ_=>rfl)))))) (λb=>aV (aK (fv 0) rfl^aK (fv 0) rfl^ab))))),Ø (s0 _ _ ha) T.cW.cl T.eI rfl (Pg {{_,À.of (s0 _ _ e0)},iD (K:=K) (own:=1) hs qY (λt y H=>SrE (sOf N t) y H) (À.of (s0 _ _ e0)) p0.len (aH (by rw[p0.len];lia)) ?_ ?_ ?_ ?_})}
 ·intro b i x t v0 H1 Nn Y hx he hv s1 no yes;obtain⟨u0,rfl⟩:=Af hv;obtain⟨t',ht,pa⟩:=p0.get hx;rw[he]at ht;cases ht;have sX:=s0.trans s1;have go:qY t=true->om K "name" x H1 λv1 H2=>om K "rank" x H2 λv2 H3=>2<=sizeLine/\∀p,H3 p=YI->Y [YH x] (.ref p) (upd H3 p (.tup [v1,v2])):=λe=>by
   exact Lz T sX pa e (Q2:=Q) λrk=>rk {∅,λtp ß=>yes e [YH x] _ _ rfl (aj.upd ß _) ⟨tp,rfl,ao⟩}
  by_cases c2:t.ci=2
  ·exact kD T sX pa c2 (bW (bW (go (by unfold qY;rw[decide_eq_true c2];rfl))))
  by_cases c4:t.ci=4
  ·exact gL T sX pa c2 (aY (kD T sX pa c4 (bW (go (by unfold qY;rw[decide_eq_true c4,Bool.or_true])))))
  exact gL T sX pa c2 (aY (gL T sX pa c4 (aY (no (by unfold qY;rw[decide_eq_false c2,decide_eq_false c4];rfl) [YH x] _ rfl (aj.refl _)))))
 ·rintro e y H1 H2 s1 ⟨t,e1,h1⟩;exact{t,e1,s1 _ _ h1}
 ·rintro e y H1 D ys zs hD ⟨t,e1,h1⟩;exact{t,e1,au (λz=>by rw[z,hD]at h1;cases h1) h1}
 intro R H1 ys hR s1 e1 pr;exact q R ys H1 s1 hR e1 (uQ _ pr)
noncomputable def YS(N:Nat->Str)(hs:List Pt)(rk:Int):List Str:=((eY N hs).filter λs=>decide (s.2=rk)).map (·.1)
theorem G7:∀{ys:List V},Paired (λt y=>y=V.str (f t)) src ys->ys=sS (src.map f):=by
 intro ys h;induction h with
 |nil=>rfl
 |cons h _ ih=>rw[h,ih];rfl
inductive gQ(A:Ö)(vs:List V)(H:Hp)(Q:VK)(Ä:XK):Prop
 |mk (N X v rk hs ds ms) (z0:vs=[v,.int rk]) (z1:aj X H) (z2:rK A N X v hs ds ms) (z3:hs.length<=300)
  (z4:∀(R H'),aj H H'->H R=YI->H' R=YH (.lst (sS (YS N hs rk)))->Q (.ref R) H'):gQ A vs H Q Ä
theorem zi(T:Txt K mg A):T.oG.Hz P w base 2 (gQ A):=by
 refine T.oG.hs (k:=1) vi (λf Ã A' outer s H vs Q E' hr hu h=>?_);obtain⟨N,X,v,rk,hs,ds,ms,rfl,s0,pg,hl,q⟩:=h;refine{_,(ai (aD (eA (N:=["place","its_rank","rank"]) (own:=2) (fr:=[1]) (cw.of (by kernel_rfl!)) rfl (bT (ak (vJ T) hr (fv 0^ab))) (λb=>dj rfl (aN (Ð (i:=0) (show Sz (["place","its_rank","rank"]:List Ti) by decide+kernel) rfl) (aN (Ð (i:=1) (show Sz (["place","its_rank","rank"]:List Ti) by decide+kernel) rfl) cc))) (λb=>ye (Í (cn hu) (fv 1) (fv 2))) (λb=>fv 0)))),{N,X,v,hs,ds,ms,rfl,s0,pg,hl,λL ys H1 s1 hL eL pr=>?_}};have ln:=RT pr;have l2:(eY N hs).length<=hs.length:=by
  unfold eY;rw[OZ];exact Qd _ _
 refine Pg {{_,À.of eL},iD (K:=K) (own:=2) (eY N hs) (λs=>decide (s.2=rk)) (λs y _=>y=.str s.1) (À.of eL) ln.symm (aH ()) ?_ (λ_ _ _ _ _ h=>h) (λ_ _ _ _ _ _ _ h=>h) ?_}
 ·intro b i x t v0 H2 Nn Y hx he hv s2 no yes;obtain⟨u0,u1,rfl⟩:=MA hv;obtain⟨t',ht,tp,rfl,ũ⟩:=cq pr hx;rw[he]at ht;cases ht;refine{tp,_,rfl,È.of (s2 _ _ ũ),rfl,_,_,rfl,_,_,rfl,rfl,{rfl,_,rfl,bg (λc=>?_) (λc=>?_)}}
  ·have e:t.2=rk:=V.int.inj (of_decide_eq_true c);exact yes (decide_eq_true e) [YH (.str t.1),YH (.int t.2)] _ _ rfl (aj.refl _) rfl
  have e:¬ t.2=rk:=λz=>c (decide_eq_true (by rw[z]));exact no (decide_eq_false e) [YH (.str t.1),YH (.int t.2)] _ rfl (aj.refl _)
 intro R H2 zs hR s2 e2 pz;refine q R H2 (s1.trans s2) (aj.free s1 hR) ?_;rw[e2,G7 pz];rfl
noncomputable def ig(ls:List Lk)(x:Str):List Lk:=ls.filter λl=>decide (l.fr=x)
structure fR(H:Hp)(W:RJ)(kvs:List (Key×V))(pls:List Str)(wa:Str->RJ)(ls:List Lk):Prop where
 d:H W=YH (.dK kvs)
 v:∀x∈pls,L2.cf kvs (.inr x)=YH (.ref (wa x))
 i:∀x∈pls,∀y∈pls,wa x=wa y->x=y
 l:∀x∈pls,∃ys,H (wa x)=YH (.lst ys)/\ė H (ig ls x) ys
theorem fR.same(h:fR H W kvs pls wa ls)(s:aj H H'):fR H' W kvs pls wa ls:=
 ⟨s _ _ h.d,h.v,h.i,λx hx=>by
  obtain⟨ys,e,l⟩:=h.l x hx;exact{ys,s _ _ e,l.same λ_ _ z=>s _ _ z}⟩
theorem fR.push{H W kvs pls wa ls}(h:fR H W kvs pls wa ls){l t}(ht:H t=YH (.tup l.vs))(hl:l.fr∈pls){ys}(e:H (wa l.fr)=YH (.lst ys))(pr:ė H (ig ls l.fr) ys) :
  fR (upd H (wa l.fr) (.lst (ys++[.ref t]))) W kvs pls wa (ls++[l]):=by
 have kp:∀x w,H x=YH (.tup w)->upd H (wa l.fr) (.lst (ys++[.ref t])) x=YH (.tup w):=λx w z=>au (λy=>by rw[y,e]at z;cases z) z
 refine{au (λz=>by have:=h.d;rw[z,e]at this;cases this) h.d,h.v,h.i,λx hx=>?_}
 by_cases c:x=l.fr
 ·subst c;refine{_,ao,?_};have:ig (ls++[l]) l.fr=ig ls l.fr++[l]:=by
   unfold ig;rw[P8,Vz (by exact decide_eq_true rfl),Qz]
  rw[this];exact Paired.two (pr.same kp) (.cons {t,rfl,kp _ _ ht} .nil)
 obtain⟨zs,e2,p2⟩:=h.l x hx
 have:ig (ls++[l]) x=ig ls x:=by
  unfold ig;rw[P8,Vy (by simp;exact λz=>c z.symm),Qz,Pu]
 rw[this]
 exact{zs,au (λz=>c (h.i x hx _ hl z)) e2,p2.same kp}
structure WyP(G:Hp)(pls:List Str)(D:RJ)(i:Nat)(ys:List V)(H:Hp)(ls:List RJ):Prop where
 n:ls.length=i
 m:ys.length=i
 nd:ls.Nodup
 nD:D∉ls
 e:∀l∈ls,H l=YH (.lst [])
 f:∀l∈ls,G l=YI
 t:∀(j:Nat) y x l,ys[j]?=YH y->pls[j]?=YH x->ls[j]?=YH l->∃t,y=V.ref t/\H t=YH (.tup [.str x,.ref l])
theorem Gv{H:Hp}:∀{pls:List Str}{ls:List RJ}{ys:List V},ls.length=pls.length->ys.length=pls.length->(∀(j:Nat) y x l,ys[j]?=YH y->pls[j]?=YH x->ls[j]?=YH l->∃t,y=V.ref t/\H t=YH (.tup [.str x,.ref l]))->
  ∃ps:List RJ,ys=ps.map V.ref/\ps.length=pls.length/\∀(i:Nat) t k v,ps[i]?=YH t->((pls.zip ls).map λxl=>((Pq xl.1:Key),V.ref xl.2))[i]?=YH (k,v)->H t=YH (.tup [kV k,v])
 | [],ls,ys,h1,h2,h3=>by
  cases ys with
  |nil=>exact{[],rfl,rfl,λi t k v h=>by simp at h}
  |cons y r=>cases h2
 |x::pls,l::ls,y::ys,h1,h2,h3=>by
  obtain⟨t,e,ht⟩:=h3 0 y x l rfl rfl rfl;obtain⟨ps,e1,e2,e3⟩:=Gv (pls:=pls) (ls:=ls) (ys:=ys) (by simpa using h1) (by simpa using h2) (λj y' x' l' a b c=>h3 (j+1) y' x' l' a b c);refine{t::ps,by rw[e,e1];rfl,by simp[e2],λi t' k v a b=>?_};cases i with
  |zero=>cases a;cases b;exact ht
  |succ i=>exact e3 i t' k v a b
 |x::pls,[],ys,h1,_,_=>by cases h1
 |x::pls,l::ls,[],_,h2,_=>by cases h2
theorem YZ:∀{pls:List Str}{ls:List RJ},ls.Nodup->(x,l)∈pls.zip ls->(y,l)∈pls.zip ls->x=y
 |p::pls,q::ls,nd,h1,h2=>by
  rw[P1]at nd;rw[List.zip_cons_cons,O2]at h1 h2;rcases h1 with h1|h1<;>rcases h2 with h2|h2
  ·cases h1;cases h2;rfl
  ·cases h1;exact absurd (Qx h2).2 nd.1
  ·cases h2;exact absurd (Qx h1).2 nd.1
  exact YZ nd.2 h1 h2
 | [],_,_,h1,_=>by simp at h1
 |_::_,[],_,h1,_=>by simp at h1
noncomputable def waO(kvs:List (Key×V))(x:Str):RJ:=match L2.cf kvs (.inr x)with
 |some (.ref l)=>l
 |_=>0
inductive CV(A:Ö)(d:Nat)(vs:List V)(H:Hp)(Q:VK)(Ä:XK):Prop
 |mk (N X v b hs ds ms) (z0:vs=[v,.bl b]) (z1:aj X H) (z2:rK A N X v hs ds ms) (z3:OkL N d hs ds ms) (z5:∀l∈cA N b ds ms,l.fr∈aT N hs ds ms)
  (z4:∀(W kvs wa H'),aj H H'->fR H' W kvs (aT N hs ds ms) wa (cA N b ds ms)->Q (.ref W) H'):CV A d vs H Q Ä
theorem Ge(T:Txt K mg A) (d):T.wV.Hz P w base (3*d+10) (CV A d):=by
 refine T.wV.hs (k:=3*d+9) oO (λf Ã A' outer s H vs Q E' hr hu h=>?_);obtain⟨N,X,v,b,hs,ds,ms,rfl,s0,pg,O,frp,q⟩:=h;refine⟨_,(ae (Ç 2 oO.nd (ĥ r9 T.mT ((eA (N:=["place"]) (own:=1) (fr:=[]) (cw.of (by kernel_rfl!)) rfl (bT (ak (hj:=by lia) (tU T d) hr (fv 0^ab))) (λb=>Ð (i:=0) (show Sz (["place"]:List Ti) by decide+kernel) rfl) (λb=>kz) (λb=>aV (fv 0^aI ab^ab)))^ab)))
  (ae (bS RW rfl (bT (ak (hj:=by lia) (x8.has (rS T d)) hr (fv 0^fv 1^ab))) (Ð (i:=3) oO.nd rfl)
   (ai (aR (bB (px hu (fv 2) (px hu (fv 3) af)) (fv 3^ab)))))
  (ai (aD (fv 2))))),?_⟩
 have pln:=O.ok.pl;have pnd:=O.ok.nd;refine ag λM1 K1=>{N,X,v,hs,ds,ms,rfl,s0,pg,O.ok,λL1 H1 s1 hL1 Ŕ=>?_};generalize aT N hs ds ms=pls at Ŕ pln pnd frp q;refine Pg {{_,À.of Ŕ},FX (K:=K) (own:=1) (λD i ys H=>∃ls,WyP H1 pls D i ys H ls) (À.of Ŕ) (aH (by rw[OZ];lia)) (λD hD=>{[],rfl,rfl,Q7,by simp,by simp,by simp,λj y x l h=>by simp at h}) ?_ ?_}
 ·rintro b D i x v0 Hc ys Nn Y hx hv hD sc eD ⟨ls,w⟩ no yes;obtain⟨u0,rfl⟩:=Af hv;refine show _/\∀p,Hc p=YI->_ from{by show 0<=sizeLine;decide,λl hl=>?_};obtain⟨s2,el⟩:=É hl (HO.lst []);refine{by show 2<=sizeLine;decide,λtp ß=>?_};obtain⟨s3,et⟩:=É ß (HO.tup [x,.ref l]);refine yes [YH x] _ _ rfl (s2.trans s3) {ls++[l],?_};have lD:l≠D:=YJ hl eD;have tD:tp≠D:=YJ ß (s2 _ _ eD);have lls:l∉ls:=λm=>by rw[w.e l m]at hl;cases hl
  rw[Pk]at hx;have tk:∀z u,Hc z=YH u->z≠D->upd (upd (upd Hc l (.lst [])) tp (.tup [x,.ref l])) D (.lst (ys++[.ref tp])) z=YH u:=λz u h n=>au n (s3 _ _ (s2 _ _ h));refine{by simp[w.n],by simp[w.m],Qp.mpr {w.nd,by simp,λa ma b mb e=>by rw[OY]at mb;exact lls (mb▸e▸ma)},λm=>?_,λa ma=>?_,λa ma=>?_,λj y x' l' hy Ĩ hl'=>?_}
  ·rcases O5.mp m with m|m
   ·exact w.nD m
   exact lD (OY.mp m).symm
  ·rcases O5.mp ma with m|m
   ·exact tk _ _ (w.e a m) (λz=>w.nD (z▸m))
   rw[OY.mp m];exact au lD (s3 _ _ el)
  ·rcases O5.mp ma with m|m
   ·exact w.f a m
   rw[OY.mp m];exact aj.free sc hl
  by_cases jl:j<i
  ·rw[PY (by rw[w.m];exact jl)]at hy;rw[PY (by rw[w.n];exact jl)]at hl';obtain⟨t,e,ht⟩:=w.t j y x' l' hy Ĩ hl';exact{t,e,tk _ _ ht (λz=>by rw[z,eD]at ht;cases ht)}
  have ji:j=i:=by
   have:=(Pl.mp hy).1;rw[OX,w.m,O3]at this;lia
  subst ji;rw[PU (by rw[w.m];exact O4 _),w.m,Qn]at hy;rw[PU (by rw[w.n];exact O4 _),w.n,Qn]at hl';cases hy;cases hl';rw[Ĩ]at hx;cases hx;exact⟨tp,rfl,au tD et⟩
 rintro D H2 ys hD s2 eD ⟨ls,w⟩;have wn:=w.n;have wm:=w.m;rw[OZ]at wn wm;obtain⟨ps,rfl,k1,k2⟩:=Gv wn wm w.t;generalize Ķ:((pls.zip ls).map λxl=>((Pq xl.1:Key),V.ref xl.2))=kvs at k2;have kl:kvs.length=pls.length:=by rw[<-Ķ,OZ,QN,wn,Nat.min_self]
 have kf:kvs.map (·.1)=pls.map Pq:=by
  rw[<-Ķ,QE];show(pls.zip ls).map (λxl=>(Pq xl.1:Key))=_;rw[show(λxl:Str×RJ=>(Pq xl.1:Key))=Pq∘Prod.fst from rfl,<-QE,List.map_fst_zip ()]
 have knd:(kvs.map (·.1)).Nodup:=by
  rw[kf];unfold Sz at pnd⊢;rw[QG];exact pnd.imp λn e=>n (Pq.inj e)
 refine{D,ps,kvs,rfl,À.of eD,(),(),λi t k v ht hk=>È.of (k2 i t k v ht hk),λW hW=>?_};obtain⟨s3,eW⟩:=É hW (HO.dK (bu [] kvs));generalize upd H2 W _=H3 at s3 eW⊢;rw[lJ kvs [] (by simpa using knd),Pz]at eW;have inj:∀x∈pls,∃l∈ls,L2.cf kvs (.inr x)=YH (.ref l)/\(x,l)∈pls.zip ls:=λx hx=>by
  obtain⟨j,hj,e⟩:=Ww hx;have hl:j<ls.length:=()
  have m:(x,ls[j])∈pls.zip ls:=List.mem_iff_getElem.mpr {j,by rw[QN];lia,by rw[List.getElem_zip,e]};exact{ls[j],Rv hl,BX knd (by rw[<-Ķ];exact Pb.mpr {(x,ls[j]),m,rfl}),m}
 have wv:∀x∈pls,L2.cf kvs (.inr x)=YH (.ref (waO kvs x))/\(x,waO kvs x)∈pls.zip ls:=λx hx=>by
  obtain⟨l,ml,e,m⟩:=inj x hx;have:waO kvs x=l:=by unfold waO;rw[e]
  rw[this];exact⟨e,m⟩
 have wl:∀x∈pls,waO kvs x∈ls:=λx hx=>(Qx (wv x hx).2).2;have t3:=(s1.trans s2).trans s3;have W0:fR H3 W kvs pls (waO kvs) []:={eW,λx hx=>(wv x hx).1,λx hx y hy e=>YZ w.nd (wv x hx).2 (e▸(wv y hy).2),λx hx=>{[],s3 _ _ (w.e _ (wl x hx)),.nil}};generalize waO kvs=wa at wl W0;have wf:∀m∈pls.map wa,H m=YI:=λm hm=>by
  obtain⟨x,hx,rfl⟩:=Pb.mp hm;exact aj.free s1 (w.f _ (wl x hx))
 refine K1 _ _ ?_;clear K1 M1;try dsimp only
 refine ag λM1 K1=>{N,X,v,b,hs,ds,ms,rfl,s0.trans t3,pg,O,λR zs H4 s4 hR eR lk=>?_};have W4:=W0.same s4;have nR:R∉pls.map wa:=λm=>by
  obtain⟨x,hx,rfl⟩:=Pb.mp m;obtain⟨ys,e,_⟩:=W0.l x hx;rw[hR]at e;cases e
 have nt:∀t u,H4 t=YH (.tup u)->t∉pls.map wa:=λt u e m=>by
  obtain⟨x,hx,rfl⟩:=Pb.mp m;obtain⟨ys,e2,_⟩:=W4.l x hx;rw[e]at e2;cases e2
 have ll:=O.ll b;generalize cA N b ds ms=ks at lk frp ll q;have lln:=RT lk;refine Pg {{_,À.of eR},bQ (K:=K) (xs:=zs) (λi B Hd=>∃(v3:Option V),B=[YH v,YH (.bl b),YH (.ref W),v3]/\Sm (pls.map wa) H4 Hd/\fR Hd W kvs pls wa (ks.take i)) {YI,rfl,Sm.refl _ _,W4} (λi B Hd _ zz=>by obtain⟨_,_,z,_⟩:=zz;exact À.of (z _ _ nR eR)) ?_ ?_}
 ·rintro i y B Hd hy ⟨v3,rfl,sd,Wd⟩;obtain⟨l,hl,t,rfl,et⟩:=cq lk hy;have ml:=Pj hl;have et':=sd _ _ (nt _ _ et) et;obtain⟨us,eu,pu⟩:=Wd.l _ (frp l ml);have lu:=RT pu;have lw:(ig (ks.take i) l.fr).length<=900:=by
   have:=Qd (λm:Lk=>decide (m.fr=l.fr)) (ks.take i);rw[PV]at this;unfold ig;lia
  try dsimp only
  refine Ê (j:=0) (È.of et') rfl (ä Wd.d (Wd.v _ (frp l ml)) {Pg {rfl,_,À.of eu},{_,_,_,rfl,rfl,eu,aH (),{_,rfl,sd.trans (Sm.at (P0 (frp l ml)) _),?_}}});rw[P4,hl];exact Wd.push et' (frp l ml) eu pu
 rintro B Hd ⟨v3,rfl,sd,Wd⟩;rw[show ks.take zs.length=ks by rw[<-lln];exact PM]at Wd;exact K1 _ _ (q W kvs wa Hd (sd.same (t3.trans s4) wf) Wd)
noncomputable def ą(cs:List Str)(l:Lk):List Str:=if l.to∈cs then cs else cs++[l.to]
noncomputable def eN(ls:List Lk):Nat->Nat->List Str->List Str
 |0,_,cs=>cs
 |n+1,i,cs=>match cs[i]? with
  |none=>cs
  |some x=>eN ls n (i+1) ((ig ls x).foldl ą cs)
theorem Iu (ls n i cs) (h:cs.length<=i):eN ls n i cs=cs:=by
 cases n with
 |zero=>rfl
 |succ n=>
  unfold eN;rw[Qe h]
theorem pZ:∀{cs pls:List Str},cs.Nodup->(∀x∈cs,x∈pls)->cs.length<=pls.length
 | [],_,_,_=>Pd _
 |x::r,pls,nd,h=>by
  rw[P1]at nd;have m:=h x O9;have:=pZ (cs:=r) (pls:=pls.erase x) nd.2 λy hy=>by
   rw[List.mem_erase_of_ne λ(e:y=x)=>nd.1 (e▸hy)];exact h y (O8 _ hy)
  rw[List.length_erase_of_mem m]at this;have:=List.length_pos_of_mem m;rw[O6];lia
theorem B9:∀(l:List Lk)(cs:List Str),cs.length<=(l.foldl ą cs).length
 | [],cs=>O4 _
 |k::l,cs=>by
  refine Pf ?_ (B9 l (ą cs k));unfold ą;split
  ·exact O4 _
  simp
structure uz(H:Hp)(C Q:RJ)(pls cs:List Str)(kvs:List (Key×V)):Prop where
 c:H C=YH (.dK kvs)
 k:kvs.map (·.1)=cs.map Pq
 q:H Q=YH (.lst (sS cs))
 nd:cs.Nodup
 s:∀x∈cs,x∈pls
theorem uz.has(h:uz H C Q pls cs kvs) (x):(L2.cf kvs (.inr x)).isSome=decide (x∈cs):=by
 rw[<-i7,Qw,Rh,decide_eq_true_iff];constructor
 ·rintro⟨kv,m,e⟩;have:kv.1∈cs.map Pq:=h.k▸P0 m;rw[of_decide_eq_true e]at this;obtain⟨y,my,ey⟩:=Pb.mp this;exact Pq.inj ey▸my
 intro m;have:(Pq x:Key)∈kvs.map (·.1):=by rw[h.k];exact P0 m
 obtain⟨kv,mk,e⟩:=Pb.mp this;exact⟨kv,mk,decide_eq_true e⟩
theorem uz.len(h:uz H C Q pls cs kvs):kvs.length=cs.length/\cs.length<=pls.length:=by
 have:=congrArg TF h.k;simp only[OZ]at this;exact⟨this,pZ h.nd h.s⟩
theorem uz.put(h:uz H C Q pls cs kvs)(n:x∉cs)(hp:x∈pls):uz (upd (upd H C (.dK (YQ kvs (.inr x) v))) Q (.lst (sS cs++[.str x]))) C Q pls (cs++[x]) (kvs++[((Pq x:Key),v)]):=by
 have CQ:C≠Q:=λe=>by have:=h.c;rw[e,h.q]at this;cases this
 have hv:L2.cf kvs (.inr x)=YI:=by
  have:=h.has x;rw[decide_eq_false n]at this;exact Option.isSome_eq_false_iff.mp this |> Q5.mp
 refine{?_,by rw[PB,h.k,PB];rfl,?_,?_,λy hy=>?_}
 ·rw[aL CQ,ao,uf v hv]
 ·rw[ao];simp[sS]
 ·exact Qp.mpr {h.nd,by simp,λa ma b mb e=>by rw[OY]at mb;exact n (mb▸e▸ma)}
 rcases O5.mp hy with m|m
 ·exact h.s y m
 rw[OY.mp m];exact hp
inductive w8(A:Ö)(vs:List V)(H:Hp)(Q:VK)(Ä:XK):Prop
 |mk (W S kw pls wa ls st) (z0:vs=[.ref W,.ref S]) (z1:fR H W kw pls wa ls) (z2:H S=YH (.lst (sS st))) (z3:st.Nodup) (z4:∀x∈st,x∈pls) (z5:∀l∈ls,l.to∈pls) (z6:pls.length<=900)
  (z7:∀(C kvs H'),aj H H'->H C=YI->H' C=YH (.dK kvs)->kvs.map (·.1)=(eN ls pls.length 0 st).map Pq->Q (.ref C) H'):w8 A vs H Q Ä
theorem Ia{H:Hp}:∀{st:List Str}{ys:List V},Paired (λx y=>∃t,y=V.ref t/\H t=YH (.tup [.str x,.Ë])) st ys->∃ps:List RJ,ys=ps.map V.ref/\ps.length=st.length/\∀(i:Nat) t k v,ps[i]?=YH t->(st.map λx=>((Pq x:Key),V.Ë))[i]?=YH (k,v)->H t=YH (.tup [kV k,v]):=by
 intro st ys h;induction h with
 |nil=>exact{[],rfl,rfl,(λi t k v h=>by simp at h)}
 |cons h _ ih=>
  obtain⟨t,rfl,h1⟩:=h;obtain⟨ps,e1,e2,e3⟩:=ih;refine{t::ps,by rw[e1];rfl,by simp[e2],λi t' k v ht hk=>?_};cases i with
  |zero=>cases ht;cases hk;exact h1
  |succ i=>exact e3 i t' k v ht hk
inductive Bu(pls:List Str)(W:RJ)(S:RJ)(C:RJ)(Qa:RJ)(H3:Hp)(ls:List Lk)(st:List Str)(m:Nat)(B:St)(Hd:Hp):Prop
 |mk (i cs kvs v5 v6):m=pls.length-i->B=[YH (.ref W),YH (.ref S),YH (.ref C),YH (.ref Qa),YH (.int i),v5,v6]->Sm [C,Qa] H3 Hd->uz Hd C Qa pls cs kvs->i<=cs.length->eN ls (pls.length-i) i cs=eN ls pls.length 0 st->Bu pls W S C Qa H3 ls st m B Hd
inductive Cf(W:RJ)(S:RJ)(C:RJ)(Qa:RJ)(i:Nat)(H3:Hp)(pls:List Str)(ls:List Lk)(st:List Str)(B':St)(H':Hp):Prop
 |mk (cs' ĝ v5 v6):B'=[YH (.ref W),YH (.ref S),YH (.ref C),YH (.ref Qa),YH (.int ((i)+1)),v5,v6]->Sm [C,Qa] H3 H'->uz H' C Qa pls cs' ĝ->i+1<=cs'.length->eN ls (pls.length-(i+1)) (i+1) cs'=eN ls pls.length 0 st->Cf W S C Qa i H3 pls ls st B' H'
inductive BE(W:RJ)(S:RJ)(C:RJ)(Qa:RJ)(i:Nat)(x:Str)(H3:Hp)(pls:List Str)(ls:List Lk)(cs:List Str)(j:Nat)(B:St)(He:Hp):Prop
 |mk (cs' ĝ v6):B=[YH (.ref W),YH (.ref S),YH (.ref C),YH (.ref Qa),YH (.int (i)),YH (.str x),v6]->Sm [C,Qa] H3 He->uz He C Qa pls cs' ĝ->cs'=((ig ls x).take j).foldl ą cs->BE W S C Qa i x H3 pls ls cs j B He
theorem JB(T:Txt K mg A):T.uK.Hz P w base 1 (w8 A):=by
 refine T.uK.hs dJ (λf Ã A' outer s H vs Q E' hr hu h=>?_);obtain⟨W,S,kw,pls,wa,ls,st,rfl,hW,hS,snd,Ż,tos,pln,q⟩:=h;have stl:=pZ snd Ż;refine⟨_,(ae (Ç 2 dJ.nd (ĥ r9 T.mT ((eA (N:=["place"]) (own:=1) (fr:=[]) (cw.of (by kernel_rfl!)) rfl (bT (fv 1)) (λb=>Ð (i:=0) (show Sz (["place"]:List Ti) by decide+kernel) rfl) (λb=>kz) (λb=>aV (fv 0^bX^ab)))^ab)))
  (ae (Ç 3 dJ.nd (ĥ sr T.dW (fv 1^ab)))
  (ae (Ç 4 dJ.nd af)
  (ae (ir RW (Í zE (fv 4) (Þ gI T.iw (fv 3^ab)))
   (ae (Ç 5 dJ.nd (px hu (fv 3) (fv 4)))
   (ae (bS RW rfl (bT (px hu (fv 0) (fv 5))) (Ð (i:=6) dJ.nd rfl)
    (ai (aS (Í (iy hu) (px hu (fv 6) af) (fv 2) ((by with_unfolding_all rfl)))
     (ae (bR (fv 6) (fD (fv 2) (px hu (fv 6) af) (fG hu YN)))
     (ai (aR (bB (fv 3) (px hu (fv 6) af^ab)))))
     aF)))
   (ai (Gf (i:=4) dJ.nd rfl (by first|exact Pg rfl|exact Qs rfl) af Ef)))))
  (ai (aD (fv 2))))))),?_⟩
 refine ag λM1 K1=>Pg {{_,À.of hS},iD (K:=K) (own:=1) st (λ_=>true) (λx y H=>∃t,y=V.ref t/\H t=YH (.tup [.str x,.Ë])) (À.of hS) (OZ _) (aH (by rw[OZ];lia)) ?_ ?_ ?_ ?_}
 ·intro b i x e v0 H1 Nn Y hx he hv s1 no yes;obtain⟨u0,rfl⟩:=Af hv;rw[Pk,he]at hx;cases hx;refine show _/\∀p,H1 p=YI->_ from{by show 2<=sizeLine;decide,λtp ß=>?_};exact yes rfl [YH (.str e)] _ _ rfl (aj.upd ß _) ⟨tp,rfl,ao⟩
 ·rintro e y H1 H2 s1 ⟨t,e1,h1⟩;exact{t,e1,s1 _ _ h1}
 ·rintro e y H1 D ys zs hD ⟨t,e1,h1⟩;exact{t,e1,au (λz=>by rw[z,hD]at h1;cases h1) h1}
 intro L1 H1 ys hL1 s1 Ŕ pr;rw[gb]at pr;obtain⟨ps,rfl,k1,k2⟩:=Ia pr;generalize Ķ:(st.map λx=>((Pq x:Key),V.Ë))=kv0 at k2;have kf:kv0.map (·.1)=st.map Pq:=by rw[<-Ķ,QE];rfl
 have kl:kv0.length=st.length:=by rw[<-Ķ,OZ]
 have knd:(kv0.map (·.1)).Nodup:=by
  rw[kf];have h:=snd;unfold Sz at h⊢;rw[QG];exact h.imp λn e=>n (Pq.inj e)
 refine{L1,ps,kv0,rfl,À.of Ŕ,(),(),λi t k v ht hk=>È.of (k2 i t k v ht hk),λC hC=>?_};obtain⟨s2,eC⟩:=É hC (HO.dK (bu [] kv0));generalize upd H1 C _=H2 at s2 eC⊢;rw[lJ kv0 [] (by simpa using knd),Pz]at eC;have t2:=s1.trans s2;have hC0:H C=YI:=aj.free s1 hC;refine K1 _ _ ?_;clear K1 M1;try dsimp only
 refine ag λM1 K1=>Pg {S,_,rfl,Pg (À.of (t2 _ _ hS)),λQa hQ=>?_};obtain⟨s3,eQ⟩:=É hQ (HO.lst (sS st));generalize upd H2 Qa _=H3 at s3 eQ⊢;have t3:=t2.trans s3;have hQ0:H Qa=YI:=aj.free t2 hQ;have nf:∀m∈[C,Qa],H m=YI:=λm hm=>by
  rcases O2.mp hm with e|hm
  ·rw[e];exact hC0
  rw[OY.mp hm];exact hQ0
 have hm:C∈[C,Qa]/\Qa∈[C,Qa]:={O9,O8 _ O9};have cm3:uz H3 C Qa pls st kv0:={s3 _ _ eC,kf,eQ,snd,Ż};refine K1 _ _ ?_;clear K1 M1;try dsimp only
 refine ag λM1 K1=>K1 _ _ ?_;clear K1 M1;try dsimp only
 refine ag λM1 K1=>{Bu pls W S C Qa H3 ls st,{_,0,st,kv0,YI,YI,rfl,rfl,Sm.refl _ _,cm3,Pd _,rfl},?_};rintro m B Hd ⟨i,cs,kvs,v5,v6,rfl,rfl,sd,cm,il,ar⟩;have cl:=cm.len;refine lnl cm.q ?_;rw[OZ];refine{_,rfl,bg (λc=>?_) (λc=>?_)}
 ·have il2:i<cs.length:=by have:=of_decide_eq_true c;lia
  obtain⟨x,hx⟩:∃x,cs[i]?=YH x:={_,O7 il2};have mx:x∈pls:=cm.s x (Pj hx);refine{Cf W S C Qa i H3 pls ls st,?_,?_}
  ·rintro B' H' ⟨cs',ĝ,v5,v6,rfl,a1,a2,a3,a4⟩;exact{pls.length-(i+1),(),i+1,cs',ĝ,v5,v6,rfl,rfl,a1,a2,a3,a4}
  have õ:eN ls (pls.length-(i+1)) (i+1) ((ig ls x).foldl ą cs)=eN ls pls.length 0 st:=by
   rw[<-ar,show pls.length-i=pls.length-(i+1)+1 by lia];conv=>rhs;unfold eN
   rw[hx]
  try dsimp only
  refine ag λN1 J1=>ï (À.of cm.q) (jh (by rw[Pk,hx];rfl)) (?_);have sH:aj H Hd:=sd.same t3 nf;have hWd:=hW.same sH;obtain⟨us,eu,pu⟩:=hW.l x mx;have lus:=RT pu;refine J1 _ _ ?_;clear J1 N1;try dsimp only
  refine ag λN1 J1=>ä hWd.d (hWd.v x mx) (Pg {{_,À.of (sH _ _ eu)},bQ (K:=K) (xs:=us) (BE W S C Qa i x H3 pls ls cs) ⟨cs,kvs,v6,rfl,sd,cm,rfl⟩ (λj B He _ zz=>by obtain⟨_,_,_,_,z,_,_⟩:=zz;exact À.of ((z.same t3 nf) _ _ eu)) ?_ ?_})
  ·rintro j y B He hy ⟨cs',ĝ,v6,rfl,se,ce,rfl⟩;obtain⟨l,hl,t,rfl,et⟩:=cq pu hy;have ml:l∈ls:=(PX.mp (Pj hl)).1;have sHe:=se.same t3 nf;have et':=È.of (K:=K) (sHe _ _ et);have Ŏ:((ig ls x).take (j+1)).foldl ą cs=ą (((ig ls x).take j).foldl ą cs) l:=gX ą cs hl;generalize ((ig ls x).take j).foldl ą cs=cj at ce Ŏ;have cl2:=ce.len;try dsimp only
   refine Ê (j:=1) et' rfl (Qs {C,_,rfl,j4.k (k:=.inr l.to) ce.c,_,rfl,?_});rw[ce.has];unfold ą at Ŏ;by_cases m:l.to∈cj
   ·rw[if_pos m]at Ŏ;rw[decide_eq_true m];exact aY {_,_,_,rfl,se,ce,Ŏ.symm}
   rw[if_neg m]at Ŏ;rw[decide_eq_false m];refine bW (ag λO1 I1=>Ê (j:=1) et' rfl {_,ou.k (k:=.inr l.to) ce.c (aH ()),I1 _ _ ?_});clear I1 O1;have tC:t≠C:=λz=>by have:=sHe _ _ et;rw[z,ce.c]at this;cases this
   have QC:Qa≠C:=λz=>by have:=ce.q;rw[z,ce.c]at this;cases this
   have eq2:upd He C (.dK (YQ ĝ (.inr l.to) (.ref t))) Qa=YH (.lst (sS cj)):=au QC ce.q;have et2:È K (upd He C (.dK (YQ ĝ (.inr l.to) (.ref t)))) t l.vs:=È.of (au tC (sHe _ _ et));try dsimp only
   exact{Pg {rfl,_,À.of eq2},Ê (j:=1) et2 rfl {_,_,_,rfl,rfl,eq2,aH (by rw[OZ];lia),{_,_,_,rfl,(se.trans (Sm.at hm.1 _)).trans (Sm.at hm.2 _),ce.put m (tos l ml),Ŏ.symm}}}
  rintro B He ⟨cs',ĝ,v6,rfl,se,ce,ecs⟩;rw[show(ig ls x).take us.length=ig ls x by rw[<-lus];exact PM]at ecs;refine J1 _ _ ?_;have sl:=B9 (ig ls x) cs;rw[<-ecs]at sl õ;exact{_,rfl,i,1,rfl,rfl,cs',ĝ,_,_,rfl,se,ce,(),õ}
 have ie:i=cs.length:=by
  have:¬ ((i:Int)<(cs.length:Int)):=λz=>c (decide_eq_true z);lia
 rw[Iu ls _ i cs ()]at ar;exact K1 _ _ (q C kvs Hd (sd.same t3 nf) hC0 cm.c (by rw[cm.k,ar]))
inductive C9(vs:List V)(H:Hp)(Q:VK)(Ä:XK):Prop
 |mk (r):vs=[.int r]->0<=r/\r<=2->Q (.int (1*2^r.toNat)) H->C9 vs H Q Ä
theorem JY(T:Txt K mg A):T.only.Hz P w base 1 C9:=by
 refine T.only.hs Iz (λf Ã A' outer s H vs Q E' hr hu h=>?_);obtain⟨r,rfl,hr',q⟩:=h;exact{_,(ai (aD (az Mz af (fv 0)))),{by unfold Fc;lia,q}}
inductive vU(vs:List V)(H:Hp)(Q:VK)(Ä:XK):Prop
 |mk (a b):vs=[.int a,.int b]->Q (.int (SF a b)) H->vU vs H Q Ä
theorem GD(T:Txt K mg A):T.joined.Hz P w base 1 vU:=by
 refine T.joined.hs Di (λf Ã A' outer s H vs Q E' hr hu h=>?_);obtain⟨a,b,rfl,q⟩:=h;exact{_,(ai (aD (az Ol (fv 0) (fv 1)))),q}
theorem vC(hs:∀vs H (Q Q':VK),(∀v H,Q v H->Q' v H)->sp vs H Q E->sp vs H Q' E)(ht:∀B H (R R':List V->Hp->Prop),(∀vs H,R vs H->R' vs H)->t B H R->t B H R'):∀B H (Q Q':VK),(∀v H,Q v H->Q' v H)->vH sp dvs E t B H Q->vH sp dvs E t B H Q':=λB H Q Q' h hh=>ht B H _ _ (λvs H1 z=>hs _ _ _ _ h z) hh
theorem nH(he:∀B H (Q Q':VK),(∀v H,Q v H->Q' v H)->te B H Q->te B H Q')(ht:∀B H (R R':List V->Hp->Prop),(∀vs H,R vs H->R' vs H)->t B H R->t B H R'):∀B H (R R':List V->Hp->Prop),(∀vs H,R vs H->R' vs H)->zh te t B H R->zh te t B H R':=λB H R R' h hh=>he B H _ _ (λv H1 z=>ht B H1 _ _ (λvs H2 y=>h _ _ y) z) hh
theorem yE:∀B H (R R':List V->Hp->Prop),(∀vs H,R vs H->R' vs H)->DZ B H R->DZ B H R':=λB H R R' h hh=>h _ _ hh
theorem EC:∀vs H (Q Q':VK),(∀v H,Q v H->Q' v H)->w8 A vs H Q E0->w8 A vs H Q' E0:=by
 rintro vs H Q Q' h ⟨W,S,kw,pls,wa,ls,st,z0,z1,z2,z3,z4,z5,z6,z7⟩;exact{W,S,kw,pls,wa,ls,st,z0,z1,z2,z3,z4,z5,z6,λC kvs H' a b c d=>h _ _ (z7 C kvs H' a b c d)}
theorem FE:∀vs H (Q Q':VK),(∀v H,Q v H->Q' v H)->gQ A vs H Q E0->gQ A vs H Q' E0:=by
 rintro vs H Q Q' h ⟨N,X,v,rk,hs,ds,ms,z0,z1,z2,z3,z4⟩;exact{N,X,v,rk,hs,ds,ms,z0,z1,z2,z3,λR H' a b c=>h _ _ (z4 R H' a b c)}
noncomputable def bV(g:Str->Int):Key->V
 | .inr x=>.int (g x)
 | .inl _=>.Ë
noncomputable def Ş(r:Int)(g:Str->Int)(x:Str):Str->Int:=λy=>if y=x then SF (g x) (1*2^r.toNat)else g y
theorem LG (g x v):xi (bV g) (.inr x) (.int v)=bV λy=>if y=x then v else g y:=by
 funext k
 unfold xi;cases k with
 |inl i=>rw[if_neg (by intro e;cases e)];rfl
 |inr y=>
  by_cases e:y=x
  ·rw[if_pos (by rw[e])];show V.int v=V.int (if y=x then v else g y);rw[if_pos e]
  rw[if_neg λz=>e (Pq.inj z)];show V.int (g y)=V.int (if y=x then v else g y);rw[if_neg e]
theorem KR{pls:List Str}{g:Str->Int}{x:Str}{r:Int}(m:x∈pls):YQ (sk (pls.map Pq) (bV g)) (.inr x) (.int (SF (g x) (1*2^r.toNat)))=sk (pls.map Pq) (bV (Ş r g x)):=by
 rw[KD,LG,show Lx (pls.map Pq) (Pq x)=pls.map Pq from if_pos (P0 m)];rfl
noncomputable def nq(N:Nat->Str)(b:Bool)(hs ds ms:List Pt)(r:Int):List Str:=eN (cA N b ds ms) (aT N hs ds ms).length 0 (YS N hs r)
noncomputable def DR(N:Nat->Str)(b:Bool)(hs ds ms:List Pt):Str->Int:=(ů ((eY N hs).map (·.2))).foldl (λg r=>(nq N b hs ds ms r).foldl (Ş r) g) λ_=>0
structure OkT(N:Nat->Str)(d:Nat)(hs ds ms:List Pt):Prop where
 l:OkL N d hs ds ms
 fr:∀b,∀l∈cA N b ds ms,l.fr∈aT N hs ds ms
 to:∀b,∀l∈cA N b ds ms,l.to∈aT N hs ds ms
 rk:∀s∈eY N hs,s.2=0\/s.2=1\/s.2=2
 sn:((eY N hs).map (·.1)).Nodup
 ss:∀s∈eY N hs,s.1∈aT N hs ds ms
theorem fR.sm(h:fR H W kvs pls wa ls)(s:Sm [Á] H H')(eB:H Á=YH (.dK kb))(n:W≠Á):fR H' W kvs pls wa ls:=by
 have t:∀a o,a≠Á->H a=YH o->H' a=YH o:=λa o m e=>s a o (λz=>m (OY.mp z)) e;refine{t _ _ n h.d,h.v,h.i,λx hx=>?_};obtain⟨ys,e,l⟩:=h.l x hx;exact{ys,t _ _ (λz=>by rw[z,eB]at e;cases e) e,l.same λa u z=>t _ _ (λy=>by rw[y,eB]at z;cases z) z}
theorem Ee{H:Hp}:∀{st:List Str}{ys:List V},Paired (λx y=>∃t,y=V.ref t/\H t=YH (.tup [.str x,.int 0])) st ys->∃ps:List RJ,ys=ps.map V.ref/\ps.length=st.length/\∀(i:Nat) t k v,ps[i]?=YH t->(sk (st.map Pq) (bV λ_=>0))[i]?=YH (k,v)->H t=YH (.tup [kV k,v]):=by
 intro st ys h;induction h with
 |nil=>exact{[],rfl,rfl,(λi t k v h=>by simp at h)}
 |cons h _ ih=>
  obtain⟨t,rfl,h1⟩:=h;obtain⟨ps,e1,e2,e3⟩:=ih;refine{t::ps,by rw[e1];rfl,by simp[e2],λi t' k v ht hk=>?_};cases i with
  |zero=>cases ht;cases hk;exact h1
  |succ i=>exact e3 i t' k v ht hk
theorem BL{ls:List Lk}{pls:List Str}(to:∀l∈ls,l.to∈pls):∀n i cs,(∀x∈cs,x∈pls)->∀x∈eN ls n i cs,x∈pls
 |0,_,cs,h=>h
 |n+1,i,cs,h=>by
  unfold eN;split
  ·exact h
  next x hx=>
  refine BL to n (i+1) _ ?_;have:∀(l:List Lk),(∀k∈l,k∈ls)->∀cs:List Str,(∀x∈cs,x∈pls)->∀x∈l.foldl ą cs,x∈pls:=by
   intro l;induction l with
   |nil=>exact λ_ cs h=>h
   |cons k l ih=>
    intro hl cs h;refine ih (λk' m=>hl k' (O8 _ m)) _ λx hx=>?_;unfold ą at hx;split at hx
    ·exact h x hx
    rcases O5.mp hx with m|m
    ·exact h x m
    rw[OY.mp m];exact to k (hl k O9)
  exact this _ (λk m=>(PX.mp m).1) cs h
inductive pV(A:Ö)(d:Nat)(vs:List V)(H:Hp)(Q:VK)(Ä:XK):Prop
 |mk (N X v b hs ds ms) (z0:vs=[v,.bl b]) (z1:aj X H) (z2:rK A N X v hs ds ms) (z3:OkT N d hs ds ms)
  (z4:∀(Á H'),aj H H'->H Á=YI->H' Á=YH (.dK (sk ((aT N hs ds ms).map Pq) (bV (DR N b hs ds ms))))->Q (.ref Á) H'):pV A d vs H Q Ä
theorem AS (i):∀B H (Q Q':VK),(∀v H,Q v H->Q' v H)->zO i B H Q->zO i B H Q':=λB H Q Q' h hh=>by
 unfold zO at hh⊢;split at hh
 ·exact h _ _ hh
 exact hh
theorem EB:∀{ys:List V},Paired (λt y=>y=V.int (f t)) src ys->ys=(src.map f).map V.int:=by
 intro ys h;induction h with
 |nil=>rfl
 |cons h _ ih=>rw[h,ih];rfl
inductive BK(v:V)(b:Bool)(W:RJ)(Á:RJ)(H7:Hp)(pls:List Str)(rks:List Int)(ls:List Lk)(hs:List Pt)(j:Nat)(B:St)(Hd:Hp):Prop
 |mk (v4 v5):B=[YH v,YH (.bl b),YH (.ref W),YH (.ref Á),v4,v5]->Sm [Á] H7 Hd->Hd Á=YH (.dK (sk (pls.map Pq) (bV ((rks.take j).foldl (λg r=>(eN ls pls.length 0 (YS N hs r)).foldl (Ş r) g) λ_=>0))))->BK v b W Á H7 pls rks ls hs j B Hd
theorem p6(T:Txt K mg A) (d):T.table.Hz P w base (3*d+11) (pV A d):=by
 refine T.table.hs (k:=3*d+10) mW (λf Ã A' outer s H vs Q E' hr hu h=>?_);obtain⟨N,X,v,b,hs,ds,ms,rfl,s0,pg,O,q⟩:=h;refine⟨_,(ae (Ç 2 mW.nd (ak (hj:=by lia) (Ge T d) hr (fv 0^fv 1^ab)))
  (ae (Ç 3 mW.nd (ĥ r9 T.mT ((eA (N:=["place"]) (own:=1) (fr:=[]) (cw.of (by kernel_rfl!)) rfl (bT (ak (hj:=by lia) (tU T d) hr (fv 0^ab))) (λb=>Ð (i:=0) (show Sz (["place"]:List Ti) by decide+kernel) rfl) (λb=>kz) (λb=>aV (fv 0^af^ab)))^ab)))
  (ae (bS RW rfl (bT (xR T.mQ T.BF ((eA (N:=["place","rank"]) (own:=2) (fr:=[]) (cw.of (by kernel_rfl!)) rfl (bT (ak (hj:=by lia) (vJ T) hr (fv 0^ab))) (λb=>dj rfl (aN (Ð (i:=0) (show Sz (["place","rank"]:List Ti) by decide+kernel) rfl) (aN (Ð (i:=1) (show Sz (["place","rank"]:List Ti) by decide+kernel) rfl) cc))) (λb=>kz) (λb=>fv 1))^ab))) (Ð (i:=4) mW.nd rfl)
   (ai (Bn RW rfl (ak (hj:=by lia) (JB T) hr (fv 2^(ak (hj:=by lia) (zi T) hr (fv 0^fv 4^ab))^ab)) (vC EC (nH (AS 2) (nH (vC FE (nH (AS 0) (nH (AS 4) yE))) yE))) (Ð (i:=5) mW.nd rfl)
    (ai (bR (ak (hj:=by lia) (GD T) hr (px hu (fv 3) (fv 5)^(ak (hj:=by lia) (JY T) hr (fv 4^ab))^ab)) (fD (fv 3) (fv 5) (fG hu YN)))))))
  (ai (aD (fv 3)))))),?_⟩
 have pln:=O.l.ok.pl;have pnd:=O.l.ok.nd;refine ag λM1 K1=>{N,X,v,b,hs,ds,ms,rfl,s0,pg,O.l,O.fr b,λW kw wa H1 s1 hW=>K1 _ _ ?_};clear K1 M1;try dsimp only
 refine ag λM1 K1=>{N,X,v,hs,ds,ms,rfl,s0.trans s1,pg,O.l.ok,λL1 H2 s2 hL1 Ŕ=>?_};have Oto:=O.to b;have Oss:=O.ss;unfold DR nq at q;generalize cA N b ds ms=ls at hW Oto q;generalize ò:aT N hs ds ms=pls at hW Oto Ŕ pln pnd Oss q;refine Pg {{_,À.of Ŕ},iD (K:=K) (own:=1) pls (λ_=>true) (λx y H=>∃t,y=V.ref t/\H t=YH (.tup [.str x,.int 0])) (À.of Ŕ) (OZ _) (aH (by rw[OZ];lia)) ?_ ?_ ?_ ?_}
 ·intro b i x e v0 H1 Nn Y hx he hv s1 no yes;obtain⟨u0,rfl⟩:=Af hv;rw[Pk,he]at hx;cases hx;refine show _/\∀p,H1 p=YI->_ from{by show 2<=sizeLine;decide,λtp ß=>?_};exact yes rfl [YH (.str e)] _ _ rfl (aj.upd ß _) ⟨tp,rfl,ao⟩
 ·rintro e y H1 H2 s1 ⟨t,e1,h1⟩;exact{t,e1,s1 _ _ h1}
 ·rintro e y H1 D ys zs hD ⟨t,e1,h1⟩;exact{t,e1,au (λz=>by rw[z,hD]at h1;cases h1) h1}
 intro L2' H3 ys hL2 s3 eL2 pr;rw[gb]at pr;obtain⟨ps,rfl,k1,k2⟩:=Ee pr;have kl:(sk (pls.map Pq) (bV λ_=>0)).length=pls.length:=by rw[AW,OZ]
 have knd:((sk (pls.map Pq) (bV λ_=>0)).map (·.1)).Nodup:=by
  rw[show(sk (pls.map Pq) (bV λ_=>0)).map (·.1)=pls.map Pq by unfold sk;rw[QE];exact List.map_id' _];have h:=pnd;unfold Sz at h⊢;rw[QG];exact h.imp λn e=>n (Pq.inj e)
 refine{L2',ps,_,rfl,À.of eL2,(),(),λi t k v ht hk=>È.of (k2 i t k v ht hk),λÁ hB=>?_};obtain⟨s4,eB⟩:=É hB (HO.dK (bu [] (sk (pls.map Pq) (bV λ_=>0))));generalize upd H3 Á _=H4 at s4 eB⊢;rw[lJ _ [] (by simpa using knd),Pz]at eB;have t3:=(s1.trans s2).trans s3;have t4:=t3.trans s4;have hB0:H Á=YI:=aj.free t3 hB;have WB:W≠Á:=(YJ hB ((s2.trans s3) _ _ hW.d)).symm;have hW4:=hW.same ((s2.trans s3).trans s4);refine K1 _ _ ?_;clear K1 M1;try dsimp only
 refine ag λM1 K1=>{N,X,v,hs,ds,ms,rfl,s0.trans t4,pg,O.l.ok.hl,λL3 ss H5 s5 hL3 eL3 pr3=>?_};have hl3:=O.l.ok.hl;have ln3:=RT pr3;have l3:(eY N hs).length<=hs.length:=by
  unfold eY;rw[OZ];exact Qd _ _
 refine Pg {{_,À.of eL3},iD (K:=K) (own:=2) (eY N hs) (λ_=>true) (λs y _=>y=.int s.2) (À.of eL3) ln3.symm (aH ()) ?_ (λ_ _ _ _ _ h=>h) (λ_ _ _ _ _ _ _ h=>h) ?_}
 ·intro b i x t v0 H2 Nn Y hx he hv s2 no yes;obtain⟨u0,u1,rfl⟩:=MA hv;obtain⟨t',ht,tp,rfl,ũ⟩:=cq pr3 hx;rw[he]at ht;cases ht;exact{tp,_,rfl,È.of (s2 _ _ ũ),rfl,_,_,rfl,_,_,rfl,rfl,yes rfl [YH (.str t.1),YH (.int t.2)] _ _ rfl (aj.refl _) rfl}
 intro L4 H6 zs hL4 s6 eL4 pz;rw[gb]at pz;have ez:=EB pz;refine{L4,(eY N hs).map (·.2),rfl,À.of (by rw[eL4,ez]),λn hn=>?_,λLr hLr=>?_}
 ·obtain⟨s,m,rfl⟩:=Pb.mp hn;exact O.rk s m
 obtain⟨s7,eLr⟩:=É hLr (HO.lst ((ů ((eY N hs).map (·.2))).map V.int));generalize upd H6 Lr _=H7 at s7 eLr⊢;have t57:=(s5.trans s6).trans s7;have t7:=t4.trans t57;have eB7:=t57 _ _ eB;have LrB:Lr≠Á:=YJ hLr ((s5.trans s6) _ _ eB);have hW7:=hW4.same t57;have rk3m:∀r∈ů ((eY N hs).map (·.2)),0<=r/\r<=2:=λr hr=>by
  have:=(PX.mp hr).1;simp only[O2,Po,or_false]at this;rcases this with h|h|h<;>rw[h]<;>decide
 generalize ů ((eY N hs).map (·.2))=rks at eLr rk3m q;refine Pg {{_,À.of eLr},bQ (K:=K) (xs:=rks.map V.int) ((BK (N:=N) v b W Á H7 pls rks ls hs)) {YI,YI,rfl,Sm.refl _ _,eB7} (λj B Hd _ zz=>by obtain⟨_,_,_,z,_⟩:=zz;exact À.of (z _ _ (λm=>LrB (OY.mp m)) eLr)) ?_ ?_}
 ·rintro j y B Hd hy ⟨v4,v5,rfl,sd,eBd⟩;rw[Pk]at hy;cases hr':rks[j]? with
  |none=>rw[hr']at hy;cases hy
  |some r=>
  rw[hr']at hy;cases hy;have r02:=rk3m r (Pj hr');have Ŏ:=gX (λg r=>(eN ls pls.length 0 (YS N hs r)).foldl (Ş r) g) (λ_:Str=>(0:Int)) hr';generalize (rks.take j).foldl (λg r=>(eN ls pls.length 0 (YS N hs r)).foldl (Ş r) g) (λ_=>0)=g0 at eBd Ŏ;have sX:aj H Hd:=sd.same t7 (λm hm=>by rw[OY.mp hm];exact hB0);have hWd:=hW7.sm sd eB7 WB;try dsimp only
  refine{N,X,v,r,hs,ds,ms,rfl,s0.trans sX,pg,O.l.ok.hl,λS H8 s8 hS eS=>?_};have snd:(YS N hs r).Nodup:=by
   unfold YS;exact Vc (VB _ Rj) O.sn
  have Ż:∀x∈YS N hs r,x∈pls:=λx hx=>by
   obtain⟨s,m,rfl⟩:=Pb.mp hx;exact Oss s (PX.mp m).1
  refine{W,S,kw,pls,wa,ls,YS N hs r,rfl,hWd.same s8,eS,snd,Ż,Oto,(),λC kc H9 s9 hC eC kk=>?_};have asub:=BL Oto pls.length 0 _ Ż;generalize eN ls pls.length 0 (YS N hs r)=ar at kk Ŏ asub;have t9:=s8.trans s9;have eB9:=t9 _ _ eBd;have CB:C≠Á:=YJ hC (s8 _ _ eBd);have hC0:Hd C=YI:=aj.free s8 hC;have kcl:kc.length=ar.length:=by
   have:=congrArg TF kk;simpa using this
  refine{C,kc,rfl,eC,λo nfz knd=>{λi B Hf=>∃v5,B=[YH v,YH (.bl b),YH (.ref W),YH (.ref Á),YH (.int r),v5]/\Sm [Á,C] H9 Hf/\Hf C=YH (.ë o (.dK kc))/\Hf Á=YH (.dK (sk (pls.map Pq) (bV ((ar.take i).foldl (Ş r) g0)))),{v5,rfl,Sm.at (O8 _ O9) _,ao,au CB.symm eB9},λi B Hf _ ⟨_,_,_,z,_⟩=>z,?_,?_}}
  ·rintro i k u B Hf hk ⟨v5,rfl,sf,eCf,eBf⟩;have hx:(ar.map (Pq:Str->Key))[i]?=YH k:=by rw[<-kk,Pk,hk];rfl
   rw[Pk]at hx;cases ha:ar[i]? with
   |none=>rw[ha]at hx;cases hx
   |some x=>
   rw[ha]at hx;cases hx;have mx:x∈pls:=asub x (Pj ha);have Ń:=gX (Ş r) g0 ha;try dsimp only
   refine ä eBf (wY (P0 mx)) {r,rfl,r02,_,_,rfl,{_,ou.k (k:=.inr x) eBf (aH (by rw[AW,OZ];lia)),{_,rfl,sf.trans (Sm.at O9 _),au CB eCf,?_}}};rw[ao,Ń];exact congrArg (λz=>YH (HO.dK z)) (KR mx)
  rintro B Hf ⟨v5,rfl,sf,eCf,eBf⟩;rw[kcl,PM]at eBf;refine{_,_,rfl,λa u na e=>?_,au CB.symm (by rw[Ŏ];exact eBf)};have ed:=sd a u na e;have aC:a≠C:=λz=>by rw[z,hC0]at ed;cases ed
  have aB:a≠Á:=λz=>na (OY.mpr z);refine au aC (sf a u (λm=>?_) (t9 _ _ ed));rcases O2.mp m with z|m
  ·exact aB z
  exact aC (OY.mp m)
 rintro B Hd ⟨v4,v5,rfl,sd,eBd⟩;rw[OZ,PM]at eBd;exact K1 _ _ (q Á Hd (sd.same t7 (λm hm=>by rw[OY.mp hm];exact hB0)) hB0 eBd)
theorem Fl(ns:List Int):gJ K H (ns.map V.int) (ns.map Yr)/\SY (ns.map Yr)=true/\Tp (ns.map Yr)=0:=by
 induction ns with
 |nil=>exact⟨.nil,rfl,rfl⟩
 |cons n r ih=>
  obtain⟨h1,h2,h3⟩:=ih;exact{.cons (.int n) h1,by rw[Pm];simp[SY,UC,h2],by rw[Pm];simp[Tp,U2,h3]}
theorem uR(ok:∀x∈xs,Tv x=true):gJ K H (sS xs) (xs.map Ys)/\SY (xs.map Ys)=true/\Tp (xs.map Ys)=0:=by
 induction xs with
 |nil=>exact⟨.nil,rfl,rfl⟩
 |cons n r ih=>
  obtain⟨h1,h2,h3⟩:=ih λx hx=>ok x (O8 _ hx);exact{.cons (.str n) h1,by rw[Pm];simp[SY,UC,h2,ok n O9],by rw[Pm];simp[Tp,U2,h3]}
theorem YY(hp:À K H p xs)(hq:À K H q [])(r:gJ K H xs ds/\SY ds=true/\Tp ds=0)(k:Q (.bl (!xs.isEmpty)) H):fNe K (.ref p) (.ref q) H Q:=by
 obtain⟨h1,h2,h3⟩:=r;refine{.list ds,.list [],.lst hp h1,.lst hq .nil,by simp[Td,UC,U2,h2,h3],rfl,?_};cases h1 with
 |nil=>exact k
 |cons _ _=>exact k
inductive C0(K:RS)(vs:List V)(H:Hp)(Q:VK)(Ä:XK):Prop
 |mk(a:RJ)(ns:List Int)(k:Int):vs=[.ref a,.int k]->À K H a (ns.map V.int)->0<=k->k<1000->(∀(c:Int)(H':Hp),aj H H'->Q (.int c) H')->C0 K vs H Q Ä
theorem Gp{ns:List Int}{k:Int}(h0:0<=k)(h1:k<(ns.length:Int)):∃c,į (ns.map V.int) k=YH (.int c):=by
 have hk:k.toNat<ns.length:=()
 refine{ns[k.toNat],?_};have e:=jh (xs:=ns.map V.int) (j:=k.toNat) (v:=.int ns[k.toNat]) (by rw[Pk,O7 hk];rfl);rw[show((k.toNat:Nat):Int)=k by lia]at e;exact e
theorem AJ(T:Txt K mg A):T.lI.Hz P w base 1 (C0 K):=by
 refine T.lI.hs iY (λf Ã A' outer s H vs Q E hr hu h=>?_);obtain⟨a,ns,k,rfl,hS,h0,h1,q⟩:=h;have el:(((ns.map V.int).length:Nat):Int)=(ns.length:Int):=by rw[OZ]
 refine⟨_,(ae (aS (Í zE (fv 1) (Þ gI T.iw (fv 0^ab)))
   (ai (aD (px hu (fv 0) (fv 1))))
   aF)
  (ae (Ç 2 iY.nd af)
  (ae (aS (Í (rn hu) (fv 0) (aI ab))
   (ai (Ç 2 iY.nd (px hu (fv 0) (az bK (fv 1) (Þ gI T.iw (fv 0^ab))))))
   aF)
  (ai (aD (az bK (az dh (az aQ (az aQ (az bK (fv 2) af) (az dh af (fv 1))) af) af) af)))))),?_⟩
 refine ag λM1 K1=>Pg {_,_,rfl,Pg {_,hS,rfl},_,rfl,bg (λc=>?_) (λc=>K1 _ _ ?_)}
 ·have c':k<(((ns.map V.int).length:Nat):Int):=of_decide_eq_true c;rw[el]at c';obtain⟨x,hx⟩:=Gp h0 c';exact ï hS hx (q x H (aj.refl _))
 clear K1 M1;try dsimp only
 refine ag λM1 K1=>K1 _ _ ?_;clear K1 M1;try dsimp only
 refine ag λM1 K1=>?_;have fin:∀(c:Int)(H':Hp),aj H H'->M1 [YH (.ref a),YH (.int k),YH (.int c)] H':=λc H' s'=>K1 _ _ {by show(0:Int)<1000003;decide,.inl {∅,()},.inr {∅,∅},by show(0:Int)<2147483647;decide,q _ H' s'};refine{Pd _,λR hR=>?_};obtain⟨s1,e1⟩:=É hR (HO.lst []);generalize upd H R _=H1 at s1 e1⊢;refine YY (s1.seq hS) (À.of e1) (Fl ns) {_,rfl,?_};cases ns with
 |nil=>exact aY (fin 0 H1 s1)
 |cons n r=>
  refine bW ?_;have m:=bY k (show(0:Int)<(((n::r).map V.int).length:Int) by rw[OZ,O6];lia);obtain⟨x,hx⟩:=Gp (ns:=n::r) m.1 (Int.lt_of_lt_of_le m.2 (Int.le_of_eq el));exact Pg {_,_,rfl,Pg {_,s1.seq hS,rfl},by show(0:Int)<(((n::r).map V.int).length:Int);rw[OZ,O6];lia,ï (s1.seq hS) hx (fin x H1 s1)}
inductive zm(K:RS)(vs:List V)(H:Hp)(Q:VK)(Ä:XK):Prop
 |mk(a:RJ)(ns:List Int)(k:Int)(n:Nat)(z0:vs=[.ref a,.int k,.int n])(z1:À K H a (ns.map V.int))(z2:0<=k)(z4:k+n<1000)
  (z3:∀(R:RJ)(cs:List Int)(H':Hp),aj H H'->H R=YI->H' R=YH (.lst (cs.map V.int))->cs.length=n->Q (.ref R) H'):zm K vs H Q Ä
theorem G3(h:∀(i:Nat) y,ys[i]?=YH y->∃c,y=V.int c):∃cs:List Int,ys=cs.map V.int:=by
 induction ys with
 |nil=>exact{[],rfl}
 |cons y r ih=>
  obtain⟨c,rfl⟩:=h 0 y rfl;obtain⟨cs,rfl⟩:=ih λi z hz=>h (i+1) z hz;exact{c::cs,rfl}
theorem By(T:Txt K mg A):T.uu.Hz P w base 2 (zm K):=by
 refine T.uu.hs (k:=1) yq (λf Ã A' outer s H vs Q E hr hu h=>?_);obtain⟨a,ns,k,n,rfl,hS,h0,h1,q⟩:=h;refine{_,(ai (aD (eA (N:=["_law_k","_law_script","_law_at"]) (own:=1) (fr:=[0,1]) (cw.of (by kernel_rfl!)) rfl (dA rfl T.dF (fv 2^ab)) (λb=>Ð (i:=0) (show Sz (["_law_k","_law_script","_law_at"]:List Ti) by decide+kernel) rfl) (λb=>kz) (λb=>ak (AJ T) hr (fv 1^az aQ (fv 2) (fv 0)^ab))))),{_,rfl,(),(),?_}};rw[QR];refine uI (n:=n) (x:=λi=>.int (0+(i:Int))) (λj y H=>∃c,y=V.int c) (aH ()) (λ_ _=>O4 _) (λ_ _ h _=>h) (λ_ _ _ _ _ _ y=>y) (λb j H1 G hj s1 kk=>{a,ns,_,rfl,s1.seq hS,(),(),λc H' s'=>kk _ H' s' ⟨c,rfl⟩}) (λj y H1 H2 s1 h=>h) (λj y H1 D ys zs hD h=>h) (λD H1 ys hD s1 e1 ly hy=>?_);obtain⟨cs,rfl⟩:=G3 hy;exact q D cs H1 s1 hD e1 (by rw[<-ly,OZ])
theorem HN(h:0<m):∀x:Int,0<=x%m/\x%m<m:=λx=>bY x h
inductive Ft(vs:List V)(H:Hp)(Q:VK)(Ä:XK):Prop
 |mk (c k):vs=[.int c,.int k]->0<=k->k<1000->(∀m,0<=m->m<1000000000000000->Q (.int m) H)->Ft vs H Q Ä
theorem pG(T:Txt K mg A):T.xS.Hz P w base 1 Ft:=by
 refine T.xS.hs iN (λf Ã A' outer s H vs Q E hr hu h=>?_);obtain⟨c,k,rfl,h0,h1,q⟩:=h;refine⟨_,(ae (aS (PW.pt (pw_and (Í (cn hu) (az bK (fv 0) af) af) (pw_and1 (Í Ak (fv 0) (az tL af af)))))
   (ae (Ç 2 iN.nd (az eZ (fv 0) af))
   (ae (bS RW rfl (dA rfl T.dF (fv 1^ab)) (Ð (i:=3) iN.nd rfl)
    (ai (Ç 2 iN.nd (az eZ (fv 2) (az tL af af)))))
   (ai (aS (Í Ak (fv 2) af)
    (ai (aD (az bK (fv 2) (az tL af af))))
    aF))))
   aF)
  (ae (Ç 4 iN.nd (az bK (az dh (az aQ (az bK (fv 0) af) af) (az aQ (az dh (fv 1) (fv 1)) af)) af))
  (ai (aD (az bK (az dh (fv 4) (az aQ (az bK (fv 4) af) af)) af))))),?_⟩
 refine ag λM1 K1=>?_;have fin:∀(v2 v3 v4:Option V),M1 [YH (.int c),YH (.int k),v2,v3,v4] H:=λv2 v3 v4=>K1 _ _ (by
  refine ag λM2 K2=>?_;have kk:-(2^64)<k*k+7919/\k*k+7919<2^64:=by
   have a1:0<=k*k:=Yt h0 h0;have a2:k*k<=1000*1000:=RA () () h0 ∅;lia
  refine{by show(0:Int)<1000003;decide,.inl {(),()},.inr kk,by show(0:Int)<2147483647;decide,?_};obtain⟨m0,m1⟩:=bY ((c%1000003+17)*(k*k+7919)) (show(0:Int)<2147483647 by decide);refine K2 _ _ ?_;clear K2 M2;try dsimp only
  have m2:=HN (show(0:Int)<2147483647 by decide);exact{by show(0:Int)<65521;decide,.inl {(),()},by show(0:Int)<2147483647;decide,q _ (m2 _).1 (Int.lt_trans (m2 _).2 ∅)})
 refine{by show(0:Int)<2;decide,rfl,_,rfl,bg (λ_=>?_) (λ_=>aY (fin YI YI YI))};refine{{∅,∅,∅},_,rfl,bg (λ_=>?_) (λ_=>fin YI YI YI)};refine ag λM2 K2=>{{∅,∅},K2 _ _ ?_};clear K2 M2;try dsimp only
 refine ag λM2 K2=>{_,rfl,(),(),j5 (λi B Hc=>∃(d:Int)(v3:Option V),B=[YH (.int c),YH (.int k),YH (.int d),v3,YI]/\Hc=H) {_,YI,rfl,rfl} ?_ ?_}
 ·rintro i B Hc hi ⟨d,v3,rfl,rfl⟩;exact{{∅,∅,∅},{∅,∅},_,_,rfl,rfl}
 rintro B Hc ⟨d,v3,rfl,rfl⟩;refine K2 _ _ ?_;try dsimp only
 refine{_,rfl,bg (λ_=>?_) (λ_=>fin _ _ _)};obtain⟨e0,e1⟩:=bY d (show(0:Int)<10^15 by decide);exact{{∅,∅,∅},by show(0:Int)<10^15;decide,q _ e0 e1}
inductive BW(K:RS)(vs:List V)(H:Hp)(Q:VK)(Ä:XK):Prop
 |mk (a xs n):vs=[.ref a,.int n]->À K H a xs->0<xs.length->(∀x∈xs,Q x H)->BW K vs H Q Ä
theorem qB(T:Txt K mg A):T.sZ.Hz P w base 1 (BW K):=by
 refine T.sZ.hs yU (λf Ã A' outer s H vs Q E hr hu h=>?_);obtain⟨a,xs,n,rfl,hS,h0,q⟩:=h;refine{_,(ai (aD (px hu (fv 0) (az bK (fv 1) (Þ gI T.iw (fv 0^ab)))))),?_};have m:=bY n (show(0:Int)<(xs.length:Int) by lia);obtain⟨x,hx,ax⟩:=Je m.1 m.2;exact Pg {_,_,rfl,Pg {_,hS,rfl},by show(0:Int)<(xs.length:Int);lia,ï hS ax (q x (Pj hx))}
structure ko(N:Nat->Str):Prop where
 inj:∀i j,i<24->j<24->N i=N j->i=j
 ch:∀i,i<24->∀c∈(N i).cps.toList,97<=c/\c<=122
noncomputable abbrev LET:Str:="abcdefghijklmnopqrstuvwxyz"
noncomputable def zq(k:Int):Nat:=(97+k).toNat
theorem J5(h0:0<=k)(h1:k<26):į LET.cps.toList k=YH (zq k):=by
 obtain⟨n,rfl⟩:∃n:Nat,k=(n:Int):={k.toNat,()};have h:∀m:Fin 26,į LET.cps.toList ((m.val:Nat):Int)=YH (zq ((m.val:Nat):Int)):=by decide+kernel
 exact h {n,()}
noncomputable abbrev K5:Str:="set if by at idle most end else main over rest last"
noncomputable abbrev Ku:Str:="loop given hand own put say send call deed let open house closed"
noncomputable def wH:List Str:=["set","if","by","at","idle","most","end","else","main","over","rest","last"]
noncomputable def xI:List Str:=["loop","given","hand","own","put","say","send","call","deed","let","open","house","closed"]
noncomputable def YR:List Str:=wH++xI
theorem DS:sy K5 " " wH:={by decide+kernel,by decide+kernel,by decide+kernel,by decide+kernel,∅,by decide+kernel}
theorem Dw:sy Ku " " xI:={by decide+kernel,by decide+kernel,by decide+kernel,by decide+kernel,∅,by decide+kernel}
theorem Fx:YR.Nodup:=by decide+kernel
theorem Fh:∀x∈YR,∀c∈x.cps.toList,97<=c/\c<=122:=by decide+kernel
theorem ID (o):ko λk=>YR.getD ((o+(0+(k:Int)))%25).toNat R7:=by
 have g:∀k:Nat,∃j,j<25/\((o+(0+(k:Int)))%25).toNat=j:=λk=>{_,by have:=bY (o+(0+(k:Int))) (show(0:Int)<25 by decide);lia,rfl};have e:∀j,j<25->YR.getD j R7∈YR:=λj h=>by
  rw[PD,O7 (show j<YR.length from h)];exact Rv _
 refine{λi j hi hj h=>?_,λi hi=>?_}
 ·obtain⟨a,ha,ea⟩:=g i;obtain⟨b,hb,eb⟩:=g j;have h:YR.getD ((o+(0+(i:Int)))%25).toNat R7=YR.getD ((o+(0+(j:Int)))%25).toNat R7:=h;rw[ea,eb,PD,PD,O7 (show a<YR.length from ha),O7 (show b<YR.length from hb)]at h;have:=(Rt Fx).mp h;lia
 obtain⟨a,ha,ea⟩:=g i;show ∀c∈(YR.getD ((o+(0+(i:Int)))%25).toNat R7).cps.toList,_;rw[ea];exact Fh _ (e a ha)
noncomputable def dec(v:Int)(cs:List Nat):Int:=cs.foldl (λv (c:Nat)=>(v+1)*26+((c:Int)-97)) v
theorem E4 (cs):dec (n/26-1) (zq (n%26)::cs)=dec n cs:=by
 unfold dec;rw[P9];congr 1;have m:=bY n (show(0:Int)<26 by decide);have e:((zq (n%26):Nat):Int)-97=n%26:=by
  unfold zq;lia
 rw[e];lia
def Nj(n:Int)(x:Str):Prop:=dec (-1) x.cps.toList=n/\∀c∈x.cps.toList,97<=c/\c<=122
theorem N7(hs:1<=s)(h:∀k:Nat,k<24->Nj (c+(k:Int)*s) (N k)):ko N:=by
 refine{λi j hi hj e=>?_,λi hi=>(h i hi).2};have h1:=(h i hi).1;rw[e,(h j hj).1]at h1;have h2:(j:Int)*s=(i:Int)*s:=()
 have:=Int.eq_of_mul_eq_mul_right () h2;lia
theorem FI:((⟨#[a]⟩:Str)++x).cps.toList=a::x.cps.toList:=by
 show(#[a]++x.cps).toList=_;rw[PC];rfl
theorem N5{n:Int}{j:Nat}(h0:0<=n)(h:n+1<26^(j+1)):n/26-1+1<26^j:=by
 have e:(26:Int)^(j+1)=26^j*26:=Int.pow_succ _ _;rw[e]at h;have:=Int.ediv_lt_of_lt_mul (by decide:(0:Int)<26) (show n<26^j*26 by lia);lia
inductive wy(vs:List V)(H:Hp)(Q:VK)(Ä:XK):Prop
 |mk (c o) (z0:vs=[.int c,.int o,.int 24])
  (z1:∀(R N H'),aj H H'->H R=YI->H' R=YH (.lst (sS ((R8 24).map N)))->ko N->Q (.ref R) H'):wy vs H Q Ä
inductive CH(c:Int)(o:Int)(L3:RJ)(st:Int)(R:RJ)(H:Hp)(i:Nat)(B:St)(Hc:Hp):Prop
 |mk(xs:List Str)(v7 v8 v9:Option V):B=[YH (.int c),YH (.int o),YH (.int 24),YH (.ref L3),YH (.str LET),YH (.int st),YH (.ref R),v7,v8,v9]->aj H Hc->Hc R=YH (.lst (sS xs))->xs.length=i->(∀(k:Nat) x,xs[k]?=YH x->Nj (c/20%10^(10:Int).toNat+(k:Int)*st) x)->CH c o L3 st R H i B Hc
theorem GQ(T:Txt K mg A):T.qv.Hz P w base 1 wy:=by
 refine T.qv.hs bO (λf Ã A' outer s H vs Q E hr hu h=>?_);obtain⟨c,o,rfl,q⟩:=h;refine⟨_,(ae (Ç 3 bO.nd (Y0 aw (aw^ab)))
  (ae (Ç 3 bO.nd (az aQ (fv 3) (Y0 aw (aw^ab))))
  (ae (aS (Í (cn hu) (az bK (fv 0) af) af)
   (ai (aD (eA (N:=["_law_k","_law_words","_law_other"]) (own:=1) (fr:=[3,1]) (cw.of (by kernel_rfl!)) rfl (dA rfl T.dF (fv 2^ab)) (λb=>Ð (i:=0) (show Sz (["_law_k","_law_words","_law_other"]:List Ti) by decide+kernel) rfl) (λb=>kz) (λb=>px hu (fv 1) (az bK (az aQ (fv 2) (fv 0)) (Þ gI T.iw (fv 1^ab)))))))
   aF)
  (ae (Ç 4 bO.nd aw)
  (ae (Ç 5 bO.nd (px hu (aI (af^af^af^af^az aQ af (az bK (fv 1) (az tL af af))^ab)) (az bK (az eZ (fv 0) af) af)))
  (ae (Ç 6 bO.nd (aI ab))
  (ae (bS RW rfl (dA rfl T.dF (fv 2^ab)) (Ð (i:=7) bO.nd rfl)
   (ae (Ç 8 bO.nd (az aQ (az bK (az eZ (fv 0) af) (az tL af af)) (az dh (fv 7) (fv 5))))
   (ae (Ç 9 bO.nd aw)
   (ae (ir RW (Í OP (fv 8) af)
    (ae (Ç 9 bO.nd (az aQ (px hu (fv 4) (az bK (fv 8) af)) (fv 9)))
    (ai (Ç 8 bO.nd (az pN (az eZ (fv 8) af) af)))))
   (ai (aR (bB (fv 6) (fv 9^ab))))))))
  (ai (aD (fv 6)))))))))),?_⟩
 refine ag λM1 K1=>{rfl,_,_,_,rfl,rfl,DS,λL1 hL1=>?_};obtain⟨s1,e1⟩:=É hL1 (HO.lst (wH.map V.str));generalize upd H L1 _=H1 at s1 e1⊢;refine K1 _ _ ?_;clear K1 M1;try dsimp only
 refine ag λM1 K1=>{rfl,_,_,_,rfl,rfl,Dw,λL2 hL2=>?_};obtain⟨s2,e2⟩:=É hL2 (HO.lst (xI.map V.str));generalize upd H1 L2 _=H2 at s2 e2⊢;refine{L1,L2,_,_,rfl,rfl,s2 _ _ e1,e2,∅,λL3 hL3=>?_};obtain⟨s3,e3⟩:=É hL3 (HO.lst (wH.map V.str++xI.map V.str));generalize upd H2 L3 _=H3 at s3 e3⊢;have t3:=(s1.trans s2).trans s3;have e3:H3 L3=YH (.lst (sS YR)):=by rw[e3,<-PB];rfl
 refine K1 _ _ ?_;clear K1 M1;try dsimp only
 refine ag λM1 K1=>{by show(0:Int)<4;decide,rfl,_,rfl,bg (λ_=>?_) (λ_=>K1 _ _ ?_)}
 ·refine{_,rfl,∅,∅,uy (n:=24) (λ_=>true) (λk=>.str (YR.getD ((o+(0+(k:Int)))%25).toNat R7)) ∅ (λb i H4 R hi s4 k=>k H4 (aj.refl _)) (λb i H4 R hi _ s4 k=>?_) (λD H4 hD s4 e4=>?_)}
  ·have m:=bY (o+(0+(i:Int))) (show(0:Int)<25 by decide);have g:((o+(0+(i:Int)))%25).toNat<YR.length:=by show _<25;lia
   have ax:=jh (xs:=sS YR) (j:=((o+(0+(i:Int)))%25).toNat) (v:=.str (YR.getD ((o+(0+(i:Int)))%25).toNat R7)) (by rw[Pk,PD,O7 g];rfl);rw[show((((o+(0+(i:Int)))%25).toNat:Nat):Int)=(o+(0+(i:Int)))%25 by lia]at ax;exact lnl (s4 _ _ e3) {by show(0:Int)<25;decide,ï (À.of (s4 _ _ e3)) ax (k H4 (aj.refl _))}
  refine q D _ H4 (t3.trans s4) (aj.free t3 hD) ?_ (ID o);rw[e4,gb];simp[sS]
 clear K1 M1;try dsimp only
 refine ag λM1 K1=>K1 _ _ ?_;clear K1 M1;try dsimp only
 refine ag λM1 K1=>?_;obtain⟨o0,o1⟩:=bY o (show(0:Int)<10^9 by decide);refine{{∅,∅,∅},by show(0:Int)<10^9;decide,by show 5<=sizeLine;decide,λL4 hL4=>?_};obtain⟨s4,e4⟩:=É hL4 (HO.lst [.int 1,.int 26,.int 27,.int 676,.int (1+o%10^(9:Int).toNat)]);generalize upd H3 L4 _=H4 at s4 e4⊢;have t4:=t3.trans s4;refine{{∅,∅},by show(0:Int)<5;decide,?_};obtain⟨st,ax,st0,st1⟩:∃st:Int,į [V.int 1,.int 26,.int 27,.int 676,.int (1+o%10^(9:Int).toNat)] (c/4%5)=YH (.int st)/\1<=st/\st<=1000000000:=by
  obtain⟨m0,m1⟩:=bY (c/4) (show(0:Int)<5 by decide);generalize c/4%5=j at m0 m1;have cs:j=0\/j=1\/j=2\/j=3\/j=4:=()
  rcases cs with rfl|rfl|rfl|rfl|rfl
  ·exact{1,rfl,∅,∅}
  ·exact{26,rfl,∅,∅}
  ·exact{27,rfl,∅,∅}
  ·exact{676,rfl,∅,∅}
  have o1':o%10^(9:Int).toNat<1000000000:=o1;have o0':0<=o%10^(9:Int).toNat:=o0;exact{_,rfl,(),()}
 refine ï (À.of e4) ax (K1 _ _ ?_);clear K1 M1;try dsimp only
 refine ag λM1 K1=>{Pd _,λR hR=>?_};obtain⟨s5,e5⟩:=É hR (HO.lst []);generalize upd H4 R _=H5 at s5 e5⊢;have t5:=t4.trans s5;have hR0:H R=YI:=aj.free t4 hR;obtain⟨b0,b1⟩:=bY (c/20) (show(0:Int)<10^10 by decide);refine K1 _ _ ?_;clear K1 M1;try dsimp only
 refine ag λM1 K1=>{_,rfl,∅,∅,j5 ((CH c o L3 st R H)) {[],YI,YI,YI,rfl,t5,e5,rfl,λk x hx=>by cases hx} ?_ ?_}
 ·rintro i B Hc hi ⟨xs,v7,v8,v9,rfl,sc,Û,lx,wd⟩;have hi24:i<24:=hi;have ei:(0:Int)+(i:Int)=(i:Int):=()
  rw[ei];try dsimp only
  refine ag λN1 J1=>{{∅,∅},{∅,∅,∅},by show(0:Int)<10^10;decide,.inl {(),()},J1 _ _ ?_};clear J1 N1;try dsimp only
  refine ag λN1 J1=>J1 _ _ ?_;clear J1 N1;try dsimp only
  refine ag λN1 J1=>?_;have bb:c/20%10^(10:Int).toNat+(i:Int)*st+1<26^8:=by
   have b1':c/20%10^(10:Int).toNat<10000000000:=b1;have m1:(i:Int)*st<=23*1000000000:=RA () st1 () ∅;have:(26:Int)^8=208827064576:=∅
   lia
  have b0':0<=c/20%10^(10:Int).toNat:=b0;have m0:0<=(i:Int)*st:=Yt () ();have ww:0<=c/20%10^(10:Int).toNat+(i:Int)*st:=Int.add_nonneg b0' m0;generalize ew:c/20%10^(10:Int).toNat+(i:Int)*st=wn at bb ww;refine{λm B' Hd=>∃(n:Int)(x:Str),B'=[YH (.int c),YH (.int o),YH (.int 24),YH (.ref L3),YH (.str LET),YH (.int st),YH (.ref R),YH (.int (i:Int)),YH (.int n),YH (.str x)]/\Hc=Hd/\-1<=n/\n+1<26^m/\m+x.length<=8/\dec n x.cps.toList=wn/\∀c∈x.cps.toList,97<=c/\c<=122,{8,wn,"",rfl,rfl,(),bb,∅,rfl,λc hc=>by cases hc},?_};rintro m B' Hd ⟨n,x,rfl,rfl,n0,n1,lm,dx,cx⟩;refine{_,rfl,bg (λz=>?_) (λz=>J1 _ _ ?_)}
  ·have z:0<=n:=of_decide_eq_true z;cases m with
   |zero=>rw[Int.pow_zero]at n1;lia
   |succ m=>
   refine{λB' Hd=>∃(n:Int)(x:Str),B'=[YH (.int c),YH (.int o),YH (.int 24),YH (.ref L3),YH (.str LET),YH (.int st),YH (.ref R),YH (.int (i:Int)),YH (.int n),YH (.str x)]/\Hc=Hd/\-1<=n/\n+1<26^m/\m+x.length<=8/\dec n x.cps.toList=wn/\∀c∈x.cps.toList,97<=c/\c<=122,λB' Hd h=>{m,QK _,h},ag λN2 J2=>?_};obtain⟨l0,l1⟩:=bY n (show(0:Int)<26 by decide);have lx':(Str.mk #[zq (n%26)]++x).length=1+x.length:=je _ _;refine{by show(0:Int)<26;decide,{zq (n%26),by decide+kernel,J5 l0 l1,{by show 1+x.length<=sizeLine;exact QJ (aH ()),J2 _ _ {{∅,∅},_,_,rfl,rfl,(),N5 z n1,by rw[lx'];lia,?_,?_}}}}
   ·rw[FI,E4];exact dx
   rw[FI];intro d hd;rcases O2.mp hd with rfl|hd
   ·unfold zq;lia
   exact cx d hd
  have z:¬ 0<=n:=of_decide_eq_false (QQ.mpr z);have en:n=-1:=()
  subst en;refine{Pg {rfl,_,À.of Û},_,_,_,rfl,rfl,Û,aH (by rw[OZ];lia),{xs++[x],_,_,_,rfl,aj.out sc hR0 _,by rw[ao];simp[sS],by rw[OX,lx];rfl,λk y hy=>?_}};by_cases hk:k<xs.length
  ·rw[PY hk]at hy;exact wd k y hy
  have ek:k=xs.length:=by
   have:=(Pl.mp hy).1;rw[OX,O3]at this;lia
  subst ek;rw[PU (O4 _),Qn]at hy;cases hy;rw[lx,ew];exact⟨dx,cx⟩
 rintro B Hc ⟨xs,v7,v8,v9,rfl,sc,Û,lx,wd⟩;have lx:xs.length=24:=lx;refine K1 _ _ ?_;have ex:xs=(R8 24).map λk=>xs.getD k R7:=by
  refine Ra λk=>?_;rw[Pk];by_cases hk:k<24
  ·rw[QL hk,O7 ()];show _=YH (xs.getD k R7);rw[PD,O7 ()];rfl
  rw[Qe (),Qe (by rw[Qi];lia)];rfl
 refine q R (λk=>xs.getD k R7) Hc sc hR0 (by rw[Û];exact congrArg (λz=>YH (HO.lst (sS z))) ex) (N7 st0 λk hk=>wd k _ ?_);rw[PD,O7 ()];rfl
noncomputable def Lr.wd:Lr->Str
 | .hand _ _=>"hand"| .Ŋ _ _ _=>"given"| .own _ _=>"own"| .lt _ _=>"let"| .set _ _=>"set"| .put _ _ _=>"put"| .snd _ _=>"send"| .say _ _ _=>"say"
 | .call _ _=>"call"| .last=>"last"
inductive Fr where
 |leaf (r:Lr)|bq (i:Nat) (ps:List Nat)|main|iff (v:Val) (l r:Int)|loop (t:Th) (m l r:Int)|Ā|fin
noncomputable def Fr.wd:Fr->Str
 | .leaf r=>r.wd| .bq _ _=>"deed"| .main=>"main"| .iff _ _ _=>"if"| .loop _ _ _ _=>"loop"| .Ā=>"else"| .fin=>"end"
noncomputable def Fr.ts(N:Nat->Str)(p:RJ):Fr->List V
 | .leaf r=>(r.fs N p).map (·.2)| .bq i _=>[.str (N i),.ref p]| .iff _ l r=>[.ref p,.int l,.int r]| .loop t m l r=>[t.v N,.int m,.int l,.int r]|_=>[]
noncomputable def Fr.ob(N:Nat->Str):Fr->Option HO
 | .leaf r=>r.ob N| .bq _ ps=>YH (.lst (nV N ps))| .iff v _ _=>YH (.tup (vV N v))|_=>YI
def lG(N:Nat->Str)(X:Hp)(v:V)(f:Fr):Prop:=∃a p,v=.ref a/\X a=YH (.tup (.str f.wd::f.ts N p))/\∀o,f.ob N=YH o->X p=YH o
theorem lG.same(s:aj X X')(h:lG N X v f):lG N X' v f:=by
 obtain⟨a,p,e,h1,h2⟩:=h;exact{a,p,e,s _ _ h1,λo ho=>s _ _ (h2 o ho)}
def ba(N:Nat->Str)(X:Hp)(fs:List Fr)(vs:List V):Prop:=Paired (λf v=>lG N X v f) fs vs
theorem ba.same(s:aj X X')(h:ba N X fs vs):ba N X' fs vs:=Paired.vb h λ_ _ z=>lG.same s z
theorem Ĕ(h:X a=YH (.tup (.str f.wd::f.ts N a)))(e:f.ob N=YI):lG N X (.ref a) f:={a,a,rfl,h,λo ho=>by rw[e]at ho;cases ho}
noncomputable def vk(N:Nat->Str):List Str:=(R8 24).map N
theorem F5(h:j<24):(sS (vk N))[j]?=YH (.str (N j)):=by
 unfold vk;rw[Pk,Pk,QL h];rfl
theorem Č{H:Hp}{p:RJ}{xs:List V}{v:V}{Q:VK}{j:Nat}(h:À K H p xs)(e:xs[j]?=YH v)(q:Q v H):ixS K p (j:Int) H Q\/dgI p (.int (j:Int)) H Q:=ï h (jh e) q
theorem Ĝ{H:Hp}{Q:VK}(h:À K H p (sS (vk N)))(q:Q (.str (N j)) H)(hj:j<24:=by decide):ixS K p (j:Int) H Q\/dgI p (.int (j:Int)) H Q:=Č h (F5 hj) q
theorem rT (d) (h:t<=n):HT.Ù n d (YH (t:Int))=t:=by
 unfold HT.Ù;show(if(t:Int)<0 then((t:Int)+n).toNat else min (t:Int).toNat n)=t;rw[if_neg (),QR];lia
theorem K0{xs:List V}{t:Nat}(h:t<=xs.length):rB xs (YH (t:Int)) YI=xs.drop t:=by
 unfold rB;rw[rT _ h,show HT.Ù xs.length xs.length YI=xs.length from rfl];exact P6 (by rw[Qu];lia)
theorem KC{xs:List V}{t:Nat}(h:t<=xs.length):rB xs YI (YH (t:Int))=xs.take t:=by
 unfold rB;rw[rT _ h,show HT.Ù xs.length 0 YI=0 from rfl];rfl
noncomputable def oJ(rk:Nat->Int)(z:Int):List Lr:=[.hand 0 (rk 0),.Ŋ 1 (rk 1) 0,.Ŋ 2 (rk 2) 3,.own 3 0,.own 4 z,.lt 5 (rk 3),.lt 6 (rk 4),.own 7 0,.hand 8 (rk 5),.Ŋ 19 (rk 6) 0,.own 20 0]
noncomputable def rb(t:Nat)(xs:List Lr):List Lr:=xs.drop t++xs.take t
inductive vD(K:RS)(vs:List V)(H:Hp)(Q:VK)(Ä:XK):Prop
 |mk (N nl c) (z0:vs=[.ref nl,.int c]) (z1:H nl=YH (.lst (sS (vk N))))
  (z2:∀(R rk z t ys H'),aj H H'->H R=YI->H' R=YH (.lst ys)->ba N H' ((rb t (oJ rk z)).map Fr.leaf) ys->(∀i,rk i=0\/rk i=1\/rk i=2)->1<=z->z<=4->t<=11->Q (.ref R) H'):vD K vs H Q Ä
theorem FG(T:Txt K mg A):T.qE.Hz P w base 2 (vD K):=by
 have bc:=@pG P w _ _ base _ T;refine T.qE.hs (k:=1) df (λf Ã A' outer s H vs Q E hr hu h=>?_);obtain⟨N,nl,c,rfl,hN,q⟩:=h;refine⟨_,(ae (Av (j:=2) (N:=["_law_k","_law_cell"]) (own:=1) (fr:=[1]) (cw.of (by kernel_rfl!)) rfl df.nd rfl (Pg rfl) (dA rfl T.dF (af^ab)) (λb=>Ð (i:=0) (show Sz (["_law_k","_law_cell"]:List Ti) by decide+kernel) rfl) (λb=>kz) (λb=>az bK (ak bc hr (fv 1^az aQ af (fv 0)^ab)) af))
  (ae (Ç 3 df.nd (aI (aV (aw^px hu (fv 0) af^px hu (fv 2) af^ab)^aV (aw^px hu (fv 0) af^px hu (fv 2) af^af^ab)^aV (aw^px hu (fv 0) af^px hu (fv 2) af^af^ab)^ab)))
  (ae (Ç 3 df.nd (az aQ (fv 3) (aI (aV (aw^px hu (fv 0) af^af^ab)^aV (aw^px hu (fv 0) af^az aQ af (az bK (ak bc hr (fv 1^af^ab)) af)^ab)^aV (aw^px hu (fv 0) af^px hu (fv 2) af^ab)^ab))))
  (ae (Ç 3 df.nd (az aQ (fv 3) (aI (aV (aw^px hu (fv 0) af^px hu (fv 2) af^ab)^aV (aw^px hu (fv 0) af^af^ab)^aV (aw^px hu (fv 0) af^px hu (fv 2) af^ab)^ab))))
  (ae (Ç 3 df.nd (az aQ (fv 3) (aI (aV (aw^px hu (fv 0) af^px hu (fv 2) af^af^ab)^aV (aw^px hu (fv 0) af^af^ab)^ab))))
  (ae (Ç 4 df.nd (az bK (ak bc hr (fv 1^af^ab)) af))
  (ai (aD (az aQ (uN A5 (fv 3) (rX (fv 4)) Ce) (uN A5 (fv 3) Ce (rX (fv 4)))))))))))),?_⟩
 refine ag λM1 K1=>{_,rfl,∅,∅,uI (n:=7) (x:=λi=>.int (0+(i:Int))) (λj y H=>∃c:Int,y=V.int c/\(c=0\/c=1\/c=2)) ∅ (λ_ _=>O4 _) (λ_ _ h _=>h) (λ_ _ _ _ _ _ y=>y) (λb j H1 G hj s1 kk=>?_) (λj y H1 H2 s1 h=>h) (λj y H1 D ys zs hD h=>h) (λLK H0 ys hLK s0 eK ly hy=>K1 _ _ ?_)}
 ·refine{c,_,rfl,(),(),λm m0 m1=>{by show(0:Int)<3;decide,kk _ H1 (aj.refl _) {_,rfl,?_}}};have:=bY m (show(0:Int)<3 by decide);lia
 clear K1 M1;obtain⟨rk,hrk,ey⟩:∃rk:Nat->Int,(∀i,rk i=0\/rk i=1\/rk i=2)/\ys=(R8 7).map λi=>V.int (rk i):=by
  refine⟨λi=>match ys[i]? with|some (.int c)=>c|_=>0,λi=>?_,Ra λi=>?_⟩
  ·dsimp only;cases e:ys[i]? with
   |none=>exact .inl rfl
   |some y=>
    obtain⟨c,rfl,hc⟩:=hy i y e;exact hc
  rw[Pk];by_cases hi:i<7
  ·rw[QL hi];obtain⟨y,e⟩:∃y,ys[i]?=YH y:={_,O7 ()};obtain⟨c,rfl,hc⟩:=hy i y e;show _=YH (V.int (match ys[i]? with|some (.int c)=>c|_=>0));rw[e]
  rw[Qe (),Qe (by rw[Qi];lia)];rfl
 subst ey;have d0:=s0;try dsimp only
 refine ag λM1 K1=>?_;have e0:aj H0 H0:=aj.refl _;refine Ĝ (j:=0) (À.of (d0 _ _ hN)) (Č (j:=0) (À.of (e0 _ _ eK)) rfl ({by show 3<=sizeLine;decide,λt0 ht0=>?_}));obtain⟨c1,g0⟩:=É ht0 (HO.tup [V.str "hand",.str (N 0),.int (rk 0)]);generalize upd H0 t0 _=H1 at c1 g0⊢;have d1:=d0.trans c1;have e1:=e0.trans c1;refine Ĝ (j:=1) (À.of (d1 _ _ hN)) (Č (j:=1) (À.of (e1 _ _ eK)) rfl ({by show 4<=sizeLine;decide,λt1 ht1=>?_}));obtain⟨c2,g1⟩:=É ht1 (HO.tup [V.str "given",.str (N 1),.int (rk 1),.int 0]);generalize upd H1 t1 _=H2 at c2 g1⊢;have d2:=d1.trans c2;have e2:=e1.trans c2;refine Ĝ (j:=2) (À.of (d2 _ _ hN)) (Č (j:=2) (À.of (e2 _ _ eK)) rfl ({by show 4<=sizeLine;decide,λt2 ht2=>?_}));obtain⟨c3,g2⟩:=É ht2 (HO.tup [V.str "given",.str (N 2),.int (rk 2),.int 3]);generalize upd H2 t2 _=H3 at c3 g2⊢;have d3:=d2.trans c3;have e3:=e2.trans c3;refine{by show 3<=sizeLine;decide,λl0 hl0=>?_};obtain⟨c4,a0⟩:=É hl0 (HO.lst [V.ref t0,V.ref t1,V.ref t2]);generalize upd H3 l0 _=H4 at c4 a0⊢;have d4:=d3.trans c4;have e4:=e3.trans c4;refine K1 _ _ ?_;clear K1 M1;try dsimp only
 refine ag λM1 K1=>Ĝ (j:=3) (À.of (d4 _ _ hN)) ({by show 3<=sizeLine;decide,λt3 ht3=>?_});obtain⟨c5,g3⟩:=É ht3 (HO.tup [V.str "own",.str (N 3),.int 0]);generalize upd H4 t3 _=H5 at c5 g3⊢;have d5:=d4.trans c5;have e5:=e4.trans c5;refine Ĝ (j:=4) (À.of (d5 _ _ hN)) ({c,27,rfl,∅,∅,λm m0 m1=>{by show(0:Int)<4;decide,{by show 3<=sizeLine;decide,λt4 ht4=>?_}}});obtain⟨c6,g4⟩:=É ht4 (HO.tup [V.str "own",.str (N 4),.int (1+m%4)]);generalize upd H5 t4 _=H6 at c6 g4⊢;have d6:=d5.trans c6;have e6:=e5.trans c6;refine Ĝ (j:=5) (À.of (d6 _ _ hN)) (Č (j:=3) (À.of (e6 _ _ eK)) rfl ({by show 3<=sizeLine;decide,λt5 ht5=>?_}));obtain⟨c7,g5⟩:=É ht5 (HO.tup [V.str "let",.str (N 5),.int (rk 3)]);generalize upd H6 t5 _=H7 at c7 g5⊢;have d7:=d6.trans c7;have e7:=e6.trans c7;refine{by show 3<=sizeLine;decide,λl1 hl1=>?_};obtain⟨c8,a1⟩:=É hl1 (HO.lst [V.ref t3,V.ref t4,V.ref t5]);generalize upd H7 l1 _=H8 at c8 a1⊢;have d8:=d7.trans c8;have e8:=e7.trans c8;have f1:aj H4 H8:=λa o h=>c8 _ _ (c7 _ _ (c6 _ _ (c5 _ _ h)));refine{l0,l1,_,_,rfl,rfl,f1 _ _ a0,a1,by show 6<=sizeLine;decide,λb1 hb1=>?_};obtain⟨c9,q1⟩:=É hb1 (HO.lst ([V.ref t0,V.ref t1,V.ref t2]++[V.ref t3,V.ref t4,V.ref t5]));generalize upd H8 b1 _=H9 at c9 q1⊢;have q1:H9 b1=YH (.lst [V.ref t0,V.ref t1,V.ref t2,V.ref t3,V.ref t4,V.ref t5]):=q1;have d9:=d8.trans c9;have e9:=e8.trans c9;refine K1 _ _ ?_;clear K1 M1;try dsimp only
 refine ag λM1 K1=>Ĝ (j:=6) (À.of (d9 _ _ hN)) (Č (j:=4) (À.of (e9 _ _ eK)) rfl ({by show 3<=sizeLine;decide,λt6 ht6=>?_}));obtain⟨Ō,g6⟩:=É ht6 (HO.tup [V.str "let",.str (N 6),.int (rk 4)]);generalize upd H9 t6 _=Š at Ō g6⊢;have d10:=d9.trans Ō;have e10:=e9.trans Ō;refine Ĝ (j:=7) (À.of (d10 _ _ hN)) ({by show 3<=sizeLine;decide,λt7 ht7=>?_});obtain⟨û,g7⟩:=É ht7 (HO.tup [V.str "own",.str (N 7),.int 0]);generalize upd Š t7 _=H11 at û g7⊢;have d11:=d10.trans û;have e11:=e10.trans û;refine Ĝ (j:=8) (À.of (d11 _ _ hN)) (Č (j:=5) (À.of (e11 _ _ eK)) rfl ({by show 3<=sizeLine;decide,λt8 ht8=>?_}));obtain⟨ă,g8⟩:=É ht8 (HO.tup [V.str "hand",.str (N 8),.int (rk 5)]);generalize upd H11 t8 _=H12 at ă g8⊢;have d12:=d11.trans ă;have e12:=e11.trans ă;refine{by show 3<=sizeLine;decide,λl2 hl2=>?_};obtain⟨Ŭ,a2⟩:=É hl2 (HO.lst [V.ref t6,V.ref t7,V.ref t8]);generalize upd H12 l2 _=H13 at Ŭ a2⊢;have d13:=d12.trans Ŭ;have e13:=e12.trans Ŭ;have f2:aj H9 H13:=λa o h=>Ŭ _ _ (ă _ _ (û _ _ (Ō _ _ h)));refine{b1,l2,_,_,rfl,rfl,f2 _ _ q1,a2,by show 9<=sizeLine;decide,λb2 hb2=>?_};obtain⟨ŷ,q2⟩:=É hb2 (HO.lst ([V.ref t0,V.ref t1,V.ref t2,V.ref t3,V.ref t4,V.ref t5]++[V.ref t6,V.ref t7,V.ref t8]));generalize upd H13 b2 _=H14 at ŷ q2⊢;have q2:H14 b2=YH (.lst [V.ref t0,V.ref t1,V.ref t2,V.ref t3,V.ref t4,V.ref t5,V.ref t6,V.ref t7,V.ref t8]):=q2;have d14:=d13.trans ŷ;have e14:=e13.trans ŷ;refine K1 _ _ ?_;clear K1 M1;try dsimp only
 refine ag λM1 K1=>Ĝ (j:=19) (À.of (d14 _ _ hN)) (Č (j:=6) (À.of (e14 _ _ eK)) rfl ({by show 4<=sizeLine;decide,λt9 ht9=>?_}));obtain⟨ū,g9⟩:=É ht9 (HO.tup [V.str "given",.str (N 19),.int (rk 6),.int 0]);generalize upd H14 t9 _=H15 at ū g9⊢;have d15:=d14.trans ū;have e15:=e14.trans ū;refine Ĝ (j:=20) (À.of (d15 _ _ hN)) ({by show 3<=sizeLine;decide,λt10 ht10=>?_});obtain⟨ŝ,g10⟩:=É ht10 (HO.tup [V.str "own",.str (N 20),.int 0]);generalize upd H15 t10 _=H16 at ŝ g10⊢;have d16:=d15.trans ŝ;have e16:=e15.trans ŝ;refine{by show 2<=sizeLine;decide,λl3 hl3=>?_};obtain⟨ŕ,a3⟩:=É hl3 (HO.lst [V.ref t9,V.ref t10]);generalize upd H16 l3 _=H17 at ŕ a3⊢;have d17:=d16.trans ŕ;have e17:=e16.trans ŕ;have f3:aj H14 H17:=λa o h=>ŕ _ _ (ŝ _ _ (ū _ _ h));refine{b2,l3,_,_,rfl,rfl,f3 _ _ q2,a3,by show 11<=sizeLine;decide,λb3 hb3=>?_};obtain⟨Ŝ,q3⟩:=É hb3 (HO.lst ([V.ref t0,V.ref t1,V.ref t2,V.ref t3,V.ref t4,V.ref t5,V.ref t6,V.ref t7,V.ref t8]++[V.ref t9,V.ref t10]));generalize upd H17 b3 _=ş at Ŝ q3⊢;have q3:ş b3=YH (.lst [V.ref t0,V.ref t1,V.ref t2,V.ref t3,V.ref t4,V.ref t5,V.ref t6,V.ref t7,V.ref t8,V.ref t9,V.ref t10]):=q3;have d18:=d17.trans Ŝ;have e18:=e17.trans Ŝ;have z1:=bY m (show(0:Int)<4 by decide);have pr:ba N ş ((oJ rk (1+m%4)).map Fr.leaf) [V.ref t0,V.ref t1,V.ref t2,V.ref t3,V.ref t4,V.ref t5,V.ref t6,V.ref t7,V.ref t8,V.ref t9,V.ref t10]:=by
  have k0:ş t0=_:=Ŝ _ _ (ŕ _ _ (ŝ _ _ (ū _ _ (ŷ _ _ (Ŭ _ _ (ă _ _ (û _ _ (Ō _ _ (c9 _ _ (c8 _ _ (c7 _ _ (c6 _ _ (c5 _ _ (c4 _ _ (c3 _ _ (c2 _ _ g0))))))))))))))));have k1:ş t1=_:=Ŝ _ _ (ŕ _ _ (ŝ _ _ (ū _ _ (ŷ _ _ (Ŭ _ _ (ă _ _ (û _ _ (Ō _ _ (c9 _ _ (c8 _ _ (c7 _ _ (c6 _ _ (c5 _ _ (c4 _ _ (c3 _ _ g1)))))))))))))));have k2:ş t2=_:=Ŝ _ _ (ŕ _ _ (ŝ _ _ (ū _ _ (ŷ _ _ (Ŭ _ _ (ă _ _ (û _ _ (Ō _ _ (c9 _ _ (c8 _ _ (c7 _ _ (c6 _ _ (c5 _ _ (c4 _ _ g2))))))))))))));have k3:ş t3=_:=Ŝ _ _ (ŕ _ _ (ŝ _ _ (ū _ _ (ŷ _ _ (Ŭ _ _ (ă _ _ (û _ _ (Ō _ _ (c9 _ _ (c8 _ _ (c7 _ _ (c6 _ _ g3))))))))))));have k4:ş t4=_:=Ŝ _ _ (ŕ _ _ (ŝ _ _ (ū _ _ (ŷ _ _ (Ŭ _ _ (ă _ _ (û _ _ (Ō _ _ (c9 _ _ (c8 _ _ (c7 _ _ g4)))))))))));have k5:ş t5=_:=Ŝ _ _ (ŕ _ _ (ŝ _ _ (ū _ _ (ŷ _ _ (Ŭ _ _ (ă _ _ (û _ _ (Ō _ _ (c9 _ _ (c8 _ _ g5))))))))));have k6:ş t6=_:=Ŝ _ _ (ŕ _ _ (ŝ _ _ (ū _ _ (ŷ _ _ (Ŭ _ _ (ă _ _ (û _ _ g6)))))));have k7:ş t7=_:=Ŝ _ _ (ŕ _ _ (ŝ _ _ (ū _ _ (ŷ _ _ (Ŭ _ _ (ă _ _ g7))))));have k8:ş t8=_:=Ŝ _ _ (ŕ _ _ (ŝ _ _ (ū _ _ (ŷ _ _ (Ŭ _ _ g8)))));have k9:ş t9=_:=Ŝ _ _ (ŕ _ _ (ŝ _ _ g9));have k10:ş t10=_:=Ŝ _ _ (ŕ _ _ g10);exact .cons (Ĕ k0 rfl) (.cons (Ĕ k1 rfl) (.cons (Ĕ k2 rfl) (.cons (Ĕ k3 rfl) (.cons (Ĕ k4 rfl) (.cons (Ĕ k5 rfl) (.cons (Ĕ k6 rfl) (.cons (Ĕ k7 rfl) (.cons (Ĕ k8 rfl) (.cons (Ĕ k9 rfl) (.cons (Ĕ k10 rfl) (.nil)))))))))))
 refine K1 _ _ ?_;clear K1 M1;try dsimp only
 refine ag λM1 K1=>{c,1,rfl,∅,∅,λm' m0' m1'=>{by show(0:Int)<11;decide,K1 _ _ ?_}};clear K1 M1;have z2:=bY m' (show(0:Int)<11 by decide);obtain⟨t,ht⟩:∃t:Nat,m'%11=(t:Int):={(m'%11).toNat,()};have t11:t<=11:=()
 dsimp only[pO,List.set];rw[ht];have lp:=RT pr;generalize hys:[V.ref t0,V.ref t1,V.ref t2,V.ref t3,V.ref t4,V.ref t5,V.ref t6,V.ref t7,V.ref t8,V.ref t9,V.ref t10]=ys at q3 pr lp;have ly:ys.length=11:=by rw[<-hys];rfl
 refine{_,rfl,Pg {b3,_,rfl,À.of q3,λp1 hp1=>?_}};rw[K0 ()];obtain⟨s24,e24⟩:=É hp1 (HO.lst (ys.drop t));generalize upd ş p1 _=X24 at s24 e24⊢;refine{_,rfl,Pg {b3,_,rfl,À.of (s24 _ _ q3),λp2 hp2=>?_}};rw[KC ()];obtain⟨s25,e25⟩:=É hp2 (HO.lst (ys.take t));generalize upd X24 p2 _=X25 at s25 e25⊢;refine{p1,p2,_,_,rfl,rfl,s25 _ _ e24,e25,sz (by rw[Qu,PV];lia),λLR hLR=>?_};have s26:=aj.upd hLR (.lst (ys.drop t++ys.take t));refine q LR rk (1+m%4) t _ _ (d18.trans (s24.trans (s25.trans s26))) (aj.free (d18.trans (s24.trans s25)) hLR) ao ?_ hrk () () t11;unfold rb;rw[PB,List.map_drop,Rp];exact ba.same (s24.trans (s25.trans s26)) (Paired.two (qT t pr) (mS t pr))
noncomputable def del(X:List RJ)(H:Hp):Hp:=λa=>if a∈X then YI else H a
theorem cN:aj (del X H) H:=λa o h=>by
 unfold del at h;split at h
 ·cases h
 exact h
theorem aP(h:a∉X)(e:H a=YH o):del X H a=YH o:=by
 unfold del;rw[if_neg h];exact e
theorem cC(h:del X H a=YH o):a∉X/\H a=YH o:=by
 unfold del at h;split at h
 ·cases h
 exact⟨by assumption,h⟩
noncomputable abbrev S3:List Nat:=[3,7,20]
noncomputable abbrev S7:List Nat:=[1,2,3,4,7,19,20]
def pT(ps:List Nat)(t:Th):Prop:=∀a,t=.x a->a∈S7++ps
def vOk(ps:List Nat)(v:Val):Prop:=∀t∈æ v,pT ps t
def rM(N:Nat->Str)(X:Hp)(sc:RJ)(ps:List Nat):Prop:=∃a1 a2 a3 a4,X sc=YH (.dK [(.inr "targets",.ref a1),(.inr "things",.ref a2),(.inr "lists",.ref a3),(.inr "hands",.ref a4)])/\X a1=YH (.lst (nV N (S3++ps)))/\X a2=YH (.lst (nV N ([1,19]++(S3++ps))))/\X a3=YH (.lst (nV N [2,4]))/\X a4=YH (.lst (nV N [0,8]))
theorem rM.same(s:aj X X')(h:rM N X sc ps):rM N X' sc ps:=by
 obtain⟨a1,a2,a3,a4,h1,h2,h3,h4,h5⟩:=h;exact{a1,a2,a3,a4,s _ _ h1,s _ _ h2,s _ _ h3,s _ _ h4,s _ _ h5}
inductive zd(vs:List V)(H:Hp)(Q:VK)(Ä:XK):Prop
 |mk (N nl pp ps) (z0:vs=[.ref nl,.ref pp]) (z1:H nl=YH (.lst (sS (vk N)))) (z2:H pp=YH (.lst (nV N ps))) (z3:ps.length<=10)
  (z4:∀(sc H'),aj H H'->H sc=YI->(∀M,(∀x∈M,H x≠YI)->rM N (del M H') sc ps)->Q (.ref sc) H'):zd vs H Q Ä
theorem C5(T:Txt K mg A):T.qN.Hz P w base 1 zd:=by
 refine T.qN.hs kO (λf Ã A' outer s H vs Q E hr hu h=>?_);obtain⟨N,nl,pp,ps,rfl,hN,hP,lp,q⟩:=h;have lv:(nV N ps).length=ps.length:=OZ _;refine⟨_,(ae (Ç 2 kO.nd (az aQ (aI (px hu (fv 0) af^px hu (fv 0) af^px hu (fv 0) af^ab)) (fv 1)))
  (ae (Ç 3 kO.nd (xW (dX aw (fv 2) (dX aw (az aQ (aI (px hu (fv 0) af^px hu (fv 0) af^ab)) (fv 2)) (dX aw (aI (px hu (fv 0) af^px hu (fv 0) af^ab)) (xj)))) rfl rfl (by intro z;cases z) ∅))
  (ae (bR (aI (px hu (fv 0) af^px hu (fv 0) af^ab)) (fD (fv 3) aw (fG hu YN)))
  (ai (aD (fv 3)))))),?_⟩
 refine ag λM1 K1=>Ĝ (j:=3) (À.of hN) (Ĝ (j:=7) (À.of hN) (Ĝ (j:=20) (À.of hN) {by show 3<=sizeLine;decide,λl0 h0=>?_}));obtain⟨s0,e0⟩:=É h0 (HO.lst [.str (N 3),.str (N 7),.str (N 20)]);generalize upd H l0 _=H0 at s0 e0⊢;refine{l0,pp,_,_,rfl,rfl,e0,s0 _ _ hP,sz (by rw[lv];show 3+ps.length<=1000;lia),λa1 ha1=>?_};obtain⟨s1,e1⟩:=É ha1 (HO.lst ([.str (N 3),.str (N 7),.str (N 20)]++nV N ps));generalize upd H0 a1 _=H1 at s1 e1⊢;have e1:H1 a1=YH (.lst (nV N (S3++ps))):=e1;have t1:=s0.trans s1;refine K1 _ _ ?_;clear K1 M1;try dsimp only
 refine ag λM1 K1 D hD=>?_;obtain⟨s2,e2⟩:=É hD (HO.dK []);generalize upd H1 D _=H2 at s2 e2⊢;have t2:=t1.trans s2;refine Ĝ (j:=1) (À.of (t2 _ _ hN)) (Ĝ (j:=19) (À.of (t2 _ _ hN)) {by show 2<=sizeLine;decide,λl3 h3=>?_});obtain⟨s3,e3⟩:=É h3 (HO.lst [.str (N 1),.str (N 19)]);generalize upd H2 l3 _=H3 at s3 e3⊢;refine{l3,a1,_,_,rfl,rfl,e3,(s2.trans s3) _ _ e1,sz (by rw[OZ,OX];show 2+(3+ps.length)<=1000;lia),λa2 ha2=>?_};obtain⟨s4,e4⟩:=É ha2 (HO.lst ([.str (N 1),.str (N 19)]++nV N (S3++ps)));generalize upd H3 a2 _=H4 at s4 e4⊢;have e4:H4 a2=YH (.lst (nV N ([1,19]++(S3++ps)))):=e4;have t4:=t2.trans (s3.trans s4);refine Ĝ (j:=2) (À.of (t4 _ _ hN)) (Ĝ (j:=4) (À.of (t4 _ _ hN)) {by show 2<=sizeLine;decide,λa3 ha3=>?_});obtain⟨s5,e5⟩:=É ha3 (HO.lst [.str (N 2),.str (N 4)]);generalize upd H4 a3 _=H5 at s5 e5⊢;have t5:=t4.trans s5;have s25:=s3.trans (s4.trans s5);refine{s25 _ _ e2,[(.inr "targets",.ref a1),(.inr "things",.ref a2),(.inr "lists",.ref a3)],rfl,by show 3<=15;decide,?_};have D1:H1 D=YI:=hD;have ř:aj H1 (upd H5 D (.dK (bu [] [(.inr "targets",.ref a1),(.inr "things",.ref a2),(.inr "lists",.ref a3)]))):=aj.out (s2.trans s25) D1 _;have n2:a2≠D:=YJ ha2 (s3 _ _ e2);have n3:a3≠D:=YJ ha3 ((s3.trans s4) _ _ e2);have k1:=ř _ _ e1;have k2:upd H5 D (.dK (bu [] [(.inr "targets",.ref a1),(.inr "things",.ref a2),(.inr "lists",.ref a3)])) a2=_:=au n2 (s5 _ _ e4);have k3:upd H5 D (.dK (bu [] [(.inr "targets",.ref a1),(.inr "things",.ref a2),(.inr "lists",.ref a3)])) a3=_:=au n3 e5;have eD:upd H5 D (.dK (bu [] [(.inr "targets",.ref a1),(.inr "things",.ref a2),(.inr "lists",.ref a3)])) D=YH (.dK [(.inr "targets",.ref a1),(.inr "things",.ref a2),(.inr "lists",.ref a3)]):=ao;generalize upd H5 D _=H6 at ř k1 k2 k3 eD⊢;have t6:=t1.trans ř;refine K1 _ _ ?_;clear K1 M1;try dsimp only
 refine ag λM1 K1=>Ĝ (j:=0) (À.of (t6 _ _ hN)) (Ĝ (j:=8) (À.of (t6 _ _ hN)) {by show 2<=sizeLine;decide,λa4 ha4=>?_});obtain⟨s7,e7⟩:=É ha4 (HO.lst [.str (N 0),.str (N 8)]);generalize upd H6 a4 _=H7 at s7 e7⊢;refine{_,ou.k (k:=.inr "hands") (s7 _ _ eD) (show 3<sizeLine by decide),K1 _ _ ?_};clear K1 M1;have o1:a1≠D:=λz=>by rw[z,D1]at e1;cases e1
 have o2:a2≠D:=n2;have o4:a4≠D:=YJ ha4 (eD);refine q D _ (t1.trans (aj.out (ř.trans s7) D1 _)) (aj.free t1 D1) λM hM=>?_;have nw:∀{x:RJ},H x=YI->x∉M:=λh m=>hM _ m h;exact{a1,a2,a3,a4,aP (nw (aj.free t1 D1)) ao,aP (nw (aj.free s0 ha1)) (au o1 (s7 _ _ k1)),aP (nw (aj.free (t2.trans s3) ha2)) (au o2 (s7 _ _ k2)),aP (nw (aj.free t4 ha3)) (au n3 (s7 _ _ k3)),aP (nw (aj.free t6 ha4)) (au o4 e7)}
theorem JL(h:a∈[1,19]++(S3++ps)):a∈S7++ps:=by
 rcases O5.mp h with m|m
 ·exact Ph _ ((show ∀x∈([1,19]:List Nat),x∈S7 by decide) a m)
 rcases O5.mp m with m|m
 ·exact Ph _ ((show ∀x∈S3,x∈S7 by decide) a m)
 exact Pc _ m
inductive vE(vs:List V)(H:Hp)(Q:VK)(Ä:XK):Prop
 |mk (N sc ps n) (z0:vs=[.int n,.ref sc]) (z1:0<=n) (z2:n<1000000000000000) (z3:rM N H sc ps)
  (z4:∀(t H'),aj H H'->pT ps t->Q (t.v N) H'):vE vs H Q Ä
theorem lO(T:Txt K mg A):T.qy.Hz P w base 2 vE:=by
 refine T.qy.hs (k:=1) xU (λf Ã A' outer s H vs Q E hr hu h=>?_);obtain⟨N,sc,ps,n,rfl,h0,h1,hS,q⟩:=h;refine⟨_,(ae (aS (Í (cn hu) (az bK (fv 0) af) af)
   (ai (aD (az bK (az dh (az eZ (fv 0) af) af) (px hu (aI (af^az tL af af^ab)) (az bK (az eZ (fv 0) af) af)))))
   aF)
  (ai (aD (ak (qB T) hr (px hu (fv 1) aw^az eZ (fv 0) af^ab))))),?_⟩
 refine ag λM1 K1=>{by show(0:Int)<2;decide,rfl,_,rfl,bg (λ_=>?_) (λ_=>K1 _ _ ?_)}
 ·refine{{∅,∅},.inr {∅,∅},{∅,∅,∅},by show 2<=sizeLine;decide,λL hL=>?_};obtain⟨s1,e1⟩:=É hL (HO.lst [.int 4,.int (10^(12:Int).toNat)]);generalize upd H L _=H1 at s1 e1⊢;obtain⟨m0,m1⟩:=bY (n/2) (show(0:Int)<2 by decide);refine{{∅,∅},by show(0:Int)<2;decide,?_};obtain⟨y,ay,y0⟩:∃y:Int,į [V.int 4,.int (10^(12:Int).toNat)] (n/2%2)=YH (.int y)/\0<y:=by
   generalize n/2%2=j at m0 m1;have cs:j=0\/j=1:=()
   rcases cs with rfl|rfl
   ·exact{4,rfl,∅}
   exact{_,rfl,∅}
  exact ï (À.of e1) ay {y0,q (.i _) H1 s1 (λa z=>by cases z)}
 clear K1 M1;try dsimp only
 obtain⟨a1,a2,a3,a4,h1,h2,h3,h4,h5⟩:=hS;refine ä h1 rfl {{∅,∅},a2,_,_,rfl,À.of h3,by simp,λx hx=>?_};obtain⟨a,ma,rfl⟩:=Pb.mp hx;refine q (.x a) H (aj.refl _) λb z=>?_;cases z;exact JL ma
inductive BA(vs:List V)(H:Hp)(Q:VK)(Ä:XK):Prop
 |mk (N sc ps c) (z0:vs=[.int c,.ref sc]) (z3:rM N H sc ps)
  (z4:∀(p v H'),aj H H'->H p=YI->H' p=YH (.tup (vV N v))->vOk ps v->Q (.ref p) H'):BA vs H Q Ä
theorem OW(h:pT ps t):vOk ps (.one t):=λu hu=>by
 rw[OY.mp hu];exact h
theorem ME(h:pT ps t)(h':pT ps u):vOk ps (.op t x u):=λv hv=>by
 simp only[æ,O2,Po,or_false]at hv;rcases hv with rfl|rfl
 ·exact h
 exact h'
theorem FT(T:Txt K mg A):T.p7.Hz P w base 3 BA:=by
 have bc:=@pG P w _ _ base _ T;refine T.p7.hs (k:=2) gS (λf Ã A' outer s H vs Q E hr hu h=>?_);obtain⟨N,sc,ps,c,rfl,hS,q⟩:=h;refine⟨_,(ae (Ç 2 gS.nd (ak (hj:=by lia) (lO T) hr ((ak (hj:=by lia) bc hr (fv 0^af^ab))^fv 1^ab)))
  (ae (Ç 3 gS.nd (ak (hj:=by lia) (lO T) hr ((ak (hj:=by lia) bc hr (fv 0^af^ab))^fv 1^ab)))
  (ae (Ç 4 gS.nd (ak (hj:=by lia) bc hr (fv 0^af^ab)))
  (ae (aS (Í zE (az bK (fv 4) af) af)
   (ai (aD (aV (fv 2^ab))))
   aF)
  (ae (aS (Í (cn hu) (az bK (fv 4) af) af)
   (ai (aD (aV ((ak (hj:=by lia) (qB T) hr (px hu (fv 1) aw^az eZ (fv 4) af^ab))^aw^fv 3^ab))))
   aF)
  (ai (aD (aV (fv 2^(ak (hj:=by lia) (qB T) hr (aI (aw^aw^aw^aw^aw^aw^aw^ab)^az eZ (fv 4) af^ab))^fv 3^ab))))))))),?_⟩
 refine ag λM1 K1=>{c,28,rfl,∅,∅,λm m0 m1=>{N,sc,ps,m,rfl,m0,m1,hS,λt1 H1 s1 o1=>K1 _ _ ?_}};clear K1 M1;try dsimp only
 refine ag λM1 K1=>{c,29,rfl,∅,∅,λm2 m20 m21=>{N,sc,ps,m2,rfl,m20,m21,hS.same s1,λt2 H2 s2 o2=>K1 _ _ ?_}};clear K1 M1;have t2':=s1.trans s2;try dsimp only
 refine ag λM1 K1=>{c,30,rfl,∅,∅,λn n0 n1=>K1 _ _ ?_};clear K1 M1;try dsimp only
 refine ag λM1 K1=>{by show(0:Int)<4;decide,_,rfl,bg (λ_=>?_) (λ_=>K1 _ _ ?_)}
 ·exact{by show 1<=sizeLine;decide,λp hp=>q p (.one t1) _ (t2'.trans (aj.upd hp _)) (aj.free t2' hp) ao (OW o1)}
 clear K1 M1;try dsimp only
 refine ag λM1 K1=>{by show(0:Int)<4;decide,rfl,_,rfl,bg (λ_=>?_) (λ_=>K1 _ _ ?_)}
 ·obtain⟨a1,a2,a3,a4,h1,h2,h3,h4,h5⟩:=hS.same t2';refine ä h1 rfl {{∅,∅},a3,_,_,rfl,À.of h4,by simp,λx hx=>?_};obtain⟨a,ma,rfl⟩:=Pb.mp hx;refine{by show 3<=sizeLine;decide,λp hp=>q p (.op (.x a) "at" t2) _ (t2'.trans (aj.upd hp _)) (aj.free t2' hp) ao (ME (λb z=>?_) o2)};cases z;exact Ph _ ((show ∀x∈([2,4]:List Nat),x∈S7 by decide) a ma)
 clear K1 M1;try dsimp only
 refine{by show 7<=sizeLine;decide,λL hL=>?_};obtain⟨s3,e3⟩:=É hL (HO.lst [.str "+",.str "-",.str "*",.str "over",.str "rest",.str "<",.str "="]);generalize upd H2 L _=H3 at s3 e3⊢;refine{{∅,∅},L,_,_,rfl,À.of e3,∅,λx hx=>?_};obtain⟨y,rfl⟩:∃y:Str,x=.str y:=by
  simp only[O2,Po,or_false]at hx;rcases hx with e|e|e|e|e|e|e<;>exact{_,e}
 refine{by show 3<=sizeLine;decide,λp hp=>?_};have t3:=t2'.trans s3;exact q p (.op t1 y t2) _ (t3.trans (aj.upd hp _)) (aj.free t3 hp) ao (ME o1 o2)
theorem Sm.del(s:Sm M H H'):aj (del M H) (del M H'):=λa o h=>by
 obtain⟨h1,h2⟩:=cC h;exact aP h1 (s a o h1 h2)
theorem Sm.mono(s:Sm M H H')(m:∀a∈M,a∈M'):Sm M' H H':=λa o h e=>s a o (λz=>h (m a z)) e
structure Sa where
 S:RJ
 o:RJ
 t:RJ
 m:RJ
 d:RJ
 F:RJ
noncomputable abbrev Sa.M(s:Sa):List RJ:=[s.S,s.o,s.t,s.m,s.d,s.F]
noncomputable abbrev Sa.Q(s:Sa):List RJ:=[s.S,s.o,s.t,s.m,s.d]
def Sn(s:Sa)(H H':Hp):Prop:=Sm s.Q H H'
theorem Sa.qm{s:Sa}{a:RJ}(h:a∈s.Q):a∈s.M:=by
 simp only[Sa.Q,Sa.M,O2,Po,or_false]at h⊢;rcases h with h|h|h|h|h<;>simp[h]
theorem Sn.del(h:Sn s H H'):aj (del s.M H) (del s.M H'):=Sm.del (Sm.mono h λ_=>Sa.qm)
theorem Sn.trans(h:Sn s H H')(h':Sn s H' H''):Sn s H H'':=Sm.trans h h'
theorem Sn.new(h:aj H H'):Sn s H H':=Sm.new h
theorem Sn.at(m:a∈s.Q) (o):Sn s H (upd H a o):=Sm.at m o
noncomputable def stK(s:Sa)(room:Int):List (Key×V):=[(.inr "open",.ref s.o),(.inr "times",.ref s.t),(.inr "marks",.ref s.m),(.inr "deeds",.ref s.d),(.inr "room",.int room)]
structure Sg where
 op:List Str
 tm:List Int
 ma:List Nat
 dd:List (Nat×Nat×Int)
 room:Int
def xM(N:Nat->Str)(X:Hp)(dd:List (Nat×Nat×Int))(vs:List V):Prop:=Paired (λ(e:Nat×Nat×Int) v=>∃a,v=V.ref a/\X a=YH (.tup [.str (N e.1),.int e.2.1,.int e.2.2])) dd vs
theorem xM.same(s:aj X X')(h:xM N X dd vs):xM N X' dd vs:=Paired.vb h λ_ _ ⟨a,e,z⟩=>{a,e,s _ _ z}
structure ê(N:Nat->Str)(H:Hp)(s:Sa)(g:Sg):Prop where
 hS:H s.S=YH (.dK (stK s g.room))
 ho:H s.o=YH (.lst (sS g.op))
 ht:H s.t=YH (.lst (g.tm.map V.int))
 hm:H s.m=YH (.lst (nV N g.ma))
 hd:∃ds,H s.d=YH (.lst ds)/\xM N (del s.M H) g.dd ds
 nd:s.M.Nodup
 hF:∃ys,H s.F=YH (.lst ys)
 mo:∀m∈g.ma,m=5\/m=6
 nm:ko N
theorem ê.in(h:ê N H s g)(m:a∈s.M):H a≠YI:=by
 obtain⟨ds,hd,_⟩:=h.hd;obtain⟨ys,hF⟩:=h.hF;simp only[O2,Po,or_false]at m;rcases m with rfl|rfl|rfl|rfl|rfl|rfl
 ·rw[h.hS];simp
 ·rw[h.ho];simp
 ·rw[h.ht];simp
 ·rw[h.hm];simp
 ·rw[hd];simp
 rw[hF];simp
theorem ê.new(h:ê N H s g)(e:H a=YI):a∉s.M:=λm=>h.in m e
theorem ê.same(h:ê N H s g)(e:aj H H'):ê N H' s g:=by
 obtain⟨ds,hd,dd⟩:=h.hd;exact{e _ _ h.hS,e _ _ h.ho,e _ _ h.ht,e _ _ h.hm,{ds,e _ _ hd,dd.same (Sn.del (Sn.new e))},h.nd,h.hF.imp λ_ z=>e _ _ z,h.mo,h.nm}
theorem ê.ne(h:ê N H s g):(s.S≠s.o/\s.S≠s.t/\s.S≠s.m/\s.S≠s.d/\s.o≠s.t/\s.o≠s.m/\s.o≠s.d/\s.t≠s.m/\s.t≠s.d/\s.m≠s.d)/\s.F≠s.S/\s.F≠s.o/\s.F≠s.t/\s.F≠s.m/\s.F≠s.d:=by
 have nd:=h.nd;simp only[Sa.M,P1,O2,Po,or_false,not_or,Q7,and_true,not_false_eq_true]at nd;obtain⟨⟨a,b,c,d,x1⟩,⟨e,f,i,x2⟩,⟨j,k,x3⟩,⟨l,x4⟩,x5⟩:=nd;exact{⟨a,b,c,d,e,f,i,j,k,l⟩,Pr x1,Pr x2,Pr x3,Pr x4,Pr x5}
theorem ê.marks{H s g}(h:ê N H s g){mk}(e:∀m∈mk,m=5\/m=6):ê N (upd H s.m (.lst (nV N mk))) s { g with ma:=mk }:=by
 obtain⟨⟨a,b,c,d,e',f,i,j,k,l⟩,x1,x2,x3,x4,x5⟩:=h.ne;obtain⟨ds,hd,dd⟩:=h.hd;exact{au c h.hS,au f h.ho,au j h.ht,ao,{ds,au (Pr l) hd,dd.same (Sn.del (Sn.at (by simp) _))},h.nd,h.hF.imp λ_ z=>au x4 z,e,h.nm}
theorem ê.qh(h:ê N H s g) (r):ê N (upd H s.S (.dK (stK s r))) s { g with room:=r }:=by
 obtain⟨⟨a,b,c,d,e',f,i,j,k,l⟩,x1,x2,x3,x4,x5⟩:=h.ne;obtain⟨ds,hd,dd⟩:=h.hd;exact{ao,au (Pr a) h.ho,au (Pr b) h.ht,au (Pr c) h.hm,{ds,au (Pr d) hd,dd.same (Sn.del (Sn.at (by simp) _))},h.nd,h.hF.imp λ_ z=>au x1 z,h.mo,h.nm}
theorem ê.opened(h:ê N H s g) (op):ê N (upd H s.o (.lst (sS op))) s { g with op:=op }:=by
 obtain⟨⟨a,b,c,d,e',f,i,j,k,l⟩,x1,x2,x3,x4,x5⟩:=h.ne;obtain⟨ds,hd,dd⟩:=h.hd;exact{au a h.hS,ao,au (Pr e') h.ht,au (Pr f) h.hm,{ds,au (Pr i) hd,dd.same (Sn.del (Sn.at (by simp) _))},h.nd,h.hF.imp λ_ z=>au x2 z,h.mo,h.nm}
theorem ê.JC(h:ê N H s g) (tm):ê N (upd H s.t (.lst (tm.map V.int))) s { g with tm:=tm }:=by
 obtain⟨⟨a,b,c,d,e',f,i,j,k,l⟩,x1,x2,x3,x4,x5⟩:=h.ne;obtain⟨ds,hd,dd⟩:=h.hd;exact{au b h.hS,au e' h.ho,ao,au (Pr j) h.hm,{ds,au (Pr k) hd,dd.same (Sn.del (Sn.at (by simp) _))},h.nd,h.hF.imp λ_ z=>au x3 z,h.mo,h.nm}
theorem ko.str(h:ko N) (i) (hi:i<24):Tv (N i)=true:=by
 unfold Tv;rw[Array.all_eq_true'];intro c hc;have:=h.ch i hi c (Array.mem_toList_iff.mpr hc);exact decide_eq_true ()
theorem Ll(h:H p=YH (.lst (xs++[y])))(q:Q y (upd H p (.lst xs))):Ik (.ref p) [] H Q:={p,_,y,rfl,rfl,h,by simp,by rw[List.dropLast_concat];exact q}
noncomputable def A6(ps:List Nat)(dd:List (Nat×Nat))(lp:Bool):Lr->Prop
 | .set x v=>x∈S7++ps/\vOk ps v
 | .put x t v=>x∈S7++ps/\pT ps t/\vOk ps v
 | .snd h v=>(h=0\/h=8)/\vOk ps v
 | .say x v m=>x∈S7++ps/\vOk ps v/\(m=5\/m=6)
 | .call i ts=>(i,ts.length)∈dd/\∀t∈ts,pT ps t
 | .last=>lp=true
 |_=>False
theorem M8(h:a∈S3++ps):a∈S7++ps:=JL (Pc _ h)
theorem fr1(h:X a=YH (.tup (.str f.wd::f.ts N p)))(e:f.ob N=YH o)(hp:X p=YH o):lG N X (.ref a) f:={a,p,rfl,h,λo' ho=>by rw[e]at ho;cases ho;exact hp}
inductive vw(vs:List V)(H:Hp)(Q:VK)(Ä:XK):Prop
 |mk (N s g c sc ps) (z0:vs=[.ref s.S,.int c,.ref sc]) (z1:ê N H s g) (z2:rM N (del s.M H) sc ps)
  (z3:∀(v r mk H'),Sn s H H'->ê N H' s { g with ma:=mk }->lG N (del s.M H') v (.leaf r)->(∀dd lp,A6 ps dd lp r)->Q v H'):vw vs H Q Ä
theorem Fn(T:Txt K mg A):T.qK.Hz P w base 4 vw:=by
 have bc:=@pG P w _ _ base _ T;refine T.qK.hs (k:=3) fo (λf Ã A' outer s' H vs Q E hr hu h=>?_);obtain⟨N,s,g,c,sc,ps,rfl,hA,hS,q⟩:=h;refine⟨_,(ae (Ç 3 fo.nd (az bK (ak (hj:=by lia) bc hr (fv 1^af^ab)) af))
  (ae (Ç 4 fo.nd (ak (hj:=by lia) (FT T) hr (fv 1^fv 2^ab)))
  (ae (Ç 5 fo.nd (ak (hj:=by lia) bc hr (fv 1^af^ab)))
  (ae (Ç 6 fo.nd (ak (hj:=by lia) (qB T) hr (px hu (fv 2) aw^fv 5^ab)))
  (ae (aS (PW.pt (pw_and (Í (cn hu) (fv 3) af) (pw_and1 (Í (rn hu) (px hu (fv 0) aw) (aI ab)))))
   (ai (aD (aV (aw^fv 6^fv 4^FC (px hu (fv 0) aw)^ab))))
   aF)
  (ae (aS (Í zE (fv 3) af)
   (ai (aD (aV (aw^(ak (hj:=by lia) (qB T) hr (px hu (fv 2) aw^fv 5^ab))^fv 4^ab))))
   aF)
  (ae (aS (Í (cn hu) (fv 3) af)
   (ai (aD (aV (aw^px hu (px hu (fv 2) aw) af^(ak (hj:=by lia) (lO T) hr ((ak (hj:=by lia) bc hr (fv 1^af^ab))^fv 2^ab))^fv 4^ab))))
   aF)
  (ai (aD (aV (aw^fv 6^fv 4^ab))))))))))),?_⟩
 refine ag λM1 K1=>{c,4,rfl,∅,∅,λm m0 m1=>{by show(0:Int)<8;decide,K1 _ _ ?_}};clear K1 M1;try dsimp only
 refine ag λM1 K1=>{N,sc,ps,c,rfl,hS.same cN,λp v H1 s1 f1 e1 ov=>K1 _ _ ?_};clear K1 M1;have A1:=hA.same s1;have S1:=hS.same (Sn.del (Sn.new s1));have p1:p∉s.M:=hA.new f1;try dsimp only
 refine ag λM1 K1=>{c,6,rfl,∅,∅,λn n0 n1=>?_};obtain⟨a1,a2,a3,a4,h1,h2,h3,h4,h5⟩:=S1;refine K1 _ _ ?_;clear K1 M1;try dsimp only
 refine ag λM1 K1=>ä (cN _ _ h1) rfl {a1,_,n,rfl,À.of (cN _ _ h2),by simp,λx hx=>K1 _ _ ?_};clear K1 M1;obtain⟨a,ma,rfl⟩:=Pb.mp hx;have ma':=M8 ma;have ep:∀{H':Hp},aj H1 H'->del s.M H' p=YH (.tup (vV N v)):=λe=>aP p1 (e _ _ e1);have fin:∀(r:Lr)(t:RJ)(mk:List Nat)(H2:Hp),Sn s H H2->ê N H2 s { g with ma:=mk }->H2 t=YI->(∀H',aj H2 H'->H' t=YH (.tup (.str r.wd::(r.fs N p).map (·.2)))->lG N (del s.M H') (.ref t) (.leaf r))->(∀dd lp,A6 ps dd lp r)->Q (.ref t) (upd H2 t (.tup (.str r.wd::(r.fs N p).map (·.2)))):=λr t mk H2 s2 A2 ht fr ok=>q _ r mk _ (s2.trans (Sn.new (aj.upd ht _))) (A2.same (aj.upd ht _)) (fr _ (aj.upd ht _) ao) ok;have go:∀(r:Lr)(t:RJ)(H2:Hp),aj H1 H2->H2 t=YI->r.ob N=YH (.tup (vV N v))->(∀dd lp,A6 ps dd lp r)->Q (.ref t) (upd H2 t (.tup (.str r.wd::(r.fs N p).map (·.2)))):=λr t H2 s2 ht eo ok=>fin r t g.ma H2 (Sn.new (s1.trans s2)) ((A1.same s2)) ht (λH' e et=>fr1 (p:=p) (aP (hA.new (aj.free (s1.trans s2) ht)) et) eo (ep (s2.trans e))) ok;try dsimp only
 refine ag λM1 K1=>?_;have rest:∀(H2:Hp),aj H1 H2->M1 [YH (.ref s.S),YH (.int c),YH (.ref sc),YH (.int (m%8)),YH (.ref p),YH (.int n),YH (.str (N a))] H2:=λH2 s2=>K1 _ _ (by
  try dsimp only
  have S2:=λx o (e:del s.M H1 x=YH o)=>s2 _ _ (cN _ _ e);refine ag λM2 K2=>{_,rfl,bg (λ_=>?_) (λ_=>K2 _ _ ?_)}
  ·refine ä (S2 _ _ h1) rfl {a4,_,n,rfl,À.of (S2 _ _ h5),by simp,λx hx=>?_};obtain⟨b,mb,rfl⟩:=Pb.mp hx;refine{by show 3<=sizeLine;decide,λt ht=>go (.snd b v) t H2 s2 ht rfl λdd lp=>{?_,ov}};simpa using mb
  clear K2 M2;try dsimp only
  refine ag λM2 K2=>{rfl,_,rfl,bg (λ_=>?_) (λ_=>K2 _ _ ?_)}
  ·refine ä (S2 _ _ h1) rfl (Č (j:=1) (À.of (S2 _ _ h4)) rfl {c,9,rfl,∅,∅,λm' m0' m1'=>{N,sc,ps,m',rfl,m0',m1',{a1,a2,a3,a4,S2 _ _ h1,S2 _ _ h2,S2 _ _ h3,S2 _ _ h4,S2 _ _ h5},λth H3 s3 oth=>{by show 4<=sizeLine;decide,λt ht=>go (.put 4 th v) t H3 (s2.trans s3) ht rfl λdd lp=>{by simp[S7],oth,ov}}}})
  try dsimp only
  refine{by show 3<=sizeLine;decide,λt ht=>go (.set a v) t H2 s2 ht rfl λdd lp=>⟨ma',ov⟩})
 refine{rfl,_,rfl,bg (λ_=>?_) (λ_=>aY (rest H1 (aj.refl _)))};refine ä A1.hS rfl {Pd _,λL hL=>?_};obtain⟨s2,e2⟩:=É hL (HO.lst []);generalize upd H1 L _=H2 at s2 e2⊢;have A2:=A1.same s2;have ok:∀x∈g.ma.map N,Tv x=true:=λx hx=>by
  obtain⟨i,mi,rfl⟩:=Pb.mp hx;rcases A2.mo i mi with rfl|rfl<;>exact A2.nm.str _ ∅
 refine YY (À.of A2.hm) (À.of e2) ((show nV N g.ma=sS (g.ma.map N) by simp[sS])▸uR ok) {_,rfl,?_};by_cases e0:g.ma=[]
 ·rw[e0];exact aY (rest H2 s2)
 obtain⟨ks,k0,ek⟩:∃ks k0,g.ma=ks++[k0]:={g.ma.dropLast,g.ma.getLast e0,(QV e0).symm};have en:(!(nV N g.ma).isEmpty)=true:=by
  cases hg:g.ma with
  |nil=>exact absurd hg e0
  |cons x r=>rfl
 rw[en];have hm:=A2.hm;rw[ek]at hm;have hm:H2 s.m=YH (.lst (nV N ks++[.str (N k0)])):=by rw[hm];simp
 have mks:∀x∈ks,x=5\/x=6:=λx hx=>A2.mo x (by rw[ek];exact Ph _ hx);have mk0:k0=5\/k0=6:=A2.mo k0 (by rw[ek];simp);have A3:=A2.marks mks;refine bW (ä A2.hS rfl {Pg {rfl,_,À.of hm},Ll hm ?_});have s3:Sn s H2 (upd H2 s.m (.lst (nV N ks))):=Sn.at (by simp) _;refine{by show 4<=sizeLine;decide,λt ht=>fin (.say a v k0) t ks _ ((Sn.new (s1.trans s2)).trans s3) A3 ht (λH' e et=>?_) λdd lp=>⟨ma',ov,mk0⟩};have tm:t∉s.M:=A3.new ht;exact fr1 (p:=p) (aP tm et) rfl (aP p1 (e _ _ (s3 _ _ (λm=>p1 (Sa.qm m)) (s2 _ _ e1))))
inductive Tr where
 |leaf (r:Lr)|iff (v:Val) (l r:Int) (f o:List Tr)|loop (t:Th) (m l r:Int) (b:List Tr)
mutual
noncomputable def Ò:Tr->List Fr
 | .leaf r=>[.leaf r]
 | .iff v l r f o=>.iff v l r::(aA f++ .Ā::(aA o++[.fin]))
 | .loop t m l r b=>.loop t m l r::(aA b++[.fin])
noncomputable def aA:List Tr->List Fr
 | []=>[]
 |t::ts=>Ò t++aA ts
end
mutual
noncomputable def é(ps:List Nat)(dd:List (Nat×Nat))(lp:Bool):Tr->Prop
 | .leaf r=>A6 ps dd lp r
 | .iff v _ _ f o=>vOk ps v/\cQ ps dd lp f/\cQ ps dd lp o
 | .loop t m _ _ b=>pT ps t/\1<=m/\m<=4/\cQ ps dd true b
noncomputable def cQ(ps:List Nat)(dd:List (Nat×Nat))(lp:Bool):List Tr->Prop
 | []=>True
 |t::ts=>é ps dd lp t/\cQ ps dd lp ts
end
mutual
noncomputable def Ă:Tr->Nat
 | .leaf _=>0
 | .iff _ _ _ f o=>max (cF f) (cF o)+1
 | .loop _ _ _ _ b=>cF b+1
noncomputable def cF:List Tr->Nat
 | []=>0
 |t::ts=>max (Ă t) (cF ts)
end
theorem dH:∀a b,aA (a++b)=aA a++aA b
 | [],b=>by rw[Pz,aA,Pz]
 |t::a,b=>by rw[PZ,aA,aA,dH a b,Pn]
theorem pH (t):aA [t]=Ò t:=by rw[aA,aA,Pu]
theorem uC:∀{a b:List Tr},cQ ps dd lp a->cQ ps dd lp b->cQ ps dd lp (a++b)
 | [],b,_,h=>h
 |t::a,b,h,h'=>by
  rw[cQ]at h;rw[PZ,cQ];exact⟨h.1,uC h.2 h'⟩
theorem zL(h:é ps dd lp t):cQ ps dd lp [t]:=by
 rw[cQ,cQ];exact⟨h,trivial⟩
theorem mN:∀(a b:List Tr),cF (a++b)=max (cF a) (cF b)
 | [],b=>by rw[Pz,cF];lia
 |t::a,b=>by rw[PZ,cF,cF,mN a b];lia
theorem zN (t):cF [t]=Ă t:=by rw[cF,cF];lia
inductive Op where
 |lp (t:Th) (m l r:Int)|i1 (v:Val) (l r:Int)|i2 (v:Val) (l r:Int) (f:List Tr)
noncomputable def Op.wd:Op->Str
 | .lp _ _ _ _=>"loop"| .i1 _ _ _=>"if"| .i2 _ _ _ _=>"other"
noncomputable def Op.fl:Op->List Fr
 | .lp t m l r=>[.loop t m l r]
 | .i1 v l r=>[.iff v l r]
 | .i2 v l r f=>.iff v l r::(aA f++[.Ā])
noncomputable def Op.Nq:Op->Bool
 | .lp _ _ _ _=>true
 |_=>false
noncomputable abbrev Zp:=List (List Tr×Op)
noncomputable def ğ:Zp->List Tr->List Fr
 | [],cur=>aA cur
 | (pa,op)::z,cur=>ğ z pa++(op.fl++aA cur)
noncomputable def iz(z:Zp):List Str:=(z.map λe=>e.2.wd).reverse
noncomputable def lpZ(z:Zp):Bool:=z.any λe=>e.2.Nq
noncomputable def Nx(ps:List Nat)(dd:List (Nat×Nat))(lp:Bool)(k:Nat):Op->Prop
 | .lp t m _ _=>pT ps t/\1<=m/\m<=4
 | .i1 v _ _=>vOk ps v
 | .i2 v _ _ f=>vOk ps v/\cQ ps dd lp f/\cF f+k+1<=6
noncomputable def okZ(ps:List Nat)(dd:List (Nat×Nat)):Zp->Prop
 | []=>True
 | (pa,op)::z=>cQ ps dd (lpZ z) pa/\cF pa+z.length<=6/\Nx ps dd (lpZ z) z.length op/\okZ ps dd z
noncomputable def Op.mu:Op->Nat
 | .i1 _ _ _=>2
 |_=>1
noncomputable def muZ(z:Zp):Nat:=(z.map λe=>e.2.mu).sum
theorem Cp (z a b):ğ z (a++b)=ğ z a++aA b:=by
 cases z with
 |nil=>exact dH a b
 |cons e z=>
  obtain⟨pa,op⟩:=e;show ğ z pa++(op.fl++aA (a++b))=ğ z pa++(op.fl++aA a)++aA b;rw[dH];simp only[Pn]
theorem Fp:∀z,muZ z<=2*z.length
 | []=>O4 _
 | (pa,op)::z=>by
  have:=Fp z;have h:op.mu<=2:=by cases op<;>simp[Op.mu]
  unfold muZ at this⊢;rw[Pm,QY,O6];show op.mu+_<=_;lia
structure å(N:Nat->Str)(H:Hp)(s:Sa)(g:Sg)(ps:List Nat)(dd:List (Nat×Nat))(z:Zp)(cur:List Tr):Prop where
 a:ê N H s g
 op:g.op=iz z
 tl:g.tm.length=z.length+1
 tb:∀x∈g.tm,1<=x/\x<=6
 de:g.dd.map (λe=>(e.1,e.2.1))=dd
 oz:okZ ps dd z
 oc:cQ ps dd (lpZ z) cur
 zl:z.length<=6
 dc:cF cur+z.length<=6
theorem pL(e:List Tr×Op) (z):iz (e::z)=iz z++[e.2.wd]:=by
 unfold iz;rw[Pm,List.reverse_cons]
theorem jf:į (xs++[y]) (-1)=YH y:=by
 have e:Ś (xs++[y]).length (-1)=YH xs.length:=by
  unfold Ś;rw[if_neg ∅,if_pos (by rw[OX,O3];lia),OX,O3];congr 1;lia
 unfold į;rw[e];simp
theorem Ib:Ś (xs++[y]).length (-1)=YH xs.length:=by
 unfold Ś;rw[if_neg ∅,if_pos (by rw[OX,O3];lia),OX,O3];congr 1;lia
theorem Gx:(xs++[y]).set xs.length v=xs++[v]:=by
 rw[Ri _ _ (O4 _),Qn];rfl
theorem FW(e:List Tr×Op) (z):lpZ (e::z)=(e.2.Nq||lpZ z):=rfl
theorem xr (a x):sS (a++[x])=sS a++[.str x]:=by simp[sS]
inductive wq(vs:List V)(H:Hp)(Q:VK)(Ä:XK):Prop
 |mk (N s g ps dd z cur) (z0:vs=[.ref s.S]) (z1:å N H s g ps dd z cur) (z2:z≠[])
  (z3:∀(v f g' z' đ H'),Sn s H H'->å N H' s g' ps dd z' đ->g'.dd=g.dd->ğ z' đ=ğ z cur++[f]->muZ z'+1=muZ z->lG N (del s.M H') v f->Q v H'):wq vs H Q Ä
theorem ze(T:Txt K mg A):T.oP.Hz P w base 1 wq:=by
 refine T.oP.hs uU (λf Ã A' outer s' H vs Q E hr hu h=>?_);obtain⟨N,s,g,ps,dd,z,cur,rfl,Á,hz,q⟩:=h;cases z with
 |nil=>exact absurd rfl hz
 |cons e z=>
 obtain⟨pa,op⟩:=e;have ho:=Á.a.ho;rw[Á.op,pL,xr]at ho;have oz:=Á.oz;unfold okZ at oz;obtain⟨o1,o2,o3,o4⟩:=oz;have oc:=Á.oc;have dc:=Á.dc;have zl:=Á.zl;rw[O6]at dc zl;refine⟨_,(ae (aS (Í (cn hu) (px hu (px hu (fv 0) aw) (oa jm af)) aw)
   (ae (bR aw (fD (px hu (fv 0) aw) (oa jm af) (fG hu YN)))
   (ai (aD (aV (aw^ab)))))
   aF)
  (ae (aR (FC (px hu (fv 0) aw)))
  (ae (aR (FC (px hu (fv 0) aw)))
  (ai (aD (aV (aw^ab))))))),?_⟩
 refine ag λM1 K1=>ä Á.a.hS rfl {_,rfl,ï (À.of ho) jf {rfl,_,rfl,?_}};have fin:∀(t:Tr),op.mu=1->Ò t=op.fl++(aA cur++[.fin])->é ps dd (lpZ z) t->Ă t+z.length<=6->M1 [YH (.ref s.S)] H:=by
  intro t em ef ok dt;refine K1 _ _ ?_;clear K1 M1;obtain⟨ts,t0,et⟩:∃ts t0,g.tm=ts++[t0]:=by
   have:g.tm≠[]:=λz=>by
    have:=Á.tl;rw[z]at this;cases this
   exact{g.tm.dropLast,g.tm.getLast this,(QV this).symm}
  have A1:=Á.a.opened (iz z);have tl:=Á.tl;rw[et,OX,O3,O6]at tl;refine ag λM1 K1=>ä Á.a.hS rfl {Pg {rfl,_,À.of ho},Ll ho (K1 _ _ ?_)};clear K1 M1;have ht:=A1.ht;have ht:upd H s.o (.lst (sS (iz z))) s.t=YH (.lst (ts.map V.int++[.int t0])):=by rw[ht];show YH (HO.lst (g.tm.map V.int))=_;rw[et];simp
  have A2:=A1.JC ts;have s1:Sn s H (upd H s.o (.lst (sS (iz z)))):=Sn.at (by simp) _;have s2:Sn s (upd H s.o (.lst (sS (iz z)))) (upd (upd H s.o (.lst (sS (iz z)))) s.t (.lst (ts.map V.int))):=Sn.at (by simp) _;try dsimp only
  refine ag λM1 K1=>ä A1.hS rfl {Pg {rfl,_,À.of ht},Ll ht (K1 _ _ ?_)};clear K1 M1;try dsimp only
  refine{by show 1<=sizeLine;decide,λr hr=>?_};have s3:=aj.upd hr (.tup [V.str "end"]);refine q _ .fin { g with op:=iz z,tm:=ts } z (pa++[t]) _ ((s1.trans s2).trans (Sn.new s3)) ⟨A2.same s3,rfl,by show ts.length=_;lia,λx hx=>Á.tb x (by rw[et];exact Ph _ hx),Á.de,o4,uC o1 (zL ok),(),?_⟩ rfl ?_ ?_ (Ĕ (aP (A2.new hr) ao) rfl)
  ·rw[mN,zN];lia
  ·rw[Cp,pH,ef];show _=ğ z pa++(op.fl++aA cur)++[.fin];simp only[Pn]
  unfold muZ;rw[Pm,QY];show _=op.mu+_;rw[em];lia
 cases op with
 |lp t m l r=>
  refine bg (λz=>absurd z (show ¬ decide (V.str "loop"=V.str "if")=true by decide)) (λ_=>fin (.loop t m l r cur) rfl (by rw[Ò];rfl) (by rw[é];exact⟨o3.1,o3.2.1,o3.2.2,oc⟩) (by rw[Ă];lia))
 |i2 v l r f=>
  refine bg (λz=>absurd z (show ¬ decide (V.str "other"=V.str "if")=true by decide)) (λ_=>fin (.iff v l r f cur) rfl (by rw[Ò];simp[Op.fl]) (by rw[é];exact⟨o3.1,o3.2.1,oc⟩) ?_);rw[Ă];have:=o3.2.2;lia
 |i1 v l r=>
  clear fin K1;refine bg (λ_=>?_) (λz=>absurd (show decide (V.str "if"=V.str "if")=true from decide_eq_true rfl) z);have A1:=Á.a.opened (iz z++[("other":Str)]);have s1:Sn s H (upd H s.o (.lst (sS (iz z++[("other":Str)])))):=Sn.at (by simp) _;refine ag λM2 K2=>ä Á.a.hS rfl {_,rfl,Pg {_,_,ho,Ib,?_}};rw[Gx,<-xr];refine K2 _ _ ?_;clear K2;try dsimp only
  refine{by show 1<=sizeLine;decide,λr' hr=>?_};have s3:=aj.upd hr (.tup [V.str "else"]);refine q _ .Ā { g with op:=iz z++[("other":Str)] } ((pa,.i2 v l r cur)::z) [] _ (s1.trans (Sn.new s3)) ⟨A1.same s3,by rw[pL];rfl,Á.tl,Á.tb,Á.de,{o1,o2,{o3,oc,()},o4},by rw[cQ];trivial,by rw[O6];lia,by rw[cF,O6];lia⟩ rfl ?_ ?_ (Ĕ (aP (A1.new hr) ao) rfl)
  ·show ğ z pa++(Op.fl (.i2 v l r cur)++aA [])=ğ z pa++(Op.fl (.i1 v l r)++aA cur)++[.Ā];rw[aA];simp[Op.fl]
  unfold muZ;rw[Pm,QY,Pm,QY];show 1+_+1=2+_;lia
theorem å.times(Á:å N H s g ps dd z cur):∃ts t0,g.tm=ts++[t0]/\1<=t0/\t0<=6:=by
 have:g.tm≠[]:=λz=>by
  have:=Á.tl;rw[z]at this;cases this
 have e:=(QV this).symm;have m:=Á.tb (g.tm.getLast this) (List.getLast_mem _);exact{_,_,e,m.1,m.2}
theorem zV:(ts++[t0]).map V.int=ts.map V.int++[.int t0]:=by simp
theorem å.qh(Á:å N H s g ps dd z cur) (r):å N (upd H s.S (.dK (stK s r))) s { g with room:=r } ps dd z cur:=⟨Á.a.qh r,Á.op,Á.tl,Á.tb,Á.de,Á.oz,Á.oc,Á.zl,Á.dc⟩
theorem å.same(Á:å N H s g ps dd z cur)(e:aj H H'):å N H' s g ps dd z cur:=⟨Á.a.same e,Á.op,Á.tl,Á.tb,Á.de,Á.oz,Á.oc,Á.zl,Á.dc⟩
theorem pX (s r r'):YQ (stK s r) (.inr "room") (.int r')=stK s r':=rfl
inductive vM(vs:List V)(H:Hp)(Q:VK)(Ä:XK):Prop
 |mk (N s g ps dd z cur c sc b) (z0:vs=[.ref s.S,.int c,.ref sc,.bl b]) (z1:å N H s g ps dd z cur) (z2:z.length<6) (z4:rM N (del s.M H) sc ps)
  (z3:∀(v f g' z' đ H'),Sn s H H'->å N H' s g' ps dd z' đ->g'.dd=g.dd->ğ z' đ=ğ z cur++[f]->lG N (del s.M H') v f->Q v H'):vM vs H Q Ä
theorem FV(T:Txt K mg A):T.oX.Hz P w base 4 vM:=by
 refine T.oX.hs (k:=3) dz (λf Ã A' outer s' H vs Q E hr hu h=>?_);obtain⟨N,s,g,ps,dd,z,cur,c,sc,b,rfl,Á,zl,hS,q⟩:=h;obtain⟨ts,t0,et,t1,t6⟩:=Á.times;have htm:H s.t=YH (.lst (ts.map V.int++[.int t0])):=by rw[Á.a.ht,et,zV]
 refine⟨_,(ae (Ç 4 dz.nd (ak (hj:=by lia) (pG T) hr (fv 1^af^ab)))
  (ae (Ç 5 dz.nd (az dh (az bK (fv 4) af) (az bK (az eZ (fv 4) af) af)))
  (ae (Ç 6 dz.nd (az dh (az bK (az eZ (fv 4) af) af) (az bK (az eZ (fv 4) af) af)))
  (ae (Ç 7 dz.nd (az aQ af (az bK (az eZ (fv 4) af) af)))
  (ae (aS (Í Ak (az dh (px hu (px hu (fv 0) aw) (oa jm af)) (fv 7)) af)
   (ai (Ç 7 dz.nd af))
   aF)
  (ae (bR (az pN (px hu (fv 0) aw) (az dh (az dh (px hu (px hu (fv 0) aw) (oa jm af)) (fv 7)) (az aQ (fv 5) (fv 6)))) (fD (fv 0) aw (fG hu YN)))
  (ae (aS (bh (fv 3) (λ_=>rfl))
   (ae (aR (bB (px hu (fv 0) aw) (aw^ab)))
   (ae (aR (bB (px hu (fv 0) aw) (az dh (px hu (px hu (fv 0) aw) (oa jm af)) (fv 7)^ab)))
   (ai (aD (aV (aw^(ak (hj:=by lia) (lO T) hr ((ak (hj:=by lia) (pG T) hr (fv 1^af^ab))^fv 2^ab))^fv 7^fv 5^fv 6^ab))))))
   aF)
  (ae (aR (bB (px hu (fv 0) aw) (aw^ab)))
  (ae (aR (bB (px hu (fv 0) aw) (px hu (px hu (fv 0) aw) (oa jm af)^ab)))
  (ai (aD (aV (aw^(ak (hj:=by lia) (FT T) hr (fv 1^fv 2^ab))^fv 5^fv 6^ab))))))))))))),?_⟩
 refine ag λM1 K1=>{c,7,rfl,∅,∅,λn n0 n1=>?_};have sm:∀{x:Int},0<=x->x<100->-(2^64)<x/\x<2^64:=λa b=>()
 obtain⟨a0,a1⟩:=bY n (show(0:Int)<3 by decide);obtain⟨b0,b1⟩:=bY (n/12) (show(0:Int)<3 by decide);refine K1 _ _ ?_;clear K1 M1;try dsimp only
 refine ag λM1 K1=>{by show(0:Int)<3;decide,{∅,∅},by show(0:Int)<4;decide,.inl (sm a0 ()),K1 _ _ ?_};clear K1 M1;try dsimp only
 refine ag λM1 K1=>{{∅,∅},by show(0:Int)<3;decide,{∅,∅},by show(0:Int)<4;decide,.inl (sm b0 ()),?_};obtain⟨m0,m1⟩:=bY (n/144) (show(0:Int)<4 by decide);refine K1 _ _ ?_;clear K1 M1;try dsimp only
 refine ag λM1 K1=>{{∅,∅},by show(0:Int)<4;decide,K1 _ _ ?_};clear K1 M1;try dsimp only
 refine ag λM1 K1=>?_;have fin:∀(mm l r:Int),1<=mm->mm<=4->t0*mm<=6->M1 [YH (.ref s.S),YH (.int c),YH (.ref sc),YH (.bl b),YH (.int n),YH (.int l),YH (.int r),YH (.int mm)] H:=by
  intro mm l r h1 h4 h6;have tp:1<=t0*mm:=Int.mul_pos () ();refine K1 _ _ ?_;clear K1 M1;try dsimp only
  refine ag λM1 K1=>ä Á.a.hS rfl (ä Á.a.hS rfl {_,rfl,ï (À.of htm) jf {.inl (sm () ()),.inl (sm () ()),{_,ou.k (k:=.inr "room") Á.a.hS (show 5<sizeLine by decide),K1 _ _ ?_}}});clear K1 M1;rw[pX];have A1:=Á.a.qh (g.room-t0*mm*(l+r));have s1:Sn s H (upd H s.S (.dK (stK s (g.room-t0*mm*(l+r))))):=Sn.at (by simp) _;have nn:=Á.a.ne;have ht1:upd H s.S (.dK (stK s (g.room-t0*mm*(l+r)))) s.t=YH (.lst (ts.map V.int++[.int t0])):=au (Pr nn.1.2.1) htm;have ho1:=A1.ho;generalize upd H s.S _=H1 at A1 s1 ht1 ho1⊢;have lo:g.op.length=z.length:=by rw[Á.op];simp[iz]
  have ltm:g.tm.length=z.length+1:=Á.tl;have tll:ts.length=z.length:=by rw[et,OX,O3]at ltm;lia
  have push:∀(op:Op)(tn:Int),1<=tn->tn<=6->Nx ps dd (lpZ z) z.length op->å N (upd (upd H1 s.o (.lst (sS (g.op++[op.wd])))) s.t (.lst ((g.tm++[tn]).map V.int))) s { g with room:=g.room-t0*mm*(l+r),op:=g.op++[op.wd],tm:=g.tm++[tn] } ps dd ((cur,op)::z) []:=λop tn h1 h6 ok=>by
   refine{(A1.opened (g.op++[op.wd])).JC (g.tm++[tn]),by show g.op++[op.wd]=_;rw[pL,Á.op],by show(g.tm++[tn]).length=_;rw[OX,O3,O6];lia,λx hx=>?_,Á.de,⟨Á.oc,Á.dc,ok,Á.oz⟩,by rw[cQ];trivial,by rw[O6];lia,by rw[cF,O6];lia};rcases O5.mp hx with m|m
   ·exact Á.tb x m
   rw[OY.mp m];exact⟨h1,h6⟩
  have fl:∀(op:Op)(f:Fr),op.fl=[f]->ğ ((cur,op)::z) []=ğ z cur++[f]:=λop f e=>by
   show ğ z cur++(op.fl++aA [])=_;rw[e,aA,Pu]
  have S1:=hS.same (Sn.del s1);cases b with
  |true=>
   refine ag λM1 K1=>{_,rfl,bW ?_};have A2:=A1.opened (g.op++[("loop":Str)]);have s2:Sn s H1 (upd H1 s.o (.lst (sS (g.op++[("loop":Str)])))):=Sn.at (by simp) _;have ht2:upd H1 s.o (.lst (sS (g.op++[("loop":Str)]))) s.t=YH (.lst (ts.map V.int++[.int t0])):=au (Pr nn.1.2.2.2.2.1) ht1;refine ag λM2 K2=>ä A1.hS rfl {Pg {rfl,_,À.of ho1},_,_,_,rfl,rfl,ho1,aH (by rw[OZ];show g.op.length<=1000;lia),?_};rw[<-xr];refine K2 _ _ ?_;clear K2 M2;try dsimp only
   refine ag λM2 K2=>ä A2.hS rfl {Pg {rfl,_,À.of ht2},ä A2.hS rfl {_,rfl,ï (À.of ht2) jf {.inl (sm () ()),{_,_,_,rfl,rfl,ht2,aH (by rw[OX,OZ,O3];lia),K2 _ _ ?_}}}};clear K2 M2;rw[show ts.map V.int++[.int t0]++[.int (t0*mm)]=(g.tm++[t0*mm]).map V.int by rw[et];simp];have s3:Sn s (upd H1 s.o (.lst (sS (g.op++[("loop":Str)])))) (upd (upd H1 s.o (.lst (sS (g.op++[("loop":Str)])))) s.t (.lst ((g.tm++[t0*mm]).map V.int))):=Sn.at (by simp) _;have t3:=(s1.trans s2).trans s3;have S3:=hS.same (Sn.del t3);try dsimp only
   refine{c,8,rfl,∅,∅,λm' m0' m1'=>{N,sc,ps,m',rfl,m0',m1',S3.same cN,λth H4 s4 oth=>?_}};have B4:=(push (.lp th mm l r) (t0*mm) tp h6 ⟨oth,h1,h4⟩).same s4;refine{by show 5<=sizeLine;decide,λrr hrr=>?_};have s5:=aj.upd hrr (.tup [V.str "loop",th.v N,.int mm,.int l,.int r]);exact q _ (.loop th mm l r) _ _ _ _ (t3.trans (Sn.new (s4.trans s5))) (B4.same s5) rfl (fl _ _ rfl) (Ĕ (aP (B4.a.new hrr) ao) rfl)
  |false=>
   refine ag λM1 K1=>{_,rfl,aY (K1 _ _ ?_)};clear K1 M1;try dsimp only
   have A2:=A1.opened (g.op++[("if":Str)]);have s2:Sn s H1 (upd H1 s.o (.lst (sS (g.op++[("if":Str)])))):=Sn.at (by simp) _;have ht2:upd H1 s.o (.lst (sS (g.op++[("if":Str)]))) s.t=YH (.lst (ts.map V.int++[.int t0])):=au (Pr nn.1.2.2.2.2.1) ht1;refine ag λM2 K2=>ä A1.hS rfl {Pg {rfl,_,À.of ho1},_,_,_,rfl,rfl,ho1,aH (by rw[OZ];show g.op.length<=1000;lia),?_};rw[<-xr];refine K2 _ _ ?_;clear K2 M2;try dsimp only
   refine ag λM2 K2=>ä A2.hS rfl {Pg {rfl,_,À.of ht2},ä A2.hS rfl {_,rfl,ï (À.of ht2) jf {_,_,_,rfl,rfl,ht2,aH (by rw[OX,OZ,O3];lia),K2 _ _ ?_}}};clear K2 M2;rw[show ts.map V.int++[.int t0]++[.int t0]=(g.tm++[t0]).map V.int by rw[et];simp];have s3:Sn s (upd H1 s.o (.lst (sS (g.op++[("if":Str)])))) (upd (upd H1 s.o (.lst (sS (g.op++[("if":Str)])))) s.t (.lst ((g.tm++[t0]).map V.int))):=Sn.at (by simp) _;have t3:=(s1.trans s2).trans s3;have S3:=hS.same (Sn.del t3);try dsimp only
   refine{N,sc,ps,c,rfl,S3.same cN,λp v H4 s4 f4 e4 ov=>?_};have B3:=push (.i1 v l r) t0 t1 t6 ov;have p4:p∉s.M:=B3.a.new f4;have B4:=B3.same s4;refine{by show 4<=sizeLine;decide,λrr hrr=>?_};have s5:=aj.upd hrr (.tup [V.str "if",.ref p,.int l,.int r]);exact q _ (.iff v l r) _ _ _ _ (t3.trans (Sn.new (s4.trans s5))) (B4.same s5) rfl (fl _ _ rfl) (fr1 (p:=p) (aP (B4.a.new hrr) ao) rfl (aP p4 (s5 _ _ e4)))
 refine ä Á.a.hS rfl {_,rfl,ï (À.of htm) jf {.inl (sm () ()),_,rfl,bg (λ_=>fin 1 _ _ ∅ ∅ ()) (λz=>fin _ _ _ () () ?_)}};have:=of_decide_eq_false (QQ.mpr z);lia
theorem IL(hp:À K H p xs)(hq:À K H q [])(h1:gJ K H xs ds)(sh:Td (.list ds)=true)(k:Q (.bl (!xs.isEmpty)) H):fNe K (.ref p) (.ref q) H Q:=by
 refine{.list ds,.list [],.lst hp h1,.lst hq .nil,sh,rfl,?_};cases h1 with
 |nil=>exact k
 |cons _ _=>exact k
noncomputable def ddD(N:Nat->Str)(e:Nat×Nat×Int):V7:=.tuple [.str (N e.1),.int e.2.1,.int e.2.2]
theorem Ml(nm:ko N)(s:aj X H):∀{dd:List (Nat×Nat×Int)}{ds:List V},xM N X dd ds->(∀e∈dd,e.1<24)->gJ K H ds (dd.map (ddD N))/\SY (dd.map (ddD N))=true/\Tp (dd.map (ddD N))<=1:=by
 intro dd ds h;induction h with
 |nil=>intro _;exact{.nil,rfl,Pd _}
 |cons h _ ih=>
  intro ok;obtain⟨a,rfl,ha⟩:=h;obtain⟨h1,h2,h3⟩:=ih λe he=>ok e (O8 _ he);have so:=nm.str _ (ok _ O9);refine{.cons (.tup (È.of (s _ _ ha)) (.cons (.str _) (.cons (.int _) (.cons (.int _) .nil)))) h1,?_,?_}
  ·rw[Pm];simp[ddD,SY,UC,h2,so]
  rw[Pm];simp[ddD,Tp,U2];lia
theorem Ki (z):decide (("loop":Str)∈iz z)=lpZ z:=by
 induction z with
 |nil=>rfl
 |cons e z ih=>
  rw[pL,FW,<-ih];obtain⟨pa,op⟩:=e;cases op with
  |lp _ _ _ _=>
   show decide (_∈iz z++[("loop":Str)])=(true||_);rw[decide_eq_true (by simp)];rfl
  |i1 _ _ _=>
   show decide (_∈iz z++[("if":Str)])=(false||_);rw[Ro];refine decide_eq_decide.mpr ⟨λh=>?_,λh=>Ph _ h⟩;rcases O5.mp h with h|h
   ·exact h
   exact absurd (OY.mp h) ∅
  |i2 _ _ _ _=>
   show decide (_∈iz z++[("other":Str)])=(false||_);rw[Ro];refine decide_eq_decide.mpr ⟨λh=>?_,λh=>Ph _ h⟩;rcases O5.mp h with h|h
   ·exact h
   exact absurd (OY.mp h) ∅
theorem GY(op:Op):Tv op.wd=true:=by
 cases op with
 |lp _ _ _ _=>exact(by decide+kernel:Tv ("loop":Str)=true)
 |i1 _ _ _=>exact(by decide+kernel:Tv ("if":Str)=true)
 |i2 _ _ _ _=>exact(by decide+kernel:Tv ("other":Str)=true)
inductive Bv(vs:List V)(H:Hp)(Q:VK)(Ä:XK):Prop
 |mk (N s g ps dd z cur c sc) (z0:vs=[.ref s.S,.int c,.ref sc]) (z1:å N H s g ps dd z cur) (z4:rM N (del s.M H) sc ps) (z5:∀e∈g.dd,e.1<24/\e.2.1<=4)
  (z3:∀(v f g' z' đ H'),Sn s H H'->å N H' s g' ps dd z' đ->g'.dd=g.dd->ğ z' đ=ğ z cur++[f]->lG N (del s.M H') v f->Q v H'):Bv vs H Q Ä
theorem å.leaf(Á:å N H s g ps dd z cur)(ok:A6 ps dd (lpZ z) r):å N H s g ps dd z (cur++[.leaf r])/\ğ z (cur++[.leaf r])=ğ z cur++[.leaf r]:=by
 refine{{Á.a,Á.op,Á.tl,Á.tb,Á.de,Á.oz,uC Á.oc (zL (by rw[é];exact ok)),Á.zl,?_},?_}
 ·rw[mN,zN,Ă];have:=Á.dc;lia
 rw[Cp,pH,Ò]
theorem JS(h:∀(i:Nat) y,ys[i]?=YH y->∃t:Th,y=t.v N/\pT ps t):∃ts:List Th,ys=ts.map (Th.v N)/\∀t∈ts,pT ps t:=by
 induction ys with
 |nil=>exact{[],rfl,λt ht=>by cases ht}
 |cons y r ih=>
  obtain⟨t,rfl,ht⟩:=h 0 y rfl;obtain⟨ts,rfl,hts⟩:=ih λi z hz=>h (i+1) z hz;refine{t::ts,rfl,λu hu=>?_};rcases O2.mp hu with rfl|hu
  ·exact ht
  exact hts u hu
theorem LJ(T:Txt K mg A):T.wW.Hz P w base 5 Bv:=by
 refine T.wW.hs (k:=4) hZ (λf Ã A' outer s' H vs Q E hr hu h=>?_);obtain⟨N,s,g,ps,dd,z,cur,c,sc,rfl,Á,hS,hdd,q⟩:=h;refine⟨_,(ae (Ç 3 hZ.nd (az bK (fv 1) af))
  (ae (aS (PW.pt (pw_and (Í Ak (fv 3) af) (pw_and1 (Í (rn hu) (px hu (fv 0) aw) (aI ab)))))
   (ai (aD (ak (hj:=by lia) (ze T) hr (fv 0^ab))))
   aF)
  (ae (bR (az pN (px hu (fv 0) aw) (px hu (px hu (fv 0) aw) (oa jm af))) (fD (fv 0) aw (fG hu YN)))
  (ae (aS (PW.pt (pw_and (Í Ak (fv 3) af) (pw_and (Í zE (fv 3) af) (pw_and (Í zE (Þ gI T.iw (px hu (fv 0) aw^ab)) af) (pw_and1 (Í Ak (px hu (fv 0) aw) af))))))
   (ai (aD (ak (hj:=by lia) (FV T) hr (fv 0^fv 1^fv 2^pec zE (fv 3) af^ab))))
   aF)
  (ae (aS (PW.pt (pw_and (Í (cn hu) (fv 3) af) (pw_and1 (Í (rn hu) (px hu (fv 0) aw) (aI ab)))))
   (ae (bR (ak (hj:=by lia) (qB T) hr (px hu (fv 0) aw^(ak (hj:=by lia) (pG T) hr (fv 1^af^ab))^ab)) (dj rfl (aN (Ð (i:=4) hZ.nd rfl) (aN (Ð (i:=5) hZ.nd rfl) (aN (Ð (i:=6) hZ.nd rfl) cc)))))
   (ai (aS (Í Ak (px hu (fv 0) aw) (az dh (px hu (px hu (fv 0) aw) (oa jm af)) (fv 6)))
    (ae (bR (az pN (px hu (fv 0) aw) (az dh (px hu (px hu (fv 0) aw) (oa jm af)) (fv 6))) (fD (fv 0) aw (fG hu YN)))
    (ai (aD (aV (aw^fv 4^(eA (N:=["_law_k","_law_scope_here","_law_cell"]) (own:=1) (fr:=[2,1]) (cw.of (by kernel_rfl!)) rfl (dA rfl T.dF (fv 5^ab)) (λb=>Ð (i:=0) (show Sz (["_law_k","_law_scope_here","_law_cell"]:List Ti) by decide+kernel) rfl) (λb=>kz) (λb=>ak (hj:=by lia) (lO T) hr ((ak (hj:=by lia) (pG T) hr (fv 2^az aQ af (fv 0)^ab))^fv 1^ab)))^ab)))))
    aF)))
   aF)
  (ae (aS (PW.pt (pw_and (Í (cn hu) (fv 3) af) (pw_and1 (Í (EE hu) aw (px hu (fv 0) aw) ((by with_unfolding_all rfl))))))
   (ai (aD (aV (aw^ab))))
   aF)
  (ai (aD (ak (hj:=by lia) (Fn T) hr (fv 0^fv 1^fv 2^ab)))))))))),?_⟩
 refine ag λM1 K1=>{by show(0:Int)<11;decide,K1 _ _ ?_};clear K1 M1;try dsimp only
 refine ag λM1 K1=>?_;have go:∀H1,aj H H1->M1 [YH (.ref s.S),YH (.int c),YH (.ref sc),YH (.int (c%11)),YI,YI,YI] H1:=by
  intro H1 s1;refine K1 _ _ ?_;clear K1 M1;have B1:=Á.same s1;obtain⟨ts,t0,et,t1,t6⟩:=Á.times;have htm:H1 s.t=YH (.lst (ts.map V.int++[.int t0])):=by rw[B1.a.ht,et,zV]
  try dsimp only
  refine ag λM1 K1=>ä B1.a.hS rfl (ä B1.a.hS rfl {_,rfl,ï (À.of htm) jf {_,ou.k (k:=.inr "room") B1.a.hS (show 5<sizeLine by decide),K1 _ _ ?_}});clear K1 M1;rw[pX];have B2:=B1.qh (g.room-t0);have s2:Sn s H1 (upd H1 s.S (.dK (stK s (g.room-t0)))):=Sn.at (by simp) _;have htm2:upd H1 s.S (.dK (stK s (g.room-t0))) s.t=YH (.lst (ts.map V.int++[.int t0])):=by rw[B2.a.ht];show YH (HO.lst (g.tm.map V.int))=_;rw[et,zV]
  have t2:Sn s H (upd H1 s.S (.dK (stK s (g.room-t0)))):=(Sn.new s1).trans s2;generalize upd H1 s.S _=H2 at B2 s2 htm2 t2⊢;generalize g.room-t0=rm at B2;have S2:=hS.same (Sn.del t2);have ho2:=B2.a.ho;have lo:g.op.length=z.length:=by rw[Á.op];simp[iz]
  try dsimp only
  refine ag λM1 K1=>?_;have go2:M1 [YH (.ref s.S),YH (.int c),YH (.ref sc),YH (.int (c%11)),YI,YI,YI] H2:=by
   refine K1 _ _ ?_;clear K1 M1;try dsimp only
   refine ag λM1 K1=>?_;have go3:∀(v4 v5 v6:Option V)(H3:Hp),aj H2 H3->M1 [YH (.ref s.S),YH (.int c),YH (.ref sc),YH (.int (c%11)),v4,v5,v6] H3:=by
    intro v4 v5 v6 H3 s3;refine K1 _ _ ?_;clear K1 M1;have B3:=B2.same s3;have S3:=S2.same (Sn.del (Sn.new s3));have t3:=t2.trans (Sn.new s3);try dsimp only
    refine ag λM1 K1=>?_;have pl:∀H4,aj H3 H4->M1 [YH (.ref s.S),YH (.int c),YH (.ref sc),YH (.int (c%11)),v4,v5,v6] H4:=λH4 s4=>K1 _ _ ⟨N,s,_,c,sc,ps,rfl,(B3.same s4).a,S3.same (Sn.del (Sn.new s4)),λv r mk H' s' a' fr ok=>by
     have B0z':å N H' s { g with room:=rm,ma:=mk } ps dd z cur:=⟨a',B3.op,B3.tl,B3.tb,B3.de,B3.oz,B3.oc,B3.zl,B3.dc⟩;obtain⟨b1,b2⟩:=B0z'.leaf (ok dd (lpZ z));exact q v (.leaf r) _ z _ H' (t3.trans ((Sn.new s4).trans s')) b1 rfl b2 fr⟩
    refine{rfl,_,rfl,bg (λ_=>?_) (λ_=>aY (pl H3 (aj.refl _)))};refine ä B3.a.hS rfl (Pg {_,Pg (À.of B3.a.ho),rfl,qi _,_,rfl,?_});have el:č (V.str "loop") (sS g.op)=lpZ z:=by rw[pk,Á.op,Ki]
    refine bg (λz9=>?_) (λ_=>pl H3 (aj.refl _));have z9:č (V.str "loop") (sS g.op)=true:=z9;rw[el]at z9;refine{by show 1<=sizeLine;decide,λr hr=>?_};have s4:=aj.upd hr (.tup [V.str "last"]);obtain⟨b1,b2⟩:=(B3.same s4).leaf (r:=.last) z9;exact q _ (.leaf .last) _ z _ _ (t3.trans (Sn.new s4)) b1 rfl b2 (Ĕ (aP (B3.a.new hr) ao) rfl)
   refine{rfl,_,rfl,bg (λ_=>?_) (λ_=>aY (go3 YI YI YI H2 (aj.refl _)))};refine ä B2.a.hS rfl {Pd _,λL hL=>?_};obtain⟨s3,e3⟩:=É hL (HO.lst []);generalize upd H2 L _=H3 at s3 e3⊢;have B3:=B2.same s3;obtain⟨ds,hd3,dd3⟩:=B3.a.hd;have dl:=RT dd3;have RR:gJ K H3 ds (g.dd.map (ddD N))/\SY (g.dd.map (ddD N))=true/\Tp (g.dd.map (ddD N))<=1:=Ml (K:=K) B3.a.nm (cN (X:=s.M) (H:=H3)) dd3 λe he=>(hdd e he).1;obtain⟨r1,r2,r3⟩:=RR;refine IL (À.of hd3) (À.of e3) r1 (by simp[Td,UC,U2,r2];lia) {_,rfl,?_};by_cases e0:ds=[]
   ·rw[e0];exact aY (go3 YI YI YI H3 s3)
   have en:(!ds.isEmpty)=true:=by
    cases hg:ds with
    |nil=>exact absurd hg e0
    |cons x r=>rfl
   rw[en];refine bW (ag λM2 K2=>ä B3.a.hS rfl {c,1,rfl,∅,∅,λm m0 m1=>{s.d,_,m,rfl,À.of hd3,List.length_pos_iff.mpr e0,λx hx=>?_}});obtain⟨j,hj⟩:=Py hx;obtain⟨e,he,a,rfl,ha⟩:=cq dd3 hj;have me:e∈g.dd:=Pj he;obtain⟨e24,e4⟩:=hdd e me;refine{a,_,rfl,È.of (cN _ _ ha),rfl,_,_,rfl,_,_,rfl,_,_,rfl,rfl,K2 _ _ ?_};clear K2 M2;have htm3:=s3 _ _ htm2;have sm:∀{x:Int},0<=x->x<100->-(2^64)<x/\x<2^64:=λa b=>()
   try dsimp only
   refine ä B3.a.hS rfl (ä B3.a.hS rfl {_,rfl,ï (À.of htm3) jf {.inl (sm () ()),_,rfl,bg (λ_=>?_) (λ_=>go3 _ _ _ H3 s3)}});refine ag λM2 K2=>ä B3.a.hS rfl (ä B3.a.hS rfl {_,rfl,ï (À.of htm3) jf {.inl (sm () ()),{_,ou.k (k:=.inr "room") B3.a.hS (show 5<sizeLine by decide),K2 _ _ ?_}}});clear K2 M2;rw[pX];have B4:=B3.qh (rm-t0*e.2.2);have s4:Sn s H3 (upd H3 s.S (.dK (stK s (rm-t0*e.2.2)))):=Sn.at (by simp) _;have t4:Sn s H (upd H3 s.S (.dK (stK s (rm-t0*e.2.2)))):=(t2.trans (Sn.new s3)).trans s4;generalize upd H3 s.S _=H4 at B4 s4 t4⊢;have S4:=hS.same (Sn.del t4);try dsimp only
   refine{_,rfl,(),(),?_};rw[QR];refine uI (n:=e.2.1) (x:=λi=>.int (0+(i:Int))) (λj y H=>∃t:Th,y=t.v N/\pT ps t) (aH ()) (λ_ _=>O4 _) (λ_ _ h _=>h) (λ_ _ _ _ _ _ y=>y) (λb j H5 G hj s5 kk=>{c,_,rfl,(),(),λm' m0' m1'=>{N,sc,ps,m',rfl,m0',m1',(S4.same cN).same s5,λth H6 s6 oth=>kk _ H6 s6 ⟨th,rfl,oth⟩}}) (λj y H1 H2 s1 h=>h) (λj y H1 D ys zs hD h=>h) (λD H5 ys hD s5 e5 ly hy=>?_);obtain⟨tls,rfl,ot⟩:=JS hy;have B5:=B4.same s5;have D5:D∉s.M:=B4.a.new hD;refine{by show 3<=sizeLine;decide,λr hr=>?_};have s6:=aj.upd hr (.tup [V.str "call",.str (N e.1),.ref D]);have mem:(e.1,tls.length)∈dd:=by
    rw[<-Á.de];refine Pb.mpr {e,me,?_};rw[show tls.length=e.2.1 by rw[<-ly,OZ]]
   obtain⟨b1,b2⟩:=(B5.same s6).leaf (r:=.call e.1 tls) ⟨mem,ot⟩;exact q _ (.leaf (.call e.1 tls)) _ z _ _ (t4.trans (Sn.new (s5.trans s6))) b1 rfl b2 (fr1 (p:=D) (aP (B5.a.new hr) ao) rfl (aP D5 (s6 _ _ e5)))
  refine{_,rfl,bg (λ_=>?_) (λ_=>aY go2)};refine{_,rfl,bg (λ_=>?_) (λ_=>aY go2)};refine ä B2.a.hS rfl (lnl ho2 {_,rfl,bg (λz6=>?_) (λ_=>aY go2)});refine ä B2.a.hS rfl {_,rfl,bg (λ_=>?_) (λ_=>go2)};have z6:(((sS g.op).length:Nat):Int)<6:=of_decide_eq_true z6;rw[OZ]at z6;exact{N,s,_,ps,dd,z,cur,c,sc,_,rfl,B2,(),S2,λv f g' z' đ H' s' B0z' ed fl fr=>q v f g' z' đ H' (t2.trans s') B0z' ed fl fr}
 refine{_,rfl,bg (λ_=>?_) (λ_=>aY (go H (aj.refl _)))};refine ä Á.a.hS rfl {Pd _,λL hL=>?_};obtain⟨s1,e1⟩:=É hL (HO.lst []);generalize upd H L _=H1 at s1 e1⊢;have B1:=Á.same s1;have okw:∀x∈g.op,Tv x=true:=λx hx=>by
  rw[Á.op]at hx;unfold iz at hx;rw[XB]at hx;obtain⟨⟨pa,op⟩,_,rfl⟩:=Pb.mp hx;exact GY op
 refine YY (À.of B1.a.ho) (À.of e1) (uR okw) {_,rfl,?_};by_cases e0:z=[]
 ·have e2:g.op=[]:=by rw[Á.op,e0];rfl
  rw[e2];exact aY (go H1 s1)
 have en:(!(sS g.op).isEmpty)=true:=by
  have l1:g.op.length=z.length:=by rw[Á.op];simp[iz]
  cases hg:g.op with
  |nil=>
   rw[hg]at l1;exact absurd (Q8.mp l1.symm) e0
  |cons x r=>rfl
 rw[en];exact bW {N,s,g,ps,dd,z,cur,rfl,B1,e0,λv f g' z' đ H' s' B0z' ed fl mu fr=>q v f g' z' đ H' ((Sn.new s1).trans s') B0z' ed fl fr}
theorem ê.grown(h:ê N H s g) (ys):ê N (upd H s.F (.lst ys)) s g:=by
 obtain⟨⟨a,b,c,d,e',f,i,j,k,l⟩,x1,x2,x3,x4,x5⟩:=h.ne;obtain⟨ds,hd,dd⟩:=h.hd;exact{au (Pr x1) h.hS,au (Pr x2) h.ho,au (Pr x3) h.ht,au (Pr x4) h.hm,{ds,au (Pr x5) hd,dd.same (Sm.del (Sm.at (by simp) _))},h.nd,⟨ys,ao⟩,h.mo,h.nm}
theorem å.grown(Á:å N H s g ps dd z cur) (ys):å N (upd H s.F (.lst ys)) s g ps dd z cur:=⟨Á.a.grown ys,Á.op,Á.tl,Á.tb,Á.de,Á.oz,Á.oc,Á.zl,Á.dc⟩
theorem ê.fq(h:ê N H s g):s.F∉s.Q:=by
 obtain⟨_,x1,x2,x3,x4,x5⟩:=h.ne;simp only[Sa.Q,O2,Po,or_false,not_or];exact⟨x1,x2,x3,x4,x5⟩
theorem Sn.m(h:Sn s H H'):Sm s.M H H':=Sm.mono h λ_=>Sa.qm
inductive yJ(vs:List V)(H:Hp)(Q:VK)(Ä:XK):Prop
 |mk(N:Nat->Str)(s:Sa)(g:Sg)(ps:List Nat)(dd:List (Nat×Nat))(cl sc:RJ)(cs:List Int)(rm:Int)(z0:vs=[.ref s.S,.ref cl,.ref sc,.int rm])(z1:å N H s g ps dd [] [])(z2:del s.M H cl=YH (.lst (cs.map V.int)))(z3:cs.length<=40)(z4:rM N (del s.M H) sc ps)(z5:∀e∈g.dd,e.1<24/\e.2.1<=4)
  (z6:∀(R:RJ)(ys:List V)(ts:List Tr)(g':Sg)(H':Hp),Sn s H H'->H R=YI->H' R=YH (.lst ys)->ba N (del s.Q H') (aA ts++[.fin]) ys->cQ ps dd false ts->cF ts<=6->(aA ts).length<=cs.length+12->å N H' s g' ps dd [] []->g'.dd=g.dd->Q (.ref R) H'):yJ vs H Q Ä
inductive Ec(s:Sa)(cl:RJ)(sc:RJ)(rm:Int)(F:RJ)(H2:Hp)(N:Nat->Str)(ps:List Nat)(dd:List (Nat×Nat))(g:Sg)(i:Nat)(B:St)(Hc:Hp):Prop
 |mk (v5 ys g' z cur):B=[YH (.ref s.S),YH (.ref cl),YH (.ref sc),YH (.int rm),YH (.ref F),v5]->Sm s.M H2 Hc->Hc F=YH (.lst ys)->ba N (del s.M Hc) (ğ z cur) ys->ys.length=i->å N Hc s g' ps dd z cur->g'.dd=g.dd->Ec s cl sc rm F H2 N ps dd g i B Hc
inductive ES(s:Sa)(cl:RJ)(sc:RJ)(rm:Int)(F:RJ)(v5:Option V)(H2:Hp)(N:Nat->Str)(cs:List Int)(ps:List Nat)(dd:List (Nat×Nat))(g:Sg)(m:Nat)(B':St)(Hd:Hp):Prop
 |mk (ys g' z cur):B'=[YH (.ref s.S),YH (.ref cl),YH (.ref sc),YH (.int rm),YH (.ref F),v5]->Sm s.M H2 Hd->Hd F=YH (.lst ys)->ba N (del s.M Hd) (ğ z cur) ys->muZ z=m->ys.length+m<=cs.length+12->å N Hd s g' ps dd z cur->g'.dd=g.dd->ES s cl sc rm F v5 H2 N cs ps dd g m B' Hd
inductive Gb(m:Nat)(s:Sa)(cl:RJ)(sc:RJ)(rm:Int)(F:RJ)(v5:Option V)(H2:Hp)(N:Nat->Str)(cs:List Int)(ps:List Nat)(dd:List (Nat×Nat))(g:Sg)(B':St)(Hd:Hp):Prop
 |mk (ys g' z cur m'):m'<m->B'=[YH (.ref s.S),YH (.ref cl),YH (.ref sc),YH (.int rm),YH (.ref F),v5]->Sm s.M H2 Hd->Hd F=YH (.lst ys)->ba N (del s.M Hd) (ğ z cur) ys->muZ z=m'->ys.length+m'<=cs.length+12->å N Hd s g' ps dd z cur->g'.dd=g.dd->Gb m s cl sc rm F v5 H2 N cs ps dd g B' Hd
theorem Bm(T:Txt K mg A):T.uc.Hz P w base 6 yJ:=by
 refine T.uc.hs (k:=5) nC (λf Ã A' outer s' H vs Q E hr hu h=>?_);obtain⟨N,s0,g,ps,dd,cl,sc,cs,rm,rfl,Á,hcl,lc,hS,hdd,q⟩:=h;refine⟨_,(ae (bR (fv 3) (fD (fv 0) aw (fG hu YN)))
  (ae (Ç 4 nC.nd (aI ab))
  (ae (bS RW rfl (bT (fv 1)) (Ð (i:=5) nC.nd rfl)
   (ai (aR (bB (fv 4) ((ak (hj:=by lia) (LJ T) hr (fv 0^fv 5^fv 2^ab))^ab)))))
  (ae (ir RW (Í (rn hu) (px hu (fv 0) aw) (aI ab))
   (ai (aR (bB (fv 4) ((ak (hj:=by lia) (ze T) hr (fv 0^ab))^ab)))))
  (ai (aD (az aQ (fv 4) (aI (aV (aw^ab)^ab))))))))),?_⟩
 refine ag λM1 K1=>{_,ou.k (k:=.inr "room") Á.a.hS (show 5<sizeLine by decide),K1 _ _ ?_};clear K1 M1;rw[pX];have B1:=Á.qh rm;have s1:Sn s0 H (upd H s0.S (.dK (stK s0 rm))):=Sn.at (by simp) _;have n1:∀x,upd H s0.S (.dK (stK s0 rm)) x=YI->H x=YI:=λx hx=>by
  by_cases e:x=s0.S
  ·rw[e,ao]at hx;cases hx
  rw[aL e]at hx;exact hx
 generalize upd H s0.S _=H1 at B1 s1 n1⊢;try dsimp only
 refine ag λM1 K1=>{Pd _,λF hF=>K1 _ _ ?_};clear K1 M1;obtain⟨s2,e2⟩:=É hF (HO.lst []);generalize upd H1 F _=H2 at s2 e2⊢;have HF:H F=YI:=n1 _ hF;have F0:F∉s0.M:=B1.a.new hF;have B2:=B1.same s2;obtain⟨s,es⟩:∃s:Sa,s={ s0 with F:=F }:=⟨_,rfl⟩;have eS:s.S=s0.S:=by rw[es]
 have eF:s.F=F:=by rw[es]
 have eQ:s.Q=s0.Q:=by rw[es]
 have eM:∀a∈s.M,a∈s0.Q\/a=F:=λa m=>by
  rw[es]at m;simp only[Sa.M,Sa.Q,O2,Po,or_false]at m⊢;rcases m with h|h|h|h|h|h<;>simp[h]
 have B2':å N H2 s { g with room:=rm } ps dd [] []:=by
  obtain⟨ds,hd,dda⟩:=B1.a.hd;have nn:=B1.a.ne;have h5:F≠s0.S/\F≠s0.o/\F≠s0.t/\F≠s0.m/\F≠s0.d:=by
   simp only[Sa.M,O2,Po,or_false,not_or]at F0;exact⟨F0.1,F0.2.1,F0.2.2.1,F0.2.2.2.1,F0.2.2.2.2.1⟩
  have dda':xM N (del s.M H2) g.dd ds:=dda.same λa o h=>by
   obtain⟨h1,h2⟩:=cC h;refine aP (λm=>?_) (s2 _ _ h2);rcases eM a m with z|z
   ·exact h1 (Sa.qm z)
   rw[z,hF]at h2;cases h2
  have nd:s.M.Nodup:=by
   rw[es];obtain⟨⟨a,b,c,d,e,f,i,j,k,l⟩,_⟩:=nn;simp only[Sa.M,P1,O2,Po,or_false,not_or,Q7,and_true,not_false_eq_true];exact{⟨a,b,c,d,Pr h5.1⟩,⟨e,f,i,Pr h5.2.1⟩,⟨j,k,Pr h5.2.2.1⟩,⟨l,Pr h5.2.2.2.1⟩,Pr h5.2.2.2.2}
  subst es;exact{{B2.a.hS,B2.a.ho,B2.a.ht,B2.a.hm,{ds,s2 _ _ hd,dda'},nd,{[],e2},B2.a.mo,B2.a.nm},B2.op,B2.tl,B2.tb,B2.de,B2.oz,B2.oc,B2.zl,B2.dc}
 have out:∀{H':Hp},Sm s.M H2 H'->Sn s0 H H':=λ{H'} sm a o ha e=>sm a o (λm=>by
  rcases eM a m with z|z
  ·exact ha z
  rw[z,HF]at e;cases e) (s2 _ _ (s1 a o ha e))
 have dn:aj (del s0.M H) (del s.M H2):=λx o e=>by
  obtain⟨h1,h2⟩:=cC e;refine aP (λm=>?_) (s2 _ _ (s1 _ _ (λm=>h1 (Sa.qm m)) h2));rcases eM x m with z|z
  ·exact h1 (Sa.qm z)
  rw[z,HF]at h2;cases h2
 have hcl2:=dn _ _ hcl;have hS2:rM N (del s.M H2) sc ps:=hS.same dn;rw[<-eS];try dsimp only
 refine ag λM1 K1=>Pg {{_,À.of (cN _ _ hcl2)},bQ (K:=K) (xs:=cs.map V.int) (Ec s cl sc rm F H2 N ps dd g) {YI,[],{ g with room:=rm },[],[],rfl,Sm.refl _ _,e2,by show ba N _ (aA []) _;rw[aA];exact .nil,rfl,B2',rfl} (λi B Hc _ zz=>by obtain⟨_,_,_,_,_,_,z,_,_,_,_,_⟩:=zz;exact À.of (cN _ _ (Sm.del z _ _ hcl2))) ?_ ?_}
 ·rintro i x B Hc hx ⟨v5,ys,g',z,cur,rfl,sc',Ī,fr,ly,Bc,gd⟩;rw[Pk]at hx;cases hc:cs[i]? with
  |none=>rw[hc]at hx;cases hx
  |some c=>
  rw[hc]at hx;cases hx;have il:i<cs.length:=(Pl.mp hc).1;try dsimp only
  refine{Pg {rfl,_,À.of Ī},N,s,g',ps,dd,z,cur,c,sc,rfl,Bc,hS2.same (Sm.del sc'),λe he=>hdd e (gd▸he),λv f g2 z2 cur2 H3 s3 B3 gd2 fl3 fr3=>?_};have hF3:H3 F=YH (.lst ys):=s3 _ _ (by have:=Bc.a.fq;rw[eF]at this;exact this) Ī;have s4:Sm s.M H3 (upd H3 F (.lst (ys++[v]))):=Sm.at (by rw[<-eF];simp) _;have B4:=B3.grown (ys++[v]);rw[eF]at B4;refine{_,_,_,rfl,rfl,hF3,aH (),_,ys++[v],g2,z2,cur2,rfl,(sc'.trans s3.m).trans s4,ao,?_,by rw[OX,ly];rfl,B4,gd2.trans gd};rw[fl3];exact Paired.two (ba.same (Sm.del (s3.m.trans s4)) fr) (.cons (lG.same (Sm.del s4) fr3) .nil)
 rintro B Hc ⟨v5,ys,g',z,cur,rfl,sc',Ī,fr,ly,Bc,gd⟩;rw[OZ]at ly;refine K1 _ _ ?_;clear K1 M1;try dsimp only
 refine ag λM1 K1=>{ES s cl sc rm F v5 H2 N cs ps dd g,{muZ z,ys,g',z,cur,rfl,sc',Ī,fr,rfl,by have:=Fp z;have:=Bc.zl;lia,Bc,gd},?_};clear fr ly Bc gd Ī sc';rintro m B' Hd ⟨ys,g',z,cur,rfl,sc',Ī,fr,em,lm,Bc,gd⟩;refine ä Bc.a.hS rfl {Pd _,λL hL=>?_};obtain⟨s5,e5⟩:=É hL (HO.lst []);generalize upd Hd L _=H5 at s5 e5⊢;have B5:=Bc.same s5;have okw:∀x∈g'.op,Tv x=true:=λx hx=>by
  rw[Bc.op]at hx;unfold iz at hx;rw[XB]at hx;obtain⟨⟨pa,op⟩,_,rfl⟩:=Pb.mp hx;exact GY op
 refine YY (À.of B5.a.ho) (À.of e5) (uR okw) {_,rfl,?_};have fr5:=ba.same (Sm.del (Sm.new s5)) fr;have hF5:=s5 _ _ Ī;have sc5:=sc'.trans (Sm.new s5);by_cases e0:z=[]
 ·have eo:g'.op=[]:=by rw[Bc.op,e0];rfl
  rw[eo];refine aY (K1 _ _ ?_);clear K1 M1;subst e0;try dsimp only
  refine{by show 1<=sizeLine;decide,λt ht=>?_};obtain⟨s6,e6⟩:=É ht (HO.tup [V.str "end"]);generalize upd H5 t _=H6 at s6 e6⊢;refine{by show 1<=sizeLine;decide,λl hl=>?_};obtain⟨s7,e7⟩:=É hl (HO.lst [V.ref t]);generalize upd H6 l _=H7 at s7 e7⊢;refine{F,l,_,_,rfl,rfl,(s6.trans s7) _ _ hF5,e7,sz (by rw[O3];lia),λR hR=>?_};have s8:=aj.upd hR (.lst (ys++[V.ref t]));have t58:=s6.trans (s7.trans s8);have sR:Sm s.M H2 (upd H7 R (.lst (ys++[V.ref t]))):=sc5.trans (Sm.new t58);have B8:=B5.same t58;have B8':å N (upd H7 R (.lst (ys++[V.ref t]))) s0 g' ps dd [] []:=by
   obtain⟨ys0,f0⟩:=Á.a.hF;have k0:upd H7 R (.lst (ys++[V.ref t])) s0.F=YH (.lst ys0):=out sR _ _ Á.a.fq f0;obtain⟨ds,hd,dda⟩:=B8.a.hd;have dda':xM N (del s0.M (upd H7 R (.lst (ys++[V.ref t])))) g'.dd ds:=Paired.vb dda λe v ⟨a,ea,ha⟩=>⟨a,ea,by
    obtain⟨h1,h2⟩:=cC ha;refine aP (λm=>?_) h2;simp only[Sa.M,O2,Po,or_false]at m;rcases m with h|h|h|h|h|h
    ·exact h1 (by rw[h,es];simp)
    ·exact h1 (by rw[h,es];simp)
    ·exact h1 (by rw[h,es];simp)
    ·exact h1 (by rw[h,es];simp)
    ·exact h1 (by rw[h,es];simp)
    rw[h,k0]at h2;cases h2⟩
   subst es;exact{{B8.a.hS,B8.a.ho,B8.a.ht,B8.a.hm,⟨ds,hd,dda'⟩,Á.a.nd,⟨ys0,k0⟩,B8.a.mo,B8.a.nm},B8.op,B8.tl,B8.tb,B8.de,trivial,by rw[cQ];trivial,Pd _,by rw[cF];exact Pd _}
  have fin:ba N (del s.M (upd H7 R (.lst (ys++[V.ref t])))) (aA cur++[.fin]) (ys++[V.ref t]):=Paired.two (ba.same (Sm.del (Sm.new t58)) fr5) (.cons (Ĕ (aP (B5.a.new ht) ((s7.trans s8) _ _ e6)) rfl) .nil);have lf:=RT fr5;have lf:(aA cur).length=ys.length:=lf;have dcz:=Bc.dc;have HR:H R=YI:=by
   cases e:H R with
   |none=>rfl
   |some o=>
    by_cases mR:R∈s0.Q
    ·exact absurd hR ((B5.same (s6.trans s7)).a.in (by rw[<-eQ]at mR;exact Sa.qm mR))
    have:=(out (sc5.trans (Sm.new (s6.trans s7)))) R o mR e;rw[hR]at this;cases this
  refine q R _ cur g' _ (out sR) HR ao ?_ Bc.oc (by have:=Bc.dc;rw[P2]at this;lia) () B8' gd;rw[<-eQ];exact ba.same (λa o h=>aP (λm=>(cC h).1 (Sa.qm m)) (cC h).2) fin
 have en:(!(sS g'.op).isEmpty)=true:=by
  have l1:g'.op.length=z.length:=by rw[Bc.op];simp[iz]
  cases hg:g'.op with
  |nil=>
   rw[hg]at l1;exact absurd (Q8.mp l1.symm) e0
  |cons x r=>rfl
 rw[en];refine bW {Gb m s cl sc rm F v5 H2 N cs ps dd g,λB' Hd ⟨ys,g',z,cur,m',ő,h1,h2,h3,h4,h5,h6,h7,h8⟩=>⟨m',ő,ys,g',z,cur,h1,h2,h3,h4,h5,h6,h7,h8⟩,{Pg {rfl,_,À.of hF5},N,s,g',ps,dd,z,cur,rfl,B5,e0,λv f g2 z2 cur2 H6 s6 B6 gd2 fl6 mu6 fr6=>?_}};have hF6:H6 F=YH (.lst ys):=s6 _ _ (by have:=Bc.a.fq;rw[eF]at this;exact this) hF5;have s7:Sm s.M H6 (upd H6 F (.lst (ys++[v]))):=Sm.at (by rw[<-eF];simp) _;have B7:=B6.grown (ys++[v]);rw[eF]at B7;refine{_,_,_,rfl,rfl,hF6,aH (),ys++[v],g2,z2,cur2,muZ z2,(),rfl,(sc5.trans s6.m).trans s7,ao,?_,rfl,by rw[OX,O3];lia,B7,gd2.trans gd};rw[fl6];exact Paired.two (ba.same (Sm.del (s6.m.trans s7)) fr5) (.cons (lG.same (Sm.del s7) fr6) .nil)
noncomputable abbrev De:=Nat×List Nat×List Tr
noncomputable def Ĉ(d:De):List Fr:=.bq d.1 d.2.1::(aA d.2.2++[.fin])
noncomputable def bE(ds:List De):List Fr:=ds.flatMap Ĉ
noncomputable def i8(ds:List De):List (Nat×Nat):=ds.map λd=>(d.1,d.2.1.length)
noncomputable def Ğ(k:Nat):Nat:=if k=0 then 9 else if k=1 then 10 else 21
noncomputable def stI(k:Nat):Nat:=if k=0 then 11 else if k=1 then 15 else 22
noncomputable def ţ(k:Nat):Nat:=if k=0 then 5 else if k=1 then 5 else 3
noncomputable def Ě(k n:Nat):List Nat:=(R8 n).map (stI k+ ·)
structure Ng(ds:List De):Prop where
 at':∀(k:Nat) d,ds[k]?=YH d->d.1=Ğ k/\(∃n,n<ţ k/\d.2.1=Ě k n)/\cQ d.2.1 (i8 (ds.take k)) false d.2.2/\cF d.2.2<=6/\(aA d.2.2).length<=17
structure eX(hs:List Lr)(ds:List De)(mb:List Tr):Prop where
 hd:∃rk z t,hs=rb t (oJ rk z)/\(∀i,rk i=0\/rk i=1\/rk i=2)/\1<=z/\z<=4/\t<=11
 dl:ds.length=3
 de:Ng ds
 mo:cQ [] (i8 ds) false mb
 md:cF mb<=6
 ml:(aA mb).length<=48
noncomputable def Ą(hs:List Lr)(ds:List De)(mb:List Tr):List Fr:=hs.map Fr.leaf++bE ds++ .main::(aA mb++[.fin])
theorem ê.NN(h:ê N H s g) (dd) (e:xM N (del s.M H) dd ds):ê N (upd H s.d (.lst ds)) s { g with dd:=dd }:=by
 obtain⟨⟨a,b,c,d,e',f,i,j,k,l⟩,x1,x2,x3,x4,x5⟩:=h.ne;exact{au d h.hS,au i h.ho,au k h.ht,au l h.hm,{ds,ao,e.same (Sm.del (Sm.at (by simp) _))},h.nd,h.hF.imp λ_ z=>au x5 z,h.mo,h.nm}
theorem ê.put(h:ê N H s g)(m:R∉s.M)(hR:H R=YH (.lst xs)):ê N (upd H R (.lst ys)) s g:=by
 have nn:∀a∈s.M,a≠R:=λa ha e=>m (e▸ha);obtain⟨ds,hd,dd⟩:=h.hd;refine{au (nn _ (by simp)) h.hS,au (nn _ (by simp)) h.ho,au (nn _ (by simp)) h.ht,au (nn _ (by simp)) h.hm,{ds,au (nn _ (by simp)) hd,Paired.vb dd λe v ⟨a,ea,ha⟩=>{a,ea,?_}},h.nd,h.hF.imp λ_ z=>au (nn _ (by simp)) z,h.mo,h.nm};obtain⟨h1,h2⟩:=cC ha;exact aP h1 (au (λe=>by rw[e,hR]at h2;cases h2) h2)
theorem å.idle(Á:å N H s g ps dd [] []) (ps'):å N H s g ps' dd [] []:={Á.a,Á.op,Á.tl,Á.tb,Á.de,trivial,by rw[cQ];trivial,Á.zl,Á.dc}
theorem å.with(Á:å N H s g ps dd [] [])(a:ê N H' s g):å N H' s g ps dd [] []:=⟨a,Á.op,Á.tl,Á.tb,Á.de,Á.oz,Á.oc,Á.zl,Á.dc⟩
theorem ba.fresh(hR:H R=YI)(h:ba N (del M H) fs vs):ba N (del (R::M) (upd H R o)) fs vs:=ba.same (λa x e=>by
 obtain⟨h1,h2⟩:=cC e;have n:a≠R:=λz=>by rw[z,hR]at h2;cases h2
 exact aP (λm=>by
  rcases O2.mp m with z|z
  ·exact n z
  exact h1 z) (au n h2)) h
theorem DT(h:k<3):k=0\/k=1\/k=2:=()
theorem G8{xs:List V}{a n:Nat}(h:a+n<=xs.length):rB xs (YH (a:Int)) (YH ((a:Int)+(n:Int)))=(xs.drop a).take n:=by
 unfold rB;rw[rT _ (),show((a:Int)+(n:Int))=((a+n:Nat):Int) by push_cast;rfl,rT _ h];congr 1;lia
theorem J7(h:a+n<=24):((sS (vk N)).drop a).take n=nV N ((R8 n).map (a+ ·)):=by
 refine Ra λi=>?_;by_cases hi:i<n
 ·rw[Q6 hi,WY,F5 (),Pk,Pk,QL hi];rfl
 rw[Qe (by rw[PV];lia),Qe (by rw[OZ,OZ,Qi];lia)]
theorem Jh(h:∀x∈M,∀xs,H x≠YH (.tup xs)):∀{fs:List Fr}{vs:List V},ba N H fs vs->(∀f∈fs,f.ob N=YI)->ba N (del M H) fs vs:=by
 intro fs vs g;induction g with
 |nil=>intro _;exact .nil
 |cons g _ ih=>
  intro e;obtain⟨a,p,ev,h1,h2⟩:=g;refine .cons {a,p,ev,aP (λm=>h a m _ h1) h1,λo ho=>?_} (ih λf hf=>e f (O8 _ hf));rw[e _ O9]at ho;cases ho
inductive Bq(K:RS)(vs:List V)(H:Hp)(Q:VK)(Ä:XK):Prop
 |mk(N:Nat->Str)(a nl:RJ)(ns:List Int)(z0:vs=[.ref a,.ref nl])(z1:À K H a (ns.map V.int))(z2:H nl=YH (.lst (sS (vk N))))(z3:ko N)
  (z4:∀(R:RJ)(ys:List V)(hs:List Lr)(ds:List De)(mb:List Tr)(H':Hp),aj H H'->H R=YI->H' R=YH (.lst ys)->ba N H' (Ą hs ds mb) ys->eX hs ds mb->Q (.ref R) H'):Bq K vs H Q Ä
inductive GP(a:RJ)(s:Sa)(c:Int)(H:Hp)(N:Nat->Str)(hs:List Lr)(i:Nat)(B:St)(Hc:Hp):Prop
 |mk (R v6 v7 v8 v9 v10 Đ g ys av):B=[YH (.ref a),YH (.ref s.F),YH (.int c),YH (.ref s.S),YH (.ref R),YH (.int av),v6,v7,v8,v9,v10,YI]->aj H Hc->H R=YI->R∉s.M->Hc R=YH (.lst ys)->ba N (del (R::s.Q) Hc) (hs.map Fr.leaf++bE Đ) ys->Đ.length=i->Ng Đ->å N Hc s g [] (i8 Đ) [] []->(∀e∈g.dd,e.1<24/\e.2.1<=4)->8<=av->av<=8+5*(i)->ys.length<=11+19*i->GP a s c H N hs i B Hc
theorem Lm(T:Txt K mg A):T.tu.Hz P w base 7 (Bq K):=by
 have bc:=@pG P w _ _ base _ T;refine T.tu.hs (k:=6) bI (λf Ã A' outer s' H vs Q E hr hu h=>?_);obtain⟨N,a,nl,ns,rfl,hA,hN,nm,q⟩:=h;refine⟨_,(ae (Ç 2 bI.nd (ak (hj:=by lia) (AJ T) hr (fv 0^af^ab)))
  (ae (Ç 3 bI.nd (xW (dX aw (aI ab) (dX aw (aI (af^ab)) (dX aw (aI (px hu (fv 1) af^px hu (fv 1) af^ab)) (dX aw (aI ab) (dX aw af (xj)))))) rfl rfl (by intro z;cases z) ∅))
  (ae (Ç 4 bI.nd (ak (hj:=by lia) (FG T) hr (fv 1^fv 2^ab)))
  (ae (Ç 5 bI.nd af)
  (ae (bS RW rfl (dA rfl T.dF (af^ab)) (Ð (i:=6) bI.nd rfl)
   (ae (Ç 7 bI.nd (px hu (aI (af^af^af^ab)) (fv 6)))
   (ae (Ç 8 bI.nd (px hu (fv 1) (px hu (aI (af^af^af^ab)) (fv 6))))
   (ae (Ç 9 bI.nd (uN A5 (fv 1) (rX (fv 7)) (rX (az aQ (fv 7) (az bK (ak (hj:=by lia) bc hr (fv 2^az aQ af (fv 6)^ab)) (px hu (aI (af^af^af^ab)) (fv 6)))))))
   (ae (aR (bB (fv 4) (aV (aw^fv 8^fv 9^ab)^ab)))
   (ae (Ç 10 bI.nd (az bK (ak (hj:=by lia) bc hr (fv 2^az aQ af (fv 6)^ab)) af))
   (ae (Ç 4 bI.nd (az aQ (fv 4) (ak (hj:=by lia) (Bm T) hr (fv 3^(ak (hj:=by lia) (By T) hr (fv 0^fv 5^fv 10^ab))^(ak (hj:=by lia) (C5 T) hr (fv 1^fv 9^ab))^af^ab))))
   (ae (aR (bB (px hu (fv 3) aw) (aV (fv 8^Þ gI T.iw (fv 9^ab)^az pN af (px hu (fv 3) aw)^ab)^ab)))
   (ai (Ç 5 bI.nd (az aQ (fv 5) (fv 10))))))))))))
  (ae (aR (bB (fv 4) (aV (aw^ab)^ab)))
  (ae (Ç 11 bI.nd (ak (hj:=by lia) (By T) hr (fv 0^fv 5^(az aQ af (az bK (ak (hj:=by lia) bc hr (fv 2^af^ab)) af))^ab)))
  (ai (aD (az aQ (fv 4) (ak (hj:=by lia) (Bm T) hr (fv 3^fv 11^(ak (hj:=by lia) (C5 T) hr (fv 1^aI ab^ab))^af^ab)))))))))))),?_⟩
 refine ag λM1 K1=>{a,ns,2,rfl,hA,∅,∅,λc H0 s0=>K1 _ _ ?_};clear K1 M1;try dsimp only
 refine ag λM1 K1 S hS=>?_;obtain⟨s1,e1⟩:=É hS (HO.dK []);generalize upd H0 S _=H1 at s1 e1⊢;refine{Pd _,λo ho=>?_};obtain⟨s2,e2⟩:=É ho (HO.lst []);generalize upd H1 o _=H2 at s2 e2⊢;refine{by show 1<=sizeLine;decide,λt ht=>?_};obtain⟨s3,e3⟩:=É ht (HO.lst [.int 1]);generalize upd H2 t _=H3 at s3 e3⊢;have t3:=(s0.trans s1).trans (s2.trans s3);refine Ĝ (j:=5) (À.of (t3 _ _ hN)) (Ĝ (j:=6) (À.of (t3 _ _ hN)) {by show 2<=sizeLine;decide,λm hm=>?_});obtain⟨s4,e4⟩:=É hm (HO.lst [.str (N 5),.str (N 6)]);generalize upd H3 m _=H4 at s4 e4⊢;refine{Pd _,λd hd=>?_};obtain⟨s5,e5⟩:=É hd (HO.lst []);generalize upd H4 d _=H5 at s5 e5⊢;have ř:=(s2.trans s3).trans (s4.trans s5);have h05:=(s0.trans s1).trans ř;let s:Sa:=⟨S,o,t,m,d,nl⟩
 refine{ř _ _ e1,stK s 0,rfl,by show 5<=15;decide,K1 _ _ ?_};clear K1 M1;have HS:H S=YI:=aj.free s0 hS;have s6:aj H (upd H5 S (.dK (bu [] (stK s 0)))):=aj.out h05 HS _;have eS:upd H5 S (.dK (bu [] (stK s 0))) S=YH (.dK (stK s 0)):=ao;have no:o≠S:=YJ ho (e1);have nt:t≠S:=YJ ht (s2 _ _ e1);have nmm:m≠S:=YJ hm ((s2.trans s3) _ _ e1);have nd:d≠S:=YJ hd (((s2.trans s3).trans s4) _ _ e1);have to':t≠o:=YJ ht (e2);have mo':m≠o:=YJ hm (s3 _ _ e2);have do':d≠o:=YJ hd ((s3.trans s4) _ _ e2);have mt':m≠t:=YJ hm (e3);have dt':d≠t:=YJ hd (s4 _ _ e3);have dm':d≠m:=YJ hd (e4);have lS:nl≠S:=λz=>by rw[z,HS]at hN;cases hN
 have lo:nl≠o:=λz=>by rw[z,aj.free (s0.trans s1) ho]at hN;cases hN
 have lt:nl≠t:=λz=>by rw[z,aj.free ((s0.trans s1).trans s2) ht]at hN;cases hN
 have lm:nl≠m:=λz=>by rw[z,aj.free t3 hm]at hN;cases hN
 have ld:nl≠d:=λz=>by rw[z,aj.free (t3.trans s4) hd]at hN;cases hN
 have qH:∀x∈s.Q,H x=YI:=λx hx=>by
  simp only[Sa.Q,s,O2,Po,or_false]at hx;rcases hx with rfl|rfl|rfl|rfl|rfl
  ·exact HS
  ·exact aj.free (s0.trans s1) ho
  ·exact aj.free ((s0.trans s1).trans s2) ht
  ·exact aj.free t3 hm
  exact aj.free (t3.trans s4) hd
 have B6:å N (upd H5 S (.dK (bu [] (stK s 0)))) s {[],[1],[5,6],[],0} [] [] [] []:=by
  refine{{eS,au no ((s3.trans (s4.trans s5)) _ _ e2),au nt ((s4.trans s5) _ _ e3),au nmm (s5 _ _ e4),{[],au nd e5,.nil},?_,{_,au lS (h05 _ _ hN)},(λx hx=>by simpa using hx),nm},rfl,rfl,(λx hx=>by rw[OY.mp hx];exact{∅,∅}),rfl,trivial,by rw[cQ];trivial,Pd _,by rw[cF];exact Pd _};simp only[s,Sa.M,P1,O2,Po,or_false,not_or,Q7,and_true,not_false_eq_true];exact{⟨Pr no,Pr nt,Pr nmm,Pr nd,Pr lS⟩,⟨Pr to',Pr mo',Pr do',Pr lo⟩,⟨Pr mt',Pr dt',Pr lt⟩,⟨Pr dm',Pr lm⟩,Pr ld}
 generalize upd H5 S _=H6 at B6 s6 eS⊢;have esS:s.S=S:=rfl;have esF:s.F=nl:=rfl;have esd:s.d=d:=rfl;clear_value s;subst esS esF;clear e1 e2 e3 e4 e5 s1 s2 s3 s4 s5 t3 ř h05 no nt nmm nd to' mo' do' mt' dt' dm' lS lo lt lm ld hS ho ht hm hd HS;try dsimp only
 refine ag λM1 K1=>{N,s.F,c,rfl,s6 _ _ hN,λR rk z tt ys H7 s7 hR7 eR7 fr7 hrk z1 z4 t11=>K1 _ _ ?_};clear K1 M1;have B7:=B6.same s7;have t7:=s6.trans s7;have R0:H R=YI:=aj.free s6 hR7;have RM:R∉s.M:=B6.a.new hR7;have fr7':ba N (del (R::s.Q) H7) ((rb tt (oJ rk z)).map Fr.leaf) ys:=by
  refine Jh (λx hx xs e=>?_) fr7 (λf hf=>?_)
  ·obtain⟨ds,hd,_⟩:=B7.a.hd;simp only[Sa.Q,O2,Po,or_false]at hx;rcases hx with rfl|rfl|rfl|rfl|rfl|rfl
   ·rw[eR7]at e;cases e
   ·rw[B7.a.hS]at e;cases e
   ·rw[B7.a.ho]at e;cases e
   ·rw[B7.a.ht]at e;cases e
   ·rw[B7.a.hm]at e;cases e
   rw[hd]at e;cases e
  obtain⟨r,hr,rfl⟩:=Pb.mp hf;have hr:r∈oJ rk z:=by
   unfold rb at hr;rcases O5.mp hr with h|h
   ·exact QX h
   exact Qo h
  unfold oJ at hr;simp only[O2,Po,or_false]at hr;rcases hr with rfl|rfl|rfl|rfl|rfl|rfl|rfl|rfl|rfl|rfl|rfl<;>rfl
 have ly7:ys.length=11:=by
  have:=RT fr7;rw[OZ]at this;unfold rb at this;rw[OX,Qu,PV,show(oJ rk z).length=11 from rfl]at this;lia
 obtain⟨hs,ehs⟩:∃hs,hs=rb tt (oJ rk z):={_,rfl};rw[<-ehs]at fr7';try dsimp only
 refine ag λM1 K1=>K1 _ _ ?_;clear K1 M1;try dsimp only
 refine ag λM1 K1=>{_,rfl,∅,∅,j5 (GP a s c H N hs) {R,YI,YI,YI,YI,YI,[],_,ys,8,rfl,t7,R0,RM,eR7,by rw[show bE []=[]from rfl,Pu];exact fr7',rfl,⟨λk d h=>by simp at h⟩,B7,(λe he=>by cases he),∅,∅,()} ?_ ?_}
 ·clear fr7 fr7' ly7 eR7 R0 RM hR7 B7 t7 s7;rintro i B Hc hi ⟨R,v6,v7,v8,v9,v10,Đ,g,ys,av,rfl,tc,R0,RM,eR,fr,dl,dk,Á,hdd,a8,aM,yl⟩;have hi3:i<3:=hi;have ei:(0:Int)+(i:Int)=(i:Int):=()
  rw[ei];have RQ:R∉s.Q:=λm=>RM (Sa.qm m);have st24:stI i+ţ i<=25/\Ğ i<24/\ţ i<=5/\0<ţ i:=by
   rcases DT hi3 with rfl|rfl|rfl<;>decide
  try dsimp only
  refine ag λN1 J1=>{by show 3<=sizeLine;decide,λL1 hL1=>?_};obtain⟨sa,ea⟩:=É hL1 (HO.lst [.int 11,.int 15,.int 22]);generalize upd Hc L1 _=Ha at sa ea⊢;refine Č (j:=i) (v:=.int (stI i)) (À.of ea) (by rcases DT hi3 with rfl|rfl|rfl<;>rfl) (J1 _ _ ?_);clear J1 N1;try dsimp only
  refine ag λN1 J1=>{by show 3<=sizeLine;decide,λL2 hL2=>?_};obtain⟨sb,eb⟩:=É hL2 (HO.lst [.int 9,.int 10,.int 21]);generalize upd Ha L2 _=Hb at sb eb⊢;have tb:=tc.trans (sa.trans sb);refine Č (j:=i) (v:=.int (Ğ i)) (À.of eb) (by rcases DT hi3 with rfl|rfl|rfl<;>rfl) (Ĝ (j:=Ğ i) (À.of (tb _ _ hN)) (J1 _ _ ?_) st24.2.1);clear J1 N1;try dsimp only
  refine ag λN1 J1=>{_,rfl,c,_,rfl,(),(),λm1 m10 m11=>{by show 3<=sizeLine;decide,λL3 hL3=>?_}};obtain⟨sd,ed⟩:=É hL3 (HO.lst [.int 5,.int 5,.int 3]);generalize upd Hb L3 _=Hd at sd ed⊢;refine Č (j:=i) (v:=.int (ţ i)) (À.of ed) (by rcases DT hi3 with rfl|rfl|rfl<;>rfl) {by show(0:Int)<(ţ i:Int);lia,?_};obtain⟨n,en⟩:∃n:Nat,m1%(ţ i:Int)=(n:Int):={(m1%(ţ i:Int)).toNat,by have:=bY m1 (show(0:Int)<(ţ i:Int) by lia);lia};have nlt:n<ţ i:=by have:=bY m1 (show(0:Int)<(ţ i:Int) by lia);lia
  dsimp only;rw[en];have td:=tb.trans sd;refine{_,rfl,Pg {s.F,_,rfl,À.of (td _ _ hN),λpp Ų=>?_}};rw[G8 (by rw[OZ];show stI i+n<=(vk N).length;rw[show(vk N).length=24 by simp[vk]];lia),J7 ()];obtain⟨se,ee⟩:=É Ų (HO.lst (nV N ((R8 n).map (stI i+ ·))));generalize upd Hd pp _=He at se ee⊢;have ee:He pp=YH (.lst (nV N (Ě i n))):=ee;have ppM:pp∉s.M:=(Á.same ((sa.trans sb).trans sd)).a.new Ų;have pl:(Ě i n).length=n:=by unfold Ě;rw[OZ,Qi]
  generalize hps:Ě i n=ps at ee pl;refine J1 _ _ ?_;clear J1 N1;have sce:=((sa.trans sb).trans sd).trans se;have te:=tc.trans sce;try dsimp only
  refine ag λN1 J1=>?_;have eRe:=sce _ _ eR;refine{Pg {rfl,_,À.of eRe},by show 3<=sizeLine;decide,λî htd=>?_};obtain⟨sf,ef⟩:=É htd (HO.tup [V.str "deed",.str (N (Ğ i)),.ref pp]);generalize upd He î _=Hf at sf ef⊢;have scf:=sce.trans sf;refine{_,_,_,rfl,rfl,sf _ _ eRe,aH (),?_};have Bf:=Á.same scf;have Ag:=Bf.a.put RM (ys:=ys++[V.ref î]) (scf _ _ eR);have sg:aj H (upd Hf R (.lst (ys++[V.ref î]))):=aj.out (tc.trans scf) R0 _;have eRg:upd Hf R (.lst (ys++[V.ref î])) R=YH (.lst (ys++[V.ref î])):=ao;have mg:Sm (R::s.Q) Hf (upd Hf R (.lst (ys++[V.ref î]))):=Sm.at O9 _;have fg:ba N (del (R::s.Q) (upd Hf R (.lst (ys++[V.ref î])))) (hs.map Fr.leaf++bE Đ++[.bq (Ğ i) ps]) (ys++[V.ref î]):=by
   refine Paired.two (ba.same (Sm.del ((Sm.new scf).trans mg)) fr) (.cons ?_ .nil);have n1:î∉R::s.Q:=λm=>by
    rcases O2.mp m with z|z
    ·rw[z,eRe]at htd;cases htd
    exact(Á.same sce).a.new htd (Sa.qm z)
   have n2:pp∉R::s.Q:=λm=>by
    rcases O2.mp m with z|z
    ·rw[z,((sa.trans sb).trans sd) _ _ eR]at Ų;cases Ų
    exact(Á.same ((sa.trans sb).trans sd)).a.new Ų (Sa.qm z)
   refine fr1 (p:=pp) (aP n1 (mg _ _ n1 ef)) rfl (aP n2 (mg _ _ n2 (sf _ _ ee)))
  have epg:upd Hf R (.lst (ys++[V.ref î])) pp=YH (.lst (nV N ps)):=au (YJ Ų (((sa.trans sb).trans sd) _ _ eR)) (sf _ _ ee);have Bg:å N (upd Hf R (.lst (ys++[V.ref î]))) s g [] (i8 Đ) [] []:=Á.with Ag;generalize upd Hf R (.lst (ys++[V.ref î]))=Hg at sg eRg fg epg Bg⊢;clear Ag mg Bf;refine J1 _ _ ?_;clear J1 N1;try dsimp only
  refine ag λN1 J1=>{c,_,rfl,(),(),λm2 m20 m21=>{by show(0:Int)<6;decide,?_}};obtain⟨k6,ek6⟩:∃n:Nat,m2%6=(n:Int):={(m2%6).toNat,by have:=bY m2 (show(0:Int)<6 by decide);lia};have k6l:k6<=5:=by have:=bY m2 (show(0:Int)<6 by decide);lia
  dsimp only;rw[ek6];refine J1 _ _ ?_;clear J1 N1;try dsimp only
  refine ag λN1 J1=>{a,ns,av,k6,rfl,sg.seq hA,(),(),λCL cs Hh sh fh eh lh=>{N,s.F,pp,ps,rfl,(sg.trans sh) _ _ hN,sh _ _ epg,(),λsc Hi si fi eSc=>?_}};have sgi:=sh.trans si;have Bi:=(Bg.same sgi).idle ps;have ki:∀{x:RJ}{o:HO},Hg x=YI->Hi x=YH o->del s.M Hi x=YH o:=λ{x o} h e=>aP (Bg.a.new h) e;have scd:rM N (del s.M Hi) sc ps:=eSc s.M λx hx=>(Bg.same sh).a.in hx;refine{N,s,g,ps,i8 Đ,CL,sc,cs,200,rfl,Bi,ki fh (si _ _ eh),(),scd,hdd,λR2 zs ts g2 Hj sj hR2 ī fr2 ok2 dp2 ln2 B2 gd2=>?_};have tj:aj H Hj:=Sm.same sj (sg.trans sgi) qH;have eRj:Hj R=YH (.lst (ys++[V.ref î])):=sj _ _ RQ (sgi _ _ eRg);have lz:=RT fr2;rw[OX,O3]at lz;refine{R,R2,_,_,rfl,rfl,eRj,ī,sz (by rw[OX,O3];lia),λR3 hR3=>?_};have sk:=aj.upd hR3 (.lst (ys++[V.ref î]++zs));have tk:=tj.trans sk;have fj:ba N (del s.Q Hj) (hs.map Fr.leaf++bE Đ++[.bq (Ğ i) ps]++(aA ts++[.fin])) (ys++[V.ref î]++zs):=by
   refine Paired.two (ba.same (λx o h=>?_) fg) fr2;obtain⟨h1,h2⟩:=cC h;have ŵ:x∉s.Q:=λm=>h1 (O8 _ m);exact aP ŵ (sj _ _ ŵ (sgi _ _ h2))
  have fk:=ba.fresh hR3 (o:=.lst (ys++[V.ref î]++zs)) fj;have eRk:upd Hj R3 (.lst (ys++[V.ref î]++zs)) R3=YH (.lst (ys++[V.ref î]++zs)):=ao;have R3M:R3∉s.M:=B2.a.new hR3;have R30:H R3=YI:=aj.free tj hR3;have Bk:=B2.same sk;generalize upd Hj R3 (.lst (ys++[V.ref î]++zs))=Hk at sk tk fk eRk Bk⊢;have epk:=sk _ _ (sj _ _ (λm=>ppM (Sa.qm m)) (sgi _ _ epg));refine J1 _ _ ?_;clear J1 N1;try dsimp only
  refine ag λN1 J1=>?_;obtain⟨dvs,hdk,ddk⟩:=Bk.a.hd;refine ä Bk.a.hS rfl {Pg {rfl,_,À.of hdk},lnl epk (ä Bk.a.hS rfl {by show 3<=sizeLine;decide,λte hte=>?_})};have lpv:(nV N ps).length=n:=by rw[OZ,pl]
  rw[lpv];obtain⟨sl,el⟩:=É hte (HO.tup [V.str (N (Ğ i)),.int (n:Int),.int (201-g2.room)]);generalize upd Hk te _=Hl at sl el⊢;have dlen:=RT ddk;have Bl:=Bk.same sl;have gl:g2.dd.length=Đ.length:=by
   have:=congrArg TF B2.de;unfold i8 at this;rw[OZ,OZ]at this;exact this
  refine{_,_,_,rfl,rfl,sl _ _ hdk,aH (),?_};have teM:te∉s.M:=Bk.a.new hte;have Am:=Bl.a.NN (ds:=dvs++[V.ref te]) (g2.dd++[(Ğ i,n,201-g2.room)]) (Paired.two (xM.same (Sm.del (Sm.new sl)) ddk) (.cons ⟨te,rfl,aP teM el⟩ .nil));have sdQ:s.d∈s.Q:=by simp
  have mm:Sm (R3::s.Q) Hl (upd Hl s.d (.lst (dvs++[V.ref te]))):=Sm.at (O8 _ sdQ) _;have tm:aj H (upd Hl s.d (.lst (dvs++[V.ref te]))):=aj.out (tk.trans sl) (qH _ sdQ) _;have dnew:i8 (Đ++[(Ğ i,ps,ts)])=i8 Đ++[(Ğ i,n)]:=by
   unfold i8;rw[PB];simp[pl]
  refine J1 _ _ ?_;clear J1 N1;refine{R3,_,_,_,_,_,Đ++[(Ğ i,ps,ts)],{ g2 with dd:=g2.dd++[(Ğ i,n,201-g2.room)] },ys++[V.ref î]++zs,av+k6,rfl,tm,R30,R3M,au (λz=>R3M (z▸Sa.qm sdQ)) (sl _ _ eRk),?_,by rw[OX,dl];rfl,⟨λk d hd=>?_⟩,{Am,B2.op,B2.tl,B2.tb,?_,trivial,by rw[cQ];trivial,Pd _,by rw[cF];exact Pd _},λe he=>?_,(),by push_cast;lia,?_}
  ·rw[show hs.map Fr.leaf++bE (Đ++[(Ğ i,ps,ts)])=hs.map Fr.leaf++bE Đ++[.bq (Ğ i) ps]++(aA ts++[.fin]) by unfold bE;rw[Qj];simp[Ĉ]];exact ba.same (Sm.del ((Sm.new sl).trans mm)) fk
  ·by_cases hk:k<Đ.length
   ·rw[PY hk]at hd;have:=dk.at' k d hd;rw[QP ()];exact this
   have ek:k=Đ.length:=by
    have:=(Pl.mp hd).1;rw[OX,O3]at this;lia
   subst ek;rw[PU (O4 _),Qn]at hd;cases hd;rw[XY,dl]
   ·exact{rfl,⟨n,nlt,hps.symm⟩,ok2,dp2,by show(aA ts).length<=17;lia}
   rfl
  ·show List.map _ (g2.dd++[(Ğ i,n,201-g2.room)])=_;rw[dnew,PB,B2.de];rfl
  ·rcases O5.mp he with m|m
   ·exact hdd e (gd2▸m)
   rw[OY.mp m];exact{st24.2.1,by show n<=4;lia}
  rw[OX,OX,O3];lia
 rintro B Hc ⟨R,v6,v7,v8,v9,v10,Đ,g,ys,av,rfl,tc,R0,RM,eR,fr,dl,dk,Á,hdd,a8,aM,yl⟩;have dl:Đ.length=3:=dl;have aM:av<=8+5*3:=aM;have yl:ys.length<=11+19*3:=yl;refine K1 _ _ ?_;clear K1 M1;have RQ:R∉s.Q:=λm=>RM (Sa.qm m);try dsimp only
 refine ag λM1 K1=>{Pg {rfl,_,À.of eR},by show 1<=sizeLine;decide,λî htd=>?_};obtain⟨sf,ef⟩:=É htd (HO.tup [V.str "main"]);generalize upd Hc î _=Hf at sf ef⊢;refine{_,_,_,rfl,rfl,sf _ _ eR,aH (),?_};have Ag:=(Á.same sf).a.put RM (ys:=ys++[V.ref î]) (sf _ _ eR);have sg:aj H (upd Hf R (.lst (ys++[V.ref î]))):=aj.out (tc.trans sf) R0 _;have eRg:upd Hf R (.lst (ys++[V.ref î])) R=YH (.lst (ys++[V.ref î])):=ao;have mg:Sm (R::s.Q) Hf (upd Hf R (.lst (ys++[V.ref î]))):=Sm.at O9 _;have fg:ba N (del (R::s.Q) (upd Hf R (.lst (ys++[V.ref î])))) (hs.map Fr.leaf++bE Đ++[.main]) (ys++[V.ref î]):=by
  refine Paired.two (ba.same (Sm.del ((Sm.new sf).trans mg)) fr) (.cons ?_ .nil);have n1:î∉R::s.Q:=λm=>by
   rcases O2.mp m with z|z
   ·rw[z,eR]at htd;cases htd
   exact Á.a.new htd (Sa.qm z)
  exact Ĕ (aP n1 (mg _ _ n1 ef)) rfl
 have Bg:å N (upd Hf R (.lst (ys++[V.ref î]))) s g [] (i8 Đ) [] []:=Á.with Ag;generalize upd Hf R (.lst (ys++[V.ref î]))=Hg at sg eRg fg Bg⊢;clear Ag mg;refine K1 _ _ ?_;clear K1 M1;try dsimp only
 refine ag λM1 K1=>{c,19,rfl,∅,∅,λm2 m20 m21=>{by show(0:Int)<33;decide,?_}};obtain⟨k6,ek6⟩:∃n:Nat,4+m2%33=(n:Int):={(4+m2%33).toNat,by have:=bY m2 (show(0:Int)<33 by decide);lia};have k6l:k6<=36:=by have:=bY m2 (show(0:Int)<33 by decide);lia
 refine{a,ns,av,k6,by rw[<-ek6];rfl,sg.seq hA,(),(),λCL cs Hh sh fh eh lh=>K1 _ _ ?_};clear K1 M1;try dsimp only
 refine{Pd _,λpp Ų=>?_};obtain⟨sp,ep⟩:=É Ų (HO.lst []);generalize upd Hh pp _=Hp' at sp ep⊢;refine{N,s.F,pp,[],rfl,(sg.trans (sh.trans sp)) _ _ hN,ep,∅,λsc Hi si fi eSc=>?_};have sgi:=(sh.trans sp).trans si;have Bi:=Bg.same sgi;refine{N,s,g,[],i8 Đ,CL,sc,cs,800,rfl,Bi,aP (Bg.a.new fh) ((sp.trans si) _ _ eh),(),eSc s.M λx hx=>(Bg.same (sh.trans sp)).a.in hx,hdd,λR2 zs ts g2 Hj sj hR2 ī fr2 ok2 dp2 ln2 B2 gd2=>?_};have tj:aj H Hj:=Sm.same sj (sg.trans sgi) qH;have eRj:Hj R=YH (.lst (ys++[V.ref î])):=sj _ _ RQ (sgi _ _ eRg);have lz:=RT fr2;rw[OX,O3]at lz;refine{R,R2,_,_,rfl,rfl,eRj,ī,sz (by rw[OX,O3];lia),λR3 hR3=>?_};have sk:=aj.upd hR3 (.lst (ys++[V.ref î]++zs));refine q R3 _ hs Đ ts _ (tj.trans sk) (aj.free tj hR3) ao ?_ {⟨rk,z,tt,ehs,hrk,z1,z4,t11⟩,dl,dk,ok2,dp2,()};unfold Ą;rw[show hs.map Fr.leaf++bE Đ++ .main::(aA ts++[.fin])=hs.map Fr.leaf++bE Đ++[.main]++(aA ts++[.fin]) by simp];refine Paired.two (ba.same (λx o h=>?_) fg) (ba.same (λx o h=>sk _ _ (cC h).2) fr2);obtain⟨h1,h2⟩:=cC h;exact sk _ _ (sj _ _ (λm=>h1 (O8 _ m)) (sgi _ _ h2))
noncomputable def ċ(X H H':Hp):Hp:=λb=>if((X b).isSome||(H b).isNone)=true then H' b else YI
theorem uJ(h:ċ X H H' b=YH o):((X b).isSome||(H b).isNone)=true/\H' b=YH o:=by
 unfold ċ at h;split at h
 ·next c=>exact⟨c,h⟩
 cases h
theorem yF(c:((X b).isSome||(H b).isNone)=true)(h:H' b=YH o):ċ X H H' b=YH o:=by
 unfold ċ;rw[if_pos c];exact h
theorem yf:aj (ċ X H H') H':=λb o h=>(uJ h).2
theorem fX(s:aj H' H''):aj (ċ X H H') (ċ X H H''):=λb o h=>yF (uJ h).1 (s _ _ (uJ h).2)
theorem pF(d:∀b,H1 b=YI->H b=YI):aj (ċ X H1 H') (ċ X H H'):=λb o h=>by
 obtain⟨c,e⟩:=uJ h;refine yF ?_ e;rcases Bool.or_eq_true_iff.mp c with c|c
 ·rw[c];rfl
 rw[d b (Q5.mp c)];simp
theorem kr(s:aj X H'):aj X (ċ X H H'):=λb o h=>yF (by rw[h];rfl) (s _ _ h)
theorem dg(n:H b=YI)(h:H' b=YH o):ċ X H H' b=YH o:=yF (by rw[n];simp) h
theorem oK(n:X D=YI)(e:H D≠YI):aj (ċ X H H') (ċ X H (upd H' D o)):=λb u h=>by
 obtain⟨c,z⟩:=uJ h;refine yF c (au (λy=>?_) z);rw[y,n]at c;rcases Bool.or_eq_true_iff.mp c with c|c
 ·cases c
 exact e (Q5.mp c)
theorem YV(s:aj H H'):∀b,H' b=YI->H b=YI:=λb h=>aj.free s h
noncomputable def wdI(j:Nat):Str:=(["","hand","given","own","let","set","put","send","say","call","last"]:List Str).getD j ""
theorem Cg(r:Lr):r.wd=wdI r.ci:=by cases r<;>rfl
theorem Co(r:Lr):1<=r.ci/\r.ci<=10:=by cases r<;>simp[Lr.ci]
theorem Ij:∀i:Fin 11,∀j:Fin 11,wdI i.val=wdI j.val->i.val=j.val:=by decide+kernel
theorem pD{r:Lr}{j:Nat}(z:decide (V.str r.wd=V.str (wdI j))=true)(hj:j<11:=by decide):r.ci=j:=by
 have h:=V.str.inj (of_decide_eq_true z);rw[Cg]at h;have:=Co r;exact Ij {r.ci,()} ⟨j,hj⟩ h
theorem o9{r:Lr}{j:Nat}(z:¬ decide (V.str r.wd=V.str (wdI j))=true):r.ci≠j:=λe=>z (decide_eq_true (by rw[Cg,e]))
theorem ri1{r:Lr}(h:r.ci=1):∃a b,r=.hand a b:=by cases r<;>first|(cases h;done)|exact{_,_,rfl}
theorem ri2{r:Lr}(h:r.ci=2):∃a b c,r=.Ŋ a b c:=by cases r<;>first|(cases h;done)|exact{_,_,_,rfl}
theorem ri3{r:Lr}(h:r.ci=3):∃a b,r=.own a b:=by cases r<;>first|(cases h;done)|exact{_,_,rfl}
theorem ri4{r:Lr}(h:r.ci=4):∃a b,r=.lt a b:=by cases r<;>first|(cases h;done)|exact{_,_,rfl}
theorem ri5{r:Lr}(h:r.ci=5):∃a b,r=.set a b:=by cases r<;>first|(cases h;done)|exact{_,_,rfl}
theorem ri6{r:Lr}(h:r.ci=6):∃a b c,r=.put a b c:=by cases r<;>first|(cases h;done)|exact{_,_,_,rfl}
theorem ri7{r:Lr}(h:r.ci=7):∃a b,r=.snd a b:=by cases r<;>first|(cases h;done)|exact{_,_,rfl}
theorem ri8{r:Lr}(h:r.ci=8):∃a b c,r=.say a b c:=by cases r<;>first|(cases h;done)|exact{_,_,_,rfl}
theorem ri9{r:Lr}(h:r.ci=9):∃a b,r=.call a b:=by cases r<;>first|(cases h;done)|exact{_,_,rfl}
inductive zF(A:Ö)(vs:List V)(H:Hp)(Q:VK)(Ä:XK):Prop
 |mk (N X v n r) (z0:vs=[v,.int n]) (z1:aj X H) (z2:lG N X v (.leaf r))
  (z3:∀(a H'),aj H H'->H a=YI->bf A N (ċ X H H') (.ref a) (.leaf n r)->Q (.ref a) H'):zF A vs H Q Ä
theorem uF(T:Txt K mg A)(hx:H x=YI)(hd:H dx=YI)(q:∀H',aj H H'->H' x=YH (.ins A.dG dx [("number",v0)])->R .Ë H'):f9 K A (.ref x::([v0]++[])) (upd (upd H dx (.own x)) x (.ins A.dG dx [])) R E0:=
 {x,A.dG,dx,[],_,rfl,ao,T.fL.cl,T.fK,∅,q _ (aj.out (aj.out (aj.upd hd _) hx _) hx _) ao}
theorem CF(T:Txt K mg A):T.kI.Hz P w base 5 (zF A):=by
 have ka:=js (P:=P) (w:=w) (mg:=mg) (base:=base) (A:=A) T.iE;refine T.kI.hs (k:=4) rN (λf Ã A' outer s H vs Q E hr hu h=>?_);obtain⟨N,X,v,n,r,rfl,s0,⟨a,p,rfl,h1,h2⟩,q⟩:=h;have hT:=È.of (K:=K) (s0 _ _ h1);refine⟨_,(ae (aS (Í (cn hu) (px hu (fv 0) af) aw)
   (ai (aD (bZ T.jY (sJ T) hr (fv 1^px hu (fv 0) af^px hu (fv 0) af^ab))))
   aF)
  (ae (aS (Í (cn hu) (px hu (fv 0) af) aw)
   (ai (aD (bZ T.cP (rq T) hr (fv 1^px hu (fv 0) af^px hu (fv 0) af^px hu (fv 0) af^ab))))
   aF)
  (ae (aS (Í (cn hu) (px hu (fv 0) af) aw)
   (ai (aD (bZ T.iF (vc T) hr (fv 1^px hu (fv 0) af^px hu (fv 0) af^ab))))
   aF)
  (ae (aS (Í (cn hu) (px hu (fv 0) af) aw)
   (ai (aD (bZ T.eg (vd T) hr (fv 1^px hu (fv 0) af^px hu (fv 0) af^ab))))
   aF)
  (ae (aS (Í (cn hu) (px hu (fv 0) af) aw)
   (ai (aD (bZ T.ft (uV T) hr (fv 1^px hu (fv 0) af^px hu (fv 0) af^ab))))
   aF)
  (ae (aS (Í (cn hu) (px hu (fv 0) af) aw)
   (ai (aD (bZ T.dZ (vj T) hr (fv 1^px hu (fv 0) af^px hu (fv 0) af^px hu (fv 0) af^ab))))
   aF)
  (ae (aS (Í (cn hu) (px hu (fv 0) af) aw)
   (ai (aD (bZ T.dw (ug T) hr (fv 1^px hu (fv 0) af^px hu (fv 0) af^ab))))
   aF)
  (ae (aS (Í (cn hu) (px hu (fv 0) af) aw)
   (ai (aD (bZ T.cy (uZ T) hr (fv 1^px hu (fv 0) af^px hu (fv 0) af^px hu (fv 0) af^ab))))
   aF)
  (ae (aS (Í (cn hu) (px hu (fv 0) af) aw)
   (ai (aD (bZ T.cH (uh T) hr (fv 1^px hu (fv 0) af^ĥ sr T.dW (px hu (fv 0) af^ab)^ab))))
   aF)
  (ai (aD (bZ T.fL ka hr (fv 1^ab))))))))))))),?_⟩
 refine ag λM1 K1=>Ê (j:=0) hT rfl {rfl,_,rfl,bg (λz=>?_) (λz1=>K1 _ _ ?_)}
 ·have ec:=pD (j:=1) z;obtain⟨i,r,rfl⟩:=ri1 ec;refine Ê (j:=1) hT rfl (Ê (j:=2) hT rfl (λr6 ā Ú hd_ hne_=>{_,_,_,_,_,_,rfl,rfl,Ú,hd_,λH6 s6 hx=>{rfl,q r6 H6 s6 Ú ?_}}));unfold bf;exact{r6,ā,p,rfl,dg Ú hx,λo ho=>kr (s0.trans s6) _ _ (h2 o ho)}
 clear K1 M1;refine ag λM1 K1=>Ê (j:=0) hT rfl {rfl,_,rfl,bg (λz=>?_) (λz2=>K1 _ _ ?_)}
 ·have ec:=pD (j:=2) z;obtain⟨i,r,z,rfl⟩:=ri2 ec;refine Ê (j:=1) hT rfl (Ê (j:=2) hT rfl (Ê (j:=3) hT rfl (λr6 ā Ú hd_ hne_=>{_,_,_,_,_,_,_,rfl,rfl,Ú,hd_,λH6 s6 hx=>{rfl,q r6 H6 s6 Ú ?_}})));unfold bf;exact{r6,ā,p,rfl,dg Ú hx,λo ho=>kr (s0.trans s6) _ _ (h2 o ho)}
 clear K1 M1;refine ag λM1 K1=>Ê (j:=0) hT rfl {rfl,_,rfl,bg (λz=>?_) (λz3=>K1 _ _ ?_)}
 ·have ec:=pD (j:=3) z;obtain⟨i,z,rfl⟩:=ri3 ec;refine Ê (j:=1) hT rfl (Ê (j:=2) hT rfl (λr6 ā Ú hd_ hne_=>{_,_,_,_,_,_,rfl,rfl,Ú,hd_,λH6 s6 hx=>{rfl,q r6 H6 s6 Ú ?_}}));unfold bf;exact{r6,ā,p,rfl,dg Ú hx,λo ho=>kr (s0.trans s6) _ _ (h2 o ho)}
 clear K1 M1;refine ag λM1 K1=>Ê (j:=0) hT rfl {rfl,_,rfl,bg (λz=>?_) (λz4=>K1 _ _ ?_)}
 ·have ec:=pD (j:=4) z;obtain⟨i,r,rfl⟩:=ri4 ec;refine Ê (j:=1) hT rfl (Ê (j:=2) hT rfl (λr6 ā Ú hd_ hne_=>{_,_,_,_,_,_,rfl,rfl,Ú,hd_,λH6 s6 hx=>{rfl,q r6 H6 s6 Ú ?_}}));unfold bf;exact{r6,ā,p,rfl,dg Ú hx,λo ho=>kr (s0.trans s6) _ _ (h2 o ho)}
 clear K1 M1;refine ag λM1 K1=>Ê (j:=0) hT rfl {rfl,_,rfl,bg (λz=>?_) (λz5=>K1 _ _ ?_)}
 ·have ec:=pD (j:=5) z;obtain⟨x,v,rfl⟩:=ri5 ec;refine Ê (j:=1) hT rfl (Ê (j:=2) hT rfl (λr6 ā Ú hd_ hne_=>{_,_,_,_,_,_,rfl,rfl,Ú,hd_,λH6 s6 hx=>{rfl,q r6 H6 s6 Ú ?_}}));unfold bf;exact{r6,ā,p,rfl,dg Ú hx,λo ho=>kr (s0.trans s6) _ _ (h2 o ho)}
 clear K1 M1;refine ag λM1 K1=>Ê (j:=0) hT rfl {rfl,_,rfl,bg (λz=>?_) (λz6=>K1 _ _ ?_)}
 ·have ec:=pD (j:=6) z;obtain⟨x,t,v,rfl⟩:=ri6 ec;refine Ê (j:=1) hT rfl (Ê (j:=2) hT rfl (Ê (j:=3) hT rfl (λr6 ā Ú hd_ hne_=>{_,_,_,_,_,_,_,rfl,rfl,Ú,hd_,λH6 s6 hx=>{rfl,q r6 H6 s6 Ú ?_}})));unfold bf;exact{r6,ā,p,rfl,dg Ú hx,λo ho=>kr (s0.trans s6) _ _ (h2 o ho)}
 clear K1 M1;refine ag λM1 K1=>Ê (j:=0) hT rfl {rfl,_,rfl,bg (λz=>?_) (λz7=>K1 _ _ ?_)}
 ·have ec:=pD (j:=7) z;obtain⟨h,v,rfl⟩:=ri7 ec;refine Ê (j:=1) hT rfl (Ê (j:=2) hT rfl (λr6 ā Ú hd_ hne_=>{_,_,_,_,_,_,rfl,rfl,Ú,hd_,λH6 s6 hx=>{rfl,q r6 H6 s6 Ú ?_}}));unfold bf;exact{r6,ā,p,rfl,dg Ú hx,λo ho=>kr (s0.trans s6) _ _ (h2 o ho)}
 clear K1 M1;refine ag λM1 K1=>Ê (j:=0) hT rfl {rfl,_,rfl,bg (λz=>?_) (λz8=>K1 _ _ ?_)}
 ·have ec:=pD (j:=8) z;obtain⟨x,v,m,rfl⟩:=ri8 ec;refine Ê (j:=1) hT rfl (Ê (j:=2) hT rfl (Ê (j:=3) hT rfl (λr6 ā Ú hd_ hne_=>{_,_,_,_,_,_,_,rfl,rfl,Ú,hd_,λH6 s6 hx=>{rfl,q r6 H6 s6 Ú ?_}})));unfold bf;exact{r6,ā,p,rfl,dg Ú hx,λo ho=>kr (s0.trans s6) _ _ (h2 o ho)}
 clear K1 M1;refine ag λM1 K1=>Ê (j:=0) hT rfl {rfl,_,rfl,bg (λz=>?_) (λz9=>K1 _ _ ?_)}
 ·have ec:=pD (j:=9) z;obtain⟨i,ts,rfl⟩:=ri9 ec;have hp:=h2 _ rfl;refine Ê (j:=1) hT rfl (Ê (j:=2) hT rfl (Pg {p,_,rfl,Pg (À.of (s0 _ _ hp)),λl hl=>?_}));obtain⟨s1,e1⟩:=É hl (HO.lst (ts.map (Th.v N)));generalize upd H l _=H1 at s1 e1⊢;refine λr6 ā Ú hd_ hne_=>{_,_,_,_,_,_,_,rfl,rfl,Ú,hd_,À.of e1,λn6 H6 f6 s6 h6 hx=>{rfl,q r6 H6 (s1.trans s6) (aj.free s1 Ú) ?_}};unfold bf;exact{r6,ā,n6,rfl,dg (aj.free s1 Ú) hx,λo ho=>by cases ho;exact dg (aj.free s1 f6) h6}
 clear K1 M1;have c:=Co r;have e10:r.ci=10:=by
  have:=o9 (j:=1) z1;have:=o9 (j:=2) z2;have:=o9 (j:=3) z3;have:=o9 (j:=4) z4;have:=o9 (j:=5) z5;have:=o9 (j:=6) z6;have:=o9 (j:=7) z7;have:=o9 (j:=8) z8;have:=o9 (j:=9) z9;lia
 cases r with
 |last=>
  refine λr6 ā Ú hd_ hne_=>uF T Ú hd_ λH6 s6 hx=>{rfl,q r6 H6 s6 Ú ?_};unfold bf;exact{r6,ā,p,rfl,dg Ú hx,λo ho=>by cases ho}
 |_=>cases e10
mutual
noncomputable def è(n:Int):Tr->Pt
 | .leaf r=>.leaf n r
 | .iff v l r f o=>.iff n v l r (br (n+1) f) (br (n+2+((aA f).length:Nat)) o)
 | .loop t m l r b=>.loop n t m l r (br (n+1) b)
noncomputable def br(n:Int):List Tr->List Pt
 | []=>[]
 |t::ts=>è n t::br (n+((Ò t).length:Nat)) ts
end
theorem zB:∀a n b,br n (a++b)=br n a++br (n+((aA a).length:Nat)) b
 | [],n,b=>by
  rw[Pz,br,aA,Pz];congr 1;simp
 |t::a,n,b=>by
  rw[PZ,br,br,zB a,aA,OX,PZ];congr 3;push_cast
  lia
theorem EW (n t):br n [t]=[è n t]:=by rw[br,br]
theorem yG:∀a n,(br n a).length=a.length
 | [],n=>by rw[br];rfl
 |t::a,n=>by rw[br,O6,O6,yG a]
noncomputable def hdF:Tr->Fr
 | .leaf r=>.leaf r
 | .iff v l r _ _=>.iff v l r
 | .loop t m l r _=>.loop t m l r
theorem EZ (t):∃tl,Ò t=hdF t::tl:=by
 cases t with
 |leaf r=>exact{[],by rw[Ò];rfl}
 |iff v l r f o=>exact{_,by rw[Ò];rfl}
 |loop t m l r b=>exact{_,by rw[Ò];rfl}
theorem CI:∀a,a.length<=(aA a).length
 | []=>Pd _
 |t::a=>by
  obtain⟨tl,e⟩:=EZ t;have:=CI a;rw[aA,e,OX,O6,O6];lia
theorem aJ.snoc:∀{ts:List Pt}{vs:List V}{x:V}{t:Pt},aJ A N X vs ts->bf A N X x t->aJ A N X (vs++[x]) (ts++[t])
 | [],vs,x,t,h,h'=>by
  unfold aJ at h;subst h;exact aJ.one h'
 |u::ts,vs,x,t,h,h'=>by
  unfold aJ at h;obtain⟨y,ys,rfl,h1,h2⟩:=h;exact aJ.cons h1 (aJ.snoc h2 h')
theorem ij(h:ba N X fs xs)(e:fs=a++f::b):∃v,į xs (a.length:Int)=YH v/\lG N X v f:=by
 obtain⟨v,hv,fv⟩:=oW (i:=a.length) (a:=f) h (by rw[e,PU (O4 _),Qn];rfl);exact⟨v,jh hv,fv⟩
noncomputable def zA(f:Fr):Bool:=match f with
 | .Ā=>true
 | .fin=>true
 |_=>false
theorem rZ (f):č (V.str f.wd) [V.str "else",V.str "end"]=zA f:=by
 cases f with
 |leaf r=>cases r<;>rfl
 |_=>rfl
theorem IM(s:Sm [F] H H')(hF:H' F≠YI):∀b,H' b=YI->H b=YI:=λb h=>by
 cases e:H b with
 |none=>rfl
 |some o=>
  by_cases z:b=F
  ·rw[z]at h;exact absurd h hF
  rw[s b o (λm=>z (OY.mp m)) e]at h;cases h
theorem HK:∀i:Fin 11,wdI i.val≠"if"/\wdI i.val≠"loop":=by decide+kernel
theorem mU(r:Lr):¬ decide (V.str r.wd=V.str "if")=true/\¬ decide (V.str r.wd=V.str "loop")=true:=by
 have:=Co r;have h:=HK {r.ci,()};rw[Cg];exact{λz=>h.1 (V.str.inj (of_decide_eq_true z)),λz=>h.2 (V.str.inj (of_decide_eq_true z))}
inductive sC(A:Ö)(d:Nat)(vs:List V)(H:Hp)(Q:VK)(Ä:XK):Prop
 |mk (N X L xs fs pre post ts st) (z0:vs=[.ref L,.int (pre.length:Nat)]) (z1:aj X H) (z2:X L=YH (.lst xs)) (z3:ba N X fs xs) (z4:fs=pre++aA ts++st::post) (z5:zA st=true) (z6:cF ts<=d) (z7:xs.length<=300)
  (z8:∀(p R ys H'),aj H H'->H' p=YH (.tup [.ref R,.int ((pre.length+(aA ts).length:Nat):Int)])->H' R=YH (.lst ys)->aJ A N (ċ X H H') ys (br ((pre.length:Nat)+1) ts)->Q (.ref p) H'):sC A d vs H Q Ä
inductive FK(ts:List Tr)(L:RJ)(pre:List Fr)(F:RJ)(H1:Hp)(A:Ö)(N:Nat->Str)(X:Hp)(m:Nat)(B:St)(Hc:Hp):Prop
 |mk (dn rest ys v3 v4 v5 v6 v7):ts=dn++rest->rest.length=m->B=[YH (.ref L),YH (.int ((pre.length+(aA dn).length:Nat):Int)),YH (.ref F),v3,v4,v5,v6,v7]->Sm [F] H1 Hc->Hc F=YH (.lst ys)->aJ A N (ċ X H1 Hc) ys (br ((pre.length:Nat)+1) dn)->FK ts L pre F H1 A N X m B Hc
inductive Fv(m:Nat)(ts:List Tr)(L:RJ)(pre:List Fr)(F:RJ)(H1:Hp)(A:Ö)(N:Nat->Str)(X:Hp)(B:St)(Hc:Hp):Prop
 |mk (dn rest ys v3 v4 v5 v6 v7 m'):m'<m->ts=dn++rest->rest.length=m'->B=[YH (.ref L),YH (.int ((pre.length+(aA dn).length:Nat):Int)),YH (.ref F),v3,v4,v5,v6,v7]->Sm [F] H1 Hc->Hc F=YH (.lst ys)->aJ A N (ċ X H1 Hc) ys (br ((pre.length:Nat)+1) dn)->Fv m ts L pre F H1 A N X B Hc
theorem Bw(T:Txt K mg A) (d j) (hj:5<=j) (jb:T.dB.Hz P w base j (spN (sC A) d)):T.dB.Hz P w base (j+1) (sC A d):=by
 refine T.dB.hs (k:=j) aZ (λf Ã A' outer s H vs Q E hr hu h=>?_);obtain⟨N,X,L,xs,fs,pre,post,ts,st,rfl,s0,hL,fr,Ć,hst,dp,lx,q⟩:=h;have lfs:fs.length<=300:=by rw[RT fr];exact lx
 refine⟨_,(ae (Ç 2 aZ.nd (aI ab))
  (ae (ir RW (Í (iy hu) (px hu (px hu (fv 0) (fv 1)) af) (aV (aw^aw^ab)) ((by with_unfolding_all rfl)))
   (ae (Ç 3 aZ.nd (px hu (fv 0) (fv 1)))
   (ae (Ç 4 aZ.nd (az aQ (fv 1) af))
   (ae (aS (Í (cn hu) (px hu (fv 3) af) aw)
    (ae (bR (ak (hj:=by lia) jb hr (fv 0^az aQ (fv 1) af^ab)) (dj rfl (aN (Ð (i:=5) aZ.nd rfl) (aN (Ð (i:=1) aZ.nd rfl) cc))))
    (ae (bR (ak (hj:=by lia) jb hr (fv 0^az aQ (fv 1) af^ab)) (dj rfl (aN (Ð (i:=6) aZ.nd rfl) (aN (Ð (i:=1) aZ.nd rfl) cc))))
    (ai (aR (bB (fv 2) ((bZ (hj:=by lia) T.cb (xB T) hr (fv 4^px hu (fv 3) af^fv 5^fv 6^px hu (fv 3) af^px hu (fv 3) af^ab))^ab))))))
    (ai (aS (Í (cn hu) (px hu (fv 3) af) aw)
     (ae (bR (ak (hj:=by lia) jb hr (fv 0^az aQ (fv 1) af^ab)) (dj rfl (aN (Ð (i:=7) aZ.nd rfl) (aN (Ð (i:=1) aZ.nd rfl) cc))))
     (ai (aR (bB (fv 2) ((bZ (hj:=by lia) T.bA (lL T) hr (fv 4^px hu (fv 3) af^px hu (fv 3) af^fv 7^px hu (fv 3) af^px hu (fv 3) af^ab))^ab)))))
     (ai (aR (bB (fv 2) ((ak (hj:=by lia) (CF T) hr (fv 3^fv 4^ab))^ab)))))))
   (ai (Ç 1 aZ.nd (az aQ (fv 1) af)))))))
  (ai (aD (aV (fv 2^fv 1^ab)))))),?_⟩
 refine ag λM1 K1=>{Pd _,λF hF=>?_};obtain⟨s1,e1⟩:=É hF (HO.lst []);generalize upd H F _=H1 at s1 e1⊢;have XF:X F=YI:=aj.free s0 hF;have H1F:H1 F≠YI:=by rw[e1];simp
 have FL:L≠F:=λz=>by rw[z,XF]at hL;cases hL
 refine K1 _ _ ?_;clear K1 M1;try dsimp only
 refine ag λM1 K1=>{FK ts L pre F H1 A N X,{ts.length,[],ts,[],YI,YI,YI,YI,YI,rfl,rfl,rfl,Sm.refl _ _,e1,by rw[br];exact aJ.nil},?_};rintro m B Hc ⟨dn,rest,ys,v3,v4,v5,v6,v7,Ĺ,em,rfl,sc,Ī,pt⟩;have sX:aj X Hc:=sc.same (s0.trans s1) (λm hm=>by rw[OY.mp hm];exact XF);have sH:aj H Hc:=sc.same s1 (λm hm=>by rw[OY.mp hm];exact hF);have ĺ:=À.of (K:=K) (sX _ _ hL);have nb:=IM sc (by rw[Ī];simp);cases rest with
 |nil=>
  rw[Pu]at Ĺ;subst Ĺ;obtain⟨v,av,⟨a,p,rfl,ha,_⟩⟩:=ij fr (a:=pre++aA ts) (f:=st) (b:=post) Ć;rw[OX]at av;refine ï ĺ av (Ê (j:=0) (È.of (sX _ _ ha)) rfl {by show 2<=sizeLine;decide,λtp ß=>?_});have Å:=aj.upd ß (.tup [V.str "else",.str "end"]);refine Pg {_,Qs (È.of ao),rfl,rfl,_,rfl,bg (λz=>absurd z (by show ¬ (!č (V.str st.wd) [V.str "else",V.str "end"])=true;rw[rZ,hst];decide)) (λ_=>K1 _ _ {by show 2<=sizeLine;decide,λp hp=>?_})};have s5:=aj.upd hp (.tup [V.ref F,.int ((pre.length+(aA ts).length:Nat):Int)]);exact q p F ys _ (sH.trans (Å.trans s5)) ao ((Å.trans s5) _ _ Ī) (aJ.same (pF (YV s1)) _ _ (aJ.same (fX (Å.trans s5)) _ _ pt))
 |cons t rest=>
 clear K1;obtain⟨tl,et⟩:=EZ t;have efs':fs=(pre++aA dn)++hdF t::(tl++aA rest++st::post):=by
  rw[Ć,Ĺ,dH,aA,et];simp
 obtain⟨v,av,fv'⟩:=ij fr efs';rw[OX]at av;have fv0:=fv';obtain⟨a,p,rfl,ha,hob⟩:=fv';have ſ:zA (hdF t)=false:=by cases t<;>rfl
 refine ï ĺ av (Ê (j:=0) (È.of (sX _ _ ha)) rfl {by show 2<=sizeLine;decide,λtp ß=>?_});obtain⟨s2,e2⟩:=É ß (HO.tup [V.str "else",.str "end"]);generalize upd Hc tp _=H2 at s2 e2⊢;refine Pg {_,Qs (È.of e2),rfl,rfl,_,rfl,bg (λ_=>?_) (λz=>absurd (by show(!č (V.str (hdF t).wd) [V.str "else",V.str "end"])=true;rw[rZ,ſ];rfl) z)};refine{Fv m ts L pre F H1 A N X,λB Hc ⟨dn,rest,ys,v3,v4,v5,v6,v7,m',ő,h1,h2,h3,h4,h5,h6⟩=>⟨m',ő,dn,rest,ys,v3,v4,v5,v6,v7,h1,h2,h3,h4,h5,h6⟩,?_};have š:=sX.trans s2;have dlen:=CI dn;have lf:pre.length+(aA dn).length+1<=fs.length:=by
  have:=congrArg TF efs';simp only[OX,O6]at this;lia
 have ly:ys.length=dn.length:=by rw[pt.len,yG]
 have dpt:Ă t<=d:=by
  rw[Ĺ,mN,cF]at dp;lia
 try dsimp only
 refine ag λN1 J1=>ï (s2.seq ĺ) av (J1 _ _ ?_);clear J1 N1;try dsimp only
 refine ag λN1 J1=>J1 _ _ ?_;clear J1 N1;try dsimp only
 refine ag λN1 J1=>?_;have hF2:=s2 _ _ Ī;have fin:∀(x:V)(H4:Hp)(u5 u6 u7:Option V)(at':Int),aj H2 H4->bf A N (ċ X H2 H4) x (è (((pre.length+(aA dn).length:Nat):Int)+1) t)->at'+1=((pre.length+(aA dn).length+(Ò t).length:Nat):Int)->
   N1 [YH (.ref L),YH (.int at'),YH (.ref F),YH (.ref a),YH (.int (((pre.length+(aA dn).length:Nat):Int)+1)),u5,u6,u7] (upd H4 F (.lst (ys++[x]))):=by
  intro x H4 u5 u6 u7 at' s4 pa ea
  refine J1 _ _ ?_
  have s5:Sm [F] H4 (upd H4 F (.lst (ys++[x]))):=Sm.at (OY.mpr rfl) _
  have em':rest.length+1=m:=em
  refine{dn++[t],rest,ys++[x],YH (.ref a),YH (.int (((pre.length+(aA dn).length:Nat):Int)+1)),u5,u6,u7,rest.length,(),by rw[Ĺ];simp,rfl,?_,(sc.trans (Sm.new (s2.trans s4))).trans s5,ao,?_}
  ·show[_,YH (V.int (at'+1)),_,_,_,_,_,_]=_;rw[ea,dH,pH,OX,Rf]
  rw[zB,EW,show((pre.length:Nat):Int)+1+((aA dn).length:Nat)=((pre.length+(aA dn).length:Nat):Int)+1 by push_cast;lia]
  refine aJ.snoc (aJ.same (oK XF H1F) _ _ (aJ.same (fX (s2.trans s4)) _ _ pt)) (bf.same (oK XF H1F) _ _ (bf.same (pF λb h=>nb b (aj.free s2 h)) _ _ pa))
 clear J1;have ĩ:=È.of (K:=K) (š _ _ ha);have szy:∀{n:Nat},n=ys.length->n<sizeLine:=λe=>aH ();cases t with
 |leaf r=>
  refine Ê (j:=0) ĩ rfl {rfl,_,rfl,bg (λz=>absurd z (mU r).1) (λ_=>Ê (j:=0) ĩ rfl {rfl,_,rfl,bg (λz=>absurd z (mU r).2) (λ_=>{Pg {rfl,_,À.of hF2},N,X,_,_,r,rfl,š,fv0,λb H4 s4 hb pb=>{_,_,_,rfl,rfl,s4 _ _ hF2,szy rfl,fin _ H4 _ _ _ _ s4 (by rw[è];exact pb) (by rw[Ò];push_cast;rfl)}})})}
 |iff vv l r ff oo=>
  have hp:=hob _ rfl;rw[Ă]at dpt;cases d with
  |zero=>lia
  |succ d=>
  refine Ê (j:=0) ĩ rfl {rfl,_,rfl,bg (λ_=>?_) (λz=>absurd (show decide (V.str "if"=V.str "if")=true from decide_eq_true rfl) z)};have Ġ:fs=(pre++aA dn++[.iff vv l r])++aA ff++ .Ā::(aA oo++ .fin::(aA rest++st::post)):=by
   rw[Ć,Ĺ,dH,aA,Ò];simp
  have e2':fs=(pre++aA dn++[.iff vv l r]++aA ff++[.Ā])++aA oo++ .fin::(aA rest++st::post):=by
   rw[Ġ];simp
  have l1:(pre++aA dn++[Fr.iff vv l r]).length=pre.length+(aA dn).length+1:=by simp only[OX,O3]
  have l2:(pre++aA dn++[Fr.iff vv l r]++aA ff++[Fr.Ā]).length=pre.length+(aA dn).length+1+(aA ff).length+1:=by simp only[OX,O3]
  refine ag λN2 J2=>{N,X,L,xs,fs,_,_,ff,.Ā,by rw[l1];push_cast;rfl,š,hL,fr,Ġ,rfl,(),lx,λp1 R1 y1 H3 s3 ľ eR1 Ž=>{p1,_,rfl,È.of ľ,rfl,_,_,rfl,_,_,rfl,rfl,J2 _ _ ?_}};clear J2 N2;have ń:=š.trans s3;try dsimp only
  refine ag λN2 J2=>{N,X,L,xs,fs,_,_,oo,.fin,by rw[l1,l2];push_cast;rfl,ń,hL,fr,e2',rfl,(),lx,λp2 R2 y2 H4 s4 ep2 ī pt2=>{p2,_,rfl,È.of ep2,rfl,_,_,rfl,_,_,rfl,rfl,J2 _ _ ?_}};clear J2 N2;have Ę:=s3.trans s4;have hT4:=Ę.tup ĩ;try dsimp only
  refine{Pg {rfl,_,À.of (Ę _ _ hF2)},Ê (j:=1) hT4 rfl (Ê (j:=2) hT4 rfl (Ê (j:=3) hT4 rfl (λr6 ā Ú hd_ hne_=>{_,_,_,_,_,_,_,_,_,_,_,rfl,rfl,Ú,hd_,À.of (s4 _ _ eR1),À.of ī,λn6 n7 H6 f6 f7 s6 h6 h7 hx=>{rfl,?_}})))};have s26:=Ę.trans s6;refine{_,_,_,rfl,rfl,s26 _ _ hF2,szy rfl,fin _ H6 _ _ _ _ s26 ?_ ?_}
  ·rw[è];unfold bf;rw[l1]at Ž;rw[l2]at pt2;refine{r6,ā,p,n6,n7,y1,y2,rfl,dg (aj.free Ę Ú) hx,kr (š.trans s26) _ _ hp,dg (aj.free Ę f6) h6,dg (aj.free Ę f7) h7,?_,?_}
   ·have:=aJ.same (fX (s4.trans s6)) _ _ Ž;push_cast at this⊢
    exact this
   have:=aJ.same (pF (YV s3)) _ _ (aJ.same (fX s6) _ _ pt2);push_cast at this⊢
   rw[show(↑pre.length+ ↑(aA dn).length+1+2+ ↑(aA ff).length:Int)=↑pre.length+ ↑(aA dn).length+1+ ↑(aA ff).length+1+1 by lia];exact this
  rw[l2,Ò];simp only[O6,OX,P2];push_cast
  lia
 |loop th mm l r bb=>
  rw[Ă]at dpt;cases d with
  |zero=>lia
  |succ d=>
  refine Ê (j:=0) ĩ rfl {rfl,_,rfl,bg (λz=>absurd z (show ¬ decide (V.str "loop"=V.str "if")=true by decide)) (λ_=>Ê (j:=0) ĩ rfl {rfl,_,rfl,bg (λ_=>?_) (λz=>absurd (show decide (V.str "loop"=V.str "loop")=true from decide_eq_true rfl) z)})};have Ġ:fs=(pre++aA dn++[.loop th mm l r])++aA bb++ .fin::(aA rest++st::post):=by
   rw[Ć,Ĺ,dH,aA,Ò];simp
  have l1:(pre++aA dn++[Fr.loop th mm l r]).length=pre.length+(aA dn).length+1:=by simp only[OX,O3]
  refine ag λN2 J2=>{N,X,L,xs,fs,_,_,bb,.fin,by rw[l1];push_cast;rfl,š,hL,fr,Ġ,rfl,(),lx,λp1 R1 y1 H3 s3 ľ eR1 Ž=>{p1,_,rfl,È.of ľ,rfl,_,_,rfl,_,_,rfl,rfl,J2 _ _ ?_}};clear J2 N2;have ų:=s3.tup ĩ;try dsimp only
  refine{Pg {rfl,_,À.of (s3 _ _ hF2)},Ê (j:=1) ų rfl (Ê (j:=2) ų rfl (Ê (j:=3) ų rfl (Ê (j:=4) ų rfl (λr6 ā Ú hd_ hne_=>{_,_,_,_,_,_,_,_,_,_,rfl,rfl,Ú,hd_,À.of eR1,λn6 H6 f6 s6 h6 hx=>{rfl,?_}}))))};have s26:=s3.trans s6;refine{_,_,_,rfl,rfl,s26 _ _ hF2,szy rfl,fin _ H6 _ _ _ _ s26 ?_ ?_}
  ·rw[è];unfold bf;rw[l1]at Ž;refine{r6,ā,n6,y1,rfl,dg (aj.free s3 Ú) hx,dg (aj.free s3 f6) h6,?_};have:=aJ.same (fX s6) _ _ Ž;push_cast at this⊢
   exact this
  rw[l1,Ò];simp only[O6,OX,P2];push_cast
  lia
theorem Ba(T:Txt K mg A):∀d,T.dB.Hz P w base (d+6) (sC A d)
 |0=>Bw T 0 5 (O4 _) (T.dB.hs (k:=4) aZ (λ_ _ _ _ _ _ _ _ _ _ _ h=>h.elim) (λ_ _ _ _ h=>h.elim))
 |d+1=>Bw T (d+1) (d+6) () (Ba T d)
noncomputable def à(n:Int):List Lr->List Pt
 | []=>[]
 |r::rs=>.leaf n r::à (n+1) rs
noncomputable def Î(n:Int):List De->List Pt
 | []=>[]
 |d::ds=>.bq n d.1 d.2.1 (br (n+1) d.2.2)::Î (n+((Ĉ d).length:Nat)) ds
theorem CT:∀a n b,à n (a++b)=à n a++à (n+(a.length:Nat)) b
 | [],n,b=>by
  rw[Pz,à,Pz];congr 1;simp
 |r::a,n,b=>by
  rw[PZ,à,à,CT a,O6,PZ];congr 3;push_cast
  lia
theorem Bs:∀a n b,Î n (a++b)=Î n a++Î (n+((bE a).length:Nat)) b
 | [],n,b=>by
  rw[Pz,Î,Pz];congr 1;simp[bE]
 |d::a,n,b=>by
  rw[PZ,Î,Î,Bs a,show bE (d::a)=Ĉ d++bE a from rfl,OX,PZ];congr 3;push_cast
  lia
theorem wK:∀a n,(à n a).length=a.length
 | [],n=>rfl
 |r::a,n=>by rw[à,O6,O6,wK a]
theorem su:∀a n,(Î n a).length=a.length
 | [],n=>rfl
 |r::a,n=>by rw[Î,O6,O6,su a]
theorem yK(s:Sm M H H')(hF:∀m∈M,H' m≠YI):∀b,H' b=YI->H b=YI:=λb h=>by
 cases e:H b with
 |none=>rfl
 |some o=>
  by_cases z:b∈M
  ·exact absurd h (hF b z)
  rw[s b o z e]at h;cases h
noncomputable def ď(f:Fr):Bool:=match f with
 | .bq _ _=>true
 | .main=>true
 |_=>false
theorem EM (f):č (V.str f.wd) [V.str "deed",V.str "main"]=ď f:=by
 cases f with
 |leaf r=>cases r<;>rfl
 |_=>rfl
noncomputable def ì(hs:List Lr)(ds:List De):Int:=((hs.length+(bE ds).length:Nat):Int)+2
inductive zg(A:Ö)(vs:List V)(H:Hp)(Q:VK)(Ä:XK):Prop
 |mk (N X L xs hs ds mb) (z0:vs=[.ref L]) (z1:aj X H) (z2:X L=YH (.lst xs)) (z3:ba N X (Ą hs ds mb) xs) (z4:eX hs ds mb) (z7:xs.length<=300)
  (z8:∀(v H'),aj H H'->rK A N H' v (à 1 hs) (Î ((hs.length:Nat)+1) ds) (br (ì hs ds) mb)->Q v H'):zg A vs H Q Ä
inductive El(hs:List Lr)(L:RJ)(F:RJ)(G:RJ)(H2:Hp)(A:Ö)(N:Nat->Str)(X:Hp)(m:Nat)(B:St)(Hc:Hp):Prop
 |mk (dn rest ys):hs=dn++rest->rest.length=m->B=[YH (.ref L),YH (.ref F),YH (.ref G),YH (.int (dn.length:Nat)),YI,YI,YI,YI]->Sm [F,G] H2 Hc->Hc F=YH (.lst ys)->Hc G=YH (.lst [])->aJ A N (ċ X H2 Hc) ys (à 1 dn)->El hs L F G H2 A N X m B Hc
inductive Fe(m:Nat)(hs:List Lr)(L:RJ)(F:RJ)(G:RJ)(H2:Hp)(A:Ö)(N:Nat->Str)(X:Hp)(B:St)(Hc:Hp):Prop
 |mk (dn rest ys m'):m'<m->hs=dn++rest->rest.length=m'->B=[YH (.ref L),YH (.ref F),YH (.ref G),YH (.int (dn.length:Nat)),YI,YI,YI,YI]->Sm [F,G] H2 Hc->Hc F=YH (.lst ys)->Hc G=YH (.lst [])->aJ A N (ċ X H2 Hc) ys (à 1 dn)->Fe m hs L F G H2 A N X B Hc
inductive Gu(ds:List De)(L:RJ)(F:RJ)(G:RJ)(hs:List Lr)(H2:Hp)(ys:List V)(A:Ö)(N:Nat->Str)(X:Hp)(m:Nat)(B:St)(Hc:Hp):Prop
 |mk (dn rest zs v4 v5 v6):ds=dn++rest->rest.length=m->B=[YH (.ref L),YH (.ref F),YH (.ref G),YH (.int ((hs.length+(bE dn).length:Nat):Int)),v4,v5,v6,YI]->Sm [F,G] H2 Hc->Hc F=YH (.lst ys)->Hc G=YH (.lst zs)->aJ A N (ċ X H2 Hc) ys (à 1 hs)->aJ A N (ċ X H2 Hc) zs (Î ((hs.length:Nat)+1) dn)->Gu ds L F G hs H2 ys A N X m B Hc
inductive Eu(m:Nat)(ds:List De)(L:RJ)(F:RJ)(G:RJ)(hs:List Lr)(H2:Hp)(ys:List V)(A:Ö)(N:Nat->Str)(X:Hp)(B:St)(Hc:Hp):Prop
 |mk (dn rest zs v4 v5 v6 m'):m'<m->ds=dn++rest->rest.length=m'->B=[YH (.ref L),YH (.ref F),YH (.ref G),YH (.int ((hs.length+(bE dn).length:Nat):Int)),v4,v5,v6,YI]->Sm [F,G] H2 Hc->Hc F=YH (.lst ys)->Hc G=YH (.lst zs)->aJ A N (ċ X H2 Hc) ys (à 1 hs)->aJ A N (ċ X H2 Hc) zs (Î ((hs.length:Nat)+1) dn)->Eu m ds L F G hs H2 ys A N X B Hc
theorem IJ(T:Txt K mg A):T.mJ.Hz P w base 13 (zg A):=by
 refine T.mJ.hs (k:=12) bx (λf Ã A' outer s H vs Q E hr hu h=>?_);obtain⟨N,X,L,xs,hs,ds,mb,rfl,s0,hL,fr,O,lx,q⟩:=h;have lfs:(Ą hs ds mb).length<=300:=by rw[RT fr];exact lx
 have lfs':hs.length+(bE ds).length+(aA mb).length+2=(Ą hs ds mb).length:=by unfold Ą;simp;lia
 refine⟨_,(ae (Ç 1 bx.nd (aI ab))
  (ae (Ç 2 bx.nd (aI ab))
  (ae (Ç 3 bx.nd af)
  (ae (ir RW (Í (iy hu) (px hu (px hu (fv 0) (fv 3)) af) (aV (aw^aw^ab)) ((by with_unfolding_all rfl)))
   (ae (aR (bB (fv 1) ((ak (hj:=by lia) (CF T) hr (px hu (fv 0) (fv 3)^az aQ (fv 3) af^ab))^ab)))
   (ai (Ç 3 bx.nd (az aQ (fv 3) af)))))
  (ae (ir RW (Í (cn hu) (px hu (px hu (fv 0) (fv 3)) af) aw)
   (ae (Ç 4 bx.nd (az aQ (fv 3) af))
   (ae (bR (ak (hj:=by lia) (Ba T 6) hr (fv 0^az aQ (fv 3) af^ab)) (dj rfl (aN (Ð (i:=5) bx.nd rfl) (aN (Ð (i:=6) bx.nd rfl) cc))))
   (ae (aR (bB (fv 2) ((bZ (hj:=by lia) T.cu (uE T) hr (fv 4^px hu (px hu (fv 0) (fv 3)) af^ĥ sr T.dW (px hu (px hu (fv 0) (fv 3)) af^ab)^fv 5^ab))^ab)))
   (ai (Ç 3 bx.nd (az aQ (fv 6) af)))))))
  (ae (bR (ak (hj:=by lia) (Ba T 6) hr (fv 0^az aQ (fv 3) af^ab)) (dj rfl (aN (Ð (i:=7) bx.nd rfl) (aN (Ð (i:=6) bx.nd rfl) cc))))
  (ai (aD (bZ (hj:=by lia) T.cW (lW T) hr (fv 1^fv 2^fv 7^ab)))))))))),?_⟩
 refine ag λM1 K1=>{Pd _,λF hF=>?_};obtain⟨s1,e1⟩:=É hF (HO.lst []);generalize upd H F _=H1 at s1 e1⊢;refine K1 _ _ ?_;clear K1 M1;try dsimp only
 refine ag λM1 K1=>{Pd _,λG hG=>?_};obtain⟨s2,e2⟩:=É hG (HO.lst []);generalize upd H1 G _=H2 at s2 e2⊢;have XF:X F=YI:=aj.free s0 hF;have XG:X G=YI:=aj.free (s0.trans s1) hG;have GF:G≠F:=YJ hG (e1);have H2F:H2 F≠YI:=by rw[s2 _ _ e1];simp
 have H2G:H2 G≠YI:=by rw[e2];simp
 have Ġ:=s2 _ _ e1;have t2:=s1.trans s2;have fxq:∀{Hc:Hp},Sm [F,G] H2 Hc->aj X Hc:=λsc=>sc.same (s0.trans t2) (λm hm=>by
  simp only[O2,Po,or_false]at hm;rcases hm with rfl|rfl
  ·exact XF
  exact XG)
 have fhq:∀{Hc:Hp},Sm [F,G] H2 Hc->aj H Hc:=λsc=>sc.same t2 (λm hm=>by
  simp only[O2,Po,or_false]at hm;rcases hm with rfl|rfl
  ·exact hF
  exact aj.free s1 hG)
 have mF:F∈[F,G]:=O9;have mG:G∈[F,G]:=O8 _ O9;refine K1 _ _ ?_;clear K1 M1;try dsimp only
 refine ag λM1 K1=>K1 _ _ ?_;clear K1 M1;try dsimp only
 refine ag λM1 K1=>{El hs L F G H2 A N X,{hs.length,[],hs,[],rfl,rfl,rfl,Sm.refl _ _,Ġ,e2,aJ.nil},?_};rintro m B Hc ⟨dn,rest,ys,ehs,em,rfl,sc,Ī,hGc,pt⟩;have sX:=fxq sc;have ĺ:=À.of (K:=K) (sX _ _ hL);cases rest with
 |cons r rest=>
  clear K1;have Ć:Ą hs ds mb=dn.map Fr.leaf++ .leaf r::(rest.map Fr.leaf++bE ds++ .main::(aA mb++[.fin])):=by
   unfold Ą;rw[ehs];simp
  obtain⟨v,av,fv'⟩:=ij fr Ć;rw[OZ]at av;have fv0:=fv';obtain⟨a,p,rfl,ha,hob⟩:=fv';refine ï ĺ av (Ê (j:=0) (È.of (sX _ _ ha)) rfl {by show 2<=sizeLine;decide,λtp ß=>?_});obtain⟨s3,e3⟩:=É ß (HO.tup [V.str "deed",.str "main"]);generalize upd Hc tp _=H3 at s3 e3⊢;refine Pg {_,Qs (È.of e3),rfl,rfl,_,rfl,bg (λ_=>?_) (λz=>absurd (by show(!č (V.str (Fr.leaf r).wd) [V.str "deed",V.str "main"])=true;rw[EM];rfl) z)};refine{Fe m hs L F G H2 A N X,λB Hc ⟨dn,rest,ys,m',ő,h1,h2,h3,h4,h5,h6,h7⟩=>⟨m',ő,dn,rest,ys,h1,h2,h3,h4,h5,h6,h7⟩,?_};have ń:=sX.trans s3;have hF3:=s3 _ _ Ī;try dsimp only
  refine ag λN1 J1=>{Pg {rfl,_,À.of hF3},ï (À.of (ń _ _ hL)) av {N,X,_,_,r,rfl,ń,fv0,λb H4 s4 hb pb=>?_}};have ly:ys.length=dn.length:=by rw[pt.len,wK]
  have ld:dn.length+1<=hs.length:=by rw[ehs];simp
  refine{_,_,_,rfl,rfl,s4 _ _ hF3,aH (),J1 _ _ ?_};have s5:Sm [F,G] H4 (upd H4 F (.lst (ys++[V.ref b]))):=Sm.at mF _;have em':rest.length+1=m:=em;refine{dn++[r],rest,ys++[V.ref b],rest.length,(),by rw[ehs];simp,rfl,?_,(sc.trans (Sm.new (s3.trans s4))).trans s5,ao,au GF ((s3.trans s4) _ _ hGc),?_}
  ·rw[OX,O3];rfl
  rw[CT,à,à,show(1:Int)+(dn.length:Nat)=((dn.length:Nat):Int)+1 by lia];have nb:=yK sc (by
   intro m hm;simp only[O2,Po,or_false]at hm;rcases hm with rfl|rfl
   ·rw[Ī];simp
   rw[hGc];simp)
  exact aJ.snoc (aJ.same (oK XF H2F) _ _ (aJ.same (fX (s3.trans s4)) _ _ pt)) (bf.same (oK XF H2F) _ _ (bf.same (pF λb h=>nb b (aj.free s3 h)) _ _ pb))
 |nil=>
 rw[Pu]at ehs;subst ehs;obtain⟨gf,gtl,egf,hgf⟩:∃gf gtl,bE ds++ .main::(aA mb++[Fr.fin])=gf::gtl/\ď gf=true:=by
  cases ds with
  |nil=>exact{.main,_,rfl,rfl}
  |cons d r=>exact{.bq d.1 d.2.1,_,rfl,rfl}
 have Ć:Ą hs ds mb=hs.map Fr.leaf++gf::gtl:=by
  unfold Ą;rw[Pn,egf]
 obtain⟨v,av,⟨a,p,rfl,ha,hob⟩⟩:=ij fr Ć;rw[OZ]at av;refine ï ĺ av (Ê (j:=0) (È.of (sX _ _ ha)) rfl {by show 2<=sizeLine;decide,λtp ß=>?_});obtain⟨s3,e3⟩:=É ß (HO.tup [V.str "deed",.str "main"]);generalize upd Hc tp _=H3 at s3 e3⊢;refine Pg {_,Qs (È.of e3),rfl,rfl,_,rfl,bg (λz=>absurd z (by show ¬ (!č (V.str gf.wd) [V.str "deed",V.str "main"])=true;rw[EM,hgf];decide)) (λ_=>K1 _ _ ?_)};clear K1 M1;have sc3:=sc.trans (Sm.new s3);have hF3:=s3 _ _ Ī;have hG3:=s3 _ _ hGc;have pt3:=aJ.same (fX s3) _ _ pt;clear pt Ī hGc sc sX ĺ ß e3 av ha hob Ć egf hgf;try dsimp only
 refine ag λM1 K1=>{Gu ds L F G hs H2 ys A N X,{ds.length,[],ds,[],YI,YI,YI,rfl,rfl,rfl,sc3,hF3,hG3,pt3,aJ.nil},?_};clear hF3 hG3 pt3 sc3 s3 m em;clear hG hF;rintro m B Hd ⟨dn,rest,zs,v4,v5,v6,eds,em,rfl,sc,Ī,hGc,pt,pz⟩;have sX:=fxq sc;have ĺ:=À.of (K:=K) (sX _ _ hL);have nb:=yK sc (by
  intro m hm;simp only[O2,Po,or_false]at hm;rcases hm with rfl|rfl
  ·rw[Ī];simp
  rw[hGc];simp)
 cases rest with
 |cons d rest=>
  clear K1;have Ć:Ą hs ds mb=(hs.map Fr.leaf++bE dn)++ .bq d.1 d.2.1::(aA d.2.2++ .fin::(bE rest++ .main::(aA mb++[.fin]))):=by
   unfold Ą bE;rw[eds];simp[Ĉ]
  have efs2:Ą hs ds mb=(hs.map Fr.leaf++bE dn++[.bq d.1 d.2.1])++aA d.2.2++ .fin::(bE rest++ .main::(aA mb++[.fin])):=by
   rw[Ć];simp
  have l2:(hs.map Fr.leaf++bE dn++[Fr.bq d.1 d.2.1]).length=hs.length+(bE dn).length+1:=by simp only[OX,OZ,O3]
  obtain⟨v,av,fv'⟩:=ij fr Ć;rw[OX,OZ]at av;obtain⟨a,p,rfl,ha,hob⟩:=fv';have hp:=hob _ rfl;refine ï ĺ av (Ê (j:=0) (È.of (sX _ _ ha)) rfl {rfl,_,rfl,bg (λ_=>?_) (λz=>absurd (show decide (V.str "deed"=V.str "deed")=true from decide_eq_true rfl) z)});refine{Eu m ds L F G hs H2 ys A N X,λB Hc ⟨dn,rest,ys,v4,v5,v6,m',ő,h1,h2,h3,h4,h5,h6,h7,h8⟩=>⟨m',ő,dn,rest,ys,v4,v5,v6,h1,h2,h3,h4,h5,h6,h7,h8⟩,?_};have dpd:cF d.2.2<=6:=by
   have:=O.de.at' dn.length d (by rw[eds,PU (O4 _),Qn];rfl);exact this.2.2.2.1
  try dsimp only
  refine ag λN1 J1=>J1 _ _ ?_;clear J1 N1;try dsimp only
  refine ag λN1 J1=>{N,X,L,xs,_,_,_,d.2.2,.fin,by rw[l2];push_cast;rfl,sX,hL,fr,efs2,rfl,dpd,lx,λp1 R1 y1 H4 s4 ľ eR1 Ž=>{p1,_,rfl,È.of ľ,rfl,_,_,rfl,_,_,rfl,rfl,J1 _ _ ?_}};clear J1 N1;have sX4:=sX.trans s4;have hL4:=À.of (K:=K) (sX4 _ _ hL);have hT4:=È.of (K:=K) (sX4 _ _ ha);try dsimp only
  refine ag λN1 J1=>{Pg {rfl,_,À.of (s4 _ _ hGc)},ï hL4 av (Ê (j:=1) hT4 rfl (ï hL4 av (Ê (j:=2) hT4 rfl (Pg {p,_,rfl,Pg (À.of (sX4 _ _ hp)),λl hl=>?_}))))};obtain⟨s5,e5⟩:=É hl (HO.lst (nV N d.2.1));generalize upd H4 l _=H5 at s5 e5⊢;refine λr6 ā Ú hd_ hne_=>{_,_,_,_,_,_,_,_,_,rfl,rfl,Ú,hd_,À.of e5,À.of (s5 _ _ eR1),λn6 n7 H6 f6 f7 s6 h6 h7 hx=>{rfl,?_}};have s36:=s4.trans (s5.trans s6);have lz:zs.length=dn.length:=by rw[pz.len,su]
  have ld:dn.length<=3:=by
   have:=O.dl;rw[eds,OX]at this;lia
  refine{_,_,_,rfl,rfl,s36 _ _ hGc,aH (),J1 _ _ ?_};have s7:Sm [F,G] H6 (upd H6 G (.lst (zs++[V.ref r6]))):=Sm.at mG _;have em':rest.length+1=m:=em;have sn:aj Hd H4:=s4;refine{dn++[d],rest,zs++[V.ref r6],YH (.int (((hs.length+(bE dn).length:Nat):Int)+1)),YH (.ref R1),YH (.int (((hs.map Fr.leaf++bE dn++[Fr.bq d.1 d.2.1]).length+(aA d.2.2).length:Nat):Int)),rest.length,(),by rw[eds];simp,rfl,?_,(sc.trans (Sm.new s36)).trans s7,au (Pr GF) (s36 _ _ Ī),ao,aJ.same (oK XG H2G) _ _ (aJ.same (fX s36) _ _ pt),?_}
  ·have:(((hs.map Fr.leaf++bE dn++[Fr.bq d.1 d.2.1]).length+(aA d.2.2).length:Nat):Int)+1=((hs.length+(bE (dn++[d])).length:Nat):Int):=by
    rw[l2];unfold bE;rw[Qj,OX];simp[Ĉ];lia
   rw[<-this];rfl
  rw[Bs,Î,Î];refine aJ.snoc (aJ.same (oK XG H2G) _ _ (aJ.same (fX s36) _ _ pz)) (bf.same (oK XG H2G) _ _ (bf.same (pF nb) _ _ (X:=ċ X Hd H6) ?_));unfold bf;rw[l2]at Ž;have e9:(((hs.length:Nat):Int)+1+((bE dn).length:Nat))=((hs.length+(bE dn).length:Nat):Int)+1:=by push_cast;lia
  rw[e9];refine{r6,ā,n6,n7,y1,rfl,dg (aj.free (s4.trans s5) Ú) hx,dg (aj.free (s4.trans s5) f6) h6,dg (aj.free (s4.trans s5) f7) h7,?_};have:=aJ.same (fX (s5.trans s6)) _ _ Ž;push_cast at this⊢
  exact this
 |nil=>
 rw[Pu]at eds;subst eds;have Ć:Ą hs ds mb=(hs.map Fr.leaf++bE ds)++ .main::(aA mb++[.fin]):=rfl;have efs2:Ą hs ds mb=(hs.map Fr.leaf++bE ds++[.main])++aA mb++ .fin::[]:=by
  rw[Ć];simp
 have l2:(hs.map Fr.leaf++bE ds++[Fr.main]).length=hs.length+(bE ds).length+1:=by simp only[OX,OZ,O3]
 obtain⟨v,av,⟨a,p,rfl,ha,hob⟩⟩:=ij fr Ć;rw[OX,OZ]at av;refine ï ĺ av (Ê (j:=0) (È.of (sX _ _ ha)) rfl {rfl,_,rfl,bg (λz=>absurd z (show ¬ decide (V.str "main"=V.str "deed")=true by decide)) (λ_=>K1 _ _ ?_)});clear K1 M1;try dsimp only
 refine ag λM1 K1=>{N,X,L,xs,_,_,_,mb,.fin,by rw[l2];push_cast;rfl,sX,hL,fr,efs2,rfl,O.md,lx,λp1 R1 y1 H4 s4 ľ eR1 Ž=>{p1,_,rfl,È.of ľ,rfl,_,_,rfl,_,_,rfl,rfl,K1 _ _ ?_}};clear K1 M1;try dsimp only
 refine λr6 ā Ú hd_ hne_=>{_,_,_,_,_,_,_,_,_,rfl,rfl,Ú,hd_,À.of (s4 _ _ Ī),À.of (s4 _ _ hGc),À.of eR1,λn6 n7 n8 H6 f6 f7 f8 s6 h6 h7 h8 hx=>{rfl,q _ H6 ((fhq sc).trans (s4.trans s6)) ?_}};rw[l2]at Ž;refine{r6,ā,n6,n7,n8,_,_,_,rfl,hx,h6,h7,h8,aJ.same (yf.trans (s4.trans s6)) _ _ pt,aJ.same (yf.trans (s4.trans s6)) _ _ pz,?_};have:=aJ.same (yf.trans s6) _ _ Ž;unfold ì;push_cast at this⊢
 rw[show(↑hs.length+ ↑(bE ds).length+2:Int)=↑hs.length+ ↑(bE ds).length+1+1 by lia];exact this
noncomputable def isB:Fr->Bool
 | .leaf r=>decide (5<=r.ci)
 | .iff _ _ _=>true
 | .loop _ _ _ _=>true
 |_=>false
noncomputable def Ŏ(N:Nat->Str)(s:List (Option Str))(n:Int):Fr->List (Option Str)
 | .bq i _=>[YH (N i)]
 | .main=>[YI]
 | .fin=>s.tail
 | .iff _ _ _=>YH (aU n)::s
 | .loop _ _ _ _=>YH (aU n)::s
 |_=>s
noncomputable def Kh(l:List Str)(n:Int):Fr->List Str
 | .loop _ _ _ _=>aU n::l
 | .iff _ _ _=>R7::l
 | .fin=>l.tail
 |_=>l
noncomputable def lpO(l:List Str):Option Str:=l.find? λx=>decide (x≠R7)
noncomputable abbrev En:=Fr×Int×Option Str×Str
noncomputable def bP(N:Nat->Str):List (Option Str)->List Str->Int->List Fr->List En
 |_,_,_,[]=>[]
 |s,l,n,f::fs=>(if isB f=true then[(f,n,s.headD YI,(lpO l).getD R7)]else[])++bP N (Ŏ N s n f) (Kh l n f) (n+1) fs
noncomputable def gd(N:Nat->Str):List (Option Str)->Int->List Fr->Prop
 |_,_,[]=>True
 |s,n,f::fs=>((isB f=true\/f=.fin)->s≠[])/\gd N (Ŏ N s n f) (n+1) fs
noncomputable def frP:Pt->Fr
 | .leaf _ r=>.leaf r
 | .iff _ v l r _ _=>.iff v l r
 | .loop _ t m l r _=>.loop t m l r
 | .bq _ i ps _=>.bq i ps
noncomputable def eF(e:Le):En:=(frP e.1,e.1.no,e.2.1,e.2.2.getD R7)
theorem G9 (n):4<=(aU n).length:=by
 unfold aU;rw[je,je];exact Pf (show 4<=(Str.empty.length+("row ":Str).length) by decide) (Ql _ _)
theorem LX (n):aU n≠R7:=λe=>by
 have:=G9 n;rw[e]at this;exact absurd this ∅
theorem IS (n l):lpO (aU n::l)=YH (aU n):=by
 unfold lpO;rw[Qf,decide_eq_true (LX n)]
theorem J4 (l):lpO (R7::l)=lpO l:=by
 unfold lpO;rw[Qf,decide_eq_false λz=>z rfl]
theorem Od(h:A6 ps dd lp r):isB (.leaf r)=true:=by
 cases r<;>first|rfl|exact h.elim
theorem F6:bD pl lp (t::ts)=(t,pl,lp)::(dm lp t++bD pl lp ts):=by rw[bD]
mutual
theorem Me:∀(t:Tr)(lp:Bool)(pl:Option Str)(s:List (Option Str))(l:List Str)(n:Int)(rest:List Fr),é ps dd lp t->
  bP N (pl::s) l n (Ò t++rest)=((è n t,pl,lpO l)::dm (lpO l) (è n t)).map eF++bP N (pl::s) l (n+((Ò t).length:Nat)) rest
 | .leaf r,lp,pl,s,l,n,rest,ok=>by
  rw[é]at ok;rw[Ò,è,dm];show bP N _ _ _ (.leaf r::rest)=_;rw[bP,if_pos (Od ok)];rfl
 | .iff v a b f o,lp,pl,s,l,n,rest,ok=>by
  rw[é]at ok;rw[Ò,è,dm];have e:(Fr.iff v a b::(aA f++ .Ā::(aA o++[.fin])))++rest=.iff v a b::(aA f++(.Ā::(aA o++(.fin::rest)))):=by simp
  rw[e,bP,if_pos (show isB _=true from rfl)];have h1:=kM f lp (YH (aU n)) (pl::s) (R7::l) (n+1) (.Ā::(aA o++(.fin::rest))) ok.2.1;have h2:=kM o lp (YH (aU n)) (pl::s) (R7::l) (n+1+((aA f).length:Nat)+1) (.fin::rest) ok.2.2;rw[J4]at h1 h2;show _++bP N (YH (aU n)::pl::s) (R7::l) (n+1) _=_;rw[h1,bP,if_neg ∅];show _++(_++([]++bP N (YH (aU n)::pl::s) (R7::l) _ _))=_;rw[h2,bP,if_neg ∅];show _++(_++([]++(_++([]++bP N (pl::s) l _ rest))))=_;rw[show n+2+((aA f).length:Nat)=n+1+((aA f).length:Nat)+1 by lia,O6,OX,O6,OX,O3];rw[show n+1+((aA f).length:Nat)+1+((aA o).length:Nat)+1=n+(((aA f).length+((aA o).length+1+1)+1:Nat):Int) by push_cast;lia];rw[Pm,PB];simp only[Pz,Pn,PZ];rfl
 | .loop t m a b c,lp,pl,s,l,n,rest,ok=>by
  rw[é]at ok;rw[Ò,è,dm];have e:(Fr.loop t m a b::(aA c++[.fin]))++rest=.loop t m a b::(aA c++(.fin::rest)):=by simp
  rw[e,bP,if_pos (show isB _=true from rfl)];have h1:=kM c true (YH (aU n)) (pl::s) (aU n::l) (n+1) (.fin::rest) ok.2.2.2;rw[IS]at h1;show _++bP N (YH (aU n)::pl::s) (aU n::l) (n+1) _=_;rw[h1,bP,if_neg ∅];show _++(_++([]++bP N (pl::s) l _ rest))=_;rw[O6,OX,O3,show n+1+((aA c).length:Nat)+1=n+(((aA c).length+1+1:Nat):Int) by push_cast;lia,Pm];simp only[Pz,Pn,PZ];rfl
theorem kM:∀(ts:List Tr)(lp:Bool)(pl:Option Str)(s:List (Option Str))(l:List Str)(n:Int)(rest:List Fr),cQ ps dd lp ts->
  bP N (pl::s) l n (aA ts++rest)=(bD pl (lpO l) (br n ts)).map eF++bP N (pl::s) l (n+((aA ts).length:Nat)) rest
 | [],lp,pl,s,l,n,rest,ok=>by
  rw[aA,br,bD];simp
 |t::ts,lp,pl,s,l,n,rest,ok=>by
  rw[cQ]at ok;rw[aA,br,F6,Pn,Me t lp pl s l n _ ok.1,kM ts lp pl s l _ rest ok.2,OX];rw[show n+((Ò t).length:Nat)+((aA ts).length:Nat)=n+(((Ò t).length+(aA ts).length:Nat):Int) by push_cast;lia];simp only[Pm,PB,Pn,PZ]
end
mutual
theorem N9:∀(t:Tr)(pl:Option Str)(s:List (Option Str))(n:Int)(rest:List Fr),gd N (pl::s) (n+((Ò t).length:Nat)) rest->gd N (pl::s) n (Ò t++rest)
 | .leaf r,pl,s,n,rest,h=>by
  rw[Ò]at h⊢;show gd N _ _ (.leaf r::rest);exact{λ_ z=>(by cases z),h}
 | .iff v a b f o,pl,s,n,rest,h=>by
  rw[Ò]at h⊢;have e:(Fr.iff v a b::(aA f++ .Ā::(aA o++[.fin])))++rest=.iff v a b::(aA f++(.Ā::(aA o++(.fin::rest)))):=by simp
  rw[e];refine{λ_ z=>(by cases z),vz f (YH (aU n)) (pl::s) (n+1) _ {λ_ z=>(by cases z),vz o (YH (aU n)) (pl::s) _ _ {λ_ z=>(by cases z),?_}}};rw[O6,OX,O6,OX,O3,show n+(((aA f).length+((aA o).length+1+1)+1:Nat):Int)=n+1+((aA f).length:Nat)+1+((aA o).length:Nat)+1 by push_cast;lia]at h;exact h
 | .loop t m a b c,pl,s,n,rest,h=>by
  rw[Ò]at h⊢;have e:(Fr.loop t m a b::(aA c++[.fin]))++rest=.loop t m a b::(aA c++(.fin::rest)):=by simp
  rw[e];refine{λ_ z=>(by cases z),vz c (YH (aU n)) (pl::s) (n+1) _ {λ_ z=>(by cases z),?_}};rw[O6,OX,O3,show n+(((aA c).length+1+1:Nat):Int)=n+1+((aA c).length:Nat)+1 by push_cast;lia]at h;exact h
theorem vz:∀(ts:List Tr)(pl:Option Str)(s:List (Option Str))(n:Int)(rest:List Fr),gd N (pl::s) (n+((aA ts).length:Nat)) rest->gd N (pl::s) n (aA ts++rest)
 | [],pl,s,n,rest,h=>by
  rw[aA]at h⊢;simpa using h
 |t::ts,pl,s,n,rest,h=>by
  rw[aA]at h⊢;rw[Pn];refine N9 t pl s n _ (vz ts pl s _ rest ?_);rw[OX,show n+(((Ò t).length+(aA ts).length:Nat):Int)=n+((Ò t).length:Nat)+((aA ts).length:Nat) by push_cast;lia]at h;exact h
end
theorem CC:∀(hs:List Lr)(n:Int)(rest:List Fr),(∀r∈hs,r.ci<5)->bP N [] [] n (hs.map Fr.leaf++rest)=bP N [] [] (n+(hs.length:Nat)) rest/\(gd N [] (n+(hs.length:Nat)) rest->gd N [] n (hs.map Fr.leaf++rest))
 | [],n,rest,_=>by simp
 |r::hs,n,rest,h=>by
  have c:=h r O9;have nb:¬ isB (.leaf r)=true:=λz=>by
   have:5<=r.ci:=of_decide_eq_true z;lia
  obtain⟨h1,h2⟩:=CC hs (n+1) rest λr hr=>h r (O8 _ hr);have e:n+((r::hs).length:Nat)=n+1+(hs.length:Nat):=by rw[O6];push_cast;lia
  rw[e];refine{?_,λg=>{λz=>?_,h2 g}}
  ·rw[Pm,PZ,bP,if_neg nb,Pz,<-h1];rfl
  rcases z with z|z
  ·exact absurd z nb
  cases z
theorem CW(ddA:List De->List (Nat×Nat)):∀ds n rest,(∀d∈ds,∃dd,cQ d.2.1 dd false d.2.2)->
  bP N [] [] n (bE ds++rest)=(fe N (Î n ds)).map eF++bP N [] [] (n+((bE ds).length:Nat)) rest/\(gd N [] (n+((bE ds).length:Nat)) rest->gd N [] n (bE ds++rest))
 | [],n,rest,_=>by simp[bE,Î,fe]
 |d::ds,n,rest,h=>by
  obtain⟨dd,ok⟩:=h d O9;obtain⟨h1,h2⟩:=CW ddA ds (n+((Ĉ d).length:Nat)) rest λd hd=>h d (O8 _ hd);have e:bE (d::ds)++rest=.bq d.1 d.2.1::(aA d.2.2++(.fin::(bE ds++rest))):=by
   show Ĉ d++bE ds++rest=_;simp[Ĉ]
  have el:n+((bE (d::ds)).length:Nat)=n+((Ĉ d).length:Nat)+((bE ds).length:Nat):=by
   show n+((Ĉ d++bE ds).length:Nat)=_;rw[OX];push_cast
   lia
  have ef:n+1+((aA d.2.2).length:Nat)+1=n+((Ĉ d).length:Nat):=by
   unfold Ĉ;rw[O6,OX,O3];push_cast
   lia
  rw[e,el];constructor
  ·rw[bP,if_neg (by show ¬ false=true;decide)];show[]++bP N (YH (N d.1)::[]) [] (n+1) _=_;rw[kM d.2.2 false (YH (N d.1)) [] [] (n+1) _ ok,bP,if_neg ∅];show[]++(_++([]++bP N [] [] (n+1+((aA d.2.2).length:Nat)+1) (bE ds++rest)))=_;rw[ef,h1,Î];show _=List.map eF (bD (YH (N d.1)) YI (br (n+1) d.2.2)++fe N (Î _ ds))++_;rw[PB];simp only[Pz,Pn];rfl
  intro g;refine{λz=>?_,?_}
  ·rcases z with z|z<;>cases z
  show gd N (YH (N d.1)::[]) (n+1) _;refine vz d.2.2 _ _ _ _ {λ_ z=>(by cases z),?_};show gd N [] (n+1+((aA d.2.2).length:Nat)+1) (bE ds++rest);rw[ef];exact h2 g
theorem Fd(O:eX hs ds mb):bP N [] [] 1 (Ą hs ds mb)=(b4 N (Î ((hs.length:Nat)+1) ds) (br (ì hs ds) mb)).map eF/\gd N [] 1 (Ą hs ds mb):=by
 have hd:∀r∈hs,r.ci<5:=by
  obtain⟨rk,z,t,rfl,_⟩:=O.hd;intro r hr;have hr:r∈oJ rk z:=by
   unfold rb at hr;rcases O5.mp hr with h|h
   ·exact QX h
   exact Qo h
  unfold oJ at hr;simp only[O2,Po,or_false]at hr;rcases hr with rfl|rfl|rfl|rfl|rfl|rfl|rfl|rfl|rfl|rfl|rfl<;>simp[Lr.ci]
 have okd:∀d∈ds,∃dd,cQ d.2.1 dd false d.2.2:=λd m=>by
  obtain⟨k,hk⟩:=Py m;exact{_,(O.de.at' k d hk).2.2.1}
 have e:Ą hs ds mb=hs.map Fr.leaf++(bE ds++(.main::(aA mb++(.fin::[])))):=by
  unfold Ą;simp
 obtain⟨a1,a2⟩:=CC (N:=N) hs 1 (bE ds++(.main::(aA mb++(.fin::[])))) hd;obtain⟨b1,b2⟩:=CW (N:=N) i8 ds (1+(hs.length:Nat)) (.main::(aA mb++(.fin::[]))) okd;have en:(1:Int)+(hs.length:Nat)=(hs.length:Nat)+1:=()
 have em:(1:Int)+(hs.length:Nat)+((bE ds).length:Nat)+1=ì hs ds:=by unfold ì;push_cast;lia
 rw[e];constructor
 ·rw[a1,b1,bP,if_neg ∅];show _++([]++bP N (YI::[]) [] _ _)=_;rw[em,kM mb false YI [] [] _ _ O.mo,bP,if_neg ∅];show _++([]++(_++([]++bP N [] [] _ [])))=_;rw[bP,en];unfold b4;rw[PB];simp only[Pz,Pu];rfl
 refine a2 (b2 {λz=>?_,?_})
 ·rcases z with z|z<;>cases z
 show gd N (YI::[]) _ _;exact vz mb _ _ _ _ {λ_ z=>(by cases z),trivial}
mutual
theorem Jq:∀(t:Tr)(n:Int),dep (è n t)=Ă t
 | .leaf r,n=>by rw[è,dep,Ă]
 | .iff v a c f o,n=>by rw[è,dep,Ă,oY f,oY o]
 | .loop t m a c d,n=>by rw[è,dep,Ă,oY d]
theorem oY:∀(ts:List Tr)(n:Int),lH (br n ts)=cF ts
 | [],n=>by rw[br,lH,cF]
 |t::ts,n=>by rw[br,lH,cF,Jq t,oY ts]
end
theorem vZ (N):∀fs s l n,(bP N s l n fs).length<=fs.length
 | [],s,l,n=>by rw[bP];exact O4 _
 |f::fs,s,l,n=>by
  have h:=vZ N fs (Ŏ N s n f) (Kh l n f) (n+1);rw[bP,OX,O6];have:(if isB f=true then[(f,n,s.headD YI,(lpO l).getD R7)]else[]).length<=1:=by split<;>simp
  lia
theorem pv(ok:cQ ps dd b ts) (pl n):(bD pl YI (br n ts)).length<=(aA ts).length:=by
 have h:=kM (N:=λ_=>R7) ts b pl [] [] n [] ok;have h2:=vZ (λ_=>R7) (aA ts++[]) [pl] [] n;rw[h,bP,Pu,OZ,Pu]at h2;exact h2
theorem dP:∀{ds:List De}{n:Int}{k:Nat}{p:Pt},(Î n ds)[k]?=YH p->∃d n',ds[k]?=YH d/\n<=n'/\n'+((Ĉ d).length:Nat)<=n+((bE ds).length:Nat)/\p=.bq n' d.1 d.2.1 (br (n'+1) d.2.2)
 | [],n,k,p,h=>by rw[Î]at h;simp at h
 |d::ds,n,0,p,h=>by
  rw[Î]at h;cases h;refine{d,n,rfl,Rl _,?_,rfl};show _<=n+(((Ĉ d++bE ds).length:Nat):Int);rw[OX];push_cast
  lia
 |d::ds,n,k+1,p,h=>by
  rw[Î]at h;obtain⟨d',n',h1,h2,h3,h4⟩:=dP (ds:=ds) (k:=k) h;refine{d',n',h1,(),?_,h4};show _<=n+(((Ĉ d++bE ds).length:Nat):Int);rw[OX];push_cast
  push_cast at h3
  lia
theorem yN:∀ds n k,(Î n ds).take k=Î n (ds.take k)
 | [],n,k=>by simp[Î]
 |d::ds,n,0=>by simp[Î]
 |d::ds,n,k+1=>by rw[Î,Wx,Wx,Î,yN ds]
theorem xN:∀ds n,(Î n ds).map (ù N)=ds.map λd=>N d.1
 | [],n=>rfl
 |d::ds,n=>by rw[Î,Pm,Pm,xN ds];rfl
theorem Aj:Ğ k<24:=by unfold Ğ;split;decide;split<;>decide
theorem HL(hi:i<3)(hj:j<3)(h:Ğ i=Ğ j):i=j:=by
 rcases DT hi with rfl|rfl|rfl<;>rcases DT hj with rfl|rfl|rfl<;>first|rfl|exact absurd h ∅
theorem L7(h:n<ţ k):(Ě k n).length<=4:=by
 unfold Ě;rw[OZ,Qi];unfold ţ at h;split at h
 ·lia
 split at h<;>lia
theorem AM{α β:Type}{f:α->β}{l:List α}(h:l.Nodup)(i:∀x∈l,∀y∈l,f x=f y->x=y):(l.map f).Nodup:=by
 induction l with
 |nil=>exact Q7
 |cons x r ih=>
  rw[P1]at h;rw[Pm,P1];refine{λm=>?_,ih h.2 λa ha b hb=>i a (O8 _ ha) b (O8 _ hb)};obtain⟨y,my,e⟩:=Pb.mp m;have:=i y (O8 _ my) x O9 e;exact h.1 (this▸my)
theorem eX.ix(O:eX hs ds mb):∃n0 n1 n2,∃t0 t1 t2,ds=[(9,Ě 0 n0,t0),(10,Ě 1 n1,t1),(21,Ě 2 n2,t2)]:=by
 have dl:=O.dl;match ds,dl with
 | [a,b,c],_=>
  have h0:=O.de.at' 0 a rfl;have h1:=O.de.at' 1 b rfl;have h2:=O.de.at' 2 c rfl;obtain⟨e0,⟨n0,_,p0⟩,_⟩:=h0;obtain⟨e1,⟨n1,_,p1⟩,_⟩:=h1;obtain⟨e2,⟨n2,_,p2⟩,_⟩:=h2;refine{n0,n1,n2,a.2.2,b.2.2,c.2.2,?_};rw[<-p0,<-p1,<-p2,show(9:Nat)=Ğ 0 from rfl,show(10:Nat)=Ğ 1 from rfl,show(21:Nat)=Ğ 2 from rfl,<-e0,<-e1,<-e2]
theorem JI(nm:ko N)(O:eX hs ds mb):(ds.map λd=>N d.1).Nodup:=by
 obtain⟨n0,n1,n2,t0,t1,t2,rfl⟩:=O.ix;show([9,10,21].map N).Nodup;refine AM ∅ λx hx y hy e=>nm.inj x y ?_ ?_ e
 ·simp only[O2,Po,or_false]at hx;lia
 simp only[O2,Po,or_false]at hy;lia
theorem yY(O:eX hs ds mb)(m:d∈ds):d.2.1.length<=4:=by
 obtain⟨k,hk⟩:=Py m;obtain⟨_,⟨n,hn,e⟩,_⟩:=O.de.at' k d hk;rw[e];exact L7 hn
theorem xv(O:eX hs ds mb):hs.length=11/\(bE ds).length<=57/\(aA mb).length<=48:=by
 refine{?_,?_,O.ml}
 ·obtain⟨rk,z,t,rfl,_,_,_,ht⟩:=O.hd;unfold rb;rw[OX,Qu,PV,show(oJ rk z).length=11 from rfl];lia
 have dl:=O.dl;match ds,dl with
 | [a,b,c],_=>
  have h0:=(O.de.at' 0 a rfl).2.2.2.2;have h1:=(O.de.at' 1 b rfl).2.2.2.2;have h2:=(O.de.at' 2 c rfl).2.2.2.2;show(Ĉ a++(Ĉ b++(Ĉ c++[]))).length<=57;unfold Ĉ;simp only[OX,O6,P2];lia
theorem xC(O:eX hs ds mb):(b4 N (Î ((hs.length:Nat)+1) ds) (br (ì hs ds) mb)).length<=99:=by
 unfold b4;rw[OX];have h1:=pv O.mo YI (ì hs ds);have h2:=O.ml;have h3:(fe N (Î ((hs.length:Nat)+1) ds)).length<=51:=by
  generalize ((hs.length:Nat):Int)+1=n;have dl:=O.dl;match ds,dl with
  | [a,b,c],_=>
   obtain⟨_,_,o0,_,h0⟩:=O.de.at' 0 a rfl;obtain⟨_,_,o1,_,h1⟩:=O.de.at' 1 b rfl;obtain⟨_,_,o2,_,h2⟩:=O.de.at' 2 c rfl;rw[Î,Î,Î,Î];show(bD (YH (N a.1)) YI (br _ a.2.2)++(bD (YH (N b.1)) YI (br _ b.2.2)++(bD (YH (N c.1)) YI (br _ c.2.2)++[]))).length<=51;simp only[OX,P2];have:=pv o0 (YH (N a.1)) (n+1);have:=pv o1 (YH (N b.1)) (n+((Ĉ a).length:Nat)+1);have:=pv o2 (YH (N c.1)) (n+((Ĉ a).length:Nat)+((Ĉ b).length:Nat)+1);lia
 lia
noncomputable def Ma(ps:List Nat)(dd:List (Nat×Nat)):Fr->Prop
 | .leaf r=>∃lp,A6 ps dd lp r
 | .bq _ _=>False
 | .main=>False
 |_=>True
mutual
theorem N6:∀(t:Tr)(b:Bool),é ps dd b t->∀f∈Ò t,Ma ps dd f
 | .leaf r,b,ok=>by
  rw[é]at ok;rw[Ò];intro f hf;rw[OY.mp hf];exact⟨b,ok⟩
 | .iff v a c f o,b,ok=>by
  rw[é]at ok;rw[Ò];intro e he;rcases O2.mp he with rfl|he
  ·trivial
  rcases O5.mp he with he|he
  ·exact vy f b ok.2.1 e he
  rcases O2.mp he with rfl|he
  ·trivial
  rcases O5.mp he with he|he
  ·exact vy o b ok.2.2 e he
  rw[OY.mp he];trivial
 | .loop t m a c d,b,ok=>by
  rw[é]at ok;rw[Ò];intro e he;rcases O2.mp he with rfl|he
  ·trivial
  rcases O5.mp he with he|he
  ·exact vy d true ok.2.2.2 e he
  rw[OY.mp he];trivial
theorem vy:∀(ts:List Tr)(b:Bool),cQ ps dd b ts->∀f∈aA ts,Ma ps dd f
 | [],b,ok=>by
  rw[aA];intro f hf;cases hf
 |t::ts,b,ok=>by
  rw[cQ]at ok;rw[aA];intro f hf;rcases O5.mp hf with hf|hf
  ·exact N6 t b ok.1 f hf
  exact vy ts b ok.2 f hf
end
theorem Kt(nm:ko N)(hx:x<24)(h0:0<=n)(h1:n<=1000):N x≠aU n:=λe=>by
 have h:32∈(aU n).cps.toList:=by
  unfold aU;show 32∈(((R7++("row ":Str)).cps++(Ug (toString n)).cps)).toList;rw[PC];exact Ph _ ∅
 rw[<-e]at h;have:=(nm.ch x hx 32 h).1;lia
theorem yo:∀fs s l n,(bP N s l n fs).Pairwise (λa b=>a.2.1<b.2.1)/\∀e∈bP N s l n fs,n<=e.2.1/\e.2.1<n+(fs.length:Nat)
 | [],s,l,n=>{Xj,λe h=>by cases h}
 |f::fs,s,l,n=>by
  obtain⟨h1,h2⟩:=yo fs (Ŏ N s n f) (Kh l n f) (n+1);rw[bP,O6];split
  ·refine{List.pairwise_append.mpr {List.pairwise_singleton _ _,h1,λa ha b hb=>?_},λe he=>?_}
   ·rw[OY.mp ha];have:=(h2 b hb).1;show n<b.2.1;lia
   rcases O5.mp he with he|he
   ·rw[OY.mp he];exact{Rl _,by show n<_;lia}
   have:=h2 e he;lia
  exact{h1,λe he=>by have:=h2 e he;lia}
theorem w6(O:eX hs ds mb):(Ą hs ds mb).length<=118:=by
 obtain⟨l1,l2,l3⟩:=xv O;unfold Ą;rw[OX,OX,OZ,O6,OX,O3];lia
theorem JQ(O:eX hs ds mb):(b4 N (Î ((hs.length:Nat)+1) ds) (br (ì hs ds) mb)).Pairwise (λa b=>a.1.no<b.1.no)/\∀e∈b4 N (Î ((hs.length:Nat)+1) ds) (br (ì hs ds) mb),1<=e.1.no/\e.1.no<=300:=by
 obtain⟨b1,_⟩:=Fd (N:=N) O;obtain⟨h1,h2⟩:=yo (N:=N) (Ą hs ds mb) [] [] 1;rw[b1]at h1 h2;rw[QG]at h1;have l:=w6 O;refine{h1,λe he=>?_};have:1<=e.1.no/\e.1.no<1+((Ą hs ds mb).length:Nat):=h2 (eF e) (P0 he);lia
noncomputable def ixH:Lr->List Nat
 | .Ŋ i _ _=>[i]
 | .own i _=>[i]
 | .lt i _=>[i]
 |_=>[]
noncomputable def Ņ(hs:List Lr)(ds:List De):List Nat:=hs.flatMap ixH++ds.flatMap λd=>d.1::d.2.1
theorem JO:∀hs n,(à n hs).filterMap (Ň N)=(hs.flatMap ixH).map N
 | [],n=>by simp[à]
 |r::hs,n=>by
  rw[à,Qr,P5,PB,<-JO hs (n+1)];cases r<;>rfl
theorem JF:∀ds n,((Î n ds).flatMap λp=>ù N p::ŋ N p)=(ds.flatMap λd=>d.1::d.2.1).map N
 | [],n=>by simp[Î]
 |d::ds,n=>by
  rw[Î,P5,P5,PB,<-JF ds];rfl
theorem KU:∀n0,n0<5->∀n1,n1<5->∀n2,n2<3->([1,2,3,4,5,6,7,19,20]++((9::Ě 0 n0)++((10::Ě 1 n1)++((21::Ě 2 n2)++[])))).Nodup/\∀i∈[1,2,3,4,5,6,7,19,20]++((9::Ě 0 n0)++((10::Ě 1 n1)++((21::Ě 2 n2)++[]))),i<24:=∅
theorem AR(O:eX hs ds mb):(Ņ hs ds).Nodup/\(∀i∈Ņ hs ds,i<24)/\(Ņ hs ds).length<=22:=by
 obtain⟨rk,z,t,e1,_⟩:=O.hd;have ed:∃n0 n1 n2,n0<5/\n1<5/\n2<3/\(ds.flatMap λd=>d.1::d.2.1)=(9::Ě 0 n0)++((10::Ě 1 n1)++((21::Ě 2 n2)++[])):=by
  have hl:=O.dl;match ds,hl,O.de with
  | [a,b,c],_,de=>
   obtain⟨a1,⟨n0,h0,a2⟩,_⟩:=de.at' 0 a rfl;obtain⟨b1,⟨n1,h1,b2⟩,_⟩:=de.at' 1 b rfl;obtain⟨c1,⟨n2,h2,c2⟩,_⟩:=de.at' 2 c rfl;refine{n0,n1,n2,h0,h1,h2,?_};rw[P5,P5,P5,a1,a2,b1,b2,c1,c2];rfl
 obtain⟨n0,n1,n2,h0,h1,h2,ed⟩:=ed;have pm:(Ņ hs ds).Perm ([1,2,3,4,5,6,7,19,20]++((9::Ě 0 n0)++((10::Ě 1 n1)++((21::Ě 2 n2)++[])))):=by
  unfold Ņ;rw[ed];refine T2 _ ?_;rw[e1];unfold rb;have:(oJ rk z).flatMap ixH=[1,2,3,4,5,6,7,19,20]:=rfl;rw[<-this];refine VC _ (Qk.trans ?_);rw[PQ]
 obtain⟨d1,d2⟩:=KU n0 h0 n1 h1 n2 h2;refine{pm.nodup_iff.mpr d1,λi hi=>d2 i (pm.mem_iff.mp hi),?_};rw[pm.length_eq];simp[Ě];lia
theorem nN (ms n):aT N (à 1 hs) (Î n ds) ms=(Ņ hs ds).map N++fm (b4 N (Î n ds) ms)++[("the clock":Str)]:=by
 unfold aT Ņ;rw[JO,JF,PB]
theorem qj(h0:0<=n)(h1:n<=1000):aU n≠"the clock":=Ho h0 h1 ∅
theorem ED(nm:ko N)(hx:x<24):N x≠"the clock":=λe=>by
 have h:32∈("the clock":Str).cps.toList:=∅
 rw[<-e]at h;have:=(nm.ch x hx 32 h).1;lia
theorem MH(O:eX hs ds mb):(aT N (à 1 hs) (Î ((hs.length:Nat)+1) ds) (br (ì hs ds) mb)).length<=130:=by
 rw[nN,OX,OX,OZ,O3];have h1:=(AR O).2.2;have h2:=vA (b4 N (Î ((hs.length:Nat)+1) ds) (br (ì hs ds) mb));have h3:=xC (N:=N) O;lia
theorem Nh(nm:ko N)(O:eX hs ds mb):(aT N (à 1 hs) (Î ((hs.length:Nat)+1) ds) (br (ì hs ds) mb)).Nodup:=by
 rw[nN];obtain⟨d1,d2,_⟩:=AR O;obtain⟨r1,r2⟩:=JQ (N:=N) O;generalize b4 N (Î ((hs.length:Nat)+1) ds) (br (ì hs ds) mb)=es at r1 r2;have rm:∀x∈fm es,∃n:Int,x=aU n/\0<=n/\n<=1000:=λx hx=>by
  obtain⟨e,he,rfl⟩:=Pb.mp hx;have:=r2 e (PX.mp he).1;exact{_,rfl,(),()}
 have nmM:((Ņ hs ds).map N).Nodup:=AM d1 λx hx y hy e=>nm.inj x y (d2 x hx) (d2 y hy) e;have rwM:(fm es).Nodup:=by
  unfold fm Sz;rw[QG];refine(r1.filter _).imp_of_mem λ{a b} ha hb h e=>?_;have a1:=r2 a (PX.mp ha).1;have b1:=r2 b (PX.mp hb).1;have:=Iq () () () () e;lia
 refine Qp.mpr {Qp.mpr {nmM,rwM,λa ha b hb e=>?_},by simp,λa ha b hb e=>?_}
 ·obtain⟨i,hi,rfl⟩:=Pb.mp ha;obtain⟨n,rfl,n0,n1⟩:=rm b hb;exact Kt nm (d2 i hi) n0 n1 e
 rw[OY.mp hb]at e;rcases O5.mp ha with ha|ha
 ·obtain⟨i,hi,rfl⟩:=Pb.mp ha;exact ED nm (d2 i hi) e
 obtain⟨n,rfl,n0,n1⟩:=rm a ha;exact qj n0 n1 e
theorem NB(nm:ko N){hs:List Lr}{ds:List De}{mb:List Tr}(O:eX hs ds mb):Ok N 6 (à 1 hs) (Î ((hs.length:Nat)+1) ds) (br (ì hs ds) mb) where
 bq:=λp m=>by
  obtain⟨k,hk⟩:=Py m;obtain⟨d,n',h1,_,_,rfl⟩:=dP hk;refine{trivial,?_};show lH (br (n'+1) d.2.2)<=6;rw[oY];exact(O.de.at' k d h1).2.2.2.1
 main:=by rw[oY];exact O.md
 nb:=λe he=>by
  have:=(JQ (N:=N) O).2 e he;exact{(),()}
 ln:=Pf (xC O) ∅
 hl:=by rw[wK,(xv O).1];decide
 pl:=Pf (MH O) ∅
 nd:=Nh nm O
noncomputable def KP(dd:List (Nat×Nat)):Pt->Prop
 | .leaf _ (.call i us)=>(i,us.length)∈dd
 |_=>True
def Pe(dd:List (Nat×Nat))(a z:Int)(e:Le):Prop:=k5 e.1=true/\lOk e.1 e.2.2/\KP dd e.1/\a<=e.1.no/\e.1.no<z
theorem Pe.mono(h:Pe dd a z e)(ha:a'<=a)(hz:z<=z'):Pe dd a' z' e:={h.1,h.2.1,h.2.2.1,by have:=h.2.2.2.1;lia,by have:=h.2.2.2.2;lia}
mutual
theorem OV:∀(t:Tr)(b:Bool)(pl lp:Option Str)(n:Int),é ps dd b t->(b=true->lp.isSome=true)->∀e∈(è n t,pl,lp)::dm lp (è n t),Pe dd n (n+((Ò t).length:Nat)) e
 | .leaf r,b,pl,lp,n,ok,hb=>by
  rw[é]at ok;rw[è,dm,Ò];intro e he;rw[OY.mp he];refine{?_,λz=>?_,?_,Rl _,by show n<n+((1:Nat):Int);lia}
  ·cases r<;>first|rfl|exact ok.elim
  ·cases r with
   |last=>exact hb ok
   |_=>cases z
  cases r with
  |call i us=>exact ok.1
  |_=>trivial
 | .iff v a c f o,b,pl,lp,n,ok,hb=>by
  rw[é]at ok;rw[è,dm,Ò,O6,OX,O6,OX,O3];intro e he;rcases O2.mp he with rfl|he
  ·exact{rfl,(λz=>by cases z),trivial,Rl _,by show n<_;lia}
  rcases O5.mp he with he|he
  ·exact(vF f b _ lp (n+1) ok.2.1 hb e he).mono () (by push_cast;lia)
  exact(vF o b _ lp _ ok.2.2 hb e he).mono () (by push_cast;lia)
 | .loop t m a c d,b,pl,lp,n,ok,hb=>by
  rw[é]at ok;rw[è,dm,Ò,O6,OX,O3];intro e he;rcases O2.mp he with rfl|he
  ·exact{rfl,(λz=>by cases z),trivial,Rl _,by show n<_;lia}
  exact(vF d true _ _ (n+1) ok.2.2.2 (λ_=>rfl) e he).mono () (by push_cast;lia)
theorem vF:∀(ts:List Tr)(b:Bool)(pl lp:Option Str)(n:Int),cQ ps dd b ts->(b=true->lp.isSome=true)->∀e∈bD pl lp (br n ts),Pe dd n (n+((aA ts).length:Nat)) e
 | [],b,pl,lp,n,ok,hb=>by
  rw[br,bD];intro e he;cases he
 |t::ts,b,pl,lp,n,ok,hb=>by
  rw[cQ]at ok;rw[br,F6,aA,OX];intro e he;rw[<-PZ]at he;rcases O5.mp he with he|he
  ·exact(OV t b pl lp n ok.1 hb e he).mono () (by push_cast;lia)
  exact(vF ts b pl lp _ ok.2 hb e he).mono () (by push_cast;lia)
end
mutual
theorem JK(hi:∀e∈dd,e.1∈idx):∀(t:Tr)(b:Bool)(n:Int),é ps dd b t->ħ idx (è n t)
 | .leaf r,b,n,ok=>by
  rw[é]at ok;rw[è];cases r with
  |call i us=>
   rw[ħ];exact hi _ ok.1
  |_=>simp[ħ]
 | .iff v a c f o,b,n,ok=>by
  rw[é]at ok;rw[è,ħ];exact{sQ hi f b _ ok.2.1,sQ hi o b _ ok.2.2}
 | .loop t m a c d,b,n,ok=>by
  rw[é]at ok;rw[è,ħ];exact{by have:=ok.2.1;lia,by have:=ok.2.2.1;lia,sQ hi d true _ ok.2.2.2}
theorem sQ(hi:∀e∈dd,e.1∈idx):∀(ts:List Tr)(b:Bool)(n:Int),cQ ps dd b ts->rp idx (br n ts)
 | [],b,n,ok=>by rw[br,rp];trivial
 |t::ts,b,n,ok=>by
  rw[cQ]at ok;rw[br,rp];exact{JK hi t b n ok.1,sQ hi ts b _ ok.2}
end
theorem A0:∀ds n,(Î n ds).map ĭ=ds.map (·.1)
 | [],n=>rfl
 |d::ds,n=>by rw[Î,Pm,Pm,A0 ds];rfl
theorem F9(nm:ko N)(O:eX hs ds mb)(m:d∈ds) (n):ě N (Î n ds) (N d.1)=d.2.1.map N:=by
 obtain⟨k,hk⟩:=Py m;have kl:k<(Î n ds).length:=by rw[su];exact(Pl.mp hk).1
 obtain⟨p,hp⟩:∃p,(Î n ds)[k]?=YH p:={_,O7 kl};obtain⟨d',n',h1,_,_,rfl⟩:=dP hp;rw[hk]at h1;cases h1;exact BZ (N:=N) (ds:=Î n ds) (by rw[xN];exact JI nm O) (Pj hp)
theorem tQ(nm:ko N)(O:eX hs ds mb):∀e∈b4 N (Î ((hs.length:Nat)+1) ds) (br (ì hs ds) mb),k5 e.1=true/\lOk e.1 e.2.2/\KP (i8 ds) e.1/\1<=e.1.no/\e.1.no<=1000:=by
 obtain⟨l1,l2,l3⟩:=xv O;intro e he;unfold b4 at he;rcases O5.mp he with he|he
 ·unfold fe at he;obtain⟨p,mp,he⟩:=Qb.mp he;obtain⟨k,hk⟩:=Py mp;obtain⟨d,n',h1,h2,h3,rfl⟩:=dP hk;obtain⟨_,_,ok,_⟩:=O.de.at' k d h1;obtain⟨a1,a2,a3,a4,a5⟩:=vF d.2.2 false (YH (N d.1)) YI (n'+1) ok (λz=>by cases z) e he;have lf:(Ĉ d).length=(aA d.2.2).length+2:=by unfold Ĉ;simp
  refine{a1,a2,?_,(),()};revert a3
  cases e.1 with
  |leaf m r=>
   cases r with
   |call i us=>
    intro a3;obtain⟨d',md,e'⟩:=Pb.mp a3;exact Pb.mpr ⟨d',Qo md,e'⟩
   |_=>exact id
  |_=>exact id
 obtain⟨a1,a2,a3,a4,a5⟩:=vF mb false YI YI (ì hs ds) O.mo (λz=>by cases z) e he;unfold ì at a4 a5;exact{a1,a2,a3,(),()}
theorem Lb(nm:ko N)(O:eX hs ds mb) (n) (h:KP (i8 ds) t):GB N (ě N (Î n ds)) ((Î n ds).map (ù N)) t:=by
 cases t with
 |leaf m r=>
  cases r with
  |call i us=>
   obtain⟨d,md,e⟩:=Pb.mp h;obtain⟨e1,e2⟩:=Vg e;subst e1;refine{?_,?_}
   ·rw[xN];exact Pb.mpr ⟨d,md,rfl⟩
   rw[F9 nm O md,OZ];exact e2.symm
  |_=>trivial
 |_=>trivial
theorem Gm(h:∀m i us,t=.leaf m (.call i us)->us.length=(po (N i)).length/\(po (N i)).length<=4):(p8 N po t pl lp).length<=9:=by
 have d:=λinto kd=>wZ (N:=N) t into kd pl;cases t with
 |leaf m r=>
  cases r with
  |call i us=>
   obtain⟨h1,h2⟩:=h m i us rfl;show(Ŷ N m (us.zip (po (N i)))++clB pl m (po (N i)++[N i])).length<=9;have a:=vn (yw N m) (xT m) (us.zip (po (N i)));have b:=vn (λinto=>ó [pl] into "under" m) (λx=>cB _ _ _ _) (po (N i)++[N i]);rw[QN]at a;rw[OX,O3]at b;unfold Ŷ clB;rw[OX];lia
  |set x v=>exact Pf (d _ _) ∅
  |put x p v=>exact Pf (d _ _) ∅
  |snd x v=>exact Pf (d _ _) ∅
  |say x v k=>
   show(saL pl (N x) (N k) m).length<=9;unfold saL;have a:=cB [YH (N k)] (N x) "value" m;have b:=cB [pl] (N x) "under" m;have c:=cB [pl] (aU m) "under" m;simp only[O3]at a b c;rw[OX,OX];lia
  |last=>exact Pf (cB [pl] _ _ _) (by show 1<=9;decide)
  |_=>exact Pd _
 |iff _ _ _ _ _ _=>exact Pf (d _ _) ∅
 |loop _ _ _ _ _ _=>exact Pf (d _ _) ∅
 |bq _ _ _ _=>exact Pd _
theorem Fu(h:∀m i us,e.1=.leaf m (.call i us)->us.length=(ě N ds (N i)).length/\(ě N ds (N i)).length<=4):(rD N b ds e).length<=9:=by
 have h9:=Gm (N:=N) (pl:=e.2.1) (lp:=e.2.2) h;have s1:(qe b (ē cz YI ds) e.1).length<=1:=by
  unfold qe;split
  ·exact EX _ _
  exact Pd _
 unfold rD;rw[OX];obtain⟨t,pl,lp⟩:=e;have d:=λinto kd=>wZ (N:=N) t into kd pl;have cut:(p8 N (ě N ds) t pl lp).length<=8->(p8 N (ě N ds) t pl lp).length+(qe b (ē cz YI ds) t).length<=9:=λz=>by
  have s1:(qe b (ē cz YI ds) t).length<=1:=s1;lia
 show(p8 N (ě N ds) t pl lp).length+(qe b (ē cz YI ds) t).length<=9;cases t with
 |leaf m r=>
  cases r with
  |call i us=>
   have:qe b (ē cz YI ds) (.leaf m (.call i us))=[]:=by cases b<;>rfl
   rw[this];exact h9
  |set x v=>exact cut (Pf (d _ _) ∅)
  |put x p v=>exact cut (Pf (d _ _) ∅)
  |snd x v=>exact cut (Pf (d _ _) ∅)
  |say x v k=>
   refine cut ?_;show(saL pl (N x) (N k) m).length<=8;unfold saL;have a:=cB [YH (N k)] (N x) "value" m;have b:=cB [pl] (N x) "under" m;have c:=cB [pl] (aU m) "under" m;simp only[O3]at a b c;rw[OX,OX];lia
  |last=>exact cut (Pf (cB [pl] _ _ _) (by show 1<=8;decide))
  |_=>exact cut (Pd _)
 |iff _ _ _ _ _ _=>exact cut (Pf (d _ _) ∅)
 |loop _ _ _ _ _ _=>exact cut (Pf (d _ _) ∅)
 |bq _ _ _ _=>exact cut (Pd _)
def Jg(ps:List Nat)(dd:List (Nat×Nat))(k:Nat)(p:Pt):Prop:=∃(t:Tr)(n:Int)(b:Bool),p=è n t/\é ps dd b t/\Ă t<=k
mutual
theorem Mx:∀(t:Tr)(b:Bool)(pl lp:Option Str)(n:Int),é ps dd b t->∀e∈(è n t,pl,lp)::dm lp (è n t),Jg ps dd (Ă t) e.1
 | .leaf r,b,pl,lp,n,ok=>by
  intro e he;rw[è,dm]at he;rw[OY.mp he];exact{.leaf r,n,b,by rw[è],ok,O4 _}
 | .iff v a c f o,b,pl,lp,n,ok=>by
  intro e he;rcases O2.mp he with rfl|he
  ·exact{_,n,b,rfl,ok,O4 _}
  rw[é]at ok;rw[è,dm]at he;rw[Ă];rcases O5.mp he with he|he
  ·obtain⟨t,m,b',h1,h2,h3⟩:=lY f b _ lp _ ok.2.1 e he;exact{t,m,b',h1,h2,()}
  obtain⟨t,m,b',h1,h2,h3⟩:=lY o b _ lp _ ok.2.2 e he;exact{t,m,b',h1,h2,()}
 | .loop t m a c d,b,pl,lp,n,ok=>by
  intro e he;rcases O2.mp he with rfl|he
  ·exact{_,n,b,rfl,ok,O4 _}
  rw[é]at ok;rw[è,dm]at he;rw[Ă];obtain⟨t,m,b',h1,h2,h3⟩:=lY d true _ _ _ ok.2.2.2 e he;exact{t,m,b',h1,h2,()}
theorem lY:∀(ts:List Tr)(b:Bool)(pl lp:Option Str)(n:Int),cQ ps dd b ts->∀e∈bD pl lp (br n ts),Jg ps dd (cF ts) e.1
 | [],b,pl,lp,n,ok=>by
  intro e he;rw[br,bD]at he;cases he
 |t::ts,b,pl,lp,n,ok=>by
  intro e he;rw[cQ]at ok;rw[br,F6]at he;rw[cF];rcases O5.mp (show e∈((è n t,pl,lp)::dm lp (è n t))++bD pl lp (br (n+((Ò t).length:Nat)) ts)from he)with he|he
  ·obtain⟨t,m,b',h1,h2,h3⟩:=Mx t b pl lp n ok.1 e he;exact{t,m,b',h1,h2,()}
  obtain⟨t,m,b',h1,h2,h3⟩:=lY ts b pl lp _ ok.2 e he;exact{t,m,b',h1,h2,()}
end
theorem MK(O:eX hs ds mb):∀e∈b4 N (Î ((hs.length:Nat)+1) ds) (br (ì hs ds) mb),ħ ((Î ((hs.length:Nat)+1) ds).map ĭ) e.1/\dep e.1<=6:=by
 intro e he;rw[A0];have go:∀{ps:List Nat}{dd:List (Nat×Nat)}{k:Nat},Jg ps dd k e.1->(∀x∈dd,x.1∈ds.map (·.1))->k<=6->ħ (ds.map (·.1)) e.1/\dep e.1<=6:=by
  intro ps dd k ⟨t,n,b,h1,h2,h3⟩ hd hk;rw[h1];exact{JK hd t b n h2,by rw[Jq];lia}
 unfold b4 at he;rcases O5.mp he with he|he
 ·unfold fe at he;obtain⟨p,mp,he⟩:=Qb.mp he;obtain⟨k,hk⟩:=Py mp;obtain⟨d,n',h1,h2,h3,rfl⟩:=dP hk;obtain⟨_,_,ok,dpd,_⟩:=O.de.at' k d h1;refine go (lY d.2.2 false _ _ _ ok e he) (λx hx=>?_) dpd;obtain⟨d',m',rfl⟩:=Pb.mp hx;exact Pb.mpr ⟨d',Qo m',rfl⟩
 refine go (lY mb false _ _ _ O.mo e he) (λx hx=>?_) O.md;obtain⟨d',m',rfl⟩:=Pb.mp hx;exact Pb.mpr ⟨d',m',rfl⟩
theorem Jy{α β:Type}(f:α->List β) (k):∀(l:List α),(∀x∈l,(f x).length<=k)->(l.flatMap f).length<=k*l.length
 | [],_=>Pd _
 |x::l,h=>by
  have h1:=Jy f k l λy hy=>h y (O8 _ hy);have h2:=h x O9;rw[P5,OX,O6,Nat.mul_succ];lia
theorem JW(nm:ko N){hs:List Lr}{ds:List De}{mb:List Tr}(O:eX hs ds mb):OkL N 6 (à 1 hs) (Î ((hs.length:Nat)+1) ds) (br (ì hs ds) mb) where
 ok:=NB nm O
 dk:={
  bq:=λp m=>by
   obtain⟨k,hk⟩:=Py m;obtain⟨d,n',h1,_,_,rfl⟩:=dP hk;trivial
  dp:=λp m=>by
   obtain⟨k,hk⟩:=Py m;obtain⟨d,n',h1,_,_,rfl⟩:=dP hk;show lH (br (n'+1) d.2.2)<=6;rw[oY];exact(O.de.at' k d h1).2.2.2.1
  ck:=λk p hk=>by
   obtain⟨d,n',h1,_,_,rfl⟩:=dP hk;rw[yN,A0];refine sQ (λe he=>?_) d.2.2 false _ (O.de.at' k d h1).2.2.1;obtain⟨d',m',rfl⟩:=Pb.mp he;exact Pb.mpr ⟨d',m',rfl⟩
  nm:=λi j p q hp hq e=>by
   obtain⟨d,n',h1,_,_,rfl⟩:=dP hp;obtain⟨d',n'',h2,_,_,rfl⟩:=dP hq;have e:N d.1=N d'.1:=e;have i3:i<3:=by rw[<-O.dl];exact(Pl.mp h1).1
   have j3:j<3:=by rw[<-O.dl];exact(Pl.mp h2).1
   rw[(O.de.at' i d h1).1,(O.de.at' j d' h2).1]at e;exact HL i3 j3 (nm.inj _ _ Aj Aj e)
  ln:=by rw[su,O.dl];decide }
 nn:=by rw[xN];exact JI nm O
 pn:=λp m=>by
  obtain⟨k,hk⟩:=Py m;obtain⟨d,n',h1,_,_,rfl⟩:=dP hk;show(d.2.1.map N).length<=100;rw[OZ];exact Pf (yY O (Pj h1)) ∅
 k5:=λe he=>(tQ nm O e he).1
 lo:=λe he=>(tQ nm O e he).2.1
 cal:=λe he=>Lb nm O _ (tQ nm O e he).2.2.1
 ck:=MK O
 ll:=λb=>by
  unfold cA;refine Pf (Jy _ 9 _ λe he=>Fu λm i us ee=>?_) (Pf (Nat.mul_le_mul_left 9 (xC O)) ∅);have h:=(tQ nm O e he).2.2.1;rw[ee]at h;obtain⟨d,md,e'⟩:=Pb.mp h;obtain⟨e1,e2⟩:=Vg e';subst e1;rw[F9 nm O md,OZ];exact⟨e2.symm,yY O md⟩
mutual
noncomputable def exT(kn:Nat->Option Int):Tr->Option Int
 | .leaf (.call i _)=>Bb 1 (kn i)
 | .leaf _=>YH 1
 | .iff _ l r f o=>MO l r (gg kn f) (gg kn o)
 | .loop _ m l r b=>Mo m l r (gg kn b)
noncomputable def gg(kn:Nat->Option Int):List Tr->Option Int
 | []=>YH 0
 |t::ts=>iA (exT kn t) (gg kn ts)
end
mutual
noncomputable def cT(idx:List Nat):Tr->Prop
 | .leaf (.call i _)=>i∈idx
 | .leaf _=>True
 | .iff _ _ _ f o=>ĉ idx f/\ĉ idx o
 | .loop _ m _ _ b=>0<=m/\m<=1000/\ĉ idx b
noncomputable def ĉ(idx:List Nat):List Tr->Prop
 | []=>True
 |t::ts=>cT idx t/\ĉ idx ts
end
mutual
theorem NA(hi:∀e∈dd,e.1∈idx):∀(t:Tr)(b:Bool),é ps dd b t->cT idx t
 | .leaf r,b,ok=>by
  rw[é]at ok;cases r with
  |call i us=>
   rw[cT];exact hi _ ok.1
  |_=>simp[cT]
 | .iff v a c f o,b,ok=>by
  rw[é]at ok;rw[cT];exact⟨qJ hi f b ok.2.1,qJ hi o b ok.2.2⟩
 | .loop t m a c d,b,ok=>by
  rw[é]at ok;rw[cT];exact{by have:=ok.2.1;lia,by have:=ok.2.2.1;lia,qJ hi d true ok.2.2.2}
theorem qJ(hi:∀e∈dd,e.1∈idx):∀(ts:List Tr)(b:Bool),cQ ps dd b ts->ĉ idx ts
 | [],b,ok=>by rw[ĉ];trivial
 |t::ts,b,ok=>by
  rw[cQ]at ok;rw[ĉ];exact⟨NA hi t b ok.1,qJ hi ts b ok.2⟩
end
theorem CG:∀{a b:List Tr},ĉ idx (a++b)->ĉ idx a/\ĉ idx b
 | [],b,h=>{by rw[ĉ];trivial,h}
 |t::a,b,h=>by
  rw[PZ,ĉ]at h;have:=CG h.2;exact{by rw[ĉ];exact⟨h.1,this.1⟩,this.2}
theorem OB (x):iA x (YH 0)=x:=by
 cases x with
 |none=>rfl
 |some a=>
  show YH (a+0)=YH a;rw[Int.add_zero]
theorem Oa (x):iA (YH 0) x=x:=by
 cases x with
 |none=>rfl
 |some a=>
  show YH (0+a)=YH a;rw[RH]
theorem wt(kn:Nat->Option Int)(t:Tr):∀a:List Tr,gg kn (a++[t])=iA (gg kn a) (exT kn t)
 | []=>by
  rw[Pz];simp only[gg];rw[OB,Oa]
 |u::a=>by rw[PZ,gg,gg,wt kn t a,qZ]
theorem Fz:∀i:Fin 11,i.val≠9->wdI i.val≠"call":=by decide+kernel
theorem G4 (r):(∃i us,r=.call i us)\/(¬ decide (V.str r.wd=V.str "call")=true/\∀kn,exT kn (.leaf r)=YH 1):=by
 by_cases c:r.ci=9
 ·cases r<;>first|exact .inl {_,_,rfl}|cases c
 refine .inr {λz=>?_,λkn=>?_}
 ·have:=Co r;have e:=V.str.inj (of_decide_eq_true z);rw[Cg]at e;exact Fz {r.ci,()} c e
 cases r with
 |call _ _=>exact absurd rfl c
 |_=>simp[exT]
theorem lF.mono(h:lF N H D idx kn)(s:aj H H'):lF N H' D idx kn:=by
 obtain⟨kvs,h1,h2⟩:=h;exact{kvs,s _ _ h1,h2}
inductive nK(d:Nat)(vs:List V)(H:Hp)(Q:VK)(Ä:XK):Prop
 |mk (N X L xs fs pre post ts st D idx) (kn:Nat->Option Int) (z0:vs=[.ref L,.int (pre.length:Nat),.ref D]) (z1:aj X H) (z2:X L=YH (.lst xs)) (z3:ba N X fs xs) (z4:fs=pre++aA ts++st::post) (z5:zA st=true) (z6:cF ts<=d) (z7:ĉ idx ts) (z8:lF N H D idx λi=>oI (kn i)) (z9:xs.length<=300)
  (z10:∀(p H'),aj H H'->H' p=YH (.tup [oI (gg kn ts),.int ((pre.length+(aA ts).length:Nat):Int)])->Q (.ref p) H'):nK d vs H Q Ä
inductive GC(ts:List Tr)(L:RJ)(pre:List Fr)(D:RJ)(kn:Nat->Option Int)(H:Hp)(m:Nat)(B:St)(Hc:Hp):Prop
 |mk (dn rest v4 v5 v6 v7):ts=dn++rest->rest.length=m->B=[YH (.ref L),YH (.int ((pre.length+(aA dn).length:Nat):Int)),YH (.ref D),YH (oI (gg kn dn)),v4,v5,v6,v7]->aj H Hc->GC ts L pre D kn H m B Hc
inductive E6(m:Nat)(ts:List Tr)(L:RJ)(pre:List Fr)(D:RJ)(kn:Nat->Option Int)(H:Hp)(B:St)(Hc:Hp):Prop
 |mk (dn rest v4 v5 v6 v7 m'):m'<m->ts=dn++rest->rest.length=m'->B=[YH (.ref L),YH (.int ((pre.length+(aA dn).length:Nat):Int)),YH (.ref D),YH (oI (gg kn dn)),v4,v5,v6,v7]->aj H Hc->E6 m ts L pre D kn H B Hc
theorem vB(T:Txt K mg A) (d j) (dy:T.gY.Hz P w base j (spN nK d)):T.gY.Hz P w base (j+1) (nK d):=by
 refine T.gY.hs (k:=j) aW (λf Ã A' outer s H vs Q E hr hu h=>?_);obtain⟨N,X,L,xs,fs,pre,post,ts,st,D,idx,kn,rfl,s0,hL,fr,Ć,hst,dp,ck,hD,lx,q⟩:=h;have lfs:fs.length<=300:=by rw[RT fr];exact lx
 refine⟨_,(ae (Ç 3 aW.nd af)
  (ae (ir RW (Í (iy hu) (px hu (px hu (fv 0) (fv 1)) af) (aV (aw^aw^ab)) ((by with_unfolding_all rfl)))
   (ae (Ç 4 aW.nd (px hu (fv 0) (fv 1)))
   (ae (Ç 5 aW.nd af)
   (ae (aS (Í (cn hu) (px hu (fv 4) af) aw)
    (ai (Ç 5 aW.nd (px hu (fv 2) (px hu (fv 4) af))))
    (ai (aS (Í (cn hu) (px hu (fv 4) af) aw)
     (ae (bR (ak (hj:=by lia) dy hr (fv 0^az aQ (fv 1) af^fv 2^ab)) (dj rfl (aN (Ð (i:=6) aW.nd rfl) (aN (Ð (i:=1) aW.nd rfl) cc))))
     (ae (bR (ak (hj:=by lia) dy hr (fv 0^az aQ (fv 1) af^fv 2^ab)) (dj rfl (aN (Ð (i:=7) aW.nd rfl) (aN (Ð (i:=1) aW.nd rfl) cc))))
     (ae (Ç 5 aW.nd bX)
     (ai (aS (PW.pt (pw_and (Í fS (fv 6) bX) (pw_and (Í fS (fv 7) bX) (pw_and1 (Í (cn hu) (az aQ (px hu (fv 4) af) (fv 6)) (az aQ (px hu (fv 4) af) (fv 7)))))))
      (ai (Ç 5 aW.nd (az aQ (px hu (fv 4) af) (fv 6))))
      aF)))))
     (ai (aS (Í (cn hu) (px hu (fv 4) af) aw)
      (ae (bR (ak (hj:=by lia) dy hr (fv 0^az aQ (fv 1) af^fv 2^ab)) (dj rfl (aN (Ð (i:=6) aW.nd rfl) (aN (Ð (i:=1) aW.nd rfl) cc))))
      (ae (Ç 5 aW.nd bX)
      (ai (aS (PW.pt (pw_and (Í fS (fv 6) bX) (pw_and1 (Í (cn hu) (az aQ (px hu (fv 4) af) (fv 6)) (px hu (fv 4) af)))))
       (ai (Ç 5 aW.nd (az dh (px hu (fv 4) af) (px hu (fv 4) af))))
       aF))))
      aF)))))
   (ae (aS (PW.pt (pw_and (Í fS (fv 3) bX) (pw_and1 (Í fS (fv 5) bX))))
    (ai (Ç 3 aW.nd (az aQ (az aQ (fv 3) af) (fv 5))))
    (ai (Ç 3 aW.nd bX)))
   (ai (Ç 1 aW.nd (az aQ (fv 1) af))))))))
  (ai (aD (aV (fv 3^fv 1^ab)))))),?_⟩
 refine ag λM1 K1=>K1 _ _ ?_;clear K1 M1;try dsimp only
 refine ag λM1 K1=>{GC ts L pre D kn H,{ts.length,[],ts,YI,YI,YI,YI,rfl,rfl,by rw[aA,gg];rfl,aj.refl _},?_};rintro m B Hc ⟨dn,rest,v4,v5,v6,v7,Ĺ,em,rfl,sH⟩;have sX:=s0.trans sH;have ĺ:=À.of (K:=K) (sX _ _ hL);cases rest with
 |nil=>
  rw[Pu]at Ĺ;subst Ĺ;obtain⟨v,av,⟨a,p,rfl,ha,_⟩⟩:=ij fr (a:=pre++aA ts) (f:=st) (b:=post) Ć;rw[OX]at av;refine ï ĺ av (Ê (j:=0) (È.of (sX _ _ ha)) rfl {by show 2<=sizeLine;decide,λtp ß=>?_});have Å:=aj.upd ß (.tup [V.str "else",.str "end"]);exact Pg {_,Qs (È.of ao),rfl,rfl,_,rfl,bg (λz=>absurd z (by show ¬ (!č (V.str st.wd) [V.str "else",V.str "end"])=true;rw[rZ,hst];decide)) (λ_=>K1 _ _ {by show 2<=sizeLine;decide,λp hp=>q p _ (sH.trans (Å.trans (aj.upd hp _))) ao})}
 |cons t rest=>
 clear K1;obtain⟨tl,et⟩:=EZ t;have efs':fs=(pre++aA dn)++hdF t::(tl++aA rest++st::post):=by
  rw[Ć,Ĺ,dH,aA,et];simp
 obtain⟨v,av,fv'⟩:=ij fr efs';rw[OX]at av;obtain⟨a,p,rfl,ha,hob⟩:=fv';have ſ:zA (hdF t)=false:=by cases t<;>rfl
 refine ï ĺ av (Ê (j:=0) (È.of (sX _ _ ha)) rfl {by show 2<=sizeLine;decide,λtp ß=>?_});obtain⟨s2,e2⟩:=É ß (HO.tup [V.str "else",.str "end"]);generalize upd Hc tp _=H2 at s2 e2⊢;refine Pg {_,Qs (È.of e2),rfl,rfl,_,rfl,bg (λ_=>?_) (λz=>absurd (by show(!č (V.str (hdF t).wd) [V.str "else",V.str "end"])=true;rw[rZ,ſ];rfl) z)};refine{E6 m ts L pre D kn H,λB Hc ⟨dn,rest,v4,v5,v6,v7,m',ő,h1,h2,h3,h4⟩=>⟨m',ő,dn,rest,v4,v5,v6,v7,h1,h2,h3,h4⟩,?_};have š:=sX.trans s2;have sH2:=sH.trans s2;have dpt:Ă t<=d:=by
  rw[Ĺ,mN,cF]at dp;lia
 have ckt:cT idx t:=by
  rw[Ĺ]at ck;have:=(CG ck).2;rw[ĉ]at this;exact this.1
 try dsimp only
 refine ag λN1 J1=>ï (s2.seq ĺ) av (J1 _ _ ?_);clear J1 N1;try dsimp only
 refine ag λN1 J1=>J1 _ _ ?_;clear J1 N1;try dsimp only
 refine ag λN1 J1=>?_;have fin:∀(x:Option Int)(H4:Hp)(u6 u7:Option V)(at':Int),aj H2 H4->exT kn t=Bb 1 x->at'+1=((pre.length+(aA dn).length+(Ò t).length:Nat):Int)->
   N1 [YH (.ref L),YH (.int at'),YH (.ref D),YH (oI (gg kn dn)),YH (.ref a),YH (oI x),u6,u7] H4:=by
  intro x H4 u6 u7 at' s4 ex ea
  refine J1 _ _ ?_
  clear J1 N1
  refine ag λN2 J2=>?_
  have em':rest.length+1=m:=em
  have ķ:N2 [YH (.ref L),YH (.int at'),YH (.ref D),YH (oI (gg kn (dn++[t]))),YH (.ref a),YH (oI x),u6,u7] H4:=by
   refine J2 _ _ {dn++[t],rest,YH (.ref a),YH (oI x),u6,u7,rest.length,(),by rw[Ĺ];simp,rfl,?_,sH2.trans s4};show[_,YH (V.int (at'+1)),_,_,_,_,_,_]=_;rw[ea,dH,pH,OX,Rf]
  clear J2
  rw[wt,ex]at ķ
  cases hb:gg kn dn with
  |none=>
   rw[hb]at ķ;exact{rfl,_,rfl,aY (aY ķ)}
  |some b=>
   rw[hb]at ķ;refine{rfl,_,rfl,bW ?_};cases x with
   |none=>exact{rfl,_,rfl,aY ķ}
   |some c=>
    refine{rfl,_,rfl,bW ?_};have e:oI (iA (YH b) (Bb 1 (YH c)))=V.int (b+1+c):=by
     show V.int (b+(1+c))=_;rw[RF]
    rw[e]at ķ;exact ķ
 clear J1;have ĩ:=È.of (K:=K) (š _ _ ha);cases t with
 |leaf r=>
  rcases G4 r with⟨i,us,rfl⟩|⟨nc,e1⟩
  ·refine Ê (j:=0) ĩ rfl {rfl,_,rfl,bg (λ_=>?_) (λz=>absurd (decide_eq_true rfl) z)};rw[cT]at ckt;obtain⟨kvs,k1,k2⟩:=hD;exact Ê (j:=1) ĩ rfl {oI (kn i),.inl {kvs,.inr (N i),.inl (sH2 _ _ k1),rfl,(k2 i ckt).symm},fin (kn i) H2 _ _ _ (aj.refl _) (by rw[exT]) (by rw[Ò];push_cast;rfl)}
  exact Ê (j:=0) ĩ rfl {rfl,_,rfl,bg (λz=>absurd z nc) (λ_=>Ê (j:=0) ĩ rfl {rfl,_,rfl,bg (λz=>absurd z (mU r).1) (λ_=>Ê (j:=0) ĩ rfl {rfl,_,rfl,bg (λz=>absurd z (mU r).2) (λ_=>fin (YH 0) H2 _ _ _ (aj.refl _) (e1 kn) (by rw[Ò];push_cast;rfl))})})}
 |iff vv l r ff oo=>
  rw[Ă]at dpt;rw[cT]at ckt;cases d with
  |zero=>lia
  |succ d=>
  refine Ê (j:=0) ĩ rfl {rfl,_,rfl,bg (λz=>absurd z (show ¬ decide (V.str "if"=V.str "call")=true by decide)) (λ_=>Ê (j:=0) ĩ rfl {rfl,_,rfl,bg (λ_=>?_) (λz=>absurd (show decide (V.str "if"=V.str "if")=true from decide_eq_true rfl) z)})};have Ġ:fs=(pre++aA dn++[.iff vv l r])++aA ff++ .Ā::(aA oo++ .fin::(aA rest++st::post)):=by
   rw[Ć,Ĺ,dH,aA,Ò];simp
  have e2':fs=(pre++aA dn++[.iff vv l r]++aA ff++[.Ā])++aA oo++ .fin::(aA rest++st::post):=by
   rw[Ġ];simp
  have l1:(pre++aA dn++[Fr.iff vv l r]).length=pre.length+(aA dn).length+1:=by simp only[OX,O3]
  have l2:(pre++aA dn++[Fr.iff vv l r]++aA ff++[Fr.Ā]).length=pre.length+(aA dn).length+1+(aA ff).length+1:=by simp only[OX,O3]
  try dsimp only
  refine ag λN2 J2=>{N,X,L,xs,fs,_,_,ff,.Ā,D,idx,kn,by rw[l1];push_cast;rfl,š,hL,fr,Ġ,rfl,(),ckt.1,lF.mono hD sH2,lx,λp1 H3 s3 ľ=>{p1,_,rfl,È.of ľ,rfl,_,_,rfl,_,_,rfl,rfl,J2 _ _ ?_}};clear J2 N2;have ń:=š.trans s3;try dsimp only
  refine ag λN2 J2=>{N,X,L,xs,fs,_,_,oo,.fin,D,idx,kn,by rw[l1,l2];push_cast;rfl,ń,hL,fr,e2',rfl,(),ckt.2,lF.mono hD (sH2.trans s3),lx,λp2 H4 s4 ep2=>{p2,_,rfl,È.of ep2,rfl,_,_,rfl,_,_,rfl,rfl,?_}};have Ę:=s3.trans s4;have hT4:=Ę.tup ĩ;have ea:((((pre++aA dn++[Fr.iff vv l r]++aA ff++[Fr.Ā]).length+(aA oo).length:Nat):Int))+1=((pre.length+(aA dn).length+(Ò (.iff vv l r ff oo)).length:Nat):Int):=by
   rw[l2,Ò];simp only[O6,OX,P2];push_cast
   lia
  refine J2 _ _ ?_;clear J2 N2;try dsimp only
  refine ag λN2 J2=>J2 _ _ ?_;clear J2 N2;try dsimp only
  have fi:=λx u6 u7 e=>fin x H4 u6 u7 _ Ę e ea;clear fin;rw[exT]at fi;cases h1:gg kn ff with
  |none=>
   rw[h1]at fi;exact{rfl,_,rfl,aY (aY (fi YI _ _ rfl))}
  |some x1=>
   rw[h1]at fi;refine{rfl,_,rfl,bW ?_};cases h2:gg kn oo with
   |none=>
    rw[h2]at fi;exact{rfl,_,rfl,aY (fi YI _ _ rfl)}
   |some x2=>
    rw[h2]at fi;refine{rfl,_,rfl,bW (Ê (j:=2) hT4 rfl (Ê (j:=3) hT4 rfl {rfl,_,rfl,bg (λz=>?_) (λz=>?_)}))}
    ·have z:=V.int.inj (of_decide_eq_true z);refine Ê (j:=2) hT4 rfl (fi (YH (l+x1)) _ _ ?_);show(if l+x1=r+x2 then YH (1+l+x1)else YI)=YH (1+(l+x1));rw[if_pos z,RF]
    refine fi YI _ _ ?_;show(if l+x1=r+x2 then YH (1+l+x1)else YI)=YI;rw[if_neg λe=>z (decide_eq_true (by rw[e]))]
 |loop th mm l r bb=>
  rw[Ă]at dpt;rw[cT]at ckt;cases d with
  |zero=>lia
  |succ d=>
  refine Ê (j:=0) ĩ rfl {rfl,_,rfl,bg (λz=>absurd z (show ¬ decide (V.str "loop"=V.str "call")=true by decide)) (λ_=>Ê (j:=0) ĩ rfl {rfl,_,rfl,bg (λz=>absurd z (show ¬ decide (V.str "loop"=V.str "if")=true by decide)) (λ_=>Ê (j:=0) ĩ rfl {rfl,_,rfl,bg (λ_=>?_) (λz=>absurd (show decide (V.str "loop"=V.str "loop")=true from decide_eq_true rfl) z)})})};have Ġ:fs=(pre++aA dn++[.loop th mm l r])++aA bb++ .fin::(aA rest++st::post):=by
   rw[Ć,Ĺ,dH,aA,Ò];simp
  have l1:(pre++aA dn++[Fr.loop th mm l r]).length=pre.length+(aA dn).length+1:=by simp only[OX,O3]
  try dsimp only
  refine ag λN2 J2=>{N,X,L,xs,fs,_,_,bb,.fin,D,idx,kn,by rw[l1];push_cast;rfl,š,hL,fr,Ġ,rfl,(),ckt.2.2,lF.mono hD sH2,lx,λp1 H3 s3 ľ=>{p1,_,rfl,È.of ľ,rfl,_,_,rfl,_,_,rfl,rfl,?_}};have ų:=s3.tup ĩ;have ea:((((pre++aA dn++[Fr.loop th mm l r]).length+(aA bb).length:Nat):Int))+1=((pre.length+(aA dn).length+(Ò (.loop th mm l r bb)).length:Nat):Int):=by
   rw[l1,Ò];simp only[O6,OX,P2];push_cast
   lia
  refine J2 _ _ ?_;clear J2 N2;try dsimp only
  refine ag λN2 J2=>J2 _ _ ?_;clear J2 N2;try dsimp only
  have fi:=λx u6 u7 e=>fin x H3 u6 u7 _ s3 e ea;clear fin;rw[exT]at fi;cases h1:gg kn bb with
  |none=>
   rw[h1]at fi;exact{rfl,_,rfl,aY (aY (fi YI _ _ rfl))}
  |some x1=>
   rw[h1]at fi;refine{rfl,_,rfl,bW (Ê (j:=3) ų rfl (Ê (j:=4) ų rfl {rfl,_,rfl,bg (λz=>?_) (λz=>?_)}))}
   ·have z:=V.int.inj (of_decide_eq_true z);refine Ê (j:=2) ų rfl (Ê (j:=4) ų rfl {.inl {(),()},fi (YH (mm*r)) _ _ ?_});show(if l+x1=r then YH (1+mm*r)else YI)=YH (1+mm*r);rw[if_pos z]
   refine fi YI _ _ ?_;show(if l+x1=r then YH (1+mm*r)else YI)=YI;rw[if_neg λe=>z (decide_eq_true (by rw[e]))]
theorem tN(T:Txt K mg A):∀d,T.gY.Hz P w base (d+2) (nK d)
 |0=>vB T 0 1 (T.gY.hs (k:=0) aW (λ_ _ _ _ _ _ _ _ _ _ _ h=>h.elim) (λ_ _ _ _ h=>h.elim))
 |d+1=>vB T (d+1) (d+2) (tN T d)
noncomputable def eqI:Fr->Fr->Prop
 | .iff v _ _,.iff v' _ _=>v=v'
 | .loop t m _ _,.loop t' m' _ _=>t=t'/\m=m'
 | .leaf r,.leaf r'=>r=r'
 | .bq i ps,.bq i' ps'=>i=i'/\ps=ps'
 | .main,.main=>True
 | .Ā,.Ā=>True
 | .fin,.fin=>True
 |_,_=>False
theorem mX (f):eqI f f:=by
 cases f<;>simp[eqI]
mutual
noncomputable def dC:Tr->Tr->Prop
 | .leaf r,.leaf r'=>r=r'
 | .iff v _ _ f o,.iff v' _ _ f' o'=>v=v'/\cM f f'/\cM o o'
 | .loop t m _ _ b,.loop t' m' _ _ b'=>t=t'/\m=m'/\cM b b'
 |_,_=>False
noncomputable def cM:List Tr->List Tr->Prop
 | [],[]=>True
 |t::ts,t'::ĳ=>dC t t'/\cM ts ĳ
 |_,_=>False
end
theorem fM{α β:Type}{F}:∀{a c:List α}{g:List β},Paired F (a++c) g->∃g1 g2,g=g1++g2/\Paired F a g1/\Paired F c g2
 | [],c,g,h=>{[],g,rfl,.nil,h}
 |x::a,c,_,.cons (l₂:=g) h r=>by
  obtain⟨g1,g2,e,h1,h2⟩:=fM r;exact{_::g1,g2,by rw[e];rfl,.cons h h1,h2}
theorem nv(h:Paired F [x] g):∃y,g=[y]/\F x y:=by
 cases h with
 |cons h r=>
  cases r;exact{_,rfl,h}
theorem wJ(h:eqI .fin g):g=.fin:=by
 cases g<;>first|rfl|exact h.elim
theorem Hy(h:eqI .Ā g):g=.Ā:=by
 cases g<;>first|rfl|exact h.elim
mutual
theorem K9:∀(t:Tr)(g:List Fr),Paired eqI (Ò t) g->∃t',g=Ò t'/\dC t t'
 | .leaf r,g,h=>by
  rw[Ò]at h;obtain⟨y,rfl,e⟩:=nv h;cases y with
  |leaf r'=>
   have e:r=r':=e;subst e;exact{.leaf r,by rw[Ò],by rw[dC]}
  |_=>exact e.elim
 | .iff v a c f o,g,h=>by
  rw[Ò]at h;cases h with
  |cons h r=>
   rename_i y g;obtain⟨g1,g2,rfl,h1,h2⟩:=fM r;obtain⟨f',rfl,s1⟩:=o8 f g1 h1;cases h2 with
   |cons h2 r2=>
    obtain⟨g3,g4,rfl,h3,h4⟩:=fM r2;obtain⟨o',rfl,s2⟩:=o8 o g3 h3;obtain⟨z,rfl,h5⟩:=nv h4;rw[Hy h2,wJ h5];cases y with
    |iff v' a' c'=>
     have e:v=v':=h;subst e;exact{.iff v a' c' f' o',by rw[Ò],by rw[dC];exact⟨rfl,s1,s2⟩}
    |_=>exact h.elim
 | .loop t m a c b,g,h=>by
  rw[Ò]at h;cases h with
  |cons h r=>
   rename_i y g;obtain⟨g1,g2,rfl,h1,h2⟩:=fM r;obtain⟨b',rfl,s1⟩:=o8 b g1 h1;obtain⟨z,rfl,h5⟩:=nv h2;rw[wJ h5];cases y with
   |loop t' m' a' c'=>
    have e:t=t'/\m=m':=h;obtain⟨rfl,rfl⟩:=e;exact{.loop t m a' c' b',by rw[Ò],by rw[dC];exact⟨rfl,rfl,s1⟩}
   |_=>exact h.elim
theorem o8:∀(ts:List Tr)(g:List Fr),Paired eqI (aA ts) g->∃ĳ,g=aA ĳ/\cM ts ĳ
 | [],g,h=>by
  rw[aA]at h;cases h;exact{[],by rw[aA],by rw[cM];trivial}
 |t::ts,g,h=>by
  rw[aA]at h;obtain⟨g1,g2,rfl,h1,h2⟩:=fM h;obtain⟨t',rfl,s1⟩:=K9 t g1 h1;obtain⟨ĳ,rfl,s2⟩:=o8 ts g2 h2;exact{t'::ĳ,by rw[aA],by rw[cM];exact⟨s1,s2⟩}
end
mutual
theorem NK:∀(t t':Tr),dC t t'->(∀b,é ps dd b t->é ps dd b t')/\Ă t'=Ă t/\(Ò t').length=(Ò t).length
 | .leaf r,.leaf r',h=>by
  rw[dC]at h;subst h;exact{λ_ h=>h,rfl,rfl}
 | .iff v a c f o,.iff v' a' c' f' o',h=>by
  rw[dC]at h;obtain⟨rfl,h1,h2⟩:=h;obtain⟨a1,a2,a3⟩:=jQ f f' h1;obtain⟨b1,b2,b3⟩:=jQ o o' h2;refine{λb h=>?_,by rw[Ă,Ă,a2,b2],by rw[Ò,Ò];simp[a3,b3]};rw[é]at h⊢;exact⟨h.1,a1 b h.2.1,b1 b h.2.2⟩
 | .loop t m a c b,.loop t' m' a' c' b',h=>by
  rw[dC]at h;obtain⟨rfl,rfl,h1⟩:=h;obtain⟨a1,a2,a3⟩:=jQ b b' h1;refine{λb h=>?_,by rw[Ă,Ă,a2],by rw[Ò,Ò];simp[a3]};rw[é]at h⊢;exact⟨h.1,h.2.1,h.2.2.1,a1 true h.2.2.2⟩
 | .leaf _,.iff _ _ _ _ _,h=>by simp[dC]at h
 | .leaf _,.loop _ _ _ _ _,h=>by simp[dC]at h
 | .iff _ _ _ _ _,.leaf _,h=>by simp[dC]at h
 | .iff _ _ _ _ _,.loop _ _ _ _ _,h=>by simp[dC]at h
 | .loop _ _ _ _ _,.leaf _,h=>by simp[dC]at h
 | .loop _ _ _ _ _,.iff _ _ _ _ _,h=>by simp[dC]at h
theorem jQ:∀(t t':List Tr),cM t t'->(∀b,cQ ps dd b t->cQ ps dd b t')/\cF t'=cF t/\(aA t').length=(aA t).length
 | [],[],h=>{λ_ h=>h,rfl,rfl}
 |t::ts,t'::ĳ,h=>by
  rw[cM]at h;obtain⟨a1,a2,a3⟩:=NK t t' h.1;obtain⟨b1,b2,b3⟩:=jQ ts ĳ h.2;refine{λb h=>?_,by rw[cF,cF,a2,b2],by rw[aA,aA,OX,OX,a3,b3]};rw[cQ]at h⊢;exact⟨a1 b h.1,b1 b h.2⟩
 | [],_::_,h=>by simp[cM]at h
 |_::_,[],h=>by simp[cM]at h
end
theorem qI{α:Type}{F}(h:∀x,F x x):∀l:List α,Paired F l l
 | []=>.nil
 |x::l=>.cons (h x) (qI h l)
theorem zK{α:Type}{F}(h:∀x,F x x):∀{l:List α}{i:Nat}{x y:α},l[i]?=YH x->F x y->Paired F l (l.set i y)
 |x'::l,0,x,y,e,f=>by
  cases e;exact .cons f (qI h l)
 |x'::l,i+1,x,y,e,f=>.cons (h x') (zK (l:=l) (i:=i) h e f)
mutual
theorem Ds:∀t:Tr,dC t t
 | .leaf r=>by rw[dC]
 | .iff v a c f o=>by rw[dC];exact⟨rfl,eT f,eT o⟩
 | .loop t m a c b=>by rw[dC];exact⟨rfl,rfl,eT b⟩
theorem eT:∀ts:List Tr,cM ts ts
 | []=>by rw[cM];trivial
 |t::ts=>by rw[cM];exact⟨Ds t,eT ts⟩
end
mutual
theorem Aa:∀(a b c:Tr),dC a b->dC b c->dC a c
 | .leaf r,b,c,h1,h2=>by
  cases b with
  |leaf r'=>
   rw[dC]at h1;rw[h1];exact h2
  |_=>simp[dC]at h1
 | .iff v l r f o,b,c,h1,h2=>by
  cases b with
  |iff v' l' r' f' o'=>
   cases c with
   |iff v2 l2 r2 f2 o2=>
    rw[dC]at h1 h2⊢;exact⟨h1.1.trans h2.1,eU f f' f2 h1.2.1 h2.2.1,eU o o' o2 h1.2.2 h2.2.2⟩
   |_=>simp[dC]at h2
  |_=>simp[dC]at h1
 | .loop t m l r x,b,c,h1,h2=>by
  cases b with
  |loop t' m' l' r' x'=>
   cases c with
   |loop t2 m2 l2 r2 x2=>
    rw[dC]at h1 h2⊢;exact⟨h1.1.trans h2.1,h1.2.1.trans h2.2.1,eU x x' x2 h1.2.2 h2.2.2⟩
   |_=>simp[dC]at h2
  |_=>simp[dC]at h1
theorem eU:∀(a b c:List Tr),cM a b->cM b c->cM a c
 | [],b,c,h1,h2=>by
  cases b with
  |nil=>exact h2
  |cons _ _=>simp[cM]at h1
 |t::ts,b,c,h1,h2=>by
  cases b with
  |nil=>simp[cM]at h1
  |cons t' ĳ=>
   cases c with
   |nil=>simp[cM]at h2
   |cons t2 ts2=>
    rw[cM]at h1 h2⊢;exact⟨Aa t t' t2 h1.1 h2.1,eU ts ĳ ts2 h1.2 h2.2⟩
end
def A8(k:Nat)(idx:List Nat)(f:Fr)(post:List Fr):Prop:=match f with
 | .loop _ m _ _=>∃c p2,post=aA c++ .fin::p2/\cF c<=k/\ĉ idx c
 | .iff _ _ _=>∃c o p2,post=aA c++ .Ā::(aA o++ .fin::p2)/\cF c<=k/\cF o<=k/\ĉ idx c/\ĉ idx o
 |_=>True
theorem A8.app(h:A8 k idx f post):A8 k idx f (post++q):=by
 cases f with
 |loop _ _ _ _=>
  obtain⟨c,p2,rfl,h⟩:=h;exact{c,p2++q,by simp,h}
 |iff _ _ _=>
  obtain⟨c,o,p2,rfl,h⟩:=h;exact{c,o,p2++q,by simp,h}
 |_=>trivial
theorem pj{α:Type}{f:α}:∀{a c p q:List α},a++c=p++f::q->(∃q1,a=p++f::q1/\q=q1++c)\/(∃p1,p=a++p1/\c=p1++f::q)
 | [],c,p,q,h=>.inr ⟨p,rfl,h⟩
 |x::a,c,[],q,h=>by
  cases h;exact .inl ⟨a,rfl,rfl⟩
 |x::a,c,y::p,q,h=>by
  injection h with h1 h2;subst h1;rcases pj h2 with⟨q1,e1,e2⟩|⟨p1,e1,e2⟩
  ·exact .inl {q1,by rw[e1];rfl,e2}
  exact .inr {p1,by rw[e1];rfl,e2}
theorem xQ(h:[g]=p++f::q):f=g:=by
 cases p with
 |nil=>cases h;rfl
 |cons y p=>
  injection h with _ h;cases p<;>cases h
mutual
theorem NO:∀(t:Tr)(pre:List Fr)(f:Fr)(post:List Fr),Ò t=pre++f::post->Ă t<=k->cT idx t->A8 k idx f post
 | .leaf r,pre,f,post,e,hd,hc=>by
  rw[Ò]at e;rw[xQ e];trivial
 | .iff v a c ff oo,pre,f,post,e,hd,hc=>by
  rw[Ò]at e;rw[Ă]at hd;rw[cT]at hc;cases pre with
  |nil=>
   injection e with e1 e2;rw[<-e1,<-e2];exact{ff,oo,[],rfl,(),(),hc.1,hc.2}
  |cons y pre=>
   injection e with _ e;rcases pj e with⟨q1,e1,e2⟩|⟨p1,e1,e2⟩
   ·rw[e2];exact(um ff pre f q1 e1 () hc.1).app
   cases p1 with
   |nil=>
    injection e2 with e3 _;rw[<-e3];trivial
   |cons y p1=>
    injection e2 with _ e2;rcases pj e2 with⟨q1,e1,e3⟩|⟨p2,e1,e3⟩
    ·rw[e3];exact(um oo p1 f q1 e1 () hc.2).app
    rw[xQ e3];trivial
 | .loop t m a c b,pre,f,post,e,hd,hc=>by
  rw[Ò]at e;rw[Ă]at hd;rw[cT]at hc;cases pre with
  |nil=>
   injection e with e1 e2;rw[<-e1,<-e2];exact{b,[],rfl,(),hc.2.2}
  |cons y pre=>
   injection e with _ e;rcases pj e with⟨q1,e1,e2⟩|⟨p1,e1,e2⟩
   ·rw[e2];exact(um b pre f q1 e1 () hc.2.2).app
   rw[xQ e2];trivial
theorem um:∀(ts:List Tr)(pre:List Fr)(f:Fr)(post:List Fr),aA ts=pre++f::post->cF ts<=k->ĉ idx ts->A8 k idx f post
 | [],pre,f,post,e,hd,hc=>by
  rw[aA]at e;cases pre<;>cases e
 |t::ts,pre,f,post,e,hd,hc=>by
  rw[aA]at e;rw[cF]at hd;rw[ĉ]at hc;rcases pj e with⟨q1,e1,e2⟩|⟨p1,e1,e2⟩
  ·rw[e2];exact(NO t pre f q1 e1 () hc.1).app
  exact um ts p1 f post e2 () hc.2
end
mutual
theorem K6:∀(t t':Tr),dC t t'->cT idx t->cT idx t'
 | .leaf r,t',h,c=>by
  cases t' with
  |leaf r'=>
   rw[dC]at h;rw[<-h];exact c
  |_=>simp[dC]at h
 | .iff v a c f o,t',h,hc=>by
  cases t' with
  |iff v' a' c' f' o'=>
   rw[dC]at h;rw[cT]at hc⊢;exact⟨kR f f' h.2.1 hc.1,kR o o' h.2.2 hc.2⟩
  |_=>simp[dC]at h
 | .loop t m a c b,t',h,hc=>by
  cases t' with
  |loop t' m' a' c' b'=>
   rw[dC]at h;obtain⟨_,rfl,h⟩:=h;rw[cT]at hc⊢;exact⟨hc.1,hc.2.1,kR b b' h hc.2.2⟩
  |_=>simp[dC]at h
theorem kR:∀(ts ĳ:List Tr),cM ts ĳ->ĉ idx ts->ĉ idx ĳ
 | [],ĳ,h,hc=>by
  cases ĳ with
  |nil=>exact hc
  |cons _ _=>simp[cM]at h
 |t::ts,ĳ,h,hc=>by
  cases ĳ with
  |nil=>simp[cM]at h
  |cons t' ĳ=>
   rw[cM]at h;rw[ĉ]at hc⊢;exact⟨K6 t t' h.1 hc.1,kR ts ĳ h.2 hc.2⟩
end
theorem Ke(f:Fr):decide (V.str f.wd=V.str "if")=(match f with| .iff _ _ _=>true|_=>false):=by
 cases f with
 |leaf r=>exact QQ.mpr (mU r).1
 |_=>rfl
theorem Kw(f:Fr):decide (V.str f.wd=V.str "loop")=(match f with| .loop _ _ _ _=>true|_=>false):=by
 cases f with
 |leaf r=>exact QQ.mpr (mU r).2
 |_=>rfl
inductive zx(vs:List V)(H:Hp)(Q:VK)(Ä:XK):Prop
 |mk (N M L xs fs pre post f D idx) (kn:Nat->Option Int) (z0:vs=[.ref L,.int (pre.length:Nat),.ref D]) (z1:H L=YH (.lst xs)) (z2:ba N (del M H) fs xs) (z3:fs=pre++f::post) (z4:A8 6 idx f post) (z5:lF N H D idx λi=>oI (kn i)) (z6:xs.length<=300) (z7:∀m∈M,H m≠YI)
  (z8:∀(v f' H'),aj H H'->eqI f f'->lG N (del M H') v f'->Q v H'):zx vs H Q Ä
theorem Ic(T:Txt K mg A):T.kF.Hz P w base 9 zx:=by
 have dy:=tN (P:=P) (w:=w) (base:=base) T 6;refine T.kF.hs (k:=8) bH (λg Ã A' outer s H vs Q E hr hu h=>?_);obtain⟨N,M,L,xs,fs,pre,post,f,D,idx,kn,rfl,hL,fr,Ć,cut,hD,lx,hM,q⟩:=h;have frH:=ba.same cN fr;have dS:∀{H':Hp},aj H H'->aj (del M H) (del M H'):=λs a o e=>by
  obtain⟨h1,h2⟩:=cC e;exact aP h1 (s _ _ h2)
 have dN:∀{H':Hp}{a:RJ}{o:HO},aj H H'->H a=YI->H' a=YH o->del M H' a=YH o:=λ{H' a o} s h e=>aP (λm=>hM a m h) e;obtain⟨v,av,fv0⟩:=ij frH Ć;obtain⟨v2,av2,fvD⟩:=ij fr Ć;have:v2=v:=by rw[av2]at av;exact R6 av
 subst this;have fvD0:=fvD;obtain⟨a,p,rfl,haD,hobD⟩:=fvD;have ha:=(cC haD).2;have hLS:=À.of (K:=K) hL;refine⟨_,(ae (Ç 3 bH.nd (px hu (fv 0) (fv 1)))
  (ae (aS (Í (cn hu) (px hu (fv 3) af) aw)
   (ae (bR (ak (hj:=by lia) dy hr (fv 0^az aQ (fv 1) af^fv 2^ab)) (dj rfl (aN (Ð (i:=4) bH.nd rfl) (aN (Ð (i:=5) bH.nd rfl) cc))))
   (ai (aS (Í fS (fv 4) bX)
    (ai (aD (aV (aw^px hu (fv 3) af^px hu (fv 3) af^px hu (fv 3) af^az aQ (px hu (fv 3) af) (fv 4)^ab))))
    aF)))
   aF)
  (ae (aS (Í (cn hu) (px hu (fv 3) af) aw)
   (ae (bR (ak (hj:=by lia) dy hr (fv 0^az aQ (fv 1) af^fv 2^ab)) (dj rfl (aN (Ð (i:=4) bH.nd rfl) (aN (Ð (i:=5) bH.nd rfl) cc))))
   (ae (bR (ak (hj:=by lia) dy hr (fv 0^az aQ (fv 5) af^fv 2^ab)) (dj rfl (aN (Ð (i:=6) bH.nd rfl) (aN (Ð (i:=5) bH.nd rfl) cc))))
   (ai (aS (PW.pt (pw_and (Í fS (fv 4) bX) (pw_and1 (Í fS (fv 6) bX))))
    (ae (Ç 7 bH.nd (Þ Na T.Bz (az aQ (px hu (fv 3) af) (fv 4)^az aQ (px hu (fv 3) af) (fv 6)^ab)))
    (ai (aD (aV (aw^px hu (fv 3) af^az pN (fv 7) (fv 4)^az pN (fv 7) (fv 6)^ab)))))
    aF))))
   aF)
  (ai (aD (fv 3)))))),?_⟩
 refine ag λM1 K1=>ï hLS av (K1 _ _ ?_);clear K1 M1;try dsimp only
 refine ag λM1 K1=>?_;have b1:(match f with| .loop _ _ _ _=>True|_=>False)->∀(u4 u5:Option V)(H1:Hp),aj H H1->M1 [YH (.ref L),YH (.int (pre.length:Nat)),YH (.ref D),YH (.ref a),u4,u5,YI,YI] H1:=by
  intro hf u4 u5 H1 s1;refine K1 _ _ ?_;cases f with
  |loop t m l r=>
   exact Ê (j:=0) (È.of (s1 _ _ ha)) rfl {rfl,_,rfl,bg (λz=>absurd z (show ¬ decide (V.str "loop"=V.str "if")=true by decide)) (λ_=>q _ _ H1 s1 (mX _) (fvD0.same (dS s1)))}
  |_=>exact hf.elim
 cases f with
 |loop t m l r=>
  obtain⟨c,p2,ep,dpc,ckc⟩:=cut;clear K1;refine Ê (j:=0) (È.of ha) rfl {rfl,_,rfl,bg (λ_=>?_) (λz=>absurd (show decide (V.str "loop"=V.str "loop")=true from decide_eq_true rfl) z)};have Ġ:fs=(pre++[.loop t m l r])++aA c++ .fin::p2:=by
   rw[Ć,ep];simp
  have l1:(pre++[Fr.loop t m l r]).length=pre.length+1:=by simp
  try dsimp only
  refine ag λN2 J2=>{N,H,L,xs,fs,_,_,c,.fin,D,idx,kn,by rw[l1];push_cast;rfl,aj.refl _,hL,frH,Ġ,rfl,dpc,ckc,hD,lx,λp1 H3 s3 ľ=>{p1,_,rfl,È.of ľ,rfl,_,_,rfl,_,_,rfl,rfl,J2 _ _ ?_}};clear J2 N2;try dsimp only
  cases ex:gg kn c with
  |none=>exact{rfl,_,rfl,aY (b1 trivial _ _ H3 s3)}
  |some x=>
   have hT:=È.of (K:=K) (s3 _ _ ha);refine{rfl,_,rfl,bW (Ê (j:=1) hT rfl (Ê (j:=2) hT rfl (Ê (j:=3) hT rfl (Ê (j:=3) hT rfl {by show 5<=sizeLine;decide,λn hn=>?_}))))};have s4:=aj.upd hn (HO.tup [V.str "loop",t.v N,V.int m,V.int l,V.int (l+x)]);refine q (.ref n) (.loop t m l (l+x)) _ (s3.trans s4) ⟨rfl,rfl⟩ {n,n,rfl,dN (s3.trans s4) (aj.free s3 hn) ao,λo ho=>by cases ho}
 |iff v l r=>
  obtain⟨c,o,p2,ep,dpc,dpo,ckc,cko⟩:=cut;clear b1;refine Ê (j:=0) (È.of ha) rfl {rfl,_,rfl,bg (λz=>absurd z (show ¬ decide (V.str "if"=V.str "loop")=true by decide)) (λ_=>K1 _ _ ?_)};clear K1 M1;try dsimp only
  refine ag λM1 K1=>?_;have b2:∀(u4 u5 u6:Option V)(H1:Hp),aj H H1->M1 [YH (.ref L),YH (.int (pre.length:Nat)),YH (.ref D),YH (.ref a),u4,u5,u6,YI] H1:=λu4 u5 u6 H1 s1=>K1 _ _ (q _ _ H1 s1 (mX _) (fvD0.same (dS s1)));clear K1;refine Ê (j:=0) (È.of ha) rfl {rfl,_,rfl,bg (λ_=>?_) (λz=>absurd (show decide (V.str "if"=V.str "if")=true from decide_eq_true rfl) z)};have Ġ:fs=(pre++[.iff v l r])++aA c++ .Ā::(aA o++ .fin::p2):=by
   rw[Ć,ep];simp
  have e2':fs=(pre++[.iff v l r]++aA c++[.Ā])++aA o++ .fin::p2:=by
   rw[Ġ];simp
  have l1:(pre++[Fr.iff v l r]).length=pre.length+1:=by simp
  have l2:(pre++[Fr.iff v l r]++aA c++[Fr.Ā]).length=pre.length+1+(aA c).length+1:=by simp only[OX,O3]
  try dsimp only
  refine ag λN2 J2=>{N,H,L,xs,fs,_,_,c,.Ā,D,idx,kn,by rw[l1];push_cast;rfl,aj.refl _,hL,frH,Ġ,rfl,dpc,ckc,hD,lx,λp1 H3 s3 ľ=>{p1,_,rfl,È.of ľ,rfl,_,_,rfl,_,_,rfl,rfl,J2 _ _ ?_}};clear J2 N2;try dsimp only
  refine ag λN2 J2=>{N,H,L,xs,fs,_,_,o,.fin,D,idx,kn,by rw[l1,l2];push_cast;rfl,s3,hL,frH,e2',rfl,dpo,cko,lF.mono hD s3,lx,λp2 H4 s4 ep2=>{p2,_,rfl,È.of ep2,rfl,_,_,rfl,_,_,rfl,rfl,J2 _ _ ?_}};clear J2 N2;have Ę:=s3.trans s4;try dsimp only
  cases ex:gg kn c with
  |none=>exact{rfl,_,rfl,aY (aY (b2 _ _ _ H4 Ę))}
  |some x=>
   refine{rfl,_,rfl,bW ?_};cases ey:gg kn o with
   |none=>exact{rfl,_,rfl,aY (b2 _ _ _ H4 Ę)}
   |some y=>
    have hT:=È.of (K:=K) (Ę _ _ ha);refine{rfl,_,rfl,bW ?_};try dsimp only
    refine ag λN2 J2=>Ê (j:=2) hT rfl (Ê (j:=3) hT rfl {_,_,rfl,?_});generalize (if r+y>l+x then r+y else l+x)=hi;refine J2 _ _ ?_;try dsimp only
    refine Ê (j:=1) hT rfl {by show 4<=sizeLine;decide,λn hn=>?_};have s5:=aj.upd hn (HO.tup [V.str "if",V.ref p,V.int (hi-x),V.int (hi-y)]);exact q (.ref n) (.iff v (hi-x) (hi-y)) _ (Ę.trans s5) rfl {n,p,rfl,dN (Ę.trans s5) (aj.free Ę hn) ao,λo ho=>(dS (Ę.trans s5)) _ _ (hobD o ho)}
 |leaf r=>
  clear b1;refine Ê (j:=0) (È.of ha) rfl {rfl,_,rfl,bg (λz=>absurd z (mU r).2) (λ_=>K1 _ _ ?_)};clear K1 M1;try dsimp only
  exact Ê (j:=0) (È.of ha) rfl {rfl,_,rfl,bg (λz=>absurd z (mU r).1) (λ_=>q _ _ H (aj.refl _) (mX _) fvD0)}
 |_=>
  clear b1;refine Ê (j:=0) (È.of ha) rfl {rfl,_,rfl,bg (λz=>absurd z (by rw[Kw];exact Pa)) (λ_=>K1 _ _ ?_)};clear K1 M1;try dsimp only
  exact Ê (j:=0) (È.of ha) rfl {rfl,_,rfl,bg (λz=>absurd z (by rw[Ke];exact Pa)) (λ_=>q _ _ H (aj.refl _) (mX _) fvD0)}
noncomputable abbrev ģ:=Fr×List Tr
noncomputable def uP(s:ģ):List Fr:=s.1::(aA s.2++[.fin])
noncomputable def Ô(ss:List ģ):List Fr:=ss.flatMap uP
noncomputable def kN(ds:List De)(mb:List Tr):List ģ:=ds.map (λd=>(.bq d.1 d.2.1,d.2.2))++[(.main,mb)]
theorem zu (hs ds mb):Ą hs ds mb=hs.map Fr.leaf++Ô (kN ds mb):=by
 have h:∀ds:List De,bE ds=Ô (ds.map λd=>(.bq d.1 d.2.1,d.2.2)):=λds=>by
  unfold bE Ô;rw[List.flatMap_map];rfl
 unfold Ą kN;rw[h];unfold Ô;rw[Qj,Pn];simp[uP]
theorem CJ (a b):Ô (a++b)=Ô a++Ô b:=Qj
theorem mP (s b):Ô (s::b)=uP s++Ô b:=rfl
def Li(s s':ģ):Prop:=s.1=s'.1/\cM s.2 s'.2
def pE(a b:List ģ):Prop:=Paired Li a b
theorem Ew(h:Li s s'):(uP s').length=(uP s).length:=by
 have:=(jQ (ps:=[]) (dd:=[]) _ _ h.2).2.2;unfold uP;simp[this]
theorem pE.len:∀{a b:List ģ},pE a b->(Ô b).length=(Ô a).length:=by
 intro a b h;induction h with
 |nil=>rfl
 |cons h _ ih=>rw[mP,mP,OX,OX,Ew h,ih]
noncomputable def hIx:Fr->List Nat
 | .bq i _=>[i]
 |_=>[]
noncomputable def kU(ss:List ģ):List Nat:=ss.flatMap λs=>hIx s.1
theorem pE.idx:∀{a b:List ģ},pE a b->kU b=kU a:=by
 intro a b h;induction h with
 |nil=>rfl
 |cons h _ ih=>
  show hIx _++kU _=hIx _++kU _;rw[h.1,ih]
noncomputable def knE(kn:Nat->Option Int)(s:ģ):Nat->Option Int:=match s.1 with
 | .bq i _=>λj=>if j=i then gg kn s.2 else kn j
 |_=>kn
noncomputable def knS(ss:List ģ):Nat->Option Int:=ss.foldl knE λ_=>YI
theorem y9 (ss s):knS (ss++[s])=knE (knS ss) s:=by
 unfold knS;rw[Rr];rfl
noncomputable def lU:Nat->List Fr->List Nat
 |_,[]=>[]
 |n,f::fs=>(if ď f=true then[n]else[])++lU (n+1) fs
theorem uD:∀a b n,lU n (a++b)=lU n a++lU (n+a.length) b
 | [],b,n=>by simp[lU]
 |f::a,b,n=>by
  show _++lU (n+1) (a++b)=(_++lU (n+1) a)++_;rw[uD a b,O6,Pn,show n+1+a.length=n+(a.length+1) by lia]
theorem xX:∀{a:List Fr}{n:Nat},(∀f∈a,ď f=false)->lU n a=[]
 | [],n,h=>rfl
 |f::a,n,h=>by
  show(if ď f=true then[n]else[])++lU (n+1) a=[];rw[h f O9,xX λx hx=>h x (O8 _ hx)];rfl
mutual
theorem N0:∀(t:Tr),∀f∈Ò t,ď f=false
 | .leaf r,f,h=>by
  rw[Ò]at h;rw[OY.mp h];rfl
 | .iff v a c ff o,f,h=>by
  rw[Ò]at h;rcases O2.mp h with rfl|h
  ·rfl
  rcases O5.mp h with h|h
  ·exact y8 ff f h
  rcases O2.mp h with rfl|h
  ·rfl
  rcases O5.mp h with h|h
  ·exact y8 o f h
  rw[OY.mp h];rfl
 | .loop t m a c b,f,h=>by
  rw[Ò]at h;rcases O2.mp h with rfl|h
  ·rfl
  rcases O5.mp h with h|h
  ·exact y8 b f h
  rw[OY.mp h];rfl
theorem y8:∀(ts:List Tr),∀f∈aA ts,ď f=false
 | [],f,h=>by
  rw[aA]at h;cases h
 |t::ts,f,h=>by
  rw[aA]at h;rcases O5.mp h with h|h
  ·exact N0 t f h
  exact y8 ts f h
end
theorem F4(h:ď s.1=true) (n):lU n (uP s)=[n]:=by
 show(if ď s.1=true then[n]else[])++lU (n+1) (aA s.2++[.fin])=[n];have e:∀f∈aA s.2++[Fr.fin],ď f=false:=λf hf=>by
  rcases O5.mp hf with hf|hf
  ·exact y8 _ f hf
  rw[OY.mp hf];rfl
 rw[if_pos h,xX e];rfl
theorem GV:∀{ss:List ģ}{n:Nat},(∀s∈ss,ď s.1=true)->lU n (Ô ss)=(R8 ss.length).map λk=>n+(Ô (ss.take k)).length
 | [],n,_=>rfl
 |s::ss,n,h=>by
  rw[mP,uD,F4 (h s O9),GV λx hx=>h x (O8 _ hx),O6,List.range_succ_eq_map,Pm,QE];show n::_=(n+(Ô ([]:List ģ)).length)::_;congr 1;refine Q0 λk _=>?_;show n+(uP s).length+(Ô (ss.take k)).length=n+(Ô (s::ss.take k)).length;rw[mP,OX,Rf]
theorem yP:∀fs n,(List.range' n fs.length).filter (λi=>ď (fs.getD (i-n) .fin))=lU n fs
 | [],n=>rfl
 |f::fs,n=>by
  rw[O6,List.range'_succ,Qm];have e:(List.range' (n+1) fs.length).filter (λi=>ď ((f::fs).getD (i-n) .fin))=lU (n+1) fs:=by
   rw[<-yP fs (n+1)];refine List.filter_congr λi hi=>?_;have:=(List.mem_range'_1.mp hi).1;rw[show i-n=(i-(n+1))+1 by lia];rfl
  rw[e,Qn];show(if ď f=true then n::lU (n+1) fs else lU (n+1) fs)=(if ď f=true then[n]else[])++lU (n+1) fs;split<;>rfl
theorem DD{hs:List Lr}{ss:List ģ}(h:∀s∈ss,ď s.1=true):(R8 (hs.map Fr.leaf++Ô ss).length).filter (λi=>ď ((hs.map Fr.leaf++Ô ss).getD i .fin))=(R8 ss.length).map λk=>hs.length+(Ô (ss.take k)).length:=by
 have:=yP (hs.map Fr.leaf++Ô ss) 0;rw[<-List.range_eq_range',uD,xX (a:=hs.map Fr.leaf) (by
  intro f hf;obtain⟨r,_,rfl⟩:=Pb.mp hf;rfl),GV h,Pz,OZ]at this
 simpa using this
theorem yy{α β:Type}{F}{y z:β}{C:List β}(h:∀x,F x z->F x y):∀{A:List β}{l:List α},Paired F l (A++z::C)->Paired F l (A++y::C)
 | [],_,.cons e r=>.cons (h _ e) r
 |_::A,_,.cons e r=>.cons e (yy h (A:=A) r)
theorem qc(h:Paired F a b) (k):Paired F (a.take k) (b.take k):=mS k h
theorem wF(h:l[i]?=YH x):l=l.take i++x::l.drop (i+1):=by
 obtain⟨hi,e⟩:=Pl.mp h;rw[<-e,List.getElem_cons_drop,PQ]
theorem CM(h:j<n):Ś n (j:Int)=YH j:=by
 unfold Ś;rw[if_pos (),if_pos ()];simp
structure JG(N:Nat->Str)(ss:List ģ):Prop where
 hd:∀s∈ss,ď s.1=true
 bo:∀(k:Nat) s,ss[k]?=YH s->cF s.2<=6/\ĉ (kU (ss.take k)) s.2
 ix:∀i∈kU ss,i<24
 ln:ss.length<=10
theorem HQ{hs:List Lr}{ds:List De}{mb:List Tr}(O:eX hs ds mb):JG N (kN ds mb) where
 hd:=λs m=>by
  rcases O5.mp m with m|m
  ·obtain⟨d,_,rfl⟩:=Pb.mp m;rfl
  rw[OY.mp m];rfl
 bo:=λk s hk=>by
  have idt:∀l:List De,kU (l.map λd=>(.bq d.1 d.2.1,d.2.2))=l.map (·.1):=λl=>by
   induction l with
   |nil=>rfl
   |cons d l ih=>
    show[d.1]++kU _=_;rw[ih];rfl
  unfold kN at hk⊢;by_cases c:k<ds.length
  ·rw[PY (by simpa using c),Pk]at hk;cases hd:ds[k]? with
   |none=>rw[hd]at hk;cases hk
   |some d=>
   rw[hd]at hk;cases hk;obtain⟨_,_,ok,dpd,_⟩:=O.de.at' k d hd;refine{dpd,?_};rw[QP (by rw[OZ];lia),<-Rp,idt];refine qJ (λe he=>?_) d.2.2 false ok;obtain⟨d',m',rfl⟩:=Pb.mp he;exact Pb.mpr ⟨d',m',rfl⟩
  have hk':=(Pl.mp hk).1;rw[OX,OZ,O3]at hk';have ek:k=ds.length:=()
  subst ek;rw[PU (by rw[OZ];exact O4 _),OZ,Qn]at hk;cases hk;refine{O.md,?_};rw[QP (by rw[OZ];exact O4 _),P6 (by rw[OZ];exact O4 _),idt];refine qJ (λe he=>?_) mb false O.mo;obtain⟨d',m',rfl⟩:=Pb.mp he;exact Pb.mpr ⟨d',m',rfl⟩
 ix:=λi hi=>by
  obtain⟨s,ms,hi⟩:=Qb.mp hi;rcases O5.mp ms with m|m
  ·obtain⟨d,md,rfl⟩:=Pb.mp m;obtain⟨k,hk⟩:=Py md;rw[OY.mp hi,(O.de.at' k d hk).1];exact Aj
  rw[OY.mp m]at hi;cases hi
 ln:=by
  unfold kN;rw[OX,OZ,O.dl];show 4<=10;decide
theorem DM(O:eX hs ds mb)(h:pE (kN ds mb) ç):∃Ĭ mb',ç=kN Ĭ mb'/\eX hs Ĭ mb'/\Ĭ.map (λd=>(d.1,d.2.1))=ds.map λd=>(d.1,d.2.1):=by
 unfold kN pE at h;obtain⟨g1,g2,rfl,h1,h2⟩:=fM h;obtain⟨m',rfl,e2⟩:=nv h2;obtain⟨mh,mb'⟩:=m';have e0:Fr.main=mh:=e2.1;subst e0;have key:∀(ds:List De)(g:List ģ),Paired Li (ds.map λd=>(Fr.bq d.1 d.2.1,d.2.2)) g->∃Ĭ:List De,g=Ĭ.map (λd=>(Fr.bq d.1 d.2.1,d.2.2))/\Ĭ.map (λd=>(d.1,d.2.1))=ds.map (λd=>(d.1,d.2.1))/\∀(k:Nat) d',Ĭ[k]?=YH d'->∃d,ds[k]?=YH d/\d'.1=d.1/\d'.2.1=d.2.1/\cM d.2.2 d'.2.2:=by
  intro ds;induction ds with
  |nil=>
   intro g hg;cases hg;exact{[],rfl,rfl,λk d h=>by simp at h}
  |cons d ds ih=>
   intro g hg;cases hg with
   |cons e r=>
    rename_i y g;obtain⟨Ĭ,rfl,e1,e2⟩:=ih g r;obtain⟨yh,yb⟩:=y;have e3:Fr.bq d.1 d.2.1=yh:=e.1;subst e3;refine{(d.1,d.2.1,yb)::Ĭ,rfl,by rw[Pm,Pm,e1],λk d' hk=>?_};cases k with
    |zero=>
     cases hk;exact⟨d,rfl,rfl,rfl,e.2⟩
    |succ k=>exact e2 k d' hk
 obtain⟨Ĭ,rfl,em,ea⟩:=key ds g1 h1;have dl:Ĭ.length=ds.length:=by
  have:=congrArg TF em;simpa using this
 have ddt:∀k,i8 (Ĭ.take k)=i8 (ds.take k):=λk=>by
  have h:∀l:List De,i8 l=(l.map λd=>(d.1,d.2.1)).map λx=>(x.1,x.2.length):=λl=>by
   unfold i8;rw[QE];rfl
  rw[h,h];congr 1;rw[Rp,Rp,em]
 have dda:i8 Ĭ=i8 ds:=by
  have:=ddt ds.length;rwa [P6 (),P6 (O4 _)]at this
 obtain⟨m1,m2,m3⟩:=jQ (ps:=[]) (dd:=i8 ds) _ _ e2.2;refine{Ĭ,mb',rfl,{O.hd,dl.trans O.dl,⟨λk d' hk=>?_⟩,by rw[dda];exact m1 false O.mo,by rw[m2];exact O.md,by rw[m3];exact O.ml},em};obtain⟨d,hd,e1,e2,e3⟩:=ea k d' hk;obtain⟨a1,a2,a3,a4,a5⟩:=O.de.at' k d hd;obtain⟨b1,b2,b3⟩:=jQ (ps:=d.2.1) (dd:=i8 (ds.take k)) _ _ e3;refine{e1.trans a1,by rw[e2];exact a2,by rw[e2,ddt];exact b1 false a3,by rw[b2];exact a4,by rw[b3];exact a5}
theorem Ae{hs:List Lr}{a c:List ģ}{h:Fr}{b:List Tr}:hs.map Fr.leaf++Ô (a++(h,b)::c)=(hs.map Fr.leaf++Ô a++[h])++(aA b++ .fin::Ô c):=by
 rw[CJ,mP];simp[uP]
theorem HE{hs:List Lr}{a:List ģ}{h:Fr}:(hs.map Fr.leaf++Ô a++[h]).length=hs.length+(Ô a).length+1:=by
 simp only[OX,OZ,O3]
theorem HP(hj:j<=(aA b).length)(e:(aA b++ .fin::Q)[j]?=YH f)(h:eqI f f'):∃b',(aA b++ .fin::Q).set j f'=aA b'++ .fin::Q/\cM b b':=by
 by_cases c:j<(aA b).length
 ·rw[PY c]at e;obtain⟨b',e1,s1⟩:=o8 b _ (zK mX e h);exact{b',by rw[List.set_append_left _ _ c,e1],s1}
 have ej:j=(aA b).length:=()
 subst ej;rw[PU (O4 _),Qn]at e;cases e;rw[wJ h];refine{b,?_,eT b};rw[Ri _ _ (O4 _),Qn];rfl
theorem GZ(hj:j<=(aA b).length)(e:(aA b++ .fin::Q)[j]?=YH f)(hd:cF b<=k)(hc:ĉ idx b):A8 k idx f ((aA b++ .fin::Q).drop (j+1)):=by
 by_cases c:j<(aA b).length
 ·rw[PY c]at e;rw[List.drop_append_of_le_length ()];exact(um b _ f _ (wF e) hd hc).app
 have ej:j=(aA b).length:=()
 subst ej;rw[PU (O4 _),Qn]at e;cases e;trivial
noncomputable def Ÿ(hs:List Lr)(ss:List ģ):List V:=(R8 (ss.length+1)).map λk=>V.int ((hs.length+(Ô (ss.take k)).length:Nat):Int)
theorem Gh(h:k<=ss.length):(Ÿ hs ss)[k]?=YH (V.int ((hs.length+(Ô (ss.take k)).length:Nat):Int)):=by
 unfold Ÿ;rw[Pk,QL ()];rfl
theorem NH(h:∀s∈ss,ď s.1=true):(((R8 (hs.map Fr.leaf++Ô ss).length).filter (λi=>ď ((hs.map Fr.leaf++Ô ss).getD i .fin))).map λ(i:Nat)=>V.int (0+(i:Int)))++[V.int (((hs.map Fr.leaf++Ô ss).length:Nat):Int)]=Ÿ hs ss:=by
 rw[DD h];unfold Ÿ;rw[Ry,PB,QE];congr 1
 ·refine Q0 λk _=>?_;show V.int (0+((hs.length+(Ô (ss.take k)).length:Nat):Int))=_;rw[RH]
 show[_]=[V.int ((hs.length+(Ô (ss.take ss.length)).length:Nat):Int)];rw[PM,OX,OZ]
inductive yC(vs:List V)(H:Hp)(Q:VK)(Ä:XK):Prop
 |mk(N:Nat->Str)(L0:RJ)(c:Int)(xs:List V)(hs:List Lr)(ss:List ģ)(z0:vs=[.ref L0,.int c])(z1:H L0=YH (.lst xs))(z2:ba N H (hs.map Fr.leaf++Ô ss) xs)(z3:JG N ss)(z4:ko N)(z5:xs.length<=300)
  (z8:∀(p L D:RJ)(xs':List V)(ç:List ģ)(H':Hp),aj H H'->H' p=YH (.tup [.ref L,.ref D])->H' L=YH (.lst xs')->pE ss ç->ba N H' (hs.map Fr.leaf++Ô ç) xs'->lF N H' D (kU ç) (λi=>oI (knS ç i))->Q (.ref p) H'):yC vs H Q Ä
inductive Bo(L:RJ)(c:Int)(D:RJ)(B3:RJ)(H4:Hp)(ss:List ģ)(N:Nat->Str)(hs:List Lr)(k:Nat)(B:St)(Hc:Hp):Prop
 |mk (ç xs' kvs v4 v5 v6 v7):B=[YH (.ref L),YH (.int c),YH (.ref D),YH (.ref B3),v4,v5,v6,v7]->Sm [L,D] H4 Hc->Hc L=YH (.lst xs')->pE ss ç->ba N (del [L,D] Hc) (hs.map Fr.leaf++Ô ç) xs'->Hc D=YH (.dK kvs)->kvs.length<=k->(∀i∈kU (ç.take k),L2.cf kvs (.inr (N i))=YH (oI (knS (ç.take k) i)))->Bo L c D B3 H4 ss N hs k B Hc
inductive Ct(L:RJ)(c:Int)(D:RJ)(B3:RJ)(k:Nat)(v6:Option V)(v7:Option V)(H4:Hp)(kvs:List (Key×V))(b:List Tr)(N:Nat->Str)(PR:List Fr)(SC:List ģ)(i:Nat)(B:St)(Hd:Hp):Prop
 |mk (b' ð v5):B=[YH (.ref L),YH (.int c),YH (.ref D),YH (.ref B3),YH (.int (k)),v5,v6,v7]->Sm [L,D] H4 Hd->Hd L=YH (.lst ð)->Hd D=YH (.dK kvs)->cM b b'->ba N (del [L,D] Hd) (PR++(aA b'++ .fin::Ô SC)) ð->Ct L c D B3 k v6 v7 H4 kvs b N PR SC i B Hd
theorem IK(T:Txt K mg A):T.jJ.Hz P w base 10 yC:=by
 refine T.jJ.hs (k:=9) bL (λg Ã A' outer s H vs Q E hr hu h=>?_);obtain⟨N,L0,c,xs,hs,ss,rfl,hL0,fr,O,nm,lx,q⟩:=h;have lf:=RT fr;have sln:=O.ln;refine⟨_,(ae (Ç 0 bL.nd (ĥ sr T.dW (fv 0^ab)))
  (ae (Ç 2 bL.nd (sP))
  (ae (Ç 3 bL.nd (az aQ (eA (N:=["_law_at","_law_flat_here"]) (own:=1) (fr:=[0]) (cw.of (by kernel_rfl!)) rfl (dA rfl T.dF (Þ gI T.iw (fv 0^ab)^ab)) (λb=>Ð (i:=0) (show Sz (["_law_at","_law_flat_here"]:List Ti) by decide+kernel) rfl) (λb=>ye (Í (EE hu) (px hu (px hu (fv 1) (fv 0)) af) (aV (aw^aw^ab)) ((by with_unfolding_all rfl)))) (λb=>fv 0)) (aI (Þ gI T.iw (fv 0^ab)^ab))))
  (ae (bS RW rfl (dA rfl T.dF (az pN (Þ gI T.iw (fv 3^ab)) af^ab)) (Ð (i:=4) bL.nd rfl)
   (ae (bS RW rfl (Az rfl T.dF (az pN (px hu (fv 3) (az aQ (fv 4) af)) af^px hu (fv 3) (fv 4)^oa jm af^ab)) (Ð (i:=5) bL.nd rfl)
    (ai (aS (Í zE (az bK (ak (hj:=by lia) (pG T) hr (fv 1^fv 5^ab)) af) (az bK (fv 1) af))
     (ai (bR (ak (hj:=by lia) (Ic T) hr (fv 0^fv 5^fv 2^ab)) (fD (fv 0) (fv 5) (fG hu YN))))
     aF)))
   (ae (bR (ak (hj:=by lia) (tN T 6) hr (fv 0^az aQ (px hu (fv 3) (fv 4)) af^fv 2^ab)) (dj rfl (aN (Ð (i:=6) bL.nd rfl) (aN (Ð (i:=7) bL.nd rfl) cc))))
   (ai (aS (Í (cn hu) (px hu (px hu (fv 0) (px hu (fv 3) (fv 4))) af) aw)
    (ai (bR (fv 6) (fD (fv 2) (px hu (px hu (fv 0) (px hu (fv 3) (fv 4))) af) (fG hu YN))))
    aF)))))
  (ai (aD (aV (fv 0^fv 2^ab)))))))),?_⟩
 refine ag λM1 K1=>Pg {L0,xs,rfl,Pg (À.of hL0),λL hL=>?_};obtain⟨s1,e1⟩:=É hL (HO.lst xs);generalize upd H L _=H1 at s1 e1⊢;refine K1 _ _ ?_;clear K1 M1;try dsimp only
 refine ag λM1 K1 D hD=>K1 _ _ ?_;clear K1 M1;obtain⟨s2,e2⟩:=É hD (HO.dK []);have DL:D≠L:=YJ hD (e1);generalize upd H1 D _=H2 at s2 e2⊢;have Ġ:=s2 _ _ e1;have t2:=s1.trans s2;have HD:H D=YI:=aj.free s1 hD;try dsimp only
 refine ag λM1 K1=>lnl Ġ {_,rfl,(),(),?_};rw[show((xs.length:Nat):Int).toNat=(hs.map Fr.leaf++Ô ss).length by rw[lf];simp];refine uy (n:=(hs.map Fr.leaf++Ô ss).length) (λi=>ď ((hs.map Fr.leaf++Ô ss).getD i .fin)) (λi=>V.int (0+(i:Int))) (aH ()) (λb i Hc R hi sc k=>?_) (λb i Hc R hi _ sc k=>k Hc (aj.refl _)) (λÁ Hc hB sc eB=>?_)
 ·obtain⟨f,hf⟩:∃f,(hs.map Fr.leaf++Ô ss)[i]?=YH f:={_,O7 hi};obtain⟨v,hv,a,p,rfl,ha,hob⟩:=oW (i:=i) (a:=f) fr hf;have ej:(0:Int)+(i:Int)=(i:Int):=()
  have ed:(hs.map Fr.leaf++Ô ss).getD i .fin=f:=by rw[PD,hf];rfl
  rw[ej];rw[ed]at k;refine Č (À.of (sc _ _ Ġ)) hv (Ê (j:=0) (È.of ((t2.trans sc) _ _ ha)) rfl {by show 2<=sizeLine;decide,λtp ß=>?_});obtain⟨s3,e3⟩:=É ß (HO.tup [V.str "deed",V.str "main"]);generalize upd Hc tp _=H3 at s3 e3⊢;refine Pg {_,Qs (È.of e3),rfl,rfl,_,rfl,?_};rw[show(if false=true then !č (V.str f.wd) [V.str "deed",V.str "main"]else č (V.str f.wd) [V.str "deed",V.str "main"])=ď f from EM f];exact k H3 s3
 have e1c:=sc _ _ Ġ;have e2c:=sc _ _ e2;refine lnl e1c {by show 1<=sizeLine;decide,λB2 hB2=>?_};have s3:=aj.upd hB2 (HO.lst [V.int (xs.length:Nat)]);refine{Á,B2,_,_,rfl,rfl,s3 _ _ eB,ao,sz (by rw[OZ,O3];have:=Qd (λi=>ď ((hs.map Fr.leaf++Ô ss).getD i .fin)) (R8 (hs.map Fr.leaf++Ô ss).length);rw[Qi]at this;lia),λB3 hB3=>K1 _ _ ?_};clear K1 M1;have eb:(((R8 (hs.map Fr.leaf++Ô ss).length).filter (λi=>ď ((hs.map Fr.leaf++Ô ss).getD i .fin))).map λ(i:Nat)=>V.int (0+(i:Int)))++[V.int ((xs.length:Nat):Int)]=Ÿ hs ss:=by
  rw[<-lf];exact NH O.hd
 rw[eb];have Ę:=s3.trans (aj.upd hB3 (HO.lst (Ÿ hs ss)));have eB3:upd (upd Hc B2 (HO.lst [V.int (xs.length:Nat)])) B3 (HO.lst (Ÿ hs ss)) B3=YH (.lst (Ÿ hs ss)):=ao;generalize upd (upd Hc B2 (HO.lst [V.int (xs.length:Nat)])) B3 (HO.lst (Ÿ hs ss))=H4 at Ę eB3⊢;have t4:aj H H4:=t2.trans (sc.trans Ę);have L4:=Ę _ _ e1c;have D4:=Ę _ _ e2c;have BM:B3∉[L,D]:=λm=>by
  simp only[O2,Po,or_false]at m;rcases m with m|m
  ·rw[m]at hB3;rw[s3 _ _ e1c]at hB3;cases hB3
  rw[m]at hB3;rw[s3 _ _ e2c]at hB3;cases hB3
 have HM:∀a o,H a=YH o->a∉[L,D]:=λa o e m=>by
  simp only[O2,Po,or_false]at m;rcases m with m|m
  ·rw[m,hL]at e;cases e
  rw[m,HD]at e;cases e
 have mL:L∈[L,D]:=O9;have mD:D∈[L,D]:=O8 _ O9;have fr4:ba N (del [L,D] H4) (hs.map Fr.leaf++Ô ss) xs:=ba.same (λa o e=>aP (HM a o e) (t4 a o e)) fr;have bl:(Ÿ hs ss).length=ss.length+1:=by unfold Ÿ;rw[OZ,Qi]
 clear hB3 hB2 s3 eB hB e1c e2c sc Ę eb;try dsimp only
 refine ag λM1 K1=>lnl eB3 {_,rfl,(),(),?_};rw[show((((Ÿ hs ss).length:Nat):Int)-1).toNat=ss.length by rw[bl];lia];refine j5 (Bo L c D B3 H4 ss N hs) {ss,xs,[],YI,YI,YI,YI,rfl,Sm.refl _ _,L4,qI (λs=>⟨rfl,eT s.2⟩) ss,fr4,D4,O4 _,λi hi=>by cases hi} ?_ ?_
 ·clear K1;rintro k B Hc hk ⟨ç,xs',kvs,v4,v5,v6,v7,rfl,sc,ĺ,sim,frc,hDc,kl,kv⟩;have ej:(0:Int)+(k:Int)=(k:Int):=()
  rw[ej];have l':=RT sim;obtain⟨s',Ŧ⟩:∃s',ç[k]?=YH s':={_,O7 ()};obtain⟨s0,hs0,se0⟩:=cq sim Ŧ;obtain⟨h,b⟩:=s';obtain⟨SA,SC,eS,lA⟩:∃SA SC,ç=SA++(h,b)::SC/\SA.length=k:={ç.take k,ç.drop (k+1),wF Ŧ,by rw[PV];lia};have tk:ç.take k=SA:=by rw[eS,<-lA,XY];rfl
  have tk1:ç.take (k+1)=SA++[(h,b)]:=by
   rw[eS,XC,P6 (),lA,show k+1-k=1 by lia];rfl
  have lenA:=pE.len (qc sim k);have lenA1:=pE.len (qc sim (k+1));have idA:=pE.idx (qc sim k);rw[tk]at lenA kv idA;rw[tk1,CJ,OX]at lenA1;have ls1:(Ô [(h,b)]).length=(aA b).length+2:=by
   show(uP (h,b)++[]).length=_;simp[uP]
  rw[ls1]at lenA1;obtain⟨bo1,bo2⟩:=O.bo k s0 hs0;rw[<-idA]at bo2;have dpb:cF b<=6:=by rw[(jQ (ps:=[]) (dd:=[]) _ _ se0.2).2.1];exact bo1
  have ckb:ĉ (kU SA) b:=kR _ _ se0.2 bo2;have dmh:ď h=true:=by
   have e:s0.1=h:=se0.1;rw[<-e];exact O.hd s0 (Pj hs0)
  have lt':(Ô ç).length=(Ô ss).length:=pE.len sim;rw[eS,Ae]at frc;have PL:=HE (hs:=hs) (a:=SA) (h:=h);have lxc:=RT frc;have lxt:(hs.map Fr.leaf++Ô SA++[h]).length+((aA b).length+1+(Ô SC).length)<=300:=by
   have e9:(hs.map Fr.leaf++Ô ç).length=(hs.map Fr.leaf++Ô ss).length:=by rw[OX,OX,lt']
   rw[eS,Ae]at e9;simp only[OX,O6,OZ]at e9 lf⊢;lia
  have hBc:=À.of (K:=K) (sc _ _ BM eB3);have a0:=Gh (hs:=hs) (ss:=ss) (k:=k) ();have a1:=Gh (hs:=hs) (ss:=ss) (k:=k+1) ();rw[<-lenA]at a0;rw[<-lenA1]at a1;have ax1:=jh a1;rw[show(((k+1:Nat)):Int)=(k:Int)+1 by lia]at ax1;generalize hPR:hs.map Fr.leaf++Ô SA++[h]=PR at frc PL lxc lxt;generalize hpA:hs.length+(Ô SA).length=pA at a0 PL;rw[<-Rf,hpA]at ax1;try dsimp only
  refine ag λN1 J1=>?_;obtain⟨r1,r2,r3⟩:=Ai (i:=((pA+((aA b).length+2):Nat):Int)-1) (j:=(pA:Int)) () () ();refine ï hBc ax1 (Č hBc a0 {_,rfl,_,_,_,rfl,r1,∅,∅,∅,r2,?_});rw[show ni (((pA+((aA b).length+2):Nat):Int)-1) (pA:Int) (-1)=(aA b).length+1 by rw[r3];lia];refine AQ (Ct L c D B3 k v6 v7 H4 kvs b N PR SC) ⟨b,xs',v5,rfl,sc,ĺ,hDc,eT b,frc⟩ ?_ ?_
  ·clear J1;rintro i B Hd hi ⟨b',ð,u5,rfl,sd,hLd,hDd,sb,frd⟩;obtain⟨_,dpb',lb'⟩:=jQ (ps:=[]) (dd:=[]) _ _ sb;have ckb':=kR _ _ sb ckb;have ea:((pA+((aA b).length+2):Nat):Int)-1+(i:Int)* -1=((PR.length+((aA b).length-i):Nat):Int):=()
   rw[ea];generalize hj:(aA b).length-i=j;have jl:j<=(aA b').length:=()
   obtain⟨f,hf⟩:∃f,(aA b'++ .fin::Ô SC)[j]?=YH f:={_,O7 (by rw[OX,O6];lia)};have lxd:=RT frd;rw[OX,OX,O6]at lxd;have hM:∀m∈[L,D],Hd m≠YI:=λm hm=>by
    simp only[O2,Po,or_false]at hm;rcases hm with rfl|rfl
    ·rw[hLd];simp
    rw[hDd];simp
   try dsimp only
   refine{c,_,rfl,(),(),λm m0 m1=>{by show(0:Int)<4;decide,by show(0:Int)<5;decide,_,rfl,bg (λ_=>?_) (λ_=>{b',ð,_,rfl,sd,hLd,hDd,sb,frd})}};have Ć:PR++(aA b'++ .fin::Ô SC)=(PR++(aA b'++ .fin::Ô SC).take j)++f::(aA b'++ .fin::Ô SC).drop (j+1):=by
    rw[Pn,<-wF hf]
   have lp:(PR++(aA b'++ .fin::Ô SC).take j).length=PR.length+j:=by
    rw[OX,PV,Nat.min_eq_left (by rw[OX];lia)]
   refine{N,[L,D],L,ð,_,_,_,f,D,kU SA,knS SA,by rw[lp];rfl,hLd,frd,Ć,GZ jl hf (by rw[dpb'];exact dpb) ckb',⟨kvs,hDd,kv⟩,(),hM,λv f' He se ei fve=>Pg (stL.mk ð (PR.length+j) (se _ _ hLd) (CM ()) ?_)};obtain⟨b3,e3,sb3⟩:=HP jl hf ei;have sU:aj (del [L,D] He) (del [L,D] (upd He L (.lst (ð.set (PR.length+j) v)))):=λa o e=>by
    obtain⟨n1,n2⟩:=cC e;exact aP n1 (au (λz=>n1 (z▸mL)) n2)
   have sE:aj (del [L,D] Hd) (del [L,D] He):=λa o e=>by
    obtain⟨n1,n2⟩:=cC e;exact aP n1 (se _ _ n2)
   refine{b3,ð.set (PR.length+j) v,_,rfl,(sd.trans (Sm.new se)).trans (Sm.at mL _),ao,au DL (se _ _ hDd),eU _ _ _ sb sb3,?_};generalize upd He L (.lst (ð.set (PR.length+j) v))=HU at sU⊢;have h9:ba N (del [L,D] HU) ((PR++(aA b'++ .fin::Ô SC)).set (PR.length+j) f') (ð.set (PR.length+j) v):=wj (F:=λf u=>lG N (del [L,D] HU) u f) (fve.same sU) (ba.same (sE.trans sU) frd);rw[Ri _ _ (),show PR.length+j-PR.length=j by lia,e3]at h9;exact h9
  rintro B Hd ⟨b',ð,u5,rfl,sd,hLd,hDd,sb,frd⟩;refine J1 _ _ ?_;clear J1 N1;obtain⟨_,dpb',lb'⟩:=jQ (ps:=[]) (dd:=[]) _ _ sb;have ckb':=kR _ _ sb ckb;have lxd:=RT frd;rw[OX,OX,O6]at lxd;have frH:=ba.same cN frd;have hBd:=À.of (K:=K) (sd _ _ BM eB3);try dsimp only
  refine ag λN1 J1=>Č hBd a0 {N,Hd,L,ð,_,PR,Ô SC,b',.fin,D,kU SA,knS SA,by rw[PL];push_cast;rfl,aj.refl _,hLd,frH,(Pn ..).symm,rfl,by rw[dpb'];exact dpb,ckb',⟨kvs,hDd,kv⟩,(),λp1 H5 s5 ľ=>{p1,_,rfl,È.of ľ,rfl,_,_,rfl,_,_,rfl,rfl,?_}};have sd5:=sd.trans (Sm.new (M:=[L,D]) s5);have hL5:=s5 _ _ hLd;have hD5:=s5 _ _ hDd;have fr5:ba N (del [L,D] H5) (PR++(aA b'++ .fin::Ô SC)) ð:=ba.same (λa o e=>by
   obtain⟨n1,n2⟩:=cC e;exact aP n1 (s5 _ _ n2)) frd
  have eP:PR++(aA b'++ .fin::Ô SC)=(hs.map Fr.leaf++Ô SA)++h::(aA b'++ .fin::Ô SC):=by
   rw[<-hPR];simp
  obtain⟨vh,avh,⟨ah,ph,rfl,hah,_⟩⟩:=ij fr5 eP;rw[OX,OZ,hpA]at avh;have hah:=(cC hah).2;have hB5:=s5.seq hBd;have hLS:=À.of (K:=K) hL5;have sim2:pE ss (SA++(h,b')::SC):=by
   rw[eS]at sim;exact yy (λx hx=>{hx.1,eU _ _ _ hx.2 sb}) sim
  have tk2:(SA++(h,b')::SC).take (k+1)=SA++[(h,b')]:=by
   rw[XC,P6 (),lA,show k+1-k=1 by lia];rfl
  have fr6:∀{H6:Hp},aj (del [L,D] H5) (del [L,D] H6)->ba N (del [L,D] H6) (hs.map Fr.leaf++Ô (SA++(h,b')::SC)) ð:=λs6=>by
   rw[Ae,hPR];exact ba.same s6 fr5
  have ixh:∀j∈kU SA++hIx h,j<24:=λj hj=>by
   refine O.ix j ?_;have:=pE.idx sim2;rw[<-this];show j∈kU (SA++(h,b')::SC);unfold kU at hj⊢;rw[Qj];rcases O5.mp hj with m|m
   ·exact Ph _ m
   exact Pc _ (Ph _ m)
  have idn:kU (SA++[(h,b')])=kU SA++hIx h:=by
   unfold kU;rw[Qj,List.flatMap_singleton]
  refine J1 _ _ ?_;clear J1 N1;try dsimp only
  cases h with
  |bq i ps=>
   refine Č hB5 a0 (ï hLS avh (Ê (j:=0) (È.of hah) rfl {rfl,_,rfl,bg (λ_=>?_) (λz=>absurd (show decide (V.str "deed"=V.str "deed")=true from decide_eq_true rfl) z)}));refine Č hB5 a0 (ï hLS avh (Ê (j:=1) (È.of hah) rfl {_,ou.k (k:=.inr (N i)) hD5 (aH ()),?_}));have sU:aj (del [L,D] H5) (del [L,D] (upd H5 D (.dK (YQ kvs (.inr (N i)) (oI (gg (knS SA) b')))))):=λa o e=>by
    obtain⟨n1,n2⟩:=cC e;exact aP n1 (au (λz=>n1 (z▸mD)) n2)
   refine{SA++(.bq i ps,b')::SC,ð,_,_,_,_,_,rfl,sd5.trans (Sm.at mD _),au (Pr DL) hL5,sim2,fr6 sU,ao,Pf (yH _ _ _) (),λj hj=>?_};rw[tk2,idn]at hj;rw[tk2,y9,uG];show(if(Pq (N j):Key)=.inr (N i)then YH (oI (gg (knS SA) b'))else L2.cf kvs (.inr (N j)))=YH (oI (if j=i then gg (knS SA) b' else knS SA j));by_cases e:j=i
   ·rw[if_pos (by rw[e]),if_pos e]
   rw[if_neg e,if_neg λz=>e (nm.inj j i (ixh j hj) (ixh i (Pc _ O9)) (Pq.inj z))];rcases O5.mp hj with m|m
   ·exact kv j m
   exact absurd (OY.mp m) e
  |main=>
   refine Č hB5 a0 (ï hLS avh (Ê (j:=0) (È.of hah) rfl {rfl,_,rfl,bg (λz=>absurd z (show ¬ decide (V.str "main"=V.str "deed")=true by decide)) (λ_=>{SA++(.main,b')::SC,ð,kvs,_,_,_,_,rfl,sd5,hL5,sim2,fr6 (aj.refl _),hD5,(),λj hj=>?_})}));rw[tk2,idn]at hj;rw[tk2,y9];rcases O5.mp hj with m|m
   ·exact kv j m
   cases m
  |_=>cases dmh
 rintro B Hc ⟨ç,xs',kvs,v4,v5,v6,v7,rfl,sc,ĺ,sim,frc,hDc,kl,kv⟩;refine K1 _ _ ?_;have l':=RT sim;rw[P6 ()]at kv;refine{by show 2<=sizeLine;decide,λp hp=>?_};have s9:=aj.upd hp (HO.tup [V.ref L,V.ref D]);have tH:aj H Hc:=λa o e=>sc a o (HM a o e) (t4 a o e);exact q p L D xs' ç _ (tH.trans s9) ao (s9 _ _ ĺ) sim (ba.same (cN.trans s9) frc) {kvs,s9 _ _ hDc,kv}
theorem Jn:l∈ó fs into kd n↔∃x,YH x∈fs/\x≠into/\l=⟨x,into,kd,n⟩:=by
 unfold ó;rw[Pb];constructor
 ·rintro⟨f,hf,rfl⟩;obtain⟨h1,h2⟩:=PX.mp hf;cases f with
  |none=>cases h2
  |some x=>exact{x,h1,(λe=>(by rw[show drP into (YH x)=!decide (x=into)from rfl,decide_eq_true e]at h2;cases h2)),rfl}
 rintro⟨x,h1,h2,rfl⟩;exact{YH x,PX.mpr {h1,by show(!decide (x=into))=true;rw[decide_eq_false h2];rfl},rfl}
theorem F7:∀(ts:List Th)(acc:List Str),x∈ts.foldl (ę N) acc↔x∈acc\/∃a,Th.x a∈ts/\N a=x
 | [],acc=>by
  show x∈acc↔_;simp
 |t::ts,acc=>by
  rw[P9,F7 ts];cases t with
  |i n=>
   show x∈acc\/_↔_;constructor
   ·rintro(h|⟨a,h,e⟩)
    ·exact .inl h
    exact .inr {a,O8 _ h,e}
   rintro(h|⟨a,h,e⟩)
   ·exact .inl h
   rcases O2.mp h with h|h
   ·cases h
   exact .inr ⟨a,h,e⟩
  |x b=>
   have m:x∈ę N acc (.x b)↔x∈acc\/N b=x:=by
    show x∈(if N b∈acc then acc else acc++[N b])↔_;split
    ·next h=>exact{.inl,λz=>z.elim id λe=>e▸h}
    rw[O5,OY];exact or_congr_right eq_comm
   rw[m];constructor
   ·rintro((h|h)|⟨a,h,e⟩)
    ·exact .inl h
    ·exact .inr ⟨b,O9,h⟩
    exact .inr {a,O8 _ h,e}
   rintro(h|⟨a,h,e⟩)
   ·exact .inl (.inl h)
   rcases O2.mp h with h|h
   ·cases h;exact .inl (.inr e)
   exact .inr ⟨a,h,e⟩
theorem IH:x∈Õ N ts↔∃a,Th.x a∈ts/\N a=x:=by
 unfold Õ;rw[F7];simp
def GdP(PN:List Str)(o:Option Str):Prop:=∀y,o=YH y->y∈PN
def GdE(PN:List Str)(e:Le):Prop:=GdP PN e.2.1/\GdP PN e.2.2
theorem sY(h:x∈PN):GdP PN (YH x):=λy e=>by cases e;exact h
theorem uM:GdP PN YI:=λy e=>by cases e
mutual
theorem Nz:∀(t:Pt)(lp:Option Str),GdP PN lp->(pR t=true->aU t.no∈PN)->(∀e∈dm lp t,pR e.1=true->aU e.1.no∈PN)->∀e∈dm lp t,GdE PN e
 | .leaf _ _,lp,hl,h0,h,e,he=>by
  rw[dm]at he;cases he
 | .bq _ _ _ _,lp,hl,h0,h,e,he=>by
  rw[dm]at he;cases he
 | .iff n v l r f o,lp,hl,h0,h,e,he=>by
  rw[dm]at he h;have r0:GdP PN (YH (aU n)):=sY (h0 rfl);rcases O5.mp he with he|he
  ·exact qg f _ lp r0 hl (λx hx=>h x (Ph _ hx)) e he
  exact qg o _ lp r0 hl (λx hx=>h x (Pc _ hx)) e he
 | .loop n t m l r b,lp,hl,h0,h,e,he=>by
  rw[dm]at he h;have r0:GdP PN (YH (aU n)):=sY (h0 rfl);exact qg b _ _ r0 r0 h e he
theorem qg:∀(ts:List Pt)(pl lp:Option Str),GdP PN pl->GdP PN lp->(∀e∈bD pl lp ts,pR e.1=true->aU e.1.no∈PN)->∀e∈bD pl lp ts,GdE PN e
 | [],pl,lp,hp,hl,h,e,he=>by
  rw[bD]at he;cases he
 |t::ts,pl,lp,hp,hl,h,e,he=>by
  rw[bD]at he h;rcases O2.mp he with rfl|he
  ·exact⟨hp,hl⟩
  rcases O5.mp he with he|he
  ·exact Nz t lp hl (h (t,pl,lp) O9) (λx hx=>h x (O8 _ (Ph _ hx))) e he
  exact qg ts pl lp hp hl (λx hx=>h x (O8 _ (Pc _ hx))) e he
end
structure OH(N:Nat->Str)(PN:List Str)(ds:List De):Prop where
 s7:∀x∈S7++[5,6],N x∈PN
 dn:∀d∈ds,N d.1∈PN
 dp:∀d∈ds,∀x∈d.2.1,N x∈PN
 ck:("the clock":Str)∈PN
theorem Nt(O:eX hs ds mb):∀x∈S7++[5,6],x∈Ņ hs ds:=by
 obtain⟨rk,z,t,e1,_⟩:=O.hd;intro x hx;unfold Ņ;refine Ph _ ?_;have pm:(hs.flatMap ixH).Perm [1,2,3,4,5,6,7,19,20]:=by
  rw[e1];unfold rb;have:(oJ rk z).flatMap ixH=[1,2,3,4,5,6,7,19,20]:=rfl;rw[<-this];refine VC _ (Qk.trans ?_);rw[PQ]
 rw[pm.mem_iff];revert x
 decide
theorem Jx(O:eX hs ds mb):OH N (aT N (à 1 hs) (Î ((hs.length:Nat)+1) ds) (br (ì hs ds) mb)) ds:=by
 rw[nN];have nmi:∀x∈Ņ hs ds,N x∈(Ņ hs ds).map N++fm (b4 N (Î ((hs.length:Nat)+1) ds) (br (ì hs ds) mb))++[("the clock":Str)]:=λx hx=>Ph _ (Ph _ (P0 hx));refine{λx hx=>nmi x (Nt O x hx),λd hd=>nmi _ ?_,λd hd x hx=>nmi _ ?_,Pc _ O9}
 ·unfold Ņ;exact Pc _ (Qb.mpr ⟨d,hd,O9⟩)
 unfold Ņ;exact Pc _ (Qb.mpr {d,hd,O8 _ hx})
theorem Gg(m:e∈b4 N ds ms)(h:pR e.1=true):aU e.1.no∈aT N hs ds ms:=by
 unfold aT;refine Ph _ (Pc _ ?_);unfold fm;exact Pb.mpr {e,PX.mpr ⟨m,h⟩,rfl}
theorem Lo(O:eX hs ds mb):∀e∈b4 N (Î ((hs.length:Nat)+1) ds) (br (ì hs ds) mb),GdE (aT N (à 1 hs) (Î ((hs.length:Nat)+1) ds) (br (ì hs ds) mb)) e:=by
 have I:=Jx (N:=N) O;have R:∀e∈b4 N (Î ((hs.length:Nat)+1) ds) (br (ì hs ds) mb),pR e.1=true->aU e.1.no∈aT N (à 1 hs) (Î ((hs.length:Nat)+1) ds) (br (ì hs ds) mb):=λe he h=>Gg he h;generalize aT N (à 1 hs) (Î ((hs.length:Nat)+1) ds) (br (ì hs ds) mb)=PN at I R;intro e he;unfold b4 at he R;rcases O5.mp he with he|he
 ·unfold fe at he R;obtain⟨p,mp,he⟩:=Qb.mp he;have R2:∀x∈bD (YH (ù N p)) YI (og p),pR x.1=true->aU x.1.no∈PN:=λx hx=>R x (Ph _ (Qb.mpr ⟨p,mp,hx⟩));obtain⟨k,hk⟩:=Py mp;obtain⟨d,n',h1,h2,h3,rfl⟩:=dP hk;exact qg _ _ _ (sY (I.dn d (Pj h1))) uM R2 e he
 exact qg _ _ _ uM uM (λx hx=>R x (Pc _ hx)) e he
theorem IC(O:eX hs ds mb):∀e∈b4 N (Î ((hs.length:Nat)+1) ds) (br (ì hs ds) mb),∃ps dd k,Jg ps dd k e.1/\(∀x∈ps,∃d∈ds,x∈d.2.1)/\∀x∈dd,∃d∈ds,x=(d.1,d.2.1.length):=by
 intro e he;unfold b4 at he;rcases O5.mp he with he|he
 ·unfold fe at he;obtain⟨p,mp,he⟩:=Qb.mp he;obtain⟨k,hk⟩:=Py mp;obtain⟨d,n',h1,h2,h3,rfl⟩:=dP hk;obtain⟨_,_,ok,dpd,_⟩:=O.de.at' k d h1;refine{_,_,_,lY d.2.2 false _ _ _ ok e he,λx hx=>⟨d,Pj h1,hx⟩,λx hx=>?_};obtain⟨d',m',rfl⟩:=Pb.mp hx;exact⟨d',Qo m',rfl⟩
 refine{_,_,_,lY mb false _ _ _ O.mo e he,(λx hx=>by cases hx),λx hx=>?_};obtain⟨d',m',rfl⟩:=Pb.mp hx;exact⟨d',m',rfl⟩
theorem BP(nm:ko N)(O:eX hs ds mb) (b):∀l∈cA N b (Î ((hs.length:Nat)+1) ds) (br (ì hs ds) mb),l.fr∈aT N (à 1 hs) (Î ((hs.length:Nat)+1) ds) (br (ì hs ds) mb)/\l.to∈aT N (à 1 hs) (Î ((hs.length:Nat)+1) ds) (br (ì hs ds) mb):=by
 have I:=Jx (N:=N) O;have G:=Lo (N:=N) O;have S:=IC (N:=N) O;have L:=λe he=>(tQ nm O e he).2.1;have R:∀e∈b4 N (Î ((hs.length:Nat)+1) ds) (br (ì hs ds) mb),pR e.1=true->aU e.1.no∈aT N (à 1 hs) (Î ((hs.length:Nat)+1) ds) (br (ì hs ds) mb):=λe he h=>Gg he h;have PO:∀d∈ds,ě N (Î ((hs.length:Nat)+1) ds) (N d.1)=d.2.1.map N:=λd m=>F9 nm O m _;generalize aT N (à 1 hs) (Î ((hs.length:Nat)+1) ds) (br (ì hs ds) mb)=PN at I G R⊢;intro l hl;unfold cA at hl;obtain⟨e,he,hl⟩:=Qb.mp hl;have ge:=G e he;have re:=R e he;have le:=L e he;obtain⟨ps,dd,k,⟨t,n,bb,et,ok,_⟩,hps,hdd⟩:=S e he;have nin:∀x∈S7++ps,N x∈PN:=λx hx=>by
  rcases O5.mp hx with h|h
  ·exact I.s7 x (Ph _ h)
  obtain⟨d,md,mx⟩:=hps x h;exact I.dp d md x mx
 have Ì:∀{ts:List Th},(∀t∈ts,pT ps t)->∀y∈Õ N ts,y∈PN:=λh y hy=>by
  obtain⟨a,ma,rfl⟩:=IH.mp hy;exact nin a (h _ ma a rfl)
 have dr:∀{fs:List (Option Str)}{into kd:Str}{n:Int},(∀y,YH y∈fs->y∈PN)->into∈PN->l∈ó fs into kd n->l.fr∈PN/\l.to∈PN:=λh1 h2 h=>by
  obtain⟨x,mx,_,rfl⟩:=Jn.mp h;exact⟨h1 x mx,h2⟩
 have dpl:∀{into kd:Str}{n:Int},into∈PN->l∈ó [e.2.1] into kd n->l.fr∈PN/\l.to∈PN:=λh2 h=>dr (λy my=>ge.1 y (OY.mp my).symm) h2 h;have dI:∀{ts:List Th}{into kd:Str}{n:Int},(∀t∈ts,pT ps t)->into∈PN->l∈ó ((Õ N ts).map YH) into kd n->l.fr∈PN/\l.to∈PN:=λh1 h2 h=>dr (λy my=>by
  obtain⟨z,mz,e⟩:=Pb.mp my;cases e;exact Ì h1 y mz) h2 h
 obtain⟨p,pl,lp⟩:=e;unfold rD at hl;have et:p=è n t:=et;subst et;rcases O5.mp hl with hl|hl
 ·cases t with
  |leaf r=>
   rw[é]at ok;rw[è]at hl le re;cases r with
   |set x v=>
    rcases O5.mp (show l∈ó ((Õ N (æ v)).map YH) (N x) "value" n++ó [pl] (N x) "under" n from hl)with h|h
    ·exact dI ok.2 (nin x ok.1) h
    exact dpl (nin x ok.1) h
   |put x p v=>
    rcases O5.mp (show l∈ó ((Õ N (p::æ v)).map YH) (N x) "value" n++ó [pl] (N x) "under" n from hl)with h|h
    ·exact dI (λt ht=>by
      rcases O2.mp ht with rfl|ht
      ·exact ok.2.1
      exact ok.2.2 t ht) (nin x ok.1) h
    exact dpl (nin x ok.1) h
   |snd x v=>
    have rr:aU n∈PN:=re rfl;rcases O5.mp (show l∈ó ((Õ N (æ v)).map YH) (aU n) "value" n++ó [pl] (aU n) "under" n from hl)with h|h
    ·exact dI ok.2 rr h
    exact dpl rr h
   |say x v m=>
    have rr:aU n∈PN:=re rfl;have mm:N m∈PN:=I.s7 m (by rcases ok.2.2 with rfl|rfl<;>decide);rcases O5.mp (show l∈(ó [YH (N m)] (N x) "value" n++ó [pl] (N x) "under" n)++ó [pl] (aU n) "under" n from hl)with h|h
    ·rcases O5.mp h with h|h
     ·exact dr (λy my=>by cases OY.mp my;exact mm) (nin x ok.1) h
     exact dpl (nin x ok.1) h
    exact dpl rr h
   |call i us=>
    obtain⟨d,md,ed⟩:=hdd _ ok.1;obtain⟨e1,e2⟩:=Vg ed;subst e1;have hl:l∈Ŷ N n (us.zip (ě N (Î ((hs.length:Nat)+1) ds) (N d.1)))++clB pl n (ě N (Î ((hs.length:Nat)+1) ds) (N d.1)++[N d.1]):=hl;rw[PO d md]at hl;have pin:∀y∈d.2.1.map N,y∈PN:=λy hy=>by
     obtain⟨a,ma,rfl⟩:=Pb.mp hy;exact I.dp d md a ma
    rcases O5.mp hl with h|h
    ·unfold Ŷ at h;obtain⟨tp,mt,h⟩:=Qb.mp h;obtain⟨t1,t2⟩:=tp;have m1:=(Qx mt).1;have m2:=(Qx mt).2;cases t1 with
     |i _=>cases h
     |x a=>exact dr (λy my=>by cases OY.mp my;exact nin a (ok.2 _ m1 a rfl)) (pin _ m2) h
    unfold clB at h;obtain⟨into,mi,h⟩:=Qb.mp h;refine dpl ?_ h;rcases O5.mp mi with mi|mi
    ·exact pin _ mi
    rw[OY.mp mi];exact I.dn d md
   |last=>
    have Ŧ:lp.isSome=true:=le rfl;obtain⟨y,hy⟩:=Qy.mp Ŧ;have hl:l∈ó [pl] (lp.getD R7) "under" n:=hl;rw[hy]at hl;exact dpl (ge.2 y hy) hl
   |_=>exact ok.elim
  |iff v l r f o=>
   rw[é]at ok;rw[è]at hl re;have rr:aU n∈PN:=re rfl;rcases O5.mp hl with h|h
   ·exact dI (ts:=æ v) ok.1 rr h
   exact dpl rr h
  |loop th m l r bd=>
   rw[é]at ok;rw[è]at hl re;have rr:aU n∈PN:=re rfl;rcases O5.mp hl with h|h
   ·exact dI (ts:=[th]) (λt ht=>by rw[OY.mp ht];exact ok.1) rr h
   exact dpl rr h
 unfold qe at hl;split at hl
 ·unfold rF at hl;split at hl
  ·next z=>
   rw[OY.mp hl];refine{I.ck,re ?_};unfold pR;unfold yX at z;rw[z];simp
  split at hl
  ·next z=>
   rw[OY.mp hl];refine{re ?_,I.ck};have z:=z.1;unfold pR;unfold y6 at z;rw[<-Bool.or_assoc,z];rfl
  cases hl
 cases hl
end
section
variable{N:Nat->Str}
theorem x9:∀(l:List Lk)(cs:List Str),∃r,l.foldl ą cs=cs++r
 | [],cs=>{[],by simp}
 |k::l,cs=>by
  obtain⟨r,e⟩:=x9 l (ą cs k);rw[P9,e];unfold ą;split
  ·exact⟨r,rfl⟩
  exact{k.to::r,by simp}
theorem Jo:∀(l:List Lk)(cs:List Str)(k:Lk),k∈l->k.to∈l.foldl ą cs
 |j::l,cs,k,m=>by
  rw[P9];rcases O2.mp m with e|m
  ·subst e;obtain⟨r,e⟩:=x9 l (ą cs k);rw[e];refine Ph _ ?_;unfold ą;split
   ·next h=>exact h
   simp
  exact Jo l _ k m
theorem Ed:∀(l:List Lk)(cs:List Str),cs.Nodup->(l.foldl ą cs).Nodup
 | [],cs,h=>h
 |k::l,cs,h=>by
  rw[P9];refine Ed l _ ?_;unfold ą;split
  ·exact h
  next n=>exact Qp.mpr {h,by simp,λa ma b mb e=>by rw[OY]at mb;exact n (mb▸e▸ma)}
theorem Fo{ls:List Lk}{pls:List Str}(to:∀l∈ls,l.to∈pls):∀(l:List Lk),(∀k∈l,k∈ls)->∀cs:List Str,(∀x∈cs,x∈pls)->∀x∈l.foldl ą cs,x∈pls
 | [],_,cs,h=>h
 |k::l,hl,cs,h=>by
  rw[P9];refine Fo to l (λk' m=>hl k' (O8 _ m)) _ λx hx=>?_;unfold ą at hx;split at hx
  ·exact h x hx
  rcases O5.mp hx with m|m
  ·exact h x m
  rw[OY.mp m];exact to k (hl k O9)
theorem yZ:∀n i cs,∀x∈cs,x∈eN ls n i cs
 |0,_,_,x,h=>h
 |n+1,i,cs,x,h=>by
  unfold eN;split
  ·exact h
  next y _=>
  obtain⟨r,e⟩:=x9 (ig ls y) cs;refine yZ n (i+1) _ x ?_;rw[e];exact Ph _ h
theorem sT{ls:List Lk}{pls:List Str}(to:∀l∈ls,l.to∈pls):∀n i cs,cs.Nodup->(∀x∈cs,x∈pls)->pls.length<=n+i->(∀(j:Nat) x,j<i->cs[j]?=YH x->∀l∈ls,l.fr=x->l.to∈cs)->∀l∈ls,l.fr∈eN ls n i cs->l.to∈eN ls n i cs
 |0,i,cs,nd,sb,le,h,l,ml,m=>by
  obtain⟨j,hj⟩:=Py m;have jl:=(Pl.mp hj).1;have:=pZ nd sb;exact h j _ (by have:eN ls 0 i cs=cs:=rfl;rw[this]at jl;lia) hj l ml rfl
 |n+1,i,cs,nd,sb,le,h,l,ml,m=>by
  unfold eN at m⊢;split at m
  ·next hn=>
   obtain⟨j,hj⟩:=Py m;have jl:=(Pl.mp hj).1;have:=Q1.mp hn;exact h j _ () hj l ml rfl
  next y hy=>
  obtain⟨r,er⟩:=x9 (ig ls y) cs;have il:=(Pl.mp hy).1;refine sT to n (i+1) ((ig ls y).foldl ą cs) (Ed _ _ nd) (Fo to (ig ls y) (λk hk=>(PX.mp hk).1) _ sb) () (λj x hj hx k mk ek=>?_) l ml m;by_cases ji:j<i
  ·rw[er,PY ()]at hx;rw[er];exact Ph _ (h j x ji hx k mk ek)
  have:j=i:=()
  subst this;rw[er,PY il,hy]at hx;cases hx;exact Jo _ _ k (PX.mpr ⟨mk,decide_eq_true ek⟩)
inductive ŀ(ls:List Lk)(S:List Str):Str->Prop
 |base {x:Str} (h:x∈S):ŀ ls S x
 |step {l:Lk} (h:l∈ls) (r:ŀ ls S l.fr):ŀ ls S l.to
theorem EN:∀(l:List Lk),(∀k∈l,k∈ls/\ŀ ls S k.fr)->∀cs:List Str,(∀x∈cs,ŀ ls S x)->∀x∈l.foldl ą cs,ŀ ls S x
 | [],_,cs,h=>h
 |k::l,hk,cs,h=>by
  rw[P9];refine EN l (λj hj=>hk j (O8 _ hj)) _ λx hx=>?_;unfold ą at hx;split at hx
  ·exact h x hx
  rcases O5.mp hx with hx|hx
  ·exact h x hx
  rw[OY.mp hx];exact .step (hk k O9).1 (hk k O9).2
theorem BI:∀n i cs,(∀x∈cs,ŀ ls S x)->∀x∈eN ls n i cs,ŀ ls S x
 |0,_,_,h=>h
 |n+1,i,cs,h=>by
  unfold eN;cases e:cs[i]? with
  |none=>exact h
  |some y=>
   refine BI n (i+1) _ (EN _ (λk hk=>?_) cs h);obtain⟨h1,h2⟩:=PX.mp hk;refine{h1,?_};rw[of_decide_eq_true h2];exact h y (Pj e)
theorem Gi:∀n i cs,cs.Nodup->(eN ls n i cs).Nodup
 |0,_,_,h=>h
 |n+1,i,cs,h=>by
  unfold eN;cases e:cs[i]? with
  |none=>exact h
  |some y=>exact Gi n (i+1) _ (Ed _ _ h)
theorem Cu{ls:List Lk}{pls S:List Str}(to:∀l∈ls,l.to∈pls)(nd:S.Nodup)(sb:∀x∈S,x∈pls)(x:Str):x∈eN ls pls.length 0 S↔ŀ ls S x:=by
 refine{BI _ _ _ (λy hy=>.base hy) x,λh=>?_};induction h with
 |base h=>exact yZ _ _ _ _ h
 |step h _ ih=>exact sT to _ _ _ nd sb () (λj y hj=>()) _ h ih
end
section
variable{P:Program}{w:R5}{K:RS}{mg:Str->Option RI}{base:So}{A:Ö}{N:Nat->Str}
seal PE PA PS Ĳ PT PW
inductive tw(A:Ö)(vs:List V)(H:Hp)(Q:VK)(Ä:XK):Prop
 |mk(N:Nat->Str)(X:Hp)(v:V)(x:Str)(b:Bool)(hs ds ms:List Pt)(z0:vs=[v,.str x,.bl b])(z1:aj X H)(z2:rK A N X v hs ds ms)(z3:OkL N 6 hs ds ms)(z4:∀l∈cA N b ds ms,l.fr∈aT N hs ds ms/\l.to∈aT N hs ds ms)(z5:x∈aT N hs ds ms)
  (z8:∀(R:RJ)(ss:List Str)(H':Hp),aj H H'->H R=YI->H' R=YH (.lst (sS ss))->ss.Perm (eN (cA N b ds ms) (aT N hs ds ms).length 0 [x])->Q (.ref R) H'):tw A vs H Q Ä
theorem DV(T:Txt K mg A):T.x6.Hz P w base 29 (tw A):=by
 refine T.x6.hs (k:=28) AB (λf Ã A' outer s H vs Q E' hr hu h=>?_);obtain⟨N,X,v,x,b,hs,ds,ms,rfl,s0,pg,O,en,xp,q⟩:=h;refine{_,(ai (aD (Þ DC T.mQ ((ak (hj:=by lia) (JB T) hr ((ak (hj:=by lia) (Ge T 6) hr (fv 0^fv 2^ab))^aI (fv 1^ab)^ab))^ab)))),{N,X,v,b,hs,ds,ms,rfl,s0,pg,O,λl hl=>(en l hl).1,λW kw wa H1 s1 hW=>{by show 1<=sizeLine;decide,λS hS=>?_}}};have s2:=aj.upd hS (HO.lst [V.str x]);refine{W,S,kw,_,wa,_,[x],rfl,hW.same s2,ao,by simp,(λy hy=>by rw[OY.mp hy];exact xp),λl hl=>(en l hl).2,O.ok.pl,λC kc H2 s3 hC eC kk=>{C,kc,_,rfl,.inl eC,kk,λl ç pm hl=>?_}};have t3:=(s1.trans s2).trans s3;exact q l ç _ (t3.trans (aj.upd hl _)) (aj.free t3 hl) ao pm
theorem CD{x:Str}{ks:List Str}:(Pq x:Key)∈ks.map Pq↔x∈ks:=by
 rw[Pb];exact{λ⟨y,m,e⟩=>Pq.inj e▸m,λm=>⟨x,m,rfl⟩}
theorem uS{α:Type}{xs:List α}{i}{x:α}(h:xs[i]?=YH x):xs.take (i+1)=xs.take i++[x]:=by rw[P4,h];rfl
theorem Ox(s:aj X H)(h:X R=YI) (o):aj X (upd H R o):=λa u e=>au (λz=>by rw[z,h]at e;cases e) (s a u e)
noncomputable def fN:Fr->Bool
 | .leaf (.Ŋ _ _ _)=>true
 | .leaf (.lt _ _)=>true
 |_=>false
noncomputable def sF(N:Nat->Str):Fr->Str×Int
 | .leaf (.Ŋ i r _)=>(N i,r)
 | .leaf (.lt i r)=>(N i,r)
 |_=>(R7,0)
theorem Mm (f):č (V.str f.wd) [V.str "given",V.str "let"]=fN f:=by
 cases f with
 |leaf r=>cases r<;>rfl
 |_=>rfl
theorem F3(h:Ma ps dd f):fN f=false:=by
 cases f with
 |leaf r=>
  obtain⟨lp,h⟩:=h;cases r<;>first|rfl|exact h.elim
 |bq _ _=>exact h.elim
 |_=>rfl
theorem AK:∀hs n,eY N (à n hs)=((hs.map Fr.leaf).filter fN).map (sF N)
 | [],n=>rfl
 |r::hs,n=>by
  have ih:=AK hs (n+1);unfold eY at ih⊢;rw[à,Pm,Qm,Qm];cases r<;>first
   | (show((Pt.leaf n _::(à (n+1) hs).filter qY).map (sOf N))=((Fr.leaf _::(hs.map Fr.leaf).filter fN).map (sF N));rw[Pm,Pm,ih];rfl)
   |exact ih
theorem BQ{α:Type}{p}{l:List α}(h:∀x∈l,p x=false):l.filter p=[]:=List.filter_eq_nil_iff.mpr λx hx=>by rw[h x hx];decide
theorem K8(O:eX hs ds mb):eY N (à 1 hs)=((Ą hs ds mb).filter fN).map (sF N):=by
 rw[AK];congr 1;unfold Ą;rw[P8,P8];have h1:(bE ds).filter fN=[]:=BQ λf hf=>by
  unfold bE at hf;obtain⟨d,md,hf⟩:=Qb.mp hf;unfold Ĉ at hf;rcases O2.mp hf with rfl|hf
  ·rfl
  rcases O5.mp hf with hf|hf
  ·obtain⟨k,hk⟩:=Py md;exact F3 (vy _ _ (O.de.at' k d hk).2.2.1 f hf)
  rw[OY.mp hf];rfl
 have h2:(Fr.main::(aA mb++[.fin])).filter fN=[]:=BQ λf hf=>by
  rcases O2.mp hf with rfl|hf
  ·rfl
  rcases O5.mp hf with hf|hf
  ·exact F3 (vy _ _ O.mo f hf)
  rw[OY.mp hf];rfl
 rw[h1,h2,Pu,Pu]
theorem LP (p) (h:fN f=true):∃ts,V.str f.wd::f.ts N p=V.str f.wd::V.str (sF N f).1::V.int (sF N f).2::ts:=by
 cases f with
 |leaf r=>cases r<;>first|exact{_,rfl}|cases h
 |_=>cases h
theorem xP:∀(cs:List Str)(g:Str->Int),cs.Nodup->∀x,(cs.foldl (Ş r) g) x=if x∈cs then SF (g x) (1*2^r.toNat)else g x
 | [],g,_,x=>by simp
 |c::cs,g,nd,x=>by
  rw[P1]at nd;rw[P9,xP cs _ nd.2 x];by_cases e:x=c
  ·subst e;rw[if_neg nd.1,if_pos O9];show(if x=x then _ else _)=_;rw[if_pos rfl]
  have h:Ş r g c x=g x:=if_neg e;rw[h];by_cases m:x∈cs
  ·rw[if_pos m,if_pos (O8 _ m)]
  rw[if_neg m,if_neg λz=>(O2.mp z).elim e m]
theorem qG{α β:Type}{p}{F:β->α->β}:∀(l:List α)(g:β),(∀r∈l,p r=false->∀g,F g r=g)->(l.filter p).foldl F g=l.foldl F g
 | [],g,_=>rfl
 |r::l,g,h=>by
  rw[Qm,P9];cases e:p r with
  |true=>rw[if_pos rfl,P9];exact qG l _ λx hx=>h x (O8 _ hx)
  |false=>rw[if_neg Pa,h r O9 e];exact qG l _ λx hx=>h x (O8 _ hx)
theorem IT (ls):∀n,eN ls n 0 []=[]
 |0=>rfl
 |n+1=>rfl
theorem FA:SF 0 1=1/\SF 0 2=2/\SF 1 2=3/\SF 0 4=4/\SF 1 4=5/\SF 2 4=6/\SF 3 4=7:=by decide+kernel
noncomputable def bt(c:Bool):Int:=if c=true then 1 else 0
theorem Gn(sn:((eY N hs).map (·.1)).Nodup) (x):DR N b hs ds ms x=bt (decide (x∈nq N b hs ds ms 0))+2*bt (decide (x∈nq N b hs ds ms 1))+4*bt (decide (x∈nq N b hs ds ms 2)):=by
 have nd:∀r,(nq N b hs ds ms r).Nodup:=λr=>Gi _ _ _ (by
  unfold YS;exact Vc (VB _ Rj) sn)
 unfold DR ů;rw[qG (F:=λg r=>(nq N b hs ds ms r).foldl (Ş r) g) [0,1,2] _ (λr _ h g=>by
  have e:YS N hs r=[]:=by
   unfold YS;rw[List.filter_eq_nil_iff.mpr]
   ·rfl
   intro s ms' z;exact of_decide_eq_false h (Pb.mpr ⟨s,ms',of_decide_eq_true z⟩)
  show(nq N b hs ds ms r).foldl (Ş r) g=g;unfold nq;rw[e,IT];rfl)]
 show((nq N b hs ds ms 2).foldl (Ş 2) ((nq N b hs ds ms 1).foldl (Ş 1) ((nq N b hs ds ms 0).foldl (Ş 0) λ_=>0))) x=_;rw[xP _ _ (nd 2),xP _ _ (nd 1),xP _ _ (nd 0)];obtain⟨o1,o2,o3,o4,o5,o6,o7⟩:=FA;have p0:(1:Int)*2^(0:Int).toNat=1:=∅
 have p1:(1:Int)*2^(1:Int).toNat=2:=∅
 have p2:(1:Int)*2^(2:Int).toNat=4:=∅
 rw[p0,p1,p2];unfold bt;by_cases h0:x∈nq N b hs ds ms 0<;>by_cases h1:x∈nq N b hs ds ms 1<;>by_cases h2:x∈nq N b hs ds ms 2<;>simp[h0,h1,h2,o1,o2,o3,o4,o5,o6,o7]
theorem Et(h:∀x∈S,x∈S')(r:ŀ ls S x):ŀ ls S' x:=by
 induction r with
 |base m=>exact .base (h _ m)
 |step m _ ih=>exact .step m ih
theorem Jk:ŀ ls S x↔∃s∈S,ŀ ls [s] x:=by
 constructor
 ·intro r;induction r with
  |base m=>exact{_,m,.base (OY.mpr rfl)}
  |step m _ ih=>
   obtain⟨s,ms,h⟩:=ih;exact⟨s,ms,.step m h⟩
 rintro⟨s,ms,h⟩;exact Et (λy hy=>by rw[OY.mp hy];exact ms) h
structure gh(H:Hp)(D:RJ)(kvs:List (Key×V))(pls:List Str)(wa:Str->RJ)(g:Str->Nat->Bool):Prop where
 d:H D=YH (.dK kvs)
 k:kvs.map (·.1)=pls.map Pq
 v:∀x∈pls,L2.cf kvs (.inr x)=YH (.ref (wa x))
 i:∀x∈pls,∀y∈pls,wa x=wa y->x=y
 l:∀x∈pls,H (wa x)=YH (.lst [.bl (g x 0),.bl (g x 1),.bl (g x 2)])
theorem gh.same(h:gh H D kvs pls wa g)(s:aj H H'):gh H' D kvs pls wa g:={s _ _ h.d,h.k,h.v,h.i,λx hx=>s _ _ (h.l x hx)}
theorem gh.len(h:gh H D kvs pls wa g):kvs.length=pls.length:=by
 have:=congrArg TF h.k;simpa using this
theorem OF(h:r<3)(g:Nat->Bool)(e:g 0=a/\g 1=b/\g 2=c):[V.bl a,V.bl b,V.bl c].set r (.bl true)=[V.bl (g 0||decide (0=r)),V.bl (g 1||decide (1=r)),V.bl (g 2||decide (2=r))]:=by
 obtain⟨rfl,rfl,rfl⟩:=e;rcases lt3 r h with rfl|rfl|rfl<;>simp
theorem gh.put(h:gh H D kvs pls wa g)(hx:x∈pls)(hr:r<3):gh (upd H (wa x) (.lst ([V.bl (g x 0),V.bl (g x 1),V.bl (g x 2)].set r (.bl true)))) D kvs pls wa (λy k=>g y k||(decide (y=x)&&decide (k=r))):=by
 refine{au (λz=>by have:=h.l x hx;rw[<-z,h.d]at this;cases this) h.d,h.k,h.v,h.i,λy hy=>?_};by_cases e:y=x
 ·subst e;rw[ao,OF hr (g y) ⟨rfl,rfl,rfl⟩];simp
 rw[aL λz=>e (h.i _ hy _ hx z),h.l y hy];simp[e]
theorem vI{kvs:List (Key×V)}{k:Key}(v:V)(h:k∉kvs.map (·.1)):YQ kvs k v=kvs++[(k,v)]:=uf v (yL h)
theorem HY{kvs:List (Key×V)}{k j:Key}{v:V}(h:k∉kvs.map (·.1)):L2.cf (kvs++[(k,v)]) j=if j=k then YH v else L2.cf kvs j:=by
 rw[<-vI v h,uG]
theorem gh.add{H D kvs pls wa}(h:gh H D kvs pls wa λ_ _=>false){x}(hx:x∉pls){l}(hl:H l=YI) :
  gh (upd (upd H l (.lst [.bl false,.bl false,.bl false])) D (.dK (kvs++[(.inr x,.ref l)]))) D (kvs++[(.inr x,.ref l)]) (pls++[x]) (λy=>if y=x then l else wa y) λ_ _=>false:=by
 have nk:(Pq x:Key)∉kvs.map (·.1):=by
  rw[h.k];exact λm=>hx (CD.mp m)
 have lD:l≠D:=YJ hl (h.d)
 have nw:∀y∈pls,wa y≠l:=λy hy z=>by have:=h.l y hy;rw[z,hl]at this;cases this
 have nD:∀y∈pls,wa y≠D:=λy hy z=>by have:=h.l y hy;rw[z,h.d]at this;cases this
 have ne:∀y∈pls,y≠x:=λy hy z=>hx (z▸hy)
 refine{ao,?_,λy hy=>?_,λy hy z hz e=>?_,λy hy=>?_}
 ·rw[PB,h.k,PB];rfl
 ·rw[HY nk];rcases O5.mp hy with hy|hy
  ·rw[if_neg λe=>ne y hy (Pq.inj e),if_neg (ne y hy)];exact h.v y hy
  rw[OY.mp hy,if_pos rfl,if_pos rfl]
 ·have e:(if y=x then l else wa y)=(if z=x then l else wa z):=e;rcases O5.mp hy with hy|hy
  ·rcases O5.mp hz with hz|hz
   ·rw[if_neg (ne y hy),if_neg (ne z hz)]at e;exact h.i _ hy _ hz e
   rw[if_neg (ne y hy),if_pos (OY.mp hz)]at e;exact absurd e (nw y hy)
  rcases O5.mp hz with hz|hz
  ·rw[if_pos (OY.mp hy),if_neg (ne z hz)]at e;exact absurd e.symm (nw z hz)
  rw[OY.mp hy,OY.mp hz]
 rcases O5.mp hy with hy|hy
 ·show upd _ _ _ (if y=x then l else wa y)=_;rw[if_neg (ne y hy)];exact au (nD y hy) (au (nw y hy) (h.l y hy))
 show upd _ _ _ (if y=x then l else wa y)=_
 rw[if_pos (OY.mp hy)]
 exact au lD ao
inductive Ca(A:Ö)(vs:List V)(H:Hp)(Q:VK)(Ä:XK):Prop
 |mk (N X v b hs ds ms L xs fs) (z0:vs=[v,.ref L,.bl b]) (z1:aj X H) (z2:rK A N X v hs ds ms) (z3:OkL N 6 hs ds ms) (z4:∀l∈cA N b ds ms,l.fr∈aT N hs ds ms/\l.to∈aT N hs ds ms) (z5:X L=YH (.lst xs)) (z6:ba N X fs xs) (z7:xs.length<=300) (z9:eY N hs=(fs.filter fN).map (sF N)) (z10:∀s∈eY N hs,(s.2=0\/s.2=1\/s.2=2)/\s.1∈aT N hs ds ms)
  (z8:∀(D kvs wa) (g:Str->Nat->Bool) (H'),aj H H'->H D=YI->gh H' D kvs (aT N hs ds ms) wa g->(∀x∈aT N hs ds ms,∀r,g x r=true↔∃s∈eY N hs,s.2=(r)/\ŀ (cA N b ds ms) [s.1] x)->Q (.ref D) H'):Ca A vs H Q Ä
inductive BO(v:V)(L:RJ)(b:Bool)(D:RJ)(H2:Hp)(pls:List Str)(i:Nat)(B:St)(Hc:Hp):Prop
 |mk (kvs wa v4):B=[YH v,YH (.ref L),YH (.bl b),YH (.ref D),v4,YI]->Sm [D] H2 Hc->(∀x∈pls.take i,H2 (wa x)=YI)->(gh Hc D kvs (pls.take i) wa λ_ _=>false)->BO v L b D H2 pls i B Hc
inductive Cd(v:V)(L:RJ)(b:Bool)(D:RJ)(pls:List Str)(wa:Str->RJ)(Hc:Hp)(kvs:List (Key×V))(s:RN)(fs:List Fr)(ds:List Pt)(ms:List Pt)(j:Nat)(B:St)(Hd:Hp):Prop
 |mk(g:Str->Nat->Bool) (v4 v5):B=[YH v,YH (.ref L),YH (.bl b),YH (.ref D),v4,v5]->Sm (pls.map wa) Hc Hd->gh Hd D kvs pls wa g->(∀x∈pls,∀r,g x r=true↔∃s∈((fs.take j).filter fN).map (sF N),s.2=(r)/\ŀ (cA N b ds ms) [s.1] x)->Cd v L b D pls wa Hc kvs s fs ds ms j B Hd
inductive Be(v:V)(L:RJ)(b:Bool)(D:RJ)(a:RJ)(pls:List Str)(wa:Str->RJ)(H4:Hp)(kvs:List (Key×V))(g:Str->Nat->Bool)(ss:List Str)(r:Nat)(i:Nat)(B:St)(He:Hp):Prop
 |mk(g':Str->Nat->Bool) (w4):B=[YH v,YH (.ref L),YH (.bl b),YH (.ref D),w4,YH (.ref a)]->Sm (pls.map wa) H4 He->gh He D kvs pls wa g'->(∀y∈pls,∀k,g' y k=true↔g y k=true\/(y∈ss.take i/\k=r))->Be v L b D a pls wa H4 kvs g ss r i B He
theorem Kd(T:Txt K mg A):T.wX.Hz P w base 30 (Ca A):=by
 have E_reached:=rA.has (DV (P:=P) (w:=w) (base:=base) T);refine T.wX.hs (k:=29) iU (λf Ã A' outer s H vs Q E' hr hu h=>?_);obtain⟨N,X,v,b,hs,ds,ms,L,xs,fs,rfl,s0,pg,O,en,hL,fr,lx,es,rk,q⟩:=h;have lf:=RT fr;refine⟨_,(ae (Ç 3 iU.nd (sP))
  (ae (bS RW rfl (bT (ak (hj:=by lia) (tU T 6) hr (fv 0^ab))) (Ð (i:=4) iU.nd rfl)
   (ai (bR (aI (dQ^dQ^dQ^ab)) (fD (fv 3) (fv 4) (fG hu YN)))))
  (ae (bS RW rfl (bT (fv 1)) (Ð (i:=5) iU.nd rfl)
   (ai (aS (Í (EE hu) (px hu (fv 5) af) (aV (aw^aw^ab)) ((by with_unfolding_all rfl)))
    (ai (bS RW rfl (bT (ak (hj:=by lia) E_reached hr (fv 0^px hu (fv 5) af^fv 2^ab))) (Ð (i:=4) iU.nd rfl)
     (ai (bR dQ (fD (px hu (fv 3) (fv 4)) (px hu (fv 5) af) (fG hu YN))))))
    aF)))
  (ai (aD (fv 3)))))),?_⟩
 refine ag λM1 K1 D hD=>?_;obtain⟨s1,e1⟩:=É hD (HO.dK []);generalize upd H D _=H1 at s1 e1⊢;refine K1 _ _ ?_;clear K1 M1;try dsimp only
 refine ag λM1 K1=>{N,X,v,hs,ds,ms,rfl,s0.trans s1,pg,O.ok,λL1 H2 s2 hL1 Ŕ=>?_};have pnd:=O.ok.nd;have pln:=O.ok.pl;have to:∀l∈cA N b ds ms,l.to∈aT N hs ds ms:=λl hl=>(en l hl).2;generalize ò:aT N hs ds ms=pls at Ŕ pnd pln to rk;have Ġ:=s2 _ _ e1;have LD:L1≠D:=YJ hL1 e1;have t2:=s1.trans s2;refine Pg {{_,À.of Ŕ},bQ (K:=K) (xs:=sS pls) ((BO v L b D H2 pls)) {[],λ_=>D,YI,rfl,Sm.refl _ _,(λx hx=>by cases hx),{Ġ,rfl,(λx hx=>by cases hx),(λx hx=>by cases hx),λx hx=>by cases hx}} (λi B Hc _ zz=>by obtain⟨_,_,_,_,z,_,_⟩:=zz;exact À.of (z _ _ (λm=>LD (OY.mp m)) Ŕ)) ?_ ?_}
 ·clear K1;rintro i y B Hc hy ⟨kvs,wa,v4,rfl,sc,nw,du⟩;rw[Pk]at hy;cases hx:pls[i]? with
  |none=>rw[hx]at hy;cases hy
  |some x=>
  rw[hx]at hy;cases hy;have tk:=uS hx;have nx:x∉pls.take i:=λm=>by
   have:=pnd.sublist (Xg (i+1) pls);rw[tk]at this;exact(Qp.mp this).2.2 x m x O9 rfl
  have kl:=du.len;rw[PV]at kl;have il:=(Pl.mp hx).1;try dsimp only
  refine{by show 3<=sizeLine;decide,λl hl=>?_};have hDl:upd Hc l (.lst [.bl false,.bl false,.bl false]) D=YH (.dK kvs):=au (λz=>by rw[<-z,du.d]at hl;cases hl) du.d;refine{_,ou.k (k:=.inr x) hDl (aH ()),?_};have nk:(Pq x:Key)∉kvs.map (·.1):=by
   rw[du.k];exact λm=>nx (CD.mp m)
  rw[vI _ nk];have H2l:H2 l=YI:=by
   cases e:H2 l with
   |none=>rfl
   |some o=>
    by_cases z:l=D
    ·rw[z,du.d]at hl;cases hl
    rw[sc l o (λm=>z (OY.mp m)) e]at hl;cases hl
  refine{kvs++[(.inr x,.ref l)],(λy=>if y=x then l else wa y),_,rfl,(sc.trans (Sm.new (aj.upd hl _))).trans (Sm.at (OY.mpr rfl) _),λy hy=>?_,?_}
  ·show H2 (if y=x then l else wa y)=YI;split
   ·exact H2l
   next ne=>
   rw[tk]at hy;rcases O5.mp hy with hy|hy
   ·exact nw y hy
   exact absurd (OY.mp hy) ne
  rw[tk];exact du.add nx hl
 rintro B Hc ⟨kvs,wa,v4,rfl,sc,nw,du⟩;rw[show pls.take (sS pls).length=pls by rw[OZ];exact PM]at nw du;refine K1 _ _ ?_;clear K1 M1;have H2D:H D=YI:=hD;have tc:aj H Hc:=sc.same t2 (λm hm=>by rw[OY.mp hm];exact hD);have hw:∀x∈pls,H (wa x)=YI:=λx hx=>aj.free t2 (nw x hx);try dsimp only
 refine ag λM1 K1=>?_;have sX0:=s0.trans tc;refine Pg ⟨{_,À.of (sX0 _ _ hL)},bQ (K:=K) (xs:=xs) ((Cd (N:=N) v L b D pls wa Hc kvs s fs ds ms)) {λ_ _=>false,v4,YI,rfl,Sm.refl _ _,du,λx hx r=>{λz=>(by cases z),λ⟨s,m,_⟩=>(by cases m)}} (λj B Hd _ zz=>by obtain⟨_,_,_,_,z,_,_⟩:=zz;exact À.of ((z.same sX0 (λm hm=>by
   obtain⟨x,hx,rfl⟩:=Pb.mp hm;exact aj.free s0 (hw x hx))) _ _ hL)) ?_ ?_⟩
 ·clear K1;rintro j y B Hd hy ⟨g,u4,u5,rfl,sd,dd,hg⟩;obtain⟨f',hf,fa⟩:=cq fr hy;obtain⟨a,p,rfl,ha,hob⟩:=fa;have hM:∀m∈pls.map wa,H m=YI:=λm hm=>by
   obtain⟨x,hx,rfl⟩:=Pb.mp hm;exact hw x hx
  have sHd:aj H Hd:=sd.same tc hM;have sX:=s0.trans sHd;have tk:=uS hf;try dsimp only
  refine Ê (j:=0) (È.of (sX _ _ ha)) rfl {by show 2<=sizeLine;decide,λtp ß=>?_};obtain⟨s3,e3⟩:=É ß (HO.tup [V.str "given",V.str "let"]);generalize upd Hd tp _=H3 at s3 e3⊢;have ń:=sX.trans s3;have d3:=dd.same s3;refine Pg {_,Qs (È.of e3),rfl,rfl,_,rfl,?_};rw[show(if false=true then !č (V.str f'.wd) [V.str "given",V.str "let"]else č (V.str f'.wd) [V.str "given",V.str "let"])=fN f' from Mm f'];refine bg (λz=>?_) (λz=>?_)
  ·obtain⟨ts,Ĺ⟩:=LP (N:=N) p z;rw[Ĺ]at ha;have ms':sF N f'∈eY N hs:=by
    rw[es];exact P0 (PX.mpr ⟨Pj hf,z⟩)
   obtain⟨rr,xp⟩:=rk _ ms';have ų:=È.of (K:=K) (ń _ _ ha);generalize hs0:sF N f'=s0' at Ĺ ms' rr xp ha ų;obtain⟨x,rk'⟩:=s0';obtain⟨r,hr3,rfl⟩:∃r:Nat,r<3/\rk'=(r:Int):=by
    rcases rr with h|h|h
    ·exact{0,∅,h}
    ·exact{1,∅,h}
    exact{2,∅,h}
   try dsimp only
   refine Ê (j:=1) ų rfl {N,X,v,x,b,hs,ds,ms,rfl,ń,pg,O,en,by rw[ò];exact xp,λR ss H4 s4 hR eR pm=>?_};rw[ò]at pm;have sb:∀y∈[x],y∈pls:=λy hy=>by rw[OY.mp hy];exact xp
   have d4:=d3.same s4;have ssm:∀y,y∈ss↔ŀ (cA N b ds ms) [x] y:=λy=>pm.mem_iff.trans (Cu to (by simp) sb y);have ssp:∀y∈ss,y∈pls:=λy hy=>by
    have h:=(ssm y).mp hy;cases h with
    |base h=>exact sb _ h
    |step h _=>exact to _ h
   have Rw:R∉pls.map wa:=λm=>by
    obtain⟨y,hy,e⟩:=Pb.mp m;have:=d3.l y hy;rw[e,hR]at this;cases this
   refine Pg {{_,À.of eR},bQ (K:=K) (xs:=sS ss) ((Be v L b D a pls wa H4 kvs g ss r)) {g,u4,rfl,Sm.refl _ _,d4,λy hy k=>by simp} (λi B He _ zz=>by obtain⟨_,_,_,z,_,_⟩:=zz;exact À.of (z _ _ Rw eR)) ?_ ?_}
   ·rintro i y B He hy ⟨g',w4,rfl,se,de,hg'⟩;rw[Pk]at hy;cases hx:ss[i]? with
    |none=>rw[hx]at hy;cases hy
    |some z'=>
    rw[hx]at hy;cases hy;have zp:=ssp z' (Pj hx);have tk':=uS hx;have sXe:aj X He:=se.same (ń.trans s4) (λm hm=>aj.free s0 (hM m hm));try dsimp only
    refine{_,.inl {_,_,.inl de.d,rfl,(de.v z' zp).symm},Ê (j:=2) (È.of (sXe _ _ ha)) rfl (Pg (stL.mk _ r (de.l z' zp) (CM hr3) {_,_,rfl,se.trans (Sm.at (P0 zp) _),de.put zp hr3,λy hy k=>?_}))};rw[Bool.or_eq_true,QB,decide_eq_true_iff,decide_eq_true_iff,hg' y hy k,tk',O5,OY];constructor
    ·rintro((h|⟨h1,h2⟩)|⟨h1,h2⟩)
     ·exact .inl h
     ·exact .inr ⟨.inl h1,h2⟩
     exact .inr ⟨.inr h1,h2⟩
    rintro(h|⟨h1|h1,h2⟩)
    ·exact .inl (.inl h)
    ·exact .inl (.inr ⟨h1,h2⟩)
    exact .inr ⟨h1,h2⟩
   rintro B He ⟨g',w4,rfl,se,de,hg'⟩;rw[show ss.take (sS ss).length=ss by rw[OZ];exact PM]at hg';refine{g',_,_,rfl,(sd.trans (Sm.new (s3.trans s4))).trans se,de,λy hy k=>?_};rw[hg' y hy k,hg y hy k,tk,P8,PB];have e9:([f'].filter fN).map (sF N)=[(x,(r:Int))]:=by
    rw[Qm,if_pos z,Qz,Pm,hs0];rfl
   rw[e9];constructor
   ·rintro(⟨s,m,h⟩|⟨h1,h2⟩)
    ·exact{s,Ph _ m,h}
    exact{_,Pc _ O9,by rw[h2],(ssm y).mp h1}
   rintro⟨s,m,h1,h2⟩;rcases O5.mp m with m|m
   ·exact .inl ⟨s,m,h1,h2⟩
   rw[OY.mp m]at h1 h2;exact .inr {(ssm y).mpr h2,by have h1:(r:Int)=(k:Int):=h1;lia}
  refine{g,_,_,rfl,sd.trans (Sm.new s3),d3,λy hy k=>?_};rw[hg y hy k,tk,P8,Qm,if_neg z,Qz,Pu]
 rintro B Hd ⟨g,u4,u5,rfl,sd,dd,hg⟩;rw[show fs.take xs.length=fs by rw[<-lf];exact PM,<-es]at hg;refine K1 _ _ ?_;subst ò;exact q D kvs wa g Hd (sd.same tc (λm hm=>by
  obtain⟨x,hx,rfl⟩:=Pb.mp hm;exact hw x hx)) hD dd hg
inductive eV(vs:List V)(H:Hp)(Q:VK)(Ä:XK):Prop
 |mk (Á D kvs pls wa) (g:Str->Nat->Bool) (t) (z0:vs=[.ref Á,.ref D]) (z1:H Á=YH (.dK (sk (pls.map Pq) (bV t)))) (z2:gh H D kvs pls wa g) (z3:∀x∈pls,t x=bt (g x 0)+2*bt (g x 1)+4*bt (g x 2)) (z4:Á≠D)
  (z8:Q (.bl true) H):eV vs H Q Ä
theorem tG(T:Txt K mg A):T.qF.Hz P w base 1 eV:=by
 refine T.qF.hs kC (λf Ã A' outer s H vs Q E' hr hu h=>?_);obtain⟨Á,D,kvs,pls,wa,g,t,rfl,hB,du,ht,BD,q⟩:=h;have kl:=du.len;refine⟨_,(ae (aS (PW.pt (pw_or (i5 (bh (Þ aX T.aG (fv 0^(pY (v:=.ty "dict") rfl T.mT (by boot_by_name) rfl)^ab)) (λ_=>rfl))) (pw_or1 (Í (rn hu) (Þ gI T.iw (fv 0^ab)) (Þ gI T.iw (fv 1^ab))))))
   (ai (aD dQ))
   aF)
  (ae (Bn RW rfl (fv 1) (MN 1) (Ð (i:=2) kC.nd rfl)
   (ae (aS (PW.pt (pw_or (Í (iy hu) (fv 2) (fv 0) ((by with_unfolding_all rfl))) (pw_or (i5 (bh (Þ aX T.aG (px hu (fv 0) (fv 2)^(pY (v:=.ty "int") rfl T.qW (by boot_by_name) rfl)^ab)) (λ_=>rfl))) (pw_or1 (bh (Þ aX T.aG (px hu (fv 0) (fv 2)^(pY (v:=.ty "bool") rfl T.xk (by boot_by_name) rfl)^ab)) (λ_=>rfl))))))
    (ai (aD dQ))
    aF)
   (ae (Ç 3 kC.nd (az aQ (ĥ wN T.qW (px hu (px hu (fv 1) (fv 2)) af^ab)) (az dh af (ĥ wN T.qW (px hu (px hu (fv 1) (fv 2)) af^ab)))))
   (ai (aS (Í (rn hu) (px hu (fv 0) (fv 2)) (az aQ (fv 3) (az dh af (ĥ wN T.qW (px hu (px hu (fv 1) (fv 2)) af^ab)))))
    (ai (aD dQ))
    aF)))))
  (ai (aD dQ)))),?_⟩
 refine ag λM1 K1=>{_,_,_,true,rfl,(λz=>by cases z),.dK hB,LW,true,rfl,aY (Qs {Á,_,rfl,.inl hB,Qs {D,_,rfl,.inl du.d,{rfl,_,rfl,?_}}})};have el:(((sk (pls.map Pq) (bV t)).length:Nat):Int)=((kvs.length:Nat):Int):=by rw[AW,OZ,kl]
 refine bg (λz=>absurd z (by rw[el,decide_eq_true rfl];decide)) λ_=>K1 _ _ ?_;clear K1 M1;try dsimp only
 refine ag λM1 K1=>{D,kvs,rfl,du.d,λo nfz knd=>{λi B Hf=>∃v2 v3,B=[YH (.ref Á),YH (.ref D),v2,v3]/\Hf=upd H D (.ë o (.dK kvs)),⟨YI,YI,rfl,rfl⟩,λi B Hf _ ⟨_,_,_,z⟩=>by rw[z];exact ao,?_,?_}}
 ·clear K1;rintro i k u B Hf hk ⟨v2,v3,rfl,rfl⟩;have hx:(pls.map (Pq:Str->Key))[i]?=YH k:=by rw[<-du.k,Pk,hk];rfl
  rw[Pk]at hx;cases ha:pls[i]? with
  |none=>rw[ha]at hx;cases hx
  |some x=>
  rw[ha]at hx;cases hx;have mx:=Pj ha;have hBf:upd H D (.ë o (.dK kvs)) Á=YH (.dK (sk (pls.map Pq) (bV t))):=au BD hB;have hDf:upd H D (.ë o (.dK kvs)) D=YH (.ë o (.dK kvs)):=ao;have hlf:upd H D (.ë o (.dK kvs)) (wa x)=YH (.lst [.bl (g x 0),.bl (g x 1),.bl (g x 2)]):=au (λz=>by have:=du.l x mx;rw[z,du.d]at this;cases this) (du.l x mx);generalize hH:upd H D (.ë o (.dK kvs))=Hf at hBf hDf hlf⊢;have gB:j4 Hf Á (.str x) (YH (.int (t x))):=by
   have:=MG (k:=.inr x) hBf (P0 mx);exact this
  have gD:j4 Hf D (.str x) (YH (.ref (wa x))):=.inl {kvs,.inr x,.inr ⟨o,hDf⟩,rfl,(du.v x mx).symm};have hS:=À.of (K:=K) hlf;try dsimp only
  refine ag λN1 J1=>Qs {Á,_,rfl,gB,_,rfl,aY {_,gB,{_,_,_,true,rfl,(λz=>by cases z),.int (t x),L6,true,rfl,aY {_,gB,{_,_,_,false,rfl,(λz=>by cases z),.int (t x),Lu,false,rfl,aY (J1 _ _ ?_)}}}}};clear J1 N1;try dsimp only
  refine ag λN1 J1=>{_,gD,Č (j:=0) hS rfl {_,rfl,{_,gD,Č (j:=1) hS rfl {_,rfl,.inl {∅,∅},J1 _ _ ?_}}}};clear J1 N1;try dsimp only
  refine{_,gB,{_,gD,Č (j:=2) hS rfl {_,rfl,.inl {∅,∅},{rfl,_,rfl,?_}}}};have e:V.int (t x)=V.int ((if g x 0=true then 1 else 0)+2*(if g x 1=true then 1 else 0)+4*(if g x 2=true then 1 else 0)):=congrArg V.int (ht x mx);refine bg (λz=>absurd z (by rw[decide_eq_true e];decide)) λ_=>{_,_,rfl,rfl}
 rintro B Hf ⟨v2,v3,rfl,rfl⟩;have eb:upd (upd H D (.ë o (.dK kvs))) D (.dK kvs)=H:=by
  funext a
  by_cases z:a=D
  ·rw[z,ao,du.d]
  rw[aL z,aL z]
 rw[eb];exact K1 _ _ q
noncomputable def pB(c:Int):Pt:=.loop 2 (.i (c%10^12)) (1+c%9) 0 (c%3) [.leaf 3 .last]
theorem mK (c):b4 N [] [pB c]=[(pB c,YI,YI),(.leaf 3 .last,YH (aU 2),YH (aU 2))]:=by
 unfold b4 fe pB;simp[bD,dm]
theorem nA (c):aT N [] [] [pB c]=[aU 2,"the clock"]:=by
 unfold aT;rw[mK];rfl
noncomputable def lB:Lk:={aU 2,"the clock","steps",2}
theorem OL(kn:Nat->Option Int) (c):(ĕ kn (pB c)).isSome=decide (c%3=1):=by
 unfold pB;simp only[ĕ,cz,iA,Bb,Mo];by_cases h:c%3=1
 ·rw[if_pos (),decide_eq_true h];rfl
 rw[if_neg (),decide_eq_false h];rfl
theorem pP (b c):cA N b [] [pB c]=if b=true/\¬ c%3=1 then[lB]else[]:=by
 unfold cA;rw[mK,P5,P5,XA,Pu];have r1:p8 N (ě N []) (pB c) YI YI=[]:=rfl;have r2:p8 N (ě N []) (.leaf 3 .last) (YH (aU 2)) (YH (aU 2))=[]:=by
  show ó [YH (aU 2)] (aU 2) "under" 3=[];unfold ó;simp[drP]
 have s2:∀kn,qe b kn (.leaf 3 .last)=[]:=λkn=>by cases b<;>rfl
 have e2:rD N b [] (.leaf 3 .last,YH (aU 2),YH (aU 2))=[]:=by
  show p8 N (ě N []) (.leaf 3 .last) (YH (aU 2)) (YH (aU 2))++qe b _ (.leaf 3 .last)=[];rw[r2,s2];rfl
 have e1:rD N b [] (pB c,YI,YI)=qe b (ē cz YI []) (pB c):=by
  show p8 N (ě N []) (pB c) YI YI++_=_;rw[r1];rfl
 rw[e1,e2,Pu];cases b with
 |false=>rw[if_neg (by simp)];rfl
 |true=>
  show rF (ē cz YI []) (pB c)=_;unfold rF;rw[if_neg (show ¬ yX (pB c)=true from Pa),OL];by_cases h:c%3=1
  ·rw[if_neg (by rw[decide_eq_true h];simp),if_neg (by simp[h])]
  rw[if_pos (by rw[decide_eq_false h];exact⟨rfl,rfl⟩),if_pos ⟨rfl,h⟩];rfl
theorem MQ(c:Int):OkT N 6 [] [] [pB c] where
 l:={
  ok:={
   bq:=λp m=>by cases m
   main:=by unfold pB;simp[lH,dep]
   nb:=by
    rw[mK];intro e he;rcases O2.mp he with rfl|he
    ·exact{by show(0:Int)<=2;decide,by show(2:Int)<=1000;decide}
    rw[OY.mp he];exact{by show(0:Int)<=3;decide,by show(3:Int)<=1000;decide}
   ln:=by rw[mK];show 2<=300;decide
   hl:=by show 0<=300;decide
   pl:=by rw[nA];show 2<=900;decide
   nd:=by
    rw[nA];refine P1.mpr {λm=>?_,by simp};exact qj ∅ ∅ (OY.mp m) }
  dk:={λp m=>(by cases m),λp m=>(by cases m),λi p h=>(by simp at h),λi j p q h=>(by simp at h),by show 0<=900;decide}
  nn:=by simp
  pn:=λp m=>by cases m
  k5:=by
   rw[mK];intro e he;rcases O2.mp he with rfl|he
   ·rfl
   rw[OY.mp he];rfl
  lo:=by
   rw[mK];intro e he;rcases O2.mp he with rfl|he
   ·intro z;cases z
   rw[OY.mp he];exact λ_=>rfl
  cal:=by
   rw[mK];intro e he;rcases O2.mp he with rfl|he
   ·trivial
   rw[OY.mp he];trivial
  ll:=λb=>by
   rw[pP];split<;>simp
  ck:=by
   rw[mK];have m9:=bY c (show(0:Int)<9 by decide);intro e he;rcases O2.mp he with rfl|he
   ·refine{?_,?_}
    ·show ħ _ (pB c);unfold pB;rw[ħ];exact{(),(),by simp[rp,ħ]}
    show dep (pB c)<=6;unfold pB;simp[lH,dep]
   rw[OY.mp he];exact{by simp[ħ],by simp[dep]} }
 fr:=λb l hl=>by
  rw[pP]at hl;rw[nA];split at hl
  ·rw[OY.mp hl];exact O9
  cases hl
 to:=λb l hl=>by
  rw[pP]at hl;rw[nA];split at hl
  ·rw[OY.mp hl];exact O8 _ O9
  cases hl
 rk:=λs m=>by cases m
 sn:=by simp[eY]
 ss:=λs m=>by cases m
inductive yO(vs:List V)(H:Hp)(Q:VK)(Ä:XK):Prop
 |mk (c):vs=[.int c]->(∀H',aj H H'->Q (.bl true) H')->yO vs H Q Ä
theorem BN(T:Txt K mg A):T.tK.Hz P w base 30 yO:=by
 have ka:=js (P:=P) (w:=w) (mg:=mg) (base:=base) (A:=A) T.iE;have G_table:=rA.d (p6 (P:=P) (w:=w) (base:=base) T 6);have E_table:=rA.has (p6 (P:=P) (w:=w) (base:=base) T 6);have E_links:=x8.has (rS (P:=P) (w:=w) (base:=base) T 6);refine T.tK.hs (k:=29) jg (λf Ã A' outer s H vs Q E' hr hu h=>?_);obtain⟨c,rfl,q⟩:=h;refine⟨_,(ae (Ç 1 jg.nd (bZ (hj:=by lia) T.cW (lW T) hr (aI ab^aI ab^(aI ((bZ (hj:=by lia) T.bA (lL T) hr (af^az bK (fv 0) (az tL af af)^az aQ af (az bK (fv 0) af)^(aI ((bZ (hj:=by lia) T.fL ka hr (af^ab))^ab))^af^az bK (fv 0) af^ab))^ab))^ab)))
  (ae (Ç 2 jg.nd (xW (dX aw (aI (dQ^dQ^dQ^ab)) (dX aw (aI (dQ^dQ^dQ^ab)) (xj))) rfl rfl (by intro z;cases z) ∅))
  (ae (aS (PW.pt (pw_or (i5 (bh (ak (hj:=by lia) (tG T) hr ((tO (hj:=by lia) G_table hr (fv 1^ab))^fv 2^ab)) (λ_=>rfl))) (pw_or (i5 (bh (ak (hj:=by lia) (tG T) hr ((ak (hj:=by lia) E_table hr (fv 1^dQ^ab))^fv 2^ab)) (λ_=>rfl))) (pw_or1 (Í (rn hu) (tO (hj:=by lia) (rS T 6) hr (fv 1^ab)) (aI ab))))))
   (ai (aD dQ))
   aF)
  (ae (Ç 3 jg.nd (ak (hj:=by lia) E_links hr (fv 1^dQ^ab)))
  (ai (aD (pec (cn hu) (fv 3) (px hu (aI (aI ab^aI (aV (aw^aw^aw^af^ab)^ab)^ab)) (ĥ wN T.qW (pec (rn hu) (az bK (fv 0) af) af^ab)))))))))),?_⟩
 refine ag λM1 K1=>{Pd _,λl0 h0=>?_};obtain⟨s1,e1⟩:=É h0 (HO.lst []);generalize upd H l0 _=H1 at s1 e1⊢;refine{Pd _,λl1 h1=>?_};obtain⟨s2,e2⟩:=É h1 (HO.lst []);generalize upd H1 l1 _=H2 at s2 e2⊢;refine{{∅,∅,∅},by show(0:Int)<10^12;decide,by show(0:Int)<9;decide,λr6 ā Ú hd_ hne_=>uF T Ú hd_ λH3 s3 hx=>{rfl,{by show 1<=sizeLine;decide,λl3 h3=>?_}}};obtain⟨s4,e4⟩:=É h3 (HO.lst [V.ref r6]);generalize upd H3 l3 _=H4 at s4 e4⊢;refine{by show(0:Int)<3;decide,λr7 dx7 hr7 hd7_ hne7_=>{_,_,_,_,_,_,_,_,_,_,rfl,rfl,hr7,hd7_,À.of e4,λn5 H5 f5 s5 h5 hx5=>{rfl,{by show 1<=sizeLine;decide,λl5 h6=>?_}}}};obtain⟨s6,e6⟩:=É h6 (HO.lst [V.ref r7]);generalize upd H5 l5 _=H6 at s6 e6⊢;have u16:=s2.trans (s3.trans (s4.trans (s5.trans s6)));refine λr8 dx8 hr8 hd8_ hne8_=>{_,_,_,_,_,_,_,_,_,rfl,rfl,hr8,hd8_,À.of (u16 _ _ e1),À.of ((s3.trans (s4.trans (s5.trans s6))) _ _ e2),À.of e6,λn6 n7 n8 H7 f6 f7 f8 s7 h6 h7 h8 hx7=>{rfl,K1 _ _ ?_}};clear K1 M1;have pg:rK A (λ_=>R7) H7 (.ref r8) [] [] [pB c]:=by
  refine{r8,dx8,n6,n7,n8,_,_,_,rfl,hx7,h6,h7,h8,aJ.nil,aJ.nil,aJ.one ?_};unfold pB bf;refine{r7,dx7,n5,_,rfl,(s6.trans s7) _ _ hx5,(s6.trans s7) _ _ h5,aJ.one ?_};unfold bf;exact{r6,ā,r6,rfl,(s4.trans (s5.trans (s6.trans s7))) _ _ hx,λo ho=>by cases ho}
 have t7:=s1.trans (u16.trans s7);clear hx7 h6 h7 h8 f6 f7 f8 hx5 h5 f5 hx;have O:=MQ (N:=λ_=>R7) c;have er:aU 2=("row 2":Str):=by decide+kernel
 try dsimp only
 refine ag λM1 K1 Dd hDd=>?_;obtain⟨s8,e8⟩:=É hDd (HO.dK []);generalize upd H7 Dd _=H8 at s8 e8⊢;refine{by show 3<=sizeLine;decide,λla hla=>?_};obtain⟨s9,e9⟩:=É hla (HO.lst [V.bl false,V.bl false,V.bl false]);have laD:la≠Dd:=YJ hla (e8);generalize upd H8 la _=H9 at s9 e9⊢;refine{by show 3<=sizeLine;decide,λlb hlb=>?_};obtain⟨Ő,e10⟩:=É hlb (HO.lst [V.bl false,V.bl false,V.bl false]);have lbD:lb≠Dd:=YJ hlb (s9 _ _ e8);have lba:lb≠la:=YJ hlb (e9);generalize upd H9 lb _=Š at Ő e10⊢;refine{(s9.trans Ő) _ _ e8,[(.inr "row 2",.ref la),(.inr "the clock",.ref lb)],rfl,by show 2<=15;decide,K1 _ _ ?_};clear K1 M1;have t8:aj H7 (upd Š Dd (.dK [(.inr "row 2",.ref la),(.inr "the clock",.ref lb)])):=λa o e=>au (λz=>by rw[z,hDd]at e;cases e) ((s8.trans (s9.trans Ő)) a o e);have du:gh (upd Š Dd (.dK [(.inr "row 2",.ref la),(.inr "the clock",.ref lb)])) Dd [(.inr "row 2",.ref la),(.inr "the clock",.ref lb)] [aU 2,"the clock"] (λx=>if x=aU 2 then la else lb) λ_ _=>false:=by
  have n2:("the clock":Str)≠aU 2:=λz=>qj ∅ ∅ z.symm;refine{ao,by rw[er];rfl,λx hx=>?_,λx hx y hy e=>?_,λx hx=>?_}
  ·rcases O2.mp hx with rfl|hx
   ·rw[if_pos rfl,er];rfl
   rw[OY.mp hx,if_neg n2];rfl
  ·have e:(if x=aU 2 then la else lb)=(if y=aU 2 then la else lb):=e;rcases O2.mp hx with rfl|hx
   ·rcases O2.mp hy with rfl|hy
    ·rfl
    rw[if_pos rfl,OY.mp hy,if_neg n2]at e;exact absurd e.symm lba
   rcases O2.mp hy with rfl|hy
   ·rw[if_pos rfl,OY.mp hx,if_neg n2]at e;exact absurd e lba
   rw[OY.mp hx,OY.mp hy]
  rcases O2.mp hx with rfl|hx
  ·show upd _ _ _ (if aU 2=aU 2 then la else lb)=_;rw[if_pos rfl];exact au laD (Ő _ _ e9)
  rw[OY.mp hx];show upd _ _ _ (if("the clock":Str)=aU 2 then la else lb)=_;rw[if_neg n2];exact au lbD e10
 have em:bu [] [((Pq "row 2":Key),V.ref la),(.inr "the clock",.ref lb)]=[(.inr "row 2",.ref la),(.inr "the clock",.ref lb)]:=rfl;rw[em];generalize upd Š Dd (.dK [(.inr "row 2",.ref la),(.inr "the clock",.ref lb)])=H11 at t8 du⊢;have tab:∀(b:Bool){Ha:Hp},aj H11 Ha->∀{Q2:VK}{E2:XK}(vs:List V),vs=[.ref r8,.bl b]->(∀(Á:RJ)(Hb:Hp),aj Ha Hb->eV [.ref Á,.ref Dd] Hb (λv H'=>v=.bl true/\H'=Hb) E2->Q2 (.ref Á) Hb)->pV A 6 vs Ha Q2 E2:=by
  intro b Ha sa Q2 E2 vs ev k;refine{_,H7,.ref r8,b,[],[],[pB c],ev,t8.trans sa,pg,O,λÁ Hb sb hB eB=>k Á Hb sb ?_};rw[nA]at eB;exact{Á,Dd,_,_,_,_,_,rfl,eB,du.same (sa.trans sb),(λx _=>rfl),(λz=>by rw[z,sa _ _ du.d]at hB;cases hB),rfl,rfl}
 have mono:∀{vs:List V}{Hb:Hp}{Q2 Q3:VK}{E2:XK},(∀v H',Q2 v H'->Q3 v H')->eV vs Hb Q2 E2->eV vs Hb Q3 E2:=by
  rintro vs Hb Q2 Q3 E2 h ⟨Á,D,kvs,pls,wa,g,t,z0,z1,z2,z3,z4,z8⟩;exact{Á,D,kvs,pls,wa,g,t,z0,z1,z2,z3,z4,h _ _ z8}
 try dsimp only
 refine ag λM1 K1=>tab false (aj.refl _) _ rfl λB1 Ha sa ta=>mono (λv H' ⟨e1,e2⟩=>?_) ta;subst e1 e2;refine{_,rfl,aY (tab true sa _ rfl λB2 Hb sb tb=>mono (λv H' ⟨e1,e2⟩=>?_) tb)};subst e1 e2;refine{_,rfl,aY ?_};have sab:=sa.trans sb;refine{_,H7,.ref r8,false,[],[],[pB c],rfl,t8.trans sab,pg,O.l,λR ys Hc sc hR eR lk=>?_};rw[pP,if_neg (by simp)]at lk;cases lk;refine{Pd _,λl9 h9=>?_};obtain⟨ż,e12⟩:=É h9 (HO.lst []);generalize upd Hc l9 _=Hd at ż e12⊢;refine{.list [],.list [],.lst (À.of (ż _ _ eR)) .nil,.lst (À.of e12) .nil,rfl,rfl,_,rfl,aY (K1 _ _ ?_)};clear K1 M1;have u12:=t8.trans (sab.trans (sc.trans ż));try dsimp only
 refine ag λM1 K1=>{_,H7,.ref r8,true,[],[],[pB c],rfl,u12,pg,O.l,λR2 ys2 He se hR2 ī lk2=>K1 _ _ ?_};clear K1 M1;have u13:=t7.trans (u12.trans se);try dsimp only
 refine{Pd _,λm0 hm0=>?_};obtain⟨s14,e14⟩:=É hm0 (HO.lst []);generalize upd He m0 _=Hf at s14 e14⊢;refine{by show 4<=sizeLine;decide,λtp ß=>?_};obtain⟨ř,e15⟩:=É ß (HO.tup [V.str "row 2",V.str "the clock",V.str "steps",V.int 2]);generalize upd Hf tp _=Hg at ř e15⊢;refine{by show 1<=sizeLine;decide,λm1 hm1=>?_};obtain⟨s16,e16⟩:=É hm1 (HO.lst [V.ref tp]);generalize upd Hg m1 _=Hh at s16 e16⊢;refine{by show 2<=sizeLine;decide,λm2 hm2=>?_};obtain⟨s17,e17⟩:=É hm2 (HO.lst [V.ref m0,V.ref m1]);generalize upd Hh m2 _=Hi at s17 e17⊢;have v17:=s14.trans (ř.trans (s16.trans s17));have w17:=ř.trans (s16.trans s17);refine{by show(0:Int)<3;decide,rfl,_,rfl,?_};rw[pP]at lk2;by_cases h:c%3=1
 ·rw[if_neg (by simp[h])]at lk2;cases lk2;have e0:V.int (c%3)=V.int 1:=by rw[h]
  rw[decide_eq_true e0];exact Č (j:=0) (À.of e17) rfl (Pg (Pg {.list [],.list [],.lst (À.of (v17 _ _ ī)) .nil,.lst (À.of (w17 _ _ e14)) .nil,rfl,rfl,q _ (u13.trans v17)}))
 rw[if_pos ⟨rfl,h⟩]at lk2;have e0:¬ V.int (c%3)=V.int 1:=λz=>h (V.int.inj z);rw[decide_eq_false e0];refine Č (j:=1) (À.of e17) rfl ?_;obtain⟨y,rfl,t2,rfl,et2⟩:=nv lk2;have et2:He t2=YH (.tup [V.str (aU 2),V.str "the clock",V.str "steps",V.int 2]):=et2;rw[er]at et2;have rt:∀{a:RJ},Hi a=YH (.tup [V.str "row 2",V.str "the clock",V.str "steps",V.int 2])->lQ K Hi (.ref a) (.tuple [.str "row 2",.str "the clock",.str "steps",.int 2]):=λh=>.tup (È.of h) (.cons (.str _) (.cons (.str _) (.cons (.str _) (.cons (.int _) .nil))));refine Pg (Pg {.list [.tuple [.str "row 2",.str "the clock",.str "steps",.int 2]],.list [.tuple [.str "row 2",.str "the clock",.str "steps",.int 2]],.lst (À.of (v17 _ _ ī)) (.cons (rt (v17 _ _ et2)) .nil),.lst (À.of (s17 _ _ e16)) (.cons (rt ((s16.trans s17) _ _ e15)) .nil),by decide+kernel,by decide+kernel,?_});rw[show WZ (.list [.tuple [.str "row 2",.str "the clock",.str "steps",.int 2]]) (.list [.tuple [.str "row 2",.str "the clock",.str "steps",.int 2]])=true by decide+kernel];exact q _ (u13.trans v17)
noncomputable def sxH:Lr->List Nat
 | .Ŋ i _ _=>[i]
 | .lt i _=>[i]
 |_=>[]
theorem zZ:∀hs n,(eY N (à n hs)).map (·.1)=(hs.flatMap sxH).map N
 | [],n=>rfl
 |r::hs,n=>by
  rw[à,P5,PB,<-zZ hs (n+1)];unfold eY;rw[Qm];cases r<;>rfl
theorem ux:∀(hs:List Lr),(hs.flatMap sxH).Sublist (hs.flatMap ixH)
 | []=>.slnil
 |r::hs=>by
  rw[P5,P5];refine List.Sublist.append ?_ (ux hs);cases r<;>first|exact List.Sublist.refl _|exact List.nil_sublist _
theorem Kn(m:s∈eY N (à n hs)):∃r∈hs,fN (.leaf r)=true/\s=sF N (.leaf r):=by
 rw[AK]at m;obtain⟨f,mf,rfl⟩:=Pb.mp m;obtain⟨h1,h2⟩:=PX.mp mf;obtain⟨r,mr,rfl⟩:=Pb.mp h1;exact⟨r,mr,h2,rfl⟩
theorem Lf(nm:ko N){hs:List Lr}{ds:List De}{mb:List Tr}(O:eX hs ds mb):OkT N 6 (à 1 hs) (Î ((hs.length:Nat)+1) ds) (br (ì hs ds) mb) where
 l:=JW nm O
 fr:=λb l hl=>(BP nm O b l hl).1
 to:=λb l hl=>(BP nm O b l hl).2
 rk:=λs m=>by
  obtain⟨r,mr,h2,rfl⟩:=Kn m;obtain⟨rk,z,t,e1,hrk,_⟩:=O.hd;have hr:r∈oJ rk z:=by
   rw[e1]at mr;unfold rb at mr;rcases O5.mp mr with h|h
   ·exact QX h
   exact Qo h
  unfold oJ at hr;simp only[O2,Po,or_false]at hr;rcases hr with rfl|rfl|rfl|rfl|rfl|rfl|rfl|rfl|rfl|rfl|rfl<;>first|exact hrk _|cases h2
 sn:=by
  rw[zZ];obtain⟨d1,d2,_⟩:=AR O;unfold Ņ at d1 d2;have d1':=(Qp.mp d1).1;refine AM ((ux hs).nodup d1') λx hx y hy e=>nm.inj x y (d2 x (Ph _ ((ux hs).subset hx))) (d2 y ?_) e;exact Ph _ ((ux hs).subset hy)
 ss:=λs m=>by
  have h:s.1∈(eY N (à 1 hs)).map (·.1):=P0 m;rw[zZ]at h;obtain⟨i,mi,e⟩:=Pb.mp h;rw[<-e,nN];refine Ph _ (Ph _ (P0 ?_));unfold Ņ;exact Ph _ ((ux hs).subset mi)
theorem HZ(O:OkT N 6 hs ds ms){g:Str->Nat->Bool}(hg:∀x∈aT N hs ds ms,∀r,g x r=true↔∃s∈eY N hs,s.2=(r:Int)/\ŀ (cA N b ds ms) [s.1] x):∀x∈aT N hs ds ms,DR N b hs ds ms x=bt (g x 0)+2*bt (g x 1)+4*bt (g x 2):=by
 intro x hx;have k:∀r:Nat,decide (x∈nq N b hs ds ms (r:Int))=g x r:=λr=>by
  rw[Qw,decide_eq_true_iff,hg x hx r];unfold nq;have nd:(YS N hs (r:Int)).Nodup:=by
   unfold YS;exact Vc (VB _ Rj) O.sn
  have sb:∀y∈YS N hs (r:Int),y∈aT N hs ds ms:=λy hy=>by
   obtain⟨s,m,rfl⟩:=Pb.mp hy;exact O.ss s (PX.mp m).1
  rw[Cu (O.to b) nd sb,Jk];constructor
  ·rintro⟨y,hy,h⟩;obtain⟨s,m,rfl⟩:=Pb.mp hy;obtain⟨m1,m2⟩:=PX.mp m;exact⟨s,m1,of_decide_eq_true m2,h⟩
  rintro⟨s,m,e,h⟩;exact{s.1,Pb.mpr {s,PX.mpr ⟨m,decide_eq_true e⟩,rfl},h}
 rw[Gn O.sn,<-k 0,<-k 1,<-k 2];rfl
noncomputable def xc(K:RS):Sp:=λvs H Q _=>∃(a:RJ)(ns:List Int),vs=[.ref a]/\À K H a (ns.map V.int)/\ns.length<=63/\∀H',Q (.bl true) H'
inductive Ci(sc:RJ)(nl:RJ)(L:RJ)(D0:RJ)(v:V)(b:Bool)(D:RJ)(Á:RJ)(H11:Hp)(i:Nat)(B:St)(Hd:Hp):Prop
 |mk(v8 v9:Option V):B=[YH (.ref sc),YH (.ref nl),YH (.ref L),YH (.ref D0),YH v,YH (.bl b),YH (.ref D),YH (.ref Á),v8,v9]->Hd=H11->Ci sc nl L D0 v b D Á H11 i B Hd
inductive BV(sc:RJ)(nl:RJ)(L:RJ)(D0:RJ)(v:V)(b:Bool)(D:RJ)(Á:RJ)(tp:RJ)(Hd:Hp)(k:Nat)(B:St)(He:Hp):Prop
 |mk(v9:Option V):B=[YH (.ref sc),YH (.ref nl),YH (.ref L),YH (.ref D0),YH v,YH (.bl b),YH (.ref D),YH (.ref Á),YH (.ref tp),v9]->He=Hd->BV sc nl L D0 v b D Á tp Hd k B He
theorem MB(T:Txt K mg A)(F:a9 K mg "law" tZ ["_law_script"]):Has P w K mg base 31 "law" ["_law_script"] (xc K):=by
 have bw:=@AJ P w _ _ base _ T;have kA:=@tG P w _ _ base _ T;have G_table:=rA.d (p6 (P:=P) (w:=w) (base:=base) T 6);have E_table:=rA.has (p6 (P:=P) (w:=w) (base:=base) T 6);have E_links:=x8.has (rS (P:=P) (w:=w) (base:=base) T 6);refine F.hs (k:=30) jo (λf Ã A' outer s0 H vs Q E hr hu h=>?_) (λvs H Q E h=>by obtain⟨a,ns,rfl,_⟩:=h;rfl);obtain⟨sc,ns,rfl,hS,_,q⟩:=h;refine⟨_,(ae (aS (i5 (bh (ak (hj:=by lia) (BN T) hr ((ak (hj:=by lia) bw hr (fv 0^af^ab))^ab)) (λ_=>rfl)))
   (ai (aD dQ))
   aF)
  (ae (Ç 1 jo.nd (ak (hj:=by lia) (GQ T) hr ((ak (hj:=by lia) bw hr (fv 0^af^ab))^(ak (hj:=by lia) bw hr (fv 0^af^ab))^af^ab)))
  (ae (bR (ak (hj:=by lia) (IK T) hr ((ak (hj:=by lia) (Lm T) hr (fv 0^fv 1^ab))^(ak (hj:=by lia) bw hr (fv 0^af^ab))^ab)) (dj rfl (aN (Ð (i:=2) jo.nd rfl) (aN (Ð (i:=3) jo.nd rfl) cc))))
  (ae (Ç 4 jo.nd (ak (hj:=by lia) (IJ T) hr (fv 2^ab)))
  (ae (Ç 5 jo.nd (pec (cn hu) (az bK (ak (hj:=by lia) bw hr (fv 0^af^ab)) af) af))
  (ae (Ç 6 jo.nd (ak (hj:=by lia) (Kd T) hr (fv 4^fv 2^fv 5^ab)))
  (ae (Ç 7 jo.nd (ak (hj:=by lia) E_table hr (fv 4^fv 5^ab)))
  (ae (aS (i5 (bh (ak (hj:=by lia) kA hr (fv 7^fv 6^ab)) (λ_=>rfl)))
   (ai (aD dQ))
   aF)
  (ae (bS RW rfl (bT (ak (hj:=by lia) E_links hr (fv 4^fv 5^ab))) (Ð (i:=8) jo.nd rfl)
   (ai (bS RW rfl (dA rfl T.dF (af^ab)) (Ð (i:=9) jo.nd rfl)
    (ai (aS (PW.pt (pw_and (bh (px hu (px hu (fv 6) (px hu (fv 8) af)) (fv 9)) (λ_=>rfl)) (pw_and1 (i5 (bh (px hu (px hu (fv 6) (px hu (fv 8) af)) (fv 9)) (λ_=>rfl))))))
     (ai (aD dQ))
     aF)))))
  (ae (aR (FH (fv 7)))
  (ae (aS (i5 (bh (ak (hj:=by lia) (BN T) hr ((ak (hj:=by lia) bw hr (fv 0^af^ab))^ab)) (λ_=>rfl)))
   (ai (aD dQ))
   aF)
  (ae (aS (PW.pt (pw_and (i5 (bh (fv 5) (λ_=>rfl))) (pw_and1 (i5 (bh (ak (hj:=by lia) kA hr ((tO (hj:=by lia) G_table hr (fv 4^ab))^fv 6^ab)) (λ_=>rfl))))))
   (ai (aD dQ))
   aF)
  (ai (aD (ak (hj:=by lia) kA hr ((DX (hj:=by lia) (p6 T 6) hr (fv 4^ab) (fv 5))^fv 6^ab)))))))))))))))),?_⟩
 refine ag λM1 K1=>{sc,ns,0,rfl,hS,∅,∅,λc0 H0 s00=>{c0,rfl,λH01 s01=>{_,rfl,aY (K1 _ _ ?_)}}};clear K1 M1;have t0:=s00.trans s01;try dsimp only
 refine ag λM1 K1=>{sc,ns,0,rfl,t0.seq hS,∅,∅,λc1 H1 s1=>{sc,ns,1,rfl,(t0.trans s1).seq hS,∅,∅,λc2 H2 s2=>{c1,c2,rfl,λnl N H3 s3 hnl enl nm=>K1 _ _ ?_}}};clear K1 M1;have t3:=t0.trans (s1.trans (s2.trans s3));try dsimp only
 refine ag λM1 K1=>{N,sc,nl,ns,rfl,t3.seq hS,enl,nm,λL0 xs0 hs ds0 mb0 H4 s4 hL0 eL0 Ĕ O0=>?_};have lx0:xs0.length<=300:=by
  have:=w6 O0;rw[<-RT Ĕ];lia
 rw[zu]at Ĕ;refine{sc,ns,3,rfl,(t3.trans s4).seq hS,∅,∅,λc3 H5 s5=>{N,L0,c3,xs0,hs,kN ds0 mb0,rfl,s5 _ _ eL0,ba.same s5 Ĕ,HQ O0,nm,lx0,λp L D0 xs ss H6 s6 ep eL sim fr kn=>{p,_,rfl,È.of ep,rfl,_,_,rfl,_,_,rfl,rfl,?_}}};obtain⟨ds,mb,rfl,O,_⟩:=DM O0 sim;rw[<-zu]at fr;have t6:=t3.trans (s4.trans (s5.trans s6));have lf:=w6 O;have lx':=RT fr;have lx:xs.length<=300:=()
 clear Ĕ O0 sim kn ep lx0 eL0 hL0;refine K1 _ _ ?_;clear K1 M1;try dsimp only
 refine ag λM1 K1=>{N,H6,L,xs,hs,ds,mb,rfl,aj.refl _,eL,fr,O,lx,λv H7 s7 pg=>?_};have OT:=Lf nm O;have es:=K8 (N:=N) O;generalize à 1 hs=Ŧ at pg OT es;generalize Î ((hs.length:Nat)+1) ds=Ĭ at pg OT;generalize br (ì hs ds) mb=ms' at pg OT;generalize Ą hs ds mb=fs at fr es lf lx';have t7:=t6.trans s7;refine K1 _ _ ?_;clear K1 M1;try dsimp only
 refine ag λM1 K1=>{sc,ns,4,rfl,t7.seq hS,∅,∅,λc4 H8 s8=>{by show(0:Int)<2;decide,rfl,?_}};generalize decide (V.int (c4%2)=V.int 1)=b;have t8:=t7.trans s8;refine K1 _ _ ?_;clear K1 M1;try dsimp only
 refine ag λM1 K1=>{N,H7,v,b,Ŧ,Ĭ,ms',L,xs,fs,rfl,s8,pg,OT.l,λl hl=>⟨OT.fr b l hl,OT.to b l hl⟩,s7 _ _ eL,ba.same s7 fr,lx,es,λs m=>⟨OT.rk s m,OT.ss s m⟩,λD kvs wa g H9 s9 hD du hg=>K1 _ _ ?_};clear K1 M1;have ht:=HZ OT hg;have s79:=s8.trans s9;have tab:∀{Ha:Hp},aj H9 Ha->∀{Q2:VK}{E2:XK}(vs:List V),vs=[v,.bl b]->(∀(Á:RJ)(Hb:Hp),aj Ha Hb->Ha Á=YI->Hb Á=YH (.dK (sk ((aT N Ŧ Ĭ ms').map Pq) (bV (DR N b Ŧ Ĭ ms'))))->(∀{Hc:Hp},aj Hb Hc->eV [.ref Á,.ref D] Hc (λv H'=>v=.bl true/\H'=Hc) E2)->Q2 (.ref Á) Hb)->pV A 6 vs Ha Q2 E2:=by
  intro Ha sa Q2 E2 vs ev k;exact{N,H7,v,b,Ŧ,Ĭ,ms',ev,s79.trans sa,pg,OT,λÁ Hb sb hB eB=>k Á Hb sb hB eB λ{Hc} sc'=>{Á,D,_,_,_,_,_,rfl,sc' _ _ eB,du.same (sa.trans (sb.trans sc')),ht,(λz=>by rw[z,sa _ _ du.d]at hB;cases hB),rfl,rfl}}
 have mono:∀{vs:List V}{Hb:Hp}{Q2 Q3:VK}{E2:XK},(∀v H',Q2 v H'->Q3 v H')->eV vs Hb Q2 E2->eV vs Hb Q3 E2:=by
  rintro vs Hb Q2 Q3 E2 h ⟨Á,D,kvs,pls,wa,g,t,z0,z1,z2,z3,z4,z8⟩;exact{Á,D,kvs,pls,wa,g,t,z0,z1,z2,z3,z4,h _ _ z8}
 try dsimp only
 refine ag λM1 K1=>tab (aj.refl _) _ rfl λÁ Š Ő hB eB tb=>K1 _ _ ?_;clear K1 M1;try dsimp only
 refine ag λM1 K1=>mono (λv' H' ⟨e1,e2⟩=>?_) (tb (aj.refl _));subst e1 e2;refine{_,rfl,aY (K1 _ _ ?_)};clear K1 M1;try dsimp only
 refine ag λM1 K1=>{N,H7,v,b,Ŧ,Ĭ,ms',rfl,s79.trans Ő,pg,OT.l,λS ys H11 s11 hS11 eS lk=>?_};have d11:=du.same (Ő.trans s11);refine Pg {{_,À.of eS},bQ (K:=K) (xs:=ys) ((Ci sc nl L D0 v b D Á H11)) ⟨YI,YI,rfl,rfl⟩ (λi B Hd _ zz=>by obtain⟨_,_,_,z⟩:=zz;exact by rw[z];exact À.of eS) ?_ ?_}
 ·clear K1;rintro i y B Hd hy ⟨v8,v9,rfl,rfl⟩;obtain⟨l,hl,tp,rfl,ũ⟩:=cq lk hy;have ml:=Pj hl;have lf':=OT.fr b l ml;have lt':=OT.to b l ml;have hT:=È.of (K:=K) ũ;have gf:=À.of (K:=K) (d11.l _ lf');have gt:=À.of (K:=K) (d11.l _ lt');have Df:j4 Hd D (.str l.fr) (YH (.ref (wa l.fr))):=.inl {kvs,.inr l.fr,.inl d11.d,rfl,(d11.v _ lf').symm};have Dt:j4 Hd D (.str l.to) (YH (.ref (wa l.to))):=.inl {kvs,.inr l.to,.inl d11.d,rfl,(d11.v _ lt').symm};try dsimp only
  refine{_,rfl,∅,∅,j5 ((BV sc nl L D0 v b D Á tp Hd)) ⟨v9,rfl,rfl⟩ ?_ ?_}
  ·rintro k B He hk ⟨w9,rfl,rfl⟩;have ej:(0:Int)+(k:Int)=(k:Int):=()
   rw[ej];have k3:k<3:=hk;have ga:∀y,([V.bl (g y 0),V.bl (g y 1),V.bl (g y 2)]:List V)[k]?=YH (V.bl (g y k)):=λy=>by
    rcases lt3 k k3 with rfl|rfl|rfl<;>rfl
   try dsimp only
   refine Ê (j:=0) hT rfl {_,Df,Č gf (ga l.fr) {_,rfl,?_}};cases c:g l.fr k with
   |false=>exact aY (aY {_,rfl,rfl})
   |true=>
    refine bW (Ê (j:=1) hT rfl {_,Dt,Č gt (ga l.to) {_,rfl,?_}});have:g l.to k=true:=by
     obtain⟨s,m,e,r⟩:=(hg _ lf' k).mp c;exact(hg _ lt' k).mpr ⟨s,m,e,.step ml r⟩
    rw[this];exact aY {_,rfl,rfl}
  rintro B He ⟨w9,rfl,rfl⟩;exact{_,_,rfl,rfl}
 rintro B Hd ⟨v8,v9,rfl,rfl⟩;refine K1 _ _ ?_;clear K1 M1;have eB11:=s11 _ _ eB;try dsimp only
 refine ag λM1 K1=>{Qs (Qs (Pg {rfl,.inl {_,eB11}})),Á,_,rfl,rfl,eB11,?_};have ż:aj H9 (upd Hd Á (.dK [])):=Ox (Ő.trans s11) hB _;generalize upd Hd Á (.dK [])=H12 at ż⊢;have t12:=t8.trans (s9.trans ż);refine K1 _ _ ?_;clear K1 M1;try dsimp only
 refine ag λM1 K1=>{sc,ns,1,rfl,t12.seq hS,∅,∅,λc5 H13 s13=>{c5,rfl,λH14 s14=>{_,rfl,aY (K1 _ _ ?_)}}};clear K1 M1;have s94:=ż.trans (s13.trans s14);try dsimp only
 refine ag λM1 K1=>?_;have fin:∀H15,aj H9 H15->M1 [YH (.ref sc),YH (.ref nl),YH (.ref L),YH (.ref D0),YH v,YH (.bl b),YH (.ref D),YH (.ref Á),v8,v9] H15:=λH15 ř=>K1 _ _ (by
  refine tab ř _ rfl λB2 H16 s16 hB2 eB2 tb2=>mono (λv' H' ⟨e1,e2⟩=>?_) (tb2 (aj.refl _));subst e1 e2;exact q _)
 clear K1;refine{_,rfl,?_};cases b with
 |true=>exact aY (aY (fin _ s94))
 |false=>
  refine bW (tab s94 _ rfl λB2 H16 s16 hB2 eB2 tb2=>mono (λv' H' ⟨e1,e2⟩=>?_) (tb2 (aj.refl _)));subst e1 e2;exact{_,rfl,aY (fin _ (s94.trans s16))}
end
inductive FnI(K:RS)(f:RJ)(x y:Str)(s:Si):Prop
 |mk(oc:RI)(od:Option RJ)(kV dc pm:RI)(an:Option RJ)(cd ct:RI)(sl:Array (Option RI))(l:K.lookup f=YH {oc,od,.func (Te x y (bG s) (bp s) (aq s) .none kV dc pm an cd ct),sl})(c:UP K cd y=true)(k:Tq K (.ref f)=true):FnI K f x y s
abbrev b5(K:RS)(x:Str)(s:Si):Prop:=∃f,Ye K R9 x=YH (YH (.ref f))/\FnI K f x x s
abbrev jF(K:RS)(C:RJ)(m q:Str)(s:Si):Prop:=∃f,S9 K (.ref C) m=YH (YH (.ref f))/\YD K (.ref f)=true/\FnI K f m q s
abbrev nT(K:RS)(C:RJ)(x:Str)(up:List RJ):Prop:=Ye K R9 x=YH (YH (.ref C))/\(∃cd,W.clsIn K C=YH cd/\cd.mro=up.map Sd++[Tj "object"])/\VJ K C R7=true/\V6 K C=true/\XJ K C=true/\S9 K (.ref C) "__setattr__"=YH (YH (.builtin "object.__setattr__"))/\W.typeIn K (.ref C)=YH (.type "type")/\S9 K (.ref C) "__class__"=YH (YH (.builtin "object.__class__"))/\Xu K C=true/\Tq K (.ref C)=true
abbrev Ź(K:RS)(x:Str):Prop:=Ye K R9 x=YH YI
abbrev Ü(K:RS)(C:RJ)(x:Str):Prop:=S9 K (.ref C) x=YH YI
section
variable{K:RS}{mg:Str->Option RI}{h:So}{x m q:Str}{s:Si}{ps:List Str}{C:RJ}{up:List RJ}
theorem b6(X:K.In h)(G:h.Ns R9 mg)(t:b5 K x s)(b:∀(kV doc pm:RI)(an:Option RJ)(Ã ct:RI)(us:List RI),us.length=ps.length->bindArgs (Te x x (bG s) (bp s) (aq s) .none kV doc pm an Ã ct) {us,[]}=pure (ps.zip us)):a9 K mg x s ps:=by
 obtain⟨f,a,_,_,_,_,_,_,_,_,_,l,c,k⟩:=t;exact Gz X G a l c k b
theorem ke(t:jF K C m q s)(b:∀(kV doc pm:RI)(an:Option RJ)(Ã ct:RI)(us:List RI),us.length=ps.length->bindArgs (Te m q (bG s) (bp s) (aq s) .none kV doc pm an Ã ct) {us,[]}=pure (ps.zip us)):ć K C m q s ps:=by
 obtain⟨f,a,i,_,_,_,_,_,_,_,_,_,l,c,k⟩:=t;exact K4 a i l c k b
theorem oR(X:K.In h)(G:h.Ns R9 mg)(cg:Ut K (.builtin "object.__class__") "__get__"=YH (YH (.builtin "getset_descriptor.__get__")))(ct:Xv K (.builtin "object.__class__")=YH true)(t:nT K C x up):fB K mg C x up:=by
 obtain⟨a,b,c,d,e,f,g,i,j,k⟩:=t;exact{Wo X G a,⟨c,d,e,f⟩,b,g,i,cg,ct,j,k}
end
theorem ar0{p:List RI->Prop}(h:p []):∀us:List RI,us.length=0->p us:=λus e=>by
 cases us with
 |nil=>exact h
 |cons b t=>cases e
theorem ġ{p:List RI->Prop}{n:Nat}(h:∀a,∀us:List RI,us.length=n->p (a::us)):∀us:List RI,us.length=n+1->p us:=λus e=>by
 cases us with
 |nil=>cases e
 |cons b t=>exact h b t (Nat.succ.inj e)
abbrev yj(K:RS)(x:Str)(s:Si)(d:V):Prop:=∃(f T:RJ)(v oc:RI)(od:Option RJ)(kV dc pm:RI)(an:Option RJ)(cd ct:RI)(sl tl:Array (Option RI))(n:Nat),Ye K R9 x=YH (YH (.ref f))/\K.lookup f=YH {oc,od,.func (Te x x (bG s) (bp s) (aq s) (.ref T) kV dc pm an cd ct),sl}/\UP K cd x=true/\Tq K (.ref f)=true/\K.lookup T=YH {.type "tuple",YI,.seq #[v] n,tl}/\YM d v
theorem MY{K:RS}{mg:Str->Option RI}{h:So}{x a b:Str}{s:Si}{d:V}(X:K.In h)(G:h.Ns R9 mg)(t:yj K x s d)
  (b1:∀(T:RJ)(v kV dc pm:RI)(an:Option RJ)(cd ct u u':RI),∃k,bindArgs (Te x x (bG s) (bp s) (aq s) (.ref T) kV dc pm an cd ct) {[u,u'],[]}=Wr (.ref T)>>=k/\k (YH #[v])=pure [(a,u),(b,u')])
  (b2:∀(T:RJ)(v kV dc pm:RI)(an:Option RJ)(cd ct u:RI),∃k,bindArgs (Te x x (bG s) (bp s) (aq s) (.ref T) kV dc pm an cd ct) {[u],[]}=Wr (.ref T)>>=k/\k (YH #[v])=pure [(a,u),(b,v)]):qA K mg x s [a,b] [d]:=by
 obtain⟨f,T,v,oc,od,kV,dc,pm,an,cd,ct,sl,tl,n,q,l,c,k,lt,r⟩:=t
 refine{f,oc,od,.ref T,kV,dc,pm,an,cd,ct,sl,[v],l,c,k,Wo X G q,.cons r .nil,λs' us hi hl=>?_,λs' us hi hl=>?_}
 ·rcases us with _|⟨u,_|⟨u',_|⟨_,_⟩⟩⟩
  ·cases hl
  ·cases hl
  ·obtain⟨g,e1,e2⟩:=b1 T v kV dc pm an cd ct u u';exact Tt rfl (hi T _ lt) rfl e1 e2
  simp at hl
 rcases us with _|⟨u,_|⟨_,_⟩⟩
 ·cases hl
 ·obtain⟨g,e1,e2⟩:=b2 T v kV dc pm an cd ct u;exact Tt rfl (hi T _ lt) rfl e1 e2
 simp at hl
noncomputable abbrev FnE(x:Str)(s:Si)(T:RJ)(kV dc pm:RI)(an:Option RJ)(cd ct:RI):TC:=Te x x (bG s) (bp s) (aq s) (.ref T) kV dc pm an cd ct
theorem Jv{K:RS}{mg:Str->Option RI}{h:So}{x:Str}{ps:List Str}{s:Si}{d:V}(X:K.In h)(G:h.Ns R9 mg)(t:yj K x s d)
  (b1:∀(T:RJ)(v kV dc pm:RI)(an:Option RJ)(cd ct:RI)(us:List RI),us.length=ps.length->∃k,bindArgs (FnE x s T kV dc pm an cd ct) {us,[]}=Wr (.ref T)>>=k/\k (YH #[v])=pure (ps.zip us))
  (b2:∀(T:RJ)(v kV dc pm:RI)(an:Option RJ)(cd ct:RI)(us:List RI),us.length=ps.length-1->∃k,bindArgs (FnE x s T kV dc pm an cd ct) {us,[]}=Wr (.ref T)>>=k/\k (YH #[v])=pure (ps.zip (us++[v])))
  (b3:∀(T:RJ)(v kV dc pm:RI)(an:Option RJ)(cd ct u:RI)(us:List RI),us.length=ps.length-1->∃k,bindArgs (FnE x s T kV dc pm an cd ct) {us,[(ps.getLastD R7,u)]}=Wr (.ref T)>>=k/\k (YH #[v])=pure (ps.zip (us++[u]))):oM K mg x s ps [d]:=by
 obtain⟨f,T,v,oc,od,kV,dc,pm,an,cd,ct,sl,tl,n,q,l,c,k,lt,r⟩:=t
 refine{f,oc,od,.ref T,kV,dc,pm,an,cd,ct,sl,[v],l,c,k,Wo X G q,.cons r .nil,λs' us hi hl=>?_,λs' us hi hl=>?_,{λs' us ws hi hl=>?_,λa b=>a.append (b.take 1)}}
 ·rw[Pu]at hl⊢;obtain⟨g,e1,e2⟩:=b1 T v kV dc pm an cd ct us hl;exact Tt rfl (hi T _ lt) rfl e1 e2
 ·rw[OX,O3]at hl;obtain⟨g,e1,e2⟩:=b2 T v kV dc pm an cd ct us ();exact Tt rfl (hi T _ lt) rfl e1 e2
 cases ws with
 |nil=>
  have hl:(us++[]).length=ps.length:=hl
  rw[Pu]at hl
  show VL _ _ {us,[]} (ps.zip (us++[]))
  rw[Pu]
  obtain⟨g,e1,e2⟩:=b1 T v kV dc pm an cd ct us hl
  exact Tt rfl (hi T _ lt) rfl e1 e2
 |cons u r=>
  have hl:(us++[u]).length=ps.length:=hl
  rw[OX,O3]at hl
  obtain⟨g,e1,e2⟩:=b3 T v kV dc pm an cd ct u us ()
  exact Tt rfl (hi T _ lt) rfl e1 e2
theorem Ģ{p:List RI->Prop}(h:∀a0,p [a0]):∀us:List RI,us.length=1->p us:=ġ λa0=>ar0 (h a0)
theorem õ{p:List RI->Prop}(h:∀a0 a1,p [a0,a1]):∀us:List RI,us.length=2->p us:=ġ λa0=>ġ λa1=>ar0 (h a0 a1)
theorem ar3{p:List RI->Prop}(h:∀a0 a1 a2,p [a0,a1,a2]):∀us:List RI,us.length=3->p us:=ġ λa0=>ġ λa1=>ġ λa2=>ar0 (h a0 a1 a2)
theorem ar4{p:List RI->Prop}(h:∀a0 a1 a2 a3,p [a0,a1,a2,a3]):∀us:List RI,us.length=4->p us:=ġ λa0=>ġ λa1=>ġ λa2=>ġ λa3=>ar0 (h a0 a1 a2 a3)
theorem ar5{p:List RI->Prop}(h:∀a0 a1 a2 a3 a4,p [a0,a1,a2,a3,a4]):∀us:List RI,us.length=5->p us:=ġ λa0=>ġ λa1=>ġ λa2=>ġ λa3=>ġ λa4=>ar0 (h a0 a1 a2 a3 a4)
theorem ar7{p:List RI->Prop}(h:∀a0 a1 a2 a3 a4 a5 a6,p [a0,a1,a2,a3,a4,a5,a6]):∀us:List RI,us.length=7->p us:=ġ λa0=>ġ λa1=>ġ λa2=>ġ λa3=>ġ λa4=>ġ λa5=>ġ λa6=>ar0 (h a0 a1 a2 a3 a4 a5 a6)
theorem all_mk{l:Xp}{w:R5}{K:RS}{h:So}{mg:Str->Option RI}{fa:RJ}(A:Ö)(X:K.In h)(G:h.Ns R9 mg)(hfa:mg "law"=YH (.ref fa))
 (t1:b5 K "only" Ar) (t2:b5 K "joined" uH) (t3:b5 K "names_in" ox) (t4:b5 K "each_once" mC)
 (t5:b5 K "exact_of" oU) (t6:b5 K "exact_of_row" iH) (t7:b5 K "one_more" oH) (t8:b5 K "exact_of_if" jM)
 (t9:b5 K "exact_of_loop" gv) (t10:b5 K "balanced" oV) (t11:b5 K "exacts" tJ) (t12:b5 K "row_place" nu)
 (t13:b5 K "laid_rows" nB) (t14:b5 K "laid_inside" jk) (t15:b5 K "laid_program" iK) (t16:b5 K "is_place" oE)
 (t17:b5 K "head_places" jr) (t18:b5 K "places" uT) (t19:b5 K "drawn" xF) (t20:b5 K "row_links" lM)
 (t21:b5 K "said_links" kE) (t22:b5 K "called_links" iS) (t23:b5 K "step_links" kJ) (t24:yj K "links" wM (.bl false))
 (t25:b5 K "sources" qf) (t26:b5 K "sources_of" kK) (t27:b5 K "ways_of" qL) (t28:b5 K "arrivals" oA)
 (t29:yj K "reached" ql (.bl false)) (t30:yj K "table" wL (.bl false)) (t31:b5 K "_law_cell_at" jS) (t32:b5 K "_law_more" oN)
 (t33:b5 K "_law_mix" qQ) (t34:b5 K "_law_names" mZ) (t35:b5 K "_law_pick" oF) (t36:b5 K "_law_heads" nj)
 (t37:b5 K "_law_scope" lV) (t38:b5 K "_law_thing" lK) (t39:b5 K "_law_value" lR) (t40:b5 K "_law_plain" mM)
 (t41:b5 K "_law_opened" kS) (t42:b5 K "_law_closed" kq) (t43:b5 K "_law_row" qa) (t44:b5 K "_law_body" ow)
 (t45:b5 K "_law_flat" oB) (t46:b5 K "_law_row_made" iL) (t47:b5 K "_law_rows_made" gA) (t48:b5 K "_law_program" jB)
 (t49:b5 K "_law_exact" mn) (t50:b5 K "_law_even_row" iq) (t51:b5 K "_law_evened_by" gi) (t52:b5 K "_law_due" qk)
 (t53:b5 K "_law_table" mB) (t54:b5 K "_law_bare" oq) (t55:b5 K "law" tZ) (xk:Ź K "bool")
 (mT:Ź K "dict") (qW:Ź K "int") (aG:Ź K "isinstance") (iw:Ź K "len")
 (dW:Ź K "list") (Bz:Ź K "max") (dF:Ź K "range") (BF:Ź K "set")
 (mQ:Ź K "sorted") (zD:Ź K "str") (BC:Ź K "zip") (g_CLOCK:∃k:Tok,Ye K R9 "CLOCK"=YH (YH (.str "the clock" k)))
 (cg:Ut K (.builtin "object.__class__") "__get__"=YH (YH (.builtin "getset_descriptor.__get__"))) (ct:Xv K (.builtin "object.__class__")=YH true) (x_Row:nT K A.Row "Row" [A.Row]) (x_HandRow:nT K A.cE "HandRow" [A.cE,A.Row])
 (x_GivenRow:nT K A.bJ "GivenRow" [A.bJ,A.Row]) (x_OwnRow:nT K A.dE "OwnRow" [A.dE,A.Row]) (x_LetRow:nT K A.dD "LetRow" [A.dD,A.Row]) (x_SetRow:nT K A.cS "SetRow" [A.cS,A.Row])
 (x_PutRow:nT K A.cG "PutRow" [A.cG,A.Row]) (x_SendRow:nT K A.b7 "SendRow" [A.b7,A.Row]) (x_SayRow:nT K A.cY "SayRow" [A.cY,A.Row]) (x_CallRow:nT K A.cD "CallRow" [A.cD,A.Row])
 (x_LastRow:nT K A.dG "LastRow" [A.dG,A.Row]) (x_IfRow:nT K A.cX "IfRow" [A.cX,A.Row]) (x_LoopRow:nT K A.bz "LoopRow" [A.bz,A.Row]) (x_DeedRow:nT K A.bU "DeedRow" [A.bU,A.Row])
 (x_Program:nT K A.Program "Program" [A.Program]) (m1:jF K A.Row "__init__" "Row.__init__" fH) (m2:jF K A.cE "__init__" "HandRow.__init__" hJ) (m3:jF K A.bJ "__init__" "GivenRow.__init__" gC)
 (m4:jF K A.dE "__init__" "OwnRow.__init__" jR) (m5:jF K A.dD "__init__" "LetRow.__init__" jq) (m6:jF K A.cS "__init__" "SetRow.__init__" jU) (m7:jF K A.cS "reads" "SetRow.reads" i4)
 (m8:jF K A.cG "__init__" "PutRow.__init__" jx) (m9:jF K A.cG "reads" "PutRow.reads" iC) (m10:jF K A.b7 "__init__" "SendRow.__init__" ib) (m11:jF K A.b7 "reads" "SendRow.reads" gu)
 (m12:jF K A.cY "__init__" "SayRow.__init__" jy) (m13:jF K A.cD "__init__" "CallRow.__init__" iR) (m14:jF K A.dG "__init__" "Row.__init__" fH) (m15:jF K A.cX "__init__" "IfRow.__init__" kG)
 (m16:jF K A.cX "reads" "IfRow.reads" jI) (m17:jF K A.bz "__init__" "LoopRow.__init__" iT) (m18:jF K A.bz "reads" "LoopRow.reads" gE) (m19:jF K A.bU "__init__" "DeedRow.__init__" iP)
 (m20:jF K A.Program "__init__" "Program.__init__" hE) (n1:Ü K A.cE "name") (n2:Ü K A.cE "rank") (n3:Ü K A.cE "number")
 (n4:Ü K A.bJ "name") (n5:Ü K A.bJ "rank") (n6:Ü K A.bJ "size") (n7:Ü K A.bJ "number")
 (n8:Ü K A.dE "name") (n9:Ü K A.dE "size") (n10:Ü K A.dE "number") (n11:Ü K A.dD "name")
 (n12:Ü K A.dD "rank") (n13:Ü K A.dD "number") (n14:Ü K A.cS "name") (n15:Ü K A.cS "value")
 (n16:Ü K A.cS "number") (n17:Ü K A.cG "name") (n18:Ü K A.cG "place") (n19:Ü K A.cG "value")
 (n20:Ü K A.cG "number") (n21:Ü K A.b7 "name") (n22:Ü K A.b7 "value") (n23:Ü K A.b7 "number")
 (n24:Ü K A.cY "name") (n25:Ü K A.cY "value") (n26:Ü K A.cY "mark") (n27:Ü K A.cY "number")
 (n28:Ü K A.cD "name") (n29:Ü K A.cD "things") (n30:Ü K A.cD "number") (n31:Ü K A.dG "number")
 (n32:Ü K A.cX "value") (n33:Ü K A.cX "first") (n34:Ü K A.cX "other") (n35:Ü K A.cX "left")
 (n36:Ü K A.cX "right") (n37:Ü K A.cX "number") (n38:Ü K A.bz "thing") (n39:Ü K A.bz "most")
 (n40:Ü K A.bz "body") (n41:Ü K A.bz "left") (n42:Ü K A.bz "right") (n43:Ü K A.bz "number")
 (n44:Ü K A.bU "name") (n45:Ü K A.bU "parts") (n46:Ü K A.bU "body") (n47:Ü K A.bU "number")
 (n48:Ü K A.Program "heads") (n49:Ü K A.Program "deeds") (n50:Ü K A.Program "main") (y_Row_init:Ut K (.ref A.Row) "__getattribute__"=YH (YH (.builtin "type.__getattribute__"))/\W.readsIn K A.Row (.type "type")=true/\∃f,S9 K (.ref A.Row) "__init__"=YH (YH (.ref f))/\W.findCls K (.ref A.Row) (.type "type") "__init__"=YH (.val (.ref f)))
 (nod:[A.Row,A.cE,A.bJ,A.dE,A.dD,A.cS,A.cG,A.b7,A.cY,A.cD,A.dG,A.cX,A.bz,A.bU,A.Program].Nodup)
:∃fd:TC,(∀(s:RN)(v:RI),VL s fd {[v],[]} [("_law_script",v)])/\∀base:So,K.In base->base.Ns R9 mg->j2 l.prog w K mg base ŗ 31 fa fd ["_law_script"] (xc K):=by
 have T:Txt K mg A:={
  only:=b6 X G t1 λ_ _ _ _ _ _=>Ģ λ_=>rfl,joined:=b6 X G t2 λ_ _ _ _ _ _=>õ λ_ _=>rfl,tE:=b6 X G t3 λ_ _ _ _ _ _=>Ģ λ_=>rfl,
  qO:=b6 X G t4 λ_ _ _ _ _ _=>Ģ λ_=>rfl,dY:=b6 X G t5 λ_ _ _ _ _ _=>õ λ_ _=>rfl,fb:=b6 X G t6 λ_ _ _ _ _ _=>õ λ_ _=>rfl,
  tX:=b6 X G t7 λ_ _ _ _ _ _=>Ģ λ_=>rfl,ja:=b6 X G t8 λ_ _ _ _ _ _=>õ λ_ _=>rfl,fT:=b6 X G t9 λ_ _ _ _ _ _=>õ λ_ _=>rfl,
  balanced:=b6 X G t10 λ_ _ _ _ _ _=>õ λ_ _=>rfl,AL:=b6 X G t11 λ_ _ _ _ _ _=>Ģ λ_=>rfl,qt:=b6 X G t12 λ_ _ _ _ _ _=>Ģ λ_=>rfl,
  gU:=b6 X G t13 λ_ _ _ _ _ _=>ar3 λ_ _ _=>rfl,jc:=b6 X G t14 λ_ _ _ _ _ _=>õ λ_ _=>rfl,ku:=b6 X G t15 λ_ _ _ _ _ _=>Ģ λ_=>rfl,
  sV:=b6 X G t16 λ_ _ _ _ _ _=>Ģ λ_=>rfl,mH:=b6 X G t17 λ_ _ _ _ _ _=>Ģ λ_=>rfl,places:=b6 X G t18 λ_ _ _ _ _ _=>Ģ λ_=>rfl,
  drawn:=b6 X G t19 λ_ _ _ _ _ _=>ar4 λ_ _ _ _=>rfl,qC:=b6 X G t20 λ_ _ _ _ _ _=>ar4 λ_ _ _ _=>rfl,oT:=b6 X G t21 λ_ _ _ _ _ _=>õ λ_ _=>rfl,
  kT:=b6 X G t22 λ_ _ _ _ _ _=>ar3 λ_ _ _=>rfl,oQ:=b6 X G t23 λ_ _ _ _ _ _=>õ λ_ _=>rfl,links:=MY X G t24 (λ_ _ _ _ _ _ _ _ _ _=>{_,rfl,rfl}) (λ_ _ _ _ _ _ _ _ _=>{_,rfl,rfl}),
  sources:=b6 X G t25 λ_ _ _ _ _ _=>Ģ λ_=>rfl,oG:=b6 X G t26 λ_ _ _ _ _ _=>õ λ_ _=>rfl,wV:=b6 X G t27 λ_ _ _ _ _ _=>õ λ_ _=>rfl,
  uK:=b6 X G t28 λ_ _ _ _ _ _=>õ λ_ _=>rfl,x6:=Jv X G t29 (λ_ _ _ _ _ _ _ _=>ar3 λ_ _ _=>{_,rfl,rfl}) (λ_ _ _ _ _ _ _ _=>õ λ_ _=>{_,rfl,rfl}) (λ_ _ _ _ _ _ _ _ _=>õ λ_ _=>{_,rfl,rfl}),table:=Jv X G t30 (λ_ _ _ _ _ _ _ _=>õ λ_ _=>{_,rfl,rfl}) (λ_ _ _ _ _ _ _ _=>Ģ λ_=>{_,rfl,rfl}) (λ_ _ _ _ _ _ _ _ _=>Ģ λ_=>{_,rfl,rfl}),
  lI:=b6 X G t31 λ_ _ _ _ _ _=>õ λ_ _=>rfl,uu:=b6 X G t32 λ_ _ _ _ _ _=>ar3 λ_ _ _=>rfl,xS:=b6 X G t33 λ_ _ _ _ _ _=>õ λ_ _=>rfl,
  qv:=b6 X G t34 λ_ _ _ _ _ _=>ar3 λ_ _ _=>rfl,sZ:=b6 X G t35 λ_ _ _ _ _ _=>õ λ_ _=>rfl,qE:=b6 X G t36 λ_ _ _ _ _ _=>õ λ_ _=>rfl,
  qN:=b6 X G t37 λ_ _ _ _ _ _=>õ λ_ _=>rfl,qy:=b6 X G t38 λ_ _ _ _ _ _=>õ λ_ _=>rfl,p7:=b6 X G t39 λ_ _ _ _ _ _=>õ λ_ _=>rfl,
  qK:=b6 X G t40 λ_ _ _ _ _ _=>ar3 λ_ _ _=>rfl,oX:=b6 X G t41 λ_ _ _ _ _ _=>ar4 λ_ _ _ _=>rfl,oP:=b6 X G t42 λ_ _ _ _ _ _=>Ģ λ_=>rfl,
  wW:=b6 X G t43 λ_ _ _ _ _ _=>ar3 λ_ _ _=>rfl,uc:=b6 X G t44 λ_ _ _ _ _ _=>ar4 λ_ _ _ _=>rfl,tu:=b6 X G t45 λ_ _ _ _ _ _=>õ λ_ _=>rfl,
  kI:=b6 X G t46 λ_ _ _ _ _ _=>õ λ_ _=>rfl,dB:=b6 X G t47 λ_ _ _ _ _ _=>õ λ_ _=>rfl,mJ:=b6 X G t48 λ_ _ _ _ _ _=>Ģ λ_=>rfl,
  gY:=b6 X G t49 λ_ _ _ _ _ _=>ar3 λ_ _ _=>rfl,kF:=b6 X G t50 λ_ _ _ _ _ _=>ar3 λ_ _ _=>rfl,jJ:=b6 X G t51 λ_ _ _ _ _ _=>õ λ_ _=>rfl,
  wX:=b6 X G t52 λ_ _ _ _ _ _=>ar3 λ_ _ _=>rfl,qF:=b6 X G t53 λ_ _ _ _ _ _=>õ λ_ _=>rfl,tK:=b6 X G t54 λ_ _ _ _ _ _=>Ģ λ_=>rfl,
  xk:=S0 X G xk,mT:=S0 X G mT,qW:=S0 X G qW,
  aG:=S0 X G aG,iw:=S0 X G iw,dW:=S0 X G dW,
  Bz:=S0 X G Bz,dF:=S0 X G dF,BF:=S0 X G BF,
  mQ:=S0 X G mQ,zD:=S0 X G zD,BC:=S0 X G BC,
  rY:=g_CLOCK.imp λ_ e=>Wo X G e,jZ:=oR X G cg ct x_Row,sN:=ke m1 λ_ _ _ _ _ _=>õ λ_ _=>rfl,
  jY:=oR X G cg ct x_HandRow,iJ:=ke m2 λ_ _ _ _ _ _=>ar4 λ_ _ _ _=>rfl,l8:=n1,
  lX:=n2,fI:=n3,cP:=oR X G cg ct x_GivenRow,
  gr:=ke m3 λ_ _ _ _ _ _=>ar5 λ_ _ _ _ _=>rfl,eG:=n4,gG:=n5,
  kY:=n6,fA:=n7,iF:=oR X G cg ct x_OwnRow,
  jW:=ke m4 λ_ _ _ _ _ _=>ar4 λ_ _ _ _=>rfl,jG:=n8,nZ:=n9,
  gp:=n10,eg:=oR X G cg ct x_LetRow,jP:=ke m5 λ_ _ _ _ _ _=>ar4 λ_ _ _ _=>rfl,
  fZ:=n11,jL:=n12,gk:=n13,
  ft:=oR X G cg ct x_SetRow,jX:=ke m6 λ_ _ _ _ _ _=>ar4 λ_ _ _ _=>rfl,iV:=ke m7 λ_ _ _ _ _ _=>Ģ λ_=>rfl,
  jC:=n14,hX:=n15,gq:=n16,
  dZ:=oR X G cg ct x_PutRow,jO:=ke m8 λ_ _ _ _ _ _=>ar5 λ_ _ _ _ _=>rfl,ik:=ke m9 λ_ _ _ _ _ _=>Ģ λ_=>rfl,
  jK:=n17,iW:=n18,iM:=n19,
  gj:=n20,dw:=oR X G cg ct x_SendRow,i6:=ke m10 λ_ _ _ _ _ _=>ar4 λ_ _ _ _=>rfl,
  gw:=ke m11 λ_ _ _ _ _ _=>Ģ λ_=>rfl,mw:=n21,gy:=n22,
  fJ:=n23,cy:=oR X G cg ct x_SayRow,jz:=ke m12 λ_ _ _ _ _ _=>ar5 λ_ _ _ _ _=>rfl,
  fU:=n24,mO:=n25,jv:=n26,
  b9:=n27,cH:=oR X G cg ct x_CallRow,iu:=ke m13 λ_ _ _ _ _ _=>ar4 λ_ _ _ _=>rfl,
  dM:=n28,fF:=n29,cU:=n30,
  fL:=oR X G cg ct x_LastRow,iE:=ke m14 λ_ _ _ _ _ _=>õ λ_ _=>rfl,fK:=n31,
  cb:=oR X G cg ct x_IfRow,kL:=ke m15 λ_ _ _ _ _ _=>ar7 λ_ _ _ _ _ _ _=>rfl,jV:=ke m16 λ_ _ _ _ _ _=>Ģ λ_=>rfl,
  jD:=n32,fW:=n33,fV:=n34,
  gO:=n35,jE:=n36,iB:=n37,
  bA:=oR X G cg ct x_LoopRow,ip:=ke m17 λ_ _ _ _ _ _=>ar7 λ_ _ _ _ _ _ _=>rfl,gH:=ke m18 λ_ _ _ _ _ _=>Ģ λ_=>rfl,
  gm:=n38,hV:=n39,fz:=n40,
  iQ:=n41,eJ:=n42,fO:=n43,
  cu:=oR X G cg ct x_DeedRow,ic:=ke m19 λ_ _ _ _ _ _=>ar5 λ_ _ _ _ _=>rfl,cV:=n44,
  eE:=n45,fC:=n46,fE:=n47,
  cW:=oR X G cg ct x_Program,iO:=ke m20 λ_ _ _ _ _ _=>ar4 λ_ _ _ _=>rfl,eI:=n48,
  cJ:=n49,iZ:=n50,bM:=⟨y_Row_init.1,y_Row_init.2.1,y_Row_init.2.2⟩,
  nd:=nod }
 have F:a9 K mg "law" tZ ["_law_script"]:=b6 X G t55 λ_ _ _ _ _ _=>Ģ λ_=>rfl;obtain⟨f,a,oc,od,kV,dc,pm,an,cd,ct,sl,lk,_,_⟩:=t55;refine{Te "law" "law" (bG tZ) (bp tZ) (aq tZ) .none kV dc pm an cd ct,λs v=>.of_eq rfl,λbase _ _=>?_};have e:=hfa.symm.trans (Wo X G a);cases e;exact Kr (MB (P:=l.prog) (w:=w) (base:=base) T F) (Wo X G a) lk
theorem walk{l:Xp}{q:Program}{loose:List Str}{XP:(Str->Option RI)->So->Prop}{YP:R5->So->Prop}{d:DefRec}{K:T6->RS}(hn:l.most=YH 63)(hdf:d.params.defaults=[])(hY:∀(w:R5)(h:So),YP w h->(K w.params).In h)
  (F:∀(w:R5)(mg:Str->Option RI)(fa:RJ)(h:So),(K w.params).In h->h.Ns R9 mg->mg d.name=YH (.ref fa)->∃fd:TC,(∀(s:RN)(u:RI),VL s fd {[u],[]} [("_law_script",u)])/\∀base:So,(K w.params).In base->base.Ns R9 mg->j2 l.prog w (K w.params) mg base ŗ 31 fa fd ["_law_script"] (xc (K w.params))) :
  W.WalkO q loose XP YP l.row.toRowW d [] (λf vs=>X9 f vs):=
 L2.IQ (n:=63) (k:=31) (x:="_law_script") (CX:=λ_=>ŗ) (sp:=λw=>xc (K w.params)) hn ∅ hdf {rfl,∅,∅} hY F (λ_ _ a ns hl _ hS=>{a,ns,rfl,hS,hl,λ_=>rfl}) λ_ _ _ _ _ z=>z
end K34
open PySem PySem.W PyProof.Rows
set_option maxRecDepth 100000 in
set_option maxHeartbeats 0 in
theorem PySem.Challenge.cw_hushrow_k34_table_holds : PySem.Challenge.rw_hushrow_k34_table.Holds := by
 w_on;o_law
 refine W.holds_open (q:=K34.gF) (loose:=["links","reached","table"]) (Xt:=K34.test) (XP:=W.XL K34.gF []) (Yf:=(W9 K34.ô K34.qU K34.j7).obs) (Ya:=(W9 K34.ô K34.qU K34.j7).val) (YP:=(W9 K34.ô K34.qU K34.j7).says) (N:=12610) K34.left (W9 K34.ô K34.qU K34.j7).of (W9 K34.ô K34.qU K34.j7).keeps
  (λs e=>W.xl_of s (Bool.and_eq_true_iff.mp e).1) W.XL.keeps (by rfl) (by rfl) (by rfl) (λs e=>W.recFacts_of (Bool.and_eq_true_iff.mp e).2) ?h4 ?h5 ?h6 {rfl,rfl,rfl,rfl,rfl,by decide+kernel} ?hw ?hc
 (case h4=>rfl);(case h5=>first|assumption|decide+kernel);(case h6=>decide+kernel);(case hw=>w_witness2)
 k_fill
 refine K34.walk (l:=PySem.Challenge.rw_hushrow_k34_table) rfl rfl (λw h Y=>W.kIn_of Y) ?F;case F=>
  intro w mg fa h KX G hmg;refine K34.all_mk ⟨80,108,134,160,186,226,266,299,339,370,389,422,455,481,500⟩ KX G hmg ?_ ?_ ?_ ?_ ?_ ?_ ?_ ?_ ?_ ?_ ?_ ?_ ?_ ?_ ?_ ?_ ?_ ?_ ?_ ?_ ?_ ?_ ?_ ?_ ?_ ?_ ?_ ?_ ?_ ?_ ?_ ?_ ?_ ?_ ?_ ?_ ?_ ?_ ?_ ?_ ?_ ?_ ?_ ?_ ?_ ?_ ?_ ?_ ?_ ?_ ?_ ?_ ?_ ?_ ?_ ?_ ?_ ?_ ?_ ?_ ?_ ?_ ?_ ?_ ?_ ?_ ?_ ?_ ?_ ?_ ?_ ?_ ?_ ?_ ?_ ?_ ?_ ?_ ?_ ?_ ?_ ?_ ?_ ?_ ?_ ?_ ?_ ?_ ?_ ?_ ?_ ?_ ?_ ?_ ?_ ?_ ?_ ?_ ?_ ?_ ?_ ?_ ?_ ?_ ?_ ?_ ?_ ?_ ?_ ?_ ?_ ?_ ?_ ?_ ?_ ?_ ?_ ?_ ?_ ?_ ?_ ?_ ?_ ?_ ?_ ?_ ?_ ?_ ?_ ?_ ?_ ?_ ?_ ?_ ?_ ?_ ?_ ?_ ?_ ?_ ?_ ?_ ?_ ?_ ?_ ?_ ?_ ?_ ?_ ?_ ?_ ?_ ?_ ?_ ?_ ?_ ?_;iterate 23 exact{_,by k_is,_,_,_,_,_,_,_,_,_,by k_is,by k_is,by k_is}
  iterate 1 exact{_,_,_,_,_,_,_,_,_,_,_,_,_,_,by k_is,by k_is,by k_is,by k_is,by k_is,by first|rfl|exact{_,rfl}}
  iterate 4 exact{_,by k_is,_,_,_,_,_,_,_,_,_,by k_is,by k_is,by k_is}
  iterate 2 exact{_,_,_,_,_,_,_,_,_,_,_,_,_,_,by k_is,by k_is,by k_is,by k_is,by k_is,by first|rfl|exact{_,rfl}}
  iterate 25 exact{_,by k_is,_,_,_,_,_,_,_,_,_,by k_is,by k_is,by k_is}
  iterate 12 (show _=_;k_is)
  iterate 1 exact{_,by k_is}
  iterate 2 (show _=_;k_is)
  iterate 15 exact{by k_is,{_,by k_is,rfl},by k_is,by k_is,by k_is,by k_is,by k_is,by k_is,by k_is,by k_is}
  iterate 20 exact{_,by k_is,by k_is,_,_,_,_,_,_,_,_,_,by k_is,by k_is,by k_is}
  iterate 50 (show _=_;k_is)
  iterate 1 exact{by k_is,by k_is,_,by k_is,by k_is}
  iterate 1 decide

import PyProof.Rows.All
import Wide.All
import OpenK.AllK
import PySem.Challenge.RW_hushrow_k35_shortest_chains
local macro_rules|`(↥$x)=>`(($x).length)
local macro_rules|`(⇑$x)=>`(($x).heap.objs.size)
local macro_rules|`(def $i:declId $s:optDeclSig $v:declVal)=>`(noncomputable def $i:declId $s:optDeclSig $v:declVal)
local macro_rules|`(abbrev $i:declId $s:optDeclSig $v:declVal)=>`(noncomputable abbrev $i:declId $s:optDeclSig $v:declVal)
local macro_rules|`($n:num∘$t)=>`((nat_lit $n,$t))
local macro_rules|`(tactic|rfl')=>`(tactic|try dsimp only)
local macro_rules|`({$x:term,$xs,*})=>`(⟨$x,$xs,*⟩)
open PySem renaming wpAny_bind->E9,Value->Su,Addr->Sv,wpAny_pure->Sw,Shared->Sy,starEach->SG,model->SK,World->SM,mainGlobals->SU,compareOp->SW,mem_of_lookup->SY,Stmt->S0,wpAny_newObj_type->S9,Heap->Tb,importedModules->Tc,Around->Td,eval->Ts,wpAny_Call_Name_kw->Tu,treeTable->Tx,backTo->TB,cellsFrom->TC,keywordEach->TM,wpAny_call_entry->TN,binaryOp->TX,Str->T1,sysModules->T4,bootBuiltins->T6,attributeBase->T7,codeAny_builtin->Ub,OsState->Ug,wpAny_mono->Ui,cLine->Uj,builtinLookup_eq_fast->Um,wpAny_passesOwn->Uo,wpAny_setState_of->Uq,backToKw->Uv,NameKind->Uw,wpAny_callSpecial?_slot->Ux,wpAny_getItem_str_slice->Uy,tupleKind_room_in1->UC,wpAny_rule->UD,wpAny_ite_split->UG,plainId_quiet->UI,Params->UJ,Builtin->UK,sizeLine_eq->UM,FuncData->UO,codeAny_mono->US,Keyword->UT,wpAny_typeOf->UW,behindInMarks->U3,intKind->U5,pushCells_keeps->U6,typeLookup_type->U7,Spec->U9,sliceBounds->Vb,wpAny_dictEntries->Vg,isSubtype_type->Vh,setAddHashed->Vi,call_meets->Vr,pushCells->Vs,wpAny_isInstance->Vt,wpAny_field->Vx,wpAny_execs_nil->Vy,letOwnedTupleGo->Vz,post_val_or_str->VB,wpAny_specialOf->VC,wpAny_setEntries_of->VD,holding->VF,assignEach->VM,wpAny_truthy_bool->VZ,getItem->V0,wpAny_pyIter_list->V2,wpAny_standAt->V3,tupleKind->V8,wpAny_askSetting->We,builtinsNs->Wm,rawInt->Wn,wpAny_pyNext_list_item->Wo,wpAny_pyNext_range_end->Wq,wpAny_pyIter_rangeiter->Wr,BindsTo->Wt,PyData->Wv,Scope->WD,wpAny_updateSeq->WE,wpAny_pyNext_list_end->WG,wpAny_notOrdered_dict->WH,GenState->WN,wpAny_loadName_local->WQ,pyNext->WS,IsRangeIter->WT,wpAny_setField->WY,codeAny_extend_loopS->W2,swapsWith->W9,callerA->Xb,seqItems?->Xd,wpAny_loadName_cell->Xf,evalPart_none->Xo,wpAny_attempt->Xq,wpAny_newList->Xr,wpAny_Constant_int->Xx,wpAny_load->Xy,wpAny_pyIter_range->Xz,wpAny_call->XA,IsPart->XB,typeIs_str->XE,getattributeRaised->XO,intKind_is->XR,Within->XZ,standAt->X0,wpAny_sequenceKey->X3,seqIndex_neg->X4,wpAny_pyIter_slot->Yb,wpAny_execs_cons->Yg,getMethod->Yh,entryFor_of_tree->Yl,wpAny_pyIter_zip->Ym,wpAny_setScan_of->Yn,seqIndex_of->Yv,atKey->Yw,wpAny_dictEpoch->YB,codeAny_of_tree->YC,wpAny_Name->YJ,recursionLimit->YL,bindL->YM,bindC->YN,typeIs_int->YQ,call->YS,newFunctionEnv->YT,compPost->YU,entryFor->YX,callType_codes->YY,setAddHashedIn->Y0,wpAny_runValue->Y1,entryFor_alias->Y2,firstArgMember->Y3,DictEntry->Zd,storeName->Ze,PassesOwn->Zf,joinParts->Zh,pickOrder->Zi,updateSeq->Zj,spliced->Zl,pyIter->Zm
open PySem.Heap renaming get?_push_of_some->Sx,lt_size->SI,get?_push_size->SJ,get?_update_other->Tp,get?_update_self->TF,size_push->T9,SameBut->UB,size_update->UX,get?_push_ne->Vk
open PySem.Paired renaming length->Sz
open PyProof.Rows renaming wpS_bind->SD,wpS_pure->SF,SortSt->SX,arrOf->S8,Keyed->Ti,pendingOf->Tn,wpS_forRange->Tq,callWith_type1->TR,slot_tuple_getitem->T2,wpS_modify->T5,wpS_mono->Ua,seqObj->Ut,envOfC->UZ,failedOf->U4,SortKind->Vj,callWith_builtin1->Vq,wpS_get->Vu,slicePart_none->VN,AllBare->VY,IntsAre->V1,wpS_lift->Wi,subscriptTail_builtinR->Wu,elem'->W3,gallopOf->W6,mirror_perm->W7,entry_tuple_getitem->Xg,subscriptTail->Xp,listUpdate_at->Xs,args_tuple_getitem->XC,seqEpoch_at->Yx,entry_list_sort->YD,pairsOf->YG,StrsAre->YH,Subscript_->YO,slot_list_sort->Y4,args_list_sort->Y5,size_push'->Y7
open PySem.W renaming Frag->SE,mg_none_of->TZ,findIn->T3,fnOf->T8,keepIn->Uc,emptyDict->Uz,topStub->UA,kia_one->UH,Frag->UR,openSeen->U2,specialIn->Va,kitOne->Vd,boot_drawn->Vm,instObj->Vo,cellsFrom_some->Vp,codeIn->Vw,boot_toks->VI,openGood->V6,boot_heap->V7,plainGet->Ws,hasDictIn->WU,mg_of->Xc,plainGet_of->Xn,kHook->XX,OpenLaw->Yd,boot_o_0->Ye,makesIn->Yi,takesIn->Yj,methodObj->Ys,plainOver->Yu,namesBound->YI,lookIn->YK,nsIn->YW,staticsOk->Zc,takerIn->Zg,isFn->Zn,mroIn->Zo
open PySem.PassesOwn renaming never->SH
open Option.some renaming inj->SN,injEq->X6
open PySem.Value renaming ref->SO,type->Tz,int->Uu,none->Vn,str->W8,isStrOf_shape->Xe,isStrOf->Xm,bool->Xw,isInt_shape->XY,isInt->Yq,float->Yr
open PySem.Str renaming empty->SQ,ofString->UU
open PySem.PyData renaming strOk->SR,canLayAll0->Ta,depthAll->Tg,canLay0->TJ,depth->Uh,eqv->UQ,eqvAll->Vv,int->Y9,str->Za
open List renaming range->SS,replicate->SV,Nodup->Tf,lookup->UN,length->UP,length_filterMap_le->V4,getElem?_replicate->V9,getElem?_cons_zero->Wc,filter_cons_of_neg->Wg,filter_cons_of_pos->Wh,pairwise_singleton->Wj,drop_of_length_le->Wz,length_pos_of_mem->WC,getElem?_toArray->WL,getElem?_set_ne->WO,getElem_of_mem->Xi,length_reverse->Xj,take_succ_cons->Xl,getElem?_drop->XN,findIdx?_cons->XQ,mem_reverse->Yo,take_append->Yp,take_left'->YF,foldl->YR
open PySem.Builtin.Tuple renaming tupleExact->Te,tupleItemsOf->VO
open PySem.Builtin.Slice renaming slicePlaces->Tj,sliceApplied->Ul,sliceAdjust->UY,sliceFields->VS
open PySem.Obj renaming mapSeq->To,putSet->YZ
open PySem.Builtin.Range renaming rangeSize->Tt,small->VE,rangeFitsLong->VH
open PySem.Builtin renaming bitOr->Tv
open PySem.NameKind renaming cell->Tw,free->TV
open List.Perm renaming append_left->TH,append_right->UE,flatMap_right->Wk,refl->WZ,cons->Y6
open False renaming elim->TK
open PySem.Builtin.Str renaming occurrences->TL,strKind->Xh
open PySem.Around renaming under_plainId->TQ,under->X1
open PySem.Builtin.List renaming listExtendWith->TU,listTooLong->Ur,listSameRef->Us,listLengthHint->VG,listItems->WA
open PySem.SeqAt renaming shaped->TY,EqAt->VP,notIn_listAt->XJ
open PyProof.Rows.F renaming plain_set_update_loop->Ud,entry_set_update_loop->U1
open PySem.BindsTo renaming of_defaults->Ue
open PySem.Calls renaming spliced_cons->Uk,spliced_nil->UL,callWith_builtin->Ve,Name_function_global->VL,call_function_entry->VW,evalArgs_plain->WV
open Option renaming none->Up,isSome_some->XM,getD_none->Yk,some->Zq,none->Zr
open PySem.Heap.SameBut renaming update->U0
open Array.Perm renaming refl->U8
open PySem.F renaming plainAttrs_list->Vc,slot_dict_get->Vl,plain_extend_loop->VU,args_dict_get_3->Wa,plain_list_iadd->Wf,entry_dict_get->Ww,plain_set_new->WJ,slot_set_iter->WK,slot_dict_eq->WW,slot_int_rmul->Yy
open PySem.Builtin.Dict renaming samePairs->Vf,dictSlotArgs->VT,updateFrom->Wb,pairItems->Wx,showsAll->WI
open ForInStep renaming yield->VA
open Prod renaming ext->VJ
open Array renaming toList_setIfInBounds->VQ,getElem?_eq_none->Wy,reverse_reverse->WM,reverse_append->W5,reverse_push->XT,size_extract->XU,getElem_mem->X7,size_append->X8,size_map->Y8
open List.Sublist renaming nodup->VR,map->Wl
open Prod.mk renaming inj->VX
open PySem.Shared renaming TypeIs->V5
open PySem.SetTable renaming below->WX
open PySem.Data renaming cell->Xa,fields->Yt
open Nat renaming add_le_add_left->Xk,le_antisymm->Yz
open PySem.SeqAt.EqAt renaming int_str->Xu,str_int->Xv,int_int->XH,str_str->XI
open PySem.Heap.IsSliceOf renaming new->XD
open PyProof.Rows.SortSt renaming mk'->XS
open Int renaming emod_lt_of_pos->XW,emod_nonneg->YE,mul_nonneg->Zb
open PySem.Code renaming isFrame->X2
open List.Pairwise renaming nil->X5
open PySem.pickOrder renaming go->X9
open Function renaming comp_def->Yc
open PySem.Heap.DictOf renaming new->YA
open PySem.Walks renaming strAscii->YV
open Iff renaming trans->Zk
local macro_rules|`(())=>`(by first|lia|omega)
local macro_rules|`(∅)=>`(by decide)
open List renaming length_append->Pq,length_map->Pr,mem_singleton->Pu,length_singleton->Pw,mem_cons->Py,mem_append->Pz,getElem?_eq_getElem->PB,mem_cons_of_mem->PC,length_cons->PD,mem_cons_self->PH,mem_map->PM,getElem?_eq_some_iff->PQ,mem_append_right->PX,mem_append_left->PY,map_cons->P0,mem_of_getElem?->P4,getElem?_map->P5,append_assoc->P6,not_mem_nil->P7,size_toArray->P8,getElem?_of_mem->Qb,append_nil->Qd,map_append->Qg,getElem?_append_left->Qh,nil_append->Qi,getElem?_append_right->Qk,getD_eq_getElem?_getD->Ql,take_append_drop->Qm,length_take->Qo,mem_map_of_mem->Qp,take_length->Qq,cons_append->Qr,mem_filter->Qs,nodup_cons->Qt,mem_flatMap->Qu,take_add_one->Qv,length_nil->Qw,take_of_length_le->Qx,flatMap_cons->QA,map_map->QB,length_filter_le->QD,getElem?_eq_none->QE,find?_cons->QF,filter_append->QG,length_range->QI,flatMap_append->QJ,perm_append_comm->QL,mem_of_mem_take->QP,nodup_append->QR,foldl_cons->QS,filterMap_cons->QU,length_drop->QW,drop_eq_getElem_cons->QY,of_mem_zip->QZ,replicate_succ->Q3,lookup_cons->Q5,filter_cons->Q6,length_replicate->Q9,pairwise_map->Ra,getElem?_eq_none_iff->Rb,getElem?_take_of_lt->Rc,getElem?_range->Rf,filter_nil->Rh,length_zip->Ri,take_append_of_le_length->Rk,dropLast_concat_getLast->Rr,all_eq_true->Rt,any_eq_true->Ru,getElem_mem->Rv,mem_of_mem_drop->Rw,sum_cons->Rx,map_congr_left->Rz,nodup_nil->RD,length_eq_zero_iff->RE,flatten_cons->RF,ext_getElem?->RG,getElem?_set_self->RH,any_cons->RI,getElem_inj->RL,set_append_right->RO,filter_sublist->RU,all_cons->RZ,map_take->R7,foldl_append->R9,reverse_cons->Sd,range_succ->Sf,mem_range->Sh,take_zero->Sj,map_nil->Sq
open Nat renaming le_refl->Px,zero_le->PZ,le_trans->P2,lt_of_lt_of_le->Qe,ne_of_lt->Qf,lt_succ_of_lt->QH,le_add_right->QM,sub_self->QN,lt_irrefl->QO,ne_of_gt->QV,lt_succ_self->Q4,le_succ->Q7,add_sub_cancel_left->Rg,le_succ_of_le->Ro,le_of_lt->Rp,le_of_eq->Rq,lt_of_le_of_lt->RC,add_assoc->RJ,succ_le_succ->RN,le_of_not_lt->Se,not_lt->Sk,lt_trans->Sr
open Bool renaming false_ne_true->PU,false_eq_true->Qy,and_eq_true->QX,eq_false_iff->Q1,eq_iff_iff->Q8,false_and->RW,and_false->RX,true_and->R5,false_or->R6,or_false->Sl
open Or renaming inl->P1,inr->QQ
open Ne renaming symm->P9
open Sum renaming inr->Qc,inl->RV
open Array renaming toList_append->Qj,length_toList->Qn,getElem?_toList->Qz,toList_push->Rm,perm_iff_toList_perm->Ry,getElem?_eq_getElem->RA,mk->RK,mem_toList_iff->RS,toArray_toList->RT
open True renaming intro->QK
open Option renaming map_some->QT,isSome_iff_exists->Q0,map_eq_some_iff->Rj,isNone_iff_eq_none->RB,isSome_map->R8
open Int renaming toNat_natCast->Rl,le_refl->RY,mul_le_mul->Si,add_assoc->So,zero_add->Ss
set_option Elab.async false
set_option linter.all false
set_option maxRecDepth 100000
namespace Hd
open PySem PySem.W PySem.Calls PyProof.Rows
def lJ(tb:String->Option UK)(p:Program)(w:SM)(n₀:Nat)(ann:Option Su):Nat->SharedT->Thread->Option SharedT
 |0,_,_=>Zr
 |n+1,s,t=>match through t with
  |true=>Zq s
  |false=>match stepOk n₀ ann t with
   |false=>Zr
   |true=>match stepT (denote tb) p w s t with
    |some (s',t')=>lJ tb p w n₀ ann n s' t'
    |none=>Zr
theorem Fu{tb:String->Option UK}{p:Program}{w:SM}{n₀:Nat}{ann:Option Su}:∀{n:Nat}{s s':SharedT}{t:Thread},
  lJ tb p w n₀ ann n s t=Zq s'->topRun tb p w n₀ ann n s.abs t=Zq s'.abs
 |0,_,_,_,h=>by cases h
 |n+1,s,s',t,h=>by
  unfold lJ at h;unfold topRun;cases he:through t with
  |true=>rw[he]at h;cases h;rfl
  |false=>
   rw[he]at h;cases hk:stepOk n₀ ann t with
   |false=>rw[hk]at h;cases h
   |true=>
    rw[hk]at h;cases hs:stepT (denote tb) p w s t with
    |none=>rw[hs]at h;cases h
    |some r=>obtain⟨s₂,t₂⟩:=r;rw[hs]at h;rw[stepT_spec hs];exact Fu h
def Ni(p q:Program)(loose:List Str)(Xt:Sy->Bool){α:Type}(Yf:Sy->α)(g0:Bool)(H:Tb)(s:Sy):=
 (Zc (Tc p.main.body) H s.heap&&YI p s.heap&&gensDone s&&laidKept H s.heap,U2 q loose (Tc p.main.body) Xt g0 s,Yf s)
def GZ(p:Program)(H:Tb)(s:Sy):=Zc (Tc p.main.body) H s.heap&&YI p s.heap&&gensDone s&&laidKept H s.heap
def treeOf:List Obj->Nat->BT->BT
 | [],_,t=>t
 |o::r,i,t=>treeOf r (i+1) (t.ins i o)
theorem Ji{p q:Program}{loose:List Str}{Xt:Sy->Bool}{α:Type}{Yf:Sy->α}{Ya:SM->α}{N:Nat}{g0:Bool}{H₀:UJ->Tb}{ť:Array WN}{d₀:Drawn}{k₀ m₀ n₀:Nat}{ann:Option Su}{T₀:UJ->BT}{life:Life}
  (opn:∀w:SM,(fencedOpening Tx p w N).map (λs=>(s.heap,s.gens,s.drawn,s.toks))=Zq (H₀ w.params,ť,d₀,k₀))
  (size:∀w:SM,((H₀ w.params).isNs SU&&ť.size==0,(H₀ w.params).objs.size,(H₀ w.params).nsMap SU "__annotations__")=(true,m₀,ann))
  (tree:∀P:UJ,absHeap (T₀ P) n₀ life=H₀ P)
  (look:∀(w:SM)(os:Ug),(lJ Tx p w m₀ ann N ⟨T₀ w.params,n₀,life,ť,d₀,k₀,os⟩ (UA p)).map (λs=>Ni p q loose Xt Yf g0 (H₀ w.params) s.abs)=Zq (true,V6 q loose,Ya w)) :
  LeftO p q loose Xt Yf Ya N g0:=λw=>by
 obtain⟨⟨h,gs,d,k,os⟩,e,e'⟩:=Rj.mp (opn w)
 obtain⟨rfl,rfl,rfl,rfl⟩:h=H₀ w.params/\gs=ť/\d=d₀/\k=k₀:=by simpa using e'
 obtain⟨z1,z2,z3⟩:_/\_/\_:=by simpa only[Prod.mk.injEq] using size w
 obtain⟨s,hs,hl⟩:=Rj.mp (look w os)
 obtain⟨l1,l23⟩:=VX hl
 obtain⟨l2,l3⟩:=VX l23
 have r:=Fu hs
 have t:topFrom Tx p w N ⟨H₀ w.params,gs,d,k,os⟩=Zq s.abs:=by
  unfold topFrom;dsimp only;rw[z1,z2,z3];unfold SharedT.abs at r;dsimp only at r;rw[tree w.params]at r;show(topRun Tx p w m₀ ann N ⟨H₀ w.params,gs,d,k,os⟩ (UA p)).bind _=_;rw[r];show(match Zc (Tc p.main.body) (H₀ w.params) s.abs.heap&&YI p s.abs.heap&&gensDone s.abs&&laidKept (H₀ w.params) s.abs.heap with|true=>_|false=>_)=_;rw[l1];rfl
 unfold openEnds
 rw[e]
 show(topFrom Tx p w N _).map _=_
 rw[t]
 exact congrArg Zq (VJ l2 l3)
theorem FN{p q:Program}{loose:List Str}{Xt:Sy->Bool}{α:Type}{Yf:Sy->α}{Ya:SM->α}{N:Nat}{g0:Bool}{H₀:UJ->Tb}{ť:Array WN}{d₀:Drawn}{k₀ m₀ n₀:Nat}{ann:Option Su}{T₀:UJ->BT}{life:Life}
  (opn:∀w:SM,(fencedOpening Tx p w N).map (λs=>(s.heap,s.gens,s.drawn,s.toks))=Zq (H₀ w.params,ť,d₀,k₀))
  (size:∀w:SM,((H₀ w.params).isNs SU&&ť.size==0,(H₀ w.params).objs.size,(H₀ w.params).nsMap SU "__annotations__")=(true,m₀,ann))
  (tree:∀P:UJ,absHeap (T₀ P) n₀ life=H₀ P)
  (look1:∀(w:SM)(os:Ug),(lJ Tx p w m₀ ann N ⟨T₀ w.params,n₀,life,ť,d₀,k₀,os⟩ (UA p)).map (λs=>GZ p (H₀ w.params) s.abs)=Zq true)
  (look3:∀(w:SM)(os:Ug),(lJ Tx p w m₀ ann N ⟨T₀ w.params,n₀,life,ť,d₀,k₀,os⟩ (UA p)).map (λs=>(U2 q loose (Tc p.main.body) Xt g0 s.abs).1)=Zq (V6 q loose).1)
  (look7:∀(w:SM)(os:Ug),(lJ Tx p w m₀ ann N ⟨T₀ w.params,n₀,life,ť,d₀,k₀,os⟩ (UA p)).map (λs=>(U2 q loose (Tc p.main.body) Xt g0 s.abs).2.1)=Zq (V6 q loose).2.1)
  (look5:∀(w:SM)(os:Ug),(lJ Tx p w m₀ ann N ⟨T₀ w.params,n₀,life,ť,d₀,k₀,os⟩ (UA p)).map (λs=>(U2 q loose (Tc p.main.body) Xt g0 s.abs).2.2.1)=Zq true)
  (look6:∀(w:SM)(os:Ug),(lJ Tx p w m₀ ann N ⟨T₀ w.params,n₀,life,ť,d₀,k₀,os⟩ (UA p)).map (λs=>(U2 q loose (Tc p.main.body) Xt g0 s.abs).2.2.2.1)=Zq true)
  (look4:∀(w:SM)(os:Ug),(lJ Tx p w m₀ ann N ⟨T₀ w.params,n₀,life,ť,d₀,k₀,os⟩ (UA p)).map (λs=>(U2 q loose (Tc p.main.body) Xt g0 s.abs).2.2.2.2)=Zq (V6 q loose).2.2.2.2)
  (look2:∀(w:SM)(os:Ug),(lJ Tx p w m₀ ann N ⟨T₀ w.params,n₀,life,ť,d₀,k₀,os⟩ (UA p)).map (λs=>Yf s.abs)=Zq (Ya w)) :
  LeftO p q loose Xt Yf Ya N g0:=Ji opn size tree λw os=>by
 obtain⟨s,hs,h1⟩:=Rj.mp (look1 w os)
 have h2:=look2 w os
 have h3:=look3 w os
 have h4:=look4 w os
 have h5:=look5 w os
 have h6:=look6 w os
 have h7:=look7 w os
 rw[hs]at h2 h3 h4 h5 h6 h7⊢
 exact congrArg Zq (VJ h1 (VJ (VJ (SN h3) (VJ (SN h7) (VJ (SN h5) (VJ (SN h6) (SN h4))))) (SN h2)))
end Hd
namespace L2
open PySem PySem.Spec PyProof.Rows
def Zu(s:S0)(j:Nat):S0:=match s with
 | .ClassDef _ _ _ body _ _ _ _ _ _ _=>body.getD j (.Pass ⟨0,0,0,0⟩)
 |_=>.Pass ⟨0,0,0,0⟩
def bH(s:S0):Arguments:=match s with
 | .FunctionDef _ a _ _ _ _ _ _ _ _=>a
 |_=>{ posonlyargs:=[],args:=[],vararg:=Zr,kwonlyargs:=[],kw_defaults:=[],kwarg:=Zr,defaults:=[] }
def bj(s:S0):List S0:=match s with
 | .FunctionDef _ _ b _ _ _ _ _ _ _=>b
 |_=>[]
def aq(s:S0):WD:=match s with
 | .FunctionDef _ _ _ _ _ _ sc _ _ _=>sc
 |_=>{ kind:=.function,names:=[],isGenerator:=false,isCoroutine:=false }
end L2
namespace K35
open PySem
def top(i:Nat):S0:=PySem.Challenge.pw_hushrow_k35_shortest_chains.main.body.getD i (.Pass ⟨0,0,0,0⟩)
end K35
set_option genSizeOf false
set_option bootstrap.genMatcherCode false
set_option compiler.extract_closed false
set_option maxHeartbeats 0
namespace K35
open PySem L2 PySem.W
abbrev Ey(P:UJ)(x:Str)(t:Nat)(v:Su):Zd:=⟨PyData.keyHash P x,.str x t,v⟩
abbrev FL(P:UJ)(a:Nat)(l:Int)(b:Nat):=Ey P "__firstlineno__" a (.int l b)
abbrev SA(P:UJ)(a b:Nat):=Ey P "__static_attributes__" a (.ref b)
abbrev DO(P:UJ)(a:Nat):=Ey P "__doc__" a .none
abbrev ŝ(P:UJ)(a:Nat):=Ey P "__module__" a (.str "hushrow.rows" 222)
abbrev ER(P:UJ)(x:Str)(a b:Nat):=Ey P x a (.ref b)
abbrev DI(x:Array Zd)(n:Nat):Obj:={.type "dict",Zr,.dict x n,#[]}
abbrev WR(x:Str)(a b:Nat)(y:String):Obj:={.type "getset_descriptor",Zr,.fields #[.str x a,.ref b,.builtin y,.none],#[]}
abbrev CX(n:Str)(a c:Nat)(bs m s:List Su)(d:Option Su)(u v:Nat)(w:String):Obj:={.type "type",Zr,.cls { name:=n,bases:=bs,mro:=.ref a::m,ns:=c,qualname:=n,hasDict:=true,slotNames:=[],subclasses:=s,abstract:=false,collection:=Zr,hasDel:=false },#[d,Zr,Zq (.str n u),Zq (.str n v),Zq (.builtin w),Zq (.bool true)]}
abbrev CO(n q:Str)(t:Nat)(l a:Int)(r:Nat)(m:Nat):Obj:={.type "code",Zr,.fields #[.str n t,.str q (t+1),.str "/claim/cut.py" (t+2),.int l 0,.int a 0,.int 0 0,.int 0 0,.int 3 0,.ref r,.bool true,.int 181 0,.ref (r+1),.none,.ref (r+2),.ref (r+3),.ref (r+4),.int m 0,.int l 0,.str "/claim/cut.py" (m+1)],#[]}
abbrev FU(n q:Str)(s:S0)(m:Str)(t c:Nat):Obj:={.type "function",Zr,.func (T8 n q (bH s) (bj s) (aq s) .none .none .none (.str m t) Zr (.ref c) .none),#[]}
abbrev FD(n q:Str)(s:S0)(d:Nat)(m:Str)(t c:Nat):Obj:={.type "function",Zr,.func (T8 n q (bH s) (bj s) (aq s) (.ref d) .none .none (.str m t) Zr (.ref c) .none),#[]}
abbrev F7T(x:Str)(i c:Nat):=FU x x (top i) "hushrow.costs" 841 c
abbrev F8T(x:Str)(i c:Nat):=FU x x (top i) "hushrow.places" 905 c
abbrev F9T(x:Str)(i c:Nat):=FU x x (top i) "hushrow.links" 973 c
abbrev JB(x:Str)(i c:Nat):=FU x x (top i) "hushrow.reach" 1029 c
abbrev gQ(x:Str)(i c:Nat):=FU x x (top i) "law_hushrow_k35_shortest_chains" 1074 c
abbrev kO(x y:Str)(i j c:Nat):=FU x y (Zu (top i) j) "hushrow.rows" 222 c
def ó(P:UJ):SE:=
 (nat_lit 2,{.none,Zr,.dict #[] 0,#[]})::
 3∘DI #[Ey P "__name__" 165 (.str "law_hushrow_k35_shortest_chains" 1074),DO P 166,Ey P "__package__" 167 .none,Ey P "__loader__" 168 (.builtin "__main__.__loader__#opaque"),Ey P "__spec__" 169 .none,ER P "__annotations__" 170 6,ER P "__builtins__" 171 4,Ey P "__file__" 173 (.str "/claim/cut.py" 172),Ey P "__cached__" 174 .none,ER P "_wall" 193 21,ER P "only" 202 28,ER P "joined" 210 35,ER P "names_in" 221 42,ER P "each_once" 232 49,ER P "Row" 275 80,ER P "HandRow" 310 108,ER P "GivenRow" 347 134,ER P "OwnRow" 382 160,ER P "LetRow" 417 186,ER P "SetRow" 466 226,ER P "PutRow" 517 266,ER P "SendRow" 559 299,ER P "SayRow" 610 339,ER P "CallRow" 651 370,ER P "LastRow" 674 389,ER P "IfRow" 722 422,ER P "LoopRow" 770 455,ER P "DeedRow" 807 481,ER P "Program" 840 500,ER P "exact_of" 853 511,ER P "exact_of_row" 861 518,ER P "one_more" 868 525,ER P "exact_of_if" 878 532,ER P "exact_of_loop" 887 539,ER P "balanced" 895 546,ER P "exacts" 904 553,Ey P "CLOCK" 908 (.str "the clock" 907),ER P "row_place" 915 560,ER P "laid_rows" 926 567,ER P "laid_inside" 935 574,ER P "laid_program" 944 581,ER P "is_place" 951 588,ER P "head_places" 960 595,ER P "places" 972 602,ER P "drawn" 980 607,ER P "row_links" 991 614,ER P "said_links" 1000 621,ER P "called_links" 1013 628,ER P "step_links" 1022 635,ER P "links" 1028 641,ER P "sources" 1036 646,ER P "sources_of" 1042 651,ER P "ways_of" 1048 656,ER P "arrivals" 1054 661,ER P "table" 1060 667,ER P "chain" 1073 675,ER P "_law_cell_at" 1084 682,ER P "_law_more" 1090 687,ER P "_law_mix" 1101 694,ER P "_law_names" 1107 699,ER P "_law_pick" 1115 706,ER P "_law_heads" 1121 711,ER P "_law_scope" 1131 718,ER P "_law_thing" 1139 725,ER P "_law_value" 1150 732,ER P "_law_plain" 1163 739,ER P "_law_opened" 1177 746,ER P "_law_closed" 1184 753,ER P "_law_row" 1190 758,ER P "_law_body" 1202 765,ER P "_law_flat" 1220 772,ER P "_law_row_made" 1228 779,ER P "_law_rows_made" 1242 786,ER P "_law_program" 1256 793,ER P "_law_exact" 1270 800,ER P "_law_even_row" 1284 807,ER P "_law_evened_by" 1290 812,ER P "_law_far" 1303 819,ER P "_law_chain" 1316 826,ER P "law" 1322 831] 80::
 27∘CO "only" "only" 196 5 1 22 200::
 28∘FU "only" "only" (top 2) "hushrow.ranks" 194 27::
 34∘CO "joined" "joined" 203 7 2 29 208::
 35∘FU "joined" "joined" (top 3) "hushrow.ranks" 194 34::
 41∘CO "names_in" "names_in" 213 10 1 36 219::
 42∘FU "names_in" "names_in" (top 5) "hushrow.things" 211 41::
 48∘CO "each_once" "each_once" 224 17 1 43 230::
 49∘FU "each_once" "each_once" (top 7) "hushrow.rows" 222 48::
 62∘CO "__init__" "Row.__init__" 245 25 2 57 250::
 63∘kO "__init__" "Row.__init__" 8 0 62::
 79∘DI #[ŝ P 240,FL P 244 23 243,ER P "__init__" 252 63,ER P "reads" 259 70,ER P "target" 266 77,SA P 268 78,ER P "__dict__" 270 81,ER P "__weakref__" 272 82,DO P 273] 4::
 80∘CX "Row" 80 79 [.type "object"] [.type "object"] [.ref 108,.ref 134,.ref 160,.ref 186,.ref 226,.ref 266,.ref 299,.ref 339,.ref 370,.ref 389,.ref 422,.ref 455,.ref 481] Zr 233 241 "object.__new__"::
 (nat_lit 81,{(.type "getset_descriptor"),Zr,.fields #[(.str "__dict__" 269),(.ref 80),(.builtin "function.__dict__"),(.builtin "function.__dict__#set")],#[]})::
 82∘WR "__weakref__" 271 80 "ExceptionGroup.__weakref__"::
 97∘CO "__init__" "HandRow.__init__" 288 35 4 92 295::
 98∘kO "__init__" "HandRow.__init__" 9 0 97::
 107∘DI #[ŝ P 283,FL P 287 33 286,ER P "__init__" 297 98,ER P "shown" 304 105,SA P 307 106,DO P 308] 2::
 108∘CX "HandRow" 108 107 [.ref 80] [.ref 80,.type "object"] [] (Zq (.ref 85)) 276 284 "object.__new__"::
 123∘CO "__init__" "GivenRow.__init__" 323 44 5 118 331::
 124∘kO "__init__" "GivenRow.__init__" 10 0 123::
 133∘DI #[ŝ P 318,FL P 322 42 321,ER P "__init__" 333 124,ER P "shown" 340 131,SA P 344 132,DO P 345] 2::
 134∘CX "GivenRow" 134 133 [.ref 80] [.ref 80,.type "object"] [] (Zq (.ref 111)) 311 319 "object.__new__"::
 149∘CO "__init__" "OwnRow.__init__" 360 54 4 144 367::
 150∘kO "__init__" "OwnRow.__init__" 11 0 149::
 159∘DI #[ŝ P 355,FL P 359 52 358,ER P "__init__" 369 150,ER P "shown" 376 157,SA P 379 158,DO P 380] 2::
 160∘CX "OwnRow" 160 159 [.ref 80] [.ref 80,.type "object"] [] (Zq (.ref 137)) 348 356 "object.__new__"::
 175∘CO "__init__" "LetRow.__init__" 395 63 4 170 402::
 176∘kO "__init__" "LetRow.__init__" 12 0 175::
 185∘DI #[ŝ P 390,FL P 394 61 393,ER P "__init__" 404 176,ER P "shown" 411 183,SA P 414 184,DO P 415] 2::
 186∘CX "LetRow" 186 185 [.ref 80] [.ref 80,.type "object"] [] (Zq (.ref 163)) 383 391 "object.__new__"::
 201∘CO "__init__" "SetRow.__init__" 430 72 4 196 437::
 202∘kO "__init__" "SetRow.__init__" 13 0 201::
 215∘CO "reads" "SetRow.reads" 447 80 1 210 451::
 216∘kO "reads" "SetRow.reads" 13 2 215::
 225∘DI #[ŝ P 425,FL P 429 70 428,ER P "__init__" 439 202,ER P "shown" 446 209,ER P "reads" 453 216,ER P "target" 460 223,SA P 463 224,DO P 464] 2::
 226∘CX "SetRow" 226 225 [.ref 80] [.ref 80,.type "object"] [] (Zq (.ref 189)) 418 426 "object.__new__"::
 241∘CO "__init__" "PutRow.__init__" 479 87 5 236 487::
 242∘kO "__init__" "PutRow.__init__" 14 0 241::
 255∘CO "reads" "PutRow.reads" 497 96 1 250 501::
 256∘kO "reads" "PutRow.reads" 14 2 255::
 265∘DI #[ŝ P 474,FL P 478 85 477,ER P "__init__" 489 242,ER P "shown" 496 249,ER P "reads" 503 256,ER P "target" 510 263,SA P 514 264,DO P 515] 2::
 266∘CX "PutRow" 266 265 [.ref 80] [.ref 80,.type "object"] [] (Zq (.ref 229)) 467 475 "object.__new__"::
 281∘CO "__init__" "SendRow.__init__" 530 103 4 276 537::
 282∘kO "__init__" "SendRow.__init__" 15 0 281::
 295∘CO "reads" "SendRow.reads" 547 111 1 290 551::
 296∘kO "reads" "SendRow.reads" 15 2 295::
 298∘DI #[ŝ P 525,FL P 529 101 528,ER P "__init__" 539 282,ER P "shown" 546 289,ER P "reads" 553 296,SA P 556 297,DO P 557] 2::
 299∘CX "SendRow" 299 298 [.ref 80] [.ref 80,.type "object"] [] (Zq (.ref 269)) 518 526 "object.__new__"::
 314∘CO "__init__" "SayRow.__init__" 572 115 5 309 580::
 315∘kO "__init__" "SayRow.__init__" 16 0 314::
 338∘DI #[ŝ P 567,FL P 571 113 570,ER P "__init__" 582 315,ER P "shown" 589 322,ER P "reads" 596 329,ER P "target" 603 336,SA P 607 337,DO P 608] 2::
 339∘CX "SayRow" 339 338 [.ref 80] [.ref 80,.type "object"] [] (Zq (.ref 302)) 560 568 "object.__new__"::
 354∘CO "__init__" "CallRow.__init__" 623 131 4 349 630::
 355∘kO "__init__" "CallRow.__init__" 17 0 354::
 369∘DI #[ŝ P 618,FL P 622 129 621,ER P "__init__" 632 355,ER P "shown" 639 362,ER P "reads" 645 367,SA P 648 368,DO P 649] 2::
 370∘CX "CallRow" 370 369 [.ref 80] [.ref 80,.type "object"] [] (Zq (.ref 342)) 611 619 "object.__new__"::
 388∘DI #[ŝ P 659,FL P 663 141 662,ER P "shown" 670 386,SA P 671 387,DO P 672] 2::
 389∘CX "LastRow" 389 388 [.ref 80] [.ref 80,.type "object"] [] (Zq (.ref 373)) 652 660 "object.__new__"::
 404∘CO "__init__" "IfRow.__init__" 687 147 7 399 697::
 405∘kO "__init__" "IfRow.__init__" 19 0 404::
 418∘CO "reads" "IfRow.reads" 707 158 1 413 711::
 419∘kO "reads" "IfRow.reads" 19 2 418::
 421∘DI #[ŝ P 682,FL P 686 145 685,ER P "__init__" 699 405,ER P "shown" 706 412,ER P "reads" 713 419,SA P 719 420,DO P 720] 2::
 422∘CX "IfRow" 422 421 [.ref 80] [.ref 80,.type "object"] [] (Zq (.ref 392)) 675 683 "object.__new__"::
 437∘CO "__init__" "LoopRow.__init__" 735 162 7 432 745::
 438∘kO "__init__" "LoopRow.__init__" 20 0 437::
 451∘CO "reads" "LoopRow.reads" 755 173 1 446 759::
 452∘kO "reads" "LoopRow.reads" 20 2 451::
 454∘DI #[ŝ P 730,FL P 734 160 733,ER P "__init__" 747 438,ER P "shown" 754 445,ER P "reads" 761 452,SA P 767 453,DO P 768] 2::
 455∘CX "LoopRow" 455 454 [.ref 80] [.ref 80,.type "object"] [] (Zq (.ref 425)) 723 731 "object.__new__"::
 470∘CO "__init__" "DeedRow.__init__" 783 177 5 465 791::
 471∘kO "__init__" "DeedRow.__init__" 21 0 470::
 480∘DI #[ŝ P 778,FL P 782 175 781,ER P "__init__" 793 471,ER P "shown" 800 478,SA P 804 479,DO P 805] 2::
 481∘CX "DeedRow" 481 480 [.ref 80] [.ref 80,.type "object"] [] (Zq (.ref 458)) 771 779 "object.__new__"::
 496∘CO "__init__" "Program.__init__" 820 187 4 491 827::
 497∘kO "__init__" "Program.__init__" 22 0 496::
 499∘DI #[ŝ P 815,FL P 819 185 818,ER P "__init__" 829 497,SA P 833 498,ER P "__dict__" 835 501,ER P "__weakref__" 837 502,DO P 838] 4::
 500∘CX "Program" 500 499 [.type "object"] [.type "object"] [] Zr 808 816 "object.__new__"::
 (nat_lit 501,{(.type "getset_descriptor"),Zr,.fields #[(.str "__dict__" 834),(.ref 500),(.builtin "function.__dict__"),(.builtin "function.__dict__#set")],#[]})::
 502∘WR "__weakref__" 836 500 "ExceptionGroup.__weakref__"::
 510∘CO "exact_of" "exact_of" 843 192 2 505 851::
 511∘F7T "exact_of" 24 510::
 517∘CO "exact_of_row" "exact_of_row" 854 200 2 512 859::
 518∘F7T "exact_of_row" 25 517::
 524∘CO "one_more" "one_more" 862 208 1 519 866::
 525∘F7T "one_more" 26 524::
 531∘CO "exact_of_if" "exact_of_if" 869 210 2 526 876::
 532∘F7T "exact_of_if" 27 531::
 538∘CO "exact_of_loop" "exact_of_loop" 879 216 2 533 885::
 539∘F7T "exact_of_loop" 28 538::
 545∘CO "balanced" "balanced" 888 221 2 540 893::
 546∘F7T "balanced" 29 545::
 552∘CO "exacts" "exacts" 896 223 1 547 902::
 553∘F7T "exacts" 30 552::
 559∘CO "row_place" "row_place" 909 230 1 554 913::
 560∘F8T "row_place" 33 559::
 566∘CO "laid_rows" "laid_rows" 916 232 3 561 924::
 567∘F8T "laid_rows" 34 566::
 573∘CO "laid_inside" "laid_inside" 927 238 2 568 933::
 574∘F8T "laid_inside" 35 573::
 580∘CO "laid_program" "laid_program" 936 245 1 575 942::
 581∘F8T "laid_program" 36 580::
 587∘CO "is_place" "is_place" 945 250 1 582 949::
 588∘F8T "is_place" 37 587::
 594∘CO "head_places" "head_places" 952 252 1 589 958::
 595∘F8T "head_places" 38 594::
 601∘CO "places" "places" 961 258 1 596 970::
 602∘F8T "places" 39 601::
 (nat_lit 606,{(.type "code"),Zr,.fields #[(.str "drawn" 975),(.str "drawn" 976),(.str "/claim/cut.py" 977),(.int (267) 0),(.int (4) 0),(.int (0) 0),(.int (0) 0),(.int (3) 0),(.ref 603),(.bool true),(.int (181) 0),(.ref 604),.none,.none,.none,(.ref 605),(.int (978) 0),(.int (267) 0),(.str "/claim/cut.py" 979)],#[]})::
 607∘F9T "drawn" 41 606::
 613∘CO "row_links" "row_links" 981 269 4 608 989::
 614∘F9T "row_links" 42 613::
 620∘CO "said_links" "said_links" 992 282 2 615 998::
 621∘F9T "said_links" 43 620::
 627∘CO "called_links" "called_links" 1001 286 3 622 1011::
 628∘F9T "called_links" 44 627::
 634∘CO "step_links" "step_links" 1014 294 2 629 1020::
 635∘F9T "step_links" 45 634::
 (nat_lit 636,{(.type "tuple"),Zr,.seq #[(.bool false)] 0,#[]})::
 (nat_lit 640,{(.type "code"),Zr,.fields #[(.str "links" 1023),(.str "links" 1024),(.str "/claim/cut.py" 1025),(.int (301) 0),(.int (2) 0),(.int (0) 0),(.int (0) 0),(.int (3) 0),(.ref 637),(.bool true),(.int (181) 0),(.ref 638),.none,.none,.none,(.ref 639),(.int (1026) 0),(.int (301) 0),(.str "/claim/cut.py" 1027)],#[]})::
 641∘FD "links" "links" (top 46) 636 "hushrow.links" 973 640::
 (nat_lit 645,{(.type "code"),Zr,.fields #[(.str "sources" 1031),(.str "sources" 1032),(.str "/claim/cut.py" 1033),(.int (311) 0),(.int (1) 0),(.int (0) 0),(.int (0) 0),(.int (3) 0),(.ref 642),(.bool true),(.int (181) 0),(.ref 643),.none,.none,.none,(.ref 644),(.int (1034) 0),(.int (311) 0),(.str "/claim/cut.py" 1035)],#[]})::
 646∘JB "sources" 48 645::
 (nat_lit 650,{(.type "code"),Zr,.fields #[(.str "sources_of" 1037),(.str "sources_of" 1038),(.str "/claim/cut.py" 1039),(.int (313) 0),(.int (2) 0),(.int (0) 0),(.int (0) 0),(.int (3) 0),(.ref 647),(.bool true),(.int (181) 0),(.ref 648),.none,.none,.none,(.ref 649),(.int (1040) 0),(.int (313) 0),(.str "/claim/cut.py" 1041)],#[]})::
 651∘JB "sources_of" 49 650::
 (nat_lit 655,{(.type "code"),Zr,.fields #[(.str "ways_of" 1043),(.str "ways_of" 1044),(.str "/claim/cut.py" 1045),(.int (315) 0),(.int (2) 0),(.int (0) 0),(.int (0) 0),(.int (3) 0),(.ref 652),(.bool true),(.int (181) 0),(.ref 653),.none,.none,.none,(.ref 654),(.int (1046) 0),(.int (315) 0),(.str "/claim/cut.py" 1047)],#[]})::
 656∘JB "ways_of" 50 655::
 (nat_lit 660,{(.type "code"),Zr,.fields #[(.str "arrivals" 1049),(.str "arrivals" 1050),(.str "/claim/cut.py" 1051),(.int (320) 0),(.int (2) 0),(.int (0) 0),(.int (0) 0),(.int (3) 0),(.ref 657),(.bool true),(.int (181) 0),(.ref 658),.none,.none,.none,(.ref 659),(.int (1052) 0),(.int (320) 0),(.str "/claim/cut.py" 1053)],#[]})::
 661∘JB "arrivals" 51 660::
 (nat_lit 662,{(.type "tuple"),Zr,.seq #[(.bool false)] 0,#[]})::
 (nat_lit 666,{(.type "code"),Zr,.fields #[(.str "table" 1055),(.str "table" 1056),(.str "/claim/cut.py" 1057),(.int (332) 0),(.int (2) 0),(.int (0) 0),(.int (0) 0),(.int (3) 0),(.ref 663),(.bool true),(.int (181) 0),(.ref 664),.none,.none,.none,(.ref 665),(.int (1058) 0),(.int (332) 0),(.str "/claim/cut.py" 1059)],#[]})::
 667∘FD "table" "table" (top 52) 662 "hushrow.reach" 1029 666::
 (nat_lit 668,{(.type "tuple"),Zr,.seq #[(.bool false)] 0,#[]})::
 674∘CO "chain" "chain" 1061 339 4 669 1071::
 675∘FD "chain" "chain" (top 53) 668 "hushrow.reach" 1029 674::
 681∘CO "_law_cell_at" "_law_cell_at" 1076 350 2 676 1082::
 682∘gQ "_law_cell_at" 55 681::
 (nat_lit 686,{(.type "code"),Zr,.fields #[(.str "_law_more" 1085),(.str "_law_more" 1086),(.str "/claim/cut.py" 1087),(.int (357) 0),(.int (3) 0),(.int (0) 0),(.int (0) 0),(.int (3) 0),(.ref 683),(.bool true),(.int (181) 0),(.ref 684),.none,.none,.none,(.ref 685),(.int (1088) 0),(.int (357) 0),(.str "/claim/cut.py" 1089)],#[]})::
 687∘gQ "_law_more" 56 686::
 693∘CO "_law_mix" "_law_mix" 1091 359 2 688 1099::
 694∘gQ "_law_mix" 57 693::
 (nat_lit 698,{(.type "code"),Zr,.fields #[(.str "_law_names" 1102),(.str "_law_names" 1103),(.str "/claim/cut.py" 1104),(.int (368) 0),(.int (3) 0),(.int (0) 0),(.int (0) 0),(.int (3) 0),(.ref 695),(.bool true),(.int (181) 0),(.ref 696),.none,.none,.none,(.ref 697),(.int (1105) 0),(.int (368) 0),(.str "/claim/cut.py" 1106)],#[]})::
 699∘gQ "_law_names" 58 698::
 705∘CO "_law_pick" "_law_pick" 1108 384 2 700 1113::
 706∘gQ "_law_pick" 59 705::
 (nat_lit 710,{(.type "code"),Zr,.fields #[(.str "_law_heads" 1116),(.str "_law_heads" 1117),(.str "/claim/cut.py" 1118),(.int (386) 0),(.int (2) 0),(.int (0) 0),(.int (0) 0),(.int (3) 0),(.ref 707),(.bool true),(.int (181) 0),(.ref 708),.none,.none,.none,(.ref 709),(.int (1119) 0),(.int (386) 0),(.str "/claim/cut.py" 1120)],#[]})::
 711∘gQ "_law_heads" 60 710::
 717∘CO "_law_scope" "_law_scope" 1122 394 2 712 1129::
 718∘gQ "_law_scope" 61 717::
 724∘CO "_law_thing" "_law_thing" 1132 399 2 719 1137::
 725∘gQ "_law_thing" 62 724::
 731∘CO "_law_value" "_law_value" 1140 403 2 726 1148::
 732∘gQ "_law_value" 63 731::
 738∘CO "_law_plain" "_law_plain" 1151 412 3 733 1161::
 739∘gQ "_law_plain" 64 738::
 745∘CO "_law_opened" "_law_opened" 1164 424 4 740 1175::
 746∘gQ "_law_opened" 65 745::
 752∘CO "_law_closed" "_law_closed" 1178 439 1 747 1182::
 753∘gQ "_law_closed" 66 752::
 (nat_lit 757,{(.type "code"),Zr,.fields #[(.str "_law_row" 1185),(.str "_law_row" 1186),(.str "/claim/cut.py" 1187),(.int (446) 0),(.int (3) 0),(.int (0) 0),(.int (0) 0),(.int (3) 0),(.ref 754),(.bool true),(.int (181) 0),(.ref 755),.none,.none,.none,(.ref 756),(.int (1188) 0),(.int (446) 0),(.str "/claim/cut.py" 1189)],#[]})::
 758∘gQ "_law_row" 67 757::
 764∘CO "_law_body" "_law_body" 1191 461 4 759 1200::
 765∘gQ "_law_body" 68 764::
 771∘CO "_law_flat" "_law_flat" 1203 469 2 766 1218::
 772∘gQ "_law_flat" 69 771::
 778∘CO "_law_row_made" "_law_row_made" 1221 486 2 773 1226::
 779∘gQ "_law_row_made" 70 778::
 785∘CO "_law_rows_made" "_law_rows_made" 1229 506 2 780 1240::
 786∘gQ "_law_rows_made" 71 785::
 792∘CO "_law_program" "_law_program" 1243 522 1 787 1254::
 793∘gQ "_law_program" 72 792::
 799∘CO "_law_exact" "_law_exact" 1257 536 3 794 1268::
 800∘gQ "_law_exact" 73 799::
 806∘CO "_law_even_row" "_law_even_row" 1271 560 3 801 1282::
 807∘gQ "_law_even_row" 74 806::
 (nat_lit 811,{(.type "code"),Zr,.fields #[(.str "_law_evened_by" 1285),(.str "_law_evened_by" 1286),(.str "/claim/cut.py" 1287),(.int (573) 0),(.int (2) 0),(.int (0) 0),(.int (0) 0),(.int (3) 0),(.ref 808),(.bool true),(.int (181) 0),(.ref 809),.none,.none,.none,(.ref 810),(.int (1288) 0),(.int (573) 0),(.str "/claim/cut.py" 1289)],#[]})::
 812∘gQ "_law_evened_by" 75 811::
 818∘CO "_law_far" "_law_far" 1291 585 2 813 1301::
 819∘gQ "_law_far" 76 818::
 825∘CO "_law_chain" "_law_chain" 1304 599 5 820 1314::
 826∘gQ "_law_chain" 77 825::
 (nat_lit 830,{(.type "code"),Zr,.fields #[(.str "law" 1317),(.str "law" 1318),(.str "/claim/cut.py" 1319),(.int (612) 0),(.int (1) 0),(.int (0) 0),(.int (0) 0),(.int (3) 0),(.ref 827),(.bool true),(.int (181) 0),(.ref 828),.none,.none,.none,(.ref 829),(.int (1320) 0),(.int (612) 0),(.str "/claim/cut.py" 1321)],#[]})::
 (nat_lit 831,gQ "law" 78 830)::[]
def qN:List Sv:=[2,3,27,28,34,35,41,42,48,49,62,63,79,80,81,82,97,98,107,108,123,124,133,134,149,150,159,160,175,176,185,186,201,202,215,216,225,226,241,242,255,256,265,266,281,282,295,296,298,299,314,315,338,339,354,355,369,370,388,389,404,405,418,419,421,422,437,438,451,452,454,455,470,471,480,481,496,497,499,500,501,502,510,511,517,518,524,525,531,532,538,539,545,546,552,553,559,560,566,567,573,574,580,581,587,588,594,595,601,602,606,607,613,614,620,621,627,628,634,635,636,640,641,645,646,650,651,655,656,660,661,662,666,667,668,674,675,681,682,686,687,693,694,698,699,705,706,710,711,717,718,724,725,731,732,738,739,745,746,752,753,757,758,764,765,771,772,778,779,785,786,792,793,799,800,806,807,811,812,818,819,825,826,830,831]
theorem j9(P:UJ):qN=(ó P).map (·.1):=by kernel_rfl
abbrev prog:Program:=PySem.Challenge.pw_hushrow_k35_shortest_chains
abbrev law:Yd:=PySem.Challenge.rw_hushrow_k35_shortest_chains
def gB:Program:={ prog with main:={ prog.main with body:=[top 0,top 2,top 3,top 5,top 7,top 8,top 9,top 10,top 11,top 12,top 13,top 14,top 15,top 16,top 17,top 18,top 19,top 20,top 21,top 22,top 24,top 25,top 26,top 27,top 28,top 29,top 30,top 32,top 33,top 34,top 35,top 36,top 37,top 38,top 39,top 41,top 42,top 43,top 44,top 45,top 48,top 49,top 50,top 51,top 55,top 56,top 57,top 58,top 59,top 60,top 61,top 62,top 63,top 64,top 65,top 66,top 67,top 68,top 69,top 70,top 71,top 72,top 73,top 74,top 75,top 76,top 77,top 78] } }
abbrev hook:W.Hook:=XX ó qN j9
abbrev test:Sy->Bool:=λs=>xlAt gB [] s&&recOk (RowW.records law.row.toRowW) s
abbrev N4:Sy->List (Option Obj):=λs=>qN.map s.heap.get?
abbrev OD:SM->List (Option Obj):=λw=>(ó w.params).map λp=>Zq p.2
def T₀(P:UJ):BT:=Hd.treeOf (V7 P).objs.toList 0 .nil
def lookL(w:SM)(os:Ug):=(Hd.lJ Tx prog w 11 (Zq (.ref 6)) 12538 {T₀ w.params,11,{},RK [],Vm,VI,os} (UA prog)).map λs=>Hd.GZ prog (V7 w.params) s.abs
def lookO(w:SM)(os:Ug):=(Hd.lJ Tx prog w 11 (Zq (.ref 6)) 12538 {T₀ w.params,11,{},RK [],Vm,VI,os} (UA prog)).map λs=>(U2 gB ["links","table","chain"] (Tc prog.main.body) test true s.abs).1
def lookY(w:SM)(os:Ug):=(Hd.lJ Tx prog w 11 (Zq (.ref 6)) 12538 {T₀ w.params,11,{},RK [],Vm,VI,os} (UA prog)).map λs=>(U2 gB ["links","table","chain"] (Tc prog.main.body) test true s.abs).2.1
def lookW(w:SM)(os:Ug):=(Hd.lJ Tx prog w 11 (Zq (.ref 6)) 12538 {T₀ w.params,11,{},RK [],Vm,VI,os} (UA prog)).map λs=>(U2 gB ["links","table","chain"] (Tc prog.main.body) test true s.abs).2.2.1
def lookX(w:SM)(os:Ug):=(Hd.lJ Tx prog w 11 (Zq (.ref 6)) 12538 {T₀ w.params,11,{},RK [],Vm,VI,os} (UA prog)).map λs=>(U2 gB ["links","table","chain"] (Tc prog.main.body) test true s.abs).2.2.2.1
def lookU(w:SM)(os:Ug):=(Hd.lJ Tx prog w 11 (Zq (.ref 6)) 12538 {T₀ w.params,11,{},RK [],Vm,VI,os} (UA prog)).map λs=>(U2 gB ["links","table","chain"] (Tc prog.main.body) test true s.abs).2.2.2.2
def lookM(w:SM)(os:Ug):=(Hd.lJ Tx prog w 11 (Zq (.ref 6)) 12538 {T₀ w.params,11,{},RK [],Vm,VI,os} (UA prog)).map λs=>N4 s.abs
def lookS(w:SM)(os:Ug):=Zq (OD w)
def wu(w:SM)(os:Ug):=Zq true
def lookQ(w:SM)(os:Ug):=Zq (V6 gB ["links","table","chain"]).1
def lookB(w:SM)(os:Ug):=Zq (V6 gB ["links","table","chain"]).2.1
def lookV(w:SM)(os:Ug):=Zq (V6 gB ["links","table","chain"]).2.2.2.2
theorem lookQ_self:lookQ=lookQ:=rfl
theorem lookB_self:lookB=lookB:=rfl
theorem lookV_self:lookV=lookV:=rfl
theorem lookL_self:lookL=lookL:=rfl
theorem lookO_self:lookO=lookO:=rfl
theorem lookY_self:lookY=lookY:=rfl
theorem lookW_self:lookW=lookW:=rfl
theorem lookX_self:lookX=lookX:=rfl
theorem lookU_self:lookU=lookU:=rfl
theorem lookM_self:lookM=lookM:=rfl
theorem lookS_self:lookS=lookS:=rfl
end K35
def PySem.W.Fast.tw14598715356260435866:PySem.Params->PySem.Obj:=Ye
theorem PySem.W.Fast.te14598715356260435866:Ye=PySem.W.Fast.tw14598715356260435866:=rfl
def PySem.W.Fast.tw16388051096883926274:PySem.Program:=PySem.Challenge.pw_hushrow_k35_shortest_chains
theorem PySem.W.Fast.te16388051096883926274:PySem.Challenge.pw_hushrow_k35_shortest_chains=PySem.W.Fast.tw16388051096883926274:=rfl
def PySem.W.Fast.tw17246621163959161452:PySem.Params->UR:=K35.ó
theorem PySem.W.Fast.te17246621163959161452:K35.ó=PySem.W.Fast.tw17246621163959161452:=rfl
lay_quick K35.lookQ K35.lookB K35.lookV K35.lookL K35.lookO K35.lookY K35.lookW K35.lookX K35.lookU K35.lookM K35.lookS
name_quick K35lookQ for K35.lookQ by K35.lookQ_self
name_quick K35lookB for K35.lookB by K35.lookB_self
name_quick K35lookV for K35.lookV by K35.lookV_self
name_quick K35lookL for K35.lookL by K35.lookL_self
name_quick K35lookO for K35.lookO by K35.lookO_self
name_quick K35lookY for K35.lookY by K35.lookY_self
name_quick K35lookW for K35.lookW by K35.lookW_self
name_quick K35lookX for K35.lookX by K35.lookX_self
name_quick K35lookU for K35.lookU by K35.lookU_self
name_quick K35lookM for K35.lookM by K35.lookM_self
name_quick K35lookS for K35.lookS by K35.lookS_self
namespace K35
open PySem L2 PySem.W
theorem ya:W.Fast.K35lookY=W.Fast.K35lookB:=by kernel_rfl
theorem yS:lookY=lookB:=W.Fast.K35lookY_eq.trans (ya.trans W.Fast.K35lookB_eq.symm)
theorem yu:W.Fast.K35lookM=W.Fast.K35lookS:=by kernel_rfl
theorem yG:lookM=lookS:=W.Fast.K35lookM_eq.trans (yu.trans W.Fast.K35lookS_eq.symm)
theorem xm:W.Fast.K35lookO=W.Fast.K35lookQ:=by kernel_rfl
theorem yU:lookO=lookQ:=W.Fast.K35lookO_eq.trans (xm.trans W.Fast.K35lookQ_eq.symm)
theorem w9:W.Fast.K35lookU=W.Fast.K35lookV:=by kernel_rfl
theorem zS:lookU=lookV:=W.Fast.K35lookU_eq.trans (w9.trans W.Fast.K35lookV_eq.symm)
theorem yN:W.Fast.K35lookL=wu:=by kernel_rfl
theorem A5:lookL=wu:=W.Fast.K35lookL_eq.trans yN
theorem xY:W.Fast.K35lookW=wu:=by kernel_rfl
theorem zF:lookW=wu:=W.Fast.K35lookW_eq.trans xY
theorem wZ:W.Fast.K35lookX=wu:=by kernel_rfl
theorem yQ:lookX=wu:=W.Fast.K35lookX_eq.trans wZ
theorem Iy(P:UJ):absHeap (T₀ P) 11 {}=V7 P:=by kernel_rfl
theorem Ja(w:SM):((V7 w.params).isNs SU&&(RK []:Array WN).size==0,(V7 w.params).objs.size,(V7 w.params).nsMap SU "__annotations__")=(true,11,Zq (.ref 6)):=by kernel_rfl
theorem left:LeftO prog gB ["links","table","chain"] test hook.obs hook.val 12538:=Hd.FN (boot_open (p:=prog) (N:=12538) (by kernel_rfl) rfl (λ_=>rfl)) Ja Iy (λw os=>congrFun (congrFun A5 w) os) (λw os=>congrFun (congrFun yU w) os) (λw os=>congrFun (congrFun yS w) os) (λw os=>congrFun (congrFun zF w) os) (λw os=>congrFun (congrFun yQ w) os) (λw os=>congrFun (congrFun zS w) os) (λw os=>congrFun (congrFun yG w) os)
end K35
namespace L2
open PySem PySem.Spec PyProof.Rows
abbrev Key:=Sum Int Str
def vP:Key->Su->Bool
 | .inl k,v=>Yq k v
 | .inr x,v=>Xm x v
def ON(w:SM):Key->Int
 | .inl k=>hashInt k
 | .inr x=>hashStr w x
theorem cJ:∀{k:Key}{v:Su},vP k v=true->(∃i t,k=RV i/\v=Uu i t)\/(∃x t,k=Qc x/\v=W8 x t)
 | .inl i,v,h=>by
  obtain⟨t,e⟩:=XY (k:=i) (v:=v) h;exact .inl ⟨i,t,rfl,e⟩
 | .inr x,v,h=>by
  obtain⟨t,e⟩:=Xe (x:=x) (v:=v) h;exact .inr ⟨x,t,rfl,e⟩
theorem DW (i t):vP (.inl i) (.int i t)=true:=by simp[vP,Yq]
theorem D8 (x t):vP (.inr x) (.str x t)=true:=by simp[vP,Xm]
theorem KI (a b):decide ((RV a:Key)=RV b)=(a==b):=by
 by_cases e:a=b
 ·subst e;simp
 have h:¬ (RV a:Key)=RV b:=λq=>e (RV.inj q);rw[decide_eq_false h];exact(beq_eq_false_iff_ne.mpr e).symm
theorem KY (a b):decide ((Qc a:Key)=Qc b)=decide (a=b):=by
 by_cases e:a=b
 ·subst e;simp
 have h:¬ (Qc a:Key)=Qc b:=λq=>e (Qc.inj q);rw[decide_eq_false h,decide_eq_false e]
theorem Mw (a b):decide ((RV a:Key)=Qc b)=false:=decide_eq_false (λq=>nomatch q)
theorem My (a b):decide ((Qc a:Key)=RV b)=false:=decide_eq_false (λq=>nomatch q)
def bO(prog:Program)(w:SM):PySem.KeyKind prog w Key where
 is:=vP
 hash:=ON w
 inj:=λv a b ha hb=>by
  rcases cJ ha with⟨i,t,rfl,rfl⟩|⟨x,t,rfl,rfl⟩
  ·rcases cJ hb with⟨j,u,rfl,e⟩|⟨y,u,rfl,e⟩
   ·injection e with e1 _;rw[e1]
   exact nomatch e
  rcases cJ hb with⟨j,u,rfl,e⟩|⟨y,u,rfl,e⟩
  ·exact nomatch e
  injection e with e1 _;rw[e1]
 byValue:=λk v h=>by
  rcases cJ h with⟨i,t,rfl,rfl⟩|⟨x,t,rfl,rfl⟩<;>rfl
 pyHash:=λhv h=>by
  rcases cJ hv with⟨i,t,rfl,rfl⟩|⟨x,t,rfl,rfl⟩
  ·exact wpAny_pyHash_int h
  exact wpAny_pyHash_str h
 eqBool:=λhu hv h=>by
  rcases cJ hu with⟨i,t,rfl,rfl⟩|⟨x,t,rfl,rfl⟩
  ·rcases cJ hv with⟨j,u,rfl,rfl⟩|⟨y,u,rfl,rfl⟩
   ·rw[KI]at h;exact wpAny_eqBool_int h
   rw[Mw]at h;exact Xu i t y u _ _ _ _ h
  rcases cJ hv with⟨j,u,rfl,rfl⟩|⟨y,u,rfl,rfl⟩
  ·rw[My]at h;exact Xv x t j u _ _ _ _ h
  rw[KY]at h;exact wpAny_eqBool_str h
 «strs»:=λk x t v h=>by
  rcases cJ h with⟨i,u,rfl,e⟩|⟨y,u,rfl,e⟩
  ·exact nomatch e
  injection e with e1 _;subst e1;cases v<;>rfl
theorem zc (prog w i t):(bO prog w).is (.inl i) (.int i t)=true:=DW i t
theorem yX (prog w x t):(bO prog w).is (.inr x) (.str x t)=true:=D8 x t
inductive V where
 |Ê|bl (b:Bool)|int (i:Int)|str (x:Str)|ĺ (b:Array UInt8)|μ (b:UInt64)|ref (a:Sv)|ty (n:String)
 deriving DecidableEq
def Zv:V->Su->Prop
 | .Ê,u=>u=Vn
 | .bl b,u=>u=Xw b
 | .int i,u=>∃t,u=Uu i t
 | .str x,u=>∃t,u=W8 x t
 | .ĺ b,u=>∃t,u=Value.bytes b t
 | .μ b,u=>∃t,u=Yr b t
 | .ref a,u=>u=SO a
 | .ty n,u=>u=Tz n
abbrev Zt:List V->List Su->Prop:=Paired Zv
theorem Zt.length(r:Zt xs us):↥xs=↥us:=Sz r
theorem ja{α β:Type}{F}{l:List α}{m:List β}(h:Paired F l m):∀{i:Nat}{a:α},l[i]?=Zq a->∃b,m[i]?=Zq b/\F a b:=by
 induction h with
 |nil=>intro i a e;cases e
 |cons r _ ih=>
  intro i a e;cases i with
  |zero=>cases e;exact{_,rfl,r}
  |succ i=>exact ih (i:=i) e
theorem wF(h:F x y)(r:Paired F xs ys):Paired F (xs.set i x) (ys.set i y):=by
 induction r generalizing i with
 |nil=>exact .nil
 |cons q t ih=>
  cases i with
  |zero=>exact .cons h t
  |succ i=>exact .cons q ih
theorem nv (t) (h:Paired F l m):Paired F (l.take t) (m.take t):=by
 induction h generalizing t with
 |nil=>cases t<;>exact .nil
 |cons q _ ih=>
  cases t with
  |zero=>exact .nil
  |succ t=>exact .cons q (ih t)
theorem qP (t) (h:Paired F l m):Paired F (l.drop t) (m.drop t):=by
 induction h generalizing t with
 |nil=>cases t<;>exact .nil
 |cons q r ih=>
  cases t with
  |zero=>exact .cons q r
  |succ t=>exact ih t
theorem uz(h:Paired F xs ys)(g:Paired F zs ws):Paired F (xs++zs) (ys++ws):=by
 induction h with
 |nil=>exact g
 |cons q _ ih=>exact .cons q ih
theorem Zt.get{i:Nat}(h:Zt xs us)(e:xs[i]?=Zq x):∃u,us[i]?=Zq u/\Zv x u:=ja h e
theorem Zt.set(r:Zv x u) (i) (h:Zt xs us):Zt (xs.set i x) (us.set i u):=wF r h
theorem Zt.append(h:Zt xs us)(g:Zt ys ws):Zt (xs++ys) (us++ws):=uz h g
theorem Zt.take (n) (h:Zt xs us):Zt (xs.take n) (us.take n):=nv n h
theorem Zt.drop (n) (h:Zt xs us):Zt (xs.drop n) (us.drop n):=qP n h
theorem Zt.none_of:∀{xs:List V}{us:List Su}{i:Nat},Zt xs us->xs[i]?=Zr->us[i]?=Zr:=λ{xs us i} r e=>by
 have h1:=↥r;have h2:↥xs<=i:=Rb.mp e;exact Rb.mpr ()
def lH:Option V->Option Su->Prop
 |some v,Zq u=>Zv v u
 |none,Zr=>True
 |_,_=>False
def KV{κ:Type}:List (κ×V)->List (κ×Su)->Prop:=Paired λ(p:κ×V)(q:κ×Su)=>p.1=q.1/\Zv p.2 q.2
def kV:Key->V
 | .inl i=>.int i
 | .inr x=>.str x
inductive HO where
 |lst (xs:List V)
 |tup (xs:List V)
 |dK (kvs:List (Key×V))|dT (kvs:List (List Key×V))
 |set (S:Int->Bool) (n:Nat)
 |ins (C dx:Sv) (fs:List (Str×V))
 |own (x:Sv)
 |xd (fs:List (Str×V))
 |met (f x:Sv)
 |rng (lo hi:Int)
 |ā (o:Obj) (u:HO)
 |ω (ps:Array Su)
 |ext (φ:Tb->Prop)
abbrev Hp:=Sv->Option HO
def upd(H:Hp)(a:Sv)(o:HO):Hp:=λb=>if b=a then Zq o else H b
theorem ao:upd H a o a=Zq o:=by unfold upd;rw[if_pos rfl]
theorem aP(h:b≠a):upd H a o b=H b:=by unfold upd;rw[if_neg h]
theorem IK:upd (upd H a o) a u=upd H a u:=by
 funext b;unfold upd;split<;>rfl
theorem NX{H:Hp}(h:H a=Zq o)(h':H b=Zq u)(d:o≠u):a≠b:=by
 intro e;subst e;rw[h]at h';exact d (SN h')
theorem fK{H:Hp}(h:H a=Zq o)(h':H b=Zr):a≠b:=by
 intro e;subst e;rw[h]at h';cases h'
section
variable(P:Program)(w:SM)
def cP(H:Hp)(h:Tb)(a:Sv):HO->Prop
 | .lst xs=>↥xs<=sizeLine/\∃(Â:List Su)(n:Nat),Zt xs Â/\h.get? a=Zq { cls:=.type "list",data:=.seq Â.toArray n }
 | .tup xs=>↥xs<=sizeLine/\∃Â:List Su,Zt xs Â/\IsTup h a Â.toArray
 | .dK kvs=>↥kvs<=sizeLine/\(a==T4)=false/\∃vs,KV kvs vs/\h.DictOf (bO P w) a vs
 | .dT kvs=>↥kvs<=sizeLine/\(a==T4)=false/\∃xs:List (List Key×Sv×Su),
   Paired (λ(p:List Key×V)(q:List Key×Sv×Su)=>p.1=q.1/\H q.2.1=Zq (.tup (p.1.map kV))/\Zv p.2 q.2.2) kvs xs/\
   ∃o es ep,h.get? a=Zq o/\o.ExactDict/\o.data=.dict es ep/\es.toList=xs.map (entryOfKey (V8 (bO P w)))/\(xs.map (·.1)).Nodup
 | .set S n=>h.SetOf (U5 P w) a S n
 | .ins C dx fs=>H dx=Zq (.own a)/\↥fs<=1000/\dx≠a/\h.get? a=Zq (Vo C dx)/\
   ∃mA,h.Ns1 dx mA/\(∀f,lH (fs.lookup f) (mA f))/\XZ mA (fs.map (·.1))
 | .own _=>∃o,h.get? a=Zq o
 | .xd fs=>∃mA,h.Ns1 a mA/\∀f,lH (fs.lookup f) (mA f)
 | .rng lo hi=>∃t u v,h.get? a=Zq { cls:=.type "range",data:=.fields #[.int lo t,.int hi u,.int 1 v] }
 | .ā o u=>h.get? a=Zq o/\cP H h a u
 | .ω ps=>h.get? a=Zq { cls:=.none,data:=.fields ps }
 | .met f x=>h.get? a=Zq (Ys (.ref f) (.ref x))
 | .ext φ=>φ h/\(∃o,h.get? a=Zq o)/\∀h1 h2:Tb,φ h1->(∀o,h1.get? a=Zq o->h2.get? a=Zq o)->φ h2
def û(H:Hp)(h:Tb):Prop:=∀a o,H a=Zq o->cP P w H h a o
end
section
variable{P:Program}{w:SM}{H H':Hp}{h h':Tb}{a:Sv}{o:HO}
theorem cP.lt(x:cP P w H h a o):a<h.objs.size:=by
 cases o with
 |lst xs=>obtain⟨_,_,_,_,e⟩:=x;exact SI e
 |tup xs=>obtain⟨_,_,_,p⟩:=x;exact p.lt
 |dK kvs=>obtain⟨_,_,_,_,o,_,_,e,_⟩:=x;exact SI e
 |dT kvs=>obtain⟨_,_,_,_,o,_,_,e,_⟩:=x;exact SI e
 |set S n=>obtain⟨o,_,_,_,e,_⟩:=x;exact SI e
 |ins C dx fs=>obtain⟨_,_,_,e,_⟩:=x;exact SI e
 |own y=>obtain⟨_,e⟩:=x;exact SI e
 |xd fs=>obtain⟨_,⟨_,_,_,e,_⟩,_⟩:=x;exact SI e
 |rng lo hi=>obtain⟨_,_,_,e⟩:=x;exact SI e
 |ā ob u=>obtain⟨e,_⟩:=x;exact SI e
 |ω ps=>exact SI (show h.get? a=Zq _ from x)
 |met f y=>exact SI (show h.get? a=Zq _ from x)
 |ext φ=>obtain⟨_,⟨_,e⟩,_⟩:=x;exact SI e
theorem Paired.vo(h:Paired F l₁ l₂)(f:∀a b,F a b->G a b):Paired G l₁ l₂:=by
 induction h with
 |nil=>exact .nil
 |cons q _ ih=>exact .cons (f _ _ q) ih
theorem cP.vd(x:cP P w H h a o)(k:∀b u,(b=a\/H b=Zq (.own a))->h.get? b=Zq u->h'.get? b=Zq u)
  (ho:∀b,H b=Zq (.own a)->H' b=Zq (.own a)) (ht:∀b xs,H b=Zq (.tup xs)->H' b=Zq (.tup xs)):cP P w H' h' a o:=by
 induction o with
 |lst xs=>obtain⟨z,Â,n,r,e⟩:=x;exact{z,Â,n,r,k _ _ (.inl rfl) e}
 |tup xs=>obtain⟨z,Â,r,ob,e,c⟩:=x;exact{z,Â,r,ob,k _ _ (.inl rfl) e,c}
 |dK kvs=>obtain⟨z,y,vs,r,ob,es,ep,e,c⟩:=x;exact{z,y,vs,r,ob,es,ep,k _ _ (.inl rfl) e,c}
 |dT kvs=>
  obtain⟨z,y,xs,r,ob,es,ep,e,c⟩:=x
  exact{z,y,xs,Paired.vo r λp q z=>{z.1,ht _ _ z.2.1,z.2.2},ob,es,ep,k _ _ (.inl rfl) e,c}
 |set S n=>obtain⟨ob,es,ep,t,e,c⟩:=x;exact{ob,es,ep,t,k _ _ (.inl rfl) e,c}
 |ins C dx fs=>
  obtain⟨d,z,ne,e,mA,⟨od,es,ep,e2,c⟩,r⟩:=x
  exact{ho _ d,z,ne,k _ _ (.inl rfl) e,mA,{od,es,ep,k _ _ (.inr d) e2,c},r}
 |own y=>obtain⟨ob,e⟩:=x;exact{ob,k _ _ (.inl rfl) e}
 |xd fs=>obtain⟨mA,⟨od,es,ep,e,c⟩,r⟩:=x;exact{mA,{od,es,ep,k _ _ (.inl rfl) e,c},r}
 |rng lo hi=>obtain⟨t,u,v,e⟩:=x;exact{t,u,v,k _ _ (.inl rfl) e}
 |ā ob u ih=>obtain⟨e,q⟩:=x;exact{k _ _ (.inl rfl) e,ih q}
 |ω ps=>
  have e:h.get? a=Zq { cls:=.none,data:=.fields ps }:=x
  show h'.get? a=Zq { cls:=.none,data:=.fields ps }
  exact k a _ (.inl rfl) e
 |met f y=>
  have e:h.get? a=Zq (Ys (.ref f) (.ref y)):=x
  show h'.get? a=Zq (Ys (.ref f) (.ref y))
  exact k a _ (.inl rfl) e
 |ext φ=>obtain⟨p,⟨o,e⟩,st⟩:=x;exact{st _ _ p λo q=>k _ _ (.inl rfl) q,{o,k _ _ (.inl rfl) e},st}
theorem û.lt(x:û P w H h)(e:H a=Zq o):a<h.objs.size:=(x a o e).lt
theorem û.fresh(x:û P w H h)(e:h.objs.size<=a):H a=Zr:=by
 cases q:H a with
 |none=>rfl
 |some u=>exact absurd (Qe (x.lt q) e) (QO _)
theorem û.kept(x:û P w H h)(k:∀b u,h.get? b=Zq u->h'.get? b=Zq u):û P w H h':=λa o e=>
 (x a o e).vd (λb u _ q=>k b u q) (λ_ q=>q) λ_ _ q=>q
theorem û.laid(x:û P w H h)(k:∀b u,h.get? b=Zq u->h'.get? b=Zq u)(hp:h.objs.size<=a)(new:cP P w (upd H a o) h' a o):û P w (upd H a o) h':=λb u e=>by
 have hn:=x.fresh hp;by_cases hb:b=a
 ·subst hb;rw[ao]at e;cases e;exact new
 rw[aP hb]at e;exact(x b u e).vd (λc v _ q=>k c v q) (λc q=>by rw[aP (fK q hn)];exact q) λc xs q=>by rw[aP (fK q hn)];exact q
end
def Rd(H:Hp)(a:Sv)(u:HO):Prop:=H a=Zq u\/∃o,H a=Zq (.ā o u)
theorem Rd.ok(r:Rd H a u)(x:û P w H h):cP P w H h a u:=by
 rcases r with r|⟨o,r⟩
 ·exact x a u r
 obtain⟨_,q⟩:=x a _ r;exact q
def Mut:Option HO->Prop
 |some (.lst _)=>True
 |some (.dK _)=>True
 |some (.dT _)=>True
 |some (.set _ _)=>True
 |some (.ins _ _ _)=>True
 |some (.ext _)=>True
 |_=>False
section
variable{P:Program}{w:SM}{H:Hp}{h h':Tb}{x e:Sv}{o':HO}
theorem û.write(ok:û P w H h)(mu:Mut (H x))(he:e=x\/H e=Zq (.own x))(k:∀b u,b≠e->h.get? b=Zq u->h'.get? b=Zq u)(heo:∃u,h'.get? e=Zq u)
  (new:cP P w (upd H x o') h' x o'):û P w (upd H x o') h':=λb u q=>by
 have nown:∀c y,H c=Zq (.own y)->c≠x:=λc y r z=>by subst z;rw[r]at mu;exact mu
 have ntup:∀c xs,H c=Zq (.tup xs)->c≠x:=λc xs r z=>by subst z;rw[r]at mu;exact mu
 by_cases hb:b=x
 ·subst hb;rw[ao]at q;cases q;exact new
 rw[aP hb]at q
 by_cases hbe:b=e
 ·have q':H b=Zq (.own x):=by
   rcases he with z|z
   ·exact absurd (hbe.trans z) hb
   rw[hbe];exact z
  rw[q]at q';cases q';obtain⟨v,hv⟩:=heo;exact{v,by rw[hbe];exact hv}
 refine(ok b u q).vd (λc v hc r=>k c v ?_ r) (λc r=>by rw[aP (nown c b r)];exact r) λc xs r=>by rw[aP (ntup c xs r)];exact r
 rcases hc with rfl|hc
 ·exact hbe
 rintro rfl
 rcases he with z|z
 ·exact nown c b hc z
 rw[hc]at z;cases z;exact hb rfl
end
structure Un(fs ex:List Sv)(H H':Hp)(h h':Tb):Prop where
 keep:∀b o,h.get? b=Zq o->H b=Zr->b∉fs->b∉ex->h'.get? b=Zq o
 slot:∀b o,h.get? b=Zq o->H b=Zr->b∈fs->b∉ex->∃sl,h'.get? b=Zq { o with slots:=sl }
 free:∀b o,h.get? b=Zq o->H b=Zr->b∉ex->H' b=Zr
 there:∀b o,h.get? b=Zq o->b∉ex->∃o',h'.get? b=Zq o'
 uV:∀b xs,H b=Zq (.tup xs)->H' b=Zq (.tup xs)
 qY:∀b o u,H b=Zq (.ā o u)->H' b=Zq (.ā o u)
 uY:∀b ps,H b=Zq (.ω ps)->∃more,H' b=Zq (.ω (ps++more))
section
variable{fs ϴ ex ex':List Sv}{H H1 H2:Hp}{h h1 h2 h':Tb}{a x e:Sv}{o:HO}
theorem Un.any(u:Un fs ex H H1 h h1)(q:h.get? b=Zq ob)(n:H b=Zr)(hx:b∉ex):∃sl,h1.get? b=Zq { ob with slots:=sl }:=by
 by_cases hb:b∈fs
 ·exact u.slot b ob q n hb hx
 exact⟨ob.slots,u.keep b ob q n hb hx⟩
theorem Un.kept(k:∀b u,h.get? b=Zq u->h'.get? b=Zq u):Un fs ex H H h h':=
 {λb ob q _ _ _=>k b ob q,λb ob q _ _ _=>⟨ob.slots,k b ob q⟩,λ_ _ _ n _=>n,λb ob q _=>⟨ob,k b ob q⟩,λ_ _ q=>q,λ_ _ _ q=>q,λ_ ps q=>{#[],by rw[q];simp}}
theorem Un.refl:Un fs ex H H h h:=Un.kept λ_ _ q=>q
theorem Un.laid(k:∀b u,h.get? b=Zq u->h'.get? b=Zq u)(hp:h.objs.size<=a)(hn:H a=Zr):Un fs ex H (upd H a o) h h' where
 keep:=λb u q _ _ _=>k b u q
 slot:=λb u q _ _ _=>⟨u.slots,k b u q⟩
 free:=λb u q n _=>by rw[aP (Qf (Qe (SI q) hp))];exact n
 there:=λb u q _=>⟨u,k b u q⟩
 uV:=λb xs q=>by rw[aP (fK q hn)];exact q
 qY:=λb u xs q=>by rw[aP (fK q hn)];exact q
 uY:=λb ps q=>{#[],by rw[aP (fK q hn),q];simp}
theorem Un.write(mu:Mut (H x))(he:e=x\/H e=Zq (.own x))(k:∀b u,b≠e->h.get? b=Zq u->h'.get? b=Zq u)(heo:∃u,h'.get? e=Zq u):Un fs ex H (upd H x o) h h':=by
 have hx:∀b,H b=Zr->b≠x:=λb n z=>by subst z;rw[n]at mu;exact mu
 have hb:∀b,H b=Zr->b≠e:=λb n z=>by
  subst z;rcases he with r|r
  ·exact hx b n r
  rw[n]at r;cases r
 have hm:∀b u,H b=Zq u->¬ Mut (Zq u)->b≠x:=λb u q nm z=>by subst z;rw[q]at mu;exact nm mu
 refine⟨λb u q n _ _=>k b u (hb b n) q,λb u q n _ _=>{u.slots,k b u (hb b n) q},λb u q n _=>by rw[aP (hx b n)];exact n,λb u q _=>?_,
  λb xs q=>by rw[aP (hm b _ q λz=>z)];exact q,λb u xs q=>by rw[aP (hm b _ q λz=>z)];exact q,λb ps q=>{#[],by rw[aP (hm b _ q λz=>z),q];simp}⟩
 by_cases hbe:b=e
 ·subst hbe;exact heo
 exact⟨u,k b u hbe q⟩
end
def trk(h:Tb)(H:Hp):List Sv:=(SS h.objs.size).filter λa=>(H a).isSome
def wV(h:Tb)(H:Hp):Tb:=W.hideAll h (trk h H)
theorem Ds (h H):(wV h H).objs.size=h.objs.size:=W.hideAll_size _ _
theorem Hn(e:h.get? b=Zq o)(n:H b=Zr):(wV h H).get? b=Zq o:=
 W.hideAll_get _ e λhm=>by
  have q:(H b).isSome=true:=(Qs.mp hm).2;rw[n]at q;simp at q
theorem Iw(e:(wV h H).get? b=Zq o):h.get? b=Zq o/\H b=Zr:=by
 have e':h.get? b=Zq o:=W.of_hideAll (trk h H) e;refine{e',?_};cases q:H b with
 |none=>rfl
 |some x=>
  have hm:b∈trk h H:=Qs.mpr {Sh.mpr (SI e'),by simp[q]};have z:(wV h H).get? b=Zr:=W.hideAll_none (trk h H) hm;rw[z]at e;cases e
structure Mod(K:SE)(mg:Str->Option Su)(base:Tb):Prop where
 ä:K.In base
 glob:base.Ns SU mg
 blt:∃mb,base.Ns Wm mb/\∀x:Str,x≠"__name__"->mb x=T6 x
 nolimit:base.NoLimit
structure Cx where
 prog:Program
 w:SM
 K:SE
 mg:Str->Option Su
 base:Tb
 A:Td
 N:List Str
 s₀:Sy
 H₀:Hp
 env:Env
 outer:List Env
 stack:List Env
 ex:List Sv
 fn:Str->Bool
 calm:Bool
 pn:List (Sv×Obj)
 xe:Su->Sy->Prop
def Ϡ(l:List Env):List Sv:=l.filterMap (·.frame)
abbrev Cx.fs(X:Cx):List Sv:=Ϡ X.outer
def Vis(sc:WD)(x:Str):Prop:=sc.names.lookup x=Zq .local\/sc.names.lookup x=Zq .cell\/sc.names.lookup x=Zq .free
def Loc(sc:WD)(x:Str):Prop:=sc.names.lookup x=Zq .local\/sc.names.lookup x=Zq .cell
def ZP(env:Env)(h:Tb)(m:Str->Option Su)(x:Str)(u:Su):Prop:=
 (env.kindOf x=Zq .local/\m x=Zq u)\/((env.kindOf x=Zq .cell\/env.kindOf x=Zq .free)/\∃c,env.cells.lookup x=Zq c/\h.IsCell c (Zq u))
structure Cx.Ok(X:Cx):Prop where
 mod:Mod X.K X.mg X.base
 kind:X.env.scope.kind=.function
 glob:X.env.globals=SU
 blt:X.env.builtins=Wm
 above:X.s₀.heap.objs.size<=X.env.locals
 inj:∀x y c,X.env.cells.lookup x=Zq c->X.env.cells.lookup y=Zq c->x=y
 has:∀x,(X.env.kindOf x=Zq .cell\/X.env.kindOf x=Zq .free)->∃c,X.env.cells.lookup x=Zq c
 cab:∀x c,X.fn x=true->X.env.cells.lookup x=Zq c->X.s₀.heap.objs.size<=c
 hd:X.calm=true->X.A.handled=Zr
 frames:X.A.frames=Zq X.stack
 stk:X.stack=X.outer\/(X.stack=X.env::X.outer/\X.env.frame=Zq X.env.locals)
 exf:∀b∈X.ex,b≠X.env.locals/\∀x c,X.env.cells.lookup x=Zq c->c≠b
 bs:∀b o,X.base.get? b=Zq o->X.s₀.heap.get? b=Zq o/\X.H₀ b=Zr
 ς:X.base.objs.size<=X.s₀.heap.objs.size
 ED:∀b o,X.base.get? b=Zq o->b∉X.ex
 Gr:∀b∈X.ex,b∉X.fs
 rH:X.s₀.heap.FunFrames X.base X.outer
 frf:∀b∈X.fs,X.H₀ b=Zr
structure Inv(X:Cx)(pins:List (Sv×Obj))(B:List (Option V))(H:Hp)(s:Sy):Prop where
 ok:X.Ok
 os:s.os=X.s₀.os
 bare:VY s.gens
 base:Un X.fs X.ex X.H₀ H X.s₀.heap s.heap
 loc:∃m,s.heap.Ns X.env.locals m/\∀(i:Nat)(x:Str)(v:V),X.N[i]?=Zq x->B[i]?=Zq (Zq v)->Vis X.env.scope x->∃u,Zv v u/\ZP X.env s.heap m x u
 cell:∀x c,X.env.cells.lookup x=Zq c->∃v,s.heap.IsCell c v
 free:H X.env.locals=Zr
 kr:∀x c,X.env.cells.lookup x=Zq c->H c=Zr
 pin:∀p∈X.pn++pins,s.heap.get? p.1=Zq p.2/\H p.1=Zr/\p.1≠X.env.locals/\p.1∉X.fs/\∀v,p.2.data≠ .cell v
 È:û X.prog X.w H s.heap
 len:B.length=X.N.length
section
variable{X:Cx}{pins:List (Sv×Obj)}{B:List (Option V)}{H H':Hp}{s:Sy}{h':Tb}
theorem Cx.Ok.OV(ok:X.Ok)(e:X.base.get? b=Zq o):b∉X.fs:=λhb=>by
 have:=(ok.rH.mem hb).1;rw[e]at this;cases this
theorem Inv.bs(I:Inv X pins B H s):∀b o,X.base.get? b=Zq o->s.heap.get? b=Zq o/\H b=Zr:=λb o e=>
 {I.base.keep b o (I.ok.bs b o e).1 (I.ok.bs b o e).2 (I.ok.OV e) (I.ok.ED b o e),I.base.free b o (I.ok.bs b o e).1 (I.ok.bs b o e).2 (I.ok.ED b o e)}
theorem Inv.bk(I:Inv X pins B H s):∀b o,X.base.get? b=Zq o->s.heap.get? b=Zq o:=λb o e=>(I.bs b o e).1
theorem Inv.mod(I:Inv X pins B H s):Mod X.K X.mg X.base:=I.ok.mod
theorem Inv.ü(I:Inv X pins B H s):X.K.In s.heap:=I.ok.mod.ä.keeps I.bk
theorem Inv.lt(I:Inv X pins B H s):X.env.locals<⇑s:=let ⟨_,hn,_⟩:=I.loc;hn.lt
theorem Inv.sz(I:Inv X pins B H s):X.s₀.heap.objs.size<=⇑s:=P2 I.ok.above (Rp I.lt)
theorem Inv.Nj(I:Inv X pins B H s)(h:⇑s<=a):a∉X.fs:=λhb=>by
 obtain⟨_,o,ho,_⟩:=I.ok.rH.mem hb;exact absurd (Qe (SI ho) (P2 I.sz h)) (QO _)
theorem Inv.π(I:Inv X pins B H s):∀x c,X.env.cells.lookup x=Zq c->c≠X.env.locals:=λx c e z=>by
 obtain⟨v,o,ho,hd⟩:=I.cell x c e;obtain⟨m,⟨o',es,ep,Φ,hd',_⟩,_⟩:=I.loc;rw[z,Φ]at ho;cases ho;rw[hd']at hd;cases hd
theorem Inv.rH(I:Inv X pins B H s):s.heap.FunFrames X.base X.outer:=by
 have all:∀(l:List Env),(∀b∈Ϡ l,b∈X.fs)->X.s₀.heap.FunFrames X.base l->s.heap.FunFrames X.base l:=by
  intro l;induction l with
  |nil=>intro _ _;trivial
  |cons env r ih=>
   intro hs hl;obtain⟨hk,⟨L,o,hf,hn,ho,hd⟩,hr⟩:=hl;have hL:L∈X.fs:=hs L (by unfold Ϡ;rw[QU,hf];exact PH);obtain⟨sl,e⟩:=I.base.slot L o ho (I.ok.frf L hL) hL λz=>I.ok.Gr L z hL;exact{hk,{L,_,hf,hn,e,hd},ih (λb hb=>hs b (by unfold Ϡ;rw[QU,hf];exact PC _ hb)) hr}
 exact all X.outer (λ_ hb=>hb) I.ok.rH
theorem Inv.stack(I:Inv X pins B H s):s.heap.FunFrames X.base X.stack:=by
 rcases I.ok.stk with e|⟨e,hf⟩
 ·rw[e];exact I.rH
 rw[e];obtain⟨m,hn,_⟩:=I.loc;refine .cons (by rw[I.ok.kind];decide) hf hn ?_ I.rH;exact Heap.get?_none_of_le (P2 I.ok.ς I.ok.above)
theorem Inv.Ad(I:Inv X pins B H s):∀b∈Ϡ X.stack,b∈X.env.locals::X.fs:=λb hb=>by
 rcases I.ok.stk with e|⟨e,hf⟩
 ·rw[e]at hb;exact PC _ hb
 rw[e]at hb;unfold Ϡ at hb;rw[QU,hf]at hb;exact hb
theorem Inv.Cc(I:Inv X pins B H s):∀b∈Ϡ X.stack,H b=Zr:=λb hb=>by
 rcases Py.mp (I.Ad b hb)with e|hb
 ·rw[e];exact I.free
 obtain⟨_,o,ho,_⟩:=I.ok.rH.mem hb;exact I.base.free b o ho (I.ok.frf b hb) λz=>I.ok.Gr b z hb
theorem Inv.step{g':Array WN}{t':Nat}{d':Drawn}{ch:List Sv}(I:Inv X pins B H s)
  (ϲ:∀b∈ch,(b∈X.ex\/X.s₀.heap.objs.size<=b)/\b≠X.env.locals/\(∀x c,X.env.cells.lookup x=Zq c->c≠b)/\∀p∈X.pn++pins,p.1≠b)
  (keep:∀b o,b≠X.env.locals->b∉X.fs->b∉ch->s.heap.get? b=Zq o->H b=Zr->h'.get? b=Zq o)
  (slot:∀b o,b≠X.env.locals->b∈X.fs->b∉ch->s.heap.get? b=Zq o->H b=Zr->∃sl,h'.get? b=Zq { o with slots:=sl }) (free:∀b o,b∉ch->s.heap.get? b=Zq o->H b=Zr->H' b=Zr)
  (there:∀b o,b∉ch->s.heap.get? b=Zq o->∃o',h'.get? b=Zq o')
  (uV:∀b xs,H b=Zq (.tup xs)->H' b=Zq (.tup xs)) (qY:∀b o u,H b=Zq (.ā o u)->H' b=Zq (.ā o u)) (uY:∀b ps,H b=Zq (.ω ps)->∃more,H' b=Zq (.ω (ps++more)))
  (ns:∀m,s.heap.Ns X.env.locals m->h'.Ns X.env.locals m) (È:û X.prog X.w H' h') (hg:VY g') :
  Inv X pins B H' { s with heap:=h',gens:=g',drawn:=d',toks:=t' }:=by
 have neL:∀b o,X.s₀.heap.get? b=Zq o->b≠X.env.locals:=λb o e=>Qf (Qe (SI e) I.ok.above)
 have neC:∀b o,X.s₀.heap.get? b=Zq o->b∉X.ex->b∉ch:=λb o e hx hb=>by
  rcases(ϲ b hb).1 with z|z
  ·exact hx z
  exact absurd (Qe (SI e) z) (QO _)
 have cellK:∀x c,X.env.cells.lookup x=Zq c->∀v,s.heap.IsCell c v->h'.IsCell c v:=λx c e v ⟨o,ho,hd⟩=>by
  have nch:c∉ch:=λz=>(ϲ c z).2.2.1 x c e rfl;by_cases hc:c∈X.fs
  ·obtain⟨sl,q⟩:=slot c o (I.π x c e) hc nch ho (I.kr x c e);exact{_,q,hd}
  exact{o,keep c o (I.π x c e) hc nch ho (I.kr x c e),hd}
 refine{I.ok,I.os,hg,{λb o e n hb hx=>?_,λb o e n hb hx=>?_,λb o e n hx=>?_,λb o e hx=>?_,λb xs e=>uV b xs (I.base.uV b xs e),λb o xs e=>qY b o xs (I.base.qY b o xs e),λb ps e=>?_},?_,λx c e=>?_,?_,λx c e=>?_,λp hp=>?_,È,I.len}
 ·exact keep b o (neL b o e) hb (neC b o e hx) (I.base.keep b o e n hb hx) (I.base.free b o e n hx)
 ·obtain⟨sl,e1⟩:=I.base.slot b o e n hb hx;obtain⟨sl',e2⟩:=slot b _ (neL b o e) hb (neC b o e hx) e1 (I.base.free b o e n hx);exact⟨sl',e2⟩
 ·obtain⟨o',e1⟩:=I.base.there b o e hx;exact free b o' (neC b o e hx) e1 (I.base.free b o e n hx)
 ·obtain⟨o',e1⟩:=I.base.there b o e hx;exact there b o' (neC b o e hx) e1
 ·obtain⟨m1,e1⟩:=I.base.uY b ps e;obtain⟨m2,e2⟩:=uY b _ e1;exact{m1++m2,by rw[e2,Array.append_assoc]}
 ·obtain⟨m,hn,hl⟩:=I.loc;refine{m,ns m hn,λi x v e1 e2 e3=>?_};obtain⟨u,r,l⟩:=hl i x v e1 e2 e3;refine{u,r,?_};rcases l with l|⟨k,c,e,z⟩
  ·exact .inl l
  exact .inr {k,c,e,cellK x c e _ z}
 ·obtain⟨v,z⟩:=I.cell x c e;exact⟨v,cellK x c e v z⟩
 ·obtain⟨m,⟨o,_,_,ho,_⟩,_⟩:=I.loc;exact free _ o (λz=>(ϲ _ z).2.1 rfl) ho I.free
 ·obtain⟨v,o,ho,hd⟩:=I.cell x c e;exact free c o (λz=>(ϲ c z).2.2.1 x c e rfl) ho (I.kr x c e)
 obtain⟨e,n,ne,nf,d⟩:=I.pin p hp
 have nch:p.1∉ch:=λz=>(ϲ p.1 z).2.2.2 p hp rfl
 exact⟨keep p.1 p.2 ne nf nch e n,free p.1 p.2 nch e n,ne,nf,d⟩
theorem Inv.un(I:Inv X pins B H s)(u:Un X.fs [] H H' s.heap h')(È:û X.prog X.w H' h'):Inv X pins B H' { s with heap:=h',toks:=t' }:=by
 obtain⟨m,⟨o,es,ep,ho,r⟩,_⟩:=id I.loc;obtain⟨sl,hL⟩:=u.any ho I.free (by simp);exact I.step (g':=s.gens) (d':=s.drawn) (ch:=[]) (λ_ z=>nomatch z) (λb o _ hb _ e n=>u.keep b o e n hb (by simp)) (λb o _ hb _ e n=>u.slot b o e n hb (by simp)) (λb o _ e n=>u.free b o e n (by simp)) (λb o _ e=>u.there b o e (by simp)) u.uV u.qY u.uY (λm' hm=>by
  obtain⟨o',es',ϣ,Φ,r'⟩:=hm;rw[ho]at Φ;cases Φ;exact{_,es',ϣ,hL,r'}) È I.bare
theorem Inv.call(I:Inv X pins B H s)(u:Un (Ϡ X.stack) ch H H' s.heap h')(È:û X.prog X.w H' h')(hg:VY g')
  (ϲ:∀b∈ch,(b∈X.ex\/X.s₀.heap.objs.size<=b)/\b≠X.env.locals/\(∀x c,X.env.cells.lookup x=Zq c->c≠b)/\∀p∈X.pn++pins,p.1≠b) :
  Inv X pins B H' { s with heap:=h',gens:=g',drawn:=d',toks:=t' }:=by
 obtain⟨m,⟨o,es,ep,ho,r⟩,_⟩:=id I.loc
 obtain⟨sl,hL⟩:=u.any ho I.free λz=>(ϲ _ z).2.1 rfl
 exact I.step (ch:=ch) ϲ (λb o hL hb hc e n=>u.keep b o e n (λz=>(Py.mp (I.Ad b z)).elim hL hb) hc) (λb o _ _ hc e n=>u.any e n hc) (λb o hc e n=>u.free b o e n hc) (λb o hc e=>u.there b o e hc) u.uV u.qY u.uY (λm' hm=>by
  obtain⟨o',es',ϣ,Φ,r'⟩:=hm;rw[ho]at Φ;cases Φ;exact{_,es',ϣ,hL,r'}) È hg
theorem Inv.turned(I:Inv X pins B H s)(k:∀b o,b≠it->s.heap.get? b=Zq o->h'.get? b=Zq o)(hn:H it=Zr)(hL:it≠X.env.locals)
  (h1:it∈X.ex\/X.s₀.heap.objs.size<=it) (h2:∀x c,X.env.cells.lookup x=Zq c->c≠it) (h3:∀p∈X.pn++pins,p.1≠it):Inv X pins B H { s with heap:=h',toks:=t' }:=by
 have nit:∀b u,H b=Zq u->b≠it:=λb u e z=>by rw[z,hn]at e;cases e
 refine I.step (g':=s.gens) (d':=s.drawn) (ch:=[it]) (λb hb=>?_) (λb o _ _ hc e _=>k b o (λz=>hc (by simp[z])) e) (λb o _ _ hc e _=>{o.slots,k b o (λz=>hc (by simp[z])) e}) (λ_ _ _ _ n=>n)
  (λb o hc e=>{o,k b o (λz=>hc (by simp[z])) e}) (λ_ _ e=>e) (λ_ _ _ e=>e) (λb ps e=>{#[],by rw[e];simp}) (λm hm=>?_) (λb u e=>?_) I.bare
 ·have e:b=it:=by simpa using hb
  subst e;exact⟨h1,hL,h2,h3⟩
 ·obtain⟨o,es,ep,ho,r⟩:=hm;exact{o,es,ep,k _ o (P9 hL) ho,r}
 refine(I.È b u e).vd (λc v hc q=>k c v ?_ q) (λ_ q=>q) λ_ _ q=>q
 rcases hc with z|z
 ·rw[z];exact nit b u e
 exact nit c _ z
theorem Inv.tok(I:Inv X pins B H s) (t):Inv X pins B H { s with toks:=t }:=I.un (h':=s.heap) (t':=t) Un.refl I.È
theorem Inv.kept(I:Inv X pins B H s)(k:∀b u,s.heap.get? b=Zq u->h'.get? b=Zq u):Inv X pins B H { s with heap:=h',toks:=t' }:=I.un (Un.kept k) (I.È.kept k)
theorem Inv.laid(I:Inv X pins B H s)(k:∀b u,s.heap.get? b=Zq u->h'.get? b=Zq u)(hp:⇑s<=a)(new:cP X.prog X.w (upd H a o) h' a o) :
  Inv X pins B (upd H a o) { s with heap:=h',toks:=t' }:=I.un (Un.laid k hp (I.È.fresh hp)) (I.È.laid k hp new)
theorem Inv.write(I:Inv X pins B H s)(mu:Mut (H x))(he:e=x\/H e=Zq (.own x))(k:∀b u,b≠e->s.heap.get? b=Zq u->h'.get? b=Zq u)(heo:∃u,h'.get? e=Zq u)
  (new:cP X.prog X.w (upd H x o) h' x o):Inv X pins B (upd H x o) { s with heap:=h',toks:=t' }:=I.un (Un.write mu he k heo) (I.È.write mu he k heo new)
theorem Inv.yv(I:Inv X pins B H s)(h:∀p∈pins',s.heap.get? p.1=Zq p.2/\H p.1=Zr/\p.1≠X.env.locals/\p.1∉X.fs/\∀v,p.2.data≠ .cell v):Inv X pins' B H s:=
 {I.ok,I.os,I.bare,I.base,I.loc,I.cell,I.free,I.kr,λp hp=>(Pz.mp hp).elim (λz=>I.pin p (PY _ z)) (h p),I.È,I.len}
theorem zE{N:List Str}(hN:N.Nodup){i j:Nat}{x:Str}(a:N[i]?=Zq x)(b:N[j]?=Zq x):i=j:=by
 obtain⟨h1,e1⟩:=PQ.mp a;obtain⟨h2,e2⟩:=PQ.mp b;exact(RL hN).mp (e1.trans e2.symm)
theorem Eg(I:Inv X pins B H s)(hN:X.N.Nodup)(hi:X.N[i]?=Zq x)(hx:Loc X.env.scope x)(r:Zv v u)
  (h:∀s',Inv X pins (B.set i (Zq v)) H s'->(∃a,UB a s.heap s'.heap/\(a=X.env.locals\/X.env.cells.lookup x=Zq a))->Q Unit.unit s') (hf:X.fn x=true\/X.env.scope.names.lookup x=Zq .local:=by first|exact .inl rfl|exact .inr rfl|assumption):wpAny M A (Ze X.env x u) Q E s:=by
 obtain⟨m,hn,hl⟩:=id I.loc
 have hcls:(X.env.scope.kind== .class||(X.env.scope.kind== .module&&X.env.locals !=X.env.globals))=false:=by rw[I.ok.kind];rfl
 have hiσ:i<B.length:=by rw[I.len];exact(PQ.mp hi).1
 have π:=I.π
 have tracked:∀{a:Sv}{h':Tb},(∃o,s.heap.get? a=Zq o/\H a=Zr)->UB a s.heap h'->û X.prog X.w H h':=λ{a h'} ha hs b ob e=>by
  obtain⟨_,_,Ł⟩:=ha;refine(I.È b ob e).vd (λc w' hc q=>(hs.2 c ?_).trans q) (λ_ q=>q) λ_ _ q=>q;rintro rfl;rcases hc with rfl|hc
  ·rw[Ł]at e;cases e
  rw[Ł]at hc;cases hc
 rcases hx with hk|hk
 ·refine wpAny_storeName_local hk hn (λh' hn' hs=>?_) hcls;obtain⟨oL,_,_,hoL,_⟩:=id hn;refine h _ {I.ok,I.os,I.bare,{λb o e n hb hx=>?_,λb o e n hb hx=>?_,I.base.free,λb o e hx=>?_,I.base.uV,I.base.qY,I.base.uY},{_,hn',λj y v' e1 e2 e3=>?_},λy c e=>?_,I.free,I.kr,λp hp=>?_,tracked ⟨oL,hoL,I.free⟩ hs,by simpa using I.len} {_,hs,.inl rfl}
  ·exact(hs.2 b (Qf (Qe (SI e) I.ok.above))).trans (I.base.keep b o e n hb hx)
  ·obtain⟨sl,e1⟩:=I.base.slot b o e n hb hx;exact{sl,(hs.2 b (Qf (Qe (SI e) I.ok.above))).trans e1}
  ·obtain⟨o',e1⟩:=I.base.there b o e hx;exact{o',(hs.2 b (Qf (Qe (SI e) I.ok.above))).trans e1}
  ·by_cases hj:j=i
   ·subst hj;rw[hi]at e1;cases e1;rw[RH hiσ]at e2;cases e2;exact{u,r,.inl ⟨hk,by simp⟩}
   rw[WO (P9 hj)]at e2;obtain⟨u',r',q⟩:=hl j y v' e1 e2 e3;refine{u',r',?_};rcases q with⟨k,e⟩|⟨k,c,e,z⟩
   ·refine .inl {k,?_};have:y≠x:=λe=>hj (zE hN e1 (e▸hi));simp[this,e]
   exact .inr {k,c,e,z.sameBut hs (π y c e)}
  ·obtain⟨w',z⟩:=I.cell y c e;exact{w',z.sameBut hs (π y c e)}
  obtain⟨e,n,ne,nf,d⟩:=I.pin p hp;exact{(hs.2 p.1 ne).trans e,n,ne,nf,d}
 have hfn:X.fn x=true:=by
  rcases hf with z|z
  ·exact z
  rw[z]at hk;cases hk
 obtain⟨c,hc⟩:=I.ok.has x (.inl hk)
 obtain⟨w',z⟩:=I.cell x c hc
 refine wpAny_storeName_cell I.ok.kind hk hc z (λh' hc' hs=>?_)
 obtain⟨oc,hoc,hocd⟩:=id z
 refine h { s with heap:=h' } ⟨I.ok,I.os,I.bare,⟨λb o e n hb hx=>?_,λb o e n hb hx=>?_,I.base.free,λb o e hx=>?_,I.base.uV,I.base.qY,I.base.uY⟩,⟨m,hn.sameBut hs (P9 (π x c hc)),λj y v' e1 e2 e3=>?_⟩,λy c' e=>?_,I.free,I.kr,λp hp=>?_,tracked ⟨oc,hoc,I.kr x c hc⟩ hs,by simpa using I.len⟩ ⟨c,hs,.inr hc⟩
 ·exact(hs.2 b (Qf (Qe (SI e) (I.ok.cab x c hfn hc)))).trans (I.base.keep b o e n hb hx)
 ·obtain⟨sl,e1⟩:=I.base.slot b o e n hb hx;exact{sl,(hs.2 b (Qf (Qe (SI e) (I.ok.cab x c hfn hc)))).trans e1}
 ·obtain⟨o',e1⟩:=I.base.there b o e hx;exact{o',(hs.2 b (Qf (Qe (SI e) (I.ok.cab x c hfn hc)))).trans e1}
 ·by_cases hj:j=i
  ·subst hj;rw[hi]at e1;cases e1;rw[RH hiσ]at e2;cases e2;exact{u,r,.inr ⟨.inl hk,c,hc,hc'⟩}
  rw[WO (P9 hj)]at e2;obtain⟨u',r',q⟩:=hl j y v' e1 e2 e3;refine{u',r',?_};rcases q with q|⟨k,c',e,z'⟩
  ·exact .inl q
  refine .inr {k,c',e,z'.sameBut hs ?_};rintro rfl;exact hj (zE hN e1 (I.ok.inj _ _ _ e hc▸hi))
 ·by_cases hcc:c'=c
  ·subst hcc;exact{_,hc'}
  obtain⟨w2,z2⟩:=I.cell y c' e;exact⟨w2,z2.sameBut hs hcc⟩
 obtain⟨e,n,ne,nf,d⟩:=I.pin p hp
 refine{(hs.2 p.1 ?_).trans e,n,ne,nf,d}
 intro q
 rw[q,hoc]at e
 have q':oc=p.2:=SN e
 exact d w' (by rw[<-q'];exact hocd)
theorem tw(I:Inv X pins B H s)(hN:X.N.Nodup)(hi:X.N[i]?=Zq x)(hx:Loc X.env.scope x)(r:Zv v u)
  (h:∀s',Inv X pins (B.set i (Zq v)) H s'->Q Unit.unit s') (hf:X.fn x=true\/X.env.scope.names.lookup x=Zq .local:=by first|exact .inl rfl|exact .inr rfl|assumption):wpAny M A (Ze X.env x u) Q E s:=
 Eg I hN hi hx r (λs' I' _=>h s' I') hf
theorem Inv.MS(I:Inv X pins B H s)(ho:s'.os=s.os)(u:Un (Ϡ X.stack) ch H H' s.heap s'.heap)(È:û X.prog X.w H' s'.heap)(hg:VY s'.gens)
  (ϲ:∀b∈ch,(b∈X.ex\/X.s₀.heap.objs.size<=b)/\b≠X.env.locals/\(∀x c,X.env.cells.lookup x=Zq c->c≠b)/\∀p∈X.pn++pins,p.1≠b):Inv X pins B H' s':=by
 obtain⟨h',g',d',t',o'⟩:=s'
 have e:o'=s.os:=ho
 subst e
 exact I.call (g':=g') (t':=t') (d':=d') u È hg ϲ
end
abbrev XK:=Su->Option Sv->Hp->Prop
abbrev St:=List (Option V)
abbrev VK:=V->Hp->Prop
abbrev TE:=St->Hp->VK->Prop
abbrev TT:=St->Hp->(Bool->Hp->Prop)->Prop
abbrev TA:=St->Hp->(List V->Hp->Prop)->Prop
structure ZK where
 nx:St->Hp->Prop
 rt:VK
 bk:St->Hp->Prop:=λ_ _=>False
 ct:St->Hp->Prop:=λ_ _=>False
abbrev TS:=ZK->St->Hp->Prop
inductive EP(X:Cx)(pins:List (Sv×Obj))(B:St)(Q:VK)(u:Su)(s':Sy):Prop
 |mk (v H') (h0:Inv X pins B H' s') (h1:Zv v u) (h2:Q v H'):EP X pins B Q u s'
inductive TP(X:Cx)(pins:List (Sv×Obj))(B:St)(Q:Bool->Hp->Prop)(b:Bool)(s':Sy):Prop
 |mk (H') (h0:Inv X pins B H' s') (h1:Q b H'):TP X pins B Q b s'
inductive AP(X:Cx)(pins:List (Sv×Obj))(B:St)(Q:List V->Hp->Prop)(us:List Su)(s':Sy):Prop
 |mk (vs H') (h0:Inv X pins B H' s') (h1:Zt vs us) (h2:Q vs H'):AP X pins B Q us s'
inductive NP(X:Cx)(pins:List (Sv×Obj))(q:St->Hp->Prop)(s':Sy):Prop
 |mk (B' H') (h0:Inv X pins B' H' s') (h1:q B' H'):NP X pins q s'
inductive RP(X:Cx)(pins:List (Sv×Obj))(q:VK)(u:Su)(s':Sy):Prop
 |mk (v B' H') (h0:Inv X pins B' H' s') (h1:Zv v u) (h2:q v H'):RP X pins q u s'
def SP(X:Cx)(pins:List (Sv×Obj))(D:ZK)(f:Flow)(s':Sy):Prop:=
 match f with
 | .next=>NP X pins D.nx s'
 | .brk=>NP X pins D.bk s'
 | .cont=>NP X pins D.ct s'
 | .ret u=>RP X pins D.rt u s'
def PE(X:Cx)(e:Expr)(t:TE):Prop:=
 ∀(pins:List (Sv×Obj))(s:Sy)(B:St)(H:Hp)(Q:VK),Inv X pins B H s->t B H Q->wpAny (SK X.prog X.w) X.A (Ts e X.env) (EP X pins B Q) X.xe s
def PT(X:Cx)(e:Expr)(t:TT):Prop:=
 ∀(pins:List (Sv×Obj))(s:Sy)(B:St)(H:Hp)(Q:Bool->Hp->Prop),Inv X pins B H s->t B H Q->wpAny (SK X.prog X.w) X.A (isTrue e X.env (Ts e X.env)) (TP X pins B Q) X.xe s
def PW(X:Cx)(e:Expr)(t:TT):Prop:=
 ∀(whole:Sem Su)(pins:List (Sv×Obj))(s:Sy)(B:St)(H:Hp)(Q:Bool->Hp->Prop),Inv X pins B H s->t B H Q->wpAny (SK X.prog X.w) X.A (isTrue e X.env whole) (TP X pins B Q) X.xe s
theorem PW.pt(h:PW X e t):PT X e t:=h _
def PA(X:Cx)(es:List Expr)(t:TA):Prop:=
 ∀(pos:Pos)(pins:List (Sv×Obj))(s:Sy)(B:St)(H:Hp)(Q:List V->Hp->Prop),Inv X pins B H s->t B H Q->wpAny (SK X.prog X.w) X.A (Zl (TB pos (SG es X.env))) (AP X pins B Q) X.xe s
def PS(X:Cx)(st:S0)(t:TS):Prop:=
 ∀(pins:List (Sv×Obj))(s:Sy)(B:St)(H:Hp)(D:ZK),Inv X pins B H s->t D B H->wpAny (SK X.prog X.w) X.A (exec st X.env) (SP X pins D) X.xe s
def Į(X:Cx)(st:List S0)(t:TS):Prop:=
 ∀(pins:List (Sv×Obj))(s:Sy)(B:St)(H:Hp)(D:ZK),Inv X pins B H s->t D B H->wpAny (SK X.prog X.w) X.A (execs st X.env) (SP X pins D) X.xe s
theorem Ì(h:wpAny M A t Q E s)(hQ:∀a s,Q a s->Q' a s):wpAny M A t Q' E s:=Ui h hQ λ_ _ x=>x
section
variable{X:Cx}
def Ox(i:Nat):TE:=λB H Q=>∃v,B[i]?=Zq (Zq v)/\Q v H
def tC(v:V):TE:=λ_ H Q=>Q v H
theorem Kp(hN:X.N[i]?=Zq x)(hv:Vis X.env.scope x)(hd:(x==("__debug__":Str))=false:=by decide)(Ō:(x==("__classdict__":Str))=false:=by decide):PE X (.Name x pos) (Ox i):=by
 intro pins s B H Q I h;obtain⟨v,e,h⟩:=h;obtain⟨m,hn,hl⟩:=I.loc;obtain⟨u,r,l⟩:=hl i x v hN e hv;have fin:EP X pins B Q u s:=⟨v,H,I,r,h⟩;rcases l with⟨hk,hm⟩|⟨hk,c,hc,Ā⟩
 ·exact YJ (WQ I.ok.kind hk hn hm fin) hd
 rcases hk with hk|hk
 ·exact YJ (Xf I.ok.kind hk hc Ā fin) hd
 exact YJ (wpAny_loadName_free I.ok.kind hk hc Ā fin Ō) hd
theorem af{i j pos}:PE X (.Constant (.int i) j pos) (tC (.int i)):=λ_ _ _ H _ I h=>Xx {.int i,H,I.tok _,{_,rfl},h}
theorem pq{b j pos}:PE X (.Constant (.bool b) j pos) (tC (.bl b)):=λ_ _ _ H _ I h=>Constant_bool ⟨.bl b,H,I,rfl,h⟩
theorem bJ{j pos}:PE X (.Constant .none j pos) (tC .Ê):=λ_ _ _ H _ I h=>Constant_none ⟨.Ê,H,I,rfl,h⟩
theorem aw{x j pos}:PE X (.Constant (.str x) j pos) (tC (.str x)):=λ_ _ _ H _ I h=>Calls.Constant_str {.str x,H,I.tok _,{_,rfl},h}
def Gl(X:Cx)(x:Str):Prop:=X.env.kindOf x=Zq .globalImplicit
theorem pG(I:Inv X pins B H s)(hg:Gl X x)(hm:X.mg x=Zq u)(h:Q u s)
  (hd:(x==("__debug__":Str))=false:=by decide):wpAny (SK X.prog X.w) X.A (Ts (.Name x pos) X.env) Q E s:=
 VL I.ok.kind hg (Calls.loadGlobal_global (by rw[I.ok.glob];exact I.mod.glob.keeps I.bk) hm h) hd
theorem jO(I:Inv X pins B H s)(hg:Gl X x)(hm:X.mg x=Zr)(hv:T6 x=Zq u)(h:Q u s)
  (hn:x≠"__name__":=by decide) (hd:(x==("__debug__":Str))=false:=by decide):wpAny (SK X.prog X.w) X.A (Ts (.Name x pos) X.env) Q E s:=by
 obtain⟨mb,h1,h2⟩:=I.mod.blt
 exact VL I.ok.kind hg (Calls.loadGlobal_builtin (by rw[I.ok.glob];exact I.mod.glob.keeps I.bk) hm (by rw[I.ok.blt];exact h1.keeps I.bk) ((h2 x hn).trans hv) h) hd
theorem C0(hg:Gl X x)(hm:X.mg x=Zq u)(r:Zv v u)(hd:(x==("__debug__":Str))=false:=by decide):PE X (.Name x pos) (tC v):=
 λ_ _ _ H _ I h=>pG I hg hm ⟨v,H,I,r,h⟩ hd
theorem rQ(hg:Gl X x)(hm:X.mg x=Zr)(hv:T6 x=Zq u)(r:Zv v u)(hn:x≠"__name__":=by decide)(hd:(x==("__debug__":Str))=false:=by decide):PE X (.Name x pos) (tC v):=
 λ_ _ _ H _ I h=>jO I hg hm hv ⟨v,H,I,r,h⟩ hn hd
variable{a b:Expr}{ta tb:TE}{pos:Pos}
variable{tA tB':TT}{rest:List Expr}
def OU(t u:TT):TT:=λB H Q=>t B H λc H1=>if c=true then u B H1 Q else Q false H1
def tOr(t u:TT):TT:=λB H Q=>t B H λc H1=>if c=true then Q true H1 else u B H1 Q
def OE(t:TT):TT:=λB H Q=>t B H λc H1=>Q (!c) H1
theorem pw_and1(ha:PT X a tA):PW X (.BoolOp .And [a] pos) tA:=by
 intro wh pins s B H Q I h;refine isTrue_and (Ì (ha pins s B H Q I h) λc s1 e=>?_);cases c with
 |true=>exact isTrue_and_nil e
 |false=>exact e
theorem pw_or1(ha:PT X a tA):PW X (.BoolOp .Or [a] pos) tA:=by
 intro wh pins s B H Q I h;refine isTrue_or (Ì (ha pins s B H Q I h) λc s1 e=>?_);cases c with
 |false=>exact isTrue_or_nil e
 |true=>exact e
theorem pw_and(ha:PT X a tA)(hb:PW X (.BoolOp .And (b::rest) pos) tB'):PW X (.BoolOp .And (a::b::rest) pos) (OU tA tB'):=by
 intro wh pins s B H Q I h;refine isTrue_and (Ì (ha pins s B H _ I h) λc s1 z9=>?_);obtain⟨H1,I1,q1⟩:=z9;cases c with
 |true=>exact hb wh pins s1 B H1 Q I1 q1
 |false=>exact⟨H1,I1,q1⟩
theorem pw_or(ha:PT X a tA)(hb:PW X (.BoolOp .Or (b::rest) pos) tB'):PW X (.BoolOp .Or (a::b::rest) pos) (tOr tA tB'):=by
 intro wh pins s B H Q I h;refine isTrue_or (Ì (ha pins s B H _ I h) λc s1 z9=>?_);obtain⟨H1,I1,q1⟩:=z9;cases c with
 |true=>exact⟨H1,I1,q1⟩
 |false=>exact hb wh pins s1 B H1 Q I1 q1
theorem tQ(ha:PT X a tA):PT X (.UnaryOp .Not a pos) (OE tA):=by
 intro pins s B H Q I h;exact isTrue_not (Ì (ha pins s B H (λc H1=>Q (!c) H1) I h) λc s1 ⟨H1,I1,q1⟩=>⟨H1,I1,q1⟩)
def OZ(ta tb:TE):TE:=λB H Q=>ta B H λx H1=>∃c,x=.bl c/\if c=true then Q (.bl true) H1 else tb B H1 Q
theorem LZ{op}(h:PE X a t):PE X (.BoolOp op [a] pos) t:=λpins s B H Q I hw=>BoolOp_one (h pins s B H Q I hw)
theorem GN(ha:PE X a ta)(hb:PE X (.BoolOp .Or (b::rest) pos) tb):PE X (.BoolOp .Or (a::b::rest) pos) (OZ ta tb):=by
 intro pins s B H Q I h;refine BoolOp_or (Ì (ha pins s B H _ I h) λv s1 z9=>?_);obtain⟨x,H1,I1,r1,q1⟩:=z9;obtain⟨c,rfl,q1⟩:=q1;cases r1;refine VZ ?_;cases c with
 |false=>exact hb pins s1 B H1 Q I1 q1
 |true=>exact⟨.bl true,H1,I1,rfl,q1⟩
def tIf(t:TT)(ta tb:TE):TE:=λB H Q=>t B H λc H1=>if c=true then ta B H1 Q else tb B H1 Q
theorem GW(hc:PT X c tA)(ha:PE X a ta)(hb:PE X b tb):PE X (.IfExp c a b pos) (tIf tA ta tb):=by
 intro pins s B H Q I h;refine wpAny_IfExp (Ì (hc pins s B H _ I h) λd s1 z9=>?_);obtain⟨H1,I1,q1⟩:=z9;cases d with
 |true=>exact ha pins s1 B H1 Q I1 q1
 |false=>exact hb pins s1 B H1 Q I1 q1
end
def À(K:SE)(H:Hp)(a:Sv)(xs:List V):Prop:=
 Rd H a (.lst xs)\/
  ∃(o:Obj)(Â:Array Su)(n:Nat),K.lookup a=Zq o/\o.cls=.type "list"/\o.dict=Zr/\o.data=.seq Â n/\Â.size<=sizeLine/\Zt xs Â.toList
def Ç(K:SE)(H:Hp)(a:Sv)(xs:List V):Prop:=
 Rd H a (.tup xs)\/
  ∃(o:Obj)(Â:Array Su)(n:Nat),K.lookup a=Zq o/\o.cls=.type "tuple"/\o.data=.seq Â n/\Â.size<=sizeLine/\Zt xs Â.toList
def O8:Su->Option V
 | .none=>Zq .Ê
 | .bool b=>Zq (.bl b)
 | .int i _=>Zq (.int i)
 | .str x _=>Zq (.str x)
 | .bytes b _=>Zq (.ĺ b)
 | .float b _=>Zq (.μ b)
 | .ref a=>Zq (.ref a)
 | .type n=>Zq (.ty n)
 |_=>Zr
theorem Zv.abs(r:Zv x u):O8 u=Zq x:=by
 cases x with
 |Ê=>cases r;rfl
 |bl _=>cases r;rfl
 |int _=>obtain⟨t,rfl⟩:=r;rfl
 |str _=>obtain⟨t,rfl⟩:=r;rfl
 |ĺ _=>obtain⟨t,rfl⟩:=r;rfl
 |μ _=>obtain⟨t,rfl⟩:=r;rfl
 |ref _=>cases r;rfl
 |ty _=>cases r;rfl
theorem Zv.inj(r:Zv x u)(q:Zv y u):x=y:=SN (r.abs.symm.trans q.abs)
theorem Zt.inj:∀{xs ys:List V}{us:List Su},Zt xs us->Zt ys us->xs=ys:=by
 intro xs ys us h;induction h generalizing ys with
 |nil=>intro g;cases g;rfl
 |cons r _ ih=>intro g;cases g with
  |cons r' t'=>rw[r.inj r',ih t']
section
variable{X:Cx}{pins:List (Sv×Obj)}{B:St}{H:Hp}{s:Sy}{a:Sv}{xs ys:List V}
theorem À.of{K}(h:H a=Zq (.lst xs)):À K H a xs:=.inl (.inl h)
theorem Ç.of{K}(h:H a=Zq (.tup xs)):Ç K H a xs:=.inl (.inl h)
theorem Inv.list(I:Inv X pins B H s)(h:À X.K H a xs):∃Â,Zt xs Â/\PlainL s.heap a Â.toArray/\↥xs<=sizeLine:=by
 rcases h with h|⟨o,Â,n,hk,hc,hd,hs,hz,r⟩
 ·obtain⟨z,Â,n,r,e⟩:=h.ok I.È;exact{Â,r,{_,n,e,rfl,rfl,rfl},z}
 refine{Â.toList,r,⟨o,n,I.ü a o hk,hc,hd,by simpa using hs⟩,?_};have e:=↥r;simp only[Qn]at e;lia
theorem Inv.tuple(I:Inv X pins B H s)(h:Ç X.K H a xs):∃Â,Zt xs Â/\IsTup s.heap a Â.toArray/\↥xs<=sizeLine:=by
 rcases h with h|⟨o,Â,n,hk,hc,hs,hz,r⟩
 ·obtain⟨z,Â,r,p⟩:=h.ok I.È;exact⟨Â,r,p,z⟩
 refine{Â.toList,r,⟨o,I.ü a o hk,hc,n,by simpa using hs⟩,?_};have e:=↥r;simp only[Qn]at e;lia
theorem Inv.uK(I:Inv X pins B H s)(h:À X.K H a xs)(h':À X.K H a ys):xs=ys:=by
 obtain⟨Â,r,⟨o,n,e,_,_,d⟩,_⟩:=I.list h;obtain⟨its',r',⟨o',n',e',_,_,d'⟩,_⟩:=I.list h';rw[e]at e';cases e';rw[d]at d';injection d' with d1 _;have:Â=its':=by simpa using congrArg Array.toList d1
 subst this;exact r.inj r'
theorem Inv.DA(I:Inv X pins B H s)(h:Ç X.K H a xs)(h':Ç X.K H a ys):xs=ys:=by
 obtain⟨Â,r,⟨o,e,_,n,d⟩,_⟩:=I.tuple h;obtain⟨its',r',⟨o',e',_,n',d'⟩,_⟩:=I.tuple h';rw[e]at e';cases e';rw[d]at d';injection d' with d1 _;have:Â=its':=by simpa using congrArg Array.toList d1
 subst this;exact r.inj r'
end
abbrev Cx.vn(X:Cx)(E:Su->Sy->Prop):Cx:={ X with xe:=E }
abbrev Cx.Ϭ(X:Cx):Cx:=X.vn λ_ _=>False
theorem Cx.Ok.vn{X:Cx}(ok:X.Ok)(E:Su->Sy->Prop):(X.vn E).Ok:=
 ⟨ok.mod,ok.kind,ok.glob,ok.blt,ok.above,ok.inj,ok.has,ok.cab,ok.hd,ok.frames,ok.stk,ok.exf,ok.bs,ok.ς,ok.ED,ok.Gr,ok.rH,ok.frf⟩
theorem Cx.Ok.ng{X:Cx}{E:Su->Sy->Prop}(ok:(X.vn E).Ok):X.Ok:=
 ⟨ok.mod,ok.kind,ok.glob,ok.blt,ok.above,ok.inj,ok.has,ok.cab,ok.hd,ok.frames,ok.stk,ok.exf,ok.bs,ok.ς,ok.ED,ok.Gr,ok.rH,ok.frf⟩
section
variable{X:Cx}{pins:List (Sv×Obj)}{B:St}{H:Hp}{s:Sy}{E:Su->Sy->Prop}
theorem Inv.vn(I:Inv X pins B H s) (E):Inv (X.vn E) pins B H s:=⟨I.ok.vn E,I.os,I.bare,I.base,I.loc,I.cell,I.free,I.kr,I.pin,I.È,I.len⟩
theorem Inv.ng(I:Inv (X.vn E) pins B H s):Inv X pins B H s:=⟨I.ok.ng,I.os,I.bare,I.base,I.loc,I.cell,I.free,I.kr,I.pin,I.È,I.len⟩
theorem SP.ng(h:SP (X.vn E) pins D f s'):SP X pins D f s':=by
 cases f with
 |next=>obtain⟨B',H',I,q⟩:=h;exact⟨B',H',I.ng,q⟩
 |brk=>obtain⟨B',H',I,q⟩:=h;exact⟨B',H',I.ng,q⟩
 |cont=>obtain⟨B',H',I,q⟩:=h;exact⟨B',H',I.ng,q⟩
 |ret u=>obtain⟨v,B',H',I,r,q⟩:=h;exact⟨v,B',H',I.ng,r,q⟩
theorem Į.Ϭ{st t}(h:Į X.Ϭ st t):Į X st t:=λpins s B H D I hw=>
 Ui (h pins s B H D (I.vn _) hw) (λ_ _ q=>q.ng) λ_ _ z=>TK z
end
section
variable{X:Cx}{st:S0}{rest:List S0}{t u:TS}{e:Expr}{te:TE}{pos:Pos}
def NH:TS:=λD B H=>D.nx B H
def NW(t u:TS):TS:=λD B H=>t { D with nx:=u D } B H
theorem aF:Į X [] NH:=λ_ _ B H _ I h=>Vy ⟨B,H,I,h⟩
theorem ab(h1:PS X st t)(h2:Į X rest u):Į X (st::rest) (NW t u):=by
 intro pins s B H D I h;refine Yg (Ì (h1 pins s B H { D with nx:=u D } I h) λf s1 q=>?_);cases f with
 |next=>
  obtain⟨B',H',I',q⟩:=q;exact h2 pins s1 B' H' D I' q
 |ret v=>exact q
 |brk=>exact q
 |cont=>exact q
theorem ai(h1:PS X st t):Į X [st] t:=by
 intro pins s B H D I h;refine Yg (Ì (h1 pins s B H D I h) λf s1 q=>?_);cases f with
 |next=>exact Vy q
 |ret v=>exact q
 |brk=>exact q
 |cont=>exact q
theorem Inv.quiet(I:Inv X pins B H s):interactive X.env=false:=by simp[interactive,I.ok.kind]
def MY(te:TE):TS:=λD B H=>te B H λ_ H1=>D.nx B H1
theorem aR(he:PE X e te)(hs:W9 e Zr pos.line X.env=pure false:=by rfl):PS X (.Expr e pos) (MY te):=by
 intro pins s B H D I h;exact wpAny_Expr_any (Ì (he pins s B H _ I h) λv s1 ⟨x,H1,I1,r1,q1⟩=>⟨B,H1,I1,q1⟩) I.quiet hs
def OQ(te:TE):TS:=λD B H=>te B H D.rt
theorem aD(he:PE X e te):PS X (.Return (Zq e) pos) (OQ te):=by
 intro pins s B H D I h;exact wpAny_Return_some (Ì (he pins s B H _ I h) λv s1 ⟨x,H1,I1,r1,q1⟩=>⟨x,B,H1,I1,r1,q1⟩)
def Pf(c:TT)(t u:TS):TS:=λD B H=>c B H λb H1=>if b=true then t D B H1 else u D B H1
theorem aS(hc:PT X c tc)(ha:Į X a t)(hb:Į X b u):PS X (.If c a b pos) (Pf tc t u):=by
 intro pins s B H D I h;refine wpAny_If (Ì (hc pins s B H _ I h) λd s1 z9=>?_);obtain⟨H1,I1,q1⟩:=z9;cases d with
 |true=>exact ha pins s1 B H1 D I1 q1
 |false=>exact hb pins s1 B H1 D I1 q1
end
abbrev TG:=V->St->Hp->(St->Hp->Prop)->Prop
abbrev TGs:=List V->St->Hp->(St->Hp->Prop)->Prop
def PG(X:Cx)(target:Expr)(t:TG):Prop:=
 ∀(pins:List (Sv×Obj))(s:Sy)(B:St)(H:Hp)(v:V)(u:Su)(Q:St->Hp->Prop),Inv X pins B H s->Zv v u->t v B H Q->
  wpAny (SK X.prog X.w) X.A (assign target X.env u) (λ_ s'=>NP X pins Q s') X.xe s
def PGs(X:Cx)(ts:List Expr)(t:TGs):Prop:=
 ∀(pins:List (Sv×Obj))(s:Sy)(B:St)(H:Hp)(vs:List V)(us:List Su)(Q:St->Hp->Prop),Inv X pins B H s->Zt vs us->t vs B H Q->
  wpAny (SK X.prog X.w) X.A (assignInOrder ((VM ts X.env).map (·.2)) us) (λ_ s'=>NP X pins Q s') X.xe s
abbrev KZ:=V->V->V->Hp->(Hp->Prop)->Prop
def Fh(X:Cx)(t:KZ):Prop:=
 ∀(pins:List (Sv×Obj))(s:Sy)(B:St)(H:Hp)(o i v:V)(ov iv u:Su)(Q:Hp->Prop),Inv X pins B H s->Zv o ov->Zv i iv->Zv v u->t o i v H Q->
  wpAny (SK X.prog X.w) X.A (setItem ov iv u) (λ_ s'=>∃H',Inv X pins B H' s'/\Q H') X.xe s
abbrev TIp:=V->V->Hp->VK->Prop
def PIp(X:Cx)(op:Operator)(t:TIp):Prop:=
 ∀(pins:List (Sv×Obj))(s:Sy)(B:St)(H:Hp)(x y:V)(v u:Su)(Q:VK),Inv X pins B H s->Zv x v->Zv y u->t x y H Q->
  wpAny (SK X.prog X.w) X.A (inplaceOp op v u) (EP X pins B Q) X.xe s
section
variable{X:Cx}{pos:Pos}
def pM(i:Nat):TG:=λv B H Q=>Q (B.set i (Zq v)) H
theorem CD(hN:X.N.Nodup)(hi:X.N[i]?=Zq x)(hx:Loc X.env.scope x)(hf:X.fn x=true\/X.env.scope.names.lookup x=Zq .local:=by first|exact .inl rfl|exact .inr rfl|assumption):PG X (.Name x pos) (pM i):=by
 intro pins s B H v u Q I r h;exact wpAny_assign_Name (tw I hN hi hx r (λs' I'=>{_,H,I',h}) hf)
def OS:TGs:=λvs B H Q=>vs=[]/\Q B H
def NZ(t:TG)(u:TGs):TGs:=λvs B H Q=>∃v r,vs=v::r/\t v B H λB' H'=>u r B' H' Q
theorem cu:PGs X [] OS:=by
 intro pins s B H vs us Q I r h;obtain⟨e,h⟩:=h;subst e;cases r;exact assignInOrder_nil ⟨B,H,I,h⟩
theorem aK(h1:PG X e t)(h2:PGs X es u)
  (hs:(VM (e::es) X.env).map (·.2)=assign e X.env::(VM es X.env).map (·.2):=by rfl):PGs X (e::es) (NZ t u):=by
 intro pins s B H vs us Q I r h
 obtain⟨v,vr,e1,h⟩:=h
 subst e1
 cases r with
 |cons r rr=>
  rw[hs]
  refine assignInOrder_cons (Ì (h1 pins s B H _ _ _ I r h) λ_ s1 z9=>?_);obtain⟨σ1,H1,I1,q1⟩:=z9
  exact h2 pins s1 σ1 H1 _ _ Q I1 rr q1
inductive NJ(K:SE)(n:Nat)(v:V)(H:Hp)(R:List V->Prop):Prop
 |mk (a xs) (h0:v=.ref a) (h1:Ç K H a xs) (h2:↥xs=n) (q:R xs):NJ K n v H R
def Pb(K:SE)(n:Nat)(t:TGs):TG:=λv B H Q=>NJ K n v H (λxs=>t xs B H Q)
theorem dg(hc:X.calm=true)(h:PGs X es t)
  (hn:(VM es X.env).length=n:=by rfl) (hst:(VM es X.env).findIdx? (·.1)=Zr:=by rfl):PG X (.Tuple es k pos) (Pb X.K n t):=by
 intro pins s B H v u Q I r hw
 obtain⟨a,xs,e1,hq,hl,hw⟩:=hw
 subst e1
 cases r
 obtain⟨Â,rv,ht,hz⟩:=I.tuple hq
 refine assign_Tuple_tuple (I.ok.hd hc) ht (by simp[hn,<-hl,↥rv]) hst λh' hx=>?_
 have I1:Inv X pins B H { s with heap:=h' }:=I.kept (t':=s.toks) λb o e=>hx b o (Qf (SI e)) e
 exact h pins _ B H xs _ Q I1 (by simpa using rv) hw
def Oq(to ti:TE)(t:KZ):TG:=λv B H Q=>to B H λo H1=>ti B H1 λi H2=>t o i v H2 λH3=>Q B H3
theorem fV(ho:PE X o to)(hi:PE X i ti)(hs:Fh X t)
  (ha:∀v,assign (.Subscript o i pos) X.env v=(do
   let ov<-VF [v] (Ts o X.env)
   let iv<-VF [v,ov] (Ts i X.env)
   X0 pos
   VF [v,ov,iv] (setItem ov iv v)
   release [v,ov,iv] []):=by intro _;rfl):PG X (.Subscript o i pos) (Oq to ti t):=by
 intro pins s B H v u Q I r h
 rw[ha]
 refine E9 (wpAny_holding (Ì (ho pins s B H _ I h) λov s1 z9=>?_));obtain⟨x,H1,I1,r1,q1⟩:=z9
 refine E9 (wpAny_holding (Ì (hi pins s1 B H1 _ I1 q1) λiv s2 z9=>?_));obtain⟨y,H2,I2,r2,q2⟩:=z9
 refine E9 (V3 (E9 (wpAny_holding (Ì (hs pins s2 B H2 x y v ov iv u _ I2 r1 r2 r q2) λ_ s3 z9=>?_))));obtain⟨H3,I3,q3⟩:=z9
 exact wpAny_release ⟨B,H3,I3,q3⟩
def Jc(te:TE)(g:TG):TS:=λD B H=>te B H λx H1=>g x B H1 D.nx
theorem bX(he:PE X e te)(hg:PG X tg g)(hs:swapsWithSole [tg] e pos.line X.env=pure false:=by rfl)(hw:swappedStores [tg] e X.env=pure Zr:=by rfl)
  (h1:(VM [tg] X.env).map (·.2)=[assign tg X.env]:=by rfl):PS X (.Assign [tg] e pos) (Jc te g):=by
 intro pins s B H D I h
 refine wpAny_Assign_stores (Ì (he pins s B H _ I h) λv s1 ⟨x,H1,I1,r1,q1⟩=>?_) hs hw
 rw[h1]
 exact Ì (hg pins s1 B H1 x v _ I1 r1 q1) λ_ s2 q=>q
theorem LW(hN:X.N.Nodup)(hi:X.N[i]?=Zq x)(hx:Loc X.env.scope x)(he:PE X e te)(hs:W9 e (Zq (.Name x pos')) pos.line X.env=pure false:=by rfl)(hf:X.fn x=true\/X.env.scope.names.lookup x=Zq .local:=by first|exact .inl rfl|exact .inr rfl|assumption) :
  PS X (.Assign [.Name x pos'] e pos) (Jc te (pM i)):=by
 intro pins s B H D I h
 refine wpAny_Assign_Name (Ì (he pins s B H _ I h) λv s1 ⟨y,H1,I1,r1,q1⟩=>?_) hs
 exact tw I1 hN hi hx r1 (λs2 I2=>{_,H1,I2,q1}) hf
def OO(i:Nat)(te:TE)(ti:TIp):TS:=λD B H=>∃x,B[i]?=Zq (Zq x)/\te B H λy H1=>ti x y H1 λz H2=>D.nx (B.set i (Zq z)) H2
theorem GU(hN:X.N.Nodup)(hi:X.N[i]?=Zq x)(hx:Loc X.env.scope x)(he:PE X e te)(ho:PIp X op ti)(hf:X.fn x=true\/X.env.scope.names.lookup x=Zq .local:=by first|exact .inl rfl|exact .inr rfl|assumption) :
  PS X (.AugAssign (.Name x pos') op e pos) (OO i te ti):=by
 intro pins s B H D I h
 obtain⟨v,e1,h⟩:=h
 obtain⟨m,hn,hl⟩:=I.loc
 have vis:Vis X.env.scope x:=by rcases hx with k|k;exact .inl k;exact .inr (.inl k)
 obtain⟨u,r,l⟩:=hl i x v hi e1 vis
 refine wpAny_AugAssign_Name ?_
 have go:wpAny (SK X.prog X.w) X.A (Ts e X.env) (λw s₂=>wpAny (SK X.prog X.w) X.A (inplaceOp op u w) (λr s₃=>wpAny (SK X.prog X.w) X.A (Ze X.env x r) (λ_=>SP X pins D .next) X.xe s₃) X.xe s₂) X.xe s:=by
  refine Ì (he pins s B H _ I h) λw s1 z9=>?_;obtain⟨y,H1,I1,r1,q1⟩:=z9;refine Ì (ho pins s1 B H1 v y u w _ I1 r r1 q1) λz s2 z9=>?_;obtain⟨zv,H2,I2,r2,q2⟩:=z9;exact tw I2 hN hi hx r2 (λs3 I3=>{_,H2,I3,q2}) hf
 rcases l with⟨hk,hm⟩|⟨hk,c,hc,Ā⟩
 ·exact WQ I.ok.kind hk hn hm go
 rcases hk with hk|hk
 ·exact Xf I.ok.kind hk hc Ā go
 rcases hx with k|k
 ·have:X.env.scope.names.lookup x=Zq .free:=hk;rw[k]at this;cases this
 have:X.env.scope.names.lookup x=Zq .free:=hk
 rw[k]at this;cases this
def ipI(f:Int->Int->Int):TIp:=λx y H Q=>∃i j,x=.int i/\y=.int j/\Q (.int (f i j)) H
theorem FE:PIp X .Add (ipI λi j=>i+j):=by
 intro pins s B H x y v u Q I r1 r2 h;obtain⟨i,j,e1,e2,q⟩:=h;subst e1;subst e2;obtain⟨t,rfl⟩:=r1;obtain⟨t',rfl⟩:=r2;exact iadd_int {.int _,H,I.tok _,{_,rfl},q}
def Lc(c:TT)(tb:TS):TS:=λD B H=>∃W:Nat->St->Hp->Prop,(∃m,W m B H)/\∀m B H,W m B H->
 c B H λb H1=>if b=true then ∃N:St->Hp->Prop,(∀B' H',N B' H'->∃m',m'<m/\W m' B' H')/\tb { D with nx:=N,ct:=N,bk:=D.nx } B H1 else D.nx B H1
theorem fC(hp:Zf (SK X.prog X.w) X.A X.env X.xe)(hc:PT X c tc)(hb:Į X body tb):PS X (.While c body [] pos) (Lc tc tb):=by
 intro pins s B H D I h;obtain⟨W,⟨m0,w0⟩,turn⟩:=h;refine wpAny_While (codeAny_whileLoop (λn s'=>NP X pins (W n) s') ?_ m0 ⟨B,H,I,w0⟩);rintro n s1 ⟨σ1,H1,I1,w1⟩;refine Uo hp (Ì (hc pins s1 σ1 H1 _ I1 (turn n σ1 H1 w1)) λb s2 z9=>?_);obtain⟨H2,I2,q2⟩:=z9;cases b with
 |true=>
  obtain⟨N,hN,q2⟩:=q2;rw[if_pos rfl];refine Uo hp (Ì (hb pins s2 σ1 H2 _ I2 q2) λf s3 q3=>?_);cases f with
  |next=>
   obtain⟨σ3,H3,I3,n3⟩:=q3;obtain⟨m',hm,w3⟩:=hN σ3 H3 n3;exact⟨m',hm,σ3,H3,I3,w3⟩
  |cont=>
   obtain⟨σ3,H3,I3,n3⟩:=q3;obtain⟨m',hm,w3⟩:=hN σ3 H3 n3;exact⟨m',hm,σ3,H3,I3,w3⟩
  |brk=>exact q3
  |ret v=>exact q3
 |false=>
  rw[if_neg PU];exact Vy ⟨σ1,H2,I2,q2⟩
end
structure It where
 go:Nat->Hp->Prop
 š:Nat->Hp->V->Hp->Prop
 stop:Nat->Hp->Prop
def sV(X:Cx)(pins:List (Sv×Obj))(H:Hp)(b:Sv):Prop:=
 H b=Zr/\b≠X.env.locals/\b∉X.fs/\(b∈X.ex\/X.s₀.heap.objs.size<=b)/\(∀x c,X.env.cells.lookup x=Zq c->c≠b)/\∀p∈X.pn++pins,p.1≠b
theorem Inv.sv(I:Inv X pins B H s)(hb:⇑s<=b)(hn:H' b=Zr):sV X pins H' b:=by
 refine{hn,QV (Qe I.lt hb),I.Nj hb,.inr (P2 I.sz hb),λx c e z=>?_,λp hp z=>?_}
 ·obtain⟨v,q⟩:=I.cell x c e;exact absurd (Qe q.lt (by rw[z];exact hb)) (QO _)
 exact absurd (Qe (SI (I.pin p hp).1) (by rw[z];exact hb)) (QO _)
structure ZM(P:Program)(w:SM)(K:SE)(tg:Expr)(J:It)(fp:List Sv)(it:Sv)(tn:Nat->Tb->Prop):Prop where
 mem:it∈fp
 obj:∀i h,tn i h->∀b∈fp,∃o,h.get? b=Zq o/\∀v,o.data≠ .cell v
 keep:∀i h h',tn i h->(∀b∈fp,∀o,h.get? b=Zq o->h'.get? b=Zq o)->tn i h'
 item:∀(X:Cx),X.prog=P->X.w=w->X.K=K->X.calm=true->∀(i:Nat)(pins:List (Sv×Obj))(s:Sy)(B:St)(H:Hp)(E:Su->Sy->Prop),Inv X pins B H s->(∀b∈fp,sV X pins H b)->tn i s.heap->J.go i H->
  wpAny (SK P w) X.A (WS (.ref it)) (λr s1=>∃u,r=Zq u/\
   wpAny (SK P w) X.A (Vz tg (.ref it) u) (λ_ s2=>∃x H',Inv X pins B H' s2/\Zv x u/\J.š i H x H'/\tn (i+1) s2.heap/\∀b∈fp,H' b=Zr) E s1) E s
 done:∀(X:Cx),X.prog=P->X.w=w->X.K=K->X.calm=true->∀(i:Nat)(pins:List (Sv×Obj))(s:Sy)(B:St)(H:Hp)(E:Su->Sy->Prop),Inv X pins B H s->(∀b∈fp,sV X pins H b)->tn i s.heap->J.stop i H->
  wpAny (SK P w) X.A (WS (.ref it)) (λr s1=>r=Zr/\Inv X pins B H s1) E s
 self:∀(A:Td)(i:Nat)(s:Sy)(Q:Su->Sy->Prop)(E:Su->Sy->Prop),tn i s.heap->Q (.ref it) s->wpAny (SK P w) A (Zm (.ref it)) Q E s
abbrev TI:=St->Hp->(It->Hp->Prop)->Prop
def PIE(X:Cx)(pins:List (Sv×Obj))(B:St)(tg:Expr)(R:It->Hp->Prop)(itv:Su)(s2:Sy):Prop:=
 ∃(it:Sv)(fp:List Sv)(tn:Nat->Tb->Prop)(J:It)(H':Hp),itv=.ref it/\Inv X pins B H' s2/\ZM X.prog X.w X.K tg J fp it tn/\tn 0 s2.heap/\(∀b∈fp,sV X pins H' b)/\R J H'
def PI(X:Cx)(tg iter:Expr)(wi:TI):Prop:=
 ∀(pins:List (Sv×Obj))(s:Sy)(B:St)(H:Hp)(R:It->Hp->Prop),Inv X pins B H s->wi B H R->
  wpAny (SK X.prog X.w) X.A (Ts iter X.env) (λv s1=>wpAny (SK X.prog X.w) X.A (Zm v) (PIE X pins B tg R) X.xe s1) X.xe s
theorem wt(ho:s.heap.get? it=Zq o)(hc:o.cls=.type n)(hd:o.data=.fields vs)
    (hn:["enumerate","zip","dict_itemiterator","dict_reverseitemiterator","odict_iterator","itertools.zip_longest","itertools.pairwise"].contains n=false) (hQ:Q Unit.unit s):wpAny M A (Vz tg (.ref it) u) Q E s:=by
  unfold Vz
  cases tg<;>first
    |exact Sw hQ
    | (cases u<;>first
        |exact Sw hQ
        | (refine E9 (Xy ho ?_)
           rw[hc,hd]
           show wpAny M A (if(["enumerate","zip","dict_itemiterator","dict_reverseitemiterator","odict_iterator","itertools.zip_longest","itertools.pairwise"].contains n&&vs[0]?==Zq (Wn _))=true then _ else _) Q E s
           rw[if_neg (by intro h;rw[hn,RW]at h;cases h)]
           exact Sw hQ))
def Itl(K:SE)(a:Sv):It:=
 {λi H=>∃xs x,À K H a xs/\xs[i]?=Zq x,λi H x H'=>H'=H/\∀xs,À K H a xs->xs[i]?=Zq x,λi H=>∃xs,À K H a xs/\↥xs<=i}
def Itt(K:SE)(a:Sv):It:=
 {λi H=>∃xs x,Ç K H a xs/\xs[i]?=Zq x,λi H x H'=>H'=H/\∀xs,Ç K H a xs->xs[i]?=Zq x,λi H=>∃xs,Ç K H a xs/\↥xs<=i}
def Itr(lo:Int)(n:Nat):It:={λi _=>i<n,λi H x H'=>H'=H/\x=.int (lo+i),λi _=>n<=i}
theorem DE{P:Program}{w:SM}{K:SE}{tg:Expr}(a it:Sv):ZM P w K tg (Itl K a) [it] it (λi h=>h.IsListIter it a i) where
 mem:=by simp
 obj:=λi h st b hb=>by
  have e:b=it:=by simpa using hb
  subst e;obtain⟨o,e,c,d⟩:=st;exact{o,e,λv z=>by rw[d]at z;cases z}
 keep:=λi h h' st k=>st.at λo e=>k it (by simp) o e
 item:=by
  intro X hP hw hK hc i pins s B H E I hf st hg;subst hP hw hK;obtain⟨xs,x,hq,hx⟩:=hg;obtain⟨Â,rv,p,hz⟩:=I.list hq;obtain⟨u,hu,ru⟩:=rv.get hx;obtain⟨f0,f1,f2,f3,f4,f5⟩:=hf it (by simp);refine Wo st p.isList (x:=u) (by simpa using hu) λh' Å sb=>?_;have I1:Inv X pins B H { s with heap:=h' }:=I.turned (t':=s.toks) (λb o hb e=>(sb.2 b hb).trans e) f0 f1 f3 f4 f5;obtain⟨o,e,c,d⟩:=id Å;exact{u,rfl,wt (s:={ s with heap:=h' }) e c d ∅ ⟨x,H,I1,ru,⟨rfl,λys hy=>by rw[I.uK hy hq];exact hx⟩,Å,λb hb=>(hf b hb).1⟩}
 done:=by
  intro X hP hw hK hc i pins s B H E I hf st hg;subst hP hw hK;obtain⟨xs,hq,hx⟩:=hg;obtain⟨Â,rv,p,hz⟩:=I.list hq;obtain⟨f0,f1,f2,f3,f4,f5⟩:=hf it (by simp);have hl:=↥rv;exact WG (I.ok.hd hc) st p.isList (by simp;lia) λh' eb=>{rfl,I.turned (t':=s.toks) (λb o hb e=>eb b o hb e) f0 f1 f3 f4 f5}
 self:=λ_ _ _ _ _ st h=>wpAny_pyIter_listiter st h
theorem AN{P:Program}{w:SM}{K:SE}{tg:Expr}(a it:Sv):ZM P w K tg (Itt K a) [it] it (λi h=>h.IsTupleIter it a i) where
 mem:=by simp
 obj:=λi h st b hb=>by
  have e:b=it:=by simpa using hb
  subst e;obtain⟨o,e,c,d⟩:=st;exact{o,e,λv z=>by rw[d]at z;cases z}
 keep:=λi h h' st k=>st.at λo e=>k it (by simp) o e
 item:=by
  intro X hP hw hK hc i pins s B H E I hf st hg;subst hP hw hK;obtain⟨xs,x,hq,hx⟩:=hg;obtain⟨Â,rv,p,hz⟩:=I.tuple hq;obtain⟨u,hu,ru⟩:=rv.get hx;obtain⟨f0,f1,f2,f3,f4,f5⟩:=hf it (by simp);refine wpAny_pyNext_tuple_item st (show s.heap.IsTuple a Â.toArray from p) (x:=u) (by simpa using hu) λh' Å sb=>?_;have I1:Inv X pins B H { s with heap:=h' }:=I.turned (t':=s.toks) (λb o hb e=>(sb.2 b hb).trans e) f0 f1 f3 f4 f5;obtain⟨o,e,c,d⟩:=id Å;exact{u,rfl,wt (s:={ s with heap:=h' }) e c d ∅ ⟨x,H,I1,ru,⟨rfl,λys hy=>by rw[I.DA hy hq];exact hx⟩,Å,λb hb=>(hf b hb).1⟩}
 done:=by
  intro X hP hw hK hc i pins s B H E I hf st hg;subst hP hw hK;obtain⟨xs,hq,hx⟩:=hg;obtain⟨Â,rv,p,hz⟩:=I.tuple hq;obtain⟨f0,f1,f2,f3,f4,f5⟩:=hf it (by simp);have hl:=↥rv;exact wpAny_pyNext_tuple_end (I.ok.hd hc) st (show s.heap.IsTuple a Â.toArray from p) (by simp;lia) λh' eb=>{rfl,I.turned (t':=s.toks) (λb o hb e=>eb b o hb e) f0 f1 f3 f4 f5}
 self:=λ_ _ _ _ _ st h=>wpAny_pyIter_tupleiter st h
theorem AH{P:Program}{w:SM}{K:UR}{tg:Expr}(it:Sv)(lo:Int)(n:Nat):ZM P w K tg (Itr lo n) [it] it (λi h=>WT h it (lo+(i:Nat)*1) ((n:Int)-(i:Nat)) 1) where
 mem:=by simp
 obj:=λi h st b hb=>by
  have e:b=it:=by simpa using hb
  subst e;exact⟨_,st,λv z=>by
   have z':Yt _=Xa v:=z;cases z'⟩
 keep:=λi h h' st k=>k it (by simp) _ st
 item:=by
  intro X hP hw hK hc i pins s B H E I hf st hg;subst hP hw hK;obtain⟨f0,f1,f2,f3,f4,f5⟩:=hf it (by simp);have W:=Walks.range (prog:=X.prog) (w:=X.w) (I.ok.hd hc) it lo 1 n;refine W.item i s _ _ hg st λv h' tk hv Å kk=>?_;obtain⟨t,rfl⟩:=hv;have I1:Inv X pins B H { s with heap:=h',toks:=tk }:=I.turned (λb o hb e=>kk b o (by simpa using hb) e) f0 f1 f3 f4 f5;refine⟨_,rfl,wt (s:={ s with heap:=h',toks:=tk }) (n:="range_iterator") Å rfl rfl ∅ ⟨.int (lo+i),H,I1,⟨t,?_⟩,⟨rfl,rfl⟩,Å,λb hb=>(hf b hb).1⟩⟩;rw[Int.mul_one]
 done:=by
  intro X hP hw hK hc i pins s B H E I hf st hg;subst hP hw hK;obtain⟨f0,f1,f2,f3,f4,f5⟩:=hf it (by simp);exact Wq (I.ok.hd hc) st (by have:n<=i:=hg;lia) λh' eb=>{rfl,I.turned (t':=s.toks) (λb o hb e=>eb b o hb e) f0 f1 f3 f4 f5}
 self:=λ_ _ _ _ _ st h=>Wr st h
section
variable{X:Cx}{tg:Expr}
theorem Gs{pins B H s R E lo hi t u v tk}(I:Inv X pins B H s)(h1:-(2^62)<=lo)(h2:lo<2^62)(h3:-(2^62)<=hi)(h4:hi<2^62)
  (q:R (Itr lo (hi-lo).toNat) H):wpAny (SK X.prog X.w) X.A (Zm (.ref ⇑s)) (PIE X pins B tg R) E { s with heap:=s.heap.push { cls:=.type "range",data:=.fields #[.int lo t,.int hi u,.int 1 v] },toks:=tk }:=by
 refine Xz (IsRange.new ..) (small_one h1 h2 h3 h4) ?_
 have I1:Inv X pins B H { s with heap:=s.heap.push { cls:=.type "range",data:=.fields #[.int lo t,.int hi u,.int 1 v] },toks:=tk }:=I.kept λb o e=>Sx _ e
 refine⟨(s.heap.push { cls:=.type "range",data:=.fields #[.int lo t,.int hi u,.int 1 v] }).objs.size,[(s.heap.push { cls:=.type "range",data:=.fields #[.int lo t,.int hi u,.int 1 v] }).objs.size],_,_,H,rfl,
  I1.kept (t':=tk) λb o e=>Sx _ e,AH _ lo (hi-lo).toNat,?_,λb hb=>?_,q⟩
 ·have e1:lo+((0:Nat):Int)*1=lo:=by simp
  have e2:(((hi-lo).toNat:Nat):Int)-((0:Nat):Int)=Tt lo hi 1:=by rw[rangeSize_one];split<;>lia
  show WT _ _ (lo+((0:Nat):Int)*1) ((((hi-lo).toNat:Nat):Int)-((0:Nat):Int)) 1;rw[e1,e2];exact SJ _ rfl
 have e:b=(s.heap.push { cls:=.type "range",data:=.fields #[.int lo t,.int hi u,.int 1 v] }).objs.size:=by simpa using hb
 subst e
 exact I1.sv (Px _) (I1.È.fresh (Px _))
inductive NO(vs:List V)(H:Hp)(R:It->Hp->Prop):Prop
 |mk (j) (h0:vs=[.int j]) (h1:-(2^62)<=j) (h2:j<2^62) (q:R (Itr 0 j.toNat) H):NO vs H R
def M7(ta:TA):TI:=λB H R=>ta B H λvs H1=>NO vs H1 R
theorem cY(hg:Gl X "range")(hm:X.mg "range"=Zr)(ha:PA X [a] ta)(hs:SG [a] X.env=[(false,Ts a X.env)]:=by rfl):PI X tg (.Call (.Name "range" p) [a] [] pos) (M7 ta):=by
 intro pins s B H R I h;refine Call_ (jO I hg hm boot_range (TR (Ì (ha pos pins s B H _ I h) λus s1 ⟨vs,H1,I1,r1,q1⟩=>?_) hs rfl));obtain⟨j,e,q1,q2,q⟩:=q1;subst e;cases r1 with
 |cons r rr=>
  cases rr;obtain⟨t,rfl⟩:=r;exact call_range_1 (Gs I1 () () q1 q2 (by simpa using q))
def Pk(wi:TI)(g:TG)(tb:TS):TS:=λD B H=>wi B H λJ H1=>∃W:Nat->Nat->St->Hp->Prop,(∃m,W 0 m B H1)/\∀i m B H,W i m B H->
 (J.stop i H/\D.nx B H)\/(J.go i H/\∃N:St->Hp->Prop,(∀B' H',N B' H'->∃m',m'<m/\W (i+1) m' B' H')/\∀x H',J.š i H x H'->g x B H' λσ2 H2=>tb { D with nx:=N,ct:=N,bk:=D.nx } σ2 H2)
def uM(fp:List Sv)(h:Tb):List (Sv×Obj):=fp.filterMap λb=>(h.get? b).map λo=>(b,o)
theorem kI(hb:b∈fp)(e:h.get? b=Zq o):(b,o)∈uM fp h:=List.mem_filterMap.mpr {b,hb,by rw[e];rfl}
theorem Dv(hp:p∈uM fp h):p.1∈fp/\h.get? p.1=Zq p.2:=by
 obtain⟨b,hb,e⟩:=List.mem_filterMap.mp hp;cases q:h.get? b with
 |none=>rw[q]at e;cases e
 |some o=>
  rw[q]at e;have e':(b,o)=p:=SN e;subst e';exact⟨hb,q⟩
theorem Inv.pinned(I:Inv X pins B H s)(hf:∀b∈fp,sV X pins H b)(ho:∀b∈fp,∃o,s.heap.get? b=Zq o/\∀v,o.data≠ .cell v):Inv X (pins++uM fp s.heap) B H s:=
 I.yv λp hp=>(Pz.mp hp).elim (λz=>I.pin p (PX _ z)) λz=>by
  obtain⟨hb,e⟩:=Dv z;obtain⟨f0,f1,f2,_⟩:=hf p.1 hb;obtain⟨o,e',d⟩:=ho p.1 hb;rw[e]at e';cases e';exact⟨e,f0,f1,f2,d⟩
theorem Inv.mN(I:Inv X (pins++pl) B H s):Inv X pins B H s:=I.yv λp hp=>I.pin p (PX _ (PY _ hp))
theorem bY(hp:Zf (SK X.prog X.w) X.A X.env X.xe)(hc:X.calm=true)(hi:PI X tg iter wi)(hg:PG X tg g)(hb:Į X body tb)
  (hs:∀x,foldedSetIterable iter X.env x=pure x:=by intro _;rfl):PS X (.For tg iter body [] pos) (Pk wi g tb):=by
 intro pins s B H D I h
 refine wpAny_For (Ì (hi pins s B H _ I h) λv s1 h1=>Ì h1 λitv s2 h2=>?_) hs
 obtain⟨it,fp,tn,J,H2,e,I2,T,Ŋ,f2,W,⟨m0,w0⟩,turn⟩:=h2
 subst e
 have ŕ:∀{H':Hp},(∀b∈fp,H' b=Zr)->∀b∈fp,sV X pins H' b:=λhn b hb=>{hn b hb,(f2 b hb).2}
 refine codeAny_forLoop_any (λn s'=>∃i B' H',Inv X pins B' H' s'/\tn i s'.heap/\(∀b∈fp,H' b=Zr)/\W i n B' H') ?_ m0 {0,B,H2,I2,Ŋ,λb hb=>(f2 b hb).1,w0}
 rintro n s3 ⟨i,σ3,H3,I3,st3,fr3,w3⟩
 rcases turn i n σ3 H3 w3 with⟨stop,qn⟩|⟨go,N,hN,step⟩
 ·refine Uo hp (Ì (T.done X rfl rfl rfl hc i pins s3 σ3 H3 X.xe I3 (ŕ fr3) st3 stop) λr s4 z9=>?_);obtain⟨hr,I4⟩:=z9;subst hr;exact Vy ⟨σ3,H3,I4,qn⟩
 refine Uo hp (Ì (T.item X rfl rfl rfl hc i pins s3 σ3 H3 X.xe I3 (ŕ fr3) st3 go) λr s4 z9=>?_);obtain⟨u,hr,h4⟩:=z9
 subst hr
 refine Uo hp (Ì h4 λ_ s5 z9=>?_);obtain⟨x,H5,I5,r5,y5,st5,ϡ⟩:=z9
 have I5':=I5.pinned (ŕ ϡ) (T.obj _ _ st5)
 refine Uo hp (Ì (hg _ s5 σ3 H5 x u _ I5' r5 (step x H5 y5)) λ_ s6 z9=>?_);obtain⟨σ6,H6,I6,q6⟩:=z9
 refine Uo hp (Ì (hb _ s6 σ6 H6 _ I6 q6) λf s7 q7=>?_)
 have again:∀{σ7:St}{H7:Hp},Inv X (pins++uM fp s5.heap) σ7 H7 s7->N σ7 H7->∃m,m<n/\∃i B' H',Inv X pins B' H' s7/\tn i s7.heap/\(∀b∈fp,H' b=Zr)/\W i m B' H':=λ{σ7 H7} I7 n7=>by
  obtain⟨m',hm,w7⟩:=hN σ7 H7 n7;refine{m',hm,i+1,σ7,H7,I7.mN,T.keep _ _ _ st5 λb hb o e=>(I7.pin (b,o) (PX _ (PX _ (kI hb e)))).1,λb hb=>?_,w7};obtain⟨o,e,d⟩:=T.obj _ _ st5 b hb;exact(I7.pin (b,o) (PX _ (PX _ (kI hb e)))).2.1
 cases f with
 |next=>obtain⟨σ7,H7,I7,n7⟩:=q7;exact again I7 n7
 |cont=>obtain⟨σ7,H7,I7,n7⟩:=q7;exact again I7 n7
 |brk=>obtain⟨σ7,H7,I7,q7⟩:=q7;exact⟨σ7,H7,I7.mN,q7⟩
 |ret v=>obtain⟨x7,σ7,H7,I7,r7,q7⟩:=q7;exact⟨x7,σ7,H7,I7.mN,r7,q7⟩
end
theorem b4{K:UR}{a:Sv}{xs:List V}{g:TG}{tb:TS}{D:ZK}{B:St}{H:Hp}(Pv:Nat->St->Hp->Prop)(h0:Pv 0 B H)(hl:∀i B H,i<=↥xs->Pv i B H->À K H a xs)
  (hs:∀i x B H,xs[i]?=Zq x->Pv i B H->g x B H λσ2 H2=>tb { D with nx:=Pv (i+1),ct:=Pv (i+1),bk:=D.nx } σ2 H2) (hd:∀B H,Pv ↥xs B H->D.nx B H) :
  ∃W:Nat->Nat->St->Hp->Prop,(∃m,W 0 m B H)/\∀i m B H,W i m B H->
   ((Itl K a).stop i H/\D.nx B H)\/((Itl K a).go i H/\∃N,(∀B' H',N B' H'->∃m',m'<m/\W (i+1) m' B' H')/\∀x H',(Itl K a).š i H x H'->g x B H' λσ2 H2=>tb { D with nx:=N,ct:=N,bk:=D.nx } σ2 H2):=by
 refine{λi m B H=>m=↥xs-i/\i<=↥xs/\Pv i B H,{↥xs,by simp,PZ _,h0},?_}
 rintro i m B H ⟨rfl,hi,p⟩
 have q:=hl i B H hi p
 by_cases Ý:i<↥xs
 ·refine .inr {{xs,xs[i],q,by simp[Ý]},Pv (i+1),λB' H' p'=>{↥xs-(i+1),(),rfl,Ý,p'},λx H' y=>?_};obtain⟨e,y⟩:=y;subst e;exact hs i x B _ (y xs q) p
 have e:i=↥xs:=()
 subst e
 exact .inl {{xs,q,Px _},hd B H p}
theorem Ir{K:UR}{a:Sv}{xs:List V}{g:TG}{tb:TS}{D:ZK}{B:St}{H:Hp}(Pv:Nat->St->Hp->Prop)(h0:Pv 0 B H)(hl:∀i B H,i<=↥xs->Pv i B H->Ç K H a xs)
  (hs:∀i x B H,xs[i]?=Zq x->Pv i B H->g x B H λσ2 H2=>tb { D with nx:=Pv (i+1),ct:=Pv (i+1),bk:=D.nx } σ2 H2) (hd:∀B H,Pv ↥xs B H->D.nx B H) :
  ∃W:Nat->Nat->St->Hp->Prop,(∃m,W 0 m B H)/\∀i m B H,W i m B H->
   ((Itt K a).stop i H/\D.nx B H)\/((Itt K a).go i H/\∃N,(∀B' H',N B' H'->∃m',m'<m/\W (i+1) m' B' H')/\∀x H',(Itt K a).š i H x H'->g x B H' λσ2 H2=>tb { D with nx:=N,ct:=N,bk:=D.nx } σ2 H2):=by
 refine{λi m B H=>m=↥xs-i/\i<=↥xs/\Pv i B H,{↥xs,by simp,PZ _,h0},?_}
 rintro i m B H ⟨rfl,hi,p⟩
 have q:=hl i B H hi p
 by_cases Ý:i<↥xs
 ·refine .inr {{xs,xs[i],q,by simp[Ý]},Pv (i+1),λB' H' p'=>{↥xs-(i+1),(),rfl,Ý,p'},λx H' y=>?_};obtain⟨e,y⟩:=y;subst e;exact hs i x B _ (y xs q) p
 have e:i=↥xs:=()
 subst e
 exact .inl {{xs,q,Px _},hd B H p}
theorem hX{lo:Int}{n:Nat}{g:TG}{tb:TS}{D:ZK}{B:St}{H:Hp}(Pv:Nat->St->Hp->Prop)(h0:Pv 0 B H)
  (hs:∀i B H,i<n->Pv i B H->g (.int (lo+i)) B H λσ2 H2=>tb { D with nx:=Pv (i+1),ct:=Pv (i+1),bk:=D.nx } σ2 H2) (hd:∀B H,Pv n B H->D.nx B H) :
  ∃W:Nat->Nat->St->Hp->Prop,(∃m,W 0 m B H)/\∀i m B H,W i m B H->
   ((Itr lo n).stop i H/\D.nx B H)\/((Itr lo n).go i H/\∃N,(∀B' H',N B' H'->∃m',m'<m/\W (i+1) m' B' H')/\∀x H',(Itr lo n).š i H x H'->g x B H' λσ2 H2=>tb { D with nx:=N,ct:=N,bk:=D.nx } σ2 H2):=by
 refine{λi m B H=>m=n-i/\i<=n/\Pv i B H,{n,by simp,PZ _,h0},?_}
 rintro i m B H ⟨rfl,hi,p⟩
 by_cases Ý:i<n
 ·refine .inr {Ý,Pv (i+1),λB' H' p'=>{n-(i+1),(),rfl,Ý,p'},λx H' y=>?_};obtain⟨e,y⟩:=y;subst e y;exact hs i B _ Ý p
 have e:i=n:=()
 subst e
 exact .inl {Px _,hd B H p}
abbrev R2:=V->V->Hp->VK->Prop
def Ó(X:Cx)(f:Su->Su->Sem Su)(r:R2):Prop:=
 ∀(pins:List (Sv×Obj))(s:Sy)(B:St)(H:Hp)(x y:V)(v u:Su)(Q:VK),Inv X pins B H s->Zv x v->Zv y u->r x y H Q->
  wpAny (SK X.prog X.w) X.A (f v u) (EP X pins B Q) X.xe s
def UnR(X:Cx)(f:Su->Sem Su)(r:V->Hp->VK->Prop):Prop:=
 ∀(pins:List (Sv×Obj))(s:Sy)(B:St)(H:Hp)(x:V)(v:Su)(Q:VK),Inv X pins B H s->Zv x v->r x H Q->
  wpAny (SK X.prog X.w) X.A (f v) (EP X pins B Q) X.xe s
def dY(X:Cx)(f:Su)(r:List V->Hp->VK->Prop):Prop:=
 ∀(pins:List (Sv×Obj))(s:Sy)(B:St)(H:Hp)(xs:List V)(us:List Su)(Q:VK),Inv X pins B H s->Zt xs us->r xs H Q->
  wpAny (SK X.prog X.w) X.A (call f us) (EP X pins B Q) X.xe s
def Ow(X:Cx)(r:V->Hp->(Bool->Hp->Prop)->Prop):Prop:=
 ∀(pins:List (Sv×Obj))(s:Sy)(B:St)(H:Hp)(x:V)(v:Su)(Q:Bool->Hp->Prop),Inv X pins B H s->Zv x v->r x H Q->
  wpAny (SK X.prog X.w) X.A (truthy v) (TP X pins B Q) X.xe s
def tOp(r:R2)(ta tb:TE):TE:=λB H Q=>ta B H λx H1=>tb B H1 λy H2=>r x y H2 Q
def tUn(r:V->Hp->VK->Prop)(ta:TE):TE:=λB H Q=>ta B H λx H1=>r x H1 Q
def rI(C:Int->Int->Prop)(g:Int->Int->V):R2:=λx y H Q=>∃i j,x=.int i/\y=.int j/\C i j/\Q (g i j) H
def Η(g:Int->Int->V):R2:=λx y H Q=>∃i j,x=.int i/\y=.int j/\Q (g i j) H
def rU(g:Int->V):V->Hp->VK->Prop:=λx H Q=>∃i,x=.int i/\Q (g i) H
section
variable{X:Cx}{a b c:Expr}{ta tb tc:TE}{pos:Pos}
theorem LN(ha:PE X a ta)(hb:PE X b tb){B H}{R:V->V->Hp->Prop}(I:Inv X pins B H s)
  (h:ta B H λx H1=>tb B H1 λy H2=>R x y H2) {Q}{f:Su->Su->Sem Su}
  (hf:∀v u s2 x y H2,Inv X pins B H2 s2->Zv x v->Zv y u->R x y H2->wpAny (SK X.prog X.w) X.A (f v u) Q X.xe s2) :
  wpAny (SK X.prog X.w) X.A (Ts a X.env) (λv s₁=>wpAny (SK X.prog X.w) X.A (Ts b X.env) (λu s₂=>wpAny (SK X.prog X.w) X.A (f v u) Q X.xe s₂) X.xe s₁) X.xe s:=by
 refine Ì (ha pins s B H _ I h) λv s1 z9=>?_;obtain⟨x,H1,I1,r1,q1⟩:=z9
 refine Ì (hb pins s1 B H1 _ I1 q1) λu s2 z9=>?_;obtain⟨y,H2,I2,r2,q2⟩:=z9
 exact hf v u s2 x y H2 I2 r1 r2 q2
theorem az(ho:Ó X (TX op) r)(ha:PE X a ta)(hb:PE X b tb):PE X (.BinOp a op b pos) (tOp r ta tb):=by
 intro pins s B H Q I h;exact wpAny_BinOp (LN ha hb I h λv u s2 x y H2 I2 rx ry q=>ho pins s2 B H2 x y v u Q I2 rx ry q)
theorem mE(ho:UnR X (unaryOp op) r)(ha:PE X a ta):PE X (.UnaryOp op a pos) (tUn r ta):=by
 intro pins s B H Q I h;exact UnaryOp_ (Ì (ha pins s B H _ I h) λv s1 ⟨x,H1,I1,r1,q1⟩=>ho pins s1 B H1 x v Q I1 r1 q1)
theorem opI{f:Su->Su->Sem Su}{C}{g:Int->Int->Int}
  (rule:∀i j t u s Q E,C i j->Q (.int (g i j) s.toks) { s with toks:=s.toks+1 }->wpAny (SK X.prog X.w) X.A (f (.int i t) (.int j u)) Q E s) :
  Ó X f (rI C λi j=>.int (g i j)):=by
 intro pins s B H x y v u Q I rx ry h
 obtain⟨i,j,rfl,rfl,hc,q⟩:=h
 obtain⟨t,rfl⟩:=rx
 obtain⟨t',rfl⟩:=ry
 exact rule i j t t' s _ _ hc {.int (g i j),H,I.tok _,{_,rfl},q}
theorem Lh{f:Su->Su->Sem Su}{g:Int->Int->Int}
  (rule:∀i j t u s Q E,Q (.int (g i j) s.toks) { s with toks:=s.toks+1 }->wpAny (SK X.prog X.w) X.A (f (.int i t) (.int j u)) Q E s) :
  Ó X f (Η λi j=>.int (g i j)):=by
 intro pins s B H x y v u Q I rx ry h
 obtain⟨i,j,rfl,rfl,q⟩:=h
 obtain⟨t,rfl⟩:=rx
 obtain⟨t',rfl⟩:=ry
 exact rule i j t t' s _ _ {.int (g i j),H,I.tok _,{_,rfl},q}
theorem Kj{f:Su->Su->Sem Su}{g:Int->Int->Bool}
  (rule:∀i j t u s Q E,Q (.bool (g i j)) s->wpAny (SK X.prog X.w) X.A (f (.int i t) (.int j u)) Q E s) :
  Ó X f (Η λi j=>.bl (g i j)):=by
 intro pins s B H x y v u Q I rx ry h
 obtain⟨i,j,rfl,rfl,q⟩:=h
 obtain⟨t,rfl⟩:=rx
 obtain⟨t',rfl⟩:=ry
 exact rule i j t t' s _ _ {.bl (g i j),H,I,rfl,q}
def Ft(i j:Int):Prop:=0<=j/\j<=1000000/\i.natAbs<2^64
def AU(i j:Int):Prop:=(-(2^64)<i/\i<2^64)\/(-(2^64)<j/\j<2^64)
theorem AU.ok(h:AU i j):IntMulOk i j:=by
 rcases h with⟨h1,h2⟩|⟨h1,h2⟩
 ·exact .of_left (intBits_le_64 h1 h2)
 exact .of_right (intBits_le_64 h1 h2)
theorem Me:Ó X (TX .Add) (Η λi j=>.int (i+j)):=Lh λ_ _ _ _ _ _ _ q=>add_int q
theorem Ml:Ó X (TX .Sub) (Η λi j=>.int (i-j)):=Lh λ_ _ _ _ _ _ _ q=>sub_int q
theorem KH:Ó X (TX .Mult) (rI AU λi j=>.int (i*j)):=opI λ_ _ _ _ _ _ _ hc q=>mul_int q hc.ok
theorem LG:Ó X (TX .Mod) (rI (λ_ j=>0<j) λi j=>.int (i%j)):=opI λi j _ _ _ _ _ hc q=>by
 have h1:(0:Int)<j:=hc;exact mod_int' () (by rw[Int.fmod_eq_emod_of_nonneg i ()];exact q)
theorem Mp:Ó X (TX .Pow) (rI Ft λi j=>.int (i^j.toNat)):=opI λ_ _ _ _ _ _ _ hc q=>pow_int_small hc.1 hc.2.1 hc.2.2 q
theorem L6:Ó X (TX .LShift) (rI Ft λi j=>.int (i*2^j.toNat)):=opI λ_ _ _ _ _ _ _ hc q=>lshift_int_small hc.1 hc.2.1 hc.2.2 q
theorem M5:Ó X (TX .BitOr) (Η λi j=>.int (Tv i j)):=Lh λ_ _ _ _ _ _ _ q=>or_int q
theorem unI{f:Su->Sem Su}{g:Int->Int}
  (rule:∀i t s Q E,Q (.int (g i) s.toks) { s with toks:=s.toks+1 }->wpAny (SK X.prog X.w) X.A (f (.int i t)) Q E s) :
  UnR X f (rU λi=>.int (g i)):=by
 intro pins s B H x v Q I rx h
 obtain⟨i,rfl,q⟩:=h
 obtain⟨t,rfl⟩:=rx
 exact rule i t s _ _ {.int (g i),H,I.tok _,{_,rfl},q}
theorem ik:UnR X (unaryOp .USub) (rU λi=>.int (-i)):=unI λ_ _ _ _ _ q=>neg_int q
def Ec:V->V->Bool
 | .Ê,.Ê=>true| .Ê,.int _=>true| .int _,.Ê=>true| .Ê,.bl _=>true| .bl _,.Ê=>true| .Ê,.str _=>true| .str _,.Ê=>true
 | .int _,.int _=>true| .bl _,.bl _=>true| .str _,.str _=>true| .ĺ _,.ĺ _=>true
 | .int _,.str _=>true| .str _,.int _=>true| .bl _,.str _=>true| .str _,.bl _=>true
 |_,_=>false
def rEq:R2:=λx y H Q=>Ec x y=true/\Q (.bl (decide (x=y))) H
def rNe:R2:=λx y H Q=>Ec x y=true/\Q (.bl (!decide (x=y))) H
theorem B9:decide (V.int i=V.int j)=(i==j):=by
 rw[Q8];simp
theorem Gm:decide (V.bl i=V.bl j)=(i==j):=by
 rw[Q8];simp
theorem CW:decide (V.str i=V.str j)=(i==j):=by
 rw[Q8];simp
theorem Cw:decide (V.ĺ i=V.ĺ j)=(i.toList==j.toList):=by
 rw[Q8];cases i;cases j;simp
theorem bA(I:Inv X pins B H s)(q:Q (.bl k) H)(e:k=k'):EP X pins B Q (.bool k') s:=by
 subst e;exact⟨.bl k,H,I,rfl,q⟩
theorem N5:Ó X (SW .Eq) rEq:=by
 intro pins s B H x y v u Q I rx ry h;obtain⟨hs,q⟩:=h;cases x with
 |Ê=>
  cases rx;cases y with
  |Ê=>cases ry;exact PySem.EqNone.eq_none_none (bA I q (by simp))
  |bl j=>cases ry;exact PySem.EqNone.eq_none_bool (bA I q (by simp))
  |int j=>obtain⟨t',rfl⟩:=ry;exact PySem.EqNone.eq_none_int (bA I q (by simp))
  |str j=>obtain⟨t',rfl⟩:=ry;exact PySem.EqNone.eq_none_str (bA I q (by simp))
  |_=>exact absurd (show false=true from hs) PU
 |bl i=>
  cases rx;cases y with
  |Ê=>cases ry;exact PySem.EqNone.eq_bool_none (bA I q (by simp))
  |bl j=>cases ry;exact eq_bool (bA I q Gm)
  |str j=>obtain⟨t',rfl⟩:=ry;exact PySem.EqMixed.eq_bool_str (bA I q (by simp))
  |_=>exact absurd (show false=true from hs) PU
 |int i=>
  obtain⟨t,rfl⟩:=rx;cases y with
  |Ê=>cases ry;exact PySem.EqNone.eq_int_none (bA I q (by simp))
  |int j=>obtain⟨t',rfl⟩:=ry;exact eq_int (bA I q B9)
  |str j=>obtain⟨t',rfl⟩:=ry;exact PySem.EqMixed.eq_int_str (bA I q (by simp))
  |_=>exact absurd (show false=true from hs) PU
 |str i=>
  obtain⟨t,rfl⟩:=rx;cases y with
  |Ê=>cases ry;exact PySem.EqNone.eq_str_none (bA I q (by simp))
  |bl j=>cases ry;exact PySem.EqMixed.eq_str_bool (bA I q (by simp))
  |int j=>obtain⟨t',rfl⟩:=ry;exact PySem.EqMixed.eq_str_int (bA I q (by simp))
  |str j=>obtain⟨t',rfl⟩:=ry;exact eq_str (bA I q CW)
  |_=>exact absurd (show false=true from hs) PU
 |ĺ i=>
  obtain⟨t,rfl⟩:=rx;cases y with
  |ĺ j=>obtain⟨t',rfl⟩:=ry;exact W.eq_bytes (bA I q Cw)
  |_=>exact absurd (show false=true from hs) PU
 |_=>cases y<;>exact absurd (show false=true from hs) PU
theorem NU:Ó X (SW .NotEq) rNe:=by
 intro pins s B H x y v u Q I rx ry h;obtain⟨hs,q⟩:=h;cases x with
 |Ê=>
  cases rx;cases y with
  |Ê=>cases ry;exact PySem.EqNone.ne_none_none (bA I q (by simp))
  |bl j=>cases ry;exact PySem.EqNone.ne_none_bool (bA I q (by simp))
  |int j=>obtain⟨t',rfl⟩:=ry;exact PySem.EqNone.ne_none_int (bA I q (by simp))
  |str j=>obtain⟨t',rfl⟩:=ry;exact PySem.EqNone.ne_none_str (bA I q (by simp))
  |_=>exact absurd (show false=true from hs) PU
 |bl i=>
  cases rx;cases y with
  |Ê=>cases ry;exact PySem.EqNone.ne_bool_none (bA I q (by simp))
  |bl j=>cases ry;exact ne_bool (bA I q (congrArg not Gm))
  |str j=>obtain⟨t',rfl⟩:=ry;exact PySem.EqMixed.ne_bool_str (bA I q (by simp))
  |_=>exact absurd (show false=true from hs) PU
 |int i=>
  obtain⟨t,rfl⟩:=rx;cases y with
  |Ê=>cases ry;exact PySem.EqNone.ne_int_none (bA I q (by simp))
  |int j=>obtain⟨t',rfl⟩:=ry;exact ne_int (bA I q (congrArg not B9))
  |str j=>obtain⟨t',rfl⟩:=ry;exact PySem.EqMixed.ne_int_str (bA I q (by simp))
  |_=>exact absurd (show false=true from hs) PU
 |str i=>
  obtain⟨t,rfl⟩:=rx;cases y with
  |Ê=>cases ry;exact PySem.EqNone.ne_str_none (bA I q (by simp))
  |bl j=>cases ry;exact PySem.EqMixed.ne_str_bool (bA I q (by simp))
  |int j=>obtain⟨t',rfl⟩:=ry;exact PySem.EqMixed.ne_str_int (bA I q (by simp))
  |str j=>obtain⟨t',rfl⟩:=ry;exact ne_str (bA I q (congrArg not CW))
  |_=>exact absurd (show false=true from hs) PU
 |ĺ i=>
  obtain⟨t,rfl⟩:=rx;cases y with
  |ĺ j=>obtain⟨t',rfl⟩:=ry;exact W.ne_bytes (bA I q (congrArg not Cw))
  |_=>exact absurd (show false=true from hs) PU
 |_=>cases y<;>exact absurd (show false=true from hs) PU
theorem Nm:Ó X (SW .Lt) (Η λi j=>.bl (decide (i<j))):=Kj λ_ _ _ _ _ _ _ q=>lt_int q
theorem Nz:Ó X (SW .Gt) (Η λi j=>.bl (decide (j<i))):=Kj λ_ _ _ _ _ _ _ q=>gt_int q
theorem Oj:Ó X (SW .GtE) (Η λi j=>.bl (decide (j<=i))):=Kj λ_ _ _ _ _ _ _ q=>ge_int q
theorem DF:Ó X (SW .In) (λx y H Q=>∃i j,x=.str i/\y=.str j/\Q (.bl (!(TL j i 0 ↥j 1).isEmpty)) H):=by
 intro pins s B H x y v u Q I rx ry h;obtain⟨i,j,rfl,rfl,q⟩:=h;obtain⟨t,rfl⟩:=rx;obtain⟨t',rfl⟩:=ry;exact in_str (bA I q rfl)
theorem K0:Ó X (SW .Is) (λx y H Q=>y=.Ê/\Q (.bl (decide (x=.Ê))) H):=by
 intro pins s B H x y v u Q I rx ry h;obtain⟨rfl,q⟩:=h;cases ry;refine is_none_gen (bA I q ?_);cases x<;>first
  | (cases rx;rfl)
  | (obtain⟨t,rfl⟩:=rx;rfl)
theorem Ie:Ó X (SW .IsNot) (λx y H Q=>y=.Ê/\Q (.bl (!decide (x=.Ê))) H):=by
 intro pins s B H x y v u Q I rx ry h;obtain⟨rfl,q⟩:=h;cases ry;refine isnot_none_gen (bA I q ?_);cases x<;>first
  | (cases rx;rfl)
  | (obtain⟨t,rfl⟩:=rx;rfl)
theorem Ó.or(h:Ó X f r)(h':Ó X f r'):Ó X f (λx y H Q=>r x y H Q\/r' x y H Q):=by
 intro pins s B H x y v u Q I rx ry q;rcases q with q|q
 ·exact h pins s B H x y v u Q I rx ry q
 exact h' pins s B H x y v u Q I rx ry q
theorem Ej (b) (h:op≠ .In:=by decide) (h2:op≠ .NotIn:=by decide):U3 op b=false:=by
 have e1:(op==CmpOp.In)=false:=by cases op<;>first|rfl|exact absurd rfl h
 have e2:(op==CmpOp.NotIn)=false:=by cases op<;>first|rfl|exact absurd rfl h2
 cases b<;>simp[U3,e1,e2]
theorem IJ(ho:Ó X (SW op) r)(ha:PE X a ta)(hb:PE X b tb)(hm:U3 op b=false):PE X (.Compare a [op] [b] pos) (tOp r ta tb):=by
 intro pins s B H Q I h;exact wpAny_Compare1 (LN ha hb I h λv u s2 x y H2 I2 rx ry q=>ho pins s2 B H2 x y v u Q I2 rx ry q) hm
inductive blI(x:V)(H:Hp)(Q:Bool->Hp->Prop):Prop
 |mk (k) (h:x=.bl k) (q:Q k H):blI x H Q
def Kc(t:TE):TT:=λB H Q=>t B H λx H'=>blI x H' Q
theorem II(ho:Ó X (SW op) r)(ha:PE X a ta)(hb:PE X b tb)(hm:U3 op b=false):PT X (.Compare a [op] [b] pos) (Kc (tOp r ta tb)):=by
 intro pins s B H Q I h;refine wpAny_isTrue_Compare1 (Ì (ha pins s B H _ I h) λv s1 ⟨x,H1,I1,r1,q1⟩=>Ì (hb pins s1 B H1 _ I1 q1) λu s2 ⟨y,H2,I2,r2,q2⟩=>
  Ì (ho pins s2 B H2 x y v u _ I2 r1 r2 q2) λc s3 ⟨z,H3,I3,r3,k,e,q3⟩=>?_) hm
 subst e;cases r3;exact VZ ⟨H3,I3,q3⟩
def O2(K:SE)(x:V)(H:Hp)(k:Bool):Prop:=
 match x with
 | .Ê=>k=false
 | .bl b=>k=b
 | .int i=>k=(i !=0)
 | .str y=>↥y<=sizeLine/\k=((↥y:Int)!=0)
 | .ĺ y=>y.size<=sizeLine/\k=((y.size:Int)!=0)
 | .ref p=>(∃xs,À K H p xs/\k=!xs.isEmpty)\/(∃xs,Ç K H p xs/\k=!xs.isEmpty)\/∃kvs,H p=Zq (.dK kvs)/\k=!kvs.isEmpty
 |_=>False
theorem Be(r:KV kvs vs):(!vs.isEmpty)=!kvs.isEmpty:=by
 cases r<;>rfl
theorem tV(r:Zt xs Â):(!Â.toArray.isEmpty)=!xs.isEmpty:=by
 cases r<;>simp
theorem qz:(sizeLine:Nat)<2^63:=by rw[UM];decide
inductive zd(K:SE)(x:V)(H:Hp)(Q:Bool->Hp->Prop):Prop
 |mk (k) (h:O2 K x H k) (q:Q k H):zd K x H Q
theorem Kf:Ow X (zd X.K):=by
 intro pins s B H x v Q I rx h;obtain⟨k,e,q⟩:=h;have hl:=qz;have hs:sizeLine=16777216:=UM;cases x with
 |Ê=>
  cases rx;have e':k=false:=e;subst e';exact truthy_none ⟨H,I,q⟩
 |bl b=>
  cases rx;have e':k=b:=e;subst e';exact VZ ⟨H,I,q⟩
 |int i=>
  obtain⟨t,rfl⟩:=rx;have e':k=(i !=0):=e;subst e';exact PySem.P.truthy_int ⟨H,I,q⟩
 |str y=>
  obtain⟨t,rfl⟩:=rx;obtain⟨hy,e'⟩:↥y<=sizeLine/\k=((↥y:Int)!=0):=e;subst e';exact PySem.P.truthy_str () {H,I.tok _,q}
 |ĺ y=>
  obtain⟨t,rfl⟩:=rx;obtain⟨hy,e'⟩:y.size<=sizeLine/\k=((y.size:Int)!=0):=e;subst e';exact W.truthy_bytes () {H,I.tok _,q}
 |ref p=>
  cases rx;have e':(∃xs,À X.K H p xs/\k=!xs.isEmpty)\/(∃xs,Ç X.K H p xs/\k=!xs.isEmpty)\/∃kvs,H p=Zq (.dK kvs)/\k=!kvs.isEmpty:=e;rcases e' with⟨xs,hx,e'⟩|⟨xs,hx,e'⟩|⟨kvs,hx,e'⟩
  ·subst e';obtain⟨Â,r,pl,hz⟩:=I.list hx;have hlen:=↥r;exact wpAny_truthy_list pl.isList (by simp only[P8];lia) {H,I.tok _,by rw[tV r];exact q}
  ·subst e';obtain⟨Â,r,pl,hz⟩:=I.tuple hx;have hlen:=↥r;exact truthy_tuple pl (by simp only[P8];lia) {H,I.tok _,by rw[tV r];exact q}
  subst e';obtain⟨hz,hS,vs,r,m⟩:↥kvs<=sizeLine/\(p==T4)=false/\∃vs,KV kvs vs/\s.heap.DictOf (bO X.prog X.w) p vs:=I.È p _ hx;have hlen:↥kvs=↥vs:=Sz r;exact wpAny_truthy_dict hS m () {H,I.tok _,by rw[Be r];exact q}
 |_=>exact(show False from e).elim
theorem Fl(ha:PE X a ta)(he:∀whole,isTrue a X.env whole=(do let v<-whole;X0 a.pos;VF [v] (truthy v))) :
  PT X a (λB H Q=>ta B H λx H'=>zd X.K x H' Q):=by
 intro pins s B H Q I h
 exact isTrue_plain (Ì (ha pins s B H _ I h) λv s1 ⟨x,H1,I1,r1,q1⟩=>Kf pins s1 B H1 x v Q I1 r1 q1) (he _)
theorem AL:Ó X (TX .Add) (λx y H Q=>∃i j,x=.str i/\y=.str j/\↥i+↥j<=sizeLine/\Q (.str (i++j)) H):=by
 intro pins s B H x y v u Q I rx ry h;obtain⟨i,j,rfl,rfl,hz,q⟩:=h;obtain⟨t,rfl⟩:=rx;obtain⟨t',rfl⟩:=ry;exact add_str (λt' tk=>{.str (i++j),H,I.tok _,{_,rfl},q}) hz
theorem ZG(r:Zt [x] us):∃u,us=[u]/\Zv x u:=by
 cases r with
 |cons r1 r2=>cases r2;exact{_,rfl,r1}
theorem ZN(r:Zt [x,y] us):∃u w',us=[u,w']/\Zv x u/\Zv y w':=by
 cases r with
 |cons r1 r2=>
  cases r2 with
  |cons r3 r4=>cases r4;exact{_,_,rfl,r1,r3}
theorem Eh(hc:X.calm=true):dY X (.builtin "max") (λxs H Q=>∃i j,xs=[.int i,.int j]/\Q (.int (if j>i then j else i)) H):=by
 intro pins s B H xs us Q I r h;obtain⟨i,j,rfl,q⟩:=h;obtain⟨u,w',rfl,⟨t,rfl⟩,⟨t',rfl⟩⟩:=ZN r;refine max_two_ints (I.ok.hd hc) λh' tk k=>{_,H,I.kept k,?_,q};by_cases hj:j>i
 ·rw[if_pos hj,if_pos hj];exact{_,rfl}
 rw[if_neg hj,if_neg hj];exact{_,rfl}
def MW(K:SE)(x:V)(H:Hp)(n:Nat):Prop:=
 match x with
 | .str y=>↥y<=sizeLine/\n=↥y
 | .ĺ y=>y.size<=sizeLine/\n=y.size
 | .ref p=>(∃xs,À K H p xs/\n=↥xs)\/∃xs,Ç K H p xs/\n=↥xs
 |_=>False
theorem Fv:dY X (.builtin "len") (λxs H Q=>∃x n,xs=[x]/\MW X.K x H n/\Q (.int n) H):=by
 intro pins s B H xs us Q I r h;obtain⟨x,n,rfl,e,q⟩:=h;obtain⟨u,rfl,rx⟩:=ZG r;have hl:=qz;have hs:sizeLine=16777216:=UM;cases x with
 |str y=>
  obtain⟨t,rfl⟩:=rx;obtain⟨hy,e'⟩:↥y<=sizeLine/\n=↥y:=e;subst e';exact len_str () {.int _,H,I.tok _,{_,rfl},q}
 |ĺ y=>
  obtain⟨t,rfl⟩:=rx;obtain⟨hy,e'⟩:y.size<=sizeLine/\n=y.size:=e;subst e';exact W.len_bytes () {.int _,H,I.tok _,{_,rfl},q}
 |ref p=>
  cases rx;have e':(∃xs,À X.K H p xs/\n=↥xs)\/∃xs,Ç X.K H p xs/\n=↥xs:=e;rcases e' with⟨xs,hx,e'⟩|⟨xs,hx,e'⟩
  ·subst e';obtain⟨Â,r',pl,hz⟩:=I.list hx;have hlen:=↥r';exact Calls.call_len_list pl.isList (by simp only[P8];lia) {.int ↥xs,H,I.tok _,{_,by simp only[P8];rw[hlen]},q}
  subst e';obtain⟨Â,r',pl,hz⟩:=I.tuple hx;have hlen:=↥r';exact len_tuple pl (by simp only[P8];lia) {.int ↥xs,H,I.tok _,{_,by simp only[P8];rw[hlen]},q}
 |_=>exact(show False from e).elim
end
structure AR(h:Tb)(x dx C:Sv)(mA:Str->Option Su):Prop where
 obj:h.get? x=Zq (Vo C dx)
 ns:h.Ns1 dx mA
 ne:dx≠x
theorem D6{h:Tb}{mA:Str->Option Su}(n:h.Ns1 dx mA):∃od,h.get? dx=Zq od/\∀name,YK name od=Zq (mA name):=by
 obtain⟨o,es,ep,ho,hd,hk,_,hm⟩:=n;refine{o,ho,λname=>?_};have e:=hm name;unfold nsFind findBy at e;rw[<-Array.find?_toList]at e;unfold YK;rw[hd];dsimp only;split
 ·rename_i y q;rw[q]at e;exact congrArg Zq e
 rename_i q;rw[q]at e;have a:es.toList.any (·.refKey)=false:=by
  rw[List.any_eq_false];intro y hy;obtain⟨z,t,ű⟩:=hk y (RS.mp hy);simp[DictEntry.refKey,ű]
 have a':¬ es.toList.any (·.refKey)=true:=by rw[a];exact PU
 rw[if_neg a'];exact congrArg Zq e
theorem AR.look(I:AR h x dx C mA):∃od,W.InstAt h x (Vo C dx) C (Zq od)/\∀name,YK name od=Zq (mA name):=
 let ⟨od,ho,hl⟩:=D6 I.ns
 {od,⟨I.obj,rfl,rfl,ho⟩,hl}
section
variable{prog:Program}{w:SM}{A:Td}{E:Su->Sy->Prop}{s:Sy}{K:SE}{x dx C f:Sv}{mA:Str->Option Su}{name:Str}{v:Su}
theorem get_map(X:K.In s.heap)(I:AR s.heap x dx C mA)(hg:Ws K C name=true)(hh:WU K C=true)
  (ha:T3 K (.ref C) name=Zq Zr) (hv:mA name=Zq v) (hv':W.handedIn v=true) (h:Q v { s with toks:=s.toks+1 }) :
  wpAny (SK prog w) A (getAttr (.ref x) name expr) Q E s:=by
 obtain⟨od,J,hl⟩:=I.look
 exact W.get_value X J (Xn hg).1 (W.findObj_own hh ha rfl (by rw[hl,hv])) hv' h
theorem EN(X:K.In s.heap)(I:AR s.heap x dx C mA)(hg:Ws K C name=true)
  (hf:T3 K (.ref C) name=Zq (Zq (.ref f))) (ht:Zn K (.ref f)=true) (hv:mA name=Zr) (h:Q (.ref f,[.ref x]) s) :
  wpAny (SK prog w) A (Yh (.ref x) name pl) Q E s:=by
 obtain⟨od,J,hl⟩:=I.look
 exact W.method_fn X J (Xn hg).1 (Xn hg).2 hf (beq_iff_eq.mp ht) (by show(YK name od).map (·.isSome)=Zq false;rw[hl,hv];rfl) h
theorem Jm(X:K.In s.heap)(I:AR s.heap x dx C mA)
  (hs:T3 K (.ref C) "__setattr__"=Zq (Zq (.builtin "object.__setattr__"))) (hp:Yu K C=true) (ht:Zg K C name=Zq Zr) (hh:WU K C=true)
  (hw:XZ mA ns) (hsz:↥ns<=sizeLine)
  (h:∀h',AR h' x dx C (λy=>if y=name then Zq v else mA y)->UB dx s.heap h'->Q Unit.unit { s with heap:=h',toks:=s.toks+2 }) :
  wpAny (SK prog w) A (setAttr (.ref x) name v) Q E s:=by
 obtain⟨od,J,hl⟩:=I.look
 refine W.set_plain X J hs (W.osa_open (s:={ s with toks:=s.toks+1 }) (r:=Zr) X J hp ht λb=>?_)
 obtain⟨cd,hc,hd'⟩:=W.any_some hh
 have hx:s.heap.get? x=Zq {.ref C,Zq dx,.plain,#[]}:=I.obj
 refine E9 (Sw (E9 (E9 (wpAny_loadPart hx (E9 (W.Looks.here (s:={ s with toks:=s.toks+1 }) (W.looks_clsIn X hc) ?_))))))
 rw[hd']
 refine Sw (a:=Zq dx) (E9 (Sw (E9 ?_)))
 refine wpAny_nsSet1 (s:={ s with toks:=s.toks+1 }) I.ns λh' Ψ Ŀ=>?_
 obtain⟨oD,esD,epD,hoD,hdD,hcD⟩:=Ψ.count (PySem.Within.cons name v hw)
 refine E9 (wpAny_lookBehind hoD (by rw[hdD];exact pastItsLine_dict (P2 hcD (by rw[PD];lia))) ?_)
 exact Sw (h _ {(Ŀ.2 _ (P9 I.ne)).trans I.obj,Ψ,I.ne} Ŀ)
theorem EL(X:K.In s.heap)(hm:Yi K C=true)
  (hi:T3 K (.ref C) "__init__"=Zq (Zq (.ref f))) (hf:W.typeIn K (.ref f)=Zq (.type "function"))
  (h:codeAny (SK prog w) (A.under (.builtin "type.__call__" {.ref C::vs,kw})) (.call (.ref f) {.ref (⇑s+1)::vs,kw}) (W.InitBack (⇑s+1) R)
   { s with heap:=(s.heap.push Uz).push (Vo C ⇑s) }) :
  codeAny (SK prog w) A (.call (.ref C) ⟨vs,kw⟩) R s:=by
 obtain⟨hh,g,d,t,os⟩:=s
 exact W.make_core (W.makes_of X hm) (W.looks_findIn X hi) (λself=>W.bind_fn X self hf) (.inl rfl) h
end
def ip(f:Str)(v:V):List (Str×V)->List (Str×V)
 | []=>[(f,v)]
 | (g,x)::r=>if g=f then(g,v)::r else(g,x)::ip f v r
theorem qQ (f g v):∀fs,(ip f v fs).lookup g=if g=f then Zq v else fs.lookup g
 | []=>by
  show UN g [(f,v)]=_;by_cases h:g=f
  ·have hb:(g==f)=true:=beq_iff_eq.mpr h;simp only[UN,hb,if_pos h]
  have hb:(g==f)=false:=beq_eq_false_iff_ne.mpr h;simp only[UN,hb,if_neg h]
 | (k,x)::r=>by
  have ih:=qQ f g v r;rw[show ip f v ((k,x)::r)=(if k=f then(k,v)::r else(k,x)::ip f v r)from rfl];by_cases hk:k=f
  ·rw[if_pos hk];by_cases h:g=k
   ·have hb:(g==k)=true:=beq_iff_eq.mpr h;simp only[UN,hb,if_pos (h.trans hk)]
   have hb:(g==k)=false:=beq_eq_false_iff_ne.mpr h;simp only[UN,hb,if_neg (λe:g=f=>h (e.trans hk.symm))]
  rw[if_neg hk];by_cases h:g=k
  ·have hb:(g==k)=true:=beq_iff_eq.mpr h;simp only[UN,hb,if_neg (λe:g=f=>hk (h.symm.trans e))]
  have hb:(g==k)=false:=beq_eq_false_iff_ne.mpr h;simp only[UN,hb];exact ih
theorem qC (f v):∀fs,f∈(ip f v fs).map (·.1)/\∀g,g∈fs.map (·.1)->g∈(ip f v fs).map (·.1)
 | []=>{by simp[ip],λg h=>by simp at h}
 | (k,x)::r=>by
  obtain⟨i1,i2⟩:=qC f v r;rw[show ip f v ((k,x)::r)=(if k=f then(k,v)::r else(k,x)::ip f v r)from rfl];by_cases hk:k=f
  ·rw[if_pos hk];subst hk;exact{by simp,λg h=>by simpa using h}
  rw[if_neg hk];refine{?_,λg h=>?_}
  ·rw[P0];exact PC _ i1
  rw[P0]at h⊢;rcases Py.mp h with e|e
  ·exact Py.mpr (.inl e)
  exact PC _ (i2 g e)
theorem qR (f v):∀fs,(ip f v fs).length<=↥fs+1
 | []=>by simp[ip]
 | (k,x)::r=>by
  have ih:=qR f v r;rw[show ip f v ((k,x)::r)=(if k=f then(k,v)::r else(k,x)::ip f v r)from rfl];by_cases hk:k=f
  ·rw[if_pos hk,PD,PD];lia
  rw[if_neg hk,PD,PD];lia
theorem lH.some_of(r:lH (Zq v) o):∃u,o=Zq u/\Zv v u:=by
 cases o with
 |none=>exact(show False from r).elim
 |some u=>exact⟨u,rfl,r⟩
theorem lH.none_of(r:lH Zr o):o=Zr:=by
 cases o with
 |none=>rfl
 |some u=>exact(show False from r).elim
theorem Du(r:Zv v u):W.handedIn u=true:=by
 cases v with
 |Ê=>cases (show u=Vn from r);rfl
 |bl b=>cases (show u=Xw b from r);rfl
 |int i=>obtain⟨t,e⟩:=(show ∃t,u=Uu i t from r);cases e;rfl
 |str x=>obtain⟨t,e⟩:=(show ∃t,u=W8 x t from r);cases e;rfl
 |ĺ b=>obtain⟨t,e⟩:=(show ∃t,u=Value.bytes b t from r);cases e;rfl
 |μ b=>obtain⟨t,e⟩:=(show ∃t,u=Yr b t from r);cases e;rfl
 |ref a=>cases (show u=SO a from r);rfl
 |ty n=>cases (show u=Tz n from r);rfl
section
variable{P:Program}{w:SM}{H H':Hp}{h h':Tb}{a C dx:Sv}{fs ϴ:List (Str×V)}
theorem rN(È:û P w H h)(e:H a=Zq (.ins C dx fs)):∃mA,AR h a dx C mA/\(∀f,lH (fs.lookup f) (mA f))/\XZ mA (fs.map (·.1))/\↥fs<=1000/\H dx=Zq (.own a):=by
 obtain⟨d,z,ne,ob,mA,n,r,q⟩:=(show cP P w H h a (.ins C dx fs)from È a _ e);exact{mA,⟨ob,n,ne⟩,r,q,z,d}
end
structure œ(K:SE)(C:Sv):Prop where
 pg:Ws K C SQ=true
 hd:WU K C=true
 po:Yu K C=true
 sa:T3 K (.ref C) "__setattr__"=Zq (Zq (.builtin "object.__setattr__"))
theorem œ.get{K C}(c:œ K C) (f):Ws K C f=true:=c.pg
def aL(K:SE)(C:Sv)(f:Str):Prop:=T3 K (.ref C) f=Zq Zr
theorem aL.M6{K C f}(n:aL K C f):Zg K C f=Zq Zr:=by
 unfold Zg;rw[show T3 K (.ref C) f=Zq Zr from n];rfl
structure Con(K:SE)(C:Sv)(f:Str)(v:V)(u:Su):Prop where
 at_:T3 K (.ref C) f=Zq (Zq u)
 rel:Zv v u
 get:Va K u "__get__"=Zq Zr
 cp:W.copiedNames.contains f=false
structure ZO(K:SE)(C:Sv)(m:Str)(f:Sv):Prop where
 at_:T3 K (.ref C) m=Zq (Zq (.ref f))
 fn:Zn K (.ref f)=true
 kp:Uc K (.ref f)=true
section
variable{X:Cx}{pins:List (Sv×Obj)}{B:St}{H:Hp}{s:Sy}{a C dx:Sv}{fs:List (Str×V)}{f:Str}{v:V}{A:Td}{E:Su->Sy->Prop}
theorem AE(I:Inv X pins B H s)(e:H a=Zq (.ins C dx fs))(c:œ X.K C)(n:aL X.K C f)(l:fs.lookup f=Zq v)
  (h:∀u s',Inv X pins B H s'->Zv v u->Q u s'):wpAny (SK X.prog X.w) A (getAttr (.ref a) f b) Q E s:=by
 obtain⟨mA,O,r,_,_,_⟩:=rN I.È e
 obtain⟨u,hu,ru⟩:=lH.some_of (v:=v) (o:=mA f) (by rw[<-l];exact r f)
 exact get_map I.ü O (c.get f) c.hd n hu (Du ru) (h u _ (I.tok _) ru)
theorem Bs(I:Inv X pins B H s)(e:H a=Zq (.ins C dx fs))(c:œ X.K C)(k:ZO X.K C m g)(l:fs.lookup m=Zr)
  (h:Q (.ref g,[.ref a]) s):wpAny (SK X.prog X.w) A (Yh (.ref a) m pl) Q E s:=by
 obtain⟨mA,O,r,_,_,_⟩:=rN I.È e
 have hn:mA m=Zr:=lH.none_of (by rw[<-l];exact r m)
 exact EN I.ü O (c.get m) k.at_ k.fn hn h
theorem AZ(I:Inv X pins B H s)(e:H a=Zq (.ins C dx fs))(c:œ X.K C)(n:aL X.K C f)(hl:↥fs<1000)(ry:Zv y u)
  (h:∀s',Inv X pins B (upd H a (.ins C dx (ip f y fs))) s'->Q Unit.unit s'):wpAny (SK X.prog X.w) A (setAttr (.ref a) f u) Q E s:=by
 obtain⟨mA,O,r,wi,_,ho⟩:=rN I.È e
 have hz:(fs.map (·.1)).length<=sizeLine:=by rw[Pr,UM];lia
 refine Jm I.ü O c.sa c.po n.M6 c.hd wi hz λh' O' sb=>h _ ?_
 have hd:∃o,h'.get? dx=Zq o:=let ⟨o,_,_,e',_⟩:=O'.ns;⟨o,e'⟩
 refine I.write (x:=a) (e:=dx) (by rw[e];exact QK) (.inr ho) (λb q hb z=>(sb.2 b hb).trans z) hd ?_
 refine{by rw[aP O.ne];exact ho,?_,O.ne,O'.obj,_,O'.ns,λg=>?_,λg hg=>?_}
 ·have:=qR f y fs;lia
 ·show lH ((ip f y fs).lookup g) (if g=f then Zq u else mA g);rw[qQ];by_cases q:g=f
  ·rw[if_pos q,if_pos q];exact ry
  rw[if_neg q,if_neg q];exact r g
 by_cases q:g=f
 ·rw[q];exact(qC f y fs).1
 refine(qC f y fs).2 g (wi g λz=>hg ?_)
 show(if g=f then Zq u else mA g)=Zr
 rw[if_neg q];exact z
theorem Inv.made(I:Inv X pins B H s):Inv X pins B (upd (upd H ⇑s (.own (⇑s+1))) (⇑s+1) (.ins C ⇑s []))
  { s with heap:=(s.heap.push Uz).push (Vo C ⇑s) }:=by
 have e1:(s.heap.push Uz).get? ⇑s=Zq Uz:=SJ s.heap rfl
 have e2:((s.heap.push Uz).push (Vo C ⇑s)).get? (⇑s+1)=Zq (Vo C ⇑s):=by
  have:=SJ (s.heap.push Uz) (o:=Vo C ⇑s) rfl;rwa [T9]at this
 have e3:(s.heap.push Uz).Ns ⇑s (λ_=>Zr):={Uz,#[],_,e1,rfl,(λe he=>absurd he (by simp)),λ_=>rfl}
 have I1:=I.laid (a:=⇑s) (o:=.own (⇑s+1)) (h':=s.heap.push Uz) (t':=s.toks) (λb u q=>Sx _ q) (Px _) {_,e1}
 refine I1.laid (a:=⇑s+1) (o:=.ins C ⇑s []) (t':=s.toks) (λb u q=>Sx _ q) (Rq (T9 _ _)) ?_
 have ne:⇑s≠⇑s+1:=Qf (Q4 _)
 refine{by rw[aP ne,ao],PZ _,ne,e2,λ_=>Zr,(Heap.Ns1.of_empty e3).at λo q=>Sx _ q,λ_=>QK,λy hy=>absurd rfl hy}
theorem HV(hb:T7 e f env (Ts e env)=Ts e env)
  (h:wpAny (SK prog w) A (Ts e env) (λo s₁=>wpAny (SK prog w) A (getAttr o f true) Q E s₁) E s):wpAny (SK prog w) A (Ts (.Attribute e f pos) env) Q E s:=
 Attribute_any_ h (by rw[arm_eval_Attribute,hb])
end
inductive oK(K:SE)(f:Str)(x:V)(H:Hp)(Q:VK):Prop
 |mk (a C dx fs v) (h0:x=.ref a) (h1:H a=Zq (.ins C dx fs)) (h2:œ K C) (h3:aL K C f) (h4:fs.lookup f=Zq v) (q:Q v H):oK K f x H Q
def Oy(K:SE)(ta:TE)(f:Str):TE:=λB H Q=>ta B H λx H1=>oK K f x H1 Q
inductive Mz(K:SE)(f:Str)(y x:V)(H:Hp)(Q:Hp->Prop):Prop
 |mk (a C dx fs) (h0:x=.ref a) (h1:H a=Zq (.ins C dx fs)) (h2:œ K C) (h3:aL K C f) (h4:↥fs<1000) (q:Q (upd H a (.ins C dx (ip f y fs)))):Mz K f y x H Q
def Ov(K:SE)(ta tv:TE)(f:Str):TS:=λD B H=>tv B H λy H1=>ta B H1 λx H2=>Mz K f y x H2 (D.nx B)
section
variable{X:Cx}{o e value:Expr}{f:Str}{pos pos' tpos:Pos}{ta tv:TE}
theorem aI(he:PE X e ta)(hb:T7 e f X.env (Ts e X.env)=Ts e X.env):PE X (.Attribute e f pos) (Oy X.K ta f):=by
 intro pins s B H Q I h;refine HV hb (Ì (he pins s B H _ I h) λu s1 z9=>?_);obtain⟨x,H1,I1,rx,a,C,dx,fs,v,ex,ea,c,n,l,q⟩:=z9;subst ex;obtain rfl:u=SO a:=rx;exact AE I1 ea c n l λu' s2 I2 ru=>⟨v,H1,I2,ru,q⟩
theorem bh(ha:PE X o ta)(hv:PE X value tv)(hs:W9 value (Zq (.Attribute o f pos')) pos.line X.env=pure false):PS X (.Assign [.Attribute o f pos'] value pos) (Ov X.K ta tv f):=by
 intro pins s B H D I h;refine plainObj_wpAny_Assign_Attribute (Ì (hv pins s B H _ I h) λu s1 ⟨y,H1,I1,ry,q⟩=>Ì (ha pins s1 B H1 _ I1 q) λov s2 ⟨x,H2,I2,rx,a,C,dx,fs,ex,ea,c,n,l,q2⟩=>?_) hs;subst ex;obtain rfl:ov=SO a:=rx;exact AZ I2 ea c n l ry λs3 I3=>{B,_,I3,q2}
end
section
variable{X:Cx}{pins:List (Sv×Obj)}{B:St}{H:Hp}{s:Sy}{A:Td}{E:Su->Sy->Prop}{Q:Su->Sy->Prop}{c:Su}{b:Bool}
inductive oT(K:SE)(H:Hp):V->Su->Prop where
 |Ê:oT K H .Ê (.type "NoneType")
 |bl (x:Bool):oT K H (.bl x) (.type "bool")
 |int (i:Int):oT K H (.int i) (.type "int")
 |str (x:Str):oT K H (.str x) (.type "str")
 |μ (x:UInt64):oT K H (.μ x) (.type "float")
 |lst {a:Sv}{xs:List V} (e:H a=Zq (.lst xs)):oT K H (.ref a) (.type "list")
 |ā {a:Sv}{o:Obj}{xs:List V} (e:H a=Zq (.ā o (.lst xs))):oT K H (.ref a) (.type "list")
 |tup {a:Sv}{xs:List V} (e:H a=Zq (.tup xs)):oT K H (.ref a) (.type "tuple")
 |dK {a:Sv}{kvs:List (Key×V)} (e:H a=Zq (.dK kvs)):oT K H (.ref a) (.type "dict")
 |dT {a:Sv}{kvs:List (List Key×V)} (e:H a=Zq (.dT kvs)):oT K H (.ref a) (.type "dict")
 |ins {a C dx:Sv}{fs:List (Str×V)} (e:H a=Zq (.ins C dx fs)) (cl:œ K C) (ha:T3 K (.ref C) "__class__"=Zq (Zq (.builtin "object.__class__")))
   (hn:Va K (.builtin "object.__class__") "__get__"=Zq (Zq (.builtin "getset_descriptor.__get__"))) (htk:Yj K (.builtin "object.__class__")=Zq true)
   (hm:Zo K C (.type "object")=Zq true):oT K H (.ref a) (.ref C)
theorem Ed(I:Inv X pins B H s)(rx:Zv x u)(ty:oT X.K H x t)(e:Vd X.K t c=Zq b)(h:∀tk,Q (.bool b) { s with toks:=tk }) :
  wpAny (SK X.prog X.w) A (call (.builtin "isinstance") [u,c]) Q E s:=by
 cases ty with
 |Ê=>cases (show u=Vn from rx);exact UH W.kitx_none I.ü QK e (λz=>nomatch z) h
 |bl y=>cases (show u=Xw y from rx);exact UH W.kitx_bool I.ü QK e (λz=>nomatch z) h
 |int i=>obtain⟨t,q⟩:=(show ∃t,u=Uu i t from rx);cases q;exact UH W.kitx_int I.ü QK e (λz=>nomatch z) h
 |str y=>obtain⟨t,q⟩:=(show ∃t,u=W8 y t from rx);cases q;exact UH W.kitx_str I.ü QK e (λz=>nomatch z) h
 |μ y=>obtain⟨t,q⟩:=(show ∃t,u=Yr y t from rx);cases q;exact UH W.kitx_float I.ü QK e (λz=>nomatch z) h
 |@lst a xs ea=>
  cases (show u=SO a from rx)
  obtain⟨_,_,n,_,h1⟩:=(show cP X.prog X.w H s.heap a (.lst xs)from I.È a _ ea)
  exact UH W.kitx_list I.ü {_,h1,rfl} e (λz=>nomatch z) h
 |@ā a ob xs ea=>
  cases (show u=SO a from rx)
  obtain⟨_,_,_,n,_,h1⟩:=(show cP X.prog X.w H s.heap a (.ā ob (.lst xs))from I.È a _ ea)
  exact UH W.kitx_list I.ü {_,h1,rfl} e (λz=>nomatch z) h
 |@tup a xs ea=>
  cases (show u=SO a from rx)
  obtain⟨_,_,_,p⟩:=(show cP X.prog X.w H s.heap a (.tup xs)from I.È a _ ea)
  obtain⟨o,h1,h2,_⟩:=p
  exact UH W.kitx_tuple I.ü ⟨o,h1,h2⟩ e (λz=>nomatch z) h
 |@dK a kvs ea=>
  cases (show u=SO a from rx)
  obtain⟨_,_,vs,_,p⟩:=(show cP X.prog X.w H s.heap a (.dK kvs)from I.È a _ ea)
  obtain⟨o,es,ep,h1,h2,_⟩:=p
  exact UH W.kitx_dict I.ü ⟨o,h1,h2.1⟩ e (λz=>nomatch z) h
 |@dT a kvs ea=>
  cases (show u=SO a from rx)
  obtain⟨_,_,xs,_,o,es,ep,h1,h2,_⟩:=(show cP X.prog X.w H s.heap a (.dT kvs)from I.È a _ ea)
  exact UH W.kitx_dict I.ü ⟨o,h1,h2.1⟩ e (λz=>nomatch z) h
 |@ins a C dx fs ea cl ha hn htk hm=>
  cases (show u=SO a from rx)
  obtain⟨mA,O,_⟩:=rN I.È ea
  obtain⟨od,J,_⟩:=O.look
  exact UH (W.kitx_own (cl.get _) cl.hd ha hn htk hm) I.ü J e (λz=>nomatch z) h
end
structure dW(k:Nat)(A:Td):Prop where
 hd:A.handled=Zr
 dp:A.depth+3*k+5<YL
 un:A.units+16*k+200<Uj
theorem dW.mono(r:dW k A)(h:j<=k):dW j A:={r.hd,by have:=r.dp;lia,by have:=r.un;lia}
theorem dW.deeper(r:dW (k+1) A) (env):dW k (A.deeper env):=
 {r.hd,by have:=r.dp;show A.depth+1+3*k+5<_;lia,by have:=r.un;show A.units+3+16*k+200<_;lia}
theorem Au{A:Td}{C:Sv}{us:List Su}{kw:List (Str×Su)}:(A.under (.builtin "type.__call__" {.ref C::us,kw})).depth=A.depth+1:=by
 first|rfl|simp[X1,Code.weight,Code.isCreation,Code.isGuard,Code.isCaller,Code.frames,X2,guardIds]
theorem A8{A:Td}{C:Sv}{us:List Su}{kw:List (Str×Su)}:(A.under (.builtin "type.__call__" {.ref C::us,kw})).units=A.units+1:=by
 first|rfl|simp[X1,Code.cUnits,Code.frames,X2]
theorem dW.make(r:dW (k+1) A) (C us kw):dW k (A.under (.builtin "type.__call__" {.ref C::us,kw})):=
 {r.hd,by have:=r.dp;rw[Au];lia,by have:=r.un;rw[A8];lia}
theorem dW.depth(r:dW k A):A.depth<YL:=by have:=r.dp;lia
theorem dW.units(r:dW k A):A.units+64<Uj:=by have:=r.un;lia
def D3:TA:=λ_ H Q=>Q [] H
def yT(ta:TE)(tr:TA):TA:=λB H Q=>ta B H λx H1=>tr B H1 λxs H2=>Q (x::xs) H2
section
variable{X:Cx}{e:Expr}{es:List Expr}{te:TE}{t:TA}{pos:Pos}
theorem ae:PA X [] D3:=λ_ _ _ _ H Q I h=>UL {[],H,I,.nil,h}
theorem aa(ha:PE X e te)(hr:PA X es t)(hs:SG (e::es) X.env=(false,Ts e X.env)::SG es X.env:=by rfl):PA X (e::es) (yT te t):=by
 intro pos pins s B H Q I h;rw[hs];show wpAny _ _ (Zl ((false,Ts e X.env)::TB pos (SG es X.env))) _ _ s;refine Uk (Ì (ha pins s B H _ I h) λu s1 z9=>?_);obtain⟨x,H1,I1,r1,q1⟩:=z9;exact Ì (hr pos pins s1 B H1 _ I1 q1) λus s2 ⟨xs,H2,I2,r2,q2⟩=>{x::xs,H2,I2,.cons r1 r2,q2}
def Oz(t:TA):TE:=λB H Q=>t B H λxs H1=>↥xs<=sizeLine/\∀p,H1 p=Zr->Q (.ref p) (upd H1 p (.tup xs))
def Pp(t:TA):TE:=λB H Q=>t B H λxs H1=>↥xs<=sizeLine/\∀p,H1 p=Zr->Q (.ref p) (upd H1 p (.lst xs))
theorem aT{x1}(h:PA X es t):PE X (.Tuple es x1 pos) (Oz t):=by
 intro pins s B H Q I hq;refine wpAny_Tuple_spliced (Ì (h pos pins s B H _ I hq) λus s1 ⟨xs,H1,I1,r,z,q⟩=>{by rw[<-↥r];exact z,?_});have hf:H1 ⇑s1=Zr:=I1.È.fresh (Px _);refine{.ref ⇑s1,upd H1 ⇑s1 (.tup xs),I1.laid (t':=s1.toks) (λb u e=>Sx _ e) (Px _) ?_,rfl,q _ hf};exact{z,us,r,{_,SJ _ rfl,rfl,_,rfl}}
theorem aQ(h:PA X es t):PE X (.List es pos) (Pp t):=by
 intro pins s B H Q I hq;refine wpAny_List_spliced (Ì (h pos pins s B H _ I hq) λus s1 ⟨xs,H1,I1,r,z,q⟩=>{by rw[<-↥r];exact z,?_});have hf:H1 ⇑s1=Zr:=I1.È.fresh (Px _);refine{.ref ⇑s1,upd H1 ⇑s1 (.lst xs),I1.laid (t':=s1.toks) (λb u e=>Sx _ e) (Px _) ?_,rfl,q _ hf};exact{z,us,0,r,SJ _ rfl}
end
abbrev Sp:=List V->Hp->VK->XK->Prop
abbrev CXT:=List Env->Hp->Sy->XK->Su->Sy->Prop
structure AI(P:Program)(w:SM)(K:SE)(mg:Str->Option Su)(base:Tb)(A:Td)(outer:List Env)(s:Sy)(H:Hp):Prop where
 frames:A.frames=Zq outer
 mod:Mod K mg base
 bs:∀b o,base.get? b=Zq o->s.heap.get? b=Zq o/\H b=Zr
 ς:base.objs.size<=⇑s
 rH:s.heap.FunFrames base outer
 frf:∀b∈Ϡ outer,H b=Zr
 È:û P w H s.heap
 bare:VY s.gens
inductive CE(outer:List Env)(P:Program)(w:SM)(H:Hp)(s:Sy)(Q:VK)(u:Su)(s':Sy):Prop
 |mk (v H') (h0:s'.os=s.os) (h1:VY s'.gens) (h2:Un (Ϡ outer) [] H H' s.heap s'.heap) (h3:û P w H' s'.heap) (h4:Zv v u) (h5:Q v H'):CE outer P w H s Q u s'
def CR(CX:CXT)(outer:List Env)(P:Program)(w:SM)(H:Hp)(s:Sy)(Q:VK)(E:XK)(r:Result)(s':Sy):Prop:=
 match r with
 | .ok (.ret u)=>CE outer P w H s Q u s'
 | .ok _=>False
 | .error e=>CX outer H s E e s'
structure j8(P:Program)(w:SM)(K:SE)(mg:Str->Option Su)(base:Tb)(CX:CXT)(k:Nat)(f:Sv)(fd:UO)(ps:List Str)(sp:Sp):Prop where
 len:∀vs H Q E,sp vs H Q E->↥vs=↥ps
 run:∀(A:Td)(outer:List Env)(s:Sy)(H:Hp)(args:Args)(us:List Su)(vs:List V)(Q:VK)(E:XK),dW k A->AI P w K mg base A outer s H->Wt s fd args (ps.zip us)->Zt vs us->sp vs H Q E->
  codeAny (SK P w) A (.call (.ref f) args) (CR CX outer P w H s Q E) s
theorem j8.mono{P w K mg base CX j k f fd ps sp}(F:j8 P w K mg base CX j f fd ps sp)(h:j<=k) :
  j8 P w K mg base CX k f fd ps sp:={F.len,λA outer s H args us vs Q E hr=>F.run A outer s H args us vs Q E (hr.mono h)}
theorem AI.make{P w K mg base A outer s H}(e:AI P w K mg base A outer s H) (C us kw) :
  AI P w K mg base (A.under (.builtin "type.__call__" {.ref C::us,kw})) outer s H:={by first|exact e.frames|(simpa [X1,Code.envs,X2,pushEnvs] using e.frames),e.mod,e.bs,e.ς,e.rH,e.frf,e.È,e.bare}
section
variable{X:Cx}{pins:List (Sv×Obj)}{B:St}{H:Hp}{s s':Sy}
theorem Inv.Ff(I:Inv X pins B H s):AI X.prog X.w X.K X.mg X.base X.A X.stack s H:=
 ⟨I.ok.frames,I.ok.mod,I.bs,P2 I.ok.ς I.sz,I.stack,I.Cc,I.È,I.bare⟩
theorem Inv.after(I:Inv X pins B H s)(h:CE X.stack X.prog X.w H s Q u s'):EP X pins B Q u s':=by
 obtain⟨v,H',os,bare,un,È,r,q⟩:=h;obtain⟨hh,g,d,t,os'⟩:=s';obtain rfl:os'=s.os:=os;exact{v,H',I.call (h':=hh) (g':=g) (d':=d) (t':=t) (ch:=[]) un È bare (λb z=>absurd z (by simp)),r,q}
end
def vW(sp:Sp)(dvs:List V)(E:XK)(t:TA):TE:=λB H Q=>t B H λvs H1=>sp (vs++dvs) H1 Q E
inductive OG(C:Sv)(m:Str)(x:V)(H:Hp)(R:Prop):Prop
 |mk(a dx:Sv)(fs:List (Str×V))(h0:x=.ref a)(h1:H a=Zq (.ins C dx fs))(h2:fs.lookup m=Zr)(q:R):OG C m x H R
def J5(C:Sv)(sp:Sp)(dvs:List V)(E:XK)(t:TA):TE:=λB H Q=>t B H λvs H1=>∀x dx,H1 x=Zr->H1 dx=Zr->dx≠x->
 sp (.ref x::(vs++dvs)) (upd (upd H1 dx (.own x)) x (.ins C dx [])) (λv H2=>v=.Ê/\Q (.ref x) H2) E
def Zy(K:SE)(fd:UO)(ps:List Str)(ds:List Su):Prop:=
 ∀(s:Sy)(us:List Su),K.In s.heap->(us++ds).length=↥ps->Wt s fd {us,[]} (ps.zip (us++ds))
theorem Zy.all{K fd ps}(h:∀us,↥us=↥ps->bindArgs fd {us,[]}=pure (ps.zip us)):Zy K fd ps []:=λs us _ hl=>by
 rw[Qd]at hl⊢;exact .of_eq (h us hl)
def ZD(CX:CXT)(X:Cx)(E:XK):Prop:=∀(pins:List (Sv×Obj))(B:St)(H:Hp)(s:Sy)(e:Su)(s':Sy),Inv X pins B H s->CX X.stack H s E e s'->X.xe e s'
section
variable{X:Cx}{CX:CXT}{k:Nat}{f C:Sv}{fd:UO}{ps:List Str}{sp:Sp}{dvs:List V}{ds:List Su}{E:XK}{x m:Str}{p pos apos:Pos}{e o:Expr}{es:List Expr}{ta:TE}{t:TA}
theorem Aa(F:j8 X.prog X.w X.K X.mg X.base CX k f fd ps sp)(hr:dW k X.A)(hb:Zy X.K fd ps ds)(hd:Zt dvs ds)(hx:ZD CX X E)
  (I:Inv X pins B H s) (r:Zt vs us) (h:sp (vs++dvs) H Q E):wpAny (SK X.prog X.w) X.A (call (.ref f) us) (EP X pins B Q) X.xe s:=by
 have r2:Zt (vs++dvs) (us++ds):=r.append hd
 have hl:(us++ds).length=↥ps:=by rw[<-↥r2];exact F.len _ _ _ _ h
 refine XA (US (F.run X.A X.stack s H {us,[]} (us++ds) (vs++dvs) Q E hr I.Ff (hb s us I.ü hl) r2 h) λr s' hq=>?_)
 cases r with
 |error e=>exact hx pins B H s e s' I hq
 |ok fl=>
  cases fl with
  |ret u=>exact I.after hq
  |next=>exact TK hq
  |brk=>exact TK hq
  |cont=>exact TK hq
theorem CG(F:j8 X.prog X.w X.K X.mg X.base CX k f fd ps sp)(hr:dW k X.A)(hg:Gl X x)(hm:X.mg x=Zq (.ref f))(hk:Uc X.K (.ref f)=true)(hb:Zy X.K fd ps ds)(hd:Zt dvs ds)(hx:ZD CX X E)
  (ha:PA X (e::es) t) (Ď:(x==("__debug__":Str))=false:=by decide) (he:SG (e::es) X.env=(false,Ts e X.env)::SG es X.env:=by rfl) (ÿ:(TB pos (SG es X.env)).any (·.1)=false:=by rfl) :
  PE X (.Call (.Name x p) (e::es) [] pos) (vW sp dvs E t):=by
 intro pins s B H Q I h
 refine Tu (pG I hg hm ?_ Ď)
 refine W.callWith_K (h₀:=X.base) I.ok.mod.ä hk (Ì (ha pos pins s B H _ I h) λus s1 ⟨vs,H1,I1,r,q⟩=>{I1.ü,?_}) he ÿ
 exact Aa F hr hb hd hx I1 r q
structure Mk(K:SE)(C f:Sv):Prop where
 makes:Yi K C=true
 init:T3 K (.ref C) "__init__"=Zq (Zq (.ref f))
 fn:Zn K (.ref f)=true
 kp:Uc K (.ref C)=true
theorem EU(M:Mk X.K C f)(F:j8 X.prog X.w X.K X.mg X.base CX k f fd ps sp)(hr:dW (k+1) X.A)(hb:Zy X.K fd ps ds)(hd:Zt dvs ds)
  (hx:ZD CX X E) (I:Inv X pins B H s) (r:Zt vs us)
  (h:∀x dx,H x=Zr->H dx=Zr->dx≠x->sp (.ref x::(vs++dvs)) (upd (upd H dx (.own x)) x (.ins C dx [])) (λv H2=>v=.Ê/\Q (.ref x) H2) E) :
  wpAny (SK X.prog X.w) X.A (call (.ref C) us) (EP X pins B Q) X.xe s:=by
 have hq:=h (⇑s+1) ⇑s (I.È.fresh (Q7 _)) (I.È.fresh (Px _)) (Qf (Q4 _))
 have I2:=Inv.made (C:=C) I
 have r2:Zt (V.ref (⇑s+1)::(vs++dvs)) (SO (⇑s+1)::(us++ds)):=.cons rfl (r.append hd)
 have hl:(SO (⇑s+1)::us++ds).length=↥ps:=by
  have e:=↥r2;rw[F.len _ _ _ _ hq]at e;exact e.symm
 refine XA (EL (f:=f) I.ü M.makes M.init (beq_iff_eq.mp M.fn) (US (F.run _ X.stack _ _ {SO (⇑s+1)::us,[]} (SO (⇑s+1)::(us++ds)) _ _ E (hr.make C us [])
  (I2.Ff.make C us []) (hb _ (SO (⇑s+1)::us) I2.ü hl) r2 hq) λr s' Ż=>?_))
 cases r with
 |error e=>exact hx pins B _ _ e s' I2 Ż
 |ok fl=>
  cases fl with
  |ret u=>
   obtain⟨v,H',I3,rv,ev,q3⟩:=I2.after Ż
   subst ev
   exact{rv,{V.ref (⇑s+1),H',I3,rfl,q3}}
  |next=>exact TK Ż
  |brk=>exact TK Ż
  |cont=>exact TK Ż
theorem IY(M:Mk X.K C f)(F:j8 X.prog X.w X.K X.mg X.base CX k f fd ps sp)(hr:dW (k+1) X.A)(hg:Gl X x)(hm:X.mg x=Zq (.ref C))(hb:Zy X.K fd ps ds)(hd:Zt dvs ds)(hx:ZD CX X E)
  (ha:PA X (e::es) t) (Ď:(x==("__debug__":Str))=false:=by decide) (he:SG (e::es) X.env=(false,Ts e X.env)::SG es X.env:=by rfl) (ÿ:(TB pos (SG es X.env)).any (·.1)=false:=by rfl) :
  PE X (.Call (.Name x p) (e::es) [] pos) (J5 C sp dvs E t):=by
 intro pins s B H Q I h
 refine Tu (pG I hg hm ?_ Ď)
 refine W.callWith_K (h₀:=X.base) I.ok.mod.ä M.kp (Ì (ha pos pins s B H _ I h) λus s1 ⟨vs,H1,I1,r,q⟩=>{I1.ü,?_}) he ÿ
 exact EU M F hr hb hd hx I1 r q
end
def PK(X:Cx)(ϰ:List UT)(t:TA):Prop:=
 ∀(pos:Pos)(pins:List (Sv×Obj))(s:Sy)(B:St)(H:Hp)(Q:List V->Hp->Prop),Inv X pins B H s->t B H Q->wpAny (SK X.prog X.w) X.A (evalAll ((Uv pos (TM ϰ X.env)).map (·.2))) (AP X pins B Q) X.xe s
section
variable{X:Cx}{CX:CXT}{k:Nat}{f C:Sv}{fd:UO}{ps ks:List Str}{sp:Sp}{E:XK}{x m:Str}{p pos apos kpos:Pos}{e o:Expr}{es:List Expr}{ϰ:List UT}{te ta:TE}{t tk:TA}{nm:Option Str}
theorem Lf:PK X [] D3:=λ_ _ _ _ H Q I h=>wpAny_evalAll_nil {[],H,I,.nil,h}
theorem HG(ha:PE X e te)(hr:PK X ϰ t):PK X (⟨nm,e,kpos⟩::ϰ) (yT te t):=by
 intro pos pins s B H Q I h;show wpAny _ _ (evalAll ((do let v<-Ts e X.env;X0 pos;pure v)::(Uv pos (TM ϰ X.env)).map (·.2))) _ _ s;refine wpAny_evalAll_cons (E9 (Ì (ha pins s B H _ I h) λu s1 ⟨x,H1,I1,r1,q1⟩=>E9 (V3 (Sw ?_))));exact Ì (hr pos pins s1 B H1 _ I1 q1) λus s2 ⟨xs,H2,I2,r2,q2⟩=>{x::xs,H2,I2,.cons r1 r2,q2}
structure yq(K:SE)(fd:UO)(ps ks:List Str)(g:List Su->List Su->List Su)(gV:List V->List V->List V):Prop where
 to:∀(s:Sy)(us ws:List Su),K.In s.heap->(g us ws).length=↥ps->Wt s fd ⟨us,ks.zip ws⟩ (ps.zip (g us ws))
 rel:∀{vs:List V}{us:List Su}{zs:List V}{ws:List Su},Zt vs us->Zt zs ws->Zt (gV vs zs) (g us ws)
def F8(sp:Sp)(gV:List V->List V->List V)(E:XK)(t tk:TA):TE:=λB H Q=>t B H λvs H1=>tk B H1 λzs H2=>sp (gV vs zs) H2 Q E
variable{g:List Su->List Su->List Su}{gV:List V->List V->List V}
theorem Ii(F:j8 X.prog X.w X.K X.mg X.base CX k f fd ps sp)(hr:dW k X.A)(hb:yq X.K fd ps ks g gV)(hx:ZD CX X E)
  (I:Inv X pins B H s) (r:Zt vs us) (rz:Zt zs ws) (h:sp (gV vs zs) H Q E):wpAny (SK X.prog X.w) X.A (call (.ref f) us (ks.zip ws)) (EP X pins B Q) X.xe s:=by
 have r2:=hb.rel r rz
 have hl:(g us ws).length=↥ps:=by rw[<-↥r2];exact F.len _ _ _ _ h
 refine XA (US (F.run X.A X.stack s H ⟨us,ks.zip ws⟩ (g us ws) (gV vs zs) Q E hr I.Ff (hb.to s us ws I.ü hl) r2 h) λr s' hq=>?_)
 cases r with
 |error e=>exact hx pins B H s e s' I hq
 |ok fl=>
  cases fl with
  |ret u=>exact I.after hq
  |next=>exact TK hq
  |brk=>exact TK hq
  |cont=>exact TK hq
theorem GB(F:j8 X.prog X.w X.K X.mg X.base CX k f fd ps sp)(hr:dW k X.A)(hg:Gl X x)(hm:X.mg x=Zq (.ref f))(hk:Uc X.K (.ref f)=true)(hb:yq X.K fd ps ks g gV)(hx:ZD CX X E)
  (ha:PA X (e::es) t) (hkw:PK X ϰ tk) (Ϟ:(Uv pos (TM ϰ X.env)).all (·.1.isSome)=true:=by rfl) (hks:(Uv pos (TM ϰ X.env)).filterMap (·.1)=ks:=by rfl)
  (Ď:(x==("__debug__":Str))=false:=by decide) (he:SG (e::es) X.env=(false,Ts e X.env)::SG es X.env:=by rfl)
  (ÿ:((TB pos (SG (e::es) X.env)).any (·.1)||(Uv pos (TM ϰ X.env)).any (·.1.isNone))=false:=by rfl) :
  PE X (.Call (.Name x p) (e::es) ϰ pos) (F8 sp gV E t tk):=by
 intro pins s B H Q I h
 refine Tu (pG I hg hm ?_ Ď)
 refine W.callWith_KW (h₀:=X.base) I.ok.mod.ä hk Ϟ (Ì (ha pos pins s B H _ I h) λus s1 ⟨vs,H1,I1,r,q⟩=>?_) ÿ he
 refine Ì (hkw pos pins s1 B H1 _ I1 q) λws s2 ⟨zs,H2,I2,rz,q2⟩=>{I2.ü,?_}
 rw[hks]
 exact Ii F hr hb hx I2 r rz q2
end
structure aE(N P:List Str)(sc:WD):Prop where
 kind:sc.kind=.function
 co:sc.isCoroutine=false
 gen:sc.isGenerator=false
 nd:N.Nodup
 pre:N.take P.length=P
 par:∀x∈P,sc.names.lookup x=Zq .local\/sc.names.lookup x=Zq .cell
 K9:∀y∈sc.names,y.2≠ .free
theorem vY{kindOf:Str->Option Uw}:∀{binds:List (Str×Su)}{m:Str->Option Su},(∀v,(x,v)∉binds)->YM kindOf binds m x=m x
 | [],_,_=>rfl
 | (n,v)::r,m,h=>by
  unfold YM;rw[vY λw hw=>h w (PC _ hw)];split
  ·have:x≠n:=by rintro rfl;exact h v PH
   simp[this]
  rfl
theorem vz{kindOf:Str->Option Uw}:∀{binds:List (Str×Su)}{m:Str->Option Su},(∀v,(x,v)∉binds)->YN kindOf binds m x=m x
 | [],_,_=>rfl
 | (n,v)::r,m,h=>by
  unfold YN;rw[vz λw hw=>h w (PC _ hw)];split
  ·rfl
  have:x≠n:=by rintro rfl;exact h v PH
  simp[this]
theorem wz{kindOf:Str->Option Uw}:∀{P:List Str}{vs:List Su}{i:Nat}{m:Str->Option Su},P.Nodup->P[i]?=Zq x->vs[i]?=Zq v->kindOf x=Zq .local->
  YM kindOf (P.zip vs) m x=Zq v
 | [],_,_,_,_,h,_,_=>by simp at h
 |_::_,[],_,_,_,_,h,_=>by simp at h
 |p::P,w::vs,0,m,nd,h1,h2,hk=>by
  simp at h1 h2;subst h1;subst h2;show YM kindOf ((p,w)::P.zip vs) m p=_;unfold YM;rw[vY λv hv=>(Qt.mp nd).1 (QZ hv).1,if_pos hk];simp
 |p::P,w::vs,i+1,m,nd,h1,h2,hk=>by
  show YM kindOf ((p,w)::P.zip vs) m x=_;unfold YM;exact wz (i:=i) (Qt.mp nd).2 (by simpa using h1) (by simpa using h2) hk
theorem wg{kindOf:Str->Option Uw}:∀{P:List Str}{vs:List Su}{i:Nat}{m:Str->Option Su},P.Nodup->P[i]?=Zq x->vs[i]?=Zq v->kindOf x≠Zq .local->
  YN kindOf (P.zip vs) m x=Zq v
 | [],_,_,_,_,h,_,_=>by simp at h
 |_::_,[],_,_,_,_,h,_=>by simp at h
 |p::P,w::vs,0,m,nd,h1,h2,hk=>by
  simp at h1 h2;subst h1;subst h2;show YN kindOf ((p,w)::P.zip vs) m p=_;unfold YN;rw[vz λv hv=>(Qt.mp nd).1 (QZ hv).1,if_neg hk];simp
 |p::P,w::vs,i+1,m,nd,h1,h2,hk=>by
  show YN kindOf ((p,w)::P.zip vs) m x=_;unfold YN;exact wg (i:=i) (Qt.mp nd).2 (by simpa using h1) (by simpa using h2) hk
def ZC(N:List Str)(vs:List V):St:=vs.map Zq++SV (N.length-↥vs) Zr
def uZ(CX:CXT)(P:Program)(w:SM)(K:SE)(mg:Str->Option Su)(base:Tb)(N:List Str)(qual:Str)(scope:WD)(f:Sv)(cd:Su)(A:Td)(outer:List Env)(s:Sy)(H:Hp)(E:XK):Cx where
 prog:=P
 w:=w
 K:=K
 mg:=mg
 base:=base
 A:=A.deeper (UZ qual scope ⇑s f cd)
 N:=N
 s₀:=s
 H₀:=H
 env:=UZ qual scope ⇑s f cd
 outer:=outer
 stack:=UZ qual scope ⇑s f cd::outer
 ex:=[]
 calm:=true
 fn:=λ_=>true
 pn:=[]
 xe:=λe s'=>wpAny (SK P w) (A.deeper (UZ qual scope ⇑s f cd)) (leaving (UZ qual scope ⇑s f cd) e) (λ_ s''=>CX outer H s E e s'') (λe' s''=>CX outer H s E e' s'') s'
theorem zU{sc:WD}{n:Nat}{x:Str}(h:sc.names.lookup x=Zq .cell):∃c,(TC n sc.names []).lookup x=Zq c:=by
 have q:=Vp sc.names n [] (.inl h);exact Q0.mp q
theorem DH{CX P w K mg base N ps qual scope f cd A outer s s1 H E us vs}
  (S:aE N ps scope) (hd:A.handled=Zr) (e0:AI P w K mg base A outer s H) (hl:↥vs=↥ps) (r:Zt vs us)
  (x:InCallC s ⇑s (YM (UZ qual scope ⇑s f cd).kindOf (ps.zip us) λ_=>Zr) (TC (⇑s+1) scope.names []) (YN (UZ qual scope ⇑s f cd).kindOf (ps.zip us) λ_=>Zr) s1) :
  Inv (uZ CX P w K mg base N qual scope f cd A outer s H E) [] (ZC N vs) H s1:=by
 have ÿ:↥ps<=N.length:=by have:=congrArg UP S.pre;rw[Qo]at this;lia
 obtain⟨h1,tk,rfl,hk⟩:=x.done
 have noA:∀b:Sv,b∉(uZ CX P w K mg base N qual scope f cd A outer s H E).ex:=λb z=>absurd (show b∈([]:List Sv)from z) (by simp)
 refine⟨{e0.mod,S.kind,rfl,rfl,Px _,λy z c h1 h2=>?_,λy hy=>?_,λy c _ h=>?_,λ_=>hd,Around.frames_deeper e0.frames,.inr ⟨rfl,rfl⟩,λb z=>absurd z (noA b),e0.bs,e0.ς,λb _ _=>noA b,λb z=>absurd z (noA b),e0.rH,e0.frf},
  rfl,e0.bare,Un.kept hk,{_,x.toInCall.ns,λi y v h1 h2 h3=>?_},λy c h=>{_,x.cell y c h},e0.È.fresh (Px _),λy c h=>?_,λp hp=>absurd (show p∈([]:List (Sv×Obj))from hp) (by simp),e0.È.kept hk,?_⟩
 ·exact name_of_addr x.apart (SY h1) (SY h2)
 ·have hy:scope.names.lookup y=Zq .cell\/scope.names.lookup y=Zq .free:=hy;rcases hy with hy|hy
  ·exact zU hy
  exact absurd rfl (S.K9 _ (SY hy))
 ·exact Rp (x.above y c (SY h))
 ·have hi:i<↥vs:=by
   unfold ZC at h2;by_cases hi:i<↥vs
   ·exact hi
   rw[Qk (by simpa using hi)]at h2;rw[V9]at h2;split at h2<;>cases h2
  have ha:vs[i]?=Zq v:=by
   unfold ZC at h2;rw[Qh (by simpa using hi),P5]at h2;cases e:vs[i]? with
   |none=>rw[e]at h2;cases h2
   |some a=>rw[e]at h2;cases h2;rfl
  obtain⟨u,hu,rv⟩:=r.get ha;have hp:ps[i]?=Zq y:=by
   rw[<-S.pre,Rc ()];exact h1
  have ndP:ps.Nodup:=by rw[<-S.pre];exact S.nd.sublist (List.take_sublist _ _)
  refine{u,rv,?_};rcases S.par y (P4 hp)with k|k
  ·exact .inl ⟨k,wz ndP hp hu k⟩
  obtain⟨c,e⟩:=zU (n:=⇑s+1) k;refine .inr {.inl k,c,e,?_};have q:=x.cell y c e;rw[wg ndP hp hu (by show scope.names.lookup y≠_;rw[k];decide)]at q;exact q
 ·exact e0.È.fresh (Rp (x.above y c (SY h)))
 unfold ZC
 show _=N.length
 rw[Pq,Pr,Q9]
 lia
theorem FQ{CX P w K mg base k f name qual params body scope dV kV doc pm Ã ct oc an od}
  {ù N ps sp} (lk:K.lookup f=Zq {oc,od,.func (T8 name qual params body scope dV kV doc pm an Ã ct),ù}) (Ō:Vw K Ã qual=true) (S:aE N ps scope)
  (len:∀vs H Q E,sp vs H Q E->↥vs=↥ps)
  (ì:∀A outer s H vs Q E,dW k (A.deeper (UZ qual scope ⇑s f Ã))->sp vs H Q E->
   ∃t,Į (uZ CX P w K mg base N qual scope f Ã A outer s H E) body t/\t { nx:=λ_ H'=>Q .Ê H',rt:=Q } (ZC N vs) H) :
  j8 P w K mg base CX (k+1) f (T8 name qual params body scope dV kV doc pm an Ã ct) ps sp:=by
 refine{len,λA outer s H args us vs Q E hr e0 hb r ź=>?_}
 have hl:=len _ _ _ _ ź
 have KX:K.In s.heap:=e0.mod.ä.keeps λb o e=>(e0.bs b o e).1
 have lim:s.heap.NoLimit:=e0.mod.nolimit.keeps λb o e=>(e0.bs b o e).1
 have hkind:∀y∈ps.zip us,scope.names.lookup y.1=Zq .local\/(scope.names.lookup y.1=Zq .cell/\((TC (⇑s+1) scope.names []).lookup y.1).isSome=true):=λ⟨n,v⟩ hy=>by
  rcases S.par n (QZ hy).1 with q|q
  ·exact .inl q
  exact .inr {q,Vp _ _ _ (.inl q)}
 refine codeAny_call_function hr.depth (KX _ _ lk) rfl S.co S.gen rfl (W.codeRec_of KX Ō) (hb _ _ _ _ ?_)
 refine wpAny_newFunctionEnv_cells S.kind hkind λenv he s1 x=>?_
 subst he
 refine{lim.keeps x.toInCall.keep,codeAny_func ?_}
 obtain⟨t,ht,hq⟩:=ì A outer s H vs Q E (hr.deeper _) ź
 have I:Inv (uZ CX P w K mg base N qual scope f Ã A outer s H E) [] (ZC N vs) H s1:=DH S hr.hd e0 hl r x
 refine Ui (ht [] s1 (ZC N vs) H _ I hq) (λfl s' hs=>?_) λe s' hs=>hs
 have fin:∀{B':St}{H':Hp}{v:V}{u:Su},Inv (uZ CX P w K mg base N qual scope f Ã A outer s H E) [] B' H' s'->Zv v u->Q v H'->CE outer P w H s Q u s':=
  λ{B' H' v u} J rv q=>⟨v,H',J.os,J.bare,J.base,J.È,rv,q⟩
 cases fl with
 |ret u=>
  obtain⟨v,B',H',J,rv,q⟩:=hs
  exact fin J rv q
 |next=>
  obtain⟨B',H',J,q⟩:=hs
  exact fin (v:=V.Ê) (u:=Vn) J rfl q
 |brk=>
  obtain⟨_,_,_,q⟩:=hs
  exact TK q
 |cont=>
  obtain⟨_,_,_,q⟩:=hs
  exact TK q
section
variable{X:Cx}{x:Str}{p pos:Pos}{e:Expr}{es:List Expr}{t:TA}{id T:String}{r:List V->Hp->VK->Prop}
def tCB(r:List V->Hp->VK->Prop)(t:TA):TE:=λB H Q=>t B H λvs H1=>r vs H1 Q
theorem G8(hc:dY X (.builtin id) r)(hg:Gl X x)(hm:X.mg x=Zr)(hv:T6 x=Zq (.builtin id))(ha:PA X (e::es) t)(hn:x≠"__name__":=by decide)(Ď:(x==("__debug__":Str))=false:=by decide)
  (he:SG (e::es) X.env=(false,Ts e X.env)::SG es X.env:=by rfl) (ÿ:(TB pos (SG es X.env)).any (·.1)=false:=by rfl):PE X (.Call (.Name x p) (e::es) [] pos) (tCB r t):=by
 intro pins s B H Q I h
 refine Tu (jO I hg hm hv ?_ hn Ď)
 exact Vq (Ì (ha pos pins s B H _ I h) λus s1 ⟨vs,H1,I1,r1,q1⟩=>hc pins s1 B H1 vs us Q I1 r1 q1) he ÿ
theorem Ea(hc:dY X (.type T) r)(hg:Gl X x)(hm:X.mg x=Zr)(hv:T6 x=Zq (.type T))(ha:PA X (e::es) t)(hn:x≠"__name__":=by decide)(Ď:(x==("__debug__":Str))=false:=by decide)
  (he:SG (e::es) X.env=(false,Ts e X.env)::SG es X.env:=by rfl) (ÿ:(TB pos (SG es X.env)).any (·.1)=false:=by rfl):PE X (.Call (.Name x p) (e::es) [] pos) (tCB r t):=by
 intro pins s B H Q I h
 refine Tu (jO I hg hm hv ?_ hn Ď)
 exact TR (Ì (ha pos pins s B H _ I h) λus s1 ⟨vs,H1,I1,r1,q1⟩=>hc pins s1 B H1 vs us Q I1 r1 q1) he ÿ
end
end L2
namespace HT
open PySem PyProof.Rows
section
open PySem.SeqAt
open PySem.AutoSeq1 (wpAny_loadPart')
open PySem.MeetsSeq PySem.MeetsSeq2 PySem.MeetsSeq3
end
section
variable{prog:Program}{w:SM}{A:Td}{E:Su->Sy->Prop}{s:Sy}
def Ù(n d:Nat):Option Int->Nat
 |none=>d
 |some v=>if v<0 then(v+(n:Int)).toNat else min v.toNat n
theorem MI (n d) (hd:d<=n) (o):Ù n d o<=n:=by
 cases o with
 |none=>exact hd
 |some v=>
  show(if v<0 then(v+(n:Int)).toNat else min v.toNat n)<=n;by_cases hv:v<0
  ·rw[if_pos hv];lia
  rw[if_neg hv];exact Nat.min_le_right _ _
theorem Cd(v:Int)(n d:Nat):(if v<0 then max (v+(n:Int)) 0 else min v (n:Int))=((Ù n d (Zq v):Nat):Int):=by
 show(if v<0 then max (v+(n:Int)) 0 else min v (n:Int))=(((if v<0 then(v+(n:Int)).toNat else min v.toNat n):Nat):Int);by_cases hv:v<0
 ·simp only[if_pos hv];lia
 simp only[if_neg hv];lia
theorem Bj(lo hi:Option Int)(n:Nat):UY lo hi 1 (n:Int)=(((Ù n 0 lo:Nat):Int),((Ù n n hi:Nat):Int)):=by
 have h1:¬ ((1:Int)<0):=()
 unfold UY;simp only[h1,if_false];refine VJ ?_ ?_
 ·cases lo with
  |none=>rfl
  |some v=>exact Cd v n 0
 cases hi with
 |none=>rfl
 |some v=>exact Cd v n n
theorem AO(i j:Nat):Tj (i:Int) (j:Int) 1=j-i:=by
 unfold Tj;have h1:(1:Int)>0:=()
 simp only[h1,if_true,Int.ediv_one];split<;>lia
theorem ud(p:XB v o)(h:Q o s):wpAny (SK prog w) A (Builtin.Slice.slicePartIndex v) Q E s:=by
 cases p with
 |none=>exact VN h
 |int i t=>exact slicePart_int h
theorem qu{sl vl vu lo hi n}{Q:Int×Int×Nat->Sy->Prop}(hs:s.heap.IsSliceOf sl vl vu .none)(pl:XB vl lo)(pu:XB vu hi)
  (h:Q (((Ù n 0 lo:Nat):Int),1,Ù n n hi-Ù n 0 lo) s):wpAny (SK prog w) A (Ul (.ref sl) (pure (n:Int))) Q E s:=by
 obtain⟨os,ů,hcs,Ω⟩:=id hs
 unfold Ul VS
 refine E9 (E9 (Vx ů Ω (x:=vl) rfl (E9 (Vx ů Ω (x:=vu) rfl (E9 (Vx ů Ω (x:=.none) rfl (Sw ?_)))))))
 refine E9 (VN ?_)
 show wpAny _ _ (if((1:Int)==0)=true then _ else _) _ _ s
 rw[if_neg ∅]
 refine E9 (ud pl (E9 (ud pu (E9 (Sw ?_)))))
 show wpAny _ _ (match UY lo hi 1 (n:Int)with|(lo,hi)=>pure (lo,(1:Int),Tj lo hi 1)) _ _ s
 rw[Bj lo hi n]
 show wpAny _ _ (pure (((Ù n 0 lo:Nat):Int),(1:Int),Tj ((Ù n 0 lo:Nat):Int) ((Ù n n hi:Nat):Int) 1)) _ _ s
 rw[AO]
 exact Sw h
theorem F7(xs:Array Su)(i k:Nat):((SS k).filterMap λ(m:Nat)=>xs[((i:Int)+(m:Int)*1).toNat]?).toArray=((xs.toList.drop i).take k).toArray:=by
 have e:(λ(m:Nat)=>xs[((i:Int)+(m:Int)*1).toNat]?)=λm=>xs[i+m]?:=by
  funext m
  have:((i:Int)+(m:Int)*1).toNat=i+m:=()
  rw[this]
 rw[e];have:=pick_run xs i k;rw[List.filterMap_map]at this;have e2:((λx=>xs[x]?)∘λx=>i+x)=λm=>xs[i+m]?:=rfl;rw[e2]at this;rw[this]
theorem pW{t sl items vl vu lo hi Q}(ht:IsTup s.heap t items)(hs:s.heap.IsSliceOf sl vl vu .none)(pl:XB vl lo)(pu:XB vu hi)
  (hw:¬ (Ù items.size 0 lo=0/\Ù items.size items.size hi=items.size))
  (h:Q (.ref ⇑s) { s with heap:=s.heap.push { cls:=.type "tuple",data:=.seq ((items.toList.drop (Ù items.size 0 lo)).take (Ù items.size items.size hi-Ù items.size 0 lo)).toArray } })
  (hsz:items.size<=sizeLine):wpAny (SK prog w) A (V0 (.ref t) (.ref sl)) Q E s:=by
 have þ:sizeOk (.seq ((items.toList.drop (Ù items.size 0 lo)).take (Ù items.size items.size hi-Ù items.size 0 lo)).toArray):=by
  show((items.toList.drop (Ù items.size 0 lo)).take (Ù items.size items.size hi-Ù items.size 0 lo)).toArray.size<=sizeLine;rw[P8,Qo,QW,Qn];lia
 have hj:Ù items.size items.size hi<=items.size:=MI _ _ (Px _) hi
 obtain⟨os,ů,hcs,Ω⟩:=id hs
 have hTs:s.TypeIs (.ref sl) "slice":=⟨os,ů,hcs⟩
 unfold V0
 try with_reducible refine wpAny_holding ?_
 first|refine E9 (Sw ?_)|skip
 refine E9 (X3 ht.typeIs ∅ ?_)
 refine E9 (Ux (name:=UU "__getitem__") ht.typeIs T2
  (TN T2 ht.typeIs Xg ?_ (XC _ _)))
 show wpAny _ _ (VO (.ref t)>>=_) _ _ s
 refine E9 (tupleItemsOf_ ht ?_)
 refine E9 (UW hTs ?_)
 rw[if_pos ∅]
 refine E9 (qu hs pl pu ?_)
 have Ű:¬ ((((Ù items.size 0 lo:Nat):Int)==0&&(1:Int)==1&&(Ù items.size items.size hi-Ù items.size 0 lo)==items.size)=true):=by
  intro q;rw[QX,QX]at q;have q1:((Ù items.size 0 lo:Nat):Int)=0:=eq_of_beq q.1.1;have q2:Ù items.size items.size hi-Ù items.size 0 lo=items.size:=eq_of_beq q.2;exact hw {(),()}
 show wpAny _ _ (if(((Ù items.size 0 lo:Nat):Int)==0&&(1:Int)==1&&(Ù items.size items.size hi-Ù items.size 0 lo)==items.size)=true then _ else _) _ _ s
 rw[if_neg Ű,F7]
 first
  |exact E9 (m:=Te _) (S9 (Sw {_,rfl,Sw h}) þ)
  |exact E9 (m:=Te _) (S9 (E9 (Sw (Sw {_,rfl,Sw h}))) þ)
  |exact E9 (E9 (m:=Te _) (S9 (Sw (Sw {_,rfl,Sw h})) þ))
  |exact E9 (E9 (m:=Te _) (S9 (Sw {_,rfl,Sw h}) þ))
end
end HT
namespace L2
open PySem PySem.Spec PyProof.Rows
abbrev TO:=St->Hp->(Option Int->Hp->Prop)->Prop
def PO(X:Cx)(e:Option Expr)(t:TO):Prop:=
 ∀(pins:List (Sv×Obj))(s:Sy)(B:St)(H:Hp)(Q:Option Int->Hp->Prop),Inv X pins B H s->t B H Q->
  wpAny (SK X.prog X.w) X.A (evalPart e X.env) (λu s'=>∃o H',Inv X pins B H' s'/\XB u o/\Q o H') X.xe s
def Hv:TO:=λ_ H Q=>Q Zr H
inductive N7(x:V)(H:Hp)(Q:Option Int->Hp->Prop):Prop
 |mk (i) (h:x=.int i) (q:Q (Zq i) H):N7 x H Q
def Oe(t:TE):TO:=λB H Q=>t B H λx H1=>N7 x H1 Q
section
variable{X:Cx}{e:Expr}{te:TE}{lo hi:Option Expr}{tl th:TO}{pos p2:Pos}
theorem CF:PO X Zr Hv:=by
 intro pins s B H Q I h;rw[Xo];exact Sw ⟨Zr,H,I,.none,h⟩
theorem rL(h:PE X e te):PO X (Zq e) (Oe te):=by
 intro pins s B H Q I hw;rw[evalPart_some];refine Ì (h pins s B H _ I hw) λu s1 z9=>?_;obtain⟨x,H1,I1,r1,q1⟩:=z9;obtain⟨i,rfl,q⟩:=q1;obtain⟨t,rfl⟩:=r1;exact⟨Zq i,H1,I1,.int i t,q⟩
def Ϲ(X:Cx)(r:V->Option Int->Option Int->Hp->VK->Prop):Prop:=
 ∀(pins:List (Sv×Obj))(s:Sy)(B:St)(H:Hp)(x:V)(v vl vu:Su)(lo hi:Option Int)(sl:Sv)(Q:VK),Inv X pins B H s->Zv x v->s.heap.IsSliceOf sl vl vu .none->XB vl lo->XB vu hi->r x lo hi H Q->
  ∃T id,typeLookup (.type T) "__getitem__"=pure (Zq (.builtin id))/\s.TypeIs v T/\wpAny (SK X.prog X.w) X.A (V0 v (.ref sl)) (EP X pins B Q) X.xe s
theorem Ϲ.or(h:Ϲ X r)(h':Ϲ X r'):Ϲ X (λx lo hi H Q=>r x lo hi H Q\/r' x lo hi H Q):=by
 intro pins s B H x v vl vu lo hi sl Q I rx hs pl pu q;rcases q with q|q
 ·exact h pins s B H x v vl vu lo hi sl Q I rx hs pl pu q
 exact h' pins s B H x v vl vu lo hi sl Q I rx hs pl pu q
def tSl(r:V->Option Int->Option Int->Hp->VK->Prop)(te:TE)(tl th:TO):TE:=λB H Q=>te B H λx H1=>tl B H1 λl H2=>th B H2 λu H3=>r x l u H3 Q
theorem sA(hr:Ϲ X r)(he:PE X e te)(hl:PO X lo tl)(hu:PO X hi th):PE X (.Subscript e (.Slice lo hi Zr p2) pos) (tSl r te tl th):=by
 intro pins s B H Q I h;refine YO (Ì (he pins s B H _ I h) λv s1 z9=>?_);obtain⟨x,H1,I1,r1,q1⟩:=z9;refine wpAny_Slice (Ì (hl pins s1 B H1 _ I1 q1) λvl s2 ⟨l,H2,I2,pl,q2⟩=>Ì (hu pins s2 B H2 _ I2 q2) λvu s3 z9=>?_);obtain⟨u,H3,I3,pu,q3⟩:=z9;rw[Xo];refine Sw ?_;have I4:Inv X pins B H3 { s3 with heap:=s3.heap.push { cls:=.type "slice",data:=.fields #[vl,vu,.none] } }:=I3.kept (t':=s3.toks) λb ob q=>Sx _ q;obtain⟨T,id,hT,ht,hg⟩:=hr pins { s3 with heap:=s3.heap.push { cls:=.type "slice",data:=.fields #[vl,vu,.none] } } B H3 x v vl vu l u ⇑s3 Q I4 r1 (XD ..) pl pu q3;show wpAny (SK X.prog X.w) X.A (Xp e (.Slice lo hi Zr p2) v (.ref ⇑s3)) (EP X pins B Q) X.xe { s3 with heap:=s3.heap.push { cls:=.type "slice",data:=.fields #[vl,vu,.none] } };exact tail_any (ops:=[.ref ⇑s3,v]) ht hT hg (by with_unfolding_all rfl)
def rC(xs:List V)(lo hi:Option Int):List V:=(xs.drop (HT.Ù ↥xs 0 lo)).take (HT.Ù ↥xs ↥xs hi-HT.Ù ↥xs 0 lo)
theorem qV (xs lo hi):(rC xs lo hi).length<=↥xs:=by
 unfold rC;rw[Qo,QW];lia
def Mt(K:SE):V->Option Int->Option Int->Hp->VK->Prop:=λx lo hi H Q=>∃a xs,x=.ref a/\Ç K H a xs/\
 ¬ (HT.Ù ↥xs 0 lo=0/\HT.Ù ↥xs ↥xs hi=↥xs)/\∀p,H p=Zr->Q (.ref p) (upd H p (.tup (rC xs lo hi)))
theorem KU:Ϲ X (Mt X.K):=by
 intro pins s B H x v vl vu lo hi sl Q I rx hs pl pu h;obtain⟨a,xs,rfl,hx,hw,q⟩:=h;cases rx;obtain⟨Â,r,ht,hz⟩:=I.tuple hx;have hlen:Â.toArray.size=↥xs:=by rw[P8];exact r.length.symm
 refine{"tuple",_,PyProof.Rows.slot_tuple_getitem.lookup,ht.typeIs,?_};refine HT.pW ht hs pl pu (by rw[hlen];exact hw) ?_ (by rw[hlen];exact hz);rw[hlen];refine{.ref ⇑s,_,I.laid (t':=s.toks) (o:=.tup (rC xs lo hi)) (λb ob q=>Sx _ q) (Px _) ?_,rfl,q _ (I.È.fresh (Px _))};exact{P2 (qV xs lo hi) hz,_,(r.drop (HT.Ù ↥xs 0 lo)).take (HT.Ù ↥xs ↥xs hi-HT.Ù ↥xs 0 lo),IsTup.new _ _}
end
def Ť(n:Nat)(i:Int):Option Nat:=if 0<=i then(if i<n then Zq i.toNat else Zr)else if -(n:Int)<=i then Zq (i+n).toNat else Zr
def ĭ{α:Type}(xs:List α)(i:Int):Option α:=(Ť ↥xs i).bind λj=>xs[j]?
theorem CT(h:Ť n i=Zq j):seqIndex? i n=Zq j/\j<n/\-(n:Int)<=i/\i<n:=by
 unfold Ť at h;by_cases h0:0<=i
 ·rw[if_pos h0]at h;by_cases h1:i<n
  ·rw[if_pos h1]at h;have e:i.toNat=j:=SN h;exact{by rw[Yv h0 h1,e],(),(),h1}
  rw[if_neg h1]at h;cases h
 rw[if_neg h0]at h;by_cases h1:-(n:Int)<=i
 ·rw[if_pos h1]at h;have e:(i+n).toNat=j:=SN h;exact{by rw[X4 () h1,e],(),h1,()}
 rw[if_neg h1]at h;cases h
theorem wQ(h:ĭ xs i=Zq v):∃j,seqIndex? i ↥xs=Zq j/\xs[j]?=Zq v/\j<↥xs/\-(↥xs:Int)<=i/\i<↥xs:=by
 unfold ĭ at h;cases e:Ť ↥xs i with
 |none=>rw[e]at h;cases h
 |some j=>
  rw[e]at h;obtain⟨h1,h2,h3,h4⟩:=CT e;exact⟨j,h1,h,h2,h3,h4⟩
theorem hJ{α:Type}{xs:List α}{j:Nat}{v:α}(h:xs[j]?=Zq v):ĭ xs (j:Int)=Zq v:=by
 have hj:j<↥xs:=(PQ.mp h).1;have e:Ť ↥xs (j:Int)=Zq j:=by
  unfold Ť;rw[if_pos (),if_pos ()];simp
 unfold ĭ;rw[e];exact h
def Dn(b:Expr):Prop:=∀o i,subscripted b false o i=operate [o,i] (V0 o i)
def IxR(X:Cx)(r:R2):Prop:=
 ∀(value slice:Expr)(pins:List (Sv×Obj))(s:Sy)(B:St)(H:Hp)(x y:V)(v u:Su)(Q:VK),Inv X pins B H s->Zv x v->Zv y u->r x y H Q->
  subscripted slice false v u=operate [v,u] (V0 v u)->wpAny (SK X.prog X.w) X.A (Xp value slice v u) (EP X pins B Q) X.xe s
def MtR(X:Cx)(id:String)(r:V->List V->Hp->VK->Prop):Prop:=
 ∀(pins:List (Sv×Obj))(s:Sy)(B:St)(H:Hp)(x:V)(xs:List V)(v:Su)(us:List Su)(Q:VK),Inv X pins B H s->Zv x v->Zt xs us->r x xs H Q->
  wpAny (SK X.prog X.w) X.A (call (.builtin id) (v::us)) (EP X pins B Q) X.xe s
section
variable{X:Cx}{a b:Expr}{ta tb:TE}{pos:Pos}
theorem NT(hr:IxR X r)(ha:PE X a ta)(hb:PE X b tb)(hs:Dn b):PE X (.Subscript a b pos) (tOp r ta tb):=by
 intro pins s B H Q I h;exact YO (LN ha hb I h λv u s2 x y H2 I2 rx ry q=>hr a b pins s2 B H2 x y v u Q I2 rx ry q (hs _ _))
def OX(K:SE):R2:=λx y H Q=>∃p xs i v,x=.ref p/\y=.int i/\À K H p xs/\ĭ xs i=Zq v/\Q v H
def OP(K:SE):R2:=λx y H Q=>∃p xs i v,x=.ref p/\y=.int i/\Ç K H p xs/\ĭ xs i=Zq v/\Q v H
def Oo:R2:=λx y H Q=>∃z i c,x=.str z/\y=.int i/\↥z<=sizeLine/\ĭ z.cps.toList i=Zq c/\Q (.str ⟨#[c]⟩) H
theorem HY:IxR X (OX X.K):=by
 intro value slice pins s B H x y v u Q I rx ry h hs;obtain⟨p,xs,i,z,rfl,rfl,hq,he,q⟩:=h;cases rx;obtain⟨t,rfl⟩:=ry;obtain⟨Â,r,pl,hz⟩:=I.list hq;obtain⟨j,h1,h2,h3,h4,h5⟩:=wQ he;obtain⟨w,ew,ϔ⟩:=r.get h2;have hl:=↥r;have hn:=qz;have fin:EP X pins B Q w s:=⟨z,H,I,ϔ,q⟩;by_cases h0:0<=i
 ·have hj:i.toNat=j:=by
   rw[Yv h0 h5]at h1;exact SN h1
  exact item_listR pl.isList h0 () (by rw[hj];simpa using ew) fin hs
 have hj:(i+(Â.toArray.size:Int)).toNat=j:=by
  rw[X4 () h4]at h1;rw[P8,<-hl];exact SN h1
 exact Wu (x:=w) pl.isList.typeIs slot_list_getitem.lookup
  (wpAny_getItem_list_neg (Q:=λr s'=>r=w/\EP X pins B Q r s') pl.isList () (by rw[P8]<;>lia) () (by rw[hj];simpa using ew) ⟨rfl,fin⟩) hs
theorem KL:IxR X (OP X.K):=by
 intro value slice pins s B H x y v u Q I rx ry h hs;obtain⟨p,xs,i,z,rfl,rfl,hq,he,q⟩:=h;cases rx;obtain⟨t,rfl⟩:=ry;obtain⟨Â,r,pl,hz⟩:=I.tuple hq;obtain⟨j,h1,h2,h3,h4,h5⟩:=wQ he;obtain⟨w,ew,ϔ⟩:=r.get h2;have hl:=↥r;have hn:=qz;have fin:EP X pins B Q w s:=⟨z,H,I,ϔ,q⟩;exact Wu (x:=w) pl.typeIs slot_tuple_getitem.lookup
  (getItem_tuple (j:=j) (Q:=λr s'=>r=w/\EP X pins B Q r s') pl () () (by rw[P8,<-hl];exact h1) (by simpa using ew) ⟨rfl,fin⟩) hs
theorem Mj:IxR X Oo:=by
 intro value slice pins s B H x y v u Q I rx ry h hs;obtain⟨z,i,c,rfl,rfl,hz,he,q⟩:=h;obtain⟨t,rfl⟩:=rx;obtain⟨t',rfl⟩:=ry;obtain⟨j,h1,h2,h3,h4,h5⟩:=wQ he;have hl:z.cps.toList.length=↥z:=by simp[Str.length]
 rw[hl]at h1 h4 h5;have hn:=qz;exact tail_any (XE s z t) slot_str_getitem.lookup (getItem_str (c:=c) (by
  have e1:decide (i< -(2^63:Int))=false:=decide_eq_false ();have e2:decide (i ≥ 2^63)=false:=decide_eq_false ();rw[e1,e2,Sl]) (by rw[h1];simpa using h2) {.str ⟨#[c]⟩,H,I.tok _,{_,rfl},q}) hs
theorem Ba(Â:List Su)(n j:Nat)(u:Su):To (·.setIfInBounds j u) { cls:=.type "list",data:=.seq Â.toArray n }={ cls:=.type "list",data:=.seq (Â.set j u).toArray n }:=by
 simp[To]
theorem Inv.lst(I:Inv X pins B H s)(h:H p=Zq (.lst xs)) :
  ∃Â n,Zt xs Â/\s.heap.get? p=Zq { cls:=.type "list",data:=.seq Â.toArray n }/\↥xs<=sizeLine:=by
 obtain⟨z,Â,n,r,e⟩:=I.È p _ h
 exact⟨Â,n,r,e,z⟩
theorem Inv.Kr{pins:List (Sv×Obj)}{B:St}{H:Hp}{s:Sy}{p:Sv}{xs ys:List V}{Â its':List Su}{n n':Nat}{f:Obj->Obj}(I:Inv X pins B H s)(h:H p=Zq (.lst xs))
  (ho:s.heap.get? p=Zq { cls:=.type "list",data:=.seq Â.toArray n }) (hf:f { cls:=.type "list",data:=.seq Â.toArray n }={ cls:=.type "list",data:=.seq its'.toArray n' }) (r:Zt ys its') (hz:↥ys<=sizeLine) (t:Nat) :
  Inv X pins B (upd H p (.lst ys)) { s with heap:=s.heap.update p f,toks:=t }:=by
 have e:(s.heap.update p f).get? p=Zq { cls:=.type "list",data:=.seq its'.toArray n' }:=by
  rw[TF f ho (by rw[hf]<;>rfl),hf]
 refine I.write (x:=p) (e:=p) (by rw[h];trivial) (.inl rfl) (λb u hb q=>(Tp _ _ (P9 hb)).trans q) {_,e} ?_
 exact⟨hz,its',n',r,e⟩
def JX:V->V->V->Hp->(Hp->Prop)->Prop:=λo i v H Q=>∃p xs k j,o=.ref p/\i=.int k/\H p=Zq (.lst xs)/\Ť ↥xs k=Zq j/\Q (upd H p (.lst (xs.set j v)))
theorem Zx:Fh X JX:=by
 intro pins s B H o i v ov iv u Q I ro ri rv h;obtain⟨p,xs,k,j,rfl,rfl,hp,hj,q⟩:=h;cases ro;obtain⟨t,rfl⟩:=ri;obtain⟨Â,n,r,ho,hz⟩:=I.lst hp;obtain⟨h1,h2,h3,h4⟩:=CT hj;have hl:=↥r;have hn:=qz;have I':Inv X pins B (upd H p (.lst (xs.set j v))) { s with heap:=s.heap.update p (To (·.setIfInBounds j u)) }:=
  I.Kr hp ho (Ba Â n j u) (r.set rv j) (by rw[List.length_set];exact hz) s.toks
 by_cases h0:0<=k
 ·have hk:k.toNat=j:=by
   rw[Yv h0 h4]at h1;exact SN h1
  exact W.ki_setAt ho h0 () (by rw[P8,<-hl];exact h4) (by rw[hk];exact{_,I',q})
 have hk:(k+(Â.toArray.size:Int)).toNat=j:=by
  rw[X4 () h3]at h1;rw[P8,<-hl];exact SN h1
 exact W.ki_setBack ho () (by rw[P8,<-hl];exact h3) () (by rw[hk];exact{_,I',q})
theorem xV (lo hi n):(Vb lo hi Zr n).1=((HT.Ù n 0 lo:Nat):Int)/\(Vb lo hi Zr n).2.1=((HT.Ù n n hi:Nat):Int)/\(Vb lo hi Zr n).2.2=1:=by
 refine{?_,?_,rfl}
 ·cases lo with
  |none=>simp[Vb,HT.Ù]
  |some i=>
   simp only[Vb,HT.Ù,Yk,show(1:Int)>0 by decide,if_true];by_cases h:i<0
   ·simp only[h,if_true]<;>lia
   simp only[h,if_false]<;>lia
 cases hi with
 |none=>simp[Vb,HT.Ù]
 |some i=>
  simp only[Vb,HT.Ù,Yk,show(1:Int)>0 by decide,if_true];by_cases h:i<0
  ·simp only[h,if_true]<;>lia
  simp only[h,if_false]<;>lia
theorem vi(Â:List Su)(lo hi:Option Int):slicePick Â.toArray lo hi Zr=((Â.drop (HT.Ù ↥Â 0 lo)).take (HT.Ù ↥Â ↥Â hi-HT.Ù ↥Â 0 lo)).toArray:=by
 obtain⟨h1,h2,h3⟩:=xV lo hi Â.toArray.size;unfold slicePick;rw[h1,h2,h3];simp only[sliceRange_one,pick_run,P8]<;>rfl
def MK(K:SE):V->Option Int->Option Int->Hp->VK->Prop:=λx lo hi H Q=>∃a xs,x=.ref a/\À K H a xs/\∀p,H p=Zr->Q (.ref p) (upd H p (.lst (rC xs lo hi)))
theorem Iz:Ϲ X (MK X.K):=by
 intro pins s B H x v vl vu lo hi sl Q I rx hs pl pu h;obtain⟨a,xs,rfl,hx,q⟩:=h;cases rx;obtain⟨Â,r,ht,hz⟩:=I.list hx;have hlen:=↥r;refine{"list",_,slot_list_getitem.lookup,ht.isList.typeIs,?_};refine wpAny_getItem_list_slice ht.isList hs pl pu .none (by simp) ?_ (by rw[P8]<;>lia);rw[vi,<-hlen];refine{.ref ⇑s,_,I.laid (t':=s.toks) (o:=.lst (rC xs lo hi)) (λb ob q=>Sx _ q) (Px _) ?_,rfl,q _ (I.È.fresh (Px _))};exact{P2 (qV xs lo hi) hz,_,0,(r.drop (HT.Ù ↥xs 0 lo)).take (HT.Ù ↥xs ↥xs hi-HT.Ù ↥xs 0 lo),SJ _ rfl}
def mV:V->Bool
 | .Ê=>true
 | .bl _=>true
 | .int _=>true
 | .str _=>true
 |_=>false
def eqV:V->V->Bool
 | .Ê,.Ê=>true
 | .bl a,.bl b=>a==b
 | .bl a,.int b=>(if a then 1 else 0)==b
 | .int a,.bl b=>a==(if b then 1 else 0)
 | .int a,.int b=>a==b
 | .str a,.str b=>a==b
 |_,_=>false
theorem Mo(ry:Zv y u)(rx:Zv x v)(fy:mV y=true)(fx:mV x=true):VP A s u v (eqV y x):=by
 cases y with
 |Ê=>
  cases ry;cases x with
  |Ê=>cases rx;exact SeqAt.EqAt.same _
  |bl b=>cases rx;exact SeqAt.EqAt.none_bool b
  |int b=>obtain⟨t,rfl⟩:=rx;exact SeqAt.EqAt.none_int b t
  |str b=>obtain⟨t,rfl⟩:=rx;exact SeqAt.EqAt.none_str b t
  |_=>exact absurd (show false=true from fx) PU
 |bl a=>
  cases ry;cases x with
  |Ê=>cases rx;exact SeqAt.EqAt.bool_none a
  |bl b=>cases rx;exact SeqAt.EqAt.bool_bool a b
  |int b=>obtain⟨t,rfl⟩:=rx;exact SeqAt.EqAt.bool_int a b t
  |str b=>obtain⟨t,rfl⟩:=rx;exact SeqAt.EqAt.bool_str a b t
  |_=>exact absurd (show false=true from fx) PU
 |int a=>
  obtain⟨t',rfl⟩:=ry;cases x with
  |Ê=>cases rx;exact SeqAt.EqAt.int_none a t'
  |bl b=>cases rx;exact SeqAt.EqAt.int_bool a t' b
  |int b=>obtain⟨t,rfl⟩:=rx;exact XH a t' b t
  |str b=>obtain⟨t,rfl⟩:=rx;exact Xu a t' b t
  |_=>exact absurd (show false=true from fx) PU
 |str a=>
  obtain⟨t',rfl⟩:=ry;cases x with
  |Ê=>cases rx;exact SeqAt.EqAt.str_none a t'
  |bl b=>cases rx;exact SeqAt.EqAt.str_bool a t' b
  |int b=>obtain⟨t,rfl⟩:=rx;exact Xv a t' b t
  |str b=>obtain⟨t,rfl⟩:=rx;exact XI a t' b t
  |_=>exact absurd (show false=true from fx) PU
 |_=>exact absurd (show false=true from fy) PU
def ř(x:V)(u:Su):Bool:=match u with
 | .none=>eqV .Ê x
 | .bool b=>eqV (.bl b) x
 | .int i _=>eqV (.int i) x
 | .str z _=>eqV (.str z) x
 |_=>false
theorem Ht(r:Zv y u)(f:mV y=true):ř x u=eqV y x:=by
 cases y with
 |Ê=>cases r;rfl
 |bl b=>cases r;rfl
 |int i=>obtain⟨t,rfl⟩:=r;rfl
 |str z=>obtain⟨t,rfl⟩:=r;rfl
 |_=>exact absurd (show false=true from f) PU
theorem rZ:∀{xs:List V}{us:List Su},Zt xs us->xs.all mV=true->us.any (ř x)=xs.any λy=>eqV y x:=by
 intro xs us h;induction h with
 |nil=>intro _;rfl
 |cons r _ ih=>
  intro f;rw[RZ,QX]at f;rw[RI,RI,Ht r f.1,ih f.2]
theorem pV(rx:Zv x v)(fx:mV x=true):∀{xs:List V}{us:List Su},Zt xs us->xs.all mV=true->∀u∈us,VP A s u v (ř x u):=by
 intro xs us h;induction h with
 |nil=>intro _ u hu;cases hu
 |cons r _ ih=>
  intro f u' hu;rw[RZ,QX]at f;rcases Py.mp hu with rfl|hu
  ·rw[Ht r f.1];exact Mo r rx f.1 fx
  exact ih f.2 u' hu
def ý(x:V)(xs:List V):Bool:=xs.any λy=>eqV y x
def rIn(K:SE)(neg:Bool):R2:=λx y H Q=>∃p xs,y=.ref p/\(À K H p xs\/Ç K H p xs)/\mV x=true/\xs.all mV=true/\Q (.bl (if neg then !ý x xs else ý x xs)) H
theorem DY:Ó X (SW .In) (rIn X.K false):=by
 intro pins s B H x y v u Q I rx ry h;obtain⟨p,xs,rfl,hq,fx,fs,q⟩:=h;cases ry;rcases hq with hq|hq
 ·obtain⟨Â,r,pl,hz⟩:=I.list hq;refine SeqAt.in_listAt (ř x) pl.isList (λw hw=>pV rx fx r fs w (by simpa using hw)) {.bl _,H,I,rfl,?_};rw[show Â.toArray.any (ř x)=Â.any (ř x) by simp,rZ r fs];exact q
 obtain⟨Â,r,pl,hz⟩:=I.tuple hq;refine SeqAt.in_tupleAt (ř x) pl (λw hw=>pV rx fx r fs w (by simpa using hw)) {.bl _,H,I,rfl,?_};rw[show Â.toArray.any (ř x)=Â.any (ř x) by simp,rZ r fs];exact q
theorem xH:Ó X (SW .NotIn) (rIn X.K true):=by
 intro pins s B H x y v u Q I rx ry h;obtain⟨p,xs,rfl,hq,fx,fs,q⟩:=h;cases ry;rcases hq with hq|hq
 ·obtain⟨Â,r,pl,hz⟩:=I.list hq;refine XJ (ř x) pl.isList (λw hw=>pV rx fx r fs w (by simpa using hw)) {.bl _,H,I,rfl,?_};rw[show Â.toArray.any (ř x)=Â.any (ř x) by simp,rZ r fs];exact q
 obtain⟨Â,r,pl,hz⟩:=I.tuple hq;refine SeqAt.notIn_tupleAt (ř x) pl (λw hw=>pV rx fx r fs w (by simpa using hw)) {.bl _,H,I,rfl,?_};rw[show Â.toArray.any (ř x)=Â.any (ř x) by simp,rZ r fs];exact q
theorem xR:Ó X (SW .NotIn) (λx y H Q=>∃i j,x=.str i/\y=.str j/\Q (.bl (!(!(TL j i 0 ↥j 1).isEmpty))) H):=by
 intro pins s B H x y v u Q I rx ry h;obtain⟨i,j,rfl,rfl,q⟩:=h;obtain⟨t,rfl⟩:=rx;obtain⟨t',rfl⟩:=ry;exact notIn_str {.bl _,H,I,rfl,q}
theorem dY.or(h:dY X f r)(h':dY X f r'):dY X f (λxs H Q=>r xs H Q\/r' xs H Q):=by
 intro pins s B H xs us Q I rs q;rcases q with q|q
 ·exact h pins s B H xs us Q I rs q
 exact h' pins s B H xs us Q I rs q
theorem xM:dY X (.type "list") (λxs H Q=>∃p ys,xs=[.ref p]/\(À X.K H p ys\/Ç X.K H p ys)/\∀l,H l=Zr->Q (.ref l) (upd H l (.lst ys))):=by
 intro pins s B H xs us Q I r h;obtain⟨p,ys,rfl,hq,q⟩:=h;obtain⟨u,rfl,rx⟩:=ZG r;cases rx;have fin:∀(Â:List Su),Zt ys Â->↥ys<=sizeLine->∀(h':Tb)(c':Nat),(∀b o',s.heap.get? b=Zq o'->h'.get? b=Zq o')->
   h'.get? ⇑s=Zq { cls:=.type "list",dict:=Zr,data:=.seq Â.toArray c',slots:=#[] }->EP X pins B Q (.ref ⇑s) { s with heap:=h' }:=λÂ r' hz h' c' kp e=>
  {.ref ⇑s,_,I.laid (t':=s.toks) kp (Px _) (show cP X.prog X.w _ h' _ (.lst ys)from⟨hz,Â,c',r',e⟩),rfl,q _ (I.È.fresh (Px _))}
 rcases hq with hq|hq
 ·obtain⟨Â,r',pl,hz⟩:=I.list hq;have hlen:=↥r';obtain⟨o,ho,hc,n,hd⟩:=pl.isList;exact call_list_seq p (.inl rfl) ho hc hd (λh' c' kp e=>fin Â r' hz h' c' kp e) (by simp only[P8]<;>lia)
 obtain⟨Â,r',pl,hz⟩:=I.tuple hq;have hlen:=↥r';obtain⟨o,ho,hc,n,hd⟩:=pl;exact call_list_seq p (.inr rfl) ho hc hd (λh' c' kp e=>fin Â r' hz h' c' kp e) (by simp only[P8]<;>lia)
def tyV(K:SE)(T:String)(x:V)(H:Hp):Prop:=match x with
 | .str _=>T="str"
 | .int _=>T="int"
 | .ref p=>(T="list"/\∃xs,À K H p xs)\/(T="tuple"/\∃o,K.lookup p=Zq o/\o.cls=.type "tuple"/\o.dict=Zr)\/
   (T="dict"/\((∃kvs,H p=Zq (.dK kvs))\/∃kvs,H p=Zq (.dT kvs)))\/(T="set"/\∃S n,H p=Zq (.set S n))
 |_=>False
theorem G5(I:Inv X pins B H s)(r:Zv x v)(ty:tyV X.K T x H) :
  s.TypeIs v T/\∀a,v=.ref a->∃ob,s.heap.get? a=Zq ob/\ob.dict=Zr:=by
 cases x with
 |str z=>
  obtain⟨t,rfl⟩:=r
  cases (show T="str" from ty)
  exact{XE s z t,λ_ e=>nomatch e}
 |int i=>
  obtain⟨t,rfl⟩:=r
  cases (show T="int" from ty)
  exact{YQ s i t,λ_ e=>nomatch e}
 |ref p=>
  cases r
  rcases ty with⟨rfl,xs,hq⟩|⟨rfl,o,hk,hc,hd⟩|⟨rfl,hk⟩|⟨rfl,S,n,hk⟩
  ·obtain⟨Â,_,pl,_⟩:=I.list hq;refine{pl.isList.typeIs,λa e=>?_};cases e;obtain⟨o,n,e,c,hd,_⟩:=pl;exact⟨o,e,hd⟩
  ·refine{⟨o,I.ü p o hk,hc⟩,λa e=>?_};cases e;exact{o,I.ü _ o hk,hd}
  ·have z:∃o,s.heap.get? p=Zq o/\o.ExactDict:=by
    rcases hk with⟨kvs,hk⟩|⟨kvs,hk⟩
    ·obtain⟨_,_,_,_,o,_,_,e,ex,_⟩:=I.È p _ hk;exact⟨o,e,ex⟩
    obtain⟨_,_,_,_,o,_,_,e,ex,_⟩:=I.È p _ hk;exact⟨o,e,ex⟩
   obtain⟨o,e,ex⟩:=z;refine{⟨o,e,ex.1⟩,λa e2=>?_};cases e2;exact⟨o,e,ex.2.1⟩
  obtain⟨o,_,_,_,e,ex,_⟩:=I.È p _ hk
  refine{⟨o,e,ex.1⟩,λa e2=>?_}
  cases e2
  exact⟨o,e,ex.2.1⟩
 |_=>exact TK ty
def MR(K:SE)(T:String)(r:V->List V->Hp->VK->Prop)(to:TE):TE:=λB H Q=>to B H λx H1=>tyV K T x H1/\r x [] H1 Q
def tBM(K:SE)(T:String)(r:V->List V->Hp->VK->Prop)(to:TE)(t:TA):TE:=λB H Q=>to B H λx H1=>tyV K T x H1/\t B H1 λxs H2=>r x xs H2 Q
variable{o e:Expr}{es:List Expr}{to:TE}{t:TA}{name:Str}{apos Ï:Pos}{T id:String}{r:V->List V->Hp->VK->Prop}
theorem KA(pa:PlainAttrs T)(slot:Slot T name id)(hty:typeOf (.builtin id)=pure (.type "method_descriptor"))(hm:MtR X id r)(ho:PE X o to)
  (í:T7 o name X.env (Ts o X.env)=Ts o X.env:=by rfl) (ë:(apos.endLine==Ï.line)=true:=by rfl):PE X (.Call (.Attribute o name apos) [] [] Ï) (MR X.K T r to):=by
 intro pins s B H Q I h
 refine wpAny_Call_method0_late í ë (Ì (ho pins s B H _ I h) λv s1 z9=>?_);obtain⟨x,H1,I1,r1,ty,q1⟩:=z9
 obtain⟨h1,h2⟩:=G5 I1 r1 ty
 exact{T,id,pa,slot,hty,h1,h2,Ve rfl (PySem.evalArgs_none (hm pins s1 B H1 x [] v [] Q I1 r1 .nil q1))}
theorem E3(pa:PlainAttrs T)(slot:Slot T name id)(hty:typeOf (.builtin id)=pure (.type "method_descriptor"))(hm:MtR X id r)(ho:PE X o to)(ha:PA X (e::es) t)
  (í:T7 o name X.env (Ts o X.env)=Ts o X.env:=by rfl)
  (Ř:((TB Ï (SG (e::es) X.env)).all (λx=>!x.1)&&(Uv Ï (TM [] X.env)).all (λx=>x.1.isSome)
   &&decide ((e::es).length+([]:List UT).length+(if([]:List UT).isEmpty then 0 else 1)<30))=true:=by rfl)
  (ë:(apos.endLine==Ï.line)=true:=by rfl) (hs:SG (e::es) X.env=(false,Ts e X.env)::SG es X.env:=by rfl) (õ:(TB Ï (SG es X.env)).any (·.1)=false:=by rfl) :
  PE X (.Call (.Attribute o name apos) (e::es) [] Ï) (tBM X.K T r to t):=by
 intro pins s B H Q I h
 refine wpAny_Call_method_late í Ř ë rfl (Ì (ho pins s B H _ I h) λv s1 z9=>?_);obtain⟨x,H1,I1,r1,ty,q1⟩:=z9
 obtain⟨h1,h2⟩:=G5 I1 r1 ty
 refine{T,id,pa,slot,hty,h1,h2,?_}
 have hA:=ha Ï pins s1 B H1 _ I1 q1
 rw[hs]at hA⊢
 refine Ve (by show(false||(TB Ï (SG es X.env)).any (·.1))=false;rw[õ]<;>rfl) (WV ?_)
 exact Ì hA λus s2 ⟨vs,H2,I2,r2,q2⟩=>hm pins s2 B H2 x vs v us Q I2 r1 r2 q2
end
def MtM(X:Cx)(id:String)(r:V->List V->Hp->VK->Prop):Prop:=
 ∀(pins:List (Sv×Obj))(s:Sy)(B:St)(H:Hp)(x:V)(xs:List V)(v:Su)(us:List Su)(Q:VK),Inv X pins B H s->Zv x v->Zt xs us->r x xs H Q->
  wpAny (SK X.prog X.w) X.A (call (.builtin id) (v::us)) (EP X pins B Q) X.xe s
theorem Zt.one(h:Zt [x] us):∃u,us=[u]/\Zv x u:=by
 cases h with
 |cons r t=>cases t;exact{_,rfl,r}
theorem Zt.zero:∀{us:List Su},Zt [] us->us=[]
 |_,.nil=>rfl
theorem Zt.dropLast(h:Zt xs us):Zt xs.dropLast us.dropLast:=by
 induction h with
 |nil=>exact .nil
 |cons r t ih=>
  cases t with
  |nil=>exact .nil
  |cons q t'=>exact .cons r ih
theorem Zt.rep(h:Zt xs us):∀k,Zt (SV k xs).flatten (SV k us).flatten
 |0=>.nil
 |k+1=>by
  rw[Q3,Q3,RF,RF];exact Zt.append h (Zt.rep h k)
theorem Av{α:Type}(l:List α):l.eraseIdx (↥l-1)=l.dropLast:=by
 induction l with
 |nil=>rfl
 |cons a r ih=>
  cases r with
  |nil=>rfl
  |cons b r=>
   have e:(a::b::r).length-1=((b::r).length-1)+1:=by
    have h1:(a::b::r).length=↥r+2:=rfl;have h2:(b::r).length=↥r+1:=rfl;lia
   rw[e,List.eraseIdx_cons_succ,ih];all_goals rfl
theorem ZE(Â:List Su):∀k acc,
  YR (λx1 x2=>x1++x2) acc.toArray (SV k Â.toArray)=(acc++(SV k Â).flatten).toArray
 |0,acc=>by simp
 |k+1,acc=>by
  have e:acc.toArray++Â.toArray=(acc++Â).toArray:=by simp
  have e2:(acc++Â)++(SV k Â).flatten=acc++(SV (k+1) Â).flatten:=by
   rw[Q3,RF,P6]
  rw[<-e2,<-ZE Â k (acc++Â),<-e,Q3,QS]
section
variable{X:Cx}{pins:List (Sv×Obj)}{B:St}{H:Hp}{s:Sy}{l b:Sv}{xs ys zs:List V}
theorem Inv.K8{Â its':List Su}{n:Nat}{f:Array Su->Array Su}{t':Nat}(I:Inv X pins B H s)(hH:H l=Zq (.lst xs))
  (e:s.heap.get? l=Zq { cls:=.type "list",data:=.seq Â.toArray n }) (hf:f Â.toArray=its'.toArray) (hv:Zt ys its') (hz:↥ys<=sizeLine) :
  Inv X pins B (upd H l (.lst ys)) { s with heap:=s.heap.update l (To f),toks:=t' }:=by
 have q:=PySem.IsL.update e f
 rw[hf]at q
 refine I.write (x:=l) (e:=l) (by rw[hH];exact trivial) (.inl rfl) (λb' u hb hu=>(Tp s.heap (To f) (P9 hb)).trans hu) {_,q} ?_
 exact{hz,its',_,hv,q}
theorem Inv.Ld(I:Inv X pins B H s)(hv:Zt ys Â)(hz:↥ys<=sizeLine) :
  Inv X pins B (upd H ⇑s (.lst ys)) { s with heap:=s.heap.push { cls:=.type "list",data:=.seq Â.toArray },toks:=t' }:=
 I.laid (λ_ _ q=>Sx _ q) (Px _) {hz,Â,0,hv,SJ _ rfl}
theorem Inv.fresh(I:Inv X pins B H s):H ⇑s=Zr:=I.È.fresh (Px _)
theorem Inv.Bd(I:Inv X pins B H s)(hH:H l=Zq (.lst xs)):↥xs<=sizeLine/\∃Â n,Zt xs Â/\↥xs=↥Â/\s.heap.get? l=Zq { cls:=.type "list",data:=.seq Â.toArray n }:=by
 obtain⟨z,Â,n,r,e⟩:=I.È l _ hH;exact⟨z,Â,n,r,↥r,e⟩
theorem yB(h:n<=sizeLine):Ur n=false:=by
 unfold Ur;exact decide_eq_false ()
end
section
variable{X:Cx}
inductive xX(x:V)(vs:List V)(H:Hp)(Q:VK):Prop
 |mk (l xs y) (h0:x=.ref l) (h1:vs=[y]) (h2:H l=Zq (.lst xs)) (h3:↥xs<sizeLine) (q:Q .Ê (upd H l (.lst (xs++[y])))):xX x vs H Q
theorem wB:MtM X "list.append" xX:=by
 intro pins s B H x vs v us Q I rx rv h;obtain⟨l,xs,y,rfl,rfl,hH,hz,q⟩:=h;cases rx;obtain⟨u,rfl,ru⟩:=rv.one;obtain⟨z,Â,n,r,hl,e⟩:=I.Bd hH;refine Vr F.slot_list_append {_,e,rfl} F.entry_list_append (F.args_list_append_2 _ _) (PySem.list_append l Â.toArray n u (by rw[P8];lia)) {e,?_};refine{.Ê,_,I.K8 (its':=Â++[u]) hH e (by simp) (r.append (.cons ru .nil)) ?_,rfl,q};rw[Pq,Pw];lia
def Bu:V->List V->Hp->VK->Prop:=λx vs H Q=>∃l b xs zs,x=.ref l/\vs=[.ref b]/\H l=Zq (.lst xs)/\H b=Zq (.lst zs)/\↥xs+↥zs<=sizeLine/\Q .Ê (upd H l (.lst (xs++zs)))
theorem Dy:MtM X "list.extend" Bu:=by
 intro pins s B H x vs v us Q I rx rv h;obtain⟨l,b,xs,zs,rfl,rfl,hH,hB,hz,q⟩:=h;cases rx;obtain⟨u,rfl,ru⟩:=rv.one;cases ru;obtain⟨z,Â,n,r,hl,e⟩:=I.Bd hH;obtain⟨z2,ľ,n2,r2,hl2,e2⟩:=I.Bd hB;have hsz:Â.toArray.size+ľ.toArray.size<=sizeLine:=by rw[P8,P8];lia
 have ϛ:¬ (!Â.toArray.isEmpty&&Ur (Â.toArray.size+ľ.toArray.size))=true:=by
  rw[yB hsz,RX];exact PU
 refine Vr F.slot_list_extend {_,e,rfl} F.entry_list_extend (F.args_list_extend_2 _ _)
  (AutoSeq1.list_extend_list_list_0 l Â.toArray n b ľ.toArray n2 ϛ (by rw[P8];lia) ()) {e,e2,?_}
 refine{.Ê,_,I.K8 (its':=Â++ľ) hH e (by simp) (r.append r2) ?_,rfl,q};rw[Pq];lia
inductive Jl(x:V)(vs:List V)(H:Hp)(Q:VK):Prop
 |mk (l xs y) (h0:x=.ref l) (h1:vs=[]) (h2:H l=Zq (.lst xs)) (h3:xs[↥xs-1]?=Zq y) (q:Q y (upd H l (.lst xs.dropLast))):Jl x vs H Q
theorem K6:MtM X "list.pop" Jl:=by
 intro pins s B H x vs v us Q I rx rv h;obtain⟨l,xs,y,rfl,rfl,hH,hy,q⟩:=h;cases rx;have hus:=rv.zero;subst hus;obtain⟨z,Â,n,r,hl,e⟩:=I.Bd hH;obtain⟨u,hu,ru⟩:=r.get hy;have Ν:Â.toArray[Â.toArray.size-1]?=Zq u:=by
  show Â.toArray[↥Â-1]?=Zq u;rw[<-Qz,<-hl];exact hu
 refine Vr F.slot_list_pop {_,e,rfl} F.entry_list_pop (F.args_list_pop_1 _) (MeetsSeq.list_pop_last l Â.toArray n u Ν (by rw[P8];lia)) {e,?_};refine{y,_,I.K8 (its':=Â.dropLast) hH e ?_ r.dropLast ?_,ru,q}
 ·show Â.toArray.eraseIdxIfInBounds (Â.toArray.size-1)=Â.dropLast.toArray;rw[P8,List.eraseIdxIfInBounds_toArray,Av]
 rw[List.length_dropLast];lia
def NQ:R2:=λx y H Q=>∃l b xs zs,x=.ref l/\y=.ref b/\H l=Zq (.lst xs)/\H b=Zq (.lst zs)/\↥xs+↥zs<=sizeLine/\∀p,H p=Zr->Q (.ref p) (upd H p (.lst (xs++zs)))
theorem Lj:Ó X (TX .Add) NQ:=by
 intro pins s B H x y v u Q I rx ry h;obtain⟨l,b,xs,zs,rfl,rfl,hH,hB,hz,q⟩:=h;cases rx;cases ry;obtain⟨z,Â,n,r,hl,e⟩:=I.Bd hH;obtain⟨z2,ľ,n2,r2,hl2,e2⟩:=I.Bd hB;refine PySem.P.add_list e e2 ?_ (by rw[P8,P8];lia);have ea:Â.toArray++ľ.toArray=(Â++ľ).toArray:=by simp
 rw[ea];exact{.ref _,_,I.Ld (t':=s.toks) (r.append r2) (by rw[Pq];lia),rfl,q _ I.fresh}
def OW:R2:=λx y H Q=>∃l k xs,x=.ref l/\y=.int k/\H l=Zq (.lst xs)/\-(2^63)<=k/\k<2^63/\↥xs*k.toNat<=sizeLine/\
 ∀p,H p=Zr->Q (.ref p) (upd H p (.lst (SV k.toNat xs).flatten))
theorem len_rep{α:Type}(xs:List α) (k):(SV k xs).flatten.length=k*↥xs:=by
 induction k with
 |zero=>simp
 |succ k ih=>rw[Q3,RF,Pq,ih,Nat.succ_mul,Nat.add_comm]
theorem Mq:Ó X (TX .Mult) OW:=by
 intro pins s B H x y v u Q I rx ry h;obtain⟨l,k,xs,rfl,rfl,hH,h1,h2,hz,q⟩:=h;cases rx;obtain⟨t,rfl⟩:=ry;obtain⟨z,Â,n,r,hl,e⟩:=I.Bd hH;have hlen:Â.toArray.size*k.toNat<=sizeLine:=by rw[P8,<-hl];exact hz
 have hcap:¬ Â.toArray.size*k.toNat>(2^63-1)/8:=by
  have:(sizeLine:Nat)<=(2^63-1)/8:=∅
  lia
 have hfit:¬ (!Builtin.List.listFitsIndex k)=true:=by
  rw[fitsIndex_both h1 h2];exact PU
 have ϛ:¬ Ur (Â.toArray.size*k.toNat)=true:=by
  rw[yB hlen];exact PU
 have Χ:YR (λx1 x2=>x1++x2) #[] (SV (if Â.toArray.isEmpty=true then 0 else k.toNat) Â.toArray)=(SV k.toNat Â).flatten.toArray:=by
  have f0:∀m:Nat,YR (λx1 x2=>x1++x2) #[] (SV m Â.toArray)=(SV m Â).flatten.toArray:=λm=>by
   have:=ZE Â m [];rw[Qi]at this;exact this
  rw[f0];cases Â with
  |nil=>simp
  |cons a r'=>rw[if_neg (by simp)]
 refine wpAny_binaryOp_repeat_ref (T:="list") (U:="int") ∅ {_,e,rfl} (λs'=>YQ s' k t) noFill_list_mul F.fills_int_mul Yy repeat_list F.slot_int_index.lookup
  (Vr Yy (YQ s k t) F.entry_int_rmul (F.args_int_rmul_2 _ _) (int___rmul___int_list k t l Â.toArray n)
   {e,rfl,{_,e,rfl},Vr F.slot_list_mul {_,e,rfl} F.entry_list_mul (F.args_list_mul_2 _ _) (AutoListH.list___mul___list_int_3 l Â.toArray n k t hfit hcap ϛ) {e,?_}})
 rw[Χ];exact{.ref _,_,I.Ld (t':=s.toks) (r.rep k.toNat) (by rw[len_rep,Nat.mul_comm];exact hz),rfl,q _ I.fresh}
end
section
variable{prog:Program}{w:SM}{A:Td}{E:Su->Sy->Prop}{s:Sy}
end
section
variable{X:Cx}
end
end L2
namespace Att
open PySem PySem.W PySem.Calls PyProof.Rows
theorem rA:∀ns vs,WellAll P h vs (ns.map WData.int)->V1 vs ns:=by
 intro ns;induction ns with
 |nil=>
  intro vs w;rw[Sq]at w;cases w;exact .nil
 |cons n ns ih=>
  intro vs w;rw[P0]at w;cases w with
  |cons a b=>
   cases a;exact .cons _ _ (ih _ b)
theorem DU{l:OpenLaw}{n:Nat}(hn:l.most=Zq n){P:UJ}{h:Tb}{args:List WData}{vals:List Su}
  (Τ:l.row.toRowW.claim.pre args=true) (hwl:WellAll P h vals args) :
  ∃a vs ns,vals=[SO a]/\args=[WData.list (ns.map WData.int)]/\h.get? a=Zq { cls:=.type "list",data:=.seq vs.toArray }/\V1 vs ns/\↥ns<=n:=by
 have hsh:WShape.hasAll [] args [.list .int]=true:=(pre_splitW Τ).1
 have hc:l.pre.holds [] { args:=args }=true:=(pre_splitW Τ).2
 obtain⟨d,r,rfl,h1,h2⟩:=hasAllW_cons hsh
 obtain rfl:=hasAllW_nil h2
 obtain⟨xs,rfl,h3⟩:=hasW_list h1
 obtain⟨ns,rfl⟩:=items_int h3
 have hlen:↥ns<=n:=by
  unfold OpenLaw.pre at hc;have h4:(WTm.not (.lt (.lit (.int (n:Int))) (.len (.arg 0)))).holds [] { args:=[.list (ns.map .int)] }=true:=by
   have h4:=(holds_andW hc).1;rw[hn]at h4;exact h4
  have h5:=condW_of h4 (w_not (w_lt w_lit (w_len_list (w_arg rfl))));rw[Pr]at h5;refine Se λq=>?_;have q':(n:Int)<((↥ns:Nat):Int):=()
  first
   | (rw[decide_eq_true q']at h5;exact absurd h5 ∅)
   | (simp at h5;lia)
 cases hwl with
 |cons w1 w2=>
  cases w2
  cases w1 with
  |list ho Ϟ=>exact{_,_,ns,rfl,rfl,ho,rA ns _ Ϟ,hlen}
theorem Ef(l:OpenLaw)(args:List WData):l.row.toRowW.claim.post args (.bool true) args=true:=
 postW_of (r:=l.row.toRowW) (X:=(true==true))
  (show WShape.has [] (.bool true) .bool=true by first|rfl|decide|simp[WShape.has,WShape.arms,WShape.armsAll])
  (show(WTm.eq .res (.lit (.bool true))).value [] { args:=args,res:=Zq (.bool true),after:=args }=Zq (.bool (true==true))from w_eq_bool (w_res rfl) w_lit) rfl
theorem zZ{l:OpenLaw}{n:Nat}{q:Program}{loose:List Str}{XP:(Str->Option Su)->Tb->Prop}{YP:SM->Tb->Prop}{d:DefRec}
  (hn:l.most=Zq n) (hdf:d.params.defaults=[])
  (call:∀w s₀ s₁ mg mb fa o pm cd doc a vs ns,
   Ground q loose [] XP w s₀ mg mb s₁.heap->YP w s₁.heap->
   s₁.heap.get? fa=Zq o->o.data=.func (docDef d.name d.params d.body d.scope pm cd doc)->s₁.heap.CodeRec cd d.name->mg d.name=Zq (.ref fa)->
   s₁.heap.get? a=Zq { cls:=.type "list",data:=.seq vs.toArray }->V1 vs ns->↥ns<=n->s₁.gens=#[]->
   codeAny (SK l.prog w) Xb (.call (.ref fa) {[.ref a],[]}) (λr s'=>r=.ok (.ret (.bool true))/\OldK s₁.heap s'.heap/\s'.os=s₁.os/\VY s'.gens) s₁) :
  WalkO q loose XP YP l.row.toRowW d [] (λf vs=>YS f vs):=by
 intro w s₀ s₁ mg mb G Y fa o pm cd doc dV kV ho hd Ō hD hmg hg args vals as Τ hlay hrd hwl hlo
 obtain rfl:dV=.none:=Dflts.none hD hdf
 obtain rfl:kV=.none:=Dflts.noKw hD
 obtain⟨a,vs,ns,rfl,rfl,hobj,hints,hlen⟩:=DU hn Τ hwl
 refine enter_call (US (call w s₀ s₁ mg mb fa o pm cd doc a vs ns G Y ho (fd_plain hd) Ō hmg hobj hints hlen hg) λr s' hq=>?_)
 obtain⟨rfl,h2,h3,h4⟩:=hq
 exact{.inl {.bool true,.bool true,[],rfl,λ_=>rfl,.bool true,Ef l _,λ_=>{X5,λ_ hm=>(nomatch hm)}},h2,h3,h4}
section
variable{prog:Program}{w:SM}{A:Td}{E:Su->Sy->Prop}{s:Sy}{K:Frag}
end
end Att
namespace L2
open PySem PySem.Spec PyProof.Rows
theorem vQ:∀{vs:List Su}{ns:List Int},V1 vs ns->Zt (ns.map V.int) vs:=by
 intro vs ns h;induction h with
 |nil=>exact .nil
 |cons n t _ ih=>exact .cons ⟨t,rfl⟩ ih
def K4(H:Hp):Prop:=∀b,H b=Zr\/∃o xs,H b=Zq (.ā o (.lst xs))
theorem Fe{P w K mg mb CX k fa a fd x sp s₁ vs ns}
  (KX:K.In s₁.heap) (hns:s₁.heap.Ns SU mg) (hb:s₁.heap.Ns Wm mb) (hbb:∀x:Str,x≠"__name__"->mb x=T6 x) (hlim:s₁.heap.NoLimit) (hg:s₁.gens=#[])
  (ha:s₁.heap.get? a=Zq { cls:=.type "list",data:=.seq vs.toArray }) (hi:V1 vs ns) (hl:↥ns<=sizeLine) (hr:dW k Xb)
  (F:∀base:Tb,K.In base->base.Ns SU mg->j8 P w K mg base CX k fa fd [x] sp) (hbind:∀(s:Sy)(u:Su),Wt s fd {[u],[]} [(x,u)])
  (ź:∀H:Hp,K4 H->À K H a (ns.map V.int)->sp [.ref a] H (λv _=>v=.bl true) λ_ _ _=>False)
  (hCX:∀H e s',CX [] H s₁ (λ_ _ _=>False) e s'->False) :
  codeAny (SK P w) Xb (.call (.ref fa) {[.ref a],[]}) (λr s'=>r=.ok (.ret (.bool true))/\OldK s₁.heap s'.heap/\s'.os=s₁.os/\VY s'.gens) s₁:=by
 have rv:=vQ hi
 have lenV:=↥hi
 have core:∀H:Hp,K4 H->À K H a (ns.map V.int)->û P w H s₁.heap->(∀b,H b≠Zr->b=a)->(H a≠Zr->K.lookup a=Zr)->
   codeAny (SK P w) Xb (.call (.ref fa) {[.ref a],[]}) (λr s'=>r=.ok (.ret (.bool true))/\OldK s₁.heap s'.heap/\s'.os=s₁.os/\VY s'.gens) s₁:=by
  intro H hO hS È hA hK
  have base_of:∀{b:Sv}{o:Obj},s₁.heap.get? b=Zq o->H b=Zr->(wV s₁.heap H).get? b=Zq o:=λe n=>Hn e n
  have noA:∀{b:Sv}{o:Obj}{es:Array Zd}{ep:Nat},s₁.heap.get? b=Zq o->o.data=.dict es ep->H b=Zr:=λ{b o es ep} e d=>by
   cases q:H b with
   |none=>rfl
   |some u=>
    have e':b=a:=hA b (by rw[q];simp);subst e';rw[ha]at e;cases e;have d':Data.seq vs.toArray _=Data.dict es ep:=d;cases d'
  have nsK:∀{b:Sv}{m:Str->Option Su},s₁.heap.Ns b m->(wV s₁.heap H).Ns b m:=λ{b m} ⟨o,es,ep,e,d,r⟩=>{o,es,ep,base_of e (noA e d),d,r}
  have hKb:K.In (wV s₁.heap H):=λb o e=>base_of (KX b o e) (by
   cases q:H b with
   |none=>rfl
   |some u=>
    have e':b=a:=hA b (by rw[q];simp);subst e';rw[hK (by rw[q];simp)]at e;cases e)
  have hM:Mod K mg (wV s₁.heap H):={hKb,nsK hns,⟨mb,nsK hb,hbb⟩,let ⟨mc,h1,h2⟩:=hlim;⟨mc,nsK h1,h2⟩}
  have e0:AI P w K mg (wV s₁.heap H) Xb [] s₁ H:={rfl,hM,λb o e=>Iw e,Rq (Ds _ _),trivial,λb hb=>absurd (show b∈([]:List Sv)from hb) (by simp),È,.of_eq hg}
  refine US ((F _ hKb (nsK hns)).run Xb [] s₁ H {[.ref a],[]} [.ref a] [.ref a] _ _ hr e0 (hbind s₁ (.ref a)) (.cons rfl .nil) (ź H hO hS)) λr s' h=>?_
  cases r with
  |error e=>exact(hCX H e s' h).elim
  |ok fl=>
   cases fl with
   |next=>exact TK h
   |brk=>exact TK h
   |cont=>exact TK h
   |ret u=>
    obtain⟨v,H',os,bare,un,hok',r',q⟩:=h
    have q':v=.bl true:=q
    subst q'
    obtain rfl:u=Xw true:=r'
    refine{rfl,OldK.of_keep λb o e=>?_,os,bare}
    cases q:H b with
    |none=>exact un.keep b o e q (by intro z;exact absurd (show b∈([]:List Sv)from z) (by simp)) (by simp)
    |some u=>
     rcases hO b with z|⟨ob,xs,z⟩
     ·rw[q]at z;cases z
     have z2:=un.qY b ob _ z
     obtain⟨e1,_⟩:=È b _ z
     obtain⟨e2,_⟩:=hok' b _ z2
     rw[e]at e1;cases e1
     exact e2
 cases hk:K.lookup a with
 |some o=>
  have e:=KX a o hk
  rw[ha]at e
  cases e
  refine core (λ_=>Zr) (λ_=>.inl rfl) (.inr {_,vs.toArray,_,hk,rfl,rfl,rfl,by rw[P8,lenV];exact hl,by simpa using rv}) (λb u z=>by have z':(Zr:Option HO)=Zq u:=z;cases z') (λb z=>absurd rfl z) λz=>absurd rfl z
 |none=>
  refine core (λb=>if b=a then Zq (.ā { cls:=.type "list",data:=.seq vs.toArray } (.lst (ns.map V.int)))else Zr) (λb=>?_) (.inl (.inr {{ cls:=.type "list",data:=.seq vs.toArray },if_pos rfl})) (λb u z=>?_) (λb z=>?_) λ_=>hk
  ·by_cases hb:b=a
   ·exact .inr {_,_,if_pos hb}
   exact .inl (if_neg hb)
  ·by_cases hb:b=a
   ·have z':=(if_pos hb).symm.trans z;cases z';subst hb;exact{ha,by rw[Pr];exact hl,vs,_,rv,ha}
   have z':=(if_neg hb).symm.trans z;cases z'
  by_cases hb:b=a
  ·exact hb
  exact absurd (if_neg hb) z
theorem Jt{l:Yd}{n k:Nat}{q:Program}{loose:List Str}{XP:(Str->Option Su)->Tb->Prop}{YP:SM->Tb->Prop}{d:DefRec}{K:UJ->SE}{CX:SM->CXT}{sp:SM->Sp}{x:Str}
  (hn:l.most=Zq n) (Ψ:n<=sizeLine) (hdf:d.params.defaults=[]) (hr:dW k Xb)
  (hY:∀(w:SM)(h:Tb),YP w h->(K w.params).In h)
  (F:∀(w:SM)(mg:Str->Option Su)(fa:Sv)(h:Tb),(K w.params).In h->h.Ns SU mg->mg d.name=Zq (.ref fa)->
   ∃fd:UO,(∀(s:Sy)(u:Su),Wt s fd {[u],[]} [(x,u)])/\
    ∀base:Tb,(K w.params).In base->base.Ns SU mg->j8 l.prog w (K w.params) mg base (CX w) k fa fd [x] (sp w))
  (ź:∀(w:SM)(H:Hp)(a:Sv)(ns:List Int),↥ns<=n->K4 H->À (K w.params) H a (ns.map V.int)->sp w [.ref a] H (λv _=>v=.bl true) λ_ _ _=>False)
  (hCX:∀(w:SM)(H:Hp)(s:Sy)(e:Su)(s':Sy),CX w [] H s (λ_ _ _=>False) e s'->False) :
  W.WalkO q loose XP YP l.row.toRowW d [] (λf vs=>YS f vs):=by
 refine Att.zZ hn hdf λw s₀ s₁ mg mb fa o pm cd doc a vs ns G Y ho hd Ō hmg hobj hints hlen hg=>?_
 have KX:=hY w _ Y
 obtain⟨fd,hb,hF⟩:=F w mg fa _ KX G.T.g hmg
 exact Fe KX G.T.g G.T.b G.T.builtins G.T.nolimit hg hobj hints (P2 hlen Ψ) hr hF hb (λH hO hS=>ź w H a ns hlen hO hS) λH e s'=>hCX w H s₁ e s'
abbrev ş:CXT:=λ_ _ _ _ _ _=>False
abbrev E0:XK:=λ_ _ _=>False
theorem vC:ZD ş X E0:=λ_ _ _ _ _ _ _ h=>h.elim
structure Fun(K:SE)(x qual:Str)(st:S0)(f:Sv)(fd:UO):Prop where
 ex:∃(oc:Su)(od:Option Sv)(kV doc pm:Su)(an:Option Sv)(Ã ct:Su)(ù:Array (Option Su)),
  fd=T8 x qual (bH st) (bj st) (aq st) .none kV doc pm an Ã ct/\K.lookup f=Zq ⟨oc,od,.func fd,ù⟩/\Vw K Ã qual=true
 kp:Uc K (.ref f)=true
section
variable{P:Program}{w:SM}{K:SE}{mg:Str->Option Su}{base:Tb}
theorem Fun.ok{x qual:Str}{st:S0}{f:Sv}{fd:UO}{N ps:List Str}{k:Nat}{sp:Sp}(F:Fun K x qual st f fd)(S:aE N ps (aq st))(len:∀vs H Q E,sp vs H Q E->↥vs=↥ps)
  (ì:∀(Ã:Su)(A:Td)(outer:List Env)(s:Sy)(H:Hp)(vs:List V)(Q:VK)(E:XK),dW k (A.deeper (UZ qual (aq st) ⇑s f Ã))->sp vs H Q E->
   ∃t,Į (uZ ş P w K mg base N qual (aq st) f Ã A outer s H E).Ϭ (bj st) t/\t { nx:=λ_ H'=>Q .Ê H',rt:=Q } (ZC N vs) H):j8 P w K mg base ş (k+1) f fd ps sp:=by
 obtain⟨oc,od,kV,doc,pm,an,Ã,ct,ù,rfl,lk,Ō⟩:=F.ex
 refine FQ lk Ō S len λA outer s H vs Q E hr ź=>?_
 obtain⟨t,h,q⟩:=ì Ã A outer s H vs Q E hr ź
 exact⟨t,h.Ϭ,q⟩
theorem Fun.binds{x qual:Str}{st:S0}{f:Sv}{fd:UO}{ps:List Str}(F:Fun K x qual st f fd)
  (h:∀(kV doc pm:Su)(an:Option Sv)(Ã ct:Su)(us:List Su),↥us=↥ps->bindArgs (T8 x qual (bH st) (bj st) (aq st) .none kV doc pm an Ã ct) {us,[]}=pure (ps.zip us)):Zy K fd ps []:=by
 obtain⟨oc,od,kV,doc,pm,an,Ã,ct,ù,rfl,lk,Ō⟩:=F.ex
 exact .all (h kV doc pm an Ã ct)
theorem xN{x qual:Str}{st:S0}{f:Sv}{oc:Su}{od an:Option Sv}{ù:Array (Option Su)}{kV doc pm Ã ct:Su}(l:K.lookup f=Zq {oc,od,.func (T8 x qual (bH st) (bj st) (aq st) .none kV doc pm an Ã ct),ù})
  (c:Vw K Ã qual=true) (k:Uc K (.ref f)=true):Fun K x qual st f (T8 x qual (bH st) (bj st) (aq st) .none kV doc pm an Ã ct):={⟨oc,od,kV,doc,pm,an,Ã,ct,ù,rfl,l,c⟩,k}
end
theorem aH(h:n<=1000):n<sizeLine:=RC h ∅
section
variable{X:Cx}
end
theorem a9{A Á:Prop}(h:Á):if false=true then A else Á:=by
 rw[if_neg PU];exact h
theorem bQ{A Á:Prop}(h:A):if true=true then A else Á:=by
 rw[if_pos rfl];exact h
theorem aV{c A Á:Prop}[Decidable c](h1:c->A)(h2:¬ c->Á):if c then A else Á:=by
 by_cases h:c
 ·rw[if_pos h];exact h1 h
 rw[if_neg h];exact h2 h
def aj(H H':Hp):Prop:=∀b o,H b=Zq o->H' b=Zq o
theorem aj.refl(H:Hp):aj H H:=λ_ _ h=>h
theorem aj.trans(a:aj H H1)(b:aj H1 H2):aj H H2:=λc o h=>b c o (a c o h)
theorem aj.free(e:aj H H')(h:H' l=Up):H l=Up:=by
 cases q:H l with
 |none=>rfl
 |some o=>
  rw[e l o q]at h;cases h
theorem aj.seq{K:SE}{H H':Hp}{a:Sv}{xs:List V}(e:aj H H')(h:À K H a xs):À K H' a xs:=by
 rcases h with(h|⟨o,h⟩)|h
 ·exact .inl (.inl (e _ _ h))
 ·exact .inl (.inr {o,e _ _ h})
 exact .inr h
theorem qk{α β:Type}{l:List α}{f:α->β->Sem (ForInStep β)}(g:β->α->β)(c:β)(h:∀x∈l,∀c,f x c=pure (.yield (g c x))) :
  forIn l c f=pure (l.foldl g c):=by
 induction l generalizing c with
 |nil=>rfl
 |cons x l ih=>
  rw[List.forIn_cons,h x PH,pure_bind]
  exact ih _ λy hy=>h y (PC _ hy)
def fR(env:Env)(cs:List (Str×Sv))(x:Str×Uw):List (Str×Sv):=
 if x.2== .free then(x.1,(env.cells.lookup x.1).getD 0)::cs else cs
def tu(env:Env)(names:List (Str×Uw)):List (Str×Sv):=names.foldl (fR env) []
theorem rb(h:∀x∈scope.names,x.2=.free->∃c,env.cells.lookup x.1=Zq c):closureFor scope env=pure (tu env scope.names):=by
 simp only[closureFor];rw[qk (fR env) [] (λx hx c=>by
  obtain⟨n,kind⟩:=x;cases hk:kind==TV with
  |false=>simp only[fR,hk,Qy,if_false]
  |true=>
   obtain⟨a,ha⟩:=h (n,kind) hx (by simpa using hk);have ha':env.cells.lookup n=Zq a:=ha;simp only[fR,hk,if_true,cellOf,ha',Option.getD_some,pure_bind])]
 rfl
theorem ue:∀{names:List (Str×Uw)}{cs:List (Str×Sv)}{n:Str}{c:Sv},(n,c)∈names.foldl (fR env) cs->(n,c)∈cs\/((n,TV)∈names/\c=(env.cells.lookup n).getD 0)
 | [],_,_,_,h=>.inl h
 | (m,k)::r,cs,n,c,h=>by
  rcases ue (names:=r) (cs:=fR env cs (m,k)) h with h|⟨h,e⟩
  ·unfold fR at h;by_cases hk:(k==TV)=true
   ·rw[if_pos hk]at h;rcases Py.mp h with e|h
    ·cases e;have Ϝ:k=.free:=by simpa using hk
     subst Ϝ;exact .inr ⟨PH,rfl⟩
    exact .inl h
   rw[if_neg hk]at h;exact .inl h
  exact .inr {PC _ h,e}
theorem vS:∀{names:List (Str×Uw)}{cs:List (Str×Sv)},p∈cs->p∈names.foldl (fR env) cs
 | [],_,h=>h
 |x::r,cs,h=>vS (names:=r) (cs:=fR env cs x) (by
  unfold fR;split
  ·exact PC _ h
  exact h)
theorem x8:∀{names:List (Str×Uw)}{cs:List (Str×Sv)},(n,TV)∈names->(n,(env.cells.lookup n).getD 0)∈names.foldl (fR env) cs
 |x::r,cs,h=>by
  rcases Py.mp h with e|h
  ·subst e;refine vS (names:=r) (cs:=fR env cs (n,.free)) ?_;unfold fR;rw[if_pos (by rfl)];exact PH
  exact x8 (names:=r) h
theorem jw{α:Type}:∀{l:List (Str×α)}{n:Str}{c:α},(n,c)∈l->∃c',l.lookup n=Zq c'
 | (k,v)::r,n,c,h=>by
  rw[Q5];cases hb:n==k with
  |true=>exact⟨v,rfl⟩
  |false=>
   rcases Py.mp h with e|h
   ·cases e;simp at hb
   exact jw h
theorem gh:∀{names:List (Str×Uw)}{k:Nat}{acc:List (Str×Sv)}{n:Str}{c:Sv},(n,c)∈TC k names acc->(n,c)∈acc\/(k<=c/\(n,Tw)∈names)
 | [],_,_,_,_,h=>.inl h
 | (m,kd)::r,k,acc,n,c,h=>by
  unfold TC at h;by_cases hk:(kd==Tw)=true
  ·rw[if_pos hk]at h;have Ϝ:kd=.cell:=by simpa using hk
   subst Ϝ;rcases gh (names:=r) h with h|⟨h1,h2⟩
   ·rcases Py.mp h with e|h
    ·cases e;exact .inr {Px _,PH}
    exact .inl h
   exact .inr {(),PC _ h2}
  rw[if_neg hk]at h;rcases gh (names:=r) h with h|⟨h1,h2⟩
  ·exact .inl h
  exact .inr {h1,PC _ h2}
theorem ju:∀{names:List (Str×Uw)}{k:Nat}{acc:List (Str×Sv)},(∀n c,(n,c)∈acc->c<k)->(∀n n' c,(n,c)∈acc->(n',c)∈acc->n=n')->
  ∀{n n':Str}{c:Sv},(n,c)∈TC k names acc->(n',c)∈TC k names acc->n=n'
 | [],_,_,_,hi,_,_,_,h,h'=>hi _ _ _ h h'
 | (m,kd)::r,k,acc,hl,hi,n,n',c,h,h'=>by
  unfold TC at h h';by_cases hk:(kd==Tw)=true
  ·rw[if_pos hk]at h h';refine ju (names:=r) (acc:=(m,k)::acc) (λa b Ų=>?_) (λa a' b ha ha'=>?_) h h'
   ·rcases Py.mp Ų with e|e
    ·cases e;exact Q4 _
    exact QH (hl _ _ e)
   rcases Py.mp ha with e|e<;>rcases Py.mp ha' with e'|e'
   ·cases e;cases e';rfl
   ·cases e;exact absurd (hl _ _ e') (QO _)
   ·cases e';exact absurd (hl _ _ e) (QO _)
   exact hi _ _ _ e e'
  rw[if_neg hk]at h h';exact ju (names:=r) hl hi h h'
theorem iL:∀{names:List (Str×Uw)}{h:Tb}{acc:List (Str×Sv)}{n:Str}{c:Sv},(n,c)∈TC h.objs.size names acc->(n,c)∈acc\/(Vs h names).IsCell c Zr
 | [],_,_,_,_,q=>.inl q
 | (m,kd)::r,h,acc,n,c,q=>by
  unfold TC at q;unfold Vs;by_cases hk:(kd==Tw)=true
  ·rw[if_pos hk]at q;rw[if_pos hk];have e:h.objs.size+1=(h.push { cls:=.type "cell",data:=.cell Zr }).objs.size:=(T9 ..).symm;rw[e]at q;rcases iL (names:=r) q with q|q
   ·rcases Py.mp q with e'|q
    ·cases e';exact .inr {_,U6 r _ _ _ (SJ _ rfl),rfl}
    exact .inl q
   exact .inr q
  rw[if_neg hk]at q;rw[if_neg hk];exact iL (names:=r) q
theorem jy:∀{names:List (Str×Uw)}{k:Nat}{acc:List (Str×Sv)},(x,Tw)∉names->(TC k names acc).lookup x=acc.lookup x
 | [],_,_,_=>rfl
 | (m,kd)::r,k,acc,h=>by
  unfold TC;have hr:(x,Tw)∉r:=λz=>h (PC _ z);by_cases hk:(kd==Tw)=true
  ·have Ϝ:kd=.cell:=by simpa using hk
   subst Ϝ;rw[if_pos hk,jy hr,Q5];have ne:(x==m)=false:=by
    cases hb:x==m with
    |false=>rfl
    |true=>exact absurd (by rw[beq_iff_eq.mp hb];exact PH) h
   rw[ne]
  rw[if_neg hk];exact jy hr
section
variable{M:Model}{A:Td}{E:Su->Sy->Prop}{s:Sy}
theorem zt
  (h:Q (newEnv scope ⇑s globals (TC (⇑s+1) scope.names cl) qual Zr .none (Zq Ff) Wm) { s with heap:=Vs (s.heap.push { cls:=.type "dict",data:=.dict #[] }) scope.names }) :
  wpAny M A (YT scope globals cl [] qual Zr .none (Zq Ff)) Q E s:=by
 simp only[YT,XM,if_true]
 refine E9 (wpAny_alloc ?_)
 refine E9 (wpAny_layCells _ (λname kind cells=>by cases hkc:kind==Tw<;>simp[hkc]) _ _ _ _ ?_)
 rw[show({ s with heap:=s.heap.push { cls:=.type "dict",data:=.dict #[] } }:Sy).heap.objs.size=⇑s+1 from T9 ..]
 refine E9 ?_
 rw[List.forIn_nil]
 exact Sw (Sw h)
end
structure CB where
 C:Sv
 ex:List Sv
 s:Sy
 H:Hp
def ĕ(X:Cx)(N:List Str)(scope:WD)(b:CB):Cx:={ X with
 N:=N
 s₀:=b.s
 H₀:=b.H
 env:=compEnvC scope (TC (b.C+1) scope.names (tu X.env scope.names)) b.C X.env
 outer:=X.stack
 ex:=b.ex
 fn:=λx=>scope.names.lookup x==Zq .cell
 pn:=[]
 xe:=λ_ _=>False }
theorem nA{env:Env}{x:Str}:∀{names:List (Str×Uw)},
  (names.map λ(n,k)=>if(k==TV&&env.scope.kind== .function&&env.kindOf n==Zq .cell)then(n,Tw)else(n,k)).lookup x=
   (names.lookup x).map λk=>if(k==TV&&env.scope.kind== .function&&env.kindOf x==Zq .cell)then Tw else k
 | []=>rfl
 | (n,k)::r=>by
  have ih:=@nA env x r;show UN x ((if(k==TV&&env.scope.kind== .function&&env.kindOf n==Zq .cell)=true then(n,Tw)else(n,k))::_)=_;cases hx:x==n with
  |true=>
   have e:x=n:=beq_iff_eq.mp hx;subst e;by_cases hc:(k==TV&&env.scope.kind== .function&&env.kindOf x==Zq .cell)=true
   ·rw[if_pos hc];simp only[Q5,hx,QT,hc,if_true]
   rw[if_neg hc];simp only[Q5,hx,QT];rw[if_neg hc]
  |false=>
   by_cases hc:(k==TV&&env.scope.kind== .function&&env.kindOf n==Zq .cell)=true
   ·rw[if_pos hc];simp only[Q5,hx];exact ih
   rw[if_neg hc];simp only[Q5,hx];exact ih
structure cf(psc:WD)(PN N:List Str)(own:Nat)(fr:List Nat)(scope:WD):Prop where
 kind:scope.kind=.function
 nd:(scope.names.map (·.1)).Nodup
 free:∀x∈scope.names,x.2=.free->psc.names.lookup x.1=Zq .cell\/psc.names.lookup x.1=Zq .free
 len:N.length=own+↥fr
 frn:∀i,i<↥fr->N[own+i]?=(fr[i]?).bind λj=>PN[j]?
 frk:∀i,i<↥fr->∀y,N[own+i]?=Zq y->scope.names.lookup y=Zq .free
def BO(psc:WD)(PN N:List Str)(own:Nat)(fr:List Nat)(scope:WD):Bool:=
 scope.kind== .function&&decide (scope.names.map (·.1)).Nodup&&scope.names.all (λx=>x.2 != .free||(psc.names.lookup x.1==Zq .cell||psc.names.lookup x.1==Zq .free))&&
  (N.length==own+↥fr)&&((fr.map λj=>PN[j]?)==(N.drop own).map Zq)&&(N.drop own).all (λy=>scope.names.lookup y==Zq .free)
theorem cf.of(h:BO psc PN N own fr scope=true):cf psc PN N own fr scope:=by
 unfold BO at h;simp only[QX]at h;obtain⟨⟨⟨⟨⟨h1,h2⟩,h3⟩,h4⟩,h5⟩,h6⟩:=h;have h4':N.length=own+↥fr:=eq_of_beq h4;have h5':(fr.map λj=>PN[j]?)=(N.drop own).map Zq:=eq_of_beq h5;have dr:∀i,N[own+i]?=(N.drop own)[i]?:=λi=>by rw[XN]
 refine{eq_of_beq h1,of_decide_eq_true h2,λx hx hk=>?_,h4',λi hi=>?_,λi hi y hy=>?_}
 ·have q:=Rt.mp h3 x hx;rw[hk]at q;simpa using q
 ·have q:=congrArg (λl=>l[i]?) h5';simp only[P5]at q;rw[dr];have ej:fr[i]?=Zq fr[i]:=PB hi;rw[ej]at q⊢;cases e:(N.drop own)[i]? with
  |none=>rw[e]at q;cases q
  |some y=>
   rw[e]at q;exact(SN q).symm
 rw[dr]at hy;have q:=Rt.mp h6 y (P4 hy);simpa using q
def cSt(own:Nat)(fr:List Nat)(B:St):St:=SV own Zr++fr.map λj=>(B[j]?).getD Zr
theorem gS{α:Type}:∀{l:List (Str×α)}{n:Str}{k:α},(l.map (·.1)).Nodup->(n,k)∈l->l.lookup n=Zq k
 | (m,v)::r,n,k,nd,h=>by
  rw[P0,Qt]at nd;rw[Q5];rcases Py.mp h with e|h
  ·cases e;simp
  have ne:(n==m)=false:=by
   cases hb:n==m with
   |false=>rfl
   |true=>exact absurd (PM.mpr {(n,k),h,beq_iff_eq.mp hb}) nd.1
  rw[ne];exact gS nd.2 h
section
variable{X:Cx}{pins:List (Sv×Obj)}{B:St}{H:Hp}{s:Sy}{N:List Str}{own:Nat}{fr:List Nat}{scope:WD}
theorem cf.cells(S:cf X.env.scope X.N N own fr scope)(ok:X.Ok):∀x∈scope.names,x.2=.free->∃c,X.env.cells.lookup x.1=Zq c:=λx hx hk=>
 ok.has x.1 (S.free x hx hk)
theorem cf.cl(S:cf X.env.scope X.N N own fr scope)(ok:X.Ok)(h:(n,c)∈tu X.env scope.names):X.env.cells.lookup n=Zq c:=by
 rcases ue h with h|⟨h,e⟩
 ·cases h
 obtain⟨c',e'⟩:=S.cells ok (n,.free) h rfl;have e2:X.env.cells.lookup n=Zq c':=e';rw[e2]at e;rw[e,e2];rfl
theorem FT(S:cf X.env.scope X.N N own fr scope)(I:Inv X pins B H s)(hD:D=⇑s)(hC:C=⇑s+1)
  (hh:h'=Vs ((s.heap.push { cls:=.type "list",data:=.seq #[] }).push { cls:=.type "dict",data:=.dict #[] }) scope.names) (hfp:∀b∈fp,sV X pins H b) (Ý:∀b∈fp,b<⇑s) :
  Inv (ĕ X N scope ⟨C,fp,s,H⟩) [] (cSt own fr B) (upd H D (.lst [])) { s with heap:=h' }:=by
 subst hD hC
 have eD:(s.heap.push { cls:=.type "list",data:=.seq #[] }).objs.size=⇑s+1:=T9 ..
 have eC:((s.heap.push { cls:=.type "list",data:=.seq #[] }).push { cls:=.type "dict",data:=.dict #[] }).objs.size=⇑s+2:=by rw[T9,eD]
 have keep:∀b o,s.heap.get? b=Zq o->h'.get? b=Zq o:=λb o e=>by
  rw[hh];exact U6 _ _ _ _ (Sx _ (Sx _ e))
 have lst:h'.get? ⇑s=Zq { cls:=.type "list",data:=.seq #[] }:=by
  rw[hh];exact U6 _ _ _ _ (Sx _ (SJ _ rfl))
 have dct:h'.get? (⇑s+1)=Zq { cls:=.type "dict",data:=.dict #[] }:=by
  rw[hh];refine U6 _ _ _ _ ?_;have:=SJ (s.heap.push { cls:=.type "list",data:=.seq #[] }) (o:={ cls:=.type "dict",data:=.dict #[] }) rfl;rw[eD]at this;exact this
 have hnD:H ⇑s=Zr:=I.È.fresh (Px _)
 have hnC:H (⇑s+1)=Zr:=I.È.fresh (Q7 _)
 have Ů:∀{n:Str}{c:Sv},(n,c)∈tu X.env scope.names->X.env.cells.lookup n=Zq c:=λh=>S.cl I.ok h
 have clt:∀{n:Str}{c:Sv},X.env.cells.lookup n=Zq c->c<⇑s:=λh=>by
  obtain⟨v,z⟩:=I.cell _ _ h;exact z.lt
 have cases_:∀{n:Str}{c:Sv},(TC (⇑s+1+1) scope.names (tu X.env scope.names)).lookup n=Zq c->X.env.cells.lookup n=Zq c\/(⇑s+2<=c/\(n,Tw)∈scope.names/\h'.IsCell c Zr):=λ{n c} h=>by
  have hm:=SY h;have Ā:=hm;rw[show ⇑s+1+1=((s.heap.push { cls:=.type "list",data:=.seq #[] }).push { cls:=.type "dict",data:=.dict #[] }).objs.size from eC.symm]at Ā;rcases gh hm with h1|⟨h1,h2⟩
  ·exact .inl (Ů h1)
  rcases iL Ā with h3|h3
  ·exact .inl (Ů h3)
  exact .inr {h1,h2,by rw[hh];exact h3}
 have kindOf:∀x,(ĕ X N scope {⇑s+1,fp,s,H}).env.kindOf x=(scope.names.lookup x).map λk=>if(k==TV&&X.env.scope.kind== .function&&X.env.kindOf x==Zq .cell)then Tw else k:=λx=>nA
 have δ:∀x,((ĕ X N scope {⇑s+1,fp,s,H}).env.kindOf x=Zq .cell\/(ĕ X N scope {⇑s+1,fp,s,H}).env.kindOf x=Zq .free)->∃c,(TC (⇑s+1+1) scope.names (tu X.env scope.names)).lookup x=Zq c:=λx hx=>by
  rw[kindOf]at hx;have h2:scope.names.lookup x=Zq .cell\/scope.names.lookup x=Zq .free:=by
   cases e:scope.names.lookup x with
   |none=>rw[e]at hx;rcases hx with z|z<;>cases z
   |some k=>
    rw[e]at hx;by_cases hk:k=.free
    ·exact .inr (by rw[hk])
    have Ϝ:(k==TV)=false:=by simpa using hk
    simp only[QT,Ϝ,RW,Qy,if_false]at hx;rcases hx with z|z
    ·exact .inl z
    exact .inr z
  rcases h2 with h2|h2
  ·exact Q0.mp (Vp scope.names _ _ (.inl h2))
  obtain⟨c,hc⟩:=jw (x8 (env:=X.env) (cs:=[]) (SY h2));exact Q0.mp (Vp scope.names _ _ (.inr (by rw[show(tu X.env scope.names).lookup x=Zq c from hc];rfl)))
 have cellAt:∀x c,(TC (⇑s+1+1) scope.names (tu X.env scope.names)).lookup x=Zq c->∃v,h'.IsCell c v:=λx c e=>by
  rcases cases_ e with q|⟨_,_,q⟩
  ·obtain⟨v,o,ho,hd⟩:=I.cell x c q;exact⟨v,o,keep c o ho,hd⟩
  exact⟨Zr,q⟩
 refine⟨{I.ok.mod,S.kind,I.ok.glob,I.ok.blt,Q7 _,λy z c h1 h2=>?_,δ,λy c hy h=>?_,I.ok.hd,I.ok.frames,.inl rfl,λb hb=>{?_,λx c e z=>?_},λb o e=>I.bs b o e,P2 I.ok.ς I.sz,λb o e hb=>?_,λb hb hf=>?_,I.stack,I.Cc},
  rfl,I.bare,?_,{λ_=>Zr,{_,#[],_,dct,rfl,λe he=>absurd he (by simp),λ_=>rfl},λi x v h1 h2 h3=>?_},cellAt,?_,λx c e=>?_,λp hp=>absurd (show p∈([]:List (Sv×Obj))from hp) (by simp),?_,?_⟩
 ·
  refine ju (λn c hm=>?_) (λn n' c hm ŗ=>I.ok.inj n n' c (Ů hm) (Ů ŗ)) (SY h1) (SY h2);exact QH (QH (clt (Ů hm)))
 ·
  have Ν:scope.names.lookup y=Zq .cell:=by simpa using (show(scope.names.lookup y==Zq .cell)=true from hy)
  rcases cases_ h with q|⟨q,_⟩
  ·rcases gh (SY h)with q2|⟨q2,_⟩
   ·rcases ue q2 with z|⟨z,_⟩
    ·cases z
    have:=gS S.nd z;rw[Ν]at this;cases this
   exact P2 (QM _ 2) q2
  exact P2 (QM _ 2) q
 ·exact Qf (QH (Ý b hb))
 ·rcases cases_ e with q|⟨q,_⟩
  ·exact(hfp b hb).2.2.2.2.1 x c q z
  have hb':=Ý b hb;rw[<-z]at hb';exact absurd (Qe hb' (P2 (QM _ 2) q)) (QO _)
 ·rcases(hfp b hb).2.2.2.1 with z|z
  ·exact I.ok.ED b o e z
  exact QO _ (Qe (SI e) (P2 I.ok.ς z))
 ·rcases Py.mp (I.Ad b hf)with z|z
  ·exact(hfp b hb).2.1 z
  exact(hfp b hb).2.2.1 z
 ·exact Un.laid keep (Px _) hnD
 ·
  have h1:N[i]?=Zq x:=h1;have hlen:i<N.length:=(PQ.mp h1).1;by_cases hi:i<own
  ·exfalso;have h2':(cSt own fr B)[i]?=Zq Zr:=by
    unfold cSt;rw[Qh (by simpa using hi),V9,if_pos hi]
   rw[h2']at h2;cases h2
  have hfi:i-own<↥fr:=by have:=S.len;lia
  have ei:own+(i-own)=i:=()
  have hk:=S.frk (i-own) hfi x (by rw[ei];exact h1);have hn:=S.frn (i-own) hfi;rw[ei,h1]at hn;have ej:fr[i-own]?=Zq fr[i-own]:=PB hfi;rw[ej]at hn;have hn':X.N[fr[i-own]]?=Zq x:=hn.symm;have h2':(cSt own fr B)[i]?=Zq ((B[fr[i-own]]?).getD Zr):=by
   unfold cSt;rw[Qk (by simpa using Sk.mp hi),Q9,P5,ej];rfl
  rw[h2']at h2;have η:(B[fr[i-own]]?).getD Zr=Zq v:=SN h2;have hσ:B[fr[i-own]]?=Zq (Zq v):=by
   cases e:B[fr[i-own]]? with
   |none=>rw[e]at η;cases η
   |some w=>rw[e]at η;exact congrArg Zq η
  obtain⟨m,hm,hl⟩:=I.loc;have Ł:=S.free (x,.free) (SY hk) rfl;obtain⟨u,r,l⟩:=hl _ x v hn' hσ (Ł.elim (λz=>.inr (.inl z)) λz=>.inr (.inr z));refine{u,r,.inr ?_};have Ā:∃c,X.env.cells.lookup x=Zq c/\s.heap.IsCell c (Zq u):=by
   rcases l with⟨l,_⟩|⟨_,c,e,z⟩
   ·exfalso;rcases Ł with z|z
    ·have l':X.env.scope.names.lookup x=Zq .local:=l
     have z':X.env.scope.names.lookup x=Zq .cell:=z;rw[l']at z';cases z'
    have l':X.env.scope.names.lookup x=Zq .local:=l
    have z':X.env.scope.names.lookup x=Zq .free:=z;rw[l']at z';cases z'
   exact⟨c,e,z⟩
  obtain⟨c,e,o,ho,hd⟩:=Ā;refine{?_,c,?_,o,keep c o ho,hd}
  ·rw[kindOf,hk];by_cases z:(X.env.scope.kind== .function&&X.env.kindOf x==Zq .cell)=true
   ·left
    simp only[QT,beq_self_eq_true,R5,z,if_true]
   right
   simp only[QT,beq_self_eq_true,R5];rw[if_neg z]
  show(TC (⇑s+1+1) scope.names (tu X.env scope.names)).lookup x=Zq c;rw[jy λz=>by
   have:=gS S.nd z;rw[hk]at this;cases this]
  obtain⟨c',hc'⟩:=jw (x8 (env:=X.env) (cs:=[]) (SY hk));have hc2:(tu X.env scope.names).lookup x=Zq c':=hc';rw[hc2];have:=Ů (SY hc2);rw[e]at this;exact this.symm
 ·show upd H ⇑s (.lst []) (⇑s+1)=Zr;rw[aP (QV (Q4 _))];exact hnC
 ·rcases cases_ e with q|⟨q,_⟩
  ·have:=clt q;rw[aP (Qf this)];exact I.kr x c q
  rw[aP (QV (Qe (Nat.lt_add_of_pos_right ∅) q))];exact I.È.fresh (P2 (QM _ 2) q)
 ·exact I.È.laid keep (Px _) {PZ _,[],0,.nil,lst}
 show(cSt own fr B).length=N.length
 unfold cSt
 rw[Pq,Q9,Pr,S.len]
end
def PF(X:Cx)(ifs:List Expr)(t:TT):Prop:=
 ∀(pins:List (Sv×Obj))(s:Sy)(B:St)(H:Hp)(Q:Bool->Hp->Prop),Inv X pins B H s->t B H Q->
  wpAny (SK X.prog X.w) X.A (forIn ifs true λc r=>if r=true then do let ok<-isTrue c X.env (Ts c X.env);pure (VA ok)else pure (VA r)) (TP X pins B Q) X.xe s
def Of:TT:=λ_ H Q=>Q true H
theorem kU:PF X [] Of:=λ_ _ _ H _ I h=>wpAny_tests_nil ⟨H,I,h⟩
theorem qv(h:PT X c t):PF X [c] t:=λpins s B H Q I hw=>wpAny_tests_one (h pins s B H Q I hw)
theorem xO(I:Nat->Sy->Prop)
  (turn:∀n s,I n s->wpAny (SK prog w) A (WS it) (λr s₁=>match r with
   |none=>R (.ok .next) s₁
   |some v=>wpAny (SK prog w) A (Vz target it v) (λ_ s₁'=>wpAny (SK prog w) A (assign target env v) (λ_ s₂=>
     wpAny (SK prog w) A (forIn ifs true λc r=>if r=true then do let ok<-isTrue c env (Ts c env);pure (VA ok)else pure (VA r)) (λok s₃=>
      if ok=true then wpAny (SK prog w) A (Ts elt env) (λx s₄=>
       wpAny (SK prog w) A (call (.builtin "list.append") [acc,x]) (λ_ s₅=>∃m,m<n/\I m s₅) (λ_ _=>False) s₄) (λ_ _=>False) s₃
      else ∃m,m<n/\I m s₃) (λ_ _=>False) s₂) (λ_ _=>False) s₁') (λ_ _=>False) s₁) (λ_ _=>False) s)
  (n:Nat) (h:I n s) :
  codeAny (SK prog w) A (.compLoop (.ListComp elt [⟨target,iter,ifs,0⟩] scope pos) 0 it acc env) R s:=by
 refine codeAny_loop rfl I (λn s hI=>?_) n h
 show wpAny _ A ((compTurn (.ListComp elt [⟨target,iter,ifs,0⟩] scope pos) 0 it acc env).onRaise (λx=>do noteFrame x env;theTreesLotGoes x)) _ _ s
 refine wpAny_noted ?_
 rw[compTurn_list]
 have no:∀{α:Type}{t:Sem α}{Q:α->Sy->Prop}{E':Su->Sy->Prop}{s':Sy},wpAny (SK prog w) A t Q (λ_ _=>False) s'->wpAny (SK prog w) A t Q E' s':=λh=>Ui h (λ_ _ q=>q) λ_ _ z=>z.elim
 refine E9 (V3 (E9 (no (Ui (turn n s hI) (λr s₁ h₁=>?_) λ_ _ h'=>h'))))
 cases r with
 |none=>exact Sw h₁
 |some v=>
  refine E9 (no (Ui h₁ (λ_ s₁' h₁'=>?_) λ_ _ h'=>h'))
  refine E9 (no (Ui h₁' (λ_ s₂ h₂=>E9 (no (Ui h₂ (λok s₃ h₃=>?_) λ_ _ h'=>h'))) λ_ _ h'=>h'))
  cases ok with
  |false=>exact Sw ⟨rfl,h₃⟩
  |true=>
   exact E9 (E9 (no (Ui h₃ (λx s₄ h₄=>E9 (no (Ui h₄ (λ_ s₅ h₅=>Sw (Sw ⟨rfl,h₅⟩)) λ_ _ h'=>h'))) λ_ _ h'=>h')))
structure qI(J:It)(own:Nat)(fr:List Nat)(g:CB->TG)(tf:CB->TT)(te:CB->TE)(Q:VK)(B:St)(H1:Hp):Prop where
 go:∀(b:CB)(D:Sv),H1 D=Zr->∃W:Nat->Nat->St->Hp->Prop,(∃m,W 0 m (cSt own fr B) (upd H1 D (.lst [])))/\∀i m B' H',W i m B' H'->
  (J.stop i H'/\Q (.ref D) H')\/(J.go i H'/\∃M:St->Hp->Prop,(∀σ2 H2,M σ2 H2->∃m',m'<m/\W (i+1) m' σ2 H2)/\∀x H2,J.š i H' x H2->g b x B' H2 λσ3 H3=>tf b σ3 H3 λk H4=>
   if k=true then te b σ3 H4 λy H5=>∃ys,H5 D=Zq (.lst ys)/\↥ys<sizeLine/\M σ3 (upd H5 D (.lst (ys++[y])))else M σ3 H4)
def Fo(wi:TI)(own:Nat)(fr:List Nat)(g:CB->TG)(tf:CB->TT)(te:CB->TE):TE:=λB H Q=>wi B H λJ H1=>qI J own fr g tf te Q B H1
section
variable{X:Cx}{tg iter elt:Expr}{ifs:List Expr}{scope:WD}{pos:Pos}{N:List Str}{own:Nat}{fr:List Nat}{wi:TI}{g:CB->TG}{tf:CB->TT}{te:CB->TE}
theorem zD(S:cf X.env.scope X.N N own fr scope)(hc:X.calm=true)(hi:PI X tg iter wi)
  (hg:∀b,PG (ĕ X N scope b) tg (g b)) (hf:∀b,PF (ĕ X N scope b) ifs (tf b)) (he:∀b,PE (ĕ X N scope b) elt (te b)) (hs:∀x,foldedSetIterable iter X.env x=pure x) (I:Inv X pins B H s) (h:Fo wi own fr g tf te B H Q)
  (fin:∀(D C:Sv)(oC:Obj)(m:Str->Option Su)(H':Hp)(s':Sy),Inv X (pins++[(C,oC)]) B H' s'->X.s₀.heap.objs.size<=C->(∀p∈X.pn++pins,p.1≠C)->(∀h':Tb,h'.get? C=Zq oC->h'.Ns C m)->Q (.ref D) H'->YU (SK X.prog X.w) X.A X.xe use R (.ref D) C (.ok .next) s') :
  wpAny (SK X.prog X.w) X.A (comprehension (.ListComp elt [⟨tg,iter,ifs,0⟩] scope pos) scope X.env (firstIterPos [⟨tg,iter,ifs,0⟩] pos) (newList []) false (Ts iter X.env) use) R X.xe s:=by
 refine wpAny_comprehension_free rfl hs (rb (S.cells I.ok)) S.kind (λx hx hk=>?_) (Ì (hi pins s B H _ I h) λv s1 h1=>Ì h1 λitv s2 h2=>?_)
 ·have:=gS S.nd (show(x.1,x.2)∈scope.names from hx);rw[this,hk]
 obtain⟨it,fp,tn,J,H2,e,I2,T,Ŋ,f2,q⟩:=h2
 subst e
 refine S9 ?_
 refine zt ?_
 have eD:(s2.heap.push { cls:=.type "list",data:=.seq #[] }).objs.size=⇑s2+1:=T9 ..
 have hD:H2 ⇑s2=Zr:=I2.È.fresh (Px _)
 have Ý:∀b∈fp,b<⇑s2:=λb hb=>by
  obtain⟨o,ho,_⟩:=T.obj 0 _ Ŋ b hb;exact SI ho
 obtain⟨W,⟨m0,w0⟩,turn⟩:=q.go {⇑s2+1,fp,s2,H2} ⇑s2 hD
 have IX:=FT (fp:=fp) S I2 rfl rfl rfl f2 Ý
 have Č:tn 0 (Vs ((s2.heap.push { cls:=.type "list",data:=.seq #[] }).push { cls:=.type "dict",data:=.dict #[] }) scope.names):=
  T.keep 0 _ _ Ŋ λb _ o e=>U6 _ _ _ _ (Sx _ (Sx _ e))
 have Ĕ:∀b∈fp,upd H2 ⇑s2 (.lst []) b=Zr:=λb hb=>by
  rw[aP (Qf (Ý b hb))];exact(f2 b hb).1
 have π:∀b∈fp,∀x c,(ĕ X N scope {⇑s2+1,fp,s2,H2}).env.cells.lookup x=Zq c->c≠b:=λb hb=>((IX.ok.exf b hb).2)
 have ŕ:∀{H':Hp},(∀b∈fp,H' b=Zr)->∀b∈fp,sV (ĕ X N scope {⇑s2+1,fp,s2,H2}) [] H' b:=λhn b hb=>
  {hn b hb,(IX.ok.exf b hb).1,IX.ok.Gr b hb,.inl hb,π b hb,λp hp=>absurd (show p∈([]:List (Sv×Obj))from hp) (by simp)}
 have e4:∀ρ:Env,ρ=newEnv scope (s2.heap.push { cls:=.type "list",data:=.seq #[] }).objs.size X.env.globals (TC ((s2.heap.push { cls:=.type "list",data:=.seq #[] }).objs.size+1) scope.names (tu X.env scope.names)) X.env.qual Zr .none (Zq X.env) Wm->
   ({ ρ with scope:=relabel scope X.env }:Env)=(ĕ X N scope ⟨⇑s2+1,fp,s2,H2⟩).env/\ρ.locals=⇑s2+1:=λρ e=>by
  subst e
  rw[eD]
  exact⟨rfl,rfl⟩
 obtain⟨e5,e6⟩:=e4 _ rfl
 have loop:codeAny (SK X.prog X.w) X.A (.compLoop (.ListComp elt [⟨tg,iter,ifs,0⟩] scope pos) 0 (.ref it) (.ref ⇑s2) (ĕ X N scope {⇑s2+1,fp,s2,H2}).env)
   (YU (SK X.prog X.w) X.A X.xe use R (.ref ⇑s2) (⇑s2+1)) { s2 with heap:=Vs ((s2.heap.push { cls:=.type "list",data:=.seq #[] }).push { cls:=.type "dict",data:=.dict #[] }) scope.names }:=by
  refine xO (λn s'=>∃i B' H',Inv (ĕ X N scope {⇑s2+1,fp,s2,H2}) [] B' H' s'/\tn i s'.heap/\(∀b∈fp,H' b=Zr)/\W i n B' H') ?_ m0 {0,_,_,IX,Č,Ĕ,w0}
  rintro n s5 ⟨i,σ5,H5,I5,st5,ϡ,w5⟩
  rcases turn i n σ5 H5 w5 with⟨stop,qn⟩|⟨go,M,hM,step⟩
  ·refine Ì (T.done (ĕ X N scope {⇑s2+1,fp,s2,H2}) rfl rfl rfl hc i [] s5 σ5 H5 (λ_ _=>False) I5 (ŕ ϡ) st5 stop) λr s6 z9=>?_;obtain⟨hr,I6⟩:=z9;subst hr;obtain⟨m,hn,_⟩:=I6.loc;obtain⟨oC,es,ep,hoC,hd,hk,hm⟩:=id hn;have IB:Inv X pins B H5 s6:=I2.MS (ch:=fp) I6.os I6.base I6.È I6.bare λb hb=>{(f2 b hb).2.2.2.1,(f2 b hb).2.1,(f2 b hb).2.2.2.2.1,(f2 b hb).2.2.2.2.2};have young:⇑s2<=⇑s2+1:=Q7 _;refine fin ⇑s2 (⇑s2+1) oC m H5 s6 (IB.yv λp hp=>?_) (P2 I2.sz young) (λp hp=>Qf (Qe (SI (I2.pin p hp).1) young)) (λh' e=>⟨oC,es,ep,e,hd,hk,hm⟩) qn;rcases Pz.mp hp with z|z
   ·exact IB.pin p (PX _ z)
   have ϣ:p=(⇑s2+1,oC):=by simpa using z
   subst ϣ;exact{hoC,I6.free,QV (Qe I2.lt young),I2.Nj young,λv z=>by rw[hd]at z;cases z}
  refine Ì (T.item (ĕ X N scope {⇑s2+1,fp,s2,H2}) rfl rfl rfl hc i [] s5 σ5 H5 (λ_ _=>False) I5 (ŕ ϡ) st5 go) λr s6 z9=>?_;obtain⟨u,hr,h6⟩:=z9
  subst hr
  refine Ì h6 λ_ s7 z9=>?_;obtain⟨x,H7,I7,r7,y7,st7,fr7⟩:=z9
  have I7':=I7.pinned (ŕ fr7) (T.obj _ _ st7)
  refine Ì (hg _ _ s7 σ5 H7 x u _ I7' r7 (step x H7 y7)) λ_ s8 z9=>?_;obtain⟨σ8,H8,I8,q8⟩:=z9
  refine Ì (hf _ _ s8 σ8 H8 _ I8 q8) λk s9 z9=>?_;obtain⟨H9,I9,q9⟩:=z9
  have again:∀{ϻ:Hp}{ϓ:Sy},Inv (ĕ X N scope {⇑s2+1,fp,s2,H2}) ([]++uM fp s7.heap) σ8 ϻ ϓ->M σ8 ϻ->
    ∃m,m<n/\∃i B' H',Inv (ĕ X N scope {⇑s2+1,fp,s2,H2}) [] B' H' ϓ/\tn i ϓ.heap/\(∀b∈fp,H' b=Zr)/\W i m B' H':=λ{ϻ ϓ} I10 q10=>by
   obtain⟨m',hm,w10⟩:=hM σ8 ϻ q10
   refine{m',hm,i+1,σ8,ϻ,I10.mN,T.keep _ _ _ st7 λb hb o e=>(I10.pin (b,o) (PX _ (PX _ (kI hb e)))).1,λb hb=>?_,w10}
   obtain⟨o,e,d⟩:=T.obj _ _ st7 b hb
   exact(I10.pin (b,o) (PX _ (PX _ (kI hb e)))).2.1
  cases k with
  |false=>exact again I9 q9
  |true=>
   refine Ì (he _ _ s9 σ8 H9 _ I9 q9) λw10 ϓ z9=>?_;obtain⟨y,ϻ,I10,r10,ys,hys,hz,q10⟩:=z9
   refine Ì (wB _ ϓ σ8 ϻ (.ref ⇑s2) [y] (.ref ⇑s2) [w10] (λ_ H'=>M σ8 H') I10 rfl (.cons r10 .nil) {_,ys,y,rfl,rfl,hys,hz,q10}) λ_ s11 z9=>?_;obtain⟨_,H11,I11,_,q11⟩:=z9
   exact again I11 q11
 have go:codeAny (SK X.prog X.w) X.A (.compStart (.ListComp elt [⟨tg,iter,ifs,0⟩] scope pos) 0 (.ref it) (.ref ⇑s2) (ĕ X N scope {⇑s2+1,fp,s2,H2}).env)
   (YU (SK X.prog X.w) X.A X.xe use R (.ref ⇑s2) (⇑s2+1)) { s2 with heap:=Vs ((s2.heap.push { cls:=.type "list",data:=.seq #[] }).push { cls:=.type "dict",data:=.dict #[] }) scope.names }:=
  codeAny_compStart_list loop (T.self _ 0 _ _ _ Č loop)
 have Ķ:∀(env':Env)(L:Sv),env'=(ĕ X N scope {⇑s2+1,fp,s2,H2}).env->L=⇑s2+1->
   codeAny (SK X.prog X.w) X.A (.compStart (.ListComp elt [⟨tg,iter,ifs,0⟩] scope pos) 0 (.ref it) (.ref ⇑s2) env') (YU (SK X.prog X.w) X.A X.xe use R (.ref ⇑s2) L)
    { s2 with heap:=Vs ((s2.heap.push { cls:=.type "list",data:=.seq #[] }).push { cls:=.type "dict",data:=.dict #[] }) scope.names }:=by
  intro env' L h1 h2
  subst h1 h2
  exact go
 exact Ķ _ _ e5 e6
theorem vy(I:Inv X (pins++[(C,oC)]) B' H' s')(hy:X.s₀.heap.objs.size<=C)(hp:∀p∈X.pn++pins,p.1≠C)(sb:UB C s'.heap h') :
  Inv X pins B' H' { s' with heap:=h' }:=by
 have pC:=I.pin (C,oC) (PX _ (PX _ (by simp)))
 have I2:Inv X pins B' H' s':=I.mN
 refine I2.turned (it:=C) (t':=s'.toks) (λb o hb e=>(sb.2 b hb).trans e) pC.2.1 pC.2.2.1 (.inr hy) (λx c e z=>?_) hp
 obtain⟨v,o,ho,hd⟩:=I2.cell x c e
 rw[z,pC.1]at ho
 cases ho
 exact pC.2.2.2.2 v hd
theorem eJ(S:cf X.env.scope X.N N own fr scope)(hc:X.calm=true)(hi:PI X tg iter wi)(hg:∀b,PG (ĕ X N scope b) tg (g b))(hf:∀b,PF (ĕ X N scope b) ifs (tf b))(he:∀b,PE (ĕ X N scope b) elt (te b))
  (hs:∀x,foldedSetIterable iter X.env x=pure x:=by intro _;rfl):PE X (.ListComp elt [⟨tg,iter,ifs,0⟩] scope pos) (Fo wi own fr g tf te):=by
 intro pins s B H Q I h
 rw[eval_ListComp]
 refine zD (use:=Zr) S hc hi hg hf he hs I h λD C oC m H' s' I' hy hp hm q=>?_
 have pC:=I'.pin (C,oC) (PX _ (PX _ (by simp)))
 exact{m,hm _ pC.1,λh' sb=>⟨.ref D,H',vy I' hy hp sb,rfl,q⟩}
theorem oP(S:cf X.env.scope X.N N own fr scope)(hc:X.calm=true)(hN:X.N.Nodup)(hj:X.N[j]?=Zq y)(hy:Loc X.env.scope y)(hi:PI X tg iter wi)(hg:∀b,PG (ĕ X N scope b) tg (g b))(hf:∀b,PF (ĕ X N scope b) ifs (tf b))
  (he:∀b,PE (ĕ X N scope b) elt (te b)) (hfn:X.fn y=true\/X.env.scope.names.lookup y=Zq .local:=by first|exact .inl rfl|exact .inr rfl|assumption) (hs:∀x,foldedSetIterable iter X.env x=pure x:=by intro _;rfl)
  (hsw:W9 (.ListComp elt [⟨tg,iter,ifs,0⟩] scope pos) (Zq (.Name y py)) spos.line X.env=pure true:=by rfl) :
  PS X (.Assign [.Name y py] (.ListComp elt [⟨tg,iter,ifs,0⟩] scope pos) spos) (Jc (Fo wi own fr g tf te) (pM j)):=by
 intro pins s B H D I h
 rw[exec_Assign_Name_used _ _ _ _ hsw]
 refine E9 (V3 (E9 ?_))
 show wpAny _ _ (do let _<-comprehension (.ListComp elt [⟨tg,iter,ifs,0⟩] scope pos) scope X.env _ (newList []) false (Ts iter X.env) (Zq (assign (.Name y py) X.env))) _ _ s
 refine E9 (Ì (zD (use:=Zq (assign (.Name y py) X.env)) (R:=λ_ s'=>SP X pins D .next s') S hc hi hg hf he hs I h λD' C oC m H' s' I' Ν hp hm q=>?_) λ_ s' q=>Sw (Sw q))
 show wpAny _ _ (assign (.Name y py) X.env (.ref D')) _ _ s'
 refine Ì (CD hN hj hy hfn _ s' B H' (.ref D') (.ref D') _ I' rfl q) λ_ s'' z9=>?_;obtain⟨σ2,H2,I2,q2⟩:=z9
 have pC:=I2.pin (C,oC) (PX _ (PX _ (by simp)))
 exact{m,hm _ pC.1,λh' sb=>⟨σ2,H2,vy I2 Ν hp sb,q2⟩}
end
theorem PE.imp(h:PE X e t)(k:∀B H Q,t' B H Q->t B H Q):PE X e t':=λpins s B H Q I q=>h pins s B H Q I (k B H Q q)
theorem Ó.imp(h:Ó X f r)(k:∀x y H Q,r' x y H Q->r x y H Q):Ó X f r':=λpins s B H x y v u Q I rx ry q=>h pins s B H x y v u Q I rx ry (k x y H Q q)
def G6(i:Nat):TE:=λB H Q=>match B[i]? with
 |some (Zq v)=>Q v H
 |_=>False
section
variable{X:Cx}
theorem fv (i) (hN:X.N[i]?=Zq x:=by rfl) (hv:Vis X.env.scope x:=by first|exact P1 rfl|exact QQ (P1 rfl)|exact QQ (QQ rfl)) (hd:(x==("__debug__":Str))=false:=by decide)
  (Ō:(x==("__classdict__":Str))=false:=by decide):PE X (.Name x pos) (G6 i):=(Kp hN hv hd Ō).imp λB H Q q=>by
 unfold G6 at q
 cases e:B[i]? with
 |none=>rw[e]at q;exact q.elim
 |some o=>
  cases o with
  |none=>rw[e]at q;exact q.elim
  |some v=>rw[e]at q;exact⟨v,e,q⟩
def IV:R2:=λx y H Q=>match x,y with
 | .int i,.int j=>Q (.int (i+j)) H
 | .str a,.str b=>↥a+↥b<=sizeLine/\Q (.str (a++b)) H
 | .ref p,.ref q=>NQ (.ref p) (.ref q) H Q
 |_,_=>False
theorem aO:Ó X (TX .Add) IV:=by
 intro pins s B H x y v u Q I rx ry h;cases x with
 |int i=>
  cases y with
  |int j=>exact Me pins s B H _ _ v u Q I rx ry ⟨i,j,rfl,rfl,h⟩
  |_=>exact(show False from h).elim
 |str a=>
  cases y with
  |str b=>exact AL pins s B H _ _ v u Q I rx ry ⟨a,b,rfl,rfl,h.1,h.2⟩
  |_=>exact(show False from h).elim
 |ref p=>
  cases y with
  |ref q=>exact Lj pins s B H _ _ v u Q I rx ry h
  |_=>exact(show False from h).elim
 |_=>cases y<;>exact(show False from h).elim
def q5(C:Int->Int->Prop)(g:Int->Int->V):R2:=λx y H Q=>match x,y with
 | .int i,.int j=>C i j/\Q (g i j) H
 |_,_=>False
def lj(g:Int->Int->V):R2:=λx y H Q=>match x,y with
 | .int i,.int j=>Q (g i j) H
 |_,_=>False
theorem Ó.q5(h:Ó X f (rI C g)):Ó X f (q5 C g):=h.imp λx y H Q q=>by
 cases x with
 |int i=>
  cases y with
  |int j=>exact⟨i,j,rfl,rfl,q.1,q.2⟩
  |_=>exact(show False from q).elim
 |_=>cases y<;>exact(show False from q).elim
theorem Ó.lj(h:Ó X f (Η g)):Ó X f (lj g):=h.imp λx y H Q q=>by
 cases x with
 |int i=>
  cases y with
  |int j=>exact⟨i,j,rfl,rfl,q⟩
  |_=>exact(show False from q).elim
 |_=>cases y<;>exact(show False from q).elim
theorem oY:Ó X (TX .Sub) (lj λi j=>.int (i-j)):=Ml.lj
theorem MU:Ó X (TX .Mult) (q5 AU λi j=>.int (i*j)):=KH.q5
def Gk(_ j:Int):Prop:=0<j/\j<2^64
theorem Jj(h:Gk 0 j):j.natAbs.log2<9000:=by
 have h1:j.natAbs<2^64:=by
  have h2:j<2^64:=h.2;have h3:0<j:=h.1;lia
 have h0:j.natAbs≠0:=by have h3:0<j:=h.1;lia
 have:=(Nat.log2_lt h0).mpr h1;lia
theorem eO:Ó X (TX .FloorDiv) (q5 Gk λi j=>.int (i/j)):=(opI λi j _ _ _ _ _ hc q=>by
 have h1:(0:Int)<j:=hc.1;exact floordiv_int () (by rw[Int.fdiv_eq_ediv_of_nonneg i ()];exact q) (.inl (PyProof.noPylong_of_log2 (Jj hc)))).q5
theorem bP:Ó X (TX .Mod) (q5 (λ_ j=>0<j) λi j=>.int (i%j)):=LG.q5
theorem vx:Ó X (TX .Pow) (q5 Ft λi j=>.int (i^j.toNat)):=Mp.q5
theorem Oi:Ó X (TX .LShift) (q5 Ft λi j=>.int (i*2^j.toNat)):=L6.q5
theorem Om:Ó X (TX .BitOr) (lj λi j=>.int (Tv i j)):=M5.lj
theorem zW:Ó X (SW .Lt) (lj λi j=>.bl (decide (i<j))):=Nm.lj
theorem Bn:Ó X (SW .Gt) (lj λi j=>.bl (decide (j<i))):=Nz.lj
theorem O3:Ó X (SW .GtE) (lj λi j=>.bl (decide (j<=i))):=Oj.lj
mutual
inductive nQ(K:SE)(H:Hp):V->Wv->Prop where
 |Ê:nQ K H .Ê .none
 |bl (b:Bool):nQ K H (.bl b) (.bool b)
 |int (i:Int):nQ K H (.int i) (.int i)
 |str (x:Str):nQ K H (.str x) (.str x)
 |lst {a:Sv}{xs:List V}{ds:List Wv} (h:À K H a xs) (r:eZ K H xs ds):nQ K H (.ref a) (.list ds)
 |tup {a:Sv}{xs:List V}{ds:List Wv} (h:Ç K H a xs) (r:eZ K H xs ds):nQ K H (.ref a) (.tuple ds)
inductive eZ(K:SE)(H:Hp):List V->List Wv->Prop where
 |nil:eZ K H [] []
 |cons {x:V}{xs:List V}{d:Wv}{ds:List Wv} (h:nQ K H x d) (r:eZ K H xs ds):eZ K H (x::xs) (d::ds)
end
mutual
theorem Inv.reads(I:Inv X pins B H s):∀{x:V}{d:Wv}{u:Su},nQ X.K H x d->Zv x u->∃as,Reads s.heap u d as
 |_,_,_,.Ê,r=>by cases r;exact{_,.none}
 |_,_,_,.bl b,r=>by cases r;exact{_,.bool b}
 |_,_,_,.int i,r=>by obtain⟨t,rfl⟩:=r;exact{_,.int i t}
 |_,_,_,.str x,r=>by obtain⟨t,rfl⟩:=r;exact{_,.str x t}
 |_,_,_,.lst h q,r=>by
  cases r;obtain⟨Â,rv,⟨o,n,e,hc,_,hd⟩,_⟩:=I.list h;obtain⟨as,z⟩:=I.readsAll q rv;exact{_,.list e hc hd (by simpa using z)}
 |_,_,_,.tup h q,r=>by
  cases r;obtain⟨Â,rv,⟨o,e,hc,n,hd⟩,_⟩:=I.tuple h;obtain⟨as,z⟩:=I.readsAll q rv;exact{_,.tuple e hc hd (by simpa using z)}
theorem Inv.readsAll(I:Inv X pins B H s):∀{xs:List V}{ds:List Wv}{us:List Su},eZ X.K H xs ds->Zt xs us->∃as,ReadsAll s.heap us ds as
 |_,_,_,.nil,r=>by cases r;exact{_,.nil}
 |_,_,_,.cons h q,r=>by
  cases r with
  |cons r1 r2=>
   obtain⟨as,z⟩:=I.reads h r1;obtain⟨bs,z2⟩:=I.readsAll q r2;exact{_,.cons z z2}
end
def fEq(K:SE):R2:=λx y H Q=>match x,y with
 | .ref p,.ref q=>∃d e,nQ K H (.ref p) d/\nQ K H (.ref q) e/\TY d=true/\TY e=true/\Q (.bl (UQ d e)) H
 |x,y=>Ec x y=true/\Q (.bl (decide (x=y))) H
def fNe(K:SE):R2:=λx y H Q=>match x,y with
 | .ref p,.ref q=>∃d e,nQ K H (.ref p) d/\nQ K H (.ref q) e/\TY d=true/\TY e=true/\Q (.bl (!PyData.eqv d e)) H
 |x,y=>Ec x y=true/\Q (.bl (!decide (x=y))) H
theorem OL(hu:X.A.units+64<Uj):Ó X (SW .Eq) (fEq X.K):=by
 intro pins s B H x y v u Q I rx ry h;by_cases hr:∃p q,x=V.ref p/\y=V.ref q
 ·obtain⟨p,q,rfl,rfl⟩:=hr;obtain⟨d,e,hd,he,sd,se,hq⟩:=h;obtain⟨as,z1⟩:=I.reads hd rx;obtain⟨bs,z2⟩:=I.reads he ry;exact eq_dataH z1 z2 sd se hu {.bl _,H,I,rfl,hq}
 refine N5 pins s B H x y v u Q I rx ry ?_;cases x<;>cases y<;>first|exact h|exact absurd {_,_,rfl,rfl} hr
theorem rF(hu:X.A.units+64<Uj):Ó X (SW .NotEq) (fNe X.K):=by
 intro pins s B H x y v u Q I rx ry h;by_cases hr:∃p q,x=V.ref p/\y=V.ref q
 ·obtain⟨p,q,rfl,rfl⟩:=hr;obtain⟨d,e,hd,he,sd,se,hq⟩:=h;obtain⟨as,z1⟩:=I.reads hd rx;obtain⟨bs,z2⟩:=I.reads he ry;exact ne_dataH z1 z2 sd se hu {.bl _,H,I,rfl,hq}
 refine NU pins s B H x y v u Q I rx ry ?_;cases x<;>cases y<;>first|exact h|exact absurd {_,_,rfl,rfl} hr
def fIn(K:SE)(neg:Bool):R2:=λx y H Q=>match y with
 | .str j=>∃i,x=.str i/\Q (.bl (if neg then !(!(TL j i 0 ↥j 1).isEmpty)else !(TL j i 0 ↥j 1).isEmpty)) H
 | .ref p=>∃xs,(À K H p xs\/Ç K H p xs)/\mV x=true/\xs.all mV=true/\Q (.bl (if neg then !ý x xs else ý x xs)) H
 |_=>False
theorem O4:Ó X (SW .In) (fIn X.K false):=by
 intro pins s B H x y v u Q I rx ry h;cases y with
 |str j=>
  obtain⟨i,rfl,q⟩:=h;exact DF pins s B H _ _ v u Q I rx ry ⟨i,j,rfl,rfl,q⟩
 |ref p=>
  obtain⟨xs,h1,h2,h3,q⟩:=h;exact DY pins s B H _ _ v u Q I rx ry ⟨p,xs,rfl,h1,h2,h3,q⟩
 |_=>exact(show False from h).elim
theorem Ik:Ó X (SW .NotIn) (fIn X.K true):=by
 intro pins s B H x y v u Q I rx ry h;cases y with
 |str j=>
  obtain⟨i,rfl,q⟩:=h;exact xR pins s B H _ _ v u Q I rx ry ⟨i,j,rfl,rfl,q⟩
 |ref p=>
  obtain⟨xs,h1,h2,h3,q⟩:=h;exact xH pins s B H _ _ v u Q I rx ry ⟨p,xs,rfl,h1,h2,h3,q⟩
 |_=>exact(show False from h).elim
theorem AX:Ó X (SW .Is) (λx y H Q=>y=.Ê/\Q (.bl (decide (x=.Ê))) H):=K0
theorem eG:Ó X (SW .IsNot) (λx y H Q=>y=.Ê/\Q (.bl (!decide (x=.Ê))) H):=Ie
inductive ixS(K:SE)(p:Sv)(i:Int)(H:Hp)(Q:VK):Prop
 |mk (xs v) (h0:À K H p xs\/Ç K H p xs) (h1:ĭ xs i=Zq v) (q:Q v H):ixS K p i H Q
def fIx(K:SE):R2:=λx y H Q=>match x,y with
 | .ref p,.int i=>ixS K p i H Q
 | .str z,.int i=>∃c,↥z<=sizeLine/\ĭ z.cps.toList i=Zq c/\Q (.str ⟨#[c]⟩) H
 |_,_=>False
theorem FP:IxR X (fIx X.K):=by
 intro value slice pins s B H x y v u Q I rx ry h hs;cases x with
 |ref p=>
  cases y with
  |int i=>
   obtain⟨xs,w,h1|h1,h2,q⟩:=h
   ·exact HY value slice pins s B H _ _ v u Q I rx ry ⟨p,xs,i,w,rfl,rfl,h1,h2,q⟩ hs
   exact KL value slice pins s B H _ _ v u Q I rx ry ⟨p,xs,i,w,rfl,rfl,h1,h2,q⟩ hs
  |_=>exact(show False from h).elim
 |str z=>
  cases y with
  |int i=>
   obtain⟨c,h1,h2,q⟩:=h;exact Mj value slice pins s B H _ _ v u Q I rx ry ⟨z,i,c,rfl,rfl,h1,h2,q⟩ hs
  |_=>exact(show False from h).elim
 |_=>cases y<;>exact(show False from h).elim
def O9:V->Option Int->Option Int->Hp->VK->Prop:=λx lo hi H Q=>∃z,x=.str z/\↥z<=sizeLine/\Q (.str (Txt.slice z lo hi)) H
def Its(x:Str):It:={λi _=>i<x.cps.size,λi H v H'=>H'=H/\∃c,x.cps[i]?=Zq c/\v=.str ⟨#[c]⟩,λi _=>x.cps.size<=i}
theorem GR{P:Program}{w:SM}{K:UR}{tg:Expr}{T:String}(hT:T="str_ascii_iterator"\/T="str_iterator")(it:Sv)(x:Str)(t:Tok):ZM P w K tg (Its x) [it] it (λi h=>i<=x.cps.size/\h.IsStrIter it T x t i) where
 mem:=by simp
 obj:=λi h st b hb=>by
  have e:b=it:=by simpa using hb
  subst e;obtain⟨_,o,e,c,d⟩:=st;exact{o,e,λv z=>by rw[d]at z;cases z}
 keep:=λi h h' st k=>by
  obtain⟨hi,o,e,r⟩:=st;exact{hi,o,k it (by simp) o e,r}
 item:=by
  intro X hP hw hK hc i pins s B H E I hf st hg;subst hP hw hK;obtain⟨f0,f1,f2,f3,f4,f5⟩:=hf it (by simp);have W:Walks X.prog X.w X.A it [it] [it] x.cps.size (SignAt x) (λi h=>h.IsStrIter it T x t i):=by
   rcases hT with rfl|rfl
   ·exact YV (I.ok.hd hc) it x t
   exact Walks.strWide (I.ok.hd hc) it x t
  refine W.item i s _ _ hg st.2 λv h' tk hv Å kk=>?_;obtain⟨c,u,hcp,rfl⟩:=hv;have I1:Inv X pins B H { s with heap:=h',toks:=tk }:=I.turned (λb o hb e=>kk b o (by simpa using hb) e) f0 f1 f3 f4 f5;obtain⟨o,e,c',d⟩:=id Å;refine{_,rfl,wt (s:={ s with heap:=h',toks:=tk }) e c' d (by rcases hT with rfl|rfl<;>decide) ⟨.str ⟨#[c]⟩,H,I1,⟨u,rfl⟩,⟨rfl,c,hcp,rfl⟩,⟨hg,Å⟩,λb hb=>(hf b hb).1⟩}
 done:=by
  intro X hP hw hK hc i pins s B H E I hf st hg;subst hP hw hK;obtain⟨f0,f1,f2,f3,f4,f5⟩:=hf it (by simp);have W:Walks X.prog X.w X.A it [it] [it] x.cps.size (SignAt x) (λi h=>h.IsStrIter it T x t i):=by
   rcases hT with rfl|rfl
   ·exact YV (I.ok.hd hc) it x t
   exact Walks.strWide (I.ok.hd hc) it x t
  have e:i=x.cps.size:=Yz st.1 hg;subst e;exact W.done s _ _ st.2 λh' tk kk=>{rfl,I.turned (λb o hb e=>kk b o (by simpa using hb) e) f0 f1 f3 f4 f5}
 self:=λA i s Q E st h=>by
  rcases hT with rfl|rfl
  ·exact wpAny_pyIter_striter_ascii st.2 h
  exact wpAny_pyIter_striter_wide st.2 h
def OC(K:SE)(tl:TE):TI:=λB H R=>tl B H λx H1=>match x with
 | .ref a=>((∃xs,À K H1 a xs)/\R (Itl K a) H1)\/((∃xs,Ç K H1 a xs)/\R (Itt K a) H1)
 | .str z=>R (Its z) H1
 |_=>False
theorem bW(hl:PE X l tl):PI X tg l (OC X.K tl):=by
 intro pins s B H R I h;refine Ì (hl pins s B H _ I h) λv s1 z9=>?_;obtain⟨x,H1,I1,r1,q1⟩:=z9;cases x with
 |ref a=>
  cases r1;rcases q1 with⟨⟨xs,hq⟩,q⟩|⟨⟨xs,hq⟩,q⟩
  ·obtain⟨Â,rv,p,hz⟩:=I1.list hq;refine V2 p.isList ?_;refine{⇑s1,[⇑s1],_,_,H1,rfl,I1.kept (t':=s1.toks) λb o e=>Sx _ e,DE a _,{_,SJ _ rfl,rfl,rfl},λb hb=>?_,q};have e:b=⇑s1:=by simpa using hb
   subst e;exact I1.sv (Px _) (I1.È.fresh (Px _))
  obtain⟨Â,rv,p,hz⟩:=I1.tuple hq;refine wpAny_pyIter_tuple (show s1.heap.IsTuple a Â.toArray from p) ?_;refine{⇑s1,[⇑s1],_,_,H1,rfl,I1.kept (t':=s1.toks) λb o e=>Sx _ e,AN a _,{_,SJ _ rfl,rfl,rfl},λb hb=>?_,q};have e:b=⇑s1:=by simpa using hb
  subst e;exact I1.sv (Px _) (I1.È.fresh (Px _))
 |str z=>
  obtain⟨t,rfl⟩:=r1;refine wpAny_pyIter_strU ?_;refine{⇑s1,[⇑s1],_,_,H1,rfl,I1.kept (t':=s1.toks) λb o e=>Sx _ e,GR (T:=strIterType z) ?_ _ z t,{PZ _,_,SJ _ rfl,rfl,rfl},λb hb=>?_,q1}
  ·unfold strIterType;split
   ·exact .inl rfl
   exact .inr rfl
  have e:b=⇑s1:=by simpa using hb
  subst e;exact I1.sv (Px _) (I1.È.fresh (Px _))
 |_=>exact(show False from q1).elim
theorem bE(ha:PE X a ta)(he:∀whole,isTrue a X.env whole=(do let v<-whole;X0 a.pos;VF [v] (truthy v))) :
  PT X a (λB H Q=>ta B H λx H'=>zd X.K x H' Q):=Fl ha he
inductive JE(K:SE)(xs:List V)(H:Hp)(Q:VK):Prop
 |mk (x n) (h0:xs=[x]) (h1:MW K x H n) (q:Q (.int n) H):JE K xs H Q
theorem Nw:dY X (.builtin "len") (JE X.K):=λpins s B H xs us Q I r ⟨x,n,h0,h1,q⟩=>Fv pins s B H xs us Q I r ⟨x,n,h0,h1,q⟩
theorem jP:dY X (.type "list") (λxs H Q=>∃p ys,xs=[.ref p]/\(À X.K H p ys\/Ç X.K H p ys)/\∀l,H l=Zr->Q (.ref l) (upd H l (.lst ys))):=xM
def Ju:V->Su
 | .ty n=>.type n
 | .ref a=>.ref a
 |_=>.none
theorem E6(r:Zv y u)(h:Ju y≠ .none):u=Ju y:=by
 cases y with
 |ty n=>exact r
 |ref a=>exact r
 |_=>exact absurd rfl h
inductive Bh(K:SE)(xs:List V)(H:Hp)(Q:VK):Prop
 |mk (x y t b) (h0:xs=[x,y]) (h1:Ju y≠ .none) (h2:oT K H x t) (h3:Vd K t (Ju y)=Zq b) (q:Q (.bl b) H):Bh K xs H Q
theorem aZ:dY X (.builtin "isinstance") (Bh X.K):=by
 intro pins s B H xs us Q I r h;obtain⟨x,y,t,b,rfl,hy,ty,e,q⟩:=h;obtain⟨u,w',rfl,rx,ry⟩:=ZN r;rw[E6 ry hy];exact Ed I rx ty e λtk=>{.bl b,H,I.tok _,rfl,q}
theorem br(ho:PE X o to)(ha:PA X [e] t)(í:T7 o "append" X.env (Ts o X.env)=Ts o X.env:=by rfl)
  (Ř:((TB Ï (SG [e] X.env)).all (λx=>!x.1)&&(Uv Ï (TM [] X.env)).all (λx=>x.1.isSome)
   &&decide ([e].length+([]:List UT).length+(if([]:List UT).isEmpty then 0 else 1)<30))=true:=by rfl)
  (ë:(apos.endLine==Ï.line)=true:=by rfl) (hs:SG [e] X.env=(false,Ts e X.env)::SG [] X.env:=by rfl) (õ:(TB Ï (SG [] X.env)).any (·.1)=false:=by rfl) :
  PE X (.Call (.Attribute o "append" apos) [e] [] Ï) (tBM X.K "list" xX to t):=E3 Vc PySem.F.slot_list_append PySem.F.type_list_append wB ho ha í Ř ë hs õ
end
def Ϻ(P:Program)(w:SM)(K:SE)(mg:Str->Option Su)(base:Tb)(k:Nat)(x:Str)(ps:List Str)(sp:Sp):Prop:=
 ∃f fd,j8 P w K mg base ş k f fd ps sp/\Zy K fd ps []/\Uc K (.ref f)=true/\mg x=Zq (.ref f)/\∃oc od ù,K.lookup f=Zq ⟨oc,od,.func fd,ù⟩
structure ba(K:SE)(mg:Str->Option Su)(x:Str)(st:S0)(ps:List Str):Prop where
 ex:∃f fd,Fun K x x st f fd/\Zy K fd ps []/\mg x=Zq (.ref f)
theorem ak(D:Ϻ X.prog X.w X.K X.mg X.base j x ps sp)(hr:dW k X.A)(ha:PA X (e::es) t)(hj:j<=k:=by decide)(hg:Gl X x:=by rfl)
  (Ď:(x==("__debug__":Str))=false:=by decide) (he:SG (e::es) X.env=(false,Ts e X.env)::SG es X.env:=by rfl) (ÿ:(TB pos (SG es X.env)).any (·.1)=false:=by rfl) :
  PE X (.Call (.Name x p) (e::es) [] pos) (vW sp [] E0 t):=by
 obtain⟨f,fd,F,b,kp,m,_⟩:=D
 exact CG F (hr.mono hj) hg m kp b .nil vC ha Ď he ÿ
abbrev ba.Hz{K:SE}{mg:Str->Option Su}{x:Str}{st:S0}{ps:List Str}(_:ba K mg x st ps)(P:Program)(w:SM)(base:Tb)(k:Nat)(sp:Sp):Prop:=L2.Ϻ P w K mg base k x ps sp
theorem ba.hs{P w K mg base x st N ps k sp}(F:ba K mg x st ps)(S:aE N ps (aq st))
  (ì:∀f Ã A outer s H vs Q E,dW k (A.deeper (UZ x (aq st) ⇑s f Ã))->(A.deeper (UZ x (aq st) ⇑s f Ã)).units+64<Uj->sp vs H Q E->
   ∃t,Į (uZ ş P w K mg base N x (aq st) f Ã A outer s H E).Ϭ (bj st) t/\t { nx:=λ_ H'=>Q .Ê H',rt:=Q } (ZC N vs) H) (len:∀vs H Q E,sp vs H Q E->↥vs=↥ps:=by intro _ _ _ _ h;cases h;subst_vars;rfl):Ϻ P w K mg base (k+1) x ps sp:=by
 obtain⟨f,fd,F,b,m⟩:=F.ex
 obtain⟨oc,od,kV,doc,pm,an,Ã,ct,ù,e,lk,Ō⟩:=F.ex
 exact{f,fd,F.ok S len λÃ A outer s H vs Q E hr h=>ì f Ã A outer s H vs Q E hr hr.units h,b,F.kp,m,oc,od,ù,lk}
theorem aj.upd(h:H p=Zr) (o):aj H (upd H p o):=λb u q=>by rw[aP (fK q h)];exact q
theorem aj.tup{K H H' a xs}(e:aj H H')(h:Ç K H a xs):Ç K H' a xs:=by
 rcases h with(h|⟨o,h⟩)|h
 ·exact .inl (.inl (e _ _ h))
 ·exact .inl (.inr {o,e _ _ h})
 exact .inr h
def Ĭ(fr:List Nat)(B:St):St:=fr.map λj=>(B[j]?).getD Zr
theorem AQ{x:Nat->V}{tf:CB->TT}{te:CB->TE}{Q:VK}{B:St}{H1:Hp}(p:Nat->Bool)(f:Nat->V)(hn:n<sizeLine)
  (stop:∀H,aj H1 H->J.stop n H) (go:∀i H,i<n->aj H1 H->J.go i H) (š:∀i H v H',i<n->aj H1 H->J.š i H v H'->H'=H/\v=x i)
  (hf:∀b i H (R:Bool->Hp->Prop),i<n->aj H1 H->(∀H',aj H H'->R (p i) H')->tf b (Zq (x i)::Ĭ fr B) H R)
  (he:∀b i H (R:VK),i<n->p i=true->aj H1 H->(∀H',aj H H'->R (f i) H')->te b (Zq (x i)::Ĭ fr B) H R)
  (fin:∀D H,H1 D=Zr->aj H1 H->H D=Zq (.lst (((SS n).filter p).map f))->Q (.ref D) H):qI J 1 fr (λ_=>pM 0) tf te Q B H1:=by
 refine⟨λb D hD=>?_⟩
 have lenf:∀i,(((SS i).filter p).map f).length<=i:=λi=>by
  rw[Pr];exact P2 (QD _ _) (Rq QI)
 refine{λi m B' H'=>m=n-i/\i<=n/\(∃v0,B'=v0::Ĭ fr B)/\aj H1 H'/\H' D=Zq (.lst (((SS i).filter p).map f)),{n,rfl,PZ _,⟨Zr,rfl⟩,aj.upd hD _,ao},?_}
 rintro i m B' H' ⟨rfl,hi,⟨v0,rfl⟩,sm,hl⟩
 by_cases Ý:i<n
 ·refine .inr {go i H' Ý sm,λσ2 H2=>(∃v0,σ2=v0::Ĭ fr B)/\aj H1 H2/\H2 D=Zq (.lst (((SS (i+1)).filter p).map f)),λσ2 H2 q=>{n-(i+1),(),rfl,Ý,q},λv H2 y=>?_};obtain⟨rfl,rfl⟩:=š i H' v H2 Ý sm y;show tf b (Zq (x i)::Ĭ fr B) _ _;refine hf b i _ _ Ý sm λH3 s3=>?_;have e1:(SS (i+1)).filter p=(SS i).filter p++(if p i then[i]else[]):=by
   rw[Sf,QG];congr 1;cases hp:p i<;>simp[hp]
  cases hp:p i with
  |false=>
   rw[if_neg PU];refine{{_,rfl},sm.trans s3,?_};rw[s3 _ _ hl,e1,hp];simp
  |true=>
   rw[if_pos rfl];refine he b i _ _ Ý hp (sm.trans s3) λH4 s4=>{_,s4 _ _ (s3 _ _ hl),?_,{_,rfl},?_,?_}
   ·exact RC (lenf i) (Sr Ý hn)
   ·have sm4:aj H1 H4:=sm.trans (s3.trans s4);intro c o q;by_cases hc:c=D
    ·rw[hc,hD]at q;cases q
    rw[aP hc];exact sm4 c o q
   rw[ao,e1,hp];simp
 have e:i=n:=()
 subst e
 exact .inl ⟨stop H' sm,fin D H' hD sm hl⟩
theorem tT{lo n fr tf te Q B H1} (p f) (hn:n<sizeLine)
  (hf:∀b i H (R:Bool->Hp->Prop),i<n->aj H1 H->(∀H',aj H H'->R (p i) H')->tf b (Zq (.int (lo+i))::Ĭ fr B) H R)
  (he:∀b i H (R:VK),i<n->p i=true->aj H1 H->(∀H',aj H H'->R (f i) H')->te b (Zq (.int (lo+i))::Ĭ fr B) H R)
  (fin:∀D H,H1 D=Zr->aj H1 H->H D=Zq (.lst (((SS n).filter p).map f))->Q (.ref D) H):qI (Itr lo n) 1 fr (λ_=>pM 0) tf te Q B H1:=
 AQ (x:=λi=>.int (lo+i)) p f hn (λ_ _=>Px _) (λ_ _ h _=>h) (λ_ _ _ _ _ _ y=>y) hf he fin
section
variable{X:Cx}
def KR(K:SE):V->Option Int->Option Int->Hp->VK->Prop:=λx lo hi H Q=>MK K x lo hi H Q\/Mt K x lo hi H Q
theorem Kl:Ϲ X (KR X.K):=Iz.or KU
end
theorem F9{K:SE}{mg:Str->Option Su}{h:Tb}{x:Str}{st:S0}{ps:List Str}{f:Sv}{oc:Su}{od an:Option Sv}{ù:Array (Option Su)}{kV doc pm Ã ct:Su}(X:K.In h)(G:h.Ns SU mg)
  (a:YW K SU x=Zq (Zq (.ref f))) (l:K.lookup f=Zq {oc,od,.func (T8 x x (bH st) (bj st) (aq st) .none kV doc pm an Ã ct),ù}) (c:Vw K Ã x=true) (k:Uc K (.ref f)=true)
  (hb:∀(kV doc pm:Su)(an:Option Sv)(Ã ct:Su)(us:List Su),↥us=↥ps->bindArgs (T8 x x (bH st) (bj st) (aq st) .none kV doc pm an Ã ct) {us,[]}=pure (ps.zip us)):ba K mg x st ps:=
 {f,_,xN l c k,(xN l c k).binds hb,Xc X G a}
theorem Km{P w K mg base k x ps sp f oc od ù fd}(D:Ϻ P w K mg base k x ps sp)(m:mg x=Zq (.ref f))
  (l:K.lookup f=Zq ⟨oc,od,.func fd,ù⟩):j8 P w K mg base ş k f fd ps sp:=by
 obtain⟨g,gd,F,b,kp,mg',_,_,_,l'⟩:=id D
 rw[m]at mg'
 cases mg'
 rw[l]at l'
 cases l'
 exact F
section
variable{prog:Program}{w:SM}{A:Td}{R:Result->Sy->Prop}{I l:Sv}{Â:Array Su}{ns:List Int}{St:Nat->Tb->Prop}{fp wr:List Sv}{d:Su}
end
section
variable{X:Cx}
theorem Kg:Ϲ X O9:=by
 intro pins s B H x v vl vu lo hi sl Q I rx hs pl pu h;obtain⟨z,rfl,hz,q⟩:=h;obtain⟨t,rfl⟩:=rx;have fin:∀t' k,EP X pins B Q (.str (Txt.slice z lo hi) t') { s with toks:=k }:=λt' k=>⟨.str _,H,I.tok _,⟨_,rfl⟩,q⟩;have len:=P2 (Txt.slice_le z lo hi) hz;obtain⟨o,ho,hc,hd⟩:=hs;refine{"str",_,PySem.F.slot_str_getitem.lookup,XE _ _ _,?_};cases pl with
 |none=>
  cases pu with
  |none=>exact Uy (l:=Up) (u:=Up) (st:=Up) ⟨o,ho,hc,hd⟩ rfl (VB {len,λt' k=>fin t' k})
  |int j uj=>exact Uy (l:=Up) (u:=Zq (j,uj)) (st:=Up) ⟨o,ho,hc,hd⟩ rfl (VB {len,λt' k=>fin t' k})
 |int i ui=>
  cases pu with
  |none=>exact Uy (l:=Zq (i,ui)) (u:=Up) (st:=Up) ⟨o,ho,hc,hd⟩ rfl (VB {len,λt' k=>fin t' k})
  |int j uj=>exact Uy (l:=Zq (i,ui)) (u:=Zq (j,uj)) (st:=Up) ⟨o,ho,hc,hd⟩ rfl (VB {len,λt' k=>fin t' k})
def fSl(K:SE):V->Option Int->Option Int->Hp->VK->Prop:=λx lo hi H Q=>match x with
 | .str z=>↥z<=sizeLine/\Q (.str (Txt.slice z lo hi)) H
 |x=>MK K x lo hi H Q\/Mt K x lo hi H Q
theorem An:Ϲ X (fSl X.K):=by
 intro pins s B H x v vl vu lo hi sl Q I rx hs pl pu h;by_cases hx:∃z,x=.str z
 ·obtain⟨z,rfl⟩:=hx;exact Kg pins s B H _ v vl vu lo hi sl Q I rx hs pl pu ⟨z,rfl,h.1,h.2⟩
 refine Kl pins s B H x v vl vu lo hi sl Q I rx hs pl pu ?_;cases x<;>first|exact h|exact absurd {_,rfl} hx
theorem N8(hc:X.calm=true:=by rfl):dY X (.builtin "max") (λxs H Q=>∃i j,xs=[.int i,.int j]/\Q (.int (if j>i then j else i)) H):=Eh hc
theorem ym(h:∃t,X.mg x=Zq (.str z t))(hg:Gl X x:=by rfl)(hd:(x==("__debug__":Str))=false:=by decide):PE X (.Name x pos) (tC (.str z)):=by
 obtain⟨t,e⟩:=h;exact C0 hg e ⟨t,rfl⟩ hd
end
def Hr(lo c:Int)(n:Nat):It:={λi _=>i<n,λi H x H'=>H'=H/\x=.int (lo+i*c),λi _=>n<=i}
def mZ(lo hi c:Int):Nat:=(Tt lo hi c).toNat
theorem zR{P:Program}{w:SM}{K:UR}{tg:Expr}(it:Sv)(lo c:Int)(n:Nat):ZM P w K tg (Hr lo c n) [it] it (λi h=>WT h it (lo+(i:Nat)*c) ((n:Int)-(i:Nat)) c) where
 mem:=by simp
 obj:=λi h st b hb=>by
  have e:b=it:=by simpa using hb
  subst e;exact⟨_,st,λv z=>by
   have z':Yt _=Xa v:=z;cases z'⟩
 keep:=λi h h' st k=>k it (by simp) _ st
 item:=by
  intro X hP hw hK hc i pins s B H E I hf st hg;subst hP hw hK;obtain⟨f0,f1,f2,f3,f4,f5⟩:=hf it (by simp);have W:=Walks.range (prog:=X.prog) (w:=X.w) (I.ok.hd hc) it lo c n;refine W.item i s _ _ hg st λv h' tk hv Å kk=>?_;obtain⟨t,rfl⟩:=hv;have I1:Inv X pins B H { s with heap:=h',toks:=tk }:=I.turned (λb o hb e=>kk b o (by simpa using hb) e) f0 f1 f3 f4 f5;exact⟨_,rfl,wt (s:={ s with heap:=h',toks:=tk }) (n:="range_iterator") Å rfl rfl ∅ ⟨.int (lo+i*c),H,I1,⟨t,rfl⟩,⟨rfl,rfl⟩,Å,λb hb=>(hf b hb).1⟩⟩
 done:=by
  intro X hP hw hK hc i pins s B H E I hf st hg;subst hP hw hK;obtain⟨f0,f1,f2,f3,f4,f5⟩:=hf it (by simp);exact Wq (I.ok.hd hc) st (by have:n<=i:=hg;lia) λh' eb=>{rfl,I.turned (t':=s.toks) (λb o hb e=>eb b o hb e) f0 f1 f3 f4 f5}
 self:=λ_ _ _ _ _ st h=>Wr st h
section
variable{X:Cx}{tg:Expr}
def gP{α:Type}(xs:List α):List α:=(SS ((↥xs+1)/2)).filterMap λm=>xs[m*2]?
theorem zB{α:Type}(xs:List α):(gP xs).length<=↥xs:=by
 unfold gP;refine P2 (V4 _ _) ?_;rw[QI];lia
theorem Zt.gP(r:Zt xs us):Zt (gP xs) (gP us):=by
 have hl:=↥r;unfold L2.gP;rw[hl];have gen:∀l:List Nat,Zt (l.filterMap λm=>xs[m*2]?) (l.filterMap λm=>us[m*2]?):=by
  intro l;induction l with
  |nil=>exact .nil
  |cons m l ih=>
   rw[QU,QU];cases e:xs[m*2]? with
   |none=>rw[r.none_of e];exact ih
   |some x=>
    obtain⟨u,hu,ru⟩:=r.get e;rw[hu];exact .cons ru ih
 exact gen _
theorem HJ(n:Nat):Tj 0 (n:Int) 2=(n+1)/2:=by
 unfold Tj;have h1:(2:Int)>0:=()
 simp only[h1,if_true];split<;>lia
theorem NI(xs:Array Su):((SS ((xs.size+1)/2)).filterMap λ(m:Nat)=>xs[((0:Int)+(m:Int)*2).toNat]?).toArray=(gP xs.toList).toArray:=by
 unfold gP;have e:(λ(m:Nat)=>xs[((0:Int)+(m:Int)*2).toNat]?)=λm=>xs.toList[m*2]?:=by
  funext m
  have:((0:Int)+(m:Int)*2).toNat=m*2:=()
  rw[this,Qz]
 rw[e,Qn]
theorem Fw{prog w E}{Q:Int×Int×Nat->Sy->Prop}(hs:s.heap.IsSliceOf sl .none .none (.int 2 t2))(h:Q (0,2,(n+1)/2) s) :
  wpAny (SK prog w) A (Ul (.ref sl) (pure (n:Int))) Q E s:=by
 obtain⟨os,ů,hcs,Ω⟩:=id hs
 unfold Ul VS
 refine E9 (E9 (Vx ů Ω (x:=.none) rfl (E9 (Vx ů Ω (x:=.none) rfl (E9 (Vx ů Ω (x:=.int 2 t2) rfl (Sw ?_)))))))
 refine E9 (slicePart_int ?_)
 show wpAny _ _ (if((2:Int)==0)=true then _ else _) _ _ s
 rw[if_neg ∅]
 refine E9 (VN (E9 (VN (E9 (Sw ?_)))))
 show wpAny _ _ (pure ((0:Int),(2:Int),Tj 0 (n:Int) 2)) _ _ s
 rw[HJ]
 exact Sw h
theorem pE(ht:IsTup s.heap t items)(hs:s.heap.IsSliceOf sl .none .none (.int 2 t2))
  (h:Q (.ref ⇑s) { s with heap:=s.heap.push { cls:=.type "tuple",data:=.seq (gP items.toList).toArray } }) (hsz:items.size<=sizeLine):wpAny (SK prog w) A (V0 (.ref t) (.ref sl)) Q E s:=by
 have þ:sizeOk (.seq (gP items.toList).toArray):=by
  show(gP items.toList).toArray.size<=sizeLine;rw[P8];exact P2 (zB _) (by rw[Qn];exact hsz)
 obtain⟨os,ů,hcs,Ω⟩:=id hs
 have hTs:s.TypeIs (.ref sl) "slice":=⟨os,ů,hcs⟩
 unfold V0
 try with_reducible refine wpAny_holding ?_
 first|refine E9 (Sw ?_)|skip
 refine E9 (X3 ht.typeIs ∅ ?_)
 refine E9 (Ux (name:=UU "__getitem__") ht.typeIs T2
  (TN T2 ht.typeIs Xg ?_ (XC _ _)))
 show wpAny _ _ (VO (.ref t)>>=_) _ _ s
 refine E9 (tupleItemsOf_ ht ?_)
 refine E9 (UW hTs ?_)
 rw[if_pos ∅]
 refine E9 (Fw hs ?_)
 show wpAny _ _ (if((0:Int)==0&&(2:Int)==1&&((items.size+1)/2)==items.size)=true then _ else _) _ _ s
 rw[if_neg (by simp),NI]
 first
  |exact E9 (m:=Te _) (S9 (Sw {_,rfl,Sw h}) þ)
  |exact E9 (m:=Te _) (S9 (E9 (Sw (Sw {_,rfl,Sw h}))) þ)
  |exact E9 (E9 (m:=Te _) (S9 (Sw (Sw {_,rfl,Sw h})) þ))
  |exact E9 (E9 (m:=Te _) (S9 (Sw {_,rfl,Sw h}) þ))
def LJ(K:SE)(te:TE):TE:=λB H Q=>te B H λx H1=>∃a xs,x=.ref a/\Ç K H1 a xs/\∀p,H1 p=Zr->Q (.ref p) (upd H1 p (.tup (gP xs)))
theorem Hs(he:PE X e te):PE X (.Subscript e (.Slice Zr Zr (Zq (.Constant (.int 2) j p3)) p2) pos) (LJ X.K te):=by
 intro pins s B H Q I h;refine YO (Ì (he pins s B H _ I h) λv s1 z9=>?_);obtain⟨x,H1,I1,r1,a,xs,ex,hx,q⟩:=z9;subst ex;cases r1;refine wpAny_Slice ?_;rw[Xo];refine Sw ?_;refine Sw ?_;rw[evalPart_some];refine Xx ?_;obtain⟨Â,r,ht,hz⟩:=I1.tuple hx;have hlen:Â.toArray.size=↥xs:=by rw[P8];exact r.length.symm
 have I4:Inv X pins B H1 { s1 with heap:=s1.heap.push { cls:=.type "slice",data:=.fields #[.none,.none,.int 2 s1.toks] },toks:=s1.toks+1 }:=I1.kept λb ob q=>Sx _ q;have ht4:IsTup (s1.heap.push { cls:=.type "slice",data:=.fields #[.none,.none,.int 2 s1.toks] }) a Â.toArray:=by
  obtain⟨o,e,r⟩:=ht;exact{o,Sx _ e,r}
 refine tail_any (ops:=[.ref a,.ref ⇑s1]) (s:={ s1 with heap:=s1.heap.push { cls:=.type "slice",data:=.fields #[.none,.none,.int 2 s1.toks] },toks:=s1.toks+1 }) ht4.typeIs PyProof.Rows.slot_tuple_getitem.lookup (pE ht4 (XD ..) ?_ (by rw[hlen];exact hz)) (by with_unfolding_all rfl);refine{.ref _,_,I4.laid (t':=s1.toks+1) (o:=.tup (gP xs)) (λb ob q=>Sx _ q) (Px _) ?_,rfl,q _ (I4.È.fresh (Px _))};exact{P2 (zB xs) hz,_,r.gP,IsTup.new _ _}
theorem bF(h:X.mg x=Zq (.ref a))(hg:Gl X x:=by rfl)(hd:(x==("__debug__":Str))=false:=by decide):PE X (.Name x pos) (tC (.ref a)):=C0 hg h rfl hd
end
theorem AG{lo c:Int}{n:Nat}{g:TG}{tb:TS}{D:ZK}{B:St}{H:Hp}(Pv:Nat->St->Hp->Prop)(h0:Pv 0 B H)
  (hs:∀i B H,i<n->Pv i B H->g (.int (lo+i*c)) B H λσ2 H2=>tb { D with nx:=Pv (i+1),ct:=Pv (i+1),bk:=D.nx } σ2 H2) (hd:∀B H,Pv n B H->D.nx B H) :
  ∃W:Nat->Nat->St->Hp->Prop,(∃m,W 0 m B H)/\∀i m B H,W i m B H->
   ((Hr lo c n).stop i H/\D.nx B H)\/((Hr lo c n).go i H/\∃N,(∀B' H',N B' H'->∃m',m'<m/\W (i+1) m' B' H')/\∀x H',(Hr lo c n).š i H x H'->g x B H' λσ2 H2=>tb { D with nx:=N,ct:=N,bk:=D.nx } σ2 H2):=by
 refine{λi m B H=>m=n-i/\i<=n/\Pv i B H,{n,by simp,PZ _,h0},?_}
 rintro i m B H ⟨rfl,hi,p⟩
 by_cases Ý:i<n
 ·refine .inr {Ý,Pv (i+1),λB' H' p'=>{n-(i+1),(),rfl,Ý,p'},λx H' y=>?_};obtain⟨e,y⟩:=y;subst e y;exact hs i B _ Ý p
 have e:i=n:=()
 subst e
 exact .inl {Px _,hd B H p}
theorem sG{J:It}{n:Nat}{x:Nat->V}{fr:List Nat}{te:CB->TE}{Q:VK}{B:St}{H1:Hp}(R:Nat->V->Hp->Prop)(hn:n<sizeLine)
  (stop:∀H,aj H1 H->J.stop n H) (go:∀i H,i<n->aj H1 H->J.go i H) (š:∀i H v H',i<n->aj H1 H->J.š i H v H'->H'=H/\v=x i)
  (he:∀b i H (G:VK),i<n->aj H1 H->(∀y H',aj H H'->R i y H'->G y H')->te b (Zq (x i)::Ĭ fr B) H G)
  (mono:∀i y H H',aj H H'->R i y H->R i y H') (st:∀i y H D ys zs,H D=Zq (.lst ys)->R i y H->R i y (upd H D (.lst zs)))
  (fin:∀D H ys,H1 D=Zr->aj H1 H->H D=Zq (.lst ys)->↥ys=n->(∀(i:Nat) y,ys[i]?=Zq y->R i y H)->Q (.ref D) H):qI J 1 fr (λ_=>pM 0) (λ_=>Of) te Q B H1:=by
 refine⟨λb D hD=>?_⟩
 refine{λi m B' H'=>m=n-i/\i<=n/\(∃v0,B'=v0::Ĭ fr B)/\aj H1 H'/\∃ys,H' D=Zq (.lst ys)/\↥ys=i/\∀(j:Nat) y,ys[j]?=Zq y->R j y H',{n,rfl,PZ _,⟨Zr,rfl⟩,aj.upd hD _,[],ao,rfl,λj y h=>by cases h},?_}
 rintro i m B' H' ⟨rfl,hi,⟨v0,rfl⟩,sm,ys,hl,hy,hR⟩
 by_cases Ý:i<n
 ·refine .inr {go i H' Ý sm,λσ2 H2=>(∃v0,σ2=v0::Ĭ fr B)/\aj H1 H2/\∃ys,H2 D=Zq (.lst ys)/\↥ys=i+1/\∀(j:Nat) y,ys[j]?=Zq y->R j y H2,λσ2 H2 q=>{n-(i+1),(),rfl,Ý,q},λv H2 y=>?_};obtain⟨rfl,rfl⟩:=š i H' v H2 Ý sm y;refine he b i _ _ Ý sm λz H4 s4 rz=>{ys,s4 _ _ hl,(),{_,rfl},?_,ys++[z],ao,by simp[hy],λj y' hj=>?_}
  ·intro c o q;by_cases hc:c=D
   ·rw[hc,hD]at q;cases q
   rw[aP hc];exact(sm.trans s4) c o q
  have hD4:=s4 _ _ hl;by_cases hji:j<↥ys
  ·rw[Qh hji]at hj;exact st _ _ _ _ _ _ hD4 (mono _ _ _ _ s4 (hR j y' hj))
  by_cases e:j=↥ys
  ·subst e;rw[Qk (Px _)]at hj;simp at hj;subst hj;rw[hy];exact st _ _ _ _ _ _ hD4 rz
  rw[QE (by simp;lia)]at hj;cases hj
 have e:i=n:=()
 subst e
 exact .inl ⟨stop H' sm,fin D H' ys hD sm hl hy hR⟩
section
variable{P:Program}{w:SM}{K:SE}{mg:Str->Option Su}{base:Tb}
structure ĉ(K:SE)(C:Sv)(m qual:Str)(st:S0)(ps:List Str):Prop where
 ex:∃f fd,Fun K m qual st f fd/\Zy K fd ps []/\ZO K C m f
def zi(P:Program)(w:SM)(K:SE)(mg:Str->Option Su)(base:Tb)(k:Nat)(C:Sv)(m:Str)(ps:List Str)(sp:Sp):Prop:=
 ∃f fd,j8 P w K mg base ş k f fd ps sp/\Zy K fd ps []/\ZO K C m f
abbrev ĉ.Hz{C:Sv}{m qual:Str}{st:S0}{ps:List Str}(_:ĉ K C m qual st ps)(P:Program)(w:SM)(mg:Str->Option Su)(base:Tb)(k:Nat)(sp:Sp):Prop:=zi P w K mg base k C m ps sp
theorem ĉ.hs{C m qual st N ps k sp}(F:ĉ K C m qual st ps)(S:aE N ps (aq st))
  (ì:∀f Ã A outer s H vs Q E,dW k (A.deeper (UZ qual (aq st) ⇑s f Ã))->(A.deeper (UZ qual (aq st) ⇑s f Ã)).units+64<Uj->sp vs H Q E->
   ∃t,Į (uZ ş P w K mg base N qual (aq st) f Ã A outer s H E).Ϭ (bj st) t/\t { nx:=λ_ H'=>Q .Ê H',rt:=Q } (ZC N vs) H) (len:∀vs H Q E,sp vs H Q E->↥vs=↥ps:=by intro _ _ _ _ h;cases h;subst_vars;rfl):zi P w K mg base (k+1) C m ps sp:=by
 obtain⟨f,fd,F,b,m⟩:=F.ex
 exact{f,fd,F.ok S len λÃ A outer s H vs Q E hr h=>ì f Ã A outer s H vs Q E hr hr.units h,b,m}
theorem Ϻ.mono(D:Ϻ P w K mg base j x ps sp)(h:j<=k):Ϻ P w K mg base k x ps sp:=by
 obtain⟨f,fd,F,b⟩:=D;exact⟨f,fd,F.mono h,b⟩
structure fF(K:SE)(mg:Str->Option Su)(C:Sv)(x:Str)(up:List Sv):Prop where
 mg:mg x=Zq (.ref C)
 cl:œ K C
 mro:∃cd,W.clsIn K C=Zq cd/\cd.mro=up.map SO++[Tz "object"]
 ty:W.typeIn K (.ref C)=Zq (.type "type")
 kc:T3 K (.ref C) "__class__"=Zq (Zq (.builtin "object.__class__"))
 cg:Va K (.builtin "object.__class__") "__get__"=Zq (Zq (.builtin "getset_descriptor.__get__"))
 ct:Yj K (.builtin "object.__class__")=Zq true
 mks:Yi K C=true
 kp:Uc K (.ref C)=true
variable{C D:Sv}{x y:Str}{up vp:List Sv}
theorem fF.sub(O:fF K mg C x up) (b):Zo K C b=Zq ((up.map SO++[Tz "object"]).contains b):=by
 obtain⟨cd,h1,h2⟩:=O.mro;unfold Zo;rw[h1];show(if cd.mro.isEmpty=true then Zr else Zq (cd.mro.contains b))=_;rw[h2,if_neg (by cases up<;>simp)]
theorem u9(up:List Sv)(D:Sv):(up.map SO++[Tz "object"]).contains (SO D)=decide (D∈up):=by
 induction up with
 |nil=>rfl
 |cons a r ih=>
  show((SO D==SO a)||(r.map SO++[Tz "object"]).contains (SO D))=_;rw[ih];by_cases h:D=a
  ·subst h;simp
  have:(SO D==SO a)=false:=by
   rw[Q1];intro z;exact h (Value.ref.inj (beq_iff_eq.mp z))
  rw[this,R6];simp[h]
theorem fF.kit(O:fF K mg C x up)(U0z:fF K mg D y vp)(hs:C∈up):Vd K (.ref C) (.ref D)=Zq (decide (D∈up)):=by
 unfold Vd;split
 ·rename_i q;have:C=D:=Value.ref.inj (beq_iff_eq.mp q);rw[<-this,decide_eq_true hs]
 obtain⟨cd,h1,_⟩:=U0z.mro;unfold W.kitCls;dsimp only;rw[h1,U0z.ty];rw[if_pos (by rfl)];show Zo K C (.ref D)=_;rw[O.sub,u9]
theorem fF.M8(O:fF K mg C x up)(e:H a=Zq (.ins C dx fs)):oT K H (.ref a) (.ref C):=
 .ins e O.cl O.kc O.cg O.ct ((O.sub _).trans (by simp))
end
section
variable{X:Cx}{k j:Nat}{C:Sv}{x m:Str}{ps:List Str}{sp:Sp}{o e:Expr}{es:List Expr}{ta:TE}{t:TA}{p apos pos:Pos}{up:List Sv}
theorem cK(O:fF X.K X.mg C x up)(D:zi X.prog X.w X.K X.mg X.base j C "__init__" ps sp)(hr:dW k X.A)(ha:PA X (e::es) t)(hj:j+1<=k:=by decide)(hg:Gl X x:=by rfl)(Ď:(x==("__debug__":Str))=false:=by decide)
  (he:SG (e::es) X.env=(false,Ts e X.env)::SG es X.env:=by rfl) (ÿ:(TB pos (SG es X.env)).any (·.1)=false:=by rfl):PE X (.Call (.Name x p) (e::es) [] pos) (J5 C sp [] E0 t):=by
 obtain⟨f,fd,F,b,m⟩:=D
 exact IY ⟨O.mks,m.at_,m.fn,O.kp⟩ F (hr.mono hj) hg O.mg b .nil vC ha Ď he ÿ
def MF(M:Sv->Sp->Prop)(m:Str)(ta:TE)(t:TA):TE:=λB H Q=>ta B H λx H1=>∃a C dx fs sp,x=.ref a/\H1 a=Zq (.ins C dx fs)/\fs.lookup m=Zr/\M C sp/\t B H1 λvs H2=>sp (x::vs) H2 Q E0
theorem qp(he:PE X o ta)(hM:∀C sp,M C sp->œ X.K C/\∃ps,zi X.prog X.w X.K X.mg X.base j C m ps sp)(hr:dW k X.A)(hj:j<=k:=by decide)
  (ht:Ts (.Call (.Attribute o m apos) [] [] pos) X.env=(do
   let ov<-Ts o X.env
   X0 apos.atName
   let (f,first)<-VF [ov] (Yh ov m pl)
   callWith pos f first (TB pos (SG [] X.env)) (Uv pos (TM [] X.env))):=by rfl) :
  PE X (.Call (.Attribute o m apos) [] [] pos) (MF M m ta D3):=by
 intro pins s B H Q I h
 refine W.methodCall_KW (pl:=pl) (Ì (he pins s B H _ I h) λu s1 ⟨x,H1,I1,rx,a,C,dx,fs,sp,ex,ea,l,hm,q⟩=>?_) ht
 obtain⟨c,ps,f,fd,F,b,hm⟩:=hM C sp hm
 subst ex
 obtain rfl:u=SO a:=rx
 refine Bs I1 ea c hm l ?_
 exact W.callWith_K0 (first:=[.ref a]) I1.ü hm.kp (Aa (us:=[.ref a]) (vs:=[.ref a]) (dvs:=[]) F (hr.mono hj) b .nil vC I1 (.cons rfl .nil) q)
structure OfC(K:SE)(C:Sv)(m:Str):Prop where
 ga:Va K (.ref C) "__getattribute__"=Zq (Zq (.builtin "type.__getattribute__"))
 rd:W.readsIn K C (.type "type")=true
 fc:∃f,T3 K (.ref C) m=Zq (Zq (.ref f))/\W.findCls K (.ref C) (.type "type") m=Zq (.val (.ref f))
theorem cH(O:fF X.K X.mg C x up)(W:OfC X.K C m)(D:zi X.prog X.w X.K X.mg X.base j C m ps sp)(hr:dW k X.A)(ha:PA X (e::es) t)(hj:j<=k:=by decide)(hg:Gl X x:=by rfl)(Ď:(x==("__debug__":Str))=false:=by decide)
  (hst:SG (e::es) X.env=(false,Ts e X.env)::SG es X.env:=by rfl) (ÿ:(TB pos (SG es X.env)).any (·.1)=false:=by rfl)
  (ht:Ts (.Call (.Attribute (.Name x p) m apos) (e::es) [] pos) X.env=(do
   let ov<-Ts (.Name x p) X.env
   X0 apos.atName
   let (f,first)<-VF [ov] (Yh ov m pl)
   callWith pos f first (TB pos (SG (e::es) X.env)) (Uv pos (TM [] X.env))):=by rfl) :
  PE X (.Call (.Attribute (.Name x p) m apos) (e::es) [] pos) (vW sp [] E0 t):=by
 obtain⟨f,fd,F,b,hm⟩:=D
 intro pins s B H Q I h
 refine PySem.W.methodCall_KW (pl:=pl) (pG I hg O.mg ?_ Ď) ht
 obtain⟨f',h1,h2⟩:=W.fc
 have ef:f=f':=by
  have:=hm.at_.symm.trans h1;cases this;rfl
 subst ef
 refine PySem.W.method_cls I.ü W.ga (PySem.W.cls_value I.ü W.rd h2 rfl ?_)
 refine PySem.W.callWith_K (h₀:=X.base) I.ok.mod.ä hm.kp (Ì (ha pos pins _ B H _ (I.tok _) h) λus s2 ⟨vs,H2,I2,r,q2⟩=>{I2.ü,?_}) hst ÿ
 exact Aa (us:=us) (vs:=vs) F (hr.mono hj) b .nil vC I2 r q2
end
theorem Mi{K:SE}{C:Sv}{m qual:Str}{st:S0}{ps:List Str}{f:Sv}{oc:Su}{od an:Option Sv}{ù:Array (Option Su)}{kV doc pm Ã ct:Su}
  (a:T3 K (.ref C) m=Zq (Zq (.ref f))) (fn:Zn K (.ref f)=true) (l:K.lookup f=Zq {oc,od,.func (T8 m qual (bH st) (bj st) (aq st) .none kV doc pm an Ã ct),ù}) (c:Vw K Ã qual=true) (k:Uc K (.ref f)=true)
  (hb:∀(kV doc pm:Su)(an:Option Sv)(Ã ct:Su)(us:List Su),↥us=↥ps->bindArgs (T8 m qual (bH st) (bj st) (aq st) .none kV doc pm an Ã ct) {us,[]}=pure (ps.zip us)):ĉ K C m qual st ps:=
 {f,_,xN l c k,(xN l c k).binds hb,⟨a,fn,k⟩}
end L2
namespace L2
open PySem
end L2
namespace L2
open PySem PySem.Spec PyProof.Rows
section
variable{X:Cx}
def vT:V->Bool
 | .μ _=>false
 | .ĺ _=>false
 |_=>true
theorem pX(hx:vT x=true)(ru:Zv x u)(rv:Zv x v) (A s):VP A s u v true:=by
 cases x with
 |Ê=>cases ru;cases rv;exact .same _
 |bl b=>cases ru;cases rv;exact .same _
 |int i=>
  obtain⟨t,rfl⟩:=ru;obtain⟨t',rfl⟩:=rv;have:=XH (A:=A) (s:=s) i t i t';rwa [beq_self_eq_true]at this
 |str y=>
  obtain⟨t,rfl⟩:=ru;obtain⟨t',rfl⟩:=rv;have:=XI (A:=A) (s:=s) y t y t';rwa [beq_self_eq_true]at this
 |ĺ _=>cases hx
 |μ _=>cases hx
 |ref a=>cases ru;cases rv;exact .same _
 |ty n=>cases ru;cases rv;exact .same _
theorem NK(hu:X.A.units+64<Uj):Ó X (SW .Eq) (λx y H Q=>∃p q xs,x=.ref p/\y=.ref q/\À X.K H p xs/\À X.K H q xs/\xs.all vT=true/\Q (.bl true) H):=by
 intro pins s B H x y v u Q I rx ry h;obtain⟨p,q,xs,rfl,rfl,hp,hq,hf,k⟩:=h;cases rx;cases ry;obtain⟨Â,r1,⟨o,n,e1,c1,_,d1⟩,_⟩:=I.list hp;obtain⟨jts,r2,⟨o2,n2,e2,c2,_,d2⟩,_⟩:=I.list hq;have l1:=↥r1;have l2:=↥r2;refine SeqAt.eq_listAt (e:=λ_=>true) ⟨o,e1,c1,n,d1⟩ ⟨o2,e2,c2,n2,d2⟩ (by simp;lia) () (λj h1 h2=>?_) ?_
 ·simp at h1 h2;obtain⟨x,hx⟩:∃x,xs[j]?=Zq x:={xs[j]'(()),PB ()};obtain⟨u1,g1,w1⟩:=r1.get hx;obtain⟨u2,g2,w2⟩:=r2.get hx;have z1:Â.toArray[j]'(by simpa using h1)=u1:=by
   have:=PB h1;rw[g1]at this;simpa using (SN this).symm
  have z2:jts.toArray[j]'(by simpa using h2)=u2:=by
   have:=PB h2;rw[g2]at this;simpa using (SN this).symm
  rw[z1,z2];exact pX (Rt.mp hf x (P4 hx)) w1 w2 _ _
 have:((SS Â.toArray.size).all λ_=>true)=true:=by simp
 rw[this];exact⟨.bl true,H,I,rfl,k⟩
def O7(K:SE):R2:=λx y H Q=>match x,y with
 | .ref p,.ref q=>(∃d e,nQ K H (.ref p) d/\nQ K H (.ref q) e/\TY d=true/\TY e=true/\Q (.bl (UQ d e)) H)\/(∃xs,À K H p xs/\À K H q xs/\xs.all vT=true/\Q (.bl true) H)
 |x,y=>Ec x y=true/\Q (.bl (decide (x=y))) H
theorem MT(hu:X.A.units+64<Uj):Ó X (SW .Eq) (O7 X.K):=((OL hu).or (NK hu)).imp λx y H Q q=>by
 by_cases hr:∃p q,x=V.ref p/\y=V.ref q
 ·obtain⟨p,q',rfl,rfl⟩:=hr;rcases q with q|⟨xs,h1,h2,h3,h4⟩
  ·exact .inl q
  exact .inr ⟨p,q',xs,rfl,rfl,h1,h2,h3,h4⟩
 refine .inl ?_;cases x<;>cases y<;>first|exact q|exact absurd {_,_,rfl,rfl} hr
end
section
variable{κ:Type}[DecidableEq κ]
def b5(kvs:List (κ×V))(k:κ):Option V:=(kvs.find? λkv=>decide (kv.1=k)).map (·.2)
def Zz(kvs:List (κ×V))(k:κ)(v:V):List (κ×V):=
 if(kvs.any λkv=>decide (kv.1=k))=true then kvs.map (λkv=>if kv.1=k then(kv.1,v)else kv)else kvs++[(k,v)]
theorem cZ{p:κ×V}{r}{k:κ}(e:p.1=k):b5 (p::r) k=Zq p.2:=by simp[b5,QF,e]
theorem cN{p:κ×V}{r}{k:κ}(e:¬ p.1=k):b5 (p::r) k=b5 r k:=by simp[b5,QF,e]
theorem iE(k:κ):∀kvs,(kvs.any λkv=>decide (kv.1=k))=(b5 kvs k).isSome
 | []=>rfl
 |p::r=>by
  rw[RI];by_cases e:p.1=k
  ·simp only[cZ e,decide_eq_true e,Bool.true_or,XM]
  rw[cN e,decide_eq_false e,R6];exact iE k r
theorem yZ(k j:κ) (y):∀kvs,b5 (kvs.map λkv=>if kv.1=k then(kv.1,y)else kv) j=(b5 kvs j).map λx=>if j=k then y else x
 | []=>rfl
 |p::r=>by
  have ih:=yZ k j y r;rw[P0];by_cases h:p.1=k
  ·rw[if_pos h];by_cases e:p.1=j
   ·rw[cZ (p:=(p.1,y)) e,cZ e,QT,if_pos (e.symm.trans h)]
   rw[cN (p:=(p.1,y)) e,cN e,ih]
  rw[if_neg h];by_cases e:p.1=j
  ·rw[cZ (p:=p) e,cZ e,QT,if_neg (λz=>h (e.trans z))]
  rw[cN (p:=p) e,cN e,ih]
theorem vJ(k j:κ) (y):∀kvs,b5 kvs k=Zr->b5 (kvs++[(k,y)]) j=if j=k then Zq y else b5 kvs j
 | [],_=>by
  by_cases e:k=j
  ·rw[if_pos e.symm];exact cZ (p:=(k,y)) e
  rw[if_neg (λz=>e z.symm)];exact cN (p:=(k,y)) e
 |p::r,hn=>by
  rw[Qr];have hk:¬ p.1=k:=λz=>by rw[cZ z]at hn;cases hn
  rw[cN hk]at hn;have ih:=vJ k j y r hn;by_cases e:p.1=j
  ·rw[cZ e,cZ e,if_neg (λz=>hk (e.trans z))]
  rw[cN e,cN e,ih]
theorem zj (kvs) (k j:κ) (y):b5 (Zz kvs k y) j=if j=k then Zq y else b5 kvs j:=by
 unfold Zz;by_cases a:(kvs.any λkv=>decide (kv.1=k))=true
 ·rw[if_pos a,yZ];rw[iE]at a;by_cases e:j=k
  ·obtain⟨x,hx⟩:=Q0.mp a;rw[if_pos e,e,hx,QT,if_pos rfl]
  rw[if_neg e];cases b5 kvs j with
  |none=>rfl
  |some x=>rw[QT,if_neg e]
 rw[if_neg a];refine vJ k j y kvs ?_;rw[iE]at a;cases q:b5 kvs k with
 |none=>rfl
 |some x=>rw[q]at a;exact(a rfl).elim
theorem jj (kvs) (k:κ) (v):(Zz kvs k v).length<=↥kvs+1:=by
 unfold Zz;split
 ·rw[Pr];lia
 rw[Pq,PD,Qw];lia
theorem uB{kvs}{k:κ} (v) (h:b5 kvs k=Zr):Zz kvs k v=kvs++[(k,v)]:=by
 unfold Zz;rw[iE,h];exact if_neg ∅
theorem lH.j4(r:lH o u):o.isSome=u.isSome:=by
 cases o with
 |none=>cases u with
  |none=>rfl
  |some _=>exact(show False from r).elim
 |some _=>cases u with
  |none=>exact(show False from r).elim
  |some _=>rfl
theorem lH.getD(r:lH o u)(rd:Zv d d'):Zv (o.getD d) (u.getD d'):=by
 cases o with
 |none=>cases u with
  |none=>exact rd
  |some _=>exact(show False from r).elim
 |some _=>cases u with
  |none=>exact(show False from r).elim
  |some _=>exact r
theorem KV.val(r:KV kvs vs)(k:κ):lH (b5 kvs k) (valueAt vs k):=by
 unfold KV at r;induction r with
 |nil=>exact QK
 |@cons p q ps qs h t ih=>
  obtain⟨h1,h2⟩:=h;by_cases e:p.1=k
  ·have e':q.1=k:=h1.symm.trans e;have b:valueAt (q::qs) k=Zq q.2:=by simp[valueAt,QF,e']
   rw[cZ e,b];exact h2
  have e':¬ q.1=k:=λz=>e (h1.trans z);have b:valueAt (q::qs) k=valueAt qs k:=by simp[valueAt,QF,e']
  rw[cN e,b];exact ih
theorem KV.any(r:KV kvs vs)(k:κ):(kvs.any λkv=>decide (kv.1=k))=vs.any λkv=>decide (kv.1=k):=by
 unfold KV at r;induction r with
 |nil=>rfl
 |cons h t ih=>rw[RI,RI,ih,h.1]
theorem KV.Lw(r:KV kvs vs)(k:κ)(ry:Zv y u) :
  KV (kvs.map λkv=>if kv.1=k then(kv.1,y)else kv) (vs.map λkv=>if kv.1=k then(kv.1,u)else kv):=by
 unfold KV at r⊢
 induction r with
 |nil=>exact .nil
 |@cons p q ps qs h t ih=>
  rw[P0,P0]
  refine .cons ?_ ih
  obtain⟨h1,h2⟩:=h
  by_cases e:p.1=k
  ·rw[if_pos e,if_pos (h1.symm.trans e)];exact⟨h1,ry⟩
  rw[if_neg e,if_neg (λz=>e (h1.trans z))];exact⟨h1,h2⟩
theorem KV.put(r:KV kvs vs)(k:κ)(ry:Zv y u):KV (Zz kvs k y) (stored vs k u):=by
 unfold Zz stored;rw[r.any k];by_cases e:(vs.any λkv=>decide (kv.1=k))=true
 ·rw[if_pos e,if_pos e];exact r.Lw k ry
 rw[if_neg e,if_neg e];exact Paired.snoc r ⟨rfl,ry⟩
theorem KV.keys{kvs:List (κ×V)}{vs:List (κ×Su)}(r:KV kvs vs):kvs.map (·.1)=vs.map (·.1):=by
 unfold KV at r;induction r with
 |nil=>rfl
 |cons h t ih=>rw[P0,P0,ih,h.1]
theorem KV.length(r:KV kvs vs):↥kvs=↥vs:=Sz r
end
theorem qT(r:Zv (kV k) u):(bO P w).is k u=true:=by
 cases k with
 |inl i=>obtain⟨t,e⟩:=(show ∃t,u=Uu i t from r);subst e;exact zc P w i t
 |inr x=>obtain⟨t,e⟩:=(show ∃t,u=W8 x t from r);subst e;exact yX P w x t
theorem wq:∀{ks:List Key}{us:List Su},Zt (ks.map kV) us->ItemsAre (bO P w) ks us
 | [],_,r=>by rw[Sq]at r;cases r;exact .nil
 |k::ks,_,r=>by
  rw[P0]at r;cases r with
  |cons h t=>exact .cons (qT h) (wq t)
abbrev KT(H:Hp):List (List Key×V)->List (List Key×Sv×Su)->Prop:=Paired λp q=>p.1=q.1/\H q.2.1=Zq (.tup (p.1.map kV))/\Zv p.2 q.2.2
theorem KT.val(r:KT H kvs xs) (k):lH (b5 kvs k) ((Yw xs k).map (·.2)):=by
 induction r with
 |nil=>exact QK
 |@cons p q ps qs h t ih=>
  obtain⟨h1,_,h2⟩:=h;by_cases e:p.1=k
  ·have e':q.1=k:=h1.symm.trans e;have b:Yw (q::qs) k=Zq q.2:=by simp[Yw,QF,e']
   rw[cZ e,b];exact h2
  have e':¬ q.1=k:=λz=>e (h1.trans z);have b:Yw (q::qs) k=Yw qs k:=by simp[Yw,QF,e']
  rw[cN e,b];exact ih
theorem KT.Lw(r:KT H kvs xs) (k) (ry:Zv y u) :
  KT H (kvs.map λkv=>if kv.1=k then(kv.1,y)else kv) (xs.map (putAt k u)):=by
 induction r with
 |nil=>exact .nil
 |@cons p q ps qs h t ih=>
  rw[P0,P0]
  refine .cons ?_ ih
  obtain⟨h1,h2,h3⟩:=h
  unfold putAt
  by_cases e:p.1=k
  ·rw[if_pos e,if_pos (h1.symm.trans e)];exact⟨h1,h2,ry⟩
  rw[if_neg e,if_neg (λz=>e (h1.trans z))];exact⟨h1,h2,h3⟩
theorem KT.put(r:KT H kvs xs)(k:List Key)(hb:H b=Zq (.tup (k.map kV)))(ry:Zv y u) :
  KT H (Zz kvs k y) (storedH xs k b u):=by
 have e:(kvs.any λkv=>decide (kv.1=k))=(Yw xs k).isSome:=by
  rw[iE,(r.val k).j4,R8]
 unfold Zz storedH
 rw[e]
 by_cases q:(Yw xs k).isSome=true
 ·rw[if_pos q,if_pos q];exact r.Lw k ry
 rw[if_neg q,if_neg q];exact Paired.snoc r ⟨rfl,hb,ry⟩
theorem KT.keeps(r:KT H kvs xs)(ht:∀b ys,H b=Zq (.tup ys)->H' b=Zq (.tup ys)):KT H' kvs xs:=
 Paired.vo r λ_ _ z=>{z.1,ht _ _ z.2.1,z.2.2}
section
variable{P:Program}{w:SM}{H:Hp}{h:Tb}{a:Sv}
theorem J7(ok:û P w H h)(e:Rd H a u):cP P w H h a u:=e.ok ok
theorem mP(ok:û P w H h)(e:Rd H a (.dK kvs)):↥kvs<=sizeLine/\(a==T4)=false/\∃vs,KV kvs vs/\h.DictOf (bO P w) a vs:=
 show cP P w H h a (.dK kvs)from J7 ok e
theorem CP(ok:û P w H h)(e:H a=Zq (.dK kvs)):↥kvs<=sizeLine/\(a==T4)=false/\∃vs,KV kvs vs/\h.DictOf (bO P w) a vs:=mP ok (.inl e)
theorem p9(ok:û P w H h)(e:H a=Zq (.tup (ks.map kV))):(V8 (bO P w)).is h ks a:=by
 obtain⟨_,Â,r,o,h1,h2,n,h3⟩:=(show cP P w H h a (.tup (ks.map kV))from ok a _ e);exact⟨o,Â.toArray,n,h1,h2,h3,by simpa using wq r⟩
theorem tX(ok:û P w H h)(e:Rd H a (.dT kvs)):↥kvs<=sizeLine/\(a==T4)=false/\
  ∃xs,KT H kvs xs/\h.DictOfH (V8 (bO P w)) a xs:=by
 obtain⟨z,y,xs,r,o,es,ep,h1,h2,h3,h4,h5⟩:=(show cP P w H h a (.dT kvs)from J7 ok e)
 refine{z,y,xs,r,o,es,ep,h1,h2,h3,h4,λx hx=>?_,h5}
 have all:∀{l:List (List Key×V)}{m:List (List Key×Sv×Su)},KT H l m->∀x∈m,(V8 (bO P w)).is h x.1 x.2.1:=by
  intro l m q;induction q with
  |nil=>intro x hx;exact nomatch hx
  |@cons p q ps qs hq t ih=>
   intro x hx;rcases Py.mp hx with e|hx
   ·subst e;exact p9 ok (by rw[<-hq.1];exact hq.2.1)
   exact ih x hx
 exact all r x hx
theorem ND(ok:û P w H h)(e:H a=Zq (.dT kvs)):↥kvs<=sizeLine/\(a==T4)=false/\
  ∃xs,KT H kvs xs/\h.DictOfH (V8 (bO P w)) a xs:=tX ok (.inl e)
end
def jd(H:Hp)(a:Sv)(y:V)(r:Option V):Prop:=
 (∃kvs k,Rd H a (.dK kvs)/\y=kV k/\r=b5 kvs k)\/∃kvs k b,Rd H a (.dT kvs)/\y=.ref b/\H b=Zq (.tup (k.map kV))/\r=b5 kvs k
def nO(H:Hp)(a:Sv)(y v:V)(H':Hp):Prop:=
 (∃kvs k,H a=Zq (.dK kvs)/\y=kV k/\↥kvs<sizeLine/\H'=upd H a (.dK (Zz kvs k v)))\/
 ∃kvs k b,H a=Zq (.dT kvs)/\y=.ref b/\H b=Zq (.tup (k.map kV))/\↥kvs<sizeLine/\H'=upd H a (.dT (Zz kvs k v))
theorem jd.k{H:Hp}{a:Sv}{kvs:List (Key×V)}{k:Key}(e:H a=Zq (.dK kvs)):jd H a (kV k) (b5 kvs k):=.inl ⟨kvs,k,.inl e,rfl,rfl⟩
theorem nO.k{H a kvs k v}(e:H a=Zq (.dK kvs))(hl:↥kvs<sizeLine):nO H a (kV k) v (upd H a (.dK (Zz kvs k v))):=.inl ⟨kvs,k,e,rfl,hl,rfl⟩
section
variable{X:Cx}{pins:List (Sv×Obj)}{B:St}{H:Hp}{s:Sy}{a:Sv}{y v:V}{u r:Su}{o:Option V}{A:Td}{E:Su->Sy->Prop}
theorem Inv.big(I:Inv X pins B H s):T4<⇑s:=by
 have h:SU<⇑s:=(I.mod.glob.keeps I.bk).lt;exact Sr ∅ h
theorem Dq(hu:A.units+1<Uj)(I:Inv X pins B H s)(g:jd H a y (Zq v))(ry:Zv y u)(h:∀w' s',Inv X pins B H s'->Zv v w'->Q w' s') :
  wpAny (SK X.prog X.w) A (V0 (.ref a) u) Q E s:=by
 rcases g with⟨kvs,k,e,ey,l⟩|⟨kvs,k,b,e,ey,eb,l⟩
 ·subst ey;obtain⟨z,hd,vs,rel,dd⟩:=mP I.È e;obtain⟨w',hw,ϔ⟩:=lH.some_of (v:=v) (o:=valueAt vs k) (by rw[l];exact rel.val k);exact wpAny_getItem_of (qT ry) dd.mapOf hw (h w' _ (I.tok _) ϔ)
 subst ey
 cases (show u=SO b from ry)
 obtain⟨z,hd,xs,rel,dd⟩:=tX I.È e
 obtain⟨w',hw,ϔ⟩:=lH.some_of (v:=v) (o:=(Yw xs k).map (·.2)) (by rw[l];exact rel.val k)
 obtain⟨p,hp,hp2⟩:=Rj.mp hw
 refine wpAny_getItem_heap (UC hu) (p9 I.È eb) dd hp ?_
 rw[hp2]
 exact h w' _ (I.tok _) ϔ
theorem OJ(hu:A.units+1<Uj)(I:Inv X pins B H s)(g:jd H a y o)(ry:Zv y u)(h:∀s',Inv X pins B H s'->Q (.bool o.isSome) s') :
  wpAny (SK X.prog X.w) A (SW .In u (.ref a)) Q E s:=by
 rcases g with⟨kvs,k,e,ey,l⟩|⟨kvs,k,b,e,ey,eb,l⟩
 ·subst ey;obtain⟨z,hd,vs,rel,dd⟩:=mP I.È e;refine wpAny_in_of (qT ry) hd dd.mapOf ?_;rw[<-(rel.val k).j4,<-l];exact h _ (I.tok _)
 subst ey
 cases (show u=SO b from ry)
 obtain⟨z,hd,xs,rel,dd⟩:=tX I.È e
 refine wpAny_in_heap (UC hu) (p9 I.È eb) hd dd ?_
 have q:=(rel.val k).j4
 rw[R8]at q
 rw[<-q,<-l]
 exact h _ (I.tok _)
theorem Jf(hu:A.units+1<Uj)(I:Inv X pins B H s)(g:jd H a y o)(ry:Zv y u)(h:∀s',Inv X pins B H s'->Q (.bool (!o.isSome)) s') :
  wpAny (SK X.prog X.w) A (SW .NotIn u (.ref a)) Q E s:=by
 rcases g with⟨kvs,k,e,ey,l⟩|⟨kvs,k,b,e,ey,eb,l⟩
 ·subst ey;obtain⟨z,hd,vs,rel,dd⟩:=mP I.È e;refine wpAny_notIn_of (qT ry) hd dd.mapOf ?_;rw[<-(rel.val k).j4,<-l];exact h _ (I.tok _)
 subst ey
 cases (show u=SO b from ry)
 obtain⟨z,hd,xs,rel,dd⟩:=tX I.È e
 refine wpAny_notIn_heap (UC hu) (p9 I.È eb) hd dd ?_
 have q:=(rel.val k).j4
 rw[R8]at q
 rw[<-q,<-l]
 exact h _ (I.tok _)
theorem pJ(I:Inv X pins B H s)(mu:Mut (H a))(hs:UB a s.heap h')(he:∃q,h'.get? a=Zq q)(new:cP X.prog X.w (upd H a ob) h' a ob) :
  Inv X pins B (upd H a ob) { s with heap:=h',toks:=t' }:=
 I.write (x:=a) (e:=a) mu (.inl rfl) (λb q hb z=>(hs.2 b hb).trans z) he new
theorem AF(z:↥kvs<=sizeLine)(hd:(a==T4)=false)(rel:KV kvs vs)(dd:h'.DictOf (bO P w) a vs) :
  cP P w H' h' a (.dK kvs):=⟨z,hd,vs,rel,dd⟩
theorem DG(hu:A.units+1<Uj)(I:Inv X pins B H s)(g:nO H a y v H')(ry:Zv y u)(rv:Zv v r)(h:∀s',Inv X pins B H' s'->Q Unit.unit s') :
  wpAny (SK X.prog X.w) A (setItem (.ref a) u r) Q E s:=by
 rcases g with⟨kvs,k,e,ey,l,eH⟩|⟨kvs,k,b,e,ey,eb,l,eH⟩
 ·subst ey eH;obtain⟨z,hd,vs,rel,dd⟩:=CP I.È e;have hz:↥vs<=sizeLine:=by rw[<-↥rel];exact z
  have hl:(Zz kvs k v).length<=sizeLine:=by have:=jj kvs k v;lia
  refine wpAny_setItem_pairs (hsz:=hz) (qT ry) dd λh' ϶ hs=>h _ ?_;have he:∃q,h'.get? a=Zq q:=let ⟨q,_,_,hq,_⟩:=϶;⟨q,hq⟩
  exact pJ I (by rw[e];exact QK) hs he (AF hl hd (rel.put k rv) ϶)
 subst ey eH
 cases (show u=SO b from ry)
 obtain⟨z,hd,xs,rel,dd⟩:=ND I.È e
 have hz:↥xs<=sizeLine:=by rw[<-Sz rel];exact z
 have hl:(Zz kvs k v).length<=sizeLine:=by have:=jj kvs k v;lia
 refine wpAny_setItem_heap (hsz:=hz) (UC hu) (p9 I.È eb) dd λh' ϶ hs=>h _ ?_
 obtain⟨q,es,ep,hq,h2,h3,h4,_,h5⟩:=϶
 refine pJ I (by rw[e];exact QK) hs ⟨q,hq⟩ {hl,hd,_,(rel.put k eb rv).keeps λc ys ec=>?_,q,es,ep,hq,h2,h3,h4,h5}
 rw[aP (NX ec e (λz=>nomatch z))]
 exact ec
end
section
variable{X:Cx}{pins:List (Sv×Obj)}{B:St}{H:Hp}{s:Sy}{a:Sv}{kvs:List (Key×V)}{k:Key}{u:Su}{A:Td}{E:Su->Sy->Prop}
theorem MP(I:Inv X pins B H s)(e:Rd H a (.dK kvs))(h:∀t s',Inv X pins B H s'->Q (.int ↥kvs t) s'):wpAny (SK X.prog X.w) A (call (.builtin "len") [.ref a]) Q E s:=by
 obtain⟨z,hd,vs,rel,dd⟩:=mP I.È e;refine call_len_dict hd dd (by rw[<-↥rel];rw[UM]at z;lia) ?_;rw[<-↥rel];exact h _ _ (I.tok _)
end
theorem yD(I:Inv X pins B H s)(g:jd H a y o):s.TypeIs (.ref a) "dict":=by
 rcases g with⟨kvs,k,e,_,_⟩|⟨kvs,k,b,e,_,_,_⟩
 ·obtain⟨_,_,vs,_,dd⟩:=mP I.È e;exact dd.typeIs
 obtain⟨_,_,xs,_,dd⟩:=tX I.È e;exact dd.typeIs
section
variable{X:Cx}{o i e value:Expr}{pos pos' tpos:Pos}{td ty tv:TE}
end
theorem uH(h:Tb)(hb:T4<h.objs.size):cP P w H (h.push { cls:=.type "dict",data:=.dict #[] }) h.objs.size (.dK []):=
 {PZ _,beq_eq_false_iff_ne.mpr (P9 (Qf hb)),[],.nil,YA h}
def KP:TE:=λ_ H Q=>∀p,H p=Zr->Q (.ref p) (upd H p (.dK []))
section
variable{X:Cx}{pos:Pos}
theorem tS:PE X (.Dict [] [] pos) KP:=λpins s B H Q I h=>
 wpAny_Dict_empty {.ref ⇑s,_,I.laid (a:=⇑s) (o:=.dK []) (t':=s.toks) (λ_ _ q=>Sx _ q) (Px _) (uH s.heap I.big),rfl,h _ (I.È.fresh (Px _))}
end
def Bq:List (TE×TE)->St->Hp->(List (V×V)->Hp->Prop)->Prop
 | [],_,H,Q=>Q [] H
 | (tk,tv)::r,B,H,Q=>tk B H λx H1=>tv B H1 λy H2=>Bq r B H2 λps H3=>Q ((x,y)::ps) H3
abbrev VV:List (V×V)->List (Su×Su)->Prop:=Paired λp q=>Zv p.1 q.1/\Zv p.2 q.2
def PPs(X:Cx)(pos:Pos)(keys:List (Option Expr))(values:List Expr)(trs:List (TE×TE)):Prop:=
 ∀(pins:List (Sv×Obj))(s:Sy)(B:St)(H:Hp)(Q:List (V×V)->Hp->Prop),Inv X pins B H s->Bq trs B H Q->
  wpAny (SK X.prog X.w) X.A (evalPairs (pairTrees keys values X.env pos)) (λvs s'=>∃ps H',Inv X pins B H' s'/\VV ps vs/\Q ps H') X.xe s
theorem Dd:PPs X pos [] [] []:=λpins s B H Q I h=>pairTrees_nil_walk {[],H,I,.nil,h}
theorem gm(hk:PE X k tk)(hv:PE X v tv)(hr:PPs X pos ks vs trs) :
  PPs X pos (Zq k::ks) (v::vs) ((tk,tv)::trs):=λpins s B H Q I h=>
 pairTrees_cons_walk (Ì (hk pins s B H _ I h) λu s1 ⟨x,H1,I1,rx,q1⟩=>Ì (hv pins s1 B H1 _ I1 q1) λw2 s2 ⟨y,H2,I2,ry,q2⟩=>
  Ì (hr pins s2 B H2 _ I2 q2) λws s3 ⟨ps,H3,I3,rel,q3⟩=>{(x,y)::ps,H3,I3,.cons ⟨rx,ry⟩ rel,q3})
def bx(kvs more:List (Key×V)):List (Key×V):=more.foldl (λacc kv=>Zz acc kv.1 kv.2) kvs
theorem KV.merge:∀{more:List (Key×V)}{rs:List (Key×Su)}{kvs:List (Key×V)}{vs:List (Key×Su)},KV more rs->KV kvs vs->KV (bx kvs more) (merged vs rs):=by
 intro more rs kvs vs r;unfold KV at r;induction r generalizing kvs vs with
 |nil=>intro q;exact q
 |@cons p q ps qs h t ih=>
  intro r0;have e:KV (Zz kvs p.1 p.2) (stored vs q.1 q.2):=by
   have:=r0.put p.1 h.2;rw[<-h.1];exact this
  exact ih e
theorem jV:∀more kvs,(bx kvs more).length<=↥kvs+↥more
 | [],kvs=>by show ↥kvs<=↥kvs+0;lia
 |p::r,kvs=>by
  have h1:=jV r (Zz kvs p.1 p.2);have h2:=jj kvs p.1 p.2;show(bx (Zz kvs p.1 p.2) r).length<=_;rw[PD];lia
theorem sP:∀{kvs:List (Key×V)}{ws:List (Su×Su)},VV (kvs.map λkv=>(kV kv.1,kv.2)) ws->∃rs,Carries (bO P w) ws rs/\KV kvs rs
 | [],_,r=>by rw[Sq]at r;cases r;exact{[],QK,.nil}
 |p::kvs,_,r=>by
  rw[P0]at r;cases r with
  |@cons a b as bs h t=>
   obtain⟨rs,c,q⟩:=sP (P:=P) (w:=w) t;obtain⟨b1,b2⟩:=b;exact{(p.1,b2)::rs,⟨qT h.1,rfl,c⟩,.cons ⟨rfl,h.2⟩ q}
def M9(trs:List (TE×TE)):TE:=λB H Q=>∀p,H p=Zr->Bq trs B (upd H p (.dK [])) λps H2=>H2 p=Zq (.dK [])/\∃kvs:List (Key×V),ps=kvs.map (λkv=>(kV kv.1,kv.2))/\↥kvs<=15/\Q (.ref p) (upd H2 p (.dK (bx [] kvs)))
theorem Dj(h:PPs X pos keys values trs)(Ϟ:keys.all (·.isSome)=true)(hl:↥keys=↥values)(h0:keys≠[])
  (h15:↥keys<=15):PE X (.Dict keys values pos) (M9 trs):=by
 intro pins s B H Q I q
 have hn:=I.È.fresh (Px ⇑s)
 have I1:=I.laid (a:=⇑s) (o:=.dK []) (h':=s.heap.push { cls:=.type "dict",data:=.dict #[] }) (t':=s.toks) (λ_ _ q=>Sx _ q) (Px _) (uH s.heap I.big)
 refine wpAny_Dict_walk (knd:=bO X.prog X.w) Ϟ hl h0 h15 (Ì (h pins _ B _ _ I1 (q _ hn)) λws s2 z9=>?_);obtain⟨ps,H2,I2,rel,e,kvs,ep,lk,q2⟩:=z9
 subst ep
 obtain⟨rs,c,rk⟩:=sP (P:=X.prog) (w:=X.w) rel
 obtain⟨z,hd,vs0,r0,dd⟩:=CP I2.È e
 cases r0
 refine{rs,c,dd,λh' ϶ hs=>{.ref ⇑s,_,?_,rfl,q2}}
 have hz:(bx [] kvs).length<=sizeLine:=by
  have h1:=jV kvs [];rw[Qw]at h1;rw[UM];lia
 have he:∃q,h'.get? ⇑s=Zq q:=let ⟨q,_,_,hq,_⟩:=϶;⟨q,hq⟩
 exact pJ I2 (by rw[e];exact QK) hs he (AF hz hd (rk.merge .nil) ϶)
structure M1(X:Cx)(o:Expr)(m:Str)(apos:Pos)(e:Expr)(Ï:Pos):Prop where
 base:T7 o m X.env (Ts o X.env)=Ts o X.env
 few:((TB Ï (SG [e] X.env)).all (λx=>!x.1)&&(Uv Ï (TM [] X.env)).all (λx=>x.1.isSome)
  &&decide (([e]:List Expr).length+([]:List UT).length+(if([]:List UT).isEmpty then 0 else 1)<30))=true
 line:(apos.endLine==Ï.line)=true
 trees:TB Ï (SG [e] X.env)=[(false,Ts e X.env)]
structure M2(X:Cx)(o:Expr)(m:Str)(apos:Pos)(e f:Expr)(Ï:Pos):Prop where
 base:T7 o m X.env (Ts o X.env)=Ts o X.env
 few:((TB Ï (SG [e,f] X.env)).all (λx=>!x.1)&&(Uv Ï (TM [] X.env)).all (λx=>x.1.isSome)
  &&decide (([e,f]:List Expr).length+([]:List UT).length+(if([]:List UT).isEmpty then 0 else 1)<30))=true
 line:(apos.endLine==Ï.line)=true
 trees:TB Ï (SG [e,f] X.env)=[(false,Ts e X.env),(false,Ts f X.env)]
def IsD(H:Hp)(a:Sv):Prop:=(∃kvs,Rd H a (.dK kvs))\/∃kvs,Rd H a (.dT kvs)
theorem Kx(I:Inv X pins B H s)(d:IsD H a) :
  s.TypeIs (.ref a) "dict"/\(∀b,SO a=.ref b->∃ob,s.heap.get? b=Zq ob/\ob.dict=Zr)/\(a==T4)=false:=by
 rcases d with⟨kvs,e⟩|⟨kvs,e⟩
 ·obtain⟨_,hd,vs,_,dd⟩:=mP I.È e;refine{dd.typeIs,λb q=>?_,hd};cases q;obtain⟨ob,_,_,h1,h2,_⟩:=dd;exact⟨ob,h1,h2.2.1⟩
 obtain⟨_,hd,xs,_,dd⟩:=tX I.È e
 refine{dd.typeIs,λb q=>?_,hd}
 cases q
 obtain⟨ob,_,_,h1,h2,_⟩:=dd
 exact⟨ob,h1,h2.2.1⟩
section
variable{X:Cx}{pins:List (Sv×Obj)}{B:St}{H:Hp}{s:Sy}{a:Sv}{y d:V}{u r:Su}{o:Option V}{A:Td}{E:Su->Sy->Prop}
theorem Mb(hu:A.units+1<Uj)(I:Inv X pins B H s)(g:jd H a y o)(ry:Zv y u)(rd:Zv d r)(h:∀w' s',Inv X pins B H s'->Zv (o.getD d) w'->Q w' s') :
  wpAny (SK X.prog X.w) A (call (.builtin "dict.get") [.ref a,u,r]) Q E s:=by
 rcases g with⟨kvs,k,e,ey,l⟩|⟨kvs,k,b,e,ey,eb,l⟩
 ·subst ey;obtain⟨z,hd,vs,rel,dd⟩:=mP I.È e;refine call_meetsIn Vl dd.typeIs Ww (Wa _ _ _) (meets_dict_get_default (bO X.prog X.w) a (qT ry) hd r) {_,dd.mapOf,h _ _ (I.tok _) ?_};rw[l];exact(rel.val k).getD rd
 subst ey
 cases (show u=SO b from ry)
 obtain⟨z,hd,xs,rel,dd⟩:=tX I.È e
 refine call_meetsIn Vl dd.typeIs Ww (Wa _ _ _) (meetsH_dict_get_default (V8 (bO X.prog X.w)) a b hd r) {UC hu,k,xs,p9 I.È eb,dd,h _ _ (I.tok _) ?_}
 rw[l]
 exact(rel.val k).getD rd
end
def MC(td ty tx:TE):TE:=λB H Q=>td B H λx H1=>∃a,x=.ref a/\IsD H1 a/\ty B H1 λy H2=>tx B H2 λz H3=>∃o,jd H3 a y o/\Q (o.getD z) H3
section
variable{X:Cx}{o e f:Expr}{apos Ï:Pos}{td ty tx:TE}
theorem Ga(hu:X.A.units+1<Uj)(ho:PE X o td)(he:PE X e ty)(hf:PE X f tx)(m:M2 X o "get" apos e f Ï):PE X (.Call (.Attribute o "get" apos) [e,f] [] Ï) (MC td ty tx):=by
 intro pins s B H Q I h;refine wpAny_Call_method m.base m.few m.line PySem.F.plainAttrs_dict Vl PySem.F.type_dict_get (Ì (ho pins s B H _ I h) λu s1 z9=>?_);obtain⟨x,H1,I1,rx,a,ex,d,q1⟩:=z9;subst ex;obtain rfl:u=SO a:=rx;obtain⟨t1,t2,_⟩:=Kx I1 d;refine{t1,t2,?_};rw[m.trees];refine Ve rfl (WV (Uk (Ì (he pins s1 B H1 _ I1 q1) λiv s2 ⟨y,H2,I2,ry,q2⟩=>
  Uk (Ì (hf pins s2 B H2 _ I2 q2) λfv s3 ⟨z,H3,I3,rz,ov,g,q3⟩=>UL ?_))))
 exact Mb hu I3 g ry rz λw' s4 I4 ϔ=>{_,H3,I4,ϔ,q3}
end
section
variable{X:Cx}{pins:List (Sv×Obj)}{B:St}{H:Hp}{s:Sy}{a:Sv}{kvs:List (Key×V)}{A:Td}{E:Su->Sy->Prop}
end
section
variable{X:Cx}{pins:List (Sv×Obj)}{B:St}{H:Hp}{s:Sy}{a:Sv}{y:V}{u:Su}{A:Td}{E:Su->Sy->Prop}
end
section
variable{X:Cx}
theorem zx(hu:X.A.units+64<Uj):IxR X (λx y H Q=>∃a v,x=.ref a/\jd H a y (Zq v)/\Q v H):=by
 intro value slice pins s B H x y v u Q I rx ry h hs;obtain⟨a,z,rfl,g,q⟩:=h;cases rx;have hT:=yD I g;unfold Xp;refine E9 ?_;rw[getitemInPython_of_ne hT.not_modules];refine E9 (VC hT PySem.F.slot_dict_getitem.lookup ?_);have h₂:wpAny (SK X.prog X.w) X.A (V0 (.ref a) u) (EP X pins B Q) X.xe s:=Dq () I g ry λw' s3 I3 ϔ=>⟨z,H,I3,ϔ,q⟩;have fin:wpAny (SK X.prog X.w) X.A (subscripted slice false (.ref a) u) (λr s₃=>wpAny (SK X.prog X.w) X.A (letTemporaryGo value (.ref a) r>>=λ_=>pure r) (EP X pins B Q) X.xe s₃) X.xe s:=by
  rw[hs];exact wpAny_operating (Ui h₂ (λr s₃ h₃=>E9 (wpAny_letTemporaryGo (Sw h₃))) λ_ _ x=>x)
 first
  |exact Sw (E9 fin)
  |exact E9 (Sw (E9 fin))
  |exact E9 fin
inductive dgI(p:Sv)(y:V)(H:Hp)(Q:VK):Prop
 |mk (v) (h:jd H p y (Zq v)) (q:Q v H):dgI p y H Q
def Oc(K:SE):R2:=λx y H Q=>match x,y with
 | .ref p,.int i=>ixS K p i H Q\/dgI p (.int i) H Q
 | .ref p,.str k=>dgI p (.str k) H Q
 | .str z,.int i=>∃c,↥z<=sizeLine/\ĭ z.cps.toList i=Zq c/\Q (.str ⟨#[c]⟩) H
 |_,_=>False
theorem L9(hu:X.A.units+64<Uj):IxR X (Oc X.K):=by
 intro value slice pins s B H x y v u Q I rx ry h hs;cases x with
 |ref p=>
  cases y with
  |int i=>
   rcases h with h|⟨w,g,q⟩
   ·exact FP value slice pins s B H _ _ v u Q I rx ry h hs
   exact zx hu value slice pins s B H _ _ v u Q I rx ry ⟨p,w,rfl,g,q⟩ hs
  |str k=>
   obtain⟨w,g,q⟩:=h;exact zx hu value slice pins s B H _ _ v u Q I rx ry ⟨p,w,rfl,g,q⟩ hs
  |_=>exact(show False from h).elim
 |str z=>
  cases y with
  |int i=>exact FP value slice pins s B H _ _ v u Q I rx ry h hs
  |_=>exact(show False from h).elim
 |_=>cases y<;>exact(show False from h).elim
theorem zY(hu:X.A.units+64<Uj):Fh X (λo i v H Q=>∃a H',o=.ref a/\nO H a i v H'/\Q H'):=by
 intro pins s B H o i v ov iv u Q I ro ri rv h;obtain⟨a,H',rfl,g,q⟩:=h;cases ro;exact DG () I g ri rv λs4 I4=>⟨H',I4,q⟩
inductive dpI(p:Sv)(y v:V)(H:Hp)(Q:Hp->Prop):Prop
 |mk (H') (h:nO H p y v H') (q:Q H'):dpI p y v H Q
inductive stL(p:Sv)(k:Int)(v:V)(H:Hp)(Q:Hp->Prop):Prop
 |mk (xs j) (h0:H p=Zq (.lst xs)) (h1:Ť ↥xs k=Zq j) (q:Q (upd H p (.lst (xs.set j v)))):stL p k v H Q
def NB:KZ:=λo i v H Q=>match o,i with
 | .ref p,.int k=>stL p k v H Q\/dpI p (.int k) v H Q
 | .ref p,.str k=>dpI p (.str k) v H Q
 |_,_=>False
theorem fX(hu:X.A.units+64<Uj)(hl:Fh X JX):Fh X NB:=by
 intro pins s B H o i v ov iv u Q I ro ri rv h;cases o with
 |ref p=>
  cases i with
  |int k=>
   rcases h with⟨xs,j,h1,h2,q⟩|⟨H',g,q⟩
   ·exact hl pins s B H _ _ v ov iv u Q I ro ri rv ⟨p,xs,k,j,rfl,rfl,h1,h2,q⟩
   exact zY hu pins s B H _ _ v ov iv u Q I ro ri rv ⟨p,H',rfl,g,q⟩
  |str k=>
   obtain⟨H',g,q⟩:=h;exact zY hu pins s B H _ _ v ov iv u Q I ro ri rv ⟨p,H',rfl,g,q⟩
  |_=>exact(show False from h).elim
 |_=>cases i<;>exact(show False from h).elim
theorem Nh(hu:X.A.units+64<Uj):Ó X (SW .In) (λx y H Q=>∃a o,y=.ref a/\jd H a x o/\Q (.bl o.isSome) H):=by
 intro pins s B H x y v u Q I rx ry h;obtain⟨a,o,rfl,g,q⟩:=h;cases ry;exact OJ () I g rx λs3 I3=>⟨.bl o.isSome,H,I3,rfl,q⟩
theorem E8(hu:X.A.units+64<Uj):Ó X (SW .NotIn) (λx y H Q=>∃a o,y=.ref a/\jd H a x o/\Q (.bl (!o.isSome)) H):=by
 intro pins s B H x y v u Q I rx ry h;obtain⟨a,o,rfl,g,q⟩:=h;cases ry;exact Jf () I g rx λs3 I3=>{.bl (!o.isSome),H,I3,rfl,q}
theorem vR(hu:X.A.units+64<Uj):Ó X (SW .In) (λx y H Q=>fIn X.K false x y H Q\/∃a o,y=.ref a/\jd H a x o/\Q (.bl o.isSome) H):=O4.or (Nh hu)
theorem dP(hu:X.A.units+64<Uj):Ó X (SW .NotIn) (λx y H Q=>fIn X.K true x y H Q\/∃a o,y=.ref a/\jd H a x o/\Q (.bl (!o.isSome)) H):=Ik.or (E8 hu)
theorem MH:dY X (.builtin "len") (λxs H Q=>∃a kvs,xs=[.ref a]/\Rd H a (.dK kvs)/\Q (.int (↥kvs:Nat)) H):=by
 intro pins s B H xs us Q I r h;obtain⟨a,kvs,rfl,e,q⟩:=h;obtain⟨u,rfl,rfl⟩:=ZG r;exact MP I e λt s' I'=>{.int _,H,I',{_,rfl},q}
end
end L2
namespace PySem
open Sem (wp)
section
variable{prog:Program}{w:SM}{A:Td}{E:Su->Sy->Prop}{s:Sy}
theorem yw:typeLookup (.type "list") "keys"=pure Zr:=am_miss_of_fast (by kernel_rfl)
theorem w4(hx:s.heap.get? a=Zq o)(hc:o.cls=.type "list")(hdat:o.data=.seq xs k)(hd:o.dict=Zr)(hA:A.handled=Zr)
  (h:∀h' tk,(∀b ob,s.heap.get? b=Zq ob->h'.get? b=Zq ob)->Q Zr { s with heap:=h',toks:=tk }):wpAny (SK prog w) A (getAttr? (.ref a) "keys") Q E s:=by
 obtain⟨c,dct,dat,sl⟩:=o
 simp only at hc hdat hd
 subst hc hdat hd
 obtain⟨hp,g,d,tk,os⟩:=s
 have hT:∀tk',(⟨hp,g,d,tk',os⟩:Sy).TypeIs (.ref a) "list":=λ_=>{_,hx,rfl}
 have f1:=sub_AttributeError
 have f3:=F.slot_list_getattribute.lookup
 have f4:=F.slot_list_getattribute.bind (.ref a)
 have f5:=am_list_getattr_none
 have hmiss:=yw
 have hname:(["__module__","__name__","__qualname__","__doc__","__annotations__"]:List Str).contains "keys"=false:=by decide+kernel
 unfold getAttr? getAttrBy? getAttrBy
 repeat (any_goals (first|assumption|exact hT _|((with_reducible show wpAny _ _ (call (Value.builtin "list.__getattribute__") _ _) _ _ _);refine Vr F.slot_list_getattribute (hT _) am_entry_list_getattribute (F.args_list_getattribute_2 _ _) (meets_getattribute_miss_list a xs k sl "keys" _ hmiss hname ∅) ⟨hx,hA,λh' tk' e Ĝ=>?_⟩)|wp_step))
 obtain⟨t',u',he⟩:=Ĝ.there
 have hTe:(⟨h',g,d,tk',os⟩:Sy).TypeIs (.ref e) "AttributeError":={_,he,rfl}
 show wpAny _ _ (XO _ _ _ _ _ _ _) _ _ _
 unfold XO
 repeat (any_goals (first|assumption|wp_step))
 exact h _ _ Ĝ.keeps
end
end PySem
namespace L2
open PySem PySem.Spec PyProof.Rows
theorem mO:YX table "dict.update.loop"=Zq UK.«dict.update.loop»:=Yl (by kernel_rfl)
theorem fD:plainId "dict.update.loop"=true:=by decide+kernel
section
variable{X:Cx}{pins:List (Sv×Obj)}{B:St}{H0:Hp}{A:Td}
theorem pair_items(h:s.heap.IsTuple t Â)(q:Q Â.toList s):wpAny (SK prog w) A (Wx (.ref t)) Q E s:=by
 obtain⟨o,ho,hc,n,hd⟩:=h;unfold Wx;refine E9 (UW ⟨o,ho,hc⟩ ?_);rw[if_pos ∅];refine E9 ?_;obtain⟨c,dct,dat,sl⟩:=o;simp only at hc hd;subst hc hd;obtain⟨hp,g,d,tk,os⟩:=s;repeat (any_goals (first|assumption|wp_step))
theorem A0(kvs:List (Key×V))(i:Nat)(h:kvs[i]?=Zq (k,v)):bx [] (kvs.take (i+1))=Zz (bx [] (kvs.take i)) k v:=by
 unfold bx;rw[Qv,h,R9];rfl
theorem GA(hc:X.calm=true){l p it:Sv}{ps:List Sv}{kvs:List (Key×V)}{R:Result->Sy->Prop}(hA:A.handled=Zr)(hl:À X.K H0 l (ps.map V.ref))(hlen:↥ps=↥kvs)(hn:↥kvs<=1000)
  (hps:∀(i:Nat) t k v,ps[i]?=Zq t->kvs[i]?=Zq (k,v)->Ç X.K H0 t [kV k,v]) (hp:H0 p=Zr)
  (fin:∀s',Inv X pins B (upd H0 p (.dK (bx [] kvs))) s'->R (.ok (.ret .none)) s') :
  ∀n i s,n+i=↥ps->Inv X pins B (upd H0 p (.dK (bx [] (kvs.take i)))) s->sV X pins (upd H0 p (.dK (bx [] (kvs.take i)))) it->s.heap.IsListIter it l i->
   codeAny (SK X.prog X.w) A (.builtin "dict.update.loop" {[.ref p,.ref it,Wn i,.none],[]}) R s:=by
 intro n
 induction n with
 |zero=>
  intro i s hi I hf st
  refine Ub mO ?_
  rw[TQ fD _]
  have sm:=aj.upd hp (.dK (bx [] (kvs.take i)))
  obtain⟨Â,rv,pl,hz⟩:=I.list (sm.seq hl)
  have hll:=↥rv
  rw[Pr]at hll
  obtain⟨f0,f1,f2,f3,f4,f5⟩:=hf
  unfold UK.«dict.update.loop»
  refine E9 (WG hA st pl.isList (by simp;lia) λh' eb=>?_)
  have I':Inv X pins B (upd H0 p (.dK (bx [] (kvs.take i)))) { s with heap:=h' }:=I.turned (t':=s.toks) (λb o hb e=>eb b o hb e) f0 f1 f3 f4 f5
  rw[Qx ()]at I'
  exact E9 (Sw (Sw (fin _ I')))
 |succ n ih=>
  intro i s hi I hf st
  refine Ub mO ?_
  rw[TQ fD _]
  have sm:=aj.upd hp (.dK (bx [] (kvs.take i)))
  obtain⟨Â,rv,pl,hz⟩:=I.list (sm.seq hl)
  have hll:=↥rv
  rw[Pr]at hll
  obtain⟨t,ht⟩:∃t,ps[i]?=Zq t:={ps[i]'(()),PB ()}
  obtain⟨⟨k,v⟩,hk⟩:∃kv,kvs[i]?=Zq kv:={kvs[i]'(()),PB ()}
  obtain⟨u,hu1,hu2⟩:=rv.get (x:=.ref t) (i:=i) (by rw[P5,ht];rfl)
  cases hu2
  obtain⟨f0,f1,f2,f3,f4,f5⟩:=hf
  unfold UK.«dict.update.loop»
  refine E9 (Wo st pl.isList (x:=.ref t) (by simpa using hu1) λh' Å sb=>?_)
  have I1:Inv X pins B (upd H0 p (.dK (bx [] (kvs.take i)))) { s with heap:=h' }:=I.turned (t':=s.toks) (λb o hb e=>(sb.2 b hb).trans e) f0 f1 f3 f4 f5
  obtain⟨jts,rj,pt,_⟩:=I1.tuple (sm.tup (hps i t k v ht hk))
  obtain⟨u1,u2,e12,r1,r2⟩:∃u1 u2,jts=[u1,u2]/\Zv (kV k) u1/\Zv v u2:=by
   cases rj with
   |cons r1 q=>cases q with
    |cons r2 q=>cases q;exact{_,_,rfl,r1,r2}
  subst e12
  refine E9 (wpAny_holding (E9 (wpAny_tryCatch (pair_items pt ?_))))
  show wpAny _ _ (VF [u1,u2] (dictSet p u1 u2)) _ _ _
  refine wpAny_holding ?_
  obtain⟨z,hd,vs,rel,dd⟩:=CP I1.È (ao (H:=H0) (a:=p) (o:=.dK (bx [] (kvs.take i))))
  have hz':↥vs<=sizeLine:=by rw[<-↥rel];exact z
  have hlk:(bx [] (kvs.take i)).length<=1000:=by
   have:=jV (kvs.take i) [];rw[Qo,Qw]at this;lia
  have hlp:(Zz (bx [] (kvs.take i)) k v).length<=sizeLine:=by
   have h1:=jj (bx [] (kvs.take i)) k v;have h2:=aH hlk;lia
  refine wpAny_dictSet_pairs (hsz:=hz') (qT r1) dd λh2 ϶ hs=>?_
  have he:∃q,h2.get? p=Zq q:=let ⟨q,_,_,hq,_⟩:=϶;⟨q,hq⟩
  have I2:=pJ (t':=s.toks+1) (ob:=.dK (Zz (bx [] (kvs.take i)) k v)) I1 (by rw[ao];exact QK) hs he (AF hlp hd (rel.put k r2) ϶)
  rw[IK,<-A0 kvs i hk]at I2
  have hne:it≠p:=λz=>by rw[z,ao]at f0;cases f0
  have f0':upd H0 p (.dK (bx [] (kvs.take (i+1)))) it=Zr:=by
   rw[aP hne]at f0⊢;exact f0
  refine Sw {UI fD _,?_}
  have ec:((i:Int)+1)=((i+1:Nat):Int):=by push_cast;rfl
  rw[ec]
  exact ih (i+1) _ () I2 ⟨f0',f1,f2,f3,f4,f5⟩ (Å.at λo e=>(hs.2 it hne).trans e)
theorem rM(hc:X.calm=true:=by rfl):dY X (.type "dict") (λxs H Q=>∃(l:Sv)(ps:List Sv)(kvs:List (Key×V)),xs=[.ref l]/\À X.K H l (ps.map V.ref)/\↥ps=↥kvs/\↥kvs<=1000/\
  (∀(i:Nat) t k v,ps[i]?=Zq t->kvs[i]?=Zq (k,v)->Ç X.K H t [kV k,v])/\∀p,H p=Zr->Q (.ref p) (upd H p (.dK (bx [] kvs)))):=by
 intro pins s B H xs us Q I r h
 obtain⟨l,ps,kvs,rfl,hl,hlen,hn,hps,q⟩:=h
 obtain⟨u,rfl,rfl⟩:=ZG r
 have hA:=I.ok.hd hc
 have hp:=I.È.fresh (Px ⇑s)
 have I1:=I.laid (a:=⇑s) (o:=.dK []) (t':=s.toks) (h':=s.heap.push { cls:=.type "dict",data:=.dict #[] }) (λ_ _ q=>Sx _ q) (Px _) (uH s.heap I.big)
 refine YY (Q₁:=λobj s₁=>obj=.ref ⇑s/\s₁={ s with heap:=s.heap.push { cls:=.type "dict",data:=.dict #[] } }) F.kt_called_dict (F.kt_typeCall_dict_1 _) F.entry_dict_init (kt_code_dict_new _ ⟨rfl,rfl⟩) ?_
 rintro obj s₁ ⟨rfl,rfl⟩
 have Χ:(s.heap.push { cls:=.type "dict",data:=.dict #[] }).DictOf (bO X.prog X.w) ⇑s []:=YA s.heap
 have sm:=aj.upd hp (.dK [])
 obtain⟨Â,rv,pl,hz⟩:=I1.list (sm.seq hl)
 obtain⟨o,n,ho,hoc,hod,ů⟩:=id pl
 refine{Χ.typeIs,F.args_dict_init_2 _ _,?_}
 unfold UK.«dict.__init__»
 refine E9 ?_
 unfold Builtin.Dict.selfAndRest
 refine E9 (WH Χ.typeIs ?_)
 show wpAny _ _ (pure (⇑s,[SO l])) _ _ _
 refine Sw ?_
 show wpAny _ _ (Wb "dict.__init__" ⇑s (.ref l) [] .none) _ _ _
 unfold Wb
 refine E9 (UW ⟨o,ho,hoc⟩ ?_)
 rw[if_pos ∅]
 refine E9 (w4 ho hoc ů hod hA λh2 Ϩ k2=>?_)
 have I2:Inv X pins B (upd H ⇑s (.dK [])) { s with heap:=h2,toks:=Ϩ }:=I1.kept (t':=Ϩ) k2
 rw[if_pos (show(Zr:Option Su).isNone=true from rfl)]
 obtain⟨ľ,rv2,pl2,_⟩:=I2.list (sm.seq hl)
 refine E9 (UD (E9 (V2 pl2.isList ?_)))
 refine Sw {UI fD _,?_}
 have I3:=I2.kept (h':=h2.push { cls:=.type "list_iterator",data:=.fields #[.ref l,.int 0 0] }) (t':=Ϩ) λb o e=>Sx _ e
 have fp:=I2.sv (H':=upd H ⇑s (.dK [])) (Px _) (I2.È.fresh (Px _))
 refine GA (X:=X) (H0:=H) (A:=X.A.in1) (p:=⇑s) (kvs:=kvs) hc hA hl hlen hn hps hp (λs' I'=>?_) ↥ps 0 _ rfl I3 fp {_,SJ _ rfl,rfl,rfl}
 exact{rfl,.ref ⇑s,_,I',rfl,q _ hp}
end
section
variable{X:Cx}{pins:List (Sv×Obj)}{B:St}{H:Hp}{s:Sy}
theorem Inv.yn{h':Tb}{t':Nat}{ch:List Sv}(I:Inv X pins B H s)(hf:∀b∈ch,sV X pins H b)(k:∀b o,b∉ch->s.heap.get? b=Zq o->h'.get? b=Zq o):Inv X pins B H { s with heap:=h',toks:=t' }:=by
 have nit:∀b u,H b=Zq u->b∉ch:=λb u e z=>by rw[(hf b z).1]at e;cases e
 refine I.step (g':=s.gens) (d':=s.drawn) (ch:=ch) (λb hb=>{(hf b hb).2.2.2.1,(hf b hb).2.1,(hf b hb).2.2.2.2.1,(hf b hb).2.2.2.2.2}) (λb o _ _ hc e _=>k b o hc e) (λb o _ _ hc e _=>⟨o.slots,k b o hc e⟩) (λ_ _ _ _ n=>n)
  (λb o hc e=>⟨o,k b o hc e⟩) (λ_ _ e=>e) (λ_ _ _ e=>e) (λb ps e=>{#[],by rw[e];simp}) (λm hm=>?_) (λb u e=>?_) I.bare
 ·obtain⟨o,es,ep,ho,r⟩:=hm;exact{o,es,ep,k _ o (λz=>(hf _ z).2.1 rfl) ho,r}
 refine(I.È b u e).vd (λc v hc q=>k c v ?_ q) (λ_ q=>q) λ_ _ q=>q;rcases hc with rfl|hc
 ·exact nit _ _ e
 exact nit _ _ hc
theorem Inv.JS(I:Inv X pins B H s)(hf:sV X pins H T)(hz:X.s₀.heap.objs.size<=T)(new:cP X.prog X.w (upd H T u) s.heap T u):Inv X pins B (upd H T u) s:=by
 obtain⟨f0,f1,f2,f3,f4,f5⟩:=hf;have ne0:∀b o,X.s₀.heap.get? b=Zq o->b≠T:=λb o e=>Qf (Qe (SI e) hz);have neS:∀b v,H b=Zq v->b≠T:=λb v e z=>by rw[z,f0]at e;cases e
 refine⟨I.ok,I.os,I.bare,⟨I.base.keep,I.base.slot,λb o e n hx=>by rw[aP (ne0 b o e)];exact I.base.free b o e n hx,I.base.there,λb xs e=>by
   have:=I.base.uV b xs e;rw[aP (neS b _ this)];exact this,λb o v e=>by
   have:=I.base.qY b o v e;rw[aP (neS b _ this)];exact this,λb ps e=>by
   obtain⟨more,q⟩:=I.base.uY b ps e;exact{more,by rw[aP (neS b _ q)];exact q}⟩,I.loc,I.cell,by rw[aP (P9 f1)];exact I.free,λx c e=>by rw[aP (f4 x c e)];exact I.kr x c e,
  λp hp=>by rw[aP (f5 p hp)];exact I.pin p hp,λb v e=>?_,I.len⟩
 by_cases hb:b=T
 ·subst hb;rw[ao]at e;cases e;exact new
 rw[aP hb]at e;exact(I.È b v e).vd (λ_ _ _ q=>q) (λc q=>by rw[aP (neS c _ q)];exact q) λc xs q=>by rw[aP (neS c _ q)];exact q
theorem Inv.Ot(I:Inv X pins B H s)(e:H a=Zq (.ā o u))(hn:∀o u,X.H₀ a≠Zq (.ā o u)):Inv X pins B (upd H a u) s:=by
 have nn:∀b,H b=Zr->b≠a:=λb q z=>by rw[z,e]at q;cases q
 have nt:∀b xs,H b=Zq (.tup xs)->b≠a:=λb xs q z=>by rw[z,e]at q;cases q
 have nw:∀b x,H b=Zq (.own x)->b≠a:=λb x q z=>by rw[z,e]at q;cases q
 have nb:∀b ps,H b=Zq (.ω ps)->b≠a:=λb x q z=>by rw[z,e]at q;cases q
 refine⟨I.ok,I.os,I.bare,⟨I.base.keep,I.base.slot,λb o q n hx=>by
   have:=I.base.free b o q n hx;rw[aP (nn b this)];exact this,I.base.there,λb xs q=>by
   have:=I.base.uV b xs q;rw[aP (nt b xs this)];exact this,λb o v q=>by
   have hb:b≠a:=λz=>hn o v (by rw[<-z];exact q);rw[aP hb];exact I.base.qY b o v q,λb ps q=>by
   obtain⟨more,r⟩:=I.base.uY b ps q;exact{more,by rw[aP (nb b _ r)];exact r}⟩,I.loc,I.cell,by rw[aP (nn _ I.free)];exact I.free,λx c q=>by rw[aP (nn _ (I.kr x c q))];exact I.kr x c q,
  λp hp=>by rw[aP (nn _ (I.pin p hp).2.1)];exact I.pin p hp,λb v q=>?_,I.len⟩
 by_cases hb:b=a
 ·subst hb;rw[ao]at q;cases q;exact(I.È b _ e).2.vd (λ_ _ _ q=>q) (λc q=>by rw[aP (nw c _ q)];exact q) λc xs q=>by rw[aP (nt c _ q)];exact q
 rw[aP hb]at q;exact(I.È b v q).vd (λ_ _ _ q=>q) (λc q=>by rw[aP (nw c _ q)];exact q) λc xs q=>by rw[aP (nt c _ q)];exact q
theorem Inv.freeze(I:Inv X pins B H s)(e:H a=Zq u)(mu:Mut (H a))(ho:s.heap.get? a=Zq o):Inv X pins B (upd H a (.ā o u)) s:=by
 have hk:=I.È a u e;have:=pJ (a:=a) (h':=s.heap) (t':=s.toks) (ob:=.ā o u) I mu {rfl,λ_ _=>rfl} ⟨o,ho⟩ {ho,?_}
 ·exact this
 have nw:∀b x,H b=Zq (.own x)->b≠a:=λb x q z=>by rw[z]at q;rw[q]at mu;exact mu
 have nt:∀b xs,H b=Zq (.tup xs)->b≠a:=λb xs q z=>by rw[z]at q;rw[q]at mu;exact mu
 exact hk.vd (λ_ _ _ q=>q) (λc q=>by rw[aP (nw c _ q)];exact q) λc xs q=>by rw[aP (nt c _ q)];exact q
end
def Itd(d:Sv)(o:Obj)(kvs:List (Key×V)):It:=
 {λi H=>H d=Zq (.ā o (.dK kvs))/\i<↥kvs,λi H x H'=>H'=H/\∃k v,kvs[i]?=Zq (k,v)/\x=kV k,λi H=>H d=Zq (.ā o (.dK kvs))/\↥kvs<=i}
theorem JO(h:(bO P w).is k u=true):Zv (kV k) u:=by
 cases k with
 |inl i=>obtain⟨t,e⟩:=XY (show Yq i u=true from h);exact⟨t,e⟩
 |inr x=>obtain⟨t,e⟩:=Xe (show Xm x u=true from h);exact⟨t,e⟩
theorem DC{P:Program}{w:SM}{H:Hp}{h:Tb}{d:Sv}{o:Obj}{kvs:List (Key×V)}{vs:List (Key×Su)}{ep:Nat}(dd:h.DictAt (bO P w) d vs ep)(ho:h.get? d=Zq o){h':Tb}(Φ:h'.get? d=Zq o):h'.DictAt (bO P w) d vs ep:=by
 obtain⟨o2,es,e,r⟩:=dd;rw[ho]at e;cases e;exact⟨o,es,Φ,r⟩
section
variable{X:Cx}
theorem DK{P:Program}{w:SM}{K:SE}{tg:Expr}(d it:Sv)(o:Obj)(kvs:List (Key×V))(vs:List (Key×Su))(ep:Nat)(rel:KV kvs vs)(hat:∀h:Tb,h.get? d=Zq o->h.DictAt (bO P w) d vs ep) :
  ZM P w K tg (Itd d o kvs) [it] it (λi h=>h.IsKeyIter it d i ↥vs ep) where
 mem:=by simp
 obj:=λi h st b hb=>by
  have e:b=it:=by simpa using hb
  subst e;obtain⟨o,e,c,d⟩:=st;exact{o,e,λv z=>by rw[d]at z;cases z}
 keep:=λi h h' st k=>by
  obtain⟨o,e,r⟩:=st;exact{o,k it (by simp) o e,r}
 item:=by
  intro X hP hw hK hc i pins s B H E I hf st hg;subst hP hw hK;obtain⟨e,Ý⟩:=hg;have hd:=(show cP X.prog X.w H s.heap d (.ā o (.dK kvs))from I.È d _ e).1;have hl:=↥rel;obtain⟨f0,f1,f2,f3,f4,f5⟩:=hf it (by simp);obtain⟨⟨k,v⟩,hx⟩:∃kv,vs[i]?=Zq kv:={vs[i]'(()),PB ()};obtain⟨⟨k',v'⟩,Ĝ⟩:∃kv,kvs[i]?=Zq kv:={kvs[i]'(()),PB ()};have hkk:k'=k:=by
   have:=congrArg (λl=>l[i]?) rel.keys;simp only[P5,hx,Ĝ]at this;simpa using this
  subst hkk;refine wpAny_pyNext_dict_item st (hat _ hd) hx λkey h' ű Å sb=>?_;have I1:Inv X pins B H { s with heap:=h' }:=I.turned (t':=s.toks) (λb o hb e=>(sb.2 b hb).trans e) f0 f1 f3 f4 f5;obtain⟨oi,ei,ci,di⟩:=id Å;exact⟨key,rfl,wt (s:={ s with heap:=h' }) ei ci di ∅ ⟨kV k',H,I1,JO ű,⟨rfl,k',v',Ĝ,rfl⟩,Å,λb hb=>(hf b hb).1⟩⟩
 done:=by
  intro X hP hw hK hc i pins s B H E I hf st hg;subst hP hw hK;obtain⟨e,Ý⟩:=hg;have hd:=(show cP X.prog X.w H s.heap d (.ā o (.dK kvs))from I.È d _ e).1;have hl:=↥rel;obtain⟨f0,f1,f2,f3,f4,f5⟩:=hf it (by simp);exact wpAny_pyNext_dict_end (I.ok.hd hc) st (hat _ hd) (by simp;lia) λh' eb=>{rfl,I.turned (t':=s.toks) (λb o hb e=>eb b o hb e) f0 f1 f3 f4 f5}
 self:=λ_ _ _ _ _ st h=>wpAny_pyIter_keyiter st h
end
theorem jv{α β:Type}{F}:∀{l₁:List α}{l₂:List β},↥l₁=↥l₂->(∀(i:Nat) a b,l₁[i]?=Zq a->l₂[i]?=Zq b->F a b)->Paired F l₁ l₂
 | [],[],_,_=>.nil
 | [],_::_,h,_=>by simp at h
 |_::_,[],h,_=>by simp at h
 |x::xs,y::ys,h,f=>.cons (f 0 x y rfl rfl) (jv (by simpa using h) λi a b ha hb=>f (i+1) a b (by simpa using ha) (by simpa using hb))
theorem Dx{α β:Type}{F}{l₁:List α}{l₂:List β}(h:Paired F l₁ l₂):∀{i:Nat}{a:α}{b:β},l₁[i]?=Zq a->l₂[i]?=Zq b->F a b:=by
 induction h with
 |nil=>intro i a b h;simp at h
 |cons r t ih=>
  intro i a b ha hb;cases i with
  |zero=>simp only[Wc,X6]at ha hb;subst ha hb;exact r
  |succ j=>exact ih (by simpa using ha) (by simpa using hb)
section
variable{X:Cx}{tg:Expr}
def Cu(X:Cx)(d:Sv):Prop:=∀o u,X.H₀ d≠Zq (.ā o u)
def Nc(X:Cx)(tl:TE):TI:=λB H R=>tl B H λx H1=>∃d kvs,x=.ref d/\H1 d=Zq (.dK kvs)/\∀o,Cu X d->(kvs.map (·.1)).Nodup->R (Itd d o kvs) (upd H1 d (.ā o (.dK kvs)))
theorem IZ(hl:PE X l tl):PI X tg l (Nc X tl):=by
 intro pins s B H R I h;refine Ì (hl pins s B H _ I h) λv s1 z9=>?_;obtain⟨x,H1,I1,r1,q1⟩:=z9;obtain⟨d,kvs,e,hd,q⟩:=q1;subst e;cases r1;obtain⟨z,hs,vs,rel,dd⟩:=CP I1.È hd;obtain⟨ep,dat⟩:=dd.dictAt;obtain⟨o,es,ho,r⟩:=id dat;have hn:Cu X d:=λo u z=>by
  have:=I1.base.qY d o u z;rw[hd]at this;cases this
 refine wpAny_pyIter_dict hs dat ?_;have I2:=I1.freeze hd (by rw[hd];exact QK) ho;have hfr:upd H1 d (.ā o (.dK kvs)) ⇑s1=Zr:=by
  rw[aP (QV (SI ho))];exact I1.È.fresh (Px _)
 refine⟨⇑s1,[⇑s1],_,_,_,rfl,I2.kept (t':=s1.toks) λb o e=>Sx _ e,
  DK d _ o kvs vs ep rel (λh' h2=>DC (H:=H1) (kvs:=kvs) dat ho h2),{_,SJ _ rfl,rfl,rfl},λb hb=>?_,q o hn (by rw[rel.keys];exact dat.nodup)⟩
 have e:b=⇑s1:=by simpa using hb
 subst e;exact I1.sv (Px _) hfr
def J9(X:Cx)(D:ZK):St->Hp->Prop:=λB H=>∃d o kvs,Cu X d/\H d=Zq (.ā o (.dK kvs))/\D.nx B (upd H d (.dK kvs))
def Od(X:Cx)(tl:TE)(g:TG)(tb:TS):TS:=λD B H=>tl B H λx H1=>∃d kvs,x=.ref d/\H1 d=Zq (.dK kvs)/\∀o,Cu X d->(kvs.map (·.1)).Nodup->∃Pv:Nat->St->Hp->Prop,Pv 0 B (upd H1 d (.ā o (.dK kvs)))/\
 (∀i B H,i<=↥kvs->Pv i B H->H d=Zq (.ā o (.dK kvs)))/\
 (∀i k v B H,kvs[i]?=Zq (k,v)->Pv i B H->g (kV k) B H λσ2 H2=>tb { D with nx:=Pv (i+1),ct:=Pv (i+1),bk:=J9 X D } σ2 H2)/\∀B H,Pv ↥kvs B H->D.nx B (upd H d (.dK kvs))
theorem Ih(hp:Zf (SK X.prog X.w) X.A X.env X.xe)(hc:X.calm=true)(hl:PE X l tl)(mono:∀B H (Q Q':V->Hp->Prop),(∀v H,Q v H->Q' v H)->tl B H Q->tl B H Q')
  (hg:PG X tg g) (hb:Į X body tb) (hs:∀x,foldedSetIterable l X.env x=pure x:=by intro _;rfl):PS X (.For tg l body [] pos) (Od X tl g tb):=by
 intro pins s B H D I h
 refine Ì (bY hp hc (IZ hl) hg hb hs pins s B H { D with nx:=J9 X D } I ?_) λf s1 q=>?_
 ·refine mono B H _ _ (λx H1 q=>?_) h;obtain⟨d,kvs,e,hd,q⟩:=q;refine{d,kvs,e,hd,λo hn hnd=>?_};obtain⟨Pv,h0,hk,st,fin⟩:=q o hn hnd;refine{λi m B H=>m=↥kvs-i/\i<=↥kvs/\Pv i B H,{↥kvs,by simp,PZ _,h0},?_};rintro i m B H ⟨rfl,hi,p⟩;by_cases Ý:i<↥kvs
  ·refine .inr {⟨hk i B H hi p,Ý⟩,Pv (i+1),λB' H' p'=>{↥kvs-(i+1),(),rfl,Ý,p'},λx H' y=>?_};obtain⟨e,k,v,hx,y⟩:=y;subst e y;exact st i k v B _ hx p
  have e:i=↥kvs:=()
  subst e;exact .inl {{hk _ B H hi p,Px _},d,o,kvs,hn,hk _ B H hi p,fin B H p}
 cases f with
 |next=>
  obtain⟨σ1,H1,I1,d,o,kvs,hn,e,q⟩:=q
  exact{σ1,_,I1.Ot e hn,q}
 |cont=>exact q
 |brk=>exact q
 |ret v=>exact q
theorem Im(hc:X.calm=true:=by rfl):dY X (.type "list") (λxs H Q=>∃d kvs,xs=[.ref d]/\Rd H d (.dK kvs)/\∀l,H l=Zr->Q (.ref l) (upd H l (.lst (kvs.map λkv=>kV kv.1)))):=by
 intro pins s B H xs us Q I r h;obtain⟨d,kvs,rfl,e,q⟩:=h;obtain⟨u,rfl,rfl⟩:=ZG r;obtain⟨z,hs,vs,rel,dd⟩:=mP I.È e;obtain⟨ep,dat⟩:=dd.dictAt;have hl:=↥rel;refine W.kdl_call (W.kdl_dict (knd:=bO X.prog X.w) (kvs:=vs) (ep:=ep) hs) (I.ok.hd hc) dat () λh' tk acc c hk hS ď=>?_;have hp:=I.È.fresh (Px ⇑s);refine{.ref ⇑s,_,I.laid (a:=⇑s) (o:=.lst (kvs.map λkv=>kV kv.1)) (t':=tk) hk (Px _) {by rw[Pr];exact z,acc.toList,c,?_,by simpa using hS},rfl,q _ hp};have hsz:acc.size=↥vs:=ď.1;refine jv (by simp[hsz,hl]) λi x y hx hy=>?_;rw[P5]at hx;obtain⟨k,v,hv,hk⟩:=ď.2 i y (by rw[<-Qz];exact hy);cases ŀ:kvs[i]? with
 |none=>rw[ŀ]at hx;cases hx
 |some kv=>
  rw[ŀ]at hx;have Ĝ:kV kv.1=x:=SN hx;have:=congrArg (λl=>l[i]?) rel.keys;simp only[P5,ŀ,hv]at this;have hkk:kv.1=k:=by simpa using this
  rw[<-Ĝ,hkk];exact JO hk
end
section
variable{prog:Program}{w:SM}{K:Type}[DecidableEq K]{knd:KeyKind prog w K}{A:Td}{E:Su->Sy->Prop}{s:Sy}
theorem vX(hd:(d==T4)=false)(q:Q Unit.unit s):wpAny (SK prog w) A (WI d) Q E s:=by
 unfold WI;rw[if_neg (by rw[hd];exact PU)];exact Sw q
theorem Bo(h:Pairs knd es ĥ):valueAt ĥ k=Zq v->∃j e,(es.findIdx? λe=>knd.is k e.key)=Zq j/\es[j]?=Zq e/\e.val=v:=by
 induction h with
 |nil=>intro z;cases z
 |@cons e kv es ĥ h1 h2 t ih=>
  intro z;by_cases hk:kv.1=k
  ·subst hk;have:valueAt (kv::ĥ) kv.1=Zq kv.2:=by simp[valueAt,QF]
   rw[this]at z;exact{0,e,by rw[XQ,if_pos h1],rfl,by rw[h2];exact SN z}
  have:valueAt (kv::ĥ) k=valueAt ĥ k:=by simp[valueAt,QF,hk]
  rw[this]at z;obtain⟨j,f,hj,hf,hv⟩:=ih z;have hn:¬ knd.is k e.key=true:=λq=>hk (knd.inj _ _ _ h1 q);exact{j+1,f,by rw[XQ,if_neg hn,hj];rfl,hf,hv}
theorem As{id a b kvs ĥ Q}(hda:(a==T4)=false)(Ď:(b==T4)=false)(ha:s.heap.DictOf knd a kvs)(hb:s.heap.DictOf knd b ĥ)(hl:↥kvs=↥ĥ)
  (hv:∀(i:Nat) k v,kvs[i]?=Zq (k,v)->∃v',valueAt ĥ k=Zq v'/\VP A s v v' true) (q:Q true s):wpAny (SK prog w) A (Vf id a b) Q E s:=by
 obtain⟨o,es,ep,ho,hx,hd,hk,hp,hn⟩:=ha
 obtain⟨o2,es2,ep2,ho2,hx2,hd2,hk2,hp2,Ψ⟩:=hb
 have hz:es.size=↥kvs:=by rw[<-↥hp];simp
 have hz2:es2.size=↥ĥ:=by rw[<-↥hp2];simp
 unfold Vf
 refine E9 (vX hda ?_)
 refine E9 (vX Ď ?_)
 refine E9 (Vg ho hd ?_)
 refine E9 (Vg ho2 hd2 ?_)
 rw[if_neg (by simp;lia)]
 refine E9 (YB ho hd ?_)
 refine E9 ?_
 rw[Std.Legacy.Range.forIn_eq_forIn_range']
 simp only[Std.Legacy.Range.size,Nat.sub_zero,Nat.add_sub_cancel,Nat.div_one]
 refine wpAny_forIn_list _ (λrest b s'=>b=(Zr,Unit.unit)/\s'=s/\∀i∈rest,i<es.size) _ ?_ ?_ _ _ {rfl,rfl,λi hi=>?_}
 ·rintro i rest c s' ⟨rfl,rfl,hr⟩;have hi:i<es.size:=hr i (by simp);refine E9 (Vg ho hd ?_);rw[RA hi];obtain⟨⟨k,v⟩,ŀ⟩:∃kv,kvs[i]?=Zq kv:={kvs[i]'(()),PB ()};obtain⟨ű,ĵ⟩:=hp.get? (e:=es[i]) (by simp[hi]) ŀ;obtain⟨k',Ϝ,hh⟩:=hk es[i] (X7 hi);obtain⟨v',hv',he⟩:=hv i k v ŀ;have hkk:k'=k:=knd.inj _ _ _ Ϝ ű;subst hkk;show wpAny _ _ (VF [es[i].key,es[i].val] _>>=_) _ _ _;refine E9 (wpAny_holding ?_);rw[hh,ĵ];refine E9 (wpAny_dictFind_of ű ho2 hd2 hk2 ?_);obtain⟨j,f,hj,hf,hfv⟩:=Bo hp2 hv';rw[<-List.findIdx?_toArray,RT]at hj;rw[Qz]at hf;rw[hj];refine E9 (Vg ho2 hd2 ?_);rw[hf];show wpAny _ _ (VF [f.val] (eqBool v f.val)) _ _ _;rw[hfv];refine wpAny_holding (he _ _ _ _ ?_);rw[if_neg ∅];refine E9 (YB ho hd ?_);rw[if_neg (by simp)];exact Sw {rfl,rfl,λz hz=>hr z (PC _ hz)}
 ·rintro c s' ⟨rfl,rfl,_⟩;exact Sw q
 have:=(List.mem_range'_1.mp hi).2
 lia
end
theorem xq{κ:Type}[DecidableEq κ]:∀{kvs:List (κ×V)}{i:Nat}{k:κ}{v:V},(kvs.map (·.1)).Nodup->kvs[i]?=Zq (k,v)->b5 kvs k=Zq v
 | [],i,k,v,_,h=>by simp at h
 |p::r,0,k,v,_,h=>by
  simp only[Wc,X6]at h;subst h;exact cZ (p:=(k,v)) rfl
 |p::r,i+1,k,v,hn,h=>by
  rw[P0]at hn;have hr:=Qt.mp hn;have hi:r[i]?=Zq (k,v):=by simpa using h
  have hne:¬ p.1=k:=λz=>hr.1 (by rw[z];exact Qp (f:=(·.1)) (P4 hi));rw[cN hne];exact xq hr.2 hi
section
variable{X:Cx}
def FG(K:SE)(H:Hp)(v v':V):Prop:=(v=v'/\vT v=true)\/∃p q xs,v=.ref p/\v'=.ref q/\À K H p xs/\À K H q xs/\xs.all vT=true
theorem JA(I:Inv X pins B H s)(hu:A.units<Uj)(h:FG X.K H v v')(r:Zv v u)(r':Zv v' u'):VP A s u u' true:=by
 rcases h with⟨rfl,hf⟩|⟨p,q,xs,rfl,rfl,hp,hq,hf⟩
 ·exact pX hf r r' A s
 cases r;cases r';by_cases hpq:p=q
 ·subst hpq;exact .same _
 obtain⟨Â,r1,⟨o,n,e1,c1,_,d1⟩,_⟩:=I.list hp;obtain⟨jts,r2,⟨o2,n2,e2,c2,_,d2⟩,_⟩:=I.list hq;have l1:=↥r1;have l2:=↥r2;have hR:=SeqAt.RcAt.lists (A:=A) (s:=s) (e:=λ_=>true) (l:=p) (b:=q) (items:=Â.toArray) (items2:=jts.toArray) ⟨o,e1,c1,n,d1⟩ ⟨o2,e2,c2,n2,d2⟩ (by simp;lia) hu (λj h1 h2=>by
  simp at h1 h2;obtain⟨x,hx⟩:∃x,xs[j]?=Zq x:={xs[j]'(()),PB ()};obtain⟨u1,g1,w1⟩:=r1.get hx;obtain⟨u2,g2,w2⟩:=r2.get hx;have z1:Â.toArray[j]'(by simpa using h1)=u1:=by
   have:=PB h1;rw[g1]at this;simpa using (SN this).symm
  have z2:jts.toArray[j]'(by simpa using h2)=u2:=by
   have:=PB h2;rw[g2]at this;simpa using (SN this).symm
  rw[z1,z2];exact pX (Rt.mp hf x (P4 hx)) w1 w2 _ _)
 have:((SS Â.toArray.size).all λ_=>true)=true:=by simp
 rw[this]at hR;exact .of_refs hpq hR
theorem NA(hu:X.A.units+64<Uj):Ó X (SW .Eq) (λx y H Q=>∃a b kvs ĥ,x=.ref a/\y=.ref b/\Rd H a (.dK kvs)/\Rd H b (.dK ĥ)/\↥kvs=↥ĥ/\
  (∀k v,b5 kvs k=Zq v->∃v',b5 ĥ k=Zq v'/\FG X.K H v v')/\Q (.bl true) H):=by
 intro pins s B H x y v u Q I rx ry h
 obtain⟨a,b,kvs,ĥ,rfl,rfl,ha,hb,hl,hv,q⟩:=h
 cases rx
 cases ry
 obtain⟨z,hs,vs,rel,dd⟩:=mP I.È ha
 obtain⟨z2,Ŀ,vs2,rel2,dd2⟩:=mP I.È hb
 have e1:=↥rel
 have e2:=↥rel2
 refine wpAny_richCompare_same_room (op:=.Eq) dd.typeIs dd2.typeIs WW (TN WW dd.typeIs PySem.F.entry_dict_eq ?_ (PySem.F.args_dict_eq_2 _ _)) ()
 show wpAny _ _ (VT "__eq__" {[.ref a,.ref b],[]}>>=_) _ _ _
 refine E9 ?_
 unfold VT
 refine E9 (WH dd.typeIs ?_)
 show wpAny _ _ (pure (SO a,SO b)) _ _ _
 refine Sw ?_
 refine E9 (Vt (T:="dict") (b:=true) dd2.typeIs (by rw[Vh];kernel_rfl) ?_)
 show wpAny _ _ (Vf "dict.__eq__" a b>>=_) _ _ _
 refine E9 (As hs Ŀ dd dd2 () (λi k v hi=>?_) ?_)
 ·obtain⟨⟨k',v'⟩,ŀ⟩:∃kv,kvs[i]?=Zq kv:={kvs[i]'(by have:=(PQ.mp hi).1;lia),PB _};have hr:k'=k/\Zv v' v:=Dx rel ŀ hi;obtain⟨rfl,hrv⟩:=hr;obtain⟨w',hw,hq⟩:=hv k' v' (xq (by rw[rel.keys];exact(dd.dictAt.choose_spec).nodup) ŀ);have ĵ:=rel2.val k';rw[hw]at ĵ;cases hvv:valueAt vs2 k' with
  |none=>rw[hvv]at ĵ;exact(show False from ĵ).elim
  |some u'=>
   rw[hvv]at ĵ;exact{u',rfl,JA I (show X.A.units+1<Uj by lia) hq hrv ĵ}
 show wpAny _ _ (ret (.bool true)) _ _ _
 exact Sw {.bool true,rfl,(λz=>nomatch z),.bl true,H,I,rfl,q}
structure rT(z y:Str)(ws:List Str):Prop where
 h1:(decide (↥z<↥y)||decide (Xh z<Xh y))=false
 hy:(↥y==0)=false
 hf:(TL z y 0 ↥z (↥z+1)).isEmpty=false
 hx:↥z<=sizeLine
 hn:↥ws<=sizeLine
 e:Builtin.Str.partsBetween z (TL z y 0 ↥z (↥z+1)) ↥y=ws
theorem vH:∀tk ws,Zt (ws.map V.str) (strsFrom tk ws)
 |_,[]=>.nil
 |tk,x::r=>.cons {_,rfl} (vH (tk+1) r)
theorem FK:MtR X "str.split" (λx xs H Q=>∃z y ws,x=.str z/\xs=[.str y]/\rT z y ws/\∀l,H l=Zr->Q (.ref l) (upd H l (.lst (ws.map V.str)))):=by
 intro pins s B H x xs v us Q I rx rs h;obtain⟨z,y,ws,rfl,rfl,ok,q⟩:=h;obtain⟨t,rfl⟩:=rx;obtain⟨u,rfl,ru⟩:=rs.one;obtain⟨t2,rfl⟩:=ru;obtain⟨h1,hy,hf,hx,hn,e⟩:=ok;subst e;refine Vr F.slot_str_split (XE _ _ _) F.entry_str_split (F.args_str_split_2 _ _) (meets_str_split_sep z y t t2 h1 hy hf hx hn) ?_;exact{.ref _,_,I.Ld (vH _ _) (by rw[Pr];exact hn),rfl,q _ I.fresh}
theorem ZI(ho:PE X o to)(ha:PA X [e] t)(í:T7 o "split" X.env (Ts o X.env)=Ts o X.env:=by rfl)
  (Ř:((TB Ï (SG [e] X.env)).all (λx=>!x.1)&&(Uv Ï (TM [] X.env)).all (λx=>x.1.isSome)
   &&decide ([e].length+([]:List UT).length+(if([]:List UT).isEmpty then 0 else 1)<30))=true:=by rfl)
  (ë:(apos.endLine==Ï.line)=true:=by rfl) (hs:SG [e] X.env=(false,Ts e X.env)::SG [] X.env:=by rfl) (õ:(TB Ï (SG [] X.env)).any (·.1)=false:=by rfl) :
  PE X (.Call (.Attribute o "split" apos) [e] [] Ï) (tBM X.K "str" (λx xs H Q=>∃z y ws,x=.str z/\xs=[.str y]/\rT z y ws/\∀l,H l=Zr->Q (.ref l) (upd H l (.lst (ws.map V.str)))) to t):=
 E3 PySem.F.plainAttrs_str PySem.F.slot_str_split PySem.F.type_str_split FK ho ha í Ř ë hs õ
def Nf(z:Str)(n:Int):Str:=if n<1 then SQ else if(n==1||↥z==0)=true then z else⟨(SV n.toNat z.cps).foldl (· ++ ·) #[]⟩
def NF:R2:=λx y H Q=>match x,y with
 | .int i,.int j=>AU i j/\Q (.int (i*j)) H
 | .str z,.int n=>n<1000/\-1000<n/\↥z<=1000/\Q (.str (Nf z n)) H
 | .ref p,.int k=>∃xs,H p=Zq (.lst xs)/\-(2^63)<=k/\k<2^63/\↥xs*k.toNat<=sizeLine/\∀l,H l=Zr->Q (.ref l) (upd H l (.lst (SV k.toNat xs).flatten))
 |_,_=>False
theorem Dr(xs:List (Array Nat)):∀acc,(xs.foldl (· ++ ·) acc).size=acc.size+(xs.map (·.size)).sum:=by
 induction xs with
 |nil=>intro acc;simp
 |cons x r ih=>intro acc;rw[QS,ih,X8,P0,Rx];lia
theorem G2(z:Str)(n:Nat):(⟨(SV n z.cps).foldl (· ++ ·) #[]⟩:Str).length=n*↥z:=by
 show((SV n z.cps).foldl (· ++ ·) #[]).size=_;rw[Dr,List.map_replicate];have:∀m k:Nat,(SV m k).sum=m*k:=λm k=>by
  induction m with
  |zero=>simp
  |succ m ih=>rw[Q3,Rx,ih,Nat.succ_mul];lia
 rw[this];simp[Str.length]
theorem dD:Ó X (TX .Mult) NF:=by
 intro pins s B H x y v u Q I rx ry h;cases x with
 |int i=>
  cases y with
  |int j=>exact MU pins s B H _ _ v u Q I rx ry h
  |_=>exact(show False from h).elim
 |str z=>
  cases y with
  |int n=>
   obtain⟨h1,h2,h3,q⟩:=h;obtain⟨t,rfl⟩:=rx;obtain⟨t2,rfl⟩:=ry;have hb:¬ n<1->n.toNat*↥z<=1000000:=λhn=>by
    have e1:n.toNat<=1000:=()
    exact P2 (Nat.mul_le_mul e1 h3) ∅
   refine P.mul_str (by rw[decide_eq_false (),decide_eq_false ()];rfl) (λhn _=>?_) (λhn _=>?_) ?_
   ·intro z1;have h0:(0:Int)<n:=()
    have:=Int.lt_mul_of_ediv_lt h0 z1;have e2:((↥z:Int))*n<=1000*1000:=Si () () () ∅;lia
   ·unfold Builtin.Str.tooLong;have:=hb hn;rw[Nat.mul_comm]at this;refine decide_eq_false ?_;rw[UM];lia
   unfold Nf at q;by_cases c1:n<1
   ·rw[if_pos c1]at q⊢;exact{∅,.str _,H,I.tok _,{_,rfl},q}
   rw[if_neg c1]at q⊢;by_cases c2:(n==1||↥z==0)=true
   ·rw[if_pos c2]at q⊢;exact{.str _,H,I,{_,rfl},q}
   rw[if_neg c2]at q⊢;refine{?_,.str _,H,I.tok _,{_,rfl},q};rw[G2];have:=hb c1;rw[UM];lia
  |_=>exact(show False from h).elim
 |ref p=>
  cases y with
  |int k=>
   obtain⟨xs,h1,h2,h3,h4,q⟩:=h;exact Mq pins s B H _ _ v u Q I rx ry ⟨p,k,xs,rfl,rfl,h1,h2,h3,h4,q⟩
  |_=>exact(show False from h).elim
 |_=>cases y<;>exact(show False from h).elim
def Ke(K:SE)(H:Hp)(a b:Sv):Prop:=∃kvs ĥ,Rd H a (.dK kvs)/\Rd H b (.dK ĥ)/\↥kvs=↥ĥ/\∀k v,b5 kvs k=Zq v->∃v',b5 ĥ k=Zq v'/\FG K H v v'
def OY(K:SE):R2:=λx y H Q=>match x,y with
 | .ref p,.ref q=>((∃d e,nQ K H (.ref p) d/\nQ K H (.ref q) e/\TY d=true/\TY e=true/\Q (.bl (UQ d e)) H)\/(∃xs,À K H p xs/\À K H q xs/\xs.all vT=true/\Q (.bl true) H))\/(Ke K H p q/\Q (.bl true) H)
 |x,y=>Ec x y=true/\Q (.bl (decide (x=y))) H
theorem bU(hu:X.A.units+64<Uj):Ó X (SW .Eq) (OY X.K):=((MT hu).or (NA hu)).imp λx y H Q q=>by
 by_cases hr:∃p q,x=V.ref p/\y=V.ref q
 ·obtain⟨p,q',rfl,rfl⟩:=hr;rcases q with q|⟨⟨kvs,ĥ,h1,h2,h3,h4⟩,h5⟩
  ·exact .inl q
  exact .inr ⟨p,q',kvs,ĥ,rfl,rfl,h1,h2,h3,h4,h5⟩
 refine .inl ?_;cases x<;>cases y<;>first|exact q|exact absurd {_,_,rfl,rfl} hr
inductive Lu(xs:List V)(H:Hp)(Q:VK):Prop
 |mk (a kvs) (h0:xs=[.ref a]) (h1:Rd H a (.dK kvs)) (q:Q (.int (↥kvs:Nat)) H):Lu xs H Q
theorem fI:dY X (.builtin "len") (λxs H Q=>JE X.K xs H Q\/Lu xs H Q):=Nw.or λpins s B H xs us Q I r ⟨a,kvs,h0,h1,q⟩=>MH pins s B H xs us Q I r ⟨a,kvs,h0,h1,q⟩
theorem rV(hc:X.calm=true:=by rfl):dY X (.type "list") (λxs H Q=>(∃p ys,xs=[.ref p]/\(À X.K H p ys\/Ç X.K H p ys)/\∀l,H l=Zr->Q (.ref l) (upd H l (.lst ys)))\/∃d kvs,xs=[.ref d]/\Rd H d (.dK kvs)/\∀l,H l=Zr->Q (.ref l) (upd H l (.lst (kvs.map λkv=>kV kv.1)))):=jP.or (Im hc)
end
section
variable{X:Cx}{pins:List (Sv×Obj)}{B:St}{H:Hp}{s:Sy}
def Itz(K:SE)(a b:Sv):It:=
  ⟨λi H=>∃xs ys x y,À K H a xs/\À K H b ys/\xs[i]?=Zq x/\ys[i]?=Zq y,
   λi H v H'=>∃T x y,v=.ref T/\H T=Zr/\H'=upd H T (.tup [x,y])/\∀xs ys,À K H a xs->À K H b ys->xs[i]?=Zq x/\ys[i]?=Zq y,
   λi H=>∃xs ys,À K H a xs/\À K H b ys/\(↥xs<=i\/↥ys<=i)⟩
def Og(z TI TO i1 i2 a b:Sv)(i:Nat)(h:Tb):Prop:=IsZip h z TI TO .none/\IsPair h TI (.ref i1) (.ref i2)/\(∃u v,IsPair h TO u v)/\h.IsListIter i1 a i/\h.IsListIter i2 b i
theorem Gp{P:Program}{w:SM}{K:SE}{elts:List Expr}{x1}{pos:Pos}{a b z TI TO i1 i2:Sv}(D:ZipApart z TI TO i1 i2 a b) :
  ZM P w K (.Tuple elts x1 pos) (Itz K a b) [z,TI,TO,i1,i2] z (Og z TI TO i1 i2 a b) where
 mem:=by simp
 obj:=λi h st c hc=>by
  obtain⟨hz,hI,⟨u,v,hO⟩,⟨o1,e1,_,d1⟩,⟨o2,e2,_,d2⟩⟩:=st;simp only[Py,P7,or_false]at hc;rcases hc with rfl|rfl|rfl|rfl|rfl
  ·exact{_,hz,λv q=>by cases (show Yt _=Xa v from q)}
  ·exact{_,hI,λv q=>by cases (show Data.seq _ _=Xa v from q)}
  ·exact{_,hO,λv q=>by cases (show Data.seq _ _=Xa v from q)}
  ·exact{o1,e1,λv q=>by rw[d1]at q;cases q}
  exact{o2,e2,λv q=>by rw[d2]at q;cases q}
 keep:=λi h h' st k=>by
  obtain⟨hz,hI,⟨u,v,hO⟩,h1,h2⟩:=st;exact{k z (by simp) _ hz,k TI (by simp) _ hI,{u,v,k TO (by simp) _ hO},h1.at λo e=>k i1 (by simp) o e,h2.at λo e=>k i2 (by simp) o e}
 item:=by
  intro X hP hw hK hc i pins s B H E I hf st hg;subst hP hw hK;obtain⟨xs,ys,x,y,hq,Ż,hx,hy⟩:=hg;obtain⟨Â,rv,p,hz'⟩:=I.list hq;obtain⟨its',rv',p',hz''⟩:=I.list Ż;obtain⟨u,hu,ru⟩:=rv.get hx;obtain⟨v,hv,rv2⟩:=rv'.get hy;obtain⟨hz,hI,⟨u0,v0,hO⟩,h1,h2⟩:=st;have hT:=I.sv (H':=H) (Px ⇑s) (I.È.fresh (Px _));have lt:∀{c:Sv}{o:Obj},s.heap.get? c=Zq o->⇑s≠c:=λe=>QV (SI e);refine wpAny_pyNext_zip_item D hz hI hO h1 h2 p.isList p'.isList (x:=u) (y:=v) (by simpa using hu) (by simpa using hv) λh' a1 a2 a3 a4 a5 a6 a7=>?_;have I1:Inv X pins B H { s with heap:=h',toks:=s.toks }:=I.yn (ch:=[z,TI,TO,i1,i2]) hf λc o hc q=>a7 c o (λe=>hc (by simp[e])) (λe=>hc (by simp[e])) (λe=>hc (by simp[e])) (λe=>hc (by simp[e])) q;have I2:=I1.JS (u:=.tup [x,y]) hT I.sz {by show 2<=sizeLine;decide,[u,v],.cons ru (.cons rv2 .nil),{_,a5,rfl,_,rfl}};refine⟨_,rfl,wpAny_letOwnedTupleGo_zip (s:={ s with heap:=h' }) a1 λh2' hz2 Ŀ=>?_⟩;have f0:=hf z (by simp);have hI':h'.get? TI=_:=a7 TI _ D.TIz D.TITO D.TIi1 D.TIi2 hI;have zT:z≠⇑s:=P9 (lt hz);refine⟨.ref ⇑s,_,I2.turned (t':=s.toks) (it:=z) (λc o hc q=>(Ŀ.2 c hc).trans q) (by rw[aP zT];exact f0.1) f0.2.1 f0.2.2.2.1 f0.2.2.2.2.1 f0.2.2.2.2.2,rfl,
   {_,x,y,rfl,hT.1,rfl,λϥ ys' q q'=>by rw[I.uK q hq,I.uK q' Ż];exact⟨hx,hy⟩},{hz2,(Ŀ.2 TI D.TIz).trans hI',{u,v,(Ŀ.2 TO D.TOz).trans a2},a3.at λo q=>(Ŀ.2 i1 D.i1z).trans q,a4.at λo q=>(Ŀ.2 i2 D.i2z).trans q},λc hc=>?_⟩
  have cT:c≠⇑s:=by
   simp only[Py,P7,or_false]at hc;rcases hc with rfl|rfl|rfl|rfl|rfl
   ·exact zT
   ·exact P9 (lt hI)
   ·exact P9 (lt hO)
   ·obtain⟨o,e,_⟩:=h1;exact P9 (lt e)
   obtain⟨o,e,_⟩:=h2;exact P9 (lt e)
  rw[aP cT];exact(hf c hc).1
 done:=by
  intro X hP hw hK hc i pins s B H E I hf st hg;subst hP hw hK;obtain⟨xs,ys,hq,Ż,hx⟩:=hg;obtain⟨Â,rv,p,hz'⟩:=I.list hq;obtain⟨its',rv',p',hz''⟩:=I.list Ż;obtain⟨hz,hI,⟨u0,v0,hO⟩,h1,h2⟩:=st;have hl:=↥rv;have hl':=↥rv';refine wpAny_pyNext_zip_end (I.ok.hd hc) D hz hI hO h1 h2 p.isList p'.isList (by simp;lia) λh' eb=>{rfl,?_};exact I.yn (ch:=[z,TI,TO,i1,i2]) hf λc o hc q=>eb c o (λe=>hc (by simp[e])) (λe=>hc (by simp[e])) (λe=>hc (by simp[e])) (λe=>hc (by simp[e])) q
 self:=λ_ _ _ _ _ st h=>Ym st.1 h
def Pl(K:SE)(ta:TA):TI:=λB H R=>ta B H λvs H1=>∃a b,vs=[.ref a,.ref b]/\(∃xs,À K H1 a xs)/\(∃ys,À K H1 b ys)/\R (Itz K a b) H1
theorem Dt:T6 "zip"=Zq (.type "zip"):=by decide+kernel
theorem Li{x1}(hg:Gl X "zip")(hm:X.mg "zip"=Zr)(ha:PA X [a,b] ta)(he:SG [a,b] X.env=(false,Ts a X.env)::SG [b] X.env:=by rfl)
  (ÿ:(TB pos (SG [b] X.env)).any (·.1)=false:=by rfl):PI X (.Tuple elts x1 pos2) (.Call (.Name "zip" p) [a,b] [] pos) (Pl X.K ta):=by
 intro pins s B H R I h
 refine Call_ (jO I hg hm Dt (TR (Ì (ha pos pins s B H _ I h) λus s1 ⟨vs,H1,I1,r1,q1⟩=>?_) he ÿ))
 obtain⟨a,b,e,⟨xs,hq⟩,⟨ys,Ż⟩,q⟩:=q1
 subst e
 obtain⟨u,v,rfl,ru,rv⟩:=ZN r1
 cases ru
 cases rv
 obtain⟨Â,rv1,p1,hz1⟩:=I1.list hq
 obtain⟨its',rv2,p2,hz2⟩:=I1.list Ż
 have lt:∀{c:Sv}{zs:Array Su},s1.heap.IsList c zs->c<⇑s1:=λh=>by obtain⟨o,e,_⟩:=h;exact SI e
 refine call_zip_2 p1.isList p2.isList λh' hz hI hO h1 h2 hsz hk=>?_
 refine Ym hz ?_
 refine{⇑s1+4,[⇑s1+4,⇑s1+2,⇑s1+3,⇑s1,⇑s1+1],_,_,H1,rfl,I1.kept (t':=s1.toks) hk,Gp (zipApart_new (lt p1.isList) (lt p2.isList)),{hz,hI,{_,_,hO},h1,h2},λc hc=>?_,q}
 have le:⇑s1<=c:=by
  simp only[Py,P7,or_false]at hc;rcases hc with h|h|h|h|h
  ·rw[h];exact QM _ _
  ·rw[h];exact QM _ _
  ·rw[h];exact QM _ _
  ·rw[h];exact Px _
  rw[h];exact QM _ _
 exact I1.sv le (I1.È.fresh le)
end
theorem HE{K:UR}{a b:Sv}{xs ys:List V}{g:TG}{tb:TS}{D:ZK}{B:St}{H:Hp}(Pv:Nat->St->Hp->Prop)(h0:Pv 0 B H)(hl:∀i B H,i<=↥xs->Pv i B H->À K H a xs/\À K H b ys)(hle:↥xs=↥ys)
  (hs:∀i x y B H T,xs[i]?=Zq x->ys[i]?=Zq y->Pv i B H->H T=Zr->g (.ref T) B (upd H T (.tup [x,y])) λσ2 H2=>tb { D with nx:=Pv (i+1),ct:=Pv (i+1),bk:=D.nx } σ2 H2) (hd:∀B H,Pv ↥xs B H->D.nx B H) :
  ∃W:Nat->Nat->St->Hp->Prop,(∃m,W 0 m B H)/\∀i m B H,W i m B H->
   ((Itz K a b).stop i H/\D.nx B H)\/((Itz K a b).go i H/\∃N,(∀B' H',N B' H'->∃m',m'<m/\W (i+1) m' B' H')/\∀x H',(Itz K a b).š i H x H'->g x B H' λσ2 H2=>tb { D with nx:=N,ct:=N,bk:=D.nx } σ2 H2):=by
 refine{λi m B H=>m=↥xs-i/\i<=↥xs/\Pv i B H,{↥xs,by simp,PZ _,h0},?_}
 rintro i m B H ⟨rfl,hi,p⟩
 obtain⟨q,q'⟩:=hl i B H hi p
 by_cases Ý:i<↥xs
 ·have hlt':i<↥ys:=()
  refine .inr {{xs,ys,xs[i],ys[i],q,q',by simp[Ý],by simp[hlt']},Pv (i+1),λB' H' p'=>{↥xs-(i+1),(),rfl,Ý,p'},λv H' y=>?_};obtain⟨T,x,y,rfl,hT,rfl,h⟩:=y;obtain⟨e1,e2⟩:=h xs ys q q';exact hs i x y B _ T e1 e2 p hT
 have e:i=↥xs:=()
 subst e
 exact .inl {{xs,ys,q,q',P1 (Px _)},hd B H p}
set_option maxHeartbeats 4000000
section
variable{X:Cx}
theorem EG(ho:PE X o to)(í:T7 o "pop" X.env (Ts o X.env)=Ts o X.env:=by rfl)(ë:(apos.endLine==Ï.line)=true:=by rfl) :
  PE X (.Call (.Attribute o "pop" apos) [] [] Ï) (MR X.K "list" Jl to):=
 KA Vc PySem.F.slot_list_pop PySem.F.type_list_pop K6 ho í ë
def OR(K:SE)(te:TE):TE:=λB H Q=>te B H λx H1=>∃a xs,x=.ref a/\À K H1 a xs/\∀p,H1 p=Zr->Q (.ref p) (upd H1 p (.lst xs.reverse))
end
section
variable{X:Cx}{e:Expr}{te:TE}{es:List Expr}{t:Str->TE}{pos:Pos}
def PJ(X:Cx)(es:List Expr)(t:Str->TE):Prop:=
 ∀(acc:Str)(pins:List (Sv×Obj))(s:Sy)(B:St)(H:Hp)(Q:VK),Inv X pins B H s->t acc B H Q->wpAny (SK X.prog X.w) X.A (Zh acc (evalEach es X.env)) (EP X pins B Q) X.xe s
theorem KS:PJ X [] (λacc _ H Q=>↥acc<=sizeLine/\Q (.str acc) H):=λacc pins s B H Q I h=>by
 show wpAny _ _ (Zh acc []) _ _ _;exact joinParts_nil (Q:=EP X pins B Q) {.str acc,H,I.tok _,{_,rfl},h.2} h.1
theorem Ck(he:PE X e te)(ht:PJ X es t):PJ X (e::es) (λacc B H Q=>te B H λv H'=>∃x,v=.str x/\(acc++x).length<=sizeLine/\t (acc++x) B H' Q):=λacc pins s B H Q I h=>by
 show wpAny _ _ (Zh acc (Ts e X.env::evalEach es X.env)) _ _ _;refine joinParts_cons (Ì (he pins s B H _ I h) λv s1 z9=>?_);obtain⟨x,H1,I1,r1,y,e1,l1,q1⟩:=z9;subst e1;obtain⟨tk,rfl⟩:=r1;exact{l1,ht _ pins s1 B H1 Q I1 q1}
theorem IG(h:PJ X (a::b::es) t):PE X (.JoinedStr (a::b::es) pos) (λB H Q=>t SQ B H Q):=λpins s B H Q I q=>JoinedStr_many (h SQ pins s B H Q I q)
theorem Kh(he:PE X e te):PE X (.FormattedValue e (-1) Zr pos) (λB H Q=>te B H λv H'=>(∃i,v=.int i/\i.natAbs.log2<1920/\Q (.str (toString i:String)) H')\/∃x,v=.str x/\↥x<=sizeLine/\Q (.str x) H'):=λpins s B H Q I h=>by
 refine FormattedValue_plain (Ì (he pins s B H _ I h) λv s1 z9=>?_);obtain⟨x,H1,I1,r1,q1⟩:=z9;rcases q1 with⟨i,rfl,hi,q1⟩|⟨y,rfl,hy,q1⟩
 ·obtain⟨tk,rfl⟩:=r1;exact formatField_int_small hi {.str (toString i:String),H1,I1.tok _,{_,rfl},q1}
 obtain⟨tk,rfl⟩:=r1;exact formatField_str (λt' tk=>{.str y,H1,I1.tok _,{_,rfl},q1}) hy
end
section
variable{X:Cx}
theorem gp(ho:PE X o to)(ha:PA X [e] t)(í:T7 o "extend" X.env (Ts o X.env)=Ts o X.env:=by rfl)
  (Ř:((TB Ï (SG [e] X.env)).all (λx=>!x.1)&&(Uv Ï (TM [] X.env)).all (λx=>x.1.isSome)
   &&decide ([e].length+([]:List UT).length+(if([]:List UT).isEmpty then 0 else 1)<30))=true:=by rfl)
  (ë:(apos.endLine==Ï.line)=true:=by rfl) (hs:SG [e] X.env=(false,Ts e X.env)::SG [] X.env:=by rfl) (õ:(TB Ï (SG [] X.env)).any (·.1)=false:=by rfl) :
  PE X (.Call (.Attribute o "extend" apos) [e] [] Ï) (tBM X.K "list" Bu to t):=
 E3 Vc PySem.F.slot_list_extend PySem.F.type_list_extend Dy ho ha í Ř ë hs õ
end
section
variable{prog:Program}{w:SM}{K:Type}[DecidableEq K]{knd:KeyKind prog w K}{A:Td}{E:Su->Sy->Prop}{s:Sy}
end
section
variable{X:Cx}
theorem vK:∀{bs:List Sv}{Â:List Su},Zt (bs.map V.ref) Â->Â=bs.map SO
 | [],_,h=>by cases h;rfl
 |b::r,_,h=>by
  cases h with
  |cons r2 r3=>cases r2;rw[vK r3];rfl
end
section
variable{prog:Program}{w:SM}{A:Td}{E:Su->Sy->Prop}{s:Sy}
end
section
variable{X:Cx}
end
section
variable{K:SE}{H:Hp}{Q:VK}
theorem É{p:Sv}{xs:List V}{v:V}{j:Nat}(h:Ç K H p xs)(e:xs[j]?=Zq v)(q:Q v H):ixS K p (j:Int) H Q\/dgI p (.int (j:Int)) H Q:=.inl ⟨xs,v,.inr h,hJ e,q⟩
theorem ï(h:À K H p xs)(e:ĭ xs i=Zq v)(q:Q v H):ixS K p i H Q\/dgI p (.int i) H Q:=.inl ⟨xs,v,.inl h,e,q⟩
theorem Þ(h:H d=Zq (.dK kvs))(e:b5 kvs (.inr x)=Zq v)(q:Q v H):dgI d (.str x) H Q:={v,e▸jd.k (k:=.inr x) h,q}
theorem Ø(h:H a=Zq (.ins C dx fs))(c:œ K C)(n:aL K C f)(e:fs.lookup f=Zq v)(q:Q v H):oK K f (.ref a) H Q:=⟨a,C,dx,fs,v,rfl,h,c,n,e,q⟩
theorem ϯ(h:H p=Zq (.lst xs))(q:Q (.int (↥xs:Nat)) H):JE K [.ref p] H Q\/Lu [.ref p] H Q:=.inl {_,_,rfl,.inl {_,À.of h,rfl},q}
theorem Μ(ty:oT K H x t)(k:Vd K t (.ref D)=Zq b)(q:R b H):Bh K [x,.ref D] H λv H1=>zd K v H1 R:={x,.ref D,t,b,rfl,(λz=>by cases z),ty,k,b,rfl,q}
end
section
variable{X:Cx}
end
def w6(P:Program)(w:SM)(K:SE)(mg:Str->Option Su)(base:Tb)(k:Nat)(x:Str)(ps:List Str)(dvs:List V)(sp:Sp):Prop:=
 ∃f fd ds,j8 P w K mg base ş k f fd ps sp/\Zy K fd ps []/\Zy K fd ps ds/\Zt dvs ds/\Uc K (.ref f)=true/\mg x=Zq (.ref f)/\∃oc od ù,K.lookup f=Zq ⟨oc,od,.func fd,ù⟩
section
variable{P:Program}{w:SM}{K:SE}{mg:Str->Option Su}{base:Tb}{k:Nat}{x:Str}{ps:List Str}{dvs:List V}{sp:Sp}
theorem w6.has(D:w6 P w K mg base k x ps dvs sp):Ϻ P w K mg base k x ps sp:=by
 obtain⟨f,fd,ds,F,b,_,_,kp,m,l⟩:=D;exact⟨f,fd,F,b,kp,m,l⟩
structure oV(K:SE)(mg:Str->Option Su)(x:Str)(st:S0)(ps:List Str)(dvs:List V):Prop where
 ex:∃(f:Sv)(oc:Su)(od:Option Sv)(dV kV doc pm:Su)(an:Option Sv)(Ã ct:Su)(ù:Array (Option Su))(ds:List Su),K.lookup f=Zq {oc,od,.func (T8 x x (bH st) (bj st) (aq st) dV kV doc pm an Ã ct),ù}/\Vw K Ã x=true/\Uc K (.ref f)=true/\mg x=Zq (.ref f)/\Zt dvs ds/\
  Zy K (T8 x x (bH st) (bj st) (aq st) dV kV doc pm an Ã ct) ps []/\Zy K (T8 x x (bH st) (bj st) (aq st) dV kV doc pm an Ã ct) ps ds
abbrev oV.Hz{st:S0}(_:oV K mg x st ps dvs)(P:Program)(w:SM)(base:Tb)(k:Nat)(sp:Sp):Prop:=w6 P w K mg base k x ps dvs sp
theorem oV.hs{st N}(F:oV K mg x st ps dvs)(S:aE N ps (aq st))
  (ì:∀f Ã A outer s H vs Q E,dW k (A.deeper (UZ x (aq st) ⇑s f Ã))->(A.deeper (UZ x (aq st) ⇑s f Ã)).units+64<Uj->sp vs H Q E->
   ∃t,Į (uZ ş P w K mg base N x (aq st) f Ã A outer s H E).Ϭ (bj st) t/\t { nx:=λ_ H'=>Q .Ê H',rt:=Q } (ZC N vs) H) (len:∀vs H Q E,sp vs H Q E->↥vs=↥ps:=by intro _ _ _ _ h;cases h;subst_vars;rfl):w6 P w K mg base (k+1) x ps dvs sp:=by
 obtain⟨f,oc,od,dV,kV,doc,pm,an,Ã,ct,ù,ds,lk,Ō,kp,m,hv,b1,b2⟩:=F.ex
 refine{f,_,ds,FQ lk Ō S len λA outer s H vs Q E hr ź=>?_,b1,b2,hv,kp,m,oc,od,ù,lk}
 obtain⟨t,h,q⟩:=ì f Ã A outer s H vs Q E hr hr.units ź
 exact⟨t,h.Ϭ,q⟩
end
theorem zu(D:w6 X.prog X.w X.K X.mg X.base j x ps dvs sp)(hr:dW k X.A)(ha:PA X (e::es) t)(hj:j<=k:=by decide)(hg:Gl X x:=by rfl)
  (Ď:(x==("__debug__":Str))=false:=by decide) (he:SG (e::es) X.env=(false,Ts e X.env)::SG es X.env:=by rfl) (ÿ:(TB pos (SG es X.env)).any (·.1)=false:=by rfl) :
  PE X (.Call (.Name x p) (e::es) [] pos) (vW sp dvs E0 t):=by
 obtain⟨f,fd,ds,F,_,b,hv,kp,m,_⟩:=D
 exact CG F (hr.mono hj) hg m kp b hv vC ha Ď he ÿ
def cy(a b c:Option Tok):Array (Int×Su):=((a.map λt=>((0:Int),Uu 0 t)).toList++((b.map λt=>((1:Int),Uu 1 t)).toList++(c.map λt=>((2:Int),Uu 2 t)).toList)).toArray
def yz(a b c:Option Tok):Array Nat:=((a.map λ_=>0).toList++((b.map λ_=>1).toList++(c.map λ_=>2).toList)).toArray
def Ÿ(a b c:Option Tok)(led:Bool):SetTable:={ mask:=7,place:=yz a b c,dummies:=#[],finger:=0,led:=led,moves:=0,plain:=true }
abbrev ē(a b c:Option Tok)(ep:Nat)(led:Bool):Obj:={ cls:=.type "set",dict:=Zr,data:=.set (cy a b c) ep (Ÿ a b c led) }
theorem lay0(b c:Option Tok)(led:Bool)(t:Tok):layNew (Ÿ Zr b c led) (cy Zr b c) 0 (.int 0 t)=(cy (Zq t) b c,Ÿ (Zq t) b c led,false,false):=by cases b<;>cases c<;>kernel_rfl
theorem Ou(a c:Option Tok)(led:Bool)(t:Tok):layNew (Ÿ a Zr c led) (cy a Zr c) 1 (.int 1 t)=(cy a (Zq t) c,Ÿ a (Zq t) c led,false,false):=by cases a<;>cases c<;>kernel_rfl
theorem Po(a b:Option Tok)(led:Bool)(t:Tok):layNew (Ÿ a b Zr led) (cy a b Zr) 2 (.int 2 t)=(cy a b (Zq t),Ÿ a b (Zq t) led,false,false):=by cases a<;>cases b<;>kernel_rfl
theorem xD (a b c led):(Ÿ a b c led).tooFull=false:=by cases a<;>cases b<;>cases c<;>kernel_rfl
theorem fu (a b c led):(Ÿ a b c led).fits (cy a b c).size=true:=by cases a<;>cases b<;>cases c<;>kernel_rfl
theorem jg (a b c):(cy a b c).size<=3:=by cases a<;>cases b<;>cases c<;>simp[cy]
section
variable{prog:Program}{w:SM}{A:Td}{E:Su->Sy->Prop}{s:Sy}{S:Sv}{a b c:Option Tok}{ep:Nat}{led:Bool}
theorem pk:ElemsOf (U5 prog w) (cy a b c).toList:=λe he=>by
 have:e.2=.int e.1 (match e.2 with| .int _ t=>t|_=>0):=by
  cases a<;>cases b<;>cases c<;>simp[cy]at he<;>rcases he with rfl|rfl|rfl<;>rfl
 rw[this];exact{{e.1,XR _ _ _ _,by cases a<;>cases b<;>cases c<;>simp[cy]at he<;>rcases he with rfl|rfl|rfl<;>rfl},rfl}
theorem A7(ho:s.heap.get? S=Zq (ē a b c ep led))(lay:layNew (Ÿ a b c led) (cy a b c) ((U5 prog w).hash r) (.int r t)=(es',t',false,false))(pl:t'.plain=true)(tf:t'.tooFull=false)(sz:es'.size<=3)
  (nf:(cy a b c).toList.findIdx? (λe=>(U5 prog w).is r e.2)=Zr) (q:Q true { s with heap:=s.heap.update S (YZ es' t') }):wpAny (SK prog w) A (Vi S (.int r t) ((U5 prog w).hash r)) Q E s:=by
 have h4:=jg a b c
 unfold Vi Y0
 refine wpAny_holding (E9 (Uq ho rfl (fu a b c led) ?_))
 dsimp only
 rw[byScan_of (knd:=U5 prog w) rfl (by unfold scanBound;lia) pk]
 simp only[if_true]
 unfold setAddByScan
 refine E9 (E9 (UD (E9 (Yn (XR prog w r t) ho rfl (fu a b c led) pk ?_))))
 rw[nf]
 dsimp only
 rw[lay]
 refine E9 (Sw ?_)
 dsimp only
 rw[if_pos pl]
 refine E9 (Sw (a:=true) ?_)
 simp only[if_true]
 refine E9 (wpAny_storeSet_of ho rfl ?_ (P2 sz ∅))
 rw[tf]
 exact Sw (Sw q)
theorem K5(ho:s.heap.get? S=Zq (ē a b c ep led))(nf:(cy a b c).toList.findIdx? (λe=>(U5 prog w).is r e.2)=Zq j)(q:Q false s):wpAny (SK prog w) A (Vi S (.int r t) ((U5 prog w).hash r)) Q E s:=by
 have h4:=jg a b c;unfold Vi Y0;refine wpAny_holding (E9 (Uq ho rfl (fu a b c led) ?_));dsimp only;rw[byScan_of (knd:=U5 prog w) rfl (by unfold scanBound;lia) pk];simp only[if_true];unfold setAddByScan;refine E9 (E9 (UD (E9 (Yn (XR prog w r t) ho rfl (fu a b c led) pk ?_))));rw[nf];exact Sw (Sw q)
theorem qd(ho:s.heap.get? S=Zq (ē a b c ep led)):UB S s.heap (s.heap.update S (YZ (cy x y z) (Ÿ x y z led)))/\(s.heap.update S (YZ (cy x y z) (Ÿ x y z led))).get? S=Zq (ē x y z (ep+1) led):={U0 ..,TF _ ho rfl}
theorem MB(hr:r=0\/r=1\/r=2)(ho:s.heap.get? S=Zq (ē a b c ep led))
  (q:∀bl h' ϣ x y z,UB S s.heap h'->h'.get? S=Zq (ē x y z ϣ led)->x.isSome=(a.isSome||decide (r=0))->y.isSome=(b.isSome||decide (r=1))->z.isSome=(c.isSome||decide (r=2))->Q bl { s with heap:=h' }):wpAny (SK prog w) A (Vi S (.int r t) ((U5 prog w).hash r)) Q E s:=by
 have old:∀j,(cy a b c).toList.findIdx? (λe=>(U5 prog w).is r e.2)=Zq j->a.isSome=(a.isSome||decide (r=0))->b.isSome=(b.isSome||decide (r=1))->c.isSome=(c.isSome||decide (r=2))->wpAny (SK prog w) A (Vi S (.int r t) ((U5 prog w).hash r)) Q E s:=λj nf h1 h2 h3=>K5 ho nf (q false s.heap ep a b c (Heap.SameBut.refl S s.heap) ho h1 h2 h3)
 rcases hr with rfl|rfl|rfl
 ·cases a with
  |some u=>exact old 0 rfl rfl (by simp) (by simp)
  |none=>exact A7 ho (lay0 b c led t) rfl (xD ..) (jg ..) (by cases b<;>cases c<;>rfl) (q true _ _ _ _ _ (qd ho).1 (qd ho).2 rfl (by simp) (by simp))
 ·cases b with
  |some u=>cases a with
   |none=>exact old 0 rfl (by simp) rfl (by simp)
   |some v=>exact old 1 rfl (by simp) rfl (by simp)
  |none=>exact A7 ho (Ou a c led t) rfl (xD ..) (jg ..) (by cases a<;>cases c<;>rfl) (q true _ _ _ _ _ (qd ho).1 (qd ho).2 (by simp) rfl (by simp))
 cases c with
 |some u=>cases a with
  |none=>cases b with
   |none=>exact old 0 rfl (by simp) (by simp) rfl
   |some v=>exact old 1 rfl (by simp) (by simp) rfl
  |some v=>cases b with
   |none=>exact old 1 rfl (by simp) (by simp) rfl
   |some v=>exact old 2 rfl (by simp) (by simp) rfl
 |none=>exact A7 ho (Po a b led t) rfl (xD ..) (jg ..) (by cases a<;>cases b<;>rfl) (q true _ _ _ _ _ (qd ho).1 (qd ho).2 (by simp) (by simp) rfl)
end
structure F5(val:Nat->Int)(i:Nat)(a b c:Option Tok):Prop where
 a:a.isSome=(SS i).any λj=>decide (val j=0)
 b:b.isSome=(SS i).any λj=>decide (val j=1)
 c:c.isSome=(SS i).any λj=>decide (val j=2)
theorem sQ (f i):(SS (i+1)).any f=((SS i).any f||f i):=by
 rw[Sf,List.any_append];simp
section
variable{prog:Program}{w:SM}{A:Td}{R:Result->Sy->Prop}{I:Sv}{fp wr:List Sv}{G:Array WN->Array WN->Prop}{n:Nat}{P:Nat->Su->Prop}{St:Nat->Sy->Prop}{led:Bool}
theorem Hu(W:WalksS prog w A.in1 I fp wr G n P St) (S) (hSf:S∉fp) (val) (ĵ:∀i v,P i v->∃t,v=.int (val i) t) (h3:∀i v,P i v->val i=0\/val i=1\/val i=2) :
  ∀k i s a b c ep,n-i=k->i<=n->St i s->s.heap.get? S=Zq (ē a b c ep led)->F5 val i a b c->
   (∀s' x y z ϣ,Moved (S::wr) G s s'->s'.heap.get? S=Zq (ē x y z ϣ led)->F5 val n x y z->R (.ok (.ret .none)) s')->codeAny (SK prog w) A (.builtin "set.update.loop" {[.ref S,.ref I],[]}) R s:=by
 have sw:S∉wr:=λh=>hSf (W.sub _ h)
 have sub:∀b∈wr,b∈S::wr:=λb hb=>PC _ hb
 intro k
 induction k with
 |zero=>
  intro i s a b c ep hk hi st hS hm q
  obtain rfl:i=n:=()
  refine Ub U1 ?_
  rw[TQ Ud _]
  refine E9 (m:=WS (.ref I)) (W.done s _ _ st λs' mv=>?_)
  exact Sw (q s' a b c ep (mv.mono sub) (mv.heap S _ sw hS) hm)
 |succ k ih=>
  intro i s a b c ep hk hi st hS hm q
  have lt:i<n:=()
  refine Ub U1 ?_
  rw[TQ Ud _]
  refine E9 (m:=WS (.ref I)) (W.item i s _ _ lt st λv s' hP Å mv=>?_)
  obtain⟨t,rfl⟩:=ĵ i v hP
  refine E9 (wpAny_holding (m:=setAdd S (.int (val i) t)) ?_)
  unfold setAdd
  refine wpAny_holding (E9 ((U5 prog w).pyHash (k:=val i) (XR _ _ _ _) ?_))
  refine MB (s:={ s' with toks:=s'.toks+1 }) (h3 i _ hP) (mv.heap S _ sw hS) λbl h' ϣ x y z sb hS' e1 e2 e3=>?_
  refine Sw {UI Ud _,ih (i+1) _ x y z ϣ () lt (W.frame _ s' _ _ Å (Q7 _) λb hb o e=>?_) hS' {by rw[e1,hm.a,sQ],by rw[e2,hm.b,sQ],by rw[e3,hm.c,sQ]} λs'' x y z ep'' mv' hS'' ŗ=>?_}
  ·rw[sb.2 b (λh=>hSf (by rw[<-h];exact hb))];exact e
  refine q s'' x y z ep'' (Moved.trans W.gtrans ((mv.mono sub).then_heap (Q7 _) λb o hb e=>?_) mv') hS'' ŗ
  rw[sb.2 b (λh=>hb (by rw[h];exact PH))]
  exact e
end
section
variable{prog:Program}{w:SM}{A:Td}{E:Su->Sy->Prop}{s:Sy}
theorem oh(q:Q (w.params.followText "set-order") s):wpAny (SK prog w) A setsByText Q E s:=E9 (We (Sw q))
theorem IM (u) (q:Q (.ref ⇑s) { s with heap:=s.heap.push (ē Zr Zr Zr 0 (!w.params.followText "set-order")) }) :
  codeAny (SK prog w) A (.call (.builtin "set.__new__") {[.type "set",u],[]}) (wants Q E) s:=by
 refine YC (E9 (wpAny_of_eq (PySem.F.newCall_set_1 u) (Sw {UI WJ _,Ub PySem.F.entry_set_new ?_})))
 rw[TQ WJ _]
 unfold UK.«set.__new__» Builtin.Frozenset.newClass
 have hsub:=PySem.sub_set_self
 obtain⟨hp,g,d,tk,os⟩:=s
 dsimp only
 wp_walk
 refine We (Sw ?_)
 dsimp only
 simp only[newObj]
 exact E9 (wpAny_alloc (Sw (Sw q)))
set_option maxHeartbeats 3200000 in
theorem zQ(hh:A.handled=Zr)(hl:s.heap.IsList l items)(hv:∀i v,items[i]?=Zq v->∃t,v=Uu (val i) t)(h3:∀i v,items[i]?=Zq v->val i=0\/val i=1\/val i=2)
  (q:∀h' tk x y z ep,h'.get? ⇑s=Zq (ē x y z ep (!w.params.followText "set-order"))->F5 val items.size x y z->(∀b o,b<⇑s->s.heap.get? b=Zq o->h'.get? b=Zq o)->Q (.ref ⇑s) { s with heap:=h',toks:=tk }) :
  wpAny (SK prog w) A (call (.type "set") [.ref l]) Q E s:=by
 obtain⟨c,tl,hmro⟩:=PySem.F.called_set.mro
 have m1:=PySem.F.called_set.made
 have m2:=PySem.F.called_set.sub
 refine XA (YC ?_)
 show wpAny _ _ (callAny (.type "set") _) _ _ _
 refine Sw {Code.quiet_builtin _ (by decide+kernel),Ub PySem.F.entry_type_call ?_}
 rw[Around.under_plain (weight_type_call_type "set" [.ref l] []) rfl]
 have m3:=PySem.F.called_set.notType
 have m4:=PySem.F.called_set.canCreate
 have m5:=PySem.F.typeCall_set_1 (.ref l)
 repeat (any_goals (first|assumption|wp_step))
 refine US (IM (.ref l) (E:=E) (Q:=λobj s₁=>obj=.ref ⇑s/\s₁={ s with heap:=s.heap.push (ē Zr Zr Zr 0 (!w.params.followText "set-order")) }) ⟨rfl,rfl⟩) λr s₁ hr=>?_
 cases r with
 |error e=>exact hr
 |ok fl=>
  cases fl with
  |ret obj=>
   obtain⟨rfl,rfl⟩:=hr
   have hS:(s.heap.push (ē Zr Zr Zr 0 (!w.params.followText "set-order"))).get? ⇑s=Zq (ē Zr Zr Zr 0 (!w.params.followText "set-order")):=SJ _ rfl
   have hT:V5 { s with heap:=s.heap.push (ē Zr Zr Zr 0 (!w.params.followText "set-order")) } (.ref ⇑s) "set":=⟨_,hS,rfl⟩
   have n1:=PySem.F.called_set.init.lookup
   have n2:=PySem.F.called_set.init.bind (.ref ⇑s)
   repeat (any_goals (first|assumption|wp_step))
   refine US (codeAny_call_builtin (R:=wants (λr s₂=>r=.none/\∃h' tk x y z ep,s₂={ s with heap:=h',toks:=tk }/\h'.get? ⇑s=Zq (ē x y z ep (!w.params.followText "set-order"))/\F5 val items.size x y z/\∀b o,b<⇑s->s.heap.get? b=Zq o->h'.get? b=Zq o) E) PySem.F.called_set.init.plain PySem.F.entry_set_init (PySem.check_set_init_1 hT ?_)) λr₂ s₂ hr₂=>?_
   ·obtain⟨ol,hol,hcl,nl,hdl⟩:=hl;obtain⟨ocls,odict,odata,oslots⟩:=ol;simp only at hcl hdl;subst hcl;subst hdl;have hol':(s.heap.push (ē Zr Zr Zr 0 (!w.params.followText "set-order"))).get? l=Zq { cls:=.type "list",dict:=odict,data:=.seq items nl,slots:=oslots }:=Sx _ hol;have k1:=PySem.F.sub_list_set;have k2:=PySem.F.sub_list_frozenset;have k3:(Tz "list"==Tz "dict")=false:=∅
    have hl1:(s.heap.push (ē Zr Zr Zr 0 (!w.params.followText "set-order"))).IsList l items:={_,hol',rfl,nl,rfl};unfold UK.«set.__init__» noKeywords Builtin.Frozenset.updateFrom;generalize hPI:Zm=PI;wp_walk
    subst hPI;refine V2 hl1 (E9 (Y1 ?_));have lS:l<⇑s:=SI hol;have zs:(s.heap.push (ē Zr Zr Zr 0 (!w.params.followText "set-order"))).objs.size=⇑s+1:=T9 ..;refine Hu ((Walks.list (A:=A.in1.in1.in1) (by simp[hh]) _ l (by rw[zs];exact Qf (QH lS)) items).toS) ⇑s (by rw[zs];simp only[Py,P7,or_false,not_or];exact{Qf (Q4 _),QV lS}) val hv h3 items.size 0 _ Zr Zr Zr 0 () (PZ _) {{_,SJ _ rfl,rfl,rfl},hl1.push _} (Sx _ hS) ⟨rfl,rfl,rfl⟩ ?_;intro s' x y z ep mv hS' hm;obtain⟨h',g',d',tk',os'⟩:=s';have e1:g'=s.gens:=mv.gens;have e2:d'=s.drawn:=mv.drawn;have e3:os'=s.os:=mv.os;subst e1;subst e2;subst e3;refine Sw (Sw {rfl,h',tk',x,y,z,ep,rfl,hS',hm,λb o hb e=>?_});refine mv.heap b o (by rw[zs];simp only[Py,P7,or_false,not_or];exact{Qf hb,Qf (QH hb)}) (Sx _ (Sx _ e))
   cases r₂ with
   |error e=>exact hr₂
   |ok fl₂=>
    cases fl₂ with
    |ret r=>
     obtain⟨rfl,h',tk,x,y,z,ep,rfl,g1,g2,g3⟩:=hr₂
     repeat (any_goals (first|assumption|wp_step))
     exact q h' tk x y z ep g1 g2 g3
    |_=>exact hr₂.elim
  |_=>exact hr.elim
end
theorem kj:Slot "set_iterator" "__next__" "set_iterator.__next__":=.of (owner:="set_iterator") (n:="__next__") (by rw[U7,Um];kernel_rfl) (by decide+kernel) (by decide+kernel) (by decide+kernel) (by first|exact .inl (by decide+kernel)|exact .inr (by decide+kernel)) (by rw[Vh];kernel_rfl)
theorem zo:Slot "set_iterator" "__iter__" "set_iterator.__iter__":=.of (owner:="set_iterator") (n:="__iter__") (by rw[U7,Um];kernel_rfl) (by decide+kernel) (by decide+kernel) (by decide+kernel) (by first|exact .inl (by decide+kernel)|exact .inr (by decide+kernel)) (by rw[Vh];kernel_rfl)
theorem wb:YX table "set_iterator.__next__"=Zq UK.«set_iterator.__next__»:=Yl (by kernel_rfl)
theorem yx (a):argsOk "set_iterator.__next__" {[a],[]}:=by unfold argsOk;kernel_rfl
theorem Ak:YX table "set.__iter__"=Zq UK.«frozenset.__iter__»:=Y2 (id':="frozenset.__iter__") (by kernel_rfl) rfl (by decide+kernel) (by kernel_rfl)
def Ŭ(tx:Bool)(ord:Nat->Nat)(a b c:Option Tok):Array (Int×Su):=if tx=true then Zi ord (cy a b c)else cy a b c
def jK(tx:Bool)(a b c:Option Tok)(i:Nat):Nat:=if tx=true then 0 else match i with
 |0=>0
 |j+1=>(yz a b c).getD j 0+1
abbrev Λ(slot i:Nat)(S:Sv)(n ep:Nat):Obj:={ cls:=.type "set_iterator",data:=.fields #[Wn slot,Wn i,.ref S,Wn n,Wn ep] }
section
variable{prog:Program}{w:SM}{A:Td}{E:Su->Sy->Prop}{s:Sy}{S:Sv}{a b c:Option Tok}{ep:Nat}
theorem E1(h:i<=(cy a b c).size):WX (yz a b c) (jK false a b c i)=i/\(yz a b c)[i]?=(cy a b c)[i]?.map λ_=>(yz a b c).getD i 0:=by
 have h3:=jg a b c;have i3:i=0\/i=1\/i=2\/i=3:=()
 rcases i3 with rfl|rfl|rfl|rfl<;>cases a<;>cases b<;>cases c<;>first|(simp[cy]at h;done)|(refine{?_,?_}<;>kernel_rfl)
theorem BP(ho:s.heap.get? S=Zq (ē a b c ep (!w.params.followText "set-order")))(h:i<=(cy a b c).size)
  (q:Q ((Ŭ (w.params.followText "set-order") (w.params.setOrder S ep) a b c)[i]?.map λe=>(e.2,jK (w.params.followText "set-order") a b c (i+1))) s):wpAny (SK prog w) A (setNext S (jK (w.params.followText "set-order") a b c i) i ep) Q E s:=by
 unfold setNext
 refine E9 (Uq ho rfl (fu ..) ?_)
 refine E9 (oh ?_)
 cases hx:w.params.followText "set-order" with
 |true=>
  rw[hx]at ho q
  simp only[if_true,bne_self_eq_false,Qy,if_false]
  unfold setWalk
  refine E9 (E9 (Uq ho rfl (fu ..) (E9 (oh ?_))))
  rw[hx]
  simp only[if_true]
  refine E9 (We (Sw (Sw ?_)))
  exact q
 |false=>
  rw[hx]at ho q
  simp only[Qy,if_false]
  show wpAny _ _ (if false=true then _ else _) _ _ _
  simp only[Qy,if_false]
  refine E9 (show wpAny _ _ (pure Unit.unit) _ _ _ from Sw ?_)
  obtain⟨e1,e2⟩:=E1 h
  refine Sw ?_
  show Q (match (cy a b c)[WX (yz a b c) (jK false a b c i)]?,(yz a b c)[WX (yz a b c) (jK false a b c i)]? with|some (_,x),Zq j=>Zq (x,j+1)|_,_=>Zr) s
  rw[e1,e2]
  rw[show Ŭ false (w.params.setOrder S ep) a b c=cy a b c from rfl]at q
  cases he:(cy a b c)[i]? with
  |none=>rw[he]at q;exact q
  |some e=>rw[he]at q;exact q
def Aj(w:SM)(I S:Sv)(a b c:Option Tok)(ep i:Nat)(h:Tb):Prop:=h.get? I=Zq (Λ (jK (w.params.followText "set-order") a b c i) i S (cy a b c).size ep)/\h.get? S=Zq (ē a b c ep (!w.params.followText "set-order"))
theorem Hy(ne:S≠I)(st:Aj w I S a b c ep i s.heap)(h:i<=(cy a b c).size)(he:(Ŭ (w.params.followText "set-order") (w.params.setOrder S ep) a b c)[i]?=Zq e)
  (q:∀h',Aj w I S a b c ep (i+1) h'->UB I s.heap h'->Q (Zq e.2) { s with heap:=h' }):wpAny (SK prog w) A (WS (.ref I)) Q E s:=by
 obtain⟨hI,hS⟩:=st
 have ty:s.TypeIs (.ref I) "set_iterator":={_,hI,rfl}
 unfold WS
 refine E9 (Xq (Ux (name:=UU "__next__") ty kj (TN kj ty wb ?_ (yx _))))
 show wpAny _ _ (fieldsOf (.ref I)>>=_) _ _ s
 refine E9 (E9 (Xy hI (Sw ?_)))
 dsimp only[Wn]
 refine E9 (VD hS rfl (fu ..) ?_)
 simp only[bne_self_eq_false,Qy,if_false,Rl]
 refine E9 (BP hS h ?_)
 rw[he]
 dsimp only[Option.map]
 refine E9 (WY hI rfl (by simp) ?_)
 have h1:(s.heap.update I (Obj.mapFields (·.setIfInBounds 0 (Wn (jK (w.params.followText "set-order") a b c (i+1):Nat))))).get? I=Zq (Λ (jK (w.params.followText "set-order") a b c (i+1)) i S (cy a b c).size ep):=TF _ hI rfl
 refine E9 (WY h1 rfl (by simp) ?_)
 have h2:=TF (Obj.mapFields (·.setIfInBounds 1 (Wn ((i:Int)+1)))) h1 rfl
 refine Sw {_,rfl,Sw (q _ {h2,?_} ?_)}
 ·exact(Tp _ _ ne.symm).trans ((Tp _ _ ne.symm).trans hS)
 exact(U0 ..).trans (U0 ..)
theorem Lb(hh:A.handled=Zr)(st:Aj w I S a b c ep (cy a b c).size s.heap)(he:(Ŭ (w.params.followText "set-order") (w.params.setOrder S ep) a b c)[(cy a b c).size]?=Zr)
  (q:∀h',Heap.ExtBut I s.heap h'->Q Zr { s with heap:=h' }):wpAny (SK prog w) A (WS (.ref I)) Q E s:=by
 obtain⟨hI,hS⟩:=st
 have ty:s.TypeIs (.ref I) "set_iterator":={_,hI,rfl}
 unfold WS
 refine E9 (Xq (Ux (name:=UU "__next__") ty kj (TN kj ty wb ?_ (yx _))))
 show wpAny _ _ (fieldsOf (.ref I)>>=_) _ _ s
 refine E9 (E9 (Xy hI (Sw ?_)))
 dsimp only[Wn]
 refine E9 (VD hS rfl (fu ..) ?_)
 simp only[bne_self_eq_false,Qy,if_false,Rl]
 refine E9 (BP hS (Px _) ?_)
 rw[he]
 dsimp only[Option.map]
 refine E9 (WY hI rfl (by simp) (E9 ?_))
 simp only[newExc,newTuple]
 refine E9 (S9 (E9 (m:=Y3 _ _) (wpAny_of_eq (a:=Vn) (by first|rfl|(simp only[Y3];rfl)) (S9 ?_ (by size_fits)))) (by size_fits))
 simp only[raiseNew]
 refine E9 (wpAny_handled ?_)
 rw[show A.in1.handled=Zr from hh]
 refine E9 (Sw (wpAny_throw ?_))
 refine E9 (Vt (T:="StopIteration") (b:=true) {_,SJ _ rfl,rfl} isSubtype_stop ?_)
 exact Sw (q _ (((U0 ..).extBut.push _).push _))
end
theorem uo{α:Type}:∀{l:List α}{i:Nat}(h:i<↥l),(l[i]::l.eraseIdx i).Perm l
 |x::l,0,_=>WZ _
 |x::l,i+1,h=>((List.Perm.swap _ _ _).trans ((uo (l:=l) (i:=i) (by simpa using h)).cons x))
theorem Dp{α:Type} (next):∀(n k:Nat)(left:List α)(out:Array α),left.length=n->(X9 next n k left out).toList.Perm (out.toList++left)
 |0,k,left,out,h=>by
  rw[RE.mp h];unfold X9;simp
 |n+1,k,left,out,h=>by
  have lt:next k%left.length<left.length:=Nat.mod_lt _ ()
  unfold X9;rw[PB lt];dsimp only;refine(Dp next n (k+1) _ _ (by rw[List.length_eraseIdx_of_lt lt];lia)).trans ?_;rw[Rm,P6];exact TH _ (uo lt)
theorem DZ{α:Type} (next) (xs:Array α):(Zi next xs).toList.Perm xs.toList:=by
 have:=Dp next xs.size 0 xs.toList #[] (Qn ..)
 simpa [Zi] using this
theorem DT:YX table "set_iterator.__iter__"=Zq UK.«dict_keyiterator.__iter__»:=Y2 (id':="dict_keyiterator.__iter__") (by kernel_rfl) rfl (by decide+kernel) (by kernel_rfl)
theorem Gh (a):argsOk "set_iterator.__iter__" {[a],[]}:=by unfold argsOk;kernel_rfl
section
variable{prog:Program}{w:SM}{A:Td}{E:Su->Sy->Prop}{s:Sy}{S:Sv}{a b c:Option Tok}{ep:Nat}
theorem sO (tx ord):(Ŭ tx ord a b c).toList.Perm (cy a b c).toList:=by
 cases tx
 ·exact WZ _
 exact DZ _ _
theorem pH (tx ord):(Ŭ tx ord a b c).size=(cy a b c).size:=by
 have:=(sO (a:=a) (b:=b) (c:=c) tx ord).length_eq;simpa using this
theorem Aj.at(x:Aj w I S a b c ep i h)(e:∀b∈[I,S],∀o,h.get? b=Zq o->h'.get? b=Zq o):Aj w I S a b c ep i h':={e I (by simp) _ x.1,e S (by simp) _ x.2}
theorem Gf(hh:A.handled=Zr)(I:Sv)(ne:S≠I):Walks prog w A I [I,S] [I] (cy a b c).size (λi v=>(Ŭ (w.params.followText "set-order") (w.params.setOrder S ep) a b c)[i]?.map (·.2)=Zq v) (λi h=>Aj w I S a b c ep i h) where
 sub:=λb hb=>by simp at hb;simp[hb]
 frame:=λi h h' st k=>st.at k
 item:=λi s Q E hi st q=>by
  have lt:i<(Ŭ (w.params.followText "set-order") (w.params.setOrder S ep) a b c).size:=by rw[pH];exact hi
  refine Hy ne st (Rp hi) (RA lt) λh' Å sb=>?_;exact q _ h' s.toks (by rw[RA lt];rfl) Å λb o hb e=>by rw[sb.2 b (λz=>hb (by rw[z];simp))];exact e
 done:=λs Q E st q=>Lb hh st (Wy (by rw[pH];exact Px _)) λh' x=>q h' s.toks λb o hb e=>x b o (λz=>hb (by rw[z];simp)) e
 self:=λi s Q E st q=>by
  have ty:s.TypeIs (.ref I) "set_iterator":={_,st.1,rfl};refine Yb ty zo (TN zo ty DT ?_ (Gh _));exact Sw {_,rfl,"set_iterator",_,ty,kj.lookup,q}
theorem Aw:typeLookup (.type "set") "__len__"=pure (Zq (.builtin "set.__len__")):=by rw[U7,Um];kernel_rfl
theorem HX(ho:s.heap.get? S=Zq (ē a b c ep (!w.params.followText "set-order")))(q:Q (.ref ⇑s) { s with heap:=s.heap.push (Λ 0 0 S (cy a b c).size ep) }):wpAny (SK prog w) A (Zm (.ref S)) Q E s:=by
 have ty:s.TypeIs (.ref S) "set":={_,ho,rfl};refine Yb ty WK (TN WK ty Ak ?_ (PySem.F.args_set_iter_1 _));unfold UK.«frozenset.__iter__»;refine E9 (show wpAny _ _ (pure S) _ _ _ from Sw ?_);refine E9 (E9 (VD ho rfl (fu ..) (Sw ?_)));refine E9 (E9 (Uq ho rfl (fu ..) (E9 (oh ?_))));refine Sw ?_;have e:(!w.params.followText "set-order"&&false)=false:=RX _;show wpAny _ _ (if(!w.params.followText "set-order"&&false)=true then _ else _) _ _ _;rw[e];simp only[Qy,if_false];refine E9 (Sw (E9 (E9 (Uq ho rfl (fu ..) (Sw ?_)))));refine E9 (S9 (Sw {_,rfl,"set_iterator",_,{_,SJ _ rfl,rfl},kj.lookup,q}))
theorem Ah(hh:A.handled=Zr)(ho:s.heap.get? S=Zq (ē a b c ep (!w.params.followText "set-order")))
  (q:∀(s':Sy)(acc:Array Su),s'.gens=s.gens->s'.drawn=s.drawn->s'.os=s.os->(∀b o,s.heap.get? b=Zq o->s'.heap.get? b=Zq o)->⇑s<=⇑s'->acc.toList=(Ŭ (w.params.followText "set-order") (w.params.setOrder S ep) a b c).toList.map (·.2)->Q acc.toList s'):wpAny (SK prog w) A (collect (.ref S)) Q E s:=by
 have lS:S<⇑s:=SI ho
 unfold collect
 refine E9 (Y1 (Ub PySem.F.entry_proto_collect ?_))
 rw[TQ PySem.F.plain_proto_collect _]
 refine E9 (m:=newList []) (S9 ?_)
 refine Sw {UI Wf _,Ub PySem.F.entry_list_iadd ?_}
 rw[TQ Wf _]
 show wpAny _ A.in1 (TU (.ref ⇑s) (.ref S) (.ref ⇑s)) _ _ _
 have h1:(s.heap.push { cls:=.type "list",data:=.seq ([]:List Su).toArray }).get? S=Zq (ē a b c ep (!w.params.followText "set-order")):=Sx _ ho
 have h0:(s.heap.push { cls:=.type "list",data:=.seq ([]:List Su).toArray }).get? ⇑s=Zq { cls:=.type "list",data:=.seq ([]:List Su).toArray }:=SJ _ rfl
 have z1:(s.heap.push { cls:=.type "list",data:=.seq ([]:List Su).toArray }).objs.size=⇑s+1:=T9 ..
 generalize hH:s.heap.push { cls:=.type "list",data:=.seq ([]:List Su).toArray }=H at h1 h0 z1⊢
 have ty:V5 { s with heap:=H } (.ref S) "set":=⟨_,h1,rfl⟩
 unfold TU
 refine E9 (UW ty ?_)
 have k1:Us (.ref ⇑s) (.ref S)=false:=by simp[Us,QV lS]
 have k2:(Tz "set"==Tz "list")=false:=∅
 have k3:(Tz "set"==Tz "tuple")=false:=∅
 simp only[k1,k2,k3,Sl,Qy,if_false]
 refine E9 (HX h1 ?_)
 have ž:=Sx (Λ 0 0 S (cy a b c).size ep) h1
 have ty':V5 { s with heap:=H.push (Λ 0 0 S (cy a b c).size ep) } (.ref S) "set":=⟨_,ž,rfl⟩
 refine E9 (wpAny_holding ?_)
 unfold VG
 refine E9 (VC ty' Aw ?_)
 wp_delta
 refine E9 (Vt (b:=true) ty' (by rw[Vh];kernel_rfl) ?_)
 show wpAny _ A.in1 (typeOf (SO S)>>=_) _ _ _
 refine E9 (UW ty' (Sw ?_))
 show wpAny _ A.in1 (rule "list.extend.makes-room">>=λ_=>Builtin.List.listTouch (.ref ⇑s)>>=λ_=>again (.builtin "list.extend.loop" {[.ref ⇑s,.ref H.objs.size,.ref ⇑s],[]})) _ _ _
 refine E9 (UD (E9 ?_))
 have h0':=Sx (Λ 0 0 S (cy a b c).size ep) h0
 have hI:(H.push (Λ 0 0 S (cy a b c).size ep)).get? H.objs.size=Zq (Λ 0 0 S (cy a b c).size ep):=SJ _ rfl
 generalize hH2:H.push (Λ 0 0 S (cy a b c).size ep)=H2 at h0' hI ž⊢
 show wpAny _ A.in1 (Zj ⇑s (·.push .none)>>=λ_=>Zj ⇑s (·.pop)) _ _ _
 refine E9 (WE h0' rfl ?_)
 have g2:=TF (To (·.push Vn)) h0' rfl
 refine WE (hz:=by seq_fits) g2 rfl ?_
 have g3:=TF (To (·.pop)) g2 rfl
 have Θ:∀b o,b≠⇑s->H2.get? b=Zq o->((H2.update ⇑s (To (·.push Vn))).update ⇑s (To (·.pop))).get? b=Zq o:=λb o hb e=>(Tp _ _ (P9 hb)).trans ((Tp _ _ (P9 hb)).trans e)
 have nS:S≠⇑s:=Qf lS
 have nI:H.objs.size≠⇑s:=by rw[z1];exact Nat.succ_ne_self _
 have nSI:S≠H.objs.size:=by rw[z1];exact Qf (QH lS)
 have e0:jK (w.params.followText "set-order") a b c 0=0:=by unfold jK;split<;>rfl
 have W:=Gf (prog:=prog) (w:=w) (A:=A.in1) (a:=a) (b:=b) (c:=c) (ep:=ep) (by simp[hh]) H.objs.size nSI
 refine Sw {UI VU _,W2 W.toS (P2 (jg a b c) ∅) _ ?_ _ (cy a b c).size 0 _ _ _ rfl (PZ _) {?_,Θ _ _ nS ž} g3 (ItemsOf.nil _) λs' ś c' mv hL ď=>?_}
 ·simp only[Py,P7,or_false,not_or];exact⟨nI.symm,nS.symm⟩
 ·rw[e0];exact Θ _ _ nI hI
 show wpAny _ A (load ⇑s>>=_) _ _ s'
 refine E9 (Xy hL (Sw ?_))
 have old:∀b o,s.heap.get? b=Zq o->s'.heap.get? b=Zq o:=λb o e=>by
  have lt:=SI e;refine mv.heap b o (λm=>?_) (Θ b o (Qf lt) (by rw[<-hH2,<-hH];exact Sx _ (Sx _ e)));simp only[Py,P7,or_false]at m;rcases m with m|m
  ·exact absurd lt (by rw[m];exact QO _)
  rw[m,z1]at lt;exact absurd lt (Sk.mpr (Q7 _))
 refine q s' ś mv.gens mv.drawn mv.os old ?_ ?_
 ·exact Rp (SI hL)
 refine RG λi=>?_
 rw[P5,Qz,Qz]
 cases e:ś[i]? with
 |some v=>exact(ď.2 i v e).symm
 |none=>
  have:=Array.getElem?_eq_none_iff.mp e
  rw[Wy (by rw[pH,<-ď.1];exact this)]
  rfl
theorem Ee(hh:A.handled=Zr)(ho:s.heap.get? S=Zq (ē a b c ep (!w.params.followText "set-order")))(hn:V1 ((Ŭ (w.params.followText "set-order") (w.params.setOrder S ep) a b c).toList.map (·.2)) ns)
  (q:∀h' tk L e out ns',(∀b o,s.heap.get? b=Zq o->h'.get? b=Zq o)->⇑s<=L->h'.get? L=Zq (Ut "list" out e)->V1 out.toList ns'->ns'.Perm ns->ns'.Pairwise (· <= ·)->Q (.ref L) { s with heap:=h',toks:=tk }) :
  wpAny (SK prog w) A (call (.builtin "sorted") [.ref S]) Q E s:=by
 refine VW kind_sorted plain_sorted entry_sorted (args_sorted1 _) ?_
 unfold UK.«sorted»
 refine E9 (m:=checkCount "sorted" 1 1 _) (Sw ?_)
 refine E9 (Ah (by simp[hh]) ho λs1 acc g1 g2 g3 old sz ď=>?_)
 obtain⟨h1,gn,dr,tk,os⟩:=s1
 obtain rfl:gn=s.gens:=g1
 obtain rfl:dr=s.drawn:=g2
 obtain rfl:os=s.os:=g3
 rw[ď]
 have l4:((Ŭ (w.params.followText "set-order") (w.params.setOrder S ep) a b c).toList.map (·.2)).length<64:=by
  have h3:=jg a b c;rw[Pr,Qn,pH];lia
 generalize (Ŭ (w.params.followText "set-order") (w.params.setOrder S ep) a b c).toList.map (·.2)=vs at hn l4
 refine E9 (Xr ?_)
 have hL:(h1.push (Ut "list" vs.toArray 0)).get? h1.objs.size=Zq (Ut "list" vs.toArray 0):=SJ _ rfl
 refine E9 (wpAny_holding (TN Y4 {_,hL,rfl} YD (list_sort_tree hL hn l4 λout ns' a1 a2 a3=>{_,rfl,?_}) (Y5 _)))
 have lt:h1.objs.size<(h1.push (Ut "list" vs.toArray 0)).objs.size:=SI hL
 obtain⟨e,he⟩:=sortedHeap_at (out:=out) hL
 refine Sw {_,rfl,q (sortedHeap (h1.push (Ut "list" vs.toArray 0)) h1.objs.size vs out) tk h1.objs.size e out ns' (λb o hb=>?_) sz he a1 a2 a3}
 have hb1:=old b o hb
 have lb:=SI hb1
 exact(sortedHeap_old (Qf lb) (Sr lb lt)).trans (Sx _ hb1)
end
theorem Paired.OF{α β:Type}{F}{x:α}{y:β}(h:F x y){a:List α}{b:List β}(r:Paired F a b):Paired F (a++[x]) (b++[y]):=r.snoc h
theorem ft{α:Type}{K a xs own fr g tf te Q B H1}(src:List α) (p) (R:α->V->Hp->Prop) (hx:À K H1 a xs) (hl:↥xs=↥src) (hn:↥xs<sizeLine)
  (he:∀(b:CB)(i:Nat)(x:V)(e:α)(v0:St)(H:Hp)(N:St->Hp->Prop)(Y:St->V->Hp->Prop),xs[i]?=Zq x->src[i]?=Zq e->↥v0=own->aj H1 H->
   (p e=false->∀v1 H',↥v1=own->aj H H'->N (v1++Ĭ fr B) H')->(p e=true->∀v1 y H',↥v1=own->aj H H'->R e y H'->Y (v1++Ĭ fr B) y H')->
   g b x (v0++Ĭ fr B) H λσ3 H3=>tf b σ3 H3 λk H4=>if k=true then te b σ3 H4 λy H5=>Y σ3 y H5 else N σ3 H4)
  (mono:∀e y H H',aj H H'->R e y H->R e y H') (st:∀e y H D ys zs,H D=Zq (.lst ys)->R e y H->R e y (upd H D (.lst zs)))
  (fin:∀D H ys,H1 D=Zr->aj H1 H->H D=Zq (.lst ys)->Paired (λe y=>R e y H) (src.filter p) ys->Q (.ref D) H):qI (Itl K a) own fr g tf te Q B H1:=by
 refine⟨λb D hD=>?_⟩
 refine{λi m B' H'=>m=↥xs-i/\i<=↥xs/\(∃v0,B'=v0++Ĭ fr B/\↥v0=own)/\aj H1 H'/\∃ys,H' D=Zq (.lst ys)/\↥ys<=i/\Paired (λe y=>R e y H') ((src.take i).filter p) ys,{↥xs,rfl,PZ _,⟨SV own Zr,rfl,Q9 ..⟩,aj.upd hD _,[],ao,Px _,.nil},?_}
 rintro i m B' H' ⟨rfl,hi,⟨v0,rfl,hv⟩,sm,ys,hL,hy,hR⟩
 by_cases Ý:i<↥xs
 ·have hs:i<↥src:=()
  refine .inr {{xs,xs[i],sm.seq hx,PB Ý},λσ2 H2=>(∃v0,σ2=v0++Ĭ fr B/\↥v0=own)/\aj H1 H2/\∃ys,H2 D=Zq (.lst ys)/\↥ys<=i+1/\Paired (λe y=>R e y H2) ((src.take (i+1)).filter p) ys,λσ2 H2 q=>{↥xs-(i+1),(),rfl,Ý,q},λv H2 y=>?_};obtain⟨rfl,y2⟩:=y;have e:=y2 xs (sm.seq hx);have tk:src.take (i+1)=src.take i++[src[i]]:=by rw[Qv,PB hs];rfl
  refine he b i v src[i] v0 _ _ _ e (PB hs) hv sm (λpf v1 H3 h1 s3=>?_) (λpt v1 y H3 h1 s3 r3=>?_)
  ·refine{⟨v1,rfl,h1⟩,sm.trans s3,ys,s3 _ _ hL,(),?_};rw[tk,QG,Wg (by rw[pf];exact PU),Rh,Qd];exact Paired.vo hR λe y z=>mono _ _ _ _ s3 z
  have hD4:=s3 _ _ hL;refine{ys,hD4,(),⟨v1,rfl,h1⟩,?_,ys++[y],ao,by simp;lia,?_}
  ·intro c o q;by_cases hc:c=D
   ·rw[hc,hD]at q;cases q
   rw[aP hc];exact(sm.trans s3) c o q
  rw[tk,QG,Wh pt,Rh];exact Paired.OF (F:=λe y'=>R e y' (upd H3 D (.lst (ys++[y])))) (st _ _ _ _ _ _ hD4 r3) (Paired.vo hR λe y z=>st _ _ _ _ _ _ hD4 (mono _ _ _ _ s3 z))
 have e:i=↥xs:=()
 subst e
 rw[hl,Qq]at hR
 exact .inl {{xs,sm.seq hx,Px _},fin D H' ys hD sm hL hR}
theorem E7{K a xs own fr g tf te Q B H1}(Pv:Sv->Nat->List V->Hp->Prop)(hx:À K H1 a xs)(hn:↥xs<sizeLine)(h0:∀D,H1 D=Zr->Pv D 0 [] (upd H1 D (.lst [])))
  (he:∀(b:CB)(D:Sv)(i:Nat)(x:V)(v0:St)(H:Hp)(ys:List V)(N:St->Hp->Prop)(Y:St->V->Hp->Prop),xs[i]?=Zq x->↥v0=own->H1 D=Zr->aj H1 H->H D=Zq (.lst ys)->Pv D i ys H->
   (∀v1 H',↥v1=own->aj H H'->Pv D (i+1) ys H'->N (v1++Ĭ fr B) H')->(∀v1 y H',↥v1=own->aj H H'->Pv D (i+1) (ys++[y]) (upd H' D (.lst (ys++[y])))->Y (v1++Ĭ fr B) y H')->
   g b x (v0++Ĭ fr B) H λσ3 H3=>tf b σ3 H3 λk H4=>if k=true then te b σ3 H4 λy H5=>Y σ3 y H5 else N σ3 H4)
  (fin:∀D H ys,H1 D=Zr->aj H1 H->H D=Zq (.lst ys)->Pv D ↥xs ys H->Q (.ref D) H):qI (Itl K a) own fr g tf te Q B H1:=by
 refine⟨λb D hD=>?_⟩
 refine{λi m B' H'=>m=↥xs-i/\i<=↥xs/\(∃v0,B'=v0++Ĭ fr B/\↥v0=own)/\aj H1 H'/\∃ys,H' D=Zq (.lst ys)/\↥ys<=i/\Pv D i ys H',{↥xs,rfl,PZ _,⟨SV own Zr,rfl,Q9 ..⟩,aj.upd hD _,[],ao,Px _,h0 D hD},?_}
 rintro i m B' H' ⟨rfl,hi,⟨v0,rfl,hv⟩,sm,ys,hL,hy,hR⟩
 by_cases Ý:i<↥xs
 ·refine .inr {{xs,xs[i],sm.seq hx,PB Ý},λσ2 H2=>(∃v0,σ2=v0++Ĭ fr B/\↥v0=own)/\aj H1 H2/\∃ys,H2 D=Zq (.lst ys)/\↥ys<=i+1/\Pv D (i+1) ys H2,λσ2 H2 q=>{↥xs-(i+1),(),rfl,Ý,q},λv H2 y=>?_};obtain⟨rfl,y2⟩:=y;have e:=y2 xs (sm.seq hx);refine he b D i v v0 _ ys _ _ e hv hD sm hL hR (λv1 H3 h1 s3 p3=>?_) (λv1 y H3 h1 s3 p3=>?_)
  ·exact{⟨v1,rfl,h1⟩,sm.trans s3,ys,s3 _ _ hL,(),p3}
  refine{ys,s3 _ _ hL,(),⟨v1,rfl,h1⟩,?_,ys++[y],ao,by simp;lia,p3};intro c o q;by_cases hc:c=D
  ·rw[hc,hD]at q;cases q
  rw[aP hc];exact(sm.trans s3) c o q
 have e:i=↥xs:=()
 subst e
 exact .inl {{xs,sm.seq hx,Px _},fin D H' ys hD sm hL hR}
def Ź(ns:List Int):List Int:=[0,1,2].filter λr=>decide (r∈ns)
theorem oe:∀{l:List (Int×Su)},(∀e∈l,∃t,e.2=Uu e.1 t)->V1 (l.map (·.2)) (l.map (·.1))
 | [],_=>.nil
 | (n,v)::l,h=>by
  obtain⟨t,e⟩:=h (n,v) PH;have e:v=.int n t:=e;subst e;exact .cons _ _ (oe λe he=>h e (PC _ he))
theorem Ko (a b c):(∀e∈(cy a b c).toList,∃t,e.2=Uu e.1 t):=by
 intro e he;cases a<;>cases b<;>cases c<;>simp[cy]at he<;>rcases he with rfl|rfl|rfl<;>exact{_,rfl}
theorem Jo(ns:List Int)(r:Int):((SS ↥ns).any λj=>decide (ns.getD j 0=r))=decide (r∈ns):=by
 rw[Q8,Ru,decide_eq_true_iff];constructor
 ·rintro⟨j,hj,e⟩;have hj:=Sh.mp hj;have e:=of_decide_eq_true e;rw[Ql,PB hj]at e;exact e▸Rv hj
 intro m;obtain⟨j,hj,e⟩:=Xi m;refine{j,Sh.mpr hj,decide_eq_true ?_};rw[Ql,PB hj];exact e
theorem NG(h:F5 (λi=>ns.getD i 0) ↥ns a b c):(cy a b c).toList.map (·.1)=Ź ns:=by
 obtain⟨h0,h1,h2⟩:=h;rw[Jo]at h0 h1 h2;unfold Ź;simp only[Q6,Rh,<-h0,<-h1,<-h2];cases a<;>cases b<;>cases c<;>rfl
theorem AA (ns):(Ź ns).Pairwise (· <= ·):=List.Pairwise.filter _ ∅
theorem Jv{a b:List Int}(p:a.Perm b)(h:a.Pairwise (· <= ·))(h':b.Pairwise (· <= ·)):a=b:=p.eq_of_pairwise (λ_ _ _ _ x y=>Int.le_antisymm x y) h h'
theorem vq:∀{ns:List Int}{us:List Su},Zt (ns.map V.int) us->V1 us ns
 | [],_,h=>by cases h;exact .nil
 |n::ns,_,h=>by
  cases h with
  |cons h r=>
   obtain⟨t,rfl⟩:=h;exact .cons _ _ (vq r)
section
variable{X:Cx}
def Ax(K:SE)(t:TA):TE:=λB H Q=>t B H λxs H1=>∃(p:Sv)(ns:List Int),xs=[.ref p]/\À K H1 p (ns.map V.int)/\(∀n∈ns,n=0\/n=1\/n=2)/\∀l,H1 l=Zr->Q (.ref l) (upd H1 l (.lst ((Ź ns).map V.int)))
theorem xh(hm:X.mg "sorted"=Zr)(ŗ:X.mg "set"=Zr)(ha:PA X [e] t)(hc:X.calm=true:=by rfl)(hg:Gl X "sorted":=by rfl)(hg':Gl X "set":=by rfl)
  (he:SG [.Call (.Name "set" p') [e] [] pos'] X.env=(false,Ts (.Call (.Name "set" p') [e] [] pos') X.env)::SG [] X.env:=by rfl) (ÿ:(TB pos (SG [] X.env)).any (·.1)=false:=by rfl)
  (he':SG [e] X.env=(false,Ts e X.env)::SG [] X.env:=by rfl) (hpl':(TB pos' (SG [] X.env)).any (·.1)=false:=by rfl):PE X (.Call (.Name "sorted" p) [.Call (.Name "set" p') [e] [] pos'] [] pos) (Ax X.K t):=by
 intro pins s B H Q I h
 refine Tu (jO I hg hm (by boot_by_name) ?_)
 refine Vq ?_ he ÿ
 rw[he]
 show wpAny _ _ (Zl ((false,Ts (.Call (.Name "set" p') [e] [] pos') X.env)::TB pos (SG [] X.env))) _ _ s
 refine Uk ?_
 refine Tu (jO I hg' ŗ (by boot_by_name) ?_)
 refine TR (Ì (ha pos' pins s B H _ I h) λus s1 ⟨vs,H1,I1,r1,q1⟩=>?_) he' hpl'
 obtain⟨l,ns,rfl,hl,h3,q⟩:=q1
 obtain⟨u,rfl,rx⟩:=ZG r1
 cases rx
 obtain⟨Â,rv,pl,hz⟩:=I1.list hl
 have el:=↥rv
 rw[Pr]at el
 have hA:=I.ok.hd hc
 have iv:=vq rv
 refine zQ (val:=λi=>ns.getD i 0) hA pl.isList (λi v hi=>?_) (λi v hi=>?_) λh' tk x y z ep hS rk old=>?_
 ·rw[WL]at hi;obtain⟨n,t,e,en⟩:=iv.at i v hi;refine{t,?_};rw[e];show _=Uu (ns.getD i 0) t;rw[Ql,en];rfl
 ·rw[WL]at hi;obtain⟨n,t,e,en⟩:=iv.at i v hi;have:=h3 n (P4 en);rw[Ql,en];exact this
 have I2:Inv X pins B H1 { s1 with heap:=h',toks:=tk }:=I1.kept λb o e=>old b o (SI e) e
 show wpAny _ _ (Zl (TB pos (SG [] X.env))) _ _ _
 refine UL ?_
 have sz:Â.toArray.size=↥ns:=by simp[el]
 rw[sz]at rk
 have hn:=oe (l:=(Ŭ (X.w.params.followText "set-order") (X.w.params.setOrder ⇑s1 ep) x y z).toList) (λe he=>Ko x y z e ((List.Perm.mem_iff (sO _ _)).mp he))
 refine Ee hA hS hn λh2 Ϩ L e2 out ns' old2 sL hL ia pm pw=>?_
 have en:ns'=Ź ns:=by
  refine Jv ?_ pw (AA ns);rw[<-NG rk];exact pm.trans (List.Perm.map _ (sO _ _))
 subst en
 have hf:H1 L=Zr:=I2.È.fresh sL
 refine{.ref L,upd H1 L (.lst ((Ź ns).map V.int)),I2.laid (t':=Ϩ) old2 sL ?_,rfl,q L hf}
 have l3:(Ź ns).length<=3:=QD _ _
 exact{by rw[Pr];exact P2 l3 ∅,out.toList,e2,vQ ia,by rw[RT];exact hL}
end
section
variable{prog:Program}{w:SM}{A:Td}{E:Su->Sy->Prop}{s:Sy}
end
section
variable{X:Cx}{pins:List (Sv×Obj)}{B:St}{H:Hp}{s:Sy}
end
end L2
set_option maxRecDepth 100001
namespace L2
open PySem PyProof.Rows
def gal:Bool->Ti->Array Ti->Nat->Nat->Nat->StateT SX Sem (Option Nat):=sortPriv%PySem.Builtin.gallop
def ņ(prog:Program)(w:SM)(A:Td)(s:Sy)(κ:KeyKind)(ä:Vj):Prop:=∀(E:Su->Sy->Prop)(x y:Su)(a b:κ.α){Q:Bool->Sy->Prop},κ.keyOf x=Zq a->κ.keyOf y=Zq b->Q (κ.blt a b) s->wpAny (SK prog w) A (keyLt' ä x y) Q E s
def Ky(κ:KeyKind)(x:Ti):Prop:=∃a,κ.keyOf x.1=Zq a
section
variable{prog:Program}{w:SM}{A:Td}{E:Su->Sy->Prop}{s:Sy}{κ:KeyKind}{ä:Vj}
theorem ur(hO:ņ prog w A s κ ä){st x y}{Q:Option Bool->SX->Prop}(hk:kindOf st=ä)(ha:Ky κ x)(hb:Ky κ y)(h:∀b,Q (Zq b) st):wpS (SK prog w) A E s (lt' x y) Q st:=by
 obtain⟨a,ha⟩:=ha
 obtain⟨b,hb⟩:=hb
 rw[lt'_eq]
 refine SD (Vu ?_)
 rw[hk]
 exact SD (Wi (Xq (hO _ x.1 y.1 a b ha hb {rfl,SF (h _)})))
theorem bu{st xs i x Q}(e:xs[i]?=Zq x)(h:Q x st):wpS (SK prog w) A E s (W3 xs i) Q st:=by
 rw[elem'_eq,e]
 exact SF h
theorem gY{xs}(hk:KeysOf κ xs){i}(h:i<xs.size):∃x,xs[i]?=Zq x/\Ky κ x/\xs.toList.drop i=x::xs.toList.drop (i+1):=by
 refine{xs[i],getElem?_pos _ i h,hk _ (by simp),?_}
 rw[QY (by rw[Qn];exact h)]
 simp
inductive GI(n:Nat)(st:SX):Option (Option Nat)×Nat×Nat->SX->Prop
 |mk{l o:Nat}(h1:l<=n)(h2:o<=n):GI n st (Zr,l,o) st
inductive GJ(n hint:Nat)(st:SX):Option (Option Nat)×Nat×Nat->SX->Prop
 |mk{l o:Nat}(h1:l<o)(h2:hint+l<n):GJ n hint st (Zr,l,o) st
inductive GH(hint:Nat)(st:SX):Option (Option Nat)×Nat×Nat->SX->Prop
 |mk{l o:Nat}(h1:l<o)(h2:l<=hint):GH hint st (Zr,l,o) st
theorem nF(hO:ņ prog w A s κ ä){st left key xs base n hint}{Q:Option Nat->SX->Prop}(hk:kindOf st=ä)(hx:∀i,i<n->∃x,xs[base+i]?=Zq x/\Ky κ x)(ha:Ky κ key)(hh:hint<n)(h:∀r,r<=n->Q (Zq r) st):wpS (SK prog w) A E s (gal left key xs base n hint) Q st:=by
 have bd:∀(i:Nat){R:Option Bool->SX->Prop},i<n->(∀b,R (Zq b) st)->wpS (SK prog w) A E s (do let x<-W3 xs (base+i);if left=true then lt' x key else do let r<-lt' key x;pure (r.map (!·))) R st:=by
  intro i R hi hR
  obtain⟨x,e,hxa⟩:=hx i hi
  refine SD (bu e ?_)
  cases left with
  |true=>exact ur hO hk hxa ha hR
  |false=>exact SD (ur hO hk ha hxa λb=>SF (hR _))
 have bin:∀(f:Nat->Option (Option Nat)×Nat×Nat->StateT SX Sem (ForInStep (Option (Option Nat)×Nat×Nat))),(∀(x l o:Nat)(R:ForInStep (Option (Option Nat)×Nat×Nat)->SX->Prop),o<=n->(l ≥ o->R (.done (Zr,l,o)) st)->(l<o->R (.yield (Zr,l+(o-l)/2+1,o)) st)->(l<o->R (.yield (Zr,l,l+(o-l)/2)) st)->wpS (SK prog w) A E s (f x (Zr,l,o)) R st)->
   ∀lo hi,lo<=n->hi<=n->wpS (SK prog w) A E s (forIn [:n] (Zr,lo,hi) f) (GI n st) st:=by
  intro f hf lo hi h1 h2
  refine Tq (λ_=>GI n st) (λx c Å _ _ q=>?_) (λc Å q=>q) (.mk h1 h2)
  obtain @⟨l,o,h1,h2⟩:=q
  exact hf x l o _ h2 (λ_=>.mk h1 h2) (λg=>.mk () h2) λg=>.mk h1 ()
 refine SD (bd hint hh λb=>?_)
 dsimp only
 cases b with
 |true=>
  rw[if_pos rfl]
  refine SD (Ua (Tq (λ_=>GJ n hint st) (Q:=GJ n hint st) (λx c Å _ _ q=>?_) (λc Å q=>q) (.mk () ())) λc Å q=>?_)
  ·obtain @⟨l,o,h1,h2⟩:=q
   dsimp only
   by_cases g:o ≥ n-hint
   ·rw[if_pos g]
    exact SF (.mk h1 h2)
   ·rw[if_neg g]
    refine SD (bd (hint+o) () λb=>?_)
    cases b with
    |false=>exact SF (.mk h1 h2)
    |true=>exact SF (.mk () ())
  ·obtain @⟨l,o,h1,h2⟩:=q
   dsimp only
   refine SD (Ua (bin _ (by
    intro x l o R h0 h1 h2 h3
    dsimp only
    by_cases g:l ≥ o
    ·rw[if_pos g]
     exact SF (h1 g)
    ·rw[if_neg g]
     refine SD (bd (l+(o-l)/2) () λb=>?_)
     cases b with
     |true=>exact SF (h2 ())
     |false=>exact SF (h3 ())) (hint+l+1) (hint+min o (n-hint)) () ()) λc st'' q=>?_)
   obtain @⟨l,o,h1,h2⟩:=q
   first|exact SF (h l h1)|exact SF (h o h2)
 |false=>
  rw[if_neg PU]
  refine SD (Ua (Tq (λ_=>GH hint st) (Q:=GH hint st) (λx c Å _ _ q=>?_) (λc Å q=>q) (.mk () ())) λc Å q=>?_)
  ·obtain @⟨l,o,h1,h2⟩:=q
   dsimp only
   by_cases g:o ≥ hint+1
   ·rw[if_pos g]
    exact SF (.mk h1 h2)
   ·rw[if_neg g]
    refine SD (bd (hint-o) () λb=>?_)
    cases b with
    |true=>exact SF (.mk h1 h2)
    |false=>exact SF (.mk () ())
  ·obtain @⟨l,o,h1,h2⟩:=q
   dsimp only
   refine SD (Ua (bin _ (by
    intro x l o R h0 h1 h2 h3
    dsimp only
    by_cases g:l ≥ o
    ·rw[if_pos g]
     exact SF (h1 g)
    ·rw[if_neg g]
     refine SD (bd (l+(o-l)/2) () λb=>?_)
     cases b with
     |true=>exact SF (h2 ())
     |false=>exact SF (h3 ())) (hint+1-min o (hint+1)) (hint-l) () ()) λc st'' q=>?_)
   obtain @⟨l,o,h1,h2⟩:=q
   first|exact SF (h l h1)|exact SF (h o h2)
end
end L2
namespace L2
open PySem PyProof.Rows
abbrev Γ(st:SX)(g:Nat):SX:=XS (kindOf st) (S8 st) (Tn st) g (U4 st)
theorem lM(xs:Array Ti)(i j:Nat):(xs.extract i j).toList=(xs.toList.drop i).take (j-i):=by
 rw[Array.toList_extract]
theorem JK(xs:Array Ti)(i:Nat):(xs.extract i xs.size).toList=xs.toList.drop i:=by
 rw[lM]
 exact Qx (by rw[QW,Qn];exact Px _)
theorem JN(xs:Array Ti)(i:Nat):(xs.extract 0 i).toList=xs.toList.take i:=by
 rw[lM,List.drop_zero,Nat.sub_zero]
theorem pI{l:List Ti}{t i:Nat}(h:t<=i):l.drop t=(l.drop t).take (i-t)++l.drop i:=by
 have:=Qm (i-t) (l.drop t)
 rw[List.drop_drop,show t+(i-t)=i by lia]at this
 exact this.symm
abbrev Gd(a b r:Array Ti):Prop:=r.toList.Perm (a.toList++b.toList)
theorem pm4{a b c d:List Ti}:(a++b++(c++d)).Perm (a++c++(b++d)):=by
 rw[P6,P6]
 refine TH _ ?_
 rw[<-P6,<-P6]
 exact UE _ QL
abbrev Mg(a b o:Array Ti)(i j:Nat):Prop:=o.toList.Perm (a.toList.take i++b.toList.take j)
theorem Mg.chA{a b o i j}(h:Mg a b o i j)(k:Nat):Mg a b (o++a.extract i (i+k)) (i+k) j:=by
 show(o++a.extract i (i+k)).toList.Perm _
 rw[Qj,lM,Rg,List.take_add]
 refine(h.append_right _).trans ?_
 rw[P6,P6]
 exact TH _ QL
theorem Mg.chB{a b o i j}(h:Mg a b o i j)(k:Nat):Mg a b (o++b.extract j (j+k)) i (j+k):=by
 show(o++b.extract j (j+k)).toList.Perm _
 rw[Qj,lM,Rg,List.take_add,<-P6]
 exact h.append_right _
theorem Mg.pA{a b o i j x}(h:Mg a b o i j)(e:a.toList.drop i=x::a.toList.drop (i+1)):Mg a b (o.push x) (i+1) j:=by
 have:=h.chA 1
 unfold Mg at this⊢
 rw[Qj,lM,Rg,e]at this
 rw[Rm]
 exact this
theorem Mg.pB{a b o j i x}(h:Mg a b o i j)(e:b.toList.drop j=x::b.toList.drop (j+1)):Mg a b (o.push x) i (j+1):=by
 have:=h.chB 1
 unfold Mg at this⊢
 rw[Qj,lM,Rg,e]at this
 rw[Rm]
 exact this
theorem Mg.d1{a b o i j}(h:Mg a b o i j):Gd a b (o++a.extract i++b.extract j):=by
 unfold Gd
 rw[Qj,Qj,JK,JK,P6]
 refine(h.append_right _).trans (pm4.trans ?_)
 rw[Qm,Qm]
theorem Mg.d2{a b o i j}(h:Mg a b o i j):Gd a b (o++b.extract j++a.extract i):=by
 have:=h.d1
 unfold Gd at this⊢
 rw[Qj,Qj,P6]at this⊢
 exact(TH _ QL).trans this
abbrev Mh(a b o:Array Ti)(i j:Nat):Prop:=o.reverse.toList.Perm (a.toList.drop i++b.toList.drop j)
theorem Mh.chA{a b o i j}(h:Mh a b o i j)(t:Nat)(ht:t<=i):Mh a b (o++(a.extract t i).reverse) t j:=by
 show(o++(a.extract t i).reverse).reverse.toList.Perm _
 rw[W5,WM,Qj,lM]
 refine(TH _ h).trans ?_
 rw[<-P6,<-pI ht]
theorem Mh.chB{a b o i j}(h:Mh a b o i j)(t:Nat)(ht:t<=j):Mh a b (o++(b.extract t j).reverse) i t:=by
 show(o++(b.extract t j).reverse).reverse.toList.Perm _
 rw[W5,WM,Qj,lM]
 have e:=pI (l:=b.toList) ht
 refine(TH _ h).trans ?_
 rw[<-P6]
 refine(UE _ QL).trans ?_
 rw[P6,<-e]
theorem Ge{xs:Array Ti}{i:Nat}{x:Ti}(hi:1<=i)(e:xs[i-1]?=Zq x):xs.toList.drop (i-1)=x::xs.toList.drop i:=by
 obtain⟨l,e⟩:=Array.getElem?_eq_some_iff.mp e
 rw[QY (by rw[Qn];exact l),show i-1+1=i by lia]
 simp[e]
theorem Mh.pA{a b o i j x}(h:Mh a b o i j)(hi:1<=i)(e:a[i-1]?=Zq x):Mh a b (o.push x) (i-1) j:=by
 show(o.push x).reverse.toList.Perm _
 rw[Ge hi e,XT,Qj]
 exact Y6 _ h
theorem Mh.pB{a b o i j x}(h:Mh a b o i j)(hj:1<=j)(e:b[j-1]?=Zq x):Mh a b (o.push x) i (j-1):=by
 show(o.push x).reverse.toList.Perm _
 rw[Ge hj e,XT,Qj]
 exact(Y6 x h).trans List.perm_middle.symm
theorem Mh.d1{a b o i j}(h:Mh a b o i j):Gd a b (a.extract 0 i++b.extract 0 j++o.reverse):=by
 unfold Gd
 rw[Qj,Qj,JN,JN]
 refine(TH _ h).trans (pm4.trans ?_)
 rw[Qm,Qm]
theorem Mh.d2{a b o i j}(h:Mh a b o i j):Gd a b (b.extract 0 j++a.extract 0 i++o.reverse):=by
 have:=h.d1
 unfold Gd at this⊢
 rw[Qj,Qj]at this⊢
 exact(UE _ QL).trans this
end L2
namespace L2
open PySem PyProof.Rows
def mlo:Array Ti->Array Ti->StateT SX Sem (Array Ti):=sortPriv%PySem.Builtin.mergeLo
abbrev MSt:=Option (Array Ti)×Array Ti×Nat×Nat×Nat×Nat×Nat
def lo2(a b o:Array Ti)(i j mg k k2:Nat):StateT SX Sem (ForInStep MSt):=do
 let d<-W3 a i
 if(i+1+1==a.size)=true then pure (.done (Zq (o.push d++b.extract j++a.extract (i+1)),o.push d,i+1,j,mg,k,k2))
 else if(decide (k<7)&&decide (k2<7))=true then pure (.done (Zr,o.push d,i+1,j,mg,k,k2))
 else pure (.yield (Zr,o.push d,i+1,j,mg,k,k2))
def lo1(a b o:Array Ti)(i j mg k bc:Nat):StateT SX Sem (ForInStep MSt):=do
 let y<-W3 b j
 if(j+1==b.size)=true then pure (.done (Zq (o.push y++a.extract i++b.extract (j+1)),o.push y,i,j+1,mg,k,bc))
 else do
  let x<-W3 a i
  let r<-gal true x b (j+1) (b.size-(j+1)) 0
  match r with
  |some k2=>
   if k2>0 then
    if(j+1+k2==b.size)=true then pure (.done (Zq (o.push y++b.extract (j+1) (j+1+k2)++a.extract i++b.extract (j+1+k2)),o.push y++b.extract (j+1) (j+1+k2),i,j+1+k2,mg,k,k2))
    else lo2 a b (o.push y++b.extract (j+1) (j+1+k2)) i (j+1+k2) mg k k2
   else lo2 a b (o.push y) i (j+1) mg k k2
  |_=>pure (.done (Zq (o.push y++a.extract i++b.extract (j+1)),o.push y,i,j+1,mg,k,bc))
def lo0(a b o:Array Ti)(i j mg ac bc:Nat):StateT SX Sem (ForInStep MSt):=do
 let y<-W3 b j
 let r<-gal false y a i (a.size-i) 0
 match r with
 |some k=>
  if k>0 then
   if(i+k+1==a.size)=true then pure (.done (Zq (o++a.extract i (i+k)++b.extract j++a.extract (i+k)),o++a.extract i (i+k),i+k,j,mg,k,bc))
   else if(i+k==a.size)=true then pure (.done (Zq (o++a.extract i (i+k)++a.extract (i+k)++b.extract j),o++a.extract i (i+k),i+k,j,mg,k,bc))
   else lo1 a b (o++a.extract i (i+k)) (i+k) j mg k bc
  else lo1 a b o i j mg k bc
 |_=>pure (.done (Zq (o++a.extract i++b.extract j),o,i,j,mg,ac,bc))
section
variable(a b:Array Ti)(st:SX)
structure LI(o:Array Ti)(i j n:Nat):Prop where
 M:Mg a b o i j
 hi:i+1<a.size
 hj:j<b.size
 hx:n<=i+j
inductive LA(x:Nat):Option (Array Ti)×Array Ti×Nat×Nat×Nat->SX->Prop
 |mk{i j:Nat}(g:Nat)(h:LI a b o i j (x+1)):LA x (Zr,o,i,j,mg) (Γ st g)
inductive LB(g n:Nat):Option (Array Ti)×Array Ti×Nat×Nat×Nat×Nat->SX->Prop
 |mk{i j:Nat}(h:LI a b o i j n):LB g n (Zr,o,i,j,k,l) (Γ st g)
inductive LC(n:Nat):MSt->SX->Prop
 |mk{i j mg:Nat}(g:Nat)(h:LI a b o i j n):LC n (Zr,o,i,j,mg,k,l) (Γ st g)
inductive HD{β:Type}(I:Option (Array Ti)×β->SX->Prop):Option (Array Ti)×β->SX->Prop
 |dn (g:Nat) (h:Gd a b r):HD I (Zq r,c) (Γ st g)
 |go (h:I c s):HD I c s
inductive LR(n:Nat)(st:SX)(Q:ForInStep MSt->SX->Prop):Prop
 |mk(q1:∀r c,Gd a b r->Q (.done (Zq r,c)) st)(q2:∀o i j mg k l,LI a b o i j n->Q (.done (Zr,o,i,j,mg,k,l)) st/\Q (.yield (Zr,o,i,j,mg,k,l)) st):LR n st Q
end
section
variable{prog:Program}{w:SM}{A:Td}{E:Su->Sy->Prop}{s:Sy}{κ:KeyKind}{ä:Vj}{st:SX}{a b o:Array Ti}{i j mg k bc n:Nat}
theorem JR{Q:ForInStep MSt->SX->Prop}(ka:KeysOf κ a)(M:Mg a b o i j)(hi:i+1<a.size)(hj:j<b.size)(hx:n<=i+1+j)(q:LR a b n st Q):wpS (SK prog w) A E s (lo2 a b o i j mg k k2) Q st:=by
 obtain⟨x,e,kx,dx⟩:=gY ka (show i<a.size by lia)
 have M4:=M.pA dx
 unfold lo2
 refine SD (bu e ?_)
 by_cases c:(i+1+1==a.size)=true
 ·rw[if_pos c]
  exact SF (q.1 _ _ M4.d2)
 rw[if_neg c]
 have c:¬ i+1+1=a.size:=by simpa using c
 have z:=q.2 _ _ _ mg k k2 {M4,(),hj,hx}
 split
 ·exact SF z.1
 ·exact SF z.2
theorem J4(hO:ņ prog w A s κ ä){Q:ForInStep MSt->SX->Prop}(hk:kindOf st=ä)(ka:KeysOf κ a)(kb:KeysOf κ b)(M:Mg a b o i j)(hi:i+1<a.size)(hj:j<b.size)(hx:n<=i+j+2)(q:LR a b n st Q):wpS (SK prog w) A E s (lo1 a b o i j mg k bc) Q st:=by
 obtain⟨y,ey,ky,dy⟩:=gY kb hj
 obtain⟨x,ex,kx,_⟩:=gY ka (show i<a.size by lia)
 have M2:=M.pB dy
 unfold lo1
 refine SD (bu ey ?_)
 by_cases c:(j+1==b.size)=true
 ·rw[if_pos c]
  exact SF (q.1 _ _ M2.d1)
 rw[if_neg c]
 have c:¬ j+1=b.size:=by simpa using c
 refine SD (bu ex (SD (nF hO hk (λm hm=>?_) kx () λk2 h2=>?_)))
 ·obtain⟨x,e,kx,_⟩:=gY kb (show j+1+m<b.size by lia)
  exact⟨x,e,kx⟩
 dsimp only
 split
 ·have M3:=M2.chB k2
  by_cases c:(j+1+k2==b.size)=true
  ·rw[if_pos c]
   exact SF (q.1 _ _ M3.d1)
  rw[if_neg c]
  have c:¬ j+1+k2=b.size:=by simpa using c
  exact JR ka M3 hi () () q
 ·exact JR ka M2 hi () () q
theorem NR(hO:ņ prog w A s κ ä){Q:ForInStep MSt->SX->Prop}(hk:kindOf st=ä)(ka:KeysOf κ a)(kb:KeysOf κ b)(L:LI a b o i j n)(q:LR a b n st Q):wpS (SK prog w) A E s (lo0 a b o i j mg ac bc) Q st:=by
 obtain⟨M,hi,hj,hx⟩:=L
 obtain⟨y,ey,ky,dy⟩:=gY kb hj
 unfold lo0
 refine SD (bu ey (SD (nF hO hk (λm hm=>?_) ky () λk h2=>?_)))
 ·obtain⟨x,e,kx,_⟩:=gY ka (show i+m<a.size by lia)
  exact⟨x,e,kx⟩
 dsimp only
 split
 ·have M1:=M.chA k
  by_cases c1:(i+k+1==a.size)=true
  ·rw[if_pos c1]
   exact SF (q.1 _ _ M1.d2)
  rw[if_neg c1]
  by_cases c2:(i+k==a.size)=true
  ·rw[if_pos c2]
   exact SF (q.1 _ _ M1.d1)
  rw[if_neg c2]
  have c1:¬ i+k+1=a.size:=by simpa using c1
  have c2:¬ i+k=a.size:=by simpa using c2
  exact J4 hO hk ka kb M1 () hj () q
 ·exact J4 hO hk ka kb M hi hj () q
theorem Jz(hO:ņ prog w A s κ ä){Q:Array Ti->SX->Prop}(hk:kindOf st=ä)(ka:KeysOf κ a)(kb:KeysOf κ b)(a1:1<=a.size)(b1:1<=b.size)(h:∀r g,Gd a b r->Q r (Γ st g)):wpS (SK prog w) A E s (mlo a b) Q st:=by
 obtain⟨y0,ey0,_,dy0⟩:=gY kb (show 0<b.size by lia)
 have M0:Mg a b (#[y0]:Array Ti) 0 1:=Mg.pB (o:=#[]) (i:=0) (j:=0) (WZ []) dy0
 refine SD (Wi (UD {rfl,?_}))
 dsimp only
 refine SD (bu ey0 ?_)
 by_cases c1:(1==b.size)=true
 ·rw[if_pos c1]
  exact SF (h _ (W6 st) M0.d1)
 rw[if_neg c1]
 by_cases c2:(0+1==a.size)=true
 ·rw[if_pos c2]
  exact SF (h _ (W6 st) M0.d2)
 rw[if_neg c2]
 have c1:¬ 1=b.size:=by simpa using c1
 have c2:¬ 1=a.size:=by simpa using c2
 refine SD (Vu ?_)
 refine SD (Ua (Tq (LA a b st) (Q:=HD a b st λ_ _=>False) (λx c Å _ hx q=>?_) (λc Å q=>?_) (.mk (W6 st) {M0,(),(),()})) λc Å q=>?_)
 ·obtain⟨g,⟨M,hi,hj,Ĝ⟩⟩:=q
  dsimp only
  refine SD (Ua (Tq (λy=>LB a b st g (x+1+min y 1)) (Q:=HD a b st (LB a b st g (x+2))) (λy c Å _ hy q=>?_) (λc Å q=>?_) (.mk {M,hi,hj,()})) λc Å q=>?_)
  ·clear M hi hj Ĝ
   obtain @⟨_,_,_,i,j,M,hi,hj,Ĝ⟩:=q
   obtain⟨yb,eyb,kyb,dyb⟩:=gY kb hj
   obtain⟨xa,exa,kxa,dxa⟩:=gY ka (show i<a.size by lia)
   dsimp only
   refine SD (bu eyb (SD (bu exa (SD (ur hO hk kyb kxa λz=>?_)))))
   dsimp only
   cases z with
   |true=>
    rw[if_pos rfl]
    have M':=M.pB dyb
    refine SD (bu eyb ?_)
    split<;>rename_i e1
    ·exact SF (.dn _ M'.d1)
    ·have e1:¬ j+1=b.size:=by simpa using e1
     split
     ·exact SF (.go (.mk {M',hi,(),()}))
     ·exact SF (.mk {M',hi,(),()})
   |false=>
    rw[if_neg PU]
    have M':=M.pA dxa
    refine SD (bu exa ?_)
    split<;>rename_i e1
    ·exact SF (.dn _ M'.d2)
    ·have e1:¬ i+1+1=a.size:=by simpa using e1
     split
     ·exact SF (.go (.mk {M',(),hj,()}))
     ·exact SF (.mk {M',(),hj,()})
  ·obtain⟨⟨M,hi,hj,Ĝ⟩⟩:=q
   exact .go (.mk {M,hi,hj,()})
  ·clear M hi hj Ĝ
   cases q with
   |dn g hg=>exact SF (.dn g hg)
   |go q=>
   obtain⟨q⟩:=q
   dsimp only
   refine SD (Wi (UD {rfl,?_}))
   refine SD (Ua (Tq (λ_=>LC a b st (x+2)) (Q:=HD a b st (LC a b st (x+2))) (λy c Å _ hy q=>?_) (λc Å q=>.go q) (.mk g q)) λc Å q=>?_)
   ·obtain @⟨_,_,_,i,j,mg,g,L⟩:=q
    dsimp only
    rcases Nat.lt_or_ge 1 mg with mc|mc
    all_goals
     first|rw[if_pos (show mg>1 from mc)]|rw[if_neg (show ¬ mg>1 from Sk.mpr mc)]
     exact SD (T5 (NR hO hk ka kb L {λr c g=>.dn _ g,λo i j mg k l L=>{.go (.mk _ L),.mk _ L}}))
   ·cases q with
    |dn g hg=>exact SF (.dn g hg)
    |go q=>
    obtain⟨g,⟨M,hi,hj,hx⟩⟩:=q
    dsimp only
    exact SD (T5 (SF (.mk _ {M,hi,hj,()})))
 ·obtain⟨g,⟨M,hi,hj,hx⟩⟩:=q
  lia
 ·cases q with
  |dn g hg=>exact SF (h _ g hg)
  |go q=>exact q.elim
end
end L2
namespace L2
open PySem PyProof.Rows
def mhi:Array Ti->Array Ti->StateT SX Sem (Array Ti):=sortPriv%PySem.Builtin.mergeHi
abbrev MHt:=Option (Array Ti)×Nat×Nat×Array Ti×Nat×Nat×Nat
def hi2(a b o:Array Ti)(i j mg k k2:Nat):StateT SX Sem (ForInStep MHt):=do
 let d<-W3 a (i-1)
 if(i-1==0)=true then pure (.done (Zq (a.extract 0 (i-1)++b.extract 0 j++(o.push d).reverse),i-1,j,o.push d,mg,k,k2))
 else if(decide (k<7)&&decide (k2<7))=true then pure (.done (Zr,i-1,j,o.push d,mg,k,k2))
 else pure (.yield (Zr,i-1,j,o.push d,mg,k,k2))
def hi1(a b o:Array Ti)(i j mg k bc:Nat):StateT SX Sem (ForInStep MHt):=do
 let y<-W3 b (j-1)
 if(j-1==1)=true then pure (.done (Zq (b.extract 0 (j-1)++a.extract 0 i++(o.push y).reverse),i,j-1,o.push y,mg,k,bc))
 else do
  let x<-W3 a (i-1)
  let r<-gal true x b 0 (j-1) (j-1-1)
  match r with
  |some u=>
   if j-1-u>0 then
    if(u==1)=true then pure (.done (Zq (b.extract 0 u++a.extract 0 i++(o.push y++(b.extract u (j-1)).reverse).reverse),i,u,o.push y++(b.extract u (j-1)).reverse,mg,k,j-1-u))
    else if(u==0)=true then pure (.done (Zq (a.extract 0 i++b.extract 0 u++(o.push y++(b.extract u (j-1)).reverse).reverse),i,u,o.push y++(b.extract u (j-1)).reverse,mg,k,j-1-u))
    else hi2 a b (o.push y++(b.extract u (j-1)).reverse) i u mg k (j-1-u)
   else hi2 a b (o.push y) i (j-1) mg k (j-1-u)
  |_=>pure (.done (Zq (a.extract 0 i++b.extract 0 (j-1)++(o.push y).reverse),i,j-1,o.push y,mg,k,bc))
def hi0(a b o:Array Ti)(i j mg ac bc:Nat):StateT SX Sem (ForInStep MHt):=do
 let y<-W3 b (j-1)
 let r<-gal false y a 0 i (i-1)
 match r with
 |some t=>
  if i-t>0 then
   if(t==0)=true then pure (.done (Zq (a.extract 0 t++b.extract 0 j++(o++(a.extract t i).reverse).reverse),t,j,o++(a.extract t i).reverse,mg,i-t,bc))
   else hi1 a b (o++(a.extract t i).reverse) t j mg (i-t) bc
  else hi1 a b o i j mg (i-t) bc
 |_=>pure (.done (Zq (a.extract 0 i++b.extract 0 j++o.reverse),i,j,o,mg,ac,bc))
section
variable(a b:Array Ti)(st:SX)
structure HI(o:Array Ti)(i j n:Nat):Prop where
 M:Mh a b o i j
 hi:1<=i
 ia:i<=a.size
 hj:2<=j
 jb:j<=b.size
 hx:n+i+j<=a.size+b.size
inductive HA(x:Nat):Option (Array Ti)×Nat×Nat×Array Ti×Nat->SX->Prop
 |mk{i j:Nat}(g:Nat)(h:HI a b o i j (x+1)):HA x (Zr,i,j,o,mg) (Γ st g)
inductive HB(g n:Nat):Option (Array Ti)×Nat×Nat×Array Ti×Nat×Nat->SX->Prop
 |mk{i j:Nat}(h:HI a b o i j n):HB g n (Zr,i,j,o,k,l) (Γ st g)
inductive HC(n:Nat):MHt->SX->Prop
 |mk{i j mg:Nat}(g:Nat)(h:HI a b o i j n):HC n (Zr,i,j,o,mg,k,l) (Γ st g)
inductive HR(n:Nat)(st:SX)(Q:ForInStep MHt->SX->Prop):Prop
 |mk(q1:∀r c,Gd a b r->Q (.done (Zq r,c)) st)(q2:∀o i j mg k l,HI a b o i j n->Q (.done (Zr,i,j,o,mg,k,l)) st/\Q (.yield (Zr,i,j,o,mg,k,l)) st):HR n st Q
end
section
variable{prog:Program}{w:SM}{A:Td}{E:Su->Sy->Prop}{s:Sy}{κ:KeyKind}{ä:Vj}{st:SX}{a b o:Array Ti}{i j mg k bc n:Nat}
theorem JV{Q:ForInStep MHt->SX->Prop}(ka:KeysOf κ a)(L:HI a b o i j (n-1))(hn:1<=n)(q:HR a b n st Q):wpS (SK prog w) A E s (hi2 a b o i j mg k k2) Q st:=by
 obtain⟨M,hi,ia,hj,jb,hx⟩:=L
 obtain⟨x,e,kx,_⟩:=gY ka (show i-1<a.size by lia)
 have M4:=M.pA hi e
 unfold hi2
 refine SD (bu e ?_)
 by_cases c:(i-1==0)=true
 ·rw[if_pos c]
  exact SF (q.1 _ _ M4.d1)
 rw[if_neg c]
 have c:¬ i-1=0:=by simpa using c
 have z:=q.2 _ _ _ mg k k2 {M4,(),(),hj,jb,()}
 split
 ·exact SF z.1
 ·exact SF z.2
theorem JY(hO:ņ prog w A s κ ä){Q:ForInStep MHt->SX->Prop}(hk:kindOf st=ä)(ka:KeysOf κ a)(kb:KeysOf κ b)(M:Mh a b o i j)(hi:1<=i)(ia:i<=a.size)(hj:2<=j)(jb:j<=b.size)(hx:n+i+j<=a.size+b.size+2)(hn:1<=n)(q:HR a b n st Q):wpS (SK prog w) A E s (hi1 a b o i j mg k bc) Q st:=by
 obtain⟨y,ey,ky,_⟩:=gY kb (show j-1<b.size by lia)
 obtain⟨x,ex,kx,_⟩:=gY ka (show i-1<a.size by lia)
 have M2:=M.pB () ey
 unfold hi1
 refine SD (bu ey ?_)
 by_cases c:(j-1==1)=true
 ·rw[if_pos c]
  exact SF (q.1 _ _ M2.d2)
 rw[if_neg c]
 have c:¬ j-1=1:=by simpa using c
 refine SD (bu ex (SD (nF hO hk (λm hm=>?_) kx () λu hu=>?_)))
 ·obtain⟨x,e,kx,_⟩:=gY kb (show 0+m<b.size by lia)
  exact⟨x,e,kx⟩
 dsimp only
 split
 ·have M3:=M2.chB u hu
  by_cases c4:(u==1)=true
  ·rw[if_pos c4]
   exact SF (q.1 _ _ M3.d2)
  rw[if_neg c4]
  by_cases c5:(u==0)=true
  ·rw[if_pos c5]
   exact SF (q.1 _ _ M3.d1)
  rw[if_neg c5]
  have c4:¬ u=1:=by simpa using c4
  have c5:¬ u=0:=by simpa using c5
  exact JV ka {M3,hi,ia,(),(),()} hn q
 ·exact JV ka {M2,hi,ia,(),(),()} hn q
theorem Nr(hO:ņ prog w A s κ ä){Q:ForInStep MHt->SX->Prop}(hk:kindOf st=ä)(ka:KeysOf κ a)(kb:KeysOf κ b)(L:HI a b o i j n)(hn:1<=n)(q:HR a b n st Q):wpS (SK prog w) A E s (hi0 a b o i j mg ac bc) Q st:=by
 obtain⟨M,hi,ia,hj,jb,hx⟩:=L
 obtain⟨y,ey,ky,_⟩:=gY kb (show j-1<b.size by lia)
 unfold hi0
 refine SD (bu ey (SD (nF hO hk (λm hm=>?_) ky () λt ht=>?_)))
 ·obtain⟨x,e,kx,_⟩:=gY ka (show 0+m<a.size by lia)
  exact⟨x,e,kx⟩
 dsimp only
 split
 ·have M1:=M.chA t ht
  by_cases c:(t==0)=true
  ·rw[if_pos c]
   exact SF (q.1 _ _ M1.d1)
  rw[if_neg c]
  have c:¬ t=0:=by simpa using c
  exact JY hO hk ka kb M1 () () hj jb () hn q
 ·exact JY hO hk ka kb M hi ia hj jb () hn q
theorem Jy(hO:ņ prog w A s κ ä){Q:Array Ti->SX->Prop}(hk:kindOf st=ä)(ka:KeysOf κ a)(kb:KeysOf κ b)(a1:1<=a.size)(b1:1<=b.size)(h:∀r g,Gd a b r->Q r (Γ st g)):wpS (SK prog w) A E s (mhi a b) Q st:=by
 obtain⟨x0,ex0,_,_⟩:=gY ka (show a.size-1<a.size by lia)
 have M0:Mh a b (#[x0]:Array Ti) (a.size-1) b.size:=by
  refine Mh.pA (o:=#[]) (i:=a.size) (j:=b.size) ?_ a1 ex0
  show([]:List Ti).Perm _
  rw[Wz (Rq Qn),Wz (Rq Qn)]
  exact .refl _
 refine SD (Wi (UD {rfl,?_}))
 dsimp only
 refine SD (bu ex0 ?_)
 by_cases c1:(a.size-1==0)=true
 ·rw[if_pos c1]
  exact SF (h _ (W6 st) M0.d1)
 rw[if_neg c1]
 by_cases c2:(b.size==1)=true
 ·rw[if_pos c2]
  exact SF (h _ (W6 st) M0.d2)
 rw[if_neg c2]
 have c1:¬ a.size-1=0:=by simpa using c1
 have c2:¬ b.size=1:=by simpa using c2
 refine SD (Vu ?_)
 refine SD (Ua (Tq (HA a b st) (Q:=HD a b st λ_ _=>False) (λx c Å _ hx q=>?_) (λc Å q=>?_) (.mk (W6 st) {M0,(),(),(),Px _,()})) λc Å q=>?_)
 ·obtain⟨g,⟨M,hi,ia,hj,jb,Ĝ⟩⟩:=q
  dsimp only
  refine SD (Ua (Tq (λy=>HB a b st g (x+1+min y 1)) (Q:=HD a b st (HB a b st g (x+2))) (λy c Å _ hy q=>?_) (λc Å q=>?_) (.mk {M,hi,ia,hj,jb,()})) λc Å q=>?_)
  ·clear M hi ia hj jb Ĝ
   obtain @⟨_,_,_,i,j,M,hi,ia,hj,jb,Ĝ⟩:=q
   obtain⟨yb,eyb,kyb,_⟩:=gY kb (show j-1<b.size by lia)
   obtain⟨xa,exa,kxa,_⟩:=gY ka (show i-1<a.size by lia)
   dsimp only
   refine SD (bu eyb (SD (bu exa (SD (ur hO hk kyb kxa λz=>?_)))))
   dsimp only
   cases z with
   |true=>
    rw[if_pos rfl]
    have M':=M.pA hi exa
    refine SD (bu exa ?_)
    split<;>rename_i e1
    ·exact SF (.dn _ M'.d1)
    ·have e1:¬ i-1=0:=by simpa using e1
     split
     ·exact SF (.go (.mk {M',(),(),hj,jb,()}))
     ·exact SF (.mk {M',(),(),hj,jb,()})
   |false=>
    rw[if_neg PU]
    have M':=M.pB () eyb
    refine SD (bu eyb ?_)
    split<;>rename_i e1
    ·exact SF (.dn _ M'.d2)
    ·have e1:¬ j-1=1:=by simpa using e1
     split
     ·exact SF (.go (.mk {M',hi,ia,(),(),()}))
     ·exact SF (.mk {M',hi,ia,(),(),()})
  ·obtain⟨⟨M,hi,ia,hj,jb,Ĝ⟩⟩:=q
   exact .go (.mk {M,hi,ia,hj,jb,()})
  ·clear M hi ia hj jb Ĝ
   cases q with
   |dn g hg=>exact SF (.dn g hg)
   |go q=>
   obtain⟨q⟩:=q
   dsimp only
   refine SD (Wi (UD {rfl,?_}))
   refine SD (Ua (Tq (λ_=>HC a b st (x+2)) (Q:=HD a b st (HC a b st (x+2))) (λy c Å _ hy q=>?_) (λc Å q=>.go q) (.mk g q)) λc Å q=>?_)
   ·obtain @⟨_,_,_,i,j,mg,g,L⟩:=q
    dsimp only
    rcases Nat.lt_or_ge 1 mg with mc|mc
    all_goals
     first|rw[if_pos (show mg>1 from mc)]|rw[if_neg (show ¬ mg>1 from Sk.mpr mc)]
     exact SD (T5 (Nr hO hk ka kb L () {λr c g=>.dn _ g,λo i j mg k l L=>{.go (.mk _ L),.mk _ L}}))
   ·cases q with
    |dn g hg=>exact SF (.dn g hg)
    |go q=>
    obtain⟨g,⟨M,hi,ia,hj,jb,hx⟩⟩:=q
    dsimp only
    exact SD (T5 (SF (.mk _ {M,hi,ia,hj,jb,()})))
 ·obtain⟨g,⟨M,hi,ia,hj,jb,hx⟩⟩:=q
  lia
 ·cases q with
  |dn g hg=>exact SF (h _ g hg)
  |go q=>exact q.elim
end
end L2
namespace L2
open PySem PyProof.Rows
section
variable{prog:Program}{w:SM}{A:Td}{E:Su->Sy->Prop}{s:Sy}{κ:KeyKind}{ä:Vj}
def Dg(xs:Array Ti)(i:Nat)(m:List (Ti×Nat)):Array Ti:=m.foldl (λa p=>a.setIfInBounds (i+p.2) p.1) xs
theorem Cr (i):∀m k xs,i+k+↥m<=xs.size->(Dg xs i (m.zipIdx k)).toList=xs.toList.take (i+k)++m++xs.toList.drop (i+k+↥m)
 | [],k,xs,h=>by
  show xs.toList=_
  simp
 |x::m,k,xs,h=>by
  rw[PD]at h
  rw[List.zipIdx_cons]
  show(Dg (xs.setIfInBounds (i+k) x) i (m.zipIdx (k+1))).toList=_
  rw[Cr i m (k+1) _ (by rw[Array.size_setIfInBounds];lia),VQ]
  have hl:i+k<xs.toList.length:=by rw[Qn];lia
  have e1:(xs.toList.set (i+k) x).take (i+(k+1))=xs.toList.take (i+k)++[x]:=by
   rw[show i+(k+1)=i+k+1 by lia,Qv,List.take_set_of_le (Px _),RH hl]
   rfl
  have e2:(xs.toList.set (i+k) x).drop (i+(k+1)+↥m)=xs.toList.drop (i+k+(↥m+1)):=by
   rw[List.drop_set_of_lt ()]
   congr 1
   lia
  rw[e1,e2,PD]
  simp
theorem Jh{B:Type}{M Q}{st Å:B}(h:Q ⟨⟩ Å):wpS M A E s (set Å:StateT B Sem PUnit) Q st:=by
 unfold wpS
 rw[StateT.run_set]
 exact Sw ⟨rfl,h⟩
theorem y8{xs}(hk:KeysOf κ xs) (i j):KeysOf κ (xs.extract i j):=λp hp=>by
 rw[lM]at hp
 exact hk p (Rw (QP hp))
theorem xt{xs ys}(h:KeysOf κ ys)(p:xs.Perm ys):KeysOf κ xs:=λq hq=>h q ((Ry.mp p).mem_iff.mp hq)
theorem Jx(hO:ņ prog w A s κ ä){st i sa na pw nb pw2 Q}(hk:kindOf st=ä)(hf:U4 st=Zr)(kx:KeysOf κ (S8 st))(h1:(Tn st)[i]?=Zq (sa,na,pw))(h2:(Tn st)[i+1]?=Zq (sa+na,nb,pw2))(a1:1<=na)(b1:1<=nb)(hsz:sa+na+nb<=(S8 st).size)
  (h:∀Å,kindOf Å=ä->U4 Å=Zr->Tn Å=((Tn st).setIfInBounds i (sa,na+nb,pw)).eraseIdxIfInBounds (i+1)->(S8 Å).Perm (S8 st)->Q true Å):wpS (SK prog w) A E s (mergeAt' i) Q st:=by
 refine SD (Vu ?_)
 dsimp only
 rw[h1,h2]
 dsimp only
 refine SD (Jh ?_)
 obtain⟨y0,ey0,ky0,_⟩:=gY kx (show sa+na<(S8 st).size by lia)
 refine SD (bu ey0 (SD (nF hO hk (λm hm=>?_) ky0 () λk hk1=>?_)))
 ·obtain⟨x,e,kx,_⟩:=gY kx (show sa+m<(S8 st).size by lia)
  exact⟨x,e,kx⟩
 dsimp only
 by_cases c1:(na-k==0)=true
 ·rw[if_pos c1]
  exact SF (h _ hk hf rfl (U8 _))
 rw[if_neg c1]
 have c1:¬ na-k=0:=by simpa using c1
 obtain⟨x1,ex1,kx1,_⟩:=gY kx (show sa+k+(na-k)-1<(S8 st).size by lia)
 refine SD (bu ex1 (SD (nF hO hk (λm hm=>?_) kx1 () λu hu1=>?_)))
 ·obtain⟨x,e,kx,_⟩:=gY kx (show sa+na+m<(S8 st).size by lia)
  exact⟨x,e,kx⟩
 dsimp only
 by_cases c2:(u==0)=true
 ·rw[if_pos c2]
  exact SF (h _ hk hf rfl (U8 _))
 rw[if_neg c2]
 have c2:¬ u=0:=by simpa using c2
 have za:((S8 st).extract (sa+k) (sa+na)).size=na-k:=by rw[XU];lia
 have zb:((S8 st).extract (sa+na) (sa+na+u)).size=u:=by rw[XU];lia
 have kA:=y8 kx (sa+k) (sa+na)
 have kB:=y8 kx (sa+na) (sa+na+u)
 have out:∀(r:Array Ti)(g:Nat),Gd ((S8 st).extract (sa+k) (sa+na)) ((S8 st).extract (sa+na) (sa+na+u)) r->Q true (XS (kindOf st) (Dg (S8 st) (sa+k) r.toList.zipIdx) (((Tn st).setIfInBounds i (sa,na+nb,pw)).eraseIdxIfInBounds (i+1)) g (U4 st)):=by
  intro r g p
  have rl:r.toList.length=na-k+u:=by rw[p.length_eq,Pq,Qn,Qn,za,zb]
  refine h _ hk hf rfl (Ry.mpr ?_)
  show(Dg (S8 st) (sa+k) r.toList.zipIdx).toList.Perm _
  rw[Cr (sa+k) r.toList 0 (S8 st) (by rw[rl];lia),rl,show sa+k+0=sa+k by lia,show sa+k+(na-k+u)=sa+na+u by lia]
  refine((p.append_left _).append_right _).trans (List.Perm.of_eq ?_)
  have e1:=pI (l:=(S8 st).toList) (show sa+k<=sa+na by lia)
  have e2:=pI (l:=(S8 st).toList) (show sa+na<=sa+na+u by lia)
  rw[lM,lM,P6,P6,<-e2,<-e1,Qm]
 by_cases c3:na-k<=u
 ·rw[if_pos c3]
  refine SD (Jz hO hk kA kB (by rw[za];lia) (by rw[zb];lia) λr g hg=>SD (T5 (SD (Vu (SF ?_)))))
  have:=out r g hg
  rw[show(U4 st).isNone=true by rw[hf];rfl]
  exact this
 ·rw[if_neg c3]
  refine SD (Jy hO hk kA kB (by rw[za];lia) (by rw[zb];lia) λr g hg=>SD (T5 (SD (Vu (SF ?_)))))
  have:=out r g hg
  rw[show(U4 st).isNone=true by rw[hf];rfl]
  exact this
end
end L2
namespace L2
open PySem PyProof.Rows
section
variable{prog:Program}{w:SM}{A:Td}{E:Su->Sy->Prop}{s:Sy}{κ:KeyKind}{ä:Vj}{st0 st:SX}
structure ň(st0 st:SX):Prop where
 kd:kindOf st=kindOf st0
 fl:U4 st=Zr
 pd:Tn st=Tn st0
 pm:(S8 st).Perm (S8 st0)
theorem ň.sz(C:ň st0 st):(S8 st).size=(S8 st0).size:=C.pm.size_eq
theorem ň.set(C:ň st0 st){xs}(p:xs.Perm (S8 st)):ň st0 (setArr st xs):=⟨C.kd,C.fl,C.pd,p.trans C.pm⟩
theorem D9(hO:ņ prog w A s κ (kindOf st0)){i j}{Q:Option Bool->SX->Prop}(C:ň st0 st)(k0:KeysOf κ (S8 st0))(hi:i<(S8 st0).size)(hj:j<(S8 st0).size)(h:∀b,Q (Zq b) st):wpS (SK prog w) A E s (ltAt' i j) Q st:=by
 have kx:=xt k0 C.pm
 obtain⟨x,ex,kx1,_⟩:=gY kx (show i<(S8 st).size by rw[C.sz];exact hi)
 obtain⟨y,ey,ky1,_⟩:=gY kx (show j<(S8 st).size by rw[C.sz];exact hj)
 rw[ltAt'_eq]
 refine SD (Vu ?_)
 show wpS _ _ _ _ (do let x<-W3 (S8 st) i;let y<-W3 (S8 st) j;lt' x y) Q st
 exact SD (bu ex (SD (bu ey (ur hO C.kd kx1 ky1 h))))
theorem Iv(hO:ņ prog w A s κ (kindOf st0)){lo n ok Q}(k0:KeysOf κ (S8 st0))(hn:lo+n<=(S8 st0).size)(C:ň st0 st)(h:∀Å,ň st0 Å->Q true Å):wpS (SK prog w) A E s (binarySort' lo n ok) Q st:=by
 refine SD (Ua (Tq (I:=λk c Å=>c=(Zr,Unit.unit)/\ň st0 Å) (Q:=λc Å=>c=(Zr,Unit.unit)/\ň st0 Å) ?s1 (λ_ _ q=>q) ⟨rfl,C⟩) ?p1)
 case p1=>
  rintro c Å ⟨rfl,C'⟩
  exact SF (h Å C')
 case s1=>
  rintro k c st1 hak hkn ⟨rfl,C1⟩
  refine SD (Ua (Tq (I:=λx c Ŋ=>Ŋ=st1/\∃l r,c=(Zr,l,r)/\l<=r/\r<=k) (Q:=λc Ŋ=>Ŋ=st1/\∃l r,c=(Zr,l,r)) ?s2 (λc Ŋ q=>by obtain⟨e,l,r,e2,_⟩:=q;exact⟨e,l,r,e2⟩) {rfl,0,k,rfl,PZ _,Px _}) ?p2)
  case s2=>
   rintro x c Ŋ _ hx ⟨rfl,l,r,rfl,h1,h2⟩
   dsimp only
   by_cases z:l ≥ r
   ·rw[if_pos z]
    exact SF ⟨rfl,l,r,rfl⟩
   ·rw[if_neg z]
    refine SD (D9 hO C1 k0 (show lo+k<_ by lia) (show lo+(l+r)/2<_ by lia) λb=>?_)
    cases b with
    |true=>exact SF {rfl,l,(l+r)/2,rfl,(),()}
    |false=>exact SF {rfl,(l+r)/2+1,r,rfl,(),()}
  case p2=>
   rintro c Ŋ ⟨rfl,l,r,rfl⟩
   exact SD (T5 (SF {rfl,C1.set (bubble_perm _ _ _)}))
theorem Kb{a ò}{f:Nat->Option (Option Nat)×Nat->StateT SX Sem (ForInStep (Option (Option Nat)×Nat))}(ha:1<=a)(han:a<=ò)
  (hf:∀(x:Nat)(R:ForInStep (Option (Option Nat)×Nat)->SX->Prop),1<=x->x<ò->R (.done (Zr,x)) st->R (.yield (Zr,x+1)) st->wpS (SK prog w) A E s (f x (Zr,x)) R st) :
  wpS (SK prog w) A E s (forIn [a:ò] (Zr,a) f) (λc Å=>Å=st/\∃m,c=(Zr,m)/\a<=m/\m<=ò) st:=by
 refine Tq (I:=λx c Å=>Å=st/\c=(Zr,x)) ?s1 ?f1 ⟨rfl,rfl⟩
 case f1=>
  rintro c Å ⟨rfl,rfl⟩
  exact{rfl,_,rfl,(),()}
 case s1=>
  rintro x c Å hax hx ⟨rfl,rfl⟩
  exact hf x _ () hx {rfl,x,rfl,hax,()} ⟨rfl,rfl⟩
theorem KJ{n ò}{f:Nat->Option (Option Nat)×Nat×Nat->StateT SX Sem (ForInStep (Option (Option Nat)×Nat×Nat))}(h1:1<=n)(hn:n<=ò)(C:ň st0 st)
  (hf:∀(x e:Nat)(st:SX)(R:ForInStep (Option (Option Nat)×Nat×Nat)->SX->Prop),ň st0 st->1<=x->x<ò->(∀Å,ň st0 Å->R (.yield (Zr,x+1,0)) Å)->R (.done (Zr,x,e)) st->R (.yield (Zr,x+1,e+1)) st->wpS (SK prog w) A E s (f x (Zr,x,e)) R st) :
  wpS (SK prog w) A E s (forIn [n:ò] (Zr,n,0) f) (λc Å=>∃m e,c=(Zr,m,e)/\ň st0 Å/\n<=m/\m<=ò) st:=by
 refine Tq (I:=λx c Å=>∃e,c=(Zr,x,e)/\ň st0 Å) ?s1 ?f1 ⟨0,rfl,C⟩
 case f1=>
  rintro c Å ⟨e,rfl,C'⟩
  exact{_,e,rfl,C',(),()}
 case s1=>
  rintro x c Å hax hx ⟨e,rfl,C'⟩
  exact hf x e Å _ C' () hx (λÅ C'=>⟨0,rfl,C'⟩) {x,e,rfl,C',hax,()} {e+1,rfl,C'}
theorem IQ(hO:ņ prog w A s κ (kindOf st0)){lo ò}{Q:Option Nat->SX->Prop}(k0:KeysOf κ (S8 st0))(h1:1<=ò)(hl:lo+ò<=(S8 st0).size)(C:ň st0 st)
  (h:∀m Å,ň st0 Å->1<=m->m<=ò->Q (Zq m) Å):wpS (SK prog w) A E s (countRun' lo ò) Q st:=by
 refine SD (Ua (Kb (Px 1) h1 ?_) ?_)
 ·intro x R n1 nr a1 a2
  dsimp only
  refine SD (D9 hO C k0 (show lo+x<_ by lia) (show lo+x-1<_ by lia) λb=>?_)
  cases b with
  |true=>exact SF a1
  |false=>exact SF a2
 rintro c Å ⟨rfl,m,rfl,m1,m2⟩
 dsimp only
 by_cases e:(m==ò)=true
 ·rw[if_pos e]
  exact SF (h m _ C m1 m2)
 rw[if_neg e]
 have e:¬ m=ò:=by simpa using e
 by_cases mm:m>1
 case' pos=>
  rw[if_pos mm]
  refine SD (D9 hO C k0 (show lo<_ by lia) (show lo+m-1<_ by lia) λb=>?_)
  cases b
  case true=>exact SF (h m _ C m1 m2)
  dsimp only
  rw[if_neg PU]
  have C:=C.set (W7 (S8 Å) lo (lo+m) ((lo+m-lo)/2))
  refine SD (T5 ?_)
 case' neg=>rw[if_neg mm]
 all_goals
  refine SD (Wi (UD {rfl,?_}))
  refine SD (Ua (KJ (st0:=st0) () () C ?_) ?_)
  ·intro x e st R C n1 nr a1 a2 a3
   dsimp only
   refine SD (D9 hO C k0 (show lo+x<_ by lia) (show lo+x-1<_ by lia) λb=>?_)
   cases b with
   |true=>
    dsimp only
    rw[if_pos rfl]
    split
    ·exact SD (T5 (SF (a1 _ (C.set (W7 _ _ _ _)))))
    ·exact SF (a1 _ C)
   |false=>
    dsimp only
    rw[if_neg PU]
    refine SD (D9 hO C k0 (show lo+x-1<_ by lia) (show lo+x<_ by lia) λb=>?_)
    cases b with
    |true=>exact SF a2
    |false=>exact SF a3
  ·rintro c Ŋ ⟨r,e,rfl,C2,r1,r2⟩
   dsimp only
   by_cases e0:e>0
   case' pos=>
    rw[if_pos e0]
    have C2:=C2.set (W7 (S8 Ŋ) (lo+r-(e+1)) (lo+r) ((lo+r-(lo+r-(e+1)))/2))
    refine SD (T5 ?_)
   case' neg=>rw[if_neg e0]
   all_goals
    have C4:=C2.set (W7 _ lo (lo+r) ((lo+r-lo)/2))
    refine SD (T5 (SD (Ua (Kb (show 1<=r by lia) r2 ?_) ?_)))
    ·intro x R n1 nr a1 a2
     dsimp only
     refine SD (D9 hO C4 k0 (show lo+x<_ by lia) (show lo+x-1<_ by lia) λb=>?_)
     cases b with
     |true=>exact SF a1
     |false=>exact SF a2
    ·rintro c st3 ⟨rfl,v,rfl,v1,v2⟩
     exact SF (h v _ C4 () v2)
end
end L2
namespace L2
open PySem PyProof.Rows
section
variable{prog:Program}{w:SM}{A:Td}{E:Su->Sy->Prop}{s:Sy}{κ:KeyKind}{ä:Vj}{st0 st:SX}
def Rn:Nat->List (Nat×Nat×Nat)->Nat->Prop
 |a,[],lo=>a=lo
 |a,(b,n,_)::r,lo=>b=a/\1<=n/\Rn (a+n) r lo
theorem Rn.le:∀{r:List (Nat×Nat×Nat)}{a lo:Nat},Rn a r lo->a+↥r<=lo
 | [],a,lo,h=>Rq h
 | (b,n,p)::r,a,lo,h=>by
  have:=h.2.2.le
  have:=h.2.1
  rw[PD]
  lia
theorem Rn.app{v lo}:∀{u:List (Nat×Nat×Nat)}{a:Nat},Rn a (u++v) lo->∃m,Rn a u m/\Rn m v lo
 | [],a,h=>⟨a,rfl,h⟩
 | (b,n,p)::u,a,h=>by
  obtain⟨m,h1,h2⟩:=Rn.app (u:=u) h.2.2
  exact{m,⟨h.1,h.2.1,h1⟩,h2}
theorem Rn.cat{v m lo}:∀{u:List (Nat×Nat×Nat)}{a:Nat},Rn a u m->Rn m v lo->Rn a (u++v) lo
 | [],a,h,h2=>by rw[show a=m from h];exact h2
 | (b,n,p)::u,a,h,h2=>⟨h.1,h.2.1,Rn.cat h.2.2 h2⟩
theorem Rn.mod{f:Nat×Nat×Nat->Nat×Nat×Nat}:∀{r:List (Nat×Nat×Nat)}{a lo:Nat}(i:Nat),(∀y,(f y).1=y.1/\(f y).2.1=y.2.1)->Rn a r lo->Rn a (r.modify i f) lo
 | [],a,lo,0,hf,h=>h
 | [],a,lo,i+1,hf,h=>h
 | (b,n,p)::r,a,lo,0,hf,h=>by
  obtain⟨e1,e2⟩:=hf (b,n,p)
  show Rn a (f (b,n,p)::r) lo
  rcases hy:f (b,n,p)with⟨b',n',p'⟩
  rw[hy]at e1 e2
  cases e1
  cases e2
  exact h
 | (b,n,p)::r,a,lo,i+1,hf,h=>⟨h.1,h.2.1,Rn.mod i hf h.2.2⟩
theorem Em{α:Type}{a b x:α}:∀(u v:List α),((u++a::b::v).set ↥u x).eraseIdx (↥u+1)=u++x::v
 | [],v=>rfl
 |c::u,v=>by
  show c::((u++a::b::v).set ↥u x).eraseIdx (↥u+1)=_
  rw[Em u v]
  rfl
structure Sb(st0 st:SX)(rs:List (Nat×Nat×Nat))(lo:Nat):Prop where
 kd:kindOf st=kindOf st0
 fl:U4 st=Zr
 pm:(S8 st).Perm (S8 st0)
 pe:(Tn st).toList=rs
 R:Rn 0 rs lo
 le:lo<=(S8 st0).size
theorem Sb.len{rs lo}(S:Sb st0 st rs lo):(Tn st).size=↥rs:=by rw[<-S.pe,Qn]
theorem JI(hO:ņ prog w A s κ (kindOf st0)){lo i rs Q}(k0:KeysOf κ (S8 st0))(S:Sb st0 st rs lo)(hi:i+1<↥rs)
  (h:∀Å rs',Sb st0 Å rs' lo->↥rs'+1=↥rs->Q true Å):wpS (SK prog w) A E s (mergeAt' i) Q st:=by
 have sz:(S8 st).size=(S8 st0).size:=S.pm.size_eq
 obtain⟨⟨sa,na,pw⟩,ea⟩:∃x,rs[i]?=Zq x:={_,PB ()}
 obtain⟨⟨sb,nb,pw2⟩,eb⟩:∃x,rs[i+1]?=Zq x:={_,PB hi}
 have es:rs=rs.take i++(sa,na,pw)::(sb,nb,pw2)::rs.drop (i+2):=by
  have e1:=QY (l:=rs) (i:=i) ()
  have e2:=QY (l:=rs) (i:=i+1) hi
  rw[(PQ.mp ea).2]at e1
  rw[(PQ.mp eb).2]at e2
  conv=>lhs;rw[<-Qm i rs,e1,e2]
 have R':=S.R
 rw[es]at R'
 obtain⟨m,R1,z1,n1,z2,n2,R3⟩:=R'.app
 subst z1
 subst z2
 have l3:=R3.le
 have ll:=S.le
 refine Jx hO S.kd S.fl (xt k0 S.pm) (by rw[<-Qz,S.pe];exact ea) (by rw[<-Qz,S.pe];exact eb) n1 n2 (by rw[sz];lia) λÅ h1 h2 h3 h4=>?_
 have il:(rs.take i).length=i:=by rw[Qo];lia
 refine h Å (rs.take i++(sa,na+nb,pw)::rs.drop (i+2)) {h1,h2,h4.trans S.pm,?_,Rn.cat R1 {rfl,(),by rw[<-RJ];exact R3},S.le} ?_
 ·rw[h3,Array.toList_eraseIdxIfInBounds,VQ,S.pe]
  have e:=Em (a:=(sa,na,pw)) (b:=(sa+na,nb,pw2)) (x:=(sa,na+nb,pw)) (rs.take i) (rs.drop (i+2))
  rwa [il,<-es]at e
 ·rw[Pq,PD,il,QW]
  lia
theorem HZ(hO:ņ prog w A s κ ä){Q:Unit->SX->Prop}(kd:kindOf st=ä)(fl:U4 st=Zr)(pd:Tn st=#[])(k0:KeysOf κ (S8 st))
  (h:∀Å,(S8 Å).Perm (S8 st)->U4 Å=Zr->Q Unit.unit Å):wpS (SK prog w) A E s sortRuns' Q st:=by
 subst kd
 rw[sortRuns'_eq]
 refine SD (Vu ?_)
 dsimp only
 refine SD (Ua (Tq (I:=λx c Å=>∃lo rs,c=(Zr,lo)/\Sb st Å rs lo/\x<=lo)
  (Q:=λc Å=>∃rs,c=(Zr,(S8 st).size)/\Sb st Å rs (S8 st).size) ?s1 ?f1 {0,[],rfl,{rfl,fl,U8 _,by rw[pd],rfl,PZ _},PZ _}) ?p1)
 case f1=>
  rintro c Å ⟨lo,rs,rfl,S,h2⟩
  have:lo=(S8 st).size:=by
   have:max 0 (S8 st).size<=lo:=h2
   have:=S.le
   lia
  subst this
  exact⟨rs,rfl,S⟩
 case p1=>
  rintro c Å ⟨rs,rfl,S⟩
  dsimp only
  refine SD (Ua (Tq (I:=λx c Č=>c=(Zr,Unit.unit)/\∃ĳ,Sb st Č ĳ (S8 st).size/\(↥ĳ<=1\/↥ĳ+x<=(S8 st).size))
   (Q:=λc Č=>c=(Zr,Unit.unit)/\∃ĳ,Sb st Č ĳ (S8 st).size) ?s2 (λc Č q=>by obtain⟨e,ĳ,S4,_⟩:=q;exact⟨e,ĳ,S4⟩) {rfl,rs,S,.inr (by have:=S.R.le;lia)}) ?p2)
  case s2=>
   rintro x c Č _ hx ⟨rfl,ĳ,S4,l4⟩
   have z4:=S4.len
   refine SD (Vu ?_)
   by_cases c4:(Tn Č).size<=1
   ·rw[if_pos c4]
    exact SF ⟨rfl,ĳ,S4⟩
   ·rw[if_neg c4]
    refine SD (JI hO k0 S4 ?_ λst5 rs5 S5 l5=>?_)
    ·have hh:∀(P:Prop) [Decidable P],(if P then(Tn Č).size-2-1 else(Tn Č).size-2)+1<↥ĳ:=λP _=>by split<;>lia
     exact hh _
    ·rw[if_neg ∅]
     exact SF {rfl,rs5,S5,()}
  case p2=>
   rintro c Č ⟨rfl,ĳ,S4⟩
   exact SF (h Č S4.pm S4.fl)
 case s1=>
  rintro x c Å _ hx ⟨lo,rs,rfl,S,h2⟩
  dsimp only
  by_cases c1:lo ≥ (S8 st).size
  ·rw[if_pos c1]
   have:lo=(S8 st).size:=by have:=S.le;lia
   subst this
   exact SF ⟨rs,rfl,S⟩
  rw[if_neg c1]
  have z':(S8 Å).size=(S8 st).size:=S.pm.size_eq
  have k':=xt k0 S.pm
  have hO':ņ prog w A s κ (kindOf Å):=by rw[S.kd];exact hO
  refine SD (IQ (st0:=Å) hO' k' () (by rw[z'];lia) {rfl,S.fl,rfl,U8 _} λm Ŋ C2 m1 m2=>?_)
  dsimp only
  split
  case' isTrue Ý=>
   refine SD (Wi (UD {rfl,?_}))
   refine SD (Iv (st0:=Å) hO' k' (by rw[z'];lia) C2 λst3 C3=>?_)
   rw[if_neg ∅]
   generalize hN:min ((S8 st).size-lo) (minRun' (S8 st).size (S8 st).size 0)=N
   have hn1:1<=N:=()
   have Ψ:lo+N<=(S8 st).size:=()
  case' isFalse=>
   have C3:=C2
   generalize hN:m=N
   have hn1:1<=N:=()
   have Ψ:lo+N<=(S8 st).size:=()
  all_goals
   have S3:Sb st _ rs lo:={C3.kd.trans S.kd,C3.fl,C3.pm.trans S.pm,by rw[C3.pd];exact S.pe,S.R,S.le}
   refine SD (Vu ?_)
   rcases eb:(Tn _).back? with _|⟨s1,n1,p1⟩
   ·dsimp only
    refine SD (T5 (SF {lo+N,rs++[(lo,N,0)],rfl,{S3.kd,S3.fl,S3.pm,?_,Rn.cat S3.R ⟨rfl,hn1,rfl⟩,Ψ},()}))
    show((Tn _).push (lo,N,0)).toList=_
    rw[Rm,S3.pe]
   ·dsimp only
    refine SD (Ua (Tq (I:=λ_ c Č=>c=(Zr,Unit.unit)/\∃ĳ,Sb st Č ĳ lo) (Q:=λc Č=>c=(Zr,Unit.unit)/\∃ĳ,Sb st Č ĳ lo) ?_ (λc Č z=>z) ⟨rfl,rs,S3⟩) ?_)
    ·rintro x4 c Č _ _ ⟨rfl,ĳ,S4⟩
     refine SD (Vu ?_)
     have l4:=S4.len
     by_cases c4:(Tn Č).size>1
     ·rw[if_pos c4,getElem?_pos (Tn Č) ((Tn Č).size-2) ()]
      rcases(Tn Č)[(Tn Č).size-2]'(())with⟨o1,o2,o3⟩
      dsimp only
      split
      ·exact SF ⟨rfl,ĳ,S4⟩
      ·refine SD (JI hO k0 S4 (show(Tn Č).size-2+1<↥ĳ by lia) λst5 rs5 S5 _=>?_)
       rw[if_neg ∅]
       exact SF ⟨rfl,rs5,S5⟩
     ·rw[if_neg c4]
      exact SF ⟨rfl,ĳ,S4⟩
    ·rintro c st6 ⟨rfl,rs6,S6⟩
     dsimp only
     refine SD (T5 (SD (T5 (SF {lo+N,_,rfl,{S6.kd,S6.fl,S6.pm,rfl,?_,Ψ},()}))))
     show Rn 0 (((Tn st6).modify _ (λy:Nat×Nat×Nat=>(y.1,y.2.1,power' (S8 st).size (2*s1+n1) (2*s1+n1+n1+N) (S8 st).size))).push (lo,N,0)).toList _
     rw[Rm,Array.toList_modify,S6.pe]
     exact Rn.cat (S6.R.mod _ λy=>⟨rfl,rfl⟩) ⟨rfl,hn1,rfl⟩
end
end L2
namespace L2
open PySem PyProof.Rows
section
variable{prog:Program}{w:SM}{A:Td}{E:Su->Sy->Prop}{s:Sy}{κ:KeyKind}{ä:Vj}
def KKi(prog:Program)(w:SM)(A:Td)(s:Sy)(ä:Vj)(xs:List Su):Prop:=∀(E:Su->Sy->Prop) x y r {Q:Vj->Sy->Prop},xs=x::y::r->Q ä s->wpAny (SK prog w) A (keyKind' (x::y::r).toArray) Q E s
theorem EV{q:Sv}{xs:List Su}(hO:∀h',(∀b o,b≠q->s.heap.get? b=Zq o->h'.get? b=Zq o)->ņ prog w A { s with heap:=h' } κ ä/\KKi prog w A { s with heap:=h' } ä xs){n:Nat}{P:Fin->Sy->Prop}(hq:s.heap.get? q=Zq (Ut "list" xs.toArray n))(k0:KeysOf κ (YG xs))(hs:↥xs<=sizeLine)
  (fin:∀Å:SX,(S8 Å).Perm (YG xs)->P (.done (.ret .none)) { s with heap:=sortedHeap s.heap q xs ((S8 Å).map (·.2)) }):wpAny (SK prog w) A (UK.«list.sort» ⟨[.ref q],[]⟩) P E s:=by
 have lt:=SI hq
 obtain⟨e1,h1⟩:∃e1,(s.heap.update q (To λ_=>#[])).get? q=Zq (Ut "list" #[] e1):={_,get?_update_seq hq (λ_=>#[])}
 have h6:(((s.heap.update q (To λ_=>#[])).push (Ut "tuple" xs.toArray 0)).push (Ut "list" #[] 0)).get? q=Zq (Ut "list" #[] e1):=(Vk _ _ _ (by rw[Y7,UX];exact Qf (QH lt))).trans ((Vk _ _ _ (by rw[UX];exact Qf lt)).trans h1)
 have hK:=hO (((s.heap.update q (To λ_=>#[])).push (Ut "tuple" xs.toArray 0)).push (Ut "list" #[] 0)) λb o hb hg=>by
  have lb:=SI hg
  exact(Vk _ _ _ (by rw[Y7,UX];exact Qf (QH lb))).trans ((Vk _ _ _ (by rw[UX];exact Qf lb)).trans ((Tp _ _ (P9 hb)).trans hg))
 clear hO
 rw[list_sort_plain]
 refine E9 (listItems_at hq rfl (E9 (Xs hq rfl (E9 (Yx h1 rfl (E9 (wpAny_newTuple (E9 (Xr (wpAny_holding ?_))))))))))
 show wpAny (SK prog w) A _ P E { s with heap:=((s.heap.update q (To λ_=>#[])).push (Ut "tuple" xs.toArray 0)).push (Ut "list" #[] 0) }
 dsimp only
 by_cases c:xs.toArray.size<2
 ·rw[if_pos c,if_pos c]
  refine E9 (Sw ?_)
  rw[StateT.run_pure]
  refine E9 (Sw (E9 (Yx h6 rfl (E9 (Xs h6 rfl ?_ (hsz2:=by rw[Y8];show(YG xs).size<=_;rw[pairsOf_size];exact Ro hs))))))
  simp only[bne_self_eq_false,Qy,if_false]
  exact Sw (fin (XS general' (xs.toArray.zip xs.toArray) #[] 7 Zr) (U8 _))
 ·rw[if_neg c,if_neg c]
  cases xs with
  |nil=>exact absurd ∅ c
  |cons x r=>
  cases r with
  |nil=>exact absurd (by simp) c
  |cons y r=>
   refine E9 (hK.2 _ _ _ _ rfl (E9 (Ui (HZ (κ:=κ) hK.1 (st:=XS ä ((x::y::r).toArray.zip (x::y::r).toArray) #[] 7 Zr) (Q:=λ_ Å=>(S8 Å).Perm (YG (x::y::r))/\U4 Å=Zr) rfl rfl rfl k0 λÅ a1 a2=>⟨a1,a2⟩) ?_ λ_ _ e=>e)))
   rintro⟨⟨⟩,Å⟩ s' ⟨rfl,hp,hf⟩
   dsimp only
   refine E9 (Yx h6 rfl (E9 (Xs h6 rfl ?_ (hsz2:=P2 (Rq ((Y8 ..).trans (hp.size_eq.trans (pairsOf_size _)))) (Ro hs)))))
   rw[hf]
   simp only[bne_self_eq_false,Qy,if_false]
   exact Sw (fin Å hp)
end
end L2
namespace L2
open PySem PySem.Spec PyProof.Rows
set_option maxRecDepth 100000
theorem vL:∀{ss:List Str}{us:List Su},Zt (ss.map V.str) us->YH us ss
 | [],_,h=>by cases h;exact .nil
 |n::ss,_,h=>by
  cases h with
  |cons h r=>
   obtain⟨t,rfl⟩:=h;exact .cons _ _ (vL r)
theorem DJ:∀{us:List Su}{ss:List Str},YH us ss->Zt (ss.map V.str) us:=by
 intro us ss h;induction h with
 |nil=>exact .nil
 |cons _ t _ ih=>exact .cons ⟨t,rfl⟩ ih
theorem Jn{vs:List Su}{ss:List Str}(hS:YH vs ss){xs:Array Ti}(hp:xs.Perm (YG vs)):∃ø,YH (xs.map (·.2)).toList ø/\ø.Perm ss:=by
 have hl:xs.toList.Perm (vs.zip vs):=by rw[<-pairsOf_toList];exact Ry.mp hp
 have hm:=hl.map (·.2);rw[List.map_snd_zip (Px _)]at hm;rw[Array.toList_map];refine{_,strsAre_map _ λv hv=>hS.all _ (hm.mem_iff.mp hv),?_};have:=hm.map strOf;rwa [hS.strs]at this
section
variable{prog:Program}{w:SM}{A:Td}{s:Sy}{κ:KeyKind}
theorem I0(h:κ.OneLt):ņ prog w A s κ oneType':=λE x y a b Q ha hb q=>h prog w A E s x y a b ha hb q
theorem G0(h:YH xs ss):KKi prog w A s oneType' xs:=λE x y r Q e q=>by
 rw[keyKind_strs (by rw[<-e];exact h)];exact Sw q
end
set_option maxHeartbeats 1000000
section
variable{X:Cx}
theorem DS:dY X (.builtin "sorted") (λxs H Q=>∃p,∃ss,xs=[.ref p]/\À X.K H p (ss.map V.str)/\∀(l) (ø:List Str),ø.Perm ss->H l=Zr->Q (.ref l) (upd H l (.lst (ø.map V.str)))):=by
 intro pins s B H xs us Q I r h;obtain⟨p,ss,rfl,hq,q⟩:=h;obtain⟨u,rfl,rx⟩:=ZG r;cases rx;obtain⟨Â,rv,pl,hz⟩:=I.list hq;have el:=↥rv;rw[Pr]at el hz;have hS:=vL rv;refine VW kind_sorted plain_sorted entry_sorted (args_sorted1 _) ?_;unfold UK.«sorted»;refine E9 (m:=checkCount "sorted" 1 1 _) (Sw (E9 (collect_list pl.isList (E9 (Xr ?_)))));have z:((s.heap.push (Ut "list" #[] 0)).update ⇑s (To (· ++Â.toArray))).objs.size=⇑s+1:=(UX ..).trans (Y7 ..);have hL:(((s.heap.push (Ut "list" #[] 0)).update ⇑s (To (· ++Â.toArray))).push (Ut "list" Â.toArray 0)).get? (⇑s+1)=Zq (Ut "list" Â.toArray 0):=z▸SJ _ rfl;show wpAny _ _ _ _ _ { s with heap:=((s.heap.push (Ut "list" #[] 0)).update ⇑s (To (· ++Â.toArray))).push (Ut "list" Â.toArray 0) };rw[z];refine E9 (wpAny_holding (TN Y4 {_,hL,rfl} YD (EV (s:={ s with heap:=((s.heap.push (Ut "list" #[] 0)).update ⇑s (To (· ++Â.toArray))).push (Ut "list" Â.toArray 0) }) (λ_ _=>⟨I0 strKind_oneLt,G0 hS⟩) hL hS.keysOf () λÅ p1=>⟨_,rfl,Sw ⟨_,rfl,?_⟩⟩) (Y5 _)));obtain⟨ø,a1,a2⟩:=Jn hS p1;have hp:⇑s<=⇑s+1:=Q7 _;refine{.ref (⇑s+1),_,I.laid (t':=s.toks) (λb o e=>sortedAll_old e) hp ?_,rfl,q _ ø a2 (I.È.fresh hp)};obtain⟨e,he⟩:=sortedAll_at s.heap Â ((S8 Å).map (·.2));exact{by rw[Pr,a2.length_eq];exact hz,_,e,DJ a1,by rw[RT];exact he}
end
def L8(ta:TA):TI:=λB H R=>ta B H λvs H1=>∃i j c:Int,vs=[.int i,.int j,.int c]/\VE i j c=true/\-1000<c/\c≠0/\c<1000/\0<=Tt i j c/\R (Hr i c (mZ i j c)) H1
theorem ints3(r:Zt [.int i,.int j,.int k] us):∃t t' t'',us=[.int i t,.int j t',.int k t'']:=by
 cases r with
 |cons r rr=>cases rr with
  |cons r' rr=>cases rr with
   |cons r'' rr=>cases rr;obtain⟨t,rfl⟩:=r;obtain⟨t',rfl⟩:=r';obtain⟨t'',rfl⟩:=r'';exact{_,_,_,rfl}
section
variable{X:Cx}{tg:Expr}
theorem Br(hg:Gl X "range")(hm:X.mg "range"=Zr)(ha:PA X [a,b,c] ta)(hs:SG [a,b,c] X.env=[(false,Ts a X.env),(false,Ts b X.env),(false,Ts c X.env)]:=by rfl)(Ŀ:SG [b,c] X.env=[(false,Ts b X.env),(false,Ts c X.env)]:=by rfl) :
  PI X tg (.Call (.Name "range" p) [a,b,c] [] pos) (L8 ta):=by
 intro pins s B H R I h
 refine Call_ (jO I hg hm boot_range (TR (Ì (ha pos pins s B H _ I h) λus s1 ⟨vs,H1,I1,r1,q1⟩=>?_) (by rw[hs,Ŀ]) (by rw[Ŀ];rfl)))
 obtain⟨i,j,k,e,sm,k2,k0,k1,z0,q⟩:=q1
 subst e
 obtain⟨t,t',t'',rfl⟩:=ints3 r1
 refine call_range_3 () ?_ (P1 (PyProof.noPylong_small ()))
 refine Xz (IsRange.new ..) sm ?_
 have I2:Inv X pins B H1 { s1 with heap:=s1.heap.push { cls:=.type "range",data:=.fields #[.int i t,.int j t',.int k t''] },toks:=s1.toks }:=I1.kept λb o z=>Sx _ z
 refine{(s1.heap.push { cls:=.type "range",data:=.fields #[.int i t,.int j t',.int k t''] }).objs.size,[(s1.heap.push { cls:=.type "range",data:=.fields #[.int i t,.int j t',.int k t''] }).objs.size],_,_,H1,rfl,I2.kept (t':=s1.toks) λb o z=>Sx _ z,zR _ i k (mZ i j k),?_,λb hb=>?_,q}
 ·have e1:i+((0:Nat):Int)*k=i:=by simp
  have e2:((mZ i j k:Nat):Int)-((0:Nat):Int)=Tt i j k:=by unfold mZ;lia
  show WT _ _ (i+((0:Nat):Int)*k) (((mZ i j k:Nat):Int)-((0:Nat):Int)) k;rw[e1,e2];exact SJ _ rfl
 have e:b=(s1.heap.push { cls:=.type "range",data:=.fields #[.int i t,.int j t',.int k t''] }).objs.size:=by simpa using hb
 subst e
 exact I2.sv (Px _) (I2.È.fresh (Px _))
end
theorem A9(h:j<=i)(h0:-1<=j)(h1:i<1000):VE i j (-1)=true/\0<=Tt i j (-1)/\mZ i j (-1)=(i-j).toNat:=by
 have e:Tt i j (-1)=i-j:=by
  unfold Tt;simp;lia
 refine{?_,by rw[e];lia,by unfold mZ;rw[e]};have sm:∀x:Int,-1000<=x->x<=1001->VH x=true:=λx a b=>by
  unfold VH;rw[QX,decide_eq_true_iff,decide_eq_true_iff];lia
 unfold VE;rw[e];simp only[sm i () (),sm j () (),sm (i-j) () (),sm (-1) ∅ ∅,sm (j+(-1+1)) () (),R5,Bool.and_true];simp
abbrev gK(us ws:List Su):List Su:=us++ws.take 1
abbrev gKV(vs zs:List V):List V:=vs++zs.take 1
def x6(P:Program)(w:SM)(K:SE)(mg:Str->Option Su)(base:Tb)(k:Nat)(x:Str)(ps:List Str)(dvs:List V)(sp:Sp):Prop:=
 ∃f fd ds,j8 P w K mg base ş k f fd ps sp/\Zy K fd ps []/\Zy K fd ps ds/\Zt dvs ds/\Uc K (.ref f)=true/\mg x=Zq (.ref f)/\(∃oc od ù,K.lookup f=Zq ⟨oc,od,.func fd,ù⟩)/\yq K fd ps [ps.getLastD SQ] gK gKV
section
variable{P:Program}{w:SM}{K:SE}{mg:Str->Option Su}{base:Tb}{k:Nat}{x:Str}{ps:List Str}{dvs:List V}{sp:Sp}
theorem x6.d(D:x6 P w K mg base k x ps dvs sp):w6 P w K mg base k x ps dvs sp:=by
 obtain⟨f,fd,ds,F,b,b2,v,kp,m,l,_⟩:=D;exact⟨f,fd,ds,F,b,b2,v,kp,m,l⟩
theorem x6.has(D:x6 P w K mg base k x ps dvs sp):Ϻ P w K mg base k x ps sp:=D.d.has
structure qi(K:SE)(mg:Str->Option Su)(x:Str)(st:S0)(ps:List Str)(dvs:List V):Prop where
 ex:∃(f:Sv)(oc:Su)(od:Option Sv)(dV kV doc pm:Su)(an:Option Sv)(Ã ct:Su)(ù:Array (Option Su))(ds:List Su),K.lookup f=Zq {oc,od,.func (T8 x x (bH st) (bj st) (aq st) dV kV doc pm an Ã ct),ù}/\Vw K Ã x=true/\Uc K (.ref f)=true/\mg x=Zq (.ref f)/\Zt dvs ds/\
  Zy K (T8 x x (bH st) (bj st) (aq st) dV kV doc pm an Ã ct) ps []/\Zy K (T8 x x (bH st) (bj st) (aq st) dV kV doc pm an Ã ct) ps ds/\yq K (T8 x x (bH st) (bj st) (aq st) dV kV doc pm an Ã ct) ps [ps.getLastD SQ] gK gKV
abbrev qi.Hz{st:S0}(_:qi K mg x st ps dvs)(P:Program)(w:SM)(base:Tb)(k:Nat)(sp:Sp):Prop:=x6 P w K mg base k x ps dvs sp
theorem qi.hs{st N}(F:qi K mg x st ps dvs)(S:aE N ps (aq st))
  (ì:∀f Ã A outer s H vs Q E,dW k (A.deeper (UZ x (aq st) ⇑s f Ã))->(A.deeper (UZ x (aq st) ⇑s f Ã)).units+64<Uj->sp vs H Q E->
   ∃t,Į (uZ ş P w K mg base N x (aq st) f Ã A outer s H E).Ϭ (bj st) t/\t { nx:=λ_ H'=>Q .Ê H',rt:=Q } (ZC N vs) H) (len:∀vs H Q E,sp vs H Q E->↥vs=↥ps:=by intro _ _ _ _ h;cases h;subst_vars;rfl):x6 P w K mg base (k+1) x ps dvs sp:=by
 obtain⟨f,oc,od,dV,kV,doc,pm,an,Ã,ct,ù,ds,lk,Ō,kp,m,hv,b1,b2,b3⟩:=F.ex
 refine{f,_,ds,FQ lk Ō S len λA outer s H vs Q E hr ź=>?_,b1,b2,hv,kp,m,⟨oc,od,ù,lk⟩,b3}
 obtain⟨t,h,q⟩:=ì f Ã A outer s H vs Q E hr hr.units ź
 exact⟨t,h.Ϭ,q⟩
end
theorem Dw(D:x6 X.prog X.w X.K X.mg X.base j x ps dvs sp)(hr:dW k X.A)(ha:PA X (e::es) t)(hv:PE X v tv)(hj:j<=k:=by decide)(hn:ps.getLastD SQ=nm:=by rfl)(hg:Gl X x:=by rfl)
  (Ď:(x==("__debug__":Str))=false:=by decide) (he:SG (e::es) X.env=(false,Ts e X.env)::SG es X.env:=by rfl) (ÿ:((TB pos (SG (e::es) X.env)).any (·.1)||(Uv pos (TM [⟨Zq nm,v,kpos⟩] X.env)).any (·.1.isNone))=false:=by rfl) :
  PE X (.Call (.Name x p) (e::es) [⟨Zq nm,v,kpos⟩] pos) (F8 sp gKV E0 t (yT tv D3)):=by
 obtain⟨f,fd,ds,F,_,_,_,kp,m,_,b⟩:=D
 subst hn
 exact GB F (hr.mono hj) hg m kp b vC ha (HG hv Lf) rfl rfl Ď he ÿ
def ϫ:V->Bool
 | .int _=>true
 | .str x=>SR x
 |_=>false
def dV:V->Wv
 | .int i=>.int i
 | .str x=>.str x
 |_=>.none
theorem xP{K H}:∀{vs:List V},vs.all ϫ=true->eZ K H vs (vs.map dV)/\Ta (vs.map dV)=true/\Tg (vs.map dV)=0
 | [],_=>⟨.nil,rfl,rfl⟩
 |v::vs,h=>by
  rw[RZ,QX]at h;obtain⟨h1,h2,h3⟩:=xP (K:=K) (H:=H) h.2;cases v with
  |int i=>exact{.cons (.int i) h1,by rw[P0];simp[Ta,TJ,dV,h2],by rw[P0];simp[Tg,Uh,dV,h3]}
  |str x=>
   have hx:SR x=true:=h.1;exact{.cons (.str x) h1,by rw[P0];simp[Ta,TJ,dV,h2,hx],by rw[P0];simp[Tg,Uh,dV,h3]}
  |_=>exact absurd h.1 PU
theorem EA:∀{xs ys:List V},xs.all ϫ=true->ys.all ϫ=true->Vv (xs.map dV) (ys.map dV)=decide (xs=ys)
 | [],[],_,_=>by simp[Vv]
 | [],_::_,_,_=>by simp[Vv]
 |_::_,[],_,_=>by simp[Vv]
 |x::xs,y::ys,hx,hy=>by
  rw[RZ,QX]at hx hy;have ih:=EA hx.2 hy.2;rw[P0,P0,Vv,ih];cases x with
  |int i=>
   cases y with
   |int j=>by_cases e:i=j<;>simp[dV,UQ,e]
   |str z=>simp[dV,UQ]
   |_=>exact absurd hy.1 PU
  |str z=>
   cases y with
   |int j=>simp[dV,UQ]
   |str z'=>by_cases e:z=z'<;>simp[dV,UQ,e]
   |_=>exact absurd hy.1 PU
  |_=>exact absurd hx.1 PU
section
variable{X:Cx}
theorem ML(I:Inv X pins B H s)(hu:A.units+60<Uj)(ha:Ç X.K H a vs)(hb:Ç X.K H b us)(va:vs.all ϫ=true)(vb:us.all ϫ=true):VP A s (.ref b) (.ref a) (decide (us=vs)):=by
 obtain⟨r1,c1,d1⟩:=xP (K:=X.K) (H:=H) va;obtain⟨r2,c2,d2⟩:=xP (K:=X.K) (H:=H) vb;obtain⟨as,z1⟩:=I.reads (.tup ha r1) (u:=.ref a) rfl;obtain⟨bs,z2⟩:=I.reads (.tup hb r2) (u:=.ref b) rfl;have:=SeqAt.eqAt_reads _ _ A s _ _ _ _ z2 z1 (by simp[TJ,c2]) (by simp[TJ,c1]) (by simp[Uh,d1,d2];lia);rw[show UQ (.tuple (us.map dV)) (.tuple (vs.map dV))=decide (us=vs) by rw[UQ];exact EA vb va]at this;exact this
theorem FR{f:Sv->List V}:∀(bs:List Sv),((bs.map SO).toArray.any λy=>match y with| .ref b=>decide (f b=vs)|_=>false)=bs.any λb=>decide (f b=vs):=λbs=>by
 rw[List.any_toArray,List.any_map];rfl
theorem G9(hu:X.A.units+64<Uj):Ó X (SW .NotIn) (λx y H Q=>∃(a p:Sv)(vs:List V)(bs:List Sv)(f:Sv->List V),x=.ref a/\y=.ref p/\Ç X.K H a vs/\vs.all ϫ=true/\À X.K H p (bs.map V.ref)/\(∀b∈bs,Ç X.K H b (f b)/\(f b).all ϫ=true)/\Q (.bl (!bs.any λb=>decide (f b=vs))) H):=by
 intro pins s B H x y v u Q I rx ry h;obtain⟨a,p,vs,bs,f,rfl,rfl,ha,va,hp,hb,q⟩:=h;cases rx;cases ry;obtain⟨Â,r1,pl,_⟩:=I.list hp;have eits:Â=bs.map SO:=vK r1;subst eits;refine XJ (λy=>match y with| .ref b=>decide (f b=vs)|_=>false) pl.isList (λy hy=>?_) ?_
 ·have Ν:y∈bs.map SO:=by simpa using hy
  obtain⟨b,hbm,rfl⟩:=PM.mp Ν;exact ML I (by show X.A.units+1+60<Uj;lia) ha (hb b hbm).1 va (hb b hbm).2
 rw[FR];exact{.bl _,H,I,rfl,q}
end
end L2
namespace L2
open PySem PySem.Spec PyProof.Rows PySem.W
theorem Ln:typeLookup (.type "list_reverseiterator") "__len__"=pure Zr:=by rw[U7,Um];kernel_rfl
theorem Kv:typeLookup (.type "list_reverseiterator") "__length_hint__"=pure (Zq (.builtin "list_reverseiterator.__length_hint__")):=by rw[U7,Um];kernel_rfl
section
variable{prog:Program}{w:SM}{A:Td}{E:Su->Sy->Prop}{s:Sy}
theorem Hx{Q:Su->Sy->Prop}{I l:Sv}{items:Array Su}(hh:A.handled=Zr)(hit:s.heap.IsRevIter I l ((items.size:Int)-1))(hl:s.heap.IsList l items)(hne:l≠I)(hn:items.size<=sizeLine)
  (hQ:∀h' tk ś c',(∀b o,b≠I->s.heap.get? b=Zq o->h'.get? b=Zq o)->h'.get? ⇑s=Zq { cls:=.type "list",dict:=Zr,data:=.seq ś c',slots:=#[] }->ItemsOf (λi v=>items[items.size-1-i]?=Zq v) ś items.size->Q (.ref ⇑s) { s with heap:=h',toks:=tk }) :
  wpAny (SK prog w) A (call (.type "list") [.ref I]) Q E s:=by
 refine YY (Q₁:=λobj s₁=>obj=.ref ⇑s/\s₁={ s with heap:=s.heap.push { cls:=.type "list",data:=.seq #[] } }) PySem.F.called_list (PySem.F.typeCall_list_1 _) PySem.F.entry_list_init
  (code_list_new _ ⟨rfl,rfl⟩) λobj s₁ h₁=>?_
 obtain⟨rfl,rfl⟩:=h₁
 have hS:(s.heap.push { cls:=.type "list",data:=.seq #[] }).get? ⇑s=Zq { cls:=.type "list",data:=.seq #[] }:=SJ _ rfl
 obtain⟨oi,hoi,ri⟩:=id hit
 obtain⟨ol,hol,rl⟩:=id hl
 have nI:=QV (SI hoi)
 have nl:=QV (SI hol)
 have kp:∀b o,s.heap.get? b=Zq o->((s.heap.push { cls:=.type "list",data:=.seq #[] }).update ⇑s (To (λ_=>(#[]:Array Su)))).get? b=Zq o:=λb o e=>(Tp _ _ (QV (SI e))).trans (Sx _ e)
 have hS₂:=TF (To (λ_=>(#[]:Array Su))) hS rfl
 refine{{_,hS,rfl},PySem.F.args_list_init_2 _ _,?_}
 show wpAny _ _ (do let old<-WA (.ref ⇑s);Builtin.List.listUpdate (.ref ⇑s) (λ_=>#[]);letGo old.toList.reverse;TU (.ref ⇑s) (.ref I) .none) _ _ _
 refine E9 ?_
 unfold WA
 refine E9 (wpAny_seqItems hS rfl (Sw ?_))
 show wpAny _ _ (Zj ⇑s (λ_=>#[])>>=λ_=>letGo (#[]:Array Su).toList.reverse>>=λ_=>TU (.ref ⇑s) (.ref I) .none) _ _ _
 refine E9 (WE hS rfl (E9 (wpAny_letGo ?_)))
 generalize (s.heap.push { cls:=.type "list",data:=.seq #[] }).update ⇑s (To (λ_=>(#[]:Array Su)))=h2 at kp hS₂
 have hit2:h2.IsRevIter I l ((items.size:Int)-1):=hit.at λo e=>kp _ o e
 have hT:V5 { s with heap:=h2 } (.ref I) "list_reverseiterator":=hit2.typeIs
 unfold TU
 refine E9 (UW hT ?_)
 have h1:Us (.ref ⇑s) (.ref I)=false:=by simp[Us,nI]
 have n1:(Tz "list_reverseiterator"==Tz "list")=false:=∅
 have n2:(Tz "list_reverseiterator"==Tz "tuple")=false:=∅
 simp only[h1,n1,n2,Sl,Qy,if_false]
 refine E9 (wpAny_pyIter_revIter hit2 (E9 (wpAny_holding ?_)))
 unfold VG
 refine E9 (VC hT Ln ?_)
 refine UG (λŲ=>absurd Ų ∅) (λ_=>UG (λŲ=>absurd Ų ∅) (λ_=>E9 (VC hT Kv ?_)))
 generalize hid:("list_reverseiterator.__length_hint__":String)=id0
 wp_delta
 rw[show splitId id0=Zq ("list_reverseiterator","__length_hint__")from by subst hid;decide+kernel]
 subst hid
 refine E9 (Vt (T:="list_reverseiterator") (b:=true) hT (by rw[Vh];kernel_rfl) (UG (λŲ=>absurd Ų ∅) (λ_=>UG (λ_=>?_) (λŲ=>absurd (by decide+kernel) Ų))))
 refine UG (λŲ=>absurd Ų (by decide+kernel)) (λ_=>Sw ?_)
 refine UG (λŲ=>absurd Ų (by decide+kernel)) (λ_=>Sw {UI VU _,?_})
 refine W2 (Walks.listRev (A:=A.in1.in1) hh I l hne items).toS hn _ (by simp only[Py,P7,or_false,not_or];exact⟨nI,nl⟩) .none items.size 0 _ #[] _ rfl (PZ _) {PZ _,by simpa using hit2,{ol,kp _ _ hol,rl}} hS₂ (ItemsOf.nil _) λs' ś c' hm hS' ď=>?_
 rw[Moved.eq_with hm]
 refine{rfl,hQ s'.heap s'.toks ś c' (λb o hb e=>hm.heap b o (λz=>?_) (kp b o e)) hS' ď}
 rcases Py.mp z with z|z
 ·exact absurd (z▸SI e) (QO _)
 exact hb (Pu.mp z)
end
section
variable{X:Cx}
theorem Bp{e:Expr}{te:TE}{p1 p2 q1 q2:Pos}(z1:X.mg "list"=Zr)(z2:X.mg "reversed"=Zr)(he:PE X e te)(hc:X.calm=true:=by rfl)(g1:Gl X "list":=by rfl)(g2:Gl X "reversed":=by rfl)
  (v1:T6 "list"=Zq (.type "list"):=by boot_by_name) (v2:T6 "reversed"=Zq (.type "reversed"):=by boot_by_name)
  (e1:SG [.Call (.Name "reversed" p2) [e] [] q2] X.env=(false,Ts (.Call (.Name "reversed" p2) [e] [] q2) X.env)::SG [] X.env:=by rfl) (e2:SG [e] X.env=(false,Ts e X.env)::SG [] X.env:=by rfl) :
  PE X (.Call (.Name "list" p1) [.Call (.Name "reversed" p2) [e] [] q2] [] q1) (OR X.K te):=by
 intro pins s B H Q I h
 refine Tu (jO I g1 z1 v1 ?_)
 refine callWith_type1 ?_ e1 rfl
 rw[e1]
 refine Uk ?_
 refine Tu (jO I g2 z2 v2 ?_)
 refine callWith_type1 ?_ e2 rfl
 rw[e2]
 refine Uk (Ì (he pins s B H _ I h) λu s1 z9=>?_)
 obtain⟨x,H1,I1,r1,a,xs,ex,hx,q⟩:=z9
 subst ex
 cases r1
 obtain⟨Â,r,ht,hz⟩:=I1.list hx
 have hl:=ht.isList
 have hlen:=↥r
 have hsz:Â.toArray.size=↥xs:=by rw[P8];exact hlen.symm
 refine UL ?_
 refine call_reversed_list hl ?_
 refine UL ?_
 have hi:=I1.È.fresh (Px ⇑s1)
 have fp:=I1.sv (Px _) hi
 have kp:∀b o,s1.heap.get? b=Zq o->(s1.heap.push (revObj a ((Â.toArray.size:Int)-1))).get? b=Zq o:=λb o e=>Sx _ e
 obtain⟨ol,hol,rl⟩:=id hl
 have Ý:=SI hol
 generalize Ŀ:({ s1 with heap:=s1.heap.push (revObj a ((Â.toArray.size:Int)-1)) }:Sy)=s2
 have k2:∀b o,s1.heap.get? b=Zq o->s2.heap.get? b=Zq o:=λb o e=>by rw[<-Ŀ];exact kp b o e
 have hI2:s2.heap.IsRevIter ⇑s1 a ((Â.toArray.size:Int)-1):=by rw[<-Ŀ];exact{_,SJ _ rfl,rfl,rfl}
 have I2:Inv X pins B H1 s2:=by rw[<-Ŀ];exact I1.kept kp
 refine Hx (I1.ok.hd hc) hI2 {ol,k2 _ _ hol,rl} (Qf Ý) () λh' tk acc c k hS ď=>?_
 have I3:Inv X pins B H1 { s2 with heap:=h',toks:=tk }:=I2.yn (ch:=[⇑s1]) (λb hb=>by rw[Pu.mp hb];exact fp) λb o hb e=>k b o (λz=>hb (Pu.mpr z)) e
 have fS:=I2.sv (Px _) (I2.È.fresh (Px _))
 refine{.ref ⇑s2,_,I3.JS (T:=⇑s2) (u:=.lst xs.reverse) fS I2.sz {by rw[Xj];exact hz,acc.toList,c,?_,by simpa using hS},rfl,q _ (I2.È.fresh (Px _))}
 have hsa:acc.size=Â.toArray.size:=ď.1
 refine jv (by simp[hsa,hlen]) λi x y Ĝ hy=>?_
 have Ν:=ď.2 i y (by rw[<-Qz];exact hy)
 have il:i<acc.size:=by
  have:=(PQ.mp hy).1;simpa using this
 rw[List.getElem?_reverse ()]at Ĝ
 obtain⟨v,e1,e2⟩:=ja r Ĝ
 have:Â[↥xs-1-i]?=Zq y:=by simpa [hlen] using Ν
 rw[e1]at this
 cases this
 exact e2
end
end L2
set_option maxHeartbeats 4000000
namespace K35
open PySem L2
local macro_rules|`($a^ae)=>`(aa $a ae)
local macro_rules|`($a^$b^$c)=>`(aa $a ($b^$c))
theorem Ñ(k:sc.kind=.function:=by rfl)(c:sc.isCoroutine=false:=by rfl)(g:sc.isGenerator=false:=by rfl)(n:N.Nodup:=by decide+kernel)(p:N.take P.length=P:=by rfl)(q:∀x∈P,sc.names.lookup x=Zq .local\/sc.names.lookup x=Zq .cell:=by decide+kernel)(f:∀y∈sc.names,y.2≠ .free:=by decide+kernel):aE N P sc:=⟨k,c,g,n,p,q,f⟩
theorem px(hu:X.A.units+64<Uj)(ha:PE X a ta)(hb:PE X b tb)(hs:Dn b:=by exact λ_ _=>rfl):PE X (.Subscript a b pos) (tOp (Oc X.K) ta tb):=NT (L9 hu) ha hb hs
theorem Ð(hN:X.N.Nodup)(hi:X.N[i]?=Zq x)(hx:Loc X.env.scope x:=by first|exact P1 rfl|exact QQ rfl)(hf:X.fn x=true\/X.env.scope.names.lookup x=Zq .local:=by first|exact .inl rfl|exact .inr rfl|assumption):PG X (.Name x pos) (pM i):=CD hN hi hx hf
theorem Æ(i:Nat)(hN:X.N.Nodup)(he:PE X e te)(hi:X.N[i]?=Zq x:=by rfl)(hx:Loc X.env.scope x:=by first|exact P1 rfl|exact QQ rfl)(hs:W9 e (Zq (.Name x pos')) pos.line X.env=pure false:=by rfl)(hf:X.fn x=true\/X.env.scope.names.lookup x=Zq .local:=by first|exact .inl rfl|exact .inr rfl|assumption):PS X (.Assign [.Name x pos'] e pos) (Jc te (pM i)):=LW hN hi hx he hs hf
theorem à{X:Cx}{id:String}{r:List V->Hp->VK->Prop}{x:Str}{e:Expr}{es:List Expr}{t:TA}{p pos:Pos}(hc:dY X (.builtin id) r)(hm:X.mg x=Zr)(ha:PA X (e::es) t)(hg:Gl X x:=by rfl)(hv:T6 x=Zq (.builtin id):=by boot_by_name)(hn:x≠"__name__":=by decide)(Ď:(x==("__debug__":Str))=false:=by decide)(he:SG (e::es) X.env=(false,Ts e X.env)::SG es X.env:=by rfl)(ÿ:(TB pos (SG es X.env)).any (·.1)=false:=by rfl):PE X (.Call (.Name x p) (e::es) [] pos) (tCB r t):=G8 hc hg hm hv ha hn Ď he ÿ
theorem Ľ(hc:dY X (.type T) r)(hm:X.mg x=Zr)(ha:PA X (e::es) t)(hg:Gl X x:=by rfl)(hv:T6 x=Zq (.type T):=by boot_by_name)(hn:x≠"__name__":=by decide)(Ď:(x==("__debug__":Str))=false:=by decide)(he:SG (e::es) X.env=(false,Ts e X.env)::SG es X.env:=by rfl)(ÿ:(TB pos (SG es X.env)).any (·.1)=false:=by rfl):PE X (.Call (.Name x p) (e::es) [] pos) (tCB r t):=Ea hc hg hm hv ha hn Ď he ÿ
theorem Ë(ho:Ó X (SW op) r)(ha:PE X a ta)(hb:PE X b tb)(hm:U3 op b=false:=by exact Ej _):PT X (.Compare a [op] [b] pos) (Kc (tOp r ta tb)):=II ho ha hb hm
theorem Ϫ(ho:Ó X (SW op) r)(ha:PE X a ta)(hb:PE X b tb)(hm:U3 op b=false:=by exact Ej _):PE X (.Compare a [op] [b] pos) (tOp r ta tb):=IJ ho ha hb hm
abbrev A4:S0:=top 2
theorem Jd:aE ["rank"] ["rank"] (aq A4):=Ñ
abbrev tB:S0:=top 3
theorem Eb:aE ["one","other"] ["one","other"] (aq tB):=Ñ
abbrev oU:S0:=top 5
theorem lV:aE ["value","names","thing"] ["value"] (aq oU):=Ñ
abbrev lK:S0:=top 7
theorem kC:aE ["names","found","name"] ["names"] (aq lK):=Ñ
abbrev oW:S0:=top 24
theorem da:aE ["rows","known","steps","row","more"] ["rows","known"] (aq oW):=Ñ
abbrev iR:S0:=top 25
theorem rD:aE ["row","known"] ["row","known"] (aq iR):=Ñ
abbrev ow:S0:=top 26
theorem zh:aE ["steps"] ["steps"] (aq ow):=Ñ
abbrev jt:S0:=top 27
theorem iO:aE ["row","known","one","other"] ["row","known"] (aq jt):=Ñ
abbrev gE:S0:=top 28
theorem j7:aE ["row","known","steps"] ["row","known"] (aq gE):=Ñ
abbrev oq:S0:=top 29
theorem yK:aE ["row","known"] ["row","known"] (aq oq):=Ñ
abbrev su:S0:=top 30
theorem qx:aE ["program","known","deed"] ["program"] (aq su):=Ñ
abbrev mY:S0:=top 33
theorem xv:aE ["number"] ["number"] (aq mY):=Ñ
abbrev mJ:S0:=top 34
theorem gW:aE ["rows","place","loop","found","row"] ["rows","place","loop"] (aq mJ):=Ñ
abbrev jx:S0:=top 35
theorem mW:aE ["row","loop","here"] ["row","loop"] (aq jx):=Ñ
abbrev iI:S0:=top 36
theorem gw:aE ["program","found","deed"] ["program"] (aq iI):=Ñ
abbrev ox:S0:=top 37
theorem yY:aE ["row"] ["row"] (aq ox):=Ñ
abbrev jE:S0:=top 38
theorem i5:aE ["heads","found","head"] ["heads"] (aq jE):=Ñ
abbrev uJ:S0:=top 39
theorem ic:aE ["program","found","deed","row","place","loop"] ["program"] (aq uJ):=Ñ
abbrev xc:S0:=top 41
theorem Fs:aE ["froms","into","kind","number"] ["froms","into","kind","number"] (aq xc):=Ñ
abbrev lW:S0:=top 42
theorem pF:aE ["row","place","loop","parts_of","here"] ["row","place","loop","parts_of"] (aq lW):=Ñ
abbrev kE:S0:=top 43
theorem oa:aE ["row","place","found"] ["row","place"] (aq kE):=Ñ
abbrev ig:S0:=top 44
theorem dv:aE ["row","place","parts","found","thing","part","into"] ["row","place","parts"] (aq ig):=Ñ
abbrev kz:S0:=top 45
theorem nU:aE ["row","known","here"] ["row","known"] (aq kz):=Ñ
abbrev yi:S0:=top 46
theorem iS:aE ["program","steps","parts_of","known","found","row","place","loop"] ["program","steps"] (aq yi):=Ñ
abbrev qg:S0:=top 48
theorem AV:aE ["program"] ["program"] (aq qg):=Ñ
abbrev kP:S0:=top 49
theorem vm:aE ["program","rank"] ["program","rank"] (aq kP):=Ñ
abbrev qc:S0:=top 50
theorem ou:aE ["program","steps","ways","link"] ["program","steps"] (aq qc):=Ñ
abbrev oR:S0:=top 51
theorem dO:aE ["ways","starts","came","waiting","at","here","link"] ["ways","starts"] (aq oR):=Ñ
abbrev xI:S0:=top 52
theorem ni:aE ["program","steps","ways","bits","rank","place"] ["program","steps"] (aq xI):=Ñ
abbrev xx:S0:=top 53
theorem lR:aE ["program","place","rank","steps","came","found","link"] ["program","place","rank","steps"] (aq xx):=Ñ
abbrev jU:S0:=top 55
theorem iB:aE ["_law_script","_law_k","_law_cell"] ["_law_script","_law_k"] (aq jU):=Ñ
abbrev oM:S0:=top 56
theorem zM:aE ["_law_script","_law_at","_law_many"] ["_law_script","_law_at","_law_many"] (aq oM):=Ñ
abbrev qr:S0:=top 57
theorem iA:aE ["_law_cell","_law_k","_law_digits","_law_ahead","_law_number"] ["_law_cell","_law_k"] (aq qr):=Ñ
abbrev ny:S0:=top 58
theorem bR:aE ["_law_cell","_law_other","_law_many","_law_words","_law_letters","_law_step","_law_found","_law_k","_law_number","_law_word"] ["_law_cell","_law_other","_law_many"] (aq ny):=Ñ
abbrev oF:S0:=top 59
theorem zK:aE ["_law_some","_law_number"] ["_law_some","_law_number"] (aq oF):=Ñ
abbrev lQ:S0:=top 60
theorem dq:aE ["_law_names_here","_law_cell","_law_ranks","_law_rows","_law_turn"] ["_law_names_here","_law_cell"] (aq lQ):=Ñ
abbrev mj:S0:=top 61
theorem kJ:aE ["_law_names_here","_law_parts","_law_targets","_law_found"] ["_law_names_here","_law_parts"] (aq mj):=Ñ
abbrev mH:S0:=top 62
theorem yk:aE ["_law_number","_law_scope_here"] ["_law_number","_law_scope_here"] (aq mH):=Ñ
abbrev nz:S0:=top 63
theorem gR:aE ["_law_cell","_law_scope_here","_law_one","_law_other","_law_number"] ["_law_cell","_law_scope_here"] (aq nz):=Ñ
abbrev mS:S0:=top 64
theorem fz:aE ["_law_state","_law_cell","_law_scope_here","_law_way","_law_value_here","_law_number","_law_target"] ["_law_state","_law_cell","_law_scope_here"] (aq mS):=Ñ
abbrev kL:S0:=top 65
theorem dB:aE ["_law_state","_law_cell","_law_scope_here","_law_loop","_law_number","_law_left","_law_right","_law_many"] ["_law_state","_law_cell","_law_scope_here","_law_loop"] (aq kL):=Ñ
abbrev kW:S0:=top 66
theorem uX:aE ["_law_state"] ["_law_state"] (aq kW):=Ñ
abbrev qB:S0:=top 67
theorem iG:aE ["_law_state","_law_cell","_law_scope_here","_law_way","_law_name","_law_many","_law_cost"] ["_law_state","_law_cell","_law_scope_here"] (aq qB):=Ñ
abbrev oj:S0:=top 68
theorem nh:aE ["_law_state","_law_cells","_law_scope_here","_law_room","_law_found","_law_cell"] ["_law_state","_law_cells","_law_scope_here","_law_room"] (aq oj):=Ñ
abbrev om:S0:=top 69
theorem bM:aE ["_law_script","_law_names_here","_law_cell","_law_state","_law_rows","_law_at","_law_k","_law_start","_law_name","_law_parts","_law_many","_law_cells"] ["_law_script","_law_names_here"] (aq om):=Ñ
abbrev iJ:S0:=top 70
theorem rG:aE ["_law_row_here","_law_number"] ["_law_row_here","_law_number"] (aq iJ):=Ñ
abbrev gM:S0:=top 71
theorem aW:aE ["_law_flat_here","_law_at","_law_found","_law_row_here","_law_number","_law_first","_law_other","_law_body_here"] ["_law_flat_here","_law_at"] (aq gM):=Ñ
abbrev jZ:S0:=top 72
theorem bw:aE ["_law_flat_here","_law_heads_here","_law_deeds","_law_at","_law_number","_law_body_here","_law_end","_law_main"] ["_law_flat_here"] (aq jZ):=Ñ
abbrev lX:S0:=top 73
theorem aU:aE ["_law_flat_here","_law_at","_law_known","_law_total","_law_row_here","_law_more_here","_law_one","_law_other"] ["_law_flat_here","_law_at","_law_known"] (aq lX):=Ñ
abbrev ij:S0:=top 74
theorem bG:aE ["_law_flat_here","_law_at","_law_known","_law_row_here","_law_one","_law_end","_law_other","_law_high"] ["_law_flat_here","_law_at","_law_known"] (aq ij):=Ñ
abbrev gN:S0:=top 75
theorem bL:aE ["_law_flat_here","_law_cell","_law_known","_law_begins","_law_k","_law_at","_law_total","_law_end"] ["_law_flat_here","_law_cell"] (aq gN):=Ñ
abbrev ql:S0:=top 76
theorem dm:aE ["_law_some","_law_begins","_law_far_here","_law_place","_law_level","_law_grown","_law_link"] ["_law_some","_law_begins"] (aq ql):=Ñ
abbrev lU:S0:=top 77
theorem gZ:aE ["_law_found","_law_some","_law_begins","_law_place","_law_many","_law_at","_law_link"] ["_law_found","_law_some","_law_begins","_law_place","_law_many"] (aq lU):=Ñ
abbrev sZ:S0:=top 78
theorem cR:aE ["_law_script","_law_names_here","_law_flat_here","_law_known","_law_program_here","_law_by","_law_some","_law_rows","_law_spots","_law_rank","_law_begins","_law_far_here","_law_k","_law_place","_law_found","_law_again"] ["_law_script"] (aq sZ):=Ñ
abbrev fH:S0:=Zu (top 8) 0
theorem yF:aE ["self","number"] ["self","number"] (aq fH):=Ñ
abbrev iP:S0:=Zu (top 9) 0
theorem rh:aE ["self","number","name","rank"] ["self","number","name","rank"] (aq iP):=Ñ
abbrev gD:S0:=Zu (top 10) 0
theorem qF:aE ["self","number","name","rank","size"] ["self","number","name","rank","size"] (aq gD):=Ñ
abbrev jM:S0:=Zu (top 11) 0
theorem sY:aE ["self","number","name","size"] ["self","number","name","size"] (aq jM):=Ñ
abbrev jQ:S0:=Zu (top 12) 0
theorem sC:aE ["self","number","name","rank"] ["self","number","name","rank"] (aq jQ):=Ñ
abbrev jL:S0:=Zu (top 13) 0
theorem uF:aE ["self","number","name","value"] ["self","number","name","value"] (aq jL):=Ñ
abbrev iy:S0:=Zu (top 13) 2
theorem qW:aE ["self"] ["self"] (aq iy):=Ñ
abbrev jS:S0:=Zu (top 14) 0
theorem tN:aE ["self","number","name","place","value"] ["self","number","name","place","value"] (aq jS):=Ñ
abbrev iw:S0:=Zu (top 14) 2
theorem rp:aE ["self"] ["self"] (aq iw):=Ñ
abbrev i6:S0:=Zu (top 15) 0
theorem ra:aE ["self","number","name","value"] ["self","number","name","value"] (aq i6):=Ñ
abbrev gJ:S0:=Zu (top 15) 2
theorem pY:aE ["self"] ["self"] (aq gJ):=Ñ
abbrev jJ:S0:=Zu (top 16) 0
theorem uy:aE ["self","number","name","value","mark"] ["self","number","name","value","mark"] (aq jJ):=Ñ
abbrev iN:S0:=Zu (top 17) 0
theorem rg:aE ["self","number","name","things"] ["self","number","name","things"] (aq iN):=Ñ
abbrev kQ:S0:=Zu (top 19) 0
theorem uS:aE ["self","number","value","first","other","left","right"] ["self","number","value","first","other","left","right"] (aq kQ):=Ñ
abbrev jz:S0:=Zu (top 19) 2
theorem tP:aE ["self"] ["self"] (aq jz):=Ñ
abbrev iC:S0:=Zu (top 20) 0
theorem qX:aE ["self","number","thing","most","body","left","right"] ["self","number","thing","most","body","left","right"] (aq iC):=Ñ
abbrev gr:S0:=Zu (top 20) 2
theorem pZ:aE ["self"] ["self"] (aq gr):=Ñ
abbrev i8:S0:=Zu (top 21) 0
theorem rq:aE ["self","number","name","parts","body"] ["self","number","name","parts","body"] (aq i8):=Ñ
abbrev iH:S0:=Zu (top 22) 0
theorem q4:aE ["self","heads","deeds","main"] ["self","heads","deeds","main"] (aq iH):=Ñ
structure Ö where
 Row:Sv
 cA:Sv
 bN:Sv
 dC:Sv
 dF:Sv
 cV:Sv
 cF:Sv
 b7:Sv
 cU:Sv
 cD:Sv
 dJ:Sv
 cX:Sv
 bz:Sv
 bZ:Sv
 Program:Sv
structure Txt(K:SE)(mg:Str->Option Su)(A:Ö):Prop where
 only:ba K mg "only" A4 ["rank"]
 joined:ba K mg "joined" tB ["one","other"]
 uv:ba K mg "names_in" oU ["value"]
 qa:ba K mg "each_once" lK ["names"]
 eg:ba K mg "exact_of" oW ["rows","known"]
 fw:ba K mg "exact_of_row" iR ["row","known"]
 tW:ba K mg "one_more" ow ["steps"]
 jk:ba K mg "exact_of_if" jt ["row","known"]
 fY:ba K mg "exact_of_loop" gE ["row","known"]
 balanced:ba K mg "balanced" oq ["row","known"]
 Aq:ba K mg "exacts" su ["program"]
 qh:ba K mg "row_place" mY ["number"]
 hV:ba K mg "laid_rows" mJ ["rows","place","loop"]
 jo:ba K mg "laid_inside" jx ["row","loop"]
 kS:ba K mg "laid_program" iI ["program"]
 sD:ba K mg "is_place" ox ["row"]
 mX:ba K mg "head_places" jE ["heads"]
 places:ba K mg "places" uJ ["program"]
 drawn:ba K mg "drawn" xc ["froms","into","kind","number"]
 qM:ba K mg "row_links" lW ["row","place","loop","parts_of"]
 oE:ba K mg "said_links" kE ["row","place"]
 kX:ba K mg "called_links" ig ["row","place","parts"]
 oH:ba K mg "step_links" kz ["row","known"]
 links:oV K mg "links" yi ["program","steps"] [.bl false]
 sources:ba K mg "sources" qg ["program"]
 oy:ba K mg "sources_of" kP ["program","rank"]
 xw:ba K mg "ways_of" qc ["program","steps"]
 tU:ba K mg "arrivals" oR ["ways","starts"]
 table:oV K mg "table" xI ["program","steps"] [.bl false]
 chain:qi K mg "chain" xx ["program","place","rank","steps"] [.bl false]
 l8:ba K mg "_law_cell_at" jU ["_law_script","_law_k"]
 uq:ba K mg "_law_more" oM ["_law_script","_law_at","_law_many"]
 wL:ba K mg "_law_mix" qr ["_law_cell","_law_k"]
 qo:ba K mg "_law_names" ny ["_law_cell","_law_other","_law_many"]
 tZ:ba K mg "_law_pick" oF ["_law_some","_law_number"]
 qy:ba K mg "_law_heads" lQ ["_law_names_here","_law_cell"]
 qL:ba K mg "_law_scope" mj ["_law_names_here","_law_parts"]
 qe:ba K mg "_law_thing" mH ["_law_number","_law_scope_here"]
 qE:ba K mg "_law_value" nz ["_law_cell","_law_scope_here"]
 qG:ba K mg "_law_plain" mS ["_law_state","_law_cell","_law_scope_here"]
 oO:ba K mg "_law_opened" kL ["_law_state","_law_cell","_law_scope_here","_law_loop"]
 oN:ba K mg "_law_closed" kW ["_law_state"]
 xQ:ba K mg "_law_row" qB ["_law_state","_law_cell","_law_scope_here"]
 uA:ba K mg "_law_body" oj ["_law_state","_law_cells","_law_scope_here","_law_room"]
 sI:ba K mg "_law_flat" om ["_law_script","_law_names_here"]
 ku:ba K mg "_law_row_made" iJ ["_law_row_here","_law_number"]
 dA:ba K mg "_law_rows_made" gM ["_law_flat_here","_law_at"]
 mB:ba K mg "_law_program" jZ ["_law_flat_here"]
 hU:ba K mg "_law_exact" lX ["_law_flat_here","_law_at","_law_known"]
 kT:ba K mg "_law_even_row" ij ["_law_flat_here","_law_at","_law_known"]
 jr:ba K mg "_law_evened_by" gN ["_law_flat_here","_law_cell"]
 xC:ba K mg "_law_far" ql ["_law_some","_law_begins"]
 qj:ba K mg "_law_chain" lU ["_law_found","_law_some","_law_begins","_law_place","_law_many"]
 oG:mg "dict"=Zr
 aG:mg "isinstance"=Zr
 gO:mg "len"=Zr
 dG:mg "list"=Zr
 Cf:mg "max"=Zr
 dj:mg "range"=Zr
 kK:mg "reversed"=Zr
 CZ:mg "set"=Zr
 l9:mg "sorted"=Zr
 zX:mg "str"=Zr
 rO:mg "tuple"=Zr
 BB:mg "zip"=Zr
 r8:∃t,mg "CLOCK"=Zq (.str "the clock" t)
 kg:fF K mg A.Row "Row" [A.Row]
 sW:ĉ K A.Row "__init__" "Row.__init__" fH ["self","number"]
 j6:fF K mg A.cA "HandRow" [A.cA,A.Row]
 iU:ĉ K A.cA "__init__" "HandRow.__init__" iP ["self","number","name","rank"]
 lO:aL K A.cA "name"
 lP:aL K A.cA "rank"
 fP:aL K A.cA "number"
 cQ:fF K mg A.bN "GivenRow" [A.bN,A.Row]
 gu:ĉ K A.bN "__init__" "GivenRow.__init__" gD ["self","number","name","rank","size"]
 eN:aL K A.bN "name"
 gz:aL K A.bN "rank"
 lF:aL K A.bN "size"
 fA:aL K A.bN "number"
 iX:fF K mg A.dC "OwnRow" [A.dC,A.Row]
 jY:ĉ K A.dC "__init__" "OwnRow.__init__" jM ["self","number","name","size"]
 jC:aL K A.dC "name"
 nW:aL K A.dC "size"
 gy:aL K A.dC "number"
 dX:fF K mg A.dF "LetRow" [A.dF,A.Row]
 jD:ĉ K A.dF "__init__" "LetRow.__init__" jQ ["self","number","name","rank"]
 gg:aL K A.dF "name"
 j1:aL K A.dF "rank"
 gL:aL K A.dF "number"
 fo:fF K mg A.cV "SetRow" [A.cV,A.Row]
 jR:ĉ K A.cV "__init__" "SetRow.__init__" jL ["self","number","name","value"]
 i9:ĉ K A.cV "reads" "SetRow.reads" iy ["self"]
 jG:aL K A.cV "name"
 ir:aL K A.cV "value"
 gG:aL K A.cV "number"
 dZ:fF K mg A.cF "PutRow" [A.cF,A.Row]
 jB:ĉ K A.cF "__init__" "PutRow.__init__" jS ["self","number","name","place","value"]
 iu:ĉ K A.cF "reads" "PutRow.reads" iw ["self"]
 jH:aL K A.cF "name"
 iq:aL K A.cF "place"
 iz:aL K A.cF "value"
 gx:aL K A.cF "number"
 dz:fF K mg A.b7 "SendRow" [A.b7,A.Row]
 iM:ĉ K A.b7 "__init__" "SendRow.__init__" i6 ["self","number","name","value"]
 gI:ĉ K A.b7 "reads" "SendRow.reads" gJ ["self"]
 mU:aL K A.b7 "name"
 gH:aL K A.b7 "value"
 fO:aL K A.b7 "number"
 cz:fF K mg A.cU "SayRow" [A.cU,A.Row]
 js:ĉ K A.cU "__init__" "SayRow.__init__" jJ ["self","number","name","value","mark"]
 fZ:aL K A.cU "name"
 mC:aL K A.cU "value"
 jI:aL K A.cU "mark"
 b8:aL K A.cU "number"
 cG:fF K mg A.cD "CallRow" [A.cD,A.Row]
 iD:ĉ K A.cD "__init__" "CallRow.__init__" iN ["self","number","name","things"]
 dQ:aL K A.cD "name"
 fL:aL K A.cD "things"
 cW:aL K A.cD "number"
 ib:fF K mg A.dJ "LastRow" [A.dJ,A.Row]
 nB:ĉ K A.dJ "__init__" "Row.__init__" fH ["self","number"]
 fW:aL K A.dJ "number"
 cv:fF K mg A.cX "IfRow" [A.cX,A.Row]
 kG:ĉ K A.cX "__init__" "IfRow.__init__" kQ ["self","number","value","first","other","left","right"]
 jX:ĉ K A.cX "reads" "IfRow.reads" jz ["self"]
 jF:aL K A.cX "value"
 gc:aL K A.cX "first"
 gb:aL K A.cX "other"
 gX:aL K A.cX "left"
 jW:aL K A.cX "right"
 iZ:aL K A.cX "number"
 bB:fF K mg A.bz "LoopRow" [A.bz,A.Row]
 iF:ĉ K A.bz "__init__" "LoopRow.__init__" iC ["self","number","thing","most","body","left","right"]
 gA:ĉ K A.bz "reads" "LoopRow.reads" gr ["self"]
 gq:aL K A.bz "thing"
 iQ:aL K A.bz "most"
 fB:aL K A.bz "body"
 iY:aL K A.bz "left"
 eA:aL K A.bz "right"
 fM:aL K A.bz "number"
 cw:fF K mg A.bZ "DeedRow" [A.bZ,A.Row]
 iK:ĉ K A.bZ "__init__" "DeedRow.__init__" i8 ["self","number","name","parts","body"]
 c0:aL K A.bZ "name"
 er:aL K A.bZ "parts"
 eY:aL K A.bZ "body"
 fQ:aL K A.bZ "number"
 dw:fF K mg A.Program "Program" [A.Program]
 iW:ĉ K A.Program "__init__" "Program.__init__" iH ["self","heads","deeds","main"]
 eI:aL K A.Program "heads"
 cI:aL K A.Program "deeds"
 i7:aL K A.Program "main"
 bK:OfC K A.Row "__init__"
 nd:[A.Row,A.cA,A.bN,A.dC,A.dF,A.cV,A.cF,A.b7,A.cU,A.cD,A.dJ,A.cX,A.bz,A.bZ,A.Program].Nodup
section
variable{P:Program}{w:SM}{K:SE}{mg:Str->Option Su}{base:Tb}{A:Ö}
theorem Í(h:H p=Zr) (o):aj H (upd H p o)/\upd H p o p=Zq o:=⟨aj.upd h o,ao⟩
theorem sz(h:n<=1000):n<=sizeLine:=Rp (aH h)
theorem cb(x:Int)(hm:0<m):0<=x%m/\x%m<m:={YE x (show m≠0 by lia),XW x hm}
theorem IU(h0:0<=k)(h1:k<(↥xs:Int)):∃x,xs[k.toNat]?=Zq x/\ĭ xs k=Zq x:=by
 have hk:k.toNat<↥xs:=()
 have e:=hJ (xs:=xs) (j:=k.toNat) (PB hk);rw[show((k.toNat:Nat):Int)=k by lia]at e;exact{_,PB hk,e}
theorem JC (i j):decide (V.int i=V.int j)=decide (i=j):=decide_eq_decide.mpr {λh=>V.int.inj h,λh=>by rw[h]}
theorem Pg (i j):decide (V.str i=V.str j)=decide (i=j):=decide_eq_decide.mpr {λh=>V.str.inj h,λh=>by rw[h]}
theorem gj{α:Type}(xs:List α):xs.filter (λ_=>true)=xs:=List.filter_eq_self.mpr λ_ _=>rfl
theorem DV(h0:-(2^64)<a)(h1:a<2^64):AU a b:=P1 ⟨h0,h1⟩
theorem aj.out(s:aj H0 H)(h:H0 x=Zr) (u):aj H0 (upd H x u):=λa o q=>by
 rw[aP (λz=>by rw[z,h]at q;cases q)];exact s a o q
theorem au(n:a≠x)(e:H a=Zq o):upd H x u a=Zq o:=by rw[aP n];exact e
theorem Zs{H:Hp}(h:H x=Zr)(e:H y=Zq o):x≠y:=λz=>by rw[z,e]at h;cases h
def Ks(H0:Hp)(x:Sv)(H:Hp):List (Sv×HO)->Prop
 | []=>True
 |p::ks=>(H p.1=Zq p.2/\p.1≠x/\H0 p.1=Zr)/\Ks H0 x H ks
theorem Ks.imp(f:∀a o,a≠x->H a=Zq o->H' a=Zq o):∀{ks:List (Sv×HO)},Ks H0 x H ks->Ks H0 x H' ks
 | [],_=>trivial
 |_::_,⟨⟨h1,h2,h3⟩,t⟩=>{{f _ _ h2 h1,h2,h3},Ks.imp f t}
structure IA(K:SE)(H0:Hp)(x C dx:Sv)(fs:List (Str×V))(m:Nat)(ks:List (Sv×HO))(H:Hp):Prop where
 s:aj H0 H
 i:H x=Zq (.ins C dx fs)
 k:Ks H0 x H ks
 x:H0 x=Zr
 c:œ K C
 l:↥fs<=m
theorem IA.one{H x C dx}(hx:H x=Zr)(hd:H dx=Zr)(c:œ K C):IA K H x C dx [] 0 [] (upd (upd H dx (.own x)) x (.ins C dx [])):={aj.out (aj.upd hd _) hx _,ao,trivial,hx,c,Px _}
section
variable{H0 H:Hp}{x C dx:Sv}{fs:List (Str×V)}{m:Nat}{ks:List (Sv×HO)}
theorem BF (f v):∀fs,(ip f v fs).length<=↥fs+1
 | []=>Px _
 | (g,x)::r=>by
  unfold ip;split
  ·exact Q7 _
  exact RN (BF f v r)
theorem IA.put(a:IA K H0 x C dx fs m ks H) (f v):IA K H0 x C dx (ip f v fs) (m+1) ks (upd H x (.ins C dx (ip f v fs))):={aj.out a.s a.x _,ao,a.k.imp λ_ _ h e=>au h e,a.x,a.c,P2 (BF f v fs) (RN a.l)}
theorem IA.fld(a:IA K H0 x C dx fs m ks H)(n:aL K C f)(k:∀H',IA K H0 x C dx (ip f v fs) (m+1) ks H'->Q H')(l:m<1000:=by decide):Mz K f v (.ref x) H Q:={x,C,dx,fs,rfl,a.i,a.c,n,RC a.l l,k _ (a.put _ _)}
theorem IA.nw(a:IA K H0 x C dx fs m ks H)(hn:H n=Zr) (o):IA K H0 x C dx fs m ((n,o)::ks) (upd H n o):=
 have e:n≠x:=Zs hn (a.i)
 {a.s.trans (aj.upd hn _),au e.symm a.i,{⟨ao,e,aj.free a.s hn⟩,a.k.imp λ_ _ _ h=>aj.upd hn _ _ _ h},a.x,a.c,a.l}
end
inductive gk(K:SE)(A:Ö)(vs:List V)(H:Hp)(Q:VK)(Ä:XK):Prop
 |mk (x C dx fs n):vs=[.ref x,n]->H x=Zq (.ins C dx fs)->œ K C->aL K C "number"->↥fs<1000->Q .Ê (upd H x (.ins C dx (ip "number" n fs)))->gk K A vs H Q Ä
theorem nY(F:ĉ K C "__init__" "Row.__init__" fH ["self","number"]):zi P w K mg base 2 C "__init__" ["self","number"] (gk K A):=by
 refine F.hs (k:=1) yF (λf Ã A' outer s H vs Q E hr hu h=>?_);obtain⟨x,C,dx,fs,n,rfl,hx,c,na,hl,q⟩:=h;exact{_,(ai (bh (fv 0) (fv 1) rfl)),⟨x,C,dx,fs,rfl,hx,c,na,hl,q⟩}
theorem cc(T:Txt K mg A):zi P w K mg base 2 A.Row "__init__" ["self","number"] (gk K A):=nY T.sW
theorem IA.row{H0 H x C dx ks v Q}(a:IA K H0 x C dx [] 0 ks H)(n:aL K C "number")(k:∀H',IA K H0 x C dx (ip "number" v []) 1 ks H'->Q .Ê H'):gk K A [.ref x,v] H Q E0:={x,C,dx,[],v,rfl,a.i,a.c,n,∅,k _ (a.put _ _)}
inductive lg(K:SE)(A:Ö)(vs:List V)(G:Hp)(R:VK)(Ä:XK):Prop
 |mk (x dx v0 v1 v2 H):vs=[.ref x,v0,v1,v2]->G=upd (upd H dx (.own x)) x (.ins A.cA dx [])->H x=Zr->H dx=Zr->(∀(H'),aj H H'->H' x=Zq (.ins A.cA dx [("number",v0),("name",v1),("rank",v2)])->R .Ê H')->lg K A vs G R Ä
theorem uI(T:Txt K mg A):T.iU.Hz P w mg base 3 (lg K A):=by
 refine T.iU.hs (k:=2) rh (λf Ã A' outer s G vs R E hr hu h=>?_);obtain⟨x,dx,v0,v1,v2,H,rfl,rfl,hx,hd,q⟩:=h;refine⟨_,(ab (aR (cH T.kg T.bK (cc T) hr (fv 0^fv 1^ae)))
 (ab (bh (fv 0) (fv 2) rfl)
 (ai (bh (fv 0) (fv 3) rfl)))),?_⟩
 exact(IA.one (C:=A.cA) hx hd T.j6.cl).row T.fP λH a=>a.fld T.lO λH a=>a.fld T.lP λH a=>q _ a.s a.i
inductive j5(K:SE)(A:Ö)(vs:List V)(G:Hp)(R:VK)(Ä:XK):Prop
 |mk (x dx v0 v1 v2 v3 H):vs=[.ref x,v0,v1,v2,v3]->G=upd (upd H dx (.own x)) x (.ins A.bN dx [])->H x=Zr->H dx=Zr->(∀(H'),aj H H'->H' x=Zq (.ins A.bN dx [("number",v0),("name",v1),("rank",v2),("size",v3)])->R .Ê H')->j5 K A vs G R Ä
theorem rB(T:Txt K mg A):T.gu.Hz P w mg base 3 (j5 K A):=by
 refine T.gu.hs (k:=2) qF (λf Ã A' outer s G vs R E hr hu h=>?_);obtain⟨x,dx,v0,v1,v2,v3,H,rfl,rfl,hx,hd,q⟩:=h;refine⟨_,(ab (aR (cH T.kg T.bK (cc T) hr (fv 0^fv 1^ae)))
 (ab (bh (fv 0) (fv 2) rfl)
 (ab (bh (fv 0) (fv 3) rfl)
 (ai (bh (fv 0) (fv 4) rfl))))),?_⟩
 exact(IA.one (C:=A.bN) hx hd T.cQ.cl).row T.fA λH a=>a.fld T.eN λH a=>a.fld T.gz λH a=>a.fld T.lF λH a=>q _ a.s a.i
inductive mQ(K:SE)(A:Ö)(vs:List V)(G:Hp)(R:VK)(Ä:XK):Prop
 |mk (x dx v0 v1 v2 H):vs=[.ref x,v0,v1,v2]->G=upd (upd H dx (.own x)) x (.ins A.dC dx [])->H x=Zr->H dx=Zr->(∀(H'),aj H H'->H' x=Zq (.ins A.dC dx [("number",v0),("name",v1),("size",v2)])->R .Ê H')->mQ K A vs G R Ä
theorem uQ(T:Txt K mg A):T.jY.Hz P w mg base 3 (mQ K A):=by
 refine T.jY.hs (k:=2) sY (λf Ã A' outer s G vs R E hr hu h=>?_);obtain⟨x,dx,v0,v1,v2,H,rfl,rfl,hx,hd,q⟩:=h;refine⟨_,(ab (aR (cH T.kg T.bK (cc T) hr (fv 0^fv 1^ae)))
 (ab (bh (fv 0) (fv 2) rfl)
 (ai (bh (fv 0) (fv 3) rfl)))),?_⟩
 exact(IA.one (C:=A.dC) hx hd T.iX.cl).row T.gy λH a=>a.fld T.jC λH a=>a.fld T.nW λH a=>q _ a.s a.i
inductive mK(K:SE)(A:Ö)(vs:List V)(G:Hp)(R:VK)(Ä:XK):Prop
 |mk (x dx v0 v1 v2 H):vs=[.ref x,v0,v1,v2]->G=upd (upd H dx (.own x)) x (.ins A.dF dx [])->H x=Zr->H dx=Zr->(∀(H'),aj H H'->H' x=Zq (.ins A.dF dx [("number",v0),("name",v1),("rank",v2)])->R .Ê H')->mK K A vs G R Ä
theorem ve(T:Txt K mg A):T.jD.Hz P w mg base 3 (mK K A):=by
 refine T.jD.hs (k:=2) sC (λf Ã A' outer s G vs R E hr hu h=>?_);obtain⟨x,dx,v0,v1,v2,H,rfl,rfl,hx,hd,q⟩:=h;refine⟨_,(ab (aR (cH T.kg T.bK (cc T) hr (fv 0^fv 1^ae)))
 (ab (bh (fv 0) (fv 2) rfl)
 (ai (bh (fv 0) (fv 3) rfl)))),?_⟩
 exact(IA.one (C:=A.dF) hx hd T.dX.cl).row T.gL λH a=>a.fld T.gg λH a=>a.fld T.j1 λH a=>q _ a.s a.i
inductive mM(K:SE)(A:Ö)(vs:List V)(G:Hp)(R:VK)(Ä:XK):Prop
 |mk (x dx v0 v1 v2 H):vs=[.ref x,v0,v1,v2]->G=upd (upd H dx (.own x)) x (.ins A.cV dx [])->H x=Zr->H dx=Zr->(∀(H'),aj H H'->H' x=Zq (.ins A.cV dx [("number",v0),("name",v1),("value",v2)])->R .Ê H')->mM K A vs G R Ä
theorem uW(T:Txt K mg A):T.jR.Hz P w mg base 3 (mM K A):=by
 refine T.jR.hs (k:=2) uF (λf Ã A' outer s G vs R E hr hu h=>?_);obtain⟨x,dx,v0,v1,v2,H,rfl,rfl,hx,hd,q⟩:=h;refine⟨_,(ab (aR (cH T.kg T.bK (cc T) hr (fv 0^fv 1^ae)))
 (ab (bh (fv 0) (fv 2) rfl)
 (ai (bh (fv 0) (fv 3) rfl)))),?_⟩
 exact(IA.one (C:=A.cV) hx hd T.fo.cl).row T.gG λH a=>a.fld T.jG λH a=>a.fld T.ir λH a=>q _ a.s a.i
inductive lY(K:SE)(A:Ö)(vs:List V)(G:Hp)(R:VK)(Ä:XK):Prop
 |mk (x dx v0 v1 v2 v3 H):vs=[.ref x,v0,v1,v2,v3]->G=upd (upd H dx (.own x)) x (.ins A.cF dx [])->H x=Zr->H dx=Zr->(∀(H'),aj H H'->H' x=Zq (.ins A.cF dx [("number",v0),("name",v1),("place",v2),("value",v3)])->R .Ê H')->lY K A vs G R Ä
theorem vg(T:Txt K mg A):T.jB.Hz P w mg base 3 (lY K A):=by
 refine T.jB.hs (k:=2) tN (λf Ã A' outer s G vs R E hr hu h=>?_);obtain⟨x,dx,v0,v1,v2,v3,H,rfl,rfl,hx,hd,q⟩:=h;refine⟨_,(ab (aR (cH T.kg T.bK (cc T) hr (fv 0^fv 1^ae)))
 (ab (bh (fv 0) (fv 2) rfl)
 (ab (bh (fv 0) (fv 3) rfl)
 (ai (bh (fv 0) (fv 4) rfl))))),?_⟩
 exact(IA.one (C:=A.cF) hx hd T.dZ.cl).row T.gx λH a=>a.fld T.jH λH a=>a.fld T.iq λH a=>a.fld T.iz λH a=>q _ a.s a.i
inductive lC(K:SE)(A:Ö)(vs:List V)(G:Hp)(R:VK)(Ä:XK):Prop
 |mk (x dx v0 v1 v2 H):vs=[.ref x,v0,v1,v2]->G=upd (upd H dx (.own x)) x (.ins A.b7 dx [])->H x=Zr->H dx=Zr->(∀(H'),aj H H'->H' x=Zq (.ins A.b7 dx [("number",v0),("name",v1),("value",v2)])->R .Ê H')->lC K A vs G R Ä
theorem uE(T:Txt K mg A):T.iM.Hz P w mg base 3 (lC K A):=by
 refine T.iM.hs (k:=2) ra (λf Ã A' outer s G vs R E hr hu h=>?_);obtain⟨x,dx,v0,v1,v2,H,rfl,rfl,hx,hd,q⟩:=h;refine⟨_,(ab (aR (cH T.kg T.bK (cc T) hr (fv 0^fv 1^ae)))
 (ab (bh (fv 0) (fv 2) rfl)
 (ai (bh (fv 0) (fv 3) rfl)))),?_⟩
 exact(IA.one (C:=A.b7) hx hd T.dz.cl).row T.fO λH a=>a.fld T.mU λH a=>a.fld T.gH λH a=>q _ a.s a.i
inductive nu(K:SE)(A:Ö)(vs:List V)(G:Hp)(R:VK)(Ä:XK):Prop
 |mk (x dx v0 v1 v2 v3 H):vs=[.ref x,v0,v1,v2,v3]->G=upd (upd H dx (.own x)) x (.ins A.cU dx [])->H x=Zr->H dx=Zr->(∀(H'),aj H H'->H' x=Zq (.ins A.cU dx [("number",v0),("name",v1),("value",v2),("mark",v3)])->R .Ê H')->nu K A vs G R Ä
theorem uU(T:Txt K mg A):T.js.Hz P w mg base 3 (nu K A):=by
 refine T.js.hs (k:=2) uy (λf Ã A' outer s G vs R E hr hu h=>?_);obtain⟨x,dx,v0,v1,v2,v3,H,rfl,rfl,hx,hd,q⟩:=h;refine⟨_,(ab (aR (cH T.kg T.bK (cc T) hr (fv 0^fv 1^ae)))
 (ab (bh (fv 0) (fv 2) rfl)
 (ab (bh (fv 0) (fv 3) rfl)
 (ai (bh (fv 0) (fv 4) rfl))))),?_⟩
 exact(IA.one (C:=A.cU) hx hd T.cz.cl).row T.b8 λH a=>a.fld T.fZ λH a=>a.fld T.mC λH a=>a.fld T.jI λH a=>q _ a.s a.i
inductive la(K:SE)(A:Ö)(vs:List V)(G:Hp)(R:VK)(Ä:XK):Prop
 |mk (x dx v0 v1 t0 l0 H):vs=[.ref x,v0,v1,.ref t0]->G=upd (upd H dx (.own x)) x (.ins A.cD dx [])->H x=Zr->H dx=Zr->À K H t0 l0->(∀(n0 H'),H n0=Zr->aj H H'->H' n0=Zq (.lst l0)->H' x=Zq (.ins A.cD dx [("number",v0),("name",v1),("things",.ref n0)])->R .Ê H')->la K A vs G R Ä
theorem uO(T:Txt K mg A):T.iD.Hz P w mg base 3 (la K A):=by
 refine T.iD.hs (k:=2) rg (λf Ã A' outer s G vs R E hr hu h=>?_);obtain⟨x,dx,v0,v1,t0,l0,H,rfl,rfl,hx,hd,s0,q⟩:=h;refine⟨_,(ab (aR (cH T.kg T.bK (cc T) hr (fv 0^fv 1^ae)))
 (ab (bh (fv 0) (fv 2) rfl)
 (ai (bh (fv 0) (Ľ jP T.dG (fv 3^ae)) rfl)))),?_⟩
 refine(IA.one (C:=A.cD) hx hd T.cG.cl).row T.cW λH a=>a.fld T.dQ λH a=>{_,l0,rfl,.inl (a.s.seq s0),λn0 f=>?_};replace a:=a.nw f (.lst l0);exact a.fld T.fL λH a=>q n0 _ a.k.1.2.2 a.s a.k.1.1 a.i
inductive nT(K:SE)(A:Ö)(vs:List V)(G:Hp)(R:VK)(Ä:XK):Prop
 |mk (x dx v0 v1 v2 v3 t0 t1 l0 l1 H):vs=[.ref x,v0,v1,.ref t0,.ref t1,v2,v3]->G=upd (upd H dx (.own x)) x (.ins A.cX dx [])->H x=Zr->H dx=Zr->À K H t0 l0->À K H t1 l1->(∀(n0 n1 H'),H n0=Zr->H n1=Zr->aj H H'->H' n0=Zq (.lst l0)->H' n1=Zq (.lst l1)->H' x=Zq (.ins A.cX dx [("number",v0),("value",v1),("first",.ref n0),("other",.ref n1),("left",v2),("right",v3)])->R .Ê H')->nT K A vs G R Ä
theorem w8(T:Txt K mg A):T.kG.Hz P w mg base 3 (nT K A):=by
 refine T.kG.hs (k:=2) uS (λf Ã A' outer s G vs R E hr hu h=>?_);obtain⟨x,dx,v0,v1,v2,v3,t0,t1,l0,l1,H,rfl,rfl,hx,hd,s0,s1,q⟩:=h;refine⟨_,(ab (aR (cH T.kg T.bK (cc T) hr (fv 0^fv 1^ae)))
 (ab (bh (fv 0) (fv 2) rfl)
 (ab (bh (fv 0) (Ľ jP T.dG (fv 3^ae)) rfl)
 (ab (bh (fv 0) (Ľ jP T.dG (fv 4^ae)) rfl)
 (ab (bh (fv 0) (fv 5) rfl)
 (ai (bh (fv 0) (fv 6) rfl))))))),?_⟩
 refine(IA.one (C:=A.cX) hx hd T.cv.cl).row T.iZ λH a=>a.fld T.jF λH a=>{_,l0,rfl,.inl (a.s.seq s0),λn0 f=>?_};replace a:=a.nw f (.lst l0);refine a.fld T.gc λH a=>{_,l1,rfl,.inl (a.s.seq s1),λn1 f=>?_};replace a:=a.nw f (.lst l1);exact a.fld T.gb λH a=>a.fld T.gX λH a=>a.fld T.jW λH a=>q n0 n1 _ a.k.2.1.2.2 a.k.1.2.2 a.s a.k.2.1.1 a.k.1.1 a.i
inductive lB(K:SE)(A:Ö)(vs:List V)(G:Hp)(R:VK)(Ä:XK):Prop
 |mk (x dx v0 v1 v2 v3 v4 t0 l0 H):vs=[.ref x,v0,v1,v2,.ref t0,v3,v4]->G=upd (upd H dx (.own x)) x (.ins A.bz dx [])->H x=Zr->H dx=Zr->À K H t0 l0->(∀(n0 H'),H n0=Zr->aj H H'->H' n0=Zq (.lst l0)->H' x=Zq (.ins A.bz dx [("number",v0),("thing",v1),("most",v2),("body",.ref n0),("left",v3),("right",v4)])->R .Ê H')->lB K A vs G R Ä
theorem tJ(T:Txt K mg A):T.iF.Hz P w mg base 3 (lB K A):=by
 refine T.iF.hs (k:=2) qX (λf Ã A' outer s G vs R E hr hu h=>?_);obtain⟨x,dx,v0,v1,v2,v3,v4,t0,l0,H,rfl,rfl,hx,hd,s0,q⟩:=h;refine⟨_,(ab (aR (cH T.kg T.bK (cc T) hr (fv 0^fv 1^ae)))
 (ab (bh (fv 0) (fv 2) rfl)
 (ab (bh (fv 0) (fv 3) rfl)
 (ab (bh (fv 0) (Ľ jP T.dG (fv 4^ae)) rfl)
 (ab (bh (fv 0) (fv 5) rfl)
 (ai (bh (fv 0) (fv 6) rfl))))))),?_⟩
 refine(IA.one (C:=A.bz) hx hd T.bB.cl).row T.fM λH a=>a.fld T.gq λH a=>a.fld T.iQ λH a=>{_,l0,rfl,.inl (a.s.seq s0),λn0 f=>?_};replace a:=a.nw f (.lst l0);exact a.fld T.fB λH a=>a.fld T.iY λH a=>a.fld T.eA λH a=>q n0 _ a.k.1.2.2 a.s a.k.1.1 a.i
inductive lE(K:SE)(A:Ö)(vs:List V)(G:Hp)(R:VK)(Ä:XK):Prop
 |mk (x dx v0 v1 t0 t1 l0 l1 H):vs=[.ref x,v0,v1,.ref t0,.ref t1]->G=upd (upd H dx (.own x)) x (.ins A.bZ dx [])->H x=Zr->H dx=Zr->À K H t0 l0->À K H t1 l1->(∀(n0 n1 H'),H n0=Zr->H n1=Zr->aj H H'->H' n0=Zq (.lst l0)->H' n1=Zq (.lst l1)->H' x=Zq (.ins A.bZ dx [("number",v0),("name",v1),("parts",.ref n0),("body",.ref n1)])->R .Ê H')->lE K A vs G R Ä
theorem ux(T:Txt K mg A):T.iK.Hz P w mg base 3 (lE K A):=by
 refine T.iK.hs (k:=2) rq (λf Ã A' outer s G vs R E hr hu h=>?_);obtain⟨x,dx,v0,v1,t0,t1,l0,l1,H,rfl,rfl,hx,hd,s0,s1,q⟩:=h;refine⟨_,(ab (aR (cH T.kg T.bK (cc T) hr (fv 0^fv 1^ae)))
 (ab (bh (fv 0) (fv 2) rfl)
 (ab (bh (fv 0) (Ľ jP T.dG (fv 3^ae)) rfl)
 (ai (bh (fv 0) (Ľ jP T.dG (fv 4^ae)) rfl))))),?_⟩
 refine(IA.one (C:=A.bZ) hx hd T.cw.cl).row T.fQ λH a=>a.fld T.c0 λH a=>{_,l0,rfl,.inl (a.s.seq s0),λn0 f=>?_};replace a:=a.nw f (.lst l0);refine a.fld T.er λH a=>{_,l1,rfl,.inl (a.s.seq s1),λn1 f=>?_};replace a:=a.nw f (.lst l1);exact a.fld T.eY λH a=>q n0 n1 _ a.k.2.1.2.2 a.k.1.2.2 a.s a.k.2.1.1 a.k.1.1 a.i
inductive kZ(K:SE)(A:Ö)(vs:List V)(G:Hp)(R:VK)(Ä:XK):Prop
 |mk (x dx t0 t1 t2 l0 l1 l2 H):vs=[.ref x,.ref t0,.ref t1,.ref t2]->G=upd (upd H dx (.own x)) x (.ins A.Program dx [])->H x=Zr->H dx=Zr->À K H t0 l0->À K H t1 l1->À K H t2 l2->(∀(n0 n1 n2 H'),H n0=Zr->H n1=Zr->H n2=Zr->aj H H'->H' n0=Zq (.lst l0)->H' n1=Zq (.lst l1)->H' n2=Zq (.lst l2)->H' x=Zq (.ins A.Program dx [("heads",.ref n0),("deeds",.ref n1),("main",.ref n2)])->R .Ê H')->kZ K A vs G R Ä
theorem tO(T:Txt K mg A):T.iW.Hz P w mg base 3 (kZ K A):=by
 refine T.iW.hs (k:=2) q4 (λf Ã A' outer s G vs R E hr hu h=>?_);obtain⟨x,dx,t0,t1,t2,l0,l1,l2,H,rfl,rfl,hx,hd,s0,s1,s2,q⟩:=h;refine⟨_,(ab (bh (fv 0) (Ľ jP T.dG (fv 1^ae)) rfl)
 (ab (bh (fv 0) (Ľ jP T.dG (fv 2^ae)) rfl)
 (ai (bh (fv 0) (Ľ jP T.dG (fv 3^ae)) rfl)))),?_⟩
 have a:=IA.one (C:=A.Program) hx hd T.dw.cl;refine{_,l0,rfl,.inl (a.s.seq s0),λn0 f=>?_};replace a:=a.nw f (.lst l0);refine a.fld T.eI λH a=>{_,l1,rfl,.inl (a.s.seq s1),λn1 f=>?_};replace a:=a.nw f (.lst l1);refine a.fld T.cI λH a=>{_,l2,rfl,.inl (a.s.seq s2),λn2 f=>?_};replace a:=a.nw f (.lst l2);exact a.fld T.i7 λH a=>q n0 n1 n2 _ a.k.2.2.1.2.2 a.k.2.1.2.2 a.k.1.2.2 a.s a.k.2.2.1.1 a.k.2.1.1 a.k.1.1 a.i
end
section
variable{P:Program}{w:SM}{K:SE}{mg:Str->Option Su}{base:Tb}{A:Ö}{N:Nat->Str}
theorem ag(h:∀N,(∀B H,u D B H->N B H)->t { D with nx:=N } B H):NW t u D B H:=h (u D) λ_ _ z=>z
theorem bT{α β:Type}{F}:∀{l₁:List α}{l₂:List β}{i:Nat}{b:β},Paired F l₁ l₂->l₂[i]?=Zq b->∃a,l₁[i]?=Zq a/\F a b:=by
 intro l₁ l₂ i b h;induction h generalizing i with
 |nil=>intro e;cases e
 |cons h _ ih=>
  intro e;cases i with
  |zero=>cases e;exact{_,rfl,h}
  |succ i=>exact ih (i:=i) e
theorem hZ{α β:Type}(f:β->α->β)(b:β){xs:List α}{i}{x:α}(h:xs[i]?=Zq x):(xs.take (i+1)).foldl f b=f ((xs.take i).foldl f b) x:=by
 rw[Qv,h,R9];rfl
abbrev cls(A:Ö):List Sv:=[A.Row,A.cA,A.bN,A.dC,A.dF,A.cV,A.cF,A.b7,A.cU,A.cD,A.dJ,A.cX,A.bz,A.bZ,A.Program]
theorem Ki(T:Txt K mg A) (i j) (hi:i<15:=by decide) (hj:j<15:=by decide) (h:i≠j:=by decide):(cls A)[i]'hi≠(cls A)[j]'hj:=λe=>h ((RL T.nd).mp e)
theorem OM(O:fF K mg C x up)(hs:C∈up:=by exact PH):Vd K (.ref C) (.ref C)=Zq true:=by
 rw[O.kit O hs,decide_eq_true hs]
theorem Pc(O:fF K mg C x [C,R])(U0z:fF K mg D y vp)(h1:D≠C)(h2:D≠R):Vd K (.ref C) (.ref D)=Zq false:=by
 rw[O.kit U0z PH,decide_eq_false];intro m;rcases Py.mp m with e|m
 ·exact h1 e
 rcases Py.mp m with e|m
 ·exact h2 e
 cases m
theorem lt3:∀i,i<3->i=0\/i=1\/i=2:=∅
def sk(ks:List Key)(f:Key->V):List (Key×V):=ks.map λk=>(k,f k)
theorem wY:∀{ks:List Key},k∈ks->L2.b5 (sk ks f) k=Zq (f k)
 |j::r,m=>by
  by_cases e:j=k
  ·subst e;exact cZ rfl
  refine(cN (r:=sk r f) e).trans (wY ?_);rcases Py.mp m with z|z
  ·exact absurd z.symm e
  exact z
theorem J8:∀{ks:List Key},k∉ks->L2.b5 (sk ks f) k=Zr
 | [],_=>rfl
 |j::r,m=>by
  have e:¬ j=k:=λe=>m (by rw[e];exact PH);exact(cN (p:=(j,f j)) (r:=sk r f) e).trans (J8 λz=>m (PC _ z))
instance memK(k:Key)(ks:List Key):Decidable (k∈ks):=decidable_of_iff ((ks.any λj=>decide (j=k))=true) (by
 rw[Ru];exact{λ⟨j,m,e⟩=>of_decide_eq_true e▸m,λm=>⟨k,m,decide_eq_true rfl⟩})
theorem N0 (k ks):(L2.b5 (sk ks f) k).isSome=decide (k∈ks):=by
 by_cases m:k∈ks
 ·rw[wY m,decide_eq_true m];rfl
 rw[J8 m,decide_eq_false m];rfl
def xZ(f:Key->V)(k:Key)(v:V):Key->V:=λj=>if j=k then v else f j
def ME(ks:List Key)(k:Key):List Key:=if k∈ks then ks else ks++[k]
theorem Lg:Zz (sk ks f) k v=sk (ME ks k) (xZ f k v):=by
 unfold Zz ME;rw[iE,N0];by_cases m:k∈ks
 ·rw[if_pos (decide_eq_true m),if_pos m];unfold sk;rw[QB];refine Rz λj _=>?_;show(if j=k then(j,v)else(j,f j))=(j,xZ f k v j);unfold xZ;split<;>rfl
 rw[if_neg (by rw[decide_eq_false m];exact PU),if_neg m];unfold sk;rw[Qg];show _=_++[(k,xZ f k v k)];rw[show xZ f k v k=v from if_pos rfl];congr 1;refine Rz λj hj=>?_;show(j,f j)=(j,xZ f k v j);rw[show xZ f k v j=f j from if_neg λ(e:j=k)=>m (e▸hj)]
theorem FH (f ks):(sk ks f).length=↥ks:=Pr _
theorem zV(kvs:List (Key×V))(k:Key)(v:V):(Zz kvs k v).length<=↥kvs+1:=by
 unfold Zz;split
 ·rw[Pr];lia
 simp
def ń(A:Ö)(i:Nat):Sv:=(cls A).getD i 0
theorem Gw(T:Txt K mg A)(hi:i<15)(hj:j<15)(h:i≠j):ń A i≠ń A j:=by
 unfold ń;rw[Ql,Ql,PB (show i<(cls A).length from hi),PB (show j<(cls A).length from hj)];exact Ki T i j hi hj h
theorem ye{α:Type}{l:List α}(h:↥l=1):∃a,l=[a]:=by
 cases l with
 |nil=>cases h
 |cons a r=>cases r with
  |nil=>exact⟨a,rfl⟩
  |cons _ _=>cases h
theorem Nd{α:Type}{l:List α}(h:↥l=2):∃a b,l=[a,b]:=by
 cases l with
 |nil=>cases h
 |cons a r=>
  obtain⟨b,rfl⟩:=ye (Nat.succ.inj h);exact⟨a,b,rfl⟩
theorem xg(T:Txt K mg A) (i) (h:i<14) (h0:0<i):∃x,fF K mg (ń A i) x [ń A i,A.Row]:=by
 obtain _|_|_|_|_|_|_|_|_|_|_|_|_|_|i:=i
 ·cases h0
 ·exact{_,T.j6}
 ·exact{_,T.cQ}
 ·exact{_,T.iX}
 ·exact{_,T.dX}
 ·exact{_,T.fo}
 ·exact{_,T.dZ}
 ·exact{_,T.dz}
 ·exact{_,T.cz}
 ·exact{_,T.cG}
 ·exact{_,T.ib}
 ·exact{_,T.cv}
 ·exact{_,T.bB}
 ·exact{_,T.cw}
 lia
theorem Gz(T:Txt K mg A) (i j) (hi:i<14) (hj:j<14) (i0:0<i) (j0:0<j):Vd K (.ref (ń A i)) (.ref (ń A j))=Zq (decide (i=j)):=by
 obtain⟨x,O⟩:=xg T i hi i0;obtain⟨y,U0z⟩:=xg T j hj j0;by_cases e:i=j
 ·subst e;rw[decide_eq_true rfl];exact OM O
 rw[decide_eq_false e];exact Pc O U0z (Gw T () () (λz=>e z.symm)) (Gw T (j:=0) () () ())
seal PE PA PS Į PT PW
inductive Th where
 |i (n:Int)|x (a:Nat)
inductive Val where
 |one (a:Th)|op (a:Th) (w:Str) (b:Th)
def Th.v(N:Nat->Str):Th->V
 | .i n=>.int n
 | .x a=>.str (N a)
def vV(N:Nat->Str):Val->List V
 | .one a=>[a.v N]
 | .op a w b=>[a.v N,.str w,b.v N]
inductive Lr where
 |hand (i:Nat) (r:Int)|ŏ (i:Nat) (r z:Int)|own (i:Nat) (z:Int)|lt (i:Nat) (r:Int)
 |set (x:Nat) (v:Val)|put (x:Nat) (p:Th) (v:Val)|snd (h:Nat) (v:Val)|say (x:Nat) (v:Val) (m:Nat)
 |call (i:Nat) (ts:List Th)|last
def Lr.ci:Lr->Nat
 | .hand _ _=>1| .ŏ _ _ _=>2| .own _ _=>3| .lt _ _=>4| .set _ _=>5| .put _ _ _=>6| .snd _ _=>7| .say _ _ _=>8
 | .call _ _=>9| .last=>10
abbrev nV(N:Nat->Str)(ns:List Nat):List V:=ns.map λi=>V.str (N i)
def Lr.fs(N:Nat->Str)(p:Sv):Lr->List (Str×V)
 | .hand i r=>[("name",.str (N i)),("rank",.int r)]
 | .ŏ i r z=>[("name",.str (N i)),("rank",.int r),("size",.int z)]
 | .own i z=>[("name",.str (N i)),("size",.int z)]
 | .lt i r=>[("name",.str (N i)),("rank",.int r)]
 | .set x _=>[("name",.str (N x)),("value",.ref p)]
 | .put x t _=>[("name",.str (N x)),("place",t.v N),("value",.ref p)]
 | .snd h _=>[("name",.str (N h)),("value",.ref p)]
 | .say x _ m=>[("name",.str (N x)),("value",.ref p),("mark",.str (N m))]
 | .call i _=>[("name",.str (N i)),("things",.ref p)]
 | .last=>[]
def Lr.ob(N:Nat->Str):Lr->Option HO
 | .set _ v=>Zq (.tup (vV N v))
 | .put _ _ v=>Zq (.tup (vV N v))
 | .snd _ v=>Zq (.tup (vV N v))
 | .say _ v _=>Zq (.tup (vV N v))
 | .call _ ts=>Zq (.lst (ts.map (Th.v N)))
 |_=>Zr
inductive Pt where
 |leaf (n:Int) (r:Lr)
 |iff (n:Int) (v:Val) (l r:Int) (f o:List Pt)
 |loop (n:Int) (t:Th) (m l r:Int) (b:List Pt)
 |bq (n:Int) (i:Nat) (ps:List Nat) (b:List Pt)
def Pt.no:Pt->Int
 | .leaf n _=>n
 | .iff n _ _ _ _ _=>n
 | .loop n _ _ _ _ _=>n
 | .bq n _ _ _=>n
def Pt.ci:Pt->Nat
 | .leaf _ r=>r.ci
 | .iff _ _ _ _ _ _=>11
 | .loop _ _ _ _ _ _=>12
 | .bq _ _ _ _=>13
def Pd(A:Ö)(N:Nat->Str)(X:Hp)(v:V)(n:Int)(r:Lr):Prop:=∃a dx p,v=.ref a/\X a=Zq (.ins (ń A r.ci) dx (("number",.int n)::r.fs N p))/\∀o,r.ob N=Zq o->X p=Zq o
mutual
noncomputable def bf(A:Ö)(N:Nat->Str)(X:Hp):V->Pt->Prop
 |v,.leaf n r=>Pd A N X v n r
 |v,.iff n val l r f o=>∃a dx p pf po xf xo,v=.ref a/\X a=Zq (.ins A.cX dx [("number",.int n),("value",.ref p),("first",.ref pf),("other",.ref po),("left",.int l),("right",.int r)])/\X p=Zq (.tup (vV N val))/\X pf=Zq (.lst xf)/\X po=Zq (.lst xo)/\aJ A N X xf f/\aJ A N X xo o
 |v,.loop n t m l r b=>∃a dx pb xb,v=.ref a/\X a=Zq (.ins A.bz dx [("number",.int n),("thing",t.v N),("most",.int m),("body",.ref pb),("left",.int l),("right",.int r)])/\X pb=Zq (.lst xb)/\aJ A N X xb b
 |v,.bq n i ps b=>∃a dx pp pb xb,v=.ref a/\X a=Zq (.ins A.bZ dx [("number",.int n),("name",.str (N i)),("parts",.ref pp),("body",.ref pb)])/\X pp=Zq (.lst (nV N ps))/\X pb=Zq (.lst xb)/\aJ A N X xb b
noncomputable def aJ(A:Ö)(N:Nat->Str)(X:Hp):List V->List Pt->Prop
 |vs,[]=>vs=[]
 |vs,t::ts=>∃x xs,vs=x::xs/\bf A N X x t/\aJ A N X xs ts
end
mutual
theorem bf.same(s:aj X X'):∀(t:Pt)(v:V),bf A N X v t->bf A N X' v t
 | .leaf n r,v,h=>by
  unfold bf at h⊢;obtain⟨a,dx,p,e,h1,h2⟩:=h;exact{a,dx,p,e,s _ _ h1,λo ho=>s _ _ (h2 o ho)}
 | .iff n val l r f o,v,h=>by
  unfold bf at h⊢;obtain⟨a,dx,p,pf,po,xf,xo,e,h1,h2,h3,h4,h5,h6⟩:=h;exact{a,dx,p,pf,po,xf,xo,e,s _ _ h1,s _ _ h2,s _ _ h3,s _ _ h4,aJ.same s f _ h5,aJ.same s o _ h6}
 | .loop n t m l r b,v,h=>by
  unfold bf at h⊢;obtain⟨a,dx,pb,xb,e,h1,h2,h3⟩:=h;exact{a,dx,pb,xb,e,s _ _ h1,s _ _ h2,aJ.same s b _ h3}
 | .bq n i ps b,v,h=>by
  unfold bf at h⊢;obtain⟨a,dx,pp,pb,xb,e,h1,h2,h3,h4⟩:=h;exact{a,dx,pp,pb,xb,e,s _ _ h1,s _ _ h2,s _ _ h3,aJ.same s b _ h4}
theorem aJ.same(s:aj X X'):∀(ts:List Pt)(vs:List V),aJ A N X vs ts->aJ A N X' vs ts
 | [],vs,h=>by
  unfold aJ at h⊢;exact h
 |t::ts,vs,h=>by
  unfold aJ at h⊢;obtain⟨x,xs,e,h1,h2⟩:=h;exact{x,xs,e,bf.same s t _ h1,aJ.same s ts _ h2}
end
theorem aJ.nil:aJ A N X [] []:=by
 unfold aJ;rfl
theorem aJ.cons(h:bf A N X x t)(h':aJ A N X vs ts):aJ A N X (x::vs) (t::ts):=by
 unfold aJ;exact⟨x,vs,rfl,h,h'⟩
theorem aJ.one(h:bf A N X x t):aJ A N X [x] [t]:=aJ.cons h aJ.nil
theorem aJ.len:∀{ts:List Pt}{vs:List V},aJ A N X vs ts->↥vs=↥ts
 | [],vs,h=>by
  unfold aJ at h;rw[h];rfl
 |t::ts,vs,h=>by
  unfold aJ at h;obtain⟨y,ys,e,h1,h2⟩:=h;subst e;simp[aJ.len h2]
theorem aJ.get:∀{ts:List Pt}{vs:List V}{i:Nat}{v:V},aJ A N X vs ts->vs[i]?=Zq v->∃t,ts[i]?=Zq t/\bf A N X v t
 | [],vs,i,v,h,e=>by
  unfold aJ at h;rw[h]at e;cases e
 |t::ts,vs,i,v,h,e=>by
  unfold aJ at h;obtain⟨y,ys,e',h1,h2⟩:=h;subst e';cases i with
  |zero=>cases e;exact⟨t,rfl,h1⟩
  |succ i=>exact aJ.get (i:=i) h2 e
theorem nZ(p:Pt):0<p.ci/\p.ci<14:=by
 cases p with
 |leaf n r=>cases r<;>exact⟨Nat.le_of_ble_eq_true rfl,Nat.le_of_ble_eq_true rfl⟩
 |_=>exact⟨Nat.le_of_ble_eq_true rfl,Nat.le_of_ble_eq_true rfl⟩
theorem NM(T:Txt K mg A)(p:Pt):œ K (ń A p.ci)/\aL K (ń A p.ci) "number":=by
 cases p with
 |leaf n r=>
  cases r with
  |hand _ _=>exact⟨T.j6.cl,T.fP⟩
  |ŏ _ _ _=>exact⟨T.cQ.cl,T.fA⟩
  |own _ _=>exact⟨T.iX.cl,T.gy⟩
  |lt _ _=>exact⟨T.dX.cl,T.gL⟩
  |set _ _=>exact⟨T.fo.cl,T.gG⟩
  |put _ _ _=>exact⟨T.dZ.cl,T.gx⟩
  |snd _ _=>exact⟨T.dz.cl,T.fO⟩
  |say _ _ _=>exact⟨T.cz.cl,T.b8⟩
  |call _ _=>exact⟨T.cG.cl,T.cW⟩
  |_=>exact⟨T.ib.cl,T.fW⟩
 |iff _ _ _ _ _ _=>exact⟨T.cv.cl,T.iZ⟩
 |loop _ _ _ _ _ _=>exact⟨T.bB.cl,T.fM⟩
 |bq _ _ _ _=>exact⟨T.cw.cl,T.fQ⟩
theorem Gy(h:bf A N X v p):∃a dx fs,v=.ref a/\X a=Zq (.ins (ń A p.ci) dx (("number",.int p.no)::fs)):=by
 cases p with
 |leaf n r=>
  unfold bf at h;obtain⟨a,dx,p,e,h1,h2⟩:=h;exact{a,dx,_,e,h1}
 |iff n val l r f o=>
  unfold bf at h;obtain⟨a,dx,p,pf,po,xf,xo,e,h1,_⟩:=h;exact{a,dx,_,e,h1}
 |loop n t m l r b=>
  unfold bf at h;obtain⟨a,dx,pb,xb,e,h1,_⟩:=h;exact{a,dx,_,e,h1}
 |bq n i ps b=>
  unfold bf at h;obtain⟨a,dx,pp,pb,xb,e,h1,_⟩:=h;exact{a,dx,_,e,h1}
theorem vM(T:Txt K mg A)(s:aj X H)(h:bf A N X v p) (j) (j0:0<j) (hj:j<14) (q:R (decide (p.ci=j)) H):Bh K [v,.ref (ń A j)] H λv H1=>zd K v H1 R:=by
 obtain⟨a,dx,fs,rfl,ha⟩:=Gy h;obtain⟨x,O⟩:=xg T p.ci (nZ p).2 (nZ p).1;exact Μ (O.M8 (s _ _ ha)) (Gz T p.ci j (nZ p).2 hj (nZ p).1 j0) q
theorem kH(T:Txt K mg A)(s:aj X H)(h:bf A N X v p)(e:p.ci=j)(q:R true H):Bh K [v,.ref (ń A j)] H λv H1=>zd K v H1 R:=vM T s h j (e▸(nZ p).1) (e▸(nZ p).2) (by rw[decide_eq_true e];exact q)
theorem gv(T:Txt K mg A)(s:aj X H)(h:bf A N X v p)(e:p.ci≠j)(q:R false H)(j0:0<j:=by decide)(hj:j<14:=by decide):Bh K [v,.ref (ń A j)] H λv H1=>zd K v H1 R:=vM T s h j j0 hj (by rw[decide_eq_false e];exact q)
theorem yp(T:Txt K mg A)(s:aj X H)(h:bf A N X v p) (j) (j0:0<j) (hj:j<14) (q:Q (.bl (decide (p.ci=j))) H):Bh K [v,.ref (ń A j)] H Q:=by
 obtain⟨a,dx,fs,rfl,ha⟩:=Gy h;obtain⟨x,O⟩:=xg T p.ci (nZ p).2 (nZ p).1;exact{_,_,_,_,rfl,(λz=>by cases z),O.M8 (s _ _ ha),Gz T p.ci j (nZ p).2 hj (nZ p).1 j0,q}
theorem eU(T:Txt K mg A)(s:aj X H)(h:bf A N X v p)(q:Q (.int p.no) H):oK K "number" v H Q:=by
 obtain⟨a,dx,fs,rfl,ha⟩:=Gy h;obtain⟨c1,c2⟩:=NM T p;exact Ø (s _ _ ha) c1 c2 rfl q
def aX(n:Int):Str:=SQ++("row ":Str)++UU (toString n)
def Kk(s:Str):Nat:=(s.cps.toList.drop 4).foldl (λa c=>10*a+(c-48)) 0
theorem nH:∀n:Fin 1001,((n.val:Int).natAbs.log2<1920)/\(UU (toString (n.val:Int))).length<=20/\Kk (aX (n.val:Int))=n.val/\(aX (n.val:Int)).cps[0]?=Zq 114:=by decide+kernel
theorem Je(a0:0<=a)(a1:a<=1000)(b0:0<=b)(b1:b<=1000)(h:aX a=aX b):a=b:=by
 obtain⟨a,rfl⟩:∃k:Nat,a=(k:Int):={a.toNat,()};obtain⟨b,rfl⟩:∃k:Nat,b=(k:Int):={b.toNat,()};have h1:=(nH {a,()}).2.2.1;have h2:=(nH {b,()}).2.2.1;rw[show Kk (aX (a:Int))=Kk (aX (b:Int)) by rw[h]]at h1;have:b=a:=h2.symm.trans h1;rw[this]
theorem HP(a0:0<=a)(a1:a<=1000)(hx:x.cps[0]?≠Zq 114):aX a≠x:=by
 obtain⟨a,rfl⟩:∃k:Nat,a=(k:Int):={a.toNat,()};intro e;exact hx (e▸(nH {a,()}).2.2.2)
theorem jq(a b:Str):(a++b).length=↥a+↥b:=X8
inductive yP(vs:List V)(H:Hp)(Q:VK)(Ä:XK):Prop
 |mk (n):vs=[.int n]->0<=n->n<=1000->Q (.str (aX n)) H->yP vs H Q Ä
theorem o8(T:Txt K mg A):T.qh.Hz P w base 1 yP:=by
 refine T.qh.hs xv (λf Ã A' outer s H vs Q E' hr hu h=>?_);obtain⟨n,rfl,h0,h1,q⟩:=h;obtain⟨n,rfl⟩:∃k:Nat,n=(k:Int):={n.toNat,()};obtain⟨k1,k2,_⟩:=nH {n,()};refine{_,(ai (aD (IG (Ck aw (Ck (Kh (fv 0)) KS))))),{_,rfl,∅,P1 {_,rfl,k1,_,rfl,?_}}};have l:(aX (n:Int)).length<=sizeLine:=by
  unfold aX;rw[jq];exact P2 (Xk k2 _) ∅
 exact⟨l,l,q⟩
theorem Paired.two{α β:Type}{F}{xs zs:List α}{ys ws:List β}(h:Paired F xs ys)(g:Paired F zs ws):Paired F (xs++zs) (ys++ws):=uz h g
abbrev Le:=Pt×Option Str×Option Str
def oS:Option Str->V
 |none=>.Ê
 |some x=>.str x
mutual
noncomputable def dE(lp:Option Str):Pt->List Le
 | .leaf _ _=>[]
 | .iff n _ _ _ f o=>bD (Zq (aX n)) lp f++bD (Zq (aX n)) lp o
 | .loop n _ _ _ _ b=>bD (Zq (aX n)) (Zq (aX n)) b
 | .bq _ _ _ _=>[]
noncomputable def bD(pl lp:Option Str):List Pt->List Le
 | []=>[]
 |t::ts=>(t,pl,lp)::(dE lp t++bD pl lp ts)
end
mutual
noncomputable def dep:Pt->Nat
 | .leaf _ _=>0
 | .iff _ _ _ _ f o=>max (nN f) (nN o)+1
 | .loop _ _ _ _ _ b=>nN b+1
 | .bq _ _ _ b=>0
noncomputable def nN:List Pt->Nat
 | []=>0
 |t::ts=>max (dep t) (nN ts)
end
theorem sy:∀{ts:List Pt},t∈ts->dep t<=nN ts
 |t'::ts,m=>by
  unfold nN;rcases Py.mp m with rfl|m
  ·exact Nat.le_max_left _ _
  exact P2 (sy m) (Nat.le_max_right _ _)
theorem tY:∀a b,bD pl lp (a++b)=bD pl lp a++bD pl lp b
 | [],b=>by simp[bD]
 |t::a,b=>by
  have h1:bD pl lp (t::(a++b))=(t,pl,lp)::(dE lp t++bD pl lp (a++b)):=by rw[bD]
  have h2:bD pl lp (t::a)=(t,pl,lp)::(dE lp t++bD pl lp a):=by rw[bD]
  show bD pl lp (t::(a++b))=_;rw[h1,h2,tY a b];simp
theorem wH{pl lp:Option Str}{ts:List Pt}{t:Pt}{i:Nat}(h:ts[i]?=Zq t):bD pl lp (ts.take (i+1))=bD pl lp (ts.take i)++(t,pl,lp)::dE lp t:=by
 rw[Qv,h,tY];show bD pl lp (ts.take i)++bD pl lp [t]=_;rw[show bD pl lp [t]=(t,pl,lp)::dE lp t by simp[bD]]
theorem Gn(h:ts[i]?=Zq t):bD pl lp ts=bD pl lp (ts.take i)++((t,pl,lp)::dE lp t)++bD pl lp (ts.drop (i+1)):=by
 rw[<-wH h,<-tY,Qm]
def Nb(es:List Le):Prop:=∀e∈es,0<=e.1.no/\e.1.no<=1000
def LyE(A:Ö)(N:Nat->Str)(X:Hp)(e:Le)(y:V)(H:Hp):Prop:=∃tp v,y=V.ref tp/\H tp=Zq (.tup [v,oS e.2.1,oS e.2.2])/\bf A N X v e.1
def Ly(A:Ö)(N:Nat->Str)(X H:Hp)(es:List Le)(ys:List V):Prop:=Paired (λe y=>LyE A N X e y H) es ys
theorem Ly.same(s:∀x w,H x=Zq (.tup w)->H' x=Zq (.tup w))(h:Ly A N X H es ys):Ly A N X H' es ys:=Paired.vo h λ_ _ ⟨tp,v,e,h1,h2⟩=>{tp,v,e,s _ _ h1,h2}
inductive rR(A:Ö)(d:Nat)(vs:List V)(H:Hp)(Q:VK)(Ä:XK):Prop
 |mk (N X L xs pl lp ts) (z0:vs=[.ref L,oS pl,oS lp]) (z1:aj X H) (z2:X L=Zq (.lst xs)) (z3:aJ A N X xs ts) (z4:nN ts<=d) (z5:Nb (bD pl lp ts)) (z6:(bD pl lp ts).length<=900)
  (z7:∀(R ys H'),aj H H'->H R=Zr->H' R=Zq (.lst ys)->Ly A N X H' (bD pl lp ts) ys->Q (.ref R) H'):rR A d vs H Q Ä
inductive qJ(A:Ö)(d:Nat)(vs:List V)(H:Hp)(Q:VK)(Ä:XK):Prop
 |mk (N X v lp t) (z0:vs=[v,oS lp]) (z1:aj X H) (z2:bf A N X v t) (z3:dep t<=d) (z4:0<=t.no/\t.no<=1000) (z5:Nb (dE lp t)) (z6:(dE lp t).length<=900)
  (z7:∀(R ys H'),aj H H'->H R=Zr->H' R=Zq (.lst ys)->Ly A N X H' (dE lp t) ys->Q (.ref R) H'):qJ A d vs H Q Ä
def Eu(A:Ö):Nat->Sp
 |0=>λ_ _ _ _=>False
 |d+1=>rR A d
inductive C9(L:Sv)(pl:Option Str)(lp:Option Str)(R:Sv)(H:Hp)(X:Hp)(ts:List Pt)(i:Nat)(B:St)(Hc:Hp):Prop
 |mk(ys:List V)(v4:Option V):B=[Zq (.ref L),Zq (oS pl),Zq (oS lp),Zq (.ref R),v4]->aj H Hc->Hc R=Zq (.lst ys)->Ly A N X Hc (bD pl lp (ts.take i)) ys->C9 L pl lp R H X ts i B Hc
theorem Bz(T:Txt K mg A) (d j) (kB:T.jo.Hz P w base j (qJ A d)):T.hV.Hz P w base (j+1) (rR A d):=by
 refine T.hV.hs (k:=j) gW (λf Ã A' outer s H vs Q E' hr hu h=>?_);obtain⟨N,X,L,xs,pl,lp,ts,rfl,s0,hL,pt,dp,nb,ln,q⟩:=h;refine⟨_,(ab (Æ 3 gW.nd (aQ ae))
  (ab (bY SH rfl (bW (fv 0)) (Ð (i:=4) gW.nd rfl)
   (ab (aR (br (fv 3) (aT (fv 4^fv 1^fv 2^ae)^ae)))
   (ai (aR (gp (fv 3) ((ak (hj:=by lia) kB hr (fv 4^fv 2^ae))^ae))))))
  (ai (aD (fv 3))))),?_⟩
 refine ag λM1 K1=>{PZ _,λR hR=>?_};obtain⟨s1,e1⟩:=Í hR (HO.lst []);generalize upd H R _=H1 at s1 e1⊢;refine K1 _ _ ?_;clear K1 M1;rfl'
 refine ag λM1 K1=>P1 {{_,À.of ((s0.trans s1) _ _ hL)},b4 (K:=K) (xs:=xs) ((C9 (A:=A) (N:=N) L pl lp R H X ts)) {[],Zr,rfl,s1,e1,by rw[show bD pl lp (ts.take 0)=[] by show bD pl lp []=[];rw[bD]];exact .nil} (λi B Hc _ zz=>by obtain⟨_,_,_,z,_⟩:=zz;exact À.of ((s0.trans z) _ _ hL)) ?_ ?_}
 ·rintro i v B Hc hv ⟨ys,v4,rfl,sc,Û,ly⟩;obtain⟨t,ht,pa⟩:=pt.get hv;have mt:t∈ts:=P4 ht;have e:=Gn (pl:=pl) (lp:=lp) ht;have le:(bD pl lp (ts.take i)).length+(1+(dE lp t).length)<=900:=by
   rw[e]at ln;simp at ln;lia
  have n1:∀z∈((t,pl,lp)::dE lp t),0<=z.1.no/\z.1.no<=1000:=λz hz=>nb z (by rw[e];exact PY _ (PX _ hz));have Ι:=Sz ly;rfl'
  refine ag λN1 J1=>{P1 {rfl,_,À.of Û},by show 3<=sizeLine;decide,λtp á=>?_};have tpR:tp≠R:=Zs á Û;refine{_,_,_,rfl,rfl,au tpR.symm Û,aH (),?_};have s2:aj H (upd (upd Hc tp (.tup [v,oS pl,oS lp])) R (.lst (ys++[.ref tp]))):=aj.out (sc.trans (aj.upd á _)) hR _;have e2:upd (upd Hc tp (.tup [v,oS pl,oS lp])) R (.lst (ys++[.ref tp])) R=Zq (.lst (ys++[.ref tp])):=ao;have l2:Ly A N X (upd (upd Hc tp (.tup [v,oS pl,oS lp])) R (.lst (ys++[.ref tp]))) (bD pl lp (ts.take i)++[(t,pl,lp)]) (ys++[.ref tp]):=by
   refine Paired.two (ly.same λx w e=>?_) (.cons ⟨tp,v,rfl,au tpR ao,pa⟩ .nil);exact au (λy=>by rw[y,Û]at e;cases e) (au (λy=>by rw[y,á]at e;cases e) e)
  generalize upd (upd Hc tp (.tup [v,oS pl,oS lp])) R (.lst (ys++[.ref tp]))=Hd at s2 e2 l2⊢;refine J1 _ _ ?_;clear J1 N1;rfl'
  refine{P1 {rfl,_,À.of e2},N,X,v,lp,t,rfl,s0.trans s2,pa,P2 (sy mt) dp,n1 _ PH,λz hz=>n1 z (PC _ hz),(),λR2 zs He s3 hR2 Ń l3=>?_};have lz:=Sz l3;refine{_,_,_,_,rfl,rfl,s3 _ _ e2,Ń,sz (by rw[Pq,<-lz,<-Ι];simp;lia),{_,_,rfl,aj.out (s2.trans s3) hR _,ao,?_}};rw[wH ht,show bD pl lp (ts.take i)++(t,pl,lp)::dE lp t=bD pl lp (ts.take i)++[(t,pl,lp)]++dE lp t by simp];have dR:∀x w,He x=Zq (.tup w)->upd He R (.lst (ys++[.ref tp]++zs)) x=Zq (.tup w):=λx w e=>au (λy=>by rw[y,s3 _ _ e2]at e;cases e) e;exact Paired.two (l2.same λx w e=>dR x w (s3 _ _ e)) (l3.same dR)
 rintro B Hc ⟨ys,v4,rfl,sc,Û,ly⟩;rw[show ts.take ↥xs=ts by rw[pt.len];exact Qq]at ly;exact K1 _ _ (q R ys Hc sc hR Û ly)
theorem vU(T:Txt K mg A) (d j) (ka:T.hV.Hz P w base (j+1) (Eu A d)):T.jo.Hz P w base (j+2) (qJ A d):=by
 refine T.jo.hs (k:=j+1) mW (λf Ã A' outer s H vs Q E' hr hu h=>?_);obtain⟨N,X,v,lp,t,rfl,s0,pa,dp,nt,nb,ln,q⟩:=h;refine⟨_,(ab (Æ 2 mW.nd (ak (hj:=by lia) (o8 T) hr (aI (fv 0) rfl^ae)))
  (ab (aS (bE (à aZ T.aG (fv 0^bF T.cv.mg^ae)) (λ_=>rfl))
   (ai (aD (az aO (ak (hj:=by lia) ka hr (aI (fv 0) rfl^fv 2^fv 1^ae)) (ak (hj:=by lia) ka hr (aI (fv 0) rfl^fv 2^fv 1^ae)))))
   aF)
  (ab (aS (bE (à aZ T.aG (fv 0^bF T.bB.mg^ae)) (λ_=>rfl))
   (ai (aD (ak (hj:=by lia) ka hr (aI (fv 0) rfl^fv 2^fv 2^ae))))
   aF)
  (ai (aD (aQ ae)))))),?_⟩
 refine ag λM1 K1=>eU T s0 pa {_,rfl,nt.1,nt.2,K1 _ _ ?_};clear K1 M1;rfl'
 refine ag λM1 K1=>vM T s0 pa 11 ∅ ∅ ?_;cases t with
 |iff n val l r f o=>
  refine bQ ?_;unfold bf at pa;obtain⟨a,dx,p,pf,po,xf,xo,rfl,h1,h2,h3,h4,h5,h6⟩:=pa;unfold dep at dp;cases d with
  |zero=>lia
  |succ d=>
  unfold dE at nb ln q;have nf:Nb (bD (Zq (aX n)) lp f):=λy hy=>nb y (PY _ hy);have no:Nb (bD (Zq (aX n)) lp o):=λy hy=>nb y (PX _ hy);rw[Pq]at ln;refine Ø (s0 _ _ h1) T.cv.cl T.gc rfl {N,X,pf,xf,Zq (aX n),lp,f,rfl,s0,h3,h5,(),nf,(),λR1 y1 H1 s1 n1 e1 l1=>Ø ((s0.trans s1) _ _ h1) T.cv.cl T.gb rfl {N,X,po,xo,Zq (aX n),lp,o,rfl,s0.trans s1,h4,h6,(),no,(),λR2 y2 H2 s2 n2 e2 l2=>?_}};have z1:=Sz l1;have z2:=Sz l2;refine{R1,R2,_,_,rfl,rfl,s2 _ _ e1,e2,sz (),λR hR=>?_};have s3:aj H2 (upd H2 R (.lst (y1++y2))):=aj.upd hR _;exact q R _ _ ((s1.trans s2).trans s3) (aj.free (s1.trans s2) hR) ao (Paired.two (l1.same λx w e=>s3 _ _ (s2 _ _ e)) (l2.same λx w e=>s3 _ _ e))
 |loop n t m l r b=>
  refine a9 (K1 _ _ ?_);clear K1 M1;rfl'
  refine ag λM1 K1=>vM T s0 pa 12 ∅ ∅ (bQ ?_);unfold bf at pa;obtain⟨a,dx,pb,xb,rfl,h1,h2,h3⟩:=pa;unfold dep at dp;cases d with
  |zero=>lia
  |succ d=>
  unfold dE at nb ln q;exact Ø (s0 _ _ h1) T.bB.cl T.fB rfl {N,X,pb,xb,Zq (aX n),Zq (aX n),b,rfl,s0,h2,h3,(),nb,ln,λR1 y1 H1 s1 n1 e1 l1=>q R1 y1 H1 s1 n1 e1 l1}
 |leaf n r=>
  have e11:decide ((Pt.leaf n r).ci=11)=false:=by cases r<;>rfl
  have e12:decide ((Pt.leaf n r).ci=12)=false:=by cases r<;>rfl
  rw[e11];refine a9 (K1 _ _ ?_);clear K1 M1;rfl'
  refine ag λM1 K1=>vM T s0 pa 12 ∅ ∅ ?_;rw[e12];refine a9 (K1 _ _ ?_);clear K1 M1;refine{PZ _,λR hR=>q R [] _ (aj.upd hR _) hR ao ?_};unfold dE;exact .nil
 |bq n i ps b=>
  refine a9 (K1 _ _ ?_);clear K1 M1;rfl'
  refine ag λM1 K1=>vM T s0 pa 12 ∅ ∅ (a9 (K1 _ _ ?_));clear K1 M1;refine{PZ _,λR hR=>q R [] _ (aj.upd hR _) hR ao ?_};unfold dE;exact .nil
theorem AB(T:Txt K mg A):∀d,T.hV.Hz P w base (2*d+3) (rR A d)
 |0=>Bz T 0 2 (vU T 0 0 (T.hV.hs (k:=0) gW (λ_ _ _ _ _ _ _ _ _ _ _ h=>h.elim) (λ_ _ _ _ h=>h.elim)))
 |d+1=>Bz T (d+1) (2*d+4) (vU T (d+1) (2*d+2) (AB T d))
def nX:Pt->List Pt
 | .bq _ _ _ b=>b
 |_=>[]
def ö(N:Nat->Str):Pt->Str
 | .bq _ i _ _=>N i
 |_=>SQ
def ő(N:Nat->Str):Pt->List Str
 | .bq _ _ ps _=>ps.map N
 |_=>[]
def GL:Pt->Prop
 | .bq _ _ _ _=>True
 |_=>False
def fG(N:Nat->Str)(ds:List Pt):List Le:=ds.flatMap λp=>bD (Zq (ö N p)) Zr (nX p)
theorem sM{ts:List Pt}{t:Pt}{i:Nat}(h:ts[i]?=Zq t):fG N (ts.take (i+1))=fG N (ts.take i)++bD (Zq (ö N t)) Zr (nX t):=by
 unfold fG;rw[Qv,h];simp
theorem Dz(h:ts[i]?=Zq t):fG N ts=fG N (ts.take i)++bD (Zq (ö N t)) Zr (nX t)++fG N (ts.drop (i+1)):=by
 rw[<-sM h];unfold fG;rw[<-QJ,Qm]
def vc(A:Ö)(N:Nat->Str)(X:Hp)(v:V)(hs ds ms:List Pt):Prop:=∃a dx n0 n1 n2 x0 x1 x2,v=.ref a/\X a=Zq (.ins A.Program dx [("heads",.ref n0),("deeds",.ref n1),("main",.ref n2)])/\X n0=Zq (.lst x0)/\X n1=Zq (.lst x1)/\X n2=Zq (.lst x2)/\aJ A N X x0 hs/\aJ A N X x1 ds/\aJ A N X x2 ms
def cq(N:Nat->Str)(ds ms:List Pt):List Le:=fG N ds++bD Zr Zr ms
def ō(N:Nat->Str):Pt->Option Str
 | .leaf _ (.ŏ i _ _)=>Zq (N i)
 | .leaf _ (.own i _)=>Zq (N i)
 | .leaf _ (.lt i _)=>Zq (N i)
 |_=>Zr
def oX(p:Pt):Bool:=decide (p.ci=11)||(decide (p.ci=12)||(decide (p.ci=7)||decide (p.ci=8)))
def fe(es:List Le):List Str:=(es.filter λe=>oX e.1).map λe=>aX e.1.no
def bg(N:Nat->Str)(hs ds ms:List Pt):List Str:=hs.filterMap (ō N)++(ds.flatMap λp=>ö N p::ő N p)++fe (cq N ds ms)++[("the clock":Str)]
structure Ok(N:Nat->Str)(d:Nat)(hs ds ms:List Pt):Prop where
 bq:∀p∈ds,GL p/\nN (nX p)<=d
 main:nN ms<=d
 nb:Nb (cq N ds ms)
 ln:(cq N ds ms).length<=300
 hl:↥hs<=300
 pl:(bg N hs ds ms).length<=900
 nd:(bg N hs ds ms).Nodup
abbrev sS(xs:List Str):List V:=xs.map V.str
inductive zm(A:Ö)(d:Nat)(vs:List V)(H:Hp)(Q:VK)(Ä:XK):Prop
 |mk (N X v hs ds ms) (z0:vs=[v]) (z1:aj X H) (z2:vc A N X v hs ds ms) (z3:Ok N d hs ds ms)
  (z7:∀(R ys H'),aj H H'->H R=Zr->H' R=Zq (.lst ys)->Ly A N X H' (cq N ds ms) ys->Q (.ref R) H'):zm A d vs H Q Ä
inductive By(a:Sv)(R:Sv)(H:Hp)(X:Hp)(ds:List Pt)(i:Nat)(B:St)(Hc:Hp):Prop
 |mk (ys v2):B=[Zq (.ref a),Zq (.ref R),v2]->aj H Hc->Hc R=Zq (.lst ys)->Ly A N X Hc (fG N (ds.take i)) ys->By a R H X ds i B Hc
theorem C6(T:Txt K mg A) (d):T.kS.Hz P w base (2*d+4) (zm A d):=by
 refine T.kS.hs (k:=2*d+3) gw (λf Ã A' outer s H vs Q E' hr hu h=>?_);obtain⟨N,X,v,hs,ds,ms,rfl,s0,⟨a,dx,n0,n1,n2,x0,x1,x2,rfl,ha,e0,e1,e2,p0,p1,p2⟩,ok,q⟩:=h;have ln:=ok.ln;have nb:=ok.nb;unfold cq at ln nb;rw[Pq]at ln;refine⟨_,(ab (Æ 1 gw.nd (aQ ae))
  (ab (bY SH rfl (bW (aI (fv 0) rfl)) (Ð (i:=2) gw.nd rfl)
   (ai (aR (gp (fv 1) ((ak (hj:=by lia) (AB T d) hr (aI (fv 2) rfl^aI (fv 2) rfl^bJ^ae))^ae)))))
  (ai (aD (az aO (fv 1) (ak (hj:=by lia) (AB T d) hr (aI (fv 0) rfl^bJ^bJ^ae))))))),?_⟩
 refine ag λM1 K1=>{PZ _,λR hR=>?_};obtain⟨s1,eR⟩:=Í hR (HO.lst []);generalize upd H R _=H1 at s1 eR⊢;refine K1 _ _ ?_;clear K1 M1;rfl'
 refine ag λM1 K1=>Ø ((s0.trans s1) _ _ ha) T.dw.cl T.cI rfl (P1 {{_,À.of ((s0.trans s1) _ _ e1)},b4 (K:=K) (xs:=x1) ((By (A:=A) (N:=N) a R H X ds)) {[],Zr,rfl,s1,eR,.nil} (λi B Hc _ zz=>by obtain⟨_,_,_,z,_,_⟩:=zz;exact À.of ((s0.trans z) _ _ e1)) ?_ ?_})
 ·rintro i v B Hc hv ⟨ys,v2,rfl,sc,Û,ly⟩;obtain⟨t,ht,pa⟩:=p1.get hv;have mt:t∈ds:=P4 ht;obtain⟨dt,dd⟩:=ok.bq t mt;cases t with
  |bq n i' ps b=>
   unfold bf at pa;obtain⟨a',dx',pp,pb,xb,rfl,h1,h2,h3,h4⟩:=pa;have e:=Dz (N:=N) ht;have le:(fG N (ds.take i)).length+(bD (Zq (N i')) Zr b).length<=300:=by
    have:=congrArg UP e;simp only[Pq]at this;have z:bD (Zq (ö N (.bq n i' ps b))) Zr (nX (.bq n i' ps b))=bD (Zq (N i')) Zr b:=rfl;rw[z]at this;lia
   have nbb:Nb (bD (Zq (N i')) Zr b):=λy hy=>nb y (PY _ (by rw[e];exact PY _ (PX _ hy)));have Ι:=Sz ly;refine{P1 {rfl,_,À.of Û},Ø ((s0.trans sc) _ _ h1) T.cw.cl T.eY rfl (Ø ((s0.trans sc) _ _ h1) T.cw.cl T.c0 rfl {N,X,pb,xb,Zq (N i'),Zr,b,rfl,s0.trans sc,h3,h4,dd,nbb,(),λR2 zs He s3 hR2 Ń l3=>?_})};have lz:=Sz l3;refine{_,_,_,_,rfl,rfl,s3 _ _ Û,Ń,sz (),{_,_,rfl,aj.out (sc.trans s3) hR _,ao,?_}};rw[sM ht];have dR:∀x w,He x=Zq (.tup w)->upd He R (.lst (ys++zs)) x=Zq (.tup w):=λx w e=>au (λy=>by rw[y,s3 _ _ Û]at e;cases e) e;exact Paired.two (ly.same λx w e=>dR x w (s3 _ _ e)) (l3.same dR)
  |_=>exact dt.elim
 rintro B Hc ⟨ys,v2,rfl,sc,Û,ly⟩;rw[show ds.take ↥x1=ds by rw[p1.len];exact Qq]at ly;refine K1 _ _ ?_;have Ι:=Sz ly;rfl'
 refine Ø ((s0.trans sc) _ _ ha) T.dw.cl T.i7 rfl {N,X,n2,x2,Zr,Zr,ms,rfl,s0.trans sc,e2,p2,ok.main,λy hy=>nb y (PX _ hy),(),λR2 zs He s3 hR2 Ń l3=>?_};have lz:=Sz l3;refine{R,R2,_,_,rfl,rfl,s3 _ _ Û,Ń,sz (),λR3 ϟ=>?_};have s4:aj He (upd He R3 (.lst (ys++zs))):=aj.upd ϟ _;exact q R3 _ _ ((sc.trans s3).trans s4) (aj.free (sc.trans s3) ϟ) ao (Paired.two (ly.same λx w e=>s4 _ _ (s3 _ _ e)) (l3.same λx w e=>s4 _ _ e))
inductive uC(A:Ö)(vs:List V)(H:Hp)(Q:VK)(Ä:XK):Prop
 |mk (N X v t):vs=[v]->aj X H->bf A N X v t->Q (.bl (oX t)) H->uC A vs H Q Ä
theorem DN(T:Txt K mg A):T.sD.Hz P w base 1 (uC A):=by
 refine T.sD.hs yY (λf Ã A' outer s H vs Q E' hr hu h=>?_);obtain⟨N,X,v,t,rfl,s0,pa,q⟩:=h;refine{_,(ai (aD (GN (à aZ T.aG (fv 0^bF T.cv.mg^ae)) (GN (à aZ T.aG (fv 0^bF T.bB.mg^ae)) (GN (à aZ T.aG (fv 0^bF T.dz.mg^ae)) (LZ (à aZ T.aG (fv 0^bF T.cz.mg^ae)))))))),?_};unfold oX at q;refine yp T s0 pa 11 ∅ ∅ {_,rfl,?_};cases e1:decide (t.ci=11)with
 |true=>rw[e1]at q;exact bQ q
 |false=>
 rw[e1]at q;refine a9 (yp T s0 pa 12 ∅ ∅ {_,rfl,?_});cases e2:decide (t.ci=12)with
 |true=>rw[e2]at q;exact bQ q
 |false=>
 rw[e2]at q;refine a9 (yp T s0 pa 7 ∅ ∅ {_,rfl,?_});cases e3:decide (t.ci=7)with
 |true=>rw[e3]at q;exact bQ q
 |false=>
 rw[e3]at q;exact a9 (yp T s0 pa 8 ∅ ∅ q)
def Sm(M:List Sv)(H H':Hp):Prop:=∀a o,a∉M->H a=Zq o->H' a=Zq o
theorem Sm.refl (M H):Sm M H H:=λ_ _ _ h=>h
theorem Sm.trans(h:Sm M H H')(h':Sm M H' H''):Sm M H H'':=λa o m e=>h' a o m (h a o m e)
theorem Sm.new(s:aj H H'):Sm M H H':=λa o _ e=>s a o e
theorem Sm.at(m:a∈M) (o):Sm M H (upd H a o):=λb u hb e=>au (λz=>hb (z▸m)) e
theorem Sm.same(h:Sm M H H')(s:aj X H)(n:∀m∈M,X m=Zr):aj X H':=λa o e=>h a o (λm=>by rw[n a m]at e;cases e) (s a o e)
theorem KO (N t):(ō N t).isSome=(decide (t.ci=2)||(decide (t.ci=3)||decide (t.ci=4))):=by
 cases t with
 |leaf n r=>cases r<;>rfl
 |_=>rfl
theorem Af(T:Txt K mg A)(s:aj X H)(h:bf A N X v t)(e:ō N t=Zq x)(q:Q (.str x) H):oK K "name" v H Q:=by
 cases t with
 |leaf n r=>
  unfold bf at h;obtain⟨a,dx,p,rfl,h1,h2⟩:=h;cases r with
  |ŏ i _ _=>cases e;exact Ø (s _ _ h1) T.cQ.cl T.eN rfl q
  |own i _=>cases e;exact Ø (s _ _ h1) T.iX.cl T.jC rfl q
  |lt i _=>cases e;exact Ø (s _ _ h1) T.dX.cl T.gg rfl q
  |_=>cases e
 |_=>cases e
theorem Jq{α β:Type}(f:α->Option β){xs:List α}{i}{x:α}(h:xs[i]?=Zq x):(xs.take (i+1)).filterMap f=(xs.take i).filterMap f++(f x).toList:=by
 rw[Qv,h,List.filterMap_append];show _++List.filterMap f [x]=_;rw[QU];cases f x<;>rfl
inductive vZ(A:Ö)(vs:List V)(H:Hp)(Q:VK)(Ä:XK):Prop
 |mk (N X L xs hs) (z0:vs=[.ref L]) (z1:aj X H) (z2:X L=Zq (.lst xs)) (z3:aJ A N X xs hs) (z4:↥hs<=900)
  (z5:∀(R H'),aj H H'->H R=Zr->H' R=Zq (.lst (sS (hs.filterMap (ō N))))->Q (.ref R) H'):vZ A vs H Q Ä
inductive CC(L:Sv)(R:Sv)(H:Hp)(hs:List Pt)(i:Nat)(B:St)(Hc:Hp):Prop
 |mk (v2):B=[Zq (.ref L),Zq (.ref R),v2]->aj H Hc->Hc R=Zq (.lst (sS ((hs.take i).filterMap (ō N))))->CC L R H hs i B Hc
theorem FI(T:Txt K mg A):T.mX.Hz P w base 1 (vZ A):=by
 refine T.mX.hs i5 (λf Ã A' outer s H vs Q E' hr hu h=>?_);obtain⟨N,X,L,xs,hs,rfl,s0,hL,pt,ln,q⟩:=h;refine⟨_,(ab (Æ 1 i5.nd (aQ ae))
  (ab (bY SH rfl (bW (fv 0)) (Ð (i:=2) i5.nd rfl)
   (ai (aS (PW.pt (pw_or (bE (à aZ T.aG (fv 2^bF T.cQ.mg^ae)) (λ_=>rfl)) (pw_or (bE (à aZ T.aG (fv 2^bF T.iX.mg^ae)) (λ_=>rfl)) (pw_or1 (bE (à aZ T.aG (fv 2^bF T.dX.mg^ae)) (λ_=>rfl))))))
    (ai (aR (br (fv 1) (aI (fv 2) rfl^ae))))
    aF)))
  (ai (aD (fv 1))))),?_⟩
 refine ag λM1 K1=>{PZ _,λR hR=>?_};obtain⟨s1,e1⟩:=Í hR (HO.lst []);generalize upd H R _=H1 at s1 e1⊢;refine K1 _ _ ?_;clear K1 M1;rfl'
 refine ag λM1 K1=>P1 {{_,À.of ((s0.trans s1) _ _ hL)},b4 (K:=K) (xs:=xs) ((CC (N:=N) L R H hs)) ⟨Zr,rfl,s1,e1⟩ (λi B Hc _ zz=>by obtain⟨_,_,z,_⟩:=zz;exact À.of ((s0.trans z) _ _ hL)) ?_ ?_}
 ·rintro i v B Hc hv ⟨v2,rfl,sc,Û⟩;obtain⟨t,ht,pa⟩:=pt.get hv;have hi:=KO N t;have st:=Jq (ō N) ht;have il:i<↥hs:=(PQ.mp ht).1;have l1:=V4 (ō N) (hs.take i);rw[Qo]at l1;have yes:∀x,ō N t=Zq x->upd Hc R (.lst (sS ((hs.take i).filterMap (ō N))++[.str x])) R=Zq (.lst (sS ((hs.take (i+1)).filterMap (ō N)))):=λx e=>by
   rw[ao,st,e];simp[sS]
  have no:ō N t=Zr->Hc R=Zq (.lst (sS ((hs.take (i+1)).filterMap (ō N)))):=λe=>by
   rw[st,e];simpa using Û
  rfl'
  have s2:=s0.trans sc;cases e:ō N t with
  |none=>
   rw[e]at hi;have c2:t.ci≠2:=λz=>by rw[z]at hi;cases hi
   have c3:t.ci≠3:=λz=>by rw[z]at hi;cases hi
   have c4:t.ci≠4:=λz=>by rw[z]at hi;cases hi
   exact gv T s2 pa c2 (a9 (gv T s2 pa c3 (a9 (gv T s2 pa c4 (a9 {_,rfl,sc,no e})))))
  |some x=>
   rw[e]at hi;have lz:(sS ((hs.take i).filterMap (ō N))).length<sizeLine:=aH (by rw[Pr];lia);by_cases c2:t.ci=2
   ·exact kH T s2 pa c2 (bQ {P1 {rfl,_,À.of Û},Af T s2 pa e {_,_,_,rfl,rfl,Û,lz,_,rfl,aj.out sc hR _,yes x e}})
   by_cases c3:t.ci=3
   ·exact gv T s2 pa c2 (a9 (kH T s2 pa c3 (bQ {P1 {rfl,_,À.of Û},Af T s2 pa e {_,_,_,rfl,rfl,Û,lz,_,rfl,aj.out sc hR _,yes x e}})))
   by_cases c4:t.ci=4
   ·exact gv T s2 pa c2 (a9 (gv T s2 pa c3 (a9 (kH T s2 pa c4 (bQ {P1 {rfl,_,À.of Û},Af T s2 pa e {_,_,_,rfl,rfl,Û,lz,_,rfl,aj.out sc hR _,yes x e}})))))
   rw[decide_eq_false c2,decide_eq_false c3,decide_eq_false c4]at hi;cases hi
 rintro B Hc ⟨v2,rfl,sc,Û⟩;rw[show hs.take ↥xs=hs by rw[pt.len];exact Qq]at Û;exact K1 _ _ (q R Hc sc hR Û)
theorem pQ{α β:Type}(f:α->List β){xs:List α}{i}{x:α}(h:xs[i]?=Zq x):(xs.take (i+1)).flatMap f=(xs.take i).flatMap f++f x:=by
 rw[Qv,h];simp
theorem Gi{α β:Type}(f:α->List β){xs:List α}{i}{x:α}(h:xs[i]?=Zq x):((xs.take i).flatMap f).length+(f x).length<=(xs.flatMap f).length:=by
 have e:xs.flatMap f=(xs.take (i+1)).flatMap f++(xs.drop (i+1)).flatMap f:=by rw[<-QJ,Qm]
 rw[e,pQ f h];simp only[Pq];lia
theorem Ap{es:List Le}{i:Nat}{e:Le}(h:es[i]?=Zq e):fe (es.take (i+1))=fe (es.take i)++(if oX e.1=true then[aX e.1.no]else[]):=by
 unfold fe;rw[Qv,h,QG,Qg];congr 1;show List.map _ (List.filter _ [e])=_;rw[Q6,Rh];split<;>rfl
theorem vO (es):(fe es).length<=↥es:=by
 unfold fe;rw[Pr];exact QD _ _
inductive vt(A:Ö)(d:Nat)(vs:List V)(H:Hp)(Q:VK)(Ä:XK):Prop
 |mk (N X v hs ds ms) (z0:vs=[v]) (z1:aj X H) (z2:vc A N X v hs ds ms) (z3:Ok N d hs ds ms)
  (z7:∀(R H'),aj H H'->H R=Zr->H' R=Zq (.lst (sS (bg N hs ds ms)))->Q (.ref R) H'):vt A d vs H Q Ä
inductive CK(a:Sv)(R:Sv)(H:Hp)(B0:List Str)(ds:List Pt)(i:Nat)(B:St)(Hc:Hp):Prop
 |mk (v2):B=[Zq (.ref a),Zq (.ref R),v2,Zr,Zr,Zr]->aj H Hc->Hc R=Zq (.lst (sS (B0++(ds.take i).flatMap λp=>ö N p::ő N p)))->CK a R H B0 ds i B Hc
inductive BJ(a:Sv)(R:Sv)(v2:Option V)(H2:Hp)(B1:List Str)(es:List Le)(i:Nat)(B:St)(Hd:Hp):Prop
 |mk (v3 v4 v5):B=[Zq (.ref a),Zq (.ref R),v2,v3,v4,v5]->Sm [R] H2 Hd->Hd R=Zq (.lst (sS (B1++fe (es.take i))))->BJ a R v2 H2 B1 es i B Hd
theorem tL(T:Txt K mg A) (d):T.places.Hz P w base (2*d+5) (vt A d):=by
 refine T.places.hs (k:=2*d+4) ic (λf Ã A' outer s H vs Q E' hr hu h=>?_);obtain⟨N,X,v,hs,ds,ms,rfl,s0,pg,ok,q⟩:=h;obtain⟨a,dx,n0,n1,n2,x0,x1,x2,rfl,ha,e0,e1,e2,p0,p1,p2⟩:=id pg;refine⟨_,(ab (Æ 1 ic.nd (ak (hj:=by lia) (FI T) hr (aI (fv 0) rfl^ae)))
  (ab (bY SH rfl (bW (aI (fv 0) rfl)) (Ð (i:=2) ic.nd rfl)
   (ai (aR (gp (fv 1) (az aO (aQ (aI (fv 2) rfl^ae)) (aI (fv 2) rfl)^ae)))))
  (ab (bY SH rfl (bW (ak (hj:=by lia) (C6 T d) hr (fv 0^ae))) (dg rfl (aK (Ð (i:=3) ic.nd rfl) (aK (Ð (i:=4) ic.nd rfl) (aK (Ð (i:=5) ic.nd rfl) cu))))
   (ai (aS (bE (ak (hj:=by lia) (DN T) hr (fv 3^ae)) (λ_=>rfl))
    (ai (aR (br (fv 1) ((ak (hj:=by lia) (o8 T) hr (aI (fv 3) rfl^ae))^ae))))
    aF)))
  (ai (aD (az aO (fv 1) (aQ (ym T.r8^ae)))))))),?_⟩
 have pl:=ok.pl;unfold bg at pl q;simp only[Pq,Pw]at pl;have hl:=ok.hl;refine ag λM1 K1=>Ø (s0 _ _ ha) T.dw.cl T.eI rfl {N,X,n0,x0,hs,rfl,s0,e0,p0,(),λR H1 s1 hR eR=>K1 _ _ ?_};clear K1 M1;rfl'
 generalize hs.filterMap (ō N)=B0 at eR pl q;refine ag λM1 K1=>Ø ((s0.trans s1) _ _ ha) T.dw.cl T.cI rfl (P1 {{_,À.of ((s0.trans s1) _ _ e1)},b4 (K:=K) (xs:=x1) ((CK (N:=N) a R H B0 ds)) {Zr,rfl,s1,by rw[Sj,List.flatMap_nil,Qd];exact eR} (λi B Hc _ zz=>by obtain⟨_,_,z,_⟩:=zz;exact À.of ((s0.trans z) _ _ e1)) ?_ ?_})
 ·rintro i v B Hc hv ⟨v2,rfl,sc,Û⟩;obtain⟨t,ht,pa⟩:=p1.get hv;have mt:t∈ds:=P4 ht;obtain⟨dt,dd⟩:=ok.bq t mt;have st:=pQ (λp=>ö N p::ő N p) ht;have sl:=Gi (λp=>ö N p::ő N p) ht;cases t with
  |bq n i' ps b=>
   unfold bf at pa;obtain⟨a',dx',pp,pb,xb,rfl,h1,h2,h3,h4⟩:=pa;have sX:=s0.trans sc;have lp:B0.length+((ds.take i).flatMap λp=>ö N p::ő N p).length+(1+↥ps)<=900:=by
    have z:(ö N (Pt.bq n i' ps b)::ő N (Pt.bq n i' ps b)).length=↥ps+1:=by simp[ő]
    rw[z]at sl;lia
   refine{P1 {rfl,_,À.of Û},Ø (sX _ _ h1) T.cw.cl T.c0 rfl {by show 1<=sizeLine;decide,λq1 ϱ=>?_}};have n1:q1≠R:=Zs ϱ Û;have sq:aj Hc (upd Hc q1 (.lst [.str (N i')])):=aj.upd ϱ _;refine Ø ((sX.trans sq) _ _ h1) T.cw.cl T.er rfl {q1,pp,_,_,rfl,rfl,ao,(sX.trans sq) _ _ h2,sz (by rw[Pr,Pw];lia),λq2 hq2=>?_};have sq2:=aj.upd hq2 (.lst ([V.str (N i')]++nV N ps));have n2:q2≠R:=Zs hq2 (sq _ _ Û);refine{_,_,_,_,rfl,rfl,sq2 _ _ (sq _ _ Û),ao,sz (by simp only[Pq,Pr,Pw];lia),{_,rfl,aj.out ((sc.trans sq).trans sq2) hR _,?_}};rw[ao,st];simp[sS,ö,ő,nV,Yc]
  |_=>exact dt.elim
 rintro B Hc ⟨v2,rfl,sc,Û⟩;rw[show ds.take ↥x1=ds by rw[p1.len];exact Qq]at Û;refine K1 _ _ ?_;clear K1 M1;rfl'
 rw[<-Pq]at pl;generalize B0++(ds.flatMap λp=>ö N p::ő N p)=B1 at Û pl q;refine ag λM1 K1=>{N,X,.ref a,hs,ds,ms,rfl,s0.trans sc,pg,ok,λL ys H2 s2 hL eL ly=>?_};have nL:L≠R:=Zs hL Û;have nb:=ok.nb;generalize cq N ds ms=es at ly nb pl q;have Ι:=Sz ly;refine P1 {{_,À.of eL},b4 (K:=K) (xs:=ys) ((BJ a R v2 H2 B1 es)) {Zr,Zr,Zr,rfl,Sm.refl _ _,by rw[Sj];show _=Zq (HO.lst (sS (B1++[])));rw[Qd];exact s2 _ _ Û} (λi B Hd _ zz=>by obtain⟨_,_,_,_,z,_⟩:=zz;exact À.of (z _ _ (λm=>nL (Pu.mp m)) eL)) ?_ ?_}
 ·rintro i y B Hd hy ⟨v3,v4,v5,rfl,sd,Ž⟩;obtain⟨e,he,tp,v,rfl,Ϣ,pa⟩:=bT ly hy;have etp':=sd _ _ (λm=>by rw[Pu.mp m,s2 _ _ Û]at Ϣ;cases Ϣ) Ϣ;have sX:aj X Hd:=sd.same ((s0.trans sc).trans s2) (λm hm=>by
   rw[Pu.mp hm];exact aj.free s0 hR)
  have ne:=nb e (P4 he);have st:=Ap he;have rl:=vO (es.take i);have rl2:(fe (es.take i)).length<=(fe es).length:=by
   have:fe es=fe (es.take i)++fe (es.drop i):=by
    unfold fe;rw[<-Qg,<-QG,Qm]
   rw[this];simp
  rfl'
  refine{tp,_,rfl,Ç.of etp',rfl,_,_,rfl,_,_,rfl,_,_,rfl,rfl,{N,X,v,e.1,rfl,sX,pa,_,rfl,?_}};cases c:oX e.1 with
  |true=>
   rw[c,if_pos rfl]at st;refine bQ {P1 {rfl,_,À.of Ž},eU T sX pa {_,rfl,ne.1,ne.2,{_,_,_,rfl,rfl,Ž,aH (by simp only[sS,Pr,Pq];lia),{_,_,_,rfl,sd.trans (Sm.at (Pu.mpr rfl) _),?_}}}};rw[ao,st];simp[sS]
  |false=>
   rw[c,if_neg PU,Qd]at st;exact a9 {_,_,_,rfl,sd,by rw[st];exact Ž}
 rintro B Hd ⟨v3,v4,v5,rfl,sd,Ž⟩;rw[show es.take ↥ys=es by rw[<-Ι];exact Qq]at Ž;refine K1 _ _ ?_;have s3:aj H Hd:=sd.same (sc.trans s2) (λm hm=>by rw[Pu.mp hm];exact hR);refine{by show 1<=sizeLine;decide,λq1 ϱ=>?_};have sq:aj Hd (upd Hd q1 (.lst [.str "the clock"])):=aj.upd ϱ _;refine{R,q1,_,_,rfl,rfl,sq _ _ Ž,ao,sz (by simp only[sS,Pr,Pq,Pw];lia),λq2 hq2=>q q2 _ ((s3.trans sq).trans (aj.upd hq2 _)) (aj.free (s3.trans sq) hq2) ?_};rw[ao];simp[sS]
theorem FZ:Vd K (.type "str") (.type "str")=Zq true:=by kernel_rfl!
theorem GQ:Vd K (.type "int") (.type "str")=Zq false:=by kernel_rfl!
def ė(N:Nat->Str)(acc:List Str):Th->List Str
 | .i _=>acc
 | .x a=>if N a∈acc then acc else acc++[N a]
def Õ(N:Nat->Str)(ts:List Th):List Str:=ts.foldl (ė N) []
theorem nE(N:Nat->Str):∀(ts:List Th)(acc:List Str),(ts.foldl (ė N) acc).length<=↥ts+↥acc
 | [],acc=>by simp
 |t::ts,acc=>by
  have h:=nE N ts (ė N acc t);have h2:(ė N acc t).length<=↥acc+1:=by
   cases t with
   |i n=>exact Q7 _
   |x a=>unfold ė;dsimp only;split<;>simp
  rw[QS,PD];lia
theorem kN (x acc):ý (.str x) (sS acc)=decide (x∈acc):=by
 unfold ý sS;rw[List.any_map,Q8,Ru,decide_eq_true_iff];constructor
 ·rintro⟨y,m,e⟩;have e:decide (y=x)=true:=e;exact of_decide_eq_true e▸m
 intro m;exact⟨x,m,decide_eq_true rfl⟩
theorem nJ (acc):(sS acc).all mV=true:=by
 unfold sS;rw[List.all_map,Rt];exact λ_ _=>rfl
def æ:Val->List Th
 | .one a=>[a]
 | .op a _ b=>[a,b]
theorem qb (N v):gP (vV N v)=(æ v).map (Th.v N):=by
 cases v<;>kernel_rfl
inductive zN(K:SE)(vs:List V)(H:Hp)(Q:VK)(Ä:XK):Prop
 |mk (N t xs ts) (z0:vs=[.ref t]) (z1:Ç K H t xs) (z2:gP xs=ts.map (Th.v N)) (z3:↥ts<=100)
  (z4:∀(p H'),H p=Zr->aj H H'->H' p=Zq (.lst (sS (Õ N ts)))->Q (.ref p) H'):zN K vs H Q Ä
theorem nG(T:Txt K mg A):T.uv.Hz P w base 1 (zN K):=by
 refine T.uv.hs lV (λf Ã A' outer s H vs Q E' hr hu h=>?_);obtain⟨N,t,xs,ts,rfl,hT,ev,hl,q⟩:=h;refine⟨_,(ab (Æ 1 lV.nd (aQ ae))
  (ab (bY SH rfl (bW (Hs (fv 0))) (Ð (i:=2) lV.nd rfl)
   (ai (aS (PW.pt (pw_and (bE (à aZ T.aG (fv 2^(rQ (v:=.ty "str") rfl T.zX (by boot_by_name) rfl)^ae)) (λ_=>rfl)) (pw_and1 (Ë (dP hu) (fv 2) (fv 1) ((by with_unfolding_all rfl))))))
    (ai (aR (br (fv 1) (fv 2^ae))))
    aF)))
  (ai (aD (fv 1))))),?_⟩
 refine{(by decide:0<=sizeLine),λp hp=>{t,xs,rfl,(aj.upd hp _).tup hT,λe he=>QQ {{_,Ç.of ao},?_}}};have hpe:p≠e:=λz=>by
  rw[<-z,ao]at he;cases he
 rw[ev];refine Ir (K:=K) (xs:=ts.map (Th.v N)) (λi B H3=>aj H H3/\H3 e=Zq (.tup (ts.map (Th.v N)))/\H3 p=Zq (.lst (sS (Õ N (ts.take i))))/\∃v,B=[Zq (.ref t),Zq (.ref p),v]) {(aj.upd hp _).trans (aj.upd he _),ao,?_,Zr,rfl} (λi B H3 _ h=>Ç.of h.2.1) ?_ ?_
 ·rw[aP hpe,ao];rfl
 ·rintro i x B H3 hi ⟨s3,h3e,Ŏ,v,rfl⟩;rw[P5]at hi;cases ht:ts[i]? with
  |none=>rw[ht]at hi;cases hi
  |some th=>
  rw[ht]at hi;cases hi;have nx:Õ N (ts.take (i+1))=ė N (Õ N (ts.take i)) th:=hZ (ė N) [] ht;have ll:=nE N (ts.take i) [];rw[Qo,Qw]at ll;cases th with
  |i n=>
   exact{_,_,_,false,rfl,(λz=>by cases z),.int n,GQ,false,rfl,a9 (a9 {s3,h3e,by rw[Ŏ,nx];rfl,_,rfl})}
  |x a=>
   refine{_,_,_,true,rfl,(λz=>by cases z),.str _,FZ,true,rfl,bQ (P1 {_,P1 (À.of Ŏ),rfl,nJ _,_,rfl,?_})};have nx:Õ N (ts.take (i+1))=if N a∈Õ N (ts.take i)then Õ N (ts.take i)else Õ N (ts.take i)++[N a]:=nx
   by_cases m:N a∈Õ N (ts.take i)
   ·rw[if_pos m]at nx;exact aV (λc=>absurd c (by show ¬ (!ý (V.str (N a)) (sS (Õ N (ts.take i))))=true;rw[kN,decide_eq_true m];decide)) (λ_=>{s3,h3e,by rw[Ŏ,nx],_,rfl})
   rw[if_neg m]at nx;refine aV (λ_=>?_) (λc=>absurd (by show(!ý (V.str (N a)) (sS (Õ N (ts.take i))))=true;rw[kN,decide_eq_false m];rfl) c);refine{P1 {rfl,_,À.of Ŏ},_,_,_,rfl,rfl,Ŏ,aH (by rw[Pr];unfold Õ;lia),{aj.out s3 hp _,au hpe.symm h3e,?_,_,rfl}};rw[ao,nx];simp[sS,Th.v]
 rintro B H3 ⟨s3,h3e,Ŏ,v,rfl⟩;rw[show ts.take (ts.map (Th.v N)).length=ts by rw[Pr];exact Qq]at Ŏ;exact q p H3 hp s3 Ŏ
def Ĥ:Pt->List Th
 | .leaf _ (.set _ v)=>æ v
 | .leaf _ (.snd _ v)=>æ v
 | .leaf _ (.put _ t v)=>t::æ v
 | .iff _ v _ _ _ _=>æ v
 | .loop _ t _ _ _ _=>[t]
 |_=>[]
theorem gU (v):(æ v).length<=2:=by cases v<;>simp[æ]
theorem BW (t):(Ĥ t).length<=3:=by
 cases t with
 |leaf n r=>
  cases r with
  |set _ v=>exact Ro (gU v)
  |snd _ v=>exact Ro (gU v)
  |put _ _ v=>exact RN (gU v)
  |_=>exact Nat.le_of_ble_eq_true rfl
 |iff n v _ _ _ _=>exact Ro (gU v)
 |_=>exact Nat.le_of_ble_eq_true rfl
def jf(acc:List Str)(x:Str):List Str:=if x∈acc then acc else acc++[x]
def df(acc xs:List Str):List Str:=xs.foldl jf acc
theorem wj:∀xs acc,(df acc xs).length<=↥xs+↥acc
 | [],acc=>by simp[df]
 |x::xs,acc=>by
  have h:=wj xs (jf acc x);have h2:(jf acc x).length<=↥acc+1:=by
   unfold jf;split<;>simp
  show(df (jf acc x) xs).length<=_;rw[PD];lia
theorem GY (N t v):df [] (Õ N [t]++Õ N (æ v))=Õ N (t::æ v):=by
 cases t with
 |i n=>
  show df [] ([]++Õ N (æ v))=Õ N (æ v);rw[Qi];cases v with
  |one b=>cases b<;>simp[æ,Õ,ė,df,jf]
  |op b x c=>
   cases b with
   |i m=>cases c<;>simp[æ,Õ,ė,df,jf]
   |x b=>
    cases c with
    |i m=>simp[æ,Õ,ė,df,jf]
    |x c=>
     by_cases e:N c=N b
     ·simp[æ,Õ,ė,df,jf,e]
     simp[æ,Õ,ė,df,jf,e]
 |x a=>
  cases v with
  |one b=>
   cases b with
   |i m=>simp[æ,Õ,ė,df,jf]
   |x b=>simp[æ,Õ,ė,df,jf]
  |op b y c=>
   cases b with
   |i m=>cases c<;>simp[æ,Õ,ė,df,jf]
   |x b=>
    cases c with
    |i m=>simp[æ,Õ,ė,df,jf]
    |x c=>
     by_cases e:N c=N b
     ·by_cases e2:N b=N a
      ·simp[æ,Õ,ė,df,jf,e,e2]
      simp[æ,Õ,ė,df,jf,e,e2]
     by_cases e2:N b=N a
     ·have e3:¬ N c=N a:=λz=>e (z.trans e2.symm);simp[æ,Õ,ė,df,jf,e2,e3]
     by_cases e3:N c=N a
     ·have e4:¬ N a=N b:=λz=>e2 z.symm;simp[æ,Õ,ė,df,jf,e2,e3,e4]
     simp[æ,Õ,ė,df,jf,e,e2,e3]
inductive du(A:Ö)(i:Nat)(vs:List V)(H:Hp)(Q:VK)(Ä:XK):Prop
 |mk (N X v t) (z0:vs=[v]) (z1:aj X H) (z2:bf A N X v t) (z3:t.ci=i)
  (z4:∀(p H'),H p=Zr->aj H H'->H' p=Zq (.lst (sS (Õ N (Ĥ t))))->Q (.ref p) H'):du A i vs H Q Ä
inductive CN(K:SE)(vs:List V)(H:Hp)(Q:VK)(Ä:XK):Prop
 |mk (t xs) (z0:vs=[.ref t]) (z1:À K H t (sS xs)) (z3:↥xs<=100)
  (z4:∀(p H'),H p=Zr->aj H H'->H' p=Zq (.lst (sS (df [] xs)))->Q (.ref p) H'):CN K vs H Q Ä
theorem Mu(T:Txt K mg A):T.qa.Hz P w base 1 (CN K):=by
 refine T.qa.hs kC (λf Ã A' outer s H vs Q E' hr hu h=>?_);obtain⟨t,xs,rfl,hT,hl,q⟩:=h;refine⟨_,(ab (Æ 1 kC.nd (aQ ae))
  (ab (bY SH rfl (bW (fv 0)) (Ð (i:=2) kC.nd rfl)
   (ai (aS (Ë (dP hu) (fv 2) (fv 1) ((by with_unfolding_all rfl)))
    (ai (aR (br (fv 1) (fv 2^ae))))
    aF)))
  (ai (aD (fv 1))))),?_⟩
 refine ag λM1 K1=>{PZ _,λp hp=>?_};obtain⟨s1,e1⟩:=Í hp (HO.lst []);generalize upd H p _=H1 at s1 e1⊢;refine K1 _ _ ?_;clear K1 M1;rfl'
 refine ag λM1 K1=>P1 {{_,s1.seq hT},b4 (K:=K) (xs:=sS xs) (λi B H3=>aj H H3/\H3 p=Zq (.lst (sS (df [] (xs.take i))))/\∃v,B=[Zq (.ref t),Zq (.ref p),v]) ⟨s1,e1,Zr,rfl⟩ (λi B H3 _ h=>h.1.seq hT) ?_ ?_}
 ·rintro i x B H3 hi ⟨s3,Ŏ,v,rfl⟩;rw[P5]at hi;cases ht:xs[i]? with
  |none=>rw[ht]at hi;cases hi
  |some y=>
  rw[ht]at hi;cases hi;have nx:df [] (xs.take (i+1))=jf (df [] (xs.take i)) y:=hZ jf [] ht;have ll:=wj (xs.take i) [];rw[Qo,Qw]at ll;rfl'
  refine P1 {_,P1 (À.of Ŏ),rfl,nJ _,_,rfl,?_};unfold jf at nx;by_cases m:y∈df [] (xs.take i)
  ·rw[if_pos m]at nx;exact aV (λc=>absurd c (by show ¬ (!ý (V.str y) (sS (df [] (xs.take i))))=true;rw[kN,decide_eq_true m];decide)) (λ_=>{s3,by rw[Ŏ,nx],_,rfl})
  rw[if_neg m]at nx;refine aV (λ_=>?_) (λc=>absurd (by show(!ý (V.str y) (sS (df [] (xs.take i))))=true;rw[kN,decide_eq_false m];rfl) c);refine{P1 {rfl,_,À.of Ŏ},_,_,_,rfl,rfl,Ŏ,aH (by rw[Pr];lia),{aj.out s3 hp _,?_,_,rfl}};rw[ao,nx];simp[sS]
 rintro B H3 ⟨s3,Ŏ,v,rfl⟩;rw[show xs.take (sS xs).length=xs by rw[Pr];exact Qq]at Ŏ;exact K1 _ _ (q p H3 hp s3 Ŏ)
theorem tG(T:Txt K mg A):T.i9.Hz P w mg base 2 (du A 5):=by
 refine T.i9.hs (k:=1) qW (λf Ã A' outer s H vs Q E' hr hu h=>?_);obtain⟨N,X,v,t,rfl,s0,pa,ec,q⟩:=h;refine{_,(ai (aD (ak (nG T) hr (aI (fv 0) rfl^ae)))),?_};cases t with
 |leaf n r=>
  unfold bf at pa;obtain⟨a,dx,p,rfl,h1,h2⟩:=pa;cases r with
  |set h val=>exact Ø (s0 _ _ h1) T.fo.cl T.ir rfl {N,p,_,æ val,rfl,Ç.of (s0 _ _ (h2 _ rfl)),qb N val,P2 (gU val) ∅,q}
  |_=>cases ec
 |_=>cases ec
theorem uN(T:Txt K mg A):T.iu.Hz P w mg base 2 (du A 6):=by
 refine T.iu.hs (k:=1) rp (λf Ã A' outer s H vs Q E' hr hu h=>?_);obtain⟨N,X,v,t,rfl,s0,pa,ec,q⟩:=h;refine{_,(ai (aD (ak (Mu T) hr (az aO (ak (nG T) hr (aT (aI (fv 0) rfl^ae)^ae)) (ak (nG T) hr (aI (fv 0) rfl^ae))^ae)))),?_};cases t with
 |leaf n r=>
  unfold bf at pa;obtain⟨a,dx,p,rfl,h1,h2⟩:=pa;cases r with
  |put h pl val=>
   refine Ø (s0 _ _ h1) T.dZ.cl T.iq rfl {by show 1<=sizeLine;decide,λtp á=>?_};obtain⟨s1,e1⟩:=Í á (HO.tup [pl.v N]);generalize upd H tp _=H1 at s1 e1⊢;refine{N,tp,_,[pl],rfl,Ç.of e1,qb N (.one pl),by simp,λL1 H2 f2 s2 e2=>?_};have Ζ:=s1.trans s2;refine Ø ((s0.trans Ζ) _ _ h1) T.dZ.cl T.iz rfl {N,p,_,æ val,rfl,Ç.of ((s0.trans Ζ) _ _ (h2 _ rfl)),qb N val,P2 (gU val) ∅,λL2 H3 f3 s3 e3=>?_};have l1:=nE N [pl] [];have l2:=nE N (æ val) [];have l3:=gU val;simp only[Pw,Qw]at l1 l2;refine{L1,L2,_,_,rfl,rfl,s3 _ _ e2,e3,sz (by rw[Pr,Pr];unfold Õ;lia),λL3 hL3=>?_};obtain⟨s4,e4⟩:=Í hL3 (HO.lst (sS (Õ N [pl])++sS (Õ N (æ val))));generalize upd H3 L3 _=H4 at s4 e4⊢;have t4:=Ζ.trans (s3.trans s4);refine{L3,Õ N [pl]++Õ N (æ val),rfl,À.of (by rw[e4];simp[sS]),by rw[Pq];unfold Õ;lia,λR H5 f5 s5 e5=>q R H5 (aj.free t4 f5) (t4.trans s5) (by rw[e5,GY];rfl)}
  |_=>cases ec
 |_=>cases ec
theorem rE(T:Txt K mg A):T.gI.Hz P w mg base 2 (du A 7):=by
 refine T.gI.hs (k:=1) pY (λf Ã A' outer s H vs Q E' hr hu h=>?_);obtain⟨N,X,v,t,rfl,s0,pa,ec,q⟩:=h;refine{_,(ai (aD (ak (nG T) hr (aI (fv 0) rfl^ae)))),?_};cases t with
 |leaf n r=>
  unfold bf at pa;obtain⟨a,dx,p,rfl,h1,h2⟩:=pa;cases r with
  |snd h val=>exact Ø (s0 _ _ h1) T.dz.cl T.gH rfl {N,p,_,æ val,rfl,Ç.of (s0 _ _ (h2 _ rfl)),qb N val,P2 (gU val) ∅,q}
  |_=>cases ec
 |_=>cases ec
theorem vk(T:Txt K mg A):T.jX.Hz P w mg base 2 (du A 11):=by
 refine T.jX.hs (k:=1) tP (λf Ã A' outer s H vs Q E' hr hu h=>?_);obtain⟨N,X,v,t,rfl,s0,pa,ec,q⟩:=h;refine{_,(ai (aD (ak (nG T) hr (aI (fv 0) rfl^ae)))),?_};cases t with
 |iff n val l r f o=>
  unfold bf at pa;obtain⟨a,dx,p,pf,po,xf,xo,rfl,h1,h2,_⟩:=pa;exact Ø (s0 _ _ h1) T.cv.cl T.jF rfl {N,p,_,æ val,rfl,Ç.of (s0 _ _ h2),qb N val,P2 (gU val) ∅,q}
 |leaf n r=>cases r<;>cases ec
 |_=>cases ec
theorem qZ(T:Txt K mg A):T.gA.Hz P w mg base 2 (du A 12):=by
 refine T.gA.hs (k:=1) pZ (λf Ã A' outer s H vs Q E' hr hu h=>?_);obtain⟨N,X,v,t,rfl,s0,pa,ec,q⟩:=h;refine{_,(ai (aD (ak (nG T) hr (aT (aI (fv 0) rfl^ae)^ae)))),?_};cases t with
 |loop n t m l r b=>
  unfold bf at pa;obtain⟨a,dx,pb,xb,rfl,h1,_⟩:=pa;exact Ø (s0 _ _ h1) T.bB.cl T.gq rfl {by show 1<=sizeLine;decide,λtp á=>{N,tp,_,[t],rfl,Ç.of ao,qb N (.one t),by simp,λp H' hp s1 e1=>q p H' (aj.free (aj.upd á _) hp) ((aj.upd á _).trans s1) e1}}
 |leaf n r=>cases r<;>cases ec
 |_=>cases ec
def Mv(A:Ö)(C:Sv)(sp:Sp):Prop:=∃i,(i=5\/i=6\/i=7\/i=11\/i=12)/\C=ń A i/\sp=du A i
theorem Ib(T:Txt K mg A):∀C sp,Mv A C sp->œ K C/\∃ps,zi P w K mg base 2 C "reads" ps sp:=by
 rintro C sp ⟨i,rfl|rfl|rfl|rfl|rfl,rfl,rfl⟩
 ·exact{T.fo.cl,_,tG T}
 ·exact{T.dZ.cl,_,uN T}
 ·exact{T.dz.cl,_,rE T}
 ·exact{T.cv.cl,_,vk T}
 exact{T.bB.cl,_,qZ T}
structure Lk where
 fr:Str
 to:Str
 kd:Str
 no:Int
def Lk.vs(l:Lk):List V:=[.str l.fr,.str l.to,.str l.kd,.int l.no]
def LkR(l:Lk)(y:V)(H:Hp):Prop:=∃t,y=V.ref t/\H t=Zq (.tup l.vs)
def ã(H:Hp)(ls:List Lk)(ys:List V):Prop:=Paired (λl y=>LkR l y H) ls ys
theorem ã.same(s:∀x w,H x=Zq (.tup w)->H' x=Zq (.tup w))(h:ã H ls ys):ã H' ls ys:=Paired.vo h λ_ _ ⟨t,e,h1⟩=>{t,e,s _ _ h1}
theorem sN{α β γ:Type}{F}(g:γ->α){l:List γ}{m:List β}(h:Paired (λx y=>F (g x) y) l m):Paired F (l.map g) m:=by
 induction h with
 |nil=>exact .nil
 |cons h _ ih=>exact .cons h ih
def drP(into:Str):Option Str->Bool
 |none=>false
 |some x=>!decide (x=into)
def ô(fs:List (Option Str))(into kd:Str)(n:Int):List Lk:=(fs.filter (drP into)).map λf=>⟨f.getD SQ,into,kd,n⟩
theorem cB (fs into kd n):(ô fs into kd n).length<=↥fs:=by
 unfold ô;rw[Pr];exact QD _ _
inductive j2(K:SE)(vs:List V)(H:Hp)(Q:VK)(Ä:XK):Prop
 |mk (L fs into kd n) (z0:vs=[.ref L,.str into,.str kd,.int n]) (z1:À K H L (fs.map oS)) (z2:↥fs<=100)
  (z3:∀(R ys H'),aj H H'->H R=Zr->H' R=Zq (.lst ys)->ã H' (ô fs into kd n) ys->Q (.ref R) H'):j2 K vs H Q Ä
theorem rW(T:Txt K mg A):T.drawn.Hz P w base 1 (j2 K):=by
 refine T.drawn.hs Fs (λf Ã A' outer s H vs Q E' hr hu h=>?_);obtain⟨L,fs,into,kd,n,rfl,hL,hl,q⟩:=h;refine{_,(ai (aD (eJ (N:=["one","into","kind","number"]) (own:=1) (fr:=[1,2,3]) (cf.of (by kernel_rfl!)) rfl (bW (fv 0)) (λb=>Ð (i:=0) (show Tf (["one","into","kind","number"]:List T1) by decide+kernel) rfl) (λb=>qv (PW.pt (pw_and (Ë eG (fv 0) bJ) (pw_and1 (Ë (rF hu) (fv 0) (fv 1)))))) (λb=>aT (fv 0^fv 1^fv 2^fv 3^ae))))),P1 {{_,hL},ft (K:=K) (own:=1) fs (drP into) (λf y H=>LkR ⟨f.getD SQ,into,kd,n⟩ y H) hL (Pr _) (by rw[Pr];exact aH ()) ?_ ?_ ?_ ?_}}
 ·intro b i x e v0 H1 Nn Y hx he hv s1 no yes;obtain⟨u0,rfl⟩:=ye hv;rw[P5,he]at hx;cases hx;cases e with
  |none=>exact{rfl,_,rfl,a9 (a9 (no rfl [Zq .Ê] _ rfl (aj.refl _)))}
  |some x=>
   refine{rfl,_,rfl,bQ {rfl,_,rfl,?_}};by_cases c:x=into
   ·subst c;exact aV (λz=>absurd z (by show ¬ (!decide (V.str x=V.str x))=true;rw[decide_eq_true rfl];decide)) (λ_=>no (by show(!decide (x=x))=false;rw[decide_eq_true rfl];rfl) [Zq (.str x)] _ rfl (aj.refl _))
   refine aV (λ_=>?_) (λz=>absurd (by show(!decide (V.str x=V.str into))=true;rw[Pg,decide_eq_false c];rfl) z);exact{by show 4<=sizeLine;decide,λtp á=>yes (by show(!decide (x=into))=true;rw[decide_eq_false c];rfl) [Zq (.str x)] _ _ rfl (aj.upd á _) ⟨tp,rfl,ao⟩}
 ·rintro e y H1 H2 s1 ⟨t,e1,h1⟩;exact{t,e1,s1 _ _ h1}
 ·rintro e y H1 D ys zs hD ⟨t,e1,h1⟩;exact{t,e1,au (λz=>by rw[z,hD]at h1;cases h1) h1}
 intro D H1 ys hD s1 e1 pr;exact q D ys H1 s1 hD e1 (sN _ pr)
def wN(N:Nat->Str)(n:Int)(tp:Th×Str):List Lk:=match tp.1 with
 | .i _=>[]
 | .x a=>ô [Zq (N a)] tp.2 "value" n
def ό(N:Nat->Str)(n:Int)(l:List (Th×Str)):List Lk:=l.flatMap (wN N n)
def Ϸ(pl:Option Str)(n:Int)(l:List Str):List Lk:=l.flatMap λinto=>ô [pl] into "under" n
theorem wD{α β:Type}(f:α->List β)(h:∀x,(f x).length<=1):∀l:List α,(l.flatMap f).length<=↥l
 | []=>Px _
 |x::l=>by
  have h1:=wD f h l;have h2:=h x;rw[QA,Pq,PD];lia
theorem xJ (n) (tp:Th×Str):(wN N n tp).length<=1:=by
 unfold wN;split
 ·simp
 exact cB _ _ _ _
theorem o9{H Hc He:Hp}{R R2:Sv}{ls ms:List Lk}{ys zs:List V}(s3:aj Hc He)(Û:Hc R=Zq (.lst ys))(ly:ã Hc ls ys)(l3:ã He ms zs):ã (upd He R (.lst (ys++zs))) (ls++ms) (ys++zs):=by
 have dR:∀x w,He x=Zq (.tup w)->upd He R (.lst (ys++zs)) x=Zq (.tup w):=λx w e=>au (λy=>by rw[y,s3 _ _ Û]at e;cases e) e;exact Paired.two (ly.same λx w e=>dR x w (s3 _ _ e)) (l3.same dR)
inductive wA(A:Ö)(vs:List V)(H:Hp)(Q:VK)(Ä:XK):Prop
 |mk (N X v n i ts pl pp ps) (z0:vs=[v,oS pl,.ref pp]) (z1:aj X H) (z2:bf A N X v (.leaf n (.call i ts))) (z3:X pp=Zq (.lst (sS ps))) (z4:↥ts=↥ps) (z5:↥ps<=100)
  (z6:∀(R ys H'),aj H H'->H R=Zr->H' R=Zq (.lst ys)->ã H' (ό N n (ts.zip ps)++Ϸ pl n (ps++[N i])) ys->Q (.ref R) H'):wA A vs H Q Ä
inductive BC(a:Sv)(pl:Option Str)(pp:Sv)(R:Sv)(H:Hp)(n:Int)(ts:List Th)(ps:List Str)(j:Nat)(B:St)(Hc:Hp):Prop
 |mk (ys v4 v5):B=[Zq (.ref a),Zq (oS pl),Zq (.ref pp),Zq (.ref R),v4,v5,Zr]->aj H Hc->Hc R=Zq (.lst ys)->ã Hc (ό N n ((ts.zip ps).take j)) ys->BC a pl pp R H n ts ps j B Hc
inductive Bx(a:Sv)(pl:Option Str)(pp:Sv)(R:Sv)(v4:Option V)(v5:Option V)(H2:Hp)(LA:List Lk)(n:Int)(is:List Str)(j:Nat)(B:St)(Hd:Hp):Prop
 |mk (zs v6):B=[Zq (.ref a),Zq (oS pl),Zq (.ref pp),Zq (.ref R),v4,v5,v6]->Sm [R] H2 Hd->Hd R=Zq (.lst zs)->ã Hd (LA++Ϸ pl n (is.take j)) zs->Bx a pl pp R v4 v5 H2 LA n is j B Hd
theorem Hq(T:Txt K mg A):T.kX.Hz P w base 2 (wA A):=by
 refine T.kX.hs (k:=1) dv (λf Ã A' outer s H vs Q E' hr hu h=>?_);obtain⟨N,X,v,n,i,ts,pl,pp,ps,rfl,s0,pa,ż,tl,pl1,q⟩:=h;unfold bf at pa;obtain⟨a,dx,p,rfl,h1,h2⟩:=pa;have h2:=h2 _ rfl;refine⟨_,(ab (Æ 3 dv.nd (aQ ae))
  (ab (bY SH rfl (Li rfl T.BB (aI (fv 0) rfl^fv 2^ae)) (dg rfl (aK (Ð (i:=4) dv.nd rfl) (aK (Ð (i:=5) dv.nd rfl) cu)))
   (ai (aS (bE (à aZ T.aG (fv 4^(rQ (v:=.ty "str") rfl T.zX (by boot_by_name) rfl)^ae)) (λ_=>rfl))
    (ai (aR (gp (fv 3) (ak (rW T) hr (aQ (fv 4^ae)^fv 5^aw^aI (fv 0) rfl^ae)^ae))))
    aF)))
  (ab (bY SH rfl (bW (az aO (fv 2) (aQ (aI (fv 0) rfl^ae)))) (Ð (i:=6) dv.nd rfl)
   (ai (aR (gp (fv 3) (ak (rW T) hr (aQ (fv 1^ae)^fv 6^aw^aI (fv 0) rfl^ae)^ae)))))
  (ai (aD (fv 3)))))),?_⟩
 refine ag λM1 K1=>{PZ _,λR hR=>?_};obtain⟨s1,e1⟩:=Í hR (HO.lst []);generalize upd H R _=H1 at s1 e1⊢;refine K1 _ _ ?_;clear K1 M1;rfl'
 refine ag λM1 K1=>?_;have sX1:=s0.trans s1;refine Ø (sX1 _ _ h1) T.cG.cl T.fL rfl {_,_,rfl,{_,À.of (sX1 _ _ h2)},{_,À.of (sX1 _ _ ż)},HE (K:=K) (xs:=ts.map (Th.v N)) (ys:=sS ps) ((BC (N:=N) a pl pp R H n ts ps)) {[],Zr,Zr,rfl,s1,e1,.nil} (λj B Hc _ zz=>by obtain⟨_,_,_,_,z,_,_⟩:=zz;exact{À.of ((s0.trans z) _ _ h2),À.of ((s0.trans z) _ _ ż)}) (by rw[Pr,Pr];exact tl) ?_ ?_}
 ·rintro j x y B Hc tp hx hy ⟨ys,v4,v5,rfl,sc,Û,ly⟩ á;rw[P5]at hx hy;cases ht:ts[j]? with
  |none=>rw[ht]at hx;cases hx
  |some th=>
  cases hp:ps[j]? with
  |none=>rw[hp]at hy;cases hy
  |some pn=>
  rw[ht]at hx;rw[hp]at hy;cases hx;cases hy;have hz:(ts.zip ps)[j]?=Zq (th,pn):=List.getElem?_zip_eq_some.mpr ⟨ht,hp⟩;have st:ό N n ((ts.zip ps).take (j+1))=ό N n ((ts.zip ps).take j)++wN N n (th,pn):=pQ (wN N n) hz;have sl:=wD (wN N n) (xJ n) ((ts.zip ps).take j);rw[Qo,Ri]at sl;have Ι:=Sz ly;unfold ό at Ι;have sp:=aj.upd á (.tup [th.v N,.str pn]);have tR:tp≠R:=Zs á Û;rfl'
  refine{tp,_,rfl,Ç.of ao,rfl,_,_,rfl,_,_,rfl,rfl,?_};cases th with
  |i m=>
   refine{_,_,_,false,rfl,(λz=>by cases z),.int m,GQ,false,rfl,a9 {ys,_,_,rfl,sc.trans sp,sp _ _ Û,?_}};rw[st];show ã _ (_++[]) ys;rw[Qd];exact ly.same λx w e=>sp _ _ e
  |x b=>
   refine{_,_,_,true,rfl,(λz=>by cases z),.str _,FZ,true,rfl,bQ {P1 {rfl,_,À.of (sp _ _ Û)},by show 1<=sizeLine;decide,λq1 ϱ=>?_}};have sq:=aj.upd ϱ (.lst [Th.v N (.x b)]);refine Ø ((((s0.trans sc).trans sp).trans sq) _ _ h1) T.cG.cl T.cW rfl {q1,[Zq (N b)],pn,"value",n,rfl,À.of ao,by simp,λR2 zs He s3 hR2 Ń l3=>?_};have lz:=Sz l3;have dl:=cB [Zq (N b)] pn "value" n;have s4:=(sp.trans sq).trans s3;refine{_,_,_,_,rfl,rfl,s4 _ _ Û,Ń,sz (by simp only[Pw]at dl;lia),{_,_,_,rfl,aj.out (sc.trans s4) hR _,ao,?_}};rw[st];exact o9 (H:=H) (R2:=R2) s4 Û ly l3
 rintro B Hc ⟨ys,v4,v5,rfl,sc,Û,ly⟩;rw[show(ts.zip ps).take (ts.map (Th.v N)).length=ts.zip ps by rw[Pr];exact Qx (by rw[Ri];lia)]at ly;have l1:(ό N n (ts.zip ps)).length<=100:=P2 (wD (wN N n) (xJ n) _) (by rw[Ri];lia);refine K1 _ _ ?_;clear K1 M1;generalize ό N n (ts.zip ps)=LA at ly l1 q;rfl'
 refine ag λM1 K1=>?_;have sX:=s0.trans sc;refine Ø (sX _ _ h1) T.cG.cl T.dQ rfl {by show 1<=sizeLine;decide,λq1 ϱ=>?_};have sq:=aj.upd ϱ (.lst [.str (N i)]);refine{pp,q1,_,_,rfl,rfl,(sX.trans sq) _ _ ż,ao,sz (by rw[Pr,Pw];lia),λq2 hq2=>?_};have sq2:=aj.upd hq2 (.lst (sS ps++[.str (N i)]));have es:sS ps++[V.str (N i)]=sS (ps++[N i]):=by simp[sS]
 rw[es]at sq2⊢;have eq2:upd (upd Hc q1 (.lst [.str (N i)])) q2 (.lst (sS (ps++[N i]))) q2=Zq (.lst (sS (ps++[N i]))):=ao;have sc2:=sq.trans sq2;have q2R:q2≠R:=Zs hq2 (sq _ _ Û);generalize upd (upd Hc q1 (.lst [.str (N i)])) q2 (.lst (sS (ps++[N i])))=H2 at sc2 eq2⊢;have is1:(ps++[N i]).length<=101:=by simp;lia
 generalize ps++[N i]=is at eq2 is1 q;refine P1 {{_,À.of eq2},b4 (K:=K) (xs:=sS is) ((Bx a pl pp R v4 v5 H2 LA n is)) {ys,Zr,rfl,Sm.refl _ _,sc2 _ _ Û,by show ã _ (_++[]) _;rw[Qd];exact ly.same λx w e=>sc2 _ _ e} (λj B Hd _ zz=>by obtain⟨_,_,_,z,_,_⟩:=zz;exact À.of (z _ _ (λm=>q2R (Pu.mp m)) eq2)) ?_ ?_}
 ·rintro j x B Hd hx ⟨zs,v6,rfl,sd,Ž,lz⟩;rw[P5]at hx;cases hi:is[j]? with
  |none=>rw[hi]at hx;cases hx
  |some into=>
  rw[hi]at hx;cases hx;have st:Ϸ pl n (is.take (j+1))=Ϸ pl n (is.take j)++ô [pl] into "under" n:=pQ _ hi;have sl:=wD (λinto=>ô [pl] into "under" n) (λx=>cB _ _ _ _) (is.take j);rw[Qo]at sl;have llz:=Sz lz;unfold Ϸ at llz;rw[Pq]at llz;have ū:aj H Hd:=sd.same (sc.trans sc2) (λm hm=>by rw[Pu.mp hm];exact hR);rfl'
  refine{P1 {rfl,_,À.of Ž},by show 1<=sizeLine;decide,λq3 Ρ=>?_};have ŵ:=aj.upd Ρ (.lst [oS pl]);refine Ø (((s0.trans ū).trans ŵ) _ _ h1) T.cG.cl T.cW rfl {q3,[pl],into,"under",n,rfl,À.of ao,by simp,λR2 ws He s3 hR2 Ń l3=>?_};have lw:=Sz l3;have dl:=cB [pl] into "under" n;have s4:=ŵ.trans s3;refine{_,_,_,_,rfl,rfl,s4 _ _ Ž,Ń,sz (by simp only[Pw]at dl;lia),{_,_,rfl,(sd.trans (Sm.new s4)).trans (Sm.at (Pu.mpr rfl) _),ao,?_}};rw[st,<-P6];exact o9 (H:=H) (R2:=R2) s4 Ž lz l3
 rintro B Hd ⟨zs,v6,rfl,sd,Ž,lz⟩;rw[show is.take (sS is).length=is by rw[Pr];exact Qq]at lz;exact K1 _ _ (q R zs Hd (sd.same (sc.trans sc2) (λm hm=>by rw[Pu.mp hm];exact hR)) hR Ž lz)
def k5:Pt->Bool
 | .leaf _ (.set _ _)=>true
 | .leaf _ (.put _ _ _)=>true
 | .leaf _ (.snd _ _)=>true
 | .leaf _ (.say _ _ _)=>true
 | .leaf _ (.call _ _)=>true
 | .leaf _ .last=>true
 | .iff _ _ _ _ _ _=>true
 | .loop _ _ _ _ _ _=>true
 |_=>false
def ϋ(N:Nat->Str)(t:Pt)(into kd:Str)(pl:Option Str):List Lk:=ô ((Õ N (Ĥ t)).map Zq) into kd t.no++ô [pl] into "under" t.no
def saL(pl:Option Str)(x m:Str)(n:Int):List Lk:=ô [Zq m] x "value" n++ô [pl] x "under" n++ô [pl] (aX n) "under" n
def vf(N:Nat->Str)(po:Str->List Str)(t:Pt)(pl lp:Option Str):List Lk:=match t with
 | .leaf n (.set x v)=>ϋ N (.leaf n (.set x v)) (N x) "value" pl
 | .leaf n (.put x p v)=>ϋ N (.leaf n (.put x p v)) (N x) "value" pl
 | .leaf n (.call i ts)=>ό N n (ts.zip (po (N i)))++Ϸ pl n (po (N i)++[N i])
 | .leaf n (.snd h v)=>ϋ N (.leaf n (.snd h v)) (aX n) "value" pl
 | .leaf n (.say x _ m)=>saL pl (N x) (N m) n
 | .leaf n .last=>ô [pl] (lp.getD SQ) "under" n
 | .iff n v l r f o=>ϋ N (.iff n v l r f o) (aX n) "test" pl
 | .loop n t m l r b=>ϋ N (.loop n t m l r b) (aX n) "test" pl
 |_=>[]
theorem xS (t into kd pl):(ϋ N t into kd pl).length<=4:=by
 unfold ϋ;have h1:=cB ((Õ N (Ĥ t)).map Zq) into kd t.no;have h2:=cB [pl] into "under" t.no;have h3:=nE N (Ĥ t) [];have h4:=BW t;rw[Pr]at h1;rw[Pq];simp only[Pw,Qw]at h2 h3;unfold Õ at h1⊢;lia
def lOk(t:Pt)(lp:Option Str):Prop:=t.ci=10->lp.isSome=true
def Gb(X H:Hp)(D:Sv)(po:Str->List Str)(nm:List Str):Prop:=∃kvs,H D=Zq (.dK kvs)/\∀x∈nm,(po x).length<=100/\∃pp,L2.b5 kvs (.inr x)=Zq (.ref pp)/\X pp=Zq (.lst (sS (po x)))
theorem Gb.same(h:Gb X H D po nm)(e:∀kvs,H D=Zq (.dK kvs)->H' D=Zq (.dK kvs)):Gb X H' D po nm:=by
 obtain⟨kvs,h1,h2⟩:=h;exact{kvs,e _ h1,h2}
def Fp(N:Nat->Str)(po:Str->List Str)(nm:List Str):Pt->Prop
 | .leaf _ (.call i ts)=>N i∈nm/\↥ts=(po (N i)).length
 |_=>True
theorem MG{t:Pt}(h:t.ci=5):∃n a b,t=(.leaf n (.set a b)):=by
 cases t with
 |leaf n r=>cases r<;>first|(cases h;done)|exact{_,_,_,rfl}
 |_=>first|(cases h;done)|exact{_,_,_,rfl}
theorem Lx{t:Pt}(h:t.ci=6):∃n a b c,t=(.leaf n (.put a b c)):=by
 cases t with
 |leaf n r=>cases r<;>first|(cases h;done)|exact{_,_,_,_,rfl}
 |_=>first|(cases h;done)|exact{_,_,_,_,rfl}
theorem KG{t:Pt}(h:t.ci=7):∃n a b,t=(.leaf n (.snd a b)):=by
 cases t with
 |leaf n r=>cases r<;>first|(cases h;done)|exact{_,_,_,rfl}
 |_=>first|(cases h;done)|exact{_,_,_,rfl}
theorem K3{t:Pt}(h:t.ci=8):∃n a b c,t=(.leaf n (.say a b c)):=by
 cases t with
 |leaf n r=>cases r<;>first|(cases h;done)|exact{_,_,_,_,rfl}
 |_=>first|(cases h;done)|exact{_,_,_,_,rfl}
theorem IL{t:Pt}(h:t.ci=10):∃n,t=(.leaf n .last):=by
 cases t with
 |leaf n r=>cases r<;>first|(cases h;done)|exact{_,rfl}
 |_=>first|(cases h;done)|exact{_,rfl}
theorem L7{t:Pt}(h:t.ci=11):∃n a b c d e,t=(.iff n a b c d e):=by
 cases t with
 |leaf n r=>cases r<;>first|(cases h;done)|exact{_,_,_,_,_,_,rfl}
 |_=>first|(cases h;done)|exact{_,_,_,_,_,_,rfl}
theorem Ia{t:Pt}(h:t.ci=12):∃n a b c d e,t=(.loop n a b c d e):=by
 cases t with
 |leaf n r=>cases r<;>first|(cases h;done)|exact{_,_,_,_,_,_,rfl}
 |_=>first|(cases h;done)|exact{_,_,_,_,_,_,rfl}
inductive Cg(A:Ö)(vs:List V)(H:Hp)(Q:VK)(Ä:XK):Prop
 |mk (N X v t pl lp D) (po:Str->List Str) (nm) (z0:vs=[v,oS pl,oS lp,.ref D]) (z1:aj X H) (z2:bf A N X v t) (z3:k5 t=true) (z4:0<=t.no/\t.no<=1000) (z8:lOk t lp) (z5:Gb X H D po nm) (z6:Fp N po nm t)
  (z7:∀(R ys H'),aj H H'->H R=Zr->H' R=Zq (.lst ys)->ã H' (vf N po t pl lp) ys->Q (.ref R) H'):Cg A vs H Q Ä
inductive Cm(A:Ö)(vs:List V)(H:Hp)(Q:VK)(Ä:XK):Prop
 |mk(N:Nat->Str)(X:Hp)(v:V)(n:Int)(x m:Nat)(val:Val)(pl:Option Str)(z0:vs=[v,oS pl])(z1:aj X H)(z2:bf A N X v (.leaf n (.say x val m)))(z4:0<=n/\n<=1000)
  (z7:∀(R:Sv)(ys:List V)(H':Hp),aj H H'->H R=Zr->H' R=Zq (.lst ys)->ã H' (saL pl (N x) (N m) n) ys->Q (.ref R) H'):Cm A vs H Q Ä
theorem LS(T:Txt K mg A):T.oE.Hz P w base 2 (Cm A):=by
 have dy:=@rW P w _ _ base _ T;refine T.oE.hs (k:=1) oa (λf Ã A' outer s H vs Q E' hr hu h=>?_);obtain⟨N,X,v,n,x,m,val,pl,rfl,s0,pa,nt,q⟩:=h;unfold bf at pa;obtain⟨a,dx,p,rfl,h1,_⟩:=pa;refine⟨_,(ab (Æ 2 oa.nd (ak dy hr (aQ (aI (fv 0) rfl^ae)^aI (fv 0) rfl^aw^aI (fv 0) rfl^ae)))
  (ab (aR (gp (fv 2) (ak dy hr (aQ (fv 1^ae)^aI (fv 0) rfl^aw^aI (fv 0) rfl^ae)^ae)))
  (ai (aD (az aO (fv 2) (ak dy hr (aQ (fv 1^ae)^ak (o8 T) hr (aI (fv 0) rfl^ae)^aw^aI (fv 0) rfl^ae))))))),?_⟩
 refine ag λM1 K1=>Ø (s0 _ _ h1) T.cz.cl T.jI rfl {by show 1<=sizeLine;decide,λq1 ϱ=>?_};have s1:=aj.upd ϱ (.lst [V.str (N m)]);have sX1:=s0.trans s1;refine Ø (sX1 _ _ h1) T.cz.cl T.fZ rfl (Ø (sX1 _ _ h1) T.cz.cl T.b8 rfl {q1,[Zq (N m)],N x,"value",n,rfl,À.of ao,by simp,λR y1 H2 s2 n2 e2 l2=>K1 _ _ ?_});clear K1 M1;have t2:=s1.trans s2;have hR:H R=Zr:=aj.free s1 n2;have a1:=Sz l2;have b1:=cB [Zq (N m)] (N x) "value" n;rfl'
 refine ag λM1 K1=>{P1 {rfl,_,À.of e2},by show 1<=sizeLine;decide,λq3 Ρ=>?_};have s3:=aj.upd Ρ (.lst [oS pl]);have Ŷ:=s0.trans (t2.trans s3);refine Ø (Ŷ _ _ h1) T.cz.cl T.fZ rfl (Ø (Ŷ _ _ h1) T.cz.cl T.b8 rfl {q3,[pl],N x,"under",n,rfl,À.of ao,by simp,λR2 y2 H4 s4 n4 e4 l4=>?_});have Ε:=s3.trans s4;have a2:=Sz l4;have b2:=cB [pl] (N x) "under" n;simp only[Pw]at b1 b2;refine{_,_,_,_,rfl,rfl,Ε _ _ e2,e4,sz (),?_};have l5:=o9 (H:=H) (R2:=R2) Ε e2 l2 l4;have s5:aj H (upd H4 R (.lst (y1++y2))):=aj.out (t2.trans Ε) hR _;have e5:upd H4 R (.lst (y1++y2)) R=Zq (.lst (y1++y2)):=ao;generalize upd H4 R (.lst (y1++y2))=H5 at l5 s5 e5⊢;refine K1 _ _ ?_;clear K1 M1;rfl'
 refine{by show 1<=sizeLine;decide,λq6 hq6=>?_};have s6:=aj.upd hq6 (.lst [oS pl]);have sX6:=s0.trans (s5.trans s6);refine Ø (sX6 _ _ h1) T.cz.cl T.b8 rfl {_,rfl,nt.1,nt.2,Ø (sX6 _ _ h1) T.cz.cl T.b8 rfl {q6,[pl],aX n,"under",n,rfl,À.of ao,by simp,λR3 y3 H7 s7 n7 e7 l7=>?_}};have s57:=s6.trans s7;have a3:=Sz l7;have b3:=cB [pl] (aX n) "under" n;simp only[Pw]at b3;refine{R,R3,_,_,rfl,rfl,s57 _ _ e5,e7,sz (by rw[Pq];lia),λR4 hR4=>?_};have s8:=aj.upd hR4 (.lst (y1++y2++y3));exact q R4 _ _ (s5.trans (s57.trans s8)) (aj.free (s5.trans s57) hR4) ao (Paired.two (l5.same λz w e=>(s57.trans s8) _ _ e) (l7.same λz w e=>s8 _ _ e))
theorem Oa(h:bf A N X v p):∃a dx fs,v=.ref a/\X a=Zq (.ins (ń A p.ci) dx fs)/\fs.lookup ("reads":Str)=Zr:=by
 cases p with
 |leaf n r=>
  unfold bf at h;obtain⟨a,dx,p,e,h1,h2⟩:=h;exact{a,dx,_,e,h1,by cases r<;>rfl}
 |iff n val l r f o=>
  unfold bf at h;obtain⟨a,dx,p,pf,po,xf,xo,e,h1,_⟩:=h;exact{a,dx,_,e,h1,rfl}
 |loop n t m l r b=>
  unfold bf at h;obtain⟨a,dx,pb,xb,e,h1,_⟩:=h;exact{a,dx,_,e,h1,rfl}
 |bq n i ps b=>
  unfold bf at h;obtain⟨a,dx,pp,pb,xb,e,h1,_⟩:=h;exact{a,dx,_,e,h1,rfl}
theorem LL(T:Txt K mg A):T.qM.Hz P w base 3 (Cg A):=by
 have dy:=@rW P w _ _ base _ T;have M_reads:=Ib (P:=P) (w:=w) (mg:=mg) (base:=base) T;refine T.qM.hs (k:=2) pF (λf Ã A' outer s H vs Q E' hr hu h=>?_);obtain⟨N,X,v,t,pl,lp,D,po,nm,rfl,s0,pa,hk,nt,hlp,hD,hc,q⟩:=h;refine⟨_,(ab (Æ 4 pF.nd (ak (o8 T) hr (aI (fv 0) rfl^ae)))
  (ab (aS (PW.pt (pw_or (bE (à aZ T.aG (fv 0^bF T.fo.mg^ae)) (λ_=>rfl)) (pw_or1 (bE (à aZ T.aG (fv 0^bF T.dZ.mg^ae)) (λ_=>rfl)))))
   (ai (aD (az aO (ak dy hr (qp (fv 0) M_reads hr^aI (fv 0) rfl^aw^aI (fv 0) rfl^ae)) (ak dy hr (aQ (fv 1^ae)^aI (fv 0) rfl^aw^aI (fv 0) rfl^ae)))))
   aF)
  (ab (aS (bE (à aZ T.aG (fv 0^bF T.dz.mg^ae)) (λ_=>rfl))
   (ai (aD (az aO (ak dy hr (qp (fv 0) M_reads hr^fv 4^aw^aI (fv 0) rfl^ae)) (ak dy hr (aQ (fv 1^ae)^fv 4^aw^aI (fv 0) rfl^ae)))))
   aF)
  (ab (aS (bE (à aZ T.aG (fv 0^bF T.cz.mg^ae)) (λ_=>rfl))
   (ai (aD (ak (LS T) hr (fv 0^fv 1^ae))))
   aF)
  (ab (aS (PW.pt (pw_or (bE (à aZ T.aG (fv 0^bF T.cv.mg^ae)) (λ_=>rfl)) (pw_or1 (bE (à aZ T.aG (fv 0^bF T.bB.mg^ae)) (λ_=>rfl)))))
   (ai (aD (az aO (ak dy hr (qp (fv 0) M_reads hr^fv 4^aw^aI (fv 0) rfl^ae)) (ak dy hr (aQ (fv 1^ae)^fv 4^aw^aI (fv 0) rfl^ae)))))
   aF)
  (ab (aS (bE (à aZ T.aG (fv 0^bF T.ib.mg^ae)) (λ_=>rfl))
   (ai (aD (ak dy hr (aQ (fv 1^ae)^fv 2^aw^aI (fv 0) rfl^ae))))
   aF)
  (ai (aD (ak (Hq T) hr (fv 0^fv 1^px hu (fv 3) (aI (fv 0) rfl)^ae)))))))))),?_⟩
 refine ag λM1 K1=>eU T s0 pa {_,rfl,nt.1,nt.2,K1 _ _ ?_};clear K1 M1;rfl'
 have ob:=Oa pa;have jn:∀(kd into:Str)(R:VK),(∀(R':Sv)(ys:List V)(H':Hp),aj H H'->H R'=Zr->H' R'=Zq (.lst ys)->ã H' (ϋ N t into kd pl) ys->R (.ref R') H')->
   ∀(R1 R2:Sv)(y1 y2:List V)(H2 H3:Hp),aj H H2->H2 R1=Zq (.lst y1)->ã H2 (ô ((Õ N (Ĥ t)).map Zq) into kd t.no) y1->aj H2 H3->H3 R2=Zq (.lst y2)->ã H3 (ô [pl] into "under" t.no) y2->IV (.ref R1) (.ref R2) H3 R:=by
  intro kd into R qq R1 R2 y1 y2 H2 H3 s2 e2 l2 s3 e3 l3
  have d:=xS (N:=N) t into kd pl
  have a1:=Sz l2
  have a2:=Sz l3
  unfold ϋ at d
  rw[Pq]at d
  refine{R1,R2,_,_,rfl,rfl,s3 _ _ e2,e3,sz (),λR hR=>?_}
  have s5:=aj.upd hR (.lst (y1++y2))
  exact qq R _ _ ((s2.trans s3).trans s5) (aj.free (s2.trans s3) hR) ao (Paired.two (l2.same λx w e=>s5 _ _ (s3 _ _ e)) (l3.same λx w e=>s5 _ _ e))
 have rl:∀{p:Sv}{H1:Hp},H1 p=Zq (.lst (sS (Õ N (Ĥ t))))->À K H1 p (((Õ N (Ĥ t)).map Zq).map oS)/\((Õ N (Ĥ t)).map Zq).length<=100:=λe1=>by
  have h3:=nE N (Ĥ t) [];have h4:=BW t;simp only[Qw]at h3;exact{À.of (by rw[e1,QB];rfl),by rw[Pr];unfold Õ;lia}
 have two:∀(kd:Str)(R:VK),(∀(R':Sv)(ys:List V)(H':Hp),aj H H'->H R'=Zr->H' R'=Zq (.lst ys)->ã H' (ϋ N t (aX t.no) kd pl) ys->R (.ref R') H')->∀(p:Sv)(H1:Hp),H p=Zr->aj H H1->H1 p=Zq (.lst (sS (Õ N (Ĥ t))))->
   j2 K [.ref p,.str (aX t.no),.str kd,.int t.no] H1 (λx H2=>1<=sizeLine/\∀q3,H2 q3=Zr->oK K "number" v (upd H2 q3 (.lst [oS pl])) λu H3=>j2 K [.ref q3,.str (aX t.no),.str "under",u] H3 (λy H4=>IV x y H4 R) E0) E0:=by
  intro kd R qq p H1 hp s1 e1
  refine{p,(Õ N (Ĥ t)).map Zq,aX t.no,kd,t.no,rfl,(rl e1).1,(rl e1).2,λR1 y1 H2 s2 n2 e2 l2=>{∅,λq3 Ρ=>?_}}
  have ŵ:=aj.upd Ρ (.lst [oS pl])
  exact eU T (((s0.trans s1).trans s2).trans ŵ) pa {q3,[pl],aX t.no,"under",t.no,rfl,À.of ao,by simp,λR2 y2 H3 s3 n3 e3 l3=>jn kd _ R qq R1 R2 y1 y2 H2 H3 (s1.trans s2) e2 l2 (ŵ.trans s3) e3 l3}
 have twoN:∀(into:Str)(R:VK),(∀(H':Hp){Q:VK},aj X H'->Q (.str into) H'->oK K "name" v H' Q)->(∀(R':Sv)(ys:List V)(H':Hp),aj H H'->H R'=Zr->H' R'=Zq (.lst ys)->ã H' (ϋ N t into "value" pl) ys->R (.ref R') H')->∀(p:Sv)(H1:Hp),H p=Zr->aj H H1->H1 p=Zq (.lst (sS (Õ N (Ĥ t))))->
   oK K "name" v H1 λi1 H1'=>oK K "number" v H1' λm1 H1''=>j2 K [.ref p,i1,.str "value",m1] H1'' (λx H2=>1<=sizeLine/\∀q3,H2 q3=Zr->oK K "name" v (upd H2 q3 (.lst [oS pl])) λi2 H3'=>oK K "number" v H3' λu H3=>j2 K [.ref q3,i2,.str "under",u] H3 (λy H4=>IV x y H4 R) E0) E0:=by
  intro into R nf qq p H1 hp s1 e1
  refine nf H1 (s0.trans s1) (eU T (s0.trans s1) pa {p,(Õ N (Ĥ t)).map Zq,into,"value",t.no,rfl,(rl e1).1,(rl e1).2,λR1 y1 H2 s2 n2 e2 l2=>{∅,λq3 Ρ=>?_}})
  have ŵ:=aj.upd Ρ (.lst [oS pl])
  have Ŷ:=((s0.trans s1).trans s2).trans ŵ
  exact nf _ Ŷ (eU T Ŷ pa {q3,[pl],into,"under",t.no,rfl,À.of ao,by simp,λR2 y2 H3 s3 n3 e3 l3=>jn "value" _ R qq R1 R2 y1 y2 H2 H3 (s1.trans s2) e2 l2 (ŵ.trans s3) e3 l3})
 obtain⟨a,dx,fs,rfl,h1,Ű⟩:=ob;refine ag λM1 K1=>?_;by_cases c5:t.ci=5
 ·refine kH T s0 pa c5 (bQ ?_);have rr:∀{Q:VK},(∀(p:Sv)(H':Hp),H p=Zr->aj H H'->H' p=Zq (.lst (sS (Õ N (Ĥ t))))->Q (.ref p) H')->du A 5 [.ref a] H Q E0:=λk=>{N,X,_,_,rfl,s0,pa,c5,k};refine{a,_,dx,_,_,rfl,s0 _ _ h1,Ű,{5,∅,by rw[c5],rfl},rr ?_};clear two jn rl rr;obtain⟨n,x,val,rfl⟩:=MG c5;have ϖ:=pa;unfold bf at ϖ;obtain⟨a',dx',p',e',ž,_⟩:=ϖ;cases e';exact twoN (N x) _ (λH' Q sx k=>Ø (sx _ _ ž) T.fo.cl T.jG rfl k) q
 refine gv T s0 pa c5 (a9 ?_);by_cases c6:t.ci=6
 ·refine kH T s0 pa c6 (bQ ?_);have rr:∀{Q:VK},(∀(p:Sv)(H':Hp),H p=Zr->aj H H'->H' p=Zq (.lst (sS (Õ N (Ĥ t))))->Q (.ref p) H')->du A 6 [.ref a] H Q E0:=λk=>{N,X,_,_,rfl,s0,pa,c6,k};refine{a,_,dx,_,_,rfl,s0 _ _ h1,Ű,{6,∅,by rw[c6],rfl},rr ?_};clear two jn rl rr;obtain⟨n,x,pt,val,rfl⟩:=Lx c6;have ϖ:=pa;unfold bf at ϖ;obtain⟨a',dx',p',e',ž,_⟩:=ϖ;cases e';exact twoN (N x) _ (λH' Q sx k=>Ø (sx _ _ ž) T.dZ.cl T.jH rfl k) q
 refine gv T s0 pa c6 (a9 (K1 _ _ ?_));clear K1 M1 twoN;refine ag λM1 K1=>?_;by_cases c7:t.ci=7
 ·refine kH T s0 pa c7 (bQ ?_);have rr:∀{Q:VK},(∀(p:Sv)(H':Hp),H p=Zr->aj H H'->H' p=Zq (.lst (sS (Õ N (Ĥ t))))->Q (.ref p) H')->du A 7 [.ref a] H Q E0:=λk=>{N,X,_,_,rfl,s0,pa,c7,k};refine{a,_,dx,_,_,rfl,s0 _ _ h1,Ű,{7,∅,by rw[c7],rfl},rr λp H1 hp s1 e1=>eU T (s0.trans s1) pa (two "value" _ ?_ p H1 hp s1 e1)};clear two jn rl rr;obtain⟨n,x,val,rfl⟩:=KG c7;exact q
 refine gv T s0 pa c7 (a9 (K1 _ _ ?_));clear K1 M1;refine ag λM1 K1=>?_;by_cases c8:t.ci=8
 ·refine kH T s0 pa c8 (bQ ?_);clear two jn rl;obtain⟨n,x,val,m,rfl⟩:=K3 c8;exact{N,X,_,n,x,m,val,pl,rfl,s0,pa,nt,q}
 refine gv T s0 pa c8 (a9 (K1 _ _ ?_));clear K1 M1;refine ag λM1 K1=>?_;by_cases ú:t.ci=11
 ·refine kH T s0 pa ú (bQ ?_);have rr:∀{Q:VK},(∀(p:Sv)(H':Hp),H p=Zr->aj H H'->H' p=Zq (.lst (sS (Õ N (Ĥ t))))->Q (.ref p) H')->du A 11 [.ref a] H Q E0:=λk=>{N,X,_,_,rfl,s0,pa,ú,k};refine{a,_,dx,_,_,rfl,s0 _ _ h1,Ű,{11,∅,by rw[ú],rfl},rr λp H1 hp s1 e1=>eU T (s0.trans s1) pa (two "test" _ ?_ p H1 hp s1 e1)};clear two jn rl rr;obtain⟨n,val,l,r,fs,os,rfl⟩:=L7 ú;exact q
 refine gv T s0 pa ú (a9 ?_);by_cases Ą:t.ci=12
 ·refine kH T s0 pa Ą (bQ ?_);have rr:∀{Q:VK},(∀(p:Sv)(H':Hp),H p=Zr->aj H H'->H' p=Zq (.lst (sS (Õ N (Ĥ t))))->Q (.ref p) H')->du A 12 [.ref a] H Q E0:=λk=>{N,X,_,_,rfl,s0,pa,Ą,k};refine{a,_,dx,_,_,rfl,s0 _ _ h1,Ű,{12,∅,by rw[Ą],rfl},rr λp H1 hp s1 e1=>eU T (s0.trans s1) pa (two "test" _ ?_ p H1 hp s1 e1)};clear two jn rl rr;obtain⟨n,th,m,l,r,b,rfl⟩:=Ia Ą;exact q
 refine gv T s0 pa Ą (a9 (K1 _ _ ?_));clear K1 M1 two jn rl;refine ag λM1 K1=>?_;by_cases Œ:t.ci=10
 ·refine kH T s0 pa Œ (bQ ?_);cases lp with
  |none=>exact absurd (hlp Œ) ∅
  |some lq=>
  refine{by show 1<=sizeLine;decide,λq3 Ρ=>?_};have ŵ:=aj.upd Ρ (.lst [oS pl]);refine eU T (s0.trans ŵ) pa {q3,[pl],lq,"under",t.no,rfl,À.of ao,by simp,λR2 y2 H3 s3 n3 e3 l3=>q R2 y2 H3 (ŵ.trans s3) (aj.free ŵ n3) e3 ?_};obtain⟨n,rfl⟩:=IL Œ;exact l3
 refine gv T s0 pa Œ (a9 (K1 _ _ ?_));clear K1 M1;cases t with
 |leaf n r=>
  cases r with
  |call i ts=>
   have ϖ:=pa;unfold bf at ϖ;obtain⟨a',dx',p,e',ž,_⟩:=ϖ;cases e';obtain⟨kvs,eD,hd⟩:=hD;obtain⟨c1,c2⟩:=hc;obtain⟨l1,pp,e1,e2⟩:=hd _ c1;exact Ø (s0 _ _ ž) T.cG.cl T.dQ rfl (Þ eD e1 {N,X,_,n,i,ts,pl,pp,po (N i),rfl,s0,pa,e2,c2,l1,q})
  |set _ _=>exact absurd rfl c5
  |put _ _ _=>exact absurd rfl c6
  |snd _ _=>exact absurd rfl c7
  |say _ _ _=>exact absurd rfl c8
  |last=>exact absurd rfl Œ
  |_=>cases hk
 |iff _ _ _ _ _ _=>exact absurd rfl ú
 |loop _ _ _ _ _ _=>exact absurd rfl Ą
 |bq n i ps b=>cases hk
def oI:Option Int->V
 |none=>.Ê
 |some n=>.int n
def NS(l r:Int):Option Int->Option Int->Option Int
 |some a,Zq b=>if l+a=r+b then Zq (1+l+a)else Zr
 |_,_=>Zr
def N3(m l r:Int):Option Int->Option Int
 |some a=>if l+a=r then Zq (1+m*r)else Zr
 |none=>Zr
def D7(a:Int):Option Int->Option Int
 |some b=>Zq (a+b)
 |none=>Zr
def jh:Option Int->Option Int->Option Int
 |some a,x=>D7 a x
 |none,_=>Zr
mutual
noncomputable def ġ(kn:Nat->Option Int):Pt->Option Int
 | .leaf _ (.call i _)=>D7 1 (kn i)
 | .leaf _ _=>Zq 1
 | .iff _ _ l r f o=>NS l r (cO kn f) (cO kn o)
 | .loop _ _ m l r b=>N3 m l r (cO kn b)
 | .bq _ _ _ _=>Zq 1
noncomputable def cO(kn:Nat->Option Int):List Pt->Option Int
 | []=>Zq 0
 |t::ts=>jh (ġ kn t) (cO kn ts)
end
theorem qU (a b c):jh (jh a b) c=jh a (jh b c):=by
 cases a with
 |none=>rfl
 |some a=>cases b with
  |none=>rfl
  |some b=>cases c with
   |none=>rfl
   |some c=>show Zq (a+b+c)=Zq (a+(b+c));rw[So]
theorem Bm (a):jh (Zq 0) a=a:=by
 cases a with
 |none=>rfl
 |some a=>show Zq (0+a)=Zq a;rw[Ss]
theorem tM(kn:Nat->Option Int):∀(a b:List Pt),cO kn (a++b)=jh (cO kn a) (cO kn b)
 | [],b=>by rw[Qi,show cO kn []=Zq 0 by rw[cO],Bm]
 |t::a,b=>by
  rw[Qr,cO,cO,tM kn a b,qU]
theorem F2(kn:Nat->Option Int) (t):cO kn [t]=ġ kn t:=by
 rw[cO,cO];cases ġ kn t with
 |none=>rfl
 |some a=>show Zq (a+0)=Zq a;rw[Int.add_zero]
theorem wG(kn:Nat->Option Int){ts:List Pt}{i:Nat}{t:Pt}(h:ts[i]?=Zq t):cO kn (ts.take (i+1))=jh (cO kn (ts.take i)) (ġ kn t):=by
 rw[Qv,h,tM];show jh _ (cO kn [t])=_;rw[F2]
theorem Fc(kn:Nat->Option Int){ts:List Pt}{i:Nat}{t:Pt}(h:ts[i]?=Zq t)(e:ġ kn t=Zr):cO kn ts=Zr:=by
 have:=tM kn (ts.take (i+1)) (ts.drop (i+1));rw[Qm,wG kn h,e]at this;rw[this];cases cO kn (ts.take i)<;>rfl
mutual
noncomputable def Ņ(idx:List Nat):Pt->Prop
 | .leaf _ (.call i _)=>i∈idx
 | .leaf _ _=>True
 | .iff _ _ _ _ f o=>uw idx f/\uw idx o
 | .loop _ _ m _ _ b=>0<=m/\m<=1000/\uw idx b
 | .bq _ _ _ _=>True
noncomputable def uw(idx:List Nat):List Pt->Prop
 | []=>True
 |t::ts=>Ņ idx t/\uw idx ts
end
theorem zw:∀{ts:List Pt},uw idx ts->t∈ts->Ņ idx t
 |t'::ts,h,m=>by
  unfold uw at h;rcases Py.mp m with rfl|m
  ·exact h.1
  exact zw h.2 m
def lG(N:Nat->Str)(H:Hp)(D:Sv)(idx:List Nat)(kn:Nat->V):Prop:=∃kvs,H D=Zq (.dK kvs)/\∀i∈idx,L2.b5 kvs (.inr (N i))=Zq (kn i)
inductive BA(vs:List V)(H:Hp)(Q:VK)(Ä:XK):Prop
 |mk (x):vs=[oI x]->Q (oI (D7 1 x)) H->BA vs H Q Ä
theorem LY(T:Txt K mg A):T.tW.Hz P w base 1 BA:=by
 refine T.tW.hs zh (λf Ã A' outer s H vs Q E' hr hu h=>?_);obtain⟨x,rfl,q⟩:=h;refine{_,(ai (aD (GW (Ë AX (fv 0) bJ) bJ (az aO af (fv 0))))),?_};cases x with
 |none=>exact{rfl,_,rfl,bQ q}
 |some n=>exact{rfl,_,rfl,a9 q}
inductive kh(A:Ö)(d:Nat)(vs:List V)(H:Hp)(Q:VK)(Ä:XK):Prop
 |mk (N X L D xs ts idx) (kn:Nat->Option Int):vs=[.ref L,.ref D]->aj X H->X L=Zq (.lst xs)->aJ A N X xs ts->nN ts<=d->uw idx ts->(lG N H D idx λi=>oI (kn i))->Q (oI (cO kn ts)) H->kh A d vs H Q Ä
inductive nM(A:Ö)(d:Nat)(vs:List V)(H:Hp)(Q:VK)(Ä:XK):Prop
 |mk (N X v D t idx) (kn:Nat->Option Int):vs=[v,.ref D]->aj X H->bf A N X v t->dep t<=d->Ņ idx t->(lG N H D idx λi=>oI (kn i))->Q (oI (ġ kn t)) H->nM A d vs H Q Ä
def spN(sp:Nat->Sp):Nat->Sp
 |0=>λ_ _ _ _=>False
 |d+1=>sp d
inductive ke(A:Ö)(d c:Nat)(vs:List V)(H:Hp)(Q:VK)(Ä:XK):Prop
 |mk (N X v D t idx) (kn:Nat->Option Int):vs=[v,.ref D]->aj X H->bf A N X v t->dep t<=d->Ņ idx t->(lG N H D idx λi=>oI (kn i))->t.ci=c->Q (oI (ġ kn t)) H->ke A d c vs H Q Ä
inductive CA(L:Sv)(D:Sv)(H:Hp)(kn:Nat->Option Int)(ts:List Pt)(i:Nat)(B:St)(Hc:Hp):Prop
 |mk (a v3 v4):B=[Zq (.ref L),Zq (.ref D),Zq (.int a),v3,v4]->Hc=H->cO kn (ts.take i)=Zq a->CA L D H kn ts i B Hc
theorem yC(T:Txt K mg A) (d j) (ky:T.fw.Hz P w base j (nM A d)):T.eg.Hz P w base (j+1) (kh A d):=by
 refine T.eg.hs (k:=j) da (λf Ã A' outer s H vs Q E' hr hu h=>?_);obtain⟨N,X,L,D,xs,ts,idx,kn,rfl,s0,hL,pt,dp,ck,hD,q⟩:=h;refine⟨_,(ab (Æ 2 da.nd af)
  (ab (bY SH rfl (bW (fv 0)) (Ð (i:=3) da.nd rfl)
   (ab (Æ 4 da.nd (ak (hj:=by lia) ky hr (fv 3^fv 1^ae)))
   (ab (aS (Ë AX (fv 4) bJ)
    (ai (aD bJ))
    aF)
   (ai (GU (i:=2) da.nd rfl (by first|exact P1 rfl|exact QQ rfl) (fv 4) FE)))))
  (ai (aD (fv 2))))),?_⟩
 refine ag λM1 K1=>K1 _ _ ?_;clear K1 M1;rfl'
 refine ag λM1 K1=>P1 {{_,À.of (s0 _ _ hL)},b4 (K:=K) (xs:=xs) ((CA L D H kn ts)) {0,Zr,Zr,rfl,rfl,by rw[Sj,cO]} (λi B Hc _ zz=>by obtain⟨_,_,_,_,z,_⟩:=zz;exact z▸À.of (s0 _ _ hL)) ?_ ?_}
 ·rintro i v B Hc hv ⟨a,v3,v4,rfl,rfl,ea⟩;obtain⟨t,ht,pa⟩:=pt.get hv;have mt:t∈ts:=P4 ht;rfl'
  refine ag λN1 J1=>{N,X,v,D,t,idx,kn,rfl,s0,pa,P2 (sy mt) dp,zw ck mt,hD,?_};have st:=wG kn ht;rw[ea]at st;refine J1 _ _ ?_;clear J1 N1;rfl'
  refine ag λN1 J1=>?_;cases e:ġ kn t with
  |none=>
   rw[Fc kn ht e]at q;exact{rfl,_,rfl,bQ q}
  |some b=>
   rw[e]at st;exact{rfl,_,rfl,a9 (J1 _ _ {_,rfl,a,b,rfl,rfl,a+b,_,_,rfl,rfl,st})}
 rintro B Hc ⟨a,v3,v4,rfl,rfl,ea⟩;rw[show ts.take ↥xs=ts by rw[pt.len];exact Qq]at ea;rw[ea]at q;exact K1 _ _ q
theorem xu(T:Txt K mg A) (d j) (jb:T.eg.Hz P w base j (spN (kh A) d)):T.jk.Hz P w base (j+1) (ke A d 11):=by
 refine T.jk.hs (k:=j) iO (λf Ã A' outer s H vs Q E' hr hu h=>?_);obtain⟨N,X,v,D,t,idx,kn,rfl,s0,pa,dp,ck,hD,ec,q⟩:=h;refine⟨_,(ab (Æ 2 iO.nd (ak (hj:=by lia) jb hr (aI (fv 0) rfl^fv 1^ae)))
  (ab (Æ 3 iO.nd (ak (hj:=by lia) jb hr (aI (fv 0) rfl^fv 1^ae)))
  (ab (aS (PW.pt (pw_or (Ë AX (fv 2) bJ) (pw_or (Ë AX (fv 3) bJ) (pw_or1 (Ë (rF hu) (az aO (aI (fv 0) rfl) (fv 2)) (az aO (aI (fv 0) rfl) (fv 3)))))))
   (ai (aD bJ))
   aF)
  (ai (aD (az aO (az aO af (aI (fv 0) rfl)) (fv 2))))))),?_⟩
 cases t with
 |leaf n r=>cases r<;>cases ec
 |loop _ _ _ _ _ _=>cases ec
 |bq _ _ _ _=>cases ec
 |iff n val l r fs os=>
 unfold bf at pa;obtain⟨a,dx,p,pf,po,xf,xo,rfl,h1,h2,h3,h4,h5,h6⟩:=pa;unfold dep at dp;unfold Ņ at ck;unfold ġ at q;cases d with
 |zero=>lia
 |succ d=>
 refine ag λM1 K1=>Ø (s0 _ _ h1) T.cv.cl T.gc rfl {N,X,pf,D,xf,fs,idx,kn,rfl,s0,h3,h5,(),ck.1,hD,K1 _ _ ?_};clear K1 M1;rfl'
 refine ag λM1 K1=>Ø (s0 _ _ h1) T.cv.cl T.gb rfl {N,X,po,D,xo,os,idx,kn,rfl,s0,h4,h6,(),ck.2,hD,?_};generalize cO kn fs=ef at q;generalize cO kn os=eo at q;refine K1 _ _ ?_;clear K1 M1;rfl'
 refine ag λM1 K1=>?_;cases ef with
 |none=>exact{rfl,_,rfl,bQ q}
 |some b=>
 refine{rfl,_,rfl,a9 ?_};cases eo with
 |none=>exact{rfl,_,rfl,bQ q}
 |some c=>
 refine{rfl,_,rfl,a9 (Ø (s0 _ _ h1) T.cv.cl T.gX rfl (Ø (s0 _ _ h1) T.cv.cl T.jW rfl {rfl,_,rfl,?_}))};by_cases e:l+b=r+c
 ·refine aV (λz=>absurd z (by show ¬ (!decide (V.int (l+b)=V.int (r+c)))=true;rw[JC,decide_eq_true e];decide)) (λ_=>K1 _ _ ?_);have q:Q (oI (if l+b=r+c then Zq (1+l+b)else Zr)) H:=q;rw[if_pos e]at q;exact Ø (s0 _ _ h1) T.cv.cl T.gX rfl q
 refine aV (λ_=>?_) (λz=>absurd (by show(!decide (V.int (l+b)=V.int (r+c)))=true;rw[JC,decide_eq_false e];rfl) z);have q:Q (oI (if l+b=r+c then Zq (1+l+b)else Zr)) H:=q;rw[if_neg e]at q;exact q
theorem wU(T:Txt K mg A) (d j) (jb:T.eg.Hz P w base j (spN (kh A) d)):T.fY.Hz P w base (j+1) (ke A d 12):=by
 refine T.fY.hs (k:=j) j7 (λf Ã A' outer s H vs Q E' hr hu h=>?_);obtain⟨N,X,v,D,t,idx,kn,rfl,s0,pa,dp,ck,hD,ec,q⟩:=h;refine⟨_,(ab (Æ 2 j7.nd (ak (hj:=by lia) jb hr (aI (fv 0) rfl^fv 1^ae)))
  (ab (aS (PW.pt (pw_or (Ë AX (fv 2) bJ) (pw_or1 (Ë (rF hu) (az aO (aI (fv 0) rfl) (fv 2)) (aI (fv 0) rfl)))))
   (ai (aD bJ))
   aF)
  (ai (aD (az aO af (az dD (aI (fv 0) rfl) (aI (fv 0) rfl))))))),?_⟩
 cases t with
 |leaf n r=>cases r<;>cases ec
 |iff _ _ _ _ _ _=>cases ec
 |bq _ _ _ _=>cases ec
 |loop n th m l r b=>
 unfold bf at pa;obtain⟨a,dx,pb,xb,rfl,h1,h2,h3⟩:=pa;unfold dep at dp;unfold Ņ at ck;unfold ġ at q;cases d with
 |zero=>lia
 |succ d=>
 refine ag λM1 K1=>Ø (s0 _ _ h1) T.bB.cl T.fB rfl {N,X,pb,D,xb,b,idx,kn,rfl,s0,h2,h3,(),ck.2.2,hD,?_};generalize cO kn b=ef at q;refine K1 _ _ ?_;clear K1 M1;rfl'
 refine ag λM1 K1=>?_;cases ef with
 |none=>exact{rfl,_,rfl,bQ q}
 |some b=>
 refine{rfl,_,rfl,a9 (Ø (s0 _ _ h1) T.bB.cl T.iY rfl (Ø (s0 _ _ h1) T.bB.cl T.eA rfl {rfl,_,rfl,?_}))};have q:Q (oI (if l+b=r then Zq (1+m*r)else Zr)) H:=q;by_cases e:l+b=r
 ·refine aV (λz=>absurd z (by show ¬ (!decide (V.int (l+b)=V.int r))=true;rw[JC,decide_eq_true e];decide)) (λ_=>K1 _ _ ?_);rw[if_pos e]at q;exact Ø (s0 _ _ h1) T.bB.cl T.iQ rfl (Ø (s0 _ _ h1) T.bB.cl T.eA rfl {DV () (),q})
 refine aV (λ_=>?_) (λz=>absurd (by show(!decide (V.int (l+b)=V.int r))=true;rw[JC,decide_eq_false e];rfl) z);rw[if_neg e]at q;exact q
theorem Ae(T:Txt K mg A) (d j) (lM:T.jk.Hz P w base (j+1) (ke A d 11)) (kx:T.fY.Hz P w base (j+1) (ke A d 12)):T.fw.Hz P w base (j+2) (nM A d):=by
 refine T.fw.hs (k:=j+1) rD (λf Ã A' outer s H vs Q E' hr hu h=>?_);obtain⟨N,X,v,D,t,idx,kn,rfl,s0,pa,dp,ck,hD,q⟩:=h;refine⟨_,(ab (aS (bE (à aZ T.aG (fv 0^bF T.cG.mg^ae)) (λ_=>rfl))
   (ai (aD (ak (hj:=by lia) (LY T) hr (px hu (fv 1) (aI (fv 0) rfl)^ae))))
   aF)
  (ab (aS (bE (à aZ T.aG (fv 0^bF T.cv.mg^ae)) (λ_=>rfl))
   (ai (aD (ak (hj:=by lia) lM hr (fv 0^fv 1^ae))))
   aF)
  (ab (aS (bE (à aZ T.aG (fv 0^bF T.bB.mg^ae)) (λ_=>rfl))
   (ai (aD (ak (hj:=by lia) kx hr (fv 0^fv 1^ae))))
   aF)
  (ai (aD af))))),?_⟩
 by_cases c9:t.ci=9
 ·refine ag λM1 K1=>kH T s0 pa c9 (bQ ?_);cases t with
  |leaf n r=>
   cases r with
   |call i ts=>
    unfold bf at pa;obtain⟨a,dx,p,rfl,h1,_⟩:=pa;unfold Ņ at ck;unfold ġ at q;obtain⟨kvs,e1,e2⟩:=hD;exact Ø (s0 _ _ h1) T.cG.cl T.dQ rfl (Þ e1 (e2 i ck) ⟨kn i,rfl,q⟩)
   |_=>cases c9
  |_=>cases c9
 refine ag λM1 K1=>gv T s0 pa c9 (a9 (K1 _ _ ?_));clear K1 M1;by_cases ú:t.ci=11
 ·exact ag λM1 K1=>kH T s0 pa ú (bQ ⟨N,X,v,D,t,idx,kn,rfl,s0,pa,dp,ck,hD,ú,q⟩)
 refine ag λM1 K1=>gv T s0 pa ú (a9 (K1 _ _ ?_));clear K1 M1;by_cases Ą:t.ci=12
 ·exact ag λM1 K1=>kH T s0 pa Ą (bQ ⟨N,X,v,D,t,idx,kn,rfl,s0,pa,dp,ck,hD,Ą,q⟩)
 refine ag λM1 K1=>gv T s0 pa Ą (a9 (?_));have e:ġ kn t=Zq 1:=by
  cases t with
  |leaf n r=>
   cases r with
   |call i ts=>exact absurd rfl c9
   |_=>simp[ġ]
  |iff _ _ _ _ _ _=>exact absurd rfl ú
  |loop _ _ _ _ _ _=>exact absurd rfl Ą
  |bq _ _ _ _=>rw[ġ]
 rw[e]at q;exact K1 _ _ q
theorem rS(T:Txt K mg A):∀d,T.eg.Hz P w base (3*d+4) (kh A d)
 |0=>yC T 0 3 (Ae T 0 1 (xu T 0 1 (T.eg.hs (k:=0) da (λ_ _ _ _ _ _ _ _ _ _ _ h=>h.elim) (λ_ _ _ _ h=>h.elim))) (wU T 0 1 (T.eg.hs (k:=0) da (λ_ _ _ _ _ _ _ _ _ _ _ h=>h.elim) (λ_ _ _ _ h=>h.elim))))
 |d+1=>yC T (d+1) (3*d+6) (Ae T (d+1) (3*d+4) (xu T (d+1) (3*d+4) (rS T d)) (wU T (d+1) (3*d+4) (rS T d)))
theorem JG(T:Txt K mg A):∀d,T.eg.Hz P w base (3*d+4) (spN (kh A) d)
 |0=>T.eg.hs (k:=3) da (λ_ _ _ _ _ _ _ _ _ _ _ h=>h.elim) (λ_ _ _ _ h=>h.elim)
 |d+1=>(rS T d).mono ()
theorem G4(T:Txt K mg A) (d):T.fw.Hz P w base (3*d+6) (nM A d):=
 Ae T d (3*d+4) (xu T d (3*d+4) (JG T d)) (wU T d (3*d+4) (JG T d))
inductive Fg(A:Ö)(d:Nat)(vs:List V)(H:Hp)(Q:VK)(Ä:XK):Prop
 |mk (N X v D t idx) (kn:Nat->Option Int):vs=[v,.ref D]->aj X H->bf A N X v t->dep t<=d->Ņ idx t->(lG N H D idx λi=>oI (kn i))->Q (.bl (ġ kn t).isSome) H->Fg A d vs H Q Ä
theorem NC(T:Txt K mg A) (d):T.balanced.Hz P w base (3*d+7) (Fg A d):=by
 refine T.balanced.hs (k:=3*d+6) yK (λf Ã A' outer s H vs Q E' hr hu h=>?_);obtain⟨N,X,v,D,t,idx,kn,rfl,s0,pa,dp,ck,hD,q⟩:=h;refine{_,(ai (aD (Ϫ eG (ak (hj:=by lia) (G4 T d) hr (fv 0^fv 1^ae)) bJ))),{N,X,v,D,t,idx,kn,rfl,s0,pa,dp,ck,hD,rfl,?_}};cases e:ġ kn t with
 |none=>rw[e]at q;exact q
 |some n=>rw[e]at q;exact q
def ī:Pt->Nat
 | .bq _ i _ _=>i
 |_=>0
def knF{α:Type}(g:(Nat->α)->List Pt->α)(kn:Nat->α)(p:Pt):Nat->α:=λj=>if j=ī p then g kn (nX p)else kn j
def Ğ{α:Type}(g:(Nat->α)->List Pt->α)(z:α)(ds:List Pt):Nat->α:=ds.foldl (knF g) λ_=>z
structure Ku(N:Nat->Str)(d:Nat)(ds:List Pt):Prop where
 bq:∀p∈ds,GL p
 dp:∀p∈ds,nN (nX p)<=d
 ck:∀(i:Nat)(p:Pt),ds[i]?=Zq p->uw ((ds.take i).map ī) (nX p)
 nm:∀(i j:Nat)(p q:Pt),ds[i]?=Zq p->ds[j]?=Zq q->N (ī p)=N (ī q)->i=j
 ln:↥ds<=900
theorem Jg{α:Type}(g:(Nat->α)->List Pt->α)(z:α)(vl:α->V){ds:List Pt}{d i:Nat}{p:Pt}(O:Ku N d ds)(hp:ds[i]?=Zq p){kvs:List (Key×V)}(h:∀k∈(ds.take i).map ī,L2.b5 kvs (.inr (N k))=Zq (vl (Ğ g z (ds.take i) k))) :
  ∀k∈(ds.take (i+1)).map ī,L2.b5 (Zz kvs (.inr (N (ī p))) (vl (g (Ğ g z (ds.take i)) (nX p)))) (.inr (N k))=Zq (vl (Ğ g z (ds.take (i+1)) k)):=by
 intro k hk
 have st:Ğ g z (ds.take (i+1))=knF g (Ğ g z (ds.take i)) p:=hZ (knF g) (λ_=>z) hp
 rw[zj,st]
 rw[Qv,hp,Qg]at hk
 show(if(Qc (N k):Key)=Qc (N (ī p))then _ else _)=Zq (vl (if k=ī p then _ else _))
 by_cases e:k=ī p
 ·rw[if_pos (by rw[e]),if_pos e]
 have m:k∈(ds.take i).map ī:=by
  rcases Pz.mp hk with m|m
  ·exact m
  exact absurd (Pu.mp m) e
 rw[if_neg e,if_neg,h k m]
 intro z
 obtain⟨q,mq,rfl⟩:=PM.mp m
 obtain⟨j,hj⟩:=Qb mq
 have jl:j<i:=by
  have:=(PQ.mp hj).1;rw[Qo]at this;lia
 rw[Rc jl]at hj
 have:=O.nm j i q p hj hp (Qc.inj z)
 lia
inductive vE(A:Ö)(d:Nat)(vs:List V)(H:Hp)(Q:VK)(Ä:XK):Prop
 |mk (N X v hs ds ms) (z0:vs=[v]) (z1:aj X H) (z2:vc A N X v hs ds ms) (z3:Ku N d ds)
  (z4:∀(D H'),aj H H'->H D=Zr->lG N H' D (ds.map ī) (λi=>oI (Ğ cO Zr ds i))->Q (.ref D) H'):vE A d vs H Q Ä
inductive Dk(a:Sv)(D:Sv)(H:Hp)(ds:List Pt)(i:Nat)(B:St)(Hc:Hp):Prop
 |mk (v2 kvs):B=[Zq (.ref a),Zq (.ref D),v2]->aj H Hc->Hc D=Zq (.dK kvs)->↥kvs<=i->(∀k∈(ds.take i).map ī,L2.b5 kvs (.inr (N k))=Zq (oI (Ğ cO Zr (ds.take i) k)))->Dk a D H ds i B Hc
theorem GK(T:Txt K mg A) (d):T.Aq.Hz P w base (3*d+5) (vE A d):=by
 refine T.Aq.hs (k:=3*d+4) qx (λf Ã A' outer s H vs Q E' hr hu h=>?_);obtain⟨N,X,v,hs,ds,ms,rfl,s0,⟨a,dx,n0,n1,n2,x0,x1,x2,rfl,ha,e0,e1,e2,p0,p1,p2⟩,O,q⟩:=h;refine⟨_,(ab (Æ 1 qx.nd (tS))
  (ab (bY SH rfl (bW (aI (fv 0) rfl)) (Ð (i:=2) qx.nd rfl)
   (ai (bX (ak (hj:=by lia) (rS T d) hr (aI (fv 2) rfl^fv 1^ae)) (fV (fv 1) (aI (fv 2) rfl) (fX hu Zx)))))
  (ai (aD (fv 1))))),?_⟩
 refine ag λM1 K1 D hD=>?_;obtain⟨s1,eD⟩:=Í hD (HO.dK []);generalize upd H D _=H1 at s1 eD⊢;refine K1 _ _ ?_;clear K1 M1;rfl'
 refine ag λM1 K1=>Ø ((s0.trans s1) _ _ ha) T.dw.cl T.cI rfl (P1 {{_,À.of ((s0.trans s1) _ _ e1)},b4 (K:=K) (xs:=x1) ((Dk (N:=N) a D H ds)) {Zr,[],rfl,s1,eD,Px _,by simp} (λi B Hc _ zz=>by obtain⟨_,_,_,z,_,_,_⟩:=zz;exact À.of ((s0.trans z) _ _ e1)) ?_ ?_})
 ·rintro i v B Hc hv ⟨v2,kvs,rfl,sc,eDc,kl,hk⟩;obtain⟨t,ht,pa⟩:=p1.get hv;have mt:t∈ds:=P4 ht;have il:i<↥ds:=(PQ.mp ht).1;have dt:=O.bq t mt;have st:=Jg cO Zr oI O ht hk;have ln:=O.ln;cases t with
  |bq n i' ps b=>
   have ϖ:=pa;unfold bf at ϖ;obtain⟨a',dx',pp,pb,xb,rfl,h1,h2,h3,h4⟩:=ϖ;have sX:=s0.trans sc;refine Ø (sX _ _ h1) T.cw.cl T.eY rfl {N,X,pb,D,xb,b,(ds.take i).map ī,Ğ cO Zr (ds.take i),rfl,sX,h3,h4,O.dp _ mt,O.ck i _ ht,⟨kvs,eDc,hk⟩,Ø (sX _ _ h1) T.cw.cl T.c0 rfl {_,nO.k (k:=.inr (N i')) eDc (aH ()),{_,_,rfl,aj.out sc hD _,ao,?_,st}}};have:(Zz kvs (.inr (N i')) (oI (cO (Ğ cO Zr (ds.take i)) b))).length<=↥kvs+1:=zV _ _ _;lia
  |_=>exact dt.elim
 rintro B Hc ⟨v2,kvs,rfl,sc,eDc,kl,hk⟩;rw[show ds.take ↥x1=ds by rw[p1.len];exact Qq]at hk;exact K1 _ _ (q D Hc sc hD ⟨kvs,eDc,hk⟩)
theorem EC{kvs:List (Key×V)}{k:Key}(h:k∉kvs.map (·.1)):L2.b5 kvs k=Zr:=by
 unfold L2.b5;rw[List.find?_eq_none.mpr λkv m=>by
  rw[decide_eq_true_iff];exact λe=>h (e▸Qp m)]
 rfl
theorem mw:∀kvs acc,((acc++kvs).map (·.1)).Nodup->bx acc kvs=acc++kvs
 | [],acc,_=>by rw[Qd];rfl
 | (k,v)::kvs,acc,h=>by
  have nk:k∉acc.map (·.1):=λm=>by
   rw[Qg,P0]at h;exact(QR.mp h).2.2 k m k PH rfl
  show bx (Zz acc k v) kvs=_;rw[uB v (EC nk),mw kvs (acc++[(k,v)]) (by simpa using h)];simp
def Ĵ(N:Nat->Str)(ds:List Pt)(x:Str):List Str:=match ds.find? (λp=>decide (ö N p=x))with
 |some p=>ő N p
 |none=>[]
def Bb(t:Pt):Bool:=decide (t.ci=7)||decide (t.ci=8)
def zH(t:Pt):Bool:=decide (t.ci=11)||decide (t.ci=12)
def uL(kn:Nat->Option Int)(t:Pt):List Lk:=if Bb t=true then[{"the clock",aX t.no,"steps",t.no}]else if zH t=true/\(ġ kn t).isSome=false then[{aX t.no,"the clock","steps",t.no}]else[]
theorem Eo(kn:Nat->Option Int) (t):(uL kn t).length<=1:=by
 unfold uL;split
 ·exact Px _
 split<;>simp
def ua(b:Bool)(kn:Nat->Option Int)(t:Pt):List Lk:=if b=true then uL kn t else[]
def uR(N:Nat->Str)(b:Bool)(ds:List Pt)(e:Le):List Lk:=vf N (Ĵ N ds) e.1 e.2.1 e.2.2++ua b (Ğ cO Zr ds) e.1
def bI(N:Nat->Str)(b:Bool)(ds ms:List Pt):List Lk:=(cq N ds ms).flatMap (uR N b ds)
structure OkL(N:Nat->Str)(d:Nat)(hs ds ms:List Pt):Prop where
 ok:Ok N d hs ds ms
 dk:Ku N d ds
 nn:(ds.map (ö N)).Nodup
 pn:∀p∈ds,(ő N p).length<=100
 k5:∀e∈cq N ds ms,k5 e.1=true
 lo:∀e∈cq N ds ms,lOk e.1 e.2.2
 cal:∀e∈cq N ds ms,Fp N (Ĵ N ds) (ds.map (ö N)) e.1
 ll:∀b,(bI N b ds ms).length<=900
 ck:∀e∈cq N ds ms,Ņ (ds.map ī) e.1/\dep e.1<=d
def PoE(N:Nat->Str)(X:Hp)(p:Pt)(y:V)(H:Hp):Prop:=∃t pp,y=V.ref t/\H t=Zq (.tup [.str (ö N p),.ref pp])/\X pp=Zq (.lst (sS (ő N p)))
theorem Md:∀{ds:List Pt}{ys:List V},Paired (λp y=>PoE N X p y H) ds ys->∃(ps:List Sv)(kvs:List (Key×V)),ys=ps.map V.ref/\↥ps=↥kvs/\kvs.map (·.1)=ds.map (λp=>Qc (ö N p))/\(∀(i:Nat) t k v,ps[i]?=Zq t->kvs[i]?=Zq (k,v)->H t=Zq (.tup [kV k,v]))/\∀p∈ds,∃pp,(Qc (ö N p),V.ref pp)∈kvs/\X pp=Zq (.lst (sS (ő N p))):=by
 intro ds ys h;induction h with
 |nil=>exact{[],[],rfl,rfl,rfl,(λi t k v h=>by simp at h),(λp m=>by cases m)}
 |@cons p y _ _ h _ ih=>
  obtain⟨t,pp,rfl,h1,h2⟩:=h;obtain⟨ps,kvs,e1,e2,e3,e4,e5⟩:=ih;refine{t::ps,(Qc (ö N p),V.ref pp)::kvs,by rw[e1];rfl,by simp[e2],by rw[P0,P0,e3],λi t' k v ht hk=>?_,λq hq=>?_}
  ·cases i with
   |zero=>cases ht;cases hk;exact h1
   |succ i=>exact e4 i t' k v ht hk
  rcases Py.mp hq with rfl|hq
  ·exact⟨pp,PH,h2⟩
  obtain⟨pp',m,z⟩:=e5 q hq;exact{pp',PC _ m,z}
theorem xT{kvs:List (Key×V)}{k:Key}{v:V}(nd:(kvs.map (·.1)).Nodup)(m:(k,v)∈kvs):L2.b5 kvs k=Zq v:=by
 obtain⟨i,hi⟩:=Qb m;exact xq nd hi
theorem BY(nn:(ds.map (ö N)).Nodup)(m:p∈ds):Ĵ N ds (ö N p)=ő N p:=by
 have:ds.find? (λq=>decide (ö N q=ö N p))=Zq p:=by
  induction ds with
  |nil=>cases m
  |cons q r ih=>
   rw[P0,Qt]at nn;rw[QF];by_cases e:ö N q=ö N p
   ·rw[decide_eq_true e];rcases Py.mp m with z|z
    ·rw[z]
    exact absurd (e▸Qp z) nn.1
   rw[decide_eq_false e];rcases Py.mp m with z|z
   ·exact absurd (by rw[z]) e
   exact ih nn.2 z
 unfold Ĵ;rw[this]
inductive BV(A:Ö)(d:Nat)(vs:List V)(H:Hp)(Q:VK)(Ä:XK):Prop
 |mk (N X v D t idx) (kn:Nat->Option Int) (z0:vs=[v,.ref D]) (z1:aj X H) (z2:bf A N X v t) (z3:0<=t.no/\t.no<=1000) (z4:dep t<=d) (z5:Ņ idx t) (z6:lG N H D idx λi=>oI (kn i))
  (z7:∀(R ys H'),aj H H'->H R=Zr->H' R=Zq (.lst ys)->ã H' (uL kn t) ys->Q (.ref R) H'):BV A d vs H Q Ä
theorem Mm(T:Txt K mg A) (d):T.oH.Hz P w base (3*d+8) (BV A d):=by
 refine T.oH.hs (k:=3*d+7) nU (λf Ã A' outer s H vs Q E' hr hu h=>?_);obtain⟨N,X,v,D,t,idx,kn,rfl,s0,pa,nt,dp,ck,hD,q⟩:=h;refine⟨_,(ab (Æ 2 nU.nd (ak (hj:=by lia) (o8 T) hr (aI (fv 0) rfl^ae)))
  (ab (aS (PW.pt (pw_or (bE (à aZ T.aG (fv 0^bF T.dz.mg^ae)) (λ_=>rfl)) (pw_or1 (bE (à aZ T.aG (fv 0^bF T.cz.mg^ae)) (λ_=>rfl)))))
   (ai (aD (aQ (aT (ym T.r8^fv 2^aw^aI (fv 0) rfl^ae)^ae))))
   aF)
  (ab (aS (PW.pt (pw_and (PW.pt (pw_or (bE (à aZ T.aG (fv 0^bF T.cv.mg^ae)) (λ_=>rfl)) (pw_or1 (bE (à aZ T.aG (fv 0^bF T.bB.mg^ae)) (λ_=>rfl))))) (pw_and1 (tQ (bE (ak (hj:=by lia) (NC T d) hr (fv 0^fv 1^ae)) (λ_=>rfl))))))
   (ai (aD (aQ (aT (fv 2^ym T.r8^aw^aI (fv 0) rfl^ae)^ae))))
   aF)
  (ai (aD (aQ ae)))))),?_⟩
 refine ag λM1 K1=>eU T s0 pa {_,rfl,nt.1,nt.2,K1 _ _ ?_};clear K1 M1;rfl'
 refine ag λM1 K1=>?_;have sd:Bb t=true->4<=sizeLine/\∀p,H p=Zr->1<=sizeLine/\∀l,upd H p (.tup [V.str "the clock",V.str (aX t.no),V.str "steps",V.int t.no]) l=Zr->Q (.ref l) (upd (upd H p (.tup [V.str "the clock",V.str (aX t.no),V.str "steps",V.int t.no])) l (.lst [V.ref p])):=λz=>by
  refine{∅,λp hp=>{∅,λl hl=>?_}};have s1:=aj.upd hp (HO.tup [V.str "the clock",V.str (aX t.no),V.str "steps",V.int t.no]);have s2:=aj.upd hl (HO.lst [V.ref p]);refine q l [V.ref p] _ (s1.trans s2) (aj.free s1 hl) ao ?_;unfold uL;rw[if_pos z];exact .cons {p,rfl,s2 _ _ ao} .nil
 have no:Bb t=false->M1 [Zq v,Zq (.ref D),Zq (.str (aX t.no))] H:=λz=>K1 _ _ (by
  clear K1 M1 sd;rfl'
  refine ag λM1 K1=>?_;have un:zH t=true->(ġ kn t).isSome=false->4<=sizeLine/\∀p,H p=Zr->1<=sizeLine/\∀l,upd H p (.tup [V.str (aX t.no),V.str "the clock",V.str "steps",V.int t.no]) l=Zr->Q (.ref l) (upd (upd H p (.tup [V.str (aX t.no),V.str "the clock",V.str "steps",V.int t.no])) l (.lst [V.ref p])):=λy ex=>by
   refine{∅,λp hp=>{∅,λl hl=>?_}};have s1:=aj.upd hp (HO.tup [V.str (aX t.no),V.str "the clock",V.str "steps",V.int t.no]);have s2:=aj.upd hl (HO.lst [V.ref p]);refine q l [V.ref p] _ (s1.trans s2) (aj.free s1 hl) ao ?_;unfold uL;rw[z,if_neg PU,if_pos ⟨y,ex⟩];exact .cons {p,rfl,s2 _ _ ao} .nil
  have nil:¬ (zH t=true/\(ġ kn t).isSome=false)->M1 [Zq v,Zq (.ref D),Zq (.str (aX t.no))] H:=λy=>K1 _ _ (by
   refine{PZ _,λR hR=>q R [] _ (aj.upd hR _) hR ao ?_};unfold uL;rw[z,if_neg PU,if_neg y];exact .nil)
  have bal:∀b,b=(ġ kn t).isSome->zH t=true->(b=true->M1 [Zq v,Zq (.ref D),Zq (.str (aX t.no))] H)/\(b=false->4<=sizeLine/\∀p,H p=Zr->1<=sizeLine/\∀l,upd H p (.tup [V.str (aX t.no),V.str "the clock",V.str "steps",V.int t.no]) l=Zr->Q (.ref l) (upd (upd H p (.tup [V.str (aX t.no),V.str "the clock",V.str "steps",V.int t.no])) l (.lst [V.ref p]))):=λb eb y=>{λz=>nil λw=>(by rw[<-eb,z]at w;cases w.2),λz=>un y (by rw[<-eb,z])};clear K1;by_cases ú:t.ci=11
  ·have b:=bal _ rfl (by unfold zH;rw[decide_eq_true ú];rfl);refine kH T s0 pa ú (bQ {N,X,v,D,t,idx,kn,rfl,s0,pa,dp,ck,hD,_,rfl,?_});cases e:(ġ kn t).isSome with
   |true=>exact a9 (b.1 e)
   |false=>exact bQ (eU T s0 pa (b.2 e))
  by_cases Ą:t.ci=12
  ·have b:=bal _ rfl (by unfold zH;rw[decide_eq_true Ą,decide_eq_false ú];rfl);refine gv T s0 pa ú (a9 (kH T s0 pa Ą (bQ {N,X,v,D,t,idx,kn,rfl,s0,pa,dp,ck,hD,_,rfl,?_})));cases e:(ġ kn t).isSome with
   |true=>exact a9 (b.1 e)
   |false=>exact bQ (eU T s0 pa (b.2 e))
  exact gv T s0 pa ú (a9 (gv T s0 pa Ą (a9 (nil λw=>by
   have w:=w.1;unfold zH at w;rw[decide_eq_false ú,decide_eq_false Ą]at w;cases w)))))
 clear K1;by_cases c7:t.ci=7
 ·exact kH T s0 pa c7 (bQ (eU T s0 pa (sd (by unfold Bb;rw[decide_eq_true c7];rfl))))
 by_cases c8:t.ci=8
 ·exact gv T s0 pa c7 (a9 (kH T s0 pa c8 (bQ (eU T s0 pa (sd (by unfold Bb;rw[decide_eq_true c8,decide_eq_false c7];rfl))))))
 exact gv T s0 pa c7 (a9 (gv T s0 pa c8 (a9 (no (by unfold Bb;rw[decide_eq_false c7,decide_eq_false c8];rfl)))))
inductive zI(A:Ö)(d:Nat)(vs:List V)(H:Hp)(Q:VK)(Ä:XK):Prop
 |mk (N X v b hs ds ms) (z0:vs=[v,.bl b]) (z1:aj X H) (z2:vc A N X v hs ds ms) (z3:OkL N d hs ds ms)
  (z4:∀(R ys H'),aj H H'->H R=Zr->H' R=Zq (.lst ys)->ã H' (bI N b ds ms) ys->Q (.ref R) H'):zI A d vs H Q Ä
inductive Ct(a:Sv)(b:Bool)(D:Sv)(D2:Sv)(F:Sv)(H5:Hp)(es:List Le)(ds:List Pt)(i:Nat)(B:St)(Hd:Hp):Prop
 |mk(ws:List V)(v5 v6 v7:Option V):B=[Zq (.ref a),Zq (.bl b),Zq (.ref D),Zq (.ref D2),Zq (.ref F),v5,v6,v7]->Sm [F] H5 Hd->Hd F=Zq (.lst ws)->ã Hd ((es.take i).flatMap (uR N b ds)) ws->Ct a b D D2 F H5 es ds i B Hd
theorem xG(T:Txt K mg A) (d):T.links.Hz P w base (3*d+9) (zI A d):=by
 refine T.links.hs (k:=3*d+8) iS (λf Ã A' outer s H vs Q E' hr hu h=>?_);obtain⟨N,X,v,b,hs,ds,ms,rfl,s0,pg,O,q⟩:=h;obtain⟨a,dx,n0,n1,n2,x0,x1,x2,rfl,ha,e0,e1,e2,p0,p1,p2⟩:=id pg;have pn:∀i p,ds[i]?=Zq p->∀v,x1[i]?=Zq v->bf A N X v p:=λi p hp v hv=>by
  obtain⟨t,ht,pa⟩:=p1.get hv;rw[hp]at ht;cases ht;exact pa
 refine⟨_,(ab (Æ 2 iS.nd (Ľ rM T.oG ((eJ (N:=["deed"]) (own:=1) (fr:=[]) (cf.of (by kernel_rfl!)) rfl (bW (aI (fv 0) rfl)) (λb=>Ð (i:=0) (show Tf (["deed"]:List T1) by decide+kernel) rfl) (λb=>kU) (λb=>aT (aI (fv 0) rfl^aI (fv 0) rfl^ae)))^ae)))
  (ab (Æ 3 iS.nd (ak (hj:=by lia) (GK T d) hr (fv 0^ae)))
  (ab (Æ 4 iS.nd (aQ ae))
  (ab (bY SH rfl (bW (ak (hj:=by lia) (C6 T d) hr (fv 0^ae))) (dg rfl (aK (Ð (i:=5) iS.nd rfl) (aK (Ð (i:=6) iS.nd rfl) (aK (Ð (i:=7) iS.nd rfl) cu))))
   (ab (aR (gp (fv 4) ((ak (hj:=by lia) (LL T) hr (fv 5^fv 6^fv 7^fv 2^ae))^ae)))
   (ai (aS (bE (fv 1) (λ_=>rfl))
    (ai (aR (gp (fv 4) ((ak (hj:=by lia) (Mm T d) hr (fv 5^fv 3^ae))^ae))))
    aF))))
  (ai (aD (fv 4))))))),?_⟩
 have lx:=p1.len;have dln:=O.dk.ln;refine ag λM1 K1=>Ø (s0 _ _ ha) T.dw.cl T.cI rfl (P1 {{_,À.of (s0 _ _ e1)},ft (K:=K) (own:=1) ds (λ_=>true) (PoE N X) (À.of (s0 _ _ e1)) lx (aH ()) ?_ ?_ ?_ ?_})
 ·intro b i x p v0 H1 Nn Y hx he hv s1 no yes;obtain⟨u0,rfl⟩:=ye hv;have pa:=pn i p he x hx;have dt:=O.dk.bq p (P4 he);cases p with
  |bq n i' ps b'=>
   unfold bf at pa;obtain⟨a',dx',pp,pb,xb,rfl,h1,h2,h3,h4⟩:=pa;have sX:=s0.trans s1;exact Ø (sX _ _ h1) T.cw.cl T.c0 rfl (Ø (sX _ _ h1) T.cw.cl T.er rfl {by show 2<=sizeLine;decide,λtp á=>yes rfl [Zq (.ref a')] _ _ rfl (aj.upd á _) {tp,pp,rfl,ao,by rw[h2];simp[sS,ő,nV,Yc]}})
  |_=>exact dt.elim
 ·rintro e y H1 H2 s1 ⟨t,pp,e1,h1,h2⟩;exact{t,pp,e1,s1 _ _ h1,h2}
 ·rintro e y H1 D ys zs hD ⟨t,pp,e1,h1,h2⟩;exact{t,pp,e1,au (λz=>by rw[z,hD]at h1;cases h1) h1,h2}
 intro L1 H1 ys hL1 s1 Ő pr;rw[gj]at pr;obtain⟨ps,kvs,rfl,k2,k3,k4,k5'⟩:=Md pr;have kl:↥kvs=↥ds:=by
  have:=congrArg UP k3;simpa using this
 have knd:(kvs.map (·.1)).Nodup:=by
  rw[k3];have h:=O.nn;unfold Tf at h⊢;rw[Ra]at h⊢;exact h.imp λn e=>n (Qc.inj e)
 refine{L1,ps,kvs,rfl,À.of Ő,k2,(),λi t k v ht hk=>Ç.of (k4 i t k v ht hk),λD hD=>?_};obtain⟨s2,eD⟩:=Í hD (HO.dK (bx [] kvs));generalize upd H1 D _=H2 at s2 eD⊢;rw[mw kvs [] (by simpa using knd),Qi]at eD;have PO:Gb X H2 D (Ĵ N ds) (ds.map (ö N)):=by
  refine{kvs,eD,λx hx=>?_};obtain⟨p,mp,rfl⟩:=PM.mp hx;rw[BY O.nn mp];obtain⟨pp,m,z⟩:=k5' p mp;exact⟨O.pn p mp,pp,xT knd m,z⟩
 have t2:=s1.trans s2;refine K1 _ _ ?_;clear K1 M1;rfl'
 refine ag λM1 K1=>{N,X,.ref a,hs,ds,ms,rfl,s0.trans t2,pg,O.dk,λD2 H3 s3 hD2 kD2=>K1 _ _ ?_};clear K1 M1;rfl'
 refine ag λM1 K1=>{PZ _,λF hF=>?_};obtain⟨s4,eF⟩:=Í hF (HO.lst []);generalize upd H3 F _=H4 at s4 eF⊢;have t4:=(t2.trans s3).trans s4;have hF0:H F=Zr:=aj.free (t2.trans s3) hF;have eD4:=s4 _ _ (s3 _ _ eD);have FD:F≠D:=Zs hF (s3 _ _ eD);refine K1 _ _ ?_;clear K1 M1;rfl'
 refine ag λM1 K1=>{N,X,.ref a,hs,ds,ms,rfl,s0.trans t4,pg,O.ok,λL zs H5 s5 hL eL ly=>?_};have LF:L≠F:=Zs hL eF;have nb:=O.ok.nb;have ok5:=O.k5;have okc:=O.cal;have okl:=O.lo;have oll:=O.ll b;have ock:=O.ck;unfold bI at oll q;generalize cq N ds ms=es at ly nb ok5 okc okl oll ock q;have Ι:=Sz ly;refine P1 {{_,À.of eL},b4 (K:=K) (xs:=zs) ((Ct (N:=N) a b D D2 F H5 es ds)) {[],Zr,Zr,Zr,rfl,Sm.refl _ _,s5 _ _ eF,.nil} (λi B Hd _ zz=>by obtain⟨_,_,_,_,_,z,_⟩:=zz;exact À.of (z _ _ (λm=>LF (Pu.mp m)) eL)) ?_ ?_}
 ·rintro i y B Hd hy ⟨ws,v5,v6,v7,rfl,sd,hFd,lw⟩;obtain⟨e,he,tp,v,rfl,Ϣ,pa⟩:=bT ly hy;have etp':=sd _ _ (λm=>by rw[Pu.mp m,s5 _ _ eF]at Ϣ;cases Ϣ) Ϣ;have sX:aj X Hd:=sd.same ((s0.trans t4).trans s5) (λm hm=>by
   rw[Pu.mp hm];exact aj.free s0 hF0)
  have me:=P4 he;have ne:=nb e me;have ϵ:Hd D=Zq (.dK kvs):=sd _ _ (λm=>FD (Pu.mp m).symm) (s5 _ _ eD4);have st:=pQ (uR N b ds) he;have sl:=Gi (uR N b ds) he;have llw:=Sz lw;have kDd:lG N Hd D2 (ds.map ī) λi=>oI (Ğ cO Zr ds i):=by
   obtain⟨kw,k1,k2⟩:=kD2;exact{kw,sd _ _ (λm=>by rw[Pu.mp m]at k1;rw[k1]at hF;cases hF) ((s4.trans s5) _ _ k1),k2}
  have slB:(uR N b ds e).length=(vf N (Ĵ N ds) e.1 e.2.1 e.2.2).length+(ua b (Ğ cO Zr ds) e.1).length:=Pq;rfl'
  refine{tp,_,rfl,Ç.of etp',rfl,_,_,rfl,_,_,rfl,_,_,rfl,rfl,ag λN1 J1=>{P1 {rfl,_,À.of hFd},N,X,v,e.1,e.2.1,e.2.2,D,Ĵ N ds,ds.map (ö N),rfl,sX,pa,ok5 e me,ne,okl e me,PO.same (λě h=>by rw[eD]at h;cases h;exact ϵ),okc e me,λR2 us He s6 hR2 Ń l6=>?_}};have lu:=Sz l6;refine{_,_,_,_,rfl,rfl,s6 _ _ hFd,Ń,sz (),J1 _ _ ?_};clear J1 N1;have sd1:=(sd.trans (Sm.new s6)).trans (Sm.at (H:=He) (Pu.mpr rfl) (.lst (ws++us)));have hF1:upd He F (.lst (ws++us)) F=Zq (.lst (ws++us)):=ao;have lw1:=o9 (H:=H) (R2:=R2) s6 hFd lw l6;have kD1:lG N (upd He F (.lst (ws++us))) D2 (ds.map ī) λi=>oI (Ğ cO Zr ds i):=by
   obtain⟨kw,k1,k2⟩:=kDd;exact{kw,au (λz=>by rw[z,hFd]at k1;cases k1) (s6 _ _ k1),k2}
  generalize upd He F (.lst (ws++us))=H6 at sd1 hF1 lw1 kD1⊢;have sX1:aj X H6:=sd1.same ((s0.trans t4).trans s5) (λm hm=>by
   rw[Pu.mp hm];exact aj.free s0 hF0)
  obtain⟨oc1,oc2⟩:=ock e me;cases b with
  |false=>
   refine{_,rfl,a9 {_,_,_,_,rfl,sd1,hF1,?_}};rw[st,show uR N false ds e=vf N (Ĵ N ds) e.1 e.2.1 e.2.2 from Qd _];exact lw1
  |true=>
   refine{_,rfl,bQ {P1 {rfl,_,À.of hF1},N,X,v,D2,e.1,ds.map ī,Ğ cO Zr ds,rfl,sX1,pa,ne,oc2,oc1,kD1,λR3 u3 H7 s7 ϟ eR3 l7=>?_}};have lu3:=Sz l7;have slB':(ua true (Ğ cO Zr ds) e.1).length=(uL (Ğ cO Zr ds) e.1).length:=rfl;refine{_,_,_,_,rfl,rfl,s7 _ _ hF1,eR3,sz (by rw[Pq];lia),{_,_,_,_,rfl,(sd1.trans (Sm.new s7)).trans (Sm.at (Pu.mpr rfl) _),ao,?_}};rw[st,show uR N true ds e=vf N (Ĵ N ds) e.1 e.2.1 e.2.2++uL (Ğ cO Zr ds) e.1 from rfl,<-P6];exact o9 (H:=H) (R2:=R3) s7 hF1 lw1 l7
 rintro B Hd ⟨ws,v5,v6,v7,rfl,sd,hFd,lw⟩;rw[show es.take ↥zs=es by rw[<-Ι];exact Qq]at lw;exact K1 _ _ (q F ws Hd (sd.same (t4.trans s5) (λm hm=>by rw[Pu.mp hm];exact hF0)) hF0 hFd lw)
def qO(t:Pt):Bool:=decide (t.ci=2)||decide (t.ci=4)
def sOf(N:Nat->Str):Pt->Str×Int
 | .leaf _ (.ŏ i r _)=>(N i,r)
 | .leaf _ (.lt i r)=>(N i,r)
 |_=>(SQ,0)
def gC(N:Nat->Str)(hs:List Pt):List (Str×Int):=(hs.filter qO).map (sOf N)
def SrE(s:Str×Int)(y:V)(H:Hp):Prop:=∃t,y=V.ref t/\H t=Zq (.tup [.str s.1,.int s.2])
theorem Lv(T:Txt K mg A){X H:Hp}(s:aj X H){v:V}{t:Pt}(h:bf A N X v t)(e:qO t=true){Q Q2:VK}(q:(∀{R:VK},R (.int (sOf N t).2) H->oK K "rank" v H R)->Q (.str (sOf N t).1) H):oK K "name" v H Q:=by
 cases t with
 |leaf n r=>
  unfold bf at h;obtain⟨a,dx,p,rfl,h1,h2⟩:=h;cases r with
  |ŏ i _ _=>exact Ø (s _ _ h1) T.cQ.cl T.eN rfl (q λr=>Ø (s _ _ h1) T.cQ.cl T.gz rfl r)
  |lt i _=>exact Ø (s _ _ h1) T.dX.cl T.gg rfl (q λr=>Ø (s _ _ h1) T.dX.cl T.j1 rfl r)
  |_=>cases e
 |_=>cases e
inductive uu(A:Ö)(vs:List V)(H:Hp)(Q:VK)(Ä:XK):Prop
 |mk (N X v hs ds ms) (z0:vs=[v]) (z1:aj X H) (z2:vc A N X v hs ds ms) (z3:↥hs<=300)
  (z4:∀(R ys H'),aj H H'->H R=Zr->H' R=Zq (.lst ys)->Paired (λs y=>SrE s y H') (gC N hs) ys->Q (.ref R) H'):uu A vs H Q Ä
theorem vN(T:Txt K mg A):T.sources.Hz P w base 1 (uu A):=by
 refine T.sources.hs AV (λf Ã A' outer s H vs Q E' hr hu h=>?_);obtain⟨N,X,v,hs,ds,ms,rfl,s0,⟨a,dx,n0,n1,n2,x0,x1,x2,rfl,ha,e0,e1,e2,p0,p1,p2⟩,hl,q⟩:=h;refine{_,(ai (aD (eJ (N:=["head"]) (own:=1) (fr:=[]) (cf.of (by kernel_rfl!)) rfl (bW (aI (fv 0) rfl)) (λb=>Ð (i:=0) (show Tf (["head"]:List T1) by decide+kernel) rfl) (λb=>qv (PW.pt (pw_or (bE (à aZ T.aG (fv 0^bF T.cQ.mg^ae)) (λ_=>rfl)) (pw_or1 (bE (à aZ T.aG (fv 0^bF T.dX.mg^ae)) (λ_=>rfl)))))) (λb=>aT (aI (fv 0) rfl^aI (fv 0) rfl^ae))))),Ø (s0 _ _ ha) T.dw.cl T.eI rfl (P1 {{_,À.of (s0 _ _ e0)},ft (K:=K) (own:=1) hs qO (λt y H=>SrE (sOf N t) y H) (À.of (s0 _ _ e0)) p0.len (aH (by rw[p0.len];lia)) ?_ ?_ ?_ ?_})}
 ·intro b i x t v0 H1 Nn Y hx he hv s1 no yes;obtain⟨u0,rfl⟩:=ye hv;obtain⟨t',ht,pa⟩:=p0.get hx;rw[he]at ht;cases ht;have sX:=s0.trans s1;have go:qO t=true->oK K "name" x H1 λv1 H2=>oK K "rank" x H2 λv2 H3=>2<=sizeLine/\∀p,H3 p=Zr->Y [Zq x] (.ref p) (upd H3 p (.tup [v1,v2])):=λe=>by
   exact Lv T sX pa e (Q2:=Q) λrk=>rk {∅,λtp á=>yes e [Zq x] _ _ rfl (aj.upd á _) ⟨tp,rfl,ao⟩}
  by_cases c2:t.ci=2
  ·exact kH T sX pa c2 (bQ (bQ (go (by unfold qO;rw[decide_eq_true c2];rfl))))
  by_cases c4:t.ci=4
  ·exact gv T sX pa c2 (a9 (kH T sX pa c4 (bQ (go (by unfold qO;rw[decide_eq_true c4,Bool.or_true])))))
  exact gv T sX pa c2 (a9 (gv T sX pa c4 (a9 (no (by unfold qO;rw[decide_eq_false c2,decide_eq_false c4];rfl) [Zq x] _ rfl (aj.refl _)))))
 ·rintro e y H1 H2 s1 ⟨t,e1,h1⟩;exact{t,e1,s1 _ _ h1}
 ·rintro e y H1 D ys zs hD ⟨t,e1,h1⟩;exact{t,e1,au (λz=>by rw[z,hD]at h1;cases h1) h1}
 intro R H1 ys hR s1 e1 pr;exact q R ys H1 s1 hR e1 (sN _ pr)
def Zw(N:Nat->Str)(hs:List Pt)(rk:Int):List Str:=((gC N hs).filter λs=>decide (s.2=rk)).map (·.1)
theorem wO:∀{ys:List V},Paired (λt y=>y=V.str (f t)) src ys->ys=sS (src.map f):=by
 intro ys h;induction h with
 |nil=>rfl
 |cons h _ ih=>rw[h,ih];rfl
inductive gT(A:Ö)(vs:List V)(H:Hp)(Q:VK)(Ä:XK):Prop
 |mk (N X v rk hs ds ms) (z0:vs=[v,.int rk]) (z1:aj X H) (z2:vc A N X v hs ds ms) (z3:↥hs<=300)
  (z4:∀(R H'),aj H H'->H R=Zr->H' R=Zq (.lst (sS (Zw N hs rk)))->Q (.ref R) H'):gT A vs H Q Ä
theorem qS(T:Txt K mg A):T.oy.Hz P w base 2 (gT A):=by
 refine T.oy.hs (k:=1) vm (λf Ã A' outer s H vs Q E' hr hu h=>?_);obtain⟨N,X,v,rk,hs,ds,ms,rfl,s0,pg,hl,q⟩:=h;refine{_,(ai (aD (eJ (N:=["place","its_rank","rank"]) (own:=2) (fr:=[1]) (cf.of (by kernel_rfl!)) rfl (bW (ak (vN T) hr (fv 0^ae))) (λb=>dg rfl (aK (Ð (i:=0) (show Tf (["place","its_rank","rank"]:List T1) by decide+kernel) rfl) (aK (Ð (i:=1) (show Tf (["place","its_rank","rank"]:List T1) by decide+kernel) rfl) cu))) (λb=>qv (Ë (bU hu) (fv 1) (fv 2))) (λb=>fv 0)))),{N,X,v,hs,ds,ms,rfl,s0,pg,hl,λL ys H1 s1 hL eL pr=>?_}};have ln:=Sz pr;have l2:(gC N hs).length<=↥hs:=by
  unfold gC;rw[Pr];exact QD _ _
 refine P1 {{_,À.of eL},ft (K:=K) (own:=2) (gC N hs) (λs=>decide (s.2=rk)) (λs y _=>y=.str s.1) (À.of eL) ln.symm (aH ()) ?_ (λ_ _ _ _ _ h=>h) (λ_ _ _ _ _ _ _ h=>h) ?_}
 ·intro b i x t v0 H2 Nn Y hx he hv s2 no yes;obtain⟨u0,u1,rfl⟩:=Nd hv;obtain⟨t',ht,tp,rfl,Ϣ⟩:=bT pr hx;rw[he]at ht;cases ht;refine{tp,_,rfl,Ç.of (s2 _ _ Ϣ),rfl,_,_,rfl,_,_,rfl,rfl,{rfl,_,rfl,aV (λc=>?_) (λc=>?_)}}
  ·have e:t.2=rk:=V.int.inj (of_decide_eq_true c);exact yes (decide_eq_true e) [Zq (.str t.1),Zq (.int t.2)] _ _ rfl (aj.refl _) rfl
  have e:¬ t.2=rk:=λz=>c (decide_eq_true (by rw[z]));exact no (decide_eq_false e) [Zq (.str t.1),Zq (.int t.2)] _ rfl (aj.refl _)
 intro R H2 zs hR s2 e2 pz;refine q R H2 (s1.trans s2) (aj.free s1 hR) ?_;rw[e2,wO pz];rfl
def jT(ls:List Lk)(x:Str):List Lk:=ls.filter λl=>decide (l.fr=x)
structure fN(H:Hp)(W:Sv)(kvs:List (Key×V))(pls:List Str)(wa:Str->Sv)(ls:List Lk):Prop where
 d:H W=Zq (.dK kvs)
 v:∀x∈pls,L2.b5 kvs (.inr x)=Zq (.ref (wa x))
 i:∀x∈pls,∀y∈pls,wa x=wa y->x=y
 l:∀x∈pls,∃ys,H (wa x)=Zq (.lst ys)/\ã H (jT ls x) ys
theorem fN.same(h:fN H W kvs pls wa ls)(s:aj H H'):fN H' W kvs pls wa ls:=
 ⟨s _ _ h.d,h.v,h.i,λx hx=>by
  obtain⟨ys,e,l⟩:=h.l x hx;exact{ys,s _ _ e,l.same λ_ _ z=>s _ _ z}⟩
theorem fN.push{H W kvs pls wa ls}(h:fN H W kvs pls wa ls){l t}(ht:H t=Zq (.tup l.vs))(hl:l.fr∈pls){ys}(e:H (wa l.fr)=Zq (.lst ys))(pr:ã H (jT ls l.fr) ys) :
  fN (upd H (wa l.fr) (.lst (ys++[.ref t]))) W kvs pls wa (ls++[l]):=by
 have kp:∀x w,H x=Zq (.tup w)->upd H (wa l.fr) (.lst (ys++[.ref t])) x=Zq (.tup w):=λx w z=>au (λy=>by rw[y,e]at z;cases z) z
 refine{au (λz=>by have:=h.d;rw[z,e]at this;cases this) h.d,h.v,h.i,λx hx=>?_}
 by_cases c:x=l.fr
 ·subst c;refine{_,ao,?_};have:jT (ls++[l]) l.fr=jT ls l.fr++[l]:=by
   unfold jT;rw[QG,Wh (by exact decide_eq_true rfl),Rh]
  rw[this];exact Paired.two (pr.same kp) (.cons {t,rfl,kp _ _ ht} .nil)
 obtain⟨zs,e2,p2⟩:=h.l x hx
 have:jT (ls++[l]) x=jT ls x:=by
  unfold jT;rw[QG,Wg (by simp;exact λz=>c z.symm),Rh,Qd]
 rw[this]
 exact{zs,au (λz=>c (h.i x hx _ hl z)) e2,p2.same kp}
structure WyP(G:Hp)(pls:List Str)(D:Sv)(i:Nat)(ys:List V)(H:Hp)(ls:List Sv):Prop where
 n:↥ls=i
 m:↥ys=i
 nd:ls.Nodup
 nD:D∉ls
 e:∀l∈ls,H l=Zq (.lst [])
 f:∀l∈ls,G l=Zr
 t:∀(j:Nat) y x l,ys[j]?=Zq y->pls[j]?=Zq x->ls[j]?=Zq l->∃t,y=V.ref t/\H t=Zq (.tup [.str x,.ref l])
theorem Ex{H:Hp}:∀{pls:List Str}{ls:List Sv}{ys:List V},↥ls=↥pls->↥ys=↥pls->(∀(j:Nat) y x l,ys[j]?=Zq y->pls[j]?=Zq x->ls[j]?=Zq l->∃t,y=V.ref t/\H t=Zq (.tup [.str x,.ref l]))->
  ∃ps:List Sv,ys=ps.map V.ref/\↥ps=↥pls/\∀(i:Nat) t k v,ps[i]?=Zq t->((pls.zip ls).map λxl=>((Qc xl.1:Key),V.ref xl.2))[i]?=Zq (k,v)->H t=Zq (.tup [kV k,v])
 | [],ls,ys,h1,h2,h3=>by
  cases ys with
  |nil=>exact{[],rfl,rfl,λi t k v h=>by simp at h}
  |cons y r=>cases h2
 |x::pls,l::ls,y::ys,h1,h2,h3=>by
  obtain⟨t,e,ht⟩:=h3 0 y x l rfl rfl rfl;obtain⟨ps,e1,e2,e3⟩:=Ex (pls:=pls) (ls:=ls) (ys:=ys) (by simpa using h1) (by simpa using h2) (λj y' x' l' a b c=>h3 (j+1) y' x' l' a b c);refine{t::ps,by rw[e,e1];rfl,by simp[e2],λi t' k v a b=>?_};cases i with
  |zero=>cases a;cases b;exact ht
  |succ i=>exact e3 i t' k v a b
 |x::pls,[],ys,h1,_,_=>by cases h1
 |x::pls,l::ls,[],_,h2,_=>by cases h2
theorem ZJ:∀{pls:List Str}{ls:List Sv},ls.Nodup->(x,l)∈pls.zip ls->(y,l)∈pls.zip ls->x=y
 |p::pls,q::ls,nd,h1,h2=>by
  rw[Qt]at nd;rw[List.zip_cons_cons,Py]at h1 h2;rcases h1 with h1|h1<;>rcases h2 with h2|h2
  ·cases h1;cases h2;rfl
  ·cases h1;exact absurd (QZ h2).2 nd.1
  ·cases h2;exact absurd (QZ h1).2 nd.1
  exact ZJ nd.2 h1 h2
 | [],_,_,h1,_=>by simp at h1
 |_::_,[],_,h1,_=>by simp at h1
def waO(kvs:List (Key×V))(x:Str):Sv:=match L2.b5 kvs (.inr x)with
 |some (.ref l)=>l
 |_=>0
inductive C5(A:Ö)(d:Nat)(vs:List V)(H:Hp)(Q:VK)(Ä:XK):Prop
 |mk (N X v b hs ds ms) (z0:vs=[v,.bl b]) (z1:aj X H) (z2:vc A N X v hs ds ms) (z3:OkL N d hs ds ms) (z5:∀l∈bI N b ds ms,l.fr∈bg N hs ds ms)
  (z4:∀(W kvs wa H'),aj H H'->fN H' W kvs (bg N hs ds ms) wa (bI N b ds ms)->Q (.ref W) H'):C5 A d vs H Q Ä
theorem Fy(T:Txt K mg A) (d):T.xw.Hz P w base (3*d+10) (C5 A d):=by
 refine T.xw.hs (k:=3*d+9) ou (λf Ã A' outer s H vs Q E' hr hu h=>?_);obtain⟨N,X,v,b,hs,ds,ms,rfl,s0,pg,O,frp,q⟩:=h;refine⟨_,(ab (Æ 2 ou.nd (Ľ rM T.oG ((eJ (N:=["place"]) (own:=1) (fr:=[]) (cf.of (by kernel_rfl!)) rfl (bW (ak (hj:=by lia) (tL T d) hr (fv 0^ae))) (λb=>Ð (i:=0) (show Tf (["place"]:List T1) by decide+kernel) rfl) (λb=>kU) (λb=>aT (fv 0^aQ ae^ae)))^ae)))
  (ab (bY SH rfl (bW (ak (hj:=by lia) (w6.has (xG T d)) hr (fv 0^fv 1^ae))) (Ð (i:=3) ou.nd rfl)
   (ai (aR (br (px hu (fv 2) (px hu (fv 3) af)) (fv 3^ae)))))
  (ai (aD (fv 2))))),?_⟩
 have pln:=O.ok.pl;have pnd:=O.ok.nd;refine ag λM1 K1=>{N,X,v,hs,ds,ms,rfl,s0,pg,O.ok,λL1 H1 s1 hL1 Ő=>?_};generalize bg N hs ds ms=pls at Ő pln pnd frp q;refine P1 {{_,À.of Ő},E7 (K:=K) (own:=1) (λD i ys H=>∃ls,WyP H1 pls D i ys H ls) (À.of Ő) (aH (by rw[Pr];lia)) (λD hD=>{[],rfl,rfl,RD,by simp,by simp,by simp,λj y x l h=>by simp at h}) ?_ ?_}
 ·rintro b D i x v0 Hc ys Nn Y hx hv hD sc eD ⟨ls,w⟩ no yes;obtain⟨u0,rfl⟩:=ye hv;refine show _/\∀p,Hc p=Zr->_ from{by show 0<=sizeLine;decide,λl hl=>?_};obtain⟨s2,el⟩:=Í hl (HO.lst []);refine{by show 2<=sizeLine;decide,λtp á=>?_};obtain⟨s3,et⟩:=Í á (HO.tup [x,.ref l]);refine yes [Zq x] _ _ rfl (s2.trans s3) {ls++[l],?_};have lD:l≠D:=Zs hl eD;have tD:tp≠D:=Zs á (s2 _ _ eD);have lls:l∉ls:=λm=>by rw[w.e l m]at hl;cases hl
  rw[P5]at hx;have tk:∀z u,Hc z=Zq u->z≠D->upd (upd (upd Hc l (.lst [])) tp (.tup [x,.ref l])) D (.lst (ys++[.ref tp])) z=Zq u:=λz u h n=>au n (s3 _ _ (s2 _ _ h));refine{by simp[w.n],by simp[w.m],QR.mpr {w.nd,by simp,λa ma b mb e=>by rw[Pu]at mb;exact lls (mb▸e▸ma)},λm=>?_,λa ma=>?_,λa ma=>?_,λj y x' l' hy Ĝ hl'=>?_}
  ·rcases Pz.mp m with m|m
   ·exact w.nD m
   exact lD (Pu.mp m).symm
  ·rcases Pz.mp ma with m|m
   ·exact tk _ _ (w.e a m) (λz=>w.nD (z▸m))
   rw[Pu.mp m];exact au lD (s3 _ _ el)
  ·rcases Pz.mp ma with m|m
   ·exact w.f a m
   rw[Pu.mp m];exact aj.free sc hl
  by_cases jl:j<i
  ·rw[Qh (by rw[w.m];exact jl)]at hy;rw[Qh (by rw[w.n];exact jl)]at hl';obtain⟨t,e,ht⟩:=w.t j y x' l' hy Ĝ hl';exact{t,e,tk _ _ ht (λz=>by rw[z,eD]at ht;cases ht)}
  have ji:j=i:=by
   have:=(PQ.mp hy).1;rw[Pq,w.m,Pw]at this;lia
  subst ji;rw[Qk (by rw[w.m];exact Px _),w.m,QN]at hy;rw[Qk (by rw[w.n];exact Px _),w.n,QN]at hl';cases hy;cases hl';rw[Ĝ]at hx;cases hx;exact⟨tp,rfl,au tD et⟩
 rintro D H2 ys hD s2 eD ⟨ls,w⟩;have wn:=w.n;have wm:=w.m;rw[Pr]at wn wm;obtain⟨ps,rfl,k1,k2⟩:=Ex wn wm w.t;generalize ŀ:((pls.zip ls).map λxl=>((Qc xl.1:Key),V.ref xl.2))=kvs at k2;have kl:↥kvs=↥pls:=by rw[<-ŀ,Pr,Ri,wn,Nat.min_self]
 have kf:kvs.map (·.1)=pls.map Qc:=by
  rw[<-ŀ,QB];show(pls.zip ls).map (λxl=>(Qc xl.1:Key))=_;rw[show(λxl:Str×Sv=>(Qc xl.1:Key))=Qc∘Prod.fst from rfl,<-QB,List.map_fst_zip ()]
 have knd:(kvs.map (·.1)).Nodup:=by
  rw[kf];unfold Tf at pnd⊢;rw[Ra];exact pnd.imp λn e=>n (Qc.inj e)
 refine{D,ps,kvs,rfl,À.of eD,(),(),λi t k v ht hk=>Ç.of (k2 i t k v ht hk),λW hW=>?_};obtain⟨s3,eW⟩:=Í hW (HO.dK (bx [] kvs));generalize upd H2 W _=H3 at s3 eW⊢;rw[mw kvs [] (by simpa using knd),Qi]at eW;have inj:∀x∈pls,∃l∈ls,L2.b5 kvs (.inr x)=Zq (.ref l)/\(x,l)∈pls.zip ls:=λx hx=>by
  obtain⟨j,hj,e⟩:=Xi hx;have hl:j<↥ls:=()
  have m:(x,ls[j])∈pls.zip ls:=List.mem_iff_getElem.mpr {j,by rw[Ri];lia,by rw[List.getElem_zip,e]};exact{ls[j],Rv hl,xT knd (by rw[<-ŀ];exact PM.mpr {(x,ls[j]),m,rfl}),m}
 have wv:∀x∈pls,L2.b5 kvs (.inr x)=Zq (.ref (waO kvs x))/\(x,waO kvs x)∈pls.zip ls:=λx hx=>by
  obtain⟨l,ml,e,m⟩:=inj x hx;have:waO kvs x=l:=by unfold waO;rw[e]
  rw[this];exact⟨e,m⟩
 have wl:∀x∈pls,waO kvs x∈ls:=λx hx=>(QZ (wv x hx).2).2;have t3:=(s1.trans s2).trans s3;have W0:fN H3 W kvs pls (waO kvs) []:={eW,λx hx=>(wv x hx).1,λx hx y hy e=>ZJ w.nd (wv x hx).2 (e▸(wv y hy).2),λx hx=>{[],s3 _ _ (w.e _ (wl x hx)),.nil}};generalize waO kvs=wa at wl W0;have wf:∀m∈pls.map wa,H m=Zr:=λm hm=>by
  obtain⟨x,hx,rfl⟩:=PM.mp hm;exact aj.free s1 (w.f _ (wl x hx))
 refine K1 _ _ ?_;clear K1 M1;rfl'
 refine ag λM1 K1=>{N,X,v,b,hs,ds,ms,rfl,s0.trans t3,pg,O,λR zs H4 s4 hR eR lk=>?_};have W4:=W0.same s4;have nR:R∉pls.map wa:=λm=>by
  obtain⟨x,hx,rfl⟩:=PM.mp m;obtain⟨ys,e,_⟩:=W0.l x hx;rw[hR]at e;cases e
 have nt:∀t u,H4 t=Zq (.tup u)->t∉pls.map wa:=λt u e m=>by
  obtain⟨x,hx,rfl⟩:=PM.mp m;obtain⟨ys,e2,_⟩:=W4.l x hx;rw[e]at e2;cases e2
 have ll:=O.ll b;generalize bI N b ds ms=ks at lk frp ll q;have lln:=Sz lk;refine P1 {{_,À.of eR},b4 (K:=K) (xs:=zs) (λi B Hd=>∃(v3:Option V),B=[Zq v,Zq (.bl b),Zq (.ref W),v3]/\Sm (pls.map wa) H4 Hd/\fN Hd W kvs pls wa (ks.take i)) {Zr,rfl,Sm.refl _ _,W4} (λi B Hd _ zz=>by obtain⟨_,_,z,_⟩:=zz;exact À.of (z _ _ nR eR)) ?_ ?_}
 ·rintro i y B Hd hy ⟨v3,rfl,sd,Wd⟩;obtain⟨l,hl,t,rfl,et⟩:=bT lk hy;have ml:=P4 hl;have et':=sd _ _ (nt _ _ et) et;obtain⟨us,eu,pu⟩:=Wd.l _ (frp l ml);have lu:=Sz pu;have lw:(jT (ks.take i) l.fr).length<=900:=by
   have:=QD (λm:Lk=>decide (m.fr=l.fr)) (ks.take i);rw[Qo]at this;unfold jT;lia
  rfl'
  refine É (j:=0) (Ç.of et') rfl (Þ Wd.d (Wd.v _ (frp l ml)) {P1 {rfl,_,À.of eu},{_,_,_,rfl,rfl,eu,aH (),{_,rfl,sd.trans (Sm.at (Qp (frp l ml)) _),?_}}});rw[Qv,hl];exact Wd.push et' (frp l ml) eu pu
 rintro B Hd ⟨v3,rfl,sd,Wd⟩;rw[show ks.take ↥zs=ks by rw[<-lln];exact Qq]at Wd;exact K1 _ _ (q W kvs wa Hd (sd.same (t3.trans s4) wf) Wd)
theorem GP(ns:List Int):eZ K H (ns.map V.int) (ns.map Y9)/\Ta (ns.map Y9)=true/\Tg (ns.map Y9)=0:=by
 induction ns with
 |nil=>exact⟨.nil,rfl,rfl⟩
 |cons n r ih=>
  obtain⟨h1,h2,h3⟩:=ih;exact{.cons (.int n) h1,by rw[P0];simp[Ta,TJ,h2],by rw[P0];simp[Tg,Uh,h3]}
theorem tE(ok:∀x∈xs,SR x=true):eZ K H (sS xs) (xs.map Za)/\Ta (xs.map Za)=true/\Tg (xs.map Za)=0:=by
 induction xs with
 |nil=>exact⟨.nil,rfl,rfl⟩
 |cons n r ih=>
  obtain⟨h1,h2,h3⟩:=ih λx hx=>ok x (PC _ hx);exact{.cons (.str n) h1,by rw[P0];simp[Ta,TJ,h2,ok n PH],by rw[P0];simp[Tg,Uh,h3]}
theorem ZH(hp:À K H p xs)(hq:À K H q [])(r:eZ K H xs ds/\Ta ds=true/\Tg ds=0)(k:Q (.bl (!xs.isEmpty)) H):fNe K (.ref p) (.ref q) H Q:=by
 obtain⟨h1,h2,h3⟩:=r;refine{.list ds,.list [],.lst hp h1,.lst hq .nil,by simp[TY,TJ,Uh,h2,h3],rfl,?_};cases h1 with
 |nil=>exact k
 |cons _ _=>exact k
inductive CU(K:SE)(vs:List V)(H:Hp)(Q:VK)(Ä:XK):Prop
 |mk(a:Sv)(ns:List Int)(k:Int):vs=[.ref a,.int k]->À K H a (ns.map V.int)->0<=k->k<1000->(∀(c:Int)(H':Hp),aj H H'->Q (.int c) H')->CU K vs H Q Ä
theorem Fz{ns:List Int}{k:Int}(h0:0<=k)(h1:k<(↥ns:Int)):∃c,ĭ (ns.map V.int) k=Zq (.int c):=by
 have hk:k.toNat<↥ns:=()
 refine{ns[k.toNat],?_};have e:=hJ (xs:=ns.map V.int) (j:=k.toNat) (v:=.int ns[k.toNat]) (by rw[P5,PB hk];rfl);rw[show((k.toNat:Nat):Int)=k by lia]at e;exact e
theorem mT(T:Txt K mg A):T.l8.Hz P w base 1 (CU K):=by
 refine T.l8.hs iB (λf Ã A' outer s H vs Q E hr hu h=>?_);obtain⟨a,ns,k,rfl,hS,h0,h1,q⟩:=h;have el:(((ns.map V.int).length:Nat):Int)=(↥ns:Int):=by rw[Pr]
 refine⟨_,(ab (aS (Ë zW (fv 1) (à fI T.gO (fv 0^ae)))
   (ai (aD (px hu (fv 0) (fv 1))))
   aF)
  (ab (Æ 2 iB.nd af)
  (ab (aS (Ë (rF hu) (fv 0) (aQ ae))
   (ai (Æ 2 iB.nd (px hu (fv 0) (az bP (fv 1) (à fI T.gO (fv 0^ae))))))
   aF)
  (ai (aD (az bP (az dD (az aO (az aO (az bP (fv 2) af) (az dD af (fv 1))) af) af) af)))))),?_⟩
 refine ag λM1 K1=>P1 {_,_,rfl,P1 {_,hS,rfl},_,rfl,aV (λc=>?_) (λc=>K1 _ _ ?_)}
 ·have c':k<(((ns.map V.int).length:Nat):Int):=of_decide_eq_true c;rw[el]at c';obtain⟨x,hx⟩:=Fz h0 c';exact ï hS hx (q x H (aj.refl _))
 clear K1 M1;rfl'
 refine ag λM1 K1=>K1 _ _ ?_;clear K1 M1;rfl'
 refine ag λM1 K1=>?_;have fin:∀(c:Int)(H':Hp),aj H H'->M1 [Zq (.ref a),Zq (.int k),Zq (.int c)] H':=λc H' s'=>K1 _ _ {by show(0:Int)<1000003;decide,.inl {∅,()},.inr {∅,∅},by show(0:Int)<2147483647;decide,q _ H' s'};refine{PZ _,λR hR=>?_};obtain⟨s1,e1⟩:=Í hR (HO.lst []);generalize upd H R _=H1 at s1 e1⊢;refine ZH (s1.seq hS) (À.of e1) (GP ns) {_,rfl,?_};cases ns with
 |nil=>exact a9 (fin 0 H1 s1)
 |cons n r=>
  refine bQ ?_;have m:=cb k (show(0:Int)<(((n::r).map V.int).length:Int) by rw[Pr,PD];lia);obtain⟨x,hx⟩:=Fz (ns:=n::r) m.1 (Int.lt_of_lt_of_le m.2 (Int.le_of_eq el));exact P1 {_,_,rfl,P1 {_,s1.seq hS,rfl},by show(0:Int)<(((n::r).map V.int).length:Int);rw[Pr,PD];lia,ï (s1.seq hS) hx (fin x H1 s1)}
inductive zf(K:SE)(vs:List V)(H:Hp)(Q:VK)(Ä:XK):Prop
 |mk(a:Sv)(ns:List Int)(k:Int)(n:Nat)(z0:vs=[.ref a,.int k,.int n])(z1:À K H a (ns.map V.int))(z2:0<=k)(z4:k+n<1000)
  (z3:∀(R:Sv)(cs:List Int)(H':Hp),aj H H'->H R=Zr->H' R=Zq (.lst (cs.map V.int))->↥cs=n->Q (.ref R) H'):zf K vs H Q Ä
theorem Il(h:∀(i:Nat) y,ys[i]?=Zq y->∃c,y=V.int c):∃cs:List Int,ys=cs.map V.int:=by
 induction ys with
 |nil=>exact{[],rfl}
 |cons y r ih=>
  obtain⟨c,rfl⟩:=h 0 y rfl;obtain⟨cs,rfl⟩:=ih λi z hz=>h (i+1) z hz;exact{c::cs,rfl}
theorem CI(T:Txt K mg A):T.uq.Hz P w base 2 (zf K):=by
 refine T.uq.hs (k:=1) zM (λf Ã A' outer s H vs Q E hr hu h=>?_);obtain⟨a,ns,k,n,rfl,hS,h0,h1,q⟩:=h;refine{_,(ai (aD (eJ (N:=["_law_k","_law_script","_law_at"]) (own:=1) (fr:=[0,1]) (cf.of (by kernel_rfl!)) rfl (cY rfl T.dj (fv 2^ae)) (λb=>Ð (i:=0) (show Tf (["_law_k","_law_script","_law_at"]:List T1) by decide+kernel) rfl) (λb=>kU) (λb=>ak (mT T) hr (fv 1^az aO (fv 2) (fv 0)^ae))))),{_,rfl,(),(),?_}};rw[Rl];refine sG (n:=n) (x:=λi=>.int (0+(i:Int))) (λj y H=>∃c,y=V.int c) (aH ()) (λ_ _=>Px _) (λ_ _ h _=>h) (λ_ _ _ _ _ _ y=>y) (λb j H1 G hj s1 kk=>{a,ns,_,rfl,s1.seq hS,(),(),λc H' s'=>kk _ H' s' ⟨c,rfl⟩}) (λj y H1 H2 s1 h=>h) (λj y H1 D ys zs hD h=>h) (λD H1 ys hD s1 e1 ly hy=>?_);obtain⟨cs,rfl⟩:=Il hy;exact q D cs H1 s1 hD e1 (by rw[<-ly,Pr])
theorem HL(h:0<m):∀x:Int,0<=x%m/\x%m<m:=λx=>cb x h
inductive Ez(vs:List V)(H:Hp)(Q:VK)(Ä:XK):Prop
 |mk (c k):vs=[.int c,.int k]->0<=k->k<1000->(∀m,0<=m->m<1000000000000000->Q (.int m) H)->Ez vs H Q Ä
theorem og(T:Txt K mg A):T.wL.Hz P w base 1 Ez:=by
 refine T.wL.hs iA (λf Ã A' outer s H vs Q E hr hu h=>?_);obtain⟨c,k,rfl,h0,h1,q⟩:=h;refine⟨_,(ab (aS (PW.pt (pw_and (Ë (bU hu) (az bP (fv 0) af) af) (pw_and1 (Ë Bn (fv 0) (az vx af af)))))
   (ab (Æ 2 iA.nd (az eO (fv 0) af))
   (ab (bY SH rfl (cY rfl T.dj (fv 1^ae)) (Ð (i:=3) iA.nd rfl)
    (ai (Æ 2 iA.nd (az eO (fv 2) (az vx af af)))))
   (ai (aS (Ë Bn (fv 2) af)
    (ai (aD (az bP (fv 2) (az vx af af))))
    aF))))
   aF)
  (ab (Æ 4 iA.nd (az bP (az dD (az aO (az bP (fv 0) af) af) (az aO (az dD (fv 1) (fv 1)) af)) af))
  (ai (aD (az bP (az dD (fv 4) (az aO (az bP (fv 4) af) af)) af))))),?_⟩
 refine ag λM1 K1=>?_;have fin:∀(v2 v3 v4:Option V),M1 [Zq (.int c),Zq (.int k),v2,v3,v4] H:=λv2 v3 v4=>K1 _ _ (by
  refine ag λM2 K2=>?_;have kk:-(2^64)<k*k+7919/\k*k+7919<2^64:=by
   have a1:0<=k*k:=Zb h0 h0;have a2:k*k<=1000*1000:=Si () () h0 ∅;lia
  refine{by show(0:Int)<1000003;decide,.inl {(),()},.inr kk,by show(0:Int)<2147483647;decide,?_};obtain⟨m0,m1⟩:=cb ((c%1000003+17)*(k*k+7919)) (show(0:Int)<2147483647 by decide);refine K2 _ _ ?_;clear K2 M2;rfl'
  have m2:=HL (show(0:Int)<2147483647 by decide);exact{by show(0:Int)<65521;decide,.inl {(),()},by show(0:Int)<2147483647;decide,q _ (m2 _).1 (Int.lt_trans (m2 _).2 ∅)})
 refine{by show(0:Int)<2;decide,rfl,_,rfl,aV (λ_=>?_) (λ_=>a9 (fin Zr Zr Zr))};refine{{∅,∅,∅},_,rfl,aV (λ_=>?_) (λ_=>fin Zr Zr Zr)};refine ag λM2 K2=>{{∅,∅},K2 _ _ ?_};clear K2 M2;rfl'
 refine ag λM2 K2=>{_,rfl,(),(),hX (λi B Hc=>∃(d:Int)(v3:Option V),B=[Zq (.int c),Zq (.int k),Zq (.int d),v3,Zr]/\Hc=H) {_,Zr,rfl,rfl} ?_ ?_}
 ·rintro i B Hc hi ⟨d,v3,rfl,rfl⟩;exact{{∅,∅,∅},{∅,∅},_,_,rfl,rfl}
 rintro B Hc ⟨d,v3,rfl,rfl⟩;refine K2 _ _ ?_;rfl'
 refine{_,rfl,aV (λ_=>?_) (λ_=>fin _ _ _)};obtain⟨e0,e1⟩:=cb d (show(0:Int)<10^15 by decide);exact{{∅,∅,∅},by show(0:Int)<10^15;decide,q _ e0 e1}
inductive Dc(K:SE)(vs:List V)(H:Hp)(Q:VK)(Ä:XK):Prop
 |mk (a xs n):vs=[.ref a,.int n]->À K H a xs->0<↥xs->(∀x∈xs,Q x H)->Dc K vs H Q Ä
theorem qA(T:Txt K mg A):T.tZ.Hz P w base 1 (Dc K):=by
 refine T.tZ.hs zK (λf Ã A' outer s H vs Q E hr hu h=>?_);obtain⟨a,xs,n,rfl,hS,h0,q⟩:=h;refine{_,(ai (aD (px hu (fv 0) (az bP (fv 1) (à fI T.gO (fv 0^ae)))))),?_};have m:=cb n (show(0:Int)<(↥xs:Int) by lia);obtain⟨x,hx,ax⟩:=IU m.1 m.2;exact P1 {_,_,rfl,P1 {_,hS,rfl},by show(0:Int)<(↥xs:Int);lia,ï hS ax (q x (P4 hx))}
structure jc(N:Nat->Str):Prop where
 inj:∀i j,i<24->j<24->N i=N j->i=j
 ch:∀i,i<24->∀c∈(N i).cps.toList,97<=c/\c<=122
abbrev LET:Str:="abcdefghijklmnopqrstuvwxyz"
def zC(k:Int):Nat:=(97+k).toNat
theorem KW(h0:0<=k)(h1:k<26):ĭ LET.cps.toList k=Zq (zC k):=by
 obtain⟨n,rfl⟩:∃n:Nat,k=(n:Int):={k.toNat,()};have h:∀m:Fin 26,ĭ LET.cps.toList ((m.val:Nat):Int)=Zq (zC ((m.val:Nat):Int)):=by decide+kernel
 exact h {n,()}
abbrev Kt:Str:="set if by at idle most end else main over rest last"
abbrev Kn:Str:="loop given hand own put say send call deed let open house closed"
def yf:List Str:=["set","if","by","at","idle","most","end","else","main","over","rest","last"]
def xW:List Str:=["loop","given","hand","own","put","say","send","call","deed","let","open","house","closed"]
def ZA:List Str:=yf++xW
theorem DX:rT Kt " " yf:={by decide+kernel,by decide+kernel,by decide+kernel,by decide+kernel,∅,by decide+kernel}
theorem DP:rT Kn " " xW:={by decide+kernel,by decide+kernel,by decide+kernel,by decide+kernel,∅,by decide+kernel}
theorem Gx:ZA.Nodup:=by decide+kernel
theorem Gq:∀x∈ZA,∀c∈x.cps.toList,97<=c/\c<=122:=by decide+kernel
theorem Jb (o):jc λk=>ZA.getD ((o+(0+(k:Int)))%25).toNat SQ:=by
 have g:∀k:Nat,∃j,j<25/\((o+(0+(k:Int)))%25).toNat=j:=λk=>{_,by have:=cb (o+(0+(k:Int))) (show(0:Int)<25 by decide);lia,rfl};have e:∀j,j<25->ZA.getD j SQ∈ZA:=λj h=>by
  rw[Ql,PB (show j<ZA.length from h)];exact Rv _
 refine{λi j hi hj h=>?_,λi hi=>?_}
 ·obtain⟨a,ha,ea⟩:=g i;obtain⟨b,hb,eb⟩:=g j;have h:ZA.getD ((o+(0+(i:Int)))%25).toNat SQ=ZA.getD ((o+(0+(j:Int)))%25).toNat SQ:=h;rw[ea,eb,Ql,Ql,PB (show a<ZA.length from ha),PB (show b<ZA.length from hb)]at h;have:=(RL Gx).mp h;lia
 obtain⟨a,ha,ea⟩:=g i;show ∀c∈(ZA.getD ((o+(0+(i:Int)))%25).toNat SQ).cps.toList,_;rw[ea];exact Gq _ (e a ha)
def dec(v:Int)(cs:List Nat):Int:=cs.foldl (λv (c:Nat)=>(v+1)*26+((c:Int)-97)) v
theorem FX (cs):dec (n/26-1) (zC (n%26)::cs)=dec n cs:=by
 unfold dec;rw[QS];congr 1;have m:=cb n (show(0:Int)<26 by decide);have e:((zC (n%26):Nat):Int)-97=n%26:=by
  unfold zC;lia
 rw[e];lia
def Nl(n:Int)(x:Str):Prop:=dec (-1) x.cps.toList=n/\∀c∈x.cps.toList,97<=c/\c<=122
theorem OI(hs:1<=s)(h:∀k:Nat,k<24->Nl (c+(k:Int)*s) (N k)):jc N:=by
 refine{λi j hi hj e=>?_,λi hi=>(h i hi).2};have h1:=(h i hi).1;rw[e,(h j hj).1]at h1;have h2:(j:Int)*s=(i:Int)*s:=()
 have:=Int.eq_of_mul_eq_mul_right () h2;lia
theorem Ew:((⟨#[a]⟩:Str)++x).cps.toList=a::x.cps.toList:=by
 show(#[a]++x.cps).toList=_;rw[Qj];rfl
theorem Pj{n:Int}{j:Nat}(h0:0<=n)(h:n+1<26^(j+1)):n/26-1+1<26^j:=by
 have e:(26:Int)^(j+1)=26^j*26:=Int.pow_succ _ _;rw[e]at h;have:=Int.ediv_lt_of_lt_mul (by decide:(0:Int)<26) (show n<26^j*26 by lia);lia
inductive wo(vs:List V)(H:Hp)(Q:VK)(Ä:XK):Prop
 |mk (c o) (z0:vs=[.int c,.int o,.int 24])
  (z1:∀(R N H'),aj H H'->H R=Zr->H' R=Zq (.lst (sS ((SS 24).map N)))->jc N->Q (.ref R) H'):wo vs H Q Ä
inductive Cq(c:Int)(o:Int)(L3:Sv)(st:Int)(R:Sv)(H:Hp)(i:Nat)(B:St)(Hc:Hp):Prop
 |mk(xs:List Str)(v7 v8 v9:Option V):B=[Zq (.int c),Zq (.int o),Zq (.int 24),Zq (.ref L3),Zq (.str LET),Zq (.int st),Zq (.ref R),v7,v8,v9]->aj H Hc->Hc R=Zq (.lst (sS xs))->↥xs=i->(∀(k:Nat) x,xs[k]?=Zq x->Nl (c/20%10^(10:Int).toNat+(k:Int)*st) x)->Cq c o L3 st R H i B Hc
theorem Ei(T:Txt K mg A):T.qo.Hz P w base 1 wo:=by
 refine T.qo.hs bR (λf Ã A' outer s H vs Q E hr hu h=>?_);obtain⟨c,o,rfl,q⟩:=h;refine⟨_,(ab (Æ 3 bR.nd (ZI aw (aw^ae)))
  (ab (Æ 3 bR.nd (az aO (fv 3) (ZI aw (aw^ae))))
  (ab (aS (Ë (bU hu) (az bP (fv 0) af) af)
   (ai (aD (eJ (N:=["_law_k","_law_words","_law_other"]) (own:=1) (fr:=[3,1]) (cf.of (by kernel_rfl!)) rfl (cY rfl T.dj (fv 2^ae)) (λb=>Ð (i:=0) (show Tf (["_law_k","_law_words","_law_other"]:List T1) by decide+kernel) rfl) (λb=>kU) (λb=>px hu (fv 1) (az bP (az aO (fv 2) (fv 0)) (à fI T.gO (fv 1^ae)))))))
   aF)
  (ab (Æ 4 bR.nd aw)
  (ab (Æ 5 bR.nd (px hu (aQ (af^af^af^af^az aO af (az bP (fv 1) (az vx af af))^ae)) (az bP (az eO (fv 0) af) af)))
  (ab (Æ 6 bR.nd (aQ ae))
  (ab (bY SH rfl (cY rfl T.dj (fv 2^ae)) (Ð (i:=7) bR.nd rfl)
   (ab (Æ 8 bR.nd (az aO (az bP (az eO (fv 0) af) (az vx af af)) (az dD (fv 7) (fv 5))))
   (ab (Æ 9 bR.nd aw)
   (ab (fC SH (Ë O3 (fv 8) af)
    (ab (Æ 9 bR.nd (az aO (px hu (fv 4) (az bP (fv 8) af)) (fv 9)))
    (ai (Æ 8 bR.nd (az oY (az eO (fv 8) af) af)))))
   (ai (aR (br (fv 6) (fv 9^ae))))))))
  (ai (aD (fv 6)))))))))),?_⟩
 refine ag λM1 K1=>{rfl,_,_,_,rfl,rfl,DX,λL1 hL1=>?_};obtain⟨s1,e1⟩:=Í hL1 (HO.lst (yf.map V.str));generalize upd H L1 _=H1 at s1 e1⊢;refine K1 _ _ ?_;clear K1 M1;rfl'
 refine ag λM1 K1=>{rfl,_,_,_,rfl,rfl,DP,λL2 hL2=>?_};obtain⟨s2,e2⟩:=Í hL2 (HO.lst (xW.map V.str));generalize upd H1 L2 _=H2 at s2 e2⊢;refine{L1,L2,_,_,rfl,rfl,s2 _ _ e1,e2,∅,λL3 hL3=>?_};obtain⟨s3,e3⟩:=Í hL3 (HO.lst (yf.map V.str++xW.map V.str));generalize upd H2 L3 _=H3 at s3 e3⊢;have t3:=(s1.trans s2).trans s3;have e3:H3 L3=Zq (.lst (sS ZA)):=by rw[e3,<-Qg];rfl
 refine K1 _ _ ?_;clear K1 M1;rfl'
 refine ag λM1 K1=>{by show(0:Int)<4;decide,rfl,_,rfl,aV (λ_=>?_) (λ_=>K1 _ _ ?_)}
 ·refine{_,rfl,∅,∅,tT (n:=24) (λ_=>true) (λk=>.str (ZA.getD ((o+(0+(k:Int)))%25).toNat SQ)) ∅ (λb i H4 R hi s4 k=>k H4 (aj.refl _)) (λb i H4 R hi _ s4 k=>?_) (λD H4 hD s4 e4=>?_)}
  ·have m:=cb (o+(0+(i:Int))) (show(0:Int)<25 by decide);have g:((o+(0+(i:Int)))%25).toNat<ZA.length:=by show _<25;lia
   have ax:=hJ (xs:=sS ZA) (j:=((o+(0+(i:Int)))%25).toNat) (v:=.str (ZA.getD ((o+(0+(i:Int)))%25).toNat SQ)) (by rw[P5,Ql,PB g];rfl);rw[show((((o+(0+(i:Int)))%25).toNat:Nat):Int)=(o+(0+(i:Int)))%25 by lia]at ax;exact ϯ (s4 _ _ e3) {by show(0:Int)<25;decide,ï (À.of (s4 _ _ e3)) ax (k H4 (aj.refl _))}
  refine q D _ H4 (t3.trans s4) (aj.free t3 hD) ?_ (Jb o);rw[e4,gj];simp[sS]
 clear K1 M1;rfl'
 refine ag λM1 K1=>K1 _ _ ?_;clear K1 M1;rfl'
 refine ag λM1 K1=>?_;obtain⟨o0,o1⟩:=cb o (show(0:Int)<10^9 by decide);refine{{∅,∅,∅},by show(0:Int)<10^9;decide,by show 5<=sizeLine;decide,λL4 hL4=>?_};obtain⟨s4,e4⟩:=Í hL4 (HO.lst [.int 1,.int 26,.int 27,.int 676,.int (1+o%10^(9:Int).toNat)]);generalize upd H3 L4 _=H4 at s4 e4⊢;have t4:=t3.trans s4;refine{{∅,∅},by show(0:Int)<5;decide,?_};obtain⟨st,ax,st0,st1⟩:∃st:Int,ĭ [V.int 1,.int 26,.int 27,.int 676,.int (1+o%10^(9:Int).toNat)] (c/4%5)=Zq (.int st)/\1<=st/\st<=1000000000:=by
  obtain⟨m0,m1⟩:=cb (c/4) (show(0:Int)<5 by decide);generalize c/4%5=j at m0 m1;have cs:j=0\/j=1\/j=2\/j=3\/j=4:=()
  rcases cs with rfl|rfl|rfl|rfl|rfl
  ·exact{1,rfl,∅,∅}
  ·exact{26,rfl,∅,∅}
  ·exact{27,rfl,∅,∅}
  ·exact{676,rfl,∅,∅}
  have o1':o%10^(9:Int).toNat<1000000000:=o1;have o0':0<=o%10^(9:Int).toNat:=o0;exact{_,rfl,(),()}
 refine ï (À.of e4) ax (K1 _ _ ?_);clear K1 M1;rfl'
 refine ag λM1 K1=>{PZ _,λR hR=>?_};obtain⟨s5,e5⟩:=Í hR (HO.lst []);generalize upd H4 R _=H5 at s5 e5⊢;have t5:=t4.trans s5;have hR0:H R=Zr:=aj.free t4 hR;obtain⟨b0,b1⟩:=cb (c/20) (show(0:Int)<10^10 by decide);refine K1 _ _ ?_;clear K1 M1;rfl'
 refine ag λM1 K1=>{_,rfl,∅,∅,hX ((Cq c o L3 st R H)) {[],Zr,Zr,Zr,rfl,t5,e5,rfl,λk x hx=>by cases hx} ?_ ?_}
 ·rintro i B Hc hi ⟨xs,v7,v8,v9,rfl,sc,Û,lx,wd⟩;have hi24:i<24:=hi;have ei:(0:Int)+(i:Int)=(i:Int):=()
  rw[ei];rfl'
  refine ag λN1 J1=>{{∅,∅},{∅,∅,∅},by show(0:Int)<10^10;decide,.inl {(),()},J1 _ _ ?_};clear J1 N1;rfl'
  refine ag λN1 J1=>J1 _ _ ?_;clear J1 N1;rfl'
  refine ag λN1 J1=>?_;have bb:c/20%10^(10:Int).toNat+(i:Int)*st+1<26^8:=by
   have b1':c/20%10^(10:Int).toNat<10000000000:=b1;have m1:(i:Int)*st<=23*1000000000:=Si () st1 () ∅;have:(26:Int)^8=208827064576:=∅
   lia
  have b0':0<=c/20%10^(10:Int).toNat:=b0;have m0:0<=(i:Int)*st:=Zb () ();have ww:0<=c/20%10^(10:Int).toNat+(i:Int)*st:=Int.add_nonneg b0' m0;generalize ew:c/20%10^(10:Int).toNat+(i:Int)*st=wn at bb ww;refine{λm B' Hd=>∃(n:Int)(x:Str),B'=[Zq (.int c),Zq (.int o),Zq (.int 24),Zq (.ref L3),Zq (.str LET),Zq (.int st),Zq (.ref R),Zq (.int (i:Int)),Zq (.int n),Zq (.str x)]/\Hc=Hd/\-1<=n/\n+1<26^m/\m+↥x<=8/\dec n x.cps.toList=wn/\∀c∈x.cps.toList,97<=c/\c<=122,{8,wn,"",rfl,rfl,(),bb,∅,rfl,λc hc=>by cases hc},?_};rintro m B' Hd ⟨n,x,rfl,rfl,n0,n1,lm,dx,cx⟩;refine{_,rfl,aV (λz=>?_) (λz=>J1 _ _ ?_)}
  ·have z:0<=n:=of_decide_eq_true z;cases m with
   |zero=>rw[Int.pow_zero]at n1;lia
   |succ m=>
   refine{λB' Hd=>∃(n:Int)(x:Str),B'=[Zq (.int c),Zq (.int o),Zq (.int 24),Zq (.ref L3),Zq (.str LET),Zq (.int st),Zq (.ref R),Zq (.int (i:Int)),Zq (.int n),Zq (.str x)]/\Hc=Hd/\-1<=n/\n+1<26^m/\m+↥x<=8/\dec n x.cps.toList=wn/\∀c∈x.cps.toList,97<=c/\c<=122,λB' Hd h=>{m,Q4 _,h},ag λN2 J2=>?_};obtain⟨l0,l1⟩:=cb n (show(0:Int)<26 by decide);have lx':(Str.mk #[zC (n%26)]++x).length=1+↥x:=jq _ _;refine{by show(0:Int)<26;decide,{zC (n%26),by decide+kernel,KW l0 l1,{by show 1+↥x<=sizeLine;exact Rp (aH ()),J2 _ _ {{∅,∅},_,_,rfl,rfl,(),Pj z n1,by rw[lx'];lia,?_,?_}}}}
   ·rw[Ew,FX];exact dx
   rw[Ew];intro d hd;rcases Py.mp hd with rfl|hd
   ·unfold zC;lia
   exact cx d hd
  have z:¬ 0<=n:=of_decide_eq_false (Q1.mpr z);have en:n=-1:=()
  subst en;refine{P1 {rfl,_,À.of Û},_,_,_,rfl,rfl,Û,aH (by rw[Pr];lia),{xs++[x],_,_,_,rfl,aj.out sc hR0 _,by rw[ao];simp[sS],by rw[Pq,lx];rfl,λk y hy=>?_}};by_cases hk:k<↥xs
  ·rw[Qh hk]at hy;exact wd k y hy
  have ek:k=↥xs:=by
   have:=(PQ.mp hy).1;rw[Pq,Pw]at this;lia
  subst ek;rw[Qk (Px _),QN]at hy;cases hy;rw[lx,ew];exact⟨dx,cx⟩
 rintro B Hc ⟨xs,v7,v8,v9,rfl,sc,Û,lx,wd⟩;have lx:↥xs=24:=lx;refine K1 _ _ ?_;have ex:xs=(SS 24).map λk=>xs.getD k SQ:=by
  refine RG λk=>?_;rw[P5];by_cases hk:k<24
  ·rw[Rf hk,PB ()];show _=Zq (xs.getD k SQ);rw[Ql,PB ()];rfl
  rw[QE (),QE (by rw[QI];lia)];rfl
 refine q R (λk=>xs.getD k SQ) Hc sc hR0 (by rw[Û];exact congrArg (λz=>Zq (HO.lst (sS z))) ex) (OI st0 λk hk=>wd k _ ?_);rw[Ql,PB ()];rfl
def Lr.wd:Lr->Str
 | .hand _ _=>"hand"| .ŏ _ _ _=>"given"| .own _ _=>"own"| .lt _ _=>"let"| .set _ _=>"set"| .put _ _ _=>"put"| .snd _ _=>"send"| .say _ _ _=>"say"
 | .call _ _=>"call"| .last=>"last"
inductive Fr where
 |leaf (r:Lr)|bq (i:Nat) (ps:List Nat)|main|iff (v:Val) (l r:Int)|loop (t:Th) (m l r:Int)|Ă|fin
def Fr.wd:Fr->Str
 | .leaf r=>r.wd| .bq _ _=>"deed"| .main=>"main"| .iff _ _ _=>"if"| .loop _ _ _ _=>"loop"| .Ă=>"else"| .fin=>"end"
def Fr.ts(N:Nat->Str)(p:Sv):Fr->List V
 | .leaf r=>(r.fs N p).map (·.2)| .bq i _=>[.str (N i),.ref p]| .iff _ l r=>[.ref p,.int l,.int r]| .loop t m l r=>[t.v N,.int m,.int l,.int r]|_=>[]
def Fr.ob(N:Nat->Str):Fr->Option HO
 | .leaf r=>r.ob N| .bq _ ps=>Zq (.lst (nV N ps))| .iff v _ _=>Zq (.tup (vV N v))|_=>Zr
def lI(N:Nat->Str)(X:Hp)(v:V)(f:Fr):Prop:=∃a p,v=.ref a/\X a=Zq (.tup (.str f.wd::f.ts N p))/\∀o,f.ob N=Zq o->X p=Zq o
theorem lI.same(s:aj X X')(h:lI N X v f):lI N X' v f:=by
 obtain⟨a,p,e,h1,h2⟩:=h;exact{a,p,e,s _ _ h1,λo ho=>s _ _ (h2 o ho)}
def aY(N:Nat->Str)(X:Hp)(fs:List Fr)(vs:List V):Prop:=Paired (λf v=>lI N X v f) fs vs
theorem aY.same(s:aj X X')(h:aY N X fs vs):aY N X' fs vs:=Paired.vo h λ_ _ z=>lI.same s z
theorem Ĕ(h:X a=Zq (.tup (.str f.wd::f.ts N a)))(e:f.ob N=Zr):lI N X (.ref a) f:={a,a,rfl,h,λo ho=>by rw[e]at ho;cases ho}
def vj(N:Nat->Str):List Str:=(SS 24).map N
theorem Er(h:j<24):(sS (vj N))[j]?=Zq (.str (N j)):=by
 unfold vj;rw[P5,P5,Rf h];rfl
theorem Ħ{H:Hp}{p:Sv}{xs:List V}{v:V}{Q:VK}{j:Nat}(h:À K H p xs)(e:xs[j]?=Zq v)(q:Q v H):ixS K p (j:Int) H Q\/dgI p (.int (j:Int)) H Q:=ï h (hJ e) q
theorem ę{H:Hp}{Q:VK}(h:À K H p (sS (vj N)))(q:Q (.str (N j)) H)(hj:j<24:=by decide):ixS K p (j:Int) H Q\/dgI p (.int (j:Int)) H Q:=Ħ h (Er hj) q
theorem rK (d) (h:t<=n):HT.Ù n d (Zq (t:Int))=t:=by
 unfold HT.Ù;show(if(t:Int)<0 then((t:Int)+n).toNat else min (t:Int).toNat n)=t;rw[if_neg (),Rl];lia
theorem Mf{xs:List V}{t:Nat}(h:t<=↥xs):rC xs (Zq (t:Int)) Zr=xs.drop t:=by
 unfold rC;rw[rK _ h,show HT.Ù ↥xs ↥xs Zr=↥xs from rfl];exact Qx (by rw[QW];lia)
theorem Lm{xs:List V}{t:Nat}(h:t<=↥xs):rC xs Zr (Zq (t:Int))=xs.take t:=by
 unfold rC;rw[rK _ h,show HT.Ù ↥xs 0 Zr=0 from rfl];rfl
def oJ(rk:Nat->Int)(z:Int):List Lr:=[.hand 0 (rk 0),.ŏ 1 (rk 1) 0,.ŏ 2 (rk 2) 3,.own 3 0,.own 4 z,.lt 5 (rk 3),.lt 6 (rk 4),.own 7 0,.hand 8 (rk 5),.ŏ 19 (rk 6) 0,.own 20 0]
def rJ(t:Nat)(xs:List Lr):List Lr:=xs.drop t++xs.take t
inductive wI(K:SE)(vs:List V)(H:Hp)(Q:VK)(Ä:XK):Prop
 |mk (N nl c) (z0:vs=[.ref nl,.int c]) (z1:H nl=Zq (.lst (sS (vj N))))
  (z2:∀(R rk z t ys H'),aj H H'->H R=Zr->H' R=Zq (.lst ys)->aY N H' ((rJ t (oJ rk z)).map Fr.leaf) ys->(∀i,rk i=0\/rk i=1\/rk i=2)->1<=z->z<=4->t<=11->Q (.ref R) H'):wI K vs H Q Ä
theorem EM(T:Txt K mg A):T.qy.Hz P w base 2 (wI K):=by
 have bc:=@og P w _ _ base _ T;refine T.qy.hs (k:=1) dq (λf Ã A' outer s H vs Q E hr hu h=>?_);obtain⟨N,nl,c,rfl,hN,q⟩:=h;refine⟨_,(ab (oP (j:=2) (N:=["_law_k","_law_cell"]) (own:=1) (fr:=[1]) (cf.of (by kernel_rfl!)) rfl dq.nd rfl (P1 rfl) (cY rfl T.dj (af^ae)) (λb=>Ð (i:=0) (show Tf (["_law_k","_law_cell"]:List T1) by decide+kernel) rfl) (λb=>kU) (λb=>az bP (ak bc hr (fv 1^az aO af (fv 0)^ae)) af))
  (ab (Æ 3 dq.nd (aQ (aT (aw^px hu (fv 0) af^px hu (fv 2) af^ae)^aT (aw^px hu (fv 0) af^px hu (fv 2) af^af^ae)^aT (aw^px hu (fv 0) af^px hu (fv 2) af^af^ae)^ae)))
  (ab (Æ 3 dq.nd (az aO (fv 3) (aQ (aT (aw^px hu (fv 0) af^af^ae)^aT (aw^px hu (fv 0) af^az aO af (az bP (ak bc hr (fv 1^af^ae)) af)^ae)^aT (aw^px hu (fv 0) af^px hu (fv 2) af^ae)^ae))))
  (ab (Æ 3 dq.nd (az aO (fv 3) (aQ (aT (aw^px hu (fv 0) af^px hu (fv 2) af^ae)^aT (aw^px hu (fv 0) af^af^ae)^aT (aw^px hu (fv 0) af^px hu (fv 2) af^ae)^ae))))
  (ab (Æ 3 dq.nd (az aO (fv 3) (aQ (aT (aw^px hu (fv 0) af^px hu (fv 2) af^af^ae)^aT (aw^px hu (fv 0) af^af^ae)^ae))))
  (ab (Æ 4 dq.nd (az bP (ak bc hr (fv 1^af^ae)) af))
  (ai (aD (az aO (sA An (fv 3) (rL (fv 4)) CF) (sA An (fv 3) CF (rL (fv 4)))))))))))),?_⟩
 refine ag λM1 K1=>{_,rfl,∅,∅,sG (n:=7) (x:=λi=>.int (0+(i:Int))) (λj y H=>∃c:Int,y=V.int c/\(c=0\/c=1\/c=2)) ∅ (λ_ _=>Px _) (λ_ _ h _=>h) (λ_ _ _ _ _ _ y=>y) (λb j H1 G hj s1 kk=>?_) (λj y H1 H2 s1 h=>h) (λj y H1 D ys zs hD h=>h) (λLK H0 ys hLK s0 eK ly hy=>K1 _ _ ?_)}
 ·refine{c,_,rfl,(),(),λm m0 m1=>{by show(0:Int)<3;decide,kk _ H1 (aj.refl _) {_,rfl,?_}}};have:=cb m (show(0:Int)<3 by decide);lia
 clear K1 M1;obtain⟨rk,hrk,ey⟩:∃rk:Nat->Int,(∀i,rk i=0\/rk i=1\/rk i=2)/\ys=(SS 7).map λi=>V.int (rk i):=by
  refine⟨λi=>match ys[i]? with|some (.int c)=>c|_=>0,λi=>?_,RG λi=>?_⟩
  ·dsimp only;cases e:ys[i]? with
   |none=>exact .inl rfl
   |some y=>
    obtain⟨c,rfl,hc⟩:=hy i y e;exact hc
  rw[P5];by_cases hi:i<7
  ·rw[Rf hi];obtain⟨y,e⟩:∃y,ys[i]?=Zq y:={_,PB ()};obtain⟨c,rfl,hc⟩:=hy i y e;show _=Zq (V.int (match ys[i]? with|some (.int c)=>c|_=>0));rw[e]
  rw[QE (),QE (by rw[QI];lia)];rfl
 subst ey;have d0:=s0;rfl'
 refine ag λM1 K1=>?_;have e0:aj H0 H0:=aj.refl _;refine ę (j:=0) (À.of (d0 _ _ hN)) (Ħ (j:=0) (À.of (e0 _ _ eK)) rfl ({by show 3<=sizeLine;decide,λt0 ht0=>?_}));obtain⟨c1,g0⟩:=Í ht0 (HO.tup [V.str "hand",.str (N 0),.int (rk 0)]);generalize upd H0 t0 _=H1 at c1 g0⊢;have d1:=d0.trans c1;have e1:=e0.trans c1;refine ę (j:=1) (À.of (d1 _ _ hN)) (Ħ (j:=1) (À.of (e1 _ _ eK)) rfl ({by show 4<=sizeLine;decide,λt1 ht1=>?_}));obtain⟨c2,g1⟩:=Í ht1 (HO.tup [V.str "given",.str (N 1),.int (rk 1),.int 0]);generalize upd H1 t1 _=H2 at c2 g1⊢;have d2:=d1.trans c2;have e2:=e1.trans c2;refine ę (j:=2) (À.of (d2 _ _ hN)) (Ħ (j:=2) (À.of (e2 _ _ eK)) rfl ({by show 4<=sizeLine;decide,λt2 Ο=>?_}));obtain⟨c3,g2⟩:=Í Ο (HO.tup [V.str "given",.str (N 2),.int (rk 2),.int 3]);generalize upd H2 t2 _=H3 at c3 g2⊢;have d3:=d2.trans c3;have e3:=e2.trans c3;refine{by show 3<=sizeLine;decide,λl0 hl0=>?_};obtain⟨c4,a0⟩:=Í hl0 (HO.lst [V.ref t0,V.ref t1,V.ref t2]);generalize upd H3 l0 _=H4 at c4 a0⊢;have d4:=d3.trans c4;have e4:=e3.trans c4;refine K1 _ _ ?_;clear K1 M1;rfl'
 refine ag λM1 K1=>ę (j:=3) (À.of (d4 _ _ hN)) ({by show 3<=sizeLine;decide,λt3 ht3=>?_});obtain⟨c5,g3⟩:=Í ht3 (HO.tup [V.str "own",.str (N 3),.int 0]);generalize upd H4 t3 _=H5 at c5 g3⊢;have d5:=d4.trans c5;have e5:=e4.trans c5;refine ę (j:=4) (À.of (d5 _ _ hN)) ({c,27,rfl,∅,∅,λm m0 m1=>{by show(0:Int)<4;decide,{by show 3<=sizeLine;decide,λt4 ht4=>?_}}});obtain⟨c6,g4⟩:=Í ht4 (HO.tup [V.str "own",.str (N 4),.int (1+m%4)]);generalize upd H5 t4 _=H6 at c6 g4⊢;have d6:=d5.trans c6;have e6:=e5.trans c6;refine ę (j:=5) (À.of (d6 _ _ hN)) (Ħ (j:=3) (À.of (e6 _ _ eK)) rfl ({by show 3<=sizeLine;decide,λt5 ht5=>?_}));obtain⟨c7,g5⟩:=Í ht5 (HO.tup [V.str "let",.str (N 5),.int (rk 3)]);generalize upd H6 t5 _=H7 at c7 g5⊢;have d7:=d6.trans c7;have e7:=e6.trans c7;refine{by show 3<=sizeLine;decide,λl1 hl1=>?_};obtain⟨c8,a1⟩:=Í hl1 (HO.lst [V.ref t3,V.ref t4,V.ref t5]);generalize upd H7 l1 _=H8 at c8 a1⊢;have d8:=d7.trans c8;have e8:=e7.trans c8;have f1:aj H4 H8:=λa o h=>c8 _ _ (c7 _ _ (c6 _ _ (c5 _ _ h)));refine{l0,l1,_,_,rfl,rfl,f1 _ _ a0,a1,by show 6<=sizeLine;decide,λb1 hb1=>?_};obtain⟨c9,q1⟩:=Í hb1 (HO.lst ([V.ref t0,V.ref t1,V.ref t2]++[V.ref t3,V.ref t4,V.ref t5]));generalize upd H8 b1 _=H9 at c9 q1⊢;have q1:H9 b1=Zq (.lst [V.ref t0,V.ref t1,V.ref t2,V.ref t3,V.ref t4,V.ref t5]):=q1;have d9:=d8.trans c9;have e9:=e8.trans c9;refine K1 _ _ ?_;clear K1 M1;rfl'
 refine ag λM1 K1=>ę (j:=6) (À.of (d9 _ _ hN)) (Ħ (j:=4) (À.of (e9 _ _ eK)) rfl ({by show 3<=sizeLine;decide,λt6 ht6=>?_}));obtain⟨Œ,g6⟩:=Í ht6 (HO.tup [V.str "let",.str (N 6),.int (rk 4)]);generalize upd H9 t6 _=ϻ at Œ g6⊢;have d10:=d9.trans Œ;have e10:=e9.trans Œ;refine ę (j:=7) (À.of (d10 _ _ hN)) ({by show 3<=sizeLine;decide,λt7 ht7=>?_});obtain⟨ú,g7⟩:=Í ht7 (HO.tup [V.str "own",.str (N 7),.int 0]);generalize upd ϻ t7 _=H11 at ú g7⊢;have d11:=d10.trans ú;have e11:=e10.trans ú;refine ę (j:=8) (À.of (d11 _ _ hN)) (Ħ (j:=5) (À.of (e11 _ _ eK)) rfl ({by show 3<=sizeLine;decide,λt8 ht8=>?_}));obtain⟨Ą,g8⟩:=Í ht8 (HO.tup [V.str "hand",.str (N 8),.int (rk 5)]);generalize upd H11 t8 _=H12 at Ą g8⊢;have d12:=d11.trans Ą;have e12:=e11.trans Ą;refine{by show 3<=sizeLine;decide,λl2 hl2=>?_};obtain⟨Ŵ,a2⟩:=Í hl2 (HO.lst [V.ref t6,V.ref t7,V.ref t8]);generalize upd H12 l2 _=H13 at Ŵ a2⊢;have d13:=d12.trans Ŵ;have e13:=e12.trans Ŵ;have f2:aj H9 H13:=λa o h=>Ŵ _ _ (Ą _ _ (ú _ _ (Œ _ _ h)));refine{b1,l2,_,_,rfl,rfl,f2 _ _ q1,a2,by show 9<=sizeLine;decide,λb2 hb2=>?_};obtain⟨ύ,q2⟩:=Í hb2 (HO.lst ([V.ref t0,V.ref t1,V.ref t2,V.ref t3,V.ref t4,V.ref t5]++[V.ref t6,V.ref t7,V.ref t8]));generalize upd H13 b2 _=Ş at ύ q2⊢;have q2:Ş b2=Zq (.lst [V.ref t0,V.ref t1,V.ref t2,V.ref t3,V.ref t4,V.ref t5,V.ref t6,V.ref t7,V.ref t8]):=q2;have d14:=d13.trans ύ;have e14:=e13.trans ύ;refine K1 _ _ ?_;clear K1 M1;rfl'
 refine ag λM1 K1=>ę (j:=19) (À.of (d14 _ _ hN)) (Ħ (j:=6) (À.of (e14 _ _ eK)) rfl ({by show 4<=sizeLine;decide,λt9 ht9=>?_}));obtain⟨ų,g9⟩:=Í ht9 (HO.tup [V.str "given",.str (N 19),.int (rk 6),.int 0]);generalize upd Ş t9 _=H15 at ų g9⊢;have d15:=d14.trans ų;have e15:=e14.trans ų;refine ę (j:=20) (À.of (d15 _ _ hN)) ({by show 3<=sizeLine;decide,λΒ ht10=>?_});obtain⟨ŧ,g10⟩:=Í ht10 (HO.tup [V.str "own",.str (N 20),.int 0]);generalize upd H15 Β _=ϑ at ŧ g10⊢;have d16:=d15.trans ŧ;have e16:=e15.trans ŧ;refine{by show 2<=sizeLine;decide,λl3 hl3=>?_};obtain⟨Ś,a3⟩:=Í hl3 (HO.lst [V.ref t9,V.ref Β]);generalize upd ϑ l3 _=H17 at Ś a3⊢;have d17:=d16.trans Ś;have e17:=e16.trans Ś;have f3:aj Ş H17:=λa o h=>Ś _ _ (ŧ _ _ (ų _ _ h));refine{b2,l3,_,_,rfl,rfl,f3 _ _ q2,a3,by show 11<=sizeLine;decide,λb3 hb3=>?_};obtain⟨Ŧ,q3⟩:=Í hb3 (HO.lst ([V.ref t0,V.ref t1,V.ref t2,V.ref t3,V.ref t4,V.ref t5,V.ref t6,V.ref t7,V.ref t8]++[V.ref t9,V.ref Β]));generalize upd H17 b3 _=Ň at Ŧ q3⊢;have q3:Ň b3=Zq (.lst [V.ref t0,V.ref t1,V.ref t2,V.ref t3,V.ref t4,V.ref t5,V.ref t6,V.ref t7,V.ref t8,V.ref t9,V.ref Β]):=q3;have d18:=d17.trans Ŧ;have e18:=e17.trans Ŧ;have z1:=cb m (show(0:Int)<4 by decide);have pr:aY N Ň ((oJ rk (1+m%4)).map Fr.leaf) [V.ref t0,V.ref t1,V.ref t2,V.ref t3,V.ref t4,V.ref t5,V.ref t6,V.ref t7,V.ref t8,V.ref t9,V.ref Β]:=by
  have k0:Ň t0=_:=Ŧ _ _ (Ś _ _ (ŧ _ _ (ų _ _ (ύ _ _ (Ŵ _ _ (Ą _ _ (ú _ _ (Œ _ _ (c9 _ _ (c8 _ _ (c7 _ _ (c6 _ _ (c5 _ _ (c4 _ _ (c3 _ _ (c2 _ _ g0))))))))))))))));have k1:Ň t1=_:=Ŧ _ _ (Ś _ _ (ŧ _ _ (ų _ _ (ύ _ _ (Ŵ _ _ (Ą _ _ (ú _ _ (Œ _ _ (c9 _ _ (c8 _ _ (c7 _ _ (c6 _ _ (c5 _ _ (c4 _ _ (c3 _ _ g1)))))))))))))));have k2:Ň t2=_:=Ŧ _ _ (Ś _ _ (ŧ _ _ (ų _ _ (ύ _ _ (Ŵ _ _ (Ą _ _ (ú _ _ (Œ _ _ (c9 _ _ (c8 _ _ (c7 _ _ (c6 _ _ (c5 _ _ (c4 _ _ g2))))))))))))));have k3:Ň t3=_:=Ŧ _ _ (Ś _ _ (ŧ _ _ (ų _ _ (ύ _ _ (Ŵ _ _ (Ą _ _ (ú _ _ (Œ _ _ (c9 _ _ (c8 _ _ (c7 _ _ (c6 _ _ g3))))))))))));have k4:Ň t4=_:=Ŧ _ _ (Ś _ _ (ŧ _ _ (ų _ _ (ύ _ _ (Ŵ _ _ (Ą _ _ (ú _ _ (Œ _ _ (c9 _ _ (c8 _ _ (c7 _ _ g4)))))))))));have k5:Ň t5=_:=Ŧ _ _ (Ś _ _ (ŧ _ _ (ų _ _ (ύ _ _ (Ŵ _ _ (Ą _ _ (ú _ _ (Œ _ _ (c9 _ _ (c8 _ _ g5))))))))));have k6:Ň t6=_:=Ŧ _ _ (Ś _ _ (ŧ _ _ (ų _ _ (ύ _ _ (Ŵ _ _ (Ą _ _ (ú _ _ g6)))))));have k7:Ň t7=_:=Ŧ _ _ (Ś _ _ (ŧ _ _ (ų _ _ (ύ _ _ (Ŵ _ _ (Ą _ _ g7))))));have k8:Ň t8=_:=Ŧ _ _ (Ś _ _ (ŧ _ _ (ų _ _ (ύ _ _ (Ŵ _ _ g8)))));have k9:Ň t9=_:=Ŧ _ _ (Ś _ _ (ŧ _ _ g9));have k10:Ň Β=_:=Ŧ _ _ (Ś _ _ g10);exact .cons (Ĕ k0 rfl) (.cons (Ĕ k1 rfl) (.cons (Ĕ k2 rfl) (.cons (Ĕ k3 rfl) (.cons (Ĕ k4 rfl) (.cons (Ĕ k5 rfl) (.cons (Ĕ k6 rfl) (.cons (Ĕ k7 rfl) (.cons (Ĕ k8 rfl) (.cons (Ĕ k9 rfl) (.cons (Ĕ k10 rfl) (.nil)))))))))))
 refine K1 _ _ ?_;clear K1 M1;rfl'
 refine ag λM1 K1=>{c,1,rfl,∅,∅,λm' m0' m1'=>{by show(0:Int)<11;decide,K1 _ _ ?_}};clear K1 M1;have z2:=cb m' (show(0:Int)<11 by decide);obtain⟨t,ht⟩:∃t:Nat,m'%11=(t:Int):={(m'%11).toNat,()};have t11:t<=11:=()
 dsimp only[pM,List.set];rw[ht];have lp:=Sz pr;generalize hys:[V.ref t0,V.ref t1,V.ref t2,V.ref t3,V.ref t4,V.ref t5,V.ref t6,V.ref t7,V.ref t8,V.ref t9,V.ref Β]=ys at q3 pr lp;have ly:↥ys=11:=by rw[<-hys];rfl
 refine{_,rfl,P1 {b3,_,rfl,À.of q3,λp1 hp1=>?_}};rw[Mf ()];obtain⟨Ε,e24⟩:=Í hp1 (HO.lst (ys.drop t));generalize upd Ň p1 _=X24 at Ε e24⊢;refine{_,rfl,P1 {b3,_,rfl,À.of (Ε _ _ q3),λp2 hp2=>?_}};rw[Lm ()];obtain⟨s25,e25⟩:=Í hp2 (HO.lst (ys.take t));generalize upd X24 p2 _=X25 at s25 e25⊢;refine{p1,p2,_,_,rfl,rfl,s25 _ _ e24,e25,sz (by rw[QW,Qo];lia),λLR hLR=>?_};have Δ:=aj.upd hLR (.lst (ys.drop t++ys.take t));refine q LR rk (1+m%4) t _ _ (d18.trans (Ε.trans (s25.trans Δ))) (aj.free (d18.trans (Ε.trans s25)) hLR) ao ?_ hrk () () t11;unfold rJ;rw[Qg,List.map_drop,R7];exact aY.same (Ε.trans (s25.trans Δ)) (Paired.two (qP t pr) (nv t pr))
def del(X:List Sv)(H:Hp):Hp:=λa=>if a∈X then Zr else H a
theorem cM:aj (del X H) H:=λa o h=>by
 unfold del at h;split at h
 ·cases h
 exact h
theorem aN(h:a∉X)(e:H a=Zq o):del X H a=Zq o:=by
 unfold del;rw[if_neg h];exact e
theorem cC(h:del X H a=Zq o):a∉X/\H a=Zq o:=by
 unfold del at h;split at h
 ·cases h
 exact⟨by assumption,h⟩
abbrev S3:List Nat:=[3,7,20]
abbrev S7:List Nat:=[1,2,3,4,7,19,20]
def pT(ps:List Nat)(t:Th):Prop:=∀a,t=.x a->a∈S7++ps
def Ϧ(ps:List Nat)(v:Val):Prop:=∀t∈æ v,pT ps t
def rf(N:Nat->Str)(X:Hp)(sc:Sv)(ps:List Nat):Prop:=∃a1 a2 a3 a4,X sc=Zq (.dK [(.inr "targets",.ref a1),(.inr "things",.ref a2),(.inr "lists",.ref a3),(.inr "hands",.ref a4)])/\X a1=Zq (.lst (nV N (S3++ps)))/\X a2=Zq (.lst (nV N ([1,19]++(S3++ps))))/\X a3=Zq (.lst (nV N [2,4]))/\X a4=Zq (.lst (nV N [0,8]))
theorem rf.same(s:aj X X')(h:rf N X sc ps):rf N X' sc ps:=by
 obtain⟨a1,a2,a3,a4,h1,h2,h3,h4,h5⟩:=h;exact{a1,a2,a3,a4,s _ _ h1,s _ _ h2,s _ _ h3,s _ _ h4,s _ _ h5}
inductive zG(vs:List V)(H:Hp)(Q:VK)(Ä:XK):Prop
 |mk (N nl pp ps) (z0:vs=[.ref nl,.ref pp]) (z1:H nl=Zq (.lst (sS (vj N)))) (z2:H pp=Zq (.lst (nV N ps))) (z3:↥ps<=10)
  (z4:∀(sc H'),aj H H'->H sc=Zr->(∀M,(∀x∈M,H x≠Zr)->rf N (del M H') sc ps)->Q (.ref sc) H'):zG vs H Q Ä
theorem Ca(T:Txt K mg A):T.qL.Hz P w base 1 zG:=by
 refine T.qL.hs kJ (λf Ã A' outer s H vs Q E hr hu h=>?_);obtain⟨N,nl,pp,ps,rfl,hN,hP,lp,q⟩:=h;have lv:(nV N ps).length=↥ps:=Pr _;refine⟨_,(ab (Æ 2 kJ.nd (az aO (aQ (px hu (fv 0) af^px hu (fv 0) af^px hu (fv 0) af^ae)) (fv 1)))
  (ab (Æ 3 kJ.nd (Dj (gm aw (fv 2) (gm aw (az aO (aQ (px hu (fv 0) af^px hu (fv 0) af^ae)) (fv 2)) (gm aw (aQ (px hu (fv 0) af^px hu (fv 0) af^ae)) (Dd)))) rfl rfl (by intro z;cases z) ∅))
  (ab (bX (aQ (px hu (fv 0) af^px hu (fv 0) af^ae)) (fV (fv 3) aw (fX hu Zx)))
  (ai (aD (fv 3)))))),?_⟩
 refine ag λM1 K1=>ę (j:=3) (À.of hN) (ę (j:=7) (À.of hN) (ę (j:=20) (À.of hN) {by show 3<=sizeLine;decide,λl0 h0=>?_}));obtain⟨s0,e0⟩:=Í h0 (HO.lst [.str (N 3),.str (N 7),.str (N 20)]);generalize upd H l0 _=H0 at s0 e0⊢;refine{l0,pp,_,_,rfl,rfl,e0,s0 _ _ hP,sz (by rw[lv];show 3+↥ps<=1000;lia),λa1 ha1=>?_};obtain⟨s1,e1⟩:=Í ha1 (HO.lst ([.str (N 3),.str (N 7),.str (N 20)]++nV N ps));generalize upd H0 a1 _=H1 at s1 e1⊢;have e1:H1 a1=Zq (.lst (nV N (S3++ps))):=e1;have t1:=s0.trans s1;refine K1 _ _ ?_;clear K1 M1;rfl'
 refine ag λM1 K1 D hD=>?_;obtain⟨s2,e2⟩:=Í hD (HO.dK []);generalize upd H1 D _=H2 at s2 e2⊢;have t2:=t1.trans s2;refine ę (j:=1) (À.of (t2 _ _ hN)) (ę (j:=19) (À.of (t2 _ _ hN)) {by show 2<=sizeLine;decide,λl3 h3=>?_});obtain⟨s3,e3⟩:=Í h3 (HO.lst [.str (N 1),.str (N 19)]);generalize upd H2 l3 _=H3 at s3 e3⊢;refine{l3,a1,_,_,rfl,rfl,e3,(s2.trans s3) _ _ e1,sz (by rw[Pr,Pq];show 2+(3+↥ps)<=1000;lia),λa2 ha2=>?_};obtain⟨s4,e4⟩:=Í ha2 (HO.lst ([.str (N 1),.str (N 19)]++nV N (S3++ps)));generalize upd H3 a2 _=H4 at s4 e4⊢;have e4:H4 a2=Zq (.lst (nV N ([1,19]++(S3++ps)))):=e4;have t4:=t2.trans (s3.trans s4);refine ę (j:=2) (À.of (t4 _ _ hN)) (ę (j:=4) (À.of (t4 _ _ hN)) {by show 2<=sizeLine;decide,λa3 ha3=>?_});obtain⟨s5,e5⟩:=Í ha3 (HO.lst [.str (N 2),.str (N 4)]);generalize upd H4 a3 _=H5 at s5 e5⊢;have t5:=t4.trans s5;have s25:=s3.trans (s4.trans s5);refine{s25 _ _ e2,[(.inr "targets",.ref a1),(.inr "things",.ref a2),(.inr "lists",.ref a3)],rfl,by show 3<=15;decide,?_};have D1:H1 D=Zr:=hD;have Ĳ:aj H1 (upd H5 D (.dK (bx [] [(.inr "targets",.ref a1),(.inr "things",.ref a2),(.inr "lists",.ref a3)]))):=aj.out (s2.trans s25) D1 _;have n2:a2≠D:=Zs ha2 (s3 _ _ e2);have n3:a3≠D:=Zs ha3 ((s3.trans s4) _ _ e2);have k1:=Ĳ _ _ e1;have k2:upd H5 D (.dK (bx [] [(.inr "targets",.ref a1),(.inr "things",.ref a2),(.inr "lists",.ref a3)])) a2=_:=au n2 (s5 _ _ e4);have k3:upd H5 D (.dK (bx [] [(.inr "targets",.ref a1),(.inr "things",.ref a2),(.inr "lists",.ref a3)])) a3=_:=au n3 e5;have eD:upd H5 D (.dK (bx [] [(.inr "targets",.ref a1),(.inr "things",.ref a2),(.inr "lists",.ref a3)])) D=Zq (.dK [(.inr "targets",.ref a1),(.inr "things",.ref a2),(.inr "lists",.ref a3)]):=ao;generalize upd H5 D _=H6 at Ĳ k1 k2 k3 eD⊢;have t6:=t1.trans Ĳ;refine K1 _ _ ?_;clear K1 M1;rfl'
 refine ag λM1 K1=>ę (j:=0) (À.of (t6 _ _ hN)) (ę (j:=8) (À.of (t6 _ _ hN)) {by show 2<=sizeLine;decide,λa4 ha4=>?_});obtain⟨s7,e7⟩:=Í ha4 (HO.lst [.str (N 0),.str (N 8)]);generalize upd H6 a4 _=H7 at s7 e7⊢;refine{_,nO.k (k:=.inr "hands") (s7 _ _ eD) (show 3<sizeLine by decide),K1 _ _ ?_};clear K1 M1;have o1:a1≠D:=λz=>by rw[z,D1]at e1;cases e1
 have o2:a2≠D:=n2;have o4:a4≠D:=Zs ha4 (eD);refine q D _ (t1.trans (aj.out (Ĳ.trans s7) D1 _)) (aj.free t1 D1) λM hM=>?_;have nw:∀{x:Sv},H x=Zr->x∉M:=λh m=>hM _ m h;exact{a1,a2,a3,a4,aN (nw (aj.free t1 D1)) ao,aN (nw (aj.free s0 ha1)) (au o1 (s7 _ _ k1)),aN (nw (aj.free (t2.trans s3) ha2)) (au o2 (s7 _ _ k2)),aN (nw (aj.free t4 ha3)) (au n3 (s7 _ _ k3)),aN (nw (aj.free t6 ha4)) (au o4 e7)}
theorem JU(h:a∈[1,19]++(S3++ps)):a∈S7++ps:=by
 rcases Pz.mp h with m|m
 ·exact PY _ ((show ∀x∈([1,19]:List Nat),x∈S7 by decide) a m)
 rcases Pz.mp m with m|m
 ·exact PY _ ((show ∀x∈S3,x∈S7 by decide) a m)
 exact PX _ m
inductive vF(vs:List V)(H:Hp)(Q:VK)(Ä:XK):Prop
 |mk (N sc ps n) (z0:vs=[.int n,.ref sc]) (z1:0<=n) (z2:n<1000000000000000) (z3:rf N H sc ps)
  (z4:∀(t H'),aj H H'->pT ps t->Q (t.v N) H'):vF vs H Q Ä
theorem mI(T:Txt K mg A):T.qe.Hz P w base 2 vF:=by
 refine T.qe.hs (k:=1) yk (λf Ã A' outer s H vs Q E hr hu h=>?_);obtain⟨N,sc,ps,n,rfl,h0,h1,hS,q⟩:=h;refine⟨_,(ab (aS (Ë (bU hu) (az bP (fv 0) af) af)
   (ai (aD (az bP (az dD (az eO (fv 0) af) af) (px hu (aQ (af^az vx af af^ae)) (az bP (az eO (fv 0) af) af)))))
   aF)
  (ai (aD (ak (qA T) hr (px hu (fv 1) aw^az eO (fv 0) af^ae))))),?_⟩
 refine ag λM1 K1=>{by show(0:Int)<2;decide,rfl,_,rfl,aV (λ_=>?_) (λ_=>K1 _ _ ?_)}
 ·refine{{∅,∅},.inr {∅,∅},{∅,∅,∅},by show 2<=sizeLine;decide,λL hL=>?_};obtain⟨s1,e1⟩:=Í hL (HO.lst [.int 4,.int (10^(12:Int).toNat)]);generalize upd H L _=H1 at s1 e1⊢;obtain⟨m0,m1⟩:=cb (n/2) (show(0:Int)<2 by decide);refine{{∅,∅},by show(0:Int)<2;decide,?_};obtain⟨y,ay,y0⟩:∃y:Int,ĭ [V.int 4,.int (10^(12:Int).toNat)] (n/2%2)=Zq (.int y)/\0<y:=by
   generalize n/2%2=j at m0 m1;have cs:j=0\/j=1:=()
   rcases cs with rfl|rfl
   ·exact{4,rfl,∅}
   exact{_,rfl,∅}
  exact ï (À.of e1) ay {y0,q (.i _) H1 s1 (λa z=>by cases z)}
 clear K1 M1;rfl'
 obtain⟨a1,a2,a3,a4,h1,h2,h3,h4,h5⟩:=hS;refine Þ h1 rfl {{∅,∅},a2,_,_,rfl,À.of h3,by simp,λx hx=>?_};obtain⟨a,ma,rfl⟩:=PM.mp hx;refine q (.x a) H (aj.refl _) λb z=>?_;cases z;exact JU ma
inductive Cp(vs:List V)(H:Hp)(Q:VK)(Ä:XK):Prop
 |mk (N sc ps c) (z0:vs=[.int c,.ref sc]) (z3:rf N H sc ps)
  (z4:∀(p v H'),aj H H'->H p=Zr->H' p=Zq (.tup (vV N v))->Ϧ ps v->Q (.ref p) H'):Cp vs H Q Ä
theorem Pn(h:pT ps t):Ϧ ps (.one t):=λu hu=>by
 rw[Pu.mp hu];exact h
theorem Nv(h:pT ps t)(h':pT ps u):Ϧ ps (.op t x u):=λv hv=>by
 simp only[æ,Py,P7,or_false]at hv;rcases hv with rfl|rfl
 ·exact h
 exact h'
theorem EY(T:Txt K mg A):T.qE.Hz P w base 3 Cp:=by
 have bc:=@og P w _ _ base _ T;refine T.qE.hs (k:=2) gR (λf Ã A' outer s H vs Q E hr hu h=>?_);obtain⟨N,sc,ps,c,rfl,hS,q⟩:=h;refine⟨_,(ab (Æ 2 gR.nd (ak (hj:=by lia) (mI T) hr ((ak (hj:=by lia) bc hr (fv 0^af^ae))^fv 1^ae)))
  (ab (Æ 3 gR.nd (ak (hj:=by lia) (mI T) hr ((ak (hj:=by lia) bc hr (fv 0^af^ae))^fv 1^ae)))
  (ab (Æ 4 gR.nd (ak (hj:=by lia) bc hr (fv 0^af^ae)))
  (ab (aS (Ë zW (az bP (fv 4) af) af)
   (ai (aD (aT (fv 2^ae))))
   aF)
  (ab (aS (Ë (bU hu) (az bP (fv 4) af) af)
   (ai (aD (aT ((ak (hj:=by lia) (qA T) hr (px hu (fv 1) aw^az eO (fv 4) af^ae))^aw^fv 3^ae))))
   aF)
  (ai (aD (aT (fv 2^(ak (hj:=by lia) (qA T) hr (aQ (aw^aw^aw^aw^aw^aw^aw^ae)^az eO (fv 4) af^ae))^fv 3^ae))))))))),?_⟩
 refine ag λM1 K1=>{c,28,rfl,∅,∅,λm m0 m1=>{N,sc,ps,m,rfl,m0,m1,hS,λt1 H1 s1 o1=>K1 _ _ ?_}};clear K1 M1;rfl'
 refine ag λM1 K1=>{c,29,rfl,∅,∅,λm2 m20 m21=>{N,sc,ps,m2,rfl,m20,m21,hS.same s1,λt2 H2 s2 o2=>K1 _ _ ?_}};clear K1 M1;have t2':=s1.trans s2;rfl'
 refine ag λM1 K1=>{c,30,rfl,∅,∅,λn n0 n1=>K1 _ _ ?_};clear K1 M1;rfl'
 refine ag λM1 K1=>{by show(0:Int)<4;decide,_,rfl,aV (λ_=>?_) (λ_=>K1 _ _ ?_)}
 ·exact{by show 1<=sizeLine;decide,λp hp=>q p (.one t1) _ (t2'.trans (aj.upd hp _)) (aj.free t2' hp) ao (Pn o1)}
 clear K1 M1;rfl'
 refine ag λM1 K1=>{by show(0:Int)<4;decide,rfl,_,rfl,aV (λ_=>?_) (λ_=>K1 _ _ ?_)}
 ·obtain⟨a1,a2,a3,a4,h1,h2,h3,h4,h5⟩:=hS.same t2';refine Þ h1 rfl {{∅,∅},a3,_,_,rfl,À.of h4,by simp,λx hx=>?_};obtain⟨a,ma,rfl⟩:=PM.mp hx;refine{by show 3<=sizeLine;decide,λp hp=>q p (.op (.x a) "at" t2) _ (t2'.trans (aj.upd hp _)) (aj.free t2' hp) ao (Nv (λb z=>?_) o2)};cases z;exact PY _ ((show ∀x∈([2,4]:List Nat),x∈S7 by decide) a ma)
 clear K1 M1;rfl'
 refine{by show 7<=sizeLine;decide,λL hL=>?_};obtain⟨s3,e3⟩:=Í hL (HO.lst [.str "+",.str "-",.str "*",.str "over",.str "rest",.str "<",.str "="]);generalize upd H2 L _=H3 at s3 e3⊢;refine{{∅,∅},L,_,_,rfl,À.of e3,∅,λx hx=>?_};obtain⟨y,rfl⟩:∃y:Str,x=.str y:=by
  simp only[Py,P7,or_false]at hx;rcases hx with e|e|e|e|e|e|e<;>exact{_,e}
 refine{by show 3<=sizeLine;decide,λp hp=>?_};have t3:=t2'.trans s3;exact q p (.op t1 y t2) _ (t3.trans (aj.upd hp _)) (aj.free t3 hp) ao (Nv o1 o2)
theorem Sm.del(s:Sm M H H'):aj (del M H) (del M H'):=λa o h=>by
 obtain⟨h1,h2⟩:=cC h;exact aN h1 (s a o h1 h2)
theorem Sm.mono(s:Sm M H H')(m:∀a∈M,a∈M'):Sm M' H H':=λa o h e=>s a o (λz=>h (m a z)) e
structure Sa where
 S:Sv
 o:Sv
 t:Sv
 m:Sv
 d:Sv
 F:Sv
abbrev Sa.M(s:Sa):List Sv:=[s.S,s.o,s.t,s.m,s.d,s.F]
abbrev Sa.Q(s:Sa):List Sv:=[s.S,s.o,s.t,s.m,s.d]
def Sn(s:Sa)(H H':Hp):Prop:=Sm s.Q H H'
theorem Sa.qm{s:Sa}{a:Sv}(h:a∈s.Q):a∈s.M:=by
 simp only[Sa.Q,Sa.M,Py,P7,or_false]at h⊢;rcases h with h|h|h|h|h<;>simp[h]
theorem Sn.del(h:Sn s H H'):aj (del s.M H) (del s.M H'):=Sm.del (Sm.mono h λ_=>Sa.qm)
theorem Sn.trans(h:Sn s H H')(h':Sn s H' H''):Sn s H H'':=Sm.trans h h'
theorem Sn.new(h:aj H H'):Sn s H H':=Sm.new h
theorem Sn.at(m:a∈s.Q) (o):Sn s H (upd H a o):=Sm.at m o
def stK(s:Sa)(room:Int):List (Key×V):=[(.inr "open",.ref s.o),(.inr "times",.ref s.t),(.inr "marks",.ref s.m),(.inr "deeds",.ref s.d),(.inr "room",.int room)]
structure Sg where
 op:List Str
 tm:List Int
 ma:List Nat
 dd:List (Nat×Nat×Int)
 room:Int
def xp(N:Nat->Str)(X:Hp)(dd:List (Nat×Nat×Int))(vs:List V):Prop:=Paired (λ(e:Nat×Nat×Int) v=>∃a,v=V.ref a/\X a=Zq (.tup [.str (N e.1),.int e.2.1,.int e.2.2])) dd vs
theorem xp.same(s:aj X X')(h:xp N X dd vs):xp N X' dd vs:=Paired.vo h λ_ _ ⟨a,e,z⟩=>{a,e,s _ _ z}
structure ê(N:Nat->Str)(H:Hp)(s:Sa)(g:Sg):Prop where
 hS:H s.S=Zq (.dK (stK s g.room))
 ho:H s.o=Zq (.lst (sS g.op))
 ht:H s.t=Zq (.lst (g.tm.map V.int))
 hm:H s.m=Zq (.lst (nV N g.ma))
 hd:∃ds,H s.d=Zq (.lst ds)/\xp N (del s.M H) g.dd ds
 nd:s.M.Nodup
 hF:∃ys,H s.F=Zq (.lst ys)
 mo:∀m∈g.ma,m=5\/m=6
 nm:jc N
theorem ê.in(h:ê N H s g)(m:a∈s.M):H a≠Zr:=by
 obtain⟨ds,hd,_⟩:=h.hd;obtain⟨ys,hF⟩:=h.hF;simp only[Py,P7,or_false]at m;rcases m with rfl|rfl|rfl|rfl|rfl|rfl
 ·rw[h.hS];simp
 ·rw[h.ho];simp
 ·rw[h.ht];simp
 ·rw[h.hm];simp
 ·rw[hd];simp
 rw[hF];simp
theorem ê.new(h:ê N H s g)(e:H a=Zr):a∉s.M:=λm=>h.in m e
theorem ê.same(h:ê N H s g)(e:aj H H'):ê N H' s g:=by
 obtain⟨ds,hd,dd⟩:=h.hd;exact{e _ _ h.hS,e _ _ h.ho,e _ _ h.ht,e _ _ h.hm,{ds,e _ _ hd,dd.same (Sn.del (Sn.new e))},h.nd,h.hF.imp λ_ z=>e _ _ z,h.mo,h.nm}
theorem ê.ne(h:ê N H s g):(s.S≠s.o/\s.S≠s.t/\s.S≠s.m/\s.S≠s.d/\s.o≠s.t/\s.o≠s.m/\s.o≠s.d/\s.t≠s.m/\s.t≠s.d/\s.m≠s.d)/\s.F≠s.S/\s.F≠s.o/\s.F≠s.t/\s.F≠s.m/\s.F≠s.d:=by
 have nd:=h.nd;simp only[Sa.M,Qt,Py,P7,or_false,not_or,RD,and_true,not_false_eq_true]at nd;obtain⟨⟨a,b,c,d,x1⟩,⟨e,f,i,x2⟩,⟨j,k,x3⟩,⟨l,x4⟩,x5⟩:=nd;exact{⟨a,b,c,d,e,f,i,j,k,l⟩,P9 x1,P9 x2,P9 x3,P9 x4,P9 x5}
theorem ê.marks{H s g}(h:ê N H s g){mk}(e:∀m∈mk,m=5\/m=6):ê N (upd H s.m (.lst (nV N mk))) s { g with ma:=mk }:=by
 obtain⟨⟨a,b,c,d,e',f,i,j,k,l⟩,x1,x2,x3,x4,x5⟩:=h.ne;obtain⟨ds,hd,dd⟩:=h.hd;exact{au c h.hS,au f h.ho,au j h.ht,ao,{ds,au (P9 l) hd,dd.same (Sn.del (Sn.at (by simp) _))},h.nd,h.hF.imp λ_ z=>au x4 z,e,h.nm}
theorem ê.qK(h:ê N H s g) (r):ê N (upd H s.S (.dK (stK s r))) s { g with room:=r }:=by
 obtain⟨⟨a,b,c,d,e',f,i,j,k,l⟩,x1,x2,x3,x4,x5⟩:=h.ne;obtain⟨ds,hd,dd⟩:=h.hd;exact{ao,au (P9 a) h.ho,au (P9 b) h.ht,au (P9 c) h.hm,{ds,au (P9 d) hd,dd.same (Sn.del (Sn.at (by simp) _))},h.nd,h.hF.imp λ_ z=>au x1 z,h.mo,h.nm}
theorem ê.opened(h:ê N H s g) (op):ê N (upd H s.o (.lst (sS op))) s { g with op:=op }:=by
 obtain⟨⟨a,b,c,d,e',f,i,j,k,l⟩,x1,x2,x3,x4,x5⟩:=h.ne;obtain⟨ds,hd,dd⟩:=h.hd;exact{au a h.hS,ao,au (P9 e') h.ht,au (P9 f) h.hm,{ds,au (P9 i) hd,dd.same (Sn.del (Sn.at (by simp) _))},h.nd,h.hF.imp λ_ z=>au x2 z,h.mo,h.nm}
theorem ê.J3(h:ê N H s g) (tm):ê N (upd H s.t (.lst (tm.map V.int))) s { g with tm:=tm }:=by
 obtain⟨⟨a,b,c,d,e',f,i,j,k,l⟩,x1,x2,x3,x4,x5⟩:=h.ne;obtain⟨ds,hd,dd⟩:=h.hd;exact{au b h.hS,au e' h.ho,ao,au (P9 j) h.hm,{ds,au (P9 k) hd,dd.same (Sn.del (Sn.at (by simp) _))},h.nd,h.hF.imp λ_ z=>au x3 z,h.mo,h.nm}
theorem jc.str(h:jc N) (i) (hi:i<24):SR (N i)=true:=by
 unfold SR;rw[Array.all_eq_true'];intro c hc;have:=h.ch i hi c (RS.mpr hc);exact decide_eq_true ()
theorem Mr(h:H p=Zq (.lst (xs++[y])))(q:Q y (upd H p (.lst xs))):Jl (.ref p) [] H Q:={p,_,y,rfl,rfl,h,by simp,by rw[List.dropLast_concat];exact q}
def Ai(ps:List Nat)(dd:List (Nat×Nat))(lp:Bool):Lr->Prop
 | .set x v=>x∈S7++ps/\Ϧ ps v
 | .put x t v=>x∈S7++ps/\pT ps t/\Ϧ ps v
 | .snd h v=>(h=0\/h=8)/\Ϧ ps v
 | .say x v m=>x∈S7++ps/\Ϧ ps v/\(m=5\/m=6)
 | .call i ts=>(i,↥ts)∈dd/\∀t∈ts,pT ps t
 | .last=>lp=true
 |_=>False
theorem NY(h:a∈S3++ps):a∈S7++ps:=JU (PX _ h)
theorem fr1(h:X a=Zq (.tup (.str f.wd::f.ts N p)))(e:f.ob N=Zq o)(hp:X p=Zq o):lI N X (.ref a) f:={a,p,rfl,h,λo' ho=>by rw[e]at ho;cases ho;exact hp}
inductive wC(vs:List V)(H:Hp)(Q:VK)(Ä:XK):Prop
 |mk (N s g c sc ps) (z0:vs=[.ref s.S,.int c,.ref sc]) (z1:ê N H s g) (z2:rf N (del s.M H) sc ps)
  (z3:∀(v r mk H'),Sn s H H'->ê N H' s { g with ma:=mk }->lI N (del s.M H') v (.leaf r)->(∀dd lp,Ai ps dd lp r)->Q v H'):wC vs H Q Ä
theorem FJ(T:Txt K mg A):T.qG.Hz P w base 4 wC:=by
 have bc:=@og P w _ _ base _ T;refine T.qG.hs (k:=3) fz (λf Ã A' outer s' H vs Q E hr hu h=>?_);obtain⟨N,s,g,c,sc,ps,rfl,hA,hS,q⟩:=h;refine⟨_,(ab (Æ 3 fz.nd (az bP (ak (hj:=by lia) bc hr (fv 1^af^ae)) af))
  (ab (Æ 4 fz.nd (ak (hj:=by lia) (EY T) hr (fv 1^fv 2^ae)))
  (ab (Æ 5 fz.nd (ak (hj:=by lia) bc hr (fv 1^af^ae)))
  (ab (Æ 6 fz.nd (ak (hj:=by lia) (qA T) hr (px hu (fv 2) aw^fv 5^ae)))
  (ab (aS (PW.pt (pw_and (Ë (bU hu) (fv 3) af) (pw_and1 (Ë (rF hu) (px hu (fv 0) aw) (aQ ae)))))
   (ai (aD (aT (aw^fv 6^fv 4^EG (px hu (fv 0) aw)^ae))))
   aF)
  (ab (aS (Ë zW (fv 3) af)
   (ai (aD (aT (aw^(ak (hj:=by lia) (qA T) hr (px hu (fv 2) aw^fv 5^ae))^fv 4^ae))))
   aF)
  (ab (aS (Ë (bU hu) (fv 3) af)
   (ai (aD (aT (aw^px hu (px hu (fv 2) aw) af^(ak (hj:=by lia) (mI T) hr ((ak (hj:=by lia) bc hr (fv 1^af^ae))^fv 2^ae))^fv 4^ae))))
   aF)
  (ai (aD (aT (aw^fv 6^fv 4^ae))))))))))),?_⟩
 refine ag λM1 K1=>{c,4,rfl,∅,∅,λm m0 m1=>{by show(0:Int)<8;decide,K1 _ _ ?_}};clear K1 M1;rfl'
 refine ag λM1 K1=>{N,sc,ps,c,rfl,hS.same cM,λp v H1 s1 f1 e1 ov=>K1 _ _ ?_};clear K1 M1;have A1:=hA.same s1;have S1:=hS.same (Sn.del (Sn.new s1));have p1:p∉s.M:=hA.new f1;rfl'
 refine ag λM1 K1=>{c,6,rfl,∅,∅,λn n0 n1=>?_};obtain⟨a1,a2,a3,a4,h1,h2,h3,h4,h5⟩:=S1;refine K1 _ _ ?_;clear K1 M1;rfl'
 refine ag λM1 K1=>Þ (cM _ _ h1) rfl {a1,_,n,rfl,À.of (cM _ _ h2),by simp,λx hx=>K1 _ _ ?_};clear K1 M1;obtain⟨a,ma,rfl⟩:=PM.mp hx;have ma':=NY ma;have ep:∀{H':Hp},aj H1 H'->del s.M H' p=Zq (.tup (vV N v)):=λe=>aN p1 (e _ _ e1);have fin:∀(r:Lr)(t:Sv)(mk:List Nat)(H2:Hp),Sn s H H2->ê N H2 s { g with ma:=mk }->H2 t=Zr->(∀H',aj H2 H'->H' t=Zq (.tup (.str r.wd::(r.fs N p).map (·.2)))->lI N (del s.M H') (.ref t) (.leaf r))->(∀dd lp,Ai ps dd lp r)->Q (.ref t) (upd H2 t (.tup (.str r.wd::(r.fs N p).map (·.2)))):=λr t mk H2 s2 A2 ht fr ok=>q _ r mk _ (s2.trans (Sn.new (aj.upd ht _))) (A2.same (aj.upd ht _)) (fr _ (aj.upd ht _) ao) ok;have go:∀(r:Lr)(t:Sv)(H2:Hp),aj H1 H2->H2 t=Zr->r.ob N=Zq (.tup (vV N v))->(∀dd lp,Ai ps dd lp r)->Q (.ref t) (upd H2 t (.tup (.str r.wd::(r.fs N p).map (·.2)))):=λr t H2 s2 ht eo ok=>fin r t g.ma H2 (Sn.new (s1.trans s2)) ((A1.same s2)) ht (λH' e et=>fr1 (p:=p) (aN (hA.new (aj.free (s1.trans s2) ht)) et) eo (ep (s2.trans e))) ok;rfl'
 refine ag λM1 K1=>?_;have rest:∀(H2:Hp),aj H1 H2->M1 [Zq (.ref s.S),Zq (.int c),Zq (.ref sc),Zq (.int (m%8)),Zq (.ref p),Zq (.int n),Zq (.str (N a))] H2:=λH2 s2=>K1 _ _ (by
  rfl'
  have S2:=λx o (e:del s.M H1 x=Zq o)=>s2 _ _ (cM _ _ e);refine ag λM2 K2=>{_,rfl,aV (λ_=>?_) (λ_=>K2 _ _ ?_)}
  ·refine Þ (S2 _ _ h1) rfl {a4,_,n,rfl,À.of (S2 _ _ h5),by simp,λx hx=>?_};obtain⟨b,mb,rfl⟩:=PM.mp hx;refine{by show 3<=sizeLine;decide,λt ht=>go (.snd b v) t H2 s2 ht rfl λdd lp=>{?_,ov}};simpa using mb
  clear K2 M2;rfl'
  refine ag λM2 K2=>{rfl,_,rfl,aV (λ_=>?_) (λ_=>K2 _ _ ?_)}
  ·refine Þ (S2 _ _ h1) rfl (Ħ (j:=1) (À.of (S2 _ _ h4)) rfl {c,9,rfl,∅,∅,λm' m0' m1'=>{N,sc,ps,m',rfl,m0',m1',{a1,a2,a3,a4,S2 _ _ h1,S2 _ _ h2,S2 _ _ h3,S2 _ _ h4,S2 _ _ h5},λth H3 s3 Θ=>{by show 4<=sizeLine;decide,λt ht=>go (.put 4 th v) t H3 (s2.trans s3) ht rfl λdd lp=>{by simp[S7],Θ,ov}}}})
  rfl'
  refine{by show 3<=sizeLine;decide,λt ht=>go (.set a v) t H2 s2 ht rfl λdd lp=>⟨ma',ov⟩})
 refine{rfl,_,rfl,aV (λ_=>?_) (λ_=>a9 (rest H1 (aj.refl _)))};refine Þ A1.hS rfl {PZ _,λL hL=>?_};obtain⟨s2,e2⟩:=Í hL (HO.lst []);generalize upd H1 L _=H2 at s2 e2⊢;have A2:=A1.same s2;have ok:∀x∈g.ma.map N,SR x=true:=λx hx=>by
  obtain⟨i,mi,rfl⟩:=PM.mp hx;rcases A2.mo i mi with rfl|rfl<;>exact A2.nm.str _ ∅
 refine ZH (À.of A2.hm) (À.of e2) ((show nV N g.ma=sS (g.ma.map N) by simp[sS])▸tE ok) {_,rfl,?_};by_cases e0:g.ma=[]
 ·rw[e0];exact a9 (rest H2 s2)
 obtain⟨ks,k0,ek⟩:∃ks k0,g.ma=ks++[k0]:={g.ma.dropLast,g.ma.getLast e0,(Rr e0).symm};have en:(!(nV N g.ma).isEmpty)=true:=by
  cases hg:g.ma with
  |nil=>exact absurd hg e0
  |cons x r=>rfl
 rw[en];have hm:=A2.hm;rw[ek]at hm;have hm:H2 s.m=Zq (.lst (nV N ks++[.str (N k0)])):=by rw[hm];simp
 have mks:∀x∈ks,x=5\/x=6:=λx hx=>A2.mo x (by rw[ek];exact PY _ hx);have mk0:k0=5\/k0=6:=A2.mo k0 (by rw[ek];simp);have A3:=A2.marks mks;refine bQ (Þ A2.hS rfl {P1 {rfl,_,À.of hm},Mr hm ?_});have s3:Sn s H2 (upd H2 s.m (.lst (nV N ks))):=Sn.at (by simp) _;refine{by show 4<=sizeLine;decide,λt ht=>fin (.say a v k0) t ks _ ((Sn.new (s1.trans s2)).trans s3) A3 ht (λH' e et=>?_) λdd lp=>⟨ma',ov,mk0⟩};have tm:t∉s.M:=A3.new ht;exact fr1 (p:=p) (aN tm et) rfl (aN p1 (e _ _ (s3 _ _ (λm=>p1 (Sa.qm m)) (s2 _ _ e1))))
inductive Tr where
 |leaf (r:Lr)|iff (v:Val) (l r:Int) (f o:List Tr)|loop (t:Th) (m l r:Int) (b:List Tr)
mutual
noncomputable def Ò:Tr->List Fr
 | .leaf r=>[.leaf r]
 | .iff v l r f o=>.iff v l r::(aA f++ .Ă::(aA o++[.fin]))
 | .loop t m l r b=>.loop t m l r::(aA b++[.fin])
noncomputable def aA:List Tr->List Fr
 | []=>[]
 |t::ts=>Ò t++aA ts
end
mutual
noncomputable def è(ps:List Nat)(dd:List (Nat×Nat))(lp:Bool):Tr->Prop
 | .leaf r=>Ai ps dd lp r
 | .iff v _ _ f o=>Ϧ ps v/\cS ps dd lp f/\cS ps dd lp o
 | .loop t m _ _ b=>pT ps t/\1<=m/\m<=4/\cS ps dd true b
noncomputable def cS(ps:List Nat)(dd:List (Nat×Nat))(lp:Bool):List Tr->Prop
 | []=>True
 |t::ts=>è ps dd lp t/\cS ps dd lp ts
end
mutual
noncomputable def ă:Tr->Nat
 | .leaf _=>0
 | .iff _ _ _ f o=>max (cE f) (cE o)+1
 | .loop _ _ _ _ b=>cE b+1
noncomputable def cE:List Tr->Nat
 | []=>0
 |t::ts=>max (ă t) (cE ts)
end
theorem dM:∀a b,aA (a++b)=aA a++aA b
 | [],b=>by rw[Qi,aA,Qi]
 |t::a,b=>by rw[Qr,aA,aA,dM a b,P6]
theorem pO (t):aA [t]=Ò t:=by rw[aA,aA,Qd]
theorem uG:∀{a b:List Tr},cS ps dd lp a->cS ps dd lp b->cS ps dd lp (a++b)
 | [],b,_,h=>h
 |t::a,b,h,h'=>by
  rw[cS]at h;rw[Qr,cS];exact⟨h.1,uG h.2 h'⟩
theorem zp(h:è ps dd lp t):cS ps dd lp [t]:=by
 rw[cS,cS];exact⟨h,trivial⟩
theorem lZ:∀(a b:List Tr),cE (a++b)=max (cE a) (cE b)
 | [],b=>by rw[Qi,cE];lia
 |t::a,b=>by rw[Qr,cE,cE,lZ a b];lia
theorem yy (t):cE [t]=ă t:=by rw[cE,cE];lia
inductive Op where
 |lp (t:Th) (m l r:Int)|i1 (v:Val) (l r:Int)|i2 (v:Val) (l r:Int) (f:List Tr)
def Op.wd:Op->Str
 | .lp _ _ _ _=>"loop"| .i1 _ _ _=>"if"| .i2 _ _ _ _=>"other"
def Op.fl:Op->List Fr
 | .lp t m l r=>[.loop t m l r]
 | .i1 v l r=>[.iff v l r]
 | .i2 v l r f=>.iff v l r::(aA f++[.Ă])
def Op.Nq:Op->Bool
 | .lp _ _ _ _=>true
 |_=>false
abbrev Zp:=List (List Tr×Op)
def Ġ:Zp->List Tr->List Fr
 | [],cur=>aA cur
 | (pa,op)::z,cur=>Ġ z pa++(op.fl++aA cur)
def iT(z:Zp):List Str:=(z.map λe=>e.2.wd).reverse
def Ϙ(z:Zp):Bool:=z.any λe=>e.2.Nq
def N9(ps:List Nat)(dd:List (Nat×Nat))(lp:Bool)(k:Nat):Op->Prop
 | .lp t m _ _=>pT ps t/\1<=m/\m<=4
 | .i1 v _ _=>Ϧ ps v
 | .i2 v _ _ f=>Ϧ ps v/\cS ps dd lp f/\cE f+k+1<=6
def okZ(ps:List Nat)(dd:List (Nat×Nat)):Zp->Prop
 | []=>True
 | (pa,op)::z=>cS ps dd (Ϙ z) pa/\cE pa+↥z<=6/\N9 ps dd (Ϙ z) ↥z op/\okZ ps dd z
def Op.mu:Op->Nat
 | .i1 _ _ _=>2
 |_=>1
def ϭ(z:Zp):Nat:=(z.map λe=>e.2.mu).sum
theorem BH (z a b):Ġ z (a++b)=Ġ z a++aA b:=by
 cases z with
 |nil=>exact dM a b
 |cons e z=>
  obtain⟨pa,op⟩:=e;show Ġ z pa++(op.fl++aA (a++b))=Ġ z pa++(op.fl++aA a)++aA b;rw[dM];simp only[P6]
theorem Ep:∀z,ϭ z<=2*↥z
 | []=>Px _
 | (pa,op)::z=>by
  have:=Ep z;have h:op.mu<=2:=by cases op<;>simp[Op.mu]
  unfold ϭ at this⊢;rw[P0,Rx,PD];show op.mu+_<=_;lia
structure å(N:Nat->Str)(H:Hp)(s:Sa)(g:Sg)(ps:List Nat)(dd:List (Nat×Nat))(z:Zp)(cur:List Tr):Prop where
 a:ê N H s g
 op:g.op=iT z
 tl:g.tm.length=↥z+1
 tb:∀x∈g.tm,1<=x/\x<=6
 de:g.dd.map (λe=>(e.1,e.2.1))=dd
 oz:okZ ps dd z
 oc:cS ps dd (Ϙ z) cur
 zl:↥z<=6
 dc:cE cur+↥z<=6
theorem pR(e:List Tr×Op) (z):iT (e::z)=iT z++[e.2.wd]:=by
 unfold iT;rw[P0,Sd]
theorem jm:ĭ (xs++[y]) (-1)=Zq y:=by
 have e:Ť (xs++[y]).length (-1)=Zq ↥xs:=by
  unfold Ť;rw[if_neg ∅,if_pos (by rw[Pq,Pw];lia),Pq,Pw];congr 1;lia
 unfold ĭ;rw[e];simp
theorem IE:Ť (xs++[y]).length (-1)=Zq ↥xs:=by
 unfold Ť;rw[if_neg ∅,if_pos (by rw[Pq,Pw];lia),Pq,Pw];congr 1;lia
theorem FF:(xs++[y]).set ↥xs v=xs++[v]:=by
 rw[RO _ _ (Px _),QN];rfl
theorem GV(e:List Tr×Op) (z):Ϙ (e::z)=(e.2.Nq||Ϙ z):=rfl
theorem xi (a x):sS (a++[x])=sS a++[.str x]:=by simp[sS]
inductive vw(vs:List V)(H:Hp)(Q:VK)(Ä:XK):Prop
 |mk (N s g ps dd z cur) (z0:vs=[.ref s.S]) (z1:å N H s g ps dd z cur) (z2:z≠[])
  (z3:∀(v f g' z' Ē H'),Sn s H H'->å N H' s g' ps dd z' Ē->g'.dd=g.dd->Ġ z' Ē=Ġ z cur++[f]->ϭ z'+1=ϭ z->lI N (del s.M H') v f->Q v H'):vw vs H Q Ä
theorem yO(T:Txt K mg A):T.oN.Hz P w base 1 vw:=by
 refine T.oN.hs uX (λf Ã A' outer s' H vs Q E hr hu h=>?_);obtain⟨N,s,g,ps,dd,z,cur,rfl,Á,hz,q⟩:=h;cases z with
 |nil=>exact absurd rfl hz
 |cons e z=>
 obtain⟨pa,op⟩:=e;have ho:=Á.a.ho;rw[Á.op,pR,xi]at ho;have oz:=Á.oz;unfold okZ at oz;obtain⟨o1,o2,o3,o4⟩:=oz;have oc:=Á.oc;have dc:=Á.dc;have zl:=Á.zl;rw[PD]at dc zl;refine⟨_,(ab (aS (Ë (bU hu) (px hu (px hu (fv 0) aw) (mE ik af)) aw)
   (ab (bX aw (fV (px hu (fv 0) aw) (mE ik af) (fX hu Zx)))
   (ai (aD (aT (aw^ae)))))
   aF)
  (ab (aR (EG (px hu (fv 0) aw)))
  (ab (aR (EG (px hu (fv 0) aw)))
  (ai (aD (aT (aw^ae))))))),?_⟩
 refine ag λM1 K1=>Þ Á.a.hS rfl {_,rfl,ï (À.of ho) jm {rfl,_,rfl,?_}};have fin:∀(t:Tr),op.mu=1->Ò t=op.fl++(aA cur++[.fin])->è ps dd (Ϙ z) t->ă t+↥z<=6->M1 [Zq (.ref s.S)] H:=by
  intro t em ef ok dt;refine K1 _ _ ?_;clear K1 M1;obtain⟨ts,t0,et⟩:∃ts t0,g.tm=ts++[t0]:=by
   have:g.tm≠[]:=λz=>by
    have:=Á.tl;rw[z]at this;cases this
   exact{g.tm.dropLast,g.tm.getLast this,(Rr this).symm}
  have A1:=Á.a.opened (iT z);have tl:=Á.tl;rw[et,Pq,Pw,PD]at tl;refine ag λM1 K1=>Þ Á.a.hS rfl {P1 {rfl,_,À.of ho},Mr ho (K1 _ _ ?_)};clear K1 M1;have ht:=A1.ht;have ht:upd H s.o (.lst (sS (iT z))) s.t=Zq (.lst (ts.map V.int++[.int t0])):=by rw[ht];show Zq (HO.lst (g.tm.map V.int))=_;rw[et];simp
  have A2:=A1.J3 ts;have s1:Sn s H (upd H s.o (.lst (sS (iT z)))):=Sn.at (by simp) _;have s2:Sn s (upd H s.o (.lst (sS (iT z)))) (upd (upd H s.o (.lst (sS (iT z)))) s.t (.lst (ts.map V.int))):=Sn.at (by simp) _;rfl'
  refine ag λM1 K1=>Þ A1.hS rfl {P1 {rfl,_,À.of ht},Mr ht (K1 _ _ ?_)};clear K1 M1;rfl'
  refine{by show 1<=sizeLine;decide,λr hr=>?_};have s3:=aj.upd hr (.tup [V.str "end"]);refine q _ .fin { g with op:=iT z,tm:=ts } z (pa++[t]) _ ((s1.trans s2).trans (Sn.new s3)) ⟨A2.same s3,rfl,by show ↥ts=_;lia,λx hx=>Á.tb x (by rw[et];exact PY _ hx),Á.de,o4,uG o1 (zp ok),(),?_⟩ rfl ?_ ?_ (Ĕ (aN (A2.new hr) ao) rfl)
  ·rw[lZ,yy];lia
  ·rw[BH,pO,ef];show _=Ġ z pa++(op.fl++aA cur)++[.fin];simp only[P6]
  unfold ϭ;rw[P0,Rx];show _=op.mu+_;rw[em];lia
 cases op with
 |lp t m l r=>
  refine aV (λz=>absurd z (show ¬ decide (V.str "loop"=V.str "if")=true by decide)) (λ_=>fin (.loop t m l r cur) rfl (by rw[Ò];rfl) (by rw[è];exact⟨o3.1,o3.2.1,o3.2.2,oc⟩) (by rw[ă];lia))
 |i2 v l r f=>
  refine aV (λz=>absurd z (show ¬ decide (V.str "other"=V.str "if")=true by decide)) (λ_=>fin (.iff v l r f cur) rfl (by rw[Ò];simp[Op.fl]) (by rw[è];exact⟨o3.1,o3.2.1,oc⟩) ?_);rw[ă];have:=o3.2.2;lia
 |i1 v l r=>
  clear fin K1;refine aV (λ_=>?_) (λz=>absurd (show decide (V.str "if"=V.str "if")=true from decide_eq_true rfl) z);have A1:=Á.a.opened (iT z++[("other":Str)]);have s1:Sn s H (upd H s.o (.lst (sS (iT z++[("other":Str)])))):=Sn.at (by simp) _;refine ag λM2 K2=>Þ Á.a.hS rfl {_,rfl,P1 {_,_,ho,IE,?_}};rw[FF,<-xi];refine K2 _ _ ?_;clear K2;rfl'
  refine{by show 1<=sizeLine;decide,λr' hr=>?_};have s3:=aj.upd hr (.tup [V.str "else"]);refine q _ .Ă { g with op:=iT z++[("other":Str)] } ((pa,.i2 v l r cur)::z) [] _ (s1.trans (Sn.new s3)) ⟨A1.same s3,by rw[pR];rfl,Á.tl,Á.tb,Á.de,{o1,o2,{o3,oc,()},o4},by rw[cS];trivial,by rw[PD];lia,by rw[cE,PD];lia⟩ rfl ?_ ?_ (Ĕ (aN (A1.new hr) ao) rfl)
  ·show Ġ z pa++(Op.fl (.i2 v l r cur)++aA [])=Ġ z pa++(Op.fl (.i1 v l r)++aA cur)++[.Ă];rw[aA];simp[Op.fl]
  unfold ϭ;rw[P0,Rx,P0,Rx];show 1+_+1=2+_;lia
theorem å.times(Á:å N H s g ps dd z cur):∃ts t0,g.tm=ts++[t0]/\1<=t0/\t0<=6:=by
 have:g.tm≠[]:=λz=>by
  have:=Á.tl;rw[z]at this;cases this
 have e:=(Rr this).symm;have m:=Á.tb (g.tm.getLast this) (List.getLast_mem _);exact{_,_,e,m.1,m.2}
theorem Ay:(ts++[t0]).map V.int=ts.map V.int++[.int t0]:=by simp
theorem å.qK(Á:å N H s g ps dd z cur) (r):å N (upd H s.S (.dK (stK s r))) s { g with room:=r } ps dd z cur:=⟨Á.a.qK r,Á.op,Á.tl,Á.tb,Á.de,Á.oz,Á.oc,Á.zl,Á.dc⟩
theorem å.same(Á:å N H s g ps dd z cur)(e:aj H H'):å N H' s g ps dd z cur:=⟨Á.a.same e,Á.op,Á.tl,Á.tb,Á.de,Á.oz,Á.oc,Á.zl,Á.dc⟩
theorem pS (s r r'):Zz (stK s r) (.inr "room") (.int r')=stK s r':=rfl
inductive vG(vs:List V)(H:Hp)(Q:VK)(Ä:XK):Prop
 |mk (N s g ps dd z cur c sc b) (z0:vs=[.ref s.S,.int c,.ref sc,.bl b]) (z1:å N H s g ps dd z cur) (z2:↥z<6) (z4:rf N (del s.M H) sc ps)
  (z3:∀(v f g' z' Ē H'),Sn s H H'->å N H' s g' ps dd z' Ē->g'.dd=g.dd->Ġ z' Ē=Ġ z cur++[f]->lI N (del s.M H') v f->Q v H'):vG vs H Q Ä
theorem FO(T:Txt K mg A):T.oO.Hz P w base 4 vG:=by
 refine T.oO.hs (k:=3) dB (λf Ã A' outer s' H vs Q E hr hu h=>?_);obtain⟨N,s,g,ps,dd,z,cur,c,sc,b,rfl,Á,zl,hS,q⟩:=h;obtain⟨ts,t0,et,t1,t6⟩:=Á.times;have htm:H s.t=Zq (.lst (ts.map V.int++[.int t0])):=by rw[Á.a.ht,et,Ay]
 refine⟨_,(ab (Æ 4 dB.nd (ak (hj:=by lia) (og T) hr (fv 1^af^ae)))
  (ab (Æ 5 dB.nd (az dD (az bP (fv 4) af) (az bP (az eO (fv 4) af) af)))
  (ab (Æ 6 dB.nd (az dD (az bP (az eO (fv 4) af) af) (az bP (az eO (fv 4) af) af)))
  (ab (Æ 7 dB.nd (az aO af (az bP (az eO (fv 4) af) af)))
  (ab (aS (Ë Bn (az dD (px hu (px hu (fv 0) aw) (mE ik af)) (fv 7)) af)
   (ai (Æ 7 dB.nd af))
   aF)
  (ab (bX (az oY (px hu (fv 0) aw) (az dD (az dD (px hu (px hu (fv 0) aw) (mE ik af)) (fv 7)) (az aO (fv 5) (fv 6)))) (fV (fv 0) aw (fX hu Zx)))
  (ab (aS (bE (fv 3) (λ_=>rfl))
   (ab (aR (br (px hu (fv 0) aw) (aw^ae)))
   (ab (aR (br (px hu (fv 0) aw) (az dD (px hu (px hu (fv 0) aw) (mE ik af)) (fv 7)^ae)))
   (ai (aD (aT (aw^(ak (hj:=by lia) (mI T) hr ((ak (hj:=by lia) (og T) hr (fv 1^af^ae))^fv 2^ae))^fv 7^fv 5^fv 6^ae))))))
   aF)
  (ab (aR (br (px hu (fv 0) aw) (aw^ae)))
  (ab (aR (br (px hu (fv 0) aw) (px hu (px hu (fv 0) aw) (mE ik af)^ae)))
  (ai (aD (aT (aw^(ak (hj:=by lia) (EY T) hr (fv 1^fv 2^ae))^fv 5^fv 6^ae))))))))))))),?_⟩
 refine ag λM1 K1=>{c,7,rfl,∅,∅,λn n0 n1=>?_};have sm:∀{x:Int},0<=x->x<100->-(2^64)<x/\x<2^64:=λa b=>()
 obtain⟨a0,a1⟩:=cb n (show(0:Int)<3 by decide);obtain⟨b0,b1⟩:=cb (n/12) (show(0:Int)<3 by decide);refine K1 _ _ ?_;clear K1 M1;rfl'
 refine ag λM1 K1=>{by show(0:Int)<3;decide,{∅,∅},by show(0:Int)<4;decide,.inl (sm a0 ()),K1 _ _ ?_};clear K1 M1;rfl'
 refine ag λM1 K1=>{{∅,∅},by show(0:Int)<3;decide,{∅,∅},by show(0:Int)<4;decide,.inl (sm b0 ()),?_};obtain⟨m0,m1⟩:=cb (n/144) (show(0:Int)<4 by decide);refine K1 _ _ ?_;clear K1 M1;rfl'
 refine ag λM1 K1=>{{∅,∅},by show(0:Int)<4;decide,K1 _ _ ?_};clear K1 M1;rfl'
 refine ag λM1 K1=>?_;have fin:∀(mm l r:Int),1<=mm->mm<=4->t0*mm<=6->M1 [Zq (.ref s.S),Zq (.int c),Zq (.ref sc),Zq (.bl b),Zq (.int n),Zq (.int l),Zq (.int r),Zq (.int mm)] H:=by
  intro mm l r h1 h4 h6;have tp:1<=t0*mm:=Int.mul_pos () ();refine K1 _ _ ?_;clear K1 M1;rfl'
  refine ag λM1 K1=>Þ Á.a.hS rfl (Þ Á.a.hS rfl {_,rfl,ï (À.of htm) jm {.inl (sm () ()),.inl (sm () ()),{_,nO.k (k:=.inr "room") Á.a.hS (show 5<sizeLine by decide),K1 _ _ ?_}}});clear K1 M1;rw[pS];have A1:=Á.a.qK (g.room-t0*mm*(l+r));have s1:Sn s H (upd H s.S (.dK (stK s (g.room-t0*mm*(l+r))))):=Sn.at (by simp) _;have nn:=Á.a.ne;have ht1:upd H s.S (.dK (stK s (g.room-t0*mm*(l+r)))) s.t=Zq (.lst (ts.map V.int++[.int t0])):=au (P9 nn.1.2.1) htm;have ho1:=A1.ho;generalize upd H s.S _=H1 at A1 s1 ht1 ho1⊢;have lo:g.op.length=↥z:=by rw[Á.op];simp[iT]
  have ltm:g.tm.length=↥z+1:=Á.tl;have tll:↥ts=↥z:=by rw[et,Pq,Pw]at ltm;lia
  have push:∀(op:Op)(tn:Int),1<=tn->tn<=6->N9 ps dd (Ϙ z) ↥z op->å N (upd (upd H1 s.o (.lst (sS (g.op++[op.wd])))) s.t (.lst ((g.tm++[tn]).map V.int))) s { g with room:=g.room-t0*mm*(l+r),op:=g.op++[op.wd],tm:=g.tm++[tn] } ps dd ((cur,op)::z) []:=λop tn h1 h6 ok=>by
   refine{(A1.opened (g.op++[op.wd])).J3 (g.tm++[tn]),by show g.op++[op.wd]=_;rw[pR,Á.op],by show(g.tm++[tn]).length=_;rw[Pq,Pw,PD];lia,λx hx=>?_,Á.de,⟨Á.oc,Á.dc,ok,Á.oz⟩,by rw[cS];trivial,by rw[PD];lia,by rw[cE,PD];lia};rcases Pz.mp hx with m|m
   ·exact Á.tb x m
   rw[Pu.mp m];exact⟨h1,h6⟩
  have fl:∀(op:Op)(f:Fr),op.fl=[f]->Ġ ((cur,op)::z) []=Ġ z cur++[f]:=λop f e=>by
   show Ġ z cur++(op.fl++aA [])=_;rw[e,aA,Qd]
  have S1:=hS.same (Sn.del s1);cases b with
  |true=>
   refine ag λM1 K1=>{_,rfl,bQ ?_};have A2:=A1.opened (g.op++[("loop":Str)]);have s2:Sn s H1 (upd H1 s.o (.lst (sS (g.op++[("loop":Str)])))):=Sn.at (by simp) _;have Ο:upd H1 s.o (.lst (sS (g.op++[("loop":Str)]))) s.t=Zq (.lst (ts.map V.int++[.int t0])):=au (P9 nn.1.2.2.2.2.1) ht1;refine ag λM2 K2=>Þ A1.hS rfl {P1 {rfl,_,À.of ho1},_,_,_,rfl,rfl,ho1,aH (by rw[Pr];show g.op.length<=1000;lia),?_};rw[<-xi];refine K2 _ _ ?_;clear K2 M2;rfl'
   refine ag λM2 K2=>Þ A2.hS rfl {P1 {rfl,_,À.of Ο},Þ A2.hS rfl {_,rfl,ï (À.of Ο) jm {.inl (sm () ()),{_,_,_,rfl,rfl,Ο,aH (by rw[Pq,Pr,Pw];lia),K2 _ _ ?_}}}};clear K2 M2;rw[show ts.map V.int++[.int t0]++[.int (t0*mm)]=(g.tm++[t0*mm]).map V.int by rw[et];simp];have s3:Sn s (upd H1 s.o (.lst (sS (g.op++[("loop":Str)])))) (upd (upd H1 s.o (.lst (sS (g.op++[("loop":Str)])))) s.t (.lst ((g.tm++[t0*mm]).map V.int))):=Sn.at (by simp) _;have t3:=(s1.trans s2).trans s3;have S3:=hS.same (Sn.del t3);rfl'
   refine{c,8,rfl,∅,∅,λm' m0' m1'=>{N,sc,ps,m',rfl,m0',m1',S3.same cM,λth H4 s4 Θ=>?_}};have B4:=(push (.lp th mm l r) (t0*mm) tp h6 ⟨Θ,h1,h4⟩).same s4;refine{by show 5<=sizeLine;decide,λrr hrr=>?_};have s5:=aj.upd hrr (.tup [V.str "loop",th.v N,.int mm,.int l,.int r]);exact q _ (.loop th mm l r) _ _ _ _ (t3.trans (Sn.new (s4.trans s5))) (B4.same s5) rfl (fl _ _ rfl) (Ĕ (aN (B4.a.new hrr) ao) rfl)
  |false=>
   refine ag λM1 K1=>{_,rfl,a9 (K1 _ _ ?_)};clear K1 M1;rfl'
   have A2:=A1.opened (g.op++[("if":Str)]);have s2:Sn s H1 (upd H1 s.o (.lst (sS (g.op++[("if":Str)])))):=Sn.at (by simp) _;have Ο:upd H1 s.o (.lst (sS (g.op++[("if":Str)]))) s.t=Zq (.lst (ts.map V.int++[.int t0])):=au (P9 nn.1.2.2.2.2.1) ht1;refine ag λM2 K2=>Þ A1.hS rfl {P1 {rfl,_,À.of ho1},_,_,_,rfl,rfl,ho1,aH (by rw[Pr];show g.op.length<=1000;lia),?_};rw[<-xi];refine K2 _ _ ?_;clear K2 M2;rfl'
   refine ag λM2 K2=>Þ A2.hS rfl {P1 {rfl,_,À.of Ο},Þ A2.hS rfl {_,rfl,ï (À.of Ο) jm {_,_,_,rfl,rfl,Ο,aH (by rw[Pq,Pr,Pw];lia),K2 _ _ ?_}}};clear K2 M2;rw[show ts.map V.int++[.int t0]++[.int t0]=(g.tm++[t0]).map V.int by rw[et];simp];have s3:Sn s (upd H1 s.o (.lst (sS (g.op++[("if":Str)])))) (upd (upd H1 s.o (.lst (sS (g.op++[("if":Str)])))) s.t (.lst ((g.tm++[t0]).map V.int))):=Sn.at (by simp) _;have t3:=(s1.trans s2).trans s3;have S3:=hS.same (Sn.del t3);rfl'
   refine{N,sc,ps,c,rfl,S3.same cM,λp v H4 s4 f4 e4 ov=>?_};have B3:=push (.i1 v l r) t0 t1 t6 ov;have p4:p∉s.M:=B3.a.new f4;have B4:=B3.same s4;refine{by show 4<=sizeLine;decide,λrr hrr=>?_};have s5:=aj.upd hrr (.tup [V.str "if",.ref p,.int l,.int r]);exact q _ (.iff v l r) _ _ _ _ (t3.trans (Sn.new (s4.trans s5))) (B4.same s5) rfl (fl _ _ rfl) (fr1 (p:=p) (aN (B4.a.new hrr) ao) rfl (aN p4 (s5 _ _ e4)))
 refine Þ Á.a.hS rfl {_,rfl,ï (À.of htm) jm {.inl (sm () ()),_,rfl,aV (λ_=>fin 1 _ _ ∅ ∅ ()) (λz=>fin _ _ _ () () ?_)}};have:=of_decide_eq_false (Q1.mpr z);lia
theorem Iq(hp:À K H p xs)(hq:À K H q [])(h1:eZ K H xs ds)(sh:TY (.list ds)=true)(k:Q (.bl (!xs.isEmpty)) H):fNe K (.ref p) (.ref q) H Q:=by
 refine{.list ds,.list [],.lst hp h1,.lst hq .nil,sh,rfl,?_};cases h1 with
 |nil=>exact k
 |cons _ _=>exact k
def ddD(N:Nat->Str)(e:Nat×Nat×Int):Wv:=.tuple [.str (N e.1),.int e.2.1,.int e.2.2]
theorem LH(nm:jc N)(s:aj X H):∀{dd:List (Nat×Nat×Int)}{ds:List V},xp N X dd ds->(∀e∈dd,e.1<24)->eZ K H ds (dd.map (ddD N))/\Ta (dd.map (ddD N))=true/\Tg (dd.map (ddD N))<=1:=by
 intro dd ds h;induction h with
 |nil=>intro _;exact{.nil,rfl,PZ _}
 |cons h _ ih=>
  intro ok;obtain⟨a,rfl,ha⟩:=h;obtain⟨h1,h2,h3⟩:=ih λe he=>ok e (PC _ he);have so:=nm.str _ (ok _ PH);refine{.cons (.tup (Ç.of (s _ _ ha)) (.cons (.str _) (.cons (.int _) (.cons (.int _) .nil)))) h1,?_,?_}
  ·rw[P0];simp[ddD,Ta,TJ,h2,so]
  rw[P0];simp[ddD,Tg,Uh];lia
theorem Ll (z):decide (("loop":Str)∈iT z)=Ϙ z:=by
 induction z with
 |nil=>rfl
 |cons e z ih=>
  rw[pR,GV,<-ih];obtain⟨pa,op⟩:=e;cases op with
  |lp _ _ _ _=>
   show decide (_∈iT z++[("loop":Str)])=(true||_);rw[decide_eq_true (by simp)];rfl
  |i1 _ _ _=>
   show decide (_∈iT z++[("if":Str)])=(false||_);rw[R6];refine decide_eq_decide.mpr ⟨λh=>?_,λh=>PY _ h⟩;rcases Pz.mp h with h|h
   ·exact h
   exact absurd (Pu.mp h) ∅
  |i2 _ _ _ _=>
   show decide (_∈iT z++[("other":Str)])=(false||_);rw[R6];refine decide_eq_decide.mpr ⟨λh=>?_,λh=>PY _ h⟩;rcases Pz.mp h with h|h
   ·exact h
   exact absurd (Pu.mp h) ∅
theorem EI(op:Op):SR op.wd=true:=by
 cases op with
 |lp _ _ _ _=>exact(by decide+kernel:SR ("loop":Str)=true)
 |i1 _ _ _=>exact(by decide+kernel:SR ("if":Str)=true)
 |i2 _ _ _ _=>exact(by decide+kernel:SR ("other":Str)=true)
inductive Df(vs:List V)(H:Hp)(Q:VK)(Ä:XK):Prop
 |mk (N s g ps dd z cur c sc) (z0:vs=[.ref s.S,.int c,.ref sc]) (z1:å N H s g ps dd z cur) (z4:rf N (del s.M H) sc ps) (z5:∀e∈g.dd,e.1<24/\e.2.1<=4)
  (z3:∀(v f g' z' Ē H'),Sn s H H'->å N H' s g' ps dd z' Ē->g'.dd=g.dd->Ġ z' Ē=Ġ z cur++[f]->lI N (del s.M H') v f->Q v H'):Df vs H Q Ä
theorem å.leaf(Á:å N H s g ps dd z cur)(ok:Ai ps dd (Ϙ z) r):å N H s g ps dd z (cur++[.leaf r])/\Ġ z (cur++[.leaf r])=Ġ z cur++[.leaf r]:=by
 refine{{Á.a,Á.op,Á.tl,Á.tb,Á.de,Á.oz,uG Á.oc (zp (by rw[è];exact ok)),Á.zl,?_},?_}
 ·rw[lZ,yy,ă];have:=Á.dc;lia
 rw[BH,pO,Ò]
theorem LP(h:∀(i:Nat) y,ys[i]?=Zq y->∃t:Th,y=t.v N/\pT ps t):∃ts:List Th,ys=ts.map (Th.v N)/\∀t∈ts,pT ps t:=by
 induction ys with
 |nil=>exact{[],rfl,λt ht=>by cases ht}
 |cons y r ih=>
  obtain⟨t,rfl,ht⟩:=h 0 y rfl;obtain⟨ts,rfl,hts⟩:=ih λi z hz=>h (i+1) z hz;refine{t::ts,rfl,λu hu=>?_};rcases Py.mp hu with rfl|hu
  ·exact ht
  exact hts u hu
theorem KD(T:Txt K mg A):T.xQ.Hz P w base 5 Df:=by
 refine T.xQ.hs (k:=4) iG (λf Ã A' outer s' H vs Q E hr hu h=>?_);obtain⟨N,s,g,ps,dd,z,cur,c,sc,rfl,Á,hS,ϝ,q⟩:=h;refine⟨_,(ab (Æ 3 iG.nd (az bP (fv 1) af))
  (ab (aS (PW.pt (pw_and (Ë Bn (fv 3) af) (pw_and1 (Ë (rF hu) (px hu (fv 0) aw) (aQ ae)))))
   (ai (aD (ak (hj:=by lia) (yO T) hr (fv 0^ae))))
   aF)
  (ab (bX (az oY (px hu (fv 0) aw) (px hu (px hu (fv 0) aw) (mE ik af))) (fV (fv 0) aw (fX hu Zx)))
  (ab (aS (PW.pt (pw_and (Ë Bn (fv 3) af) (pw_and (Ë zW (fv 3) af) (pw_and (Ë zW (à fI T.gO (px hu (fv 0) aw^ae)) af) (pw_and1 (Ë Bn (px hu (fv 0) aw) af))))))
   (ai (aD (ak (hj:=by lia) (FO T) hr (fv 0^fv 1^fv 2^Ϫ zW (fv 3) af^ae))))
   aF)
  (ab (aS (PW.pt (pw_and (Ë (bU hu) (fv 3) af) (pw_and1 (Ë (rF hu) (px hu (fv 0) aw) (aQ ae)))))
   (ab (bX (ak (hj:=by lia) (qA T) hr (px hu (fv 0) aw^(ak (hj:=by lia) (og T) hr (fv 1^af^ae))^ae)) (dg rfl (aK (Ð (i:=4) iG.nd rfl) (aK (Ð (i:=5) iG.nd rfl) (aK (Ð (i:=6) iG.nd rfl) cu)))))
   (ai (aS (Ë Bn (px hu (fv 0) aw) (az dD (px hu (px hu (fv 0) aw) (mE ik af)) (fv 6)))
    (ab (bX (az oY (px hu (fv 0) aw) (az dD (px hu (px hu (fv 0) aw) (mE ik af)) (fv 6))) (fV (fv 0) aw (fX hu Zx)))
    (ai (aD (aT (aw^fv 4^(eJ (N:=["_law_k","_law_scope_here","_law_cell"]) (own:=1) (fr:=[2,1]) (cf.of (by kernel_rfl!)) rfl (cY rfl T.dj (fv 5^ae)) (λb=>Ð (i:=0) (show Tf (["_law_k","_law_scope_here","_law_cell"]:List T1) by decide+kernel) rfl) (λb=>kU) (λb=>ak (hj:=by lia) (mI T) hr ((ak (hj:=by lia) (og T) hr (fv 2^az aO af (fv 0)^ae))^fv 1^ae)))^ae)))))
    aF)))
   aF)
  (ab (aS (PW.pt (pw_and (Ë (bU hu) (fv 3) af) (pw_and1 (Ë (vR hu) aw (px hu (fv 0) aw) ((by with_unfolding_all rfl))))))
   (ai (aD (aT (aw^ae))))
   aF)
  (ai (aD (ak (hj:=by lia) (FJ T) hr (fv 0^fv 1^fv 2^ae)))))))))),?_⟩
 refine ag λM1 K1=>{by show(0:Int)<11;decide,K1 _ _ ?_};clear K1 M1;rfl'
 refine ag λM1 K1=>?_;have go:∀H1,aj H H1->M1 [Zq (.ref s.S),Zq (.int c),Zq (.ref sc),Zq (.int (c%11)),Zr,Zr,Zr] H1:=by
  intro H1 s1;refine K1 _ _ ?_;clear K1 M1;have B1:=Á.same s1;obtain⟨ts,t0,et,t1,t6⟩:=Á.times;have htm:H1 s.t=Zq (.lst (ts.map V.int++[.int t0])):=by rw[B1.a.ht,et,Ay]
  rfl'
  refine ag λM1 K1=>Þ B1.a.hS rfl (Þ B1.a.hS rfl {_,rfl,ï (À.of htm) jm {_,nO.k (k:=.inr "room") B1.a.hS (show 5<sizeLine by decide),K1 _ _ ?_}});clear K1 M1;rw[pS];have B2:=B1.qK (g.room-t0);have s2:Sn s H1 (upd H1 s.S (.dK (stK s (g.room-t0)))):=Sn.at (by simp) _;have htm2:upd H1 s.S (.dK (stK s (g.room-t0))) s.t=Zq (.lst (ts.map V.int++[.int t0])):=by rw[B2.a.ht];show Zq (HO.lst (g.tm.map V.int))=_;rw[et,Ay]
  have t2:Sn s H (upd H1 s.S (.dK (stK s (g.room-t0)))):=(Sn.new s1).trans s2;generalize upd H1 s.S _=H2 at B2 s2 htm2 t2⊢;generalize g.room-t0=rm at B2;have S2:=hS.same (Sn.del t2);have ho2:=B2.a.ho;have lo:g.op.length=↥z:=by rw[Á.op];simp[iT]
  rfl'
  refine ag λM1 K1=>?_;have go2:M1 [Zq (.ref s.S),Zq (.int c),Zq (.ref sc),Zq (.int (c%11)),Zr,Zr,Zr] H2:=by
   refine K1 _ _ ?_;clear K1 M1;rfl'
   refine ag λM1 K1=>?_;have go3:∀(v4 v5 v6:Option V)(H3:Hp),aj H2 H3->M1 [Zq (.ref s.S),Zq (.int c),Zq (.ref sc),Zq (.int (c%11)),v4,v5,v6] H3:=by
    intro v4 v5 v6 H3 s3;refine K1 _ _ ?_;clear K1 M1;have B3:=B2.same s3;have S3:=S2.same (Sn.del (Sn.new s3));have t3:=t2.trans (Sn.new s3);rfl'
    refine ag λM1 K1=>?_;have pl:∀H4,aj H3 H4->M1 [Zq (.ref s.S),Zq (.int c),Zq (.ref sc),Zq (.int (c%11)),v4,v5,v6] H4:=λH4 s4=>K1 _ _ ⟨N,s,_,c,sc,ps,rfl,(B3.same s4).a,S3.same (Sn.del (Sn.new s4)),λv r mk H' s' a' fr ok=>by
     have Š:å N H' s { g with room:=rm,ma:=mk } ps dd z cur:=⟨a',B3.op,B3.tl,B3.tb,B3.de,B3.oz,B3.oc,B3.zl,B3.dc⟩;obtain⟨b1,b2⟩:=Š.leaf (ok dd (Ϙ z));exact q v (.leaf r) _ z _ H' (t3.trans ((Sn.new s4).trans s')) b1 rfl b2 fr⟩
    refine{rfl,_,rfl,aV (λ_=>?_) (λ_=>a9 (pl H3 (aj.refl _)))};refine Þ B3.a.hS rfl (P1 {_,P1 (À.of B3.a.ho),rfl,nJ _,_,rfl,?_});have el:ý (V.str "loop") (sS g.op)=Ϙ z:=by rw[kN,Á.op,Ll]
    refine aV (λz9=>?_) (λ_=>pl H3 (aj.refl _));have z9:ý (V.str "loop") (sS g.op)=true:=z9;rw[el]at z9;refine{by show 1<=sizeLine;decide,λr hr=>?_};have s4:=aj.upd hr (.tup [V.str "last"]);obtain⟨b1,b2⟩:=(B3.same s4).leaf (r:=.last) z9;exact q _ (.leaf .last) _ z _ _ (t3.trans (Sn.new s4)) b1 rfl b2 (Ĕ (aN (B3.a.new hr) ao) rfl)
   refine{rfl,_,rfl,aV (λ_=>?_) (λ_=>a9 (go3 Zr Zr Zr H2 (aj.refl _)))};refine Þ B2.a.hS rfl {PZ _,λL hL=>?_};obtain⟨s3,e3⟩:=Í hL (HO.lst []);generalize upd H2 L _=H3 at s3 e3⊢;have B3:=B2.same s3;obtain⟨ds,hd3,dd3⟩:=B3.a.hd;have dl:=Sz dd3;have RR:eZ K H3 ds (g.dd.map (ddD N))/\Ta (g.dd.map (ddD N))=true/\Tg (g.dd.map (ddD N))<=1:=LH (K:=K) B3.a.nm (cM (X:=s.M) (H:=H3)) dd3 λe he=>(ϝ e he).1;obtain⟨r1,r2,r3⟩:=RR;refine Iq (À.of hd3) (À.of e3) r1 (by simp[TY,TJ,Uh,r2];lia) {_,rfl,?_};by_cases e0:ds=[]
   ·rw[e0];exact a9 (go3 Zr Zr Zr H3 s3)
   have en:(!ds.isEmpty)=true:=by
    cases hg:ds with
    |nil=>exact absurd hg e0
    |cons x r=>rfl
   rw[en];refine bQ (ag λM2 K2=>Þ B3.a.hS rfl {c,1,rfl,∅,∅,λm m0 m1=>{s.d,_,m,rfl,À.of hd3,List.length_pos_iff.mpr e0,λx hx=>?_}});obtain⟨j,hj⟩:=Qb hx;obtain⟨e,he,a,rfl,ha⟩:=bT dd3 hj;have me:e∈g.dd:=P4 he;obtain⟨e24,e4⟩:=ϝ e me;refine{a,_,rfl,Ç.of (cM _ _ ha),rfl,_,_,rfl,_,_,rfl,_,_,rfl,rfl,K2 _ _ ?_};clear K2 M2;have htm3:=s3 _ _ htm2;have sm:∀{x:Int},0<=x->x<100->-(2^64)<x/\x<2^64:=λa b=>()
   rfl'
   refine Þ B3.a.hS rfl (Þ B3.a.hS rfl {_,rfl,ï (À.of htm3) jm {.inl (sm () ()),_,rfl,aV (λ_=>?_) (λ_=>go3 _ _ _ H3 s3)}});refine ag λM2 K2=>Þ B3.a.hS rfl (Þ B3.a.hS rfl {_,rfl,ï (À.of htm3) jm {.inl (sm () ()),{_,nO.k (k:=.inr "room") B3.a.hS (show 5<sizeLine by decide),K2 _ _ ?_}}});clear K2 M2;rw[pS];have B4:=B3.qK (rm-t0*e.2.2);have s4:Sn s H3 (upd H3 s.S (.dK (stK s (rm-t0*e.2.2)))):=Sn.at (by simp) _;have t4:Sn s H (upd H3 s.S (.dK (stK s (rm-t0*e.2.2)))):=(t2.trans (Sn.new s3)).trans s4;generalize upd H3 s.S _=H4 at B4 s4 t4⊢;have S4:=hS.same (Sn.del t4);rfl'
   refine{_,rfl,(),(),?_};rw[Rl];refine sG (n:=e.2.1) (x:=λi=>.int (0+(i:Int))) (λj y H=>∃t:Th,y=t.v N/\pT ps t) (aH ()) (λ_ _=>Px _) (λ_ _ h _=>h) (λ_ _ _ _ _ _ y=>y) (λb j H5 G hj s5 kk=>{c,_,rfl,(),(),λm' m0' m1'=>{N,sc,ps,m',rfl,m0',m1',(S4.same cM).same s5,λth H6 s6 Θ=>kk _ H6 s6 ⟨th,rfl,Θ⟩}}) (λj y H1 H2 s1 h=>h) (λj y H1 D ys zs hD h=>h) (λD H5 ys hD s5 e5 ly hy=>?_);obtain⟨tls,rfl,ot⟩:=LP hy;have B5:=B4.same s5;have D5:D∉s.M:=B4.a.new hD;refine{by show 3<=sizeLine;decide,λr hr=>?_};have s6:=aj.upd hr (.tup [V.str "call",.str (N e.1),.ref D]);have mem:(e.1,↥tls)∈dd:=by
    rw[<-Á.de];refine PM.mpr {e,me,?_};rw[show ↥tls=e.2.1 by rw[<-ly,Pr]]
   obtain⟨b1,b2⟩:=(B5.same s6).leaf (r:=.call e.1 tls) ⟨mem,ot⟩;exact q _ (.leaf (.call e.1 tls)) _ z _ _ (t4.trans (Sn.new (s5.trans s6))) b1 rfl b2 (fr1 (p:=D) (aN (B5.a.new hr) ao) rfl (aN D5 (s6 _ _ e5)))
  refine{_,rfl,aV (λ_=>?_) (λ_=>a9 go2)};refine{_,rfl,aV (λ_=>?_) (λ_=>a9 go2)};refine Þ B2.a.hS rfl (ϯ ho2 {_,rfl,aV (λz6=>?_) (λ_=>a9 go2)});refine Þ B2.a.hS rfl {_,rfl,aV (λ_=>?_) (λ_=>go2)};have z6:(((sS g.op).length:Nat):Int)<6:=of_decide_eq_true z6;rw[Pr]at z6;exact{N,s,_,ps,dd,z,cur,c,sc,_,rfl,B2,(),S2,λv f g' z' Ē H' s' Š ed fl fr=>q v f g' z' Ē H' (t2.trans s') Š ed fl fr}
 refine{_,rfl,aV (λ_=>?_) (λ_=>a9 (go H (aj.refl _)))};refine Þ Á.a.hS rfl {PZ _,λL hL=>?_};obtain⟨s1,e1⟩:=Í hL (HO.lst []);generalize upd H L _=H1 at s1 e1⊢;have B1:=Á.same s1;have okw:∀x∈g.op,SR x=true:=λx hx=>by
  rw[Á.op]at hx;unfold iT at hx;rw[Yo]at hx;obtain⟨⟨pa,op⟩,_,rfl⟩:=PM.mp hx;exact EI op
 refine ZH (À.of B1.a.ho) (À.of e1) (tE okw) {_,rfl,?_};by_cases e0:z=[]
 ·have e2:g.op=[]:=by rw[Á.op,e0];rfl
  rw[e2];exact a9 (go H1 s1)
 have en:(!(sS g.op).isEmpty)=true:=by
  have l1:g.op.length=↥z:=by rw[Á.op];simp[iT]
  cases hg:g.op with
  |nil=>
   rw[hg]at l1;exact absurd (RE.mp l1.symm) e0
  |cons x r=>rfl
 rw[en];exact bQ {N,s,g,ps,dd,z,cur,rfl,B1,e0,λv f g' z' Ē H' s' Š ed fl mu fr=>q v f g' z' Ē H' ((Sn.new s1).trans s') Š ed fl fr}
theorem ê.grown(h:ê N H s g) (ys):ê N (upd H s.F (.lst ys)) s g:=by
 obtain⟨⟨a,b,c,d,e',f,i,j,k,l⟩,x1,x2,x3,x4,x5⟩:=h.ne;obtain⟨ds,hd,dd⟩:=h.hd;exact{au (P9 x1) h.hS,au (P9 x2) h.ho,au (P9 x3) h.ht,au (P9 x4) h.hm,{ds,au (P9 x5) hd,dd.same (Sm.del (Sm.at (by simp) _))},h.nd,⟨ys,ao⟩,h.mo,h.nm}
theorem å.grown(Á:å N H s g ps dd z cur) (ys):å N (upd H s.F (.lst ys)) s g ps dd z cur:=⟨Á.a.grown ys,Á.op,Á.tl,Á.tb,Á.de,Á.oz,Á.oc,Á.zl,Á.dc⟩
theorem ê.fq(h:ê N H s g):s.F∉s.Q:=by
 obtain⟨_,x1,x2,x3,x4,x5⟩:=h.ne;simp only[Sa.Q,Py,P7,or_false,not_or];exact⟨x1,x2,x3,x4,x5⟩
theorem Sn.m(h:Sn s H H'):Sm s.M H H':=Sm.mono h λ_=>Sa.qm
inductive zO(vs:List V)(H:Hp)(Q:VK)(Ä:XK):Prop
 |mk(N:Nat->Str)(s:Sa)(g:Sg)(ps:List Nat)(dd:List (Nat×Nat))(cl sc:Sv)(cs:List Int)(rm:Int)(z0:vs=[.ref s.S,.ref cl,.ref sc,.int rm])(z1:å N H s g ps dd [] [])(z2:del s.M H cl=Zq (.lst (cs.map V.int)))(z3:↥cs<=40)(z4:rf N (del s.M H) sc ps)(z5:∀e∈g.dd,e.1<24/\e.2.1<=4)
  (z6:∀(R:Sv)(ys:List V)(ts:List Tr)(g':Sg)(H':Hp),Sn s H H'->H R=Zr->H' R=Zq (.lst ys)->aY N (del s.Q H') (aA ts++[.fin]) ys->cS ps dd false ts->cE ts<=6->(aA ts).length<=↥cs+12->å N H' s g' ps dd [] []->g'.dd=g.dd->Q (.ref R) H'):zO vs H Q Ä
inductive G7(s:Sa)(cl:Sv)(sc:Sv)(rm:Int)(F:Sv)(H2:Hp)(N:Nat->Str)(ps:List Nat)(dd:List (Nat×Nat))(g:Sg)(i:Nat)(B:St)(Hc:Hp):Prop
 |mk (v5 ys g' z cur):B=[Zq (.ref s.S),Zq (.ref cl),Zq (.ref sc),Zq (.int rm),Zq (.ref F),v5]->Sm s.M H2 Hc->Hc F=Zq (.lst ys)->aY N (del s.M Hc) (Ġ z cur) ys->↥ys=i->å N Hc s g' ps dd z cur->g'.dd=g.dd->G7 s cl sc rm F H2 N ps dd g i B Hc
inductive Es(s:Sa)(cl:Sv)(sc:Sv)(rm:Int)(F:Sv)(v5:Option V)(H2:Hp)(N:Nat->Str)(cs:List Int)(ps:List Nat)(dd:List (Nat×Nat))(g:Sg)(m:Nat)(B':St)(Hd:Hp):Prop
 |mk (ys g' z cur):B'=[Zq (.ref s.S),Zq (.ref cl),Zq (.ref sc),Zq (.int rm),Zq (.ref F),v5]->Sm s.M H2 Hd->Hd F=Zq (.lst ys)->aY N (del s.M Hd) (Ġ z cur) ys->ϭ z=m->↥ys+m<=↥cs+12->å N Hd s g' ps dd z cur->g'.dd=g.dd->Es s cl sc rm F v5 H2 N cs ps dd g m B' Hd
inductive GX(m:Nat)(s:Sa)(cl:Sv)(sc:Sv)(rm:Int)(F:Sv)(v5:Option V)(H2:Hp)(N:Nat->Str)(cs:List Int)(ps:List Nat)(dd:List (Nat×Nat))(g:Sg)(B':St)(Hd:Hp):Prop
 |mk (ys g' z cur m'):m'<m->B'=[Zq (.ref s.S),Zq (.ref cl),Zq (.ref sc),Zq (.int rm),Zq (.ref F),v5]->Sm s.M H2 Hd->Hd F=Zq (.lst ys)->aY N (del s.M Hd) (Ġ z cur) ys->ϭ z=m'->↥ys+m'<=↥cs+12->å N Hd s g' ps dd z cur->g'.dd=g.dd->GX m s cl sc rm F v5 H2 N cs ps dd g B' Hd
theorem CH(T:Txt K mg A):T.uA.Hz P w base 6 zO:=by
 refine T.uA.hs (k:=5) nh (λf Ã A' outer s' H vs Q E hr hu h=>?_);obtain⟨N,s0,g,ps,dd,cl,sc,cs,rm,rfl,Á,hcl,lc,hS,ϝ,q⟩:=h;refine⟨_,(ab (bX (fv 3) (fV (fv 0) aw (fX hu Zx)))
  (ab (Æ 4 nh.nd (aQ ae))
  (ab (bY SH rfl (bW (fv 1)) (Ð (i:=5) nh.nd rfl)
   (ai (aR (br (fv 4) ((ak (hj:=by lia) (KD T) hr (fv 0^fv 5^fv 2^ae))^ae)))))
  (ab (fC SH (Ë (rF hu) (px hu (fv 0) aw) (aQ ae))
   (ai (aR (br (fv 4) ((ak (hj:=by lia) (yO T) hr (fv 0^ae))^ae)))))
  (ai (aD (az aO (fv 4) (aQ (aT (aw^ae)^ae))))))))),?_⟩
 refine ag λM1 K1=>{_,nO.k (k:=.inr "room") Á.a.hS (show 5<sizeLine by decide),K1 _ _ ?_};clear K1 M1;rw[pS];have B1:=Á.qK rm;have s1:Sn s0 H (upd H s0.S (.dK (stK s0 rm))):=Sn.at (by simp) _;have n1:∀x,upd H s0.S (.dK (stK s0 rm)) x=Zr->H x=Zr:=λx hx=>by
  by_cases e:x=s0.S
  ·rw[e,ao]at hx;cases hx
  rw[aP e]at hx;exact hx
 generalize upd H s0.S _=H1 at B1 s1 n1⊢;rfl'
 refine ag λM1 K1=>{PZ _,λF hF=>K1 _ _ ?_};clear K1 M1;obtain⟨s2,e2⟩:=Í hF (HO.lst []);generalize upd H1 F _=H2 at s2 e2⊢;have HF:H F=Zr:=n1 _ hF;have F0:F∉s0.M:=B1.a.new hF;have B2:=B1.same s2;obtain⟨s,es⟩:∃s:Sa,s={ s0 with F:=F }:=⟨_,rfl⟩;have eS:s.S=s0.S:=by rw[es]
 have eF:s.F=F:=by rw[es]
 have eQ:s.Q=s0.Q:=by rw[es]
 have eM:∀a∈s.M,a∈s0.Q\/a=F:=λa m=>by
  rw[es]at m;simp only[Sa.M,Sa.Q,Py,P7,or_false]at m⊢;rcases m with h|h|h|h|h|h<;>simp[h]
 have B2':å N H2 s { g with room:=rm } ps dd [] []:=by
  obtain⟨ds,hd,dda⟩:=B1.a.hd;have nn:=B1.a.ne;have h5:F≠s0.S/\F≠s0.o/\F≠s0.t/\F≠s0.m/\F≠s0.d:=by
   simp only[Sa.M,Py,P7,or_false,not_or]at F0;exact⟨F0.1,F0.2.1,F0.2.2.1,F0.2.2.2.1,F0.2.2.2.2.1⟩
  have dda':xp N (del s.M H2) g.dd ds:=dda.same λa o h=>by
   obtain⟨h1,h2⟩:=cC h;refine aN (λm=>?_) (s2 _ _ h2);rcases eM a m with z|z
   ·exact h1 (Sa.qm z)
   rw[z,hF]at h2;cases h2
  have nd:s.M.Nodup:=by
   rw[es];obtain⟨⟨a,b,c,d,e,f,i,j,k,l⟩,_⟩:=nn;simp only[Sa.M,Qt,Py,P7,or_false,not_or,RD,and_true,not_false_eq_true];exact{⟨a,b,c,d,P9 h5.1⟩,⟨e,f,i,P9 h5.2.1⟩,⟨j,k,P9 h5.2.2.1⟩,⟨l,P9 h5.2.2.2.1⟩,P9 h5.2.2.2.2}
  subst es;exact{{B2.a.hS,B2.a.ho,B2.a.ht,B2.a.hm,{ds,s2 _ _ hd,dda'},nd,{[],e2},B2.a.mo,B2.a.nm},B2.op,B2.tl,B2.tb,B2.de,B2.oz,B2.oc,B2.zl,B2.dc}
 have out:∀{H':Hp},Sm s.M H2 H'->Sn s0 H H':=λ{H'} sm a o ha e=>sm a o (λm=>by
  rcases eM a m with z|z
  ·exact ha z
  rw[z,HF]at e;cases e) (s2 _ _ (s1 a o ha e))
 have dn:aj (del s0.M H) (del s.M H2):=λx o e=>by
  obtain⟨h1,h2⟩:=cC e;refine aN (λm=>?_) (s2 _ _ (s1 _ _ (λm=>h1 (Sa.qm m)) h2));rcases eM x m with z|z
  ·exact h1 (Sa.qm z)
  rw[z,HF]at h2;cases h2
 have hcl2:=dn _ _ hcl;have hS2:rf N (del s.M H2) sc ps:=hS.same dn;rw[<-eS];rfl'
 refine ag λM1 K1=>P1 {{_,À.of (cM _ _ hcl2)},b4 (K:=K) (xs:=cs.map V.int) (G7 s cl sc rm F H2 N ps dd g) {Zr,[],{ g with room:=rm },[],[],rfl,Sm.refl _ _,e2,by show aY N _ (aA []) _;rw[aA];exact .nil,rfl,B2',rfl} (λi B Hc _ zz=>by obtain⟨_,_,_,_,_,_,z,_,_,_,_,_⟩:=zz;exact À.of (cM _ _ (Sm.del z _ _ hcl2))) ?_ ?_}
 ·rintro i x B Hc hx ⟨v5,ys,g',z,cur,rfl,Ū,Ĩ,fr,ly,Bc,gd⟩;rw[P5]at hx;cases hc:cs[i]? with
  |none=>rw[hc]at hx;cases hx
  |some c=>
  rw[hc]at hx;cases hx;have il:i<↥cs:=(PQ.mp hc).1;rfl'
  refine{P1 {rfl,_,À.of Ĩ},N,s,g',ps,dd,z,cur,c,sc,rfl,Bc,hS2.same (Sm.del Ū),λe he=>ϝ e (gd▸he),λv f g2 z2 cur2 H3 s3 B3 gd2 fl3 fr3=>?_};have hF3:H3 F=Zq (.lst ys):=s3 _ _ (by have:=Bc.a.fq;rw[eF]at this;exact this) Ĩ;have s4:Sm s.M H3 (upd H3 F (.lst (ys++[v]))):=Sm.at (by rw[<-eF];simp) _;have B4:=B3.grown (ys++[v]);rw[eF]at B4;refine{_,_,_,rfl,rfl,hF3,aH (),_,ys++[v],g2,z2,cur2,rfl,(Ū.trans s3.m).trans s4,ao,?_,by rw[Pq,ly];rfl,B4,gd2.trans gd};rw[fl3];exact Paired.two (aY.same (Sm.del (s3.m.trans s4)) fr) (.cons (lI.same (Sm.del s4) fr3) .nil)
 rintro B Hc ⟨v5,ys,g',z,cur,rfl,Ū,Ĩ,fr,ly,Bc,gd⟩;rw[Pr]at ly;refine K1 _ _ ?_;clear K1 M1;rfl'
 refine ag λM1 K1=>{Es s cl sc rm F v5 H2 N cs ps dd g,{ϭ z,ys,g',z,cur,rfl,Ū,Ĩ,fr,rfl,by have:=Ep z;have:=Bc.zl;lia,Bc,gd},?_};clear fr ly Bc gd Ĩ Ū;rintro m B' Hd ⟨ys,g',z,cur,rfl,Ū,Ĩ,fr,em,lm,Bc,gd⟩;refine Þ Bc.a.hS rfl {PZ _,λL hL=>?_};obtain⟨s5,e5⟩:=Í hL (HO.lst []);generalize upd Hd L _=H5 at s5 e5⊢;have B5:=Bc.same s5;have okw:∀x∈g'.op,SR x=true:=λx hx=>by
  rw[Bc.op]at hx;unfold iT at hx;rw[Yo]at hx;obtain⟨⟨pa,op⟩,_,rfl⟩:=PM.mp hx;exact EI op
 refine ZH (À.of B5.a.ho) (À.of e5) (tE okw) {_,rfl,?_};have ϡ:=aY.same (Sm.del (Sm.new s5)) fr;have hF5:=s5 _ _ Ĩ;have sc5:=Ū.trans (Sm.new s5);by_cases e0:z=[]
 ·have eo:g'.op=[]:=by rw[Bc.op,e0];rfl
  rw[eo];refine a9 (K1 _ _ ?_);clear K1 M1;subst e0;rfl'
  refine{by show 1<=sizeLine;decide,λt ht=>?_};obtain⟨s6,e6⟩:=Í ht (HO.tup [V.str "end"]);generalize upd H5 t _=H6 at s6 e6⊢;refine{by show 1<=sizeLine;decide,λl hl=>?_};obtain⟨s7,e7⟩:=Í hl (HO.lst [V.ref t]);generalize upd H6 l _=H7 at s7 e7⊢;refine{F,l,_,_,rfl,rfl,(s6.trans s7) _ _ hF5,e7,sz (by rw[Pw];lia),λR hR=>?_};have s8:=aj.upd hR (.lst (ys++[V.ref t]));have t58:=s6.trans (s7.trans s8);have sR:Sm s.M H2 (upd H7 R (.lst (ys++[V.ref t]))):=sc5.trans (Sm.new t58);have B8:=B5.same t58;have B8':å N (upd H7 R (.lst (ys++[V.ref t]))) s0 g' ps dd [] []:=by
   obtain⟨ys0,f0⟩:=Á.a.hF;have k0:upd H7 R (.lst (ys++[V.ref t])) s0.F=Zq (.lst ys0):=out sR _ _ Á.a.fq f0;obtain⟨ds,hd,dda⟩:=B8.a.hd;have dda':xp N (del s0.M (upd H7 R (.lst (ys++[V.ref t])))) g'.dd ds:=Paired.vo dda λe v ⟨a,ea,ha⟩=>⟨a,ea,by
    obtain⟨h1,h2⟩:=cC ha;refine aN (λm=>?_) h2;simp only[Sa.M,Py,P7,or_false]at m;rcases m with h|h|h|h|h|h
    ·exact h1 (by rw[h,es];simp)
    ·exact h1 (by rw[h,es];simp)
    ·exact h1 (by rw[h,es];simp)
    ·exact h1 (by rw[h,es];simp)
    ·exact h1 (by rw[h,es];simp)
    rw[h,k0]at h2;cases h2⟩
   subst es;exact{{B8.a.hS,B8.a.ho,B8.a.ht,B8.a.hm,⟨ds,hd,dda'⟩,Á.a.nd,⟨ys0,k0⟩,B8.a.mo,B8.a.nm},B8.op,B8.tl,B8.tb,B8.de,trivial,by rw[cS];trivial,PZ _,by rw[cE];exact PZ _}
  have fin:aY N (del s.M (upd H7 R (.lst (ys++[V.ref t])))) (aA cur++[.fin]) (ys++[V.ref t]):=Paired.two (aY.same (Sm.del (Sm.new t58)) ϡ) (.cons (Ĕ (aN (B5.a.new ht) ((s7.trans s8) _ _ e6)) rfl) .nil);have lf:=Sz ϡ;have lf:(aA cur).length=↥ys:=lf;have dcz:=Bc.dc;have HR:H R=Zr:=by
   cases e:H R with
   |none=>rfl
   |some o=>
    by_cases mR:R∈s0.Q
    ·exact absurd hR ((B5.same (s6.trans s7)).a.in (by rw[<-eQ]at mR;exact Sa.qm mR))
    have:=(out (sc5.trans (Sm.new (s6.trans s7)))) R o mR e;rw[hR]at this;cases this
  refine q R _ cur g' _ (out sR) HR ao ?_ Bc.oc (by have:=Bc.dc;rw[Qw]at this;lia) () B8' gd;rw[<-eQ];exact aY.same (λa o h=>aN (λm=>(cC h).1 (Sa.qm m)) (cC h).2) fin
 have en:(!(sS g'.op).isEmpty)=true:=by
  have l1:g'.op.length=↥z:=by rw[Bc.op];simp[iT]
  cases hg:g'.op with
  |nil=>
   rw[hg]at l1;exact absurd (RE.mp l1.symm) e0
  |cons x r=>rfl
 rw[en];refine bQ {GX m s cl sc rm F v5 H2 N cs ps dd g,λB' Hd ⟨ys,g',z,cur,m',ŗ,h1,h2,h3,h4,h5,h6,h7,h8⟩=>⟨m',ŗ,ys,g',z,cur,h1,h2,h3,h4,h5,h6,h7,h8⟩,{P1 {rfl,_,À.of hF5},N,s,g',ps,dd,z,cur,rfl,B5,e0,λv f g2 z2 cur2 H6 s6 B6 gd2 fl6 mu6 fr6=>?_}};have hF6:H6 F=Zq (.lst ys):=s6 _ _ (by have:=Bc.a.fq;rw[eF]at this;exact this) hF5;have s7:Sm s.M H6 (upd H6 F (.lst (ys++[v]))):=Sm.at (by rw[<-eF];simp) _;have B7:=B6.grown (ys++[v]);rw[eF]at B7;refine{_,_,_,rfl,rfl,hF6,aH (),ys++[v],g2,z2,cur2,ϭ z2,(),rfl,(sc5.trans s6.m).trans s7,ao,?_,rfl,by rw[Pq,Pw];lia,B7,gd2.trans gd};rw[fl6];exact Paired.two (aY.same (Sm.del (s6.m.trans s7)) ϡ) (.cons (lI.same (Sm.del s7) fr6) .nil)
abbrev De:=Nat×List Nat×List Tr
def Ċ(d:De):List Fr:=.bq d.1 d.2.1::(aA d.2.2++[.fin])
def bC(ds:List De):List Fr:=ds.flatMap Ċ
def je(ds:List De):List (Nat×Nat):=ds.map λd=>(d.1,d.2.1.length)
def ĝ(k:Nat):Nat:=if k=0 then 9 else if k=1 then 10 else 21
def stI(k:Nat):Nat:=if k=0 then 11 else if k=1 then 15 else 22
def ŭ(k:Nat):Nat:=if k=0 then 5 else if k=1 then 5 else 3
def Ę(k n:Nat):List Nat:=(SS n).map (stI k+ ·)
structure NN(ds:List De):Prop where
 at':∀(k:Nat) d,ds[k]?=Zq d->d.1=ĝ k/\(∃n,n<ŭ k/\d.2.1=Ę k n)/\cS d.2.1 (je (ds.take k)) false d.2.2/\cE d.2.2<=6/\(aA d.2.2).length<=17
structure eV(hs:List Lr)(ds:List De)(mb:List Tr):Prop where
 hd:∃rk z t,hs=rJ t (oJ rk z)/\(∀i,rk i=0\/rk i=1\/rk i=2)/\1<=z/\z<=4/\t<=11
 dl:↥ds=3
 de:NN ds
 mo:cS [] (je ds) false mb
 md:cE mb<=6
 ml:(aA mb).length<=48
def Ć(hs:List Lr)(ds:List De)(mb:List Tr):List Fr:=hs.map Fr.leaf++bC ds++ .main::(aA mb++[.fin])
theorem ê.Oh(h:ê N H s g) (dd) (e:xp N (del s.M H) dd ds):ê N (upd H s.d (.lst ds)) s { g with dd:=dd }:=by
 obtain⟨⟨a,b,c,d,e',f,i,j,k,l⟩,x1,x2,x3,x4,x5⟩:=h.ne;exact{au d h.hS,au i h.ho,au k h.ht,au l h.hm,{ds,ao,e.same (Sm.del (Sm.at (by simp) _))},h.nd,h.hF.imp λ_ z=>au x5 z,h.mo,h.nm}
theorem ê.put(h:ê N H s g)(m:R∉s.M)(hR:H R=Zq (.lst xs)):ê N (upd H R (.lst ys)) s g:=by
 have nn:∀a∈s.M,a≠R:=λa ha e=>m (e▸ha);obtain⟨ds,hd,dd⟩:=h.hd;refine{au (nn _ (by simp)) h.hS,au (nn _ (by simp)) h.ho,au (nn _ (by simp)) h.ht,au (nn _ (by simp)) h.hm,{ds,au (nn _ (by simp)) hd,Paired.vo dd λe v ⟨a,ea,ha⟩=>{a,ea,?_}},h.nd,h.hF.imp λ_ z=>au (nn _ (by simp)) z,h.mo,h.nm};obtain⟨h1,h2⟩:=cC ha;exact aN h1 (au (λe=>by rw[e,hR]at h2;cases h2) h2)
theorem å.idle(Á:å N H s g ps dd [] []) (ps'):å N H s g ps' dd [] []:={Á.a,Á.op,Á.tl,Á.tb,Á.de,trivial,by rw[cS];trivial,Á.zl,Á.dc}
theorem å.with(Á:å N H s g ps dd [] [])(a:ê N H' s g):å N H' s g ps dd [] []:=⟨a,Á.op,Á.tl,Á.tb,Á.de,Á.oz,Á.oc,Á.zl,Á.dc⟩
theorem aY.fresh(hR:H R=Zr)(h:aY N (del M H) fs vs):aY N (del (R::M) (upd H R o)) fs vs:=aY.same (λa x e=>by
 obtain⟨h1,h2⟩:=cC e;have n:a≠R:=λz=>by rw[z,hR]at h2;cases h2
 exact aN (λm=>by
  rcases Py.mp m with z|z
  ·exact n z
  exact h1 z) (au n h2)) h
theorem DQ(h:k<3):k=0\/k=1\/k=2:=()
theorem Iu{xs:List V}{a n:Nat}(h:a+n<=↥xs):rC xs (Zq (a:Int)) (Zq ((a:Int)+(n:Int)))=(xs.drop a).take n:=by
 unfold rC;rw[rK _ (),show((a:Int)+(n:Int))=((a+n:Nat):Int) by push_cast;rfl,rK _ h];congr 1;lia
theorem MJ(h:a+n<=24):((sS (vj N)).drop a).take n=nV N ((SS n).map (a+ ·)):=by
 refine RG λi=>?_;by_cases hi:i<n
 ·rw[Rc hi,XN,Er (),P5,P5,Rf hi];rfl
 rw[QE (by rw[Qo];lia),QE (by rw[Pr,Pr,QI];lia)]
theorem JF(h:∀x∈M,∀xs,H x≠Zq (.tup xs)):∀{fs:List Fr}{vs:List V},aY N H fs vs->(∀f∈fs,f.ob N=Zr)->aY N (del M H) fs vs:=by
 intro fs vs g;induction g with
 |nil=>intro _;exact .nil
 |cons g _ ih=>
  intro e;obtain⟨a,p,ev,h1,h2⟩:=g;refine .cons {a,p,ev,aN (λm=>h a m _ h1) h1,λo ho=>?_} (ih λf hf=>e f (PC _ hf));rw[e _ PH]at ho;cases ho
inductive BU(K:SE)(vs:List V)(H:Hp)(Q:VK)(Ä:XK):Prop
 |mk(N:Nat->Str)(a nl:Sv)(ns:List Int)(z0:vs=[.ref a,.ref nl])(z1:À K H a (ns.map V.int))(z2:H nl=Zq (.lst (sS (vj N))))(z3:jc N)
  (z4:∀(R:Sv)(ys:List V)(hs:List Lr)(ds:List De)(mb:List Tr)(H':Hp),aj H H'->H R=Zr->H' R=Zq (.lst ys)->aY N H' (Ć hs ds mb) ys->eV hs ds mb->Q (.ref R) H'):BU K vs H Q Ä
inductive GD(a:Sv)(s:Sa)(c:Int)(H:Hp)(N:Nat->Str)(hs:List Lr)(i:Nat)(B:St)(Hc:Hp):Prop
 |mk (R v6 v7 v8 v9 v10 đ g ys av):B=[Zq (.ref a),Zq (.ref s.F),Zq (.int c),Zq (.ref s.S),Zq (.ref R),Zq (.int av),v6,v7,v8,v9,v10,Zr]->aj H Hc->H R=Zr->R∉s.M->Hc R=Zq (.lst ys)->aY N (del (R::s.Q) Hc) (hs.map Fr.leaf++bC đ) ys->↥đ=i->NN đ->å N Hc s g [] (je đ) [] []->(∀e∈g.dd,e.1<24/\e.2.1<=4)->8<=av->av<=8+5*(i)->↥ys<=11+19*i->GD a s c H N hs i B Hc
theorem KQ(T:Txt K mg A):T.sI.Hz P w base 7 (BU K):=by
 have bc:=@og P w _ _ base _ T;refine T.sI.hs (k:=6) bM (λf Ã A' outer s' H vs Q E hr hu h=>?_);obtain⟨N,a,nl,ns,rfl,hA,hN,nm,q⟩:=h;refine⟨_,(ab (Æ 2 bM.nd (ak (hj:=by lia) (mT T) hr (fv 0^af^ae)))
  (ab (Æ 3 bM.nd (Dj (gm aw (aQ ae) (gm aw (aQ (af^ae)) (gm aw (aQ (px hu (fv 1) af^px hu (fv 1) af^ae)) (gm aw (aQ ae) (gm aw af (Dd)))))) rfl rfl (by intro z;cases z) ∅))
  (ab (Æ 4 bM.nd (ak (hj:=by lia) (EM T) hr (fv 1^fv 2^ae)))
  (ab (Æ 5 bM.nd af)
  (ab (bY SH rfl (cY rfl T.dj (af^ae)) (Ð (i:=6) bM.nd rfl)
   (ab (Æ 7 bM.nd (px hu (aQ (af^af^af^ae)) (fv 6)))
   (ab (Æ 8 bM.nd (px hu (fv 1) (px hu (aQ (af^af^af^ae)) (fv 6))))
   (ab (Æ 9 bM.nd (sA An (fv 1) (rL (fv 7)) (rL (az aO (fv 7) (az bP (ak (hj:=by lia) bc hr (fv 2^az aO af (fv 6)^ae)) (px hu (aQ (af^af^af^ae)) (fv 6)))))))
   (ab (aR (br (fv 4) (aT (aw^fv 8^fv 9^ae)^ae)))
   (ab (Æ 10 bM.nd (az bP (ak (hj:=by lia) bc hr (fv 2^az aO af (fv 6)^ae)) af))
   (ab (Æ 4 bM.nd (az aO (fv 4) (ak (hj:=by lia) (CH T) hr (fv 3^(ak (hj:=by lia) (CI T) hr (fv 0^fv 5^fv 10^ae))^(ak (hj:=by lia) (Ca T) hr (fv 1^fv 9^ae))^af^ae))))
   (ab (aR (br (px hu (fv 3) aw) (aT (fv 8^à fI T.gO (fv 9^ae)^az oY af (px hu (fv 3) aw)^ae)^ae)))
   (ai (Æ 5 bM.nd (az aO (fv 5) (fv 10))))))))))))
  (ab (aR (br (fv 4) (aT (aw^ae)^ae)))
  (ab (Æ 11 bM.nd (ak (hj:=by lia) (CI T) hr (fv 0^fv 5^(az aO af (az bP (ak (hj:=by lia) bc hr (fv 2^af^ae)) af))^ae)))
  (ai (aD (az aO (fv 4) (ak (hj:=by lia) (CH T) hr (fv 3^fv 11^(ak (hj:=by lia) (Ca T) hr (fv 1^aQ ae^ae))^af^ae)))))))))))),?_⟩
 refine ag λM1 K1=>{a,ns,2,rfl,hA,∅,∅,λc H0 s0=>K1 _ _ ?_};clear K1 M1;rfl'
 refine ag λM1 K1 S hS=>?_;obtain⟨s1,e1⟩:=Í hS (HO.dK []);generalize upd H0 S _=H1 at s1 e1⊢;refine{PZ _,λo ho=>?_};obtain⟨s2,e2⟩:=Í ho (HO.lst []);generalize upd H1 o _=H2 at s2 e2⊢;refine{by show 1<=sizeLine;decide,λt ht=>?_};obtain⟨s3,e3⟩:=Í ht (HO.lst [.int 1]);generalize upd H2 t _=H3 at s3 e3⊢;have t3:=(s0.trans s1).trans (s2.trans s3);refine ę (j:=5) (À.of (t3 _ _ hN)) (ę (j:=6) (À.of (t3 _ _ hN)) {by show 2<=sizeLine;decide,λm hm=>?_});obtain⟨s4,e4⟩:=Í hm (HO.lst [.str (N 5),.str (N 6)]);generalize upd H3 m _=H4 at s4 e4⊢;refine{PZ _,λd hd=>?_};obtain⟨s5,e5⟩:=Í hd (HO.lst []);generalize upd H4 d _=H5 at s5 e5⊢;have Ĳ:=(s2.trans s3).trans (s4.trans s5);have h05:=(s0.trans s1).trans Ĳ;let s:Sa:=⟨S,o,t,m,d,nl⟩
 refine{Ĳ _ _ e1,stK s 0,rfl,by show 5<=15;decide,K1 _ _ ?_};clear K1 M1;have HS:H S=Zr:=aj.free s0 hS;have s6:aj H (upd H5 S (.dK (bx [] (stK s 0)))):=aj.out h05 HS _;have eS:upd H5 S (.dK (bx [] (stK s 0))) S=Zq (.dK (stK s 0)):=ao;have no:o≠S:=Zs ho (e1);have nt:t≠S:=Zs ht (s2 _ _ e1);have nmm:m≠S:=Zs hm ((s2.trans s3) _ _ e1);have nd:d≠S:=Zs hd (((s2.trans s3).trans s4) _ _ e1);have to':t≠o:=Zs ht (e2);have mo':m≠o:=Zs hm (s3 _ _ e2);have do':d≠o:=Zs hd ((s3.trans s4) _ _ e2);have mt':m≠t:=Zs hm (e3);have dt':d≠t:=Zs hd (s4 _ _ e3);have dm':d≠m:=Zs hd (e4);have lS:nl≠S:=λz=>by rw[z,HS]at hN;cases hN
 have lo:nl≠o:=λz=>by rw[z,aj.free (s0.trans s1) ho]at hN;cases hN
 have lt:nl≠t:=λz=>by rw[z,aj.free ((s0.trans s1).trans s2) ht]at hN;cases hN
 have lm:nl≠m:=λz=>by rw[z,aj.free t3 hm]at hN;cases hN
 have ld:nl≠d:=λz=>by rw[z,aj.free (t3.trans s4) hd]at hN;cases hN
 have qH:∀x∈s.Q,H x=Zr:=λx hx=>by
  simp only[Sa.Q,s,Py,P7,or_false]at hx;rcases hx with rfl|rfl|rfl|rfl|rfl
  ·exact HS
  ·exact aj.free (s0.trans s1) ho
  ·exact aj.free ((s0.trans s1).trans s2) ht
  ·exact aj.free t3 hm
  exact aj.free (t3.trans s4) hd
 have B6:å N (upd H5 S (.dK (bx [] (stK s 0)))) s {[],[1],[5,6],[],0} [] [] [] []:=by
  refine{{eS,au no ((s3.trans (s4.trans s5)) _ _ e2),au nt ((s4.trans s5) _ _ e3),au nmm (s5 _ _ e4),{[],au nd e5,.nil},?_,{_,au lS (h05 _ _ hN)},(λx hx=>by simpa using hx),nm},rfl,rfl,(λx hx=>by rw[Pu.mp hx];exact{∅,∅}),rfl,trivial,by rw[cS];trivial,PZ _,by rw[cE];exact PZ _};simp only[s,Sa.M,Qt,Py,P7,or_false,not_or,RD,and_true,not_false_eq_true];exact{⟨P9 no,P9 nt,P9 nmm,P9 nd,P9 lS⟩,⟨P9 to',P9 mo',P9 do',P9 lo⟩,⟨P9 mt',P9 dt',P9 lt⟩,⟨P9 dm',P9 lm⟩,P9 ld}
 generalize upd H5 S _=H6 at B6 s6 eS⊢;have esS:s.S=S:=rfl;have esF:s.F=nl:=rfl;have esd:s.d=d:=rfl;clear_value s;subst esS esF;clear e1 e2 e3 e4 e5 s1 s2 s3 s4 s5 t3 Ĳ h05 no nt nmm nd to' mo' do' mt' dt' dm' lS lo lt lm ld hS ho ht hm hd HS;rfl'
 refine ag λM1 K1=>{N,s.F,c,rfl,s6 _ _ hN,λR rk z tt ys H7 s7 hR7 eR7 fr7 hrk z1 z4 t11=>K1 _ _ ?_};clear K1 M1;have B7:=B6.same s7;have t7:=s6.trans s7;have R0:H R=Zr:=aj.free s6 hR7;have RM:R∉s.M:=B6.a.new hR7;have fr7':aY N (del (R::s.Q) H7) ((rJ tt (oJ rk z)).map Fr.leaf) ys:=by
  refine JF (λx hx xs e=>?_) fr7 (λf hf=>?_)
  ·obtain⟨ds,hd,_⟩:=B7.a.hd;simp only[Sa.Q,Py,P7,or_false]at hx;rcases hx with rfl|rfl|rfl|rfl|rfl|rfl
   ·rw[eR7]at e;cases e
   ·rw[B7.a.hS]at e;cases e
   ·rw[B7.a.ho]at e;cases e
   ·rw[B7.a.ht]at e;cases e
   ·rw[B7.a.hm]at e;cases e
   rw[hd]at e;cases e
  obtain⟨r,hr,rfl⟩:=PM.mp hf;have hr:r∈oJ rk z:=by
   unfold rJ at hr;rcases Pz.mp hr with h|h
   ·exact Rw h
   exact QP h
  unfold oJ at hr;simp only[Py,P7,or_false]at hr;rcases hr with rfl|rfl|rfl|rfl|rfl|rfl|rfl|rfl|rfl|rfl|rfl<;>rfl
 have ly7:↥ys=11:=by
  have:=Sz fr7;rw[Pr]at this;unfold rJ at this;rw[Pq,QW,Qo,show(oJ rk z).length=11 from rfl]at this;lia
 obtain⟨hs,ehs⟩:∃hs,hs=rJ tt (oJ rk z):={_,rfl};rw[<-ehs]at fr7';rfl'
 refine ag λM1 K1=>K1 _ _ ?_;clear K1 M1;rfl'
 refine ag λM1 K1=>{_,rfl,∅,∅,hX (GD a s c H N hs) {R,Zr,Zr,Zr,Zr,Zr,[],_,ys,8,rfl,t7,R0,RM,eR7,by rw[show bC []=[]from rfl,Qd];exact fr7',rfl,⟨λk d h=>by simp at h⟩,B7,(λe he=>by cases he),∅,∅,()} ?_ ?_}
 ·clear fr7 fr7' ly7 eR7 R0 RM hR7 B7 t7 s7;rintro i B Hc hi ⟨R,v6,v7,v8,v9,v10,đ,g,ys,av,rfl,tc,R0,RM,eR,fr,dl,dk,Á,ϝ,a8,aM,yl⟩;have hi3:i<3:=hi;have ei:(0:Int)+(i:Int)=(i:Int):=()
  rw[ei];have RQ:R∉s.Q:=λm=>RM (Sa.qm m);have st24:stI i+ŭ i<=25/\ĝ i<24/\ŭ i<=5/\0<ŭ i:=by
   rcases DQ hi3 with rfl|rfl|rfl<;>decide
  rfl'
  refine ag λN1 J1=>{by show 3<=sizeLine;decide,λL1 hL1=>?_};obtain⟨sa,ea⟩:=Í hL1 (HO.lst [.int 11,.int 15,.int 22]);generalize upd Hc L1 _=Ha at sa ea⊢;refine Ħ (j:=i) (v:=.int (stI i)) (À.of ea) (by rcases DQ hi3 with rfl|rfl|rfl<;>rfl) (J1 _ _ ?_);clear J1 N1;rfl'
  refine ag λN1 J1=>{by show 3<=sizeLine;decide,λL2 hL2=>?_};obtain⟨sb,eb⟩:=Í hL2 (HO.lst [.int 9,.int 10,.int 21]);generalize upd Ha L2 _=Hb at sb eb⊢;have tb:=tc.trans (sa.trans sb);refine Ħ (j:=i) (v:=.int (ĝ i)) (À.of eb) (by rcases DQ hi3 with rfl|rfl|rfl<;>rfl) (ę (j:=ĝ i) (À.of (tb _ _ hN)) (J1 _ _ ?_) st24.2.1);clear J1 N1;rfl'
  refine ag λN1 J1=>{_,rfl,c,_,rfl,(),(),λm1 m10 m11=>{by show 3<=sizeLine;decide,λL3 hL3=>?_}};obtain⟨sd,ed⟩:=Í hL3 (HO.lst [.int 5,.int 5,.int 3]);generalize upd Hb L3 _=Hd at sd ed⊢;refine Ħ (j:=i) (v:=.int (ŭ i)) (À.of ed) (by rcases DQ hi3 with rfl|rfl|rfl<;>rfl) {by show(0:Int)<(ŭ i:Int);lia,?_};obtain⟨n,en⟩:∃n:Nat,m1%(ŭ i:Int)=(n:Int):={(m1%(ŭ i:Int)).toNat,by have:=cb m1 (show(0:Int)<(ŭ i:Int) by lia);lia};have nlt:n<ŭ i:=by have:=cb m1 (show(0:Int)<(ŭ i:Int) by lia);lia
  dsimp only;rw[en];have td:=tb.trans sd;refine{_,rfl,P1 {s.F,_,rfl,À.of (td _ _ hN),λpp ż=>?_}};rw[Iu (by rw[Pr];show stI i+n<=(vj N).length;rw[show(vj N).length=24 by simp[vj]];lia),MJ ()];obtain⟨se,ee⟩:=Í ż (HO.lst (nV N ((SS n).map (stI i+ ·))));generalize upd Hd pp _=He at se ee⊢;have ee:He pp=Zq (.lst (nV N (Ę i n))):=ee;have ppM:pp∉s.M:=(Á.same ((sa.trans sb).trans sd)).a.new ż;have pl:(Ę i n).length=n:=by unfold Ę;rw[Pr,QI]
  generalize hps:Ę i n=ps at ee pl;refine J1 _ _ ?_;clear J1 N1;have sce:=((sa.trans sb).trans sd).trans se;have te:=tc.trans sce;rfl'
  refine ag λN1 J1=>?_;have eRe:=sce _ _ eR;refine{P1 {rfl,_,À.of eRe},by show 3<=sizeLine;decide,λî Ξ=>?_};obtain⟨sf,ef⟩:=Í Ξ (HO.tup [V.str "deed",.str (N (ĝ i)),.ref pp]);generalize upd He î _=Hf at sf ef⊢;have scf:=sce.trans sf;refine{_,_,_,rfl,rfl,sf _ _ eRe,aH (),?_};have Bf:=Á.same scf;have Ag:=Bf.a.put RM (ys:=ys++[V.ref î]) (scf _ _ eR);have sg:aj H (upd Hf R (.lst (ys++[V.ref î]))):=aj.out (tc.trans scf) R0 _;have eRg:upd Hf R (.lst (ys++[V.ref î])) R=Zq (.lst (ys++[V.ref î])):=ao;have mg:Sm (R::s.Q) Hf (upd Hf R (.lst (ys++[V.ref î]))):=Sm.at PH _;have fg:aY N (del (R::s.Q) (upd Hf R (.lst (ys++[V.ref î])))) (hs.map Fr.leaf++bC đ++[.bq (ĝ i) ps]) (ys++[V.ref î]):=by
   refine Paired.two (aY.same (Sm.del ((Sm.new scf).trans mg)) fr) (.cons ?_ .nil);have n1:î∉R::s.Q:=λm=>by
    rcases Py.mp m with z|z
    ·rw[z,eRe]at Ξ;cases Ξ
    exact(Á.same sce).a.new Ξ (Sa.qm z)
   have n2:pp∉R::s.Q:=λm=>by
    rcases Py.mp m with z|z
    ·rw[z,((sa.trans sb).trans sd) _ _ eR]at ż;cases ż
    exact(Á.same ((sa.trans sb).trans sd)).a.new ż (Sa.qm z)
   refine fr1 (p:=pp) (aN n1 (mg _ _ n1 ef)) rfl (aN n2 (mg _ _ n2 (sf _ _ ee)))
  have epg:upd Hf R (.lst (ys++[V.ref î])) pp=Zq (.lst (nV N ps)):=au (Zs ż (((sa.trans sb).trans sd) _ _ eR)) (sf _ _ ee);have Bg:å N (upd Hf R (.lst (ys++[V.ref î]))) s g [] (je đ) [] []:=Á.with Ag;generalize upd Hf R (.lst (ys++[V.ref î]))=Hg at sg eRg fg epg Bg⊢;clear Ag mg Bf;refine J1 _ _ ?_;clear J1 N1;rfl'
  refine ag λN1 J1=>{c,_,rfl,(),(),λm2 m20 m21=>{by show(0:Int)<6;decide,?_}};obtain⟨k6,ek6⟩:∃n:Nat,m2%6=(n:Int):={(m2%6).toNat,by have:=cb m2 (show(0:Int)<6 by decide);lia};have k6l:k6<=5:=by have:=cb m2 (show(0:Int)<6 by decide);lia
  dsimp only;rw[ek6];refine J1 _ _ ?_;clear J1 N1;rfl'
  refine ag λN1 J1=>{a,ns,av,k6,rfl,sg.seq hA,(),(),λCL cs Hh sh fh eh lh=>{N,s.F,pp,ps,rfl,(sg.trans sh) _ _ hN,sh _ _ epg,(),λsc Hi si fi eSc=>?_}};have ϩ:=sh.trans si;have Bi:=(Bg.same ϩ).idle ps;have ki:∀{x:Sv}{o:HO},Hg x=Zr->Hi x=Zq o->del s.M Hi x=Zq o:=λ{x o} h e=>aN (Bg.a.new h) e;have scd:rf N (del s.M Hi) sc ps:=eSc s.M λx hx=>(Bg.same sh).a.in hx;refine{N,s,g,ps,je đ,CL,sc,cs,200,rfl,Bi,ki fh (si _ _ eh),(),scd,ϝ,λR2 zs ts g2 Hj sj hR2 Ń fr2 ok2 dp2 ln2 B2 gd2=>?_};have tj:aj H Hj:=Sm.same sj (sg.trans ϩ) qH;have eRj:Hj R=Zq (.lst (ys++[V.ref î])):=sj _ _ RQ (ϩ _ _ eRg);have lz:=Sz fr2;rw[Pq,Pw]at lz;refine{R,R2,_,_,rfl,rfl,eRj,Ń,sz (by rw[Pq,Pw];lia),λR3 ϟ=>?_};have sk:=aj.upd ϟ (.lst (ys++[V.ref î]++zs));have tk:=tj.trans sk;have fj:aY N (del s.Q Hj) (hs.map Fr.leaf++bC đ++[.bq (ĝ i) ps]++(aA ts++[.fin])) (ys++[V.ref î]++zs):=by
   refine Paired.two (aY.same (λx o h=>?_) fg) fr2;obtain⟨h1,h2⟩:=cC h;have ž:x∉s.Q:=λm=>h1 (PC _ m);exact aN ž (sj _ _ ž (ϩ _ _ h2))
  have fk:=aY.fresh ϟ (o:=.lst (ys++[V.ref î]++zs)) fj;have eRk:upd Hj R3 (.lst (ys++[V.ref î]++zs)) R3=Zq (.lst (ys++[V.ref î]++zs)):=ao;have R3M:R3∉s.M:=B2.a.new ϟ;have R30:H R3=Zr:=aj.free tj ϟ;have Bk:=B2.same sk;generalize upd Hj R3 (.lst (ys++[V.ref î]++zs))=Hk at sk tk fk eRk Bk⊢;have epk:=sk _ _ (sj _ _ (λm=>ppM (Sa.qm m)) (ϩ _ _ epg));refine J1 _ _ ?_;clear J1 N1;rfl'
  refine ag λN1 J1=>?_;obtain⟨dvs,hdk,ddk⟩:=Bk.a.hd;refine Þ Bk.a.hS rfl {P1 {rfl,_,À.of hdk},ϯ epk (Þ Bk.a.hS rfl {by show 3<=sizeLine;decide,λte hte=>?_})};have lpv:(nV N ps).length=n:=by rw[Pr,pl]
  rw[lpv];obtain⟨sl,el⟩:=Í hte (HO.tup [V.str (N (ĝ i)),.int (n:Int),.int (201-g2.room)]);generalize upd Hk te _=Hl at sl el⊢;have dlen:=Sz ddk;have Bl:=Bk.same sl;have gl:g2.dd.length=↥đ:=by
   have:=congrArg UP B2.de;unfold je at this;rw[Pr,Pr]at this;exact this
  refine{_,_,_,rfl,rfl,sl _ _ hdk,aH (),?_};have teM:te∉s.M:=Bk.a.new hte;have Am:=Bl.a.Oh (ds:=dvs++[V.ref te]) (g2.dd++[(ĝ i,n,201-g2.room)]) (Paired.two (xp.same (Sm.del (Sm.new sl)) ddk) (.cons ⟨te,rfl,aN teM el⟩ .nil));have sdQ:s.d∈s.Q:=by simp
  have mm:Sm (R3::s.Q) Hl (upd Hl s.d (.lst (dvs++[V.ref te]))):=Sm.at (PC _ sdQ) _;have tm:aj H (upd Hl s.d (.lst (dvs++[V.ref te]))):=aj.out (tk.trans sl) (qH _ sdQ) _;have dnew:je (đ++[(ĝ i,ps,ts)])=je đ++[(ĝ i,n)]:=by
   unfold je;rw[Qg];simp[pl]
  refine J1 _ _ ?_;clear J1 N1;refine{R3,_,_,_,_,_,đ++[(ĝ i,ps,ts)],{ g2 with dd:=g2.dd++[(ĝ i,n,201-g2.room)] },ys++[V.ref î]++zs,av+k6,rfl,tm,R30,R3M,au (λz=>R3M (z▸Sa.qm sdQ)) (sl _ _ eRk),?_,by rw[Pq,dl];rfl,⟨λk d hd=>?_⟩,{Am,B2.op,B2.tl,B2.tb,?_,trivial,by rw[cS];trivial,PZ _,by rw[cE];exact PZ _},λe he=>?_,(),by push_cast;lia,?_}
  ·rw[show hs.map Fr.leaf++bC (đ++[(ĝ i,ps,ts)])=hs.map Fr.leaf++bC đ++[.bq (ĝ i) ps]++(aA ts++[.fin]) by unfold bC;rw[QJ];simp[Ċ]];exact aY.same (Sm.del ((Sm.new sl).trans mm)) fk
  ·by_cases hk:k<↥đ
   ·rw[Qh hk]at hd;have:=dk.at' k d hd;rw[Rk ()];exact this
   have ek:k=↥đ:=by
    have:=(PQ.mp hd).1;rw[Pq,Pw]at this;lia
   subst ek;rw[Qk (Px _),QN]at hd;cases hd;rw[YF,dl]
   ·exact{rfl,⟨n,nlt,hps.symm⟩,ok2,dp2,by show(aA ts).length<=17;lia}
   rfl
  ·show List.map _ (g2.dd++[(ĝ i,n,201-g2.room)])=_;rw[dnew,Qg,B2.de];rfl
  ·rcases Pz.mp he with m|m
   ·exact ϝ e (gd2▸m)
   rw[Pu.mp m];exact{st24.2.1,by show n<=4;lia}
  rw[Pq,Pq,Pw];lia
 rintro B Hc ⟨R,v6,v7,v8,v9,v10,đ,g,ys,av,rfl,tc,R0,RM,eR,fr,dl,dk,Á,ϝ,a8,aM,yl⟩;have dl:↥đ=3:=dl;have aM:av<=8+5*3:=aM;have yl:↥ys<=11+19*3:=yl;refine K1 _ _ ?_;clear K1 M1;have RQ:R∉s.Q:=λm=>RM (Sa.qm m);rfl'
 refine ag λM1 K1=>{P1 {rfl,_,À.of eR},by show 1<=sizeLine;decide,λî Ξ=>?_};obtain⟨sf,ef⟩:=Í Ξ (HO.tup [V.str "main"]);generalize upd Hc î _=Hf at sf ef⊢;refine{_,_,_,rfl,rfl,sf _ _ eR,aH (),?_};have Ag:=(Á.same sf).a.put RM (ys:=ys++[V.ref î]) (sf _ _ eR);have sg:aj H (upd Hf R (.lst (ys++[V.ref î]))):=aj.out (tc.trans sf) R0 _;have eRg:upd Hf R (.lst (ys++[V.ref î])) R=Zq (.lst (ys++[V.ref î])):=ao;have mg:Sm (R::s.Q) Hf (upd Hf R (.lst (ys++[V.ref î]))):=Sm.at PH _;have fg:aY N (del (R::s.Q) (upd Hf R (.lst (ys++[V.ref î])))) (hs.map Fr.leaf++bC đ++[.main]) (ys++[V.ref î]):=by
  refine Paired.two (aY.same (Sm.del ((Sm.new sf).trans mg)) fr) (.cons ?_ .nil);have n1:î∉R::s.Q:=λm=>by
   rcases Py.mp m with z|z
   ·rw[z,eR]at Ξ;cases Ξ
   exact Á.a.new Ξ (Sa.qm z)
  exact Ĕ (aN n1 (mg _ _ n1 ef)) rfl
 have Bg:å N (upd Hf R (.lst (ys++[V.ref î]))) s g [] (je đ) [] []:=Á.with Ag;generalize upd Hf R (.lst (ys++[V.ref î]))=Hg at sg eRg fg Bg⊢;clear Ag mg;refine K1 _ _ ?_;clear K1 M1;rfl'
 refine ag λM1 K1=>{c,19,rfl,∅,∅,λm2 m20 m21=>{by show(0:Int)<33;decide,?_}};obtain⟨k6,ek6⟩:∃n:Nat,4+m2%33=(n:Int):={(4+m2%33).toNat,by have:=cb m2 (show(0:Int)<33 by decide);lia};have k6l:k6<=36:=by have:=cb m2 (show(0:Int)<33 by decide);lia
 refine{a,ns,av,k6,by rw[<-ek6];rfl,sg.seq hA,(),(),λCL cs Hh sh fh eh lh=>K1 _ _ ?_};clear K1 M1;rfl'
 refine{PZ _,λpp ż=>?_};obtain⟨sp,ep⟩:=Í ż (HO.lst []);generalize upd Hh pp _=Hp' at sp ep⊢;refine{N,s.F,pp,[],rfl,(sg.trans (sh.trans sp)) _ _ hN,ep,∅,λsc Hi si fi eSc=>?_};have ϩ:=(sh.trans sp).trans si;have Bi:=Bg.same ϩ;refine{N,s,g,[],je đ,CL,sc,cs,800,rfl,Bi,aN (Bg.a.new fh) ((sp.trans si) _ _ eh),(),eSc s.M λx hx=>(Bg.same (sh.trans sp)).a.in hx,ϝ,λR2 zs ts g2 Hj sj hR2 Ń fr2 ok2 dp2 ln2 B2 gd2=>?_};have tj:aj H Hj:=Sm.same sj (sg.trans ϩ) qH;have eRj:Hj R=Zq (.lst (ys++[V.ref î])):=sj _ _ RQ (ϩ _ _ eRg);have lz:=Sz fr2;rw[Pq,Pw]at lz;refine{R,R2,_,_,rfl,rfl,eRj,Ń,sz (by rw[Pq,Pw];lia),λR3 ϟ=>?_};have sk:=aj.upd ϟ (.lst (ys++[V.ref î]++zs));refine q R3 _ hs đ ts _ (tj.trans sk) (aj.free tj ϟ) ao ?_ {⟨rk,z,tt,ehs,hrk,z1,z4,t11⟩,dl,dk,ok2,dp2,()};unfold Ć;rw[show hs.map Fr.leaf++bC đ++ .main::(aA ts++[.fin])=hs.map Fr.leaf++bC đ++[.main]++(aA ts++[.fin]) by simp];refine Paired.two (aY.same (λx o h=>?_) fg) (aY.same (λx o h=>sk _ _ (cC h).2) fr2);obtain⟨h1,h2⟩:=cC h;exact sk _ _ (sj _ _ (λm=>h1 (PC _ m)) (ϩ _ _ h2))
def č(X H H':Hp):Hp:=λb=>if((X b).isSome||(H b).isNone)=true then H' b else Zr
theorem sJ(h:č X H H' b=Zq o):((X b).isSome||(H b).isNone)=true/\H' b=Zq o:=by
 unfold č at h;split at h
 ·next c=>exact⟨c,h⟩
 cases h
theorem zq(c:((X b).isSome||(H b).isNone)=true)(h:H' b=Zq o):č X H H' b=Zq o:=by
 unfold č;rw[if_pos c];exact h
theorem yo:aj (č X H H') H':=λb o h=>(sJ h).2
theorem f9(s:aj H' H''):aj (č X H H') (č X H H''):=λb o h=>zq (sJ h).1 (s _ _ (sJ h).2)
theorem pN(d:∀b,H1 b=Zr->H b=Zr):aj (č X H1 H') (č X H H'):=λb o h=>by
 obtain⟨c,e⟩:=sJ h;refine zq ?_ e;rcases Bool.or_eq_true_iff.mp c with c|c
 ·rw[c];rfl
 rw[d b (RB.mp c)];simp
theorem kF(s:aj X H'):aj X (č X H H'):=λb o h=>zq (by rw[h];rfl) (s _ _ h)
theorem dh(n:H b=Zr)(h:H' b=Zq o):č X H H' b=Zq o:=zq (by rw[n];simp) h
theorem oQ(n:X D=Zr)(e:H D≠Zr):aj (č X H H') (č X H (upd H' D o)):=λb u h=>by
 obtain⟨c,z⟩:=sJ h;refine zq c (au (λy=>?_) z);rw[y,n]at c;rcases Bool.or_eq_true_iff.mp c with c|c
 ·cases c
 exact e (RB.mp c)
theorem ZF(s:aj H H'):∀b,H' b=Zr->H b=Zr:=λb h=>aj.free s h
def υ(j:Nat):Str:=(["","hand","given","own","let","set","put","send","say","call","last"]:List Str).getD j ""
theorem CJ(r:Lr):r.wd=υ r.ci:=by cases r<;>rfl
theorem Bt(r:Lr):1<=r.ci/\r.ci<=10:=by cases r<;>exact⟨Nat.le_of_ble_eq_true rfl,Nat.le_of_ble_eq_true rfl⟩
theorem Jk:∀i:Fin 11,∀j:Fin 11,υ i.val=υ j.val->i.val=j.val:=by decide+kernel
theorem pU{r:Lr}{j:Nat}(z:decide (V.str r.wd=V.str (υ j))=true)(hj:j<11:=by decide):r.ci=j:=by
 have h:=V.str.inj (of_decide_eq_true z);rw[CJ]at h;have:=Bt r;exact Jk {r.ci,()} ⟨j,hj⟩ h
theorem pD{r:Lr}{j:Nat}(z:¬ decide (V.str r.wd=V.str (υ j))=true):r.ci≠j:=λe=>z (decide_eq_true (by rw[CJ,e]))
theorem ri1{r:Lr}(h:r.ci=1):∃a b,r=.hand a b:=by cases r<;>first|(cases h;done)|exact{_,_,rfl}
theorem ri2{r:Lr}(h:r.ci=2):∃a b c,r=.ŏ a b c:=by cases r<;>first|(cases h;done)|exact{_,_,_,rfl}
theorem ri3{r:Lr}(h:r.ci=3):∃a b,r=.own a b:=by cases r<;>first|(cases h;done)|exact{_,_,rfl}
theorem ri4{r:Lr}(h:r.ci=4):∃a b,r=.lt a b:=by cases r<;>first|(cases h;done)|exact{_,_,rfl}
theorem ri5{r:Lr}(h:r.ci=5):∃a b,r=.set a b:=by cases r<;>first|(cases h;done)|exact{_,_,rfl}
theorem ri6{r:Lr}(h:r.ci=6):∃a b c,r=.put a b c:=by cases r<;>first|(cases h;done)|exact{_,_,_,rfl}
theorem ri7{r:Lr}(h:r.ci=7):∃a b,r=.snd a b:=by cases r<;>first|(cases h;done)|exact{_,_,rfl}
theorem ri8{r:Lr}(h:r.ci=8):∃a b c,r=.say a b c:=by cases r<;>first|(cases h;done)|exact{_,_,_,rfl}
theorem ri9{r:Lr}(h:r.ci=9):∃a b,r=.call a b:=by cases r<;>first|(cases h;done)|exact{_,_,rfl}
inductive yJ(A:Ö)(vs:List V)(H:Hp)(Q:VK)(Ä:XK):Prop
 |mk (N X v n r) (z0:vs=[v,.int n]) (z1:aj X H) (z2:lI N X v (.leaf r))
  (z3:∀(a H'),aj H H'->H a=Zr->bf A N (č X H H') (.ref a) (.leaf n r)->Q (.ref a) H'):yJ A vs H Q Ä
theorem AS(T:Txt K mg A)(hx:H x=Zr)(hd:H dx=Zr)(q:∀H',aj H H'->H' x=Zq (.ins A.dJ dx [("number",v0)])->R .Ê H'):gk K A (.ref x::([v0]++[])) (upd (upd H dx (.own x)) x (.ins A.dJ dx [])) R E0:=
 {x,A.dJ,dx,[],_,rfl,ao,T.ib.cl,T.fW,∅,q _ (aj.out (aj.out (aj.upd hd _) hx _) hx _) ao}
theorem Ce(T:Txt K mg A):T.ku.Hz P w base 5 (yJ A):=by
 have kA:=nY (P:=P) (w:=w) (mg:=mg) (base:=base) (A:=A) T.nB;refine T.ku.hs (k:=4) rG (λf Ã A' outer s H vs Q E hr hu h=>?_);obtain⟨N,X,v,n,r,rfl,s0,⟨a,p,rfl,h1,h2⟩,q⟩:=h;have hT:=Ç.of (K:=K) (s0 _ _ h1);refine⟨_,(ab (aS (Ë (bU hu) (px hu (fv 0) af) aw)
   (ai (aD (cK T.j6 (uI T) hr (fv 1^px hu (fv 0) af^px hu (fv 0) af^ae))))
   aF)
  (ab (aS (Ë (bU hu) (px hu (fv 0) af) aw)
   (ai (aD (cK T.cQ (rB T) hr (fv 1^px hu (fv 0) af^px hu (fv 0) af^px hu (fv 0) af^ae))))
   aF)
  (ab (aS (Ë (bU hu) (px hu (fv 0) af) aw)
   (ai (aD (cK T.iX (uQ T) hr (fv 1^px hu (fv 0) af^px hu (fv 0) af^ae))))
   aF)
  (ab (aS (Ë (bU hu) (px hu (fv 0) af) aw)
   (ai (aD (cK T.dX (ve T) hr (fv 1^px hu (fv 0) af^px hu (fv 0) af^ae))))
   aF)
  (ab (aS (Ë (bU hu) (px hu (fv 0) af) aw)
   (ai (aD (cK T.fo (uW T) hr (fv 1^px hu (fv 0) af^px hu (fv 0) af^ae))))
   aF)
  (ab (aS (Ë (bU hu) (px hu (fv 0) af) aw)
   (ai (aD (cK T.dZ (vg T) hr (fv 1^px hu (fv 0) af^px hu (fv 0) af^px hu (fv 0) af^ae))))
   aF)
  (ab (aS (Ë (bU hu) (px hu (fv 0) af) aw)
   (ai (aD (cK T.dz (uE T) hr (fv 1^px hu (fv 0) af^px hu (fv 0) af^ae))))
   aF)
  (ab (aS (Ë (bU hu) (px hu (fv 0) af) aw)
   (ai (aD (cK T.cz (uU T) hr (fv 1^px hu (fv 0) af^px hu (fv 0) af^px hu (fv 0) af^ae))))
   aF)
  (ab (aS (Ë (bU hu) (px hu (fv 0) af) aw)
   (ai (aD (cK T.cG (uO T) hr (fv 1^px hu (fv 0) af^Ľ rV T.dG (px hu (fv 0) af^ae)^ae))))
   aF)
  (ai (aD (cK T.ib kA hr (fv 1^ae))))))))))))),?_⟩
 refine ag λM1 K1=>É (j:=0) hT rfl {rfl,_,rfl,aV (λz=>?_) (λz1=>K1 _ _ ?_)}
 ·have ec:=pU (j:=1) z;obtain⟨i,r,rfl⟩:=ri1 ec;refine É (j:=1) hT rfl (É (j:=2) hT rfl (λr6 Ĉ Ú hd_ hne_=>{_,_,_,_,_,_,rfl,rfl,Ú,hd_,λH6 s6 hx=>{rfl,q r6 H6 s6 Ú ?_}}));unfold bf;exact{r6,Ĉ,p,rfl,dh Ú hx,λo ho=>kF (s0.trans s6) _ _ (h2 o ho)}
 clear K1 M1;refine ag λM1 K1=>É (j:=0) hT rfl {rfl,_,rfl,aV (λz=>?_) (λz2=>K1 _ _ ?_)}
 ·have ec:=pU (j:=2) z;obtain⟨i,r,z,rfl⟩:=ri2 ec;refine É (j:=1) hT rfl (É (j:=2) hT rfl (É (j:=3) hT rfl (λr6 Ĉ Ú hd_ hne_=>{_,_,_,_,_,_,_,rfl,rfl,Ú,hd_,λH6 s6 hx=>{rfl,q r6 H6 s6 Ú ?_}})));unfold bf;exact{r6,Ĉ,p,rfl,dh Ú hx,λo ho=>kF (s0.trans s6) _ _ (h2 o ho)}
 clear K1 M1;refine ag λM1 K1=>É (j:=0) hT rfl {rfl,_,rfl,aV (λz=>?_) (λz3=>K1 _ _ ?_)}
 ·have ec:=pU (j:=3) z;obtain⟨i,z,rfl⟩:=ri3 ec;refine É (j:=1) hT rfl (É (j:=2) hT rfl (λr6 Ĉ Ú hd_ hne_=>{_,_,_,_,_,_,rfl,rfl,Ú,hd_,λH6 s6 hx=>{rfl,q r6 H6 s6 Ú ?_}}));unfold bf;exact{r6,Ĉ,p,rfl,dh Ú hx,λo ho=>kF (s0.trans s6) _ _ (h2 o ho)}
 clear K1 M1;refine ag λM1 K1=>É (j:=0) hT rfl {rfl,_,rfl,aV (λz=>?_) (λz4=>K1 _ _ ?_)}
 ·have ec:=pU (j:=4) z;obtain⟨i,r,rfl⟩:=ri4 ec;refine É (j:=1) hT rfl (É (j:=2) hT rfl (λr6 Ĉ Ú hd_ hne_=>{_,_,_,_,_,_,rfl,rfl,Ú,hd_,λH6 s6 hx=>{rfl,q r6 H6 s6 Ú ?_}}));unfold bf;exact{r6,Ĉ,p,rfl,dh Ú hx,λo ho=>kF (s0.trans s6) _ _ (h2 o ho)}
 clear K1 M1;refine ag λM1 K1=>É (j:=0) hT rfl {rfl,_,rfl,aV (λz=>?_) (λz5=>K1 _ _ ?_)}
 ·have ec:=pU (j:=5) z;obtain⟨x,v,rfl⟩:=ri5 ec;refine É (j:=1) hT rfl (É (j:=2) hT rfl (λr6 Ĉ Ú hd_ hne_=>{_,_,_,_,_,_,rfl,rfl,Ú,hd_,λH6 s6 hx=>{rfl,q r6 H6 s6 Ú ?_}}));unfold bf;exact{r6,Ĉ,p,rfl,dh Ú hx,λo ho=>kF (s0.trans s6) _ _ (h2 o ho)}
 clear K1 M1;refine ag λM1 K1=>É (j:=0) hT rfl {rfl,_,rfl,aV (λz=>?_) (λz6=>K1 _ _ ?_)}
 ·have ec:=pU (j:=6) z;obtain⟨x,t,v,rfl⟩:=ri6 ec;refine É (j:=1) hT rfl (É (j:=2) hT rfl (É (j:=3) hT rfl (λr6 Ĉ Ú hd_ hne_=>{_,_,_,_,_,_,_,rfl,rfl,Ú,hd_,λH6 s6 hx=>{rfl,q r6 H6 s6 Ú ?_}})));unfold bf;exact{r6,Ĉ,p,rfl,dh Ú hx,λo ho=>kF (s0.trans s6) _ _ (h2 o ho)}
 clear K1 M1;refine ag λM1 K1=>É (j:=0) hT rfl {rfl,_,rfl,aV (λz=>?_) (λz7=>K1 _ _ ?_)}
 ·have ec:=pU (j:=7) z;obtain⟨h,v,rfl⟩:=ri7 ec;refine É (j:=1) hT rfl (É (j:=2) hT rfl (λr6 Ĉ Ú hd_ hne_=>{_,_,_,_,_,_,rfl,rfl,Ú,hd_,λH6 s6 hx=>{rfl,q r6 H6 s6 Ú ?_}}));unfold bf;exact{r6,Ĉ,p,rfl,dh Ú hx,λo ho=>kF (s0.trans s6) _ _ (h2 o ho)}
 clear K1 M1;refine ag λM1 K1=>É (j:=0) hT rfl {rfl,_,rfl,aV (λz=>?_) (λz8=>K1 _ _ ?_)}
 ·have ec:=pU (j:=8) z;obtain⟨x,v,m,rfl⟩:=ri8 ec;refine É (j:=1) hT rfl (É (j:=2) hT rfl (É (j:=3) hT rfl (λr6 Ĉ Ú hd_ hne_=>{_,_,_,_,_,_,_,rfl,rfl,Ú,hd_,λH6 s6 hx=>{rfl,q r6 H6 s6 Ú ?_}})));unfold bf;exact{r6,Ĉ,p,rfl,dh Ú hx,λo ho=>kF (s0.trans s6) _ _ (h2 o ho)}
 clear K1 M1;refine ag λM1 K1=>É (j:=0) hT rfl {rfl,_,rfl,aV (λz=>?_) (λz9=>K1 _ _ ?_)}
 ·have ec:=pU (j:=9) z;obtain⟨i,ts,rfl⟩:=ri9 ec;have hp:=h2 _ rfl;refine É (j:=1) hT rfl (É (j:=2) hT rfl (P1 {p,_,rfl,P1 (À.of (s0 _ _ hp)),λl hl=>?_}));obtain⟨s1,e1⟩:=Í hl (HO.lst (ts.map (Th.v N)));generalize upd H l _=H1 at s1 e1⊢;refine λr6 Ĉ Ú hd_ hne_=>{_,_,_,_,_,_,_,rfl,rfl,Ú,hd_,À.of e1,λn6 H6 f6 s6 h6 hx=>{rfl,q r6 H6 (s1.trans s6) (aj.free s1 Ú) ?_}};unfold bf;exact{r6,Ĉ,n6,rfl,dh (aj.free s1 Ú) hx,λo ho=>by cases ho;exact dh (aj.free s1 f6) h6}
 clear K1 M1;have c:=Bt r;have e10:r.ci=10:=by
  have:=pD (j:=1) z1;have:=pD (j:=2) z2;have:=pD (j:=3) z3;have:=pD (j:=4) z4;have:=pD (j:=5) z5;have:=pD (j:=6) z6;have:=pD (j:=7) z7;have:=pD (j:=8) z8;have:=pD (j:=9) z9;lia
 cases r with
 |last=>
  refine λr6 Ĉ Ú hd_ hne_=>AS T Ú hd_ λH6 s6 hx=>{rfl,q r6 H6 s6 Ú ?_};unfold bf;exact{r6,Ĉ,p,rfl,dh Ú hx,λo ho=>by cases ho}
 |_=>cases e10
mutual
noncomputable def ç(n:Int):Tr->Pt
 | .leaf r=>.leaf n r
 | .iff v l r f o=>.iff n v l r (bp (n+1) f) (bp (n+2+((aA f).length:Nat)) o)
 | .loop t m l r b=>.loop n t m l r (bp (n+1) b)
noncomputable def bp(n:Int):List Tr->List Pt
 | []=>[]
 |t::ts=>ç n t::bp (n+((Ò t).length:Nat)) ts
end
theorem zA:∀a n b,bp n (a++b)=bp n a++bp (n+((aA a).length:Nat)) b
 | [],n,b=>by
  rw[Qi,bp,aA,Qi];congr 1;simp
 |t::a,n,b=>by
  rw[Qr,bp,bp,zA a,aA,Pq,Qr];congr 3;push_cast
  lia
theorem Gg (n t):bp n [t]=[ç n t]:=by rw[bp,bp]
theorem zg:∀a n,(bp n a).length=↥a
 | [],n=>by rw[bp];rfl
 |t::a,n=>by rw[bp,PD,PD,zg a]
def hdF:Tr->Fr
 | .leaf r=>.leaf r
 | .iff v l r _ _=>.iff v l r
 | .loop t m l r _=>.loop t m l r
theorem El (t):∃tl,Ò t=hdF t::tl:=by
 cases t with
 |leaf r=>exact{[],by rw[Ò];rfl}
 |iff v l r f o=>exact{_,by rw[Ò];rfl}
 |loop t m l r b=>exact{_,by rw[Ò];rfl}
theorem Co:∀a,↥a<=(aA a).length
 | []=>PZ _
 |t::a=>by
  obtain⟨tl,e⟩:=El t;have:=Co a;rw[aA,e,Pq,PD,PD];lia
theorem aJ.snoc:∀{ts:List Pt}{vs:List V}{x:V}{t:Pt},aJ A N X vs ts->bf A N X x t->aJ A N X (vs++[x]) (ts++[t])
 | [],vs,x,t,h,h'=>by
  unfold aJ at h;subst h;exact aJ.one h'
 |u::ts,vs,x,t,h,h'=>by
  unfold aJ at h;obtain⟨y,ys,rfl,h1,h2⟩:=h;exact aJ.cons h1 (aJ.snoc h2 h')
theorem i4(h:aY N X fs xs)(e:fs=a++f::b):∃v,ĭ xs (↥a:Int)=Zq v/\lI N X v f:=by
 obtain⟨v,hv,fv⟩:=ja (i:=↥a) (a:=f) h (by rw[e,Qk (Px _),QN];rfl);exact⟨v,hJ hv,fv⟩
def ze(f:Fr):Bool:=match f with
 | .Ă=>true
 | .fin=>true
 |_=>false
theorem rP (f):ý (V.str f.wd) [V.str "else",V.str "end"]=ze f:=by
 cases f with
 |leaf r=>cases r<;>rfl
 |_=>rfl
theorem Jp(s:Sm [F] H H')(hF:H' F≠Zr):∀b,H' b=Zr->H b=Zr:=λb h=>by
 cases e:H b with
 |none=>rfl
 |some o=>
  by_cases z:b=F
  ·rw[z]at h;exact absurd h hF
  rw[s b o (λm=>z (Pu.mp m)) e]at h;cases h
theorem HQ:∀i:Fin 11,υ i.val≠"if"/\υ i.val≠"loop":=by decide+kernel
theorem lT(r:Lr):¬ decide (V.str r.wd=V.str "if")=true/\¬ decide (V.str r.wd=V.str "loop")=true:=by
 have:=Bt r;have h:=HQ {r.ci,()};rw[CJ];exact{λz=>h.1 (V.str.inj (of_decide_eq_true z)),λz=>h.2 (V.str.inj (of_decide_eq_true z))}
inductive rY(A:Ö)(d:Nat)(vs:List V)(H:Hp)(Q:VK)(Ä:XK):Prop
 |mk (N X L xs fs pre post ts st) (z0:vs=[.ref L,.int (↥pre:Nat)]) (z1:aj X H) (z2:X L=Zq (.lst xs)) (z3:aY N X fs xs) (z4:fs=pre++aA ts++st::post) (z5:ze st=true) (z6:cE ts<=d) (z7:↥xs<=300)
  (z8:∀(p R ys H'),aj H H'->H' p=Zq (.tup [.ref R,.int ((↥pre+(aA ts).length:Nat):Int)])->H' R=Zq (.lst ys)->aJ A N (č X H H') ys (bp ((↥pre:Nat)+1) ts)->Q (.ref p) H'):rY A d vs H Q Ä
inductive GC(ts:List Tr)(L:Sv)(pre:List Fr)(F:Sv)(H1:Hp)(A:Ö)(N:Nat->Str)(X:Hp)(m:Nat)(B:St)(Hc:Hp):Prop
 |mk (dn rest ys v3 v4 v5 v6 v7):ts=dn++rest->↥rest=m->B=[Zq (.ref L),Zq (.int ((↥pre+(aA dn).length:Nat):Int)),Zq (.ref F),v3,v4,v5,v6,v7]->Sm [F] H1 Hc->Hc F=Zq (.lst ys)->aJ A N (č X H1 Hc) ys (bp ((↥pre:Nat)+1) dn)->GC ts L pre F H1 A N X m B Hc
inductive G3(m:Nat)(ts:List Tr)(L:Sv)(pre:List Fr)(F:Sv)(H1:Hp)(A:Ö)(N:Nat->Str)(X:Hp)(B:St)(Hc:Hp):Prop
 |mk (dn rest ys v3 v4 v5 v6 v7 m'):m'<m->ts=dn++rest->↥rest=m'->B=[Zq (.ref L),Zq (.int ((↥pre+(aA dn).length:Nat):Int)),Zq (.ref F),v3,v4,v5,v6,v7]->Sm [F] H1 Hc->Hc F=Zq (.lst ys)->aJ A N (č X H1 Hc) ys (bp ((↥pre:Nat)+1) dn)->G3 m ts L pre F H1 A N X B Hc
theorem Di(T:Txt K mg A) (d j) (hj:5<=j) (gY:T.dA.Hz P w base j (spN (rY A) d)):T.dA.Hz P w base (j+1) (rY A d):=by
 refine T.dA.hs (k:=j) aW (λf Ã A' outer s H vs Q E hr hu h=>?_);obtain⟨N,X,L,xs,fs,pre,post,ts,st,rfl,s0,hL,fr,ć,hst,dp,lx,q⟩:=h;have lfs:↥fs<=300:=by rw[Sz fr];exact lx
 refine⟨_,(ab (Æ 2 aW.nd (aQ ae))
  (ab (fC SH (Ë (dP hu) (px hu (px hu (fv 0) (fv 1)) af) (aT (aw^aw^ae)) ((by with_unfolding_all rfl)))
   (ab (Æ 3 aW.nd (px hu (fv 0) (fv 1)))
   (ab (Æ 4 aW.nd (az aO (fv 1) af))
   (ab (aS (Ë (bU hu) (px hu (fv 3) af) aw)
    (ab (bX (ak (hj:=by lia) gY hr (fv 0^az aO (fv 1) af^ae)) (dg rfl (aK (Ð (i:=5) aW.nd rfl) (aK (Ð (i:=1) aW.nd rfl) cu))))
    (ab (bX (ak (hj:=by lia) gY hr (fv 0^az aO (fv 1) af^ae)) (dg rfl (aK (Ð (i:=6) aW.nd rfl) (aK (Ð (i:=1) aW.nd rfl) cu))))
    (ai (aR (br (fv 2) ((cK (hj:=by lia) T.cv (w8 T) hr (fv 4^px hu (fv 3) af^fv 5^fv 6^px hu (fv 3) af^px hu (fv 3) af^ae))^ae))))))
    (ai (aS (Ë (bU hu) (px hu (fv 3) af) aw)
     (ab (bX (ak (hj:=by lia) gY hr (fv 0^az aO (fv 1) af^ae)) (dg rfl (aK (Ð (i:=7) aW.nd rfl) (aK (Ð (i:=1) aW.nd rfl) cu))))
     (ai (aR (br (fv 2) ((cK (hj:=by lia) T.bB (tJ T) hr (fv 4^px hu (fv 3) af^px hu (fv 3) af^fv 7^px hu (fv 3) af^px hu (fv 3) af^ae))^ae)))))
     (ai (aR (br (fv 2) ((ak (hj:=by lia) (Ce T) hr (fv 3^fv 4^ae))^ae)))))))
   (ai (Æ 1 aW.nd (az aO (fv 1) af)))))))
  (ai (aD (aT (fv 2^fv 1^ae)))))),?_⟩
 refine ag λM1 K1=>{PZ _,λF hF=>?_};obtain⟨s1,e1⟩:=Í hF (HO.lst []);generalize upd H F _=H1 at s1 e1⊢;have XF:X F=Zr:=aj.free s0 hF;have H1F:H1 F≠Zr:=by rw[e1];simp
 have FL:L≠F:=λz=>by rw[z,XF]at hL;cases hL
 refine K1 _ _ ?_;clear K1 M1;rfl'
 refine ag λM1 K1=>{GC ts L pre F H1 A N X,{↥ts,[],ts,[],Zr,Zr,Zr,Zr,Zr,rfl,rfl,rfl,Sm.refl _ _,e1,by rw[bp];exact aJ.nil},?_};rintro m B Hc ⟨dn,rest,ys,v3,v4,v5,v6,v7,ĩ,em,rfl,sc,Ĩ,pt⟩;have sX:aj X Hc:=sc.same (s0.trans s1) (λm hm=>by rw[Pu.mp hm];exact XF);have sH:aj H Hc:=sc.same s1 (λm hm=>by rw[Pu.mp hm];exact hF);have Ĺ:=À.of (K:=K) (sX _ _ hL);have nb:=Jp sc (by rw[Ĩ];simp);cases rest with
 |nil=>
  rw[Qd]at ĩ;subst ĩ;obtain⟨v,av,⟨a,p,rfl,ha,_⟩⟩:=i4 fr (a:=pre++aA ts) (f:=st) (b:=post) ć;rw[Pq]at av;refine ï Ĺ av (É (j:=0) (Ç.of (sX _ _ ha)) rfl {by show 2<=sizeLine;decide,λtp á=>?_});have Å:=aj.upd á (.tup [V.str "else",.str "end"]);refine P1 {_,QQ (Ç.of ao),rfl,rfl,_,rfl,aV (λz=>absurd z (by show ¬ (!ý (V.str st.wd) [V.str "else",V.str "end"])=true;rw[rP,hst];decide)) (λ_=>K1 _ _ {by show 2<=sizeLine;decide,λp hp=>?_})};have s5:=aj.upd hp (.tup [V.ref F,.int ((↥pre+(aA ts).length:Nat):Int)]);exact q p F ys _ (sH.trans (Å.trans s5)) ao ((Å.trans s5) _ _ Ĩ) (aJ.same (pN (ZF s1)) _ _ (aJ.same (f9 (Å.trans s5)) _ _ pt))
 |cons t rest=>
 clear K1;obtain⟨tl,et⟩:=El t;have ν:fs=(pre++aA dn)++hdF t::(tl++aA rest++st::post):=by
  rw[ć,ĩ,dM,aA,et];simp
 obtain⟨v,av,ι⟩:=i4 fr ν;rw[Pq]at av;have fv0:=ι;obtain⟨a,p,rfl,ha,Υ⟩:=ι;have ϗ:ze (hdF t)=false:=by cases t<;>rfl
 refine ï Ĺ av (É (j:=0) (Ç.of (sX _ _ ha)) rfl {by show 2<=sizeLine;decide,λtp á=>?_});obtain⟨s2,e2⟩:=Í á (HO.tup [V.str "else",.str "end"]);generalize upd Hc tp _=H2 at s2 e2⊢;refine P1 {_,QQ (Ç.of e2),rfl,rfl,_,rfl,aV (λ_=>?_) (λz=>absurd (by show(!ý (V.str (hdF t).wd) [V.str "else",V.str "end"])=true;rw[rP,ϗ];rfl) z)};refine{G3 m ts L pre F H1 A N X,λB Hc ⟨dn,rest,ys,v3,v4,v5,v6,v7,m',ŗ,h1,h2,h3,h4,h5,h6⟩=>⟨m',ŗ,dn,rest,ys,v3,v4,v5,v6,v7,h1,h2,h3,h4,h5,h6⟩,?_};have ū:=sX.trans s2;have dlen:=Co dn;have lf:↥pre+(aA dn).length+1<=↥fs:=by
  have:=congrArg UP ν;simp only[Pq,PD]at this;lia
 have ly:↥ys=↥dn:=by rw[pt.len,zg]
 have dpt:ă t<=d:=by
  rw[ĩ,lZ,cE]at dp;lia
 rfl'
 refine ag λN1 J1=>ï (s2.seq Ĺ) av (J1 _ _ ?_);clear J1 N1;rfl'
 refine ag λN1 J1=>J1 _ _ ?_;clear J1 N1;rfl'
 refine ag λN1 J1=>?_;have hF2:=s2 _ _ Ĩ;have fin:∀(x:V)(H4:Hp)(u5 u6 u7:Option V)(at':Int),aj H2 H4->bf A N (č X H2 H4) x (ç (((↥pre+(aA dn).length:Nat):Int)+1) t)->at'+1=((↥pre+(aA dn).length+(Ò t).length:Nat):Int)->
   N1 [Zq (.ref L),Zq (.int at'),Zq (.ref F),Zq (.ref a),Zq (.int (((↥pre+(aA dn).length:Nat):Int)+1)),u5,u6,u7] (upd H4 F (.lst (ys++[x]))):=by
  intro x H4 u5 u6 u7 at' s4 pa ea
  refine J1 _ _ ?_
  have s5:Sm [F] H4 (upd H4 F (.lst (ys++[x]))):=Sm.at (Pu.mpr rfl) _
  have em':↥rest+1=m:=em
  refine{dn++[t],rest,ys++[x],Zq (.ref a),Zq (.int (((↥pre+(aA dn).length:Nat):Int)+1)),u5,u6,u7,↥rest,(),by rw[ĩ];simp,rfl,?_,(sc.trans (Sm.new (s2.trans s4))).trans s5,ao,?_}
  ·show[_,Zq (V.int (at'+1)),_,_,_,_,_,_]=_;rw[ea,dM,pO,Pq,RJ]
  rw[zA,Gg,show((↥pre:Nat):Int)+1+((aA dn).length:Nat)=((↥pre+(aA dn).length:Nat):Int)+1 by push_cast;lia]
  refine aJ.snoc (aJ.same (oQ XF H1F) _ _ (aJ.same (f9 (s2.trans s4)) _ _ pt)) (bf.same (oQ XF H1F) _ _ (bf.same (pN λb h=>nb b (aj.free s2 h)) _ _ pa))
 clear J1;have ħ:=Ç.of (K:=K) (ū _ _ ha);have szy:∀{n:Nat},n=↥ys->n<sizeLine:=λe=>aH ();cases t with
 |leaf r=>
  refine É (j:=0) ħ rfl {rfl,_,rfl,aV (λz=>absurd z (lT r).1) (λ_=>É (j:=0) ħ rfl {rfl,_,rfl,aV (λz=>absurd z (lT r).2) (λ_=>{P1 {rfl,_,À.of hF2},N,X,_,_,r,rfl,ū,fv0,λb H4 s4 hb pb=>{_,_,_,rfl,rfl,s4 _ _ hF2,szy rfl,fin _ H4 _ _ _ _ s4 (by rw[ç];exact pb) (by rw[Ò];push_cast;rfl)}})})}
 |iff vv l r ff oo=>
  have hp:=Υ _ rfl;rw[ă]at dpt;cases d with
  |zero=>lia
  |succ d=>
  refine É (j:=0) ħ rfl {rfl,_,rfl,aV (λ_=>?_) (λz=>absurd (show decide (V.str "if"=V.str "if")=true from decide_eq_true rfl) z)};have Ī:fs=(pre++aA dn++[.iff vv l r])++aA ff++ .Ă::(aA oo++ .fin::(aA rest++st::post)):=by
   rw[ć,ĩ,dM,aA,Ò];simp
  have e2':fs=(pre++aA dn++[.iff vv l r]++aA ff++[.Ă])++aA oo++ .fin::(aA rest++st::post):=by
   rw[Ī];simp
  have l1:(pre++aA dn++[Fr.iff vv l r]).length=↥pre+(aA dn).length+1:=by simp only[Pq,Pw]
  have l2:(pre++aA dn++[Fr.iff vv l r]++aA ff++[Fr.Ă]).length=↥pre+(aA dn).length+1+(aA ff).length+1:=by simp only[Pq,Pw]
  refine ag λN2 J2=>{N,X,L,xs,fs,_,_,ff,.Ă,by rw[l1];push_cast;rfl,ū,hL,fr,Ī,rfl,(),lx,λp1 R1 y1 H3 s3 ł ſ ϕ=>{p1,_,rfl,Ç.of ł,rfl,_,_,rfl,_,_,rfl,rfl,J2 _ _ ?_}};clear J2 N2;have Ŷ:=ū.trans s3;rfl'
  refine ag λN2 J2=>{N,X,L,xs,fs,_,_,oo,.fin,by rw[l1,l2];push_cast;rfl,Ŷ,hL,fr,e2',rfl,(),lx,λp2 R2 y2 H4 s4 ep2 Ń pt2=>{p2,_,rfl,Ç.of ep2,rfl,_,_,rfl,_,_,rfl,rfl,J2 _ _ ?_}};clear J2 N2;have Ė:=s3.trans s4;have ϳ:=Ė.tup ħ;rfl'
  refine{P1 {rfl,_,À.of (Ė _ _ hF2)},É (j:=1) ϳ rfl (É (j:=2) ϳ rfl (É (j:=3) ϳ rfl (λr6 Ĉ Ú hd_ hne_=>{_,_,_,_,_,_,_,_,_,_,_,rfl,rfl,Ú,hd_,À.of (s4 _ _ ſ),À.of Ń,λn6 n7 H6 f6 f7 s6 h6 h7 hx=>{rfl,?_}})))};have Δ:=Ė.trans s6;refine{_,_,_,rfl,rfl,Δ _ _ hF2,szy rfl,fin _ H6 _ _ _ _ Δ ?_ ?_}
  ·rw[ç];unfold bf;rw[l1]at ϕ;rw[l2]at pt2;refine{r6,Ĉ,p,n6,n7,y1,y2,rfl,dh (aj.free Ė Ú) hx,kF (ū.trans Δ) _ _ hp,dh (aj.free Ė f6) h6,dh (aj.free Ė f7) h7,?_,?_}
   ·have:=aJ.same (f9 (s4.trans s6)) _ _ ϕ;push_cast at this⊢
    exact this
   have:=aJ.same (pN (ZF s3)) _ _ (aJ.same (f9 s6) _ _ pt2);push_cast at this⊢
   rw[show(↑↥pre+ ↑(aA dn).length+1+2+ ↑(aA ff).length:Int)=↑↥pre+ ↑(aA dn).length+1+ ↑(aA ff).length+1+1 by lia];exact this
  rw[l2,Ò];simp only[PD,Pq,Qw];push_cast
  lia
 |loop th mm l r bb=>
  rw[ă]at dpt;cases d with
  |zero=>lia
  |succ d=>
  refine É (j:=0) ħ rfl {rfl,_,rfl,aV (λz=>absurd z (show ¬ decide (V.str "loop"=V.str "if")=true by decide)) (λ_=>É (j:=0) ħ rfl {rfl,_,rfl,aV (λ_=>?_) (λz=>absurd (show decide (V.str "loop"=V.str "loop")=true from decide_eq_true rfl) z)})};have Ī:fs=(pre++aA dn++[.loop th mm l r])++aA bb++ .fin::(aA rest++st::post):=by
   rw[ć,ĩ,dM,aA,Ò];simp
  have l1:(pre++aA dn++[Fr.loop th mm l r]).length=↥pre+(aA dn).length+1:=by simp only[Pq,Pw]
  refine ag λN2 J2=>{N,X,L,xs,fs,_,_,bb,.fin,by rw[l1];push_cast;rfl,ū,hL,fr,Ī,rfl,(),lx,λp1 R1 y1 H3 s3 ł ſ ϕ=>{p1,_,rfl,Ç.of ł,rfl,_,_,rfl,_,_,rfl,rfl,J2 _ _ ?_}};clear J2 N2;have ε:=s3.tup ħ;rfl'
  refine{P1 {rfl,_,À.of (s3 _ _ hF2)},É (j:=1) ε rfl (É (j:=2) ε rfl (É (j:=3) ε rfl (É (j:=4) ε rfl (λr6 Ĉ Ú hd_ hne_=>{_,_,_,_,_,_,_,_,_,_,rfl,rfl,Ú,hd_,À.of ſ,λn6 H6 f6 s6 h6 hx=>{rfl,?_}}))))};have Δ:=s3.trans s6;refine{_,_,_,rfl,rfl,Δ _ _ hF2,szy rfl,fin _ H6 _ _ _ _ Δ ?_ ?_}
  ·rw[ç];unfold bf;rw[l1]at ϕ;refine{r6,Ĉ,n6,y1,rfl,dh (aj.free s3 Ú) hx,dh (aj.free s3 f6) h6,?_};have:=aJ.same (f9 s6) _ _ ϕ;push_cast at this⊢
   exact this
  rw[l1,Ò];simp only[PD,Pq,Qw];push_cast
  lia
theorem AY(T:Txt K mg A):∀d,T.dA.Hz P w base (d+6) (rY A d)
 |0=>Di T 0 5 (Px _) (T.dA.hs (k:=4) aW (λ_ _ _ _ _ _ _ _ _ _ _ h=>h.elim) (λ_ _ _ _ h=>h.elim))
 |d+1=>Di T (d+1) (d+6) () (AY T d)
def â(n:Int):List Lr->List Pt
 | []=>[]
 |r::rs=>.leaf n r::â (n+1) rs
def Î(n:Int):List De->List Pt
 | []=>[]
 |d::ds=>.bq n d.1 d.2.1 (bp (n+1) d.2.2)::Î (n+((Ċ d).length:Nat)) ds
theorem Dh:∀a n b,â n (a++b)=â n a++â (n+(↥a:Nat)) b
 | [],n,b=>by
  rw[Qi,â,Qi];congr 1;simp
 |r::a,n,b=>by
  rw[Qr,â,â,Dh a,PD,Qr];congr 3;push_cast
  lia
theorem Cj:∀a n b,Î n (a++b)=Î n a++Î (n+((bC a).length:Nat)) b
 | [],n,b=>by
  rw[Qi,Î,Qi];congr 1;simp[bC]
 |d::a,n,b=>by
  rw[Qr,Î,Î,Cj a,show bC (d::a)=Ċ d++bC a from rfl,Pq,Qr];congr 3;push_cast
  lia
theorem xy:∀a n,(â n a).length=↥a
 | [],n=>rfl
 |r::a,n=>by rw[â,PD,PD,xy a]
theorem r9:∀a n,(Î n a).length=↥a
 | [],n=>rfl
 |r::a,n=>by rw[Î,PD,PD,r9 a]
theorem zy(s:Sm M H H')(hF:∀m∈M,H' m≠Zr):∀b,H' b=Zr->H b=Zr:=λb h=>by
 cases e:H b with
 |none=>rfl
 |some o=>
  by_cases z:b∈M
  ·exact absurd h (hF b z)
  rw[s b o z e]at h;cases h
def Đ(f:Fr):Bool:=match f with
 | .bq _ _=>true
 | .main=>true
 |_=>false
theorem EF (f):ý (V.str f.wd) [V.str "deed",V.str "main"]=Đ f:=by
 cases f with
 |leaf r=>cases r<;>rfl
 |_=>rfl
def é(hs:List Lr)(ds:List De):Int:=((↥hs+(bC ds).length:Nat):Int)+2
inductive yA(A:Ö)(vs:List V)(H:Hp)(Q:VK)(Ä:XK):Prop
 |mk (N X L xs hs ds mb) (z0:vs=[.ref L]) (z1:aj X H) (z2:X L=Zq (.lst xs)) (z3:aY N X (Ć hs ds mb) xs) (z4:eV hs ds mb) (z7:↥xs<=300)
  (z8:∀(v H'),aj H H'->vc A N H' v (â 1 hs) (Î ((↥hs:Nat)+1) ds) (bp (é hs ds) mb)->Q v H'):yA A vs H Q Ä
inductive Ho(hs:List Lr)(L:Sv)(F:Sv)(G:Sv)(H2:Hp)(A:Ö)(N:Nat->Str)(X:Hp)(m:Nat)(B:St)(Hc:Hp):Prop
 |mk (dn rest ys):hs=dn++rest->↥rest=m->B=[Zq (.ref L),Zq (.ref F),Zq (.ref G),Zq (.int (↥dn:Nat)),Zr,Zr,Zr,Zr]->Sm [F,G] H2 Hc->Hc F=Zq (.lst ys)->Hc G=Zq (.lst [])->aJ A N (č X H2 Hc) ys (â 1 dn)->Ho hs L F G H2 A N X m B Hc
inductive F3(m:Nat)(hs:List Lr)(L:Sv)(F:Sv)(G:Sv)(H2:Hp)(A:Ö)(N:Nat->Str)(X:Hp)(B:St)(Hc:Hp):Prop
 |mk (dn rest ys m'):m'<m->hs=dn++rest->↥rest=m'->B=[Zq (.ref L),Zq (.ref F),Zq (.ref G),Zq (.int (↥dn:Nat)),Zr,Zr,Zr,Zr]->Sm [F,G] H2 Hc->Hc F=Zq (.lst ys)->Hc G=Zq (.lst [])->aJ A N (č X H2 Hc) ys (â 1 dn)->F3 m hs L F G H2 A N X B Hc
inductive EH(ds:List De)(L:Sv)(F:Sv)(G:Sv)(hs:List Lr)(H2:Hp)(ys:List V)(A:Ö)(N:Nat->Str)(X:Hp)(m:Nat)(B:St)(Hc:Hp):Prop
 |mk (dn rest zs v4 v5 v6):ds=dn++rest->↥rest=m->B=[Zq (.ref L),Zq (.ref F),Zq (.ref G),Zq (.int ((↥hs+(bC dn).length:Nat):Int)),v4,v5,v6,Zr]->Sm [F,G] H2 Hc->Hc F=Zq (.lst ys)->Hc G=Zq (.lst zs)->aJ A N (č X H2 Hc) ys (â 1 hs)->aJ A N (č X H2 Hc) zs (Î ((↥hs:Nat)+1) dn)->EH ds L F G hs H2 ys A N X m B Hc
inductive Fq(m:Nat)(ds:List De)(L:Sv)(F:Sv)(G:Sv)(hs:List Lr)(H2:Hp)(ys:List V)(A:Ö)(N:Nat->Str)(X:Hp)(B:St)(Hc:Hp):Prop
 |mk (dn rest zs v4 v5 v6 m'):m'<m->ds=dn++rest->↥rest=m'->B=[Zq (.ref L),Zq (.ref F),Zq (.ref G),Zq (.int ((↥hs+(bC dn).length:Nat):Int)),v4,v5,v6,Zr]->Sm [F,G] H2 Hc->Hc F=Zq (.lst ys)->Hc G=Zq (.lst zs)->aJ A N (č X H2 Hc) ys (â 1 hs)->aJ A N (č X H2 Hc) zs (Î ((↥hs:Nat)+1) dn)->Fq m ds L F G hs H2 ys A N X B Hc
theorem Ip(T:Txt K mg A):T.mB.Hz P w base 13 (yA A):=by
 refine T.mB.hs (k:=12) bw (λf Ã A' outer s H vs Q E hr hu h=>?_);obtain⟨N,X,L,xs,hs,ds,mb,rfl,s0,hL,fr,O,lx,q⟩:=h;have lfs:(Ć hs ds mb).length<=300:=by rw[Sz fr];exact lx
 have lfs':↥hs+(bC ds).length+(aA mb).length+2=(Ć hs ds mb).length:=by unfold Ć;simp;lia
 refine⟨_,(ab (Æ 1 bw.nd (aQ ae))
  (ab (Æ 2 bw.nd (aQ ae))
  (ab (Æ 3 bw.nd af)
  (ab (fC SH (Ë (dP hu) (px hu (px hu (fv 0) (fv 3)) af) (aT (aw^aw^ae)) ((by with_unfolding_all rfl)))
   (ab (aR (br (fv 1) ((ak (hj:=by lia) (Ce T) hr (px hu (fv 0) (fv 3)^az aO (fv 3) af^ae))^ae)))
   (ai (Æ 3 bw.nd (az aO (fv 3) af)))))
  (ab (fC SH (Ë (bU hu) (px hu (px hu (fv 0) (fv 3)) af) aw)
   (ab (Æ 4 bw.nd (az aO (fv 3) af))
   (ab (bX (ak (hj:=by lia) (AY T 6) hr (fv 0^az aO (fv 3) af^ae)) (dg rfl (aK (Ð (i:=5) bw.nd rfl) (aK (Ð (i:=6) bw.nd rfl) cu))))
   (ab (aR (br (fv 2) ((cK (hj:=by lia) T.cw (ux T) hr (fv 4^px hu (px hu (fv 0) (fv 3)) af^Ľ rV T.dG (px hu (px hu (fv 0) (fv 3)) af^ae)^fv 5^ae))^ae)))
   (ai (Æ 3 bw.nd (az aO (fv 6) af)))))))
  (ab (bX (ak (hj:=by lia) (AY T 6) hr (fv 0^az aO (fv 3) af^ae)) (dg rfl (aK (Ð (i:=7) bw.nd rfl) (aK (Ð (i:=6) bw.nd rfl) cu))))
  (ai (aD (cK (hj:=by lia) T.dw (tO T) hr (fv 1^fv 2^fv 7^ae)))))))))),?_⟩
 refine ag λM1 K1=>{PZ _,λF hF=>?_};obtain⟨s1,e1⟩:=Í hF (HO.lst []);generalize upd H F _=H1 at s1 e1⊢;refine K1 _ _ ?_;clear K1 M1;rfl'
 refine ag λM1 K1=>{PZ _,λG hG=>?_};obtain⟨s2,e2⟩:=Í hG (HO.lst []);generalize upd H1 G _=H2 at s2 e2⊢;have XF:X F=Zr:=aj.free s0 hF;have XG:X G=Zr:=aj.free (s0.trans s1) hG;have GF:G≠F:=Zs hG (e1);have H2F:H2 F≠Zr:=by rw[s2 _ _ e1];simp
 have H2G:H2 G≠Zr:=by rw[e2];simp
 have Ī:=s2 _ _ e1;have t2:=s1.trans s2;have fxq:∀{Hc:Hp},Sm [F,G] H2 Hc->aj X Hc:=λsc=>sc.same (s0.trans t2) (λm hm=>by
  simp only[Py,P7,or_false]at hm;rcases hm with rfl|rfl
  ·exact XF
  exact XG)
 have fhq:∀{Hc:Hp},Sm [F,G] H2 Hc->aj H Hc:=λsc=>sc.same t2 (λm hm=>by
  simp only[Py,P7,or_false]at hm;rcases hm with rfl|rfl
  ·exact hF
  exact aj.free s1 hG)
 have mF:F∈[F,G]:=PH;have mG:G∈[F,G]:=PC _ PH;refine K1 _ _ ?_;clear K1 M1;rfl'
 refine ag λM1 K1=>K1 _ _ ?_;clear K1 M1;rfl'
 refine ag λM1 K1=>{Ho hs L F G H2 A N X,{↥hs,[],hs,[],rfl,rfl,rfl,Sm.refl _ _,Ī,e2,aJ.nil},?_};rintro m B Hc ⟨dn,rest,ys,ehs,em,rfl,sc,Ĩ,ζ,pt⟩;have sX:=fxq sc;have Ĺ:=À.of (K:=K) (sX _ _ hL);cases rest with
 |cons r rest=>
  clear K1;have ć:Ć hs ds mb=dn.map Fr.leaf++ .leaf r::(rest.map Fr.leaf++bC ds++ .main::(aA mb++[.fin])):=by
   unfold Ć;rw[ehs];simp
  obtain⟨v,av,ι⟩:=i4 fr ć;rw[Pr]at av;have fv0:=ι;obtain⟨a,p,rfl,ha,Υ⟩:=ι;refine ï Ĺ av (É (j:=0) (Ç.of (sX _ _ ha)) rfl {by show 2<=sizeLine;decide,λtp á=>?_});obtain⟨s3,e3⟩:=Í á (HO.tup [V.str "deed",.str "main"]);generalize upd Hc tp _=H3 at s3 e3⊢;refine P1 {_,QQ (Ç.of e3),rfl,rfl,_,rfl,aV (λ_=>?_) (λz=>absurd (by show(!ý (V.str (Fr.leaf r).wd) [V.str "deed",V.str "main"])=true;rw[EF];rfl) z)};refine{F3 m hs L F G H2 A N X,λB Hc ⟨dn,rest,ys,m',ŗ,h1,h2,h3,h4,h5,h6,h7⟩=>⟨m',ŗ,dn,rest,ys,h1,h2,h3,h4,h5,h6,h7⟩,?_};have Ŷ:=sX.trans s3;have hF3:=s3 _ _ Ĩ;rfl'
  refine ag λN1 J1=>{P1 {rfl,_,À.of hF3},ï (À.of (Ŷ _ _ hL)) av {N,X,_,_,r,rfl,Ŷ,fv0,λb H4 s4 hb pb=>?_}};have ly:↥ys=↥dn:=by rw[pt.len,xy]
  have ld:↥dn+1<=↥hs:=by rw[ehs];simp
  refine{_,_,_,rfl,rfl,s4 _ _ hF3,aH (),J1 _ _ ?_};have s5:Sm [F,G] H4 (upd H4 F (.lst (ys++[V.ref b]))):=Sm.at mF _;have em':↥rest+1=m:=em;refine{dn++[r],rest,ys++[V.ref b],↥rest,(),by rw[ehs];simp,rfl,?_,(sc.trans (Sm.new (s3.trans s4))).trans s5,ao,au GF ((s3.trans s4) _ _ ζ),?_}
  ·rw[Pq,Pw];rfl
  rw[Dh,â,â,show(1:Int)+(↥dn:Nat)=((↥dn:Nat):Int)+1 by lia];have nb:=zy sc (by
   intro m hm;simp only[Py,P7,or_false]at hm;rcases hm with rfl|rfl
   ·rw[Ĩ];simp
   rw[ζ];simp)
  exact aJ.snoc (aJ.same (oQ XF H2F) _ _ (aJ.same (f9 (s3.trans s4)) _ _ pt)) (bf.same (oQ XF H2F) _ _ (bf.same (pN λb h=>nb b (aj.free s3 h)) _ _ pb))
 |nil=>
 rw[Qd]at ehs;subst ehs;obtain⟨gf,gtl,egf,hgf⟩:∃gf gtl,bC ds++ .main::(aA mb++[Fr.fin])=gf::gtl/\Đ gf=true:=by
  cases ds with
  |nil=>exact{.main,_,rfl,rfl}
  |cons d r=>exact{.bq d.1 d.2.1,_,rfl,rfl}
 have ć:Ć hs ds mb=hs.map Fr.leaf++gf::gtl:=by
  unfold Ć;rw[P6,egf]
 obtain⟨v,av,⟨a,p,rfl,ha,Υ⟩⟩:=i4 fr ć;rw[Pr]at av;refine ï Ĺ av (É (j:=0) (Ç.of (sX _ _ ha)) rfl {by show 2<=sizeLine;decide,λtp á=>?_});obtain⟨s3,e3⟩:=Í á (HO.tup [V.str "deed",.str "main"]);generalize upd Hc tp _=H3 at s3 e3⊢;refine P1 {_,QQ (Ç.of e3),rfl,rfl,_,rfl,aV (λz=>absurd z (by show ¬ (!ý (V.str gf.wd) [V.str "deed",V.str "main"])=true;rw[EF,hgf];decide)) (λ_=>K1 _ _ ?_)};clear K1 M1;have sc3:=sc.trans (Sm.new s3);have hF3:=s3 _ _ Ĩ;have hG3:=s3 _ _ ζ;have pt3:=aJ.same (f9 s3) _ _ pt;clear pt Ĩ ζ sc sX Ĺ á e3 av ha Υ ć egf hgf;rfl'
 refine ag λM1 K1=>{EH ds L F G hs H2 ys A N X,{↥ds,[],ds,[],Zr,Zr,Zr,rfl,rfl,rfl,sc3,hF3,hG3,pt3,aJ.nil},?_};clear hF3 hG3 pt3 sc3 s3 m em;clear hG hF;rintro m B Hd ⟨dn,rest,zs,v4,v5,v6,eds,em,rfl,sc,Ĩ,ζ,pt,pz⟩;have sX:=fxq sc;have Ĺ:=À.of (K:=K) (sX _ _ hL);have nb:=zy sc (by
  intro m hm;simp only[Py,P7,or_false]at hm;rcases hm with rfl|rfl
  ·rw[Ĩ];simp
  rw[ζ];simp)
 cases rest with
 |cons d rest=>
  clear K1;have ć:Ć hs ds mb=(hs.map Fr.leaf++bC dn)++ .bq d.1 d.2.1::(aA d.2.2++ .fin::(bC rest++ .main::(aA mb++[.fin]))):=by
   unfold Ć bC;rw[eds];simp[Ċ]
  have efs2:Ć hs ds mb=(hs.map Fr.leaf++bC dn++[.bq d.1 d.2.1])++aA d.2.2++ .fin::(bC rest++ .main::(aA mb++[.fin])):=by
   rw[ć];simp
  have l2:(hs.map Fr.leaf++bC dn++[Fr.bq d.1 d.2.1]).length=↥hs+(bC dn).length+1:=by simp only[Pq,Pr,Pw]
  obtain⟨v,av,ι⟩:=i4 fr ć;rw[Pq,Pr]at av;obtain⟨a,p,rfl,ha,Υ⟩:=ι;have hp:=Υ _ rfl;refine ï Ĺ av (É (j:=0) (Ç.of (sX _ _ ha)) rfl {rfl,_,rfl,aV (λ_=>?_) (λz=>absurd (show decide (V.str "deed"=V.str "deed")=true from decide_eq_true rfl) z)});refine{Fq m ds L F G hs H2 ys A N X,λB Hc ⟨dn,rest,ys,v4,v5,v6,m',ŗ,h1,h2,h3,h4,h5,h6,h7,h8⟩=>⟨m',ŗ,dn,rest,ys,v4,v5,v6,h1,h2,h3,h4,h5,h6,h7,h8⟩,?_};have dpd:cE d.2.2<=6:=by
   have:=O.de.at' ↥dn d (by rw[eds,Qk (Px _),QN];rfl);exact this.2.2.2.1
  rfl'
  refine ag λN1 J1=>J1 _ _ ?_;clear J1 N1;rfl'
  refine ag λN1 J1=>{N,X,L,xs,_,_,_,d.2.2,.fin,by rw[l2];push_cast;rfl,sX,hL,fr,efs2,rfl,dpd,lx,λp1 R1 y1 H4 s4 ł ſ ϕ=>{p1,_,rfl,Ç.of ł,rfl,_,_,rfl,_,_,rfl,rfl,J1 _ _ ?_}};clear J1 N1;have sX4:=sX.trans s4;have hL4:=À.of (K:=K) (sX4 _ _ hL);have ϳ:=Ç.of (K:=K) (sX4 _ _ ha);rfl'
  refine ag λN1 J1=>{P1 {rfl,_,À.of (s4 _ _ ζ)},ï hL4 av (É (j:=1) ϳ rfl (ï hL4 av (É (j:=2) ϳ rfl (P1 {p,_,rfl,P1 (À.of (sX4 _ _ hp)),λl hl=>?_}))))};obtain⟨s5,e5⟩:=Í hl (HO.lst (nV N d.2.1));generalize upd H4 l _=H5 at s5 e5⊢;refine λr6 Ĉ Ú hd_ hne_=>{_,_,_,_,_,_,_,_,_,rfl,rfl,Ú,hd_,À.of e5,À.of (s5 _ _ ſ),λn6 n7 H6 f6 f7 s6 h6 h7 hx=>{rfl,?_}};have s36:=s4.trans (s5.trans s6);have lz:↥zs=↥dn:=by rw[pz.len,r9]
  have ld:↥dn<=3:=by
   have:=O.dl;rw[eds,Pq]at this;lia
  refine{_,_,_,rfl,rfl,s36 _ _ ζ,aH (),J1 _ _ ?_};have s7:Sm [F,G] H6 (upd H6 G (.lst (zs++[V.ref r6]))):=Sm.at mG _;have em':↥rest+1=m:=em;have sn:aj Hd H4:=s4;refine{dn++[d],rest,zs++[V.ref r6],Zq (.int (((↥hs+(bC dn).length:Nat):Int)+1)),Zq (.ref R1),Zq (.int (((hs.map Fr.leaf++bC dn++[Fr.bq d.1 d.2.1]).length+(aA d.2.2).length:Nat):Int)),↥rest,(),by rw[eds];simp,rfl,?_,(sc.trans (Sm.new s36)).trans s7,au (P9 GF) (s36 _ _ Ĩ),ao,aJ.same (oQ XG H2G) _ _ (aJ.same (f9 s36) _ _ pt),?_}
  ·have:(((hs.map Fr.leaf++bC dn++[Fr.bq d.1 d.2.1]).length+(aA d.2.2).length:Nat):Int)+1=((↥hs+(bC (dn++[d])).length:Nat):Int):=by
    rw[l2];unfold bC;rw[QJ,Pq];simp[Ċ];lia
   rw[<-this];rfl
  rw[Cj,Î,Î];refine aJ.snoc (aJ.same (oQ XG H2G) _ _ (aJ.same (f9 s36) _ _ pz)) (bf.same (oQ XG H2G) _ _ (bf.same (pN nb) _ _ (X:=č X Hd H6) ?_));unfold bf;rw[l2]at ϕ;have e9:(((↥hs:Nat):Int)+1+((bC dn).length:Nat))=((↥hs+(bC dn).length:Nat):Int)+1:=by push_cast;lia
  rw[e9];refine{r6,Ĉ,n6,n7,y1,rfl,dh (aj.free (s4.trans s5) Ú) hx,dh (aj.free (s4.trans s5) f6) h6,dh (aj.free (s4.trans s5) f7) h7,?_};have:=aJ.same (f9 (s5.trans s6)) _ _ ϕ;push_cast at this⊢
  exact this
 |nil=>
 rw[Qd]at eds;subst eds;have ć:Ć hs ds mb=(hs.map Fr.leaf++bC ds)++ .main::(aA mb++[.fin]):=rfl;have efs2:Ć hs ds mb=(hs.map Fr.leaf++bC ds++[.main])++aA mb++ .fin::[]:=by
  rw[ć];simp
 have l2:(hs.map Fr.leaf++bC ds++[Fr.main]).length=↥hs+(bC ds).length+1:=by simp only[Pq,Pr,Pw]
 obtain⟨v,av,⟨a,p,rfl,ha,Υ⟩⟩:=i4 fr ć;rw[Pq,Pr]at av;refine ï Ĺ av (É (j:=0) (Ç.of (sX _ _ ha)) rfl {rfl,_,rfl,aV (λz=>absurd z (show ¬ decide (V.str "main"=V.str "deed")=true by decide)) (λ_=>K1 _ _ ?_)});clear K1 M1;rfl'
 refine ag λM1 K1=>{N,X,L,xs,_,_,_,mb,.fin,by rw[l2];push_cast;rfl,sX,hL,fr,efs2,rfl,O.md,lx,λp1 R1 y1 H4 s4 ł ſ ϕ=>{p1,_,rfl,Ç.of ł,rfl,_,_,rfl,_,_,rfl,rfl,K1 _ _ ?_}};clear K1 M1;rfl'
 refine λr6 Ĉ Ú hd_ hne_=>{_,_,_,_,_,_,_,_,_,rfl,rfl,Ú,hd_,À.of (s4 _ _ Ĩ),À.of (s4 _ _ ζ),À.of ſ,λn6 n7 n8 H6 f6 f7 f8 s6 h6 h7 h8 hx=>{rfl,q _ H6 ((fhq sc).trans (s4.trans s6)) ?_}};rw[l2]at ϕ;refine{r6,Ĉ,n6,n7,n8,_,_,_,rfl,hx,h6,h7,h8,aJ.same (yo.trans (s4.trans s6)) _ _ pt,aJ.same (yo.trans (s4.trans s6)) _ _ pz,?_};have:=aJ.same (yo.trans s6) _ _ ϕ;unfold é;push_cast at this⊢
 rw[show(↑↥hs+ ↑(bC ds).length+2:Int)=↑↥hs+ ↑(bC ds).length+1+1 by lia];exact this
def Μ:Fr->Bool
 | .leaf r=>decide (5<=r.ci)
 | .iff _ _ _=>true
 | .loop _ _ _ _=>true
 |_=>false
def Ŕ(N:Nat->Str)(s:List (Option Str))(n:Int):Fr->List (Option Str)
 | .bq i _=>[Zq (N i)]
 | .main=>[Zr]
 | .fin=>s.tail
 | .iff _ _ _=>Zq (aX n)::s
 | .loop _ _ _ _=>Zq (aX n)::s
 |_=>s
def LO(l:List Str)(n:Int):Fr->List Str
 | .loop _ _ _ _=>aX n::l
 | .iff _ _ _=>SQ::l
 | .fin=>l.tail
 |_=>l
def Ϯ(l:List Str):Option Str:=l.find? λx=>decide (x≠SQ)
abbrev En:=Fr×Int×Option Str×Str
def bS(N:Nat->Str):List (Option Str)->List Str->Int->List Fr->List En
 |_,_,_,[]=>[]
 |s,l,n,f::fs=>(if Μ f=true then[(f,n,s.headD Zr,(Ϯ l).getD SQ)]else[])++bS N (Ŕ N s n f) (LO l n f) (n+1) fs
def gd(N:Nat->Str):List (Option Str)->Int->List Fr->Prop
 |_,_,[]=>True
 |s,n,f::fs=>((Μ f=true\/f=.fin)->s≠[])/\gd N (Ŕ N s n f) (n+1) fs
def frP:Pt->Fr
 | .leaf _ r=>.leaf r
 | .iff _ v l r _ _=>.iff v l r
 | .loop _ t m l r _=>.loop t m l r
 | .bq _ i ps _=>.bq i ps
def eF(e:Le):En:=(frP e.1,e.1.no,e.2.1,e.2.2.getD SQ)
theorem IW (n):4<=(aX n).length:=by
 unfold aX;rw[jq,jq];exact P2 (show 4<=(Str.empty.length+("row ":Str).length) by decide) (QM _ _)
theorem Ls (n):aX n≠SQ:=λe=>by
 have:=IW n;rw[e]at this;exact absurd this ∅
theorem HW (n l):Ϯ (aX n::l)=Zq (aX n):=by
 unfold Ϯ;rw[QF,decide_eq_true (Ls n)]
theorem Ms (l):Ϯ (SQ::l)=Ϯ l:=by
 unfold Ϯ;rw[QF,decide_eq_false λz=>z rfl]
theorem OH(h:Ai ps dd lp r):Μ (.leaf r)=true:=by
 cases r<;>first|rfl|exact h.elim
theorem GO:bD pl lp (t::ts)=(t,pl,lp)::(dE lp t++bD pl lp ts):=by rw[bD]
mutual
theorem Lz:∀(t:Tr)(lp:Bool)(pl:Option Str)(s:List (Option Str))(l:List Str)(n:Int)(rest:List Fr),è ps dd lp t->
  bS N (pl::s) l n (Ò t++rest)=((ç n t,pl,Ϯ l)::dE (Ϯ l) (ç n t)).map eF++bS N (pl::s) l (n+((Ò t).length:Nat)) rest
 | .leaf r,lp,pl,s,l,n,rest,ok=>by
  rw[è]at ok;rw[Ò,ç,dE];show bS N _ _ _ (.leaf r::rest)=_;rw[bS,if_pos (OH ok)];rfl
 | .iff v a b f o,lp,pl,s,l,n,rest,ok=>by
  rw[è]at ok;rw[Ò,ç,dE];have e:(Fr.iff v a b::(aA f++ .Ă::(aA o++[.fin])))++rest=.iff v a b::(aA f++(.Ă::(aA o++(.fin::rest)))):=by simp
  rw[e,bS,if_pos (show Μ _=true from rfl)];have h1:=kY f lp (Zq (aX n)) (pl::s) (SQ::l) (n+1) (.Ă::(aA o++(.fin::rest))) ok.2.1;have h2:=kY o lp (Zq (aX n)) (pl::s) (SQ::l) (n+1+((aA f).length:Nat)+1) (.fin::rest) ok.2.2;rw[Ms]at h1 h2;show _++bS N (Zq (aX n)::pl::s) (SQ::l) (n+1) _=_;rw[h1,bS,if_neg ∅];show _++(_++([]++bS N (Zq (aX n)::pl::s) (SQ::l) _ _))=_;rw[h2,bS,if_neg ∅];show _++(_++([]++(_++([]++bS N (pl::s) l _ rest))))=_;rw[show n+2+((aA f).length:Nat)=n+1+((aA f).length:Nat)+1 by lia,PD,Pq,PD,Pq,Pw];rw[show n+1+((aA f).length:Nat)+1+((aA o).length:Nat)+1=n+(((aA f).length+((aA o).length+1+1)+1:Nat):Int) by push_cast;lia];rw[P0,Qg];simp only[Qi,P6,Qr];rfl
 | .loop t m a b c,lp,pl,s,l,n,rest,ok=>by
  rw[è]at ok;rw[Ò,ç,dE];have e:(Fr.loop t m a b::(aA c++[.fin]))++rest=.loop t m a b::(aA c++(.fin::rest)):=by simp
  rw[e,bS,if_pos (show Μ _=true from rfl)];have h1:=kY c true (Zq (aX n)) (pl::s) (aX n::l) (n+1) (.fin::rest) ok.2.2.2;rw[HW]at h1;show _++bS N (Zq (aX n)::pl::s) (aX n::l) (n+1) _=_;rw[h1,bS,if_neg ∅];show _++(_++([]++bS N (pl::s) l _ rest))=_;rw[PD,Pq,Pw,show n+1+((aA c).length:Nat)+1=n+(((aA c).length+1+1:Nat):Int) by push_cast;lia,P0];simp only[Qi,P6,Qr];rfl
theorem kY:∀(ts:List Tr)(lp:Bool)(pl:Option Str)(s:List (Option Str))(l:List Str)(n:Int)(rest:List Fr),cS ps dd lp ts->
  bS N (pl::s) l n (aA ts++rest)=(bD pl (Ϯ l) (bp n ts)).map eF++bS N (pl::s) l (n+((aA ts).length:Nat)) rest
 | [],lp,pl,s,l,n,rest,ok=>by
  rw[aA,bp,bD];simp
 |t::ts,lp,pl,s,l,n,rest,ok=>by
  rw[cS]at ok;rw[aA,bp,GO,P6,Lz t lp pl s l n _ ok.1,kY ts lp pl s l _ rest ok.2,Pq];rw[show n+((Ò t).length:Nat)+((aA ts).length:Nat)=n+(((Ò t).length+(aA ts).length:Nat):Int) by push_cast;lia];simp only[P0,Qg,P6,Qr]
end
mutual
theorem O5:∀(t:Tr)(pl:Option Str)(s:List (Option Str))(n:Int)(rest:List Fr),gd N (pl::s) (n+((Ò t).length:Nat)) rest->gd N (pl::s) n (Ò t++rest)
 | .leaf r,pl,s,n,rest,h=>by
  rw[Ò]at h⊢;show gd N _ _ (.leaf r::rest);exact{λ_ z=>(by cases z),h}
 | .iff v a b f o,pl,s,n,rest,h=>by
  rw[Ò]at h⊢;have e:(Fr.iff v a b::(aA f++ .Ă::(aA o++[.fin])))++rest=.iff v a b::(aA f++(.Ă::(aA o++(.fin::rest)))):=by simp
  rw[e];refine{λ_ z=>(by cases z),vD f (Zq (aX n)) (pl::s) (n+1) _ {λ_ z=>(by cases z),vD o (Zq (aX n)) (pl::s) _ _ {λ_ z=>(by cases z),?_}}};rw[PD,Pq,PD,Pq,Pw,show n+(((aA f).length+((aA o).length+1+1)+1:Nat):Int)=n+1+((aA f).length:Nat)+1+((aA o).length:Nat)+1 by push_cast;lia]at h;exact h
 | .loop t m a b c,pl,s,n,rest,h=>by
  rw[Ò]at h⊢;have e:(Fr.loop t m a b::(aA c++[.fin]))++rest=.loop t m a b::(aA c++(.fin::rest)):=by simp
  rw[e];refine{λ_ z=>(by cases z),vD c (Zq (aX n)) (pl::s) (n+1) _ {λ_ z=>(by cases z),?_}};rw[PD,Pq,Pw,show n+(((aA c).length+1+1:Nat):Int)=n+1+((aA c).length:Nat)+1 by push_cast;lia]at h;exact h
theorem vD:∀(ts:List Tr)(pl:Option Str)(s:List (Option Str))(n:Int)(rest:List Fr),gd N (pl::s) (n+((aA ts).length:Nat)) rest->gd N (pl::s) n (aA ts++rest)
 | [],pl,s,n,rest,h=>by
  rw[aA]at h⊢;simpa using h
 |t::ts,pl,s,n,rest,h=>by
  rw[aA]at h⊢;rw[P6];refine O5 t pl s n _ (vD ts pl s _ rest ?_);rw[Pq,show n+(((Ò t).length+(aA ts).length:Nat):Int)=n+((Ò t).length:Nat)+((aA ts).length:Nat) by push_cast;lia]at h;exact h
end
theorem BK:∀(hs:List Lr)(n:Int)(rest:List Fr),(∀r∈hs,r.ci<5)->bS N [] [] n (hs.map Fr.leaf++rest)=bS N [] [] (n+(↥hs:Nat)) rest/\(gd N [] (n+(↥hs:Nat)) rest->gd N [] n (hs.map Fr.leaf++rest))
 | [],n,rest,_=>by simp
 |r::hs,n,rest,h=>by
  have c:=h r PH;have nb:¬ Μ (.leaf r)=true:=λz=>by
   have:5<=r.ci:=of_decide_eq_true z;lia
  obtain⟨h1,h2⟩:=BK hs (n+1) rest λr hr=>h r (PC _ hr);have e:n+((r::hs).length:Nat)=n+1+(↥hs:Nat):=by rw[PD];push_cast;lia
  rw[e];refine{?_,λg=>{λz=>?_,h2 g}}
  ·rw[P0,Qr,bS,if_neg nb,Qi,<-h1];rfl
  rcases z with z|z
  ·exact absurd z nb
  cases z
theorem Cs(ddA:List De->List (Nat×Nat)):∀ds n rest,(∀d∈ds,∃dd,cS d.2.1 dd false d.2.2)->
  bS N [] [] n (bC ds++rest)=(fG N (Î n ds)).map eF++bS N [] [] (n+((bC ds).length:Nat)) rest/\(gd N [] (n+((bC ds).length:Nat)) rest->gd N [] n (bC ds++rest))
 | [],n,rest,_=>by simp[bC,Î,fG]
 |d::ds,n,rest,h=>by
  obtain⟨dd,ok⟩:=h d PH;obtain⟨h1,h2⟩:=Cs ddA ds (n+((Ċ d).length:Nat)) rest λd hd=>h d (PC _ hd);have e:bC (d::ds)++rest=.bq d.1 d.2.1::(aA d.2.2++(.fin::(bC ds++rest))):=by
   show Ċ d++bC ds++rest=_;simp[Ċ]
  have el:n+((bC (d::ds)).length:Nat)=n+((Ċ d).length:Nat)+((bC ds).length:Nat):=by
   show n+((Ċ d++bC ds).length:Nat)=_;rw[Pq];push_cast
   lia
  have ef:n+1+((aA d.2.2).length:Nat)+1=n+((Ċ d).length:Nat):=by
   unfold Ċ;rw[PD,Pq,Pw];push_cast
   lia
  rw[e,el];constructor
  ·rw[bS,if_neg (by show ¬ false=true;decide)];show[]++bS N (Zq (N d.1)::[]) [] (n+1) _=_;rw[kY d.2.2 false (Zq (N d.1)) [] [] (n+1) _ ok,bS,if_neg ∅];show[]++(_++([]++bS N [] [] (n+1+((aA d.2.2).length:Nat)+1) (bC ds++rest)))=_;rw[ef,h1,Î];show _=List.map eF (bD (Zq (N d.1)) Zr (bp (n+1) d.2.2)++fG N (Î _ ds))++_;rw[Qg];simp only[Qi,P6];rfl
  intro g;refine{λz=>?_,?_}
  ·rcases z with z|z<;>cases z
  show gd N (Zq (N d.1)::[]) (n+1) _;refine vD d.2.2 _ _ _ _ {λ_ z=>(by cases z),?_};show gd N [] (n+1+((aA d.2.2).length:Nat)+1) (bC ds++rest);rw[ef];exact h2 g
theorem Et(O:eV hs ds mb):bS N [] [] 1 (Ć hs ds mb)=(cq N (Î ((↥hs:Nat)+1) ds) (bp (é hs ds) mb)).map eF/\gd N [] 1 (Ć hs ds mb):=by
 have hd:∀r∈hs,r.ci<5:=by
  obtain⟨rk,z,t,rfl,_⟩:=O.hd;intro r hr;have hr:r∈oJ rk z:=by
   unfold rJ at hr;rcases Pz.mp hr with h|h
   ·exact Rw h
   exact QP h
  unfold oJ at hr;simp only[Py,P7,or_false]at hr;rcases hr with rfl|rfl|rfl|rfl|rfl|rfl|rfl|rfl|rfl|rfl|rfl<;>exact Nat.le_of_ble_eq_true rfl
 have okd:∀d∈ds,∃dd,cS d.2.1 dd false d.2.2:=λd m=>by
  obtain⟨k,hk⟩:=Qb m;exact{_,(O.de.at' k d hk).2.2.1}
 have e:Ć hs ds mb=hs.map Fr.leaf++(bC ds++(.main::(aA mb++(.fin::[])))):=by
  unfold Ć;simp
 obtain⟨a1,a2⟩:=BK (N:=N) hs 1 (bC ds++(.main::(aA mb++(.fin::[])))) hd;obtain⟨b1,b2⟩:=Cs (N:=N) je ds (1+(↥hs:Nat)) (.main::(aA mb++(.fin::[]))) okd;have en:(1:Int)+(↥hs:Nat)=(↥hs:Nat)+1:=()
 have em:(1:Int)+(↥hs:Nat)+((bC ds).length:Nat)+1=é hs ds:=by unfold é;push_cast;lia
 rw[e];constructor
 ·rw[a1,b1,bS,if_neg ∅];show _++([]++bS N (Zr::[]) [] _ _)=_;rw[em,kY mb false Zr [] [] _ _ O.mo,bS,if_neg ∅];show _++([]++(_++([]++bS N [] [] _ [])))=_;rw[bS,en];unfold cq;rw[Qg];simp only[Qi,Qd];rfl
 refine a2 (b2 {λz=>?_,?_})
 ·rcases z with z|z<;>cases z
 show gd N (Zr::[]) _ _;exact vD mb _ _ _ _ {λ_ z=>(by cases z),trivial}
mutual
theorem JM:∀(t:Tr)(n:Int),dep (ç n t)=ă t
 | .leaf r,n=>by rw[ç,dep,ă]
 | .iff v a c f o,n=>by rw[ç,dep,ă,oB f,oB o]
 | .loop t m a c d,n=>by rw[ç,dep,ă,oB d]
theorem oB:∀(ts:List Tr)(n:Int),nN (bp n ts)=cE ts
 | [],n=>by rw[bp,nN,cE]
 |t::ts,n=>by rw[bp,nN,cE,JM t,oB ts]
end
theorem vA (N):∀fs s l n,(bS N s l n fs).length<=↥fs
 | [],s,l,n=>by rw[bS];exact Px _
 |f::fs,s,l,n=>by
  have h:=vA N fs (Ŕ N s n f) (LO l n f) (n+1);rw[bS,Pq,PD];have:(if Μ f=true then[(f,n,s.headD Zr,(Ϯ l).getD SQ)]else[]).length<=1:=by split<;>simp
  lia
theorem pL(ok:cS ps dd b ts) (pl n):(bD pl Zr (bp n ts)).length<=(aA ts).length:=by
 have h:=kY (N:=λ_=>SQ) ts b pl [] [] n [] ok;have h2:=vA (λ_=>SQ) (aA ts++[]) [pl] [] n;rw[h,bS,Qd,Pr,Qd]at h2;exact h2
theorem dU:∀{ds:List De}{n:Int}{k:Nat}{p:Pt},(Î n ds)[k]?=Zq p->∃d n',ds[k]?=Zq d/\n<=n'/\n'+((Ċ d).length:Nat)<=n+((bC ds).length:Nat)/\p=.bq n' d.1 d.2.1 (bp (n'+1) d.2.2)
 | [],n,k,p,h=>by rw[Î]at h;simp at h
 |d::ds,n,0,p,h=>by
  rw[Î]at h;cases h;refine{d,n,rfl,RY _,?_,rfl};show _<=n+(((Ċ d++bC ds).length:Nat):Int);rw[Pq];push_cast
  lia
 |d::ds,n,k+1,p,h=>by
  rw[Î]at h;obtain⟨d',n',h1,h2,h3,h4⟩:=dU (ds:=ds) (k:=k) h;refine{d',n',h1,(),?_,h4};show _<=n+(((Ċ d++bC ds).length:Nat):Int);rw[Pq];push_cast
  push_cast at h3
  lia
theorem yM:∀ds n k,(Î n ds).take k=Î n (ds.take k)
 | [],n,k=>by simp[Î]
 |d::ds,n,0=>by simp[Î]
 |d::ds,n,k+1=>by rw[Î,Xl,Xl,Î,yM ds]
theorem xj:∀ds n,(Î n ds).map (ö N)=ds.map λd=>N d.1
 | [],n=>rfl
 |d::ds,n=>by rw[Î,P0,P0,xj ds];rfl
theorem Az:ĝ k<24:=by unfold ĝ;split;decide;split<;>decide
theorem Jw(hi:i<3)(hj:j<3)(h:ĝ i=ĝ j):i=j:=by
 rcases DQ hi with rfl|rfl|rfl<;>rcases DQ hj with rfl|rfl|rfl<;>first|rfl|exact absurd h ∅
theorem MD(h:n<ŭ k):(Ę k n).length<=4:=by
 unfold Ę;rw[Pr,QI];unfold ŭ at h;split at h
 ·lia
 split at h<;>lia
theorem wW{α β:Type}{f:α->β}{l:List α}(h:l.Nodup)(i:∀x∈l,∀y∈l,f x=f y->x=y):(l.map f).Nodup:=by
 induction l with
 |nil=>exact RD
 |cons x r ih=>
  rw[Qt]at h;rw[P0,Qt];refine{λm=>?_,ih h.2 λa ha b hb=>i a (PC _ ha) b (PC _ hb)};obtain⟨y,my,e⟩:=PM.mp m;have:=i y (PC _ my) x PH e;exact h.1 (this▸my)
theorem eV.ix(O:eV hs ds mb):∃n0 n1 n2,∃t0 t1 t2,ds=[(9,Ę 0 n0,t0),(10,Ę 1 n1,t1),(21,Ę 2 n2,t2)]:=by
 have dl:=O.dl;match ds,dl with
 | [a,b,c],_=>
  have h0:=O.de.at' 0 a rfl;have h1:=O.de.at' 1 b rfl;have h2:=O.de.at' 2 c rfl;obtain⟨e0,⟨n0,_,p0⟩,_⟩:=h0;obtain⟨e1,⟨n1,_,p1⟩,_⟩:=h1;obtain⟨e2,⟨n2,_,p2⟩,_⟩:=h2;refine{n0,n1,n2,a.2.2,b.2.2,c.2.2,?_};rw[<-p0,<-p1,<-p2,show(9:Nat)=ĝ 0 from rfl,show(10:Nat)=ĝ 1 from rfl,show(21:Nat)=ĝ 2 from rfl,<-e0,<-e1,<-e2]
theorem JW(nm:jc N)(O:eV hs ds mb):(ds.map λd=>N d.1).Nodup:=by
 obtain⟨n0,n1,n2,t0,t1,t2,rfl⟩:=O.ix;show([9,10,21].map N).Nodup;refine wW ∅ λx hx y hy e=>nm.inj x y ?_ ?_ e
 ·simp only[Py,P7,or_false]at hx;lia
 simp only[Py,P7,or_false]at hy;lia
theorem y9(O:eV hs ds mb)(m:d∈ds):d.2.1.length<=4:=by
 obtain⟨k,hk⟩:=Qb m;obtain⟨_,⟨n,hn,e⟩,_⟩:=O.de.at' k d hk;rw[e];exact MD hn
theorem yj(O:eV hs ds mb):↥hs=11/\(bC ds).length<=57/\(aA mb).length<=48:=by
 refine{?_,?_,O.ml}
 ·obtain⟨rk,z,t,rfl,_,_,_,ht⟩:=O.hd;unfold rJ;rw[Pq,QW,Qo,show(oJ rk z).length=11 from rfl];lia
 have dl:=O.dl;match ds,dl with
 | [a,b,c],_=>
  have h0:=(O.de.at' 0 a rfl).2.2.2.2;have h1:=(O.de.at' 1 b rfl).2.2.2.2;have h2:=(O.de.at' 2 c rfl).2.2.2.2;show(Ċ a++(Ċ b++(Ċ c++[]))).length<=57;unfold Ċ;simp only[Pq,PD,Qw];lia
theorem xB(O:eV hs ds mb):(cq N (Î ((↥hs:Nat)+1) ds) (bp (é hs ds) mb)).length<=99:=by
 unfold cq;rw[Pq];have h1:=pL O.mo Zr (é hs ds);have h2:=O.ml;have h3:(fG N (Î ((↥hs:Nat)+1) ds)).length<=51:=by
  generalize ((↥hs:Nat):Int)+1=n;have dl:=O.dl;match ds,dl with
  | [a,b,c],_=>
   obtain⟨_,_,o0,_,h0⟩:=O.de.at' 0 a rfl;obtain⟨_,_,o1,_,h1⟩:=O.de.at' 1 b rfl;obtain⟨_,_,o2,_,h2⟩:=O.de.at' 2 c rfl;rw[Î,Î,Î,Î];show(bD (Zq (N a.1)) Zr (bp _ a.2.2)++(bD (Zq (N b.1)) Zr (bp _ b.2.2)++(bD (Zq (N c.1)) Zr (bp _ c.2.2)++[]))).length<=51;simp only[Pq,Qw];have:=pL o0 (Zq (N a.1)) (n+1);have:=pL o1 (Zq (N b.1)) (n+((Ċ a).length:Nat)+1);have:=pL o2 (Zq (N c.1)) (n+((Ċ a).length:Nat)+((Ċ b).length:Nat)+1);lia
 lia
def MN(ps:List Nat)(dd:List (Nat×Nat)):Fr->Prop
 | .leaf r=>∃lp,Ai ps dd lp r
 | .bq _ _=>False
 | .main=>False
 |_=>True
mutual
theorem Pm:∀(t:Tr)(b:Bool),è ps dd b t->∀f∈Ò t,MN ps dd f
 | .leaf r,b,ok=>by
  rw[è]at ok;rw[Ò];intro f hf;rw[Pu.mp hf];exact⟨b,ok⟩
 | .iff v a c f o,b,ok=>by
  rw[è]at ok;rw[Ò];intro e he;rcases Py.mp he with rfl|he
  ·trivial
  rcases Pz.mp he with he|he
  ·exact we f b ok.2.1 e he
  rcases Py.mp he with rfl|he
  ·trivial
  rcases Pz.mp he with he|he
  ·exact we o b ok.2.2 e he
  rw[Pu.mp he];trivial
 | .loop t m a c d,b,ok=>by
  rw[è]at ok;rw[Ò];intro e he;rcases Py.mp he with rfl|he
  ·trivial
  rcases Pz.mp he with he|he
  ·exact we d true ok.2.2.2 e he
  rw[Pu.mp he];trivial
theorem we:∀(ts:List Tr)(b:Bool),cS ps dd b ts->∀f∈aA ts,MN ps dd f
 | [],b,ok=>by
  rw[aA];intro f hf;cases hf
 |t::ts,b,ok=>by
  rw[cS]at ok;rw[aA];intro f hf;rcases Pz.mp hf with hf|hf
  ·exact Pm t b ok.1 f hf
  exact we ts b ok.2 f hf
end
theorem KC(nm:jc N)(hx:x<24)(h0:0<=n)(h1:n<=1000):N x≠aX n:=λe=>by
 have h:32∈(aX n).cps.toList:=by
  unfold aX;show 32∈(((SQ++("row ":Str)).cps++(UU (toString n)).cps)).toList;rw[Qj];exact PY _ ∅
 rw[<-e]at h;have:=(nm.ch x hx 32 h).1;lia
theorem yR:∀fs s l n,(bS N s l n fs).Pairwise (λa b=>a.2.1<b.2.1)/\∀e∈bS N s l n fs,n<=e.2.1/\e.2.1<n+(↥fs:Nat)
 | [],s,l,n=>{X5,λe h=>by cases h}
 |f::fs,s,l,n=>by
  obtain⟨h1,h2⟩:=yR fs (Ŕ N s n f) (LO l n f) (n+1);rw[bS,PD];split
  ·refine{List.pairwise_append.mpr {Wj _ _,h1,λa ha b hb=>?_},λe he=>?_}
   ·rw[Pu.mp ha];have:=(h2 b hb).1;show n<b.2.1;lia
   rcases Pz.mp he with he|he
   ·rw[Pu.mp he];exact{RY _,by show n<_;lia}
   have:=h2 e he;lia
  exact{h1,λe he=>by have:=h2 e he;lia}
theorem xn(O:eV hs ds mb):(Ć hs ds mb).length<=118:=by
 obtain⟨l1,l2,l3⟩:=yj O;unfold Ć;rw[Pq,Pq,Pr,PD,Pq,Pw];lia
theorem ET(O:eV hs ds mb):(cq N (Î ((↥hs:Nat)+1) ds) (bp (é hs ds) mb)).Pairwise (λa b=>a.1.no<b.1.no)/\∀e∈cq N (Î ((↥hs:Nat)+1) ds) (bp (é hs ds) mb),1<=e.1.no/\e.1.no<=300:=by
 obtain⟨b1,_⟩:=Et (N:=N) O;obtain⟨h1,h2⟩:=yR (N:=N) (Ć hs ds mb) [] [] 1;rw[b1]at h1 h2;rw[Ra]at h1;have l:=xn O;refine{h1,λe he=>?_};have:1<=e.1.no/\e.1.no<1+((Ć hs ds mb).length:Nat):=h2 (eF e) (Qp he);lia
def ixH:Lr->List Nat
 | .ŏ i _ _=>[i]
 | .own i _=>[i]
 | .lt i _=>[i]
 |_=>[]
def ŋ(hs:List Lr)(ds:List De):List Nat:=hs.flatMap ixH++ds.flatMap λd=>d.1::d.2.1
theorem JT:∀hs n,(â n hs).filterMap (ō N)=(hs.flatMap ixH).map N
 | [],n=>by simp[â]
 |r::hs,n=>by
  rw[â,QU,QA,Qg,<-JT hs (n+1)];cases r<;>rfl
theorem JQ:∀ds n,((Î n ds).flatMap λp=>ö N p::ő N p)=(ds.flatMap λd=>d.1::d.2.1).map N
 | [],n=>by simp[Î]
 |d::ds,n=>by
  rw[Î,QA,QA,Qg,<-JQ ds];rfl
theorem LQ:∀n0,n0<5->∀n1,n1<5->∀n2,n2<3->([1,2,3,4,5,6,7,19,20]++((9::Ę 0 n0)++((10::Ę 1 n1)++((21::Ę 2 n2)++[])))).Nodup/\∀i∈[1,2,3,4,5,6,7,19,20]++((9::Ę 0 n0)++((10::Ę 1 n1)++((21::Ę 2 n2)++[]))),i<24:=∅
theorem xr(O:eV hs ds mb):(ŋ hs ds).Nodup/\(∀i∈ŋ hs ds,i<24)/\(ŋ hs ds).length<=22:=by
 obtain⟨rk,z,t,e1,_⟩:=O.hd;have ed:∃n0 n1 n2,n0<5/\n1<5/\n2<3/\(ds.flatMap λd=>d.1::d.2.1)=(9::Ę 0 n0)++((10::Ę 1 n1)++((21::Ę 2 n2)++[])):=by
  have hl:=O.dl;match ds,hl,O.de with
  | [a,b,c],_,de=>
   obtain⟨a1,⟨n0,h0,a2⟩,_⟩:=de.at' 0 a rfl;obtain⟨b1,⟨n1,h1,b2⟩,_⟩:=de.at' 1 b rfl;obtain⟨c1,⟨n2,h2,c2⟩,_⟩:=de.at' 2 c rfl;refine{n0,n1,n2,h0,h1,h2,?_};rw[QA,QA,QA,a1,a2,b1,b2,c1,c2];rfl
 obtain⟨n0,n1,n2,h0,h1,h2,ed⟩:=ed;have pm:(ŋ hs ds).Perm ([1,2,3,4,5,6,7,19,20]++((9::Ę 0 n0)++((10::Ę 1 n1)++((21::Ę 2 n2)++[])))):=by
  unfold ŋ;rw[ed];refine UE _ ?_;rw[e1];unfold rJ;have:(oJ rk z).flatMap ixH=[1,2,3,4,5,6,7,19,20]:=rfl;rw[<-this];refine Wk _ (QL.trans ?_);rw[Qm]
 obtain⟨d1,d2⟩:=LQ n0 h0 n1 h1 n2 h2;refine{pm.nodup_iff.mpr d1,λi hi=>d2 i (pm.mem_iff.mp hi),?_};rw[pm.length_eq];simp[Ę];lia
theorem kq (ms n):bg N (â 1 hs) (Î n ds) ms=(ŋ hs ds).map N++fe (cq N (Î n ds) ms)++[("the clock":Str)]:=by
 unfold bg ŋ;rw[JT,JQ,Qg]
theorem DR(h0:0<=n)(h1:n<=1000):aX n≠"the clock":=HP h0 h1 ∅
theorem EE(nm:jc N)(hx:x<24):N x≠"the clock":=λe=>by
 have h:32∈("the clock":Str).cps.toList:=∅
 rw[<-e]at h;have:=(nm.ch x hx 32 h).1;lia
theorem Na(O:eV hs ds mb):(bg N (â 1 hs) (Î ((↥hs:Nat)+1) ds) (bp (é hs ds) mb)).length<=130:=by
 rw[kq,Pq,Pq,Pr,Pw];have h1:=(xr O).2.2;have h2:=vO (cq N (Î ((↥hs:Nat)+1) ds) (bp (é hs ds) mb));have h3:=xB (N:=N) O;lia
theorem Ol(nm:jc N)(O:eV hs ds mb):(bg N (â 1 hs) (Î ((↥hs:Nat)+1) ds) (bp (é hs ds) mb)).Nodup:=by
 rw[kq];obtain⟨d1,d2,_⟩:=xr O;obtain⟨r1,r2⟩:=ET (N:=N) O;generalize cq N (Î ((↥hs:Nat)+1) ds) (bp (é hs ds) mb)=es at r1 r2;have rm:∀x∈fe es,∃n:Int,x=aX n/\0<=n/\n<=1000:=λx hx=>by
  obtain⟨e,he,rfl⟩:=PM.mp hx;have:=r2 e (Qs.mp he).1;exact{_,rfl,(),()}
 have nmM:((ŋ hs ds).map N).Nodup:=wW d1 λx hx y hy e=>nm.inj x y (d2 x hx) (d2 y hy) e;have rwM:(fe es).Nodup:=by
  unfold fe Tf;rw[Ra];refine(r1.filter _).imp_of_mem λ{a b} ha hb h e=>?_;have a1:=r2 a (Qs.mp ha).1;have b1:=r2 b (Qs.mp hb).1;have:=Je () () () () e;lia
 refine QR.mpr {QR.mpr {nmM,rwM,λa ha b hb e=>?_},by simp,λa ha b hb e=>?_}
 ·obtain⟨i,hi,rfl⟩:=PM.mp ha;obtain⟨n,rfl,n0,n1⟩:=rm b hb;exact KC nm (d2 i hi) n0 n1 e
 rw[Pu.mp hb]at e;rcases Pz.mp ha with ha|ha
 ·obtain⟨i,hi,rfl⟩:=PM.mp ha;exact EE nm (d2 i hi) e
 obtain⟨n,rfl,n0,n1⟩:=rm a ha;exact DR n0 n1 e
theorem MQ(nm:jc N){hs:List Lr}{ds:List De}{mb:List Tr}(O:eV hs ds mb):Ok N 6 (â 1 hs) (Î ((↥hs:Nat)+1) ds) (bp (é hs ds) mb) where
 bq:=λp m=>by
  obtain⟨k,hk⟩:=Qb m;obtain⟨d,n',h1,_,_,rfl⟩:=dU hk;refine{trivial,?_};show nN (bp (n'+1) d.2.2)<=6;rw[oB];exact(O.de.at' k d h1).2.2.2.1
 main:=by rw[oB];exact O.md
 nb:=λe he=>by
  have:=(ET (N:=N) O).2 e he;exact{(),()}
 ln:=P2 (xB O) ∅
 hl:=by rw[xy,(yj O).1];decide
 pl:=P2 (Na O) ∅
 nd:=Ol nm O
theorem L5(nm:jc N)(hx:x<24):SR (N x)=true:=by
 unfold SR;rw[Array.all_eq_true];intro i hi;have:=nm.ch x hx (N x).cps[i] (by rw[RS];exact X7 hi);exact decide_eq_true ()
theorem F4:∀n:Fin 301,SR (aX (n.val:Int))=true:=by decide+kernel
theorem AD(nm:jc N)(O:eV hs ds mb):∀x∈bg N (â 1 hs) (Î ((↥hs:Nat)+1) ds) (bp (é hs ds) mb),SR x=true:=by
 rw[kq];obtain⟨d1,d2,_⟩:=xr O;obtain⟨r1,r2⟩:=ET (N:=N) O;intro x hx;rcases Pz.mp hx with hx|hx
 ·rcases Pz.mp hx with hx|hx
  ·obtain⟨i,hi,rfl⟩:=PM.mp hx;exact L5 nm (d2 i hi)
  obtain⟨e,he,rfl⟩:=PM.mp hx;have:=r2 e (Qs.mp he).1;have h:=F4 {e.1.no.toNat,()};rwa [show((e.1.no.toNat:Nat):Int)=e.1.no by lia]at h
 rw[Pu.mp hx];decide+kernel
def Kd(dd:List (Nat×Nat)):Pt->Prop
 | .leaf _ (.call i us)=>(i,↥us)∈dd
 |_=>True
def Pe(dd:List (Nat×Nat))(a z:Int)(e:Le):Prop:=k5 e.1=true/\lOk e.1 e.2.2/\Kd dd e.1/\a<=e.1.no/\e.1.no<z
theorem Pe.mono(h:Pe dd a z e)(ha:a'<=a)(hz:z<=z'):Pe dd a' z' e:={h.1,h.2.1,h.2.2.1,by have:=h.2.2.2.1;lia,by have:=h.2.2.2.2;lia}
mutual
theorem Ph:∀(t:Tr)(b:Bool)(pl lp:Option Str)(n:Int),è ps dd b t->(b=true->lp.isSome=true)->∀e∈(ç n t,pl,lp)::dE lp (ç n t),Pe dd n (n+((Ò t).length:Nat)) e
 | .leaf r,b,pl,lp,n,ok,hb=>by
  rw[è]at ok;rw[ç,dE,Ò];intro e he;rw[Pu.mp he];refine{?_,λz=>?_,?_,RY _,by show n<n+((1:Nat):Int);lia}
  ·cases r<;>first|rfl|exact ok.elim
  ·cases r with
   |last=>exact hb ok
   |_=>cases z
  cases r with
  |call i us=>exact ok.1
  |_=>trivial
 | .iff v a c f o,b,pl,lp,n,ok,hb=>by
  rw[è]at ok;rw[ç,dE,Ò,PD,Pq,PD,Pq,Pw];intro e he;rcases Py.mp he with rfl|he
  ·exact{rfl,(λz=>by cases z),trivial,RY _,by show n<_;lia}
  rcases Pz.mp he with he|he
  ·exact(wk f b _ lp (n+1) ok.2.1 hb e he).mono () (by push_cast;lia)
  exact(wk o b _ lp _ ok.2.2 hb e he).mono () (by push_cast;lia)
 | .loop t m a c d,b,pl,lp,n,ok,hb=>by
  rw[è]at ok;rw[ç,dE,Ò,PD,Pq,Pw];intro e he;rcases Py.mp he with rfl|he
  ·exact{rfl,(λz=>by cases z),trivial,RY _,by show n<_;lia}
  exact(wk d true _ _ (n+1) ok.2.2.2 (λ_=>rfl) e he).mono () (by push_cast;lia)
theorem wk:∀(ts:List Tr)(b:Bool)(pl lp:Option Str)(n:Int),cS ps dd b ts->(b=true->lp.isSome=true)->∀e∈bD pl lp (bp n ts),Pe dd n (n+((aA ts).length:Nat)) e
 | [],b,pl,lp,n,ok,hb=>by
  rw[bp,bD];intro e he;cases he
 |t::ts,b,pl,lp,n,ok,hb=>by
  rw[cS]at ok;rw[bp,GO,aA,Pq];intro e he;rw[<-Qr]at he;rcases Pz.mp he with he|he
  ·exact(Ph t b pl lp n ok.1 hb e he).mono () (by push_cast;lia)
  exact(wk ts b pl lp _ ok.2 hb e he).mono () (by push_cast;lia)
end
mutual
theorem J0(hi:∀e∈dd,e.1∈idx):∀(t:Tr)(b:Bool)(n:Int),è ps dd b t->Ņ idx (ç n t)
 | .leaf r,b,n,ok=>by
  rw[è]at ok;rw[ç];cases r with
  |call i us=>
   rw[Ņ];exact hi _ ok.1
  |_=>simp[Ņ]
 | .iff v a c f o,b,n,ok=>by
  rw[è]at ok;rw[ç,Ņ];exact{uD hi f b _ ok.2.1,uD hi o b _ ok.2.2}
 | .loop t m a c d,b,n,ok=>by
  rw[è]at ok;rw[ç,Ņ];exact{by have:=ok.2.1;lia,by have:=ok.2.2.1;lia,uD hi d true _ ok.2.2.2}
theorem uD(hi:∀e∈dd,e.1∈idx):∀(ts:List Tr)(b:Bool)(n:Int),cS ps dd b ts->uw idx (bp n ts)
 | [],b,n,ok=>by rw[bp,uw];trivial
 |t::ts,b,n,ok=>by
  rw[cS]at ok;rw[bp,uw];exact{J0 hi t b n ok.1,uD hi ts b _ ok.2}
end
theorem AK:∀ds n,(Î n ds).map ī=ds.map (·.1)
 | [],n=>rfl
 |d::ds,n=>by rw[Î,P0,P0,AK ds];rfl
theorem EO(nm:jc N)(O:eV hs ds mb)(m:d∈ds) (n):Ĵ N (Î n ds) (N d.1)=d.2.1.map N:=by
 obtain⟨k,hk⟩:=Qb m;have kl:k<(Î n ds).length:=by rw[r9];exact(PQ.mp hk).1
 obtain⟨p,hp⟩:∃p,(Î n ds)[k]?=Zq p:={_,PB kl};obtain⟨d',n',h1,_,_,rfl⟩:=dU hp;rw[hk]at h1;cases h1;exact BY (N:=N) (ds:=Î n ds) (by rw[xj];exact JW nm O) (P4 hp)
theorem uk(nm:jc N)(O:eV hs ds mb):∀e∈cq N (Î ((↥hs:Nat)+1) ds) (bp (é hs ds) mb),k5 e.1=true/\lOk e.1 e.2.2/\Kd (je ds) e.1/\1<=e.1.no/\e.1.no<=1000:=by
 obtain⟨l1,l2,l3⟩:=yj O;intro e he;unfold cq at he;rcases Pz.mp he with he|he
 ·unfold fG at he;obtain⟨p,mp,he⟩:=Qu.mp he;obtain⟨k,hk⟩:=Qb mp;obtain⟨d,n',h1,h2,h3,rfl⟩:=dU hk;obtain⟨_,_,ok,_⟩:=O.de.at' k d h1;obtain⟨a1,a2,a3,a4,a5⟩:=wk d.2.2 false (Zq (N d.1)) Zr (n'+1) ok (λz=>by cases z) e he;have lf:(Ċ d).length=(aA d.2.2).length+2:=by unfold Ċ;simp
  refine{a1,a2,?_,(),()};revert a3
  cases e.1 with
  |leaf m r=>
   cases r with
   |call i us=>
    intro a3;obtain⟨d',md,e'⟩:=PM.mp a3;exact PM.mpr ⟨d',QP md,e'⟩
   |_=>exact id
  |_=>exact id
 obtain⟨a1,a2,a3,a4,a5⟩:=wk mb false Zr Zr (é hs ds) O.mo (λz=>by cases z) e he;unfold é at a4 a5;exact{a1,a2,a3,(),()}
theorem Kw(nm:jc N)(O:eV hs ds mb) (n) (h:Kd (je ds) t):Fp N (Ĵ N (Î n ds)) ((Î n ds).map (ö N)) t:=by
 cases t with
 |leaf m r=>
  cases r with
  |call i us=>
   obtain⟨d,md,e⟩:=PM.mp h;obtain⟨e1,e2⟩:=VX e;subst e1;refine{?_,?_}
   ·rw[xj];exact PM.mpr ⟨d,md,rfl⟩
   rw[EO nm O md,Pr];exact e2.symm
  |_=>trivial
 |_=>trivial
theorem Ek(h:∀m i us,t=.leaf m (.call i us)->↥us=(po (N i)).length/\(po (N i)).length<=4):(vf N po t pl lp).length<=9:=by
 have d:=λinto kd=>xS (N:=N) t into kd pl;cases t with
 |leaf m r=>
  cases r with
  |call i us=>
   obtain⟨h1,h2⟩:=h m i us rfl;show(ό N m (us.zip (po (N i)))++Ϸ pl m (po (N i)++[N i])).length<=9;have a:=wD (wN N m) (xJ m) (us.zip (po (N i)));have b:=wD (λinto=>ô [pl] into "under" m) (λx=>cB _ _ _ _) (po (N i)++[N i]);rw[Ri]at a;rw[Pq,Pw]at b;unfold ό Ϸ;rw[Pq];lia
  |set x v=>exact P2 (d _ _) ∅
  |put x p v=>exact P2 (d _ _) ∅
  |snd x v=>exact P2 (d _ _) ∅
  |say x v k=>
   show(saL pl (N x) (N k) m).length<=9;unfold saL;have a:=cB [Zq (N k)] (N x) "value" m;have b:=cB [pl] (N x) "under" m;have c:=cB [pl] (aX m) "under" m;simp only[Pw]at a b c;rw[Pq,Pq];lia
  |last=>exact P2 (cB [pl] _ _ _) (by show 1<=9;decide)
  |_=>exact PZ _
 |iff _ _ _ _ _ _=>exact P2 (d _ _) ∅
 |loop _ _ _ _ _ _=>exact P2 (d _ _) ∅
 |bq _ _ _ _=>exact PZ _
theorem Fj(h:∀m i us,e.1=.leaf m (.call i us)->↥us=(Ĵ N ds (N i)).length/\(Ĵ N ds (N i)).length<=4):(uR N b ds e).length<=9:=by
 have h9:=Ek (N:=N) (pl:=e.2.1) (lp:=e.2.2) h;have s1:(ua b (Ğ cO Zr ds) e.1).length<=1:=by
  unfold ua;split
  ·exact Eo _ _
  exact PZ _
 unfold uR;rw[Pq];obtain⟨t,pl,lp⟩:=e;have d:=λinto kd=>xS (N:=N) t into kd pl;have cut:(vf N (Ĵ N ds) t pl lp).length<=8->(vf N (Ĵ N ds) t pl lp).length+(ua b (Ğ cO Zr ds) t).length<=9:=λz=>by
  have s1:(ua b (Ğ cO Zr ds) t).length<=1:=s1;lia
 show(vf N (Ĵ N ds) t pl lp).length+(ua b (Ğ cO Zr ds) t).length<=9;cases t with
 |leaf m r=>
  cases r with
  |call i us=>
   have:ua b (Ğ cO Zr ds) (.leaf m (.call i us))=[]:=by cases b<;>rfl
   rw[this];exact h9
  |set x v=>exact cut (P2 (d _ _) ∅)
  |put x p v=>exact cut (P2 (d _ _) ∅)
  |snd x v=>exact cut (P2 (d _ _) ∅)
  |say x v k=>
   refine cut ?_;show(saL pl (N x) (N k) m).length<=8;unfold saL;have a:=cB [Zq (N k)] (N x) "value" m;have b:=cB [pl] (N x) "under" m;have c:=cB [pl] (aX m) "under" m;simp only[Pw]at a b c;rw[Pq,Pq];lia
  |last=>exact cut (P2 (cB [pl] _ _ _) (by show 1<=8;decide))
  |_=>exact cut (PZ _)
 |iff _ _ _ _ _ _=>exact cut (P2 (d _ _) ∅)
 |loop _ _ _ _ _ _=>exact cut (P2 (d _ _) ∅)
 |bq _ _ _ _=>exact cut (PZ _)
def IP(ps:List Nat)(dd:List (Nat×Nat))(k:Nat)(p:Pt):Prop:=∃(t:Tr)(n:Int)(b:Bool),p=ç n t/\è ps dd b t/\ă t<=k
mutual
theorem Nu:∀(t:Tr)(b:Bool)(pl lp:Option Str)(n:Int),è ps dd b t->∀e∈(ç n t,pl,lp)::dE lp (ç n t),IP ps dd (ă t) e.1
 | .leaf r,b,pl,lp,n,ok=>by
  intro e he;rw[ç,dE]at he;rw[Pu.mp he];exact{.leaf r,n,b,by rw[ç],ok,Px _}
 | .iff v a c f o,b,pl,lp,n,ok=>by
  intro e he;rcases Py.mp he with rfl|he
  ·exact{_,n,b,rfl,ok,Px _}
  rw[è]at ok;rw[ç,dE]at he;rw[ă];rcases Pz.mp he with he|he
  ·obtain⟨t,m,b',h1,h2,h3⟩:=nq f b _ lp _ ok.2.1 e he;exact{t,m,b',h1,h2,()}
  obtain⟨t,m,b',h1,h2,h3⟩:=nq o b _ lp _ ok.2.2 e he;exact{t,m,b',h1,h2,()}
 | .loop t m a c d,b,pl,lp,n,ok=>by
  intro e he;rcases Py.mp he with rfl|he
  ·exact{_,n,b,rfl,ok,Px _}
  rw[è]at ok;rw[ç,dE]at he;rw[ă];obtain⟨t,m,b',h1,h2,h3⟩:=nq d true _ _ _ ok.2.2.2 e he;exact{t,m,b',h1,h2,()}
theorem nq:∀(ts:List Tr)(b:Bool)(pl lp:Option Str)(n:Int),cS ps dd b ts->∀e∈bD pl lp (bp n ts),IP ps dd (cE ts) e.1
 | [],b,pl,lp,n,ok=>by
  intro e he;rw[bp,bD]at he;cases he
 |t::ts,b,pl,lp,n,ok=>by
  intro e he;rw[cS]at ok;rw[bp,GO]at he;rw[cE];rcases Pz.mp (show e∈((ç n t,pl,lp)::dE lp (ç n t))++bD pl lp (bp (n+((Ò t).length:Nat)) ts)from he)with he|he
  ·obtain⟨t,m,b',h1,h2,h3⟩:=Nu t b pl lp n ok.1 e he;exact{t,m,b',h1,h2,()}
  obtain⟨t,m,b',h1,h2,h3⟩:=nq ts b pl lp _ ok.2 e he;exact{t,m,b',h1,h2,()}
end
theorem NV(O:eV hs ds mb):∀e∈cq N (Î ((↥hs:Nat)+1) ds) (bp (é hs ds) mb),Ņ ((Î ((↥hs:Nat)+1) ds).map ī) e.1/\dep e.1<=6:=by
 intro e he;rw[AK];have go:∀{ps:List Nat}{dd:List (Nat×Nat)}{k:Nat},IP ps dd k e.1->(∀x∈dd,x.1∈ds.map (·.1))->k<=6->Ņ (ds.map (·.1)) e.1/\dep e.1<=6:=by
  intro ps dd k ⟨t,n,b,h1,h2,h3⟩ hd hk;rw[h1];exact{J0 hd t b n h2,by rw[JM];lia}
 unfold cq at he;rcases Pz.mp he with he|he
 ·unfold fG at he;obtain⟨p,mp,he⟩:=Qu.mp he;obtain⟨k,hk⟩:=Qb mp;obtain⟨d,n',h1,h2,h3,rfl⟩:=dU hk;obtain⟨_,_,ok,dpd,_⟩:=O.de.at' k d h1;refine go (nq d.2.2 false _ _ _ ok e he) (λx hx=>?_) dpd;obtain⟨d',m',rfl⟩:=PM.mp hx;exact PM.mpr ⟨d',QP m',rfl⟩
 refine go (nq mb false _ _ _ O.mo e he) (λx hx=>?_) O.md;obtain⟨d',m',rfl⟩:=PM.mp hx;exact PM.mpr ⟨d',m',rfl⟩
theorem J6{α β:Type}(f:α->List β) (k):∀(l:List α),(∀x∈l,(f x).length<=k)->(l.flatMap f).length<=k*↥l
 | [],_=>PZ _
 |x::l,h=>by
  have h1:=J6 f k l λy hy=>h y (PC _ hy);have h2:=h x PH;rw[QA,Pq,PD,Nat.mul_succ];lia
theorem LX(nm:jc N){hs:List Lr}{ds:List De}{mb:List Tr}(O:eV hs ds mb):OkL N 6 (â 1 hs) (Î ((↥hs:Nat)+1) ds) (bp (é hs ds) mb) where
 ok:=MQ nm O
 dk:={
  bq:=λp m=>by
   obtain⟨k,hk⟩:=Qb m;obtain⟨d,n',h1,_,_,rfl⟩:=dU hk;trivial
  dp:=λp m=>by
   obtain⟨k,hk⟩:=Qb m;obtain⟨d,n',h1,_,_,rfl⟩:=dU hk;show nN (bp (n'+1) d.2.2)<=6;rw[oB];exact(O.de.at' k d h1).2.2.2.1
  ck:=λk p hk=>by
   obtain⟨d,n',h1,_,_,rfl⟩:=dU hk;rw[yM,AK];refine uD (λe he=>?_) d.2.2 false _ (O.de.at' k d h1).2.2.1;obtain⟨d',m',rfl⟩:=PM.mp he;exact PM.mpr ⟨d',m',rfl⟩
  nm:=λi j p q hp hq e=>by
   obtain⟨d,n',h1,_,_,rfl⟩:=dU hp;obtain⟨d',n'',h2,_,_,rfl⟩:=dU hq;have e:N d.1=N d'.1:=e;have i3:i<3:=by rw[<-O.dl];exact(PQ.mp h1).1
   have j3:j<3:=by rw[<-O.dl];exact(PQ.mp h2).1
   rw[(O.de.at' i d h1).1,(O.de.at' j d' h2).1]at e;exact Jw i3 j3 (nm.inj _ _ Az Az e)
  ln:=by rw[r9,O.dl];decide }
 nn:=by rw[xj];exact JW nm O
 pn:=λp m=>by
  obtain⟨k,hk⟩:=Qb m;obtain⟨d,n',h1,_,_,rfl⟩:=dU hk;show(d.2.1.map N).length<=100;rw[Pr];exact P2 (y9 O (P4 h1)) ∅
 k5:=λe he=>(uk nm O e he).1
 lo:=λe he=>(uk nm O e he).2.1
 cal:=λe he=>Kw nm O _ (uk nm O e he).2.2.1
 ck:=NV O
 ll:=λb=>by
  unfold bI;refine P2 (J6 _ 9 _ λe he=>Fj λm i us ee=>?_) (P2 (Nat.mul_le_mul_left 9 (xB O)) ∅);have h:=(uk nm O e he).2.2.1;rw[ee]at h;obtain⟨d,md,e'⟩:=PM.mp h;obtain⟨e1,e2⟩:=VX e';subst e1;rw[EO nm O md,Pr];exact⟨e2.symm,y9 O md⟩
mutual
noncomputable def exT(kn:Nat->Option Int):Tr->Option Int
 | .leaf (.call i _)=>D7 1 (kn i)
 | .leaf _=>Zq 1
 | .iff _ l r f o=>NS l r (gi kn f) (gi kn o)
 | .loop _ m l r b=>N3 m l r (gi kn b)
noncomputable def gi(kn:Nat->Option Int):List Tr->Option Int
 | []=>Zq 0
 |t::ts=>jh (exT kn t) (gi kn ts)
end
mutual
noncomputable def cT(idx:List Nat):Tr->Prop
 | .leaf (.call i _)=>i∈idx
 | .leaf _=>True
 | .iff _ _ _ f o=>ċ idx f/\ċ idx o
 | .loop _ m _ _ b=>0<=m/\m<=1000/\ċ idx b
noncomputable def ċ(idx:List Nat):List Tr->Prop
 | []=>True
 |t::ts=>cT idx t/\ċ idx ts
end
mutual
theorem Nk(hi:∀e∈dd,e.1∈idx):∀(t:Tr)(b:Bool),è ps dd b t->cT idx t
 | .leaf r,b,ok=>by
  rw[è]at ok;cases r with
  |call i us=>
   rw[cT];exact hi _ ok.1
  |_=>simp[cT]
 | .iff v a c f o,b,ok=>by
  rw[è]at ok;rw[cT];exact⟨qf hi f b ok.2.1,qf hi o b ok.2.2⟩
 | .loop t m a c d,b,ok=>by
  rw[è]at ok;rw[cT];exact{by have:=ok.2.1;lia,by have:=ok.2.2.1;lia,qf hi d true ok.2.2.2}
theorem qf(hi:∀e∈dd,e.1∈idx):∀(ts:List Tr)(b:Bool),cS ps dd b ts->ċ idx ts
 | [],b,ok=>by rw[ċ];trivial
 |t::ts,b,ok=>by
  rw[cS]at ok;rw[ċ];exact⟨Nk hi t b ok.1,qf hi ts b ok.2⟩
end
theorem BE:∀{a b:List Tr},ċ idx (a++b)->ċ idx a/\ċ idx b
 | [],b,h=>{by rw[ċ];trivial,h}
 |t::a,b,h=>by
  rw[Qr,ċ]at h;have:=BE h.2;exact{by rw[ċ];exact⟨h.1,this.1⟩,this.2}
theorem Pa (x):jh x (Zq 0)=x:=by
 cases x with
 |none=>rfl
 |some a=>
  show Zq (a+0)=Zq a;rw[Int.add_zero]
theorem O6 (x):jh (Zq 0) x=x:=by
 cases x with
 |none=>rfl
 |some a=>
  show Zq (0+a)=Zq a;rw[Ss]
theorem wc(kn:Nat->Option Int)(t:Tr):∀a:List Tr,gi kn (a++[t])=jh (gi kn a) (exT kn t)
 | []=>by
  rw[Qi];simp only[gi];rw[Pa,O6]
 |u::a=>by rw[Qr,gi,gi,wc kn t a,qU]
theorem EW:∀i:Fin 11,i.val≠9->υ i.val≠"call":=by decide+kernel
theorem Hw (r):(∃i us,r=.call i us)\/(¬ decide (V.str r.wd=V.str "call")=true/\∀kn,exT kn (.leaf r)=Zq 1):=by
 by_cases c:r.ci=9
 ·cases r<;>first|exact .inl {_,_,rfl}|cases c
 refine .inr {λz=>?_,λkn=>?_}
 ·have:=Bt r;have e:=V.str.inj (of_decide_eq_true z);rw[CJ]at e;exact EW {r.ci,()} c e
 cases r with
 |call _ _=>exact absurd rfl c
 |_=>simp[exT]
theorem lG.mono(h:lG N H D idx kn)(s:aj H H'):lG N H' D idx kn:=by
 obtain⟨kvs,h1,h2⟩:=h;exact{kvs,s _ _ h1,h2}
inductive nC(d:Nat)(vs:List V)(H:Hp)(Q:VK)(Ä:XK):Prop
 |mk (N X L xs fs pre post ts st D idx) (kn:Nat->Option Int) (z0:vs=[.ref L,.int (↥pre:Nat),.ref D]) (z1:aj X H) (z2:X L=Zq (.lst xs)) (z3:aY N X fs xs) (z4:fs=pre++aA ts++st::post) (z5:ze st=true) (z6:cE ts<=d) (z7:ċ idx ts) (z8:lG N H D idx λi=>oI (kn i)) (z9:↥xs<=300)
  (z10:∀(p H'),aj H H'->H' p=Zq (.tup [oI (gi kn ts),.int ((↥pre+(aA ts).length:Nat):Int)])->Q (.ref p) H'):nC d vs H Q Ä
inductive EZ(ts:List Tr)(L:Sv)(pre:List Fr)(D:Sv)(kn:Nat->Option Int)(H:Hp)(m:Nat)(B:St)(Hc:Hp):Prop
 |mk (dn rest v4 v5 v6 v7):ts=dn++rest->↥rest=m->B=[Zq (.ref L),Zq (.int ((↥pre+(aA dn).length:Nat):Int)),Zq (.ref D),Zq (oI (gi kn dn)),v4,v5,v6,v7]->aj H Hc->EZ ts L pre D kn H m B Hc
inductive F1(m:Nat)(ts:List Tr)(L:Sv)(pre:List Fr)(D:Sv)(kn:Nat->Option Int)(H:Hp)(B:St)(Hc:Hp):Prop
 |mk (dn rest v4 v5 v6 v7 m'):m'<m->ts=dn++rest->↥rest=m'->B=[Zq (.ref L),Zq (.int ((↥pre+(aA dn).length:Nat):Int)),Zq (.ref D),Zq (oI (gi kn dn)),v4,v5,v6,v7]->aj H Hc->F1 m ts L pre D kn H B Hc
theorem vB(T:Txt K mg A) (d j) (bu:T.hU.Hz P w base j (spN nC d)):T.hU.Hz P w base (j+1) (nC d):=by
 refine T.hU.hs (k:=j) aU (λf Ã A' outer s H vs Q E hr hu h=>?_);obtain⟨N,X,L,xs,fs,pre,post,ts,st,D,idx,kn,rfl,s0,hL,fr,ć,hst,dp,ck,hD,lx,q⟩:=h;have lfs:↥fs<=300:=by rw[Sz fr];exact lx
 refine⟨_,(ab (Æ 3 aU.nd af)
  (ab (fC SH (Ë (dP hu) (px hu (px hu (fv 0) (fv 1)) af) (aT (aw^aw^ae)) ((by with_unfolding_all rfl)))
   (ab (Æ 4 aU.nd (px hu (fv 0) (fv 1)))
   (ab (Æ 5 aU.nd af)
   (ab (aS (Ë (bU hu) (px hu (fv 4) af) aw)
    (ai (Æ 5 aU.nd (px hu (fv 2) (px hu (fv 4) af))))
    (ai (aS (Ë (bU hu) (px hu (fv 4) af) aw)
     (ab (bX (ak (hj:=by lia) bu hr (fv 0^az aO (fv 1) af^fv 2^ae)) (dg rfl (aK (Ð (i:=6) aU.nd rfl) (aK (Ð (i:=1) aU.nd rfl) cu))))
     (ab (bX (ak (hj:=by lia) bu hr (fv 0^az aO (fv 1) af^fv 2^ae)) (dg rfl (aK (Ð (i:=7) aU.nd rfl) (aK (Ð (i:=1) aU.nd rfl) cu))))
     (ab (Æ 5 aU.nd bJ)
     (ai (aS (PW.pt (pw_and (Ë eG (fv 6) bJ) (pw_and (Ë eG (fv 7) bJ) (pw_and1 (Ë (bU hu) (az aO (px hu (fv 4) af) (fv 6)) (az aO (px hu (fv 4) af) (fv 7)))))))
      (ai (Æ 5 aU.nd (az aO (px hu (fv 4) af) (fv 6))))
      aF)))))
     (ai (aS (Ë (bU hu) (px hu (fv 4) af) aw)
      (ab (bX (ak (hj:=by lia) bu hr (fv 0^az aO (fv 1) af^fv 2^ae)) (dg rfl (aK (Ð (i:=6) aU.nd rfl) (aK (Ð (i:=1) aU.nd rfl) cu))))
      (ab (Æ 5 aU.nd bJ)
      (ai (aS (PW.pt (pw_and (Ë eG (fv 6) bJ) (pw_and1 (Ë (bU hu) (az aO (px hu (fv 4) af) (fv 6)) (px hu (fv 4) af)))))
       (ai (Æ 5 aU.nd (az dD (px hu (fv 4) af) (px hu (fv 4) af))))
       aF))))
      aF)))))
   (ab (aS (PW.pt (pw_and (Ë eG (fv 3) bJ) (pw_and1 (Ë eG (fv 5) bJ))))
    (ai (Æ 3 aU.nd (az aO (az aO (fv 3) af) (fv 5))))
    (ai (Æ 3 aU.nd bJ)))
   (ai (Æ 1 aU.nd (az aO (fv 1) af))))))))
  (ai (aD (aT (fv 3^fv 1^ae)))))),?_⟩
 refine ag λM1 K1=>K1 _ _ ?_;clear K1 M1;rfl'
 refine ag λM1 K1=>{EZ ts L pre D kn H,{↥ts,[],ts,Zr,Zr,Zr,Zr,rfl,rfl,by rw[aA,gi];rfl,aj.refl _},?_};rintro m B Hc ⟨dn,rest,v4,v5,v6,v7,ĩ,em,rfl,sH⟩;have sX:=s0.trans sH;have Ĺ:=À.of (K:=K) (sX _ _ hL);cases rest with
 |nil=>
  rw[Qd]at ĩ;subst ĩ;obtain⟨v,av,⟨a,p,rfl,ha,_⟩⟩:=i4 fr (a:=pre++aA ts) (f:=st) (b:=post) ć;rw[Pq]at av;refine ï Ĺ av (É (j:=0) (Ç.of (sX _ _ ha)) rfl {by show 2<=sizeLine;decide,λtp á=>?_});have Å:=aj.upd á (.tup [V.str "else",.str "end"]);exact P1 {_,QQ (Ç.of ao),rfl,rfl,_,rfl,aV (λz=>absurd z (by show ¬ (!ý (V.str st.wd) [V.str "else",V.str "end"])=true;rw[rP,hst];decide)) (λ_=>K1 _ _ {by show 2<=sizeLine;decide,λp hp=>q p _ (sH.trans (Å.trans (aj.upd hp _))) ao})}
 |cons t rest=>
 clear K1;obtain⟨tl,et⟩:=El t;have ν:fs=(pre++aA dn)++hdF t::(tl++aA rest++st::post):=by
  rw[ć,ĩ,dM,aA,et];simp
 obtain⟨v,av,ι⟩:=i4 fr ν;rw[Pq]at av;obtain⟨a,p,rfl,ha,Υ⟩:=ι;have ϗ:ze (hdF t)=false:=by cases t<;>rfl
 refine ï Ĺ av (É (j:=0) (Ç.of (sX _ _ ha)) rfl {by show 2<=sizeLine;decide,λtp á=>?_});obtain⟨s2,e2⟩:=Í á (HO.tup [V.str "else",.str "end"]);generalize upd Hc tp _=H2 at s2 e2⊢;refine P1 {_,QQ (Ç.of e2),rfl,rfl,_,rfl,aV (λ_=>?_) (λz=>absurd (by show(!ý (V.str (hdF t).wd) [V.str "else",V.str "end"])=true;rw[rP,ϗ];rfl) z)};refine{F1 m ts L pre D kn H,λB Hc ⟨dn,rest,v4,v5,v6,v7,m',ŗ,h1,h2,h3,h4⟩=>⟨m',ŗ,dn,rest,v4,v5,v6,v7,h1,h2,h3,h4⟩,?_};have ū:=sX.trans s2;have sH2:=sH.trans s2;have dpt:ă t<=d:=by
  rw[ĩ,lZ,cE]at dp;lia
 have ckt:cT idx t:=by
  rw[ĩ]at ck;have:=(BE ck).2;rw[ċ]at this;exact this.1
 rfl'
 refine ag λN1 J1=>ï (s2.seq Ĺ) av (J1 _ _ ?_);clear J1 N1;rfl'
 refine ag λN1 J1=>J1 _ _ ?_;clear J1 N1;rfl'
 refine ag λN1 J1=>?_;have fin:∀(x:Option Int)(H4:Hp)(u6 u7:Option V)(at':Int),aj H2 H4->exT kn t=D7 1 x->at'+1=((↥pre+(aA dn).length+(Ò t).length:Nat):Int)->
   N1 [Zq (.ref L),Zq (.int at'),Zq (.ref D),Zq (oI (gi kn dn)),Zq (.ref a),Zq (oI x),u6,u7] H4:=by
  intro x H4 u6 u7 at' s4 ex ea
  refine J1 _ _ ?_
  clear J1 N1
  refine ag λN2 J2=>?_
  have em':↥rest+1=m:=em
  have Ķ:N2 [Zq (.ref L),Zq (.int at'),Zq (.ref D),Zq (oI (gi kn (dn++[t]))),Zq (.ref a),Zq (oI x),u6,u7] H4:=by
   refine J2 _ _ {dn++[t],rest,Zq (.ref a),Zq (oI x),u6,u7,↥rest,(),by rw[ĩ];simp,rfl,?_,sH2.trans s4};show[_,Zq (V.int (at'+1)),_,_,_,_,_,_]=_;rw[ea,dM,pO,Pq,RJ]
  clear J2
  rw[wc,ex]at Ķ
  cases hb:gi kn dn with
  |none=>
   rw[hb]at Ķ;exact{rfl,_,rfl,a9 (a9 Ķ)}
  |some b=>
   rw[hb]at Ķ;refine{rfl,_,rfl,bQ ?_};cases x with
   |none=>exact{rfl,_,rfl,a9 Ķ}
   |some c=>
    refine{rfl,_,rfl,bQ ?_};have e:oI (jh (Zq b) (D7 1 (Zq c)))=V.int (b+1+c):=by
     show V.int (b+(1+c))=_;rw[So]
    rw[e]at Ķ;exact Ķ
 clear J1;have ħ:=Ç.of (K:=K) (ū _ _ ha);cases t with
 |leaf r=>
  rcases Hw r with⟨i,us,rfl⟩|⟨nc,e1⟩
  ·refine É (j:=0) ħ rfl {rfl,_,rfl,aV (λ_=>?_) (λz=>absurd (decide_eq_true rfl) z)};rw[cT]at ckt;obtain⟨kvs,k1,k2⟩:=hD;exact É (j:=1) ħ rfl {oI (kn i),.inl {kvs,.inr (N i),.inl (sH2 _ _ k1),rfl,(k2 i ckt).symm},fin (kn i) H2 _ _ _ (aj.refl _) (by rw[exT]) (by rw[Ò];push_cast;rfl)}
  exact É (j:=0) ħ rfl {rfl,_,rfl,aV (λz=>absurd z nc) (λ_=>É (j:=0) ħ rfl {rfl,_,rfl,aV (λz=>absurd z (lT r).1) (λ_=>É (j:=0) ħ rfl {rfl,_,rfl,aV (λz=>absurd z (lT r).2) (λ_=>fin (Zq 0) H2 _ _ _ (aj.refl _) (e1 kn) (by rw[Ò];push_cast;rfl))})})}
 |iff vv l r ff oo=>
  rw[ă]at dpt;rw[cT]at ckt;cases d with
  |zero=>lia
  |succ d=>
  refine É (j:=0) ħ rfl {rfl,_,rfl,aV (λz=>absurd z (show ¬ decide (V.str "if"=V.str "call")=true by decide)) (λ_=>É (j:=0) ħ rfl {rfl,_,rfl,aV (λ_=>?_) (λz=>absurd (show decide (V.str "if"=V.str "if")=true from decide_eq_true rfl) z)})};have Ī:fs=(pre++aA dn++[.iff vv l r])++aA ff++ .Ă::(aA oo++ .fin::(aA rest++st::post)):=by
   rw[ć,ĩ,dM,aA,Ò];simp
  have e2':fs=(pre++aA dn++[.iff vv l r]++aA ff++[.Ă])++aA oo++ .fin::(aA rest++st::post):=by
   rw[Ī];simp
  have l1:(pre++aA dn++[Fr.iff vv l r]).length=↥pre+(aA dn).length+1:=by simp only[Pq,Pw]
  have l2:(pre++aA dn++[Fr.iff vv l r]++aA ff++[Fr.Ă]).length=↥pre+(aA dn).length+1+(aA ff).length+1:=by simp only[Pq,Pw]
  rfl'
  refine ag λN2 J2=>{N,X,L,xs,fs,_,_,ff,.Ă,D,idx,kn,by rw[l1];push_cast;rfl,ū,hL,fr,Ī,rfl,(),ckt.1,lG.mono hD sH2,lx,λp1 H3 s3 ł=>{p1,_,rfl,Ç.of ł,rfl,_,_,rfl,_,_,rfl,rfl,J2 _ _ ?_}};clear J2 N2;have Ŷ:=ū.trans s3;rfl'
  refine ag λN2 J2=>{N,X,L,xs,fs,_,_,oo,.fin,D,idx,kn,by rw[l1,l2];push_cast;rfl,Ŷ,hL,fr,e2',rfl,(),ckt.2,lG.mono hD (sH2.trans s3),lx,λp2 H4 s4 ep2=>{p2,_,rfl,Ç.of ep2,rfl,_,_,rfl,_,_,rfl,rfl,?_}};have Ė:=s3.trans s4;have ϳ:=Ė.tup ħ;have ea:((((pre++aA dn++[Fr.iff vv l r]++aA ff++[Fr.Ă]).length+(aA oo).length:Nat):Int))+1=((↥pre+(aA dn).length+(Ò (.iff vv l r ff oo)).length:Nat):Int):=by
   rw[l2,Ò];simp only[PD,Pq,Qw];push_cast
   lia
  refine J2 _ _ ?_;clear J2 N2;rfl'
  refine ag λN2 J2=>J2 _ _ ?_;clear J2 N2;rfl'
  have fi:=λx u6 u7 e=>fin x H4 u6 u7 _ Ė e ea;clear fin;rw[exT]at fi;cases h1:gi kn ff with
  |none=>
   rw[h1]at fi;exact{rfl,_,rfl,a9 (a9 (fi Zr _ _ rfl))}
  |some x1=>
   rw[h1]at fi;refine{rfl,_,rfl,bQ ?_};cases h2:gi kn oo with
   |none=>
    rw[h2]at fi;exact{rfl,_,rfl,a9 (fi Zr _ _ rfl)}
   |some x2=>
    rw[h2]at fi;refine{rfl,_,rfl,bQ (É (j:=2) ϳ rfl (É (j:=3) ϳ rfl {rfl,_,rfl,aV (λz=>?_) (λz=>?_)}))}
    ·have z:=V.int.inj (of_decide_eq_true z);refine É (j:=2) ϳ rfl (fi (Zq (l+x1)) _ _ ?_);show(if l+x1=r+x2 then Zq (1+l+x1)else Zr)=Zq (1+(l+x1));rw[if_pos z,So]
    refine fi Zr _ _ ?_;show(if l+x1=r+x2 then Zq (1+l+x1)else Zr)=Zr;rw[if_neg λe=>z (decide_eq_true (by rw[e]))]
 |loop th mm l r bb=>
  rw[ă]at dpt;rw[cT]at ckt;cases d with
  |zero=>lia
  |succ d=>
  refine É (j:=0) ħ rfl {rfl,_,rfl,aV (λz=>absurd z (show ¬ decide (V.str "loop"=V.str "call")=true by decide)) (λ_=>É (j:=0) ħ rfl {rfl,_,rfl,aV (λz=>absurd z (show ¬ decide (V.str "loop"=V.str "if")=true by decide)) (λ_=>É (j:=0) ħ rfl {rfl,_,rfl,aV (λ_=>?_) (λz=>absurd (show decide (V.str "loop"=V.str "loop")=true from decide_eq_true rfl) z)})})};have Ī:fs=(pre++aA dn++[.loop th mm l r])++aA bb++ .fin::(aA rest++st::post):=by
   rw[ć,ĩ,dM,aA,Ò];simp
  have l1:(pre++aA dn++[Fr.loop th mm l r]).length=↥pre+(aA dn).length+1:=by simp only[Pq,Pw]
  rfl'
  refine ag λN2 J2=>{N,X,L,xs,fs,_,_,bb,.fin,D,idx,kn,by rw[l1];push_cast;rfl,ū,hL,fr,Ī,rfl,(),ckt.2.2,lG.mono hD sH2,lx,λp1 H3 s3 ł=>{p1,_,rfl,Ç.of ł,rfl,_,_,rfl,_,_,rfl,rfl,?_}};have ε:=s3.tup ħ;have ea:((((pre++aA dn++[Fr.loop th mm l r]).length+(aA bb).length:Nat):Int))+1=((↥pre+(aA dn).length+(Ò (.loop th mm l r bb)).length:Nat):Int):=by
   rw[l1,Ò];simp only[PD,Pq,Qw];push_cast
   lia
  refine J2 _ _ ?_;clear J2 N2;rfl'
  refine ag λN2 J2=>J2 _ _ ?_;clear J2 N2;rfl'
  have fi:=λx u6 u7 e=>fin x H3 u6 u7 _ s3 e ea;clear fin;rw[exT]at fi;cases h1:gi kn bb with
  |none=>
   rw[h1]at fi;exact{rfl,_,rfl,a9 (a9 (fi Zr _ _ rfl))}
  |some x1=>
   rw[h1]at fi;refine{rfl,_,rfl,bQ (É (j:=3) ε rfl (É (j:=4) ε rfl {rfl,_,rfl,aV (λz=>?_) (λz=>?_)}))}
   ·have z:=V.int.inj (of_decide_eq_true z);refine É (j:=2) ε rfl (É (j:=4) ε rfl {.inl {(),()},fi (Zq (mm*r)) _ _ ?_});show(if l+x1=r then Zq (1+mm*r)else Zr)=Zq (1+mm*r);rw[if_pos z]
   refine fi Zr _ _ ?_;show(if l+x1=r then Zq (1+mm*r)else Zr)=Zr;rw[if_neg λe=>z (decide_eq_true (by rw[e]))]
theorem uc(T:Txt K mg A):∀d,T.hU.Hz P w base (d+2) (nC d)
 |0=>vB T 0 1 (T.hU.hs (k:=0) aU (λ_ _ _ _ _ _ _ _ _ _ _ h=>h.elim) (λ_ _ _ _ h=>h.elim))
 |d+1=>vB T (d+1) (d+2) (uc T d)
def eqI:Fr->Fr->Prop
 | .iff v _ _,.iff v' _ _=>v=v'
 | .loop t m _ _,.loop t' m' _ _=>t=t'/\m=m'
 | .leaf r,.leaf r'=>r=r'
 | .bq i ps,.bq i' ps'=>i=i'/\ps=ps'
 | .main,.main=>True
 | .Ă,.Ă=>True
 | .fin,.fin=>True
 |_,_=>False
theorem lL (f):eqI f f:=by
 cases f<;>first|exact rfl|exact⟨rfl,rfl⟩|exact QK
mutual
noncomputable def dH:Tr->Tr->Prop
 | .leaf r,.leaf r'=>r=r'
 | .iff v _ _ f o,.iff v' _ _ f' o'=>v=v'/\cL f f'/\cL o o'
 | .loop t m _ _ b,.loop t' m' _ _ b'=>t=t'/\m=m'/\cL b b'
 |_,_=>False
noncomputable def cL:List Tr->List Tr->Prop
 | [],[]=>True
 |t::ts,t'::į=>dH t t'/\cL ts į
 |_,_=>False
end
theorem fJ{α β:Type}{F}:∀{a c:List α}{g:List β},Paired F (a++c) g->∃g1 g2,g=g1++g2/\Paired F a g1/\Paired F c g2
 | [],c,g,h=>{[],g,rfl,.nil,h}
 |x::a,c,_,.cons (l₂:=g) h r=>by
  obtain⟨g1,g2,e,h1,h2⟩:=fJ r;exact{_::g1,g2,by rw[e];rfl,.cons h h1,h2}
theorem pK(h:Paired F [x] g):∃y,g=[y]/\F x y:=by
 cases h with
 |cons h r=>
  cases r;exact{_,rfl,h}
theorem xK(h:eqI .fin g):g=.fin:=by
 cases g<;>first|rfl|exact h.elim
theorem HK(h:eqI .Ă g):g=.Ă:=by
 cases g<;>first|rfl|exact h.elim
mutual
theorem Lo:∀(t:Tr)(g:List Fr),Paired eqI (Ò t) g->∃t',g=Ò t'/\dH t t'
 | .leaf r,g,h=>by
  rw[Ò]at h;obtain⟨y,rfl,e⟩:=pK h;cases y with
  |leaf r'=>
   have e:r=r':=e;subst e;exact{.leaf r,by rw[Ò],rfl}
  |_=>exact e.elim
 | .iff v a c f o,g,h=>by
  rw[Ò]at h;cases h with
  |cons h r=>
   rename_i y g;obtain⟨g1,g2,rfl,h1,h2⟩:=fJ r;obtain⟨f',rfl,s1⟩:=pP f g1 h1;cases h2 with
   |cons h2 r2=>
    obtain⟨g3,g4,rfl,h3,h4⟩:=fJ r2;obtain⟨o',rfl,s2⟩:=pP o g3 h3;obtain⟨z,rfl,h5⟩:=pK h4;rw[HK h2,xK h5];cases y with
    |iff v' a' c'=>
     have e:v=v':=h;subst e;exact{.iff v a' c' f' o',by rw[Ò],⟨rfl,s1,s2⟩}
    |_=>exact h.elim
 | .loop t m a c b,g,h=>by
  rw[Ò]at h;cases h with
  |cons h r=>
   rename_i y g;obtain⟨g1,g2,rfl,h1,h2⟩:=fJ r;obtain⟨b',rfl,s1⟩:=pP b g1 h1;obtain⟨z,rfl,h5⟩:=pK h2;rw[xK h5];cases y with
   |loop t' m' a' c'=>
    have e:t=t'/\m=m':=h;obtain⟨rfl,rfl⟩:=e;exact{.loop t m a' c' b',by rw[Ò],⟨rfl,rfl,s1⟩}
   |_=>exact h.elim
theorem pP:∀(ts:List Tr)(g:List Fr),Paired eqI (aA ts) g->∃į,g=aA į/\cL ts į
 | [],g,h=>by
  rw[aA]at h;cases h;exact{[],by rw[aA],QK}
 |t::ts,g,h=>by
  rw[aA]at h;obtain⟨g1,g2,rfl,h1,h2⟩:=fJ h;obtain⟨t',rfl,s1⟩:=Lo t g1 h1;obtain⟨į,rfl,s2⟩:=pP ts g2 h2;exact{t'::į,by rw[aA],⟨s1,s2⟩}
end
mutual
theorem MV:∀(t t':Tr),dH t t'->(∀b,è ps dd b t->è ps dd b t')/\ă t'=ă t/\(Ò t').length=(Ò t).length
 | .leaf r,.leaf r',h=>by
  subst h;exact{λ_ h=>h,rfl,rfl}
 | .iff v a c f o,.iff v' a' c' f' o',h=>by
  obtain⟨rfl,h1,h2⟩:=h;obtain⟨a1,a2,a3⟩:=jN f f' h1;obtain⟨b1,b2,b3⟩:=jN o o' h2;refine{λb h=>?_,by rw[ă,ă,a2,b2],by rw[Ò,Ò];simp[a3,b3]};rw[è]at h⊢;exact⟨h.1,a1 b h.2.1,b1 b h.2.2⟩
 | .loop t m a c b,.loop t' m' a' c' b',h=>by
  obtain⟨rfl,rfl,h1⟩:=h;obtain⟨a1,a2,a3⟩:=jN b b' h1;refine{λb h=>?_,by rw[ă,ă,a2],by rw[Ò,Ò];simp[a3]};rw[è]at h⊢;exact⟨h.1,h.2.1,h.2.2.1,a1 true h.2.2.2⟩
 | .leaf _,.iff _ _ _ _ _,h=>by exact False.elim h
 | .leaf _,.loop _ _ _ _ _,h=>by exact False.elim h
 | .iff _ _ _ _ _,.leaf _,h=>by exact False.elim h
 | .iff _ _ _ _ _,.loop _ _ _ _ _,h=>by exact False.elim h
 | .loop _ _ _ _ _,.leaf _,h=>by exact False.elim h
 | .loop _ _ _ _ _,.iff _ _ _ _ _,h=>by exact False.elim h
theorem jN:∀(t t':List Tr),cL t t'->(∀b,cS ps dd b t->cS ps dd b t')/\cE t'=cE t/\(aA t').length=(aA t).length
 | [],[],h=>{λ_ h=>h,rfl,rfl}
 |t::ts,t'::į,h=>by
  obtain⟨a1,a2,a3⟩:=MV t t' h.1;obtain⟨b1,b2,b3⟩:=jN ts į h.2;refine{λb h=>?_,by rw[cE,cE,a2,b2],by rw[aA,aA,Pq,Pq,a3,b3]};rw[cS]at h⊢;exact⟨a1 b h.1,b1 b h.2⟩
 | [],_::_,h=>by exact False.elim h
 |_::_,[],h=>by exact False.elim h
end
theorem qD{α:Type}{F}(h:∀x,F x x):∀l:List α,Paired F l l
 | []=>.nil
 |x::l=>.cons (h x) (qD h l)
theorem y4{α:Type}{F}(h:∀x,F x x):∀{l:List α}{i:Nat}{x y:α},l[i]?=Zq x->F x y->Paired F l (l.set i y)
 |x'::l,0,x,y,e,f=>by
  cases e;exact .cons f (qD h l)
 |x'::l,i+1,x,y,e,f=>.cons (h x') (y4 (l:=l) (i:=i) h e f)
mutual
theorem DD:∀t:Tr,dH t t
 | .leaf r=>rfl
 | .iff v a c f o=>⟨rfl,eT f,eT o⟩
 | .loop t m a c b=>⟨rfl,rfl,eT b⟩
theorem eT:∀ts:List Tr,cL ts ts
 | []=>QK
 |t::ts=>⟨DD t,eT ts⟩
end
mutual
theorem Ao:∀(a b c:Tr),dH a b->dH b c->dH a c
 | .leaf r,b,c,h1,h2=>by
  cases b with
  |leaf r'=>
   rw[h1];exact h2
  |_=>exact False.elim h1
 | .iff v l r f o,b,c,h1,h2=>by
  cases b with
  |iff v' l' r' f' o'=>
   cases c with
   |iff v2 l2 r2 f2 o2=>
    exact⟨h1.1.trans h2.1,eX f f' f2 h1.2.1 h2.2.1,eX o o' o2 h1.2.2 h2.2.2⟩
   |_=>exact False.elim h2
  |_=>exact False.elim h1
 | .loop t m l r x,b,c,h1,h2=>by
  cases b with
  |loop t' m' l' r' x'=>
   cases c with
   |loop t2 m2 l2 r2 x2=>
    exact⟨h1.1.trans h2.1,h1.2.1.trans h2.2.1,eX x x' x2 h1.2.2 h2.2.2⟩
   |_=>exact False.elim h2
  |_=>exact False.elim h1
theorem eX:∀(a b c:List Tr),cL a b->cL b c->cL a c
 | [],b,c,h1,h2=>by
  cases b with
  |nil=>exact h2
  |cons _ _=>exact False.elim h1
 |t::ts,b,c,h1,h2=>by
  cases b with
  |nil=>exact False.elim h1
  |cons t' į=>
   cases c with
   |nil=>exact False.elim h2
   |cons t2 ts2=>
    exact⟨Ao t t' t2 h1.1 h2.1,eX ts į ts2 h1.2 h2.2⟩
end
def Al(k:Nat)(idx:List Nat)(f:Fr)(post:List Fr):Prop:=match f with
 | .loop _ m _ _=>∃c p2,post=aA c++ .fin::p2/\cE c<=k/\ċ idx c
 | .iff _ _ _=>∃c o p2,post=aA c++ .Ă::(aA o++ .fin::p2)/\cE c<=k/\cE o<=k/\ċ idx c/\ċ idx o
 |_=>True
theorem Al.app(h:Al k idx f post):Al k idx f (post++q):=by
 cases f with
 |loop _ _ _ _=>
  obtain⟨c,p2,rfl,h⟩:=h;exact{c,p2++q,by simp,h}
 |iff _ _ _=>
  obtain⟨c,o,p2,rfl,h⟩:=h;exact{c,o,p2++q,by simp,h}
 |_=>trivial
theorem oZ{α:Type}{f:α}:∀{a c p q:List α},a++c=p++f::q->(∃q1,a=p++f::q1/\q=q1++c)\/(∃p1,p=a++p1/\c=p1++f::q)
 | [],c,p,q,h=>.inr ⟨p,rfl,h⟩
 |x::a,c,[],q,h=>by
  cases h;exact .inl ⟨a,rfl,rfl⟩
 |x::a,c,y::p,q,h=>by
  injection h with h1 h2;subst h1;rcases oZ h2 with⟨q1,e1,e2⟩|⟨p1,e1,e2⟩
  ·exact .inl {q1,by rw[e1];rfl,e2}
  exact .inr {p1,by rw[e1];rfl,e2}
theorem yr(h:[g]=p++f::q):f=g:=by
 cases p with
 |nil=>cases h;rfl
 |cons y p=>
  injection h with _ h;cases p<;>cases h
mutual
theorem MO:∀(t:Tr)(pre:List Fr)(f:Fr)(post:List Fr),Ò t=pre++f::post->ă t<=k->cT idx t->Al k idx f post
 | .leaf r,pre,f,post,e,hd,hc=>by
  rw[Ò]at e;rw[yr e];trivial
 | .iff v a c ff oo,pre,f,post,e,hd,hc=>by
  rw[Ò]at e;rw[ă]at hd;rw[cT]at hc;cases pre with
  |nil=>
   injection e with e1 e2;rw[<-e1,<-e2];exact{ff,oo,[],rfl,(),(),hc.1,hc.2}
  |cons y pre=>
   injection e with _ e;rcases oZ e with⟨q1,e1,e2⟩|⟨p1,e1,e2⟩
   ·rw[e2];exact(sT ff pre f q1 e1 () hc.1).app
   cases p1 with
   |nil=>
    injection e2 with e3 _;rw[<-e3];trivial
   |cons y p1=>
    injection e2 with _ e2;rcases oZ e2 with⟨q1,e1,e3⟩|⟨p2,e1,e3⟩
    ·rw[e3];exact(sT oo p1 f q1 e1 () hc.2).app
    rw[yr e3];trivial
 | .loop t m a c b,pre,f,post,e,hd,hc=>by
  rw[Ò]at e;rw[ă]at hd;rw[cT]at hc;cases pre with
  |nil=>
   injection e with e1 e2;rw[<-e1,<-e2];exact{b,[],rfl,(),hc.2.2}
  |cons y pre=>
   injection e with _ e;rcases oZ e with⟨q1,e1,e2⟩|⟨p1,e1,e2⟩
   ·rw[e2];exact(sT b pre f q1 e1 () hc.2.2).app
   rw[yr e2];trivial
theorem sT:∀(ts:List Tr)(pre:List Fr)(f:Fr)(post:List Fr),aA ts=pre++f::post->cE ts<=k->ċ idx ts->Al k idx f post
 | [],pre,f,post,e,hd,hc=>by
  rw[aA]at e;cases pre<;>cases e
 |t::ts,pre,f,post,e,hd,hc=>by
  rw[aA]at e;rw[cE]at hd;rw[ċ]at hc;rcases oZ e with⟨q1,e1,e2⟩|⟨p1,e1,e2⟩
  ·rw[e2];exact(MO t pre f q1 e1 () hc.1).app
  exact sT ts p1 f post e2 () hc.2
end
mutual
theorem LM:∀(t t':Tr),dH t t'->cT idx t->cT idx t'
 | .leaf r,t',h,c=>by
  cases t' with
  |leaf r'=>
   rw[<-h];exact c
  |_=>exact False.elim h
 | .iff v a c f o,t',h,hc=>by
  cases t' with
  |iff v' a' c' f' o'=>
   rw[cT]at hc⊢;exact⟨kM f f' h.2.1 hc.1,kM o o' h.2.2 hc.2⟩
  |_=>exact False.elim h
 | .loop t m a c b,t',h,hc=>by
  cases t' with
  |loop t' m' a' c' b'=>
   obtain⟨_,rfl,h⟩:=h;rw[cT]at hc⊢;exact⟨hc.1,hc.2.1,kM b b' h hc.2.2⟩
  |_=>exact False.elim h
theorem kM:∀(ts į:List Tr),cL ts į->ċ idx ts->ċ idx į
 | [],į,h,hc=>by
  cases į with
  |nil=>exact hc
  |cons _ _=>exact False.elim h
 |t::ts,į,h,hc=>by
  cases į with
  |nil=>exact False.elim h
  |cons t' į=>
   rw[ċ]at hc⊢;exact⟨LM t t' h.1 hc.1,kM ts į h.2 hc.2⟩
end
theorem LV(f:Fr):decide (V.str f.wd=V.str "if")=(match f with| .iff _ _ _=>true|_=>false):=by
 cases f with
 |leaf r=>exact Q1.mpr (lT r).1
 |_=>rfl
theorem Mx(f:Fr):decide (V.str f.wd=V.str "loop")=(match f with| .loop _ _ _ _=>true|_=>false):=by
 cases f with
 |leaf r=>exact Q1.mpr (lT r).2
 |_=>rfl
inductive yE(vs:List V)(H:Hp)(Q:VK)(Ä:XK):Prop
 |mk (N M L xs fs pre post f D idx) (kn:Nat->Option Int) (z0:vs=[.ref L,.int (↥pre:Nat),.ref D]) (z1:H L=Zq (.lst xs)) (z2:aY N (del M H) fs xs) (z3:fs=pre++f::post) (z4:Al 6 idx f post) (z5:lG N H D idx λi=>oI (kn i)) (z6:↥xs<=300) (z7:∀m∈M,H m≠Zr)
  (z8:∀(v f' H'),aj H H'->eqI f f'->lI N (del M H') v f'->Q v H'):yE vs H Q Ä
theorem IT(T:Txt K mg A):T.kT.Hz P w base 9 yE:=by
 have bu:=uc (P:=P) (w:=w) (base:=base) T 6;refine T.kT.hs (k:=8) bG (λg Ã A' outer s H vs Q E hr hu h=>?_);obtain⟨N,M,L,xs,fs,pre,post,f,D,idx,kn,rfl,hL,fr,ć,cut,hD,lx,hM,q⟩:=h;have frH:=aY.same cM fr;have dS:∀{H':Hp},aj H H'->aj (del M H) (del M H'):=λs a o e=>by
  obtain⟨h1,h2⟩:=cC e;exact aN h1 (s _ _ h2)
 have dN:∀{H':Hp}{a:Sv}{o:HO},aj H H'->H a=Zr->H' a=Zq o->del M H' a=Zq o:=λ{H' a o} s h e=>aN (λm=>hM a m h) e;obtain⟨v,av,fv0⟩:=i4 frH ć;obtain⟨v2,av2,fvD⟩:=i4 fr ć;have:v2=v:=by rw[av2]at av;exact SN av
 subst this;have θ:=fvD;obtain⟨a,p,rfl,haD,hobD⟩:=fvD;have ha:=(cC haD).2;have hLS:=À.of (K:=K) hL;refine⟨_,(ab (Æ 3 bG.nd (px hu (fv 0) (fv 1)))
  (ab (aS (Ë (bU hu) (px hu (fv 3) af) aw)
   (ab (bX (ak (hj:=by lia) bu hr (fv 0^az aO (fv 1) af^fv 2^ae)) (dg rfl (aK (Ð (i:=4) bG.nd rfl) (aK (Ð (i:=5) bG.nd rfl) cu))))
   (ai (aS (Ë eG (fv 4) bJ)
    (ai (aD (aT (aw^px hu (fv 3) af^px hu (fv 3) af^px hu (fv 3) af^az aO (px hu (fv 3) af) (fv 4)^ae))))
    aF)))
   aF)
  (ab (aS (Ë (bU hu) (px hu (fv 3) af) aw)
   (ab (bX (ak (hj:=by lia) bu hr (fv 0^az aO (fv 1) af^fv 2^ae)) (dg rfl (aK (Ð (i:=4) bG.nd rfl) (aK (Ð (i:=5) bG.nd rfl) cu))))
   (ab (bX (ak (hj:=by lia) bu hr (fv 0^az aO (fv 5) af^fv 2^ae)) (dg rfl (aK (Ð (i:=6) bG.nd rfl) (aK (Ð (i:=5) bG.nd rfl) cu))))
   (ai (aS (PW.pt (pw_and (Ë eG (fv 4) bJ) (pw_and1 (Ë eG (fv 6) bJ))))
    (ab (Æ 7 bG.nd (à N8 T.Cf (az aO (px hu (fv 3) af) (fv 4)^az aO (px hu (fv 3) af) (fv 6)^ae)))
    (ai (aD (aT (aw^px hu (fv 3) af^az oY (fv 7) (fv 4)^az oY (fv 7) (fv 6)^ae)))))
    aF))))
   aF)
  (ai (aD (fv 3)))))),?_⟩
 refine ag λM1 K1=>ï hLS av (K1 _ _ ?_);clear K1 M1;rfl'
 refine ag λM1 K1=>?_;have b1:(match f with| .loop _ _ _ _=>True|_=>False)->∀(u4 u5:Option V)(H1:Hp),aj H H1->M1 [Zq (.ref L),Zq (.int (↥pre:Nat)),Zq (.ref D),Zq (.ref a),u4,u5,Zr,Zr] H1:=by
  intro hf u4 u5 H1 s1;refine K1 _ _ ?_;cases f with
  |loop t m l r=>
   exact É (j:=0) (Ç.of (s1 _ _ ha)) rfl {rfl,_,rfl,aV (λz=>absurd z (show ¬ decide (V.str "loop"=V.str "if")=true by decide)) (λ_=>q _ _ H1 s1 (lL _) (θ.same (dS s1)))}
  |_=>exact hf.elim
 cases f with
 |loop t m l r=>
  obtain⟨c,p2,ep,dpc,ckc⟩:=cut;clear K1;refine É (j:=0) (Ç.of ha) rfl {rfl,_,rfl,aV (λ_=>?_) (λz=>absurd (show decide (V.str "loop"=V.str "loop")=true from decide_eq_true rfl) z)};have Ī:fs=(pre++[.loop t m l r])++aA c++ .fin::p2:=by
   rw[ć,ep];simp
  have l1:(pre++[Fr.loop t m l r]).length=↥pre+1:=by simp
  rfl'
  refine ag λN2 J2=>{N,H,L,xs,fs,_,_,c,.fin,D,idx,kn,by rw[l1];push_cast;rfl,aj.refl _,hL,frH,Ī,rfl,dpc,ckc,hD,lx,λp1 H3 s3 ł=>{p1,_,rfl,Ç.of ł,rfl,_,_,rfl,_,_,rfl,rfl,J2 _ _ ?_}};clear J2 N2;rfl'
  cases ex:gi kn c with
  |none=>exact{rfl,_,rfl,a9 (b1 trivial _ _ H3 s3)}
  |some x=>
   have hT:=Ç.of (K:=K) (s3 _ _ ha);refine{rfl,_,rfl,bQ (É (j:=1) hT rfl (É (j:=2) hT rfl (É (j:=3) hT rfl (É (j:=3) hT rfl {by show 5<=sizeLine;decide,λn hn=>?_}))))};have s4:=aj.upd hn (HO.tup [V.str "loop",t.v N,V.int m,V.int l,V.int (l+x)]);refine q (.ref n) (.loop t m l (l+x)) _ (s3.trans s4) ⟨rfl,rfl⟩ {n,n,rfl,dN (s3.trans s4) (aj.free s3 hn) ao,λo ho=>by cases ho}
 |iff v l r=>
  obtain⟨c,o,p2,ep,dpc,dpo,ckc,cko⟩:=cut;clear b1;refine É (j:=0) (Ç.of ha) rfl {rfl,_,rfl,aV (λz=>absurd z (show ¬ decide (V.str "if"=V.str "loop")=true by decide)) (λ_=>K1 _ _ ?_)};clear K1 M1;rfl'
  refine ag λM1 K1=>?_;have b2:∀(u4 u5 u6:Option V)(H1:Hp),aj H H1->M1 [Zq (.ref L),Zq (.int (↥pre:Nat)),Zq (.ref D),Zq (.ref a),u4,u5,u6,Zr] H1:=λu4 u5 u6 H1 s1=>K1 _ _ (q _ _ H1 s1 (lL _) (θ.same (dS s1)));clear K1;refine É (j:=0) (Ç.of ha) rfl {rfl,_,rfl,aV (λ_=>?_) (λz=>absurd (show decide (V.str "if"=V.str "if")=true from decide_eq_true rfl) z)};have Ī:fs=(pre++[.iff v l r])++aA c++ .Ă::(aA o++ .fin::p2):=by
   rw[ć,ep];simp
  have e2':fs=(pre++[.iff v l r]++aA c++[.Ă])++aA o++ .fin::p2:=by
   rw[Ī];simp
  have l1:(pre++[Fr.iff v l r]).length=↥pre+1:=by simp
  have l2:(pre++[Fr.iff v l r]++aA c++[Fr.Ă]).length=↥pre+1+(aA c).length+1:=by simp only[Pq,Pw]
  rfl'
  refine ag λN2 J2=>{N,H,L,xs,fs,_,_,c,.Ă,D,idx,kn,by rw[l1];push_cast;rfl,aj.refl _,hL,frH,Ī,rfl,dpc,ckc,hD,lx,λp1 H3 s3 ł=>{p1,_,rfl,Ç.of ł,rfl,_,_,rfl,_,_,rfl,rfl,J2 _ _ ?_}};clear J2 N2;rfl'
  refine ag λN2 J2=>{N,H,L,xs,fs,_,_,o,.fin,D,idx,kn,by rw[l1,l2];push_cast;rfl,s3,hL,frH,e2',rfl,dpo,cko,lG.mono hD s3,lx,λp2 H4 s4 ep2=>{p2,_,rfl,Ç.of ep2,rfl,_,_,rfl,_,_,rfl,rfl,J2 _ _ ?_}};clear J2 N2;have Ė:=s3.trans s4;rfl'
  cases ex:gi kn c with
  |none=>exact{rfl,_,rfl,a9 (a9 (b2 _ _ _ H4 Ė))}
  |some x=>
   refine{rfl,_,rfl,bQ ?_};cases ey:gi kn o with
   |none=>exact{rfl,_,rfl,a9 (b2 _ _ _ H4 Ė)}
   |some y=>
    have hT:=Ç.of (K:=K) (Ė _ _ ha);refine{rfl,_,rfl,bQ ?_};rfl'
    refine ag λN2 J2=>É (j:=2) hT rfl (É (j:=3) hT rfl {_,_,rfl,?_});generalize (if r+y>l+x then r+y else l+x)=hi;refine J2 _ _ ?_;rfl'
    refine É (j:=1) hT rfl {by show 4<=sizeLine;decide,λn hn=>?_};have s5:=aj.upd hn (HO.tup [V.str "if",V.ref p,V.int (hi-x),V.int (hi-y)]);exact q (.ref n) (.iff v (hi-x) (hi-y)) _ (Ė.trans s5) rfl {n,p,rfl,dN (Ė.trans s5) (aj.free Ė hn) ao,λo ho=>(dS (Ė.trans s5)) _ _ (hobD o ho)}
 |leaf r=>
  clear b1;refine É (j:=0) (Ç.of ha) rfl {rfl,_,rfl,aV (λz=>absurd z (lT r).2) (λ_=>K1 _ _ ?_)};clear K1 M1;rfl'
  exact É (j:=0) (Ç.of ha) rfl {rfl,_,rfl,aV (λz=>absurd z (lT r).1) (λ_=>q _ _ H (aj.refl _) (lL _) θ)}
 |_=>
  clear b1;refine É (j:=0) (Ç.of ha) rfl {rfl,_,rfl,aV (λz=>absurd z (by rw[Mx];exact PU)) (λ_=>K1 _ _ ?_)};clear K1 M1;rfl'
  exact É (j:=0) (Ç.of ha) rfl {rfl,_,rfl,aV (λz=>absurd z (by rw[LV];exact PU)) (λ_=>q _ _ H (aj.refl _) (lL _) θ)}
abbrev ģ:=Fr×List Tr
def uP(s:ģ):List Fr:=s.1::(aA s.2++[.fin])
def Ô(ss:List ģ):List Fr:=ss.flatMap uP
def kR(ds:List De)(mb:List Tr):List ģ:=ds.map (λd=>(.bq d.1 d.2.1,d.2.2))++[(.main,mb)]
theorem yI (hs ds mb):Ć hs ds mb=hs.map Fr.leaf++Ô (kR ds mb):=by
 have h:∀ds:List De,bC ds=Ô (ds.map λd=>(.bq d.1 d.2.1,d.2.2)):=λds=>by
  unfold bC Ô;rw[List.flatMap_map];rfl
 unfold Ć kR;rw[h];unfold Ô;rw[QJ,P6];simp[uP]
theorem CY (a b):Ô (a++b)=Ô a++Ô b:=QJ
theorem nj (s b):Ô (s::b)=uP s++Ô b:=rfl
def La(s s':ģ):Prop:=s.1=s'.1/\cL s.2 s'.2
def pj(a b:List ģ):Prop:=Paired La a b
theorem EB(h:La s s'):(uP s').length=(uP s).length:=by
 have:=(jN (ps:=[]) (dd:=[]) _ _ h.2).2.2;unfold uP;simp[this]
theorem pj.len:∀{a b:List ģ},pj a b->(Ô b).length=(Ô a).length:=by
 intro a b h;induction h with
 |nil=>rfl
 |cons h _ ih=>rw[nj,nj,Pq,Pq,EB h,ih]
def hIx:Fr->List Nat
 | .bq i _=>[i]
 |_=>[]
def kD(ss:List ģ):List Nat:=ss.flatMap λs=>hIx s.1
theorem pj.idx:∀{a b:List ģ},pj a b->kD b=kD a:=by
 intro a b h;induction h with
 |nil=>rfl
 |cons h _ ih=>
  show hIx _++kD _=hIx _++kD _;rw[h.1,ih]
def knE(kn:Nat->Option Int)(s:ģ):Nat->Option Int:=match s.1 with
 | .bq i _=>λj=>if j=i then gi kn s.2 else kn j
 |_=>kn
def Ϛ(ss:List ģ):Nat->Option Int:=ss.foldl knE λ_=>Zr
theorem yW (ss s):Ϛ (ss++[s])=knE (Ϛ ss) s:=by
 unfold Ϛ;rw[R9];rfl
def lN:Nat->List Fr->List Nat
 |_,[]=>[]
 |n,f::fs=>(if Đ f=true then[n]else[])++lN (n+1) fs
theorem tq:∀a b n,lN n (a++b)=lN n a++lN (n+↥a) b
 | [],b,n=>by simp[lN]
 |f::a,b,n=>by
  show _++lN (n+1) (a++b)=(_++lN (n+1) a)++_;rw[tq a b,PD,P6,show n+1+↥a=n+(↥a+1) by lia]
theorem wK:∀{a:List Fr}{n:Nat},(∀f∈a,Đ f=false)->lN n a=[]
 | [],n,h=>rfl
 |f::a,n,h=>by
  show(if Đ f=true then[n]else[])++lN (n+1) a=[];rw[h f PH,wK λx hx=>h x (PC _ hx)];rfl
mutual
theorem OB:∀(t:Tr),∀f∈Ò t,Đ f=false
 | .leaf r,f,h=>by
  rw[Ò]at h;rw[Pu.mp h];rfl
 | .iff v a c ff o,f,h=>by
  rw[Ò]at h;rcases Py.mp h with rfl|h
  ·rfl
  rcases Pz.mp h with h|h
  ·exact yH ff f h
  rcases Py.mp h with rfl|h
  ·rfl
  rcases Pz.mp h with h|h
  ·exact yH o f h
  rw[Pu.mp h];rfl
 | .loop t m a c b,f,h=>by
  rw[Ò]at h;rcases Py.mp h with rfl|h
  ·rfl
  rcases Pz.mp h with h|h
  ·exact yH b f h
  rw[Pu.mp h];rfl
theorem yH:∀(ts:List Tr),∀f∈aA ts,Đ f=false
 | [],f,h=>by
  rw[aA]at h;cases h
 |t::ts,f,h=>by
  rw[aA]at h;rcases Pz.mp h with h|h
  ·exact OB t f h
  exact yH ts f h
end
theorem F6(h:Đ s.1=true) (n):lN n (uP s)=[n]:=by
 show(if Đ s.1=true then[n]else[])++lN (n+1) (aA s.2++[.fin])=[n];have e:∀f∈aA s.2++[Fr.fin],Đ f=false:=λf hf=>by
  rcases Pz.mp hf with hf|hf
  ·exact yH _ f hf
  rw[Pu.mp hf];rfl
 rw[if_pos h,wK e];rfl
theorem EX:∀{ss:List ģ}{n:Nat},(∀s∈ss,Đ s.1=true)->lN n (Ô ss)=(SS ↥ss).map λk=>n+(Ô (ss.take k)).length
 | [],n,_=>rfl
 |s::ss,n,h=>by
  rw[nj,tq,F6 (h s PH),EX λx hx=>h x (PC _ hx),PD,List.range_succ_eq_map,P0,QB];show n::_=(n+(Ô ([]:List ģ)).length)::_;congr 1;refine Rz λk _=>?_;show n+(uP s).length+(Ô (ss.take k)).length=n+(Ô (s::ss.take k)).length;rw[nj,Pq,RJ]
theorem zL:∀fs n,(List.range' n ↥fs).filter (λi=>Đ (fs.getD (i-n) .fin))=lN n fs
 | [],n=>rfl
 |f::fs,n=>by
  rw[PD,List.range'_succ,Q6];have e:(List.range' (n+1) ↥fs).filter (λi=>Đ ((f::fs).getD (i-n) .fin))=lN (n+1) fs:=by
   rw[<-zL fs (n+1)];refine List.filter_congr λi hi=>?_;have:=(List.mem_range'_1.mp hi).1;rw[show i-n=(i-(n+1))+1 by lia];rfl
  rw[e,QN];show(if Đ f=true then n::lN (n+1) fs else lN (n+1) fs)=(if Đ f=true then[n]else[])++lN (n+1) fs;split<;>rfl
theorem DM{hs:List Lr}{ss:List ģ}(h:∀s∈ss,Đ s.1=true):(SS (hs.map Fr.leaf++Ô ss).length).filter (λi=>Đ ((hs.map Fr.leaf++Ô ss).getD i .fin))=(SS ↥ss).map λk=>↥hs+(Ô (ss.take k)).length:=by
 have:=zL (hs.map Fr.leaf++Ô ss) 0;rw[<-List.range_eq_range',tq,wK (a:=hs.map Fr.leaf) (by
  intro f hf;obtain⟨r,_,rfl⟩:=PM.mp hf;rfl),EX h,Qi,Pr]at this
 simpa using this
theorem zP{α β:Type}{F}{y z:β}{C:List β}(h:∀x,F x z->F x y):∀{A:List β}{l:List α},Paired F l (A++z::C)->Paired F l (A++y::C)
 | [],_,.cons e r=>.cons (h _ e) r
 |_::A,_,.cons e r=>.cons e (zP h (A:=A) r)
theorem p8(h:Paired F a b) (k):Paired F (a.take k) (b.take k):=nv k h
theorem xU(h:l[i]?=Zq x):l=l.take i++x::l.drop (i+1):=by
 obtain⟨hi,e⟩:=PQ.mp h;rw[<-e,List.getElem_cons_drop,Qm]
theorem Ig(h:j<n):Ť n (j:Int)=Zq j:=by
 unfold Ť;rw[if_pos (),if_pos ()];simp
structure JJ(N:Nat->Str)(ss:List ģ):Prop where
 hd:∀s∈ss,Đ s.1=true
 bo:∀(k:Nat) s,ss[k]?=Zq s->cE s.2<=6/\ċ (kD (ss.take k)) s.2
 ix:∀i∈kD ss,i<24
 ln:↥ss<=10
theorem JD{hs:List Lr}{ds:List De}{mb:List Tr}(O:eV hs ds mb):JJ N (kR ds mb) where
 hd:=λs m=>by
  rcases Pz.mp m with m|m
  ·obtain⟨d,_,rfl⟩:=PM.mp m;rfl
  rw[Pu.mp m];rfl
 bo:=λk s hk=>by
  have idt:∀l:List De,kD (l.map λd=>(.bq d.1 d.2.1,d.2.2))=l.map (·.1):=λl=>by
   induction l with
   |nil=>rfl
   |cons d l ih=>
    show[d.1]++kD _=_;rw[ih];rfl
  unfold kR at hk⊢;by_cases c:k<↥ds
  ·rw[Qh (by simpa using c),P5]at hk;cases hd:ds[k]? with
   |none=>rw[hd]at hk;cases hk
   |some d=>
   rw[hd]at hk;cases hk;obtain⟨_,_,ok,dpd,_⟩:=O.de.at' k d hd;refine{dpd,?_};rw[Rk (by rw[Pr];lia),<-R7,idt];refine qf (λe he=>?_) d.2.2 false ok;obtain⟨d',m',rfl⟩:=PM.mp he;exact PM.mpr ⟨d',m',rfl⟩
  have Ϝ:=(PQ.mp hk).1;rw[Pq,Pr,Pw]at Ϝ;have ek:k=↥ds:=()
  subst ek;rw[Qk (by rw[Pr];exact Px _),Pr,QN]at hk;cases hk;refine{O.md,?_};rw[Rk (by rw[Pr];exact Px _),Qx (by rw[Pr];exact Px _),idt];refine qf (λe he=>?_) mb false O.mo;obtain⟨d',m',rfl⟩:=PM.mp he;exact PM.mpr ⟨d',m',rfl⟩
 ix:=λi hi=>by
  obtain⟨s,ms,hi⟩:=Qu.mp hi;rcases Pz.mp ms with m|m
  ·obtain⟨d,md,rfl⟩:=PM.mp m;obtain⟨k,hk⟩:=Qb md;rw[Pu.mp hi,(O.de.at' k d hk).1];exact Az
  rw[Pu.mp m]at hi;cases hi
 ln:=by
  unfold kR;rw[Pq,Pr,O.dl];show 4<=10;decide
theorem DB(O:eV hs ds mb)(h:pj (kR ds mb) ø):∃ð mb',ø=kR ð mb'/\eV hs ð mb'/\ð.map (λd=>(d.1,d.2.1))=ds.map λd=>(d.1,d.2.1):=by
 unfold kR pj at h;obtain⟨g1,g2,rfl,h1,h2⟩:=fJ h;obtain⟨m',rfl,e2⟩:=pK h2;obtain⟨mh,mb'⟩:=m';have e0:Fr.main=mh:=e2.1;subst e0;have key:∀(ds:List De)(g:List ģ),Paired La (ds.map λd=>(Fr.bq d.1 d.2.1,d.2.2)) g->∃ð:List De,g=ð.map (λd=>(Fr.bq d.1 d.2.1,d.2.2))/\ð.map (λd=>(d.1,d.2.1))=ds.map (λd=>(d.1,d.2.1))/\∀(k:Nat) d',ð[k]?=Zq d'->∃d,ds[k]?=Zq d/\d'.1=d.1/\d'.2.1=d.2.1/\cL d.2.2 d'.2.2:=by
  intro ds;induction ds with
  |nil=>
   intro g hg;cases hg;exact{[],rfl,rfl,λk d h=>by simp at h}
  |cons d ds ih=>
   intro g hg;cases hg with
   |cons e r=>
    rename_i y g;obtain⟨ð,rfl,e1,e2⟩:=ih g r;obtain⟨yh,yb⟩:=y;have e3:Fr.bq d.1 d.2.1=yh:=e.1;subst e3;refine{(d.1,d.2.1,yb)::ð,rfl,by rw[P0,P0,e1],λk d' hk=>?_};cases k with
    |zero=>
     cases hk;exact⟨d,rfl,rfl,rfl,e.2⟩
    |succ k=>exact e2 k d' hk
 obtain⟨ð,rfl,em,ea⟩:=key ds g1 h1;have dl:↥ð=↥ds:=by
  have:=congrArg UP em;simpa using this
 have ddt:∀k,je (ð.take k)=je (ds.take k):=λk=>by
  have h:∀l:List De,je l=(l.map λd=>(d.1,d.2.1)).map λx=>(x.1,x.2.length):=λl=>by
   unfold je;rw[QB];rfl
  rw[h,h];congr 1;rw[R7,R7,em]
 have dda:je ð=je ds:=by
  have:=ddt ↥ds;rwa [Qx (),Qx (Px _)]at this
 obtain⟨m1,m2,m3⟩:=jN (ps:=[]) (dd:=je ds) _ _ e2.2;refine{ð,mb',rfl,{O.hd,dl.trans O.dl,⟨λk d' hk=>?_⟩,by rw[dda];exact m1 false O.mo,by rw[m2];exact O.md,by rw[m3];exact O.ml},em};obtain⟨d,hd,e1,e2,e3⟩:=ea k d' hk;obtain⟨a1,a2,a3,a4,a5⟩:=O.de.at' k d hd;obtain⟨b1,b2,b3⟩:=jN (ps:=d.2.1) (dd:=je (ds.take k)) _ _ e3;refine{e1.trans a1,by rw[e2];exact a2,by rw[e2,ddt];exact b1 false a3,by rw[b2];exact a4,by rw[b3];exact a5}
theorem Ab{hs:List Lr}{a c:List ģ}{h:Fr}{b:List Tr}:hs.map Fr.leaf++Ô (a++(h,b)::c)=(hs.map Fr.leaf++Ô a++[h])++(aA b++ .fin::Ô c):=by
 rw[CY,nj];simp[uP]
theorem Ij{hs:List Lr}{a:List ģ}{h:Fr}:(hs.map Fr.leaf++Ô a++[h]).length=↥hs+(Ô a).length+1:=by
 simp only[Pq,Pr,Pw]
theorem IS(hj:j<=(aA b).length)(e:(aA b++ .fin::Q)[j]?=Zq f)(h:eqI f f'):∃b',(aA b++ .fin::Q).set j f'=aA b'++ .fin::Q/\cL b b':=by
 by_cases c:j<(aA b).length
 ·rw[Qh c]at e;obtain⟨b',e1,s1⟩:=pP b _ (y4 lL e h);exact{b',by rw[List.set_append_left _ _ c,e1],s1}
 have ej:j=(aA b).length:=()
 subst ej;rw[Qk (Px _),QN]at e;cases e;rw[xK h];refine{b,?_,eT b};rw[RO _ _ (Px _),QN];rfl
theorem EK(hj:j<=(aA b).length)(e:(aA b++ .fin::Q)[j]?=Zq f)(hd:cE b<=k)(hc:ċ idx b):Al k idx f ((aA b++ .fin::Q).drop (j+1)):=by
 by_cases c:j<(aA b).length
 ·rw[Qh c]at e;rw[List.drop_append_of_le_length ()];exact(sT b _ f _ (xU e) hd hc).app
 have ej:j=(aA b).length:=()
 subst ej;rw[Qk (Px _),QN]at e;cases e;trivial
def ώ(hs:List Lr)(ss:List ģ):List V:=(SS (↥ss+1)).map λk=>V.int ((↥hs+(Ô (ss.take k)).length:Nat):Int)
theorem G1(h:k<=↥ss):(ώ hs ss)[k]?=Zq (V.int ((↥hs+(Ô (ss.take k)).length:Nat):Int)):=by
 unfold ώ;rw[P5,Rf ()];rfl
theorem Nx(h:∀s∈ss,Đ s.1=true):(((SS (hs.map Fr.leaf++Ô ss).length).filter (λi=>Đ ((hs.map Fr.leaf++Ô ss).getD i .fin))).map λ(i:Nat)=>V.int (0+(i:Int)))++[V.int (((hs.map Fr.leaf++Ô ss).length:Nat):Int)]=ώ hs ss:=by
 rw[DM h];unfold ώ;rw[Sf,Qg,QB];congr 1
 ·refine Rz λk _=>?_;show V.int (0+((↥hs+(Ô (ss.take k)).length:Nat):Int))=_;rw[Ss]
 show[_]=[V.int ((↥hs+(Ô (ss.take ↥ss)).length:Nat):Int)];rw[Qq,Pq,Pr]
inductive zk(vs:List V)(H:Hp)(Q:VK)(Ä:XK):Prop
 |mk(N:Nat->Str)(L0:Sv)(c:Int)(xs:List V)(hs:List Lr)(ss:List ģ)(z0:vs=[.ref L0,.int c])(z1:H L0=Zq (.lst xs))(z2:aY N H (hs.map Fr.leaf++Ô ss) xs)(z3:JJ N ss)(z4:jc N)(z5:↥xs<=300)
  (z8:∀(p L D:Sv)(ϥ:List V)(ø:List ģ)(H':Hp),aj H H'->H' p=Zq (.tup [.ref L,.ref D])->H' L=Zq (.lst ϥ)->pj ss ø->aY N H' (hs.map Fr.leaf++Ô ø) ϥ->lG N H' D (kD ø) (λi=>oI (Ϛ ø i))->Q (.ref p) H'):zk vs H Q Ä
inductive BI(L:Sv)(c:Int)(D:Sv)(B3:Sv)(H4:Hp)(ss:List ģ)(N:Nat->Str)(hs:List Lr)(k:Nat)(B:St)(Hc:Hp):Prop
 |mk (ø ϥ kvs v4 v5 v6 v7):B=[Zq (.ref L),Zq (.int c),Zq (.ref D),Zq (.ref B3),v4,v5,v6,v7]->Sm [L,D] H4 Hc->Hc L=Zq (.lst ϥ)->pj ss ø->aY N (del [L,D] Hc) (hs.map Fr.leaf++Ô ø) ϥ->Hc D=Zq (.dK kvs)->↥kvs<=k->(∀i∈kD (ø.take k),L2.b5 kvs (.inr (N i))=Zq (oI (Ϛ (ø.take k) i)))->BI L c D B3 H4 ss N hs k B Hc
inductive Ci(L:Sv)(c:Int)(D:Sv)(B3:Sv)(k:Nat)(v6:Option V)(v7:Option V)(H4:Hp)(kvs:List (Key×V))(b:List Tr)(N:Nat->Str)(PR:List Fr)(SC:List ģ)(i:Nat)(B:St)(Hd:Hp):Prop
 |mk (b' ñ v5):B=[Zq (.ref L),Zq (.int c),Zq (.ref D),Zq (.ref B3),Zq (.int (k)),v5,v6,v7]->Sm [L,D] H4 Hd->Hd L=Zq (.lst ñ)->Hd D=Zq (.dK kvs)->cL b b'->aY N (del [L,D] Hd) (PR++(aA b'++ .fin::Ô SC)) ñ->Ci L c D B3 k v6 v7 H4 kvs b N PR SC i B Hd
theorem Js(T:Txt K mg A):T.jr.Hz P w base 10 zk:=by
 refine T.jr.hs (k:=9) bL (λg Ã A' outer s H vs Q E hr hu h=>?_);obtain⟨N,L0,c,xs,hs,ss,rfl,hL0,fr,O,nm,lx,q⟩:=h;have lf:=Sz fr;have sln:=O.ln;refine⟨_,(ab (Æ 0 bL.nd (Ľ rV T.dG (fv 0^ae)))
  (ab (Æ 2 bL.nd (tS))
  (ab (Æ 3 bL.nd (az aO (eJ (N:=["_law_at","_law_flat_here"]) (own:=1) (fr:=[0]) (cf.of (by kernel_rfl!)) rfl (cY rfl T.dj (à fI T.gO (fv 0^ae)^ae)) (λb=>Ð (i:=0) (show Tf (["_law_at","_law_flat_here"]:List T1) by decide+kernel) rfl) (λb=>qv (Ë (vR hu) (px hu (px hu (fv 1) (fv 0)) af) (aT (aw^aw^ae)) ((by with_unfolding_all rfl)))) (λb=>fv 0)) (aQ (à fI T.gO (fv 0^ae)^ae))))
  (ab (bY SH rfl (cY rfl T.dj (az oY (à fI T.gO (fv 3^ae)) af^ae)) (Ð (i:=4) bL.nd rfl)
   (ab (bY SH rfl (Br rfl T.dj (az oY (px hu (fv 3) (az aO (fv 4) af)) af^px hu (fv 3) (fv 4)^mE ik af^ae)) (Ð (i:=5) bL.nd rfl)
    (ai (aS (Ë zW (az bP (ak (hj:=by lia) (og T) hr (fv 1^fv 5^ae)) af) (az bP (fv 1) af))
     (ai (bX (ak (hj:=by lia) (IT T) hr (fv 0^fv 5^fv 2^ae)) (fV (fv 0) (fv 5) (fX hu Zx))))
     aF)))
   (ab (bX (ak (hj:=by lia) (uc T 6) hr (fv 0^az aO (px hu (fv 3) (fv 4)) af^fv 2^ae)) (dg rfl (aK (Ð (i:=6) bL.nd rfl) (aK (Ð (i:=7) bL.nd rfl) cu))))
   (ai (aS (Ë (bU hu) (px hu (px hu (fv 0) (px hu (fv 3) (fv 4))) af) aw)
    (ai (bX (fv 6) (fV (fv 2) (px hu (px hu (fv 0) (px hu (fv 3) (fv 4))) af) (fX hu Zx))))
    aF)))))
  (ai (aD (aT (fv 0^fv 2^ae)))))))),?_⟩
 refine ag λM1 K1=>P1 {L0,xs,rfl,P1 (À.of hL0),λL hL=>?_};obtain⟨s1,e1⟩:=Í hL (HO.lst xs);generalize upd H L _=H1 at s1 e1⊢;refine K1 _ _ ?_;clear K1 M1;rfl'
 refine ag λM1 K1 D hD=>K1 _ _ ?_;clear K1 M1;obtain⟨s2,e2⟩:=Í hD (HO.dK []);have DL:D≠L:=Zs hD (e1);generalize upd H1 D _=H2 at s2 e2⊢;have Ī:=s2 _ _ e1;have t2:=s1.trans s2;have HD:H D=Zr:=aj.free s1 hD;rfl'
 refine ag λM1 K1=>ϯ Ī {_,rfl,(),(),?_};rw[show((↥xs:Nat):Int).toNat=(hs.map Fr.leaf++Ô ss).length by rw[lf];simp];refine tT (n:=(hs.map Fr.leaf++Ô ss).length) (λi=>Đ ((hs.map Fr.leaf++Ô ss).getD i .fin)) (λi=>V.int (0+(i:Int))) (aH ()) (λb i Hc R hi sc k=>?_) (λb i Hc R hi _ sc k=>k Hc (aj.refl _)) (λÁ Hc hB sc eB=>?_)
 ·obtain⟨f,hf⟩:∃f,(hs.map Fr.leaf++Ô ss)[i]?=Zq f:={_,PB hi};obtain⟨v,hv,a,p,rfl,ha,Υ⟩:=ja (i:=i) (a:=f) fr hf;have ej:(0:Int)+(i:Int)=(i:Int):=()
  have ed:(hs.map Fr.leaf++Ô ss).getD i .fin=f:=by rw[Ql,hf];rfl
  rw[ej];rw[ed]at k;refine Ħ (À.of (sc _ _ Ī)) hv (É (j:=0) (Ç.of ((t2.trans sc) _ _ ha)) rfl {by show 2<=sizeLine;decide,λtp á=>?_});obtain⟨s3,e3⟩:=Í á (HO.tup [V.str "deed",V.str "main"]);generalize upd Hc tp _=H3 at s3 e3⊢;refine P1 {_,QQ (Ç.of e3),rfl,rfl,_,rfl,?_};rw[show(if false=true then !ý (V.str f.wd) [V.str "deed",V.str "main"]else ý (V.str f.wd) [V.str "deed",V.str "main"])=Đ f from EF f];exact k H3 s3
 have e1c:=sc _ _ Ī;have e2c:=sc _ _ e2;refine ϯ e1c {by show 1<=sizeLine;decide,λB2 hB2=>?_};have s3:=aj.upd hB2 (HO.lst [V.int (↥xs:Nat)]);refine{Á,B2,_,_,rfl,rfl,s3 _ _ eB,ao,sz (by rw[Pr,Pw];have:=QD (λi=>Đ ((hs.map Fr.leaf++Ô ss).getD i .fin)) (SS (hs.map Fr.leaf++Ô ss).length);rw[QI]at this;lia),λB3 hB3=>K1 _ _ ?_};clear K1 M1;have eb:(((SS (hs.map Fr.leaf++Ô ss).length).filter (λi=>Đ ((hs.map Fr.leaf++Ô ss).getD i .fin))).map λ(i:Nat)=>V.int (0+(i:Int)))++[V.int ((↥xs:Nat):Int)]=ώ hs ss:=by
  rw[<-lf];exact Nx O.hd
 rw[eb];have Ė:=s3.trans (aj.upd hB3 (HO.lst (ώ hs ss)));have eB3:upd (upd Hc B2 (HO.lst [V.int (↥xs:Nat)])) B3 (HO.lst (ώ hs ss)) B3=Zq (.lst (ώ hs ss)):=ao;generalize upd (upd Hc B2 (HO.lst [V.int (↥xs:Nat)])) B3 (HO.lst (ώ hs ss))=H4 at Ė eB3⊢;have t4:aj H H4:=t2.trans (sc.trans Ė);have L4:=Ė _ _ e1c;have D4:=Ė _ _ e2c;have BM:B3∉[L,D]:=λm=>by
  simp only[Py,P7,or_false]at m;rcases m with m|m
  ·rw[m]at hB3;rw[s3 _ _ e1c]at hB3;cases hB3
  rw[m]at hB3;rw[s3 _ _ e2c]at hB3;cases hB3
 have HM:∀a o,H a=Zq o->a∉[L,D]:=λa o e m=>by
  simp only[Py,P7,or_false]at m;rcases m with m|m
  ·rw[m,hL]at e;cases e
  rw[m,HD]at e;cases e
 have mL:L∈[L,D]:=PH;have mD:D∈[L,D]:=PC _ PH;have fr4:aY N (del [L,D] H4) (hs.map Fr.leaf++Ô ss) xs:=aY.same (λa o e=>aN (HM a o e) (t4 a o e)) fr;have bl:(ώ hs ss).length=↥ss+1:=by unfold ώ;rw[Pr,QI]
 clear hB3 hB2 s3 eB hB e1c e2c sc Ė eb;rfl'
 refine ag λM1 K1=>ϯ eB3 {_,rfl,(),(),?_};rw[show((((ώ hs ss).length:Nat):Int)-1).toNat=↥ss by rw[bl];lia];refine hX (BI L c D B3 H4 ss N hs) {ss,xs,[],Zr,Zr,Zr,Zr,rfl,Sm.refl _ _,L4,qD (λs=>⟨rfl,eT s.2⟩) ss,fr4,D4,Px _,λi hi=>by cases hi} ?_ ?_
 ·clear K1;rintro k B Hc hk ⟨ø,ϥ,kvs,v4,v5,v6,v7,rfl,sc,Ĺ,sim,frc,hDc,kl,kv⟩;have ej:(0:Int)+(k:Int)=(k:Int):=()
  rw[ej];have l':=Sz sim;obtain⟨s',ğ⟩:∃s',ø[k]?=Zq s':={_,PB ()};obtain⟨s0,hs0,se0⟩:=bT sim ğ;obtain⟨h,b⟩:=s';obtain⟨SA,SC,eS,lA⟩:∃SA SC,ø=SA++(h,b)::SC/\SA.length=k:={ø.take k,ø.drop (k+1),xU ğ,by rw[Qo];lia};have tk:ø.take k=SA:=by rw[eS,<-lA,YF];rfl
  have tk1:ø.take (k+1)=SA++[(h,b)]:=by
   rw[eS,Yp,Qx (),lA,show k+1-k=1 by lia];rfl
  have lenA:=pj.len (p8 sim k);have ϙ:=pj.len (p8 sim (k+1));have idA:=pj.idx (p8 sim k);rw[tk]at lenA kv idA;rw[tk1,CY,Pq]at ϙ;have ls1:(Ô [(h,b)]).length=(aA b).length+2:=by
   show(uP (h,b)++[]).length=_;simp[uP]
  rw[ls1]at ϙ;obtain⟨bo1,bo2⟩:=O.bo k s0 hs0;rw[<-idA]at bo2;have dpb:cE b<=6:=by rw[(jN (ps:=[]) (dd:=[]) _ _ se0.2).2.1];exact bo1
  have ckb:ċ (kD SA) b:=kM _ _ se0.2 bo2;have dmh:Đ h=true:=by
   have e:s0.1=h:=se0.1;rw[<-e];exact O.hd s0 (P4 hs0)
  have lt':(Ô ø).length=(Ô ss).length:=pj.len sim;rw[eS,Ab]at frc;have PL:=Ij (hs:=hs) (a:=SA) (h:=h);have lxc:=Sz frc;have lxt:(hs.map Fr.leaf++Ô SA++[h]).length+((aA b).length+1+(Ô SC).length)<=300:=by
   have e9:(hs.map Fr.leaf++Ô ø).length=(hs.map Fr.leaf++Ô ss).length:=by rw[Pq,Pq,lt']
   rw[eS,Ab]at e9;simp only[Pq,PD,Pr]at e9 lf⊢;lia
  have hBc:=À.of (K:=K) (sc _ _ BM eB3);have a0:=G1 (hs:=hs) (ss:=ss) (k:=k) ();have a1:=G1 (hs:=hs) (ss:=ss) (k:=k+1) ();rw[<-lenA]at a0;rw[<-ϙ]at a1;have ax1:=hJ a1;rw[show(((k+1:Nat)):Int)=(k:Int)+1 by lia]at ax1;generalize hPR:hs.map Fr.leaf++Ô SA++[h]=PR at frc PL lxc lxt;generalize hpA:↥hs+(Ô SA).length=pA at a0 PL;rw[<-RJ,hpA]at ax1;rfl'
  refine ag λN1 J1=>?_;obtain⟨r1,r2,r3⟩:=A9 (i:=((pA+((aA b).length+2):Nat):Int)-1) (j:=(pA:Int)) () () ();refine ï hBc ax1 (Ħ hBc a0 {_,rfl,_,_,_,rfl,r1,∅,∅,∅,r2,?_});rw[show mZ (((pA+((aA b).length+2):Nat):Int)-1) (pA:Int) (-1)=(aA b).length+1 by rw[r3];lia];refine AG (Ci L c D B3 k v6 v7 H4 kvs b N PR SC) ⟨b,ϥ,v5,rfl,sc,Ĺ,hDc,eT b,frc⟩ ?_ ?_
  ·clear J1;rintro i B Hd hi ⟨b',ñ,u5,rfl,sd,hLd,hDd,sb,frd⟩;obtain⟨_,dpb',lb'⟩:=jN (ps:=[]) (dd:=[]) _ _ sb;have ckb':=kM _ _ sb ckb;have ea:((pA+((aA b).length+2):Nat):Int)-1+(i:Int)* -1=((PR.length+((aA b).length-i):Nat):Int):=()
   rw[ea];generalize hj:(aA b).length-i=j;have jl:j<=(aA b').length:=()
   obtain⟨f,hf⟩:∃f,(aA b'++ .fin::Ô SC)[j]?=Zq f:={_,PB (by rw[Pq,PD];lia)};have lxd:=Sz frd;rw[Pq,Pq,PD]at lxd;have hM:∀m∈[L,D],Hd m≠Zr:=λm hm=>by
    simp only[Py,P7,or_false]at hm;rcases hm with rfl|rfl
    ·rw[hLd];simp
    rw[hDd];simp
   rfl'
   refine{c,_,rfl,(),(),λm m0 m1=>{by show(0:Int)<4;decide,by show(0:Int)<5;decide,_,rfl,aV (λ_=>?_) (λ_=>{b',ñ,_,rfl,sd,hLd,hDd,sb,frd})}};have ć:PR++(aA b'++ .fin::Ô SC)=(PR++(aA b'++ .fin::Ô SC).take j)++f::(aA b'++ .fin::Ô SC).drop (j+1):=by
    rw[P6,<-xU hf]
   have lp:(PR++(aA b'++ .fin::Ô SC).take j).length=PR.length+j:=by
    rw[Pq,Qo,Nat.min_eq_left (by rw[Pq];lia)]
   refine{N,[L,D],L,ñ,_,_,_,f,D,kD SA,Ϛ SA,by rw[lp];rfl,hLd,frd,ć,EK jl hf (by rw[dpb'];exact dpb) ckb',⟨kvs,hDd,kv⟩,(),hM,λv f' He se ei fve=>P1 (stL.mk ñ (PR.length+j) (se _ _ hLd) (Ig ()) ?_)};obtain⟨b3,e3,sb3⟩:=IS jl hf ei;have sU:aj (del [L,D] He) (del [L,D] (upd He L (.lst (ñ.set (PR.length+j) v)))):=λa o e=>by
    obtain⟨n1,n2⟩:=cC e;exact aN n1 (au (λz=>n1 (z▸mL)) n2)
   have sE:aj (del [L,D] Hd) (del [L,D] He):=λa o e=>by
    obtain⟨n1,n2⟩:=cC e;exact aN n1 (se _ _ n2)
   refine{b3,ñ.set (PR.length+j) v,_,rfl,(sd.trans (Sm.new se)).trans (Sm.at mL _),ao,au DL (se _ _ hDd),eX _ _ _ sb sb3,?_};generalize upd He L (.lst (ñ.set (PR.length+j) v))=HU at sU⊢;have h9:aY N (del [L,D] HU) ((PR++(aA b'++ .fin::Ô SC)).set (PR.length+j) f') (ñ.set (PR.length+j) v):=wF (F:=λf u=>lI N (del [L,D] HU) u f) (fve.same sU) (aY.same (sE.trans sU) frd);rw[RO _ _ (),show PR.length+j-PR.length=j by lia,e3]at h9;exact h9
  rintro B Hd ⟨b',ñ,u5,rfl,sd,hLd,hDd,sb,frd⟩;refine J1 _ _ ?_;clear J1 N1;obtain⟨_,dpb',lb'⟩:=jN (ps:=[]) (dd:=[]) _ _ sb;have ckb':=kM _ _ sb ckb;have lxd:=Sz frd;rw[Pq,Pq,PD]at lxd;have frH:=aY.same cM frd;have hBd:=À.of (K:=K) (sd _ _ BM eB3);rfl'
  refine ag λN1 J1=>Ħ hBd a0 {N,Hd,L,ñ,_,PR,Ô SC,b',.fin,D,kD SA,Ϛ SA,by rw[PL];push_cast;rfl,aj.refl _,hLd,frH,(P6 ..).symm,rfl,by rw[dpb'];exact dpb,ckb',⟨kvs,hDd,kv⟩,(),λp1 H5 s5 ł=>{p1,_,rfl,Ç.of ł,rfl,_,_,rfl,_,_,rfl,rfl,?_}};have sd5:=sd.trans (Sm.new (M:=[L,D]) s5);have hL5:=s5 _ _ hLd;have hD5:=s5 _ _ hDd;have ϡ:aY N (del [L,D] H5) (PR++(aA b'++ .fin::Ô SC)) ñ:=aY.same (λa o e=>by
   obtain⟨n1,n2⟩:=cC e;exact aN n1 (s5 _ _ n2)) frd
  have eP:PR++(aA b'++ .fin::Ô SC)=(hs.map Fr.leaf++Ô SA)++h::(aA b'++ .fin::Ô SC):=by
   rw[<-hPR];simp
  obtain⟨vh,avh,⟨ah,ph,rfl,hah,_⟩⟩:=i4 ϡ eP;rw[Pq,Pr,hpA]at avh;have hah:=(cC hah).2;have hB5:=s5.seq hBd;have hLS:=À.of (K:=K) hL5;have sim2:pj ss (SA++(h,b')::SC):=by
   rw[eS]at sim;exact zP (λx hx=>{hx.1,eX _ _ _ hx.2 sb}) sim
  have Ϩ:(SA++(h,b')::SC).take (k+1)=SA++[(h,b')]:=by
   rw[Yp,Qx (),lA,show k+1-k=1 by lia];rfl
  have fr6:∀{H6:Hp},aj (del [L,D] H5) (del [L,D] H6)->aY N (del [L,D] H6) (hs.map Fr.leaf++Ô (SA++(h,b')::SC)) ñ:=λs6=>by
   rw[Ab,hPR];exact aY.same s6 ϡ
  have ixh:∀j∈kD SA++hIx h,j<24:=λj hj=>by
   refine O.ix j ?_;have:=pj.idx sim2;rw[<-this];show j∈kD (SA++(h,b')::SC);unfold kD at hj⊢;rw[QJ];rcases Pz.mp hj with m|m
   ·exact PY _ m
   exact PX _ (PY _ m)
  have idn:kD (SA++[(h,b')])=kD SA++hIx h:=by
   unfold kD;rw[QJ,List.flatMap_singleton]
  refine J1 _ _ ?_;clear J1 N1;rfl'
  cases h with
  |bq i ps=>
   refine Ħ hB5 a0 (ï hLS avh (É (j:=0) (Ç.of hah) rfl {rfl,_,rfl,aV (λ_=>?_) (λz=>absurd (show decide (V.str "deed"=V.str "deed")=true from decide_eq_true rfl) z)}));refine Ħ hB5 a0 (ï hLS avh (É (j:=1) (Ç.of hah) rfl {_,nO.k (k:=.inr (N i)) hD5 (aH ()),?_}));have sU:aj (del [L,D] H5) (del [L,D] (upd H5 D (.dK (Zz kvs (.inr (N i)) (oI (gi (Ϛ SA) b')))))):=λa o e=>by
    obtain⟨n1,n2⟩:=cC e;exact aN n1 (au (λz=>n1 (z▸mD)) n2)
   refine{SA++(.bq i ps,b')::SC,ñ,_,_,_,_,_,rfl,sd5.trans (Sm.at mD _),au (P9 DL) hL5,sim2,fr6 sU,ao,P2 (zV _ _ _) (),λj hj=>?_};rw[Ϩ,idn]at hj;rw[Ϩ,yW,zj];show(if(Qc (N j):Key)=.inr (N i)then Zq (oI (gi (Ϛ SA) b'))else L2.b5 kvs (.inr (N j)))=Zq (oI (if j=i then gi (Ϛ SA) b' else Ϛ SA j));by_cases e:j=i
   ·rw[if_pos (by rw[e]),if_pos e]
   rw[if_neg e,if_neg λz=>e (nm.inj j i (ixh j hj) (ixh i (PX _ PH)) (Qc.inj z))];rcases Pz.mp hj with m|m
   ·exact kv j m
   exact absurd (Pu.mp m) e
  |main=>
   refine Ħ hB5 a0 (ï hLS avh (É (j:=0) (Ç.of hah) rfl {rfl,_,rfl,aV (λz=>absurd z (show ¬ decide (V.str "main"=V.str "deed")=true by decide)) (λ_=>{SA++(.main,b')::SC,ñ,kvs,_,_,_,_,rfl,sd5,hL5,sim2,fr6 (aj.refl _),hD5,(),λj hj=>?_})}));rw[Ϩ,idn]at hj;rw[Ϩ,yW];rcases Pz.mp hj with m|m
   ·exact kv j m
   cases m
  |_=>cases dmh
 rintro B Hc ⟨ø,ϥ,kvs,v4,v5,v6,v7,rfl,sc,Ĺ,sim,frc,hDc,kl,kv⟩;refine K1 _ _ ?_;have l':=Sz sim;rw[Qx ()]at kv;refine{by show 2<=sizeLine;decide,λp hp=>?_};have s9:=aj.upd hp (HO.tup [V.ref L,V.ref D]);have tH:aj H Hc:=λa o e=>sc a o (HM a o e) (t4 a o e);exact q p L D ϥ ø _ (tH.trans s9) ao (s9 _ _ Ĺ) sim (aY.same (cM.trans s9) frc) {kvs,s9 _ _ hDc,kv}
theorem BL:l∈ô fs into kd n↔∃x,Zq x∈fs/\x≠into/\l=⟨x,into,kd,n⟩:=by
 unfold ô;rw[PM];constructor
 ·rintro⟨f,hf,rfl⟩;obtain⟨h1,h2⟩:=Qs.mp hf;cases f with
  |none=>cases h2
  |some x=>exact{x,h1,(λe=>(by rw[show drP into (Zq x)=!decide (x=into)from rfl,decide_eq_true e]at h2;cases h2)),rfl}
 rintro⟨x,h1,h2,rfl⟩;exact{Zq x,Qs.mpr {h1,by show(!decide (x=into))=true;rw[decide_eq_false h2];rfl},rfl}
theorem FW:∀(ts:List Th)(acc:List Str),x∈ts.foldl (ė N) acc↔x∈acc\/∃a,Th.x a∈ts/\N a=x
 | [],acc=>by
  show x∈acc↔_;simp
 |t::ts,acc=>by
  rw[QS,FW ts];cases t with
  |i n=>
   show x∈acc\/_↔_;constructor
   ·rintro(h|⟨a,h,e⟩)
    ·exact .inl h
    exact .inr {a,PC _ h,e}
   rintro(h|⟨a,h,e⟩)
   ·exact .inl h
   rcases Py.mp h with h|h
   ·cases h
   exact .inr ⟨a,h,e⟩
  |x b=>
   have m:x∈ė N acc (.x b)↔x∈acc\/N b=x:=by
    show x∈(if N b∈acc then acc else acc++[N b])↔_;split
    ·next h=>exact{.inl,λz=>z.elim id λe=>e▸h}
    rw[Pz,Pu];exact or_congr_right eq_comm
   rw[m];constructor
   ·rintro((h|h)|⟨a,h,e⟩)
    ·exact .inl h
    ·exact .inr ⟨b,PH,h⟩
    exact .inr {a,PC _ h,e}
   rintro(h|⟨a,h,e⟩)
   ·exact .inl (.inl h)
   rcases Py.mp h with h|h
   ·cases h;exact .inl (.inr e)
   exact .inr ⟨a,h,e⟩
theorem Io:x∈Õ N ts↔∃a,Th.x a∈ts/\N a=x:=by
 unfold Õ;rw[FW];simp
def τ(PN:List Str)(o:Option Str):Prop:=∀y,o=Zq y->y∈PN
def GdE(PN:List Str)(e:Le):Prop:=τ PN e.2.1/\τ PN e.2.2
theorem ug(h:x∈PN):τ PN (Zq x):=λy e=>by cases e;exact h
theorem ub:τ PN Zr:=λy e=>by cases e
mutual
theorem Nt:∀(t:Pt)(lp:Option Str),τ PN lp->(oX t=true->aX t.no∈PN)->(∀e∈dE lp t,oX e.1=true->aX e.1.no∈PN)->∀e∈dE lp t,GdE PN e
 | .leaf _ _,lp,hl,h0,h,e,he=>by
  rw[dE]at he;cases he
 | .bq _ _ _ _,lp,hl,h0,h,e,he=>by
  rw[dE]at he;cases he
 | .iff n v l r f o,lp,hl,h0,h,e,he=>by
  rw[dE]at he h;have r0:τ PN (Zq (aX n)):=ug (h0 rfl);rcases Pz.mp he with he|he
  ·exact qw f _ lp r0 hl (λx hx=>h x (PY _ hx)) e he
  exact qw o _ lp r0 hl (λx hx=>h x (PX _ hx)) e he
 | .loop n t m l r b,lp,hl,h0,h,e,he=>by
  rw[dE]at he h;have r0:τ PN (Zq (aX n)):=ug (h0 rfl);exact qw b _ _ r0 r0 h e he
theorem qw:∀(ts:List Pt)(pl lp:Option Str),τ PN pl->τ PN lp->(∀e∈bD pl lp ts,oX e.1=true->aX e.1.no∈PN)->∀e∈bD pl lp ts,GdE PN e
 | [],pl,lp,hp,hl,h,e,he=>by
  rw[bD]at he;cases he
 |t::ts,pl,lp,hp,hl,h,e,he=>by
  rw[bD]at he h;rcases Py.mp he with rfl|he
  ·exact⟨hp,hl⟩
  rcases Pz.mp he with he|he
  ·exact Nt t lp hl (h (t,pl,lp) PH) (λx hx=>h x (PC _ (PY _ hx))) e he
  exact qw ts pl lp hp hl (λx hx=>h x (PC _ (PX _ hx))) e he
end
structure OK(N:Nat->Str)(PN:List Str)(ds:List De):Prop where
 s7:∀x∈S7++[5,6],N x∈PN
 dn:∀d∈ds,N d.1∈PN
 dp:∀d∈ds,∀x∈d.2.1,N x∈PN
 ck:("the clock":Str)∈PN
theorem Ob(O:eV hs ds mb):∀x∈S7++[5,6],x∈ŋ hs ds:=by
 obtain⟨rk,z,t,e1,_⟩:=O.hd;intro x hx;unfold ŋ;refine PY _ ?_;have pm:(hs.flatMap ixH).Perm [1,2,3,4,5,6,7,19,20]:=by
  rw[e1];unfold rJ;have:(oJ rk z).flatMap ixH=[1,2,3,4,5,6,7,19,20]:=rfl;rw[<-this];refine Wk _ (QL.trans ?_);rw[Qm]
 rw[pm.mem_iff];revert x
 decide
theorem JP(O:eV hs ds mb):OK N (bg N (â 1 hs) (Î ((↥hs:Nat)+1) ds) (bp (é hs ds) mb)) ds:=by
 rw[kq];have nmi:∀x∈ŋ hs ds,N x∈(ŋ hs ds).map N++fe (cq N (Î ((↥hs:Nat)+1) ds) (bp (é hs ds) mb))++[("the clock":Str)]:=λx hx=>PY _ (PY _ (Qp hx));refine{λx hx=>nmi x (Ob O x hx),λd hd=>nmi _ ?_,λd hd x hx=>nmi _ ?_,PX _ PH}
 ·unfold ŋ;exact PX _ (Qu.mpr ⟨d,hd,PH⟩)
 unfold ŋ;exact PX _ (Qu.mpr {d,hd,PC _ hx})
theorem ES(m:e∈cq N ds ms)(h:oX e.1=true):aX e.1.no∈bg N hs ds ms:=by
 unfold bg;refine PY _ (PX _ ?_);unfold fe;exact PM.mpr {e,Qs.mpr ⟨m,h⟩,rfl}
theorem Kq(O:eV hs ds mb):∀e∈cq N (Î ((↥hs:Nat)+1) ds) (bp (é hs ds) mb),GdE (bg N (â 1 hs) (Î ((↥hs:Nat)+1) ds) (bp (é hs ds) mb)) e:=by
 have I:=JP (N:=N) O;have R:∀e∈cq N (Î ((↥hs:Nat)+1) ds) (bp (é hs ds) mb),oX e.1=true->aX e.1.no∈bg N (â 1 hs) (Î ((↥hs:Nat)+1) ds) (bp (é hs ds) mb):=λe he h=>ES he h;generalize bg N (â 1 hs) (Î ((↥hs:Nat)+1) ds) (bp (é hs ds) mb)=PN at I R;intro e he;unfold cq at he R;rcases Pz.mp he with he|he
 ·unfold fG at he R;obtain⟨p,mp,he⟩:=Qu.mp he;have R2:∀x∈bD (Zq (ö N p)) Zr (nX p),oX x.1=true->aX x.1.no∈PN:=λx hx=>R x (PY _ (Qu.mpr ⟨p,mp,hx⟩));obtain⟨k,hk⟩:=Qb mp;obtain⟨d,n',h1,h2,h3,rfl⟩:=dU hk;exact qw _ _ _ (ug (I.dn d (P4 h1))) ub R2 e he
 exact qw _ _ _ ub ub (λx hx=>R x (PX _ hx)) e he
theorem Ic(O:eV hs ds mb):∀e∈cq N (Î ((↥hs:Nat)+1) ds) (bp (é hs ds) mb),∃ps dd k,IP ps dd k e.1/\(∀x∈ps,∃d∈ds,x∈d.2.1)/\∀x∈dd,∃d∈ds,x=(d.1,d.2.1.length):=by
 intro e he;unfold cq at he;rcases Pz.mp he with he|he
 ·unfold fG at he;obtain⟨p,mp,he⟩:=Qu.mp he;obtain⟨k,hk⟩:=Qb mp;obtain⟨d,n',h1,h2,h3,rfl⟩:=dU hk;obtain⟨_,_,ok,dpd,_⟩:=O.de.at' k d h1;refine{_,_,_,nq d.2.2 false _ _ _ ok e he,λx hx=>⟨d,P4 h1,hx⟩,λx hx=>?_};obtain⟨d',m',rfl⟩:=PM.mp hx;exact⟨d',QP m',rfl⟩
 refine{_,_,_,nq mb false _ _ _ O.mo e he,(λx hx=>by cases hx),λx hx=>?_};obtain⟨d',m',rfl⟩:=PM.mp hx;exact⟨d',m',rfl⟩
theorem xA(nm:jc N)(O:eV hs ds mb) (b):∀l∈bI N b (Î ((↥hs:Nat)+1) ds) (bp (é hs ds) mb),l.fr∈bg N (â 1 hs) (Î ((↥hs:Nat)+1) ds) (bp (é hs ds) mb)/\l.to∈bg N (â 1 hs) (Î ((↥hs:Nat)+1) ds) (bp (é hs ds) mb):=by
 have I:=JP (N:=N) O;have G:=Kq (N:=N) O;have S:=Ic (N:=N) O;have L:=λe he=>(uk nm O e he).2.1;have R:∀e∈cq N (Î ((↥hs:Nat)+1) ds) (bp (é hs ds) mb),oX e.1=true->aX e.1.no∈bg N (â 1 hs) (Î ((↥hs:Nat)+1) ds) (bp (é hs ds) mb):=λe he h=>ES he h;have PO:∀d∈ds,Ĵ N (Î ((↥hs:Nat)+1) ds) (N d.1)=d.2.1.map N:=λd m=>EO nm O m _;generalize bg N (â 1 hs) (Î ((↥hs:Nat)+1) ds) (bp (é hs ds) mb)=PN at I G R⊢;intro l hl;unfold bI at hl;obtain⟨e,he,hl⟩:=Qu.mp hl;have ge:=G e he;have re:=R e he;have le:=L e he;obtain⟨ps,dd,k,⟨t,n,bb,et,ok,_⟩,hps,ϝ⟩:=S e he;have nin:∀x∈S7++ps,N x∈PN:=λx hx=>by
  rcases Pz.mp hx with h|h
  ·exact I.s7 x (PY _ h)
  obtain⟨d,md,mx⟩:=hps x h;exact I.dp d md x mx
 have Ì:∀{ts:List Th},(∀t∈ts,pT ps t)->∀y∈Õ N ts,y∈PN:=λh y hy=>by
  obtain⟨a,ma,rfl⟩:=Io.mp hy;exact nin a (h _ ma a rfl)
 have dr:∀{fs:List (Option Str)}{into kd:Str}{n:Int},(∀y,Zq y∈fs->y∈PN)->into∈PN->l∈ô fs into kd n->l.fr∈PN/\l.to∈PN:=λh1 h2 h=>by
  obtain⟨x,mx,_,rfl⟩:=BL.mp h;exact⟨h1 x mx,h2⟩
 have ο:∀{into kd:Str}{n:Int},into∈PN->l∈ô [e.2.1] into kd n->l.fr∈PN/\l.to∈PN:=λh2 h=>dr (λy my=>ge.1 y (Pu.mp my).symm) h2 h;have dI:∀{ts:List Th}{into kd:Str}{n:Int},(∀t∈ts,pT ps t)->into∈PN->l∈ô ((Õ N ts).map Zq) into kd n->l.fr∈PN/\l.to∈PN:=λh1 h2 h=>dr (λy my=>by
  obtain⟨z,mz,e⟩:=PM.mp my;cases e;exact Ì h1 y mz) h2 h
 obtain⟨p,pl,lp⟩:=e;unfold uR at hl;have et:p=ç n t:=et;subst et;rcases Pz.mp hl with hl|hl
 ·cases t with
  |leaf r=>
   rw[è]at ok;rw[ç]at hl le re;cases r with
   |set x v=>
    rcases Pz.mp (show l∈ô ((Õ N (æ v)).map Zq) (N x) "value" n++ô [pl] (N x) "under" n from hl)with h|h
    ·exact dI ok.2 (nin x ok.1) h
    exact ο (nin x ok.1) h
   |put x p v=>
    rcases Pz.mp (show l∈ô ((Õ N (p::æ v)).map Zq) (N x) "value" n++ô [pl] (N x) "under" n from hl)with h|h
    ·exact dI (λt ht=>by
      rcases Py.mp ht with rfl|ht
      ·exact ok.2.1
      exact ok.2.2 t ht) (nin x ok.1) h
    exact ο (nin x ok.1) h
   |snd x v=>
    have rr:aX n∈PN:=re rfl;rcases Pz.mp (show l∈ô ((Õ N (æ v)).map Zq) (aX n) "value" n++ô [pl] (aX n) "under" n from hl)with h|h
    ·exact dI ok.2 rr h
    exact ο rr h
   |say x v m=>
    have rr:aX n∈PN:=re rfl;have mm:N m∈PN:=I.s7 m (by rcases ok.2.2 with rfl|rfl<;>decide);rcases Pz.mp (show l∈(ô [Zq (N m)] (N x) "value" n++ô [pl] (N x) "under" n)++ô [pl] (aX n) "under" n from hl)with h|h
    ·rcases Pz.mp h with h|h
     ·exact dr (λy my=>by cases Pu.mp my;exact mm) (nin x ok.1) h
     exact ο (nin x ok.1) h
    exact ο rr h
   |call i us=>
    obtain⟨d,md,ed⟩:=ϝ _ ok.1;obtain⟨e1,e2⟩:=VX ed;subst e1;have hl:l∈ό N n (us.zip (Ĵ N (Î ((↥hs:Nat)+1) ds) (N d.1)))++Ϸ pl n (Ĵ N (Î ((↥hs:Nat)+1) ds) (N d.1)++[N d.1]):=hl;rw[PO d md]at hl;have pin:∀y∈d.2.1.map N,y∈PN:=λy hy=>by
     obtain⟨a,ma,rfl⟩:=PM.mp hy;exact I.dp d md a ma
    rcases Pz.mp hl with h|h
    ·unfold ό at h;obtain⟨tp,mt,h⟩:=Qu.mp h;obtain⟨t1,t2⟩:=tp;have m1:=(QZ mt).1;have m2:=(QZ mt).2;cases t1 with
     |i _=>cases h
     |x a=>exact dr (λy my=>by cases Pu.mp my;exact nin a (ok.2 _ m1 a rfl)) (pin _ m2) h
    unfold Ϸ at h;obtain⟨into,mi,h⟩:=Qu.mp h;refine ο ?_ h;rcases Pz.mp mi with mi|mi
    ·exact pin _ mi
    rw[Pu.mp mi];exact I.dn d md
   |last=>
    have ğ:lp.isSome=true:=le rfl;obtain⟨y,hy⟩:=Q0.mp ğ;have hl:l∈ô [pl] (lp.getD SQ) "under" n:=hl;rw[hy]at hl;exact ο (ge.2 y hy) hl
   |_=>exact ok.elim
  |iff v l r f o=>
   rw[è]at ok;rw[ç]at hl re;have rr:aX n∈PN:=re rfl;rcases Pz.mp hl with h|h
   ·exact dI (ts:=æ v) ok.1 rr h
   exact ο rr h
  |loop th m l r bd=>
   rw[è]at ok;rw[ç]at hl re;have rr:aX n∈PN:=re rfl;rcases Pz.mp hl with h|h
   ·exact dI (ts:=[th]) (λt ht=>by rw[Pu.mp ht];exact ok.1) rr h
   exact ο rr h
 unfold ua at hl;split at hl
 ·unfold uL at hl;split at hl
  ·next z=>
   rw[Pu.mp hl];refine{I.ck,re ?_};unfold oX;unfold Bb at z;rw[z];simp
  split at hl
  ·next z=>
   rw[Pu.mp hl];refine{re ?_,I.ck};have z:=z.1;unfold oX;unfold zH at z;rw[<-Bool.or_assoc,z];rfl
  cases hl
 cases hl
end
structure Ar where
 x:Str
 p:Option Lk
 d:Nat
def Ţ(y:Ar)(cs:List Ar)(l:Lk):List Ar:=if l.to∈cs.map (·.x)then cs else cs++[{l.to,Zq l,y.d+1}]
def ko(ls:List Lk):Nat->Nat->List Ar->List Ar
 |0,_,cs=>cs
 |n+1,i,cs=>match cs[i]? with
  |none=>cs
  |some y=>ko ls n (i+1) ((jT ls y.x).foldl (Ţ y) cs)
def Ŝ(st:List Str):List Ar:=st.map λx=>⟨x,Zr,0⟩
def uT(ls:List Lk)(n i:Nat)(st:List Str):List Str:=(ko ls n i (Ŝ st)).map (·.x)
theorem Cb (ls n i cs) (h:↥cs<=i):ko ls n i cs=cs:=by
 cases n with
 |zero=>rfl
 |succ n=>
  unfold ko;rw[QE h]
theorem BG:(Ŝ st).map (·.x)=st:=by
 unfold Ŝ;rw[QB];exact List.map_id' _
theorem iV:∀{cs pls:List Str},cs.Nodup->(∀x∈cs,x∈pls)->↥cs<=↥pls
 | [],_,_,_=>PZ _
 |x::r,pls,nd,h=>by
  rw[Qt]at nd;have m:=h x PH;have:=iV (cs:=r) (pls:=pls.erase x) nd.2 λy hy=>by
   rw[List.mem_erase_of_ne λ(e:y=x)=>nd.1 (e▸hy)];exact h y (PC _ hy)
  rw[List.length_erase_of_mem m]at this;have:=WC m;rw[PD];lia
theorem Bv (y):∀(l:List Lk) cs,↥cs<=(l.foldl (Ţ y) cs).length
 | [],cs=>Px _
 |k::l,cs=>by
  refine P2 ?_ (Bv y l (Ţ y cs k));unfold Ţ;split
  ·exact Px _
  simp
inductive Rn(ls:List Lk)(S:List Str):Nat->Str->Prop
 |base {x} (h:x∈S):Rn ls S 0 x
 |step {n l} (h:l∈ls) (r:Rn ls S n l.fr):Rn ls S (n+1) l.to
def Mn(ls:List Lk)(S:List Str)(x:Str)(n:Nat):Prop:=Rn ls S n x/\∀m,Rn ls S m x->n<=m
theorem Mn.eq(h:Mn ls S x n)(g:Mn ls S x m):n=m:=Yz (h.2 _ g.1) (g.2 _ h.1)
structure Bf(ls:List Lk)(S pls:List Str)(cs:List Ar):Prop where
 nd:(cs.map (·.x)).Nodup
 pa:∀a∈cs,(a.p=Zr/\a.x∈S/\a.d=0)\/∃l b,a.p=Zq l/\l∈ls/\l.to=a.x/\b∈cs/\b.x=l.fr/\a.d=b.d+1
 ss:∀x∈S,⟨x,Zr,0⟩∈cs
 so:cs.Pairwise λa b=>a.d<=b.d
 sb:∀a∈cs,a.x∈pls
 le:∀(j:Nat) a,cs[j]?=Zq a->a.d<=j
def Cl(cs:List Ar)(d:Nat)(l:Lk):Prop:=∃a∈cs,a.x=l.to/\a.d<=d+1
theorem Cl.app(h:Cl cs d l):Cl (cs++r) d l:=h.elim λa h=>{a,PY _ h.1,h.2}
theorem yc(to:∀l∈ls,l.to∈pls)(y:Ar):∀(w:List Lk)(cs:List Ar),Bf ls S pls cs->y∈cs->(∀a∈cs,a.d<=y.d+1)->(∀l∈w,l∈ls/\l.fr=y.x)->∃r,w.foldl (Ţ y) cs=cs++r/\Bf ls S pls (cs++r)/\(∀a∈cs++r,a.d<=y.d+1)/\∀l∈w,Cl (cs++r) y.d l
 | [],cs,Á,_,t,_=>{[],by simp,by simpa using Á,by simpa using t,λl h=>nomatch h}
 |k::w,cs,Á,hy,t,hw=>by
  rw[QS];obtain⟨k1,k2⟩:=hw k PH;unfold Ţ;split
  ·next m=>
   obtain⟨r,h1,h2,h3,h4⟩:=yc to y w cs Á hy t λl h=>hw l (PC _ h);refine{r,h1,h2,h3,λl h=>?_};rcases Py.mp h with rfl|h
   ·obtain⟨a,ma,e⟩:=PM.mp m;exact Cl.app ⟨a,ma,e,t a ma⟩
   exact h4 l h
  next m=>
  have nw:∀a∈cs++[{k.to,Zq k,y.d+1}],a.d<=y.d+1:=λa ha=>by
   rcases Pz.mp ha with h|h
   ·exact t a h
   rw[Pu.mp h];exact Px _
  have Š:Bf ls S pls (cs++[{k.to,Zq k,y.d+1}]):=⟨by
    rw[Qg];exact QR.mpr ⟨Á.nd,by simp,λa ma b mb e=>by
     have z:b=k.to:=Pu.mp mb;exact m (z▸e▸ma)⟩,
   λa ha=>by
    rcases Pz.mp ha with h|h
    ·exact(Á.pa a h).imp id λ⟨l,b,p1,p2,p3,p4,p5⟩=>{l,b,p1,p2,p3,PY _ p4,p5}
    rw[Pu.mp h];exact .inr {k,y,rfl,k1,rfl,PY _ hy,k2.symm,rfl},
   λx hx=>PY _ (Á.ss x hx),
   List.pairwise_append.mpr {Á.so,Wj _ _,λa ha b hb=>by rw[Pu.mp hb];exact t a ha},
   λa ha=>by
    rcases Pz.mp ha with h|h
    ·exact Á.sb a h
    rw[Pu.mp h];exact to k k1,
   λj a ha=>by
    by_cases jl:j<↥cs
    ·rw[Qh jl]at ha;exact Á.le j a ha
    obtain⟨i,hi⟩:=Qb hy;have:=Á.le i y hi;have:=(PQ.mp hi).1;rw[Qk ()]at ha;have e:=Pu.mp (P4 ha);rw[e];show y.d+1<=j;lia⟩
  obtain⟨r,h1,h2,h3,h4⟩:=yc to y w _ Š (PY _ hy) nw λl h=>hw l (PC _ h);rw[P6]at h1 h2 h3 h4;refine{_,h1,h2,h3,λl h=>?_};rcases Py.mp h with rfl|h
  ·exact{_,PX _ PH,rfl,Px _}
  exact h4 l h
theorem FY(to:∀l∈ls,l.to∈pls):∀n i cs,Bf ls S pls cs->(∀y,cs[i]?=Zq y->∀a∈cs,a.d<=y.d+1)->(∀(j:Nat) y,j<i->cs[j]?=Zq y->∀l∈ls,l.fr=y.x->Cl cs y.d l)->↥pls<=n+i->
  Bf ls S pls (ko ls n i cs)/\∀y∈ko ls n i cs,∀l∈ls,l.fr=y.x->Cl (ko ls n i cs) y.d l
 |n,i,cs,Á,t,c,le=>by
  cases e:cs[i]? with
  |none=>
   rw[Cb ls n i cs (Rb.mp e)];refine{Á,λy hy=>?_};obtain⟨j,hj⟩:=Qb hy;refine c j y ?_ hj;have:=(PQ.mp hj).1;have:=Rb.mp e;lia
  |some y=>
   have il:=(PQ.mp e).1;cases n with
   |zero=>
    have:=iV Á.nd λx hx=>by
     obtain⟨a,ma,rfl⟩:=PM.mp hx;exact Á.sb a ma
    rw[Pr]at this;lia
   |succ n=>
    have wy:∀l∈jT ls y.x,l∈ls/\l.fr=y.x:=λl h=>by
     obtain⟨h1,h2⟩:=Qs.mp h;exact⟨h1,of_decide_eq_true h2⟩
    obtain⟨r,h1,h2,h3,h4⟩:=yc to y (jT ls y.x) cs Á (P4 e) (t y e) wy;have st:ko ls (n+1) i cs=ko ls n (i+1) (cs++r):=by
     rw[<-h1];conv=>lhs;unfold ko
     rw[e]
    rw[st];refine FY to n (i+1) (cs++r) h2 (λz hz a ha=>?_) (λj z jl hz l hl el=>?_) ()
    ·refine P2 (h3 a ha) (RN ?_);obtain⟨l1,e1⟩:=PQ.mp hz;have e2:(cs++r)[i]?=Zq y:=by rw[Qh il];exact e
     obtain⟨l2,e2⟩:=PQ.mp e2;have:=List.pairwise_iff_getElem.mp h2.so i (i+1) l2 l1 (Q4 i);rw[e1,e2]at this;exact this
    by_cases ji:j<i
    ·rw[Qh ()]at hz;exact(c j z ji hz l hl el).app
    have:j=i:=()
    subst this;rw[Qh il,e]at hz;cases hz;exact h4 l (Qs.mpr ⟨hl,decide_eq_true el⟩)
structure Fn(ls:List Lk)(S pls:List Str)(cs:List Ar):Prop where
 nd:(cs.map (·.x)).Nodup
 sb:∀a∈cs,a.x∈pls
 pa:∀a∈cs,(a.p=Zr/\a.x∈S/\a.d=0)\/∃l b,a.p=Zq l/\l∈ls/\l.to=a.x/\b∈cs/\b.x=l.fr/\a.d=b.d+1
 al:∀n x,Rn ls S n x->∃a∈cs,a.x=x/\a.d<=n
 le:∀a∈cs,a.d<↥pls
theorem tK(to:∀l∈ls,l.to∈pls)(nd:S.Nodup)(sb:∀x∈S,x∈pls):Fn ls S pls (ko ls ↥pls 0 (Ŝ S)):=by
 have z:∀a∈Ŝ S,a.p=Zr/\a.x∈S/\a.d=0:=λa h=>by
  obtain⟨x,m,rfl⟩:=PM.mp h;exact⟨rfl,m,rfl⟩
 obtain⟨Á,c⟩:=FY to ↥pls 0 (Ŝ S) {by rw[BG];exact nd,λa h=>.inl (z a h),λx m=>Qp m,List.pairwise_iff_getElem.mpr λi j hi hj _=>by rw[(z _ (Rv hi)).2.2];exact PZ _,λa h=>sb _ (z a h).2.1,λj a h=>by rw[(z a (P4 h)).2.2];exact PZ _}
  (λy _ a h=>by rw[(z a h).2.2];exact PZ _) (λj y h=>absurd h (Nat.not_lt_zero _)) (Px _)
 refine{Á.nd,Á.sb,Á.pa,λn x r=>?_,λa m=>?_}
 ·induction r with
  |base h=>exact{_,Á.ss _ h,rfl,PZ _}
  |step h _ ih=>
   obtain⟨a,ma,e,d⟩:=ih;obtain⟨b,mb,e2,d2⟩:=c a ma _ h e.symm;exact{b,mb,e2,()}
 obtain⟨j,hj⟩:=Qb m;have h1:=Á.le j a hj;have h2:=(PQ.mp hj).1;have h3:=iV Á.nd λx hx=>by
  obtain⟨a,ma,rfl⟩:=PM.mp hx;exact Á.sb a ma
 rw[Pr]at h3;lia
theorem Fn.rn(F:Fn ls S pls cs):∀n,∀a∈cs,a.d=n->Rn ls S n a.x
 |n,a,m,e=>by
  rcases F.pa a m with⟨_,h1,h2⟩|⟨l,b,_,h1,h2,h3,h4,h5⟩
  ·rw[<-e,h2];exact .base h1
  cases n with
  |zero=>lia
  |succ n=>
   have:=F.rn n b h3 ();rw[<-h2];exact .step h1 (h4▸this)
theorem Ny:∀{cs:List Ar},(cs.map (·.x)).Nodup->∀{a b},a∈cs->b∈cs->a.x=b.x->a=b
 |c::cs,nd,a,b,ma,mb,e=>by
  rw[P0,Qt]at nd;rcases Py.mp ma with h|ma<;>rcases Py.mp mb with g|mb
  ·rw[h,g]
  ·exact absurd (PM.mpr {b,mb,by rw[<-h,e]}) nd.1
  ·exact absurd (PM.mpr {a,ma,by rw[<-g,e]}) nd.1
  exact Ny nd.2 ma mb e
theorem Fn.mn(F:Fn ls S pls cs)(m:a∈cs):Mn ls S a.x a.d:=⟨F.rn _ a m rfl,λn r=>by
 obtain⟨b,mb,e,d⟩:=F.al n _ r;rw[Ny F.nd m mb e.symm];exact d⟩
theorem Ng{ls:List Lk}{pls S:List Str}(to:∀l∈ls,l.to∈pls)(nd:S.Nodup)(sb:∀x∈S,x∈pls)(h:Mn ls S x n):n<↥pls:=by
 have F:=tK to nd sb;obtain⟨a,m,rfl,_⟩:=F.al n x h.1;rw[h.eq (F.mn m)];exact F.le a m
theorem Mc{ls:List Lk}{pls S:List Str}(to:∀l∈ls,l.to∈pls)(nd:S.Nodup)(sb:∀x∈S,x∈pls):(uT ls ↥pls 0 S).Nodup:=(tK to nd sb).nd
theorem IC{ls:List Lk}{pls S:List Str}(to:∀l∈ls,l.to∈pls)(nd:S.Nodup)(sb:∀x∈S,x∈pls):x∈uT ls ↥pls 0 S↔∃n,Mn ls S x n:=by
 have F:=tK to nd sb;refine{λh=>?_,λ⟨n,h⟩=>?_}
 ·obtain⟨a,m,rfl⟩:=PM.mp h;exact{_,F.mn m}
 obtain⟨a,m,rfl,_⟩:=F.al n x h.1;exact Qp m
section
variable{P:Program}{w:SM}{K:SE}{mg:Str->Option Su}{base:Tb}{A:Ö}{N:Nat->Str}
seal PE PA PS Į PT PW
def PV(H:Hp)(a:Ar)(e:Key×V):Prop:=e.1=Qc a.x/\match a.p with
 |none=>e.2=.Ê
 |some l=>∃t,e.2=.ref t/\H t=Zq (.tup l.vs)
theorem PV.keep(k:∀t u,H t=Zq (.tup u)->H' t=Zq (.tup u))(h:PV H a e):PV H' a e:=by
 refine{h.1,?_};have:=h.2;cases q:a.p with
 |none=>rw[q]at this;exact this
 |some l=>
  rw[q]at this;obtain⟨t,h1,h2⟩:=this;exact{t,h1,k _ _ h2}
structure um(H:Hp)(C Q:Sv)(pls:List Str)(cs:List Ar)(kvs:List (Key×V)):Prop where
 c:H C=Zq (.dK kvs)
 p:Paired (PV H) cs kvs
 q:H Q=Zq (.lst (sS (cs.map (·.x))))
 nd:(cs.map (·.x)).Nodup
 s:∀x∈cs.map (·.x),x∈pls
theorem rX(h:Paired (PV H) cs kvs):kvs.map (·.1)=(cs.map (·.x)).map Qc:=by
 induction h with
 |nil=>rfl
 |cons h _ ih=>rw[P0,P0,P0,ih,h.1]
theorem um.k(h:um H C Q pls cs kvs):kvs.map (·.1)=(cs.map (·.x)).map Qc:=rX h.p
theorem yt{kvs:List (Key×V)}{ks:List Str}(k:kvs.map (·.1)=ks.map Qc) (x):(L2.b5 kvs (.inr x)).isSome=decide (x∈ks):=by
 rw[<-iE,Q8,Ru,decide_eq_true_iff];constructor
 ·rintro⟨kv,m,e⟩;have:=k▸Qp m;rw[of_decide_eq_true e]at this;obtain⟨y,my,ey⟩:=PM.mp this;exact Qc.inj ey▸my
 intro m;have:(Qc x:Key)∈kvs.map (·.1):=by rw[k];exact Qp m
 obtain⟨kv,mk,e⟩:=PM.mp this;exact⟨kv,mk,decide_eq_true e⟩
theorem BS{kvs:List (Key×V)}{ks:List Str}(k:kvs.map (·.1)=ks.map Qc)(h:x∉ks):L2.b5 kvs (.inr x)=Zr:=by
 have:=yt k x;rw[decide_eq_false h]at this;exact RB.mp (Option.isSome_eq_false_iff.mp this)
theorem ZL{kvs:List (Key×V)}{ks:List Str}(k:kvs.map (·.1)=ks.map Qc)(nd:ks.Nodup)(m:(.inr x,v)∈kvs):L2.b5 kvs (.inr x)=Zq v:=xT (by
 rw[k];exact wW nd λx _ y _ e=>Qc.inj e) m
theorem um.len(h:um H C Q pls cs kvs):↥kvs=↥cs/\↥cs<=↥pls:=by
 have h1:=congrArg UP h.k;have h2:=iV h.nd h.s;simp only[Pr]at h1 h2;exact⟨h1,h2⟩
theorem um.put(h:um H C Q pls cs kvs)(n:l.to∉cs.map (·.x))(hp:l.to∈pls)(ht:H t=Zq (.tup l.vs)):um (upd (upd H C (.dK (Zz kvs (.inr l.to) (.ref t)))) Q (.lst (sS (cs.map (·.x))++[.str l.to]))) C Q pls (cs++[⟨l.to,Zq l,d⟩]) (kvs++[((Qc l.to:Key),.ref t)]):=by
 have CQ:C≠Q:=λe=>by have:=h.c;rw[e,h.q]at this;cases this
 have hv:=BS h.k n;have kp:∀a u,H a=Zq (.tup u)->upd (upd H C (.dK (Zz kvs (.inr l.to) (.ref t)))) Q (.lst (sS (cs.map (·.x))++[.str l.to])) a=Zq (.tup u):=λa u e=>
  au (λz=>by rw[z,h.q]at e;cases e) (au (λz=>by rw[z,h.c]at e;cases e) e)
 refine{?_,Paired.two (h.p.mono λ_ _ z=>z.keep kp) (.cons {rfl,t,rfl,kp _ _ ht} .nil),?_,?_,λy hy=>?_}
 ·rw[aP CQ,ao,uB _ hv]
 ·rw[ao];simp[sS]
 ·rw[Qg];exact QR.mpr ⟨h.nd,by simp,λa ma b mb e=>by
   have z:b=l.to:=Pu.mp mb;exact n (z▸e▸ma)⟩
 rw[Qg]at hy;rcases Pz.mp hy with m|m
 ·exact h.s y m
 have z:y=l.to:=Pu.mp m;rw[z];exact hp
theorem Dl:∀st:List Str,Paired (PV H) (Ŝ st) (st.map λx=>((Qc x:Key),V.Ê))
 | []=>.nil
 |_::st=>.cons ⟨rfl,rfl⟩ (Dl st)
inductive x9(A:Ö)(vs:List V)(H:Hp)(Q:VK)(Ä:XK):Prop
 |mk (W S kw pls wa ls st) (z0:vs=[.ref W,.ref S]) (z1:fN H W kw pls wa ls) (z2:H S=Zq (.lst (sS st))) (z3:st.Nodup) (z4:∀x∈st,x∈pls) (z5:∀l∈ls,l.to∈pls) (z6:↥pls<=900)
  (z7:∀(C kvs H'),aj H H'->H C=Zr->H' C=Zq (.dK kvs)->Paired (PV H') (ko ls ↥pls 0 (Ŝ st)) kvs->Q (.ref C) H'):x9 A vs H Q Ä
theorem ID{H:Hp}:∀{st:List Str}{ys:List V},Paired (λx y=>∃t,y=V.ref t/\H t=Zq (.tup [.str x,.Ê])) st ys->∃ps:List Sv,ys=ps.map V.ref/\↥ps=↥st/\∀(i:Nat) t k v,ps[i]?=Zq t->(st.map λx=>((Qc x:Key),V.Ê))[i]?=Zq (k,v)->H t=Zq (.tup [kV k,v]):=by
 intro st ys h;induction h with
 |nil=>exact{[],rfl,rfl,(λi t k v h=>by simp at h)}
 |cons h _ ih=>
  obtain⟨t,rfl,h1⟩:=h;obtain⟨ps,e1,e2,e3⟩:=ih;refine{t::ps,by rw[e1];rfl,by simp[e2],λi t' k v ht hk=>?_};cases i with
  |zero=>cases ht;cases hk;exact h1
  |succ i=>exact e3 i t' k v ht hk
inductive BZ(pls:List Str)(W:Sv)(S:Sv)(C:Sv)(Qa:Sv)(H3:Hp)(ls:List Lk)(st:List Str)(m:Nat)(B:St)(Hd:Hp):Prop
 |mk (i cs kvs v5 v6):m=↥pls-i->B=[Zq (.ref W),Zq (.ref S),Zq (.ref C),Zq (.ref Qa),Zq (.int i),v5,v6]->Sm [C,Qa] H3 Hd->um Hd C Qa pls cs kvs->i<=↥cs->ko ls (↥pls-i) i cs=ko ls ↥pls 0 (Ŝ st)->BZ pls W S C Qa H3 ls st m B Hd
inductive CS(W:Sv)(S:Sv)(C:Sv)(Qa:Sv)(i:Nat)(H3:Hp)(pls:List Str)(ls:List Lk)(st:List Str)(B':St)(H':Hp):Prop
 |mk (Ϥ ě v5 v6):B'=[Zq (.ref W),Zq (.ref S),Zq (.ref C),Zq (.ref Qa),Zq (.int ((i)+1)),v5,v6]->Sm [C,Qa] H3 H'->um H' C Qa pls Ϥ ě->i+1<=↥Ϥ->ko ls (↥pls-(i+1)) (i+1) Ϥ=ko ls ↥pls 0 (Ŝ st)->CS W S C Qa i H3 pls ls st B' H'
inductive C8(W:Sv)(S:Sv)(C:Sv)(Qa:Sv)(i:Nat)(x:Str)(H3:Hp)(pls:List Str)(ls:List Lk)(y:Ar)(cs:List Ar)(j:Nat)(B:St)(He:Hp):Prop
 |mk (Ϥ ě v6):B=[Zq (.ref W),Zq (.ref S),Zq (.ref C),Zq (.ref Qa),Zq (.int (i)),Zq (.str x),v6]->Sm [C,Qa] H3 He->um He C Qa pls Ϥ ě->Ϥ=((jT ls x).take j).foldl (Ţ y) cs->C8 W S C Qa i x H3 pls ls y cs j B He
theorem JL(T:Txt K mg A):T.tU.Hz P w base 1 (x9 A):=by
 refine T.tU.hs dO (λf Ã A' outer s H vs Q E' hr hu h=>?_);obtain⟨W,S,kw,pls,wa,ls,st,rfl,hW,hS,snd,Ļ,tos,pln,q⟩:=h;have stl:=iV snd Ļ;refine⟨_,(ab (Æ 2 dO.nd (Ľ rM T.oG ((eJ (N:=["place"]) (own:=1) (fr:=[]) (cf.of (by kernel_rfl!)) rfl (bW (fv 1)) (λb=>Ð (i:=0) (show Tf (["place"]:List T1) by decide+kernel) rfl) (λb=>kU) (λb=>aT (fv 0^bJ^ae)))^ae)))
  (ab (Æ 3 dO.nd (Ľ rV T.dG (fv 1^ae)))
  (ab (Æ 4 dO.nd af)
  (ab (fC SH (Ë zW (fv 4) (à fI T.gO (fv 3^ae)))
   (ab (Æ 5 dO.nd (px hu (fv 3) (fv 4)))
   (ab (bY SH rfl (bW (px hu (fv 0) (fv 5))) (Ð (i:=6) dO.nd rfl)
    (ai (aS (Ë (dP hu) (px hu (fv 6) af) (fv 2) ((by with_unfolding_all rfl)))
     (ab (bX (fv 6) (fV (fv 2) (px hu (fv 6) af) (fX hu Zx)))
     (ai (aR (br (fv 3) (px hu (fv 6) af^ae)))))
     aF)))
   (ai (GU (i:=4) dO.nd rfl (by first|exact P1 rfl|exact QQ rfl) af FE)))))
  (ai (aD (fv 2))))))),?_⟩
 refine ag λM1 K1=>P1 {{_,À.of hS},ft (K:=K) (own:=1) st (λ_=>true) (λx y H=>∃t,y=V.ref t/\H t=Zq (.tup [.str x,.Ê])) (À.of hS) (Pr _) (aH (by rw[Pr];lia)) ?_ ?_ ?_ ?_}
 ·intro b i x e v0 H1 Nn Y hx he hv s1 no yes;obtain⟨u0,rfl⟩:=ye hv;rw[P5,he]at hx;cases hx;refine show _/\∀p,H1 p=Zr->_ from{by show 2<=sizeLine;decide,λtp á=>?_};exact yes rfl [Zq (.str e)] _ _ rfl (aj.upd á _) ⟨tp,rfl,ao⟩
 ·rintro e y H1 H2 s1 ⟨t,e1,h1⟩;exact{t,e1,s1 _ _ h1}
 ·rintro e y H1 D ys zs hD ⟨t,e1,h1⟩;exact{t,e1,au (λz=>by rw[z,hD]at h1;cases h1) h1}
 intro L1 H1 ys hL1 s1 Ő pr;rw[gj]at pr;obtain⟨ps,rfl,k1,k2⟩:=ID pr;generalize ŀ:(st.map λx=>((Qc x:Key),V.Ê))=Κ at k2;have kf:Κ.map (·.1)=st.map Qc:=by rw[<-ŀ,QB];rfl
 have kp0:∀H',Paired (PV H') (Ŝ st) Κ:=λH'=>by
  rw[<-ŀ];exact Dl st
 have kl:↥Κ=↥st:=by rw[<-ŀ,Pr]
 have knd:(Κ.map (·.1)).Nodup:=by
  rw[kf];have h:=snd;unfold Tf at h⊢;rw[Ra];exact h.imp λn e=>n (Qc.inj e)
 refine{L1,ps,Κ,rfl,À.of Ő,(),(),λi t k v ht hk=>Ç.of (k2 i t k v ht hk),λC hC=>?_};obtain⟨s2,eC⟩:=Í hC (HO.dK (bx [] Κ));generalize upd H1 C _=H2 at s2 eC⊢;rw[mw Κ [] (by simpa using knd),Qi]at eC;have t2:=s1.trans s2;have hC0:H C=Zr:=aj.free s1 hC;refine K1 _ _ ?_;clear K1 M1;rfl'
 refine ag λM1 K1=>P1 {S,_,rfl,P1 (À.of (t2 _ _ hS)),λQa hQ=>?_};obtain⟨s3,eQ⟩:=Í hQ (HO.lst (sS st));generalize upd H2 Qa _=H3 at s3 eQ⊢;have t3:=t2.trans s3;have hQ0:H Qa=Zr:=aj.free t2 hQ;have nf:∀m∈[C,Qa],H m=Zr:=λm hm=>by
  rcases Py.mp hm with e|hm
  ·rw[e];exact hC0
  rw[Pu.mp hm];exact hQ0
 have hm:C∈[C,Qa]/\Qa∈[C,Qa]:={PH,PC _ PH};have cm3:um H3 C Qa pls (Ŝ st) Κ:={s3 _ _ eC,kp0 _,by rw[BG];exact eQ,by rw[BG];exact snd,by rw[BG];exact Ļ};refine K1 _ _ ?_;clear K1 M1;rfl'
 refine ag λM1 K1=>K1 _ _ ?_;clear K1 M1;rfl'
 refine ag λM1 K1=>{BZ pls W S C Qa H3 ls st,{_,0,Ŝ st,Κ,Zr,Zr,rfl,rfl,Sm.refl _ _,cm3,PZ _,rfl},?_};rintro m B Hd ⟨i,cs,kvs,v5,v6,rfl,rfl,sd,cm,il,ar⟩;have cl:=cm.len;refine ϯ cm.q ?_;rw[Pr,Pr];refine{_,rfl,aV (λc=>?_) (λc=>?_)}
 ·have il2:i<↥cs:=by have:=of_decide_eq_true c;lia
  obtain⟨y0,hx⟩:∃x,cs[i]?=Zq x:={_,PB il2};obtain⟨x,hy0⟩:∃x,y0.x=x:={_,rfl};have hxx:(cs.map (·.x))[i]?=Zq x:=by rw[P5,hx,<-hy0];rfl
  have mx:x∈pls:=cm.s x (by rw[<-hy0];exact Qp (P4 hx));refine{CS W S C Qa i H3 pls ls st,?_,?_}
  ·rintro B' H' ⟨Ϥ,ě,v5,v6,rfl,a1,a2,a3,a4⟩;exact{↥pls-(i+1),(),i+1,Ϥ,ě,v5,v6,rfl,rfl,a1,a2,a3,a4}
  have ą:ko ls (↥pls-(i+1)) (i+1) ((jT ls x).foldl (Ţ y0) cs)=ko ls ↥pls 0 (Ŝ st):=by
   rw[<-ar,show ↥pls-i=↥pls-(i+1)+1 by lia];conv=>rhs;unfold ko
   rw[hx,<-hy0]
  rfl'
  refine ag λN1 J1=>ï (À.of cm.q) (hJ (by rw[P5,hxx];rfl)) (?_);have sH:aj H Hd:=sd.same t3 nf;have hWd:=hW.same sH;obtain⟨us,eu,pu⟩:=hW.l x mx;have lus:=Sz pu;refine J1 _ _ ?_;clear J1 N1;rfl'
  refine ag λN1 J1=>Þ hWd.d (hWd.v x mx) (P1 {{_,À.of (sH _ _ eu)},b4 (K:=K) (xs:=us) (C8 W S C Qa i x H3 pls ls y0 cs) ⟨cs,kvs,v6,rfl,sd,cm,rfl⟩ (λj B He _ zz=>by obtain⟨_,_,_,_,z,_,_⟩:=zz;exact À.of ((z.same t3 nf) _ _ eu)) ?_ ?_})
  ·rintro j y B He hy ⟨Ϥ,ě,v6,rfl,se,ce,rfl⟩;obtain⟨l,hl,t,rfl,et⟩:=bT pu hy;have ml:l∈ls:=(Qs.mp (P4 hl)).1;have sHe:=se.same t3 nf;have et':=Ç.of (K:=K) (sHe _ _ et);have Ŕ:((jT ls x).take (j+1)).foldl (Ţ y0) cs=Ţ y0 (((jT ls x).take j).foldl (Ţ y0) cs) l:=hZ (Ţ y0) cs hl;generalize ((jT ls x).take j).foldl (Ţ y0) cs=cj at ce Ŕ;have cl2:=ce.len;rfl'
   refine É (j:=1) et' rfl (QQ {C,_,rfl,jd.k (k:=.inr l.to) ce.c,_,rfl,?_});rw[yt ce.k];unfold Ţ at Ŕ;by_cases m:l.to∈cj.map (·.x)
   ·rw[if_pos m]at Ŕ;rw[decide_eq_true m];exact a9 {_,_,_,rfl,se,ce,Ŕ.symm}
   rw[if_neg m]at Ŕ;rw[decide_eq_false m];refine bQ (ag λO1 I1=>É (j:=1) et' rfl {_,nO.k (k:=.inr l.to) ce.c (aH ()),I1 _ _ ?_});clear I1 O1;have tC:t≠C:=λz=>by have:=sHe _ _ et;rw[z,ce.c]at this;cases this
   have QC:Qa≠C:=λz=>by have:=ce.q;rw[z,ce.c]at this;cases this
   have eq2:upd He C (.dK (Zz ě (.inr l.to) (.ref t))) Qa=Zq (.lst (sS (cj.map (·.x)))):=au QC ce.q;have et2:Ç K (upd He C (.dK (Zz ě (.inr l.to) (.ref t)))) t l.vs:=Ç.of (au tC (sHe _ _ et));rfl'
   exact{P1 {rfl,_,À.of eq2},É (j:=1) et2 rfl {_,_,_,rfl,rfl,eq2,aH (by rw[Pr,Pr];lia),{_,_,_,rfl,(se.trans (Sm.at hm.1 _)).trans (Sm.at hm.2 _),ce.put m (tos l ml) (sHe _ _ et),Ŕ.symm}}}
  rintro B He ⟨Ϥ,ě,v6,rfl,se,ce,ecs⟩;rw[show(jT ls x).take ↥us=jT ls x by rw[<-lus];exact Qq]at ecs;refine J1 _ _ ?_;have sl:=Bv y0 (jT ls x) cs;rw[<-ecs]at sl ą;exact{_,rfl,i,1,rfl,rfl,Ϥ,ě,_,_,rfl,se,ce,(),ą}
 have ie:i=↥cs:=by
  have:¬ ((i:Int)<(↥cs:Int)):=λz=>c (decide_eq_true z);lia
 rw[Cb ls _ i cs ()]at ar;exact K1 _ _ (q C kvs Hd (sd.same t3 nf) hC0 cm.c (by rw[<-ar];exact cm.p))
inductive Cy(vs:List V)(H:Hp)(Q:VK)(Ä:XK):Prop
 |mk (r):vs=[.int r]->0<=r/\r<=2->Q (.int (1*2^r.toNat)) H->Cy vs H Q Ä
theorem Lq(T:Txt K mg A):T.only.Hz P w base 1 Cy:=by
 refine T.only.hs Jd (λf Ã A' outer s H vs Q E' hr hu h=>?_);obtain⟨r,rfl,hr',q⟩:=h;exact{_,(ai (aD (az Oi af (fv 0)))),{by unfold Ft;lia,q}}
inductive wx(vs:List V)(H:Hp)(Q:VK)(Ä:XK):Prop
 |mk (a b):vs=[.int a,.int b]->Q (.int (Tv a b)) H->wx vs H Q Ä
theorem Fx(T:Txt K mg A):T.joined.Hz P w base 1 wx:=by
 refine T.joined.hs Eb (λf Ã A' outer s H vs Q E' hr hu h=>?_);obtain⟨a,b,rfl,q⟩:=h;exact{_,(ai (aD (az Om (fv 0) (fv 1)))),q}
theorem vI(hs:∀vs H (Q Q':VK),(∀v H,Q v H->Q' v H)->sp vs H Q E->sp vs H Q' E)(ht:∀B H (R R':List V->Hp->Prop),(∀vs H,R vs H->R' vs H)->t B H R->t B H R'):∀B H (Q Q':VK),(∀v H,Q v H->Q' v H)->vW sp dvs E t B H Q->vW sp dvs E t B H Q':=λB H Q Q' h hh=>ht B H _ _ (λvs H1 z=>hs _ _ _ _ h z) hh
theorem nK(he:∀B H (Q Q':VK),(∀v H,Q v H->Q' v H)->te B H Q->te B H Q')(ht:∀B H (R R':List V->Hp->Prop),(∀vs H,R vs H->R' vs H)->t B H R->t B H R'):∀B H (R R':List V->Hp->Prop),(∀vs H,R vs H->R' vs H)->yT te t B H R->yT te t B H R':=λB H R R' h hh=>he B H _ _ (λv H1 z=>ht B H1 _ _ (λvs H2 y=>h _ _ y) z) hh
theorem y6:∀B H (R R':List V->Hp->Prop),(∀vs H,R vs H->R' vs H)->D3 B H R->D3 B H R':=λB H R R' h hh=>h _ _ hh
theorem E5:∀vs H (Q Q':VK),(∀v H,Q v H->Q' v H)->x9 A vs H Q E0->x9 A vs H Q' E0:=by
 rintro vs H Q Q' h ⟨W,S,kw,pls,wa,ls,st,z0,z1,z2,z3,z4,z5,z6,z7⟩;exact{W,S,kw,pls,wa,ls,st,z0,z1,z2,z3,z4,z5,z6,λC kvs H' a b c d=>h _ _ (z7 C kvs H' a b c d)}
theorem Fi:∀vs H (Q Q':VK),(∀v H,Q v H->Q' v H)->gT A vs H Q E0->gT A vs H Q' E0:=by
 rintro vs H Q Q' h ⟨N,X,v,rk,hs,ds,ms,z0,z1,z2,z3,z4⟩;exact{N,X,v,rk,hs,ds,ms,z0,z1,z2,z3,λR H' a b c=>h _ _ (z4 R H' a b c)}
def bV(g:Str->Int):Key->V
 | .inr x=>.int (g x)
 | .inl _=>.Ê
def Ũ(r:Int)(g:Str->Int)(x:Str):Str->Int:=λy=>if y=x then Tv (g x) (1*2^r.toNat)else g y
theorem K7 (g x v):xZ (bV g) (.inr x) (.int v)=bV λy=>if y=x then v else g y:=by
 funext k
 unfold xZ;cases k with
 |inl i=>rw[if_neg (by intro e;cases e)];rfl
 |inr y=>
  by_cases e:y=x
  ·rw[if_pos (by rw[e])];show V.int v=V.int (if y=x then v else g y);rw[if_pos e]
  rw[if_neg λz=>e (Qc.inj z)];show V.int (g y)=V.int (if y=x then v else g y);rw[if_neg e]
theorem KN{pls:List Str}{g:Str->Int}{x:Str}{r:Int}(m:x∈pls):Zz (sk (pls.map Qc) (bV g)) (.inr x) (.int (Tv (g x) (1*2^r.toNat)))=sk (pls.map Qc) (bV (Ũ r g x)):=by
 rw[Lg,K7,show ME (pls.map Qc) (Qc x)=pls.map Qc from if_pos (Qp m)];rfl
def gF(N:Nat->Str)(b:Bool)(hs ds ms:List Pt)(r:Int):List Str:=uT (bI N b ds ms) (bg N hs ds ms).length 0 (Zw N hs r)
def A6(N:Nat->Str)(b:Bool)(hs ds ms:List Pt):Str->Int:=(Ź ((gC N hs).map (·.2))).foldl (λg r=>(gF N b hs ds ms r).foldl (Ũ r) g) λ_=>0
structure OkT(N:Nat->Str)(d:Nat)(hs ds ms:List Pt):Prop where
 l:OkL N d hs ds ms
 fr:∀b,∀l∈bI N b ds ms,l.fr∈bg N hs ds ms
 to:∀b,∀l∈bI N b ds ms,l.to∈bg N hs ds ms
 rk:∀s∈gC N hs,s.2=0\/s.2=1\/s.2=2
 sn:((gC N hs).map (·.1)).Nodup
 ss:∀s∈gC N hs,s.1∈bg N hs ds ms
theorem fN.sm(h:fN H W kvs pls wa ls)(s:Sm [Á] H H')(eB:H Á=Zq (.dK kb))(n:W≠Á):fN H' W kvs pls wa ls:=by
 have t:∀a o,a≠Á->H a=Zq o->H' a=Zq o:=λa o m e=>s a o (λz=>m (Pu.mp z)) e;refine{t _ _ n h.d,h.v,h.i,λx hx=>?_};obtain⟨ys,e,l⟩:=h.l x hx;exact{ys,t _ _ (λz=>by rw[z,eB]at e;cases e) e,l.same λa u z=>t _ _ (λy=>by rw[y,eB]at z;cases z) z}
theorem GG{H:Hp}:∀{st:List Str}{ys:List V},Paired (λx y=>∃t,y=V.ref t/\H t=Zq (.tup [.str x,.int 0])) st ys->∃ps:List Sv,ys=ps.map V.ref/\↥ps=↥st/\∀(i:Nat) t k v,ps[i]?=Zq t->(sk (st.map Qc) (bV λ_=>0))[i]?=Zq (k,v)->H t=Zq (.tup [kV k,v]):=by
 intro st ys h;induction h with
 |nil=>exact{[],rfl,rfl,(λi t k v h=>by simp at h)}
 |cons h _ ih=>
  obtain⟨t,rfl,h1⟩:=h;obtain⟨ps,e1,e2,e3⟩:=ih;refine{t::ps,by rw[e1];rfl,by simp[e2],λi t' k v ht hk=>?_};cases i with
  |zero=>cases ht;cases hk;exact h1
  |succ i=>exact e3 i t' k v ht hk
theorem HN{ls:List Lk}{pls st:List Str}(to:∀l∈ls,l.to∈pls)(nd:st.Nodup)(h:∀x∈st,x∈pls):∀x∈uT ls ↥pls 0 st,x∈pls:=λx hx=>by
 obtain⟨a,m,rfl⟩:=PM.mp hx;exact(tK to nd h).sb a m
inductive yL(A:Ö)(d:Nat)(vs:List V)(H:Hp)(Q:VK)(Ä:XK):Prop
 |mk (N X v b hs ds ms) (z0:vs=[v,.bl b]) (z1:aj X H) (z2:vc A N X v hs ds ms) (z3:OkT N d hs ds ms)
  (z4:∀(Á H'),aj H H'->H Á=Zr->H' Á=Zq (.dK (sk ((bg N hs ds ms).map Qc) (bV (A6 N b hs ds ms))))->Q (.ref Á) H'):yL A d vs H Q Ä
theorem AW (i):∀B H (Q Q':VK),(∀v H,Q v H->Q' v H)->G6 i B H Q->G6 i B H Q':=λB H Q Q' h hh=>by
 unfold G6 at hh⊢;split at hh
 ·exact h _ _ hh
 exact hh
theorem Hm:∀{ys:List V},Paired (λt y=>y=V.int (f t)) src ys->ys=(src.map f).map V.int:=by
 intro ys h;induction h with
 |nil=>rfl
 |cons h _ ih=>rw[h,ih];rfl
inductive CV(v:V)(b:Bool)(W:Sv)(Á:Sv)(H7:Hp)(pls:List Str)(rks:List Int)(ls:List Lk)(hs:List Pt)(j:Nat)(B:St)(Hd:Hp):Prop
 |mk (v4 v5):B=[Zq v,Zq (.bl b),Zq (.ref W),Zq (.ref Á),v4,v5]->Sm [Á] H7 Hd->Hd Á=Zq (.dK (sk (pls.map Qc) (bV ((rks.take j).foldl (λg r=>(uT ls ↥pls 0 (Zw N hs r)).foldl (Ũ r) g) λ_=>0))))->CV v b W Á H7 pls rks ls hs j B Hd
theorem Jr(T:Txt K mg A) (d):T.table.Hz P w base (3*d+11) (yL A d):=by
 refine T.table.hs (k:=3*d+10) ni (λf Ã A' outer s H vs Q E' hr hu h=>?_);obtain⟨N,X,v,b,hs,ds,ms,rfl,s0,pg,O,q⟩:=h;refine⟨_,(ab (Æ 2 ni.nd (ak (hj:=by lia) (Fy T d) hr (fv 0^fv 1^ae)))
  (ab (Æ 3 ni.nd (Ľ rM T.oG ((eJ (N:=["place"]) (own:=1) (fr:=[]) (cf.of (by kernel_rfl!)) rfl (bW (ak (hj:=by lia) (tL T d) hr (fv 0^ae))) (λb=>Ð (i:=0) (show Tf (["place"]:List T1) by decide+kernel) rfl) (λb=>kU) (λb=>aT (fv 0^af^ae)))^ae)))
  (ab (bY SH rfl (bW (xh T.l9 T.CZ ((eJ (N:=["place","rank"]) (own:=2) (fr:=[]) (cf.of (by kernel_rfl!)) rfl (bW (ak (hj:=by lia) (vN T) hr (fv 0^ae))) (λb=>dg rfl (aK (Ð (i:=0) (show Tf (["place","rank"]:List T1) by decide+kernel) rfl) (aK (Ð (i:=1) (show Tf (["place","rank"]:List T1) by decide+kernel) rfl) cu))) (λb=>kU) (λb=>fv 1))^ae))) (Ð (i:=4) ni.nd rfl)
   (ai (Ih SH rfl (ak (hj:=by lia) (JL T) hr (fv 2^(ak (hj:=by lia) (qS T) hr (fv 0^fv 4^ae))^ae)) (vI E5 (nK (AW 2) (nK (vI Fi (nK (AW 0) (nK (AW 4) y6))) y6))) (Ð (i:=5) ni.nd rfl)
    (ai (bX (ak (hj:=by lia) (Fx T) hr (px hu (fv 3) (fv 5)^(ak (hj:=by lia) (Lq T) hr (fv 4^ae))^ae)) (fV (fv 3) (fv 5) (fX hu Zx)))))))
  (ai (aD (fv 3)))))),?_⟩
 have pln:=O.l.ok.pl;have pnd:=O.l.ok.nd;refine ag λM1 K1=>{N,X,v,b,hs,ds,ms,rfl,s0,pg,O.l,O.fr b,λW kw wa H1 s1 hW=>K1 _ _ ?_};clear K1 M1;rfl'
 refine ag λM1 K1=>{N,X,v,hs,ds,ms,rfl,s0.trans s1,pg,O.l.ok,λL1 H2 s2 hL1 Ő=>?_};have Oto:=O.to b;have Oss:=O.ss;unfold A6 gF at q;generalize bI N b ds ms=ls at hW Oto q;generalize ÿ:bg N hs ds ms=pls at hW Oto Ő pln pnd Oss q;refine P1 {{_,À.of Ő},ft (K:=K) (own:=1) pls (λ_=>true) (λx y H=>∃t,y=V.ref t/\H t=Zq (.tup [.str x,.int 0])) (À.of Ő) (Pr _) (aH (by rw[Pr];lia)) ?_ ?_ ?_ ?_}
 ·intro b i x e v0 H1 Nn Y hx he hv s1 no yes;obtain⟨u0,rfl⟩:=ye hv;rw[P5,he]at hx;cases hx;refine show _/\∀p,H1 p=Zr->_ from{by show 2<=sizeLine;decide,λtp á=>?_};exact yes rfl [Zq (.str e)] _ _ rfl (aj.upd á _) ⟨tp,rfl,ao⟩
 ·rintro e y H1 H2 s1 ⟨t,e1,h1⟩;exact{t,e1,s1 _ _ h1}
 ·rintro e y H1 D ys zs hD ⟨t,e1,h1⟩;exact{t,e1,au (λz=>by rw[z,hD]at h1;cases h1) h1}
 intro L2' H3 ys hL2 s3 eL2 pr;rw[gj]at pr;obtain⟨ps,rfl,k1,k2⟩:=GG pr;have kl:(sk (pls.map Qc) (bV λ_=>0)).length=↥pls:=by rw[FH,Pr]
 have knd:((sk (pls.map Qc) (bV λ_=>0)).map (·.1)).Nodup:=by
  rw[show(sk (pls.map Qc) (bV λ_=>0)).map (·.1)=pls.map Qc by unfold sk;rw[QB];exact List.map_id' _];have h:=pnd;unfold Tf at h⊢;rw[Ra];exact h.imp λn e=>n (Qc.inj e)
 refine{L2',ps,_,rfl,À.of eL2,(),(),λi t k v ht hk=>Ç.of (k2 i t k v ht hk),λÁ hB=>?_};obtain⟨s4,eB⟩:=Í hB (HO.dK (bx [] (sk (pls.map Qc) (bV λ_=>0))));generalize upd H3 Á _=H4 at s4 eB⊢;rw[mw _ [] (by simpa using knd),Qi]at eB;have t3:=(s1.trans s2).trans s3;have t4:=t3.trans s4;have hB0:H Á=Zr:=aj.free t3 hB;have WB:W≠Á:=(Zs hB ((s2.trans s3) _ _ hW.d)).symm;have hW4:=hW.same ((s2.trans s3).trans s4);refine K1 _ _ ?_;clear K1 M1;rfl'
 refine ag λM1 K1=>{N,X,v,hs,ds,ms,rfl,s0.trans t4,pg,O.l.ok.hl,λL3 ss H5 s5 hL3 eL3 pr3=>?_};have hl3:=O.l.ok.hl;have ln3:=Sz pr3;have l3:(gC N hs).length<=↥hs:=by
  unfold gC;rw[Pr];exact QD _ _
 refine P1 {{_,À.of eL3},ft (K:=K) (own:=2) (gC N hs) (λ_=>true) (λs y _=>y=.int s.2) (À.of eL3) ln3.symm (aH ()) ?_ (λ_ _ _ _ _ h=>h) (λ_ _ _ _ _ _ _ h=>h) ?_}
 ·intro b i x t v0 H2 Nn Y hx he hv s2 no yes;obtain⟨u0,u1,rfl⟩:=Nd hv;obtain⟨t',ht,tp,rfl,Ϣ⟩:=bT pr3 hx;rw[he]at ht;cases ht;exact{tp,_,rfl,Ç.of (s2 _ _ Ϣ),rfl,_,_,rfl,_,_,rfl,rfl,yes rfl [Zq (.str t.1),Zq (.int t.2)] _ _ rfl (aj.refl _) rfl}
 intro L4 H6 zs hL4 s6 eL4 pz;rw[gj]at pz;have ez:=Hm pz;refine{L4,(gC N hs).map (·.2),rfl,À.of (by rw[eL4,ez]),λn hn=>?_,λLr hLr=>?_}
 ·obtain⟨s,m,rfl⟩:=PM.mp hn;exact O.rk s m
 obtain⟨s7,eLr⟩:=Í hLr (HO.lst ((Ź ((gC N hs).map (·.2))).map V.int));generalize upd H6 Lr _=H7 at s7 eLr⊢;have t57:=(s5.trans s6).trans s7;have t7:=t4.trans t57;have eB7:=t57 _ _ eB;have LrB:Lr≠Á:=Zs hLr ((s5.trans s6) _ _ eB);have hW7:=hW4.same t57;have rk3m:∀r∈Ź ((gC N hs).map (·.2)),0<=r/\r<=2:=λr hr=>by
  have:=(Qs.mp hr).1;simp only[Py,P7,or_false]at this;rcases this with h|h|h<;>rw[h]<;>decide
 generalize Ź ((gC N hs).map (·.2))=rks at eLr rk3m q;refine P1 {{_,À.of eLr},b4 (K:=K) (xs:=rks.map V.int) ((CV (N:=N) v b W Á H7 pls rks ls hs)) {Zr,Zr,rfl,Sm.refl _ _,eB7} (λj B Hd _ zz=>by obtain⟨_,_,_,z,_⟩:=zz;exact À.of (z _ _ (λm=>LrB (Pu.mp m)) eLr)) ?_ ?_}
 ·rintro j y B Hd hy ⟨v4,v5,rfl,sd,eBd⟩;rw[P5]at hy;cases hr':rks[j]? with
  |none=>rw[hr']at hy;cases hy
  |some r=>
  rw[hr']at hy;cases hy;have r02:=rk3m r (P4 hr');have Ŕ:=hZ (λg r=>(uT ls ↥pls 0 (Zw N hs r)).foldl (Ũ r) g) (λ_:Str=>(0:Int)) hr';generalize (rks.take j).foldl (λg r=>(uT ls ↥pls 0 (Zw N hs r)).foldl (Ũ r) g) (λ_=>0)=g0 at eBd Ŕ;have sX:aj H Hd:=sd.same t7 (λm hm=>by rw[Pu.mp hm];exact hB0);have hWd:=hW7.sm sd eB7 WB;rfl'
  refine{N,X,v,r,hs,ds,ms,rfl,s0.trans sX,pg,O.l.ok.hl,λS H8 s8 hS eS=>?_};have snd:(Zw N hs r).Nodup:=by
   unfold Zw;exact VR (Wl _ RU) O.sn
  have Ļ:∀x∈Zw N hs r,x∈pls:=λx hx=>by
   obtain⟨s,m,rfl⟩:=PM.mp hx;exact Oss s (Qs.mp m).1
  refine{W,S,kw,pls,wa,ls,Zw N hs r,rfl,hWd.same s8,eS,snd,Ļ,Oto,(),λC kc H9 s9 hC eC kk=>?_};have asub:=HN Oto snd Ļ;replace kk:kc.map (·.1)=(uT ls ↥pls 0 (Zw N hs r)).map Qc:=rX kk;generalize uT ls ↥pls 0 (Zw N hs r)=ar at kk Ŕ asub;have t9:=s8.trans s9;have eB9:=t9 _ _ eBd;have CB:C≠Á:=Zs hC (s8 _ _ eBd);have hC0:Hd C=Zr:=aj.free s8 hC;have kcl:↥kc=↥ar:=by
   have:=congrArg UP kk;simpa using this
  refine{C,kc,rfl,eC,λo nfz knd=>{λi B Hf=>∃v5,B=[Zq v,Zq (.bl b),Zq (.ref W),Zq (.ref Á),Zq (.int r),v5]/\Sm [Á,C] H9 Hf/\Hf C=Zq (.ā o (.dK kc))/\Hf Á=Zq (.dK (sk (pls.map Qc) (bV ((ar.take i).foldl (Ũ r) g0)))),{v5,rfl,Sm.at (PC _ PH) _,ao,au CB.symm eB9},λi B Hf _ ⟨_,_,_,z,_⟩=>z,?_,?_}}
  ·rintro i k u B Hf hk ⟨v5,rfl,sf,eCf,eBf⟩;have hx:(ar.map (Qc:Str->Key))[i]?=Zq k:=by rw[<-kk,P5,hk];rfl
   rw[P5]at hx;cases ha:ar[i]? with
   |none=>rw[ha]at hx;cases hx
   |some x=>
   rw[ha]at hx;cases hx;have mx:x∈pls:=asub x (P4 ha);have Ŋ:=hZ (Ũ r) g0 ha;rfl'
   refine Þ eBf (wY (Qp mx)) {r,rfl,r02,_,_,rfl,{_,nO.k (k:=.inr x) eBf (aH (by rw[FH,Pr];lia)),{_,rfl,sf.trans (Sm.at PH _),au CB eCf,?_}}};rw[ao,Ŋ];exact congrArg (λz=>Zq (HO.dK z)) (KN mx)
  rintro B Hf ⟨v5,rfl,sf,eCf,eBf⟩;rw[kcl,Qq]at eBf;refine{_,_,rfl,λa u na e=>?_,au CB.symm (by rw[Ŕ];exact eBf)};have ed:=sd a u na e;have aC:a≠C:=λz=>by rw[z,hC0]at ed;cases ed
  have aB:a≠Á:=λz=>na (Pu.mpr z);refine au aC (sf a u (λm=>?_) (t9 _ _ ed));rcases Py.mp m with z|m
  ·exact aB z
  exact aC (Pu.mp m)
 rintro B Hd ⟨v4,v5,rfl,sd,eBd⟩;rw[Pr,Qq]at eBd;exact K1 _ _ (q Á Hd (sd.same t7 (λm hm=>by rw[Pu.mp hm];exact hB0)) hB0 eBd)
def fU:Fr->Bool
 | .leaf (.ŏ _ _ _)=>true
 | .leaf (.lt _ _)=>true
 |_=>false
def sF(N:Nat->Str):Fr->Str×Int
 | .leaf (.ŏ i r _)=>(N i,r)
 | .leaf (.lt i r)=>(N i,r)
 |_=>(SQ,0)
theorem Gj (f):ý (V.str f.wd) [V.str "given",V.str "let"]=fU f:=by
 cases f with
 |leaf r=>cases r<;>rfl
 |_=>rfl
theorem EJ(h:MN ps dd f):fU f=false:=by
 cases f with
 |leaf r=>
  obtain⟨lp,h⟩:=h;cases r<;>first|rfl|exact h.elim
 |bq _ _=>exact h.elim
 |_=>rfl
theorem Ac:∀hs n,gC N (â n hs)=((hs.map Fr.leaf).filter fU).map (sF N)
 | [],n=>rfl
 |r::hs,n=>by
  have ih:=Ac hs (n+1);unfold gC at ih⊢;rw[â,P0,Q6,Q6];cases r<;>first
   | (show((Pt.leaf n _::(â (n+1) hs).filter qO).map (sOf N))=((Fr.leaf _::(hs.map Fr.leaf).filter fU).map (sF N));rw[P0,P0,ih];rfl)
   |exact ih
theorem Cv{α:Type}{p}{l:List α}(h:∀x∈l,p x=false):l.filter p=[]:=List.filter_eq_nil_iff.mpr λx hx=>by rw[h x hx];decide
theorem MM(O:eV hs ds mb):gC N (â 1 hs)=((Ć hs ds mb).filter fU).map (sF N):=by
 rw[Ac];congr 1;unfold Ć;rw[QG,QG];have h1:(bC ds).filter fU=[]:=Cv λf hf=>by
  unfold bC at hf;obtain⟨d,md,hf⟩:=Qu.mp hf;unfold Ċ at hf;rcases Py.mp hf with rfl|hf
  ·rfl
  rcases Pz.mp hf with hf|hf
  ·obtain⟨k,hk⟩:=Qb md;exact EJ (we _ _ (O.de.at' k d hk).2.2.1 f hf)
  rw[Pu.mp hf];rfl
 have h2:(Fr.main::(aA mb++[.fin])).filter fU=[]:=Cv λf hf=>by
  rcases Py.mp hf with rfl|hf
  ·rfl
  rcases Pz.mp hf with hf|hf
  ·exact EJ (we _ _ O.mo f hf)
  rw[Pu.mp hf];rfl
 rw[h1,h2,Qd,Qd]
theorem Fm (p) (h:fU f=true):∃ts,V.str f.wd::f.ts N p=V.str f.wd::V.str (sF N f).1::V.int (sF N f).2::ts:=by
 cases f with
 |leaf r=>cases r<;>first|exact{_,rfl}|cases h
 |_=>cases h
inductive Cn(ls:List Lk):Str->List Lk->Str->Prop
 |nil {x}:Cn ls x [] x
 |cons {l r y} (h:l∈ls) (q:Cn ls l.to r y):Cn ls l.fr (l::r) y
theorem IH(h:ã H ls ys):ã H ls.reverse ys.reverse:=by
 induction h with
 |nil=>exact .nil
 |cons h _ ih=>
  rw[Sd,Sd];exact PySem.Paired.snoc ih h
theorem yV(p:Paired (PV H) cs kvs)(nd:(cs.map (·.x)).Nodup)(m:a∈cs):∃v,L2.b5 kvs (.inr a.x)=Zq v/\PV H a (.inr a.x,v):=by
 obtain⟨j,hj⟩:=Qb m;obtain⟨⟨k,v⟩,h1,h2⟩:=ja p hj;have e:k=.inr a.x:=h2.1;subst e;exact{v,ZL (rX p) nd (P4 h1),h2}
inductive zr(A:Ö)(d:Nat)(vs:List V)(H:Hp)(Q:VK)(Ä:XK):Prop
 |mk (N X v x rk b hs ds ms) (z0:vs=[v,.str x,.int rk,.bl b]) (z1:aj X H) (z2:vc A N X v hs ds ms) (z3:OkT N d hs ds ms)
  (z4:(∀n,¬ Mn (bI N b ds ms) (Zw N hs rk) x n)->∀H',aj H H'->Q .Ê H')
  (z5:∀s ch R ys H',aj H H'->H R=Zr->H' R=Zq (.lst ys)->ã H' ch ys->s∈Zw N hs rk->Cn (bI N b ds ms) s ch x->Mn (bI N b ds ms) (Zw N hs rk) x ↥ch->Q (.ref R) H'):zr A d vs H Q Ä
inductive yg(v:V)(x:Str)(rk:Int)(b:Bool)(C F:Sv)(ls:List Lk)(cs:List Ar)(n:Nat)(H3:Hp)(m:Nat)(B:St)(Hd:Hp):Prop
 |mk (a fl ys lv):B=[Zq v,Zq (.str x),Zq (.int rk),Zq (.bl b),Zq (.ref C),Zq (.ref F),Zq lv]->Sm [F] H3 Hd->Hd F=Zq (.lst ys)->ã Hd fl ys->a∈cs->m=a.d->a.d+↥fl=n->Cn ls a.x fl.reverse x->PV Hd a (.inr a.x,lv)->yg v x rk b C F ls cs n H3 m B Hd
theorem wX(T:Txt K mg A) (d):T.chain.Hz P w base (3*d+11) (zr A d):=by
 refine T.chain.hs (k:=3*d+10) lR (λf Ã A' outer s H vs Q E' hr hu h=>?_);obtain⟨N,X,v,x,rk,b,hs,ds,ms,rfl,s0,pg,O,q0,q1⟩:=h;refine⟨_,(ab (Æ 4 lR.nd (ak (hj:=by lia) (JL T) hr ((ak (hj:=by lia) (Fy T d) hr (fv 0^fv 3^ae))^(ak (hj:=by lia) (qS T) hr (fv 0^fv 2^ae))^ae)))
  (ab (aS (Ë (dP hu) (fv 1) (fv 4) ((by with_unfolding_all rfl)))
   (ai (aD bJ))
   aF)
  (ab (Æ 5 lR.nd (aQ ae))
  (ab (Æ 6 lR.nd (px hu (fv 4) (fv 1)))
  (ab (fC SH (Ë eG (fv 6) bJ)
   (ab (aR (br (fv 5) (fv 6^ae)))
   (ai (Æ 6 lR.nd (px hu (fv 4) (px hu (fv 6) af))))))
  (ai (aD (Bp T.dG T.kK (fv 5))))))))),?_⟩
 have pln:=O.l.ok.pl;have snd:(Zw N hs rk).Nodup:=by
  unfold Zw;exact VR (Wl _ RU) O.sn
 have Ļ:∀y∈Zw N hs rk,y∈bg N hs ds ms:=λy hy=>by
  obtain⟨s,m,rfl⟩:=PM.mp hy;exact O.ss s (Qs.mp m).1
 have F:=tK (O.to b) snd Ļ;refine ag λM1 K1=>{N,X,v,b,hs,ds,ms,rfl,s0,pg,O.l,O.fr b,λW kw wa H1 s1 hW=>{N,X,v,rk,hs,ds,ms,rfl,s0.trans s1,pg,O.l.ok.hl,λS H2 s2 hS eS=>{W,S,kw,_,wa,_,_,rfl,hW.same s2,eS,snd,Ļ,O.to b,(),λC kvs H3 s3 hC eC kk=>K1 _ _ ?_}}};clear K1 M1;generalize Zw N hs rk=st at *;generalize bI N b ds ms=ls at *;generalize bg N hs ds ms=pls at *;generalize ko ls ↥pls 0 (Ŝ st)=cs at F kk;have t3:=(s1.trans s2).trans s3;have hz:=yt (rX kk) x;rfl'
 refine ag λM1 K1=>QQ {C,_,rfl,jd.k (k:=.inr x) eC,_,rfl,?_};rw[hz];by_cases mx:x∈cs.map (·.x)
 ·rw[decide_eq_true mx];refine a9 (K1 _ _ ?_);clear K1 M1 q0 hz;obtain⟨a0,ma0,rfl⟩:=PM.mp mx;have mn0:=F.mn ma0;have le0:=F.le _ ma0;rfl'
  refine ag λM1 K1=>{by show 0<=sizeLine;decide,λFa hF=>K1 _ _ ?_};clear K1 M1;obtain⟨s4,eF⟩:=Í hF (HO.lst []);generalize upd H3 Fa _=H4 at s4 eF⊢;have t4:=t3.trans s4;have hF0:H Fa=Zr:=aj.free t3 hF;have FC:Fa≠C:=Zs hF eC;obtain⟨v0,ev0,pv0⟩:=yV kk F.nd ma0;have eC4:=s4 _ _ eC;have kp4:∀t u,H3 t=Zq (.tup u)->H4 t=Zq (.tup u):=λt u e=>s4 _ _ e;have kk4:=kk.mono λ_ _ z=>PV.keep kp4 z;rfl'
  refine ag λM1 K1=>Þ eC4 ev0 (K1 _ _ ?_);clear K1 M1;rfl'
  refine ag λM1 K1=>{yg v a0.x rk b C Fa ls cs a0.d H4,{_,a0,[],[],v0,rfl,Sm.refl _ _,eF,.nil,ma0,rfl,rfl,.nil,pv0.keep kp4},?_};rintro m B Hd ⟨a,fl,ys,lv,rfl,sd,ϊ,lk,ma,rfl,en,cn,pv⟩;have eCd:=sd _ _ (λz=>FC (Pu.mp z).symm) eC4;have lys:=Sz lk;rcases F.pa a ma with⟨p0,p1,p2⟩|⟨l,b',p1,p2,p3,p4,p5,p6⟩
  ·have e:lv=.Ê:=by
    have:=pv.2;rw[p0]at this;exact this
   subst e;refine{rfl,_,rfl,a9 (K1 _ _ ?_)};clear K1 M1;refine{Fa,ys,rfl,À.of ϊ,λR hR=>?_};have sH:=sd.same t4 (λm hm=>by rw[Pu.mp hm];exact hF0);have s5:=aj.upd hR (HO.lst ys.reverse);refine q1 a.x fl.reverse R ys.reverse _ (sH.trans s5) (aj.free sH hR) ao (IH (lk.same λ_ _ z=>s5 _ _ z)) p1 cn ?_;rw[Xj,show ↥fl=a0.d by lia];exact mn0
  obtain⟨t,e,et⟩:∃t,lv=.ref t/\Hd t=Zq (.tup l.vs):=by
   have:=pv.2;rw[p1]at this;exact this
  subst e;refine{rfl,_,rfl,bQ ?_};clear K1;have tF:t≠Fa:=λz=>by rw[z,ϊ]at et;cases et
  refine{λB' H'=>∃m',m'<a.d/\yg v a0.x rk b C Fa ls cs a0.d H4 m' B' H',λ_ _ z=>z,?_};rfl'
  refine ag λN1 J1=>{P1 {rfl,_,À.of ϊ},_,_,_,rfl,rfl,ϊ,aH (),J1 _ _ ?_};clear J1 N1;obtain⟨v1,ev1,pv1⟩:=yV kk4 F.nd p4;have et2:upd Hd Fa (.lst (ys++[.ref t])) t=Zq (.tup l.vs):=au tF et;have eC2:upd Hd Fa (.lst (ys++[.ref t])) C=Zq (.dK kvs):=au FC.symm eCd;rfl'
  refine É (j:=0) (Ç.of et2) rfl (Þ eC2 (p5▸ev1) {_,(),b',fl++[l],ys++[.ref t],v1,rfl,sd.trans (Sm.at PH _),ao,Paired.two (lk.same λ_ _ z=>au (λy=>by rw[y,ϊ]at z;cases z) z) (.cons ⟨t,rfl,et2⟩ .nil),p4,rfl,by rw[Pq,Pw];lia,?_,?_})
  ·rw[List.reverse_append];have:=Cn.cons p2 (p3▸cn);rw[p5];exact this
  exact pv1.keep λt u e=>by
   have tn:t≠Fa:=λz=>by rw[z,eF]at e;cases e
   exact au tn (sd _ _ (λz=>tn (Pu.mp z)) e)
 rw[decide_eq_false mx];refine bQ (q0 (λn h=>mx ?_) _ t3);obtain⟨a,ma,e,_⟩:=F.al n _ h.1;exact PM.mpr ⟨a,ma,e⟩
theorem N6:∀n,Rn ls S n x->∃k,k<=n/\Mn ls S x k:=by
 intro n;induction n using Nat.strongRecOn with
 |_ n ih=>
  intro r;by_cases h:∃m,m<n/\Rn ls S m x
  ·obtain⟨m,l,r'⟩:=h;obtain⟨k,h1,h2⟩:=ih m l r';exact{k,(),h2}
  exact{n,Px _,r,λm r'=>Se λl=>h ⟨m,l,r'⟩}
theorem Np{ls:List Lk}{pls:List Str}(to:∀l∈ls,l.to∈pls)(sb:∀x∈S,x∈pls)(r:Rn ls S n x):x∈pls:=by
 cases r with
 |base h=>exact sb _ h
 |step h _=>exact to _ h
theorem BX:Mn ls S x 0↔x∈S:=by
 refine{λh=>?_,λh=>{.base h,λ_ _=>PZ _}};cases h.1 with
 |base h=>exact h
theorem BQ(h:Mn ls S x (n+1)):∃l∈ls,l.to=x/\Mn ls S l.fr n:=by
 obtain⟨r,m⟩:=h;cases r with
 |step h r=>exact{_,h,rfl,r,λk r'=>Nat.le_of_succ_le_succ (m _ (.step h r'))}
def fE(p:Str×Nat):Key×V:=(.inr p.1,.int (p.2:Int))
structure Fa(ls:List Lk)(S:List Str)(ß:Nat)(fs:List (Str×Nat)):Prop where
 nd:(fs.map (·.1)).Nodup
 m:∀x n,(x,n)∈fs↔Mn ls S x n/\n<=ß
structure Fb(ls:List Lk)(S:List Str)(ß:Nat)(L:List Lk)(fs:List (Str×Nat)):Prop where
 nd:(fs.map (·.1)).Nodup
 m:∀x n,(x,n)∈fs↔(Mn ls S x n/\n<=ß)\/(n=ß+1/\Mn ls S x n/\∃l∈L,l.to=x/\Mn ls S l.fr ß)
theorem Fb.mn(h:Fb ls S ß L fs)(m:(x,n)∈fs):Mn ls S x n:=((h.m x n).mp m).elim (·.1) (·.2.1)
theorem Fb.here(h:Fb ls S ß L fs):(x,ß)∈fs↔Mn ls S x ß:=by
 rw[h.m];exact{λh=>h.elim (·.1) λz=>(),λh=>.inl {h,Px _}}
theorem Fb.app(h:Fb ls S ß L fs)(hl:l∈ls)(c:(l.fr,ß)∈fs)(n:l.to∉fs.map (·.1)):Fb ls S ß (L++[l]) (fs++[(l.to,ß+1)]):=by
 have mf:=h.here.mp c;have mt:Mn ls S l.to (ß+1):=⟨.step hl mf.1,λm r=>by
  obtain⟨k,k1,k2⟩:=N6 m r;refine P2 (Nat.lt_of_not_le λz=>n ?_) k1;exact PM.mpr {_,(h.m _ _).mpr (.inl ⟨k2,z⟩),rfl}⟩
 refine{?_,λx k=>?_}
 ·rw[Qg];exact QR.mpr ⟨h.nd,by simp,λa ma b mb e=>by
   have z:b=l.to:=Pu.mp mb;exact n (z▸e▸ma)⟩
 rw[Pz,h.m,Pu];constructor
 ·rintro((g|⟨g1,g2,k',g3,g4⟩)|g)
  ·exact .inl g
  ·exact .inr {g1,g2,k',PY _ g3,g4}
  cases g;exact .inr {rfl,mt,l,PX _ PH,rfl,mf}
 rintro(g|⟨g1,g2,k',g3,g4,g5⟩)
 ·exact .inl (.inl g)
 rcases Pz.mp g3 with g3|g3
 ·exact .inl (.inr ⟨g1,g2,k',g3,g4,g5⟩)
 rw[Pu.mp g3]at g4;rw[g1,<-g4];exact .inr rfl
theorem Fb.no(h:Fb ls S ß L fs)(c:(l.fr,ß)∈fs->l.to∈fs.map (·.1)):Fb ls S ß (L++[l]) fs:=by
 refine{h.nd,λx k=>(h.m x k).trans (or_congr_right (and_congr_right λe=>and_congr_right λm=>{λ⟨k',g3,g4⟩=>{k',PY _ g3,g4},λz9=>?_}))};obtain⟨k',g3,g4,g5⟩:=z9;rcases Pz.mp g3 with g3|g3
 ·exact⟨k',g3,g4,g5⟩
 rw[Pu.mp g3]at g4 g5;obtain⟨p,mp,ep⟩:=PM.mp (c (h.here.mpr g5));obtain⟨p1,p2⟩:=p;have ep:p1=l.to:=ep;rw[ep,g4]at mp;have:=(h.mn mp).eq m;rw[this,e]at mp;rcases(h.m _ _).mp mp with⟨_,z⟩|⟨_,_,z⟩
 ·lia
 exact z
theorem Fb.fa(h:Fb ls S ß ls fs):Fa ls S (ß+1) fs:=⟨h.nd,λx n=>by
 rw[h.m];constructor
 ·rintro(⟨g1,g2⟩|⟨g1,g2,_⟩)
  ·exact{g1,()}
  exact{g2,()}
 rintro⟨g1,g2⟩;by_cases e:n<=ß
 ·exact .inl ⟨g1,e⟩
 have:n=ß+1:=()
 subst this;exact .inr ⟨rfl,g1,BQ g1⟩⟩
theorem Fa.fb(h:Fa ls S ß fs):Fb ls S ß [] fs:={h.nd,λx n=>(h.m x n).trans {.inl,λh=>h.elim id λ⟨_,_,_,z,_⟩=>nomatch z}}
theorem Fa.all(h:Fa ls S ß fs)(g:Fa ls S (ß+1) fs) (x n):(x,n)∈fs↔Mn ls S x n:=by
 refine{λm=>((h.m x n).mp m).1,λm=>(h.m x n).mpr {m,?_}};have:∀k y,¬ Mn ls S y (ß+1+k):=by
  intro k;induction k with
  |zero=>exact λy z=>Nat.not_succ_le_self ß ((h.m _ _).mp ((g.m _ _).mpr {z,Px _})).2
  |succ k ih=>
   intro y z;obtain⟨l,_,_,z⟩:=BQ z;exact ih _ z
 refine Se λz=>this (n-(ß+1)) x ?_;rw[show ß+1+(n-(ß+1))=n by lia];exact m
theorem MA{fs:List (Str×Nat)}:(fs.map fE).map (·.1)=(fs.map (·.1)).map Qc:=by
 rw[QB,QB];rfl
theorem xE{fs:List (Str×Nat)}(nd:(fs.map (·.1)).Nodup)(m:(x,n)∈fs):L2.b5 (fs.map fE) (.inr x)=Zq (.int (n:Int)):=ZL MA nd (PM.mpr {_,m,rfl})
theorem wR{fs:List (Str×Nat)}:(L2.b5 (fs.map fE) (.inr x)).isSome=decide (x∈fs.map (·.1)):=yt MA x
theorem BR{fs:List (Str×Nat)}(h:x∉fs.map (·.1)):L2.b5 (fs.map fE) (.inr x)=Zr:=BS MA h
theorem FV(h:x∉fs.map (·.1))(n:Nat):Zz (fs.map fE) (.inr x) (.int (n:Int))=(fs++[(x,n)]).map fE:=by
 rw[uB _ (BR h),Qg];rfl
theorem AJ{ls:List Lk}{pls:List Str}(to:∀l∈ls,l.to∈pls)(sb:∀x∈S,x∈pls){fs:List (Str×Nat)}(nd:(fs.map (·.1)).Nodup)(h:∀x n,(x,n)∈fs->Mn ls S x n):↥fs<=↥pls:=by
 have:=iV nd λx hx=>by
  obtain⟨p,m,rfl⟩:=PM.mp hx;exact Np to sb (h _ _ m).1
 rwa [Pr]at this
inductive CM(vs:List V)(H:Hp)(Q:VK)(Ä:XK):Prop
 |mk (L Á ys ls) (S pls:List Str) (z0:vs=[.ref L,.ref Á]) (z1:H L=Zq (.lst ys)) (z2:ã H ls ys) (z3:H Á=Zq (.lst (sS S))) (z4:S.Nodup) (z5:∀x∈S,x∈pls) (z6:∀l∈ls,l.to∈pls) (z7:↥pls<=900)
  (z8:∀D (fs:List (Str×Nat)) H',aj H H'->H D=Zr->H' D=Zq (.dK (fs.map fE))->(fs.map (·.1)).Nodup->(∀x n,(x,n)∈fs↔Mn ls S x n)->Q (.ref D) H'):CM vs H Q Ä
inductive Cz(L Á D:Sv)(H1:Hp)(S:List Str)(i:Nat)(B:St)(Hd:Hp):Prop
 |mk (v3):B=[Zq (.ref L),Zq (.ref Á),Zq (.ref D),v3,Zr,Zr,Zr]->Sm [D] H1 Hd->Hd D=Zq (.dK (((S.take i).map λx=>(x,0)).map fE))->Cz L Á D H1 S i B Hd
inductive yd(L Á D:Sv)(v3:Option V)(H1:Hp)(ls:List Lk)(S pls:List Str)(m:Nat)(B:St)(Hd:Hp):Prop
 |mk (ß g) (fs:List (Str×Nat)) (v6):B=[Zq (.ref L),Zq (.ref Á),Zq (.ref D),v3,Zq (.int ((ß:Nat):Int)),Zq (.bl g),v6]->Sm [D] H1 Hd->Hd D=Zq (.dK (fs.map fE))->(fs.map (·.1)).Nodup->(g=true->Fa ls S ß fs)->(g=false->∀x n,(x,n)∈fs↔Mn ls S x n)->m=(if g=true then ↥pls+1-↥fs else 0)->yd L Á D v3 H1 ls S pls m B Hd
inductive wM(L Á D:Sv)(v3:Option V)(ß:Nat)(fs0:List (Str×Nat))(H1:Hp)(ls:List Lk)(S pls:List Str)(i:Nat)(B:St)(Hd:Hp):Prop
 |mk (g fs v6):B=[Zq (.ref L),Zq (.ref Á),Zq (.ref D),v3,Zq (.int ((ß):Int)),Zq (.bl g),v6]->Sm [D] H1 Hd->Hd D=Zq (.dK (fs.map fE))->Fb ls S ß (ls.take i) fs->(g=true->↥fs0<↥fs)->(g=false->fs=fs0)->wM L Á D v3 ß fs0 H1 ls S pls i B Hd
theorem Gu(T:Txt K mg A):T.xC.Hz P w base 1 CM:=by
 refine T.xC.hs dm (λf Ã A' outer s H vs Q E' hr hu h=>?_);obtain⟨L,Á,ys,ls,S,pls,rfl,eL,lk,eB,nd,sb,to,pln,q⟩:=h;refine⟨_,(ab (Æ 2 dm.nd (tS))
  (ab (bY SH rfl (bW (fv 1)) (Ð (i:=3) dm.nd rfl)
   (ai (bX af (fV (fv 2) (fv 3) (fX hu Zx)))))
  (ab (Æ 4 dm.nd af)
  (ab (Æ 5 dm.nd pq)
  (ab (fC SH (bE (fv 5) (λ_=>rfl))
   (ab (Æ 5 dm.nd pq)
   (ab (bY SH rfl (bW (fv 0)) (Ð (i:=6) dm.nd rfl)
    (ai (aS (PW.pt (pw_and (Ë (bU hu) (Ga (RC (Xk (by decide:1<=64) _) hu) (fv 2) (px hu (fv 6) af) (mE ik af) ⟨rfl,rfl,rfl,rfl⟩) (fv 4)) (pw_and1 (Ë (dP hu) (px hu (fv 6) af) (fv 2) ((by with_unfolding_all rfl))))))
     (ab (bX (az aO (fv 4) af) (fV (fv 2) (px hu (fv 6) af) (fX hu Zx)))
     (ai (Æ 5 dm.nd pq)))
     aF)))
   (ai (Æ 4 dm.nd (az aO (fv 4) af))))))
  (ai (aD (fv 2)))))))),?_⟩
 have lys:=Sz lk;have lS:=iV nd sb;refine ag λM1 K1=>λD hD=>K1 _ _ ?_;clear K1 M1;obtain⟨s1,eD⟩:=Í hD (HO.dK []);generalize upd H D _=H1 at s1 eD⊢;have LD:L≠D:=(Zs hD eL).symm;have BD:Á≠D:=(Zs hD eB).symm;have Ő:=s1 _ _ eL;have eB1:=s1 _ _ eB;have lk1:ã H1 ls ys:=lk.same λ_ _ z=>s1 _ _ z;have keep:∀{Hd},Sm [D] H1 Hd->∀a u,a≠D->H1 a=Zq u->Hd a=Zq u:=λs a u n e=>s a u (λz=>n (Pu.mp z)) e;rfl'
 refine ag λM1 K1=>P1 {{_,À.of eB1},b4 (K:=K) (xs:=sS S) (Cz L Á D H1 S) {Zr,rfl,Sm.refl _ _,eD} (λj B Hd _ zz=>by obtain⟨_,_,z,_⟩:=zz;exact À.of (keep z _ _ BD eB1)) ?_ ?_}
 ·rintro j y B Hd hy ⟨v3,rfl,sd,ϵ⟩;clear K1 q;unfold sS at hy;rw[P5]at hy;cases hx:S[j]? with
  |none=>rw[hx]at hy;cases hy
  |some x=>
  rw[hx]at hy;cases hy;have jl:=(PQ.mp hx).1;have nx:x∉((S.take j).map λx=>(x,0)).map (·.1):=λm=>by
   rw[QB]at m;have m:x∈(S.take j).map id:=m;rw[List.map_id]at m;obtain⟨i,hi⟩:=Qb m;have il:=(PQ.mp hi).1;rw[Qo]at il;rw[Rc ()]at hi;exact absurd (RL nd |>.mp ((PQ.mp hi).2.trans (PQ.mp hx).2.symm)) ()
  rfl'
  refine{_,nO.k (k:=.inr x) ϵ (aH (by simp;lia)),{_,rfl,sd.trans (Sm.at PH _),?_}};have tk:(S.take (j+1)).map (λx=>(x,0))=(S.take j).map (λx=>(x,0))++[(x,0)]:=by
   rw[Qv,hx];exact Qg
  rw[ao,show(V.int 0)=V.int ((0:Nat):Int)from rfl,FV nx,tk]
 rintro B Hd ⟨v3,rfl,sd,ϵ⟩;have e0:(sS S).length=S.length:=Pr _;rw[e0,Qq]at ϵ;refine K1 _ _ ?_;clear K1 M1;rfl'
 refine ag λM1 K1=>K1 _ _ ?_;clear K1 M1;rfl'
 refine ag λM1 K1=>K1 _ _ ?_;clear K1 M1;have F0:Fa ls S 0 (S.map λx=>(x,0)):=⟨by rw[QB];exact(List.map_id _).symm▸nd,λx n=>by
  rw[PM];constructor
  ·rintro⟨y,m,e⟩;cases e;exact{BX.mpr m,Px _}
  rintro⟨m,z⟩;have:n=0:=()
  subst this;exact⟨x,BX.mp m,rfl⟩⟩
 rfl'
 refine ag λM1 K1=>{yd L Á D v3 H1 ls S pls,{_,0,true,_,Zr,rfl,sd,ϵ,F0.nd,λ_=>F0,(λz=>nomatch z),rfl},?_};clear ϵ sd F0;rintro m B Hd ⟨ß,g,fs,v6,rfl,sd,ϵ,fnd,f1,f2,rfl⟩;refine{_,rfl,?_};cases g with
 |false=>exact a9 (K1 _ _ (q D fs Hd (sd.same s1 λm hm=>by rw[Pu.mp hm];exact hD) hD ϵ fnd (f2 rfl)))
 |true=>
  refine bQ ?_;clear K1 q f2;have FA:=f1 rfl;have fl:=AJ to sb fnd λx n m=>((FA.m x n).mp m).1;refine{λB' H'=>∃m',m'<↥pls+1-↥fs/\yd L Á D v3 H1 ls S pls m' B' H',λ_ _ z=>z,?_};rfl'
  refine ag λN1 J1=>J1 _ _ ?_;clear J1 N1;rfl'
  refine ag λN1 J1=>P1 {{_,À.of (keep sd _ _ LD Ő)},b4 (K:=K) (xs:=ys) (wM L Á D v3 ß fs H1 ls S pls) {false,fs,v6,rfl,sd,ϵ,FA.fb,(λz=>nomatch z),λ_=>rfl} (λj B He _ zz=>by obtain⟨_,_,_,_,z,_⟩:=zz;exact À.of (keep z _ _ LD Ő)) ?_ ?_}
  ·rintro j y B He hy ⟨g,ϴ,v6,rfl,se,eDe,FB,g1,g2⟩;clear J1;obtain⟨l,hl,t,rfl,et⟩:=bT lk1 hy;have ml:=P4 hl;have tD:t≠D:=λz=>by rw[z,eD]at et;cases et
   have hT:=Ç.of (K:=K) (keep se _ _ tD et);have fl':=AJ to sb FB.nd λx n m=>FB.mn m;have tk:ls.take (j+1)=ls.take j++[l]:=by rw[Qv,hl];rfl
   rfl'
   refine{D,rfl,.inl {_,.inl eDe},É (j:=0) hT rfl {_,rfl,_,jd.k (k:=.inr l.fr) eDe,?_}};have no:((l.fr,ß)∈ϴ->l.to∈ϴ.map (·.1))->wM L Á D v3 ß fs H1 ls S pls (j+1) [Zq (.ref L),Zq (.ref Á),Zq (.ref D),v3,Zq (.int ((ß:Nat):Int)),Zq (.bl g),Zq (.ref t)] He:=λc=>
    {g,ϴ,_,rfl,se,eDe,tk▸FB.no c,g1,g2}
   by_cases hm:l.fr∈ϴ.map (·.1)
   ·obtain⟨⟨x,n⟩,mn,e⟩:=PM.mp hm;have e:x=l.fr:=e;subst e;rw[xE FB.nd mn];refine{rfl,_,rfl,aV (λc=>?_) (λc=>a9 (no λm=>absurd (decide_eq_true ?_) c))}
    ·have en:n=ß:=Int.ofNat.inj (V.int.inj (of_decide_eq_true c));subst en;refine É (j:=1) hT rfl (QQ {D,_,rfl,jd.k (k:=.inr l.to) eDe,_,rfl,?_});rw[wR];by_cases mt:l.to∈ϴ.map (·.1)
     ·rw[decide_eq_true mt];exact a9 (no λ_=>mt)
     rw[decide_eq_false mt];refine bQ (ag λO1 I1=>É (j:=1) hT rfl {_,nO.k (k:=.inr l.to) eDe (aH (by rw[Pr];lia)),I1 _ _ ?_});clear I1 O1;rfl'
     refine{true,ϴ++[(l.to,n+1)],_,rfl,se.trans (Sm.at PH _),?_,tk▸FB.app ml mn mt,λ_=>?_,(λz=>nomatch z)}
     ·rw[ao,<-FV mt];rfl
     rw[Pq,Pw];cases g with
     |true=>have:=g1 rfl;lia
     |false=>rw[g2 rfl];lia
    rw[(FB.mn mn).eq (FB.mn m)];rfl
   rw[BR hm];refine{rfl,_,rfl,aV (λc=>?_) (λc=>a9 (no λm=>absurd (PM.mpr {_,m,rfl}) hm))};have:(-1:Int)=(ß:Int):=V.int.inj (of_decide_eq_true c);lia
  rintro B He ⟨g,ϴ,v6,rfl,se,eDe,FB,g1,g2⟩;rw[show ls.take ↥ys=ls by rw[<-lys];exact Qq]at FB;have fl':=AJ to sb FB.nd λx n m=>FB.mn m;refine J1 _ _ ?_;clear J1 N1;refine{_,?_,ß+1,g,ϴ,v6,rfl,se,eDe,FB.nd,λ_=>FB.fa,λe x n=>?_,rfl}
  ·cases g with
   |true=>have:=g1 rfl;rw[if_pos rfl];lia
   |false=>rw[if_neg PU];lia
  have e2:=g2 e;subst e2;exact FA.all FB.fa x n
theorem MX:∀l∈bI N b ds ms,SR l.kd=true:=by
 intro l hl;have dr:∀{fs:List (Option Str)}{into kd:Str}{n:Int},SR kd=true->l∈ô fs into kd n->SR l.kd=true:=λh1 h=>by
  obtain⟨x,_,_,rfl⟩:=BL.mp h;exact h1
 have v:SR "value"=true:=by decide+kernel
 have u:SR "under"=true:=by decide+kernel
 have t:SR "test"=true:=by decide+kernel
 have st:SR "steps"=true:=by decide+kernel
 have di:∀{p:Pt}{into kd:Str}{pl:Option Str},SR kd=true->l∈ϋ N p into kd pl->SR l.kd=true:=λh1 h=>by
  rcases Pz.mp h with h|h
  ·exact dr h1 h
  exact dr u h
 unfold bI at hl;obtain⟨e,_,hl⟩:=Qu.mp hl;rcases Pz.mp hl with h|h
 ·obtain⟨p,pl,lp⟩:=e;cases p with
  |leaf n r=>
   cases r with
   |set _ _|put _ _ _|snd _ _=>exact di v h
   |last=>exact dr u h
   |say _ _ _=>
    rcases Pz.mp h with h|h
    ·rcases Pz.mp h with h|h
     ·exact dr v h
     exact dr u h
    exact dr u h
   |call _ _=>
    rcases Pz.mp h with h|h
    ·obtain⟨x,_,h⟩:=Qu.mp h;unfold wN at h;split at h
     ·cases h
     exact dr v h
    obtain⟨x,_,h⟩:=Qu.mp h;exact dr u h
   |_=>cases h
  |iff|loop=>exact di t h
  |_=>cases h
 unfold ua at h;split at h
 ·unfold uL at h;split at h
  ·rw[Pu.mp h];exact st
  split at h
  ·rw[Pu.mp h];exact st
  cases h
 cases h
theorem LU(h:ã H ls ys):∃ts:List Sv,ys=ts.map V.ref/\(∀t∈ts,∃l∈ls,H t=Zq (.tup l.vs))/\∀l∈ls,∃t∈ts,H t=Zq (.tup l.vs):=by
 induction h with
 |nil=>exact{[],rfl,(λt h=>nomatch h),λt h=>nomatch h}
 |@cons l y _ _ h _ ih=>
  obtain⟨t,rfl,ht⟩:=h;obtain⟨ts,rfl,p,g⟩:=ih;refine{t::ts,rfl,λu hu=>?_,λk hk=>?_}
  ·rcases Py.mp hu with rfl|hu
   ·exact⟨l,PH,ht⟩
   obtain⟨l',m,e⟩:=p u hu;exact{l',PC _ m,e}
  rcases Py.mp hk with rfl|hk
  ·exact⟨t,PH,ht⟩
  obtain⟨u,m,e⟩:=g k hk;exact{u,PC _ m,e}
theorem BN(h:ã H ls ys):(∀l∈ls,l.vs.all ϫ=true)->∃ds,eZ K H ys ds/\Ta ds=true/\Tg ds<=1:=by
 induction h with
 |nil=>exact λ_=>{[],.nil,rfl,PZ _}
 |@cons l y _ _ h _ ih=>
  intro ok;obtain⟨t,rfl,ht⟩:=h;obtain⟨ds,h1,h2,h3⟩:=ih λl m=>ok l (PC _ m);obtain⟨g1,g2,g3⟩:=xP (K:=K) (H:=H) (ok l PH);refine{_::ds,.cons (.tup (Ç.of ht) g1) h1,by simp[Ta,TJ,g2,h2],?_};simp only[Tg,Uh,g3];lia
theorem JH(h:Cn ls s ch x):∀l∈ch,l∈ls:=by
 induction h with
 |nil=>exact λl h=>nomatch h
 |cons h _ ih=>
  intro l hl;rcases Py.mp hl with rfl|hl
  ·exact h
  exact ih l hl
def fT(H:Hp)(b:Sv):List V:=match H b with
 |some (.tup v)=>v
 |_=>[]
theorem JZ(h:H b=Zq (.tup v)):fT H b=v:=by
 unfold fT;rw[h]
inductive qt(vs:List V)(H:Hp)(Q:VK)(Ä:XK):Prop
 |mk (R L Á x ys zs ch ls S s):vs=[.ref R,.ref L,.ref Á,.str x,.int ((↥ch:Nat):Int)]->H R=Zq (.lst ys)->ã H ch ys->H L=Zq (.lst zs)->ã H ls zs->(∀l∈ls,l.vs.all ϫ=true)->H Á=Zq (.lst (sS S))->s∈S->Cn ls s ch x->(∀H',aj H H'->Q (.bl true) H')->qt vs H Q Ä
inductive Bw(R L Á:Sv)(x:Str)(n:Int)(ls ch:List Lk)(H1:Hp)(i:Nat)(B:St)(Hd:Hp):Prop
 |mk (a v6):B=[Zq (.ref R),Zq (.ref L),Zq (.ref Á),Zq (.str x),Zq (.int n),Zq (.str a),v6]->Hd=H1->Cn ls a (ch.drop i) x->Bw R L Á x n ls ch H1 i B Hd
theorem tI(T:Txt K mg A):T.qj.Hz P w base 1 qt:=by
 refine T.qj.hs gZ (λf Ã A' outer s0 H vs Q E' hr hu h=>?_);obtain⟨R,L,Á,x,ys,zs,ch,ls,S,s,rfl,eR,lr,eL,ll,ok,eB,ms,cn,q⟩:=h;refine⟨_,(ab (aS (PW.pt (pw_or (tQ (bE (à aZ T.aG (fv 0^(rQ (v:=.ty "list") rfl T.dG (by boot_by_name) rfl)^ae)) (λ_=>rfl))) (pw_or1 (Ë (rF hu) (à fI T.gO (fv 0^ae)) (fv 4)))))
   (ai (aD pq))
   aF)
  (ab (aS (Ë (bU hu) (fv 0) (aQ ae))
   (ai (aD (Ϫ (vR hu) (fv 3) (fv 2) ((by with_unfolding_all rfl)))))
   aF)
  (ab (Æ 5 gZ.nd (px hu (px hu (fv 0) af) af))
  (ab (aS (Ë (dP hu) (fv 5) (fv 2) ((by with_unfolding_all rfl)))
   (ai (aD pq))
   aF)
  (ab (bY SH rfl (bW (fv 0)) (Ð (i:=6) gZ.nd rfl)
   (ab (aS (PW.pt (pw_or (tQ (bE (à aZ T.aG (fv 6^(rQ (v:=.ty "tuple") rfl T.rO (by boot_by_name) rfl)^ae)) (λ_=>rfl))) (pw_or (Ë (G9 hu) (fv 6) (fv 1) ((by with_unfolding_all rfl))) (pw_or1 (Ë (rF hu) (px hu (fv 6) af) (fv 5))))))
    (ai (aD pq))
    aF)
   (ai (Æ 5 gZ.nd (px hu (fv 6) af)))))
  (ai (aD (Ϫ (bU hu) (fv 5) (fv 3))))))))),?_⟩
 have lys:=Sz lr;have fl:=nJ S;refine ag λM1 K1=>{_,_,_,true,rfl,(λz=>nomatch z),.lst eR,rfl,{_,rfl,a9 (ϯ eR {rfl,_,rfl,aV (λc=>absurd c (by rw[lys];simp)) (λ_=>K1 _ _ ?_)})}};clear K1 M1;obtain⟨ds,r1,r2,r3⟩:=BN (K:=K) lr λl m=>ok l (JH cn l m);rfl'
 refine ag λM1 K1=>{by show 0<=sizeLine;decide,λE hE=>?_};obtain⟨s1,eE⟩:=Í hE (HO.lst []);generalize upd H E _=H1 at s1 eE⊢;have ſ:=s1 _ _ eR;obtain⟨ds1,r1',r2',r3'⟩:=BN (K:=K) (lr.same λ_ _ z=>s1 _ _ z) λl m=>ok l (JH cn l m);refine P1 (P1 {.list ds1,.list [],.lst (À.of ſ) r1',.lst (À.of eE) .nil,?_,rfl,_,rfl,?_})
 ·simp only[TY,TJ,Uh,r2',R5];exact decide_eq_true ()
 cases ch with
 |nil=>
  cases lr;cases r1';refine bQ (P1 {_,P1 (À.of (s1 _ _ eB)),rfl,fl,?_});cases cn;show Q (.bl (ý (V.str x) (sS S))) H1;rw[kN,decide_eq_true ms];exact q _ s1
 |cons l r=>
  cases lr with
  |@cons _ y _ ys h lr=>
  obtain⟨t,rfl,et⟩:=h;cases r1' with
  |cons _ _=>
  refine a9 (K1 _ _ ?_);clear K1 M1;have es:s=l.fr:=by cases cn;rfl
  subst es;have lr1:ã H1 (l::r) (.ref t::ys):=.cons {t,rfl,s1 _ _ et} ((show ã H r ys from lr).same λ_ _ z=>s1 _ _ z);have ll1:ã H1 ls zs:=ll.same λ_ _ z=>s1 _ _ z;have Ő:=s1 _ _ eL;have eB1:=s1 _ _ eB;obtain⟨ts,ezs,t1,t2⟩:=LU ll1;rfl'
  refine ag λM1 K1=>Ħ (j:=0) (À.of ſ) rfl (É (j:=0) (Ç.of (s1 _ _ et)) rfl (K1 _ _ ?_));clear K1 M1;rfl'
  refine ag λM1 K1=>P1 {_,P1 (À.of eB1),rfl,fl,_,rfl,aV (λc=>absurd c ?_) (λ_=>K1 _ _ ?_)}
  ·show ¬ (!ý (V.str l.fr) (sS S))=true;rw[kN,decide_eq_true ms];decide
  clear K1 M1;rfl'
  refine ag λM1 K1=>P1 {{_,À.of ſ},b4 (K:=K) (xs:=.ref t::ys) (Bw R L Á x ((↥r+1:Nat):Int) ls (l::r) H1) ⟨l.fr,Zr,rfl,rfl,cn⟩ (λi B Hd _ zz=>by obtain⟨_,_,_,z,_⟩:=zz;rw[z];exact À.of ſ) ?_ ?_}
  ·rintro i y B Hd hy ⟨a,v6,rfl,rfl,cd⟩;clear K1;obtain⟨k,hk,u,rfl,eu⟩:=bT lr1 hy;have hT:=Ç.of (K:=K) eu;have il:=(PQ.mp hk).1;have ed:(l::r).drop i=k::(l::r).drop (i+1):=by rw[QY il,(PQ.mp hk).2]
   rw[ed]at cd;obtain⟨ea,mk,cd'⟩:a=k.fr/\k∈ls/\Cn ls k.to ((l::r).drop (i+1)) x:=by
    cases cd with
    |cons h q=>exact⟨rfl,h,q⟩
   subst ea;obtain⟨u',mu',eu'⟩:=t2 k mk;rfl'
   refine ag λN1 J1=>{_,_,_,true,rfl,(λz=>nomatch z),.tup eu,rfl,{_,rfl,a9 {u,L,k.vs,ts,fT Hd,rfl,rfl,hT,ok k mk,ezs▸À.of Ő,λb hb=>?_,_,rfl,aV (λc=>absurd c ?_) (λ_=>É (j:=0) hT rfl {rfl,_,rfl,aV (λc=>absurd c ?_) (λ_=>J1 _ _ ?_)})}}}
   ·obtain⟨l',m',e'⟩:=t1 b hb;rw[JZ e'];exact⟨Ç.of e',ok l' m'⟩
   ·rw[Ru.mpr {u',mu',decide_eq_true (JZ eu')}];decide
   ·rw[decide_eq_true rfl];decide
   clear J1 N1;rfl'
   exact É (j:=1) hT rfl {_,_,rfl,rfl,cd'}
  rintro B Hd ⟨a,v6,rfl,rfl,cd⟩;refine K1 _ _ ?_;clear K1 M1;have el:(V.ref t::ys).length=(l::r).length:=(Sz lr1).symm;rw[el,List.drop_length]at cd;cases cd;refine{rfl,?_};rw[decide_eq_true rfl];exact q _ s1
theorem wJ:∀(cs:List Str)(g:Str->Int),cs.Nodup->∀x,(cs.foldl (Ũ r) g) x=if x∈cs then Tv (g x) (1*2^r.toNat)else g x
 | [],g,_,x=>by simp
 |c::cs,g,nd,x=>by
  rw[Qt]at nd;rw[QS,wJ cs _ nd.2 x];by_cases e:x=c
  ·subst e;rw[if_neg nd.1,if_pos PH];show(if x=x then _ else _)=_;rw[if_pos rfl]
  have h:Ũ r g c x=g x:=if_neg e;rw[h];by_cases m:x∈cs
  ·rw[if_pos m,if_pos (PC _ m)]
  rw[if_neg m,if_neg λz=>(Py.mp z).elim e m]
theorem p7{α β:Type}{p}{F:β->α->β}:∀(l:List α)(g:β),(∀r∈l,p r=false->∀g,F g r=g)->(l.filter p).foldl F g=l.foldl F g
 | [],g,_=>rfl
 |r::l,g,h=>by
  rw[Q6,QS];cases e:p r with
  |true=>rw[if_pos rfl,QS];exact p7 l _ λx hx=>h x (PC _ hx)
  |false=>rw[if_neg PU,h r PH e];exact p7 l _ λx hx=>h x (PC _ hx)
theorem IF (ls):∀n,uT ls n 0 []=[]
 |0=>rfl
 |n+1=>rfl
theorem uf(sn:((gC N hs).map (·.1)).Nodup) (r):(Zw N hs r).Nodup:=by
 unfold Zw;exact VR (Wl _ RU) sn
theorem sr(O:OkT N d hs ds ms) (r):∀y∈Zw N hs r,y∈bg N hs ds ms:=λy hy=>by
 obtain⟨s,m,rfl⟩:=PM.mp hy;exact O.ss s (Qs.mp m).1
theorem GS:Tv 0 1=1/\Tv 0 2=2/\Tv 1 2=3/\Tv 0 4=4/\Tv 1 4=5/\Tv 2 4=6/\Tv 3 4=7:=by decide+kernel
def bt(c:Bool):Int:=if c=true then 1 else 0
theorem E4(O:OkT N d hs ds ms) (x):A6 N b hs ds ms x=bt (decide (x∈gF N b hs ds ms 0))+2*bt (decide (x∈gF N b hs ds ms 1))+4*bt (decide (x∈gF N b hs ds ms 2)):=by
 have nd:∀r,(gF N b hs ds ms r).Nodup:=λr=>Mc (O.to b) (uf O.sn r) (sr O r);unfold A6 Ź;rw[p7 (F:=λg r=>(gF N b hs ds ms r).foldl (Ũ r) g) [0,1,2] _ (λr _ h g=>by
  have e:Zw N hs r=[]:=by
   unfold Zw;rw[List.filter_eq_nil_iff.mpr]
   ·rfl
   intro s Ě z;exact of_decide_eq_false h (PM.mpr ⟨s,Ě,of_decide_eq_true z⟩)
  show(gF N b hs ds ms r).foldl (Ũ r) g=g;unfold gF;rw[e,IF];rfl)]
 show((gF N b hs ds ms 2).foldl (Ũ 2) ((gF N b hs ds ms 1).foldl (Ũ 1) ((gF N b hs ds ms 0).foldl (Ũ 0) λ_=>0))) x=_;rw[wJ _ _ (nd 2),wJ _ _ (nd 1),wJ _ _ (nd 0)];obtain⟨o1,o2,o3,o4,o5,o6,o7⟩:=GS;have p0:(1:Int)*2^(0:Int).toNat=1:=∅
 have p1:(1:Int)*2^(1:Int).toNat=2:=∅
 have p2:(1:Int)*2^(2:Int).toNat=4:=∅
 rw[p0,p1,p2];unfold bt;by_cases h0:x∈gF N b hs ds ms 0<;>by_cases h1:x∈gF N b hs ds ms 1<;>by_cases h2:x∈gF N b hs ds ms 2<;>simp[h0,h1,h2,o1,o2,o3,o4,o5,o6,o7]
theorem HH(O:OkT N d hs ds ms) (x):∀r:Nat,r<3->∃c:Int,[V.int 1,V.int 2,V.int 4][r]?=Zq (.int c)/\Gk 0 c/\(A6 N b hs ds ms x/c%2=1↔∃n,Mn (bI N b ds ms) (Zw N hs (r:Int)) x n):=by
 intro r hr;have e:=E4 (b:=b) O x;have k:∀r:Nat,bt (decide (x∈gF N b hs ds ms (r:Int)))=1↔∃n,Mn (bI N b ds ms) (Zw N hs (r:Int)) x n:=λr=>by
  rw[<-IC (O.to b) (uf O.sn r) (sr O r)];show bt (decide (x∈gF N b hs ds ms (r:Int)))=1↔x∈gF N b hs ds ms (r:Int);unfold bt;by_cases h:x∈gF N b hs ds ms (r:Int)
  ·rw[decide_eq_true h,if_pos rfl];exact{λ_=>h,λ_=>rfl}
  rw[decide_eq_false h,if_neg PU];exact{λz=>absurd z ∅,λz=>absurd z h}
 have u:∀p q r,((bt p+2*bt q+4*bt r)/1%2=1↔bt p=1)/\((bt p+2*bt q+4*bt r)/2%2=1↔bt q=1)/\((bt p+2*bt q+4*bt r)/4%2=1↔bt r=1):=by decide
 rcases lt3 r hr with rfl|rfl|rfl
 ·exact{1,rfl,{∅,∅},Zk (e▸(u _ _ _).1) (k 0)}
 ·exact{2,rfl,{∅,∅},Zk (e▸(u _ _ _).2.1) (k 1)}
 exact{4,rfl,{∅,∅},Zk (e▸(u _ _ _).2.2) (k 2)}
def sxH:Lr->List Nat
 | .ŏ i _ _=>[i]
 | .lt i _=>[i]
 |_=>[]
theorem AM:∀hs n,(gC N (â n hs)).map (·.1)=(hs.flatMap sxH).map N
 | [],n=>rfl
 |r::hs,n=>by
  rw[â,QA,Qg,<-AM hs (n+1)];unfold gC;rw[Q6];cases r<;>rfl
theorem uh:∀(hs:List Lr),(hs.flatMap sxH).Sublist (hs.flatMap ixH)
 | []=>.slnil
 |r::hs=>by
  rw[QA,QA];refine List.Sublist.append ?_ (uh hs);cases r<;>first|exact List.Sublist.refl _|exact List.nil_sublist _
theorem Kz(m:s∈gC N (â n hs)):∃r∈hs,fU (.leaf r)=true/\s=sF N (.leaf r):=by
 rw[Ac]at m;obtain⟨f,mf,rfl⟩:=PM.mp m;obtain⟨h1,h2⟩:=Qs.mp mf;obtain⟨r,mr,rfl⟩:=PM.mp h1;exact⟨r,mr,h2,rfl⟩
theorem Ma(nm:jc N){hs:List Lr}{ds:List De}{mb:List Tr}(O:eV hs ds mb):OkT N 6 (â 1 hs) (Î ((↥hs:Nat)+1) ds) (bp (é hs ds) mb) where
 l:=LX nm O
 fr:=λb l hl=>(xA nm O b l hl).1
 to:=λb l hl=>(xA nm O b l hl).2
 rk:=λs m=>by
  obtain⟨r,mr,h2,rfl⟩:=Kz m;obtain⟨rk,z,t,e1,hrk,_⟩:=O.hd;have hr:r∈oJ rk z:=by
   rw[e1]at mr;unfold rJ at mr;rcases Pz.mp mr with h|h
   ·exact Rw h
   exact QP h
  unfold oJ at hr;simp only[Py,P7,or_false]at hr;rcases hr with rfl|rfl|rfl|rfl|rfl|rfl|rfl|rfl|rfl|rfl|rfl<;>first|exact hrk _|cases h2
 sn:=by
  rw[AM];obtain⟨d1,d2,_⟩:=xr O;unfold ŋ at d1 d2;have d1':=(QR.mp d1).1;refine wW ((uh hs).nodup d1') λx hx y hy e=>nm.inj x y (d2 x (PY _ ((uh hs).subset hx))) (d2 y ?_) e;exact PY _ ((uh hs).subset hy)
 ss:=λs m=>by
  have h:s.1∈(gC N (â 1 hs)).map (·.1):=Qp m;rw[AM]at h;obtain⟨i,mi,e⟩:=PM.mp h;rw[<-e,kq];refine PY _ (PY _ (Qp ?_));unfold ŋ;exact PY _ ((uh hs).subset mi)
theorem OA(s:aj X H)(h:X R=Zr) (o):aj X (upd H R o):=λa u e=>au (λz=>by rw[z,h]at e;cases e) (s a u e)
def xF(N:Nat->Str)(r:Int)(f:Fr):Bool:=fU f&&decide ((sF N f).2=r)
theorem Gv{fs:List Fr}(es:gC N hs=(fs.filter fU).map (sF N)) (r):(fs.filter (xF N r)).map (λf=>(sF N f).1)=Zw N hs r:=by
 unfold Zw;rw[es,List.filter_map,QB,List.filter_filter];congr 2;funext f
 exact Bool.and_comm _ _
def xk(K:SE):Sp:=λvs H Q _=>∃(a:Sv)(ns:List Int),vs=[.ref a]/\À K H a (ns.map V.int)/\↥ns<=63/\∀H',Q (.bl true) H'
inductive Dm(sc nl L D0:Sv)(v:V)(b:Bool)(Lk Á Sp:Sv)(H9:Hp)(i:Nat)(B:St)(Hd:Hp):Prop
 |mk (v9 v10 v11 Α ψ χ ϧ):B=[Zq (.ref sc),Zq (.ref nl),Zq (.ref L),Zq (.ref D0),Zq v,Zq (.bl b),Zq (.ref Lk),Zq (.ref Á),Zq (.ref Sp),v9,v10,v11,Α,ψ,χ,ϧ]->aj H9 Hd->Dm sc nl L D0 v b Lk Á Sp H9 i B Hd
inductive C7(sc nl L D0:Sv)(v:V)(b:Bool)(Lk Á Sp:Sv)(r:Nat)(Bg Fd:Sv)(H9:Hp)(i:Nat)(B:St)(Hd:Hp):Prop
 |mk (Α ψ χ ϧ):B=[Zq (.ref sc),Zq (.ref nl),Zq (.ref L),Zq (.ref D0),Zq v,Zq (.bl b),Zq (.ref Lk),Zq (.ref Á),Zq (.ref Sp),Zq (.int (r)),Zq (.ref Bg),Zq (.ref Fd),Α,ψ,χ,ϧ]->aj H9 Hd->C7 sc nl L D0 v b Lk Á Sp r Bg Fd H9 i B Hd
theorem NL(T:Txt K mg A)(F:ba K mg "law" sZ ["_law_script"]):Ϻ P w K mg base 31 "law" ["_law_script"] (xk K):=by
 refine F.hs (k:=30) cR (λf Ã A' outer s0 H vs Q E hr hu h=>?_) (λvs H Q E h=>by obtain⟨a,ns,rfl,_⟩:=h;rfl);obtain⟨sc,ns,rfl,hS,_,q⟩:=h;refine⟨_,(ab (Æ 1 cR.nd (ak (hj:=by lia) (Ei T) hr ((ak (hj:=by lia) (mT T) hr (fv 0^af^ae))^(ak (hj:=by lia) (mT T) hr (fv 0^af^ae))^af^ae)))
  (ab (bX (ak (hj:=by lia) (Js T) hr ((ak (hj:=by lia) (KQ T) hr (fv 0^fv 1^ae))^(ak (hj:=by lia) (mT T) hr (fv 0^af^ae))^ae)) (dg rfl (aK (Ð (i:=2) cR.nd rfl) (aK (Ð (i:=3) cR.nd rfl) cu))))
  (ab (Æ 4 cR.nd (ak (hj:=by lia) (Ip T) hr (fv 2^ae)))
  (ab (Æ 5 cR.nd (Ϫ (bU hu) (az bP (ak (hj:=by lia) (mT T) hr (fv 0^af^ae)) af) af))
  (ab (Æ 6 cR.nd (ak (hj:=by lia) (w6.has (xG T 6)) hr (fv 4^fv 5^ae)))
  (ab (Æ 7 cR.nd (ak (hj:=by lia) (w6.has (Jr T 6)) hr (fv 4^fv 5^ae)))
  (ab (Æ 8 cR.nd (à DS T.l9 ((ak (hj:=by lia) (tL T 6) hr (fv 4^ae))^ae)))
  (ab (bY SH rfl (cY rfl T.dj (af^ae)) (Ð (i:=9) cR.nd rfl)
   (ab (oP (j:=10) (N:=["_law_row_here","_law_rank"]) (own:=1) (fr:=[9]) (cf.of (by kernel_rfl!)) rfl cR.nd rfl (P1 rfl) (bW (fv 2)) (λb=>Ð (i:=0) (show Tf (["_law_row_here","_law_rank"]:List T1) by decide+kernel) rfl) (λb=>qv (PW.pt (pw_and (Ë (vR hu) (px hu (fv 0) af) (aT (aw^aw^ae)) ((by with_unfolding_all rfl))) (pw_and1 (Ë (bU hu) (px hu (fv 0) af) (fv 1)))))) (λb=>px hu (fv 0) af))
   (ab (Æ 11 cR.nd (ak (hj:=by lia) (Gu T) hr (fv 6^fv 10^ae)))
   (ai (bY SH rfl (cY rfl T.dj (af^ae)) (Ð (i:=12) cR.nd rfl)
    (ab (Æ 13 cR.nd (px hu (fv 8) (az bP (ak (hj:=by lia) (og T) hr ((ak (hj:=by lia) (mT T) hr (fv 0^az aO af (fv 12)^ae))^az aO (fv 12) (az dD af (fv 9))^ae)) (à fI T.gO (fv 8^ae)))))
    (ab (Æ 14 cR.nd (ak (hj:=by lia) (x6.has (wX T 6)) hr (fv 4^fv 13^fv 9^fv 5^ae)))
    (ab (aS (PW.pt (pw_or (Ë (rF hu) (Ϫ AX (fv 14) bJ) (Ϫ (dP hu) (fv 13) (fv 11) ((by with_unfolding_all rfl)))) (pw_or1 (Ë (rF hu) (Ϫ (vR hu) (fv 13) (fv 11) ((by with_unfolding_all rfl))) (Ϫ (bU hu) (az bP (az eO (px hu (fv 7) (fv 13)) (px hu (aQ (af^af^af^ae)) (fv 9))) af) af)))))
     (ai (aD pq))
     aF)
    (ai (aS (Ë eG (fv 14) bJ)
     (ab (aS (tQ (bE (ak (hj:=by lia) (tI T) hr (fv 14^fv 6^fv 10^fv 13^px hu (fv 11) (fv 13)^ae)) (λ_=>rfl)))
      (ai (aD pq))
      aF)
     (ab (aR (br (fv 14) (af^ae)))
     (ai (aS (Ë (bU hu) (fv 12) af)
      (ab (Æ 15 cR.nd (Dw (hj:=by lia) (wX T 6) hr (fv 4^fv 13^fv 9^ae) (fv 5)))
      (ai (aS (tQ (bE (ak (hj:=by lia) (tI T) hr (fv 15^fv 6^fv 10^fv 13^px hu (fv 11) (fv 13)^ae)) (λ_=>rfl)))
       (ai (aD pq))
       aF)))
      aF))))
     aF))))))))))
  (ab (Æ 13 cR.nd (px hu (fv 8) (az bP (ak (hj:=by lia) (mT T) hr (fv 0^af^ae)) (à fI T.gO (fv 8^ae)))))
  (ab (Æ 14 cR.nd (zu (hj:=by lia) (x6.d (wX T 6)) hr (fv 4^fv 13^af^ae)))
  (ab (Æ 6 cR.nd (zu (hj:=by lia) (xG T 6) hr (fv 4^ae)))
  (ab (oP (j:=10) (N:=["_law_row_here"]) (own:=1) (fr:=[]) (cf.of (by kernel_rfl!)) rfl cR.nd rfl (P1 rfl) (bW (fv 2)) (λb=>Ð (i:=0) (show Tf (["_law_row_here"]:List T1) by decide+kernel) rfl) (λb=>qv (PW.pt (pw_and (Ë (vR hu) (px hu (fv 0) af) (aT (aw^aw^ae)) ((by with_unfolding_all rfl))) (pw_and1 (Ë (bU hu) (px hu (fv 0) af) af))))) (λb=>px hu (fv 0) af))
  (ab (Æ 11 cR.nd (ak (hj:=by lia) (Gu T) hr (fv 6^fv 10^ae)))
  (ab (aS (Ë (dP hu) (fv 13) (fv 11) ((by with_unfolding_all rfl)))
   (ai (aD (Ϫ AX (fv 14) bJ)))
   aF)
  (ai (aD (ak (hj:=by lia) (tI T) hr (fv 14^fv 6^fv 10^fv 13^px hu (fv 11) (fv 13)^ae)))))))))))))))))),?_⟩
 refine ag λM1 K1=>{sc,ns,0,rfl,hS,∅,∅,λc1 H1 s1=>{sc,ns,1,rfl,s1.seq hS,∅,∅,λc2 H2 s2=>{c1,c2,rfl,λnl N H3 s3 hnl enl nm=>K1 _ _ ?_}}};clear K1 M1;have t3:=s1.trans (s2.trans s3);rfl'
 refine ag λM1 K1=>{N,sc,nl,ns,rfl,t3.seq hS,enl,nm,λL0 xs0 hs ds0 mb0 H4 s4 hL0 eL0 Ĕ O0=>?_};have lx0:↥xs0<=300:=by
  have:=xn O0;rw[<-Sz Ĕ];lia
 rw[yI]at Ĕ;refine{sc,ns,3,rfl,(t3.trans s4).seq hS,∅,∅,λc3 H5 s5=>{N,L0,c3,xs0,hs,kR ds0 mb0,rfl,s5 _ _ eL0,aY.same s5 Ĕ,JD O0,nm,lx0,λp L D0 xs ss H6 s6 ep eL sim fr kn=>{p,_,rfl,Ç.of ep,rfl,_,_,rfl,_,_,rfl,rfl,?_}}};obtain⟨ds,mb,rfl,O,_⟩:=DB O0 sim;rw[<-yI]at fr;have t6:=t3.trans (s4.trans (s5.trans s6));have lf:=xn O;have lx':=Sz fr;have lx:↥xs<=300:=()
 clear Ĕ O0 sim kn ep lx0 eL0 hL0;refine K1 _ _ ?_;clear K1 M1;rfl'
 refine ag λM1 K1=>{N,H6,L,xs,hs,ds,mb,rfl,aj.refl _,eL,fr,O,lx,λv H7 s7 pg=>?_};have OT:=Ma nm O;have es:=MM (N:=N) O;have ok:∀b,∀l∈bI N b (Î ((↥hs:Nat)+1) ds) (bp (é hs ds) mb),l.vs.all ϫ=true:=λb l hl=>by
  have st:=AD nm O;have en:=xA nm O b l hl;show(SR l.fr&&(SR l.to&&(SR l.kd&&(true&&true))))=true;rw[st _ en.1,st _ en.2,MX l hl];rfl
 generalize â 1 hs=ğ at pg OT es;generalize Î ((↥hs:Nat)+1) ds=ð at pg OT ok;generalize bp (é hs ds) mb=Ě at pg OT ok;generalize Ć hs ds mb=fs at fr es lf lx';have t7:=t6.trans s7;have fr7:=aY.same s7 fr;have eL7:=s7 _ _ eL;clear fr eL lf O;refine K1 _ _ ?_;clear K1 M1;rfl'
 refine ag λM1 K1=>{sc,ns,4,rfl,t7.seq hS,∅,∅,λc4 H8 s8=>{by show(0:Int)<2;decide,rfl,?_}};generalize decide (V.int (c4%2)=V.int 1)=b;refine K1 _ _ ?_;clear K1 M1;rfl'
 refine ag λM1 K1=>{N,H7,v,b,ğ,ð,Ě,rfl,s8,pg,OT.l,λLk ys H9 s9 hLk eLk lk=>K1 _ _ ?_};clear K1 M1;rfl'
 refine ag λM1 K1=>{N,H7,v,b,ğ,ð,Ě,rfl,s8.trans s9,pg,OT,λÁ ϻ ϓ hB eB=>K1 _ _ ?_};clear K1 M1;rfl'
 refine ag λM1 K1=>{N,H7,v,ğ,ð,Ě,rfl,s8.trans (s9.trans ϓ),pg,OT.l.ok,λLp H11 s11 hLp eLp=>{Lp,_,rfl,À.of eLp,λSp pls pm hSp=>K1 _ _ ?_}};clear K1 M1;obtain⟨Ζ,eSp⟩:=Í hSp (HO.lst (pls.map V.str));generalize upd H11 Sp _=H12 at Ζ eSp⊢;have s7c:=s8.trans (s9.trans (ϓ.trans (s11.trans Ζ)));have t12:=t7.trans s7c;have eLk12:=(ϓ.trans (s11.trans Ζ)) _ _ eLk;have lk12:ã H12 (bI N b ð Ě) ys:=lk.same λ_ _ z=>(ϓ.trans (s11.trans Ζ)) _ _ z;have eB12:=(s11.trans Ζ) _ _ eB;have fr12:=aY.same s7c fr7;have ξ:=s7c _ _ eL7;have lxs:=Sz fr12;have pl0:0<↥pls:=WC (pm.mem_iff.mpr (PX _ PH));have pll:=pm.length_eq;have pl9:=OT.l.ok.pl;have spot:∀{Ha:Hp}{m:Int}{Q2:VK},aj H12 Ha->(∀x∈bg N ğ ð Ě,Q2 (.str x) Ha)->ixS K Sp (m%((pls.map V.str).length:Nat)) Ha Q2:=@λHa m Q2 sa k=>by
  rw[Pr];have h0:=YE m (b:=(↥pls:Int)) ();have h1:=XW m (b:=(↥pls:Int)) ();generalize m%(↥pls:Int)=j at h0 h1;have hk:j.toNat<↥pls:=()
  have:=hJ (xs:=pls.map V.str) (j:=j.toNat) (v:=.str pls[j.toNat]) (by rw[P5,PB hk];rfl);rw[show((j.toNat:Nat):Int)=j by lia]at this;exact{_,_,.inl (À.of (sa _ _ eSp)),this,k _ (pm.mem_iff.mp (Rv hk))}
 rfl'
 refine ag λM1 K1=>{_,rfl,∅,∅,hX (Dm sc nl L D0 v b Lk Á Sp H12) {Zr,Zr,Zr,Zr,Zr,Zr,Zr,rfl,aj.refl _} ?_ ?_}
 ·clear K1;rintro i B Hd hi ⟨v9,v10,v11,Α,ψ,χ,ϧ,rfl,sd⟩;have ei:(0:Int)+(i:Int)=(i:Int):=()
  rw[ei];have i3:i<3:=hi;rfl'
  refine ag λN1 J1=>P1 {{_,À.of (sd _ _ ξ)},ft (K:=K) (own:=1) fs (xF N (i:Int)) (λf y _=>y=.str (sF N f).1) (À.of (sd _ _ ξ)) lxs.symm (aH ()) ?_ (λ_ _ _ _ _ h=>h) (λ_ _ _ _ _ _ _ h=>h) ?_}
  ·clear J1;intro b' j x e v0 Hc Nn Y hx he hv Ū no yes;obtain⟨u0,rfl⟩:=ye hv;obtain⟨f',hf',fa⟩:=bT fr12 hx;rw[he]at hf';cases hf';obtain⟨a,p,rfl,ha,_⟩:=fa;refine É (j:=0) (Ç.of ((sd.trans Ū) _ _ ha)) rfl {by show 2<=sizeLine;decide,λtp á=>?_};obtain⟨ϒ,e3⟩:=Í á (HO.tup [V.str "given",V.str "let"]);generalize upd Hc tp _=H3' at ϒ e3⊢;refine P1 {_,QQ (Ç.of e3),rfl,rfl,_,rfl,?_};rw[show(if false=true then !ý (V.str e.wd) [V.str "given",V.str "let"]else ý (V.str e.wd) [V.str "given",V.str "let"])=fU e from Gj e];refine aV (λz=>?_) (λz=>no (by unfold xF;rw[Q1.mpr z,RW]) [Zq (.ref a)] _ rfl ϒ);obtain⟨ts,ĩ⟩:=Fm (N:=N) p z;rw[ĩ]at ha;have hT:=Ç.of (K:=K) (ϒ _ _ ((sd.trans Ū) _ _ ha));refine É (j:=2) hT rfl {rfl,_,rfl,aV (λc=>?_) (λc=>no (by unfold xF;rw[decide_eq_false λy=>c (decide_eq_true (by rw[y])),RX]) [Zq (.ref a)] _ rfl ϒ)};exact É (j:=1) hT rfl (yes (by unfold xF;rw[z,decide_eq_true (V.int.inj (of_decide_eq_true c))];rfl) [Zq (.ref a)] _ _ rfl ϒ rfl)
  intro Bg H13 zs hBg s13 eBg pz;rw[wO pz,Gv es]at eBg;refine J1 _ _ ?_;clear J1 N1;have ũ:=sd.trans s13;rfl'
  refine ag λN1 J1=>{Lk,Bg,ys,_,_,_,rfl,ũ _ _ eLk12,lk12.same λ_ _ z=>ũ _ _ z,eBg,uf OT.sn _,sr OT _,OT.to b,pl9,λFd ff Ş s14 hFd ϊ fnd fm=>J1 _ _ ?_};clear J1 N1;have eBg14:=s14 _ _ eBg;have ļ:=ũ.trans s14;rfl'
  refine{_,rfl,∅,∅,hX (C7 sc nl L D0 v b Lk Á Sp i Bg Fd Ş) {Α,ψ,χ,ϧ,rfl,aj.refl _} ?_ ?_}
  ·rintro k B He hk ⟨Α,ψ,χ,ϧ,rfl,se⟩;have ek:(0:Int)+(k:Int)=(k:Int):=()
   rw[ek];have k4:k<4:=hk;have sde:=ļ.trans se;rfl'
   refine ag λN1 J1=>{sc,ns,5+(k:Int),rfl,(t12.trans sde).seq hS,(),(),λc5 H15 Ĳ=>{by unfold AU;lia,c5,(k:Int)+9*(i:Int),rfl,(),(),λm hm0 hm1=>ϯ (sde.trans Ĳ _ _ eSp) {by rw[Pr];lia,.inl (spot (sde.trans Ĳ) λx mx=>J1 _ _ ?_)}}};clear J1 N1;have Ŗ:=sde.trans Ĳ;have eFd15:=(se.trans Ĳ) _ _ ϊ;have hx:x∈ff.map (·.1)↔∃n,Mn (bI N b ð Ě) (Zw N ğ (i:Int)) x n:=by
    constructor
    ·intro h;obtain⟨p,m,rfl⟩:=PM.mp h;exact{p.2,(fm _ _).mp m}
    rintro⟨n,h⟩;exact PM.mpr {_,(fm _ _).mpr h,rfl}
   rfl'
   refine ag λN1 J1=>?_;have key:∀fv ϑ,aj H15 ϑ->((fv=.Ê/\x∉ff.map (·.1))\/∃s ch R zs,fv=.ref R/\H15 R=Zr/\ϑ R=Zq (.lst zs)/\ã ϑ ch zs/\s∈Zw N ğ (i:Int)/\Cn (bI N b ð Ě) s ch x/\Mn (bI N b ð Ě) (Zw N ğ (i:Int)) x ↥ch)->N1 [Zq (.ref sc),Zq (.ref nl),Zq (.ref L),Zq (.ref D0),Zq v,Zq (.bl b),Zq (.ref Lk),Zq (.ref Á),Zq (.ref Sp),Zq (.int (i:Int)),Zq (.ref Bg),Zq (.ref Fd),Zq (.int (k:Int)),Zq (.str x),Zq fv,ϧ] ϑ:=by
    intro fv ϑ ţ hfv;refine J1 _ _ ?_;clear J1;have hd:decide (fv=.Ê)=!decide (x∈ff.map (·.1)):=by
     rcases hfv with⟨rfl,h⟩|⟨_,_,_,_,rfl,_,_,_,_,h1,h2⟩
     ·rw[decide_eq_false h];rfl
     rw[decide_eq_true (hx.mpr {_,h2})];rfl
    obtain⟨c,hc,hc0,hc1⟩:=HH (b:=b) OT x i i3;rw[<-hx]at hc1;have eFd16:=ţ _ _ eFd15;have eB16:=(Ŗ.trans ţ) _ _ eB12;rfl'
    refine ag λN2 J2=>{rfl,QQ {Fd,_,rfl,jd.k (k:=.inr x) eFd16,rfl,_,rfl,?_}};rw[hd,wR];refine aV (λz=>absurd z (by simp)) λ_=>QQ {Fd,_,rfl,jd.k (k:=.inr x) eFd16,Þ eB16 (wY (Qp mx)) {by show 3<=sizeLine;decide,λl hl=>Ħ (À.of ao) hc ?_}};have e2:(!decide (V.bl (L2.b5 (ff.map fE) (.inr x)).isSome=V.bl (decide (V.int (A6 N b ğ ð Ě x/c%2)=V.int 1))))=false:=by
     rw[wR,show decide (V.int (A6 N b ğ ð Ě x/c%2)=V.int 1)=decide (x∈ff.map (·.1))from decide_eq_decide.mpr {λe=>hc1.mp (V.int.inj e),λe=>congrArg V.int (hc1.mpr e)},decide_eq_true rfl];rfl
    refine{hc0,by show(0:Int)<2;decide,rfl,rfl,false,congrArg V.bl e2,a9 (J2 _ _ ?_)};clear J2 N2 e2 hc hc0 hc1;have ŷ:=aj.upd hl (HO.lst [V.int 1,V.int 2,V.int 4]);generalize upd ϑ l _=H17 at ŷ⊢;rfl'
    refine{rfl,_,rfl,?_};rw[hd,Bool.not_not];rcases hfv with⟨rfl,h⟩|⟨s,ch,R,zs,rfl,hR,eR,lch,ms,cn,mn⟩
    ·rw[decide_eq_false h];exact a9 {_,_,_,_,rfl,se.trans (Ĳ.trans (ţ.trans ŷ))}
    rw[decide_eq_true (hx.mpr {_,mn})];refine bQ ?_;have lc:∀{Ha:Hp}{Q2:VK}{E2:XK}{R zs s ch},aj Ş Ha->Ha R=Zq (.lst zs)->ã Ha ch zs->s∈Zw N ğ (i:Int)->Cn (bI N b ð Ě) s ch x->(∀H',aj Ha H'->Q2 (.bl true) H')->qt [.ref R,.ref Lk,.ref Bg,.str x,.int ((↥ch:Nat):Int)] Ha Q2 E2:=λsa e l ms cn k=>
     {_,_,_,_,_,_,_,_,_,_,rfl,e,l,(ļ.trans sa) _ _ eLk12,lk12.same λ_ _ z=>(ļ.trans sa) _ _ z,ok b,sa _ _ eBg14,ms,cn,k}
    have f1:=xE fnd ((fm x ↥ch).mpr mn);have se17:=se.trans (Ĳ.trans (ţ.trans ŷ));rfl'
    refine ag λN2 J2=>Þ (se17 _ _ ϊ) f1 (lc se17 (ŷ _ _ eR) (lch.same λ_ _ z=>ŷ _ _ z) ms cn λŇ s18=>{_,rfl,a9 (J2 _ _ ?_)});clear J2 N2;have eR18:=(ŷ.trans s18) _ _ eR;have lz:=Sz lch;have mb:=Ng (OT.to b) (uf OT.sn _) (sr OT _) mn;rfl'
    refine ag λN2 J2=>{P1 {rfl,_,À.of eR18},_,_,_,rfl,rfl,eR18,aH (),J2 _ _ ?_};clear J2 N2;have s19:aj Ş (upd Ň R (.lst (zs++[.int 1]))):=(se.trans Ĳ).trans (OA (ţ.trans (ŷ.trans s18)) hR _);generalize upd Ň R _=H19 at s19⊢;rfl'
    refine{rfl,_,rfl,aV (λ_=>?_) (λ_=>{_,_,_,_,rfl,s19})};rfl'
    refine ag λN2 J2=>{N,H7,v,x,(i:Int),b,ğ,ð,Ě,rfl,s7c.trans (ļ.trans s19),pg,OT,λŰ=>absurd mn (Ű _),λs' ch' R' zs' H20 s20 hR' eR' lch' Ě cn' mn'=>J2 _ _ ?_};clear J2 N2;have s20':=s19.trans s20;rw[mn.eq mn']at f1;rfl'
    exact Þ (s20' _ _ ϊ) f1 (lc s20' eR' lch' Ě cn' λH21 s21=>{_,rfl,a9 {_,_,_,_,rfl,s20'.trans s21}})
   clear J1;exact{N,H7,v,x,(i:Int),b,ğ,ð,Ě,rfl,s7c.trans Ŗ,pg,OT,λŰ ϑ ţ=>key _ _ ţ (.inl {rfl,λh=>(hx.mp h).elim Ű}),λs ch R zs ϑ ţ hR eR lch ms cn mn=>key _ _ ţ (.inr ⟨s,ch,R,zs,rfl,hR,eR,lch,ms,cn,mn⟩)}
  rintro B He ⟨Α,ψ,χ,ϧ,rfl,se⟩;exact{_,_,_,_,_,_,_,rfl,ļ.trans se}
 rintro B Hd ⟨v9,v10,v11,Α,ψ,χ,ϧ,rfl,sd⟩;refine K1 _ _ ?_;clear K1 M1;rfl'
 refine ag λM1 K1=>{sc,ns,5,rfl,(t12.trans sd).seq hS,∅,∅,λc5 H13 s13=>ϯ (sd.trans s13 _ _ eSp) {by rw[Pr];lia,.inl (spot (sd.trans s13) λx mx=>K1 _ _ ?_)}};clear K1 M1;have ũ:=sd.trans s13;rfl'
 refine ag λM1 K1=>?_;have key:∀fv Ş,aj H13 Ş->((fv=.Ê/\∀n,¬ Mn (bI N false ð Ě) (Zw N ğ 0) x n)\/∃s ch R zs,fv=.ref R/\Ş R=Zq (.lst zs)/\ã Ş ch zs/\s∈Zw N ğ 0/\Cn (bI N false ð Ě) s ch x/\Mn (bI N false ð Ě) (Zw N ğ 0) x ↥ch)->M1 [Zq (.ref sc),Zq (.ref nl),Zq (.ref L),Zq (.ref D0),Zq v,Zq (.bl b),Zq (.ref Lk),Zq (.ref Á),Zq (.ref Sp),v9,v10,v11,Α,Zq (.str x),Zq fv,ϧ] Ş:=by
  intro fv Ş s14 hfv;refine K1 _ _ ?_;clear K1 M1;have ļ:=ũ.trans s14;rfl'
  refine ag λM1 K1=>{N,H7,v,false,ğ,ð,Ě,rfl,s7c.trans ļ,pg,OT.l,λLk2 ys2 H15 Ĳ hLk2 eLk2 lk2=>K1 _ _ ?_};clear K1 M1;have Ŗ:=ļ.trans Ĳ;rfl'
  refine ag λN1 J1=>P1 {{_,À.of (Ŗ _ _ ξ)},ft (K:=K) (own:=1) fs (xF N 0) (λf y _=>y=.str (sF N f).1) (À.of (Ŗ _ _ ξ)) lxs.symm (aH ()) ?_ (λ_ _ _ _ _ h=>h) (λ_ _ _ _ _ _ _ h=>h) ?_}
  ·clear J1;intro b' j x e v0 Hc Nn Y hx he hv Ū no yes;obtain⟨u0,rfl⟩:=ye hv;obtain⟨f',hf',fa⟩:=bT fr12 hx;rw[he]at hf';cases hf';obtain⟨a,p,rfl,ha,_⟩:=fa;refine É (j:=0) (Ç.of ((Ŗ.trans Ū) _ _ ha)) rfl {by show 2<=sizeLine;decide,λtp á=>?_};obtain⟨ϒ,e3⟩:=Í á (HO.tup [V.str "given",V.str "let"]);generalize upd Hc tp _=H3' at ϒ e3⊢;refine P1 {_,QQ (Ç.of e3),rfl,rfl,_,rfl,?_};rw[show(if false=true then !ý (V.str e.wd) [V.str "given",V.str "let"]else ý (V.str e.wd) [V.str "given",V.str "let"])=fU e from Gj e];refine aV (λz=>?_) (λz=>no (by unfold xF;rw[Q1.mpr z,RW]) [Zq (.ref a)] _ rfl ϒ);obtain⟨ts,ĩ⟩:=Fm (N:=N) p z;rw[ĩ]at ha;have hT:=Ç.of (K:=K) (ϒ _ _ ((Ŗ.trans Ū) _ _ ha));refine É (j:=2) hT rfl {rfl,_,rfl,aV (λc=>?_) (λc=>no (by unfold xF;rw[decide_eq_false λy=>c (decide_eq_true (by rw[y])),RX]) [Zq (.ref a)] _ rfl ϒ)};exact É (j:=1) hT rfl (yes (by unfold xF;rw[z,decide_eq_true (V.int.inj (of_decide_eq_true c))];rfl) [Zq (.ref a)] _ _ rfl ϒ rfl)
  intro Bg ϑ zs hBg ţ eBg pz;rw[wO pz,Gv es]at eBg;refine J1 _ _ ?_;clear J1 N1;have lk16:ã ϑ (bI N false ð Ě) ys2:=lk2.same λ_ _ z=>ţ _ _ z;rfl'
  refine ag λN1 J1=>{Lk2,Bg,ys2,_,_,_,rfl,ţ _ _ eLk2,lk16,eBg,uf OT.sn _,sr OT _,OT.to false,pl9,λFd ff H17 ŷ hFd ϊ fnd fm=>J1 _ _ ?_};clear J1 N1;rfl'
  refine ag λN1 J1=>QQ {Fd,_,rfl,jd.k (k:=.inr x) ϊ,_,rfl,?_};rw[wR];rcases hfv with⟨rfl,h⟩|⟨s,ch,R,zs,rfl,eR,lch,ms,cn,mn⟩
  ·rw[decide_eq_false λz=>by
    obtain⟨p,m,e⟩:=PM.mp z;exact h p.2 ((fm _ _).mp (e▸m))]
   refine bQ {rfl,?_};rw[decide_eq_true rfl];exact q _
  have m:=(fm x ↥ch).mpr mn;rw[decide_eq_true (PM.mpr {_,m,rfl})];refine a9 (J1 _ _ ?_);clear J1 N1;have s47:=Ĳ.trans (ţ.trans ŷ);exact Þ ϊ (xE fnd m) {R,Lk2,Bg,x,_,_,ch,_,_,s,rfl,s47 _ _ eR,lch.same λ_ _ z=>s47 _ _ z,(ţ.trans ŷ) _ _ eLk2,lk16.same λ_ _ z=>ŷ _ _ z,ok false,ŷ _ _ eBg,ms,cn,λH' _=>q _}
 clear K1;exact{N,H7,v,x,0,false,ğ,ð,Ě,rfl,s7c.trans ũ,pg,OT,λŰ Ş s14=>key _ _ s14 (.inl ⟨rfl,Ű⟩),λs ch R zs Ş s14 hR eR lch ms cn mn=>key _ _ s14 (.inr ⟨s,ch,R,zs,rfl,eR,lch,ms,cn,mn⟩)}
end
inductive FnI(K:SE)(f:Sv)(x y:Str)(s:S0):Prop
 |mk(oc:Su)(od:Option Sv)(kV dc pm:Su)(an:Option Sv)(cd ct:Su)(sl:Array (Option Su))(l:K.lookup f=Zq {oc,od,.func (T8 x y (bH s) (bj s) (aq s) .none kV dc pm an cd ct),sl})(c:Vw K cd y=true)(k:Uc K (.ref f)=true):FnI K f x y s
abbrev b6(K:SE)(x:Str)(s:S0):Prop:=∃f,YW K SU x=Zq (Zq (.ref f))/\FnI K f x x s
abbrev jA(K:SE)(C:Sv)(m q:Str)(s:S0):Prop:=∃f,T3 K (.ref C) m=Zq (Zq (.ref f))/\Zn K (.ref f)=true/\FnI K f m q s
abbrev nP(K:SE)(C:Sv)(x:Str)(up:List Sv):Prop:=YW K SU x=Zq (Zq (.ref C))/\(∃cd,W.clsIn K C=Zq cd/\cd.mro=up.map SO++[Tz "object"])/\Ws K C SQ=true/\WU K C=true/\Yu K C=true/\T3 K (.ref C) "__setattr__"=Zq (Zq (.builtin "object.__setattr__"))/\W.typeIn K (.ref C)=Zq (.type "type")/\T3 K (.ref C) "__class__"=Zq (Zq (.builtin "object.__class__"))/\Yi K C=true/\Uc K (.ref C)=true
abbrev ϐ(K:SE)(x:Str):Prop:=YW K SU x=Zq Zr
abbrev Ü(K:SE)(C:Sv)(x:Str):Prop:=T3 K (.ref C) x=Zq Zr
section
variable{K:SE}{mg:Str->Option Su}{h:Tb}{x m q:Str}{s:S0}{ps:List Str}{C:Sv}{up:List Sv}
theorem b9(X:K.In h)(G:h.Ns SU mg)(t:b6 K x s)(b:∀(kV doc pm:Su)(an:Option Sv)(Ã ct:Su)(us:List Su),↥us=↥ps->bindArgs (T8 x x (bH s) (bj s) (aq s) .none kV doc pm an Ã ct) {us,[]}=pure (ps.zip us)):ba K mg x s ps:=by
 obtain⟨f,a,_,_,_,_,_,_,_,_,_,l,c,k⟩:=t;exact F9 X G a l c k b
theorem km(t:jA K C m q s)(b:∀(kV doc pm:Su)(an:Option Sv)(Ã ct:Su)(us:List Su),↥us=↥ps->bindArgs (T8 m q (bH s) (bj s) (aq s) .none kV doc pm an Ã ct) {us,[]}=pure (ps.zip us)):ĉ K C m q s ps:=by
 obtain⟨f,a,i,_,_,_,_,_,_,_,_,_,l,c,k⟩:=t;exact Mi a i l c k b
theorem oA(X:K.In h)(G:h.Ns SU mg)(cg:Va K (.builtin "object.__class__") "__get__"=Zq (Zq (.builtin "getset_descriptor.__get__")))(ct:Yj K (.builtin "object.__class__")=Zq true)(t:nP K C x up):fF K mg C x up:=by
 obtain⟨a,b,c,d,e,f,g,i,j,k⟩:=t;exact{Xc X G a,⟨c,d,e,f⟩,b,g,i,cg,ct,j,k}
end
theorem ar0{p:List Su->Prop}(h:p []):∀us:List Su,↥us=0->p us:=λus e=>by
 cases us with
 |nil=>exact h
 |cons b t=>cases e
theorem Ģ{p:List Su->Prop}{n:Nat}(h:∀a,∀us:List Su,↥us=n->p (a::us)):∀us:List Su,↥us=n+1->p us:=λus e=>by
 cases us with
 |nil=>cases e
 |cons b t=>exact h b t (Nat.succ.inj e)
abbrev zJ(K:SE)(x:Str)(s:S0)(d:V):Prop:=∃(f T:Sv)(v oc:Su)(od:Option Sv)(kV dc pm:Su)(an:Option Sv)(cd ct:Su)(sl tl:Array (Option Su))(n:Nat),YW K SU x=Zq (Zq (.ref f))/\K.lookup f=Zq {oc,od,.func (T8 x x (bH s) (bj s) (aq s) (.ref T) kV dc pm an cd ct),sl}/\Vw K cd x=true/\Uc K (.ref f)=true/\K.lookup T=Zq {.type "tuple",Zr,.seq #[v] n,tl}/\Zv d v
theorem Ka{K:SE}{mg:Str->Option Su}{h:Tb}{x a b:Str}{s:S0}{d:V}(X:K.In h)(G:h.Ns SU mg)(t:zJ K x s d)
  (b1:∀(T:Sv)(v kV dc pm:Su)(an:Option Sv)(cd ct u u':Su),∃k,bindArgs (T8 x x (bH s) (bj s) (aq s) (.ref T) kV dc pm an cd ct) {[u,u'],[]}=Xd (.ref T)>>=k/\k (Zq #[v])=pure [(a,u),(b,u')])
  (b2:∀(T:Sv)(v kV dc pm:Su)(an:Option Sv)(cd ct u:Su),∃k,bindArgs (T8 x x (bH s) (bj s) (aq s) (.ref T) kV dc pm an cd ct) {[u],[]}=Xd (.ref T)>>=k/\k (Zq #[v])=pure [(a,u),(b,v)]):oV K mg x s [a,b] [d]:=by
 obtain⟨f,T,v,oc,od,kV,dc,pm,an,cd,ct,sl,tl,n,q,l,c,k,lt,r⟩:=t
 refine{f,oc,od,.ref T,kV,dc,pm,an,cd,ct,sl,[v],l,c,k,Xc X G q,.cons r .nil,λs' us hi hl=>?_,λs' us hi hl=>?_}
 ·rcases us with _|⟨u,_|⟨u',_|⟨_,_⟩⟩⟩
  ·cases hl
  ·cases hl
  ·obtain⟨g,e1,e2⟩:=b1 T v kV dc pm an cd ct u u';exact Ue rfl (hi T _ lt) rfl e1 e2
  simp at hl
 rcases us with _|⟨u,_|⟨_,_⟩⟩
 ·cases hl
 ·obtain⟨g,e1,e2⟩:=b2 T v kV dc pm an cd ct u;exact Ue rfl (hi T _ lt) rfl e1 e2
 simp at hl
abbrev FnE(x:Str)(s:S0)(T:Sv)(kV dc pm:Su)(an:Option Sv)(cd ct:Su):UO:=T8 x x (bH s) (bj s) (aq s) (.ref T) kV dc pm an cd ct
theorem MZ{K:SE}{mg:Str->Option Su}{h:Tb}{x:Str}{ps:List Str}{s:S0}{d:V}(X:K.In h)(G:h.Ns SU mg)(t:zJ K x s d)
  (b1:∀(T:Sv)(v kV dc pm:Su)(an:Option Sv)(cd ct:Su)(us:List Su),↥us=↥ps->∃k,bindArgs (FnE x s T kV dc pm an cd ct) {us,[]}=Xd (.ref T)>>=k/\k (Zq #[v])=pure (ps.zip us))
  (b2:∀(T:Sv)(v kV dc pm:Su)(an:Option Sv)(cd ct:Su)(us:List Su),↥us=↥ps-1->∃k,bindArgs (FnE x s T kV dc pm an cd ct) {us,[]}=Xd (.ref T)>>=k/\k (Zq #[v])=pure (ps.zip (us++[v])))
  (b3:∀(T:Sv)(v kV dc pm:Su)(an:Option Sv)(cd ct u:Su)(us:List Su),↥us=↥ps-1->∃k,bindArgs (FnE x s T kV dc pm an cd ct) {us,[(ps.getLastD SQ,u)]}=Xd (.ref T)>>=k/\k (Zq #[v])=pure (ps.zip (us++[u]))):qi K mg x s ps [d]:=by
 obtain⟨f,T,v,oc,od,kV,dc,pm,an,cd,ct,sl,tl,n,q,l,c,k,lt,r⟩:=t
 refine{f,oc,od,.ref T,kV,dc,pm,an,cd,ct,sl,[v],l,c,k,Xc X G q,.cons r .nil,λs' us hi hl=>?_,λs' us hi hl=>?_,{λs' us ws hi hl=>?_,λa b=>a.append (b.take 1)}}
 ·rw[Qd]at hl⊢;obtain⟨g,e1,e2⟩:=b1 T v kV dc pm an cd ct us hl;exact Ue rfl (hi T _ lt) rfl e1 e2
 ·rw[Pq,Pw]at hl;obtain⟨g,e1,e2⟩:=b2 T v kV dc pm an cd ct us ();exact Ue rfl (hi T _ lt) rfl e1 e2
 cases ws with
 |nil=>
  have hl:(us++[]).length=↥ps:=hl
  rw[Qd]at hl
  show Wt _ _ {us,[]} (ps.zip (us++[]))
  rw[Qd]
  obtain⟨g,e1,e2⟩:=b1 T v kV dc pm an cd ct us hl
  exact Ue rfl (hi T _ lt) rfl e1 e2
 |cons u r=>
  have hl:(us++[u]).length=↥ps:=hl
  rw[Pq,Pw]at hl
  obtain⟨g,e1,e2⟩:=b3 T v kV dc pm an cd ct u us ()
  exact Ue rfl (hi T _ lt) rfl e1 e2
theorem ķ{p:List Su->Prop}(h:∀a0,p [a0]):∀us:List Su,↥us=1->p us:=Ģ λa0=>ar0 (h a0)
theorem ą{p:List Su->Prop}(h:∀a0 a1,p [a0,a1]):∀us:List Su,↥us=2->p us:=Ģ λa0=>Ģ λa1=>ar0 (h a0 a1)
theorem ϸ{p:List Su->Prop}(h:∀a0 a1 a2,p [a0,a1,a2]):∀us:List Su,↥us=3->p us:=Ģ λa0=>Ģ λa1=>Ģ λa2=>ar0 (h a0 a1 a2)
theorem Ϗ{p:List Su->Prop}(h:∀a0 a1 a2 a3,p [a0,a1,a2,a3]):∀us:List Su,↥us=4->p us:=Ģ λa0=>Ģ λa1=>Ģ λa2=>Ģ λa3=>ar0 (h a0 a1 a2 a3)
theorem ar5{p:List Su->Prop}(h:∀a0 a1 a2 a3 a4,p [a0,a1,a2,a3,a4]):∀us:List Su,↥us=5->p us:=Ģ λa0=>Ģ λa1=>Ģ λa2=>Ģ λa3=>Ģ λa4=>ar0 (h a0 a1 a2 a3 a4)
theorem ar7{p:List Su->Prop}(h:∀a0 a1 a2 a3 a4 a5 a6,p [a0,a1,a2,a3,a4,a5,a6]):∀us:List Su,↥us=7->p us:=Ģ λa0=>Ģ λa1=>Ģ λa2=>Ģ λa3=>Ģ λa4=>Ģ λa5=>Ģ λa6=>ar0 (h a0 a1 a2 a3 a4 a5 a6)
theorem all_mk{l:Yd}{w:SM}{K:SE}{h:Tb}{mg:Str->Option Su}{fa:Sv}(A:Ö)(X:K.In h)(G:h.Ns SU mg)(hfa:mg "law"=Zq (.ref fa))
 (t1:b6 K "only" A4) (t2:b6 K "joined" tB) (t3:b6 K "names_in" oU) (t4:b6 K "each_once" lK)
 (t5:b6 K "exact_of" oW) (t6:b6 K "exact_of_row" iR) (t7:b6 K "one_more" ow) (t8:b6 K "exact_of_if" jt)
 (t9:b6 K "exact_of_loop" gE) (Β:b6 K "balanced" oq) (t11:b6 K "exacts" su) (t12:b6 K "row_place" mY)
 (t13:b6 K "laid_rows" mJ) (t14:b6 K "laid_inside" jx) (t15:b6 K "laid_program" iI) (t16:b6 K "is_place" ox)
 (t17:b6 K "head_places" jE) (t18:b6 K "places" uJ) (t19:b6 K "drawn" xc) (t20:b6 K "row_links" lW)
 (t21:b6 K "said_links" kE) (t22:b6 K "called_links" ig) (t23:b6 K "step_links" kz) (t24:zJ K "links" yi (.bl false))
 (t25:b6 K "sources" qg) (t26:b6 K "sources_of" kP) (t27:b6 K "ways_of" qc) (t28:b6 K "arrivals" oR)
 (t29:zJ K "table" xI (.bl false)) (t30:zJ K "chain" xx (.bl false)) (t31:b6 K "_law_cell_at" jU) (t32:b6 K "_law_more" oM)
 (t33:b6 K "_law_mix" qr) (t34:b6 K "_law_names" ny) (t35:b6 K "_law_pick" oF) (t36:b6 K "_law_heads" lQ)
 (t37:b6 K "_law_scope" mj) (t38:b6 K "_law_thing" mH) (t39:b6 K "_law_value" nz) (t40:b6 K "_law_plain" mS)
 (t41:b6 K "_law_opened" kL) (t42:b6 K "_law_closed" kW) (t43:b6 K "_law_row" qB) (t44:b6 K "_law_body" oj)
 (t45:b6 K "_law_flat" om) (t46:b6 K "_law_row_made" iJ) (t47:b6 K "_law_rows_made" gM) (t48:b6 K "_law_program" jZ)
 (t49:b6 K "_law_exact" lX) (t50:b6 K "_law_even_row" ij) (t51:b6 K "_law_evened_by" gN) (t52:b6 K "_law_far" ql)
 (t53:b6 K "_law_chain" lU) (t54:b6 K "law" sZ) (oG:ϐ K "dict") (aG:ϐ K "isinstance")
 (gO:ϐ K "len") (dG:ϐ K "list") (Cf:ϐ K "max") (dj:ϐ K "range")
 (kK:ϐ K "reversed") (CZ:ϐ K "set") (l9:ϐ K "sorted") (zX:ϐ K "str")
 (rO:ϐ K "tuple") (BB:ϐ K "zip") (g_CLOCK:∃k:Tok,YW K SU "CLOCK"=Zq (Zq (.str "the clock" k))) (cg:Va K (.builtin "object.__class__") "__get__"=Zq (Zq (.builtin "getset_descriptor.__get__")))
 (ct:Yj K (.builtin "object.__class__")=Zq true) (x_Row:nP K A.Row "Row" [A.Row]) (x_HandRow:nP K A.cA "HandRow" [A.cA,A.Row]) (x_GivenRow:nP K A.bN "GivenRow" [A.bN,A.Row])
 (x_OwnRow:nP K A.dC "OwnRow" [A.dC,A.Row]) (x_LetRow:nP K A.dF "LetRow" [A.dF,A.Row]) (x_SetRow:nP K A.cV "SetRow" [A.cV,A.Row]) (x_PutRow:nP K A.cF "PutRow" [A.cF,A.Row])
 (x_SendRow:nP K A.b7 "SendRow" [A.b7,A.Row]) (x_SayRow:nP K A.cU "SayRow" [A.cU,A.Row]) (x_CallRow:nP K A.cD "CallRow" [A.cD,A.Row]) (x_LastRow:nP K A.dJ "LastRow" [A.dJ,A.Row])
 (x_IfRow:nP K A.cX "IfRow" [A.cX,A.Row]) (x_LoopRow:nP K A.bz "LoopRow" [A.bz,A.Row]) (x_DeedRow:nP K A.bZ "DeedRow" [A.bZ,A.Row]) (x_Program:nP K A.Program "Program" [A.Program])
 (m1:jA K A.Row "__init__" "Row.__init__" fH) (m2:jA K A.cA "__init__" "HandRow.__init__" iP) (m3:jA K A.bN "__init__" "GivenRow.__init__" gD) (m4:jA K A.dC "__init__" "OwnRow.__init__" jM)
 (m5:jA K A.dF "__init__" "LetRow.__init__" jQ) (m6:jA K A.cV "__init__" "SetRow.__init__" jL) (m7:jA K A.cV "reads" "SetRow.reads" iy) (m8:jA K A.cF "__init__" "PutRow.__init__" jS)
 (m9:jA K A.cF "reads" "PutRow.reads" iw) (m10:jA K A.b7 "__init__" "SendRow.__init__" i6) (m11:jA K A.b7 "reads" "SendRow.reads" gJ) (m12:jA K A.cU "__init__" "SayRow.__init__" jJ)
 (m13:jA K A.cD "__init__" "CallRow.__init__" iN) (m14:jA K A.dJ "__init__" "Row.__init__" fH) (m15:jA K A.cX "__init__" "IfRow.__init__" kQ) (m16:jA K A.cX "reads" "IfRow.reads" jz)
 (m17:jA K A.bz "__init__" "LoopRow.__init__" iC) (m18:jA K A.bz "reads" "LoopRow.reads" gr) (m19:jA K A.bZ "__init__" "DeedRow.__init__" i8) (m20:jA K A.Program "__init__" "Program.__init__" iH)
 (n1:Ü K A.cA "name") (n2:Ü K A.cA "rank") (n3:Ü K A.cA "number") (n4:Ü K A.bN "name")
 (n5:Ü K A.bN "rank") (n6:Ü K A.bN "size") (n7:Ü K A.bN "number") (n8:Ü K A.dC "name")
 (n9:Ü K A.dC "size") (n10:Ü K A.dC "number") (n11:Ü K A.dF "name") (n12:Ü K A.dF "rank")
 (n13:Ü K A.dF "number") (n14:Ü K A.cV "name") (n15:Ü K A.cV "value") (n16:Ü K A.cV "number")
 (n17:Ü K A.cF "name") (n18:Ü K A.cF "place") (n19:Ü K A.cF "value") (n20:Ü K A.cF "number")
 (n21:Ü K A.b7 "name") (n22:Ü K A.b7 "value") (n23:Ü K A.b7 "number") (n24:Ü K A.cU "name")
 (n25:Ü K A.cU "value") (n26:Ü K A.cU "mark") (n27:Ü K A.cU "number") (n28:Ü K A.cD "name")
 (n29:Ü K A.cD "things") (n30:Ü K A.cD "number") (n31:Ü K A.dJ "number") (n32:Ü K A.cX "value")
 (n33:Ü K A.cX "first") (n34:Ü K A.cX "other") (n35:Ü K A.cX "left") (n36:Ü K A.cX "right")
 (n37:Ü K A.cX "number") (n38:Ü K A.bz "thing") (n39:Ü K A.bz "most") (n40:Ü K A.bz "body")
 (n41:Ü K A.bz "left") (n42:Ü K A.bz "right") (n43:Ü K A.bz "number") (n44:Ü K A.bZ "name")
 (n45:Ü K A.bZ "parts") (n46:Ü K A.bZ "body") (n47:Ü K A.bZ "number") (n48:Ü K A.Program "heads")
 (n49:Ü K A.Program "deeds") (n50:Ü K A.Program "main") (y_Row_init:Va K (.ref A.Row) "__getattribute__"=Zq (Zq (.builtin "type.__getattribute__"))/\W.readsIn K A.Row (.type "type")=true/\∃f,T3 K (.ref A.Row) "__init__"=Zq (Zq (.ref f))/\W.findCls K (.ref A.Row) (.type "type") "__init__"=Zq (.val (.ref f))) (nod:[A.Row,A.cA,A.bN,A.dC,A.dF,A.cV,A.cF,A.b7,A.cU,A.cD,A.dJ,A.cX,A.bz,A.bZ,A.Program].Nodup)
:∃fd:UO,(∀(s:Sy)(v:Su),Wt s fd {[v],[]} [("_law_script",v)])/\∀base:Tb,K.In base->base.Ns SU mg->j8 l.prog w K mg base ş 31 fa fd ["_law_script"] (xk K):=by
 have T:Txt K mg A:={
  only:=b9 X G t1 λ_ _ _ _ _ _=>ķ λ_=>rfl,joined:=b9 X G t2 λ_ _ _ _ _ _=>ą λ_ _=>rfl,uv:=b9 X G t3 λ_ _ _ _ _ _=>ķ λ_=>rfl,
  qa:=b9 X G t4 λ_ _ _ _ _ _=>ķ λ_=>rfl,eg:=b9 X G t5 λ_ _ _ _ _ _=>ą λ_ _=>rfl,fw:=b9 X G t6 λ_ _ _ _ _ _=>ą λ_ _=>rfl,
  tW:=b9 X G t7 λ_ _ _ _ _ _=>ķ λ_=>rfl,jk:=b9 X G t8 λ_ _ _ _ _ _=>ą λ_ _=>rfl,fY:=b9 X G t9 λ_ _ _ _ _ _=>ą λ_ _=>rfl,
  balanced:=b9 X G Β λ_ _ _ _ _ _=>ą λ_ _=>rfl,Aq:=b9 X G t11 λ_ _ _ _ _ _=>ķ λ_=>rfl,qh:=b9 X G t12 λ_ _ _ _ _ _=>ķ λ_=>rfl,
  hV:=b9 X G t13 λ_ _ _ _ _ _=>ϸ λ_ _ _=>rfl,jo:=b9 X G t14 λ_ _ _ _ _ _=>ą λ_ _=>rfl,kS:=b9 X G t15 λ_ _ _ _ _ _=>ķ λ_=>rfl,
  sD:=b9 X G t16 λ_ _ _ _ _ _=>ķ λ_=>rfl,mX:=b9 X G t17 λ_ _ _ _ _ _=>ķ λ_=>rfl,places:=b9 X G t18 λ_ _ _ _ _ _=>ķ λ_=>rfl,
  drawn:=b9 X G t19 λ_ _ _ _ _ _=>Ϗ λ_ _ _ _=>rfl,qM:=b9 X G t20 λ_ _ _ _ _ _=>Ϗ λ_ _ _ _=>rfl,oE:=b9 X G t21 λ_ _ _ _ _ _=>ą λ_ _=>rfl,
  kX:=b9 X G t22 λ_ _ _ _ _ _=>ϸ λ_ _ _=>rfl,oH:=b9 X G t23 λ_ _ _ _ _ _=>ą λ_ _=>rfl,links:=Ka X G t24 (λ_ _ _ _ _ _ _ _ _ _=>{_,rfl,rfl}) (λ_ _ _ _ _ _ _ _ _=>{_,rfl,rfl}),
  sources:=b9 X G t25 λ_ _ _ _ _ _=>ķ λ_=>rfl,oy:=b9 X G t26 λ_ _ _ _ _ _=>ą λ_ _=>rfl,xw:=b9 X G t27 λ_ _ _ _ _ _=>ą λ_ _=>rfl,
  tU:=b9 X G t28 λ_ _ _ _ _ _=>ą λ_ _=>rfl,table:=Ka X G t29 (λ_ _ _ _ _ _ _ _ _ _=>{_,rfl,rfl}) (λ_ _ _ _ _ _ _ _ _=>{_,rfl,rfl}),chain:=MZ X G t30 (λ_ _ _ _ _ _ _ _=>Ϗ λ_ _ _ _=>{_,rfl,rfl}) (λ_ _ _ _ _ _ _ _=>ϸ λ_ _ _=>{_,rfl,rfl}) (λ_ _ _ _ _ _ _ _ _=>ϸ λ_ _ _=>{_,rfl,rfl}),
  l8:=b9 X G t31 λ_ _ _ _ _ _=>ą λ_ _=>rfl,uq:=b9 X G t32 λ_ _ _ _ _ _=>ϸ λ_ _ _=>rfl,wL:=b9 X G t33 λ_ _ _ _ _ _=>ą λ_ _=>rfl,
  qo:=b9 X G t34 λ_ _ _ _ _ _=>ϸ λ_ _ _=>rfl,tZ:=b9 X G t35 λ_ _ _ _ _ _=>ą λ_ _=>rfl,qy:=b9 X G t36 λ_ _ _ _ _ _=>ą λ_ _=>rfl,
  qL:=b9 X G t37 λ_ _ _ _ _ _=>ą λ_ _=>rfl,qe:=b9 X G t38 λ_ _ _ _ _ _=>ą λ_ _=>rfl,qE:=b9 X G t39 λ_ _ _ _ _ _=>ą λ_ _=>rfl,
  qG:=b9 X G t40 λ_ _ _ _ _ _=>ϸ λ_ _ _=>rfl,oO:=b9 X G t41 λ_ _ _ _ _ _=>Ϗ λ_ _ _ _=>rfl,oN:=b9 X G t42 λ_ _ _ _ _ _=>ķ λ_=>rfl,
  xQ:=b9 X G t43 λ_ _ _ _ _ _=>ϸ λ_ _ _=>rfl,uA:=b9 X G t44 λ_ _ _ _ _ _=>Ϗ λ_ _ _ _=>rfl,sI:=b9 X G t45 λ_ _ _ _ _ _=>ą λ_ _=>rfl,
  ku:=b9 X G t46 λ_ _ _ _ _ _=>ą λ_ _=>rfl,dA:=b9 X G t47 λ_ _ _ _ _ _=>ą λ_ _=>rfl,mB:=b9 X G t48 λ_ _ _ _ _ _=>ķ λ_=>rfl,
  hU:=b9 X G t49 λ_ _ _ _ _ _=>ϸ λ_ _ _=>rfl,kT:=b9 X G t50 λ_ _ _ _ _ _=>ϸ λ_ _ _=>rfl,jr:=b9 X G t51 λ_ _ _ _ _ _=>ą λ_ _=>rfl,
  xC:=b9 X G t52 λ_ _ _ _ _ _=>ą λ_ _=>rfl,qj:=b9 X G t53 λ_ _ _ _ _ _=>ar5 λ_ _ _ _ _=>rfl,oG:=TZ X G oG,
  aG:=TZ X G aG,gO:=TZ X G gO,dG:=TZ X G dG,
  Cf:=TZ X G Cf,dj:=TZ X G dj,kK:=TZ X G kK,
  CZ:=TZ X G CZ,l9:=TZ X G l9,zX:=TZ X G zX,
  rO:=TZ X G rO,BB:=TZ X G BB,r8:=g_CLOCK.imp λ_ e=>Xc X G e,
  kg:=oA X G cg ct x_Row,sW:=km m1 λ_ _ _ _ _ _=>ą λ_ _=>rfl,j6:=oA X G cg ct x_HandRow,
  iU:=km m2 λ_ _ _ _ _ _=>Ϗ λ_ _ _ _=>rfl,lO:=n1,lP:=n2,
  fP:=n3,cQ:=oA X G cg ct x_GivenRow,gu:=km m3 λ_ _ _ _ _ _=>ar5 λ_ _ _ _ _=>rfl,
  eN:=n4,gz:=n5,lF:=n6,
  fA:=n7,iX:=oA X G cg ct x_OwnRow,jY:=km m4 λ_ _ _ _ _ _=>Ϗ λ_ _ _ _=>rfl,
  jC:=n8,nW:=n9,gy:=n10,
  dX:=oA X G cg ct x_LetRow,jD:=km m5 λ_ _ _ _ _ _=>Ϗ λ_ _ _ _=>rfl,gg:=n11,
  j1:=n12,gL:=n13,fo:=oA X G cg ct x_SetRow,
  jR:=km m6 λ_ _ _ _ _ _=>Ϗ λ_ _ _ _=>rfl,i9:=km m7 λ_ _ _ _ _ _=>ķ λ_=>rfl,jG:=n14,
  ir:=n15,gG:=n16,dZ:=oA X G cg ct x_PutRow,
  jB:=km m8 λ_ _ _ _ _ _=>ar5 λ_ _ _ _ _=>rfl,iu:=km m9 λ_ _ _ _ _ _=>ķ λ_=>rfl,jH:=n17,
  iq:=n18,iz:=n19,gx:=n20,
  dz:=oA X G cg ct x_SendRow,iM:=km m10 λ_ _ _ _ _ _=>Ϗ λ_ _ _ _=>rfl,gI:=km m11 λ_ _ _ _ _ _=>ķ λ_=>rfl,
  mU:=n21,gH:=n22,fO:=n23,
  cz:=oA X G cg ct x_SayRow,js:=km m12 λ_ _ _ _ _ _=>ar5 λ_ _ _ _ _=>rfl,fZ:=n24,
  mC:=n25,jI:=n26,b8:=n27,
  cG:=oA X G cg ct x_CallRow,iD:=km m13 λ_ _ _ _ _ _=>Ϗ λ_ _ _ _=>rfl,dQ:=n28,
  fL:=n29,cW:=n30,ib:=oA X G cg ct x_LastRow,
  nB:=km m14 λ_ _ _ _ _ _=>ą λ_ _=>rfl,fW:=n31,cv:=oA X G cg ct x_IfRow,
  kG:=km m15 λ_ _ _ _ _ _=>ar7 λ_ _ _ _ _ _ _=>rfl,jX:=km m16 λ_ _ _ _ _ _=>ķ λ_=>rfl,jF:=n32,
  gc:=n33,gb:=n34,gX:=n35,
  jW:=n36,iZ:=n37,bB:=oA X G cg ct x_LoopRow,
  iF:=km m17 λ_ _ _ _ _ _=>ar7 λ_ _ _ _ _ _ _=>rfl,gA:=km m18 λ_ _ _ _ _ _=>ķ λ_=>rfl,gq:=n38,
  iQ:=n39,fB:=n40,iY:=n41,
  eA:=n42,fM:=n43,cw:=oA X G cg ct x_DeedRow,
  iK:=km m19 λ_ _ _ _ _ _=>ar5 λ_ _ _ _ _=>rfl,c0:=n44,er:=n45,
  eY:=n46,fQ:=n47,dw:=oA X G cg ct x_Program,
  iW:=km m20 λ_ _ _ _ _ _=>Ϗ λ_ _ _ _=>rfl,eI:=n48,cI:=n49,
  i7:=n50,bK:=⟨y_Row_init.1,y_Row_init.2.1,y_Row_init.2.2⟩,nd:=nod }
 have F:ba K mg "law" sZ ["_law_script"]:=b9 X G t54 λ_ _ _ _ _ _=>ķ λ_=>rfl;obtain⟨f,a,oc,od,kV,dc,pm,an,cd,ct,sl,lk,_,_⟩:=t54;refine{T8 "law" "law" (bH sZ) (bj sZ) (aq sZ) .none kV dc pm an cd ct,λs v=>.of_eq rfl,λbase _ _=>?_};have e:=hfa.symm.trans (Xc X G a);cases e;exact Km (NL (P:=l.prog) (w:=w) (base:=base) T F) (Xc X G a) lk
theorem walk{l:Yd}{q:Program}{loose:List Str}{XP:(Str->Option Su)->Tb->Prop}{YP:SM->Tb->Prop}{d:DefRec}{K:UJ->SE}(hn:l.most=Zq 63)(hdf:d.params.defaults=[])(hY:∀(w:SM)(h:Tb),YP w h->(K w.params).In h)
  (F:∀(w:SM)(mg:Str->Option Su)(fa:Sv)(h:Tb),(K w.params).In h->h.Ns SU mg->mg d.name=Zq (.ref fa)->∃fd:UO,(∀(s:Sy)(u:Su),Wt s fd {[u],[]} [("_law_script",u)])/\∀base:Tb,(K w.params).In base->base.Ns SU mg->j8 l.prog w (K w.params) mg base ş 31 fa fd ["_law_script"] (xk (K w.params))) :
  W.WalkO q loose XP YP l.row.toRowW d [] (λf vs=>YS f vs):=
 L2.Jt (n:=63) (k:=31) (x:="_law_script") (CX:=λ_=>ş) (sp:=λw=>xk (K w.params)) hn ∅ hdf {rfl,∅,∅} hY F (λ_ _ a ns hl _ hS=>{a,ns,rfl,hS,hl,λ_=>rfl}) λ_ _ _ _ _ z=>z
end K35
open PySem PySem.W PyProof.Rows
set_option maxRecDepth 100000 in
set_option maxHeartbeats 0 in
theorem PySem.Challenge.cw_hushrow_k35_shortest_chains_holds : PySem.Challenge.rw_hushrow_k35_shortest_chains.Holds := by
 w_on;o_law
 refine W.holds_open (q:=K35.gB) (loose:=["links","table","chain"]) (Xt:=K35.test) (XP:=W.XL K35.gB []) (Yf:=(XX K35.ó K35.qN K35.j9).obs) (Ya:=(XX K35.ó K35.qN K35.j9).val) (YP:=(XX K35.ó K35.qN K35.j9).says) (N:=12538) K35.left (XX K35.ó K35.qN K35.j9).of (XX K35.ó K35.qN K35.j9).keeps
  (λs e=>W.xl_of s (Bool.and_eq_true_iff.mp e).1) W.XL.keeps (by rfl) (by rfl) (by rfl) (λs e=>W.recFacts_of (Bool.and_eq_true_iff.mp e).2) ?h4 ?h5 ?h6 {rfl,rfl,rfl,rfl,rfl,by decide+kernel} ?hw ?hc
 (case h4=>rfl);(case h5=>first|assumption|decide+kernel);(case h6=>decide+kernel);(case hw=>w_witness2)
 k_fill
 refine K35.walk (l:=PySem.Challenge.rw_hushrow_k35_shortest_chains) rfl rfl (λw h Y=>W.kIn_of Y) ?F;case F=>
  intro w mg fa h KX G hmg;refine K35.all_mk ⟨80,108,134,160,186,226,266,299,339,370,389,422,455,481,500⟩ KX G hmg ?_ ?_ ?_ ?_ ?_ ?_ ?_ ?_ ?_ ?_ ?_ ?_ ?_ ?_ ?_ ?_ ?_ ?_ ?_ ?_ ?_ ?_ ?_ ?_ ?_ ?_ ?_ ?_ ?_ ?_ ?_ ?_ ?_ ?_ ?_ ?_ ?_ ?_ ?_ ?_ ?_ ?_ ?_ ?_ ?_ ?_ ?_ ?_ ?_ ?_ ?_ ?_ ?_ ?_ ?_ ?_ ?_ ?_ ?_ ?_ ?_ ?_ ?_ ?_ ?_ ?_ ?_ ?_ ?_ ?_ ?_ ?_ ?_ ?_ ?_ ?_ ?_ ?_ ?_ ?_ ?_ ?_ ?_ ?_ ?_ ?_ ?_ ?_ ?_ ?_ ?_ ?_ ?_ ?_ ?_ ?_ ?_ ?_ ?_ ?_ ?_ ?_ ?_ ?_ ?_ ?_ ?_ ?_ ?_ ?_ ?_ ?_ ?_ ?_ ?_ ?_ ?_ ?_ ?_ ?_ ?_ ?_ ?_ ?_ ?_ ?_ ?_ ?_ ?_ ?_ ?_ ?_ ?_ ?_ ?_ ?_ ?_ ?_ ?_ ?_ ?_ ?_ ?_ ?_ ?_ ?_ ?_ ?_ ?_ ?_ ?_ ?_ ?_ ?_ ?_ ?_;iterate 23 exact{_,by k_is,_,_,_,_,_,_,_,_,_,by k_is,by k_is,by k_is}
  iterate 1 exact{_,_,_,_,_,_,_,_,_,_,_,_,_,_,by k_is,by k_is,by k_is,by k_is,by k_is,by first|rfl|exact{_,rfl}}
  iterate 4 exact{_,by k_is,_,_,_,_,_,_,_,_,_,by k_is,by k_is,by k_is}
  iterate 2 exact{_,_,_,_,_,_,_,_,_,_,_,_,_,_,by k_is,by k_is,by k_is,by k_is,by k_is,by first|rfl|exact{_,rfl}}
  iterate 24 exact{_,by k_is,_,_,_,_,_,_,_,_,_,by k_is,by k_is,by k_is}
  iterate 12 (show _=_;k_is)
  iterate 1 exact{_,by k_is}
  iterate 2 (show _=_;k_is)
  iterate 15 exact{by k_is,{_,by k_is,rfl},by k_is,by k_is,by k_is,by k_is,by k_is,by k_is,by k_is,by k_is}
  iterate 20 exact{_,by k_is,by k_is,_,_,_,_,_,_,_,_,_,by k_is,by k_is,by k_is}
  iterate 50 (show _=_;k_is)
  iterate 1 exact{by k_is,by k_is,_,by k_is,by k_is}
  iterate 1 decide

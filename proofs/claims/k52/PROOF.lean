import PyProof.Rows.All
import Wide.All
import OpenK.AllK
import PySem.Challenge.RW_hushrow_k52_evened_again
local macro_rules|`(def $i:declId $s:optDeclSig $v:declVal)=>`(noncomputable def $i:declId $s:optDeclSig $v:declVal)
local macro_rules|`(abbrev $i:declId $s:optDeclSig $v:declVal)=>`(noncomputable abbrev $i:declId $s:optDeclSig $v:declVal)
local macro_rules|`($n:num∘$t)=>`((nat_lit $n,$t))
local macro_rules|`(tactic|rfl')=>`(tactic|try dsimp only)
local macro_rules|`({$x:term,$xs,*})=>`(⟨$x,$xs,*⟩)
open PySem renaming wpAny_bind->QZ,Value->Q0,Addr->Q1,Shared->Q3,wpAny_pure->Q4,starEach->Q8,World->Rh,model->Ri,compareOp->Rk,Stmt->Rl,mainGlobals->Rm,mem_of_lookup->Ro,Heap->Rp,wpAny_newObj_type->Rt,Around->Rv,importedModules->Rx,eval->RB,backTo->RC,Str->RF,wpAny_Call_Name_kw->RG,treeTable->RJ,cellsFrom->RL,keywordEach->RQ,attributeBase->RS,binaryOp->RU,wpAny_call_entry->R0,sysModules->Se,codeAny_builtin->Sg,OsState->Sk,wpAny_passesOwn->Sn,bootBuiltins->So,FuncData->Sq,wpAny_setState_of->Ss,wpAny_mono->Su,cLine->Sy,backToKw->Sz,NameKind->SD,wpAny_callSpecial?_slot->SF,wpAny_getItem_str_slice->SG,Params->SI,sizeLine_eq->SO,codeAny_mono->SS,Keyword->SU,behindInMarks->S2,plainId_quiet->S3,Builtin->S4,intKind->S5,pushCells_keeps->S6,tupleKind_room_in1->S7,sliceBounds->Tb,wpAny_truthy_bool->Tg,wpAny_typeOf->Tj,wpAny_pyIter_list->Tn,wpAny_dictEntries->Tp,setAddHashed->Tq,builtinLookup_eq_fast->Tr,call_meets->Tw,pushCells->Tx,wpAny_field->TF,wpAny_execs_nil->TJ,letOwnedTupleGo->TK,post_val_or_str->TM,wpAny_setEntries_of->TQ,holding->TR,Spec->TY,Scope->TZ,assignEach->T2,isSubtype_type->T7,getItem->Uc,wpAny_standAt->Ud,evalPart_none->Ue,wpAny_getItem_list_slice->Ug,GenState->Uk,wpAny_isInstance->Us,wpAny_askSetting->Ut,builtinsNs->Uv,rawInt->Ux,wpAny_pyNext_list_item->Uy,BindsTo->UA,PyData->UE,typeLookup_type->UJ,wpAny_pyNext_list_end->UK,wpAny_notOrdered_dict->UL,wpAny_loadName_local->UR,pyNext->US,wpAny_setField->UX,tupleKind->U1,swapsWith->U2,callerA->U3,seqItems?->U5,wpAny_loadName_cell->U7,evalPart_some->Vf,wpAny_Constant_int->Vl,wpAny_load->Vm,wpAny_call->Vn,IsPart->Vo,typeIs_str->Vr,getattributeRaised->Vw,wpAny_rule->Vx,intKind_is->Vz,Within->VD,spliced->VE,standAt->VF,wpAny_sequenceKey->VJ,seqIndex_neg->VL,wpAny_pyIter_slot->VR,wpAny_execs_cons->VX,getMethod->VZ,entryFor_of_tree->V5,wpAny_pyIter_zip->V6,wpAny_setScan_of->V7,wpAny_Slice->Wf,seqIndex_of->Wg,atKey->Wh,wpAny_specialOf->Wl,wpAny_dictEpoch->Wm,codeAny_of_tree->Wn,wpAny_updateSeq->Wo,wpAny_Name->Ws,recursionLimit->Wv,bindL->Ww,bindC->Wx,typeIs_int->Wz,call->WD,newFunctionEnv->WE,compPost->WG,entryFor->WJ,setAddHashedIn->WL,wpAny_runValue->WM,entryFor_alias->WN,firstArgMember->WO,DictEntry->WU,storeName->WV,PassesOwn->WW,joinParts->WY,scanBound->WZ,pickOrder->W5,pyIter->W6,Result->W8
open PySem.Heap renaming get?_push_of_some->Q5,lt_size->Rc,get?_push_size->Rf,get?_update_other->RV,get?_update_self->RZ,size_push->R9,SameBut->SK
open PySem.W renaming Frag->Q6,mg_none_of->RM,findIn->RY,fnOf->R5,keepIn->Sh,emptyDict->SH,topStub->SJ,kia_one->SN,openSeen->S1,specialIn->S8,Frag->Tf,kitOne->Ti,boot_drawn->Ts,instObj->Tu,cellsFrom_some->Tv,codeIn->TC,boot_toks->TX,openGood->Ul,boot_heap->Um,plainGet->Uz,hasDictIn->UT,mg_of->U4,plainGet_of->Ve,kHook->VB,OpenLaw->VU,boot_o_0->VW,makesIn->V0,takesIn->V1,methodObj->Wc,plainOver->We,namesBound->Wr,lookIn->Wu,nsIn->WI,staticsOk->WT,takerIn->WX,isFn->W7,mroIn->W9
open PySem.Paired renaming length->Q7,snoc->Td
open Option.some renaming inj->Q9,injEq->VO
open PySem.PassesOwn renaming never->Rg
open List renaming replicate->Rj,Nodup->Rr,range->Rz,lookup->SQ,length->Ta,dropLast_concat_getLast->TN,length_filterMap_le->Uh,eq_of_mem_replicate->Uj,getElem?_replicate->Uo,getElem?_cons_zero->Ur,getElem?_set_self->Uw,getElem?_toArray->UP,getElem?_set_ne->UQ,length_reverse->Va,getElem_of_mem->Vb,getElem?_range->Vc,findIdx?_cons->Vy,any_eq_false->VG,reverse_cons->VM,foldl_append->VN,ext_getElem?->VS,length_drop->V2,map_flatMap->V9,filter->Wi,filter_map->Wq,foldl->WA
open PySem.Value renaming ref->Rn,type->Sd,int->Sx,none->Tt,str->U0,isStrOf_shape->U6,isStrOf->Vd,bool->Vk,isInt_shape->VC,isInt->Wa,float->Wb
open PySem.SeqAt renaming shaped->Rq,EqAt->UC,eqv_refl->WS
open PySem.Builtin.Tuple renaming tupleExact->Ry,tupleItemsOf->T5
open PySem.Builtin.Slice renaming slicePlaces->RA,sliceApplied->Sl,sliceAdjust->SW,sliceFields->T8
open PyProof.Rows renaming callWith_type1->RD,slot_tuple_getitem->RX,callWith_builtin1->SE,envOfC->SX,IntsAre->TU,slicePart_none->T4,AllBare->Ua,subscriptTail_builtinR->UB,entry_tuple_getitem->U8,subscriptTail->Vg,args_tuple_getitem->Vp,Subscript_->Vq,tail_any->Wy,seqObj->Xa
open PySem.Str renaming empty->RE,ofString->SV
open PySem.Builtin renaming bitOr->RH
open PySem.NameKind renaming cell->RI,free->RT
open PySem.PyData renaming strOk->RK,canLay0->Sa,canLayAll0->Sb,depthAll->Sf,int->Sw,depth->SM,eqv->Tz,str->UG,list->UZ
open False renaming elim->RN
open PySem.Builtin.Str renaming occurrences->RO,strKind->U9
open PySem.Around renaming under_plainId->RR,under->VH
open PySem.Builtin.Int renaming intBits->RW
open PyProof.Rows.F renaming plain_set_update_loop->Si,entry_set_update_loop->S0
open PySem.BindsTo renaming of_defaults->Sj
open Option renaming none->Sr,isSome_some->Vv,getD_none->V3,getD_some->V4,some->Xb,none->Xc
open PySem.Builtin.List renaming listTooLong->Sv,listExtendWith->TV,listSameRef->Ui
open PySem.Obj renaming mapSeq->SR,putSet->WK
open PySem.Heap.SameBut renaming update->SY
open PySem.F renaming plainAttrs_list->Tc,plain_list_iadd->Uu,plain_set_new->UN,slot_set_iter->UO,slot_dict_eq->UU,slot_int_rmul->Wj
open Prod renaming ext->Te
open PySem.Builtin.Dict renaming samePairs->To,dictSlotArgs->T9,updateFrom->Uq,pairItems->UH,showsAll->UM
open Int renaming mul_le_mul_of_nonneg_right->TB,mul_le_mul_of_nonneg_left->TH,natCast_succ->V8
open ForInStep renaming yield->TL
open PySem.Calls renaming Name_function_global->T1,spliced_cons->T3,spliced_nil->Ub,callWith_builtin->UD
open PySem.Heap.IsSliceOf renaming new->T6
open Array renaming getElem?_eq_none->UI,size_append->VP
open PySem.SetTable renaming below->UW
open Nat renaming add_le_add_right->UY,lt_of_le_of_lt->Vu
open PySem.Shared renaming TypeIs->Vh
open PySem.SeqAt.EqAt renaming int_str->Vi,str_int->Vj,int_int->Vs,str_str->Vt
open PySem.Txt renaming slice_le->VA
open PySem.Code renaming isFrame->VI
open PySem.pickOrder renaming go->VQ
open Function renaming comp_def->VT
open PySem.Data renaming cell->VY
open PySem.Heap.DictOf renaming new->Wk
open Bool renaming false_and->Wt,and_false->WC
open PySem.Walks renaming strAscii->WH
open List.Perm renaming refl->WQ
local macro_rules|`(())=>`(by first|lia|omega)
local macro_rules|`(∅)=>`(by decide)
open List renaming length_map->N3,mem_singleton->N4,length_append->N7,mem_cons_of_mem->N8,mem_cons_self->N9,getElem?_eq_getElem->Oa,mem_cons->Ob,mem_append_right->Od,mem_of_getElem?->Oe,mem_append->Og,mem_append_left->Oh,getElem?_map->Oi,size_toArray->Om,mem_map->Oq,getElem?_eq_some_iff->Ot,not_mem_nil->Ou,take_length->Ov,mem_filter->Ow,map_cons->Ox,map_append->OB,length_singleton->OC,length_cons->OE,append_nil->OF,take_add_one->OG,length_take->OH,getD_eq_getElem?_getD->OI,mem_map_of_mem->OJ,find?_cons->OK,length_filter_le->OM,mem_flatMap->ON,nodup_cons->OO,replicate_succ->OP,map_map->OQ,getElem?_append_left->OR,append_assoc->OV,foldl_cons->OX,length_replicate->OY,take_append_drop->OZ,filter_append->O0,nodup_append->O5,nil_append->O6,map_congr_left->O9,take_of_length_le->Pa,getElem?_append_right->Pb,length_nil->Pf,filter_nil->Pg,filterMap_cons->Pk,mem_range->Pm,lookup_cons->Po,all_eq_true->Pp,any_eq_true->Pq,of_mem_zip->Pu,flatMap_cons->Pw,pairwise_map->Px,length_zip->PD,getElem?_eq_none->PM,sum_cons->PR,flatMap_append->PU,filter_sublist->PV,getElem?_eq_none_iff->PY,getElem?_take_of_lt->P1,map_nil->P2,take_zero->P5,filter_cons_of_neg->P6,filter_cons_of_pos->P7,flatten_cons->P8,any_cons->Qb,getElem_inj->Qd,cons_append->Qe,getElem_mem->Qf,flatMap_map->Qg,getElem?_of_mem->Qi,nodup_nil->Qj,mem_filterMap->Qk,filter_filter->Ql,map_take->Qm,length_range->Qp,filter_cons->Qt,range_succ->Qw,sum_append->Qx
open Or renaming inl->N6,inr->Oo
open Nat renaming le_refl->Oc,zero_le->Oj,le_trans->Ol,lt_of_lt_of_le->OA,ne_of_lt->OD,lt_irrefl->OL,le_add_right->Pc,le_of_lt->Pe,lt_succ_of_lt->Pj,le_succ->Pr,ne_of_gt->Py,lt_succ_self->Pz,not_lt_zero->PH,le_succ_of_le->Qs,succ_le_succ->Qu,add_comm->Qy
open Bool renaming false_ne_true->Of,or_eq_true_iff->OS,false_eq_true->OT,eq_iff_iff->OW,and_eq_true_iff->Ph,and_eq_true->PC,true_and->PQ,not_eq_true'->P9,false_or->Qn,eq_false_iff->Qq
open True renaming intro->Oy
open Sum renaming inr->Oz,inl->Pl
open Int renaming sub_add_cancel->OU,le_refl->O4,zero_add->P4,toNat_natCast->Qo,add_zero->Qv,add_comm->Qz,mul_one->QA,mul_add->QB
open Option renaming map_some->O7,isSome_iff_exists->PB,map_eq_some_iff->PL,isNone_iff_eq_none->P0,isSome_map->Qr
open Array renaming length_toList->O8,getElem?_toList->Pd,toList_append->PX,getElem?_eq_getElem->PZ,mk->Qc,toArray_toList->Qh
open Ne renaming symm->Pn
set_option Elab.async false
set_option linter.all false
set_option maxRecDepth 100000
namespace Hd
open PySem PySem.W PySem.Calls PyProof.Rows
def mr(tb:String->Option S4)(p:Program)(w:Rh)(n₀:Nat)(ann:Option Q0):Nat->SharedT->Thread->Option SharedT
 |0,_,_=>Xc
 |n+1,s,t=>match through t with
  |true=>Xb s
  |false=>match stepOk n₀ ann t with
   |false=>Xc
   |true=>match stepT (denote tb) p w s t with
    |some (s',t')=>mr tb p w n₀ ann n s' t'
    |none=>Xc
theorem EO{tb:String->Option S4}{p:Program}{w:Rh}{n₀:Nat}{ann:Option Q0}:∀{n:Nat}{s s':SharedT}{t:Thread},
  mr tb p w n₀ ann n s t=Xb s'->topRun tb p w n₀ ann n s.abs t=Xb s'.abs
 |0,_,_,_,h=>by cases h
 |n+1,s,s',t,h=>by
  unfold mr at h;unfold topRun;cases he:through t with
  |true=>rw[he]at h;cases h;rfl
  |false=>
   rw[he]at h;cases hk:stepOk n₀ ann t with
   |false=>rw[hk]at h;cases h
   |true=>
    rw[hk]at h;cases hs:stepT (denote tb) p w s t with
    |none=>rw[hs]at h;cases h
    |some r=>obtain⟨s₂,t₂⟩:=r;rw[hs]at h;rw[stepT_spec hs];exact EO h
def LK(p q:Program)(loose:List Str)(Xt:Q3->Bool){α:Type}(Yf:Q3->α)(g0:Bool)(H:Rp)(s:Q3):=
 (WT (Rx p.main.body) H s.heap&&Wr p s.heap&&gensDone s&&laidKept H s.heap,S1 q loose (Rx p.main.body) Xt g0 s,Yf s)
def FG(p:Program)(H:Rp)(s:Q3):=WT (Rx p.main.body) H s.heap&&Wr p s.heap&&gensDone s&&laidKept H s.heap
def treeOf:List Obj->Nat->BT->BT
 | [],_,t=>t
 |o::r,i,t=>treeOf r (i+1) (t.ins i o)
theorem HB{p q:Program}{loose:List Str}{Xt:Q3->Bool}{α:Type}{Yf:Q3->α}{Ya:Rh->α}{N:Nat}{g0:Bool}{H₀:SI->Rp}{Ŋ:Array Uk}{d₀:Drawn}{k₀ m₀ n₀:Nat}{ann:Option Q0}{T₀:SI->BT}{life:Life}
  (opn:∀w:Rh,(fencedOpening RJ p w N).map (λs=>(s.heap,s.gens,s.drawn,s.toks))=Xb (H₀ w.params,Ŋ,d₀,k₀))
  (size:∀w:Rh,((H₀ w.params).isNs Rm&&Ŋ.size==0,(H₀ w.params).objs.size,(H₀ w.params).nsMap Rm "__annotations__")=(true,m₀,ann))
  (tree:∀P:SI,absHeap (T₀ P) n₀ life=H₀ P)
  (look:∀(w:Rh)(os:Sk),(mr RJ p w m₀ ann N ⟨T₀ w.params,n₀,life,Ŋ,d₀,k₀,os⟩ (SJ p)).map (λs=>LK p q loose Xt Yf g0 (H₀ w.params) s.abs)=Xb (true,Ul q loose,Ya w)) :
  LeftO p q loose Xt Yf Ya N g0:=λw=>by
 obtain⟨⟨h,gs,d,k,os⟩,e,e'⟩:=PL.mp (opn w)
 obtain⟨rfl,rfl,rfl,rfl⟩:h=H₀ w.params/\gs=Ŋ/\d=d₀/\k=k₀:=by simpa using e'
 obtain⟨z1,z2,z3⟩:_/\_/\_:=by simpa only[Prod.mk.injEq] using size w
 obtain⟨s,hs,hl⟩:=PL.mp (look w os)
 obtain⟨l1,l23⟩:=Prod.mk.inj hl
 obtain⟨l2,l3⟩:=Prod.mk.inj l23
 have r:=EO hs
 have t:topFrom RJ p w N ⟨H₀ w.params,gs,d,k,os⟩=Xb s.abs:=by
  unfold topFrom;dsimp only;rw[z1,z2,z3];unfold SharedT.abs at r;dsimp only at r;rw[tree w.params]at r;show(topRun RJ p w m₀ ann N ⟨H₀ w.params,gs,d,k,os⟩ (SJ p)).bind _=_;rw[r];show(match WT (Rx p.main.body) (H₀ w.params) s.abs.heap&&Wr p s.abs.heap&&gensDone s.abs&&laidKept (H₀ w.params) s.abs.heap with|true=>_|false=>_)=_;rw[l1];rfl
 unfold openEnds
 rw[e]
 show(topFrom RJ p w N _).map _=_
 rw[t]
 exact congrArg Xb (Te l2 l3)
theorem ET{p q:Program}{loose:List Str}{Xt:Q3->Bool}{α:Type}{Yf:Q3->α}{Ya:Rh->α}{N:Nat}{g0:Bool}{H₀:SI->Rp}{Ŋ:Array Uk}{d₀:Drawn}{k₀ m₀ n₀:Nat}{ann:Option Q0}{T₀:SI->BT}{life:Life}
  (opn:∀w:Rh,(fencedOpening RJ p w N).map (λs=>(s.heap,s.gens,s.drawn,s.toks))=Xb (H₀ w.params,Ŋ,d₀,k₀))
  (size:∀w:Rh,((H₀ w.params).isNs Rm&&Ŋ.size==0,(H₀ w.params).objs.size,(H₀ w.params).nsMap Rm "__annotations__")=(true,m₀,ann))
  (tree:∀P:SI,absHeap (T₀ P) n₀ life=H₀ P)
  (look1:∀(w:Rh)(os:Sk),(mr RJ p w m₀ ann N ⟨T₀ w.params,n₀,life,Ŋ,d₀,k₀,os⟩ (SJ p)).map (λs=>FG p (H₀ w.params) s.abs)=Xb true)
  (look3:∀(w:Rh)(os:Sk),(mr RJ p w m₀ ann N ⟨T₀ w.params,n₀,life,Ŋ,d₀,k₀,os⟩ (SJ p)).map (λs=>(S1 q loose (Rx p.main.body) Xt g0 s.abs).1)=Xb (Ul q loose).1)
  (look7:∀(w:Rh)(os:Sk),(mr RJ p w m₀ ann N ⟨T₀ w.params,n₀,life,Ŋ,d₀,k₀,os⟩ (SJ p)).map (λs=>(S1 q loose (Rx p.main.body) Xt g0 s.abs).2.1)=Xb (Ul q loose).2.1)
  (look5:∀(w:Rh)(os:Sk),(mr RJ p w m₀ ann N ⟨T₀ w.params,n₀,life,Ŋ,d₀,k₀,os⟩ (SJ p)).map (λs=>(S1 q loose (Rx p.main.body) Xt g0 s.abs).2.2.1)=Xb true)
  (look6:∀(w:Rh)(os:Sk),(mr RJ p w m₀ ann N ⟨T₀ w.params,n₀,life,Ŋ,d₀,k₀,os⟩ (SJ p)).map (λs=>(S1 q loose (Rx p.main.body) Xt g0 s.abs).2.2.2.1)=Xb true)
  (look4:∀(w:Rh)(os:Sk),(mr RJ p w m₀ ann N ⟨T₀ w.params,n₀,life,Ŋ,d₀,k₀,os⟩ (SJ p)).map (λs=>(S1 q loose (Rx p.main.body) Xt g0 s.abs).2.2.2.2)=Xb (Ul q loose).2.2.2.2)
  (look2:∀(w:Rh)(os:Sk),(mr RJ p w m₀ ann N ⟨T₀ w.params,n₀,life,Ŋ,d₀,k₀,os⟩ (SJ p)).map (λs=>Yf s.abs)=Xb (Ya w)) :
  LeftO p q loose Xt Yf Ya N g0:=HB opn size tree λw os=>by
 obtain⟨s,hs,h1⟩:=PL.mp (look1 w os)
 have h2:=look2 w os
 have h3:=look3 w os
 have h4:=look4 w os
 have h5:=look5 w os
 have h6:=look6 w os
 have h7:=look7 w os
 rw[hs]at h2 h3 h4 h5 h6 h7⊢
 exact congrArg Xb (Te h1 (Te (Te (Q9 h3) (Te (Q9 h7) (Te (Q9 h5) (Te (Q9 h6) (Q9 h4))))) (Q9 h2)))
end Hd
namespace L2
open PySem PySem.Spec PyProof.Rows
def Xg(s:Rl)(j:Nat):Rl:=match s with
 | .ClassDef _ _ _ body _ _ _ _ _ _ _=>body.getD j (.Pass ⟨0,0,0,0⟩)
 |_=>.Pass ⟨0,0,0,0⟩
def bT(s:Rl):Arguments:=match s with
 | .FunctionDef _ a _ _ _ _ _ _ _ _=>a
 |_=>{ posonlyargs:=[],args:=[],vararg:=Xc,kwonlyargs:=[],kw_defaults:=[],kwarg:=Xc,defaults:=[] }
def bC(s:Rl):List Rl:=match s with
 | .FunctionDef _ _ b _ _ _ _ _ _ _=>b
 |_=>[]
def au(s:Rl):TZ:=match s with
 | .FunctionDef _ _ _ _ _ _ sc _ _ _=>sc
 |_=>{ kind:=.function,names:=[],isGenerator:=false,isCoroutine:=false }
end L2
namespace K52
open PySem
def top(i:Nat):Rl:=PySem.Challenge.pw_hushrow_k52_evened_again.main.body.getD i (.Pass ⟨0,0,0,0⟩)
end K52
set_option genSizeOf false
set_option bootstrap.genMatcherCode false
set_option compiler.extract_closed false
set_option maxHeartbeats 0
namespace K52
open PySem L2 PySem.W
abbrev Ey(P:SI)(x:Str)(t:Nat)(v:Q0):WU:=⟨PyData.keyHash P x,.str x t,v⟩
abbrev FL(P:SI)(a:Nat)(l:Int)(b:Nat):=Ey P "__firstlineno__" a (.int l b)
abbrev SA(P:SI)(a b:Nat):=Ey P "__static_attributes__" a (.ref b)
abbrev DO(P:SI)(a:Nat):=Ey P "__doc__" a .none
abbrev Ņ(P:SI)(a:Nat):=Ey P "__module__" a (.str "hushrow.rows" 237)
abbrev ER(P:SI)(x:Str)(a b:Nat):=Ey P x a (.ref b)
abbrev DI(x:Array WU)(n:Nat):Obj:={.type "dict",Xc,.dict x n,#[]}
abbrev WR(x:Str)(a b:Nat)(y:String):Obj:={.type "getset_descriptor",Xc,.fields #[.str x a,.ref b,.builtin y,.none],#[]}
abbrev CX(n:Str)(a c:Nat)(bs m s:List Q0)(d:Option Q0)(u v:Nat)(w:String):Obj:={.type "type",Xc,.cls { name:=n,bases:=bs,mro:=.ref a::m,ns:=c,qualname:=n,hasDict:=true,slotNames:=[],subclasses:=s,abstract:=false,collection:=Xc,hasDel:=false },#[d,Xc,Xb (.str n u),Xb (.str n v),Xb (.builtin w),Xb (.bool true)]}
abbrev CO(n q:Str)(t:Nat)(l a:Int)(r:Nat)(m:Nat):Obj:={.type "code",Xc,.fields #[.str n t,.str q (t+1),.str "/claim/cut.py" (t+2),.int l 0,.int a 0,.int 0 0,.int 0 0,.int 3 0,.ref r,.bool true,.int 181 0,.ref (r+1),.none,.ref (r+2),.ref (r+3),.ref (r+4),.int m 0,.int l 0,.str "/claim/cut.py" (m+1)],#[]}
abbrev FU(n q:Str)(s:Rl)(m:Str)(t c:Nat):Obj:={.type "function",Xc,.func (R5 n q (bT s) (bC s) (au s) .none .none .none (.str m t) Xc (.ref c) .none),#[]}
abbrev FD(n q:Str)(s:Rl)(d:Nat)(m:Str)(t c:Nat):Obj:={.type "function",Xc,.func (R5 n q (bT s) (bC s) (au s) (.ref d) .none .none (.str m t) Xc (.ref c) .none),#[]}
abbrev F7T(x:Str)(i c:Nat):=FU x x (top i) "hushrow.ranks" 194 c
abbrev ϥ(x:Str)(i c:Nat):=FU x x (top i) "hushrow.costs" 856 c
abbrev F9T(x:Str)(i c:Nat):=FU x x (top i) "hushrow.places" 945 c
abbrev Gz(x:Str)(i c:Nat):=FU x x (top i) "hushrow.links" 1013 c
abbrev IG(x:Str)(i c:Nat):=FU x x (top i) "hushrow.reach" 1069 c
abbrev yI(x:Str)(i c:Nat):=FU x x (top i) "hushrow.evening" 1101 c
abbrev gW(x:Str)(i c:Nat):=FU x x (top i) "law_hushrow_k52_evened_again" 1195 c
abbrev lT(x y:Str)(i j c:Nat):=FU x y (Xg (top i) j) "hushrow.rows" 237 c
def ý(P:SI):Q6:=
 (nat_lit 2,{.none,Xc,.dict #[] 0,#[]})::
 3∘DI #[Ey P "__name__" 165 (.str "law_hushrow_k52_evened_again" 1195),DO P 166,Ey P "__package__" 167 .none,Ey P "__loader__" 168 (.builtin "__main__.__loader__#opaque"),Ey P "__spec__" 169 .none,ER P "__annotations__" 170 6,ER P "__builtins__" 171 4,Ey P "__file__" 173 (.str "/claim/cut.py" 172),Ey P "__cached__" 174 .none,ER P "_wall" 193 21,ER P "only" 202 28,ER P "joined" 210 35,ER P "top" 217 42,ER P "fits" 225 49,ER P "names_in" 236 56,ER P "each_once" 247 63,ER P "Row" 290 94,ER P "HandRow" 325 122,ER P "GivenRow" 362 148,ER P "OwnRow" 397 174,ER P "LetRow" 432 200,ER P "SetRow" 481 240,ER P "PutRow" 532 280,ER P "SendRow" 574 313,ER P "SayRow" 625 353,ER P "CallRow" 666 384,ER P "LastRow" 689 403,ER P "IfRow" 737 436,ER P "LoopRow" 785 469,ER P "DeedRow" 822 495,ER P "Program" 855 514,ER P "most_of" 863 523,ER P "most_of_row" 873 530,ER P "exact_of" 884 537,ER P "exact_of_row" 892 544,ER P "one_more" 899 551,ER P "exact_of_if" 909 558,ER P "exact_of_loop" 918 565,ER P "balanced" 926 572,ER P "mosts" 935 579,ER P "exacts" 944 586,Ey P "CLOCK" 948 (.str "the clock" 947),ER P "row_place" 955 593,ER P "laid_rows" 966 600,ER P "laid_inside" 975 607,ER P "laid_program" 984 614,ER P "is_place" 991 621,ER P "head_places" 1000 628,ER P "places" 1012 635,ER P "drawn" 1020 640,ER P "row_links" 1031 647,ER P "said_links" 1040 654,ER P "called_links" 1053 661,ER P "step_links" 1062 668,ER P "links" 1068 674,ER P "sources" 1076 679,ER P "sources_of" 1082 684,ER P "ways_of" 1088 689,ER P "arrivals" 1094 694,ER P "table" 1100 700,ER P "rows_above" 1115 707,ER P "uneven" 1122 713,ER P "evened" 1129 719,ER P "head_copy" 1136 726,ER P "deed_copy" 1145 733,ER P "rows_evened" 1151 738,ER P "row_evened" 1160 745,ER P "plain_copy" 1167 752,ER P "if_evened" 1182 759,ER P "loop_evened" 1194 766,ER P "_law_cell_at" 1204 773,ER P "_law_mix" 1215 780,ER P "_law_name" 1229 787,ER P "_law_number" 1236 794,ER P "_law_thing" 1244 801,ER P "_law_value" 1255 808,ER P "_law_kind" 1267 815,ER P "_law_plain" 1273 820,ER P "_law_cost" 1285 827,ER P "_law_two" 1297 834,ER P "_law_idles" 1310 841,ER P "_law_block" 1328 848,ER P "_law_nodes" 1340 855,ER P "_law_made" 1350 862,ER P "_law_heads" 1360 869,ER P "_law_drawn" 1366 874,ER P "_law_program" 1379 881,ER P "_law_blocks" 1388 888,ER P "_law_all_blocks" 1397 895,ER P "_law_ways" 1405 902,ER P "_law_long" 1418 909,ER P "_law_known" 1427 916,ER P "_law_waits" 1433 921,ER P "_law_mosts" 1439 926,ER P "law" 1445 931] 95::
 27∘CO "only" "only" 196 5 1 22 200::
 28∘F7T "only" 2 27::
 34∘CO "joined" "joined" 203 7 2 29 208::
 35∘F7T "joined" 3 34::
 41∘CO "top" "top" 211 9 1 36 215::
 42∘F7T "top" 4 41::
 48∘CO "fits" "fits" 218 11 2 43 223::
 49∘F7T "fits" 5 48::
 55∘CO "names_in" "names_in" 228 14 1 50 234::
 56∘FU "names_in" "names_in" (top 7) "hushrow.things" 226 55::
 62∘CO "each_once" "each_once" 239 21 1 57 245::
 63∘FU "each_once" "each_once" (top 9) "hushrow.rows" 237 62::
 76∘CO "__init__" "Row.__init__" 260 29 2 71 265::
 77∘lT "__init__" "Row.__init__" 10 0 76::
 93∘DI #[Ņ P 255,FL P 259 27 258,ER P "__init__" 267 77,ER P "reads" 274 84,ER P "target" 281 91,SA P 283 92,ER P "__dict__" 285 95,ER P "__weakref__" 287 96,DO P 288] 4::
 94∘CX "Row" 94 93 [.type "object"] [.type "object"] [.ref 122,.ref 148,.ref 174,.ref 200,.ref 240,.ref 280,.ref 313,.ref 353,.ref 384,.ref 403,.ref 436,.ref 469,.ref 495] Xc 248 256 "object.__new__"::
 (nat_lit 95,{(.type "getset_descriptor"),Xc,.fields #[(.str "__dict__" 284),(.ref 94),(.builtin "function.__dict__"),(.builtin "function.__dict__#set")],#[]})::
 96∘WR "__weakref__" 286 94 "ExceptionGroup.__weakref__"::
 111∘CO "__init__" "HandRow.__init__" 303 39 4 106 310::
 112∘lT "__init__" "HandRow.__init__" 11 0 111::
 121∘DI #[Ņ P 298,FL P 302 37 301,ER P "__init__" 312 112,ER P "shown" 319 119,SA P 322 120,DO P 323] 2::
 122∘CX "HandRow" 122 121 [.ref 94] [.ref 94,.type "object"] [] (Xb (.ref 99)) 291 299 "object.__new__"::
 137∘CO "__init__" "GivenRow.__init__" 338 48 5 132 346::
 138∘lT "__init__" "GivenRow.__init__" 12 0 137::
 147∘DI #[Ņ P 333,FL P 337 46 336,ER P "__init__" 348 138,ER P "shown" 355 145,SA P 359 146,DO P 360] 2::
 148∘CX "GivenRow" 148 147 [.ref 94] [.ref 94,.type "object"] [] (Xb (.ref 125)) 326 334 "object.__new__"::
 163∘CO "__init__" "OwnRow.__init__" 375 58 4 158 382::
 164∘lT "__init__" "OwnRow.__init__" 13 0 163::
 173∘DI #[Ņ P 370,FL P 374 56 373,ER P "__init__" 384 164,ER P "shown" 391 171,SA P 394 172,DO P 395] 2::
 174∘CX "OwnRow" 174 173 [.ref 94] [.ref 94,.type "object"] [] (Xb (.ref 151)) 363 371 "object.__new__"::
 189∘CO "__init__" "LetRow.__init__" 410 67 4 184 417::
 190∘lT "__init__" "LetRow.__init__" 14 0 189::
 199∘DI #[Ņ P 405,FL P 409 65 408,ER P "__init__" 419 190,ER P "shown" 426 197,SA P 429 198,DO P 430] 2::
 200∘CX "LetRow" 200 199 [.ref 94] [.ref 94,.type "object"] [] (Xb (.ref 177)) 398 406 "object.__new__"::
 215∘CO "__init__" "SetRow.__init__" 445 76 4 210 452::
 216∘lT "__init__" "SetRow.__init__" 15 0 215::
 229∘CO "reads" "SetRow.reads" 462 84 1 224 466::
 230∘lT "reads" "SetRow.reads" 15 2 229::
 239∘DI #[Ņ P 440,FL P 444 74 443,ER P "__init__" 454 216,ER P "shown" 461 223,ER P "reads" 468 230,ER P "target" 475 237,SA P 478 238,DO P 479] 2::
 240∘CX "SetRow" 240 239 [.ref 94] [.ref 94,.type "object"] [] (Xb (.ref 203)) 433 441 "object.__new__"::
 255∘CO "__init__" "PutRow.__init__" 494 91 5 250 502::
 256∘lT "__init__" "PutRow.__init__" 16 0 255::
 269∘CO "reads" "PutRow.reads" 512 100 1 264 516::
 270∘lT "reads" "PutRow.reads" 16 2 269::
 279∘DI #[Ņ P 489,FL P 493 89 492,ER P "__init__" 504 256,ER P "shown" 511 263,ER P "reads" 518 270,ER P "target" 525 277,SA P 529 278,DO P 530] 2::
 280∘CX "PutRow" 280 279 [.ref 94] [.ref 94,.type "object"] [] (Xb (.ref 243)) 482 490 "object.__new__"::
 295∘CO "__init__" "SendRow.__init__" 545 107 4 290 552::
 296∘lT "__init__" "SendRow.__init__" 17 0 295::
 309∘CO "reads" "SendRow.reads" 562 115 1 304 566::
 310∘lT "reads" "SendRow.reads" 17 2 309::
 312∘DI #[Ņ P 540,FL P 544 105 543,ER P "__init__" 554 296,ER P "shown" 561 303,ER P "reads" 568 310,SA P 571 311,DO P 572] 2::
 313∘CX "SendRow" 313 312 [.ref 94] [.ref 94,.type "object"] [] (Xb (.ref 283)) 533 541 "object.__new__"::
 328∘CO "__init__" "SayRow.__init__" 587 119 5 323 595::
 329∘lT "__init__" "SayRow.__init__" 18 0 328::
 352∘DI #[Ņ P 582,FL P 586 117 585,ER P "__init__" 597 329,ER P "shown" 604 336,ER P "reads" 611 343,ER P "target" 618 350,SA P 622 351,DO P 623] 2::
 353∘CX "SayRow" 353 352 [.ref 94] [.ref 94,.type "object"] [] (Xb (.ref 316)) 575 583 "object.__new__"::
 368∘CO "__init__" "CallRow.__init__" 638 135 4 363 645::
 369∘lT "__init__" "CallRow.__init__" 19 0 368::
 383∘DI #[Ņ P 633,FL P 637 133 636,ER P "__init__" 647 369,ER P "shown" 654 376,ER P "reads" 660 381,SA P 663 382,DO P 664] 2::
 384∘CX "CallRow" 384 383 [.ref 94] [.ref 94,.type "object"] [] (Xb (.ref 356)) 626 634 "object.__new__"::
 402∘DI #[Ņ P 674,FL P 678 145 677,ER P "shown" 685 400,SA P 686 401,DO P 687] 2::
 403∘CX "LastRow" 403 402 [.ref 94] [.ref 94,.type "object"] [] (Xb (.ref 387)) 667 675 "object.__new__"::
 418∘CO "__init__" "IfRow.__init__" 702 151 7 413 712::
 419∘lT "__init__" "IfRow.__init__" 21 0 418::
 432∘CO "reads" "IfRow.reads" 722 162 1 427 726::
 433∘lT "reads" "IfRow.reads" 21 2 432::
 435∘DI #[Ņ P 697,FL P 701 149 700,ER P "__init__" 714 419,ER P "shown" 721 426,ER P "reads" 728 433,SA P 734 434,DO P 735] 2::
 436∘CX "IfRow" 436 435 [.ref 94] [.ref 94,.type "object"] [] (Xb (.ref 406)) 690 698 "object.__new__"::
 451∘CO "__init__" "LoopRow.__init__" 750 166 7 446 760::
 452∘lT "__init__" "LoopRow.__init__" 22 0 451::
 465∘CO "reads" "LoopRow.reads" 770 177 1 460 774::
 466∘lT "reads" "LoopRow.reads" 22 2 465::
 468∘DI #[Ņ P 745,FL P 749 164 748,ER P "__init__" 762 452,ER P "shown" 769 459,ER P "reads" 776 466,SA P 782 467,DO P 783] 2::
 469∘CX "LoopRow" 469 468 [.ref 94] [.ref 94,.type "object"] [] (Xb (.ref 439)) 738 746 "object.__new__"::
 484∘CO "__init__" "DeedRow.__init__" 798 181 5 479 806::
 485∘lT "__init__" "DeedRow.__init__" 23 0 484::
 494∘DI #[Ņ P 793,FL P 797 179 796,ER P "__init__" 808 485,ER P "shown" 815 492,SA P 819 493,DO P 820] 2::
 495∘CX "DeedRow" 495 494 [.ref 94] [.ref 94,.type "object"] [] (Xb (.ref 472)) 786 794 "object.__new__"::
 510∘CO "__init__" "Program.__init__" 835 191 4 505 842::
 511∘lT "__init__" "Program.__init__" 24 0 510::
 513∘DI #[Ņ P 830,FL P 834 189 833,ER P "__init__" 844 511,SA P 848 512,ER P "__dict__" 850 515,ER P "__weakref__" 852 516,DO P 853] 4::
 514∘CX "Program" 514 513 [.type "object"] [.type "object"] [] Xc 823 831 "object.__new__"::
 (nat_lit 515,{(.type "getset_descriptor"),Xc,.fields #[(.str "__dict__" 849),(.ref 514),(.builtin "function.__dict__"),(.builtin "function.__dict__#set")],#[]})::
 516∘WR "__weakref__" 851 514 "ExceptionGroup.__weakref__"::
 (nat_lit 522,{(.type "code"),Xc,.fields #[(.str "most_of" 858),(.str "most_of" 859),(.str "/claim/cut.py" 860),(.int (196) 0),(.int (2) 0),(.int (0) 0),(.int (0) 0),(.int (3) 0),(.ref 519),(.bool true),(.int (181) 0),(.ref 520),.none,.none,.none,(.ref 521),(.int (861) 0),(.int (196) 0),(.str "/claim/cut.py" 862)],#[]})::
 523∘ϥ "most_of" 26 522::
 529∘CO "most_of_row" "most_of_row" 864 198 2 524 871::
 530∘ϥ "most_of_row" 27 529::
 536∘CO "exact_of" "exact_of" 874 208 2 531 882::
 537∘ϥ "exact_of" 28 536::
 543∘CO "exact_of_row" "exact_of_row" 885 216 2 538 890::
 544∘ϥ "exact_of_row" 29 543::
 550∘CO "one_more" "one_more" 893 224 1 545 897::
 551∘ϥ "one_more" 30 550::
 557∘CO "exact_of_if" "exact_of_if" 900 226 2 552 907::
 558∘ϥ "exact_of_if" 31 557::
 564∘CO "exact_of_loop" "exact_of_loop" 910 232 2 559 916::
 565∘ϥ "exact_of_loop" 32 564::
 571∘CO "balanced" "balanced" 919 237 2 566 924::
 572∘ϥ "balanced" 33 571::
 578∘CO "mosts" "mosts" 927 239 1 573 933::
 579∘ϥ "mosts" 34 578::
 585∘CO "exacts" "exacts" 936 244 1 580 942::
 586∘ϥ "exacts" 35 585::
 592∘CO "row_place" "row_place" 949 251 1 587 953::
 593∘F9T "row_place" 38 592::
 599∘CO "laid_rows" "laid_rows" 956 253 3 594 964::
 600∘F9T "laid_rows" 39 599::
 606∘CO "laid_inside" "laid_inside" 967 259 2 601 973::
 607∘F9T "laid_inside" 40 606::
 613∘CO "laid_program" "laid_program" 976 266 1 608 982::
 614∘F9T "laid_program" 41 613::
 620∘CO "is_place" "is_place" 985 271 1 615 989::
 621∘F9T "is_place" 42 620::
 627∘CO "head_places" "head_places" 992 273 1 622 998::
 628∘F9T "head_places" 43 627::
 634∘CO "places" "places" 1001 279 1 629 1010::
 635∘F9T "places" 44 634::
 (nat_lit 639,{(.type "code"),Xc,.fields #[(.str "drawn" 1015),(.str "drawn" 1016),(.str "/claim/cut.py" 1017),(.int (288) 0),(.int (4) 0),(.int (0) 0),(.int (0) 0),(.int (3) 0),(.ref 636),(.bool true),(.int (181) 0),(.ref 637),.none,.none,.none,(.ref 638),(.int (1018) 0),(.int (288) 0),(.str "/claim/cut.py" 1019)],#[]})::
 640∘Gz "drawn" 46 639::
 646∘CO "row_links" "row_links" 1021 290 4 641 1029::
 647∘Gz "row_links" 47 646::
 653∘CO "said_links" "said_links" 1032 303 2 648 1038::
 654∘Gz "said_links" 48 653::
 660∘CO "called_links" "called_links" 1041 307 3 655 1051::
 661∘Gz "called_links" 49 660::
 667∘CO "step_links" "step_links" 1054 315 2 662 1060::
 668∘Gz "step_links" 50 667::
 (nat_lit 669,{(.type "tuple"),Xc,.seq #[(.bool false)] 0,#[]})::
 (nat_lit 673,{(.type "code"),Xc,.fields #[(.str "links" 1063),(.str "links" 1064),(.str "/claim/cut.py" 1065),(.int (322) 0),(.int (2) 0),(.int (0) 0),(.int (0) 0),(.int (3) 0),(.ref 670),(.bool true),(.int (181) 0),(.ref 671),.none,.none,.none,(.ref 672),(.int (1066) 0),(.int (322) 0),(.str "/claim/cut.py" 1067)],#[]})::
 674∘FD "links" "links" (top 51) 669 "hushrow.links" 1013 673::
 (nat_lit 678,{(.type "code"),Xc,.fields #[(.str "sources" 1071),(.str "sources" 1072),(.str "/claim/cut.py" 1073),(.int (332) 0),(.int (1) 0),(.int (0) 0),(.int (0) 0),(.int (3) 0),(.ref 675),(.bool true),(.int (181) 0),(.ref 676),.none,.none,.none,(.ref 677),(.int (1074) 0),(.int (332) 0),(.str "/claim/cut.py" 1075)],#[]})::
 679∘IG "sources" 53 678::
 (nat_lit 683,{(.type "code"),Xc,.fields #[(.str "sources_of" 1077),(.str "sources_of" 1078),(.str "/claim/cut.py" 1079),(.int (334) 0),(.int (2) 0),(.int (0) 0),(.int (0) 0),(.int (3) 0),(.ref 680),(.bool true),(.int (181) 0),(.ref 681),.none,.none,.none,(.ref 682),(.int (1080) 0),(.int (334) 0),(.str "/claim/cut.py" 1081)],#[]})::
 684∘IG "sources_of" 54 683::
 (nat_lit 688,{(.type "code"),Xc,.fields #[(.str "ways_of" 1083),(.str "ways_of" 1084),(.str "/claim/cut.py" 1085),(.int (336) 0),(.int (2) 0),(.int (0) 0),(.int (0) 0),(.int (3) 0),(.ref 685),(.bool true),(.int (181) 0),(.ref 686),.none,.none,.none,(.ref 687),(.int (1086) 0),(.int (336) 0),(.str "/claim/cut.py" 1087)],#[]})::
 689∘IG "ways_of" 55 688::
 (nat_lit 693,{(.type "code"),Xc,.fields #[(.str "arrivals" 1089),(.str "arrivals" 1090),(.str "/claim/cut.py" 1091),(.int (341) 0),(.int (2) 0),(.int (0) 0),(.int (0) 0),(.int (3) 0),(.ref 690),(.bool true),(.int (181) 0),(.ref 691),.none,.none,.none,(.ref 692),(.int (1092) 0),(.int (341) 0),(.str "/claim/cut.py" 1093)],#[]})::
 694∘IG "arrivals" 56 693::
 (nat_lit 695,{(.type "tuple"),Xc,.seq #[(.bool false)] 0,#[]})::
 (nat_lit 699,{(.type "code"),Xc,.fields #[(.str "table" 1095),(.str "table" 1096),(.str "/claim/cut.py" 1097),(.int (353) 0),(.int (2) 0),(.int (0) 0),(.int (0) 0),(.int (3) 0),(.ref 696),(.bool true),(.int (181) 0),(.ref 697),.none,.none,.none,(.ref 698),(.int (1098) 0),(.int (353) 0),(.str "/claim/cut.py" 1099)],#[]})::
 700∘FD "table" "table" (top 57) 695 "hushrow.reach" 1069 699::
 706∘CO "rows_above" "rows_above" 1103 361 2 701 1113::
 707∘yI "rows_above" 59 706::
 (nat_lit 708,{(.type "tuple"),Xc,.seq #[(.int (0) 1116)] 0,#[]})::
 (nat_lit 712,{(.type "code"),Xc,.fields #[(.str "uneven" 1117),(.str "uneven" 1118),(.str "/claim/cut.py" 1119),(.int (369) 0),(.int (2) 0),(.int (0) 0),(.int (0) 0),(.int (3) 0),(.ref 709),(.bool true),(.int (181) 0),(.ref 710),.none,.none,.none,(.ref 711),(.int (1120) 0),(.int (369) 0),(.str "/claim/cut.py" 1121)],#[]})::
 713∘FD "uneven" "uneven" (top 60) 708 "hushrow.evening" 1101 712::
 (nat_lit 714,{(.type "tuple"),Xc,.seq #[(.int (0) 1123)] 0,#[]})::
 (nat_lit 718,{(.type "code"),Xc,.fields #[(.str "evened" 1124),(.str "evened" 1125),(.str "/claim/cut.py" 1126),(.int (372) 0),(.int (2) 0),(.int (0) 0),(.int (0) 0),(.int (3) 0),(.ref 715),(.bool true),(.int (181) 0),(.ref 716),.none,.none,.none,(.ref 717),(.int (1127) 0),(.int (372) 0),(.str "/claim/cut.py" 1128)],#[]})::
 719∘FD "evened" "evened" (top 61) 714 "hushrow.evening" 1101 718::
 725∘CO "head_copy" "head_copy" 1130 378 1 720 1134::
 726∘yI "head_copy" 62 725::
 732∘CO "deed_copy" "deed_copy" 1137 386 3 727 1143::
 733∘yI "deed_copy" 63 732::
 (nat_lit 737,{(.type "code"),Xc,.fields #[(.str "rows_evened" 1146),(.str "rows_evened" 1147),(.str "/claim/cut.py" 1148),(.int (388) 0),(.int (3) 0),(.int (0) 0),(.int (0) 0),(.int (3) 0),(.ref 734),(.bool true),(.int (181) 0),(.ref 735),.none,.none,.none,(.ref 736),(.int (1149) 0),(.int (388) 0),(.str "/claim/cut.py" 1150)],#[]})::
 738∘yI "rows_evened" 64 737::
 744∘CO "row_evened" "row_evened" 1152 390 3 739 1158::
 745∘yI "row_evened" 65 744::
 751∘CO "plain_copy" "plain_copy" 1161 396 1 746 1165::
 752∘yI "plain_copy" 66 751::
 758∘CO "if_evened" "if_evened" 1168 408 3 753 1180::
 759∘yI "if_evened" 67 758::
 765∘CO "loop_evened" "loop_evened" 1183 419 3 760 1192::
 766∘yI "loop_evened" 68 765::
 772∘CO "_law_cell_at" "_law_cell_at" 1197 428 2 767 1202::
 773∘gW "_law_cell_at" 70 772::
 779∘CO "_law_mix" "_law_mix" 1205 432 2 774 1213::
 780∘gW "_law_mix" 71 779::
 786∘CO "_law_name" "_law_name" 1216 442 2 781 1227::
 787∘gW "_law_name" 72 786::
 793∘CO "_law_number" "_law_number" 1230 455 1 788 1234::
 794∘gW "_law_number" 73 793::
 800∘CO "_law_thing" "_law_thing" 1237 461 2 795 1242::
 801∘gW "_law_thing" 74 800::
 807∘CO "_law_value" "_law_value" 1245 467 3 802 1253::
 808∘gW "_law_value" 75 807::
 814∘CO "_law_kind" "_law_kind" 1256 475 4 809 1265::
 815∘gW "_law_kind" 76 814::
 (nat_lit 819,{(.type "code"),Xc,.fields #[(.str "_law_plain" 1268),(.str "_law_plain" 1269),(.str "/claim/cut.py" 1270),(.int (485) 0),(.int (3) 0),(.int (0) 0),(.int (0) 0),(.int (3) 0),(.ref 816),(.bool true),(.int (181) 0),(.ref 817),.none,.none,.none,(.ref 818),(.int (1271) 0),(.int (485) 0),(.str "/claim/cut.py" 1272)],#[]})::
 820∘gW "_law_plain" 77 819::
 826∘CO "_law_cost" "_law_cost" 1274 503 2 821 1283::
 827∘gW "_law_cost" 78 826::
 833∘CO "_law_two" "_law_two" 1286 517 5 828 1295::
 834∘gW "_law_two" 79 833::
 840∘CO "_law_idles" "_law_idles" 1298 522 4 835 1308::
 841∘gW "_law_idles" 80 840::
 847∘CO "_law_block" "_law_block" 1311 529 5 842 1326::
 848∘gW "_law_block" 81 847::
 854∘CO "_law_nodes" "_law_nodes" 1329 545 3 849 1338::
 855∘gW "_law_nodes" 82 854::
 861∘CO "_law_made" "_law_made" 1341 557 1 856 1348::
 862∘gW "_law_made" 83 861::
 868∘CO "_law_heads" "_law_heads" 1351 578 2 863 1358::
 869∘gW "_law_heads" 84 868::
 (nat_lit 873,{(.type "code"),Xc,.fields #[(.str "_law_drawn" 1361),(.str "_law_drawn" 1362),(.str "/claim/cut.py" 1363),(.int (589) 0),(.int (1) 0),(.int (0) 0),(.int (0) 0),(.int (3) 0),(.ref 870),(.bool true),(.int (181) 0),(.ref 871),.none,.none,.none,(.ref 872),(.int (1364) 0),(.int (589) 0),(.str "/claim/cut.py" 1365)],#[]})::
 874∘gW "_law_drawn" 85 873::
 880∘CO "_law_program" "_law_program" 1367 613 2 875 1377::
 881∘gW "_law_program" 86 880::
 887∘CO "_law_blocks" "_law_blocks" 1380 618 1 882 1386::
 888∘gW "_law_blocks" 87 887::
 894∘CO "_law_all_blocks" "_law_all_blocks" 1389 626 1 889 1395::
 895∘gW "_law_all_blocks" 88 894::
 901∘CO "_law_ways" "_law_ways" 1398 631 2 896 1403::
 902∘gW "_law_ways" 89 901::
 908∘CO "_law_long" "_law_long" 1406 635 2 903 1416::
 909∘gW "_law_long" 90 908::
 915∘CO "_law_known" "_law_known" 1419 646 1 910 1425::
 916∘gW "_law_known" 91 915::
 (nat_lit 920,{(.type "code"),Xc,.fields #[(.str "_law_waits" 1428),(.str "_law_waits" 1429),(.str "/claim/cut.py" 1430),(.int (651) 0),(.int (1) 0),(.int (0) 0),(.int (0) 0),(.int (3) 0),(.ref 917),(.bool true),(.int (181) 0),(.ref 918),.none,.none,.none,(.ref 919),(.int (1431) 0),(.int (651) 0),(.str "/claim/cut.py" 1432)],#[]})::
 921∘gW "_law_waits" 92 920::
 (nat_lit 925,{(.type "code"),Xc,.fields #[(.str "_law_mosts" 1434),(.str "_law_mosts" 1435),(.str "/claim/cut.py" 1436),(.int (653) 0),(.int (1) 0),(.int (0) 0),(.int (0) 0),(.int (3) 0),(.ref 922),(.bool true),(.int (181) 0),(.ref 923),.none,.none,.none,(.ref 924),(.int (1437) 0),(.int (653) 0),(.str "/claim/cut.py" 1438)],#[]})::
 926∘gW "_law_mosts" 93 925::
 (nat_lit 930,{(.type "code"),Xc,.fields #[(.str "law" 1440),(.str "law" 1441),(.str "/claim/cut.py" 1442),(.int (656) 0),(.int (1) 0),(.int (0) 0),(.int (0) 0),(.int (3) 0),(.ref 927),(.bool true),(.int (181) 0),(.ref 928),.none,.none,.none,(.ref 929),(.int (1443) 0),(.int (656) 0),(.str "/claim/cut.py" 1444)],#[]})::
 (nat_lit 931,gW "law" 94 930)::[]
def rZ:List Q1:=[2,3,27,28,34,35,41,42,48,49,55,56,62,63,76,77,93,94,95,96,111,112,121,122,137,138,147,148,163,164,173,174,189,190,199,200,215,216,229,230,239,240,255,256,269,270,279,280,295,296,309,310,312,313,328,329,352,353,368,369,383,384,402,403,418,419,432,433,435,436,451,452,465,466,468,469,484,485,494,495,510,511,513,514,515,516,522,523,529,530,536,537,543,544,550,551,557,558,564,565,571,572,578,579,585,586,592,593,599,600,606,607,613,614,620,621,627,628,634,635,639,640,646,647,653,654,660,661,667,668,669,673,674,678,679,683,684,688,689,693,694,695,699,700,706,707,708,712,713,714,718,719,725,726,732,733,737,738,744,745,751,752,758,759,765,766,772,773,779,780,786,787,793,794,800,801,807,808,814,815,819,820,826,827,833,834,840,841,847,848,854,855,861,862,868,869,873,874,880,881,887,888,894,895,901,902,908,909,915,916,920,921,925,926,930,931]
theorem kF(P:SI):rZ=(ý P).map (·.1):=by kernel_rfl
abbrev prog:Program:=PySem.Challenge.pw_hushrow_k52_evened_again
abbrev law:VU:=PySem.Challenge.rw_hushrow_k52_evened_again
def gX:Program:={ prog with main:={ prog.main with body:=[top 0,top 2,top 3,top 4,top 5,top 7,top 9,top 10,top 11,top 12,top 13,top 14,top 15,top 16,top 17,top 18,top 19,top 20,top 21,top 22,top 23,top 24,top 26,top 27,top 28,top 29,top 30,top 31,top 32,top 33,top 34,top 35,top 37,top 38,top 39,top 40,top 41,top 42,top 43,top 44,top 46,top 47,top 48,top 49,top 50,top 53,top 54,top 55,top 56,top 59,top 62,top 63,top 64,top 65,top 66,top 67,top 68,top 70,top 71,top 72,top 73,top 74,top 75,top 76,top 77,top 78,top 79,top 80,top 81,top 82,top 83,top 84,top 85,top 86,top 87,top 88,top 89,top 90,top 91,top 92,top 93,top 94] } }
abbrev hook:W.Hook:=VB ý rZ kF
abbrev test:Q3->Bool:=λs=>xlAt gX [] s&&recOk (RowW.records law.row.toRowW) s
abbrev Mx:Q3->List (Option Obj):=λs=>rZ.map s.heap.get?
abbrev NG:Rh->List (Option Obj):=λw=>(ý w.params).map λp=>Xb p.2
def T₀(P:SI):BT:=Hd.treeOf (Um P).objs.toList 0 .nil
def lookL(w:Rh)(os:Sk):=(Hd.mr RJ prog w 11 (Xb (.ref 6)) 13448 {T₀ w.params,11,{},Qc [],Ts,TX,os} (SJ prog)).map λs=>Hd.FG prog (Um w.params) s.abs
def lookO(w:Rh)(os:Sk):=(Hd.mr RJ prog w 11 (Xb (.ref 6)) 13448 {T₀ w.params,11,{},Qc [],Ts,TX,os} (SJ prog)).map λs=>(S1 gX ["links","table","uneven","evened"] (Rx prog.main.body) test true s.abs).1
def lookY(w:Rh)(os:Sk):=(Hd.mr RJ prog w 11 (Xb (.ref 6)) 13448 {T₀ w.params,11,{},Qc [],Ts,TX,os} (SJ prog)).map λs=>(S1 gX ["links","table","uneven","evened"] (Rx prog.main.body) test true s.abs).2.1
def lookW(w:Rh)(os:Sk):=(Hd.mr RJ prog w 11 (Xb (.ref 6)) 13448 {T₀ w.params,11,{},Qc [],Ts,TX,os} (SJ prog)).map λs=>(S1 gX ["links","table","uneven","evened"] (Rx prog.main.body) test true s.abs).2.2.1
def lookX(w:Rh)(os:Sk):=(Hd.mr RJ prog w 11 (Xb (.ref 6)) 13448 {T₀ w.params,11,{},Qc [],Ts,TX,os} (SJ prog)).map λs=>(S1 gX ["links","table","uneven","evened"] (Rx prog.main.body) test true s.abs).2.2.2.1
def lookU(w:Rh)(os:Sk):=(Hd.mr RJ prog w 11 (Xb (.ref 6)) 13448 {T₀ w.params,11,{},Qc [],Ts,TX,os} (SJ prog)).map λs=>(S1 gX ["links","table","uneven","evened"] (Rx prog.main.body) test true s.abs).2.2.2.2
def lookM(w:Rh)(os:Sk):=(Hd.mr RJ prog w 11 (Xb (.ref 6)) 13448 {T₀ w.params,11,{},Qc [],Ts,TX,os} (SJ prog)).map λs=>Mx s.abs
def lookS(w:Rh)(os:Sk):=Xb (NG w)
def vF(w:Rh)(os:Sk):=Xb true
def lookQ(w:Rh)(os:Sk):=Xb (Ul gX ["links","table","uneven","evened"]).1
def lookB(w:Rh)(os:Sk):=Xb (Ul gX ["links","table","uneven","evened"]).2.1
def lookV(w:Rh)(os:Sk):=Xb (Ul gX ["links","table","uneven","evened"]).2.2.2.2
theorem lookQ_self:lookQ=lookQ:=rfl
theorem lookB_self:lookB=lookB:=rfl
theorem lookV_self:lookV=lookV:=rfl
theorem lookL_self:lookL=lookL:=rfl
theorem lookO_self:lookO=lookO:=rfl
theorem lookY_self:lookY=lookY:=rfl
theorem lookW_self:lookW=lookW:=rfl
theorem lookX_self:lookX=lookX:=rfl
theorem lookU_self:lookU=lookU:=rfl
theorem lookM_self:lookM=lookM:=rfl
theorem lookS_self:lookS=lookS:=rfl
end K52
def PySem.W.Fast.tw14598715356260435866:PySem.Params->PySem.Obj:=VW
theorem PySem.W.Fast.te14598715356260435866:VW=PySem.W.Fast.tw14598715356260435866:=rfl
def PySem.W.Fast.tw3992980815567644201:PySem.Program:=PySem.Challenge.pw_hushrow_k52_evened_again
theorem PySem.W.Fast.te3992980815567644201:PySem.Challenge.pw_hushrow_k52_evened_again=PySem.W.Fast.tw3992980815567644201:=rfl
def PySem.W.Fast.tw13620178826437604000:PySem.Params->Tf:=K52.ý
theorem PySem.W.Fast.te13620178826437604000:K52.ý=PySem.W.Fast.tw13620178826437604000:=rfl
lay_quick K52.lookQ K52.lookB K52.lookV K52.lookL K52.lookO K52.lookY K52.lookW K52.lookX K52.lookU K52.lookM K52.lookS
name_quick K52lookQ for K52.lookQ by K52.lookQ_self
name_quick K52lookB for K52.lookB by K52.lookB_self
name_quick K52lookV for K52.lookV by K52.lookV_self
name_quick K52lookL for K52.lookL by K52.lookL_self
name_quick K52lookO for K52.lookO by K52.lookO_self
name_quick K52lookY for K52.lookY by K52.lookY_self
name_quick K52lookW for K52.lookW by K52.lookW_self
name_quick K52lookX for K52.lookX by K52.lookX_self
name_quick K52lookU for K52.lookU by K52.lookU_self
name_quick K52lookM for K52.lookM by K52.lookM_self
name_quick K52lookS for K52.lookS by K52.lookS_self
namespace K52
open PySem L2 PySem.W
theorem xB:W.Fast.K52lookY=W.Fast.K52lookB:=by kernel_rfl
theorem zG:lookY=lookB:=W.Fast.K52lookY_eq.trans (xB.trans W.Fast.K52lookB_eq.symm)
theorem ye:W.Fast.K52lookM=W.Fast.K52lookS:=by kernel_rfl
theorem zU:lookM=lookS:=W.Fast.K52lookM_eq.trans (ye.trans W.Fast.K52lookS_eq.symm)
theorem xG:W.Fast.K52lookO=W.Fast.K52lookQ:=by kernel_rfl
theorem zi:lookO=lookQ:=W.Fast.K52lookO_eq.trans (xG.trans W.Fast.K52lookQ_eq.symm)
theorem xr:W.Fast.K52lookU=W.Fast.K52lookV:=by kernel_rfl
theorem zH:lookU=lookV:=W.Fast.K52lookU_eq.trans (xr.trans W.Fast.K52lookV_eq.symm)
theorem zJ:W.Fast.K52lookL=vF:=by kernel_rfl
theorem A0:lookL=vF:=W.Fast.K52lookL_eq.trans zJ
theorem yi:W.Fast.K52lookW=vF:=by kernel_rfl
theorem yX:lookW=vF:=W.Fast.K52lookW_eq.trans yi
theorem xv:W.Fast.K52lookX=vF:=by kernel_rfl
theorem zh:lookX=vF:=W.Fast.K52lookX_eq.trans xv
theorem Ht(P:SI):absHeap (T₀ P) 11 {}=Um P:=by kernel_rfl
theorem Ia(w:Rh):((Um w.params).isNs Rm&&(Qc []:Array Uk).size==0,(Um w.params).objs.size,(Um w.params).nsMap Rm "__annotations__")=(true,11,Xb (.ref 6)):=by kernel_rfl
theorem left:LeftO prog gX ["links","table","uneven","evened"] test hook.obs hook.val 13448:=Hd.ET (boot_open (p:=prog) (N:=13448) (by kernel_rfl) rfl (λ_=>rfl)) Ia Ht (λw os=>congrFun (congrFun A0 w) os) (λw os=>congrFun (congrFun zi w) os) (λw os=>congrFun (congrFun zG w) os) (λw os=>congrFun (congrFun yX w) os) (λw os=>congrFun (congrFun zh w) os) (λw os=>congrFun (congrFun zH w) os) (λw os=>congrFun (congrFun zU w) os)
end K52
namespace L2
open PySem PySem.Spec PyProof.Rows
abbrev Key:=Sum Int Str
def vI:Key->Q0->Bool
 | .inl k,v=>Wa k v
 | .inr x,v=>Vd x v
def M0(w:Rh):Key->Int
 | .inl k=>hashInt k
 | .inr x=>hashStr w x
theorem dh:∀{k:Key}{v:Q0},vI k v=true->(∃i t,k=Pl i/\v=Sx i t)\/(∃x t,k=Oz x/\v=U0 x t)
 | .inl i,v,h=>by
  obtain⟨t,e⟩:=VC (k:=i) (v:=v) h;exact .inl ⟨i,t,rfl,e⟩
 | .inr x,v,h=>by
  obtain⟨t,e⟩:=U6 (x:=x) (v:=v) h;exact .inr ⟨x,t,rfl,e⟩
theorem DB(i:Int)(t:Tok):vI (.inl i) (.int i t)=true:=by simp[vI,Wa]
theorem C8(x:Str)(t:Tok):vI (.inr x) (.str x t)=true:=by simp[vI,Vd]
theorem Kw(a b:Int):decide ((Pl a:Key)=Pl b)=(a==b):=by
 by_cases e:a=b
 ·subst e;simp
 have h:¬ (Pl a:Key)=Pl b:=λq=>e (Pl.inj q);rw[decide_eq_false h];exact(beq_eq_false_iff_ne.mpr e).symm
theorem JV(a b:Str):decide ((Oz a:Key)=Oz b)=decide (a=b):=by
 by_cases e:a=b
 ·subst e;simp
 have h:¬ (Oz a:Key)=Oz b:=λq=>e (Oz.inj q);rw[decide_eq_false h,decide_eq_false e]
theorem KA(a:Int)(b:Str):decide ((Pl a:Key)=Oz b)=false:=decide_eq_false (λq=>nomatch q)
theorem JU(a:Str)(b:Int):decide ((Oz a:Key)=Pl b)=false:=decide_eq_false (λq=>nomatch q)
def cw(prog:Program)(w:Rh):PySem.KeyKind prog w Key where
 is:=vI
 hash:=M0 w
 inj:=λv a b ha hb=>by
  rcases dh ha with⟨i,t,rfl,rfl⟩|⟨x,t,rfl,rfl⟩
  ·rcases dh hb with⟨j,u,rfl,e⟩|⟨y,u,rfl,e⟩
   ·injection e with e1 _;rw[e1]
   exact nomatch e
  rcases dh hb with⟨j,u,rfl,e⟩|⟨y,u,rfl,e⟩
  ·exact nomatch e
  injection e with e1 _;rw[e1]
 byValue:=λk v h=>by
  rcases dh h with⟨i,t,rfl,rfl⟩|⟨x,t,rfl,rfl⟩<;>rfl
 pyHash:=λhv h=>by
  rcases dh hv with⟨i,t,rfl,rfl⟩|⟨x,t,rfl,rfl⟩
  ·exact wpAny_pyHash_int h
  exact wpAny_pyHash_str h
 eqBool:=λhu hv h=>by
  rcases dh hu with⟨i,t,rfl,rfl⟩|⟨x,t,rfl,rfl⟩
  ·rcases dh hv with⟨j,u,rfl,rfl⟩|⟨y,u,rfl,rfl⟩
   ·rw[Kw]at h;exact wpAny_eqBool_int h
   rw[KA]at h;exact Vi i t y u _ _ _ _ h
  rcases dh hv with⟨j,u,rfl,rfl⟩|⟨y,u,rfl,rfl⟩
  ·rw[JU]at h;exact Vj x t j u _ _ _ _ h
  rw[JV]at h;exact wpAny_eqBool_str h
 «strs»:=λk x t v h=>by
  rcases dh h with⟨i,u,rfl,e⟩|⟨y,u,rfl,e⟩
  ·exact nomatch e
  injection e with e1 _;subst e1;cases v<;>rfl
theorem yC(prog:Program)(w:Rh)(i:Int)(t:Tok):(cw prog w).is (.inl i) (.int i t)=true:=DB i t
theorem zE(prog:Program)(w:Rh)(x:Str)(t:Tok):(cw prog w).is (.inr x) (.str x t)=true:=C8 x t
inductive V where
 |Ê|bl (b:Bool)|int (i:Int)|str (x:Str)|Ĭ (b:Array UInt8)|Θ (b:UInt64)|ref (a:Q1)|ty (n:String)
 deriving DecidableEq
def Xh:V->Q0->Prop
 | .Ê,u=>u=Tt
 | .bl b,u=>u=Vk b
 | .int i,u=>∃t,u=Sx i t
 | .str x,u=>∃t,u=U0 x t
 | .Ĭ b,u=>∃t,u=Value.bytes b t
 | .Θ b,u=>∃t,u=Wb b t
 | .ref a,u=>u=Rn a
 | .ty n,u=>u=Sd n
abbrev Xf:List V->List Q0->Prop:=Paired Xh
theorem Xf.length{xs:List V}{us:List Q0}(r:Xf xs us):xs.length=us.length:=Q7 r
theorem gk{α β:Type}{F:α->β->Prop}{l:List α}{m:List β}(h:Paired F l m):∀{i:Nat}{a:α},l[i]?=Xb a->∃b,m[i]?=Xb b/\F a b:=by
 induction h with
 |nil=>intro i a e;cases e
 |cons r _ ih=>
  intro i a e;cases i with
  |zero=>cases e;exact{_,rfl,r}
  |succ i=>exact ih (i:=i) e
theorem CZ{α β:Type}{F:α->β->Prop}{x:α}{y:β}(h:F x y){i:Nat}{xs:List α}{ys:List β}(r:Paired F xs ys):Paired F (xs.set i x) (ys.set i y):=by
 induction r generalizing i with
 |nil=>exact .nil
 |cons q t ih=>
  cases i with
  |zero=>exact .cons h t
  |succ i=>exact .cons q ih
theorem zj{α β:Type}{F:α->β->Prop}{l:List α}{m:List β}(t:Nat)(h:Paired F l m):Paired F (l.take t) (m.take t):=by
 induction h generalizing t with
 |nil=>cases t<;>exact .nil
 |cons q _ ih=>
  cases t with
  |zero=>exact .nil
  |succ t=>exact .cons q (ih t)
theorem zL{α β:Type}{F:α->β->Prop}{l:List α}{m:List β}(t:Nat)(h:Paired F l m):Paired F (l.drop t) (m.drop t):=by
 induction h generalizing t with
 |nil=>cases t<;>exact .nil
 |cons q r ih=>
  cases t with
  |zero=>exact .cons q r
  |succ t=>exact ih t
theorem AE{α β:Type}{F:α->β->Prop}{xs zs:List α}{ys ws:List β}(h:Paired F xs ys)(g:Paired F zs ws):Paired F (xs++zs) (ys++ws):=by
 induction h with
 |nil=>exact g
 |cons q _ ih=>exact .cons q ih
theorem Xf.get{i:Nat}(h:Xf xs us)(e:xs[i]?=Xb x):∃u,us[i]?=Xb u/\Xh x u:=gk h e
theorem Xf.set(r:Xh x u){xs:List V}{us:List Q0}(i:Nat)(h:Xf xs us):Xf (xs.set i x) (us.set i u):=CZ r h
theorem Xf.append(h:Xf xs us)(g:Xf ys ws):Xf (xs++ys) (us++ws):=AE h g
theorem Xf.take{xs:List V}{us:List Q0}(n:Nat)(h:Xf xs us):Xf (xs.take n) (us.take n):=zj n h
theorem Xf.drop{xs:List V}{us:List Q0}(n:Nat)(h:Xf xs us):Xf (xs.drop n) (us.drop n):=zL n h
theorem Xf.none_of:∀{xs:List V}{us:List Q0}{i:Nat},Xf xs us->xs[i]?=Xc->us[i]?=Xc:=λ{xs us i} r e=>by
 have h1:=r.length;have h2:xs.length<=i:=PY.mp e;exact PY.mpr ()
def oH:Option V->Option Q0->Prop
 |some v,Xb u=>Xh v u
 |none,Xc=>True
 |_,_=>False
def KV{κ:Type}:List (κ×V)->List (κ×Q0)->Prop:=Paired λ(p:κ×V)(q:κ×Q0)=>p.1=q.1/\Xh p.2 q.2
def kV:Key->V
 | .inl i=>.int i
 | .inr x=>.str x
inductive HO where
 |lst (xs:List V)
 |tup (xs:List V)
 |dK (kvs:List (Key×V))|dT (kvs:List (List Key×V))
 |set (S:Int->Bool) (n:Nat)
 |ins (C dx:Q1) (fs:List (Str×V))
 |own (x:Q1)
 |xd (fs:List (Str×V))
 |met (f x:Q1)
 |rng (lo hi:Int)
 |Ć (o:Obj) (u:HO)
 |δ (ps:Array Q0)
 |ext (φ:Rp->Prop)
abbrev Hp:=Q1->Option HO
def upd(H:Hp)(a:Q1)(o:HO):Hp:=λb=>if b=a then Xb o else H b
theorem av{H:Hp}{a:Q1}{o:HO}:upd H a o a=Xb o:=by unfold upd;rw[if_pos rfl]
theorem aM{H:Hp}{a b:Q1}{o:HO}(h:b≠a):upd H a o b=H b:=by unfold upd;rw[if_neg h]
theorem IP{H:Hp}{a:Q1}{o u:HO}:upd (upd H a o) a u=upd H a u:=by
 funext b;unfold upd;split<;>rfl
theorem LW{H:Hp}{a b:Q1}{o u:HO}(h:H a=Xb o)(h':H b=Xb u)(d:o≠u):a≠b:=by
 intro e;subst e;rw[h]at h';exact d (Q9 h')
theorem gp{H:Hp}{a b:Q1}{o:HO}(h:H a=Xb o)(h':H b=Xc):a≠b:=by
 intro e;subst e;rw[h]at h';cases h'
section
variable(P:Program)(w:Rh)
def df(H:Hp)(h:Rp)(a:Q1):HO->Prop
 | .lst xs=>xs.length<=sizeLine/\∃(Â:List Q0)(n:Nat),Xf xs Â/\h.get? a=Xb { cls:=.type "list",data:=.seq Â.toArray n }
 | .tup xs=>xs.length<=sizeLine/\∃Â:List Q0,Xf xs Â/\IsTup h a Â.toArray
 | .dK kvs=>kvs.length<=sizeLine/\(a==Se)=false/\∃vs,KV kvs vs/\h.DictOf (cw P w) a vs
 | .dT kvs=>kvs.length<=sizeLine/\(a==Se)=false/\∃xs:List (List Key×Q1×Q0),
   Paired (λ(p:List Key×V)(q:List Key×Q1×Q0)=>p.1=q.1/\H q.2.1=Xb (.tup (p.1.map kV))/\Xh p.2 q.2.2) kvs xs/\
   ∃o es ep,h.get? a=Xb o/\o.ExactDict/\o.data=.dict es ep/\es.toList=xs.map (entryOfKey (U1 (cw P w)))/\(xs.map (·.1)).Nodup
 | .set S n=>h.SetOf (S5 P w) a S n
 | .ins C dx fs=>H dx=Xb (.own a)/\fs.length<=1000/\dx≠a/\h.get? a=Xb (Tu C dx)/\
   ∃mA,h.Ns1 dx mA/\(∀f,oH (fs.lookup f) (mA f))/\VD mA (fs.map (·.1))
 | .own _=>∃o,h.get? a=Xb o
 | .xd fs=>∃mA,h.Ns1 a mA/\∀f,oH (fs.lookup f) (mA f)
 | .rng lo hi=>∃t u v,h.get? a=Xb { cls:=.type "range",data:=.fields #[.int lo t,.int hi u,.int 1 v] }
 | .Ć o u=>h.get? a=Xb o/\df H h a u
 | .δ ps=>h.get? a=Xb { cls:=.none,data:=.fields ps }
 | .met f x=>h.get? a=Xb (Wc (.ref f) (.ref x))
 | .ext φ=>φ h/\(∃o,h.get? a=Xb o)/\∀h1 h2:Rp,φ h1->(∀o,h1.get? a=Xb o->h2.get? a=Xb o)->φ h2
def Ă(H:Hp)(h:Rp):Prop:=∀a o,H a=Xb o->df P w H h a o
end
section
variable{P:Program}{w:Rh}{H H':Hp}{h h':Rp}{a:Q1}{o:HO}
theorem df.lt(x:df P w H h a o):a<h.objs.size:=by
 cases o with
 |lst xs=>obtain⟨_,_,_,_,e⟩:=x;exact Rc e
 |tup xs=>obtain⟨_,_,_,p⟩:=x;exact p.lt
 |dK kvs=>obtain⟨_,_,_,_,o,_,_,e,_⟩:=x;exact Rc e
 |dT kvs=>obtain⟨_,_,_,_,o,_,_,e,_⟩:=x;exact Rc e
 |set S n=>obtain⟨o,_,_,_,e,_⟩:=x;exact Rc e
 |ins C dx fs=>obtain⟨_,_,_,e,_⟩:=x;exact Rc e
 |own y=>obtain⟨_,e⟩:=x;exact Rc e
 |xd fs=>obtain⟨_,⟨_,_,_,e,_⟩,_⟩:=x;exact Rc e
 |rng lo hi=>obtain⟨_,_,_,e⟩:=x;exact Rc e
 |Ć ob u=>obtain⟨e,_⟩:=x;exact Rc e
 |δ ps=>exact Rc (show h.get? a=Xb _ from x)
 |met f y=>exact Rc (show h.get? a=Xb _ from x)
 |ext φ=>obtain⟨_,⟨_,e⟩,_⟩:=x;exact Rc e
theorem Paired.eX{α β:Type}{F G:α->β->Prop}{l₁:List α}{l₂:List β}(h:Paired F l₁ l₂)(f:∀a b,F a b->G a b):Paired G l₁ l₂:=by
 induction h with
 |nil=>exact .nil
 |cons q _ ih=>exact .cons (f _ _ q) ih
theorem df.vv(x:df P w H h a o)(k:∀b u,(b=a\/H b=Xb (.own a))->h.get? b=Xb u->h'.get? b=Xb u)
  (ho:∀b,H b=Xb (.own a)->H' b=Xb (.own a)) (ht:∀b xs,H b=Xb (.tup xs)->H' b=Xb (.tup xs)):df P w H' h' a o:=by
 induction o with
 |lst xs=>obtain⟨z,Â,n,r,e⟩:=x;exact{z,Â,n,r,k _ _ (.inl rfl) e}
 |tup xs=>obtain⟨z,Â,r,ob,e,c⟩:=x;exact{z,Â,r,ob,k _ _ (.inl rfl) e,c}
 |dK kvs=>obtain⟨z,y,vs,r,ob,es,ep,e,c⟩:=x;exact{z,y,vs,r,ob,es,ep,k _ _ (.inl rfl) e,c}
 |dT kvs=>
  obtain⟨z,y,xs,r,ob,es,ep,e,c⟩:=x
  exact{z,y,xs,Paired.eX r λp q z=>{z.1,ht _ _ z.2.1,z.2.2},ob,es,ep,k _ _ (.inl rfl) e,c}
 |set S n=>obtain⟨ob,es,ep,t,e,c⟩:=x;exact{ob,es,ep,t,k _ _ (.inl rfl) e,c}
 |ins C dx fs=>
  obtain⟨d,z,ne,e,mA,⟨od,es,ep,e2,c⟩,r⟩:=x
  exact{ho _ d,z,ne,k _ _ (.inl rfl) e,mA,{od,es,ep,k _ _ (.inr d) e2,c},r}
 |own y=>obtain⟨ob,e⟩:=x;exact{ob,k _ _ (.inl rfl) e}
 |xd fs=>obtain⟨mA,⟨od,es,ep,e,c⟩,r⟩:=x;exact{mA,{od,es,ep,k _ _ (.inl rfl) e,c},r}
 |rng lo hi=>obtain⟨t,u,v,e⟩:=x;exact{t,u,v,k _ _ (.inl rfl) e}
 |Ć ob u ih=>obtain⟨e,q⟩:=x;exact{k _ _ (.inl rfl) e,ih q}
 |δ ps=>
  have e:h.get? a=Xb { cls:=.none,data:=.fields ps }:=x
  show h'.get? a=Xb { cls:=.none,data:=.fields ps }
  exact k a _ (.inl rfl) e
 |met f y=>
  have e:h.get? a=Xb (Wc (.ref f) (.ref y)):=x
  show h'.get? a=Xb (Wc (.ref f) (.ref y))
  exact k a _ (.inl rfl) e
 |ext φ=>obtain⟨p,⟨o,e⟩,st⟩:=x;exact{st _ _ p λo q=>k _ _ (.inl rfl) q,{o,k _ _ (.inl rfl) e},st}
theorem Ă.lt(x:Ă P w H h)(e:H a=Xb o):a<h.objs.size:=(x a o e).lt
theorem Ă.fresh(x:Ă P w H h)(e:h.objs.size<=a):H a=Xc:=by
 cases q:H a with
 |none=>rfl
 |some u=>exact absurd (OA (x.lt q) e) (OL _)
theorem Ă.kept(x:Ă P w H h)(k:∀b u,h.get? b=Xb u->h'.get? b=Xb u):Ă P w H h':=λa o e=>
 (x a o e).vv (λb u _ q=>k b u q) (λ_ q=>q) λ_ _ q=>q
theorem Ă.laid(x:Ă P w H h)(k:∀b u,h.get? b=Xb u->h'.get? b=Xb u)(hp:h.objs.size<=a)(new:df P w (upd H a o) h' a o):Ă P w (upd H a o) h':=λb u e=>by
 have hn:=x.fresh hp;by_cases hb:b=a
 ·subst hb;rw[av]at e;cases e;exact new
 rw[aM hb]at e;exact(x b u e).vv (λc v _ q=>k c v q) (λc q=>by rw[aM (gp q hn)];exact q) λc xs q=>by rw[aM (gp q hn)];exact q
end
def Rd(H:Hp)(a:Q1)(u:HO):Prop:=H a=Xb u\/∃o,H a=Xb (.Ć o u)
theorem Rd.ok{P:Program}{w:Rh}{H:Hp}{h:Rp}{a:Q1}{u:HO}(r:Rd H a u)(x:Ă P w H h):df P w H h a u:=by
 rcases r with r|⟨o,r⟩
 ·exact x a u r
 obtain⟨_,q⟩:=x a _ r;exact q
def Mut:Option HO->Prop
 |some (.lst _)=>True
 |some (.dK _)=>True
 |some (.dT _)=>True
 |some (.set _ _)=>True
 |some (.ins _ _ _)=>True
 |some (.ext _)=>True
 |_=>False
section
variable{P:Program}{w:Rh}{H:Hp}{h h':Rp}{x e:Q1}{o':HO}
theorem Ă.write(ok:Ă P w H h)(mu:Mut (H x))(he:e=x\/H e=Xb (.own x))(k:∀b u,b≠e->h.get? b=Xb u->h'.get? b=Xb u)(heo:∃u,h'.get? e=Xb u)
  (new:df P w (upd H x o') h' x o'):Ă P w (upd H x o') h':=λb u q=>by
 have nown:∀c y,H c=Xb (.own y)->c≠x:=λc y r z=>by subst z;rw[r]at mu;exact mu
 have ntup:∀c xs,H c=Xb (.tup xs)->c≠x:=λc xs r z=>by subst z;rw[r]at mu;exact mu
 by_cases hb:b=x
 ·subst hb;rw[av]at q;cases q;exact new
 rw[aM hb]at q
 by_cases hbe:b=e
 ·have q':H b=Xb (.own x):=by
   rcases he with z|z
   ·exact absurd (hbe.trans z) hb
   rw[hbe];exact z
  rw[q]at q';cases q';obtain⟨v,hv⟩:=heo;exact{v,by rw[hbe];exact hv}
 refine(ok b u q).vv (λc v hc r=>k c v ?_ r) (λc r=>by rw[aM (nown c b r)];exact r) λc xs r=>by rw[aM (ntup c xs r)];exact r
 rcases hc with rfl|hc
 ·exact hbe
 rintro rfl
 rcases he with z|z
 ·exact nown c b hc z
 rw[hc]at z;cases z;exact hb rfl
end
structure Un(fs ex:List Q1)(H H':Hp)(h h':Rp):Prop where
 keep:∀b o,h.get? b=Xb o->H b=Xc->b∉fs->b∉ex->h'.get? b=Xb o
 slot:∀b o,h.get? b=Xb o->H b=Xc->b∈fs->b∉ex->∃sl,h'.get? b=Xb { o with slots:=sl }
 free:∀b o,h.get? b=Xb o->H b=Xc->b∉ex->H' b=Xc
 there:∀b o,h.get? b=Xb o->b∉ex->∃o',h'.get? b=Xb o'
 vy:∀b xs,H b=Xb (.tup xs)->H' b=Xb (.tup xs)
 sD:∀b o u,H b=Xb (.Ć o u)->H' b=Xb (.Ć o u)
 vn:∀b ps,H b=Xb (.δ ps)->∃more,H' b=Xb (.δ (ps++more))
section
variable{fs fs' ex ex':List Q1}{H H1 H2:Hp}{h h1 h2 h':Rp}{a x e:Q1}{o:HO}
theorem Un.any(u:Un fs ex H H1 h h1){b:Q1}{ob:Obj}(q:h.get? b=Xb ob)(n:H b=Xc)(hx:b∉ex):∃sl,h1.get? b=Xb { ob with slots:=sl }:=by
 by_cases hb:b∈fs
 ·exact u.slot b ob q n hb hx
 exact⟨ob.slots,u.keep b ob q n hb hx⟩
theorem Un.kept(k:∀b u,h.get? b=Xb u->h'.get? b=Xb u):Un fs ex H H h h':=
 {λb ob q _ _ _=>k b ob q,λb ob q _ _ _=>⟨ob.slots,k b ob q⟩,λ_ _ _ n _=>n,λb ob q _=>⟨ob,k b ob q⟩,λ_ _ q=>q,λ_ _ _ q=>q,λ_ ps q=>{#[],by rw[q];simp}}
theorem Un.refl:Un fs ex H H h h:=Un.kept λ_ _ q=>q
theorem Un.laid(k:∀b u,h.get? b=Xb u->h'.get? b=Xb u)(hp:h.objs.size<=a)(hn:H a=Xc):Un fs ex H (upd H a o) h h' where
 keep:=λb u q _ _ _=>k b u q
 slot:=λb u q _ _ _=>⟨u.slots,k b u q⟩
 free:=λb u q n _=>by rw[aM (OD (OA (Rc q) hp))];exact n
 there:=λb u q _=>⟨u,k b u q⟩
 vy:=λb xs q=>by rw[aM (gp q hn)];exact q
 sD:=λb u xs q=>by rw[aM (gp q hn)];exact q
 vn:=λb ps q=>{#[],by rw[aM (gp q hn),q];simp}
theorem Un.write(mu:Mut (H x))(he:e=x\/H e=Xb (.own x))(k:∀b u,b≠e->h.get? b=Xb u->h'.get? b=Xb u)(heo:∃u,h'.get? e=Xb u):Un fs ex H (upd H x o) h h':=by
 have hx:∀b,H b=Xc->b≠x:=λb n z=>by subst z;rw[n]at mu;exact mu
 have hb:∀b,H b=Xc->b≠e:=λb n z=>by
  subst z;rcases he with r|r
  ·exact hx b n r
  rw[n]at r;cases r
 have hm:∀b u,H b=Xb u->¬ Mut (Xb u)->b≠x:=λb u q nm z=>by subst z;rw[q]at mu;exact nm mu
 refine⟨λb u q n _ _=>k b u (hb b n) q,λb u q n _ _=>{u.slots,k b u (hb b n) q},λb u q n _=>by rw[aM (hx b n)];exact n,λb u q _=>?_,
  λb xs q=>by rw[aM (hm b _ q λz=>z)];exact q,λb u xs q=>by rw[aM (hm b _ q λz=>z)];exact q,λb ps q=>{#[],by rw[aM (hm b _ q λz=>z),q];simp}⟩
 by_cases hbe:b=e
 ·subst hbe;exact heo
 exact⟨u,k b u hbe q⟩
end
def trk(h:Rp)(H:Hp):List Q1:=(Rz h.objs.size).filter λa=>(H a).isSome
def wW(h:Rp)(H:Hp):Rp:=W.hideAll h (trk h H)
theorem Dd(h:Rp)(H:Hp):(wW h H).objs.size=h.objs.size:=W.hideAll_size _ _
theorem Fp{h:Rp}{H:Hp}{b:Q1}{o:Obj}(e:h.get? b=Xb o)(n:H b=Xc):(wW h H).get? b=Xb o:=
 W.hideAll_get _ e λhm=>by
  have q:(H b).isSome=true:=(Ow.mp hm).2;rw[n]at q;simp at q
theorem Hy{h:Rp}{H:Hp}{b:Q1}{o:Obj}(e:(wW h H).get? b=Xb o):h.get? b=Xb o/\H b=Xc:=by
 have e':h.get? b=Xb o:=W.of_hideAll (trk h H) e;refine{e',?_};cases q:H b with
 |none=>rfl
 |some x=>
  have hm:b∈trk h H:=Ow.mpr {Pm.mpr (Rc e'),by simp[q]};have z:(wW h H).get? b=Xc:=W.hideAll_none (trk h H) hm;rw[z]at e;cases e
structure Mod(K:Q6)(mg:Str->Option Q0)(base:Rp):Prop where
 kin:K.In base
 glob:base.Ns Rm mg
 blt:∃mb,base.Ns Uv mb/\∀x:Str,x≠"__name__"->mb x=So x
 nolimit:base.NoLimit
structure Cx where
 prog:Program
 w:Rh
 K:Q6
 mg:Str->Option Q0
 base:Rp
 A:Rv
 N:List Str
 s₀:Q3
 H₀:Hp
 env:Env
 outer:List Env
 stack:List Env
 ex:List Q1
 fn:Str->Bool
 calm:Bool
 pn:List (Q1×Obj)
 xe:Q0->Q3->Prop
def Ŵ(l:List Env):List Q1:=l.filterMap (·.frame)
abbrev Cx.fs(X:Cx):List Q1:=Ŵ X.outer
def Vis(sc:TZ)(x:Str):Prop:=sc.names.lookup x=Xb .local\/sc.names.lookup x=Xb .cell\/sc.names.lookup x=Xb .free
def Loc(sc:TZ)(x:Str):Prop:=sc.names.lookup x=Xb .local\/sc.names.lookup x=Xb .cell
def XC(env:Env)(h:Rp)(m:Str->Option Q0)(x:Str)(u:Q0):Prop:=
 (env.kindOf x=Xb .local/\m x=Xb u)\/((env.kindOf x=Xb .cell\/env.kindOf x=Xb .free)/\∃c,env.cells.lookup x=Xb c/\h.IsCell c (Xb u))
structure Cx.Ok(X:Cx):Prop where
 mod:Mod X.K X.mg X.base
 kind:X.env.scope.kind=.function
 glob:X.env.globals=Rm
 blt:X.env.builtins=Uv
 above:X.s₀.heap.objs.size<=X.env.locals
 inj:∀x y c,X.env.cells.lookup x=Xb c->X.env.cells.lookup y=Xb c->x=y
 has:∀x,(X.env.kindOf x=Xb .cell\/X.env.kindOf x=Xb .free)->∃c,X.env.cells.lookup x=Xb c
 cab:∀x c,X.fn x=true->X.env.cells.lookup x=Xb c->X.s₀.heap.objs.size<=c
 hd:X.calm=true->X.A.handled=Xc
 frames:X.A.frames=Xb X.stack
 stk:X.stack=X.outer\/(X.stack=X.env::X.outer/\X.env.frame=Xb X.env.locals)
 exf:∀b∈X.ex,b≠X.env.locals/\∀x c,X.env.cells.lookup x=Xb c->c≠b
 bs:∀b o,X.base.get? b=Xb o->X.s₀.heap.get? b=Xb o/\X.H₀ b=Xc
 Τ:X.base.objs.size<=X.s₀.heap.objs.size
 GB:∀b o,X.base.get? b=Xb o->b∉X.ex
 FO:∀b∈X.ex,b∉X.fs
 sg:X.s₀.heap.FunFrames X.base X.outer
 frf:∀b∈X.fs,X.H₀ b=Xc
structure Inv(X:Cx)(pins:List (Q1×Obj))(B:List (Option V))(H:Hp)(s:Q3):Prop where
 ok:X.Ok
 os:s.os=X.s₀.os
 bare:Ua s.gens
 base:Un X.fs X.ex X.H₀ H X.s₀.heap s.heap
 loc:∃m,s.heap.Ns X.env.locals m/\∀(i:Nat)(x:Str)(v:V),X.N[i]?=Xb x->B[i]?=Xb (Xb v)->Vis X.env.scope x->∃u,Xh v u/\XC X.env s.heap m x u
 cell:∀x c,X.env.cells.lookup x=Xb c->∃v,s.heap.IsCell c v
 free:H X.env.locals=Xc
 kL:∀x c,X.env.cells.lookup x=Xb c->H c=Xc
 pin:∀p∈X.pn++pins,s.heap.get? p.1=Xb p.2/\H p.1=Xc/\p.1≠X.env.locals/\p.1∉X.fs/\∀v,p.2.data≠ .cell v
 Ç:Ă X.prog X.w H s.heap
 len:B.length=X.N.length
section
variable{X:Cx}{pins:List (Q1×Obj)}{B:List (Option V)}{H H':Hp}{s:Q3}{h':Rp}
theorem Cx.Ok.Nk(ok:X.Ok){b:Q1}{o:Obj}(e:X.base.get? b=Xb o):b∉X.fs:=λhb=>by
 have:=(ok.sg.mem hb).1;rw[e]at this;cases this
theorem Inv.bs(I:Inv X pins B H s):∀b o,X.base.get? b=Xb o->s.heap.get? b=Xb o/\H b=Xc:=λb o e=>
 {I.base.keep b o (I.ok.bs b o e).1 (I.ok.bs b o e).2 (I.ok.Nk e) (I.ok.GB b o e),I.base.free b o (I.ok.bs b o e).1 (I.ok.bs b o e).2 (I.ok.GB b o e)}
theorem Inv.bk(I:Inv X pins B H s):∀b o,X.base.get? b=Xb o->s.heap.get? b=Xb o:=λb o e=>(I.bs b o e).1
theorem Inv.mod(I:Inv X pins B H s):Mod X.K X.mg X.base:=I.ok.mod
theorem Inv.ă(I:Inv X pins B H s):X.K.In s.heap:=I.ok.mod.kin.keeps I.bk
theorem Inv.lt(I:Inv X pins B H s):X.env.locals<s.heap.objs.size:=let ⟨_,hn,_⟩:=I.loc;hn.lt
theorem Inv.sz(I:Inv X pins B H s):X.s₀.heap.objs.size<=s.heap.objs.size:=Ol I.ok.above (Pe I.lt)
theorem Inv.Mq(I:Inv X pins B H s){a:Q1}(h:s.heap.objs.size<=a):a∉X.fs:=λhb=>by
 obtain⟨_,o,ho,_⟩:=I.ok.sg.mem hb;exact absurd (OA (Rc ho) (Ol I.sz h)) (OL _)
theorem Inv.Ο(I:Inv X pins B H s):∀x c,X.env.cells.lookup x=Xb c->c≠X.env.locals:=λx c e z=>by
 obtain⟨v,o,ho,hd⟩:=I.cell x c e;obtain⟨m,⟨o',es,ep,϶,hd',_⟩,_⟩:=I.loc;rw[z,϶]at ho;cases ho;rw[hd']at hd;cases hd
theorem Inv.sg(I:Inv X pins B H s):s.heap.FunFrames X.base X.outer:=by
 have all:∀(l:List Env),(∀b∈Ŵ l,b∈X.fs)->X.s₀.heap.FunFrames X.base l->s.heap.FunFrames X.base l:=by
  intro l;induction l with
  |nil=>intro _ _;trivial
  |cons env r ih=>
   intro hs hl;obtain⟨hk,⟨L,o,hf,hn,ho,hd⟩,hr⟩:=hl;have hL:L∈X.fs:=hs L (by unfold Ŵ;rw[Pk,hf];exact N9);obtain⟨sl,e⟩:=I.base.slot L o ho (I.ok.frf L hL) hL λz=>I.ok.FO L z hL;exact{hk,{L,_,hf,hn,e,hd},ih (λb hb=>hs b (by unfold Ŵ;rw[Pk,hf];exact N8 _ hb)) hr}
 exact all X.outer (λ_ hb=>hb) I.ok.sg
theorem Inv.stack(I:Inv X pins B H s):s.heap.FunFrames X.base X.stack:=by
 rcases I.ok.stk with e|⟨e,hf⟩
 ·rw[e];exact I.sg
 rw[e];obtain⟨m,hn,_⟩:=I.loc;refine .cons (by rw[I.ok.kind];decide) hf hn ?_ I.sg;exact Heap.get?_none_of_le (Ol I.ok.Τ I.ok.above)
theorem Inv.AY(I:Inv X pins B H s):∀b∈Ŵ X.stack,b∈X.env.locals::X.fs:=λb hb=>by
 rcases I.ok.stk with e|⟨e,hf⟩
 ·rw[e]at hb;exact N8 _ hb
 rw[e]at hb;unfold Ŵ at hb;rw[Pk,hf]at hb;exact hb
theorem Inv.Bt(I:Inv X pins B H s):∀b∈Ŵ X.stack,H b=Xc:=λb hb=>by
 rcases Ob.mp (I.AY b hb)with e|hb
 ·rw[e];exact I.free
 obtain⟨_,o,ho,_⟩:=I.ok.sg.mem hb;exact I.base.free b o ho (I.ok.frf b hb) λz=>I.ok.FO b z hb
theorem Inv.step{g':Array Uk}{t':Nat}{d':Drawn}{ch:List Q1}(I:Inv X pins B H s)
  (ϛ:∀b∈ch,(b∈X.ex\/X.s₀.heap.objs.size<=b)/\b≠X.env.locals/\(∀x c,X.env.cells.lookup x=Xb c->c≠b)/\∀p∈X.pn++pins,p.1≠b)
  (keep:∀b o,b≠X.env.locals->b∉X.fs->b∉ch->s.heap.get? b=Xb o->H b=Xc->h'.get? b=Xb o)
  (slot:∀b o,b≠X.env.locals->b∈X.fs->b∉ch->s.heap.get? b=Xb o->H b=Xc->∃sl,h'.get? b=Xb { o with slots:=sl }) (free:∀b o,b∉ch->s.heap.get? b=Xb o->H b=Xc->H' b=Xc)
  (there:∀b o,b∉ch->s.heap.get? b=Xb o->∃o',h'.get? b=Xb o')
  (vy:∀b xs,H b=Xb (.tup xs)->H' b=Xb (.tup xs)) (sD:∀b o u,H b=Xb (.Ć o u)->H' b=Xb (.Ć o u)) (vn:∀b ps,H b=Xb (.δ ps)->∃more,H' b=Xb (.δ (ps++more)))
  (ns:∀m,s.heap.Ns X.env.locals m->h'.Ns X.env.locals m) (Ç:Ă X.prog X.w H' h') (hg:Ua g') :
  Inv X pins B H' { s with heap:=h',gens:=g',drawn:=d',toks:=t' }:=by
 have neL:∀b o,X.s₀.heap.get? b=Xb o->b≠X.env.locals:=λb o e=>OD (OA (Rc e) I.ok.above)
 have neC:∀b o,X.s₀.heap.get? b=Xb o->b∉X.ex->b∉ch:=λb o e hx hb=>by
  rcases(ϛ b hb).1 with z|z
  ·exact hx z
  exact absurd (OA (Rc e) z) (OL _)
 have cellK:∀x c,X.env.cells.lookup x=Xb c->∀v,s.heap.IsCell c v->h'.IsCell c v:=λx c e v ⟨o,ho,hd⟩=>by
  have nch:c∉ch:=λz=>(ϛ c z).2.2.1 x c e rfl;by_cases hc:c∈X.fs
  ·obtain⟨sl,q⟩:=slot c o (I.Ο x c e) hc nch ho (I.kL x c e);exact{_,q,hd}
  exact{o,keep c o (I.Ο x c e) hc nch ho (I.kL x c e),hd}
 refine{I.ok,I.os,hg,{λb o e n hb hx=>?_,λb o e n hb hx=>?_,λb o e n hx=>?_,λb o e hx=>?_,λb xs e=>vy b xs (I.base.vy b xs e),λb o xs e=>sD b o xs (I.base.sD b o xs e),λb ps e=>?_},?_,λx c e=>?_,?_,λx c e=>?_,λp hp=>?_,Ç,I.len}
 ·exact keep b o (neL b o e) hb (neC b o e hx) (I.base.keep b o e n hb hx) (I.base.free b o e n hx)
 ·obtain⟨sl,e1⟩:=I.base.slot b o e n hb hx;obtain⟨sl',e2⟩:=slot b _ (neL b o e) hb (neC b o e hx) e1 (I.base.free b o e n hx);exact⟨sl',e2⟩
 ·obtain⟨o',e1⟩:=I.base.there b o e hx;exact free b o' (neC b o e hx) e1 (I.base.free b o e n hx)
 ·obtain⟨o',e1⟩:=I.base.there b o e hx;exact there b o' (neC b o e hx) e1
 ·obtain⟨m1,e1⟩:=I.base.vn b ps e;obtain⟨m2,e2⟩:=vn b _ e1;exact{m1++m2,by rw[e2,Array.append_assoc]}
 ·obtain⟨m,hn,hl⟩:=I.loc;refine{m,ns m hn,λi x v e1 e2 e3=>?_};obtain⟨u,r,l⟩:=hl i x v e1 e2 e3;refine{u,r,?_};rcases l with l|⟨k,c,e,z⟩
  ·exact .inl l
  exact .inr {k,c,e,cellK x c e _ z}
 ·obtain⟨v,z⟩:=I.cell x c e;exact⟨v,cellK x c e v z⟩
 ·obtain⟨m,⟨o,_,_,ho,_⟩,_⟩:=I.loc;exact free _ o (λz=>(ϛ _ z).2.1 rfl) ho I.free
 ·obtain⟨v,o,ho,hd⟩:=I.cell x c e;exact free c o (λz=>(ϛ c z).2.2.1 x c e rfl) ho (I.kL x c e)
 obtain⟨e,n,ne,nf,d⟩:=I.pin p hp
 have nch:p.1∉ch:=λz=>(ϛ p.1 z).2.2.2 p hp rfl
 exact⟨keep p.1 p.2 ne nf nch e n,free p.1 p.2 nch e n,ne,nf,d⟩
theorem Inv.un{t':Nat}(I:Inv X pins B H s)(u:Un X.fs [] H H' s.heap h')(Ç:Ă X.prog X.w H' h'):Inv X pins B H' { s with heap:=h',toks:=t' }:=by
 obtain⟨m,⟨o,es,ep,ho,r⟩,_⟩:=id I.loc;obtain⟨sl,hL⟩:=u.any ho I.free (by simp);exact I.step (g':=s.gens) (d':=s.drawn) (ch:=[]) (λ_ z=>nomatch z) (λb o _ hb _ e n=>u.keep b o e n hb (by simp)) (λb o _ hb _ e n=>u.slot b o e n hb (by simp)) (λb o _ e n=>u.free b o e n (by simp)) (λb o _ e=>u.there b o e (by simp)) u.vy u.sD u.vn (λm' hm=>by
  obtain⟨o',es',Ŷ,϶,r'⟩:=hm;rw[ho]at ϶;cases ϶;exact{_,es',Ŷ,hL,r'}) Ç I.bare
theorem Inv.call{g':Array Uk}{t':Nat}{d':Drawn}{ch:List Q1}(I:Inv X pins B H s)(u:Un (Ŵ X.stack) ch H H' s.heap h')(Ç:Ă X.prog X.w H' h')(hg:Ua g')
  (ϛ:∀b∈ch,(b∈X.ex\/X.s₀.heap.objs.size<=b)/\b≠X.env.locals/\(∀x c,X.env.cells.lookup x=Xb c->c≠b)/\∀p∈X.pn++pins,p.1≠b) :
  Inv X pins B H' { s with heap:=h',gens:=g',drawn:=d',toks:=t' }:=by
 obtain⟨m,⟨o,es,ep,ho,r⟩,_⟩:=id I.loc
 obtain⟨sl,hL⟩:=u.any ho I.free λz=>(ϛ _ z).2.1 rfl
 exact I.step (ch:=ch) ϛ (λb o hL hb hc e n=>u.keep b o e n (λz=>(Ob.mp (I.AY b z)).elim hL hb) hc) (λb o _ _ hc e n=>u.any e n hc) (λb o hc e n=>u.free b o e n hc) (λb o hc e=>u.there b o e hc) u.vy u.sD u.vn (λm' hm=>by
  obtain⟨o',es',Ŷ,϶,r'⟩:=hm;rw[ho]at ϶;cases ϶;exact{_,es',Ŷ,hL,r'}) Ç hg
theorem Inv.turned{t':Nat}{it:Q1}(I:Inv X pins B H s)(k:∀b o,b≠it->s.heap.get? b=Xb o->h'.get? b=Xb o)(hn:H it=Xc)(hL:it≠X.env.locals)
  (h1:it∈X.ex\/X.s₀.heap.objs.size<=it) (h2:∀x c,X.env.cells.lookup x=Xb c->c≠it) (h3:∀p∈X.pn++pins,p.1≠it):Inv X pins B H { s with heap:=h',toks:=t' }:=by
 have nit:∀b u,H b=Xb u->b≠it:=λb u e z=>by rw[z,hn]at e;cases e
 refine I.step (g':=s.gens) (d':=s.drawn) (ch:=[it]) (λb hb=>?_) (λb o _ _ hc e _=>k b o (λz=>hc (by simp[z])) e) (λb o _ _ hc e _=>{o.slots,k b o (λz=>hc (by simp[z])) e}) (λ_ _ _ _ n=>n)
  (λb o hc e=>{o,k b o (λz=>hc (by simp[z])) e}) (λ_ _ e=>e) (λ_ _ _ e=>e) (λb ps e=>{#[],by rw[e];simp}) (λm hm=>?_) (λb u e=>?_) I.bare
 ·have e:b=it:=by simpa using hb
  subst e;exact⟨h1,hL,h2,h3⟩
 ·obtain⟨o,es,ep,ho,r⟩:=hm;exact{o,es,ep,k _ o (Pn hL) ho,r}
 refine(I.Ç b u e).vv (λc v hc q=>k c v ?_ q) (λ_ q=>q) λ_ _ q=>q
 rcases hc with z|z
 ·rw[z];exact nit b u e
 exact nit c _ z
theorem Inv.tok(I:Inv X pins B H s)(t:Nat):Inv X pins B H { s with toks:=t }:=I.un (h':=s.heap) (t':=t) Un.refl I.Ç
theorem Inv.kept{t':Nat}(I:Inv X pins B H s)(k:∀b u,s.heap.get? b=Xb u->h'.get? b=Xb u):Inv X pins B H { s with heap:=h',toks:=t' }:=I.un (Un.kept k) (I.Ç.kept k)
theorem Inv.laid{a:Q1}{o:HO}{t':Nat}(I:Inv X pins B H s)(k:∀b u,s.heap.get? b=Xb u->h'.get? b=Xb u)(hp:s.heap.objs.size<=a)(new:df X.prog X.w (upd H a o) h' a o) :
  Inv X pins B (upd H a o) { s with heap:=h',toks:=t' }:=I.un (Un.laid k hp (I.Ç.fresh hp)) (I.Ç.laid k hp new)
theorem Inv.write{x e:Q1}{o:HO}{t':Nat}(I:Inv X pins B H s)(mu:Mut (H x))(he:e=x\/H e=Xb (.own x))(k:∀b u,b≠e->s.heap.get? b=Xb u->h'.get? b=Xb u)(heo:∃u,h'.get? e=Xb u)
  (new:df X.prog X.w (upd H x o) h' x o):Inv X pins B (upd H x o) { s with heap:=h',toks:=t' }:=I.un (Un.write mu he k heo) (I.Ç.write mu he k heo new)
theorem Inv.yk{ν:List (Q1×Obj)}(I:Inv X pins B H s)(h:∀p∈ν,s.heap.get? p.1=Xb p.2/\H p.1=Xc/\p.1≠X.env.locals/\p.1∉X.fs/\∀v,p.2.data≠ .cell v):Inv X ν B H s:=
 {I.ok,I.os,I.bare,I.base,I.loc,I.cell,I.free,I.kL,λp hp=>(Og.mp hp).elim (λz=>I.pin p (Oh _ z)) (h p),I.Ç,I.len}
theorem yH{N:List Str}(hN:N.Nodup){i j:Nat}{x:Str}(a:N[i]?=Xb x)(b:N[j]?=Xb x):i=j:=by
 obtain⟨h1,e1⟩:=Ot.mp a;obtain⟨h2,e2⟩:=Ot.mp b;exact(Qd hN).mp (e1.trans e2.symm)
theorem De{M:Model}{A:Rv}{E:Q0->Q3->Prop}{i:Nat}{x:Str}{v:V}{u:Q0}{Q:Unit->Q3->Prop}(I:Inv X pins B H s)(hN:X.N.Nodup)(hi:X.N[i]?=Xb x)(hx:Loc X.env.scope x)(r:Xh v u)
  (h:∀s',Inv X pins (B.set i (Xb v)) H s'->(∃a,SK a s.heap s'.heap/\(a=X.env.locals\/X.env.cells.lookup x=Xb a))->Q Unit.unit s') (hf:X.fn x=true\/X.env.scope.names.lookup x=Xb .local:=by first|exact .inl rfl|exact .inr rfl|assumption):wpAny M A (WV X.env x u) Q E s:=by
 obtain⟨m,hn,hl⟩:=id I.loc
 have hcls:(X.env.scope.kind== .class||(X.env.scope.kind== .module&&X.env.locals !=X.env.globals))=false:=by rw[I.ok.kind];rfl
 have hiσ:i<B.length:=by rw[I.len];exact(Ot.mp hi).1
 have Ο:=I.Ο
 have tracked:∀{a:Q1}{h':Rp},(∃o,s.heap.get? a=Xb o/\H a=Xc)->SK a s.heap h'->Ă X.prog X.w H h':=λ{a h'} ha hs b ob e=>by
  obtain⟨_,_,Ĳ⟩:=ha;refine(I.Ç b ob e).vv (λc w' hc q=>(hs.2 c ?_).trans q) (λ_ q=>q) λ_ _ q=>q;rintro rfl;rcases hc with rfl|hc
  ·rw[Ĳ]at e;cases e
  rw[Ĳ]at hc;cases hc
 rcases hx with hk|hk
 ·refine wpAny_storeName_local hk hn (λh' hn' hs=>?_) hcls;obtain⟨oL,_,_,hoL,_⟩:=id hn;refine h _ {I.ok,I.os,I.bare,{λb o e n hb hx=>?_,λb o e n hb hx=>?_,I.base.free,λb o e hx=>?_,I.base.vy,I.base.sD,I.base.vn},{_,hn',λj y v' e1 e2 e3=>?_},λy c e=>?_,I.free,I.kL,λp hp=>?_,tracked ⟨oL,hoL,I.free⟩ hs,by simpa using I.len} {_,hs,.inl rfl}
  ·exact(hs.2 b (OD (OA (Rc e) I.ok.above))).trans (I.base.keep b o e n hb hx)
  ·obtain⟨sl,e1⟩:=I.base.slot b o e n hb hx;exact{sl,(hs.2 b (OD (OA (Rc e) I.ok.above))).trans e1}
  ·obtain⟨o',e1⟩:=I.base.there b o e hx;exact{o',(hs.2 b (OD (OA (Rc e) I.ok.above))).trans e1}
  ·by_cases hj:j=i
   ·subst hj;rw[hi]at e1;cases e1;rw[Uw hiσ]at e2;cases e2;exact{u,r,.inl ⟨hk,by simp⟩}
   rw[UQ (Pn hj)]at e2;obtain⟨u',r',q⟩:=hl j y v' e1 e2 e3;refine{u',r',?_};rcases q with⟨k,e⟩|⟨k,c,e,z⟩
   ·refine .inl {k,?_};have:y≠x:=λe=>hj (yH hN e1 (e▸hi));simp[this,e]
   exact .inr {k,c,e,z.sameBut hs (Ο y c e)}
  ·obtain⟨w',z⟩:=I.cell y c e;exact{w',z.sameBut hs (Ο y c e)}
  obtain⟨e,n,ne,nf,d⟩:=I.pin p hp;exact{(hs.2 p.1 ne).trans e,n,ne,nf,d}
 have hfn:X.fn x=true:=by
  rcases hf with z|z
  ·exact z
  rw[z]at hk;cases hk
 obtain⟨c,hc⟩:=I.ok.has x (.inl hk)
 obtain⟨w',z⟩:=I.cell x c hc
 refine wpAny_storeName_cell I.ok.kind hk hc z (λh' hc' hs=>?_)
 obtain⟨oc,hoc,hocd⟩:=id z
 refine h { s with heap:=h' } ⟨I.ok,I.os,I.bare,⟨λb o e n hb hx=>?_,λb o e n hb hx=>?_,I.base.free,λb o e hx=>?_,I.base.vy,I.base.sD,I.base.vn⟩,⟨m,hn.sameBut hs (Pn (Ο x c hc)),λj y v' e1 e2 e3=>?_⟩,λy c' e=>?_,I.free,I.kL,λp hp=>?_,tracked ⟨oc,hoc,I.kL x c hc⟩ hs,by simpa using I.len⟩ ⟨c,hs,.inr hc⟩
 ·exact(hs.2 b (OD (OA (Rc e) (I.ok.cab x c hfn hc)))).trans (I.base.keep b o e n hb hx)
 ·obtain⟨sl,e1⟩:=I.base.slot b o e n hb hx;exact{sl,(hs.2 b (OD (OA (Rc e) (I.ok.cab x c hfn hc)))).trans e1}
 ·obtain⟨o',e1⟩:=I.base.there b o e hx;exact{o',(hs.2 b (OD (OA (Rc e) (I.ok.cab x c hfn hc)))).trans e1}
 ·by_cases hj:j=i
  ·subst hj;rw[hi]at e1;cases e1;rw[Uw hiσ]at e2;cases e2;exact{u,r,.inr ⟨.inl hk,c,hc,hc'⟩}
  rw[UQ (Pn hj)]at e2;obtain⟨u',r',q⟩:=hl j y v' e1 e2 e3;refine{u',r',?_};rcases q with q|⟨k,c',e,z'⟩
  ·exact .inl q
  refine .inr {k,c',e,z'.sameBut hs ?_};rintro rfl;exact hj (yH hN e1 (I.ok.inj _ _ _ e hc▸hi))
 ·by_cases hcc:c'=c
  ·subst hcc;exact{_,hc'}
  obtain⟨w2,z2⟩:=I.cell y c' e;exact⟨w2,z2.sameBut hs hcc⟩
 obtain⟨e,n,ne,nf,d⟩:=I.pin p hp
 refine{(hs.2 p.1 ?_).trans e,n,ne,nf,d}
 intro q
 rw[q,hoc]at e
 have q':oc=p.2:=Q9 e
 exact d w' (by rw[<-q'];exact hocd)
theorem ux{M:Model}{A:Rv}{E:Q0->Q3->Prop}{i:Nat}{x:Str}{v:V}{u:Q0}{Q:Unit->Q3->Prop}(I:Inv X pins B H s)(hN:X.N.Nodup)(hi:X.N[i]?=Xb x)(hx:Loc X.env.scope x)(r:Xh v u)
  (h:∀s',Inv X pins (B.set i (Xb v)) H s'->Q Unit.unit s') (hf:X.fn x=true\/X.env.scope.names.lookup x=Xb .local:=by first|exact .inl rfl|exact .inr rfl|assumption):wpAny M A (WV X.env x u) Q E s:=
 De I hN hi hx r (λs' I' _=>h s' I') hf
theorem Inv.Mr{s':Q3}{ch:List Q1}(I:Inv X pins B H s)(ho:s'.os=s.os)(u:Un (Ŵ X.stack) ch H H' s.heap s'.heap)(Ç:Ă X.prog X.w H' s'.heap)(hg:Ua s'.gens)
  (ϛ:∀b∈ch,(b∈X.ex\/X.s₀.heap.objs.size<=b)/\b≠X.env.locals/\(∀x c,X.env.cells.lookup x=Xb c->c≠b)/\∀p∈X.pn++pins,p.1≠b):Inv X pins B H' s':=by
 obtain⟨h',g',d',t',o'⟩:=s'
 have e:o'=s.os:=ho
 subst e
 exact I.call (g':=g') (t':=t') (d':=d') u Ç hg ϛ
end
abbrev XK:=Q0->Option Q1->Hp->Prop
abbrev St:=List (Option V)
abbrev VK:=V->Hp->Prop
abbrev TE:=St->Hp->VK->Prop
abbrev TT:=St->Hp->(Bool->Hp->Prop)->Prop
abbrev TA:=St->Hp->(List V->Hp->Prop)->Prop
structure Xv where
 nx:St->Hp->Prop
 rt:VK
 bk:St->Hp->Prop:=λ_ _=>False
 ct:St->Hp->Prop:=λ_ _=>False
abbrev TS:=Xv->St->Hp->Prop
inductive EP(X:Cx)(pins:List (Q1×Obj))(B:St)(Q:VK)(u:Q0)(s':Q3):Prop
 |mk(v:V)(H':Hp)(h0:Inv X pins B H' s')(h1:Xh v u)(h2:Q v H'):EP X pins B Q u s'
inductive TP(X:Cx)(pins:List (Q1×Obj))(B:St)(Q:Bool->Hp->Prop)(b:Bool)(s':Q3):Prop
 |mk(H':Hp)(h0:Inv X pins B H' s')(h1:Q b H'):TP X pins B Q b s'
inductive AP(X:Cx)(pins:List (Q1×Obj))(B:St)(Q:List V->Hp->Prop)(us:List Q0)(s':Q3):Prop
 |mk(vs:List V)(H':Hp)(h0:Inv X pins B H' s')(h1:Xf vs us)(h2:Q vs H'):AP X pins B Q us s'
inductive NP(X:Cx)(pins:List (Q1×Obj))(q:St->Hp->Prop)(s':Q3):Prop
 |mk(B':St)(H':Hp)(h0:Inv X pins B' H' s')(h1:q B' H'):NP X pins q s'
inductive RP(X:Cx)(pins:List (Q1×Obj))(q:VK)(u:Q0)(s':Q3):Prop
 |mk(v:V)(B':St)(H':Hp)(h0:Inv X pins B' H' s')(h1:Xh v u)(h2:q v H'):RP X pins q u s'
def SP(X:Cx)(pins:List (Q1×Obj))(D:Xv)(f:Flow)(s':Q3):Prop:=
 match f with
 | .next=>NP X pins D.nx s'
 | .brk=>NP X pins D.bk s'
 | .cont=>NP X pins D.ct s'
 | .ret u=>RP X pins D.rt u s'
def PE(X:Cx)(e:Expr)(t:TE):Prop:=
 ∀(pins:List (Q1×Obj))(s:Q3)(B:St)(H:Hp)(Q:VK),Inv X pins B H s->t B H Q->wpAny (Ri X.prog X.w) X.A (RB e X.env) (EP X pins B Q) X.xe s
def PT(X:Cx)(e:Expr)(t:TT):Prop:=
 ∀(pins:List (Q1×Obj))(s:Q3)(B:St)(H:Hp)(Q:Bool->Hp->Prop),Inv X pins B H s->t B H Q->wpAny (Ri X.prog X.w) X.A (isTrue e X.env (RB e X.env)) (TP X pins B Q) X.xe s
def PW(X:Cx)(e:Expr)(t:TT):Prop:=
 ∀(whole:Sem Q0)(pins:List (Q1×Obj))(s:Q3)(B:St)(H:Hp)(Q:Bool->Hp->Prop),Inv X pins B H s->t B H Q->wpAny (Ri X.prog X.w) X.A (isTrue e X.env whole) (TP X pins B Q) X.xe s
theorem PW.pt{X:Cx}{e:Expr}{t:TT}(h:PW X e t):PT X e t:=h _
def PA(X:Cx)(es:List Expr)(t:TA):Prop:=
 ∀(pos:Pos)(pins:List (Q1×Obj))(s:Q3)(B:St)(H:Hp)(Q:List V->Hp->Prop),Inv X pins B H s->t B H Q->wpAny (Ri X.prog X.w) X.A (VE (RC pos (Q8 es X.env))) (AP X pins B Q) X.xe s
def PS(X:Cx)(st:Rl)(t:TS):Prop:=
 ∀(pins:List (Q1×Obj))(s:Q3)(B:St)(H:Hp)(D:Xv),Inv X pins B H s->t D B H->wpAny (Ri X.prog X.w) X.A (exec st X.env) (SP X pins D) X.xe s
def ď(X:Cx)(st:List Rl)(t:TS):Prop:=
 ∀(pins:List (Q1×Obj))(s:Q3)(B:St)(H:Hp)(D:Xv),Inv X pins B H s->t D B H->wpAny (Ri X.prog X.w) X.A (execs st X.env) (SP X pins D) X.xe s
theorem Ë{α:Type}{t:Sem α}{Q Q':α->Q3->Prop}{M:Model}{A:Rv}{E:Q0->Q3->Prop}{s:Q3}(h:wpAny M A t Q E s)(hQ:∀a s,Q a s->Q' a s):wpAny M A t Q' E s:=Su h hQ λ_ _ x=>x
section
variable{X:Cx}
def NQ(i:Nat):TE:=λB H Q=>∃v,B[i]?=Xb (Xb v)/\Q v H
def tC(v:V):TE:=λ_ H Q=>Q v H
theorem Kx{i:Nat}{x:Str}{pos:Pos}(hN:X.N[i]?=Xb x)(hv:Vis X.env.scope x)(hd:(x==("__debug__":Str))=false:=by decide)(ķ:(x==("__classdict__":Str))=false:=by decide):PE X (.Name x pos) (NQ i):=by
 intro pins s B H Q I h;obtain⟨v,e,h⟩:=h;obtain⟨m,hn,hl⟩:=I.loc;obtain⟨u,r,l⟩:=hl i x v hN e hv;have fin:EP X pins B Q u s:=⟨v,H,I,r,h⟩;rcases l with⟨hk,hm⟩|⟨hk,c,hc,ą⟩
 ·exact Ws (UR I.ok.kind hk hn hm fin) hd
 rcases hk with hk|hk
 ·exact Ws (U7 I.ok.kind hk hc ą fin) hd
 exact Ws (wpAny_loadName_free I.ok.kind hk hc ą fin ķ) hd
theorem ah{i j pos}:PE X (.Constant (.int i) j pos) (tC (.int i)):=λ_ _ _ H _ I h=>Vl {.int i,H,I.tok _,{_,rfl},h}
theorem wz{b j pos}:PE X (.Constant (.bool b) j pos) (tC (.bl b)):=λ_ _ _ H _ I h=>Constant_bool ⟨.bl b,H,I,rfl,h⟩
theorem cU{j pos}:PE X (.Constant .none j pos) (tC .Ê):=λ_ _ _ H _ I h=>Constant_none ⟨.Ê,H,I,rfl,h⟩
theorem ay{x j pos}:PE X (.Constant (.str x) j pos) (tC (.str x)):=λ_ _ _ H _ I h=>Calls.Constant_str {.str x,H,I.tok _,{_,rfl},h}
def Gl(X:Cx)(x:Str):Prop:=X.env.kindOf x=Xb .globalImplicit
theorem qo{E:Q0->Q3->Prop}{pins:List (Q1×Obj)}{s:Q3}{B:St}{H:Hp}{x:Str}{u:Q0}{pos:Pos}{Q:Q0->Q3->Prop}(I:Inv X pins B H s)(hg:Gl X x)(hm:X.mg x=Xb u)(h:Q u s)
  (hd:(x==("__debug__":Str))=false:=by decide):wpAny (Ri X.prog X.w) X.A (RB (.Name x pos) X.env) Q E s:=
 T1 I.ok.kind hg (Calls.loadGlobal_global (by rw[I.ok.glob];exact I.mod.glob.keeps I.bk) hm h) hd
theorem jL{E:Q0->Q3->Prop}{pins:List (Q1×Obj)}{s:Q3}{B:St}{H:Hp}{x:Str}{u:Q0}{pos:Pos}{Q:Q0->Q3->Prop}(I:Inv X pins B H s)(hg:Gl X x)(hm:X.mg x=Xc)(hv:So x=Xb u)(h:Q u s)
  (hn:x≠"__name__":=by decide) (hd:(x==("__debug__":Str))=false:=by decide):wpAny (Ri X.prog X.w) X.A (RB (.Name x pos) X.env) Q E s:=by
 obtain⟨mb,h1,h2⟩:=I.mod.blt
 exact T1 I.ok.kind hg (Calls.loadGlobal_builtin (by rw[I.ok.glob];exact I.mod.glob.keeps I.bk) hm (by rw[I.ok.blt];exact h1.keeps I.bk) ((h2 x hn).trans hv) h) hd
theorem BU{x:Str}{v:V}{u:Q0}{pos:Pos}(hg:Gl X x)(hm:X.mg x=Xb u)(r:Xh v u)(hd:(x==("__debug__":Str))=false:=by decide):PE X (.Name x pos) (tC v):=
 λ_ _ _ H _ I h=>qo I hg hm ⟨v,H,I,r,h⟩ hd
theorem xk{x:Str}{v:V}{u:Q0}{pos:Pos}(hg:Gl X x)(hm:X.mg x=Xc)(hv:So x=Xb u)(r:Xh v u)(hn:x≠"__name__":=by decide)(hd:(x==("__debug__":Str))=false:=by decide):PE X (.Name x pos) (tC v):=
 λ_ _ _ H _ I h=>jL I hg hm hv ⟨v,H,I,r,h⟩ hn hd
variable{a b:Expr}{ta tb:TE}{pos:Pos}
variable{tA tB':TT}{rest:List Expr}
def Ng(t u:TT):TT:=λB H Q=>t B H λc H1=>if c=true then u B H1 Q else Q false H1
def tOr(t u:TT):TT:=λB H Q=>t B H λc H1=>if c=true then Q true H1 else u B H1 Q
def NN(t:TT):TT:=λB H Q=>t B H λc H1=>Q (!c) H1
theorem pw_and1(ha:PT X a tA):PW X (.BoolOp .And [a] pos) tA:=by
 intro wh pins s B H Q I h;refine isTrue_and (Ë (ha pins s B H Q I h) λc s1 e=>?_);cases c with
 |true=>exact isTrue_and_nil e
 |false=>exact e
theorem pw_or1(ha:PT X a tA):PW X (.BoolOp .Or [a] pos) tA:=by
 intro wh pins s B H Q I h;refine isTrue_or (Ë (ha pins s B H Q I h) λc s1 e=>?_);cases c with
 |false=>exact isTrue_or_nil e
 |true=>exact e
theorem pw_and(ha:PT X a tA)(hb:PW X (.BoolOp .And (b::rest) pos) tB'):PW X (.BoolOp .And (a::b::rest) pos) (Ng tA tB'):=by
 intro wh pins s B H Q I h;refine isTrue_and (Ë (ha pins s B H _ I h) λc s1 z9=>?_);obtain⟨H1,I1,q1⟩:=z9;cases c with
 |true=>exact hb wh pins s1 B H1 Q I1 q1
 |false=>exact⟨H1,I1,q1⟩
theorem pw_or(ha:PT X a tA)(hb:PW X (.BoolOp .Or (b::rest) pos) tB'):PW X (.BoolOp .Or (a::b::rest) pos) (tOr tA tB'):=by
 intro wh pins s B H Q I h;refine isTrue_or (Ë (ha pins s B H _ I h) λc s1 z9=>?_);obtain⟨H1,I1,q1⟩:=z9;cases c with
 |true=>exact⟨H1,I1,q1⟩
 |false=>exact hb wh pins s1 B H1 Q I1 q1
theorem ua(ha:PT X a tA):PT X (.UnaryOp .Not a pos) (NN tA):=by
 intro pins s B H Q I h;exact isTrue_not (Ë (ha pins s B H (λc H1=>Q (!c) H1) I h) λc s1 ⟨H1,I1,q1⟩=>⟨H1,I1,q1⟩)
def Na(ta tb:TE):TE:=λB H Q=>ta B H λx H1=>∃c,x=.bl c/\if c=true then Q (.bl true) H1 else tb B H1 Q
theorem Jt{op}{t:TE}(h:PE X a t):PE X (.BoolOp op [a] pos) t:=λpins s B H Q I hw=>BoolOp_one (h pins s B H Q I hw)
theorem EB(ha:PE X a ta)(hb:PE X (.BoolOp .Or (b::rest) pos) tb):PE X (.BoolOp .Or (a::b::rest) pos) (Na ta tb):=by
 intro pins s B H Q I h;refine BoolOp_or (Ë (ha pins s B H _ I h) λv s1 z9=>?_);obtain⟨x,H1,I1,r1,q1⟩:=z9;obtain⟨c,rfl,q1⟩:=q1;cases r1;refine Tg ?_;cases c with
 |false=>exact hb pins s1 B H1 Q I1 q1
 |true=>exact⟨.bl true,H1,I1,rfl,q1⟩
def tIf(t:TT)(ta tb:TE):TE:=λB H Q=>t B H λc H1=>if c=true then ta B H1 Q else tb B H1 Q
theorem qE{c:Expr}(hc:PT X c tA)(ha:PE X a ta)(hb:PE X b tb):PE X (.IfExp c a b pos) (tIf tA ta tb):=by
 intro pins s B H Q I h;refine wpAny_IfExp (Ë (hc pins s B H _ I h) λd s1 z9=>?_);obtain⟨H1,I1,q1⟩:=z9;cases d with
 |true=>exact ha pins s1 B H1 Q I1 q1
 |false=>exact hb pins s1 B H1 Q I1 q1
end
def À(K:Q6)(H:Hp)(a:Q1)(xs:List V):Prop:=
 Rd H a (.lst xs)\/
  ∃(o:Obj)(Â:Array Q0)(n:Nat),K.lookup a=Xb o/\o.cls=.type "list"/\o.dict=Xc/\o.data=.seq Â n/\Â.size<=sizeLine/\Xf xs Â.toList
def É(K:Q6)(H:Hp)(a:Q1)(xs:List V):Prop:=
 Rd H a (.tup xs)\/
  ∃(o:Obj)(Â:Array Q0)(n:Nat),K.lookup a=Xb o/\o.cls=.type "tuple"/\o.data=.seq Â n/\Â.size<=sizeLine/\Xf xs Â.toList
def Nq:Q0->Option V
 | .none=>Xb .Ê
 | .bool b=>Xb (.bl b)
 | .int i _=>Xb (.int i)
 | .str x _=>Xb (.str x)
 | .bytes b _=>Xb (.Ĭ b)
 | .float b _=>Xb (.Θ b)
 | .ref a=>Xb (.ref a)
 | .type n=>Xb (.ty n)
 |_=>Xc
theorem Xh.abs{x:V}{u:Q0}(r:Xh x u):Nq u=Xb x:=by
 cases x with
 |Ê=>cases r;rfl
 |bl _=>cases r;rfl
 |int _=>obtain⟨t,rfl⟩:=r;rfl
 |str _=>obtain⟨t,rfl⟩:=r;rfl
 |Ĭ _=>obtain⟨t,rfl⟩:=r;rfl
 |Θ _=>obtain⟨t,rfl⟩:=r;rfl
 |ref _=>cases r;rfl
 |ty _=>cases r;rfl
theorem Xh.inj{x y:V}{u:Q0}(r:Xh x u)(q:Xh y u):x=y:=Q9 (r.abs.symm.trans q.abs)
theorem Xf.inj:∀{xs ys:List V}{us:List Q0},Xf xs us->Xf ys us->xs=ys:=by
 intro xs ys us h;induction h generalizing ys with
 |nil=>intro g;cases g;rfl
 |cons r _ ih=>intro g;cases g with
  |cons r' t'=>rw[r.inj r',ih t']
section
variable{X:Cx}{pins:List (Q1×Obj)}{B:St}{H:Hp}{s:Q3}{a:Q1}{xs ys:List V}
theorem À.of{K:Q6}(h:H a=Xb (.lst xs)):À K H a xs:=.inl (.inl h)
theorem É.of{K:Q6}(h:H a=Xb (.tup xs)):É K H a xs:=.inl (.inl h)
theorem Inv.list(I:Inv X pins B H s)(h:À X.K H a xs):∃Â:List Q0,Xf xs Â/\PlainL s.heap a Â.toArray/\xs.length<=sizeLine:=by
 rcases h with h|⟨o,Â,n,hk,hc,hd,hs,hz,r⟩
 ·obtain⟨z,Â,n,r,e⟩:=h.ok I.Ç;exact{Â,r,{_,n,e,rfl,rfl,rfl},z}
 refine{Â.toList,r,⟨o,n,I.ă a o hk,hc,hd,by simpa using hs⟩,?_};have e:=r.length;simp only[O8]at e;lia
theorem Inv.tuple(I:Inv X pins B H s)(h:É X.K H a xs):∃Â:List Q0,Xf xs Â/\IsTup s.heap a Â.toArray/\xs.length<=sizeLine:=by
 rcases h with h|⟨o,Â,n,hk,hc,hs,hz,r⟩
 ·obtain⟨z,Â,r,p⟩:=h.ok I.Ç;exact⟨Â,r,p,z⟩
 refine{Â.toList,r,⟨o,I.ă a o hk,hc,n,by simpa using hs⟩,?_};have e:=r.length;simp only[O8]at e;lia
theorem Inv.uA(I:Inv X pins B H s)(h:À X.K H a xs)(h':À X.K H a ys):xs=ys:=by
 obtain⟨Â,r,⟨o,n,e,_,_,d⟩,_⟩:=I.list h;obtain⟨its',r',⟨o',n',e',_,_,d'⟩,_⟩:=I.list h';rw[e]at e';cases e';rw[d]at d';injection d' with d1 _;have:Â=its':=by simpa using congrArg Array.toList d1
 subst this;exact r.inj r'
theorem Inv.DN(I:Inv X pins B H s)(h:É X.K H a xs)(h':É X.K H a ys):xs=ys:=by
 obtain⟨Â,r,⟨o,e,_,n,d⟩,_⟩:=I.tuple h;obtain⟨its',r',⟨o',e',_,n',d'⟩,_⟩:=I.tuple h';rw[e]at e';cases e';rw[d]at d';injection d' with d1 _;have:Â=its':=by simpa using congrArg Array.toList d1
 subst this;exact r.inj r'
end
abbrev Cx.vf(X:Cx)(E:Q0->Q3->Prop):Cx:={ X with xe:=E }
abbrev Cx.ϕ(X:Cx):Cx:=X.vf λ_ _=>False
theorem Cx.Ok.vf{X:Cx}(ok:X.Ok)(E:Q0->Q3->Prop):(X.vf E).Ok:=
 ⟨ok.mod,ok.kind,ok.glob,ok.blt,ok.above,ok.inj,ok.has,ok.cab,ok.hd,ok.frames,ok.stk,ok.exf,ok.bs,ok.Τ,ok.GB,ok.FO,ok.sg,ok.frf⟩
theorem Cx.Ok.mS{X:Cx}{E:Q0->Q3->Prop}(ok:(X.vf E).Ok):X.Ok:=
 ⟨ok.mod,ok.kind,ok.glob,ok.blt,ok.above,ok.inj,ok.has,ok.cab,ok.hd,ok.frames,ok.stk,ok.exf,ok.bs,ok.Τ,ok.GB,ok.FO,ok.sg,ok.frf⟩
section
variable{X:Cx}{pins:List (Q1×Obj)}{B:St}{H:Hp}{s:Q3}{E:Q0->Q3->Prop}
theorem Inv.vf(I:Inv X pins B H s)(E:Q0->Q3->Prop):Inv (X.vf E) pins B H s:=⟨I.ok.vf E,I.os,I.bare,I.base,I.loc,I.cell,I.free,I.kL,I.pin,I.Ç,I.len⟩
theorem Inv.mS(I:Inv (X.vf E) pins B H s):Inv X pins B H s:=⟨I.ok.mS,I.os,I.bare,I.base,I.loc,I.cell,I.free,I.kL,I.pin,I.Ç,I.len⟩
theorem SP.mS{D:Xv}{f:Flow}{s':Q3}(h:SP (X.vf E) pins D f s'):SP X pins D f s':=by
 cases f with
 |next=>obtain⟨B',H',I,q⟩:=h;exact⟨B',H',I.mS,q⟩
 |brk=>obtain⟨B',H',I,q⟩:=h;exact⟨B',H',I.mS,q⟩
 |cont=>obtain⟨B',H',I,q⟩:=h;exact⟨B',H',I.mS,q⟩
 |ret u=>obtain⟨v,B',H',I,r,q⟩:=h;exact⟨v,B',H',I.mS,r,q⟩
theorem ď.ϕ{st:List Rl}{t:TS}(h:ď X.ϕ st t):ď X st t:=λpins s B H D I hw=>
 Su (h pins s B H D (I.vf _) hw) (λ_ _ q=>q.mS) λ_ _ z=>RN z
end
section
variable{X:Cx}{st:Rl}{rest:List Rl}{t u:TS}{e:Expr}{te:TE}{pos:Pos}
def MO:TS:=λD B H=>D.nx B H
def Dv(t u:TS):TS:=λD B H=>t { D with nx:=u D } B H
theorem aG:ď X [] MO:=λ_ _ B H _ I h=>TJ ⟨B,H,I,h⟩
theorem af(h1:PS X st t)(h2:ď X rest u):ď X (st::rest) (Dv t u):=by
 intro pins s B H D I h;refine VX (Ë (h1 pins s B H { D with nx:=u D } I h) λf s1 q=>?_);cases f with
 |next=>
  obtain⟨B',H',I',q⟩:=q;exact h2 pins s1 B' H' D I' q
 |ret v=>exact q
 |brk=>exact q
 |cont=>exact q
theorem ai(h1:PS X st t):ď X [st] t:=by
 intro pins s B H D I h;refine VX (Ë (h1 pins s B H D I h) λf s1 q=>?_);cases f with
 |next=>exact TJ q
 |ret v=>exact q
 |brk=>exact q
 |cont=>exact q
def Lg:TS:=λD B H=>D.bk B H
theorem GN:PS X (.Break pos) Lg:=λ_ _ B H _ I h=>wpAny_Break ⟨B,H,I,h⟩
theorem Inv.quiet{pins:List (Q1×Obj)}{B:St}{H:Hp}{s:Q3}(I:Inv X pins B H s):interactive X.env=false:=by simp[interactive,I.ok.kind]
def Md(te:TE):TS:=λD B H=>te B H λ_ H1=>D.nx B H1
theorem aW(he:PE X e te)(hs:U2 e Xc pos.line X.env=pure false:=by rfl):PS X (.Expr e pos) (Md te):=by
 intro pins s B H D I h;exact wpAny_Expr_any (Ë (he pins s B H _ I h) λv s1 ⟨x,H1,I1,r1,q1⟩=>⟨B,H1,I1,q1⟩) I.quiet hs
def NV(te:TE):TS:=λD B H=>te B H D.rt
theorem aA(he:PE X e te):PS X (.Return (Xb e) pos) (NV te):=by
 intro pins s B H D I h;exact wpAny_Return_some (Ë (he pins s B H _ I h) λv s1 ⟨x,H1,I1,r1,q1⟩=>⟨x,B,H1,I1,r1,q1⟩)
def Nj(c:TT)(t u:TS):TS:=λD B H=>c B H λb H1=>if b=true then t D B H1 else u D B H1
theorem aN{c:Expr}{a b:List Rl}{tc:TT}(hc:PT X c tc)(ha:ď X a t)(hb:ď X b u):PS X (.If c a b pos) (Nj tc t u):=by
 intro pins s B H D I h;refine wpAny_If (Ë (hc pins s B H _ I h) λd s1 z9=>?_);obtain⟨H1,I1,q1⟩:=z9;cases d with
 |true=>exact ha pins s1 B H1 D I1 q1
 |false=>exact hb pins s1 B H1 D I1 q1
end
abbrev TG:=V->St->Hp->(St->Hp->Prop)->Prop
abbrev TGs:=List V->St->Hp->(St->Hp->Prop)->Prop
def PG(X:Cx)(target:Expr)(t:TG):Prop:=
 ∀(pins:List (Q1×Obj))(s:Q3)(B:St)(H:Hp)(v:V)(u:Q0)(Q:St->Hp->Prop),Inv X pins B H s->Xh v u->t v B H Q->
  wpAny (Ri X.prog X.w) X.A (assign target X.env u) (λ_ s'=>NP X pins Q s') X.xe s
def PGs(X:Cx)(ts:List Expr)(t:TGs):Prop:=
 ∀(pins:List (Q1×Obj))(s:Q3)(B:St)(H:Hp)(vs:List V)(us:List Q0)(Q:St->Hp->Prop),Inv X pins B H s->Xf vs us->t vs B H Q->
  wpAny (Ri X.prog X.w) X.A (assignInOrder ((T2 ts X.env).map (·.2)) us) (λ_ s'=>NP X pins Q s') X.xe s
abbrev Hh:=V->V->V->Hp->(Hp->Prop)->Prop
def Ec(X:Cx)(t:Hh):Prop:=
 ∀(pins:List (Q1×Obj))(s:Q3)(B:St)(H:Hp)(o i v:V)(ov iv u:Q0)(Q:Hp->Prop),Inv X pins B H s->Xh o ov->Xh i iv->Xh v u->t o i v H Q->
  wpAny (Ri X.prog X.w) X.A (setItem ov iv u) (λ_ s'=>∃H',Inv X pins B H' s'/\Q H') X.xe s
abbrev TIp:=V->V->Hp->VK->Prop
def PIp(X:Cx)(op:Operator)(t:TIp):Prop:=
 ∀(pins:List (Q1×Obj))(s:Q3)(B:St)(H:Hp)(x y:V)(v u:Q0)(Q:VK),Inv X pins B H s->Xh x v->Xh y u->t x y H Q->
  wpAny (Ri X.prog X.w) X.A (inplaceOp op v u) (EP X pins B Q) X.xe s
section
variable{X:Cx}{pos:Pos}
def uC(i:Nat):TG:=λv B H Q=>Q (B.set i (Xb v)) H
theorem BF{i:Nat}{x:Str}(hN:X.N.Nodup)(hi:X.N[i]?=Xb x)(hx:Loc X.env.scope x)(hf:X.fn x=true\/X.env.scope.names.lookup x=Xb .local:=by first|exact .inl rfl|exact .inr rfl|assumption):PG X (.Name x pos) (uC i):=by
 intro pins s B H v u Q I r h;exact wpAny_assign_Name (ux I hN hi hx r (λs' I'=>{_,H,I',h}) hf)
def NL:TGs:=λvs B H Q=>vs=[]/\Q B H
def Ms(t:TG)(u:TGs):TGs:=λvs B H Q=>∃v r,vs=v::r/\t v B H λB' H'=>u r B' H' Q
theorem gC:PGs X [] NL:=by
 intro pins s B H vs us Q I r h;obtain⟨e,h⟩:=h;subst e;cases r;exact assignInOrder_nil ⟨B,H,I,h⟩
theorem bB{e:Expr}{es:List Expr}{t:TG}{u:TGs}(h1:PG X e t)(h2:PGs X es u)
  (hs:(T2 (e::es) X.env).map (·.2)=assign e X.env::(T2 es X.env).map (·.2):=by rfl):PGs X (e::es) (Ms t u):=by
 intro pins s B H vs us Q I r h
 obtain⟨v,vr,e1,h⟩:=h
 subst e1
 cases r with
 |cons r rr=>
  rw[hs]
  refine assignInOrder_cons (Ë (h1 pins s B H _ _ _ I r h) λ_ s1 z9=>?_);obtain⟨σ1,H1,I1,q1⟩:=z9
  exact h2 pins s1 σ1 H1 _ _ Q I1 rr q1
inductive LC(K:Q6)(n:Nat)(v:V)(H:Hp)(R:List V->Prop):Prop
 |mk(a:Q1)(xs:List V)(h0:v=.ref a)(h1:É K H a xs)(h2:xs.length=n)(q:R xs):LC K n v H R
def NO(K:Q6)(n:Nat)(t:TGs):TG:=λv B H Q=>LC K n v H (λxs=>t xs B H Q)
theorem kg{es:List Expr}{k:Nat}{t:TGs}{n:Nat}(hc:X.calm=true)(h:PGs X es t)
  (hn:(T2 es X.env).length=n:=by rfl) (hst:(T2 es X.env).findIdx? (·.1)=Xc:=by rfl):PG X (.Tuple es k pos) (NO X.K n t):=by
 intro pins s B H v u Q I r hw
 obtain⟨a,xs,e1,hq,hl,hw⟩:=hw
 subst e1
 cases r
 obtain⟨Â,rv,ht,hz⟩:=I.tuple hq
 refine assign_Tuple_tuple (I.ok.hd hc) ht (by simp[hn,<-hl,rv.length]) hst λh' hx=>?_
 have I1:Inv X pins B H { s with heap:=h' }:=I.kept (t':=s.toks) λb o e=>hx b o (OD (Rc e)) e
 exact h pins _ B H xs _ Q I1 (by simpa using rv) hw
def Nu(to ti:TE)(t:Hh):TG:=λv B H Q=>to B H λo H1=>ti B H1 λi H2=>t o i v H2 λH3=>Q B H3
theorem cH{o i:Expr}{to ti:TE}{t:Hh}(ho:PE X o to)(hi:PE X i ti)(hs:Ec X t)
  (ha:∀v,assign (.Subscript o i pos) X.env v=(do
   let ov<-TR [v] (RB o X.env)
   let iv<-TR [v,ov] (RB i X.env)
   VF pos
   TR [v,ov,iv] (setItem ov iv v)
   release [v,ov,iv] []):=by intro _;rfl):PG X (.Subscript o i pos) (Nu to ti t):=by
 intro pins s B H v u Q I r h
 rw[ha]
 refine QZ (wpAny_holding (Ë (ho pins s B H _ I h) λov s1 z9=>?_));obtain⟨x,H1,I1,r1,q1⟩:=z9
 refine QZ (wpAny_holding (Ë (hi pins s1 B H1 _ I1 q1) λiv s2 z9=>?_));obtain⟨y,H2,I2,r2,q2⟩:=z9
 refine QZ (Ud (QZ (wpAny_holding (Ë (hs pins s2 B H2 x y v ov iv u _ I2 r1 r2 r q2) λ_ s3 z9=>?_))));obtain⟨H3,I3,q3⟩:=z9
 exact wpAny_release ⟨B,H3,I3,q3⟩
def GP(te:TE)(g:TG):TS:=λD B H=>te B H λx H1=>g x B H1 D.nx
theorem cn{tg e:Expr}{te:TE}{g:TG}(he:PE X e te)(hg:PG X tg g)(hs:swapsWithSole [tg] e pos.line X.env=pure false:=by rfl)(hw:swappedStores [tg] e X.env=pure Xc:=by rfl)
  (h1:(T2 [tg] X.env).map (·.2)=[assign tg X.env]:=by rfl):PS X (.Assign [tg] e pos) (GP te g):=by
 intro pins s B H D I h
 refine wpAny_Assign_stores (Ë (he pins s B H _ I h) λv s1 ⟨x,H1,I1,r1,q1⟩=>?_) hs hw
 rw[h1]
 exact Ë (hg pins s1 B H1 x v _ I1 r1 q1) λ_ s2 q=>q
theorem Kk{i:Nat}{x:Str}{e:Expr}{te:TE}{pos':Pos}(hN:X.N.Nodup)(hi:X.N[i]?=Xb x)(hx:Loc X.env.scope x)(he:PE X e te)(hs:U2 e (Xb (.Name x pos')) pos.line X.env=pure false:=by rfl)(hf:X.fn x=true\/X.env.scope.names.lookup x=Xb .local:=by first|exact .inl rfl|exact .inr rfl|assumption) :
  PS X (.Assign [.Name x pos'] e pos) (GP te (uC i)):=by
 intro pins s B H D I h
 refine wpAny_Assign_Name (Ë (he pins s B H _ I h) λv s1 ⟨y,H1,I1,r1,q1⟩=>?_) hs
 exact ux I1 hN hi hx r1 (λs2 I2=>{_,H1,I2,q1}) hf
def Nf(i:Nat)(te:TE)(ti:TIp):TS:=λD B H=>∃x,B[i]?=Xb (Xb x)/\te B H λy H1=>ti x y H1 λz H2=>D.nx (B.set i (Xb z)) H2
theorem FI{i:Nat}{x:Str}{e:Expr}{te:TE}{op:Operator}{ti:TIp}{pos':Pos}(hN:X.N.Nodup)(hi:X.N[i]?=Xb x)(hx:Loc X.env.scope x)(he:PE X e te)(ho:PIp X op ti)(hf:X.fn x=true\/X.env.scope.names.lookup x=Xb .local:=by first|exact .inl rfl|exact .inr rfl|assumption) :
  PS X (.AugAssign (.Name x pos') op e pos) (Nf i te ti):=by
 intro pins s B H D I h
 obtain⟨v,e1,h⟩:=h
 obtain⟨m,hn,hl⟩:=I.loc
 have vis:Vis X.env.scope x:=by rcases hx with k|k;exact .inl k;exact .inr (.inl k)
 obtain⟨u,r,l⟩:=hl i x v hi e1 vis
 refine wpAny_AugAssign_Name ?_
 have go:wpAny (Ri X.prog X.w) X.A (RB e X.env) (λw s₂=>wpAny (Ri X.prog X.w) X.A (inplaceOp op u w) (λr s₃=>wpAny (Ri X.prog X.w) X.A (WV X.env x r) (λ_=>SP X pins D .next) X.xe s₃) X.xe s₂) X.xe s:=by
  refine Ë (he pins s B H _ I h) λw s1 z9=>?_;obtain⟨y,H1,I1,r1,q1⟩:=z9;refine Ë (ho pins s1 B H1 v y u w _ I1 r r1 q1) λz s2 z9=>?_;obtain⟨zv,H2,I2,r2,q2⟩:=z9;exact ux I2 hN hi hx r2 (λs3 I3=>{_,H2,I3,q2}) hf
 rcases l with⟨hk,hm⟩|⟨hk,c,hc,ą⟩
 ·exact UR I.ok.kind hk hn hm go
 rcases hk with hk|hk
 ·exact U7 I.ok.kind hk hc ą go
 rcases hx with k|k
 ·have:X.env.scope.names.lookup x=Xb .free:=hk;rw[k]at this;cases this
 have:X.env.scope.names.lookup x=Xb .free:=hk
 rw[k]at this;cases this
def ipI(f:Int->Int->Int):TIp:=λx y H Q=>∃i j,x=.int i/\y=.int j/\Q (.int (f i j)) H
theorem D6:PIp X .Add (ipI λi j=>i+j):=by
 intro pins s B H x y v u Q I r1 r2 h;obtain⟨i,j,e1,e2,q⟩:=h;subst e1;subst e2;obtain⟨t,rfl⟩:=r1;obtain⟨t',rfl⟩:=r2;exact iadd_int {.int _,H,I.tok _,{_,rfl},q}
def JD(c:TT)(tb:TS):TS:=λD B H=>∃W:Nat->St->Hp->Prop,(∃m,W m B H)/\∀m B H,W m B H->
 c B H λb H1=>if b=true then ∃N:St->Hp->Prop,(∀B' H',N B' H'->∃m',m'<m/\W m' B' H')/\tb { D with nx:=N,ct:=N,bk:=D.nx } B H1 else D.nx B H1
theorem zp{c:Expr}{body:List Rl}{tc:TT}{tb:TS}(hp:WW (Ri X.prog X.w) X.A X.env X.xe)(hc:PT X c tc)(hb:ď X body tb):PS X (.While c body [] pos) (JD tc tb):=by
 intro pins s B H D I h;obtain⟨W,⟨m0,w0⟩,turn⟩:=h;refine wpAny_While (codeAny_whileLoop (λn s'=>NP X pins (W n) s') ?_ m0 ⟨B,H,I,w0⟩);rintro n s1 ⟨σ1,H1,I1,w1⟩;refine Sn hp (Ë (hc pins s1 σ1 H1 _ I1 (turn n σ1 H1 w1)) λb s2 z9=>?_);obtain⟨H2,I2,q2⟩:=z9;cases b with
 |true=>
  obtain⟨N,hN,q2⟩:=q2;rw[if_pos rfl];refine Sn hp (Ë (hb pins s2 σ1 H2 _ I2 q2) λf s3 q3=>?_);cases f with
  |next=>
   obtain⟨σ3,H3,I3,n3⟩:=q3;obtain⟨m',hm,w3⟩:=hN σ3 H3 n3;exact⟨m',hm,σ3,H3,I3,w3⟩
  |cont=>
   obtain⟨σ3,H3,I3,n3⟩:=q3;obtain⟨m',hm,w3⟩:=hN σ3 H3 n3;exact⟨m',hm,σ3,H3,I3,w3⟩
  |brk=>exact q3
  |ret v=>exact q3
 |false=>
  rw[if_neg Of];exact TJ ⟨σ1,H2,I2,q2⟩
end
structure It where
 go:Nat->Hp->Prop
 ϐ:Nat->Hp->V->Hp->Prop
 stop:Nat->Hp->Prop
def um(X:Cx)(pins:List (Q1×Obj))(H:Hp)(b:Q1):Prop:=
 H b=Xc/\b≠X.env.locals/\b∉X.fs/\(b∈X.ex\/X.s₀.heap.objs.size<=b)/\(∀x c,X.env.cells.lookup x=Xb c->c≠b)/\∀p∈X.pn++pins,p.1≠b
theorem Inv.yY{X:Cx}{pins:List (Q1×Obj)}{B:St}{H H':Hp}{s:Q3}{b:Q1}(I:Inv X pins B H s)(hb:s.heap.objs.size<=b)(hn:H' b=Xc):um X pins H' b:=by
 refine{hn,Py (OA I.lt hb),I.Mq hb,.inr (Ol I.sz hb),λx c e z=>?_,λp hp z=>?_}
 ·obtain⟨v,q⟩:=I.cell x c e;exact absurd (OA q.lt (by rw[z];exact hb)) (OL _)
 exact absurd (OA (Rc (I.pin p hp).1) (by rw[z];exact hb)) (OL _)
structure XA(P:Program)(w:Rh)(K:Q6)(tg:Expr)(J:It)(fp:List Q1)(it:Q1)(tn:Nat->Rp->Prop):Prop where
 mem:it∈fp
 obj:∀i h,tn i h->∀b∈fp,∃o,h.get? b=Xb o/\∀v,o.data≠ .cell v
 keep:∀i h h',tn i h->(∀b∈fp,∀o,h.get? b=Xb o->h'.get? b=Xb o)->tn i h'
 item:∀(X:Cx),X.prog=P->X.w=w->X.K=K->X.calm=true->∀(i:Nat)(pins:List (Q1×Obj))(s:Q3)(B:St)(H:Hp)(E:Q0->Q3->Prop),Inv X pins B H s->(∀b∈fp,um X pins H b)->tn i s.heap->J.go i H->
  wpAny (Ri P w) X.A (US (.ref it)) (λr s1=>∃u,r=Xb u/\
   wpAny (Ri P w) X.A (TK tg (.ref it) u) (λ_ s2=>∃x H',Inv X pins B H' s2/\Xh x u/\J.ϐ i H x H'/\tn (i+1) s2.heap/\∀b∈fp,H' b=Xc) E s1) E s
 done:∀(X:Cx),X.prog=P->X.w=w->X.K=K->X.calm=true->∀(i:Nat)(pins:List (Q1×Obj))(s:Q3)(B:St)(H:Hp)(E:Q0->Q3->Prop),Inv X pins B H s->(∀b∈fp,um X pins H b)->tn i s.heap->J.stop i H->
  wpAny (Ri P w) X.A (US (.ref it)) (λr s1=>r=Xc/\Inv X pins B H s1) E s
 self:∀(A:Rv)(i:Nat)(s:Q3)(Q:Q0->Q3->Prop)(E:Q0->Q3->Prop),tn i s.heap->Q (.ref it) s->wpAny (Ri P w) A (W6 (.ref it)) Q E s
abbrev TI:=St->Hp->(It->Hp->Prop)->Prop
def PIE(X:Cx)(pins:List (Q1×Obj))(B:St)(tg:Expr)(R:It->Hp->Prop)(itv:Q0)(s2:Q3):Prop:=
 ∃(it:Q1)(fp:List Q1)(tn:Nat->Rp->Prop)(J:It)(H':Hp),itv=.ref it/\Inv X pins B H' s2/\XA X.prog X.w X.K tg J fp it tn/\tn 0 s2.heap/\(∀b∈fp,um X pins H' b)/\R J H'
def PI(X:Cx)(tg iter:Expr)(wi:TI):Prop:=
 ∀(pins:List (Q1×Obj))(s:Q3)(B:St)(H:Hp)(R:It->Hp->Prop),Inv X pins B H s->wi B H R->
  wpAny (Ri X.prog X.w) X.A (RB iter X.env) (λv s1=>wpAny (Ri X.prog X.w) X.A (W6 v) (PIE X pins B tg R) X.xe s1) X.xe s
theorem zc{M:Model}{A:Rv}{E:Q0->Q3->Prop}{s:Q3}{tg:Expr}{it:Q1}{u:Q0}{o:Obj}{n:String}{vs:Array Q0}{Q:Unit->Q3->Prop}(ho:s.heap.get? it=Xb o)(hc:o.cls=.type n)(hd:o.data=.fields vs)
    (hn:["enumerate","zip","dict_itemiterator","dict_reverseitemiterator","odict_iterator","itertools.zip_longest","itertools.pairwise"].contains n=false) (hQ:Q Unit.unit s):wpAny M A (TK tg (.ref it) u) Q E s:=by
  unfold TK
  cases tg<;>first
    |exact Q4 hQ
    | (cases u<;>first
        |exact Q4 hQ
        | (refine QZ (Vm ho ?_)
           rw[hc,hd]
           show wpAny M A (if(["enumerate","zip","dict_itemiterator","dict_reverseitemiterator","odict_iterator","itertools.zip_longest","itertools.pairwise"].contains n&&vs[0]?==Xb (Ux _))=true then _ else _) Q E s
           rw[if_neg (by intro h;rw[hn,Wt]at h;cases h)]
           exact Q4 hQ))
def Itl(K:Q6)(a:Q1):It:=
 {λi H=>∃xs x,À K H a xs/\xs[i]?=Xb x,λi H x H'=>H'=H/\∀xs,À K H a xs->xs[i]?=Xb x,λi H=>∃xs,À K H a xs/\xs.length<=i}
def Itt(K:Q6)(a:Q1):It:=
 {λi H=>∃xs x,É K H a xs/\xs[i]?=Xb x,λi H x H'=>H'=H/\∀xs,É K H a xs->xs[i]?=Xb x,λi H=>∃xs,É K H a xs/\xs.length<=i}
def Υ(lo:Int)(n:Nat):It:={λi _=>i<n,λi H x H'=>H'=H/\x=.int (lo+i),λi _=>n<=i}
theorem DD{P:Program}{w:Rh}{K:Q6}{tg:Expr}(a it:Q1):XA P w K tg (Itl K a) [it] it (λi h=>h.IsListIter it a i) where
 mem:=by simp
 obj:=λi h st b hb=>by
  have e:b=it:=by simpa using hb
  subst e;obtain⟨o,e,c,d⟩:=st;exact{o,e,λv z=>by rw[d]at z;cases z}
 keep:=λi h h' st k=>st.at λo e=>k it (by simp) o e
 item:=by
  intro X hP hw hK hc i pins s B H E I hf st hg;subst hP hw hK;obtain⟨xs,x,hq,hx⟩:=hg;obtain⟨Â,rv,p,hz⟩:=I.list hq;obtain⟨u,hu,ru⟩:=rv.get hx;obtain⟨f0,f1,f2,f3,f4,f5⟩:=hf it (by simp);refine Uy st p.isList (x:=u) (by simpa using hu) λh' ĥ sb=>?_;have I1:Inv X pins B H { s with heap:=h' }:=I.turned (t':=s.toks) (λb o hb e=>(sb.2 b hb).trans e) f0 f1 f3 f4 f5;obtain⟨o,e,c,d⟩:=id ĥ;exact{u,rfl,zc (s:={ s with heap:=h' }) e c d ∅ ⟨x,H,I1,ru,⟨rfl,λys hy=>by rw[I.uA hy hq];exact hx⟩,ĥ,λb hb=>(hf b hb).1⟩}
 done:=by
  intro X hP hw hK hc i pins s B H E I hf st hg;subst hP hw hK;obtain⟨xs,hq,hx⟩:=hg;obtain⟨Â,rv,p,hz⟩:=I.list hq;obtain⟨f0,f1,f2,f3,f4,f5⟩:=hf it (by simp);have hl:=rv.length;exact UK (I.ok.hd hc) st p.isList (by simp;lia) λh' eb=>{rfl,I.turned (t':=s.toks) (λb o hb e=>eb b o hb e) f0 f1 f3 f4 f5}
 self:=λ_ _ _ _ _ st h=>wpAny_pyIter_listiter st h
theorem Aq{P:Program}{w:Rh}{K:Q6}{tg:Expr}(a it:Q1):XA P w K tg (Itt K a) [it] it (λi h=>h.IsTupleIter it a i) where
 mem:=by simp
 obj:=λi h st b hb=>by
  have e:b=it:=by simpa using hb
  subst e;obtain⟨o,e,c,d⟩:=st;exact{o,e,λv z=>by rw[d]at z;cases z}
 keep:=λi h h' st k=>st.at λo e=>k it (by simp) o e
 item:=by
  intro X hP hw hK hc i pins s B H E I hf st hg;subst hP hw hK;obtain⟨xs,x,hq,hx⟩:=hg;obtain⟨Â,rv,p,hz⟩:=I.tuple hq;obtain⟨u,hu,ru⟩:=rv.get hx;obtain⟨f0,f1,f2,f3,f4,f5⟩:=hf it (by simp);refine wpAny_pyNext_tuple_item st (show s.heap.IsTuple a Â.toArray from p) (x:=u) (by simpa using hu) λh' ĥ sb=>?_;have I1:Inv X pins B H { s with heap:=h' }:=I.turned (t':=s.toks) (λb o hb e=>(sb.2 b hb).trans e) f0 f1 f3 f4 f5;obtain⟨o,e,c,d⟩:=id ĥ;exact{u,rfl,zc (s:={ s with heap:=h' }) e c d ∅ ⟨x,H,I1,ru,⟨rfl,λys hy=>by rw[I.DN hy hq];exact hx⟩,ĥ,λb hb=>(hf b hb).1⟩}
 done:=by
  intro X hP hw hK hc i pins s B H E I hf st hg;subst hP hw hK;obtain⟨xs,hq,hx⟩:=hg;obtain⟨Â,rv,p,hz⟩:=I.tuple hq;obtain⟨f0,f1,f2,f3,f4,f5⟩:=hf it (by simp);have hl:=rv.length;exact wpAny_pyNext_tuple_end (I.ok.hd hc) st (show s.heap.IsTuple a Â.toArray from p) (by simp;lia) λh' eb=>{rfl,I.turned (t':=s.toks) (λb o hb e=>eb b o hb e) f0 f1 f3 f4 f5}
 self:=λ_ _ _ _ _ st h=>wpAny_pyIter_tupleiter st h
theorem A3{P:Program}{w:Rh}{K:Tf}{tg:Expr}(it:Q1)(lo:Int)(n:Nat):XA P w K tg (Υ lo n) [it] it (λi h=>IsRangeIter h it (lo+(i:Nat)*1) ((n:Int)-(i:Nat)) 1) where
 mem:=by simp
 obj:=λi h st b hb=>by
  have e:b=it:=by simpa using hb
  subst e;exact⟨_,st,λv z=>by
   have z':Data.fields _=VY v:=z;cases z'⟩
 keep:=λi h h' st k=>k it (by simp) _ st
 item:=by
  intro X hP hw hK hc i pins s B H E I hf st hg;subst hP hw hK;obtain⟨f0,f1,f2,f3,f4,f5⟩:=hf it (by simp);have W:=Walks.range (prog:=X.prog) (w:=X.w) (I.ok.hd hc) it lo 1 n;refine W.item i s _ _ hg st λv h' tk hv ĥ kk=>?_;obtain⟨t,rfl⟩:=hv;have I1:Inv X pins B H { s with heap:=h',toks:=tk }:=I.turned (λb o hb e=>kk b o (by simpa using hb) e) f0 f1 f3 f4 f5;refine⟨_,rfl,zc (s:={ s with heap:=h',toks:=tk }) (n:="range_iterator") ĥ rfl rfl ∅ ⟨.int (lo+i),H,I1,⟨t,?_⟩,⟨rfl,rfl⟩,ĥ,λb hb=>(hf b hb).1⟩⟩;rw[QA]
 done:=by
  intro X hP hw hK hc i pins s B H E I hf st hg;subst hP hw hK;obtain⟨f0,f1,f2,f3,f4,f5⟩:=hf it (by simp);exact wpAny_pyNext_range_end (I.ok.hd hc) st (by have:n<=i:=hg;lia) λh' eb=>{rfl,I.turned (t':=s.toks) (λb o hb e=>eb b o hb e) f0 f1 f3 f4 f5}
 self:=λ_ _ _ _ _ st h=>wpAny_pyIter_rangeiter st h
section
variable{X:Cx}{tg:Expr}
theorem yA{pins:List (Q1×Obj)}{B:St}{H:Hp}{s:Q3}{R:It->Hp->Prop}{E:Q0->Q3->Prop}{lo hi:Int}{t u v:Tok}{tk:Nat}(I:Inv X pins B H s)(h1:-(2^62)<=lo)(h2:lo<2^62)(h3:-(2^62)<=hi)(h4:hi<2^62)
  (q:R (Υ lo (hi-lo).toNat) H):wpAny (Ri X.prog X.w) X.A (W6 (.ref s.heap.objs.size)) (PIE X pins B tg R) E { s with heap:=s.heap.push { cls:=.type "range",data:=.fields #[.int lo t,.int hi u,.int 1 v] },toks:=tk }:=by
 refine wpAny_pyIter_range (IsRange.new ..) (small_one h1 h2 h3 h4) ?_
 have I1:Inv X pins B H { s with heap:=s.heap.push { cls:=.type "range",data:=.fields #[.int lo t,.int hi u,.int 1 v] },toks:=tk }:=I.kept λb o e=>Q5 _ e
 refine⟨(s.heap.push { cls:=.type "range",data:=.fields #[.int lo t,.int hi u,.int 1 v] }).objs.size,[(s.heap.push { cls:=.type "range",data:=.fields #[.int lo t,.int hi u,.int 1 v] }).objs.size],_,_,H,rfl,
  I1.kept (t':=tk) λb o e=>Q5 _ e,A3 _ lo (hi-lo).toNat,?_,λb hb=>?_,q⟩
 ·have e1:lo+((0:Nat):Int)*1=lo:=by simp
  have e2:(((hi-lo).toNat:Nat):Int)-((0:Nat):Int)=Builtin.Range.rangeSize lo hi 1:=by rw[rangeSize_one];split<;>lia
  show IsRangeIter _ _ (lo+((0:Nat):Int)*1) ((((hi-lo).toNat:Nat):Int)-((0:Nat):Int)) 1;rw[e1,e2];exact Rf _ rfl
 have e:b=(s.heap.push { cls:=.type "range",data:=.fields #[.int lo t,.int hi u,.int 1 v] }).objs.size:=by simpa using hb
 subst e
 exact I1.yY (Oc _) (I1.Ç.fresh (Oc _))
inductive ML(vs:List V)(H:Hp)(R:It->Hp->Prop):Prop
 |mk(j:Int)(h0:vs=[.int j])(h1:-(2^62)<=j)(h2:j<2^62)(q:R (Υ 0 j.toNat) H):ML vs H R
def LX(ta:TA):TI:=λB H R=>ta B H λvs H1=>ML vs H1 R
def Mj(ta:TA):TI:=λB H R=>ta B H λvs H1=>∃i j:Int,vs=[.int i,.int j]/\(-(2^62)<=i/\i<2^62/\-(2^62)<=j/\j<2^62)/\R (Υ i (j-i).toNat) H1
theorem qX{a:Expr}{ta:TA}{p pos:Pos}(hg:Gl X "range")(hm:X.mg "range"=Xc)(ha:PA X [a] ta)(hs:Q8 [a] X.env=[(false,RB a X.env)]:=by rfl):PI X tg (.Call (.Name "range" p) [a] [] pos) (LX ta):=by
 intro pins s B H R I h;refine Call_ (jL I hg hm boot_range (RD (Ë (ha pos pins s B H _ I h) λus s1 ⟨vs,H1,I1,r1,q1⟩=>?_) hs rfl));obtain⟨j,e,q1,q2,q⟩:=q1;subst e;cases r1 with
 |cons r rr=>
  cases rr;obtain⟨t,rfl⟩:=r;exact call_range_1 (yA I1 () () q1 q2 (by simpa using q))
theorem rH{a b:Expr}{ta:TA}{p pos:Pos}(hg:Gl X "range")(hm:X.mg "range"=Xc)(ha:PA X [a,b] ta)(hs:Q8 [a,b] X.env=[(false,RB a X.env),(false,RB b X.env)]:=by rfl)(Ő:Q8 [b] X.env=[(false,RB b X.env)]:=by rfl) :
  PI X tg (.Call (.Name "range" p) [a,b] [] pos) (Mj ta):=by
 intro pins s B H R I h
 refine Call_ (jL I hg hm boot_range (RD (Ë (ha pos pins s B H _ I h) λus s1 ⟨vs,H1,I1,r1,q1⟩=>?_) (by rw[hs,Ő]) (by rw[Ő];rfl)))
 obtain⟨i,j,e,⟨q1,q2,q3,q4⟩,q⟩:=q1
 subst e
 cases r1 with
 |cons r rr=>
  cases rr with
  |cons r' rr=>
   cases rr
   obtain⟨t,rfl⟩:=r
   obtain⟨t',rfl⟩:=r'
   exact call_range_2 (yA I1 q1 q2 q3 q4 q)
def NU(wi:TI)(g:TG)(tb:TS):TS:=λD B H=>wi B H λJ H1=>∃W:Nat->Nat->St->Hp->Prop,(∃m,W 0 m B H1)/\∀i m B H,W i m B H->
 (J.stop i H/\D.nx B H)\/(J.go i H/\∃N:St->Hp->Prop,(∀B' H',N B' H'->∃m',m'<m/\W (i+1) m' B' H')/\∀x H',J.ϐ i H x H'->g x B H' λσ2 H2=>tb { D with nx:=N,ct:=N,bk:=D.nx } σ2 H2)
def uJ(fp:List Q1)(h:Rp):List (Q1×Obj):=fp.filterMap λb=>(h.get? b).map λo=>(b,o)
theorem lX{fp:List Q1}{h:Rp}{b:Q1}{o:Obj}(hb:b∈fp)(e:h.get? b=Xb o):(b,o)∈uJ fp h:=Qk.mpr {b,hb,by rw[e];rfl}
theorem C4{fp:List Q1}{h:Rp}{p:Q1×Obj}(hp:p∈uJ fp h):p.1∈fp/\h.get? p.1=Xb p.2:=by
 obtain⟨b,hb,e⟩:=Qk.mp hp;cases q:h.get? b with
 |none=>rw[q]at e;cases e
 |some o=>
  rw[q]at e;have e':(b,o)=p:=Q9 e;subst e';exact⟨hb,q⟩
theorem Inv.pinned{pins:List (Q1×Obj)}{B:St}{H:Hp}{s:Q3}{fp:List Q1}(I:Inv X pins B H s)(hf:∀b∈fp,um X pins H b)(ho:∀b∈fp,∃o,s.heap.get? b=Xb o/\∀v,o.data≠ .cell v):Inv X (pins++uJ fp s.heap) B H s:=
 I.yk λp hp=>(Og.mp hp).elim (λz=>I.pin p (Od _ z)) λz=>by
  obtain⟨hb,e⟩:=C4 z;obtain⟨f0,f1,f2,_⟩:=hf p.1 hb;obtain⟨o,e',d⟩:=ho p.1 hb;rw[e]at e';cases e';exact⟨e,f0,f1,f2,d⟩
theorem Inv.mG{pins pl:List (Q1×Obj)}{B:St}{H:Hp}{s:Q3}(I:Inv X (pins++pl) B H s):Inv X pins B H s:=I.yk λp hp=>I.pin p (Od _ (Oh _ hp))
theorem b6{iter:Expr}{body:List Rl}{wi:TI}{g:TG}{tb:TS}{pos:Pos}(hp:WW (Ri X.prog X.w) X.A X.env X.xe)(hc:X.calm=true)(hi:PI X tg iter wi)(hg:PG X tg g)(hb:ď X body tb)
  (hs:∀x,foldedSetIterable iter X.env x=pure x:=by intro _;rfl):PS X (.For tg iter body [] pos) (NU wi g tb):=by
 intro pins s B H D I h
 refine wpAny_For (Ë (hi pins s B H _ I h) λv s1 h1=>Ë h1 λitv s2 h2=>?_) hs
 obtain⟨it,fp,tn,J,H2,e,I2,T,st2,f2,W,⟨m0,w0⟩,turn⟩:=h2
 subst e
 have ľ:∀{H':Hp},(∀b∈fp,H' b=Xc)->∀b∈fp,um X pins H' b:=λhn b hb=>{hn b hb,(f2 b hb).2}
 refine codeAny_forLoop_any (λn s'=>∃i B' H',Inv X pins B' H' s'/\tn i s'.heap/\(∀b∈fp,H' b=Xc)/\W i n B' H') ?_ m0 {0,B,H2,I2,st2,λb hb=>(f2 b hb).1,w0}
 rintro n s3 ⟨i,σ3,H3,I3,st3,fr3,w3⟩
 rcases turn i n σ3 H3 w3 with⟨stop,qn⟩|⟨go,N,hN,step⟩
 ·refine Sn hp (Ë (T.done X rfl rfl rfl hc i pins s3 σ3 H3 X.xe I3 (ľ fr3) st3 stop) λr s4 z9=>?_);obtain⟨hr,I4⟩:=z9;subst hr;exact TJ ⟨σ3,H3,I4,qn⟩
 refine Sn hp (Ë (T.item X rfl rfl rfl hc i pins s3 σ3 H3 X.xe I3 (ľ fr3) st3 go) λr s4 z9=>?_);obtain⟨u,hr,h4⟩:=z9
 subst hr
 refine Sn hp (Ë h4 λ_ s5 z9=>?_);obtain⟨x,H5,I5,r5,y5,ñ,fr5⟩:=z9
 have I5':=I5.pinned (ľ fr5) (T.obj _ _ ñ)
 refine Sn hp (Ë (hg _ s5 σ3 H5 x u _ I5' r5 (step x H5 y5)) λ_ s6 z9=>?_);obtain⟨σ6,H6,I6,q6⟩:=z9
 refine Sn hp (Ë (hb _ s6 σ6 H6 _ I6 q6) λf s7 q7=>?_)
 have again:∀{σ7:St}{H7:Hp},Inv X (pins++uJ fp s5.heap) σ7 H7 s7->N σ7 H7->∃m,m<n/\∃i B' H',Inv X pins B' H' s7/\tn i s7.heap/\(∀b∈fp,H' b=Xc)/\W i m B' H':=λ{σ7 H7} I7 n7=>by
  obtain⟨m',hm,w7⟩:=hN σ7 H7 n7;refine{m',hm,i+1,σ7,H7,I7.mG,T.keep _ _ _ ñ λb hb o e=>(I7.pin (b,o) (Od _ (Od _ (lX hb e)))).1,λb hb=>?_,w7};obtain⟨o,e,d⟩:=T.obj _ _ ñ b hb;exact(I7.pin (b,o) (Od _ (Od _ (lX hb e)))).2.1
 cases f with
 |next=>obtain⟨σ7,H7,I7,n7⟩:=q7;exact again I7 n7
 |cont=>obtain⟨σ7,H7,I7,n7⟩:=q7;exact again I7 n7
 |brk=>obtain⟨σ7,H7,I7,q7⟩:=q7;exact⟨σ7,H7,I7.mG,q7⟩
 |ret v=>obtain⟨x7,σ7,H7,I7,r7,q7⟩:=q7;exact⟨x7,σ7,H7,I7.mG,r7,q7⟩
end
theorem bP{K:Tf}{a:Q1}{xs:List V}{g:TG}{tb:TS}{D:Xv}{B:St}{H:Hp}(Pv:Nat->St->Hp->Prop)(h0:Pv 0 B H)(hl:∀i B H,i<=xs.length->Pv i B H->À K H a xs)
  (hs:∀i x B H,xs[i]?=Xb x->Pv i B H->g x B H λσ2 H2=>tb { D with nx:=Pv (i+1),ct:=Pv (i+1),bk:=D.nx } σ2 H2) (hd:∀B H,Pv xs.length B H->D.nx B H) :
  ∃W:Nat->Nat->St->Hp->Prop,(∃m,W 0 m B H)/\∀i m B H,W i m B H->
   ((Itl K a).stop i H/\D.nx B H)\/((Itl K a).go i H/\∃N:St->Hp->Prop,(∀B' H',N B' H'->∃m',m'<m/\W (i+1) m' B' H')/\∀x H',(Itl K a).ϐ i H x H'->g x B H' λσ2 H2=>tb { D with nx:=N,ct:=N,bk:=D.nx } σ2 H2):=by
 refine{λi m B H=>m=xs.length-i/\i<=xs.length/\Pv i B H,{xs.length,by simp,Oj _,h0},?_}
 rintro i m B H ⟨rfl,hi,p⟩
 have q:=hl i B H hi p
 by_cases í:i<xs.length
 ·refine .inr {{xs,xs[i],q,by simp[í]},Pv (i+1),λB' H' p'=>{xs.length-(i+1),(),rfl,í,p'},λx H' y=>?_};obtain⟨e,y⟩:=y;subst e;exact hs i x B _ (y xs q) p
 have e:i=xs.length:=()
 subst e
 exact .inl {{xs,q,Oc _},hd B H p}
theorem Ip{K:Tf}{a:Q1}{xs:List V}{g:TG}{tb:TS}{D:Xv}{B:St}{H:Hp}(Pv:Nat->St->Hp->Prop)(h0:Pv 0 B H)(hl:∀i B H,i<=xs.length->Pv i B H->É K H a xs)
  (hs:∀i x B H,xs[i]?=Xb x->Pv i B H->g x B H λσ2 H2=>tb { D with nx:=Pv (i+1),ct:=Pv (i+1),bk:=D.nx } σ2 H2) (hd:∀B H,Pv xs.length B H->D.nx B H) :
  ∃W:Nat->Nat->St->Hp->Prop,(∃m,W 0 m B H)/\∀i m B H,W i m B H->
   ((Itt K a).stop i H/\D.nx B H)\/((Itt K a).go i H/\∃N:St->Hp->Prop,(∀B' H',N B' H'->∃m',m'<m/\W (i+1) m' B' H')/\∀x H',(Itt K a).ϐ i H x H'->g x B H' λσ2 H2=>tb { D with nx:=N,ct:=N,bk:=D.nx } σ2 H2):=by
 refine{λi m B H=>m=xs.length-i/\i<=xs.length/\Pv i B H,{xs.length,by simp,Oj _,h0},?_}
 rintro i m B H ⟨rfl,hi,p⟩
 have q:=hl i B H hi p
 by_cases í:i<xs.length
 ·refine .inr {{xs,xs[i],q,by simp[í]},Pv (i+1),λB' H' p'=>{xs.length-(i+1),(),rfl,í,p'},λx H' y=>?_};obtain⟨e,y⟩:=y;subst e;exact hs i x B _ (y xs q) p
 have e:i=xs.length:=()
 subst e
 exact .inl {{xs,q,Oc _},hd B H p}
theorem nZ{lo:Int}{n:Nat}{g:TG}{tb:TS}{D:Xv}{B:St}{H:Hp}(Pv:Nat->St->Hp->Prop)(h0:Pv 0 B H)
  (hs:∀i B H,i<n->Pv i B H->g (.int (lo+i)) B H λσ2 H2=>tb { D with nx:=Pv (i+1),ct:=Pv (i+1),bk:=D.nx } σ2 H2) (hd:∀B H,Pv n B H->D.nx B H) :
  ∃W:Nat->Nat->St->Hp->Prop,(∃m,W 0 m B H)/\∀i m B H,W i m B H->
   ((Υ lo n).stop i H/\D.nx B H)\/((Υ lo n).go i H/\∃N:St->Hp->Prop,(∀B' H',N B' H'->∃m',m'<m/\W (i+1) m' B' H')/\∀x H',(Υ lo n).ϐ i H x H'->g x B H' λσ2 H2=>tb { D with nx:=N,ct:=N,bk:=D.nx } σ2 H2):=by
 refine{λi m B H=>m=n-i/\i<=n/\Pv i B H,{n,by simp,Oj _,h0},?_}
 rintro i m B H ⟨rfl,hi,p⟩
 by_cases í:i<n
 ·refine .inr {í,Pv (i+1),λB' H' p'=>{n-(i+1),(),rfl,í,p'},λx H' y=>?_};obtain⟨e,y⟩:=y;subst e y;exact hs i B _ í p
 have e:i=n:=()
 subst e
 exact .inl {Oc _,hd B H p}
abbrev R2:=V->V->Hp->VK->Prop
def Ô(X:Cx)(f:Q0->Q0->Sem Q0)(r:R2):Prop:=
 ∀(pins:List (Q1×Obj))(s:Q3)(B:St)(H:Hp)(x y:V)(v u:Q0)(Q:VK),Inv X pins B H s->Xh x v->Xh y u->r x y H Q->
  wpAny (Ri X.prog X.w) X.A (f v u) (EP X pins B Q) X.xe s
def UnR(X:Cx)(f:Q0->Sem Q0)(r:V->Hp->VK->Prop):Prop:=
 ∀(pins:List (Q1×Obj))(s:Q3)(B:St)(H:Hp)(x:V)(v:Q0)(Q:VK),Inv X pins B H s->Xh x v->r x H Q->
  wpAny (Ri X.prog X.w) X.A (f v) (EP X pins B Q) X.xe s
def eK(X:Cx)(f:Q0)(r:List V->Hp->VK->Prop):Prop:=
 ∀(pins:List (Q1×Obj))(s:Q3)(B:St)(H:Hp)(xs:List V)(us:List Q0)(Q:VK),Inv X pins B H s->Xf xs us->r xs H Q->
  wpAny (Ri X.prog X.w) X.A (call f us) (EP X pins B Q) X.xe s
def Nt(X:Cx)(r:V->Hp->(Bool->Hp->Prop)->Prop):Prop:=
 ∀(pins:List (Q1×Obj))(s:Q3)(B:St)(H:Hp)(x:V)(v:Q0)(Q:Bool->Hp->Prop),Inv X pins B H s->Xh x v->r x H Q->
  wpAny (Ri X.prog X.w) X.A (truthy v) (TP X pins B Q) X.xe s
def tOp(r:R2)(ta tb:TE):TE:=λB H Q=>ta B H λx H1=>tb B H1 λy H2=>r x y H2 Q
def tUn(r:V->Hp->VK->Prop)(ta:TE):TE:=λB H Q=>ta B H λx H1=>r x H1 Q
def rI(C:Int->Int->Prop)(g:Int->Int->V):R2:=λx y H Q=>∃i j,x=.int i/\y=.int j/\C i j/\Q (g i j) H
def ϔ(g:Int->Int->V):R2:=λx y H Q=>∃i j,x=.int i/\y=.int j/\Q (g i j) H
def rU(g:Int->V):V->Hp->VK->Prop:=λx H Q=>∃i,x=.int i/\Q (g i) H
section
variable{X:Cx}{a b c:Expr}{ta tb tc:TE}{pos:Pos}
theorem Kg(ha:PE X a ta)(hb:PE X b tb){pins:List (Q1×Obj)}{s:Q3}{B:St}{H:Hp}{R:V->V->Hp->Prop}(I:Inv X pins B H s)
  (h:ta B H λx H1=>tb B H1 λy H2=>R x y H2) {Q:Q0->Q3->Prop}{f:Q0->Q0->Sem Q0}
  (hf:∀v u s2 x y H2,Inv X pins B H2 s2->Xh x v->Xh y u->R x y H2->wpAny (Ri X.prog X.w) X.A (f v u) Q X.xe s2) :
  wpAny (Ri X.prog X.w) X.A (RB a X.env) (λv s₁=>wpAny (Ri X.prog X.w) X.A (RB b X.env) (λu s₂=>wpAny (Ri X.prog X.w) X.A (f v u) Q X.xe s₂) X.xe s₁) X.xe s:=by
 refine Ë (ha pins s B H _ I h) λv s1 z9=>?_;obtain⟨x,H1,I1,r1,q1⟩:=z9
 refine Ë (hb pins s1 B H1 _ I1 q1) λu s2 z9=>?_;obtain⟨y,H2,I2,r2,q2⟩:=z9
 exact hf v u s2 x y H2 I2 r1 r2 q2
theorem ax{op:Operator}{r:R2}(ho:Ô X (RU op) r)(ha:PE X a ta)(hb:PE X b tb):PE X (.BinOp a op b pos) (tOp r ta tb):=by
 intro pins s B H Q I h;exact wpAny_BinOp (Kg ha hb I h λv u s2 x y H2 I2 rx ry q=>ho pins s2 B H2 x y v u Q I2 rx ry q)
theorem MQ{op:UnaryOp}{r:V->Hp->VK->Prop}(ho:UnR X (unaryOp op) r)(ha:PE X a ta):PE X (.UnaryOp op a pos) (tUn r ta):=by
 intro pins s B H Q I h;exact UnaryOp_ (Ë (ha pins s B H _ I h) λv s1 ⟨x,H1,I1,r1,q1⟩=>ho pins s1 B H1 x v Q I1 r1 q1)
theorem opI{f:Q0->Q0->Sem Q0}{C:Int->Int->Prop}{g:Int->Int->Int}
  (rule:∀(i j:Int)(t u:Tok)(s:Q3)(Q:Q0->Q3->Prop)(E:Q0->Q3->Prop),C i j->Q (.int (g i j) s.toks) { s with toks:=s.toks+1 }->wpAny (Ri X.prog X.w) X.A (f (.int i t) (.int j u)) Q E s) :
  Ô X f (rI C λi j=>.int (g i j)):=by
 intro pins s B H x y v u Q I rx ry h
 obtain⟨i,j,rfl,rfl,hc,q⟩:=h
 obtain⟨t,rfl⟩:=rx
 obtain⟨t',rfl⟩:=ry
 exact rule i j t t' s _ _ hc {.int (g i j),H,I.tok _,{_,rfl},q}
theorem Lp{f:Q0->Q0->Sem Q0}{g:Int->Int->Int}
  (rule:∀(i j:Int)(t u:Tok)(s:Q3)(Q:Q0->Q3->Prop)(E:Q0->Q3->Prop),Q (.int (g i j) s.toks) { s with toks:=s.toks+1 }->wpAny (Ri X.prog X.w) X.A (f (.int i t) (.int j u)) Q E s) :
  Ô X f (ϔ λi j=>.int (g i j)):=by
 intro pins s B H x y v u Q I rx ry h
 obtain⟨i,j,rfl,rfl,q⟩:=h
 obtain⟨t,rfl⟩:=rx
 obtain⟨t',rfl⟩:=ry
 exact rule i j t t' s _ _ {.int (g i j),H,I.tok _,{_,rfl},q}
theorem Ib{f:Q0->Q0->Sem Q0}{g:Int->Int->Bool}
  (rule:∀(i j:Int)(t u:Tok)(s:Q3)(Q:Q0->Q3->Prop)(E:Q0->Q3->Prop),Q (.bool (g i j)) s->wpAny (Ri X.prog X.w) X.A (f (.int i t) (.int j u)) Q E s) :
  Ô X f (ϔ λi j=>.bl (g i j)):=by
 intro pins s B H x y v u Q I rx ry h
 obtain⟨i,j,rfl,rfl,q⟩:=h
 obtain⟨t,rfl⟩:=rx
 obtain⟨t',rfl⟩:=ry
 exact rule i j t t' s _ _ {.bl (g i j),H,I,rfl,q}
def Fq(i j:Int):Prop:=0<=j/\j<=1000000/\i.natAbs<2^64
def Dt(i j:Int):Prop:=(-(2^64)<i/\i<2^64)\/(-(2^64)<j/\j<2^64)
theorem Dt.ok{i j:Int}(h:Dt i j):IntMulOk i j:=by
 rcases h with⟨h1,h2⟩|⟨h1,h2⟩
 ·exact .of_left (intBits_le_64 h1 h2)
 exact .of_right (intBits_le_64 h1 h2)
theorem Jz:Ô X (RU .Add) (ϔ λi j=>.int (i+j)):=Lp λ_ _ _ _ _ _ _ q=>add_int q
theorem J4:Ô X (RU .Sub) (ϔ λi j=>.int (i-j)):=Lp λ_ _ _ _ _ _ _ q=>sub_int q
theorem Kd:Ô X (RU .Mult) (rI Dt λi j=>.int (i*j)):=opI λ_ _ _ _ _ _ _ hc q=>mul_int q hc.ok
theorem KP:Ô X (RU .Mod) (rI (λ_ j=>0<j) λi j=>.int (i%j)):=opI λi j _ _ _ _ _ hc q=>by
 have h1:(0:Int)<j:=hc;exact mod_int' () (by rw[Int.fmod_eq_emod_of_nonneg i ()];exact q)
theorem JC:Ô X (RU .Pow) (rI Fq λi j=>.int (i^j.toNat)):=opI λ_ _ _ _ _ _ _ hc q=>pow_int_small hc.1 hc.2.1 hc.2.2 q
theorem Ku:Ô X (RU .LShift) (rI Fq λi j=>.int (i*2^j.toNat)):=opI λ_ _ _ _ _ _ _ hc q=>lshift_int_small hc.1 hc.2.1 hc.2.2 q
theorem My:Ô X (RU .BitOr) (ϔ λi j=>.int (RH i j)):=Lp λ_ _ _ _ _ _ _ q=>or_int q
theorem unI{f:Q0->Sem Q0}{g:Int->Int}
  (rule:∀(i:Int)(t:Tok)(s:Q3)(Q:Q0->Q3->Prop)(E:Q0->Q3->Prop),Q (.int (g i) s.toks) { s with toks:=s.toks+1 }->wpAny (Ri X.prog X.w) X.A (f (.int i t)) Q E s) :
  UnR X f (rU λi=>.int (g i)):=by
 intro pins s B H x v Q I rx h
 obtain⟨i,rfl,q⟩:=h
 obtain⟨t,rfl⟩:=rx
 exact rule i t s _ _ {.int (g i),H,I.tok _,{_,rfl},q}
theorem Km:UnR X (unaryOp .USub) (rU λi=>.int (-i)):=unI λ_ _ _ _ _ q=>neg_int q
def DT:V->V->Bool
 | .Ê,.Ê=>true| .Ê,.int _=>true| .int _,.Ê=>true| .Ê,.bl _=>true| .bl _,.Ê=>true| .Ê,.str _=>true| .str _,.Ê=>true
 | .int _,.int _=>true| .bl _,.bl _=>true| .str _,.str _=>true| .Ĭ _,.Ĭ _=>true
 | .int _,.str _=>true| .str _,.int _=>true| .bl _,.str _=>true| .str _,.bl _=>true
 |_,_=>false
def rEq:R2:=λx y H Q=>DT x y=true/\Q (.bl (decide (x=y))) H
def rNe:R2:=λx y H Q=>DT x y=true/\Q (.bl (!decide (x=y))) H
theorem BA{i j:Int}:decide (V.int i=V.int j)=(i==j):=by
 rw[OW];simp
theorem EU{i j:Bool}:decide (V.bl i=V.bl j)=(i==j):=by
 rw[OW];simp
theorem CS{i j:Str}:decide (V.str i=V.str j)=(i==j):=by
 rw[OW];simp
theorem Cw{i j:Array UInt8}:decide (V.Ĭ i=V.Ĭ j)=(i.toList==j.toList):=by
 rw[OW];cases i;cases j;simp
theorem bM{pins:List (Q1×Obj)}{B:St}{H:Hp}{s:Q3}{Q:VK}{k k':Bool}(I:Inv X pins B H s)(q:Q (.bl k) H)(e:k=k'):EP X pins B Q (.bool k') s:=by
 subst e;exact⟨.bl k,H,I,rfl,q⟩
theorem Me:Ô X (Rk .Eq) rEq:=by
 intro pins s B H x y v u Q I rx ry h;obtain⟨hs,q⟩:=h;cases x with
 |Ê=>
  cases rx;cases y with
  |Ê=>cases ry;exact PySem.EqNone.eq_none_none (bM I q (by simp))
  |bl j=>cases ry;exact PySem.EqNone.eq_none_bool (bM I q (by simp))
  |int j=>obtain⟨t',rfl⟩:=ry;exact PySem.EqNone.eq_none_int (bM I q (by simp))
  |str j=>obtain⟨t',rfl⟩:=ry;exact PySem.EqNone.eq_none_str (bM I q (by simp))
  |_=>exact absurd (show false=true from hs) Of
 |bl i=>
  cases rx;cases y with
  |Ê=>cases ry;exact PySem.EqNone.eq_bool_none (bM I q (by simp))
  |bl j=>cases ry;exact eq_bool (bM I q EU)
  |str j=>obtain⟨t',rfl⟩:=ry;exact PySem.EqMixed.eq_bool_str (bM I q (by simp))
  |_=>exact absurd (show false=true from hs) Of
 |int i=>
  obtain⟨t,rfl⟩:=rx;cases y with
  |Ê=>cases ry;exact PySem.EqNone.eq_int_none (bM I q (by simp))
  |int j=>obtain⟨t',rfl⟩:=ry;exact eq_int (bM I q BA)
  |str j=>obtain⟨t',rfl⟩:=ry;exact PySem.EqMixed.eq_int_str (bM I q (by simp))
  |_=>exact absurd (show false=true from hs) Of
 |str i=>
  obtain⟨t,rfl⟩:=rx;cases y with
  |Ê=>cases ry;exact PySem.EqNone.eq_str_none (bM I q (by simp))
  |bl j=>cases ry;exact PySem.EqMixed.eq_str_bool (bM I q (by simp))
  |int j=>obtain⟨t',rfl⟩:=ry;exact PySem.EqMixed.eq_str_int (bM I q (by simp))
  |str j=>obtain⟨t',rfl⟩:=ry;exact eq_str (bM I q CS)
  |_=>exact absurd (show false=true from hs) Of
 |Ĭ i=>
  obtain⟨t,rfl⟩:=rx;cases y with
  |Ĭ j=>obtain⟨t',rfl⟩:=ry;exact W.eq_bytes (bM I q Cw)
  |_=>exact absurd (show false=true from hs) Of
 |_=>cases y<;>exact absurd (show false=true from hs) Of
theorem MP:Ô X (Rk .NotEq) rNe:=by
 intro pins s B H x y v u Q I rx ry h;obtain⟨hs,q⟩:=h;cases x with
 |Ê=>
  cases rx;cases y with
  |Ê=>cases ry;exact PySem.EqNone.ne_none_none (bM I q (by simp))
  |bl j=>cases ry;exact PySem.EqNone.ne_none_bool (bM I q (by simp))
  |int j=>obtain⟨t',rfl⟩:=ry;exact PySem.EqNone.ne_none_int (bM I q (by simp))
  |str j=>obtain⟨t',rfl⟩:=ry;exact PySem.EqNone.ne_none_str (bM I q (by simp))
  |_=>exact absurd (show false=true from hs) Of
 |bl i=>
  cases rx;cases y with
  |Ê=>cases ry;exact PySem.EqNone.ne_bool_none (bM I q (by simp))
  |bl j=>cases ry;exact ne_bool (bM I q (congrArg not EU))
  |str j=>obtain⟨t',rfl⟩:=ry;exact PySem.EqMixed.ne_bool_str (bM I q (by simp))
  |_=>exact absurd (show false=true from hs) Of
 |int i=>
  obtain⟨t,rfl⟩:=rx;cases y with
  |Ê=>cases ry;exact PySem.EqNone.ne_int_none (bM I q (by simp))
  |int j=>obtain⟨t',rfl⟩:=ry;exact ne_int (bM I q (congrArg not BA))
  |str j=>obtain⟨t',rfl⟩:=ry;exact PySem.EqMixed.ne_int_str (bM I q (by simp))
  |_=>exact absurd (show false=true from hs) Of
 |str i=>
  obtain⟨t,rfl⟩:=rx;cases y with
  |Ê=>cases ry;exact PySem.EqNone.ne_str_none (bM I q (by simp))
  |bl j=>cases ry;exact PySem.EqMixed.ne_str_bool (bM I q (by simp))
  |int j=>obtain⟨t',rfl⟩:=ry;exact PySem.EqMixed.ne_str_int (bM I q (by simp))
  |str j=>obtain⟨t',rfl⟩:=ry;exact ne_str (bM I q (congrArg not CS))
  |_=>exact absurd (show false=true from hs) Of
 |Ĭ i=>
  obtain⟨t,rfl⟩:=rx;cases y with
  |Ĭ j=>obtain⟨t',rfl⟩:=ry;exact W.ne_bytes (bM I q (congrArg not Cw))
  |_=>exact absurd (show false=true from hs) Of
 |_=>cases y<;>exact absurd (show false=true from hs) Of
theorem MS:Ô X (Rk .Lt) (ϔ λi j=>.bl (decide (i<j))):=Ib λ_ _ _ _ _ _ _ q=>lt_int q
theorem MK:Ô X (Rk .LtE) (ϔ λi j=>.bl (decide (i<=j))):=Ib λ_ _ _ _ _ _ _ q=>le_int q
theorem Mt:Ô X (Rk .Gt) (ϔ λi j=>.bl (decide (j<i))):=Ib λ_ _ _ _ _ _ _ q=>gt_int q
theorem MM:Ô X (Rk .GtE) (ϔ λi j=>.bl (decide (j<=i))):=Ib λ_ _ _ _ _ _ _ q=>ge_int q
theorem DE:Ô X (Rk .In) (λx y H Q=>∃i j,x=.str i/\y=.str j/\Q (.bl (!(RO j i 0 j.length 1).isEmpty)) H):=by
 intro pins s B H x y v u Q I rx ry h;obtain⟨i,j,rfl,rfl,q⟩:=h;obtain⟨t,rfl⟩:=rx;obtain⟨t',rfl⟩:=ry;exact in_str (bM I q rfl)
theorem JF:Ô X (Rk .Is) (λx y H Q=>y=.Ê/\Q (.bl (decide (x=.Ê))) H):=by
 intro pins s B H x y v u Q I rx ry h;obtain⟨rfl,q⟩:=h;cases ry;refine is_none_gen (bM I q ?_);cases x<;>first
  | (cases rx;rfl)
  | (obtain⟨t,rfl⟩:=rx;rfl)
theorem Ii:Ô X (Rk .IsNot) (λx y H Q=>y=.Ê/\Q (.bl (!decide (x=.Ê))) H):=by
 intro pins s B H x y v u Q I rx ry h;obtain⟨rfl,q⟩:=h;cases ry;refine isnot_none_gen (bM I q ?_);cases x<;>first
  | (cases rx;rfl)
  | (obtain⟨t,rfl⟩:=rx;rfl)
theorem Ô.or{f:Q0->Q0->Sem Q0}{r r':R2}(h:Ô X f r)(h':Ô X f r'):Ô X f (λx y H Q=>r x y H Q\/r' x y H Q):=by
 intro pins s B H x y v u Q I rx ry q;rcases q with q|q
 ·exact h pins s B H x y v u Q I rx ry q
 exact h' pins s B H x y v u Q I rx ry q
theorem EW(b:Expr){op:CmpOp}(h:op≠ .In:=by decide)(h2:op≠ .NotIn:=by decide):S2 op b=false:=by
 have e1:(op==CmpOp.In)=false:=by cases op<;>first|rfl|exact absurd rfl h
 have e2:(op==CmpOp.NotIn)=false:=by cases op<;>first|rfl|exact absurd rfl h2
 cases b<;>simp[S2,e1,e2]
theorem IH{op:CmpOp}{r:R2}(ho:Ô X (Rk op) r)(ha:PE X a ta)(hb:PE X b tb)(hm:S2 op b=false):PE X (.Compare a [op] [b] pos) (tOp r ta tb):=by
 intro pins s B H Q I h;exact wpAny_Compare1 (Kg ha hb I h λv u s2 x y H2 I2 rx ry q=>ho pins s2 B H2 x y v u Q I2 rx ry q) hm
inductive blI(x:V)(H:Hp)(Q:Bool->Hp->Prop):Prop
 |mk(k:Bool)(h:x=.bl k)(q:Q k H):blI x H Q
def Jn(t:TE):TT:=λB H Q=>t B H λx H'=>blI x H' Q
theorem Iy{op:CmpOp}{r:R2}(ho:Ô X (Rk op) r)(ha:PE X a ta)(hb:PE X b tb)(hm:S2 op b=false):PT X (.Compare a [op] [b] pos) (Jn (tOp r ta tb)):=by
 intro pins s B H Q I h;refine wpAny_isTrue_Compare1 (Ë (ha pins s B H _ I h) λv s1 ⟨x,H1,I1,r1,q1⟩=>Ë (hb pins s1 B H1 _ I1 q1) λu s2 ⟨y,H2,I2,r2,q2⟩=>
  Ë (ho pins s2 B H2 x y v u _ I2 r1 r2 q2) λc s3 ⟨z,H3,I3,r3,k,e,q3⟩=>?_) hm
 subst e;cases r3;exact Tg ⟨H3,I3,q3⟩
def Ni(K:Q6)(x:V)(H:Hp)(k:Bool):Prop:=
 match x with
 | .Ê=>k=false
 | .bl b=>k=b
 | .int i=>k=(i !=0)
 | .str y=>y.length<=sizeLine/\k=((y.length:Int)!=0)
 | .Ĭ y=>y.size<=sizeLine/\k=((y.size:Int)!=0)
 | .ref p=>(∃xs,À K H p xs/\k=!xs.isEmpty)\/(∃xs,É K H p xs/\k=!xs.isEmpty)\/∃kvs,H p=Xb (.dK kvs)/\k=!kvs.isEmpty
 |_=>False
theorem AB{κ:Type}{kvs:List (κ×V)}{vs:List (κ×Q0)}(r:KV kvs vs):(!vs.isEmpty)=!kvs.isEmpty:=by
 cases r<;>rfl
theorem tN{xs:List V}{Â:List Q0}(r:Xf xs Â):(!Â.toArray.isEmpty)=!xs.isEmpty:=by
 cases r<;>simp
theorem rD:(sizeLine:Nat)<2^63:=by rw[SO];decide
inductive zP(K:Q6)(x:V)(H:Hp)(Q:Bool->Hp->Prop):Prop
 |mk(k:Bool)(h:Ni K x H k)(q:Q k H):zP K x H Q
theorem Jv:Nt X (zP X.K):=by
 intro pins s B H x v Q I rx h;obtain⟨k,e,q⟩:=h;have hl:=rD;have hs:sizeLine=16777216:=SO;cases x with
 |Ê=>
  cases rx;have e':k=false:=e;subst e';exact truthy_none ⟨H,I,q⟩
 |bl b=>
  cases rx;have e':k=b:=e;subst e';exact Tg ⟨H,I,q⟩
 |int i=>
  obtain⟨t,rfl⟩:=rx;have e':k=(i !=0):=e;subst e';exact PySem.P.truthy_int ⟨H,I,q⟩
 |str y=>
  obtain⟨t,rfl⟩:=rx;obtain⟨hy,e'⟩:y.length<=sizeLine/\k=((y.length:Int)!=0):=e;subst e';exact PySem.P.truthy_str () {H,I.tok _,q}
 |Ĭ y=>
  obtain⟨t,rfl⟩:=rx;obtain⟨hy,e'⟩:y.size<=sizeLine/\k=((y.size:Int)!=0):=e;subst e';exact W.truthy_bytes () {H,I.tok _,q}
 |ref p=>
  cases rx;have e':(∃xs,À X.K H p xs/\k=!xs.isEmpty)\/(∃xs,É X.K H p xs/\k=!xs.isEmpty)\/∃kvs,H p=Xb (.dK kvs)/\k=!kvs.isEmpty:=e;rcases e' with⟨xs,hx,e'⟩|⟨xs,hx,e'⟩|⟨kvs,hx,e'⟩
  ·subst e';obtain⟨Â,r,pl,hz⟩:=I.list hx;have hlen:=r.length;exact wpAny_truthy_list pl.isList (by simp only[Om];lia) {H,I.tok _,by rw[tN r];exact q}
  ·subst e';obtain⟨Â,r,pl,hz⟩:=I.tuple hx;have hlen:=r.length;exact truthy_tuple pl (by simp only[Om];lia) {H,I.tok _,by rw[tN r];exact q}
  subst e';obtain⟨hz,hS,vs,r,m⟩:kvs.length<=sizeLine/\(p==Se)=false/\∃vs,KV kvs vs/\s.heap.DictOf (cw X.prog X.w) p vs:=I.Ç p _ hx;have hlen:kvs.length=vs.length:=Q7 r;exact wpAny_truthy_dict hS m () {H,I.tok _,by rw[AB r];exact q}
 |_=>exact(show False from e).elim
theorem Fb(ha:PE X a ta)(he:∀whole,isTrue a X.env whole=(do let v<-whole;VF a.pos;TR [v] (truthy v))) :
  PT X a (λB H Q=>ta B H λx H'=>zP X.K x H' Q):=by
 intro pins s B H Q I h
 exact isTrue_plain (Ë (ha pins s B H _ I h) λv s1 ⟨x,H1,I1,r1,q1⟩=>Jv pins s1 B H1 x v Q I1 r1 q1) (he _)
theorem Ai:Ô X (RU .Add) (λx y H Q=>∃i j,x=.str i/\y=.str j/\i.length+j.length<=sizeLine/\Q (.str (i++j)) H):=by
 intro pins s B H x y v u Q I rx ry h;obtain⟨i,j,rfl,rfl,hz,q⟩:=h;obtain⟨t,rfl⟩:=rx;obtain⟨t',rfl⟩:=ry;exact add_str (λt' tk=>{.str (i++j),H,I.tok _,{_,rfl},q}) hz
theorem Xq{x:V}{us:List Q0}(r:Xf [x] us):∃u,us=[u]/\Xh x u:=by
 cases r with
 |cons r1 r2=>cases r2;exact{_,rfl,r1}
theorem Xy{x y:V}{us:List Q0}(r:Xf [x,y] us):∃u w',us=[u,w']/\Xh x u/\Xh y w':=by
 cases r with
 |cons r1 r2=>
  cases r2 with
  |cons r3 r4=>cases r4;exact{_,_,rfl,r1,r3}
theorem Dc(hc:X.calm=true):eK X (.builtin "max") (λxs H Q=>∃i j,xs=[.int i,.int j]/\Q (.int (if j>i then j else i)) H):=by
 intro pins s B H xs us Q I r h;obtain⟨i,j,rfl,q⟩:=h;obtain⟨u,w',rfl,⟨t,rfl⟩,⟨t',rfl⟩⟩:=Xy r;refine max_two_ints (I.ok.hd hc) λh' tk k=>{_,H,I.kept k,?_,q};by_cases hj:j>i
 ·rw[if_pos hj,if_pos hj];exact{_,rfl}
 rw[if_neg hj,if_neg hj];exact{_,rfl}
theorem DP(hc:X.calm=true):eK X (.builtin "min") (λxs H Q=>∃i j,xs=[.int i,.int j]/\Q (.int (if j<i then j else i)) H):=by
 intro pins s B H xs us Q I r h;obtain⟨i,j,rfl,q⟩:=h;obtain⟨u,w',rfl,⟨t,rfl⟩,⟨t',rfl⟩⟩:=Xy r;refine min_two_ints (I.ok.hd hc) λh' tk k=>{_,H,I.kept k,?_,q};by_cases hj:j<i
 ·rw[if_pos hj,if_pos hj];exact{_,rfl}
 rw[if_neg hj,if_neg hj];exact{_,rfl}
def Mc(K:Q6)(x:V)(H:Hp)(n:Nat):Prop:=
 match x with
 | .str y=>y.length<=sizeLine/\n=y.length
 | .Ĭ y=>y.size<=sizeLine/\n=y.size
 | .ref p=>(∃xs,À K H p xs/\n=xs.length)\/∃xs,É K H p xs/\n=xs.length
 |_=>False
theorem E3:eK X (.builtin "len") (λxs H Q=>∃x n,xs=[x]/\Mc X.K x H n/\Q (.int n) H):=by
 intro pins s B H xs us Q I r h;obtain⟨x,n,rfl,e,q⟩:=h;obtain⟨u,rfl,rx⟩:=Xq r;have hl:=rD;have hs:sizeLine=16777216:=SO;cases x with
 |str y=>
  obtain⟨t,rfl⟩:=rx;obtain⟨hy,e'⟩:y.length<=sizeLine/\n=y.length:=e;subst e';exact len_str () {.int _,H,I.tok _,{_,rfl},q}
 |Ĭ y=>
  obtain⟨t,rfl⟩:=rx;obtain⟨hy,e'⟩:y.size<=sizeLine/\n=y.size:=e;subst e';exact W.len_bytes () {.int _,H,I.tok _,{_,rfl},q}
 |ref p=>
  cases rx;have e':(∃xs,À X.K H p xs/\n=xs.length)\/∃xs,É X.K H p xs/\n=xs.length:=e;rcases e' with⟨xs,hx,e'⟩|⟨xs,hx,e'⟩
  ·subst e';obtain⟨Â,r',pl,hz⟩:=I.list hx;have hlen:=r'.length;exact Calls.call_len_list pl.isList (by simp only[Om];lia) {.int xs.length,H,I.tok _,{_,by simp only[Om];rw[hlen]},q}
  subst e';obtain⟨Â,r',pl,hz⟩:=I.tuple hx;have hlen:=r'.length;exact len_tuple pl (by simp only[Om];lia) {.int xs.length,H,I.tok _,{_,by simp only[Om];rw[hlen]},q}
 |_=>exact(show False from e).elim
end
structure Be(h:Rp)(x dx C:Q1)(mA:Str->Option Q0):Prop where
 obj:h.get? x=Xb (Tu C dx)
 ns:h.Ns1 dx mA
 ne:dx≠x
theorem Dq{h:Rp}{dx:Q1}{mA:Str->Option Q0}(n:h.Ns1 dx mA):∃od,h.get? dx=Xb od/\∀name,Wu name od=Xb (mA name):=by
 obtain⟨o,es,ep,ho,hd,hk,_,hm⟩:=n;refine{o,ho,λname=>?_};have e:=hm name;unfold nsFind findBy at e;rw[<-Array.find?_toList]at e;unfold Wu;rw[hd];dsimp only;split
 ·rename_i y q;rw[q]at e;exact congrArg Xb e
 rename_i q;rw[q]at e;have a:es.toList.any (·.refKey)=false:=by
  rw[VG];intro y hy;obtain⟨z,t,Œ⟩:=hk y (Array.mem_toList_iff.mp hy);simp[DictEntry.refKey,Œ]
 have a':¬ es.toList.any (·.refKey)=true:=by rw[a];exact Of
 rw[if_neg a'];exact congrArg Xb e
theorem Be.look{h:Rp}{x dx C:Q1}{mA:Str->Option Q0}(I:Be h x dx C mA):∃od,W.InstAt h x (Tu C dx) C (Xb od)/\∀name,Wu name od=Xb (mA name):=
 let ⟨od,ho,hl⟩:=Dq I.ns
 {od,⟨I.obj,rfl,rfl,ho⟩,hl}
section
variable{prog:Program}{w:Rh}{A:Rv}{E:Q0->Q3->Prop}{s:Q3}{K:Q6}{x dx C f:Q1}{mA:Str->Option Q0}{name:Str}{v:Q0}
theorem get_map{expr:Bool}{Q:Q0->Q3->Prop}(X:K.In s.heap)(I:Be s.heap x dx C mA)(hg:Uz K C name=true)(hh:UT K C=true)
  (ha:RY K (.ref C) name=Xb Xc) (hv:mA name=Xb v) (ρ:W.handedIn v=true) (h:Q v { s with toks:=s.toks+1 }) :
  wpAny (Ri prog w) A (getAttr (.ref x) name expr) Q E s:=by
 obtain⟨od,J,hl⟩:=I.look
 exact W.get_value X J (Ve hg).1 (W.findObj_own hh ha rfl (by rw[hl,hv])) ρ h
theorem Ff{pl:Sem Bool}{Q:Q0×List Q0->Q3->Prop}(X:K.In s.heap)(I:Be s.heap x dx C mA)(hg:Uz K C name=true)
  (hf:RY K (.ref C) name=Xb (Xb (.ref f))) (ht:W7 K (.ref f)=true) (hv:mA name=Xc) (h:Q (.ref f,[.ref x]) s) :
  wpAny (Ri prog w) A (VZ (.ref x) name pl) Q E s:=by
 obtain⟨od,J,hl⟩:=I.look
 exact W.method_fn X J (Ve hg).1 (Ve hg).2 hf (beq_iff_eq.mp ht) (by show(Wu name od).map (·.isSome)=Xb false;rw[hl,hv];rfl) h
theorem Iv{ns:List Str}{Q:Unit->Q3->Prop}(X:K.In s.heap)(I:Be s.heap x dx C mA)
  (hs:RY K (.ref C) "__setattr__"=Xb (Xb (.builtin "object.__setattr__"))) (hp:We K C=true) (ht:WX K C name=Xb Xc) (hh:UT K C=true)
  (hw:VD mA ns) (hsz:ns.length<=sizeLine)
  (h:∀h',Be h' x dx C (λy=>if y=name then Xb v else mA y)->SK dx s.heap h'->Q Unit.unit { s with heap:=h',toks:=s.toks+2 }) :
  wpAny (Ri prog w) A (setAttr (.ref x) name v) Q E s:=by
 obtain⟨od,J,hl⟩:=I.look
 refine W.set_plain X J hs (W.osa_open (s:={ s with toks:=s.toks+1 }) (r:=Xc) X J hp ht λb=>?_)
 obtain⟨cd,hc,hd'⟩:=W.any_some hh
 have hx:s.heap.get? x=Xb {.ref C,Xb dx,.plain,#[]}:=I.obj
 refine QZ (Q4 (QZ (QZ (wpAny_loadPart hx (QZ (W.Looks.here (s:={ s with toks:=s.toks+1 }) (W.looks_clsIn X hc) ?_))))))
 rw[hd']
 refine Q4 (a:=Xb dx) (QZ (Q4 (QZ ?_)))
 refine wpAny_nsSet1 (s:={ s with toks:=s.toks+1 }) I.ns λh' τ Ő=>?_
 obtain⟨oD,esD,epD,hoD,hdD,hcD⟩:=τ.count (PySem.Within.cons name v hw)
 refine QZ (wpAny_lookBehind hoD (by rw[hdD];exact pastItsLine_dict (Ol hcD (by rw[OE];lia))) ?_)
 exact Q4 (h _ {(Ő.2 _ (Pn I.ne)).trans I.obj,τ,I.ne} Ő)
theorem EY{R:W8->Q3->Prop}{vs:List Q0}{kw:List (Str×Q0)}(X:K.In s.heap)(hm:V0 K C=true)
  (hi:RY K (.ref C) "__init__"=Xb (Xb (.ref f))) (hf:W.typeIn K (.ref f)=Xb (.type "function"))
  (h:codeAny (Ri prog w) (A.under (.builtin "type.__call__" {.ref C::vs,kw})) (.call (.ref f) {.ref (s.heap.objs.size+1)::vs,kw}) (W.InitBack (s.heap.objs.size+1) R)
   { s with heap:=(s.heap.push SH).push (Tu C s.heap.objs.size) }) :
  codeAny (Ri prog w) A (.call (.ref C) ⟨vs,kw⟩) R s:=by
 obtain⟨hh,g,d,t,os⟩:=s
 exact W.make_core (W.makes_of X hm) (W.looks_findIn X hi) (λself=>W.bind_fn X self hf) (.inl rfl) h
end
def iO(f:Str)(v:V):List (Str×V)->List (Str×V)
 | []=>[(f,v)]
 | (g,x)::r=>if g=f then(g,v)::r else(g,x)::iO f v r
theorem rW(f g:Str)(v:V):∀fs:List (Str×V),(iO f v fs).lookup g=if g=f then Xb v else fs.lookup g
 | []=>by
  show SQ g [(f,v)]=_;by_cases h:g=f
  ·have hb:(g==f)=true:=beq_iff_eq.mpr h;simp only[SQ,hb,if_pos h]
  have hb:(g==f)=false:=beq_eq_false_iff_ne.mpr h;simp only[SQ,hb,if_neg h]
 | (k,x)::r=>by
  have ih:=rW f g v r;rw[show iO f v ((k,x)::r)=(if k=f then(k,v)::r else(k,x)::iO f v r)from rfl];by_cases hk:k=f
  ·rw[if_pos hk];by_cases h:g=k
   ·have hb:(g==k)=true:=beq_iff_eq.mpr h;simp only[SQ,hb,if_pos (h.trans hk)]
   have hb:(g==k)=false:=beq_eq_false_iff_ne.mpr h;simp only[SQ,hb,if_neg (λe:g=f=>h (e.trans hk.symm))]
  rw[if_neg hk];by_cases h:g=k
  ·have hb:(g==k)=true:=beq_iff_eq.mpr h;simp only[SQ,hb,if_neg (λe:g=f=>hk (h.symm.trans e))]
  have hb:(g==k)=false:=beq_eq_false_iff_ne.mpr h;simp only[SQ,hb];exact ih
theorem q5(f:Str)(v:V):∀fs:List (Str×V),f∈(iO f v fs).map (·.1)/\∀g,g∈fs.map (·.1)->g∈(iO f v fs).map (·.1)
 | []=>{by simp[iO],λg h=>by simp at h}
 | (k,x)::r=>by
  obtain⟨i1,i2⟩:=q5 f v r;rw[show iO f v ((k,x)::r)=(if k=f then(k,v)::r else(k,x)::iO f v r)from rfl];by_cases hk:k=f
  ·rw[if_pos hk];subst hk;exact{by simp,λg h=>by simpa using h}
  rw[if_neg hk];refine{?_,λg h=>?_}
  ·rw[Ox];exact N8 _ i1
  rw[Ox]at h⊢;rcases Ob.mp h with e|e
  ·exact Ob.mpr (.inl e)
  exact N8 _ (i2 g e)
theorem r9(f:Str)(v:V):∀fs:List (Str×V),(iO f v fs).length<=fs.length+1
 | []=>by simp[iO]
 | (k,x)::r=>by
  have ih:=r9 f v r;rw[show iO f v ((k,x)::r)=(if k=f then(k,v)::r else(k,x)::iO f v r)from rfl];by_cases hk:k=f
  ·rw[if_pos hk,OE,OE];lia
  rw[if_neg hk,OE,OE];lia
theorem oH.some_of{v:V}{o:Option Q0}(r:oH (Xb v) o):∃u,o=Xb u/\Xh v u:=by
 cases o with
 |none=>exact(show False from r).elim
 |some u=>exact⟨u,rfl,r⟩
theorem oH.none_of{o:Option Q0}(r:oH Xc o):o=Xc:=by
 cases o with
 |none=>rfl
 |some u=>exact(show False from r).elim
theorem DH{v:V}{u:Q0}(r:Xh v u):W.handedIn u=true:=by
 cases v with
 |Ê=>cases (show u=Tt from r);rfl
 |bl b=>cases (show u=Vk b from r);rfl
 |int i=>obtain⟨t,e⟩:=(show ∃t,u=Sx i t from r);cases e;rfl
 |str x=>obtain⟨t,e⟩:=(show ∃t,u=U0 x t from r);cases e;rfl
 |Ĭ b=>obtain⟨t,e⟩:=(show ∃t,u=Value.bytes b t from r);cases e;rfl
 |Θ b=>obtain⟨t,e⟩:=(show ∃t,u=Wb b t from r);cases e;rfl
 |ref a=>cases (show u=Rn a from r);rfl
 |ty n=>cases (show u=Sd n from r);rfl
section
variable{P:Program}{w:Rh}{H H':Hp}{h h':Rp}{a C dx:Q1}{fs fs':List (Str×V)}
theorem tq(Ç:Ă P w H h)(e:H a=Xb (.ins C dx fs)):∃mA,Be h a dx C mA/\(∀f,oH (fs.lookup f) (mA f))/\VD mA (fs.map (·.1))/\fs.length<=1000/\H dx=Xb (.own a):=by
 obtain⟨d,z,ne,ob,mA,n,r,q⟩:=(show df P w H h a (.ins C dx fs)from Ç a _ e);exact{mA,⟨ob,n,ne⟩,r,q,z,d}
end
structure ļ(K:Q6)(C:Q1):Prop where
 pg:Uz K C RE=true
 hd:UT K C=true
 po:We K C=true
 sa:RY K (.ref C) "__setattr__"=Xb (Xb (.builtin "object.__setattr__"))
theorem ļ.get{K:Q6}{C:Q1}(c:ļ K C)(f:Str):Uz K C f=true:=c.pg
def aP(K:Q6)(C:Q1)(f:Str):Prop:=RY K (.ref C) f=Xb Xc
theorem aP.LU{K:Q6}{C:Q1}{f:Str}(n:aP K C f):WX K C f=Xb Xc:=by
 unfold WX;rw[show RY K (.ref C) f=Xb Xc from n];rfl
structure Con(K:Q6)(C:Q1)(f:Str)(v:V)(u:Q0):Prop where
 at_:RY K (.ref C) f=Xb (Xb u)
 rel:Xh v u
 get:S8 K u "__get__"=Xb Xc
 cp:W.copiedNames.contains f=false
structure XB(K:Q6)(C:Q1)(m:Str)(f:Q1):Prop where
 at_:RY K (.ref C) m=Xb (Xb (.ref f))
 fn:W7 K (.ref f)=true
 kp:Sh K (.ref f)=true
section
variable{X:Cx}{pins:List (Q1×Obj)}{B:St}{H:Hp}{s:Q3}{a C dx:Q1}{fs:List (Str×V)}{f:Str}{v:V}{A:Rv}{E:Q0->Q3->Prop}
theorem An{b:Bool}{Q:Q0->Q3->Prop}(I:Inv X pins B H s)(e:H a=Xb (.ins C dx fs))(c:ļ X.K C)(n:aP X.K C f)(l:fs.lookup f=Xb v)
  (h:∀u s',Inv X pins B H s'->Xh v u->Q u s'):wpAny (Ri X.prog X.w) A (getAttr (.ref a) f b) Q E s:=by
 obtain⟨mA,O,r,_,_,_⟩:=tq I.Ç e
 obtain⟨u,hu,ru⟩:=oH.some_of (v:=v) (o:=mA f) (by rw[<-l];exact r f)
 exact get_map I.ă O (c.get f) c.hd n hu (DH ru) (h u _ (I.tok _) ru)
theorem AG{m:Str}{g:Q1}{pl:Sem Bool}{Q:Q0×List Q0->Q3->Prop}(I:Inv X pins B H s)(e:H a=Xb (.ins C dx fs))(c:ļ X.K C)(k:XB X.K C m g)(l:fs.lookup m=Xc)
  (h:Q (.ref g,[.ref a]) s):wpAny (Ri X.prog X.w) A (VZ (.ref a) m pl) Q E s:=by
 obtain⟨mA,O,r,_,_,_⟩:=tq I.Ç e
 have hn:mA m=Xc:=oH.none_of (by rw[<-l];exact r m)
 exact Ff I.ă O (c.get m) k.at_ k.fn hn h
theorem Ay{y:V}{u:Q0}{Q:Unit->Q3->Prop}(I:Inv X pins B H s)(e:H a=Xb (.ins C dx fs))(c:ļ X.K C)(n:aP X.K C f)(hl:fs.length<1000)(ry:Xh y u)
  (h:∀s',Inv X pins B (upd H a (.ins C dx (iO f y fs))) s'->Q Unit.unit s'):wpAny (Ri X.prog X.w) A (setAttr (.ref a) f u) Q E s:=by
 obtain⟨mA,O,r,wi,_,ho⟩:=tq I.Ç e
 have hz:(fs.map (·.1)).length<=sizeLine:=by rw[N3,SO];lia
 refine Iv I.ă O c.sa c.po n.LU c.hd wi hz λh' O' sb=>h _ ?_
 have hd:∃o,h'.get? dx=Xb o:=let ⟨o,_,_,e',_⟩:=O'.ns;⟨o,e'⟩
 refine I.write (x:=a) (e:=dx) (by rw[e];exact Oy) (.inr ho) (λb q hb z=>(sb.2 b hb).trans z) hd ?_
 refine{by rw[aM O.ne];exact ho,?_,O.ne,O'.obj,_,O'.ns,λg=>?_,λg hg=>?_}
 ·have:=r9 f y fs;lia
 ·show oH ((iO f y fs).lookup g) (if g=f then Xb u else mA g);rw[rW];by_cases q:g=f
  ·rw[if_pos q,if_pos q];exact ry
  rw[if_neg q,if_neg q];exact r g
 by_cases q:g=f
 ·rw[q];exact(q5 f y fs).1
 refine(q5 f y fs).2 g (wi g λz=>hg ?_)
 show(if g=f then Xb u else mA g)=Xc
 rw[if_neg q];exact z
theorem Inv.made(I:Inv X pins B H s):Inv X pins B (upd (upd H s.heap.objs.size (.own (s.heap.objs.size+1))) (s.heap.objs.size+1) (.ins C s.heap.objs.size []))
  { s with heap:=(s.heap.push SH).push (Tu C s.heap.objs.size) }:=by
 have e1:(s.heap.push SH).get? s.heap.objs.size=Xb SH:=Rf s.heap rfl
 have e2:((s.heap.push SH).push (Tu C s.heap.objs.size)).get? (s.heap.objs.size+1)=Xb (Tu C s.heap.objs.size):=by
  have:=Rf (s.heap.push SH) (o:=Tu C s.heap.objs.size) rfl;rwa [R9]at this
 have e3:(s.heap.push SH).Ns s.heap.objs.size (λ_=>Xc):={SH,#[],_,e1,rfl,(λe he=>absurd he (by simp)),λ_=>rfl}
 have I1:=I.laid (a:=s.heap.objs.size) (o:=.own (s.heap.objs.size+1)) (h':=s.heap.push SH) (t':=s.toks) (λb u q=>Q5 _ q) (Oc _) {_,e1}
 refine I1.laid (a:=s.heap.objs.size+1) (o:=.ins C s.heap.objs.size []) (t':=s.toks) (λb u q=>Q5 _ q) (Nat.le_of_eq (R9 _ _)) ?_
 have ne:s.heap.objs.size≠s.heap.objs.size+1:=OD (Pz _)
 refine{by rw[aM ne,av],Oj _,ne,e2,λ_=>Xc,(Heap.Ns1.of_empty e3).at λo q=>Q5 _ q,λ_=>Oy,λy hy=>absurd rfl hy}
theorem G0{prog:Program}{w:Rh}{env:Env}{e:Expr}{f:Str}{pos:Pos}{s:Q3}{Q:Q0->Q3->Prop}(hb:RS e f env (RB e env)=RB e env)
  (h:wpAny (Ri prog w) A (RB e env) (λo s₁=>wpAny (Ri prog w) A (getAttr o f true) Q E s₁) E s):wpAny (Ri prog w) A (RB (.Attribute e f pos) env) Q E s:=
 Attribute_any_ h (by rw[arm_eval_Attribute,hb])
end
inductive pO(K:Q6)(f:Str)(x:V)(H:Hp)(Q:VK):Prop
 |mk(a C dx:Q1)(fs:List (Str×V))(v:V)(h0:x=.ref a)(h1:H a=Xb (.ins C dx fs))(h2:ļ K C)(h3:aP K C f)(h4:fs.lookup f=Xb v)(q:Q v H):pO K f x H Q
def NR(K:Q6)(ta:TE)(f:Str):TE:=λB H Q=>ta B H λx H1=>pO K f x H1 Q
inductive JT(K:Q6)(f:Str)(y x:V)(H:Hp)(Q:Hp->Prop):Prop
 |mk(a C dx:Q1)(fs:List (Str×V))(h0:x=.ref a)(h1:H a=Xb (.ins C dx fs))(h2:ļ K C)(h3:aP K C f)(h4:fs.length<1000)(q:Q (upd H a (.ins C dx (iO f y fs)))):JT K f y x H Q
def Nw(K:Q6)(ta tv:TE)(f:Str):TS:=λD B H=>tv B H λy H1=>ta B H1 λx H2=>JT K f y x H2 (D.nx B)
section
variable{X:Cx}{o e value:Expr}{f:Str}{pos pos' tpos:Pos}{ta tv:TE}
theorem aw(he:PE X e ta)(hb:RS e f X.env (RB e X.env)=RB e X.env):PE X (.Attribute e f pos) (NR X.K ta f):=by
 intro pins s B H Q I h;refine G0 hb (Ë (he pins s B H _ I h) λu s1 z9=>?_);obtain⟨x,H1,I1,rx,a,C,dx,fs,v,ex,ea,c,n,l,q⟩:=z9;subst ex;obtain rfl:u=Rn a:=rx;exact An I1 ea c n l λu' s2 I2 ru=>⟨v,H1,I2,ru,q⟩
theorem bz(ha:PE X o ta)(hv:PE X value tv)(hs:U2 value (Xb (.Attribute o f pos')) pos.line X.env=pure false):PS X (.Assign [.Attribute o f pos'] value pos) (Nw X.K ta tv f):=by
 intro pins s B H D I h;refine plainObj_wpAny_Assign_Attribute (Ë (hv pins s B H _ I h) λu s1 ⟨y,H1,I1,ry,q⟩=>Ë (ha pins s1 B H1 _ I1 q) λov s2 ⟨x,H2,I2,rx,a,C,dx,fs,ex,ea,c,n,l,q2⟩=>?_) hs;subst ex;obtain rfl:ov=Rn a:=rx;exact Ay I2 ea c n l ry λs3 I3=>{B,_,I3,q2}
end
section
variable{X:Cx}{pins:List (Q1×Obj)}{B:St}{H:Hp}{s:Q3}{A:Rv}{E:Q0->Q3->Prop}{Q:Q0->Q3->Prop}{c:Q0}{b:Bool}
inductive pT(K:Q6)(H:Hp):V->Q0->Prop where
 |Ê:pT K H .Ê (.type "NoneType")
 |bl (x:Bool):pT K H (.bl x) (.type "bool")
 |int (i:Int):pT K H (.int i) (.type "int")
 |str (x:Str):pT K H (.str x) (.type "str")
 |Θ (x:UInt64):pT K H (.Θ x) (.type "float")
 |lst {a:Q1}{xs:List V} (e:H a=Xb (.lst xs)):pT K H (.ref a) (.type "list")
 |Ć {a:Q1}{o:Obj}{xs:List V} (e:H a=Xb (.Ć o (.lst xs))):pT K H (.ref a) (.type "list")
 |tup {a:Q1}{xs:List V} (e:H a=Xb (.tup xs)):pT K H (.ref a) (.type "tuple")
 |dK {a:Q1}{kvs:List (Key×V)} (e:H a=Xb (.dK kvs)):pT K H (.ref a) (.type "dict")
 |dT {a:Q1}{kvs:List (List Key×V)} (e:H a=Xb (.dT kvs)):pT K H (.ref a) (.type "dict")
 |ins {a C dx:Q1}{fs:List (Str×V)} (e:H a=Xb (.ins C dx fs)) (cl:ļ K C) (ha:RY K (.ref C) "__class__"=Xb (Xb (.builtin "object.__class__")))
   (hn:S8 K (.builtin "object.__class__") "__get__"=Xb (Xb (.builtin "getset_descriptor.__get__"))) (htk:V1 K (.builtin "object.__class__")=Xb true)
   (hm:W9 K C (.type "object")=Xb true):pT K H (.ref a) (.ref C)
theorem Dh{x:V}{u t:Q0}(I:Inv X pins B H s)(rx:Xh x u)(ty:pT X.K H x t)(e:Ti X.K t c=Xb b)(h:∀tk,Q (.bool b) { s with toks:=tk }) :
  wpAny (Ri X.prog X.w) A (call (.builtin "isinstance") [u,c]) Q E s:=by
 cases ty with
 |Ê=>cases (show u=Tt from rx);exact SN W.kitx_none I.ă Oy e (λz=>nomatch z) h
 |bl y=>cases (show u=Vk y from rx);exact SN W.kitx_bool I.ă Oy e (λz=>nomatch z) h
 |int i=>obtain⟨t,q⟩:=(show ∃t,u=Sx i t from rx);cases q;exact SN W.kitx_int I.ă Oy e (λz=>nomatch z) h
 |str y=>obtain⟨t,q⟩:=(show ∃t,u=U0 y t from rx);cases q;exact SN W.kitx_str I.ă Oy e (λz=>nomatch z) h
 |Θ y=>obtain⟨t,q⟩:=(show ∃t,u=Wb y t from rx);cases q;exact SN W.kitx_float I.ă Oy e (λz=>nomatch z) h
 |@lst a xs ea=>
  cases (show u=Rn a from rx)
  obtain⟨_,_,n,_,h1⟩:=(show df X.prog X.w H s.heap a (.lst xs)from I.Ç a _ ea)
  exact SN W.kitx_list I.ă {_,h1,rfl} e (λz=>nomatch z) h
 |@Ć a ob xs ea=>
  cases (show u=Rn a from rx)
  obtain⟨_,_,_,n,_,h1⟩:=(show df X.prog X.w H s.heap a (.Ć ob (.lst xs))from I.Ç a _ ea)
  exact SN W.kitx_list I.ă {_,h1,rfl} e (λz=>nomatch z) h
 |@tup a xs ea=>
  cases (show u=Rn a from rx)
  obtain⟨_,_,_,p⟩:=(show df X.prog X.w H s.heap a (.tup xs)from I.Ç a _ ea)
  obtain⟨o,h1,h2,_⟩:=p
  exact SN W.kitx_tuple I.ă ⟨o,h1,h2⟩ e (λz=>nomatch z) h
 |@dK a kvs ea=>
  cases (show u=Rn a from rx)
  obtain⟨_,_,vs,_,p⟩:=(show df X.prog X.w H s.heap a (.dK kvs)from I.Ç a _ ea)
  obtain⟨o,es,ep,h1,h2,_⟩:=p
  exact SN W.kitx_dict I.ă ⟨o,h1,h2.1⟩ e (λz=>nomatch z) h
 |@dT a kvs ea=>
  cases (show u=Rn a from rx)
  obtain⟨_,_,xs,_,o,es,ep,h1,h2,_⟩:=(show df X.prog X.w H s.heap a (.dT kvs)from I.Ç a _ ea)
  exact SN W.kitx_dict I.ă ⟨o,h1,h2.1⟩ e (λz=>nomatch z) h
 |@ins a C dx fs ea cl ha hn htk hm=>
  cases (show u=Rn a from rx)
  obtain⟨mA,O,_⟩:=tq I.Ç ea
  obtain⟨od,J,_⟩:=O.look
  exact SN (W.kitx_own (cl.get _) cl.hd ha hn htk hm) I.ă J e (λz=>nomatch z) h
end
structure fu(k:Nat)(A:Rv):Prop where
 hd:A.handled=Xc
 dp:A.depth+3*k+5<Wv
 un:A.units+16*k+200<Sy
theorem fu.mono{j k:Nat}{A:Rv}(r:fu k A)(h:j<=k):fu j A:={r.hd,by have:=r.dp;lia,by have:=r.un;lia}
theorem fu.deeper{k:Nat}{A:Rv}(r:fu (k+1) A)(env:Env):fu k (A.deeper env):=
 {r.hd,by have:=r.dp;show A.depth+1+3*k+5<_;lia,by have:=r.un;show A.units+3+16*k+200<_;lia}
theorem Bl{A:Rv}{C:Q1}{us:List Q0}{kw:List (Str×Q0)}:(A.under (.builtin "type.__call__" {.ref C::us,kw})).depth=A.depth+1:=by
 first|rfl|simp[VH,Code.weight,Code.isCreation,Code.isGuard,Code.isCaller,Code.frames,VI,guardIds]
theorem AH{A:Rv}{C:Q1}{us:List Q0}{kw:List (Str×Q0)}:(A.under (.builtin "type.__call__" {.ref C::us,kw})).units=A.units+1:=by
 first|rfl|simp[VH,Code.cUnits,Code.frames,VI]
theorem fu.make{k:Nat}{A:Rv}(r:fu (k+1) A)(C:Q1)(us:List Q0)(kw:List (Str×Q0)):fu k (A.under (.builtin "type.__call__" {.ref C::us,kw})):=
 {r.hd,by have:=r.dp;rw[Bl];lia,by have:=r.un;rw[AH];lia}
theorem fu.depth{k:Nat}{A:Rv}(r:fu k A):A.depth<Wv:=by have:=r.dp;lia
theorem fu.units{k:Nat}{A:Rv}(r:fu k A):A.units+64<Sy:=by have:=r.un;lia
def C5:TA:=λ_ H Q=>Q [] H
def yN(ta:TE)(tr:TA):TA:=λB H Q=>ta B H λx H1=>tr B H1 λxs H2=>Q (x::xs) H2
section
variable{X:Cx}{e:Expr}{es:List Expr}{te:TE}{t:TA}{pos:Pos}
theorem ae:PA X [] C5:=λ_ _ _ _ H Q I h=>Ub {[],H,I,.nil,h}
theorem aa(ha:PE X e te)(hr:PA X es t)(hs:Q8 (e::es) X.env=(false,RB e X.env)::Q8 es X.env:=by rfl):PA X (e::es) (yN te t):=by
 intro pos pins s B H Q I h;rw[hs];show wpAny _ _ (VE ((false,RB e X.env)::RC pos (Q8 es X.env))) _ _ s;refine T3 (Ë (ha pins s B H _ I h) λu s1 z9=>?_);obtain⟨x,H1,I1,r1,q1⟩:=z9;exact Ë (hr pos pins s1 B H1 _ I1 q1) λus s2 ⟨xs,H2,I2,r2,q2⟩=>{x::xs,H2,I2,.cons r1 r2,q2}
def NY(t:TA):TE:=λB H Q=>t B H λxs H1=>xs.length<=sizeLine/\∀p,H1 p=Xc->Q (.ref p) (upd H1 p (.tup xs))
def Nm(t:TA):TE:=λB H Q=>t B H λxs H1=>xs.length<=sizeLine/\∀p,H1 p=Xc->Q (.ref p) (upd H1 p (.lst xs))
theorem bE{x1}(h:PA X es t):PE X (.Tuple es x1 pos) (NY t):=by
 intro pins s B H Q I hq;refine wpAny_Tuple_spliced (Ë (h pos pins s B H _ I hq) λus s1 ⟨xs,H1,I1,r,z,q⟩=>{by rw[<-r.length];exact z,?_});have hf:H1 s1.heap.objs.size=Xc:=I1.Ç.fresh (Oc _);refine{.ref s1.heap.objs.size,upd H1 s1.heap.objs.size (.tup xs),I1.laid (t':=s1.toks) (λb u e=>Q5 _ e) (Oc _) ?_,rfl,q _ hf};exact{z,us,r,{_,Rf _ rfl,rfl,_,rfl}}
theorem aU(h:PA X es t):PE X (.List es pos) (Nm t):=by
 intro pins s B H Q I hq;refine wpAny_List_spliced (Ë (h pos pins s B H _ I hq) λus s1 ⟨xs,H1,I1,r,z,q⟩=>{by rw[<-r.length];exact z,?_});have hf:H1 s1.heap.objs.size=Xc:=I1.Ç.fresh (Oc _);refine{.ref s1.heap.objs.size,upd H1 s1.heap.objs.size (.lst xs),I1.laid (t':=s1.toks) (λb u e=>Q5 _ e) (Oc _) ?_,rfl,q _ hf};exact{z,us,0,r,Rf _ rfl}
end
abbrev Sp:=List V->Hp->VK->XK->Prop
abbrev ū:=List Env->Hp->Q3->XK->Q0->Q3->Prop
structure AO(P:Program)(w:Rh)(K:Q6)(mg:Str->Option Q0)(base:Rp)(A:Rv)(outer:List Env)(s:Q3)(H:Hp):Prop where
 frames:A.frames=Xb outer
 mod:Mod K mg base
 bs:∀b o,base.get? b=Xb o->s.heap.get? b=Xb o/\H b=Xc
 Τ:base.objs.size<=s.heap.objs.size
 sg:s.heap.FunFrames base outer
 frf:∀b∈Ŵ outer,H b=Xc
 Ç:Ă P w H s.heap
 bare:Ua s.gens
inductive CE(outer:List Env)(P:Program)(w:Rh)(H:Hp)(s:Q3)(Q:VK)(u:Q0)(s':Q3):Prop
 |mk(v:V)(H':Hp)(h0:s'.os=s.os)(h1:Ua s'.gens)(h2:Un (Ŵ outer) [] H H' s.heap s'.heap)(h3:Ă P w H' s'.heap)(h4:Xh v u)(h5:Q v H'):CE outer P w H s Q u s'
def CR(CX:ū)(outer:List Env)(P:Program)(w:Rh)(H:Hp)(s:Q3)(Q:VK)(E:XK)(r:W8)(s':Q3):Prop:=
 match r with
 | .ok (.ret u)=>CE outer P w H s Q u s'
 | .ok _=>False
 | .error e=>CX outer H s E e s'
structure j2(P:Program)(w:Rh)(K:Q6)(mg:Str->Option Q0)(base:Rp)(CX:ū)(k:Nat)(f:Q1)(fd:Sq)(ps:List Str)(sp:Sp):Prop where
 len:∀vs H Q E,sp vs H Q E->vs.length=ps.length
 run:∀(A:Rv)(outer:List Env)(s:Q3)(H:Hp)(args:Args)(us:List Q0)(vs:List V)(Q:VK)(E:XK),fu k A->AO P w K mg base A outer s H->UA s fd args (ps.zip us)->Xf vs us->sp vs H Q E->
  codeAny (Ri P w) A (.call (.ref f) args) (CR CX outer P w H s Q E) s
theorem j2.mono{P:Program}{w:Rh}{K:Q6}{mg:Str->Option Q0}{base:Rp}{CX:ū}{j k:Nat}{f:Q1}{fd:Sq}{ps:List Str}{sp:Sp}(F:j2 P w K mg base CX j f fd ps sp)(h:j<=k) :
  j2 P w K mg base CX k f fd ps sp:={F.len,λA outer s H args us vs Q E hr=>F.run A outer s H args us vs Q E (hr.mono h)}
theorem AO.make{P:Program}{w:Rh}{K:Q6}{mg:Str->Option Q0}{base:Rp}{A:Rv}{outer:List Env}{s:Q3}{H:Hp}(e:AO P w K mg base A outer s H)(C:Q1)(us:List Q0)(kw:List (Str×Q0)) :
  AO P w K mg base (A.under (.builtin "type.__call__" {.ref C::us,kw})) outer s H:={by first|exact e.frames|(simpa [VH,Code.envs,VI,pushEnvs] using e.frames),e.mod,e.bs,e.Τ,e.sg,e.frf,e.Ç,e.bare}
section
variable{X:Cx}{pins:List (Q1×Obj)}{B:St}{H:Hp}{s s':Q3}
theorem Inv.Ge(I:Inv X pins B H s):AO X.prog X.w X.K X.mg X.base X.A X.stack s H:=
 ⟨I.ok.frames,I.ok.mod,I.bs,Ol I.ok.Τ I.sz,I.stack,I.Bt,I.Ç,I.bare⟩
theorem Inv.after{Q:VK}{u:Q0}(I:Inv X pins B H s)(h:CE X.stack X.prog X.w H s Q u s'):EP X pins B Q u s':=by
 obtain⟨v,H',os,bare,un,Ç,r,q⟩:=h;obtain⟨hh,g,d,t,os'⟩:=s';obtain rfl:os'=s.os:=os;exact{v,H',I.call (h':=hh) (g':=g) (d':=d) (t':=t) (ch:=[]) un Ç bare (λb z=>absurd z (by simp)),r,q}
end
def wG(sp:Sp)(dvs:List V)(E:XK)(t:TA):TE:=λB H Q=>t B H λvs H1=>sp (vs++dvs) H1 Q E
inductive NS(C:Q1)(m:Str)(x:V)(H:Hp)(R:Prop):Prop
 |mk(a dx:Q1)(fs:List (Str×V))(h0:x=.ref a)(h1:H a=Xb (.ins C dx fs))(h2:fs.lookup m=Xc)(q:R):NS C m x H R
def Jc(C:Q1)(sp:Sp)(dvs:List V)(E:XK)(t:TA):TE:=λB H Q=>t B H λvs H1=>∀x dx,H1 x=Xc->H1 dx=Xc->dx≠x->
 sp (.ref x::(vs++dvs)) (upd (upd H1 dx (.own x)) x (.ins C dx [])) (λv H2=>v=.Ê/\Q (.ref x) H2) E
def Xj(K:Q6)(fd:Sq)(ps:List Str)(ds:List Q0):Prop:=
 ∀(s:Q3)(us:List Q0),K.In s.heap->(us++ds).length=ps.length->UA s fd {us,[]} (ps.zip (us++ds))
theorem Xj.all{K:Q6}{fd:Sq}{ps:List Str}(h:∀us:List Q0,us.length=ps.length->bindArgs fd {us,[]}=pure (ps.zip us)):Xj K fd ps []:=λs us _ hl=>by
 rw[OF]at hl⊢;exact .of_eq (h us hl)
def Xp(CX:ū)(X:Cx)(E:XK):Prop:=∀(pins:List (Q1×Obj))(B:St)(H:Hp)(s:Q3)(e:Q0)(s':Q3),Inv X pins B H s->CX X.stack H s E e s'->X.xe e s'
section
variable{X:Cx}{CX:ū}{k:Nat}{f C:Q1}{fd:Sq}{ps:List Str}{sp:Sp}{dvs:List V}{ds:List Q0}{E:XK}{x m:Str}{p pos apos:Pos}{e o:Expr}{es:List Expr}{ta:TE}{t:TA}
theorem Aw{pins:List (Q1×Obj)}{B:St}{H:Hp}{s:Q3}{Q:VK}{us:List Q0}{vs:List V}(F:j2 X.prog X.w X.K X.mg X.base CX k f fd ps sp)(hr:fu k X.A)(hb:Xj X.K fd ps ds)(hd:Xf dvs ds)(hx:Xp CX X E)
  (I:Inv X pins B H s) (r:Xf vs us) (h:sp (vs++dvs) H Q E):wpAny (Ri X.prog X.w) X.A (call (.ref f) us) (EP X pins B Q) X.xe s:=by
 have r2:Xf (vs++dvs) (us++ds):=r.append hd
 have hl:(us++ds).length=ps.length:=by rw[<-r2.length];exact F.len _ _ _ _ h
 refine Vn (SS (F.run X.A X.stack s H {us,[]} (us++ds) (vs++dvs) Q E hr I.Ge (hb s us I.ă hl) r2 h) λr s' hq=>?_)
 cases r with
 |error e=>exact hx pins B H s e s' I hq
 |ok fl=>
  cases fl with
  |ret u=>exact I.after hq
  |next=>exact RN hq
  |brk=>exact RN hq
  |cont=>exact RN hq
theorem Cr(F:j2 X.prog X.w X.K X.mg X.base CX k f fd ps sp)(hr:fu k X.A)(hg:Gl X x)(hm:X.mg x=Xb (.ref f))(hk:Sh X.K (.ref f)=true)(hb:Xj X.K fd ps ds)(hd:Xf dvs ds)(hx:Xp CX X E)
  (ha:PA X (e::es) t) (đ:(x==("__debug__":Str))=false:=by decide) (he:Q8 (e::es) X.env=(false,RB e X.env)::Q8 es X.env:=by rfl) (Ā:(RC pos (Q8 es X.env)).any (·.1)=false:=by rfl) :
  PE X (.Call (.Name x p) (e::es) [] pos) (wG sp dvs E t):=by
 intro pins s B H Q I h
 refine RG (qo I hg hm ?_ đ)
 refine W.callWith_K (h₀:=X.base) I.ok.mod.kin hk (Ë (ha pos pins s B H _ I h) λus s1 ⟨vs,H1,I1,r,q⟩=>{I1.ă,?_}) he Ā
 exact Aw F hr hb hd hx I1 r q
structure Mk(K:Q6)(C f:Q1):Prop where
 makes:V0 K C=true
 init:RY K (.ref C) "__init__"=Xb (Xb (.ref f))
 fn:W7 K (.ref f)=true
 kp:Sh K (.ref C)=true
theorem Fy{pins:List (Q1×Obj)}{B:St}{H:Hp}{s:Q3}{Q:VK}{us:List Q0}{vs:List V}(M:Mk X.K C f)(F:j2 X.prog X.w X.K X.mg X.base CX k f fd ps sp)(hr:fu (k+1) X.A)(hb:Xj X.K fd ps ds)(hd:Xf dvs ds)
  (hx:Xp CX X E) (I:Inv X pins B H s) (r:Xf vs us)
  (h:∀x dx,H x=Xc->H dx=Xc->dx≠x->sp (.ref x::(vs++dvs)) (upd (upd H dx (.own x)) x (.ins C dx [])) (λv H2=>v=.Ê/\Q (.ref x) H2) E) :
  wpAny (Ri X.prog X.w) X.A (call (.ref C) us) (EP X pins B Q) X.xe s:=by
 have hq:=h (s.heap.objs.size+1) s.heap.objs.size (I.Ç.fresh (Pr _)) (I.Ç.fresh (Oc _)) (OD (Pz _))
 have I2:=Inv.made (C:=C) I
 have r2:Xf (V.ref (s.heap.objs.size+1)::(vs++dvs)) (Rn (s.heap.objs.size+1)::(us++ds)):=.cons rfl (r.append hd)
 have hl:(Rn (s.heap.objs.size+1)::us++ds).length=ps.length:=by
  have e:=r2.length;rw[F.len _ _ _ _ hq]at e;exact e.symm
 refine Vn (EY (f:=f) I.ă M.makes M.init (beq_iff_eq.mp M.fn) (SS (F.run _ X.stack _ _ {Rn (s.heap.objs.size+1)::us,[]} (Rn (s.heap.objs.size+1)::(us++ds)) _ _ E (hr.make C us [])
  (I2.Ge.make C us []) (hb _ (Rn (s.heap.objs.size+1)::us) I2.ă hl) r2 hq) λr s' ŧ=>?_))
 cases r with
 |error e=>exact hx pins B _ _ e s' I2 ŧ
 |ok fl=>
  cases fl with
  |ret u=>
   obtain⟨v,H',I3,rv,ev,q3⟩:=I2.after ŧ
   subst ev
   exact{rv,{V.ref (s.heap.objs.size+1),H',I3,rfl,q3}}
  |next=>exact RN ŧ
  |brk=>exact RN ŧ
  |cont=>exact RN ŧ
theorem HV(M:Mk X.K C f)(F:j2 X.prog X.w X.K X.mg X.base CX k f fd ps sp)(hr:fu (k+1) X.A)(hg:Gl X x)(hm:X.mg x=Xb (.ref C))(hb:Xj X.K fd ps ds)(hd:Xf dvs ds)(hx:Xp CX X E)
  (ha:PA X (e::es) t) (đ:(x==("__debug__":Str))=false:=by decide) (he:Q8 (e::es) X.env=(false,RB e X.env)::Q8 es X.env:=by rfl) (Ā:(RC pos (Q8 es X.env)).any (·.1)=false:=by rfl) :
  PE X (.Call (.Name x p) (e::es) [] pos) (Jc C sp dvs E t):=by
 intro pins s B H Q I h
 refine RG (qo I hg hm ?_ đ)
 refine W.callWith_K (h₀:=X.base) I.ok.mod.kin M.kp (Ë (ha pos pins s B H _ I h) λus s1 ⟨vs,H1,I1,r,q⟩=>{I1.ă,?_}) he Ā
 exact Fy M F hr hb hd hx I1 r q
end
def PK(X:Cx)(ϗ:List SU)(t:TA):Prop:=
 ∀(pos:Pos)(pins:List (Q1×Obj))(s:Q3)(B:St)(H:Hp)(Q:List V->Hp->Prop),Inv X pins B H s->t B H Q->wpAny (Ri X.prog X.w) X.A (evalAll ((Sz pos (RQ ϗ X.env)).map (·.2))) (AP X pins B Q) X.xe s
section
variable{X:Cx}{CX:ū}{k:Nat}{f C:Q1}{fd:Sq}{ps ks:List Str}{sp:Sp}{E:XK}{x m:Str}{p pos apos kpos:Pos}{e o:Expr}{es:List Expr}{ϗ:List SU}{te ta:TE}{t tk:TA}{nm:Option Str}
theorem Js:PK X [] C5:=λ_ _ _ _ H Q I h=>wpAny_evalAll_nil {[],H,I,.nil,h}
theorem HF(ha:PE X e te)(hr:PK X ϗ t):PK X (⟨nm,e,kpos⟩::ϗ) (yN te t):=by
 intro pos pins s B H Q I h;show wpAny _ _ (evalAll ((do let v<-RB e X.env;VF pos;pure v)::(Sz pos (RQ ϗ X.env)).map (·.2))) _ _ s;refine wpAny_evalAll_cons (QZ (Ë (ha pins s B H _ I h) λu s1 ⟨x,H1,I1,r1,q1⟩=>QZ (Ud (Q4 ?_))));exact Ë (hr pos pins s1 B H1 _ I1 q1) λus s2 ⟨xs,H2,I2,r2,q2⟩=>{x::xs,H2,I2,.cons r1 r2,q2}
structure xO(K:Q6)(fd:Sq)(ps ks:List Str)(g:List Q0->List Q0->List Q0)(gV:List V->List V->List V):Prop where
 to:∀(s:Q3)(us ws:List Q0),K.In s.heap->(g us ws).length=ps.length->UA s fd ⟨us,ks.zip ws⟩ (ps.zip (g us ws))
 rel:∀{vs:List V}{us:List Q0}{zs:List V}{ws:List Q0},Xf vs us->Xf zs ws->Xf (gV vs zs) (g us ws)
def FH(sp:Sp)(gV:List V->List V->List V)(E:XK)(t tk:TA):TE:=λB H Q=>t B H λvs H1=>tk B H1 λzs H2=>sp (gV vs zs) H2 Q E
variable{g:List Q0->List Q0->List Q0}{gV:List V->List V->List V}
theorem G8{pins:List (Q1×Obj)}{B:St}{H:Hp}{s:Q3}{Q:VK}{us ws:List Q0}{vs zs:List V}(F:j2 X.prog X.w X.K X.mg X.base CX k f fd ps sp)(hr:fu k X.A)(hb:xO X.K fd ps ks g gV)(hx:Xp CX X E)
  (I:Inv X pins B H s) (r:Xf vs us) (rz:Xf zs ws) (h:sp (gV vs zs) H Q E):wpAny (Ri X.prog X.w) X.A (call (.ref f) us (ks.zip ws)) (EP X pins B Q) X.xe s:=by
 have r2:=hb.rel r rz
 have hl:(g us ws).length=ps.length:=by rw[<-r2.length];exact F.len _ _ _ _ h
 refine Vn (SS (F.run X.A X.stack s H ⟨us,ks.zip ws⟩ (g us ws) (gV vs zs) Q E hr I.Ge (hb.to s us ws I.ă hl) r2 h) λr s' hq=>?_)
 cases r with
 |error e=>exact hx pins B H s e s' I hq
 |ok fl=>
  cases fl with
  |ret u=>exact I.after hq
  |next=>exact RN hq
  |brk=>exact RN hq
  |cont=>exact RN hq
theorem GJ(F:j2 X.prog X.w X.K X.mg X.base CX k f fd ps sp)(hr:fu k X.A)(hg:Gl X x)(hm:X.mg x=Xb (.ref f))(hk:Sh X.K (.ref f)=true)(hb:xO X.K fd ps ks g gV)(hx:Xp CX X E)
  (ha:PA X (e::es) t) (hkw:PK X ϗ tk) (ų:(Sz pos (RQ ϗ X.env)).all (·.1.isSome)=true:=by rfl) (hks:(Sz pos (RQ ϗ X.env)).filterMap (·.1)=ks:=by rfl)
  (đ:(x==("__debug__":Str))=false:=by decide) (he:Q8 (e::es) X.env=(false,RB e X.env)::Q8 es X.env:=by rfl)
  (Ā:((RC pos (Q8 (e::es) X.env)).any (·.1)||(Sz pos (RQ ϗ X.env)).any (·.1.isNone))=false:=by rfl) :
  PE X (.Call (.Name x p) (e::es) ϗ pos) (FH sp gV E t tk):=by
 intro pins s B H Q I h
 refine RG (qo I hg hm ?_ đ)
 refine W.callWith_KW (h₀:=X.base) I.ok.mod.kin hk ų (Ë (ha pos pins s B H _ I h) λus s1 ⟨vs,H1,I1,r,q⟩=>?_) Ā he
 refine Ë (hkw pos pins s1 B H1 _ I1 q) λws s2 ⟨zs,H2,I2,rz,q2⟩=>{I2.ă,?_}
 rw[hks]
 exact G8 F hr hb hx I2 r rz q2
end
structure aE(N P:List Str)(sc:TZ):Prop where
 kind:sc.kind=.function
 co:sc.isCoroutine=false
 gen:sc.isGenerator=false
 nd:N.Nodup
 pre:N.take P.length=P
 par:∀x∈P,sc.names.lookup x=Xb .local\/sc.names.lookup x=Xb .cell
 Kb:∀y∈sc.names,y.2≠ .free
theorem vC{kindOf:Str->Option SD}{x:Str}:∀{binds:List (Str×Q0)}{m:Str->Option Q0},(∀v,(x,v)∉binds)->Ww kindOf binds m x=m x
 | [],_,_=>rfl
 | (n,v)::r,m,h=>by
  unfold Ww;rw[vC λw hw=>h w (N8 _ hw)];split
  ·have:x≠n:=by rintro rfl;exact h v N9
   simp[this]
  rfl
theorem vA{kindOf:Str->Option SD}{x:Str}:∀{binds:List (Str×Q0)}{m:Str->Option Q0},(∀v,(x,v)∉binds)->Wx kindOf binds m x=m x
 | [],_,_=>rfl
 | (n,v)::r,m,h=>by
  unfold Wx;rw[vA λw hw=>h w (N8 _ hw)];split
  ·rfl
  have:x≠n:=by rintro rfl;exact h v N9
  simp[this]
theorem vP{kindOf:Str->Option SD}{x:Str}{v:Q0}:∀{P:List Str}{vs:List Q0}{i:Nat}{m:Str->Option Q0},P.Nodup->P[i]?=Xb x->vs[i]?=Xb v->kindOf x=Xb .local->
  Ww kindOf (P.zip vs) m x=Xb v
 | [],_,_,_,_,h,_,_=>by simp at h
 |_::_,[],_,_,_,_,h,_=>by simp at h
 |p::P,w::vs,0,m,nd,h1,h2,hk=>by
  simp at h1 h2;subst h1;subst h2;show Ww kindOf ((p,w)::P.zip vs) m p=_;unfold Ww;rw[vC λv hv=>(OO.mp nd).1 (Pu hv).1,if_pos hk];simp
 |p::P,w::vs,i+1,m,nd,h1,h2,hk=>by
  show Ww kindOf ((p,w)::P.zip vs) m x=_;unfold Ww;exact vP (i:=i) (OO.mp nd).2 (by simpa using h1) (by simpa using h2) hk
theorem wI{kindOf:Str->Option SD}{x:Str}{v:Q0}:∀{P:List Str}{vs:List Q0}{i:Nat}{m:Str->Option Q0},P.Nodup->P[i]?=Xb x->vs[i]?=Xb v->kindOf x≠Xb .local->
  Wx kindOf (P.zip vs) m x=Xb v
 | [],_,_,_,_,h,_,_=>by simp at h
 |_::_,[],_,_,_,_,h,_=>by simp at h
 |p::P,w::vs,0,m,nd,h1,h2,hk=>by
  simp at h1 h2;subst h1;subst h2;show Wx kindOf ((p,w)::P.zip vs) m p=_;unfold Wx;rw[vA λv hv=>(OO.mp nd).1 (Pu hv).1,if_neg hk];simp
 |p::P,w::vs,i+1,m,nd,h1,h2,hk=>by
  show Wx kindOf ((p,w)::P.zip vs) m x=_;unfold Wx;exact wI (i:=i) (OO.mp nd).2 (by simpa using h1) (by simpa using h2) hk
def Xn(N:List Str)(vs:List V):St:=vs.map Xb++Rj (N.length-vs.length) Xc
def vk(CX:ū)(P:Program)(w:Rh)(K:Q6)(mg:Str->Option Q0)(base:Rp)(N:List Str)(qual:Str)(scope:TZ)(f:Q1)(cd:Q0)(A:Rv)(outer:List Env)(s:Q3)(H:Hp)(E:XK):Cx where
 prog:=P
 w:=w
 K:=K
 mg:=mg
 base:=base
 A:=A.deeper (SX qual scope s.heap.objs.size f cd)
 N:=N
 s₀:=s
 H₀:=H
 env:=SX qual scope s.heap.objs.size f cd
 outer:=outer
 stack:=SX qual scope s.heap.objs.size f cd::outer
 ex:=[]
 calm:=true
 fn:=λ_=>true
 pn:=[]
 xe:=λe s'=>wpAny (Ri P w) (A.deeper (SX qual scope s.heap.objs.size f cd)) (leaving (SX qual scope s.heap.objs.size f cd) e) (λ_ s''=>CX outer H s E e s'') (λe' s''=>CX outer H s E e' s'') s'
theorem yF{sc:TZ}{n:Nat}{x:Str}(h:sc.names.lookup x=Xb .cell):∃c,(RL n sc.names []).lookup x=Xb c:=by
 have q:=Tv sc.names n [] (.inl h);exact PB.mp q
theorem DS{CX:ū}{P:Program}{w:Rh}{K:Q6}{mg:Str->Option Q0}{base:Rp}{N ps:List Str}{qual:Str}{scope:TZ}{f:Q1}{cd:Q0}{A:Rv}{outer:List Env}{s s1:Q3}{H:Hp}{E:XK}{us:List Q0}{vs:List V}
  (S:aE N ps scope) (hd:A.handled=Xc) (e0:AO P w K mg base A outer s H) (hl:vs.length=ps.length) (r:Xf vs us)
  (x:InCallC s s.heap.objs.size (Ww (SX qual scope s.heap.objs.size f cd).kindOf (ps.zip us) λ_=>Xc) (RL (s.heap.objs.size+1) scope.names []) (Wx (SX qual scope s.heap.objs.size f cd).kindOf (ps.zip us) λ_=>Xc) s1) :
  Inv (vk CX P w K mg base N qual scope f cd A outer s H E) [] (Xn N vs) H s1:=by
 have Ā:ps.length<=N.length:=by have:=congrArg Ta S.pre;rw[OH]at this;lia
 obtain⟨h1,tk,rfl,hk⟩:=x.done
 have noA:∀b:Q1,b∉(vk CX P w K mg base N qual scope f cd A outer s H E).ex:=λb z=>absurd (show b∈([]:List Q1)from z) (by simp)
 refine⟨{e0.mod,S.kind,rfl,rfl,Oc _,λy z c h1 h2=>?_,λy hy=>?_,λy c _ h=>?_,λ_=>hd,Around.frames_deeper e0.frames,.inr ⟨rfl,rfl⟩,λb z=>absurd z (noA b),e0.bs,e0.Τ,λb _ _=>noA b,λb z=>absurd z (noA b),e0.sg,e0.frf},
  rfl,e0.bare,Un.kept hk,{_,x.toInCall.ns,λi y v h1 h2 h3=>?_},λy c h=>{_,x.cell y c h},e0.Ç.fresh (Oc _),λy c h=>?_,λp hp=>absurd (show p∈([]:List (Q1×Obj))from hp) (by simp),e0.Ç.kept hk,?_⟩
 ·exact name_of_addr x.apart (Ro h1) (Ro h2)
 ·have hy:scope.names.lookup y=Xb .cell\/scope.names.lookup y=Xb .free:=hy;rcases hy with hy|hy
  ·exact yF hy
  exact absurd rfl (S.Kb _ (Ro hy))
 ·exact Pe (x.above y c (Ro h))
 ·have hi:i<vs.length:=by
   unfold Xn at h2;by_cases hi:i<vs.length
   ·exact hi
   rw[Pb (by simpa using hi)]at h2;rw[Uo]at h2;split at h2<;>cases h2
  have ha:vs[i]?=Xb v:=by
   unfold Xn at h2;rw[OR (by simpa using hi),Oi]at h2;cases e:vs[i]? with
   |none=>rw[e]at h2;cases h2
   |some a=>rw[e]at h2;cases h2;rfl
  obtain⟨u,hu,rv⟩:=r.get ha;have hp:ps[i]?=Xb y:=by
   rw[<-S.pre,P1 ()];exact h1
  have ndP:ps.Nodup:=by rw[<-S.pre];exact S.nd.sublist (List.take_sublist _ _)
  refine{u,rv,?_};rcases S.par y (Oe hp)with k|k
  ·exact .inl ⟨k,vP ndP hp hu k⟩
  obtain⟨c,e⟩:=yF (n:=s.heap.objs.size+1) k;refine .inr {.inl k,c,e,?_};have q:=x.cell y c e;rw[wI ndP hp hu (by show scope.names.lookup y≠_;rw[k];decide)]at q;exact q
 ·exact e0.Ç.fresh (Pe (x.above y c (Ro h)))
 unfold Xn
 show _=N.length
 rw[N7,N3,OY]
 lia
theorem Eh{CX:ū}{P:Program}{w:Rh}{K:Q6}{mg:Str->Option Q0}{base:Rp}{k:Nat}{f:Q1}{name qual:Str}{params:Arguments}{body:List Rl}{scope:TZ}{dV kV doc pm Ä ct oc:Q0}{an od:Option Q1}
  {ú:Array (Option Q0)}{N ps:List Str}{sp:Sp} (lk:K.lookup f=Xb {oc,od,.func (R5 name qual params body scope dV kV doc pm an Ä ct),ú}) (ķ:TC K Ä qual=true) (S:aE N ps scope)
  (len:∀vs H Q E,sp vs H Q E->vs.length=ps.length)
  (õ:∀(A:Rv)(outer:List Env)(s:Q3)(H:Hp)(vs:List V)(Q:VK)(E:XK),fu k (A.deeper (SX qual scope s.heap.objs.size f Ä))->sp vs H Q E->
   ∃t,ď (vk CX P w K mg base N qual scope f Ä A outer s H E) body t/\t { nx:=λ_ H'=>Q .Ê H',rt:=Q } (Xn N vs) H) :
  j2 P w K mg base CX (k+1) f (R5 name qual params body scope dV kV doc pm an Ä ct) ps sp:=by
 refine{len,λA outer s H args us vs Q E hr e0 hb r ť=>?_}
 have hl:=len _ _ _ _ ť
 have KX:K.In s.heap:=e0.mod.kin.keeps λb o e=>(e0.bs b o e).1
 have lim:s.heap.NoLimit:=e0.mod.nolimit.keeps λb o e=>(e0.bs b o e).1
 have hkind:∀y∈ps.zip us,scope.names.lookup y.1=Xb .local\/(scope.names.lookup y.1=Xb .cell/\((RL (s.heap.objs.size+1) scope.names []).lookup y.1).isSome=true):=λ⟨n,v⟩ hy=>by
  rcases S.par n (Pu hy).1 with q|q
  ·exact .inl q
  exact .inr {q,Tv _ _ _ (.inl q)}
 refine codeAny_call_function hr.depth (KX _ _ lk) rfl S.co S.gen rfl (W.codeRec_of KX ķ) (hb _ _ _ _ ?_)
 refine wpAny_newFunctionEnv_cells S.kind hkind λenv he s1 x=>?_
 subst he
 refine{lim.keeps x.toInCall.keep,codeAny_func ?_}
 obtain⟨t,ht,hq⟩:=õ A outer s H vs Q E (hr.deeper _) ť
 have I:Inv (vk CX P w K mg base N qual scope f Ä A outer s H E) [] (Xn N vs) H s1:=DS S hr.hd e0 hl r x
 refine Su (ht [] s1 (Xn N vs) H _ I hq) (λfl s' hs=>?_) λe s' hs=>hs
 have fin:∀{B':St}{H':Hp}{v:V}{u:Q0},Inv (vk CX P w K mg base N qual scope f Ä A outer s H E) [] B' H' s'->Xh v u->Q v H'->CE outer P w H s Q u s':=
  λ{B' H' v u} J rv q=>⟨v,H',J.os,J.bare,J.base,J.Ç,rv,q⟩
 cases fl with
 |ret u=>
  obtain⟨v,B',H',J,rv,q⟩:=hs
  exact fin J rv q
 |next=>
  obtain⟨B',H',J,q⟩:=hs
  exact fin (v:=V.Ê) (u:=Tt) J rfl q
 |brk=>
  obtain⟨_,_,_,q⟩:=hs
  exact RN q
 |cont=>
  obtain⟨_,_,_,q⟩:=hs
  exact RN q
section
variable{X:Cx}{x:Str}{p pos:Pos}{e:Expr}{es:List Expr}{t:TA}{id T:String}{r:List V->Hp->VK->Prop}
def tCB(r:List V->Hp->VK->Prop)(t:TA):TE:=λB H Q=>t B H λvs H1=>r vs H1 Q
theorem Es(hc:eK X (.builtin id) r)(hg:Gl X x)(hm:X.mg x=Xc)(hv:So x=Xb (.builtin id))(ha:PA X (e::es) t)(hn:x≠"__name__":=by decide)(đ:(x==("__debug__":Str))=false:=by decide)
  (he:Q8 (e::es) X.env=(false,RB e X.env)::Q8 es X.env:=by rfl) (Ā:(RC pos (Q8 es X.env)).any (·.1)=false:=by rfl):PE X (.Call (.Name x p) (e::es) [] pos) (tCB r t):=by
 intro pins s B H Q I h
 refine RG (jL I hg hm hv ?_ hn đ)
 exact SE (Ë (ha pos pins s B H _ I h) λus s1 ⟨vs,H1,I1,r1,q1⟩=>hc pins s1 B H1 vs us Q I1 r1 q1) he Ā
theorem Di(hc:eK X (.type T) r)(hg:Gl X x)(hm:X.mg x=Xc)(hv:So x=Xb (.type T))(ha:PA X (e::es) t)(hn:x≠"__name__":=by decide)(đ:(x==("__debug__":Str))=false:=by decide)
  (he:Q8 (e::es) X.env=(false,RB e X.env)::Q8 es X.env:=by rfl) (Ā:(RC pos (Q8 es X.env)).any (·.1)=false:=by rfl):PE X (.Call (.Name x p) (e::es) [] pos) (tCB r t):=by
 intro pins s B H Q I h
 refine RG (jL I hg hm hv ?_ hn đ)
 exact RD (Ë (ha pos pins s B H _ I h) λus s1 ⟨vs,H1,I1,r1,q1⟩=>hc pins s1 B H1 vs us Q I1 r1 q1) he Ā
end
end L2
namespace HT
open PySem PyProof.Rows
section
open PySem.SeqAt
open PySem.AutoSeq1 (wpAny_loadPart')
open PySem.MeetsSeq PySem.MeetsSeq2 PySem.MeetsSeq3
end
section
variable{prog:Program}{w:Rh}{A:Rv}{E:Q0->Q3->Prop}{s:Q3}
def Ù(n d:Nat):Option Int->Nat
 |none=>d
 |some v=>if v<0 then(v+(n:Int)).toNat else min v.toNat n
theorem CF(n d k:Nat):Ù n d (Xb (k:Int))=min k n:=by
 show(if(k:Int)<0 then((k:Int)+(n:Int)).toNat else min (k:Int).toNat n)=min k n;rw[if_neg (),Qo]
theorem Lf(n d:Nat)(hd:d<=n)(o:Option Int):Ù n d o<=n:=by
 cases o with
 |none=>exact hd
 |some v=>
  show(if v<0 then(v+(n:Int)).toNat else min v.toNat n)<=n;by_cases hv:v<0
  ·rw[if_pos hv];lia
  rw[if_neg hv];exact Nat.min_le_right _ _
theorem B9(v:Int)(n d:Nat):(if v<0 then max (v+(n:Int)) 0 else min v (n:Int))=((Ù n d (Xb v):Nat):Int):=by
 show(if v<0 then max (v+(n:Int)) 0 else min v (n:Int))=(((if v<0 then(v+(n:Int)).toNat else min v.toNat n):Nat):Int);by_cases hv:v<0
 ·simp only[if_pos hv];lia
 simp only[if_neg hv];lia
theorem Ax(lo hi:Option Int)(n:Nat):SW lo hi 1 (n:Int)=(((Ù n 0 lo:Nat):Int),((Ù n n hi:Nat):Int)):=by
 have h1:¬ ((1:Int)<0):=()
 unfold SW;simp only[h1,if_false];refine Te ?_ ?_
 ·cases lo with
  |none=>rfl
  |some v=>exact B9 v n 0
 cases hi with
 |none=>rfl
 |some v=>exact B9 v n n
theorem AR(i j:Nat):RA (i:Int) (j:Int) 1=j-i:=by
 unfold RA;have h1:(1:Int)>0:=()
 simp only[h1,if_true,Int.ediv_one];split<;>lia
theorem tB{v:Q0}{o:Option Int}{Q:Option Int->Q3->Prop}(p:Vo v o)(h:Q o s):wpAny (Ri prog w) A (Builtin.Slice.slicePartIndex v) Q E s:=by
 cases p with
 |none=>exact T4 h
 |int i t=>exact slicePart_int h
theorem rK{sl:Q1}{vl vu:Q0}{lo hi:Option Int}{n:Nat}{Q:Int×Int×Nat->Q3->Prop}(hs:s.heap.IsSliceOf sl vl vu .none)(pl:Vo vl lo)(pu:Vo vu hi)
  (h:Q (((Ù n 0 lo:Nat):Int),1,Ù n n hi-Ù n 0 lo) s):wpAny (Ri prog w) A (Sl (.ref sl) (pure (n:Int))) Q E s:=by
 obtain⟨os,ő,hcs,Α⟩:=id hs
 unfold Sl T8
 refine QZ (QZ (TF ő Α (x:=vl) rfl (QZ (TF ő Α (x:=vu) rfl (QZ (TF ő Α (x:=.none) rfl (Q4 ?_)))))))
 refine QZ (T4 ?_)
 show wpAny _ _ (if((1:Int)==0)=true then _ else _) _ _ s
 rw[if_neg ∅]
 refine QZ (tB pl (QZ (tB pu (QZ (Q4 ?_)))))
 show wpAny _ _ (match SW lo hi 1 (n:Int)with|(lo,hi)=>pure (lo,(1:Int),RA lo hi 1)) _ _ s
 rw[Ax lo hi n]
 show wpAny _ _ (pure (((Ù n 0 lo:Nat):Int),(1:Int),RA ((Ù n 0 lo:Nat):Int) ((Ù n n hi:Nat):Int) 1)) _ _ s
 rw[AR]
 exact Q4 h
theorem Eb(xs:Array Q0)(i k:Nat):((Rz k).filterMap λ(m:Nat)=>xs[((i:Int)+(m:Int)*1).toNat]?).toArray=((xs.toList.drop i).take k).toArray:=by
 have e:(λ(m:Nat)=>xs[((i:Int)+(m:Int)*1).toNat]?)=λm=>xs[i+m]?:=by
  funext m
  have:((i:Int)+(m:Int)*1).toNat=i+m:=()
  rw[this]
 rw[e];have:=pick_run xs i k;rw[List.filterMap_map]at this;have e2:((λx=>xs[x]?)∘λx=>i+x)=λm=>xs[i+m]?:=rfl;rw[e2]at this;rw[this]
theorem qH{t sl:Q1}{items:Array Q0}{vl vu:Q0}{lo hi:Option Int}{Q:Q0->Q3->Prop}(ht:IsTup s.heap t items)(hs:s.heap.IsSliceOf sl vl vu .none)(pl:Vo vl lo)(pu:Vo vu hi)
  (hw:¬ (Ù items.size 0 lo=0/\Ù items.size items.size hi=items.size))
  (h:Q (.ref s.heap.objs.size) { s with heap:=s.heap.push { cls:=.type "tuple",data:=.seq ((items.toList.drop (Ù items.size 0 lo)).take (Ù items.size items.size hi-Ù items.size 0 lo)).toArray } })
  (hsz:items.size<=sizeLine):wpAny (Ri prog w) A (Uc (.ref t) (.ref sl)) Q E s:=by
 have Ą:sizeOk (.seq ((items.toList.drop (Ù items.size 0 lo)).take (Ù items.size items.size hi-Ù items.size 0 lo)).toArray):=by
  show((items.toList.drop (Ù items.size 0 lo)).take (Ù items.size items.size hi-Ù items.size 0 lo)).toArray.size<=sizeLine;rw[Om,OH,V2,O8];lia
 have hj:Ù items.size items.size hi<=items.size:=Lf _ _ (Oc _) hi
 obtain⟨os,ő,hcs,Α⟩:=id hs
 have hTs:s.TypeIs (.ref sl) "slice":=⟨os,ő,hcs⟩
 unfold Uc
 try with_reducible refine wpAny_holding ?_
 first|refine QZ (Q4 ?_)|skip
 refine QZ (VJ ht.typeIs ∅ ?_)
 refine QZ (SF (name:=SV "__getitem__") ht.typeIs RX
  (R0 RX ht.typeIs U8 ?_ (Vp _ _)))
 show wpAny _ _ (T5 (.ref t)>>=_) _ _ s
 refine QZ (tupleItemsOf_ ht ?_)
 refine QZ (Tj hTs ?_)
 rw[if_pos ∅]
 refine QZ (rK hs pl pu ?_)
 have hno:¬ ((((Ù items.size 0 lo:Nat):Int)==0&&(1:Int)==1&&(Ù items.size items.size hi-Ù items.size 0 lo)==items.size)=true):=by
  intro q;rw[PC,PC]at q;have q1:((Ù items.size 0 lo:Nat):Int)=0:=eq_of_beq q.1.1;have q2:Ù items.size items.size hi-Ù items.size 0 lo=items.size:=eq_of_beq q.2;exact hw {(),()}
 show wpAny _ _ (if(((Ù items.size 0 lo:Nat):Int)==0&&(1:Int)==1&&(Ù items.size items.size hi-Ù items.size 0 lo)==items.size)=true then _ else _) _ _ s
 rw[if_neg hno,Eb]
 first
  |exact QZ (m:=Ry _) (Rt (Q4 {_,rfl,Q4 h}) Ą)
  |exact QZ (m:=Ry _) (Rt (QZ (Q4 (Q4 {_,rfl,Q4 h}))) Ą)
  |exact QZ (QZ (m:=Ry _) (Rt (Q4 (Q4 {_,rfl,Q4 h})) Ą))
  |exact QZ (QZ (m:=Ry _) (Rt (Q4 {_,rfl,Q4 h}) Ą))
end
end HT
namespace L2
open PySem PySem.Spec PyProof.Rows
abbrev TO:=St->Hp->(Option Int->Hp->Prop)->Prop
def PO(X:Cx)(e:Option Expr)(t:TO):Prop:=
 ∀(pins:List (Q1×Obj))(s:Q3)(B:St)(H:Hp)(Q:Option Int->Hp->Prop),Inv X pins B H s->t B H Q->
  wpAny (Ri X.prog X.w) X.A (evalPart e X.env) (λu s'=>∃o H',Inv X pins B H' s'/\Vo u o/\Q o H') X.xe s
def Im:TO:=λ_ H Q=>Q Xc H
inductive LZ(x:V)(H:Hp)(Q:Option Int->Hp->Prop):Prop
 |mk(i:Int)(h:x=.int i)(q:Q (Xb i) H):LZ x H Q
def MJ(t:TE):TO:=λB H Q=>t B H λx H1=>LZ x H1 Q
theorem intsAre_of{ns:List Int}:∀{us:List Q0},Xf (ns.map V.int) us->TU us ns:=by
 induction ns with
 |nil=>intro us r;rw[P2]at r;cases r;exact .nil
 |cons n ns ih=>
  intro us r;rw[Ox]at r;cases r with
  |cons r1 r2=>
   obtain⟨t,e⟩:=r1;subst e;exact .cons n t (ih r2)
section
variable{X:Cx}{e:Expr}{te:TE}{lo hi:Option Expr}{tl th:TO}{pos p2:Pos}
theorem B4:PO X Xc Im:=by
 intro pins s B H Q I h;rw[Ue];exact Q4 ⟨Xc,H,I,.none,h⟩
theorem cX(h:PE X e te):PO X (Xb e) (MJ te):=by
 intro pins s B H Q I hw;rw[Vf];refine Ë (h pins s B H _ I hw) λu s1 z9=>?_;obtain⟨x,H1,I1,r1,q1⟩:=z9;obtain⟨i,rfl,q⟩:=q1;obtain⟨t,rfl⟩:=r1;exact⟨Xb i,H1,I1,.int i t,q⟩
def ϣ(X:Cx)(r:V->Option Int->Option Int->Hp->VK->Prop):Prop:=
 ∀(pins:List (Q1×Obj))(s:Q3)(B:St)(H:Hp)(x:V)(v vl vu:Q0)(lo hi:Option Int)(sl:Q1)(Q:VK),Inv X pins B H s->Xh x v->s.heap.IsSliceOf sl vl vu .none->Vo vl lo->Vo vu hi->r x lo hi H Q->
  ∃T id,typeLookup (.type T) "__getitem__"=pure (Xb (.builtin id))/\s.TypeIs v T/\wpAny (Ri X.prog X.w) X.A (Uc v (.ref sl)) (EP X pins B Q) X.xe s
theorem ϣ.or{r r':V->Option Int->Option Int->Hp->VK->Prop}(h:ϣ X r)(h':ϣ X r'):ϣ X (λx lo hi H Q=>r x lo hi H Q\/r' x lo hi H Q):=by
 intro pins s B H x v vl vu lo hi sl Q I rx hs pl pu q;rcases q with q|q
 ·exact h pins s B H x v vl vu lo hi sl Q I rx hs pl pu q
 exact h' pins s B H x v vl vu lo hi sl Q I rx hs pl pu q
def tSl(r:V->Option Int->Option Int->Hp->VK->Prop)(te:TE)(tl th:TO):TE:=λB H Q=>te B H λx H1=>tl B H1 λl H2=>th B H2 λu H3=>r x l u H3 Q
theorem fD{r:V->Option Int->Option Int->Hp->VK->Prop}(hr:ϣ X r)(he:PE X e te)(hl:PO X lo tl)(hu:PO X hi th):PE X (.Subscript e (.Slice lo hi Xc p2) pos) (tSl r te tl th):=by
 intro pins s B H Q I h;refine Vq (Ë (he pins s B H _ I h) λv s1 z9=>?_);obtain⟨x,H1,I1,r1,q1⟩:=z9;refine Wf (Ë (hl pins s1 B H1 _ I1 q1) λvl s2 ⟨l,H2,I2,pl,q2⟩=>Ë (hu pins s2 B H2 _ I2 q2) λvu s3 z9=>?_);obtain⟨u,H3,I3,pu,q3⟩:=z9;rw[Ue];refine Q4 ?_;have I4:Inv X pins B H3 { s3 with heap:=s3.heap.push { cls:=.type "slice",data:=.fields #[vl,vu,.none] } }:=I3.kept (t':=s3.toks) λb ob q=>Q5 _ q;obtain⟨T,id,hT,ht,hg⟩:=hr pins { s3 with heap:=s3.heap.push { cls:=.type "slice",data:=.fields #[vl,vu,.none] } } B H3 x v vl vu l u s3.heap.objs.size Q I4 r1 (T6 ..) pl pu q3;show wpAny (Ri X.prog X.w) X.A (Vg e (.Slice lo hi Xc p2) v (.ref s3.heap.objs.size)) (EP X pins B Q) X.xe { s3 with heap:=s3.heap.push { cls:=.type "slice",data:=.fields #[vl,vu,.none] } };exact Wy (ops:=[.ref s3.heap.objs.size,v]) ht hT hg (by with_unfolding_all rfl)
def kU(xs:List V)(lo hi:Option Int):List V:=(xs.drop (HT.Ù xs.length 0 lo)).take (HT.Ù xs.length xs.length hi-HT.Ù xs.length 0 lo)
theorem rX(xs:List V)(lo hi:Option Int):(kU xs lo hi).length<=xs.length:=by
 unfold kU;rw[OH,V2];lia
def Kj(K:Q6):V->Option Int->Option Int->Hp->VK->Prop:=λx lo hi H Q=>∃a xs,x=.ref a/\É K H a xs/\
 ¬ (HT.Ù xs.length 0 lo=0/\HT.Ù xs.length xs.length hi=xs.length)/\∀p,H p=Xc->Q (.ref p) (upd H p (.tup (kU xs lo hi)))
theorem JZ:ϣ X (Kj X.K):=by
 intro pins s B H x v vl vu lo hi sl Q I rx hs pl pu h;obtain⟨a,xs,rfl,hx,hw,q⟩:=h;cases rx;obtain⟨Â,r,ht,hz⟩:=I.tuple hx;have hlen:Â.toArray.size=xs.length:=by rw[Om];exact r.length.symm
 refine{"tuple",_,PyProof.Rows.slot_tuple_getitem.lookup,ht.typeIs,?_};refine HT.qH ht hs pl pu (by rw[hlen];exact hw) ?_ (by rw[hlen];exact hz);rw[hlen];refine{.ref s.heap.objs.size,_,I.laid (t':=s.toks) (o:=.tup (kU xs lo hi)) (λb ob q=>Q5 _ q) (Oc _) ?_,rfl,q _ (I.Ç.fresh (Oc _))};exact{Ol (rX xs lo hi) hz,_,(r.drop (HT.Ù xs.length 0 lo)).take (HT.Ù xs.length xs.length hi-HT.Ù xs.length 0 lo),IsTup.new _ _}
end
def π(n:Nat)(i:Int):Option Nat:=if 0<=i then(if i<n then Xb i.toNat else Xc)else if -(n:Int)<=i then Xb (i+n).toNat else Xc
def Ġ{α:Type}(xs:List α)(i:Int):Option α:=(π xs.length i).bind λj=>xs[j]?
theorem Bu{n:Nat}{i:Int}{j:Nat}(h:π n i=Xb j):seqIndex? i n=Xb j/\j<n/\-(n:Int)<=i/\i<n:=by
 unfold π at h;by_cases h0:0<=i
 ·rw[if_pos h0]at h;by_cases h1:i<n
  ·rw[if_pos h1]at h;have e:i.toNat=j:=Q9 h;exact{by rw[Wg h0 h1,e],(),(),h1}
  rw[if_neg h1]at h;cases h
 rw[if_neg h0]at h;by_cases h1:-(n:Int)<=i
 ·rw[if_pos h1]at h;have e:(i+n).toNat=j:=Q9 h;exact{by rw[VL () h1,e],(),h1,()}
 rw[if_neg h1]at h;cases h
theorem xV{α:Type}{xs:List α}{i:Int}{v:α}(h:Ġ xs i=Xb v):∃j,seqIndex? i xs.length=Xb j/\xs[j]?=Xb v/\j<xs.length/\-(xs.length:Int)<=i/\i<xs.length:=by
 unfold Ġ at h;cases e:π xs.length i with
 |none=>rw[e]at h;cases h
 |some j=>
  rw[e]at h;obtain⟨h1,h2,h3,h4⟩:=Bu e;exact⟨j,h1,h,h2,h3,h4⟩
theorem jH{α:Type}{xs:List α}{j:Nat}{v:α}(h:xs[j]?=Xb v):Ġ xs (j:Int)=Xb v:=by
 have hj:j<xs.length:=(Ot.mp h).1;have e:π xs.length (j:Int)=Xb j:=by
  unfold π;rw[if_pos (),if_pos ()];simp
 unfold Ġ;rw[e];exact h
def BO(b:Expr):Prop:=∀o i,subscripted b false o i=operate [o,i] (Uc o i)
def IxR(X:Cx)(r:R2):Prop:=
 ∀(value slice:Expr)(pins:List (Q1×Obj))(s:Q3)(B:St)(H:Hp)(x y:V)(v u:Q0)(Q:VK),Inv X pins B H s->Xh x v->Xh y u->r x y H Q->
  subscripted slice false v u=operate [v,u] (Uc v u)->wpAny (Ri X.prog X.w) X.A (Vg value slice v u) (EP X pins B Q) X.xe s
def MtR(X:Cx)(id:String)(r:V->List V->Hp->VK->Prop):Prop:=
 ∀(pins:List (Q1×Obj))(s:Q3)(B:St)(H:Hp)(x:V)(xs:List V)(v:Q0)(us:List Q0)(Q:VK),Inv X pins B H s->Xh x v->Xf xs us->r x xs H Q->
  wpAny (Ri X.prog X.w) X.A (call (.builtin id) (v::us)) (EP X pins B Q) X.xe s
section
variable{X:Cx}{a b:Expr}{ta tb:TE}{pos:Pos}
theorem LY{r:R2}(hr:IxR X r)(ha:PE X a ta)(hb:PE X b tb)(hs:BO b):PE X (.Subscript a b pos) (tOp r ta tb):=by
 intro pins s B H Q I h;exact Vq (Kg ha hb I h λv u s2 x y H2 I2 rx ry q=>hr a b pins s2 B H2 x y v u Q I2 rx ry q (hs _ _))
def Nh(K:Q6):R2:=λx y H Q=>∃p xs i v,x=.ref p/\y=.int i/\À K H p xs/\Ġ xs i=Xb v/\Q v H
def Np(K:Q6):R2:=λx y H Q=>∃p xs i v,x=.ref p/\y=.int i/\É K H p xs/\Ġ xs i=Xb v/\Q v H
def NX:R2:=λx y H Q=>∃z i c,x=.str z/\y=.int i/\z.length<=sizeLine/\Ġ z.cps.toList i=Xb c/\Q (.str ⟨#[c]⟩) H
theorem GQ:IxR X (Nh X.K):=by
 intro value slice pins s B H x y v u Q I rx ry h hs;obtain⟨p,xs,i,z,rfl,rfl,hq,he,q⟩:=h;cases rx;obtain⟨t,rfl⟩:=ry;obtain⟨Â,r,pl,hz⟩:=I.list hq;obtain⟨j,h1,h2,h3,h4,h5⟩:=xV he;obtain⟨w,ew,Ϯ⟩:=r.get h2;have hl:=r.length;have hn:=rD;have fin:EP X pins B Q w s:=⟨z,H,I,Ϯ,q⟩;by_cases h0:0<=i
 ·have hj:i.toNat=j:=by
   rw[Wg h0 h5]at h1;exact Q9 h1
  exact item_listR pl.isList h0 () (by rw[hj];simpa using ew) fin hs
 have hj:(i+(Â.toArray.size:Int)).toNat=j:=by
  rw[VL () h4]at h1;rw[Om,<-hl];exact Q9 h1
 exact UB (x:=w) pl.isList.typeIs slot_list_getitem.lookup
  (wpAny_getItem_list_neg (Q:=λr s'=>r=w/\EP X pins B Q r s') pl.isList () (by rw[Om]<;>lia) () (by rw[hj];simpa using ew) ⟨rfl,fin⟩) hs
theorem J5:IxR X (Np X.K):=by
 intro value slice pins s B H x y v u Q I rx ry h hs;obtain⟨p,xs,i,z,rfl,rfl,hq,he,q⟩:=h;cases rx;obtain⟨t,rfl⟩:=ry;obtain⟨Â,r,pl,hz⟩:=I.tuple hq;obtain⟨j,h1,h2,h3,h4,h5⟩:=xV he;obtain⟨w,ew,Ϯ⟩:=r.get h2;have hl:=r.length;have hn:=rD;have fin:EP X pins B Q w s:=⟨z,H,I,Ϯ,q⟩;exact UB (x:=w) pl.typeIs slot_tuple_getitem.lookup
  (getItem_tuple (j:=j) (Q:=λr s'=>r=w/\EP X pins B Q r s') pl () () (by rw[Om,<-hl];exact h1) (by simpa using ew) ⟨rfl,fin⟩) hs
theorem JH:IxR X NX:=by
 intro value slice pins s B H x y v u Q I rx ry h hs;obtain⟨z,i,c,rfl,rfl,hz,he,q⟩:=h;obtain⟨t,rfl⟩:=rx;obtain⟨t',rfl⟩:=ry;obtain⟨j,h1,h2,h3,h4,h5⟩:=xV he;have hl:z.cps.toList.length=z.length:=by simp[Str.length]
 rw[hl]at h1 h4 h5;have hn:=rD;exact Wy (Vr s z t) slot_str_getitem.lookup (getItem_str (c:=c) (by
  have e1:decide (i< -(2^63:Int))=false:=decide_eq_false ();have e2:decide (i ≥ 2^63)=false:=decide_eq_false ();rw[e1,e2,Bool.or_false]) (by rw[h1];simpa using h2) {.str ⟨#[c]⟩,H,I.tok _,{_,rfl},q}) hs
theorem Bc(Â:List Q0)(n j:Nat)(u:Q0):SR (·.setIfInBounds j u) { cls:=.type "list",data:=.seq Â.toArray n }={ cls:=.type "list",data:=.seq (Â.set j u).toArray n }:=by
 simp[SR]
theorem Inv.lst{pins:List (Q1×Obj)}{B:St}{H:Hp}{s:Q3}{p:Q1}{xs:List V}(I:Inv X pins B H s)(h:H p=Xb (.lst xs)) :
  ∃(Â:List Q0)(n:Nat),Xf xs Â/\s.heap.get? p=Xb { cls:=.type "list",data:=.seq Â.toArray n }/\xs.length<=sizeLine:=by
 obtain⟨z,Â,n,r,e⟩:=I.Ç p _ h
 exact⟨Â,n,r,e,z⟩
theorem Inv.JQ{pins:List (Q1×Obj)}{B:St}{H:Hp}{s:Q3}{p:Q1}{xs ys:List V}{Â its':List Q0}{n n':Nat}{f:Obj->Obj}(I:Inv X pins B H s)(h:H p=Xb (.lst xs))
  (ho:s.heap.get? p=Xb { cls:=.type "list",data:=.seq Â.toArray n }) (hf:f { cls:=.type "list",data:=.seq Â.toArray n }={ cls:=.type "list",data:=.seq its'.toArray n' }) (r:Xf ys its') (hz:ys.length<=sizeLine) (t:Nat) :
  Inv X pins B (upd H p (.lst ys)) { s with heap:=s.heap.update p f,toks:=t }:=by
 have e:(s.heap.update p f).get? p=Xb { cls:=.type "list",data:=.seq its'.toArray n' }:=by
  rw[RZ f ho (by rw[hf]<;>rfl),hf]
 refine I.write (x:=p) (e:=p) (by rw[h];trivial) (.inl rfl) (λb u hb q=>(RV _ _ (Pn hb)).trans q) {_,e} ?_
 exact⟨hz,its',n',r,e⟩
def Je:V->V->V->Hp->(Hp->Prop)->Prop:=λo i v H Q=>∃p xs k j,o=.ref p/\i=.int k/\H p=Xb (.lst xs)/\π xs.length k=Xb j/\Q (upd H p (.lst (xs.set j v)))
theorem Xe:Ec X Je:=by
 intro pins s B H o i v ov iv u Q I ro ri rv h;obtain⟨p,xs,k,j,rfl,rfl,hp,hj,q⟩:=h;cases ro;obtain⟨t,rfl⟩:=ri;obtain⟨Â,n,r,ho,hz⟩:=I.lst hp;obtain⟨h1,h2,h3,h4⟩:=Bu hj;have hl:=r.length;have hn:=rD;have I':Inv X pins B (upd H p (.lst (xs.set j v))) { s with heap:=s.heap.update p (SR (·.setIfInBounds j u)) }:=
  I.JQ hp ho (Bc Â n j u) (r.set rv j) (by rw[List.length_set];exact hz) s.toks
 by_cases h0:0<=k
 ·have hk:k.toNat=j:=by
   rw[Wg h0 h4]at h1;exact Q9 h1
  exact W.ki_setAt ho h0 () (by rw[Om,<-hl];exact h4) (by rw[hk];exact{_,I',q})
 have hk:(k+(Â.toArray.size:Int)).toNat=j:=by
  rw[VL () h3]at h1;rw[Om,<-hl];exact Q9 h1
 exact W.ki_setBack ho () (by rw[Om,<-hl];exact h3) () (by rw[hk];exact{_,I',q})
theorem wX(lo hi:Option Int)(n:Nat):(Tb lo hi Xc n).1=((HT.Ù n 0 lo:Nat):Int)/\(Tb lo hi Xc n).2.1=((HT.Ù n n hi:Nat):Int)/\(Tb lo hi Xc n).2.2=1:=by
 refine{?_,?_,rfl}
 ·cases lo with
  |none=>simp[Tb,HT.Ù]
  |some i=>
   simp only[Tb,HT.Ù,V3,show(1:Int)>0 by decide,if_true];by_cases h:i<0
   ·simp only[h,if_true]<;>lia
   simp only[h,if_false]<;>lia
 cases hi with
 |none=>simp[Tb,HT.Ù]
 |some i=>
  simp only[Tb,HT.Ù,V3,show(1:Int)>0 by decide,if_true];by_cases h:i<0
  ·simp only[h,if_true]<;>lia
  simp only[h,if_false]<;>lia
theorem ve(Â:List Q0)(lo hi:Option Int):slicePick Â.toArray lo hi Xc=((Â.drop (HT.Ù Â.length 0 lo)).take (HT.Ù Â.length Â.length hi-HT.Ù Â.length 0 lo)).toArray:=by
 obtain⟨h1,h2,h3⟩:=wX lo hi Â.toArray.size;unfold slicePick;rw[h1,h2,h3];simp only[sliceRange_one,pick_run,Om]<;>rfl
def Ln(K:Q6):V->Option Int->Option Int->Hp->VK->Prop:=λx lo hi H Q=>∃a xs,x=.ref a/\À K H a xs/\∀p,H p=Xc->Q (.ref p) (upd H p (.lst (kU xs lo hi)))
theorem Ic:ϣ X (Ln X.K):=by
 intro pins s B H x v vl vu lo hi sl Q I rx hs pl pu h;obtain⟨a,xs,rfl,hx,q⟩:=h;cases rx;obtain⟨Â,r,ht,hz⟩:=I.list hx;have hlen:=r.length;refine{"list",_,slot_list_getitem.lookup,ht.isList.typeIs,?_};refine Ug ht.isList hs pl pu .none (by simp) ?_ (by rw[Om]<;>lia);rw[ve,<-hlen];refine{.ref s.heap.objs.size,_,I.laid (t':=s.toks) (o:=.lst (kU xs lo hi)) (λb ob q=>Q5 _ q) (Oc _) ?_,rfl,q _ (I.Ç.fresh (Oc _))};exact{Ol (rX xs lo hi) hz,_,0,(r.drop (HT.Ù xs.length 0 lo)).take (HT.Ù xs.length xs.length hi-HT.Ù xs.length 0 lo),Rf _ rfl}
def lY:V->Bool
 | .Ê=>true
 | .bl _=>true
 | .int _=>true
 | .str _=>true
 |_=>false
def Κ:V->V->Bool
 | .Ê,.Ê=>true
 | .bl a,.bl b=>a==b
 | .bl a,.int b=>(if a then 1 else 0)==b
 | .int a,.bl b=>a==(if b then 1 else 0)
 | .int a,.int b=>a==b
 | .str a,.str b=>a==b
 |_,_=>false
theorem KN{A:Rv}{s:Q3}{y x:V}{u v:Q0}(ry:Xh y u)(rx:Xh x v)(fy:lY y=true)(fx:lY x=true):UC A s u v (Κ y x):=by
 cases y with
 |Ê=>
  cases ry;cases x with
  |Ê=>cases rx;exact SeqAt.EqAt.same _
  |bl b=>cases rx;exact SeqAt.EqAt.none_bool b
  |int b=>obtain⟨t,rfl⟩:=rx;exact SeqAt.EqAt.none_int b t
  |str b=>obtain⟨t,rfl⟩:=rx;exact SeqAt.EqAt.none_str b t
  |_=>exact absurd (show false=true from fx) Of
 |bl a=>
  cases ry;cases x with
  |Ê=>cases rx;exact SeqAt.EqAt.bool_none a
  |bl b=>cases rx;exact SeqAt.EqAt.bool_bool a b
  |int b=>obtain⟨t,rfl⟩:=rx;exact SeqAt.EqAt.bool_int a b t
  |str b=>obtain⟨t,rfl⟩:=rx;exact SeqAt.EqAt.bool_str a b t
  |_=>exact absurd (show false=true from fx) Of
 |int a=>
  obtain⟨t',rfl⟩:=ry;cases x with
  |Ê=>cases rx;exact SeqAt.EqAt.int_none a t'
  |bl b=>cases rx;exact SeqAt.EqAt.int_bool a t' b
  |int b=>obtain⟨t,rfl⟩:=rx;exact Vs a t' b t
  |str b=>obtain⟨t,rfl⟩:=rx;exact Vi a t' b t
  |_=>exact absurd (show false=true from fx) Of
 |str a=>
  obtain⟨t',rfl⟩:=ry;cases x with
  |Ê=>cases rx;exact SeqAt.EqAt.str_none a t'
  |bl b=>cases rx;exact SeqAt.EqAt.str_bool a t' b
  |int b=>obtain⟨t,rfl⟩:=rx;exact Vj a t' b t
  |str b=>obtain⟨t,rfl⟩:=rx;exact Vt a t' b t
  |_=>exact absurd (show false=true from fx) Of
 |_=>exact absurd (show false=true from fy) Of
def Ń(x:V)(u:Q0):Bool:=match u with
 | .none=>Κ .Ê x
 | .bool b=>Κ (.bl b) x
 | .int i _=>Κ (.int i) x
 | .str z _=>Κ (.str z) x
 |_=>false
theorem Ew{x y:V}{u:Q0}(r:Xh y u)(f:lY y=true):Ń x u=Κ y x:=by
 cases y with
 |Ê=>cases r;rfl
 |bl b=>cases r;rfl
 |int i=>obtain⟨t,rfl⟩:=r;rfl
 |str z=>obtain⟨t,rfl⟩:=r;rfl
 |_=>exact absurd (show false=true from f) Of
theorem sQ{x:V}:∀{xs:List V}{us:List Q0},Xf xs us->xs.all lY=true->us.any (Ń x)=xs.any λy=>Κ y x:=by
 intro xs us h;induction h with
 |nil=>intro _;rfl
 |cons r _ ih=>
  intro f;rw[List.all_cons,PC]at f;rw[Qb,Qb,Ew r f.1,ih f.2]
theorem qy{A:Rv}{s:Q3}{x:V}{v:Q0}(rx:Xh x v)(fx:lY x=true):∀{xs:List V}{us:List Q0},Xf xs us->xs.all lY=true->∀u∈us,UC A s u v (Ń x u):=by
 intro xs us h;induction h with
 |nil=>intro _ u hu;cases hu
 |cons r _ ih=>
  intro f u' hu;rw[List.all_cons,PC]at f;rcases Ob.mp hu with rfl|hu
  ·rw[Ew r f.1];exact KN r rx f.1 fx
  exact ih f.2 u' hu
def Ť(x:V)(xs:List V):Bool:=xs.any λy=>Κ y x
def rIn(K:Q6)(neg:Bool):R2:=λx y H Q=>∃p xs,y=.ref p/\(À K H p xs\/É K H p xs)/\lY x=true/\xs.all lY=true/\Q (.bl (if neg then !Ť x xs else Ť x xs)) H
theorem C6:Ô X (Rk .In) (rIn X.K false):=by
 intro pins s B H x y v u Q I rx ry h;obtain⟨p,xs,rfl,hq,fx,fs,q⟩:=h;cases ry;rcases hq with hq|hq
 ·obtain⟨Â,r,pl,hz⟩:=I.list hq;refine SeqAt.in_listAt (Ń x) pl.isList (λw hw=>qy rx fx r fs w (by simpa using hw)) {.bl _,H,I,rfl,?_};rw[show Â.toArray.any (Ń x)=Â.any (Ń x) by simp,sQ r fs];exact q
 obtain⟨Â,r,pl,hz⟩:=I.tuple hq;refine SeqAt.in_tupleAt (Ń x) pl (λw hw=>qy rx fx r fs w (by simpa using hw)) {.bl _,H,I,rfl,?_};rw[show Â.toArray.any (Ń x)=Â.any (Ń x) by simp,sQ r fs];exact q
theorem wU:Ô X (Rk .NotIn) (rIn X.K true):=by
 intro pins s B H x y v u Q I rx ry h;obtain⟨p,xs,rfl,hq,fx,fs,q⟩:=h;cases ry;rcases hq with hq|hq
 ·obtain⟨Â,r,pl,hz⟩:=I.list hq;refine SeqAt.notIn_listAt (Ń x) pl.isList (λw hw=>qy rx fx r fs w (by simpa using hw)) {.bl _,H,I,rfl,?_};rw[show Â.toArray.any (Ń x)=Â.any (Ń x) by simp,sQ r fs];exact q
 obtain⟨Â,r,pl,hz⟩:=I.tuple hq;refine SeqAt.notIn_tupleAt (Ń x) pl (λw hw=>qy rx fx r fs w (by simpa using hw)) {.bl _,H,I,rfl,?_};rw[show Â.toArray.any (Ń x)=Â.any (Ń x) by simp,sQ r fs];exact q
theorem xx:Ô X (Rk .NotIn) (λx y H Q=>∃i j,x=.str i/\y=.str j/\Q (.bl (!(!(RO j i 0 j.length 1).isEmpty))) H):=by
 intro pins s B H x y v u Q I rx ry h;obtain⟨i,j,rfl,rfl,q⟩:=h;obtain⟨t,rfl⟩:=rx;obtain⟨t',rfl⟩:=ry;exact notIn_str {.bl _,H,I,rfl,q}
theorem eK.or{f:Q0}{r r':List V->Hp->VK->Prop}(h:eK X f r)(h':eK X f r'):eK X f (λxs H Q=>r xs H Q\/r' xs H Q):=by
 intro pins s B H xs us Q I rs q;rcases q with q|q
 ·exact h pins s B H xs us Q I rs q
 exact h' pins s B H xs us Q I rs q
theorem xp:eK X (.type "list") (λxs H Q=>∃p ys,xs=[.ref p]/\(À X.K H p ys\/É X.K H p ys)/\∀l,H l=Xc->Q (.ref l) (upd H l (.lst ys))):=by
 intro pins s B H xs us Q I r h;obtain⟨p,ys,rfl,hq,q⟩:=h;obtain⟨u,rfl,rx⟩:=Xq r;cases rx;have fin:∀(Â:List Q0),Xf ys Â->ys.length<=sizeLine->∀(h':Rp)(c':Nat),(∀b o',s.heap.get? b=Xb o'->h'.get? b=Xb o')->
   h'.get? s.heap.objs.size=Xb { cls:=.type "list",dict:=Xc,data:=.seq Â.toArray c',slots:=#[] }->EP X pins B Q (.ref s.heap.objs.size) { s with heap:=h' }:=λÂ r' hz h' c' kp e=>
  {.ref s.heap.objs.size,_,I.laid (t':=s.toks) kp (Oc _) (show df X.prog X.w _ h' _ (.lst ys)from⟨hz,Â,c',r',e⟩),rfl,q _ (I.Ç.fresh (Oc _))}
 rcases hq with hq|hq
 ·obtain⟨Â,r',pl,hz⟩:=I.list hq;have hlen:=r'.length;obtain⟨o,ho,hc,n,hd⟩:=pl.isList;exact call_list_seq p (.inl rfl) ho hc hd (λh' c' kp e=>fin Â r' hz h' c' kp e) (by simp only[Om]<;>lia)
 obtain⟨Â,r',pl,hz⟩:=I.tuple hq;have hlen:=r'.length;obtain⟨o,ho,hc,n,hd⟩:=pl;exact call_list_seq p (.inr rfl) ho hc hd (λh' c' kp e=>fin Â r' hz h' c' kp e) (by simp only[Om]<;>lia)
def tyV(K:Q6)(T:String)(x:V)(H:Hp):Prop:=match x with
 | .str _=>T="str"
 | .int _=>T="int"
 | .ref p=>(T="list"/\∃xs,À K H p xs)\/(T="tuple"/\∃o,K.lookup p=Xb o/\o.cls=.type "tuple"/\o.dict=Xc)\/
   (T="dict"/\((∃kvs,H p=Xb (.dK kvs))\/∃kvs,H p=Xb (.dT kvs)))\/(T="set"/\∃S n,H p=Xb (.set S n))
 |_=>False
theorem Gx{pins:List (Q1×Obj)}{B:St}{H:Hp}{s:Q3}{T:String}{x:V}{v:Q0}(I:Inv X pins B H s)(r:Xh x v)(ty:tyV X.K T x H) :
  s.TypeIs v T/\∀a,v=.ref a->∃ob,s.heap.get? a=Xb ob/\ob.dict=Xc:=by
 cases x with
 |str z=>
  obtain⟨t,rfl⟩:=r
  cases (show T="str" from ty)
  exact{Vr s z t,λ_ e=>nomatch e}
 |int i=>
  obtain⟨t,rfl⟩:=r
  cases (show T="int" from ty)
  exact{Wz s i t,λ_ e=>nomatch e}
 |ref p=>
  cases r
  rcases ty with⟨rfl,xs,hq⟩|⟨rfl,o,hk,hc,hd⟩|⟨rfl,hk⟩|⟨rfl,S,n,hk⟩
  ·obtain⟨Â,_,pl,_⟩:=I.list hq;refine{pl.isList.typeIs,λa e=>?_};cases e;obtain⟨o,n,e,c,hd,_⟩:=pl;exact⟨o,e,hd⟩
  ·refine{⟨o,I.ă p o hk,hc⟩,λa e=>?_};cases e;exact{o,I.ă _ o hk,hd}
  ·have z:∃o,s.heap.get? p=Xb o/\o.ExactDict:=by
    rcases hk with⟨kvs,hk⟩|⟨kvs,hk⟩
    ·obtain⟨_,_,_,_,o,_,_,e,ex,_⟩:=I.Ç p _ hk;exact⟨o,e,ex⟩
    obtain⟨_,_,_,_,o,_,_,e,ex,_⟩:=I.Ç p _ hk;exact⟨o,e,ex⟩
   obtain⟨o,e,ex⟩:=z;refine{⟨o,e,ex.1⟩,λa e2=>?_};cases e2;exact⟨o,e,ex.2.1⟩
  obtain⟨o,_,_,_,e,ex,_⟩:=I.Ç p _ hk
  refine{⟨o,e,ex.1⟩,λa e2=>?_}
  cases e2
  exact⟨o,e,ex.2.1⟩
 |_=>exact RN ty
def JE(K:Q6)(T:String)(r:V->List V->Hp->VK->Prop)(to:TE):TE:=λB H Q=>to B H λx H1=>tyV K T x H1/\r x [] H1 Q
def tBM(K:Q6)(T:String)(r:V->List V->Hp->VK->Prop)(to:TE)(t:TA):TE:=λB H Q=>to B H λx H1=>tyV K T x H1/\t B H1 λxs H2=>r x xs H2 Q
variable{o e:Expr}{es:List Expr}{to:TE}{t:TA}{name:Str}{apos Ñ:Pos}{T id:String}{r:V->List V->Hp->VK->Prop}
theorem FW(pa:PlainAttrs T)(slot:Slot T name id)(hty:typeOf (.builtin id)=pure (.type "method_descriptor"))(hm:MtR X id r)(ho:PE X o to)
  (ï:RS o name X.env (RB o X.env)=RB o X.env:=by rfl) (î:(apos.endLine==Ñ.line)=true:=by rfl):PE X (.Call (.Attribute o name apos) [] [] Ñ) (JE X.K T r to):=by
 intro pins s B H Q I h
 refine wpAny_Call_method0_late ï î (Ë (ho pins s B H _ I h) λv s1 z9=>?_);obtain⟨x,H1,I1,r1,ty,q1⟩:=z9
 obtain⟨h1,h2⟩:=Gx I1 r1 ty
 exact{T,id,pa,slot,hty,h1,h2,UD rfl (PySem.evalArgs_none (hm pins s1 B H1 x [] v [] Q I1 r1 .nil q1))}
theorem Fg(pa:PlainAttrs T)(slot:Slot T name id)(hty:typeOf (.builtin id)=pure (.type "method_descriptor"))(hm:MtR X id r)(ho:PE X o to)(ha:PA X (e::es) t)
  (ï:RS o name X.env (RB o X.env)=RB o X.env:=by rfl)
  (Ŀ:((RC Ñ (Q8 (e::es) X.env)).all (λx=>!x.1)&&(Sz Ñ (RQ [] X.env)).all (λx=>x.1.isSome)
   &&decide ((e::es).length+([]:List SU).length+(if([]:List SU).isEmpty then 0 else 1)<30))=true:=by rfl)
  (î:(apos.endLine==Ñ.line)=true:=by rfl) (hs:Q8 (e::es) X.env=(false,RB e X.env)::Q8 es X.env:=by rfl) (ÿ:(RC Ñ (Q8 es X.env)).any (·.1)=false:=by rfl) :
  PE X (.Call (.Attribute o name apos) (e::es) [] Ñ) (tBM X.K T r to t):=by
 intro pins s B H Q I h
 refine wpAny_Call_method_late ï Ŀ î rfl (Ë (ho pins s B H _ I h) λv s1 z9=>?_);obtain⟨x,H1,I1,r1,ty,q1⟩:=z9
 obtain⟨h1,h2⟩:=Gx I1 r1 ty
 refine{T,id,pa,slot,hty,h1,h2,?_}
 have hA:=ha Ñ pins s1 B H1 _ I1 q1
 rw[hs]at hA⊢
 refine UD (by show(false||(RC Ñ (Q8 es X.env)).any (·.1))=false;rw[ÿ]<;>rfl) (Calls.evalArgs_plain ?_)
 exact Ë hA λus s2 ⟨vs,H2,I2,r2,q2⟩=>hm pins s2 B H2 x vs v us Q I2 r1 r2 q2
end
def MtM(X:Cx)(id:String)(r:V->List V->Hp->VK->Prop):Prop:=
 ∀(pins:List (Q1×Obj))(s:Q3)(B:St)(H:Hp)(x:V)(xs:List V)(v:Q0)(us:List Q0)(Q:VK),Inv X pins B H s->Xh x v->Xf xs us->r x xs H Q->
  wpAny (Ri X.prog X.w) X.A (call (.builtin id) (v::us)) (EP X pins B Q) X.xe s
theorem Xf.one(h:Xf [x] us):∃u,us=[u]/\Xh x u:=by
 cases h with
 |cons r t=>cases t;exact{_,rfl,r}
theorem Xf.zero:∀{us:List Q0},Xf [] us->us=[]
 |_,.nil=>rfl
theorem Xf.dropLast{xs:List V}{us:List Q0}(h:Xf xs us):Xf xs.dropLast us.dropLast:=by
 induction h with
 |nil=>exact .nil
 |cons r t ih=>
  cases t with
  |nil=>exact .nil
  |cons q t'=>exact .cons r ih
theorem Xf.reverse{xs:List V}{us:List Q0}(h:Xf xs us):Xf xs.reverse us.reverse:=by
 induction h with
 |nil=>exact .nil
 |cons r t ih=>rw[VM,VM];exact Xf.append ih (.cons r .nil)
theorem Xf.rep{xs:List V}{us:List Q0}(h:Xf xs us):∀k:Nat,Xf (Rj k xs).flatten (Rj k us).flatten
 |0=>.nil
 |k+1=>by
  rw[OP,OP,P8,P8];exact Xf.append h (Xf.rep h k)
theorem AS{α:Type}(l:List α):l.eraseIdx (l.length-1)=l.dropLast:=by
 induction l with
 |nil=>rfl
 |cons a r ih=>
  cases r with
  |nil=>rfl
  |cons b r=>
   have e:(a::b::r).length-1=((b::r).length-1)+1:=by
    have h1:(a::b::r).length=r.length+2:=rfl;have h2:(b::r).length=r.length+1:=rfl;lia
   rw[e,List.eraseIdx_cons_succ,ih];all_goals rfl
theorem Xr(Â:List Q0):∀(k:Nat)(acc:List Q0),
  WA (λx1 x2=>x1++x2) acc.toArray (Rj k Â.toArray)=(acc++(Rj k Â).flatten).toArray
 |0,acc=>by simp
 |k+1,acc=>by
  have e:acc.toArray++Â.toArray=(acc++Â).toArray:=by simp
  have e2:(acc++Â)++(Rj k Â).flatten=acc++(Rj (k+1) Â).flatten:=by
   rw[OP,P8,OV]
  rw[<-e2,<-Xr Â k (acc++Â),<-e,OP,OX]
section
variable{X:Cx}{pins:List (Q1×Obj)}{B:St}{H:Hp}{s:Q3}{l b:Q1}{xs ys zs:List V}
theorem Inv.Kr{Â its':List Q0}{n:Nat}{f:Array Q0->Array Q0}{t':Nat}(I:Inv X pins B H s)(hH:H l=Xb (.lst xs))
  (e:s.heap.get? l=Xb { cls:=.type "list",data:=.seq Â.toArray n }) (hf:f Â.toArray=its'.toArray) (hv:Xf ys its') (hz:ys.length<=sizeLine) :
  Inv X pins B (upd H l (.lst ys)) { s with heap:=s.heap.update l (SR f),toks:=t' }:=by
 have q:=PySem.IsL.update e f
 rw[hf]at q
 refine I.write (x:=l) (e:=l) (by rw[hH];exact trivial) (.inl rfl) (λb' u hb hu=>(RV s.heap (SR f) (Pn hb)).trans hu) {_,q} ?_
 exact{hz,its',_,hv,q}
theorem Inv.Jr{Â:List Q0}{t':Nat}(I:Inv X pins B H s)(hv:Xf ys Â)(hz:ys.length<=sizeLine) :
  Inv X pins B (upd H s.heap.objs.size (.lst ys)) { s with heap:=s.heap.push { cls:=.type "list",data:=.seq Â.toArray },toks:=t' }:=
 I.laid (λ_ _ q=>Q5 _ q) (Oc _) {hz,Â,0,hv,Rf _ rfl}
theorem Inv.fresh(I:Inv X pins B H s):H s.heap.objs.size=Xc:=I.Ç.fresh (Oc _)
theorem Inv.Bp(I:Inv X pins B H s)(hH:H l=Xb (.lst xs)):xs.length<=sizeLine/\∃(Â:List Q0)(n:Nat),Xf xs Â/\xs.length=Â.length/\s.heap.get? l=Xb { cls:=.type "list",data:=.seq Â.toArray n }:=by
 obtain⟨z,Â,n,r,e⟩:=I.Ç l _ hH;exact⟨z,Â,n,r,r.length,e⟩
theorem zr{n:Nat}(h:n<=sizeLine):Sv n=false:=by
 unfold Sv;exact decide_eq_false ()
end
section
variable{X:Cx}
inductive x6(x:V)(vs:List V)(H:Hp)(Q:VK):Prop
 |mk(l:Q1)(xs:List V)(y:V)(h0:x=.ref l)(h1:vs=[y])(h2:H l=Xb (.lst xs))(h3:xs.length<sizeLine)(q:Q .Ê (upd H l (.lst (xs++[y])))):x6 x vs H Q
theorem vM:MtM X "list.append" x6:=by
 intro pins s B H x vs v us Q I rx rv h;obtain⟨l,xs,y,rfl,rfl,hH,hz,q⟩:=h;cases rx;obtain⟨u,rfl,ru⟩:=rv.one;obtain⟨z,Â,n,r,hl,e⟩:=I.Bp hH;refine Tw F.slot_list_append {_,e,rfl} F.entry_list_append (F.args_list_append_2 _ _) (PySem.list_append l Â.toArray n u (by rw[Om];lia)) {e,?_};refine{.Ê,_,I.Kr (its':=Â++[u]) hH e (by simp) (r.append (.cons ru .nil)) ?_,rfl,q};rw[N7,OC];lia
def Cs:V->List V->Hp->VK->Prop:=λx vs H Q=>∃l b xs zs,x=.ref l/\vs=[.ref b]/\H l=Xb (.lst xs)/\H b=Xb (.lst zs)/\xs.length+zs.length<=sizeLine/\Q .Ê (upd H l (.lst (xs++zs)))
theorem DF:MtM X "list.extend" Cs:=by
 intro pins s B H x vs v us Q I rx rv h;obtain⟨l,b,xs,zs,rfl,rfl,hH,hB,hz,q⟩:=h;cases rx;obtain⟨u,rfl,ru⟩:=rv.one;cases ru;obtain⟨z,Â,n,r,hl,e⟩:=I.Bp hH;obtain⟨z2,į,n2,r2,hl2,e2⟩:=I.Bp hB;have hsz:Â.toArray.size+į.toArray.size<=sizeLine:=by rw[Om,Om];lia
 have ű:¬ (!Â.toArray.isEmpty&&Sv (Â.toArray.size+į.toArray.size))=true:=by
  rw[zr hsz,WC];exact Of
 refine Tw F.slot_list_extend {_,e,rfl} F.entry_list_extend (F.args_list_extend_2 _ _)
  (AutoSeq1.list_extend_list_list_0 l Â.toArray n b į.toArray n2 ű (by rw[Om];lia) ()) {e,e2,?_}
 refine{.Ê,_,I.Kr (its':=Â++į) hH e (by simp) (r.append r2) ?_,rfl,q};rw[N7];lia
inductive JJ(x:V)(vs:List V)(H:Hp)(Q:VK):Prop
 |mk(l:Q1)(xs:List V)(y:V)(h0:x=.ref l)(h1:vs=[])(h2:H l=Xb (.lst xs))(h3:xs[xs.length-1]?=Xb y)(q:Q y (upd H l (.lst xs.dropLast))):JJ x vs H Q
theorem Ka:MtM X "list.pop" JJ:=by
 intro pins s B H x vs v us Q I rx rv h;obtain⟨l,xs,y,rfl,rfl,hH,hy,q⟩:=h;cases rx;have hus:=rv.zero;subst hus;obtain⟨z,Â,n,r,hl,e⟩:=I.Bp hH;obtain⟨u,hu,ru⟩:=r.get hy;have hy':Â.toArray[Â.toArray.size-1]?=Xb u:=by
  show Â.toArray[Â.length-1]?=Xb u;rw[<-Pd,<-hl];exact hu
 refine Tw F.slot_list_pop {_,e,rfl} F.entry_list_pop (F.args_list_pop_1 _) (MeetsSeq.list_pop_last l Â.toArray n u hy' (by rw[Om];lia)) {e,?_};refine{y,_,I.Kr (its':=Â.dropLast) hH e ?_ r.dropLast ?_,ru,q}
 ·show Â.toArray.eraseIdxIfInBounds (Â.toArray.size-1)=Â.dropLast.toArray;rw[Om,List.eraseIdxIfInBounds_toArray,AS]
 rw[List.length_dropLast];lia
def MU:R2:=λx y H Q=>∃l b xs zs,x=.ref l/\y=.ref b/\H l=Xb (.lst xs)/\H b=Xb (.lst zs)/\xs.length+zs.length<=sizeLine/\∀p,H p=Xc->Q (.ref p) (upd H p (.lst (xs++zs)))
theorem Kq:Ô X (RU .Add) MU:=by
 intro pins s B H x y v u Q I rx ry h;obtain⟨l,b,xs,zs,rfl,rfl,hH,hB,hz,q⟩:=h;cases rx;cases ry;obtain⟨z,Â,n,r,hl,e⟩:=I.Bp hH;obtain⟨z2,į,n2,r2,hl2,e2⟩:=I.Bp hB;refine PySem.P.add_list e e2 ?_ (by rw[Om,Om];lia);have ea:Â.toArray++į.toArray=(Â++į).toArray:=by simp
 rw[ea];exact{.ref _,_,I.Jr (t':=s.toks) (r.append r2) (by rw[N7];lia),rfl,q _ I.fresh}
def Nc:R2:=λx y H Q=>∃l k xs,x=.ref l/\y=.int k/\H l=Xb (.lst xs)/\-(2^63)<=k/\k<2^63/\xs.length*k.toNat<=sizeLine/\
 ∀p,H p=Xc->Q (.ref p) (upd H p (.lst (Rj k.toNat xs).flatten))
theorem len_rep{α:Type}(xs:List α)(k:Nat):(Rj k xs).flatten.length=k*xs.length:=by
 induction k with
 |zero=>simp
 |succ k ih=>rw[OP,P8,N7,ih,Nat.succ_mul,Qy]
theorem Ke:Ô X (RU .Mult) Nc:=by
 intro pins s B H x y v u Q I rx ry h;obtain⟨l,k,xs,rfl,rfl,hH,h1,h2,hz,q⟩:=h;cases rx;obtain⟨t,rfl⟩:=ry;obtain⟨z,Â,n,r,hl,e⟩:=I.Bp hH;have hlen:Â.toArray.size*k.toNat<=sizeLine:=by rw[Om,<-hl];exact hz
 have hcap:¬ Â.toArray.size*k.toNat>(2^63-1)/8:=by
  have:(sizeLine:Nat)<=(2^63-1)/8:=∅
  lia
 have hfit:¬ (!Builtin.List.listFitsIndex k)=true:=by
  rw[fitsIndex_both h1 h2];exact Of
 have ű:¬ Sv (Â.toArray.size*k.toNat)=true:=by
  rw[zr hlen];exact Of
 have Ϸ:WA (λx1 x2=>x1++x2) #[] (Rj (if Â.toArray.isEmpty=true then 0 else k.toNat) Â.toArray)=(Rj k.toNat Â).flatten.toArray:=by
  have f0:∀m:Nat,WA (λx1 x2=>x1++x2) #[] (Rj m Â.toArray)=(Rj m Â).flatten.toArray:=λm=>by
   have:=Xr Â m [];rw[O6]at this;exact this
  rw[f0];cases Â with
  |nil=>simp
  |cons a r'=>rw[if_neg (by simp)]
 refine wpAny_binaryOp_repeat_ref (T:="list") (U:="int") ∅ {_,e,rfl} (λs'=>Wz s' k t) noFill_list_mul F.fills_int_mul Wj repeat_list F.slot_int_index.lookup
  (Tw Wj (Wz s k t) F.entry_int_rmul (F.args_int_rmul_2 _ _) (int___rmul___int_list k t l Â.toArray n)
   {e,rfl,{_,e,rfl},Tw F.slot_list_mul {_,e,rfl} F.entry_list_mul (F.args_list_mul_2 _ _) (AutoListH.list___mul___list_int_3 l Â.toArray n k t hfit hcap ű) {e,?_}})
 rw[Ϸ];exact{.ref _,_,I.Jr (t':=s.toks) (r.rep k.toNat) (by rw[len_rep,Nat.mul_comm];exact hz),rfl,q _ I.fresh}
end
section
variable{prog:Program}{w:Rh}{A:Rv}{E:Q0->Q3->Prop}{s:Q3}
end
section
variable{X:Cx}
end
end L2
namespace Att
open PySem PySem.W PySem.Calls PyProof.Rows
theorem sF{P:SI}{h:Rp}:∀(ns:List Int)(vs:List Q0),WellAll P h vs (ns.map WData.int)->TU vs ns:=by
 intro ns;induction ns with
 |nil=>
  intro vs w;rw[P2]at w;cases w;exact .nil
 |cons n ns ih=>
  intro vs w;rw[Ox]at w;cases w with
  |cons a b=>
   cases a;exact .cons _ _ (ih _ b)
theorem Dk{l:OpenLaw}{n:Nat}(hn:l.most=Xb n){P:SI}{h:Rp}{args:List WData}{vals:List Q0}
  (ϴ:l.row.toRowW.claim.pre args=true) (hwl:WellAll P h vals args) :
  ∃a vs ns,vals=[Rn a]/\args=[WData.list (ns.map WData.int)]/\h.get? a=Xb { cls:=.type "list",data:=.seq vs.toArray }/\TU vs ns/\ns.length<=n:=by
 have hsh:WShape.hasAll [] args [.list .int]=true:=(pre_splitW ϴ).1
 have hc:l.pre.holds [] { args:=args }=true:=(pre_splitW ϴ).2
 obtain⟨d,r,rfl,h1,h2⟩:=hasAllW_cons hsh
 obtain rfl:=hasAllW_nil h2
 obtain⟨xs,rfl,h3⟩:=hasW_list h1
 obtain⟨ns,rfl⟩:=items_int h3
 have hlen:ns.length<=n:=by
  unfold OpenLaw.pre at hc;have h4:(WTm.not (.lt (.lit (.int (n:Int))) (.len (.arg 0)))).holds [] { args:=[.list (ns.map .int)] }=true:=by
   have h4:=(holds_andW hc).1;rw[hn]at h4;exact h4
  have h5:=condW_of h4 (w_not (w_lt w_lit (w_len_list (w_arg rfl))));rw[N3]at h5;refine Nat.le_of_not_lt λq=>?_;have q':(n:Int)<((ns.length:Nat):Int):=()
  first
   | (rw[decide_eq_true q']at h5;exact absurd h5 ∅)
   | (simp at h5;lia)
 cases hwl with
 |cons w1 w2=>
  cases w2
  cases w1 with
  |list ho ų=>exact{_,_,ns,rfl,rfl,ho,sF ns _ ų,hlen}
theorem DJ(l:OpenLaw)(args:List WData):l.row.toRowW.claim.post args (.bool true) args=true:=
 postW_of (r:=l.row.toRowW) (X:=(true==true))
  (show WShape.has [] (.bool true) .bool=true by first|rfl|decide|simp[WShape.has,WShape.arms,WShape.armsAll])
  (show(WTm.eq .res (.lit (.bool true))).value [] { args:=args,res:=Xb (.bool true),after:=args }=Xb (.bool (true==true))from w_eq_bool (w_res rfl) w_lit) rfl
theorem zI{l:OpenLaw}{n:Nat}{q:Program}{loose:List Str}{XP:(Str->Option Q0)->Rp->Prop}{YP:Rh->Rp->Prop}{d:DefRec}
  (hn:l.most=Xb n) (hdf:d.params.defaults=[])
  (call:∀(w:Rh)(s₀ s₁:Q3)(mg mb:Str->Option Q0)(fa:Q1)(o:Obj)(pm cd doc:Q0)(a:Q1)(vs:List Q0)(ns:List Int),
   Ground q loose [] XP w s₀ mg mb s₁.heap->YP w s₁.heap->
   s₁.heap.get? fa=Xb o->o.data=.func (docDef d.name d.params d.body d.scope pm cd doc)->s₁.heap.CodeRec cd d.name->mg d.name=Xb (.ref fa)->
   s₁.heap.get? a=Xb { cls:=.type "list",data:=.seq vs.toArray }->TU vs ns->ns.length<=n->s₁.gens=#[]->
   codeAny (Ri l.prog w) U3 (.call (.ref fa) {[.ref a],[]}) (λr s'=>r=.ok (.ret (.bool true))/\OldK s₁.heap s'.heap/\s'.os=s₁.os/\Ua s'.gens) s₁) :
  WalkO q loose XP YP l.row.toRowW d [] (λf vs=>WD f vs):=by
 intro w s₀ s₁ mg mb G Y fa o pm cd doc dV kV ho hd ķ hD hmg hg args vals as ϴ hlay hrd hwl ϸ
 obtain rfl:dV=.none:=Dflts.none hD hdf
 obtain rfl:kV=.none:=Dflts.noKw hD
 obtain⟨a,vs,ns,rfl,rfl,hobj,hints,hlen⟩:=Dk hn ϴ hwl
 refine enter_call (SS (call w s₀ s₁ mg mb fa o pm cd doc a vs ns G Y ho (fd_plain hd) ķ hmg hobj hints hlen hg) λr s' hq=>?_)
 obtain⟨rfl,h2,h3,h4⟩:=hq
 exact{.inl {.bool true,.bool true,[],rfl,λ_=>rfl,.bool true,DJ l _,λ_=>{List.Pairwise.nil,λ_ hm=>(nomatch hm)}},h2,h3,h4}
section
variable{prog:Program}{w:Rh}{A:Rv}{E:Q0->Q3->Prop}{s:Q3}{K:Frag}
end
end Att
namespace L2
open PySem PySem.Spec PyProof.Rows
theorem ox:∀{vs:List Q0}{ns:List Int},TU vs ns->Xf (ns.map V.int) vs:=by
 intro vs ns h;induction h with
 |nil=>exact .nil
 |cons n t _ ih=>exact .cons ⟨t,rfl⟩ ih
def Kh(H:Hp):Prop:=∀b,H b=Xc\/∃o xs,H b=Xb (.Ć o (.lst xs))
theorem Ei{P:Program}{w:Rh}{K:Q6}{mg mb:Str->Option Q0}{CX:ū}{k:Nat}{fa a:Q1}{fd:Sq}{x:Str}{sp:Sp}{s₁:Q3}{vs:List Q0}{ns:List Int}
  (KX:K.In s₁.heap) (hns:s₁.heap.Ns Rm mg) (hb:s₁.heap.Ns Uv mb) (hbb:∀x:Str,x≠"__name__"->mb x=So x) (hlim:s₁.heap.NoLimit) (hg:s₁.gens=#[])
  (ha:s₁.heap.get? a=Xb { cls:=.type "list",data:=.seq vs.toArray }) (hi:TU vs ns) (hl:ns.length<=sizeLine) (hr:fu k U3)
  (F:∀base:Rp,K.In base->base.Ns Rm mg->j2 P w K mg base CX k fa fd [x] sp) (hbind:∀(s:Q3)(u:Q0),UA s fd {[u],[]} [(x,u)])
  (ť:∀H:Hp,Kh H->À K H a (ns.map V.int)->sp [.ref a] H (λv _=>v=.bl true) λ_ _ _=>False)
  (hCX:∀H e s',CX [] H s₁ (λ_ _ _=>False) e s'->False) :
  codeAny (Ri P w) U3 (.call (.ref fa) {[.ref a],[]}) (λr s'=>r=.ok (.ret (.bool true))/\OldK s₁.heap s'.heap/\s'.os=s₁.os/\Ua s'.gens) s₁:=by
 have rv:=ox hi
 have lenV:=hi.length
 have core:∀H:Hp,Kh H->À K H a (ns.map V.int)->Ă P w H s₁.heap->(∀b,H b≠Xc->b=a)->(H a≠Xc->K.lookup a=Xc)->
   codeAny (Ri P w) U3 (.call (.ref fa) {[.ref a],[]}) (λr s'=>r=.ok (.ret (.bool true))/\OldK s₁.heap s'.heap/\s'.os=s₁.os/\Ua s'.gens) s₁:=by
  intro H hO hS Ç hA hK
  have base_of:∀{b:Q1}{o:Obj},s₁.heap.get? b=Xb o->H b=Xc->(wW s₁.heap H).get? b=Xb o:=λe n=>Fp e n
  have noA:∀{b:Q1}{o:Obj}{es:Array WU}{ep:Nat},s₁.heap.get? b=Xb o->o.data=.dict es ep->H b=Xc:=λ{b o es ep} e d=>by
   cases q:H b with
   |none=>rfl
   |some u=>
    have e':b=a:=hA b (by rw[q];simp);subst e';rw[ha]at e;cases e;have d':Data.seq vs.toArray _=Data.dict es ep:=d;cases d'
  have nsK:∀{b:Q1}{m:Str->Option Q0},s₁.heap.Ns b m->(wW s₁.heap H).Ns b m:=λ{b m} ⟨o,es,ep,e,d,r⟩=>{o,es,ep,base_of e (noA e d),d,r}
  have hKb:K.In (wW s₁.heap H):=λb o e=>base_of (KX b o e) (by
   cases q:H b with
   |none=>rfl
   |some u=>
    have e':b=a:=hA b (by rw[q];simp);subst e';rw[hK (by rw[q];simp)]at e;cases e)
  have hM:Mod K mg (wW s₁.heap H):={hKb,nsK hns,⟨mb,nsK hb,hbb⟩,let ⟨mc,h1,h2⟩:=hlim;⟨mc,nsK h1,h2⟩}
  have e0:AO P w K mg (wW s₁.heap H) U3 [] s₁ H:={rfl,hM,λb o e=>Hy e,Nat.le_of_eq (Dd _ _),trivial,λb hb=>absurd (show b∈([]:List Q1)from hb) (by simp),Ç,.of_eq hg}
  refine SS ((F _ hKb (nsK hns)).run U3 [] s₁ H {[.ref a],[]} [.ref a] [.ref a] _ _ hr e0 (hbind s₁ (.ref a)) (.cons rfl .nil) (ť H hO hS)) λr s' h=>?_
  cases r with
  |error e=>exact(hCX H e s' h).elim
  |ok fl=>
   cases fl with
   |next=>exact RN h
   |brk=>exact RN h
   |cont=>exact RN h
   |ret u=>
    obtain⟨v,H',os,bare,un,hok',r',q⟩:=h
    have q':v=.bl true:=q
    subst q'
    obtain rfl:u=Vk true:=r'
    refine{rfl,OldK.of_keep λb o e=>?_,os,bare}
    cases q:H b with
    |none=>exact un.keep b o e q (by intro z;exact absurd (show b∈([]:List Q1)from z) (by simp)) (by simp)
    |some u=>
     rcases hO b with z|⟨ob,xs,z⟩
     ·rw[q]at z;cases z
     have z2:=un.sD b ob _ z
     obtain⟨e1,_⟩:=Ç b _ z
     obtain⟨e2,_⟩:=hok' b _ z2
     rw[e]at e1;cases e1
     exact e2
 cases hk:K.lookup a with
 |some o=>
  have e:=KX a o hk
  rw[ha]at e
  cases e
  refine core (λ_=>Xc) (λ_=>.inl rfl) (.inr {_,vs.toArray,_,hk,rfl,rfl,rfl,by rw[Om,lenV];exact hl,by simpa using rv}) (λb u z=>by have z':(Xc:Option HO)=Xb u:=z;cases z') (λb z=>absurd rfl z) λz=>absurd rfl z
 |none=>
  refine core (λb=>if b=a then Xb (.Ć { cls:=.type "list",data:=.seq vs.toArray } (.lst (ns.map V.int)))else Xc) (λb=>?_) (.inl (.inr {{ cls:=.type "list",data:=.seq vs.toArray },if_pos rfl})) (λb u z=>?_) (λb z=>?_) λ_=>hk
  ·by_cases hb:b=a
   ·exact .inr {_,_,if_pos hb}
   exact .inl (if_neg hb)
  ·by_cases hb:b=a
   ·have z':=(if_pos hb).symm.trans z;cases z';subst hb;exact{ha,by rw[N3];exact hl,vs,_,rv,ha}
   have z':=(if_neg hb).symm.trans z;cases z'
  by_cases hb:b=a
  ·exact hb
  exact absurd (if_neg hb) z
theorem GZ{l:VU}{n k:Nat}{q:Program}{loose:List Str}{XP:(Str->Option Q0)->Rp->Prop}{YP:Rh->Rp->Prop}{d:DefRec}{K:SI->Q6}{CX:Rh->ū}{sp:Rh->Sp}{x:Str}
  (hn:l.most=Xb n) (τ:n<=sizeLine) (hdf:d.params.defaults=[]) (hr:fu k U3)
  (hY:∀(w:Rh)(h:Rp),YP w h->(K w.params).In h)
  (F:∀(w:Rh)(mg:Str->Option Q0)(fa:Q1)(h:Rp),(K w.params).In h->h.Ns Rm mg->mg d.name=Xb (.ref fa)->
   ∃fd:Sq,(∀(s:Q3)(u:Q0),UA s fd {[u],[]} [(x,u)])/\
    ∀base:Rp,(K w.params).In base->base.Ns Rm mg->j2 l.prog w (K w.params) mg base (CX w) k fa fd [x] (sp w))
  (ť:∀(w:Rh)(H:Hp)(a:Q1)(ns:List Int),ns.length<=n->Kh H->À (K w.params) H a (ns.map V.int)->sp w [.ref a] H (λv _=>v=.bl true) λ_ _ _=>False)
  (hCX:∀(w:Rh)(H:Hp)(s:Q3)(e:Q0)(s':Q3),CX w [] H s (λ_ _ _=>False) e s'->False) :
  W.WalkO q loose XP YP l.row.toRowW d [] (λf vs=>WD f vs):=by
 refine Att.zI hn hdf λw s₀ s₁ mg mb fa o pm cd doc a vs ns G Y ho hd ķ hmg hobj hints hlen hg=>?_
 have KX:=hY w _ Y
 obtain⟨fd,hb,hF⟩:=F w mg fa _ KX G.T.g hmg
 exact Ei KX G.T.g G.T.b G.T.builtins G.T.nolimit hg hobj hints (Ol hlen τ) hr hF hb (λH hO hS=>ť w H a ns hlen hO hS) λH e s'=>hCX w H s₁ e s'
abbrev Ľ:ū:=λ_ _ _ _ _ _=>False
abbrev E0:XK:=λ_ _ _=>False
theorem vU{X:Cx}:Xp Ľ X E0:=λ_ _ _ _ _ _ _ h=>h.elim
structure Fun(K:Q6)(x qual:Str)(st:Rl)(f:Q1)(fd:Sq):Prop where
 ex:∃(oc:Q0)(od:Option Q1)(kV doc pm:Q0)(an:Option Q1)(Ä ct:Q0)(ú:Array (Option Q0)),
  fd=R5 x qual (bT st) (bC st) (au st) .none kV doc pm an Ä ct/\K.lookup f=Xb ⟨oc,od,.func fd,ú⟩/\TC K Ä qual=true
 kp:Sh K (.ref f)=true
section
variable{P:Program}{w:Rh}{K:Q6}{mg:Str->Option Q0}{base:Rp}
theorem Fun.ok{x qual:Str}{st:Rl}{f:Q1}{fd:Sq}{N ps:List Str}{k:Nat}{sp:Sp}(F:Fun K x qual st f fd)(S:aE N ps (au st))(len:∀vs H Q E,sp vs H Q E->vs.length=ps.length)
  (õ:∀(Ä:Q0)(A:Rv)(outer:List Env)(s:Q3)(H:Hp)(vs:List V)(Q:VK)(E:XK),fu k (A.deeper (SX qual (au st) s.heap.objs.size f Ä))->sp vs H Q E->
   ∃t,ď (vk Ľ P w K mg base N qual (au st) f Ä A outer s H E).ϕ (bC st) t/\t { nx:=λ_ H'=>Q .Ê H',rt:=Q } (Xn N vs) H):j2 P w K mg base Ľ (k+1) f fd ps sp:=by
 obtain⟨oc,od,kV,doc,pm,an,Ä,ct,ú,rfl,lk,ķ⟩:=F.ex
 refine Eh lk ķ S len λA outer s H vs Q E hr ť=>?_
 obtain⟨t,h,q⟩:=õ Ä A outer s H vs Q E hr ť
 exact⟨t,h.ϕ,q⟩
theorem Fun.binds{x qual:Str}{st:Rl}{f:Q1}{fd:Sq}{ps:List Str}(F:Fun K x qual st f fd)
  (h:∀(kV doc pm:Q0)(an:Option Q1)(Ä ct:Q0)(us:List Q0),us.length=ps.length->bindArgs (R5 x qual (bT st) (bC st) (au st) .none kV doc pm an Ä ct) {us,[]}=pure (ps.zip us)):Xj K fd ps []:=by
 obtain⟨oc,od,kV,doc,pm,an,Ä,ct,ú,rfl,lk,ķ⟩:=F.ex
 exact .all (h kV doc pm an Ä ct)
theorem xq{x qual:Str}{st:Rl}{f:Q1}{oc:Q0}{od an:Option Q1}{ú:Array (Option Q0)}{kV doc pm Ä ct:Q0}(l:K.lookup f=Xb {oc,od,.func (R5 x qual (bT st) (bC st) (au st) .none kV doc pm an Ä ct),ú})
  (c:TC K Ä qual=true) (k:Sh K (.ref f)=true):Fun K x qual st f (R5 x qual (bT st) (bC st) (au st) .none kV doc pm an Ä ct):={⟨oc,od,kV,doc,pm,an,Ä,ct,ú,rfl,l,c⟩,k}
end
theorem aH{n:Nat}(h:n<=1000):n<sizeLine:=Vu h ∅
section
variable{X:Cx}
end
theorem aT{A Ö:Prop}(h:Ö):if false=true then A else Ö:=by
 rw[if_neg Of];exact h
theorem bp{A Ö:Prop}(h:A):if true=true then A else Ö:=by
 rw[if_pos rfl];exact h
theorem a8{c A Ö:Prop}[Decidable c](h1:c->A)(h2:¬ c->Ö):if c then A else Ö:=by
 by_cases h:c
 ·rw[if_pos h];exact h1 h
 rw[if_neg h];exact h2 h
def aq(H H':Hp):Prop:=∀b o,H b=Xb o->H' b=Xb o
theorem aq.refl(H:Hp):aq H H:=λ_ _ h=>h
theorem aq.trans{H H1 H2:Hp}(a:aq H H1)(b:aq H1 H2):aq H H2:=λc o h=>b c o (a c o h)
theorem aq.free{H H':Hp}(e:aq H H'){l:Q1}(h:H' l=Sr):H l=Sr:=by
 cases q:H l with
 |none=>rfl
 |some o=>
  rw[e l o q]at h;cases h
theorem aq.seq{K:Q6}{H H':Hp}{a:Q1}{xs:List V}(e:aq H H')(h:À K H a xs):À K H' a xs:=by
 rcases h with(h|⟨o,h⟩)|h
 ·exact .inl (.inl (e _ _ h))
 ·exact .inl (.inr {o,e _ _ h})
 exact .inr h
theorem rf{α β:Type}{l:List α}{f:α->β->Sem (ForInStep β)}(g:β->α->β)(c:β)(h:∀x∈l,∀c,f x c=pure (.yield (g c x))) :
  forIn l c f=pure (l.foldl g c):=by
 induction l generalizing c with
 |nil=>rfl
 |cons x l ih=>
  rw[List.forIn_cons,h x N9,pure_bind]
  exact ih _ λy hy=>h y (N8 _ hy)
def gj(env:Env)(cs:List (Str×Q1))(x:Str×SD):List (Str×Q1):=
 if x.2== .free then(x.1,(env.cells.lookup x.1).getD 0)::cs else cs
def uE(env:Env)(names:List (Str×SD)):List (Str×Q1):=names.foldl (gj env) []
theorem sj(h:∀x∈scope.names,x.2=.free->∃c,env.cells.lookup x.1=Xb c):closureFor scope env=pure (uE env scope.names):=by
 simp only[closureFor];rw[rf (gj env) [] (λx hx c=>by
  obtain⟨n,kind⟩:=x;cases hk:kind==RT with
  |false=>simp only[gj,hk,OT,if_false]
  |true=>
   obtain⟨a,ha⟩:=h (n,kind) hx (by simpa using hk);have ha':env.cells.lookup n=Xb a:=ha;simp only[gj,hk,if_true,cellOf,ha',V4,pure_bind])]
 rfl
theorem uc:∀{names:List (Str×SD)}{cs:List (Str×Q1)}{n:Str}{c:Q1},(n,c)∈names.foldl (gj env) cs->(n,c)∈cs\/((n,RT)∈names/\c=(env.cells.lookup n).getD 0)
 | [],_,_,_,h=>.inl h
 | (m,k)::r,cs,n,c,h=>by
  rcases uc (names:=r) (cs:=gj env cs (m,k)) h with h|⟨h,e⟩
  ·unfold gj at h;by_cases hk:(k==RT)=true
   ·rw[if_pos hk]at h;rcases Ob.mp h with e|h
    ·cases e;have ϻ:k=.free:=by simpa using hk
     subst ϻ;exact .inr ⟨N9,rfl⟩
    exact .inl h
   rw[if_neg hk]at h;exact .inl h
  exact .inr {N8 _ h,e}
theorem vN:∀{names:List (Str×SD)}{cs:List (Str×Q1)},p∈cs->p∈names.foldl (gj env) cs
 | [],_,h=>h
 |x::r,cs,h=>vN (names:=r) (cs:=gj env cs x) (by
  unfold gj;split
  ·exact N8 _ h
  exact h)
theorem xt:∀{names:List (Str×SD)}{cs:List (Str×Q1)},(n,RT)∈names->(n,(env.cells.lookup n).getD 0)∈names.foldl (gj env) cs
 |x::r,cs,h=>by
  rcases Ob.mp h with e|h
  ·subst e;refine vN (names:=r) (cs:=gj env cs (n,.free)) ?_;unfold gj;rw[if_pos (by rfl)];exact N9
  exact xt (names:=r) h
theorem ko{α:Type}:∀{l:List (Str×α)}{n:Str}{c:α},(n,c)∈l->∃c',l.lookup n=Xb c'
 | (k,v)::r,n,c,h=>by
  rw[Po];cases hb:n==k with
  |true=>exact⟨v,rfl⟩
  |false=>
   rcases Ob.mp h with e|h
   ·cases e;simp at hb
   exact ko h
theorem gI:∀{names:List (Str×SD)}{k:Nat}{acc:List (Str×Q1)}{n:Str}{c:Q1},(n,c)∈RL k names acc->(n,c)∈acc\/(k<=c/\(n,RI)∈names)
 | [],_,_,_,_,h=>.inl h
 | (m,kd)::r,k,acc,n,c,h=>by
  unfold RL at h;by_cases hk:(kd==RI)=true
  ·rw[if_pos hk]at h;have ϻ:kd=.cell:=by simpa using hk
   subst ϻ;rcases gI (names:=r) h with h|⟨h1,h2⟩
   ·rcases Ob.mp h with e|h
    ·cases e;exact .inr {Oc _,N9}
    exact .inl h
   exact .inr {(),N8 _ h2}
  rw[if_neg hk]at h;rcases gI (names:=r) h with h|⟨h1,h2⟩
  ·exact .inl h
  exact .inr {h1,N8 _ h2}
theorem jP:∀{names:List (Str×SD)}{k:Nat}{acc:List (Str×Q1)},(∀n c,(n,c)∈acc->c<k)->(∀n n' c,(n,c)∈acc->(n',c)∈acc->n=n')->
  ∀{n n':Str}{c:Q1},(n,c)∈RL k names acc->(n',c)∈RL k names acc->n=n'
 | [],_,_,_,hi,_,_,_,h,h'=>hi _ _ _ h h'
 | (m,kd)::r,k,acc,hl,hi,n,n',c,h,h'=>by
  unfold RL at h h';by_cases hk:(kd==RI)=true
  ·rw[if_pos hk]at h h';refine jP (names:=r) (acc:=(m,k)::acc) (λa b hab=>?_) (λa a' b ha ha'=>?_) h h'
   ·rcases Ob.mp hab with e|e
    ·cases e;exact Pz _
    exact Pj (hl _ _ e)
   rcases Ob.mp ha with e|e<;>rcases Ob.mp ha' with e'|e'
   ·cases e;cases e';rfl
   ·cases e;exact absurd (hl _ _ e') (OL _)
   ·cases e';exact absurd (hl _ _ e) (OL _)
   exact hi _ _ _ e e'
  rw[if_neg hk]at h h';exact jP (names:=r) hl hi h h'
theorem iX:∀{names:List (Str×SD)}{h:Rp}{acc:List (Str×Q1)}{n:Str}{c:Q1},(n,c)∈RL h.objs.size names acc->(n,c)∈acc\/(Tx h names).IsCell c Xc
 | [],_,_,_,_,q=>.inl q
 | (m,kd)::r,h,acc,n,c,q=>by
  unfold RL at q;unfold Tx;by_cases hk:(kd==RI)=true
  ·rw[if_pos hk]at q;rw[if_pos hk];have e:h.objs.size+1=(h.push { cls:=.type "cell",data:=.cell Xc }).objs.size:=(R9 ..).symm;rw[e]at q;rcases iX (names:=r) q with q|q
   ·rcases Ob.mp q with e'|q
    ·cases e';exact .inr {_,S6 r _ _ _ (Rf _ rfl),rfl}
    exact .inl q
   exact .inr q
  rw[if_neg hk]at q;rw[if_neg hk];exact iX (names:=r) q
theorem j9:∀{names:List (Str×SD)}{k:Nat}{acc:List (Str×Q1)},(x,RI)∉names->(RL k names acc).lookup x=acc.lookup x
 | [],_,_,_=>rfl
 | (m,kd)::r,k,acc,h=>by
  unfold RL;have hr:(x,RI)∉r:=λz=>h (N8 _ z);by_cases hk:(kd==RI)=true
  ·have ϻ:kd=.cell:=by simpa using hk
   subst ϻ;rw[if_pos hk,j9 hr,Po];have ne:(x==m)=false:=by
    cases hb:x==m with
    |false=>rfl
    |true=>exact absurd (by rw[beq_iff_eq.mp hb];exact N9) h
   rw[ne]
  rw[if_neg hk];exact j9 hr
section
variable{M:Model}{A:Rv}{E:Q0->Q3->Prop}{s:Q3}
theorem zO
  (h:Q (newEnv scope s.heap.objs.size globals (RL (s.heap.objs.size+1) scope.names cl) qual Xc .none (Xb Ge) Uv) { s with heap:=Tx (s.heap.push { cls:=.type "dict",data:=.dict #[] }) scope.names }) :
  wpAny M A (WE scope globals cl [] qual Xc .none (Xb Ge)) Q E s:=by
 simp only[WE,Vv,if_true]
 refine QZ (wpAny_alloc ?_)
 refine QZ (wpAny_layCells _ (λname kind cells=>by cases hkc:kind==RI<;>simp[hkc]) _ _ _ _ ?_)
 rw[show({ s with heap:=s.heap.push { cls:=.type "dict",data:=.dict #[] } }:Q3).heap.objs.size=s.heap.objs.size+1 from R9 ..]
 refine QZ ?_
 rw[List.forIn_nil]
 exact Q4 (Q4 h)
end
structure CB where
 C:Q1
 ex:List Q1
 s:Q3
 H:Hp
def Ė(X:Cx)(N:List Str)(scope:TZ)(b:CB):Cx:={ X with
 N:=N
 s₀:=b.s
 H₀:=b.H
 env:=compEnvC scope (RL (b.C+1) scope.names (uE X.env scope.names)) b.C X.env
 outer:=X.stack
 ex:=b.ex
 fn:=λx=>scope.names.lookup x==Xb .cell
 pn:=[]
 xe:=λ_ _=>False }
theorem mM{env:Env}{x:Str}:∀{names:List (Str×SD)},
  (names.map λ(n,k)=>if(k==RT&&env.scope.kind== .function&&env.kindOf n==Xb .cell)then(n,RI)else(n,k)).lookup x=
   (names.lookup x).map λk=>if(k==RT&&env.scope.kind== .function&&env.kindOf x==Xb .cell)then RI else k
 | []=>rfl
 | (n,k)::r=>by
  have ih:=@mM env x r;show SQ x ((if(k==RT&&env.scope.kind== .function&&env.kindOf n==Xb .cell)=true then(n,RI)else(n,k))::_)=_;cases hx:x==n with
  |true=>
   have e:x=n:=beq_iff_eq.mp hx;subst e;by_cases hc:(k==RT&&env.scope.kind== .function&&env.kindOf x==Xb .cell)=true
   ·rw[if_pos hc];simp only[Po,hx,O7,hc,if_true]
   rw[if_neg hc];simp only[Po,hx,O7];rw[if_neg hc]
  |false=>
   by_cases hc:(k==RT&&env.scope.kind== .function&&env.kindOf n==Xb .cell)=true
   ·rw[if_pos hc];simp only[Po,hx];exact ih
   rw[if_neg hc];simp only[Po,hx];exact ih
structure b4(psc:TZ)(PN N:List Str)(own:Nat)(fr:List Nat)(scope:TZ):Prop where
 kind:scope.kind=.function
 nd:(scope.names.map (·.1)).Nodup
 free:∀x∈scope.names,x.2=.free->psc.names.lookup x.1=Xb .cell\/psc.names.lookup x.1=Xb .free
 len:N.length=own+fr.length
 frn:∀i,i<fr.length->N[own+i]?=(fr[i]?).bind λj=>PN[j]?
 frk:∀i,i<fr.length->∀y,N[own+i]?=Xb y->scope.names.lookup y=Xb .free
def Ca(psc:TZ)(PN N:List Str)(own:Nat)(fr:List Nat)(scope:TZ):Bool:=
 scope.kind== .function&&decide (scope.names.map (·.1)).Nodup&&scope.names.all (λx=>x.2 != .free||(psc.names.lookup x.1==Xb .cell||psc.names.lookup x.1==Xb .free))&&
  (N.length==own+fr.length)&&((fr.map λj=>PN[j]?)==(N.drop own).map Xb)&&(N.drop own).all (λy=>scope.names.lookup y==Xb .free)
theorem b4.of(h:Ca psc PN N own fr scope=true):b4 psc PN N own fr scope:=by
 unfold Ca at h;simp only[PC]at h;obtain⟨⟨⟨⟨⟨h1,h2⟩,h3⟩,h4⟩,h5⟩,h6⟩:=h;have h4':N.length=own+fr.length:=eq_of_beq h4;have h5':(fr.map λj=>PN[j]?)=(N.drop own).map Xb:=eq_of_beq h5;have dr:∀i,N[own+i]?=(N.drop own)[i]?:=λi=>by rw[List.getElem?_drop]
 refine{eq_of_beq h1,of_decide_eq_true h2,λx hx hk=>?_,h4',λi hi=>?_,λi hi y hy=>?_}
 ·have q:=Pp.mp h3 x hx;rw[hk]at q;simpa using q
 ·have q:=congrArg (λl=>l[i]?) h5';simp only[Oi]at q;rw[dr];have ej:fr[i]?=Xb fr[i]:=Oa hi;rw[ej]at q⊢;cases e:(N.drop own)[i]? with
  |none=>rw[e]at q;cases q
  |some y=>
   rw[e]at q;exact(Q9 q).symm
 rw[dr]at hy;have q:=Pp.mp h6 y (Oe hy);simpa using q
def ψ(own:Nat)(fr:List Nat)(B:St):St:=Rj own Xc++fr.map λj=>(B[j]?).getD Xc
theorem ik{α:Type}:∀{l:List (Str×α)}{n:Str}{k:α},(l.map (·.1)).Nodup->(n,k)∈l->l.lookup n=Xb k
 | (m,v)::r,n,k,nd,h=>by
  rw[Ox,OO]at nd;rw[Po];rcases Ob.mp h with e|h
  ·cases e;simp
  have ne:(n==m)=false:=by
   cases hb:n==m with
   |false=>rfl
   |true=>exact absurd (Oq.mpr {(n,k),h,beq_iff_eq.mp hb}) nd.1
  rw[ne];exact ik nd.2 h
section
variable{X:Cx}{pins:List (Q1×Obj)}{B:St}{H:Hp}{s:Q3}{N:List Str}{own:Nat}{fr:List Nat}{scope:TZ}
theorem b4.cells(S:b4 X.env.scope X.N N own fr scope)(ok:X.Ok):∀x∈scope.names,x.2=.free->∃c,X.env.cells.lookup x.1=Xb c:=λx hx hk=>
 ok.has x.1 (S.free x hx hk)
theorem b4.cl(S:b4 X.env.scope X.N N own fr scope)(ok:X.Ok)(h:(n,c)∈uE X.env scope.names):X.env.cells.lookup n=Xb c:=by
 rcases uc h with h|⟨h,e⟩
 ·cases h
 obtain⟨c',e'⟩:=S.cells ok (n,.free) h rfl;have e2:X.env.cells.lookup n=Xb c':=e';rw[e2]at e;rw[e,e2];rfl
theorem Gw(S:b4 X.env.scope X.N N own fr scope)(I:Inv X pins B H s)(hD:D=s.heap.objs.size)(hC:C=s.heap.objs.size+1)
  (hh:h'=Tx ((s.heap.push { cls:=.type "list",data:=.seq #[] }).push { cls:=.type "dict",data:=.dict #[] }) scope.names) (hfp:∀b∈fp,um X pins H b) (í:∀b∈fp,b<s.heap.objs.size) :
  Inv (Ė X N scope ⟨C,fp,s,H⟩) [] (ψ own fr B) (upd H D (.lst [])) { s with heap:=h' }:=by
 subst hD hC
 have eD:(s.heap.push { cls:=.type "list",data:=.seq #[] }).objs.size=s.heap.objs.size+1:=R9 ..
 have eC:((s.heap.push { cls:=.type "list",data:=.seq #[] }).push { cls:=.type "dict",data:=.dict #[] }).objs.size=s.heap.objs.size+2:=by rw[R9,eD]
 have keep:∀b o,s.heap.get? b=Xb o->h'.get? b=Xb o:=λb o e=>by
  rw[hh];exact S6 _ _ _ _ (Q5 _ (Q5 _ e))
 have lst:h'.get? s.heap.objs.size=Xb { cls:=.type "list",data:=.seq #[] }:=by
  rw[hh];exact S6 _ _ _ _ (Q5 _ (Rf _ rfl))
 have dct:h'.get? (s.heap.objs.size+1)=Xb { cls:=.type "dict",data:=.dict #[] }:=by
  rw[hh];refine S6 _ _ _ _ ?_;have:=Rf (s.heap.push { cls:=.type "list",data:=.seq #[] }) (o:={ cls:=.type "dict",data:=.dict #[] }) rfl;rw[eD]at this;exact this
 have hnD:H s.heap.objs.size=Xc:=I.Ç.fresh (Oc _)
 have hnC:H (s.heap.objs.size+1)=Xc:=I.Ç.fresh (Pr _)
 have ŏ:∀{n:Str}{c:Q1},(n,c)∈uE X.env scope.names->X.env.cells.lookup n=Xb c:=λh=>S.cl I.ok h
 have clt:∀{n:Str}{c:Q1},X.env.cells.lookup n=Xb c->c<s.heap.objs.size:=λh=>by
  obtain⟨v,z⟩:=I.cell _ _ h;exact z.lt
 have cases_:∀{n:Str}{c:Q1},(RL (s.heap.objs.size+1+1) scope.names (uE X.env scope.names)).lookup n=Xb c->X.env.cells.lookup n=Xb c\/(s.heap.objs.size+2<=c/\(n,RI)∈scope.names/\h'.IsCell c Xc):=λ{n c} h=>by
  have hm:=Ro h;have ą:=hm;rw[show s.heap.objs.size+1+1=((s.heap.push { cls:=.type "list",data:=.seq #[] }).push { cls:=.type "dict",data:=.dict #[] }).objs.size from eC.symm]at ą;rcases gI hm with h1|⟨h1,h2⟩
  ·exact .inl (ŏ h1)
  rcases iX ą with h3|h3
  ·exact .inl (ŏ h3)
  exact .inr {h1,h2,by rw[hh];exact h3}
 have kindOf:∀x,(Ė X N scope {s.heap.objs.size+1,fp,s,H}).env.kindOf x=(scope.names.lookup x).map λk=>if(k==RT&&X.env.scope.kind== .function&&X.env.kindOf x==Xb .cell)then RI else k:=λx=>mM
 have Γ:∀x,((Ė X N scope {s.heap.objs.size+1,fp,s,H}).env.kindOf x=Xb .cell\/(Ė X N scope {s.heap.objs.size+1,fp,s,H}).env.kindOf x=Xb .free)->∃c,(RL (s.heap.objs.size+1+1) scope.names (uE X.env scope.names)).lookup x=Xb c:=λx hx=>by
  rw[kindOf]at hx;have h2:scope.names.lookup x=Xb .cell\/scope.names.lookup x=Xb .free:=by
   cases e:scope.names.lookup x with
   |none=>rw[e]at hx;rcases hx with z|z<;>cases z
   |some k=>
    rw[e]at hx;by_cases hk:k=.free
    ·exact .inr (by rw[hk])
    have ϻ:(k==RT)=false:=by simpa using hk
    simp only[O7,ϻ,Wt,OT,if_false]at hx;rcases hx with z|z
    ·exact .inl z
    exact .inr z
  rcases h2 with h2|h2
  ·exact PB.mp (Tv scope.names _ _ (.inl h2))
  obtain⟨c,hc⟩:=ko (xt (env:=X.env) (cs:=[]) (Ro h2));exact PB.mp (Tv scope.names _ _ (.inr (by rw[show(uE X.env scope.names).lookup x=Xb c from hc];rfl)))
 have cellAt:∀x c,(RL (s.heap.objs.size+1+1) scope.names (uE X.env scope.names)).lookup x=Xb c->∃v,h'.IsCell c v:=λx c e=>by
  rcases cases_ e with q|⟨_,_,q⟩
  ·obtain⟨v,o,ho,hd⟩:=I.cell x c q;exact⟨v,o,keep c o ho,hd⟩
  exact⟨Xc,q⟩
 refine⟨{I.ok.mod,S.kind,I.ok.glob,I.ok.blt,Pr _,λy z c h1 h2=>?_,Γ,λy c hy h=>?_,I.ok.hd,I.ok.frames,.inl rfl,λb hb=>{?_,λx c e z=>?_},λb o e=>I.bs b o e,Ol I.ok.Τ I.sz,λb o e hb=>?_,λb hb hf=>?_,I.stack,I.Bt},
  rfl,I.bare,?_,{λ_=>Xc,{_,#[],_,dct,rfl,λe he=>absurd he (by simp),λ_=>rfl},λi x v h1 h2 h3=>?_},cellAt,?_,λx c e=>?_,λp hp=>absurd (show p∈([]:List (Q1×Obj))from hp) (by simp),?_,?_⟩
 ·
  refine jP (λn c hm=>?_) (λn n' c hm hm'=>I.ok.inj n n' c (ŏ hm) (ŏ hm')) (Ro h1) (Ro h2);exact Pj (Pj (clt (ŏ hm)))
 ·
  have hy':scope.names.lookup y=Xb .cell:=by simpa using (show(scope.names.lookup y==Xb .cell)=true from hy)
  rcases cases_ h with q|⟨q,_⟩
  ·rcases gI (Ro h)with q2|⟨q2,_⟩
   ·rcases uc q2 with z|⟨z,_⟩
    ·cases z
    have:=ik S.nd z;rw[hy']at this;cases this
   exact Ol (Pc _ 2) q2
  exact Ol (Pc _ 2) q
 ·exact OD (Pj (í b hb))
 ·rcases cases_ e with q|⟨q,_⟩
  ·exact(hfp b hb).2.2.2.2.1 x c q z
  have hb':=í b hb;rw[<-z]at hb';exact absurd (OA hb' (Ol (Pc _ 2) q)) (OL _)
 ·rcases(hfp b hb).2.2.2.1 with z|z
  ·exact I.ok.GB b o e z
  exact OL _ (OA (Rc e) (Ol I.ok.Τ z))
 ·rcases Ob.mp (I.AY b hf)with z|z
  ·exact(hfp b hb).2.1 z
  exact(hfp b hb).2.2.1 z
 ·exact Un.laid keep (Oc _) hnD
 ·
  have h1:N[i]?=Xb x:=h1;have hlen:i<N.length:=(Ot.mp h1).1;by_cases hi:i<own
  ·exfalso;have Η:(ψ own fr B)[i]?=Xb Xc:=by
    unfold ψ;rw[OR (by simpa using hi),Uo,if_pos hi]
   rw[Η]at h2;cases h2
  have hfi:i-own<fr.length:=by have:=S.len;lia
  have ei:own+(i-own)=i:=()
  have hk:=S.frk (i-own) hfi x (by rw[ei];exact h1);have hn:=S.frn (i-own) hfi;rw[ei,h1]at hn;have ej:fr[i-own]?=Xb fr[i-own]:=Oa hfi;rw[ej]at hn;have hn':X.N[fr[i-own]]?=Xb x:=hn.symm;have Η:(ψ own fr B)[i]?=Xb ((B[fr[i-own]]?).getD Xc):=by
   unfold ψ;rw[Pb (by simpa using Nat.not_lt.mp hi),OY,Oi,ej];rfl
  rw[Η]at h2;have Ζ:(B[fr[i-own]]?).getD Xc=Xb v:=Q9 h2;have hσ:B[fr[i-own]]?=Xb (Xb v):=by
   cases e:B[fr[i-own]]? with
   |none=>rw[e]at Ζ;cases Ζ
   |some w=>rw[e]at Ζ;exact congrArg Xb Ζ
  obtain⟨m,hm,hl⟩:=I.loc;have Ĳ:=S.free (x,.free) (Ro hk) rfl;obtain⟨u,r,l⟩:=hl _ x v hn' hσ (Ĳ.elim (λz=>.inr (.inl z)) λz=>.inr (.inr z));refine{u,r,.inr ?_};have ą:∃c,X.env.cells.lookup x=Xb c/\s.heap.IsCell c (Xb u):=by
   rcases l with⟨l,_⟩|⟨_,c,e,z⟩
   ·exfalso;rcases Ĳ with z|z
    ·have l':X.env.scope.names.lookup x=Xb .local:=l
     have z':X.env.scope.names.lookup x=Xb .cell:=z;rw[l']at z';cases z'
    have l':X.env.scope.names.lookup x=Xb .local:=l
    have z':X.env.scope.names.lookup x=Xb .free:=z;rw[l']at z';cases z'
   exact⟨c,e,z⟩
  obtain⟨c,e,o,ho,hd⟩:=ą;refine{?_,c,?_,o,keep c o ho,hd}
  ·rw[kindOf,hk];by_cases z:(X.env.scope.kind== .function&&X.env.kindOf x==Xb .cell)=true
   ·left
    simp only[O7,beq_self_eq_true,PQ,z,if_true]
   right
   simp only[O7,beq_self_eq_true,PQ];rw[if_neg z]
  show(RL (s.heap.objs.size+1+1) scope.names (uE X.env scope.names)).lookup x=Xb c;rw[j9 λz=>by
   have:=ik S.nd z;rw[hk]at this;cases this]
  obtain⟨c',hc'⟩:=ko (xt (env:=X.env) (cs:=[]) (Ro hk));have Β:(uE X.env scope.names).lookup x=Xb c':=hc';rw[Β];have:=ŏ (Ro Β);rw[e]at this;exact this.symm
 ·show upd H s.heap.objs.size (.lst []) (s.heap.objs.size+1)=Xc;rw[aM (Py (Pz _))];exact hnC
 ·rcases cases_ e with q|⟨q,_⟩
  ·have:=clt q;rw[aM (OD this)];exact I.kL x c q
  rw[aM (Py (OA (Nat.lt_add_of_pos_right ∅) q))];exact I.Ç.fresh (Ol (Pc _ 2) q)
 ·exact I.Ç.laid keep (Oc _) {Oj _,[],0,.nil,lst}
 show(ψ own fr B).length=N.length
 unfold ψ
 rw[N7,OY,N3,S.len]
end
def PF(X:Cx)(ifs:List Expr)(t:TT):Prop:=
 ∀(pins:List (Q1×Obj))(s:Q3)(B:St)(H:Hp)(Q:Bool->Hp->Prop),Inv X pins B H s->t B H Q->
  wpAny (Ri X.prog X.w) X.A (forIn ifs true λc r=>if r=true then do let ok<-isTrue c X.env (RB c X.env);pure (TL ok)else pure (TL r)) (TP X pins B Q) X.xe s
def MB:TT:=λ_ H Q=>Q true H
theorem fP:PF X [] MB:=λ_ _ _ H _ I h=>wpAny_tests_nil ⟨H,I,h⟩
theorem wR(h:PT X c t):PF X [c] t:=λpins s B H Q I hw=>wpAny_tests_one (h pins s B H Q I hw)
theorem xQ(I:Nat->Q3->Prop)
  (turn:∀n s,I n s->wpAny (Ri prog w) A (US it) (λr s₁=>match r with
   |none=>R (.ok .next) s₁
   |some v=>wpAny (Ri prog w) A (TK target it v) (λ_ s₁'=>wpAny (Ri prog w) A (assign target env v) (λ_ s₂=>
     wpAny (Ri prog w) A (forIn ifs true λc r=>if r=true then do let ok<-isTrue c env (RB c env);pure (TL ok)else pure (TL r)) (λok s₃=>
      if ok=true then wpAny (Ri prog w) A (RB elt env) (λx s₄=>
       wpAny (Ri prog w) A (call (.builtin "list.append") [acc,x]) (λ_ s₅=>∃m,m<n/\I m s₅) (λ_ _=>False) s₄) (λ_ _=>False) s₃
      else ∃m,m<n/\I m s₃) (λ_ _=>False) s₂) (λ_ _=>False) s₁') (λ_ _=>False) s₁) (λ_ _=>False) s)
  (n:Nat) (h:I n s) :
  codeAny (Ri prog w) A (.compLoop (.ListComp elt [⟨target,iter,ifs,0⟩] scope pos) 0 it acc env) R s:=by
 refine codeAny_loop rfl I (λn s hI=>?_) n h
 show wpAny _ A ((compTurn (.ListComp elt [⟨target,iter,ifs,0⟩] scope pos) 0 it acc env).onRaise (λx=>do noteFrame x env;theTreesLotGoes x)) _ _ s
 refine wpAny_noted ?_
 rw[compTurn_list]
 have no:∀{α:Type}{t:Sem α}{Q:α->Q3->Prop}{E':Q0->Q3->Prop}{s':Q3},wpAny (Ri prog w) A t Q (λ_ _=>False) s'->wpAny (Ri prog w) A t Q E' s':=λh=>Su h (λ_ _ q=>q) λ_ _ z=>z.elim
 refine QZ (Ud (QZ (no (Su (turn n s hI) (λr s₁ h₁=>?_) λ_ _ h'=>h'))))
 cases r with
 |none=>exact Q4 h₁
 |some v=>
  refine QZ (no (Su h₁ (λ_ s₁' h₁'=>?_) λ_ _ h'=>h'))
  refine QZ (no (Su h₁' (λ_ s₂ h₂=>QZ (no (Su h₂ (λok s₃ h₃=>?_) λ_ _ h'=>h'))) λ_ _ h'=>h'))
  cases ok with
  |false=>exact Q4 ⟨rfl,h₃⟩
  |true=>
   exact QZ (QZ (no (Su h₃ (λx s₄ h₄=>QZ (no (Su h₄ (λ_ s₅ h₅=>Q4 (Q4 ⟨rfl,h₅⟩)) λ_ _ h'=>h'))) λ_ _ h'=>h')))
structure yj(J:It)(own:Nat)(fr:List Nat)(g:CB->TG)(tf:CB->TT)(te:CB->TE)(Q:VK)(B:St)(H1:Hp):Prop where
 go:∀(b:CB)(D:Q1),H1 D=Xc->∃W:Nat->Nat->St->Hp->Prop,(∃m,W 0 m (ψ own fr B) (upd H1 D (.lst [])))/\∀i m B' H',W i m B' H'->
  (J.stop i H'/\Q (.ref D) H')\/(J.go i H'/\∃M:St->Hp->Prop,(∀σ2 H2,M σ2 H2->∃m',m'<m/\W (i+1) m' σ2 H2)/\∀x H2,J.ϐ i H' x H2->g b x B' H2 λσ3 H3=>tf b σ3 H3 λk H4=>
   if k=true then te b σ3 H4 λy H5=>∃ys,H5 D=Xb (.lst ys)/\ys.length<sizeLine/\M σ3 (upd H5 D (.lst (ys++[y])))else M σ3 H4)
def E4(wi:TI)(own:Nat)(fr:List Nat)(g:CB->TG)(tf:CB->TT)(te:CB->TE):TE:=λB H Q=>wi B H λJ H1=>yj J own fr g tf te Q B H1
section
variable{X:Cx}{tg iter elt:Expr}{ifs:List Expr}{scope:TZ}{pos:Pos}{N:List Str}{own:Nat}{fr:List Nat}{wi:TI}{g:CB->TG}{tf:CB->TT}{te:CB->TE}
theorem zB(S:b4 X.env.scope X.N N own fr scope)(hc:X.calm=true)(hi:PI X tg iter wi)
  (hg:∀b,PG (Ė X N scope b) tg (g b)) (hf:∀b,PF (Ė X N scope b) ifs (tf b)) (he:∀b,PE (Ė X N scope b) elt (te b)) (hs:∀x,foldedSetIterable iter X.env x=pure x) (I:Inv X pins B H s) (h:E4 wi own fr g tf te B H Q)
  (fin:∀(D C:Q1)(oC:Obj)(m:Str->Option Q0)(H':Hp)(s':Q3),Inv X (pins++[(C,oC)]) B H' s'->X.s₀.heap.objs.size<=C->(∀p∈X.pn++pins,p.1≠C)->(∀h':Rp,h'.get? C=Xb oC->h'.Ns C m)->Q (.ref D) H'->WG (Ri X.prog X.w) X.A X.xe use R (.ref D) C (.ok .next) s') :
  wpAny (Ri X.prog X.w) X.A (comprehension (.ListComp elt [⟨tg,iter,ifs,0⟩] scope pos) scope X.env (firstIterPos [⟨tg,iter,ifs,0⟩] pos) (newList []) false (RB iter X.env) use) R X.xe s:=by
 refine wpAny_comprehension_free rfl hs (sj (S.cells I.ok)) S.kind (λx hx hk=>?_) (Ë (hi pins s B H _ I h) λv s1 h1=>Ë h1 λitv s2 h2=>?_)
 ·have:=ik S.nd (show(x.1,x.2)∈scope.names from hx);rw[this,hk]
 obtain⟨it,fp,tn,J,H2,e,I2,T,st2,f2,q⟩:=h2
 subst e
 refine Rt ?_
 refine zO ?_
 have eD:(s2.heap.push { cls:=.type "list",data:=.seq #[] }).objs.size=s2.heap.objs.size+1:=R9 ..
 have hD:H2 s2.heap.objs.size=Xc:=I2.Ç.fresh (Oc _)
 have í:∀b∈fp,b<s2.heap.objs.size:=λb hb=>by
  obtain⟨o,ho,_⟩:=T.obj 0 _ st2 b hb;exact Rc ho
 obtain⟨W,⟨m0,w0⟩,turn⟩:=q.go {s2.heap.objs.size+1,fp,s2,H2} s2.heap.objs.size hD
 have IX:=Gw (fp:=fp) S I2 rfl rfl rfl f2 í
 have st4:tn 0 (Tx ((s2.heap.push { cls:=.type "list",data:=.seq #[] }).push { cls:=.type "dict",data:=.dict #[] }) scope.names):=
  T.keep 0 _ _ st2 λb _ o e=>S6 _ _ _ _ (Q5 _ (Q5 _ e))
 have fr0:∀b∈fp,upd H2 s2.heap.objs.size (.lst []) b=Xc:=λb hb=>by
  rw[aM (OD (í b hb))];exact(f2 b hb).1
 have Ο:∀b∈fp,∀x c,(Ė X N scope {s2.heap.objs.size+1,fp,s2,H2}).env.cells.lookup x=Xb c->c≠b:=λb hb=>((IX.ok.exf b hb).2)
 have ľ:∀{H':Hp},(∀b∈fp,H' b=Xc)->∀b∈fp,um (Ė X N scope {s2.heap.objs.size+1,fp,s2,H2}) [] H' b:=λhn b hb=>
  {hn b hb,(IX.ok.exf b hb).1,IX.ok.FO b hb,.inl hb,Ο b hb,λp hp=>absurd (show p∈([]:List (Q1×Obj))from hp) (by simp)}
 have e4:∀Ρ:Env,Ρ=newEnv scope (s2.heap.push { cls:=.type "list",data:=.seq #[] }).objs.size X.env.globals (RL ((s2.heap.push { cls:=.type "list",data:=.seq #[] }).objs.size+1) scope.names (uE X.env scope.names)) X.env.qual Xc .none (Xb X.env) Uv->
   ({ Ρ with scope:=relabel scope X.env }:Env)=(Ė X N scope ⟨s2.heap.objs.size+1,fp,s2,H2⟩).env/\Ρ.locals=s2.heap.objs.size+1:=λΡ e=>by
  subst e
  rw[eD]
  exact⟨rfl,rfl⟩
 obtain⟨e5,e6⟩:=e4 _ rfl
 have loop:codeAny (Ri X.prog X.w) X.A (.compLoop (.ListComp elt [⟨tg,iter,ifs,0⟩] scope pos) 0 (.ref it) (.ref s2.heap.objs.size) (Ė X N scope {s2.heap.objs.size+1,fp,s2,H2}).env)
   (WG (Ri X.prog X.w) X.A X.xe use R (.ref s2.heap.objs.size) (s2.heap.objs.size+1)) { s2 with heap:=Tx ((s2.heap.push { cls:=.type "list",data:=.seq #[] }).push { cls:=.type "dict",data:=.dict #[] }) scope.names }:=by
  refine xQ (λn s'=>∃i B' H',Inv (Ė X N scope {s2.heap.objs.size+1,fp,s2,H2}) [] B' H' s'/\tn i s'.heap/\(∀b∈fp,H' b=Xc)/\W i n B' H') ?_ m0 {0,_,_,IX,st4,fr0,w0}
  rintro n s5 ⟨i,σ5,H5,I5,ñ,fr5,w5⟩
  rcases turn i n σ5 H5 w5 with⟨stop,qn⟩|⟨go,M,hM,step⟩
  ·refine Ë (T.done (Ė X N scope {s2.heap.objs.size+1,fp,s2,H2}) rfl rfl rfl hc i [] s5 σ5 H5 (λ_ _=>False) I5 (ľ fr5) ñ stop) λr s6 z9=>?_;obtain⟨hr,I6⟩:=z9;subst hr;obtain⟨m,hn,_⟩:=I6.loc;obtain⟨oC,es,ep,hoC,hd,hk,hm⟩:=id hn;have IB:Inv X pins B H5 s6:=I2.Mr (ch:=fp) I6.os I6.base I6.Ç I6.bare λb hb=>{(f2 b hb).2.2.2.1,(f2 b hb).2.1,(f2 b hb).2.2.2.2.1,(f2 b hb).2.2.2.2.2};have young:s2.heap.objs.size<=s2.heap.objs.size+1:=Pr _;refine fin s2.heap.objs.size (s2.heap.objs.size+1) oC m H5 s6 (IB.yk λp hp=>?_) (Ol I2.sz young) (λp hp=>OD (OA (Rc (I2.pin p hp).1) young)) (λh' e=>⟨oC,es,ep,e,hd,hk,hm⟩) qn;rcases Og.mp hp with z|z
   ·exact IB.pin p (Od _ z)
   have Ŷ:p=(s2.heap.objs.size+1,oC):=by simpa using z
   subst Ŷ;exact{hoC,I6.free,Py (OA I2.lt young),I2.Mq young,λv z=>by rw[hd]at z;cases z}
  refine Ë (T.item (Ė X N scope {s2.heap.objs.size+1,fp,s2,H2}) rfl rfl rfl hc i [] s5 σ5 H5 (λ_ _=>False) I5 (ľ fr5) ñ go) λr s6 z9=>?_;obtain⟨u,hr,h6⟩:=z9
  subst hr
  refine Ë h6 λ_ s7 z9=>?_;obtain⟨x,H7,I7,r7,y7,st7,fr7⟩:=z9
  have I7':=I7.pinned (ľ fr7) (T.obj _ _ st7)
  refine Ë (hg _ _ s7 σ5 H7 x u _ I7' r7 (step x H7 y7)) λ_ s8 z9=>?_;obtain⟨σ8,H8,I8,q8⟩:=z9
  refine Ë (hf _ _ s8 σ8 H8 _ I8 q8) λk s9 z9=>?_;obtain⟨H9,I9,q9⟩:=z9
  have again:∀{Ś:Hp}{ě:Q3},Inv (Ė X N scope {s2.heap.objs.size+1,fp,s2,H2}) ([]++uJ fp s7.heap) σ8 Ś ě->M σ8 Ś->
    ∃m,m<n/\∃i B' H',Inv (Ė X N scope {s2.heap.objs.size+1,fp,s2,H2}) [] B' H' ě/\tn i ě.heap/\(∀b∈fp,H' b=Xc)/\W i m B' H':=λ{Ś ě} I10 q10=>by
   obtain⟨m',hm,w10⟩:=hM σ8 Ś q10
   refine{m',hm,i+1,σ8,Ś,I10.mG,T.keep _ _ _ st7 λb hb o e=>(I10.pin (b,o) (Od _ (Od _ (lX hb e)))).1,λb hb=>?_,w10}
   obtain⟨o,e,d⟩:=T.obj _ _ st7 b hb
   exact(I10.pin (b,o) (Od _ (Od _ (lX hb e)))).2.1
  cases k with
  |false=>exact again I9 q9
  |true=>
   refine Ë (he _ _ s9 σ8 H9 _ I9 q9) λw10 ě z9=>?_;obtain⟨y,Ś,I10,r10,ys,hys,hz,q10⟩:=z9
   refine Ë (vM _ ě σ8 Ś (.ref s2.heap.objs.size) [y] (.ref s2.heap.objs.size) [w10] (λ_ H'=>M σ8 H') I10 rfl (.cons r10 .nil) {_,ys,y,rfl,rfl,hys,hz,q10}) λ_ ş z9=>?_;obtain⟨_,Φ,I11,_,q11⟩:=z9
   exact again I11 q11
 have go:codeAny (Ri X.prog X.w) X.A (.compStart (.ListComp elt [⟨tg,iter,ifs,0⟩] scope pos) 0 (.ref it) (.ref s2.heap.objs.size) (Ė X N scope {s2.heap.objs.size+1,fp,s2,H2}).env)
   (WG (Ri X.prog X.w) X.A X.xe use R (.ref s2.heap.objs.size) (s2.heap.objs.size+1)) { s2 with heap:=Tx ((s2.heap.push { cls:=.type "list",data:=.seq #[] }).push { cls:=.type "dict",data:=.dict #[] }) scope.names }:=
  codeAny_compStart_list loop (T.self _ 0 _ _ _ st4 loop)
 have Ι:∀(env':Env)(L:Q1),env'=(Ė X N scope {s2.heap.objs.size+1,fp,s2,H2}).env->L=s2.heap.objs.size+1->
   codeAny (Ri X.prog X.w) X.A (.compStart (.ListComp elt [⟨tg,iter,ifs,0⟩] scope pos) 0 (.ref it) (.ref s2.heap.objs.size) env') (WG (Ri X.prog X.w) X.A X.xe use R (.ref s2.heap.objs.size) L)
    { s2 with heap:=Tx ((s2.heap.push { cls:=.type "list",data:=.seq #[] }).push { cls:=.type "dict",data:=.dict #[] }) scope.names }:=by
  intro env' L h1 h2
  subst h1 h2
  exact go
 exact Ι _ _ e5 e6
theorem vG(I:Inv X (pins++[(C,oC)]) B' H' s')(hy:X.s₀.heap.objs.size<=C)(hp:∀p∈X.pn++pins,p.1≠C)(sb:SK C s'.heap h') :
  Inv X pins B' H' { s' with heap:=h' }:=by
 have pC:=I.pin (C,oC) (Od _ (Od _ (by simp)))
 have I2:Inv X pins B' H' s':=I.mG
 refine I2.turned (it:=C) (t':=s'.toks) (λb o hb e=>(sb.2 b hb).trans e) pC.2.1 pC.2.2.1 (.inr hy) (λx c e z=>?_) hp
 obtain⟨v,o,ho,hd⟩:=I2.cell x c e
 rw[z,pC.1]at ho
 cases ho
 exact pC.2.2.2.2 v hd
theorem dF(S:b4 X.env.scope X.N N own fr scope)(hc:X.calm=true)(hi:PI X tg iter wi)(hg:∀b,PG (Ė X N scope b) tg (g b))(hf:∀b,PF (Ė X N scope b) ifs (tf b))(he:∀b,PE (Ė X N scope b) elt (te b))
  (hs:∀x,foldedSetIterable iter X.env x=pure x:=by intro _;rfl):PE X (.ListComp elt [⟨tg,iter,ifs,0⟩] scope pos) (E4 wi own fr g tf te):=by
 intro pins s B H Q I h
 rw[eval_ListComp]
 refine zB (use:=Xc) S hc hi hg hf he hs I h λD C oC m H' s' I' hy hp hm q=>?_
 have pC:=I'.pin (C,oC) (Od _ (Od _ (by simp)))
 exact{m,hm _ pC.1,λh' sb=>⟨.ref D,H',vG I' hy hp sb,rfl,q⟩}
theorem pj(S:b4 X.env.scope X.N N own fr scope)(hc:X.calm=true)(hN:X.N.Nodup)(hj:X.N[j]?=Xb y)(hy:Loc X.env.scope y)(hi:PI X tg iter wi)(hg:∀b,PG (Ė X N scope b) tg (g b))(hf:∀b,PF (Ė X N scope b) ifs (tf b))
  (he:∀b,PE (Ė X N scope b) elt (te b)) (hfn:X.fn y=true\/X.env.scope.names.lookup y=Xb .local:=by first|exact .inl rfl|exact .inr rfl|assumption) (hs:∀x,foldedSetIterable iter X.env x=pure x:=by intro _;rfl)
  (hsw:U2 (.ListComp elt [⟨tg,iter,ifs,0⟩] scope pos) (Xb (.Name y py)) spos.line X.env=pure true:=by rfl) :
  PS X (.Assign [.Name y py] (.ListComp elt [⟨tg,iter,ifs,0⟩] scope pos) spos) (GP (E4 wi own fr g tf te) (uC j)):=by
 intro pins s B H D I h
 rw[exec_Assign_Name_used _ _ _ _ hsw]
 refine QZ (Ud (QZ ?_))
 show wpAny _ _ (do let _<-comprehension (.ListComp elt [⟨tg,iter,ifs,0⟩] scope pos) scope X.env _ (newList []) false (RB iter X.env) (Xb (assign (.Name y py) X.env))) _ _ s
 refine QZ (Ë (zB (use:=Xb (assign (.Name y py) X.env)) (R:=λ_ s'=>SP X pins D .next s') S hc hi hg hf he hs I h λD' C oC m H' s' I' hy' hp hm q=>?_) λ_ s' q=>Q4 (Q4 q))
 show wpAny _ _ (assign (.Name y py) X.env (.ref D')) _ _ s'
 refine Ë (BF hN hj hy hfn _ s' B H' (.ref D') (.ref D') _ I' rfl q) λ_ s'' z9=>?_;obtain⟨σ2,H2,I2,q2⟩:=z9
 have pC:=I2.pin (C,oC) (Od _ (Od _ (by simp)))
 exact{m,hm _ pC.1,λh' sb=>⟨σ2,H2,vG I2 hy' hp sb,q2⟩}
end
theorem PE.imp(h:PE X e t)(k:∀B H Q,t' B H Q->t B H Q):PE X e t':=λpins s B H Q I q=>h pins s B H Q I (k B H Q q)
theorem Ô.imp(h:Ô X f r)(k:∀x y H Q,r' x y H Q->r x y H Q):Ô X f r':=λpins s B H x y v u Q I rx ry q=>h pins s B H x y v u Q I rx ry (k x y H Q q)
def Fi(i:Nat):TE:=λB H Q=>match B[i]? with
 |some (Xb v)=>Q v H
 |_=>False
section
variable{X:Cx}
theorem fv (i) (hN:X.N[i]?=Xb x:=by rfl) (hv:Vis X.env.scope x:=by first|exact N6 rfl|exact Oo (N6 rfl)|exact Oo (Oo rfl)) (hd:(x==("__debug__":Str))=false:=by decide)
  (ķ:(x==("__classdict__":Str))=false:=by decide):PE X (.Name x pos) (Fi i):=(Kx hN hv hd ķ).imp λB H Q q=>by
 unfold Fi at q
 cases e:B[i]? with
 |none=>rw[e]at q;exact q.elim
 |some o=>
  cases o with
  |none=>rw[e]at q;exact q.elim
  |some v=>rw[e]at q;exact⟨v,e,q⟩
def EV:R2:=λx y H Q=>match x,y with
 | .int i,.int j=>Q (.int (i+j)) H
 | .str a,.str b=>a.length+b.length<=sizeLine/\Q (.str (a++b)) H
 | .ref p,.ref q=>MU (.ref p) (.ref q) H Q
 |_,_=>False
theorem aO:Ô X (RU .Add) EV:=by
 intro pins s B H x y v u Q I rx ry h;cases x with
 |int i=>
  cases y with
  |int j=>exact Jz pins s B H _ _ v u Q I rx ry ⟨i,j,rfl,rfl,h⟩
  |_=>exact(show False from h).elim
 |str a=>
  cases y with
  |str b=>exact Ai pins s B H _ _ v u Q I rx ry ⟨a,b,rfl,rfl,h.1,h.2⟩
  |_=>exact(show False from h).elim
 |ref p=>
  cases y with
  |ref q=>exact Kq pins s B H _ _ v u Q I rx ry h
  |_=>exact(show False from h).elim
 |_=>cases y<;>exact(show False from h).elim
def sh(C:Int->Int->Prop)(g:Int->Int->V):R2:=λx y H Q=>match x,y with
 | .int i,.int j=>C i j/\Q (g i j) H
 |_,_=>False
def jy(g:Int->Int->V):R2:=λx y H Q=>match x,y with
 | .int i,.int j=>Q (g i j) H
 |_,_=>False
theorem Ô.sh(h:Ô X f (rI C g)):Ô X f (sh C g):=h.imp λx y H Q q=>by
 cases x with
 |int i=>
  cases y with
  |int j=>exact⟨i,j,rfl,rfl,q.1,q.2⟩
  |_=>exact(show False from q).elim
 |_=>cases y<;>exact(show False from q).elim
theorem Ô.jy(h:Ô X f (ϔ g)):Ô X f (jy g):=h.imp λx y H Q q=>by
 cases x with
 |int i=>
  cases y with
  |int j=>exact⟨i,j,rfl,rfl,q⟩
  |_=>exact(show False from q).elim
 |_=>cases y<;>exact(show False from q).elim
theorem oR:Ô X (RU .Sub) (jy λi j=>.int (i-j)):=J4.jy
theorem MT:Ô X (RU .Mult) (sh Dt λi j=>.int (i*j)):=Kd.sh
def Jf(_ j:Int):Prop:=0<j/\j<2^64
theorem HH(h:Jf 0 j):j.natAbs.log2<9000:=by
 have h1:j.natAbs<2^64:=by
  have h2:j<2^64:=h.2;have h3:0<j:=h.1;lia
 have h0:j.natAbs≠0:=by have h3:0<j:=h.1;lia
 have:=(Nat.log2_lt h0).mpr h1;lia
theorem bU:Ô X (RU .FloorDiv) (sh Jf λi j=>.int (i/j)):=(opI λi j _ _ _ _ _ hc q=>by
 have h1:(0:Int)<j:=hc.1;exact floordiv_int () (by rw[Int.fdiv_eq_ediv_of_nonneg i ()];exact q) (.inl (PyProof.noPylong_of_log2 (HH hc)))).sh
theorem bH:Ô X (RU .Mod) (sh (λ_ j=>0<j) λi j=>.int (i%j)):=KP.sh
theorem yD:Ô X (RU .Pow) (sh Fq λi j=>.int (i^j.toNat)):=JC.sh
theorem Mf:Ô X (RU .LShift) (sh Fq λi j=>.int (i*2^j.toNat)):=Ku.sh
theorem NZ:Ô X (RU .BitOr) (jy λi j=>.int (RH i j)):=My.jy
theorem ID:Ô X (Rk .Lt) (jy λi j=>.bl (decide (i<j))):=MS.jy
theorem MY:Ô X (Rk .LtE) (jy λi j=>.bl (decide (i<=j))):=MK.jy
theorem C9:Ô X (Rk .Gt) (jy λi j=>.bl (decide (j<i))):=Mt.jy
theorem NF:Ô X (Rk .GtE) (jy λi j=>.bl (decide (j<=i))):=MM.jy
mutual
inductive lO(K:Q6)(H:Hp):V->UE->Prop where
 |Ê:lO K H .Ê .none
 |bl (b:Bool):lO K H (.bl b) (.bool b)
 |int (i:Int):lO K H (.int i) (.int i)
 |str (x:Str):lO K H (.str x) (.str x)
 |lst {a:Q1}{xs:List V}{ds:List UE} (h:À K H a xs) (r:ff K H xs ds):lO K H (.ref a) (.list ds)
 |tup {a:Q1}{xs:List V}{ds:List UE} (h:É K H a xs) (r:ff K H xs ds):lO K H (.ref a) (.tuple ds)
inductive ff(K:Q6)(H:Hp):List V->List UE->Prop where
 |nil:ff K H [] []
 |cons {x:V}{xs:List V}{d:UE}{ds:List UE} (h:lO K H x d) (r:ff K H xs ds):ff K H (x::xs) (d::ds)
end
mutual
theorem Inv.reads(I:Inv X pins B H s):∀{x:V}{d:UE}{u:Q0},lO X.K H x d->Xh x u->∃as,Reads s.heap u d as
 |_,_,_,.Ê,r=>by cases r;exact{_,.none}
 |_,_,_,.bl b,r=>by cases r;exact{_,.bool b}
 |_,_,_,.int i,r=>by obtain⟨t,rfl⟩:=r;exact{_,.int i t}
 |_,_,_,.str x,r=>by obtain⟨t,rfl⟩:=r;exact{_,.str x t}
 |_,_,_,.lst h q,r=>by
  cases r;obtain⟨Â,rv,⟨o,n,e,hc,_,hd⟩,_⟩:=I.list h;obtain⟨as,z⟩:=I.readsAll q rv;exact{_,.list e hc hd (by simpa using z)}
 |_,_,_,.tup h q,r=>by
  cases r;obtain⟨Â,rv,⟨o,e,hc,n,hd⟩,_⟩:=I.tuple h;obtain⟨as,z⟩:=I.readsAll q rv;exact{_,.tuple e hc hd (by simpa using z)}
theorem Inv.readsAll(I:Inv X pins B H s):∀{xs:List V}{ds:List UE}{us:List Q0},ff X.K H xs ds->Xf xs us->∃as,ReadsAll s.heap us ds as
 |_,_,_,.nil,r=>by cases r;exact{_,.nil}
 |_,_,_,.cons h q,r=>by
  cases r with
  |cons r1 r2=>
   obtain⟨as,z⟩:=I.reads h r1;obtain⟨bs,z2⟩:=I.readsAll q r2;exact{_,.cons z z2}
end
def fEq(K:Q6):R2:=λx y H Q=>match x,y with
 | .ref p,.ref q=>∃d e,lO K H (.ref p) d/\lO K H (.ref q) e/\Rq d=true/\Rq e=true/\Q (.bl (Tz d e)) H
 |x,y=>DT x y=true/\Q (.bl (decide (x=y))) H
def fNe(K:Q6):R2:=λx y H Q=>match x,y with
 | .ref p,.ref q=>∃d e,lO K H (.ref p) d/\lO K H (.ref q) e/\Rq d=true/\Rq e=true/\Q (.bl (!PyData.eqv d e)) H
 |x,y=>DT x y=true/\Q (.bl (!decide (x=y))) H
theorem Nz(hu:X.A.units+64<Sy):Ô X (Rk .Eq) (fEq X.K):=by
 intro pins s B H x y v u Q I rx ry h;by_cases hr:∃p q,x=V.ref p/\y=V.ref q
 ·obtain⟨p,q,rfl,rfl⟩:=hr;obtain⟨d,e,hd,he,sd,se,hq⟩:=h;obtain⟨as,z1⟩:=I.reads hd rx;obtain⟨bs,z2⟩:=I.reads he ry;exact eq_dataH z1 z2 sd se hu {.bl _,H,I,rfl,hq}
 refine Me pins s B H x y v u Q I rx ry ?_;cases x<;>cases y<;>first|exact h|exact absurd {_,_,rfl,rfl} hr
theorem xK(hu:X.A.units+64<Sy):Ô X (Rk .NotEq) (fNe X.K):=by
 intro pins s B H x y v u Q I rx ry h;by_cases hr:∃p q,x=V.ref p/\y=V.ref q
 ·obtain⟨p,q,rfl,rfl⟩:=hr;obtain⟨d,e,hd,he,sd,se,hq⟩:=h;obtain⟨as,z1⟩:=I.reads hd rx;obtain⟨bs,z2⟩:=I.reads he ry;exact ne_dataH z1 z2 sd se hu {.bl _,H,I,rfl,hq}
 refine MP pins s B H x y v u Q I rx ry ?_;cases x<;>cases y<;>first|exact h|exact absurd {_,_,rfl,rfl} hr
def fIn(K:Q6)(neg:Bool):R2:=λx y H Q=>match y with
 | .str j=>∃i,x=.str i/\Q (.bl (if neg then !(!(RO j i 0 j.length 1).isEmpty)else !(RO j i 0 j.length 1).isEmpty)) H
 | .ref p=>∃xs,(À K H p xs\/É K H p xs)/\lY x=true/\xs.all lY=true/\Q (.bl (if neg then !Ť x xs else Ť x xs)) H
 |_=>False
theorem NJ:Ô X (Rk .In) (fIn X.K false):=by
 intro pins s B H x y v u Q I rx ry h;cases y with
 |str j=>
  obtain⟨i,rfl,q⟩:=h;exact DE pins s B H _ _ v u Q I rx ry ⟨i,j,rfl,rfl,q⟩
 |ref p=>
  obtain⟨xs,h1,h2,h3,q⟩:=h;exact C6 pins s B H _ _ v u Q I rx ry ⟨p,xs,rfl,h1,h2,h3,q⟩
 |_=>exact(show False from h).elim
theorem HZ:Ô X (Rk .NotIn) (fIn X.K true):=by
 intro pins s B H x y v u Q I rx ry h;cases y with
 |str j=>
  obtain⟨i,rfl,q⟩:=h;exact xx pins s B H _ _ v u Q I rx ry ⟨i,j,rfl,rfl,q⟩
 |ref p=>
  obtain⟨xs,h1,h2,h3,q⟩:=h;exact wU pins s B H _ _ v u Q I rx ry ⟨p,xs,rfl,h1,h2,h3,q⟩
 |_=>exact(show False from h).elim
theorem vg:Ô X (Rk .Is) (λx y H Q=>y=.Ê/\Q (.bl (decide (x=.Ê))) H):=JF
theorem CL:Ô X (Rk .IsNot) (λx y H Q=>y=.Ê/\Q (.bl (!decide (x=.Ê))) H):=Ii
inductive ixS(K:Q6)(p:Q1)(i:Int)(H:Hp)(Q:VK):Prop
 |mk (xs v) (h0:À K H p xs\/É K H p xs) (h1:Ġ xs i=Xb v) (q:Q v H):ixS K p i H Q
def fIx(K:Q6):R2:=λx y H Q=>match x,y with
 | .ref p,.int i=>ixS K p i H Q
 | .str z,.int i=>∃c,z.length<=sizeLine/\Ġ z.cps.toList i=Xb c/\Q (.str ⟨#[c]⟩) H
 |_,_=>False
theorem F1:IxR X (fIx X.K):=by
 intro value slice pins s B H x y v u Q I rx ry h hs;cases x with
 |ref p=>
  cases y with
  |int i=>
   obtain⟨xs,w,h1|h1,h2,q⟩:=h
   ·exact GQ value slice pins s B H _ _ v u Q I rx ry ⟨p,xs,i,w,rfl,rfl,h1,h2,q⟩ hs
   exact J5 value slice pins s B H _ _ v u Q I rx ry ⟨p,xs,i,w,rfl,rfl,h1,h2,q⟩ hs
  |_=>exact(show False from h).elim
 |str z=>
  cases y with
  |int i=>
   obtain⟨c,h1,h2,q⟩:=h;exact JH value slice pins s B H _ _ v u Q I rx ry ⟨z,i,c,rfl,rfl,h1,h2,q⟩ hs
  |_=>exact(show False from h).elim
 |_=>cases y<;>exact(show False from h).elim
def NC:V->Option Int->Option Int->Hp->VK->Prop:=λx lo hi H Q=>∃z,x=.str z/\z.length<=sizeLine/\Q (.str (Txt.slice z lo hi)) H
def Its(x:Str):It:={λi _=>i<x.cps.size,λi H v H'=>H'=H/\∃c,x.cps[i]?=Xb c/\v=.str ⟨#[c]⟩,λi _=>x.cps.size<=i}
theorem EN{P:Program}{w:Rh}{K:Tf}{tg:Expr}{T:String}(hT:T="str_ascii_iterator"\/T="str_iterator")(it:Q1)(x:Str)(t:Tok):XA P w K tg (Its x) [it] it (λi h=>i<=x.cps.size/\h.IsStrIter it T x t i) where
 mem:=by simp
 obj:=λi h st b hb=>by
  have e:b=it:=by simpa using hb
  subst e;obtain⟨_,o,e,c,d⟩:=st;exact{o,e,λv z=>by rw[d]at z;cases z}
 keep:=λi h h' st k=>by
  obtain⟨hi,o,e,r⟩:=st;exact{hi,o,k it (by simp) o e,r}
 item:=by
  intro X hP hw hK hc i pins s B H E I hf st hg;subst hP hw hK;obtain⟨f0,f1,f2,f3,f4,f5⟩:=hf it (by simp);have W:Walks X.prog X.w X.A it [it] [it] x.cps.size (SignAt x) (λi h=>h.IsStrIter it T x t i):=by
   rcases hT with rfl|rfl
   ·exact WH (I.ok.hd hc) it x t
   exact Walks.strWide (I.ok.hd hc) it x t
  refine W.item i s _ _ hg st.2 λv h' tk hv ĥ kk=>?_;obtain⟨c,u,hcp,rfl⟩:=hv;have I1:Inv X pins B H { s with heap:=h',toks:=tk }:=I.turned (λb o hb e=>kk b o (by simpa using hb) e) f0 f1 f3 f4 f5;obtain⟨o,e,c',d⟩:=id ĥ;refine{_,rfl,zc (s:={ s with heap:=h',toks:=tk }) e c' d (by rcases hT with rfl|rfl<;>decide) ⟨.str ⟨#[c]⟩,H,I1,⟨u,rfl⟩,⟨rfl,c,hcp,rfl⟩,⟨hg,ĥ⟩,λb hb=>(hf b hb).1⟩}
 done:=by
  intro X hP hw hK hc i pins s B H E I hf st hg;subst hP hw hK;obtain⟨f0,f1,f2,f3,f4,f5⟩:=hf it (by simp);have W:Walks X.prog X.w X.A it [it] [it] x.cps.size (SignAt x) (λi h=>h.IsStrIter it T x t i):=by
   rcases hT with rfl|rfl
   ·exact WH (I.ok.hd hc) it x t
   exact Walks.strWide (I.ok.hd hc) it x t
  have e:i=x.cps.size:=Nat.le_antisymm st.1 hg;subst e;exact W.done s _ _ st.2 λh' tk kk=>{rfl,I.turned (λb o hb e=>kk b o (by simpa using hb) e) f0 f1 f3 f4 f5}
 self:=λA i s Q E st h=>by
  rcases hT with rfl|rfl
  ·exact wpAny_pyIter_striter_ascii st.2 h
  exact wpAny_pyIter_striter_wide st.2 h
def MZ(K:Q6)(tl:TE):TI:=λB H R=>tl B H λx H1=>match x with
 | .ref a=>((∃xs,À K H1 a xs)/\R (Itl K a) H1)\/((∃xs,É K H1 a xs)/\R (Itt K a) H1)
 | .str z=>R (Its z) H1
 |_=>False
theorem br(hl:PE X l tl):PI X tg l (MZ X.K tl):=by
 intro pins s B H R I h;refine Ë (hl pins s B H _ I h) λv s1 z9=>?_;obtain⟨x,H1,I1,r1,q1⟩:=z9;cases x with
 |ref a=>
  cases r1;rcases q1 with⟨⟨xs,hq⟩,q⟩|⟨⟨xs,hq⟩,q⟩
  ·obtain⟨Â,rv,p,hz⟩:=I1.list hq;refine Tn p.isList ?_;refine{s1.heap.objs.size,[s1.heap.objs.size],_,_,H1,rfl,I1.kept (t':=s1.toks) λb o e=>Q5 _ e,DD a _,{_,Rf _ rfl,rfl,rfl},λb hb=>?_,q};have e:b=s1.heap.objs.size:=by simpa using hb
   subst e;exact I1.yY (Oc _) (I1.Ç.fresh (Oc _))
  obtain⟨Â,rv,p,hz⟩:=I1.tuple hq;refine wpAny_pyIter_tuple (show s1.heap.IsTuple a Â.toArray from p) ?_;refine{s1.heap.objs.size,[s1.heap.objs.size],_,_,H1,rfl,I1.kept (t':=s1.toks) λb o e=>Q5 _ e,Aq a _,{_,Rf _ rfl,rfl,rfl},λb hb=>?_,q};have e:b=s1.heap.objs.size:=by simpa using hb
  subst e;exact I1.yY (Oc _) (I1.Ç.fresh (Oc _))
 |str z=>
  obtain⟨t,rfl⟩:=r1;refine wpAny_pyIter_strU ?_;refine{s1.heap.objs.size,[s1.heap.objs.size],_,_,H1,rfl,I1.kept (t':=s1.toks) λb o e=>Q5 _ e,EN (T:=strIterType z) ?_ _ z t,{Oj _,_,Rf _ rfl,rfl,rfl},λb hb=>?_,q1}
  ·unfold strIterType;split
   ·exact .inl rfl
   exact .inr rfl
  have e:b=s1.heap.objs.size:=by simpa using hb
  subst e;exact I1.yY (Oc _) (I1.Ç.fresh (Oc _))
 |_=>exact(show False from q1).elim
theorem aZ(ha:PE X a ta)(he:∀whole,isTrue a X.env whole=(do let v<-whole;VF a.pos;TR [v] (truthy v))) :
  PT X a (λB H Q=>ta B H λx H'=>zP X.K x H' Q):=Fb ha he
inductive x8(K:Q6)(xs:List V)(H:Hp)(Q:VK):Prop
 |mk (x n) (h0:xs=[x]) (h1:Mc K x H n) (q:Q (.int n) H):x8 K xs H Q
theorem MA:eK X (.builtin "len") (x8 X.K):=λpins s B H xs us Q I r ⟨x,n,h0,h1,q⟩=>E3 pins s B H xs us Q I r ⟨x,n,h0,h1,q⟩
theorem jS:eK X (.type "list") (λxs H Q=>∃p ys,xs=[.ref p]/\(À X.K H p ys\/É X.K H p ys)/\∀l,H l=Xc->Q (.ref l) (upd H l (.lst ys))):=xp
theorem Dr{bs:List Bool}{Â:List Q0}(r:Xf (bs.map V.bl) Â){i:Nat}{v:Q0}(h:Â[i]?=Xb v):∃b,bs[i]?=Xb b/\v=.bool b:=by
 have hi:i<Â.length:=(Ot.mp h).1;have hl:=r.length;rw[N3]at hl;have hb:bs[i]?=Xb bs[i]:=Oa ();obtain⟨u,hu,ru⟩:=r.get (i:=i) (x:=V.bl bs[i]) (by rw[Oi,hb];rfl);rw[h]at hu;cases hu;exact{_,hb,ru}
theorem Mw(hc:X.calm=true:=by rfl):eK X (.builtin "all") (λxs H Q=>∃(p:Q1)(bs:List Bool),xs=[.ref p]/\À X.K H p (bs.map V.bl)/\Q (.bl (bs.all id)) H):=by
 intro pins s B H xs us Q I r h;obtain⟨p,bs,rfl,hq,q⟩:=h;obtain⟨u,rfl,rx⟩:=Xq r;cases rx;obtain⟨Â,rv,pl,hz⟩:=I.list hq;have hl:=pl.isList;have í:p<s.heap.objs.size:=by obtain⟨_,e,_⟩:=hl;exact Rc e
 have hlen:Â.toArray.size=bs.length:=by have:=rv.length;rw[N3]at this;rw[Om];lia
 refine call_all_walk (Tn hl ?_);refine⟨s.heap.objs.size,[s.heap.objs.size,p],[s.heap.objs.size],Â.toArray.size,_,_,λi=>(bs[i]?).getD true,rfl,Walks.list (A:=X.A.in1) (I.ok.hd hc) _ p (OD í) Â.toArray,
  {{_,Rf _ rfl,rfl,rfl},hl.push _},λi v s' Q' E' hP hQ=>?_,λh' tk hk=>?_⟩
 ·obtain⟨b,e,rfl⟩:=Dr rv (by simpa using hP);simp only[e,V4]at hQ;exact Tg hQ
 rw[hlen,LSm.range_all bs];exact{.bl _,H,I.kept (LSm.kept_iter hk),rfl,q}
def HM:V->Q0
 | .ty n=>.type n
 | .ref a=>.ref a
 |_=>.none
theorem Gk(r:Xh y u)(h:HM y≠ .none):u=HM y:=by
 cases y with
 |ty n=>exact r
 |ref a=>exact r
 |_=>exact absurd rfl h
inductive Bn(K:Q6)(xs:List V)(H:Hp)(Q:VK):Prop
 |mk (x y t b) (h0:xs=[x,y]) (h1:HM y≠ .none) (h2:pT K H x t) (h3:Ti K t (HM y)=Xb b) (q:Q (.bl b) H):Bn K xs H Q
theorem aK:eK X (.builtin "isinstance") (Bn X.K):=by
 intro pins s B H xs us Q I r h;obtain⟨x,y,t,b,rfl,hy,ty,e,q⟩:=h;obtain⟨u,w',rfl,rx,ry⟩:=Xy r;rw[Gk ry hy];exact Dh I rx ty e λtk=>{.bl b,H,I.tok _,rfl,q}
theorem bu(ho:PE X o to)(ha:PA X [e] t)(ï:RS o "append" X.env (RB o X.env)=RB o X.env:=by rfl)
  (Ŀ:((RC Ñ (Q8 [e] X.env)).all (λx=>!x.1)&&(Sz Ñ (RQ [] X.env)).all (λx=>x.1.isSome)
   &&decide ([e].length+([]:List SU).length+(if([]:List SU).isEmpty then 0 else 1)<30))=true:=by rfl)
  (î:(apos.endLine==Ñ.line)=true:=by rfl) (hs:Q8 [e] X.env=(false,RB e X.env)::Q8 [] X.env:=by rfl) (ÿ:(RC Ñ (Q8 [] X.env)).any (·.1)=false:=by rfl) :
  PE X (.Call (.Attribute o "append" apos) [e] [] Ñ) (tBM X.K "list" x6 to t):=Fg Tc PySem.F.slot_list_append PySem.F.type_list_append vM ho ha ï Ŀ î hs ÿ
theorem HC:MtR X "int.bit_length" (λx xs H Q=>∃i,x=.int i/\xs=[]/\Q (.int (RW i)) H):=by
 intro pins s B H x xs v us Q I rx rs h;obtain⟨i,rfl,rfl,q⟩:=h;obtain⟨t,rfl⟩:=rx;cases rs;exact call_int_bit_length {.int _,H,I.tok _,{_,rfl},q}
theorem yf(ho:PE X o to)(ï:RS o "bit_length" X.env (RB o X.env)=RB o X.env:=by rfl)(î:(apos.endLine==Ñ.line)=true:=by rfl) :
  PE X (.Call (.Attribute o "bit_length" apos) [] [] Ñ) (JE X.K "int" (λx xs H Q=>∃i,x=.int i/\xs=[]/\Q (.int (RW i)) H) to):=
 FW PySem.F.plainAttrs_int PySem.F.slot_int_bit_length PySem.F.type_int_bit_length HC ho ï î
end
def ę(P:Program)(w:Rh)(K:Q6)(mg:Str->Option Q0)(base:Rp)(k:Nat)(x:Str)(ps:List Str)(sp:Sp):Prop:=
 ∃f fd,j2 P w K mg base Ľ k f fd ps sp/\Xj K fd ps []/\Sh K (.ref f)=true/\mg x=Xb (.ref f)/\∃oc od ú,K.lookup f=Xb ⟨oc,od,.func fd,ú⟩
structure aY(K:Q6)(mg:Str->Option Q0)(x:Str)(st:Rl)(ps:List Str):Prop where
 ex:∃f fd,Fun K x x st f fd/\Xj K fd ps []/\mg x=Xb (.ref f)
theorem aj(D:ę X.prog X.w X.K X.mg X.base j x ps sp)(hr:fu k X.A)(ha:PA X (e::es) t)(hj:j<=k:=by decide)(hg:Gl X x:=by rfl)
  (đ:(x==("__debug__":Str))=false:=by decide) (he:Q8 (e::es) X.env=(false,RB e X.env)::Q8 es X.env:=by rfl) (Ā:(RC pos (Q8 es X.env)).any (·.1)=false:=by rfl) :
  PE X (.Call (.Name x p) (e::es) [] pos) (wG sp [] E0 t):=by
 obtain⟨f,fd,F,b,kp,m,_⟩:=D
 exact Cr F (hr.mono hj) hg m kp b .nil vU ha đ he Ā
abbrev aY.Hz{K:Q6}{mg:Str->Option Q0}{x:Str}{st:Rl}{ps:List Str}(_:aY K mg x st ps)(P:Program)(w:Rh)(base:Rp)(k:Nat)(sp:Sp):Prop:=L2.ę P w K mg base k x ps sp
theorem aY.hs{P w K mg base x st N ps k sp}(F:aY K mg x st ps)(S:aE N ps (au st))
  (õ:∀f Ä A outer s H vs Q E,fu k (A.deeper (SX x (au st) s.heap.objs.size f Ä))->(A.deeper (SX x (au st) s.heap.objs.size f Ä)).units+64<Sy->sp vs H Q E->
   ∃t,ď (vk Ľ P w K mg base N x (au st) f Ä A outer s H E).ϕ (bC st) t/\t { nx:=λ_ H'=>Q .Ê H',rt:=Q } (Xn N vs) H) (len:∀vs H Q E,sp vs H Q E->vs.length=ps.length:=by intro _ _ _ _ h;cases h;subst_vars;rfl):ę P w K mg base (k+1) x ps sp:=by
 obtain⟨f,fd,F,b,m⟩:=F.ex
 obtain⟨oc,od,kV,doc,pm,an,Ä,ct,ú,e,lk,ķ⟩:=F.ex
 exact{f,fd,F.ok S len λÄ A outer s H vs Q E hr h=>õ f Ä A outer s H vs Q E hr hr.units h,b,F.kp,m,oc,od,ú,lk}
theorem aq.upd(h:H p=Xc) (o):aq H (upd H p o):=λb u q=>by rw[aM (gp q h)];exact q
theorem aq.tup{K H H' a xs}(e:aq H H')(h:É K H a xs):É K H' a xs:=by
 rcases h with(h|⟨o,h⟩)|h
 ·exact .inl (.inl (e _ _ h))
 ·exact .inl (.inr {o,e _ _ h})
 exact .inr h
def Ŗ(fr:List Nat)(B:St):St:=fr.map λj=>(B[j]?).getD Xc
theorem ff.ints{K H}:∀ns:List Int,ff K H (ns.map V.int) (ns.map Sw)
 | []=>.nil
 |n::r=>.cons (.int n) (ff.ints r)
theorem shaped_ints(ns:List Int):Rq (.list (ns.map Sw))=true:=by
 unfold Rq;rw[PC];constructor
 ·exact W.ke_canLayAll0 ns
 have e:SM (.list (ns.map Sw))=Sf (ns.map Sw)+1:=rfl;rw[e,W.ke_depthAll];rfl
section
variable{X:Cx}
def JK(K:Q6):V->Option Int->Option Int->Hp->VK->Prop:=λx lo hi H Q=>Ln K x lo hi H Q\/Kj K x lo hi H Q
theorem KJ:ϣ X (JK X.K):=Ic.or JZ
end
theorem F5{α:Type} (f) (xs:List α) (lo hi):kU (xs.map f) lo hi=((xs.drop (HT.Ù xs.length 0 lo)).take (HT.Ù xs.length xs.length hi-HT.Ù xs.length 0 lo)).map f:=by
 unfold kU;rw[N3,Qm,List.map_drop]
theorem Eu{K:Q6}{mg:Str->Option Q0}{h:Rp}{x:Str}{st:Rl}{ps:List Str}{f:Q1}{oc:Q0}{od an:Option Q1}{ú:Array (Option Q0)}{kV doc pm Ä ct:Q0}(X:K.In h)(G:h.Ns Rm mg)
  (a:WI K Rm x=Xb (Xb (.ref f))) (l:K.lookup f=Xb {oc,od,.func (R5 x x (bT st) (bC st) (au st) .none kV doc pm an Ä ct),ú}) (c:TC K Ä x=true) (k:Sh K (.ref f)=true)
  (hb:∀(kV doc pm:Q0)(an:Option Q1)(Ä ct:Q0)(us:List Q0),us.length=ps.length->bindArgs (R5 x x (bT st) (bC st) (au st) .none kV doc pm an Ä ct) {us,[]}=pure (ps.zip us)):aY K mg x st ps:=
 {f,_,xq l c k,(xq l c k).binds hb,U4 X G a}
theorem J8{P w K mg base k x ps sp f oc od ú fd}(D:ę P w K mg base k x ps sp)(m:mg x=Xb (.ref f))
  (l:K.lookup f=Xb ⟨oc,od,.func fd,ú⟩):j2 P w K mg base Ľ k f fd ps sp:=by
 obtain⟨g,gd,F,b,kp,mg',_,_,_,l'⟩:=id D
 rw[m]at mg'
 cases mg'
 rw[l]at l'
 cases l'
 exact F
section
variable{prog:Program}{w:Rh}{A:Rv}{R:W8->Q3->Prop}{I l:Q1}{Â:Array Q0}{ns:List Int}{St:Nat->Rp->Prop}{fp wr:List Q1}{d:Q0}
end
section
variable{X:Cx}
theorem Jy:ϣ X NC:=by
 intro pins s B H x v vl vu lo hi sl Q I rx hs pl pu h;obtain⟨z,rfl,hz,q⟩:=h;obtain⟨t,rfl⟩:=rx;have fin:∀t' k,EP X pins B Q (.str (Txt.slice z lo hi) t') { s with toks:=k }:=λt' k=>⟨.str _,H,I.tok _,⟨_,rfl⟩,q⟩;have len:=Ol (Txt.slice_le z lo hi) hz;obtain⟨o,ho,hc,hd⟩:=hs;refine{"str",_,PySem.F.slot_str_getitem.lookup,Vr _ _ _,?_};cases pl with
 |none=>
  cases pu with
  |none=>exact SG (l:=Sr) (u:=Sr) (st:=Sr) ⟨o,ho,hc,hd⟩ rfl (TM {len,λt' k=>fin t' k})
  |int j uj=>exact SG (l:=Sr) (u:=Xb (j,uj)) (st:=Sr) ⟨o,ho,hc,hd⟩ rfl (TM {len,λt' k=>fin t' k})
 |int i ui=>
  cases pu with
  |none=>exact SG (l:=Xb (i,ui)) (u:=Sr) (st:=Sr) ⟨o,ho,hc,hd⟩ rfl (TM {len,λt' k=>fin t' k})
  |int j uj=>exact SG (l:=Xb (i,ui)) (u:=Xb (j,uj)) (st:=Sr) ⟨o,ho,hc,hd⟩ rfl (TM {len,λt' k=>fin t' k})
def fSl(K:Q6):V->Option Int->Option Int->Hp->VK->Prop:=λx lo hi H Q=>match x with
 | .str z=>z.length<=sizeLine/\Q (.str (Txt.slice z lo hi)) H
 |x=>Ln K x lo hi H Q\/Kj K x lo hi H Q
theorem kz:ϣ X (fSl X.K):=by
 intro pins s B H x v vl vu lo hi sl Q I rx hs pl pu h;by_cases hx:∃z,x=.str z
 ·obtain⟨z,rfl⟩:=hx;exact Jy pins s B H _ v vl vu lo hi sl Q I rx hs pl pu ⟨z,rfl,h.1,h.2⟩
 refine KJ pins s B H x v vl vu lo hi sl Q I rx hs pl pu ?_;cases x<;>first|exact h|exact absurd {_,rfl} hx
theorem uL(hc:X.calm=true:=by rfl):eK X (.builtin "max") (λxs H Q=>∃i j,xs=[.int i,.int j]/\Q (.int (if j>i then j else i)) H):=Dc hc
theorem LG(hc:X.calm=true:=by rfl):eK X (.builtin "min") (λxs H Q=>∃i j,xs=[.int i,.int j]/\Q (.int (if j<i then j else i)) H):=DP hc
theorem yg(h:∃t,X.mg x=Xb (.str z t))(hg:Gl X x:=by rfl)(hd:(x==("__debug__":Str))=false:=by decide):PE X (.Name x pos) (tC (.str z)):=by
 obtain⟨t,e⟩:=h;exact BU hg e ⟨t,rfl⟩ hd
end
section
variable{X:Cx}{tg:Expr}
def h9{α:Type}(xs:List α):List α:=(Rz ((xs.length+1)/2)).filterMap λm=>xs[m*2]?
theorem yK{α:Type}(xs:List α):(h9 xs).length<=xs.length:=by
 unfold h9;refine Ol (Uh _ _) ?_;rw[Qp];lia
theorem Xf.h9(r:Xf xs us):Xf (h9 xs) (h9 us):=by
 have hl:=r.length;unfold L2.h9;rw[hl];have gen:∀l:List Nat,Xf (l.filterMap λm=>xs[m*2]?) (l.filterMap λm=>us[m*2]?):=by
  intro l;induction l with
  |nil=>exact .nil
  |cons m l ih=>
   rw[Pk,Pk];cases e:xs[m*2]? with
   |none=>rw[r.none_of e];exact ih
   |some x=>
    obtain⟨u,hu,ru⟩:=r.get e;rw[hu];exact .cons ru ih
 exact gen _
theorem IF(n:Nat):RA 0 (n:Int) 2=(n+1)/2:=by
 unfold RA;have h1:(2:Int)>0:=()
 simp only[h1,if_true];split<;>lia
theorem Mg(xs:Array Q0):((Rz ((xs.size+1)/2)).filterMap λ(m:Nat)=>xs[((0:Int)+(m:Int)*2).toNat]?).toArray=(h9 xs.toList).toArray:=by
 unfold h9;have e:(λ(m:Nat)=>xs[((0:Int)+(m:Int)*2).toNat]?)=λm=>xs.toList[m*2]?:=by
  funext m
  have:((0:Int)+(m:Int)*2).toNat=m*2:=()
  rw[this,Pd]
 rw[e,O8]
theorem FQ{prog w E}{Q:Int×Int×Nat->Q3->Prop}(hs:s.heap.IsSliceOf sl .none .none (.int 2 t2))(h:Q (0,2,(n+1)/2) s) :
  wpAny (Ri prog w) A (Sl (.ref sl) (pure (n:Int))) Q E s:=by
 obtain⟨os,ő,hcs,Α⟩:=id hs
 unfold Sl T8
 refine QZ (QZ (TF ő Α (x:=.none) rfl (QZ (TF ő Α (x:=.none) rfl (QZ (TF ő Α (x:=.int 2 t2) rfl (Q4 ?_)))))))
 refine QZ (slicePart_int ?_)
 show wpAny _ _ (if((2:Int)==0)=true then _ else _) _ _ s
 rw[if_neg ∅]
 refine QZ (T4 (QZ (T4 (QZ (Q4 ?_)))))
 show wpAny _ _ (pure ((0:Int),(2:Int),RA 0 (n:Int) 2)) _ _ s
 rw[IF]
 exact Q4 h
theorem qr(ht:IsTup s.heap t items)(hs:s.heap.IsSliceOf sl .none .none (.int 2 t2))
  (h:Q (.ref s.heap.objs.size) { s with heap:=s.heap.push { cls:=.type "tuple",data:=.seq (h9 items.toList).toArray } }) (hsz:items.size<=sizeLine):wpAny (Ri prog w) A (Uc (.ref t) (.ref sl)) Q E s:=by
 have Ą:sizeOk (.seq (h9 items.toList).toArray):=by
  show(h9 items.toList).toArray.size<=sizeLine;rw[Om];exact Ol (yK _) (by rw[O8];exact hsz)
 obtain⟨os,ő,hcs,Α⟩:=id hs
 have hTs:s.TypeIs (.ref sl) "slice":=⟨os,ő,hcs⟩
 unfold Uc
 try with_reducible refine wpAny_holding ?_
 first|refine QZ (Q4 ?_)|skip
 refine QZ (VJ ht.typeIs ∅ ?_)
 refine QZ (SF (name:=SV "__getitem__") ht.typeIs RX
  (R0 RX ht.typeIs U8 ?_ (Vp _ _)))
 show wpAny _ _ (T5 (.ref t)>>=_) _ _ s
 refine QZ (tupleItemsOf_ ht ?_)
 refine QZ (Tj hTs ?_)
 rw[if_pos ∅]
 refine QZ (FQ hs ?_)
 show wpAny _ _ (if((0:Int)==0&&(2:Int)==1&&((items.size+1)/2)==items.size)=true then _ else _) _ _ s
 rw[if_neg (by simp),Mg]
 first
  |exact QZ (m:=Ry _) (Rt (Q4 {_,rfl,Q4 h}) Ą)
  |exact QZ (m:=Ry _) (Rt (QZ (Q4 (Q4 {_,rfl,Q4 h}))) Ą)
  |exact QZ (QZ (m:=Ry _) (Rt (Q4 (Q4 {_,rfl,Q4 h})) Ą))
  |exact QZ (QZ (m:=Ry _) (Rt (Q4 {_,rfl,Q4 h}) Ą))
def Lm(K:Q6)(te:TE):TE:=λB H Q=>te B H λx H1=>∃a xs,x=.ref a/\É K H1 a xs/\∀p,H1 p=Xc->Q (.ref p) (upd H1 p (.tup (h9 xs)))
theorem D9(he:PE X e te):PE X (.Subscript e (.Slice Xc Xc (Xb (.Constant (.int 2) j p3)) p2) pos) (Lm X.K te):=by
 intro pins s B H Q I h;refine Vq (Ë (he pins s B H _ I h) λv s1 z9=>?_);obtain⟨x,H1,I1,r1,a,xs,ex,hx,q⟩:=z9;subst ex;cases r1;refine Wf ?_;rw[Ue];refine Q4 ?_;refine Q4 ?_;rw[Vf];refine Vl ?_;obtain⟨Â,r,ht,hz⟩:=I1.tuple hx;have hlen:Â.toArray.size=xs.length:=by rw[Om];exact r.length.symm
 have I4:Inv X pins B H1 { s1 with heap:=s1.heap.push { cls:=.type "slice",data:=.fields #[.none,.none,.int 2 s1.toks] },toks:=s1.toks+1 }:=I1.kept λb ob q=>Q5 _ q;have ht4:IsTup (s1.heap.push { cls:=.type "slice",data:=.fields #[.none,.none,.int 2 s1.toks] }) a Â.toArray:=by
  obtain⟨o,e,r⟩:=ht;exact{o,Q5 _ e,r}
 refine Wy (ops:=[.ref a,.ref s1.heap.objs.size]) (s:={ s1 with heap:=s1.heap.push { cls:=.type "slice",data:=.fields #[.none,.none,.int 2 s1.toks] },toks:=s1.toks+1 }) ht4.typeIs PyProof.Rows.slot_tuple_getitem.lookup (qr ht4 (T6 ..) ?_ (by rw[hlen];exact hz)) (by with_unfolding_all rfl);refine{.ref _,_,I4.laid (t':=s1.toks+1) (o:=.tup (h9 xs)) (λb ob q=>Q5 _ q) (Oc _) ?_,rfl,q _ (I4.Ç.fresh (Oc _))};exact{Ol (yK xs) hz,_,r.h9,IsTup.new _ _}
theorem aS(h:X.mg x=Xb (.ref a))(hg:Gl X x:=by rfl)(hd:(x==("__debug__":Str))=false:=by decide):PE X (.Name x pos) (tC (.ref a)):=BU hg h rfl hd
end
theorem ff.strs{K H}:∀ys:List Str,ff K H (ys.map V.str) (ys.map UG)
 | []=>.nil
 |y::r=>.cons (.str y) (ff.strs r)
theorem zg:∀ys:List Str,(∀y∈ys,RK y=true)->Sb (ys.map UG)=true
 | [],_=>rfl
 |y::r,h=>by simp[Sb,Sa,zg r λz hz=>h z (N8 _ hz),h y N9]
theorem tF:∀ys:List Str,Sf (ys.map UG)=0
 | []=>rfl
 |_::r=>by simp[Sf,SM,tF r]
theorem zw{ys:List Str}(h:∀y∈ys,RK y=true):Rq (.list (ys.map UG))=true:=by
 simp[Rq,Sa,SM,zg ys h,tF]
theorem yt{J:It}{n:Nat}{x:Nat->V}{fr:List Nat}{te:CB->TE}{Q:VK}{B:St}{H1:Hp}(R:Nat->V->Hp->Prop)(hn:n<sizeLine)
  (stop:∀H,aq H1 H->J.stop n H) (go:∀i H,i<n->aq H1 H->J.go i H) (ϐ:∀i H v H',i<n->aq H1 H->J.ϐ i H v H'->H'=H/\v=x i)
  (he:∀b i H (G:VK),i<n->aq H1 H->(∀y H',aq H H'->R i y H'->G y H')->te b (Xb (x i)::Ŗ fr B) H G)
  (mono:∀i y H H',aq H H'->R i y H->R i y H') (st:∀i y H D ys zs,H D=Xb (.lst ys)->R i y H->R i y (upd H D (.lst zs)))
  (fin:∀D H ys,H1 D=Xc->aq H1 H->H D=Xb (.lst ys)->ys.length=n->(∀(i:Nat) y,ys[i]?=Xb y->R i y H)->Q (.ref D) H):yj J 1 fr (λ_=>uC 0) (λ_=>MB) te Q B H1:=by
 refine⟨λb D hD=>?_⟩
 refine{λi m B' H'=>m=n-i/\i<=n/\(∃v0,B'=v0::Ŗ fr B)/\aq H1 H'/\∃ys,H' D=Xb (.lst ys)/\ys.length=i/\∀(j:Nat) y,ys[j]?=Xb y->R j y H',{n,rfl,Oj _,⟨Xc,rfl⟩,aq.upd hD _,[],av,rfl,λj y h=>by cases h},?_}
 rintro i m B' H' ⟨rfl,hi,⟨v0,rfl⟩,sm,ys,hl,hy,hR⟩
 by_cases í:i<n
 ·refine .inr {go i H' í sm,λσ2 H2=>(∃v0,σ2=v0::Ŗ fr B)/\aq H1 H2/\∃ys,H2 D=Xb (.lst ys)/\ys.length=i+1/\∀(j:Nat) y,ys[j]?=Xb y->R j y H2,λσ2 H2 q=>{n-(i+1),(),rfl,í,q},λv H2 y=>?_};obtain⟨rfl,rfl⟩:=ϐ i H' v H2 í sm y;refine he b i _ _ í sm λz H4 s4 rz=>{ys,s4 _ _ hl,(),{_,rfl},?_,ys++[z],av,by simp[hy],λj y' hj=>?_}
  ·intro c o q;by_cases hc:c=D
   ·rw[hc,hD]at q;cases q
   rw[aM hc];exact(sm.trans s4) c o q
  have Ε:=s4 _ _ hl;by_cases hji:j<ys.length
  ·rw[OR hji]at hj;exact st _ _ _ _ _ _ Ε (mono _ _ _ _ s4 (hR j y' hj))
  by_cases e:j=ys.length
  ·subst e;rw[Pb (Oc _)]at hj;simp at hj;subst hj;rw[hy];exact st _ _ _ _ _ _ Ε rz
  rw[PM (by simp;lia)]at hj;cases hj
 have e:i=n:=()
 subst e
 exact .inl ⟨stop H' sm,fin D H' ys hD sm hl hy hR⟩
section
variable{P:Program}{w:Rh}{K:Q6}{mg:Str->Option Q0}{base:Rp}
structure Đ(K:Q6)(C:Q1)(m qual:Str)(st:Rl)(ps:List Str):Prop where
 ex:∃f fd,Fun K m qual st f fd/\Xj K fd ps []/\XB K C m f
def zm(P:Program)(w:Rh)(K:Q6)(mg:Str->Option Q0)(base:Rp)(k:Nat)(C:Q1)(m:Str)(ps:List Str)(sp:Sp):Prop:=
 ∃f fd,j2 P w K mg base Ľ k f fd ps sp/\Xj K fd ps []/\XB K C m f
abbrev Đ.Hz{C:Q1}{m qual:Str}{st:Rl}{ps:List Str}(_:Đ K C m qual st ps)(P:Program)(w:Rh)(mg:Str->Option Q0)(base:Rp)(k:Nat)(sp:Sp):Prop:=zm P w K mg base k C m ps sp
theorem Đ.hs{C m qual st N ps k sp}(F:Đ K C m qual st ps)(S:aE N ps (au st))
  (õ:∀f Ä A outer s H vs Q E,fu k (A.deeper (SX qual (au st) s.heap.objs.size f Ä))->(A.deeper (SX qual (au st) s.heap.objs.size f Ä)).units+64<Sy->sp vs H Q E->
   ∃t,ď (vk Ľ P w K mg base N qual (au st) f Ä A outer s H E).ϕ (bC st) t/\t { nx:=λ_ H'=>Q .Ê H',rt:=Q } (Xn N vs) H) (len:∀vs H Q E,sp vs H Q E->vs.length=ps.length:=by intro _ _ _ _ h;cases h;subst_vars;rfl):zm P w K mg base (k+1) C m ps sp:=by
 obtain⟨f,fd,F,b,m⟩:=F.ex
 exact{f,fd,F.ok S len λÄ A outer s H vs Q E hr h=>õ f Ä A outer s H vs Q E hr hr.units h,b,m}
theorem ę.mono(D:ę P w K mg base j x ps sp)(h:j<=k):ę P w K mg base k x ps sp:=by
 obtain⟨f,fd,F,b⟩:=D;exact⟨f,fd,F.mono h,b⟩
structure gc(K:Q6)(mg:Str->Option Q0)(C:Q1)(x:Str)(up:List Q1):Prop where
 mg:mg x=Xb (.ref C)
 cl:ļ K C
 mro:∃cd,W.clsIn K C=Xb cd/\cd.mro=up.map Rn++[Sd "object"]
 ty:W.typeIn K (.ref C)=Xb (.type "type")
 kc:RY K (.ref C) "__class__"=Xb (Xb (.builtin "object.__class__"))
 cg:S8 K (.builtin "object.__class__") "__get__"=Xb (Xb (.builtin "getset_descriptor.__get__"))
 ct:V1 K (.builtin "object.__class__")=Xb true
 mks:V0 K C=true
 kp:Sh K (.ref C)=true
variable{C D:Q1}{x y:Str}{up vp:List Q1}
theorem gc.sub(O:gc K mg C x up) (b):W9 K C b=Xb ((up.map Rn++[Sd "object"]).contains b):=by
 obtain⟨cd,h1,h2⟩:=O.mro;unfold W9;rw[h1];show(if cd.mro.isEmpty=true then Xc else Xb (cd.mro.contains b))=_;rw[h2,if_neg (by cases up<;>simp)]
theorem vw(up:List Q1)(D:Q1):(up.map Rn++[Sd "object"]).contains (Rn D)=decide (D∈up):=by
 induction up with
 |nil=>rfl
 |cons a r ih=>
  show((Rn D==Rn a)||(r.map Rn++[Sd "object"]).contains (Rn D))=_;rw[ih];by_cases h:D=a
  ·subst h;simp
  have:(Rn D==Rn a)=false:=by
   rw[Qq];intro z;exact h (Value.ref.inj (beq_iff_eq.mp z))
  rw[this,Qn];simp[h]
theorem gc.kit(O:gc K mg C x up)(U0z:gc K mg D y vp)(hs:C∈up):Ti K (.ref C) (.ref D)=Xb (decide (D∈up)):=by
 unfold Ti;split
 ·rename_i q;have:C=D:=Value.ref.inj (beq_iff_eq.mp q);rw[<-this,decide_eq_true hs]
 obtain⟨cd,h1,_⟩:=U0z.mro;unfold W.kitCls;dsimp only;rw[h1,U0z.ty];rw[if_pos (by rfl)];show W9 K C (.ref D)=_;rw[O.sub,vw]
theorem gc.MV(O:gc K mg C x up)(e:H a=Xb (.ins C dx fs)):pT K H (.ref a) (.ref C):=
 .ins e O.cl O.kc O.cg O.ct ((O.sub _).trans (by simp))
end
section
variable{X:Cx}{k j:Nat}{C:Q1}{x m:Str}{ps:List Str}{sp:Sp}{o e:Expr}{es:List Expr}{ta:TE}{t:TA}{p apos pos:Pos}{up:List Q1}
theorem bf(O:gc X.K X.mg C x up)(D:zm X.prog X.w X.K X.mg X.base j C "__init__" ps sp)(hr:fu k X.A)(ha:PA X (e::es) t)(hj:j+1<=k:=by decide)(hg:Gl X x:=by rfl)(đ:(x==("__debug__":Str))=false:=by decide)
  (he:Q8 (e::es) X.env=(false,RB e X.env)::Q8 es X.env:=by rfl) (Ā:(RC pos (Q8 es X.env)).any (·.1)=false:=by rfl):PE X (.Call (.Name x p) (e::es) [] pos) (Jc C sp [] E0 t):=by
 obtain⟨f,fd,F,b,m⟩:=D
 exact HV ⟨O.mks,m.at_,m.fn,O.kp⟩ F (hr.mono hj) hg O.mg b .nil vU ha đ he Ā
def KH(M:Q1->Sp->Prop)(m:Str)(ta:TE)(t:TA):TE:=λB H Q=>ta B H λx H1=>∃a C dx fs sp,x=.ref a/\H1 a=Xb (.ins C dx fs)/\fs.lookup m=Xc/\M C sp/\t B H1 λvs H2=>sp (x::vs) H2 Q E0
theorem rC(he:PE X o ta)(hM:∀C sp,M C sp->ļ X.K C/\∃ps,zm X.prog X.w X.K X.mg X.base j C m ps sp)(hr:fu k X.A)(hj:j<=k:=by decide)
  (ht:RB (.Call (.Attribute o m apos) [] [] pos) X.env=(do
   let ov<-RB o X.env
   VF apos.atName
   let (f,first)<-TR [ov] (VZ ov m pl)
   callWith pos f first (RC pos (Q8 [] X.env)) (Sz pos (RQ [] X.env))):=by rfl) :
  PE X (.Call (.Attribute o m apos) [] [] pos) (KH M m ta C5):=by
 intro pins s B H Q I h
 refine W.methodCall_KW (pl:=pl) (Ë (he pins s B H _ I h) λu s1 ⟨x,H1,I1,rx,a,C,dx,fs,sp,ex,ea,l,hm,q⟩=>?_) ht
 obtain⟨c,ps,f,fd,F,b,hm⟩:=hM C sp hm
 subst ex
 obtain rfl:u=Rn a:=rx
 refine AG I1 ea c hm l ?_
 exact W.callWith_K0 (first:=[.ref a]) I1.ă hm.kp (Aw (us:=[.ref a]) (vs:=[.ref a]) (dvs:=[]) F (hr.mono hj) b .nil vU I1 (.cons rfl .nil) q)
structure OfC(K:Q6)(C:Q1)(m:Str):Prop where
 ga:S8 K (.ref C) "__getattribute__"=Xb (Xb (.builtin "type.__getattribute__"))
 rd:W.readsIn K C (.type "type")=true
 fc:∃f,RY K (.ref C) m=Xb (Xb (.ref f))/\W.findCls K (.ref C) (.type "type") m=Xb (.val (.ref f))
theorem de(O:gc X.K X.mg C x up)(W:OfC X.K C m)(D:zm X.prog X.w X.K X.mg X.base j C m ps sp)(hr:fu k X.A)(ha:PA X (e::es) t)(hj:j<=k:=by decide)(hg:Gl X x:=by rfl)(đ:(x==("__debug__":Str))=false:=by decide)
  (hst:Q8 (e::es) X.env=(false,RB e X.env)::Q8 es X.env:=by rfl) (Ā:(RC pos (Q8 es X.env)).any (·.1)=false:=by rfl)
  (ht:RB (.Call (.Attribute (.Name x p) m apos) (e::es) [] pos) X.env=(do
   let ov<-RB (.Name x p) X.env
   VF apos.atName
   let (f,first)<-TR [ov] (VZ ov m pl)
   callWith pos f first (RC pos (Q8 (e::es) X.env)) (Sz pos (RQ [] X.env))):=by rfl) :
  PE X (.Call (.Attribute (.Name x p) m apos) (e::es) [] pos) (wG sp [] E0 t):=by
 obtain⟨f,fd,F,b,hm⟩:=D
 intro pins s B H Q I h
 refine PySem.W.methodCall_KW (pl:=pl) (qo I hg O.mg ?_ đ) ht
 obtain⟨f',h1,h2⟩:=W.fc
 have ef:f=f':=by
  have:=hm.at_.symm.trans h1;cases this;rfl
 subst ef
 refine PySem.W.method_cls I.ă W.ga (PySem.W.cls_value I.ă W.rd h2 rfl ?_)
 refine PySem.W.callWith_K (h₀:=X.base) I.ok.mod.kin hm.kp (Ë (ha pos pins _ B H _ (I.tok _) h) λus s2 ⟨vs,H2,I2,r,q2⟩=>{I2.ă,?_}) hst Ā
 exact Aw (us:=us) (vs:=vs) F (hr.mono hj) b .nil vU I2 r q2
end
theorem J9{K:Q6}{C:Q1}{m qual:Str}{st:Rl}{ps:List Str}{f:Q1}{oc:Q0}{od an:Option Q1}{ú:Array (Option Q0)}{kV doc pm Ä ct:Q0}
  (a:RY K (.ref C) m=Xb (Xb (.ref f))) (fn:W7 K (.ref f)=true) (l:K.lookup f=Xb {oc,od,.func (R5 m qual (bT st) (bC st) (au st) .none kV doc pm an Ä ct),ú}) (c:TC K Ä qual=true) (k:Sh K (.ref f)=true)
  (hb:∀(kV doc pm:Q0)(an:Option Q1)(Ä ct:Q0)(us:List Q0),us.length=ps.length->bindArgs (R5 m qual (bT st) (bC st) (au st) .none kV doc pm an Ä ct) {us,[]}=pure (ps.zip us)):Đ K C m qual st ps:=
 {f,_,xq l c k,(xq l c k).binds hb,⟨a,fn,k⟩}
end L2
namespace L2
open PySem
end L2
namespace L2
open PySem PySem.Spec PyProof.Rows
section
variable{X:Cx}
def vQ:V->Bool
 | .Θ _=>false
 | .Ĭ _=>false
 |_=>true
theorem rQ(hx:vQ x=true)(ru:Xh x u)(rv:Xh x v) (A s):UC A s u v true:=by
 cases x with
 |Ê=>cases ru;cases rv;exact .same _
 |bl b=>cases ru;cases rv;exact .same _
 |int i=>
  obtain⟨t,rfl⟩:=ru;obtain⟨t',rfl⟩:=rv;have:=Vs (A:=A) (s:=s) i t i t';rwa [beq_self_eq_true]at this
 |str y=>
  obtain⟨t,rfl⟩:=ru;obtain⟨t',rfl⟩:=rv;have:=Vt (A:=A) (s:=s) y t y t';rwa [beq_self_eq_true]at this
 |Ĭ _=>cases hx
 |Θ _=>cases hx
 |ref a=>cases ru;cases rv;exact .same _
 |ty n=>cases ru;cases rv;exact .same _
theorem Ma(hu:X.A.units+64<Sy):Ô X (Rk .Eq) (λx y H Q=>∃p q xs,x=.ref p/\y=.ref q/\À X.K H p xs/\À X.K H q xs/\xs.all vQ=true/\Q (.bl true) H):=by
 intro pins s B H x y v u Q I rx ry h;obtain⟨p,q,xs,rfl,rfl,hp,hq,hf,k⟩:=h;cases rx;cases ry;obtain⟨Â,r1,⟨o,n,e1,c1,_,d1⟩,_⟩:=I.list hp;obtain⟨jts,r2,⟨o2,n2,e2,c2,_,d2⟩,_⟩:=I.list hq;have l1:=r1.length;have l2:=r2.length;refine SeqAt.eq_listAt (e:=λ_=>true) ⟨o,e1,c1,n,d1⟩ ⟨o2,e2,c2,n2,d2⟩ (by simp;lia) () (λj h1 h2=>?_) ?_
 ·simp at h1 h2;obtain⟨x,hx⟩:∃x,xs[j]?=Xb x:={xs[j]'(()),Oa ()};obtain⟨u1,g1,w1⟩:=r1.get hx;obtain⟨u2,g2,w2⟩:=r2.get hx;have z1:Â.toArray[j]'(by simpa using h1)=u1:=by
   have:=Oa h1;rw[g1]at this;simpa using (Q9 this).symm
  have z2:jts.toArray[j]'(by simpa using h2)=u2:=by
   have:=Oa h2;rw[g2]at this;simpa using (Q9 this).symm
  rw[z1,z2];exact rQ (Pp.mp hf x (Oe hx)) w1 w2 _ _
 have:((Rz Â.toArray.size).all λ_=>true)=true:=by simp
 rw[this];exact⟨.bl true,H,I,rfl,k⟩
def NM(K:Q6):R2:=λx y H Q=>match x,y with
 | .ref p,.ref q=>(∃d e,lO K H (.ref p) d/\lO K H (.ref q) e/\Rq d=true/\Rq e=true/\Q (.bl (Tz d e)) H)\/(∃xs,À K H p xs/\À K H q xs/\xs.all vQ=true/\Q (.bl true) H)
 |x,y=>DT x y=true/\Q (.bl (decide (x=y))) H
theorem Mv(hu:X.A.units+64<Sy):Ô X (Rk .Eq) (NM X.K):=((Nz hu).or (Ma hu)).imp λx y H Q q=>by
 by_cases hr:∃p q,x=V.ref p/\y=V.ref q
 ·obtain⟨p,q',rfl,rfl⟩:=hr;rcases q with q|⟨xs,h1,h2,h3,h4⟩
  ·exact .inl q
  exact .inr ⟨p,q',xs,rfl,rfl,h1,h2,h3,h4⟩
 refine .inl ?_;cases x<;>cases y<;>first|exact q|exact absurd {_,_,rfl,rfl} hr
end
section
variable{κ:Type}[DecidableEq κ]
def cK(kvs:List (κ×V))(k:κ):Option V:=(kvs.find? λkv=>decide (kv.1=k)).map (·.2)
def Xi(kvs:List (κ×V))(k:κ)(v:V):List (κ×V):=
 if(kvs.any λkv=>decide (kv.1=k))=true then kvs.map (λkv=>if kv.1=k then(kv.1,v)else kv)else kvs++[(k,v)]
theorem dN{p:κ×V}{r:List (κ×V)}{k:κ}(e:p.1=k):cK (p::r) k=Xb p.2:=by simp[cK,OK,e]
theorem dz{p:κ×V}{r:List (κ×V)}{k:κ}(e:¬ p.1=k):cK (p::r) k=cK r k:=by simp[cK,OK,e]
theorem iN(k:κ):∀kvs:List (κ×V),(kvs.any λkv=>decide (kv.1=k))=(cK kvs k).isSome
 | []=>rfl
 |p::r=>by
  rw[Qb];by_cases e:p.1=k
  ·simp only[dN e,decide_eq_true e,Bool.true_or,Vv]
  rw[dz e,decide_eq_false e,Qn];exact iN k r
theorem Ad(k j:κ)(y:V):∀kvs:List (κ×V),cK (kvs.map λkv=>if kv.1=k then(kv.1,y)else kv) j=(cK kvs j).map λx=>if j=k then y else x
 | []=>rfl
 |p::r=>by
  have ih:=Ad k j y r;rw[Ox];by_cases h:p.1=k
  ·rw[if_pos h];by_cases e:p.1=j
   ·rw[dN (p:=(p.1,y)) e,dN e,O7,if_pos (e.symm.trans h)]
   rw[dz (p:=(p.1,y)) e,dz e,ih]
  rw[if_neg h];by_cases e:p.1=j
  ·rw[dN (p:=p) e,dN e,O7,if_neg (λz=>h (e.trans z))]
  rw[dz (p:=p) e,dz e,ih]
theorem vB(k j:κ)(y:V):∀kvs:List (κ×V),cK kvs k=Xc->cK (kvs++[(k,y)]) j=if j=k then Xb y else cK kvs j
 | [],_=>by
  by_cases e:k=j
  ·rw[if_pos e.symm];exact dN (p:=(k,y)) e
  rw[if_neg (λz=>e z.symm)];exact dz (p:=(k,y)) e
 |p::r,hn=>by
  rw[Qe];have hk:¬ p.1=k:=λz=>by rw[dN z]at hn;cases hn
  rw[dz hk]at hn;have ih:=vB k j y r hn;by_cases e:p.1=j
  ·rw[dN e,dN e,if_neg (λz=>hk (e.trans z))]
  rw[dz e,dz e,ih]
theorem Ej(kvs:List (κ×V))(k j:κ)(y:V):cK (Xi kvs k y) j=if j=k then Xb y else cK kvs j:=by
 unfold Xi;by_cases a:(kvs.any λkv=>decide (kv.1=k))=true
 ·rw[if_pos a,Ad];rw[iN]at a;by_cases e:j=k
  ·obtain⟨x,hx⟩:=PB.mp a;rw[if_pos e,e,hx,O7,if_pos rfl]
  rw[if_neg e];cases cK kvs j with
  |none=>rfl
  |some x=>rw[O7,if_neg e]
 rw[if_neg a];refine vB k j y kvs ?_;rw[iN]at a;cases q:cK kvs k with
 |none=>rfl
 |some x=>rw[q]at a;exact(a rfl).elim
theorem jD(kvs:List (κ×V))(k:κ)(v:V):(Xi kvs k v).length<=kvs.length+1:=by
 unfold Xi;split
 ·rw[N3];lia
 rw[N7,OE,Pf];lia
theorem Aa{kvs:List (κ×V)}{k:κ}(v:V)(h:cK kvs k=Xc):Xi kvs k v=kvs++[(k,v)]:=by
 unfold Xi;rw[iN,h];exact if_neg ∅
theorem oH.kT{o:Option V}{u:Option Q0}(r:oH o u):o.isSome=u.isSome:=by
 cases o with
 |none=>cases u with
  |none=>rfl
  |some _=>exact(show False from r).elim
 |some _=>cases u with
  |none=>exact(show False from r).elim
  |some _=>rfl
theorem KV.val{kvs:List (κ×V)}{vs:List (κ×Q0)}(r:KV kvs vs)(k:κ):oH (cK kvs k) (valueAt vs k):=by
 unfold KV at r;induction r with
 |nil=>exact Oy
 |@cons p q ps qs h t ih=>
  obtain⟨h1,h2⟩:=h;by_cases e:p.1=k
  ·have e':q.1=k:=h1.symm.trans e;have b:valueAt (q::qs) k=Xb q.2:=by simp[valueAt,OK,e']
   rw[dN e,b];exact h2
  have e':¬ q.1=k:=λz=>e (h1.trans z);have b:valueAt (q::qs) k=valueAt qs k:=by simp[valueAt,OK,e']
  rw[dz e,b];exact ih
theorem KV.any{kvs:List (κ×V)}{vs:List (κ×Q0)}(r:KV kvs vs)(k:κ):(kvs.any λkv=>decide (kv.1=k))=vs.any λkv=>decide (kv.1=k):=by
 unfold KV at r;induction r with
 |nil=>rfl
 |cons h t ih=>rw[Qb,Qb,ih,h.1]
theorem KV.J6{kvs:List (κ×V)}{vs:List (κ×Q0)}(r:KV kvs vs)(k:κ){y:V}{u:Q0}(ry:Xh y u) :
  KV (kvs.map λkv=>if kv.1=k then(kv.1,y)else kv) (vs.map λkv=>if kv.1=k then(kv.1,u)else kv):=by
 unfold KV at r⊢
 induction r with
 |nil=>exact .nil
 |@cons p q ps qs h t ih=>
  rw[Ox,Ox]
  refine .cons ?_ ih
  obtain⟨h1,h2⟩:=h
  by_cases e:p.1=k
  ·rw[if_pos e,if_pos (h1.symm.trans e)];exact⟨h1,ry⟩
  rw[if_neg e,if_neg (λz=>e (h1.trans z))];exact⟨h1,h2⟩
theorem KV.put{kvs:List (κ×V)}{vs:List (κ×Q0)}(r:KV kvs vs)(k:κ){y:V}{u:Q0}(ry:Xh y u):KV (Xi kvs k y) (stored vs k u):=by
 unfold Xi stored;rw[r.any k];by_cases e:(vs.any λkv=>decide (kv.1=k))=true
 ·rw[if_pos e,if_pos e];exact r.J6 k ry
 rw[if_neg e,if_neg e];exact Td r ⟨rfl,ry⟩
theorem KV.keys{kvs:List (κ×V)}{vs:List (κ×Q0)}(r:KV kvs vs):kvs.map (·.1)=vs.map (·.1):=by
 unfold KV at r;induction r with
 |nil=>rfl
 |cons h t ih=>rw[Ox,Ox,ih,h.1]
theorem KV.length{kvs:List (κ×V)}{vs:List (κ×Q0)}(r:KV kvs vs):kvs.length=vs.length:=Q7 r
end
theorem u9{P:Program}{w:Rh}{k:Key}{u:Q0}(r:Xh (kV k) u):(cw P w).is k u=true:=by
 cases k with
 |inl i=>obtain⟨t,e⟩:=(show ∃t,u=Sx i t from r);subst e;exact yC P w i t
 |inr x=>obtain⟨t,e⟩:=(show ∃t,u=U0 x t from r);subst e;exact zE P w x t
theorem wd{P:Program}{w:Rh}:∀{ks:List Key}{us:List Q0},Xf (ks.map kV) us->ItemsAre (cw P w) ks us
 | [],_,r=>by rw[P2]at r;cases r;exact .nil
 |k::ks,_,r=>by
  rw[Ox]at r;cases r with
  |cons h t=>exact .cons (u9 h) (wd t)
abbrev KT(H:Hp):List (List Key×V)->List (List Key×Q1×Q0)->Prop:=Paired λp q=>p.1=q.1/\H q.2.1=Xb (.tup (p.1.map kV))/\Xh p.2 q.2.2
theorem KT.val{H:Hp}{kvs:List (List Key×V)}{xs:List (List Key×Q1×Q0)}(r:KT H kvs xs)(k:List Key):oH (cK kvs k) ((Wh xs k).map (·.2)):=by
 induction r with
 |nil=>exact Oy
 |@cons p q ps qs h t ih=>
  obtain⟨h1,_,h2⟩:=h;by_cases e:p.1=k
  ·have e':q.1=k:=h1.symm.trans e;have b:Wh (q::qs) k=Xb q.2:=by simp[Wh,OK,e']
   rw[dN e,b];exact h2
  have e':¬ q.1=k:=λz=>e (h1.trans z);have b:Wh (q::qs) k=Wh qs k:=by simp[Wh,OK,e']
  rw[dz e,b];exact ih
theorem KT.J6{H:Hp}{kvs:List (List Key×V)}{xs:List (List Key×Q1×Q0)}(r:KT H kvs xs)(k:List Key){y:V}{u:Q0}(ry:Xh y u) :
  KT H (kvs.map λkv=>if kv.1=k then(kv.1,y)else kv) (xs.map (putAt k u)):=by
 induction r with
 |nil=>exact .nil
 |@cons p q ps qs h t ih=>
  rw[Ox,Ox]
  refine .cons ?_ ih
  obtain⟨h1,h2,h3⟩:=h
  unfold putAt
  by_cases e:p.1=k
  ·rw[if_pos e,if_pos (h1.symm.trans e)];exact⟨h1,h2,ry⟩
  rw[if_neg e,if_neg (λz=>e (h1.trans z))];exact⟨h1,h2,h3⟩
theorem KT.put{H:Hp}{kvs:List (List Key×V)}{xs:List (List Key×Q1×Q0)}(r:KT H kvs xs)(k:List Key){b:Q1}{y:V}{u:Q0}(hb:H b=Xb (.tup (k.map kV)))(ry:Xh y u) :
  KT H (Xi kvs k y) (storedH xs k b u):=by
 have e:(kvs.any λkv=>decide (kv.1=k))=(Wh xs k).isSome:=by
  rw[iN,(r.val k).kT,Qr]
 unfold Xi storedH
 rw[e]
 by_cases q:(Wh xs k).isSome=true
 ·rw[if_pos q,if_pos q];exact r.J6 k ry
 rw[if_neg q,if_neg q];exact Td r ⟨rfl,hb,ry⟩
theorem KT.keeps{H H':Hp}{kvs:List (List Key×V)}{xs:List (List Key×Q1×Q0)}(r:KT H kvs xs)(ht:∀b ys,H b=Xb (.tup ys)->H' b=Xb (.tup ys)):KT H' kvs xs:=
 Paired.eX r λ_ _ z=>{z.1,ht _ _ z.2.1,z.2.2}
section
variable{P:Program}{w:Rh}{H:Hp}{h:Rp}{a:Q1}
theorem Jp{u:HO}(ok:Ă P w H h)(e:Rd H a u):df P w H h a u:=e.ok ok
theorem qp{kvs:List (Key×V)}(ok:Ă P w H h)(e:Rd H a (.dK kvs)):kvs.length<=sizeLine/\(a==Se)=false/\∃vs,KV kvs vs/\h.DictOf (cw P w) a vs:=
 show df P w H h a (.dK kvs)from Jp ok e
theorem BC{kvs:List (Key×V)}(ok:Ă P w H h)(e:H a=Xb (.dK kvs)):kvs.length<=sizeLine/\(a==Se)=false/\∃vs,KV kvs vs/\h.DictOf (cw P w) a vs:=qp ok (.inl e)
theorem tX{ks:List Key}(ok:Ă P w H h)(e:H a=Xb (.tup (ks.map kV))):(U1 (cw P w)).is h ks a:=by
 obtain⟨_,Â,r,o,h1,h2,n,h3⟩:=(show df P w H h a (.tup (ks.map kV))from ok a _ e);exact⟨o,Â.toArray,n,h1,h2,h3,by simpa using wd r⟩
theorem yO{kvs:List (List Key×V)}(ok:Ă P w H h)(e:Rd H a (.dT kvs)):kvs.length<=sizeLine/\(a==Se)=false/\
  ∃xs,KT H kvs xs/\h.DictOfH (U1 (cw P w)) a xs:=by
 obtain⟨z,y,xs,r,o,es,ep,h1,h2,h3,h4,h5⟩:=(show df P w H h a (.dT kvs)from Jp ok e)
 refine{z,y,xs,r,o,es,ep,h1,h2,h3,h4,λx hx=>?_,h5}
 have all:∀{l:List (List Key×V)}{m:List (List Key×Q1×Q0)},KT H l m->∀x∈m,(U1 (cw P w)).is h x.1 x.2.1:=by
  intro l m q;induction q with
  |nil=>intro x hx;exact nomatch hx
  |@cons p q ps qs hq t ih=>
   intro x hx;rcases Ob.mp hx with e|hx
   ·subst e;exact tX ok (by rw[<-hq.1];exact hq.2.1)
   exact ih x hx
 exact all r x hx
theorem MF{kvs:List (List Key×V)}(ok:Ă P w H h)(e:H a=Xb (.dT kvs)):kvs.length<=sizeLine/\(a==Se)=false/\
  ∃xs,KT H kvs xs/\h.DictOfH (U1 (cw P w)) a xs:=yO ok (.inl e)
end
def mB(H:Hp)(a:Q1)(y:V)(r:Option V):Prop:=
 (∃kvs k,Rd H a (.dK kvs)/\y=kV k/\r=cK kvs k)\/∃kvs k b,Rd H a (.dT kvs)/\y=.ref b/\H b=Xb (.tup (k.map kV))/\r=cK kvs k
def fS(H:Hp)(a:Q1)(y v:V)(H':Hp):Prop:=
 (∃kvs k,H a=Xb (.dK kvs)/\y=kV k/\kvs.length<sizeLine/\H'=upd H a (.dK (Xi kvs k v)))\/
 ∃kvs k b,H a=Xb (.dT kvs)/\y=.ref b/\H b=Xb (.tup (k.map kV))/\kvs.length<sizeLine/\H'=upd H a (.dT (Xi kvs k v))
theorem mB.k{H:Hp}{a:Q1}{kvs:List (Key×V)}{k:Key}(e:H a=Xb (.dK kvs)):mB H a (kV k) (cK kvs k):=.inl ⟨kvs,k,.inl e,rfl,rfl⟩
theorem fS.k{H:Hp}{a:Q1}{kvs:List (Key×V)}{k:Key}{v:V}(e:H a=Xb (.dK kvs))(hl:kvs.length<sizeLine):fS H a (kV k) v (upd H a (.dK (Xi kvs k v))):=.inl ⟨kvs,k,e,rfl,hl,rfl⟩
section
variable{X:Cx}{pins:List (Q1×Obj)}{B:St}{H:Hp}{s:Q3}{a:Q1}{y v:V}{u r:Q0}{o:Option V}{A:Rv}{E:Q0->Q3->Prop}
theorem Inv.big(I:Inv X pins B H s):Se<s.heap.objs.size:=by
 have h:Rm<s.heap.objs.size:=(I.mod.glob.keeps I.bk).lt;exact Nat.lt_trans ∅ h
theorem CY{Q:Q0->Q3->Prop}(hu:A.units+1<Sy)(I:Inv X pins B H s)(g:mB H a y (Xb v))(ry:Xh y u)(h:∀w' s',Inv X pins B H s'->Xh v w'->Q w' s') :
  wpAny (Ri X.prog X.w) A (Uc (.ref a) u) Q E s:=by
 rcases g with⟨kvs,k,e,ey,l⟩|⟨kvs,k,b,e,ey,eb,l⟩
 ·subst ey;obtain⟨z,hd,vs,rel,dd⟩:=qp I.Ç e;obtain⟨w',hw,Ϯ⟩:=oH.some_of (v:=v) (o:=valueAt vs k) (by rw[l];exact rel.val k);exact wpAny_getItem_of (u9 ry) dd.mapOf hw (h w' _ (I.tok _) Ϯ)
 subst ey
 cases (show u=Rn b from ry)
 obtain⟨z,hd,xs,rel,dd⟩:=yO I.Ç e
 obtain⟨w',hw,Ϯ⟩:=oH.some_of (v:=v) (o:=(Wh xs k).map (·.2)) (by rw[l];exact rel.val k)
 obtain⟨p,hp,ϵ⟩:=PL.mp hw
 refine wpAny_getItem_heap (S7 hu) (tX I.Ç eb) dd hp ?_
 rw[ϵ]
 exact h w' _ (I.tok _) Ϯ
theorem NH{Q:Q0->Q3->Prop}(hu:A.units+1<Sy)(I:Inv X pins B H s)(g:mB H a y o)(ry:Xh y u)(h:∀s',Inv X pins B H s'->Q (.bool o.isSome) s') :
  wpAny (Ri X.prog X.w) A (Rk .In u (.ref a)) Q E s:=by
 rcases g with⟨kvs,k,e,ey,l⟩|⟨kvs,k,b,e,ey,eb,l⟩
 ·subst ey;obtain⟨z,hd,vs,rel,dd⟩:=qp I.Ç e;refine wpAny_in_of (u9 ry) hd dd.mapOf ?_;rw[<-(rel.val k).kT,<-l];exact h _ (I.tok _)
 subst ey
 cases (show u=Rn b from ry)
 obtain⟨z,hd,xs,rel,dd⟩:=yO I.Ç e
 refine wpAny_in_heap (S7 hu) (tX I.Ç eb) hd dd ?_
 have q:=(rel.val k).kT
 rw[Qr]at q
 rw[<-q,<-l]
 exact h _ (I.tok _)
theorem IM{Q:Q0->Q3->Prop}(hu:A.units+1<Sy)(I:Inv X pins B H s)(g:mB H a y o)(ry:Xh y u)(h:∀s',Inv X pins B H s'->Q (.bool (!o.isSome)) s') :
  wpAny (Ri X.prog X.w) A (Rk .NotIn u (.ref a)) Q E s:=by
 rcases g with⟨kvs,k,e,ey,l⟩|⟨kvs,k,b,e,ey,eb,l⟩
 ·subst ey;obtain⟨z,hd,vs,rel,dd⟩:=qp I.Ç e;refine wpAny_notIn_of (u9 ry) hd dd.mapOf ?_;rw[<-(rel.val k).kT,<-l];exact h _ (I.tok _)
 subst ey
 cases (show u=Rn b from ry)
 obtain⟨z,hd,xs,rel,dd⟩:=yO I.Ç e
 refine wpAny_notIn_heap (S7 hu) (tX I.Ç eb) hd dd ?_
 have q:=(rel.val k).kT
 rw[Qr]at q
 rw[<-q,<-l]
 exact h _ (I.tok _)
theorem ql{h':Rp}{t':Nat}{ob:HO}(I:Inv X pins B H s)(mu:Mut (H a))(hs:SK a s.heap h')(he:∃q,h'.get? a=Xb q)(new:df X.prog X.w (upd H a ob) h' a ob) :
  Inv X pins B (upd H a ob) { s with heap:=h',toks:=t' }:=
 I.write (x:=a) (e:=a) mu (.inl rfl) (λb q hb z=>(hs.2 b hb).trans z) he new
theorem tV{P:Program}{w:Rh}{H':Hp}{h':Rp}{kvs:List (Key×V)}{vs:List (Key×Q0)}(z:kvs.length<=sizeLine)(hd:(a==Se)=false)(rel:KV kvs vs)(dd:h'.DictOf (cw P w) a vs) :
  df P w H' h' a (.dK kvs):=⟨z,hd,vs,rel,dd⟩
theorem Du{H':Hp}{Q:Unit->Q3->Prop}(hu:A.units+1<Sy)(I:Inv X pins B H s)(g:fS H a y v H')(ry:Xh y u)(rv:Xh v r)(h:∀s',Inv X pins B H' s'->Q Unit.unit s') :
  wpAny (Ri X.prog X.w) A (setItem (.ref a) u r) Q E s:=by
 rcases g with⟨kvs,k,e,ey,l,eH⟩|⟨kvs,k,b,e,ey,eb,l,eH⟩
 ·subst ey eH;obtain⟨z,hd,vs,rel,dd⟩:=BC I.Ç e;have hz:vs.length<=sizeLine:=by rw[<-rel.length];exact z
  have hl:(Xi kvs k v).length<=sizeLine:=by have:=jD kvs k v;lia
  refine wpAny_setItem_pairs (hsz:=hz) (u9 ry) dd λh' ϟ hs=>h _ ?_;have he:∃q,h'.get? a=Xb q:=let ⟨q,_,_,hq,_⟩:=ϟ;⟨q,hq⟩
  exact ql I (by rw[e];exact Oy) hs he (tV hl hd (rel.put k rv) ϟ)
 subst ey eH
 cases (show u=Rn b from ry)
 obtain⟨z,hd,xs,rel,dd⟩:=MF I.Ç e
 have hz:xs.length<=sizeLine:=by rw[<-Q7 rel];exact z
 have hl:(Xi kvs k v).length<=sizeLine:=by have:=jD kvs k v;lia
 refine wpAny_setItem_heap (hsz:=hz) (S7 hu) (tX I.Ç eb) dd λh' ϟ hs=>h _ ?_
 obtain⟨q,es,ep,hq,h2,h3,h4,_,h5⟩:=ϟ
 refine ql I (by rw[e];exact Oy) hs ⟨q,hq⟩ {hl,hd,_,(rel.put k eb rv).keeps λc ys ec=>?_,q,es,ep,hq,h2,h3,h4,h5}
 rw[aM (LW ec e (λz=>nomatch z))]
 exact ec
end
section
variable{X:Cx}{pins:List (Q1×Obj)}{B:St}{H:Hp}{s:Q3}{a:Q1}{kvs:List (Key×V)}{k:Key}{u:Q0}{A:Rv}{E:Q0->Q3->Prop}
theorem LP{Q:Q0->Q3->Prop}(I:Inv X pins B H s)(e:Rd H a (.dK kvs))(h:∀t s',Inv X pins B H s'->Q (.int kvs.length t) s'):wpAny (Ri X.prog X.w) A (call (.builtin "len") [.ref a]) Q E s:=by
 obtain⟨z,hd,vs,rel,dd⟩:=qp I.Ç e;refine call_len_dict hd dd (by rw[<-rel.length];rw[SO]at z;lia) ?_;rw[<-rel.length];exact h _ _ (I.tok _)
end
theorem yz{X:Cx}{pins:List (Q1×Obj)}{B:St}{H:Hp}{s:Q3}{a:Q1}{y:V}{o:Option V}(I:Inv X pins B H s)(g:mB H a y o):s.TypeIs (.ref a) "dict":=by
 rcases g with⟨kvs,k,e,_,_⟩|⟨kvs,k,b,e,_,_,_⟩
 ·obtain⟨_,_,vs,_,dd⟩:=qp I.Ç e;exact dd.typeIs
 obtain⟨_,_,xs,_,dd⟩:=yO I.Ç e;exact dd.typeIs
section
variable{X:Cx}{o i e value:Expr}{pos pos' tpos:Pos}{td ty tv:TE}
end
theorem tY{P:Program}{w:Rh}{H:Hp}(h:Rp)(hb:Se<h.objs.size):df P w H (h.push { cls:=.type "dict",data:=.dict #[] }) h.objs.size (.dK []):=
 {Oj _,beq_eq_false_iff_ne.mpr (Pn (OD hb)),[],.nil,Wk h}
def JM:TE:=λ_ H Q=>∀p,H p=Xc->Q (.ref p) (upd H p (.dK []))
section
variable{X:Cx}{pos:Pos}
theorem qw:PE X (.Dict [] [] pos) JM:=λpins s B H Q I h=>
 wpAny_Dict_empty {.ref s.heap.objs.size,_,I.laid (a:=s.heap.objs.size) (o:=.dK []) (t':=s.toks) (λ_ _ q=>Q5 _ q) (Oc _) (tY s.heap I.big),rfl,h _ (I.Ç.fresh (Oc _))}
end
def Bd:List (TE×TE)->St->Hp->(List (V×V)->Hp->Prop)->Prop
 | [],_,H,Q=>Q [] H
 | (tk,tv)::r,B,H,Q=>tk B H λx H1=>tv B H1 λy H2=>Bd r B H2 λps H3=>Q ((x,y)::ps) H3
abbrev VV:List (V×V)->List (Q0×Q0)->Prop:=Paired λp q=>Xh p.1 q.1/\Xh p.2 q.2
def PPs(X:Cx)(pos:Pos)(keys:List (Option Expr))(values:List Expr)(ϧ:List (TE×TE)):Prop:=
 ∀(pins:List (Q1×Obj))(s:Q3)(B:St)(H:Hp)(Q:List (V×V)->Hp->Prop),Inv X pins B H s->Bd ϧ B H Q->
  wpAny (Ri X.prog X.w) X.A (evalPairs (pairTrees keys values X.env pos)) (λvs s'=>∃ps H',Inv X pins B H' s'/\VV ps vs/\Q ps H') X.xe s
theorem G1{X:Cx}{pos:Pos}:PPs X pos [] [] []:=λpins s B H Q I h=>pairTrees_nil_walk {[],H,I,.nil,h}
theorem nB{X:Cx}{pos:Pos}{k v:Expr}{ks:List (Option Expr)}{vs:List Expr}{tk tv:TE}{ϧ:List (TE×TE)}(hk:PE X k tk)(hv:PE X v tv)(hr:PPs X pos ks vs ϧ) :
  PPs X pos (Xb k::ks) (v::vs) ((tk,tv)::ϧ):=λpins s B H Q I h=>
 pairTrees_cons_walk (Ë (hk pins s B H _ I h) λu s1 ⟨x,H1,I1,rx,q1⟩=>Ë (hv pins s1 B H1 _ I1 q1) λw2 s2 ⟨y,H2,I2,ry,q2⟩=>
  Ë (hr pins s2 B H2 _ I2 q2) λws s3 ⟨ps,H3,I3,rel,q3⟩=>{(x,y)::ps,H3,I3,.cons ⟨rx,ry⟩ rel,q3})
def bL(kvs more:List (Key×V)):List (Key×V):=more.foldl (λacc kv=>Xi acc kv.1 kv.2) kvs
theorem KV.merge:∀{more:List (Key×V)}{rs:List (Key×Q0)}{kvs:List (Key×V)}{vs:List (Key×Q0)},KV more rs->KV kvs vs->KV (bL kvs more) (merged vs rs):=by
 intro more rs kvs vs r;unfold KV at r;induction r generalizing kvs vs with
 |nil=>intro q;exact q
 |@cons p q ps qs h t ih=>
  intro r0;have e:KV (Xi kvs p.1 p.2) (stored vs q.1 q.2):=by
   have:=r0.put p.1 h.2;rw[<-h.1];exact this
  exact ih e
theorem jK:∀(more kvs:List (Key×V)),(bL kvs more).length<=kvs.length+more.length
 | [],kvs=>by show kvs.length<=kvs.length+0;lia
 |p::r,kvs=>by
  have h1:=jK r (Xi kvs p.1 p.2);have h2:=jD kvs p.1 p.2;show(bL (Xi kvs p.1 p.2) r).length<=_;rw[OE];lia
theorem uS{P:Program}{w:Rh}:∀{kvs:List (Key×V)}{ws:List (Q0×Q0)},VV (kvs.map λkv=>(kV kv.1,kv.2)) ws->∃rs,Carries (cw P w) ws rs/\KV kvs rs
 | [],_,r=>by rw[P2]at r;cases r;exact{[],Oy,.nil}
 |p::kvs,_,r=>by
  rw[Ox]at r;cases r with
  |@cons a b as bs h t=>
   obtain⟨rs,c,q⟩:=uS (P:=P) (w:=w) t;obtain⟨b1,b2⟩:=b;exact{(p.1,b2)::rs,⟨u9 h.1,rfl,c⟩,.cons ⟨rfl,h.2⟩ q}
def Mb(ϧ:List (TE×TE)):TE:=λB H Q=>∀p,H p=Xc->Bd ϧ B (upd H p (.dK [])) λps H2=>H2 p=Xb (.dK [])/\∃kvs:List (Key×V),ps=kvs.map (λkv=>(kV kv.1,kv.2))/\kvs.length<=15/\Q (.ref p) (upd H2 p (.dK (bL [] kvs)))
theorem HS{X:Cx}{pos:Pos}{keys:List (Option Expr)}{values:List Expr}{ϧ:List (TE×TE)}(h:PPs X pos keys values ϧ)(ų:keys.all (·.isSome)=true)(hl:keys.length=values.length)(h0:keys≠[])
  (h15:keys.length<=15):PE X (.Dict keys values pos) (Mb ϧ):=by
 intro pins s B H Q I q
 have hn:=I.Ç.fresh (Oc s.heap.objs.size)
 have I1:=I.laid (a:=s.heap.objs.size) (o:=.dK []) (h':=s.heap.push { cls:=.type "dict",data:=.dict #[] }) (t':=s.toks) (λ_ _ q=>Q5 _ q) (Oc _) (tY s.heap I.big)
 refine wpAny_Dict_walk (knd:=cw X.prog X.w) ų hl h0 h15 (Ë (h pins _ B _ _ I1 (q _ hn)) λws s2 z9=>?_);obtain⟨ps,H2,I2,rel,e,kvs,ep,lk,q2⟩:=z9
 subst ep
 obtain⟨rs,c,rk⟩:=uS (P:=X.prog) (w:=X.w) rel
 obtain⟨z,hd,vs0,r0,dd⟩:=BC I2.Ç e
 cases r0
 refine{rs,c,dd,λh' ϟ hs=>{.ref s.heap.objs.size,_,?_,rfl,q2}}
 have hz:(bL [] kvs).length<=sizeLine:=by
  have h1:=jK kvs [];rw[Pf]at h1;rw[SO];lia
 have he:∃q,h'.get? s.heap.objs.size=Xb q:=let ⟨q,_,_,hq,_⟩:=ϟ;⟨q,hq⟩
 exact ql I2 (by rw[e];exact Oy) hs he (tV hz hd (rk.merge .nil) ϟ)
structure M1(X:Cx)(o:Expr)(m:Str)(apos:Pos)(e:Expr)(Ñ:Pos):Prop where
 base:RS o m X.env (RB o X.env)=RB o X.env
 few:((RC Ñ (Q8 [e] X.env)).all (λx=>!x.1)&&(Sz Ñ (RQ [] X.env)).all (λx=>x.1.isSome)
  &&decide (([e]:List Expr).length+([]:List SU).length+(if([]:List SU).isEmpty then 0 else 1)<30))=true
 line:(apos.endLine==Ñ.line)=true
 trees:RC Ñ (Q8 [e] X.env)=[(false,RB e X.env)]
structure M2(X:Cx)(o:Expr)(m:Str)(apos:Pos)(e f:Expr)(Ñ:Pos):Prop where
 base:RS o m X.env (RB o X.env)=RB o X.env
 few:((RC Ñ (Q8 [e,f] X.env)).all (λx=>!x.1)&&(Sz Ñ (RQ [] X.env)).all (λx=>x.1.isSome)
  &&decide (([e,f]:List Expr).length+([]:List SU).length+(if([]:List SU).isEmpty then 0 else 1)<30))=true
 line:(apos.endLine==Ñ.line)=true
 trees:RC Ñ (Q8 [e,f] X.env)=[(false,RB e X.env),(false,RB f X.env)]
section
variable{X:Cx}{pins:List (Q1×Obj)}{B:St}{H:Hp}{s:Q3}{a:Q1}{y d:V}{u r:Q0}{o:Option V}{A:Rv}{E:Q0->Q3->Prop}
end
section
variable{X:Cx}{o e f:Expr}{apos Ñ:Pos}{td ty tx:TE}
end
section
variable{X:Cx}{pins:List (Q1×Obj)}{B:St}{H:Hp}{s:Q3}{a:Q1}{kvs:List (Key×V)}{A:Rv}{E:Q0->Q3->Prop}
end
section
variable{X:Cx}{pins:List (Q1×Obj)}{B:St}{H:Hp}{s:Q3}{a:Q1}{y:V}{u:Q0}{A:Rv}{E:Q0->Q3->Prop}
end
section
variable{X:Cx}
theorem zF(hu:X.A.units+64<Sy):IxR X (λx y H Q=>∃a v,x=.ref a/\mB H a y (Xb v)/\Q v H):=by
 intro value slice pins s B H x y v u Q I rx ry h hs;obtain⟨a,z,rfl,g,q⟩:=h;cases rx;have hT:=yz I g;unfold Vg;refine QZ ?_;rw[getitemInPython_of_ne hT.not_modules];refine QZ (Wl hT PySem.F.slot_dict_getitem.lookup ?_);have h₂:wpAny (Ri X.prog X.w) X.A (Uc (.ref a) u) (EP X pins B Q) X.xe s:=CY () I g ry λw' s3 I3 Ϯ=>⟨z,H,I3,Ϯ,q⟩;have fin:wpAny (Ri X.prog X.w) X.A (subscripted slice false (.ref a) u) (λr s₃=>wpAny (Ri X.prog X.w) X.A (letTemporaryGo value (.ref a) r>>=λ_=>pure r) (EP X pins B Q) X.xe s₃) X.xe s:=by
  rw[hs];exact wpAny_operating (Su h₂ (λr s₃ h₃=>QZ (wpAny_letTemporaryGo (Q4 h₃))) λ_ _ x=>x)
 first
  |exact Q4 (QZ fin)
  |exact QZ (Q4 (QZ fin))
  |exact QZ fin
inductive dgI(p:Q1)(y:V)(H:Hp)(Q:VK):Prop
 |mk (v) (h:mB H p y (Xb v)) (q:Q v H):dgI p y H Q
def Mz(K:Q6):R2:=λx y H Q=>match x,y with
 | .ref p,.int i=>ixS K p i H Q\/dgI p (.int i) H Q
 | .ref p,.str k=>dgI p (.str k) H Q
 | .str z,.int i=>∃c,z.length<=sizeLine/\Ġ z.cps.toList i=Xb c/\Q (.str ⟨#[c]⟩) H
 |_,_=>False
theorem Jx(hu:X.A.units+64<Sy):IxR X (Mz X.K):=by
 intro value slice pins s B H x y v u Q I rx ry h hs;cases x with
 |ref p=>
  cases y with
  |int i=>
   rcases h with h|⟨w,g,q⟩
   ·exact F1 value slice pins s B H _ _ v u Q I rx ry h hs
   exact zF hu value slice pins s B H _ _ v u Q I rx ry ⟨p,w,rfl,g,q⟩ hs
  |str k=>
   obtain⟨w,g,q⟩:=h;exact zF hu value slice pins s B H _ _ v u Q I rx ry ⟨p,w,rfl,g,q⟩ hs
  |_=>exact(show False from h).elim
 |str z=>
  cases y with
  |int i=>exact F1 value slice pins s B H _ _ v u Q I rx ry h hs
  |_=>exact(show False from h).elim
 |_=>cases y<;>exact(show False from h).elim
theorem yE(hu:X.A.units+64<Sy):Ec X (λo i v H Q=>∃a H',o=.ref a/\fS H a i v H'/\Q H'):=by
 intro pins s B H o i v ov iv u Q I ro ri rv h;obtain⟨a,H',rfl,g,q⟩:=h;cases ro;exact Du () I g ri rv λs4 I4=>⟨H',I4,q⟩
inductive dpI(p:Q1)(y v:V)(H:Hp)(Q:Hp->Prop):Prop
 |mk (H') (h:fS H p y v H') (q:Q H'):dpI p y v H Q
inductive stL(p:Q1)(k:Int)(v:V)(H:Hp)(Q:Hp->Prop):Prop
 |mk (xs j) (h0:H p=Xb (.lst xs)) (h1:π xs.length k=Xb j) (q:Q (upd H p (.lst (xs.set j v)))):stL p k v H Q
def MG:Hh:=λo i v H Q=>match o,i with
 | .ref p,.int k=>stL p k v H Q\/dpI p (.int k) v H Q
 | .ref p,.str k=>dpI p (.str k) v H Q
 |_,_=>False
theorem cI(hu:X.A.units+64<Sy)(hl:Ec X Je):Ec X MG:=by
 intro pins s B H o i v ov iv u Q I ro ri rv h;cases o with
 |ref p=>
  cases i with
  |int k=>
   rcases h with⟨xs,j,h1,h2,q⟩|⟨H',g,q⟩
   ·exact hl pins s B H _ _ v ov iv u Q I ro ri rv ⟨p,xs,k,j,rfl,rfl,h1,h2,q⟩
   exact yE hu pins s B H _ _ v ov iv u Q I ro ri rv ⟨p,H',rfl,g,q⟩
  |str k=>
   obtain⟨H',g,q⟩:=h;exact yE hu pins s B H _ _ v ov iv u Q I ro ri rv ⟨p,H',rfl,g,q⟩
  |_=>exact(show False from h).elim
 |_=>cases i<;>exact(show False from h).elim
theorem MW(hu:X.A.units+64<Sy):Ô X (Rk .In) (λx y H Q=>∃a o,y=.ref a/\mB H a x o/\Q (.bl o.isSome) H):=by
 intro pins s B H x y v u Q I rx ry h;obtain⟨a,o,rfl,g,q⟩:=h;cases ry;exact NH () I g rx λs3 I3=>⟨.bl o.isSome,H,I3,rfl,q⟩
theorem EH(hu:X.A.units+64<Sy):Ô X (Rk .NotIn) (λx y H Q=>∃a o,y=.ref a/\mB H a x o/\Q (.bl (!o.isSome)) H):=by
 intro pins s B H x y v u Q I rx ry h;obtain⟨a,o,rfl,g,q⟩:=h;cases ry;exact IM () I g rx λs3 I3=>{.bl (!o.isSome),H,I3,rfl,q}
theorem DW(hu:X.A.units+64<Sy):Ô X (Rk .In) (λx y H Q=>fIn X.K false x y H Q\/∃a o,y=.ref a/\mB H a x o/\Q (.bl o.isSome) H):=NJ.or (MW hu)
theorem u4(hu:X.A.units+64<Sy):Ô X (Rk .NotIn) (λx y H Q=>fIn X.K true x y H Q\/∃a o,y=.ref a/\mB H a x o/\Q (.bl (!o.isSome)) H):=HZ.or (EH hu)
theorem J0:eK X (.builtin "len") (λxs H Q=>∃a kvs,xs=[.ref a]/\Rd H a (.dK kvs)/\Q (.int (kvs.length:Nat)) H):=by
 intro pins s B H xs us Q I r h;obtain⟨a,kvs,rfl,e,q⟩:=h;obtain⟨u,rfl,rfl⟩:=Xq r;exact LP I e λt s' I'=>{.int _,H,I',{_,rfl},q}
end
end L2
namespace PySem
open Sem (wp)
section
variable{prog:Program}{w:Rh}{A:Rv}{E:Q0->Q3->Prop}{s:Q3}
theorem yc:typeLookup (.type "list") "keys"=pure Xc:=am_miss_of_fast (by kernel_rfl)
theorem yo(hx:s.heap.get? a=Xb o)(hc:o.cls=.type "list")(hdat:o.data=.seq xs k)(hd:o.dict=Xc)(hA:A.handled=Xc)
  (h:∀h' tk,(∀b ob,s.heap.get? b=Xb ob->h'.get? b=Xb ob)->Q Xc { s with heap:=h',toks:=tk }):wpAny (Ri prog w) A (getAttr? (.ref a) "keys") Q E s:=by
 obtain⟨c,dct,dat,sl⟩:=o
 simp only at hc hdat hd
 subst hc hdat hd
 obtain⟨hp,g,d,tk,os⟩:=s
 have hT:∀tk',(⟨hp,g,d,tk',os⟩:Q3).TypeIs (.ref a) "list":=λ_=>{_,hx,rfl}
 have f1:=sub_AttributeError
 have f3:=F.slot_list_getattribute.lookup
 have f4:=F.slot_list_getattribute.bind (.ref a)
 have f5:=am_list_getattr_none
 have hmiss:=yc
 have hname:(["__module__","__name__","__qualname__","__doc__","__annotations__"]:List Str).contains "keys"=false:=by decide+kernel
 unfold getAttr? getAttrBy? getAttrBy
 repeat (any_goals (first|assumption|exact hT _|((with_reducible show wpAny _ _ (call (Value.builtin "list.__getattribute__") _ _) _ _ _);refine Tw F.slot_list_getattribute (hT _) am_entry_list_getattribute (F.args_list_getattribute_2 _ _) (meets_getattribute_miss_list a xs k sl "keys" _ hmiss hname ∅) ⟨hx,hA,λh' tk' e Ϙ=>?_⟩)|wp_step))
 obtain⟨t',u',he⟩:=Ϙ.there
 have hTe:(⟨h',g,d,tk',os⟩:Q3).TypeIs (.ref e) "AttributeError":={_,he,rfl}
 show wpAny _ _ (Vw _ _ _ _ _ _ _) _ _ _
 unfold Vw
 repeat (any_goals (first|assumption|wp_step))
 exact h _ _ Ϙ.keeps
end
end PySem
namespace L2
open PySem PySem.Spec PyProof.Rows
theorem ni:WJ table "dict.update.loop"=Xb S4.«dict.update.loop»:=V5 (by kernel_rfl)
theorem fZ:plainId "dict.update.loop"=true:=by decide+kernel
section
variable{X:Cx}{pins:List (Q1×Obj)}{B:St}{H0:Hp}{A:Rv}
theorem pair_items(h:s.heap.IsTuple t Â)(q:Q Â.toList s):wpAny (Ri prog w) A (UH (.ref t)) Q E s:=by
 obtain⟨o,ho,hc,n,hd⟩:=h;unfold UH;refine QZ (Tj ⟨o,ho,hc⟩ ?_);rw[if_pos ∅];refine QZ ?_;obtain⟨c,dct,dat,sl⟩:=o;simp only at hc hd;subst hc hd;obtain⟨hp,g,d,tk,os⟩:=s;repeat (any_goals (first|assumption|wp_step))
theorem Bj(kvs:List (Key×V))(i:Nat)(h:kvs[i]?=Xb (k,v)):bL [] (kvs.take (i+1))=Xi (bL [] (kvs.take i)) k v:=by
 unfold bL;rw[OG,h,VN];rfl
theorem EX(hc:X.calm=true){l p it:Q1}{ps:List Q1}{kvs:List (Key×V)}{R:W8->Q3->Prop}(hA:A.handled=Xc)(hl:À X.K H0 l (ps.map V.ref))(hlen:ps.length=kvs.length)(hn:kvs.length<=1000)
  (hps:∀(i:Nat) t k v,ps[i]?=Xb t->kvs[i]?=Xb (k,v)->É X.K H0 t [kV k,v]) (hp:H0 p=Xc)
  (fin:∀s',Inv X pins B (upd H0 p (.dK (bL [] kvs))) s'->R (.ok (.ret .none)) s') :
  ∀n i s,n+i=ps.length->Inv X pins B (upd H0 p (.dK (bL [] (kvs.take i)))) s->um X pins (upd H0 p (.dK (bL [] (kvs.take i)))) it->s.heap.IsListIter it l i->
   codeAny (Ri X.prog X.w) A (.builtin "dict.update.loop" {[.ref p,.ref it,Ux i,.none],[]}) R s:=by
 intro n
 induction n with
 |zero=>
  intro i s hi I hf st
  refine Sg ni ?_
  rw[RR fZ _]
  have sm:=aq.upd hp (.dK (bL [] (kvs.take i)))
  obtain⟨Â,rv,pl,hz⟩:=I.list (sm.seq hl)
  have Ϛ:=rv.length
  rw[N3]at Ϛ
  obtain⟨f0,f1,f2,f3,f4,f5⟩:=hf
  unfold S4.«dict.update.loop»
  refine QZ (UK hA st pl.isList (by simp;lia) λh' eb=>?_)
  have I':Inv X pins B (upd H0 p (.dK (bL [] (kvs.take i)))) { s with heap:=h' }:=I.turned (t':=s.toks) (λb o hb e=>eb b o hb e) f0 f1 f3 f4 f5
  rw[Pa ()]at I'
  exact QZ (Q4 (Q4 (fin _ I')))
 |succ n ih=>
  intro i s hi I hf st
  refine Sg ni ?_
  rw[RR fZ _]
  have sm:=aq.upd hp (.dK (bL [] (kvs.take i)))
  obtain⟨Â,rv,pl,hz⟩:=I.list (sm.seq hl)
  have Ϛ:=rv.length
  rw[N3]at Ϛ
  obtain⟨t,ht⟩:∃t,ps[i]?=Xb t:={ps[i]'(()),Oa ()}
  obtain⟨⟨k,v⟩,hk⟩:∃kv,kvs[i]?=Xb kv:={kvs[i]'(()),Oa ()}
  obtain⟨u,hu1,hu2⟩:=rv.get (x:=.ref t) (i:=i) (by rw[Oi,ht];rfl)
  cases hu2
  obtain⟨f0,f1,f2,f3,f4,f5⟩:=hf
  unfold S4.«dict.update.loop»
  refine QZ (Uy st pl.isList (x:=.ref t) (by simpa using hu1) λh' ĥ sb=>?_)
  have I1:Inv X pins B (upd H0 p (.dK (bL [] (kvs.take i)))) { s with heap:=h' }:=I.turned (t':=s.toks) (λb o hb e=>(sb.2 b hb).trans e) f0 f1 f3 f4 f5
  obtain⟨jts,rj,pt,_⟩:=I1.tuple (sm.tup (hps i t k v ht hk))
  obtain⟨u1,u2,e12,r1,r2⟩:∃u1 u2,jts=[u1,u2]/\Xh (kV k) u1/\Xh v u2:=by
   cases rj with
   |cons r1 q=>cases q with
    |cons r2 q=>cases q;exact{_,_,rfl,r1,r2}
  subst e12
  refine QZ (wpAny_holding (QZ (wpAny_tryCatch (pair_items pt ?_))))
  show wpAny _ _ (TR [u1,u2] (dictSet p u1 u2)) _ _ _
  refine wpAny_holding ?_
  obtain⟨z,hd,vs,rel,dd⟩:=BC I1.Ç (av (H:=H0) (a:=p) (o:=.dK (bL [] (kvs.take i))))
  have hz':vs.length<=sizeLine:=by rw[<-rel.length];exact z
  have hlk:(bL [] (kvs.take i)).length<=1000:=by
   have:=jK (kvs.take i) [];rw[OH,Pf]at this;lia
  have hlp:(Xi (bL [] (kvs.take i)) k v).length<=sizeLine:=by
   have h1:=jD (bL [] (kvs.take i)) k v;have h2:=aH hlk;lia
  refine wpAny_dictSet_pairs (hsz:=hz') (u9 r1) dd λh2 ϟ hs=>?_
  have he:∃q,h2.get? p=Xb q:=let ⟨q,_,_,hq,_⟩:=ϟ;⟨q,hq⟩
  have I2:=ql (t':=s.toks+1) (ob:=.dK (Xi (bL [] (kvs.take i)) k v)) I1 (by rw[av];exact Oy) hs he (tV hlp hd (rel.put k r2) ϟ)
  rw[IP,<-Bj kvs i hk]at I2
  have hne:it≠p:=λz=>by rw[z,av]at f0;cases f0
  have f0':upd H0 p (.dK (bL [] (kvs.take (i+1)))) it=Xc:=by
   rw[aM hne]at f0⊢;exact f0
  refine Q4 {S3 fZ _,?_}
  have ec:((i:Int)+1)=((i+1:Nat):Int):=by push_cast;rfl
  rw[ec]
  exact ih (i+1) _ () I2 ⟨f0',f1,f2,f3,f4,f5⟩ (ĥ.at λo e=>(hs.2 it hne).trans e)
theorem p9(hc:X.calm=true:=by rfl):eK X (.type "dict") (λxs H Q=>∃(l:Q1)(ps:List Q1)(kvs:List (Key×V)),xs=[.ref l]/\À X.K H l (ps.map V.ref)/\ps.length=kvs.length/\kvs.length<=1000/\
  (∀(i:Nat) t k v,ps[i]?=Xb t->kvs[i]?=Xb (k,v)->É X.K H t [kV k,v])/\∀p,H p=Xc->Q (.ref p) (upd H p (.dK (bL [] kvs)))):=by
 intro pins s B H xs us Q I r h
 obtain⟨l,ps,kvs,rfl,hl,hlen,hn,hps,q⟩:=h
 obtain⟨u,rfl,rfl⟩:=Xq r
 have hA:=I.ok.hd hc
 have hp:=I.Ç.fresh (Oc s.heap.objs.size)
 have I1:=I.laid (a:=s.heap.objs.size) (o:=.dK []) (t':=s.toks) (h':=s.heap.push { cls:=.type "dict",data:=.dict #[] }) (λ_ _ q=>Q5 _ q) (Oc _) (tY s.heap I.big)
 refine callType_codes (Q₁:=λobj s₁=>obj=.ref s.heap.objs.size/\s₁={ s with heap:=s.heap.push { cls:=.type "dict",data:=.dict #[] } }) F.kt_called_dict (F.kt_typeCall_dict_1 _) F.entry_dict_init (kt_code_dict_new _ ⟨rfl,rfl⟩) ?_
 rintro obj s₁ ⟨rfl,rfl⟩
 have Ϸ:(s.heap.push { cls:=.type "dict",data:=.dict #[] }).DictOf (cw X.prog X.w) s.heap.objs.size []:=Wk s.heap
 have sm:=aq.upd hp (.dK [])
 obtain⟨Â,rv,pl,hz⟩:=I1.list (sm.seq hl)
 obtain⟨o,n,ho,hoc,hod,ő⟩:=id pl
 refine{Ϸ.typeIs,F.args_dict_init_2 _ _,?_}
 unfold S4.«dict.__init__»
 refine QZ ?_
 unfold Builtin.Dict.selfAndRest
 refine QZ (UL Ϸ.typeIs ?_)
 show wpAny _ _ (pure (s.heap.objs.size,[Rn l])) _ _ _
 refine Q4 ?_
 show wpAny _ _ (Uq "dict.__init__" s.heap.objs.size (.ref l) [] .none) _ _ _
 unfold Uq
 refine QZ (Tj ⟨o,ho,hoc⟩ ?_)
 rw[if_pos ∅]
 refine QZ (yo ho hoc ő hod hA λh2 tk2 k2=>?_)
 have I2:Inv X pins B (upd H s.heap.objs.size (.dK [])) { s with heap:=h2,toks:=tk2 }:=I1.kept (t':=tk2) k2
 rw[if_pos (show(Xc:Option Q0).isNone=true from rfl)]
 obtain⟨į,rv2,pl2,_⟩:=I2.list (sm.seq hl)
 refine QZ (Vx (QZ (Tn pl2.isList ?_)))
 refine Q4 {S3 fZ _,?_}
 have I3:=I2.kept (h':=h2.push { cls:=.type "list_iterator",data:=.fields #[.ref l,.int 0 0] }) (t':=tk2) λb o e=>Q5 _ e
 have fp:=I2.yY (H':=upd H s.heap.objs.size (.dK [])) (Oc _) (I2.Ç.fresh (Oc _))
 refine EX (X:=X) (H0:=H) (A:=X.A.in1) (p:=s.heap.objs.size) (kvs:=kvs) hc hA hl hlen hn hps hp (λs' I'=>?_) ps.length 0 _ rfl I3 fp {_,Rf _ rfl,rfl,rfl}
 exact{rfl,.ref s.heap.objs.size,_,I',rfl,q _ hp}
end
section
variable{X:Cx}{pins:List (Q1×Obj)}{B:St}{H:Hp}{s:Q3}
theorem Inv.Bw{h':Rp}{t':Nat}{ch:List Q1}(I:Inv X pins B H s)(hf:∀b∈ch,um X pins H b)(k:∀b o,b∉ch->s.heap.get? b=Xb o->h'.get? b=Xb o):Inv X pins B H { s with heap:=h',toks:=t' }:=by
 have nit:∀b u,H b=Xb u->b∉ch:=λb u e z=>by rw[(hf b z).1]at e;cases e
 refine I.step (g':=s.gens) (d':=s.drawn) (ch:=ch) (λb hb=>{(hf b hb).2.2.2.1,(hf b hb).2.1,(hf b hb).2.2.2.2.1,(hf b hb).2.2.2.2.2}) (λb o _ _ hc e _=>k b o hc e) (λb o _ _ hc e _=>⟨o.slots,k b o hc e⟩) (λ_ _ _ _ n=>n)
  (λb o hc e=>⟨o,k b o hc e⟩) (λ_ _ e=>e) (λ_ _ _ e=>e) (λb ps e=>{#[],by rw[e];simp}) (λm hm=>?_) (λb u e=>?_) I.bare
 ·obtain⟨o,es,ep,ho,r⟩:=hm;exact{o,es,ep,k _ o (λz=>(hf _ z).2.1 rfl) ho,r}
 refine(I.Ç b u e).vv (λc v hc q=>k c v ?_ q) (λ_ q=>q) λ_ _ q=>q;rcases hc with rfl|hc
 ·exact nit _ _ e
 exact nit _ _ hc
theorem Inv.Lx(I:Inv X pins B H s)(hf:um X pins H T)(hz:X.s₀.heap.objs.size<=T)(new:df X.prog X.w (upd H T u) s.heap T u):Inv X pins B (upd H T u) s:=by
 obtain⟨f0,f1,f2,f3,f4,f5⟩:=hf;have ne0:∀b o,X.s₀.heap.get? b=Xb o->b≠T:=λb o e=>OD (OA (Rc e) hz);have ϰ:∀b v,H b=Xb v->b≠T:=λb v e z=>by rw[z,f0]at e;cases e
 refine⟨I.ok,I.os,I.bare,⟨I.base.keep,I.base.slot,λb o e n hx=>by rw[aM (ne0 b o e)];exact I.base.free b o e n hx,I.base.there,λb xs e=>by
   have:=I.base.vy b xs e;rw[aM (ϰ b _ this)];exact this,λb o v e=>by
   have:=I.base.sD b o v e;rw[aM (ϰ b _ this)];exact this,λb ps e=>by
   obtain⟨more,q⟩:=I.base.vn b ps e;exact{more,by rw[aM (ϰ b _ q)];exact q}⟩,I.loc,I.cell,by rw[aM (Pn f1)];exact I.free,λx c e=>by rw[aM (f4 x c e)];exact I.kL x c e,
  λp hp=>by rw[aM (f5 p hp)];exact I.pin p hp,λb v e=>?_,I.len⟩
 by_cases hb:b=T
 ·subst hb;rw[av]at e;cases e;exact new
 rw[aM hb]at e;exact(I.Ç b v e).vv (λ_ _ _ q=>q) (λc q=>by rw[aM (ϰ c _ q)];exact q) λc xs q=>by rw[aM (ϰ c _ q)];exact q
theorem Inv.MX(I:Inv X pins B H s)(e:H a=Xb (.Ć o u))(hn:∀o u,X.H₀ a≠Xb (.Ć o u)):Inv X pins B (upd H a u) s:=by
 have nn:∀b,H b=Xc->b≠a:=λb q z=>by rw[z,e]at q;cases q
 have nt:∀b xs,H b=Xb (.tup xs)->b≠a:=λb xs q z=>by rw[z,e]at q;cases q
 have nw:∀b x,H b=Xb (.own x)->b≠a:=λb x q z=>by rw[z,e]at q;cases q
 have nb:∀b ps,H b=Xb (.δ ps)->b≠a:=λb x q z=>by rw[z,e]at q;cases q
 refine⟨I.ok,I.os,I.bare,⟨I.base.keep,I.base.slot,λb o q n hx=>by
   have:=I.base.free b o q n hx;rw[aM (nn b this)];exact this,I.base.there,λb xs q=>by
   have:=I.base.vy b xs q;rw[aM (nt b xs this)];exact this,λb o v q=>by
   have hb:b≠a:=λz=>hn o v (by rw[<-z];exact q);rw[aM hb];exact I.base.sD b o v q,λb ps q=>by
   obtain⟨more,r⟩:=I.base.vn b ps q;exact{more,by rw[aM (nb b _ r)];exact r}⟩,I.loc,I.cell,by rw[aM (nn _ I.free)];exact I.free,λx c q=>by rw[aM (nn _ (I.kL x c q))];exact I.kL x c q,
  λp hp=>by rw[aM (nn _ (I.pin p hp).2.1)];exact I.pin p hp,λb v q=>?_,I.len⟩
 by_cases hb:b=a
 ·subst hb;rw[av]at q;cases q;exact(I.Ç b _ e).2.vv (λ_ _ _ q=>q) (λc q=>by rw[aM (nw c _ q)];exact q) λc xs q=>by rw[aM (nt c _ q)];exact q
 rw[aM hb]at q;exact(I.Ç b v q).vv (λ_ _ _ q=>q) (λc q=>by rw[aM (nw c _ q)];exact q) λc xs q=>by rw[aM (nt c _ q)];exact q
theorem Inv.freeze(I:Inv X pins B H s)(e:H a=Xb u)(mu:Mut (H a))(ho:s.heap.get? a=Xb o):Inv X pins B (upd H a (.Ć o u)) s:=by
 have hk:=I.Ç a u e;have:=ql (a:=a) (h':=s.heap) (t':=s.toks) (ob:=.Ć o u) I mu {rfl,λ_ _=>rfl} ⟨o,ho⟩ {ho,?_}
 ·exact this
 have nw:∀b x,H b=Xb (.own x)->b≠a:=λb x q z=>by rw[z]at q;rw[q]at mu;exact mu
 have nt:∀b xs,H b=Xb (.tup xs)->b≠a:=λb xs q z=>by rw[z]at q;rw[q]at mu;exact mu
 exact hk.vv (λ_ _ _ q=>q) (λc q=>by rw[aM (nw c _ q)];exact q) λc xs q=>by rw[aM (nt c _ q)];exact q
end
def Itd(d:Q1)(o:Obj)(kvs:List (Key×V)):It:=
 {λi H=>H d=Xb (.Ć o (.dK kvs))/\i<kvs.length,λi H x H'=>H'=H/\∃k v,kvs[i]?=Xb (k,v)/\x=kV k,λi H=>H d=Xb (.Ć o (.dK kvs))/\kvs.length<=i}
theorem Jq(h:(cw P w).is k u=true):Xh (kV k) u:=by
 cases k with
 |inl i=>obtain⟨t,e⟩:=VC (show Wa i u=true from h);exact⟨t,e⟩
 |inr x=>obtain⟨t,e⟩:=U6 (show Vd x u=true from h);exact⟨t,e⟩
theorem DQ{P:Program}{w:Rh}{H:Hp}{h:Rp}{d:Q1}{o:Obj}{kvs:List (Key×V)}{vs:List (Key×Q0)}{ep:Nat}(dd:h.DictAt (cw P w) d vs ep)(ho:h.get? d=Xb o){h':Rp}(϶:h'.get? d=Xb o):h'.DictAt (cw P w) d vs ep:=by
 obtain⟨o2,es,e,r⟩:=dd;rw[ho]at e;cases e;exact⟨o,es,϶,r⟩
section
variable{X:Cx}
theorem Dz{P:Program}{w:Rh}{K:Q6}{tg:Expr}(d it:Q1)(o:Obj)(kvs:List (Key×V))(vs:List (Key×Q0))(ep:Nat)(rel:KV kvs vs)(hat:∀h:Rp,h.get? d=Xb o->h.DictAt (cw P w) d vs ep) :
  XA P w K tg (Itd d o kvs) [it] it (λi h=>h.IsKeyIter it d i vs.length ep) where
 mem:=by simp
 obj:=λi h st b hb=>by
  have e:b=it:=by simpa using hb
  subst e;obtain⟨o,e,c,d⟩:=st;exact{o,e,λv z=>by rw[d]at z;cases z}
 keep:=λi h h' st k=>by
  obtain⟨o,e,r⟩:=st;exact{o,k it (by simp) o e,r}
 item:=by
  intro X hP hw hK hc i pins s B H E I hf st hg;subst hP hw hK;obtain⟨e,í⟩:=hg;have hd:=(show df X.prog X.w H s.heap d (.Ć o (.dK kvs))from I.Ç d _ e).1;have hl:=rel.length;obtain⟨f0,f1,f2,f3,f4,f5⟩:=hf it (by simp);obtain⟨⟨k,v⟩,hx⟩:∃kv,vs[i]?=Xb kv:={vs[i]'(()),Oa ()};obtain⟨⟨k',v'⟩,Ϙ⟩:∃kv,kvs[i]?=Xb kv:={kvs[i]'(()),Oa ()};have hkk:k'=k:=by
   have:=congrArg (λl=>l[i]?) rel.keys;simp only[Oi,hx,Ϙ]at this;simpa using this
  subst hkk;refine wpAny_pyNext_dict_item st (hat _ hd) hx λkey h' Œ ĥ sb=>?_;have I1:Inv X pins B H { s with heap:=h' }:=I.turned (t':=s.toks) (λb o hb e=>(sb.2 b hb).trans e) f0 f1 f3 f4 f5;obtain⟨oi,ei,ci,di⟩:=id ĥ;exact⟨key,rfl,zc (s:={ s with heap:=h' }) ei ci di ∅ ⟨kV k',H,I1,Jq Œ,⟨rfl,k',v',Ϙ,rfl⟩,ĥ,λb hb=>(hf b hb).1⟩⟩
 done:=by
  intro X hP hw hK hc i pins s B H E I hf st hg;subst hP hw hK;obtain⟨e,í⟩:=hg;have hd:=(show df X.prog X.w H s.heap d (.Ć o (.dK kvs))from I.Ç d _ e).1;have hl:=rel.length;obtain⟨f0,f1,f2,f3,f4,f5⟩:=hf it (by simp);exact wpAny_pyNext_dict_end (I.ok.hd hc) st (hat _ hd) (by simp;lia) λh' eb=>{rfl,I.turned (t':=s.toks) (λb o hb e=>eb b o hb e) f0 f1 f3 f4 f5}
 self:=λ_ _ _ _ _ st h=>wpAny_pyIter_keyiter st h
end
theorem oQ{α β:Type}{F}:∀{l₁:List α}{l₂:List β},l₁.length=l₂.length->(∀(i:Nat) a b,l₁[i]?=Xb a->l₂[i]?=Xb b->F a b)->Paired F l₁ l₂
 | [],[],_,_=>.nil
 | [],_::_,h,_=>by simp at h
 |_::_,[],h,_=>by simp at h
 |x::xs,y::ys,h,f=>.cons (f 0 x y rfl rfl) (oQ (by simpa using h) λi a b ha hb=>f (i+1) a b (by simpa using ha) (by simpa using hb))
theorem CV{α β:Type}{F}{l₁:List α}{l₂:List β}(h:Paired F l₁ l₂):∀{i:Nat}{a:α}{b:β},l₁[i]?=Xb a->l₂[i]?=Xb b->F a b:=by
 induction h with
 |nil=>intro i a b h;simp at h
 |cons r t ih=>
  intro i a b ha hb;cases i with
  |zero=>simp only[Ur,VO]at ha hb;subst ha hb;exact r
  |succ j=>exact ih (by simpa using ha) (by simpa using hb)
section
variable{X:Cx}{tg:Expr}
def Cz(X:Cx)(d:Q1):Prop:=∀o u,X.H₀ d≠Xb (.Ć o u)
def LN(X:Cx)(tl:TE):TI:=λB H R=>tl B H λx H1=>∃d kvs,x=.ref d/\H1 d=Xb (.dK kvs)/\∀o,Cz X d->(kvs.map (·.1)).Nodup->R (Itd d o kvs) (upd H1 d (.Ć o (.dK kvs)))
theorem Ie(hl:PE X l tl):PI X tg l (LN X tl):=by
 intro pins s B H R I h;refine Ë (hl pins s B H _ I h) λv s1 z9=>?_;obtain⟨x,H1,I1,r1,q1⟩:=z9;obtain⟨d,kvs,e,hd,q⟩:=q1;subst e;cases r1;obtain⟨z,hs,vs,rel,dd⟩:=BC I1.Ç hd;obtain⟨ep,dat⟩:=dd.dictAt;obtain⟨o,es,ho,r⟩:=id dat;have hn:Cz X d:=λo u z=>by
  have:=I1.base.sD d o u z;rw[hd]at this;cases this
 refine wpAny_pyIter_dict hs dat ?_;have I2:=I1.freeze hd (by rw[hd];exact Oy) ho;have hfr:upd H1 d (.Ć o (.dK kvs)) s1.heap.objs.size=Xc:=by
  rw[aM (Py (Rc ho))];exact I1.Ç.fresh (Oc _)
 refine⟨s1.heap.objs.size,[s1.heap.objs.size],_,_,_,rfl,I2.kept (t':=s1.toks) λb o e=>Q5 _ e,
  Dz d _ o kvs vs ep rel (λh' h2=>DQ (H:=H1) (kvs:=kvs) dat ho h2),{_,Rf _ rfl,rfl,rfl},λb hb=>?_,q o hn (by rw[rel.keys];exact dat.nodup)⟩
 have e:b=s1.heap.objs.size:=by simpa using hb
 subst e;exact I1.yY (Oc _) hfr
def Jo(X:Cx)(D:Xv):St->Hp->Prop:=λB H=>∃d o kvs,Cz X d/\H d=Xb (.Ć o (.dK kvs))/\D.nx B (upd H d (.dK kvs))
def LI(X:Cx)(tl:TE)(g:TG)(tb:TS):TS:=λD B H=>tl B H λx H1=>∃d kvs,x=.ref d/\H1 d=Xb (.dK kvs)/\∀o,Cz X d->(kvs.map (·.1)).Nodup->∃Pv:Nat->St->Hp->Prop,Pv 0 B (upd H1 d (.Ć o (.dK kvs)))/\
 (∀i B H,i<=kvs.length->Pv i B H->H d=Xb (.Ć o (.dK kvs)))/\
 (∀i k v B H,kvs[i]?=Xb (k,v)->Pv i B H->g (kV k) B H λσ2 H2=>tb { D with nx:=Pv (i+1),ct:=Pv (i+1),bk:=Jo X D } σ2 H2)/\∀B H,Pv kvs.length B H->D.nx B (upd H d (.dK kvs))
theorem HI(hp:WW (Ri X.prog X.w) X.A X.env X.xe)(hc:X.calm=true)(hl:PE X l tl)(mono:∀B H (Q Q':V->Hp->Prop),(∀v H,Q v H->Q' v H)->tl B H Q->tl B H Q')
  (hg:PG X tg g) (hb:ď X body tb) (hs:∀x,foldedSetIterable l X.env x=pure x:=by intro _;rfl):PS X (.For tg l body [] pos) (LI X tl g tb):=by
 intro pins s B H D I h
 refine Ë (b6 hp hc (Ie hl) hg hb hs pins s B H { D with nx:=Jo X D } I ?_) λf s1 q=>?_
 ·refine mono B H _ _ (λx H1 q=>?_) h;obtain⟨d,kvs,e,hd,q⟩:=q;refine{d,kvs,e,hd,λo hn hnd=>?_};obtain⟨Pv,h0,hk,st,fin⟩:=q o hn hnd;refine{λi m B H=>m=kvs.length-i/\i<=kvs.length/\Pv i B H,{kvs.length,by simp,Oj _,h0},?_};rintro i m B H ⟨rfl,hi,p⟩;by_cases í:i<kvs.length
  ·refine .inr {⟨hk i B H hi p,í⟩,Pv (i+1),λB' H' p'=>{kvs.length-(i+1),(),rfl,í,p'},λx H' y=>?_};obtain⟨e,k,v,hx,y⟩:=y;subst e y;exact st i k v B _ hx p
  have e:i=kvs.length:=()
  subst e;exact .inl {{hk _ B H hi p,Oc _},d,o,kvs,hn,hk _ B H hi p,fin B H p}
 cases f with
 |next=>
  obtain⟨σ1,H1,I1,d,o,kvs,hn,e,q⟩:=q
  exact{σ1,_,I1.MX e hn,q}
 |cont=>exact q
 |brk=>exact q
 |ret v=>exact q
theorem Hr(hc:X.calm=true:=by rfl):eK X (.type "list") (λxs H Q=>∃d kvs,xs=[.ref d]/\Rd H d (.dK kvs)/\∀l,H l=Xc->Q (.ref l) (upd H l (.lst (kvs.map λkv=>kV kv.1)))):=by
 intro pins s B H xs us Q I r h;obtain⟨d,kvs,rfl,e,q⟩:=h;obtain⟨u,rfl,rfl⟩:=Xq r;obtain⟨z,hs,vs,rel,dd⟩:=qp I.Ç e;obtain⟨ep,dat⟩:=dd.dictAt;have hl:=rel.length;refine W.kdl_call (W.kdl_dict (knd:=cw X.prog X.w) (kvs:=vs) (ep:=ep) hs) (I.ok.hd hc) dat () λh' tk acc c hk hS ŀ=>?_;have hp:=I.Ç.fresh (Oc s.heap.objs.size);refine{.ref s.heap.objs.size,_,I.laid (a:=s.heap.objs.size) (o:=.lst (kvs.map λkv=>kV kv.1)) (t':=tk) hk (Oc _) {by rw[N3];exact z,acc.toList,c,?_,by simpa using hS},rfl,q _ hp};have hsz:acc.size=vs.length:=ŀ.1;refine oQ (by simp[hsz,hl]) λi x y hx hy=>?_;rw[Oi]at hx;obtain⟨k,v,hv,hk⟩:=ŀ.2 i y (by rw[<-Pd];exact hy);cases Ķ:kvs[i]? with
 |none=>rw[Ķ]at hx;cases hx
 |some kv=>
  rw[Ķ]at hx;have Ϙ:kV kv.1=x:=Q9 hx;have:=congrArg (λl=>l[i]?) rel.keys;simp only[Oi,Ķ,hv]at this;have hkk:kv.1=k:=by simpa using this
  rw[<-Ϙ,hkk];exact Jq hk
end
section
variable{prog:Program}{w:Rh}{K:Type}[DecidableEq K]{knd:KeyKind prog w K}{A:Rv}{E:Q0->Q3->Prop}{s:Q3}
theorem wb(hd:(d==Se)=false)(q:Q Unit.unit s):wpAny (Ri prog w) A (UM d) Q E s:=by
 unfold UM;rw[if_neg (by rw[hd];exact Of)];exact Q4 q
theorem AK(h:Pairs knd es Ĥ):valueAt Ĥ k=Xb v->∃j e,(es.findIdx? λe=>knd.is k e.key)=Xb j/\es[j]?=Xb e/\e.val=v:=by
 induction h with
 |nil=>intro z;cases z
 |@cons e kv es Ĥ h1 h2 t ih=>
  intro z;by_cases hk:kv.1=k
  ·subst hk;have:valueAt (kv::Ĥ) kv.1=Xb kv.2:=by simp[valueAt,OK]
   rw[this]at z;exact{0,e,by rw[Vy,if_pos h1],rfl,by rw[h2];exact Q9 z}
  have:valueAt (kv::Ĥ) k=valueAt Ĥ k:=by simp[valueAt,OK,hk]
  rw[this]at z;obtain⟨j,f,hj,hf,hv⟩:=ih z;have hn:¬ knd.is k e.key=true:=λq=>hk (knd.inj _ _ _ h1 q);exact{j+1,f,by rw[Vy,if_neg hn,hj];rfl,hf,hv}
theorem Ap{id a b kvs Ĥ Q}(hda:(a==Se)=false)(đ:(b==Se)=false)(ha:s.heap.DictOf knd a kvs)(hb:s.heap.DictOf knd b Ĥ)(hl:kvs.length=Ĥ.length)
  (hv:∀(i:Nat) k v,kvs[i]?=Xb (k,v)->∃v',valueAt Ĥ k=Xb v'/\UC A s v v' true) (q:Q true s):wpAny (Ri prog w) A (To id a b) Q E s:=by
 obtain⟨o,es,ep,ho,hx,hd,hk,hp,hn⟩:=ha
 obtain⟨o2,es2,ep2,ho2,hx2,hd2,hk2,ϵ,τ⟩:=hb
 have hz:es.size=kvs.length:=by rw[<-hp.length];simp
 have hz2:es2.size=Ĥ.length:=by rw[<-ϵ.length];simp
 unfold To
 refine QZ (wb hda ?_)
 refine QZ (wb đ ?_)
 refine QZ (Tp ho hd ?_)
 refine QZ (Tp ho2 hd2 ?_)
 rw[if_neg (by simp;lia)]
 refine QZ (Wm ho hd ?_)
 refine QZ ?_
 rw[Std.Legacy.Range.forIn_eq_forIn_range']
 simp only[Std.Legacy.Range.size,Nat.sub_zero,Nat.add_sub_cancel,Nat.div_one]
 refine wpAny_forIn_list _ (λrest b s'=>b=(Xc,Unit.unit)/\s'=s/\∀i∈rest,i<es.size) _ ?_ ?_ _ _ {rfl,rfl,λi hi=>?_}
 ·rintro i rest c s' ⟨rfl,rfl,hr⟩;have hi:i<es.size:=hr i (by simp);refine QZ (Tp ho hd ?_);rw[PZ hi];obtain⟨⟨k,v⟩,Ķ⟩:∃kv,kvs[i]?=Xb kv:={kvs[i]'(()),Oa ()};obtain⟨Œ,Ĩ⟩:=hp.get? (e:=es[i]) (by simp[hi]) Ķ;obtain⟨k',ϻ,hh⟩:=hk es[i] (Array.getElem_mem hi);obtain⟨v',ρ,he⟩:=hv i k v Ķ;have hkk:k'=k:=knd.inj _ _ _ ϻ Œ;subst hkk;show wpAny _ _ (TR [es[i].key,es[i].val] _>>=_) _ _ _;refine QZ (wpAny_holding ?_);rw[hh,Ĩ];refine QZ (wpAny_dictFind_of Œ ho2 hd2 hk2 ?_);obtain⟨j,f,hj,hf,hfv⟩:=AK ϵ ρ;rw[<-List.findIdx?_toArray,Qh]at hj;rw[Pd]at hf;rw[hj];refine QZ (Tp ho2 hd2 ?_);rw[hf];show wpAny _ _ (TR [f.val] (eqBool v f.val)) _ _ _;rw[hfv];refine wpAny_holding (he _ _ _ _ ?_);rw[if_neg ∅];refine QZ (Wm ho hd ?_);rw[if_neg (by simp)];exact Q4 {rfl,rfl,λz hz=>hr z (N8 _ hz)}
 ·rintro c s' ⟨rfl,rfl,_⟩;exact Q4 q
 have:=(List.mem_range'_1.mp hi).2
 lia
end
theorem xy{κ:Type}[DecidableEq κ]:∀{kvs:List (κ×V)}{i:Nat}{k:κ}{v:V},(kvs.map (·.1)).Nodup->kvs[i]?=Xb (k,v)->cK kvs k=Xb v
 | [],i,k,v,_,h=>by simp at h
 |p::r,0,k,v,_,h=>by
  simp only[Ur,VO]at h;subst h;exact dN (p:=(k,v)) rfl
 |p::r,i+1,k,v,hn,h=>by
  rw[Ox]at hn;have hr:=OO.mp hn;have hi:r[i]?=Xb (k,v):=by simpa using h
  have hne:¬ p.1=k:=λz=>hr.1 (by rw[z];exact OJ (f:=(·.1)) (Oe hi));rw[dz hne];exact xy hr.2 hi
section
variable{X:Cx}
def FA(K:Q6)(H:Hp)(v v':V):Prop:=(v=v'/\vQ v=true)\/∃p q xs,v=.ref p/\v'=.ref q/\À K H p xs/\À K H q xs/\xs.all vQ=true
theorem HE(I:Inv X pins B H s)(hu:A.units<Sy)(h:FA X.K H v v')(r:Xh v u)(r':Xh v' u'):UC A s u u' true:=by
 rcases h with⟨rfl,hf⟩|⟨p,q,xs,rfl,rfl,hp,hq,hf⟩
 ·exact rQ hf r r' A s
 cases r;cases r';by_cases hpq:p=q
 ·subst hpq;exact .same _
 obtain⟨Â,r1,⟨o,n,e1,c1,_,d1⟩,_⟩:=I.list hp;obtain⟨jts,r2,⟨o2,n2,e2,c2,_,d2⟩,_⟩:=I.list hq;have l1:=r1.length;have l2:=r2.length;have hR:=SeqAt.RcAt.lists (A:=A) (s:=s) (e:=λ_=>true) (l:=p) (b:=q) (items:=Â.toArray) (items2:=jts.toArray) ⟨o,e1,c1,n,d1⟩ ⟨o2,e2,c2,n2,d2⟩ (by simp;lia) hu (λj h1 h2=>by
  simp at h1 h2;obtain⟨x,hx⟩:∃x,xs[j]?=Xb x:={xs[j]'(()),Oa ()};obtain⟨u1,g1,w1⟩:=r1.get hx;obtain⟨u2,g2,w2⟩:=r2.get hx;have z1:Â.toArray[j]'(by simpa using h1)=u1:=by
   have:=Oa h1;rw[g1]at this;simpa using (Q9 this).symm
  have z2:jts.toArray[j]'(by simpa using h2)=u2:=by
   have:=Oa h2;rw[g2]at this;simpa using (Q9 this).symm
  rw[z1,z2];exact rQ (Pp.mp hf x (Oe hx)) w1 w2 _ _)
 have:((Rz Â.toArray.size).all λ_=>true)=true:=by simp
 rw[this]at hR;exact .of_refs hpq hR
theorem LL(hu:X.A.units+64<Sy):Ô X (Rk .Eq) (λx y H Q=>∃a b kvs Ĥ,x=.ref a/\y=.ref b/\Rd H a (.dK kvs)/\Rd H b (.dK Ĥ)/\kvs.length=Ĥ.length/\
  (∀k v,cK kvs k=Xb v->∃v',cK Ĥ k=Xb v'/\FA X.K H v v')/\Q (.bl true) H):=by
 intro pins s B H x y v u Q I rx ry h
 obtain⟨a,b,kvs,Ĥ,rfl,rfl,ha,hb,hl,hv,q⟩:=h
 cases rx
 cases ry
 obtain⟨z,hs,vs,rel,dd⟩:=qp I.Ç ha
 obtain⟨z2,Ő,vs2,rel2,dd2⟩:=qp I.Ç hb
 have e1:=rel.length
 have e2:=rel2.length
 refine wpAny_richCompare_same_room (op:=.Eq) dd.typeIs dd2.typeIs UU (R0 UU dd.typeIs PySem.F.entry_dict_eq ?_ (PySem.F.args_dict_eq_2 _ _)) ()
 show wpAny _ _ (T9 "__eq__" {[.ref a,.ref b],[]}>>=_) _ _ _
 refine QZ ?_
 unfold T9
 refine QZ (UL dd.typeIs ?_)
 show wpAny _ _ (pure (Rn a,Rn b)) _ _ _
 refine Q4 ?_
 refine QZ (Us (T:="dict") (b:=true) dd2.typeIs (by rw[T7];kernel_rfl) ?_)
 show wpAny _ _ (To "dict.__eq__" a b>>=_) _ _ _
 refine QZ (Ap hs Ő dd dd2 () (λi k v hi=>?_) ?_)
 ·obtain⟨⟨k',v'⟩,Ķ⟩:∃kv,kvs[i]?=Xb kv:={kvs[i]'(by have:=(Ot.mp hi).1;lia),Oa _};have hr:k'=k/\Xh v' v:=CV rel Ķ hi;obtain⟨rfl,hrv⟩:=hr;obtain⟨w',hw,hq⟩:=hv k' v' (xy (by rw[rel.keys];exact(dd.dictAt.choose_spec).nodup) Ķ);have Ĩ:=rel2.val k';rw[hw]at Ĩ;cases hvv:valueAt vs2 k' with
  |none=>rw[hvv]at Ĩ;exact(show False from Ĩ).elim
  |some u'=>
   rw[hvv]at Ĩ;exact{u',rfl,HE I (show X.A.units+1<Sy by lia) hq hrv Ĩ}
 show wpAny _ _ (ret (.bool true)) _ _ _
 exact Q4 {.bool true,rfl,(λz=>nomatch z),.bl true,H,I,rfl,q}
structure sR(z y:Str)(ws:List Str):Prop where
 h1:(decide (z.length<y.length)||decide (U9 z<U9 y))=false
 hy:(y.length==0)=false
 hf:(RO z y 0 z.length (z.length+1)).isEmpty=false
 hx:z.length<=sizeLine
 hn:ws.length<=sizeLine
 e:Builtin.Str.partsBetween z (RO z y 0 z.length (z.length+1)) y.length=ws
theorem vz:∀tk ws,Xf (ws.map V.str) (strsFrom tk ws)
 |_,[]=>.nil
 |tk,x::r=>.cons {_,rfl} (vz (tk+1) r)
theorem F0:MtR X "str.split" (λx xs H Q=>∃z y ws,x=.str z/\xs=[.str y]/\sR z y ws/\∀l,H l=Xc->Q (.ref l) (upd H l (.lst (ws.map V.str)))):=by
 intro pins s B H x xs v us Q I rx rs h;obtain⟨z,y,ws,rfl,rfl,ok,q⟩:=h;obtain⟨t,rfl⟩:=rx;obtain⟨u,rfl,ru⟩:=rs.one;obtain⟨t2,rfl⟩:=ru;obtain⟨h1,hy,hf,hx,hn,e⟩:=ok;subst e;refine Tw F.slot_str_split (Vr _ _ _) F.entry_str_split (F.args_str_split_2 _ _) (meets_str_split_sep z y t t2 h1 hy hf hx hn) ?_;exact{.ref _,_,I.Jr (vz _ _) (by rw[N3];exact hn),rfl,q _ I.fresh}
theorem Xx(ho:PE X o to)(ha:PA X [e] t)(ï:RS o "split" X.env (RB o X.env)=RB o X.env:=by rfl)
  (Ŀ:((RC Ñ (Q8 [e] X.env)).all (λx=>!x.1)&&(Sz Ñ (RQ [] X.env)).all (λx=>x.1.isSome)
   &&decide ([e].length+([]:List SU).length+(if([]:List SU).isEmpty then 0 else 1)<30))=true:=by rfl)
  (î:(apos.endLine==Ñ.line)=true:=by rfl) (hs:Q8 [e] X.env=(false,RB e X.env)::Q8 [] X.env:=by rfl) (ÿ:(RC Ñ (Q8 [] X.env)).any (·.1)=false:=by rfl) :
  PE X (.Call (.Attribute o "split" apos) [e] [] Ñ) (tBM X.K "str" (λx xs H Q=>∃z y ws,x=.str z/\xs=[.str y]/\sR z y ws/\∀l,H l=Xc->Q (.ref l) (upd H l (.lst (ws.map V.str)))) to t):=
 Fg PySem.F.plainAttrs_str PySem.F.slot_str_split PySem.F.type_str_split F0 ho ha ï Ŀ î hs ÿ
def oB(z:Str)(n:Int):Str:=if n<1 then RE else if(n==1||z.length==0)=true then z else⟨(Rj n.toNat z.cps).foldl (· ++ ·) #[]⟩
def LB:R2:=λx y H Q=>match x,y with
 | .int i,.int j=>Dt i j/\Q (.int (i*j)) H
 | .str z,.int n=>n<1000/\-1000<n/\z.length<=1000/\Q (.str (oB z n)) H
 | .ref p,.int k=>∃xs,H p=Xb (.lst xs)/\-(2^63)<=k/\k<2^63/\xs.length*k.toNat<=sizeLine/\∀l,H l=Xc->Q (.ref l) (upd H l (.lst (Rj k.toNat xs).flatten))
 |_,_=>False
theorem DL(xs:List (Array Nat)):∀acc,(xs.foldl (· ++ ·) acc).size=acc.size+(xs.map (·.size)).sum:=by
 induction xs with
 |nil=>intro acc;simp
 |cons x r ih=>intro acc;rw[OX,ih,VP,Ox,PR];lia
theorem yw(z:Str)(n:Nat):(⟨(Rj n z.cps).foldl (· ++ ·) #[]⟩:Str).length=n*z.length:=by
 show((Rj n z.cps).foldl (· ++ ·) #[]).size=_;rw[DL,List.map_replicate];have:∀m k:Nat,(Rj m k).sum=m*k:=λm k=>by
  induction m with
  |zero=>simp
  |succ m ih=>rw[OP,PR,ih,Nat.succ_mul];lia
 rw[this];simp[Str.length]
theorem j5:Ô X (RU .Mult) LB:=by
 intro pins s B H x y v u Q I rx ry h;cases x with
 |int i=>
  cases y with
  |int j=>exact MT pins s B H _ _ v u Q I rx ry h
  |_=>exact(show False from h).elim
 |str z=>
  cases y with
  |int n=>
   obtain⟨h1,h2,h3,q⟩:=h;obtain⟨t,rfl⟩:=rx;obtain⟨t2,rfl⟩:=ry;have hb:¬ n<1->n.toNat*z.length<=1000000:=λhn=>by
    have e1:n.toNat<=1000:=()
    exact Ol (Nat.mul_le_mul e1 h3) ∅
   refine P.mul_str (by rw[decide_eq_false (),decide_eq_false ()];rfl) (λhn _=>?_) (λhn _=>?_) ?_
   ·intro z1;have h0:(0:Int)<n:=()
    have:=Int.lt_mul_of_ediv_lt h0 z1;have e2:((z.length:Int))*n<=1000*1000:=Int.mul_le_mul () () () ∅;lia
   ·unfold Builtin.Str.tooLong;have:=hb hn;rw[Nat.mul_comm]at this;refine decide_eq_false ?_;rw[SO];lia
   unfold oB at q;by_cases c1:n<1
   ·rw[if_pos c1]at q⊢;exact{∅,.str _,H,I.tok _,{_,rfl},q}
   rw[if_neg c1]at q⊢;by_cases c2:(n==1||z.length==0)=true
   ·rw[if_pos c2]at q⊢;exact{.str _,H,I,{_,rfl},q}
   rw[if_neg c2]at q⊢;refine{?_,.str _,H,I.tok _,{_,rfl},q};rw[yw];have:=hb c1;rw[SO];lia
  |_=>exact(show False from h).elim
 |ref p=>
  cases y with
  |int k=>
   obtain⟨xs,h1,h2,h3,h4,q⟩:=h;exact Ke pins s B H _ _ v u Q I rx ry ⟨p,k,xs,rfl,rfl,h1,h2,h3,h4,q⟩
  |_=>exact(show False from h).elim
 |_=>cases y<;>exact(show False from h).elim
def Lh(K:Q6)(H:Hp)(a b:Q1):Prop:=∃kvs Ĥ,Rd H a (.dK kvs)/\Rd H b (.dK Ĥ)/\kvs.length=Ĥ.length/\∀k v,cK kvs k=Xb v->∃v',cK Ĥ k=Xb v'/\FA K H v v'
def Nd(K:Q6):R2:=λx y H Q=>match x,y with
 | .ref p,.ref q=>((∃d e,lO K H (.ref p) d/\lO K H (.ref q) e/\Rq d=true/\Rq e=true/\Q (.bl (Tz d e)) H)\/(∃xs,À K H p xs/\À K H q xs/\xs.all vQ=true/\Q (.bl true) H))\/(Lh K H p q/\Q (.bl true) H)
 |x,y=>DT x y=true/\Q (.bl (decide (x=y))) H
theorem b8(hu:X.A.units+64<Sy):Ô X (Rk .Eq) (Nd X.K):=((Mv hu).or (LL hu)).imp λx y H Q q=>by
 by_cases hr:∃p q,x=V.ref p/\y=V.ref q
 ·obtain⟨p,q',rfl,rfl⟩:=hr;rcases q with q|⟨⟨kvs,Ĥ,h1,h2,h3,h4⟩,h5⟩
  ·exact .inl q
  exact .inr ⟨p,q',kvs,Ĥ,rfl,rfl,h1,h2,h3,h4,h5⟩
 refine .inl ?_;cases x<;>cases y<;>first|exact q|exact absurd {_,_,rfl,rfl} hr
inductive KY(xs:List V)(H:Hp)(Q:VK):Prop
 |mk (a kvs) (h0:xs=[.ref a]) (h1:Rd H a (.dK kvs)) (q:Q (.int (kvs.length:Nat)) H):KY xs H Q
theorem lQ:eK X (.builtin "len") (λxs H Q=>x8 X.K xs H Q\/KY xs H Q):=MA.or λpins s B H xs us Q I r ⟨a,kvs,h0,h1,q⟩=>J0 pins s B H xs us Q I r ⟨a,kvs,h0,h1,q⟩
theorem Cb(hc:X.calm=true:=by rfl):eK X (.type "list") (λxs H Q=>(∃p ys,xs=[.ref p]/\(À X.K H p ys\/É X.K H p ys)/\∀l,H l=Xc->Q (.ref l) (upd H l (.lst ys)))\/∃d kvs,xs=[.ref d]/\Rd H d (.dK kvs)/\∀l,H l=Xc->Q (.ref l) (upd H l (.lst (kvs.map λkv=>kV kv.1)))):=jS.or (Hr hc)
end
section
variable{X:Cx}{pins:List (Q1×Obj)}{B:St}{H:Hp}{s:Q3}
def Itz(K:Q6)(a b:Q1):It:=
  ⟨λi H=>∃xs ys x y,À K H a xs/\À K H b ys/\xs[i]?=Xb x/\ys[i]?=Xb y,
   λi H v H'=>∃T x y,v=.ref T/\H T=Xc/\H'=upd H T (.tup [x,y])/\∀xs ys,À K H a xs->À K H b ys->xs[i]?=Xb x/\ys[i]?=Xb y,
   λi H=>∃xs ys,À K H a xs/\À K H b ys/\(xs.length<=i\/ys.length<=i)⟩
def Mm(z TI TO i1 i2 a b:Q1)(i:Nat)(h:Rp):Prop:=IsZip h z TI TO .none/\IsPair h TI (.ref i1) (.ref i2)/\(∃u v,IsPair h TO u v)/\h.IsListIter i1 a i/\h.IsListIter i2 b i
theorem E1{P:Program}{w:Rh}{K:Q6}{elts:List Expr}{x1}{pos:Pos}{a b z TI TO i1 i2:Q1}(D:ZipApart z TI TO i1 i2 a b) :
  XA P w K (.Tuple elts x1 pos) (Itz K a b) [z,TI,TO,i1,i2] z (Mm z TI TO i1 i2 a b) where
 mem:=by simp
 obj:=λi h st c hc=>by
  obtain⟨hz,hI,⟨u,v,hO⟩,⟨o1,e1,_,d1⟩,⟨o2,e2,_,d2⟩⟩:=st;simp only[Ob,Ou,or_false]at hc;rcases hc with rfl|rfl|rfl|rfl|rfl
  ·exact{_,hz,λv q=>by cases (show Data.fields _=VY v from q)}
  ·exact{_,hI,λv q=>by cases (show Data.seq _ _=VY v from q)}
  ·exact{_,hO,λv q=>by cases (show Data.seq _ _=VY v from q)}
  ·exact{o1,e1,λv q=>by rw[d1]at q;cases q}
  exact{o2,e2,λv q=>by rw[d2]at q;cases q}
 keep:=λi h h' st k=>by
  obtain⟨hz,hI,⟨u,v,hO⟩,h1,h2⟩:=st;exact{k z (by simp) _ hz,k TI (by simp) _ hI,{u,v,k TO (by simp) _ hO},h1.at λo e=>k i1 (by simp) o e,h2.at λo e=>k i2 (by simp) o e}
 item:=by
  intro X hP hw hK hc i pins s B H E I hf st hg;subst hP hw hK;obtain⟨xs,ys,x,y,hq,ŧ,hx,hy⟩:=hg;obtain⟨Â,rv,p,hz'⟩:=I.list hq;obtain⟨its',rv',p',hz''⟩:=I.list ŧ;obtain⟨u,hu,ru⟩:=rv.get hx;obtain⟨v,hv,rv2⟩:=rv'.get hy;obtain⟨hz,hI,⟨u0,v0,hO⟩,h1,h2⟩:=st;have hT:=I.yY (H':=H) (Oc s.heap.objs.size) (I.Ç.fresh (Oc _));have lt:∀{c:Q1}{o:Obj},s.heap.get? c=Xb o->s.heap.objs.size≠c:=λe=>Py (Rc e);refine wpAny_pyNext_zip_item D hz hI hO h1 h2 p.isList p'.isList (x:=u) (y:=v) (by simpa using hu) (by simpa using hv) λh' a1 a2 a3 a4 a5 a6 a7=>?_;have I1:Inv X pins B H { s with heap:=h',toks:=s.toks }:=I.Bw (ch:=[z,TI,TO,i1,i2]) hf λc o hc q=>a7 c o (λe=>hc (by simp[e])) (λe=>hc (by simp[e])) (λe=>hc (by simp[e])) (λe=>hc (by simp[e])) q;have I2:=I1.Lx (u:=.tup [x,y]) hT I.sz {by show 2<=sizeLine;decide,[u,v],.cons ru (.cons rv2 .nil),{_,a5,rfl,_,rfl}};refine⟨_,rfl,wpAny_letOwnedTupleGo_zip (s:={ s with heap:=h' }) a1 λΗ hz2 Ő=>?_⟩;have f0:=hf z (by simp);have hI':h'.get? TI=_:=a7 TI _ D.TIz D.TITO D.TIi1 D.TIi2 hI;have zT:z≠s.heap.objs.size:=Pn (lt hz);refine⟨.ref s.heap.objs.size,_,I2.turned (t':=s.toks) (it:=z) (λc o hc q=>(Ő.2 c hc).trans q) (by rw[aM zT];exact f0.1) f0.2.1 f0.2.2.2.1 f0.2.2.2.2.1 f0.2.2.2.2.2,rfl,
   {_,x,y,rfl,hT.1,rfl,λxs' ys' q q'=>by rw[I.uA q hq,I.uA q' ŧ];exact⟨hx,hy⟩},{hz2,(Ő.2 TI D.TIz).trans hI',{u,v,(Ő.2 TO D.TOz).trans a2},a3.at λo q=>(Ő.2 i1 D.i1z).trans q,a4.at λo q=>(Ő.2 i2 D.i2z).trans q},λc hc=>?_⟩
  have cT:c≠s.heap.objs.size:=by
   simp only[Ob,Ou,or_false]at hc;rcases hc with rfl|rfl|rfl|rfl|rfl
   ·exact zT
   ·exact Pn (lt hI)
   ·exact Pn (lt hO)
   ·obtain⟨o,e,_⟩:=h1;exact Pn (lt e)
   obtain⟨o,e,_⟩:=h2;exact Pn (lt e)
  rw[aM cT];exact(hf c hc).1
 done:=by
  intro X hP hw hK hc i pins s B H E I hf st hg;subst hP hw hK;obtain⟨xs,ys,hq,ŧ,hx⟩:=hg;obtain⟨Â,rv,p,hz'⟩:=I.list hq;obtain⟨its',rv',p',hz''⟩:=I.list ŧ;obtain⟨hz,hI,⟨u0,v0,hO⟩,h1,h2⟩:=st;have hl:=rv.length;have hl':=rv'.length;refine wpAny_pyNext_zip_end (I.ok.hd hc) D hz hI hO h1 h2 p.isList p'.isList (by simp;lia) λh' eb=>{rfl,?_};exact I.Bw (ch:=[z,TI,TO,i1,i2]) hf λc o hc q=>eb c o (λe=>hc (by simp[e])) (λe=>hc (by simp[e])) (λe=>hc (by simp[e])) (λe=>hc (by simp[e])) q
 self:=λ_ _ _ _ _ st h=>V6 st.1 h
def N0(K:Q6)(ta:TA):TI:=λB H R=>ta B H λvs H1=>∃a b,vs=[.ref a,.ref b]/\(∃xs,À K H1 a xs)/\(∃ys,À K H1 b ys)/\R (Itz K a b) H1
theorem C0:So "zip"=Xb (.type "zip"):=by decide+kernel
theorem FC{x1}(hg:Gl X "zip")(hm:X.mg "zip"=Xc)(ha:PA X [a,b] ta)(he:Q8 [a,b] X.env=(false,RB a X.env)::Q8 [b] X.env:=by rfl)
  (Ā:(RC pos (Q8 [b] X.env)).any (·.1)=false:=by rfl):PI X (.Tuple elts x1 pos2) (.Call (.Name "zip" p) [a,b] [] pos) (N0 X.K ta):=by
 intro pins s B H R I h
 refine Call_ (jL I hg hm C0 (RD (Ë (ha pos pins s B H _ I h) λus s1 ⟨vs,H1,I1,r1,q1⟩=>?_) he Ā))
 obtain⟨a,b,e,⟨xs,hq⟩,⟨ys,ŧ⟩,q⟩:=q1
 subst e
 obtain⟨u,v,rfl,ru,rv⟩:=Xy r1
 cases ru
 cases rv
 obtain⟨Â,rv1,p1,hz1⟩:=I1.list hq
 obtain⟨its',rv2,p2,hz2⟩:=I1.list ŧ
 have lt:∀{c:Q1}{zs:Array Q0},s1.heap.IsList c zs->c<s1.heap.objs.size:=λh=>by obtain⟨o,e,_⟩:=h;exact Rc e
 refine call_zip_2 p1.isList p2.isList λh' hz hI hO h1 h2 hsz hk=>?_
 refine V6 hz ?_
 refine{s1.heap.objs.size+4,[s1.heap.objs.size+4,s1.heap.objs.size+2,s1.heap.objs.size+3,s1.heap.objs.size,s1.heap.objs.size+1],_,_,H1,rfl,I1.kept (t':=s1.toks) hk,E1 (zipApart_new (lt p1.isList) (lt p2.isList)),{hz,hI,{_,_,hO},h1,h2},λc hc=>?_,q}
 have le:s1.heap.objs.size<=c:=by
  simp only[Ob,Ou,or_false]at hc;rcases hc with h|h|h|h|h
  ·rw[h];exact Pc _ _
  ·rw[h];exact Pc _ _
  ·rw[h];exact Pc _ _
  ·rw[h];exact Oc _
  rw[h];exact Pc _ _
 exact I1.yY le (I1.Ç.fresh le)
end
theorem BG{K:Tf}{a b:Q1}{xs ys:List V}{g:TG}{tb:TS}{D:Xv}{B:St}{H:Hp}(Pv:Nat->St->Hp->Prop)(h0:Pv 0 B H)(hl:∀i B H,i<=xs.length->Pv i B H->À K H a xs/\À K H b ys)(hle:xs.length=ys.length)
  (hs:∀i x y B H T,xs[i]?=Xb x->ys[i]?=Xb y->Pv i B H->H T=Xc->g (.ref T) B (upd H T (.tup [x,y])) λσ2 H2=>tb { D with nx:=Pv (i+1),ct:=Pv (i+1),bk:=D.nx } σ2 H2) (hd:∀B H,Pv xs.length B H->D.nx B H) :
  ∃W:Nat->Nat->St->Hp->Prop,(∃m,W 0 m B H)/\∀i m B H,W i m B H->
   ((Itz K a b).stop i H/\D.nx B H)\/((Itz K a b).go i H/\∃N,(∀B' H',N B' H'->∃m',m'<m/\W (i+1) m' B' H')/\∀x H',(Itz K a b).ϐ i H x H'->g x B H' λσ2 H2=>tb { D with nx:=N,ct:=N,bk:=D.nx } σ2 H2):=by
 refine{λi m B H=>m=xs.length-i/\i<=xs.length/\Pv i B H,{xs.length,by simp,Oj _,h0},?_}
 rintro i m B H ⟨rfl,hi,p⟩
 obtain⟨q,q'⟩:=hl i B H hi p
 by_cases í:i<xs.length
 ·have hlt':i<ys.length:=()
  refine .inr {{xs,ys,xs[i],ys[i],q,q',by simp[í],by simp[hlt']},Pv (i+1),λB' H' p'=>{xs.length-(i+1),(),rfl,í,p'},λv H' y=>?_};obtain⟨T,x,y,rfl,hT,rfl,h⟩:=y;obtain⟨e1,e2⟩:=h xs ys q q';exact hs i x y B _ T e1 e2 p hT
 have e:i=xs.length:=()
 subst e
 exact .inl {{xs,ys,q,q',N6 (Oc _)},hd B H p}
set_option maxHeartbeats 4000000
section
variable{X:Cx}
theorem Ja(ho:PE X o to)(ï:RS o "pop" X.env (RB o X.env)=RB o X.env:=by rfl)(î:(apos.endLine==Ñ.line)=true:=by rfl) :
  PE X (.Call (.Attribute o "pop" apos) [] [] Ñ) (JE X.K "list" JJ to):=
 FW Tc PySem.F.slot_list_pop PySem.F.type_list_pop Ka ho ï î
theorem MI(hc:X.calm=true:=by rfl):eK X (.builtin "sum") (λxs H Q=>∃(p:Q1)(ns:List Int),xs=[.ref p]/\À X.K H p (ns.map V.int)/\Q (.int ns.sum) H):=by
 intro pins s B H xs us Q I r h;obtain⟨p,ns,rfl,hq,q⟩:=h;obtain⟨u,rfl,rx⟩:=Xq r;cases rx;obtain⟨Â,rv,pl,hz⟩:=I.list hq;have hl:=pl.isList;have ia:=intsAre_of rv;obtain⟨xs,hx⟩:=ia.allInts.items;have hn:xs.toList.map (·.1)=ns:=by
  rw[<-nums_intItems,<-hx];exact ia.numsOf
 rw[hx]at hl;refine sum_intListG (I.ok.hd hc) hl λh' tk t' hk=>{.int _,H,I.kept (t':=tk) hk,{_,rfl},?_};rw[preSum_eq,Pa (by simp),hn];exact q
theorem Xf.rev{xs us}(h:Xf xs us):Xf xs.reverse us.reverse:=Xf.reverse h
def Nl(K:Q6)(te:TE):TE:=λB H Q=>te B H λx H1=>∃a xs,x=.ref a/\À K H1 a xs/\∀p,H1 p=Xc->Q (.ref p) (upd H1 p (.lst xs.reverse))
theorem Bf(he:PE X e te):PE X (.Subscript e (.Slice Xc Xc (Xb (.UnaryOp .USub (.Constant (.int 1) j p3) p4)) p2) pos) (Nl X.K te):=by
 intro pins s B H Q I h;refine Vq (Ë (he pins s B H _ I h) λv s1 z9=>?_);obtain⟨x,H1,I1,r1,a,xs,ex,hx,q⟩:=z9;subst ex;cases r1;refine Wf ?_;rw[Ue];refine Q4 ?_;refine Q4 ?_;rw[Vf];refine Ë ((MQ Km (ah (X:=X))) pins s1 B H1 (λy H2=>H2=H1/\y=.int (-1)) I1 {_,rfl,rfl,rfl}) λv2 s2 z9=>?_;obtain⟨y,H2,I2,r2,e2,e3⟩:=z9;subst e2 e3;obtain⟨t2,rfl⟩:=r2;obtain⟨Â,r,ht,hz⟩:=I2.list hx;have hlen:Â.toArray.size=xs.length:=by rw[Om];exact r.length.symm
 have I4:Inv X pins B H2 { s2 with heap:=s2.heap.push { cls:=.type "slice",data:=.fields #[.none,.none,.int (-1) t2] } }:=I2.kept λb ob q=>Q5 _ q;obtain⟨its4,r4,ht4,hz4⟩:=I4.list hx;have hlen4:its4.toArray.size=xs.length:=by rw[Om];exact r4.length.symm
 refine Wy (ops:=[.ref a,.ref s2.heap.objs.size]) (s:={ s2 with heap:=s2.heap.push { cls:=.type "slice",data:=.fields #[.none,.none,.int (-1) t2] } }) ht4.isList.typeIs slot_list_getitem.lookup (Ug ht4.isList (T6 ..) .none .none (.int (-1) t2) (by simp) ?_ (by rw[hlen4];exact hz4)) (by with_unfolding_all rfl);rw[W.krv_pick];refine{.ref _,_,I4.laid (t':=s2.toks) (o:=.lst xs.reverse) (λb ob q=>Q5 _ q) (Oc _) ?_,rfl,q _ (I4.Ç.fresh (Oc _))};exact{by rw[Va];exact hz4,_,0,r4.rev,Rf _ rfl}
end
section
variable{X:Cx}{e:Expr}{te:TE}{es:List Expr}{t:Str->TE}{pos:Pos}
def PJ(X:Cx)(es:List Expr)(t:Str->TE):Prop:=
 ∀(acc:Str)(pins:List (Q1×Obj))(s:Q3)(B:St)(H:Hp)(Q:VK),Inv X pins B H s->t acc B H Q->wpAny (Ri X.prog X.w) X.A (WY acc (evalEach es X.env)) (EP X pins B Q) X.xe s
theorem J2:PJ X [] (λacc _ H Q=>acc.length<=sizeLine/\Q (.str acc) H):=λacc pins s B H Q I h=>by
 show wpAny _ _ (WY acc []) _ _ _;exact joinParts_nil (Q:=EP X pins B Q) {.str acc,H,I.tok _,{_,rfl},h.2} h.1
theorem Cd(he:PE X e te)(ht:PJ X es t):PJ X (e::es) (λacc B H Q=>te B H λv H'=>∃x,v=.str x/\(acc++x).length<=sizeLine/\t (acc++x) B H' Q):=λacc pins s B H Q I h=>by
 show wpAny _ _ (WY acc (RB e X.env::evalEach es X.env)) _ _ _;refine joinParts_cons (Ë (he pins s B H _ I h) λv s1 z9=>?_);obtain⟨x,H1,I1,r1,y,e1,l1,q1⟩:=z9;subst e1;obtain⟨tk,rfl⟩:=r1;exact{l1,ht _ pins s1 B H1 Q I1 q1}
theorem HU(h:PJ X (a::b::es) t):PE X (.JoinedStr (a::b::es) pos) (λB H Q=>t RE B H Q):=λpins s B H Q I q=>JoinedStr_many (h RE pins s B H Q I q)
theorem KI(he:PE X e te):PE X (.FormattedValue e (-1) Xc pos) (λB H Q=>te B H λv H'=>(∃i,v=.int i/\i.natAbs.log2<1920/\Q (.str (toString i:String)) H')\/∃x,v=.str x/\x.length<=sizeLine/\Q (.str x) H'):=λpins s B H Q I h=>by
 refine FormattedValue_plain (Ë (he pins s B H _ I h) λv s1 z9=>?_);obtain⟨x,H1,I1,r1,q1⟩:=z9;rcases q1 with⟨i,rfl,hi,q1⟩|⟨y,rfl,hy,q1⟩
 ·obtain⟨tk,rfl⟩:=r1;exact formatField_int_small hi {.str (toString i:String),H1,I1.tok _,{_,rfl},q1}
 obtain⟨tk,rfl⟩:=r1;exact formatField_str (λt' tk=>{.str y,H1,I1.tok _,{_,rfl},q1}) hy
end
section
variable{X:Cx}
theorem gO(ho:PE X o to)(ha:PA X [e] t)(ï:RS o "extend" X.env (RB o X.env)=RB o X.env:=by rfl)
  (Ŀ:((RC Ñ (Q8 [e] X.env)).all (λx=>!x.1)&&(Sz Ñ (RQ [] X.env)).all (λx=>x.1.isSome)
   &&decide ([e].length+([]:List SU).length+(if([]:List SU).isEmpty then 0 else 1)<30))=true:=by rfl)
  (î:(apos.endLine==Ñ.line)=true:=by rfl) (hs:Q8 [e] X.env=(false,RB e X.env)::Q8 [] X.env:=by rfl) (ÿ:(RC Ñ (Q8 [] X.env)).any (·.1)=false:=by rfl) :
  PE X (.Call (.Attribute o "extend" apos) [e] [] Ñ) (tBM X.K "list" Cs to t):=
 Fg Tc PySem.F.slot_list_extend PySem.F.type_list_extend DF ho ha ï Ŀ î hs ÿ
end
section
variable{prog:Program}{w:Rh}{K:Type}[DecidableEq K]{knd:KeyKind prog w K}{A:Rv}{E:Q0->Q3->Prop}{s:Q3}
end
section
variable{X:Cx}
end
section
variable{prog:Program}{w:Rh}{A:Rv}{E:Q0->Q3->Prop}{s:Q3}
end
section
variable{X:Cx}
end
section
variable{K:Q6}{H:Hp}{Q:VK}
theorem Ŭ{p:Q1}{xs:List V}{v:V}{j:Nat}(h:É K H p xs)(e:xs[j]?=Xb v)(q:Q v H):ixS K p (j:Int) H Q\/dgI p (.int (j:Int)) H Q:=.inl ⟨xs,v,.inr h,jH e,q⟩
theorem ì(h:À K H p xs)(e:Ġ xs i=Xb v)(q:Q v H):ixS K p i H Q\/dgI p (.int i) H Q:=.inl ⟨xs,v,.inl h,e,q⟩
theorem æ(h:H d=Xb (.dK kvs))(e:cK kvs (.inr x)=Xb v)(q:Q v H):dgI d (.str x) H Q:={v,e▸mB.k (k:=.inr x) h,q}
theorem Å(h:H a=Xb (.ins C dx fs))(c:ļ K C)(n:aP K C f)(e:fs.lookup f=Xb v)(q:Q v H):pO K f (.ref a) H Q:=⟨a,C,dx,fs,v,rfl,h,c,n,e,q⟩
theorem lnl(h:H p=Xb (.lst xs))(q:Q (.int (xs.length:Nat)) H):x8 K [.ref p] H Q\/KY [.ref p] H Q:=.inl {_,_,rfl,.inl {_,À.of h,rfl},q}
theorem isB(ty:pT K H x t)(k:Ti K t (.ref D)=Xb b)(q:R b H):Bn K [x,.ref D] H λv H1=>zP K v H1 R:={x,.ref D,t,b,rfl,(λz=>by cases z),ty,k,b,rfl,q}
end
section
variable{X:Cx}
theorem rY(hu:X.A.units+64<Sy):Ô X (Rk .NotEq) (λx y H Q=>∃d e,lO X.K H x d/\lO X.K H y e/\Rq d=true/\Rq e=true/\Q (.bl (!PyData.eqv d e)) H):=by
 intro pins s B H x y v u Q I rx ry h;obtain⟨d,e,hd,he,sd,se,hq⟩:=h;obtain⟨as,z1⟩:=I.reads hd rx;obtain⟨bs,z2⟩:=I.reads he ry;exact ne_dataH z1 z2 sd se hu {.bl _,H,I,rfl,hq}
end
def Bb(P:Program)(w:Rh)(K:Q6)(mg:Str->Option Q0)(base:Rp)(k:Nat)(x:Str)(ps:List Str)(dvs:List V)(sp:Sp):Prop:=
 ∃f fd ds,j2 P w K mg base Ľ k f fd ps sp/\Xj K fd ps []/\Xj K fd ps ds/\Xf dvs ds/\Sh K (.ref f)=true/\mg x=Xb (.ref f)/\∃oc od ú,K.lookup f=Xb ⟨oc,od,.func fd,ú⟩
section
variable{P:Program}{w:Rh}{K:Q6}{mg:Str->Option Q0}{base:Rp}{k:Nat}{x:Str}{ps:List Str}{dvs:List V}{sp:Sp}
theorem Bb.has(D:Bb P w K mg base k x ps dvs sp):ę P w K mg base k x ps sp:=by
 obtain⟨f,fd,ds,F,b,_,_,kp,m,l⟩:=D;exact⟨f,fd,F,b,kp,m,l⟩
structure pD(K:Q6)(mg:Str->Option Q0)(x:Str)(st:Rl)(ps:List Str)(dvs:List V):Prop where
 ex:∃(f:Q1)(oc:Q0)(od:Option Q1)(dV kV doc pm:Q0)(an:Option Q1)(Ä ct:Q0)(ú:Array (Option Q0))(ds:List Q0),K.lookup f=Xb {oc,od,.func (R5 x x (bT st) (bC st) (au st) dV kV doc pm an Ä ct),ú}/\TC K Ä x=true/\Sh K (.ref f)=true/\mg x=Xb (.ref f)/\Xf dvs ds/\
  Xj K (R5 x x (bT st) (bC st) (au st) dV kV doc pm an Ä ct) ps []/\Xj K (R5 x x (bT st) (bC st) (au st) dV kV doc pm an Ä ct) ps ds
abbrev pD.Hz{st:Rl}(_:pD K mg x st ps dvs)(P:Program)(w:Rh)(base:Rp)(k:Nat)(sp:Sp):Prop:=Bb P w K mg base k x ps dvs sp
theorem pD.hs{st N}(F:pD K mg x st ps dvs)(S:aE N ps (au st))
  (õ:∀f Ä A outer s H vs Q E,fu k (A.deeper (SX x (au st) s.heap.objs.size f Ä))->(A.deeper (SX x (au st) s.heap.objs.size f Ä)).units+64<Sy->sp vs H Q E->
   ∃t,ď (vk Ľ P w K mg base N x (au st) f Ä A outer s H E).ϕ (bC st) t/\t { nx:=λ_ H'=>Q .Ê H',rt:=Q } (Xn N vs) H) (len:∀vs H Q E,sp vs H Q E->vs.length=ps.length:=by intro _ _ _ _ h;cases h;subst_vars;rfl):Bb P w K mg base (k+1) x ps dvs sp:=by
 obtain⟨f,oc,od,dV,kV,doc,pm,an,Ä,ct,ú,ds,lk,ķ,kp,m,hv,b1,b2⟩:=F.ex
 refine{f,_,ds,Eh lk ķ S len λA outer s H vs Q E hr ť=>?_,b1,b2,hv,kp,m,oc,od,ú,lk}
 obtain⟨t,h,q⟩:=õ f Ä A outer s H vs Q E hr hr.units ť
 exact⟨t,h.ϕ,q⟩
end
theorem DX(D:Bb X.prog X.w X.K X.mg X.base j x ps dvs sp)(hr:fu k X.A)(ha:PA X (e::es) t)(hj:j<=k:=by decide)(hg:Gl X x:=by rfl)
  (đ:(x==("__debug__":Str))=false:=by decide) (he:Q8 (e::es) X.env=(false,RB e X.env)::Q8 es X.env:=by rfl) (Ā:(RC pos (Q8 es X.env)).any (·.1)=false:=by rfl) :
  PE X (.Call (.Name x p) (e::es) [] pos) (wG sp dvs E0 t):=by
 obtain⟨f,fd,ds,F,_,b,hv,kp,m,_⟩:=D
 exact Cr F (hr.mono hj) hg m kp b hv vU ha đ he Ā
def cS(a b c:Option Tok):Array (Int×Q0):=((a.map λt=>((0:Int),Sx 0 t)).toList++((b.map λt=>((1:Int),Sx 1 t)).toList++(c.map λt=>((2:Int),Sx 2 t)).toList)).toArray
def zq(a b c:Option Tok):Array Nat:=((a.map λ_=>0).toList++((b.map λ_=>1).toList++(c.map λ_=>2).toList)).toArray
def Š(a b c:Option Tok)(led:Bool):SetTable:={ mask:=7,place:=zq a b c,dummies:=#[],finger:=0,led:=led,moves:=0,plain:=true }
abbrev ē(a b c:Option Tok)(ep:Nat)(led:Bool):Obj:={ cls:=.type "set",dict:=Xc,data:=.set (cS a b c) ep (Š a b c led) }
theorem lay0(b c:Option Tok)(led:Bool)(t:Tok):layNew (Š Xc b c led) (cS Xc b c) 0 (.int 0 t)=(cS (Xb t) b c,Š (Xb t) b c led,false,false):=by cases b<;>cases c<;>kernel_rfl
theorem Nv(a c:Option Tok)(led:Bool)(t:Tok):layNew (Š a Xc c led) (cS a Xc c) 1 (.int 1 t)=(cS a (Xb t) c,Š a (Xb t) c led,false,false):=by cases a<;>cases c<;>kernel_rfl
theorem NB(a b:Option Tok)(led:Bool)(t:Tok):layNew (Š a b Xc led) (cS a b Xc) 2 (.int 2 t)=(cS a b (Xb t),Š a b (Xb t) led,false,false):=by cases a<;>cases b<;>kernel_rfl
theorem wY (a b c led):(Š a b c led).tooFull=false:=by cases a<;>cases b<;>cases c<;>kernel_rfl
theorem fY (a b c led):(Š a b c led).fits (cS a b c).size=true:=by cases a<;>cases b<;>cases c<;>kernel_rfl
theorem jC (a b c):(cS a b c).size<=3:=by cases a<;>cases b<;>cases c<;>simp[cS]
section
variable{prog:Program}{w:Rh}{A:Rv}{E:Q0->Q3->Prop}{s:Q3}{S:Q1}{a b c:Option Tok}{ep:Nat}{led:Bool}
theorem qB:ElemsOf (S5 prog w) (cS a b c).toList:=λe he=>by
 have:e.2=.int e.1 (match e.2 with| .int _ t=>t|_=>0):=by
  cases a<;>cases b<;>cases c<;>simp[cS]at he<;>rcases he with rfl|rfl|rfl<;>rfl
 rw[this];exact{{e.1,Vz _ _ _ _,by cases a<;>cases b<;>cases c<;>simp[cS]at he<;>rcases he with rfl|rfl|rfl<;>rfl},rfl}
theorem A5(ho:s.heap.get? S=Xb (ē a b c ep led))(lay:layNew (Š a b c led) (cS a b c) ((S5 prog w).hash r) (.int r t)=(es',t',false,false))(pl:t'.plain=true)(tf:t'.tooFull=false)(sz:es'.size<=3)
  (nf:(cS a b c).toList.findIdx? (λe=>(S5 prog w).is r e.2)=Xc) (q:Q true { s with heap:=s.heap.update S (WK es' t') }):wpAny (Ri prog w) A (Tq S (.int r t) ((S5 prog w).hash r)) Q E s:=by
 have h4:=jC a b c
 unfold Tq WL
 refine wpAny_holding (QZ (Ss ho rfl (fY a b c led) ?_))
 dsimp only
 rw[byScan_of (knd:=S5 prog w) rfl (by unfold WZ;lia) qB]
 simp only[if_true]
 unfold setAddByScan
 refine QZ (QZ (Vx (QZ (V7 (Vz prog w r t) ho rfl (fY a b c led) qB ?_))))
 rw[nf]
 dsimp only
 rw[lay]
 refine QZ (Q4 ?_)
 dsimp only
 rw[if_pos pl]
 refine QZ (Q4 (a:=true) ?_)
 simp only[if_true]
 refine QZ (wpAny_storeSet_of ho rfl ?_ (Ol sz ∅))
 rw[tf]
 exact Q4 (Q4 q)
theorem Lq(ho:s.heap.get? S=Xb (ē a b c ep led))(nf:(cS a b c).toList.findIdx? (λe=>(S5 prog w).is r e.2)=Xb j)(q:Q false s):wpAny (Ri prog w) A (Tq S (.int r t) ((S5 prog w).hash r)) Q E s:=by
 have h4:=jC a b c;unfold Tq WL;refine wpAny_holding (QZ (Ss ho rfl (fY a b c led) ?_));dsimp only;rw[byScan_of (knd:=S5 prog w) rfl (by unfold WZ;lia) qB];simp only[if_true];unfold setAddByScan;refine QZ (QZ (Vx (QZ (V7 (Vz prog w r t) ho rfl (fY a b c led) qB ?_))));rw[nf];exact Q4 (Q4 q)
theorem qZ(ho:s.heap.get? S=Xb (ē a b c ep led)):SK S s.heap (s.heap.update S (WK (cS x y z) (Š x y z led)))/\(s.heap.update S (WK (cS x y z) (Š x y z led))).get? S=Xb (ē x y z (ep+1) led):={SY ..,RZ _ ho rfl}
theorem Kf(hr:r=0\/r=1\/r=2)(ho:s.heap.get? S=Xb (ē a b c ep led))
  (q:∀bl h' Ŷ x y z,SK S s.heap h'->h'.get? S=Xb (ē x y z Ŷ led)->x.isSome=(a.isSome||decide (r=0))->y.isSome=(b.isSome||decide (r=1))->z.isSome=(c.isSome||decide (r=2))->Q bl { s with heap:=h' }):wpAny (Ri prog w) A (Tq S (.int r t) ((S5 prog w).hash r)) Q E s:=by
 have old:∀j,(cS a b c).toList.findIdx? (λe=>(S5 prog w).is r e.2)=Xb j->a.isSome=(a.isSome||decide (r=0))->b.isSome=(b.isSome||decide (r=1))->c.isSome=(c.isSome||decide (r=2))->wpAny (Ri prog w) A (Tq S (.int r t) ((S5 prog w).hash r)) Q E s:=λj nf h1 h2 h3=>Lq ho nf (q false s.heap ep a b c (Heap.SameBut.refl S s.heap) ho h1 h2 h3)
 rcases hr with rfl|rfl|rfl
 ·cases a with
  |some u=>exact old 0 rfl rfl (by simp) (by simp)
  |none=>exact A5 ho (lay0 b c led t) rfl (wY ..) (jC ..) (by cases b<;>cases c<;>rfl) (q true _ _ _ _ _ (qZ ho).1 (qZ ho).2 rfl (by simp) (by simp))
 ·cases b with
  |some u=>cases a with
   |none=>exact old 0 rfl (by simp) rfl (by simp)
   |some v=>exact old 1 rfl (by simp) rfl (by simp)
  |none=>exact A5 ho (Nv a c led t) rfl (wY ..) (jC ..) (by cases a<;>cases c<;>rfl) (q true _ _ _ _ _ (qZ ho).1 (qZ ho).2 (by simp) rfl (by simp))
 cases c with
 |some u=>cases a with
  |none=>cases b with
   |none=>exact old 0 rfl (by simp) (by simp) rfl
   |some v=>exact old 1 rfl (by simp) (by simp) rfl
  |some v=>cases b with
   |none=>exact old 1 rfl (by simp) (by simp) rfl
   |some v=>exact old 2 rfl (by simp) (by simp) rfl
 |none=>exact A5 ho (NB a b led t) rfl (wY ..) (jC ..) (by cases a<;>cases b<;>rfl) (q true _ _ _ _ _ (qZ ho).1 (qZ ho).2 (by simp) (by simp) rfl)
end
structure EL(val:Nat->Int)(i:Nat)(a b c:Option Tok):Prop where
 a:a.isSome=(Rz i).any λj=>decide (val j=0)
 b:b.isSome=(Rz i).any λj=>decide (val j=1)
 c:c.isSome=(Rz i).any λj=>decide (val j=2)
theorem ub (f i):(Rz (i+1)).any f=((Rz i).any f||f i):=by
 rw[Qw,List.any_append];simp
section
variable{prog:Program}{w:Rh}{A:Rv}{R:W8->Q3->Prop}{I:Q1}{fp wr:List Q1}{G:Array Uk->Array Uk->Prop}{n:Nat}{P:Nat->Q0->Prop}{St:Nat->Q3->Prop}{led:Bool}
theorem Iu(W:WalksS prog w A.in1 I fp wr G n P St) (S) (hSf:S∉fp) (val) (Ĩ:∀i v,P i v->∃t,v=.int (val i) t) (h3:∀i v,P i v->val i=0\/val i=1\/val i=2) :
  ∀k i s a b c ep,n-i=k->i<=n->St i s->s.heap.get? S=Xb (ē a b c ep led)->EL val i a b c->
   (∀s' x y z Ŷ,Moved (S::wr) G s s'->s'.heap.get? S=Xb (ē x y z Ŷ led)->EL val n x y z->R (.ok (.ret .none)) s')->codeAny (Ri prog w) A (.builtin "set.update.loop" {[.ref S,.ref I],[]}) R s:=by
 have sw:S∉wr:=λh=>hSf (W.sub _ h)
 have sub:∀b∈wr,b∈S::wr:=λb hb=>N8 _ hb
 intro k
 induction k with
 |zero=>
  intro i s a b c ep hk hi st hS hm q
  obtain rfl:i=n:=()
  refine Sg S0 ?_
  rw[RR Si _]
  refine QZ (m:=US (.ref I)) (W.done s _ _ st λs' mv=>?_)
  exact Q4 (q s' a b c ep (mv.mono sub) (mv.heap S _ sw hS) hm)
 |succ k ih=>
  intro i s a b c ep hk hi st hS hm q
  have lt:i<n:=()
  refine Sg S0 ?_
  rw[RR Si _]
  refine QZ (m:=US (.ref I)) (W.item i s _ _ lt st λv s' hP ĥ mv=>?_)
  obtain⟨t,rfl⟩:=Ĩ i v hP
  refine QZ (wpAny_holding (m:=setAdd S (.int (val i) t)) ?_)
  unfold setAdd
  refine wpAny_holding (QZ ((S5 prog w).pyHash (k:=val i) (Vz _ _ _ _) ?_))
  refine Kf (s:={ s' with toks:=s'.toks+1 }) (h3 i _ hP) (mv.heap S _ sw hS) λbl h' Ŷ x y z sb hS' e1 e2 e3=>?_
  refine Q4 {S3 Si _,ih (i+1) _ x y z Ŷ () lt (W.frame _ s' _ _ ĥ (Pr _) λb hb o e=>?_) hS' {by rw[e1,hm.a,ub],by rw[e2,hm.b,ub],by rw[e3,hm.c,ub]} λs'' x y z ep'' mv' hS'' hm'=>?_}
  ·rw[sb.2 b (λh=>hSf (by rw[<-h];exact hb))];exact e
  refine q s'' x y z ep'' (Moved.trans W.gtrans ((mv.mono sub).then_heap (Pr _) λb o hb e=>?_) mv') hS'' hm'
  rw[sb.2 b (λh=>hb (by rw[h];exact N9))]
  exact e
end
section
variable{prog:Program}{w:Rh}{A:Rv}{E:Q0->Q3->Prop}{s:Q3}
theorem pR(q:Q (w.params.followText "set-order") s):wpAny (Ri prog w) A setsByText Q E s:=QZ (Ut (Q4 q))
theorem HA (u) (q:Q (.ref s.heap.objs.size) { s with heap:=s.heap.push (ē Xc Xc Xc 0 (!w.params.followText "set-order")) }) :
  codeAny (Ri prog w) A (.call (.builtin "set.__new__") {[.type "set",u],[]}) (wants Q E) s:=by
 refine Wn (QZ (wpAny_of_eq (PySem.F.newCall_set_1 u) (Q4 {S3 UN _,Sg PySem.F.entry_set_new ?_})))
 rw[RR UN _]
 unfold S4.«set.__new__» Builtin.Frozenset.newClass
 have hsub:=PySem.sub_set_self
 obtain⟨hp,g,d,tk,os⟩:=s
 dsimp only
 wp_walk
 refine Ut (Q4 ?_)
 dsimp only
 simp only[newObj]
 exact QZ (wpAny_alloc (Q4 (Q4 q)))
set_option maxHeartbeats 3200000 in
theorem yU(hh:A.handled=Xc)(hl:s.heap.IsList l items)(hv:∀i v,items[i]?=Xb v->∃t,v=Sx (val i) t)(h3:∀i v,items[i]?=Xb v->val i=0\/val i=1\/val i=2)
  (q:∀h' tk x y z ep,h'.get? s.heap.objs.size=Xb (ē x y z ep (!w.params.followText "set-order"))->EL val items.size x y z->(∀b o,b<s.heap.objs.size->s.heap.get? b=Xb o->h'.get? b=Xb o)->Q (.ref s.heap.objs.size) { s with heap:=h',toks:=tk }) :
  wpAny (Ri prog w) A (call (.type "set") [.ref l]) Q E s:=by
 obtain⟨c,tl,hmro⟩:=PySem.F.called_set.mro
 have m1:=PySem.F.called_set.made
 have m2:=PySem.F.called_set.sub
 refine Vn (Wn ?_)
 show wpAny _ _ (callAny (.type "set") _) _ _ _
 refine Q4 {Code.quiet_builtin _ (by decide+kernel),Sg PySem.F.entry_type_call ?_}
 rw[Around.under_plain (weight_type_call_type "set" [.ref l] []) rfl]
 have m3:=PySem.F.called_set.notType
 have m4:=PySem.F.called_set.canCreate
 have m5:=PySem.F.typeCall_set_1 (.ref l)
 repeat (any_goals (first|assumption|wp_step))
 refine SS (HA (.ref l) (E:=E) (Q:=λobj s₁=>obj=.ref s.heap.objs.size/\s₁={ s with heap:=s.heap.push (ē Xc Xc Xc 0 (!w.params.followText "set-order")) }) ⟨rfl,rfl⟩) λr s₁ hr=>?_
 cases r with
 |error e=>exact hr
 |ok fl=>
  cases fl with
  |ret obj=>
   obtain⟨rfl,rfl⟩:=hr
   have hS:(s.heap.push (ē Xc Xc Xc 0 (!w.params.followText "set-order"))).get? s.heap.objs.size=Xb (ē Xc Xc Xc 0 (!w.params.followText "set-order")):=Rf _ rfl
   have hT:Vh { s with heap:=s.heap.push (ē Xc Xc Xc 0 (!w.params.followText "set-order")) } (.ref s.heap.objs.size) "set":=⟨_,hS,rfl⟩
   have n1:=PySem.F.called_set.init.lookup
   have n2:=PySem.F.called_set.init.bind (.ref s.heap.objs.size)
   repeat (any_goals (first|assumption|wp_step))
   refine SS (codeAny_call_builtin (R:=wants (λr s₂=>r=.none/\∃h' tk x y z ep,s₂={ s with heap:=h',toks:=tk }/\h'.get? s.heap.objs.size=Xb (ē x y z ep (!w.params.followText "set-order"))/\EL val items.size x y z/\∀b o,b<s.heap.objs.size->s.heap.get? b=Xb o->h'.get? b=Xb o) E) PySem.F.called_set.init.plain PySem.F.entry_set_init (PySem.check_set_init_1 hT ?_)) λr₂ s₂ hr₂=>?_
   ·obtain⟨ol,hol,hcl,nl,hdl⟩:=hl;obtain⟨ocls,odict,odata,oslots⟩:=ol;simp only at hcl hdl;subst hcl;subst hdl;have hol':(s.heap.push (ē Xc Xc Xc 0 (!w.params.followText "set-order"))).get? l=Xb { cls:=.type "list",dict:=odict,data:=.seq items nl,slots:=oslots }:=Q5 _ hol;have k1:=PySem.F.sub_list_set;have k2:=PySem.F.sub_list_frozenset;have k3:(Sd "list"==Sd "dict")=false:=∅
    have hl1:(s.heap.push (ē Xc Xc Xc 0 (!w.params.followText "set-order"))).IsList l items:={_,hol',rfl,nl,rfl};unfold S4.«set.__init__» noKeywords Builtin.Frozenset.updateFrom;generalize hPI:W6=PI;wp_walk
    subst hPI;refine Tn hl1 (QZ (WM ?_));have lS:l<s.heap.objs.size:=Rc hol;have zs:(s.heap.push (ē Xc Xc Xc 0 (!w.params.followText "set-order"))).objs.size=s.heap.objs.size+1:=R9 ..;refine Iu ((Walks.list (A:=A.in1.in1.in1) (by simp[hh]) _ l (by rw[zs];exact OD (Pj lS)) items).toS) s.heap.objs.size (by rw[zs];simp only[Ob,Ou,or_false,not_or];exact{OD (Pz _),Py lS}) val hv h3 items.size 0 _ Xc Xc Xc 0 () (Oj _) {{_,Rf _ rfl,rfl,rfl},hl1.push _} (Q5 _ hS) ⟨rfl,rfl,rfl⟩ ?_;intro s' x y z ep mv hS' hm;obtain⟨h',g',d',tk',os'⟩:=s';have e1:g'=s.gens:=mv.gens;have e2:d'=s.drawn:=mv.drawn;have e3:os'=s.os:=mv.os;subst e1;subst e2;subst e3;refine Q4 (Q4 {rfl,h',tk',x,y,z,ep,rfl,hS',hm,λb o hb e=>?_});refine mv.heap b o (by rw[zs];simp only[Ob,Ou,or_false,not_or];exact{OD hb,OD (Pj hb)}) (Q5 _ (Q5 _ e))
   cases r₂ with
   |error e=>exact hr₂
   |ok fl₂=>
    cases fl₂ with
    |ret r=>
     obtain⟨rfl,h',tk,x,y,z,ep,rfl,g1,g2,g3⟩:=hr₂
     repeat (any_goals (first|assumption|wp_step))
     exact q h' tk x y z ep g1 g2 g3
    |_=>exact hr₂.elim
  |_=>exact hr.elim
end
theorem kM:Slot "set_iterator" "__next__" "set_iterator.__next__":=.of (owner:="set_iterator") (n:="__next__") (by rw[UJ,Tr];kernel_rfl) (by decide+kernel) (by decide+kernel) (by decide+kernel) (by first|exact .inl (by decide+kernel)|exact .inr (by decide+kernel)) (by rw[T7];kernel_rfl)
theorem Ae:Slot "set_iterator" "__iter__" "set_iterator.__iter__":=.of (owner:="set_iterator") (n:="__iter__") (by rw[UJ,Tr];kernel_rfl) (by decide+kernel) (by decide+kernel) (by decide+kernel) (by first|exact .inl (by decide+kernel)|exact .inr (by decide+kernel)) (by rw[T7];kernel_rfl)
theorem vO:WJ table "set_iterator.__next__"=Xb S4.«set_iterator.__next__»:=V5 (by kernel_rfl)
theorem zK (a):argsOk "set_iterator.__next__" {[a],[]}:=by unfold argsOk;kernel_rfl
theorem Al:WJ table "set.__iter__"=Xb S4.«frozenset.__iter__»:=WN (id':="frozenset.__iter__") (by kernel_rfl) rfl (by decide+kernel) (by kernel_rfl)
def Ŏ(tx:Bool)(ord:Nat->Nat)(a b c:Option Tok):Array (Int×Q0):=if tx=true then W5 ord (cS a b c)else cS a b c
def jR(tx:Bool)(a b c:Option Tok)(i:Nat):Nat:=if tx=true then 0 else match i with
 |0=>0
 |j+1=>(zq a b c).getD j 0+1
abbrev ϲ(slot i:Nat)(S:Q1)(n ep:Nat):Obj:={ cls:=.type "set_iterator",data:=.fields #[Ux slot,Ux i,.ref S,Ux n,Ux ep] }
section
variable{prog:Program}{w:Rh}{A:Rv}{E:Q0->Q3->Prop}{s:Q3}{S:Q1}{a b c:Option Tok}{ep:Nat}
theorem FK(h:i<=(cS a b c).size):UW (zq a b c) (jR false a b c i)=i/\(zq a b c)[i]?=(cS a b c)[i]?.map λ_=>(zq a b c).getD i 0:=by
 have h3:=jC a b c;have i3:i=0\/i=1\/i=2\/i=3:=()
 rcases i3 with rfl|rfl|rfl|rfl<;>cases a<;>cases b<;>cases c<;>first|(simp[cS]at h;done)|(refine{?_,?_}<;>kernel_rfl)
theorem BX(ho:s.heap.get? S=Xb (ē a b c ep (!w.params.followText "set-order")))(h:i<=(cS a b c).size)
  (q:Q ((Ŏ (w.params.followText "set-order") (w.params.setOrder S ep) a b c)[i]?.map λe=>(e.2,jR (w.params.followText "set-order") a b c (i+1))) s):wpAny (Ri prog w) A (setNext S (jR (w.params.followText "set-order") a b c i) i ep) Q E s:=by
 unfold setNext
 refine QZ (Ss ho rfl (fY ..) ?_)
 refine QZ (pR ?_)
 cases hx:w.params.followText "set-order" with
 |true=>
  rw[hx]at ho q
  simp only[if_true,bne_self_eq_false,OT,if_false]
  unfold setWalk
  refine QZ (QZ (Ss ho rfl (fY ..) (QZ (pR ?_))))
  rw[hx]
  simp only[if_true]
  refine QZ (Ut (Q4 (Q4 ?_)))
  exact q
 |false=>
  rw[hx]at ho q
  simp only[OT,if_false]
  show wpAny _ _ (if false=true then _ else _) _ _ _
  simp only[OT,if_false]
  refine QZ (show wpAny _ _ (pure Unit.unit) _ _ _ from Q4 ?_)
  obtain⟨e1,e2⟩:=FK h
  refine Q4 ?_
  show Q (match (cS a b c)[UW (zq a b c) (jR false a b c i)]?,(zq a b c)[UW (zq a b c) (jR false a b c i)]? with|some (_,x),Xb j=>Xb (x,j+1)|_,_=>Xc) s
  rw[e1,e2]
  rw[show Ŏ false (w.params.setOrder S ep) a b c=cS a b c from rfl]at q
  cases he:(cS a b c)[i]? with
  |none=>rw[he]at q;exact q
  |some e=>rw[he]at q;exact q
def AF(w:Rh)(I S:Q1)(a b c:Option Tok)(ep i:Nat)(h:Rp):Prop:=h.get? I=Xb (ϲ (jR (w.params.followText "set-order") a b c i) i S (cS a b c).size ep)/\h.get? S=Xb (ē a b c ep (!w.params.followText "set-order"))
theorem Hu(ne:S≠I)(st:AF w I S a b c ep i s.heap)(h:i<=(cS a b c).size)(he:(Ŏ (w.params.followText "set-order") (w.params.setOrder S ep) a b c)[i]?=Xb e)
  (q:∀h',AF w I S a b c ep (i+1) h'->SK I s.heap h'->Q (Xb e.2) { s with heap:=h' }):wpAny (Ri prog w) A (US (.ref I)) Q E s:=by
 obtain⟨hI,hS⟩:=st
 have ty:s.TypeIs (.ref I) "set_iterator":={_,hI,rfl}
 unfold US
 refine QZ (wpAny_attempt (SF (name:=SV "__next__") ty kM (R0 kM ty vO ?_ (zK _))))
 show wpAny _ _ (fieldsOf (.ref I)>>=_) _ _ s
 refine QZ (QZ (Vm hI (Q4 ?_)))
 dsimp only[Ux]
 refine QZ (TQ hS rfl (fY ..) ?_)
 simp only[bne_self_eq_false,OT,if_false,Qo]
 refine QZ (BX hS h ?_)
 rw[he]
 dsimp only[Option.map]
 refine QZ (UX hI rfl (by simp) ?_)
 have h1:(s.heap.update I (Obj.mapFields (·.setIfInBounds 0 (Ux (jR (w.params.followText "set-order") a b c (i+1):Nat))))).get? I=Xb (ϲ (jR (w.params.followText "set-order") a b c (i+1)) i S (cS a b c).size ep):=RZ _ hI rfl
 refine QZ (UX h1 rfl (by simp) ?_)
 have h2:=RZ (Obj.mapFields (·.setIfInBounds 1 (Ux ((i:Int)+1)))) h1 rfl
 refine Q4 {_,rfl,Q4 (q _ {h2,?_} ?_)}
 ·exact(RV _ _ ne.symm).trans ((RV _ _ ne.symm).trans hS)
 exact(SY ..).trans (SY ..)
theorem J3(hh:A.handled=Xc)(st:AF w I S a b c ep (cS a b c).size s.heap)(he:(Ŏ (w.params.followText "set-order") (w.params.setOrder S ep) a b c)[(cS a b c).size]?=Xc)
  (q:∀h',Heap.ExtBut I s.heap h'->Q Xc { s with heap:=h' }):wpAny (Ri prog w) A (US (.ref I)) Q E s:=by
 obtain⟨hI,hS⟩:=st
 have ty:s.TypeIs (.ref I) "set_iterator":={_,hI,rfl}
 unfold US
 refine QZ (wpAny_attempt (SF (name:=SV "__next__") ty kM (R0 kM ty vO ?_ (zK _))))
 show wpAny _ _ (fieldsOf (.ref I)>>=_) _ _ s
 refine QZ (QZ (Vm hI (Q4 ?_)))
 dsimp only[Ux]
 refine QZ (TQ hS rfl (fY ..) ?_)
 simp only[bne_self_eq_false,OT,if_false,Qo]
 refine QZ (BX hS (Oc _) ?_)
 rw[he]
 dsimp only[Option.map]
 refine QZ (UX hI rfl (by simp) (QZ ?_))
 simp only[newExc,newTuple]
 refine QZ (Rt (QZ (m:=WO _ _) (wpAny_of_eq (a:=Tt) (by first|rfl|(simp only[WO];rfl)) (Rt ?_ (by size_fits)))) (by size_fits))
 simp only[raiseNew]
 refine QZ (wpAny_handled ?_)
 rw[show A.in1.handled=Xc from hh]
 refine QZ (Q4 (wpAny_throw ?_))
 refine QZ (Us (T:="StopIteration") (b:=true) {_,Rf _ rfl,rfl} isSubtype_stop ?_)
 exact Q4 (q _ (((SY ..).extBut.push _).push _))
end
theorem uU{α:Type}:∀{l:List α}{i:Nat}(h:i<l.length),(l[i]::l.eraseIdx i).Perm l
 |x::l,0,_=>WQ _
 |x::l,i+1,h=>((List.Perm.swap _ _ _).trans ((uU (l:=l) (i:=i) (by simpa using h)).cons x))
theorem B5{α:Type} (next):∀(n k:Nat)(left:List α)(out:Array α),left.length=n->(VQ next n k left out).toList.Perm (out.toList++left)
 |0,k,left,out,h=>by
  rw[List.length_eq_zero_iff.mp h];unfold VQ;simp
 |n+1,k,left,out,h=>by
  have lt:next k%left.length<left.length:=Nat.mod_lt _ ()
  unfold VQ;rw[Oa lt];dsimp only;refine(B5 next n (k+1) _ _ (by rw[List.length_eraseIdx_of_lt lt];lia)).trans ?_;rw[Array.toList_push,OV];exact List.Perm.append_left _ (uU lt)
theorem DR{α:Type} (next) (xs:Array α):(W5 next xs).toList.Perm xs.toList:=by
 have:=B5 next xs.size 0 xs.toList #[] (O8 ..)
 simpa [W5] using this
theorem Dx:WJ table "set_iterator.__iter__"=Xb S4.«dict_keyiterator.__iter__»:=WN (id':="dict_keyiterator.__iter__") (by kernel_rfl) rfl (by decide+kernel) (by kernel_rfl)
theorem Ef (a):argsOk "set_iterator.__iter__" {[a],[]}:=by unfold argsOk;kernel_rfl
section
variable{prog:Program}{w:Rh}{A:Rv}{E:Q0->Q3->Prop}{s:Q3}{S:Q1}{a b c:Option Tok}{ep:Nat}
theorem tO (tx ord):(Ŏ tx ord a b c).toList.Perm (cS a b c).toList:=by
 cases tx
 ·exact WQ _
 exact DR _ _
theorem qg (tx ord):(Ŏ tx ord a b c).size=(cS a b c).size:=by
 have:=(tO (a:=a) (b:=b) (c:=c) tx ord).length_eq;simpa using this
theorem AF.at(x:AF w I S a b c ep i h)(e:∀b∈[I,S],∀o,h.get? b=Xb o->h'.get? b=Xb o):AF w I S a b c ep i h':={e I (by simp) _ x.1,e S (by simp) _ x.2}
theorem DY(hh:A.handled=Xc)(I:Q1)(ne:S≠I):Walks prog w A I [I,S] [I] (cS a b c).size (λi v=>(Ŏ (w.params.followText "set-order") (w.params.setOrder S ep) a b c)[i]?.map (·.2)=Xb v) (λi h=>AF w I S a b c ep i h) where
 sub:=λb hb=>by simp at hb;simp[hb]
 frame:=λi h h' st k=>st.at k
 item:=λi s Q E hi st q=>by
  have lt:i<(Ŏ (w.params.followText "set-order") (w.params.setOrder S ep) a b c).size:=by rw[qg];exact hi
  refine Hu ne st (Pe hi) (PZ lt) λh' ĥ sb=>?_;exact q _ h' s.toks (by rw[PZ lt];rfl) ĥ λb o hb e=>by rw[sb.2 b (λz=>hb (by rw[z];simp))];exact e
 done:=λs Q E st q=>J3 hh st (UI (by rw[qg];exact Oc _)) λh' x=>q h' s.toks λb o hb e=>x b o (λz=>hb (by rw[z];simp)) e
 self:=λi s Q E st q=>by
  have ty:s.TypeIs (.ref I) "set_iterator":={_,st.1,rfl};refine VR ty Ae (R0 Ae ty Dx ?_ (Ef _));exact Q4 {_,rfl,"set_iterator",_,ty,kM.lookup,q}
theorem Ao:typeLookup (.type "set") "__len__"=pure (Xb (.builtin "set.__len__")):=by rw[UJ,Tr];kernel_rfl
theorem HY(ho:s.heap.get? S=Xb (ē a b c ep (!w.params.followText "set-order")))(q:Q (.ref s.heap.objs.size) { s with heap:=s.heap.push (ϲ 0 0 S (cS a b c).size ep) }):wpAny (Ri prog w) A (W6 (.ref S)) Q E s:=by
 have ty:s.TypeIs (.ref S) "set":={_,ho,rfl};refine VR ty UO (R0 UO ty Al ?_ (PySem.F.args_set_iter_1 _));unfold S4.«frozenset.__iter__»;refine QZ (show wpAny _ _ (pure S) _ _ _ from Q4 ?_);refine QZ (QZ (TQ ho rfl (fY ..) (Q4 ?_)));refine QZ (QZ (Ss ho rfl (fY ..) (QZ (pR ?_))));refine Q4 ?_;have e:(!w.params.followText "set-order"&&false)=false:=WC _;show wpAny _ _ (if(!w.params.followText "set-order"&&false)=true then _ else _) _ _ _;rw[e];simp only[OT,if_false];refine QZ (Q4 (QZ (QZ (Ss ho rfl (fY ..) (Q4 ?_)))));refine QZ (Rt (Q4 {_,rfl,"set_iterator",_,{_,Rf _ rfl,rfl},kM.lookup,q}))
theorem AD(hh:A.handled=Xc)(ho:s.heap.get? S=Xb (ē a b c ep (!w.params.followText "set-order")))
  (q:∀(s':Q3)(acc:Array Q0),s'.gens=s.gens->s'.drawn=s.drawn->s'.os=s.os->(∀b o,s.heap.get? b=Xb o->s'.heap.get? b=Xb o)->s.heap.objs.size<=s'.heap.objs.size->acc.toList=(Ŏ (w.params.followText "set-order") (w.params.setOrder S ep) a b c).toList.map (·.2)->Q acc.toList s'):wpAny (Ri prog w) A (collect (.ref S)) Q E s:=by
 have lS:S<s.heap.objs.size:=Rc ho
 unfold collect
 refine QZ (WM (Sg PySem.F.entry_proto_collect ?_))
 rw[RR PySem.F.plain_proto_collect _]
 refine QZ (m:=newList []) (Rt ?_)
 refine Q4 {S3 Uu _,Sg PySem.F.entry_list_iadd ?_}
 rw[RR Uu _]
 show wpAny _ A.in1 (TV (.ref s.heap.objs.size) (.ref S) (.ref s.heap.objs.size)) _ _ _
 have h1:(s.heap.push { cls:=.type "list",data:=.seq ([]:List Q0).toArray }).get? S=Xb (ē a b c ep (!w.params.followText "set-order")):=Q5 _ ho
 have h0:(s.heap.push { cls:=.type "list",data:=.seq ([]:List Q0).toArray }).get? s.heap.objs.size=Xb { cls:=.type "list",data:=.seq ([]:List Q0).toArray }:=Rf _ rfl
 have z1:(s.heap.push { cls:=.type "list",data:=.seq ([]:List Q0).toArray }).objs.size=s.heap.objs.size+1:=R9 ..
 generalize hH:s.heap.push { cls:=.type "list",data:=.seq ([]:List Q0).toArray }=H at h1 h0 z1⊢
 have ty:Vh { s with heap:=H } (.ref S) "set":=⟨_,h1,rfl⟩
 unfold TV
 refine QZ (Tj ty ?_)
 have k1:Ui (.ref s.heap.objs.size) (.ref S)=false:=by simp[Ui,Py lS]
 have k2:(Sd "set"==Sd "list")=false:=∅
 have k3:(Sd "set"==Sd "tuple")=false:=∅
 simp only[k1,k2,k3,Bool.or_false,OT,if_false]
 refine QZ (HY h1 ?_)
 have ň:=Q5 (ϲ 0 0 S (cS a b c).size ep) h1
 have ty':Vh { s with heap:=H.push (ϲ 0 0 S (cS a b c).size ep) } (.ref S) "set":=⟨_,ň,rfl⟩
 refine QZ (wpAny_holding ?_)
 unfold Builtin.List.listLengthHint
 refine QZ (Wl ty' Ao ?_)
 wp_delta
 refine QZ (Us (b:=true) ty' (by rw[T7];kernel_rfl) ?_)
 show wpAny _ A.in1 (typeOf (Rn S)>>=_) _ _ _
 refine QZ (Tj ty' (Q4 ?_))
 show wpAny _ A.in1 (rule "list.extend.makes-room">>=λ_=>Builtin.List.listTouch (.ref s.heap.objs.size)>>=λ_=>again (.builtin "list.extend.loop" {[.ref s.heap.objs.size,.ref H.objs.size,.ref s.heap.objs.size],[]})) _ _ _
 refine QZ (Vx (QZ ?_))
 have h0':=Q5 (ϲ 0 0 S (cS a b c).size ep) h0
 have hI:(H.push (ϲ 0 0 S (cS a b c).size ep)).get? H.objs.size=Xb (ϲ 0 0 S (cS a b c).size ep):=Rf _ rfl
 generalize hH2:H.push (ϲ 0 0 S (cS a b c).size ep)=H2 at h0' hI ň⊢
 show wpAny _ A.in1 (updateSeq s.heap.objs.size (·.push .none)>>=λ_=>updateSeq s.heap.objs.size (·.pop)) _ _ _
 refine QZ (Wo h0' rfl ?_)
 have g2:=RZ (SR (·.push Tt)) h0' rfl
 refine Wo (hz:=by seq_fits) g2 rfl ?_
 have g3:=RZ (SR (·.pop)) g2 rfl
 have oth:∀b o,b≠s.heap.objs.size->H2.get? b=Xb o->((H2.update s.heap.objs.size (SR (·.push Tt))).update s.heap.objs.size (SR (·.pop))).get? b=Xb o:=λb o hb e=>(RV _ _ (Pn hb)).trans ((RV _ _ (Pn hb)).trans e)
 have nS:S≠s.heap.objs.size:=OD lS
 have nI:H.objs.size≠s.heap.objs.size:=by rw[z1];exact Nat.succ_ne_self _
 have nSI:S≠H.objs.size:=by rw[z1];exact OD (Pj lS)
 have e0:jR (w.params.followText "set-order") a b c 0=0:=by unfold jR;split<;>rfl
 have W:=DY (prog:=prog) (w:=w) (A:=A.in1) (a:=a) (b:=b) (c:=c) (ep:=ep) (by simp[hh]) H.objs.size nSI
 refine Q4 {S3 PySem.F.plain_extend_loop _,codeAny_extend_loopS W.toS (Ol (jC a b c) ∅) _ ?_ _ (cS a b c).size 0 _ _ _ rfl (Oj _) {?_,oth _ _ nS ň} g3 (ItemsOf.nil _) λs' acc' c' mv hL ŀ=>?_}
 ·simp only[Ob,Ou,or_false,not_or];exact⟨nI.symm,nS.symm⟩
 ·rw[e0];exact oth _ _ nI hI
 show wpAny _ A (load s.heap.objs.size>>=_) _ _ s'
 refine QZ (Vm hL (Q4 ?_))
 have old:∀b o,s.heap.get? b=Xb o->s'.heap.get? b=Xb o:=λb o e=>by
  have lt:=Rc e;refine mv.heap b o (λm=>?_) (oth b o (OD lt) (by rw[<-hH2,<-hH];exact Q5 _ (Q5 _ e)));simp only[Ob,Ou,or_false]at m;rcases m with m|m
  ·exact absurd lt (by rw[m];exact OL _)
  rw[m,z1]at lt;exact absurd lt (Nat.not_lt.mpr (Pr _))
 refine q s' acc' mv.gens mv.drawn mv.os old ?_ ?_
 ·exact Pe (Rc hL)
 refine VS λi=>?_
 rw[Oi,Pd,Pd]
 cases e:acc'[i]? with
 |some v=>exact(ŀ.2 i v e).symm
 |none=>
  have:=Array.getElem?_eq_none_iff.mp e
  rw[UI (by rw[qg,<-ŀ.1];exact this)]
  rfl
theorem Dj(hh:A.handled=Xc)(ho:s.heap.get? S=Xb (ē a b c ep (!w.params.followText "set-order")))(hn:TU ((Ŏ (w.params.followText "set-order") (w.params.setOrder S ep) a b c).toList.map (·.2)) ns)
  (q:∀h' tk L e out Ī,(∀b o,s.heap.get? b=Xb o->h'.get? b=Xb o)->s.heap.objs.size<=L->h'.get? L=Xb (Xa "list" out e)->TU out.toList Ī->Ī.Perm ns->Ī.Pairwise (· <= ·)->Q (.ref L) { s with heap:=h',toks:=tk }) :
  wpAny (Ri prog w) A (call (.builtin "sorted") [.ref S]) Q E s:=by
 refine Calls.call_function_entry kind_sorted plain_sorted entry_sorted (args_sorted1 _) ?_
 unfold S4.«sorted»
 refine QZ (m:=checkCount "sorted" 1 1 _) (Q4 ?_)
 refine QZ (AD (by simp[hh]) ho λs1 acc g1 g2 g3 old sz ŀ=>?_)
 obtain⟨h1,gn,dr,tk,os⟩:=s1
 obtain rfl:gn=s.gens:=g1
 obtain rfl:dr=s.drawn:=g2
 obtain rfl:os=s.os:=g3
 rw[ŀ]
 have l4:((Ŏ (w.params.followText "set-order") (w.params.setOrder S ep) a b c).toList.map (·.2)).length<64:=by
  have h3:=jC a b c;rw[N3,O8,qg];lia
 generalize (Ŏ (w.params.followText "set-order") (w.params.setOrder S ep) a b c).toList.map (·.2)=vs at hn l4
 refine QZ (wpAny_newList ?_)
 have hL:(h1.push (Xa "list" vs.toArray 0)).get? h1.objs.size=Xb (Xa "list" vs.toArray 0):=Rf _ rfl
 refine QZ (wpAny_holding (R0 slot_list_sort {_,hL,rfl} entry_list_sort (list_sort_tree hL hn l4 λout Ī a1 a2 a3=>{_,rfl,?_}) (args_list_sort _)))
 have lt:h1.objs.size<(h1.push (Xa "list" vs.toArray 0)).objs.size:=Rc hL
 obtain⟨e,he⟩:=sortedHeap_at (out:=out) hL
 refine Q4 {_,rfl,q (sortedHeap (h1.push (Xa "list" vs.toArray 0)) h1.objs.size vs out) tk h1.objs.size e out Ī (λb o hb=>?_) sz he a1 a2 a3}
 have hb1:=old b o hb
 have lb:=Rc hb1
 exact(sortedHeap_old (OD lb) (Nat.lt_trans lb lt)).trans (Q5 _ hb1)
end
theorem Paired.Ny{α β:Type}{F}{x:α}{y:β}(h:F x y){a:List α}{b:List β}(r:Paired F a b):Paired F (a++[x]) (b++[y]):=r.snoc h
theorem dO{α:Type}{K a xs own fr g tf te Q B H1}(src:List α) (p) (R:α->V->Hp->Prop) (hx:À K H1 a xs) (hl:xs.length=src.length) (hn:xs.length<sizeLine)
  (he:∀(b:CB)(i:Nat)(x:V)(e:α)(v0:St)(H:Hp)(N:St->Hp->Prop)(Y:St->V->Hp->Prop),xs[i]?=Xb x->src[i]?=Xb e->v0.length=own->aq H1 H->
   (p e=false->∀v1 H',v1.length=own->aq H H'->N (v1++Ŗ fr B) H')->(p e=true->∀v1 y H',v1.length=own->aq H H'->R e y H'->Y (v1++Ŗ fr B) y H')->
   g b x (v0++Ŗ fr B) H λσ3 H3=>tf b σ3 H3 λk H4=>if k=true then te b σ3 H4 λy H5=>Y σ3 y H5 else N σ3 H4)
  (mono:∀e y H H',aq H H'->R e y H->R e y H') (st:∀e y H D ys zs,H D=Xb (.lst ys)->R e y H->R e y (upd H D (.lst zs)))
  (fin:∀D H ys,H1 D=Xc->aq H1 H->H D=Xb (.lst ys)->Paired (λe y=>R e y H) (src.filter p) ys->Q (.ref D) H):yj (Itl K a) own fr g tf te Q B H1:=by
 refine⟨λb D hD=>?_⟩
 refine{λi m B' H'=>m=xs.length-i/\i<=xs.length/\(∃v0,B'=v0++Ŗ fr B/\v0.length=own)/\aq H1 H'/\∃ys,H' D=Xb (.lst ys)/\ys.length<=i/\Paired (λe y=>R e y H') ((src.take i).filter p) ys,{xs.length,rfl,Oj _,⟨Rj own Xc,rfl,OY ..⟩,aq.upd hD _,[],av,Oc _,.nil},?_}
 rintro i m B' H' ⟨rfl,hi,⟨v0,rfl,hv⟩,sm,ys,hL,hy,hR⟩
 by_cases í:i<xs.length
 ·have hs:i<src.length:=()
  refine .inr {{xs,xs[i],sm.seq hx,Oa í},λσ2 H2=>(∃v0,σ2=v0++Ŗ fr B/\v0.length=own)/\aq H1 H2/\∃ys,H2 D=Xb (.lst ys)/\ys.length<=i+1/\Paired (λe y=>R e y H2) ((src.take (i+1)).filter p) ys,λσ2 H2 q=>{xs.length-(i+1),(),rfl,í,q},λv H2 y=>?_};obtain⟨rfl,y2⟩:=y;have e:=y2 xs (sm.seq hx);have tk:src.take (i+1)=src.take i++[src[i]]:=by rw[OG,Oa hs];rfl
  refine he b i v src[i] v0 _ _ _ e (Oa hs) hv sm (λpf v1 H3 h1 s3=>?_) (λpt v1 y H3 h1 s3 r3=>?_)
  ·refine{⟨v1,rfl,h1⟩,sm.trans s3,ys,s3 _ _ hL,(),?_};rw[tk,O0,P6 (by rw[pf];exact Of),Pg,OF];exact Paired.eX hR λe y z=>mono _ _ _ _ s3 z
  have Ε:=s3 _ _ hL;refine{ys,Ε,(),⟨v1,rfl,h1⟩,?_,ys++[y],av,by simp;lia,?_}
  ·intro c o q;by_cases hc:c=D
   ·rw[hc,hD]at q;cases q
   rw[aM hc];exact(sm.trans s3) c o q
  rw[tk,O0,P7 pt,Pg];exact Paired.Ny (F:=λe y'=>R e y' (upd H3 D (.lst (ys++[y])))) (st _ _ _ _ _ _ Ε r3) (Paired.eX hR λe y z=>st _ _ _ _ _ _ Ε (mono _ _ _ _ s3 z))
 have e:i=xs.length:=()
 subst e
 rw[hl,Ov]at hR
 exact .inl {{xs,sm.seq hx,Oc _},fin D H' ys hD sm hL hR}
theorem pZ{K a xs own fr g tf te Q B H1}(Pv:Q1->Nat->List V->Hp->Prop)(hx:À K H1 a xs)(hn:xs.length<sizeLine)(h0:∀D,H1 D=Xc->Pv D 0 [] (upd H1 D (.lst [])))
  (he:∀(b:CB)(D:Q1)(i:Nat)(x:V)(v0:St)(H:Hp)(ys:List V)(N:St->Hp->Prop)(Y:St->V->Hp->Prop),xs[i]?=Xb x->v0.length=own->H1 D=Xc->aq H1 H->H D=Xb (.lst ys)->Pv D i ys H->
   (∀v1 H',v1.length=own->aq H H'->Pv D (i+1) ys H'->N (v1++Ŗ fr B) H')->(∀v1 y H',v1.length=own->aq H H'->Pv D (i+1) (ys++[y]) (upd H' D (.lst (ys++[y])))->Y (v1++Ŗ fr B) y H')->
   g b x (v0++Ŗ fr B) H λσ3 H3=>tf b σ3 H3 λk H4=>if k=true then te b σ3 H4 λy H5=>Y σ3 y H5 else N σ3 H4)
  (fin:∀D H ys,H1 D=Xc->aq H1 H->H D=Xb (.lst ys)->Pv D xs.length ys H->Q (.ref D) H):yj (Itl K a) own fr g tf te Q B H1:=by
 refine⟨λb D hD=>?_⟩
 refine{λi m B' H'=>m=xs.length-i/\i<=xs.length/\(∃v0,B'=v0++Ŗ fr B/\v0.length=own)/\aq H1 H'/\∃ys,H' D=Xb (.lst ys)/\ys.length<=i/\Pv D i ys H',{xs.length,rfl,Oj _,⟨Rj own Xc,rfl,OY ..⟩,aq.upd hD _,[],av,Oc _,h0 D hD},?_}
 rintro i m B' H' ⟨rfl,hi,⟨v0,rfl,hv⟩,sm,ys,hL,hy,hR⟩
 by_cases í:i<xs.length
 ·refine .inr {{xs,xs[i],sm.seq hx,Oa í},λσ2 H2=>(∃v0,σ2=v0++Ŗ fr B/\v0.length=own)/\aq H1 H2/\∃ys,H2 D=Xb (.lst ys)/\ys.length<=i+1/\Pv D (i+1) ys H2,λσ2 H2 q=>{xs.length-(i+1),(),rfl,í,q},λv H2 y=>?_};obtain⟨rfl,y2⟩:=y;have e:=y2 xs (sm.seq hx);refine he b D i v v0 _ ys _ _ e hv hD sm hL hR (λv1 H3 h1 s3 p3=>?_) (λv1 y H3 h1 s3 p3=>?_)
  ·exact{⟨v1,rfl,h1⟩,sm.trans s3,ys,s3 _ _ hL,(),p3}
  refine{ys,s3 _ _ hL,(),⟨v1,rfl,h1⟩,?_,ys++[y],av,by simp;lia,p3};intro c o q;by_cases hc:c=D
  ·rw[hc,hD]at q;cases q
  rw[aM hc];exact(sm.trans s3) c o q
 have e:i=xs.length:=()
 subst e
 exact .inl {{xs,sm.seq hx,Oc _},fin D H' ys hD sm hL hR}
def š(ns:List Int):List Int:=[0,1,2].filter λr=>decide (r∈ns)
theorem oX:∀{l:List (Int×Q0)},(∀e∈l,∃t,e.2=Sx e.1 t)->TU (l.map (·.2)) (l.map (·.1))
 | [],_=>.nil
 | (n,v)::l,h=>by
  obtain⟨t,e⟩:=h (n,v) N9;have e:v=.int n t:=e;subst e;exact .cons _ _ (oX λe he=>h e (N8 _ he))
theorem Kt (a b c):(∀e∈(cS a b c).toList,∃t,e.2=Sx e.1 t):=by
 intro e he;cases a<;>cases b<;>cases c<;>simp[cS]at he<;>rcases he with rfl|rfl|rfl<;>exact{_,rfl}
theorem IK(ns:List Int)(r:Int):((Rz ns.length).any λj=>decide (ns.getD j 0=r))=decide (r∈ns):=by
 rw[OW,Pq,decide_eq_true_iff];constructor
 ·rintro⟨j,hj,e⟩;have hj:=Pm.mp hj;have e:=of_decide_eq_true e;rw[OI,Oa hj]at e;exact e▸Qf hj
 intro m;obtain⟨j,hj,e⟩:=Vb m;refine{j,Pm.mpr hj,decide_eq_true ?_};rw[OI,Oa hj];exact e
theorem LQ(h:EL (λi=>ns.getD i 0) ns.length a b c):(cS a b c).toList.map (·.1)=š ns:=by
 obtain⟨h0,h1,h2⟩:=h;rw[IK]at h0 h1 h2;unfold š;simp only[Qt,Pg,<-h0,<-h1,<-h2];cases a<;>cases b<;>cases c<;>rfl
theorem AJ (ns):(š ns).Pairwise (· <= ·):=List.Pairwise.filter _ ∅
theorem xP{a b:List Int}(p:a.Perm b)(h:a.Pairwise (· <= ·))(h':b.Pairwise (· <= ·)):a=b:=p.eq_of_pairwise (λ_ _ _ _ x y=>Int.le_antisymm x y) h h'
theorem nX:∀{ns:List Int}{us:List Q0},Xf (ns.map V.int) us->TU us ns
 | [],_,h=>by cases h;exact .nil
 |n::ns,_,h=>by
  cases h with
  |cons h r=>
   obtain⟨t,rfl⟩:=h;exact .cons _ _ (nX r)
section
variable{X:Cx}
theorem we:eK X (.builtin "sorted") (λxs H Q=>∃(p:Q1)(ns:List Int),xs=[.ref p]/\À X.K H p (ns.map V.int)/\ns.length<64/\∀(l:Q1)(Ī:List Int),Ī.Perm ns->Ī.Pairwise (· <= ·)->H l=Xc->Q (.ref l) (upd H l (.lst (Ī.map V.int)))):=by
 intro pins s B H xs us Q I r h;obtain⟨p,ns,rfl,hq,hn,q⟩:=h;obtain⟨u,rfl,rx⟩:=Xq r;cases rx;obtain⟨Â,rv,pl,hz⟩:=I.list hq;have el:=rv.length;rw[N3]at el;have hp:s.heap.objs.size<=s.heap.objs.size+1:=Pr _;have hN:H (s.heap.objs.size+1)=Xc:=I.Ç.fresh hp;refine sorted_ints pl.isList (nX rv) () λout Ī a1 a2 a3=>{.ref (s.heap.objs.size+1),_,I.laid (t':=s.toks) (λb o e=>sortedAll_old e) hp ?_,rfl,q _ Ī a2 a3 hN};obtain⟨e,he⟩:=sortedAll_at s.heap Â out;have l2:=(ox a1).length;have l3:=a2.length_eq;rw[N3]at l2;exact{by rw[N3];exact Ol (show Ī.length<=64 by lia) ∅,out.toList,e,ox a1,by rw[Qh];exact he}
def Ar(K:Q6)(t:TA):TE:=λB H Q=>t B H λxs H1=>∃(p:Q1)(ns:List Int),xs=[.ref p]/\À K H1 p (ns.map V.int)/\(∀n∈ns,n=0\/n=1\/n=2)/\∀l,H1 l=Xc->Q (.ref l) (upd H1 l (.lst ((š ns).map V.int)))
theorem yn(hm:X.mg "sorted"=Xc)(hm':X.mg "set"=Xc)(ha:PA X [e] t)(hc:X.calm=true:=by rfl)(hg:Gl X "sorted":=by rfl)(hg':Gl X "set":=by rfl)
  (he:Q8 [.Call (.Name "set" p') [e] [] pos'] X.env=(false,RB (.Call (.Name "set" p') [e] [] pos') X.env)::Q8 [] X.env:=by rfl) (Ā:(RC pos (Q8 [] X.env)).any (·.1)=false:=by rfl)
  (Ũ:Q8 [e] X.env=(false,RB e X.env)::Q8 [] X.env:=by rfl) (hpl':(RC pos' (Q8 [] X.env)).any (·.1)=false:=by rfl):PE X (.Call (.Name "sorted" p) [.Call (.Name "set" p') [e] [] pos'] [] pos) (Ar X.K t):=by
 intro pins s B H Q I h
 refine RG (jL I hg hm (by boot_by_name) ?_)
 refine SE ?_ he Ā
 rw[he]
 show wpAny _ _ (VE ((false,RB (.Call (.Name "set" p') [e] [] pos') X.env)::RC pos (Q8 [] X.env))) _ _ s
 refine T3 ?_
 refine RG (jL I hg' hm' (by boot_by_name) ?_)
 refine RD (Ë (ha pos' pins s B H _ I h) λus s1 ⟨vs,H1,I1,r1,q1⟩=>?_) Ũ hpl'
 obtain⟨l,ns,rfl,hl,h3,q⟩:=q1
 obtain⟨u,rfl,rx⟩:=Xq r1
 cases rx
 obtain⟨Â,rv,pl,hz⟩:=I1.list hl
 have el:=rv.length
 rw[N3]at el
 have hA:=I.ok.hd hc
 have iv:=nX rv
 refine yU (val:=λi=>ns.getD i 0) hA pl.isList (λi v hi=>?_) (λi v hi=>?_) λh' tk x y z ep hS rk old=>?_
 ·rw[UP]at hi;obtain⟨n,t,e,en⟩:=iv.at i v hi;refine{t,?_};rw[e];show _=Sx (ns.getD i 0) t;rw[OI,en];rfl
 ·rw[UP]at hi;obtain⟨n,t,e,en⟩:=iv.at i v hi;have:=h3 n (Oe en);rw[OI,en];exact this
 have I2:Inv X pins B H1 { s1 with heap:=h',toks:=tk }:=I1.kept λb o e=>old b o (Rc e) e
 show wpAny _ _ (VE (RC pos (Q8 [] X.env))) _ _ _
 refine Ub ?_
 have sz:Â.toArray.size=ns.length:=by simp[el]
 rw[sz]at rk
 have hn:=oX (l:=(Ŏ (X.w.params.followText "set-order") (X.w.params.setOrder s1.heap.objs.size ep) x y z).toList) (λe he=>Kt x y z e ((List.Perm.mem_iff (tO _ _)).mp he))
 refine Dj hA hS hn λh2 tk2 L e2 out Ī old2 sL hL ia pm pw=>?_
 have en:Ī=š ns:=by
  refine xP ?_ pw (AJ ns);rw[<-LQ rk];exact pm.trans (List.Perm.map _ (tO _ _))
 subst en
 have hf:H1 L=Xc:=I2.Ç.fresh sL
 refine{.ref L,upd H1 L (.lst ((š ns).map V.int)),I2.laid (t':=tk2) old2 sL ?_,rfl,q L hf}
 have l3:(š ns).length<=3:=OM _ _
 exact{by rw[N3];exact Ol l3 ∅,out.toList,e2,ox ia,by rw[Qh];exact hL}
end
section
variable{prog:Program}{w:Rh}{A:Rv}{E:Q0->Q3->Prop}{s:Q3}
end
section
variable{X:Cx}{pins:List (Q1×Obj)}{B:St}{H:Hp}{s:Q3}
end
section
variable{X:Cx}{tg:Expr}
end
abbrev gK(us ws:List Q0):List Q0:=us++ws.take 1
abbrev gKV(vs zs:List V):List V:=vs++zs.take 1
def xC(P:Program)(w:Rh)(K:Q6)(mg:Str->Option Q0)(base:Rp)(k:Nat)(x:Str)(ps:List Str)(dvs:List V)(sp:Sp):Prop:=
 ∃f fd ds,j2 P w K mg base Ľ k f fd ps sp/\Xj K fd ps []/\Xj K fd ps ds/\Xf dvs ds/\Sh K (.ref f)=true/\mg x=Xb (.ref f)/\(∃oc od ú,K.lookup f=Xb ⟨oc,od,.func fd,ú⟩)/\xO K fd ps [ps.getLastD RE] gK gKV
section
variable{P:Program}{w:Rh}{K:Q6}{mg:Str->Option Q0}{base:Rp}{k:Nat}{x:Str}{ps:List Str}{dvs:List V}{sp:Sp}
theorem xC.d(D:xC P w K mg base k x ps dvs sp):Bb P w K mg base k x ps dvs sp:=by
 obtain⟨f,fd,ds,F,b,b2,v,kp,m,l,_⟩:=D;exact⟨f,fd,ds,F,b,b2,v,kp,m,l⟩
theorem xC.has(D:xC P w K mg base k x ps dvs sp):ę P w K mg base k x ps sp:=D.d.has
structure pI(K:Q6)(mg:Str->Option Q0)(x:Str)(st:Rl)(ps:List Str)(dvs:List V):Prop where
 ex:∃(f:Q1)(oc:Q0)(od:Option Q1)(dV kV doc pm:Q0)(an:Option Q1)(Ä ct:Q0)(ú:Array (Option Q0))(ds:List Q0),K.lookup f=Xb {oc,od,.func (R5 x x (bT st) (bC st) (au st) dV kV doc pm an Ä ct),ú}/\TC K Ä x=true/\Sh K (.ref f)=true/\mg x=Xb (.ref f)/\Xf dvs ds/\
  Xj K (R5 x x (bT st) (bC st) (au st) dV kV doc pm an Ä ct) ps []/\Xj K (R5 x x (bT st) (bC st) (au st) dV kV doc pm an Ä ct) ps ds/\xO K (R5 x x (bT st) (bC st) (au st) dV kV doc pm an Ä ct) ps [ps.getLastD RE] gK gKV
abbrev pI.Hz{st:Rl}(_:pI K mg x st ps dvs)(P:Program)(w:Rh)(base:Rp)(k:Nat)(sp:Sp):Prop:=xC P w K mg base k x ps dvs sp
theorem pI.hs{st N}(F:pI K mg x st ps dvs)(S:aE N ps (au st))
  (õ:∀f Ä A outer s H vs Q E,fu k (A.deeper (SX x (au st) s.heap.objs.size f Ä))->(A.deeper (SX x (au st) s.heap.objs.size f Ä)).units+64<Sy->sp vs H Q E->
   ∃t,ď (vk Ľ P w K mg base N x (au st) f Ä A outer s H E).ϕ (bC st) t/\t { nx:=λ_ H'=>Q .Ê H',rt:=Q } (Xn N vs) H) (len:∀vs H Q E,sp vs H Q E->vs.length=ps.length:=by intro _ _ _ _ h;cases h;subst_vars;rfl):xC P w K mg base (k+1) x ps dvs sp:=by
 obtain⟨f,oc,od,dV,kV,doc,pm,an,Ä,ct,ú,ds,lk,ķ,kp,m,hv,b1,b2,b3⟩:=F.ex
 refine{f,_,ds,Eh lk ķ S len λA outer s H vs Q E hr ť=>?_,b1,b2,hv,kp,m,⟨oc,od,ú,lk⟩,b3}
 obtain⟨t,h,q⟩:=õ f Ä A outer s H vs Q E hr hr.units ť
 exact⟨t,h.ϕ,q⟩
end
theorem vY(D:xC X.prog X.w X.K X.mg X.base j x ps dvs sp)(hr:fu k X.A)(ha:PA X (e::es) t)(hv:PE X v tv)(hj:j<=k:=by decide)(hn:ps.getLastD RE=nm:=by rfl)(hg:Gl X x:=by rfl)
  (đ:(x==("__debug__":Str))=false:=by decide) (he:Q8 (e::es) X.env=(false,RB e X.env)::Q8 es X.env:=by rfl) (Ā:((RC pos (Q8 (e::es) X.env)).any (·.1)||(Sz pos (RQ [⟨Xb nm,v,kpos⟩] X.env)).any (·.1.isNone))=false:=by rfl) :
  PE X (.Call (.Name x p) (e::es) [⟨Xb nm,v,kpos⟩] pos) (FH sp gKV E0 t (yN tv C5)):=by
 obtain⟨f,fd,ds,F,_,_,_,kp,m,_,b⟩:=D
 subst hn
 exact GJ F (hr.mono hj) hg m kp b vU ha (HF hv Js) rfl rfl đ he Ā
theorem vZ(ns:List Int)(nd:ns.Nodup):∀i,i<=ns.length->(firstMet (λi=>ns.getD i 0) i).length=i
 |0,_=>rfl
 |i+1,h=>by
  rw[firstMet_succ,step_length,firstMet_any,vZ ns nd i ()];refine if_neg λhm=>?_;obtain⟨x,hx,e⟩:=Pq.mp hm;obtain⟨j,hj,rfl⟩:=Oq.mp hx;have hj:=Pm.mp hj;have e:=eq_of_beq e;simp only[OI]at e;rw[Oa (),Oa ()]at e;exact OD hj ((Qd nd).mp e)
def Io(K:Q6)(t:TA):TE:=λB H Q=>t B H λxs H1=>∃(p:Q1)(ns:List Int),xs=[.ref p]/\À K H1 p (ns.map V.int)/\ns.Nodup/\ns.length<=64/\Q (.int ((ns.length:Nat):Int)) H1
theorem DG{X:Cx}{p p' pos pos':Pos}{e:Expr}{t:TA}(hm:X.mg "len"=Xc)(hm':X.mg "set"=Xc)(ha:PA X [e] t)(hc:X.calm=true:=by rfl)(hg:Gl X "len":=by rfl)(hg':Gl X "set":=by rfl)
  (he:Q8 [.Call (.Name "set" p') [e] [] pos'] X.env=(false,RB (.Call (.Name "set" p') [e] [] pos') X.env)::Q8 [] X.env:=by rfl) (Ā:(RC pos (Q8 [] X.env)).any (·.1)=false:=by rfl)
  (Ũ:Q8 [e] X.env=(false,RB e X.env)::Q8 [] X.env:=by rfl) (hpl':(RC pos' (Q8 [] X.env)).any (·.1)=false:=by rfl):PE X (.Call (.Name "len" p) [.Call (.Name "set" p') [e] [] pos'] [] pos) (Io X.K t):=by
 intro pins s B H Q I h
 refine RG (jL I hg hm (by boot_by_name) ?_)
 refine SE ?_ he Ā
 rw[he]
 show wpAny _ _ (VE ((false,RB (.Call (.Name "set" p') [e] [] pos') X.env)::RC pos (Q8 [] X.env))) _ _ s
 refine T3 ?_
 refine RG (jL I hg' hm' (by boot_by_name) ?_)
 refine RD (Ë (ha pos' pins s B H _ I h) λus s1 ⟨vs,H1,I1,r1,q1⟩=>?_) Ũ hpl'
 obtain⟨l,ns,rfl,hl,nd,h64,q⟩:=q1
 obtain⟨u,rfl,rx⟩:=Xq r1
 cases rx
 obtain⟨Â,rv,pl,hz⟩:=I1.list hl
 have el:=rv.length
 rw[N3]at el
 have hA:=I.ok.hd hc
 have sz:Â.toArray.size=ns.length:=by simp[el]
 refine PySem.call_set_list (ns:=ns) hA pl.isList (nX rv) (by rw[sz];unfold WZ;lia) λh' tk hS old=>?_
 rw[sz]at hS
 have I2:Inv X pins B H1 { s1 with heap:=h',toks:=tk }:=I1.kept λb o e=>old b o (Rc e) e
 show wpAny _ _ (VE (RC pos (Q8 [] X.env))) _ _ _
 refine Ub ?_
 obtain⟨o,es,ep,t,ho,hex,hd,_,_,_,hf,hn⟩:=hS
 rw[vZ ns nd _ (Oc _)]at hn
 refine PySem.call_len_set ho hex hd hf () {.int _,H1,I2.kept λ_ _ e=>e,{_,rfl},?_}
 rw[hn]
 exact q
end L2
namespace K52
open PySem L2
local macro_rules|`($a^ae)=>`(aa $a ae)
local macro_rules|`($a^$b^$c)=>`(aa $a ($b^$c))
theorem Ì{N P:List Str}{sc:TZ}(k:sc.kind=.function:=by rfl)(c:sc.isCoroutine=false:=by rfl)(g:sc.isGenerator=false:=by rfl)(n:N.Nodup:=by decide+kernel)(p:N.take P.length=P:=by rfl)(q:∀x∈P,sc.names.lookup x=Xb .local\/sc.names.lookup x=Xb .cell:=by decide+kernel)(f:∀y∈sc.names,y.2≠ .free:=by decide+kernel):aE N P sc:=⟨k,c,g,n,p,q,f⟩
theorem px{X:Cx}{a b:Expr}{ta tb:TE}{pos:Pos}(hu:X.A.units+64<Sy)(ha:PE X a ta)(hb:PE X b tb)(hs:BO b:=by exact λ_ _=>rfl):PE X (.Subscript a b pos) (tOp (Mz X.K) ta tb):=LY (Jx hu) ha hb hs
theorem Õ{X:Cx}{pos:Pos}{i:Nat}{x:Str}(hN:X.N.Nodup)(hi:X.N[i]?=Xb x)(hx:Loc X.env.scope x:=by first|exact N6 rfl|exact Oo rfl)(hf:X.fn x=true\/X.env.scope.names.lookup x=Xb .local:=by first|exact .inl rfl|exact .inr rfl|assumption):PG X (.Name x pos) (uC i):=BF hN hi hx hf
theorem Æ{X:Cx}(i:Nat){x:Str}{e:Expr}{te:TE}{pos pos':Pos}(hN:X.N.Nodup)(he:PE X e te)(hi:X.N[i]?=Xb x:=by rfl)(hx:Loc X.env.scope x:=by first|exact N6 rfl|exact Oo rfl)(hs:U2 e (Xb (.Name x pos')) pos.line X.env=pure false:=by rfl)(hf:X.fn x=true\/X.env.scope.names.lookup x=Xb .local:=by first|exact .inl rfl|exact .inr rfl|assumption):PS X (.Assign [.Name x pos'] e pos) (GP te (uC i)):=Kk hN hi hx he hs hf
theorem Ó{X:Cx}{id:String}{r:List V->Hp->VK->Prop}{x:Str}{e:Expr}{es:List Expr}{t:TA}{p pos:Pos}(hc:eK X (.builtin id) r)(hm:X.mg x=Xc)(ha:PA X (e::es) t)(hg:Gl X x:=by rfl)(hv:So x=Xb (.builtin id):=by boot_by_name)(hn:x≠"__name__":=by decide)(đ:(x==("__debug__":Str))=false:=by decide)(he:Q8 (e::es) X.env=(false,RB e X.env)::Q8 es X.env:=by rfl)(Ā:(RC pos (Q8 es X.env)).any (·.1)=false:=by rfl):PE X (.Call (.Name x p) (e::es) [] pos) (tCB r t):=Es hc hg hm hv ha hn đ he Ā
theorem Ĵ{X:Cx}{T:String}{r:List V->Hp->VK->Prop}{x:Str}{e:Expr}{es:List Expr}{t:TA}{p pos:Pos}(hc:eK X (.type T) r)(hm:X.mg x=Xc)(ha:PA X (e::es) t)(hg:Gl X x:=by rfl)(hv:So x=Xb (.type T):=by boot_by_name)(hn:x≠"__name__":=by decide)(đ:(x==("__debug__":Str))=false:=by decide)(he:Q8 (e::es) X.env=(false,RB e X.env)::Q8 es X.env:=by rfl)(Ā:(RC pos (Q8 es X.env)).any (·.1)=false:=by rfl):PE X (.Call (.Name x p) (e::es) [] pos) (tCB r t):=Di hc hg hm hv ha hn đ he Ā
theorem Ð{X:Cx}{a b:Expr}{ta tb:TE}{pos:Pos}{op:CmpOp}{r:R2}(ho:Ô X (Rk op) r)(ha:PE X a ta)(hb:PE X b tb)(hm:S2 op b=false:=by exact EW _):PT X (.Compare a [op] [b] pos) (Jn (tOp r ta tb)):=Iy ho ha hb hm
theorem pec{X:Cx}{a b:Expr}{ta tb:TE}{pos:Pos}{op:CmpOp}{r:R2}(ho:Ô X (Rk op) r)(ha:PE X a ta)(hb:PE X b tb)(hm:S2 op b=false:=by exact EW _):PE X (.Compare a [op] [b] pos) (tOp r ta tb):=IH ho ha hb hm
abbrev Am:Rl:=top 2
theorem G4:aE ["rank"] ["rank"] (au Am):=Ì
abbrev ue:Rl:=top 3
theorem CW:aE ["one","other"] ["one","other"] (au ue):=Ì
abbrev EG:Rl:=top 4
theorem KU:aE ["bits"] ["bits"] (au EG):=Ì
abbrev AZ:Rl:=top 5
theorem G7:aE ["bits","rank"] ["bits","rank"] (au AZ):=Ì
abbrev pS:Rl:=top 7
theorem nq:aE ["value","names","thing"] ["value"] (au pS):=Ì
abbrev nH:Rl:=top 9
theorem lB:aE ["names","found","name"] ["names"] (au nH):=Ì
abbrev rJ:Rl:=top 26
theorem uX:aE ["rows","known"] ["rows","known"] (au rJ):=Ì
abbrev j6:Rl:=top 27
theorem iV:aE ["row","known","one","other"] ["row","known"] (au j6):=Ì
abbrev pN:Rl:=top 28
theorem eh:aE ["rows","known","steps","row","more"] ["rows","known"] (au pN):=Ì
abbrev jh:Rl:=top 29
theorem su:aE ["row","known"] ["row","known"] (au jh):=Ì
abbrev oZ:Rl:=top 30
theorem yM:aE ["steps"] ["steps"] (au oZ):=Ì
abbrev jX:Rl:=top 31
theorem iU:aE ["row","known","one","other"] ["row","known"] (au jX):=Ì
abbrev gU:Rl:=top 32
theorem kC:aE ["row","known","steps"] ["row","known"] (au gU):=Ì
abbrev pK:Rl:=top 33
theorem yW:aE ["row","known"] ["row","known"] (au pK):=Ì
abbrev xE:Rl:=top 34
theorem uB:aE ["program","known","deed"] ["program"] (au xE):=Ì
abbrev tP:Rl:=top 35
theorem rE:aE ["program","known","deed"] ["program"] (au tP):=Ì
abbrev mV:Rl:=top 38
theorem wO:aE ["number"] ["number"] (au mV):=Ì
abbrev nO:Rl:=top 39
theorem iq:aE ["rows","place","loop","found","row"] ["rows","place","loop"] (au nO):=Ì
abbrev jI:Rl:=top 40
theorem mR:aE ["row","loop","here"] ["row","loop"] (au jI):=Ì
abbrev iM:Rl:=top 41
theorem hU:aE ["program","found","deed"] ["program"] (au iM):=Ì
abbrev pB:Rl:=top 42
theorem Ag:aE ["row"] ["row"] (au pB):=Ì
abbrev jO:Rl:=top 43
theorem i9:aE ["heads","found","head"] ["heads"] (au jO):=Ì
abbrev uV:Rl:=top 44
theorem iA:aE ["program","found","deed","row","place","loop"] ["program"] (au uV):=Ì
abbrev xY:Rl:=top 46
theorem F4:aE ["froms","into","kind","number"] ["froms","into","kind","number"] (au xY):=Ì
abbrev mH:Rl:=top 47
theorem qC:aE ["row","place","loop","parts_of","here"] ["row","place","loop","parts_of"] (au mH):=Ì
abbrev lF:Rl:=top 48
theorem oN:aE ["row","place","found"] ["row","place"] (au lF):=Ì
abbrev i6:Rl:=top 49
theorem eM:aE ["row","place","parts","found","thing","part","into"] ["row","place","parts"] (au i6):=Ì
abbrev lW:Rl:=top 50
theorem oV:aE ["row","known","here"] ["row","known"] (au lW):=Ì
abbrev xI:Rl:=top 51
theorem jf:aE ["program","steps","parts_of","known","found","row","place","loop"] ["program","steps"] (au xI):=Ì
abbrev qK:Rl:=top 53
theorem Au:aE ["program"] ["program"] (au qK):=Ì
abbrev lG:Rl:=top 54
theorem vh:aE ["program","rank"] ["program","rank"] (au lG):=Ì
abbrev qV:Rl:=top 55
theorem oY:aE ["program","steps","ways","link"] ["program","steps"] (au qV):=Ì
abbrev pA:Rl:=top 56
theorem fg:aE ["ways","starts","came","waiting","at","here","link"] ["ways","starts"] (au pA):=Ì
abbrev xW:Rl:=top 57
theorem mI:aE ["program","steps","ways","bits","rank","place"] ["program","steps"] (au xW):=Ì
abbrev lP:Rl:=top 59
theorem eO:aE ["program","floor","bits","found","row","place","loop"] ["program","floor"] (au lP):=Ì
abbrev tQ:Rl:=top 60
theorem wo:aE ["program","floor","known"] ["program","floor"] (au tQ):=Ì
abbrev vb:Rl:=top 61
theorem kR:aE ["program","floor","above","known","heads","deeds"] ["program","floor"] (au vb):=Ì
abbrev mX:Rl:=top 62
theorem xJ:aE ["head"] ["head"] (au mX):=Ì
abbrev nN:Rl:=top 63
theorem xn:aE ["deed","above","known"] ["deed","above","known"] (au nN):=Ì
abbrev jQ:Rl:=top 64
theorem jg:aE ["rows","above","known"] ["rows","above","known"] (au jQ):=Ì
abbrev lh:Rl:=top 65
theorem vq:aE ["row","above","known"] ["row","above","known"] (au lh):=Ì
abbrev lH:Rl:=top 66
theorem vo:aE ["row"] ["row"] (au lH):=Ì
abbrev nM:Rl:=top 67
theorem cN:aE ["row","above","known","left","right","one","other","greater","first"] ["row","above","known"] (au nM):=Ì
abbrev j7:Rl:=top 68
theorem dY:aE ["row","above","known","left","right","steps"] ["row","above","known"] (au j7):=Ì
abbrev jU:Rl:=top 70
theorem uZ:aE ["_law_script","_law_k"] ["_law_script","_law_k"] (au jU):=Ì
abbrev qY:Rl:=top 71
theorem gq:aE ["_law_cell","_law_k","_law_rest","_law_j","_law_prime"] ["_law_cell","_law_k"] (au qY):=Ì
abbrev pv:Rl:=top 72
theorem dZ:aE ["_law_cell","_law_k","_law_letters","_law_way","_law_words","_law_size","_law_at","_law_stem"] ["_law_cell","_law_k"] (au pv):=Ì
abbrev lV:Rl:=top 73
theorem vx:aE ["_law_cell"] ["_law_cell"] (au lV):=Ì
abbrev mL:Rl:=top 74
theorem xF:aE ["_law_number_here","_law_things"] ["_law_number_here","_law_things"] (au mL):=Ì
abbrev nA:Rl:=top 75
theorem k6:aE ["_law_number_here","_law_things","_law_lists","_law_one","_law_other"] ["_law_number_here","_law_things","_law_lists"] (au nA):=Ì
abbrev pJ:Rl:=top 76
theorem nh:aE ["_law_state","_law_cell","_law_deep","_law_loops","_law_kinds","_law_kind_here"] ["_law_state","_law_cell","_law_deep","_law_loops"] (au pJ):=Ì
abbrev nC:Rl:=top 77
theorem eA:aE ["_law_state","_law_cell","_law_kind_here","_law_names","_law_at","_law_value_here","_law_own","_law_name_here","_law_many"] ["_law_state","_law_cell","_law_kind_here"] (au nC):=Ì
abbrev pE:Rl:=top 78
theorem cG:aE ["_law_nodes_here","_law_costs","_law_long_here","_law_just","_law_node","_law_one"] ["_law_nodes_here","_law_costs"] (au pE):=Ì
abbrev qW:Rl:=top 79
theorem tI:aE ["_law_one","_law_other","_law_left","_law_right","_law_times","_law_long_here"] ["_law_one","_law_other","_law_left","_law_right","_law_times"] (au qW):=Ì
abbrev ny:Rl:=top 80
theorem iz:aE ["_law_state","_law_cell","_law_one","_law_other","_law_number_here","_law_more","_law_both"] ["_law_state","_law_cell","_law_one","_law_other"] (au ny):=Ì
abbrev nE:Rl:=top 81
theorem cC:aE ["_law_state","_law_cell","_law_kind_here","_law_deep","_law_loops","_law_at","_law_body","_law_idles_here","_law_rounds","_law_value_here","_law_first","_law_other"] ["_law_state","_law_cell","_law_kind_here","_law_deep","_law_loops"] (au nE):=Ì
abbrev mE:Rl:=top 82
theorem ig:aE ["_law_state","_law_deep","_law_loops","_law_nodes_here","_law_cell","_law_kind_here"] ["_law_state","_law_deep","_law_loops"] (au mE):=Ì
abbrev pH:Rl:=top 83
theorem gN:aE ["_law_nodes_here","_law_rows","_law_node","_law_kind_here"] ["_law_nodes_here"] (au pH):=Ì
abbrev nJ:Rl:=top 84
theorem f9:aE ["_law_names","_law_cell","_law_heads_here","_law_k"] ["_law_names","_law_cell"] (au nJ):=Ì
abbrev mD:Rl:=top 85
theorem dv:aE ["_law_script","_law_names","_law_things","_law_state","_law_one","_law_at","_law_other","_law_main"] ["_law_script"] (au mD):=Ì
abbrev kq:Rl:=top 86
theorem dS:aE ["_law_drawn_here","_law_cell","_law_names","_law_bodies","_law_at","_law_cost_here","_law_deeds"] ["_law_drawn_here","_law_cell"] (au kq):=Ì
abbrev lE:Rl:=top 87
theorem eP:aE ["_law_rows","_law_found","_law_row"] ["_law_rows"] (au lE):=Ì
abbrev gu:Rl:=top 88
theorem eZ:aE ["_law_program_here","_law_found","_law_deed"] ["_law_program_here"] (au gu):=Ì
abbrev o8:Rl:=top 89
theorem yu:aE ["_law_row","_law_known_here"] ["_law_row","_law_known_here"] (au o8):=Ì
abbrev pq:Rl:=top 90
theorem cP:aE ["_law_rows","_law_known_here","_law_long_here","_law_row","_law_one","_law_other","_law_times"] ["_law_rows","_law_known_here"] (au pq):=Ì
abbrev nc:Rl:=top 91
theorem lM:aE ["_law_program_here","_law_known_here","_law_deed"] ["_law_program_here"] (au nc):=Ì
abbrev nj:Rl:=top 92
theorem wQ:aE ["_law_program_here"] ["_law_program_here"] (au nj):=Ì
abbrev nK:Rl:=top 93
theorem qz:aE ["_law_program_here","_law_known_here"] ["_law_program_here"] (au nK):=Ì
abbrev uK:Rl:=top 94
theorem gT:aE ["_law_script","_law_drawn_here","_law_program_here","_law_least","_law_other","_law_before","_law_made_here","_law_after","_law_changed","_law_one","_law_two_here","_law_told"] ["_law_script"] (au uK):=Ì
abbrev gh:Rl:=Xg (top 10) 0
theorem yV:aE ["self","number"] ["self","number"] (au gh):=Ì
abbrev iP:Rl:=Xg (top 11) 0
theorem sv:aE ["self","number","name","rank"] ["self","number","name","rank"] (au iP):=Ì
abbrev gY:Rl:=Xg (top 12) 0
theorem rS:aE ["self","number","name","rank","size"] ["self","number","name","rank","size"] (au gY):=Ì
abbrev jV:Rl:=Xg (top 13) 0
theorem uQ:aE ["self","number","name","size"] ["self","number","name","size"] (au jV):=Ì
abbrev j8:Rl:=Xg (top 14) 0
theorem tK:aE ["self","number","name","rank"] ["self","number","name","rank"] (au j8):=Ì
abbrev kh:Rl:=Xg (top 15) 0
theorem uF:aE ["self","number","name","value"] ["self","number","name","value"] (au kh):=Ì
abbrev iT:Rl:=Xg (top 15) 2
theorem sI:aE ["self"] ["self"] (au iT):=Ì
abbrev ky:Rl:=Xg (top 16) 0
theorem uo:aE ["self","number","name","place","value"] ["self","number","name","place","value"] (au ky):=Ì
abbrev i8:Rl:=Xg (top 16) 2
theorem sG:aE ["self"] ["self"] (au i8):=Ì
abbrev i4:Rl:=Xg (top 17) 0
theorem sE:aE ["self","number","name","value"] ["self","number","name","value"] (au i4):=Ì
abbrev hZ:Rl:=Xg (top 17) 2
theorem rM:aE ["self"] ["self"] (au hZ):=Ì
abbrev j4:Rl:=Xg (top 18) 0
theorem u5:aE ["self","number","name","value","mark"] ["self","number","name","value","mark"] (au j4):=Ì
abbrev je:Rl:=Xg (top 19) 0
theorem so:aE ["self","number","name","things"] ["self","number","name","things"] (au je):=Ì
abbrev k7:Rl:=Xg (top 21) 0
theorem vi:aE ["self","number","value","first","other","left","right"] ["self","number","value","first","other","left","right"] (au k7):=Ì
abbrev kj:Rl:=Xg (top 21) 2
theorem uv:aE ["self"] ["self"] (au kj):=Ì
abbrev jo:Rl:=Xg (top 22) 0
theorem sC:aE ["self","number","thing","most","body","left","right"] ["self","number","thing","most","body","left","right"] (au jo):=Ì
abbrev hG:Rl:=Xg (top 22) 2
theorem qN:aE ["self"] ["self"] (au hG):=Ì
abbrev jr:Rl:=Xg (top 23) 0
theorem sr:aE ["self","number","name","parts","body"] ["self","number","name","parts","body"] (au jr):=Ì
abbrev iS:Rl:=Xg (top 24) 0
theorem si:aE ["self","heads","deeds","main"] ["self","heads","deeds","main"] (au iS):=Ì
structure Ï where
 Row:Q1
 cW:Q1
 bX:Q1
 eT:Q1
 eU:Q1
 cZ:Q1
 cO:Q1
 cx:Q1
 cY:Q1
 cB:Q1
 dG:Q1
 dE:Q1
 bG:Q1
 cu:Q1
 Program:Q1
structure Txt(K:Q6)(mg:Str->Option Q0)(A:Ï):Prop where
 only:aY K mg "only" Am ["rank"]
 joined:aY K mg "joined" ue ["one","other"]
 top:aY K mg "top" EG ["bits"]
 fits:aY K mg "fits" AZ ["bits","rank"]
 uq:aY K mg "names_in" pS ["value"]
 qL:aY K mg "each_once" nH ["names"]
 oz:aY K mg "most_of" rJ ["rows","known"]
 jA:aY K mg "most_of_row" j6 ["row","known"]
 fB:aY K mg "exact_of" pN ["rows","known"]
 fT:aY K mg "exact_of_row" jh ["row","known"]
 uy:aY K mg "one_more" oZ ["steps"]
 jG:aY K mg "exact_of_if" jX ["row","known"]
 gJ:aY K mg "exact_of_loop" gU ["row","known"]
 balanced:aY K mg "balanced" pK ["row","known"]
 fF:aY K mg "mosts" xE ["program"]
 AA:aY K mg "exacts" tP ["program"]
 q0:aY K mg "row_place" mV ["number"]
 iC:aY K mg "laid_rows" nO ["rows","place","loop"]
 jz:aY K mg "laid_inside" jI ["row","loop"]
 lA:aY K mg "laid_program" iM ["program"]
 tw:aY K mg "is_place" pB ["row"]
 mT:aY K mg "head_places" jO ["heads"]
 places:aY K mg "places" uV ["program"]
 drawn:aY K mg "drawn" xY ["froms","into","kind","number"]
 rh:aY K mg "row_links" mH ["row","place","loop","parts_of"]
 pV:aY K mg "said_links" lF ["row","place"]
 lR:aY K mg "called_links" i6 ["row","place","parts"]
 pL:aY K mg "step_links" lW ["row","known"]
 links:pD K mg "links" xI ["program","steps"] [.bl false]
 sources:aY K mg "sources" qK ["program"]
 pF:aY K mg "sources_of" lG ["program","rank"]
 xj:aY K mg "ways_of" qV ["program","steps"]
 u7:aY K mg "arrivals" pA ["ways","starts"]
 table:pD K mg "table" xW ["program","steps"] [.bl false]
 pP:aY K mg "rows_above" lP ["program","floor"]
 AI:pI K mg "uneven" tQ ["program","floor"] [.int 0]
 Bg:pI K mg "evened" vb ["program","floor"] [.int 0]
 rF:aY K mg "head_copy" mX ["head"]
 rR:aY K mg "deed_copy" nN ["deed","above","known"]
 d7:aY K mg "rows_evened" jQ ["rows","above","known"]
 lL:aY K mg "row_evened" lh ["row","above","known"]
 pX:aY K mg "plain_copy" lH ["row"]
 oa:aY K mg "if_evened" nM ["row","above","known"]
 jF:aY K mg "loop_evened" j7 ["row","above","known"]
 nv:aY K mg "_law_cell_at" jU ["_law_script","_law_k"]
 xg:aY K mg "_law_mix" qY ["_law_cell","_law_k"]
 vc:aY K mg "_law_name" pv ["_law_cell","_law_k"]
 pW:aY K mg "_law_number" lV ["_law_cell"]
 qT:aY K mg "_law_thing" mL ["_law_number_here","_law_things"]
 qU:aY K mg "_law_value" nA ["_law_number_here","_law_things","_law_lists"]
 uz:aY K mg "_law_kind" pJ ["_law_state","_law_cell","_law_deep","_law_loops"]
 rn:aY K mg "_law_plain" nC ["_law_state","_law_cell","_law_kind_here"]
 qA:aY K mg "_law_cost" pE ["_law_nodes_here","_law_costs"]
 xH:aY K mg "_law_two" qW ["_law_one","_law_other","_law_left","_law_right","_law_times"]
 qM:aY K mg "_law_idles" ny ["_law_state","_law_cell","_law_one","_law_other"]
 kK:aY K mg "_law_block" nE ["_law_state","_law_cell","_law_kind_here","_law_deep","_law_loops"]
 rG:aY K mg "_law_nodes" mE ["_law_state","_law_deep","_law_loops"]
 qj:aY K mg "_law_made" pH ["_law_nodes_here"]
 rb:aY K mg "_law_heads" nJ ["_law_names","_law_cell"]
 rA:aY K mg "_law_drawn" mD ["_law_script"]
 mO:aY K mg "_law_program" kq ["_law_drawn_here","_law_cell"]
 gx:aY K mg "_law_blocks" lE ["_law_rows"]
 iG:aY K mg "_law_all_blocks" gu ["_law_program_here"]
 qh:aY K mg "_law_ways" o8 ["_law_row","_law_known_here"]
 kS:aY K mg "_law_long" pq ["_law_rows","_law_known_here"]
 qJ:aY K mg "_law_known" nc ["_law_program_here"]
 qO:aY K mg "_law_waits" nj ["_law_program_here"]
 rB:aY K mg "_law_mosts" nK ["_law_program_here"]
 Bs:mg "all"=Xc
 ng:mg "dict"=Xc
 az:mg "isinstance"=Xc
 kO:mg "len"=Xc
 fO:mg "list"=Xc
 oT:mg "max"=Xc
 BI:mg "min"=Xc
 ir:mg "range"=Xc
 zM:mg "set"=Xc
 kN:mg "sorted"=Xc
 yy:mg "str"=Xc
 CN:mg "sum"=Xc
 yq:mg "zip"=Xc
 sY:∃t,mg "CLOCK"=Xb (.str "the clock" t)
 kE:gc K mg A.Row "Row" [A.Row]
 uO:Đ K A.Row "__init__" "Row.__init__" gh ["self","number"]
 dJ:gc K mg A.cW "HandRow" [A.cW,A.Row]
 iR:Đ K A.cW "__init__" "HandRow.__init__" iP ["self","number","name","rank"]
 iI:aP K A.cW "name"
 i5:aP K A.cW "rank"
 fm:aP K A.cW "number"
 bI:gc K mg A.bX "GivenRow" [A.bX,A.Row]
 hV:Đ K A.bX "__init__" "GivenRow.__init__" gY ["self","number","name","rank","size"]
 eJ:aP K A.bX "name"
 fJ:aP K A.bX "rank"
 gS:aP K A.bX "size"
 fb:aP K A.bX "number"
 dI:gc K mg A.eT "OwnRow" [A.eT,A.Row]
 jM:Đ K A.eT "__init__" "OwnRow.__init__" jV ["self","number","name","size"]
 gH:aP K A.eT "name"
 jN:aP K A.eT "size"
 fI:aP K A.eT "number"
 dj:gc K mg A.eU "LetRow" [A.eU,A.Row]
 jT:Đ K A.eU "__init__" "LetRow.__init__" j8 ["self","number","name","rank"]
 fA:aP K A.eU "name"
 gG:aP K A.eU "rank"
 fM:aP K A.eU "number"
 du:gc K mg A.cZ "SetRow" [A.cZ,A.Row]
 ka:Đ K A.cZ "__init__" "SetRow.__init__" kh ["self","number","name","value"]
 jt:Đ K A.cZ "reads" "SetRow.reads" iT ["self"]
 gF:aP K A.cZ "name"
 fU:aP K A.cZ "value"
 fG:aP K A.cZ "number"
 cL:gc K mg A.cO "PutRow" [A.cO,A.Row]
 jY:Đ K A.cO "__init__" "PutRow.__init__" ky ["self","number","name","place","value"]
 ja:Đ K A.cO "reads" "PutRow.reads" i8 ["self"]
 gA:aP K A.cO "name"
 fW:aP K A.cO "place"
 fX:aP K A.cO "value"
 fL:aP K A.cO "number"
 cy:gc K mg A.cx "SendRow" [A.cx,A.Row]
 jk:Đ K A.cx "__init__" "SendRow.__init__" i4 ["self","number","name","value"]
 hJ:Đ K A.cx "reads" "SendRow.reads" hZ ["self"]
 iY:aP K A.cx "name"
 fK:aP K A.cx "value"
 fq:aP K A.cx "number"
 bQ:gc K mg A.cY "SayRow" [A.cY,A.Row]
 jW:Đ K A.cY "__init__" "SayRow.__init__" j4 ["self","number","name","value","mark"]
 fw:aP K A.cY "name"
 iK:aP K A.cY "value"
 gD:aP K A.cY "mark"
 cb:aP K A.cY "number"
 bD:gc K mg A.cB "CallRow" [A.cB,A.Row]
 jm:Đ K A.cB "__init__" "CallRow.__init__" je ["self","number","name","things"]
 cE:aP K A.cB "name"
 fk:aP K A.cB "things"
 cR:aP K A.cB "number"
 fo:gc K mg A.dG "LastRow" [A.dG,A.Row]
 iH:Đ K A.dG "__init__" "Row.__init__" gh ["self","number"]
 dQ:aP K A.dG "number"
 aQ:gc K mg A.dE "IfRow" [A.dE,A.Row]
 lg:Đ K A.dE "__init__" "IfRow.__init__" k7 ["self","number","value","first","other","left","right"]
 jZ:Đ K A.dE "reads" "IfRow.reads" kj ["self"]
 gz:aP K A.dE "value"
 cz:aP K A.dE "first"
 cA:aP K A.dE "other"
 dg:aP K A.dE "left"
 dC:aP K A.dE "right"
 dP:aP K A.dE "number"
 aI:gc K mg A.bG "LoopRow" [A.bG,A.Row]
 js:Đ K A.bG "__init__" "LoopRow.__init__" jo ["self","number","thing","most","body","left","right"]
 gZ:Đ K A.bG "reads" "LoopRow.reads" hG ["self"]
 fH:aP K A.bG "thing"
 dX:aP K A.bG "most"
 b5:aP K A.bG "body"
 cV:aP K A.bG "left"
 cf:aP K A.bG "right"
 cQ:aP K A.bG "number"
 bh:gc K mg A.cu "DeedRow" [A.cu,A.Row]
 iQ:Đ K A.cu "__init__" "DeedRow.__init__" jr ["self","number","name","parts","body"]
 bR:aP K A.cu "name"
 eG:aP K A.cu "parts"
 cD:aP K A.cu "body"
 ft:aP K A.cu "number"
 bF:gc K mg A.Program "Program" [A.Program]
 iF:Đ K A.Program "__init__" "Program.__init__" iS ["self","heads","deeds","main"]
 eI:aP K A.Program "heads"
 bw:aP K A.Program "deeds"
 dU:aP K A.Program "main"
 bY:OfC K A.Row "__init__"
 nd:[A.Row,A.cW,A.bX,A.eT,A.eU,A.cZ,A.cO,A.cx,A.cY,A.cB,A.dG,A.dE,A.bG,A.cu,A.Program].Nodup
section
variable{P:Program}{w:Rh}{K:Q6}{mg:Str->Option Q0}{base:Rp}{A:Ï}
theorem Ò{H:Hp}{p:Q1}(h:H p=Xc)(o:HO):aq H (upd H p o)/\upd H p o p=Xb o:=⟨aq.upd h o,av⟩
theorem sz{n:Nat}(h:n<=1000):n<=sizeLine:=Pe (aH h)
theorem bA(x:Int){m:Int}(hm:0<m):0<=x%m/\x%m<m:={Int.emod_nonneg x (show m≠0 by lia),Int.emod_lt_of_pos x hm}
theorem BZ{α:Type}{xs:List α}{k:Int}(h0:0<=k)(h1:k<(xs.length:Int)):∃x,xs[k.toNat]?=Xb x/\Ġ xs k=Xb x:=by
 have hk:k.toNat<xs.length:=()
 have e:=jH (xs:=xs) (j:=k.toNat) (Oa hk);rw[show((k.toNat:Nat):Int)=k by lia]at e;exact{_,Oa hk,e}
theorem w9{α:Type}(f:α->V){xs:List α}{k:Int}(h0:0<=k)(h1:k<(xs.length:Int)):∃x,x∈xs/\xs[k.toNat]?=Xb x/\Ġ (xs.map f) k=Xb (f x):=by
 obtain⟨x,e1,e2⟩:=BZ (xs:=xs.map f) h0 (by rw[N3];exact h1);rw[Oi]at e1;cases h:xs[k.toNat]? with
 |none=>rw[h]at e1;cases e1
 |some y=>
  rw[h]at e1;have:f y=x:=Q9 e1;exact{y,Oe h,rfl,by rw[this];exact e2}
theorem Gf(i j:Int):decide (V.int i=V.int j)=decide (i=j):=decide_eq_decide.mpr {λh=>V.int.inj h,λh=>by rw[h]}
theorem NK(i j:Str):decide (V.str i=V.str j)=decide (i=j):=decide_eq_decide.mpr {λh=>V.str.inj h,λh=>by rw[h]}
theorem dq{α:Type}(xs:List α):xs.filter (λ_=>true)=xs:=List.filter_eq_self.mpr λ_ _=>rfl
theorem oj{a b:Int}(h0:-(2^64)<a)(h1:a<2^64):Dt a b:=N6 ⟨h0,h1⟩
theorem aq.out{H0 H:Hp}(s:aq H0 H){x:Q1}(h:H0 x=Xc)(u:HO):aq H0 (upd H x u):=λa o q=>by
 rw[aM (λz=>by rw[z,h]at q;cases q)];exact s a o q
theorem aF{H:Hp}{x a:Q1}{u o:HO}(n:a≠x)(e:H a=Xb o):upd H x u a=Xb o:=by rw[aM n];exact e
theorem Xd{H:Hp}{x y:Q1}{o:HO}(h:H x=Xc)(e:H y=Xb o):x≠y:=λz=>by rw[z,e]at h;cases h
def Ks(H0:Hp)(x:Q1)(H:Hp):List (Q1×HO)->Prop
 | []=>True
 |p::ks=>(H p.1=Xb p.2/\p.1≠x/\H0 p.1=Xc)/\Ks H0 x H ks
theorem Ks.imp{H0 H H':Hp}{x:Q1}(f:∀a o,a≠x->H a=Xb o->H' a=Xb o):∀{ks:List (Q1×HO)},Ks H0 x H ks->Ks H0 x H' ks
 | [],_=>trivial
 |_::_,⟨⟨h1,h2,h3⟩,t⟩=>{{f _ _ h2 h1,h2,h3},Ks.imp f t}
structure IA(K:Q6)(H0:Hp)(x C dx:Q1)(fs:List (Str×V))(m:Nat)(ks:List (Q1×HO))(H:Hp):Prop where
 s:aq H0 H
 i:H x=Xb (.ins C dx fs)
 k:Ks H0 x H ks
 x:H0 x=Xc
 c:ļ K C
 l:fs.length<=m
theorem IA.one{H:Hp}{x C dx:Q1}(hx:H x=Xc)(hd:H dx=Xc)(c:ļ K C):IA K H x C dx [] 0 [] (upd (upd H dx (.own x)) x (.ins C dx [])):={aq.out (aq.upd hd _) hx _,av,trivial,hx,c,Oc _}
section
variable{H0 H:Hp}{x C dx:Q1}{fs:List (Str×V)}{m:Nat}{ks:List (Q1×HO)}
theorem Cp(f:Str)(v:V):∀fs:List (Str×V),(iO f v fs).length<=fs.length+1
 | []=>Oc _
 | (g,x)::r=>by
  unfold iO;split
  ·exact Pr _
  exact Qu (Cp f v r)
theorem IA.put(a:IA K H0 x C dx fs m ks H)(f:Str)(v:V):IA K H0 x C dx (iO f v fs) (m+1) ks (upd H x (.ins C dx (iO f v fs))):={aq.out a.s a.x _,av,a.k.imp λ_ _ h e=>aF h e,a.x,a.c,Ol (Cp f v fs) (Qu a.l)}
theorem IA.fld{f:Str}{v:V}{Q:Hp->Prop}(a:IA K H0 x C dx fs m ks H)(n:aP K C f)(k:∀H',IA K H0 x C dx (iO f v fs) (m+1) ks H'->Q H')(l:m<1000:=by decide):JT K f v (.ref x) H Q:={x,C,dx,fs,rfl,a.i,a.c,n,Vu a.l l,k _ (a.put _ _)}
theorem IA.nw{n:Q1}(a:IA K H0 x C dx fs m ks H)(hn:H n=Xc)(o:HO):IA K H0 x C dx fs m ((n,o)::ks) (upd H n o):=
 have e:n≠x:=λz=>by rw[z,a.i]at hn;cases hn
 {a.s.trans (aq.upd hn _),aF e.symm a.i,{⟨av,e,aq.free a.s hn⟩,a.k.imp λ_ _ _ h=>aq.upd hn _ _ _ h},a.x,a.c,a.l}
end
inductive gL(K:Q6)(A:Ï)(vs:List V)(H:Hp)(Q:VK)(Ã:XK):Prop
 |mk(x C dx:Q1)(fs:List (Str×V))(n:V):vs=[.ref x,n]->H x=Xb (.ins C dx fs)->ļ K C->aP K C "number"->fs.length<1000->Q .Ê (upd H x (.ins C dx (iO "number" n fs)))->gL K A vs H Q Ã
theorem km{C:Q1}(F:Đ K C "__init__" "Row.__init__" gh ["self","number"]):zm P w K mg base 2 C "__init__" ["self","number"] (gL K A):=by
 refine F.hs (k:=1) yV (λf Ä A' outer s H vs Q E hr hu h=>?_);obtain⟨x,C,dx,fs,n,rfl,hx,c,na,hl,q⟩:=h;exact{_,(ai (bz (fv 0) (fv 1) rfl)),⟨x,C,dx,fs,rfl,hx,c,na,hl,q⟩}
theorem cJ(T:Txt K mg A):zm P w K mg base 2 A.Row "__init__" ["self","number"] (gL K A):=km T.uO
theorem IA.row{H0 H:Hp}{x C dx:Q1}{ks:List (Q1×HO)}{v:V}{Q:VK}(a:IA K H0 x C dx [] 0 ks H)(n:aP K C "number")(k:∀H',IA K H0 x C dx (iO "number" v []) 1 ks H'->Q .Ê H'):gL K A [.ref x,v] H Q E0:={x,C,dx,[],v,rfl,a.i,a.c,n,∅,k _ (a.put _ _)}
inductive mf(K:Q6)(A:Ï)(vs:List V)(G:Hp)(R:VK)(Ã:XK):Prop
 |mk(x dx:Q1)(v0 v1 v2:V)(H:Hp):vs=[.ref x,v0,v1,v2]->G=upd (upd H dx (.own x)) x (.ins A.cW dx [])->H x=Xc->H dx=Xc->(∀(H':Hp),aq H H'->H' x=Xb (.ins A.cW dx [("number",v0),("name",v1),("rank",v2)])->R .Ê H')->mf K A vs G R Ã
theorem jq(T:Txt K mg A):T.iR.Hz P w mg base 3 (mf K A):=by
 refine T.iR.hs (k:=2) sv (λf Ä A' outer s G vs R E hr hu h=>?_);obtain⟨x,dx,v0,v1,v2,H,rfl,rfl,hx,hd,q⟩:=h;refine⟨_,(af (aW (de T.kE T.bY (cJ T) hr (fv 0^fv 1^ae)))
 (af (bz (fv 0) (fv 2) rfl)
 (ai (bz (fv 0) (fv 3) rfl)))),?_⟩
 exact(IA.one (C:=A.cW) hx hd T.dJ.cl).row T.fm λH a=>a.fld T.iI λH a=>a.fld T.i5 λH a=>q _ a.s a.i
inductive kX(K:Q6)(A:Ï)(vs:List V)(G:Hp)(R:VK)(Ã:XK):Prop
 |mk(x dx:Q1)(v0 v1 v2 v3:V)(H:Hp):vs=[.ref x,v0,v1,v2,v3]->G=upd (upd H dx (.own x)) x (.ins A.bX dx [])->H x=Xc->H dx=Xc->(∀(H':Hp),aq H H'->H' x=Xb (.ins A.bX dx [("number",v0),("name",v1),("rank",v2),("size",v3)])->R .Ê H')->kX K A vs G R Ã
theorem gR(T:Txt K mg A):T.hV.Hz P w mg base 3 (kX K A):=by
 refine T.hV.hs (k:=2) rS (λf Ä A' outer s G vs R E hr hu h=>?_);obtain⟨x,dx,v0,v1,v2,v3,H,rfl,rfl,hx,hd,q⟩:=h;refine⟨_,(af (aW (de T.kE T.bY (cJ T) hr (fv 0^fv 1^ae)))
 (af (bz (fv 0) (fv 2) rfl)
 (af (bz (fv 0) (fv 3) rfl)
 (ai (bz (fv 0) (fv 4) rfl))))),?_⟩
 exact(IA.one (C:=A.bX) hx hd T.bI.cl).row T.fb λH a=>a.fld T.eJ λH a=>a.fld T.fJ λH a=>a.fld T.gS λH a=>q _ a.s a.i
inductive nG(K:Q6)(A:Ï)(vs:List V)(G:Hp)(R:VK)(Ã:XK):Prop
 |mk(x dx:Q1)(v0 v1 v2:V)(H:Hp):vs=[.ref x,v0,v1,v2]->G=upd (upd H dx (.own x)) x (.ins A.eT dx [])->H x=Xc->H dx=Xc->(∀(H':Hp),aq H H'->H' x=Xb (.ins A.eT dx [("number",v0),("name",v1),("size",v2)])->R .Ê H')->nG K A vs G R Ã
theorem ke(T:Txt K mg A):T.jM.Hz P w mg base 3 (nG K A):=by
 refine T.jM.hs (k:=2) uQ (λf Ä A' outer s G vs R E hr hu h=>?_);obtain⟨x,dx,v0,v1,v2,H,rfl,rfl,hx,hd,q⟩:=h;refine⟨_,(af (aW (de T.kE T.bY (cJ T) hr (fv 0^fv 1^ae)))
 (af (bz (fv 0) (fv 2) rfl)
 (ai (bz (fv 0) (fv 3) rfl)))),?_⟩
 exact(IA.one (C:=A.eT) hx hd T.dI.cl).row T.fI λH a=>a.fld T.gH λH a=>a.fld T.jN λH a=>q _ a.s a.i
inductive mN(K:Q6)(A:Ï)(vs:List V)(G:Hp)(R:VK)(Ã:XK):Prop
 |mk(x dx:Q1)(v0 v1 v2:V)(H:Hp):vs=[.ref x,v0,v1,v2]->G=upd (upd H dx (.own x)) x (.ins A.eU dx [])->H x=Xc->H dx=Xc->(∀(H':Hp),aq H H'->H' x=Xb (.ins A.eU dx [("number",v0),("name",v1),("rank",v2)])->R .Ê H')->mN K A vs G R Ã
theorem oW(T:Txt K mg A):T.jT.Hz P w mg base 3 (mN K A):=by
 refine T.jT.hs (k:=2) tK (λf Ä A' outer s G vs R E hr hu h=>?_);obtain⟨x,dx,v0,v1,v2,H,rfl,rfl,hx,hd,q⟩:=h;refine⟨_,(af (aW (de T.kE T.bY (cJ T) hr (fv 0^fv 1^ae)))
 (af (bz (fv 0) (fv 2) rfl)
 (ai (bz (fv 0) (fv 3) rfl)))),?_⟩
 exact(IA.one (C:=A.eU) hx hd T.dj.cl).row T.fM λH a=>a.fld T.fA λH a=>a.fld T.gG λH a=>q _ a.s a.i
inductive mP(K:Q6)(A:Ï)(vs:List V)(G:Hp)(R:VK)(Ã:XK):Prop
 |mk(x dx:Q1)(v0 v1 v2:V)(H:Hp):vs=[.ref x,v0,v1,v2]->G=upd (upd H dx (.own x)) x (.ins A.cZ dx [])->H x=Xc->H dx=Xc->(∀(H':Hp),aq H H'->H' x=Xb (.ins A.cZ dx [("number",v0),("name",v1),("value",v2)])->R .Ê H')->mP K A vs G R Ã
theorem oK(T:Txt K mg A):T.ka.Hz P w mg base 3 (mP K A):=by
 refine T.ka.hs (k:=2) uF (λf Ä A' outer s G vs R E hr hu h=>?_);obtain⟨x,dx,v0,v1,v2,H,rfl,rfl,hx,hd,q⟩:=h;refine⟨_,(af (aW (de T.kE T.bY (cJ T) hr (fv 0^fv 1^ae)))
 (af (bz (fv 0) (fv 2) rfl)
 (ai (bz (fv 0) (fv 3) rfl)))),?_⟩
 exact(IA.one (C:=A.cZ) hx hd T.du.cl).row T.fG λH a=>a.fld T.gF λH a=>a.fld T.fU λH a=>q _ a.s a.i
inductive nz(K:Q6)(A:Ï)(vs:List V)(G:Hp)(R:VK)(Ã:XK):Prop
 |mk(x dx:Q1)(v0 v1 v2 v3:V)(H:Hp):vs=[.ref x,v0,v1,v2,v3]->G=upd (upd H dx (.own x)) x (.ins A.cO dx [])->H x=Xc->H dx=Xc->(∀(H':Hp),aq H H'->H' x=Xb (.ins A.cO dx [("number",v0),("name",v1),("place",v2),("value",v3)])->R .Ê H')->nz K A vs G R Ã
theorem oM(T:Txt K mg A):T.jY.Hz P w mg base 3 (nz K A):=by
 refine T.jY.hs (k:=2) uo (λf Ä A' outer s G vs R E hr hu h=>?_);obtain⟨x,dx,v0,v1,v2,v3,H,rfl,rfl,hx,hd,q⟩:=h;refine⟨_,(af (aW (de T.kE T.bY (cJ T) hr (fv 0^fv 1^ae)))
 (af (bz (fv 0) (fv 2) rfl)
 (af (bz (fv 0) (fv 3) rfl)
 (ai (bz (fv 0) (fv 4) rfl))))),?_⟩
 exact(IA.one (C:=A.cO) hx hd T.cL.cl).row T.fL λH a=>a.fld T.gA λH a=>a.fld T.fW λH a=>a.fld T.fX λH a=>q _ a.s a.i
inductive lZ(K:Q6)(A:Ï)(vs:List V)(G:Hp)(R:VK)(Ã:XK):Prop
 |mk(x dx:Q1)(v0 v1 v2:V)(H:Hp):vs=[.ref x,v0,v1,v2]->G=upd (upd H dx (.own x)) x (.ins A.cx dx [])->H x=Xc->H dx=Xc->(∀(H':Hp),aq H H'->H' x=Xb (.ins A.cx dx [("number",v0),("name",v1),("value",v2)])->R .Ê H')->lZ K A vs G R Ã
theorem mJ(T:Txt K mg A):T.jk.Hz P w mg base 3 (lZ K A):=by
 refine T.jk.hs (k:=2) sE (λf Ä A' outer s G vs R E hr hu h=>?_);obtain⟨x,dx,v0,v1,v2,H,rfl,rfl,hx,hd,q⟩:=h;refine⟨_,(af (aW (de T.kE T.bY (cJ T) hr (fv 0^fv 1^ae)))
 (af (bz (fv 0) (fv 2) rfl)
 (ai (bz (fv 0) (fv 3) rfl)))),?_⟩
 exact(IA.one (C:=A.cx) hx hd T.cy.cl).row T.fq λH a=>a.fld T.iY λH a=>a.fld T.fK λH a=>q _ a.s a.i
inductive mK(K:Q6)(A:Ï)(vs:List V)(G:Hp)(R:VK)(Ã:XK):Prop
 |mk(x dx:Q1)(v0 v1 v2 v3:V)(H:Hp):vs=[.ref x,v0,v1,v2,v3]->G=upd (upd H dx (.own x)) x (.ins A.cY dx [])->H x=Xc->H dx=Xc->(∀(H':Hp),aq H H'->H' x=Xb (.ins A.cY dx [("number",v0),("name",v1),("value",v2),("mark",v3)])->R .Ê H')->mK K A vs G R Ã
theorem oU(T:Txt K mg A):T.jW.Hz P w mg base 3 (mK K A):=by
 refine T.jW.hs (k:=2) u5 (λf Ä A' outer s G vs R E hr hu h=>?_);obtain⟨x,dx,v0,v1,v2,v3,H,rfl,rfl,hx,hd,q⟩:=h;refine⟨_,(af (aW (de T.kE T.bY (cJ T) hr (fv 0^fv 1^ae)))
 (af (bz (fv 0) (fv 2) rfl)
 (af (bz (fv 0) (fv 3) rfl)
 (ai (bz (fv 0) (fv 4) rfl))))),?_⟩
 exact(IA.one (C:=A.cY) hx hd T.bQ.cl).row T.cb λH a=>a.fld T.fw λH a=>a.fld T.iK λH a=>a.fld T.gD λH a=>q _ a.s a.i
inductive mh(K:Q6)(A:Ï)(vs:List V)(G:Hp)(R:VK)(Ã:XK):Prop
 |mk(x dx:Q1)(v0 v1:V)(t0:Q1)(l0:List V)(H:Hp):vs=[.ref x,v0,v1,.ref t0]->G=upd (upd H dx (.own x)) x (.ins A.cB dx [])->H x=Xc->H dx=Xc->À K H t0 l0->(∀(n0:Q1)(H':Hp),H n0=Xc->aq H H'->H' n0=Xb (.lst l0)->H' x=Xb (.ins A.cB dx [("number",v0),("name",v1),("things",.ref n0)])->R .Ê H')->mh K A vs G R Ã
theorem nF(T:Txt K mg A):T.jm.Hz P w mg base 3 (mh K A):=by
 refine T.jm.hs (k:=2) so (λf Ä A' outer s G vs R E hr hu h=>?_);obtain⟨x,dx,v0,v1,t0,l0,H,rfl,rfl,hx,hd,s0,q⟩:=h;refine⟨_,(af (aW (de T.kE T.bY (cJ T) hr (fv 0^fv 1^ae)))
 (af (bz (fv 0) (fv 2) rfl)
 (ai (bz (fv 0) (Ĵ jS T.fO (fv 3^ae)) rfl)))),?_⟩
 refine(IA.one (C:=A.cB) hx hd T.bD.cl).row T.cR λH a=>a.fld T.cE λH a=>{_,l0,rfl,.inl (a.s.seq s0),λn0 f=>?_};replace a:=a.nw f (.lst l0);exact a.fld T.fk λH a=>q n0 _ a.k.1.2.2 a.s a.k.1.1 a.i
inductive oO(K:Q6)(A:Ï)(vs:List V)(G:Hp)(R:VK)(Ã:XK):Prop
 |mk(x dx:Q1)(v0 v1 v2 v3:V)(t0 t1:Q1)(l0 l1:List V)(H:Hp):vs=[.ref x,v0,v1,.ref t0,.ref t1,v2,v3]->G=upd (upd H dx (.own x)) x (.ins A.dE dx [])->H x=Xc->H dx=Xc->À K H t0 l0->À K H t1 l1->(∀(n0 n1:Q1)(H':Hp),H n0=Xc->H n1=Xc->aq H H'->H' n0=Xb (.lst l0)->H' n1=Xb (.lst l1)->H' x=Xb (.ins A.dE dx [("number",v0),("value",v1),("first",.ref n0),("other",.ref n1),("left",v2),("right",v3)])->R .Ê H')->oO K A vs G R Ã
theorem qu(T:Txt K mg A):T.lg.Hz P w mg base 3 (oO K A):=by
 refine T.lg.hs (k:=2) vi (λf Ä A' outer s G vs R E hr hu h=>?_);obtain⟨x,dx,v0,v1,v2,v3,t0,t1,l0,l1,H,rfl,rfl,hx,hd,s0,s1,q⟩:=h;refine⟨_,(af (aW (de T.kE T.bY (cJ T) hr (fv 0^fv 1^ae)))
 (af (bz (fv 0) (fv 2) rfl)
 (af (bz (fv 0) (Ĵ jS T.fO (fv 3^ae)) rfl)
 (af (bz (fv 0) (Ĵ jS T.fO (fv 4^ae)) rfl)
 (af (bz (fv 0) (fv 5) rfl)
 (ai (bz (fv 0) (fv 6) rfl))))))),?_⟩
 refine(IA.one (C:=A.dE) hx hd T.aQ.cl).row T.dP λH a=>a.fld T.gz λH a=>{_,l0,rfl,.inl (a.s.seq s0),λn0 f=>?_};replace a:=a.nw f (.lst l0);refine a.fld T.cz λH a=>{_,l1,rfl,.inl (a.s.seq s1),λn1 f=>?_};replace a:=a.nw f (.lst l1);exact a.fld T.cA λH a=>a.fld T.dg λH a=>a.fld T.dC λH a=>q n0 n1 _ a.k.2.1.2.2 a.k.1.2.2 a.s a.k.2.1.1 a.k.1.1 a.i
inductive l8(K:Q6)(A:Ï)(vs:List V)(G:Hp)(R:VK)(Ã:XK):Prop
 |mk(x dx:Q1)(v0 v1 v2 v3 v4:V)(t0:Q1)(l0:List V)(H:Hp):vs=[.ref x,v0,v1,v2,.ref t0,v3,v4]->G=upd (upd H dx (.own x)) x (.ins A.bG dx [])->H x=Xc->H dx=Xc->À K H t0 l0->(∀(n0:Q1)(H':Hp),H n0=Xc->aq H H'->H' n0=Xb (.lst l0)->H' x=Xb (.ins A.bG dx [("number",v0),("thing",v1),("most",v2),("body",.ref n0),("left",v3),("right",v4)])->R .Ê H')->l8 K A vs G R Ã
theorem nP(T:Txt K mg A):T.js.Hz P w mg base 3 (l8 K A):=by
 refine T.js.hs (k:=2) sC (λf Ä A' outer s G vs R E hr hu h=>?_);obtain⟨x,dx,v0,v1,v2,v3,v4,t0,l0,H,rfl,rfl,hx,hd,s0,q⟩:=h;refine⟨_,(af (aW (de T.kE T.bY (cJ T) hr (fv 0^fv 1^ae)))
 (af (bz (fv 0) (fv 2) rfl)
 (af (bz (fv 0) (fv 3) rfl)
 (af (bz (fv 0) (Ĵ jS T.fO (fv 4^ae)) rfl)
 (af (bz (fv 0) (fv 5) rfl)
 (ai (bz (fv 0) (fv 6) rfl))))))),?_⟩
 refine(IA.one (C:=A.bG) hx hd T.aI.cl).row T.cQ λH a=>a.fld T.fH λH a=>a.fld T.dX λH a=>{_,l0,rfl,.inl (a.s.seq s0),λn0 f=>?_};replace a:=a.nw f (.lst l0);exact a.fld T.b5 λH a=>a.fld T.cV λH a=>a.fld T.cf λH a=>q n0 _ a.k.1.2.2 a.s a.k.1.1 a.i
inductive md(K:Q6)(A:Ï)(vs:List V)(G:Hp)(R:VK)(Ã:XK):Prop
 |mk(x dx:Q1)(v0 v1:V)(t0 t1:Q1)(l0 l1:List V)(H:Hp):vs=[.ref x,v0,v1,.ref t0,.ref t1]->G=upd (upd H dx (.own x)) x (.ins A.cu dx [])->H x=Xc->H dx=Xc->À K H t0 l0->À K H t1 l1->(∀(n0 n1:Q1)(H':Hp),H n0=Xc->H n1=Xc->aq H H'->H' n0=Xb (.lst l0)->H' n1=Xb (.lst l1)->H' x=Xb (.ins A.cu dx [("number",v0),("name",v1),("parts",.ref n0),("body",.ref n1)])->R .Ê H')->md K A vs G R Ã
theorem jd(T:Txt K mg A):T.iQ.Hz P w mg base 3 (md K A):=by
 refine T.iQ.hs (k:=2) sr (λf Ä A' outer s G vs R E hr hu h=>?_);obtain⟨x,dx,v0,v1,t0,t1,l0,l1,H,rfl,rfl,hx,hd,s0,s1,q⟩:=h;refine⟨_,(af (aW (de T.kE T.bY (cJ T) hr (fv 0^fv 1^ae)))
 (af (bz (fv 0) (fv 2) rfl)
 (af (bz (fv 0) (Ĵ jS T.fO (fv 3^ae)) rfl)
 (ai (bz (fv 0) (Ĵ jS T.fO (fv 4^ae)) rfl))))),?_⟩
 refine(IA.one (C:=A.cu) hx hd T.bh.cl).row T.ft λH a=>a.fld T.bR λH a=>{_,l0,rfl,.inl (a.s.seq s0),λn0 f=>?_};replace a:=a.nw f (.lst l0);refine a.fld T.eG λH a=>{_,l1,rfl,.inl (a.s.seq s1),λn1 f=>?_};replace a:=a.nw f (.lst l1);exact a.fld T.cD λH a=>q n0 n1 _ a.k.2.1.2.2 a.k.1.2.2 a.s a.k.2.1.1 a.k.1.1 a.i
inductive mn(K:Q6)(A:Ï)(vs:List V)(G:Hp)(R:VK)(Ã:XK):Prop
 |mk(x dx:Q1)(t0 t1 t2:Q1)(l0 l1 l2:List V)(H:Hp):vs=[.ref x,.ref t0,.ref t1,.ref t2]->G=upd (upd H dx (.own x)) x (.ins A.Program dx [])->H x=Xc->H dx=Xc->À K H t0 l0->À K H t1 l1->À K H t2 l2->(∀(n0 n1 n2:Q1)(H':Hp),H n0=Xc->H n1=Xc->H n2=Xc->aq H H'->H' n0=Xb (.lst l0)->H' n1=Xb (.lst l1)->H' n2=Xb (.lst l2)->H' x=Xb (.ins A.Program dx [("heads",.ref n0),("deeds",.ref n1),("main",.ref n2)])->R .Ê H')->mn K A vs G R Ã
theorem mU(T:Txt K mg A):T.iF.Hz P w mg base 3 (mn K A):=by
 refine T.iF.hs (k:=2) si (λf Ä A' outer s G vs R E hr hu h=>?_);obtain⟨x,dx,t0,t1,t2,l0,l1,l2,H,rfl,rfl,hx,hd,s0,s1,s2,q⟩:=h;refine⟨_,(af (bz (fv 0) (Ĵ jS T.fO (fv 1^ae)) rfl)
 (af (bz (fv 0) (Ĵ jS T.fO (fv 2^ae)) rfl)
 (ai (bz (fv 0) (Ĵ jS T.fO (fv 3^ae)) rfl)))),?_⟩
 have a:=IA.one (C:=A.Program) hx hd T.bF.cl;refine{_,l0,rfl,.inl (a.s.seq s0),λn0 f=>?_};replace a:=a.nw f (.lst l0);refine a.fld T.eI λH a=>{_,l1,rfl,.inl (a.s.seq s1),λn1 f=>?_};replace a:=a.nw f (.lst l1);refine a.fld T.bw λH a=>{_,l2,rfl,.inl (a.s.seq s2),λn2 f=>?_};replace a:=a.nw f (.lst l2);exact a.fld T.dU λH a=>q n0 n1 n2 _ a.k.2.2.1.2.2 a.k.2.1.2.2 a.k.1.2.2 a.s a.k.2.2.1.1 a.k.2.1.1 a.k.1.1 a.i
end
section
variable{P:Program}{w:Rh}{K:Q6}{mg:Str->Option Q0}{base:Rp}{A:Ï}{N:Nat->Str}
theorem ao{t u:TS}{D:Xv}{B:St}{H:Hp}(h:∀N:St->Hp->Prop,(∀B H,u D B H->N B H)->t { D with nx:=N } B H):Dv t u D B H:=h (u D) λ_ _ z=>z
theorem gk{α β:Type}{F:α->β->Prop}:∀{l₁:List α}{l₂:List β}{i:Nat}{a:α},Paired F l₁ l₂->l₁[i]?=Xb a->∃b,l₂[i]?=Xb b/\F a b
 |_,_,_,_,.nil,h=>by cases h
 |_,_,0,_,.cons h _,e=>by cases e;exact{_,rfl,h}
 |_,_,i+1,_,.cons _ r,e=>by
  have:∃b,_:=gk (i:=i) r e;exact this
theorem bW{α β:Type}{F:α->β->Prop}:∀{l₁:List α}{l₂:List β}{i:Nat}{b:β},Paired F l₁ l₂->l₂[i]?=Xb b->∃a,l₁[i]?=Xb a/\F a b
 |_,_,_,_,.nil,h=>by cases h
 |_,_,0,_,.cons h _,e=>by cases e;exact{_,rfl,h}
 |_,_,i+1,_,.cons _ r,e=>by
  have:∃a,_:=bW (i:=i) r e;exact this
theorem dH{α β:Type}(f:β->α->β)(b:β){xs:List α}{i:Nat}{x:α}(h:xs[i]?=Xb x):(xs.take (i+1)).foldl f b=f ((xs.take i).foldl f b) x:=by
 rw[OG,h,VN];rfl
abbrev cls(A:Ï):List Q1:=[A.Row,A.cW,A.bX,A.eT,A.eU,A.cZ,A.cO,A.cx,A.cY,A.cB,A.dG,A.dE,A.bG,A.cu,A.Program]
theorem JL(T:Txt K mg A)(i j:Nat)(hi:i<15:=by decide)(hj:j<15:=by decide)(h:i≠j:=by decide):(cls A)[i]'hi≠(cls A)[j]'hj:=λe=>h ((Qd T.nd).mp e)
theorem NW{C:Q1}{x:Str}{up:List Q1}(O:gc K mg C x up)(hs:C∈up:=by exact N9):Ti K (.ref C) (.ref C)=Xb true:=by
 rw[O.kit O hs,decide_eq_true hs]
theorem Nx{C D R:Q1}{x y:Str}{vp:List Q1}(O:gc K mg C x [C,R])(U0z:gc K mg D y vp)(h1:D≠C)(h2:D≠R):Ti K (.ref C) (.ref D)=Xb false:=by
 rw[O.kit U0z N9,decide_eq_false];intro m;rcases Ob.mp m with e|m
 ·exact h1 e
 rcases Ob.mp m with e|m
 ·exact h2 e
 cases m
def sk(ks:List Key)(f:Key->V):List (Key×V):=ks.map λk=>(k,f k)
theorem xh{f:Key->V}{k:Key}:∀{ks:List Key},k∈ks->L2.cK (sk ks f) k=Xb (f k)
 |j::r,m=>by
  by_cases e:j=k
  ·subst e;exact dN rfl
  refine(dz (r:=sk r f) e).trans (xh ?_);rcases Ob.mp m with z|z
  ·exact absurd z.symm e
  exact z
theorem Jk{f:Key->V}{k:Key}:∀{ks:List Key},k∉ks->L2.cK (sk ks f) k=Xc
 | [],_=>rfl
 |j::r,m=>by
  have e:¬ j=k:=λe=>m (by rw[e];exact N9);exact(dz (p:=(j,f j)) (r:=sk r f) e).trans (Jk λz=>m (N8 _ z))
instance memK(k:Key)(ks:List Key):Decidable (k∈ks):=decidable_of_iff ((ks.any λj=>decide (j=k))=true) (by
 rw[Pq];exact{λ⟨j,m,e⟩=>of_decide_eq_true e▸m,λm=>⟨k,m,decide_eq_true rfl⟩})
theorem Ji{f:Key->V}(k:Key)(ks:List Key):(L2.cK (sk ks f) k).isSome=decide (k∈ks):=by
 by_cases m:k∈ks
 ·rw[xh m,decide_eq_true m];rfl
 rw[Jk m,decide_eq_false m];rfl
def vj(f:Key->V)(k:Key)(v:V):Key->V:=λj=>if j=k then v else f j
def vt(ks:List Key)(k:Key):List Key:=if k∈ks then ks else ks++[k]
theorem GF{f g:Key->V}{ks:List Key}(h:∀k∈ks,f k=g k):sk ks f=sk ks g:=O9 λk hk=>by rw[h k hk]
theorem Fn{f:Key->V}{k:Key}{v:V}{ks:List Key}:Xi (sk ks f) k v=sk (vt ks k) (vj f k v):=by
 unfold Xi vt;rw[iN,Ji];by_cases m:k∈ks
 ·rw[if_pos (decide_eq_true m),if_pos m];unfold sk;rw[OQ];refine O9 λj _=>?_;show(if j=k then(j,v)else(j,f j))=(j,vj f k v j);unfold vj;split<;>rfl
 rw[if_neg (by rw[decide_eq_false m];exact Of),if_neg m];unfold sk;rw[OB];show _=_++[(k,vj f k v k)];rw[show vj f k v k=v from if_pos rfl];congr 1;refine O9 λj hj=>?_;show(j,f j)=(j,vj f k v j);rw[show vj f k v j=f j from if_neg λ(e:j=k)=>m (e▸hj)]
theorem GS{f:Key->V}{k:Key}{ks:List Key}:Xi (sk ks f) k (f k)=sk (vt ks k) f:=by
 rw[Fn];refine GF λj _=>?_;unfold vj;split
 ·next e=>rw[e]
 rfl
def El(ks:List Key):List Key:=ks.foldl vt []
theorem zu(f:Key->V):∀(ks acc:List Key),bL (sk acc f) (sk ks f)=sk (ks.foldl vt acc) f
 | [],acc=>rfl
 |k::ks,acc=>by
  show bL (Xi (sk acc f) k (f k)) (sk ks f)=_;rw[GS];exact zu f ks (vt acc k)
theorem A6(f:Key->V)(ks:List Key):(sk ks f).length=ks.length:=N3 _
theorem HR{ks:List Key}{k j:Key}:j∈vt ks k↔j=k\/j∈ks:=by
 unfold vt;split
 ·next m=>exact{.inr,λh=>h.elim (λe=>e▸m) id}
 rw[Og,N4];exact or_comm
theorem zt{j:Key}:∀(ks acc:List Key),j∈ks.foldl vt acc↔j∈ks\/j∈acc
 | [],acc=>by simp
 |k::ks,acc=>by
  rw[OX,zt ks,HR,Ob];constructor
  ·rintro(h|h|h)
   ·exact .inl (.inr h)
   ·exact .inl (.inl h)
   exact .inr h
  rintro((h|h)|h)
  ·exact .inr (.inl h)
  ·exact .inl h
  exact .inr (.inr h)
theorem Gh{j:Key}{ks:List Key}:j∈El ks↔j∈ks:=by
 unfold El;rw[zt];simp
theorem uD(kvs:List (Key×V))(k:Key)(v:V):(Xi kvs k v).length<=kvs.length+1:=by
 unfold Xi;split
 ·rw[N3];lia
 simp
def ħ(A:Ï)(i:Nat):Q1:=(cls A).getD i 0
theorem Gy(T:Txt K mg A){i j:Nat}(hi:i<15)(hj:j<15)(h:i≠j):ħ A i≠ħ A j:=by
 unfold ħ;rw[OI,OI,Oa (show i<(cls A).length from hi),Oa (show j<(cls A).length from hj)];exact JL T i j hi hj h
theorem x9(T:Txt K mg A)(i:Nat)(h:i<14)(h0:0<i):∃x,gc K mg (ħ A i) x [ħ A i,A.Row]:=by
 match i,h,h0 with
 |1,_,_=>exact{_,T.dJ}
 |2,_,_=>exact{_,T.bI}
 |3,_,_=>exact{_,T.dI}
 |4,_,_=>exact{_,T.dj}
 |5,_,_=>exact{_,T.du}
 |6,_,_=>exact{_,T.cL}
 |7,_,_=>exact{_,T.cy}
 |8,_,_=>exact{_,T.bQ}
 |9,_,_=>exact{_,T.bD}
 |10,_,_=>exact{_,T.fo}
 |11,_,_=>exact{_,T.aQ}
 |12,_,_=>exact{_,T.aI}
 |13,_,_=>exact{_,T.bh}
theorem Eo(T:Txt K mg A)(i j:Nat)(hi:i<14)(hj:j<14)(i0:0<i)(j0:0<j):Ti K (.ref (ħ A i)) (.ref (ħ A j))=Xb (decide (i=j)):=by
 obtain⟨x,O⟩:=x9 T i hi i0;obtain⟨y,U0z⟩:=x9 T j hj j0;by_cases e:i=j
 ·subst e;rw[decide_eq_true rfl];exact NW O
 rw[decide_eq_false e];exact Nx O U0z (Gy T () () (λz=>e z.symm)) (Gy T (j:=0) () () ())
seal PE PA PS ď PT PW
inductive Th where
 |i (n:Int)|x (a:Nat)
inductive Val where
 |one (a:Th)|op (a:Th) (w:Str) (b:Th)
def Th.v(N:Nat->Str):Th->V
 | .i n=>.int n
 | .x a=>.str (N a)
def vV(N:Nat->Str):Val->List V
 | .one a=>[a.v N]
 | .op a w b=>[a.v N,.str w,b.v N]
inductive Lr where
 |hand (i:Nat) (r:Int)|ĺ (i:Nat) (r z:Int)|own (i:Nat) (z:Int)|lt (i:Nat) (r:Int)
 |set (x:Nat) (v:Val)|put (x:Nat) (p:Th) (v:Val)|snd (h:Nat) (v:Val)|say (x:Nat) (v:Val) (m:Nat)
 |call (i:Nat) (ts:List Th)|last
def Lr.ci:Lr->Nat
 | .hand _ _=>1| .ĺ _ _ _=>2| .own _ _=>3| .lt _ _=>4| .set _ _=>5| .put _ _ _=>6| .snd _ _=>7| .say _ _ _=>8
 | .call _ _=>9| .last=>10
abbrev nV(N:Nat->Str)(ns:List Nat):List V:=ns.map λi=>V.str (N i)
def Lr.fs(N:Nat->Str)(p:Q1):Lr->List (Str×V)
 | .hand i r=>[("name",.str (N i)),("rank",.int r)]
 | .ĺ i r z=>[("name",.str (N i)),("rank",.int r),("size",.int z)]
 | .own i z=>[("name",.str (N i)),("size",.int z)]
 | .lt i r=>[("name",.str (N i)),("rank",.int r)]
 | .set x _=>[("name",.str (N x)),("value",.ref p)]
 | .put x t _=>[("name",.str (N x)),("place",t.v N),("value",.ref p)]
 | .snd h _=>[("name",.str (N h)),("value",.ref p)]
 | .say x _ m=>[("name",.str (N x)),("value",.ref p),("mark",.str (N m))]
 | .call i _=>[("name",.str (N i)),("things",.ref p)]
 | .last=>[]
def Lr.ob(N:Nat->Str):Lr->Option HO
 | .set _ v=>Xb (.tup (vV N v))
 | .put _ _ v=>Xb (.tup (vV N v))
 | .snd _ v=>Xb (.tup (vV N v))
 | .say _ v _=>Xb (.tup (vV N v))
 | .call _ ts=>Xb (.lst (ts.map (Th.v N)))
 |_=>Xc
inductive Pt where
 |leaf (n:Int) (r:Lr)
 |iff (n:Int) (v:Val) (l r:Int) (f o:List Pt)
 |loop (n:Int) (t:Th) (m l r:Int) (b:List Pt)
 |aX (n:Int) (i:Nat) (ps:List Nat) (b:List Pt)
def Pt.no:Pt->Int
 | .leaf n _=>n
 | .iff n _ _ _ _ _=>n
 | .loop n _ _ _ _ _=>n
 | .aX n _ _ _=>n
def Pt.ci:Pt->Nat
 | .leaf _ r=>r.ci
 | .iff _ _ _ _ _ _=>11
 | .loop _ _ _ _ _ _=>12
 | .aX _ _ _ _=>13
def NT(A:Ï)(N:Nat->Str)(X:Hp)(v:V)(n:Int)(r:Lr):Prop:=∃a dx p,v=.ref a/\X a=Xb (.ins (ħ A r.ci) dx (("number",.int n)::r.fs N p))/\∀o,r.ob N=Xb o->X p=Xb o
mutual
noncomputable def aJ(A:Ï)(N:Nat->Str)(X:Hp):V->Pt->Prop
 |v,.leaf n r=>NT A N X v n r
 |v,.iff n val l r f o=>∃a dx p pf po xf xo,v=.ref a/\X a=Xb (.ins A.dE dx [("number",.int n),("value",.ref p),("first",.ref pf),("other",.ref po),("left",.int l),("right",.int r)])/\X p=Xb (.tup (vV N val))/\X pf=Xb (.lst xf)/\X po=Xb (.lst xo)/\bc A N X xf f/\bc A N X xo o
 |v,.loop n t m l r b=>∃a dx pb xb,v=.ref a/\X a=Xb (.ins A.bG dx [("number",.int n),("thing",t.v N),("most",.int m),("body",.ref pb),("left",.int l),("right",.int r)])/\X pb=Xb (.lst xb)/\bc A N X xb b
 |v,.aX n i ps b=>∃a dx pp pb xb,v=.ref a/\X a=Xb (.ins A.cu dx [("number",.int n),("name",.str (N i)),("parts",.ref pp),("body",.ref pb)])/\X pp=Xb (.lst (nV N ps))/\X pb=Xb (.lst xb)/\bc A N X xb b
noncomputable def bc(A:Ï)(N:Nat->Str)(X:Hp):List V->List Pt->Prop
 |vs,[]=>vs=[]
 |vs,t::ts=>∃x xs,vs=x::xs/\aJ A N X x t/\bc A N X xs ts
end
mutual
theorem aJ.same{X X':Hp}(s:aq X X'):∀(t:Pt)(v:V),aJ A N X v t->aJ A N X' v t
 | .leaf n r,v,h=>by
  unfold aJ at h⊢;obtain⟨a,dx,p,e,h1,h2⟩:=h;exact{a,dx,p,e,s _ _ h1,λo ho=>s _ _ (h2 o ho)}
 | .iff n val l r f o,v,h=>by
  unfold aJ at h⊢;obtain⟨a,dx,p,pf,po,xf,xo,e,h1,h2,h3,h4,h5,h6⟩:=h;exact{a,dx,p,pf,po,xf,xo,e,s _ _ h1,s _ _ h2,s _ _ h3,s _ _ h4,bc.same s f _ h5,bc.same s o _ h6}
 | .loop n t m l r b,v,h=>by
  unfold aJ at h⊢;obtain⟨a,dx,pb,xb,e,h1,h2,h3⟩:=h;exact{a,dx,pb,xb,e,s _ _ h1,s _ _ h2,bc.same s b _ h3}
 | .aX n i ps b,v,h=>by
  unfold aJ at h⊢;obtain⟨a,dx,pp,pb,xb,e,h1,h2,h3,h4⟩:=h;exact{a,dx,pp,pb,xb,e,s _ _ h1,s _ _ h2,s _ _ h3,bc.same s b _ h4}
theorem bc.same{X X':Hp}(s:aq X X'):∀(ts:List Pt)(vs:List V),bc A N X vs ts->bc A N X' vs ts
 | [],vs,h=>by
  unfold bc at h⊢;exact h
 |t::ts,vs,h=>by
  unfold bc at h⊢;obtain⟨x,xs,e,h1,h2⟩:=h;exact{x,xs,e,aJ.same s t _ h1,bc.same s ts _ h2}
end
theorem bc.nil{X:Hp}:bc A N X [] []:=by
 unfold bc;rfl
theorem bc.cons{X:Hp}{x:V}{t:Pt}{ts:List Pt}{vs:List V}(h:aJ A N X x t)(h':bc A N X vs ts):bc A N X (x::vs) (t::ts):=by
 unfold bc;exact⟨x,vs,rfl,h,h'⟩
theorem bc.len{X:Hp}:∀{ts:List Pt}{vs:List V},bc A N X vs ts->vs.length=ts.length
 | [],vs,h=>by
  unfold bc at h;rw[h];rfl
 |t::ts,vs,h=>by
  unfold bc at h;obtain⟨y,ys,e,h1,h2⟩:=h;subst e;simp[bc.len h2]
theorem bc.get{X:Hp}:∀{ts:List Pt}{vs:List V}{i:Nat}{v:V},bc A N X vs ts->vs[i]?=Xb v->∃t,ts[i]?=Xb t/\aJ A N X v t
 | [],vs,i,v,h,e=>by
  unfold bc at h;rw[h]at e;cases e
 |t::ts,vs,i,v,h,e=>by
  unfold bc at h;obtain⟨y,ys,e',h1,h2⟩:=h;subst e';cases i with
  |zero=>cases e;exact⟨t,rfl,h1⟩
  |succ i=>exact bc.get (i:=i) h2 e
theorem bc.of{X:Hp}:∀{ts:List Pt}{vs:List V},Paired (λt v=>aJ A N X v t) ts vs->bc A N X vs ts
 |_,_,.nil=>bc.nil
 |_,_,.cons h r=>bc.cons h (bc.of r)
theorem oP(p:Pt):0<p.ci/\p.ci<14:=by
 cases p with
 |leaf n r=>cases r<;>simp[Pt.ci,Lr.ci]
 |_=>simp[Pt.ci]
theorem Mi(T:Txt K mg A)(p:Pt):ļ K (ħ A p.ci)/\aP K (ħ A p.ci) "number":=by
 cases p with
 |leaf n r=>
  cases r with
  |hand _ _=>exact⟨T.dJ.cl,T.fm⟩
  |ĺ _ _ _=>exact⟨T.bI.cl,T.fb⟩
  |own _ _=>exact⟨T.dI.cl,T.fI⟩
  |lt _ _=>exact⟨T.dj.cl,T.fM⟩
  |set _ _=>exact⟨T.du.cl,T.fG⟩
  |put _ _ _=>exact⟨T.cL.cl,T.fL⟩
  |snd _ _=>exact⟨T.cy.cl,T.fq⟩
  |say _ _ _=>exact⟨T.bQ.cl,T.cb⟩
  |call _ _=>exact⟨T.bD.cl,T.cR⟩
  |_=>exact⟨T.fo.cl,T.dQ⟩
 |iff _ _ _ _ _ _=>exact⟨T.aQ.cl,T.dP⟩
 |loop _ _ _ _ _ _=>exact⟨T.aI.cl,T.cQ⟩
 |aX _ _ _ _=>exact⟨T.bh.cl,T.ft⟩
theorem EI{X:Hp}{v:V}{p:Pt}(h:aJ A N X v p):∃a dx fs,v=.ref a/\X a=Xb (.ins (ħ A p.ci) dx (("number",.int p.no)::fs)):=by
 cases p with
 |leaf n r=>
  unfold aJ at h;obtain⟨a,dx,p,e,h1,h2⟩:=h;exact{a,dx,_,e,h1}
 |iff n val l r f o=>
  unfold aJ at h;obtain⟨a,dx,p,pf,po,xf,xo,e,h1,_⟩:=h;exact{a,dx,_,e,h1}
 |loop n t m l r b=>
  unfold aJ at h;obtain⟨a,dx,pb,xb,e,h1,_⟩:=h;exact{a,dx,_,e,h1}
 |aX n i ps b=>
  unfold aJ at h;obtain⟨a,dx,pp,pb,xb,e,h1,_⟩:=h;exact{a,dx,_,e,h1}
theorem wA(T:Txt K mg A){X H:Hp}(s:aq X H){v:V}{p:Pt}(h:aJ A N X v p)(j:Nat)(j0:0<j)(hj:j<14){R:Bool->Hp->Prop}(q:R (decide (p.ci=j)) H):Bn K [v,.ref (ħ A j)] H λv H1=>zP K v H1 R:=by
 obtain⟨a,dx,fs,rfl,ha⟩:=EI h;obtain⟨x,O⟩:=x9 T p.ci (oP p).2 (oP p).1;exact isB (O.MV (s _ _ ha)) (Eo T p.ci j (oP p).2 hj (oP p).1 j0) q
theorem dA(T:Txt K mg A){X H:Hp}(s:aq X H){v:V}{p:Pt}(h:aJ A N X v p){j:Nat}(e:p.ci=j){R:Bool->Hp->Prop}(q:R true H):Bn K [v,.ref (ħ A j)] H λv H1=>zP K v H1 R:=wA T s h j (e▸(oP p).1) (e▸(oP p).2) (by rw[decide_eq_true e];exact q)
theorem bN(T:Txt K mg A){X H:Hp}(s:aq X H){v:V}{p:Pt}(h:aJ A N X v p){j:Nat}(e:p.ci≠j){R:Bool->Hp->Prop}(q:R false H)(j0:0<j:=by decide)(hj:j<14:=by decide):Bn K [v,.ref (ħ A j)] H λv H1=>zP K v H1 R:=wA T s h j j0 hj (by rw[decide_eq_false e];exact q)
theorem xU(T:Txt K mg A){X H:Hp}(s:aq X H){v:V}{p:Pt}(h:aJ A N X v p)(j:Nat)(j0:0<j)(hj:j<14){Q:VK}(q:Q (.bl (decide (p.ci=j))) H):Bn K [v,.ref (ħ A j)] H Q:=by
 obtain⟨a,dx,fs,rfl,ha⟩:=EI h;obtain⟨x,O⟩:=x9 T p.ci (oP p).2 (oP p).1;exact{_,_,_,_,rfl,(λz=>by cases z),O.MV (s _ _ ha),Eo T p.ci j (oP p).2 hj (oP p).1 j0,q}
theorem dB(T:Txt K mg A){X H:Hp}(s:aq X H){v:V}{p:Pt}(h:aJ A N X v p){Q:VK}(q:Q (.int p.no) H):pO K "number" v H Q:=by
 obtain⟨a,dx,fs,rfl,ha⟩:=EI h;obtain⟨c1,c2⟩:=Mi T p;exact Å (s _ _ ha) c1 c2 rfl q
def a9(n:Int):Str:=RE++("row ":Str)++SV (toString n)
def Ko(s:Str):Nat:=(s.cps.toList.drop 4).foldl (λa c=>10*a+(c-48)) 0
theorem ou:∀n:Fin 1001,((n.val:Int).natAbs.log2<1920)/\(SV (toString (n.val:Int))).length<=20/\Ko (a9 (n.val:Int))=n.val/\(a9 (n.val:Int)).cps[0]?=Xb 114:=by decide+kernel
theorem HJ{a b:Int}(a0:0<=a)(a1:a<=1000)(b0:0<=b)(b1:b<=1000)(h:a9 a=a9 b):a=b:=by
 obtain⟨a,rfl⟩:∃k:Nat,a=(k:Int):={a.toNat,()};obtain⟨b,rfl⟩:∃k:Nat,b=(k:Int):={b.toNat,()};have h1:=(ou {a,()}).2.2.1;have h2:=(ou {b,()}).2.2.1;rw[show Ko (a9 (a:Int))=Ko (a9 (b:Int)) by rw[h]]at h1;have:b=a:=h2.symm.trans h1;rw[this]
theorem Iz{a:Int}(a0:0<=a)(a1:a<=1000){x:Str}(hx:x.cps[0]?≠Xb 114):a9 a≠x:=by
 obtain⟨a,rfl⟩:∃k:Nat,a=(k:Int):={a.toNat,()};intro e;exact hx (e▸(ou {a,()}).2.2.2)
theorem rT(a b:Str):(a++b).length=a.length+b.length:=VP
inductive y9(vs:List V)(H:Hp)(Q:VK)(Ã:XK):Prop
 |mk(n:Int):vs=[.int n]->0<=n->n<=1000->Q (.str (a9 n)) H->y9 vs H Q Ã
theorem oA(T:Txt K mg A):T.q0.Hz P w base 1 y9:=by
 refine T.q0.hs wO (λf Ä A' outer s H vs Q E' hr hu h=>?_);obtain⟨n,rfl,h0,h1,q⟩:=h;obtain⟨n,rfl⟩:∃k:Nat,n=(k:Int):={n.toNat,()};obtain⟨k1,k2,_⟩:=ou {n,()};refine{_,(ai (aA (HU (Cd ay (Cd (KI (fv 0)) J2))))),{_,rfl,∅,N6 {_,rfl,k1,_,rfl,?_}}};have l:(a9 (n:Int)).length<=sizeLine:=by
  unfold a9;rw[rT];exact Ol (Nat.add_le_add_left k2 _) ∅
 exact⟨l,l,q⟩
theorem Paired.two{α β:Type}{F:α->β->Prop}:∀{xs zs:List α}{ys ws:List β},Paired F xs ys->Paired F zs ws->Paired F (xs++zs) (ys++ws)
 |_,_,_,_,.nil,h=>h
 |_,_,_,_,.cons g r,h=>.cons g (Paired.two r h)
abbrev Le:=Pt×Option Str×Option Str
def oS:Option Str->V
 |none=>.Ê
 |some x=>.str x
mutual
noncomputable def ba(lp:Option Str):Pt->List Le
 | .leaf _ _=>[]
 | .iff n _ _ _ f o=>bg (Xb (a9 n)) lp f++bg (Xb (a9 n)) lp o
 | .loop n _ _ _ _ b=>bg (Xb (a9 n)) (Xb (a9 n)) b
 | .aX _ _ _ _=>[]
noncomputable def bg(pl lp:Option Str):List Pt->List Le
 | []=>[]
 |t::ts=>(t,pl,lp)::(ba lp t++bg pl lp ts)
end
mutual
noncomputable def dep:Pt->Nat
 | .leaf _ _=>0
 | .iff _ _ _ _ f o=>max (gw f) (gw o)+1
 | .loop _ _ _ _ _ b=>gw b+1
 | .aX _ _ _ b=>0
noncomputable def gw:List Pt->Nat
 | []=>0
 |t::ts=>max (dep t) (gw ts)
end
theorem jb{t:Pt}:∀{ts:List Pt},t∈ts->dep t<=gw ts
 |t'::ts,m=>by
  unfold gw;rcases Ob.mp m with rfl|m
  ·exact Nat.le_max_left _ _
  exact Ol (jb m) (Nat.le_max_right _ _)
theorem uN{pl lp:Option Str}:∀(a b:List Pt),bg pl lp (a++b)=bg pl lp a++bg pl lp b
 | [],b=>by simp[bg]
 |t::a,b=>by
  have h1:bg pl lp (t::(a++b))=(t,pl,lp)::(ba lp t++bg pl lp (a++b)):=by rw[bg]
  have h2:bg pl lp (t::a)=(t,pl,lp)::(ba lp t++bg pl lp a):=by rw[bg]
  show bg pl lp (t::(a++b))=_;rw[h1,h2,uN a b];simp
theorem wN{pl lp:Option Str}{ts:List Pt}{t:Pt}{i:Nat}(h:ts[i]?=Xb t):bg pl lp (ts.take (i+1))=bg pl lp (ts.take i)++(t,pl,lp)::ba lp t:=by
 rw[OG,h,uN];show bg pl lp (ts.take i)++bg pl lp [t]=_;rw[show bg pl lp [t]=(t,pl,lp)::ba lp t by simp[bg]]
theorem DZ{pl lp:Option Str}{ts:List Pt}{t:Pt}{i:Nat}(h:ts[i]?=Xb t):bg pl lp ts=bg pl lp (ts.take i)++((t,pl,lp)::ba lp t)++bg pl lp (ts.drop (i+1)):=by
 rw[<-wN h,<-uN,OZ]
def Nb(es:List Le):Prop:=∀e∈es,0<=e.1.no/\e.1.no<=1000
def LyE(A:Ï)(N:Nat->Str)(X:Hp)(e:Le)(y:V)(H:Hp):Prop:=∃tp v,y=V.ref tp/\H tp=Xb (.tup [v,oS e.2.1,oS e.2.2])/\aJ A N X v e.1
def Ly(A:Ï)(N:Nat->Str)(X H:Hp)(es:List Le)(ys:List V):Prop:=Paired (λe y=>LyE A N X e y H) es ys
theorem Ly.same{X H H':Hp}(s:∀x w,H x=Xb (.tup w)->H' x=Xb (.tup w)){es:List Le}{ys:List V}(h:Ly A N X H es ys):Ly A N X H' es ys:=Paired.eX h λ_ _ ⟨tp,v,e,h1,h2⟩=>{tp,v,e,s _ _ h1,h2}
inductive sO(A:Ï)(d:Nat)(vs:List V)(H:Hp)(Q:VK)(Ã:XK):Prop
 |mk(N:Nat->Str)(X:Hp)(L:Q1)(xs:List V)(pl lp:Option Str)(ts:List Pt)(z0:vs=[.ref L,oS pl,oS lp])(z1:aq X H)(z2:X L=Xb (.lst xs))(z3:bc A N X xs ts)(z4:gw ts<=d)(z5:Nb (bg pl lp ts))(z6:(bg pl lp ts).length<=900)
  (z7:∀(R:Q1)(ys:List V)(H':Hp),aq H H'->H R=Xc->H' R=Xb (.lst ys)->Ly A N X H' (bg pl lp ts) ys->Q (.ref R) H'):sO A d vs H Q Ã
inductive qS(A:Ï)(d:Nat)(vs:List V)(H:Hp)(Q:VK)(Ã:XK):Prop
 |mk(N:Nat->Str)(X:Hp)(v:V)(lp:Option Str)(t:Pt)(z0:vs=[v,oS lp])(z1:aq X H)(z2:aJ A N X v t)(z3:dep t<=d)(z4:0<=t.no/\t.no<=1000)(z5:Nb (ba lp t))(z6:(ba lp t).length<=900)
  (z7:∀(R:Q1)(ys:List V)(H':Hp),aq H H'->H R=Xc->H' R=Xb (.lst ys)->Ly A N X H' (ba lp t) ys->Q (.ref R) H'):qS A d vs H Q Ã
def FE(A:Ï):Nat->Sp
 |0=>λ_ _ _ _=>False
 |d+1=>sO A d
theorem Cu(T:Txt K mg A)(d j:Nat)(QO:T.jz.Hz P w base j (qS A d)):T.iC.Hz P w base (j+1) (sO A d):=by
 refine T.iC.hs (k:=j) iq (λf Ä A' outer s H vs Q E' hr hu h=>?_);obtain⟨N,X,L,xs,pl,lp,ts,rfl,s0,hL,pt,dp,nb,ln,q⟩:=h;refine⟨_,(af (Æ 3 iq.nd (aU ae))
  (af (b6 Rg rfl (br (fv 0)) (Õ (i:=4) iq.nd rfl)
   (af (aW (bu (fv 3) (bE (fv 4^fv 1^fv 2^ae)^ae)))
   (ai (aW (gO (fv 3) ((aj (hj:=by lia) QO hr (fv 4^fv 2^ae))^ae))))))
  (ai (aA (fv 3))))),?_⟩
 refine ao λM1 K1=>{Oj _,λR hR=>?_};obtain⟨s1,e1⟩:=Ò hR (HO.lst []);generalize upd H R _=H1 at s1 e1⊢;refine K1 _ _ ?_;clear K1 M1;rfl'
 refine ao λM1 K1=>N6 {{_,À.of ((s0.trans s1) _ _ hL)},bP (K:=K) (xs:=xs) (λi B Hc=>∃(ys:List V)(v4:Option V),B=[Xb (.ref L),Xb (oS pl),Xb (oS lp),Xb (.ref R),v4]/\aq H Hc/\Hc R=Xb (.lst ys)/\Ly A N X Hc (bg pl lp (ts.take i)) ys) {[],Xc,rfl,s1,e1,by rw[show bg pl lp (ts.take 0)=[] by show bg pl lp []=[];rw[bg]];exact .nil} (λi B Hc _ ⟨_,_,_,z,_⟩=>À.of ((s0.trans z) _ _ hL)) ?_ ?_}
 ·rintro i v B Hc hv ⟨ys,v4,rfl,sc,Ú,ly⟩;obtain⟨t,ht,pa⟩:=pt.get hv;have mt:t∈ts:=Oe ht;have e:=DZ (pl:=pl) (lp:=lp) ht;have le:(bg pl lp (ts.take i)).length+(1+(ba lp t).length)<=900:=by
   rw[e]at ln;simp at ln;lia
  have n1:∀z∈((t,pl,lp)::ba lp t),0<=z.1.no/\z.1.no<=1000:=λz hz=>nb z (by rw[e];exact Oh _ (Od _ hz));have ů:=Q7 ly;rfl'
  refine ao λN1 J1=>{N6 {rfl,_,À.of Ú},by show 3<=sizeLine;decide,λtp ü=>?_};have tpR:tp≠R:=Xd ü Ú;refine{_,_,_,rfl,rfl,aF tpR.symm Ú,aH (),?_};have s2:aq H (upd (upd Hc tp (.tup [v,oS pl,oS lp])) R (.lst (ys++[.ref tp]))):=aq.out (sc.trans (aq.upd ü _)) hR _;have e2:upd (upd Hc tp (.tup [v,oS pl,oS lp])) R (.lst (ys++[.ref tp])) R=Xb (.lst (ys++[.ref tp])):=av;have l2:Ly A N X (upd (upd Hc tp (.tup [v,oS pl,oS lp])) R (.lst (ys++[.ref tp]))) (bg pl lp (ts.take i)++[(t,pl,lp)]) (ys++[.ref tp]):=by
   refine Paired.two (ly.same λx w e=>?_) (.cons ⟨tp,v,rfl,aF tpR av,pa⟩ .nil);exact aF (λy=>by rw[y,Ú]at e;cases e) (aF (λy=>by rw[y,ü]at e;cases e) e)
  generalize upd (upd Hc tp (.tup [v,oS pl,oS lp])) R (.lst (ys++[.ref tp]))=Hd at s2 e2 l2⊢;refine J1 _ _ ?_;clear J1 N1;rfl'
  refine{N6 {rfl,_,À.of e2},N,X,v,lp,t,rfl,s0.trans s2,pa,Ol (jb mt) dp,n1 _ N9,λz hz=>n1 z (N8 _ hz),(),λR2 zs He s3 υ Ļ l3=>?_};have lz:=Q7 l3;refine{_,_,_,_,rfl,rfl,s3 _ _ e2,Ļ,sz (by rw[N7,<-lz,<-ů];simp;lia),{_,_,rfl,aq.out (s2.trans s3) hR _,av,?_}};rw[wN ht,show bg pl lp (ts.take i)++(t,pl,lp)::ba lp t=bg pl lp (ts.take i)++[(t,pl,lp)]++ba lp t by simp];have dR:∀x w,He x=Xb (.tup w)->upd He R (.lst (ys++[.ref tp]++zs)) x=Xb (.tup w):=λx w e=>aF (λy=>by rw[y,s3 _ _ e2]at e;cases e) e;exact Paired.two (l2.same λx w e=>dR x w (s3 _ _ e)) (l3.same dR)
 rintro B Hc ⟨ys,v4,rfl,sc,Ú,ly⟩;rw[show ts.take xs.length=ts by rw[pt.len];exact Ov]at ly;exact K1 _ _ (q R ys Hc sc hR Ú ly)
theorem vE(T:Txt K mg A)(d j:Nat)(QH:T.iC.Hz P w base (j+1) (FE A d)):T.jz.Hz P w base (j+2) (qS A d):=by
 refine T.jz.hs (k:=j+1) mR (λf Ä A' outer s H vs Q E' hr hu h=>?_);obtain⟨N,X,v,lp,t,rfl,s0,pa,dp,nt,nb,ln,q⟩:=h;refine⟨_,(af (Æ 2 mR.nd (aj (hj:=by lia) (oA T) hr (aw (fv 0) rfl^ae)))
  (af (aN (aZ (Ó aK T.az (fv 0^aS T.aQ.mg^ae)) (λ_=>rfl))
   (ai (aA (ax aO (aj (hj:=by lia) QH hr (aw (fv 0) rfl^fv 2^fv 1^ae)) (aj (hj:=by lia) QH hr (aw (fv 0) rfl^fv 2^fv 1^ae)))))
   aG)
  (af (aN (aZ (Ó aK T.az (fv 0^aS T.aI.mg^ae)) (λ_=>rfl))
   (ai (aA (aj (hj:=by lia) QH hr (aw (fv 0) rfl^fv 2^fv 2^ae))))
   aG)
  (ai (aA (aU ae)))))),?_⟩
 refine ao λM1 K1=>dB T s0 pa {_,rfl,nt.1,nt.2,K1 _ _ ?_};clear K1 M1;rfl'
 refine ao λM1 K1=>wA T s0 pa 11 ∅ ∅ ?_;cases t with
 |iff n val l r f o=>
  refine bp ?_;unfold aJ at pa;obtain⟨a,dx,p,pf,po,xf,xo,rfl,h1,h2,h3,h4,h5,h6⟩:=pa;unfold dep at dp;cases d with
  |zero=>lia
  |succ d=>
  unfold ba at nb ln q;have nf:Nb (bg (Xb (a9 n)) lp f):=λy hy=>nb y (Oh _ hy);have no:Nb (bg (Xb (a9 n)) lp o):=λy hy=>nb y (Od _ hy);rw[N7]at ln;refine Å (s0 _ _ h1) T.aQ.cl T.cz rfl {N,X,pf,xf,Xb (a9 n),lp,f,rfl,s0,h3,h5,(),nf,(),λR1 y1 H1 s1 n1 e1 l1=>Å ((s0.trans s1) _ _ h1) T.aQ.cl T.cA rfl {N,X,po,xo,Xb (a9 n),lp,o,rfl,s0.trans s1,h4,h6,(),no,(),λR2 y2 H2 s2 n2 e2 l2=>?_}};have z1:=Q7 l1;have z2:=Q7 l2;refine{R1,R2,_,_,rfl,rfl,s2 _ _ e1,e2,sz (),λR hR=>?_};have s3:aq H2 (upd H2 R (.lst (y1++y2))):=aq.upd hR _;exact q R _ _ ((s1.trans s2).trans s3) (aq.free (s1.trans s2) hR) av (Paired.two (l1.same λx w e=>s3 _ _ (s2 _ _ e)) (l2.same λx w e=>s3 _ _ e))
 |loop n t m l r b=>
  refine aT (K1 _ _ ?_);clear K1 M1;rfl'
  refine ao λM1 K1=>wA T s0 pa 12 ∅ ∅ (bp ?_);unfold aJ at pa;obtain⟨a,dx,pb,xb,rfl,h1,h2,h3⟩:=pa;unfold dep at dp;cases d with
  |zero=>lia
  |succ d=>
  unfold ba at nb ln q;exact Å (s0 _ _ h1) T.aI.cl T.b5 rfl {N,X,pb,xb,Xb (a9 n),Xb (a9 n),b,rfl,s0,h2,h3,(),nb,ln,λR1 y1 H1 s1 n1 e1 l1=>q R1 y1 H1 s1 n1 e1 l1}
 |leaf n r=>
  have e11:decide ((Pt.leaf n r).ci=11)=false:=by cases r<;>rfl
  have e12:decide ((Pt.leaf n r).ci=12)=false:=by cases r<;>rfl
  rw[e11];refine aT (K1 _ _ ?_);clear K1 M1;rfl'
  refine ao λM1 K1=>wA T s0 pa 12 ∅ ∅ ?_;rw[e12];refine aT (K1 _ _ ?_);clear K1 M1;refine{Oj _,λR hR=>q R [] _ (aq.upd hR _) hR av ?_};unfold ba;exact .nil
 |aX n i ps b=>
  refine aT (K1 _ _ ?_);clear K1 M1;rfl'
  refine ao λM1 K1=>wA T s0 pa 12 ∅ ∅ (aT (K1 _ _ ?_));clear K1 M1;refine{Oj _,λR hR=>q R [] _ (aq.upd hR _) hR av ?_};unfold ba;exact .nil
theorem Bi(T:Txt K mg A):∀d,T.iC.Hz P w base (2*d+3) (sO A d)
 |0=>Cu T 0 2 (vE T 0 0 (T.iC.hs (k:=0) iq (λ_ _ _ _ _ _ _ _ _ _ _ h=>h.elim) (λ_ _ _ _ h=>h.elim)))
 |d+1=>Cu T (d+1) (2*d+4) (vE T (d+1) (2*d+2) (Bi T d))
def b7:Pt->List Pt
 | .aX _ _ _ b=>b
 |_=>[]
def ë(N:Nat->Str):Pt->Str
 | .aX _ i _ _=>N i
 |_=>RE
def Ē(N:Nat->Str):Pt->List Str
 | .aX _ _ ps _=>ps.map N
 |_=>[]
def xa:Pt->Prop
 | .aX _ _ _ _=>True
 |_=>False
def gM(N:Nat->Str)(ds:List Pt):List Le:=ds.flatMap λp=>bg (Xb (ë N p)) Xc (b7 p)
theorem uk{ts:List Pt}{t:Pt}{i:Nat}(h:ts[i]?=Xb t):gM N (ts.take (i+1))=gM N (ts.take i)++bg (Xb (ë N t)) Xc (b7 t):=by
 unfold gM;rw[OG,h];simp
theorem C3{ts:List Pt}{t:Pt}{i:Nat}(h:ts[i]?=Xb t):gM N ts=gM N (ts.take i)++bg (Xb (ë N t)) Xc (b7 t)++gM N (ts.drop (i+1)):=by
 rw[<-uk h];unfold gM;rw[<-PU,OZ]
def jx(A:Ï)(N:Nat->Str)(X:Hp)(v:V)(hs ds ms:List Pt):Prop:=∃a dx n0 n1 n2 x0 x1 x2,v=.ref a/\X a=Xb (.ins A.Program dx [("heads",.ref n0),("deeds",.ref n1),("main",.ref n2)])/\X n0=Xb (.lst x0)/\X n1=Xb (.lst x1)/\X n2=Xb (.lst x2)/\bc A N X x0 hs/\bc A N X x1 ds/\bc A N X x2 ms
def bj(N:Nat->Str)(ds ms:List Pt):List Le:=gM N ds++bg Xc Xc ms
def Ł(N:Nat->Str):Pt->Option Str
 | .leaf _ (.ĺ i _ _)=>Xb (N i)
 | .leaf _ (.own i _)=>Xb (N i)
 | .leaf _ (.lt i _)=>Xb (N i)
 |_=>Xc
def iw(p:Pt):Bool:=decide (p.ci=11)||(decide (p.ci=12)||(decide (p.ci=7)||decide (p.ci=8)))
def fz(es:List Le):List Str:=(es.filter λe=>iw e.1).map λe=>a9 e.1.no
def aV(N:Nat->Str)(hs ds ms:List Pt):List Str:=hs.filterMap (Ł N)++(ds.flatMap λp=>ë N p::Ē N p)++fz (bj N ds ms)++[("the clock":Str)]
structure Ok(N:Nat->Str)(d:Nat)(hs ds ms:List Pt):Prop where
 aX:∀p∈ds,xa p/\gw (b7 p)<=d
 main:gw ms<=d
 nb:Nb (bj N ds ms)
 ln:(bj N ds ms).length<=300
 hl:hs.length<=300
 pl:(aV N hs ds ms).length<=900
 nd:(aV N hs ds ms).Nodup
abbrev sS(xs:List Str):List V:=xs.map V.str
inductive yB(A:Ï)(d:Nat)(vs:List V)(H:Hp)(Q:VK)(Ã:XK):Prop
 |mk(N:Nat->Str)(X:Hp)(v:V)(hs ds ms:List Pt)(z0:vs=[v])(z1:aq X H)(z2:jx A N X v hs ds ms)(z3:Ok N d hs ds ms)
  (z7:∀(R:Q1)(ys:List V)(H':Hp),aq H H'->H R=Xc->H' R=Xb (.lst ys)->Ly A N X H' (bj N ds ms) ys->Q (.ref R) H'):yB A d vs H Q Ã
theorem xN(T:Txt K mg A)(d:Nat):T.lA.Hz P w base (2*d+4) (yB A d):=by
 refine T.lA.hs (k:=2*d+3) hU (λf Ä A' outer s H vs Q E' hr hu h=>?_);obtain⟨N,X,v,hs,ds,ms,rfl,s0,⟨a,dx,n0,n1,n2,x0,x1,x2,rfl,ha,e0,e1,e2,p0,p1,p2⟩,ok,q⟩:=h;have ln:=ok.ln;have nb:=ok.nb;unfold bj at ln nb;rw[N7]at ln;refine⟨_,(af (Æ 1 hU.nd (aU ae))
  (af (b6 Rg rfl (br (aw (fv 0) rfl)) (Õ (i:=2) hU.nd rfl)
   (ai (aW (gO (fv 1) ((aj (hj:=by lia) (Bi T d) hr (aw (fv 2) rfl^aw (fv 2) rfl^cU^ae))^ae)))))
  (ai (aA (ax aO (fv 1) (aj (hj:=by lia) (Bi T d) hr (aw (fv 0) rfl^cU^cU^ae))))))),?_⟩
 refine ao λM1 K1=>{Oj _,λR hR=>?_};obtain⟨s1,eR⟩:=Ò hR (HO.lst []);generalize upd H R _=H1 at s1 eR⊢;refine K1 _ _ ?_;clear K1 M1;rfl'
 refine ao λM1 K1=>Å ((s0.trans s1) _ _ ha) T.bF.cl T.bw rfl (N6 {{_,À.of ((s0.trans s1) _ _ e1)},bP (K:=K) (xs:=x1) (λi B Hc=>∃(ys:List V)(v2:Option V),B=[Xb (.ref a),Xb (.ref R),v2]/\aq H Hc/\Hc R=Xb (.lst ys)/\Ly A N X Hc (gM N (ds.take i)) ys) {[],Xc,rfl,s1,eR,.nil} (λi B Hc _ ⟨_,_,_,z,_⟩=>À.of ((s0.trans z) _ _ e1)) ?_ ?_})
 ·rintro i v B Hc hv ⟨ys,v2,rfl,sc,Ú,ly⟩;obtain⟨t,ht,pa⟩:=p1.get hv;have mt:t∈ds:=Oe ht;obtain⟨dt,dd⟩:=ok.aX t mt;cases t with
  |aX n i' ps b=>
   unfold aJ at pa;obtain⟨a',Ϟ,pp,pb,xb,rfl,h1,h2,h3,h4⟩:=pa;have e:=C3 (N:=N) ht;have le:(gM N (ds.take i)).length+(bg (Xb (N i')) Xc b).length<=300:=by
    have:=congrArg Ta e;simp only[N7]at this;have z:bg (Xb (ë N (.aX n i' ps b))) Xc (b7 (.aX n i' ps b))=bg (Xb (N i')) Xc b:=rfl;rw[z]at this;lia
   have nbb:Nb (bg (Xb (N i')) Xc b):=λy hy=>nb y (Oh _ (by rw[e];exact Oh _ (Od _ hy)));have ů:=Q7 ly;refine{N6 {rfl,_,À.of Ú},Å ((s0.trans sc) _ _ h1) T.bh.cl T.cD rfl (Å ((s0.trans sc) _ _ h1) T.bh.cl T.bR rfl {N,X,pb,xb,Xb (N i'),Xc,b,rfl,s0.trans sc,h3,h4,dd,nbb,(),λR2 zs He s3 υ Ļ l3=>?_})};have lz:=Q7 l3;refine{_,_,_,_,rfl,rfl,s3 _ _ Ú,Ļ,sz (),{_,_,rfl,aq.out (sc.trans s3) hR _,av,?_}};rw[uk ht];have dR:∀x w,He x=Xb (.tup w)->upd He R (.lst (ys++zs)) x=Xb (.tup w):=λx w e=>aF (λy=>by rw[y,s3 _ _ Ú]at e;cases e) e;exact Paired.two (ly.same λx w e=>dR x w (s3 _ _ e)) (l3.same dR)
  |_=>exact dt.elim
 rintro B Hc ⟨ys,v2,rfl,sc,Ú,ly⟩;rw[show ds.take x1.length=ds by rw[p1.len];exact Ov]at ly;refine K1 _ _ ?_;have ů:=Q7 ly;rfl'
 refine Å ((s0.trans sc) _ _ ha) T.bF.cl T.dU rfl {N,X,n2,x2,Xc,Xc,ms,rfl,s0.trans sc,e2,p2,ok.main,λy hy=>nb y (Od _ hy),(),λR2 zs He s3 υ Ļ l3=>?_};have lz:=Q7 l3;refine{R,R2,_,_,rfl,rfl,s3 _ _ Ú,Ļ,sz (),λR3 hR3=>?_};have s4:aq He (upd He R3 (.lst (ys++zs))):=aq.upd hR3 _;exact q R3 _ _ ((sc.trans s3).trans s4) (aq.free (sc.trans s3) hR3) av (Paired.two (ly.same λx w e=>s4 _ _ (s3 _ _ e)) (l3.same λx w e=>s4 _ _ e))
inductive tG(A:Ï)(vs:List V)(H:Hp)(Q:VK)(Ã:XK):Prop
 |mk(N:Nat->Str)(X:Hp)(v:V)(t:Pt):vs=[v]->aq X H->aJ A N X v t->Q (.bl (iw t)) H->tG A vs H Q Ã
theorem Dg(T:Txt K mg A):T.tw.Hz P w base 1 (tG A):=by
 refine T.tw.hs Ag (λf Ä A' outer s H vs Q E' hr hu h=>?_);obtain⟨N,X,v,t,rfl,s0,pa,q⟩:=h;refine{_,(ai (aA (EB (Ó aK T.az (fv 0^aS T.aQ.mg^ae)) (EB (Ó aK T.az (fv 0^aS T.aI.mg^ae)) (EB (Ó aK T.az (fv 0^aS T.cy.mg^ae)) (Jt (Ó aK T.az (fv 0^aS T.bQ.mg^ae)))))))),?_};unfold iw at q;refine xU T s0 pa 11 ∅ ∅ {_,rfl,?_};cases e1:decide (t.ci=11)with
 |true=>rw[e1]at q;exact bp q
 |false=>
 rw[e1]at q;refine aT (xU T s0 pa 12 ∅ ∅ {_,rfl,?_});cases e2:decide (t.ci=12)with
 |true=>rw[e2]at q;exact bp q
 |false=>
 rw[e2]at q;refine aT (xU T s0 pa 7 ∅ ∅ {_,rfl,?_});cases e3:decide (t.ci=7)with
 |true=>rw[e3]at q;exact bp q
 |false=>
 rw[e3]at q;exact aT (xU T s0 pa 8 ∅ ∅ q)
def Sm(M:List Q1)(H H':Hp):Prop:=∀a o,a∉M->H a=Xb o->H' a=Xb o
theorem Sm.refl(M:List Q1)(H:Hp):Sm M H H:=λ_ _ _ h=>h
theorem Sm.trans{M:List Q1}{H H' H'':Hp}(h:Sm M H H')(h':Sm M H' H''):Sm M H H'':=λa o m e=>h' a o m (h a o m e)
theorem Sm.new{M:List Q1}{H H':Hp}(s:aq H H'):Sm M H H':=λa o _ e=>s a o e
theorem Sm.at{M:List Q1}{H:Hp}{a:Q1}(m:a∈M)(o:HO):Sm M H (upd H a o):=λb u hb e=>aF (λz=>hb (z▸m)) e
theorem Sm.same{M:List Q1}{X H H':Hp}(h:Sm M H H')(s:aq X H)(n:∀m∈M,X m=Xc):aq X H':=λa o e=>h a o (λm=>by rw[n a m]at e;cases e) (s a o e)
theorem JG(N:Nat->Str)(t:Pt):(Ł N t).isSome=(decide (t.ci=2)||(decide (t.ci=3)||decide (t.ci=4))):=by
 cases t with
 |leaf n r=>cases r<;>rfl
 |_=>rfl
theorem AQ(T:Txt K mg A){X H:Hp}(s:aq X H){v:V}{t:Pt}(h:aJ A N X v t){x:Str}(e:Ł N t=Xb x){Q:VK}(q:Q (.str x) H):pO K "name" v H Q:=by
 cases t with
 |leaf n r=>
  unfold aJ at h;obtain⟨a,dx,p,rfl,h1,h2⟩:=h;cases r with
  |ĺ i _ _=>cases e;exact Å (s _ _ h1) T.bI.cl T.eJ rfl q
  |own i _=>cases e;exact Å (s _ _ h1) T.dI.cl T.gH rfl q
  |lt i _=>cases e;exact Å (s _ _ h1) T.dj.cl T.fA rfl q
  |_=>cases e
 |_=>cases e
theorem G9{α β:Type}(f:α->Option β){xs:List α}{i:Nat}{x:α}(h:xs[i]?=Xb x):(xs.take (i+1)).filterMap f=(xs.take i).filterMap f++(f x).toList:=by
 rw[OG,h,List.filterMap_append];show _++List.filterMap f [x]=_;rw[Pk];cases f x<;>rfl
inductive wK(A:Ï)(vs:List V)(H:Hp)(Q:VK)(Ã:XK):Prop
 |mk(N:Nat->Str)(X:Hp)(L:Q1)(xs:List V)(hs:List Pt)(z0:vs=[.ref L])(z1:aq X H)(z2:X L=Xb (.lst xs))(z3:bc A N X xs hs)(z4:hs.length<=900)
  (z5:∀(R:Q1)(H':Hp),aq H H'->H R=Xc->H' R=Xb (.lst (sS (hs.filterMap (Ł N))))->Q (.ref R) H'):wK A vs H Q Ã
theorem Gn(T:Txt K mg A):T.mT.Hz P w base 1 (wK A):=by
 refine T.mT.hs i9 (λf Ä A' outer s H vs Q E' hr hu h=>?_);obtain⟨N,X,L,xs,hs,rfl,s0,hL,pt,ln,q⟩:=h;refine⟨_,(af (Æ 1 i9.nd (aU ae))
  (af (b6 Rg rfl (br (fv 0)) (Õ (i:=2) i9.nd rfl)
   (ai (aN (PW.pt (pw_or (aZ (Ó aK T.az (fv 2^aS T.bI.mg^ae)) (λ_=>rfl)) (pw_or (aZ (Ó aK T.az (fv 2^aS T.dI.mg^ae)) (λ_=>rfl)) (pw_or1 (aZ (Ó aK T.az (fv 2^aS T.dj.mg^ae)) (λ_=>rfl))))))
    (ai (aW (bu (fv 1) (aw (fv 2) rfl^ae))))
    aG)))
  (ai (aA (fv 1))))),?_⟩
 refine ao λM1 K1=>{Oj _,λR hR=>?_};obtain⟨s1,e1⟩:=Ò hR (HO.lst []);generalize upd H R _=H1 at s1 e1⊢;refine K1 _ _ ?_;clear K1 M1;rfl'
 refine ao λM1 K1=>N6 {{_,À.of ((s0.trans s1) _ _ hL)},bP (K:=K) (xs:=xs) (λi B Hc=>∃(v2:Option V),B=[Xb (.ref L),Xb (.ref R),v2]/\aq H Hc/\Hc R=Xb (.lst (sS ((hs.take i).filterMap (Ł N))))) ⟨Xc,rfl,s1,e1⟩ (λi B Hc _ ⟨_,_,z,_⟩=>À.of ((s0.trans z) _ _ hL)) ?_ ?_}
 ·rintro i v B Hc hv ⟨v2,rfl,sc,Ú⟩;obtain⟨t,ht,pa⟩:=pt.get hv;have hi:=JG N t;have st:=G9 (Ł N) ht;have il:i<hs.length:=(Ot.mp ht).1;have l1:=Uh (Ł N) (hs.take i);rw[OH]at l1;have yes:∀x,Ł N t=Xb x->upd Hc R (.lst (sS ((hs.take i).filterMap (Ł N))++[.str x])) R=Xb (.lst (sS ((hs.take (i+1)).filterMap (Ł N)))):=λx e=>by
   rw[av,st,e];simp[sS]
  have no:Ł N t=Xc->Hc R=Xb (.lst (sS ((hs.take (i+1)).filterMap (Ł N)))):=λe=>by
   rw[st,e];simpa using Ú
  rfl'
  have s2:=s0.trans sc;cases e:Ł N t with
  |none=>
   rw[e]at hi;have c2:t.ci≠2:=λz=>by rw[z]at hi;cases hi
   have c3:t.ci≠3:=λz=>by rw[z]at hi;cases hi
   have c4:t.ci≠4:=λz=>by rw[z]at hi;cases hi
   exact bN T s2 pa c2 (aT (bN T s2 pa c3 (aT (bN T s2 pa c4 (aT {_,rfl,sc,no e})))))
  |some x=>
   rw[e]at hi;have lz:(sS ((hs.take i).filterMap (Ł N))).length<sizeLine:=aH (by rw[N3];lia);by_cases c2:t.ci=2
   ·exact dA T s2 pa c2 (bp {N6 {rfl,_,À.of Ú},AQ T s2 pa e {_,_,_,rfl,rfl,Ú,lz,_,rfl,aq.out sc hR _,yes x e}})
   by_cases c3:t.ci=3
   ·exact bN T s2 pa c2 (aT (dA T s2 pa c3 (bp {N6 {rfl,_,À.of Ú},AQ T s2 pa e {_,_,_,rfl,rfl,Ú,lz,_,rfl,aq.out sc hR _,yes x e}})))
   by_cases c4:t.ci=4
   ·exact bN T s2 pa c2 (aT (bN T s2 pa c3 (aT (dA T s2 pa c4 (bp {N6 {rfl,_,À.of Ú},AQ T s2 pa e {_,_,_,rfl,rfl,Ú,lz,_,rfl,aq.out sc hR _,yes x e}})))))
   rw[decide_eq_false c2,decide_eq_false c3,decide_eq_false c4]at hi;cases hi
 rintro B Hc ⟨v2,rfl,sc,Ú⟩;rw[show hs.take xs.length=hs by rw[pt.len];exact Ov]at Ú;exact K1 _ _ (q R Hc sc hR Ú)
theorem qI{α β:Type}(f:α->List β){xs:List α}{i:Nat}{x:α}(h:xs[i]?=Xb x):(xs.take (i+1)).flatMap f=(xs.take i).flatMap f++f x:=by
 rw[OG,h];simp
theorem Gv{α β:Type}(f:α->List β){xs:List α}{i:Nat}{x:α}(h:xs[i]?=Xb x):((xs.take i).flatMap f).length+(f x).length<=(xs.flatMap f).length:=by
 have e:xs.flatMap f=(xs.take (i+1)).flatMap f++(xs.drop (i+1)).flatMap f:=by rw[<-PU,OZ]
 rw[e,qI f h];simp only[N7];lia
theorem A4{es:List Le}{i:Nat}{e:Le}(h:es[i]?=Xb e):fz (es.take (i+1))=fz (es.take i)++(if iw e.1=true then[a9 e.1.no]else[]):=by
 unfold fz;rw[OG,h,O0,OB];congr 1;show List.map _ (Wi _ [e])=_;rw[Qt,Pg];split<;>rfl
theorem DM(es:List Le):(fz es).length<=es.length:=by
 unfold fz;rw[N3];exact OM _ _
inductive v8(A:Ï)(d:Nat)(vs:List V)(H:Hp)(Q:VK)(Ã:XK):Prop
 |mk(N:Nat->Str)(X:Hp)(v:V)(hs ds ms:List Pt)(z0:vs=[v])(z1:aq X H)(z2:jx A N X v hs ds ms)(z3:Ok N d hs ds ms)
  (z7:∀(R:Q1)(H':Hp),aq H H'->H R=Xc->H' R=Xb (.lst (sS (aV N hs ds ms)))->Q (.ref R) H'):v8 A d vs H Q Ã
theorem yJ(T:Txt K mg A)(d:Nat):T.places.Hz P w base (2*d+5) (v8 A d):=by
 refine T.places.hs (k:=2*d+4) iA (λf Ä A' outer s H vs Q E' hr hu h=>?_);obtain⟨N,X,v,hs,ds,ms,rfl,s0,pg,ok,q⟩:=h;obtain⟨a,dx,n0,n1,n2,x0,x1,x2,rfl,ha,e0,e1,e2,p0,p1,p2⟩:=id pg;refine⟨_,(af (Æ 1 iA.nd (aj (hj:=by lia) (Gn T) hr (aw (fv 0) rfl^ae)))
  (af (b6 Rg rfl (br (aw (fv 0) rfl)) (Õ (i:=2) iA.nd rfl)
   (ai (aW (gO (fv 1) (ax aO (aU (aw (fv 2) rfl^ae)) (aw (fv 2) rfl)^ae)))))
  (af (b6 Rg rfl (br (aj (hj:=by lia) (xN T d) hr (fv 0^ae))) (kg rfl (bB (Õ (i:=3) iA.nd rfl) (bB (Õ (i:=4) iA.nd rfl) (bB (Õ (i:=5) iA.nd rfl) gC))))
   (ai (aN (aZ (aj (hj:=by lia) (Dg T) hr (fv 3^ae)) (λ_=>rfl))
    (ai (aW (bu (fv 1) ((aj (hj:=by lia) (oA T) hr (aw (fv 3) rfl^ae))^ae))))
    aG)))
  (ai (aA (ax aO (fv 1) (aU (yg T.sY^ae)))))))),?_⟩
 have pl:=ok.pl;unfold aV at pl q;simp only[N7,OC]at pl;have hl:=ok.hl;refine ao λM1 K1=>Å (s0 _ _ ha) T.bF.cl T.eI rfl {N,X,n0,x0,hs,rfl,s0,e0,p0,(),λR H1 s1 hR eR=>K1 _ _ ?_};clear K1 M1;rfl'
 generalize hs.filterMap (Ł N)=B0 at eR pl q;refine ao λM1 K1=>Å ((s0.trans s1) _ _ ha) T.bF.cl T.bw rfl (N6 {{_,À.of ((s0.trans s1) _ _ e1)},bP (K:=K) (xs:=x1) (λi B Hc=>∃(v2:Option V),B=[Xb (.ref a),Xb (.ref R),v2,Xc,Xc,Xc]/\aq H Hc/\Hc R=Xb (.lst (sS (B0++(ds.take i).flatMap λp=>ë N p::Ē N p)))) {Xc,rfl,s1,by rw[P5,List.flatMap_nil,OF];exact eR} (λi B Hc _ ⟨_,_,z,_⟩=>À.of ((s0.trans z) _ _ e1)) ?_ ?_})
 ·rintro i v B Hc hv ⟨v2,rfl,sc,Ú⟩;obtain⟨t,ht,pa⟩:=p1.get hv;have mt:t∈ds:=Oe ht;obtain⟨dt,dd⟩:=ok.aX t mt;have st:=qI (λp=>ë N p::Ē N p) ht;have sl:=Gv (λp=>ë N p::Ē N p) ht;cases t with
  |aX n i' ps b=>
   unfold aJ at pa;obtain⟨a',Ϟ,pp,pb,xb,rfl,h1,h2,h3,h4⟩:=pa;have sX:=s0.trans sc;have lp:B0.length+((ds.take i).flatMap λp=>ë N p::Ē N p).length+(1+ps.length)<=900:=by
    have z:(ë N (Pt.aX n i' ps b)::Ē N (Pt.aX n i' ps b)).length=ps.length+1:=by simp[Ē]
    rw[z]at sl;lia
   refine{N6 {rfl,_,À.of Ú},Å (sX _ _ h1) T.bh.cl T.bR rfl {by show 1<=sizeLine;decide,λq1 ϙ=>?_}};have n1:q1≠R:=Xd ϙ Ú;have sq:aq Hc (upd Hc q1 (.lst [.str (N i')])):=aq.upd ϙ _;refine Å ((sX.trans sq) _ _ h1) T.bh.cl T.eG rfl {q1,pp,_,_,rfl,rfl,av,(sX.trans sq) _ _ h2,sz (by rw[N3,OC];lia),λq2 ς=>?_};have sq2:=aq.upd ς (.lst ([V.str (N i')]++nV N ps));have n2:q2≠R:=Xd ς (sq _ _ Ú);refine{_,_,_,_,rfl,rfl,sq2 _ _ (sq _ _ Ú),av,sz (by simp only[N7,N3,OC];lia),{_,rfl,aq.out ((sc.trans sq).trans sq2) hR _,?_}};rw[av,st];simp[sS,ë,Ē,nV,VT]
  |_=>exact dt.elim
 rintro B Hc ⟨v2,rfl,sc,Ú⟩;rw[show ds.take x1.length=ds by rw[p1.len];exact Ov]at Ú;refine K1 _ _ ?_;clear K1 M1;rfl'
 rw[<-N7]at pl;generalize B0++(ds.flatMap λp=>ë N p::Ē N p)=B1 at Ú pl q;refine ao λM1 K1=>{N,X,.ref a,hs,ds,ms,rfl,s0.trans sc,pg,ok,λL ys H2 s2 hL eL ly=>?_};have nL:L≠R:=Xd hL Ú;have nb:=ok.nb;generalize bj N ds ms=es at ly nb pl q;have ů:=Q7 ly;refine N6 {{_,À.of eL},bP (K:=K) (xs:=ys) (λi B Hd=>∃(v3 v4 v5:Option V),B=[Xb (.ref a),Xb (.ref R),v2,v3,v4,v5]/\Sm [R] H2 Hd/\Hd R=Xb (.lst (sS (B1++fz (es.take i))))) {Xc,Xc,Xc,rfl,Sm.refl _ _,by rw[P5];show _=Xb (HO.lst (sS (B1++[])));rw[OF];exact s2 _ _ Ú} (λi B Hd _ ⟨_,_,_,_,z,_⟩=>À.of (z _ _ (λm=>nL (N4.mp m)) eL)) ?_ ?_}
 ·rintro i y B Hd hy ⟨v3,v4,v5,rfl,sd,Ģ⟩;obtain⟨e,he,tp,v,rfl,ł,pa⟩:=bW ly hy;have ŵ:=sd _ _ (λm=>by rw[N4.mp m,s2 _ _ Ú]at ł;cases ł) ł;have sX:aq X Hd:=sd.same ((s0.trans sc).trans s2) (λm hm=>by
   rw[N4.mp hm];exact aq.free s0 hR)
  have ne:=nb e (Oe he);have st:=A4 he;have rl:=DM (es.take i);have rl2:(fz (es.take i)).length<=(fz es).length:=by
   have:fz es=fz (es.take i)++fz (es.drop i):=by
    unfold fz;rw[<-OB,<-O0,OZ]
   rw[this];simp
  rfl'
  refine{tp,_,rfl,É.of ŵ,rfl,_,_,rfl,_,_,rfl,_,_,rfl,rfl,{N,X,v,e.1,rfl,sX,pa,_,rfl,?_}};cases c:iw e.1 with
  |true=>
   rw[c,if_pos rfl]at st;refine bp {N6 {rfl,_,À.of Ģ},dB T sX pa {_,rfl,ne.1,ne.2,{_,_,_,rfl,rfl,Ģ,aH (by simp only[sS,N3,N7];lia),{_,_,_,rfl,sd.trans (Sm.at (N4.mpr rfl) _),?_}}}};rw[av,st];simp[sS]
  |false=>
   rw[c,if_neg Of,OF]at st;exact aT {_,_,_,rfl,sd,by rw[st];exact Ģ}
 rintro B Hd ⟨v3,v4,v5,rfl,sd,Ģ⟩;rw[show es.take ys.length=es by rw[<-ů];exact Ov]at Ģ;refine K1 _ _ ?_;have s3:aq H Hd:=sd.same (sc.trans s2) (λm hm=>by rw[N4.mp hm];exact hR);refine{by show 1<=sizeLine;decide,λq1 ϙ=>?_};have sq:aq Hd (upd Hd q1 (.lst [.str "the clock"])):=aq.upd ϙ _;refine{R,q1,_,_,rfl,rfl,sq _ _ Ģ,av,sz (by simp only[sS,N3,N7,OC];lia),λq2 ς=>q q2 _ ((s3.trans sq).trans (aq.upd ς _)) (aq.free (s3.trans sq) ς) ?_};rw[av];simp[sS]
theorem Gu:Ti K (.type "str") (.type "str")=Xb true:=by kernel_rfl!
theorem Em:Ti K (.type "int") (.type "str")=Xb false:=by kernel_rfl!
def ĝ(N:Nat->Str)(acc:List Str):Th->List Str
 | .i _=>acc
 | .x a=>if N a∈acc then acc else acc++[N a]
def Þ(N:Nat->Str)(ts:List Th):List Str:=ts.foldl (ĝ N) []
theorem oe(N:Nat->Str):∀(ts:List Th)(acc:List Str),(ts.foldl (ĝ N) acc).length<=ts.length+acc.length
 | [],acc=>by simp
 |t::ts,acc=>by
  have h:=oe N ts (ĝ N acc t);have h2:(ĝ N acc t).length<=acc.length+1:=by
   cases t with
   |i n=>exact Pr _
   |x a=>unfold ĝ;dsimp only;split<;>simp
  rw[OX,OE];lia
theorem sZ(x:Str)(acc:List Str):Ť (.str x) (sS acc)=decide (x∈acc):=by
 unfold Ť sS;rw[List.any_map,OW,Pq,decide_eq_true_iff];constructor
 ·rintro⟨y,m,e⟩;have e:decide (y=x)=true:=e;exact of_decide_eq_true e▸m
 intro m;exact⟨x,m,decide_eq_true rfl⟩
theorem vR(acc:List Str):(sS acc).all lY=true:=by
 unfold sS;rw[List.all_map,Pp];exact λ_ _=>rfl
def ö:Val->List Th
 | .one a=>[a]
 | .op a _ b=>[a,b]
theorem rN(N:Nat->Str)(v:Val):h9 (vV N v)=(ö v).map (Th.v N):=by
 cases v<;>kernel_rfl
inductive yr(K:Q6)(vs:List V)(H:Hp)(Q:VK)(Ã:XK):Prop
 |mk(N:Nat->Str)(t:Q1)(xs:List V)(ts:List Th)(z0:vs=[.ref t])(z1:É K H t xs)(z2:h9 xs=ts.map (Th.v N))(z3:ts.length<=100)
  (z4:∀(p:Q1)(H':Hp),H p=Xc->aq H H'->H' p=Xb (.lst (sS (Þ N ts)))->Q (.ref p) H'):yr K vs H Q Ã
theorem og(T:Txt K mg A):T.uq.Hz P w base 1 (yr K):=by
 refine T.uq.hs nq (λf Ä A' outer s H vs Q E' hr hu h=>?_);obtain⟨N,t,xs,ts,rfl,hT,ev,hl,q⟩:=h;refine⟨_,(af (Æ 1 nq.nd (aU ae))
  (af (b6 Rg rfl (br (D9 (fv 0))) (Õ (i:=2) nq.nd rfl)
   (ai (aN (PW.pt (pw_and (aZ (Ó aK T.az (fv 2^(xk (v:=.ty "str") rfl T.yy (by boot_by_name) rfl)^ae)) (λ_=>rfl)) (pw_and1 (Ð (u4 hu) (fv 2) (fv 1) ((by with_unfolding_all rfl))))))
    (ai (aW (bu (fv 1) (fv 2^ae))))
    aG)))
  (ai (aA (fv 1))))),?_⟩
 refine{(by decide:0<=sizeLine),λp hp=>{t,xs,rfl,(aq.upd hp _).tup hT,λe he=>Oo {{_,É.of av},?_}}};have hpe:p≠e:=λz=>by
  rw[<-z,av]at he;cases he
 rw[ev];refine Ip (K:=K) (xs:=ts.map (Th.v N)) (λi B H3=>aq H H3/\H3 e=Xb (.tup (ts.map (Th.v N)))/\H3 p=Xb (.lst (sS (Þ N (ts.take i))))/\∃v,B=[Xb (.ref t),Xb (.ref p),v]) {(aq.upd hp _).trans (aq.upd he _),av,?_,Xc,rfl} (λi B H3 _ h=>É.of h.2.1) ?_ ?_
 ·rw[aM hpe,av];rfl
 ·rintro i x B H3 hi ⟨s3,h3e,Ĺ,v,rfl⟩;rw[Oi]at hi;cases ht:ts[i]? with
  |none=>rw[ht]at hi;cases hi
  |some th=>
  rw[ht]at hi;cases hi;have nx:Þ N (ts.take (i+1))=ĝ N (Þ N (ts.take i)) th:=dH (ĝ N) [] ht;have ll:=oe N (ts.take i) [];rw[OH,Pf]at ll;cases th with
  |i n=>
   exact{_,_,_,false,rfl,(λz=>by cases z),.int n,Em,false,rfl,aT (aT {s3,h3e,by rw[Ĺ,nx];rfl,_,rfl})}
  |x a=>
   refine{_,_,_,true,rfl,(λz=>by cases z),.str _,Gu,true,rfl,bp (N6 {_,N6 (À.of Ĺ),rfl,vR _,_,rfl,?_})};have nx:Þ N (ts.take (i+1))=if N a∈Þ N (ts.take i)then Þ N (ts.take i)else Þ N (ts.take i)++[N a]:=nx
   by_cases m:N a∈Þ N (ts.take i)
   ·rw[if_pos m]at nx;exact a8 (λc=>absurd c (by show ¬ (!Ť (V.str (N a)) (sS (Þ N (ts.take i))))=true;rw[sZ,decide_eq_true m];decide)) (λ_=>{s3,h3e,by rw[Ĺ,nx],_,rfl})
   rw[if_neg m]at nx;refine a8 (λ_=>?_) (λc=>absurd (by show(!Ť (V.str (N a)) (sS (Þ N (ts.take i))))=true;rw[sZ,decide_eq_false m];rfl) c);refine{N6 {rfl,_,À.of Ĺ},_,_,_,rfl,rfl,Ĺ,aH (by rw[N3];unfold Þ;lia),{aq.out s3 hp _,aF hpe.symm h3e,?_,_,rfl}};rw[av,nx];simp[sS,Th.v]
 rintro B H3 ⟨s3,h3e,Ĺ,v,rfl⟩;rw[show ts.take (ts.map (Th.v N)).length=ts by rw[N3];exact Ov]at Ĺ;exact q p H3 hp s3 Ĺ
def ġ:Pt->List Th
 | .leaf _ (.set _ v)=>ö v
 | .leaf _ (.snd _ v)=>ö v
 | .leaf _ (.put _ t v)=>t::ö v
 | .iff _ v _ _ _ _=>ö v
 | .loop _ t _ _ _ _=>[t]
 |_=>[]
theorem ib(v:Val):(ö v).length<=2:=by cases v<;>simp[ö]
theorem BB(t:Pt):(ġ t).length<=3:=by
 cases t with
 |leaf n r=>
  cases r with
  |set _ v=>exact Qs (ib v)
  |snd _ v=>exact Qs (ib v)
  |put _ _ v=>exact Qu (ib v)
  |_=>simp[ġ]
 |iff n v _ _ _ _=>exact Qs (ib v)
 |_=>simp[ġ]
def ju(acc:List Str)(x:Str):List Str:=if x∈acc then acc else acc++[x]
def eg(acc xs:List Str):List Str:=xs.foldl ju acc
theorem vK:∀(xs acc:List Str),(eg acc xs).length<=xs.length+acc.length
 | [],acc=>by simp[eg]
 |x::xs,acc=>by
  have h:=vK xs (ju acc x);have h2:(ju acc x).length<=acc.length+1:=by
   unfold ju;split<;>simp
  show(eg (ju acc x) xs).length<=_;rw[OE];lia
theorem Fz(N:Nat->Str)(t:Th)(v:Val):eg [] (Þ N [t]++Þ N (ö v))=Þ N (t::ö v):=by
 cases t with
 |i n=>
  show eg [] ([]++Þ N (ö v))=Þ N (ö v);rw[O6];cases v with
  |one b=>cases b<;>simp[ö,Þ,ĝ,eg,ju]
  |op b x c=>
   cases b with
   |i m=>cases c<;>simp[ö,Þ,ĝ,eg,ju]
   |x b=>
    cases c with
    |i m=>simp[ö,Þ,ĝ,eg,ju]
    |x c=>
     by_cases e:N c=N b
     ·simp[ö,Þ,ĝ,eg,ju,e]
     simp[ö,Þ,ĝ,eg,ju,e]
 |x a=>
  cases v with
  |one b=>
   cases b with
   |i m=>simp[ö,Þ,ĝ,eg,ju]
   |x b=>simp[ö,Þ,ĝ,eg,ju]
  |op b y c=>
   cases b with
   |i m=>cases c<;>simp[ö,Þ,ĝ,eg,ju]
   |x b=>
    cases c with
    |i m=>simp[ö,Þ,ĝ,eg,ju]
    |x c=>
     by_cases e:N c=N b
     ·by_cases e2:N b=N a
      ·simp[ö,Þ,ĝ,eg,ju,e,e2]
      simp[ö,Þ,ĝ,eg,ju,e,e2]
     by_cases e2:N b=N a
     ·have e3:¬ N c=N a:=λz=>e (z.trans e2.symm);simp[ö,Þ,ĝ,eg,ju,e2,e3]
     by_cases e3:N c=N a
     ·have e4:¬ N a=N b:=λz=>e2 z.symm;simp[ö,Þ,ĝ,eg,ju,e2,e3,e4]
     simp[ö,Þ,ĝ,eg,ju,e,e2,e3]
inductive eN(A:Ï)(i:Nat)(vs:List V)(H:Hp)(Q:VK)(Ã:XK):Prop
 |mk(N:Nat->Str)(X:Hp)(v:V)(t:Pt)(z0:vs=[v])(z1:aq X H)(z2:aJ A N X v t)(z3:t.ci=i)
  (z4:∀(p:Q1)(H':Hp),H p=Xc->aq H H'->H' p=Xb (.lst (sS (Þ N (ġ t))))->Q (.ref p) H'):eN A i vs H Q Ã
inductive Ce(K:Q6)(vs:List V)(H:Hp)(Q:VK)(Ã:XK):Prop
 |mk(t:Q1)(xs:List Str)(z0:vs=[.ref t])(z1:À K H t (sS xs))(z3:xs.length<=100)
  (z4:∀(p:Q1)(H':Hp),H p=Xc->aq H H'->H' p=Xb (.lst (sS (eg [] xs)))->Q (.ref p) H'):Ce K vs H Q Ã
theorem Ju(T:Txt K mg A):T.qL.Hz P w base 1 (Ce K):=by
 refine T.qL.hs lB (λf Ä A' outer s H vs Q E' hr hu h=>?_);obtain⟨t,xs,rfl,hT,hl,q⟩:=h;refine⟨_,(af (Æ 1 lB.nd (aU ae))
  (af (b6 Rg rfl (br (fv 0)) (Õ (i:=2) lB.nd rfl)
   (ai (aN (Ð (u4 hu) (fv 2) (fv 1) ((by with_unfolding_all rfl)))
    (ai (aW (bu (fv 1) (fv 2^ae))))
    aG)))
  (ai (aA (fv 1))))),?_⟩
 refine ao λM1 K1=>{Oj _,λp hp=>?_};obtain⟨s1,e1⟩:=Ò hp (HO.lst []);generalize upd H p _=H1 at s1 e1⊢;refine K1 _ _ ?_;clear K1 M1;rfl'
 refine ao λM1 K1=>N6 {{_,s1.seq hT},bP (K:=K) (xs:=sS xs) (λi B H3=>aq H H3/\H3 p=Xb (.lst (sS (eg [] (xs.take i))))/\∃v,B=[Xb (.ref t),Xb (.ref p),v]) ⟨s1,e1,Xc,rfl⟩ (λi B H3 _ h=>h.1.seq hT) ?_ ?_}
 ·rintro i x B H3 hi ⟨s3,Ĺ,v,rfl⟩;rw[Oi]at hi;cases ht:xs[i]? with
  |none=>rw[ht]at hi;cases hi
  |some y=>
  rw[ht]at hi;cases hi;have nx:eg [] (xs.take (i+1))=ju (eg [] (xs.take i)) y:=dH ju [] ht;have ll:=vK (xs.take i) [];rw[OH,Pf]at ll;rfl'
  refine N6 {_,N6 (À.of Ĺ),rfl,vR _,_,rfl,?_};unfold ju at nx;by_cases m:y∈eg [] (xs.take i)
  ·rw[if_pos m]at nx;exact a8 (λc=>absurd c (by show ¬ (!Ť (V.str y) (sS (eg [] (xs.take i))))=true;rw[sZ,decide_eq_true m];decide)) (λ_=>{s3,by rw[Ĺ,nx],_,rfl})
  rw[if_neg m]at nx;refine a8 (λ_=>?_) (λc=>absurd (by show(!Ť (V.str y) (sS (eg [] (xs.take i))))=true;rw[sZ,decide_eq_false m];rfl) c);refine{N6 {rfl,_,À.of Ĺ},_,_,_,rfl,rfl,Ĺ,aH (by rw[N3];lia),{aq.out s3 hp _,?_,_,rfl}};rw[av,nx];simp[sS]
 rintro B H3 ⟨s3,Ĺ,v,rfl⟩;rw[show xs.take (sS xs).length=xs by rw[N3];exact Ov]at Ĺ;exact K1 _ _ (q p H3 hp s3 Ĺ)
theorem ud(T:Txt K mg A):T.jt.Hz P w mg base 2 (eN A 5):=by
 refine T.jt.hs (k:=1) sI (λf Ä A' outer s H vs Q E' hr hu h=>?_);obtain⟨N,X,v,t,rfl,s0,pa,ec,q⟩:=h;refine{_,(ai (aA (aj (og T) hr (aw (fv 0) rfl^ae)))),?_};cases t with
 |leaf n r=>
  unfold aJ at pa;obtain⟨a,dx,p,rfl,h1,h2⟩:=pa;cases r with
  |set h val=>exact Å (s0 _ _ h1) T.du.cl T.fU rfl {N,p,_,ö val,rfl,É.of (s0 _ _ (h2 _ rfl)),rN N val,Ol (ib val) ∅,q}
  |_=>cases ec
 |_=>cases ec
theorem tW(T:Txt K mg A):T.ja.Hz P w mg base 2 (eN A 6):=by
 refine T.ja.hs (k:=1) sG (λf Ä A' outer s H vs Q E' hr hu h=>?_);obtain⟨N,X,v,t,rfl,s0,pa,ec,q⟩:=h;refine{_,(ai (aA (aj (Ju T) hr (ax aO (aj (og T) hr (bE (aw (fv 0) rfl^ae)^ae)) (aj (og T) hr (aw (fv 0) rfl^ae))^ae)))),?_};cases t with
 |leaf n r=>
  unfold aJ at pa;obtain⟨a,dx,p,rfl,h1,h2⟩:=pa;cases r with
  |put h pl val=>
   refine Å (s0 _ _ h1) T.cL.cl T.fW rfl {by show 1<=sizeLine;decide,λtp ü=>?_};obtain⟨s1,e1⟩:=Ò ü (HO.tup [pl.v N]);generalize upd H tp _=H1 at s1 e1⊢;refine{N,tp,_,[pl],rfl,É.of e1,rN N (.one pl),by simp,λL1 H2 f2 s2 e2=>?_};have ϭ:=s1.trans s2;refine Å ((s0.trans ϭ) _ _ h1) T.cL.cl T.fX rfl {N,p,_,ö val,rfl,É.of ((s0.trans ϭ) _ _ (h2 _ rfl)),rN N val,Ol (ib val) ∅,λL2 H3 f3 s3 e3=>?_};have l1:=oe N [pl] [];have l2:=oe N (ö val) [];have l3:=ib val;simp only[OC,Pf]at l1 l2;refine{L1,L2,_,_,rfl,rfl,s3 _ _ e2,e3,sz (by rw[N3,N3];unfold Þ;lia),λL3 hL3=>?_};obtain⟨s4,e4⟩:=Ò hL3 (HO.lst (sS (Þ N [pl])++sS (Þ N (ö val))));generalize upd H3 L3 _=H4 at s4 e4⊢;have t4:=ϭ.trans (s3.trans s4);refine{L3,Þ N [pl]++Þ N (ö val),rfl,À.of (by rw[e4];simp[sS]),by rw[N7];unfold Þ;lia,λR H5 f5 s5 e5=>q R H5 (aq.free t4 f5) (t4.trans s5) (by rw[e5,Fz];rfl)}
  |_=>cases ec
 |_=>cases ec
theorem sy(T:Txt K mg A):T.hJ.Hz P w mg base 2 (eN A 7):=by
 refine T.hJ.hs (k:=1) rM (λf Ä A' outer s H vs Q E' hr hu h=>?_);obtain⟨N,X,v,t,rfl,s0,pa,ec,q⟩:=h;refine{_,(ai (aA (aj (og T) hr (aw (fv 0) rfl^ae)))),?_};cases t with
 |leaf n r=>
  unfold aJ at pa;obtain⟨a,dx,p,rfl,h1,h2⟩:=pa;cases r with
  |snd h val=>exact Å (s0 _ _ h1) T.cy.cl T.fK rfl {N,p,_,ö val,rfl,É.of (s0 _ _ (h2 _ rfl)),rN N val,Ol (ib val) ∅,q}
  |_=>cases ec
 |_=>cases ec
theorem vm(T:Txt K mg A):T.jZ.Hz P w mg base 2 (eN A 11):=by
 refine T.jZ.hs (k:=1) uv (λf Ä A' outer s H vs Q E' hr hu h=>?_);obtain⟨N,X,v,t,rfl,s0,pa,ec,q⟩:=h;refine{_,(ai (aA (aj (og T) hr (aw (fv 0) rfl^ae)))),?_};cases t with
 |iff n val l r f o=>
  unfold aJ at pa;obtain⟨a,dx,p,pf,po,xf,xo,rfl,h1,h2,_⟩:=pa;exact Å (s0 _ _ h1) T.aQ.cl T.gz rfl {N,p,_,ö val,rfl,É.of (s0 _ _ h2),rN N val,Ol (ib val) ∅,q}
 |leaf n r=>cases r<;>cases ec
 |_=>cases ec
theorem sA(T:Txt K mg A):T.gZ.Hz P w mg base 2 (eN A 12):=by
 refine T.gZ.hs (k:=1) qN (λf Ä A' outer s H vs Q E' hr hu h=>?_);obtain⟨N,X,v,t,rfl,s0,pa,ec,q⟩:=h;refine{_,(ai (aA (aj (og T) hr (bE (aw (fv 0) rfl^ae)^ae)))),?_};cases t with
 |loop n t m l r b=>
  unfold aJ at pa;obtain⟨a,dx,pb,xb,rfl,h1,_⟩:=pa;exact Å (s0 _ _ h1) T.aI.cl T.fH rfl {by show 1<=sizeLine;decide,λtp ü=>{N,tp,_,[t],rfl,É.of av,rN N (.one t),by simp,λp H' hp s1 e1=>q p H' (aq.free (aq.upd ü _) hp) ((aq.upd ü _).trans s1) e1}}
 |leaf n r=>cases r<;>cases ec
 |_=>cases ec
def Ki(A:Ï)(C:Q1)(sp:Sp):Prop:=∃i,(i=5\/i=6\/i=7\/i=11\/i=12)/\C=ħ A i/\sp=eN A i
theorem Hl(T:Txt K mg A):∀C sp,Ki A C sp->ļ K C/\∃ps,zm P w K mg base 2 C "reads" ps sp:=by
 rintro C sp ⟨i,rfl|rfl|rfl|rfl|rfl,rfl,rfl⟩
 ·exact{T.du.cl,_,ud T}
 ·exact{T.cL.cl,_,tW T}
 ·exact{T.cy.cl,_,sy T}
 ·exact{T.aQ.cl,_,vm T}
 exact{T.aI.cl,_,sA T}
structure Lk where
 fr:Str
 to:Str
 kd:Str
 no:Int
def Lk.vs(l:Lk):List V:=[.str l.fr,.str l.to,.str l.kd,.int l.no]
def LkR(l:Lk)(y:V)(H:Hp):Prop:=∃t,y=V.ref t/\H t=Xb (.tup l.vs)
def Ę(H:Hp)(ls:List Lk)(ys:List V):Prop:=Paired (λl y=>LkR l y H) ls ys
theorem Ę.same{H H':Hp}(s:∀x w,H x=Xb (.tup w)->H' x=Xb (.tup w)){ls:List Lk}{ys:List V}(h:Ę H ls ys):Ę H' ls ys:=Paired.eX h λ_ _ ⟨t,e,h1⟩=>{t,e,s _ _ h1}
theorem eE{α β γ:Type}{F:α->β->Prop}(g:γ->α):∀{l:List γ}{m:List β},Paired (λx y=>F (g x) y) l m->Paired F (l.map g) m
 |_,_,.nil=>.nil
 |_,_,.cons h r=>.cons h (eE g r)
def drP(into:Str):Option Str->Bool
 |none=>false
 |some x=>!decide (x=into)
def ğ(fs:List (Option Str))(into kd:Str)(n:Int):List Lk:=(fs.filter (drP into)).map λf=>⟨f.getD RE,into,kd,n⟩
theorem gE(fs:List (Option Str))(into kd:Str)(n:Int):(ğ fs into kd n).length<=fs.length:=by
 unfold ğ;rw[N3];exact OM _ _
inductive kJ(K:Q6)(vs:List V)(H:Hp)(Q:VK)(Ã:XK):Prop
 |mk(L:Q1)(fs:List (Option Str))(into kd:Str)(n:Int)(z0:vs=[.ref L,.str into,.str kd,.int n])(z1:À K H L (fs.map oS))(z2:fs.length<=100)
  (z3:∀(R:Q1)(ys:List V)(H':Hp),aq H H'->H R=Xc->H' R=Xb (.lst ys)->Ę H' (ğ fs into kd n) ys->Q (.ref R) H'):kJ K vs H Q Ã
theorem sM(T:Txt K mg A):T.drawn.Hz P w base 1 (kJ K):=by
 refine T.drawn.hs F4 (λf Ä A' outer s H vs Q E' hr hu h=>?_);obtain⟨L,fs,into,kd,n,rfl,hL,hl,q⟩:=h;refine{_,(ai (aA (dF (N:=["one","into","kind","number"]) (own:=1) (fr:=[1,2,3]) (b4.of (by kernel_rfl!)) rfl (br (fv 0)) (λb=>Õ (i:=0) (show Rr (["one","into","kind","number"]:List RF) by decide+kernel) rfl) (λb=>wR (PW.pt (pw_and (Ð CL (fv 0) cU) (pw_and1 (Ð (xK hu) (fv 0) (fv 1)))))) (λb=>bE (fv 0^fv 1^fv 2^fv 3^ae))))),N6 {{_,hL},dO (K:=K) (own:=1) fs (drP into) (λf y H=>LkR ⟨f.getD RE,into,kd,n⟩ y H) hL (N3 _) (by rw[N3];exact aH ()) ?_ ?_ ?_ ?_}}
 ·intro b i x e v0 H1 Nn Y hx he hv s1 no yes;obtain⟨u0,rfl⟩:∃u0,v0=[u0]:=by
   match v0,hv with
   | [u],_=>exact⟨u,rfl⟩
  rw[Oi,he]at hx;cases hx;cases e with
  |none=>exact{rfl,_,rfl,aT (aT (no rfl [Xb .Ê] _ rfl (aq.refl _)))}
  |some x=>
   refine{rfl,_,rfl,bp {rfl,_,rfl,?_}};by_cases c:x=into
   ·subst c;exact a8 (λz=>absurd z (by show ¬ (!decide (V.str x=V.str x))=true;rw[decide_eq_true rfl];decide)) (λ_=>no (by show(!decide (x=x))=false;rw[decide_eq_true rfl];rfl) [Xb (.str x)] _ rfl (aq.refl _))
   refine a8 (λ_=>?_) (λz=>absurd (by show(!decide (V.str x=V.str into))=true;rw[NK,decide_eq_false c];rfl) z);exact{by show 4<=sizeLine;decide,λtp ü=>yes (by show(!decide (x=into))=true;rw[decide_eq_false c];rfl) [Xb (.str x)] _ _ rfl (aq.upd ü _) ⟨tp,rfl,av⟩}
 ·rintro e y H1 H2 s1 ⟨t,e1,h1⟩;exact{t,e1,s1 _ _ h1}
 ·rintro e y H1 D ys zs hD ⟨t,e1,h1⟩;exact{t,e1,aF (λz=>by rw[z,hD]at h1;cases h1) h1}
 intro D H1 ys hD s1 e1 pr;exact q D ys H1 s1 hD e1 (eE _ pr)
def xu(N:Nat->Str)(n:Int)(tp:Th×Str):List Lk:=match tp.1 with
 | .i _=>[]
 | .x a=>ğ [Xb (N a)] tp.2 "value" n
def Ϡ(N:Nat->Str)(n:Int)(l:List (Th×Str)):List Lk:=l.flatMap (xu N n)
def χ(pl:Option Str)(n:Int)(l:List Str):List Lk:=l.flatMap λinto=>ğ [pl] into "under" n
theorem wJ{α β:Type}(f:α->List β)(h:∀x,(f x).length<=1):∀l:List α,(l.flatMap f).length<=l.length
 | []=>Oc _
 |x::l=>by
  have h1:=wJ f h l;have h2:=h x;rw[Pw,N7,OE];lia
theorem CG(n:Int)(tp:Th×Str):(xu N n tp).length<=1:=by
 unfold xu;split
 ·simp
 exact gE _ _ _ _
theorem pY{H Hc He:Hp}{R R2:Q1}{ls ms:List Lk}{ys zs:List V}(s3:aq Hc He)(Ú:Hc R=Xb (.lst ys))(ly:Ę Hc ls ys)(l3:Ę He ms zs):Ę (upd He R (.lst (ys++zs))) (ls++ms) (ys++zs):=by
 have dR:∀x w,He x=Xb (.tup w)->upd He R (.lst (ys++zs)) x=Xb (.tup w):=λx w e=>aF (λy=>by rw[y,s3 _ _ Ú]at e;cases e) e;exact Paired.two (ly.same λx w e=>dR x w (s3 _ _ e)) (l3.same dR)
inductive vS(A:Ï)(vs:List V)(H:Hp)(Q:VK)(Ã:XK):Prop
 |mk(N:Nat->Str)(X:Hp)(v:V)(n:Int)(i:Nat)(ts:List Th)(pl:Option Str)(pp:Q1)(ps:List Str)(z0:vs=[v,oS pl,.ref pp])(z1:aq X H)(z2:aJ A N X v (.leaf n (.call i ts)))(z3:X pp=Xb (.lst (sS ps)))(z4:ts.length=ps.length)(z5:ps.length<=100)
  (z6:∀(R:Q1)(ys:List V)(H':Hp),aq H H'->H R=Xc->H' R=Xb (.lst ys)->Ę H' (Ϡ N n (ts.zip ps)++χ pl n (ps++[N i])) ys->Q (.ref R) H'):vS A vs H Q Ã
theorem Er(T:Txt K mg A):T.lR.Hz P w base 2 (vS A):=by
 refine T.lR.hs (k:=1) eM (λf Ä A' outer s H vs Q E' hr hu h=>?_);obtain⟨N,X,v,n,i,ts,pl,pp,ps,rfl,s0,pa,hpp,tl,pl1,q⟩:=h;unfold aJ at pa;obtain⟨a,dx,p,rfl,h1,h2⟩:=pa;have h2:=h2 _ rfl;refine⟨_,(af (Æ 3 eM.nd (aU ae))
  (af (b6 Rg rfl (FC rfl T.yq (aw (fv 0) rfl^fv 2^ae)) (kg rfl (bB (Õ (i:=4) eM.nd rfl) (bB (Õ (i:=5) eM.nd rfl) gC)))
   (ai (aN (aZ (Ó aK T.az (fv 4^(xk (v:=.ty "str") rfl T.yy (by boot_by_name) rfl)^ae)) (λ_=>rfl))
    (ai (aW (gO (fv 3) (aj (sM T) hr (aU (fv 4^ae)^fv 5^ay^aw (fv 0) rfl^ae)^ae))))
    aG)))
  (af (b6 Rg rfl (br (ax aO (fv 2) (aU (aw (fv 0) rfl^ae)))) (Õ (i:=6) eM.nd rfl)
   (ai (aW (gO (fv 3) (aj (sM T) hr (aU (fv 1^ae)^fv 6^ay^aw (fv 0) rfl^ae)^ae)))))
  (ai (aA (fv 3)))))),?_⟩
 refine ao λM1 K1=>{Oj _,λR hR=>?_};obtain⟨s1,e1⟩:=Ò hR (HO.lst []);generalize upd H R _=H1 at s1 e1⊢;refine K1 _ _ ?_;clear K1 M1;rfl'
 refine ao λM1 K1=>?_;have ζ:=s0.trans s1;refine Å (ζ _ _ h1) T.bD.cl T.fk rfl {_,_,rfl,{_,À.of (ζ _ _ h2)},{_,À.of (ζ _ _ hpp)},BG (K:=K) (xs:=ts.map (Th.v N)) (ys:=sS ps) (λj B Hc=>∃(ys:List V)(v4 v5:Option V),B=[Xb (.ref a),Xb (oS pl),Xb (.ref pp),Xb (.ref R),v4,v5,Xc]/\aq H Hc/\Hc R=Xb (.lst ys)/\Ę Hc (Ϡ N n ((ts.zip ps).take j)) ys) {[],Xc,Xc,rfl,s1,e1,.nil} (λj B Hc _ ⟨_,_,_,_,z,_⟩=>{À.of ((s0.trans z) _ _ h2),À.of ((s0.trans z) _ _ hpp)}) (by rw[N3,N3];exact tl) ?_ ?_}
 ·rintro j x y B Hc tp hx hy ⟨ys,v4,v5,rfl,sc,Ú,ly⟩ ü;rw[Oi]at hx hy;cases ht:ts[j]? with
  |none=>rw[ht]at hx;cases hx
  |some th=>
  cases hp:ps[j]? with
  |none=>rw[hp]at hy;cases hy
  |some pn=>
  rw[ht]at hx;rw[hp]at hy;cases hx;cases hy;have hz:(ts.zip ps)[j]?=Xb (th,pn):=List.getElem?_zip_eq_some.mpr ⟨ht,hp⟩;have st:Ϡ N n ((ts.zip ps).take (j+1))=Ϡ N n ((ts.zip ps).take j)++xu N n (th,pn):=qI (xu N n) hz;have sl:=wJ (xu N n) (CG n) ((ts.zip ps).take j);rw[OH,PD]at sl;have ů:=Q7 ly;unfold Ϡ at ů;have sp:=aq.upd ü (.tup [th.v N,.str pn]);have tR:tp≠R:=Xd ü Ú;rfl'
  refine{tp,_,rfl,É.of av,rfl,_,_,rfl,_,_,rfl,rfl,?_};cases th with
  |i m=>
   refine{_,_,_,false,rfl,(λz=>by cases z),.int m,Em,false,rfl,aT {ys,_,_,rfl,sc.trans sp,sp _ _ Ú,?_}};rw[st];show Ę _ (_++[]) ys;rw[OF];exact ly.same λx w e=>sp _ _ e
  |x b=>
   refine{_,_,_,true,rfl,(λz=>by cases z),.str _,Gu,true,rfl,bp {N6 {rfl,_,À.of (sp _ _ Ú)},by show 1<=sizeLine;decide,λq1 ϙ=>?_}};have sq:=aq.upd ϙ (.lst [Th.v N (.x b)]);refine Å ((((s0.trans sc).trans sp).trans sq) _ _ h1) T.bD.cl T.cR rfl {q1,[Xb (N b)],pn,"value",n,rfl,À.of av,by simp,λR2 zs He s3 υ Ļ l3=>?_};have lz:=Q7 l3;have dl:=gE [Xb (N b)] pn "value" n;have s4:=(sp.trans sq).trans s3;refine{_,_,_,_,rfl,rfl,s4 _ _ Ú,Ļ,sz (by simp only[OC]at dl;lia),{_,_,_,rfl,aq.out (sc.trans s4) hR _,av,?_}};rw[st];exact pY (H:=H) (R2:=R2) s4 Ú ly l3
 rintro B Hc ⟨ys,v4,v5,rfl,sc,Ú,ly⟩;rw[show(ts.zip ps).take (ts.map (Th.v N)).length=ts.zip ps by rw[N3];exact Pa (by rw[PD];lia)]at ly;have l1:(Ϡ N n (ts.zip ps)).length<=100:=Ol (wJ (xu N n) (CG n) _) (by rw[PD];lia);refine K1 _ _ ?_;clear K1 M1;generalize Ϡ N n (ts.zip ps)=LA at ly l1 q;rfl'
 refine ao λM1 K1=>?_;have sX:=s0.trans sc;refine Å (sX _ _ h1) T.bD.cl T.cE rfl {by show 1<=sizeLine;decide,λq1 ϙ=>?_};have sq:=aq.upd ϙ (.lst [.str (N i)]);refine{pp,q1,_,_,rfl,rfl,(sX.trans sq) _ _ hpp,av,sz (by rw[N3,OC];lia),λq2 ς=>?_};have sq2:=aq.upd ς (.lst (sS ps++[.str (N i)]));have es:sS ps++[V.str (N i)]=sS (ps++[N i]):=by simp[sS]
 rw[es]at sq2⊢;have eq2:upd (upd Hc q1 (.lst [.str (N i)])) q2 (.lst (sS (ps++[N i]))) q2=Xb (.lst (sS (ps++[N i]))):=av;have sc2:=sq.trans sq2;have q2R:q2≠R:=Xd ς (sq _ _ Ú);generalize upd (upd Hc q1 (.lst [.str (N i)])) q2 (.lst (sS (ps++[N i])))=H2 at sc2 eq2⊢;have is1:(ps++[N i]).length<=101:=by simp;lia
 generalize ps++[N i]=is at eq2 is1 q;refine N6 {{_,À.of eq2},bP (K:=K) (xs:=sS is) (λj B Hd=>∃(zs:List V)(v6:Option V),B=[Xb (.ref a),Xb (oS pl),Xb (.ref pp),Xb (.ref R),v4,v5,v6]/\Sm [R] H2 Hd/\Hd R=Xb (.lst zs)/\Ę Hd (LA++χ pl n (is.take j)) zs) {ys,Xc,rfl,Sm.refl _ _,sc2 _ _ Ú,by show Ę _ (_++[]) _;rw[OF];exact ly.same λx w e=>sc2 _ _ e} (λj B Hd _ ⟨_,_,_,z,_⟩=>À.of (z _ _ (λm=>q2R (N4.mp m)) eq2)) ?_ ?_}
 ·rintro j x B Hd hx ⟨zs,v6,rfl,sd,Ģ,lz⟩;rw[Oi]at hx;cases hi:is[j]? with
  |none=>rw[hi]at hx;cases hx
  |some into=>
  rw[hi]at hx;cases hx;have st:χ pl n (is.take (j+1))=χ pl n (is.take j)++ğ [pl] into "under" n:=qI _ hi;have sl:=wJ (λinto=>ğ [pl] into "under" n) (λx=>gE _ _ _ _) (is.take j);rw[OH]at sl;have llz:=Q7 lz;unfold χ at llz;rw[N7]at llz;have Ϩ:aq H Hd:=sd.same (sc.trans sc2) (λm hm=>by rw[N4.mp hm];exact hR);rfl'
  refine{N6 {rfl,_,À.of Ģ},by show 1<=sizeLine;decide,λq3 ϳ=>?_};have ŝ:=aq.upd ϳ (.lst [oS pl]);refine Å (((s0.trans Ϩ).trans ŝ) _ _ h1) T.bD.cl T.cR rfl {q3,[pl],into,"under",n,rfl,À.of av,by simp,λR2 ws He s3 υ Ļ l3=>?_};have lw:=Q7 l3;have dl:=gE [pl] into "under" n;have s4:=ŝ.trans s3;refine{_,_,_,_,rfl,rfl,s4 _ _ Ģ,Ļ,sz (by simp only[OC]at dl;lia),{_,_,rfl,(sd.trans (Sm.new s4)).trans (Sm.at (N4.mpr rfl) _),av,?_}};rw[st,<-OV];exact pY (H:=H) (R2:=R2) s4 Ģ lz l3
 rintro B Hd ⟨zs,v6,rfl,sd,Ģ,lz⟩;rw[show is.take (sS is).length=is by rw[N3];exact Ov]at lz;exact K1 _ _ (q R zs Hd (sd.same (sc.trans sc2) (λm hm=>by rw[N4.mp hm];exact hR)) hR Ģ lz)
def k5:Pt->Bool
 | .leaf _ (.set _ _)=>true
 | .leaf _ (.put _ _ _)=>true
 | .leaf _ (.snd _ _)=>true
 | .leaf _ (.say _ _ _)=>true
 | .leaf _ (.call _ _)=>true
 | .leaf _ .last=>true
 | .iff _ _ _ _ _ _=>true
 | .loop _ _ _ _ _ _=>true
 |_=>false
def œ(N:Nat->Str)(t:Pt)(into kd:Str)(pl:Option Str):List Lk:=ğ ((Þ N (ġ t)).map Xb) into kd t.no++ğ [pl] into "under" t.no
def saL(pl:Option Str)(x m:Str)(n:Int):List Lk:=ğ [Xb m] x "value" n++ğ [pl] x "under" n++ğ [pl] (a9 n) "under" n
def oF(N:Nat->Str)(po:Str->List Str)(t:Pt)(pl lp:Option Str):List Lk:=match t with
 | .leaf n (.set x v)=>œ N (.leaf n (.set x v)) (N x) "value" pl
 | .leaf n (.put x p v)=>œ N (.leaf n (.put x p v)) (N x) "value" pl
 | .leaf n (.call i ts)=>Ϡ N n (ts.zip (po (N i)))++χ pl n (po (N i)++[N i])
 | .leaf n (.snd h v)=>œ N (.leaf n (.snd h v)) (a9 n) "value" pl
 | .leaf n (.say x _ m)=>saL pl (N x) (N m) n
 | .leaf n .last=>ğ [pl] (lp.getD RE) "under" n
 | .iff n v l r f o=>œ N (.iff n v l r f o) (a9 n) "test" pl
 | .loop n t m l r b=>œ N (.loop n t m l r b) (a9 n) "test" pl
 |_=>[]
theorem By(t:Pt)(into kd:Str)(pl:Option Str):(œ N t into kd pl).length<=4:=by
 unfold œ;have h1:=gE ((Þ N (ġ t)).map Xb) into kd t.no;have h2:=gE [pl] into "under" t.no;have h3:=oe N (ġ t) [];have h4:=BB t;rw[N3]at h1;rw[N7];simp only[OC,Pf]at h2 h3;unfold Þ at h1⊢;lia
def ϱ(t:Pt)(lp:Option Str):Prop:=t.ci=10->lp.isSome=true
def EA(X H:Hp)(D:Q1)(po:Str->List Str)(nm:List Str):Prop:=∃kvs,H D=Xb (.dK kvs)/\∀x∈nm,(po x).length<=100/\∃pp,L2.cK kvs (.inr x)=Xb (.ref pp)/\X pp=Xb (.lst (sS (po x)))
theorem EA.same{X H H':Hp}{D:Q1}{po:Str->List Str}{nm:List Str}(h:EA X H D po nm)(e:∀kvs,H D=Xb (.dK kvs)->H' D=Xb (.dK kvs)):EA X H' D po nm:=by
 obtain⟨kvs,h1,h2⟩:=h;exact{kvs,e _ h1,h2}
def rV(N:Nat->Str)(po:Str->List Str)(nm:List Str):Pt->Prop
 | .leaf _ (.call i ts)=>N i∈nm/\ts.length=(po (N i)).length
 |_=>True
inductive Ct(A:Ï)(vs:List V)(H:Hp)(Q:VK)(Ã:XK):Prop
 |mk(N:Nat->Str)(X:Hp)(v:V)(t:Pt)(pl lp:Option Str)(D:Q1)(po:Str->List Str)(nm:List Str)(z0:vs=[v,oS pl,oS lp,.ref D])(z1:aq X H)(z2:aJ A N X v t)(z3:k5 t=true)(z4:0<=t.no/\t.no<=1000)(z8:ϱ t lp)(z5:EA X H D po nm)(z6:rV N po nm t)
  (z7:∀(R:Q1)(ys:List V)(H':Hp),aq H H'->H R=Xc->H' R=Xb (.lst ys)->Ę H' (oF N po t pl lp) ys->Q (.ref R) H'):Ct A vs H Q Ã
inductive BY(A:Ï)(vs:List V)(H:Hp)(Q:VK)(Ã:XK):Prop
 |mk(N:Nat->Str)(X:Hp)(v:V)(n:Int)(x m:Nat)(val:Val)(pl:Option Str)(z0:vs=[v,oS pl])(z1:aq X H)(z2:aJ A N X v (.leaf n (.say x val m)))(z4:0<=n/\n<=1000)
  (z7:∀(R:Q1)(ys:List V)(H':Hp),aq H H'->H R=Xc->H' R=Xb (.lst ys)->Ę H' (saL pl (N x) (N m) n) ys->Q (.ref R) H'):BY A vs H Q Ã
theorem JB(T:Txt K mg A):T.pV.Hz P w base 2 (BY A):=by
 have M7:=@sM P w _ _ base _ T;refine T.pV.hs (k:=1) oN (λf Ä A' outer s H vs Q E' hr hu h=>?_);obtain⟨N,X,v,n,x,m,val,pl,rfl,s0,pa,nt,q⟩:=h;unfold aJ at pa;obtain⟨a,dx,p,rfl,h1,_⟩:=pa;refine⟨_,(af (Æ 2 oN.nd (aj M7 hr (aU (aw (fv 0) rfl^ae)^aw (fv 0) rfl^ay^aw (fv 0) rfl^ae)))
  (af (aW (gO (fv 2) (aj M7 hr (aU (fv 1^ae)^aw (fv 0) rfl^ay^aw (fv 0) rfl^ae)^ae)))
  (ai (aA (ax aO (fv 2) (aj M7 hr (aU (fv 1^ae)^aj (oA T) hr (aw (fv 0) rfl^ae)^ay^aw (fv 0) rfl^ae))))))),?_⟩
 refine ao λM1 K1=>Å (s0 _ _ h1) T.bQ.cl T.gD rfl {by show 1<=sizeLine;decide,λq1 ϙ=>?_};have s1:=aq.upd ϙ (.lst [V.str (N m)]);have ζ:=s0.trans s1;refine Å (ζ _ _ h1) T.bQ.cl T.fw rfl (Å (ζ _ _ h1) T.bQ.cl T.cb rfl {q1,[Xb (N m)],N x,"value",n,rfl,À.of av,by simp,λR y1 H2 s2 n2 e2 l2=>K1 _ _ ?_});clear K1 M1;have t2:=s1.trans s2;have hR:H R=Xc:=aq.free s1 n2;have a1:=Q7 l2;have b1:=gE [Xb (N m)] (N x) "value" n;rfl'
 refine ao λM1 K1=>{N6 {rfl,_,À.of e2},by show 1<=sizeLine;decide,λq3 ϳ=>?_};have s3:=aq.upd ϳ (.lst [oS pl]);have sX3:=s0.trans (t2.trans s3);refine Å (sX3 _ _ h1) T.bQ.cl T.fw rfl (Å (sX3 _ _ h1) T.bQ.cl T.cb rfl {q3,[pl],N x,"under",n,rfl,À.of av,by simp,λR2 y2 H4 s4 n4 e4 l4=>?_});have ϫ:=s3.trans s4;have a2:=Q7 l4;have b2:=gE [pl] (N x) "under" n;simp only[OC]at b1 b2;refine{_,_,_,_,rfl,rfl,ϫ _ _ e2,e4,sz (),?_};have l5:=pY (H:=H) (R2:=R2) ϫ e2 l2 l4;have s5:aq H (upd H4 R (.lst (y1++y2))):=aq.out (t2.trans ϫ) hR _;have e5:upd H4 R (.lst (y1++y2)) R=Xb (.lst (y1++y2)):=av;generalize upd H4 R (.lst (y1++y2))=H5 at l5 s5 e5⊢;refine K1 _ _ ?_;clear K1 M1;rfl'
 refine{by show 1<=sizeLine;decide,λq6 hq6=>?_};have s6:=aq.upd hq6 (.lst [oS pl]);have sX6:=s0.trans (s5.trans s6);refine Å (sX6 _ _ h1) T.bQ.cl T.cb rfl {_,rfl,nt.1,nt.2,Å (sX6 _ _ h1) T.bQ.cl T.cb rfl {q6,[pl],a9 n,"under",n,rfl,À.of av,by simp,λR3 y3 H7 s7 n7 e7 l7=>?_}};have s57:=s6.trans s7;have a3:=Q7 l7;have b3:=gE [pl] (a9 n) "under" n;simp only[OC]at b3;refine{R,R3,_,_,rfl,rfl,s57 _ _ e5,e7,sz (by rw[N7];lia),λR4 hR4=>?_};have s8:=aq.upd hR4 (.lst (y1++y2++y3));exact q R4 _ _ (s5.trans (s57.trans s8)) (aq.free (s5.trans s57) hR4) av (Paired.two (l5.same λz w e=>(s57.trans s8) _ _ e) (l7.same λz w e=>s8 _ _ e))
theorem MC{X:Hp}{v:V}{p:Pt}(h:aJ A N X v p):∃a dx fs,v=.ref a/\X a=Xb (.ins (ħ A p.ci) dx fs)/\fs.lookup ("reads":Str)=Xc:=by
 cases p with
 |leaf n r=>
  unfold aJ at h;obtain⟨a,dx,p,e,h1,h2⟩:=h;exact{a,dx,_,e,h1,by cases r<;>rfl}
 |iff n val l r f o=>
  unfold aJ at h;obtain⟨a,dx,p,pf,po,xf,xo,e,h1,_⟩:=h;exact{a,dx,_,e,h1,rfl}
 |loop n t m l r b=>
  unfold aJ at h;obtain⟨a,dx,pb,xb,e,h1,_⟩:=h;exact{a,dx,_,e,h1,rfl}
 |aX n i ps b=>
  unfold aJ at h;obtain⟨a,dx,pp,pb,xb,e,h1,_⟩:=h;exact{a,dx,_,e,h1,rfl}
theorem Lo(T:Txt K mg A):T.rh.Hz P w base 3 (Ct A):=by
 have M7:=@sM P w _ _ base _ T;have M_reads:=Hl (P:=P) (w:=w) (mg:=mg) (base:=base) T;refine T.rh.hs (k:=2) qC (λf Ä A' outer s H vs Q E' hr hu h=>?_);obtain⟨N,X,v,t,pl,lp,D,po,nm,rfl,s0,pa,hk,nt,hlp,hD,hc,q⟩:=h;refine⟨_,(af (Æ 4 qC.nd (aj (oA T) hr (aw (fv 0) rfl^ae)))
  (af (aN (PW.pt (pw_or (aZ (Ó aK T.az (fv 0^aS T.du.mg^ae)) (λ_=>rfl)) (pw_or1 (aZ (Ó aK T.az (fv 0^aS T.cL.mg^ae)) (λ_=>rfl)))))
   (ai (aA (ax aO (aj M7 hr (rC (fv 0) M_reads hr^aw (fv 0) rfl^ay^aw (fv 0) rfl^ae)) (aj M7 hr (aU (fv 1^ae)^aw (fv 0) rfl^ay^aw (fv 0) rfl^ae)))))
   aG)
  (af (aN (aZ (Ó aK T.az (fv 0^aS T.cy.mg^ae)) (λ_=>rfl))
   (ai (aA (ax aO (aj M7 hr (rC (fv 0) M_reads hr^fv 4^ay^aw (fv 0) rfl^ae)) (aj M7 hr (aU (fv 1^ae)^fv 4^ay^aw (fv 0) rfl^ae)))))
   aG)
  (af (aN (aZ (Ó aK T.az (fv 0^aS T.bQ.mg^ae)) (λ_=>rfl))
   (ai (aA (aj (JB T) hr (fv 0^fv 1^ae))))
   aG)
  (af (aN (PW.pt (pw_or (aZ (Ó aK T.az (fv 0^aS T.aQ.mg^ae)) (λ_=>rfl)) (pw_or1 (aZ (Ó aK T.az (fv 0^aS T.aI.mg^ae)) (λ_=>rfl)))))
   (ai (aA (ax aO (aj M7 hr (rC (fv 0) M_reads hr^fv 4^ay^aw (fv 0) rfl^ae)) (aj M7 hr (aU (fv 1^ae)^fv 4^ay^aw (fv 0) rfl^ae)))))
   aG)
  (af (aN (aZ (Ó aK T.az (fv 0^aS T.fo.mg^ae)) (λ_=>rfl))
   (ai (aA (aj M7 hr (aU (fv 1^ae)^fv 2^ay^aw (fv 0) rfl^ae))))
   aG)
  (ai (aA (aj (Er T) hr (fv 0^fv 1^px hu (fv 3) (aw (fv 0) rfl)^ae)))))))))),?_⟩
 refine ao λM1 K1=>dB T s0 pa {_,rfl,nt.1,nt.2,K1 _ _ ?_};clear K1 M1;rfl'
 have ob:=MC pa;have jn:∀(kd into:Str)(R:VK),(∀(R':Q1)(ys:List V)(H':Hp),aq H H'->H R'=Xc->H' R'=Xb (.lst ys)->Ę H' (œ N t into kd pl) ys->R (.ref R') H')->
   ∀(R1 R2:Q1)(y1 y2:List V)(H2 H3:Hp),aq H H2->H2 R1=Xb (.lst y1)->Ę H2 (ğ ((Þ N (ġ t)).map Xb) into kd t.no) y1->aq H2 H3->H3 R2=Xb (.lst y2)->Ę H3 (ğ [pl] into "under" t.no) y2->EV (.ref R1) (.ref R2) H3 R:=by
  intro kd into R qq R1 R2 y1 y2 H2 H3 s2 e2 l2 s3 e3 l3
  have d:=By (N:=N) t into kd pl
  have a1:=Q7 l2
  have a2:=Q7 l3
  unfold œ at d
  rw[N7]at d
  refine{R1,R2,_,_,rfl,rfl,s3 _ _ e2,e3,sz (),λR hR=>?_}
  have s5:=aq.upd hR (.lst (y1++y2))
  exact qq R _ _ ((s2.trans s3).trans s5) (aq.free (s2.trans s3) hR) av (Paired.two (l2.same λx w e=>s5 _ _ (s3 _ _ e)) (l3.same λx w e=>s5 _ _ e))
 have rl:∀{p:Q1}{H1:Hp},H1 p=Xb (.lst (sS (Þ N (ġ t))))->À K H1 p (((Þ N (ġ t)).map Xb).map oS)/\((Þ N (ġ t)).map Xb).length<=100:=λe1=>by
  have h3:=oe N (ġ t) [];have h4:=BB t;simp only[Pf]at h3;exact{À.of (by rw[e1,OQ];rfl),by rw[N3];unfold Þ;lia}
 have two:∀(kd:Str)(R:VK),(∀(R':Q1)(ys:List V)(H':Hp),aq H H'->H R'=Xc->H' R'=Xb (.lst ys)->Ę H' (œ N t (a9 t.no) kd pl) ys->R (.ref R') H')->∀(p:Q1)(H1:Hp),H p=Xc->aq H H1->H1 p=Xb (.lst (sS (Þ N (ġ t))))->
   kJ K [.ref p,.str (a9 t.no),.str kd,.int t.no] H1 (λx H2=>1<=sizeLine/\∀q3,H2 q3=Xc->pO K "number" v (upd H2 q3 (.lst [oS pl])) λu H3=>kJ K [.ref q3,.str (a9 t.no),.str "under",u] H3 (λy H4=>EV x y H4 R) E0) E0:=by
  intro kd R qq p H1 hp s1 e1
  refine{p,(Þ N (ġ t)).map Xb,a9 t.no,kd,t.no,rfl,(rl e1).1,(rl e1).2,λR1 y1 H2 s2 n2 e2 l2=>{∅,λq3 ϳ=>?_}}
  have ŝ:=aq.upd ϳ (.lst [oS pl])
  exact dB T (((s0.trans s1).trans s2).trans ŝ) pa {q3,[pl],a9 t.no,"under",t.no,rfl,À.of av,by simp,λR2 y2 H3 s3 n3 e3 l3=>jn kd _ R qq R1 R2 y1 y2 H2 H3 (s1.trans s2) e2 l2 (ŝ.trans s3) e3 l3}
 have twoN:∀(into:Str)(R:VK),(∀(H':Hp){Q:VK},aq X H'->Q (.str into) H'->pO K "name" v H' Q)->(∀(R':Q1)(ys:List V)(H':Hp),aq H H'->H R'=Xc->H' R'=Xb (.lst ys)->Ę H' (œ N t into "value" pl) ys->R (.ref R') H')->∀(p:Q1)(H1:Hp),H p=Xc->aq H H1->H1 p=Xb (.lst (sS (Þ N (ġ t))))->
   pO K "name" v H1 λi1 H1'=>pO K "number" v H1' λm1 H1''=>kJ K [.ref p,i1,.str "value",m1] H1'' (λx H2=>1<=sizeLine/\∀q3,H2 q3=Xc->pO K "name" v (upd H2 q3 (.lst [oS pl])) λi2 H3'=>pO K "number" v H3' λu H3=>kJ K [.ref q3,i2,.str "under",u] H3 (λy H4=>EV x y H4 R) E0) E0:=by
  intro into R nf qq p H1 hp s1 e1
  refine nf H1 (s0.trans s1) (dB T (s0.trans s1) pa {p,(Þ N (ġ t)).map Xb,into,"value",t.no,rfl,(rl e1).1,(rl e1).2,λR1 y1 H2 s2 n2 e2 l2=>{∅,λq3 ϳ=>?_}})
  have ŝ:=aq.upd ϳ (.lst [oS pl])
  have sX3:=((s0.trans s1).trans s2).trans ŝ
  exact nf _ sX3 (dB T sX3 pa {q3,[pl],into,"under",t.no,rfl,À.of av,by simp,λR2 y2 H3 s3 n3 e3 l3=>jn "value" _ R qq R1 R2 y1 y2 H2 H3 (s1.trans s2) e2 l2 (ŝ.trans s3) e3 l3})
 obtain⟨a,dx,fs,rfl,h1,hno⟩:=ob;refine ao λM1 K1=>?_;by_cases c5:t.ci=5
 ·refine dA T s0 pa c5 (bp ?_);have rr:∀{Q:VK},(∀(p:Q1)(H':Hp),H p=Xc->aq H H'->H' p=Xb (.lst (sS (Þ N (ġ t))))->Q (.ref p) H')->eN A 5 [.ref a] H Q E0:=λk=>{N,X,_,_,rfl,s0,pa,c5,k};refine{a,_,dx,_,_,rfl,s0 _ _ h1,hno,{5,∅,by rw[c5],rfl},rr ?_};clear two jn rl rr;cases t with
  |leaf n r=>
   cases r with
   |set x val=>
    have ā:=pa;unfold aJ at ā;obtain⟨a',Ϟ,p',e',ň,_⟩:=ā;cases e';exact twoN (N x) _ (λH' Q sx k=>Å (sx _ _ ň) T.du.cl T.gF rfl k) q
   |_=>cases c5
  |_=>cases c5
 refine bN T s0 pa c5 (aT ?_);by_cases c6:t.ci=6
 ·refine dA T s0 pa c6 (bp ?_);have rr:∀{Q:VK},(∀(p:Q1)(H':Hp),H p=Xc->aq H H'->H' p=Xb (.lst (sS (Þ N (ġ t))))->Q (.ref p) H')->eN A 6 [.ref a] H Q E0:=λk=>{N,X,_,_,rfl,s0,pa,c6,k};refine{a,_,dx,_,_,rfl,s0 _ _ h1,hno,{6,∅,by rw[c6],rfl},rr ?_};clear two jn rl rr;cases t with
  |leaf n r=>
   cases r with
   |put x pt val=>
    have ā:=pa;unfold aJ at ā;obtain⟨a',Ϟ,p',e',ň,_⟩:=ā;cases e';exact twoN (N x) _ (λH' Q sx k=>Å (sx _ _ ň) T.cL.cl T.gA rfl k) q
   |_=>cases c6
  |_=>cases c6
 refine bN T s0 pa c6 (aT (K1 _ _ ?_));clear K1 M1 twoN;refine ao λM1 K1=>?_;by_cases c7:t.ci=7
 ·refine dA T s0 pa c7 (bp ?_);have rr:∀{Q:VK},(∀(p:Q1)(H':Hp),H p=Xc->aq H H'->H' p=Xb (.lst (sS (Þ N (ġ t))))->Q (.ref p) H')->eN A 7 [.ref a] H Q E0:=λk=>{N,X,_,_,rfl,s0,pa,c7,k};refine{a,_,dx,_,_,rfl,s0 _ _ h1,hno,{7,∅,by rw[c7],rfl},rr λp H1 hp s1 e1=>dB T (s0.trans s1) pa (two "value" _ ?_ p H1 hp s1 e1)};clear two jn rl rr;cases t with
  |leaf n r=>
   cases r with
   |snd x val=>exact q
   |_=>cases c7
  |_=>cases c7
 refine bN T s0 pa c7 (aT (K1 _ _ ?_));clear K1 M1;refine ao λM1 K1=>?_;by_cases c8:t.ci=8
 ·refine dA T s0 pa c8 (bp ?_);clear two jn rl;cases t with
  |leaf n r=>
   cases r with
   |say x val m=>exact{N,X,_,n,x,m,val,pl,rfl,s0,pa,nt,q}
   |_=>cases c8
  |_=>cases c8
 refine bN T s0 pa c8 (aT (K1 _ _ ?_));clear K1 M1;refine ao λM1 K1=>?_;by_cases è:t.ci=11
 ·refine dA T s0 pa è (bp ?_);have rr:∀{Q:VK},(∀(p:Q1)(H':Hp),H p=Xc->aq H H'->H' p=Xb (.lst (sS (Þ N (ġ t))))->Q (.ref p) H')->eN A 11 [.ref a] H Q E0:=λk=>{N,X,_,_,rfl,s0,pa,è,k};refine{a,_,dx,_,_,rfl,s0 _ _ h1,hno,{11,∅,by rw[è],rfl},rr λp H1 hp s1 e1=>dB T (s0.trans s1) pa (two "test" _ ?_ p H1 hp s1 e1)};clear two jn rl rr;cases t with
  |leaf n r=>cases r<;>cases è
  |iff n val l r fs os=>exact q
  |_=>cases è
 refine bN T s0 pa è (aT ?_);by_cases ê:t.ci=12
 ·refine dA T s0 pa ê (bp ?_);have rr:∀{Q:VK},(∀(p:Q1)(H':Hp),H p=Xc->aq H H'->H' p=Xb (.lst (sS (Þ N (ġ t))))->Q (.ref p) H')->eN A 12 [.ref a] H Q E0:=λk=>{N,X,_,_,rfl,s0,pa,ê,k};refine{a,_,dx,_,_,rfl,s0 _ _ h1,hno,{12,∅,by rw[ê],rfl},rr λp H1 hp s1 e1=>dB T (s0.trans s1) pa (two "test" _ ?_ p H1 hp s1 e1)};clear two jn rl rr;cases t with
  |leaf n r=>cases r<;>cases ê
  |loop n th m l r b=>exact q
  |_=>cases ê
 refine bN T s0 pa ê (aT (K1 _ _ ?_));clear K1 M1 two jn rl;refine ao λM1 K1=>?_;by_cases ϡ:t.ci=10
 ·refine dA T s0 pa ϡ (bp ?_);cases lp with
  |none=>exact absurd (hlp ϡ) ∅
  |some lq=>
  refine{by show 1<=sizeLine;decide,λq3 ϳ=>?_};have ŝ:=aq.upd ϳ (.lst [oS pl]);refine dB T (s0.trans ŝ) pa {q3,[pl],lq,"under",t.no,rfl,À.of av,by simp,λR2 y2 H3 s3 n3 e3 l3=>q R2 y2 H3 (ŝ.trans s3) (aq.free ŝ n3) e3 ?_};cases t with
  |leaf n r=>
   cases r with
   |last=>exact l3
   |_=>cases ϡ
  |_=>cases ϡ
 refine bN T s0 pa ϡ (aT (K1 _ _ ?_));clear K1 M1;cases t with
 |leaf n r=>
  cases r with
  |call i ts=>
   have ā:=pa;unfold aJ at ā;obtain⟨a',Ϟ,p,e',ň,_⟩:=ā;cases e';obtain⟨kvs,eD,hd⟩:=hD;obtain⟨c1,c2⟩:=hc;obtain⟨l1,pp,e1,e2⟩:=hd _ c1;exact Å (s0 _ _ ň) T.bD.cl T.cE rfl (æ eD e1 {N,X,_,n,i,ts,pl,pp,po (N i),rfl,s0,pa,e2,c2,l1,q})
  |set _ _=>exact absurd rfl c5
  |put _ _ _=>exact absurd rfl c6
  |snd _ _=>exact absurd rfl c7
  |say _ _ _=>exact absurd rfl c8
  |last=>exact absurd rfl ϡ
  |_=>cases hk
 |iff _ _ _ _ _ _=>exact absurd rfl è
 |loop _ _ _ _ _ _=>exact absurd rfl ê
 |aX n i ps b=>cases hk
def oI:Option Int->V
 |none=>.Ê
 |some n=>.int n
def NA(l r:Int):Option Int->Option Int->Option Int
 |some a,Xb b=>if l+a=r+b then Xb (1+l+a)else Xc
 |_,_=>Xc
def NI(m l r:Int):Option Int->Option Int
 |some a=>if l+a=r then Xb (1+m*r)else Xc
 |none=>Xc
def K0(a:Int):Option Int->Option Int
 |some b=>Xb (a+b)
 |none=>Xc
def oJ:Option Int->Option Int->Option Int
 |some a,x=>K0 a x
 |none,_=>Xc
mutual
noncomputable def ð(kn:Nat->Option Int):Pt->Option Int
 | .leaf _ (.call i _)=>K0 1 (kn i)
 | .leaf _ _=>Xb 1
 | .iff _ _ l r f o=>NA l r (bJ kn f) (bJ kn o)
 | .loop _ _ m l r b=>NI m l r (bJ kn b)
 | .aX _ _ _ _=>Xb 1
noncomputable def bJ(kn:Nat->Option Int):List Pt->Option Int
 | []=>Xb 0
 |t::ts=>oJ (ð kn t) (bJ kn ts)
end
theorem yZ(a b c:Option Int):oJ (oJ a b) c=oJ a (oJ b c):=by
 cases a with
 |none=>rfl
 |some a=>cases b with
  |none=>rfl
  |some b=>cases c with
   |none=>rfl
   |some c=>show Xb (a+b+c)=Xb (a+(b+c));rw[Int.add_assoc]
theorem A7(a:Option Int):oJ (Xb 0) a=a:=by
 cases a with
 |none=>rfl
 |some a=>show Xb (0+a)=Xb a;rw[P4]
theorem uT(kn:Nat->Option Int):∀(a b:List Pt),bJ kn (a++b)=oJ (bJ kn a) (bJ kn b)
 | [],b=>by rw[O6,show bJ kn []=Xb 0 by rw[bJ],A7]
 |t::a,b=>by
  rw[Qe,bJ,bJ,uT kn a b,yZ]
theorem FR(kn:Nat->Option Int)(t:Pt):bJ kn [t]=ð kn t:=by
 rw[bJ,bJ];cases ð kn t with
 |none=>rfl
 |some a=>show Xb (a+0)=Xb a;rw[Qv]
theorem wM(kn:Nat->Option Int){ts:List Pt}{i:Nat}{t:Pt}(h:ts[i]?=Xb t):bJ kn (ts.take (i+1))=oJ (bJ kn (ts.take i)) (ð kn t):=by
 rw[OG,h,uT];show oJ _ (bJ kn [t])=_;rw[FR]
theorem FP(kn:Nat->Option Int){ts:List Pt}{i:Nat}{t:Pt}(h:ts[i]?=Xb t)(e:ð kn t=Xc):bJ kn ts=Xc:=by
 have:=uT kn (ts.take (i+1)) (ts.drop (i+1));rw[OZ,wM kn h,e]at this;rw[this];cases bJ kn (ts.take i)<;>rfl
mutual
noncomputable def ß(idx:List Nat):Pt->Prop
 | .leaf _ (.call i _)=>i∈idx
 | .leaf _ _=>True
 | .iff _ _ _ _ f o=>fC idx f/\fC idx o
 | .loop _ _ m _ _ b=>0<=m/\m<=1000/\fC idx b
 | .aX _ _ _ _=>True
noncomputable def fC(idx:List Nat):List Pt->Prop
 | []=>True
 |t::ts=>ß idx t/\fC idx ts
end
theorem mY{idx:List Nat}{t:Pt}:∀{ts:List Pt},fC idx ts->t∈ts->ß idx t
 |t'::ts,h,m=>by
  unfold fC at h;rcases Ob.mp m with rfl|m
  ·exact h.1
  exact mY h.2 m
def lj(N:Nat->Str)(H:Hp)(D:Q1)(idx:List Nat)(kn:Nat->V):Prop:=∃kvs,H D=Xb (.dK kvs)/\∀i∈idx,L2.cK kvs (.inr (N i))=Xb (kn i)
inductive Bv(vs:List V)(H:Hp)(Q:VK)(Ã:XK):Prop
 |mk(x:Option Int):vs=[oI x]->Q (oI (K0 1 x)) H->Bv vs H Q Ã
theorem KO(T:Txt K mg A):T.uy.Hz P w base 1 Bv:=by
 refine T.uy.hs yM (λf Ä A' outer s H vs Q E' hr hu h=>?_);obtain⟨x,rfl,q⟩:=h;refine{_,(ai (aA (qE (Ð vg (fv 0) cU) cU (ax aO ah (fv 0))))),?_};cases x with
 |none=>exact{rfl,_,rfl,bp q}
 |some n=>exact{rfl,_,rfl,aT q}
inductive kI(A:Ï)(d:Nat)(vs:List V)(H:Hp)(Q:VK)(Ã:XK):Prop
 |mk(N:Nat->Str)(X:Hp)(L D:Q1)(xs:List V)(ts:List Pt)(idx:List Nat)(kn:Nat->Option Int):vs=[.ref L,.ref D]->aq X H->X L=Xb (.lst xs)->bc A N X xs ts->gw ts<=d->fC idx ts->(lj N H D idx λi=>oI (kn i))->Q (oI (bJ kn ts)) H->kI A d vs H Q Ã
inductive oh(A:Ï)(d:Nat)(vs:List V)(H:Hp)(Q:VK)(Ã:XK):Prop
 |mk(N:Nat->Str)(X:Hp)(v:V)(D:Q1)(t:Pt)(idx:List Nat)(kn:Nat->Option Int):vs=[v,.ref D]->aq X H->aJ A N X v t->dep t<=d->ß idx t->(lj N H D idx λi=>oI (kn i))->Q (oI (ð kn t)) H->oh A d vs H Q Ã
def ε(sp:Nat->Sp):Nat->Sp
 |0=>λ_ _ _ _=>False
 |d+1=>sp d
inductive kA(A:Ï)(d c:Nat)(vs:List V)(H:Hp)(Q:VK)(Ã:XK):Prop
 |mk(N:Nat->Str)(X:Hp)(v:V)(D:Q1)(t:Pt)(idx:List Nat)(kn:Nat->Option Int):vs=[v,.ref D]->aq X H->aJ A N X v t->dep t<=d->ß idx t->(lj N H D idx λi=>oI (kn i))->t.ci=c->Q (oI (ð kn t)) H->kA A d c vs H Q Ã
theorem zV(T:Txt K mg A)(d j:Nat)(QN:T.fT.Hz P w base j (oh A d)):T.fB.Hz P w base (j+1) (kI A d):=by
 refine T.fB.hs (k:=j) eh (λf Ä A' outer s H vs Q E' hr hu h=>?_);obtain⟨N,X,L,D,xs,ts,idx,kn,rfl,s0,hL,pt,dp,ck,hD,q⟩:=h;refine⟨_,(af (Æ 2 eh.nd ah)
  (af (b6 Rg rfl (br (fv 0)) (Õ (i:=3) eh.nd rfl)
   (af (Æ 4 eh.nd (aj (hj:=by lia) QN hr (fv 3^fv 1^ae)))
   (af (aN (Ð vg (fv 4) cU)
    (ai (aA cU))
    aG)
   (ai (FI (i:=2) eh.nd rfl (by first|exact N6 rfl|exact Oo rfl) (fv 4) D6)))))
  (ai (aA (fv 2))))),?_⟩
 refine ao λM1 K1=>K1 _ _ ?_;clear K1 M1;rfl'
 refine ao λM1 K1=>N6 {{_,À.of (s0 _ _ hL)},bP (K:=K) (xs:=xs) (λi B Hc=>∃(a:Int)(v3 v4:Option V),B=[Xb (.ref L),Xb (.ref D),Xb (.int a),v3,v4]/\Hc=H/\bJ kn (ts.take i)=Xb a) {0,Xc,Xc,rfl,rfl,by rw[P5,bJ]} (λi B Hc _ ⟨_,_,_,_,z,_⟩=>z▸À.of (s0 _ _ hL)) ?_ ?_}
 ·rintro i v B Hc hv ⟨a,v3,v4,rfl,rfl,ea⟩;obtain⟨t,ht,pa⟩:=pt.get hv;have mt:t∈ts:=Oe ht;rfl'
  refine ao λN1 J1=>{N,X,v,D,t,idx,kn,rfl,s0,pa,Ol (jb mt) dp,mY ck mt,hD,?_};have st:=wM kn ht;rw[ea]at st;refine J1 _ _ ?_;clear J1 N1;rfl'
  refine ao λN1 J1=>?_;cases e:ð kn t with
  |none=>
   rw[FP kn ht e]at q;exact{rfl,_,rfl,bp q}
  |some b=>
   rw[e]at st;exact{rfl,_,rfl,aT (J1 _ _ {_,rfl,a,b,rfl,rfl,a+b,_,_,rfl,rfl,st})}
 rintro B Hc ⟨a,v3,v4,rfl,rfl,ea⟩;rw[show ts.take xs.length=ts by rw[pt.len];exact Ov]at ea;rw[ea]at q;exact K1 _ _ q
theorem wZ(T:Txt K mg A)(d j:Nat)(QF:T.fB.Hz P w base j (ε (kI A) d)):T.jG.Hz P w base (j+1) (kA A d 11):=by
 refine T.jG.hs (k:=j) iU (λf Ä A' outer s H vs Q E' hr hu h=>?_);obtain⟨N,X,v,D,t,idx,kn,rfl,s0,pa,dp,ck,hD,ec,q⟩:=h;refine⟨_,(af (Æ 2 iU.nd (aj (hj:=by lia) QF hr (aw (fv 0) rfl^fv 1^ae)))
  (af (Æ 3 iU.nd (aj (hj:=by lia) QF hr (aw (fv 0) rfl^fv 1^ae)))
  (af (aN (PW.pt (pw_or (Ð vg (fv 2) cU) (pw_or (Ð vg (fv 3) cU) (pw_or1 (Ð (xK hu) (ax aO (aw (fv 0) rfl) (fv 2)) (ax aO (aw (fv 0) rfl) (fv 3)))))))
   (ai (aA cU))
   aG)
  (ai (aA (ax aO (ax aO ah (aw (fv 0) rfl)) (fv 2))))))),?_⟩
 cases t with
 |leaf n r=>cases r<;>cases ec
 |loop _ _ _ _ _ _=>cases ec
 |aX _ _ _ _=>cases ec
 |iff n val l r fs os=>
 unfold aJ at pa;obtain⟨a,dx,p,pf,po,xf,xo,rfl,h1,h2,h3,h4,h5,h6⟩:=pa;unfold dep at dp;unfold ß at ck;unfold ð at q;cases d with
 |zero=>lia
 |succ d=>
 refine ao λM1 K1=>Å (s0 _ _ h1) T.aQ.cl T.cz rfl {N,X,pf,D,xf,fs,idx,kn,rfl,s0,h3,h5,(),ck.1,hD,K1 _ _ ?_};clear K1 M1;rfl'
 refine ao λM1 K1=>Å (s0 _ _ h1) T.aQ.cl T.cA rfl {N,X,po,D,xo,os,idx,kn,rfl,s0,h4,h6,(),ck.2,hD,?_};generalize bJ kn fs=ef at q;generalize bJ kn os=eo at q;refine K1 _ _ ?_;clear K1 M1;rfl'
 refine ao λM1 K1=>?_;cases ef with
 |none=>exact{rfl,_,rfl,bp q}
 |some b=>
 refine{rfl,_,rfl,aT ?_};cases eo with
 |none=>exact{rfl,_,rfl,bp q}
 |some c=>
 refine{rfl,_,rfl,aT (Å (s0 _ _ h1) T.aQ.cl T.dg rfl (Å (s0 _ _ h1) T.aQ.cl T.dC rfl {rfl,_,rfl,?_}))};by_cases e:l+b=r+c
 ·refine a8 (λz=>absurd z (by show ¬ (!decide (V.int (l+b)=V.int (r+c)))=true;rw[Gf,decide_eq_true e];decide)) (λ_=>K1 _ _ ?_);have q:Q (oI (if l+b=r+c then Xb (1+l+b)else Xc)) H:=q;rw[if_pos e]at q;exact Å (s0 _ _ h1) T.aQ.cl T.dg rfl q
 refine a8 (λ_=>?_) (λz=>absurd (by show(!decide (V.int (l+b)=V.int (r+c)))=true;rw[Gf,decide_eq_false e];rfl) z);have q:Q (oI (if l+b=r+c then Xb (1+l+b)else Xc)) H:=q;rw[if_neg e]at q;exact q
theorem xX(T:Txt K mg A)(d j:Nat)(QF:T.fB.Hz P w base j (ε (kI A) d)):T.gJ.Hz P w base (j+1) (kA A d 12):=by
 refine T.gJ.hs (k:=j) kC (λf Ä A' outer s H vs Q E' hr hu h=>?_);obtain⟨N,X,v,D,t,idx,kn,rfl,s0,pa,dp,ck,hD,ec,q⟩:=h;refine⟨_,(af (Æ 2 kC.nd (aj (hj:=by lia) QF hr (aw (fv 0) rfl^fv 1^ae)))
  (af (aN (PW.pt (pw_or (Ð vg (fv 2) cU) (pw_or1 (Ð (xK hu) (ax aO (aw (fv 0) rfl) (fv 2)) (aw (fv 0) rfl)))))
   (ai (aA cU))
   aG)
  (ai (aA (ax aO ah (ax j5 (aw (fv 0) rfl) (aw (fv 0) rfl))))))),?_⟩
 cases t with
 |leaf n r=>cases r<;>cases ec
 |iff _ _ _ _ _ _=>cases ec
 |aX _ _ _ _=>cases ec
 |loop n th m l r b=>
 unfold aJ at pa;obtain⟨a,dx,pb,xb,rfl,h1,h2,h3⟩:=pa;unfold dep at dp;unfold ß at ck;unfold ð at q;cases d with
 |zero=>lia
 |succ d=>
 refine ao λM1 K1=>Å (s0 _ _ h1) T.aI.cl T.b5 rfl {N,X,pb,D,xb,b,idx,kn,rfl,s0,h2,h3,(),ck.2.2,hD,?_};generalize bJ kn b=ef at q;refine K1 _ _ ?_;clear K1 M1;rfl'
 refine ao λM1 K1=>?_;cases ef with
 |none=>exact{rfl,_,rfl,bp q}
 |some b=>
 refine{rfl,_,rfl,aT (Å (s0 _ _ h1) T.aI.cl T.cV rfl (Å (s0 _ _ h1) T.aI.cl T.cf rfl {rfl,_,rfl,?_}))};have q:Q (oI (if l+b=r then Xb (1+m*r)else Xc)) H:=q;by_cases e:l+b=r
 ·refine a8 (λz=>absurd z (by show ¬ (!decide (V.int (l+b)=V.int r))=true;rw[Gf,decide_eq_true e];decide)) (λ_=>K1 _ _ ?_);rw[if_pos e]at q;exact Å (s0 _ _ h1) T.aI.cl T.dX rfl (Å (s0 _ _ h1) T.aI.cl T.cf rfl {oj () (),q})
 refine a8 (λ_=>?_) (λz=>absurd (by show(!decide (V.int (l+b)=V.int r))=true;rw[Gf,decide_eq_false e];rfl) z);rw[if_neg e]at q;exact q
theorem AN(T:Txt K mg A)(d j:Nat)(QP:T.jG.Hz P w base (j+1) (kA A d 11))(QM:T.gJ.Hz P w base (j+1) (kA A d 12)):T.fT.Hz P w base (j+2) (oh A d):=by
 refine T.fT.hs (k:=j+1) su (λf Ä A' outer s H vs Q E' hr hu h=>?_);obtain⟨N,X,v,D,t,idx,kn,rfl,s0,pa,dp,ck,hD,q⟩:=h;refine⟨_,(af (aN (aZ (Ó aK T.az (fv 0^aS T.bD.mg^ae)) (λ_=>rfl))
   (ai (aA (aj (hj:=by lia) (KO T) hr (px hu (fv 1) (aw (fv 0) rfl)^ae))))
   aG)
  (af (aN (aZ (Ó aK T.az (fv 0^aS T.aQ.mg^ae)) (λ_=>rfl))
   (ai (aA (aj (hj:=by lia) QP hr (fv 0^fv 1^ae))))
   aG)
  (af (aN (aZ (Ó aK T.az (fv 0^aS T.aI.mg^ae)) (λ_=>rfl))
   (ai (aA (aj (hj:=by lia) QM hr (fv 0^fv 1^ae))))
   aG)
  (ai (aA ah))))),?_⟩
 by_cases c9:t.ci=9
 ·refine ao λM1 K1=>dA T s0 pa c9 (bp ?_);cases t with
  |leaf n r=>
   cases r with
   |call i ts=>
    unfold aJ at pa;obtain⟨a,dx,p,rfl,h1,_⟩:=pa;unfold ß at ck;unfold ð at q;obtain⟨kvs,e1,e2⟩:=hD;exact Å (s0 _ _ h1) T.bD.cl T.cE rfl (æ e1 (e2 i ck) ⟨kn i,rfl,q⟩)
   |_=>cases c9
  |_=>cases c9
 refine ao λM1 K1=>bN T s0 pa c9 (aT (K1 _ _ ?_));clear K1 M1;by_cases è:t.ci=11
 ·exact ao λM1 K1=>dA T s0 pa è (bp ⟨N,X,v,D,t,idx,kn,rfl,s0,pa,dp,ck,hD,è,q⟩)
 refine ao λM1 K1=>bN T s0 pa è (aT (K1 _ _ ?_));clear K1 M1;by_cases ê:t.ci=12
 ·exact ao λM1 K1=>dA T s0 pa ê (bp ⟨N,X,v,D,t,idx,kn,rfl,s0,pa,dp,ck,hD,ê,q⟩)
 refine ao λM1 K1=>bN T s0 pa ê (aT (?_));have e:ð kn t=Xb 1:=by
  cases t with
  |leaf n r=>
   cases r with
   |call i ts=>exact absurd rfl c9
   |_=>simp[ð]
  |iff _ _ _ _ _ _=>exact absurd rfl è
  |loop _ _ _ _ _ _=>exact absurd rfl ê
  |aX _ _ _ _=>rw[ð]
 rw[e]at q;exact K1 _ _ q
theorem sV(T:Txt K mg A):∀d,T.fB.Hz P w base (3*d+4) (kI A d)
 |0=>zV T 0 3 (AN T 0 1 (wZ T 0 1 (T.fB.hs (k:=0) eh (λ_ _ _ _ _ _ _ _ _ _ _ h=>h.elim) (λ_ _ _ _ h=>h.elim))) (xX T 0 1 (T.fB.hs (k:=0) eh (λ_ _ _ _ _ _ _ _ _ _ _ h=>h.elim) (λ_ _ _ _ h=>h.elim))))
 |d+1=>zV T (d+1) (3*d+6) (AN T (d+1) (3*d+4) (wZ T (d+1) (3*d+4) (sV T d)) (xX T (d+1) (3*d+4) (sV T d)))
theorem Jb(T:Txt K mg A):∀d,T.fB.Hz P w base (3*d+4) (ε (kI A) d)
 |0=>T.fB.hs (k:=3) eh (λ_ _ _ _ _ _ _ _ _ _ _ h=>h.elim) (λ_ _ _ _ h=>h.elim)
 |d+1=>(sV T d).mono ()
theorem GG(T:Txt K mg A)(d:Nat):T.fT.Hz P w base (3*d+6) (oh A d):=
 AN T d (3*d+4) (wZ T d (3*d+4) (Jb T d)) (xX T d (3*d+4) (Jb T d))
inductive EE(A:Ï)(d:Nat)(vs:List V)(H:Hp)(Q:VK)(Ã:XK):Prop
 |mk(N:Nat->Str)(X:Hp)(v:V)(D:Q1)(t:Pt)(idx:List Nat)(kn:Nat->Option Int):vs=[v,.ref D]->aq X H->aJ A N X v t->dep t<=d->ß idx t->(lj N H D idx λi=>oI (kn i))->Q (.bl (ð kn t).isSome) H->EE A d vs H Q Ã
theorem Jm(T:Txt K mg A)(d:Nat):T.balanced.Hz P w base (3*d+7) (EE A d):=by
 refine T.balanced.hs (k:=3*d+6) yW (λf Ä A' outer s H vs Q E' hr hu h=>?_);obtain⟨N,X,v,D,t,idx,kn,rfl,s0,pa,dp,ck,hD,q⟩:=h;refine{_,(ai (aA (pec CL (aj (hj:=by lia) (GG T d) hr (fv 0^fv 1^ae)) cU))),{N,X,v,D,t,idx,kn,rfl,s0,pa,dp,ck,hD,rfl,?_}};cases e:ð kn t with
 |none=>rw[e]at q;exact q
 |some n=>rw[e]at q;exact q
def ç:Pt->Nat
 | .aX _ i _ _=>i
 |_=>0
def ī{α:Type}(g:(Nat->α)->List Pt->α)(kn:Nat->α)(p:Pt):Nat->α:=λj=>if j=ç p then g kn (b7 p)else kn j
def È{α:Type}(g:(Nat->α)->List Pt->α)(z:α)(ds:List Pt):Nat->α:=ds.foldl (ī g) λ_=>z
structure pQ(N:Nat->Str)(d:Nat)(ds:List Pt):Prop where
 aX:∀p∈ds,xa p
 dp:∀p∈ds,gw (b7 p)<=d
 ck:∀(i:Nat)(p:Pt),ds[i]?=Xb p->fC ((ds.take i).map ç) (b7 p)
 nm:∀(i j:Nat)(p q:Pt),ds[i]?=Xb p->ds[j]?=Xb q->N (ç p)=N (ç q)->i=j
 ln:ds.length<=900
theorem xM{α:Type}(g:(Nat->α)->List Pt->α)(z:α)(vl:α->V){ds:List Pt}{d i:Nat}{p:Pt}(O:pQ N d ds)(hp:ds[i]?=Xb p){kvs:List (Key×V)}(h:∀k∈(ds.take i).map ç,L2.cK kvs (.inr (N k))=Xb (vl (È g z (ds.take i) k))) :
  ∀k∈(ds.take (i+1)).map ç,L2.cK (Xi kvs (.inr (N (ç p))) (vl (g (È g z (ds.take i)) (b7 p)))) (.inr (N k))=Xb (vl (È g z (ds.take (i+1)) k)):=by
 intro k hk
 have st:È g z (ds.take (i+1))=ī g (È g z (ds.take i)) p:=dH (ī g) (λ_=>z) hp
 rw[Ej,st]
 rw[OG,hp,OB]at hk
 show(if(Oz (N k):Key)=Oz (N (ç p))then _ else _)=Xb (vl (if k=ç p then _ else _))
 by_cases e:k=ç p
 ·rw[if_pos (by rw[e]),if_pos e]
 have m:k∈(ds.take i).map ç:=by
  rcases Og.mp hk with m|m
  ·exact m
  exact absurd (N4.mp m) e
 rw[if_neg e,if_neg,h k m]
 intro z
 obtain⟨q,mq,rfl⟩:=Oq.mp m
 obtain⟨j,hj⟩:=Qi mq
 have jl:j<i:=by
  have:=(Ot.mp hj).1;rw[OH]at this;lia
 rw[P1 jl]at hj
 have:=O.nm j i q p hj hp (Oz.inj z)
 lia
inductive wF(A:Ï)(d:Nat)(vs:List V)(H:Hp)(Q:VK)(Ã:XK):Prop
 |mk(N:Nat->Str)(X:Hp)(v:V)(hs ds ms:List Pt)(z0:vs=[v])(z1:aq X H)(z2:jx A N X v hs ds ms)(z3:pQ N d ds)
  (z4:∀(D:Q1)(H':Hp),aq H H'->H D=Xc->lj N H' D (ds.map ç) (λi=>oI (È bJ Xc ds i))->Q (.ref D) H'):wF A d vs H Q Ã
theorem yG(T:Txt K mg A)(d:Nat):T.AA.Hz P w base (3*d+5) (wF A d):=by
 refine T.AA.hs (k:=3*d+4) rE (λf Ä A' outer s H vs Q E' hr hu h=>?_);obtain⟨N,X,v,hs,ds,ms,rfl,s0,⟨a,dx,n0,n1,n2,x0,x1,x2,rfl,ha,e0,e1,e2,p0,p1,p2⟩,O,q⟩:=h;refine⟨_,(af (Æ 1 rE.nd (qw))
  (af (b6 Rg rfl (br (aw (fv 0) rfl)) (Õ (i:=2) rE.nd rfl)
   (ai (cn (aj (hj:=by lia) (sV T d) hr (aw (fv 2) rfl^fv 1^ae)) (cH (fv 1) (aw (fv 2) rfl) (cI hu Xe)))))
  (ai (aA (fv 1))))),?_⟩
 refine ao λM1 K1 D hD=>?_;obtain⟨s1,eD⟩:=Ò hD (HO.dK []);generalize upd H D _=H1 at s1 eD⊢;refine K1 _ _ ?_;clear K1 M1;rfl'
 refine ao λM1 K1=>Å ((s0.trans s1) _ _ ha) T.bF.cl T.bw rfl (N6 {{_,À.of ((s0.trans s1) _ _ e1)},bP (K:=K) (xs:=x1) (λi B Hc=>∃(v2:Option V)(kvs:List (Key×V)),B=[Xb (.ref a),Xb (.ref D),v2]/\aq H Hc/\Hc D=Xb (.dK kvs)/\kvs.length<=i/\∀k∈(ds.take i).map ç,L2.cK kvs (.inr (N k))=Xb (oI (È bJ Xc (ds.take i) k))) {Xc,[],rfl,s1,eD,Oc _,by simp} (λi B Hc _ ⟨_,_,_,z,_⟩=>À.of ((s0.trans z) _ _ e1)) ?_ ?_})
 ·rintro i v B Hc hv ⟨v2,kvs,rfl,sc,ŋ,kl,hk⟩;obtain⟨t,ht,pa⟩:=p1.get hv;have mt:t∈ds:=Oe ht;have il:i<ds.length:=(Ot.mp ht).1;have dt:=O.aX t mt;have st:=xM bJ Xc oI O ht hk;have ln:=O.ln;cases t with
  |aX n i' ps b=>
   have ā:=pa;unfold aJ at ā;obtain⟨a',Ϟ,pp,pb,xb,rfl,h1,h2,h3,h4⟩:=ā;have sX:=s0.trans sc;refine Å (sX _ _ h1) T.bh.cl T.cD rfl {N,X,pb,D,xb,b,(ds.take i).map ç,È bJ Xc (ds.take i),rfl,sX,h3,h4,O.dp _ mt,O.ck i _ ht,⟨kvs,ŋ,hk⟩,Å (sX _ _ h1) T.bh.cl T.bR rfl {_,fS.k (k:=.inr (N i')) ŋ (aH ()),{_,_,rfl,aq.out sc hD _,av,?_,st}}};have:(Xi kvs (.inr (N i')) (oI (bJ (È bJ Xc (ds.take i)) b))).length<=kvs.length+1:=uD _ _ _;lia
  |_=>exact dt.elim
 rintro B Hc ⟨v2,kvs,rfl,sc,ŋ,kl,hk⟩;rw[show ds.take x1.length=ds by rw[p1.len];exact Ov]at hk;exact K1 _ _ (q D Hc sc hD ⟨kvs,ŋ,hk⟩)
def mx(i j:Int):Int:=if j>i then j else i
mutual
noncomputable def á(kn:Nat->Int):Pt->Int
 | .leaf _ (.call i _)=>1+kn i
 | .leaf _ _=>1
 | .iff _ _ l r f o=>1+mx (l+aR kn f) (r+aR kn o)
 | .loop _ _ m l r b=>1+m*mx (l+aR kn b) r
 | .aX _ _ _ _=>1
noncomputable def aR(kn:Nat->Int):List Pt->Int
 | []=>0
 |t::ts=>á kn t+aR kn ts
end
theorem va(kn:Nat->Int):∀ts:List Pt,aR kn ts=(ts.map (á kn)).sum
 | []=>by rw[aR];rfl
 |t::ts=>by rw[aR,va kn ts,Ox,PR]
mutual
noncomputable def Ċ:Pt->Prop
 | .leaf _ _=>True
 | .iff _ _ _ _ f o=>f.length<=900/\o.length<=900/\ix f/\ix o
 | .loop _ _ _ _ _ b=>b.length<=900/\ix b
 | .aX _ _ _ _=>True
noncomputable def ix:List Pt->Prop
 | []=>True
 |t::ts=>Ċ t/\ix ts
end
theorem qc{t:Pt}:∀{ts:List Pt},ix ts->t∈ts->Ċ t
 |t'::ts,h,m=>by
  unfold ix at h;rcases Ob.mp m with rfl|m
  ·exact h.1
  exact qc h.2 m
inductive jc(A:Ï)(d:Nat)(vs:List V)(H:Hp)(Q:VK)(Ã:XK):Prop
 |mk(N:Nat->Str)(X:Hp)(L D:Q1)(xs:List V)(ts:List Pt)(idx:List Nat)(kn:Nat->Int):vs=[.ref L,.ref D]->aq X H->X L=Xb (.lst xs)->bc A N X xs ts->gw ts<=d->fC idx ts->ts.length<=900->ix ts->(lj N H D idx λi=>.int (kn i))->(∀H',aq H H'->Q (.int (aR kn ts)) H')->jc A d vs H Q Ã
inductive qv(A:Ï)(d:Nat)(vs:List V)(H:Hp)(Q:VK)(Ã:XK):Prop
 |mk(N:Nat->Str)(X:Hp)(v:V)(D:Q1)(t:Pt)(idx:List Nat)(kn:Nat->Int):vs=[v,.ref D]->aq X H->aJ A N X v t->dep t<=d->ß idx t->Ċ t->(lj N H D idx λi=>.int (kn i))->(∀H',aq H H'->Q (.int (á kn t)) H')->qv A d vs H Q Ã
theorem lj.same{H H':Hp}{D:Q1}{idx:List Nat}{kn:Nat->V}(s:aq H H')(h:lj N H D idx kn):lj N H' D idx kn:=by
 obtain⟨kvs,e,h⟩:=h;exact{kvs,s _ _ e,h}
theorem sW{α:Type}{f:α->Int}{src:List α}:∀{ys:List V},Paired (λt y=>y=V.int (f t)) src ys->ys=(src.map f).map V.int
 |_,.nil=>rfl
 |_,.cons h r=>by rw[h,sW r];rfl
theorem BQ(T:Txt K mg A)(d j:Nat)(QQ:T.jA.Hz P w base j (qv A d)):T.oz.Hz P w base (j+1) (jc A d):=by
 refine T.oz.hs (k:=j) uX (λf Ä A' outer s H vs Q E' hr hu h=>?_);obtain⟨N,X,L,D,xs,ts,idx,kn,rfl,s0,hL,pt,dp,ck,ln,lo,hD,q⟩:=h;refine{_,(ai (aA (Ó MI T.CN ((dF (N:=["row","known"]) (own:=1) (fr:=[1]) (b4.of (by kernel_rfl!)) rfl (br (fv 0)) (λb=>Õ (i:=0) (show Rr (["row","known"]:List RF) by decide+kernel) rfl) (λb=>fP) (λb=>aj (hj:=by lia) QQ hr (fv 0^fv 1^ae)))^ae)))),N6 {{_,À.of (s0 _ _ hL)},dO (K:=K) (own:=1) ts (λ_=>true) (λt y _=>y=.int (á kn t)) (À.of (s0 _ _ hL)) pt.len (aH (by rw[pt.len];lia)) ?_ (λ_ _ _ _ _ h=>h) (λ_ _ _ _ _ _ _ h=>h) ?_}}
 ·intro b i x e v0 H1 Nn Y hx he hv s1 no yes;obtain⟨u0,rfl⟩:∃u0,v0=[u0]:=by
   match v0,hv with
   | [u],_=>exact⟨u,rfl⟩
  obtain⟨t,ht,pa⟩:=pt.get hx;rw[he]at ht;cases ht;have mt:e∈ts:=Oe he;exact qv.mk N X x D e idx kn rfl (s0.trans s1) pa (Ol (jb mt) dp) (mY ck mt) (qc lo mt) (hD.same s1) (λH' s2=>yes rfl [Xb x] _ _ rfl s2 rfl)
 intro R H1 ys hR s1 e1 pr;rw[dq]at pr;have:=sW pr;refine{R,ts.map (á kn),rfl,À.of (by rw[e1,this]),?_};rw[<-va];exact q _ s1
theorem yL(T:Txt K mg A)(d j:Nat)(QK:T.oz.Hz P w base j (ε (jc A) d)):T.jA.Hz P w base (j+1) (qv A d):=by
 refine T.jA.hs (k:=j) iV (λf Ä A' outer s H vs Q E' hr hu h=>?_);obtain⟨N,X,v,D,t,idx,kn,rfl,s0,pa,dp,ck,lo,hD,q⟩:=h;refine⟨_,(af (aN (aZ (Ó aK T.az (fv 0^aS T.bD.mg^ae)) (λ_=>rfl))
   (ai (aA (ax aO ah (px hu (fv 1) (aw (fv 0) rfl)))))
   aG)
  (af (aN (aZ (Ó aK T.az (fv 0^aS T.aQ.mg^ae)) (λ_=>rfl))
   (af (Æ 2 iV.nd (ax aO (aw (fv 0) rfl) (aj (hj:=by lia) QK hr (aw (fv 0) rfl^fv 1^ae))))
   (af (Æ 3 iV.nd (ax aO (aw (fv 0) rfl) (aj (hj:=by lia) QK hr (aw (fv 0) rfl^fv 1^ae))))
   (ai (aA (ax aO ah (Ó uL T.oT (fv 2^fv 3^ae)))))))
   aG)
  (af (aN (aZ (Ó aK T.az (fv 0^aS T.aI.mg^ae)) (λ_=>rfl))
   (ai (aA (ax aO ah (ax j5 (aw (fv 0) rfl) (Ó uL T.oT ((ax aO (aw (fv 0) rfl) (aj (hj:=by lia) QK hr (aw (fv 0) rfl^fv 1^ae)))^aw (fv 0) rfl^ae))))))
   aG)
  (ai (aA ah))))),?_⟩
 by_cases c9:t.ci=9
 ·refine ao λM1 K1=>dA T s0 pa c9 (bp ?_);cases t with
  |leaf n r=>
   cases r with
   |call i ts=>
    unfold aJ at pa;obtain⟨a,dx,p,rfl,h1,_⟩:=pa;unfold ß at ck;unfold á at q;obtain⟨kvs,e1,e2⟩:=hD;exact Å (s0 _ _ h1) T.bD.cl T.cE rfl (æ e1 (e2 i ck) (q _ (aq.refl _)))
   |_=>cases c9
  |_=>cases c9
 refine ao λM1 K1=>bN T s0 pa c9 (aT (K1 _ _ ?_));clear K1 M1;by_cases è:t.ci=11
 ·refine ao λM1 K1=>dA T s0 pa è (bp ?_);cases t with
  |leaf n r=>cases r<;>cases è
  |loop _ _ _ _ _ _=>cases è
  |aX _ _ _ _=>cases è
  |iff n val l r fs os=>
  unfold aJ at pa;obtain⟨a,dx,p,pf,po,xf,xo,rfl,h1,h2,h3,h4,h5,h6⟩:=pa;unfold dep at dp;unfold ß at ck;unfold Ċ at lo;unfold á at q;cases d with
  |zero=>lia
  |succ d=>
  refine ao λM2 K2=>Å (s0 _ _ h1) T.aQ.cl T.dg rfl (Å (s0 _ _ h1) T.aQ.cl T.cz rfl {N,X,pf,D,xf,fs,idx,kn,rfl,s0,h3,h5,(),ck.1,lo.1,lo.2.2.1,hD,λH1 s1=>K2 _ _ ?_});clear K2 M2;have sX:=s0.trans s1;rfl'
  exact ao λM2 K2=>Å (sX _ _ h1) T.aQ.cl T.dC rfl (Å (sX _ _ h1) T.aQ.cl T.cA rfl {N,X,po,D,xo,os,idx,kn,rfl,sX,h4,h6,(),ck.2,lo.2.1,lo.2.2.2,hD.same s1,λH2 s2=>K2 _ _ {_,_,rfl,q _ (s1.trans s2)}})
 refine ao λM1 K1=>bN T s0 pa è (aT (K1 _ _ ?_));clear K1 M1;by_cases ê:t.ci=12
 ·refine ao λM1 K1=>dA T s0 pa ê (bp ?_);cases t with
  |leaf n r=>cases r<;>cases ê
  |iff _ _ _ _ _ _=>cases ê
  |aX _ _ _ _=>cases ê
  |loop n th m l r b=>
  unfold aJ at pa;obtain⟨a,dx,pb,xb,rfl,h1,h2,h3⟩:=pa;unfold dep at dp;unfold ß at ck;unfold Ċ at lo;unfold á at q;cases d with
  |zero=>lia
  |succ d=>
  exact Å (s0 _ _ h1) T.aI.cl T.dX rfl (Å (s0 _ _ h1) T.aI.cl T.cV rfl (Å (s0 _ _ h1) T.aI.cl T.b5 rfl {N,X,pb,D,xb,b,idx,kn,rfl,s0,h2,h3,(),ck.2.2,lo.1,lo.2,hD,λH1 s1=>Å ((s0.trans s1) _ _ h1) T.aI.cl T.cf rfl {_,_,rfl,oj () (),q _ s1}}))
 refine ao λM1 K1=>bN T s0 pa ê (aT (?_));have e:á kn t=1:=by
  cases t with
  |leaf n r=>
   cases r with
   |call i ts=>exact absurd rfl c9
   |_=>simp[á]
  |iff _ _ _ _ _ _=>exact absurd rfl è
  |loop _ _ _ _ _ _=>exact absurd rfl ê
  |aX _ _ _ _=>rw[á]
 rw[e]at q;exact K1 _ _ (q _ (aq.refl _))
theorem tu(T:Txt K mg A):∀d,T.oz.Hz P w base (2*d+3) (jc A d)
 |0=>BQ T 0 2 (yL T 0 1 (T.oz.hs (k:=0) uX (λ_ _ _ _ _ _ _ _ _ _ _ h=>h.elim) (λ_ _ _ _ h=>h.elim)))
 |d+1=>BQ T (d+1) (2*d+4) (yL T (d+1) (2*d+3) (tu T d))
inductive uu(A:Ï)(d:Nat)(vs:List V)(H:Hp)(Q:VK)(Ã:XK):Prop
 |mk(N:Nat->Str)(X:Hp)(v:V)(hs ds ms:List Pt)(z0:vs=[v])(z1:aq X H)(z2:jx A N X v hs ds ms)(z3:pQ N d ds)(z5:∀p∈ds,(b7 p).length<=900/\ix (b7 p))
  (z4:∀(D:Q1)(H':Hp),aq H H'->H D=Xc->lj N H' D (ds.map ç) (λi=>.int (È aR 0 ds i))->Q (.ref D) H'):uu A d vs H Q Ã
theorem IC(T:Txt K mg A)(d:Nat):T.fF.Hz P w base (2*d+4) (uu A d):=by
 refine T.fF.hs (k:=2*d+3) uB (λf Ä A' outer s H vs Q E' hr hu h=>?_);obtain⟨N,X,v,hs,ds,ms,rfl,s0,⟨a,dx,n0,n1,n2,x0,x1,x2,rfl,ha,e0,e1,e2,p0,p1,p2⟩,O,lo,q⟩:=h;refine⟨_,(af (Æ 1 uB.nd (qw))
  (af (b6 Rg rfl (br (aw (fv 0) rfl)) (Õ (i:=2) uB.nd rfl)
   (ai (cn (aj (hj:=by lia) (tu T d) hr (aw (fv 2) rfl^fv 1^ae)) (cH (fv 1) (aw (fv 2) rfl) (cI hu Xe)))))
  (ai (aA (fv 1))))),?_⟩
 refine ao λM1 K1 D hD=>?_;obtain⟨s1,eD⟩:=Ò hD (HO.dK []);generalize upd H D _=H1 at s1 eD⊢;refine K1 _ _ ?_;clear K1 M1;rfl'
 refine ao λM1 K1=>Å ((s0.trans s1) _ _ ha) T.bF.cl T.bw rfl (N6 {{_,À.of ((s0.trans s1) _ _ e1)},bP (K:=K) (xs:=x1) (λi B Hc=>∃(v2:Option V)(kvs:List (Key×V)),B=[Xb (.ref a),Xb (.ref D),v2]/\aq H Hc/\Hc D=Xb (.dK kvs)/\kvs.length<=i/\∀k∈(ds.take i).map ç,L2.cK kvs (.inr (N k))=Xb (.int (È aR 0 (ds.take i) k))) {Xc,[],rfl,s1,eD,Oc _,by simp} (λi B Hc _ ⟨_,_,_,z,_⟩=>À.of ((s0.trans z) _ _ e1)) ?_ ?_})
 ·rintro i v B Hc hv ⟨v2,kvs,rfl,sc,ŋ,kl,hk⟩;obtain⟨t,ht,pa⟩:=p1.get hv;have mt:t∈ds:=Oe ht;have il:i<ds.length:=(Ot.mp ht).1;have dt:=O.aX t mt;have st:=xM aR 0 V.int O ht hk;have ln:=O.ln;cases t with
  |aX n i' ps b=>
   have ā:=pa;unfold aJ at ā;obtain⟨a',Ϟ,pp,pb,xb,rfl,h1,h2,h3,h4⟩:=ā;have sX:=s0.trans sc;refine Å (sX _ _ h1) T.bh.cl T.cD rfl {N,X,pb,D,xb,b,(ds.take i).map ç,È aR 0 (ds.take i),rfl,sX,h3,h4,O.dp _ mt,O.ck i _ ht,(lo _ mt).1,(lo _ mt).2,⟨kvs,ŋ,hk⟩,λHe se=>Å ((sX.trans se) _ _ h1) T.bh.cl T.bR rfl {_,fS.k (k:=.inr (N i')) (se _ _ ŋ) (aH ()),{_,_,rfl,aq.out (sc.trans se) hD _,av,?_,st}}};have:(Xi kvs (.inr (N i')) (.int (aR (È aR 0 (ds.take i)) b))).length<=kvs.length+1:=uD _ _ _;lia
  |_=>exact dt.elim
 rintro B Hc ⟨v2,kvs,rfl,sc,ŋ,kl,hk⟩;rw[show ds.take x1.length=ds by rw[p1.len];exact Ov]at hk;exact K1 _ _ (q D Hc sc hD ⟨kvs,ŋ,hk⟩)
theorem Fh{kvs:List (Key×V)}{k:Key}(h:k∉kvs.map (·.1)):L2.cK kvs k=Xc:=by
 unfold L2.cK;rw[List.find?_eq_none.mpr λkv m=>by
  rw[decide_eq_true_iff];exact λe=>h (e▸OJ m)]
 rfl
theorem mW:∀(kvs acc:List (Key×V)),((acc++kvs).map (·.1)).Nodup->bL acc kvs=acc++kvs
 | [],acc,_=>by rw[OF];rfl
 | (k,v)::kvs,acc,h=>by
  have nk:k∉acc.map (·.1):=λm=>by
   rw[OB,Ox]at h;exact(O5.mp h).2.2 k m k N9 rfl
  show bL (Xi acc k v) kvs=_;rw[Aa v (Fh nk),mW kvs (acc++[(k,v)]) (by simpa using h)];simp
def ô(N:Nat->Str)(ds:List Pt)(x:Str):List Str:=match ds.find? (λp=>decide (ë N p=x))with
 |some p=>Ē N p
 |none=>[]
def A8(t:Pt):Bool:=decide (t.ci=7)||decide (t.ci=8)
def zX(t:Pt):Bool:=decide (t.ci=11)||decide (t.ci=12)
def tE(kn:Nat->Option Int)(t:Pt):List Lk:=if A8 t=true then[{"the clock",a9 t.no,"steps",t.no}]else if zX t=true/\(ð kn t).isSome=false then[{a9 t.no,"the clock","steps",t.no}]else[]
theorem Ea(kn:Nat->Option Int)(t:Pt):(tE kn t).length<=1:=by
 unfold tE;split
 ·exact Oc _
 split<;>simp
def IV(b:Bool)(kn:Nat->Option Int)(t:Pt):List Lk:=if b=true then tE kn t else[]
def qG(N:Nat->Str)(b:Bool)(ds:List Pt)(e:Le):List Lk:=oF N (ô N ds) e.1 e.2.1 e.2.2++IV b (È bJ Xc ds) e.1
def cF(N:Nat->Str)(b:Bool)(ds ms:List Pt):List Lk:=(bj N ds ms).flatMap (qG N b ds)
structure OkL(N:Nat->Str)(d:Nat)(hs ds ms:List Pt):Prop where
 ok:Ok N d hs ds ms
 dk:pQ N d ds
 nn:(ds.map (ë N)).Nodup
 pn:∀p∈ds,(Ē N p).length<=100
 k5:∀e∈bj N ds ms,k5 e.1=true
 lo:∀e∈bj N ds ms,ϱ e.1 e.2.2
 cal:∀e∈bj N ds ms,rV N (ô N ds) (ds.map (ë N)) e.1
 ll:∀b,(cF N b ds ms).length<=900
 ck:∀e∈bj N ds ms,ß (ds.map ç) e.1/\dep e.1<=d
def PoE(N:Nat->Str)(X:Hp)(p:Pt)(y:V)(H:Hp):Prop:=∃t pp,y=V.ref t/\H t=Xb (.tup [.str (ë N p),.ref pp])/\X pp=Xb (.lst (sS (Ē N p)))
theorem E5{X H:Hp}:∀{ds:List Pt}{ys:List V},Paired (λp y=>PoE N X p y H) ds ys->∃(ps:List Q1)(kvs:List (Key×V)),ys=ps.map V.ref/\ps.length=kvs.length/\kvs.map (·.1)=ds.map (λp=>Oz (ë N p))/\(∀(i:Nat) t k v,ps[i]?=Xb t->kvs[i]?=Xb (k,v)->H t=Xb (.tup [kV k,v]))/\∀p∈ds,∃pp,(Oz (ë N p),V.ref pp)∈kvs/\X pp=Xb (.lst (sS (Ē N p)))
 |_,_,.nil=>{[],[],rfl,rfl,rfl,(λi t k v h=>by simp at h),(λp m=>by cases m)}
 |_,_,.cons (b:=y) (a:=p) h r=>by
  obtain⟨t,pp,rfl,h1,h2⟩:=h;obtain⟨ps,kvs,e1,e2,e3,e4,e5⟩:=E5 r;refine{t::ps,(Oz (ë N p),V.ref pp)::kvs,by rw[e1];rfl,by simp[e2],by rw[Ox,Ox,e3],λi t' k v ht hk=>?_,λq hq=>?_}
  ·cases i with
   |zero=>cases ht;cases hk;exact h1
   |succ i=>exact e4 i t' k v ht hk
  rcases Ob.mp hq with rfl|hq
  ·exact⟨pp,N9,h2⟩
  obtain⟨pp',m,z⟩:=e5 q hq;exact{pp',N8 _ m,z}
theorem BJ{kvs:List (Key×V)}{k:Key}{v:V}(nd:(kvs.map (·.1)).Nodup)(m:(k,v)∈kvs):L2.cK kvs k=Xb v:=by
 obtain⟨i,hi⟩:=Qi m;exact xy nd hi
theorem IJ{ds:List Pt}(nn:(ds.map (ë N)).Nodup){p:Pt}(m:p∈ds):ô N ds (ë N p)=Ē N p:=by
 have:ds.find? (λq=>decide (ë N q=ë N p))=Xb p:=by
  induction ds with
  |nil=>cases m
  |cons q r ih=>
   rw[Ox,OO]at nn;rw[OK];by_cases e:ë N q=ë N p
   ·rw[decide_eq_true e];rcases Ob.mp m with z|z
    ·rw[z]
    exact absurd (e▸OJ z) nn.1
   rw[decide_eq_false e];rcases Ob.mp m with z|z
   ·exact absurd (by rw[z]) e
   exact ih nn.2 z
 unfold ô;rw[this]
inductive Ci(A:Ï)(d:Nat)(vs:List V)(H:Hp)(Q:VK)(Ã:XK):Prop
 |mk(N:Nat->Str)(X:Hp)(v:V)(D:Q1)(t:Pt)(idx:List Nat)(kn:Nat->Option Int)(z0:vs=[v,.ref D])(z1:aq X H)(z2:aJ A N X v t)(z3:0<=t.no/\t.no<=1000)(z4:dep t<=d)(z5:ß idx t)(z6:lj N H D idx λi=>oI (kn i))
  (z7:∀(R:Q1)(ys:List V)(H':Hp),aq H H'->H R=Xc->H' R=Xb (.lst ys)->Ę H' (tE kn t) ys->Q (.ref R) H'):Ci A d vs H Q Ã
theorem Ld(T:Txt K mg A)(d:Nat):T.pL.Hz P w base (3*d+8) (Ci A d):=by
 refine T.pL.hs (k:=3*d+7) oV (λf Ä A' outer s H vs Q E' hr hu h=>?_);obtain⟨N,X,v,D,t,idx,kn,rfl,s0,pa,nt,dp,ck,hD,q⟩:=h;refine⟨_,(af (Æ 2 oV.nd (aj (hj:=by lia) (oA T) hr (aw (fv 0) rfl^ae)))
  (af (aN (PW.pt (pw_or (aZ (Ó aK T.az (fv 0^aS T.cy.mg^ae)) (λ_=>rfl)) (pw_or1 (aZ (Ó aK T.az (fv 0^aS T.bQ.mg^ae)) (λ_=>rfl)))))
   (ai (aA (aU (bE (yg T.sY^fv 2^ay^aw (fv 0) rfl^ae)^ae))))
   aG)
  (af (aN (PW.pt (pw_and (PW.pt (pw_or (aZ (Ó aK T.az (fv 0^aS T.aQ.mg^ae)) (λ_=>rfl)) (pw_or1 (aZ (Ó aK T.az (fv 0^aS T.aI.mg^ae)) (λ_=>rfl))))) (pw_and1 (ua (aZ (aj (hj:=by lia) (Jm T d) hr (fv 0^fv 1^ae)) (λ_=>rfl))))))
   (ai (aA (aU (bE (fv 2^yg T.sY^ay^aw (fv 0) rfl^ae)^ae))))
   aG)
  (ai (aA (aU ae)))))),?_⟩
 refine ao λM1 K1=>dB T s0 pa {_,rfl,nt.1,nt.2,K1 _ _ ?_};clear K1 M1;rfl'
 refine ao λM1 K1=>?_;have sd:A8 t=true->4<=sizeLine/\∀p,H p=Xc->1<=sizeLine/\∀l,upd H p (.tup [V.str "the clock",V.str (a9 t.no),V.str "steps",V.int t.no]) l=Xc->Q (.ref l) (upd (upd H p (.tup [V.str "the clock",V.str (a9 t.no),V.str "steps",V.int t.no])) l (.lst [V.ref p])):=λz=>by
  refine{∅,λp hp=>{∅,λl hl=>?_}};have s1:=aq.upd hp (HO.tup [V.str "the clock",V.str (a9 t.no),V.str "steps",V.int t.no]);have s2:=aq.upd hl (HO.lst [V.ref p]);refine q l [V.ref p] _ (s1.trans s2) (aq.free s1 hl) av ?_;unfold tE;rw[if_pos z];exact .cons {p,rfl,s2 _ _ av} .nil
 have no:A8 t=false->M1 [Xb v,Xb (.ref D),Xb (.str (a9 t.no))] H:=λz=>K1 _ _ (by
  clear K1 M1 sd;rfl'
  refine ao λM1 K1=>?_;have un:zX t=true->(ð kn t).isSome=false->4<=sizeLine/\∀p,H p=Xc->1<=sizeLine/\∀l,upd H p (.tup [V.str (a9 t.no),V.str "the clock",V.str "steps",V.int t.no]) l=Xc->Q (.ref l) (upd (upd H p (.tup [V.str (a9 t.no),V.str "the clock",V.str "steps",V.int t.no])) l (.lst [V.ref p])):=λy ex=>by
   refine{∅,λp hp=>{∅,λl hl=>?_}};have s1:=aq.upd hp (HO.tup [V.str (a9 t.no),V.str "the clock",V.str "steps",V.int t.no]);have s2:=aq.upd hl (HO.lst [V.ref p]);refine q l [V.ref p] _ (s1.trans s2) (aq.free s1 hl) av ?_;unfold tE;rw[z,if_neg Of,if_pos ⟨y,ex⟩];exact .cons {p,rfl,s2 _ _ av} .nil
  have nil:¬ (zX t=true/\(ð kn t).isSome=false)->M1 [Xb v,Xb (.ref D),Xb (.str (a9 t.no))] H:=λy=>K1 _ _ (by
   refine{Oj _,λR hR=>q R [] _ (aq.upd hR _) hR av ?_};unfold tE;rw[z,if_neg Of,if_neg y];exact .nil)
  have bal:∀b,b=(ð kn t).isSome->zX t=true->(b=true->M1 [Xb v,Xb (.ref D),Xb (.str (a9 t.no))] H)/\(b=false->4<=sizeLine/\∀p,H p=Xc->1<=sizeLine/\∀l,upd H p (.tup [V.str (a9 t.no),V.str "the clock",V.str "steps",V.int t.no]) l=Xc->Q (.ref l) (upd (upd H p (.tup [V.str (a9 t.no),V.str "the clock",V.str "steps",V.int t.no])) l (.lst [V.ref p]))):=λb eb y=>{λz=>nil λw=>(by rw[<-eb,z]at w;cases w.2),λz=>un y (by rw[<-eb,z])};clear K1;by_cases è:t.ci=11
  ·have b:=bal _ rfl (by unfold zX;rw[decide_eq_true è];rfl);refine dA T s0 pa è (bp {N,X,v,D,t,idx,kn,rfl,s0,pa,dp,ck,hD,_,rfl,?_});cases e:(ð kn t).isSome with
   |true=>exact aT (b.1 e)
   |false=>exact bp (dB T s0 pa (b.2 e))
  by_cases ê:t.ci=12
  ·have b:=bal _ rfl (by unfold zX;rw[decide_eq_true ê,decide_eq_false è];rfl);refine bN T s0 pa è (aT (dA T s0 pa ê (bp {N,X,v,D,t,idx,kn,rfl,s0,pa,dp,ck,hD,_,rfl,?_})));cases e:(ð kn t).isSome with
   |true=>exact aT (b.1 e)
   |false=>exact bp (dB T s0 pa (b.2 e))
  exact bN T s0 pa è (aT (bN T s0 pa ê (aT (nil λw=>by
   have w:=w.1;unfold zX at w;rw[decide_eq_false è,decide_eq_false ê]at w;cases w)))))
 clear K1;by_cases c7:t.ci=7
 ·exact dA T s0 pa c7 (bp (dB T s0 pa (sd (by unfold A8;rw[decide_eq_true c7];rfl))))
 by_cases c8:t.ci=8
 ·exact bN T s0 pa c7 (aT (dA T s0 pa c8 (bp (dB T s0 pa (sd (by unfold A8;rw[decide_eq_true c8,decide_eq_false c7];rfl))))))
 exact bN T s0 pa c7 (aT (bN T s0 pa c8 (aT (no (by unfold A8;rw[decide_eq_false c7,decide_eq_false c8];rfl)))))
inductive zW(A:Ï)(d:Nat)(vs:List V)(H:Hp)(Q:VK)(Ã:XK):Prop
 |mk(N:Nat->Str)(X:Hp)(v:V)(b:Bool)(hs ds ms:List Pt)(z0:vs=[v,.bl b])(z1:aq X H)(z2:jx A N X v hs ds ms)(z3:OkL N d hs ds ms)
  (z4:∀(R:Q1)(ys:List V)(H':Hp),aq H H'->H R=Xc->H' R=Xb (.lst ys)->Ę H' (cF N b ds ms) ys->Q (.ref R) H'):zW A d vs H Q Ã
theorem Hw(T:Txt K mg A)(d:Nat):T.links.Hz P w base (3*d+9) (zW A d):=by
 refine T.links.hs (k:=3*d+8) jf (λf Ä A' outer s H vs Q E' hr hu h=>?_);obtain⟨N,X,v,b,hs,ds,ms,rfl,s0,pg,O,q⟩:=h;obtain⟨a,dx,n0,n1,n2,x0,x1,x2,rfl,ha,e0,e1,e2,p0,p1,p2⟩:=id pg;have pn:∀i p,ds[i]?=Xb p->∀v,x1[i]?=Xb v->aJ A N X v p:=λi p hp v hv=>by
  obtain⟨t,ht,pa⟩:=p1.get hv;rw[hp]at ht;cases ht;exact pa
 refine⟨_,(af (Æ 2 jf.nd (Ĵ p9 T.ng ((dF (N:=["deed"]) (own:=1) (fr:=[]) (b4.of (by kernel_rfl!)) rfl (br (aw (fv 0) rfl)) (λb=>Õ (i:=0) (show Rr (["deed"]:List RF) by decide+kernel) rfl) (λb=>fP) (λb=>bE (aw (fv 0) rfl^aw (fv 0) rfl^ae)))^ae)))
  (af (Æ 3 jf.nd (aj (hj:=by lia) (yG T d) hr (fv 0^ae)))
  (af (Æ 4 jf.nd (aU ae))
  (af (b6 Rg rfl (br (aj (hj:=by lia) (xN T d) hr (fv 0^ae))) (kg rfl (bB (Õ (i:=5) jf.nd rfl) (bB (Õ (i:=6) jf.nd rfl) (bB (Õ (i:=7) jf.nd rfl) gC))))
   (af (aW (gO (fv 4) ((aj (hj:=by lia) (Lo T) hr (fv 5^fv 6^fv 7^fv 2^ae))^ae)))
   (ai (aN (aZ (fv 1) (λ_=>rfl))
    (ai (aW (gO (fv 4) ((aj (hj:=by lia) (Ld T d) hr (fv 5^fv 3^ae))^ae))))
    aG))))
  (ai (aA (fv 4))))))),?_⟩
 have lx:=p1.len;have dln:=O.dk.ln;refine ao λM1 K1=>Å (s0 _ _ ha) T.bF.cl T.bw rfl (N6 {{_,À.of (s0 _ _ e1)},dO (K:=K) (own:=1) ds (λ_=>true) (PoE N X) (À.of (s0 _ _ e1)) lx (aH ()) ?_ ?_ ?_ ?_})
 ·intro b i x p v0 H1 Nn Y hx he hv s1 no yes;obtain⟨u0,rfl⟩:∃u0,v0=[u0]:=by
   match v0,hv with
   | [u],_=>exact⟨u,rfl⟩
  have pa:=pn i p he x hx;have dt:=O.dk.aX p (Oe he);cases p with
  |aX n i' ps b'=>
   unfold aJ at pa;obtain⟨a',Ϟ,pp,pb,xb,rfl,h1,h2,h3,h4⟩:=pa;have sX:=s0.trans s1;exact Å (sX _ _ h1) T.bh.cl T.bR rfl (Å (sX _ _ h1) T.bh.cl T.eG rfl {by show 2<=sizeLine;decide,λtp ü=>yes rfl [Xb (.ref a')] _ _ rfl (aq.upd ü _) {tp,pp,rfl,av,by rw[h2];simp[sS,Ē,nV,VT]}})
  |_=>exact dt.elim
 ·rintro e y H1 H2 s1 ⟨t,pp,e1,h1,h2⟩;exact{t,pp,e1,s1 _ _ h1,h2}
 ·rintro e y H1 D ys zs hD ⟨t,pp,e1,h1,h2⟩;exact{t,pp,e1,aF (λz=>by rw[z,hD]at h1;cases h1) h1,h2}
 intro L1 H1 ys Δ s1 ŷ pr;rw[dq]at pr;obtain⟨ps,kvs,rfl,k2,k3,k4,k5'⟩:=E5 pr;have kl:kvs.length=ds.length:=by
  have:=congrArg Ta k3;simpa using this
 have knd:(kvs.map (·.1)).Nodup:=by
  rw[k3];have h:=O.nn;unfold Rr at h⊢;rw[Px]at h⊢;exact h.imp λn e=>n (Oz.inj e)
 refine{L1,ps,kvs,rfl,À.of ŷ,k2,(),λi t k v ht hk=>É.of (k4 i t k v ht hk),λD hD=>?_};obtain⟨s2,eD⟩:=Ò hD (HO.dK (bL [] kvs));generalize upd H1 D _=H2 at s2 eD⊢;rw[mW kvs [] (by simpa using knd),O6]at eD;have PO:EA X H2 D (ô N ds) (ds.map (ë N)):=by
  refine{kvs,eD,λx hx=>?_};obtain⟨p,mp,rfl⟩:=Oq.mp hx;rw[IJ O.nn mp];obtain⟨pp,m,z⟩:=k5' p mp;exact⟨O.pn p mp,pp,BJ knd m,z⟩
 have t2:=s1.trans s2;refine K1 _ _ ?_;clear K1 M1;rfl'
 refine ao λM1 K1=>{N,X,.ref a,hs,ds,ms,rfl,s0.trans t2,pg,O.dk,λD2 H3 s3 hD2 kD2=>K1 _ _ ?_};clear K1 M1;rfl'
 refine ao λM1 K1=>{Oj _,λF hF=>?_};obtain⟨s4,eF⟩:=Ò hF (HO.lst []);generalize upd H3 F _=H4 at s4 eF⊢;have t4:=(t2.trans s3).trans s4;have hF0:H F=Xc:=aq.free (t2.trans s3) hF;have eD4:=s4 _ _ (s3 _ _ eD);have FD:F≠D:=Xd hF (s3 _ _ eD);refine K1 _ _ ?_;clear K1 M1;rfl'
 refine ao λM1 K1=>{N,X,.ref a,hs,ds,ms,rfl,s0.trans t4,pg,O.ok,λL zs H5 s5 hL eL ly=>?_};have LF:L≠F:=Xd hL eF;have nb:=O.ok.nb;have ok5:=O.k5;have okc:=O.cal;have okl:=O.lo;have oll:=O.ll b;have ock:=O.ck;unfold cF at oll q;generalize bj N ds ms=es at ly nb ok5 okc okl oll ock q;have ů:=Q7 ly;refine N6 {{_,À.of eL},bP (K:=K) (xs:=zs) (λi B Hd=>∃(ws:List V)(v5 v6 v7:Option V),B=[Xb (.ref a),Xb (.bl b),Xb (.ref D),Xb (.ref D2),Xb (.ref F),v5,v6,v7]/\Sm [F] H5 Hd/\Hd F=Xb (.lst ws)/\Ę Hd ((es.take i).flatMap (qG N b ds)) ws) {[],Xc,Xc,Xc,rfl,Sm.refl _ _,s5 _ _ eF,.nil} (λi B Hd _ ⟨_,_,_,_,_,z,_⟩=>À.of (z _ _ (λm=>LF (N4.mp m)) eL)) ?_ ?_}
 ·rintro i y B Hd hy ⟨ws,v5,v6,v7,rfl,sd,hFd,lw⟩;obtain⟨e,he,tp,v,rfl,ł,pa⟩:=bW ly hy;have ŵ:=sd _ _ (λm=>by rw[N4.mp m,s5 _ _ eF]at ł;cases ł) ł;have sX:aq X Hd:=sd.same ((s0.trans t4).trans s5) (λm hm=>by
   rw[N4.mp hm];exact aq.free s0 hF0)
  have me:=Oe he;have ne:=nb e me;have eDd:Hd D=Xb (.dK kvs):=sd _ _ (λm=>FD (N4.mp m).symm) (s5 _ _ eD4);have st:=qI (qG N b ds) he;have sl:=Gv (qG N b ds) he;have llw:=Q7 lw;have kDd:lj N Hd D2 (ds.map ç) λi=>oI (È bJ Xc ds i):=by
   obtain⟨kw,k1,k2⟩:=kD2;exact{kw,sd _ _ (λm=>by rw[N4.mp m]at k1;rw[k1]at hF;cases hF) ((s4.trans s5) _ _ k1),k2}
  have slB:(qG N b ds e).length=(oF N (ô N ds) e.1 e.2.1 e.2.2).length+(IV b (È bJ Xc ds) e.1).length:=N7;rfl'
  refine{tp,_,rfl,É.of ŵ,rfl,_,_,rfl,_,_,rfl,_,_,rfl,rfl,ao λN1 J1=>{N6 {rfl,_,À.of hFd},N,X,v,e.1,e.2.1,e.2.2,D,ô N ds,ds.map (ë N),rfl,sX,pa,ok5 e me,ne,okl e me,PO.same (λĞ h=>by rw[eD]at h;cases h;exact eDd),okc e me,λR2 us He s6 υ Ļ l6=>?_}};have lu:=Q7 l6;refine{_,_,_,_,rfl,rfl,s6 _ _ hFd,Ļ,sz (),J1 _ _ ?_};clear J1 N1;have sd1:=(sd.trans (Sm.new s6)).trans (Sm.at (H:=He) (N4.mpr rfl) (.lst (ws++us)));have hF1:upd He F (.lst (ws++us)) F=Xb (.lst (ws++us)):=av;have lw1:=pY (H:=H) (R2:=R2) s6 hFd lw l6;have kD1:lj N (upd He F (.lst (ws++us))) D2 (ds.map ç) λi=>oI (È bJ Xc ds i):=by
   obtain⟨kw,k1,k2⟩:=kDd;exact{kw,aF (λz=>by rw[z,hFd]at k1;cases k1) (s6 _ _ k1),k2}
  generalize upd He F (.lst (ws++us))=H6 at sd1 hF1 lw1 kD1⊢;have ζ:aq X H6:=sd1.same ((s0.trans t4).trans s5) (λm hm=>by
   rw[N4.mp hm];exact aq.free s0 hF0)
  obtain⟨oc1,oc2⟩:=ock e me;cases b with
  |false=>
   refine{_,rfl,aT {_,_,_,_,rfl,sd1,hF1,?_}};rw[st,show qG N false ds e=oF N (ô N ds) e.1 e.2.1 e.2.2 from OF _];exact lw1
  |true=>
   refine{_,rfl,bp {N6 {rfl,_,À.of hF1},N,X,v,D2,e.1,ds.map ç,È bJ Xc ds,rfl,ζ,pa,ne,oc2,oc1,kD1,λR3 u3 H7 s7 hR3 eR3 l7=>?_}};have lu3:=Q7 l7;have slB':(IV true (È bJ Xc ds) e.1).length=(tE (È bJ Xc ds) e.1).length:=rfl;refine{_,_,_,_,rfl,rfl,s7 _ _ hF1,eR3,sz (by rw[N7];lia),{_,_,_,_,rfl,(sd1.trans (Sm.new s7)).trans (Sm.at (N4.mpr rfl) _),av,?_}};rw[st,show qG N true ds e=oF N (ô N ds) e.1 e.2.1 e.2.2++tE (È bJ Xc ds) e.1 from rfl,<-OV];exact pY (H:=H) (R2:=R3) s7 hF1 lw1 l7
 rintro B Hd ⟨ws,v5,v6,v7,rfl,sd,hFd,lw⟩;rw[show es.take zs.length=es by rw[<-ů];exact Ov]at lw;exact K1 _ _ (q F ws Hd (sd.same (t4.trans s5) (λm hm=>by rw[N4.mp hm];exact hF0)) hF0 hFd lw)
def tS(t:Pt):Bool:=decide (t.ci=2)||decide (t.ci=4)
def sOf(N:Nat->Str):Pt->Str×Int
 | .leaf _ (.ĺ i r _)=>(N i,r)
 | .leaf _ (.lt i r)=>(N i,r)
 |_=>(RE,0)
def jj(N:Nat->Str)(hs:List Pt):List (Str×Int):=(hs.filter tS).map (sOf N)
def SrE(s:Str×Int)(y:V)(H:Hp):Prop:=∃t,y=V.ref t/\H t=Xb (.tup [.str s.1,.int s.2])
theorem Ky(T:Txt K mg A){X H:Hp}(s:aq X H){v:V}{t:Pt}(h:aJ A N X v t)(e:tS t=true){Q Q2:VK}(q:(∀{R:VK},R (.int (sOf N t).2) H->pO K "rank" v H R)->Q (.str (sOf N t).1) H):pO K "name" v H Q:=by
 cases t with
 |leaf n r=>
  unfold aJ at h;obtain⟨a,dx,p,rfl,h1,h2⟩:=h;cases r with
  |ĺ i _ _=>exact Å (s _ _ h1) T.bI.cl T.eJ rfl (q λr=>Å (s _ _ h1) T.bI.cl T.fJ rfl r)
  |lt i _=>exact Å (s _ _ h1) T.dj.cl T.fA rfl (q λr=>Å (s _ _ h1) T.dj.cl T.gG rfl r)
  |_=>cases e
 |_=>cases e
inductive uw(A:Ï)(vs:List V)(H:Hp)(Q:VK)(Ã:XK):Prop
 |mk(N:Nat->Str)(X:Hp)(v:V)(hs ds ms:List Pt)(z0:vs=[v])(z1:aq X H)(z2:jx A N X v hs ds ms)(z3:hs.length<=300)
  (z4:∀(R:Q1)(ys:List V)(H':Hp),aq H H'->H R=Xc->H' R=Xb (.lst ys)->Paired (λs y=>SrE s y H') (jj N hs) ys->Q (.ref R) H'):uw A vs H Q Ã
theorem wB(T:Txt K mg A):T.sources.Hz P w base 1 (uw A):=by
 refine T.sources.hs Au (λf Ä A' outer s H vs Q E' hr hu h=>?_);obtain⟨N,X,v,hs,ds,ms,rfl,s0,⟨a,dx,n0,n1,n2,x0,x1,x2,rfl,ha,e0,e1,e2,p0,p1,p2⟩,hl,q⟩:=h;refine{_,(ai (aA (dF (N:=["head"]) (own:=1) (fr:=[]) (b4.of (by kernel_rfl!)) rfl (br (aw (fv 0) rfl)) (λb=>Õ (i:=0) (show Rr (["head"]:List RF) by decide+kernel) rfl) (λb=>wR (PW.pt (pw_or (aZ (Ó aK T.az (fv 0^aS T.bI.mg^ae)) (λ_=>rfl)) (pw_or1 (aZ (Ó aK T.az (fv 0^aS T.dj.mg^ae)) (λ_=>rfl)))))) (λb=>bE (aw (fv 0) rfl^aw (fv 0) rfl^ae))))),Å (s0 _ _ ha) T.bF.cl T.eI rfl (N6 {{_,À.of (s0 _ _ e0)},dO (K:=K) (own:=1) hs tS (λt y H=>SrE (sOf N t) y H) (À.of (s0 _ _ e0)) p0.len (aH (by rw[p0.len];lia)) ?_ ?_ ?_ ?_})}
 ·intro b i x t v0 H1 Nn Y hx he hv s1 no yes;obtain⟨u0,rfl⟩:∃u0,v0=[u0]:=by
   match v0,hv with
   | [u],_=>exact⟨u,rfl⟩
  obtain⟨t',ht,pa⟩:=p0.get hx;rw[he]at ht;cases ht;have sX:=s0.trans s1;have go:tS t=true->pO K "name" x H1 λv1 H2=>pO K "rank" x H2 λv2 H3=>2<=sizeLine/\∀p,H3 p=Xc->Y [Xb x] (.ref p) (upd H3 p (.tup [v1,v2])):=λe=>by
   exact Ky T sX pa e (Q2:=Q) λrk=>rk {∅,λtp ü=>yes e [Xb x] _ _ rfl (aq.upd ü _) ⟨tp,rfl,av⟩}
  by_cases c2:t.ci=2
  ·exact dA T sX pa c2 (bp (bp (go (by unfold tS;rw[decide_eq_true c2];rfl))))
  by_cases c4:t.ci=4
  ·exact bN T sX pa c2 (aT (dA T sX pa c4 (bp (go (by unfold tS;rw[decide_eq_true c4,Bool.or_true])))))
  exact bN T sX pa c2 (aT (bN T sX pa c4 (aT (no (by unfold tS;rw[decide_eq_false c2,decide_eq_false c4];rfl) [Xb x] _ rfl (aq.refl _)))))
 ·rintro e y H1 H2 s1 ⟨t,e1,h1⟩;exact{t,e1,s1 _ _ h1}
 ·rintro e y H1 D ys zs hD ⟨t,e1,h1⟩;exact{t,e1,aF (λz=>by rw[z,hD]at h1;cases h1) h1}
 intro R H1 ys hR s1 e1 pr;exact q R ys H1 s1 hR e1 (eE _ pr)
def Xl(N:Nat->Str)(hs:List Pt)(rk:Int):List Str:=((jj N hs).filter λs=>decide (s.2=rk)).map (·.1)
theorem Cy{α:Type}{f:α->Str}{src:List α}:∀{ys:List V},Paired (λt y=>y=V.str (f t)) src ys->ys=sS (src.map f)
 |_,.nil=>rfl
 |_,.cons h r=>by rw[h,Cy r];rfl
inductive ij(A:Ï)(vs:List V)(H:Hp)(Q:VK)(Ã:XK):Prop
 |mk(N:Nat->Str)(X:Hp)(v:V)(rk:Int)(hs ds ms:List Pt)(z0:vs=[v,.int rk])(z1:aq X H)(z2:jx A N X v hs ds ms)(z3:hs.length<=300)
  (z4:∀(R:Q1)(H':Hp),aq H H'->H R=Xc->H' R=Xb (.lst (sS (Xl N hs rk)))->Q (.ref R) H'):ij A vs H Q Ã
theorem zZ(T:Txt K mg A):T.pF.Hz P w base 2 (ij A):=by
 refine T.pF.hs (k:=1) vh (λf Ä A' outer s H vs Q E' hr hu h=>?_);obtain⟨N,X,v,rk,hs,ds,ms,rfl,s0,pg,hl,q⟩:=h;refine{_,(ai (aA (dF (N:=["place","its_rank","rank"]) (own:=2) (fr:=[1]) (b4.of (by kernel_rfl!)) rfl (br (aj (wB T) hr (fv 0^ae))) (λb=>kg rfl (bB (Õ (i:=0) (show Rr (["place","its_rank","rank"]:List RF) by decide+kernel) rfl) (bB (Õ (i:=1) (show Rr (["place","its_rank","rank"]:List RF) by decide+kernel) rfl) gC))) (λb=>wR (Ð (b8 hu) (fv 1) (fv 2))) (λb=>fv 0)))),{N,X,v,hs,ds,ms,rfl,s0,pg,hl,λL ys H1 s1 hL eL pr=>?_}};have ln:=Q7 pr;have l2:(jj N hs).length<=hs.length:=by
  unfold jj;rw[N3];exact OM _ _
 refine N6 {{_,À.of eL},dO (K:=K) (own:=2) (jj N hs) (λs=>decide (s.2=rk)) (λs y _=>y=.str s.1) (À.of eL) ln.symm (aH ()) ?_ (λ_ _ _ _ _ h=>h) (λ_ _ _ _ _ _ _ h=>h) ?_}
 ·intro b i x t v0 H2 Nn Y hx he hv s2 no yes;obtain⟨u0,u1,rfl⟩:∃u0 u1,v0=[u0,u1]:=by
   match v0,hv with
   | [u,u'],_=>exact⟨u,u',rfl⟩
  obtain⟨t',ht,tp,rfl,ł⟩:=bW pr hx;rw[he]at ht;cases ht;refine{tp,_,rfl,É.of (s2 _ _ ł),rfl,_,_,rfl,_,_,rfl,rfl,{rfl,_,rfl,a8 (λc=>?_) (λc=>?_)}}
  ·have e:t.2=rk:=V.int.inj (of_decide_eq_true c);exact yes (decide_eq_true e) [Xb (.str t.1),Xb (.int t.2)] _ _ rfl (aq.refl _) rfl
  have e:¬ t.2=rk:=λz=>c (decide_eq_true (by rw[z]));exact no (decide_eq_false e) [Xb (.str t.1),Xb (.int t.2)] _ rfl (aq.refl _)
 intro R H2 zs hR s2 e2 pz;refine q R H2 (s1.trans s2) (aq.free s1 hR) ?_;rw[e2,Cy pz];rfl
def ku(ls:List Lk)(x:Str):List Lk:=ls.filter λl=>decide (l.fr=x)
structure gi(H:Hp)(W:Q1)(kvs:List (Key×V))(pls:List Str)(wa:Str->Q1)(ls:List Lk):Prop where
 d:H W=Xb (.dK kvs)
 v:∀x∈pls,L2.cK kvs (.inr x)=Xb (.ref (wa x))
 i:∀x∈pls,∀y∈pls,wa x=wa y->x=y
 l:∀x∈pls,∃ys,H (wa x)=Xb (.lst ys)/\Ę H (ku ls x) ys
theorem gi.same{H H':Hp}{W:Q1}{kvs:List (Key×V)}{pls:List Str}{wa:Str->Q1}{ls:List Lk}(h:gi H W kvs pls wa ls)(s:aq H H'):gi H' W kvs pls wa ls:=
 ⟨s _ _ h.d,h.v,h.i,λx hx=>by
  obtain⟨ys,e,l⟩:=h.l x hx;exact{ys,s _ _ e,l.same λ_ _ z=>s _ _ z}⟩
theorem gi.push{H:Hp}{W:Q1}{kvs:List (Key×V)}{pls:List Str}{wa:Str->Q1}{ls:List Lk}(h:gi H W kvs pls wa ls){l:Lk}{t:Q1}(ht:H t=Xb (.tup l.vs))(hl:l.fr∈pls){ys:List V}(e:H (wa l.fr)=Xb (.lst ys))(pr:Ę H (ku ls l.fr) ys) :
  gi (upd H (wa l.fr) (.lst (ys++[.ref t]))) W kvs pls wa (ls++[l]):=by
 have kp:∀x w,H x=Xb (.tup w)->upd H (wa l.fr) (.lst (ys++[.ref t])) x=Xb (.tup w):=λx w z=>aF (λy=>by rw[y,e]at z;cases z) z
 refine{aF (λz=>by have:=h.d;rw[z,e]at this;cases this) h.d,h.v,h.i,λx hx=>?_}
 by_cases c:x=l.fr
 ·subst c;refine{_,av,?_};have:ku (ls++[l]) l.fr=ku ls l.fr++[l]:=by
   unfold ku;rw[O0,P7 (by exact decide_eq_true rfl),Pg]
  rw[this];exact Paired.two (pr.same kp) (.cons {t,rfl,kp _ _ ht} .nil)
 obtain⟨zs,e2,p2⟩:=h.l x hx
 have:ku (ls++[l]) x=ku ls x:=by
  unfold ku;rw[O0,P6 (by simp;exact λz=>c z.symm),Pg,OF]
 rw[this]
 exact{zs,aF (λz=>c (h.i x hx _ hl z)) e2,p2.same kp}
structure WyP(G:Hp)(pls:List Str)(D:Q1)(i:Nat)(ys:List V)(H:Hp)(ls:List Q1):Prop where
 n:ls.length=i
 m:ys.length=i
 nd:ls.Nodup
 nD:D∉ls
 e:∀l∈ls,H l=Xb (.lst [])
 f:∀l∈ls,G l=Xc
 t:∀(j:Nat) y x l,ys[j]?=Xb y->pls[j]?=Xb x->ls[j]?=Xb l->∃t,y=V.ref t/\H t=Xb (.tup [.str x,.ref l])
theorem D1{H:Hp}:∀{pls:List Str}{ls:List Q1}{ys:List V},ls.length=pls.length->ys.length=pls.length->(∀(j:Nat) y x l,ys[j]?=Xb y->pls[j]?=Xb x->ls[j]?=Xb l->∃t,y=V.ref t/\H t=Xb (.tup [.str x,.ref l]))->
  ∃ps:List Q1,ys=ps.map V.ref/\ps.length=pls.length/\∀(i:Nat) t k v,ps[i]?=Xb t->((pls.zip ls).map λxl=>((Oz xl.1:Key),V.ref xl.2))[i]?=Xb (k,v)->H t=Xb (.tup [kV k,v])
 | [],ls,ys,h1,h2,h3=>by
  cases ys with
  |nil=>exact{[],rfl,rfl,λi t k v h=>by simp at h}
  |cons y r=>cases h2
 |x::pls,l::ls,y::ys,h1,h2,h3=>by
  obtain⟨t,e,ht⟩:=h3 0 y x l rfl rfl rfl;obtain⟨ps,e1,e2,e3⟩:=D1 (pls:=pls) (ls:=ls) (ys:=ys) (by simpa using h1) (by simpa using h2) (λj y' x' l' a b c=>h3 (j+1) y' x' l' a b c);refine{t::ps,by rw[e,e1];rfl,by simp[e2],λi t' k v a b=>?_};cases i with
  |zero=>cases a;cases b;exact ht
  |succ i=>exact e3 i t' k v a b
 |x::pls,[],ys,h1,_,_=>by cases h1
 |x::pls,l::ls,[],_,h2,_=>by cases h2
theorem Xw{x y:Str}{l:Q1}:∀{pls:List Str}{ls:List Q1},ls.Nodup->(x,l)∈pls.zip ls->(y,l)∈pls.zip ls->x=y
 |p::pls,q::ls,nd,h1,h2=>by
  rw[OO]at nd;rw[List.zip_cons_cons,Ob]at h1 h2;rcases h1 with h1|h1<;>rcases h2 with h2|h2
  ·cases h1;cases h2;rfl
  ·cases h1;exact absurd (Pu h2).2 nd.1
  ·cases h2;exact absurd (Pu h1).2 nd.1
  exact Xw nd.2 h1 h2
 | [],_,_,h1,_=>by simp at h1
 |_::_,[],_,h1,_=>by simp at h1
def waO(kvs:List (Key×V))(x:Str):Q1:=match L2.cK kvs (.inr x)with
 |some (.ref l)=>l
 |_=>0
inductive Bx(A:Ï)(d:Nat)(vs:List V)(H:Hp)(Q:VK)(Ã:XK):Prop
 |mk(N:Nat->Str)(X:Hp)(v:V)(b:Bool)(hs ds ms:List Pt)(z0:vs=[v,.bl b])(z1:aq X H)(z2:jx A N X v hs ds ms)(z3:OkL N d hs ds ms)(z5:∀l∈cF N b ds ms,l.fr∈aV N hs ds ms)
  (z4:∀(W:Q1)(kvs:List (Key×V))(wa:Str->Q1)(H':Hp),aq H H'->gi H' W kvs (aV N hs ds ms) wa (cF N b ds ms)->Q (.ref W) H'):Bx A d vs H Q Ã
theorem Kc(T:Txt K mg A)(d:Nat):T.xj.Hz P w base (3*d+10) (Bx A d):=by
 refine T.xj.hs (k:=3*d+9) oY (λf Ä A' outer s H vs Q E' hr hu h=>?_);obtain⟨N,X,v,b,hs,ds,ms,rfl,s0,pg,O,frp,q⟩:=h;refine⟨_,(af (Æ 2 oY.nd (Ĵ p9 T.ng ((dF (N:=["place"]) (own:=1) (fr:=[]) (b4.of (by kernel_rfl!)) rfl (br (aj (hj:=by lia) (yJ T d) hr (fv 0^ae))) (λb=>Õ (i:=0) (show Rr (["place"]:List RF) by decide+kernel) rfl) (λb=>fP) (λb=>bE (fv 0^aU ae^ae)))^ae)))
  (af (b6 Rg rfl (br (aj (hj:=by lia) (Bb.has (Hw T d)) hr (fv 0^fv 1^ae))) (Õ (i:=3) oY.nd rfl)
   (ai (aW (bu (px hu (fv 2) (px hu (fv 3) ah)) (fv 3^ae)))))
  (ai (aA (fv 2))))),?_⟩
 have pln:=O.ok.pl;have pnd:=O.ok.nd;refine ao λM1 K1=>{N,X,v,hs,ds,ms,rfl,s0,pg,O.ok,λL1 H1 s1 Δ ŷ=>?_};generalize aV N hs ds ms=pls at ŷ pln pnd frp q;refine N6 {{_,À.of ŷ},pZ (K:=K) (own:=1) (λD i ys H=>∃ls,WyP H1 pls D i ys H ls) (À.of ŷ) (aH (by rw[N3];lia)) (λD hD=>{[],rfl,rfl,Qj,by simp,by simp,by simp,λj y x l h=>by simp at h}) ?_ ?_}
 ·rintro b D i x v0 Hc ys Nn Y hx hv hD sc eD ⟨ls,w⟩ no yes;obtain⟨u0,rfl⟩:∃u0,v0=[u0]:=by
   match v0,hv with
   | [u],_=>exact⟨u,rfl⟩
  refine show _/\∀p,Hc p=Xc->_ from{by show 0<=sizeLine;decide,λl hl=>?_};obtain⟨s2,el⟩:=Ò hl (HO.lst []);refine{by show 2<=sizeLine;decide,λtp ü=>?_};obtain⟨s3,et⟩:=Ò ü (HO.tup [x,.ref l]);refine yes [Xb x] _ _ rfl (s2.trans s3) {ls++[l],?_};have lD:l≠D:=Xd hl eD;have tD:tp≠D:=Xd ü (s2 _ _ eD);have lls:l∉ls:=λm=>by rw[w.e l m]at hl;cases hl
  rw[Oi]at hx;have tk:∀z u,Hc z=Xb u->z≠D->upd (upd (upd Hc l (.lst [])) tp (.tup [x,.ref l])) D (.lst (ys++[.ref tp])) z=Xb u:=λz u h n=>aF n (s3 _ _ (s2 _ _ h));refine{by simp[w.n],by simp[w.m],O5.mpr {w.nd,by simp,λa ma b mb e=>by rw[N4]at mb;exact lls (mb▸e▸ma)},λm=>?_,λa ma=>?_,λa ma=>?_,λj y x' l' hy Ϙ hl'=>?_}
  ·rcases Og.mp m with m|m
   ·exact w.nD m
   exact lD (N4.mp m).symm
  ·rcases Og.mp ma with m|m
   ·exact tk _ _ (w.e a m) (λz=>w.nD (z▸m))
   rw[N4.mp m];exact aF lD (s3 _ _ el)
  ·rcases Og.mp ma with m|m
   ·exact w.f a m
   rw[N4.mp m];exact aq.free sc hl
  by_cases jl:j<i
  ·rw[OR (by rw[w.m];exact jl)]at hy;rw[OR (by rw[w.n];exact jl)]at hl';obtain⟨t,e,ht⟩:=w.t j y x' l' hy Ϙ hl';exact{t,e,tk _ _ ht (λz=>by rw[z,eD]at ht;cases ht)}
  have ji:j=i:=by
   have:=(Ot.mp hy).1;rw[N7,w.m,OC]at this;lia
  subst ji;rw[Pb (by rw[w.m];exact Oc _),w.m,Nat.sub_self]at hy;rw[Pb (by rw[w.n];exact Oc _),w.n,Nat.sub_self]at hl';cases hy;cases hl';rw[Ϙ]at hx;cases hx;exact⟨tp,rfl,aF tD et⟩
 rintro D H2 ys hD s2 eD ⟨ls,w⟩;have wn:=w.n;have wm:=w.m;rw[N3]at wn wm;obtain⟨ps,rfl,k1,k2⟩:=D1 wn wm w.t;generalize Ķ:((pls.zip ls).map λxl=>((Oz xl.1:Key),V.ref xl.2))=kvs at k2;have kl:kvs.length=pls.length:=by rw[<-Ķ,N3,PD,wn,Nat.min_self]
 have kf:kvs.map (·.1)=pls.map Oz:=by
  rw[<-Ķ,OQ];show(pls.zip ls).map (λxl=>(Oz xl.1:Key))=_;rw[show(λxl:Str×Q1=>(Oz xl.1:Key))=Oz∘Prod.fst from rfl,<-OQ,List.map_fst_zip ()]
 have knd:(kvs.map (·.1)).Nodup:=by
  rw[kf];unfold Rr at pnd⊢;rw[Px];exact pnd.imp λn e=>n (Oz.inj e)
 refine{D,ps,kvs,rfl,À.of eD,(),(),λi t k v ht hk=>É.of (k2 i t k v ht hk),λW hW=>?_};obtain⟨s3,eW⟩:=Ò hW (HO.dK (bL [] kvs));generalize upd H2 W _=H3 at s3 eW⊢;rw[mW kvs [] (by simpa using knd),O6]at eW;have inj:∀x∈pls,∃l∈ls,L2.cK kvs (.inr x)=Xb (.ref l)/\(x,l)∈pls.zip ls:=λx hx=>by
  obtain⟨j,hj,e⟩:=Vb hx;have hl:j<ls.length:=()
  have m:(x,ls[j])∈pls.zip ls:=List.mem_iff_getElem.mpr {j,by rw[PD];lia,by rw[List.getElem_zip,e]};exact{ls[j],Qf hl,BJ knd (by rw[<-Ķ];exact Oq.mpr {(x,ls[j]),m,rfl}),m}
 have wv:∀x∈pls,L2.cK kvs (.inr x)=Xb (.ref (waO kvs x))/\(x,waO kvs x)∈pls.zip ls:=λx hx=>by
  obtain⟨l,ml,e,m⟩:=inj x hx;have:waO kvs x=l:=by unfold waO;rw[e]
  rw[this];exact⟨e,m⟩
 have wl:∀x∈pls,waO kvs x∈ls:=λx hx=>(Pu (wv x hx).2).2;have t3:=(s1.trans s2).trans s3;have W0:gi H3 W kvs pls (waO kvs) []:={eW,λx hx=>(wv x hx).1,λx hx y hy e=>Xw w.nd (wv x hx).2 (e▸(wv y hy).2),λx hx=>{[],s3 _ _ (w.e _ (wl x hx)),.nil}};generalize waO kvs=wa at wl W0;have wf:∀m∈pls.map wa,H m=Xc:=λm hm=>by
  obtain⟨x,hx,rfl⟩:=Oq.mp hm;exact aq.free s1 (w.f _ (wl x hx))
 refine K1 _ _ ?_;clear K1 M1;rfl'
 refine ao λM1 K1=>{N,X,v,b,hs,ds,ms,rfl,s0.trans t3,pg,O,λR zs H4 s4 hR eR lk=>?_};have W4:=W0.same s4;have nR:R∉pls.map wa:=λm=>by
  obtain⟨x,hx,rfl⟩:=Oq.mp m;obtain⟨ys,e,_⟩:=W0.l x hx;rw[hR]at e;cases e
 have nt:∀t u,H4 t=Xb (.tup u)->t∉pls.map wa:=λt u e m=>by
  obtain⟨x,hx,rfl⟩:=Oq.mp m;obtain⟨ys,e2,_⟩:=W4.l x hx;rw[e]at e2;cases e2
 have ll:=O.ll b;generalize cF N b ds ms=ks at lk frp ll q;have lln:=Q7 lk;refine N6 {{_,À.of eR},bP (K:=K) (xs:=zs) (λi B Hd=>∃(v3:Option V),B=[Xb v,Xb (.bl b),Xb (.ref W),v3]/\Sm (pls.map wa) H4 Hd/\gi Hd W kvs pls wa (ks.take i)) {Xc,rfl,Sm.refl _ _,W4} (λi B Hd _ ⟨_,_,z,_⟩=>À.of (z _ _ nR eR)) ?_ ?_}
 ·rintro i y B Hd hy ⟨v3,rfl,sd,Wd⟩;obtain⟨l,hl,t,rfl,et⟩:=bW lk hy;have ml:=Oe hl;have et':=sd _ _ (nt _ _ et) et;obtain⟨us,eu,pu⟩:=Wd.l _ (frp l ml);have lu:=Q7 pu;have lw:(ku (ks.take i) l.fr).length<=900:=by
   have:=OM (λm:Lk=>decide (m.fr=l.fr)) (ks.take i);rw[OH]at this;unfold ku;lia
  rfl'
  refine Ŭ (j:=0) (É.of et') rfl (æ Wd.d (Wd.v _ (frp l ml)) {N6 {rfl,_,À.of eu},{_,_,_,rfl,rfl,eu,aH (),{_,rfl,sd.trans (Sm.at (OJ (frp l ml)) _),?_}}});rw[OG,hl];exact Wd.push et' (frp l ml) eu pu
 rintro B Hd ⟨v3,rfl,sd,Wd⟩;rw[show ks.take zs.length=ks by rw[<-lln];exact Ov]at Wd;exact K1 _ _ (q W kvs wa Hd (sd.same (t3.trans s4) wf) Wd)
def ć(cs:List Str)(l:Lk):List Str:=if l.to∈cs then cs else cs++[l.to]
def ip(ls:List Lk):Nat->Nat->List Str->List Str
 |0,_,cs=>cs
 |n+1,i,cs=>match cs[i]? with
  |none=>cs
  |some x=>ip ls n (i+1) ((ku ls x).foldl ć cs)
theorem Iq(ls:List Lk)(n i:Nat)(cs:List Str)(h:cs.length<=i):ip ls n i cs=cs:=by
 cases n with
 |zero=>rfl
 |succ n=>
  unfold ip;rw[PM h]
theorem qb:∀{cs pls:List Str},cs.Nodup->(∀x∈cs,x∈pls)->cs.length<=pls.length
 | [],_,_,_=>Oj _
 |x::r,pls,nd,h=>by
  rw[OO]at nd;have m:=h x N9;have:=qb (cs:=r) (pls:=pls.erase x) nd.2 λy hy=>by
   rw[List.mem_erase_of_ne λ(e:y=x)=>nd.1 (e▸hy)];exact h y (N8 _ hy)
  rw[List.length_erase_of_mem m]at this;have:=List.length_pos_of_mem m;rw[OE];lia
theorem BN:∀(l:List Lk)(cs:List Str),cs.length<=(l.foldl ć cs).length
 | [],cs=>Oc _
 |k::l,cs=>by
  refine Ol ?_ (BN l (ć cs k));unfold ć;split
  ·exact Oc _
  simp
structure tH(H:Hp)(C Q:Q1)(pls cs:List Str)(kvs:List (Key×V)):Prop where
 c:H C=Xb (.dK kvs)
 k:kvs.map (·.1)=cs.map Oz
 q:H Q=Xb (.lst (sS cs))
 nd:cs.Nodup
 s:∀x∈cs,x∈pls
theorem tH.has{H:Hp}{C Q:Q1}{pls cs:List Str}{kvs:List (Key×V)}(h:tH H C Q pls cs kvs)(x:Str):(L2.cK kvs (.inr x)).isSome=decide (x∈cs):=by
 rw[<-iN,OW,Pq,decide_eq_true_iff];constructor
 ·rintro⟨kv,m,e⟩;have:kv.1∈cs.map Oz:=h.k▸OJ m;rw[of_decide_eq_true e]at this;obtain⟨y,my,ey⟩:=Oq.mp this;exact Oz.inj ey▸my
 intro m;have:(Oz x:Key)∈kvs.map (·.1):=by rw[h.k];exact OJ m
 obtain⟨kv,mk,e⟩:=Oq.mp this;exact⟨kv,mk,decide_eq_true e⟩
theorem tH.len{H:Hp}{C Q:Q1}{pls cs:List Str}{kvs:List (Key×V)}(h:tH H C Q pls cs kvs):kvs.length=cs.length/\cs.length<=pls.length:=by
 have:=congrArg Ta h.k;simp only[N3]at this;exact⟨this,qb h.nd h.s⟩
theorem tH.put{H:Hp}{C Q:Q1}{pls cs:List Str}{kvs:List (Key×V)}(h:tH H C Q pls cs kvs){x:Str}{v:V}(n:x∉cs)(hp:x∈pls):tH (upd (upd H C (.dK (Xi kvs (.inr x) v))) Q (.lst (sS cs++[.str x]))) C Q pls (cs++[x]) (kvs++[((Oz x:Key),v)]):=by
 have CQ:C≠Q:=λe=>by have:=h.c;rw[e,h.q]at this;cases this
 have hv:L2.cK kvs (.inr x)=Xc:=by
  have:=h.has x;rw[decide_eq_false n]at this;exact Option.isSome_eq_false_iff.mp this |> P0.mp
 refine{?_,by rw[OB,h.k,OB];rfl,?_,?_,λy hy=>?_}
 ·rw[aM CQ,av,Aa v hv]
 ·rw[av];simp[sS]
 ·exact O5.mpr {h.nd,by simp,λa ma b mb e=>by rw[N4]at mb;exact n (mb▸e▸ma)}
 rcases Og.mp hy with m|m
 ·exact h.s y m
 rw[N4.mp m];exact hp
inductive w8(A:Ï)(vs:List V)(H:Hp)(Q:VK)(Ã:XK):Prop
 |mk(W S:Q1)(kw:List (Key×V))(pls:List Str)(wa:Str->Q1)(ls:List Lk)(st:List Str)(z0:vs=[.ref W,.ref S])(z1:gi H W kw pls wa ls)(z2:H S=Xb (.lst (sS st)))(z3:st.Nodup)(z4:∀x∈st,x∈pls)(z5:∀l∈ls,l.to∈pls)(z6:pls.length<=900)
  (z7:∀(C:Q1)(kvs:List (Key×V))(H':Hp),aq H H'->H C=Xc->H' C=Xb (.dK kvs)->kvs.map (·.1)=(ip ls pls.length 0 st).map Oz->Q (.ref C) H'):w8 A vs H Q Ã
theorem BD{H:Hp}:∀{st:List Str}{ys:List V},Paired (λx y=>∃t,y=V.ref t/\H t=Xb (.tup [.str x,.Ê])) st ys->∃ps:List Q1,ys=ps.map V.ref/\ps.length=st.length/\∀(i:Nat) t k v,ps[i]?=Xb t->(st.map λx=>((Oz x:Key),V.Ê))[i]?=Xb (k,v)->H t=Xb (.tup [kV k,v])
 |_,_,.nil=>{[],rfl,rfl,(λi t k v h=>by simp at h)}
 |_,_,.cons h r=>by
  obtain⟨t,rfl,h1⟩:=h;obtain⟨ps,e1,e2,e3⟩:=BD r;refine{t::ps,by rw[e1];rfl,by simp[e2],λi t' k v ht hk=>?_};cases i with
  |zero=>cases ht;cases hk;exact h1
  |succ i=>exact e3 i t' k v ht hk
inductive CI(pls:List Str)(W:Q1)(S:Q1)(C:Q1)(Qa:Q1)(H3:Hp)(ls:List Lk)(st:List Str)(m:Nat)(B:St)(Hd:Hp):Prop
 |mk(i:Nat)(cs:List Str)(kvs:List (Key×V))(v5 v6:Option V):m=pls.length-i->B=[Xb (.ref W),Xb (.ref S),Xb (.ref C),Xb (.ref Qa),Xb (.int i),v5,v6]->Sm [C,Qa] H3 Hd->tH Hd C Qa pls cs kvs->i<=cs.length->ip ls (pls.length-i) i cs=ip ls pls.length 0 st->CI pls W S C Qa H3 ls st m B Hd
inductive CD(W:Q1)(S:Q1)(C:Q1)(Qa:Q1)(i:Nat)(H3:Hp)(pls:List Str)(ls:List Lk)(st:List Str)(B':St)(H':Hp):Prop
 |mk(Ō:List Str)(Ğ:List (Key×V))(v5 v6:Option V):B'=[Xb (.ref W),Xb (.ref S),Xb (.ref C),Xb (.ref Qa),Xb (.int ((i:Int)+1)),v5,v6]->Sm [C,Qa] H3 H'->tH H' C Qa pls Ō Ğ->i+1<=Ō.length->ip ls (pls.length-(i+1)) (i+1) Ō=ip ls pls.length 0 st->CD W S C Qa i H3 pls ls st B' H'
inductive Cj(W:Q1)(S:Q1)(C:Q1)(Qa:Q1)(i:Nat)(x:Str)(H3:Hp)(pls:List Str)(ls:List Lk)(cs:List Str)(j:Nat)(B:St)(He:Hp):Prop
 |mk(Ō:List Str)(Ğ:List (Key×V))(v6:Option V):B=[Xb (.ref W),Xb (.ref S),Xb (.ref C),Xb (.ref Qa),Xb (.int (i:Int)),Xb (.str x),v6]->Sm [C,Qa] H3 He->tH He C Qa pls Ō Ğ->Ō=((ku ls x).take j).foldl ć cs->Cj W S C Qa i x H3 pls ls cs j B He
theorem MD(T:Txt K mg A):T.u7.Hz P w base 1 (w8 A):=by
 refine T.u7.hs fg (λf Ä A' outer s H vs Q E' hr hu h=>?_);obtain⟨W,S,kw,pls,wa,ls,st,rfl,hW,hS,snd,ŭ,tos,pln,q⟩:=h;have stl:=qb snd ŭ;refine⟨_,(af (Æ 2 fg.nd (Ĵ p9 T.ng ((dF (N:=["place"]) (own:=1) (fr:=[]) (b4.of (by kernel_rfl!)) rfl (br (fv 1)) (λb=>Õ (i:=0) (show Rr (["place"]:List RF) by decide+kernel) rfl) (λb=>fP) (λb=>bE (fv 0^cU^ae)))^ae)))
  (af (Æ 3 fg.nd (Ĵ Cb T.fO (fv 1^ae)))
  (af (Æ 4 fg.nd ah)
  (af (zp Rg (Ð ID (fv 4) (Ó lQ T.kO (fv 3^ae)))
   (af (Æ 5 fg.nd (px hu (fv 3) (fv 4)))
   (af (b6 Rg rfl (br (px hu (fv 0) (fv 5))) (Õ (i:=6) fg.nd rfl)
    (ai (aN (Ð (u4 hu) (px hu (fv 6) ah) (fv 2) ((by with_unfolding_all rfl)))
     (af (cn (fv 6) (cH (fv 2) (px hu (fv 6) ah) (cI hu Xe)))
     (ai (aW (bu (fv 3) (px hu (fv 6) ah^ae)))))
     aG)))
   (ai (FI (i:=4) fg.nd rfl (by first|exact N6 rfl|exact Oo rfl) ah D6)))))
  (ai (aA (fv 2))))))),?_⟩
 refine ao λM1 K1=>N6 {{_,À.of hS},dO (K:=K) (own:=1) st (λ_=>true) (λx y H=>∃t,y=V.ref t/\H t=Xb (.tup [.str x,.Ê])) (À.of hS) (N3 _) (aH (by rw[N3];lia)) ?_ ?_ ?_ ?_}
 ·intro b i x e v0 H1 Nn Y hx he hv s1 no yes;obtain⟨u0,rfl⟩:∃u0,v0=[u0]:=by
   match v0,hv with
   | [u],_=>exact⟨u,rfl⟩
  rw[Oi,he]at hx;cases hx;refine show _/\∀p,H1 p=Xc->_ from{by show 2<=sizeLine;decide,λtp ü=>?_};exact yes rfl [Xb (.str e)] _ _ rfl (aq.upd ü _) ⟨tp,rfl,av⟩
 ·rintro e y H1 H2 s1 ⟨t,e1,h1⟩;exact{t,e1,s1 _ _ h1}
 ·rintro e y H1 D ys zs hD ⟨t,e1,h1⟩;exact{t,e1,aF (λz=>by rw[z,hD]at h1;cases h1) h1}
 intro L1 H1 ys Δ s1 ŷ pr;rw[dq]at pr;obtain⟨ps,rfl,k1,k2⟩:=BD pr;generalize Ķ:(st.map λx=>((Oz x:Key),V.Ê))=ο at k2;have kf:ο.map (·.1)=st.map Oz:=by rw[<-Ķ,OQ];rfl
 have kl:ο.length=st.length:=by rw[<-Ķ,N3]
 have knd:(ο.map (·.1)).Nodup:=by
  rw[kf];have h:=snd;unfold Rr at h⊢;rw[Px];exact h.imp λn e=>n (Oz.inj e)
 refine{L1,ps,ο,rfl,À.of ŷ,(),(),λi t k v ht hk=>É.of (k2 i t k v ht hk),λC hC=>?_};obtain⟨s2,eC⟩:=Ò hC (HO.dK (bL [] ο));generalize upd H1 C _=H2 at s2 eC⊢;rw[mW ο [] (by simpa using knd),O6]at eC;have t2:=s1.trans s2;have hC0:H C=Xc:=aq.free s1 hC;refine K1 _ _ ?_;clear K1 M1;rfl'
 refine ao λM1 K1=>N6 {S,_,rfl,N6 (À.of (t2 _ _ hS)),λQa hQ=>?_};obtain⟨s3,eQ⟩:=Ò hQ (HO.lst (sS st));generalize upd H2 Qa _=H3 at s3 eQ⊢;have t3:=t2.trans s3;have hQ0:H Qa=Xc:=aq.free t2 hQ;have nf:∀m∈[C,Qa],H m=Xc:=λm hm=>by
  rcases Ob.mp hm with e|hm
  ·rw[e];exact hC0
  rw[N4.mp hm];exact hQ0
 have hm:C∈[C,Qa]/\Qa∈[C,Qa]:={N9,N8 _ N9};have cm3:tH H3 C Qa pls st ο:={s3 _ _ eC,kf,eQ,snd,ŭ};refine K1 _ _ ?_;clear K1 M1;rfl'
 refine ao λM1 K1=>K1 _ _ ?_;clear K1 M1;rfl'
 refine ao λM1 K1=>{CI pls W S C Qa H3 ls st,{_,0,st,ο,Xc,Xc,rfl,rfl,Sm.refl _ _,cm3,Oj _,rfl},?_};rintro m B Hd ⟨i,cs,kvs,v5,v6,rfl,rfl,sd,cm,il,ar⟩;have cl:=cm.len;refine lnl cm.q ?_;rw[N3];refine{_,rfl,a8 (λc=>?_) (λc=>?_)}
 ·have il2:i<cs.length:=by have:=of_decide_eq_true c;lia
  obtain⟨x,hx⟩:∃x,cs[i]?=Xb x:={_,Oa il2};have mx:x∈pls:=cm.s x (Oe hx);refine{CD W S C Qa i H3 pls ls st,?_,?_}
  ·rintro B' H' ⟨Ō,Ğ,v5,v6,rfl,a1,a2,a3,a4⟩;exact{pls.length-(i+1),(),i+1,Ō,Ğ,v5,v6,rfl,rfl,a1,a2,a3,a4}
  have þ:ip ls (pls.length-(i+1)) (i+1) ((ku ls x).foldl ć cs)=ip ls pls.length 0 st:=by
   rw[<-ar,show pls.length-i=pls.length-(i+1)+1 by lia];conv=>rhs;unfold ip
   rw[hx]
  rfl'
  refine ao λN1 J1=>ì (À.of cm.q) (jH (by rw[Oi,hx];rfl)) (?_);have sH:aq H Hd:=sd.same t3 nf;have hWd:=hW.same sH;obtain⟨us,eu,pu⟩:=hW.l x mx;have lus:=Q7 pu;refine J1 _ _ ?_;clear J1 N1;rfl'
  refine ao λN1 J1=>æ hWd.d (hWd.v x mx) (N6 {{_,À.of (sH _ _ eu)},bP (K:=K) (xs:=us) (Cj W S C Qa i x H3 pls ls cs) ⟨cs,kvs,v6,rfl,sd,cm,rfl⟩ (λj B He _ ⟨_,_,_,_,z,_,_⟩=>À.of ((z.same t3 nf) _ _ eu)) ?_ ?_})
  ·rintro j y B He hy ⟨Ō,Ğ,v6,rfl,se,ce,rfl⟩;obtain⟨l,hl,t,rfl,et⟩:=bW pu hy;have ml:l∈ls:=(Ow.mp (Oe hl)).1;have sHe:=se.same t3 nf;have et':=É.of (K:=K) (sHe _ _ et);have ϓ:((ku ls x).take (j+1)).foldl ć cs=ć (((ku ls x).take j).foldl ć cs) l:=dH ć cs hl;generalize ((ku ls x).take j).foldl ć cs=cj at ce ϓ;have cl2:=ce.len;rfl'
   refine Ŭ (j:=1) et' rfl (Oo {C,_,rfl,mB.k (k:=.inr l.to) ce.c,_,rfl,?_});rw[ce.has];unfold ć at ϓ;by_cases m:l.to∈cj
   ·rw[if_pos m]at ϓ;rw[decide_eq_true m];exact aT {_,_,_,rfl,se,ce,ϓ.symm}
   rw[if_neg m]at ϓ;rw[decide_eq_false m];refine bp (ao λO1 I1=>Ŭ (j:=1) et' rfl {_,fS.k (k:=.inr l.to) ce.c (aH ()),I1 _ _ ?_});clear I1 O1;have tC:t≠C:=λz=>by have:=sHe _ _ et;rw[z,ce.c]at this;cases this
   have QC:Qa≠C:=λz=>by have:=ce.q;rw[z,ce.c]at this;cases this
   have eq2:upd He C (.dK (Xi Ğ (.inr l.to) (.ref t))) Qa=Xb (.lst (sS cj)):=aF QC ce.q;have et2:É K (upd He C (.dK (Xi Ğ (.inr l.to) (.ref t)))) t l.vs:=É.of (aF tC (sHe _ _ et));rfl'
   exact{N6 {rfl,_,À.of eq2},Ŭ (j:=1) et2 rfl {_,_,_,rfl,rfl,eq2,aH (by rw[N3];lia),{_,_,_,rfl,(se.trans (Sm.at hm.1 _)).trans (Sm.at hm.2 _),ce.put m (tos l ml),ϓ.symm}}}
  rintro B He ⟨Ō,Ğ,v6,rfl,se,ce,ecs⟩;rw[show(ku ls x).take us.length=ku ls x by rw[<-lus];exact Ov]at ecs;refine J1 _ _ ?_;have sl:=BN (ku ls x) cs;rw[<-ecs]at sl þ;exact{_,rfl,i,1,rfl,rfl,Ō,Ğ,_,_,rfl,se,ce,(),þ}
 have ie:i=cs.length:=by
  have:¬ ((i:Int)<(cs.length:Int)):=λz=>c (decide_eq_true z);lia
 rw[Iq ls _ i cs ()]at ar;exact K1 _ _ (q C kvs Hd (sd.same t3 nf) hC0 cm.c (by rw[cm.k,ar]))
inductive Bz(vs:List V)(H:Hp)(Q:VK)(Ã:XK):Prop
 |mk(r:Int):vs=[.int r]->0<=r/\r<=2->Q (.int (1*2^r.toNat)) H->Bz vs H Q Ã
theorem KW(T:Txt K mg A):T.only.Hz P w base 1 Bz:=by
 refine T.only.hs G4 (λf Ä A' outer s H vs Q E' hr hu h=>?_);obtain⟨r,rfl,Ŧ,q⟩:=h;exact{_,(ai (aA (ax Mf ah (fv 0)))),{by unfold Fq;lia,q}}
inductive wg(vs:List V)(H:Hp)(Q:VK)(Ã:XK):Prop
 |mk(a b:Int):vs=[.int a,.int b]->Q (.int (RH a b)) H->wg vs H Q Ã
theorem Fe(T:Txt K mg A):T.joined.Hz P w base 1 wg:=by
 refine T.joined.hs CW (λf Ä A' outer s H vs Q E' hr hu h=>?_);obtain⟨a,b,rfl,q⟩:=h;exact{_,(ai (aA (ax NZ (fv 0) (fv 1)))),q}
theorem vL{sp:Sp}{dvs:List V}{E:XK}{t:TA}(hs:∀vs H (Q Q':VK),(∀v H,Q v H->Q' v H)->sp vs H Q E->sp vs H Q' E)(ht:∀B H (R R':List V->Hp->Prop),(∀vs H,R vs H->R' vs H)->t B H R->t B H R'):∀B H (Q Q':VK),(∀v H,Q v H->Q' v H)->wG sp dvs E t B H Q->wG sp dvs E t B H Q':=λB H Q Q' h hh=>ht B H _ _ (λvs H1 z=>hs _ _ _ _ h z) hh
theorem nY{te:TE}{t:TA}(he:∀B H (Q Q':VK),(∀v H,Q v H->Q' v H)->te B H Q->te B H Q')(ht:∀B H (R R':List V->Hp->Prop),(∀vs H,R vs H->R' vs H)->t B H R->t B H R'):∀B H (R R':List V->Hp->Prop),(∀vs H,R vs H->R' vs H)->yN te t B H R->yN te t B H R':=λB H R R' h hh=>he B H _ _ (λv H1 z=>ht B H1 _ _ (λvs H2 y=>h _ _ y) z) hh
theorem Af:∀B H (R R':List V->Hp->Prop),(∀vs H,R vs H->R' vs H)->C5 B H R->C5 B H R':=λB H R R' h hh=>h _ _ hh
theorem Ft:∀vs H (Q Q':VK),(∀v H,Q v H->Q' v H)->w8 A vs H Q E0->w8 A vs H Q' E0:=by
 rintro vs H Q Q' h ⟨W,S,kw,pls,wa,ls,st,z0,z1,z2,z3,z4,z5,z6,z7⟩;exact{W,S,kw,pls,wa,ls,st,z0,z1,z2,z3,z4,z5,z6,λC kvs H' a b c d=>h _ _ (z7 C kvs H' a b c d)}
theorem Gp:∀vs H (Q Q':VK),(∀v H,Q v H->Q' v H)->ij A vs H Q E0->ij A vs H Q' E0:=by
 rintro vs H Q Q' h ⟨N,X,v,rk,hs,ds,ms,z0,z1,z2,z3,z4⟩;exact{N,X,v,rk,hs,ds,ms,z0,z1,z2,z3,λR H' a b c=>h _ _ (z4 R H' a b c)}
def bV(g:Str->Int):Key->V
 | .inr x=>.int (g x)
 | .inl _=>.Ê
def ō(r:Int)(g:Str->Int)(x:Str):Str->Int:=λy=>if y=x then RH (g x) (1*2^r.toNat)else g y
theorem JX(g:Str->Int)(x:Str)(v:Int):vj (bV g) (.inr x) (.int v)=bV λy=>if y=x then v else g y:=by
 funext k
 unfold vj;cases k with
 |inl i=>rw[if_neg (by intro e;cases e)];rfl
 |inr y=>
  by_cases e:y=x
  ·rw[if_pos (by rw[e])];show V.int v=V.int (if y=x then v else g y);rw[if_pos e]
  rw[if_neg λz=>e (Oz.inj z)];show V.int (g y)=V.int (if y=x then v else g y);rw[if_neg e]
theorem Kn{pls:List Str}{g:Str->Int}{x:Str}{r:Int}(m:x∈pls):Xi (sk (pls.map Oz) (bV g)) (.inr x) (.int (RH (g x) (1*2^r.toNat)))=sk (pls.map Oz) (bV (ō r g x)):=by
 rw[Fn,JX,show vt (pls.map Oz) (Oz x)=pls.map Oz from if_pos (OJ m)];rfl
def j3(N:Nat->Str)(b:Bool)(hs ds ms:List Pt)(r:Int):List Str:=ip (cF N b ds ms) (aV N hs ds ms).length 0 (Xl N hs r)
def mw(N:Nat->Str)(b:Bool)(hs ds ms:List Pt):Str->Int:=(š ((jj N hs).map (·.2))).foldl (λg r=>(j3 N b hs ds ms r).foldl (ō r) g) λ_=>0
structure ώ(N:Nat->Str)(d:Nat)(hs ds ms:List Pt):Prop where
 l:OkL N d hs ds ms
 fr:∀b,∀l∈cF N b ds ms,l.fr∈aV N hs ds ms
 to:∀b,∀l∈cF N b ds ms,l.to∈aV N hs ds ms
 rk:∀s∈jj N hs,s.2=0\/s.2=1\/s.2=2
 sn:((jj N hs).map (·.1)).Nodup
 ss:∀s∈jj N hs,s.1∈aV N hs ds ms
theorem gi.sm{H H':Hp}{W Ö:Q1}{kvs kb:List (Key×V)}{pls:List Str}{wa:Str->Q1}{ls:List Lk}(h:gi H W kvs pls wa ls)(s:Sm [Ö] H H')(eB:H Ö=Xb (.dK kb))(n:W≠Ö):gi H' W kvs pls wa ls:=by
 have t:∀a o,a≠Ö->H a=Xb o->H' a=Xb o:=λa o m e=>s a o (λz=>m (N4.mp z)) e;refine{t _ _ n h.d,h.v,h.i,λx hx=>?_};obtain⟨ys,e,l⟩:=h.l x hx;exact{ys,t _ _ (λz=>by rw[z,eB]at e;cases e) e,l.same λa u z=>t _ _ (λy=>by rw[y,eB]at z;cases z) z}
theorem za{H:Hp}:∀{st:List Str}{ys:List V},Paired (λx y=>∃t,y=V.ref t/\H t=Xb (.tup [.str x,.int 0])) st ys->∃ps:List Q1,ys=ps.map V.ref/\ps.length=st.length/\∀(i:Nat) t k v,ps[i]?=Xb t->(sk (st.map Oz) (bV λ_=>0))[i]?=Xb (k,v)->H t=Xb (.tup [kV k,v])
 |_,_,.nil=>{[],rfl,rfl,(λi t k v h=>by simp at h)}
 |_,_,.cons h r=>by
  obtain⟨t,rfl,h1⟩:=h;obtain⟨ps,e1,e2,e3⟩:=za r;refine{t::ps,by rw[e1];rfl,by simp[e2],λi t' k v ht hk=>?_};cases i with
  |zero=>cases ht;cases hk;exact h1
  |succ i=>exact e3 i t' k v ht hk
theorem CC{ls:List Lk}{pls:List Str}(to:∀l∈ls,l.to∈pls):∀(n i:Nat)(cs:List Str),(∀x∈cs,x∈pls)->∀x∈ip ls n i cs,x∈pls
 |0,_,cs,h=>h
 |n+1,i,cs,h=>by
  unfold ip;split
  ·exact h
  next x hx=>
  refine CC to n (i+1) _ ?_;have:∀(l:List Lk),(∀k∈l,k∈ls)->∀cs:List Str,(∀x∈cs,x∈pls)->∀x∈l.foldl ć cs,x∈pls:=by
   intro l;induction l with
   |nil=>exact λ_ cs h=>h
   |cons k l ih=>
    intro hl cs h;refine ih (λk' m=>hl k' (N8 _ m)) _ λx hx=>?_;unfold ć at hx;split at hx
    ·exact h x hx
    rcases Og.mp hx with m|m
    ·exact h x m
    rw[N4.mp m];exact to k (hl k N9)
  exact this _ (λk m=>(Ow.mp m).1) cs h
inductive zf(A:Ï)(d:Nat)(vs:List V)(H:Hp)(Q:VK)(Ã:XK):Prop
 |mk(N:Nat->Str)(X:Hp)(v:V)(b:Bool)(hs ds ms:List Pt)(z0:vs=[v,.bl b])(z1:aq X H)(z2:jx A N X v hs ds ms)(z3:ώ N d hs ds ms)
  (z4:∀(Ö:Q1)(H':Hp),aq H H'->H Ö=Xc->H' Ö=Xb (.dK (sk ((aV N hs ds ms).map Oz) (bV (mw N b hs ds ms))))->Q (.ref Ö) H'):zf A d vs H Q Ã
theorem As(i:Nat):∀B H (Q Q':VK),(∀v H,Q v H->Q' v H)->Fi i B H Q->Fi i B H Q':=λB H Q Q' h hh=>by
 unfold Fi at hh⊢;split at hh
 ·exact h _ _ hh
 exact hh
theorem zd{α:Type}{f:α->Int}{src:List α}:∀{ys:List V},Paired (λt y=>y=V.int (f t)) src ys->ys=(src.map f).map V.int
 |_,.nil=>rfl
 |_,.cons h r=>by rw[h,zd r];rfl
theorem G2(T:Txt K mg A)(d:Nat):T.table.Hz P w base (3*d+11) (zf A d):=by
 refine T.table.hs (k:=3*d+10) mI (λf Ä A' outer s H vs Q E' hr hu h=>?_);obtain⟨N,X,v,b,hs,ds,ms,rfl,s0,pg,O,q⟩:=h;refine⟨_,(af (Æ 2 mI.nd (aj (hj:=by lia) (Kc T d) hr (fv 0^fv 1^ae)))
  (af (Æ 3 mI.nd (Ĵ p9 T.ng ((dF (N:=["place"]) (own:=1) (fr:=[]) (b4.of (by kernel_rfl!)) rfl (br (aj (hj:=by lia) (yJ T d) hr (fv 0^ae))) (λb=>Õ (i:=0) (show Rr (["place"]:List RF) by decide+kernel) rfl) (λb=>fP) (λb=>bE (fv 0^ah^ae)))^ae)))
  (af (b6 Rg rfl (br (yn T.kN T.zM ((dF (N:=["place","rank"]) (own:=2) (fr:=[]) (b4.of (by kernel_rfl!)) rfl (br (aj (hj:=by lia) (wB T) hr (fv 0^ae))) (λb=>kg rfl (bB (Õ (i:=0) (show Rr (["place","rank"]:List RF) by decide+kernel) rfl) (bB (Õ (i:=1) (show Rr (["place","rank"]:List RF) by decide+kernel) rfl) gC))) (λb=>fP) (λb=>fv 1))^ae))) (Õ (i:=4) mI.nd rfl)
   (ai (HI Rg rfl (aj (hj:=by lia) (MD T) hr (fv 2^(aj (hj:=by lia) (zZ T) hr (fv 0^fv 4^ae))^ae)) (vL Ft (nY (As 2) (nY (vL Gp (nY (As 0) (nY (As 4) Af))) Af))) (Õ (i:=5) mI.nd rfl)
    (ai (cn (aj (hj:=by lia) (Fe T) hr (px hu (fv 3) (fv 5)^(aj (hj:=by lia) (KW T) hr (fv 4^ae))^ae)) (cH (fv 3) (fv 5) (cI hu Xe)))))))
  (ai (aA (fv 3)))))),?_⟩
 have pln:=O.l.ok.pl;have pnd:=O.l.ok.nd;refine ao λM1 K1=>{N,X,v,b,hs,ds,ms,rfl,s0,pg,O.l,O.fr b,λW kw wa H1 s1 hW=>K1 _ _ ?_};clear K1 M1;rfl'
 refine ao λM1 K1=>{N,X,v,hs,ds,ms,rfl,s0.trans s1,pg,O.l.ok,λL1 H2 s2 Δ ŷ=>?_};have Oto:=O.to b;have Oss:=O.ss;unfold mw j3 at q;generalize cF N b ds ms=ls at hW Oto q;generalize Ā:aV N hs ds ms=pls at hW Oto ŷ pln pnd Oss q;refine N6 {{_,À.of ŷ},dO (K:=K) (own:=1) pls (λ_=>true) (λx y H=>∃t,y=V.ref t/\H t=Xb (.tup [.str x,.int 0])) (À.of ŷ) (N3 _) (aH (by rw[N3];lia)) ?_ ?_ ?_ ?_}
 ·intro b i x e v0 H1 Nn Y hx he hv s1 no yes;obtain⟨u0,rfl⟩:∃u0,v0=[u0]:=by
   match v0,hv with
   | [u],_=>exact⟨u,rfl⟩
  rw[Oi,he]at hx;cases hx;refine show _/\∀p,H1 p=Xc->_ from{by show 2<=sizeLine;decide,λtp ü=>?_};exact yes rfl [Xb (.str e)] _ _ rfl (aq.upd ü _) ⟨tp,rfl,av⟩
 ·rintro e y H1 H2 s1 ⟨t,e1,h1⟩;exact{t,e1,s1 _ _ h1}
 ·rintro e y H1 D ys zs hD ⟨t,e1,h1⟩;exact{t,e1,aF (λz=>by rw[z,hD]at h1;cases h1) h1}
 intro L2' H3 ys Ϝ s3 eL2 pr;rw[dq]at pr;obtain⟨ps,rfl,k1,k2⟩:=za pr;have kl:(sk (pls.map Oz) (bV λ_=>0)).length=pls.length:=by rw[A6,N3]
 have knd:((sk (pls.map Oz) (bV λ_=>0)).map (·.1)).Nodup:=by
  rw[show(sk (pls.map Oz) (bV λ_=>0)).map (·.1)=pls.map Oz by unfold sk;rw[OQ];exact List.map_id' _];have h:=pnd;unfold Rr at h⊢;rw[Px];exact h.imp λn e=>n (Oz.inj e)
 refine{L2',ps,_,rfl,À.of eL2,(),(),λi t k v ht hk=>É.of (k2 i t k v ht hk),λÖ hB=>?_};obtain⟨s4,eB⟩:=Ò hB (HO.dK (bL [] (sk (pls.map Oz) (bV λ_=>0))));generalize upd H3 Ö _=H4 at s4 eB⊢;rw[mW _ [] (by simpa using knd),O6]at eB;have t3:=(s1.trans s2).trans s3;have t4:=t3.trans s4;have hB0:H Ö=Xc:=aq.free t3 hB;have WB:W≠Ö:=(Xd hB ((s2.trans s3) _ _ hW.d)).symm;have hW4:=hW.same ((s2.trans s3).trans s4);refine K1 _ _ ?_;clear K1 M1;rfl'
 refine ao λM1 K1=>{N,X,v,hs,ds,ms,rfl,s0.trans t4,pg,O.l.ok.hl,λL3 ss H5 s5 hL3 eL3 pr3=>?_};have hl3:=O.l.ok.hl;have ln3:=Q7 pr3;have l3:(jj N hs).length<=hs.length:=by
  unfold jj;rw[N3];exact OM _ _
 refine N6 {{_,À.of eL3},dO (K:=K) (own:=2) (jj N hs) (λ_=>true) (λs y _=>y=.int s.2) (À.of eL3) ln3.symm (aH ()) ?_ (λ_ _ _ _ _ h=>h) (λ_ _ _ _ _ _ _ h=>h) ?_}
 ·intro b i x t v0 H2 Nn Y hx he hv s2 no yes;obtain⟨u0,u1,rfl⟩:∃u0 u1,v0=[u0,u1]:=by
   match v0,hv with
   | [u,u'],_=>exact⟨u,u',rfl⟩
  obtain⟨t',ht,tp,rfl,ł⟩:=bW pr3 hx;rw[he]at ht;cases ht;exact{tp,_,rfl,É.of (s2 _ _ ł),rfl,_,_,rfl,_,_,rfl,rfl,yes rfl [Xb (.str t.1),Xb (.int t.2)] _ _ rfl (aq.refl _) rfl}
 intro L4 H6 zs hL4 s6 eL4 pz;rw[dq]at pz;have ez:=zd pz;refine{L4,(jj N hs).map (·.2),rfl,À.of (by rw[eL4,ez]),λn hn=>?_,λLr hLr=>?_}
 ·obtain⟨s,m,rfl⟩:=Oq.mp hn;exact O.rk s m
 obtain⟨s7,eLr⟩:=Ò hLr (HO.lst ((š ((jj N hs).map (·.2))).map V.int));generalize upd H6 Lr _=H7 at s7 eLr⊢;have t57:=(s5.trans s6).trans s7;have t7:=t4.trans t57;have eB7:=t57 _ _ eB;have LrB:Lr≠Ö:=Xd hLr ((s5.trans s6) _ _ eB);have hW7:=hW4.same t57;have rk3m:∀r∈š ((jj N hs).map (·.2)),0<=r/\r<=2:=λr hr=>by
  have:=(Ow.mp hr).1;simp only[Ob,Ou,or_false]at this;rcases this with h|h|h<;>rw[h]<;>decide
 generalize š ((jj N hs).map (·.2))=rks at eLr rk3m q;refine N6 {{_,À.of eLr},bP (K:=K) (xs:=rks.map V.int) (λj B Hd=>∃(v4 v5:Option V),B=[Xb v,Xb (.bl b),Xb (.ref W),Xb (.ref Ö),v4,v5]/\Sm [Ö] H7 Hd/\Hd Ö=Xb (.dK (sk (pls.map Oz) (bV ((rks.take j).foldl (λg r=>(ip ls pls.length 0 (Xl N hs r)).foldl (ō r) g) λ_=>0))))) {Xc,Xc,rfl,Sm.refl _ _,eB7} (λj B Hd _ ⟨_,_,_,z,_⟩=>À.of (z _ _ (λm=>LrB (N4.mp m)) eLr)) ?_ ?_}
 ·rintro j y B Hd hy ⟨v4,v5,rfl,sd,Ÿ⟩;rw[Oi]at hy;cases Ŧ:rks[j]? with
  |none=>rw[Ŧ]at hy;cases hy
  |some r=>
  rw[Ŧ]at hy;cases hy;have r02:=rk3m r (Oe Ŧ);have ϓ:=dH (λg r=>(ip ls pls.length 0 (Xl N hs r)).foldl (ō r) g) (λ_:Str=>(0:Int)) Ŧ;generalize (rks.take j).foldl (λg r=>(ip ls pls.length 0 (Xl N hs r)).foldl (ō r) g) (λ_=>0)=g0 at Ÿ ϓ;have sX:aq H Hd:=sd.same t7 (λm hm=>by rw[N4.mp hm];exact hB0);have hWd:=hW7.sm sd eB7 WB;rfl'
  refine{N,X,v,r,hs,ds,ms,rfl,s0.trans sX,pg,O.l.ok.hl,λS H8 s8 hS eS=>?_};have snd:(Xl N hs r).Nodup:=by
   unfold Xl;exact List.Sublist.nodup (List.Sublist.map _ PV) O.sn
  have ŭ:∀x∈Xl N hs r,x∈pls:=λx hx=>by
   obtain⟨s,m,rfl⟩:=Oq.mp hx;exact Oss s (Ow.mp m).1
  refine{W,S,kw,pls,wa,ls,Xl N hs r,rfl,hWd.same s8,eS,snd,ŭ,Oto,(),λC kc H9 s9 hC eC kk=>?_};have asub:=CC Oto pls.length 0 _ ŭ;generalize ip ls pls.length 0 (Xl N hs r)=ar at kk ϓ asub;have t9:=s8.trans s9;have eB9:=t9 _ _ Ÿ;have CB:C≠Ö:=Xd hC (s8 _ _ Ÿ);have hC0:Hd C=Xc:=aq.free s8 hC;have kcl:kc.length=ar.length:=by
   have:=congrArg Ta kk;simpa using this
  refine{C,kc,rfl,eC,λo nfz knd=>{λi B Hf=>∃v5,B=[Xb v,Xb (.bl b),Xb (.ref W),Xb (.ref Ö),Xb (.int r),v5]/\Sm [Ö,C] H9 Hf/\Hf C=Xb (.Ć o (.dK kc))/\Hf Ö=Xb (.dK (sk (pls.map Oz) (bV ((ar.take i).foldl (ō r) g0)))),{v5,rfl,Sm.at (N8 _ N9) _,av,aF CB.symm eB9},λi B Hf _ ⟨_,_,_,z,_⟩=>z,?_,?_}}
  ·rintro i k u B Hf hk ⟨v5,rfl,sf,eCf,eBf⟩;have hx:(ar.map (Oz:Str->Key))[i]?=Xb k:=by rw[<-kk,Oi,hk];rfl
   rw[Oi]at hx;cases ha:ar[i]? with
   |none=>rw[ha]at hx;cases hx
   |some x=>
   rw[ha]at hx;cases hx;have mx:x∈pls:=asub x (Oe ha);have st2:=dH (ō r) g0 ha;rfl'
   refine æ eBf (xh (OJ mx)) {r,rfl,r02,_,_,rfl,{_,fS.k (k:=.inr x) eBf (aH (by rw[A6,N3];lia)),{_,rfl,sf.trans (Sm.at N9 _),aF CB eCf,?_}}};rw[av,st2];exact congrArg (λz=>Xb (HO.dK z)) (Kn mx)
  rintro B Hf ⟨v5,rfl,sf,eCf,eBf⟩;rw[kcl,Ov]at eBf;refine{_,_,rfl,λa u na e=>?_,aF CB.symm (by rw[ϓ];exact eBf)};have ed:=sd a u na e;have aC:a≠C:=λz=>by rw[z,hC0]at ed;cases ed
  have aB:a≠Ö:=λz=>na (N4.mpr z);refine aF aC (sf a u (λm=>?_) (t9 _ _ ed));rcases Ob.mp m with z|m
  ·exact aB z
  exact aC (N4.mp m)
 rintro B Hd ⟨v4,v5,rfl,sd,Ÿ⟩;rw[N3,Ov]at Ÿ;exact K1 _ _ (q Ö Hd (sd.same t7 (λm hm=>by rw[N4.mp hm];exact hB0)) hB0 Ÿ)
inductive Ga(vs:List V)(H:Hp)(Q:VK)(Ã:XK):Prop
 |mk(a:Int):vs=[.int a]->Q (.int ((RW a:Int)-1)) H->Ga vs H Q Ã
theorem ME(T:Txt K mg A):T.top.Hz P w base 1 Ga:=by
 refine T.top.hs KU (λf Ä A' outer s H vs Q E' hr hu h=>?_);obtain⟨a,rfl,q⟩:=h;exact{_,(ai (aA (ax oR (yf (fv 0)) ah))),⟨rfl,a,rfl,rfl,q⟩}
def Az(b r:Int):Bool:=decide ((RW b:Int)-1<=r)
inductive Cm(vs:List V)(H:Hp)(Q:VK)(Ã:XK):Prop
 |mk(a b:Int):vs=[.int a,.int b]->Q (.bl (Az a b)) H->Cm vs H Q Ã
theorem KS(T:Txt K mg A):T.fits.Hz P w base 2 Cm:=by
 refine T.fits.hs (k:=1) G7 (λf Ä A' outer s H vs Q E' hr hu h=>?_);obtain⟨a,b,rfl,q⟩:=h;exact{_,(ai (aA (pec MY (aj (ME T) hr (fv 0^ae)) (fv 1)))),⟨a,rfl,q⟩}
def fV(t:Pt):Bool:=decide (t.ci=11)||decide (t.ci=12)
def gQ(N:Nat->Str)(hs ds ms:List Pt)(fl:Int)(e:Le):Bool:=fV e.1&& !Az (mw N false hs ds ms (a9 e.1.no)) fl
def jv(N:Nat->Str)(hs ds ms:List Pt)(fl:Int):List Le:=(bj N ds ms).filter (gQ N hs ds ms fl)
theorem Iw{hs ds ms:List Pt}{e:Le}(m:e∈bj N ds ms)(h:fV e.1=true):a9 e.1.no∈aV N hs ds ms:=by
 unfold aV;refine Oh _ (Od _ ?_);unfold fz;refine Oq.mpr {e,Ow.mpr {m,?_},rfl};unfold iw;unfold fV at h;rcases OS.mp h with h|h<;>rw[h]<;>simp
inductive zR(A:Ï)(d:Nat)(vs:List V)(H:Hp)(Q:VK)(Ã:XK):Prop
 |mk(N:Nat->Str)(X:Hp)(v:V)(fl:Int)(hs ds ms:List Pt)(z0:vs=[v,.int fl])(z1:aq X H)(z2:jx A N X v hs ds ms)(z3:ώ N d hs ds ms)
  (z4:∀(R:Q1)(ys:List V)(H':Hp),aq H H'->H R=Xc->H' R=Xb (.lst ys)->Paired (λe y=>aJ A N X y e.1) (jv N hs ds ms fl) ys->Q (.ref R) H'):zR A d vs H Q Ã
theorem Co(T:Txt K mg A)(d:Nat):T.pP.Hz P w base (3*d+12) (zR A d):=by
 refine T.pP.hs (k:=3*d+11) eO (λf Ä A' outer s H vs Q E' hr hu h=>?_);obtain⟨N,X,v,fl,hs,ds,ms,rfl,s0,pg,O,q⟩:=h;refine⟨_,(af (Æ 2 eO.nd (DX (hj:=by lia) (G2 T d) hr (fv 0^ae)))
  (af (Æ 3 eO.nd (aU ae))
  (af (b6 Rg rfl (br (aj (hj:=by lia) (xN T d) hr (fv 0^ae))) (kg rfl (bB (Õ (i:=4) eO.nd rfl) (bB (Õ (i:=5) eO.nd rfl) (bB (Õ (i:=6) eO.nd rfl) gC))))
   (ai (aN (PW.pt (pw_or (aZ (Ó aK T.az (fv 4^aS T.aQ.mg^ae)) (λ_=>rfl)) (pw_or1 (aZ (Ó aK T.az (fv 4^aS T.aI.mg^ae)) (λ_=>rfl)))))
    (ai (aN (ua (aZ (aj (hj:=by lia) (KS T) hr ((px hu (fv 2) (aj (hj:=by lia) (oA T) hr (aw (fv 4) rfl^ae)))^fv 1^ae)) (λ_=>rfl)))
     (ai (aW (bu (fv 3) (fv 4^ae))))
     aG))
    aG)))
  (ai (aA (fv 3)))))),?_⟩
 refine ao λM1 K1=>{N,X,v,false,hs,ds,ms,rfl,s0,pg,O,λÖ H1 s1 hB eB=>K1 _ _ ?_};clear K1 M1;rfl'
 refine ao λM1 K1=>{Oj _,λR hR=>?_};obtain⟨s2,eR⟩:=Ò hR (HO.lst []);generalize upd H1 R _=H2 at s2 eR⊢;have t2:=s1.trans s2;have hR0:H R=Xc:=aq.free s1 hR;have BR:Ö≠R:=(Xd hR eB).symm;refine K1 _ _ ?_;clear K1 M1;rfl'
 refine ao λM1 K1=>{N,X,v,hs,ds,ms,rfl,s0.trans t2,pg,O.l.ok,λL zs H3 s3 hL eL ly=>?_};have LR:L≠R:=Xd hL eR;have nb:=O.l.ok.nb;have oln:=O.l.ok.ln;have npl:∀e∈bj N ds ms,fV e.1=true->a9 e.1.no∈aV N hs ds ms:=λe m h=>Iw m h;unfold jv at q;generalize bj N ds ms=es at ly nb oln npl q;have ů:=Q7 ly;refine N6 {{_,À.of eL},bP (K:=K) (xs:=zs) (λi B Hd=>∃(ws:List V)(v4 v5 v6:Option V),B=[Xb v,Xb (.int fl),Xb (.ref Ö),Xb (.ref R),v4,v5,v6]/\Sm [R] H3 Hd/\Hd R=Xb (.lst ws)/\Paired (λ(e:Le) y=>aJ A N X y e.1) ((es.take i).filter (gQ N hs ds ms fl)) ws) {[],Xc,Xc,Xc,rfl,Sm.refl _ _,s3 _ _ eR,.nil} (λi B Hd _ ⟨_,_,_,_,_,z,_⟩=>À.of (z _ _ (λm=>LR (N4.mp m)) eL)) ?_ ?_}
 ·rintro i y B Hd hy ⟨ws,v4,v5,v6,rfl,sd,Ģ,lw⟩;obtain⟨e,he,tp,u,rfl,ł,pa⟩:=bW ly hy;have ŵ:=sd _ _ (λm=>by rw[N4.mp m,s3 _ _ eR]at ł;cases ł) ł;have sX:aq X Hd:=sd.same ((s0.trans t2).trans s3) (λm hm=>by
   rw[N4.mp hm];exact aq.free s0 hR0)
  have me:=Oe he;have ne:=nb e me;have il:i<es.length:=(Ot.mp he).1;have Ÿ:Hd Ö=Xb (.dK (sk ((aV N hs ds ms).map Oz) (bV (mw N false hs ds ms)))):=sd _ _ (λm=>BR (N4.mp m)) (s3 _ _ (s2 _ _ eB));have tk:es.take (i+1)=es.take i++[e]:=by rw[OG,he];rfl
  have llw:=Q7 lw;have fl1:=OM (gQ N hs ds ms fl) (es.take i);rw[OH]at fl1;have no:gQ N hs ds ms fl e=false->Paired (λ(e:Le) y=>aJ A N X y e.1) ((es.take (i+1)).filter (gQ N hs ds ms fl)) ws:=λh=>by
   rw[tk,O0,P6 (by rw[h];exact Of),Pg,OF];exact lw
  have yes:gQ N hs ds ms fl e=true->Paired (λ(e:Le) y=>aJ A N X y e.1) ((es.take (i+1)).filter (gQ N hs ds ms fl)) (ws++[u]):=λh=>by
   rw[tk,O0,P7 h,Pg];exact Paired.two lw (.cons pa .nil)
  rfl'
  refine{tp,_,rfl,É.of ŵ,rfl,_,_,rfl,_,_,rfl,_,_,rfl,rfl,?_};by_cases n:fV e.1=true
  ·have gv:=xh (f:=bV (mw N false hs ds ms)) (OJ (f:=Oz) (npl e me n));cases c:Az (mw N false hs ds ms (a9 e.1.no)) fl with
   |true=>
    have na:gQ N hs ds ms fl e=false:=by unfold gQ;rw[n,c];rfl
    by_cases è:e.1.ci=11
    ·exact dA T sX pa è (bp (dB T sX pa {_,rfl,ne.1,ne.2,æ Ÿ gv {mw N false hs ds ms (a9 e.1.no),fl,rfl,_,rfl,a8 (λz=>absurd z (by rw[c];decide)) (λ_=>{_,_,_,_,rfl,sd,Ģ,no na})}}))
    have ê:e.1.ci=12:=by
     unfold fV at n;rw[decide_eq_false è]at n;exact of_decide_eq_true n
    exact bN T sX pa è (aT (dA T sX pa ê (bp (dB T sX pa {_,rfl,ne.1,ne.2,æ Ÿ gv {mw N false hs ds ms (a9 e.1.no),fl,rfl,_,rfl,a8 (λz=>absurd z (by rw[c];decide)) (λ_=>{_,_,_,_,rfl,sd,Ģ,no na})}}))))
   |false=>
    have ya:gQ N hs ds ms fl e=true:=by unfold gQ;rw[n,c];rfl
    have sm:=sd.trans (Sm.at (N4.mpr rfl) (.lst (ws++[u])));have sz1:ws.length<sizeLine:=aH ();by_cases è:e.1.ci=11
    ·exact dA T sX pa è (bp (dB T sX pa {_,rfl,ne.1,ne.2,æ Ÿ gv {mw N false hs ds ms (a9 e.1.no),fl,rfl,_,rfl,a8 (λ_=>{N6 {rfl,_,À.of Ģ},_,_,_,rfl,rfl,Ģ,sz1,_,_,_,_,rfl,sm,av,yes ya}) (λz=>absurd (by rw[c];rfl) z)}}))
    have ê:e.1.ci=12:=by
     unfold fV at n;rw[decide_eq_false è]at n;exact of_decide_eq_true n
    exact bN T sX pa è (aT (dA T sX pa ê (bp (dB T sX pa {_,rfl,ne.1,ne.2,æ Ÿ gv {mw N false hs ds ms (a9 e.1.no),fl,rfl,_,rfl,a8 (λ_=>{N6 {rfl,_,À.of Ģ},_,_,_,rfl,rfl,Ģ,sz1,_,_,_,_,rfl,sm,av,yes ya}) (λz=>absurd (by rw[c];rfl) z)}}))))
  have na:gQ N hs ds ms fl e=false:=by unfold gQ;rw[Qq.mpr n];rfl
  unfold fV at n;have è:e.1.ci≠11:=λz=>n (by rw[decide_eq_true z];rfl);have ê:e.1.ci≠12:=λz=>n (by rw[decide_eq_true z,Bool.or_true]);exact bN T sX pa è (aT (bN T sX pa ê (aT {_,_,_,_,rfl,sd,Ģ,no na})))
 rintro B Hd ⟨ws,v4,v5,v6,rfl,sd,Ģ,lw⟩;rw[show es.take zs.length=es by rw[<-ů];exact Ov]at lw;exact K1 _ _ (q R ws Hd (sd.same (t2.trans s3) (λm hm=>by rw[N4.mp hm];exact hR0)) hR0 Ģ lw)
def ś(ds:List Pt)(e:Le):Bool:=!(ð (È bJ Xc ds) e.1).isSome
def Ŝ(N:Nat->Str)(hs ds ms:List Pt)(fl:Int):List Int:=((jv N hs ds ms fl).filter (ś ds)).map λe=>e.1.no
structure OkU(N:Nat->Str)(d:Nat)(hs ds ms:List Pt):Prop where
 t:ώ N d hs ds ms
 ck:∀e∈bj N ds ms,ß (ds.map ç) e.1/\dep e.1<=d
 ab:∀fl,(jv N hs ds ms fl).length<64
inductive qR(A:Ï)(d:Nat)(vs:List V)(H:Hp)(Q:VK)(Ã:XK):Prop
 |mk(N:Nat->Str)(X:Hp)(v:V)(fl:Int)(hs ds ms:List Pt)(z0:vs=[v,.int fl])(z1:aq X H)(z2:jx A N X v hs ds ms)(z3:OkU N d hs ds ms)
  (z4:∀(R:Q1)(ns:List Int)(H':Hp),aq H H'->H R=Xc->H' R=Xb (.lst (ns.map V.int))->ns.Perm (Ŝ N hs ds ms fl)->ns.Pairwise (· <= ·)->Q (.ref R) H'):qR A d vs H Q Ã
theorem zl(T:Txt K mg A)(d:Nat):T.AI.Hz P w base (3*d+13) (qR A d):=by
 refine T.AI.hs (k:=3*d+12) wo (λf Ä A' outer s H vs Q E' hr hu h=>?_);obtain⟨N,X,v,fl,hs,ds,ms,rfl,s0,pg,O,q⟩:=h;refine⟨_,(af (Æ 2 wo.nd (aj (hj:=by lia) (yG T d) hr (fv 0^ae)))
  (ai (aA (Ó we T.kN ((dF (N:=["row","known"]) (own:=1) (fr:=[2]) (b4.of (by kernel_rfl!)) rfl (br (aj (hj:=by lia) (Co T d) hr (fv 0^fv 1^ae))) (λb=>Õ (i:=0) (show Rr (["row","known"]:List RF) by decide+kernel) rfl) (λb=>wR (ua (aZ (aj (hj:=by lia) (Jm T d) hr (fv 0^fv 1^ae)) (λ_=>rfl)))) (λb=>aw (fv 0) rfl))^ae))))),?_⟩
 refine ao λM1 K1=>{N,X,v,hs,ds,ms,rfl,s0,pg,O.t.l.dk,λD H1 s1 hD kD=>K1 _ _ ?_};clear K1 M1;rfl'
 refine{N,X,v,fl,hs,ds,ms,rfl,s0.trans s1,pg,O.t,λL ys H2 s2 hL eL pr=>?_};have ab:=O.ab fl;have ln:=Q7 pr;have t2:=s1.trans s2;refine N6 {{_,À.of eL},dO (K:=K) (own:=1) (jv N hs ds ms fl) (ś ds) (λe y _=>y=.int e.1.no) (À.of eL) ln.symm (aH ()) ?_ (λ_ _ _ _ _ h=>h) (λ_ _ _ _ _ _ _ h=>h) ?_}
 ·intro b i x e v0 H3 Nn Y hx he hv s3 no yes;obtain⟨u0,rfl⟩:∃u0,v0=[u0]:=by
   match v0,hv with
   | [u],_=>exact⟨u,rfl⟩
  obtain⟨e',Ũ,pa⟩:=bW pr hx;rw[he]at Ũ;cases Ũ;have sX:=(s0.trans t2).trans s3;have ck:=O.ck e (Ow.mp (Oe he)).1;refine{N,X,x,D,e.1,ds.map ç,È bJ Xc ds,rfl,sX,pa,ck.2,ck.1,kD.same (s2.trans s3),_,rfl,?_};cases c:ś ds e with
  |true=>exact a8 (λ_=>dB T sX pa (yes c [Xb x] _ _ rfl (aq.refl _) rfl)) (λz=>absurd c z)
  |false=>exact a8 (λz=>absurd (show ś ds e=true from z) (by rw[c];decide)) (λ_=>no c [Xb x] _ rfl (aq.refl _))
 intro R H3 zs hR s3 e3 pz;have ez:=sW (f:=λe:Le=>e.1.no) pz;have fl2:=OM (ś ds) (jv N hs ds ms fl);exact{R,Ŝ N hs ds ms fl,rfl,À.of (by rw[e3,ez];rfl),by unfold Ŝ;rw[N3];lia,λl ns a1 a2 hl=>q l ns _ ((t2.trans s3).trans (aq.upd hl _)) (aq.free (t2.trans s3) hl) av a1 a2}
def Ĉ(X H H':Hp):Hp:=λb=>if((X b).isSome||(H b).isNone)=true then H' b else Xc
theorem uM{X H H':Hp}{b:Q1}{o:HO}(h:Ĉ X H H' b=Xb o):((X b).isSome||(H b).isNone)=true/\H' b=Xb o:=by
 unfold Ĉ at h;split at h
 ·next c=>exact⟨c,h⟩
 cases h
theorem yR{X H H':Hp}{b:Q1}{o:HO}(c:((X b).isSome||(H b).isNone)=true)(h:H' b=Xb o):Ĉ X H H' b=Xb o:=by
 unfold Ĉ;rw[if_pos c];exact h
theorem x4{X H H':Hp}:aq (Ĉ X H H') H':=λb o h=>(uM h).2
theorem lJ{X H H' H'':Hp}(s:aq H' H''):aq (Ĉ X H H') (Ĉ X H H''):=λb o h=>yR (uM h).1 (s _ _ (uM h).2)
theorem lI{X H H1 H':Hp}(d:∀b,H1 b=Xc->H b=Xc):aq (Ĉ X H1 H') (Ĉ X H H'):=λb o h=>by
 obtain⟨c,e⟩:=uM h;refine yR ?_ e;rcases OS.mp c with c|c
 ·rw[c];rfl
 rw[d b (P0.mp c)];simp
theorem ug{X H H':Hp}(s:aq X H'):aq X (Ĉ X H H'):=λb o h=>yR (by rw[h];rfl) (s _ _ h)
theorem er{X H H':Hp}{b:Q1}{o:HO}(n:H b=Xc)(h:H' b=Xb o):Ĉ X H H' b=Xb o:=yR (by rw[n];simp) h
theorem Bq{X H H':Hp}{D:Q1}{o:HO}(n:X D=Xc)(e:H D≠Xc):aq (Ĉ X H H') (Ĉ X H (upd H' D o)):=λb u h=>by
 obtain⟨c,z⟩:=uM h;refine yR c (aF (λy=>?_) z);rw[y,n]at c;rcases OS.mp c with c|c
 ·cases c
 exact e (P0.mp c)
theorem Xo{H H':Hp}(s:aq H H'):∀b,H' b=Xc->H b=Xc:=λb h=>aq.free s h
def ĕ(ab:Int->Bool)(n l r one other:Int):Int×Int:=if ab n=true then(mx (l+one) (r+other)-one,mx (l+one) (r+other)-other)else(l,r)
def Ĕ(ab:Int->Bool)(n l r st:Int):Int×Int:=if ab n=true then(mx (l+st) r-st,mx (l+st) r)else(l,r)
mutual
noncomputable def Á(ab:Int->Bool)(kn:Nat->Int):Pt->Pt
 | .leaf n r=>.leaf n r
 | .iff n v l r f o=>.iff n v (ĕ ab n l r (aR kn f) (aR kn o)).1 (ĕ ab n l r (aR kn f) (aR kn o)).2 (bq ab kn f) (bq ab kn o)
 | .loop n t m l r b=>.loop n t m (Ĕ ab n l r (aR kn b)).1 (Ĕ ab n l r (aR kn b)).2 (bq ab kn b)
 | .aX n i ps b=>.aX n i ps (bq ab kn b)
noncomputable def bq(ab:Int->Bool)(kn:Nat->Int):List Pt->List Pt
 | []=>[]
 |t::ts=>Á ab kn t::bq ab kn ts
end
theorem u6(ab:Int->Bool)(kn:Nat->Int):∀ts:List Pt,bq ab kn ts=ts.map (Á ab kn)
 | []=>by rw[bq];rfl
 |t::ts=>by rw[bq,u6 ab kn ts];rfl
mutual
noncomputable def ø:Pt->Prop
 | .leaf n r=>k5 (.leaf n r)=true
 | .iff _ _ _ _ f o=>fE f/\fE o
 | .loop _ _ _ _ _ b=>fE b
 | .aX _ _ _ _=>False
noncomputable def fE:List Pt->Prop
 | []=>True
 |t::ts=>ø t/\fE ts
end
theorem yv{t:Pt}:∀{ts:List Pt},fE ts->t∈ts->ø t
 |t'::ts,h,m=>by
  unfold fE at h;rcases Ob.mp m with rfl|m
  ·exact h.1
  exact yv h.2 m
def xc(H:Hp)(D:Q1)(ab:Int->Bool):Prop:=∃kvs,H D=Xb (.dK kvs)/\∀n,(L2.cK kvs (.inl n)).isSome=ab n
theorem xc.same{H H':Hp}{D:Q1}{ab:Int->Bool}(s:aq H H')(h:xc H D ab):xc H' D ab:=by
 obtain⟨kvs,e,h⟩:=h;exact{kvs,s _ _ e,h}
inductive yT(A:Ï)(vs:List V)(H:Hp)(Q:VK)(Ã:XK):Prop
 |mk(N:Nat->Str)(X:Hp)(v:V)(n:Int)(r:Lr)(z0:vs=[v])(z1:aq X H)(z2:aJ A N X v (.leaf n r))(z3:k5 (.leaf n r)=true)
  (z4:∀(a:Q1)(H':Hp),aq H H'->H a=Xc->aJ A N (Ĉ X H H') (.ref a) (.leaf n r)->Q (.ref a) H'):yT A vs H Q Ã
theorem IS(T:Txt K mg A):T.pX.Hz P w base 5 (yT A):=by
 have QD:=km (P:=P) (w:=w) (mg:=mg) (base:=base) (A:=A) T.iH;refine T.pX.hs (k:=4) vo (λf Ä A' outer s H vs Q E' hr hu h=>?_);obtain⟨N,X,v,n,r,rfl,s0,pa,hk,q⟩:=h;refine⟨_,(af (aN (aZ (Ó aK T.az (fv 0^aS T.du.mg^ae)) (λ_=>rfl))
   (ai (aA (bf T.du (oK T) hr (aw (fv 0) rfl^aw (fv 0) rfl^aw (fv 0) rfl^ae))))
   aG)
  (af (aN (aZ (Ó aK T.az (fv 0^aS T.cL.mg^ae)) (λ_=>rfl))
   (ai (aA (bf T.cL (oM T) hr (aw (fv 0) rfl^aw (fv 0) rfl^aw (fv 0) rfl^aw (fv 0) rfl^ae))))
   aG)
  (af (aN (aZ (Ó aK T.az (fv 0^aS T.cy.mg^ae)) (λ_=>rfl))
   (ai (aA (bf T.cy (mJ T) hr (aw (fv 0) rfl^aw (fv 0) rfl^aw (fv 0) rfl^ae))))
   aG)
  (af (aN (aZ (Ó aK T.az (fv 0^aS T.bQ.mg^ae)) (λ_=>rfl))
   (ai (aA (bf T.bQ (oU T) hr (aw (fv 0) rfl^aw (fv 0) rfl^aw (fv 0) rfl^aw (fv 0) rfl^ae))))
   aG)
  (af (aN (aZ (Ó aK T.az (fv 0^aS T.bD.mg^ae)) (λ_=>rfl))
   (ai (aA (bf T.bD (nF T) hr (aw (fv 0) rfl^aw (fv 0) rfl^aw (fv 0) rfl^ae))))
   aG)
  (ai (aA (bf T.fo QD hr (aw (fv 0) rfl^ae))))))))),?_⟩
 have ā:=pa;unfold aJ at ā;obtain⟨a,dx,p,rfl,h1,h2⟩:=ā;cases r with
 |set x val=>
  refine ao λM1 K1=>dA T s0 pa (j:=5) rfl (bp (Å (s0 _ _ h1) T.du.cl T.fG rfl (Å (s0 _ _ h1) T.du.cl T.gF rfl (Å (s0 _ _ h1) T.du.cl T.fU rfl (λr6 č Í hd_ hne_=>{_,_,_,_,_,_,rfl,rfl,Í,hd_,λH6 s6 hx=>{rfl,q r6 H6 s6 Í ?_}})))));unfold aJ;exact{r6,č,p,rfl,er Í hx,λo ho=>ug (s0.trans s6) _ _ (h2 o ho)}
 |put x pl val=>
  refine ao λM1 K1=>bN T s0 pa (j:=5) (by simp[Pt.ci,Lr.ci]) (aT (K1 _ _ ?_));clear K1 M1;refine ao λM1 K1=>dA T s0 pa (j:=6) rfl (bp (Å (s0 _ _ h1) T.cL.cl T.fL rfl (Å (s0 _ _ h1) T.cL.cl T.gA rfl (Å (s0 _ _ h1) T.cL.cl T.fW rfl (Å (s0 _ _ h1) T.cL.cl T.fX rfl (λr6 č Í hd_ hne_=>{_,_,_,_,_,_,_,rfl,rfl,Í,hd_,λH6 s6 hx=>{rfl,q r6 H6 s6 Í ?_}}))))));unfold aJ;exact{r6,č,p,rfl,er Í hx,λo ho=>ug (s0.trans s6) _ _ (h2 o ho)}
 |snd h val=>
  refine ao λM1 K1=>bN T s0 pa (j:=5) (by simp[Pt.ci,Lr.ci]) (aT (K1 _ _ ?_));clear K1 M1;refine ao λM1 K1=>bN T s0 pa (j:=6) (by simp[Pt.ci,Lr.ci]) (aT (K1 _ _ ?_));clear K1 M1;refine ao λM1 K1=>dA T s0 pa (j:=7) rfl (bp (Å (s0 _ _ h1) T.cy.cl T.fq rfl (Å (s0 _ _ h1) T.cy.cl T.iY rfl (Å (s0 _ _ h1) T.cy.cl T.fK rfl (λr6 č Í hd_ hne_=>{_,_,_,_,_,_,rfl,rfl,Í,hd_,λH6 s6 hx=>{rfl,q r6 H6 s6 Í ?_}})))));unfold aJ;exact{r6,č,p,rfl,er Í hx,λo ho=>ug (s0.trans s6) _ _ (h2 o ho)}
 |say x val m=>
  refine ao λM1 K1=>bN T s0 pa (j:=5) (by simp[Pt.ci,Lr.ci]) (aT (K1 _ _ ?_));clear K1 M1;refine ao λM1 K1=>bN T s0 pa (j:=6) (by simp[Pt.ci,Lr.ci]) (aT (K1 _ _ ?_));clear K1 M1;refine ao λM1 K1=>bN T s0 pa (j:=7) (by simp[Pt.ci,Lr.ci]) (aT (K1 _ _ ?_));clear K1 M1;refine ao λM1 K1=>dA T s0 pa (j:=8) rfl (bp (Å (s0 _ _ h1) T.bQ.cl T.cb rfl (Å (s0 _ _ h1) T.bQ.cl T.fw rfl (Å (s0 _ _ h1) T.bQ.cl T.iK rfl (Å (s0 _ _ h1) T.bQ.cl T.gD rfl (λr6 č Í hd_ hne_=>{_,_,_,_,_,_,_,rfl,rfl,Í,hd_,λH6 s6 hx=>{rfl,q r6 H6 s6 Í ?_}}))))));unfold aJ;exact{r6,č,p,rfl,er Í hx,λo ho=>ug (s0.trans s6) _ _ (h2 o ho)}
 |call i ts=>
  refine ao λM1 K1=>bN T s0 pa (j:=5) (by simp[Pt.ci,Lr.ci]) (aT (K1 _ _ ?_));clear K1 M1;refine ao λM1 K1=>bN T s0 pa (j:=6) (by simp[Pt.ci,Lr.ci]) (aT (K1 _ _ ?_));clear K1 M1;refine ao λM1 K1=>bN T s0 pa (j:=7) (by simp[Pt.ci,Lr.ci]) (aT (K1 _ _ ?_));clear K1 M1;refine ao λM1 K1=>bN T s0 pa (j:=8) (by simp[Pt.ci,Lr.ci]) (aT (K1 _ _ ?_));clear K1 M1;refine ao λM1 K1=>dA T s0 pa (j:=9) rfl (bp (Å (s0 _ _ h1) T.bD.cl T.cR rfl (Å (s0 _ _ h1) T.bD.cl T.cE rfl (Å (s0 _ _ h1) T.bD.cl T.fk rfl (λr6 č Í hd_ hne_=>{_,_,_,_,_,_,_,rfl,rfl,Í,hd_,À.of (s0 _ _ (h2 _ rfl)),λn6 H6 f6 s6 h6 hx=>{rfl,q r6 H6 s6 Í ?_}})))));unfold aJ;exact{r6,č,n6,rfl,er Í hx,λo ho=>by cases ho;exact er f6 h6}
 |last=>
  refine ao λM1 K1=>bN T s0 pa (j:=5) (by simp[Pt.ci,Lr.ci]) (aT (K1 _ _ ?_));clear K1 M1;refine ao λM1 K1=>bN T s0 pa (j:=6) (by simp[Pt.ci,Lr.ci]) (aT (K1 _ _ ?_));clear K1 M1;refine ao λM1 K1=>bN T s0 pa (j:=7) (by simp[Pt.ci,Lr.ci]) (aT (K1 _ _ ?_));clear K1 M1;refine ao λM1 K1=>bN T s0 pa (j:=8) (by simp[Pt.ci,Lr.ci]) (aT (K1 _ _ ?_));clear K1 M1;refine ao λM1 K1=>bN T s0 pa (j:=9) (by simp[Pt.ci,Lr.ci]) (aT (K1 _ _ ?_));clear K1 M1;refine Å (s0 _ _ h1) T.fo.cl T.dQ rfl (λr6 č Í hd_ hne_=>{_,_,_,_,_,rfl,av,T.fo.cl,T.dQ,∅,{rfl,q r6 _ (aq.out (aq.out (aq.upd hd_ _) Í _) Í _) Í ?_}});unfold aJ;exact{r6,č,p,rfl,er Í av,λo ho=>by cases ho}
 |_=>cases hk
inductive sP(A:Ï)(d:Nat)(vs:List V)(H:Hp)(Q:VK)(Ã:XK):Prop
 |mk(N:Nat->Str)(X:Hp)(v:V)(DA DK:Q1)(t:Pt)(idx:List Nat)(kn:Nat->Int)(ab:Int->Bool)(z0:vs=[v,.ref DA,.ref DK])(z1:aq X H)(z3:aJ A N X v t)(z4:dep t<=d)(z5:ß idx t)(z9:Ċ t)(z10:ø t)(z6:lj N H DK idx λi=>.int (kn i))(z7:xc H DA ab)
  (z8:∀(a:Q1)(H':Hp),aq H H'->H a=Xc->aJ A N (Ĉ X H H') (.ref a) (Á ab kn t)->Q (.ref a) H'):sP A d vs H Q Ã
inductive qm(A:Ï)(d c:Nat)(vs:List V)(H:Hp)(Q:VK)(Ã:XK):Prop
 |mk(N:Nat->Str)(X:Hp)(v:V)(DA DK:Q1)(t:Pt)(idx:List Nat)(kn:Nat->Int)(ab:Int->Bool)(z0:vs=[v,.ref DA,.ref DK])(z1:aq X H)(z3:aJ A N X v t)(z4:dep t<=d)(z5:ß idx t)(z9:Ċ t)(z10:ø t)(z6:lj N H DK idx λi=>.int (kn i))(z7:xc H DA ab)(z11:t.ci=c)
  (z8:∀(a:Q1)(H':Hp),aq H H'->H a=Xc->aJ A N (Ĉ X H H') (.ref a) (Á ab kn t)->Q (.ref a) H'):qm A d c vs H Q Ã
inductive nQ(A:Ï)(d:Nat)(vs:List V)(H:Hp)(Q:VK)(Ã:XK):Prop
 |mk(N:Nat->Str)(X:Hp)(L DA DK:Q1)(xs:List V)(ts:List Pt)(idx:List Nat)(kn:Nat->Int)(ab:Int->Bool)(z0:vs=[.ref L,.ref DA,.ref DK])(z1:aq X H)(z2:X L=Xb (.lst xs))(z3:bc A N X xs ts)(z4:gw ts<=d)(z5:fC idx ts)(z12:ts.length<=900)(z9:ix ts)(z10:fE ts)(z6:lj N H DK idx λi=>.int (kn i))(z7:xc H DA ab)
  (z8:∀(R:Q1)(ys:List V)(H':Hp),aq H H'->H R=Xc->H' R=Xb (.lst ys)->bc A N (Ĉ X H H') ys (bq ab kn ts)->Q (.ref R) H'):nQ A d vs H Q Ã
theorem zk(T:Txt K mg A)(d j:Nat)(QS:T.lL.Hz P w base j (sP A d)):T.d7.Hz P w base (j+1) (nQ A d):=by
 refine T.d7.hs (k:=j) jg (λf Ä A' outer s H vs Q E' hr hu h=>?_);obtain⟨N,X,L,DA,DK,xs,ts,idx,kn,ab,rfl,s0,hL,pt,dp,ck,ln,lo,kr,hK,hA,q⟩:=h;refine{_,(ai (aA (dF (N:=["row","above","known"]) (own:=1) (fr:=[1,2]) (b4.of (by kernel_rfl!)) rfl (br (fv 0)) (λb=>Õ (i:=0) (show Rr (["row","above","known"]:List RF) by decide+kernel) rfl) (λb=>fP) (λb=>aj (hj:=by lia) QS hr (fv 0^fv 1^fv 2^ae))))),?_};have lx:=pt.len;refine N6 {{_,À.of (s0 _ _ hL)},pZ (K:=K) (own:=1) (λD i ys H'=>Paired (λt y=>aJ A N (Ĉ X (upd H D (.lst [])) H') y (Á ab kn t)) (ts.take i) ys) (À.of (s0 _ _ hL)) (aH ()) (λD hD=>.nil) ?_ ?_}
 ·rintro b D i x v0 Hc ys Nn Y hx hv hD sc eD pr no yes;obtain⟨u0,rfl⟩:∃u0,v0=[u0]:=by
   match v0,hv with
   | [u],_=>exact⟨u,rfl⟩
  obtain⟨t,ht,pa⟩:=pt.get hx;have mt:t∈ts:=Oe ht;refine sP.mk N X x DA DK t idx kn ab rfl (s0.trans sc) pa (Ol (jb mt) dp) (mY ck mt) (qc lo mt) (yv kr mt) (hK.same sc) (hA.same sc) (λa H' s1 ha p1=>yes [Xb x] _ _ rfl s1 ?_);rw[OG,ht];have XD:X D=Xc:=aq.free s0 hD;have up:∀o,aq (Ĉ X (upd H D (.lst [])) H') (Ĉ X (upd H D (.lst [])) (upd H' D o)):=λo=>Bq XD (by rw[av];simp);have dn:∀z,Hc z=Xc->upd H D (.lst []) z=Xc:=λz h=>by
   by_cases e:z=D
   ·rw[e,eD]at h;cases h
   rw[aM e];exact aq.free sc h
  refine Paired.two (Paired.eX pr λt y h=>aJ.same (up _) _ _ (aJ.same (lJ s1) _ _ h)) (.cons ?_ .nil);exact aJ.same (up _) _ _ (aJ.same (lI dn) _ _ p1)
 intro D H' ys hD s1 e1 pr;rw[show ts.take xs.length=ts by rw[lx];exact Ov]at pr;refine q D ys H' s1 hD e1 ?_;rw[u6];refine bc.of (eE _ (Paired.eX pr λt y h=>aJ.same (lI λz hz=>?_) _ _ h));by_cases e:z=D
 ·rw[e];exact hD
 rw[aM e]at hz;exact hz
theorem Jh{H:Hp}{D:Q1}{ab:Int->Bool}{n:Int}{R:Bool->Hp->Prop}(h:xc H D ab)(q:R (ab n) H):fIn K false (.int n) (.ref D) H (λx H'=>blI x H' R)\/∃a o,V.ref D=.ref a/\mB H a (.int n) o/\blI (.bl o.isSome) H R:=by
 obtain⟨kvs,e,k⟩:=h;refine Oo {D,_,rfl,mB.k (k:=.inl n) e,_,rfl,?_};rw[k n];exact q
theorem GD(T:Txt K mg A)(d j:Nat)(hj4:2*d+3<=j)(h5:5<=j)(M9:T.d7.Hz P w base j (ε (nQ A) d)):T.oa.Hz P w base (j+1) (qm A d 11):=by
 refine T.oa.hs (k:=j) cN (λf Ä A' outer s H vs Q E' hr hu h=>?_);obtain⟨N,X,v,DA,DK,t,idx,kn,ab,rfl,s0,pa,dp,ck,lo,kr,hK,hA,ec,q⟩:=h;refine⟨_,(af (Æ 3 cN.nd (aw (fv 0) rfl))
  (af (Æ 4 cN.nd (aw (fv 0) rfl))
  (af (aN (Ð (DW hu) (aw (fv 0) rfl) (fv 1) ((by with_unfolding_all rfl)))
   (af (Æ 5 cN.nd (aj (hj:=by lia) (tu T d) hr (aw (fv 0) rfl^fv 2^ae)))
   (af (Æ 6 cN.nd (aj (hj:=by lia) (tu T d) hr (aw (fv 0) rfl^fv 2^ae)))
   (af (Æ 7 cN.nd (Ó uL T.oT (ax aO (fv 3) (fv 5)^ax aO (fv 4) (fv 6)^ae)))
   (af (Æ 3 cN.nd (ax oR (fv 7) (fv 5)))
   (ai (Æ 4 cN.nd (ax oR (fv 7) (fv 6))))))))
   aG)
  (af (Æ 8 cN.nd (aj (hj:=by lia) M9 hr (aw (fv 0) rfl^fv 1^fv 2^ae)))
  (ai (aA (bf (hj:=by lia) T.aQ (qu T) hr (aw (fv 0) rfl^aw (fv 0) rfl^fv 8^(aj (hj:=by lia) M9 hr (aw (fv 0) rfl^fv 1^fv 2^ae))^fv 3^fv 4^ae)))))))),?_⟩
 cases t with
 |leaf n r=>cases r<;>cases ec
 |loop _ _ _ _ _ _=>cases ec
 |aX _ _ _ _=>cases ec
 |iff n val l r fs os=>
 unfold aJ at pa;obtain⟨a,dx,p,pf,po,xf,xo,rfl,h1,h2,h3,h4,h5',h6⟩:=pa;unfold dep at dp;unfold ß at ck;unfold Ċ at lo;unfold ø at kr;unfold Á at q;cases d with
 |zero=>lia
 |succ d=>
 refine ao λM1 K1=>Å (s0 _ _ h1) T.aQ.cl T.dg rfl (K1 _ _ ?_);clear K1 M1;rfl'
 refine ao λM1 K1=>Å (s0 _ _ h1) T.aQ.cl T.dC rfl (K1 _ _ ?_);clear K1 M1;rfl'
 refine ao λM1 K1=>?_;have tail:∀(H1:Hp)(l' r':Int)(v5 v6 v7:Option V),aq H H1->ĕ ab n l r (aR kn fs) (aR kn os)=(l',r')->M1 [Xb (.ref a),Xb (.ref DA),Xb (.ref DK),Xb (.int l'),Xb (.int r'),v5,v6,v7,Xc] H1:=by
  intro H1 l' r' v5 v6 v7 s1 ee;refine K1 _ _ ?_;have sX:=s0.trans s1;rw[ee]at q;rfl'
  refine ao λM2 K2=>Å (sX _ _ h1) T.aQ.cl T.cz rfl {N,X,pf,DA,DK,xf,fs,idx,kn,ab,rfl,sX,h3,h5',(),ck.1,lo.1,lo.2.2.1,kr.1,hK.same s1,hA.same s1,λR1 y1 H2 s2 n2 e2 p2=>K2 _ _ ?_};clear K2 M2;have Ϩ:=sX.trans s2;rfl'
  refine Å (Ϩ _ _ h1) T.aQ.cl T.dP rfl (Å (Ϩ _ _ h1) T.aQ.cl T.gz rfl (Å (Ϩ _ _ h1) T.aQ.cl T.cA rfl {N,X,po,DA,DK,xo,os,idx,kn,ab,rfl,Ϩ,h4,h6,(),ck.2,lo.2.1,lo.2.2.2,kr.2,hK.same (s1.trans s2),hA.same (s1.trans s2),λR2 y2 H3 s3 n3 e3 p3 r6 č Í hd_ hne_=>{_,_,_,_,_,_,_,_,_,_,_,rfl,rfl,Í,hd_,À.of (s3 _ _ e2),À.of e3,λn6 n7 H6 f6 f7 s6 h6' h7' hx=>{rfl,q r6 H6 (((s1.trans s2).trans s3).trans s6) (aq.free ((s1.trans s2).trans s3) Í) ?_}}}));have t3:=(s1.trans s2).trans s3;unfold aJ;refine{r6,č,p,n6,n7,y1,y2,rfl,er (aq.free t3 Í) hx,ug ((s0.trans t3).trans s6) _ _ h2,er (aq.free t3 f6) h6',er (aq.free t3 f7) h7',bc.same ((lI (Xo s1)).trans (lJ (s3.trans s6))) _ _ p2,?_};exact bc.same ((lI (Xo (s1.trans s2))).trans (lJ s6)) _ _ p3
 refine Å (s0 _ _ h1) T.aQ.cl T.dP rfl (Jh hA ?_);cases c:ab n with
 |false=>
  refine aT (tail H l r _ _ _ (aq.refl _) ?_);unfold ĕ;rw[c];rfl
 |true=>
  refine bp (ao λM2 K2=>Å (s0 _ _ h1) T.aQ.cl T.cz rfl {N,X,pf,DK,xf,fs,idx,kn,rfl,s0,h3,h5',(),ck.1,lo.1,lo.2.2.1,hK,λH1 s1=>K2 _ _ ?_});clear K2 M2;rfl'
  refine ao λM2 K2=>Å ((s0.trans s1) _ _ h1) T.aQ.cl T.cA rfl {N,X,po,DK,xo,os,idx,kn,rfl,s0.trans s1,h4,h6,(),ck.2,lo.2.1,lo.2.2.2,hK.same s1,λH2 s2=>K2 _ _ ?_};clear K2 M2;rfl'
  refine ao λM2 K2=>{_,_,rfl,K2 _ _ ?_};clear K2 M2;rfl'
  refine ao λM2 K2=>K2 _ _ ?_;clear K2 M2;rfl'
  refine tail H2 _ _ _ _ _ (s1.trans s2) ?_;unfold ĕ mx;rw[c];rfl
theorem Ac(T:Txt K mg A)(d j:Nat)(hj4:2*d+3<=j)(h5:5<=j)(M9:T.d7.Hz P w base j (ε (nQ A) d)):T.jF.Hz P w base (j+1) (qm A d 12):=by
 refine T.jF.hs (k:=j) dY (λf Ä A' outer s H vs Q E' hr hu h=>?_);obtain⟨N,X,v,DA,DK,t,idx,kn,ab,rfl,s0,pa,dp,ck,lo,kr,hK,hA,ec,q⟩:=h;refine⟨_,(af (Æ 3 dY.nd (aw (fv 0) rfl))
  (af (Æ 4 dY.nd (aw (fv 0) rfl))
  (af (aN (Ð (DW hu) (aw (fv 0) rfl) (fv 1) ((by with_unfolding_all rfl)))
   (af (Æ 5 dY.nd (aj (hj:=by lia) (tu T d) hr (aw (fv 0) rfl^fv 2^ae)))
   (af (Æ 4 dY.nd (Ó uL T.oT (ax aO (fv 3) (fv 5)^fv 4^ae)))
   (ai (Æ 3 dY.nd (ax oR (fv 4) (fv 5))))))
   aG)
  (ai (aA (bf (hj:=by lia) T.aI (nP T) hr (aw (fv 0) rfl^aw (fv 0) rfl^aw (fv 0) rfl^(aj (hj:=by lia) M9 hr (aw (fv 0) rfl^fv 1^fv 2^ae))^fv 3^fv 4^ae))))))),?_⟩
 cases t with
 |leaf n r=>cases r<;>cases ec
 |iff _ _ _ _ _ _=>cases ec
 |aX _ _ _ _=>cases ec
 |loop n th m l r b=>
 unfold aJ at pa;obtain⟨a,dx,pb,xb,rfl,h1,h2,h3⟩:=pa;unfold dep at dp;unfold ß at ck;unfold Ċ at lo;unfold ø at kr;unfold Á at q;cases d with
 |zero=>lia
 |succ d=>
 refine ao λM1 K1=>Å (s0 _ _ h1) T.aI.cl T.cV rfl (K1 _ _ ?_);clear K1 M1;rfl'
 refine ao λM1 K1=>Å (s0 _ _ h1) T.aI.cl T.cf rfl (K1 _ _ ?_);clear K1 M1;rfl'
 refine ao λM1 K1=>?_;have tail:∀(H1:Hp)(l' r':Int)(v5:Option V),aq H H1->Ĕ ab n l r (aR kn b)=(l',r')->M1 [Xb (.ref a),Xb (.ref DA),Xb (.ref DK),Xb (.int l'),Xb (.int r'),v5] H1:=by
  intro H1 l' r' v5 s1 ee;refine K1 _ _ ?_;have sX:=s0.trans s1;rw[ee]at q;rfl'
  refine Å (sX _ _ h1) T.aI.cl T.cQ rfl (Å (sX _ _ h1) T.aI.cl T.fH rfl (Å (sX _ _ h1) T.aI.cl T.dX rfl (Å (sX _ _ h1) T.aI.cl T.b5 rfl {N,X,pb,DA,DK,xb,b,idx,kn,ab,rfl,sX,h2,h3,(),ck.2.2,lo.1,lo.2,kr,hK.same s1,hA.same s1,λR2 y2 H3 s3 n3 e3 p3 r6 č Í hd_ hne_=>{_,_,_,_,_,_,_,_,_,_,rfl,rfl,Í,hd_,À.of e3,λn6 H6 f6 s6 h6' hx=>{rfl,q r6 H6 ((s1.trans s3).trans s6) (aq.free (s1.trans s3) Í) ?_}}})));unfold aJ;exact{r6,č,n6,y2,rfl,er (aq.free (s1.trans s3) Í) hx,er (aq.free (s1.trans s3) f6) h6',bc.same ((lI (Xo s1)).trans (lJ s6)) _ _ p3}
 refine Å (s0 _ _ h1) T.aI.cl T.cQ rfl (Jh hA ?_);cases c:ab n with
 |false=>
  refine aT (tail H l r _ (aq.refl _) ?_);unfold Ĕ;rw[c];rfl
 |true=>
  refine bp (ao λM2 K2=>Å (s0 _ _ h1) T.aI.cl T.b5 rfl {N,X,pb,DK,xb,b,idx,kn,rfl,s0,h2,h3,(),ck.2.2,lo.1,lo.2,hK,λH1 s1=>K2 _ _ ?_});clear K2 M2;rfl'
  refine ao λM2 K2=>{_,_,rfl,K2 _ _ ?_};clear K2 M2;rfl'
  refine tail H1 _ _ _ s1 ?_;unfold Ĕ mx;rw[c];rfl
theorem BL(T:Txt K mg A)(d j:Nat)(h5:5<=j)(QT:T.oa.Hz P w base j (qm A d 11))(QR:T.jF.Hz P w base j (qm A d 12)):T.lL.Hz P w base (j+1) (sP A d):=by
 refine T.lL.hs (k:=j) vq (λf Ä A' outer s H vs Q E' hr hu h=>?_);obtain⟨N,X,v,DA,DK,t,idx,kn,ab,rfl,s0,pa,dp,ck,lo,kr,hK,hA,q⟩:=h;refine⟨_,(af (aN (aZ (Ó aK T.az (fv 0^aS T.aQ.mg^ae)) (λ_=>rfl))
   (ai (aA (aj (hj:=by lia) QT hr (fv 0^fv 1^fv 2^ae))))
   aG)
  (af (aN (aZ (Ó aK T.az (fv 0^aS T.aI.mg^ae)) (λ_=>rfl))
   (ai (aA (aj (hj:=by lia) QR hr (fv 0^fv 1^fv 2^ae))))
   aG)
  (ai (aA (aj (hj:=by lia) (IS T) hr (fv 0^ae)))))),?_⟩
 by_cases è:t.ci=11
 ·exact ao λM1 K1=>dA T s0 pa è (bp ⟨N,X,v,DA,DK,t,idx,kn,ab,rfl,s0,pa,dp,ck,lo,kr,hK,hA,è,q⟩)
 refine ao λM1 K1=>bN T s0 pa è (aT (K1 _ _ ?_));clear K1 M1;by_cases ê:t.ci=12
 ·exact ao λM1 K1=>dA T s0 pa ê (bp ⟨N,X,v,DA,DK,t,idx,kn,ab,rfl,s0,pa,dp,ck,lo,kr,hK,hA,ê,q⟩)
 refine ao λM1 K1=>bN T s0 pa ê (aT (K1 _ _ ?_));cases t with
 |leaf n r=>
  unfold ø at kr;unfold Á at q;exact⟨N,X,v,n,r,rfl,s0,pa,kr,q⟩
 |iff _ _ _ _ _ _=>exact absurd rfl è
 |loop _ _ _ _ _ _=>exact absurd rfl ê
 |aX _ _ _ _=>unfold ø at kr;exact kr.elim
theorem sU(T:Txt K mg A):∀d,T.d7.Hz P w base (3*d+8) (nQ A d)
 |0=>zk T 0 7 (BL T 0 6 () (GD T 0 5 () () (T.d7.hs (k:=4) jg (λ_ _ _ _ _ _ _ _ _ _ _ h=>h.elim) (λ_ _ _ _ h=>h.elim))) (Ac T 0 5 () () (T.d7.hs (k:=4) jg (λ_ _ _ _ _ _ _ _ _ _ _ h=>h.elim) (λ_ _ _ _ h=>h.elim))))
 |d+1=>zk T (d+1) (3*d+10) (BL T (d+1) (3*d+9) () (GD T (d+1) (3*d+8) () () (sU T d)) (Ac T (d+1) (3*d+8) () () (sU T d)))
def J7:Pt->Bool
 | .leaf _ (.hand _ _)=>true
 | .leaf _ (.ĺ _ _ _)=>true
 | .leaf _ (.own _ _)=>true
 | .leaf _ (.lt _ _)=>true
 |_=>false
inductive uW(A:Ï)(vs:List V)(H:Hp)(Q:VK)(Ã:XK):Prop
 |mk(N:Nat->Str)(X:Hp)(v:V)(t:Pt)(z0:vs=[v])(z1:aq X H)(z2:aJ A N X v t)(z3:J7 t=true)
  (z4:∀(a:Q1)(H':Hp),aq H H'->H a=Xc->aJ A N (Ĉ X H H') (.ref a) t->Q (.ref a) H'):uW A vs H Q Ã
theorem GU(T:Txt K mg A):T.rF.Hz P w base 5 (uW A):=by
 refine T.rF.hs (k:=4) xJ (λf Ä A' outer s H vs Q E' hr hu h=>?_);obtain⟨N,X,v,t,rfl,s0,pa,hk,q⟩:=h;refine⟨_,(af (aN (aZ (Ó aK T.az (fv 0^aS T.dJ.mg^ae)) (λ_=>rfl))
   (ai (aA (bf T.dJ (jq T) hr (aw (fv 0) rfl^aw (fv 0) rfl^aw (fv 0) rfl^ae))))
   aG)
  (af (aN (aZ (Ó aK T.az (fv 0^aS T.bI.mg^ae)) (λ_=>rfl))
   (ai (aA (bf T.bI (gR T) hr (aw (fv 0) rfl^aw (fv 0) rfl^aw (fv 0) rfl^aw (fv 0) rfl^ae))))
   aG)
  (af (aN (aZ (Ó aK T.az (fv 0^aS T.dI.mg^ae)) (λ_=>rfl))
   (ai (aA (bf T.dI (ke T) hr (aw (fv 0) rfl^aw (fv 0) rfl^aw (fv 0) rfl^ae))))
   aG)
  (ai (aA (bf T.dj (oW T) hr (aw (fv 0) rfl^aw (fv 0) rfl^aw (fv 0) rfl^ae))))))),?_⟩
 cases t with
 |leaf n r=>
  have ā:=pa;unfold aJ at ā;obtain⟨a,dx,p,rfl,h1,h2⟩:=ā;cases r with
  |hand i rk=>
   refine ao λM1 K1=>dA T s0 pa (j:=1) rfl (bp (Å (s0 _ _ h1) T.dJ.cl T.fm rfl (Å (s0 _ _ h1) T.dJ.cl T.iI rfl (Å (s0 _ _ h1) T.dJ.cl T.i5 rfl (λr6 č Í hd_ hne_=>{_,_,_,_,_,_,rfl,rfl,Í,hd_,λH6 s6 hx=>{rfl,q r6 H6 s6 Í ?_}})))));unfold aJ;exact{r6,č,p,rfl,er Í hx,λo ho=>by cases ho}
  |ĺ i rk z=>
   refine ao λM1 K1=>bN T s0 pa (j:=1) (by simp[Pt.ci,Lr.ci]) (aT (K1 _ _ ?_));clear K1 M1;refine ao λM1 K1=>dA T s0 pa (j:=2) rfl (bp (Å (s0 _ _ h1) T.bI.cl T.fb rfl (Å (s0 _ _ h1) T.bI.cl T.eJ rfl (Å (s0 _ _ h1) T.bI.cl T.fJ rfl (Å (s0 _ _ h1) T.bI.cl T.gS rfl (λr6 č Í hd_ hne_=>{_,_,_,_,_,_,_,rfl,rfl,Í,hd_,λH6 s6 hx=>{rfl,q r6 H6 s6 Í ?_}}))))));unfold aJ;exact{r6,č,p,rfl,er Í hx,λo ho=>by cases ho}
  |own i z=>
   refine ao λM1 K1=>bN T s0 pa (j:=1) (by simp[Pt.ci,Lr.ci]) (aT (K1 _ _ ?_));clear K1 M1;refine ao λM1 K1=>bN T s0 pa (j:=2) (by simp[Pt.ci,Lr.ci]) (aT (K1 _ _ ?_));clear K1 M1;refine ao λM1 K1=>dA T s0 pa (j:=3) rfl (bp (Å (s0 _ _ h1) T.dI.cl T.fI rfl (Å (s0 _ _ h1) T.dI.cl T.gH rfl (Å (s0 _ _ h1) T.dI.cl T.jN rfl (λr6 č Í hd_ hne_=>{_,_,_,_,_,_,rfl,rfl,Í,hd_,λH6 s6 hx=>{rfl,q r6 H6 s6 Í ?_}})))));unfold aJ;exact{r6,č,p,rfl,er Í hx,λo ho=>by cases ho}
  |lt i rk=>
   refine ao λM1 K1=>bN T s0 pa (j:=1) (by simp[Pt.ci,Lr.ci]) (aT (K1 _ _ ?_));clear K1 M1;refine ao λM1 K1=>bN T s0 pa (j:=2) (by simp[Pt.ci,Lr.ci]) (aT (K1 _ _ ?_));clear K1 M1;refine ao λM1 K1=>bN T s0 pa (j:=3) (by simp[Pt.ci,Lr.ci]) (aT (K1 _ _ ?_));clear K1 M1;refine Å (s0 _ _ h1) T.dj.cl T.fM rfl (Å (s0 _ _ h1) T.dj.cl T.fA rfl (Å (s0 _ _ h1) T.dj.cl T.gG rfl (λr6 č Í hd_ hne_=>{_,_,_,_,_,_,rfl,rfl,Í,hd_,λH6 s6 hx=>{rfl,q r6 H6 s6 Í ?_}})));unfold aJ;exact{r6,č,p,rfl,er Í hx,λo ho=>by cases ho}
  |_=>cases hk
 |_=>cases hk
inductive uH(A:Ï)(d:Nat)(vs:List V)(H:Hp)(Q:VK)(Ã:XK):Prop
 |mk(N:Nat->Str)(X:Hp)(v:V)(DA DK:Q1)(n:Int)(i:Nat)(ps:List Nat)(b:List Pt)(idx:List Nat)(kn:Nat->Int)(ab:Int->Bool)(z0:vs=[v,.ref DA,.ref DK])(z1:aq X H)(z3:aJ A N X v (.aX n i ps b))(z4:gw b<=d)(z5:fC idx b)(z12:b.length<=900)(z9:ix b)(z10:fE b)(z6:lj N H DK idx λi=>.int (kn i))(z7:xc H DA ab)
  (z8:∀(a:Q1)(H':Hp),aq H H'->H a=Xc->aJ A N (Ĉ X H H') (.ref a) (.aX n i ps (bq ab kn b))->Q (.ref a) H'):uH A d vs H Q Ã
theorem HK(T:Txt K mg A)(d:Nat):T.rR.Hz P w base (3*d+9) (uH A d):=by
 refine T.rR.hs (k:=3*d+8) xn (λf Ä A' outer s H vs Q E' hr hu h=>?_);obtain⟨N,X,v,DA,DK,n,i,ps,b,idx,kn,ab,rfl,s0,pa,dp,ck,ln,lo,kr,hK,hA,q⟩:=h;refine{_,(ai (aA (bf (hj:=by lia) T.bh (jd T) hr (aw (fv 0) rfl^aw (fv 0) rfl^aw (fv 0) rfl^(aj (hj:=by lia) (sU T d) hr (aw (fv 0) rfl^fv 1^fv 2^ae))^ae)))),?_};unfold aJ at pa;obtain⟨a,dx,pp,pb,xb,rfl,h1,h2,h3,h4⟩:=pa;refine Å (s0 _ _ h1) T.bh.cl T.ft rfl (Å (s0 _ _ h1) T.bh.cl T.bR rfl (Å (s0 _ _ h1) T.bh.cl T.eG rfl (Å (s0 _ _ h1) T.bh.cl T.cD rfl {N,X,pb,DA,DK,xb,b,idx,kn,ab,rfl,s0,h3,h4,dp,ck,ln,lo,kr,hK,hA,λR2 y2 H3 s3 n3 e3 p3 r6 č Í hd_ hne_=>{_,_,_,_,_,_,_,_,_,rfl,rfl,Í,hd_,À.of ((s0.trans s3) _ _ h2),À.of e3,λn6 n7 H6 f6 f7 s6 h6 h7 hx=>{rfl,q r6 H6 (s3.trans s6) (aq.free s3 Í) ?_}}})));unfold aJ;exact{r6,č,n6,n7,y2,rfl,er (aq.free s3 Í) hx,er (aq.free s3 f6) h6,er (aq.free s3 f7) h7,bc.same (lJ s6) _ _ p3}
structure OkE(N:Nat->Str)(d:Nat)(hs ds ms:List Pt):Prop where
 u:OkU N d hs ds ms
 hd:∀p∈hs,J7 p=true
 db:∀p∈ds,(b7 p).length<=900/\ix (b7 p)/\fE (b7 p)/\fC (ds.map ç) (b7 p)
 ml:ms.length<=900
 mlo:ix ms
 mk5:fE ms
 mck:fC (ds.map ç) ms
def ó(N:Nat->Str)(hs ds ms:List Pt)(fl:Int)(n:Int):Bool:=decide (n∈(jv N hs ds ms fl).map λe=>e.1.no)
theorem F7{H:Hp}:∀{es:List Le}{ys:List V},Paired (λ(e:Le) y=>∃t,y=V.ref t/\H t=Xb (.tup [.int e.1.no,.bl true])) es ys->∃ps:List Q1,ys=ps.map V.ref/\ps.length=es.length/\∀(i:Nat) t k v,ps[i]?=Xb t->(sk ((es.map λe=>e.1.no).map Pl) λ_=>.bl true)[i]?=Xb (k,v)->H t=Xb (.tup [kV k,v])
 |_,_,.nil=>{[],rfl,rfl,(λi t k v h=>by simp at h)}
 |_,_,.cons h r=>by
  obtain⟨t,rfl,h1⟩:=h;obtain⟨ps,e1,e2,e3⟩:=F7 r;refine{t::ps,by rw[e1];rfl,by simp[e2],λi t' k v ht hk=>?_};cases i with
  |zero=>cases ht;cases hk;exact h1
  |succ i=>exact e3 i t' k v ht hk
theorem GY{n:Int}{ns:List Int}:(Pl n:Key)∈ns.map Pl↔n∈ns:=by
 constructor
 ·intro h;obtain⟨m,a,e⟩:=Oq.mp h;exact Pl.inj e▸a
 exact λh=>OJ h
inductive rP(A:Ï)(d:Nat)(vs:List V)(H:Hp)(Q:VK)(Ã:XK):Prop
 |mk(N:Nat->Str)(X:Hp)(v:V)(fl:Int)(hs ds ms:List Pt)(z0:vs=[v,.int fl])(z1:aq X H)(z2:jx A N X v hs ds ms)(z3:OkE N d hs ds ms)
  (z4:∀(a:Q1)(H':Hp),aq H H'->jx A N H' (.ref a) hs (ds.map (Á (ó N hs ds ms fl) (È aR 0 ds))) (bq (ó N hs ds ms fl) (È aR 0 ds) ms)->Q (.ref a) H'):rP A d vs H Q Ã
theorem yS(T:Txt K mg A)(d:Nat):T.Bg.Hz P w base (3*d+13) (rP A d):=by
 refine T.Bg.hs (k:=3*d+12) kR (λf Ä A' outer s H vs Q E' hr hu h=>?_);obtain⟨N,X,v,fl,hs,ds,ms,rfl,s0,pg,O,q⟩:=h;obtain⟨a,dx,n0,n1,n2,x0,x1,x2,rfl,ha,e0,e1,e2,p0,p1,p2⟩:=id pg;refine⟨_,(af (Æ 2 kR.nd (Ĵ p9 T.ng ((dF (N:=["row"]) (own:=1) (fr:=[]) (b4.of (by kernel_rfl!)) rfl (br (aj (hj:=by lia) (Co T d) hr (fv 0^fv 1^ae))) (λb=>Õ (i:=0) (show Rr (["row"]:List RF) by decide+kernel) rfl) (λb=>fP) (λb=>bE (aw (fv 0) rfl^wz^ae)))^ae)))
  (af (Æ 3 kR.nd (aj (hj:=by lia) (IC T d) hr (fv 0^ae)))
  (af (pj (j:=4) (N:=["head"]) (own:=1) (fr:=[]) (b4.of (by kernel_rfl!)) rfl kR.nd rfl (N6 rfl) (br (aw (fv 0) rfl)) (λb=>Õ (i:=0) (show Rr (["head"]:List RF) by decide+kernel) rfl) (λb=>fP) (λb=>aj (hj:=by lia) (GU T) hr (fv 0^ae)))
  (af (pj (j:=5) (N:=["deed","above","known"]) (own:=1) (fr:=[2,3]) (b4.of (by kernel_rfl!)) rfl kR.nd rfl (N6 rfl) (br (aw (fv 0) rfl)) (λb=>Õ (i:=0) (show Rr (["deed","above","known"]:List RF) by decide+kernel) rfl) (λb=>fP) (λb=>aj (hj:=by lia) (HK T d) hr (fv 0^fv 1^fv 2^ae)))
  (ai (aA (bf (hj:=by lia) T.bF (mU T) hr (fv 4^fv 5^(aj (hj:=by lia) (sU T d) hr (aw (fv 0) rfl^fv 2^fv 3^ae))^ae)))))))),?_⟩
 have ab:=O.u.ab fl;refine ao λM1 K1=>{N,X,.ref a,fl,hs,ds,ms,rfl,s0,pg,O.u.t,λL ys H1 s1 hL eL pr=>?_};have ln:=Q7 pr;refine N6 {{_,À.of eL},dO (K:=K) (own:=1) (jv N hs ds ms fl) (λ_=>true) (λe y H=>∃t,y=V.ref t/\H t=Xb (.tup [.int e.1.no,.bl true])) (À.of eL) ln.symm (aH ()) ?_ ?_ ?_ ?_}
 ·intro b i x e v0 H3 Nn Y hx he hv s3 no yes;obtain⟨u0,rfl⟩:∃u0,v0=[u0]:=by
   match v0,hv with
   | [u],_=>exact⟨u,rfl⟩
  obtain⟨e',Ũ,pa⟩:=bW pr hx;rw[he]at Ũ;cases Ũ;exact dB T ((s0.trans s1).trans s3) pa (show _/\∀p,H3 p=Xc->_ from{by show 2<=sizeLine;decide,λtp ü=>yes rfl [Xb x] _ _ rfl (aq.upd ü _) ⟨tp,rfl,av⟩})
 ·rintro e y H1 H2 s1 ⟨t,e1,h1⟩;exact{t,e1,s1 _ _ h1}
 ·rintro e y H1 D ys zs hD ⟨t,e1,h1⟩;exact{t,e1,aF (λz=>by rw[z,hD]at h1;cases h1) h1}
 intro L2' H2 zs Ϝ s2 eL2 pz;rw[dq]at pz;obtain⟨ps,rfl,k1,k2⟩:=F7 pz;have kl:(sk (((jv N hs ds ms fl).map λe=>e.1.no).map Pl) λ_=>.bl true).length=(jv N hs ds ms fl).length:=by rw[A6,N3,N3]
 refine{L2',ps,_,rfl,À.of eL2,(),(),λi t k v ht hk=>É.of (k2 i t k v ht hk),λDA hDA=>?_};obtain⟨s3,eDA⟩:=Ò hDA (HO.dK (bL [] (sk (((jv N hs ds ms fl).map λe=>e.1.no).map Pl) λ_=>.bl true)));generalize upd H2 DA _=H3 at s3 eDA⊢;rw[show bL [] (sk (((jv N hs ds ms fl).map λe=>e.1.no).map Pl) λ_=>.bl true)=sk (El (((jv N hs ds ms fl).map λe=>e.1.no).map Pl)) λ_=>.bl true from zu _ _ []]at eDA;have hA3:xc H3 DA (ó N hs ds ms fl):=⟨_,eDA,λn=>by
  rw[Ji];unfold ó;exact decide_eq_decide.mpr (Gh.trans GY)⟩
 generalize ó N hs ds ms fl=abf at hA3 q;have t3:=(s1.trans s2).trans s3;refine K1 _ _ ?_;clear K1 M1;rfl'
 refine ao λM1 K1=>{N,X,.ref a,hs,ds,ms,rfl,s0.trans t3,pg,O.u.t.l.dk,λp m=>{(O.db p m).1,(O.db p m).2.1},λDK H4 s4 hDK hK=>?_};generalize È aR 0 ds=kn at hK q;have t4:=t3.trans s4;have sX4:=s0.trans t4;have hA4:=hA3.same s4;have hl:=O.u.t.l.ok.hl;have dln:=O.u.t.l.dk.ln;have l0:=p0.len;have l1:=p1.len;refine K1 _ _ ?_;clear K1 M1;rfl'
 refine ao λM1 K1=>Å (sX4 _ _ ha) T.bF.cl T.eI rfl (N6 {{_,À.of (sX4 _ _ e0)},pZ (K:=K) (own:=1) (λD i ys H'=>Paired (λt y=>aJ A N (Ĉ X (upd H4 D (.lst [])) H') y t) (hs.take i) ys) (À.of (sX4 _ _ e0)) (aH ()) (λD hD=>.nil) ?_ ?_})
 ·rintro b D i x v0 Hc ys Nn Y hx hv hD sc eD pr no yes;obtain⟨u0,rfl⟩:∃u0,v0=[u0]:=by
   match v0,hv with
   | [u],_=>exact⟨u,rfl⟩
  obtain⟨t,ht,pa⟩:=p0.get hx;refine uW.mk N X x t rfl (sX4.trans sc) pa (O.hd t (Oe ht)) (λa H' s1 ha p1=>yes [Xb x] _ _ rfl s1 ?_);rw[OG,ht];have XD:X D=Xc:=aq.free sX4 hD;have up:∀o,aq (Ĉ X (upd H4 D (.lst [])) H') (Ĉ X (upd H4 D (.lst [])) (upd H' D o)):=λo=>Bq XD (by rw[av];simp);have dn:∀z,Hc z=Xc->upd H4 D (.lst []) z=Xc:=λz h=>by
   by_cases e:z=D
   ·rw[e,eD]at h;cases h
   rw[aM e];exact aq.free sc h
  refine Paired.two (Paired.eX pr λt y h=>aJ.same (up _) _ _ (aJ.same (lJ s1) _ _ h)) (.cons ?_ .nil);exact aJ.same (up _) _ _ (aJ.same (lI dn) _ _ p1)
 intro LH H5 yh hLH s5 eLH ph;rw[show hs.take x0.length=hs by rw[l0];exact Ov]at ph;refine K1 _ _ ?_;clear K1 M1;have ph':bc A N H5 yh hs:=bc.of (by simpa using eE (F:=λt y=>aJ A N H5 y t) id (Paired.eX ph λt y h=>aJ.same x4 _ _ h));have t5:=t4.trans s5;have sX5:=s0.trans t5;rfl'
 refine ao λM1 K1=>Å (sX5 _ _ ha) T.bF.cl T.bw rfl (N6 {{_,À.of (sX5 _ _ e1)},pZ (K:=K) (own:=1) (λD i ys H'=>Paired (λt y=>aJ A N (Ĉ X (upd H5 D (.lst [])) H') y (Á abf kn t)) (ds.take i) ys) (À.of (sX5 _ _ e1)) (aH ()) (λD hD=>.nil) ?_ ?_})
 ·rintro b D i x v0 Hc ys Nn Y hx hv hD sc eD pr no yes;obtain⟨u0,rfl⟩:∃u0,v0=[u0]:=by
   match v0,hv with
   | [u],_=>exact⟨u,rfl⟩
  obtain⟨t,ht,pa⟩:=p1.get hx;have mt:=Oe ht;have dt:=O.u.t.l.dk.aX t mt;have db:=O.db t mt;have ddp:=O.u.t.l.dk.dp t mt;cases t with
  |aX n i' ps' b'=>
   refine uH.mk N X x DA DK n i' ps' b' (ds.map ç) kn abf rfl (sX5.trans sc) pa ddp db.2.2.2 db.1 db.2.1 db.2.2.1 (hK.same (s5.trans sc)) (hA4.same (s5.trans sc)) (λa H' s1 ha p1=>yes [Xb x] _ _ rfl s1 ?_);rw[OG,ht];have XD:X D=Xc:=aq.free sX5 hD;have up:∀o,aq (Ĉ X (upd H5 D (.lst [])) H') (Ĉ X (upd H5 D (.lst [])) (upd H' D o)):=λo=>Bq XD (by rw[av];simp);have dn:∀z,Hc z=Xc->upd H5 D (.lst []) z=Xc:=λz h=>by
    by_cases e:z=D
    ·rw[e,eD]at h;cases h
    rw[aM e];exact aq.free sc h
   refine Paired.two (Paired.eX pr λt y h=>aJ.same (up _) _ _ (aJ.same (lJ s1) _ _ h)) (.cons ?_ .nil);rw[show Á abf kn (.aX n i' ps' b')=.aX n i' ps' (bq abf kn b') by rw[Á]];exact aJ.same (up _) _ _ (aJ.same (lI dn) _ _ p1)
  |_=>exact dt.elim
 intro LD H6 yd hLD s6 eLD pd;rw[show ds.take x1.length=ds by rw[l1];exact Ov]at pd;refine K1 _ _ ?_;clear K1 M1;have pd':bc A N H6 yd (ds.map (Á abf kn)):=bc.of (eE (F:=λt y=>aJ A N H6 y t) (Á abf kn) (Paired.eX pd λt y h=>aJ.same x4 _ _ h));have t6:=t5.trans s6;have sX6:=s0.trans t6;rfl'
 exact Å (sX6 _ _ ha) T.bF.cl T.dU rfl {N,X,n2,DA,DK,x2,ms,ds.map ç,kn,abf,rfl,sX6,e2,p2,O.u.t.l.ok.main,O.mck,O.ml,O.mlo,O.mk5,hK.same (s5.trans s6),hA4.same (s5.trans s6),λLM ym H7 s7 hLM eLM pm r6 č Í hd_ hne_=>{_,_,_,_,_,_,_,_,_,rfl,rfl,Í,hd_,À.of ((s6.trans s7) _ _ eLH),À.of (s7 _ _ eLD),À.of eLM,λn6 n7 n8 H8 f6 f7 f8 s8 h6 h7 h8 hx=>{rfl,q r6 H8 (t6.trans (s7.trans s8)) {r6,č,n6,n7,n8,yh,yd,ym,rfl,hx,h6,h7,h8,bc.same ((s6.trans s7).trans s8) _ _ ph',bc.same (s7.trans s8) _ _ pd',bc.same (x4.trans s8) _ _ pm}}}}
def oE(N:Nat->Str):Prop:=∀i j,i<18->j<18->N i=N j->i=j
def dk(N:Nat->Str)(idx:List Nat)(f:Nat->V):List (Key×V):=idx.map λi=>(Oz (N i),f i)
theorem Xz(D:oE N){i j:Nat}(hi:i<18)(hj:j<18)(h:i≠j):(Oz (N i):Key)≠Oz (N j):=λe=>h (D i j hi hj (Oz.inj e))
theorem Ez(D:oE N){f:Nat->V}{i:Nat}:∀{idx:List Nat},(∀j∈idx,j<18)->i∈idx->L2.cK (dk N idx f) (.inr (N i))=Xb (f i)
 |j::r,hb,m=>by
  by_cases e:j=i
  ·subst e;unfold L2.cK dk;rw[Ox,OK];simp
  have hj:=hb j N9;have m':i∈r:=by
   rcases Ob.mp m with z|z
   ·exact absurd z.symm e
   exact z
  have hi:=hb i m;have ih:=Ez D (f:=f) (i:=i) (idx:=r) (λk hk=>hb k (N8 _ hk)) m';unfold L2.cK dk at ih⊢;rw[Ox,OK,decide_eq_false (Xz D hj hi e)];exact ih
theorem JN(D:oE N){f:Nat->V}{i:Nat}(hi:i<18){idx:List Nat}(hb:∀j∈idx,j<18):((dk N idx f).any λkv=>decide (kv.1=(Oz (N i):Key)))=decide (i∈idx):=by
 unfold dk;rw[List.any_map];by_cases m:i∈idx
 ·rw[decide_eq_true m,Pq];exact⟨i,m,decide_eq_true rfl⟩
 rw[decide_eq_false m,VG];intro j hj;show ¬ decide ((Oz (N j):Key)=Oz (N i))=true;rw[decide_eq_false (Xz D (hb j hj) hi (λz=>m (z▸hj)))];exact Of
def G6(f:Nat->V)(i:Nat)(v:V):Nat->V:=λj=>if j=i then v else f j
theorem vX(f:Nat->V)(i:Nat)(v:V):G6 f i v i=v:=if_pos rfl
theorem Cq(f:Nat->V){i j:Nat}(v:V)(h:j≠i):G6 f i v j=f j:=if_neg h
theorem tV(D:oE N){f:Nat->V}{i:Nat}{v:V}{idx:List Nat}(hi:i<18)(hb:∀j∈idx,j<18)(m:i∉idx):Xi (dk N idx f) (.inr (N i)) v=dk N (idx++[i]) (G6 f i v):=by
 unfold Xi;rw[JN D hi hb,decide_eq_false m,if_neg Of];unfold dk;rw[OB,Ox,P2,vX];congr 1;refine O9 λj hj=>?_;rw[Cq _ _ (λz=>m (by rw[<-z];exact hj))]
def In(n:Int):Prop:=0<=n/\n<1000000000000
abbrev opW:List Str:=["+","-","*","over","rest","<","="]
theorem Ll(D:oE N){H:Hp}{d:Q1}{idx:List Nat}{f:Nat->V}(h:Rd H d (.dK (dk N idx f)))(hb:∀j∈idx,j<18){k:Nat}(hk:k∈idx):mB H d (.str (N k)) (Xb (f k)):=by
 rw[<-Ez D (f:=f) hb hk];exact .inl {_,_,h,rfl,rfl}
end
def del(X:List Q1)(H:Hp):Hp:=λa=>if a∈X then Xc else H a
theorem aL{X:List Q1}{H:Hp}:aq (del X H) H:=λa o h=>by
 unfold del at h;split at h
 ·cases h
 exact h
theorem bx{X:List Q1}{H:Hp}{a:Q1}{o:HO}(h:a∉X)(e:H a=Xb o):del X H a=Xb o:=by
 unfold del;rw[if_neg h];exact e
theorem eY{X:List Q1}{H:Hp}{a:Q1}{o:HO}(h:del X H a=Xb o):a∉X/\H a=Xb o:=by
 unfold del at h;split at h
 ·cases h
 exact⟨by assumption,h⟩
structure Go(M:List Q1)(H:Hp)(M':List Q1)(H':Hp):Prop where
 o:∀a o,a∉M->H a=Xb o->H' a=Xb o
 m:∀a∈M',a∈M\/H a=Xc
theorem Go.trans{M M1 M2:List Q1}{H H1 H2:Hp}(g:Go M H M1 H1)(g':Go M1 H1 M2 H2):Go M H M2 H2:=by
 refine{λa o h e=>g'.o a o (λm=>?_) (g.o a o h e),λa m=>?_}
 ·rcases g.m a m with z|z
  ·exact h z
  rw[z]at e;cases e
 rcases g'.m a m with z|z
 ·exact g.m a z
 by_cases h:a∈M
 ·exact .inl h
 refine .inr ?_;cases e:H a with
 |none=>rfl
 |some o=>rw[g.o a o h e]at z;cases z
theorem Go.same{M M':List Q1}{H H':Hp}(g:Go M H M' H'):aq (del M H) (del M' H'):=λa o h=>by
 obtain⟨h1,h2⟩:=eY h;refine bx (λm=>?_) (g.o a o h1 h2);rcases g.m a m with z|z
 ·exact h1 z
 rw[z]at h2;cases h2
theorem Go.new{M:List Q1}{H H':Hp}(s:aq H H'):Go M H M H':={λa o _ h=>s a o h,λ_ h=>.inl h}
theorem Go.at{M:List Q1}{H:Hp}{x:Q1}(h:x∈M)(u:HO):Go M H M (upd H x u):={λa o m e=>(aM (λz:a=x=>m (by rw[z];exact h))).trans e,λ_ h=>.inl h}
def gm(xs:List (Option Int)):Option Int:=xs.foldl (λs x=>s.bind λa=>x.map λb=>a+b) (Xb 0)
abbrev Xs:Option Int->Option Int->Option Int:=λs x=>s.bind λa=>x.map λb=>a+b
theorem kP:∀xs:List (Option Int),xs.foldl Xs Xc=Xc
 | []=>rfl
 |_::r=>kP r
theorem wj:∀(xs:List (Option Int))(a:Int){t:Int},xs.foldl Xs (Xb a)=Xb t->∃u,gm xs=Xb u/\t=a+u
 | [],a,t,h=>{0,rfl,by cases h;lia}
 |x::r,a,t,h=>by
  cases x with
  |none=>exact absurd (h.symm.trans (kP r)) (by intro z;cases z)
  |some b=>
   have h1:r.foldl Xs (Xb (a+b))=Xb t:=h;obtain⟨u,e1,e2⟩:=wj r (a+b) h1;have:∀(ys:List (Option Int))(c:Int){v:Int},gm ys=Xb v->ys.foldl Xs (Xb c)=Xb (c+v):=by
    intro ys;induction ys with
    |nil=>intro c v hv;cases hv;show Xb c=Xb (c+0);rw[Qv]
    |cons y ys ih=>
     intro c v hv;cases y with
     |none=>exact absurd (hv.symm.trans (kP ys)) (by intro z;cases z)
     |some d=>
      have ρ:ys.foldl Xs (Xb (0+d))=Xb v:=hv;show ys.foldl Xs (Xb (c+d))=_;cases e:gm ys with
      |none=>
       exfalso;have q:∀(zs:List (Option Int))(c d:Int),zs.foldl Xs (Xb c)=Xc->zs.foldl Xs (Xb d)=Xc:=by
        intro zs;induction zs with
        |nil=>intro c d h;cases h
        |cons z zs ihz=>
         intro c d h;cases z with
         |none=>exact kP zs
         |some k=>exact ihz (c+k) (d+k) h
       rw[q ys 0 (0+d) e]at ρ;cases ρ
      |some w=>
       rw[ih (c+d) e];rw[ih (0+d) e]at ρ;cases ρ;congr 1;lia
   refine{b+u,?_,()};show r.foldl Xs (Xb (0+b))=_;rw[this r (0+b) e1];congr 1;lia
def mZ:Option Int->V
 |some x=>.int x
 |none=>.Ê
theorem Xk{α:Type}{ks:List α}{i:Nat}{j:α}(h:ks[i]?=Xb j):ks.take (i+1)=ks.take i++[j]:=by rw[OG,h];rfl
inductive Rw where
 |set (n:Int) (x:Nat) (v:Val)
 |put (n:Int) (x:Nat) (p:Th) (v:Val)
 |snd (n:Int) (h:Nat) (v:Val)
 |say (n:Int) (x:Nat) (v:Val) (m:Nat)
 |last (n:Int)
 |call (n:Int) (i:Nat) (ts:List Th)
 |iff (n:Int) (v:Val) (f o:List Rw) (l r:Int)
 |loop (n:Int) (t:Th) (m:Int) (b:List Rw) (l r:Int)
mutual
noncomputable def Rw.cnt:Rw->Nat
 | .iff _ _ f o _ _=>1+(eV f+eV o)
 | .loop _ _ _ b _ _=>1+eV b
 |_=>1
noncomputable def eV:List Rw->Nat
 | []=>0
 |r::rs=>r.cnt+eV rs
end
theorem Cn(r:Rw):1<=r.cnt:=by
 cases r with
 |iff=>rw[Rw.cnt];lia
 |loop=>rw[Rw.cnt];lia
 |_=>exact Oc 1
theorem dw:∀rs,rs.length<=eV rs
 | []=>Oj _
 |r::rs=>by
  have h1:=Cn r;have h2:=dw rs;rw[eV,OE];lia
theorem zD:∀as bs,eV (as++bs)=eV as+eV bs
 | [],bs=>by rw[O6,eV,Nat.zero_add]
 |a::as,bs=>by rw[Qe,eV,eV,zD as bs,Nat.add_assoc]
theorem FZ(r:Rw):eV [r]=r.cnt:=by rw[eV,eV];rfl
mutual
inductive Nr:Nat->Int->Rw->Int->Prop
 |set {k n x v}:Nr k n (.set n x v) (n+1)
 |put {k n x p v}:Nr k n (.put n x p v) (n+1)
 |snd {k n x v}:Nr k n (.snd n x v) (n+1)
 |say {k n x v m} (h:10<=m/\m<13):Nr k n (.say n x v m) (n+1)
 |last {k n} (h:0<k):Nr k n (.last n) (n+1)
 |call {k n i ts}:Nr k n (.call n i ts) (n+1)
 |iff {k n a b v f o l r} (h1:Ns k (n+1) f a) (h2:Ns k (a+1) o b):Nr k n (.iff n v f o l r) (b+1)
 |loop {k n a t m b l r} (h:Ns (k+1) (n+1) b a):Nr k n (.loop n t m b l r) (a+1)
inductive Ns:Nat->Int->List Rw->Int->Prop
 |nil {k a}:Ns k a [] a
 |cons {k a b c r rs} (h:Nr k a r b) (t:Ns k b rs c):Ns k a (r::rs) c
end
theorem Ns.snoc{k:Nat}{r:Rw}{b c:Int}(h:Nr k b r c):∀{rs:List Rw}{a:Int},Ns k a rs b->Ns k a (rs++[r]) c
 | [],_,g=>by cases g;exact .cons h .nil
 |q::rs,_,g=>by
  cases g with
  |cons g1 g2=>exact .cons g1 (Ns.snoc h g2)
structure En where
 N:Nat->Str
 idx:List Nat
 sz:Nat->Nat
def En.ls(E:En):List Nat:=E.idx.filter λi=>decide (0<E.sz i)
def Th.ok(E:En):Th->Prop
 | .i n=>In n
 | .x a=>a∈E.idx/\E.sz a=0
def Val.ok(E:En):Val->Prop
 | .one a=>a.ok E
 | .op a w b=>b.ok E/\(a.ok E/\w∈opW\/∃x∈E.ls,a=.x x/\w="at")
section
variable{P:Program}{w:Rh}{K:Q6}{mg:Str->Option Q0}{base:Rp}{A:Ï}{E:En}
abbrev LET:Str:="abcdefghijklmnopqrstuvwxyz"
def jw(k:Int):Nat:=(97+k).toNat
theorem Br{k:Int}(h0:0<=k)(h1:k<26):Ġ LET.cps.toList k=Xb (jw k):=by
 obtain⟨n,rfl⟩:∃n:Nat,k=(n:Int):={k.toNat,()};have h:∀m:Fin 26,Ġ LET.cps.toList ((m.val:Nat):Int)=Xb (jw ((m.val:Nat):Int)):=by decide+kernel
 exact h {n,()}
theorem HG{z:Str}{n:Int}(hz:z.length<=1)(h1:n<1000):(oB z n).length<=1000:=by
 unfold oB;split
 ·decide
 split
 ·lia
 rw[yw];have:n.toNat*z.length<=n.toNat*1:=Nat.mul_le_mul_left _ hz;lia
abbrev JW:Str:="set put send say by if else end loop most idle last call deed main"
abbrev JA:Str:="at over rest hand given own let open house closed"
def uR:List Str:=["set","put","send","say","by","if","else","end","loop","most","idle","last","call","deed","main"]
def uG:List Str:=["at","over","rest","hand","given","own","let","open","house","closed"]
theorem Dp:sR JW " " uR:={by decide+kernel,by decide+kernel,by decide+kernel,by decide+kernel,∅,by decide+kernel}
theorem Dl:sR JA " " uG:={by decide+kernel,by decide+kernel,by decide+kernel,by decide+kernel,∅,by decide+kernel}
def Xm:List Str:=uR++uG
theorem zy:Xm.Nodup:=by decide+kernel
theorem qQ:Xm.length=25:=rfl
def Ţ(c:Int)(k:Nat):Str:=
 if decide (V.int (c%4)=V.int 0)=true then Xm.getD ((c/4+k)%25).toNat RE
 else if decide (V.int (c%4)=V.int 1)=true then oB ⟨#[jw ((c/4+(k:Int)/8)%26)]⟩ ((k:Int)%8+1)
 else Txt.slice (oB ⟨#[jw (c/288%26)]⟩ (c/4%8)) Xc (Xb (c/32%(c/4%8+1)))++⟨#[jw ((k+c/7488)%26)]⟩++Txt.slice (oB ⟨#[jw (c/288%26)]⟩ (c/4%8)) (Xb (c/32%(c/4%8+1))) Xc
theorem qi(c:Nat){n:Int}(hn:1<=n):(oB ⟨#[c]⟩ n).cps.toList=Rj n.toNat c:=by
 unfold oB;rw[if_neg ()];by_cases e:n=1
 ·subst e;rfl
 have h1:¬ (n==1||(⟨#[c]⟩:Str).length==0)=true:=by
  rw[Bool.or_eq_true];rintro(h|h)
  ·exact e (eq_of_beq h)
  exact absurd h (show ¬ ((1:Nat)==0)=true by decide)
 rw[if_neg h1];have f:∀(m:Nat)(acc:Array Nat),((Rj m #[c]).foldl (· ++ ·) acc).toList=acc.toList++Rj m c:=by
  intro m;induction m with
  |zero=>intro acc;simp
  |succ m ih=>
   intro acc;rw[OP,OX,ih,OP];simp
 have:=f n.toNat #[];simpa using this
theorem y0{a b:Int}(ha:0<=a)(hb:0<=b)(h:jw a=jw b):a=b:=by
 unfold jw at h;lia
theorem HN{a b:Str}{x y:Nat}(h:a++⟨#[x]⟩++b=a++⟨#[y]⟩++b):x=y:=by
 have h1:((a.cps++ #[x])++b.cps).toList=((a.cps++ #[y])++b.cps).toList:=congrArg (λz:Str=>z.cps.toList) h;simp only[PX]at h1;have h2:=List.append_inj_left' h1 rfl;have h3:=List.append_inj_right h2 rfl;simpa using h3
theorem xw(c:Int):oE (Ţ c):=by
 intro i j hi hj e;unfold Ţ at e;split at e
 ·have m1:=bA (c/4+i) (show(0:Int)<25 by decide);have m2:=bA (c/4+j) (show(0:Int)<25 by decide);have b1:((c/4+i)%25).toNat<Xm.length:=by rw[qQ];lia
  have b2:((c/4+j)%25).toNat<Xm.length:=by rw[qQ];lia
  rw[OI,OI,Oa b1,Oa b2]at e;have:=(Qd zy).mp (show Xm[((c/4+i)%25).toNat]=Xm[((c/4+j)%25).toNat]from e);lia
 split at e
 ·have m1:=bA (c/4+(i:Int)/8) (show(0:Int)<26 by decide);have m2:=bA (c/4+(j:Int)/8) (show(0:Int)<26 by decide);have h1:=congrArg (λz:Str=>z.cps.toList) e;rw[qi _ (),qi _ ()]at h1;have h2:=congrArg Ta h1;rw[OY,OY]at h2;obtain⟨n,hn⟩:∃n,((i:Int)%8+1).toNat=n+1:={((i:Int)%8).toNat,()};rw[<-h2,hn,OP,OP]at h1;have h3:=y0 m1.1 m2.1 (List.cons.inj h1).1;lia
 have m1:=bA ((i:Int)+c/7488) (show(0:Int)<26 by decide);have m2:=bA ((j:Int)+c/7488) (show(0:Int)<26 by decide);have h3:=y0 m1.1 m2.1 (HN e);lia
theorem wC{x:Str}{lo hi:Option Int}{c:Nat}(h:c∈(Txt.slice x lo hi).cps.toList):c∈x.cps.toList:=by
 unfold Txt.slice at h;split at h
 ·exact h
 obtain⟨i,_,q⟩:=Qk.mp (by simpa using h);exact Array.mem_toList_iff.mpr (Array.mem_of_getElem? q)
theorem gy{x:Str}:RK x=true↔∀c∈x.cps.toList,c<0x110000:=by
 unfold RK;rw[<-Array.all_toList,Pp];exact{λh c hc=>of_decide_eq_true (h c hc),λh c hc=>decide_eq_true (h c hc)}
theorem vW{x:Str}(h:RK x=true)(lo hi:Option Int):RK (Txt.slice x lo hi)=true:=gy.mpr λc hc=>gy.mp h c (wC hc)
theorem wc{x y:Str}(h:RK x=true)(h2:RK y=true):RK (x++y)=true:=gy.mpr λc hc=>by
 have e:(x++y).cps=x.cps++y.cps:=rfl;rw[e,PX]at hc;rcases Og.mp hc with q|q
 ·exact gy.mp h c q
 exact gy.mp h2 c q
theorem Ik{k:Int}(h:k<26):RK ⟨#[jw k]⟩=true:=gy.mpr λc hc=>by
 have e:c=jw k:=by simpa using hc
 rw[e];unfold jw;lia
theorem A9{k n:Int}(h:k<26):RK (oB ⟨#[jw k]⟩ n)=true:=by
 by_cases hn:1<=n
 ·refine gy.mpr λc hc=>?_;rw[qi _ hn]at hc;rw[Uj hc];unfold jw;lia
 unfold oB;rw[if_pos ()];decide+kernel
theorem Mu(c:Int)(k:Nat):RK (Ţ c k)=true:=by
 unfold Ţ;split
 ·have h:∀i:Fin 25,RK (Xm.getD i.val RE)=true:=by decide+kernel
  have:=bA (c/4+k) (show(0:Int)<25 by decide);exact h {((c/4+k)%25).toNat,()}
 have h1:=bA (c/288) (show(0:Int)<26 by decide);have h2:=bA ((k:Int)+c/7488) (show(0:Int)<26 by decide);have h3:=bA (c/4+(k:Int)/8) (show(0:Int)<26 by decide);split
 ·exact A9 h3.2
 exact wc (wc (vW (A9 h1.2) _ _) (Ik h2.2)) (vW (A9 h1.2) _ _)
inductive BV(vs:List V)(H:Hp)(Q:VK)(Ã:XK):Prop
 |mk(c:Int)(k:Nat):vs=[.int c,.int k]->k<=100->(∀(H':Hp),aq H H'->Q (.str (Ţ c k)) H')->BV vs H Q Ã
theorem KL(T:Txt K mg A):T.vc.Hz P w base 1 BV:=by
 refine T.vc.hs dZ (λf Ä A' outer s H vs Q E hr hu h=>?_);obtain⟨c,k,rfl,h1,q⟩:=h;unfold Ţ at q;refine⟨_,(af (Æ 2 dZ.nd ay)
 (af (Æ 3 dZ.nd (ax bH (fv 0) ah))
 (af (aN (Ð (b8 hu) (fv 3) ah)
  (af (Æ 4 dZ.nd (Xx ay (ay^ae)))
  (af (Æ 4 dZ.nd (ax aO (fv 4) (Xx ay (ay^ae))))
  (ai (aA (px hu (fv 4) (ax bH (ax aO (ax bU (fv 0) ah) (fv 1)) ah))))))
  aG)
 (af (aN (Ð (b8 hu) (fv 3) ah)
  (ai (aA (ax j5 (px hu (fv 2) (ax bH (ax aO (ax bU (fv 0) ah) (ax bU (fv 1) ah)) ah)) (ax aO (ax bH (fv 1) ah) ah))))
  aG)
 (af (Æ 5 dZ.nd (ax bH (ax bU (fv 0) ah) ah))
 (af (Æ 6 dZ.nd (ax bH (ax bU (fv 0) ah) (ax aO (fv 5) ah)))
 (af (Æ 7 dZ.nd (ax j5 (px hu (fv 2) (ax bH (ax bU (fv 0) ah) ah)) (fv 5)))
 (ai (aA (ax aO (ax aO (fD kz (fv 7) B4 (cX (fv 6))) (px hu (fv 2) (ax bH (ax aO (fv 1) (ax bU (fv 0) ah)) ah))) (fD kz (fv 7) (cX (fv 6)) B4))))))))))),?_⟩
 refine{(by show(0:Int)<4;decide),rfl,_,rfl,a8 (λb1=>?_) (λb1=>?_)}
 ·rw[if_pos b1]at q;refine{rfl,_,_,uR,rfl,rfl,Dp,λl hl=>?_};obtain⟨s1,e1⟩:=Ò hl (HO.lst (uR.map V.str));generalize upd H l _=H1 at s1 e1⊢;refine{rfl,_,_,uG,rfl,rfl,Dl,λl2 hl2=>?_};obtain⟨s2,e2⟩:=Ò hl2 (HO.lst (uG.map V.str));generalize upd H1 l2 _=H2 at s2 e2⊢;refine{l,l2,_,_,rfl,rfl,s2 _ _ e1,e2,(by decide:25<=sizeLine),λl3 hl3=>?_};obtain⟨j0,j1⟩:=bA (c/4+k) (show(0:Int)<25 by decide);have hk:((c/4+k)%25).toNat<Xm.length:=by rw[qQ];lia
  have e:Ġ (uR.map V.str++uG.map V.str) ((c/4+k)%25)=Xb (.str (Xm.getD ((c/4+k)%25).toNat RE)):=by
   rw[<-OB];have e:=jH (xs:=Xm.map V.str) (j:=((c/4+k)%25).toNat) (v:=.str (Xm.getD ((c/4+k)%25).toNat RE)) (by rw[Oi,Oa hk,OI,Oa hk];rfl);rw[show((((c/4+k)%25).toNat:Nat):Int)=(c/4+k)%25 by lia]at e;exact e
  exact{{∅,∅},(by show(0:Int)<25;decide),(ì (À.of av) e (q _ ((s1.trans s2).trans (aq.upd hl3 _))))}
 rw[if_neg b1]at q;refine{rfl,_,rfl,a8 (λb2=>?_) (λb2=>?_)}
 ·rw[if_pos b2]at q;obtain⟨j0,j1⟩:=bA (c/4+(k:Int)/8) (show(0:Int)<26 by decide);obtain⟨m0,m1⟩:=bA (k:Int) (show(0:Int)<8 by decide);exact{{∅,∅},{∅,∅},(by show(0:Int)<26;decide),_,by decide+kernel,Br j0 j1,(by show(0:Int)<8;decide),(),(),by show 1<=1000;decide,q _ (aq.refl _)}
 rw[if_neg b2]at q;obtain⟨m0,m1⟩:=bA (c/4) (show(0:Int)<8 by decide);obtain⟨j0,j1⟩:=bA (c/288) (show(0:Int)<26 by decide);obtain⟨i0,i1⟩:=bA (k+c/7488) (show(0:Int)<26 by decide);have rl:(oB ⟨#[jw (c/288%26)]⟩ (c/4%8)).length<=1000:=HG (Oc _) ();refine{{∅,∅},(by show(0:Int)<8;decide),{∅,∅},(by show(0:Int)<c/4%8+1;lia),{∅,∅},(by show(0:Int)<26;decide),_,by decide+kernel,Br j0 j1,(),(),by show 1<=1000;decide,?_};have s1:=VA (oB ⟨#[jw (c/288%26)]⟩ (c/4%8)) Xc (Xb (c/32%(c/4%8+1)));have s2:=VA (oB ⟨#[jw (c/288%26)]⟩ (c/4%8)) (Xb (c/32%(c/4%8+1))) Xc;refine{_,rfl,sz rl,{∅,∅},(by show(0:Int)<26;decide),_,by decide+kernel,Br i0 i1,{Ol (m:=1000+1) (UY (Ol s1 rl) 1) ∅,_,rfl,sz rl,{?_,q _ (aq.refl _)}}};rw[rT];exact Ol (m:=1000+1+1000) (Nat.add_le_add (UY (Ol s1 rl) 1) (Ol s2 rl)) ∅
def cellAt(ns:List Int)(k:Int):Int:=if k<(ns.length:Int)then ns.getD k.toNat 0 else 0
theorem Kv{ns:List Int}{k:Int}(h0:0<=k)(h1:k<(ns.length:Int)):Ġ (ns.map V.int) k=Xb (.int (ns.getD k.toNat 0)):=by
 have hk:k.toNat<ns.length:=()
 have e:=jH (xs:=ns.map V.int) (j:=k.toNat) (v:=.int (ns.getD k.toNat 0)) (by rw[Oi,Oa hk,OI,Oa hk];rfl);rw[show((k.toNat:Nat):Int)=k by lia]at e;exact e
inductive Cf(K:Q6)(vs:List V)(H:Hp)(Q:VK)(Ã:XK):Prop
 |mk(a:Q1)(ns:List Int)(k:Int):vs=[.ref a,.int k]->À K H a (ns.map V.int)->0<=k->Q (.int (cellAt ns k)) H->Cf K vs H Q Ã
theorem Bh(T:Txt K mg A):T.nv.Hz P w base 1 (Cf K):=by
 refine T.nv.hs uZ (λf Ä A' outer s H vs Q E hr hu h=>?_);obtain⟨a,ns,k,rfl,hS,h0,q⟩:=h;unfold cellAt at q;have el:(((ns.map V.int).length:Nat):Int)=(ns.length:Int):=by rw[N3]
 refine⟨_,(af (aN (Ð ID (fv 1) (Ó lQ T.kO (fv 0^ae)))
  (ai (aA (px hu (fv 0) (fv 1))))
  aG)
 (ai (aA ah))),?_⟩
 refine N6 {_,_,rfl,N6 {_,hS,rfl},_,rfl,a8 (λc=>?_) (λc=>?_)}
 ·have c':k<(((ns.map V.int).length:Nat):Int):=of_decide_eq_true c;rw[el]at c';rw[if_pos c']at q;exact ì hS (Kv h0 c') q
 have c':¬ k<(((ns.map V.int).length:Nat):Int):=of_decide_eq_false (Qq.mpr c);rw[el]at c';rw[if_neg c']at q;exact q
theorem Lw:((10:Int)^(12:Int).toNat)=1000000000000:=∅
inductive Gr(vs:List V)(H:Hp)(Q:VK)(Ã:XK):Prop
 |mk(c:Int)(k:Nat):vs=[.int c,.int k]->k<=100->(∀(m:Int)(H':Hp),In m->aq H H'->Q (.int m) H')->Gr vs H Q Ã
theorem Gi(T:Txt K mg A):T.xg.Hz P w base 1 Gr:=by
 refine T.xg.hs gq (λf Ä A' outer s H vs Q E hr hu h=>?_);obtain⟨c,k,rfl,hk,q⟩:=h;refine⟨_,(af (Æ 2 gq.nd (ax bU (fv 0) ah))
 (af (aN (PW.pt (pw_and (Ð C9 (fv 2) (ax yD ah ah)) (pw_and1 (Ð (b8 hu) (ax bH (fv 2) ah) ah))))
  (af (Æ 2 gq.nd (ax bU (fv 2) ah))
  (af (b6 Rg rfl (qX rfl T.ir (fv 1^ae)) (Õ (i:=3) gq.nd rfl)
   (ai (Æ 2 gq.nd (ax bU (fv 2) (ax yD ah ah)))))
  (ai (aN (Ð C9 (fv 2) ah)
   (ai (aA (ax bH (fv 2) (ax yD ah ah))))
   aG))))
  aG)
 (af (Æ 4 gq.nd (px hu (aU (ah^ah^ah^ah^ae)) (ax bH (fv 1) ah)))
 (ai (aA (ax bH (ax j5 (ax aO (ax aO (ax bH (fv 0) (fv 4)) ah) (ax j5 (fv 1) (fv 1))) ah) (fv 4))))))),?_⟩
 refine ao λM1 K1=>{{∅,∅},K1 _ _ (ao λM2 K2=>?_)};have rest:∀B:St,(∃z z3,B=[Xb (.int c),Xb (.int k),Xb (.int z),z3,Xc])->M2 B H:=by
  rintro B ⟨z,z3,rfl⟩;refine K2 _ _ (ao λM3 K3=>{(show 4<=sizeLine by decide),λl hl=>?_});obtain⟨s1,e1⟩:=Ò hl (HO.lst [V.int 2147483647,.int 998244353,.int 1000000007,.int 999999937]);generalize upd H l _=H1 at s1 e1⊢;obtain⟨p,hp,p0,p1⟩:∃p:Int,Ġ [V.int 2147483647,.int 998244353,.int 1000000007,.int 999999937] ((k:Int)%4)=Xb (.int p)/\0<p/\p<2147483648:=by
   have m:=bA (k:Int) (show(0:Int)<4 by decide);generalize (k:Int)%4=u at m⊢;have:u=0\/u=1\/u=2\/u=3:=()
   rcases this with rfl|rfl|rfl|rfl
   ·exact{2147483647,rfl,∅,∅}
   ·exact{998244353,rfl,∅,∅}
   ·exact{1000000007,rfl,∅,∅}
   exact{999999937,rfl,∅,∅}
  exact{(by show(0:Int)<4;decide),(ì (À.of e1) hp (K3 _ _ {p0,.inl {(),()},.inr {∅,∅},p0,q _ _ (by have:=bA ((c%p+7+(k:Int)*(k:Int))*48271) p0;exact{this.1,()}) s1}))}
 refine{{∅,∅,∅},_,rfl,a8 (λb=>?_) (λb=>rest _ {_,_,rfl})};refine{(by show(0:Int)<2;decide),rfl,_,rfl,a8 (λb=>?_) (λb=>rest _ {_,_,rfl})};refine ao λA1 B1=>{{∅,∅},B1 _ _ (ao λA2 B2=>{(k:Int),rfl,(),(),nZ (λi B H2=>H2=H/\∃z z3,B=[Xb (.int c),Xb (.int k),Xb (.int z),z3,Xc]) {rfl,_,_,rfl} ?_ ?_})}
 ·rintro i B H2 hi ⟨rfl,z,z3,rfl⟩;exact{{∅,∅,∅},{∅,∅},rfl,_,_,rfl}
 rintro B H2 ⟨rfl,z,z3,rfl⟩;refine B2 _ _ {_,rfl,a8 (λb=>?_) (λb=>rest _ {_,_,rfl})};exact{{∅,∅,∅},(by show(0:Int)<10^(12:Int).toNat;decide),q _ _ (bA _ ∅) (aq.refl _)}
inductive wq(vs:List V)(H:Hp)(Q:VK)(Ã:XK):Prop
 |mk(c:Int):vs=[.int c]->-(2^64)<c->c<2^64->(∀n,In n->Q (.int n) H)->wq vs H Q Ã
theorem GH(T:Txt K mg A):T.pW.Hz P w base 1 wq:=by
 refine T.pW.hs vx (λf Ä A' outer s H vs Q E hr hu h=>?_);obtain⟨c,rfl,c0,c1,q⟩:=h;have h5:=bA (c/3) (show(0:Int)<5 by decide);refine⟨_,(af (aN (Ð (b8 hu) (ax bH (fv 0) ah) ah)
  (ai (aA (ax bH (ax bU (fv 0) ah) ah)))
  aG)
 (af (aN (Ð (b8 hu) (ax bH (fv 0) ah) ah)
  (ai (aA (ax oR (ax oR (ax yD ah ah) ah) (ax bH (ax bU (fv 0) ah) ah))))
  aG)
 (ai (aA (ax bH (ax j5 (fv 0) (fv 0)) (ax yD ah ah)))))),?_⟩
 refine{(by show(0:Int)<3;decide),rfl,_,rfl,a8 (λb=>{{∅,∅},(by show(0:Int)<5;decide),q _ {h5.1,()}}) (λb=>{(by show(0:Int)<3;decide),rfl,_,rfl,a8 (λb=>{{∅,∅,∅},{∅,∅},(by show(0:Int)<5;decide),q _ (by rw[Lw];exact{(),()})}) (λb=>?_)})};exact{.inl ⟨c0,c1⟩,{∅,∅,∅},(by show(0:Int)<10^(12:Int).toNat;decide),q _ (bA _ ∅)}
def Bo(E:En)(th:List Nat):Prop:=th≠[]/\∀i∈th,i∈E.idx/\E.sz i=0
abbrev ã(E:En)(th:List Nat):List V:=th.map λi=>V.str (E.N i)
inductive yx(K:Q6)(E:En)(vs:List V)(H:Hp)(Q:VK)(Ã:XK):Prop
 |mk(n:Int)(l:Q1)(th:List Nat):vs=[.int n,.ref l]->In n->À K H l (ã E th)->Bo E th->(∀t:Th,t.ok E->Q (t.v E.N) H)->yx K E vs H Q Ã
theorem x5(T:Txt K mg A):T.qT.Hz P w base 2 (yx K E):=by
 refine T.qT.hs (k:=1) xF (λf Ä A' outer s H vs Q E' hr hu h=>?_);obtain⟨n,l,th,rfl,⟨n0,n1⟩,hl,⟨h0,hth⟩,q⟩:=h;have h0':0<th.length:=List.length_pos_iff.mpr h0;refine⟨_,(af (aN (Ð C9 (ax bH (fv 0) ah) ah)
  (ai (aA (px hu (fv 1) (ax bH (ax bU (fv 0) ah) (Ó lQ T.kO (fv 1^ae))))))
  aG)
 (af (aN (Ð (b8 hu) (ax bH (ax bU (fv 0) ah) ah) ah)
  (ai (aA (aj (hj:=by lia) (GH T) hr (ax bU (fv 0) ah^ae))))
  aG)
 (ai (aA (ax bH (ax bU (fv 0) ah) ah))))),?_⟩
 refine{(by show(0:Int)<3;decide),_,rfl,a8 (λb=>?_) (λb=>?_)}
 ·have e:(((ã E th).length:Nat):Int)=(th.length:Int):=by rw[N3]
  have m:=bA (n/3) (show(0:Int)<(th.length:Int) by lia);obtain⟨x,hx,_,ha⟩:=w9 (λi=>V.str (E.N i)) m.1 m.2;exact{{∅,∅},N6 {_,_,rfl,N6 {_,hl,rfl},(by rw[e];lia),(ì hl (by rw[e];exact ha) (q (.x x) (hth x hx)))}}
 refine{{∅,∅},(by show(0:Int)<4;decide),rfl,_,rfl,a8 (λb=>{{∅,∅},_,rfl,(),(),λm hm=>q (.i m) hm}) (λb=>?_)};exact{{∅,∅},(by show(0:Int)<4;decide),q (.i _) (by have:=bA (n/12) (show(0:Int)<4 by decide);exact{this.1,()})}
inductive zQ(K:Q6)(E:En)(vs:List V)(H:Hp)(Q:VK)(Ã:XK):Prop
 |mk(n:Int)(l ll:Q1)(th:List Nat)(x y:Nat):vs=[.int n,.ref l,.ref ll]->In n->À K H l (ã E th)->Bo E th->H ll=Xb (.lst [.str (E.N x),.str (E.N y)])->x∈E.ls->y∈E.ls->(∀(p:Q1)(val:Val)(H':Hp),val.ok E->aq H H'->H p=Xc->H' p=Xb (.tup (vV E.N val))->Q (.ref p) H')->zQ K E vs H Q Ã
theorem BP(T:Txt K mg A):T.qU.Hz P w base 3 (zQ K E):=by
 have E9:=x5 (P:=P) (w:=w) (base:=base) (E:=E) T;refine T.qU.hs (k:=2) k6 (λf Ä A' outer s H vs Q E' hr hu h=>?_);obtain⟨n,l,ll,th,x,y,rfl,⟨n0,n1⟩,hl,hth,Ϛ,hx,hy,q⟩:=h;have lm:∀i∈E.ls,i∈E.idx/\0<E.sz i:=λi hi=>by
  obtain⟨h1,h2⟩:=Ow.mp hi;exact⟨h1,of_decide_eq_true h2⟩
 refine⟨_,(af (Æ 3 k6.nd (aj (hj:=by lia) E9 hr (ax bU (fv 0) ah^fv 1^ae)))
 (af (Æ 4 k6.nd (aj (hj:=by lia) E9 hr (ax bU (fv 0) ah^fv 1^ae)))
 (af (aN (Ð (b8 hu) (ax bH (fv 0) ah) ah)
  (ai (aA (bE (fv 3^ae))))
  aG)
 (af (aN (Ð (b8 hu) (ax bH (fv 0) ah) ah)
  (ai (aA (bE (px hu (fv 2) (ax bH (ax bU (fv 0) ah) ah)^ay^fv 4^ae))))
  aG)
 (ai (aA (bE (fv 3^px hu (aU (ay^ay^ay^ay^ay^ay^ay^ae)) (ax bH (ax bU (fv 0) ah) ah)^fv 4^ae)))))))),?_⟩
 refine{{∅,∅},_,l,th,rfl,{(),()},hl,hth,λa ha=>{{∅,∅},_,l,th,rfl,{(),()},hl,hth,λb hb=>{(by show(0:Int)<4;decide),rfl,_,rfl,a8 (λ_=>{by show 1<=sizeLine;decide,λp hp=>q p (.one a) _ ha (aq.upd hp _) hp av}) (λ_=>{(by show(0:Int)<4;decide),rfl,_,rfl,a8 (λ_=>?_) (λ_=>?_)})}}}
 ·have m:=bA (n/4) (show(0:Int)<2 by decide);obtain⟨z,ez,hz⟩:∃z,Ġ [V.str (E.N x),.str (E.N y)] (n/4%2)=Xb (.str (E.N z))/\z∈E.ls:=by
   have:n/4%2=0\/n/4%2=1:=()
   rcases this with e|e<;>rw[e]
   ·exact⟨x,rfl,hx⟩
   exact⟨y,rfl,hy⟩
  exact{{∅,∅},(by show(0:Int)<2;decide),(ì (À.of Ϛ) ez {by show 3<=sizeLine;decide,λp hp=>q p (.op (.x z) "at" b) _ {hb,.inr ⟨z,hz,rfl,rfl⟩} (aq.upd hp _) hp av})}
 refine{by show 7<=sizeLine;decide,λlo ϸ=>?_};obtain⟨s1,e1⟩:=Ò ϸ (HO.lst [V.str "+",.str "-",.str "*",.str "over",.str "rest",.str "<",.str "="]);generalize upd H lo _=H1 at s1 e1⊢;have m:=bA (n/4) (show(0:Int)<7 by decide);obtain⟨z,hz,_,ez⟩:=w9 V.str (xs:=opW) m.1 m.2;exact{{∅,∅},(by show(0:Int)<7;decide),(ì (À.of e1) ez {by show 3<=sizeLine;decide,λp hp=>q p (.op a z b) _ {hb,.inl ⟨ha,hz⟩} (s1.trans (aq.upd hp _)) (aq.free s1 hp) av})}
end
section
variable{P:Program}{w:Rh}{K:Q6}{mg:Str->Option Q0}{base:Rp}{A:Ï}{E:En}{mo:Nat->Int}{ex:Nat->Option Int}
def Ø(H H':Hp):Hp:=λa=>match H a with
 |none=>H' a
 |some _=>Xc
theorem Ø.of{H H':Hp}{a:Q1}{o:HO}(h:H a=Xc)(e:H' a=Xb o):Ø H H' a=Xb o:=by
 unfold Ø;rw[h];exact e
theorem Ø.get{H H':Hp}{a:Q1}{o:HO}(h:Ø H H' a=Xb o):H a=Xc/\H' a=Xb o:=by
 unfold Ø at h;split at h
 ·exact⟨by assumption,h⟩
 cases h
theorem Ø.same{H H':Hp}:aq (Ø H H') H':=λa o h=>(Ø.get h).2
def Dm(H H':Hp):Prop:=∀a,H' a=Xc->H a=Xc
theorem Dm.new{H H':Hp}(s:aq H H'):Dm H H':=λa e=>by
 cases h:H a with
 |none=>rfl
 |some o=>rw[s a o h]at e;cases e
theorem Ø.up{H H1 H':Hp}(h:Dm H H1):aq (Ø H1 H') (Ø H H'):=λa o e=>by
 obtain⟨e1,e2⟩:=Ø.get e;exact Ø.of (h a e1) e2
theorem Ø.on{H H1 H2:Hp}(s:aq H1 H2):aq (Ø H H1) (Ø H H2):=λa o e=>by
 obtain⟨e1,e2⟩:=Ø.get e;exact Ø.of e1 (s a o e2)
theorem Ø.go{M:List Q1}{H H1 H2:Hp}(g:Go M H1 M H2)(m:∀a∈M,H a≠Xc):aq (Ø H H1) (Ø H H2):=λa o e=>by
 obtain⟨e1,e2⟩:=Ø.get e;exact Ø.of e1 (g.o a o (λz=>m a z e1) e2)
theorem Go.out{M:List Q1}{H H1:Hp}(g:Go M H M H1){x:Q1}(h:H x=Xc)(u:HO):Go M H M (upd H1 x u):=⟨λa o m e=>by
 rw[aM (λz=>by rw[z,h]at e;cases e)];exact g.o a o m e,g.m⟩
def â(i:Nat):Nat:=13+2*i
def bZ(N:Nat->Str)(X:Hp):Nat->V->Rw->Prop
 |_,v,.set n x val=>∃a p,v=.ref a/\X a=Xb (.tup [.int n,.str "set",.str (N x),.ref p])/\X p=Xb (.tup (vV N val))
 |_,v,.put n x pl val=>∃a p,v=.ref a/\X a=Xb (.tup [.int n,.str "put",.str (N x),pl.v N,.ref p])/\X p=Xb (.tup (vV N val))
 |_,v,.snd n h val=>∃a p,v=.ref a/\X a=Xb (.tup [.int n,.str "send",.str (N h),.ref p])/\X p=Xb (.tup (vV N val))
 |_,v,.say n x val m=>∃a p,v=.ref a/\X a=Xb (.tup [.int n,.str "say",.str (N x),.ref p,.str (N m)])/\X p=Xb (.tup (vV N val))
 |_,v,.last n=>∃a,v=.ref a/\X a=Xb (.tup [.int n,.str "last"])
 |_,v,.call n i ts=>∃a p,v=.ref a/\X a=Xb (.tup [.int n,.str "call",.str (N (â i)),.ref p])/\X p=Xb (.lst (ts.map (Th.v N)))
 |d+1,v,.iff n val f o l r=>∃a p pf po xf xo,v=.ref a/\X a=Xb (.tup [.int n,.str "if",.ref p,.ref pf,.ref po,.int l,.int r])/\X p=Xb (.tup (vV N val))/\X pf=Xb (.lst xf)/\X po=Xb (.lst xo)/\Paired (bZ N X d) xf f/\Paired (bZ N X d) xo o
 |d+1,v,.loop n t m b l r=>∃a pb xb,v=.ref a/\X a=Xb (.tup [.int n,.str "loop",t.v N,.int m,.ref pb,.int l,.int r])/\X pb=Xb (.lst xb)/\Paired (bZ N X d) xb b
 |0,_,.iff _ _ _ _ _ _=>False
 |0,_,.loop _ _ _ _ _ _=>False
theorem bZ.same{N:Nat->Str}{X X':Hp}(s:aq X X'):∀{d:Nat}{v:V}{r:Rw},bZ N X d v r->bZ N X' d v r:=by
 have Į:∀{d:Nat}{v:V}{r:Rw},(∀n v f o l q,r≠ .iff n v f o l q)->(∀n t m b l q,r≠ .loop n t m b l q)->bZ N X d v r->bZ N X' d v r:=by
  intro d v r i1 i2 h;cases r with
  |iff n v f o l r=>exact absurd rfl (i1 _ _ _ _ _ _)
  |loop n t m b l r=>exact absurd rfl (i2 _ _ _ _ _ _)
  |last n=>cases d<;>(obtain⟨a,e,h1⟩:=h;exact{a,e,s _ _ h1})
  |_=>cases d<;>(obtain⟨a,p,e,h1,h2⟩:=h;exact{a,p,e,s _ _ h1,s _ _ h2})
 intro d;induction d with
 |zero=>
  intro v r h;cases r with
  |iff n v f o l r=>exact h.elim
  |loop n t m b l r=>exact h.elim
  |_=>exact Į (λ_ _ _ _ _ _ z=>by cases z) (λ_ _ _ _ _ _ z=>by cases z) h
 |succ d ih=>
  intro v r h;cases r with
  |iff n v f o l r=>
   obtain⟨a,p,pf,po,xf,xo,e,h1,h2,h3,h4,h5,h6⟩:=h;exact{a,p,pf,po,xf,xo,e,s _ _ h1,s _ _ h2,s _ _ h3,s _ _ h4,Paired.eX h5 λ_ _=>ih,Paired.eX h6 λ_ _=>ih}
  |loop n t m b l r=>
   obtain⟨a,pb,xb,e,h1,h2,h3⟩:=h;exact{a,pb,xb,e,s _ _ h1,s _ _ h2,Paired.eX h3 λ_ _=>ih}
  |_=>exact Į (λ_ _ _ _ _ _ z=>by cases z) (λ_ _ _ _ _ _ z=>by cases z) h
def Ď(E:En)(kn:Nat):Nat->Rw->Prop
 |_,.set _ x v=>x∈E.idx/\E.sz x=0/\v.ok E
 |_,.put _ x p v=>x∈E.idx/\0<E.sz x/\p.ok E/\v.ok E
 |_,.snd _ _ v=>v.ok E
 |_,.say _ x v _=>x∈E.idx/\E.sz x=0/\v.ok E
 |_,.last _=>True
 |_,.call _ i ts=>i<kn/\ts.length=i+1/\∀t∈ts,t.ok E
 |d+1,.iff _ v f o l r=>v.ok E/\0<=l/\0<=r/\f.length<=1000/\o.length<=1000/\(∀q∈f,Ď E kn d q)/\∀q∈o,Ď E kn d q
 |d+1,.loop _ t m b l r=>t.ok E/\0<=m/\m<=1000/\0<=l/\0<=r/\b.length<=1000/\∀q∈b,Ď E kn d q
 |0,.iff _ _ _ _ _ _=>False
 |0,.loop _ _ _ _ _ _=>False
def iy(a b:Int):Int:=if a<b then b else a
def bK(mo:Nat->Int):Nat->Rw->Int
 |_,.call _ i _=>1+mo i
 |d+1,.iff _ _ f o l r=>1+iy ((f.map (bK mo d)).sum+l) ((o.map (bK mo d)).sum+r)
 |d+1,.loop _ _ m b l r=>1+m*iy ((b.map (bK mo d)).sum+l) r
 |_,_=>1
def dD(ex:Nat->Option Int):Nat->Rw->Option Int
 |_,.call _ i _=>(ex i).map λx=>1+x
 |d+1,.iff _ _ f o l r=>match gm (f.map (dD ex d)),gm (o.map (dD ex d))with
  |some x,Xb y=>if l+x=r+y then Xb (1+l+x)else Xc
  |_,_=>Xc
 |d+1,.loop _ _ m b l r=>match gm (b.map (dD ex d))with
  |some x=>if l+x=r then Xb (1+m*r)else Xc
  |none=>Xc
 |_,_=>Xb 1
theorem kG{f:Rw->Option Int}{g:Rw->Int}:∀{rs:List Rw}{e:Int},(∀r∈rs,∀x,f r=Xb x->x=g r)->gm (rs.map f)=Xb e->e=(rs.map g).sum
 | [],e,_,h=>by cases h;rfl
 |r::rs,e,hr,h=>by
  have h':(rs.map f).foldl Xs ((Xb (0:Int)).bind λa=>(f r).map λb=>a+b)=Xb e:=h;cases q:f r with
  |none=>rw[q]at h';rw[show((Xb (0:Int)).bind λa=>(Xc:Option Int).map λb=>a+b)=Xc from rfl,kP]at h';cases h'
  |some x=>
   rw[q]at h';obtain⟨u,hu,e2⟩:=wj _ _ h';have i:=kG (rs:=rs) (λr' m x'=>hr r' (N8 _ m) x') hu;have j:=hr r N9 x q;rw[Ox,PR,e2,i,j];show 0+g r+(rs.map g).sum=_;lia
theorem vD(h:∀i x,ex i=Xb x->x=mo i):∀(d:Nat)(r:Rw)(x:Int),dD ex d r=Xb x->x=bK mo d r:=by
 intro d;induction d with
 |zero=>
  intro r x e;cases r with
  |call n i ts=>
   unfold dD at e;cases q:ex i with
   |none=>rw[q]at e;cases e
   |some y=>rw[q]at e;cases e;rw[h i y q];rfl
  |_=>cases e;rfl
 |succ d ih=>
  intro r x e;cases r with
  |call n i ts=>
   unfold dD at e;cases q:ex i with
   |none=>rw[q]at e;cases e
   |some y=>rw[q]at e;cases e;rw[h i y q];rfl
  |iff n v f o l r=>
   unfold dD at e;split at e
   ·rename_i x1 y1 e1 e2;have a1:=kG (λr _=>ih r) e1;have a2:=kG (λr _=>ih r) e2;split at e
    ·cases e;unfold bK iy;rw[<-a1,<-a2];split<;>lia
    cases e
   cases e
  |loop n t m b l r=>
   unfold dD at e;split at e
   ·rename_i x1 e1;have a1:=kG (λr _=>ih r) e1;split at e
    ·cases e;unfold bK iy;rw[<-a1];rw[if_neg (),show x1+l=r by lia]
    cases e
   cases e
  |_=>cases e;rfl
structure La where
 S:Q1
 ln:Q1
 lm:Q1
 lo:Q1
 lk:Q1
 lt:Q1
 lc:Q1
 ll:Q1
 fF:List Int
 kn:Nat
 th:List Nat
 ev:Int
structure Dy where
 row:Int
 marks:List Nat
 cells:List Int
def La.M(s:La):List Q1:=[s.S,s.lm,s.ll]
def stK(s:La)(row:Int):List (Key×V):=[(.inr "names",.ref s.ln),(.inr "row",.int row),(.inr "marks",.ref s.lm),(.inr "mosts",.ref s.lo),(.inr "known",.ref s.lk),(.inr "things",.ref s.lt),(.inr "even",.int s.ev),(.inr "costs",.ref s.lc),(.inr "cells",.ref s.ll)]
def KnV(N:Nat->Str)(X:Hp)(v:V)(i:Nat):Prop:=∃p,v=.ref p/\X p=Xb (.tup [.str (N (â i)),.int ((i+1:Nat):Int)])
abbrev Ň(N:Nat->Str):List V:=(Rz 18).map λi=>V.str (N i)
def vd(E:En)(mo:Nat->Int)(ex:Nat->Option Int)(X:Hp)(lc:Q1)(kn:Nat):Prop:=∃cv,X lc=Xb (.dK (dk E.N ((Rz kn).map â) cv))/\∀i<kn,∃p,cv (â i)=.ref p/\X p=Xb (.tup [.int (mo i),mZ (ex i)])
theorem vd.same{X X':Hp}{lc:Q1}{kn:Nat}(s:aq X X')(h:vd E mo ex X lc kn):vd E mo ex X' lc kn:=by
 obtain⟨cv,h1,h2⟩:=h;refine{cv,s _ _ h1,λi hi=>?_};obtain⟨p,e,q⟩:=h2 i hi;exact{p,e,s _ _ q}
structure Hj(E:En)(mo:Nat->Int)(ex:Nat->Option Int)(X:Hp)(s:La):Prop where
 hn:X s.ln=Xb (.lst (Ň E.N))
 ho:X s.lo=Xb (.lst (s.fF.map V.int))
 hk:∃kv,X s.lk=Xb (.lst kv)/\Paired (KnV E.N X) kv (Rz s.kn)
 ht:X s.lt=Xb (.lst (ã E s.th))
 hx:vd E mo ex X s.lc s.kn
theorem Hj.same{X X':Hp}{s:La}(z:aq X X')(h:Hj E mo ex X s):Hj E mo ex X' s:=by
 obtain⟨kv,k1,k2⟩:=h.hk;exact{z _ _ h.hn,z _ _ h.ho,{kv,z _ _ k1,Paired.eX k2 λ_ _ ⟨p,e,q⟩=>{p,e,z _ _ q}},z _ _ h.ht,h.hx.same z}
structure Dyn(E:En)(H:Hp)(s:La)(y:Dy):Prop where
 hS:H s.S=Xb (.dK (stK s y.row))
 hm:H s.lm=Xb (.lst (ã E y.marks))
 mb:∀m∈y.marks,10<=m/\m<13
 hc:H s.ll=Xb (.lst (y.cells.map V.int))
theorem Dyn.same{H H':Hp}{s:La}{y:Dy}(z:aq H H')(h:Dyn E H s y):Dyn E H' s y:={z _ _ h.hS,z _ _ h.hm,h.mb,z _ _ h.hc}
structure rq(E:En)(s:La):Prop where
 n1:s.S≠s.lm
 n2:s.S≠s.ll
 n3:s.lm≠s.ll
 D:oE E.N
 ok:∀i,RK (E.N i)=true
 th:Bo E s.th
 t3:3<s.th.length
 kn:s.kn<=2
 l5:5∈E.ls
 l9:9∈E.ls
 ms:∀m∈s.fF,1<=m/\m<=4
 ml:s.fF.length<=2
structure dW(E:En)(mo:Nat->Int)(ex:Nat->Option Int)(H:Hp)(s:La)(y:Dy):Prop where
 st:Hj E mo ex (del s.M H) s
 dy:Dyn E H s y
variable{H H':Hp}{s:La}{y:Dy}
theorem dW.same(z:aq H H')(h:dW E mo ex H s y):dW E mo ex H' s y:={h.st.same (Go.new (M:=s.M) z).same,h.dy.same z}
theorem dW.go{y':Dy}(h:dW E mo ex H s y)(g:Go s.M H s.M H')(d:Dyn E H' s y'):dW E mo ex H' s y':=⟨h.st.same g.same,d⟩
theorem dW.al(h:dW E mo ex H s y):∀a∈s.M,H a≠Xc:=λa m e=>by
 rcases Ob.mp m with rfl|m
 ·rw[h.dy.hS]at e;cases e
 rcases Ob.mp m with rfl|m
 ·rw[h.dy.hm]at e;cases e
 rcases Ob.mp m with rfl|m
 ·rw[h.dy.hc]at e;cases e
 cases m
theorem inS(s:La):s.S∈s.M:=N9
theorem inm(s:La):s.lm∈s.M:=N8 _ N9
theorem Li(s:La):s.ll∈s.M:=N8 _ (N8 _ N9)
theorem dW.row(O:rq E s)(h:dW E mo ex H s y)(n:Int):dW E mo ex (upd H s.S (.dK (stK s n))) s { y with row:=n }:=h.go (Go.at (inS s) _) ⟨av,aF O.n1.symm h.dy.hm,h.dy.mb,aF O.n2.symm h.dy.hc⟩
theorem dW.mark(O:rq E s)(h:dW E mo ex H s y)(ms:List Nat)(hms:∀m∈ms,m∈y.marks):dW E mo ex (upd H s.lm (.lst (ã E ms))) s { y with marks:=ms }:=h.go (Go.at (inm s) _) ⟨aF O.n1 h.dy.hS,av,λm x=>h.dy.mb m (hms m x),aF O.n3.symm h.dy.hc⟩
theorem dW.cell(O:rq E s)(h:dW E mo ex H s y)(cs:List Int):dW E mo ex (upd H s.ll (.lst (cs.map V.int))) s { y with cells:=cs }:=h.go (Go.at (Li s) _) ⟨aF O.n2 h.dy.hS,aF O.n3 h.dy.hm,h.dy.mb,av⟩
theorem dW.dm(h:dW E mo ex H s y)(g:Go s.M H s.M H'){y':Dy}(h':dW E mo ex H' s y'):Dm H H':=λa e=>by
 cases q:H a with
 |none=>rfl
 |some o=>
  by_cases m:a∈s.M
  ·exact absurd e (h'.al a m)
  rw[g.o a o m q]at e;cases e
def knD(N:Nat->Str)(i:Nat):UE:=.tuple [.str (N (â i)),.int ((i+1:Nat):Int)]
theorem Fj{X:Hp}(z:aq X H){N:Nat->Str}:∀{kv:List V}{ki:List Nat},Paired (KnV N X) kv ki->ff K H kv (ki.map (knD N))
 |_,_,.nil=>.nil
 |_,_,.cons ⟨t,e,h⟩ r=>by
  subst e;exact .cons (.tup (É.of (z _ _ h)) (.cons (.str _) (.cons (.int _) .nil))) (Fj z r)
theorem Df(O:rq E s):Rq (.list ((Rz s.kn).map (knD E.N)))=true:=by
 have:s.kn=0\/s.kn=1\/s.kn=2:=by have:=O.kn;lia
 rcases this with e|e|e<;>rw[e]<;>simp[Qw,knD,Rq,Sa,Sb,SM,Sf,O.ok]
end
section
variable{P:Program}{w:Rh}{K:Q6}{mg:Str->Option Q0}{base:Rp}{A:Ï}{E:En}{mo:Nat->Int}{ex:Nat->Option Int}
seal PE PA PS ď PT PW
def Xu:List Str:=["set","set","put","send","send","say","if","if","loop","loop","last","call","close","close"]
theorem bo{x y:Str}(h:decide (V.str x=V.str y)=true):x=y:=by
 have:=of_decide_eq_true h;cases this;rfl
theorem gf{x y:Str}(h:¬ decide (V.str x=V.str y)=true):x≠y:=λe=>h (by rw[e];exact decide_eq_true rfl)
inductive CH(E:En)(mo:Nat->Int)(ex:Nat->Option Int)(vs:List V)(H:Hp)(Q:VK)(Ã:XK):Prop
 |mk(s:La)(y:Dy)(c:Int)(dp lp:Nat):vs=[.ref s.S,.int c,.int dp,.int lp]->rq E s->dW E mo ex H s y->(∀(x:Str) H',aq H H'->(x="if"->dp<=3)->(x="loop"->dp<=3/\lp<s.fF.length)->(x="call"->0<s.kn)->(x="last"->0<lp)->Q (.str x) H')->CH E mo ex vs H Q Ã
theorem JR(T:Txt K mg A):T.uz.Hz P w base 1 (CH E mo ex):=by
 refine T.uz.hs nh (λf Ä A' outer s H vs Q E' hr hu h=>?_);obtain⟨s,y,c,dp,lp,rfl,O,L,q⟩:=h;refine⟨_,(af (Æ 4 nh.nd (aU (ay^ay^ay^ay^ay^ay^ay^ay^ay^ay^ay^ay^ay^ay^ae)))
 (af (Æ 5 nh.nd (px hu (fv 4) (ax bH (fv 1) ah)))
 (af (aN (PW.pt (pw_or (PW.pt (pw_and (Ð (b8 hu) (fv 5) ay) (pw_and1 (Ð (b8 hu) (fv 2) ah)))) (pw_or (PW.pt (pw_and (Ð (b8 hu) (fv 5) ay) (pw_and1 (Ð C9 (fv 2) ah)))) (pw_or1 (PW.pt (pw_and (Ð (b8 hu) (fv 5) ay) (pw_and1 (Ð (b8 hu) (fv 3) ah))))))))
  (ai (aA ay))
  aG)
 (af (aN (PW.pt (pw_and (Ð (b8 hu) (fv 5) ay) (pw_and1 (PW.pt (pw_or (Ð C9 (fv 2) ah) (pw_or1 (Ð NF (fv 3) (Ó lQ T.kO (px hu (fv 0) ay^ae)))))))))
  (ai (aA ay))
  aG)
 (af (aN (PW.pt (pw_and (Ð (b8 hu) (fv 5) ay) (pw_and1 (PW.pt (pw_or (Ð (b8 hu) (px hu (fv 0) ay) (aU ae)) (pw_or1 (Ð C9 (fv 3) ah)))))))
  (ai (aA ay))
  aG)
 (ai (aA (fv 5)))))))),?_⟩
 refine{by show 14<=sizeLine;decide,λlo ϸ=>?_};have s1:=aq.upd ϸ (HO.lst (Xu.map V.str));have e1:(upd H lo (HO.lst (Xu.map V.str))) lo=Xb (.lst (Xu.map V.str)):=av;change Dv _ _ _ _ (upd H lo (HO.lst (Xu.map V.str)));generalize upd H lo (HO.lst (Xu.map V.str))=H1 at s1 e1⊢;have L1:=L.same s1;have m:=bA c (show(0:Int)<14 by decide);obtain⟨x,hx,_,ex'⟩:=w9 V.str (xs:=Xu) m.1 m.2;refine{(by show(0:Int)<14;decide),(ì (À.of e1) ex' ?_)};dsimp only;refine ao λM1 K1=>?_;have set:∀H2,aq H H2->Q (.str "set") H2:=λH2 s2=>q _ _ s2 (λz=>absurd z ∅) (λz=>absurd z ∅) (λz=>absurd z ∅) (λz=>absurd z ∅);have fin:(x="if"->dp<=3)->(x="last"->0<lp)->M1 [Xb (.ref s.S),Xb (.int c),Xb (.int dp),Xb (.int lp),Xb (.ref lo),Xb (.str x)] H1:=λz1 z4=>K1 _ _ (by
  refine ao λM2 K2=>?_;have Ι:(x="loop"->dp<=3/\lp<s.fF.length)->M2 [Xb (.ref s.S),Xb (.int c),Xb (.int dp),Xb (.int lp),Xb (.ref lo),Xb (.str x)] H1:=λz2=>K2 _ _ (by
   refine ao λM3 K3=>?_;have fin3:(x="call"->0<s.kn)->∀H2,aq H H2->M3 [Xb (.ref s.S),Xb (.int c),Xb (.int dp),Xb (.int lp),Xb (.ref lo),Xb (.str x)] H2:=λz3 H2 s2=>K3 _ _ (q x H2 s2 z1 z2 z3 z4);refine{rfl,_,rfl,a8 (λa=>?_) (λa=>aT (fin3 (λz=>absurd z (gf a)) _ s1))};refine æ L1.dy.hS rfl {Oj _,λl hl=>?_};obtain⟨s2,e2⟩:=Ò hl (HO.lst []);generalize upd H1 l _=H2 at s2 e2⊢;obtain⟨kv,k1,k2⟩:=L1.st.hk;refine N6 (N6 {_,_,.lst (À.of (s2 _ _ (aL _ _ k1))) (Fj (aL.trans s2) k2),.lst (À.of e2) .nil,Df O,rfl,_,rfl,?_});cases e:s.kn with
   |zero=>exact bp (bp (q "send" _ (s1.trans s2) (λz=>absurd z ∅) (λz=>absurd z ∅) (λz=>absurd z ∅) (λz=>absurd z ∅)))
   |succ n=>
    rw[List.range_succ_eq_map];exact aT {_,rfl,a8 (λb=>q "send" _ (s1.trans s2) (λz=>absurd z ∅) (λz=>absurd z ∅) (λz=>absurd z ∅) (λz=>absurd z ∅)) (λb=>fin3 (λ_=>()) _ (s1.trans s2))})
  refine{rfl,_,rfl,a8 (λa=>?_) (λa=>aT (Ι (λz=>absurd z (gf a))))};have put:∀H2,aq H H2->Q (.str "put") H2:=λH2 s2=>q _ _ s2 (λz=>absurd z ∅) (λz=>absurd z ∅) (λz=>absurd z ∅) (λz=>absurd z ∅);refine{_,rfl,a8 (λb=>bp (put _ s1)) (λb=>?_)};have hb:¬ (3:Int)<dp:=λz=>b (decide_eq_true z);refine æ L1.dy.hS rfl (lnl (aL _ _ L1.st.ho) {_,rfl,a8 (λb2=>put _ s1) (λb2=>?_)});have hb2:¬ (((s.fF.map V.int).length:Nat):Int)<=lp:=λz=>b2 (decide_eq_true z);rw[N3]at hb2;exact Ι λ_=>{(),()})
 refine{rfl,_,rfl,a8 (λa=>?_) (λa=>aT ?_)}
 ·have e:=bo a;have go:∀z:Str,x=z->z≠"close"->False:=λz e2 n=>n (e2.symm.trans e);exact{rfl,_,rfl,a8 (λb=>bp (set _ s1)) (λb=>{rfl,_,rfl,a8 (λa=>(go _ (bo a) ∅).elim) (λa=>aT {rfl,_,rfl,a8 (λa=>(go _ (bo a) ∅).elim) (λa=>aT (fin (λz=>(go _ z ∅).elim) (λz=>(go _ z ∅).elim)))})})}
 refine{rfl,_,rfl,a8 (λa=>?_) (λa=>aT ?_)}
 ·have e:=bo a;refine{_,rfl,a8 (λb=>bp (set _ s1)) (λb=>?_)};have hb:¬ (3:Int)<dp:=λz=>b (decide_eq_true z);exact{rfl,_,rfl,a8 (λa=>absurd (e.symm.trans (bo a)) ∅) (λa=>aT (fin (λz=>()) (λz=>absurd (e.symm.trans z) ∅)))}
 have n:=gf a;exact{rfl,_,rfl,a8 (λa=>{rfl,_,rfl,a8 (λb=>set _ s1) (λb=>fin (λz=>absurd z n) (λ_=>by have:¬ (lp:Int)=0:=λy=>b (decide_eq_true (congrArg V.int y));lia))}) (λa=>aT (fin (λz=>absurd z n) (λz=>absurd z (gf a))))}
theorem Ba{n i j:Nat}(h:(Rz n)[i]?=Xb j):i<n/\j=i:=by
 obtain⟨h1,h2⟩:=Ot.mp h;rw[List.getElem_range]at h2;rw[Qp]at h1;exact⟨h1,h2.symm⟩
theorem fe(N:Nat->Str){i:Nat}(h:i<18):Ġ (Ň N) (i:Int)=Xb (.str (N i)):=jH (by rw[Oi,Vc h];rfl)
theorem GC:∀ys:List V,(∀y∈ys,∃t:Th,t.ok E/\y=t.v E.N)->∃ts:List Th,ys=ts.map (Th.v E.N)/\∀t∈ts,t.ok E
 | [],_=>{[],rfl,λ_ h=>by cases h}
 |y::r,h=>by
  obtain⟨t,ht,rfl⟩:=h y N9;obtain⟨ts,rfl,hts⟩:=GC r λz hz=>h z (N8 _ hz);exact⟨t::ts,rfl,λz hz=>by
   rcases Ob.mp hz with rfl|hz
   ·exact ht
   exact hts z hz⟩
def Ek(E:En)(mo:Nat->Int)(kn:Nat)(r:Rw):Prop:=(∀d,Ď E kn d r)/\((∀d,bK mo d r=1)\/∃i<kn,∀d,bK mo d r=1+mo i)
inductive vT(E:En)(mo:Nat->Int)(ex:Nat->Option Int)(vs:List V)(H:Hp)(Q:VK)(Ã:XK):Prop
 |mk(s:La)(y:Dy)(c:Int)(x:Str)(k:Nat):vs=[.ref s.S,.int c,.str x]->rq E s->dW E mo ex H s y->(x="call"->0<s.kn)->(x="last"->0<k)->(∀v r y' H',Go s.M H s.M H'->dW E mo ex H' s y'->y'.cells=y.cells->(∀d,bZ E.N (Ø H H') d v r)->Ek E mo s.kn r->Nr k y.row r y'.row->Q v H')->vT E mo ex vs H Q Ã
theorem Fs(T:Txt K mg A):T.rn.Hz P w base 4 (vT E mo ex):=by
 have A2:=@Gi P w _ _ base _ T;have E9:=x5 (P:=P) (w:=w) (base:=base) (E:=E) T;have QI:=BP (P:=P) (w:=w) (base:=base) (E:=E) T;refine T.rn.hs (k:=3) eA (λf Ä A' outer s H vs Q E' hr hu h=>?_);obtain⟨s,y,c,x,k,rfl,O,L,hk,hlast,q⟩:=h;refine⟨_,(af (Æ 3 eA.nd (px hu (fv 0) ay))
 (af (Æ 4 eA.nd (px hu (fv 0) ay))
 (af (cn (ax aO (fv 4) ah) (cH (fv 0) ay (cI hu Xe)))
 (af (Æ 5 eA.nd (aj (hj:=by lia) QI hr ((aj (hj:=by lia) A2 hr (fv 1^ah^ae))^px hu (fv 0) ay^aU (px hu (fv 3) ah^px hu (fv 3) ah^ae)^ae)))
 (af (Æ 6 eA.nd (px hu (px hu (fv 0) ay) (ax aO ah (ax bH (aj (hj:=by lia) A2 hr (fv 1^ah^ae)) (ax oR (Ó lQ T.kO (px hu (fv 0) ay^ae)) ah)))))
 (af (aN (Ð (b8 hu) (fv 2) ay)
  (ai (aA (bE (fv 4^ay^px hu (fv 3) ah^(aj (hj:=by lia) E9 hr ((aj (hj:=by lia) A2 hr (fv 1^ah^ae))^px hu (fv 0) ay^ae))^fv 5^ae))))
  aG)
 (af (aN (Ð (b8 hu) (fv 2) ay)
  (ai (aA (bE (fv 4^ay^(px hu (fv 3) (ax bH (aj (hj:=by lia) A2 hr (fv 1^ah^ae)) ah))^fv 5^ae))))
  aG)
 (af (aN (PW.pt (pw_and (Ð (b8 hu) (fv 2) ay) (pw_and1 (Ð (xK hu) (px hu (fv 0) ay) (aU ae)))))
  (ai (aA (bE (fv 4^ay^fv 6^fv 5^Ja (px hu (fv 0) ay)^ae))))
  aG)
 (af (aN (Ð (b8 hu) (fv 2) ay)
  (ai (aA (bE (fv 4^ay^ae))))
  aG)
 (af (aN (Ð (b8 hu) (fv 2) ay)
  (af (cn (px hu (px hu (fv 0) ay) (ax bH (aj (hj:=by lia) A2 hr (fv 1^ah^ae)) (Ó lQ T.kO (px hu (fv 0) ay^ae)))) (kg rfl (bB (Õ (i:=7) eA.nd rfl) (bB (Õ (i:=8) eA.nd rfl) gC))))
  (ai (aA (bE (fv 4^ay^fv 7^(dF (N:=["_law_j","_law_state","_law_cell"]) (own:=1) (fr:=[0,1]) (b4.of (by kernel_rfl!)) rfl (qX rfl T.ir (fv 8^ae)) (λb=>Õ (i:=0) (show Rr (["_law_j","_law_state","_law_cell"]:List RF) by decide+kernel) rfl) (λb=>fP) (λb=>aj (hj:=by lia) E9 hr ((ax bU (aj (hj:=by lia) A2 hr (fv 2^ah^ae)) (ax aO (ax j5 (fv 0) ah) ah))^px hu (fv 1) ay^ae)))^ae)))))
  aG)
 (ai (aA (bE (fv 4^ay^fv 6^fv 5^ae)))))))))))))),?_⟩
 refine æ L.dy.hS rfl (æ L.dy.hS rfl {_,fS.k (k:=.inr "row") L.dy.hS (show 9<sizeLine by decide),?_});rw[show Xi (stK s y.row) (.inr "row") (.int (y.row+1))=stK s (y.row+1)from rfl];have L1:=L.row O (y.row+1);have g1:Go s.M H s.M (upd H s.S (.dK (stK s (y.row+1)))):=Go.at (inS s) _;generalize upd H s.S (.dK (stK s (y.row+1)))=H1 at L1 g1⊢;refine{c,0,rfl,∅,λm0 H2 hm0 s2=>?_};have L2:=L1.same s2;refine æ L2.dy.hS rfl (ì (À.of (aL _ _ L2.st.hn)) (fe E.N (i:=5) ∅) (ì (À.of (aL _ _ L2.st.hn)) (fe E.N (i:=9) ∅) {by show 2<=sizeLine;decide,λl3 hl3=>?_}));obtain⟨s3,e3⟩:=Ò hl3 (HO.lst [V.str (E.N 5),.str (E.N 9)]);generalize upd H2 l3 _=H3 at s3 e3⊢;have L3:=L2.same s3;refine{m0,s.lt,l3,s.th,5,9,rfl,hm0,À.of (aL _ _ L3.st.ht),O.th,e3,O.l5,O.l9,λp val H4 hv s4 hp ep=>?_};have L4:=L3.same s4;have d1:Dm H H1:=L.dm g1 L1;have p0:H p=Xc:=d1 p (Dm.new (s2.trans s3) p hp);have g4:Go s.M H s.M H4:=g1.trans (Go.new ((s2.trans s3).trans s4));have d4:Dm H H4:=L.dm g4 L4;clear hp e3 hl3 s2 s3 s4 L1 L2 L3 g1 d1;refine æ L4.dy.hS rfl {c,1,rfl,∅,λm1 H5 hm1 s5=>?_};have L5:=L4.same s5;have ht5:=aL _ _ L5.st.ht;have lt:(((ã E s.th).length:Nat):Int)=(s.th.length:Int):=by rw[N3]
 have t3:=O.t3;have mm:=bA m1 (show(0:Int)<(s.th.length:Int)-3 by lia);obtain⟨o,ho,_,ea⟩:=w9 (λi=>V.str (E.N i)) (xs:=s.th) (k:=3+m1%((s.th.length:Int)-3)) () ();refine æ L5.dy.hS rfl (lnl ht5 {(by show(0:Int)<(((ã E s.th).length:Nat):Int)-3;lia),(ì (À.of ht5) (by rw[lt];exact ea) ?_)});have ok:=O.th.2 o ho;have g5:Go s.M H s.M H5:=g4.trans (Go.new s5);have d5:Dm H H5:=L.dm g5 L5;have Λ:=s5 _ _ ep;have fin:∀(H6:Hp)(y':Dy)(a:Q1)(ws:List V)(r:Rw),Go s.M H s.M H6->dW E mo ex H6 s y'->y'.cells=y.cells->H6 p=Xb (.tup (vV E.N val))->H6 a=Xc->Nr k y.row r y'.row->(∀X:Hp,X a=Xb (.tup ws)->(∀z o,H z=Xc->H6 z=Xb o->X z=Xb o)->∀d,bZ E.N X d (.ref a) r)->Ek E mo s.kn r->Q (.ref a) (upd H6 a (.tup ws)):=λH6 y' a ws r g6 L6 ec e6 ha nr hx pr=>by
  have s7:=aq.upd ha (HO.tup ws);have d6:Dm H H6:=L.dm g6 L6;refine q _ r y' _ (g6.trans (Go.new s7)) (L6.same s7) ec (hx _ (Ø.of (d6 a ha) av) λz o z0 ez=>Ø.of z0 (s7 _ _ ez)) pr nr
 dsimp only;refine ao λM1 K1=>?_;have hn5:=aL _ _ L5.st.hn;have r1:M1 [Xb (.ref s.S),Xb (.int c),Xb (.str x),Xb (.ref s.ln),Xb (.int y.row),Xb (.ref p),Xb (.str (E.N o)),Xc,Xc] H5:=K1 _ _ (by
  refine ao λM2 K2=>?_;have r2:M2 [Xb (.ref s.S),Xb (.int c),Xb (.str x),Xb (.ref s.ln),Xb (.int y.row),Xb (.ref p),Xb (.str (E.N o)),Xc,Xc] H5:=K2 _ _ (by
   refine ao λM3 K3=>?_;have r3:∀H6,aq H5 H6->M3 [Xb (.ref s.S),Xb (.int c),Xb (.str x),Xb (.ref s.ln),Xb (.int y.row),Xb (.ref p),Xb (.str (E.N o)),Xc,Xc] H6:=λH6 s6=>K3 _ _ (by
    have L6:=L5.same s6;have g6:Go s.M H s.M H6:=g5.trans (Go.new s6);refine ao λM4 K4=>?_;have r4:M4 [Xb (.ref s.S),Xb (.int c),Xb (.str x),Xb (.ref s.ln),Xb (.int y.row),Xb (.ref p),Xb (.str (E.N o)),Xc,Xc] H6:=K4 _ _ (by
     refine ao λM5 K5=>?_;have r5:M5 [Xb (.ref s.S),Xb (.int c),Xb (.str x),Xb (.ref s.ln),Xb (.int y.row),Xb (.ref p),Xb (.str (E.N o)),Xc,Xc] H6:=K5 _ _ (by
      refine{by show 4<=sizeLine;decide,λa ha=>fin H6 _ a _ (.set y.row o val) g6 L6 rfl (s6 _ _ Λ) ha .set (λX e1 e2 d=>?_) {λd=>?_,.inl λd=>?_}}
      ·have:∃a' p',V.ref a=.ref a'/\X a'=Xb (.tup [.int y.row,.str "set",.str (E.N o),.ref p'])/\X p'=Xb (.tup (vV E.N val)):={a,p,rfl,e1,e2 _ _ p0 (s6 _ _ Λ)};cases d<;>exact this
      ·have:o∈E.idx/\E.sz o=0/\val.ok E:=⟨ok.1,ok.2,hv⟩;cases d<;>exact this
      cases d<;>rfl)
     refine{rfl,_,rfl,a8 (λa=>?_) (λ_=>r5)};have k0:=hk (bo a);obtain⟨kv,k1,k2⟩:=L6.st.hk;have lk:(kv.length:Int)=(s.kn:Int):=by rw[Q7 k2,Qp]
     refine æ L6.dy.hS rfl {c,1,rfl,∅,λm2 H7 hm2 s7=>?_};have L7:=L6.same s7;have mk:=bA m2 (show(0:Int)<(kv.length:Int) by lia);obtain⟨u,u1,u2⟩:=BZ (xs:=kv) mk.1 mk.2;obtain⟨i,hi,⟨t,rfl,et⟩⟩:=gk k2 u1;obtain⟨ki,ei⟩:=Ba hi;have k1':=s7 _ _ (aL _ _ k1);refine æ L7.dy.hS rfl (lnl k1' {(by show(0:Int)<(kv.length:Int);lia),(ì (À.of k1') u2 ?_)});have n2:=O.kn;refine{t,_,rfl,É.of (s7 _ _ (aL _ _ et)),rfl,_,_,rfl,_,_,rfl,rfl,{_,rfl,(),(),yt (J:=Υ 0 (i+1)) (n:=i+1) (x:=λj=>.int (0+j)) (λ_ y _=>∃t:Th,t.ok E/\y=t.v E.N) (aH ()) (λ_ _=>Oc _) (λ_ _ h _=>h) (λ_ _ _ _ _ _ y=>y) (λb j H8 G hj s8 kk=>?_) (λ_ _ _ _ _ h=>h) (λ_ _ _ _ _ _ _ h=>h) (λD H8 ys hD s8 eD ly hy=>?_)}}
     ·have L8:=L7.same s8;refine{c,2,rfl,∅,λm3 H9 hm3 s9=>?_};have L9:=L8.same s9;have j1:j=0\/j=1:=()
      have hm4:In (m3/((0+(j:Int))*48+1)):=by
       obtain⟨a1,a2⟩:=hm3;rcases j1 with rfl|rfl
       ·exact{(),()}
       exact{(),()}
      exact{.inl {(),()},{(),()},æ L9.dy.hS rfl {_,s.lt,s.th,rfl,hm4,À.of (aL _ _ L9.st.ht),O.th,λt ht=>kk _ _ s9 ⟨t,ht,rfl⟩}}
     obtain⟨ts,rfl,hts⟩:=GC (E:=E) ys (λz hz=>by
      obtain⟨j,hj⟩:=Qi hz;exact hy j z hj)
     have L8:=L7.same s8;have s68:=s7.trans s8;have p8:=s68 _ _ (s6 _ _ Λ);have g8:=(g6.trans (Go.new s7)).trans (Go.new s8);have D0:H D=Xc:=L.dm (g6.trans (Go.new s7)) L7 D hD;refine{by show 4<=sizeLine;decide,λa ha=>fin H8 _ a _ (.call y.row i ts) g8 L8 rfl p8 ha .call (λX e1 e2 d=>?_) {λd=>?_,.inr {i,(),λd=>?_}}}
     ·have:∃a' p',V.ref a=.ref a'/\X a'=Xb (.tup [.int y.row,.str "call",.str (E.N (â i)),.ref p'])/\X p'=Xb (.lst (ts.map (Th.v E.N))):={a,D,rfl,e1,e2 _ _ D0 eD};cases d<;>exact this
     ·have:i<s.kn/\ts.length=i+1/\∀t∈ts,t.ok E:={(),by rw[N3]at ly;exact ly,hts};cases d<;>exact this
     cases d<;>rfl)
    refine{rfl,_,rfl,a8 (λzlast=>?_) (λ_=>r4)};refine{by show 2<=sizeLine;decide,λa ha=>fin H6 _ a _ (.last y.row) g6 L6 rfl (s6 _ _ Λ) ha (.last (hlast (bo zlast))) (λX e1 e2 d=>?_) {λd=>?_,.inl λd=>?_}}
    ·have:∃a',V.ref a=.ref a'/\X a'=Xb (.tup [.int y.row,.str "last"]):=⟨a,rfl,e1⟩;cases d<;>exact this
    ·cases d<;>exact Oy
    cases d<;>rfl)
   refine{rfl,_,rfl,a8 (λ_=>?_) (λ_=>aT (r3 _ (aq.refl _)))};refine æ L5.dy.hS rfl {Oj _,λl6 hl6=>?_};obtain⟨s6,e6⟩:=Ò hl6 (HO.lst []);generalize upd H5 l6 _=H6 at s6 e6⊢;have L6:=L5.same s6;have hm6:=L6.dy.hm;have em:ã E y.marks=(y.marks.map E.N).map V.str:=by rw[OQ];rfl
   refine{_,_,.lst (À.of (by rw[em]at hm6;exact hm6)) (ff.strs _),.lst (À.of e6) .nil,zw (λz hz=>?_),rfl,_,rfl,?_}
   ·obtain⟨i,_,rfl⟩:=Oq.mp hz;exact O.ok i
   have g6:Go s.M H s.M H6:=g5.trans (Go.new s6);by_cases Μ:y.marks=[]
   ·rw[Μ];exact aT (r3 _ s6)
   obtain⟨ms,mk,ek⟩:∃ms mk,y.marks=ms++[mk]:={y.marks.dropLast,y.marks.getLast Μ,(TN Μ).symm};have ev:((UZ ((y.marks.map E.N).map UG)).eqv (UZ []))=false:=by
    cases hm:y.marks with
    |nil=>exact absurd hm Μ
    |cons a r=>rfl
   rw[ev];refine bp (æ L6.dy.hS rfl {N6 {rfl,_,À.of hm6},_,_,.str (E.N mk),rfl,rfl,hm6,(by rw[show y.marks=ms++[mk]from ek];simp),?_});rw[show(ã E y.marks).dropLast=ã E ms by rw[ek];simp];have L7:=L6.mark O ms (λm hm=>by show m∈y.marks;rw[ek];exact Oh _ hm);have g7:Go s.M H s.M (upd H6 s.lm (.lst (ã E ms))):=g6.trans (Go.at (inm s) _);have e7:(upd H6 s.lm (.lst (ã E ms))) p=Xb (.tup (vV E.N val)):=aF (λz=>L.al s.lm (inm s) (by rw[<-z];exact p0)) (s6 _ _ Λ);generalize upd H6 s.lm (.lst (ã E ms))=H7 at L7 g7 e7⊢;refine{by show 5<=sizeLine;decide,λa ha=>fin H7 _ a _ (.say y.row o val mk) g7 L7 rfl e7 ha (.say (L.dy.mb mk (by rw[ek];exact Od _ N9))) (λX e1 e2 d=>?_) {λd=>?_,.inl λd=>?_}}
   ·have:∃a' p',V.ref a=.ref a'/\X a'=Xb (.tup [.int y.row,.str "say",.str (E.N o),.ref p',.str (E.N mk)])/\X p'=Xb (.tup (vV E.N val)):={a,p,rfl,e1,e2 _ _ p0 e7};cases d<;>exact this
   ·have:o∈E.idx/\E.sz o=0/\val.ok E:=⟨ok.1,ok.2,hv⟩;cases d<;>exact this
   cases d<;>rfl)
  refine{rfl,_,rfl,a8 (λ_=>?_) (λ_=>r2)};refine{c,1,rfl,∅,λm2 H6 hm2 s6=>?_};have L6:=L5.same s6;have hn6:=aL _ _ L6.st.hn;have mk:=bA m2 (show(0:Int)<2 by decide);have ei:((m2%2).toNat:Int)=m2%2:=()
  refine{(by show(0:Int)<2;decide),(ì (À.of hn6) (by rw[<-ei];exact fe E.N ()) {by show 4<=sizeLine;decide,λa ha=>fin H6 _ a _ (.snd y.row (m2%2).toNat val) (g5.trans (Go.new s6)) L6 rfl (s6 _ _ Λ) ha .snd (λX e1 e2 d=>?_) {λd=>?_,.inl λd=>?_}})}
  ·have:∃a' p',V.ref a=.ref a'/\X a'=Xb (.tup [.int y.row,.str "send",.str (E.N (m2%2).toNat),.ref p'])/\X p'=Xb (.tup (vV E.N val)):={a,p,rfl,e1,e2 _ _ p0 (s6 _ _ Λ)};cases d<;>exact this
  ·have:val.ok E:=hv;cases d<;>exact this
  cases d<;>rfl)
 refine{rfl,_,rfl,a8 (λ_=>?_) (λ_=>r1)};refine ì (À.of hn5) (fe E.N (i:=9) ∅) {c,2,rfl,∅,λm2 H6 hm2 s6=>?_};have L6:=L5.same s6;refine æ L6.dy.hS rfl {m2,s.lt,s.th,rfl,hm2,À.of (aL _ _ L6.st.ht),O.th,λt ht=>?_};have l9:=Ow.mp O.l9;refine{by show 5<=sizeLine;decide,λa ha=>fin H6 _ a _ (.put y.row 9 t val) (g5.trans (Go.new s6)) L6 rfl (s6 _ _ Λ) ha .put (λX e1 e2 d=>?_) {λd=>?_,.inl λd=>?_}}
 ·have:∃a' p',V.ref a=.ref a'/\X a'=Xb (.tup [.int y.row,.str "put",.str (E.N 9),t.v E.N,.ref p'])/\X p'=Xb (.tup (vV E.N val)):={a,p,rfl,e1,e2 _ _ p0 (s6 _ _ Λ)};cases d<;>exact this
 ·have:9∈E.idx/\0<E.sz 9/\t.ok E/\val.ok E:=⟨l9.1,of_decide_eq_true l9.2,ht,hv⟩;cases d<;>exact this
 cases d<;>rfl
end
section
variable{P:Program}{w:Rh}{K:Q6}{mg:Str->Option Q0}{base:Rp}{A:Ï}{E:En}{mo:Nat->Int}{ex:Nat->Option Int}{kn:Nat}
seal PE PA PS ď PT PW
theorem DC{i j:Int}{n:Nat}{t u:TS}{D:Xv}{B:St}{H:Hp}(h:Dv t u D (B.set n (Xb (.int (i+j)))) H):EV (.int i) (.int j) H (λx H1=>uC n x B H1 (Dv t u D)):=h
def IW(a b:Option Int)(l r g:Int):Option Int:=match a,b with
 |some x,Xb y=>if x+l=y+r then Xb g else Xc
 |_,_=>Xc
inductive E7(vs:List V)(H:Hp)(Q:VK)(Ã:XK):Prop
 |mk(t1 t2:Q1)(a0 b0:Int)(a1 b1:Option Int)(l r m:Int):vs=[.ref t1,.ref t2,.int l,.int r,.int m]->H t1=Xb (.tup [.int a0,mZ a1])->H t2=Xb (.tup [.int b0,mZ b1])->0<=m->m<=1000->(∀t H',aq H H'->H t=Xc->H' t=Xb (.tup [.int (1+m*iy (a0+l) (b0+r)),mZ (IW a1 b1 l r (1+m*iy (a0+l) (b0+r)))])->Q (.ref t) H')->E7 vs H Q Ã
theorem I0(T:Txt K mg A):T.xH.Hz P w base 1 E7:=by
 refine T.xH.hs tI (λf Ä A' outer s H vs Q E' hr hu h=>?_);obtain⟨t1,t2,a0,b0,a1,b1,l,r,m,rfl,h1,h2,m0,m1,q⟩:=h;have ň:=É.of (K:=K) h1;have Η:=É.of (K:=K) h2;refine⟨_,(af (Æ 5 tI.nd (ax aO ah (ax j5 (fv 4) (Ó uL T.oT (ax aO (px hu (fv 0) ah) (fv 2)^ax aO (px hu (fv 1) ah) (fv 3)^ae)))))
 (af (aN (PW.pt (pw_or (Ð vg (px hu (fv 0) ah) cU) (pw_or (Ð vg (px hu (fv 1) ah) cU) (pw_or1 (Ð (xK hu) (ax aO (px hu (fv 0) ah) (fv 2)) (ax aO (px hu (fv 1) ah) (fv 3)))))))
  (ai (aA (bE (fv 5^cU^ae))))
  aG)
 (ai (aA (bE (fv 5^fv 5^ae)))))),?_⟩
 refine N6 {_,_,Oo ň,rfl,N6 {_,_,Oo Η,rfl,_,_,rfl,.inl {(),()},?_}};dsimp only;refine DC ?_;change Dv _ _ _ [Xb (.ref t1),Xb (.ref t2),Xb (.int l),Xb (.int r),Xb (.int m),Xb (.int (1+m*iy (a0+l) (b0+r)))] H;have fin:∀z:Option Int,IW a1 b1 l r (1+m*iy (a0+l) (b0+r))=z->∀a,H a=Xc->Q (.ref a) (upd H a (.tup [.int (1+m*iy (a0+l) (b0+r)),mZ z])):=λz e a ha=>q a _ (aq.upd ha _) ha (by rw[e];exact av);refine ao λM1 K1=>?_;cases a1 with
 |none=>exact N6 {_,_,Oo ň,rfl,rfl,_,rfl,bp (bp {by show 2<=sizeLine;decide,fin Xc rfl})}
 |some x=>
  refine N6 {_,_,Oo ň,rfl,rfl,_,rfl,aT ?_};cases b1 with
  |none=>exact N6 {_,_,Oo Η,rfl,rfl,_,rfl,bp (bp {by show 2<=sizeLine;decide,fin Xc rfl})}
  |some y=>
   refine N6 {_,_,Oo Η,rfl,rfl,_,rfl,aT (N6 {_,_,Oo ň,rfl,N6 {_,_,Oo Η,rfl,rfl,_,rfl,?_}})};rw[Gf];by_cases c:x+l=y+r
   ·rw[decide_eq_true c];exact aT (K1 _ _ {by show 2<=sizeLine;decide,fin (Xb _) (if_pos c)})
   rw[decide_eq_false c];exact bp {by show 2<=sizeLine;decide,fin Xc (if_neg c)}
def pU(E:En)(mo:Nat->Int)(ex:Nat->Option Int)(kn:Nat):Prop:=oE E.N/\kn<=2/\∀i x,ex i=Xb x->x=mo i
inductive qd(E:En)(mo:Nat->Int)(ex:Nat->Option Int)(kn d:Nat)(vs:List V)(H:Hp)(Q:VK)(Ã:XK):Prop
 |mk(Ö lc:Q1)(xs:List V)(rs:List Rw):vs=[.ref Ö,.ref lc]->H Ö=Xb (.lst xs)->Paired (bZ E.N H d) xs rs->(∀r∈rs,Ď E kn d r)->vd E mo ex H lc kn->(∀t H',aq H H'->H t=Xc->H' t=Xb (.tup [.int (rs.map (bK mo d)).sum,mZ (gm (rs.map (dD ex d)))])->Q (.ref t) H')->qd E mo ex kn d vs H Q Ã
def DU(E:En)(mo:Nat->Int)(ex:Nat->Option Int)(kn:Nat):Nat->Sp
 |0=>λ_ _ _ _=>False
 |d+1=>qd E mo ex kn d
theorem vd.get(C:pU E mo ex kn){H:Hp}{lc:Q1}(h:vd E mo ex H lc kn){i:Nat}(hi:i<kn):∃p,mB H lc (.str (E.N (â i))) (Xb (.ref p))/\H p=Xb (.tup [.int (mo i),mZ (ex i)]):=by
 obtain⟨cv,h1,h2⟩:=h;obtain⟨p,e,hp⟩:=h2 i hi;have k2:=C.2.1;refine{p,?_,hp};rw[<-e];refine Ll C.1 (.inl h1) (λj hj=>?_) (Oq.mpr ⟨i,Pm.mpr hi,rfl⟩);obtain⟨j',hj',rfl⟩:=Oq.mp hj;have:=Pm.mp hj';unfold â;lia
theorem node4{H:Hp}{d:Nat}{v:V}{r:Rw}(na:bZ E.N H d v r):(∃a n k ws,v=.ref a/\H a=Xb (.tup (n:: .str k::ws))/\k≠"call"/\k≠"if"/\k≠"loop"/\bK mo d r=1/\dD ex d r=Xb 1)\/(∃n i ts,r=.call n i ts)\/(∃n x f o l q,r=.iff n x f o l q)\/(∃n t m b l q,r=.loop n t m b l q):=by
 cases r with
 |call n i ts=>exact .inr (.inl {_,_,_,rfl})
 |iff n x f o l q=>exact .inr (.inr (.inl {_,_,_,_,_,_,rfl}))
 |loop n t m b l q=>exact .inr (.inr (.inr {_,_,_,_,_,_,rfl}))
 |last n=>cases d<;>(obtain⟨a,e,h⟩:=na;exact .inl {a,_,_,_,e,h,∅,∅,∅,rfl,rfl})
 |_=>cases d<;>(obtain⟨a,p,e,h,_⟩:=na;exact .inl {a,_,_,_,e,h,∅,∅,∅,rfl,rfl})
theorem BW(T:Txt K mg A)(C:pU E mo ex kn)(d:Nat)(A1:ę P w K mg base (d+1) "_law_cost" ["_law_nodes_here","_law_costs"] (DU E mo ex kn d)):T.qA.Hz P w base (d+2) (qd E mo ex kn d):=by
 refine T.qA.hs (k:=d+1) cG (λf Ä A' outer s H vs Q E' hr hu h=>?_);obtain⟨Ö,lc,xs,rs,rfl,hB,pr,wf,co,q⟩:=h;refine⟨_,(af (Æ 2 cG.nd ah)
 (af (Æ 3 cG.nd ah)
 (af (b6 Rg rfl (br (fv 0)) (Õ (i:=4) cG.nd rfl)
  (af (Æ 5 cG.nd (bE (ah^ah^ae)))
  (af (aN (Ð (b8 hu) (px hu (fv 4) ah) ay)
   (ai (Æ 5 cG.nd (bE (ax aO ah (px hu (px hu (fv 1) (px hu (fv 4) ah)) ah)^qE (Ð vg (px hu (px hu (fv 1) (px hu (fv 4) ah)) ah) cU) cU (ax aO ah (px hu (px hu (fv 1) (px hu (fv 4) ah)) ah))^ae))))
   (ai (aN (Ð (b8 hu) (px hu (fv 4) ah) ay)
    (ai (Æ 5 cG.nd (aj (hj:=by lia) (I0 T) hr ((aj (hj:=by lia) A1 hr (px hu (fv 4) ah^fv 1^ae))^(aj (hj:=by lia) A1 hr (px hu (fv 4) ah^fv 1^ae))^px hu (fv 4) ah^px hu (fv 4) ah^ah^ae))))
    (ai (aN (Ð (b8 hu) (px hu (fv 4) ah) ay)
     (ai (Æ 5 cG.nd (aj (hj:=by lia) (I0 T) hr ((aj (hj:=by lia) A1 hr (px hu (fv 4) ah^fv 1^ae))^bE (ah^ah^ae)^px hu (fv 4) ah^px hu (fv 4) ah^px hu (fv 4) ah^ae))))
     aG)))))
  (af (Æ 2 cG.nd (ax aO (fv 2) (px hu (fv 5) ah)))
  (ai (Æ 3 cG.nd (qE (PW.pt (pw_or (Ð vg (fv 3) cU) (pw_or1 (Ð vg (px hu (fv 5) ah) cU)))) cU (ax aO (fv 3) (px hu (fv 5) ah)))))))))
 (ai (aA (bE (fv 2^fv 3^ae))))))),?_⟩
 refine N6 {{_,À.of hB},bP (K:=K) (xs:=xs) (λi B H2=>aq H H2/\∃v4 v5,B=[Xb (.ref Ö),Xb (.ref lc),Xb (.int (((rs.map (bK mo d)).take i).sum)),Xb (mZ (((rs.map (dD ex d)).take i).foldl Xs (Xb 0))),v4,v5]) {aq.refl _,Xc,Xc,rfl} (λi B H2 _ h=>À.of (h.1 _ _ hB)) ?_ ?_}
 ·rintro i v B H2 hv ⟨s2,v4,v5,rfl⟩;obtain⟨r,Ŧ,na⟩:=gk pr hv;have rm:=Oe Ŧ;have wr:=wf r rm;have na2:=na.same s2;have hm1:(rs.map (bK mo d))[i]?=Xb (bK mo d r):=by rw[Oi,Ŧ];rfl
  have hm2:(rs.map (dD ex d))[i]?=Xb (dD ex d r):=by rw[Oi,Ŧ];rfl
  refine{by show 2<=sizeLine;decide,λt1 ht1=>?_};obtain⟨s3,e3⟩:=Ò ht1 (HO.tup [V.int 1,.int 1]);generalize upd H2 t1 _=H3 at s3 e3⊢;have na3:=na2.same s3;have co3:=(co.same s2).same s3;dsimp only;refine ao λM1 K1=>?_;have rest:∀(t:Q1)(H4:Hp),aq H3 H4->H4 t=Xb (.tup [.int (bK mo d r),mZ (dD ex d r)])->M1 [Xb (.ref Ö),Xb (.ref lc),Xb (.int (((rs.map (bK mo d)).take i).sum)),Xb (mZ (((rs.map (dD ex d)).take i).foldl Xs (Xb 0))),Xb v,Xb (.ref t)] H4:=λt H4 s4 e4=>K1 _ _ (by
   have e4':=É.of (K:=K) e4;refine N6 {_,_,Oo e4',rfl,?_};have es:((rs.map (bK mo d)).take (i+1)).sum=((rs.map (bK mo d)).take i).sum+bK mo d r:=by rw[Xk hm1,Qx];simp
   have fin:∀z:Option Int,Xs (((rs.map (dD ex d)).take i).foldl Xs (Xb 0)) (dD ex d r)=z->aq H H4/\∃v4 v5,[Xb (V.ref Ö),Xb (.ref lc),Xb (.int (((rs.map (bK mo d)).take i).sum+bK mo d r)),Xb (mZ z),Xb v,Xb (.ref t)]=[Xb (V.ref Ö),Xb (.ref lc),Xb (.int (((rs.map (bK mo d)).take (i+1)).sum)),Xb (mZ (((rs.map (dD ex d)).take (i+1)).foldl Xs (Xb 0))),v4,v5]:=λz hz=>{(s2.trans s3).trans s4,_,_,by rw[es,dH _ _ hm2,hz]};cases e5:((rs.map (dD ex d)).take i).foldl Xs (Xb 0)with
   |none=>
    rw[e5]at fin;exact{rfl,_,rfl,bp (bp (fin Xc rfl))}
   |some x=>
    rw[e5]at fin;refine{rfl,_,rfl,aT ?_};cases e6:dD ex d r with
    |none=>
     rw[e6]at fin e4';exact N6 {_,_,Oo e4',rfl,rfl,_,rfl,bp (fin Xc rfl)}
    |some y=>
     rw[e6]at fin e4';exact N6 {_,_,Oo e4',rfl,rfl,_,rfl,aT (N6 {_,_,Oo e4',rfl,fin (Xb (x+y)) rfl})})
  have sum_eq:∀(d':Nat)(zs:List Rw)(x:Int),gm (zs.map (dD ex d'))=Xb x->x=(zs.map (bK mo d')).sum:=λd' zs x h=>kG (λr _=>vD C.2.2 d' r) h;rcases node4 (mo:=mo) (ex:=ex) na3 with⟨a,n,k,ws,rfl,ea,n1,n2,n3,c1,c2⟩|⟨n,ci,ts,rfl⟩|⟨n,vl,fs,os,l,r0,rfl⟩|⟨n,th,m,bs,l,r0,rfl⟩
  ·have Û:=É.of (K:=K) ea;have at1:Ġ (n::V.str k::ws) 1=Xb (.str k):=jH (j:=1) rfl;exact N6 {_,_,Oo Û,at1,rfl,_,rfl,a8 (λz=>absurd (bo z) n1) (λ_=>N6 {_,_,Oo Û,at1,rfl,_,rfl,a8 (λz=>absurd (bo z) n2) (λ_=>N6 {_,_,Oo Û,at1,rfl,_,rfl,a8 (λz=>absurd (bo z) n3) (λ_=>rest t1 _ (aq.refl _) (by rw[c1,c2];exact e3))})})}
  ·have na4:∃a p,v=.ref a/\H3 a=Xb (.tup [.int n,.str "call",.str (E.N (â ci)),.ref p])/\H3 p=Xb (.lst (ts.map (Th.v E.N))):=by cases d<;>exact na3
   have wr':ci<kn:=by cases d<;>exact wr.1
   obtain⟨a,p,rfl,ea,_⟩:=na4;have Û:=É.of (K:=K) ea;obtain⟨pc,g1,g2⟩:=vd.get C co3 wr';have g2':=É.of (K:=K) g2;have c1:bK mo d (.call n ci ts)=1+mo ci:=by cases d<;>rfl
   have c2:dD ex d (.call n ci ts)=(ex ci).map λx=>1+x:=by cases d<;>rfl
   rw[c1,c2]at rest;refine N6 {_,_,Oo Û,rfl,rfl,_,rfl,bp (N6 {_,_,Oo Û,rfl,{_,g1,N6 {_,_,Oo g2',rfl,N6 {_,_,Oo Û,rfl,_,g1,N6 {_,_,Oo g2',rfl,rfl,_,rfl,?_}}}}})};cases e6:ex ci with
   |none=>
    rw[e6]at rest;exact bp {by show 2<=sizeLine;decide,λt ht=>rest t _ (aq.upd ht _) av}
   |some x=>
    rw[e6]at rest g2';exact aT (N6 {_,_,Oo Û,rfl,_,g1,N6 {_,_,Oo g2',rfl,by show 2<=sizeLine;decide,λt ht=>rest t _ (aq.upd ht _) av}})
  ·cases d with
   |zero=>exact(show False from wr).elim
   |succ d=>
    obtain⟨a,p,pf,po,xf,xo,rfl,ea,_,hf,ho,pf',po'⟩:=na3;obtain⟨_,l0,r1,_,_,w1,w2⟩:=wr;have Û:=É.of (K:=K) ea;refine N6 {_,_,Oo Û,rfl,rfl,_,rfl,a8 (λz=>absurd (bo z) ∅) (λ_=>N6 {_,_,Oo Û,rfl,rfl,_,rfl,bp (N6 {_,_,Oo Û,rfl,pf,lc,xf,fs,rfl,hf,pf',w1,co3,λu1 H4 s4 hu1 eu1=>N6 {_,_,Oo (É.of (s4 _ _ ea)),rfl,po,lc,xo,os,rfl,s4 _ _ ho,Paired.eX po' (λ_ _=>bZ.same s4),w2,co3.same s4,λu2 H5 s5 hu2 eu2=>?_}})})};have Ū:=É.of (K:=K) ((s4.trans s5) _ _ ea);refine N6 {_,_,Oo Ū,rfl,N6 {_,_,Oo Ū,rfl,{u1,u2,_,_,_,_,l,r0,1,rfl,s5 _ _ eu1,eu2,∅,∅,λt H6 s6 ht et=>rest t _ ((s4.trans s5).trans s6) ?_}}};rw[et];have e1:=sum_eq d fs;have e2:=sum_eq d os;unfold bK dD IW;rw[Int.one_mul];congr 3;cases q1:gm (fs.map (dD ex d))with
    |none=>rfl
    |some x=>
     cases q2:gm (os.map (dD ex d))with
     |none=>rfl
     |some y=>
      have f1:=e1 x q1;have f2:=e2 y q2;dsimp only;rw[<-f1,<-f2];by_cases c:x+l=y+r0
      ·rw[if_pos c,if_pos ()];unfold iy;rw[if_neg (),show 1+(x+l)=1+l+x by lia]
      rw[if_neg c,if_neg ()]
  cases d with
  |zero=>exact(show False from wr).elim
  |succ d=>
   obtain⟨a,pb,xb,rfl,ea,hb,pb'⟩:=na3;obtain⟨_,m0,m1,l0,r1,_,w1⟩:=wr;have Û:=É.of (K:=K) ea;refine N6 {_,_,Oo Û,rfl,rfl,_,rfl,a8 (λz=>absurd (bo z) ∅) (λ_=>N6 {_,_,Oo Û,rfl,rfl,_,rfl,a8 (λz=>absurd (bo z) ∅) (λ_=>N6 {_,_,Oo Û,rfl,rfl,_,rfl,bp (N6 {_,_,Oo Û,rfl,pb,lc,xb,bs,rfl,hb,pb',w1,co3,λu1 H4 s4 hu1 eu1=>{by show 2<=sizeLine;decide,λu2 hu2=>?_}})})})};obtain⟨s5,e5⟩:=Ò hu2 (HO.tup [V.int 0,.int 0]);generalize upd H4 u2 _=H5 at s5 e5⊢;have Ū:=É.of (K:=K) ((s4.trans s5) _ _ ea);refine N6 {_,_,Oo Ū,rfl,N6 {_,_,Oo Ū,rfl,N6 {_,_,Oo Ū,rfl,{u1,u2,_,0,_,Xb 0,l,r0,m,rfl,s5 _ _ eu1,e5,m0,m1,λt H6 s6 ht et=>rest t _ ((s4.trans s5).trans s6) ?_}}}};rw[et];have e1:=sum_eq d bs;unfold bK dD IW;rw[P4];congr 3;cases q1:gm (bs.map (dD ex d))with
   |none=>rfl
   |some x=>
    have f1:=e1 x q1;dsimp only;rw[<-f1];rw[P4];by_cases c:x+l=r0
    ·rw[if_pos c,if_pos ()];unfold iy;rw[if_neg (),c]
    rw[if_neg c,if_neg ()]
 rintro B H2 ⟨s2,v4,v5,rfl⟩;have pl:=Q7 pr;rw[Pa (by rw[N3];lia),Pa (by rw[N3];lia)];exact{by show 2<=sizeLine;decide,λt ht=>q t _ (s2.trans (aq.upd ht _)) (Dm.new s2 t ht) av}
theorem AX(T:Txt K mg A)(C:pU E mo ex kn):∀d,ę P w K mg base (d+2) "_law_cost" ["_law_nodes_here","_law_costs"] (qd E mo ex kn d)
 |0=>BW T C 0 (T.qA.hs (k:=0) cG (λ_ _ _ _ _ _ _ _ _ _ _ h=>h.elim) (λ_ _ _ _ h=>h.elim))
 |d+1=>BW T C (d+1) (AX T C d)
def cM(E:En)(kn d:Nat)(X:Hp)(Ö:Q1)(rs:List Rw):Prop:=∃xs,X Ö=Xb (.lst xs)/\Paired (bZ E.N X d) xs rs/\∀r∈rs,Ď E kn d r
theorem cM.same{d:Nat}{X X':Hp}{Ö:Q1}{rs:List Rw}(z:aq X X')(h:cM E kn d X Ö rs):cM E kn d X' Ö rs:=by
 obtain⟨xs,h1,h2,h3⟩:=h;exact{xs,z _ _ h1,Paired.eX h2 (λ_ _=>bZ.same z),h3}
def gg(mo:Nat->Int)(d:Nat)(rs:List Rw):Int:=(rs.map (bK mo d)).sum
inductive yP(E:En)(mo:Nat->Int)(ex:Nat->Option Int)(kn d:Nat)(vs:List V)(H:Hp)(Q:VK)(Ã:XK):Prop
 |mk(s:La)(y:Dy)(c:Int)(B1 B2:Q1)(Ĝ ĳ:List Rw):vs=[.ref s.S,.int c,.ref B1,.ref B2]->s.kn=kn->dW E mo ex H s y->cM E kn d H B1 Ĝ->cM E kn d H B2 ĳ->(∀p l r H',aq H H'->H' p=Xb (.lst [.int l,.int r])->0<=l->0<=r->iy (gg mo d Ĝ+l) (gg mo d ĳ+r)<=iy (gg mo d Ĝ) (gg mo d ĳ)+3->Q (.ref p) H')->yP E mo ex kn d vs H Q Ã
theorem IU(T:Txt K mg A)(C:pU E mo ex kn)(d:Nat):T.qM.Hz P w base (d+3) (yP E mo ex kn d):=by
 have A1:=AX (P:=P) (w:=w) (base:=base) T C d;refine T.qM.hs (k:=d+2) iz (λf Ä A' outer s H vs Q E' hr hu h=>?_);obtain⟨s,y,c,B1,B2,Ĝ,ĳ,rfl,ek,L,b1,b2,q⟩:=h;refine⟨_,(af (Æ 4 iz.nd (aj (hj:=by lia) (Gi T) hr (fv 1^ah^ae)))
 (af (aN (Ð (b8 hu) (px hu (fv 0) ay) ah)
  (ai (aA (px hu (aU (aU (ah^ah^ae)^aU (ax bH (ax bU (fv 4) ah) ah^ax bH (ax bU (fv 4) ah) ah^ae)^ae)) (ax bH (fv 4) ah))))
  aG)
 (af (Æ 5 iz.nd (ax bH (fv 4) ah))
 (af (Æ 6 iz.nd (ax aO (Ó uL T.oT ((px hu (aj (hj:=by lia) A1 hr (fv 2^px hu (fv 0) ay^ae)) ah)^(px hu (aj (hj:=by lia) A1 hr (fv 3^px hu (fv 0) ay^ae)) ah)^ae)) (fv 5)))
 (ai (aA (aU ((ax oR (fv 6) (px hu (aj (hj:=by lia) A1 hr (fv 2^px hu (fv 0) ay^ae)) ah))^(ax oR (fv 6) (px hu (aj (hj:=by lia) A1 hr (fv 3^px hu (fv 0) ay^ae)) ah))^ae)))))))),?_⟩
 refine{c,3,rfl,∅,λm H1 hm s1=>?_};obtain⟨m0,m1⟩:=hm;have L1:=L.same s1;dsimp only;refine ao λM1 K1=>?_;have mm:=bA m (show(0:Int)<4 by decide);have r1:M1 [Xb (.ref s.S),Xb (.int c),Xb (.ref B1),Xb (.ref B2),Xb (.int m),Xc,Xc] H1:=K1 _ _ (by
  refine{(by show(0:Int)<4;decide),?_};have cc:∀H2,aq H1 H2->vd E mo ex H2 s.lc kn:=λH2 s2=>by rw[<-ek];exact(L1.same s2).st.hx.same aL
  have bb:∀H2,aq H1 H2->∀(Ö:Q1)(rs:List Rw),cM E kn d H Ö rs->cM E kn d H2 Ö rs:=λH2 s2 Ö rs h=>h.same (s1.trans s2);obtain⟨xst1,h1,h2,h3⟩:=bb H1 (aq.refl _) B1 Ĝ b1;refine æ ((L1.same (aq.refl _)).dy.hS) rfl {B1,s.lc,xst1,Ĝ,rfl,h1,h2,h3,cc H1 (aq.refl _),λt1 H2 s2 _ e2=>N6 {_,_,Oo (É.of e2),rfl,?_}};obtain⟨xst2,h1,h2,h3⟩:=bb H2 s2 B2 ĳ b2;refine æ ((L1.same s2).dy.hS) rfl {B2,s.lc,xst2,ĳ,rfl,h1,h2,h3,cc H2 s2,λt2 H3 s3 _ e3=>N6 {_,_,Oo (É.of e3),rfl,{_,_,rfl,?_}}};have μ:=s2.trans s3;obtain⟨xst3,h1,h2,h3⟩:=bb H3 μ B1 Ĝ b1;refine æ ((L1.same μ).dy.hS) rfl {B1,s.lc,xst3,Ĝ,rfl,h1,h2,h3,cc H3 μ,λt3 H4 s4 _ e4=>N6 {_,_,Oo (É.of e4),rfl,?_}};have ņ:=μ.trans s4;obtain⟨xst4,h1,h2,h3⟩:=bb H4 ņ B2 ĳ b2;refine æ ((L1.same ņ).dy.hS) rfl {B2,s.lc,xst4,ĳ,rfl,h1,h2,h3,cc H4 ņ,λt4 H5 s5 _ e5=>N6 {_,_,Oo (É.of e5),rfl,{by show 2<=sizeLine;decide,λp hp=>q p _ _ _ ((s1.trans (ņ.trans s5)).trans (aq.upd hp _)) av ?_ ?_ ?_}}}
  ·split<;>lia
  ·split<;>lia
  unfold iy gg;split<;>split<;>lia)
 refine æ L1.dy.hS rfl {rfl,_,rfl,a8 (λ_=>?_) (λ_=>r1)};refine{by show 2<=sizeLine;decide,λp1 hp1=>?_};obtain⟨s2,e2⟩:=Ò hp1 (HO.lst [V.int 0,.int 0]);generalize upd H1 p1 _=H2 at s2 e2⊢;refine{{∅,∅},(by show(0:Int)<4;decide),{∅,∅},(by show(0:Int)<4;decide),by show 2<=sizeLine;decide,λp2 ϵ=>?_};obtain⟨s3,e3⟩:=Ò ϵ (HO.lst [V.int (m/2%4),.int (m/8%4)]);generalize upd H2 p2 _=H3 at s3 e3⊢;refine{by show 2<=sizeLine;decide,λp3 hp3=>?_};obtain⟨s4,e4⟩:=Ò hp3 (HO.lst [V.ref p1,.ref p2]);generalize upd H3 p3 _=H4 at s4 e4⊢;have m2:=bA m (show(0:Int)<2 by decide);have m4:=bA (m/2) (show(0:Int)<4 by decide);have m5:=bA (m/8) (show(0:Int)<4 by decide);refine{(by show(0:Int)<2;decide),N6 ?_};have:m%2=0\/m%2=1:=()
 rcases this with e|e<;>rw[e]
 ·exact{_,_,N6 (À.of e4),rfl,q p1 _ _ _ (((s1.trans s2).trans s3).trans s4) ((s3.trans s4) _ _ e2) ∅ ∅ (by rw[Qv,Qv];lia)}
 exact{_,_,N6 (À.of e4),rfl,q p2 _ _ _ (((s1.trans s2).trans s3).trans s4) (s4 _ _ e3) m4.1 m5.1 (by unfold iy;split<;>split<;>lia)}
theorem E8(h0:∀i<kn,0<=mo i):∀(d:Nat)(r:Rw),Ď E kn d r->1<=bK mo d r:=by
 have nn:∀(d:Nat)(xs:List Rw),(∀r∈xs,1<=bK mo d r)->0<=gg mo d xs:=λd xs h=>by
  unfold gg;induction xs with
  |nil=>exact O4 _
  |cons x r ih=>
   rw[Ox,PR];have:=h x N9;have:=ih λq hq=>h q (N8 _ hq);lia
 intro d;induction d with
 |zero=>
  intro r h;cases r with
  |iff=>exact(show False from h).elim
  |loop=>exact(show False from h).elim
  |call n i ts=>
   have:=h0 i h.1;show 1<=1+mo i;lia
  |_=>exact O4 _
 |succ d ih=>
  intro r h;cases r with
  |call n i ts=>
   have:=h0 i h.1;show 1<=1+mo i;lia
  |iff n v f o l r=>
   obtain⟨_,h1,h2,_,_,h3,h4⟩:=h;have a:=nn d f λq hq=>ih q (h3 q hq);have b:=nn d o λq hq=>ih q (h4 q hq);unfold gg at a b;unfold bK iy;split<;>lia
  |loop n t m b l r=>
   obtain⟨_,h1,_,h2,h3,_,h4⟩:=h;have a:=nn d b λq hq=>ih q (h4 q hq);unfold gg at a;unfold bK iy;have:0<=m*(if(b.map (bK mo d)).sum+l<r then r else(b.map (bK mo d)).sum+l):=Int.mul_nonneg h1 (by split<;>lia);lia
  |_=>exact O4 _
theorem qx(h0:∀i<kn,0<=mo i){d:Nat}{rs:List Rw}(h:∀r∈rs,Ď E kn d r):0<=gg mo d rs:=by
 unfold gg;induction rs with
 |nil=>exact O4 _
 |cons x r ih=>
  rw[Ox,PR];have:=E8 h0 d x (h x N9);have:=ih λq hq=>h q (N8 _ hq);lia
structure Wts(s:La)(mo:Nat->Int)(wt:Nat->Int):Prop where
 a:∀k,4<=wt k
 c:∀i<s.kn,0<=mo i/\∀k,1+mo i<=wt k
 l:∀k m,s.fF[k]?=Xb m->1+3*m<=wt k/\m*wt (k+1)<=wt k
inductive mQ(E:En)(mo:Nat->Int)(ex:Nat->Option Int)(kn:Nat)(wt:Nat->Int)(d:Nat)(vs:List V)(H:Hp)(Q:VK)(Ã:XK):Prop
 |mk(s:La)(y:Dy)(dp k:Nat):vs=[.ref s.S,.int dp,.int k]->dp+d=4->rq E s->dW E mo ex H s y->s.kn=kn->Wts s mo wt->y.cells.length<=100->(∀(D:Q1)(rs:List Rw)(y':Dy)(H':Hp),Go s.M H s.M H'->dW E mo ex H' s y'->cM E kn d (Ø H H') D rs->eV rs+y'.cells.length<=y.cells.length->gg mo d rs+wt k*y'.cells.length<=wt k*y.cells.length->Ns k y.row rs y'.row->Q (.ref D) H')->mQ E mo ex kn wt d vs H Q Ã
inductive qF(E:En)(mo:Nat->Int)(ex:Nat->Option Int)(kn:Nat)(wt:Nat->Int)(d:Nat)(vs:List V)(H:Hp)(Q:VK)(Ã:XK):Prop
 |mk(s:La)(y:Dy)(c:Int)(x:Str)(dp k:Nat):vs=[.ref s.S,.int c,.str x,.int dp,.int k]->dp+d=4->0<d->(x="loop"->k<s.fF.length)->rq E s->dW E mo ex H s y->s.kn=kn->Wts s mo wt->y.cells.length<=100->(∀(v:V)(r:Rw)(y':Dy)(H':Hp),Go s.M H s.M H'->dW E mo ex H' s y'->bZ E.N (Ø H H') d v r->Ď E kn d r->r.cnt+y'.cells.length<=1+y.cells.length->bK mo d r+wt k*y'.cells.length<=wt k+wt k*y.cells.length->Nr k y.row r y'.row->Q v H')->qF E mo ex kn wt d vs H Q Ã
theorem cM.on{d:Nat}{M:List Q1}{H Ha Hb Hc:Hp}{Ö:Q1}{rs:List Rw}(b:cM E kn d (Ø Ha Hb) Ö rs)(dm:Dm H Ha)(g:Go M Hb M Hc)(al:∀a∈M,Ha a≠Xc):cM E kn d (Ø H Hc) Ö rs:=(b.same (Ø.go g al)).same (Ø.up dm)
theorem bZ.KD{X:Hp}{d:Nat}{a p B1 B2:Q1}{n l r:Int}{val:Val}{f o:List Rw}(ha:X a=Xb (.tup [.int n,.str "if",.ref p,.ref B1,.ref B2,.int l,.int r]))(hp:X p=Xb (.tup (vV E.N val)))(h1:cM E kn d X B1 f)(h2:cM E kn d X B2 o):bZ E.N X (d+1) (.ref a) (.iff n val f o l r):=by
 obtain⟨xf,e1,e2,_⟩:=h1;obtain⟨xo,f1,f2,_⟩:=h2;exact⟨a,p,B1,B2,xf,xo,rfl,ha,hp,e1,f1,e2,f2⟩
theorem bZ.HQ{X:Hp}{d:Nat}{a B1:Q1}{n m l r:Int}{t:Th}{f:List Rw}(ha:X a=Xb (.tup [.int n,.str "loop",t.v E.N,.int m,.ref B1,.int l,.int r]))(h1:cM E kn d X B1 f):bZ E.N X (d+1) (.ref a) (.loop n t m f l r):=by
 obtain⟨xf,e1,e2,_⟩:=h1;exact⟨a,B1,xf,rfl,ha,e1,e2⟩
end
section
variable{P:Program}{w:Rh}{K:Q6}{mg:Str->Option Q0}{base:Rp}{A:Ï}{E:En}{mo:Nat->Int}{ex:Nat->Option Int}{kn:Nat}{wt:Nat->Int}
seal PE PA PS ď PT PW
theorem Fo(T:Txt K mg A)(C:pU E mo ex kn)(d:Nat)(LM:ę P w K mg base (2*d+8) "_law_nodes" ["_law_state","_law_deep","_law_loops"] (mQ E mo ex kn wt d)):T.kK.Hz P w base (2*d+9) (qF E mo ex kn wt (d+1)):=by
 have A2:=@Gi P w _ _ base _ T;have E9:=x5 (P:=P) (w:=w) (base:=base) (E:=E) T;have QI:=BP (P:=P) (w:=w) (base:=base) (E:=E) T;have QL:=IU (P:=P) (w:=w) (base:=base) T C d;refine T.kK.hs (k:=2*d+8) cC (λf Ä A' outer s H vs Q E' hr hu h=>?_);obtain⟨s,y,c,x,dp,k,rfl,hd,_,hx,O,L,ek,W,hl,q⟩:=h;have n0:∀i<kn,0<=mo i:=λi hi=>(W.c i (by rw[ek];exact hi)).1;refine⟨_,(af (Æ 5 cC.nd (px hu (fv 0) ay))
 (af (cn (ax aO (fv 5) ah) (cH (fv 0) ay (cI hu Xe)))
 (af (aN (Ð (b8 hu) (fv 2) ay)
  (af (Æ 6 cC.nd (aj (hj:=by lia) LM hr (fv 0^ax aO (fv 3) ah^ax aO (fv 4) ah^ae)))
  (af (cn (ax aO (px hu (fv 0) ay) ah) (cH (fv 0) ay (cI hu Xe)))
  (af (Æ 7 cC.nd (aj (hj:=by lia) QL hr (fv 0^fv 1^fv 6^aU ae^ae)))
  (af (Æ 8 cC.nd (ax aO ah (ax bH (aj (hj:=by lia) A2 hr (fv 1^ah^ae)) (px hu (px hu (fv 0) ay) (fv 4)))))
  (ai (aA (bE (fv 5^ay^(aj (hj:=by lia) E9 hr ((aj (hj:=by lia) A2 hr (fv 1^ah^ae))^px hu (fv 0) ay^ae))^fv 8^fv 6^px hu (fv 7) ah^px hu (fv 7) ah^ae))))))))
  aG)
 (af (Æ 9 cC.nd (aj (hj:=by lia) QI hr ((aj (hj:=by lia) A2 hr (fv 1^ah^ae))^px hu (fv 0) ay^aU (px hu (px hu (fv 0) ay) ah^px hu (px hu (fv 0) ay) ah^ae)^ae)))
 (af (Æ 10 cC.nd (aj (hj:=by lia) LM hr (fv 0^ax aO (fv 3) ah^fv 4^ae)))
 (af (cn (ax aO (px hu (fv 0) ay) ah) (cH (fv 0) ay (cI hu Xe)))
 (af (Æ 11 cC.nd (aj (hj:=by lia) LM hr (fv 0^ax aO (fv 3) ah^fv 4^ae)))
 (af (cn (ax aO (px hu (fv 0) ay) ah) (cH (fv 0) ay (cI hu Xe)))
 (af (Æ 7 cC.nd (aj (hj:=by lia) QL hr (fv 0^fv 1^fv 10^fv 11^ae)))
 (ai (aA (bE (fv 5^ay^fv 9^fv 10^fv 11^px hu (fv 7) ah^px hu (fv 7) ah^ae))))))))))))),?_⟩
 refine æ L.dy.hS rfl {_,fS.k (k:=.inr "row") L.dy.hS (show 9<sizeLine by decide),?_};rw[show Xi (stK s y.row) (.inr "row") (.int (y.row+1))=stK s (y.row+1)from rfl];have L1:=L.row O (y.row+1);have g1:Go s.M H s.M (upd H s.S (.dK (stK s (y.row+1)))):=Go.at (inS s) _;generalize upd H s.S (.dK (stK s (y.row+1)))=H1 at L1 g1⊢;have d1:Dm H H1:=L.dm g1 L1;dsimp only;refine ao λM1 K1=>?_;have r1:M1 [Xb (.ref s.S),Xb (.int c),Xb (.str x),Xb (.int dp),Xb (.int k),Xb (.int y.row),Xc,Xc,Xc,Xc,Xc,Xc] H1:=K1 _ _ (by
  refine{c,0,rfl,∅,λm0 H2 hm0 s2=>?_};have L2:=L1.same s2;have τ:=À.of (K:=K) (aL _ _ L2.st.hn);refine æ L2.dy.hS rfl (æ L2.dy.hS rfl (ì τ (fe E.N (i:=5) ∅) (æ L2.dy.hS rfl (ì τ (fe E.N (i:=9) ∅) {by show 2<=sizeLine;decide,λl3 hl3=>?_}))));obtain⟨s3,e3⟩:=Ò hl3 (HO.lst [V.str (E.N 5),.str (E.N 9)]);generalize upd H2 l3 _=H3 at s3 e3⊢;have L3:=L2.same s3;refine{m0,s.lt,l3,s.th,5,9,rfl,hm0,À.of (aL _ _ L3.st.ht),O.th,e3,O.l5,O.l9,λp val H4 hv s4 hp ep=>?_};have L4:=L3.same s4;have p0:H p=Xc:=d1 p (Dm.new (s2.trans s3) p hp);have pM:p∉s.M:=λm=>L.al p m p0;have g4:Go s.M H s.M H4:=g1.trans (Go.new ((s2.trans s3).trans s4));have d4:Dm H H4:=L.dm g4 L4;refine{s,_,dp+1,k,rfl,(),O,L4,ek,W,hl,λB1 Ĝ y5 H5 g5 L5 b1 n5 c5 m5=>æ L5.dy.hS rfl {_,fS.k (k:=.inr "row") L5.dy.hS (show 9<sizeLine by decide),?_}};rw[show Xi (stK s y5.row) (.inr "row") (.int (y5.row+1))=stK s (y5.row+1)from rfl];have L6:=L5.row O (y5.row+1);have g6:Go s.M H5 s.M (upd H5 s.S (.dK (stK s (y5.row+1)))):=Go.at (inS s) _;generalize upd H5 s.S (.dK (stK s (y5.row+1)))=H6 at L6 g6⊢;have d6:Dm H H6:=L.dm ((g4.trans g5).trans g6) L6;refine{s,_,dp+1,k,rfl,(),O,L6,ek,W,(by show y5.cells.length<=100;have h:=hl;dsimp only at n5;lia),λB2 ĳ y7 H7 g7 L7 b2 n7 c7 m7=>æ L7.dy.hS rfl {_,fS.k (k:=.inr "row") L7.dy.hS (show 9<sizeLine by decide),?_}};rw[show Xi (stK s y7.row) (.inr "row") (.int (y7.row+1))=stK s (y7.row+1)from rfl];have L8:=L7.row O (y7.row+1);have g8:Go s.M H7 s.M (upd H7 s.S (.dK (stK s (y7.row+1)))):=Go.at (inS s) _;generalize upd H7 s.S (.dK (stK s (y7.row+1)))=H8 at L8 g8⊢;have b1':cM E kn d (Ø H H8) B1 Ĝ:=b1.on d4 ((g6.trans g7).trans g8) L4.al;have b2':cM E kn d (Ø H H8) B2 ĳ:=b2.on d6 g8 L6.al;have w1:∀r∈Ĝ,Ď E kn d r:=by obtain⟨_,_,_,z⟩:=b1;exact z
  have w2:∀r∈ĳ,Ď E kn d r:=by obtain⟨_,_,_,z⟩:=b2;exact z
  refine{s,_,c,B1,B2,Ĝ,ĳ,rfl,ek,L8,b1'.same Ø.same,b2'.same Ø.same,λpi l r H9 s9 e9 l0 r0 mx=>?_};have L9:=L8.same s9;have g9:Go s.M H s.M H9:=(((g4.trans g5).trans g6).trans (g7.trans g8)).trans (Go.new s9);have d9:Dm H H9:=L.dm g9 L9;refine ì (À.of e9) rfl (ì (À.of e9) rfl {by show 7<=sizeLine;decide,λa ha=>?_});have sa:=aq.upd ha (HO.tup [V.int y.row,.str "if",.ref p,.ref B1,.ref B2,.int l,.int r]);have ep9:H9 p=Xb (.tup (vV E.N val)):=(((g5.trans g6).trans (g7.trans g8)).trans (Go.new s9)).o p _ pM ep;have sN:aq (Ø H H8) (Ø H (upd H9 a (HO.tup [V.int y.row,.str "if",.ref p,.ref B1,.ref B2,.int l,.int r]))):=Ø.on (s9.trans sa);have k1:=qx n0 w1;have k2:=qx n0 w2;have wa:=W.a k;dsimp only at n5 n7 c5 c7;have kl1:=dw Ĝ;have kl2:=dw ĳ;refine q _ (.iff y.row val Ĝ ĳ l r) _ _ (g9.trans (Go.new sa)) (L9.same sa) (bZ.KD (Ø.of (d9 a ha) av) (Ø.of p0 (sa _ _ ep9)) (b1'.same sN) (b2'.same sN)) {hv,l0,r0,(),(),w1,w2} (by rw[Rw.cnt];dsimp only;lia) ?_ (.iff m5 m7);dsimp only;unfold bK;unfold gg at mx k1 k2 c5 c7;have mx2:iy ((Ĝ.map (bK mo d)).sum) ((ĳ.map (bK mo d)).sum)<=(Ĝ.map (bK mo d)).sum+(ĳ.map (bK mo d)).sum:=by unfold iy;split<;>lia
  lia)
 refine{rfl,_,rfl,a8 (λa=>?_) (λ_=>r1)};have kl:=hx (bo a);refine{s,_,dp+1,k+1,rfl,(),O,L1,ek,W,hl,λB1 Ĝ y5 H5 g5 L5 b1 n5 c5 m5=>æ L5.dy.hS rfl {_,fS.k (k:=.inr "row") L5.dy.hS (show 9<sizeLine by decide),?_}};rw[show Xi (stK s y5.row) (.inr "row") (.int (y5.row+1))=stK s (y5.row+1)from rfl];have L6:=L5.row O (y5.row+1);have g6:Go s.M H5 s.M (upd H5 s.S (.dK (stK s (y5.row+1)))):=Go.at (inS s) _;generalize upd H5 s.S (.dK (stK s (y5.row+1)))=H6 at L6 g6⊢;refine{Oj _,λl7 hl7=>?_};obtain⟨s7,e7⟩:=Ò hl7 (HO.lst []);generalize upd H6 l7 _=H7 at s7 e7⊢;have L7:=L6.same s7;have b1':cM E kn d (Ø H H7) B1 Ĝ:=b1.on d1 (g6.trans (Go.new s7)) L1.al;have w1:∀r∈Ĝ,Ď E kn d r:=by obtain⟨_,_,_,z⟩:=b1;exact z
 refine{s,_,c,B1,l7,Ĝ,[],rfl,ek,L7,b1'.same Ø.same,{[],e7,.nil,λ_ z=>by cases z},λpi l r H9 s9 e9 l0 r0 mx=>?_};have L9:=L7.same s9;refine{c,1,rfl,∅,λm2 Ha hm2 sa=>?_};have La:=L9.same sa;obtain⟨mk,hmk⟩:∃m,s.fF[k]?=Xb m:={_,Oa kl};have mb:=O.ms mk (Oe hmk);have ak:Ġ (s.fF.map V.int) (k:Int)=Xb (.int mk):=jH (by rw[Oi,hmk];rfl);refine æ La.dy.hS rfl (ì (À.of (aL _ _ La.st.ho)) ak {(by show(0:Int)<mk;lia),?_});have mm:=bA m2 (show(0:Int)<mk by lia);refine{c,2,rfl,∅,λm3 Hb hm3 sb=>?_};have Lb:=La.same sb;refine æ Lb.dy.hS rfl {m3,s.lt,s.th,rfl,hm3,À.of (aL _ _ Lb.st.ht),O.th,λt ht=>?_};have eb:=(sa.trans sb) _ _ e9;refine ì (À.of eb) rfl (ì (À.of eb) rfl {by show 7<=sizeLine;decide,λa ha=>?_});have gb:Go s.M H s.M Hb:=((g1.trans g5).trans g6).trans (Go.new (s7.trans (s9.trans (sa.trans sb))));have db:Dm H Hb:=L.dm gb Lb;have sc:=aq.upd ha (HO.tup [V.int y.row,.str "loop",t.v E.N,.int (1+m2%mk),.ref B1,.int l,.int r]);have sN:aq (Ø H H7) (Ø H (upd Hb a (HO.tup [V.int y.row,.str "loop",t.v E.N,.int (1+m2%mk),.ref B1,.int l,.int r]))):=Ø.on ((s9.trans (sa.trans sb)).trans sc);have k1:=qx n0 w1;have wl:=W.l k mk hmk;dsimp only at n5 c5;have kl1:=dw Ĝ;refine q _ (.loop y.row t (1+m2%mk) Ĝ l r) _ _ (gb.trans (Go.new sc)) (Lb.same sc) (bZ.HQ (Ø.of (db a ha) av) (b1'.same sN)) {ht,(),(),l0,r0,(),w1} (by rw[Rw.cnt];dsimp only;lia) ?_ (.loop m5);dsimp only;unfold bK;unfold gg at mx k1 c5;have e0:(List.map (bK mo d) ([]:List Rw)).sum=0:=rfl;rw[e0,P4]at mx;generalize (Ĝ.map (bK mo d)).sum=cs at *;have mx2:iy (cs+l) r<=cs+3:=by
  refine Int.le_trans mx ?_;unfold iy;split<;>lia
 have r3:0<=iy (cs+l) r:=by unfold iy;split<;>lia
 have a1:(1+m2%mk)*iy (cs+l) r<=mk*(cs+3):=Int.le_trans (TB () r3) (TH mx2 ());have u0:(0:Int)<=(y.cells.length:Int)-(y5.cells.length:Int):=()
 have a2:cs<=wt (k+1)*((y.cells.length:Int)-(y5.cells.length:Int)):=by rw[Int.mul_sub];lia
 have a3:mk*cs<=mk*(wt (k+1)*((y.cells.length:Int)-(y5.cells.length:Int))):=TH a2 ();rw[<-Int.mul_assoc]at a3;have a4:=TB wl.2 u0;rw[Int.mul_sub (wt k)]at a4;rw[QB mk]at a1;lia
theorem Td{α β:Type}{F:α->β->Prop}{x:α}{y:β}(h:F x y):∀{xs:List α}{ys:List β},Paired F xs ys->Paired F (xs++[x]) (ys++[y])
 |_,_,.nil=>.cons h .nil
 |_,_,.cons g r=>.cons g (Td h r)
theorem Ds{r:Rw}(h:∀d,Ď E kn d r):r.cnt=1:=by
 have h0:=h 0;cases r with
 |iff=>exact(show False from h0).elim
 |loop=>exact(show False from h0).elim
 |_=>rfl
structure ř(E:En)(mo:Nat->Int)(ex:Nat->Option Int)(kn d k:Nat)(wk:Int)(H:Hp)(s:La)(y:Dy)(D:Q1)(Hc:Hp)(y':Dy)(xs:List V)(rs:List Rw):Prop where
 g:Go s.M H s.M Hc
 L:dW E mo ex Hc s y'
 hD:Hc D=Xb (.lst xs)
 p:Paired (bZ E.N (del [D] (Ø H Hc)) d) xs rs
 w:∀r∈rs,Ď E kn d r
 n:eV rs+y'.cells.length<=y.cells.length
 c:gg mo d rs+wk*y'.cells.length<=wk*y.cells.length
 r:Ns k y.row rs y'.row
theorem ř.same{d k:Nat}{wk:Int}{H Hc H2:Hp}{s:La}{y y':Dy}{D:Q1}{xs:List V}{rs:List Rw}(h:ř E mo ex kn d k wk H s y D Hc y' xs rs)(z:aq Hc H2):ř E mo ex kn d k wk H s y D H2 y' xs rs:=⟨h.g.trans (Go.new z),h.L.same z,z _ _ h.hD,Paired.eX h.p (λ_ _=>bZ.same (λa o e=>by
 obtain⟨e1,e2⟩:=eY e;exact bx e1 (Ø.on z a o e2))),h.w,h.n,h.c,h.r⟩
theorem ř.add{d k:Nat}{wk:Int}{H Hc H2:Hp}{s:La}{y y' y2:Dy}{D:Q1}{xs:List V}{rs:List Rw}{v:V}{r:Rw}{cs:List Int}{c0:Int}(h:ř E mo ex kn d k wk H s y D Hc y' xs rs)(L0:dW E mo ex H s y)(d0:H D=Xc)(e:y'.cells=cs++[c0]){H3:Hp}(g3:Go s.M Hc s.M H3)(L3:dW E mo ex H3 s { y' with cells:=cs })(g:Go s.M H3 s.M H2)(L2:dW E mo ex H2 s y2)(na:bZ E.N (Ø H3 H2) d v r)(wf:Ď E kn d r)(n2:r.cnt+y2.cells.length<=1+cs.length)(c2:bK mo d r+wk*y2.cells.length<=wk+wk*cs.length)(nr:Nr k y'.row r y2.row):H2 D=Xb (.lst xs)/\ř E mo ex kn d k wk H s y D (upd H2 D (.lst (xs++[v]))) y2 (xs++[v]) (rs++[r]):=by
 have dM:D∉s.M:=λm=>L0.al D m d0;have g2:Go s.M Hc s.M H2:=g3.trans g;have hD2:=g2.o D _ dM h.hD;have ϰ:∀a∈s.M,a≠D:=λa m z=>dM (z▸m);have hD3:=g3.o D _ dM h.hD;have dm3:Dm H H3:=L0.dm (h.g.trans g3) L3;have el:y'.cells.length=cs.length+1:=by rw[e,N7];rfl
 refine{hD2,{(h.g.trans g2).out d0 _,{L0.st.same (Go.same ((h.g.trans g2).out d0 _)),{aF (ϰ _ (inS s)) L2.dy.hS,aF (ϰ _ (inm s)) L2.dy.hm,L2.dy.mb,aF (ϰ _ (Li s)) L2.dy.hc}},av,?_,?_,?_,?_,h.r.snoc nr}}
 ·refine Td (bZ.same (λa o ea=>?_) na) (Paired.eX h.p λ_ _=>bZ.same λa o ea=>?_)
  ·obtain⟨e3,e4⟩:=Ø.get ea;have aD:a≠D:=λz=>by rw[z,hD3]at e3;cases e3
   exact bx (λm=>aD (by simpa using m)) (Ø.of (dm3 a e3) (aF aD e4))
  obtain⟨e1,e2⟩:=eY ea;obtain⟨e3,e4⟩:=Ø.get e2;have aD:a≠D:=λz=>e1 (by rw[z];exact N9);exact bx e1 (Ø.of e3 (aF aD (g2.o a o (λm=>L0.al a m e3) e4)))
 ·intro q hq;rcases Og.mp hq with m|m
  ·exact h.w q m
  rw[N4.mp m];exact wf
 ·have:=h.n;rw[zD,FZ];lia
 have hc:=h.c;have e1:gg mo d (rs++[r])=gg mo d rs+bK mo d r:=by unfold gg;rw[OB,Qx];simp
 have e2:wk*(y'.cells.length:Int)=wk*(cs.length:Int)+wk:=by rw[el,V8,QB,QA]
 rw[e1];lia
theorem ř.drop{d k:Nat}{wk:Int}{H Hc H2:Hp}{s:La}{y y':Dy}{D:Q1}{xs:List V}{rs:List Rw}{cs:List Int}{c0:Int}(h:ř E mo ex kn d k wk H s y D Hc y' xs rs)(L0:dW E mo ex H s y)(d0:H D=Xc)(e:y'.cells=cs++[c0])(wk0:0<=wk)(g:Go s.M Hc s.M H2)(L2:dW E mo ex H2 s { y' with cells:=cs }):ř E mo ex kn d k wk H s y D H2 { y' with cells:=cs } xs rs:=by
 have dM:D∉s.M:=λm=>L0.al D m d0;have el:y'.cells.length=cs.length+1:=by rw[e,N7];rfl
 have hn:=h.n;have hc:=h.c;refine{h.g.trans g,L2,g.o D _ dM h.hD,Paired.eX h.p λ_ _=>bZ.same λa o ea=>?_,h.w,by dsimp only;lia,?_,h.r}
 ·obtain⟨e1,e2⟩:=eY ea;exact bx e1 (Ø.go g L0.al a o e2)
 have e2:wk*(y'.cells.length:Int)=wk*(cs.length:Int)+wk:=by rw[el,V8,QB,QA]
 dsimp only;lia
theorem Ab(T:Txt K mg A)(C:pU E mo ex kn)(d:Nat)(QU:ę P w K mg base (2*d+7) "_law_block" ["_law_state","_law_cell","_law_kind_here","_law_deep","_law_loops"] (qF E mo ex kn wt d)):T.rG.Hz P w base (2*d+8) (mQ E mo ex kn wt d):=by
 have QX:=JR (P:=P) (w:=w) (base:=base) (E:=E) (mo:=mo) (ex:=ex) T;have QV:=Fs (P:=P) (w:=w) (base:=base) (E:=E) (mo:=mo) (ex:=ex) T;refine T.rG.hs (k:=2*d+7) ig (λf Ä A' outer s H vs Q E' hr hu h=>?_);obtain⟨s,y,dp,k,rfl,hd,O,L,ek,W,hl,q⟩:=h;refine⟨_,(af (Æ 3 ig.nd (aU ae))
 (af (zp Rg (Ð (xK hu) (px hu (fv 0) ay) (aU ae))
  (af (Æ 4 ig.nd (Ja (px hu (fv 0) ay)))
  (af (Æ 5 ig.nd (aj (hj:=by lia) QX hr (fv 0^fv 4^fv 1^fv 2^ae)))
  (af (aN (Ð (b8 hu) (fv 5) ay)
   (ai (GN))
   aG)
  (ai (aN (PW.pt (pw_or (Ð (b8 hu) (fv 5) ay) (pw_or1 (Ð (b8 hu) (fv 5) ay))))
   (ai (aW (bu (fv 3) ((aj (hj:=by lia) QU hr (fv 0^fv 4^fv 5^fv 1^fv 2^ae))^ae))))
   (ai (aW (bu (fv 3) ((aj (hj:=by lia) QV hr (fv 0^fv 4^fv 5^ae))^ae))))))))))
 (ai (aA (fv 3))))),?_⟩
 refine{Oj _,λD hD=>?_};obtain⟨s1,e1⟩:=Ò hD (HO.lst []);generalize upd H D _=H1 at s1 e1⊢;have N1:ř E mo ex kn d k (wt k) H s y D H1 y [] []:={Go.new s1,L.same s1,e1,.nil,(λ_ z=>by cases z),(by rw[eV,Nat.zero_add];exact Oc _),(by unfold gg;simp),.nil};dsimp only;refine ao λM1 K1=>?_;have fin:∀(Hc:Hp)(y':Dy)(xs:List V)(rs:List Rw)(v4 v5:Option V),ř E mo ex kn d k (wt k) H s y D Hc y' xs rs->M1 [Xb (.ref s.S),Xb (.int dp),Xb (.int k),Xb (.ref D),v4,v5] Hc:=λHc y' xs rs v4 v5 N=>K1 _ _ (q D rs y' Hc N.g N.L {xs,Ø.of hD N.hD,Paired.eX N.p (λ_ _=>bZ.same aL),N.w} N.n N.c N.r);refine{λm B Hc=>∃(y':Dy)(xs:List V)(rs:List Rw)(v4 v5:Option V),m=y'.cells.length/\B=[Xb (.ref s.S),Xb (.int dp),Xb (.int k),Xb (.ref D),v4,v5]/\ř E mo ex kn d k (wt k) H s y D Hc y' xs rs,{_,y,[],[],Xc,Xc,rfl,rfl,N1},?_};rintro m B Hc ⟨y',xs,rs,v4,v5,rfl,rfl,N⟩;refine æ N.L.dy.hS rfl {Oj _,λl2 hl2=>?_};obtain⟨s2,e2⟩:=Ò hl2 (HO.lst []);generalize upd Hc l2 _=H2 at s2 e2⊢;have N2:=N.same s2;refine{_,_,.lst (À.of N2.L.dy.hc) (ff.ints _),.lst (À.of e2) .nil,shaped_ints _,rfl,_,rfl,?_};by_cases Μ:y'.cells=[]
 ·rw[Μ];exact aT (fin _ _ _ _ _ _ N2)
 obtain⟨cs,c0,ec⟩:∃cs c0,y'.cells=cs++[c0]:={y'.cells.dropLast,y'.cells.getLast Μ,(TN Μ).symm};have ev:((UZ (y'.cells.map Sw)).eqv (UZ []))=false:=by
  cases hm:y'.cells with
  |nil=>exact absurd hm Μ
  |cons a r=>rfl
 rw[ev];refine bp ?_;have el:y'.cells.length=cs.length+1:=by rw[ec,N7];rfl
 have nn:=N.n;have cl:=dw rs;have xl:xs.length=rs.length:=Q7 N.p;refine{λB' H'=>∃(y3:Dy)(xs:List V)(rs:List Rw)(v4 v5:Option V),y3.cells.length<y'.cells.length/\B'=[Xb (.ref s.S),Xb (.int dp),Xb (.int k),Xb (.ref D),v4,v5]/\ř E mo ex kn d k (wt k) H s y D H' y3 xs rs,λB' H' ⟨y3,xs,rs,v4,v5,h1,h2,h3⟩=>{_,h1,y3,xs,rs,v4,v5,rfl,h2,h3},?_};have Β:=N2.L.dy.hc;refine æ N2.L.dy.hS rfl {N6 {rfl,_,À.of Β},_,_,.int c0,rfl,rfl,Β,(by rw[ec];simp),?_};rw[show(y'.cells.map V.int).dropLast=cs.map V.int by rw[ec];simp];have L3:=N2.L.cell O cs;have g3:Go s.M H2 s.M (upd H2 s.ll (.lst (cs.map V.int))):=Go.at (Li s) _;generalize upd H2 s.ll (.lst (cs.map V.int))=H3 at L3 g3⊢;refine{s,_,c0,dp,k,rfl,O,L3,λx H4 s4 h1 h2 h3 h4=>?_};have L4:=L3.same s4;have g4:Go s.M H2 s.M H4:=g3.trans (Go.new s4);have dM:D∉s.M:=λm=>L.al D m hD;have Ε:=g4.o D _ dM N2.hD;have add:=λ{H5:Hp}{y5:Dy}{v:V}{r:Rw}(g5:Go s.M H4 s.M H5)(L5:dW E mo ex H5 s y5)(na:bZ E.N (Ø H4 H5) d v r)(wf:Ď E kn d r)(n2:r.cnt+y5.cells.length<=1+cs.length)(c2:bK mo d r+wt k*y5.cells.length<=wt k+wt k*cs.length)(nr:Nr k y'.row r y5.row)=>N2.add L hD ec g4 L4 g5 L5 na wf n2 c2 nr;dsimp only;refine ao λM2 K2=>{rfl,_,rfl,a8 (λ_=>fin _ _ _ _ _ _ (N2.drop L hD ec (by have:=W.a k;lia) g4 L4)) (λ_=>K2 _ _ ?_)};have d0:(x="if"\/x="loop")->0<d:=λz=>by
  rcases z with z|z
  ·have:=h1 z;lia
  have:=(h2 z).1;lia
 have lx:xs.length<=1000:=()
 refine{rfl,_,rfl,a8 (λa=>bp ?b1) (λa=>{rfl,_,rfl,a8 (λb=>?b2) (λb=>?pl)})};case pl=>
  refine{N6 {rfl,_,À.of Ε},s,_,c0,x,k,rfl,O,L4,h3,h4,λv r y5 H5 g5 L5 ec5 na pr nr=>?_};have wa:=W.a k;have c5:bK mo d r+wt k*y5.cells.length<=wt k+wt k*cs.length:=by
   rw[ec5];dsimp only;rcases pr.2 with z|⟨i,hi,z⟩
   ·rw[z d];lia
   rw[z d];have:=(W.c i hi).2 k;lia
  obtain⟨h5,N5⟩:=add g5 L5 (na d) (by rw[<-ek];exact pr.1 d) (by rw[ec5,Ds pr.1];exact Oc _) c5 nr;exact{_,_,_,rfl,rfl,h5,aH (),y5,_,_,_,_,(by rw[ec5,el];exact Pz _),rfl,N5}
 all_goals
  have d1:0<d:=d0 (by first|exact .inl (bo (by assumption))|exact .inr (bo (by assumption)))
  refine{N6 {rfl,_,À.of Ε},s,_,c0,x,dp,k,rfl,hd,d1,λz=>(h2 z).2,O,L4,ek,W,(by dsimp only;lia),λv r y5 H5 g5 L5 na wf n5 c5 nr=>?_}
  have cp:=Cn r
  obtain⟨h5,N5⟩:=add g5 L5 na wf n5 c5 nr
  exact{_,_,_,rfl,rfl,h5,aH (),y5,_,_,_,_,(by dsimp only at n5;lia),rfl,N5}
theorem FV(T:Txt K mg A):T.kK.Hz P w base (2*0+7) (qF E mo ex kn wt 0):=by
 refine T.kK.hs (k:=6) cC (λf Ä A' outer s H vs Q E' hr hu h=>?_) (λvs H Q E h=>?_)
 ·obtain⟨s,y,c,x,dp,k,rfl,hd,z,_⟩:=h;exact absurd z (OL _)
 obtain⟨s,y,c,x,dp,k,rfl,hd,z,_⟩:=h;exact absurd z (OL _)
theorem Ck(T:Txt K mg A)(C:pU E mo ex kn):∀d,ę P w K mg base (2*d+8) "_law_nodes" ["_law_state","_law_deep","_law_loops"] (mQ E mo ex kn wt d)
 |0=>Ab T C 0 (FV T)
 |d+1=>Ab T C (d+1) (Fo T C d (Ck T C d))
end
section
variable{P:Program}{w:Rh}{K:Q6}{mg:Str->Option Q0}{base:Rp}{A:Ï}{E:En}{kn:Nat}
seal PE PA PS ď PT PW
def fi(A:Ï)(N:Nat->Str)(X:Hp):Nat->V->Rw->Prop
 |_,v,.set n x val=>∃a dx p,v=.ref a/\X a=Xb (.ins A.cZ dx [("number",.int n),("name",.str (N x)),("value",.ref p)])/\X p=Xb (.tup (vV N val))
 |_,v,.put n x pl val=>∃a dx p,v=.ref a/\X a=Xb (.ins A.cO dx [("number",.int n),("name",.str (N x)),("place",pl.v N),("value",.ref p)])/\X p=Xb (.tup (vV N val))
 |_,v,.snd n h val=>∃a dx p,v=.ref a/\X a=Xb (.ins A.cx dx [("number",.int n),("name",.str (N h)),("value",.ref p)])/\X p=Xb (.tup (vV N val))
 |_,v,.say n x val m=>∃a dx p,v=.ref a/\X a=Xb (.ins A.cY dx [("number",.int n),("name",.str (N x)),("value",.ref p),("mark",.str (N m))])/\X p=Xb (.tup (vV N val))
 |_,v,.last n=>∃a dx,v=.ref a/\X a=Xb (.ins A.dG dx [("number",.int n)])
 |_,v,.call n i ts=>∃a dx p,v=.ref a/\X a=Xb (.ins A.cB dx [("number",.int n),("name",.str (N (â i))),("things",.ref p)])/\X p=Xb (.lst (ts.map (Th.v N)))
 |d+1,v,.iff n val f o l r=>∃a dx p pf po xf xo,v=.ref a/\X a=Xb (.ins A.dE dx [("number",.int n),("value",.ref p),("first",.ref pf),("other",.ref po),("left",.int l),("right",.int r)])/\X p=Xb (.tup (vV N val))/\X pf=Xb (.lst xf)/\X po=Xb (.lst xo)/\Paired (fi A N X d) xf f/\Paired (fi A N X d) xo o
 |d+1,v,.loop n t m b l r=>∃a dx pb xb,v=.ref a/\X a=Xb (.ins A.bG dx [("number",.int n),("thing",t.v N),("most",.int m),("body",.ref pb),("left",.int l),("right",.int r)])/\X pb=Xb (.lst xb)/\Paired (fi A N X d) xb b
 |0,_,.iff _ _ _ _ _ _=>False
 |0,_,.loop _ _ _ _ _ _=>False
theorem fi.same{N:Nat->Str}{X X':Hp}(s:aq X X'):∀{d:Nat}{v:V}{r:Rw},fi A N X d v r->fi A N X' d v r:=by
 have Į:∀{d:Nat}{v:V}{r:Rw},(∀n v f o l q,r≠ .iff n v f o l q)->(∀n t m b l q,r≠ .loop n t m b l q)->fi A N X d v r->fi A N X' d v r:=by
  intro d v r i1 i2 h;cases r with
  |iff n v f o l r=>exact absurd rfl (i1 _ _ _ _ _ _)
  |loop n t m b l r=>exact absurd rfl (i2 _ _ _ _ _ _)
  |last n=>cases d<;>(obtain⟨a,dx,e,h1⟩:=h;exact{a,dx,e,s _ _ h1})
  |_=>cases d<;>(obtain⟨a,dx,p,e,h1,h2⟩:=h;exact{a,dx,p,e,s _ _ h1,s _ _ h2})
 intro d;induction d with
 |zero=>
  intro v r h;cases r with
  |iff n v f o l r=>exact h.elim
  |loop n t m b l r=>exact h.elim
  |_=>exact Į (λ_ _ _ _ _ _ z=>by cases z) (λ_ _ _ _ _ _ z=>by cases z) h
 |succ d ih=>
  intro v r h;cases r with
  |iff n v f o l r=>
   obtain⟨a,dx,p,pf,po,xf,xo,e,h1,h2,h3,h4,h5,h6⟩:=h;exact{a,dx,p,pf,po,xf,xo,e,s _ _ h1,s _ _ h2,s _ _ h3,s _ _ h4,Paired.eX h5 λ_ _=>ih,Paired.eX h6 λ_ _=>ih}
  |loop n t m b l r=>
   obtain⟨a,dx,pb,xb,e,h1,h2,h3⟩:=h;exact{a,dx,pb,xb,e,s _ _ h1,s _ _ h2,Paired.eX h3 λ_ _=>ih}
  |_=>exact Į (λ_ _ _ _ _ _ z=>by cases z) (λ_ _ _ _ _ _ z=>by cases z) h
theorem Av{H:Hp}{x dx:Q1}{R:VK}{v_number:V}(T:Txt K mg A)(hx:H x=Xc)(hd:H dx=Xc)(q:∀(H':Hp),aq H H'->H' x=Xb (.ins A.dG dx [("number",v_number)])->R .Ê H'):gL K A (.ref x::([v_number]++[])) (upd (upd H dx (.own x)) x (.ins A.dG dx [])) R E0:=
 {x,A.dG,dx,[],_,rfl,av,T.fo.cl,T.dQ,∅,q _ (aq.out (aq.out (aq.upd hd _) hx _) hx _) av}
def é(X H H':Hp):Hp:=λa=>if X a≠Xc\/H a=Xc then H' a else Xc
theorem é.get{X H H':Hp}{a:Q1}{o:HO}(h:é X H H' a=Xb o):(X a≠Xc\/H a=Xc)/\H' a=Xb o:=by
 unfold é at h;split at h
 ·exact⟨by assumption,h⟩
 cases h
theorem é.of{X H H':Hp}{a:Q1}{o:HO}(h:X a≠Xc\/H a=Xc)(e:H' a=Xb o):é X H H' a=Xb o:=by
 unfold é;rw[if_pos h];exact e
theorem é.same{X H H':Hp}:aq (é X H H') H':=λ_ _ h=>(é.get h).2
inductive qk(A:Ï)(E:En)(kn d:Nat)(vs:List V)(H:Hp)(Q:VK)(Ã:XK):Prop
 |mk(Ö:Q1)(rs:List Rw)(X:Hp):vs=[.ref Ö]->aq X H->cM E kn d X Ö rs->rs.length<=1000->(∀(R:Q1)(ys:List V)(H':Hp),aq H H'->H R=Xc->H' R=Xb (.lst ys)->Paired (fi A E.N (del [R] (é X H H')) d) ys rs->Q (.ref R) H')->qk A E kn d vs H Q Ã
def ED(A:Ï)(E:En)(kn:Nat):Nat->Sp
 |0=>λ_ _ _ _=>False
 |d+1=>qk A E kn d
theorem CP(T:Txt K mg A)(d:Nat)(M8:ę P w K mg base (d+4) "_law_made" ["_law_nodes_here"] (ED A E kn d)):T.qj.Hz P w base (d+5) (qk A E kn d):=by
 have QD:=km (P:=P) (w:=w) (mg:=mg) (base:=base) (A:=A) T.iH;refine T.qj.hs (k:=d+4) gN (λf Ä A' outer s H vs Q E' hr hu h=>?_);obtain⟨Ö,rs,X,rfl,s0,⟨xs,hB0,pr,wf⟩,hl,q⟩:=h;have hB:=s0 _ _ hB0;refine⟨_,(af (Æ 1 gN.nd (aU ae))
 (af (b6 Rg rfl (br (fv 0)) (Õ (i:=2) gN.nd rfl)
  (af (Æ 3 gN.nd (px hu (fv 2) ah))
  (ai (aN (Ð (b8 hu) (fv 3) ay)
   (ai (aW (bu (fv 1) ((bf (hj:=by lia) T.du (oK T) hr (px hu (fv 2) ah^px hu (fv 2) ah^px hu (fv 2) ah^ae))^ae))))
   (ai (aN (Ð (b8 hu) (fv 3) ay)
    (ai (aW (bu (fv 1) ((bf (hj:=by lia) T.cL (oM T) hr (px hu (fv 2) ah^px hu (fv 2) ah^px hu (fv 2) ah^px hu (fv 2) ah^ae))^ae))))
    (ai (aN (Ð (b8 hu) (fv 3) ay)
     (ai (aW (bu (fv 1) ((bf (hj:=by lia) T.cy (mJ T) hr (px hu (fv 2) ah^px hu (fv 2) ah^px hu (fv 2) ah^ae))^ae))))
     (ai (aN (Ð (b8 hu) (fv 3) ay)
      (ai (aW (bu (fv 1) ((bf (hj:=by lia) T.bQ (oU T) hr (px hu (fv 2) ah^px hu (fv 2) ah^px hu (fv 2) ah^px hu (fv 2) ah^ae))^ae))))
      (ai (aN (Ð (b8 hu) (fv 3) ay)
       (ai (aW (bu (fv 1) ((bf (hj:=by lia) T.fo QD hr (px hu (fv 2) ah^ae))^ae))))
       (ai (aN (Ð (b8 hu) (fv 3) ay)
        (ai (aW (bu (fv 1) ((bf (hj:=by lia) T.bD (nF T) hr (px hu (fv 2) ah^px hu (fv 2) ah^Ĵ Cb T.fO (px hu (fv 2) ah^ae)^ae))^ae))))
        (ai (aN (Ð (b8 hu) (fv 3) ay)
         (ai (aW (bu (fv 1) ((bf (hj:=by lia) T.aQ (qu T) hr (px hu (fv 2) ah^px hu (fv 2) ah^(aj (hj:=by lia) M8 hr (px hu (fv 2) ah^ae))^(aj (hj:=by lia) M8 hr (px hu (fv 2) ah^ae))^px hu (fv 2) ah^px hu (fv 2) ah^ae))^ae))))
         (ai (aW (bu (fv 1) ((bf (hj:=by lia) T.aI (nP T) hr (px hu (fv 2) ah^px hu (fv 2) ah^px hu (fv 2) ah^(aj (hj:=by lia) M8 hr (px hu (fv 2) ah^ae))^px hu (fv 2) ah^px hu (fv 2) ah^ae))^ae))))))))))))))))))))
 (ai (aA (fv 1))))),?_⟩
 refine{Oj _,λR hR=>?_};obtain⟨s1,e1⟩:=Ò hR (HO.lst []);generalize upd H R _=H1 at s1 e1⊢;have pl:=Q7 pr;refine N6 {{_,À.of (s1 _ _ hB)},bP (K:=K) (xs:=xs) (λi B Hc=>∃(ys:List V)(v2 v3:Option V),B=[Xb (.ref Ö),Xb (.ref R),v2,v3]/\aq H Hc/\Hc R=Xb (.lst ys)/\Paired (fi A E.N (del [R] (é X H Hc)) d) ys (rs.take i)) {[],Xc,Xc,rfl,s1,e1,.nil} (λi B Hc _ ⟨_,_,_,_,z,_⟩=>À.of (z _ _ hB)) ?_ ?_}
 ·rintro i v B Hc hv ⟨ys,v2,v3,rfl,sc,Ú,pc⟩;obtain⟨r,Ŧ,na⟩:=gk pr hv;have wr:=wf r (Oe Ŧ);have sx:aq X Hc:=s0.trans sc;have ly:ys.length<=1000:=by rw[Q7 pc,OH];lia
  have od:∀{a:Q1}{o o':HO}{H6:Hp},X a=Xb o'->H6 a=Xb o->del [R] (é X H H6) a=Xb o:=λ{a o o' H6} e e6=>bx (λm=>by
   have z:=s0 _ _ e;rw[N4.mp m,hR]at z;cases z) (é.of (.inl (by rw[e];exact λz=>by cases z)) e6)
  have nw:∀{a:Q1}{o:HO}{Hn H6:Hp},aq Hc Hn->Hn a=Xc->H6 a=Xb o->del [R] (é X H H6) a=Xb o:=λ{a o Hn H6} z e e6=>bx (λm=>by rw[N4.mp m,z _ _ Ú]at e;cases e) (é.of (.inr (Dm.new (sc.trans z) a e)) e6);have nest:∀{R1:Q1}{Hm H4 H6:Hp}{Ϧ:List V}{fs:List Rw}{d':Nat},aq Hc Hm->aq H4 H6->Paired (fi A E.N (del [R1] (é X Hm H4)) d') Ϧ fs->Paired (fi A E.N (del [R] (é X H H6)) d') Ϧ fs:=λ{R1 Hm H4 H6 Ϧ fs d'} z1 z2 p1=>Paired.eX p1 λ_ _=>fi.same λa o e=>by
   obtain⟨_,e2⟩:=eY e;obtain⟨e3,e4⟩:=é.get e2;rcases e3 with e3|e3
   ·cases ex:X a with
    |none=>exact absurd ex e3
    |some o'=>exact od ex (z2 _ _ e4)
   exact nw z1 e3 (z2 _ _ e4)
  have add:∀(Hn:Hp)(y:V)(v2 v3:Option V),aq Hc Hn->fi A E.N (del [R] (é X H Hn)) d y r->Hn R=Xb (.lst ys)/\∃(zs:List V)(u2 u3:Option V),[Xb (V.ref Ö),Xb (.ref R),v2,v3]=[Xb (.ref Ö),Xb (.ref R),u2,u3]/\aq H (upd Hn R (.lst (ys++[y])))/\(upd Hn R (.lst (ys++[y]))) R=Xb (.lst zs)/\Paired (fi A E.N (del [R] (é X H (upd Hn R (.lst (ys++[y]))))) d) zs (rs.take (i+1)):=λHn y v2 v3 z ra=>by
   have zz:∀{G:Hp},aq G Hn->aq (del [R] (é X H G)) (del [R] (é X H (upd Hn R (.lst (ys++[y]))))):=λg2 a o e=>by
    obtain⟨h1,h2⟩:=eY e;obtain⟨h3,h4⟩:=é.get h2;exact bx h1 (é.of h3 (aF (λz=>h1 (by rw[z];exact N9)) (g2 _ _ h4)))
   refine{z _ _ Ú,_,v2,v3,rfl,aq.out (sc.trans z) hR _,av,?_};rw[Xk Ŧ];exact Td (ra.same (zz (aq.refl _))) (Paired.eX pc λ_ _=>fi.same (zz z))
  cases r with
  |set n x vl=>
   obtain⟨a,p,rfl,ea,ep⟩:∃a p,v=.ref a/\X a=Xb (.tup [.int n,.str "set",.str (E.N x),.ref p])/\X p=Xb (.tup (vV E.N vl)):=by cases d<;>exact na
   have Û:=É.of (K:=K) (sx _ _ ea);refine N6 {_,_,Oo Û,rfl,{rfl,_,rfl,a8 (λ_=>?_) (λz=>absurd rfl (gf z))}};refine{N6 {rfl,_,À.of Ú},N6 {_,_,Oo Û,rfl,N6 {_,_,Oo Û,rfl,N6 {_,_,Oo Û,rfl,λr6 dx Í hd_ hne_=>{_,_,_,_,_,_,rfl,rfl,Í,hd_,λH6 s6 hx=>{rfl,?_}}}}}};have row:fi A E.N (del [R] (é X H H6)) d (.ref r6) (.set n x vl):=by
    have:∃a dx p,V.ref r6=.ref a/\del [R] (é X H H6) a=Xb (.ins A.cZ dx [("number",.int n),("name",.str (E.N x)),("value",.ref p)])/\del [R] (é X H H6) p=Xb (.tup (vV E.N vl)):={r6,dx,p,rfl,nw (aq.refl _) Í hx,od ep (s6 _ _ (sx _ _ ep))};cases d<;>exact this
   obtain⟨h5,h6⟩:=add H6 (.ref r6) _ _ s6 row;exact{_,_,_,rfl,rfl,h5,aH (),h6}
  |put n x pl vl=>
   obtain⟨a,p,rfl,ea,ep⟩:∃a p,v=.ref a/\X a=Xb (.tup [.int n,.str "put",.str (E.N x),pl.v E.N,.ref p])/\X p=Xb (.tup (vV E.N vl)):=by cases d<;>exact na
   have Û:=É.of (K:=K) (sx _ _ ea);refine N6 {_,_,Oo Û,rfl,{rfl,_,rfl,a8 (λz=>absurd (bo z) ∅) (λ_=>{rfl,_,rfl,a8 (λ_=>?_) (λz=>absurd rfl (gf z))})}};refine{N6 {rfl,_,À.of Ú},N6 {_,_,Oo Û,rfl,N6 {_,_,Oo Û,rfl,N6 {_,_,Oo Û,rfl,N6 {_,_,Oo Û,rfl,λr6 dx Í hd_ hne_=>{_,_,_,_,_,_,_,rfl,rfl,Í,hd_,λH6 s6 hx=>{rfl,?_}}}}}}};have row:fi A E.N (del [R] (é X H H6)) d (.ref r6) (.put n x pl vl):=by
    have:∃a dx p,V.ref r6=.ref a/\del [R] (é X H H6) a=Xb (.ins A.cO dx [("number",.int n),("name",.str (E.N x)),("place",pl.v E.N),("value",.ref p)])/\del [R] (é X H H6) p=Xb (.tup (vV E.N vl)):={r6,dx,p,rfl,nw (aq.refl _) Í hx,od ep (s6 _ _ (sx _ _ ep))};cases d<;>exact this
   obtain⟨h5,h6⟩:=add H6 (.ref r6) _ _ s6 row;exact{_,_,_,rfl,rfl,h5,aH (),h6}
  |snd n x vl=>
   obtain⟨a,p,rfl,ea,ep⟩:∃a p,v=.ref a/\X a=Xb (.tup [.int n,.str "send",.str (E.N x),.ref p])/\X p=Xb (.tup (vV E.N vl)):=by cases d<;>exact na
   have Û:=É.of (K:=K) (sx _ _ ea);refine N6 {_,_,Oo Û,rfl,{rfl,_,rfl,a8 (λz=>absurd (bo z) ∅) (λ_=>{rfl,_,rfl,a8 (λz=>absurd (bo z) ∅) (λ_=>{rfl,_,rfl,a8 (λ_=>?_) (λz=>absurd rfl (gf z))})})}};refine{N6 {rfl,_,À.of Ú},N6 {_,_,Oo Û,rfl,N6 {_,_,Oo Û,rfl,N6 {_,_,Oo Û,rfl,λr6 dx Í hd_ hne_=>{_,_,_,_,_,_,rfl,rfl,Í,hd_,λH6 s6 hx=>{rfl,?_}}}}}};have row:fi A E.N (del [R] (é X H H6)) d (.ref r6) (.snd n x vl):=by
    have:∃a dx p,V.ref r6=.ref a/\del [R] (é X H H6) a=Xb (.ins A.cx dx [("number",.int n),("name",.str (E.N x)),("value",.ref p)])/\del [R] (é X H H6) p=Xb (.tup (vV E.N vl)):={r6,dx,p,rfl,nw (aq.refl _) Í hx,od ep (s6 _ _ (sx _ _ ep))};cases d<;>exact this
   obtain⟨h5,h6⟩:=add H6 (.ref r6) _ _ s6 row;exact{_,_,_,rfl,rfl,h5,aH (),h6}
  |say n x vl m=>
   obtain⟨a,p,rfl,ea,ep⟩:∃a p,v=.ref a/\X a=Xb (.tup [.int n,.str "say",.str (E.N x),.ref p,.str (E.N m)])/\X p=Xb (.tup (vV E.N vl)):=by cases d<;>exact na
   have Û:=É.of (K:=K) (sx _ _ ea);refine N6 {_,_,Oo Û,rfl,{rfl,_,rfl,a8 (λz=>absurd (bo z) ∅) (λ_=>{rfl,_,rfl,a8 (λz=>absurd (bo z) ∅) (λ_=>{rfl,_,rfl,a8 (λz=>absurd (bo z) ∅) (λ_=>{rfl,_,rfl,a8 (λ_=>?_) (λz=>absurd rfl (gf z))})})})}};refine{N6 {rfl,_,À.of Ú},N6 {_,_,Oo Û,rfl,N6 {_,_,Oo Û,rfl,N6 {_,_,Oo Û,rfl,N6 {_,_,Oo Û,rfl,λr6 dx Í hd_ hne_=>{_,_,_,_,_,_,_,rfl,rfl,Í,hd_,λH6 s6 hx=>{rfl,?_}}}}}}};have row:fi A E.N (del [R] (é X H H6)) d (.ref r6) (.say n x vl m):=by
    have:∃a dx p,V.ref r6=.ref a/\del [R] (é X H H6) a=Xb (.ins A.cY dx [("number",.int n),("name",.str (E.N x)),("value",.ref p),("mark",.str (E.N m))])/\del [R] (é X H H6) p=Xb (.tup (vV E.N vl)):={r6,dx,p,rfl,nw (aq.refl _) Í hx,od ep (s6 _ _ (sx _ _ ep))};cases d<;>exact this
   obtain⟨h5,h6⟩:=add H6 (.ref r6) _ _ s6 row;exact{_,_,_,rfl,rfl,h5,aH (),h6}
  |last n=>
   obtain⟨a,rfl,ea⟩:∃a,v=.ref a/\X a=Xb (.tup [.int n,.str "last"]):=by cases d<;>exact na
   have Û:=É.of (K:=K) (sx _ _ ea);refine N6 {_,_,Oo Û,rfl,{rfl,_,rfl,a8 (λz=>absurd (bo z) ∅) (λ_=>{rfl,_,rfl,a8 (λz=>absurd (bo z) ∅) (λ_=>{rfl,_,rfl,a8 (λz=>absurd (bo z) ∅) (λ_=>{rfl,_,rfl,a8 (λz=>absurd (bo z) ∅) (λ_=>{rfl,_,rfl,a8 (λ_=>?_) (λz=>absurd rfl (gf z))})})})})}};refine{N6 {rfl,_,À.of Ú},N6 {_,_,Oo Û,rfl,λr6 dx Í hd_ hne_=>Av T Í hd_ λH6 s6 hx=>{rfl,?_}}};have row:fi A E.N (del [R] (é X H H6)) d (.ref r6) (.last n):=by
    have:∃a dx,V.ref r6=.ref a/\del [R] (é X H H6) a=Xb (.ins A.dG dx [("number",.int n)]):={r6,dx,rfl,nw (aq.refl _) Í hx};cases d<;>exact this
   obtain⟨h5,h6⟩:=add H6 (.ref r6) _ _ s6 row;exact{_,_,_,rfl,rfl,h5,aH (),h6}
  |call n ci ts=>
   obtain⟨a,p,rfl,ea,ep⟩:∃a p,v=.ref a/\X a=Xb (.tup [.int n,.str "call",.str (E.N (â ci)),.ref p])/\X p=Xb (.lst (ts.map (Th.v E.N))):=by cases d<;>exact na
   have Û:=É.of (K:=K) (sx _ _ ea);refine N6 {_,_,Oo Û,rfl,{rfl,_,rfl,a8 (λz=>absurd (bo z) ∅) (λ_=>{rfl,_,rfl,a8 (λz=>absurd (bo z) ∅) (λ_=>{rfl,_,rfl,a8 (λz=>absurd (bo z) ∅) (λ_=>{rfl,_,rfl,a8 (λz=>absurd (bo z) ∅) (λ_=>{rfl,_,rfl,a8 (λz=>absurd (bo z) ∅) (λ_=>{rfl,_,rfl,a8 (λ_=>?_) (λz=>absurd rfl (gf z))})})})})})}};refine{N6 {rfl,_,À.of Ú},N6 {_,_,Oo Û,rfl,N6 {_,_,Oo Û,rfl,N6 {_,_,Oo Û,rfl,N6 {p,_,rfl,N6 (À.of (sx _ _ ep)),λl5 hl5=>?_}}}}};obtain⟨s5,e5⟩:=Ò hl5 (HO.lst (ts.map (Th.v E.N)));generalize upd Hc l5 _=H5 at s5 e5⊢;refine λr6 dx Í hd_ hne_=>{_,_,_,_,_,_,_,rfl,rfl,Í,hd_,(À.of e5),λn6 H6 f6 s6 h6 hx=>{rfl,?_}};have row:fi A E.N (del [R] (é X H H6)) d (.ref r6) (.call n ci ts):=by
    have:∃a dx p,V.ref r6=.ref a/\del [R] (é X H H6) a=Xb (.ins A.cB dx [("number",.int n),("name",.str (E.N (â ci))),("things",.ref p)])/\del [R] (é X H H6) p=Xb (.lst (ts.map (Th.v E.N))):=⟨r6,dx,n6,rfl,nw s5 Í hx,nw s5 f6 h6⟩;cases d<;>exact this
   obtain⟨h5,h6⟩:=add H6 (.ref r6) _ _ (s5.trans s6) row;exact{_,_,_,rfl,rfl,h5,aH (),h6}
  |iff n vl fs os l r0=>
   cases d with
   |zero=>exact(show False from na).elim
   |succ d=>
    obtain⟨a,p,pf,po,xf,xo,rfl,ea,ep,hf,ho,pf',po'⟩:=na;obtain⟨_,l0,r1,l1,l2,w1,w2⟩:=wr;have Û:=É.of (K:=K) (sx _ _ ea);refine N6 {_,_,Oo Û,rfl,{rfl,_,rfl,a8 (λz=>absurd (bo z) ∅) (λ_=>{rfl,_,rfl,a8 (λz=>absurd (bo z) ∅) (λ_=>{rfl,_,rfl,a8 (λz=>absurd (bo z) ∅) (λ_=>{rfl,_,rfl,a8 (λz=>absurd (bo z) ∅) (λ_=>{rfl,_,rfl,a8 (λz=>absurd (bo z) ∅) (λ_=>{rfl,_,rfl,a8 (λz=>absurd (bo z) ∅) (λ_=>{rfl,_,rfl,a8 (λ_=>?_) (λz=>absurd rfl (gf z))})})})})})})}};refine{N6 {rfl,_,À.of Ú},N6 {_,_,Oo Û,rfl,N6 {_,_,Oo Û,rfl,N6 {_,_,Oo Û,rfl,{pf,fs,X,rfl,sx,⟨xf,hf,pf',w1⟩,l1,λR1 Ϧ H4 s4 hR1 eR1 p1=>N6 {_,_,Oo (É.of ((sx.trans s4) _ _ ea)),rfl,{po,os,X,rfl,sx.trans s4,⟨xo,ho,po',w2⟩,l2,λR2 ys2 H5 s5 υ Ļ p2=>?_}}}}}}};have s45:=s4.trans s5;have Ū:=É.of (K:=K) ((sx.trans s45) _ _ ea);refine N6 {_,_,Oo Ū,rfl,N6 {_,_,Oo Ū,rfl,λr6 dx Í hd_ hne_=>{_,_,_,_,_,_,_,_,_,_,_,rfl,rfl,Í,hd_,(À.of (s5 _ _ eR1)),(À.of Ļ),λn1 n2 H6 f1 f2 s6 h1 h2 hx=>{rfl,?_}}}};have row:fi A E.N (del [R] (é X H H6)) (d+1) (.ref r6) (.iff n vl fs os l r0):={r6,dx,p,n1,n2,Ϧ,ys2,rfl,nw s45 Í hx,od ep ((sx.trans (s45.trans s6)) _ _ ep),nw s45 f1 h1,nw s45 f2 h2,nest (aq.refl _) (s5.trans s6) p1,nest s4 s6 p2};obtain⟨h5,h6⟩:=add H6 (.ref r6) _ _ (s45.trans s6) row;exact{_,_,_,rfl,rfl,h5,aH (),h6}
  |loop n th m bs l r0=>
   cases d with
   |zero=>exact(show False from na).elim
   |succ d=>
    obtain⟨a,pb,xb,rfl,ea,hb,pb'⟩:=na;obtain⟨_,m0,m1,l0,r1,l1,w1⟩:=wr;have Û:=É.of (K:=K) (sx _ _ ea);refine N6 {_,_,Oo Û,rfl,{rfl,_,rfl,a8 (λz=>absurd (bo z) ∅) (λ_=>{rfl,_,rfl,a8 (λz=>absurd (bo z) ∅) (λ_=>{rfl,_,rfl,a8 (λz=>absurd (bo z) ∅) (λ_=>{rfl,_,rfl,a8 (λz=>absurd (bo z) ∅) (λ_=>{rfl,_,rfl,a8 (λz=>absurd (bo z) ∅) (λ_=>{rfl,_,rfl,a8 (λz=>absurd (bo z) ∅) (λ_=>{rfl,_,rfl,a8 (λz=>absurd (bo z) ∅) (λ_=>{N6 {rfl,_,À.of Ú},N6 {_,_,Oo Û,rfl,N6 {_,_,Oo Û,rfl,N6 {_,_,Oo Û,rfl,N6 {_,_,Oo Û,rfl,{pb,bs,X,rfl,sx,⟨xb,hb,pb',w1⟩,l1,λR1 Ϧ H4 s4 hR1 eR1 p1=>?_}}}}}})})})})})})})}};have Ū:=É.of (K:=K) ((sx.trans s4) _ _ ea);refine N6 {_,_,Oo Ū,rfl,N6 {_,_,Oo Ū,rfl,λr6 dx Í hd_ hne_=>{_,_,_,_,_,_,_,_,_,_,rfl,rfl,Í,hd_,(À.of eR1),λn1 H6 f1 s6 h1 hx=>{rfl,?_}}}};have row:fi A E.N (del [R] (é X H H6)) (d+1) (.ref r6) (.loop n th m bs l r0):={r6,dx,n1,Ϧ,rfl,nw s4 Í hx,nw s4 f1 h1,nest (aq.refl _) s6 p1};obtain⟨h5,h6⟩:=add H6 (.ref r6) _ _ (s4.trans s6) row;exact{_,_,_,rfl,rfl,h5,aH (),h6}
 rintro B Hc ⟨ys,v2,v3,rfl,sc,Ú,pc⟩;rw[Pa ()]at pc;exact q R ys Hc sc hR Ú pc
theorem Eg(T:Txt K mg A):∀d,ę P w K mg base (d+5) "_law_made" ["_law_nodes_here"] (qk A E kn d)
 |0=>CP T 0 (T.qj.hs (k:=3) gN (λ_ _ _ _ _ _ _ _ _ _ _ h=>h.elim) (λ_ _ _ _ h=>h.elim))
 |d+1=>CP T (d+1) (Eg T d)
end
section
variable{P:Program}{w:Rh}{K:Q6}{mg:Str->Option Q0}{base:Rp}{A:Ï}{N:Nat->Str}
seal PE PA PS ď PT PW
def fj(c:Int):List Pt:=[.leaf 1 (.hand 0 (c%3)),.leaf 2 (.hand 1 (c/3%3)),.leaf 3 (.ĺ 2 (c/9%3%3) 0),.leaf 4 (.ĺ 3 (c/9%4%3) 0),.leaf 5 (.ĺ 4 (c/9%5%3) 0),.leaf 6 (.ĺ 5 (c/7%3) (1+c/11%20)),.leaf 7 (.own 6 0),.leaf 8 (.own 7 0),.leaf 9 (.own 8 0),.leaf 10 (.own 9 (1+c/220%20)),.leaf 11 (.lt 10 (c/5%10%3)),.leaf 12 (.lt 11 (c/5%11%3)),.leaf 13 (.lt 12 (c/5%12%3))]
theorem tJ{X:Hp}{r dx:Q1}{n:Int}{l:Lr}(o:l.ob N=Xc)(h:X r=Xb (.ins (ħ A l.ci) dx (("number",.int n)::l.fs N dx))):aJ A N X (.ref r) (.leaf n l):=by
 unfold aJ;exact{r,dx,dx,rfl,h,λo' e=>by rw[o]at e;cases e}
structure Ϗ(A:Ï)(N:Nat->Str)(H:Hp)(L:Q1)(Hc:Hp)(xs:List V)(hs:List Pt):Prop where
 s:aq H Hc
 e:Hc L=Xb (.lst xs)
 p:Paired (aJ A N (del [L] Hc)) xs hs
theorem Ϗ.add{H Hc H6:Hp}{L r:Q1}{xs:List V}{hs:List Pt}{h:Pt}(D:Ϗ A N H L Hc xs hs)(L0:H L=Xc)(s:aq Hc H6)(hr:Hc r=Xc)(hx:∀X:Hp,(∀o,H6 r=Xb o->X r=Xb o)->aJ A N X (.ref r) h):H6 L=Xb (.lst xs)/\Ϗ A N H L (upd H6 L (.lst (xs++[.ref r]))) (xs++[.ref r]) (hs++[h]):=by
 have rL:r≠L:=λz=>by rw[z,D.e]at hr;cases hr
 have z:aq (del [L] Hc) (del [L] (upd H6 L (.lst (xs++[.ref r])))):=λa o e=>by
  obtain⟨h1,h2⟩:=eY e;exact bx h1 (aF (λz=>h1 (by rw[z];exact N9)) (s _ _ h2))
 refine{s _ _ D.e,aq.out (D.s.trans s) L0 _,av,Td (hx _ λo e=>?_) (Paired.eX D.p λ_ _=>aJ.same z _ _)};exact bx (λm=>rL (N4.mp m)) (aF rL e)
theorem Ϗ.len{H Hc:Hp}{L:Q1}{xs:List V}{hs:List Pt}(D:Ϗ A N H L Hc xs hs):xs.length=hs.length:=Q7 D.p
inductive uf(A:Ï)(N:Nat->Str)(vs:List V)(H:Hp)(Q:VK)(Ã:XK):Prop
 |mk(ln:Q1)(c:Int):vs=[.ref ln,.int c]->H ln=Xb (.lst (Ň N))->(∀(L:Q1)(xs:List V)(H':Hp),aq H H'->H L=Xc->H' L=Xb (.lst xs)->Paired (aJ A N H') xs (fj c)->Q (.ref L) H')->uf A N vs H Q Ã
theorem HL(T:Txt K mg A):T.rb.Hz P w base 5 (uf A N):=by
 refine T.rb.hs (k:=4) f9 (λf Ä A' outer s H vs Q E' hr hu h=>?_);obtain⟨ln,c,rfl,hn,q⟩:=h;have at':∀(Hc:Hp),aq H Hc->∀j:Nat,j<18->À K Hc ln (Ň N)/\Ġ (Ň N) (j:Int)=Xb (.str (N j)):=λHc z j hj=>{À.of (z _ _ hn),fe N hj};refine⟨_,(af (Æ 2 f9.nd (aU ((bf (hj:=by lia) T.dJ (jq T) hr (ah^px hu (fv 0) ah^ax bH (fv 1) ah^ae))^(bf (hj:=by lia) T.dJ (jq T) hr (ah^px hu (fv 0) ah^ax bH (ax bU (fv 1) ah) ah^ae))^ae)))
 (af (b6 Rg rfl (rH rfl T.ir (ah^ah^ae)) (Õ (i:=3) f9.nd rfl)
  (ai (aW (bu (fv 2) ((bf (hj:=by lia) T.bI (gR T) hr (ax aO (fv 3) ah^px hu (fv 0) (fv 3)^ax bH (ax bH (ax bU (fv 1) ah) (ax aO (fv 3) ah)) ah^ah^ae))^ae)))))
 (af (aW (bu (fv 2) ((bf (hj:=by lia) T.bI (gR T) hr (ah^px hu (fv 0) ah^ax bH (ax bU (fv 1) ah) ah^ax aO ah (ax bH (ax bU (fv 1) ah) ah)^ae))^ae)))
 (af (b6 Rg rfl (rH rfl T.ir (ah^ah^ae)) (Õ (i:=3) f9.nd rfl)
  (ai (aW (bu (fv 2) ((bf (hj:=by lia) T.dI (ke T) hr (ax aO (fv 3) ah^px hu (fv 0) (fv 3)^ah^ae))^ae)))))
 (af (aW (bu (fv 2) ((bf (hj:=by lia) T.dI (ke T) hr (ah^px hu (fv 0) ah^ax aO ah (ax bH (ax bU (fv 1) ah) ah)^ae))^ae)))
 (af (b6 Rg rfl (rH rfl T.ir (ah^ah^ae)) (Õ (i:=3) f9.nd rfl)
  (ai (aW (bu (fv 2) ((bf (hj:=by lia) T.dj (oW T) hr (ax aO (fv 3) ah^px hu (fv 0) (fv 3)^ax bH (ax bH (ax bU (fv 1) ah) (fv 3)) ah^ae))^ae)))))
 (ai (aA (fv 2))))))))),?_⟩
 refine ì (À.of hn) (fe N (i:=0) ∅) {(by show(0:Int)<3;decide),λr1 dx1 hr1 hd_ hne_=>{_,_,_,_,_,_,rfl,rfl,hr1,hd_,λH1 s1 x1=>{rfl,ì (À.of (s1 _ _ hn)) (fe N (i:=1) ∅) {{∅,∅},(by show(0:Int)<3;decide),λr2 dx2 hr2 hd_ hne_=>{_,_,_,_,_,_,rfl,rfl,hr2,hd_,λH2 s2 x2=>{rfl,{by show 2<=sizeLine;decide,λL hL=>?_}}}}}}};have ϭ:=s1.trans s2;have L0:H L=Xc:=aq.free ϭ hL;have D2:Ϗ A N H L (upd H2 L (.lst [.ref r1,.ref r2])) [.ref r1,.ref r2] ((fj c).take 2):=by
  have y1:=s2 _ _ x1;have n1:r1≠L:=λz=>by rw[z,hL]at y1;cases y1
  have n2:r2≠L:=λz=>by rw[z,hL]at x2;cases x2
  refine{ϭ.trans (aq.upd hL _),av,.cons (tJ rfl (bx (λm=>n1 (N4.mp m)) (aF n1 y1))) (.cons ?_ .nil)};exact tJ rfl (bx (λm=>n2 (N4.mp m)) (aF n2 x2))
 generalize upd H2 L (.lst [.ref r1,.ref r2])=H3 at D2⊢;clear ϭ x1 x2 s1 s2 hr1 hr2 hL;dsimp only;refine ao λM1 K1=>{2,5,rfl,{∅,∅,∅,∅},nZ (lo:=2) (λi B Hc=>∃(xs:List V)(v3:Option V),B=[Xb (.ref ln),Xb (.int c),Xb (.ref L),v3]/\Ϗ A N H L Hc xs ((fj c).take (2+i))) {_,Xc,rfl,D2} ?_ ?_}
 ·rintro i B Hc hi ⟨xs,v3,rfl,D⟩;have hi3:i<3:=hi;have lx:xs.length<=13:=by rw[D.len,OH];show min _ 13<=13;lia
  have e2:(2+(i:Int))=((2+i:Nat):Int):=()
  refine{N6 {rfl,_,À.of D.e},(ì (À.of (D.s _ _ hn)) (by rw[e2];exact fe N ()) {{∅,∅},(by show(0:Int)<2+(i:Int)+1;lia),(by show(0:Int)<3;decide),λr6 dx Í hd_ hne_=>{_,_,_,_,_,_,_,rfl,rfl,Í,hd_,λH6 s6 hx=>{rfl,?_}}})};obtain⟨h5,h6⟩:=D.add (h:=.leaf (2+(i:Int)+1) (.ĺ (2+i) (c/9%(2+(i:Int)+1)%3) 0)) L0 s6 Í (λX hX=>tJ rfl (hX _ hx));refine{_,_,_,rfl,rfl,h5,aH (),xs++[.ref r6],_,rfl,?_};have:(fj c).take (2+(i+1))=(fj c).take (2+i)++[.leaf (2+(i:Int)+1) (.ĺ (2+i) (c/9%(2+(i:Int)+1)%3) 0)]:=by
   have:i=0\/i=1\/i=2:=()
   rcases this with rfl|rfl|rfl<;>rfl
  rw[this];exact h6
 rintro B H4 ⟨xs4,v3,rfl,D4⟩;refine K1 _ _ ?_;have l4:xs4.length=5:=by rw[D4.len];rfl
 refine ao λM2 K2=>{N6 {rfl,_,À.of D4.e},(ì (À.of (D4.s _ _ hn)) (fe N (i:=5) ∅) {{∅,∅},(by show(0:Int)<3;decide),{∅,∅},(by show(0:Int)<20;decide),λr5 dx5 hr5 hd_ hne_=>{_,_,_,_,_,_,_,rfl,rfl,hr5,hd_,λH5 s5 hx5=>{rfl,?_}}})};obtain⟨h5,D5⟩:=D4.add (h:=.leaf 6 (.ĺ 5 (c/7%3) (1+c/11%20))) L0 s5 hr5 (λX hX=>tJ rfl (hX _ hx5));refine{_,_,_,rfl,rfl,h5,aH (),?_};have D5':Ϗ A N H L _ _ ((fj c).take 6):=D5;generalize upd H5 L (.lst (xs4++[.ref r5]))=H6 at D5'⊢;clear D5 h5 hx5 s5 hr5 D4;refine K2 _ _ (ao λM3 K3=>{6,9,rfl,{∅,∅,∅,∅},nZ (lo:=6) (λi B Hc=>∃(xs:List V)(v3:Option V),B=[Xb (.ref ln),Xb (.int c),Xb (.ref L),v3]/\Ϗ A N H L Hc xs ((fj c).take (6+i))) {_,_,rfl,D5'} ?_ ?_})
 ·rintro i B Hc hi ⟨xs,v3,rfl,D⟩;have hi3:i<3:=hi;have lx:xs.length<=13:=by rw[D.len,OH];show min _ 13<=13;lia
  have e2:(6+(i:Int))=((6+i:Nat):Int):=()
  refine{N6 {rfl,_,À.of D.e},(ì (À.of (D.s _ _ hn)) (by rw[e2];exact fe N ()) (λr6 dx Í hd_ hne_=>{_,_,_,_,_,_,rfl,rfl,Í,hd_,λH6 s6 hx=>{rfl,?_}}))};obtain⟨h5,h6⟩:=D.add (h:=.leaf (6+(i:Int)+1) (.own (6+i) 0)) L0 s6 Í (λX hX=>tJ rfl (hX _ hx));refine{_,_,_,rfl,rfl,h5,aH (),xs++[.ref r6],_,rfl,?_};have:(fj c).take (6+(i+1))=(fj c).take (6+i)++[.leaf (6+(i:Int)+1) (.own (6+i) 0)]:=by
   have:i=0\/i=1\/i=2:=()
   rcases this with rfl|rfl|rfl<;>rfl
  rw[this];exact h6
 rintro B H7 ⟨xs7,v7,rfl,D7⟩;refine K3 _ _ ?_;have l7:xs7.length=9:=by rw[D7.len];rfl
 refine ao λM4 K4=>{N6 {rfl,_,À.of D7.e},(ì (À.of (D7.s _ _ hn)) (fe N (i:=9) ∅) {{∅,∅},(by show(0:Int)<20;decide),λr8 dx8 hr8 hd_ hne_=>{_,_,_,_,_,_,rfl,rfl,hr8,hd_,λH8 s8 hx8=>{rfl,?_}}})};obtain⟨h8,D8⟩:=D7.add (h:=.leaf 10 (.own 9 (1+c/220%20))) L0 s8 hr8 (λX hX=>tJ rfl (hX _ hx8));refine{_,_,_,rfl,rfl,h8,aH (),?_};have D8':Ϗ A N H L _ _ ((fj c).take 10):=D8;generalize upd H8 L (.lst (xs7++[.ref r8]))=H9 at D8'⊢;clear D8 h8 hx8 s8 hr8 D7;refine K4 _ _ (ao λM5 K5=>{10,13,rfl,{∅,∅,∅,∅},nZ (lo:=10) (λi B Hc=>∃(xs:List V)(v3:Option V),B=[Xb (.ref ln),Xb (.int c),Xb (.ref L),v3]/\Ϗ A N H L Hc xs ((fj c).take (10+i))) {_,_,rfl,D8'} ?_ ?_})
 ·rintro i B Hc hi ⟨xs,v3,rfl,D⟩;have hi3:i<3:=hi;have lx:xs.length<=13:=by rw[D.len,OH];show min _ 13<=13;lia
  have e2:(10+(i:Int))=((10+i:Nat):Int):=()
  refine{N6 {rfl,_,À.of D.e},(ì (À.of (D.s _ _ hn)) (by rw[e2];exact fe N ()) {{∅,∅},(by show(0:Int)<10+(i:Int);lia),(by show(0:Int)<3;decide),λr6 dx Í hd_ hne_=>{_,_,_,_,_,_,rfl,rfl,Í,hd_,λH6 s6 hx=>{rfl,?_}}})};obtain⟨h5,h6⟩:=D.add (h:=.leaf (10+(i:Int)+1) (.lt (10+i) (c/5%(10+(i:Int))%3))) L0 s6 Í (λX hX=>tJ rfl (hX _ hx));refine{_,_,_,rfl,rfl,h5,aH (),xs++[.ref r6],_,rfl,?_};have:(fj c).take (10+(i+1))=(fj c).take (10+i)++[.leaf (10+(i:Int)+1) (.lt (10+i) (c/5%(10+(i:Int))%3))]:=by
   have:i=0\/i=1\/i=2:=()
   rcases this with rfl|rfl|rfl<;>rfl
  rw[this];exact h6
 rintro B Ś ⟨xs,v10,rfl,D⟩;exact K5 _ _ (q L xs Ś D.s L0 D.e (Paired.eX D.p λ_ _=>aJ.same aL _ _))
end
section
variable{P:Program}{w:Rh}{K:Q6}{mg:Str->Option Q0}{base:Rp}{A:Ï}{E:En}{mo:Nat->Int}{ex:Nat->Option Int}{kn:Nat}
def Ħ(l:List Int)(i:Nat):Int:=l.getD i 0
def ĩ(l:List (Option Int))(i:Nat):Option Int:=l.getD i Xc
theorem co0(D:oE E.N):pU E (Ħ []) (ĩ []) 0:={D,∅,λi x h=>by simp[ĩ]at h}
theorem co1(D:oE E.N){c:Int}{x:Option Int}(h:∀y,x=Xb y->y=c):pU E (Ħ [c]) (ĩ [x]) 1:=⟨D,∅,λi y e=>by
 cases i with
 |zero=>exact h y e
 |succ i=>simp[ĩ]at e⟩
theorem co2(D:oE E.N){c1 c2:Int}{x1 x2:Option Int}(h1:∀y,x1=Xb y->y=c1)(h2:∀y,x2=Xb y->y=c2):pU E (Ħ [c1,c2]) (ĩ [x1,x2]) 2:=⟨D,∅,λi y e=>by
 match i,e with
 |0,e=>exact h1 y e
 |1,e=>exact h2 y e
 |i+2,e=>simp[ĩ]at e⟩
def GX(ex:Nat->Option Int)(d:Nat)(rs:List Rw):Option Int:=gm (rs.map (dD ex d))
theorem xT(C:pU E mo ex kn){d:Nat}{rs:List Rw}(y:Int)(e:GX ex d rs=Xb y):y=gg mo d rs:=kG (λr _=>vD C.2.2 d r) e
structure yQ(E:En)(c:Int):Prop where
 N:E.N=Ţ c
 th:∀i∈[2,3,4,6,7,8,14,16,17],i∈E.idx/\E.sz i=0
 l5:5∈E.ls
 l9:9∈E.ls
theorem yQ.D{c:Int}(Ã:yQ E c):oE E.N:=by rw[Ã.N];exact xw c
theorem yQ.la{c:Int}(Ã:yQ E c){s:La}(n1:s.S≠s.lm)(n2:s.S≠s.ll)(n3:s.lm≠s.ll)(th:∀i∈s.th,i∈[2,3,4,6,7,8,14,16,17])(t3:3<s.th.length)(kn:s.kn<=2)(ms:∀m∈s.fF,1<=m/\m<=4)(ml:s.fF.length<=2):rq E s:=
 {n1,n2,n3,Ã.D,λi=>by rw[Ã.N];exact Mu c i,{λz=>absurd t3 (by rw[z];decide),λi hi=>Ã.th i (th i hi)},t3,kn,Ã.l5,Ã.l9,ms,ml}
structure Bk(H:Hp)(S lm lc:Q1)(kv:List (Key×V))(ms:List V)(cs:List (Key×V)):Prop where
 hS:H S=Xb (.dK kv)
 hm:H lm=Xb (.lst ms)
 hc:H lc=Xb (.dK cs)
 n:S≠lc
variable{H H' H2 Hx:Hp}{S lm lc:Q1}{kv cs:List (Key×V)}{ms:List V}
theorem Bk.n1(b:Bk H S lm lc kv ms cs):S≠lm:=λz=>by have:=b.hS;rw[z,b.hm]at this;cases this
theorem Bk.n2(b:Bk H S lm lc kv ms cs):lc≠lm:=λz=>by have:=b.hc;rw[z,b.hm]at this;cases this
theorem Bk.al(b:Bk H S lm lc kv ms cs):∀a∈[S,lm,lc],H a≠Xc:=λa m e=>by
 simp only[Ob,Ou,or_false]at m;rcases m with rfl|rfl|rfl
 ·rw[b.hS]at e;cases e
 ·rw[b.hm]at e;cases e
 rw[b.hc]at e;cases e
theorem Bk.same(b:Bk H S lm lc kv ms cs)(z:aq H H'):Bk H' S lm lc kv ms cs:={z _ _ b.hS,z _ _ b.hm,z _ _ b.hc,b.n}
theorem Bk.atS(b:Bk H S lm lc kv ms cs)(kv':List (Key×V)):Bk (upd H S (.dK kv')) S lm lc kv' ms cs:=⟨av,aF b.n1.symm b.hm,aF b.n.symm b.hc,b.n⟩
theorem Bk.atC(b:Bk H S lm lc kv ms cs)(Ō:List (Key×V)):Bk (upd H lc (.dK Ō)) S lm lc kv ms Ō:=⟨aF b.n b.hS,aF b.n2.symm b.hm,av,b.n⟩
theorem Bk.dl(b:Bk H S lm lc kv ms cs){p:Q1}{o:HO}(hp:H p=Xc)(e:H' p=Xb o):del [S,lm,lc] H' p=Xb o:=bx (λm=>b.al p m hp) e
theorem Bk.zS(b:Bk H S lm lc kv ms cs)(o:HO):aq (del [S,lm,lc] H) (del [S,lm,lc] (upd H S o)):=(Go.at N9 o).same
theorem Bk.zC(b:Bk H S lm lc kv ms cs)(o:HO):aq (del [S,lm,lc] H) (del [S,lm,lc] (upd H lc o)):=(Go.at (by simp) o).same
theorem zN(z:aq H H')(M:List Q1):aq (del M H) (del M H'):=(Go.new z).same
structure Fx(E:En)(H X:Hp)(ln û:Q1):Prop where
 z:aq H X
 hn:X ln=Xb (.lst (Ň E.N))
 ht:X û=Xb (.lst (ã E [2,3,4,6,7,8]))
theorem Fx.same{X X':Hp}{ln û:Q1}(f:Fx E H X ln û)(z:aq X X'):Fx E H X' ln û:={f.z.trans z,z _ _ f.hn,z _ _ f.ht}
def sJ(E:En)(mo:Nat->Int)(ex:Nat->Option Int)(X:Hp)(kn:Nat)(cs:List (Key×V)):Prop:=∃cv,cs=dk E.N ((Rz kn).map â) cv/\∀i<kn,∃p,cv (â i)=.ref p/\X p=Xb (.tup [.int (mo i),mZ (ex i)])
theorem sJ.same{X X':Hp}(z:aq X X')(h:sJ E mo ex X kn cs):sJ E mo ex X' kn cs:=by
 obtain⟨cv,e,f⟩:=h;refine{cv,e,λi hi=>?_};obtain⟨p,e1,e2⟩:=f i hi;exact{p,e1,z _ _ e2}
theorem sJ.co{X:Hp}(z:aq X H)(h:sJ E mo ex X kn cs)(e:H lc=Xb (.dK cs)):vd E mo ex H lc kn:=by
 obtain⟨cv,rfl,f⟩:=h;refine{cv,e,λi hi=>?_};obtain⟨p,e1,e2⟩:=f i hi;exact{p,e1,z _ _ e2}
theorem sJ.put{X:Hp}(D:oE E.N){c:Int}{x:Option Int}{mo':Nat->Int}{ex':Nat->Option Int}{p:Q1}(h:sJ E mo ex X kn cs)(k2:kn<=1)(hp:X p=Xb (.tup [.int c,mZ x]))(m1:∀i<kn,mo' i=mo i/\ex' i=ex i)(m2:mo' kn=c/\ex' kn=x):sJ E mo' ex' X (kn+1) (Xi cs (.inr (E.N (â kn))) (.ref p)):=by
 obtain⟨cv,rfl,f⟩:=h;have lt:∀j∈(Rz kn).map â,j<18:=λj hj=>by
  obtain⟨i,hi,rfl⟩:=Oq.mp hj;have:=Pm.mp hi;unfold â;lia
 have nin:â kn∉(Rz kn).map â:=λhj=>by
  obtain⟨i,hi,e⟩:=Oq.mp hj;have:=Pm.mp hi;unfold â at e;lia
 refine{G6 cv (â kn) (.ref p),?_,λi hi=>?_}
 ·rw[tV D (by unfold â;lia) lt nin,Qw,OB];rfl
 by_cases e:i=kn
 ·subst e;rw[m2.1,m2.2];exact{p,vX _ _ _,hp}
 obtain⟨q,e1,e2⟩:=f i ();obtain⟨a1,a2⟩:=m1 i ();rw[a1,a2];exact{q,by rw[Cq _ _ (λz=>e (by unfold â at z;lia))];exact e1,e2}
theorem ES{s:La}{y:Dy}{kv2:List V}(b:Bk H' s.S s.lm s.lc (stK s y.row) (ã E y.marks) cs)(mb:∀m∈y.marks,10<=m/\m<13)(zs:aq (del [s.S,s.lm,s.lc] Hx) (del [s.S,s.lm,s.lc] H'))(l0:Hx s.ll=Xc)(hl:H' s.ll=Xb (.lst (y.cells.map V.int))){ln û:Q1}(f:Fx E H (del [s.S,s.lm,s.lc] Hx) s.ln û)(ho:del [s.S,s.lm,s.lc] Hx s.lo=Xb (.lst (s.fF.map V.int)))(hk:del [s.S,s.lm,s.lc] Hx s.lk=Xb (.lst kv2))(pk:Paired (KnV E.N (del [s.S,s.lm,s.lc] Hx)) kv2 (Rz s.kn))(ht:del [s.S,s.lm,s.lc] Hx s.lt=Xb (.lst (ã E s.th)))(hc:sJ E mo ex (del [s.S,s.lm,s.lc] Hx) s.kn cs):dW E mo ex H' s y:=by
 have z:aq (del [s.S,s.lm,s.lc] Hx) (del s.M H'):=λa o e=>by
  obtain⟨h1,h2⟩:=eY e;obtain⟨_,h3⟩:=eY (zs a o e);refine bx (λm=>?_) h3;unfold La.M at m;simp only[Ob,Ou,or_false,not_or]at m h1;rcases m with m|m|m
  ·exact h1.1 m
  ·exact h1.2.1 m
  rw[m,l0]at h2;cases h2
 have hlc:del s.M H' s.lc=Xb (.dK cs):=bx (λm=>by
  unfold La.M at m;simp only[Ob,Ou,or_false]at m;rcases m with m|m|m
  ·exact b.n m.symm
  ·exact b.n2 m
  have:=b.hc;rw[m,hl]at this;cases this) b.hc
 exact{{z _ _ f.hn,z _ _ ho,{kv2,z _ _ hk,Paired.eX pk λ_ _ ⟨p,e,q⟩=>{p,e,z _ _ q}},z _ _ ht,hc.co z hlc},b.hS,b.hm,mb,hl}
theorem AM{s:La}{y y2:Dy}(b:Bk H' s.S s.lm s.lc (stK s y.row) (ã E y.marks) cs)(zs:aq (del [s.S,s.lm,s.lc] Hx) (del [s.S,s.lm,s.lc] H'))(l0:Hx s.ll=Xc)(hl:H' s.ll=Xb (.lst (y.cells.map V.int)))(g:Go s.M H' s.M H2)(L:dW E mo ex H2 s y2):Bk H2 s.S s.lm s.lc (stK s y2.row) (ã E y2.marks) cs/\aq (del [s.S,s.lm,s.lc] Hx) (del [s.S,s.lm,s.lc] H2)/\aq (Ø H' H2) (del [s.S,s.lm,s.lc] H2):=by
 refine{{L.dy.hS,L.dy.hm,g.o _ _ (λm=>?_) b.hc,b.n},λa o e=>?_,λa o e=>?_}
 ·unfold La.M at m;simp only[Ob,Ou,or_false]at m;rcases m with m|m|m
  ·exact b.n m.symm
  ·exact b.n2 m
  have:=b.hc;rw[m,hl]at this;cases this
 ·obtain⟨h1,h2⟩:=eY e;obtain⟨_,h3⟩:=eY (zs a o e);refine bx h1 (g.o a o (λm=>?_) h3);unfold La.M at m;simp only[Ob,Ou,or_false,not_or]at m h1;rcases m with m|m|m
  ·exact h1.1 m
  ·exact h1.2.1 m
  rw[m,l0]at h2;cases h2
 obtain⟨e1,e2⟩:=Ø.get e;exact b.dl e1 e2
def fN(ns:List Int)(i j:Nat):List Int:=((ns.drop (HT.Ù ns.length 0 (Xb (i:Int)))).take (HT.Ù ns.length ns.length (Xb (j:Int))-HT.Ù ns.length 0 (Xb (i:Int)))).reverse
theorem tM(ns:List Int){i j:Nat}(h:i<=j):(fN ns i j).length<=j-i:=by
 unfold fN;rw[Va,OH,HT.CF,HT.CF];lia
theorem Ah(ns:List Int)(i j:Nat):(kU (ns.map V.int) (Xb (i:Int)) (Xb (j:Int))).reverse=(fN ns i j).map V.int:=by
 unfold fN;rw[F5,List.map_reverse]
end
section
variable{P:Program}{w:Rh}{K:Q6}{mg:Str->Option Q0}{base:Rp}{A:Ï}{E:En}
seal PE PA PS ď PT PW
theorem ę.ex{ι:Type}{k:Nat}{x:Str}{ps:List Str}{sp:ι->Sp}{p:ι->Prop}(i0:ι)(h0:p i0)(h:∀i,p i->ę P w K mg base k x ps (sp i)):ę P w K mg base k x ps (λvs H Q E=>∃i,p i/\sp i vs H Q E):=by
 obtain⟨f,fd,F,b,kp,m,oc,od,ú,lk⟩:=h i0 h0;have same:∀i,p i->j2 P w K mg base Ľ k f fd ps (sp i):=λi hi=>by
  obtain⟨f',fd',F',b',kp',m',oc',od',osl',lk'⟩:=h i hi;have e:f'=f:=by rw[m]at m';cases m';rfl
  subst e;rw[lk]at lk';cases lk';exact F'
 exact{f,fd,{λvs H Q E ⟨i,hi,q⟩=>(same i hi).len vs H Q E q,λA outer s H args us vs Q E hr he hb hv ⟨i,hi,q⟩=>(same i hi).run A outer s H args us vs Q E hr he hb hv q},b,kp,m,oc,od,ú,lk}
def ń(r1:List Rw):Int:=gg (Ħ []) 4 r1
def Ω(r1:List Rw):Option Int:=GX (ĩ []) 4 r1
def c2D(r1 r2:List Rw):Int:=gg (Ħ [ń r1]) 4 r2
def x2D(r1 r2:List Rw):Option Int:=GX (ĩ [Ω r1]) 4 r2
def ţ(r1 r2:List Rw):Nat->Int:=Ħ [ń r1,c2D r1 r2]
def ex2(r1 r2:List Rw):Nat->Option Int:=ĩ [Ω r1,x2D r1 r2]
structure HD(E:En)(H:Hp)(t ln lb B1 B2 B3 tc:Q1)(n:Int)(r1 r2 r3:List Rw):Prop where
 t:H t=Xb (.tup [.ref ln,.ref lb,.int n,.ref tc])
 ln:H ln=Xb (.lst (Ň E.N))
 lb:H lb=Xb (.lst [.ref B1,.ref B2,.ref B3])
 b1:cM E 0 4 H B1 r1
 b2:cM E 1 4 H B2 r2
 b3:cM E 2 4 H B3 r3
 l1:eV r1<=3
 l2:eV r2<=3
 l3:eV r3<=36
 tc:H tc=Xb (.tup [.int (gg (ţ r1 r2) 4 r3),mZ (GX (ex2 r1 r2) 4 r3)])
 big:gg (ţ r1 r2) 4 r3<=17280
 nu:∃k e,Ns 0 15 r1 (n-1)/\Ns 0 (n+1) r2 k/\Ns 0 (k+2) r3 e
structure Ix where
 E:En
 mo:Nat->Int
 ex:Nat->Option Int
 kn:Nat
 wt:Nat->Int
def ix0:Ix:={{Ţ 0,[],λ_=>0},Ħ [],ĩ [],0,λ_=>0}
def wt3(k:Nat):Int:=if k=0 then 480 else if k=1 then 120 else 40
def ñ(ln lm lo lk:Q1):List (Key×V):=[(.inr "names",.ref ln),(.inr "row",.int 15),(.inr "marks",.ref lm),(.inr "mosts",.ref lo),(.inr "known",.ref lk)]
def à(ln:Q1)(row:Int)(lm lo lk lt:Q1)(ev:Int)(lc ll:Q1):List (Key×V):=[(.inr "names",.ref ln),(.inr "row",.int row),(.inr "marks",.ref lm),(.inr "mosts",.ref lo),(.inr "known",.ref lk),(.inr "things",.ref lt),(.inr "even",.int ev),(.inr "costs",.ref lc),(.inr "cells",.ref ll)]
inductive vJ(K:Q6)(vs:List V)(H:Hp)(Q:VK)(Ã:XK):Prop
 |mk(E:En)(a:Q1)(ns:List Int):vs=[.ref a]->À K H a (ns.map V.int)->yQ E (cellAt ns 0)->(∀(t ln lb B1 B2 B3 tc:Q1)(n:Int)(r1 r2 r3:List Rw)(H':Hp),aq H H'->HD E H' t ln lb B1 B2 B3 tc n r1 r2 r3->Q (.ref t) H')->vJ K vs H Q Ã
theorem IE{E:En}{ys:List V}(ly:ys.length=18)(hy:∀(i:Nat) y,ys[i]?=Xb y->y=.str (E.N i)):ys=Ň E.N:=by
 refine VS λi=>?_;by_cases h:i<18
 ·have lt:i<ys.length:=()
  rw[Oi,Vc h,Oa lt,hy i _ (Oa lt)];rfl
 rw[PM (),PM (by simp;lia)]
theorem Ig{a b x:Q1}(h1:x≠a)(h2:x≠b):x∉[a,b]:=λm=>by
 simp only[Ob,Ou,or_false]at m;rcases m with m|m
 ·exact h1 m
 exact h2 m
theorem ND{a b c x:Q1}(h1:x≠a)(h2:x≠b)(h3:x≠c):x∉[a,b,c]:=λm=>by
 simp only[Ob,Ou,or_false]at m;rcases m with m|m|m
 ·exact h1 m
 ·exact h2 m
 exact h3 m
theorem yQ.la'{c:Int}(Ã:yQ E c){S ln lm lo lk lt lc ll:Q1}{fF:List Int}{kn:Nat}{th:List Nat}{ev:Int}(n1:S≠lm)(n2:S≠ll)(n3:lm≠ll)(h:∀i∈th,i∈[2,3,4,6,7,8,14,16,17])(t3:3<th.length)(k2:kn<=2)(ms:∀m∈fF,1<=m/\m<=4)(ml:fF.length<=2):rq E ⟨S,ln,lm,lo,lk,lt,lc,ll,fF,kn,th,ev⟩:=Ã.la n1 n2 n3 h t3 k2 ms ml
theorem FF(T:Txt K mg A):T.rA.Hz P w base 17 (vJ K):=by
 have LM:=ę.ex (P:=P) (w:=w) (base:=base) (sp:=λi:Ix=>mQ i.E i.mo i.ex i.kn i.wt 4) (p:=λi=>pU i.E i.mo i.ex i.kn) ix0 (co0 (xw 0)) λi h=>Ck T h 4;have A1:=ę.ex (P:=P) (w:=w) (base:=base) (sp:=λi:Ix=>qd i.E i.mo i.ex i.kn 4) (p:=λi=>pU i.E i.mo i.ex i.kn) ix0 (co0 (xw 0)) λi h=>AX T h 4;refine T.rA.hs (k:=16) dv (λf Ä A' outer s H vs Q E' hr hu h=>?_);obtain⟨E,a,ns,rfl,hA,Ã,q⟩:=h;have D:=Ã.D;refine⟨_,(af (pj (j:=1) (N:=["_law_k","_law_script"]) (own:=1) (fr:=[0]) (b4.of (by kernel_rfl!)) rfl dv.nd rfl (N6 rfl) (qX rfl T.ir (ah^ae)) (λb=>Õ (i:=0) (show Rr (["_law_k","_law_script"]:List RF) by decide+kernel) rfl) (λb=>fP) (λb=>aj (hj:=by lia) (KL T) hr ((aj (hj:=by lia) (Bh T) hr (fv 1^ah^ae))^fv 0^ae)))
 (af (Æ 2 dv.nd (ax aO (fD kz (fv 1) (cX ah) (cX ah)) (fD kz (fv 1) (cX ah) (cX ah))))
 (af (Æ 3 dv.nd (HS (nB ay (fv 1) (nB ay ah (nB ay (fD kz (fv 1) (cX ah) (cX ah)) (nB ay (aU ae) (nB ay (aU ae) (G1)))))) rfl rfl (by intro z;cases z) ∅))
 (af (cn (ax aO (fv 2) (fD kz (fv 1) (cX ah) (cX ah))) (cH (fv 3) ay (cI hu Xe)))
 (af (cn (ax bH (ax bU (aj (hj:=by lia) (Bh T) hr (fv 0^ah^ae)) ah) ah) (cH (fv 3) ay (cI hu Xe)))
 (af (cn (qw) (cH (fv 3) ay (cI hu Xe)))
 (af (cn (Bf (fD kz (fv 0) (cX ah) (cX ah))) (cH (fv 3) ay (cI hu Xe)))
 (af (Æ 4 dv.nd (aj (hj:=by lia) LM hr (fv 3^ah^ah^ae)))
 (af (cn (aj (hj:=by lia) A1 hr (fv 4^px hu (fv 3) ay^ae)) (cH (px hu (fv 3) ay) (px hu (fv 1) ah) (cI hu Xe)))
 (af (cn (ax aO (px hu (fv 3) ay) ah) (cH (fv 3) ay (cI hu Xe)))
 (af (cn (aU (bE (px hu (fv 1) ah^ah^ae)^ae)) (cH (fv 3) ay (cI hu Xe)))
 (af (cn (ax aO (fv 2) (fD kz (fv 1) (cX ah) (cX ah))) (cH (fv 3) ay (cI hu Xe)))
 (af (cn (Bf (fD kz (fv 0) (cX ah) (cX ah))) (cH (fv 3) ay (cI hu Xe)))
 (af (Æ 5 dv.nd (ax oR (px hu (fv 3) ay) ah))
 (af (Æ 6 dv.nd (aj (hj:=by lia) LM hr (fv 3^ah^ah^ae)))
 (af (cn (aj (hj:=by lia) A1 hr (fv 6^px hu (fv 3) ay^ae)) (cH (px hu (fv 3) ay) (px hu (fv 1) ah) (cI hu Xe)))
 (af (cn (ax aO (px hu (fv 3) ay) ah) (cH (fv 3) ay (cI hu Xe)))
 (af (cn (aU (bE (px hu (fv 1) ah^ah^ae)^bE (px hu (fv 1) ah^ah^ae)^ae)) (cH (fv 3) ay (cI hu Xe)))
 (af (cn (fv 2) (cH (fv 3) ay (cI hu Xe)))
 (af (cn (aU (ah^ah^ae)) (cH (fv 3) ay (cI hu Xe)))
 (af (cn (Bf (fD kz (fv 0) (cX ah) (cX ah))) (cH (fv 3) ay (cI hu Xe)))
 (af (Æ 7 dv.nd (aj (hj:=by lia) LM hr (fv 3^ah^ah^ae)))
 (ai (aA (bE (fv 1^aU (fv 4^fv 6^fv 7^ae)^fv 5^(aj (hj:=by lia) A1 hr (fv 7^px hu (fv 3) ay^ae))^ae)))))))))))))))))))))))))),?_⟩
 refine{_,rfl,∅,∅,yt (J:=Υ 0 18) (n:=18) (x:=λj=>.int (0+j)) (λj y _=>y=.str (E.N j)) (aH ∅) (λ_ _=>Oc _) (λ_ _ h _=>h) (λ_ _ _ _ _ _ y=>y) (λb j H1 G hj s1 kk=>{a,ns,0,rfl,s1.seq hA,∅,cellAt ns 0,j,(by rw[P4];rfl),(),λH2 s2=>kk _ _ s2 (by rw[Ã.N])}) (λ_ _ _ _ _ h=>h) (λ_ _ _ _ _ _ _ h=>h) (λln H1 ys ln0 s1 eln ly hy=>?_)};rw[IE ly hy]at eln;clear hy ly;rfl'
 refine ao λM1 K1=>{_,rfl,_,rfl,N6 {ln,_,rfl,À.of eln,λp1 hp1=>?_}};rw[show kU (Ň E.N) (Xb 2) (Xb 5)=ã E [2,3,4]from rfl];obtain⟨s2,e2⟩:=Ò hp1 (HO.lst (ã E [2,3,4]));generalize upd H1 p1 _=H2 at s2 e2⊢;refine{_,rfl,_,rfl,N6 {ln,_,rfl,À.of (s2 _ _ eln),λp2 ϵ=>?_}};rw[show kU (Ň E.N) (Xb 6) (Xb 9)=ã E [6,7,8]from rfl];obtain⟨s3,e3⟩:=Ò ϵ (HO.lst (ã E [6,7,8]));generalize upd H2 p2 _=H3 at s3 e3⊢;refine{p1,p2,_,_,rfl,rfl,s3 _ _ e2,e3,(show 6<=sizeLine by decide),λû hth=>K1 _ _ ?_};rw[show ã E [2,3,4]++ã E [6,7,8]=ã E [2,3,4,6,7,8]from rfl];obtain⟨s4,e4⟩:=Ò hth (HO.lst (ã E [2,3,4,6,7,8]));generalize upd H3 û _=H4 at s4 e4⊢;have n4:H4 ln=Xb (.lst (Ň E.N)):=((s2.trans s3).trans s4) _ _ eln;have t4:aq H H4:=s1.trans ((s2.trans s3).trans s4);clear s2 s3 s4 e2 e3 hp1 ϵ hth eln s1 ln0;rfl'
 refine ao λM2 K2 S hS0=>?_;obtain⟨s5,e5⟩:=Ò hS0 (HO.dK []);generalize upd H4 S _=H5 at s5 e5⊢;refine{_,rfl,_,rfl,N6 {ln,_,rfl,À.of (s5 _ _ n4),λlm hlm=>?_}};rw[show kU (Ň E.N) (Xb 10) (Xb 13)=ã E [10,11,12]from rfl];obtain⟨s6,e6⟩:=Ò hlm (HO.lst (ã E [10,11,12]));generalize upd H5 lm _=H6 at s6 e6⊢;refine{Oj _,λlo ϸ=>?_};obtain⟨s7,e7⟩:=Ò ϸ (HO.lst []);generalize upd H6 lo _=H7 at s7 e7⊢;refine{Oj _,λlk hlk=>?_};obtain⟨s8,e8⟩:=Ò hlk (HO.lst []);generalize upd H7 lk _=H8 at s8 e8⊢;have Ϫ:=(s6.trans s7).trans s8;refine{Ϫ _ _ e5,[((.inr "names":Key),.ref ln),(.inr "row",.int 15),(.inr "marks",.ref lm),(.inr "mosts",.ref lo),(.inr "known",.ref lk)],rfl,(show 5<=15 by decide),K2 _ _ ?_};rw[show bL [] [((.inr "names":Key),V.ref ln),(.inr "row",.int 15),(.inr "marks",.ref lm),(.inr "mosts",.ref lo),(.inr "known",.ref lk)]=ñ ln lm lo lk from rfl];have lm4:H4 lm=Xc:=aq.free s5 hlm;have loS:lo≠S:=Xd ϸ (s6 _ _ e5);have lom:lo≠lm:=Xd ϸ e6;have lkS:lk≠S:=Xd hlk ((s6.trans s7) _ _ e5);have lkm:lk≠lm:=Xd hlk (s7 _ _ e6);have lmS:lm≠S:=Xd hlm e5;have s48:=s5.trans Ϫ;have F9:Fx E H (del [S,lm] (upd H8 S (.dK (ñ ln lm lo lk)))) ln û:=by
  have zz:aq H4 (del [S,lm] (upd H8 S (.dK (ñ ln lm lo lk)))):=λx o e=>by
   have xS:x≠S:=λz=>by rw[z,hS0]at e;cases e
   have xm:x≠lm:=λz=>by rw[z,lm4]at e;cases e
   exact bx (Ig xS xm) (aF xS (s48 _ _ e))
  exact{t4.trans zz,zz _ _ n4,zz _ _ e4}
 have o9:del [S,lm] (upd H8 S (.dK (ñ ln lm lo lk))) lo=Xb (.lst []):=bx (Ig loS lom) (aF loS (s8 _ _ e7));have k9:del [S,lm] (upd H8 S (.dK (ñ ln lm lo lk))) lk=Xb (.lst []):=bx (Ig lkS lkm) (aF lkS e8);have S9:(upd H8 S (.dK (ñ ln lm lo lk))) S=Xb (.dK (ñ ln lm lo lk)):=av;have m9:(upd H8 S (.dK (ñ ln lm lo lk))) lm=Xb (.lst (ã E [10,11,12])):=aF lmS ((s7.trans s8) _ _ e6);have hS1:H S=Xc:=aq.free t4 hS0;have hm1:H lm=Xc:=aq.free t4 lm4;generalize upd H8 S (.dK (ñ ln lm lo lk))=H9 at F9 o9 k9 S9 m9⊢;clear s48 Ϫ s8 s7 s6 s5 e5 e6 e7 e8 ϸ hlk hlm hS0 n4 e4 t4 lm4 loS lom lkS lkm;rfl'
 refine ao λM3 K3=>{_,rfl,_,rfl,N6 {ln,_,rfl,À.of (aL _ _ F9.hn),λp3 hp3=>?_}};rw[show kU (Ň E.N) (Xb 14) (Xb 15)=ã E [14]from rfl];obtain⟨ě,e10⟩:=Ò hp3 (HO.lst (ã E [14]));generalize upd H9 p3 _=Ś at ě e10⊢;refine{û,p3,_,_,rfl,rfl,ě _ _ (aL _ _ F9.ht),e10,(show 7<=sizeLine by decide),λlt í=>?_};rw[show ã E [2,3,4,6,7,8]++ã E [14]=ã E [2,3,4,6,7,8,14]from rfl];obtain⟨ş,e11⟩:=Ò í (HO.lst (ã E [2,3,4,6,7,8,14]));generalize upd Ś lt _=Φ at ş e11⊢;have ϩ:=ě.trans ş;refine{_,fS.k (k:=.inr "things") (ϩ _ _ S9) (show 5<sizeLine by decide),K3 _ _ ?_};rw[show Xi (ñ ln lm lo lk) (.inr "things") (.ref lt)=ñ ln lm lo lk++[(.inr "things",.ref lt)]from rfl];have ltS:lt≠S:=Xd í (ě _ _ S9);have ltm:lt≠lm:=Xd í (ě _ _ m9);have z12:aq (del [S,lm] H9) (del [S,lm] (upd Φ S (.dK (ñ ln lm lo lk++[(.inr "things",.ref lt)])))):=(zN ϩ _).trans (Go.at N9 _).same;have t12:del [S,lm] (upd Φ S (.dK (ñ ln lm lo lk++[(.inr "things",.ref lt)]))) lt=Xb (.lst (ã E [2,3,4,6,7,8,14])):=bx (Ig ltS ltm) (aF ltS e11);have S12:(upd Φ S (.dK (ñ ln lm lo lk++[(.inr "things",.ref lt)]))) S=Xb (.dK (ñ ln lm lo lk++[(.inr "things",.ref lt)])):=av;have m12:(upd Φ S (.dK (ñ ln lm lo lk++[(.inr "things",.ref lt)]))) lm=Xb (.lst (ã E [10,11,12])):=aF lmS (ϩ _ _ m9);have F12:=F9.same z12;have o12:=z12 _ _ o9;have k12:=z12 _ _ k9;generalize upd Φ S (.dK (ñ ln lm lo lk++[(.inr "things",.ref lt)]))=ω at F12 o12 k12 t12 S12 m12⊢;clear z12 ϩ ě ş e10 e11 hp3 í F9 o9 k9 S9 m9 ltS ltm;rfl'
 obtain⟨ev,hev⟩:∃ev:Int,ev=cellAt ns 0/4%2:={_,rfl};refine ao λM4 K4=>{a,ns,0,rfl,(F12.z.trans aL).seq hA,∅,{∅,∅},(by show(0:Int)<2;decide),upd ω S (.dK (ñ ln lm lo lk++[(.inr "things",.ref lt),(.inr "even",.int ev)])),(by rw[hev];exact fS.k (k:=.inr "even") S12 (show 6<sizeLine by decide)),?_};have z13:aq (del [S,lm] ω) (del [S,lm] (upd ω S (.dK (ñ ln lm lo lk++[(.inr "things",.ref lt),(.inr "even",.int ev)])))):=(Go.at N9 _).same;have S13:(upd ω S (.dK (ñ ln lm lo lk++[(.inr "things",.ref lt),(.inr "even",.int ev)]))) S=Xb (.dK (ñ ln lm lo lk++[(.inr "things",.ref lt),(.inr "even",.int ev)])):=av;have m13:(upd ω S (.dK (ñ ln lm lo lk++[(.inr "things",.ref lt),(.inr "even",.int ev)]))) lm=Xb (.lst (ã E [10,11,12])):=aF lmS m12;have F13:=F12.same z13;have o13:=z13 _ _ o12;have k13:=z13 _ _ k12;have t13:=z13 _ _ t12;generalize upd ω S (.dK (ñ ln lm lo lk++[(.inr "things",.ref lt),(.inr "even",.int ev)]))=H13 at F13 o13 k13 t13 S13 m13⊢;clear z13 F12 o12 k12 t12 S12 m12;refine K4 _ _ ?_;rfl'
 refine ao λM5 K5 lc hlc=>?_;obtain⟨ņ,e14⟩:=Ò hlc (HO.dK []);generalize upd H13 lc _=H14 at ņ e14⊢;refine{_,fS.k (k:=.inr "costs") (ņ _ _ S13) (show 7<sizeLine by decide),K5 _ _ ?_};rw[show Xi (ñ ln lm lo lk++[(.inr "things",.ref lt),(.inr "even",.int ev)]) (.inr "costs") (.ref lc)=ñ ln lm lo lk++[(.inr "things",.ref lt),(.inr "even",.int ev),(.inr "costs",.ref lc)]from rfl];have lcS:lc≠S:=Xd hlc S13;have b15:Bk (upd H14 S (.dK (ñ ln lm lo lk++[(.inr "things",.ref lt),(.inr "even",.int ev),(.inr "costs",.ref lc)]))) S lm lc (ñ ln lm lo lk++[(.inr "things",.ref lt),(.inr "even",.int ev),(.inr "costs",.ref lc)]) (ã E [10,11,12]) []:={av,aF lmS (ņ _ _ m13),aF lcS e14,lcS.symm};have z15:aq (del [S,lm] H13) (del [S,lm,lc] (upd H14 S (.dK (ñ ln lm lo lk++[(.inr "things",.ref lt),(.inr "even",.int ev),(.inr "costs",.ref lc)])))):=λx o e=>by
  obtain⟨h1,h2⟩:=eY e;have xS:x≠S:=λz=>h1 (by rw[z];simp);have xm:x≠lm:=λz=>h1 (by rw[z];simp);exact bx (ND xS xm (λz=>by rw[z,hlc]at h2;cases h2)) (aF xS (ņ _ _ h2))
 have F15:=F13.same z15;have o15:=z15 _ _ o13;have k15:=z15 _ _ k13;have t15:=z15 _ _ t13;have hc1:H lc=Xc:=aq.free (F13.z.trans aL) hlc;generalize upd H14 S (.dK (ñ ln lm lo lk++[(.inr "things",.ref lt),(.inr "even",.int ev),(.inr "costs",.ref lc)]))=H15 at F15 o15 k15 t15 b15⊢;clear z15 ņ e14 F13 o13 k13 t13 S13 m13 hlc lcS lmS;rfl'
 refine ao λM6 K6=>{_,rfl,_,rfl,N6 {a,_,rfl,(F15.z.trans aL).seq hA,λp4 hp4=>?_}};obtain⟨Ϭ,e16⟩:=Ò hp4 (HO.lst (kU (ns.map V.int) (Xb 3) (Xb 6)));generalize upd H15 p4 _=H16 at Ϭ e16⊢;refine{p4,_,rfl,À.of e16,λll Ϛ=>?_};rw[show(kU (ns.map V.int) (Xb 3) (Xb 6)).reverse=(fN ns 3 6).map V.int from Ah ns 3 6];obtain⟨θ,e17⟩:=Ò Ϛ (HO.lst ((fN ns 3 6).map V.int));generalize upd H16 ll _=H17 at θ e17⊢;have l15:H15 ll=Xc:=aq.free Ϭ Ϛ;have b17:=b15.same (Ϭ.trans θ);refine{_,fS.k (k:=.inr "cells") b17.hS (show 8<sizeLine by decide),K6 _ _ ?_};rw[show Xi (ñ ln lm lo lk++[(.inr "things",.ref lt),(.inr "even",.int ev),(.inr "costs",.ref lc)]) (.inr "cells") (.ref ll)=à ln 15 lm lo lk lt ev lc ll from rfl];have b18:=b17.atS (à ln 15 lm lo lk lt ev lc ll);have z18:=(zN (Ϭ.trans θ) [S,lm,lc]).trans (b17.zS (.dK (à ln 15 lm lo lk lt ev lc ll)));have Ű:S≠ll:=λz=>by have:=b17.hS;rw[z,e17]at this;cases this
 have ξ:lm≠ll:=(Xd Ϛ (Ϭ _ _ b15.hm)).symm;have e18:(upd H17 S (.dK (à ln 15 lm lo lk lt ev lc ll))) ll=Xb (.lst ((fN ns 3 6).map V.int)):=aF Ű.symm e17;generalize upd H17 S (.dK (à ln 15 lm lo lk lt ev lc ll))=H18 at b18 z18 e18⊢;clear Ϭ θ e16 e17 hp4 Ϛ b17;rfl'
 have cs0:sJ E (Ħ []) (ĩ []) (del [S,lm,lc] H15) 0 []:={λ_=>.Ê,rfl,λi h=>absurd h (PH _)};have O1:rq E {S,ln,lm,lo,lk,lt,lc,ll,[],0,[2,3,4,6,7,8,14],ev}:=Ã.la' b18.n1 Ű ξ ∅ ∅ ∅ ∅ ∅;have L1:dW E (Ħ []) (ĩ []) H18 {S,ln,lm,lo,lk,lt,lc,ll,[],0,[2,3,4,6,7,8,14],ev} {15,[10,11,12],fN ns 3 6}:=ES (mb:=by show ∀m∈([10,11,12]:List Nat),10<=m/\m<13;decide) (kv2:=[]) b18 z18 l15 e18 (ln:=ln) F15 o15 k15 .nil t15 cs0;have W1:Wts {S,ln,lm,lo,lk,lt,lc,ll,[],0,[2,3,4,6,7,8,14],ev} (Ħ []) (λ_=>4):={λ_=>∅,λi h=>absurd h (PH _),λk m h=>by cases h};have q1:=tM ns (i:=3) (j:=6) ∅;refine ao λM7 K7=>{{E,Ħ [],ĩ [],0,λ_=>4},co0 D,{S,ln,lm,lo,lk,lt,lc,ll,[],0,[2,3,4,6,7,8,14],ev},{15,[10,11,12],fN ns 3 6},0,0,rfl,rfl,O1,L1,rfl,W1,(by show(fN ns 3 6).length<=100;lia),λB1 r1 y1 H19 g19 L19 bd1 n1 c1 m1=>?_};have m1:Ns 0 15 r1 y1.row:=m1;have mb1:∀m∈y1.marks,10<=m/\m<13:=L19.dy.mb;obtain⟨b19,z19,w19⟩:=AM (y:={15,[10,11,12],fN ns 3 6}) b18 z18 l15 e18 g19 L19;have b19:Bk H19 S lm lc (à ln y1.row lm lo lk lt ev lc ll) (ã E y1.marks) []:=b19;have z19:aq (del [S,lm,lc] H15) (del [S,lm,lc] H19):=z19;have bd1:cM E 0 4 (del [S,lm,lc] H19) B1 r1:=bd1.same w19;have n1:eV r1<=3:=by have n1:eV r1+y1.cells.length<=(fN ns 3 6).length:=n1;lia
 have c1:ń r1<=12:=by have c1:gg (Ħ []) 4 r1+4*(y1.cells.length:Int)<=4*((fN ns 3 6).length:Int):=c1;unfold ń;lia
 have ϡ:0<=ń r1:=qx (kn:=0) (E:=E) (λi h=>absurd h (PH _)) bd1.choose_spec.2.2;have F19:=F15.same z19;have o19:=z19 _ _ o15;have cs19:=cs0.same z19;clear L1 O1 W1 g19 L19 w19 b18 z18 e18 l15 b15 Ű ξ F15 o15 k15 t15 cs0 q1 z19;refine K7 _ _ ?_;rfl'
 refine ao λM8 K8=>?_;obtain⟨xs1,a1,a2,a3⟩:=bd1.same aL;refine æ b19.hS rfl {{E,Ħ [],ĩ [],0,λ_=>4},co0 D,B1,lc,xs1,r1,rfl,a1,a2,a3,cs19.co aL b19.hc,λt1 H20 s20 t10 et1=>?_};have b20:=b19.same s20;have z20:=zN s20 [S,lm,lc];have F20:=F19.same z20;have o20:=z20 _ _ o19;have et:del [S,lm,lc] H20 t1=Xb (.tup [.int (ń r1),mZ (Ω r1)]):=b19.dl t10 et1;refine æ b20.hS rfl (ì (À.of (aL _ _ F20.hn)) (fe E.N (i:=13) ∅) {_,fS.k (k:=.inr (E.N 13)) b20.hc (show 0<sizeLine by decide),?_});have ŕ:sJ E (Ħ [ń r1]) (ĩ [Ω r1]) (del [S,lm,lc] H20) 1 (Xi [] (.inr (E.N 13)) (.ref t1)):=(cs19.same z20).put D ∅ et (λi h=>absurd h (PH _)) ⟨rfl,rfl⟩;have b21:=b20.atC (Xi [] (.inr (E.N 13)) (.ref t1));have z21:=b20.zC (.dK (Xi [] (.inr (E.N 13)) (.ref t1)));have F21:=F20.same z21;have o21:=z21 _ _ o20;have bd21:=bd1.same (z20.trans z21);have ŕ:=ŕ.same z21;generalize upd H20 lc (.dK (Xi [] (.inr (E.N 13)) (.ref t1)))=H21 at b21 F21 bd21 ŕ o21⊢;have lcs:(Xi ([]:List (Key×V)) (.inr (E.N 13)) (.ref t1)).length=1:=rfl;generalize Xi ([]:List (Key×V)) (.inr (E.N 13)) (.ref t1)=cv1 at b21 ŕ lcs;clear s20 z20 F20 et z21 b20 b19 F19 cs19 bd1 a1 a2 a3 t10 et1 hS1 hm1 hc1;refine K8 _ _ ?_;rfl'
 refine ao λM9 K9=>æ b21.hS rfl {_,fS.k (k:=.inr "row") b21.hS (show 9<sizeLine by decide),K9 _ _ ?_};rw[show Xi (à ln y1.row lm lo lk lt ev lc ll) (.inr "row") (.int (y1.row+2))=à ln (y1.row+2) lm lo lk lt ev lc ll from rfl];generalize hr1:y1.row+2=Ý;have b22:=b21.atS (à ln Ý lm lo lk lt ev lc ll);have z22:=b21.zS (.dK (à ln Ý lm lo lk lt ev lc ll));have F22:=F21.same z22;have o22:=z22 _ _ o21;have bd22:=bd21.same z22;have cs22:=ŕ.same z22;generalize upd H21 S (.dK (à ln Ý lm lo lk lt ev lc ll))=H22 at b22 F22 bd22 cs22 o22⊢;clear b21 z22 F21 bd21 ŕ;rfl'
 refine ao λM10 K10=>ì (À.of (aL _ _ F22.hn)) (fe E.N (i:=13) ∅) {by show 2<=sizeLine;decide,λk1 hk1=>?_};obtain⟨η,e23⟩:=Ò hk1 (HO.tup [V.str (E.N 13),.int 1]);generalize upd H22 k1 _=H23 at η e23⊢;refine{by show 1<=sizeLine;decide,λċ hlk1=>?_};obtain⟨ϫ,e24⟩:=Ò hlk1 (HO.lst [V.ref k1]);generalize upd H23 ċ _=H24 at ϫ e24⊢;have b24:=b22.same (η.trans ϫ);refine{_,fS.k (k:=.inr "known") b24.hS (show 9<sizeLine by decide),K10 _ _ ?_};rw[show Xi (à ln Ý lm lo lk lt ev lc ll) (.inr "known") (.ref ċ)=à ln Ý lm lo ċ lt ev lc ll from rfl];have b25:=b24.atS (à ln Ý lm lo ċ lt ev lc ll);have zb:=b24.zS (.dK (à ln Ý lm lo ċ lt ev lc ll));have z25:=(zN (η.trans ϫ) [S,lm,lc]).trans zb;have F25:=F22.same z25;have o25:=z25 _ _ o22;have bd25:=bd22.same z25;have cs25:=cs22.same z25;have ek25:=zb _ _ ((b22.same η).dl hlk1 e24);have et25:=zb _ _ ((zN ϫ [S,lm,lc]) _ _ (b22.dl hk1 e23));generalize upd H24 S (.dK (à ln Ý lm lo ċ lt ev lc ll))=H25 at b25 F25 bd25 cs25 ek25 et25 o25⊢;clear b22 zb z25 F22 bd22 cs22 η ϫ e23 e24 b24 hk1 hlk1;rfl'
 refine ao λM11 K11=>{_,rfl,_,rfl,N6 {ln,_,rfl,À.of (aL _ _ F25.hn),λp5 hp5=>?_}};rw[show kU (Ň E.N) (Xb 16) (Xb 18)=ã E [16,17]from rfl];obtain⟨s26,e26⟩:=Ò hp5 (HO.lst (ã E [16,17]));generalize upd H25 p5 _=H26 at s26 e26⊢;refine{û,p5,_,_,rfl,rfl,s26 _ _ (aL _ _ F25.ht),e26,(show 8<=sizeLine by decide),λĉ hlt1=>?_};rw[show ã E [2,3,4,6,7,8]++ã E [16,17]=ã E [2,3,4,6,7,8,16,17]from rfl];obtain⟨s27,e27⟩:=Ò hlt1 (HO.lst (ã E [2,3,4,6,7,8,16,17]));generalize upd H26 ĉ _=H27 at s27 e27⊢;have b27:=b25.same (s26.trans s27);refine{_,fS.k (k:=.inr "things") b27.hS (show 9<sizeLine by decide),K11 _ _ ?_};rw[show Xi (à ln Ý lm lo ċ lt ev lc ll) (.inr "things") (.ref ĉ)=à ln Ý lm lo ċ ĉ ev lc ll from rfl];have b28:=b27.atS (à ln Ý lm lo ċ ĉ ev lc ll);have zb:=b27.zS (.dK (à ln Ý lm lo ċ ĉ ev lc ll));have z28:=(zN (s26.trans s27) [S,lm,lc]).trans zb;have F28:=F25.same z28;have bd28:=bd25.same z28;have Ξ:=cs25.same z28;have ek28:=z28 _ _ ek25;have et28:=z28 _ _ et25;have o28:=z28 _ _ o25;have lt28:=zb _ _ ((b25.same s26).dl hlt1 e27);generalize upd H27 S (.dK (à ln Ý lm lo ċ ĉ ev lc ll))=H28 at b28 F28 bd28 Ξ ek28 et28 o28 lt28⊢;clear b25 b27 zb z28 F25 bd25 cs25 ek25 et25 o25 s26 s27 e26 e27 hp5 hlt1;rfl'
 refine ao λM12 K12=>{_,rfl,_,rfl,N6 {a,_,rfl,(F28.z.trans aL).seq hA,λp6 hp6=>?_}};obtain⟨s29,e29⟩:=Ò hp6 (HO.lst (kU (ns.map V.int) (Xb 6) (Xb 9)));generalize upd H28 p6 _=H29 at s29 e29⊢;refine{p6,_,rfl,À.of e29,λò Ϻ=>?_};rw[show(kU (ns.map V.int) (Xb 6) (Xb 9)).reverse=(fN ns 6 9).map V.int from Ah ns 6 9];obtain⟨s30,e30⟩:=Ò Ϻ (HO.lst ((fN ns 6 9).map V.int));generalize upd H29 ò _=H30 at s30 e30⊢;have l28:H28 ò=Xc:=aq.free s29 Ϻ;have b30:=b28.same (s29.trans s30);refine{_,fS.k (k:=.inr "cells") b30.hS (show 9<sizeLine by decide),K12 _ _ ?_};rw[show Xi (à ln Ý lm lo ċ ĉ ev lc ll) (.inr "cells") (.ref ò)=à ln Ý lm lo ċ ĉ ev lc ò from rfl];have b31:=b30.atS (à ln Ý lm lo ċ ĉ ev lc ò);have z31:=(zN (s29.trans s30) [S,lm,lc]).trans (b30.zS (.dK (à ln Ý lm lo ċ ĉ ev lc ò)));have Ű:S≠ò:=λz=>by have:=b30.hS;rw[z,e30]at this;cases this
 have ξ:lm≠ò:=(Xd Ϻ (s29 _ _ b28.hm)).symm;have e31:(upd H30 S (.dK (à ln Ý lm lo ċ ĉ ev lc ò))) ò=Xb (.lst ((fN ns 6 9).map V.int)):=aF Ű.symm e30;generalize upd H30 S (.dK (à ln Ý lm lo ċ ĉ ev lc ò))=H31 at b31 z31 e31⊢;clear s29 s30 e29 e30 hp6 Ϻ b30;rfl'
 refine ao λM13 K13=>æ b31.hS rfl (K13 _ _ ?_);rfl'
 have C1:pU E (Ħ [ń r1]) (ĩ [Ω r1]) 1:=co1 D λy e=>xT (co0 D) y e;have O2:rq E {S,ln,lm,lo,ċ,ĉ,lc,ò,[],1,[2,3,4,6,7,8,16,17],ev}:=Ã.la' b31.n1 Ű ξ ∅ ∅ ∅ ∅ ∅;have L2:dW E (Ħ [ń r1]) (ĩ [Ω r1]) H31 {S,ln,lm,lo,ċ,ĉ,lc,ò,[],1,[2,3,4,6,7,8,16,17],ev} ⟨Ý,y1.marks,fN ns 6 9⟩:=ES (mb:=mb1) (kv2:=[.ref k1]) b31 z31 l28 e31 (ln:=ln) F28 o28 ek28 (.cons ⟨k1,rfl,et28⟩ .nil) lt28 Ξ;have W2:Wts {S,ln,lm,lo,ċ,ĉ,lc,ò,[],1,[2,3,4,6,7,8,16,17],ev} (Ħ [ń r1]) (λ_=>13):=⟨λ_=>∅,λi h=>by
  have h:i<1:=h;have:i=0:=()
  subst this;exact{ϡ,λ_=>by show 1+ń r1<=13;lia},λk m h=>by cases h⟩
 have q2:=tM ns (i:=6) (j:=9) ∅;refine ao λM14 K14=>{{E,Ħ [ń r1],ĩ [Ω r1],1,λ_=>13},C1,{S,ln,lm,lo,ċ,ĉ,lc,ò,[],1,[2,3,4,6,7,8,16,17],ev},⟨Ý,y1.marks,fN ns 6 9⟩,0,0,rfl,rfl,O2,L2,rfl,W2,(by show(fN ns 6 9).length<=100;lia),λB2 r2 y2 H32 g32 L32 bd2 n2 c2 m2=>?_};have m2:Ns 0 Ý r2 y2.row:=m2;have mb2:∀m∈y2.marks,10<=m/\m<13:=L32.dy.mb;obtain⟨b32,z32,w32⟩:=AM (y:=⟨Ý,y1.marks,fN ns 6 9⟩) b31 z31 l28 e31 g32 L32;have b32:Bk H32 S lm lc (à ln y2.row lm lo ċ ĉ ev lc ò) (ã E y2.marks) cv1:=b32;have z32:aq (del [S,lm,lc] H28) (del [S,lm,lc] H32):=z32;have bd2:cM E 1 4 (del [S,lm,lc] H32) B2 r2:=bd2.same w32;have n2:eV r2<=3:=by have n2:eV r2+y2.cells.length<=(fN ns 6 9).length:=n2;lia
 have c2:c2D r1 r2<=39:=by have c2:gg (Ħ [ń r1]) 4 r2+13*(y2.cells.length:Int)<=13*((fN ns 6 9).length:Int):=c2;unfold c2D;lia
 have c20:0<=c2D r1 r2:=qx (kn:=1) (E:=E) (λi h=>by
  have:i=0:=()
  subst this;exact ϡ) bd2.choose_spec.2.2
 have F32:=F28.same z32;have cs32:=Ξ.same z32;have bd32:=bd28.same z32;clear L2 O2 W2 g32 L32 w32 b31 z31 e31 l28 b28 Ű ξ F28 o28 ek28 et28 lt28 Ξ bd28 q2 z32;refine K14 _ _ ?_;rfl'
 refine ao λM15 K15=>?_;obtain⟨xs1,a1,a2,a3⟩:=bd2.same aL;refine æ b32.hS rfl {{E,Ħ [ń r1],ĩ [Ω r1],1,λ_=>13},C1,B2,lc,xs1,r2,rfl,a1,a2,a3,cs32.co aL b32.hc,λt2 H33 s33 t20 et2=>?_};have b33:=b32.same s33;have z33:=zN s33 [S,lm,lc];have F33:=F32.same z33;have et:del [S,lm,lc] H33 t2=Xb (.tup [.int (c2D r1 r2),mZ (x2D r1 r2)]):=b32.dl t20 et2;refine æ b33.hS rfl (ì (À.of (aL _ _ F33.hn)) (fe E.N (i:=15) ∅) {_,fS.k (k:=.inr (E.N 15)) b33.hc (by rw[lcs];decide),?_});have Ŕ:sJ E (ţ r1 r2) (ex2 r1 r2) (del [S,lm,lc] H33) 2 (Xi cv1 (.inr (E.N 15)) (.ref t2)):=(cs32.same z33).put D ∅ et (λi h=>by
  have:i=0:=()
  subst this;exact⟨rfl,rfl⟩) ⟨rfl,rfl⟩
 have b34:=b33.atC (Xi cv1 (.inr (E.N 15)) (.ref t2));have z34:=b33.zC (.dK (Xi cv1 (.inr (E.N 15)) (.ref t2)));have F34:=F33.same z34;have ό:=bd32.same (z33.trans z34);have Ž:=bd2.same (z33.trans z34);have Ŕ:=Ŕ.same z34;generalize upd H33 lc (.dK (Xi cv1 (.inr (E.N 15)) (.ref t2)))=H34 at b34 F34 ό Ž Ŕ⊢;generalize Xi cv1 (.inr (E.N 15)) (.ref t2)=cv2 at b34 Ŕ;clear s33 z33 F33 et z34 b33 b32 F32 cs32 bd2 bd32 a1 a2 a3 t20 et2 lcs;refine K15 _ _ ?_;rfl'
 refine ao λM16 K16=>æ b34.hS rfl {_,fS.k (k:=.inr "row") b34.hS (show 9<sizeLine by decide),K16 _ _ ?_};rw[show Xi (à ln y2.row lm lo ċ ĉ ev lc ò) (.inr "row") (.int (y2.row+2))=à ln (y2.row+2) lm lo ċ ĉ ev lc ò from rfl];generalize hr2:y2.row+2=Ü;have b35:=b34.atS (à ln Ü lm lo ċ ĉ ev lc ò);have z35:=b34.zS (.dK (à ln Ü lm lo ċ ĉ ev lc ò));have F35:=F34.same z35;have ϋ:=ό.same z35;have ż:=Ž.same z35;have cs35:=Ŕ.same z35;generalize upd H34 S (.dK (à ln Ü lm lo ċ ĉ ev lc ò))=H35 at b35 F35 ϋ ż cs35⊢;clear b34 z35 F34 ό Ž Ŕ;rfl'
 refine ao λM17 K17=>ì (À.of (aL _ _ F35.hn)) (fe E.N (i:=13) ∅) {by show 2<=sizeLine;decide,λk2 hk2=>?_};obtain⟨s36,e36⟩:=Ò hk2 (HO.tup [V.str (E.N 13),.int 1]);generalize upd H35 k2 _=H36 at s36 e36⊢;refine ì (À.of (s36 _ _ (aL _ _ F35.hn))) (fe E.N (i:=15) ∅) {by show 2<=sizeLine;decide,λk3 hk3=>?_};obtain⟨Ů,e37⟩:=Ò hk3 (HO.tup [V.str (E.N 15),.int 2]);generalize upd H36 k3 _=H37 at Ů e37⊢;refine{by show 2<=sizeLine;decide,λČ hlk2=>?_};obtain⟨Ş,e38⟩:=Ò hlk2 (HO.lst [V.ref k2,.ref k3]);generalize upd H37 Č _=H38 at Ş e38⊢;have b38:=b35.same ((s36.trans Ů).trans Ş);refine{_,fS.k (k:=.inr "known") b38.hS (show 9<sizeLine by decide),K17 _ _ ?_};rw[show Xi (à ln Ü lm lo ċ ĉ ev lc ò) (.inr "known") (.ref Č)=à ln Ü lm lo Č ĉ ev lc ò from rfl];have b39:=b38.atS (à ln Ü lm lo Č ĉ ev lc ò);have zb:=b38.zS (.dK (à ln Ü lm lo Č ĉ ev lc ò));have z39:=(zN ((s36.trans Ů).trans Ş) [S,lm,lc]).trans zb;have F39:=F35.same z39;have ϊ:=ϋ.same z39;have Ż:=ż.same z39;have cs39:=cs35.same z39;have ek39:=zb _ _ ((b35.same (s36.trans Ů)).dl hlk2 e38);have eu39:=zb _ _ ((zN (Ů.trans Ş) [S,lm,lc]) _ _ (b35.dl hk2 e36));have ev39:=zb _ _ ((zN Ş [S,lm,lc]) _ _ ((b35.same s36).dl hk3 e37));generalize upd H38 S (.dK (à ln Ü lm lo Č ĉ ev lc ò))=H39 at b39 F39 ϊ Ż cs39 ek39 eu39 ev39⊢;clear b35 zb z39 F35 ϋ ż cs35 s36 Ů Ş e36 e37 e38 b38 hk2 hk3 hlk2;rfl'
 refine ao λM18 K18=>{_,fS.k (k:=.inr "things") b39.hS (show 9<sizeLine by decide),K18 _ _ ?_};rw[show Xi (à ln Ü lm lo Č ĉ ev lc ò) (.inr "things") (.ref û)=à ln Ü lm lo Č û ev lc ò from rfl];have b40:=b39.atS (à ln Ü lm lo Č û ev lc ò);have Ψ:=b39.zS (.dK (à ln Ü lm lo Č û ev lc ò));have F40:=F39.same Ψ;have ſ:=ϊ.same Ψ;have ź:=Ż.same Ψ;have cs40:=cs39.same Ψ;have ek40:=Ψ _ _ ek39;have eu40:=Ψ _ _ eu39;have ev40:=Ψ _ _ ev39;generalize upd H39 S (.dK (à ln Ü lm lo Č û ev lc ò))=H40 at b40 F40 ſ ź cs40 ek40 eu40 ev40⊢;clear b39 Ψ F39 ϊ Ż cs39 ek39 eu39 ev39;rfl'
 refine ao λM19 K19=>{by show 2<=sizeLine;decide,λĭ hlo2=>?_};obtain⟨s41,e41⟩:=Ò hlo2 (HO.lst [V.int 4,.int 3]);generalize upd H40 ĭ _=H41 at s41 e41⊢;have b41:=b40.same s41;refine{_,fS.k (k:=.inr "mosts") b41.hS (show 9<sizeLine by decide),K19 _ _ ?_};rw[show Xi (à ln Ü lm lo Č û ev lc ò) (.inr "mosts") (.ref ĭ)=à ln Ü lm ĭ Č û ev lc ò from rfl];have b42:=b41.atS (à ln Ü lm ĭ Č û ev lc ò);have zb:=b41.zS (.dK (à ln Ü lm ĭ Č û ev lc ò));have Χ:=(zN s41 [S,lm,lc]).trans zb;have F42:=F40.same Χ;have ž:=ſ.same Χ;have Ź:=ź.same Χ;have Ν:=cs40.same Χ;have ek42:=Χ _ _ ek40;have eu42:=Χ _ _ eu40;have ev42:=Χ _ _ ev40;have o42:=zb _ _ (b40.dl hlo2 e41);generalize upd H41 S (.dK (à ln Ü lm ĭ Č û ev lc ò))=H42 at b42 F42 ž Ź Ν ek42 eu42 ev42 o42⊢;clear b40 b41 zb Χ F40 ſ ź cs40 ek40 eu40 ev40 s41 e41 hlo2;rfl'
 refine ao λM20 K20=>{_,rfl,_,rfl,N6 {a,_,rfl,(F42.z.trans aL).seq hA,λp7 hp7=>?_}};obtain⟨s43,e43⟩:=Ò hp7 (HO.lst (kU (ns.map V.int) (Xb 9) (Xb 45)));generalize upd H42 p7 _=H43 at s43 e43⊢;refine{p7,_,rfl,À.of e43,λĵ Ϲ=>?_};rw[show(kU (ns.map V.int) (Xb 9) (Xb 45)).reverse=(fN ns 9 45).map V.int from Ah ns 9 45];obtain⟨s44,e44⟩:=Ò Ϲ (HO.lst ((fN ns 9 45).map V.int));generalize upd H43 ĵ _=H44 at s44 e44⊢;have l42:H42 ĵ=Xc:=aq.free s43 Ϲ;have b44:=b42.same (s43.trans s44);refine{_,fS.k (k:=.inr "cells") b44.hS (show 9<sizeLine by decide),K20 _ _ ?_};rw[show Xi (à ln Ü lm ĭ Č û ev lc ò) (.inr "cells") (.ref ĵ)=à ln Ü lm ĭ Č û ev lc ĵ from rfl];have b45:=b44.atS (à ln Ü lm ĭ Č û ev lc ĵ);have z45:=(zN (s43.trans s44) [S,lm,lc]).trans (b44.zS (.dK (à ln Ü lm ĭ Č û ev lc ĵ)));have Ű:S≠ĵ:=λz=>by have:=b44.hS;rw[z,e44]at this;cases this
 have ξ:lm≠ĵ:=(Xd Ϲ (s43 _ _ b42.hm)).symm;have e45:(upd H44 S (.dK (à ln Ü lm ĭ Č û ev lc ĵ))) ĵ=Xb (.lst ((fN ns 9 45).map V.int)):=aF Ű.symm e44;generalize upd H44 S (.dK (à ln Ü lm ĭ Č û ev lc ĵ))=H45 at b45 z45 e45⊢;clear s43 s44 e43 e44 hp7 Ϲ b44;rfl'
 have C2:pU E (ţ r1 r2) (ex2 r1 r2) 2:=co2 D (λy e=>xT (co0 D) y e) (λy e=>xT C1 y e);have O3:rq E {S,ln,lm,ĭ,Č,û,lc,ĵ,[4,3],2,[2,3,4,6,7,8],ev}:=Ã.la' b45.n1 Ű ξ ∅ ∅ ∅ ∅ ∅;have L3:dW E (ţ r1 r2) (ex2 r1 r2) H45 {S,ln,lm,ĭ,Č,û,lc,ĵ,[4,3],2,[2,3,4,6,7,8],ev} ⟨Ü,y2.marks,fN ns 9 45⟩:=ES (mb:=mb2) (kv2:=[.ref k2,.ref k3]) b45 z45 l42 e45 (ln:=ln) F42 o42 ek42 (.cons ⟨k2,rfl,eu42⟩ (.cons ⟨k3,rfl,ev42⟩ .nil)) F42.ht Ν;have mo01:∀i<2,0<=ţ r1 r2 i/\ţ r1 r2 i<=39:=λi h=>by
  have:i=0\/i=1:=()
  rcases this with rfl|rfl
  ·exact{ϡ,by show ń r1<=39;lia}
  exact⟨c20,c2⟩
 have w40:∀k,40<=wt3 k:=λk=>by unfold wt3;split;lia;split<;>lia
 have W3:Wts {S,ln,lm,ĭ,Č,û,lc,ĵ,[4,3],2,[2,3,4,6,7,8],ev} (ţ r1 r2) wt3:=⟨λk=>by have:=w40 k;lia,λi h=>{(mo01 i h).1,λk=>by have:=w40 k;have:=(mo01 i h).2;lia},λk m h=>by
  match k,h with
  |0,h=>cases h;exact{∅,∅}
  |1,h=>cases h;exact{∅,∅}
  |k+2,h=>cases h⟩
 have q3:=tM ns (i:=9) (j:=45) ∅;refine ao λM21 K21=>{⟨E,ţ r1 r2,ex2 r1 r2,2,wt3⟩,C2,{S,ln,lm,ĭ,Č,û,lc,ĵ,[4,3],2,[2,3,4,6,7,8],ev},⟨Ü,y2.marks,fN ns 9 45⟩,0,0,rfl,rfl,O3,L3,rfl,W3,(by show(fN ns 9 45).length<=100;lia),λB3 r3 y3 H46 g46 L46 bd3 n3 c3 m3=>?_};have m3:Ns 0 Ü r3 y3.row:=m3;obtain⟨b46,z46,w46⟩:=AM (y:=⟨Ü,y2.marks,fN ns 9 45⟩) b45 z45 l42 e45 g46 L46;have b46:Bk H46 S lm lc (à ln y3.row lm ĭ Č û ev lc ĵ) (ã E y3.marks) cv2:=b46;have z46:aq (del [S,lm,lc] H42) (del [S,lm,lc] H46):=z46;have bd3:cM E 2 4 H46 B3 r3:=(bd3.same w46).same aL;have n3:eV r3<=36:=by have n3:eV r3+y3.cells.length<=(fN ns 9 45).length:=n3;lia
 have c3:gg (ţ r1 r2) 4 r3<=17280:=by have c3:gg (ţ r1 r2) 4 r3+480*(y3.cells.length:Int)<=480*((fN ns 9 45).length:Int):=c3;lia
 have F46:=F42.same z46;have cs46:=Ν.same z46;have bd146:=(ž.same z46).same aL;have bd246:=(Ź.same z46).same aL;have t46:=F46.z.trans aL;have hn46:=aL _ _ F46.hn;clear L3 O3 W3 g46 L46 w46 b45 z45 e45 l42 b42 Ű ξ F42 o42 ek42 eu42 ev42 Ν ž Ź q3 z46;refine K21 _ _ ?_;rfl'
 refine{by show 3<=sizeLine;decide,λlb hlb=>?_};obtain⟨s47,e47⟩:=Ò hlb (HO.lst [V.ref B1,.ref B2,.ref B3]);generalize upd H46 lb _=H47 at s47 e47⊢;have b47:=b46.same s47;obtain⟨xs3,a1,a2,a3⟩:=bd3.same s47;refine æ b47.hS rfl {⟨E,ţ r1 r2,ex2 r1 r2,2,wt3⟩,C2,B3,lc,xs3,r3,rfl,a1,a2,a3,cs46.co (aL.trans s47) b47.hc,λtc H48 s48 tc0 etc=>{by show 4<=sizeLine;decide,λt ht=>?_}};have s49:=aq.upd ht (HO.tup [V.ref ln,.ref lb,(.int (Ý-1)),.ref tc]);have z:=(s47.trans s48).trans s49;exact q t ln lb B1 B2 B3 tc (Ý-1) r1 r2 r3 _ (t46.trans z) {av,z _ _ hn46,(s48.trans s49) _ _ e47,bd146.same z,bd246.same z,bd3.same z,n1,n2,n3,s49 _ _ etc,c3,y2.row,y3.row,by rw[show Ý-1-1=y1.row by lia];exact m1,by rw[show Ý-1+1=Ý by lia];exact m2,by rw[hr2];exact m3}
mutual
noncomputable def Rw.pt:Rw->Pt
 | .set n x v=>.leaf n (.set x v)
 | .put n x p v=>.leaf n (.put x p v)
 | .snd n h v=>.leaf n (.snd h v)
 | .say n x v m=>.leaf n (.say x v m)
 | .last n=>.leaf n .last
 | .call n i ts=>.leaf n (.call (â i) ts)
 | .iff n v f o l r=>.iff n v l r (Î f) (Î o)
 | .loop n t m b l r=>.loop n t m l r (Î b)
noncomputable def Î:List Rw->List Pt
 | []=>[]
 |r::rs=>r.pt::Î rs
end
theorem sT:∀rs,Î rs=rs.map Rw.pt
 | []=>by rw[Î];rfl
 |r::rs=>by rw[Î,sT rs];rfl
theorem mF{α β:Type}{F:α->β->Prop}{xs:List α}{ys:List β}(h:Paired F xs ys):Paired (λy x=>F x y) ys xs:=by
 induction h with
 |nil=>exact .nil
 |cons h _ ih=>exact .cons h ih
theorem B6{X:Hp}{a dx p:Q1}{n:Int}{l:Lr}(h:X a=Xb (.ins (ħ A l.ci) dx (("number",.int n)::l.fs N p)))(q:∀o,l.ob N=Xb o->X p=Xb o):aJ A N X (.ref a) (.leaf n l):=by
 unfold aJ;exact⟨a,dx,p,rfl,h,q⟩
theorem fi.pt{N:Nat->Str}{X:Hp}:∀(d:Nat)(v:V)(r:Rw),fi A N X d v r->aJ A N X v r.pt:=by
 have call:∀v n i ts,(∃a dx p,v=.ref a/\X a=Xb (.ins A.cB dx [("number",.int n),("name",.str (N (â i))),("things",.ref p)])/\X p=Xb (.lst (ts.map (Th.v N))))->aJ A N X v (.leaf n (.call (â i) ts)):=λv n i ts ⟨a,dx,p,e,h1,h2⟩=>by
  subst e;exact B6 h1 λo z=>by cases z;exact h2
 have one:∀{a dx p:Q1}{n:Int}{l:Lr}{vs:List V},X a=Xb (.ins (ħ A l.ci) dx (("number",.int n)::l.fs N p))->X p=Xb (.tup vs)->l.ob N=Xb (.tup vs)->aJ A N X (.ref a) (.leaf n l):=λh1 h2 h3=>B6 h1 λo z=>by rw[h3]at z;cases z;exact h2
 intro d;induction d with
 |zero=>
  intro v r h;cases r with
  |call n i ts=>exact call v n i ts h
  |iff=>exact(show False from h).elim
  |loop=>exact(show False from h).elim
  |last n=>obtain⟨a,dx,rfl,h1⟩:=h;exact B6 (p:=a) h1 λo z=>by cases z
  |_=>obtain⟨a,dx,p,rfl,h1,h2⟩:=h;exact one h1 h2 rfl
 |succ d ih=>
  intro v r h;have pl:∀{xs:List V}{rs:List Rw},Paired (fi A N X d) xs rs->bc A N X xs (Î rs):=λp=>by
   rw[sT];exact bc.of (eE _ (mF (Paired.eX p λ_ _ z=>ih _ _ z)))
  cases r with
  |call n i ts=>exact call v n i ts h
  |last n=>obtain⟨a,dx,rfl,h1⟩:=h;exact B6 (p:=a) h1 λo z=>by cases z
  |iff n vl f o l q=>
   obtain⟨a,dx,p,pf,po,xf,xo,e,h1,h2,h3,h4,h5,h6⟩:=h;rw[Rw.pt];unfold aJ;exact⟨a,dx,p,pf,po,xf,xo,e,h1,h2,h3,h4,pl h5,pl h6⟩
  |loop n t m b l q=>
   obtain⟨a,dx,pb,xb,e,h1,h2,h3⟩:=h;rw[Rw.pt];unfold aJ;exact⟨a,dx,pb,xb,e,h1,h2,pl h3⟩
  |_=>obtain⟨a,dx,p,rfl,h1,h2⟩:=h;exact one h1 h2 rfl
theorem B8{N:Nat->Str}{X:Hp}{d:Nat}{xs:List V}{rs:List Rw}(p:Paired (fi A N X d) xs rs):bc A N X xs (Î rs):=by
 rw[sT];exact bc.of (eE _ (mF (Paired.eX p λ_ _ z=>fi.pt d _ _ z)))
def mC(A:Ï)(E:En)(H:Hp)(d:Q1)(k:Int)(nm:Nat)(ps:List Nat)(rs:List Rw):Prop:=aJ A E.N H (.ref d) (.aX k nm ps (Î rs))
theorem mC.same{H H':Hp}(z:aq H H'){d:Q1}{k:Int}{nm:Nat}{ps:List Nat}{rs:List Rw}(h:mC A E H d k nm ps rs):mC A E H' d k nm ps rs:=aJ.same z _ _ h
theorem CT{H:Hp}{d dx pp pb:Q1}{ys:List V}{k:Int}{nm:Nat}{ps:List Nat}{rs:List Rw}(h1:H d=Xb (.ins A.cu dx [("number",.int k),("name",.str (E.N nm)),("parts",.ref pp),("body",.ref pb)]))(h2:H pp=Xb (.lst (ã E ps)))(h3:H pb=Xb (.lst ys))(p:Paired (fi A E.N H 4) ys rs):mC A E H d k nm ps rs:=by
 unfold mC aJ;exact⟨d,dx,pp,pb,ys,rfl,h1,h2,h3,B8 p⟩
def ä(n:Int)(r1 r2:List Rw):List Pt:=[.aX 14 13 [14] (Î r1),.aX n 15 [16,17] (Î r2)]
inductive uY(A:Ï)(vs:List V)(H:Hp)(Q:VK)(Ã:XK):Prop
 |mk(E:En)(t ln lb B1 B2 B3 tc:Q1)(n c:Int)(r1 r2 r3:List Rw):vs=[.ref t,.int c]->HD E H t ln lb B1 B2 B3 tc n r1 r2 r3->(∀(v:V)(H':Hp),aq H H'->jx A E.N H' v (fj c) (ä n r1 r2) (Î r3)->Q v H')->uY A vs H Q Ã
theorem Dw(T:Txt K mg A):T.mO.Hz P w base 10 (uY A):=by
 have QW:=ę.ex (P:=P) (w:=w) (base:=base) (sp:=λN:Nat->Str=>uf A N) (p:=λ_=>True) (Ţ 0) trivial λN _=>HL T;have M8:=ę.ex (P:=P) (w:=w) (base:=base) (sp:=λi:En×Nat=>qk A i.1 i.2 4) (p:=λ_=>True) (ix0.E,0) trivial λi _=>Eg T 4;refine T.mO.hs (k:=9) dS (λf Ä A' outer s H vs Q E' hr hu h=>?_);obtain⟨E,t,ln,lb,B1,B2,B3,tc,n,c,r1,r2,r3,rfl,R,q⟩:=h;refine⟨_,(af (cn (fv 0) (kg rfl (bB (Õ (i:=2) dS.nd rfl) (bB (Õ (i:=3) dS.nd rfl) (bB (Õ (i:=4) dS.nd rfl) (bB (Õ (i:=5) dS.nd rfl) gC))))))
 (af (Æ 6 dS.nd (aU ((bf (hj:=by lia) T.bh (jd T) hr (ah^px hu (fv 2) ah^aU (px hu (fv 2) ah^ae)^(aj (hj:=by lia) M8 hr (px hu (fv 3) ah^ae))^ae))^ae)))
 (af (aW (bu (fv 6) ((bf (hj:=by lia) T.bh (jd T) hr (fv 4^px hu (fv 2) ah^aU (px hu (fv 2) ah^px hu (fv 2) ah^ae)^(aj (hj:=by lia) M8 hr (px hu (fv 3) ah^ae))^ae))^ae)))
 (ai (aA (bf (hj:=by lia) T.bF (mU T) hr ((aj (hj:=by lia) QW hr (fv 2^fv 1^ae))^fv 6^(aj (hj:=by lia) M8 hr (px hu (fv 3) ah^ae))^ae))))))),?_⟩
 refine{t,_,rfl,É.of R.t,rfl,_,_,rfl,_,_,rfl,_,_,rfl,_,_,rfl,rfl,?_};rfl'
 refine ao λM1 K1=>ì (À.of R.ln) (fe E.N (i:=13) ∅) (ì (À.of R.ln) (fe E.N (i:=14) ∅) {by show 1<=sizeLine;decide,λp1 hp1=>?_});obtain⟨s1,e1⟩:=Ò hp1 (HO.lst [V.str (E.N 14)]);generalize upd H p1 _=H1 at s1 e1⊢;refine ì (À.of (s1 _ _ R.lb)) rfl {(E,0),trivial,B1,r1,H1,rfl,aq.refl _,R.b1.same s1,(by have:=R.l1;have:=dw r1;lia),λR1 Ϧ H2 s2 hR1 eR1 p2 ra dx3 hr3 hd_ hne_=>{_,_,_,_,_,_,_,_,_,rfl,rfl,hr3,hd_,(À.of (s2 _ _ e1)),(À.of eR1),λn1 n2 H3 f1 f2 s3 h1 h2 hx3=>{rfl,?_}}};have q3:Paired (fi A E.N H3 4) Ϧ r1:=Paired.eX p2 λ_ _=>fi.same ((aL.trans é.same).trans s3);have d3:mC A E H3 ra 14 13 [14] r1:=CT hx3 h1 h2 q3;refine{by show 1<=sizeLine;decide,λL hL=>?_};have s4:=aq.upd hL (HO.lst [V.ref ra]);have e4:(upd H3 L (HO.lst [V.ref ra])) L=Xb (.lst [.ref ra]):=av;have d4:mC A E (del [L] (upd H3 L (HO.lst [V.ref ra]))) ra 14 13 [14] r1:=d3.same λx o e=>bx (λm=>by rw[N4.mp m,hL]at e;cases e) (s4 _ _ e);generalize upd H3 L (HO.lst [V.ref ra])=H4 at s4 e4 d4⊢;have t3:=(s1.trans s2).trans s3;have L0:H L=Xc:=aq.free t3 hL;have t4:=t3.trans s4;clear s1 s2 s3 s4 e1 p2 hR1 eR1 hx3 h1 h2 q3 d3 hr3 f1 f2 hL hp1 t3;refine K1 _ _ ?_;rfl'
 refine ao λM2 K2=>{N6 {rfl,_,À.of e4},(ì (À.of (t4 _ _ R.ln)) (fe E.N (i:=15) ∅) (ì (À.of (t4 _ _ R.ln)) (fe E.N (i:=16) ∅) (ì (À.of (t4 _ _ R.ln)) (fe E.N (i:=17) ∅) {by show 2<=sizeLine;decide,λp5 hp5=>?_})))};obtain⟨s5,e5⟩:=Ò hp5 (HO.lst [V.str (E.N 16),.str (E.N 17)]);generalize upd H4 p5 _=H5 at s5 e5⊢;have t5:=t4.trans s5;refine ì (À.of (t5 _ _ R.lb)) rfl {(E,1),trivial,B2,r2,H,rfl,t5,R.b2,(by have:=R.l2;have:=dw r2;lia),λR2 ys2 H6 s6 υ Ļ p6 r7 dx7 hr7 hd_ hne_=>{_,_,_,_,_,_,_,_,_,rfl,rfl,hr7,hd_,(À.of (s6 _ _ e5)),(À.of Ļ),λn1 n2 H7 f1 f2 s7 h1 h2 hx7=>{rfl,?_}}};have L6:H6 L=Xb (.lst [.ref ra]):=(s5.trans s6) _ _ e4;have L7:=s7 _ _ L6;have nL:∀{x:Q1},H6 x=Xc->x≠L:=λh=>Xd h L6;have d8:mC A E (del [L] (upd H7 L (.lst [.ref ra,.ref r7]))) r7 n 15 [16,17] r2:=by
  have z:aq (del [R2] (é H H5 H6)) (del [L] (upd H7 L (.lst [.ref ra,.ref r7]))):=λx o e=>by
   obtain⟨_,e1⟩:=eY e;obtain⟨e2,e3⟩:=é.get e1;have xL:x≠L:=λz=>by
    rw[z]at e2;rcases e2 with e2|e2
    ·exact e2 L0
    rw[s5 _ _ e4]at e2;cases e2
   exact bx (λm=>xL (N4.mp m)) (aF xL (s7 _ _ e3))
  have k:∀{x:Q1}{o:HO},H6 x=Xc->H7 x=Xb o->del [L] (upd H7 L (.lst [.ref ra,.ref r7])) x=Xb o:=λh e=>bx (λm=>nL h (N4.mp m)) (aF (nL h) e);exact CT (k hr7 hx7) (k f1 h1) (k f2 h2) (Paired.eX p6 λ_ _=>fi.same z)
 have z8:aq (del [L] H4) (del [L] (upd H7 L (.lst [.ref ra,.ref r7]))):=λx o e=>by
  obtain⟨e1,e2⟩:=eY e;have xL:x≠L:=λz=>e1 (by rw[z];simp);exact bx e1 (aF xL (((s5.trans s6).trans s7) _ _ e2))
 refine{_,_,_,rfl,rfl,L7,aH (show 1<=1000 by decide),K2 _ _ ?_};have e8:(upd H7 L (.lst [.ref ra,.ref r7])) L=Xb (.lst [.ref ra,.ref r7]):=av;have t8:aq H (upd H7 L (.lst [.ref ra,.ref r7])):=aq.out (t5.trans (s6.trans s7)) L0 _;have d18:=(d4.same z8).same aL;have d28:=d8.same aL;have e9:upd H7 L (.lst ([.ref ra]++[.ref r7]))=upd H7 L (.lst [.ref ra,.ref r7]):=rfl;rw[e9];generalize upd H7 L (.lst [.ref ra,.ref r7])=H8 at e8 t8 d18 d28⊢;clear e9 d4 d8 z8 nL L6 L7 s5 s6 s7 e5 p6 υ Ļ hx7 h1 h2 hr7 f1 f2 hp5 t5 e4 t4;rfl'
 refine{E.N,trivial,ln,c,rfl,t8 _ _ R.ln,λhl hv H9 s9 _ ehl ph=>?_};have t9:=t8.trans s9;refine ì (À.of (t9 _ _ R.lb)) rfl {(E,2),trivial,B3,r3,H9,rfl,aq.refl _,R.b3.same t9,(by have:=R.l3;have:=dw r3;lia),λR3 ys3 Ś ě hR3 eR3 p10 rp dxp hrp hd_ hne_=>{_,_,_,_,_,_,_,_,_,rfl,rfl,hrp,hd_,(À.of (ě _ _ ehl)),(À.of ((s9.trans ě) _ _ e8)),(À.of eR3),λn1 n2 n3 Φ f1 f2 f3 ş h1 h2 h3 hxp=>{rfl,?_}}};have s9':=s9.trans (ě.trans ş);refine q (.ref rp) Φ (t9.trans (ě.trans ş)) {rp,dxp,n1,n2,n3,_,_,_,rfl,hxp,h1,h2,h3,bc.of (mF (Paired.eX ph λ_ _=>aJ.same (ě.trans ş) _ _)),?_,B8 (Paired.eX p10 λ_ _=>fi.same ((aL.trans é.same).trans ş))};exact bc.of (.cons (d18.same s9') (.cons (d28.same s9') .nil))
end
section
variable{P:Program}{w:Rh}{K:Q6}{mg:Str->Option Q0}{base:Rp}{A:Ï}{N:Nat->Str}
seal PE PA PS ď PT PW
def waP(kn:Nat->Int):Pt->Int×Int
 | .iff _ _ _ _ f o=>(aR kn f,aR kn o)
 | .loop _ _ _ _ _ b=>(aR kn b,0)
 |_=>(0,0)
inductive tU(A:Ï)(d:Nat)(vs:List V)(H:Hp)(Q:VK)(Ã:XK):Prop
 |mk(N:Nat->Str)(X:Hp)(v:V)(D:Q1)(t:Pt)(idx:List Nat)(kn:Nat->Int):vs=[v,.ref D]->aq X H->aJ A N X v t->dep t<=d->ß idx t->Ċ t->(lj N H D idx λi=>.int (kn i))->t.ci=11\/t.ci=12->(∀(a:Q1)(H':Hp),aq H H'->H' a=Xb (.tup [.int (waP kn t).1,.int (waP kn t).2])->Q (.ref a) H')->tU A d vs H Q Ã
theorem CK(T:Txt K mg A)(d j:Nat)(QJ:T.kS.Hz P w base j (ε (jc A) d)):T.qh.Hz P w base (j+1) (tU A d):=by
 refine T.qh.hs (k:=j) yu (λf Ä A' outer s H vs Q E' hr hu h=>?_);obtain⟨N,X,v,D,t,idx,kn,rfl,s0,pa,dp,ck,lo,hD,hc,q⟩:=h;refine⟨_,(af (aN (aZ (Ó aK T.az (fv 0^aS T.aQ.mg^ae)) (λ_=>rfl))
   (ai (aA (bE ((aj (hj:=by lia) QJ hr (aw (fv 0) rfl^fv 1^ae))^(aj (hj:=by lia) QJ hr (aw (fv 0) rfl^fv 1^ae))^ae))))
   aG)
  (ai (aA (bE ((aj (hj:=by lia) QJ hr (aw (fv 0) rfl^fv 1^ae))^ah^ae))))),?_⟩
 refine ao λM1 K1=>?_;cases t with
 |leaf n r=>exact absurd hc (by cases r<;>simp[Pt.ci,Lr.ci])
 |aX _ _ _ _=>exact absurd hc (by simp[Pt.ci])
 |iff n val l r fs os=>
  refine dA T s0 pa (j:=11) rfl (bp ?_);unfold aJ at pa;obtain⟨a,dx,p,pf,po,xf,xo,rfl,h1,h2,h3,h4,h5,h6⟩:=pa;unfold dep at dp;unfold ß at ck;unfold Ċ at lo;cases d with
  |zero=>lia
  |succ d=>
  refine Å (s0 _ _ h1) T.aQ.cl T.cz rfl {N,X,pf,D,xf,fs,idx,kn,rfl,s0,h3,h5,(),ck.1,lo.1,lo.2.2.1,hD,λH1 s1=>?_};have sX:=s0.trans s1;exact Å (sX _ _ h1) T.aQ.cl T.cA rfl {N,X,po,D,xo,os,idx,kn,rfl,sX,h4,h6,(),ck.2,lo.2.1,lo.2.2.2,hD.same s1,λH2 s2=>{by show 2<=sizeLine;decide,λt ht=>q t _ ((s1.trans s2).trans (aq.upd ht _)) av}}
 |loop n th m l r b=>
  refine bN T s0 pa (j:=11) (by simp[Pt.ci]) (aT (K1 _ _ ?_));clear K1 M1;unfold aJ at pa;obtain⟨a,dx,pb,xb,rfl,h1,h2,h3⟩:=pa;unfold dep at dp;unfold ß at ck;unfold Ċ at lo;cases d with
  |zero=>lia
  |succ d=>
  exact Å (s0 _ _ h1) T.aI.cl T.b5 rfl {N,X,pb,D,xb,b,idx,kn,rfl,s0,h2,h3,(),ck.2.2,lo.1,lo.2,hD,λH1 s1=>{by show 2<=sizeLine;decide,λt ht=>q t _ (s1.trans (aq.upd ht _)) av}}
theorem BK(T:Txt K mg A)(d j:Nat)(QY:T.qh.Hz P w base j (tU A d)):T.kS.Hz P w base (j+1) (jc A d):=by
 refine T.kS.hs (k:=j) cP (λf Ä A' outer s H vs Q E' hr hu h=>?_);obtain⟨N,X,L,D,xs,ts,idx,kn,rfl,s0,hL,pt,dp,ck,ln,lo,hD,q⟩:=h;refine⟨_,(af (Æ 2 cP.nd ah)
  (af (b6 Rg rfl (br (fv 0)) (Õ (i:=3) cP.nd rfl)
   (af (Æ 2 cP.nd (ax aO (fv 2) ah))
   (af (aN (aZ (Ó aK T.az (fv 3^aS T.bD.mg^ae)) (λ_=>rfl))
    (ai (Æ 2 cP.nd (ax aO (fv 2) (px hu (fv 1) (aw (fv 3) rfl)))))
    aG)
   (ai (aN (PW.pt (pw_or (aZ (Ó aK T.az (fv 3^aS T.aQ.mg^ae)) (λ_=>rfl)) (pw_or1 (aZ (Ó aK T.az (fv 3^aS T.aI.mg^ae)) (λ_=>rfl)))))
    (af (cn (aj (hj:=by lia) QY hr (fv 3^fv 1^ae)) (kg rfl (bB (Õ (i:=4) cP.nd rfl) (bB (Õ (i:=5) cP.nd rfl) gC))))
    (af (Æ 6 cP.nd (qE (aZ (Ó aK T.az (fv 3^aS T.aI.mg^ae)) (λ_=>rfl)) (aw (fv 3) rfl) ah))
    (ai (Æ 2 cP.nd (ax aO (fv 2) (ax j5 (fv 6) (Ó uL T.oT (ax aO (fv 4) (aw (fv 3) rfl)^ax aO (fv 5) (aw (fv 3) rfl)^ae))))))))
    aG)))))
  (ai (aA (fv 2))))),?_⟩
 refine N6 {{_,À.of (s0 _ _ hL)},bP (K:=K) (xs:=xs) (λi B Hc=>aq H Hc/\∃v3 v4 v5 v6:Option V,B=[Xb (.ref L),Xb (.ref D),Xb (.int ((ts.map (á kn)).take i).sum),v3,v4,v5,v6]) {aq.refl _,Xc,Xc,Xc,Xc,rfl} (λi B Hc _ h=>À.of ((s0.trans h.1) _ _ hL)) ?_ ?_}
 ·rintro i v B Hc hv ⟨sc,v3,v4,v5,v6,rfl⟩;obtain⟨t,ht,pa⟩:=pt.get hv;have mt:t∈ts:=Oe ht;have sX:=s0.trans sc;have hm:(ts.map (á kn))[i]?=Xb (á kn t):=by rw[Oi,ht];rfl
  have es:((ts.map (á kn)).take (i+1)).sum=((ts.map (á kn)).take i).sum+á kn t:=by rw[Xk hm,Qx];simp
  rw[es];generalize ((ts.map (á kn)).take i).sum=S;have fin:∀(z:Int)(He:Hp)(w4 w5 w6:Option V),aq Hc He->z=S+á kn t->(aq H He/\∃v3 v4 v5 v6:Option V,[Xb (V.ref L),Xb (.ref D),Xb (.int z),Xb v,w4,w5,w6]=[Xb (.ref L),Xb (.ref D),Xb (.int (S+á kn t)),v3,v4,v5,v6]):=λz He w4 w5 w6 se e=>{sc.trans se,Xb v,w4,w5,w6,by subst e;rfl};have ckt:=mY ck mt;have lot:=qc lo mt;have dpt:=Ol (jb mt) dp;have hD1:=hD.same sc;clear es hm hv ht q hL pt ln lo ck dp;rfl'
  refine ao λM1 K1=>K1 _ _ ?_;clear K1 M1;rfl'
  refine ao λM1 K1=>?_;by_cases c9:t.ci=9
  ·refine dA T sX pa c9 (bp ?_);cases t with
   |leaf n r=>
    cases r with
    |call ci ts'=>
     have ā:=pa;unfold aJ at ā;obtain⟨a,dx,p,rfl,h1,_⟩:=ā;unfold ß at ckt;obtain⟨kvs,e1,e2⟩:=hD1;exact Å (sX _ _ h1) T.bD.cl T.cE rfl (æ e1 (e2 ci ckt) (K1 _ _ (bN T sX pa (j:=11) (by simp[Pt.ci,Lr.ci]) (aT (bN T sX pa (j:=12) (by simp[Pt.ci,Lr.ci]) (aT (fin _ _ _ _ _ (aq.refl _) (by unfold á;lia))))))))
    |_=>cases c9
   |_=>cases c9
  refine bN T sX pa c9 (aT (K1 _ _ ?_));clear K1 M1;by_cases è:t.ci=11
  ·refine dA T sX pa è (bp (bp (ao λM1 K1=>{N,X,v,D,t,idx,kn,rfl,sX,pa,dpt,ckt,lot,hD1,.inl è,λu H1 s1 eu=>{u,_,rfl,É.of eu,rfl,_,_,rfl,_,_,rfl,rfl,K1 _ _ ?_}})));clear K1 M1;have s2:=sX.trans s1;rfl'
   refine ao λM1 K1=>bN T s2 pa (j:=12) () (aT (K1 _ _ ?_));clear K1 M1;cases t with
   |leaf n r=>cases r<;>cases è
   |loop _ _ _ _ _ _=>cases è
   |aX _ _ _ _=>cases è
   |iff n val l r fs os=>
   unfold aJ at pa;obtain⟨a,dx,p,pf,po,xf,xo,rfl,h1,h2,h3,h4,h5,h6⟩:=pa;refine Å (s2 _ _ h1) T.aQ.cl T.dg rfl (Å (s2 _ _ h1) T.aQ.cl T.dC rfl {_,_,rfl,{oj () (),fin _ _ _ _ _ s1 ?_}});unfold á;show S+1+1*mx (aR kn fs+l) (aR kn os+r)=S+(1+mx (l+aR kn fs) (r+aR kn os));rw[Qz l,Qz r];lia
  refine bN T sX pa è (aT ?_);by_cases ê:t.ci=12
  ·refine dA T sX pa ê (bp (ao λM1 K1=>{N,X,v,D,t,idx,kn,rfl,sX,pa,dpt,ckt,lot,hD1,.inr ê,λu H1 s1 eu=>{u,_,rfl,É.of eu,rfl,_,_,rfl,_,_,rfl,rfl,K1 _ _ ?_}}));clear K1 M1;have s2:=sX.trans s1;rfl'
   refine ao λM1 K1=>?_;cases t with
   |leaf n r=>cases r<;>cases ê
   |iff _ _ _ _ _ _=>cases ê
   |aX _ _ _ _=>cases ê
   |loop n th m l r b=>
   refine dA T s2 pa (j:=12) rfl (bp ?_);unfold aJ at pa;obtain⟨a,dx,pb,xb,rfl,h1,h2,h3⟩:=pa;refine Å (s2 _ _ h1) T.aI.cl T.dX rfl (K1 _ _ ?_);clear K1 M1;unfold ß at ckt;refine Å (s2 _ _ h1) T.aI.cl T.cV rfl (Å (s2 _ _ h1) T.aI.cl T.cf rfl {_,_,rfl,{oj () (),fin _ _ _ _ _ s1 ?_}});unfold á;show S+1+m*mx (aR kn b+l) (0+r)=S+(1+m*mx (l+aR kn b) r);rw[Qz l,P4];lia
  refine bN T sX pa ê (aT (fin _ _ _ _ _ (aq.refl _) ?_));have e:á kn t=1:=by
   cases t with
   |leaf n r=>
    cases r with
    |call i ts=>exact absurd rfl c9
    |_=>simp[á]
   |iff _ _ _ _ _ _=>exact absurd rfl è
   |loop _ _ _ _ _ _=>exact absurd rfl ê
   |aX _ _ _ _=>rw[á]
  lia
 rintro B Hc ⟨sc,v3,v4,v5,v6,rfl⟩;have e:((ts.map (á kn)).take xs.length).sum=aR kn ts:=by rw[va,pt.len,<-N3 (f:=á kn),Ov]
 rw[e];exact q _ sc
theorem Fm(T:Txt K mg A):∀d,T.kS.Hz P w base (2*d+3) (jc A d)
 |0=>BK T 0 2 (CK T 0 1 (T.kS.hs (k:=0) cP (λ_ _ _ _ _ _ _ _ _ _ _ h=>h.elim) (λ_ _ _ _ h=>h.elim)))
 |d+1=>BK T (d+1) (2*d+4) (CK T (d+1) (2*d+3) (Fm T d))
theorem HW(T:Txt K mg A)(d:Nat):T.qJ.Hz P w base (2*d+4) (uu A d):=by
 refine T.qJ.hs (k:=2*d+3) lM (λf Ä A' outer s H vs Q E' hr hu h=>?_);obtain⟨N,X,v,hs,ds,ms,rfl,s0,⟨a,dx,n0,n1,n2,x0,x1,x2,rfl,ha,e0,e1,e2,p0,p1,p2⟩,O,lo,q⟩:=h;refine⟨_,(af (Æ 1 lM.nd (qw))
  (af (b6 Rg rfl (br (aw (fv 0) rfl)) (Õ (i:=2) lM.nd rfl)
   (ai (cn (aj (hj:=by lia) (Fm T d) hr (aw (fv 2) rfl^fv 1^ae)) (cH (fv 1) (aw (fv 2) rfl) (cI hu Xe)))))
  (ai (aA (fv 1))))),?_⟩
 refine ao λM1 K1 D hD=>?_;obtain⟨s1,eD⟩:=Ò hD (HO.dK []);generalize upd H D _=H1 at s1 eD⊢;refine K1 _ _ ?_;clear K1 M1;rfl'
 refine ao λM1 K1=>Å ((s0.trans s1) _ _ ha) T.bF.cl T.bw rfl (N6 {{_,À.of ((s0.trans s1) _ _ e1)},bP (K:=K) (xs:=x1) (λi B Hc=>∃(v2:Option V)(kvs:List (Key×V)),B=[Xb (.ref a),Xb (.ref D),v2]/\aq H Hc/\Hc D=Xb (.dK kvs)/\kvs.length<=i/\∀k∈(ds.take i).map ç,L2.cK kvs (.inr (N k))=Xb (.int (È aR 0 (ds.take i) k))) {Xc,[],rfl,s1,eD,Oc _,by simp} (λi B Hc _ ⟨_,_,_,z,_⟩=>À.of ((s0.trans z) _ _ e1)) ?_ ?_})
 ·rintro i v B Hc hv ⟨v2,kvs,rfl,sc,ŋ,kl,hk⟩;obtain⟨t,ht,pa⟩:=p1.get hv;have mt:t∈ds:=Oe ht;have il:i<ds.length:=(Ot.mp ht).1;have dt:=O.aX t mt;have st:=xM aR 0 V.int O ht hk;have ln:=O.ln;cases t with
  |aX n i' ps b=>
   have ā:=pa;unfold aJ at ā;obtain⟨a',Ϟ,pp,pb,xb,rfl,h1,h2,h3,h4⟩:=ā;have sX:=s0.trans sc;refine Å (sX _ _ h1) T.bh.cl T.cD rfl {N,X,pb,D,xb,b,(ds.take i).map ç,È aR 0 (ds.take i),rfl,sX,h3,h4,O.dp _ mt,O.ck i _ ht,(lo _ mt).1,(lo _ mt).2,⟨kvs,ŋ,hk⟩,λHe se=>Å ((sX.trans se) _ _ h1) T.bh.cl T.bR rfl {_,fS.k (k:=.inr (N i')) (se _ _ ŋ) (aH ()),{_,_,rfl,aq.out (sc.trans se) hD _,av,?_,st}}};have:(Xi kvs (.inr (N i')) (.int (aR (È aR 0 (ds.take i)) b))).length<=kvs.length+1:=uD _ _ _;lia
  |_=>exact dt.elim
 rintro B Hc ⟨v2,kvs,rfl,sc,ŋ,kl,hk⟩;rw[show ds.take x1.length=ds by rw[p1.len];exact Ov]at hk;exact K1 _ _ (q D Hc sc hD ⟨kvs,ŋ,hk⟩)
mutual
noncomputable def ė:Pt->List Pt
 | .iff n v l r f o=>.iff n v l r f o::(cq f++cq o)
 | .loop n t m l r b=>.loop n t m l r b::cq b
 |_=>[]
noncomputable def cq:List Pt->List Pt
 | []=>[]
 |t::ts=>ė t++cq ts
end
theorem tT:∀as bs:List Pt,cq (as++bs)=cq as++cq bs
 | [],bs=>by rw[O6,cq];rfl
 |t::as,bs=>by rw[Qe,cq,cq,tT as bs,OV]
theorem wL{ts:List Pt}{i:Nat}{t:Pt}(h:ts[i]?=Xb t):cq (ts.take (i+1))=cq (ts.take i)++ė t:=by
 rw[Xk h,tT,cq,cq,OF]
theorem D3{ts:List Pt}{i:Nat}{t:Pt}(h:ts[i]?=Xb t):(cq (ts.take i)).length+(ė t).length<=(cq ts).length:=by
 rw[<-N7,<-wL h];have:=congrArg (λl=>(cq l).length) (OZ (i+1) ts);rw[tT,N7]at this;lia
inductive ow(A:Ï)(d:Nat)(vs:List V)(H:Hp)(Q:VK)(Ã:XK):Prop
 |mk(N:Nat->Str)(X:Hp)(L:Q1)(xs:List V)(ts:List Pt):vs=[.ref L]->aq X H->X L=Xb (.lst xs)->bc A N X xs ts->gw ts<=d->(cq ts).length<=900->(∀(R:Q1)(ys:List V)(H':Hp),aq H H'->H R=Xc->H' R=Xb (.lst ys)->Paired (λt y=>aJ A N X y t) (cq ts) ys->Q (.ref R) H')->ow A d vs H Q Ã
theorem wH(T:Txt K mg A)(d j:Nat)(QG:T.gx.Hz P w base j (ε (ow A) d)):T.gx.Hz P w base (j+1) (ow A d):=by
 refine T.gx.hs (k:=j) eP (λf Ä A' outer s H vs Q E' hr hu h=>?_);obtain⟨N,X,L,xs,ts,rfl,s0,hL,pt,dp,ln,q⟩:=h;refine⟨_,(af (Æ 1 eP.nd (aU ae))
  (af (b6 Rg rfl (br (fv 0)) (Õ (i:=2) eP.nd rfl)
   (ai (aN (aZ (Ó aK T.az (fv 2^aS T.aQ.mg^ae)) (λ_=>rfl))
    (ai (Æ 1 eP.nd (ax aO (ax aO (ax aO (fv 1) (aU (fv 2^ae))) (aj (hj:=by lia) QG hr (aw (fv 2) rfl^ae))) (aj (hj:=by lia) QG hr (aw (fv 2) rfl^ae)))))
    (ai (aN (aZ (Ó aK T.az (fv 2^aS T.aI.mg^ae)) (λ_=>rfl))
     (ai (Æ 1 eP.nd (ax aO (ax aO (fv 1) (aU (fv 2^ae))) (aj (hj:=by lia) QG hr (aw (fv 2) rfl^ae)))))
     aG)))))
  (ai (aA (fv 1))))),?_⟩
 refine ao λM1 K1=>{Oj _,λR hR=>?_};obtain⟨s1,eR⟩:=Ò hR (HO.lst []);generalize upd H R _=H1 at s1 eR⊢;refine K1 _ _ ?_;clear K1 M1;rfl'
 refine ao λM1 K1=>N6 {{_,À.of ((s0.trans s1) _ _ hL)},bP (K:=K) (xs:=xs) (λi B Hc=>∃(F:Q1)(ys:List V)(v2:Option V),B=[Xb (.ref L),Xb (.ref F),v2]/\aq H Hc/\H F=Xc/\Hc F=Xb (.lst ys)/\Paired (λt y=>aJ A N X y t) (cq (ts.take i)) ys) {R,[],Xc,rfl,s1,hR,eR,by rw[P5,cq];exact .nil} (λi B Hc _ ⟨_,_,_,_,z,_⟩=>À.of ((s0.trans z) _ _ hL)) ?_ ?_}
 ·rintro i v B Hc hv ⟨F,ys,v2,rfl,sc,hF,eF,py⟩;obtain⟨t,ht,pa⟩:=pt.get hv;have sX:=s0.trans sc;have mt:t∈ts:=Oe ht;have dpt:=Ol (jb mt) dp;have ly:=Q7 py;have lt:=D3 ht;rw[wL ht];clear hv ht mt hL eR q dp K1;have no:ė t=[]->∃(G:Q1)(ys:List V)(v2':Option V),[Xb (V.ref L),Xb (.ref F),Xb v]=[Xb (V.ref L),Xb (.ref G),v2']/\aq H Hc/\H G=Xc/\Hc G=Xb (.lst ys)/\Paired (λt y=>aJ A N X y t) (cq (ts.take i)++ė t) ys:=λe=>{F,ys,_,rfl,sc,hF,eF,by rw[e,OF];exact py};cases t with
  |leaf n r=>
   exact bN T sX pa (j:=11) (by cases r<;>simp[Pt.ci,Lr.ci]) (aT (bN T sX pa (j:=12) (by cases r<;>simp[Pt.ci,Lr.ci]) (aT (no rfl))))
  |aX n i' ps b=>
   exact bN T sX pa (j:=11) (by simp[Pt.ci]) (aT (bN T sX pa (j:=12) (by simp[Pt.ci]) (aT (no rfl))))
  |iff n val l r fs os=>
   refine dA T sX pa (j:=11) rfl (bp {by show 1<=sizeLine;decide,λL1 Δ=>?_});obtain⟨s2,e2⟩:=Ò Δ (HO.lst [v]);generalize upd Hc L1 _=H2 at s2 e2⊢;refine{F,L1,_,_,rfl,rfl,s2 _ _ eF,e2,sz (by simp;lia),λL2 Ϝ=>?_};obtain⟨s3,e3⟩:=Ò Ϝ (HO.lst (ys++[v]));generalize upd H2 L2 _=H3 at s3 e3⊢;have t3:=s2.trans s3;have h0:Hc L2=Xc:=aq.free s2 Ϝ;clear e2 Δ eF;have ā:=pa;unfold aJ at pa;unfold dep at dpt;obtain⟨a,dx,p,pf,po,xf,xo,rfl,h1,h2,h3,h4,h5,h6⟩:=pa;have eb:ė (.iff n val l r fs os)=.iff n val l r fs os::(cq fs++cq os):=by rw[ė]
   rw[eb]at lt⊢;rw[OE,N7]at lt;cases d with
   |zero=>lia
   |succ d=>
   refine Å ((sX.trans t3) _ _ h1) T.aQ.cl T.cz rfl {N,X,pf,xf,fs,rfl,sX.trans t3,h3,h5,(),(),λR4 y4 H4 s4 n4 e4 p4=>?_};have l4:=Q7 p4;refine{L2,R4,_,_,rfl,rfl,s4 _ _ e3,e4,sz (by simp;lia),λL5 ũ=>?_};obtain⟨s5,e5⟩:=Ò ũ (HO.lst (ys++[V.ref a]++y4));generalize upd H4 L5 _=H5 at s5 e5⊢;have t5:=(t3.trans s4).trans s5;have h5':Hc L5=Xc:=aq.free (t3.trans s4) ũ;clear e3 e4 ũ;refine Å ((sX.trans t5) _ _ h1) T.aQ.cl T.cA rfl {N,X,po,xo,os,rfl,sX.trans t5,h4,h6,(),(),λR6 y6 H6 s6 n6 e6 p6=>?_};have l6:=Q7 p6;refine{L5,R6,_,_,rfl,rfl,s6 _ _ e5,e6,sz (by simp;lia),λL7 hL7=>{L7,_,_,rfl,(sc.trans (t5.trans s6)).trans (aq.upd hL7 _),aq.free (sc.trans (t5.trans s6)) hL7,av,?_}};have fin:=Paired.two py (.cons ā (Paired.two p4 p6));rw[OV,OV];exact fin
  |loop n th m l r b=>
   refine bN T sX pa (j:=11) (by simp[Pt.ci]) (aT (dA T sX pa (j:=12) rfl (bp {by show 1<=sizeLine;decide,λL1 Δ=>?_})));obtain⟨s2,e2⟩:=Ò Δ (HO.lst [v]);generalize upd Hc L1 _=H2 at s2 e2⊢;refine{F,L1,_,_,rfl,rfl,s2 _ _ eF,e2,sz (by simp;lia),λL2 Ϝ=>?_};obtain⟨s3,e3⟩:=Ò Ϝ (HO.lst (ys++[v]));generalize upd H2 L2 _=H3 at s3 e3⊢;have t3:=s2.trans s3;have h0:Hc L2=Xc:=aq.free s2 Ϝ;clear e2 Δ eF;have ā:=pa;unfold aJ at pa;unfold dep at dpt;obtain⟨a,dx,pb,xb,rfl,h1,h2,h3⟩:=pa;have eb:ė (.loop n th m l r b)=.loop n th m l r b::cq b:=by rw[ė]
   rw[eb]at lt⊢;rw[OE]at lt;cases d with
   |zero=>lia
   |succ d=>
   refine Å ((sX.trans t3) _ _ h1) T.aI.cl T.b5 rfl {N,X,pb,xb,b,rfl,sX.trans t3,h2,h3,(),(),λR4 y4 H4 s4 n4 e4 p4=>?_};have l4:=Q7 p4;refine{L2,R4,_,_,rfl,rfl,s4 _ _ e3,e4,sz (by simp;lia),λL5 ũ=>{L5,_,_,rfl,(sc.trans (t3.trans s4)).trans (aq.upd ũ _),aq.free (sc.trans (t3.trans s4)) ũ,av,?_}};have fin:=Paired.two py (.cons ā p4);rw[OV];exact fin
 rintro B Hc ⟨F,ys,v2,rfl,sc,hF,eF,py⟩;rw[show ts.take xs.length=ts by rw[pt.len];exact Ov]at py;exact K1 _ _ (q F ys Hc sc hF eF py)
theorem tZ(T:Txt K mg A):∀d,T.gx.Hz P w base (d+2) (ow A d)
 |0=>wH T 0 1 (T.gx.hs (k:=0) eP (λ_ _ _ _ _ _ _ _ _ _ _ h=>h.elim) (λ_ _ _ _ h=>h.elim))
 |d+1=>wH T (d+1) (d+2) (tZ T d)
def gP(ds:List Pt):List Pt:=ds.flatMap λt=>cq (b7 t)
inductive CU(A:Ï)(d:Nat)(vs:List V)(H:Hp)(Q:VK)(Ã:XK):Prop
 |mk(N:Nat->Str)(X:Hp)(v:V)(hs ds ms:List Pt)(z0:vs=[v])(z1:aq X H)(z2:jx A N X v hs ds ms)(z3:pQ N d ds)(z6:gw ms<=d)(z5:(gP ds++cq ms).length<=900)
  (z7:∀(R:Q1)(ys:List V)(H':Hp),aq H H'->H R=Xc->H' R=Xb (.lst ys)->Paired (λt y=>aJ A N X y t) (gP ds++cq ms) ys->Q (.ref R) H'):CU A d vs H Q Ã
theorem Kp(T:Txt K mg A)(d:Nat):T.iG.Hz P w base (d+3) (CU A d):=by
 refine T.iG.hs (k:=d+2) eZ (λf Ä A' outer s H vs Q E' hr hu h=>?_);obtain⟨N,X,v,hs,ds,ms,rfl,s0,⟨a,dx,n0,n1,n2,x0,x1,x2,rfl,ha,e0,e1,e2,p0,p1,p2⟩,O,dm,ln,q⟩:=h;refine⟨_,(af (Æ 1 eZ.nd (aU ae))
  (af (b6 Rg rfl (br (aw (fv 0) rfl)) (Õ (i:=2) eZ.nd rfl)
   (ai (Æ 1 eZ.nd (ax aO (fv 1) (aj (hj:=by lia) (tZ T d) hr (aw (fv 2) rfl^ae))))))
  (ai (aA (ax aO (fv 1) (aj (hj:=by lia) (tZ T d) hr (aw (fv 0) rfl^ae))))))),?_⟩
 refine ao λM1 K1=>{Oj _,λR hR=>?_};obtain⟨s1,eR⟩:=Ò hR (HO.lst []);generalize upd H R _=H1 at s1 eR⊢;refine K1 _ _ ?_;clear K1 M1;rfl'
 refine ao λM1 K1=>Å ((s0.trans s1) _ _ ha) T.bF.cl T.bw rfl (N6 {{_,À.of ((s0.trans s1) _ _ e1)},bP (K:=K) (xs:=x1) (λi B Hc=>∃(F:Q1)(ys:List V)(v2:Option V),B=[Xb (.ref a),Xb (.ref F),v2]/\aq H Hc/\H F=Xc/\Hc F=Xb (.lst ys)/\Paired (λt y=>aJ A N X y t) (gP (ds.take i)) ys) {R,[],Xc,rfl,s1,hR,eR,.nil} (λi B Hc _ ⟨_,_,_,_,z,_⟩=>À.of ((s0.trans z) _ _ e1)) ?_ ?_})
 ·rintro i v B Hc hv ⟨F,ys,v2,rfl,sc,hF,eF,py⟩;obtain⟨t,ht,pa⟩:=p1.get hv;have mt:t∈ds:=Oe ht;have dt:=O.aX t mt;have ly:=Q7 py;have tk:gP (ds.take (i+1))=gP (ds.take i)++cq (b7 t):=by
   rw[Xk ht];unfold gP;rw[PU,List.flatMap_singleton]
  have lt:(gP (ds.take (i+1))).length<=(gP ds).length:=by
   have:=congrArg (λl=>(gP l).length) (OZ (i+1) ds);unfold gP at this⊢;rw[PU,N7]at this;lia
  rw[tk,N7]at lt;rw[N7]at ln;rw[tk];have dpt:=O.dp t mt;clear tk q K1 hv ht eR hR;cases t with
  |aX n i' ps b=>
   unfold aJ at pa;obtain⟨a',Ϟ,pp,pb,xb,rfl,h1,h2,h3,h4⟩:=pa;have sX:=s0.trans sc;change (gP (ds.take i)).length+(cq b).length<=_ at lt;refine Å (sX _ _ h1) T.bh.cl T.cD rfl {N,X,pb,xb,b,rfl,sX,h3,h4,dpt,(),λR4 y4 H4 s4 n4 e4 p4=>?_};have l4:=Q7 p4;exact{F,R4,_,_,rfl,rfl,s4 _ _ eF,e4,sz (),λL5 ũ=>{L5,_,_,rfl,(sc.trans s4).trans (aq.upd ũ _),aq.free (sc.trans s4) ũ,av,Paired.two py p4}}
  |_=>exact dt.elim
 rintro B Hc ⟨F,ys,v2,rfl,sc,hF,eF,py⟩;rw[show ds.take x1.length=ds by rw[p1.len];exact Ov]at py;refine K1 _ _ ?_;clear K1 M1;have ly:=Q7 py;rw[N7]at ln;have sX:=s0.trans sc;refine Å (sX _ _ ha) T.bF.cl T.dU rfl {N,X,n2,x2,ms,rfl,sX,e2,p2,dm,(),λR4 y4 H4 s4 n4 e4 p4=>?_};have l4:=Q7 p4;exact{F,R4,_,_,rfl,rfl,s4 _ _ eF,e4,sz (),λL5 ũ=>q L5 _ _ ((sc.trans s4).trans (aq.upd ũ _)) (aq.free (sc.trans s4) ũ) av (Paired.two py p4)}
def Ě:Pt->Int×Int×Int
 | .iff n _ l r _ _=>(n,l,r)
 | .loop n _ _ l r _=>(n,l,r)
 |t=>(t.no,0,0)
mutual
theorem Gb:∀(t:Pt),∀u∈ė t,u.ci=11\/u.ci=12
 | .leaf _ _,u,h=>absurd h Ou
 | .aX _ _ _ _,u,h=>absurd h Ou
 | .iff n v l r f o,u,h=>by
  rw[ė]at h;rcases Ob.mp h with rfl|h
  ·exact .inl rfl
  rcases Og.mp h with h|h
  ·exact fQ f u h
  exact fQ o u h
 | .loop n t m l r b,u,h=>by
  rw[ė]at h;rcases Ob.mp h with rfl|h
  ·exact .inr rfl
  exact fQ b u h
theorem fQ:∀(ts:List Pt),∀u∈cq ts,u.ci=11\/u.ci=12
 | [],u,h=>by rw[cq]at h;cases h
 |t::ts,u,h=>by
  rw[cq]at h;rcases Og.mp h with h|h
  ·exact Gb t u h
  exact fQ ts u h
end
def ϑ(ds ms:List Pt):List (Int×Int×Int):=(gP ds++cq ms).map Ě
def W3(H:Hp)(e:Int×Int×Int)(y:V):Prop:=∃t,y=.ref t/\H t=Xb (.tup [.int e.1,.int e.2.1,.int e.2.2])
inductive tL(A:Ï)(d:Nat)(vs:List V)(H:Hp)(Q:VK)(Ã:XK):Prop
 |mk(N:Nat->Str)(X:Hp)(v:V)(hs ds ms:List Pt)(z0:vs=[v])(z1:aq X H)(z2:jx A N X v hs ds ms)(z3:pQ N d ds)(z6:gw ms<=d)(z5:(gP ds++cq ms).length<=900)
  (z7:∀(R:Q1)(ys:List V)(H':Hp),aq H H'->H R=Xc->H' R=Xb (.lst ys)->Paired (W3 H') (ϑ ds ms) ys->Q (.ref R) H'):tL A d vs H Q Ã
theorem Hg(T:Txt K mg A)(d:Nat):T.qO.Hz P w base (d+4) (tL A d):=by
 refine T.qO.hs (k:=d+3) wQ (λf Ä A' outer s H vs Q E' hr hu h=>?_);obtain⟨N,X,v,hs,ds,ms,rfl,s0,pg,O,dm,ln,q⟩:=h;refine{_,(ai (aA (dF (N:=["_law_row"]) (own:=1) (fr:=[]) (b4.of (by kernel_rfl!)) rfl (br (aj (hj:=by lia) (Kp T d) hr (fv 0^ae))) (λb=>Õ (i:=0) (show Rr (["_law_row"]:List RF) by decide+kernel) rfl) (λb=>fP) (λb=>bE (aw (fv 0) rfl^aw (fv 0) rfl^aw (fv 0) rfl^ae))))),{N,X,v,hs,ds,ms,rfl,s0,pg,O,dm,ln,λL ys H1 s1 hL eL pr=>?_}};have ly:=Q7 pr;have nest:∀u∈gP ds++cq ms,u.ci=11\/u.ci=12:=λu hu=>by
  rcases Og.mp hu with hu|hu
  ·obtain⟨x,_,hx⟩:=ON.mp hu;exact fQ _ u hx
  exact fQ _ u hu
 unfold ϑ at q;generalize gP ds++cq ms=bs at ln pr ly nest q;refine N6 {{_,À.of eL},dO (K:=K) (own:=1) bs (λ_=>true) (λt y H=>W3 H (Ě t) y) (À.of eL) ly.symm (aH ()) ?_ ?_ ?_ ?_}
 ·intro b i x e v0 H3 Nn Y hx he hv s3 no yes;obtain⟨u0,rfl⟩:∃u0,v0=[u0]:=by
   match v0,hv with
   | [u],_=>exact⟨u,rfl⟩
  obtain⟨e',Ũ,pa⟩:=bW pr hx;rw[he]at Ũ;cases Ũ;have ne:=nest e (Oe he);have sX:=(s0.trans s1).trans s3;cases e with
  |leaf n r=>exact absurd ne (by cases r<;>simp[Pt.ci,Lr.ci])
  |aX _ _ _ _=>exact absurd ne (by simp[Pt.ci])
  |iff n val l r f o=>
   unfold aJ at pa;obtain⟨a,dx,p,pf,po,xf,xo,rfl,h1,_⟩:=pa;exact Å (sX _ _ h1) T.aQ.cl T.dP rfl (Å (sX _ _ h1) T.aQ.cl T.dg rfl (Å (sX _ _ h1) T.aQ.cl T.dC rfl {by show 3<=sizeLine;decide,λtp ü=>yes rfl [Xb (.ref a)] _ _ rfl (aq.upd ü _) ⟨tp,rfl,av⟩}))
  |loop n th m l r b=>
   unfold aJ at pa;obtain⟨a,dx,pb,xb,rfl,h1,_⟩:=pa;exact Å (sX _ _ h1) T.aI.cl T.cQ rfl (Å (sX _ _ h1) T.aI.cl T.cV rfl (Å (sX _ _ h1) T.aI.cl T.cf rfl {by show 3<=sizeLine;decide,λtp ü=>yes rfl [Xb (.ref a)] _ _ rfl (aq.upd ü _) ⟨tp,rfl,av⟩}))
 ·rintro e y H1 H2 s1 ⟨t,e1,h1⟩;exact{t,e1,s1 _ _ h1}
 ·rintro e y H1 D ys zs hD ⟨t,e1,h1⟩;exact{t,e1,aF (λz=>by rw[z,hD]at h1;cases h1) h1}
 intro L2' H2 zs Ϝ s2 eL2 pz;rw[dq]at pz;exact q L2' zs H2 (s1.trans s2) (aq.free s1 Ϝ) eL2 (eE (F:=W3 H2) Ě pz)
def C7(ds ms:List Pt):List Int:=(ds.map λt=>È aR 0 ds (ç t))++[aR (È aR 0 ds) ms]
inductive rg(A:Ï)(d:Nat)(vs:List V)(H:Hp)(Q:VK)(Ã:XK):Prop
 |mk(N:Nat->Str)(X:Hp)(v:V)(hs ds ms:List Pt)(z0:vs=[v])(z1:aq X H)(z2:jx A N X v hs ds ms)(z3:pQ N d ds)(z5:∀p∈ds,(b7 p).length<=900/\ix (b7 p))(z6:gw ms<=d)(z8:fC (ds.map ç) ms)(z9:ms.length<=900)(z10:ix ms)
  (z7:∀(R:Q1)(H':Hp),aq H H'->H R=Xc->H' R=Xb (.lst ((C7 ds ms).map V.int))->Q (.ref R) H'):rg A d vs H Q Ã
theorem ze(T:Txt K mg A)(d:Nat):T.rB.Hz P w base (2*d+5) (rg A d):=by
 refine T.rB.hs (k:=2*d+4) qz (λf Ä A' outer s H vs Q E' hr hu h=>?_);obtain⟨N,X,v,hs,ds,ms,rfl,s0,pg,O,lo,dm,cm,lm,om,q⟩:=h;obtain⟨a,dx,n0,n1,n2,x0,x1,x2,rfl,ha,e0,e1,e2,p0,p1,p2⟩:=id pg;refine⟨_,(af (Æ 1 qz.nd (aj (hj:=by lia) (HW T d) hr (fv 0^ae)))
  (ai (aA (ax aO (dF (N:=["_law_deed","_law_known_here"]) (own:=1) (fr:=[1]) (b4.of (by kernel_rfl!)) rfl (br (aw (fv 0) rfl)) (λb=>Õ (i:=0) (show Rr (["_law_deed","_law_known_here"]:List RF) by decide+kernel) rfl) (λb=>fP) (λb=>px hu (fv 1) (aw (fv 0) rfl))) (aU ((aj (hj:=by lia) (Fm T d) hr (aw (fv 0) rfl^fv 1^ae))^ae)))))),?_⟩
 refine ao λM1 K1=>{N,X,.ref a,hs,ds,ms,rfl,s0,pg,O,lo,λD H1 s1 hD kD=>K1 _ _ ?_};clear K1 M1;have sX:=s0.trans s1;have oln:=O.ln;rfl'
 refine Å (sX _ _ ha) T.bF.cl T.bw rfl (N6 {{_,À.of (sX _ _ e1)},dO (K:=K) (own:=1) ds (λ_=>true) (λt y _=>y=.int (È aR 0 ds (ç t))) (À.of (sX _ _ e1)) p1.len (aH (by rw[p1.len];lia)) ?_ (λ_ _ _ _ _ h=>h) (λ_ _ _ _ _ _ _ h=>h) ?_})
 ·intro b i x e v0 H3 Nn Y hx he hv s3 no yes;obtain⟨u0,rfl⟩:∃u0,v0=[u0]:=by
   match v0,hv with
   | [u],_=>exact⟨u,rfl⟩
  obtain⟨t,ht,pa⟩:=p1.get hx;rw[he]at ht;cases ht;have mt:e∈ds:=Oe he;have dt:=O.aX e mt;cases e with
  |aX n i' ps b=>
   unfold aJ at pa;obtain⟨a',Ϟ,pp,pb,xb,rfl,h1,h2,h3,h4⟩:=pa;obtain⟨kvs,ek,kk⟩:=kD.same s3;exact Å ((sX.trans s3) _ _ h1) T.bh.cl T.bR rfl (æ ek (kk i' (Oq.mpr {_,mt,rfl})) (yes rfl [Xb (.ref a')] _ _ rfl (aq.refl _) rfl))
  |_=>exact dt.elim
 intro L2' H2 zs Ϝ s2 eL2 pz;rw[dq]at pz;have ez:=sW pz;have lz:=congrArg Ta ez;rw[N3,N3]at lz;have Ϩ:=sX.trans s2;refine Å (Ϩ _ _ ha) T.bF.cl T.dU rfl {N,X,n2,D,x2,ms,ds.map ç,È aR 0 ds,rfl,Ϩ,e2,p2,dm,cm,lm,om,kD.same s2,λH3 s3=>{by show 1<=sizeLine;decide,λL4 hL4=>?_}};obtain⟨s4,e4⟩:=Ò hL4 (HO.lst [V.int (aR (È aR 0 ds) ms)]);generalize upd H3 L4 _=H4 at s4 e4⊢;refine{L2',L4,_,_,rfl,rfl,(s3.trans s4) _ _ eL2,e4,sz (by simp;lia),λR hR=>?_};have t4:=s1.trans (s2.trans (s3.trans s4));refine q R _ (t4.trans (aq.upd hR _)) (aq.free t4 hR) ?_;rw[av,ez];unfold C7;rw[OB];rfl
end
section
variable{N:Nat->Str}
theorem jB(g:Int):mx g g=g:=by unfold mx;exact ite_self _
theorem LJ(i j:Int):i<=mx i j:=by unfold mx;split<;>lia
theorem MN(i j:Int):j<=mx i j:=by unfold mx;split<;>lia
theorem Ep(ab:Int->Bool)(n l r a b:Int):mx ((ĕ ab n l r a b).1+a) ((ĕ ab n l r a b).2+b)=mx (l+a) (r+b):=by
 unfold ĕ;split
 ·show mx (mx (l+a) (r+b)-a+a) (mx (l+a) (r+b)-b+b)=_;rw[OU,OU,jB]
 rfl
theorem F6(ab:Int->Bool)(n l r a:Int):mx ((Ĕ ab n l r a).1+a) (Ĕ ab n l r a).2=mx (l+a) r:=by
 unfold Ĕ;split
 ·show mx (mx (l+a) r-a+a) (mx (l+a) r)=_;rw[OU,jB]
 rfl
theorem II(a1 a2:Int->Bool)(n l r a b:Int):ĕ a2 n (ĕ a1 n l r a b).1 (ĕ a1 n l r a b).2 a b=ĕ (λn=>a1 n||a2 n) n l r a b:=by
 cases h1:a1 n with
 |true=>
  have e:ĕ a1 n l r a b=(mx (l+a) (r+b)-a,mx (l+a) (r+b)-b):=if_pos h1;rw[e,show ĕ (λn=>a1 n||a2 n) n l r a b=(mx (l+a) (r+b)-a,mx (l+a) (r+b)-b)from if_pos (show(a1 n||a2 n)=true by rw[h1];rfl)];unfold ĕ;split
  ·show(mx (_-a+a) (_-b+b)-a,mx (_-a+a) (_-b+b)-b)=_;rw[OU,OU,jB]
  rfl
 |false=>
  have e:ĕ a1 n l r a b=(l,r):=if_neg (by rw[h1];exact Of);rw[e];unfold ĕ;simp only[h1,Qn]
theorem Hk(a1 a2:Int->Bool)(n l r a:Int):Ĕ a2 n (Ĕ a1 n l r a).1 (Ĕ a1 n l r a).2 a=Ĕ (λn=>a1 n||a2 n) n l r a:=by
 cases h1:a1 n with
 |true=>
  have e:Ĕ a1 n l r a=(mx (l+a) r-a,mx (l+a) r):=if_pos h1;rw[e,show Ĕ (λn=>a1 n||a2 n) n l r a=(mx (l+a) r-a,mx (l+a) r)from if_pos (show(a1 n||a2 n)=true by rw[h1];rfl)];unfold Ĕ;split
  ·show(mx (_-a+a) _-a,mx (_-a+a) _)=_;rw[OU,jB]
  rfl
 |false=>
  have e:Ĕ a1 n l r a=(l,r):=if_neg (by rw[h1];exact Of);rw[e];unfold Ĕ;simp only[h1,Qn]
theorem F8(ab:Int->Bool)(n l r a b:Int):l<=(ĕ ab n l r a b).1/\r<=(ĕ ab n l r a b).2:=by
 have h1:=LJ (l+a) (r+b);have h2:=MN (l+a) (r+b);unfold ĕ;split
 ·exact{show l<=_-a by lia,show r<=_-b by lia}
 exact{O4 _,O4 _}
theorem FJ(ab:Int->Bool)(n l r a:Int):l<=(Ĕ ab n l r a).1/\r<=(Ĕ ab n l r a).2:=by
 have h1:=LJ (l+a) r;have h2:=MN (l+a) r;unfold Ĕ;split
 ·exact{show l<=_-a by lia,h2}
 exact{O4 _,O4 _}
mutual
theorem Mo(ab:Int->Bool)(kn:Nat->Int):∀t,á kn (Á ab kn t)=á kn t
 | .leaf _ _=>by rw[Á]
 | .aX _ _ _ _=>by rw[Á,á,á]
 | .iff n v l r f o=>by rw[Á,á,á,iZ ab kn f,iZ ab kn o,Ep]
 | .loop n t m l r b=>by rw[Á,á,á,iZ ab kn b,F6]
theorem iZ(ab:Int->Bool)(kn:Nat->Int):∀ts,aR kn (bq ab kn ts)=aR kn ts
 | []=>by rw[bq]
 |t::ts=>by rw[bq,aR,aR,Mo ab kn t,iZ ab kn ts]
end
mutual
theorem Fd(a1 a2:Int->Bool)(kn:Nat->Int):∀t,Á a2 kn (Á a1 kn t)=Á (λn=>a1 n||a2 n) kn t
 | .leaf _ _=>by rw[Á,Á,Á]
 | .aX _ _ _ b=>by rw[Á,Á,Á,nW a1 a2 kn b]
 | .iff n v l r f o=>by rw[Á,Á,Á,iZ a1 kn f,iZ a1 kn o,nW a1 a2 kn f,nW a1 a2 kn o,II]
 | .loop n t m l r b=>by rw[Á,Á,Á,iZ a1 kn b,nW a1 a2 kn b,Hk]
theorem nW(a1 a2:Int->Bool)(kn:Nat->Int):∀ts,bq a2 kn (bq a1 kn ts)=bq (λn=>a1 n||a2 n) kn ts
 | []=>by rw[bq,bq,bq]
 |t::ts=>by rw[bq,bq,bq,Fd a1 a2 kn t,nW a1 a2 kn ts]
end
mutual
theorem DV{idx:List Nat}{k1 k2:Nat->Int}(h:∀i∈idx,k1 i=k2 i):∀t,ß idx t->á k1 t=á k2 t
 | .leaf n r,c=>by
  cases r with
  |call i ts=>unfold ß at c;rw[á,á,h i c]
  |_=>simp[á]
 | .aX _ _ _ _,_=>by rw[á,á]
 | .iff n v l r f o,c=>by
  unfold ß at c;rw[á,á,gr h f c.1,gr h o c.2]
 | .loop n t m l r b,c=>by
  unfold ß at c;rw[á,á,gr h b c.2.2]
theorem gr{idx:List Nat}{k1 k2:Nat->Int}(h:∀i∈idx,k1 i=k2 i):∀ts,fC idx ts->aR k1 ts=aR k2 ts
 | [],_=>by rw[aR,aR]
 |t::ts,c=>by
  unfold fC at c;rw[aR,aR,DV h t c.1,gr h ts c.2]
end
mutual
theorem EF{idx:List Nat}{k1 k2:Nat->Int}(ab:Int->Bool)(h:∀i∈idx,k1 i=k2 i):∀t,ß idx t->ø t->Á ab k1 t=Á ab k2 t
 | .leaf n r,_,_=>by rw[Á,Á]
 | .aX n i ps b,_,d=>by unfold ø at d;exact d.elim
 | .iff n v l r f o,c,d=>by
  unfold ß at c;unfold ø at d;rw[Á,Á,gr h f c.1,gr h o c.2,kW ab h f c.1 d.1,kW ab h o c.2 d.2]
 | .loop n t m l r b,c,d=>by
  unfold ß at c;unfold ø at d;rw[Á,Á,gr h b c.2.2,kW ab h b c.2.2 d]
theorem kW{idx:List Nat}{k1 k2:Nat->Int}(ab:Int->Bool)(h:∀i∈idx,k1 i=k2 i):∀ts,fC idx ts->fE ts->bq ab k1 ts=bq ab k2 ts
 | [],_,_=>by rw[bq,bq]
 |t::ts,c,d=>by
  unfold fC at c;unfold fE at d;rw[bq,bq,EF ab h t c.1 d.1,kW ab h ts c.2 d.2]
end
theorem uI(ab:Int->Bool)(kn:Nat->Int):∀t,ç (Á ab kn t)=ç t
 | .leaf _ _=>by rw[Á]
 | .aX _ _ _ _=>by rw[Á];rfl
 | .iff _ _ _ _ _ _=>by rw[Á];rfl
 | .loop _ _ _ _ _ _=>by rw[Á];rfl
theorem qt(ab:Int->Bool)(kn:Nat->Int)(ds:List Pt):(ds.map (Á ab kn)).map ç=ds.map ç:=by
 rw[OQ];exact O9 λt _=>uI ab kn t
theorem Ee{α:Type}{d:Nat}{ds:List Pt}(O:pQ N d ds)(g:(Nat->α)->List Pt->α)(z:α){i:Nat}{k:Nat}(hk:k∈(ds.take i).map ç):∀m,i+m<=ds.length->È g z (ds.take (i+m)) k=È g z (ds.take i) k
 |0,_=>rfl
 |m+1,h=>by
  have hl:i+m<ds.length:=()
  have st:È g z (ds.take (i+m+1))=ī g (È g z (ds.take (i+m))) ds[i+m]:=dH (ī g) (λ_=>z) (Oa hl);rw[show i+(m+1)=i+m+1 from rfl,st];unfold ī;rw[if_neg,Ee O g z hk m ()];rintro rfl;obtain⟨p,mp,e⟩:=Oq.mp hk;obtain⟨j,hj⟩:=List.mem_iff_getElem?.mp mp;have hji:j<i:=by
   have:=(Ot.mp hj).1;rw[OH]at this;lia
  rw[P1 hji]at hj;have:=O.nm j (i+m) p _ hj (Oa hl) (by rw[e]);lia
theorem GL{α:Type}{d:Nat}{ds:List Pt}(O:pQ N d ds)(g:(Nat->α)->List Pt->α)(z:α){i:Nat}(hi:i<=ds.length):∀k∈(ds.take i).map ç,È g z ds k=È g z (ds.take i) k:=λk hk=>by
 have:=Ee O g z hk (ds.length-i) ();rw[show i+(ds.length-i)=ds.length by lia,Ov]at this;exact this
theorem Ak{d:Nat}{ds:List Pt}(O:pQ N d ds)(k5:∀p∈ds,fE (b7 p))(ab:Int->Bool):∀i,i<=ds.length->È aR 0 ((ds.map (Á ab (È aR 0 ds))).take i)=È aR 0 (ds.take i)
 |0,_=>rfl
 |i+1,h=>by
  have hl:i<ds.length:=h;have e:=Oa hl;have s1:È aR 0 (ds.take (i+1))=ī aR (È aR 0 (ds.take i)) ds[i]:=dH (ī aR) (λ_=>0) e;have s2:È aR 0 ((ds.map (Á ab (È aR 0 ds))).take (i+1))=ī aR (È aR 0 ((ds.map (Á ab (È aR 0 ds))).take i)) (Á ab (È aR 0 ds) ds[i]):=dH (ī aR) (λ_=>0) (by rw[Oi,e];rfl);rw[s1,s2,Ak O k5 ab i ()];have mt:ds[i]∈ds:=Qf hl;have dt:=O.aX _ mt;have ct:=O.ck i _ e;have kt:=k5 _ mt;have ag:=GL O aR 0 (Pe hl);generalize ds[i]=t at dt ct kt;cases t with
  |aX n i' ps b=>
   rw[Á];unfold ī;show(λj=>if j=i' then aR _ (bq ab (È aR 0 ds) b)else _)=λj=>if j=i' then aR _ b else _
   rw[kW ab ag b ct kt,iZ]
  |_=>exact dt.elim
theorem CA{d:Nat}{ds:List Pt}(O:pQ N d ds)(k5:∀p∈ds,fE (b7 p))(ab:Int->Bool):È aR 0 (ds.map (Á ab (È aR 0 ds)))=È aR 0 ds:=by
 have:=Ak O k5 ab ds.length (Oc _);rw[Ov,<-N3 (f:=Á ab (È aR 0 ds)),Ov]at this;exact this
theorem JO{d:Nat}{ds:List Pt}(O:pQ N d ds)(k5:∀p∈ds,fE (b7 p))(ab:Int->Bool)(ms:List Pt):C7 (ds.map (Á ab (È aR 0 ds))) (bq ab (È aR 0 ds) ms)=C7 ds ms:=by
 unfold C7;rw[CA O k5 ab,iZ,OQ];congr 1;exact O9 λt _=>by show È aR 0 ds (ç (Á _ _ t))=_;rw[uI]
def ϝ(ab:Int->Bool)(kn:Nat->Int)(e:Le):Le:=(Á ab kn e.1,e.2)
theorem Cg(ab:Int->Bool)(kn:Nat->Int):∀t,(Á ab kn t).no=t.no
 | .leaf _ _=>by rw[Á]
 | .aX _ _ _ _=>by rw[Á];rfl
 | .iff _ _ _ _ _ _=>by rw[Á];rfl
 | .loop _ _ _ _ _ _=>by rw[Á];rfl
theorem EZ(ab:Int->Bool)(kn:Nat->Int):∀t,(Á ab kn t).ci=t.ci
 | .leaf _ _=>by rw[Á]
 | .aX _ _ _ _=>by rw[Á];rfl
 | .iff _ _ _ _ _ _=>by rw[Á];rfl
 | .loop _ _ _ _ _ _=>by rw[Á];rfl
theorem xZ(ab:Int->Bool)(kn:Nat->Int):∀t,ë N (Á ab kn t)=ë N t
 | .leaf _ _=>by rw[Á]
 | .aX _ _ _ _=>by rw[Á];rfl
 | .iff _ _ _ _ _ _=>by rw[Á];rfl
 | .loop _ _ _ _ _ _=>by rw[Á];rfl
theorem Bm(ab:Int->Bool)(kn:Nat->Int):∀t,Ē N (Á ab kn t)=Ē N t
 | .leaf _ _=>by rw[Á]
 | .aX _ _ _ _=>by rw[Á];rfl
 | .iff _ _ _ _ _ _=>by rw[Á];rfl
 | .loop _ _ _ _ _ _=>by rw[Á];rfl
theorem iW(ab:Int->Bool)(kn:Nat->Int):∀t,b7 (Á ab kn t)=bq ab kn (b7 t)
 | .leaf _ _=>by rw[Á];show[]=bq ab kn [];rw[bq]
 | .aX _ _ _ _=>by rw[Á];rfl
 | .iff _ _ _ _ _ _=>by rw[Á];show[]=bq ab kn [];rw[bq]
 | .loop _ _ _ _ _ _=>by rw[Á];show[]=bq ab kn [];rw[bq]
mutual
theorem Lj(ab:Int->Bool)(kn:Nat->Int)(lp:Option Str):∀t,ba lp (Á ab kn t)=(ba lp t).map (ϝ ab kn)
 | .leaf _ _=>by rw[Á,ba];rfl
 | .aX _ _ _ _=>by rw[Á,ba,ba];rfl
 | .iff n v l r f o=>by rw[Á,ba,ba,kQ ab kn _ lp f,kQ ab kn _ lp o,OB]
 | .loop n t m l r b=>by rw[Á,ba,ba,kQ ab kn _ _ b]
theorem kQ(ab:Int->Bool)(kn:Nat->Int)(pl lp:Option Str):∀ts,bg pl lp (bq ab kn ts)=(bg pl lp ts).map (ϝ ab kn)
 | []=>by rw[bq,bg];rfl
 |t::ts=>by
  rw[bq,bg,bg,Lj ab kn lp t,kQ ab kn pl lp ts,Ox,OB];rfl
end
theorem EK(ab:Int->Bool)(kn:Nat->Int)(ds:List Pt):gM N (ds.map (Á ab kn))=(gM N ds).map (ϝ ab kn):=by
 unfold gM;rw[Qg,V9];congr 1;funext t
 rw[xZ,iW,kQ]
theorem ot(ab:Int->Bool)(kn:Nat->Int)(ds ms:List Pt):bj N (ds.map (Á ab kn)) (bq ab kn ms)=(bj N ds ms).map (ϝ ab kn):=by
 unfold bj;rw[EK,kQ,OB]
theorem Hs(ab:Int->Bool)(kn:Nat->Int)(po:Str->List Str)(pl lp:Option Str):∀t,oF N po (Á ab kn t) pl lp=oF N po t pl lp
 | .leaf _ _=>by rw[Á]
 | .aX _ _ _ _=>by rw[Á];rfl
 | .iff _ _ _ _ _ _=>by rw[Á];rfl
 | .loop _ _ _ _ _ _=>by rw[Á];rfl
theorem AW(ab:Int->Bool)(kn:Nat->Int)(x:Str):∀ds:List Pt,ô N (ds.map (Á ab kn)) x=ô N ds x
 | []=>rfl
 |t::ds=>by
  have h:=AW ab kn x ds;unfold ô at h⊢;rw[Ox,OK,OK,xZ];cases decide (ë N t=x)with
  |true=>exact Bm ab kn t
  |false=>exact h
theorem qD(ab:Int->Bool)(kn:Nat->Int)(ds ms:List Pt):cF N false (ds.map (Á ab kn)) (bq ab kn ms)=cF N false ds ms:=by
 unfold cF;rw[ot,Qg];congr 1;funext e
 unfold qG;show oF N _ (Á ab kn e.1) _ _++[]=oF N _ e.1 _ _++[];rw[Hs,show ô N (ds.map (Á ab kn))=ô N ds from funext λx=>AW ab kn x ds];rfl
theorem iD(ab:Int->Bool)(kn:Nat->Int)(hs ds ms:List Pt):aV N hs (ds.map (Á ab kn)) (bq ab kn ms)=aV N hs ds ms:=by
 unfold aV fz;rw[ot,Qg,Wq,OQ];have e1:(λp=>ë N (Á ab kn p)::Ē N (Á ab kn p))=λp=>ë N p::Ē N p:=funext λp=>by rw[xZ,Bm]
 have e2:((λe:Le=>iw e.1)∘ϝ ab kn)=λe=>iw e.1:=funext λe=>by
  show iw (Á ab kn e.1)=iw e.1;unfold iw;rw[EZ]
 have e3:((λe:Le=>a9 e.1.no)∘ϝ ab kn)=λe=>a9 e.1.no:=funext λe=>by
  show a9 (Á ab kn e.1).no=a9 e.1.no;rw[Cg]
 rw[e1,e2,e3]
theorem JP(ab:Int->Bool)(kn:Nat->Int)(hs ds ms:List Pt):mw N false hs (ds.map (Á ab kn)) (bq ab kn ms)=mw N false hs ds ms:=by
 unfold mw j3;rw[qD,iD]
theorem Gd(ab:Int->Bool)(kn:Nat->Int)(hs ds ms:List Pt)(fl:Int):jv N hs (ds.map (Á ab kn)) (bq ab kn ms) fl=(jv N hs ds ms fl).map (ϝ ab kn):=by
 unfold jv;rw[ot,Wq];congr 2;funext e
 show gQ N hs _ _ fl (ϝ ab kn e)=_;unfold gQ;rw[JP];show(fV (Á ab kn e.1)&& !Az (mw N false hs ds ms (a9 (Á ab kn e.1).no)) fl)=_;unfold fV;rw[EZ,Cg]
theorem E6(ab:Int->Bool)(kn:Nat->Int)(hs ds ms:List Pt)(fl:Int):ó N hs (ds.map (Á ab kn)) (bq ab kn ms) fl=ó N hs ds ms fl:=by
 funext n
 unfold ó;rw[Gd,OQ];congr 3;funext e
 exact Cg ab kn e.1
mutual
theorem JI(ab:Int->Bool)(kn:Nat->Int):∀t,ė (Á ab kn t)=(ė t).map (Á ab kn)
 | .leaf _ _=>by rw[Á];rfl
 | .aX _ _ _ _=>by rw[Á];rfl
 | .iff n v l r f o=>by
  rw[Á,ė,ė,nT ab kn f,nT ab kn o,Ox,OB,Á]
 | .loop n t m l r b=>by
  rw[Á,ė,ė,nT ab kn b,Ox,Á]
theorem nT(ab:Int->Bool)(kn:Nat->Int):∀ts,cq (bq ab kn ts)=(cq ts).map (Á ab kn)
 | []=>by rw[bq,cq];rfl
 |t::ts=>by rw[bq,cq,cq,JI ab kn t,nT ab kn ts,OB]
end
theorem Fu(ab:Int->Bool)(kn:Nat->Int)(ds ms:List Pt):ϑ (ds.map (Á ab kn)) (bq ab kn ms)=(gP ds++cq ms).map λt=>Ě (Á ab kn t):=by
 unfold ϑ gP;rw[Qg,nT,show(λt=>cq (b7 (Á ab kn t)))=λt=>(cq (b7 t)).map (Á ab kn)from funext λt=>by rw[iW,nT],<-V9,<-OB,OQ];rfl
theorem HX(ab:Int->Bool)(kn:Nat->Int):∀t,(Ě (Á ab kn t)).1=(Ě t).1/\(Ě t).2.1<=(Ě (Á ab kn t)).2.1/\(Ě t).2.2<=(Ě (Á ab kn t)).2.2
 | .leaf _ _=>by rw[Á];exact{rfl,O4 _,O4 _}
 | .aX _ _ _ _=>by rw[Á];exact{rfl,O4 _,O4 _}
 | .iff n v l r f o=>by rw[Á];exact{rfl,F8 ab n l r _ _}
 | .loop n t m l r b=>by rw[Á];exact{rfl,FJ ab n l r _}
theorem zA{d:Nat}{ds:List Pt}(O:pQ N d ds)(k5:∀p∈ds,fE (b7 p))(a1 a2:Int->Bool)(ms:List Pt) :
  ϑ ((ds.map (Á a1 (È aR 0 ds))).map (Á a2 (È aR 0 (ds.map (Á a1 (È aR 0 ds)))))) (bq a2 (È aR 0 (ds.map (Á a1 (È aR 0 ds)))) (bq a1 (È aR 0 ds) ms))=ϑ (ds.map (Á (λn=>a1 n||a2 n) (È aR 0 ds))) (bq (λn=>a1 n||a2 n) (È aR 0 ds) ms):=by
 rw[CA O k5,nW,OQ]
 congr 2
 funext t
 exact Fd a1 a2 _ t
theorem xR(pls:List Str):∀(l:List Lk)(cs:List Str),cs.Nodup->(∀x∈cs,x∈pls)->(∀k∈l,k.to∈pls)->
  (l.foldl ć cs).Nodup/\(∀x∈l.foldl ć cs,x∈pls)/\(∀k∈l,k.to∈l.foldl ć cs)/\∃t,l.foldl ć cs=cs++t
 | [],cs,nd,s,_=>{nd,s,λ_ h=>absurd h Ou,[],(OF _).symm}
 |k::l,cs,nd,s,h=>by
  have one:(ć cs k).Nodup/\(∀x∈ć cs k,x∈pls)/\k.to∈ć cs k/\∃t,ć cs k=cs++t:=by
   unfold ć;by_cases c:k.to∈cs
   ·rw[if_pos c];exact{nd,s,c,[],(OF _).symm}
   rw[if_neg c];refine{O5.mpr {nd,OO.mpr ⟨Ou,Qj⟩,λa ma b mb e=>c ?_},λx hx=>?_,Od _ N9,_,rfl}
   ·rw[N4]at mb;exact mb▸e▸ma
   rcases Og.mp hx with m|m
   ·exact s x m
   rw[N4.mp m];exact h k N9
  obtain⟨a,b,c,t,e⟩:=one;obtain⟨a2,b2,c2,t2,e2⟩:=xR pls l (ć cs k) a b λq m=>h q (N8 _ m);refine{a2,b2,λq m=>?_,t++t2,?_}
  ·rcases Ob.mp m with rfl|m
   ·show _∈l.foldl ć (ć cs q);rw[e2];exact Oh _ c
   exact c2 q m
  show l.foldl ć (ć cs k)=_;rw[e2,e,OV]
theorem AV{ls:List Lk}{pls:List Str}(to:∀l∈ls,l.to∈pls):∀(n i:Nat)(cs:List Str),cs.Nodup->(∀x∈cs,x∈pls)->pls.length<=n+i->
  (∀(j:Nat) y,j<i->cs[j]?=Xb y->∀l∈ls,l.fr=y->l.to∈cs)->∀l∈ls,l.fr∈ip ls n i cs->l.to∈ip ls n i cs:=by
 have done:∀(i:Nat)(cs:List Str),cs.length<=i->(∀(j:Nat) y,j<i->cs[j]?=Xb y->∀l∈ls,l.fr=y->l.to∈cs)->∀l∈ls,l.fr∈cs->l.to∈cs:=λi cs h p l m x=>by
  obtain⟨j,hj⟩:=List.mem_iff_getElem?.mp x;exact p j _ (OA (Ot.mp hj).1 h) hj l m rfl
 intro n
 induction n with
 |zero=>
  intro i cs nd s hn p
  exact done i cs (Ol (qb nd s) ()) p
 |succ n ih=>
  intro i cs nd s hn p
  unfold ip
  cases hx:cs[i]? with
  |none=>
   exact done i cs (PY.mp hx) p
  |some x=>
   obtain⟨a,b,c,t,e⟩:=xR pls (ku ls x) cs nd s λk m=>to k (Ow.mp m).1
   refine ih (i+1) _ a b () λj y hj hy l m f=>?_
   by_cases ji:j=i
   ·rw[ji,e,OR (Ot.mp hx).1,hx]at hy;exact c l (Ow.mpr {m,decide_eq_true (f.trans (Q9 hy).symm)})
   have jl:j<cs.length:=by
    have:=(Ot.mp hx).1;lia
   rw[e,OR jl]at hy
   rw[e]
   exact Oh _ (p j y () hy l m f)
theorem GO{hs:List Pt}(h:((jj N hs).map (·.1)).Nodup)(r:Int):(Xl N hs r).Nodup:=by
 unfold Xl;exact(PV.map _).nodup h
theorem Gs{d:Nat}{hs ds ms:List Pt}(O:ώ N d hs ds ms)(r:Int):∀x∈Xl N hs r,x∈aV N hs ds ms:=λx h=>by
 obtain⟨s,m,rfl⟩:=Oq.mp h;exact O.ss s (Ow.mp m).1
theorem zx{d:Nat}{hs ds ms:List Pt}(O:ώ N d hs ds ms)(b:Bool)(r:Int):∀l∈cF N b ds ms,l.fr∈j3 N b hs ds ms r->l.to∈j3 N b hs ds ms r:=
 AV (O.to b) _ _ _ (GO O.sn r) (Gs O r) (Oc _) λj _ h=>absurd h (PH j)
theorem G3{d:Nat}{hs ds ms:List Pt}(O:ώ N d hs ds ms)(b:Bool)(r:Int):(j3 N b hs ds ms r).Nodup:=by
 have:∀(n i:Nat)(cs:List Str),cs.Nodup->(∀x∈cs,x∈aV N hs ds ms)->(ip (cF N b ds ms) n i cs).Nodup:=by
  intro n;induction n with
  |zero=>exact λi cs nd _=>nd
  |succ n ih=>
   intro i cs nd s;unfold ip;cases hx:cs[i]? with
   |none=>exact nd
   |some x=>
    obtain⟨a,b',_⟩:=xR _ (ku (cF N b ds ms) x) cs nd s λk m=>O.to b k (Ow.mp m).1;exact ih _ _ a b'
 exact this _ _ _ (GO O.sn r) (Gs O r)
def xi(kx:Nat->Option Int)(kn:Nat->Int):Prop:=∀i v,kx i=Xb v->kn i=v
mutual
theorem LS{kx:Nat->Option Int}{kn:Nat->Int}(h:xi kx kn):∀t v,ð kx t=Xb v->á kn t=v
 | .leaf n r,v,e=>by
  cases r with
  |call i ts=>
   rw[ð]at e;rw[á];cases k:kx i with
   |none=>rw[k]at e;cases e
   |some w=>rw[k]at e;rw[h i w k];exact Q9 e
  |_=>simp[ð]at e;simp[á,e]
 | .aX _ _ _ _,v,e=>by rw[ð]at e;rw[á];exact Q9 e
 | .iff n v l r f o,w,e=>by
  rw[ð]at e;rw[á];cases ef:bJ kx f with
  |none=>rw[ef]at e;cases e
  |some x=>
   cases eo:bJ kx o with
   |none=>rw[ef,eo]at e;cases e
   |some y=>
    rw[ef,eo]at e;rw[iL h f x ef,iL h o y eo];change (if l+x=r+y then Xb (1+l+x)else Xc)=Xb w at e;by_cases c:l+x=r+y
    ·rw[if_pos c]at e;rw[<-c,jB,<-Int.add_assoc];exact Q9 e
    rw[if_neg c]at e;cases e
 | .loop n t m l r b,w,e=>by
  rw[ð]at e;rw[á];cases eb:bJ kx b with
  |none=>rw[eb]at e;cases e
  |some x=>
   rw[eb]at e;rw[iL h b x eb];change (if l+x=r then Xb (1+m*r)else Xc)=Xb w at e;by_cases c:l+x=r
   ·rw[if_pos c]at e;rw[c,jB];exact Q9 e
   rw[if_neg c]at e;cases e
theorem iL{kx:Nat->Option Int}{kn:Nat->Int}(h:xi kx kn):∀ts v,bJ kx ts=Xb v->aR kn ts=v
 | [],v,e=>by rw[bJ]at e;rw[aR];exact Q9 e
 |t::ts,v,e=>by
  rw[bJ]at e;rw[aR];cases et:ð kx t with
  |none=>rw[et]at e;cases e
  |some x=>
   cases es:bJ kx ts with
   |none=>rw[et,es]at e;cases e
   |some y=>
    rw[et,es]at e;rw[LS h t x et,iL h ts y es];exact Q9 e
end
theorem GK:∀(ds:List Pt)(kx:Nat->Option Int)(kn:Nat->Int),xi kx kn->xi (ds.foldl (ī bJ) kx) (ds.foldl (ī aR) kn)
 | [],_,_,h=>h
 |p::ds,kx,kn,h=>GK ds _ _ λi v e=>by
  unfold ī at e⊢;by_cases c:i=ç p
  ·rw[if_pos c]at e⊢;exact iL h _ v e
  rw[if_neg c]at e⊢;exact h i v e
theorem exA(ds:List Pt):xi (È bJ Xc ds) (È aR 0 ds):=GK ds _ _ λ_ _ e=>nomatch e
theorem Fl{ab:Int->Bool}{n l r a b:Int}(h:l+a=r+b):ĕ ab n l r a b=(l,r):=by
 unfold ĕ;split
 ·rw[h,jB,<-h];exact Te (by show l+a-a=l;lia) (by show l+a-b=r;lia)
 rfl
theorem Gq{ab:Int->Bool}{n l r a:Int}(h:l+a=r):Ĕ ab n l r a=(l,r):=by
 unfold Ĕ;split
 ·rw[h,jB];exact Te (by show r-a=l;lia) rfl
 rfl
theorem IQ{kx:Nat->Option Int}{kn:Nat->Int}(h:xi kx kn)(ab:Int->Bool):∀t,(ð kx t).isSome=true->Ě (Á ab kn t)=Ě t
 | .leaf _ _,_=>by rw[Á]
 | .aX _ _ _ _,_=>by rw[Á];rfl
 | .iff n v l r f o,e=>by
  rw[ð]at e;rw[Á];cases ef:bJ kx f with
  |none=>rw[ef]at e;cases e
  |some x=>
   cases eo:bJ kx o with
   |none=>rw[ef,eo]at e;cases e
   |some y=>
    rw[ef,eo]at e;rw[iL h f x ef,iL h o y eo];change (if l+x=r+y then Xb (1+l+x)else Xc).isSome=true at e;by_cases c:l+x=r+y
    ·rw[Fl c];rfl
    rw[if_neg c]at e;cases e
 | .loop n t m l r b,e=>by
  rw[ð]at e;rw[Á];cases eb:bJ kx b with
  |none=>rw[eb]at e;cases e
  |some x=>
   rw[eb]at e;rw[iL h b x eb];change (if l+x=r then Xb (1+m*r)else Xc).isSome=true at e;by_cases c:l+x=r
   ·rw[Gq c];rfl
   rw[if_neg c]at e;cases e
theorem xA{r:Int}:∀(cs:List Str)(g:Str->Int),cs.Nodup->∀x,(cs.foldl (ō r) g) x=if x∈cs then RH (g x) (1*2^r.toNat)else g x
 | [],g,_,x=>by simp
 |c::cs,g,nd,x=>by
  rw[OO]at nd;rw[OX,xA cs _ nd.2 x];by_cases e:x=c
  ·subst e;rw[if_neg nd.1,if_pos N9];show(if x=x then _ else _)=_;rw[if_pos rfl]
  have h:ō r g c x=g x:=if_neg e;rw[h];by_cases m:x∈cs
  ·rw[if_pos m,if_pos (N8 _ m)]
  rw[if_neg m,if_neg λz=>(Ob.mp z).elim e m]
theorem rO{α β:Type}{p}{F:β->α->β}:∀(l:List α)(g:β),(∀r∈l,p r=false->∀g,F g r=g)->(l.filter p).foldl F g=l.foldl F g
 | [],g,_=>rfl
 |r::l,g,h=>by
  rw[Qt,OX];cases e:p r with
  |true=>rw[if_pos rfl,OX];exact rO l _ λx hx=>h x (N8 _ hx)
  |false=>rw[if_neg Of,h r N9 e];exact rO l _ λx hx=>h x (N8 _ hx)
theorem HP (ls):∀n,ip ls n 0 []=[]
 |0=>rfl
 |n+1=>rfl
theorem F2:RH 0 1=1/\RH 0 2=2/\RH 1 2=3/\RH 0 4=4/\RH 1 4=5/\RH 2 4=6/\RH 3 4=7:=by decide+kernel
def bt(c:Bool):Int:=if c=true then 1 else 0
theorem EC{d:Nat}{hs ds ms:List Pt}{b:Bool}(O:ώ N d hs ds ms)(x:Str):mw N b hs ds ms x=bt (decide (x∈j3 N b hs ds ms 0))+2*bt (decide (x∈j3 N b hs ds ms 1))+4*bt (decide (x∈j3 N b hs ds ms 2)):=by
 have nd:∀r,(j3 N b hs ds ms r).Nodup:=λr=>G3 O b r;unfold mw š;rw[rO (F:=λg r=>(j3 N b hs ds ms r).foldl (ō r) g) [0,1,2] _ (λr _ h g=>by
  have e:Xl N hs r=[]:=by
   unfold Xl;rw[List.filter_eq_nil_iff.mpr]
   ·rfl
   intro s ms' z;exact of_decide_eq_false h (Oq.mpr ⟨s,ms',of_decide_eq_true z⟩)
  show(j3 N b hs ds ms r).foldl (ō r) g=g;unfold j3;rw[e,HP];rfl)]
 show((j3 N b hs ds ms 2).foldl (ō 2) ((j3 N b hs ds ms 1).foldl (ō 1) ((j3 N b hs ds ms 0).foldl (ō 0) λ_=>0))) x=_;rw[xA _ _ (nd 2),xA _ _ (nd 1),xA _ _ (nd 0)];obtain⟨o1,o2,o3,o4,o5,o6,o7⟩:=F2;have p0:(1:Int)*2^(0:Int).toNat=1:=∅
 have p1:(1:Int)*2^(1:Int).toNat=2:=∅
 have p2:(1:Int)*2^(2:Int).toNat=4:=∅
 rw[p0,p1,p2];unfold bt;by_cases h0:x∈j3 N b hs ds ms 0<;>by_cases h1:x∈j3 N b hs ds ms 1<;>by_cases h2:x∈j3 N b hs ds ms 2<;>simp[h0,h1,h2,o1,o2,o3,o4,o5,o6,o7]
def ϒ(N:Nat->Str)(hs ds ms:List Pt)(fl:Int)(x:Str):Bool:=!Az (mw N false hs ds ms x) fl
theorem IT:∀p q r p' q' r':Bool,(p=true->p'=true)->(q=true->q'=true)->(r=true->r'=true)->RW (bt p+2*bt q+4*bt r)<=RW (bt p'+2*bt q'+4*bt r'):=by decide+kernel
theorem Il{d:Nat}{hs ds ms:List Pt}(O:ώ N d hs ds ms)(fl:Int):∀l∈cF N false ds ms,ϒ N hs ds ms fl l.fr=true->ϒ N hs ds ms fl l.to=true:=λl m h=>by
 have k:∀r,decide (l.fr∈j3 N false hs ds ms r)=true->decide (l.to∈j3 N false hs ds ms r)=true:=λr z=>decide_eq_true (zx O false r l m (of_decide_eq_true z));have:=IT _ _ _ _ _ _ (k 0) (k 1) (k 2);unfold ϒ Az at h⊢;rw[EC O,P9,decide_eq_false_iff_not]at h⊢;lia
def upC(N:Nat->Str)(u:Str->Bool)(ab:Int->Bool)(e:Le):Prop:=∀q,e.2.1=Xb q->u q=true->((e.1.ci=11\/e.1.ci=12)->u (a9 e.1.no)=true/\ab e.1.no=true)/\∀n i ts,e.1=.leaf n (.call i ts)->u (N i)=true
theorem EJ{a b:Option Int}(h1:a.isSome=true)(h2:b.isSome=true):(oJ a b).isSome=true:=by
 cases a with
 |none=>cases h1
 |some a=>cases b with
  |none=>cases h2
  |some b=>rfl
mutual
theorem Jl{u:Str->Bool}{ab:Int->Bool}{kn:Nat->Int}{kx:Nat->Option Int}{idx:List Nat}(hk:∀i∈idx,u (N i)=true->(kx i).isSome=true)(hm:xi kx kn):∀(t:Pt)(lp:Option Str),(∀e∈ba lp t,upC N u ab e)->ß idx t->
  ((t.ci=11\/t.ci=12)->u (a9 t.no)=true/\ab t.no=true)->(∀n i ts,t=.leaf n (.call i ts)->u (N i)=true)->(ð kx (Á ab kn t)).isSome=true
 | .leaf n r,lp,_,c,_,h2=>by
  rw[Á];cases r with
  |call i ts=>
   unfold ß at c;have:=hk i c (h2 n i ts rfl);rw[ð];cases e:kx i with
   |none=>rw[e]at this;cases this
   |some v=>rfl
  |_=>simp[ð]
 | .aX _ _ _ _,_,_,_,_,_=>by rw[Á,ð];rfl
 | .iff n v l r f o,lp,h,c,h1,_=>by
  obtain⟨u1,a1⟩:=h1 (.inl rfl);change u (a9 n)=true at u1;change ab n=true at a1;unfold ß at c;rw[ba]at h;have s1:=uP hk hm f (a9 n) lp u1 (λe m=>h e (Oh _ m)) c.1;have s2:=uP hk hm o (a9 n) lp u1 (λe m=>h e (Od _ m)) c.2;rw[Á,ð];cases e1:bJ kx (bq ab kn f)with
  |none=>rw[e1]at s1;cases s1
  |some x=>
   cases e2:bJ kx (bq ab kn o)with
   |none=>rw[e2]at s2;cases s2
   |some y=>
    have m1:=iL hm _ x e1;have m2:=iL hm _ y e2;rw[iZ]at m1 m2;rw[m1,m2,show ĕ ab n l r x y=(mx (l+x) (r+y)-x,mx (l+x) (r+y)-y)from if_pos a1];show(if mx (l+x) (r+y)-x+x=mx (l+x) (r+y)-y+y then Xb _ else Xc:Option Int).isSome=true;rw[if_pos (by rw[OU,OU])];rfl
 | .loop n t m l r b,lp,h,c,h1,_=>by
  obtain⟨u1,a1⟩:=h1 (.inr rfl);change u (a9 n)=true at u1;change ab n=true at a1;unfold ß at c;rw[ba]at h;have s1:=uP hk hm b (a9 n) _ u1 h c.2.2;rw[Á,ð];cases e1:bJ kx (bq ab kn b)with
  |none=>rw[e1]at s1;cases s1
  |some x=>
   have m1:=iL hm _ x e1;rw[iZ]at m1;rw[m1,show Ĕ ab n l r x=(mx (l+x) r-x,mx (l+x) r)from if_pos a1];show(if mx (l+x) r-x+x=mx (l+x) r then Xb _ else Xc:Option Int).isSome=true;rw[if_pos (OU _ _)];rfl
theorem uP{u:Str->Bool}{ab:Int->Bool}{kn:Nat->Int}{kx:Nat->Option Int}{idx:List Nat}(hk:∀i∈idx,u (N i)=true->(kx i).isSome=true)(hm:xi kx kn):∀(ts:List Pt)(q:Str)(lp:Option Str),u q=true->(∀e∈bg (Xb q) lp ts,upC N u ab e)->fC idx ts->(bJ kx (bq ab kn ts)).isSome=true
 | [],_,_,_,_,_=>by rw[bq,bJ];rfl
 |t::ts,q,lp,hq,h,c=>by
  unfold fC at c;rw[bg]at h;have h0:=h _ N9 q rfl hq;rw[bq,bJ];exact EJ (Jl hk hm t lp (λe m=>h e (N8 _ (Oh _ m))) c.1 h0.1 h0.2) (uP hk hm ts q lp hq (λe m=>h e (N8 _ (Od _ m))) c.2)
end
theorem BE{l:Lk}{fs:List (Option Str)}{into kd:Str}{n:Int}:l∈ğ fs into kd n↔∃x,Xb x∈fs/\x≠into/\l=⟨x,into,kd,n⟩:=by
 unfold ğ;rw[Oq];constructor
 ·rintro⟨f,hf,rfl⟩;obtain⟨h1,h2⟩:=Ow.mp hf;cases f with
  |none=>cases h2
  |some x=>exact{x,h1,(λe=>(by rw[show drP into (Xb x)=!decide (x=into)from rfl,decide_eq_true e]at h2;cases h2)),rfl}
 rintro⟨x,h1,h2,rfl⟩;exact{Xb x,Ow.mpr {h1,by show(!decide (x=into))=true;rw[decide_eq_false h2];rfl},rfl}
theorem FT{u:Str->Bool}{ab:Int->Bool}{po:Str->List Str}{e:Le}(cl:∀l∈oF N po e.1 e.2.1 e.2.2,u l.fr=true->u l.to=true)(hab:(e.1.ci=11\/e.1.ci=12)->u (a9 e.1.no)=true->ab e.1.no=true):upC N u ab e:=by
 obtain⟨t,pl,lp⟩:=e;rintro q (rfl:pl=Xb q) hq;have und:∀{into kd:Str}{n:Int}{ls:List Lk},(∀l∈ğ [Xb q] into kd n,l∈ls)->(∀l∈ls,u l.fr=true->u l.to=true)->u into=true:=λ{into kd n ls} s c=>by
  by_cases e:q=into
  ·exact e▸hq
  exact c ⟨q,into,kd,n⟩ (s _ (BE.mpr ⟨q,N9,e,rfl⟩)) hq
 constructor
 ·intro hc;have k:u (a9 t.no)=true:=by
   cases t with
   |leaf n r=>exact absurd hc (by cases r<;>simp[Pt.ci,Lr.ci])
   |aX _ _ _ _=>exact absurd hc (by simp[Pt.ci])
   |iff n v l r f o=>exact und (λl m=>Od _ m) cl
   |loop n t m l r b=>exact und (λl m=>Od _ m) cl
  exact⟨k,hab hc k⟩
 rintro n i ts rfl;refine und (into:=N i) (kd:="under") (n:=n) (λl m=>Od _ ?_) cl;exact ON.mpr {N i,Od _ N9,m}
theorem CM{α:Type}(g:(Nat->α)->List Pt->α)(z:α){i:Nat}:∀(xs:List Pt)(k:Nat->α),i∉xs.map ç->(xs.foldl (ī g) k) i=k i
 | [],_,_=>rfl
 |p::xs,k,h=>by
  rw[Ox,Ob,not_or]at h;rw[OX,CM g z xs _ h.2];exact if_neg h.1
mutual
theorem Hv{e:Le}:∀(t:Pt)(lp:Option Str),e∈ba lp t->∀x∈ba e.2.2 e.1,x∈ba lp t
 | .leaf _ _,lp,h,x,hx=>by rw[ba]at h;cases h
 | .aX _ _ _ _,lp,h,x,hx=>by rw[ba]at h;cases h
 | .iff n v l r f o,lp,h,x,hx=>by
  rw[ba]at h⊢;rcases Og.mp h with h|h
  ·exact Oh _ (kB f _ _ h x hx)
  exact Od _ (kB o _ _ h x hx)
 | .loop n t m l r b,lp,h,x,hx=>by
  rw[ba]at h⊢;exact kB b _ _ h x hx
theorem kB{e:Le}:∀(ts:List Pt)(pl lp:Option Str),e∈bg pl lp ts->∀x∈ba e.2.2 e.1,x∈bg pl lp ts
 | [],_,_,h,_,_=>by rw[bg]at h;cases h
 |t::ts,pl,lp,h,x,hx=>by
  rw[bg]at h⊢;rcases Ob.mp h with rfl|h
  ·exact N8 _ (Oh _ hx)
  rcases Og.mp h with h|h
  ·exact N8 _ (Oh _ (Hv t lp h x hx))
  exact N8 _ (Od _ (kB ts pl lp h x hx))
end
theorem EM{ds ms:List Pt}{e:Le}(h:e∈bj N ds ms):∀x∈ba e.2.2 e.1,x∈bj N ds ms:=λx hx=>by
 unfold bj at h⊢;rcases Og.mp h with h|h
 ·unfold gM at h⊢;obtain⟨p,mp,h⟩:=ON.mp h;exact Oh _ (ON.mpr {p,mp,kB _ _ _ h x hx})
 exact Od _ (kB _ _ _ h x hx)
theorem GA{hs ds ms:List Pt}{fl:Int}{e:Le}(h:e∈bj N ds ms)(c:e.1.ci=11\/e.1.ci=12)(u:ϒ N hs ds ms fl (a9 e.1.no)=true):e∈jv N hs ds ms fl:=by
 refine Ow.mpr {h,?_};unfold gQ fV;unfold ϒ at u;rw[u,Bool.and_true];rcases c with c|c<;>rw[decide_eq_true c]<;>simp
theorem Et{hs ds ms:List Pt}{fl:Int}{e:Le}(h:e∈jv N hs ds ms fl):ó N hs ds ms fl e.1.no=true:=decide_eq_true (OJ (f:=λe:Le=>e.1.no) h)
theorem Cv{d:Nat}{hs ds ms:List Pt}(O:ώ N d hs ds ms)(fl:Int):∀e∈bj N ds ms,upC N (ϒ N hs ds ms fl) (ó N hs ds ms fl) e:=λe m=>
 FT (po:=ô N ds) (λl hl=>Il O fl l (ON.mpr {e,m,Oh _ hl})) λc u=>Et (GA m c u)
theorem Jj{d:Nat}{ds:List Pt}(O:pQ N d ds)(k5:∀p∈ds,fE (b7 p))(ab:Int->Bool){j:Nat}(hj:j<=ds.length):xi (È bJ Xc ((ds.map (Á ab (È aR 0 ds))).take j)) (È aR 0 ds):=λi v e=>by
 have hi:i∈(ds.take j).map ç:=by
  by_cases c:i∈(ds.take j).map ç
  ·exact c
  have:È bJ Xc ((ds.map (Á ab (È aR 0 ds))).take j) i=Xc:=CM bJ (Xc:Option Int) _ (λ_=>Xc) (by rw[Qm,qt,<-Qm];exact c);rw[this]at e;cases e
 rw[GL O aR 0 hj i hi,<-Ak O k5 ab j hj];exact exA _ i v e
theorem Jd{d:Nat}{hs ds ms:List Pt}(O:ώ N d hs ds ms)(k5:∀p∈ds,fE (b7 p))(fl:Int):∀j,j<=ds.length->∀i∈(ds.take j).map ç,ϒ N hs ds ms fl (N i)=true->
  (È bJ Xc ((ds.map (Á (ó N hs ds ms fl) (È aR 0 ds))).take j) i).isSome=true
 |0,_,i,h,_=>by rw[P5]at h;cases h
 |j+1,hj,i,h,u=>by
  have hl:j<ds.length:=hj;have e:=Oa hl;have st:È bJ Xc ((ds.map (Á (ó N hs ds ms fl) (È aR 0 ds))).take (j+1))=ī bJ (È bJ Xc ((ds.map (Á (ó N hs ds ms fl) (È aR 0 ds))).take j)) (Á (ó N hs ds ms fl) (È aR 0 ds) ds[j]):=dH (ī bJ) (λ_=>Xc) (by rw[Oi,e];rfl);have ih:=Jd O k5 fl j (Pe hl);have hm:=Jj O.l.dk k5 (ó N hs ds ms fl) (Pe hl);rw[st];unfold ī;rw[uI,iW];by_cases c:i=ç ds[j]
  ·rw[if_pos c];have mt:ds[j]∈ds:=Qf hl;have dt:=O.l.dk.aX _ mt;have ct:=O.l.dk.ck j _ e;have lu:∀x∈bg (Xb (ë N ds[j])) Xc (b7 ds[j]),upC N (ϒ N hs ds ms fl) (ó N hs ds ms fl) x:=λx hx=>Cv O fl x (Oh _ (ON.mpr {_,mt,hx}));have nm:ë N ds[j]=N i:=by
    rw[c];generalize ds[j]=t at dt;cases t with
    |aX n i' ps b=>rfl
    |_=>exact dt.elim
   rw[nm]at lu;exact uP ih hm _ _ _ u lu ct
  rw[if_neg c];refine ih i ?_ u;rw[OG,e,OB]at h;rcases Og.mp h with h|h
  ·exact h
  exact absurd (N4.mp h) c
theorem IY{d:Nat}{hs ds ms:List Pt}(O:ώ N d hs ds ms)(k5:∀p∈ds,fE (b7 p))(fl:Int):Ŝ N hs (ds.map (Á (ó N hs ds ms fl) (È aR 0 ds))) (bq (ó N hs ds ms fl) (È aR 0 ds) ms) fl=[]:=by
 unfold Ŝ;rw[Gd,List.filter_eq_nil_iff.mpr,P2];intro e' m;obtain⟨e,me,rfl⟩:=Oq.mp m;obtain⟨m1,m2⟩:=Ow.mp me;have hk:=Jd O k5 fl ds.length (Oc _);have hm:=Jj O.l.dk k5 (ó N hs ds ms fl) (Oc ds.length);rw[Ov]at hk;rw[<-N3 (f:=Á (ó N hs ds ms fl) (È aR 0 ds)),Ov]at hm hk;unfold gQ fV at m2;have m3:=Ph.mp m2;have c:e.1.ci=11\/e.1.ci=12:=(OS.mp m3.1).imp of_decide_eq_true of_decide_eq_true;have:=Jl (u:=ϒ N hs ds ms fl) (ab:=ó N hs ds ms fl) hk hm e.1 e.2.2 (λx hx=>Cv O fl x (EM m1 x hx)) (O.l.ck e m1).1 (λ_=>⟨m3.2,Et me⟩) (λn i ts z=>absurd c (by rw[z];simp[Pt.ci,Lr.ci]));show ¬ ś _ (ϝ _ _ e)=true;unfold ś;show ¬ (!(ð _ (Á _ _ e.1)).isSome)=true;rw[this];decide
mutual
theorem Ij{u:Pt}:∀(t:Pt)(pl lp:Option Str),u∈ė t->∃e∈(t,pl,lp)::ba lp t,e.1=u
 | .leaf _ _,_,_,h=>absurd h Ou
 | .aX _ _ _ _,_,_,h=>absurd h Ou
 | .iff n v l r f o,pl,lp,h=>by
  rw[ė]at h;rw[ba];rcases Ob.mp h with rfl|h
  ·exact{_,N9,rfl}
  rcases Og.mp h with h|h
  ·obtain⟨e,m,z⟩:=iB f (Xb (a9 n)) lp h;exact{e,N8 _ (Oh _ m),z}
  obtain⟨e,m,z⟩:=iB o (Xb (a9 n)) lp h;exact{e,N8 _ (Od _ m),z}
 | .loop n t m l r b,pl,lp,h=>by
  rw[ė]at h;rw[ba];rcases Ob.mp h with rfl|h
  ·exact{_,N9,rfl}
  obtain⟨e,m,z⟩:=iB b (Xb (a9 n)) (Xb (a9 n)) h;exact{e,N8 _ m,z}
theorem iB{u:Pt}:∀(ts:List Pt)(pl lp:Option Str),u∈cq ts->∃e∈bg pl lp ts,e.1=u
 | [],_,_,h=>by rw[cq]at h;cases h
 |t::ts,pl,lp,h=>by
  rw[cq]at h;rw[bg];rcases Og.mp h with h|h
  ·obtain⟨e,m,z⟩:=Ij t pl lp h;rcases Ob.mp m with m|m
   ·exact{e,m▸N9,z}
   exact{e,N8 _ (Oh _ m),z}
  obtain⟨e,m,z⟩:=iB ts pl lp h;exact{e,N8 _ (Od _ m),z}
end
theorem Ex{ds ms:List Pt}{u:Pt}(h:u∈gP ds++cq ms):∃e∈bj N ds ms,e.1=u:=by
 unfold bj gM;rcases Og.mp h with h|h
 ·obtain⟨p,mp,h⟩:=ON.mp h;obtain⟨e,m,z⟩:=iB (b7 p) (Xb (ë N p)) Xc h;exact{e,Oh _ (ON.mpr ⟨p,mp,m⟩),z}
 obtain⟨e,m,z⟩:=iB ms Xc Xc h;exact{e,Od _ m,z}
theorem IL(ab:Int->Bool)(kn:Nat->Int):∀t,ab t.no=false->Ě (Á ab kn t)=Ě t
 | .leaf _ _,_=>by rw[Á]
 | .aX _ _ _ _,_=>by rw[Á];rfl
 | .iff n v l r f o,h=>by
  rw[Á,show ĕ ab n l r (aR kn f) (aR kn o)=(l,r)from if_neg (by rw[show ab n=false from h];exact Of)];rfl
 | .loop n t m l r b,h=>by
  rw[Á,show Ĕ ab n l r (aR kn b)=(l,r)from if_neg (by rw[show ab n=false from h];exact Of)];rfl
theorem Ir{hs ds ms:List Pt}{fl:Int}{t:Pt}(h:t∈gP ds++cq ms)(ne:Ě (Á (ó N hs ds ms fl) (È aR 0 ds) t)≠Ě t):t.no∈Ŝ N hs ds ms fl:=by
 obtain⟨e,m,rfl⟩:=Ex (N:=N) h;have c:e.1.ci=11\/e.1.ci=12:=by
  rcases Og.mp h with h|h
  ·obtain⟨p,_,h⟩:=ON.mp h;exact fQ _ _ h
  exact fQ _ _ h
 have ha:ó N hs ds ms fl e.1.no=true:=by
  cases z:ó N hs ds ms fl e.1.no with
  |true=>rfl
  |false=>exact absurd (IL _ _ _ z) ne
 obtain⟨e',m',z'⟩:=Oq.mp (of_decide_eq_true ha);have u:ϒ N hs ds ms fl (a9 e.1.no)=true:=by
  have:=(Ph.mp (Ow.mp m').2).2;rw[show e'.1.no=e.1.no from z']at this;exact this
 refine Oq.mpr {e,Ow.mpr {GA m c u,?_},rfl};unfold ś;cases z:(ð (È bJ Xc ds) e.1).isSome with
 |false=>rfl
 |true=>exact absurd (IQ (exA ds) _ _ z) ne
theorem Mp{d:Nat}{hs ds ms:List Pt}(O:Ok N d hs ds ms)(fl:Int):(Ŝ N hs ds ms fl).Nodup:=by
 have nd:=O.nd;unfold aV at nd;have n1:(fz (bj N ds ms)).Nodup:=(O5.mp (O5.mp nd).1).2.1;unfold fz at n1;unfold Ŝ jv;rw[Ql];have sub:((bj N ds ms).filter λa=>ś ds a&&gQ N hs ds ms fl a).Sublist ((bj N ds ms).filter λe=>iw e.1):=by
  have:((bj N ds ms).filter λa=>ś ds a&&gQ N hs ds ms fl a)=((bj N ds ms).filter λe=>iw e.1).filter λa=>ś ds a&&gQ N hs ds ms fl a:=by
   rw[Ql];refine List.filter_congr λe _=>?_;cases z:(ś ds e&&gQ N hs ds ms fl e)with
   |false=>rfl
   |true=>
    have h:=(Ph.mp (Ph.mp z).2).1;unfold fV at h;rw[PQ];unfold iw;rcases OS.mp h with h|h<;>rw[h]<;>simp
  rw[this];exact PV
 have n2:=(sub.map λe:Le=>a9 e.1.no).nodup n1;have n3:=n2;rw[show(λe:Le=>a9 e.1.no)=a9∘λe:Le=>e.1.no from rfl,<-OQ]at n3;exact List.Pairwise.of_map a9 (λa b h e=>h (by rw[e])) n3
theorem Ed(hs ds ms:List Pt)(f1 f2:Int):(λn=>ó N hs ds ms f1 n||ó N hs ds ms f2 n)=ó N hs ds ms (if f2<f1 then f2 else f1):=by
 funext n
 have key:∀e:Le,gQ N hs ds ms (if f2<f1 then f2 else f1) e=(gQ N hs ds ms f1 e||gQ N hs ds ms f2 e):=λe=>by
  unfold gQ Az;generalize (RW (mw N false hs ds ms (a9 e.1.no)):Int)-1=k;cases fV e.1 with
  |false=>rfl
  |true=>
   rw[PQ,PQ,PQ,OW,OS,P9,P9,P9,decide_eq_false_iff_not,decide_eq_false_iff_not,decide_eq_false_iff_not];split<;>lia
 rw[OW,OS];unfold ó jv;rw[decide_eq_true_iff,decide_eq_true_iff,decide_eq_true_iff];constructor
 ·rintro(h|h)<;>
  ·obtain⟨e,m,z⟩:=Oq.mp h;obtain⟨m1,m2⟩:=Ow.mp m;refine Oq.mpr {e,Ow.mpr {m1,?_},z};rw[key,m2];simp
 intro h;obtain⟨e,m,z⟩:=Oq.mp h;obtain⟨m1,m2⟩:=Ow.mp m;rw[key]at m2;rcases OS.mp m2 with m2|m2
 ·exact .inl (Oq.mpr {e,Ow.mpr ⟨m1,m2⟩,z})
 exact .inr (Oq.mpr {e,Ow.mpr ⟨m1,m2⟩,z})
structure ŗ(N:Nat->Str)(d:Nat)(hs ds ms:List Pt):Prop where
 ok:Ok N d hs ds ms
 dk:pQ N d ds
 nn:(ds.map (ë N)).Nodup
 pn:∀p∈ds,(Ē N p).length<=100
 k5:∀e∈bj N ds ms,k5 e.1=true
 lo:∀e∈bj N ds ms,ϱ e.1 e.2.2
 cal:∀e∈bj N ds ms,rV N (ô N ds) (ds.map (ë N)) e.1
 ck:∀e∈bj N ds ms,ß (ds.map ç) e.1/\dep e.1<=d
 ll:(cF N false ds ms).length<=800
 fr:∀l∈cF N false ds ms,l.fr∈aV N hs ds ms
 to:∀l∈cF N false ds ms,l.to∈aV N hs ds ms
 rk:∀s∈jj N hs,s.2=0\/s.2=1\/s.2=2
 sn:((jj N hs).map (·.1)).Nodup
 ss:∀s∈jj N hs,s.1∈aV N hs ds ms
 ab:(bj N ds ms).length<64
 hd:∀p∈hs,J7 p=true
 db:∀p∈ds,(b7 p).length<=900/\ix (b7 p)/\fE (b7 p)/\fC (ds.map ç) (b7 p)
 ml:ms.length<=900
 mlo:ix ms
 mk5:fE ms
 mck:fC (ds.map ç) ms
theorem wy(N:Nat->Str)(ds:List Pt):∀es:List Le,(es.flatMap (qG N true ds)).length<=(es.flatMap (qG N false ds)).length+es.length
 | []=>Oc _
 |e::es=>by
  have h1:=wy N ds es;have h2:=Ea (È bJ Xc ds) e.1;rw[Pw,Pw,N7,N7,OE];have e1:(qG N true ds e).length=(oF N (ô N ds) e.1 e.2.1 e.2.2).length+(tE (È bJ Xc ds) e.1).length:=N7;have e2:(qG N false ds e).length=(oF N (ô N ds) e.1 e.2.1 e.2.2).length+0:=N7;lia
theorem zY{hs ds ms:List Pt}:("the clock":Str)∈aV N hs ds ms:=Od _ N9
theorem AU{hs ds ms:List Pt}{e:Le}(h:e∈bj N ds ms)(p:iw e.1=true):a9 e.1.no∈aV N hs ds ms:=
 Oh _ (Od _ (Oq.mpr {e,Ow.mpr ⟨h,p⟩,rfl}))
theorem Aj{hs ds ms:List Pt}(f:∀l∈cF N false ds ms,l.fr∈aV N hs ds ms/\l.to∈aV N hs ds ms):∀b,∀l∈cF N b ds ms,l.fr∈aV N hs ds ms/\l.to∈aV N hs ds ms:=λb l h=>by
 obtain⟨e,m,h⟩:=ON.mp h;rcases Og.mp h with h|h
 ·exact f l (ON.mpr {e,m,Oh _ h})
 unfold IV at h;split at h
 ·unfold tE at h;split at h
  ·next c=>
   rw[N4.mp h];refine{zY,AU m ?_};unfold A8 at c;unfold iw;rw[c];simp
  split at h
  ·next c=>
   rw[N4.mp h];refine{AU m ?_,zY};have c:=c.1;unfold zX at c;unfold iw;rcases OS.mp c with c|c<;>rw[c]<;>simp
  cases h
 cases h
theorem ŗ.e{d:Nat}{hs ds ms:List Pt}(G:ŗ N d hs ds ms):OkE N d hs ds ms:=by
 have en:=Aj (hs:=hs) λl h=>⟨G.fr l h,G.to l h⟩;have ll:∀b,(cF N b ds ms).length<=900:=λb=>by
  have h1:=G.ll;have h2:=G.ab;have h3:=wy N ds (bj N ds ms);unfold cF at h1⊢;cases b with
  |false=>lia
  |true=>lia
 have l:OkL N d hs ds ms:=⟨G.ok,G.dk,G.nn,G.pn,G.k5,G.lo,G.cal,ll,G.ck⟩;refine{{{l,λb l h=>(en b l h).1,λb l h=>(en b l h).2,G.rk,G.sn,G.ss},G.ck,λfl=>?_},G.hd,G.db,G.ml,G.mlo,G.mk5,G.mck};have h1:(jv N hs ds ms fl).length<=(bj N ds ms).length:=OM _ _;have h2:=G.ab;lia
theorem qe(ab:Int->Bool)(kn:Nat->Int)(ts:List Pt):(bq ab kn ts).length=ts.length:=by rw[u6,N3]
mutual
theorem GI(ab:Int->Bool)(kn:Nat->Int):∀t,dep (Á ab kn t)=dep t
 | .leaf _ _=>by rw[Á]
 | .aX _ _ _ _=>by rw[Á,dep,dep]
 | .iff n v l r f o=>by rw[Á,dep,dep,k8 ab kn f,k8 ab kn o]
 | .loop n t m l r b=>by rw[Á,dep,dep,k8 ab kn b]
theorem k8(ab:Int->Bool)(kn:Nat->Int):∀ts,gw (bq ab kn ts)=gw ts
 | []=>by rw[bq]
 |t::ts=>by rw[bq,gw,gw,GI ab kn t,k8 ab kn ts]
end
mutual
theorem Fc{idx:List Nat}(ab:Int->Bool)(kn:Nat->Int):∀t,ß idx t->ß idx (Á ab kn t)
 | .leaf _ _,h=>by rw[Á];exact h
 | .aX _ _ _ _,h=>by rw[Á];unfold ß;exact Oy
 | .iff n v l r f o,h=>by
  unfold ß at h;rw[Á];unfold ß;exact⟨kZ ab kn f h.1,kZ ab kn o h.2⟩
 | .loop n t m l r b,h=>by
  unfold ß at h;rw[Á];unfold ß;exact⟨h.1,h.2.1,kZ ab kn b h.2.2⟩
theorem kZ{idx:List Nat}(ab:Int->Bool)(kn:Nat->Int):∀ts,fC idx ts->fC idx (bq ab kn ts)
 | [],_=>by rw[bq];unfold fC;exact Oy
 |t::ts,h=>by
  unfold fC at h;rw[bq];unfold fC;exact⟨Fc ab kn t h.1,kZ ab kn ts h.2⟩
end
mutual
theorem JY(ab:Int->Bool)(kn:Nat->Int):∀t,Ċ t->Ċ (Á ab kn t)
 | .leaf _ _,h=>by rw[Á];exact h
 | .aX _ _ _ _,h=>by rw[Á];unfold Ċ;exact Oy
 | .iff n v l r f o,h=>by
  unfold Ċ at h;rw[Á];unfold Ċ;rw[qe,qe];exact⟨h.1,h.2.1,nU ab kn f h.2.2.1,nU ab kn o h.2.2.2⟩
 | .loop n t m l r b,h=>by
  unfold Ċ at h;rw[Á];unfold Ċ;rw[qe];exact⟨h.1,nU ab kn b h.2⟩
theorem nU(ab:Int->Bool)(kn:Nat->Int):∀ts,ix ts->ix (bq ab kn ts)
 | [],_=>by rw[bq];unfold ix;exact Oy
 |t::ts,h=>by
  unfold ix at h;rw[bq];unfold ix;exact⟨JY ab kn t h.1,nU ab kn ts h.2⟩
end
mutual
theorem Jw(ab:Int->Bool)(kn:Nat->Int):∀t,ø t->ø (Á ab kn t)
 | .leaf _ _,h=>by rw[Á];exact h
 | .aX _ _ _ _,h=>by unfold ø at h;exact h.elim
 | .iff n v l r f o,h=>by
  unfold ø at h;rw[Á];unfold ø;exact⟨oy ab kn f h.1,oy ab kn o h.2⟩
 | .loop n t m l r b,h=>by
  unfold ø at h;rw[Á];unfold ø;exact oy ab kn b h
theorem oy(ab:Int->Bool)(kn:Nat->Int):∀ts,fE ts->fE (bq ab kn ts)
 | [],_=>by rw[bq];unfold fE;exact Oy
 |t::ts,h=>by
  unfold fE at h;rw[bq];unfold fE;exact⟨Jw ab kn t h.1,oy ab kn ts h.2⟩
end
theorem vH(ab:Int->Bool)(kn:Nat->Int):∀t,xa t->xa (Á ab kn t)
 | .aX _ _ _ _,_=>by rw[Á];exact Oy
 | .leaf _ _,h=>h.elim
 | .iff _ _ _ _ _ _,h=>h.elim
 | .loop _ _ _ _ _ _,h=>h.elim
theorem MH(ab:Int->Bool)(kn:Nat->Int):∀t,k5 (Á ab kn t)=k5 t
 | .leaf _ _=>by rw[Á]
 | .aX _ _ _ _=>by rw[Á];rfl
 | .iff _ _ _ _ _ _=>by rw[Á];rfl
 | .loop _ _ _ _ _ _=>by rw[Á];rfl
theorem KC{po:Str->List Str}{nm:List Str}(ab:Int->Bool)(kn:Nat->Int):∀t,rV N po nm t->rV N po nm (Á ab kn t)
 | .leaf _ _,h=>by rw[Á];exact h
 | .aX _ _ _ _,h=>by rw[Á];exact Oy
 | .iff _ _ _ _ _ _,h=>by rw[Á];exact Oy
 | .loop _ _ _ _ _ _,h=>by rw[Á];exact Oy
theorem ŗ.ev{d:Nat}{hs ds ms:List Pt}(G:ŗ N d hs ds ms)(ab:Int->Bool)(kn:Nat->Int):ŗ N d hs (ds.map (Á ab kn)) (bq ab kn ms):=by
 have pm:ô N (ds.map (Á ab kn))=ô N ds:=funext λx=>AW ab kn x ds;have nm:(ds.map (Á ab kn)).map (ë N)=ds.map (ë N):=by
  rw[OQ];exact O9 λt _=>xZ ab kn t
 have la:∀{p:Le->Prop},(∀e∈bj N ds ms,p (ϝ ab kn e))->∀e∈bj N (ds.map (Á ab kn)) (bq ab kn ms),p e:=λh e m=>by
  rw[ot]at m;obtain⟨e',m',rfl⟩:=Oq.mp m;exact h e' m'
 have da:∀{p:Pt->Prop},(∀t∈ds,p (Á ab kn t))->∀t∈ds.map (Á ab kn),p t:=λh t m=>by
  obtain⟨t',m',rfl⟩:=Oq.mp m;exact h t' m'
 refine{{da λt m=>{vH ab kn t (G.ok.aX t m).1,by rw[iW,k8];exact(G.ok.aX t m).2},by rw[k8];exact G.ok.main,?_,by rw[ot,N3];exact G.ok.ln,G.ok.hl,by rw[iD];exact G.ok.pl,by rw[iD];exact G.ok.nd},{da λt m=>vH ab kn t (G.dk.aX t m),da λt m=>by rw[iW,k8];exact G.dk.dp t m,?_,?_,by rw[N3];exact G.dk.ln},by rw[nm];exact G.nn,da λt m=>by rw[Bm];exact G.pn t m,la λe m=>by show K52.k5 (Á ab kn e.1)=true;rw[MH];exact G.k5 e m,?_,?_,?_,by rw[qD];exact G.ll,?_,?_,G.rk,G.sn,by rw[iD];exact G.ss,by rw[ot,N3];exact G.ab,G.hd,?_,by rw[qe];exact G.ml,nU ab kn ms G.mlo,oy ab kn ms G.mk5,by rw[qt];exact kZ ab kn ms G.mck}
 ·exact la λe m=>by show 0<=(Á ab kn e.1).no/\(Á ab kn e.1).no<=1000;rw[Cg];exact G.ok.nb e m
 ·intro i p h;rw[Oi]at h;cases e:ds[i]? with
  |none=>rw[e]at h;cases h
  |some t=>
   rw[e]at h;cases h;rw[<-Qm,qt,iW];exact kZ ab kn _ (G.dk.ck i t e)
 ·intro i j p q hp hq e;rw[Oi]at hp hq;cases e1:ds[i]? with
  |none=>rw[e1]at hp;cases hp
  |some t=>
   cases e2:ds[j]? with
   |none=>rw[e2]at hq;cases hq
   |some u=>
    rw[e1]at hp;rw[e2]at hq;cases hp;cases hq;rw[uI,uI]at e;exact G.dk.nm i j t u e1 e2 e
 ·exact la λe m=>by
   show ϱ (Á ab kn e.1) e.2.2;unfold ϱ;rw[EZ];exact G.lo e m
 ·rw[pm,nm];exact la λe m=>KC ab kn e.1 (G.cal e m)
 ·rw[qt];exact la λe m=>{Fc ab kn e.1 (G.ck e m).1,by show dep (Á ab kn e.1)<=d;rw[GI];exact(G.ck e m).2}
 ·rw[qD,iD];exact G.fr
 ·rw[qD,iD];exact G.to
 refine da λt m=>?_;obtain⟨h1,h2,h3,h4⟩:=G.db t m;rw[qt,iW,qe];exact{h1,nU ab kn _ h2,oy ab kn _ h3,kZ ab kn _ h4}
end
section
variable{N:Nat->Str}{E:En}{kn:Nat}
mutual
theorem rw_k5r:∀r:Rw,ø r.pt
 | .set _ _ _=>by rw[Rw.pt];unfold ø;rfl
 | .put _ _ _ _=>by rw[Rw.pt];unfold ø;rfl
 | .snd _ _ _=>by rw[Rw.pt];unfold ø;rfl
 | .say _ _ _ _=>by rw[Rw.pt];unfold ø;rfl
 | .last _=>by rw[Rw.pt];unfold ø;rfl
 | .call _ _ _=>by rw[Rw.pt];unfold ø;rfl
 | .iff _ _ f o _ _=>by rw[Rw.pt];unfold ø;exact⟨gB f,gB o⟩
 | .loop _ _ _ b _ _=>by rw[Rw.pt];unfold ø;exact gB b
theorem gB:∀rs:List Rw,fE (Î rs)
 | []=>by rw[Î];unfold fE;exact Oy
 |r::rs=>by rw[Î];unfold fE;exact⟨rw_k5r r,gB rs⟩
end
mutual
theorem Kz:∀(t:Pt)(lp:Option Str),ø t->∀e∈ba lp t,k5 e.1=true
 | .leaf _ _,_,_,e,m=>by rw[ba]at m;cases m
 | .aX _ _ _ _,_,_,e,m=>by rw[ba]at m;cases m
 | .iff n v l r f o,lp,h,e,m=>by
  unfold ø at h;rw[ba]at m;rcases Og.mp m with m|m
  ·exact lK f _ _ h.1 e m
  exact lK o _ _ h.2 e m
 | .loop n t m' l r b,lp,h,e,m=>by
  unfold ø at h;rw[ba]at m;exact lK b _ _ h e m
theorem lK:∀(ts:List Pt)(pl lp:Option Str),fE ts->∀e∈bg pl lp ts,k5 e.1=true
 | [],_,_,_,e,m=>by rw[bg]at m;cases m
 |t::ts,pl,lp,h,e,m=>by
  unfold fE at h;rw[bg]at m;rcases Ob.mp m with rfl|m
  ·have h1:=h.1;cases t with
   |leaf n r=>unfold ø at h1;exact h1
   |aX=>unfold ø at h1;exact h1.elim
   |iff=>rfl
   |loop=>rfl
  rcases Og.mp m with m|m
  ·exact Kz t lp h.1 e m
  exact lK ts pl lp h.2 e m
end
mutual
theorem GV:∀(r:Rw)(lp:Option Str),(ba lp r.pt).length+1=r.cnt
 | .set _ _ _,_=>by rw[Rw.pt,ba];rfl
 | .put _ _ _ _,_=>by rw[Rw.pt,ba];rfl
 | .snd _ _ _,_=>by rw[Rw.pt,ba];rfl
 | .say _ _ _ _,_=>by rw[Rw.pt,ba];rfl
 | .last _,_=>by rw[Rw.pt,ba];rfl
 | .call _ _ _,_=>by rw[Rw.pt,ba];rfl
 | .iff n _ f o _ _,lp=>by
  rw[Rw.pt,ba,N7,kY f,kY o,Rw.cnt,Qy]
 | .loop n _ _ b _ _,lp=>by
  rw[Rw.pt,ba,kY b,Rw.cnt,Qy]
theorem kY:∀(rs:List Rw)(pl lp:Option Str),(bg pl lp (Î rs)).length=eV rs
 | [],_,_=>by rw[Î,bg,eV];rfl
 |r::rs,pl,lp=>by
  have h1:=GV r lp;have h2:=kY rs pl lp;rw[Î,bg,eV,OE,N7,h2];lia
end
theorem CJ{r:Rw}{k:Nat}{a b:Int}{lp:Option Str}(h:Nr k a r b)(hl:0<k->lp.isSome=true):ϱ r.pt lp:=by
 cases h with
 |last h=>exact λ_=>hl h
 |_=>rw[Rw.pt];exact λz=>absurd z (by simp[Pt.ci,Lr.ci])
mutual
theorem JS:∀(r:Rw)(k:Nat)(a b:Int)(lp:Option Str),Nr k a r b->(0<k->lp.isSome=true)->∀e∈ba lp r.pt,ϱ e.1 e.2.2
 | .set _ _ _,_,_,_,_,_,_,e,m=>by rw[Rw.pt,ba]at m;cases m
 | .put _ _ _ _,_,_,_,_,_,_,e,m=>by rw[Rw.pt,ba]at m;cases m
 | .snd _ _ _,_,_,_,_,_,_,e,m=>by rw[Rw.pt,ba]at m;cases m
 | .say _ _ _ _,_,_,_,_,_,_,e,m=>by rw[Rw.pt,ba]at m;cases m
 | .last _,_,_,_,_,_,_,e,m=>by rw[Rw.pt,ba]at m;cases m
 | .call _ _ _,_,_,_,_,_,_,e,m=>by rw[Rw.pt,ba]at m;cases m
 | .iff n _ f o _ _,k,a,b,lp,h,hl,e,m=>by
  rw[Rw.pt,ba]at m;cases h with
  |iff h1 h2=>
  rcases Og.mp m with m|m
  ·exact lU f k _ _ _ _ h1 hl e m
  exact lU o k _ _ _ _ h2 hl e m
 | .loop n _ _ b' _ _,k,a,b,lp,h,hl,e,m=>by
  rw[Rw.pt,ba]at m;cases h with
  |loop h=>exact lU b' (k+1) _ _ _ _ h (λ_=>rfl) e m
theorem lU:∀(rs:List Rw)(k:Nat)(a b:Int)(pl lp:Option Str),Ns k a rs b->(0<k->lp.isSome=true)->∀e∈bg pl lp (Î rs),ϱ e.1 e.2.2
 | [],_,_,_,_,_,_,_,e,m=>by rw[Î,bg]at m;cases m
 |r::rs,k,a,b,pl,lp,h,hl,e,m=>by
  rw[Î,bg]at m;cases h with
  |cons h1 h2=>
  rcases Ob.mp m with rfl|m
  ·exact CJ h1 hl
  rcases Og.mp m with m|m
  ·exact JS r k _ _ lp h1 hl e m
  exact lU rs k _ _ pl lp h2 hl e m
end
theorem LO{r:Rw}{k:Nat}{a b:Int}(h:Nr k a r b):r.pt.no=a:=by cases h<;>(rw[Rw.pt];rfl)
def Up(a b:Int)(ns:List Int):Prop:=ns.Pairwise (· < ·)/\∀x∈ns,a<=x/\x<b
theorem Up.cat{a b c:Int}{xs ys:List Int}(h1:Up a b xs)(h2:Up b c ys)(h:a<=b)(h':b<=c):Up a c (xs++ys):=
 ⟨List.pairwise_append.mpr {h1.1,h2.1,λx hx y hy=>by have:=(h1.2 x hx).2;have:=(h2.2 y hy).1;lia},λx hx=>by
  rcases Og.mp hx with m|m
  ·have:=h1.2 x m;lia
  have:=h2.2 x m;lia⟩
theorem Up.wide{a b a' b':Int}{xs:List Int}(h:Up a b xs)(h1:a'<=a)(h2:b<=b'):Up a' b' xs:={h.1,λx hx=>by have:=h.2 x hx;lia}
theorem Up.nil{a b:Int}:Up a b []:={.nil,λ_ h=>absurd h Ou}
theorem Up.cons{a b:Int}{xs:List Int}(h:Up (a+1) b xs)(h':a<b):Up a b (a::xs):=⟨List.pairwise_cons.mpr {λx hx=>by have:=(h.2 x hx).1;lia,h.1},λx hx=>by
 rcases Ob.mp hx with rfl|m
 ·lia
 have:=h.2 x m;lia⟩
mutual
theorem Ml:∀(r:Rw)(k:Nat)(a b:Int)(lp:Option Str),Nr k a r b->a<b/\b<=a+3*r.cnt/\Up (a+1) b ((ba lp r.pt).map λe=>e.1.no)
 | .set _ _ _,k,a,b,lp,h=>by cases h;rw[Rw.pt,ba];exact{(),by show _<=_+3*((1:Nat):Int);lia,.nil}
 | .put _ _ _ _,k,a,b,lp,h=>by cases h;rw[Rw.pt,ba];exact{(),by show _<=_+3*((1:Nat):Int);lia,.nil}
 | .snd _ _ _,k,a,b,lp,h=>by cases h;rw[Rw.pt,ba];exact{(),by show _<=_+3*((1:Nat):Int);lia,.nil}
 | .say _ _ _ _,k,a,b,lp,h=>by cases h;rw[Rw.pt,ba];exact{(),by show _<=_+3*((1:Nat):Int);lia,.nil}
 | .last _,k,a,b,lp,h=>by cases h;rw[Rw.pt,ba];exact{(),by show _<=_+3*((1:Nat):Int);lia,.nil}
 | .call _ _ _,k,a,b,lp,h=>by cases h;rw[Rw.pt,ba];exact{(),by show _<=_+3*((1:Nat):Int);lia,.nil}
 | .iff n _ f o _ _,k,a,b,lp,h=>by
  cases h with
  |iff h1 h2=>
  rw[Rw.pt,ba,OB,Rw.cnt];obtain⟨a1,a2,a3⟩:=ur f k _ _ (Xb (a9 n)) lp h1;obtain⟨b1,b2,b3⟩:=ur o k _ _ (Xb (a9 n)) lp h2;exact{(),(),a3.cat (b3.wide () ()) () ()}
 | .loop n _ _ b' _ _,k,a,b,lp,h=>by
  cases h with
  |loop h=>
  rw[Rw.pt,ba,Rw.cnt];obtain⟨a1,a2,a3⟩:=ur b' (k+1) _ _ (Xb (a9 n)) (Xb (a9 n)) h;exact{(),(),a3.wide () ()}
theorem ur:∀(rs:List Rw)(k:Nat)(a b:Int)(pl lp:Option Str),Ns k a rs b->a<=b/\b<=a+3*eV rs/\Up a b ((bg pl lp (Î rs)).map λe=>e.1.no)
 | [],k,a,b,pl,lp,h=>by cases h;rw[Î,bg];exact{O4 _,(),.nil}
 |r::rs,k,a,b,pl,lp,h=>by
  cases h with
  |cons h1 h2=>
  rw[Î,bg,eV,Ox,OB];obtain⟨a1,a2,a3⟩:=Ml r k _ _ lp h1;obtain⟨b1,b2,b3⟩:=ur rs k _ _ pl lp h2;refine{(),(),?_};show Up a b (r.pt.no::_);rw[LO h1];exact(a3.cat b3 () ()).cons ()
end
mutual
theorem Lv{idx:List Nat}(hi:∀i<kn,â i∈idx):∀(r:Rw)(d:Nat),Ď E kn d r->ß idx r.pt/\dep r.pt<=d
 | .set _ _ _,d,_=>by rw[Rw.pt];unfold ß dep;exact{Oy,Oj _}
 | .put _ _ _ _,d,_=>by rw[Rw.pt];unfold ß dep;exact{Oy,Oj _}
 | .snd _ _ _,d,_=>by rw[Rw.pt];unfold ß dep;exact{Oy,Oj _}
 | .say _ _ _ _,d,_=>by rw[Rw.pt];unfold ß dep;exact{Oy,Oj _}
 | .last _,d,_=>by rw[Rw.pt];unfold ß dep;exact{Oy,Oj _}
 | .call _ i ts,d,h=>by
  have h:i<kn/\ts.length=i+1/\∀t∈ts,t.ok E:=by cases d<;>exact h
  rw[Rw.pt];unfold ß dep;exact{hi i h.1,Oj _}
 | .iff n v f o l r,d,h=>by
  cases d with
  |zero=>exact(show False from h).elim
  |succ d=>
   obtain⟨_,_,_,_,_,w1,w2⟩:=h;obtain⟨a1,a2⟩:=ic hi f d w1;obtain⟨b1,b2⟩:=ic hi o d w2;rw[Rw.pt];unfold ß dep;exact{⟨a1,b1⟩,()}
 | .loop n t m b l r,d,h=>by
  cases d with
  |zero=>exact(show False from h).elim
  |succ d=>
   obtain⟨_,m0,m1,_,_,_,w1⟩:=h;obtain⟨a1,a2⟩:=ic hi b d w1;rw[Rw.pt];unfold ß dep;exact{⟨m0,m1,a1⟩,()}
theorem ic{idx:List Nat}(hi:∀i<kn,â i∈idx):∀(rs:List Rw)(d:Nat),(∀r∈rs,Ď E kn d r)->fC idx (Î rs)/\gw (Î rs)<=d
 | [],d,_=>by rw[Î];unfold fC gw;exact{Oy,Oj _}
 |r::rs,d,h=>by
  obtain⟨a1,a2⟩:=Lv hi r d (h r N9);obtain⟨b1,b2⟩:=ic hi rs d λq m=>h q (N8 _ m);rw[Î];unfold fC gw;exact{⟨a1,b1⟩,()}
end
theorem oq(rs:List Rw):(Î rs).length=rs.length:=by rw[sT,N3]
mutual
theorem Ih:∀r:Rw,r.cnt<=900->Ċ r.pt
 | .set _ _ _,_=>by rw[Rw.pt];unfold Ċ;exact Oy
 | .put _ _ _ _,_=>by rw[Rw.pt];unfold Ċ;exact Oy
 | .snd _ _ _,_=>by rw[Rw.pt];unfold Ċ;exact Oy
 | .say _ _ _ _,_=>by rw[Rw.pt];unfold Ċ;exact Oy
 | .last _,_=>by rw[Rw.pt];unfold Ċ;exact Oy
 | .call _ _ _,_=>by rw[Rw.pt];unfold Ċ;exact Oy
 | .iff _ _ f o _ _,h=>by
  rw[Rw.cnt]at h;have h1:=dw f;have h2:=dw o;rw[Rw.pt];unfold Ċ;rw[oq,oq];exact{(),(),i7 f (),i7 o ()}
 | .loop _ _ _ b _ _,h=>by
  rw[Rw.cnt]at h;have h1:=dw b;rw[Rw.pt];unfold Ċ;rw[oq];exact{(),i7 b ()}
theorem i7:∀rs:List Rw,eV rs<=900->ix (Î rs)
 | [],_=>by rw[Î];unfold ix;exact Oy
 |r::rs,h=>by
  rw[eV]at h;rw[Î];unfold ix;exact{Ih r (),i7 rs ()}
end
end
section
variable{N:Nat->Str}
def Ϥ(x:Str):Prop:=∀c∈x.cps.toList,97<=c/\c<=122
theorem Cc{x:Str}(h:Ϥ x)(lo hi:Option Int):Ϥ (Txt.slice x lo hi):=λc hc=>h c (wC hc)
theorem B7{x y:Str}(h:Ϥ x)(h2:Ϥ y):Ϥ (x++y):=λc hc=>by
 have e:(x++y).cps=x.cps++y.cps:=rfl;rw[e,PX]at hc;rcases Og.mp hc with q|q
 ·exact h c q
 exact h2 c q
theorem Ho{k:Int}(h0:0<=k)(h:k<26):Ϥ ⟨#[jw k]⟩:=λc hc=>by
 have e:c=jw k:=by simpa using hc
 rw[e];unfold jw;lia
theorem xD{k n:Int}(h0:0<=k)(h:k<26):Ϥ (oB ⟨#[jw k]⟩ n):=by
 by_cases hn:1<=n
 ·intro c hc;rw[qi _ hn]at hc;rw[Uj hc];unfold jw;lia
 unfold oB;rw[if_pos ()];exact λc hc=>by cases hc
theorem KQ(c:Int)(k:Nat):Ϥ (Ţ c k):=by
 unfold Ţ;split
 ·have h:∀i:Fin 25,∀c∈(Xm.getD i.val RE).cps.toList,97<=c/\c<=122:=by decide+kernel
  have:=bA (c/4+k) (show(0:Int)<25 by decide);exact h {((c/4+k)%25).toNat,()}
 have h1:=bA (c/288) (show(0:Int)<26 by decide);have h2:=bA ((k:Int)+c/7488) (show(0:Int)<26 by decide);have h3:=bA (c/4+(k:Int)/8) (show(0:Int)<26 by decide);split
 ·exact xD h3.1 h3.2
 exact B7 (B7 (Cc (xD h1.1 h1.2) _ _) (Ho h2.1 h2.2)) (Cc (xD h1.1 h1.2) _ _)
theorem BM{x y:Str}(h:Ϥ x)(m:32∈y.cps.toList):x≠y:=λe=>by
 have:=h 32 (e▸m);lia
theorem Lc(n:Int):32∈(a9 n).cps.toList:=by
 unfold a9;show 32∈(((RE++("row ":Str)).cps++(SV (toString n)).cps)).toList;rw[PX];exact Oh _ ∅
theorem Fw:32∈("the clock":Str).cps.toList:=∅
theorem x3(D:oE N):∀{idx:List Nat},idx.Nodup->(∀i∈idx,i<18)->(idx.map N).Nodup
 | [],_,_=>Qj
 |i::idx,h,b=>by
  rw[OO]at h;rw[Ox,OO];refine{λm=>?_,x3 D h.2 λj m=>b j (N8 _ m)};obtain⟨j,mj,e⟩:=Oq.mp m;exact h.1 (D j i (b j (N8 _ mj)) (b i N9) e▸mj)
structure Dn(N:Nat->Str)(n:Int)(r1 r2 r3:List Rw):Prop where
 D:oE N
 L:∀i,Ϥ (N i)
 nu:∃k e,Ns 0 15 r1 (n-1)/\Ns 0 (n+1) r2 k/\Ns 0 (k+2) r3 e
 c1:eV r1<=3
 c2:eV r2<=3
 c3:eV r3<=36
variable{n c:Int}{r1 r2 r3:List Rw}
theorem yp(N:Nat->Str)(n:Int)(r1 r2 r3:List Rw):bj N (ä n r1 r2) (Î r3)=(bg (Xb (N 13)) Xc (Î r1)++(bg (Xb (N 15)) Xc (Î r2)++[]))++bg Xc Xc (Î r3):=rfl
theorem Dn.up(h:Dn N n r1 r2 r3):Up 15 200 ((bj N (ä n r1 r2) (Î r3)).map λe=>e.1.no):=by
 obtain⟨k,e,n1,n2,n3⟩:=h.nu;have c1:=h.c1;have c2:=h.c2;have c3:=h.c3;obtain⟨a1,a2,a3⟩:=ur r1 0 _ _ (Xb (N 13)) Xc n1;obtain⟨b1,b2,b3⟩:=ur r2 0 _ _ (Xb (N 15)) Xc n2;obtain⟨d1,d2,d3⟩:=ur r3 0 _ _ Xc Xc n3;rw[yp,OF,OB,OB];exact((a3.cat (b3.wide (a':=n-1) (b':=k) () ()) () ()).cat (d3.wide (a':=k) (b':=e) () ()) () ()).wide () ()
theorem Dn.len(h:Dn N n r1 r2 r3):(bj N (ä n r1 r2) (Î r3)).length<=42:=by
 have c1:=h.c1;have c2:=h.c2;have c3:=h.c3;rw[yp,OF,N7,N7,kY,kY,kY];lia
theorem Dn.nb(h:Dn N n r1 r2 r3):Nb (bj N (ä n r1 r2) (Î r3)):=λe m=>by
 have:=h.up.2 _ (OJ (f:=λe:Le=>e.1.no) m);lia
def plN:List Nat:=[2,3,4,5,6,7,8,9,10,11,12,13,14,15,16,17]
theorem qP(N:Nat->Str)(n c:Int)(r1 r2 r3:List Rw):aV N (fj c) (ä n r1 r2) (Î r3)=plN.map N++fz (bj N (ä n r1 r2) (Î r3))++[("the clock":Str)]:=rfl
theorem Dn.pl(h:Dn N n r1 r2 r3):(aV N (fj c) (ä n r1 r2) (Î r3)).length<=900:=by
 have h1:=h.len;have h2:(fz (bj N (ä n r1 r2) (Î r3))).length<=(bj N (ä n r1 r2) (Î r3)).length:=by
  unfold fz;rw[N3];exact OM _ _
 rw[qP,N7,N7,N3];show 16+_+1<=900;lia
theorem Dn.nm(h:Dn N n r1 r2 r3){i:Nat}(hi:i∈plN):N i∈aV N (fj c) (ä n r1 r2) (Î r3):=by
 rw[qP];exact Oh _ (Oh _ (OJ hi))
theorem Dn.nd(h:Dn N n r1 r2 r3):(aV N (fj c) (ä n r1 r2) (Î r3)).Nodup:=by
 have hn:=x3 h.D (idx:=plN) ∅ ∅;have up:=h.up;have nb:=h.nb;rw[qP];unfold fz;generalize bj N (ä n r1 r2) (Î r3)=es at up nb;have p1:((es.filter λe=>iw e.1).map λe=>e.1.no).Pairwise (· < ·):=List.Pairwise.sublist (PV.map _) up.1;have rw1:((es.filter λe=>iw e.1).map λe=>a9 e.1.no).Nodup:=by
  rw[Px]at p1;show List.Pairwise _ _;rw[Px];refine List.Pairwise.imp_of_mem (λ{a b} ha hb lt=>?_) p1;have na:=nb a (Ow.mp ha).1;have nb':=nb b (Ow.mp hb).1;intro z;have:=HJ na.1 na.2 nb'.1 nb'.2 z;lia
 refine O5.mpr {O5.mpr {hn,rw1,λa ma b mb z=>?_},OO.mpr ⟨Ou,Qj⟩,λa ma b mb z=>?_}
 ·obtain⟨i,_,rfl⟩:=Oq.mp ma;obtain⟨e,_,rfl⟩:=Oq.mp mb;exact BM (h.L i) (Lc _) z
 rw[N4]at mb;rw[mb]at z;rcases Og.mp ma with m|m
 ·obtain⟨i,_,rfl⟩:=Oq.mp m;exact BM (h.L i) Fw z
 obtain⟨e,me,rfl⟩:=Oq.mp m;have ne:=nb e (Ow.mp me).1;exact Iz ne.1 ne.2 ∅ z
theorem Fv(N:Nat->Str)(c:Int):(jj N (fj c)).map (·.1)=[2,3,4,5,10,11,12].map N:=rfl
theorem LV(N:Nat->Str)(c:Int):∀s∈jj N (fj c),s.2=0\/s.2=1\/s.2=2:=by
 have k:∀m:Int,m%3=0\/m%3=1\/m%3=2:=λm=>()
 have e:jj N (fj c)=[(N 2,c/9%3%3),(N 3,c/9%4%3),(N 4,c/9%5%3),(N 5,c/7%3),(N 10,c/5%10%3),(N 11,c/5%11%3),(N 12,c/5%12%3)]:=rfl;rw[e];intro s m;simp only[Ob,Ou,or_false]at m;rcases m with rfl|rfl|rfl|rfl|rfl|rfl|rfl<;>exact k _
end
section
variable{N:Nat->Str}{E:En}{kn:Nat}
theorem F3{x:Str}:∀(ts:List Th)(acc:List Str),x∈ts.foldl (ĝ N) acc↔x∈acc\/∃a,Th.x a∈ts/\N a=x
 | [],acc=>by
  show x∈acc↔_;simp
 |t::ts,acc=>by
  rw[OX,F3 ts];cases t with
  |i n=>
   show x∈acc\/_↔_;constructor
   ·rintro(h|⟨a,h,e⟩)
    ·exact .inl h
    exact .inr {a,N8 _ h,e}
   rintro(h|⟨a,h,e⟩)
   ·exact .inl h
   rcases Ob.mp h with h|h
   ·cases h
   exact .inr ⟨a,h,e⟩
  |x b=>
   have m:x∈ĝ N acc (.x b)↔x∈acc\/N b=x:=by
    show x∈(if N b∈acc then acc else acc++[N b])↔_;split
    ·next h=>exact{.inl,λz=>z.elim id λe=>e▸h}
    rw[Og,N4];exact or_congr_right eq_comm
   rw[m];constructor
   ·rintro((h|h)|⟨a,h,e⟩)
    ·exact .inl h
    ·exact .inr ⟨b,N9,h⟩
    exact .inr {a,N8 _ h,e}
   rintro(h|⟨a,h,e⟩)
   ·exact .inl (.inl h)
   rcases Ob.mp h with h|h
   ·cases h;exact .inl (.inr e)
   exact .inr ⟨a,h,e⟩
theorem GW{x:Str}{ts:List Th}:x∈Þ N ts↔∃a,Th.x a∈ts/\N a=x:=by
 unfold Þ;rw[F3];simp
theorem jE{P:Str->Prop}{fs:List (Option Str)}{into kd:Str}{n:Int}(h:∀x,Xb x∈fs->P x)(t:P into):∀l∈ğ fs into kd n,P l.fr/\P l.to:=λl m=>by
 obtain⟨x,mx,_,rfl⟩:=BE.mp m;exact⟨h x mx,t⟩
theorem tj{P:Lk->Prop}{as bs:List Lk}(h1:∀l∈as,P l)(h2:∀l∈bs,P l):∀l∈as++bs,P l:=λl m=>(Og.mp m).elim (h1 l) (h2 l)
theorem qa{P:Str->Prop}{t:Pt}{into kd:Str}{pl:Option Str}(h:∀a,Th.x a∈ġ t->P (N a))(hp:∀q,pl=Xb q->P q)(hi:P into):∀l∈œ N t into kd pl,P l.fr/\P l.to:=
 tj (jE (λx m=>by
  obtain⟨y,my,e⟩:=Oq.mp m;obtain⟨a,ma,rfl⟩:=GW.mp my;exact Q9 e▸h a ma) hi) (jE (λx m=>hp x (N4.mp m).symm) hi)
theorem BS{P:Nat->Prop}(hE:∀i∈E.idx,P i){v:Val}(h:v.ok E):∀a,Th.x a∈ö v->P a:=λa m=>by
 have th:∀t:Th,t.ok E->Th.x a=t->P a:=λt o e=>by
  subst e;exact hE a o.1
 cases v with
 |one t=>exact th t h (N4.mp m)
 |op t w' u=>
  obtain⟨hu,ht⟩:=h;simp only[ö,Ob,Ou,or_false]at m;rcases m with m|m
  ·rcases ht with ht|⟨x,hx,rfl,_⟩
   ·exact th t ht.1 m
   cases m;exact hE _ (Ow.mp hx).1
  exact th u hu m
theorem GR{P:Str->Prop}{po:Str->List Str}(hE:∀i∈E.idx,P (N i))(hm:∀m,10<=m/\m<13->P (N m))(hc:∀i<kn,P (N (â i))/\∀x∈po (N (â i)),P x){r:Rw}{d k:Nat}{a b:Int}(w:Ď E kn d r)(nr:Nr k a r b){pl lp:Option Str}(hp:∀q,pl=Xb q->P q)(hl:∀q,lp=Xb q->P q)(lo:ϱ r.pt lp)(hr:iw r.pt=true->P (a9 r.pt.no)):∀l∈oF N po r.pt pl lp,P l.fr/\P l.to:=by
 have one:∀{t:Th},t.ok E->∀a,Th.x a=t->P (N a):=λo a e=>by
  subst e;exact hE a o.1
 have ϯ:∀x,Xb x∈[pl]->P x:=λx m=>hp x (N4.mp m).symm;cases r with
 |set n x v=>
  have w:x∈E.idx/\E.sz x=0/\v.ok E:=by cases d<;>exact w
  rw[Rw.pt];exact qa (BS (P:=λi=>P (N i)) hE w.2.2) hp (hE x w.1)
 |put n x p v=>
  have w:x∈E.idx/\0<E.sz x/\p.ok E/\v.ok E:=by cases d<;>exact w
  rw[Rw.pt];refine qa (λa m=>?_) hp (hE x w.1);rcases Ob.mp m with m|m
  ·exact one w.2.2.1 a m
  exact BS (P:=λi=>P (N i)) hE w.2.2.2 a m
 |snd n h v=>
  have w:v.ok E:=by cases d<;>exact w
  rw[Rw.pt]at hr⊢;exact qa (BS (P:=λi=>P (N i)) hE w) hp (hr rfl)
 |say n x v m=>
  have w:x∈E.idx/\E.sz x=0/\v.ok E:=by cases d<;>exact w
  rw[Rw.pt]at hr⊢;have wx:=hE x w.1;have hmm:10<=m/\m<13:=by cases nr with|say h=>exact h
  exact tj (tj (jE (λy my=>Q9 (N4.mp my)▸hm m hmm) wx) (jE ϯ wx)) (jE ϯ (hr rfl))
 |last n=>
  rw[Rw.pt]at lo⊢;have:=lo rfl;cases lp with
  |none=>cases this
  |some q=>exact jE ϯ (hl q rfl)
 |call n i ts=>
  have w:i<kn/\ts.length=i+1/\∀t∈ts,t.ok E:=by cases d<;>exact w
  obtain⟨h1,h2⟩:=hc i w.1;rw[Rw.pt];refine tj (λl m=>?_) (λl m=>?_)
  ·obtain⟨tp,mt,m⟩:=ON.mp m;have mz:=Pu mt;obtain⟨t,y⟩:=tp;unfold xu at m;cases t with
   |i z=>cases m
   |x z=>exact jE (λy' my=>Q9 (N4.mp my)▸one (w.2.2 _ mz.1) z rfl) (h2 y mz.2) l m
  obtain⟨into,mi,m⟩:=ON.mp m;refine jE ϯ ?_ l m;rcases Og.mp mi with mi|mi
  ·exact h2 into mi
  rw[N4.mp mi];exact h1
 |iff n v f o l r=>
  cases d with
  |zero=>exact(show False from w).elim
  |succ d=>
   rw[Rw.pt]at hr⊢;exact qa (BS (P:=λi=>P (N i)) hE w.1) hp (hr rfl)
 |loop n t m b l r=>
  cases d with
  |zero=>exact(show False from w).elim
  |succ d=>
   rw[Rw.pt]at hr⊢;refine qa (λa ma=>one w.1 a (N4.mp ma)) hp (hr rfl)
def KZ(N:Nat->Str)(P:Str->Prop)(po:Str->List Str)(e:Le):Prop:=∀l∈oF N po e.1 e.2.1 e.2.2,P l.fr/\P l.to
mutual
theorem rw_end{P:Str->Prop}{po:Str->List Str}(hE:∀i∈E.idx,P (N i))(hm:∀m,10<=m/\m<13->P (N m))(hc:∀i<kn,P (N (â i))/\∀x∈po (N (â i)),P x):∀(r:Rw)(d k:Nat)(a b:Int)(lp:Option Str),Ď E kn d r->Nr k a r b->(0<k->lp.isSome=true)->(∀q,lp=Xb q->P q)->(iw r.pt=true->P (a9 r.pt.no))->(∀e∈ba lp r.pt,iw e.1=true->P (a9 e.1.no))->∀e∈ba lp r.pt,KZ N P po e
 | .set _ _ _,_,_,_,_,_,_,_,_,_,_,_,e,m=>by rw[Rw.pt,ba]at m;cases m
 | .put _ _ _ _,_,_,_,_,_,_,_,_,_,_,_,e,m=>by rw[Rw.pt,ba]at m;cases m
 | .snd _ _ _,_,_,_,_,_,_,_,_,_,_,_,e,m=>by rw[Rw.pt,ba]at m;cases m
 | .say _ _ _ _,_,_,_,_,_,_,_,_,_,_,_,e,m=>by rw[Rw.pt,ba]at m;cases m
 | .last _,_,_,_,_,_,_,_,_,_,_,_,e,m=>by rw[Rw.pt,ba]at m;cases m
 | .call _ _ _,_,_,_,_,_,_,_,_,_,_,_,e,m=>by rw[Rw.pt,ba]at m;cases m
 | .iff n v f o l r,d,k,a,b,lp,w,nr,hk,hl,hr,Ų,e,m=>by
  cases d with
  |zero=>exact(show False from w).elim
  |succ d=>
   obtain⟨_,_,_,_,_,w1,w2⟩:=w;rw[Rw.pt]at hr;rw[Rw.pt,ba]at m Ų;cases nr with
   |iff h1 h2=>
   have hp:∀q,Xb (a9 n)=Xb q->P q:=λq z=>Q9 z▸hr rfl;rcases Og.mp m with m|m
   ·exact lN hE hm hc f d k _ _ _ lp w1 h1 hk hl hp (λe m=>Ų e (Oh _ m)) e m
   exact lN hE hm hc o d k _ _ _ lp w2 h2 hk hl hp (λe m=>Ų e (Od _ m)) e m
 | .loop n t m' b' l r,d,k,a,b,lp,w,nr,hk,hl,hr,Ų,e,m=>by
  cases d with
  |zero=>exact(show False from w).elim
  |succ d=>
   obtain⟨_,_,_,_,_,_,w1⟩:=w;rw[Rw.pt]at hr;rw[Rw.pt,ba]at m Ų;cases nr with
   |loop h=>
   have hp:∀q,Xb (a9 n)=Xb q->P q:=λq z=>Q9 z▸hr rfl;exact lN hE hm hc b' d (k+1) _ _ _ _ w1 h (λ_=>rfl) hp hp Ų e m
theorem lN{P:Str->Prop}{po:Str->List Str}(hE:∀i∈E.idx,P (N i))(hm:∀m,10<=m/\m<13->P (N m))(hc:∀i<kn,P (N (â i))/\∀x∈po (N (â i)),P x):∀(rs:List Rw)(d k:Nat)(a b:Int)(pl lp:Option Str),(∀r∈rs,Ď E kn d r)->Ns k a rs b->(0<k->lp.isSome=true)->(∀q,lp=Xb q->P q)->(∀q,pl=Xb q->P q)->(∀e∈bg pl lp (Î rs),iw e.1=true->P (a9 e.1.no))->∀e∈bg pl lp (Î rs),KZ N P po e
 | [],_,_,_,_,_,_,_,_,_,_,_,_,e,m=>by rw[Î,bg]at m;cases m
 |r::rs,d,k,a,b,pl,lp,w,ns,hk,hl,hp,Ų,e,m=>by
  rw[Î,bg]at m Ų;cases ns with
  |cons h1 h2=>
  have hr:=Ų _ N9;have wr:=w r N9;rcases Ob.mp m with rfl|m
  ·exact GR hE hm hc wr h1 hp hl (CJ h1 hk) hr
  rcases Og.mp m with m|m
  ·exact rw_end hE hm hc r d k _ _ lp wr h1 hk hl hr (λe m=>Ų e (N8 _ (Oh _ m))) e m
  exact lN hE hm hc rs d k _ _ pl lp (λq mq=>w q (N8 _ mq)) h2 hk hl hp (λe m=>Ų e (N8 _ (Od _ m))) e m
end
mutual
theorem Lu{idx:List Nat}{d:Nat}:∀(t:Pt)(lp:Option Str),ß idx t->dep t<=d->∀e∈ba lp t,ß idx e.1/\dep e.1<=d
 | .leaf _ _,_,_,_,e,m=>by rw[ba]at m;cases m
 | .aX _ _ _ _,_,_,_,e,m=>by rw[ba]at m;cases m
 | .iff n v l r f o,lp,c,h,e,m=>by
  unfold ß at c;unfold dep at h;rw[ba]at m;rcases Og.mp m with m|m
  ·exact lC f _ _ c.1 () e m
  exact lC o _ _ c.2 () e m
 | .loop n t m' l r b,lp,c,h,e,m=>by
  unfold ß at c;unfold dep at h;rw[ba]at m;exact lC b _ _ c.2.2 () e m
theorem lC{idx:List Nat}{d:Nat}:∀(ts:List Pt)(pl lp:Option Str),fC idx ts->gw ts<=d->∀e∈bg pl lp ts,ß idx e.1/\dep e.1<=d
 | [],_,_,_,_,e,m=>by rw[bg]at m;cases m
 |t::ts,pl,lp,c,h,e,m=>by
  unfold fC at c;unfold gw at h;rw[bg]at m;rcases Ob.mp m with rfl|m
  ·exact{c.1,by show dep t<=d;lia}
  rcases Og.mp m with m|m
  ·exact Lu t lp c.1 () e m
  exact lC ts pl lp c.2 () e m
end
theorem Gg{po:Str->List Str}{nm:List Str}(hc:∀i<kn,N (â i)∈nm/\(po (N (â i))).length=i+1){r:Rw}{d:Nat}(w:Ď E kn d r):rV N po nm r.pt:=by
 cases r with
 |call n i ts=>
  have w:i<kn/\ts.length=i+1/\∀t∈ts,t.ok E:=by cases d<;>exact w
  rw[Rw.pt];exact{(hc i w.1).1,w.2.1.trans (hc i w.1).2.symm}
 |_=>rw[Rw.pt];exact Oy
mutual
theorem Hq{po:Str->List Str}{nm:List Str}(hc:∀i<kn,N (â i)∈nm/\(po (N (â i))).length=i+1):∀(r:Rw)(d:Nat)(lp:Option Str),Ď E kn d r->∀e∈ba lp r.pt,rV N po nm e.1
 | .set _ _ _,_,_,_,e,m=>by rw[Rw.pt,ba]at m;cases m
 | .put _ _ _ _,_,_,_,e,m=>by rw[Rw.pt,ba]at m;cases m
 | .snd _ _ _,_,_,_,e,m=>by rw[Rw.pt,ba]at m;cases m
 | .say _ _ _ _,_,_,_,e,m=>by rw[Rw.pt,ba]at m;cases m
 | .last _,_,_,_,e,m=>by rw[Rw.pt,ba]at m;cases m
 | .call _ _ _,_,_,_,e,m=>by rw[Rw.pt,ba]at m;cases m
 | .iff n v f o l r,d,lp,w,e,m=>by
  cases d with
  |zero=>exact(show False from w).elim
  |succ d=>
   obtain⟨_,_,_,_,_,w1,w2⟩:=w;rw[Rw.pt,ba]at m;rcases Og.mp m with m|m
   ·exact iJ hc f d _ _ w1 e m
   exact iJ hc o d _ _ w2 e m
 | .loop n t m' b' l r,d,lp,w,e,m=>by
  cases d with
  |zero=>exact(show False from w).elim
  |succ d=>
   obtain⟨_,_,_,_,_,_,w1⟩:=w;rw[Rw.pt,ba]at m;exact iJ hc b' d _ _ w1 e m
theorem iJ{po:Str->List Str}{nm:List Str}(hc:∀i<kn,N (â i)∈nm/\(po (N (â i))).length=i+1):∀(rs:List Rw)(d:Nat)(pl lp:Option Str),(∀r∈rs,Ď E kn d r)->∀e∈bg pl lp (Î rs),rV N po nm e.1
 | [],_,_,_,_,e,m=>by rw[Î,bg]at m;cases m
 |r::rs,d,pl,lp,w,e,m=>by
  rw[Î,bg]at m;have wr:=w r N9;rcases Ob.mp m with rfl|m
  ·exact Gg hc wr
  rcases Og.mp m with m|m
  ·exact Hq hc r d lp wr e m
  exact iJ hc rs d pl lp (λq mq=>w q (N8 _ mq)) e m
end
theorem oo(pl:Option Str)(into kd:Str)(n:Int):(ğ [pl] into kd n).length<=1:=gE [pl] into kd n
theorem FN{po:Str->List Str}(hp:∀x,(po x).length<=2)(t:Pt)(pl lp:Option Str):(oF N po t pl lp).length<=5:=by
 have di:∀(t:Pt)(into kd:Str),(œ N t into kd pl).length<=5:=λt into kd=>Ol (By t into kd pl) ∅;cases t with
 |aX=>exact Oj _
 |iff=>exact di _ _ _
 |loop=>exact di _ _ _
 |leaf n r=>
  cases r with
  |set=>exact di _ _ _
  |put=>exact di _ _ _
  |snd=>exact di _ _ _
  |last=>exact Ol (oo pl _ _ _) ∅
  |say x v m=>
   show(ğ [Xb (N m)] (N x) "value" n++ğ [pl] (N x) "under" n++ğ [pl] (a9 n) "under" n).length<=5;have h1:=oo (Xb (N m)) (N x) "value" n;have h2:=oo pl (N x) "under" n;have h3:=oo pl (a9 n) "under" n;rw[N7,N7];lia
  |call i ts=>
   show(Ϡ N n (ts.zip (po (N i)))++χ pl n (po (N i)++[N i])).length<=5;have h0:=hp (N i);have h1:(Ϡ N n (ts.zip (po (N i)))).length<=(ts.zip (po (N i))).length:=wJ _ (λtp=>by
    unfold xu;split
    ·exact Oj _
    exact oo _ _ _ _) _
   have h2:(χ pl n (po (N i)++[N i])).length<=(po (N i)++[N i]).length:=wJ _ (λx=>oo pl x _ _) _;rw[PD]at h1;rw[N7,OC]at h2;rw[N7];lia
  |_=>exact Oj _
theorem uh{ds:List Pt}(hp:∀x,(ô N ds x).length<=2):∀es:List Le,(es.flatMap (qG N false ds)).length<=5*es.length
 | []=>Oc _
 |e::es=>by
  have h1:=uh hp es;have h2:=FN (N:=N) hp e.1 e.2.1 e.2.2;have h3:(qG N false ds e).length=(oF N (ô N ds) e.1 e.2.1 e.2.2).length+0:=N7;rw[Pw,N7,OE];lia
variable{n c:Int}{r1 r2 r3:List Rw}
theorem KG(x:Str):(ô N (ä n r1 r2) x).length<=2:=by
 unfold ô;split
 ·next p h=>
  have:=List.mem_of_find?_eq_some h;simp only[ä,Ob,Ou,or_false]at this;rcases this with rfl|rfl<;>simp[Ē]
 exact Oj _
theorem Lz:ô N (ä n r1 r2) (N 13)=[N 14]:=by
 unfold ô ä;rw[OK];show(match (match decide (N 13=N 13)with|true=>_|false=>_:Option Pt)with|some p=>Ē N p|none=>[])=_;rw[decide_eq_true rfl];rfl
theorem MR(D:oE N):ô N (ä n r1 r2) (N 15)=[N 16,N 17]:=by
 have h:¬ N 13=N 15:=λe=>absurd (D 13 15 ∅ ∅ e) ∅;unfold ô ä;rw[OK];show(match (match decide (N 13=N 15)with|true=>_|false=>_:Option Pt)with|some p=>Ē N p|none=>[])=_;rw[decide_eq_false h];show(match (List.find? (λp=>decide (ë N p=N 15)) [.aX n 15 [16,17] (Î r2)])with|some p=>Ē N p|none=>[])=_;rw[OK];show(match (match decide (N 15=N 15)with|true=>_|false=>_:Option Pt)with|some p=>Ē N p|none=>[])=_;rw[decide_eq_true rfl];rfl
theorem Mh(h:Dn E.N n r1 r2 r3)(hE:∀i∈E.idx,i∈plN)(w1:∀r∈r1,Ď E 0 4 r)(w2:∀r∈r2,Ď E 1 4 r)(w3:∀r∈r3,Ď E 2 4 r):ŗ E.N 4 (fj c) (ä n r1 r2) (Î r3):=by
 obtain⟨k,e,n1,n2,n3⟩:=h.nu;have i0:∀{idx:List Nat},∀i<0,â i∈idx:=λi z=>absurd z (PH i);have i1:∀{idx:List Nat},13∈idx->∀i<1,â i∈idx:=λm i z=>by
  have:i=0:=()
  subst this;exact m
 have i2:∀i<2,â i∈[13,15]:=λi z=>by
  have:i=0\/i=1:=()
  rcases this with rfl|rfl<;>decide
 have len:=h.len;have c1:=h.c1;have c2:=h.c2;have c3:=h.c3;have l1:=dw r1;have l2:=dw r2;have l3:=dw r3;have cut:∀{p:Le->Prop},(∀x∈bg (Xb (E.N 13)) Xc (Î r1),p x)->(∀x∈bg (Xb (E.N 15)) Xc (Î r2),p x)->(∀x∈bg Xc Xc (Î r3),p x)->∀x∈bj E.N (ä n r1 r2) (Î r3),p x:=λa b d x m=>by
  rw[yp,OF]at m;rcases Og.mp m with m|m
  ·exact(Og.mp m).elim (a x) (b x)
  exact d x m
 have two:∀{p:Pt->Prop},p (.aX 14 13 [14] (Î r1))->p (.aX n 15 [16,17] (Î r2))->∀t∈ä n r1 r2,p t:=λa b t m=>by
  simp only[ä,Ob,Ou,or_false]at m;rcases m with rfl|rfl
  ·exact a
  exact b
 have p13:=Lz (N:=E.N) (n:=n) (r1:=r1) (r2:=r2);have p15:=MR (n:=n) (r1:=r1) (r2:=r2) h.D;have ϖ:∀i∈plN,E.N i∈aV E.N (fj c) (ä n r1 r2) (Î r3):=λi m=>h.nm m;have Β:∀i<2,E.N (â i)∈aV E.N (fj c) (ä n r1 r2) (Î r3)/\∀x∈ô E.N (ä n r1 r2) (E.N (â i)),x∈aV E.N (fj c) (ä n r1 r2) (Î r3):=λi z=>by
  have:i=0\/i=1:=()
  rcases this with rfl|rfl
  ·refine{ϖ 13 ∅,λx m=>?_};rw[show ô E.N (ä n r1 r2) (E.N (â 0))=[E.N 14]from p13]at m;rw[N4.mp m];exact ϖ 14 ∅
  refine{ϖ 15 ∅,λx m=>?_};rw[show ô E.N (ä n r1 r2) (E.N (â 1))=[E.N 16,E.N 17]from p15]at m;simp only[Ob,Ou,or_false]at m;rcases m with rfl|rfl
  ·exact ϖ 16 ∅
  exact ϖ 17 ∅
 have cal2:∀i<2,E.N (â i)∈(ä n r1 r2).map (ë E.N)/\(ô E.N (ä n r1 r2) (E.N (â i))).length=i+1:=λi z=>by
  have:i=0\/i=1:=()
  rcases this with rfl|rfl
  ·exact{N9,by rw[show ô E.N (ä n r1 r2) (E.N (â 0))=[E.N 14]from p13];rfl}
  exact{N8 _ N9,by rw[show ô E.N (ä n r1 r2) (E.N (â 1))=[E.N 16,E.N 17]from p15];rfl}
 have hEp:∀i∈E.idx,E.N i∈aV E.N (fj c) (ä n r1 r2) (Î r3):=λi m=>ϖ i (hE i m);have hmp:∀m,10<=m/\m<13->E.N m∈aV E.N (fj c) (ä n r1 r2) (Î r3):=λm z=>ϖ m (by
  have:m=10\/m=11\/m=12:=()
  rcases this with rfl|rfl|rfl<;>decide)
 have rin:∀x∈bj E.N (ä n r1 r2) (Î r3),iw x.1=true->a9 x.1.no∈aV E.N (fj c) (ä n r1 r2) (Î r3):=λx m p=>AU m p;have in1:∀x∈bg (Xb (E.N 13)) Xc (Î r1),x∈bj E.N (ä n r1 r2) (Î r3):=λx m=>Oh _ (Oh _ m);have in2:∀x∈bg (Xb (E.N 15)) Xc (Î r2),x∈bj E.N (ä n r1 r2) (Î r3):=λx m=>Oh _ (Od _ (Oh _ m));have in3:∀x∈bg Xc Xc (Î r3),x∈bj E.N (ä n r1 r2) (Î r3):=λx m=>Od _ m;have ends:∀l∈cF E.N false (ä n r1 r2) (Î r3),l.fr∈aV E.N (fj c) (ä n r1 r2) (Î r3)/\l.to∈aV E.N (fj c) (ä n r1 r2) (Î r3):=λl m=>by
  obtain⟨x,mx,m⟩:=ON.mp m;have all:∀x∈bj E.N (ä n r1 r2) (Î r3),KZ E.N (· ∈aV E.N (fj c) (ä n r1 r2) (Î r3)) (ô E.N (ä n r1 r2)) x:=cut
   (lN hEp hmp (λi z=>Β i ()) r1 4 0 _ _ _ Xc w1 n1 (λz=>absurd z (OL 0)) (λq z=>nomatch z) (λq z=>Q9 z▸ϖ 13 ∅) (λx m=>rin x (in1 x m)))
   (lN hEp hmp (λi z=>Β i ()) r2 4 0 _ _ _ Xc w2 n2 (λz=>absurd z (OL 0)) (λq z=>nomatch z) (λq z=>Q9 z▸ϖ 15 ∅) (λx m=>rin x (in2 x m)))
   (lN hEp hmp Β r3 4 0 _ _ Xc Xc w3 n3 (λz=>absurd z (OL 0)) (λq z=>nomatch z) (λq z=>nomatch z) (λx m=>rin x (in3 x m)))
  rcases Og.mp m with m|m
  ·exact all x mx l m
  cases m
 have a1:=ic (E:=E) (kn:=0) (idx:=[13,15]) i0 r1 4 w1;have a2:=ic (E:=E) (kn:=1) (idx:=[13,15]) (i1 ∅) r2 4 w2;have a3:=ic (E:=E) (kn:=2) i2 r3 4 w3;refine{{two ⟨Oy,a1.2⟩ ⟨Oy,a2.2⟩,a3.2,h.nb,(),(by show 13<=300;decide),h.pl,h.nd},{two Oy Oy,two a1.2 a2.2,?_,?_,(by show 2<=900;decide)},?_,two (by show 1<=100;decide) (by show 2<=100;decide),?_,?_,?_,?_,?_,λl m=>(ends l m).1,λl m=>(ends l m).2,LV E.N c,?_,?_,(),?_,?_,by rw[oq];lia,i7 r3 (),gB r3,a3.1}
 ·intro i p hp;match i,hp with
  |0,hp=>cases hp;exact(ic (E:=E) (kn:=0) (idx:=[]) i0 r1 4 w1).1
  |1,hp=>cases hp;exact(ic (E:=E) (kn:=1) (idx:=[13]) (i1 ∅) r2 4 w2).1
  |i+2,hp=>cases hp
 ·intro i j p q hp hq z;match i,j,hp,hq with
  |0,0,_,_=>rfl
  |1,1,_,_=>rfl
  |0,1,hp,hq=>cases hp;cases hq;exact absurd (h.D 13 15 ∅ ∅ z) ∅
  |1,0,hp,hq=>cases hp;cases hq;exact absurd (h.D 15 13 ∅ ∅ z) ∅
  |i+2,_,hp,_=>cases hp
  |_,j+2,_,hq=>cases hq
 ·exact x3 h.D (idx:=[13,15]) ∅ ∅
 ·exact cut (lK _ _ _ (gB r1)) (lK _ _ _ (gB r2)) (lK _ _ _ (gB r3))
 ·exact cut (lU r1 0 _ _ _ _ n1 λz=>absurd z (OL 0)) (lU r2 0 _ _ _ _ n2 λz=>absurd z (OL 0)) (lU r3 0 _ _ _ _ n3 λz=>absurd z (OL 0))
 ·exact cut (iJ (λi z=>cal2 i ()) r1 4 _ _ w1) (iJ (λi z=>cal2 i ()) r2 4 _ _ w2) (iJ cal2 r3 4 _ _ w3)
 ·exact cut (lC _ _ _ a1.1 a1.2) (lC _ _ _ a2.1 a2.2) (lC _ _ _ a3.1 a3.2)
 ·have:=uh (N:=E.N) (ds:=ä n r1 r2) KG (bj E.N (ä n r1 r2) (Î r3));unfold cF;lia
 ·rw[Fv];exact x3 h.D ∅ ∅
 ·intro s m;have:s.1∈[2,3,4,5,10,11,12].map E.N:=Fv E.N c▸OJ m;obtain⟨i,mi,z⟩:=Oq.mp this;rw[<-z];have q:∀i∈[2,3,4,5,10,11,12],i∈plN:=∅
  exact ϖ i (q i mi)
 ·intro p m;simp only[fj,Ob,Ou,or_false]at m;rcases m with rfl|rfl|rfl|rfl|rfl|rfl|rfl|rfl|rfl|rfl|rfl|rfl|rfl<;>rfl
 exact two {by show(Î r1).length<=900;rw[oq];lia,i7 r1 (),gB r1,a1.1} {by show(Î r2).length<=900;rw[oq];lia,i7 r2 (),gB r2,a2.1}
end
section
variable{K:Q6}{N:Nat->Str}
def wD(e:Int×Int×Int):UE:=.tuple [.int e.1,.int e.2.1,.int e.2.2]
theorem lr{H:Hp}:∀{es:List (Int×Int×Int)}{ys:List V},Paired (W3 H) es ys->ff K H ys (es.map wD)
 |_,_,.nil=>.nil
 |_,_,.cons ⟨t,e,h⟩ r=>by
  subst e;exact .cons (.tup (É.of h) (.cons (.int _) (.cons (.int _) (.cons (.int _) .nil)))) (lr r)
theorem AL:∀es:List (Int×Int×Int),Sb (es.map wD)=true/\Sf (es.map wD)<=1
 | []=>{rfl,Oj _}
 |e::es=>by
  obtain⟨h1,h2⟩:=AL es;constructor
  ·simp[wD,Sb,Sa,h1]
  simp[wD,Sf,SM];lia
theorem fR(es:List (Int×Int×Int)):Rq (.list (es.map wD))=true:=by
 obtain⟨h1,h2⟩:=AL es;simp[Rq,Sa,SM,h1];lia
theorem iu{H:Hp}:∀ns:List Int,ff K H (ns.map V.int) (ns.map Sw)
 | []=>.nil
 |n::ns=>.cons (.int _) (iu ns)
theorem yl:∀ns:List Int,Sb (ns.map Sw)=true/\Sf (ns.map Sw)=0
 | []=>⟨rfl,rfl⟩
 |n::ns=>by
  obtain⟨h1,h2⟩:=yl ns;constructor
  ·simp[Sb,Sa,h1]
  simp[Sf,SM,h2]
theorem fh(ns:List Int):Rq (.list (ns.map Sw))=true:=by
 obtain⟨h1,h2⟩:=yl ns;simp[Rq,Sa,SM,h1,h2]
theorem qf(ns:List Int):Tz (.list (ns.map Sw)) (.list (ns.map Sw))=true:=WS _ (by simp[Sa,(yl ns).1])
theorem tm(es:List (Int×Int×Int)):Tz (.list (es.map wD)) (.list (es.map wD))=true:=WS _ (by simp[Sa,(AL es).1])
theorem Kl(e f:Int×Int×Int):Tz (wD e) (wD f)=decide (e=f):=by
 rw[OW];simp[wD,PyData.eqvAll,Tz,Prod.ext_iff]
theorem FX:∀{xs:List Int}{ys:List V},Paired (λ_ y=>y=V.bl true) xs ys->ys=(xs.map λ_=>true).map V.bl
 |_,_,.nil=>rfl
 |_,_,.cons h r=>by rw[h,FX r];rfl
theorem BH:∀xs:List Int,(xs.map λ_=>true).all id=true
 | []=>rfl
 |_::xs=>BH xs
theorem Gj(xs:List Int):(xs.map V.int).all lY=true:=by
 rw[List.all_map];exact Pp.mpr λ_ _=>rfl
theorem KR{e:Int}{xs:List Int}(h:e∈xs):Ť (.int e) (xs.map V.int)=true:=by
 unfold Ť;exact Pq.mpr {_,OJ h,by simp[Κ]}
end
section
variable{P:Program}{w:Rh}{K:Q6}{mg:Str->Option Q0}{base:Rp}{A:Ï}{N:Nat->Str}
seal PE PA PS ď PT PW
def x8:Nat->Nat:=λi=>if i=5\/i=9 then 1 else 0
def enI(c:Int):En:={Ţ c,[2,3,4,5,6,7,8,9,14,16,17],x8}
theorem FY(c:Int):yQ (enI c) c:={rfl,by show ∀i∈[2,3,4,6,7,8,14,16,17],i∈[2,3,4,5,6,7,8,9,14,16,17]/\x8 i=0;decide,by show 5∈Wi (λi=>decide (0<x8 i)) [2,3,4,5,6,7,8,9,14,16,17];decide,by show 9∈Wi (λi=>decide (0<x8 i)) [2,3,4,5,6,7,8,9,14,16,17];decide}
theorem HD.dn{c:Int}{H:Hp}{t ln lb B1 B2 B3 tc:Q1}{n:Int}{r1 r2 r3:List Rw}(R:HD (enI c) H t ln lb B1 B2 B3 tc n r1 r2 r3)(c2:Int):ŗ (enI c).N 4 (fj c2) (ä n r1 r2) (Î r3):=by
 obtain⟨_,_,_,w1⟩:=R.b1;obtain⟨_,_,_,w2⟩:=R.b2;obtain⟨_,_,_,w3⟩:=R.b3;exact Mh {(FY c).D,λi=>KQ c i,R.nu,R.l1,R.l2,R.l3} (by show ∀i∈[2,3,4,5,6,7,8,9,14,16,17],i∈plN;decide) w1 w2 w3
mutual
theorem Hi{pl lp:Option Str}:∀(t:Pt),(ė t).length<=(ba lp t).length+1
 | .leaf _ _=>Oj _
 | .aX _ _ _ _=>Oj _
 | .iff n v l r f o=>by
  have h1:=iE (pl:=Xb (a9 n)) (lp:=lp) f;have h2:=iE (pl:=Xb (a9 n)) (lp:=lp) o;rw[ė,ba,OE,N7,N7];lia
 | .loop n t m l r b=>by
  have h1:=iE (pl:=Xb (a9 n)) (lp:=Xb (a9 n)) b;rw[ė,ba,OE];lia
theorem iE{pl lp:Option Str}:∀(ts:List Pt),(cq ts).length<=(bg pl lp ts).length
 | []=>by rw[cq];exact Oj _
 |t::ts=>by
  have h1:=Hi (pl:=pl) (lp:=lp) t;have h2:=iE (pl:=pl) (lp:=lp) ts;rw[cq,bg,N7,OE,N7];lia
end
theorem zo(N:Nat->Str):∀ds:List Pt,(gP ds).length<=(gM N ds).length
 | []=>Oj _
 |p::ds=>by
  have h1:=iE (pl:=Xb (ë N p)) (lp:=Xc) (b7 p);have h2:=zo N ds;unfold gP gM at h2⊢;rw[Pw,Pw,N7,N7];lia
theorem ŗ.bl{d:Nat}{hs ds ms:List Pt}(G:ŗ N d hs ds ms):(gP ds++cq ms).length<=900:=by
 have h1:=zo N ds;have h2:=iE (pl:=Xc) (lp:=Xc) ms;have h3:=G.ab;unfold bj at h3;rw[N7]at h3⊢;lia
def wV(K:Q6):Sp:=λvs H Q _=>∃(a:Q1)(ns:List Int),vs=[.ref a]/\À K H a (ns.map V.int)/\ns.length<=63/\∀H',Q (.bl true) H'
theorem Mn(T:Txt K mg A)(F:aY K mg "law" uK ["_law_script"]):ę P w K mg base 28 "law" ["_law_script"] (wV K):=by
 have QE:=@Bh P w _ _ base _ T;have M6:=Hg (P:=P) (w:=w) (base:=base) T 4;have E_evened:=xC.has (yS (P:=P) (w:=w) (base:=base) T 4);have E_uneven:=xC.has (zl (P:=P) (w:=w) (base:=base) T 4);refine F.hs (k:=27) gT (λf Ä A' outer s0 H vs Q E hr hu h=>?_) (λvs H Q E h=>by obtain⟨a,ns,rfl,_⟩:=h;rfl);obtain⟨sc,ns,rfl,hS,_,q⟩:=h;refine⟨_,(af (Æ 1 gT.nd (aj (hj:=by lia) (FF T) hr (fv 0^ae)))
  (af (Æ 2 gT.nd (aj (hj:=by lia) (Dw T) hr (fv 1^(aj (hj:=by lia) QE hr (fv 0^ah^ae))^ae)))
  (af (Æ 3 gT.nd (ax bH (aj (hj:=by lia) QE hr (fv 0^ah^ae)) ah))
  (af (Æ 4 gT.nd (ax bH (ax bU (aj (hj:=by lia) QE hr (fv 0^ah^ae)) ah) ah))
  (af (Æ 5 gT.nd (aj (hj:=by lia) M6 hr (fv 2^ae)))
  (af (Æ 6 gT.nd (aj (hj:=by lia) E_evened hr (fv 2^fv 3^ae)))
  (af (Æ 7 gT.nd (aj (hj:=by lia) M6 hr (fv 6^ae)))
  (af (aN (PW.pt (pw_or (Ð (rY hu) (aj (hj:=by lia) (ze T 4) hr (fv 6^ae)) (aj (hj:=by lia) (ze T 4) hr (fv 2^ae))) (pw_or (Ð (rY hu) (aj (hj:=by lia) M6 hr (fv 2^ae)) (fv 5)) (pw_or1 (Ð (xK hu) (Ó lQ T.kO (fv 7^ae)) (Ó lQ T.kO (fv 5^ae)))))))
   (ai (aA wz))
   aG)
  (af (Æ 8 gT.nd (aU ae))
  (af (b6 Rg rfl (FC rfl T.yq (fv 5^fv 7^ae)) (kg rfl (bB (Õ (i:=9) gT.nd rfl) (bB (Õ (i:=10) gT.nd rfl) gC)))
   (af (aN (PW.pt (pw_or (Ð (xK hu) (px hu (fv 9) ah) (px hu (fv 10) ah)) (pw_or (Ð ID (px hu (fv 10) ah) (px hu (fv 9) ah)) (pw_or1 (Ð ID (px hu (fv 10) ah) (px hu (fv 9) ah))))))
    (ai (aA wz))
    aG)
   (ai (aN (Ð (rY hu) (fv 9) (fv 10))
    (ai (aW (bu (fv 8) (px hu (fv 9) ah^ae))))
    aG))))
  (af (Æ 11 gT.nd (aj (hj:=by lia) E_uneven hr (fv 2^fv 3^ae)))
  (af (aN (PW.pt (pw_or (ua (aZ (Ó aK T.az (fv 11^(xk (v:=.ty "list") rfl T.fO (by boot_by_name) rfl)^ae)) (λ_=>rfl))) (pw_or (ua (aZ (Ó Mw T.Bs ((dF (N:=["_law_number_here","_law_told"]) (own:=1) (fr:=[11]) (b4.of (by kernel_rfl!)) rfl (br (fv 8)) (λb=>Õ (i:=0) (show Rr (["_law_number_here","_law_told"]:List RF) by decide+kernel) rfl) (λb=>fP) (λb=>pec (DW hu) (fv 0) (fv 1) ((by with_unfolding_all rfl))))^ae)) (λ_=>rfl))) (pw_or1 (Ð (rY hu) (aj (hj:=by lia) E_uneven hr (fv 6^fv 3^ae)) (aU ae))))))
   (ai (aA wz))
   aG)
  (af (aN (PW.pt (pw_or (Ð (rY hu) (vY (hj:=by lia) (zl T 4) hr (fv 2^ae) (fv 3)) (fv 11)) (pw_or1 (Ð (rY hu) (aj (hj:=by lia) M6 hr ((vY (hj:=by lia) (yS T 4) hr (fv 2^ae) (fv 3))^ae)) (fv 7)))))
   (ai (aA wz))
   aG)
  (af (aN (PW.pt (pw_or (Ð (rY hu) (fv 11) (Ó we T.kN (fv 11^ae))) (pw_or (Ð (xK hu) (DG T.kO T.zM (fv 11^ae)) (Ó lQ T.kO (fv 11^ae))) (pw_or1 (Ð (rY hu) (aj (hj:=by lia) M6 hr ((aj (hj:=by lia) E_evened hr (fv 6^fv 3^ae))^ae)) (fv 7))))))
   (ai (aA wz))
   aG)
  (ai (aA (pec (b8 hu) (aj (hj:=by lia) M6 hr ((aj (hj:=by lia) E_evened hr (fv 6^fv 4^ae))^ae)) (aj (hj:=by lia) M6 hr ((aj (hj:=by lia) E_evened hr (fv 2^Ó LG T.BI (fv 3^fv 4^ae)^ae))^ae))))))))))))))))))),?_⟩
 refine ao λM1 K1=>{enI (cellAt ns 0),sc,ns,rfl,hS,FY _,λt ln lb B1 B2 B3 tc n r1 r2 r3 H1 s1 R=>K1 _ _ ?_};clear K1 M1;rfl'
 refine ao λM1 K1=>{sc,ns,1,rfl,s1.seq hS,∅,enI (cellAt ns 0),t,ln,lb,B1,B2,B3,tc,n,cellAt ns 1,r1,r2,r3,rfl,R,λv H2 s2 pg=>?_};have G:=R.dn (cellAt ns 1);generalize (enI (cellAt ns 0)).N=N at pg G;generalize fj (cellAt ns 1)=hs at pg G;generalize ä n r1 r2=ds at pg G;generalize Î r3=ms at pg G;have t2:=s1.trans s2;clear R;refine K1 _ _ ?_;clear K1 M1;rfl'
 refine ao λM1 K1=>{sc,ns,2,rfl,t2.seq hS,∅,by show(0:Int)<3;decide,K1 _ _ ?_};clear K1 M1;rfl'
 refine ao λM1 K1=>{sc,ns,2,rfl,t2.seq hS,∅,{∅,∅},by show(0:Int)<3;decide,K1 _ _ ?_};clear K1 M1 hS;generalize cellAt ns 2%3=f1;generalize cellAt ns 2/3%3=f2;rfl'
 have wts:∀{v:V}{ds ms:List Pt}{Ha Hb:Hp}{Q2:VK}{E2:XK},jx A N Ha v hs ds ms->aq Ha Hb->ŗ N 4 hs ds ms->(∀(R:Q1)(ys:List V)(H':Hp),aq Hb H'->Hb R=Xc->H' R=Xb (.lst ys)->Paired (W3 H') (ϑ ds ms) ys->Q2 (.ref R) H')->tL A 4 [v] Hb Q2 E2:=λpg s G k=>{N,_,_,hs,_,_,rfl,s,pg,G.dk,G.ok.main,G.bl,k};have evn:∀{v:V}{ds ms:List Pt}{fl:Int}{Ha Hb:Hp}{Q2:VK}{E2:XK},jx A N Ha v hs ds ms->aq Ha Hb->ŗ N 4 hs ds ms->(∀(a:Q1)(H':Hp),aq Hb H'->jx A N H' (.ref a) hs (ds.map (Á (ó N hs ds ms fl) (È aR 0 ds))) (bq (ó N hs ds ms fl) (È aR 0 ds) ms)->Q2 (.ref a) H')->rP A 4 [v,.int fl] Hb Q2 E2:=λpg s G k=>{N,_,_,_,hs,_,_,rfl,s,pg,G.e,k};refine ao λM1 K1=>wts pg (aq.refl _) G λRb yb H3 s3 hRb eRb pb=>K1 _ _ ?_;clear K1 M1;rfl'
 refine ao λM1 K1=>evn pg s3 G λm H4 s4 pm=>K1 _ _ ?_;clear K1 M1;have Gm:=G.ev (ó N hs ds ms f1) (È aR 0 ds);rfl'
 refine ao λM1 K1=>wts pm (aq.refl _) Gm λRa ya H5 s5 hRa eRa pa=>K1 _ _ ?_;clear K1 M1;rfl'
 have mos:∀{v:V}{ds ms:List Pt}{Ha Hb:Hp}{Q2:VK}{E2:XK},jx A N Ha v hs ds ms->aq Ha Hb->ŗ N 4 hs ds ms->(∀(R:Q1)(H':Hp),aq Hb H'->Hb R=Xc->H' R=Xb (.lst ((C7 ds ms).map V.int))->Q2 (.ref R) H')->rg A 4 [v] Hb Q2 E2:=λpg s G k=>{N,_,_,hs,_,_,rfl,s,pg,G.dk,λp hp=>{(G.db p hp).1,(G.db p hp).2.1},G.ok.main,G.mck,G.ml,G.mlo,k};refine ao λM1 K1=>mos pm s5 Gm λR6 H6 s6 n6 e6=>mos pg ((s3.trans s4).trans (s5.trans s6)) G λR7 H7 s7 n7 e7=>?_;rw[JO G.dk (λp hp=>(G.db p hp).2.2.1)]at e6;refine{_,_,.lst (À.of (s7 _ _ e6)) (iu _),.lst (À.of e7) (iu _),fh _,fh _,?_};rw[qf];refine{_,rfl,aT ?_};have sm:∀{Ha Hb:Hp}{es:List (Int×Int×Int)}{ys:List V},aq Ha Hb->Paired (W3 Ha) es ys->Paired (W3 Hb) es ys:=λs p=>Paired.eX p λ_ _ ⟨t,e,h⟩=>{t,e,s _ _ h};have Ů:=s4.trans (s5.trans (s6.trans s7));refine wts pg (s3.trans Ů) G λR8 y8 H8 s8 n8 e8 p8=>{_,_,.lst (À.of e8) (lr p8),.lst (À.of (s8 _ _ (Ů _ _ eRb))) (lr (sm s8 (sm Ů pb))),fR _,fR _,?_};rw[tm];refine{_,rfl,aT ?_};have Ϫ:=s6.trans (s7.trans s8);have Ş:=Ů.trans s8;have lb:=Q7 pb;have la:=Q7 pa;have lw:(ϑ (ds.map (Á (ó N hs ds ms f1) (È aR 0 ds))) (bq (ó N hs ds ms f1) (È aR 0 ds) ms)).length=(ϑ ds ms).length:=by rw[Fu];unfold ϑ;rw[N3,N3]
 refine lnl (Ϫ _ _ eRa) (lnl (Ş _ _ eRb) ?_);rw[show(ya.length:Int)=(yb.length:Int) by rw[<-la,<-lb,lw]];refine{rfl,_,rfl,a8 (λz=>absurd z (by simp)) λ_=>K1 _ _ ?_};clear K1 M1;rfl'
 refine ao λM1 K1=>{Oj _,λC hC=>?_};obtain⟨s9,eC⟩:=Ò hC (HO.lst []);generalize upd H8 C _=H9 at s9 eC⊢;have b9:=sm (Ş.trans s9) pb;have a9':=sm (Ϫ.trans s9) pa;have eRb9:=(Ş.trans s9) _ _ eRb;have eRa9:=(Ϫ.trans s9) _ _ eRa;refine K1 _ _ ?_;clear K1 M1;rfl'
 have G5:=G.db;have wr:=Fu (ó N hs ds ms f1) (È aR 0 ds) ds ms;have tol:=λ{u:Pt}(h:u∈gP ds++cq ms)=>Ir (N:=N) (hs:=hs) (ds:=ds) (ms:=ms) (fl:=f1) h;have bl:=G.bl;rw[wr]at a9';have b9:Paired (W3 H9) ((gP ds++cq ms).map Ě) yb:=b9;have lb9:=Q7 b9;rw[N3]at lb9;refine ao λM1 K1=>{_,_,rfl,{_,À.of eRb9},{_,À.of eRa9},BG (K:=K) (xs:=yb) (ys:=ya) (λi B Hc=>∃(chg:List Int)(v9 v10:Option V),B=[Xb (.ref sc),Xb (.ref t),Xb v,Xb (.int f1),Xb (.int (cellAt ns 2/3%3)),Xb (.ref Rb),Xb (.ref m),Xb (.ref Ra),Xb (.ref C),v9,v10,Xc]/\Sm [C] H9 Hc/\Hc C=Xb (.lst (chg.map V.int))/\(∀x∈chg,x∈Ŝ N hs ds ms f1)/\chg.length<=i) {[],Xc,Xc,rfl,Sm.refl _ _,eC,λ_ h=>absurd h Ou,Oc _} (λi B Hc _ ⟨_,_,_,_,z,_⟩=>{À.of (z _ _ (λe=>Xd hC (Ş _ _ eRb) (N4.mp e).symm) eRb9),À.of (z _ _ (λe=>Xd hC (Ϫ _ _ eRa) (N4.mp e).symm) eRa9)}) () ?_ ?_}
 ·rintro i x y B Hc tp hx hy ⟨chg,v9,v10,rfl,sm9,eCc,told,cl⟩ ü;obtain⟨e,he,tx,rfl,etx⟩:=bW b9 hx;obtain⟨f',hf,ty,rfl,ety⟩:=bW a9' hy;rw[Oi]at he hf;cases hu':(gP ds++cq ms)[i]? with
  |none=>rw[hu']at he;cases he
  |some u=>
  rw[hu']at he hf;cases he;cases hf;dsimp only at ety;have mu:=Oe hu';have il:=(Ot.mp hu').1;have tl:=tol mu;obtain⟨q1,q2,q3⟩:=HX (ó N hs ds ms f1) (È aR 0 ds) u;have un:(Ě u).1=u.no:=by cases u<;>rfl
  have s2':=aq.upd ü (HO.tup [V.ref tx,.ref ty]);have ex:=s2' _ _ (sm9 _ _ (λe=>by rw[N4.mp e,eC]at etx;cases etx) etx);have ey:=s2' _ _ (sm9 _ _ (λe=>by rw[N4.mp e,eC]at ety;cases ety) ety);have eCd:=s2' _ _ eCc;refine{tp,_,rfl,É.of av,rfl,_,_,rfl,_,_,rfl,rfl,?_};generalize upd Hc tp _=Hd at s2' ex ey eCd⊢;rfl'
  refine ao λN1 J1=>Ŭ (j:=0) (É.of ex) rfl (Ŭ (j:=0) (É.of ey) rfl {rfl,_,rfl,a8 (λz=>absurd z (by rw[q1];simp)) λ_=>Ŭ (j:=1) (É.of ey) rfl (Ŭ (j:=1) (É.of ex) rfl {_,rfl,a8 (λz=>absurd (of_decide_eq_true z) ()) λ_=>Ŭ (j:=2) (É.of ey) rfl (Ŭ (j:=2) (É.of ex) rfl {_,rfl,a8 (λz=>absurd (of_decide_eq_true z) ()) λ_=>J1 _ _ ?_})})});clear J1 N1;have smd:Sm [C] H9 Hd:=sm9.trans (Sm.new s2');have lay3:∀{e:Int×Int×Int}{a:Q1},Hd a=Xb (.tup [.int e.1,.int e.2.1,.int e.2.2])->lO K Hd (.ref a) (wD e):=λh=>.tup (É.of h) (.cons (.int _) (.cons (.int _) (.cons (.int _) .nil)));rfl'
  refine{wD (Ě u),wD (Ě (Á (ó N hs ds ms f1) (È aR 0 ds) u)),lay3 ex,lay3 ey,rfl,rfl,_,rfl,a8 (λz=>?_) (λz=>{chg,_,_,rfl,smd,eCd,told,()})};have ne:Ě (Á (ó N hs ds ms f1) (È aR 0 ds) u)≠Ě u:=λy=>by rw[Kl,decide_eq_true y.symm]at z;cases z
  refine{N6 {rfl,_,À.of eCd},Ŭ (j:=0) (É.of ex) rfl {_,_,_,rfl,rfl,eCd,aH (by rw[N3];lia),{chg++[(Ě u).1],_,_,rfl,smd.trans (Sm.at (N4.mpr rfl) _),by rw[av,OB];rfl,λx hx=>?_,by rw[N7,OC];lia}}};rcases Og.mp hx with hx|hx
  ·exact told x hx
  rw[N4.mp hx,un];exact tl ne
 rintro B Hc ⟨chg,v9,v10,rfl,sm9,eCc,told,cl⟩;refine K1 _ _ ?_;clear K1 M1;have s9c:aq H8 Hc:=sm9.same s9 λm hm=>by rw[N4.mp hm];exact hC
 have s3c:=Ş.trans s9c;have s5c:=Ϫ.trans s9c;have unv:∀{v:V}{ds ms:List Pt}{fl:Int}{Ha Hb:Hp}{Q2:VK}{E2:XK},jx A N Ha v hs ds ms->aq Ha Hb->ŗ N 4 hs ds ms->(∀(R:Q1)(Ī:List Int)(H':Hp),aq Hb H'->Hb R=Xc->H' R=Xb (.lst (Ī.map V.int))->Ī.Perm (Ŝ N hs ds ms fl)->Ī.Pairwise (· <= ·)->Q2 (.ref R) H')->qR A 4 [v,.int fl] Hb Q2 E2:=λpg s G k=>{N,_,_,_,hs,_,_,rfl,s,pg,G.e.u,k};rfl'
 refine ao λM1 K1=>unv pg (s3.trans s3c) G λRu tn Ś ě hRu eRu pu ru=>?_;have tln:tn.length<64:=by
  have h1:=pu.length_eq;have h2:(Ŝ N hs ds ms f1).length<=(bj N ds ms).length:=by
   unfold Ŝ jv;rw[N3,Ql];exact OM _ _
  have h3:=G.ab;lia
 have tnd:tn.Nodup:=pu.nodup_iff.mpr (Mp G.ok f1);have eC10:=ě _ _ eCc;refine K1 _ _ ?_;clear K1 M1;rfl'
 refine ao λM1 K1=>{_,_,_,true,rfl,(λz=>nomatch z),.lst eRu,rfl,{_,rfl,aT (N6 {{_,À.of eC10},dO (K:=K) (own:=1) chg (λ_=>true) (λ_ y _=>y=.bl true) (À.of eC10) (by rw[N3]) (aH (by rw[N3];lia)) ?_ (λ_ _ _ _ _ h=>h) (λ_ _ _ _ _ _ _ h=>h) ?_})}}
 ·intro b i x e v0 H3' Nn Y hx he hv s3' no yes;obtain⟨u0,rfl⟩:∃u0,v0=[u0]:=by
   match v0,hv with
   | [u],_=>exact⟨u,rfl⟩
  rw[Oi,he]at hx;cases hx;have inn:e∈tn:=pu.mem_iff.mpr (told e (Oe he));refine N6 {_,N6 (À.of (s3' _ _ eRu)),rfl,Gj tn,?_};rw[KR inn];exact yes rfl [Xb (.int e)] _ _ rfl (aq.refl _) rfl
 intro L11 Φ zs11 hL11 ş eL11 pz;rw[dq]at pz;refine{L11,_,rfl,by rw[<-FX pz];exact À.of eL11,?_};rw[BH];refine{_,rfl,aT ?_};have s4m:=s5.trans (s5c.trans (ě.trans ş));refine unv pm s4m Gm λRe en ω ϭ hRe eRe pe re=>?_;rw[IY (fl:=f1) G.e.u.t λp hp=>(G.db p hp).2.2.1]at pe;rw[List.perm_nil.mp pe]at eRe;refine{Oj _,λE0 hE0=>?_};obtain⟨μ,eE0⟩:=Ò hE0 (HO.lst []);generalize upd ω E0 _=H13 at μ eE0⊢;refine{_,_,.lst (À.of (μ _ _ eRe)) (iu []),.lst (À.of eE0) (iu []),fh [],fh [],?_};rw[qf []];refine{_,rfl,aT (K1 _ _ ?_)};clear K1 M1;have u13:=ş.trans (ϭ.trans μ);have c13:=ě.trans u13;rfl'
 refine ao λM1 K1=>unv pg (s3.trans (s3c.trans c13)) G λR14 tn2 H14 ņ hR14 eR14 p14 r14=>?_;rw[xP (p14.trans pu.symm) r14 ru]at eR14;refine{_,_,.lst (À.of eR14) (iu tn),.lst (À.of ((u13.trans ņ) _ _ eRu)) (iu tn),fh _,fh _,?_};rw[qf];refine{_,rfl,aT ?_};have k14:=c13.trans ņ;refine evn pg (s3.trans (s3c.trans k14)) G λm2 H15 s15 pm2=>wts pm2 (aq.refl _) Gm λR16 y16 H16 Ϭ n16 e16 p16=>?_;have k16:=k14.trans (s15.trans Ϭ);refine{_,_,.lst (À.of e16) (lr p16),.lst (À.of ((s5c.trans k16) _ _ eRa)) (lr (sm (s5c.trans k16) pa)),fR _,fR _,?_};rw[tm];refine{_,rfl,aT (K1 _ _ ?_)};clear K1 M1;have u16:=u13.trans (ņ.trans (s15.trans Ϭ));have k5':∀p∈ds,fE (b7 p):=λp hp=>(G.db p hp).2.2.1;rfl'
 refine ao λM1 K1=>{Ru,tn,rfl,À.of (u16 _ _ eRu),tln,λLs tn3 p3 r3' hLs=>?_};rw[xP p3 r3' ru];obtain⟨θ,e17⟩:=Ò hLs (HO.lst (tn.map V.int));generalize upd H16 Ls _=H17 at θ e17⊢;have u17:=u16.trans θ;refine{_,_,.lst (À.of (u17 _ _ eRu)) (iu tn),.lst (À.of e17) (iu tn),fh _,fh _,?_};rw[qf];refine{_,rfl,aT {Ru,tn,rfl,À.of (u17 _ _ eRu),tnd,Pe tln,lnl (u17 _ _ eRu) ?_}};rw[N3];refine{rfl,_,rfl,a8 (λz=>absurd z (by simp)) λ_=>?_};have k17:=k16.trans θ;refine evn pm (s5.trans (s5c.trans k17)) Gm λm3 H18 s18 pm3=>wts pm3 (aq.refl _) (Gm.ev _ _) λR19 y19 H19 s19 n19 e19 p19=>?_;rw[E6,zA G.dk k5',Ed,ite_self]at p19;have k19:=k17.trans (s18.trans s19);refine{_,_,.lst (À.of e19) (lr p19),.lst (À.of ((s5c.trans k19) _ _ eRa)) (lr (sm (s5c.trans k19) pa)),fR _,fR _,?_};rw[tm];refine{_,rfl,aT (K1 _ _ ?_)};clear K1 M1;rfl'
 refine evn pm (s5.trans (s5c.trans k19)) Gm λm4 H20 s20 pm4=>wts pm4 (aq.refl _) (Gm.ev _ _) λR21 y21 H21 s21 n21 e21 p21=>?_;rw[E6,zA G.dk k5',Ed]at p21;refine{f1,cellAt ns 2/3%3,rfl,?_};have k21:=k19.trans (s20.trans s21);refine evn pg (s3.trans (s3c.trans k21)) G λm5 H22 s22 pm5=>wts pm5 (aq.refl _) (G.ev _ _) λR23 y23 H23 η n23 e23 p23=>N6 (N6 {_,_,.lst (À.of ((s22.trans η) _ _ e21)) (lr (sm (s22.trans η) p21)),.lst (À.of e23) (lr p23),fR _,fR _,?_});rw[tm];exact q _
end
inductive FnI(K:Q6)(f:Q1)(x y:Str)(s:Rl):Prop
 |mk(oc:Q0)(od:Option Q1)(kV dc pm:Q0)(an:Option Q1)(cd ct:Q0)(sl:Array (Option Q0))(l:K.lookup f=Xb {oc,od,.func (R5 x y (bT s) (bC s) (au s) .none kV dc pm an cd ct),sl})(c:TC K cd y=true)(k:Sh K (.ref f)=true):FnI K f x y s
abbrev bO(K:Q6)(x:Str)(s:Rl):Prop:=∃f,WI K Rm x=Xb (Xb (.ref f))/\FnI K f x x s
abbrev jJ(K:Q6)(C:Q1)(m q:Str)(s:Rl):Prop:=∃f,RY K (.ref C) m=Xb (Xb (.ref f))/\W7 K (.ref f)=true/\FnI K f m q s
abbrev oG(K:Q6)(C:Q1)(x:Str)(up:List Q1):Prop:=WI K Rm x=Xb (Xb (.ref C))/\(∃cd,W.clsIn K C=Xb cd/\cd.mro=up.map Rn++[Sd "object"])/\Uz K C RE=true/\UT K C=true/\We K C=true/\RY K (.ref C) "__setattr__"=Xb (Xb (.builtin "object.__setattr__"))/\W.typeIn K (.ref C)=Xb (.type "type")/\RY K (.ref C) "__class__"=Xb (Xb (.builtin "object.__class__"))/\V0 K C=true/\Sh K (.ref C)=true
abbrev Ř(K:Q6)(x:Str):Prop:=WI K Rm x=Xb Xc
abbrev å(K:Q6)(C:Q1)(x:Str):Prop:=RY K (.ref C) x=Xb Xc
section
variable{K:Q6}{mg:Str->Option Q0}{h:Rp}{x m q:Str}{s:Rl}{ps:List Str}{C:Q1}{up:List Q1}
theorem bS(X:K.In h)(G:h.Ns Rm mg)(t:bO K x s)(b:∀(kV doc pm:Q0)(an:Option Q1)(Ä ct:Q0)(us:List Q0),us.length=ps.length->bindArgs (R5 x x (bT s) (bC s) (au s) .none kV doc pm an Ä ct) {us,[]}=pure (ps.zip us)):aY K mg x s ps:=by
 obtain⟨f,a,_,_,_,_,_,_,_,_,_,l,c,k⟩:=t;exact Eu X G a l c k b
theorem kH(t:jJ K C m q s)(b:∀(kV doc pm:Q0)(an:Option Q1)(Ä ct:Q0)(us:List Q0),us.length=ps.length->bindArgs (R5 m q (bT s) (bC s) (au s) .none kV doc pm an Ä ct) {us,[]}=pure (ps.zip us)):Đ K C m q s ps:=by
 obtain⟨f,a,i,_,_,_,_,_,_,_,_,_,l,c,k⟩:=t;exact J9 a i l c k b
theorem pG(X:K.In h)(G:h.Ns Rm mg)(cg:S8 K (.builtin "object.__class__") "__get__"=Xb (Xb (.builtin "getset_descriptor.__get__")))(ct:V1 K (.builtin "object.__class__")=Xb true)(t:oG K C x up):gc K mg C x up:=by
 obtain⟨a,b,c,d,e,f,g,i,j,k⟩:=t;exact{U4 X G a,⟨c,d,e,f⟩,b,g,i,cg,ct,j,k}
end
theorem ar0{p:List Q0->Prop}(h:p []):∀us:List Q0,us.length=0->p us:=λus e=>by
 cases us with
 |nil=>exact h
 |cons b t=>cases e
theorem ģ{p:List Q0->Prop}{n:Nat}(h:∀a,∀us:List Q0,us.length=n->p (a::us)):∀us:List Q0,us.length=n+1->p us:=λus e=>by
 cases us with
 |nil=>cases e
 |cons b t=>exact h b t (Nat.succ.inj e)
abbrev wu(K:Q6)(x:Str)(s:Rl)(d:V):Prop:=∃(f T:Q1)(v oc:Q0)(od:Option Q1)(kV dc pm:Q0)(an:Option Q1)(cd ct:Q0)(sl tl:Array (Option Q0))(n:Nat),WI K Rm x=Xb (Xb (.ref f))/\K.lookup f=Xb {oc,od,.func (R5 x x (bT s) (bC s) (au s) (.ref T) kV dc pm an cd ct),sl}/\TC K cd x=true/\Sh K (.ref f)=true/\K.lookup T=Xb {.type "tuple",Xc,.seq #[v] n,tl}/\Xh d v
theorem IZ{K:Q6}{mg:Str->Option Q0}{h:Rp}{x a b:Str}{s:Rl}{d:V}(X:K.In h)(G:h.Ns Rm mg)(t:wu K x s d)
  (b1:∀(T:Q1)(v kV dc pm:Q0)(an:Option Q1)(cd ct u u':Q0),∃k,bindArgs (R5 x x (bT s) (bC s) (au s) (.ref T) kV dc pm an cd ct) {[u,u'],[]}=U5 (.ref T)>>=k/\k (Xb #[v])=pure [(a,u),(b,u')])
  (b2:∀(T:Q1)(v kV dc pm:Q0)(an:Option Q1)(cd ct u:Q0),∃k,bindArgs (R5 x x (bT s) (bC s) (au s) (.ref T) kV dc pm an cd ct) {[u],[]}=U5 (.ref T)>>=k/\k (Xb #[v])=pure [(a,u),(b,v)]):pD K mg x s [a,b] [d]:=by
 obtain⟨f,T,v,oc,od,kV,dc,pm,an,cd,ct,sl,tl,n,q,l,c,k,lt,r⟩:=t
 refine{f,oc,od,.ref T,kV,dc,pm,an,cd,ct,sl,[v],l,c,k,U4 X G q,.cons r .nil,λs' us hi hl=>?_,λs' us hi hl=>?_}
 ·rcases us with _|⟨u,_|⟨u',_|⟨_,_⟩⟩⟩
  ·cases hl
  ·cases hl
  ·obtain⟨g,e1,e2⟩:=b1 T v kV dc pm an cd ct u u';exact Sj rfl (hi T _ lt) rfl e1 e2
  simp at hl
 rcases us with _|⟨u,_|⟨_,_⟩⟩
 ·cases hl
 ·obtain⟨g,e1,e2⟩:=b2 T v kV dc pm an cd ct u;exact Sj rfl (hi T _ lt) rfl e1 e2
 simp at hl
abbrev FnE(x:Str)(s:Rl)(T:Q1)(kV dc pm:Q0)(an:Option Q1)(cd ct:Q0):Sq:=R5 x x (bT s) (bC s) (au s) (.ref T) kV dc pm an cd ct
theorem Jg{K:Q6}{mg:Str->Option Q0}{h:Rp}{x:Str}{ps:List Str}{s:Rl}{d:V}(X:K.In h)(G:h.Ns Rm mg)(t:wu K x s d)
  (b1:∀(T:Q1)(v kV dc pm:Q0)(an:Option Q1)(cd ct:Q0)(us:List Q0),us.length=ps.length->∃k,bindArgs (FnE x s T kV dc pm an cd ct) {us,[]}=U5 (.ref T)>>=k/\k (Xb #[v])=pure (ps.zip us))
  (b2:∀(T:Q1)(v kV dc pm:Q0)(an:Option Q1)(cd ct:Q0)(us:List Q0),us.length=ps.length-1->∃k,bindArgs (FnE x s T kV dc pm an cd ct) {us,[]}=U5 (.ref T)>>=k/\k (Xb #[v])=pure (ps.zip (us++[v])))
  (b3:∀(T:Q1)(v kV dc pm:Q0)(an:Option Q1)(cd ct u:Q0)(us:List Q0),us.length=ps.length-1->∃k,bindArgs (FnE x s T kV dc pm an cd ct) {us,[(ps.getLastD RE,u)]}=U5 (.ref T)>>=k/\k (Xb #[v])=pure (ps.zip (us++[u]))):pI K mg x s ps [d]:=by
 obtain⟨f,T,v,oc,od,kV,dc,pm,an,cd,ct,sl,tl,n,q,l,c,k,lt,r⟩:=t
 refine{f,oc,od,.ref T,kV,dc,pm,an,cd,ct,sl,[v],l,c,k,U4 X G q,.cons r .nil,λs' us hi hl=>?_,λs' us hi hl=>?_,{λs' us ws hi hl=>?_,λa b=>a.append (b.take 1)}}
 ·rw[OF]at hl⊢;obtain⟨g,e1,e2⟩:=b1 T v kV dc pm an cd ct us hl;exact Sj rfl (hi T _ lt) rfl e1 e2
 ·rw[N7,OC]at hl;obtain⟨g,e1,e2⟩:=b2 T v kV dc pm an cd ct us ();exact Sj rfl (hi T _ lt) rfl e1 e2
 cases ws with
 |nil=>
  have hl:(us++[]).length=ps.length:=hl
  rw[OF]at hl
  show UA _ _ {us,[]} (ps.zip (us++[]))
  rw[OF]
  obtain⟨g,e1,e2⟩:=b1 T v kV dc pm an cd ct us hl
  exact Sj rfl (hi T _ lt) rfl e1 e2
 |cons u r=>
  have hl:(us++[u]).length=ps.length:=hl
  rw[N7,OC]at hl
  obtain⟨g,e1,e2⟩:=b3 T v kV dc pm an cd ct u us ()
  exact Sj rfl (hi T _ lt) rfl e1 e2
theorem ù{p:List Q0->Prop}(h:∀a0,p [a0]):∀us:List Q0,us.length=1->p us:=ģ λa0=>ar0 (h a0)
theorem þ{p:List Q0->Prop}(h:∀a0 a1,p [a0,a1]):∀us:List Q0,us.length=2->p us:=ģ λa0=>ģ λa1=>ar0 (h a0 a1)
theorem Ϣ{p:List Q0->Prop}(h:∀a0 a1 a2,p [a0,a1,a2]):∀us:List Q0,us.length=3->p us:=ģ λa0=>ģ λa1=>ģ λa2=>ar0 (h a0 a1 a2)
theorem ύ{p:List Q0->Prop}(h:∀a0 a1 a2 a3,p [a0,a1,a2,a3]):∀us:List Q0,us.length=4->p us:=ģ λa0=>ģ λa1=>ģ λa2=>ģ λa3=>ar0 (h a0 a1 a2 a3)
theorem ar5{p:List Q0->Prop}(h:∀a0 a1 a2 a3 a4,p [a0,a1,a2,a3,a4]):∀us:List Q0,us.length=5->p us:=ģ λa0=>ģ λa1=>ģ λa2=>ģ λa3=>ģ λa4=>ar0 (h a0 a1 a2 a3 a4)
theorem ar7{p:List Q0->Prop}(h:∀a0 a1 a2 a3 a4 a5 a6,p [a0,a1,a2,a3,a4,a5,a6]):∀us:List Q0,us.length=7->p us:=ģ λa0=>ģ λa1=>ģ λa2=>ģ λa3=>ģ λa4=>ģ λa5=>ģ λa6=>ar0 (h a0 a1 a2 a3 a4 a5 a6)
theorem all_mk{l:VU}{w:Rh}{K:Q6}{h:Rp}{mg:Str->Option Q0}{fa:Q1}(A:Ï)(X:K.In h)(G:h.Ns Rm mg)(hfa:mg "law"=Xb (.ref fa))
 (t1:bO K "only" Am) (t2:bO K "joined" ue) (t3:bO K "top" EG) (t4:bO K "fits" AZ)
 (t5:bO K "names_in" pS) (t6:bO K "each_once" nH) (t7:bO K "most_of" rJ) (t8:bO K "most_of_row" j6)
 (t9:bO K "exact_of" pN) (t10:bO K "exact_of_row" jh) (t11:bO K "one_more" oZ) (t12:bO K "exact_of_if" jX)
 (t13:bO K "exact_of_loop" gU) (t14:bO K "balanced" pK) (t15:bO K "mosts" xE) (t16:bO K "exacts" tP)
 (t17:bO K "row_place" mV) (t18:bO K "laid_rows" nO) (t19:bO K "laid_inside" jI) (t20:bO K "laid_program" iM)
 (t21:bO K "is_place" pB) (t22:bO K "head_places" jO) (t23:bO K "places" uV) (t24:bO K "drawn" xY)
 (t25:bO K "row_links" mH) (t26:bO K "said_links" lF) (t27:bO K "called_links" i6) (t28:bO K "step_links" lW)
 (t29:wu K "links" xI (.bl false)) (t30:bO K "sources" qK) (t31:bO K "sources_of" lG) (t32:bO K "ways_of" qV)
 (t33:bO K "arrivals" pA) (t34:wu K "table" xW (.bl false)) (t35:bO K "rows_above" lP) (t36:wu K "uneven" tQ (.int 0))
 (t37:wu K "evened" vb (.int 0)) (t38:bO K "head_copy" mX) (t39:bO K "deed_copy" nN) (t40:bO K "rows_evened" jQ)
 (t41:bO K "row_evened" lh) (t42:bO K "plain_copy" lH) (t43:bO K "if_evened" nM) (t44:bO K "loop_evened" j7)
 (t45:bO K "_law_cell_at" jU) (t46:bO K "_law_mix" qY) (t47:bO K "_law_name" pv) (t48:bO K "_law_number" lV)
 (t49:bO K "_law_thing" mL) (t50:bO K "_law_value" nA) (t51:bO K "_law_kind" pJ) (t52:bO K "_law_plain" nC)
 (t53:bO K "_law_cost" pE) (t54:bO K "_law_two" qW) (t55:bO K "_law_idles" ny) (t56:bO K "_law_block" nE)
 (t57:bO K "_law_nodes" mE) (t58:bO K "_law_made" pH) (t59:bO K "_law_heads" nJ) (t60:bO K "_law_drawn" mD)
 (t61:bO K "_law_program" kq) (t62:bO K "_law_blocks" lE) (t63:bO K "_law_all_blocks" gu) (t64:bO K "_law_ways" o8)
 (t65:bO K "_law_long" pq) (t66:bO K "_law_known" nc) (t67:bO K "_law_waits" nj) (t68:bO K "_law_mosts" nK)
 (t69:bO K "law" uK) (Bs:Ř K "all") (ng:Ř K "dict") (az:Ř K "isinstance")
 (kO:Ř K "len") (fO:Ř K "list") (oT:Ř K "max") (BI:Ř K "min")
 (ir:Ř K "range") (zM:Ř K "set") (kN:Ř K "sorted") (yy:Ř K "str")
 (CN:Ř K "sum") (yq:Ř K "zip") (g_CLOCK:∃k:Tok,WI K Rm "CLOCK"=Xb (Xb (.str "the clock" k))) (cg:S8 K (.builtin "object.__class__") "__get__"=Xb (Xb (.builtin "getset_descriptor.__get__")))
 (ct:V1 K (.builtin "object.__class__")=Xb true) (x_Row:oG K A.Row "Row" [A.Row]) (x_HandRow:oG K A.cW "HandRow" [A.cW,A.Row]) (x_GivenRow:oG K A.bX "GivenRow" [A.bX,A.Row])
 (x_OwnRow:oG K A.eT "OwnRow" [A.eT,A.Row]) (x_LetRow:oG K A.eU "LetRow" [A.eU,A.Row]) (x_SetRow:oG K A.cZ "SetRow" [A.cZ,A.Row]) (x_PutRow:oG K A.cO "PutRow" [A.cO,A.Row])
 (x_SendRow:oG K A.cx "SendRow" [A.cx,A.Row]) (x_SayRow:oG K A.cY "SayRow" [A.cY,A.Row]) (x_CallRow:oG K A.cB "CallRow" [A.cB,A.Row]) (x_LastRow:oG K A.dG "LastRow" [A.dG,A.Row])
 (x_IfRow:oG K A.dE "IfRow" [A.dE,A.Row]) (x_LoopRow:oG K A.bG "LoopRow" [A.bG,A.Row]) (x_DeedRow:oG K A.cu "DeedRow" [A.cu,A.Row]) (x_Program:oG K A.Program "Program" [A.Program])
 (m1:jJ K A.Row "__init__" "Row.__init__" gh) (m2:jJ K A.cW "__init__" "HandRow.__init__" iP) (m3:jJ K A.bX "__init__" "GivenRow.__init__" gY) (m4:jJ K A.eT "__init__" "OwnRow.__init__" jV)
 (m5:jJ K A.eU "__init__" "LetRow.__init__" j8) (m6:jJ K A.cZ "__init__" "SetRow.__init__" kh) (m7:jJ K A.cZ "reads" "SetRow.reads" iT) (m8:jJ K A.cO "__init__" "PutRow.__init__" ky)
 (m9:jJ K A.cO "reads" "PutRow.reads" i8) (m10:jJ K A.cx "__init__" "SendRow.__init__" i4) (m11:jJ K A.cx "reads" "SendRow.reads" hZ) (m12:jJ K A.cY "__init__" "SayRow.__init__" j4)
 (m13:jJ K A.cB "__init__" "CallRow.__init__" je) (m14:jJ K A.dG "__init__" "Row.__init__" gh) (m15:jJ K A.dE "__init__" "IfRow.__init__" k7) (m16:jJ K A.dE "reads" "IfRow.reads" kj)
 (m17:jJ K A.bG "__init__" "LoopRow.__init__" jo) (m18:jJ K A.bG "reads" "LoopRow.reads" hG) (m19:jJ K A.cu "__init__" "DeedRow.__init__" jr) (m20:jJ K A.Program "__init__" "Program.__init__" iS)
 (n1:å K A.cW "name") (n2:å K A.cW "rank") (n3:å K A.cW "number") (n4:å K A.bX "name")
 (n5:å K A.bX "rank") (n6:å K A.bX "size") (n7:å K A.bX "number") (n8:å K A.eT "name")
 (n9:å K A.eT "size") (n10:å K A.eT "number") (n11:å K A.eU "name") (n12:å K A.eU "rank")
 (n13:å K A.eU "number") (n14:å K A.cZ "name") (n15:å K A.cZ "value") (n16:å K A.cZ "number")
 (n17:å K A.cO "name") (n18:å K A.cO "place") (n19:å K A.cO "value") (n20:å K A.cO "number")
 (n21:å K A.cx "name") (n22:å K A.cx "value") (n23:å K A.cx "number") (n24:å K A.cY "name")
 (n25:å K A.cY "value") (n26:å K A.cY "mark") (n27:å K A.cY "number") (n28:å K A.cB "name")
 (n29:å K A.cB "things") (n30:å K A.cB "number") (n31:å K A.dG "number") (n32:å K A.dE "value")
 (n33:å K A.dE "first") (n34:å K A.dE "other") (n35:å K A.dE "left") (n36:å K A.dE "right")
 (n37:å K A.dE "number") (n38:å K A.bG "thing") (n39:å K A.bG "most") (n40:å K A.bG "body")
 (n41:å K A.bG "left") (n42:å K A.bG "right") (n43:å K A.bG "number") (n44:å K A.cu "name")
 (n45:å K A.cu "parts") (n46:å K A.cu "body") (n47:å K A.cu "number") (n48:å K A.Program "heads")
 (n49:å K A.Program "deeds") (n50:å K A.Program "main") (y_Row_init:S8 K (.ref A.Row) "__getattribute__"=Xb (Xb (.builtin "type.__getattribute__"))/\W.readsIn K A.Row (.type "type")=true/\∃f,RY K (.ref A.Row) "__init__"=Xb (Xb (.ref f))/\W.findCls K (.ref A.Row) (.type "type") "__init__"=Xb (.val (.ref f))) (nod:[A.Row,A.cW,A.bX,A.eT,A.eU,A.cZ,A.cO,A.cx,A.cY,A.cB,A.dG,A.dE,A.bG,A.cu,A.Program].Nodup)
:∃fd:Sq,(∀(s:Q3)(v:Q0),UA s fd {[v],[]} [("_law_script",v)])/\∀base:Rp,K.In base->base.Ns Rm mg->j2 l.prog w K mg base Ľ 28 fa fd ["_law_script"] (wV K):=by
 have T:Txt K mg A:={
  only:=bS X G t1 λ_ _ _ _ _ _=>ù λ_=>rfl,joined:=bS X G t2 λ_ _ _ _ _ _=>þ λ_ _=>rfl,top:=bS X G t3 λ_ _ _ _ _ _=>ù λ_=>rfl,
  fits:=bS X G t4 λ_ _ _ _ _ _=>þ λ_ _=>rfl,uq:=bS X G t5 λ_ _ _ _ _ _=>ù λ_=>rfl,qL:=bS X G t6 λ_ _ _ _ _ _=>ù λ_=>rfl,
  oz:=bS X G t7 λ_ _ _ _ _ _=>þ λ_ _=>rfl,jA:=bS X G t8 λ_ _ _ _ _ _=>þ λ_ _=>rfl,fB:=bS X G t9 λ_ _ _ _ _ _=>þ λ_ _=>rfl,
  fT:=bS X G t10 λ_ _ _ _ _ _=>þ λ_ _=>rfl,uy:=bS X G t11 λ_ _ _ _ _ _=>ù λ_=>rfl,jG:=bS X G t12 λ_ _ _ _ _ _=>þ λ_ _=>rfl,
  gJ:=bS X G t13 λ_ _ _ _ _ _=>þ λ_ _=>rfl,balanced:=bS X G t14 λ_ _ _ _ _ _=>þ λ_ _=>rfl,fF:=bS X G t15 λ_ _ _ _ _ _=>ù λ_=>rfl,
  AA:=bS X G t16 λ_ _ _ _ _ _=>ù λ_=>rfl,q0:=bS X G t17 λ_ _ _ _ _ _=>ù λ_=>rfl,iC:=bS X G t18 λ_ _ _ _ _ _=>Ϣ λ_ _ _=>rfl,
  jz:=bS X G t19 λ_ _ _ _ _ _=>þ λ_ _=>rfl,lA:=bS X G t20 λ_ _ _ _ _ _=>ù λ_=>rfl,tw:=bS X G t21 λ_ _ _ _ _ _=>ù λ_=>rfl,
  mT:=bS X G t22 λ_ _ _ _ _ _=>ù λ_=>rfl,places:=bS X G t23 λ_ _ _ _ _ _=>ù λ_=>rfl,drawn:=bS X G t24 λ_ _ _ _ _ _=>ύ λ_ _ _ _=>rfl,
  rh:=bS X G t25 λ_ _ _ _ _ _=>ύ λ_ _ _ _=>rfl,pV:=bS X G t26 λ_ _ _ _ _ _=>þ λ_ _=>rfl,lR:=bS X G t27 λ_ _ _ _ _ _=>Ϣ λ_ _ _=>rfl,
  pL:=bS X G t28 λ_ _ _ _ _ _=>þ λ_ _=>rfl,links:=IZ X G t29 (λ_ _ _ _ _ _ _ _ _ _=>{_,rfl,rfl}) (λ_ _ _ _ _ _ _ _ _=>{_,rfl,rfl}),sources:=bS X G t30 λ_ _ _ _ _ _=>ù λ_=>rfl,
  pF:=bS X G t31 λ_ _ _ _ _ _=>þ λ_ _=>rfl,xj:=bS X G t32 λ_ _ _ _ _ _=>þ λ_ _=>rfl,u7:=bS X G t33 λ_ _ _ _ _ _=>þ λ_ _=>rfl,
  table:=IZ X G t34 (λ_ _ _ _ _ _ _ _ _ _=>{_,rfl,rfl}) (λ_ _ _ _ _ _ _ _ _=>{_,rfl,rfl}),pP:=bS X G t35 λ_ _ _ _ _ _=>þ λ_ _=>rfl,AI:=Jg X G t36 (λ_ _ _ _ _ _ _ _=>þ λ_ _=>{_,rfl,rfl}) (λ_ _ _ _ _ _ _ _=>ù λ_=>{_,rfl,rfl}) (λ_ _ _ _ _ _ _ _ _=>ù λ_=>{_,rfl,rfl}),
  Bg:=Jg X G t37 (λ_ _ _ _ _ _ _ _=>þ λ_ _=>{_,rfl,rfl}) (λ_ _ _ _ _ _ _ _=>ù λ_=>{_,rfl,rfl}) (λ_ _ _ _ _ _ _ _ _=>ù λ_=>{_,rfl,rfl}),rF:=bS X G t38 λ_ _ _ _ _ _=>ù λ_=>rfl,rR:=bS X G t39 λ_ _ _ _ _ _=>Ϣ λ_ _ _=>rfl,
  d7:=bS X G t40 λ_ _ _ _ _ _=>Ϣ λ_ _ _=>rfl,lL:=bS X G t41 λ_ _ _ _ _ _=>Ϣ λ_ _ _=>rfl,pX:=bS X G t42 λ_ _ _ _ _ _=>ù λ_=>rfl,
  oa:=bS X G t43 λ_ _ _ _ _ _=>Ϣ λ_ _ _=>rfl,jF:=bS X G t44 λ_ _ _ _ _ _=>Ϣ λ_ _ _=>rfl,nv:=bS X G t45 λ_ _ _ _ _ _=>þ λ_ _=>rfl,
  xg:=bS X G t46 λ_ _ _ _ _ _=>þ λ_ _=>rfl,vc:=bS X G t47 λ_ _ _ _ _ _=>þ λ_ _=>rfl,pW:=bS X G t48 λ_ _ _ _ _ _=>ù λ_=>rfl,
  qT:=bS X G t49 λ_ _ _ _ _ _=>þ λ_ _=>rfl,qU:=bS X G t50 λ_ _ _ _ _ _=>Ϣ λ_ _ _=>rfl,uz:=bS X G t51 λ_ _ _ _ _ _=>ύ λ_ _ _ _=>rfl,
  rn:=bS X G t52 λ_ _ _ _ _ _=>Ϣ λ_ _ _=>rfl,qA:=bS X G t53 λ_ _ _ _ _ _=>þ λ_ _=>rfl,xH:=bS X G t54 λ_ _ _ _ _ _=>ar5 λ_ _ _ _ _=>rfl,
  qM:=bS X G t55 λ_ _ _ _ _ _=>ύ λ_ _ _ _=>rfl,kK:=bS X G t56 λ_ _ _ _ _ _=>ar5 λ_ _ _ _ _=>rfl,rG:=bS X G t57 λ_ _ _ _ _ _=>Ϣ λ_ _ _=>rfl,
  qj:=bS X G t58 λ_ _ _ _ _ _=>ù λ_=>rfl,rb:=bS X G t59 λ_ _ _ _ _ _=>þ λ_ _=>rfl,rA:=bS X G t60 λ_ _ _ _ _ _=>ù λ_=>rfl,
  mO:=bS X G t61 λ_ _ _ _ _ _=>þ λ_ _=>rfl,gx:=bS X G t62 λ_ _ _ _ _ _=>ù λ_=>rfl,iG:=bS X G t63 λ_ _ _ _ _ _=>ù λ_=>rfl,
  qh:=bS X G t64 λ_ _ _ _ _ _=>þ λ_ _=>rfl,kS:=bS X G t65 λ_ _ _ _ _ _=>þ λ_ _=>rfl,qJ:=bS X G t66 λ_ _ _ _ _ _=>ù λ_=>rfl,
  qO:=bS X G t67 λ_ _ _ _ _ _=>ù λ_=>rfl,rB:=bS X G t68 λ_ _ _ _ _ _=>ù λ_=>rfl,Bs:=RM X G Bs,
  ng:=RM X G ng,az:=RM X G az,kO:=RM X G kO,
  fO:=RM X G fO,oT:=RM X G oT,BI:=RM X G BI,
  ir:=RM X G ir,zM:=RM X G zM,kN:=RM X G kN,
  yy:=RM X G yy,CN:=RM X G CN,yq:=RM X G yq,
  sY:=g_CLOCK.imp λ_ e=>U4 X G e,kE:=pG X G cg ct x_Row,uO:=kH m1 λ_ _ _ _ _ _=>þ λ_ _=>rfl,
  dJ:=pG X G cg ct x_HandRow,iR:=kH m2 λ_ _ _ _ _ _=>ύ λ_ _ _ _=>rfl,iI:=n1,
  i5:=n2,fm:=n3,bI:=pG X G cg ct x_GivenRow,
  hV:=kH m3 λ_ _ _ _ _ _=>ar5 λ_ _ _ _ _=>rfl,eJ:=n4,fJ:=n5,
  gS:=n6,fb:=n7,dI:=pG X G cg ct x_OwnRow,
  jM:=kH m4 λ_ _ _ _ _ _=>ύ λ_ _ _ _=>rfl,gH:=n8,jN:=n9,
  fI:=n10,dj:=pG X G cg ct x_LetRow,jT:=kH m5 λ_ _ _ _ _ _=>ύ λ_ _ _ _=>rfl,
  fA:=n11,gG:=n12,fM:=n13,
  du:=pG X G cg ct x_SetRow,ka:=kH m6 λ_ _ _ _ _ _=>ύ λ_ _ _ _=>rfl,jt:=kH m7 λ_ _ _ _ _ _=>ù λ_=>rfl,
  gF:=n14,fU:=n15,fG:=n16,
  cL:=pG X G cg ct x_PutRow,jY:=kH m8 λ_ _ _ _ _ _=>ar5 λ_ _ _ _ _=>rfl,ja:=kH m9 λ_ _ _ _ _ _=>ù λ_=>rfl,
  gA:=n17,fW:=n18,fX:=n19,
  fL:=n20,cy:=pG X G cg ct x_SendRow,jk:=kH m10 λ_ _ _ _ _ _=>ύ λ_ _ _ _=>rfl,
  hJ:=kH m11 λ_ _ _ _ _ _=>ù λ_=>rfl,iY:=n21,fK:=n22,
  fq:=n23,bQ:=pG X G cg ct x_SayRow,jW:=kH m12 λ_ _ _ _ _ _=>ar5 λ_ _ _ _ _=>rfl,
  fw:=n24,iK:=n25,gD:=n26,
  cb:=n27,bD:=pG X G cg ct x_CallRow,jm:=kH m13 λ_ _ _ _ _ _=>ύ λ_ _ _ _=>rfl,
  cE:=n28,fk:=n29,cR:=n30,
  fo:=pG X G cg ct x_LastRow,iH:=kH m14 λ_ _ _ _ _ _=>þ λ_ _=>rfl,dQ:=n31,
  aQ:=pG X G cg ct x_IfRow,lg:=kH m15 λ_ _ _ _ _ _=>ar7 λ_ _ _ _ _ _ _=>rfl,jZ:=kH m16 λ_ _ _ _ _ _=>ù λ_=>rfl,
  gz:=n32,cz:=n33,cA:=n34,
  dg:=n35,dC:=n36,dP:=n37,
  aI:=pG X G cg ct x_LoopRow,js:=kH m17 λ_ _ _ _ _ _=>ar7 λ_ _ _ _ _ _ _=>rfl,gZ:=kH m18 λ_ _ _ _ _ _=>ù λ_=>rfl,
  fH:=n38,dX:=n39,b5:=n40,
  cV:=n41,cf:=n42,cQ:=n43,
  bh:=pG X G cg ct x_DeedRow,iQ:=kH m19 λ_ _ _ _ _ _=>ar5 λ_ _ _ _ _=>rfl,bR:=n44,
  eG:=n45,cD:=n46,ft:=n47,
  bF:=pG X G cg ct x_Program,iF:=kH m20 λ_ _ _ _ _ _=>ύ λ_ _ _ _=>rfl,eI:=n48,
  bw:=n49,dU:=n50,bY:=⟨y_Row_init.1,y_Row_init.2.1,y_Row_init.2.2⟩,
  nd:=nod }
 have F:aY K mg "law" uK ["_law_script"]:=bS X G t69 λ_ _ _ _ _ _=>ù λ_=>rfl;obtain⟨f,a,oc,od,kV,dc,pm,an,cd,ct,sl,lk,_,_⟩:=t69;refine{R5 "law" "law" (bT uK) (bC uK) (au uK) .none kV dc pm an cd ct,λs v=>.of_eq rfl,λbase _ _=>?_};have e:=hfa.symm.trans (U4 X G a);cases e;exact J8 (Mn (P:=l.prog) (w:=w) (base:=base) T F) (U4 X G a) lk
theorem walk{l:VU}{q:Program}{loose:List Str}{XP:(Str->Option Q0)->Rp->Prop}{YP:Rh->Rp->Prop}{d:DefRec}{K:SI->Q6}(hn:l.most=Xb 63)(hdf:d.params.defaults=[])(hY:∀(w:Rh)(h:Rp),YP w h->(K w.params).In h)
  (F:∀(w:Rh)(mg:Str->Option Q0)(fa:Q1)(h:Rp),(K w.params).In h->h.Ns Rm mg->mg d.name=Xb (.ref fa)->∃fd:Sq,(∀(s:Q3)(u:Q0),UA s fd {[u],[]} [("_law_script",u)])/\∀base:Rp,(K w.params).In base->base.Ns Rm mg->j2 l.prog w (K w.params) mg base Ľ 28 fa fd ["_law_script"] (wV (K w.params))) :
  W.WalkO q loose XP YP l.row.toRowW d [] (λf vs=>WD f vs):=
 L2.GZ (n:=63) (k:=28) (x:="_law_script") (CX:=λ_=>Ľ) (sp:=λw=>wV (K w.params)) hn ∅ hdf {rfl,∅,∅} hY F (λ_ _ a ns hl _ hS=>{a,ns,rfl,hS,hl,λ_=>rfl}) λ_ _ _ _ _ z=>z
end K52
open PySem PySem.W PyProof.Rows
set_option maxRecDepth 100000 in
set_option maxHeartbeats 0 in
theorem PySem.Challenge.cw_hushrow_k52_evened_again_holds : PySem.Challenge.rw_hushrow_k52_evened_again.Holds := by
 w_on;o_law
 refine W.holds_open (q:=K52.gX) (loose:=["links","table","uneven","evened"]) (Xt:=K52.test) (XP:=W.XL K52.gX []) (Yf:=(VB K52.ý K52.rZ K52.kF).obs) (Ya:=(VB K52.ý K52.rZ K52.kF).val) (YP:=(VB K52.ý K52.rZ K52.kF).says) (N:=13448) K52.left (VB K52.ý K52.rZ K52.kF).of (VB K52.ý K52.rZ K52.kF).keeps
  (λs e=>W.xl_of s (Ph.mp e).1) W.XL.keeps (by rfl) (by rfl) (by rfl) (λs e=>W.recFacts_of (Ph.mp e).2) ?h4 ?h5 ?h6 {rfl,rfl,rfl,rfl,rfl,by decide+kernel} ?hw ?hc
 (case h4=>rfl);(case h5=>first|assumption|decide+kernel);(case h6=>decide+kernel);(case hw=>w_witness2)
 k_fill
 refine K52.walk (l:=PySem.Challenge.rw_hushrow_k52_evened_again) rfl rfl (λw h Y=>W.kIn_of Y) ?F;case F=>
  intro w mg fa h KX G hmg;refine K52.all_mk ⟨94,122,148,174,200,240,280,313,353,384,403,436,469,495,514⟩ KX G hmg ?_ ?_ ?_ ?_ ?_ ?_ ?_ ?_ ?_ ?_ ?_ ?_ ?_ ?_ ?_ ?_ ?_ ?_ ?_ ?_ ?_ ?_ ?_ ?_ ?_ ?_ ?_ ?_ ?_ ?_ ?_ ?_ ?_ ?_ ?_ ?_ ?_ ?_ ?_ ?_ ?_ ?_ ?_ ?_ ?_ ?_ ?_ ?_ ?_ ?_ ?_ ?_ ?_ ?_ ?_ ?_ ?_ ?_ ?_ ?_ ?_ ?_ ?_ ?_ ?_ ?_ ?_ ?_ ?_ ?_ ?_ ?_ ?_ ?_ ?_ ?_ ?_ ?_ ?_ ?_ ?_ ?_ ?_ ?_ ?_ ?_ ?_ ?_ ?_ ?_ ?_ ?_ ?_ ?_ ?_ ?_ ?_ ?_ ?_ ?_ ?_ ?_ ?_ ?_ ?_ ?_ ?_ ?_ ?_ ?_ ?_ ?_ ?_ ?_ ?_ ?_ ?_ ?_ ?_ ?_ ?_ ?_ ?_ ?_ ?_ ?_ ?_ ?_ ?_ ?_ ?_ ?_ ?_ ?_ ?_ ?_ ?_ ?_ ?_ ?_ ?_ ?_ ?_ ?_ ?_ ?_ ?_ ?_ ?_ ?_ ?_ ?_ ?_ ?_ ?_ ?_ ?_ ?_ ?_ ?_ ?_ ?_ ?_ ?_ ?_ ?_ ?_ ?_ ?_ ?_ ?_ ?_;iterate 28 exact{_,by k_is,_,_,_,_,_,_,_,_,_,by k_is,by k_is,by k_is}
  iterate 1 exact{_,_,_,_,_,_,_,_,_,_,_,_,_,_,by k_is,by k_is,by k_is,by k_is,by k_is,by first|rfl|exact{_,rfl}}
  iterate 4 exact{_,by k_is,_,_,_,_,_,_,_,_,_,by k_is,by k_is,by k_is}
  iterate 1 exact{_,_,_,_,_,_,_,_,_,_,_,_,_,_,by k_is,by k_is,by k_is,by k_is,by k_is,by first|rfl|exact{_,rfl}}
  iterate 1 exact{_,by k_is,_,_,_,_,_,_,_,_,_,by k_is,by k_is,by k_is}
  iterate 2 exact{_,_,_,_,_,_,_,_,_,_,_,_,_,_,by k_is,by k_is,by k_is,by k_is,by k_is,by first|rfl|exact{_,rfl}}
  iterate 32 exact{_,by k_is,_,_,_,_,_,_,_,_,_,by k_is,by k_is,by k_is}
  iterate 13 (show _=_;k_is)
  iterate 1 exact{_,by k_is}
  iterate 2 (show _=_;k_is)
  iterate 15 exact{by k_is,{_,by k_is,rfl},by k_is,by k_is,by k_is,by k_is,by k_is,by k_is,by k_is,by k_is}
  iterate 20 exact{_,by k_is,by k_is,_,_,_,_,_,_,_,_,_,by k_is,by k_is,by k_is}
  iterate 50 (show _=_;k_is)
  iterate 1 exact{by k_is,by k_is,_,by k_is,by k_is}
  iterate 1 decide
